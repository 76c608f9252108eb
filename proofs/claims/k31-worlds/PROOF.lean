import PyProof.Rows.All
import Wide.All
import OpenK.AllK
import Wide.FinOn
import Lean
import PyProof.EqAt
import PyProof.EqKinds
import PyProof.TupleCall
import PySem.Challenge.RW_treeright_k31_worlds_made
noncomputable section
def zJ6:=@List.length_map
def zJ7:=@List.getElem?_eq_getElem
def zJ8:=@List.getElem?_eq_some_iff
def zJ9:=@List.mem_singleton
def zKA:=@List.mem_of_getElem?
def zKB:=@List.getD_eq_getElem?_getD
def zKC:=@List.getElem?_map
def zKD:=@Option.some.inj
def zKE:=@List.size_toArray
def zKF:=@Nat.le_refl
def zKG:=@Nat.zero_le
def zKH:=@Nat.le_trans
def zKI:=@List.map_append
def zKJ:=@List.mem_cons_of_mem
def zKK:=@List.mem_append_right
def zKL:=@decide_eq_true
def zKM:=@decide_eq_false
def zKN:=@List.mem_append
def zKO:=@List.length_append
def zKP:=@List.length_take
def zKR:=@List.length_cons
def zKS:=@Nat.lt_of_lt_of_le
def zKT:=@List.getElem?_append_right
def zKU:=@List.getElem?_append_left
def zKV:=@List.take_of_length_le
def zKX:=@Nat.ne_of_lt
def zKY:=@Bool.false_ne_true
def zKZ:=@List.mem_cons_self
def zK0:=@List.not_mem_nil
def zK1:=@List.append_assoc
def zK3:=@List.getElem?_set_self
def zK4:=@List.length_filter_le
def zK5:=@Array.getD_eq_getD_getElem?
def zK6:=@List.take_length
set_option Elab.async false
set_option linter.all false
set_option maxRecDepth 100000
namespace L2
open PySem PySem.Spec PyProof.Rows
abbrev VSP:=Value->Shared->Prop
abbrev LAO:=List (Addr × Obj)
abbrev LSS:=List (Str × Str)
abbrev Key:=Sum Int Str
def oN:Key->Value->Bool
 | .inl k,v=>Value.isInt k v
 | .inr x,v=>Value.isStrOf x v
def keyH (w:World):Key->Int
 | .inl k=>hashInt k
 | .inr x=>hashStr w x
theorem xG:∀ {k:Key} {v:Value},oN k v=true->(∃ i t,k=Sum.inl i/\v=Value.int i t) \/ (∃ x t,k=Sum.inr x/\v=Value.str x t)
 | .inl i,v,h=>by
  obtain ⟨t,e⟩:=Value.isInt_shape (k:=i) (v:=v) h
  exact .inl ⟨i,t,rfl,e⟩
 | .inr x,v,h=>by
  obtain ⟨t,e⟩:=Value.isStrOf_shape (x:=x) (v:=v) h
  exact .inr ⟨x,t,rfl,e⟩
theorem dM (i:Int) (t:Tok):oN (.inl i) (.int i t)=true:=by simp [oN,Value.isInt]
theorem dL (x:Str) (t:Tok):oN (.inr x) (.str x t)=true:=by simp [oN,Value.isStrOf]
theorem zGR (a b:Int):decide ((Sum.inl a:Key)=Sum.inl b)=(a == b):=by
 by_cases e:a=b
 ·subst e;simp
 ·have h:¬ (Sum.inl a:Key)=Sum.inl b:=fun q=>e (Sum.inl.inj q)
  rw [zKM h]
  exact (beq_eq_false_iff_ne.mpr e).symm
theorem zGO (a b:Str):decide ((Sum.inr a:Key)=Sum.inr b)=decide (a=b):=by
 by_cases e:a=b
 ·subst e;simp
 ·have h:¬ (Sum.inr a:Key)=Sum.inr b:=fun q=>e (Sum.inr.inj q)
  rw [zKM h,zKM e]
theorem zGQ (a:Int) (b:Str):decide ((Sum.inl a:Key)=Sum.inr b)=false:=zKM (fun q=>nomatch q)
theorem zGP (a:Str) (b:Int):decide ((Sum.inr a:Key)=Sum.inl b)=false:=zKM (fun q=>nomatch q)
def xF (prog:Program) (w:World):PySem.KeyKind prog w Key where
 is:=oN
 hash:=keyH w
 inj:=fun v a b ha hb=>by
  rcases xG ha with ⟨i,t,rfl,rfl⟩ | ⟨x,t,rfl,rfl⟩
  ·rcases xG hb with ⟨j,u,rfl,e⟩ | ⟨y,u,rfl,e⟩
   ·injection e with e1 _;rw [e1]
   ·exact nomatch e
  ·rcases xG hb with ⟨j,u,rfl,e⟩ | ⟨y,u,rfl,e⟩
   ·exact nomatch e
   ·injection e with e1 _;rw [e1]
 byValue:=fun k v h=>by
  rcases xG h with ⟨i,t,rfl,rfl⟩ | ⟨x,t,rfl,rfl⟩ <;> rfl
 pyHash:=fun hv h=>by
  rcases xG hv with ⟨i,t,rfl,rfl⟩ | ⟨x,t,rfl,rfl⟩
  ·exact wpAny_pyHash_int h
  ·exact wpAny_pyHash_str h
 eqBool:=fun hu hv h=>by
  rcases xG hu with ⟨i,t,rfl,rfl⟩ | ⟨x,t,rfl,rfl⟩
  ·rcases xG hv with ⟨j,u,rfl,rfl⟩ | ⟨y,u,rfl,rfl⟩
   ·rw [zGR] at h;exact wpAny_eqBool_int h
   ·rw [zGQ] at h;exact SeqAt.EqAt.int_str i t y u _ _ _ _ h
  ·rcases xG hv with ⟨j,u,rfl,rfl⟩ | ⟨y,u,rfl,rfl⟩
   ·rw [zGP] at h;exact SeqAt.EqAt.str_int x t j u _ _ _ _ h
   ·rw [zGO] at h;exact wpAny_eqBool_str h
 «strs»:=fun k x t v h=>by
  rcases xG h with ⟨i,u,rfl,e⟩ | ⟨y,u,rfl,e⟩
  ·exact nomatch e
  ·injection e with e1 _
   subst e1
   cases v <;> rfl
theorem lY (prog:Program) (w:World) (i:Int) (t:Tok):(xF prog w).is (.inl i) (.int i t)=true:=dM i t
theorem lX (prog:Program) (w:World) (x:Str) (t:Tok):(xF prog w).is (.inr x) (.str x t)=true:=dL x t
inductive V where
 | non | bl (b:Bool) | int (i:Int) | str (x:Str) | byt (b:Array UInt8) | flt (b:UInt64) | ref (a:Addr) | ty (n:String)
 deriving DecidableEq
def z7:V->Value->Prop
 | .non,u=>u=Value.none
 | .bl b,u=>u=Value.bool b
 | .int i,u=>∃ t,u=Value.int i t
 | .str x,u=>∃ t,u=Value.str x t
 | .byt b,u=>∃ t,u=Value.bytes b t
 | .flt b,u=>∃ t,u=Value.float b t
 | .ref a,u=>u=Value.ref a
 | .ty n,u=>u=Value.type n
abbrev zY:List V->List Value->Prop:=Paired z7
theorem zY.length {xs:List V} {us:List Value} (r:zY xs us):xs.length=us.length:=Paired.length r
theorem zY.get:∀ {xs:List V} {us:List Value} {i:Nat} {x:V},zY xs us->xs[i]?=some x->∃ u,us[i]?=some u/\z7 x u
 | _,_,_,_,.nil,e=>by simp at e
 | _,_,0,_,.cons r _,e=>by simp at e;subst e;exact ⟨_,rfl,r⟩
 | _,_,i + 1,x,.cons _ t,e=>by
  obtain ⟨u,h1,h2⟩:=zY.get (i:=i) (x:=x) t (by simpa using e)
  exact ⟨u,by simpa using h1,h2⟩
theorem zY.set {x:V} {u:Value} (r:z7 x u):∀ {xs:List V} {us:List Value} (i:Nat),zY xs us->zY (xs.set i x) (us.set i u)
 | _,_,_,.nil=>.nil
 | _,_,0,.cons _ t=>.cons r t
 | _,_,i + 1,.cons q t=>.cons q (zY.set r i t)
theorem zY.append {xs ys:List V} {us ws:List Value} (h:zY xs us) (s:zY ys ws):zY (xs ++ ys) (us ++ ws):=by
 induction h with
 | nil=>exact s
 | cons r _ ih=>exact .cons r ih
theorem zY.take:∀ {xs:List V} {us:List Value} (n:Nat),zY xs us->zY (xs.take n) (us.take n)
 | _,_,0,_=>.nil
 | _,_,_ + 1,.nil=>.nil
 | _,_,n + 1,.cons r t=>.cons r (zY.take n t)
theorem zY.drop:∀ {xs:List V} {us:List Value} (n:Nat),zY xs us->zY (xs.drop n) (us.drop n)
 | _,_,0,r=>r
 | _,_,_ + 1,.nil=>.nil
 | _,_,n + 1,.cons _ t=>zY.drop n t
def tJ:Option V->Option Value->Prop
 | some v,some u=>z7 v u
 | none,none=>True
 | _,_=>False
def KV {κ:Type}:List (κ × V)->List (κ × Value)->Prop:=Paired fun (p:κ × V) (q:κ × Value)=>p.1=q.1/\z7 p.2 q.2
def kV:Key->V
 | .inl i=>.int i
 | .inr x=>.str x
inductive HO where
 | lst (xs:List V)
 | tup (xs:List V)
 | dK (kvs:List (Key × V)) | dT (kvs:List (List Key × V))
 | set (S:Int->Bool) (n:Nat)
 | ins (C dx:Addr) (fs:List (Str × V))
 | own (x:Addr)
 | xd (fs:List (Str × V))
 | met (f x:Addr)
 | rng (lo hi:Int)
 | frz (o:Obj) (u:HO)
 | tbl (ps:Array Value)
 | ext (φ:Heap->Prop)
abbrev Hp:=Addr->Option HO
def upd (H:Hp) (a:Addr) (o:HO):Hp:=fun b=>if b=a then some o else H b
theorem zB {H:Hp} {a:Addr} {o:HO}:upd H a o a=some o:=by unfold upd;rw [if_pos rfl]
theorem zJ {H:Hp} {a b:Addr} {o:HO} (h:b ≠ a):upd H a o b=H b:=by unfold upd;rw [if_neg h]
theorem tX {H:Hp} {a:Addr} {o u:HO}:upd (upd H a o) a u=upd H a u:=by
 funext b;unfold upd;split <;> rfl
theorem sR {H:Hp} {a b:Addr} {o u:HO} (h:H a=some o) (h':H b=some u) (d:o ≠ u):a ≠ b:=by
 intro e;subst e;rw [h] at h';exact d (zKD h')
theorem zG {H:Hp} {a b:Addr} {o:HO} (h:H a=some o) (h':H b=none):a ≠ b:=by
 intro e;subst e;rw [h] at h';cases h'
section
variable (P:Program) (w:World)
def yV (H:Hp) (h:Heap) (a:Addr):HO->Prop
 | .lst xs=>xs.length <= sizeLine/\∃ (its:List Value) (n:Nat),zY xs its/\h.get? a=some { cls:=.type "list",data:=.seq its.toArray n }
 | .tup xs=>xs.length <= sizeLine/\∃ its:List Value,zY xs its/\IsTup h a its.toArray
 | .dK kvs=>kvs.length <= sizeLine/\(a == sysModules)=false/\∃ vs,KV kvs vs/\h.DictOf (xF P w) a vs
 | .dT kvs=>kvs.length <= sizeLine/\(a == sysModules)=false/\∃ xs:List (List Key × Addr × Value),
   Paired (fun (p:List Key × V) (q:List Key × Addr × Value)=>p.1=q.1/\H q.2.1=some (.tup (p.1.map kV))/\z7 p.2 q.2.2) kvs xs /\
   ∃ o es ep,h.get? a=some o/\o.ExactDict/\o.data=.dict es ep/\es.toList=xs.map (entryOfKey (tupleKind (xF P w)))/\(xs.map (·.1)).Nodup
 | .set S n=>h.SetOf (intKind P w) a S n
 | .ins C dx fs=>H dx=some (.own a)/\fs.length <= 1000/\dx ≠ a/\h.get? a=some (W.instObj C dx) /\
   ∃ mA,h.Ns1 dx mA/\(∀ f,tJ (fs.lookup f) (mA f))/\PySem.Within mA (fs.map (·.1))
 | .own _=>∃ o,h.get? a=some o
 | .xd fs=>∃ mA,h.Ns1 a mA/\∀ f,tJ (fs.lookup f) (mA f)
 | .rng lo hi=>∃ t u v,h.get? a=some { cls:=.type "range",data:=.fields #[.int lo t,.int hi u,.int 1 v] }
 | .frz o u=>h.get? a=some o/\yV H h a u
 | .tbl ps=>h.get? a=some { cls:=.none,data:=.fields ps }
 | .met f x=>h.get? a=some (W.methodObj (.ref f) (.ref x))
 | .ext φ=>φ h/\(∃ o,h.get? a=some o)/\∀ h1 h2:Heap,φ h1->(∀ o,h1.get? a=some o->h2.get? a=some o)->φ h2
def HOk (H:Hp) (h:Heap):Prop:=∀ a o,H a=some o->yV P w H h a o
end
section
variable {P:Program} {w:World} {H H':Hp} {h h':Heap} {a:Addr} {o:HO}
theorem yV.lt (x:yV P w H h a o):a < h.objs.size:=by
 cases o with
 | lst xs=>obtain ⟨_,_,_,_,e⟩:=x;exact Heap.lt_size e
 | tup xs=>obtain ⟨_,_,_,p⟩:=x;exact p.lt
 | dK kvs=>obtain ⟨_,_,_,_,o,_,_,e,_⟩:=x;exact Heap.lt_size e
 | dT kvs=>obtain ⟨_,_,_,_,o,_,_,e,_⟩:=x;exact Heap.lt_size e
 | set S n=>obtain ⟨o,_,_,_,e,_⟩:=x;exact Heap.lt_size e
 | ins C dx fs=>obtain ⟨_,_,_,e,_⟩:=x;exact Heap.lt_size e
 | own y=>obtain ⟨_,e⟩:=x;exact Heap.lt_size e
 | xd fs=>obtain ⟨_,⟨_,_,_,e,_⟩,_⟩:=x;exact Heap.lt_size e
 | rng lo hi=>obtain ⟨_,_,_,e⟩:=x;exact Heap.lt_size e
 | frz ob u=>obtain ⟨e,_⟩:=x;exact Heap.lt_size e
 | tbl ps=>exact Heap.lt_size (show h.get? a=some _ from x)
 | met f y=>exact Heap.lt_size (show h.get? a=some _ from x)
 | ext φ=>obtain ⟨_,⟨_,e⟩,_⟩:=x;exact Heap.lt_size e
theorem Paired.mapP {α β:Type} {F G:α->β->Prop} {l₁:List α} {l₂:List β} (h:Paired F l₁ l₂) (f:∀ a b,F a b->G a b):Paired G l₁ l₂:=by
 induction h with
 | nil=>exact .nil
 | cons r _ ih=>exact .cons (f _ _ r) ih
theorem yV.stay (x:yV P w H h a o) (k:∀ b u,(b=a \/ H b=some (.own a))->h.get? b=some u->h'.get? b=some u)
  (ho:∀ b,H b=some (.own a)->H' b=some (.own a)) (ht:∀ b xs,H b=some (.tup xs)->H' b=some (.tup xs)):yV P w H' h' a o:=by
 induction o with
 | lst xs=>obtain ⟨z,its,n,r,e⟩:=x;exact ⟨z,its,n,r,k _ _ (.inl rfl) e⟩
 | tup xs=>obtain ⟨z,its,r,ob,e,c⟩:=x;exact ⟨z,its,r,ob,k _ _ (.inl rfl) e,c⟩
 | dK kvs=>obtain ⟨z,y,vs,r,ob,es,ep,e,c⟩:=x;exact ⟨z,y,vs,r,ob,es,ep,k _ _ (.inl rfl) e,c⟩
 | dT kvs=>
  obtain ⟨z,y,xs,r,ob,es,ep,e,c⟩:=x
  exact ⟨z,y,xs,Paired.mapP r fun p q z=>⟨z.1,ht _ _ z.2.1,z.2.2⟩,ob,es,ep,k _ _ (.inl rfl) e,c⟩
 | set S n=>obtain ⟨ob,es,ep,t,e,c⟩:=x;exact ⟨ob,es,ep,t,k _ _ (.inl rfl) e,c⟩
 | ins C dx fs=>
  obtain ⟨d,z,ne,e,mA,⟨od,es,ep,e2,c⟩,r⟩:=x
  exact ⟨ho _ d,z,ne,k _ _ (.inl rfl) e,mA,⟨od,es,ep,k _ _ (.inr d) e2,c⟩,r⟩
 | own y=>obtain ⟨ob,e⟩:=x;exact ⟨ob,k _ _ (.inl rfl) e⟩
 | xd fs=>obtain ⟨mA,⟨od,es,ep,e,c⟩,r⟩:=x;exact ⟨mA,⟨od,es,ep,k _ _ (.inl rfl) e,c⟩,r⟩
 | rng lo hi=>obtain ⟨t,u,v,e⟩:=x;exact ⟨t,u,v,k _ _ (.inl rfl) e⟩
 | frz ob u ih=>obtain ⟨e,q⟩:=x;exact ⟨k _ _ (.inl rfl) e,ih q⟩
 | tbl ps=>
  have e:h.get? a=some { cls:=.none,data:=.fields ps }:=x
  show h'.get? a=some { cls:=.none,data:=.fields ps }
  exact k a _ (.inl rfl) e
 | met f y=>
  have e:h.get? a=some (W.methodObj (.ref f) (.ref y)):=x
  show h'.get? a=some (W.methodObj (.ref f) (.ref y))
  exact k a _ (.inl rfl) e
 | ext φ=>obtain ⟨p,⟨o,e⟩,st⟩:=x;exact ⟨st _ _ p fun o q=>k _ _ (.inl rfl) q,⟨o,k _ _ (.inl rfl) e⟩,st⟩
theorem HOk.lt (x:HOk P w H h) (e:H a=some o):a < h.objs.size:=(x a o e).lt
theorem HOk.fresh (x:HOk P w H h) (e:h.objs.size <= a):H a=none:=by
 cases q:H a with
 | none=>rfl
 | some u=>exact absurd (zKS (x.lt q) e) (Nat.lt_irrefl _)
theorem HOk.kept (x:HOk P w H h) (k:∀ b u,h.get? b=some u->h'.get? b=some u):HOk P w H h':=fun a o e=>
 (x a o e).stay (fun b u _ q=>k b u q) (fun _ q=>q) fun _ _ q=>q
theorem HOk.laid (x:HOk P w H h) (k:∀ b u,h.get? b=some u->h'.get? b=some u) (hp:h.objs.size <= a) (new:yV P w (upd H a o) h' a o):HOk P w (upd H a o) h':=fun b u e=>by
 have hn:=x.fresh hp
 by_cases hb:b=a
 ·subst hb;rw [zB] at e;cases e;exact new
 ·rw [zJ hb] at e
  exact (x b u e).stay (fun c v _ q=>k c v q) (fun c q=>by rw [zJ (zG q hn)];exact q) fun c xs q=>by rw [zJ (zG q hn)];exact q
end
def Rd (H:Hp) (a:Addr) (u:HO):Prop:=H a=some u \/ ∃ o,H a=some (.frz o u)
theorem Rd.ok {P:Program} {w:World} {H:Hp} {h:Heap} {a:Addr} {u:HO} (r:Rd H a u) (x:HOk P w H h):yV P w H h a u:=by
 rcases r with r | ⟨o,r⟩
 ·exact x a u r
 ·obtain ⟨_,q⟩:=x a _ r
  exact q
def Mut:Option HO->Prop
 | some (.lst _)=>True
 | some (.dK _)=>True
 | some (.dT _)=>True
 | some (.set _ _)=>True
 | some (.ins _ _ _)=>True
 | some (.ext _)=>True
 | _=>False
section
variable {P:Program} {w:World} {H:Hp} {h h':Heap} {x e:Addr} {o':HO}
theorem HOk.write (ok:HOk P w H h) (mu:Mut (H x)) (he:e=x \/ H e=some (.own x)) (k:∀ b u,b ≠ e->h.get? b=some u->h'.get? b=some u) (heo:∃ u,h'.get? e=some u)
  (new:yV P w (upd H x o') h' x o'):HOk P w (upd H x o') h':=fun b u q=>by
 have nown:∀ c y,H c=some (.own y)->c ≠ x:=fun c y r z=>by subst z;rw [r] at mu;exact mu
 have ntup:∀ c xs,H c=some (.tup xs)->c ≠ x:=fun c xs r z=>by subst z;rw [r] at mu;exact mu
 by_cases hb:b=x
 ·subst hb;rw [zB] at q;cases q;exact new
 ·rw [zJ hb] at q
  by_cases hbe:b=e
  ·have q':H b=some (.own x):=by
    rcases he with z | z
    ·exact absurd (hbe.trans z) hb
    ·rw [hbe];exact z
   rw [q] at q';cases q'
   obtain ⟨v,hv⟩:=heo
   exact ⟨v,by rw [hbe];exact hv⟩
  ·refine (ok b u q).stay (fun c v hc r=>k c v ?_ r) (fun c r=>by rw [zJ (nown c b r)];exact r) fun c xs r=>by rw [zJ (ntup c xs r)];exact r
   rcases hc with rfl | hc
   ·exact hbe
   ·rintro rfl
    rcases he with z | z
    ·exact nown c b hc z
    ·rw [hc] at z;cases z;exact hb rfl
end
structure Un (fs ex:List Addr) (H H':Hp) (h h':Heap):Prop where
 keep:∀ b o,h.get? b=some o->H b=none->b ∉ fs->b ∉ ex->h'.get? b=some o
 slot:∀ b o,h.get? b=some o->H b=none->b ∈ fs->b ∉ ex->∃ sl,h'.get? b=some { o with slots:=sl }
 free:∀ b o,h.get? b=some o->H b=none->b ∉ ex->H' b=none
 there:∀ b o,h.get? b=some o->b ∉ ex->∃ o',h'.get? b=some o'
 tups:∀ b xs,H b=some (.tup xs)->H' b=some (.tup xs)
 frzs:∀ b o u,H b=some (.frz o u)->H' b=some (.frz o u)
 tbls:∀ b ps,H b=some (.tbl ps)->∃ more,H' b=some (.tbl (ps ++ more))
section
variable {fs fs' ex ex':List Addr} {H H1 H2:Hp} {h h1 h2 h':Heap} {a x e:Addr} {o:HO}
theorem Un.any (u:Un fs ex H H1 h h1) {b:Addr} {ob:Obj} (q:h.get? b=some ob) (n:H b=none) (hx:b ∉ ex):∃ sl,h1.get? b=some { ob with slots:=sl }:=by
 by_cases hb:b ∈ fs
 ·exact u.slot b ob q n hb hx
 ·exact ⟨ob.slots,u.keep b ob q n hb hx⟩
theorem Un.kept (k:∀ b u,h.get? b=some u->h'.get? b=some u):Un fs ex H H h h':=
 ⟨fun b ob q _ _ _=>k b ob q,fun b ob q _ _ _=>⟨ob.slots,k b ob q⟩,fun _ _ _ n _=>n,fun b ob q _=>⟨ob,k b ob q⟩,fun _ _ q=>q,fun _ _ _ q=>q,fun _ ps q=>⟨#[],by rw [q];simp⟩⟩
theorem Un.refl:Un fs ex H H h h:=Un.kept fun _ _ q=>q
theorem Un.laid (k:∀ b u,h.get? b=some u->h'.get? b=some u) (hp:h.objs.size <= a) (hn:H a=none):Un fs ex H (upd H a o) h h' where
 keep:=fun b u q _ _ _=>k b u q
 slot:=fun b u q _ _ _=>⟨u.slots,k b u q⟩
 free:=fun b u q n _=>by rw [zJ (zKX (zKS (Heap.lt_size q) hp))];exact n
 there:=fun b u q _=>⟨u,k b u q⟩
 tups:=fun b xs q=>by rw [zJ (zG q hn)];exact q
 frzs:=fun b u xs q=>by rw [zJ (zG q hn)];exact q
 tbls:=fun b ps q=>⟨#[],by rw [zJ (zG q hn),q];simp⟩
theorem Un.write (mu:Mut (H x)) (he:e=x \/ H e=some (.own x)) (k:∀ b u,b ≠ e->h.get? b=some u->h'.get? b=some u) (heo:∃ u,h'.get? e=some u):Un fs ex H (upd H x o) h h':=by
 have hx:∀ b,H b=none->b ≠ x:=fun b n z=>by subst z;rw [n] at mu;exact mu
 have hb:∀ b,H b=none->b ≠ e:=fun b n z=>by
  subst z
  rcases he with r | r
  ·exact hx b n r
  ·rw [n] at r;cases r
 have hm:∀ b u,H b=some u->¬ Mut (some u)->b ≠ x:=fun b u q nm z=>by subst z;rw [q] at mu;exact nm mu
 refine ⟨fun b u q n _ _=>k b u (hb b n) q,fun b u q n _ _=>⟨u.slots,k b u (hb b n) q⟩,fun b u q n _=>by rw [zJ (hx b n)];exact n,fun b u q _=>?_,
  fun b xs q=>by rw [zJ (hm b _ q fun z=>z)];exact q,fun b u xs q=>by rw [zJ (hm b _ q fun z=>z)];exact q,fun b ps q=>⟨#[],by rw [zJ (hm b _ q fun z=>z),q];simp⟩⟩
 by_cases hbe:b=e
 ·subst hbe;exact heo
 ·exact ⟨u,k b u hbe q⟩
end
def trk (h:Heap) (H:Hp):List Addr:=(List.range h.objs.size).filter fun a=>(H a).isSome
def mI (h:Heap) (H:Hp):Heap:=W.hideAll h (trk h H)
theorem dP (h:Heap) (H:Hp):(mI h H).objs.size=h.objs.size:=W.hideAll_size _ _
theorem zAR {h:Heap} {H:Hp} {b:Addr} {o:Obj} (e:h.get? b=some o) (n:H b=none):(mI h H).get? b=some o:=
 W.hideAll_get _ e fun hm=>by
  have q:(H b).isSome=true:=(List.mem_filter.mp hm).2
  rw [n] at q;simp at q
theorem zC1 {h:Heap} {H:Hp} {b:Addr} {o:Obj} (e:(mI h H).get? b=some o):h.get? b=some o/\H b=none:=by
 have e':h.get? b=some o:=W.of_hideAll (trk h H) e
 refine ⟨e',?_⟩
 cases q:H b with
 | none=>rfl
 | some x=>
  have hm:b ∈ trk h H:=List.mem_filter.mpr ⟨List.mem_range.mpr (Heap.lt_size e'),by simp [q]⟩
  have z:(mI h H).get? b=none:=W.hideAll_none (trk h H) hm
  rw [z] at e;cases e
structure Mod (K:W.Frag) (mg:Str->Option Value) (base:Heap):Prop where
 kin:K.In base
 glob:base.Ns mainGlobals mg
 blt:∃ mb,base.Ns builtinsNs mb/\∀ x:Str,x ≠ "__name__"->mb x=bootBuiltins x
 nolimit:base.NoLimit
structure Cx where
 prog:Program
 w:World
 K:W.Frag
 mg:Str->Option Value
 base:Heap
 A:Around
 N:List Str
 s₀:Shared
 H₀:Hp
 env:Env
 outer:List Env
 stack:List Env
 ex:List Addr
 fn:Str->Bool
 calm:Bool
 pn:LAO
 xe:VSP
def frs (l:List Env):List Addr:=l.filterMap (·.frame)
abbrev Cx.fs (X:Cx):List Addr:=frs X.outer
def Vis (sc:Scope) (x:Str):Prop:=sc.names.lookup x=some .local \/ sc.names.lookup x=some .cell \/ sc.names.lookup x=some .free
def Loc (sc:Scope) (x:Str):Prop:=sc.names.lookup x=some .local \/ sc.names.lookup x=some .cell
def Look (env:Env) (h:Heap) (m:Str->Option Value) (x:Str) (u:Value):Prop:=
 (env.kindOf x=some .local/\m x=some u) \/ ((env.kindOf x=some .cell \/ env.kindOf x=some .free)/\∃ c,env.cells.lookup x=some c/\h.IsCell c (some u))
structure Cx.Ok (X:Cx):Prop where
 mod:Mod X.K X.mg X.base
 kind:X.env.scope.kind=.function
 glob:X.env.globals=mainGlobals
 blt:X.env.builtins=builtinsNs
 above:X.s₀.heap.objs.size <= X.env.locals
 inj:∀ x y c,X.env.cells.lookup x=some c->X.env.cells.lookup y=some c->x=y
 has:∀ x,(X.env.kindOf x=some .cell \/ X.env.kindOf x=some .free)->∃ c,X.env.cells.lookup x=some c
 cab:∀ x c,X.fn x=true->X.env.cells.lookup x=some c->X.s₀.heap.objs.size <= c
 hd:X.calm=true->X.A.handled=none
 frames:X.A.frames=some X.stack
 stk:X.stack=X.outer \/ (X.stack=X.env :: X.outer/\X.env.frame=some X.env.locals)
 exf:∀ b ∈ X.ex,b ≠ X.env.locals/\∀ x c,X.env.cells.lookup x=some c->c ≠ b
 bs:∀ b o,X.base.get? b=some o->X.s₀.heap.get? b=some o/\X.H₀ b=none
 bsz:X.base.objs.size <= X.s₀.heap.objs.size
 noex:∀ b o,X.base.get? b=some o->b ∉ X.ex
 exfs:∀ b ∈ X.ex,b ∉ X.fs
 funs:X.s₀.heap.FunFrames X.base X.outer
 frf:∀ b ∈ X.fs,X.H₀ b=none
structure Inv (X:Cx) (zp:LAO) (σ:List (Option V)) (H:Hp) (s:Shared):Prop where
 ok:X.Ok
 os:s.os=X.s₀.os
 bare:AllBare s.gens
 base:Un X.fs X.ex X.H₀ H X.s₀.heap s.heap
 loc:∃ m,s.heap.Ns X.env.locals m/\∀ (i:Nat) (x:Str) (v:V),X.N[i]?=some x->σ[i]?=some (some v)->Vis X.env.scope x->∃ u,z7 v u/\Look X.env s.heap m x u
 cell:∀ x c,X.env.cells.lookup x=some c->∃ v,s.heap.IsCell c v
 free:H X.env.locals=none
 freeC:∀ x c,X.env.cells.lookup x=some c->H c=none
 pin:∀ p ∈ X.pn ++ zp,s.heap.get? p.1=some p.2/\H p.1=none/\p.1 ≠ X.env.locals/\p.1 ∉ X.fs/\∀ v,p.2.data ≠ .cell v
 hok:HOk X.prog X.w H s.heap
 len:σ.length=X.N.length
section
variable {X:Cx} {zp:LAO} {σ:List (Option V)} {H H':Hp} {s:Shared} {h':Heap}
theorem Cx.Ok.nofr (ok:X.Ok) {b:Addr} {o:Obj} (e:X.base.get? b=some o):b ∉ X.fs:=fun hb=>by
 have:=(ok.funs.mem hb).1
 rw [e] at this;cases this
theorem Inv.bs (I:Inv X zp σ H s):∀ b o,X.base.get? b=some o->s.heap.get? b=some o/\H b=none:=fun b o e=>
 ⟨I.base.keep b o (I.ok.bs b o e).1 (I.ok.bs b o e).2 (I.ok.nofr e) (I.ok.noex b o e),I.base.free b o (I.ok.bs b o e).1 (I.ok.bs b o e).2 (I.ok.noex b o e)⟩
theorem Inv.bk (I:Inv X zp σ H s):∀ b o,X.base.get? b=some o->s.heap.get? b=some o:=fun b o e=>(I.bs b o e).1
theorem Inv.mod (I:Inv X zp σ H s):Mod X.K X.mg X.base:=I.ok.mod
theorem Inv.kIn (I:Inv X zp σ H s):X.K.In s.heap:=I.ok.mod.kin.keeps I.bk
theorem Inv.lt (I:Inv X zp σ H s):X.env.locals < s.heap.objs.size:=let ⟨_,hn,_⟩:=I.loc;hn.lt
theorem Inv.sz (I:Inv X zp σ H s):X.s₀.heap.objs.size <= s.heap.objs.size:=zKH I.ok.above (Nat.le_of_lt I.lt)
theorem Inv.nofs (I:Inv X zp σ H s) {a:Addr} (h:s.heap.objs.size <= a):a ∉ X.fs:=fun hb=>by
 obtain ⟨_,o,ho,_⟩:=I.ok.funs.mem hb
 exact absurd (zKS (Heap.lt_size ho) (zKH I.sz h)) (Nat.lt_irrefl _)
theorem Inv.cne (I:Inv X zp σ H s):∀ x c,X.env.cells.lookup x=some c->c ≠ X.env.locals:=fun x c e z=>by
 obtain ⟨v,o,ho,hd⟩:=I.cell x c e
 obtain ⟨m,⟨o',es,ep,ho',hd',_⟩,_⟩:=I.loc
 rw [z,ho'] at ho;cases ho;rw [hd'] at hd;cases hd
theorem Inv.funs (I:Inv X zp σ H s):s.heap.FunFrames X.base X.outer:=by
 have all:∀ (l:List Env),(∀ b ∈ frs l,b ∈ X.fs)->X.s₀.heap.FunFrames X.base l->s.heap.FunFrames X.base l:=by
  intro l
  induction l with
  | nil=>intro _ _;trivial
  | cons env r ih=>
   intro hs hl
   obtain ⟨hk,⟨L,o,hf,hn,ho,hd⟩,hr⟩:=hl
   have hL:L ∈ X.fs:=hs L (by unfold frs;rw [List.filterMap_cons,hf];exact zKZ)
   obtain ⟨sl,e⟩:=I.base.slot L o ho (I.ok.frf L hL) hL fun z=>I.ok.exfs L z hL
   exact ⟨hk,⟨L,_,hf,hn,e,hd⟩,ih (fun b hb=>hs b (by unfold frs;rw [List.filterMap_cons,hf];exact zKJ _ hb)) hr⟩
 exact all X.outer (fun _ hb=>hb) I.ok.funs
theorem Inv.stack (I:Inv X zp σ H s):s.heap.FunFrames X.base X.stack:=by
 rcases I.ok.stk with e | ⟨e,hf⟩
 ·rw [e];exact I.funs
 ·rw [e]
  obtain ⟨m,hn,_⟩:=I.loc
  refine .cons (by rw [I.ok.kind];decide) hf hn ?_ I.funs
  exact Heap.get?_none_of_le (zKH I.ok.bsz I.ok.above)
theorem Inv.stkSub (I:Inv X zp σ H s):∀ b ∈ frs X.stack,b ∈ X.env.locals :: X.fs:=fun b hb=>by
 rcases I.ok.stk with e | ⟨e,hf⟩
 ·rw [e] at hb;exact zKJ _ hb
 ·rw [e] at hb
  unfold frs at hb
  rw [List.filterMap_cons,hf] at hb
  exact hb
theorem Inv.stkFree (I:Inv X zp σ H s):∀ b ∈ frs X.stack,H b=none:=fun b hb=>by
 rcases List.mem_cons.mp (I.stkSub b hb) with e | hb
 ·rw [e];exact I.free
 ·obtain ⟨_,o,ho,_⟩:=I.ok.funs.mem hb
  exact I.base.free b o ho (I.ok.frf b hb) fun z=>I.ok.exfs b z hb
theorem Inv.step {g':Array GenState} {t':Nat} {d':Drawn} {ch:List Addr} (I:Inv X zp σ H s)
  (hch:∀ b ∈ ch,(b ∈ X.ex \/ X.s₀.heap.objs.size <= b)/\b ≠ X.env.locals/\(∀ x c,X.env.cells.lookup x=some c->c ≠ b)/\∀ p ∈ X.pn ++ zp,p.1 ≠ b)
  (keep:∀ b o,b ≠ X.env.locals->b ∉ X.fs->b ∉ ch->s.heap.get? b=some o->H b=none->h'.get? b=some o)
  (slot:∀ b o,b ≠ X.env.locals->b ∈ X.fs->b ∉ ch->s.heap.get? b=some o->H b=none->∃ sl,h'.get? b=some { o with slots:=sl }) (free:∀ b o,b ∉ ch->s.heap.get? b=some o->H b=none->H' b=none)
  (there:∀ b o,b ∉ ch->s.heap.get? b=some o->∃ o',h'.get? b=some o')
  (tups:∀ b xs,H b=some (.tup xs)->H' b=some (.tup xs)) (frzs:∀ b o u,H b=some (.frz o u)->H' b=some (.frz o u)) (tbls:∀ b ps,H b=some (.tbl ps)->∃ more,H' b=some (.tbl (ps ++ more)))
  (ns:∀ m,s.heap.Ns X.env.locals m->h'.Ns X.env.locals m) (hok:HOk X.prog X.w H' h') (hg:AllBare g') :
  Inv X zp σ H' { s with heap:=h',gens:=g',drawn:=d',toks:=t' }:=by
 have neL:∀ b o,X.s₀.heap.get? b=some o->b ≠ X.env.locals:=fun b o e=>zKX (zKS (Heap.lt_size e) I.ok.above)
 have neC:∀ b o,X.s₀.heap.get? b=some o->b ∉ X.ex->b ∉ ch:=fun b o e hx hb=>by
  rcases (hch b hb).1 with z | z
  ·exact hx z
  ·exact absurd (zKS (Heap.lt_size e) z) (Nat.lt_irrefl _)
 have cellK:∀ x c,X.env.cells.lookup x=some c->∀ v,s.heap.IsCell c v->h'.IsCell c v:=fun x c e v ⟨o,ho,hd⟩=>by
  have nch:c ∉ ch:=fun z=>(hch c z).2.2.1 x c e rfl
  by_cases hc:c ∈ X.fs
  ·obtain ⟨sl,q⟩:=slot c o (I.cne x c e) hc nch ho (I.freeC x c e)
   exact ⟨_,q,hd⟩
  ·exact ⟨o,keep c o (I.cne x c e) hc nch ho (I.freeC x c e),hd⟩
 refine ⟨I.ok,I.os,hg,⟨fun b o e n hb hx=>?_,fun b o e n hb hx=>?_,fun b o e n hx=>?_,fun b o e hx=>?_,fun b xs e=>tups b xs (I.base.tups b xs e),fun b o xs e=>frzs b o xs (I.base.frzs b o xs e),fun b ps e=>?_⟩,?_,fun x c e=>?_,?_,fun x c e=>?_,fun p hp=>?_,hok,I.len⟩
 ·exact keep b o (neL b o e) hb (neC b o e hx) (I.base.keep b o e n hb hx) (I.base.free b o e n hx)
 ·obtain ⟨sl,e1⟩:=I.base.slot b o e n hb hx
  obtain ⟨sl',e2⟩:=slot b _ (neL b o e) hb (neC b o e hx) e1 (I.base.free b o e n hx)
  exact ⟨sl',e2⟩
 ·obtain ⟨o',e1⟩:=I.base.there b o e hx
  exact free b o' (neC b o e hx) e1 (I.base.free b o e n hx)
 ·obtain ⟨o',e1⟩:=I.base.there b o e hx
  exact there b o' (neC b o e hx) e1
 ·obtain ⟨m1,e1⟩:=I.base.tbls b ps e
  obtain ⟨m2,e2⟩:=tbls b _ e1
  exact ⟨m1 ++ m2,by rw [e2,Array.append_assoc]⟩
 ·obtain ⟨m,hn,hl⟩:=I.loc
  refine ⟨m,ns m hn,fun i x v e1 e2 e3=>?_⟩
  obtain ⟨u,r,l⟩:=hl i x v e1 e2 e3
  refine ⟨u,r,?_⟩
  rcases l with l | ⟨k,c,e,z⟩
  ·exact .inl l
  ·exact .inr ⟨k,c,e,cellK x c e _ z⟩
 ·obtain ⟨v,z⟩:=I.cell x c e
  exact ⟨v,cellK x c e v z⟩
 ·obtain ⟨m,⟨o,_,_,ho,_⟩,_⟩:=I.loc
  exact free _ o (fun z=>(hch _ z).2.1 rfl) ho I.free
 ·obtain ⟨v,o,ho,hd⟩:=I.cell x c e
  exact free c o (fun z=>(hch c z).2.2.1 x c e rfl) ho (I.freeC x c e)
 ·obtain ⟨e,n,ne,nf,d⟩:=I.pin p hp
  have nch:p.1 ∉ ch:=fun z=>(hch p.1 z).2.2.2 p hp rfl
  exact ⟨keep p.1 p.2 ne nf nch e n,free p.1 p.2 nch e n,ne,nf,d⟩
theorem Inv.un {t':Nat} (I:Inv X zp σ H s) (u:Un X.fs [] H H' s.heap h') (hok:HOk X.prog X.w H' h'):Inv X zp σ H' { s with heap:=h',toks:=t' }:=by
 obtain ⟨m,⟨o,es,ep,ho,r⟩,_⟩:=id I.loc
 obtain ⟨sl,hL⟩:=u.any ho I.free (by simp)
 exact I.step (g':=s.gens) (d':=s.drawn) (ch:=[]) (fun _ z=>nomatch z) (fun b o _ hb _ e n=>u.keep b o e n hb (by simp)) (fun b o _ hb _ e n=>u.slot b o e n hb (by simp)) (fun b o _ e n=>u.free b o e n (by simp)) (fun b o _ e=>u.there b o e (by simp)) u.tups u.frzs u.tbls (fun m' hm=>by
  obtain ⟨o',es',ep',ho',r'⟩:=hm
  rw [ho] at ho';cases ho'
  exact ⟨_,es',ep',hL,r'⟩) hok I.bare
theorem Inv.call {g':Array GenState} {t':Nat} {d':Drawn} {ch:List Addr} (I:Inv X zp σ H s) (u:Un (frs X.stack) ch H H' s.heap h') (hok:HOk X.prog X.w H' h') (hg:AllBare g')
  (hch:∀ b ∈ ch,(b ∈ X.ex \/ X.s₀.heap.objs.size <= b)/\b ≠ X.env.locals/\(∀ x c,X.env.cells.lookup x=some c->c ≠ b)/\∀ p ∈ X.pn ++ zp,p.1 ≠ b) :
  Inv X zp σ H' { s with heap:=h',gens:=g',drawn:=d',toks:=t' }:=by
 obtain ⟨m,⟨o,es,ep,ho,r⟩,_⟩:=id I.loc
 obtain ⟨sl,hL⟩:=u.any ho I.free fun z=>(hch _ z).2.1 rfl
 exact I.step (ch:=ch) hch (fun b o hL hb hc e n=>u.keep b o e n (fun z=>(List.mem_cons.mp (I.stkSub b z)).elim hL hb) hc) (fun b o _ _ hc e n=>u.any e n hc) (fun b o hc e n=>u.free b o e n hc) (fun b o hc e=>u.there b o e hc) u.tups u.frzs u.tbls (fun m' hm=>by
  obtain ⟨o',es',ep',ho',r'⟩:=hm
  rw [ho] at ho';cases ho'
  exact ⟨_,es',ep',hL,r'⟩) hok hg
theorem Inv.turned {t':Nat} {it:Addr} (I:Inv X zp σ H s) (k:∀ b o,b ≠ it->s.heap.get? b=some o->h'.get? b=some o) (hn:H it=none) (hL:it ≠ X.env.locals)
  (h1:it ∈ X.ex \/ X.s₀.heap.objs.size <= it) (h2:∀ x c,X.env.cells.lookup x=some c->c ≠ it) (h3:∀ p ∈ X.pn ++ zp,p.1 ≠ it):Inv X zp σ H { s with heap:=h',toks:=t' }:=by
 have nit:∀ b u,H b=some u->b ≠ it:=fun b u e z=>by rw [z,hn] at e;cases e
 refine I.step (g':=s.gens) (d':=s.drawn) (ch:=[it]) (fun b hb=>?_) (fun b o _ _ hc e _=>k b o (fun z=>hc (by simp [z])) e) (fun b o _ _ hc e _=>⟨o.slots,k b o (fun z=>hc (by simp [z])) e⟩) (fun _ _ _ _ n=>n)
  (fun b o hc e=>⟨o,k b o (fun z=>hc (by simp [z])) e⟩) (fun _ _ e=>e) (fun _ _ _ e=>e) (fun b ps e=>⟨#[],by rw [e];simp⟩) (fun m hm=>?_) (fun b u e=>?_) I.bare
 ·have e:b=it:=by simpa using hb
  subst e
  exact ⟨h1,hL,h2,h3⟩
 ·obtain ⟨o,es,ep,ho,r⟩:=hm
  exact ⟨o,es,ep,k _ o (Ne.symm hL) ho,r⟩
 ·refine (I.hok b u e).stay (fun c v hc q=>k c v ?_ q) (fun _ q=>q) fun _ _ q=>q
  rcases hc with z | z
  ·rw [z];exact nit b u e
  ·exact nit c _ z
theorem Inv.tok (I:Inv X zp σ H s) (t:Nat):Inv X zp σ H { s with toks:=t }:=I.un (h':=s.heap) (t':=t) Un.refl I.hok
theorem Inv.kept {t':Nat} (I:Inv X zp σ H s) (k:∀ b u,s.heap.get? b=some u->h'.get? b=some u):Inv X zp σ H { s with heap:=h',toks:=t' }:=I.un (Un.kept k) (I.hok.kept k)
theorem Inv.laid {a:Addr} {o:HO} {t':Nat} (I:Inv X zp σ H s) (k:∀ b u,s.heap.get? b=some u->h'.get? b=some u) (hp:s.heap.objs.size <= a) (new:yV X.prog X.w (upd H a o) h' a o) :
  Inv X zp σ (upd H a o) { s with heap:=h',toks:=t' }:=I.un (Un.laid k hp (I.hok.fresh hp)) (I.hok.laid k hp new)
theorem Inv.write {x e:Addr} {o:HO} {t':Nat} (I:Inv X zp σ H s) (mu:Mut (H x)) (he:e=x \/ H e=some (.own x)) (k:∀ b u,b ≠ e->s.heap.get? b=some u->h'.get? b=some u) (heo:∃ u,h'.get? e=some u)
  (new:yV X.prog X.w (upd H x o) h' x o):Inv X zp σ (upd H x o) { s with heap:=h',toks:=t' }:=I.un (Un.write mu he k heo) (I.hok.write mu he k heo new)
theorem Inv.pins_of {pins':LAO} (I:Inv X zp σ H s) (h:∀ p ∈ pins',s.heap.get? p.1=some p.2/\H p.1=none/\p.1 ≠ X.env.locals/\p.1 ∉ X.fs/\∀ v,p.2.data ≠ .cell v):Inv X pins' σ H s:=
 ⟨I.ok,I.os,I.bare,I.base,I.loc,I.cell,I.free,I.freeC,fun p hp=>(zKN.mp hp).elim (fun z=>I.pin p (List.mem_append_left _ z)) (h p),I.hok,I.len⟩
theorem lV {N:List Str} (hN:N.Nodup) {i j:Nat} {x:Str} (a:N[i]?=some x) (b:N[j]?=some x):i=j:=by
 obtain ⟨h1,e1⟩:=zJ8.mp a
 obtain ⟨h2,e2⟩:=zJ8.mp b
 exact (List.getElem_inj hN).mp (e1.trans e2.symm)
theorem oB {M:Model} {A:Around} {E:VSP} {i:Nat} {x:Str} {v:V} {u:Value} {Q:Unit->Shared->Prop} (I:Inv X zp σ H s) (hN:X.N.Nodup) (hi:X.N[i]?=some x) (hx:Loc X.env.scope x) (r:z7 v u)
  (h:∀ s',Inv X zp (σ.set i (some v)) H s'->(∃ a,Heap.SameBut a s.heap s'.heap/\(a=X.env.locals \/ X.env.cells.lookup x=some a))->Q () s') (hf:X.fn x=true \/ X.env.scope.names.lookup x=some .local:=by first | exact .inl rfl | exact .inr rfl | assumption):wpAny M A (storeName X.env x u) Q E s:=by
 obtain ⟨m,hn,hl⟩:=id I.loc
 have hcls:(X.env.scope.kind == .class || (X.env.scope.kind == .module && X.env.locals != X.env.globals))=false:=by rw [I.ok.kind];rfl
 have hiσ:i < σ.length:=by rw [I.len];exact (zJ8.mp hi).1
 have cne:=I.cne
 have tracked:∀ {a:Addr} {h':Heap},(∃ o,s.heap.get? a=some o/\H a=none)->Heap.SameBut a s.heap h'->HOk X.prog X.w H h':=fun {a h'} ha hs b ob e=>by
  obtain ⟨_,_,hfree⟩:=ha
  refine (I.hok b ob e).stay (fun c w' hc q=>(hs.2 c ?_).trans q) (fun _ q=>q) fun _ _ q=>q
  rintro rfl
  rcases hc with rfl | hc
  ·rw [hfree] at e;cases e
  ·rw [hfree] at hc;cases hc
 rcases hx with hk | hk
 ·refine wpAny_storeName_local hk hn (fun h' hn' hs=>?_) hcls
  obtain ⟨oL,_,_,hoL,_⟩:=id hn
  refine h _ ⟨I.ok,I.os,I.bare,⟨fun b o e n hb hx=>?_,fun b o e n hb hx=>?_,I.base.free,fun b o e hx=>?_,I.base.tups,I.base.frzs,I.base.tbls⟩,⟨_,hn',fun j y v' e1 e2 e3=>?_⟩,fun y c e=>?_,I.free,I.freeC,fun p hp=>?_,tracked ⟨oL,hoL,I.free⟩ hs,by simpa using I.len⟩ ⟨_,hs,.inl rfl⟩
  ·exact (hs.2 b (zKX (zKS (Heap.lt_size e) I.ok.above))).trans (I.base.keep b o e n hb hx)
  ·obtain ⟨sl,e1⟩:=I.base.slot b o e n hb hx
   exact ⟨sl,(hs.2 b (zKX (zKS (Heap.lt_size e) I.ok.above))).trans e1⟩
  ·obtain ⟨o',e1⟩:=I.base.there b o e hx
   exact ⟨o',(hs.2 b (zKX (zKS (Heap.lt_size e) I.ok.above))).trans e1⟩
  ·by_cases hj:j=i
   ·subst hj
    rw [hi] at e1;cases e1
    rw [zK3 hiσ] at e2
    cases e2
    exact ⟨u,r,.inl ⟨hk,by simp⟩⟩
   ·rw [List.getElem?_set_ne (Ne.symm hj)] at e2
    obtain ⟨u',r',q⟩:=hl j y v' e1 e2 e3
    refine ⟨u',r',?_⟩
    rcases q with ⟨k,e⟩ | ⟨k,c,e,z⟩
    ·refine .inl ⟨k,?_⟩
     have:y ≠ x:=fun e=>hj (lV hN e1 (e ▸ hi))
     simp [this,e]
    ·exact .inr ⟨k,c,e,z.sameBut hs (cne y c e)⟩
  ·obtain ⟨w',z⟩:=I.cell y c e
   exact ⟨w',z.sameBut hs (cne y c e)⟩
  ·obtain ⟨e,n,ne,nf,d⟩:=I.pin p hp
   exact ⟨(hs.2 p.1 ne).trans e,n,ne,nf,d⟩
 ·have hfn:X.fn x=true:=by
   rcases hf with z | z
   ·exact z
   ·rw [z] at hk;cases hk
  obtain ⟨c,hc⟩:=I.ok.has x (.inl hk)
  obtain ⟨w',z⟩:=I.cell x c hc
  refine wpAny_storeName_cell I.ok.kind hk hc z (fun h' hc' hs=>?_)
  obtain ⟨oc,hoc,hocd⟩:=id z
  refine h { s with heap:=h' } ⟨I.ok,I.os,I.bare,⟨fun b o e n hb hx=>?_,fun b o e n hb hx=>?_,I.base.free,fun b o e hx=>?_,I.base.tups,I.base.frzs,I.base.tbls⟩,⟨m,hn.sameBut hs (Ne.symm (cne x c hc)),fun j y v' e1 e2 e3=>?_⟩,fun y c' e=>?_,I.free,I.freeC,fun p hp=>?_,tracked ⟨oc,hoc,I.freeC x c hc⟩ hs,by simpa using I.len⟩ ⟨c,hs,.inr hc⟩
  ·exact (hs.2 b (zKX (zKS (Heap.lt_size e) (I.ok.cab x c hfn hc)))).trans (I.base.keep b o e n hb hx)
  ·obtain ⟨sl,e1⟩:=I.base.slot b o e n hb hx
   exact ⟨sl,(hs.2 b (zKX (zKS (Heap.lt_size e) (I.ok.cab x c hfn hc)))).trans e1⟩
  ·obtain ⟨o',e1⟩:=I.base.there b o e hx
   exact ⟨o',(hs.2 b (zKX (zKS (Heap.lt_size e) (I.ok.cab x c hfn hc)))).trans e1⟩
  ·by_cases hj:j=i
   ·subst hj
    rw [hi] at e1;cases e1
    rw [zK3 hiσ] at e2
    cases e2
    exact ⟨u,r,.inr ⟨.inl hk,c,hc,hc'⟩⟩
   ·rw [List.getElem?_set_ne (Ne.symm hj)] at e2
    obtain ⟨u',r',q⟩:=hl j y v' e1 e2 e3
    refine ⟨u',r',?_⟩
    rcases q with q | ⟨k,c',e,z'⟩
    ·exact .inl q
    ·refine .inr ⟨k,c',e,z'.sameBut hs ?_⟩
     rintro rfl
     exact hj (lV hN e1 (I.ok.inj _ _ _ e hc ▸ hi))
  ·by_cases hcc:c'=c
   ·subst hcc;exact ⟨_,hc'⟩
   ·obtain ⟨w2,z2⟩:=I.cell y c' e
    exact ⟨w2,z2.sameBut hs hcc⟩
  ·obtain ⟨e,n,ne,nf,d⟩:=I.pin p hp
   refine ⟨(hs.2 p.1 ?_).trans e,n,ne,nf,d⟩
   intro q
   rw [q,hoc] at e
   have q':oc=p.2:=zKD e
   exact d w' (by rw [<- q'];exact hocd)
theorem tZ {M:Model} {A:Around} {E:VSP} {i:Nat} {x:Str} {v:V} {u:Value} {Q:Unit->Shared->Prop} (I:Inv X zp σ H s) (hN:X.N.Nodup) (hi:X.N[i]?=some x) (hx:Loc X.env.scope x) (r:z7 v u)
  (h:∀ s',Inv X zp (σ.set i (some v)) H s'->Q () s') (hf:X.fn x=true \/ X.env.scope.names.lookup x=some .local:=by first | exact .inl rfl | exact .inr rfl | assumption):wpAny M A (storeName X.env x u) Q E s:=
 oB I hN hi hx r (fun s' I' _=>h s' I') hf
theorem Inv.call' {s':Shared} {ch:List Addr} (I:Inv X zp σ H s) (ho:s'.os=s.os) (u:Un (frs X.stack) ch H H' s.heap s'.heap) (hok:HOk X.prog X.w H' s'.heap) (hg:AllBare s'.gens)
  (hch:∀ b ∈ ch,(b ∈ X.ex \/ X.s₀.heap.objs.size <= b)/\b ≠ X.env.locals/\(∀ x c,X.env.cells.lookup x=some c->c ≠ b)/\∀ p ∈ X.pn ++ zp,p.1 ≠ b):Inv X zp σ H' s':=by
 obtain ⟨h',g',d',t',o'⟩:=s'
 have e:o'=s.os:=ho
 subst e
 exact I.call (g':=g') (t':=t') (d':=d') u hok hg hch
end
abbrev XK:=Value->Option Addr->Hp->Prop
abbrev St:=List (Option V)
abbrev VK:=V->Hp->Prop
abbrev TE:=St->Hp->VK->Prop
abbrev TT:=St->Hp->(Bool->Hp->Prop)->Prop
abbrev TA:=St->Hp->(List V->Hp->Prop)->Prop
structure hI where
 nx:St->Hp->Prop
 rt:VK
 bk:St->Hp->Prop:=fun _ _=>False
 ct:St->Hp->Prop:=fun _ _=>False
abbrev TS:=hI->St->Hp->Prop
def EP (X:Cx) (zp:LAO) (σ:St) (Q:VK) (u:Value) (s':Shared):Prop:=∃ v H',Inv X zp σ H' s'/\z7 v u/\Q v H'
def TP (X:Cx) (zp:LAO) (σ:St) (Q:Bool->Hp->Prop) (b:Bool) (s':Shared):Prop:=∃ H',Inv X zp σ H' s'/\Q b H'
def AP (X:Cx) (zp:LAO) (σ:St) (Q:List V->Hp->Prop) (us:List Value) (s':Shared):Prop:=∃ vs H',Inv X zp σ H' s'/\zY vs us/\Q vs H'
def SP (X:Cx) (zp:LAO) (D:hI) (f:Flow) (s':Shared):Prop:=
 match f with
 | .next=>∃ σ' H',Inv X zp σ' H' s'/\D.nx σ' H'
 | .brk=>∃ σ' H',Inv X zp σ' H' s'/\D.bk σ' H'
 | .cont=>∃ σ' H',Inv X zp σ' H' s'/\D.ct σ' H'
 | .ret u=>∃ v σ' H',Inv X zp σ' H' s'/\z7 v u/\D.rt v H'
def PE (X:Cx) (e:Expr) (t:TE):Prop:=
 ∀ (zp:LAO) (s:Shared) (σ:St) (H:Hp) (Q:VK),Inv X zp σ H s->t σ H Q->wpAny (model X.prog X.w) X.A (eval e X.env) (EP X zp σ Q) X.xe s
def PT (X:Cx) (e:Expr) (t:TT):Prop:=
 ∀ (zp:LAO) (s:Shared) (σ:St) (H:Hp) (Q:Bool->Hp->Prop),Inv X zp σ H s->t σ H Q->wpAny (model X.prog X.w) X.A (isTrue e X.env (eval e X.env)) (TP X zp σ Q) X.xe s
def PW (X:Cx) (e:Expr) (t:TT):Prop:=
 ∀ (whole:Sem Value) (zp:LAO) (s:Shared) (σ:St) (H:Hp) (Q:Bool->Hp->Prop),Inv X zp σ H s->t σ H Q->wpAny (model X.prog X.w) X.A (isTrue e X.env whole) (TP X zp σ Q) X.xe s
theorem PW.pt {X:Cx} {e:Expr} {t:TT} (h:PW X e t):PT X e t:=h _
def PA (X:Cx) (es:List Expr) (t:TA):Prop:=
 ∀ (pos:Pos) (zp:LAO) (s:Shared) (σ:St) (H:Hp) (Q:List V->Hp->Prop),Inv X zp σ H s->t σ H Q->wpAny (model X.prog X.w) X.A (spliced (backTo pos (starEach es X.env))) (AP X zp σ Q) X.xe s
def PS (X:Cx) (st:Stmt) (t:TS):Prop:=
 ∀ (zp:LAO) (s:Shared) (σ:St) (H:Hp) (D:hI),Inv X zp σ H s->t D σ H->wpAny (model X.prog X.w) X.A (exec st X.env) (SP X zp D) X.xe s
def PSs (X:Cx) (st:List Stmt) (t:TS):Prop:=
 ∀ (zp:LAO) (s:Shared) (σ:St) (H:Hp) (D:hI),Inv X zp σ H s->t D σ H->wpAny (model X.prog X.w) X.A (execs st X.env) (SP X zp D) X.xe s
theorem thn {α:Type} {t:Sem α} {Q Q':α->Shared->Prop} {M:Model} {A:Around} {E:VSP} {s:Shared} (h:wpAny M A t Q E s) (hQ:∀ a s,Q a s->Q' a s):wpAny M A t Q' E s:=wpAny_mono h hQ fun _ _ x=>x
section
variable {X:Cx}
def tY (i:Nat):TE:=fun σ H Q=>∃ v,σ[i]?=some (some v)/\Q v H
def tC (v:V):TE:=fun _ H Q=>Q v H
theorem zFU {i:Nat} {x:Str} {pos:Pos} (hN:X.N[i]?=some x) (hv:Vis X.env.scope x) (hd:(x == ("__debug__" : Str))=false:=by decide) (hcd:(x == ("__classdict__" : Str))=false:=by decide):PE X (.Name x pos) (tY i):=by
 intro zp s σ H Q I h
 obtain ⟨v,e,h⟩:=h
 obtain ⟨m,hn,hl⟩:=I.loc
 obtain ⟨u,r,l⟩:=hl i x v hN e hv
 have fin:EP X zp σ Q u s:=⟨v,H,I,r,h⟩
 rcases l with ⟨hk,hm⟩ | ⟨hk,c,hc,hcell⟩
 ·exact wpAny_Name (wpAny_loadName_local I.ok.kind hk hn hm fin) hd
 ·rcases hk with hk | hk
  ·exact wpAny_Name (wpAny_loadName_cell I.ok.kind hk hc hcell fin) hd
  ·exact wpAny_Name (wpAny_loadName_free I.ok.kind hk hc hcell fin hcd) hd
theorem zK {i j pos}:PE X (.Constant (.int i) j pos) (tC (.int i)):=fun _ _ _ H _ I h=>wpAny_Constant_int ⟨.int i,H,I.tok _,⟨_,rfl⟩,h⟩
theorem wY {b j pos}:PE X (.Constant (.bool b) j pos) (tC (.bl b)):=fun _ _ _ H _ I h=>Constant_bool ⟨.bl b,H,I,rfl,h⟩
theorem wO {j pos}:PE X (.Constant .none j pos) (tC .non):=fun _ _ _ H _ I h=>Constant_none ⟨.non,H,I,rfl,h⟩
theorem xD {x j pos}:PE X (.Constant (.str x) j pos) (tC (.str x)):=fun _ _ _ H _ I h=>Calls.Constant_str ⟨.str x,H,I.tok _,⟨_,rfl⟩,h⟩
def Gl (X:Cx) (x:Str):Prop:=X.env.kindOf x=some .globalImplicit
theorem tE {E:VSP} {zp:LAO} {s:Shared} {σ:St} {H:Hp} {x:Str} {u:Value} {pos:Pos} {Q:VSP} (I:Inv X zp σ H s) (hg:Gl X x) (hm:X.mg x=some u) (h:Q u s)
  (hd:(x == ("__debug__" : Str))=false:=by decide):wpAny (model X.prog X.w) X.A (eval (.Name x pos) X.env) Q E s:=
 Calls.Name_function_global I.ok.kind hg (Calls.loadGlobal_global (by rw [I.ok.glob];exact I.mod.glob.keeps I.bk) hm h) hd
theorem rH {E:VSP} {zp:LAO} {s:Shared} {σ:St} {H:Hp} {x:Str} {u:Value} {pos:Pos} {Q:VSP} (I:Inv X zp σ H s) (hg:Gl X x) (hm:X.mg x=none) (hv:bootBuiltins x=some u) (h:Q u s)
  (hn:x ≠ "__name__":=by decide) (hd:(x == ("__debug__" : Str))=false:=by decide):wpAny (model X.prog X.w) X.A (eval (.Name x pos) X.env) Q E s:=by
 obtain ⟨mb,h1,h2⟩:=I.mod.blt
 exact Calls.Name_function_global I.ok.kind hg (Calls.loadGlobal_builtin (by rw [I.ok.glob];exact I.mod.glob.keeps I.bk) hm (by rw [I.ok.blt];exact h1.keeps I.bk) ((h2 x hn).trans hv) h) hd
theorem zCM {x:Str} {v:V} {u:Value} {pos:Pos} (hg:Gl X x) (hm:X.mg x=some u) (r:z7 v u) (hd:(x == ("__debug__" : Str))=false:=by decide):PE X (.Name x pos) (tC v):=
 fun _ _ _ H _ I h=>tE I hg hm ⟨v,H,I,r,h⟩ hd
theorem zCQ {x:Str} {v:V} {u:Value} {pos:Pos} (hg:Gl X x) (hm:X.mg x=none) (hv:bootBuiltins x=some u) (r:z7 v u) (hn:x ≠ "__name__":=by decide) (hd:(x == ("__debug__" : Str))=false:=by decide):PE X (.Name x pos) (tC v):=
 fun _ _ _ H _ I h=>rH I hg hm hv ⟨v,H,I,r,h⟩ hn hd
variable {a b:Expr} {ta tb:TE} {pos:Pos}
def PC (X:Cx) (op:CmpOp) (a b:Expr) (t:TE):Prop:=
 ∀ (zp:LAO) (s:Shared) (σ:St) (H:Hp) (Q:VK),Inv X zp σ H s->t σ H Q ->
  wpAny (model X.prog X.w) X.A (eval a X.env) (fun v s₁=>wpAny (model X.prog X.w) X.A (eval b X.env) (fun u s₂=>wpAny (model X.prog X.w) X.A (compareOp op v u) (EP X zp σ Q) X.xe s₂) X.xe s₁) X.xe s
def tB (t:TE):TT:=fun σ H Q=>t σ H fun x H1=>∃ c,x=.bl c/\Q c H1
theorem iD {op:CmpOp} {t:TE} (h:PC X op a b t) (h1:behindInMarks op b=false:=by first | exact nobehind _ (by decide) (by decide) | rfl):PT X (.Compare a [op] [b] pos) (tB t):=by
 intro zp s σ H Q I hw
 refine wpAny_isTrue_Compare1 (thn (h zp s σ H _ I hw) fun v s1 h1=>thn h1 fun u s2 h2=>thn h2 fun c s3 hz1=>?_) h1
 obtain ⟨x,H1,I1,r1,q1⟩:=hz1
 obtain ⟨d,rfl,q⟩:=q1
 cases r1
 exact wpAny_truthy_bool ⟨H1,I1,q⟩
theorem xI {e:Expr} {t:TE} (h:PE X e t) (he:∀ whole,isTrue e X.env whole=(do let v <- whole;standAt e.pos;holding [v] (truthy v)):=by intro _;rfl):PT X e (tB t):=by
 intro zp s σ H Q I hw
 refine isTrue_plain (thn (h zp s σ H _ I hw) fun v s1 hz2=>?_) (he _)
 obtain ⟨x,H1,I1,r1,q1⟩:=hz2
 obtain ⟨d,rfl,q⟩:=q1
 cases r1
 exact wpAny_truthy_bool ⟨H1,I1,q⟩
variable {tA tB':TT} {rest:List Expr}
def tAnd (t u:TT):TT:=fun σ H Q=>t σ H fun c H1=>if c=true then u σ H1 Q else Q false H1
def tOr (t u:TT):TT:=fun σ H Q=>t σ H fun c H1=>if c=true then Q true H1 else u σ H1 Q
def tNot (t:TT):TT:=fun σ H Q=>t σ H fun c H1=>Q (!c) H1
theorem zCF (ha:PT X a tA):PW X (.BoolOp .And [a] pos) tA:=by
 intro wh zp s σ H Q I h
 refine isTrue_and (thn (ha zp s σ H Q I h) fun c s1 e=>?_)
 cases c with
 | true=>exact isTrue_and_nil e
 | false=>exact e
theorem vC (ha:PT X a tA):PW X (.BoolOp .Or [a] pos) tA:=by
 intro wh zp s σ H Q I h
 refine isTrue_or (thn (ha zp s σ H Q I h) fun c s1 e=>?_)
 cases c with
 | false=>exact isTrue_or_nil e
 | true=>exact e
theorem zFR (ha:PT X a tA) (hb:PW X (.BoolOp .And (b :: rest) pos) tB'):PW X (.BoolOp .And (a :: b :: rest) pos) (tAnd tA tB'):=by
 intro wh zp s σ H Q I h
 refine isTrue_and (thn (ha zp s σ H _ I h) fun c s1 hz3=>?_)
 obtain ⟨H1,I1,q1⟩:=hz3
 cases c with
 | true=>exact hb wh zp s1 σ H1 Q I1 q1
 | false=>exact ⟨H1,I1,q1⟩
theorem uA (ha:PT X a tA) (hb:PW X (.BoolOp .Or (b :: rest) pos) tB'):PW X (.BoolOp .Or (a :: b :: rest) pos) (tOr tA tB'):=by
 intro wh zp s σ H Q I h
 refine isTrue_or (thn (ha zp s σ H _ I h) fun c s1 hz4=>?_)
 obtain ⟨H1,I1,q1⟩:=hz4
 cases c with
 | true=>exact ⟨H1,I1,q1⟩
 | false=>exact hb wh zp s1 σ H1 Q I1 q1
theorem xM (ha:PT X a tA):PT X (.UnaryOp .Not a pos) (tNot tA):=by
 intro zp s σ H Q I h
 exact isTrue_not (ha zp s σ H (fun c H1=>Q (!c) H1) I h)
def zHN (ta tb:TE):TE:=fun σ H Q=>ta σ H fun x H1=>∃ c,x=.bl c/\if c=true then tb σ H1 Q else Q (.bl false) H1
def tOrV (ta tb:TE):TE:=fun σ H Q=>ta σ H fun x H1=>∃ c,x=.bl c/\if c=true then Q (.bl true) H1 else tb σ H1 Q
def zHI (ta:TE):TE:=fun σ H Q=>ta σ H fun x H1=>∃ c,x=.bl c/\Q (.bl (!c)) H1
theorem uI {op} {t:TE} (h:PE X a t):PE X (.BoolOp op [a] pos) t:=fun zp s σ H Q I hw=>BoolOp_one (h zp s σ H Q I hw)
theorem vI (ha:PE X a ta) (hb:PE X (.BoolOp .And (b :: rest) pos) tb):PE X (.BoolOp .And (a :: b :: rest) pos) (zHN ta tb):=by
 intro zp s σ H Q I h
 refine BoolOp_and (thn (ha zp s σ H _ I h) fun v s1 hz5=>?_)
 obtain ⟨x,H1,I1,r1,q1⟩:=hz5
 obtain ⟨c,rfl,q1⟩:=q1
 cases r1
 refine wpAny_truthy_bool ?_
 cases c with
 | true=>exact hb zp s1 σ H1 Q I1 q1
 | false=>exact ⟨.bl false,H1,I1,rfl,q1⟩
theorem zI0 (ha:PE X a ta) (hb:PE X (.BoolOp .Or (b :: rest) pos) tb):PE X (.BoolOp .Or (a :: b :: rest) pos) (tOrV ta tb):=by
 intro zp s σ H Q I h
 refine BoolOp_or (thn (ha zp s σ H _ I h) fun v s1 hz6=>?_)
 obtain ⟨x,H1,I1,r1,q1⟩:=hz6
 obtain ⟨c,rfl,q1⟩:=q1
 cases r1
 refine wpAny_truthy_bool ?_
 cases c with
 | false=>exact hb zp s1 σ H1 Q I1 q1
 | true=>exact ⟨.bl true,H1,I1,rfl,q1⟩
theorem zFV (ha:PE X a ta):PE X (.UnaryOp .Not a pos) (zHI ta):=by
 intro zp s σ H Q I h
 refine UnaryOp_ (thn (ha zp s σ H _ I h) fun v s1 hz7=>?_)
 obtain ⟨x,H1,I1,r1,q1⟩:=hz7
 obtain ⟨c,rfl,q1⟩:=q1
 cases r1
 exact not_of (wpAny_truthy_bool ⟨.bl (!c),H1,I1,rfl,q1⟩)
def tIf (t:TT) (ta tb:TE):TE:=fun σ H Q=>t σ H fun c H1=>if c=true then ta σ H1 Q else tb σ H1 Q
theorem sC {c:Expr} (hc:PT X c tA) (ha:PE X a ta) (hb:PE X b tb):PE X (.IfExp c a b pos) (tIf tA ta tb):=by
 intro zp s σ H Q I h
 refine wpAny_IfExp (thn (hc zp s σ H _ I h) fun d s1 hz8=>?_)
 obtain ⟨H1,I1,q1⟩:=hz8
 cases d with
 | true=>exact ha zp s1 σ H1 Q I1 q1
 | false=>exact hb zp s1 σ H1 Q I1 q1
end
def SqL (K:W.Frag) (H:Hp) (a:Addr) (xs:List V):Prop:=
 Rd H a (.lst xs) \/
  ∃ (o:Obj) (its:Array Value) (n:Nat),K.lookup a=some o/\o.cls=.type "list"/\o.dict=none/\o.data=.seq its n/\its.size <= sizeLine/\zY xs its.toList
def SqT (K:W.Frag) (H:Hp) (a:Addr) (xs:List V):Prop:=
 Rd H a (.tup xs) \/
  ∃ (o:Obj) (its:Array Value) (n:Nat),K.lookup a=some o/\o.cls=.type "tuple"/\o.data=.seq its n/\its.size <= sizeLine/\zY xs its.toList
def absV:Value->Option V
 | .none=>some .non
 | .bool b=>some (.bl b)
 | .int i _=>some (.int i)
 | .str x _=>some (.str x)
 | .bytes b _=>some (.byt b)
 | .float b _=>some (.flt b)
 | .ref a=>some (.ref a)
 | .type n=>some (.ty n)
 | _=>none
theorem z7.abs {x:V} {u:Value} (r:z7 x u):absV u=some x:=by
 cases x with
 | non=>cases r;rfl
 | bl _=>cases r;rfl
 | int _=>obtain ⟨t,rfl⟩:=r;rfl
 | str _=>obtain ⟨t,rfl⟩:=r;rfl
 | byt _=>obtain ⟨t,rfl⟩:=r;rfl
 | flt _=>obtain ⟨t,rfl⟩:=r;rfl
 | ref _=>cases r;rfl
 | ty _=>cases r;rfl
theorem z7.inj {x y:V} {u:Value} (r:z7 x u) (q:z7 y u):x=y:=zKD (r.abs.symm.trans q.abs)
theorem zY.inj:∀ {xs ys:List V} {us:List Value},zY xs us->zY ys us->xs=ys
 | _,_,_,.nil,.nil=>rfl
 | _,_,_,.cons r t,.cons r' t'=>by rw [r.inj r',zY.inj t t']
section
variable {X:Cx} {zp:LAO} {σ:St} {H:Hp} {s:Shared} {a:Addr} {xs ys:List V}
theorem SqL.of {K:W.Frag} (h:H a=some (.lst xs)):SqL K H a xs:=.inl (.inl h)
theorem SqT.of {K:W.Frag} (h:H a=some (.tup xs)):SqT K H a xs:=.inl (.inl h)
theorem Inv.list (I:Inv X zp σ H s) (h:SqL X.K H a xs):∃ its:List Value,zY xs its/\PlainL s.heap a its.toArray/\xs.length <= sizeLine:=by
 rcases h with h | ⟨o,its,n,hk,hc,hd,hs,hz,r⟩
 ·obtain ⟨z,its,n,r,e⟩:=h.ok I.hok
  exact ⟨its,r,⟨_,n,e,rfl,rfl,rfl⟩,z⟩
 ·refine ⟨its.toList,r,⟨o,n,I.kIn a o hk,hc,hd,by simpa using hs⟩,?_⟩
  have e:=r.length
  simp only [Array.length_toList] at e
  omega
theorem Inv.tuple (I:Inv X zp σ H s) (h:SqT X.K H a xs):∃ its:List Value,zY xs its/\IsTup s.heap a its.toArray/\xs.length <= sizeLine:=by
 rcases h with h | ⟨o,its,n,hk,hc,hs,hz,r⟩
 ·obtain ⟨z,its,r,p⟩:=h.ok I.hok
  exact ⟨its,r,p,z⟩
 ·refine ⟨its.toList,r,⟨o,I.kIn a o hk,hc,n,by simpa using hs⟩,?_⟩
  have e:=r.length
  simp only [Array.length_toList] at e
  omega
theorem Inv.list_inj (I:Inv X zp σ H s) (h:SqL X.K H a xs) (h':SqL X.K H a ys):xs=ys:=by
 obtain ⟨its,r,⟨o,n,e,_,_,d⟩,_⟩:=I.list h
 obtain ⟨its',r',⟨o',n',e',_,_,d'⟩,_⟩:=I.list h'
 rw [e] at e';cases e'
 rw [d] at d'
 injection d' with d1 _
 have:its=its':=by simpa using congrArg Array.toList d1
 subst this
 exact r.inj r'
theorem Inv.tuple_inj (I:Inv X zp σ H s) (h:SqT X.K H a xs) (h':SqT X.K H a ys):xs=ys:=by
 obtain ⟨its,r,⟨o,e,_,n,d⟩,_⟩:=I.tuple h
 obtain ⟨its',r',⟨o',e',_,n',d'⟩,_⟩:=I.tuple h'
 rw [e] at e';cases e'
 rw [d] at d'
 injection d' with d1 _
 have:its=its':=by simpa using congrArg Array.toList d1
 subst this
 exact r.inj r'
end
abbrev Cx.wish (X:Cx) (E:VSP):Cx:={ X with xe:=E }
abbrev Cx.nox (X:Cx):Cx:=X.wish fun _ _=>False
theorem Cx.Ok.wish {X:Cx} (ok:X.Ok) (E:VSP):(X.wish E).Ok:=
 ⟨ok.mod,ok.kind,ok.glob,ok.blt,ok.above,ok.inj,ok.has,ok.cab,ok.hd,ok.frames,ok.stk,ok.exf,ok.bs,ok.bsz,ok.noex,ok.exfs,ok.funs,ok.frf⟩
theorem Cx.Ok.unwish {X:Cx} {E:VSP} (ok:(X.wish E).Ok):X.Ok:=
 ⟨ok.mod,ok.kind,ok.glob,ok.blt,ok.above,ok.inj,ok.has,ok.cab,ok.hd,ok.frames,ok.stk,ok.exf,ok.bs,ok.bsz,ok.noex,ok.exfs,ok.funs,ok.frf⟩
section
variable {X:Cx} {zp:LAO} {σ:St} {H:Hp} {s:Shared} {E:VSP}
theorem Inv.wish (I:Inv X zp σ H s) (E:VSP):Inv (X.wish E) zp σ H s:=⟨I.ok.wish E,I.os,I.bare,I.base,I.loc,I.cell,I.free,I.freeC,I.pin,I.hok,I.len⟩
theorem Inv.unwish (I:Inv (X.wish E) zp σ H s):Inv X zp σ H s:=⟨I.ok.unwish,I.os,I.bare,I.base,I.loc,I.cell,I.free,I.freeC,I.pin,I.hok,I.len⟩
theorem SP.unwish {D:hI} {f:Flow} {s':Shared} (h:SP (X.wish E) zp D f s'):SP X zp D f s':=by
 cases f with
 | next=>obtain ⟨σ',H',I,q⟩:=h;exact ⟨σ',H',I.unwish,q⟩
 | brk=>obtain ⟨σ',H',I,q⟩:=h;exact ⟨σ',H',I.unwish,q⟩
 | cont=>obtain ⟨σ',H',I,q⟩:=h;exact ⟨σ',H',I.unwish,q⟩
 | ret u=>obtain ⟨v,σ',H',I,r,q⟩:=h;exact ⟨v,σ',H',I.unwish,r,q⟩
theorem PSs.nox {st:List Stmt} {t:TS} (h:PSs X.nox st t):PSs X st t:=fun zp s σ H D I hw=>
 wpAny_mono (h zp s σ H D (I.wish _) hw) (fun _ _ q=>q.unwish) fun _ _ z=>False.elim z
end
section
variable {X:Cx} {st:Stmt} {rest:List Stmt} {t u:TS} {e:Expr} {te:TE} {pos:Pos}
def zD4:TS:=fun D σ H=>D.nx σ H
def pS (t u:TS):TS:=fun D σ H=>t { D with nx:=u D } σ H
theorem zV:PSs X [] zD4:=fun _ _ σ H _ I h=>wpAny_execs_nil ⟨σ,H,I,h⟩
theorem zF (h1:PS X st t) (h2:PSs X rest u):PSs X (st :: rest) (pS t u):=by
 intro zp s σ H D I h
 refine wpAny_execs_cons (thn (h1 zp s σ H { D with nx:=u D } I h) fun f s1 q=>?_)
 cases f with
 | next=>
  obtain ⟨σ',H',I',q⟩:=q
  exact h2 zp s1 σ' H' D I' q
 | ret v=>exact q
 | brk=>exact q
 | cont=>exact q
theorem zH (h1:PS X st t):PSs X [st] t:=by
 intro zp s σ H D I h
 refine wpAny_execs_cons (thn (h1 zp s σ H D I h) fun f s1 q=>?_)
 cases f with
 | next=>exact wpAny_execs_nil q
 | ret v=>exact q
 | brk=>exact q
 | cont=>exact q
theorem Inv.quiet {zp:LAO} {σ:St} {H:Hp} {s:Shared} (I:Inv X zp σ H s):interactive X.env=false:=by simp [interactive,I.ok.kind]
def zHK (te:TE):TS:=fun D σ H=>te σ H fun _ H1=>D.nx σ H1
theorem z9 (he:PE X e te) (hs:swapsWith e none pos.line X.env=pure false:=by rfl):PS X (.Expr e pos) (zHK te):=by
 intro zp s σ H D I h
 exact wpAny_Expr_any (thn (he zp s σ H _ I h) fun v s1 ⟨x,H1,I1,r1,q1⟩=>⟨σ,H1,I1,q1⟩) I.quiet hs
def cR (te:TE):TS:=fun D σ H=>te σ H D.rt
theorem zL (he:PE X e te):PS X (.Return (some e) pos) (cR te):=by
 intro zp s σ H D I h
 exact wpAny_Return_some (thn (he zp s σ H _ I h) fun v s1 ⟨x,H1,I1,r1,q1⟩=>⟨x,σ,H1,I1,r1,q1⟩)
def zHJ (c:TT) (t u:TS):TS:=fun D σ H=>c σ H fun b H1=>if b=true then t D σ H1 else u D σ H1
theorem yQ {c:Expr} {a b:List Stmt} {tc:TT} (hc:PT X c tc) (ha:PSs X a t) (hb:PSs X b u):PS X (.If c a b pos) (zHJ tc t u):=by
 intro zp s σ H D I h
 refine wpAny_If (thn (hc zp s σ H _ I h) fun d s1 hz9=>?_)
 obtain ⟨H1,I1,q1⟩:=hz9
 cases d with
 | true=>exact ha zp s1 σ H1 D I1 q1
 | false=>exact hb zp s1 σ H1 D I1 q1
def cS:TS:=fun _ _ _=>False
theorem xA:PS X st cS:=fun _ _ _ _ _ _ h=>h.elim
theorem eJ {sts:List Stmt}:PSs X sts cS:=fun _ _ _ _ _ _ h=>h.elim
end
abbrev TG:=V->St->Hp->(St->Hp->Prop)->Prop
abbrev TGs:=List V->St->Hp->(St->Hp->Prop)->Prop
def PG (X:Cx) (target:Expr) (t:TG):Prop:=
 ∀ (zp:LAO) (s:Shared) (σ:St) (H:Hp) (v:V) (u:Value) (Q:St->Hp->Prop),Inv X zp σ H s->z7 v u->t v σ H Q ->
  wpAny (model X.prog X.w) X.A (assign target X.env u) (fun _ s'=>∃ σ' H',Inv X zp σ' H' s'/\Q σ' H') X.xe s
def PGs (X:Cx) (ts:List Expr) (t:TGs):Prop:=
 ∀ (zp:LAO) (s:Shared) (σ:St) (H:Hp) (vs:List V) (us:List Value) (Q:St->Hp->Prop),Inv X zp σ H s->zY vs us->t vs σ H Q ->
  wpAny (model X.prog X.w) X.A (assignInOrder ((assignEach ts X.env).map (·.2)) us) (fun _ s'=>∃ σ' H',Inv X zp σ' H' s'/\Q σ' H') X.xe s
abbrev zHA:=V->V->V->Hp->(Hp->Prop)->Prop
def zJ0 (X:Cx) (t:zHA):Prop:=
 ∀ (zp:LAO) (s:Shared) (σ:St) (H:Hp) (o i v:V) (ov iv u:Value) (Q:Hp->Prop),Inv X zp σ H s->z7 o ov->z7 i iv->z7 v u->t o i v H Q ->
  wpAny (model X.prog X.w) X.A (setItem ov iv u) (fun _ s'=>∃ H',Inv X zp σ H' s'/\Q H') X.xe s
section
variable {X:Cx} {pos:Pos}
def xK (i:Nat):TG:=fun v σ H Q=>Q (σ.set i (some v)) H
theorem zZ {i:Nat} {x:Str} (hN:X.N.Nodup) (hi:X.N[i]?=some x) (hx:Loc X.env.scope x) (hf:X.fn x=true \/ X.env.scope.names.lookup x=some .local:=by first | exact .inl rfl | exact .inr rfl | assumption):PG X (.Name x pos) (xK i):=by
 intro zp s σ H v u Q I r h
 exact wpAny_assign_Name (tZ I hN hi hx r (fun s' I'=>⟨_,H,I',h⟩) hf)
def iV:TGs:=fun vs σ H Q=>vs=[]/\Q σ H
def uD (t:TG) (u:TGs):TGs:=fun vs σ H Q=>∃ v r,vs=v :: r/\t v σ H fun σ' H'=>u r σ' H' Q
theorem vE:PGs X [] iV:=by
 intro zp s σ H vs us Q I r h
 obtain ⟨e,h⟩:=h
 subst e
 cases r
 exact assignInOrder_nil ⟨σ,H,I,h⟩
theorem yH {e:Expr} {es:List Expr} {t:TG} {u:TGs} (h1:PG X e t) (h2:PGs X es u)
  (hs:(assignEach (e :: es) X.env).map (·.2)=assign e X.env :: (assignEach es X.env).map (·.2):=by rfl):PGs X (e :: es) (uD t u):=by
 intro zp s σ H vs us Q I r h
 obtain ⟨v,vr,e1,h⟩:=h
 subst e1
 cases r with
 | cons r rr=>
  rw [hs]
  refine assignInOrder_cons (thn (h1 zp s σ H _ _ _ I r h) fun _ s1 hz10=>?_)
  obtain ⟨σ1,H1,I1,q1⟩:=hz10
  exact h2 zp s1 σ1 H1 _ _ Q I1 rr q1
def iU (K:W.Frag) (n:Nat) (t:TGs):TG:=fun v σ H Q=>∃ a xs,v=.ref a/\SqT K H a xs/\xs.length=n/\t xs σ H Q
theorem uH {es:List Expr} {k:Nat} {t:TGs} {n:Nat} (hc:X.calm=true) (h:PGs X es t)
  (hn:(assignEach es X.env).length=n:=by rfl) (hst:(assignEach es X.env).findIdx? (·.1)=none:=by rfl):PG X (.Tuple es k pos) (iU X.K n t):=by
 intro zp s σ H v u Q I r hw
 obtain ⟨a,xs,e1,hq,hl,hw⟩:=hw
 subst e1
 cases r
 obtain ⟨its,rv,ht,hz⟩:=I.tuple hq
 refine assign_Tuple_tuple (I.ok.hd hc) ht (by simp [hn,<- hl,rv.length]) hst fun h' hx=>?_
 have I1:Inv X zp σ H { s with heap:=h' }:=I.kept (t':=s.toks) fun b o e=>hx b o (zKX (Heap.lt_size e)) e
 exact h zp _ σ H xs _ Q I1 (by simpa using rv) hw
def zJO (to ti:TE) (t:zHA):TG:=fun v σ H Q=>to σ H fun o H1=>ti σ H1 fun i H2=>t o i v H2 fun H3=>Q σ H3
theorem aM {o i:Expr} {to ti:TE} {t:zHA} (ho:PE X o to) (hi:PE X i ti) (hs:zJ0 X t)
  (ha:∀ v,assign (.Subscript o i pos) X.env v=(do
   let ov <- holding [v] (eval o X.env)
   let iv <- holding [v,ov] (eval i X.env)
   standAt pos
   holding [v,ov,iv] (setItem ov iv v)
   release [v,ov,iv] []):=by intro _;rfl):PG X (.Subscript o i pos) (zJO to ti t):=by
 intro zp s σ H v u Q I r h
 rw [ha]
 refine wpAny_bind (wpAny_holding (thn (ho zp s σ H _ I h) fun ov s1 hz11=>?_))
 obtain ⟨x,H1,I1,r1,q1⟩:=hz11
 refine wpAny_bind (wpAny_holding (thn (hi zp s1 σ H1 _ I1 q1) fun iv s2 hz12=>?_))
 obtain ⟨y,H2,I2,r2,q2⟩:=hz12
 refine wpAny_bind (wpAny_standAt (wpAny_bind (wpAny_holding (thn (hs zp s2 σ H2 x y v ov iv u _ I2 r1 r2 r q2) fun _ s3 hz13=>?_))))
 obtain ⟨H3,I3,q3⟩:=hz13
 exact wpAny_release ⟨σ,H3,I3,q3⟩
def o9 (te:TE) (g:TG):TS:=fun D σ H=>te σ H fun x H1=>g x σ H1 D.nx
theorem qV {tg e:Expr} {te:TE} {g:TG} (he:PE X e te) (hg:PG X tg g) (hs:swapsWithSole [tg] e pos.line X.env=pure false:=by rfl) (hw:swappedStores [tg] e X.env=pure none:=by rfl)
  (h1:(assignEach [tg] X.env).map (·.2)=[assign tg X.env]:=by rfl):PS X (.Assign [tg] e pos) (o9 te g):=by
 intro zp s σ H D I h
 refine wpAny_Assign_stores (thn (he zp s σ H _ I h) fun v s1 hz14=>?_) hs hw
 obtain ⟨x,H1,I1,r1,q1⟩:=hz14
 rw [h1]
 exact thn (hg zp s1 σ H1 x v _ I1 r1 q1) fun _ s2 q=>q
theorem z5 {i:Nat} {x:Str} {e:Expr} {te:TE} {pos':Pos} (hN:X.N.Nodup) (hi:X.N[i]?=some x) (hx:Loc X.env.scope x) (he:PE X e te) (hs:swapsWith e (some (.Name x pos')) pos.line X.env=pure false:=by rfl) (hf:X.fn x=true \/ X.env.scope.names.lookup x=some .local:=by first | exact .inl rfl | exact .inr rfl | assumption) :
  PS X (.Assign [.Name x pos'] e pos) (o9 te (xK i)):=by
 intro zp s σ H D I h
 refine wpAny_Assign_Name (thn (he zp s σ H _ I h) fun v s1 hz15=>?_) hs
 obtain ⟨y,H1,I1,r1,q1⟩:=hz15
 exact tZ I1 hN hi hx r1 (fun s2 I2=>⟨_,H1,I2,q1⟩) hf
def zE3 (c:TT) (tb:TS):TS:=fun D σ H=>∃ W:Nat->St->Hp->Prop,(∃ m,W m σ H)/\∀ m σ H,W m σ H ->
 c σ H fun b H1=>if b=true then ∃ N:St->Hp->Prop,(∀ σ' H',N σ' H'->∃ m',m' < m/\W m' σ' H')/\tb { D with nx:=N,ct:=N,bk:=D.nx } σ H1 else D.nx σ H1
theorem qU {c:Expr} {body:List Stmt} {tc:TT} {tb:TS} (hp:PassesOwn (model X.prog X.w) X.A X.env X.xe) (hc:PT X c tc) (hb:PSs X body tb):PS X (.While c body [] pos) (zE3 tc tb):=by
 intro zp s σ H D I h
 obtain ⟨W,⟨m0,w0⟩,turn⟩:=h
 refine wpAny_While (codeAny_whileLoop (fun n s'=>∃ σ' H',Inv X zp σ' H' s'/\W n σ' H') ?_ m0 ⟨σ,H,I,w0⟩)
 rintro n s1 ⟨σ1,H1,I1,w1⟩
 refine wpAny_passesOwn hp (thn (hc zp s1 σ1 H1 _ I1 (turn n σ1 H1 w1)) fun b s2 hz16=>?_)
 obtain ⟨H2,I2,q2⟩:=hz16
 cases b with
 | true=>
  obtain ⟨N,hN,q2⟩:=q2
  rw [if_pos rfl]
  refine wpAny_passesOwn hp (thn (hb zp s2 σ1 H2 _ I2 q2) fun f s3 q3=>?_)
  cases f with
  | next=>
   obtain ⟨σ3,H3,I3,n3⟩:=q3
   obtain ⟨m',hm,w3⟩:=hN σ3 H3 n3
   exact ⟨m',hm,σ3,H3,I3,w3⟩
  | cont=>
   obtain ⟨σ3,H3,I3,n3⟩:=q3
   obtain ⟨m',hm,w3⟩:=hN σ3 H3 n3
   exact ⟨m',hm,σ3,H3,I3,w3⟩
  | brk=>exact q3
  | ret v=>exact q3
 | false=>
  rw [if_neg zKY]
  exact wpAny_execs_nil ⟨σ1,H2,I2,q2⟩
end
structure It where
 go:Nat->Hp->Prop
 yld:Nat->Hp->V->Hp->Prop
 stop:Nat->Hp->Prop
def vW (X:Cx) (zp:LAO) (H:Hp) (b:Addr):Prop:=
 H b=none/\b ≠ X.env.locals/\b ∉ X.fs/\(b ∈ X.ex \/ X.s₀.heap.objs.size <= b)/\(∀ x c,X.env.cells.lookup x=some c->c ≠ b)/\∀ p ∈ X.pn ++ zp,p.1 ≠ b
theorem Inv.fpOk {X:Cx} {zp:LAO} {σ:St} {H H':Hp} {s:Shared} {b:Addr} (I:Inv X zp σ H s) (hb:s.heap.objs.size <= b) (hn:H' b=none):vW X zp H' b:=by
 refine ⟨hn,Nat.ne_of_gt (zKS I.lt hb),I.nofs hb,.inr (zKH I.sz hb),fun x c e z=>?_,fun p hp z=>?_⟩
 ·obtain ⟨v,q⟩:=I.cell x c e
  exact absurd (zKS q.lt (by rw [z];exact hb)) (Nat.lt_irrefl _)
 ·exact absurd (zKS (Heap.lt_size (I.pin p hp).1) (by rw [z];exact hb)) (Nat.lt_irrefl _)
structure zBM (P:Program) (w:World) (K:W.Frag) (tg:Expr) (J:It) (fp:List Addr) (it:Addr) (tn:Nat->Heap->Prop):Prop where
 mem:it ∈ fp
 obj:∀ i h,tn i h->∀ b ∈ fp,∃ o,h.get? b=some o/\∀ v,o.data ≠ .cell v
 keep:∀ i h h',tn i h->(∀ b ∈ fp,∀ o,h.get? b=some o->h'.get? b=some o)->tn i h'
 item:∀ (X:Cx),X.prog=P->X.w=w->X.K=K->X.calm=true->∀ (i:Nat) (zp:LAO) (s:Shared) (σ:St) (H:Hp) (E:VSP),Inv X zp σ H s->(∀ b ∈ fp,vW X zp H b)->tn i s.heap->J.go i H ->
  wpAny (model P w) X.A (pyNext (.ref it)) (fun r s1=>∃ u,r=some u /\
   wpAny (model P w) X.A (letOwnedTupleGo tg (.ref it) u) (fun _ s2=>∃ x H',Inv X zp σ H' s2/\z7 x u/\J.yld i H x H'/\tn (i + 1) s2.heap/\∀ b ∈ fp,H' b=none) E s1) E s
 done:∀ (X:Cx),X.prog=P->X.w=w->X.K=K->X.calm=true->∀ (i:Nat) (zp:LAO) (s:Shared) (σ:St) (H:Hp) (E:VSP),Inv X zp σ H s->(∀ b ∈ fp,vW X zp H b)->tn i s.heap->J.stop i H ->
  wpAny (model P w) X.A (pyNext (.ref it)) (fun r s1=>r=none/\Inv X zp σ H s1) E s
 self:∀ (A:Around) (i:Nat) (s:Shared) (Q:VSP) (E:VSP),tn i s.heap->Q (.ref it) s->wpAny (model P w) A (pyIter (.ref it)) Q E s
abbrev TI:=St->Hp->(It->Hp->Prop)->Prop
def PIE (X:Cx) (zp:LAO) (σ:St) (tg:Expr) (R:It->Hp->Prop) (itv:Value) (s2:Shared):Prop:=
 ∃ (it:Addr) (fp:List Addr) (tn:Nat->Heap->Prop) (J:It) (H':Hp),itv=.ref it/\Inv X zp σ H' s2/\zBM X.prog X.w X.K tg J fp it tn/\tn 0 s2.heap/\(∀ b ∈ fp,vW X zp H' b)/\R J H'
def PI (X:Cx) (tg iter:Expr) (wi:TI):Prop:=
 ∀ (zp:LAO) (s:Shared) (σ:St) (H:Hp) (R:It->Hp->Prop),Inv X zp σ H s->wi σ H R ->
  wpAny (model X.prog X.w) X.A (eval iter X.env) (fun v s1=>wpAny (model X.prog X.w) X.A (pyIter v) (PIE X zp σ tg R) X.xe s1) X.xe s
theorem fK {M:Model} {A:Around} {E:VSP} {s:Shared} {tg:Expr} {it:Addr} {u:Value} {o:Obj} {n:String} {vs:Array Value} {Q:Unit->Shared->Prop} (ho:s.heap.get? it=some o) (hc:o.cls=.type n) (hd:o.data=.fields vs)
    (hn:["enumerate","zip","dict_itemiterator","dict_reverseitemiterator","odict_iterator","itertools.zip_longest","itertools.pairwise"].contains n=false) (hQ:Q () s):wpAny M A (letOwnedTupleGo tg (.ref it) u) Q E s:=by
  unfold letOwnedTupleGo
  cases tg <;> first
    | exact wpAny_pure hQ
    | (cases u <;> first
        | exact wpAny_pure hQ
        | (refine wpAny_bind (wpAny_load ho ?_)
           rw [hc,hd]
           show wpAny M A (if (["enumerate","zip","dict_itemiterator","dict_reverseitemiterator","odict_iterator","itertools.zip_longest","itertools.pairwise"].contains n && vs[0]? == some (rawInt _))=true then _ else _) Q E s
           rw [if_neg (by intro h;rw [hn,Bool.false_and] at h;cases h)]
           exact wpAny_pure hQ))
def Itl (K:W.Frag) (a:Addr):It:=
 ⟨fun i H=>∃ xs x,SqL K H a xs/\xs[i]?=some x,fun i H x H'=>H'=H/\∀ xs,SqL K H a xs->xs[i]?=some x,fun i H=>∃ xs,SqL K H a xs/\xs.length <= i⟩
def Itr (lo:Int) (n:Nat):It:=⟨fun i _=>i < n,fun i H x H'=>H'=H/\x=.int (lo + i),fun i _=>n <= i⟩
theorem rC {P:Program} {w:World} {K:W.Frag} {tg:Expr} (a it:Addr):zBM P w K tg (Itl K a) [it] it (fun i h=>h.IsListIter it a i) where
 mem:=by simp
 obj:=fun i h st b hb=>by
  have e:b=it:=by simpa using hb
  subst e
  obtain ⟨o,e,c,d⟩:=st
  exact ⟨o,e,fun v z=>by rw [d] at z;cases z⟩
 keep:=fun i h h' st k=>st.at fun o e=>k it (by simp) o e
 item:=by
  intro X hP hw hK hc i zp s σ H E I hf st hg
  subst hP hw hK
  obtain ⟨xs,x,hq,hx⟩:=hg
  obtain ⟨its,rv,p,hz⟩:=I.list hq
  obtain ⟨u,hu,ru⟩:=rv.get hx
  obtain ⟨f0,f1,f2,f3,f4,f5⟩:=hf it (by simp)
  refine wpAny_pyNext_list_item st p.isList (x:=u) (by simpa using hu) fun h' st' sb=>?_
  have I1:Inv X zp σ H { s with heap:=h' }:=I.turned (t':=s.toks) (fun b o hb e=>(sb.2 b hb).trans e) f0 f1 f3 f4 f5
  obtain ⟨o,e,c,d⟩:=id st'
  exact ⟨u,rfl,fK (s:={ s with heap:=h' }) e c d (by decide) ⟨x,H,I1,ru,⟨rfl,fun ys hy=>by rw [I.list_inj hy hq];exact hx⟩,st',fun b hb=>(hf b hb).1⟩⟩
 done:=by
  intro X hP hw hK hc i zp s σ H E I hf st hg
  subst hP hw hK
  obtain ⟨xs,hq,hx⟩:=hg
  obtain ⟨its,rv,p,hz⟩:=I.list hq
  obtain ⟨f0,f1,f2,f3,f4,f5⟩:=hf it (by simp)
  have hl:=rv.length
  exact wpAny_pyNext_list_end (I.ok.hd hc) st p.isList (by simp;omega) fun h' eb=>⟨rfl,I.turned (t':=s.toks) (fun b o hb e=>eb b o hb e) f0 f1 f3 f4 f5⟩
 self:=fun _ _ _ _ _ st h=>wpAny_pyIter_listiter st h
theorem jV {P:Program} {w:World} {K:PySem.W.Frag} {tg:Expr} (it:Addr) (lo:Int) (n:Nat):zBM P w K tg (Itr lo n) [it] it (fun i h=>IsRangeIter h it (lo + (i:Nat) * 1) ((n:Int) - (i:Nat)) 1) where
 mem:=by simp
 obj:=fun i h st b hb=>by
  have e:b=it:=by simpa using hb
  subst e
  exact ⟨_,st,fun v z=>by
   have z':Data.fields _=Data.cell v:=z
   cases z'⟩
 keep:=fun i h h' st k=>k it (by simp) _ st
 item:=by
  intro X hP hw hK hc i zp s σ H E I hf st hg
  subst hP hw hK
  obtain ⟨f0,f1,f2,f3,f4,f5⟩:=hf it (by simp)
  have W:=Walks.range (prog:=X.prog) (w:=X.w) (I.ok.hd hc) it lo 1 n
  refine W.item i s _ _ hg st fun v h' tk hv st' kk=>?_
  obtain ⟨t,rfl⟩:=hv
  have I1:Inv X zp σ H { s with heap:=h',toks:=tk }:=I.turned (fun b o hb e=>kk b o (by simpa using hb) e) f0 f1 f3 f4 f5
  refine ⟨_,rfl,fK (s:={ s with heap:=h',toks:=tk }) (n:="range_iterator") st' rfl rfl (by decide) ⟨.int (lo + i),H,I1,⟨t,?_⟩,⟨rfl,rfl⟩,st',fun b hb=>(hf b hb).1⟩⟩
  rw [Int.mul_one]
 done:=by
  intro X hP hw hK hc i zp s σ H E I hf st hg
  subst hP hw hK
  obtain ⟨f0,f1,f2,f3,f4,f5⟩:=hf it (by simp)
  exact wpAny_pyNext_range_end (I.ok.hd hc) st (by have:n <= i:=hg;omega) fun h' eb=>⟨rfl,I.turned (t':=s.toks) (fun b o hb e=>eb b o hb e) f0 f1 f3 f4 f5⟩
 self:=fun _ _ _ _ _ st h=>wpAny_pyIter_rangeiter st h
section
variable {X:Cx} {tg:Expr}
def zEN (K:W.Frag) (tl:TE):TI:=fun σ H R=>tl σ H fun x H1=>∃ a,x=.ref a/\(∃ xs,SqL K H1 a xs)/\R (Itl K a) H1
theorem yG {l:Expr} {tl:TE} (hl:PE X l tl):PI X tg l (zEN X.K tl):=by
 intro zp s σ H R I h
 refine thn (hl zp s σ H _ I h) fun v s1 hz17=>?_
 obtain ⟨x,H1,I1,r1,q1⟩:=hz17
 obtain ⟨a,e,⟨xs,hq⟩,q⟩:=q1
 subst e
 cases r1
 obtain ⟨its,rv,p,hz⟩:=I1.list hq
 refine wpAny_pyIter_list p.isList ?_
 refine ⟨s1.heap.objs.size,[s1.heap.objs.size],_,_,H1,rfl,I1.kept (t':=s1.toks) fun b o e=>Heap.get?_push_of_some _ e,rC a _,⟨_,Heap.get?_push_size _ rfl,rfl,rfl⟩,fun b hb=>?_,q⟩
 have e:b=s1.heap.objs.size:=by simpa using hb
 subst e
 exact I1.fpOk (zKF _) (I1.hok.fresh (zKF _))
theorem lG {zp:LAO} {σ:St} {H:Hp} {s:Shared} {R:It->Hp->Prop} {E:VSP} {lo hi:Int} {t u v:Tok} {tk:Nat} (I:Inv X zp σ H s) (h1:-(2 ^ 62) <= lo) (h2:lo < 2 ^ 62) (h3:-(2 ^ 62) <= hi) (h4:hi < 2 ^ 62)
  (q:R (Itr lo (hi - lo).toNat) H):wpAny (model X.prog X.w) X.A (pyIter (.ref s.heap.objs.size)) (PIE X zp σ tg R) E { s with heap:=s.heap.push { cls:=.type "range",data:=.fields #[.int lo t,.int hi u,.int 1 v] },toks:=tk }:=by
 refine wpAny_pyIter_range (IsRange.new ..) (small_one h1 h2 h3 h4) ?_
 have I1:Inv X zp σ H { s with heap:=s.heap.push { cls:=.type "range",data:=.fields #[.int lo t,.int hi u,.int 1 v] },toks:=tk }:=I.kept fun b o e=>Heap.get?_push_of_some _ e
 refine ⟨(s.heap.push { cls:=.type "range",data:=.fields #[.int lo t,.int hi u,.int 1 v] }).objs.size,[(s.heap.push { cls:=.type "range",data:=.fields #[.int lo t,.int hi u,.int 1 v] }).objs.size],_,_,H,rfl,
  I1.kept (t':=tk) fun b o e=>Heap.get?_push_of_some _ e,jV _ lo (hi - lo).toNat,?_,fun b hb=>?_,q⟩
 ·have e1:lo + ((0:Nat):Int) * 1=lo:=by simp
  have e2:(((hi - lo).toNat:Nat):Int) - ((0:Nat):Int)=Builtin.Range.rangeSize lo hi 1:=by rw [rangeSize_one];split <;> omega
  show IsRangeIter _ _ (lo + ((0:Nat):Int) * 1) ((((hi - lo).toNat:Nat):Int) - ((0:Nat):Int)) 1
  rw [e1,e2]
  exact Heap.get?_push_size _ rfl
 ·have e:b=(s.heap.push { cls:=.type "range",data:=.fields #[.int lo t,.int hi u,.int 1 v] }).objs.size:=by simpa using hb
  subst e
  exact I1.fpOk (zKF _) (I1.hok.fresh (zKF _))
def zJI (ta:TA):TI:=fun σ H R=>ta σ H fun vs H1=>∃ j:Int,vs=[.int j]/\-(2 ^ 62) <= j/\j < 2 ^ 62/\R (Itr 0 j.toNat) H1
def zJH (ta:TA):TI:=fun σ H R=>ta σ H fun vs H1=>∃ i j:Int,vs=[.int i,.int j]/\(-(2 ^ 62) <= i/\i < 2 ^ 62/\-(2 ^ 62) <= j/\j < 2 ^ 62)/\R (Itr i (j - i).toNat) H1
theorem oG {a:Expr} {ta:TA} {p pos:Pos} (hg:Gl X "range") (hm:X.mg "range"=none) (ha:PA X [a] ta) (hs:starEach [a] X.env=[(false,eval a X.env)]:=by rfl):PI X tg (.Call (.Name "range" p) [a] [] pos) (zJI ta):=by
 intro zp s σ H R I h
 refine Call_ (rH I hg hm boot_range (PyProof.Rows.callWith_type1 (thn (ha pos zp s σ H _ I h) fun us s1 hz18=>?_) hs rfl))
 obtain ⟨vs,H1,I1,r1,q1⟩:=hz18
 obtain ⟨j,e,q1,q2,q⟩:=q1
 subst e
 cases r1 with
 | cons r rr=>
  cases rr
  obtain ⟨t,rfl⟩:=r
  exact call_range_1 (lG I1 (by omega) (by omega) q1 q2 (by simpa using q))
theorem dA {a b:Expr} {ta:TA} {p pos:Pos} (hg:Gl X "range") (hm:X.mg "range"=none) (ha:PA X [a,b] ta) (hs:starEach [a,b] X.env=[(false,eval a X.env),(false,eval b X.env)]:=by rfl) (hs2:starEach [b] X.env=[(false,eval b X.env)]:=by rfl) :
  PI X tg (.Call (.Name "range" p) [a,b] [] pos) (zJH ta):=by
 intro zp s σ H R I h
 refine Call_ (rH I hg hm boot_range (PyProof.Rows.callWith_type1 (thn (ha pos zp s σ H _ I h) fun us s1 hz19=>?_) (by rw [hs,hs2]) (by rw [hs2];rfl)))
 obtain ⟨vs,H1,I1,r1,q1⟩:=hz19
 obtain ⟨i,j,e,⟨q1,q2,q3,q4⟩,q⟩:=q1
 subst e
 cases r1 with
 | cons r rr=>
  cases rr with
  | cons r' rr=>
   cases rr
   obtain ⟨t,rfl⟩:=r
   obtain ⟨t',rfl⟩:=r'
   exact call_range_2 (lG I1 q1 q2 q3 q4 q)
def tFor (wi:TI) (g:TG) (tb:TS):TS:=fun D σ H=>wi σ H fun J H1=>∃ W:Nat->Nat->St->Hp->Prop,(∃ m,W 0 m σ H1)/\∀ i m σ H,W i m σ H ->
 (J.stop i H/\D.nx σ H) \/ (J.go i H/\∃ N:St->Hp->Prop,(∀ σ' H',N σ' H'->∃ m',m' < m/\W (i + 1) m' σ' H')/\∀ x H',J.yld i H x H'->g x σ H' fun σ2 H2=>tb { D with nx:=N,ct:=N,bk:=D.nx } σ2 H2)
def xQ (fp:List Addr) (h:Heap):LAO:=fp.filterMap fun b=>(h.get? b).map fun o=>(b,o)
theorem yM {fp:List Addr} {h:Heap} {b:Addr} {o:Obj} (hb:b ∈ fp) (e:h.get? b=some o):(b,o) ∈ xQ fp h:=List.mem_filterMap.mpr ⟨b,hb,by rw [e];rfl⟩
theorem dD {fp:List Addr} {h:Heap} {p:Addr × Obj} (hp:p ∈ xQ fp h):p.1 ∈ fp/\h.get? p.1=some p.2:=by
 obtain ⟨b,hb,e⟩:=List.mem_filterMap.mp hp
 cases q:h.get? b with
 | none=>rw [q] at e;cases e
 | some o=>
  rw [q] at e
  have e':(b,o)=p:=zKD e
  subst e'
  exact ⟨hb,q⟩
theorem Inv.pinned {zp:LAO} {σ:St} {H:Hp} {s:Shared} {fp:List Addr} (I:Inv X zp σ H s) (hf:∀ b ∈ fp,vW X zp H b) (ho:∀ b ∈ fp,∃ o,s.heap.get? b=some o/\∀ v,o.data ≠ .cell v):Inv X (zp ++ xQ fp s.heap) σ H s:=
 I.pins_of fun p hp=>(zKN.mp hp).elim (fun z=>I.pin p (zKK _ z)) fun z=>by
  obtain ⟨hb,e⟩:=dD z
  obtain ⟨f0,f1,f2,_⟩:=hf p.1 hb
  obtain ⟨o,e',d⟩:=ho p.1 hb
  rw [e] at e';cases e'
  exact ⟨e,f0,f1,f2,d⟩
theorem Inv.unpinned {zp pl:LAO} {σ:St} {H:Hp} {s:Shared} (I:Inv X (zp ++ pl) σ H s):Inv X zp σ H s:=I.pins_of fun p hp=>I.pin p (zKK _ (List.mem_append_left _ hp))
theorem tO {iter:Expr} {body:List Stmt} {wi:TI} {g:TG} {tb:TS} {pos:Pos} (hp:PassesOwn (model X.prog X.w) X.A X.env X.xe) (hc:X.calm=true) (hi:PI X tg iter wi) (hg:PG X tg g) (hb:PSs X body tb)
  (hs:∀ x,foldedSetIterable iter X.env x=pure x:=by intro _;rfl):PS X (.For tg iter body [] pos) (tFor wi g tb):=by
 intro zp s σ H D I h
 refine wpAny_For (thn (hi zp s σ H _ I h) fun v s1 h1=>thn h1 fun itv s2 h2=>?_) hs
 obtain ⟨it,fp,tn,J,H2,e,I2,T,st2,f2,W,⟨m0,w0⟩,turn⟩:=h2
 subst e
 have stat:∀ {H':Hp},(∀ b ∈ fp,H' b=none)->∀ b ∈ fp,vW X zp H' b:=fun hn b hb=>⟨hn b hb,(f2 b hb).2⟩
 refine codeAny_forLoop_any (fun n s'=>∃ i σ' H',Inv X zp σ' H' s'/\tn i s'.heap/\(∀ b ∈ fp,H' b=none)/\W i n σ' H') ?_ m0 ⟨0,σ,H2,I2,st2,fun b hb=>(f2 b hb).1,w0⟩
 rintro n s3 ⟨i,σ3,H3,I3,st3,fr3,w3⟩
 rcases turn i n σ3 H3 w3 with ⟨stop,qn⟩ | ⟨go,N,hN,step⟩
 ·refine wpAny_passesOwn hp (thn (T.done X rfl rfl rfl hc i zp s3 σ3 H3 X.xe I3 (stat fr3) st3 stop) fun r s4 ⟨hr,I4⟩=>?_)
  subst hr
  exact wpAny_execs_nil ⟨σ3,H3,I4,qn⟩
 ·refine wpAny_passesOwn hp (thn (T.item X rfl rfl rfl hc i zp s3 σ3 H3 X.xe I3 (stat fr3) st3 go) fun r s4 ⟨u,hr,h4⟩=>?_)
  subst hr
  refine wpAny_passesOwn hp (thn h4 fun _ s5 hz20=>?_)
  obtain ⟨x,H5,I5,r5,y5,st5,fr5⟩:=hz20
  have I5':=I5.pinned (stat fr5) (T.obj _ _ st5)
  refine wpAny_passesOwn hp (thn (hg _ s5 σ3 H5 x u _ I5' r5 (step x H5 y5)) fun _ s6 hz21=>?_)
  obtain ⟨σ6,H6,I6,q6⟩:=hz21
  refine wpAny_passesOwn hp (thn (hb _ s6 σ6 H6 _ I6 q6) fun f s7 q7=>?_)
  have again:∀ {σ7:St} {H7:Hp},Inv X (zp ++ xQ fp s5.heap) σ7 H7 s7->N σ7 H7->∃ m,m < n/\∃ i σ' H',Inv X zp σ' H' s7/\tn i s7.heap/\(∀ b ∈ fp,H' b=none)/\W i m σ' H':=fun {σ7 H7} I7 n7=>by
   obtain ⟨m',hm,w7⟩:=hN σ7 H7 n7
   refine ⟨m',hm,i + 1,σ7,H7,I7.unpinned,T.keep _ _ _ st5 fun b hb o e=>(I7.pin (b,o) (zKK _ (zKK _ (yM hb e)))).1,fun b hb=>?_,w7⟩
   obtain ⟨o,e,d⟩:=T.obj _ _ st5 b hb
   exact (I7.pin (b,o) (zKK _ (zKK _ (yM hb e)))).2.1
  cases f with
  | next=>obtain ⟨σ7,H7,I7,n7⟩:=q7;exact again I7 n7
  | cont=>obtain ⟨σ7,H7,I7,n7⟩:=q7;exact again I7 n7
  | brk=>obtain ⟨σ7,H7,I7,q7⟩:=q7;exact ⟨σ7,H7,I7.unpinned,q7⟩
  | ret v=>obtain ⟨x7,σ7,H7,I7,r7,q7⟩:=q7;exact ⟨x7,σ7,H7,I7.unpinned,r7,q7⟩
end
theorem sU {K:PySem.W.Frag} {a:Addr} {xs:List V} {g:TG} {tb:TS} {D:hI} {σ:St} {H:Hp} (Pv:Nat->St->Hp->Prop) (h0:Pv 0 σ H) (hl:∀ i σ H,i <= xs.length->Pv i σ H->SqL K H a xs)
  (hs:∀ i x σ H,xs[i]?=some x->Pv i σ H->g x σ H fun σ2 H2=>tb { D with nx:=Pv (i + 1),ct:=Pv (i + 1),bk:=D.nx } σ2 H2) (hd:∀ σ H,Pv xs.length σ H->D.nx σ H) :
  ∃ W:Nat->Nat->St->Hp->Prop,(∃ m,W 0 m σ H)/\∀ i m σ H,W i m σ H ->
   ((Itl K a).stop i H/\D.nx σ H) \/ ((Itl K a).go i H/\∃ N:St->Hp->Prop,(∀ σ' H',N σ' H'->∃ m',m' < m/\W (i + 1) m' σ' H')/\∀ x H',(Itl K a).yld i H x H'->g x σ H' fun σ2 H2=>tb { D with nx:=N,ct:=N,bk:=D.nx } σ2 H2):=by
 refine ⟨fun i m σ H=>m=xs.length - i/\i <= xs.length/\Pv i σ H,⟨xs.length,by simp,zKG _,h0⟩,?_⟩
 rintro i m σ H ⟨rfl,hi,p⟩
 have q:=hl i σ H hi p
 by_cases hlt:i < xs.length
 ·refine .inr ⟨⟨xs,xs[i],q,by simp [hlt]⟩,Pv (i + 1),fun σ' H' p'=>⟨xs.length - (i + 1),by omega,rfl,hlt,p'⟩,fun x H' y=>?_⟩
  obtain ⟨e,y⟩:=y
  subst e
  exact hs i x σ _ (y xs q) p
 ·have e:i=xs.length:=by omega
  subst e
  exact .inl ⟨⟨xs,q,zKF _⟩,hd σ H p⟩
theorem oR {lo:Int} {n:Nat} {g:TG} {tb:TS} {D:hI} {σ:St} {H:Hp} (Pv:Nat->St->Hp->Prop) (h0:Pv 0 σ H)
  (hs:∀ i σ H,i < n->Pv i σ H->g (.int (lo + i)) σ H fun σ2 H2=>tb { D with nx:=Pv (i + 1),ct:=Pv (i + 1),bk:=D.nx } σ2 H2) (hd:∀ σ H,Pv n σ H->D.nx σ H) :
  ∃ W:Nat->Nat->St->Hp->Prop,(∃ m,W 0 m σ H)/\∀ i m σ H,W i m σ H ->
   ((Itr lo n).stop i H/\D.nx σ H) \/ ((Itr lo n).go i H/\∃ N:St->Hp->Prop,(∀ σ' H',N σ' H'->∃ m',m' < m/\W (i + 1) m' σ' H')/\∀ x H',(Itr lo n).yld i H x H'->g x σ H' fun σ2 H2=>tb { D with nx:=N,ct:=N,bk:=D.nx } σ2 H2):=by
 refine ⟨fun i m σ H=>m=n - i/\i <= n/\Pv i σ H,⟨n,by simp,zKG _,h0⟩,?_⟩
 rintro i m σ H ⟨rfl,hi,p⟩
 by_cases hlt:i < n
 ·refine .inr ⟨hlt,Pv (i + 1),fun σ' H' p'=>⟨n - (i + 1),by omega,rfl,hlt,p'⟩,fun x H' y=>?_⟩
  obtain ⟨e,y⟩:=y
  subst e y
  exact hs i σ _ hlt p
 ·have e:i=n:=by omega
  subst e
  exact .inl ⟨zKF _,hd σ H p⟩
abbrev R2:=V->V->Hp->VK->Prop
def OpR (X:Cx) (f:Value->Value->Sem Value) (r:R2):Prop:=
 ∀ (zp:LAO) (s:Shared) (σ:St) (H:Hp) (x y:V) (v u:Value) (Q:VK),Inv X zp σ H s->z7 x v->z7 y u->r x y H Q ->
  wpAny (model X.prog X.w) X.A (f v u) (EP X zp σ Q) X.xe s
def UnR (X:Cx) (f:Value->Sem Value) (r:V->Hp->VK->Prop):Prop:=
 ∀ (zp:LAO) (s:Shared) (σ:St) (H:Hp) (x:V) (v:Value) (Q:VK),Inv X zp σ H s->z7 x v->r x H Q ->
  wpAny (model X.prog X.w) X.A (f v) (EP X zp σ Q) X.xe s
def wV (X:Cx) (f:Value) (r:List V->Hp->VK->Prop):Prop:=
 ∀ (zp:LAO) (s:Shared) (σ:St) (H:Hp) (xs:List V) (us:List Value) (Q:VK),Inv X zp σ H s->zY xs us->r xs H Q ->
  wpAny (model X.prog X.w) X.A (call f us) (EP X zp σ Q) X.xe s
def TruR (X:Cx) (r:V->Hp->(Bool->Hp->Prop)->Prop):Prop:=
 ∀ (zp:LAO) (s:Shared) (σ:St) (H:Hp) (x:V) (v:Value) (Q:Bool->Hp->Prop),Inv X zp σ H s->z7 x v->r x H Q ->
  wpAny (model X.prog X.w) X.A (truthy v) (TP X zp σ Q) X.xe s
def tOp (r:R2) (ta tb:TE):TE:=fun σ H Q=>ta σ H fun x H1=>tb σ H1 fun y H2=>r x y H2 Q
def tUn (r:V->Hp->VK->Prop) (ta:TE):TE:=fun σ H Q=>ta σ H fun x H1=>r x H1 Q
def rI (C:Int->Int->Prop) (g:Int->Int->V):R2:=fun x y H Q=>∃ i j,x=.int i/\y=.int j/\C i j/\Q (g i j) H
def rI0 (g:Int->Int->V):R2:=fun x y H Q=>∃ i j,x=.int i/\y=.int j/\Q (g i j) H
def rU (g:Int->V):V->Hp->VK->Prop:=fun x H Q=>∃ i,x=.int i/\Q (g i) H
section
variable {X:Cx} {a b c:Expr} {ta tb tc:TE} {pos:Pos}
theorem zG8 (ha:PE X a ta) (hb:PE X b tb) {zp:LAO} {s:Shared} {σ:St} {H:Hp} {R:V->V->Hp->Prop} (I:Inv X zp σ H s)
  (h:ta σ H fun x H1=>tb σ H1 fun y H2=>R x y H2) {Q:VSP} {f:Value->Value->Sem Value}
  (hf:∀ v u s2 x y H2,Inv X zp σ H2 s2->z7 x v->z7 y u->R x y H2->wpAny (model X.prog X.w) X.A (f v u) Q X.xe s2) :
  wpAny (model X.prog X.w) X.A (eval a X.env) (fun v s₁=>wpAny (model X.prog X.w) X.A (eval b X.env) (fun u s₂=>wpAny (model X.prog X.w) X.A (f v u) Q X.xe s₂) X.xe s₁) X.xe s:=by
 refine thn (ha zp s σ H _ I h) fun v s1 hz22=>?_
 obtain ⟨x,H1,I1,r1,q1⟩:=hz22
 refine thn (hb zp s1 σ H1 _ I1 q1) fun u s2 hz23=>?_
 obtain ⟨y,H2,I2,r2,q2⟩:=hz23
 exact hf v u s2 x y H2 I2 r1 r2 q2
theorem yC {op:Operator} {r:R2} (ho:OpR X (binaryOp op) r) (ha:PE X a ta) (hb:PE X b tb):PE X (.BinOp a op b pos) (tOp r ta tb):=by
 intro zp s σ H Q I h
 exact wpAny_BinOp (zG8 ha hb I h fun v u s2 x y H2 I2 rx ry q=>ho zp s2 σ H2 x y v u Q I2 rx ry q)
theorem lO {op:UnaryOp} {r:V->Hp->VK->Prop} (ho:UnR X (unaryOp op) r) (ha:PE X a ta):PE X (.UnaryOp op a pos) (tUn r ta):=by
 intro zp s σ H Q I h
 exact UnaryOp_ (thn (ha zp s σ H _ I h) fun v s1 ⟨x,H1,I1,r1,q1⟩=>ho zp s1 σ H1 x v Q I1 r1 q1)
theorem opI {f:Value->Value->Sem Value} {C:Int->Int->Prop} {g:Int->Int->Int}
  (rule:∀ (i j:Int) (t u:Tok) (s:Shared) (Q:VSP) (E:VSP),C i j->Q (.int (g i j) s.toks) { s with toks:=s.toks + 1 }->wpAny (model X.prog X.w) X.A (f (.int i t) (.int j u)) Q E s) :
  OpR X f (rI C fun i j=>.int (g i j)):=by
 intro zp s σ H x y v u Q I rx ry h
 obtain ⟨i,j,rfl,rfl,hc,q⟩:=h
 obtain ⟨t,rfl⟩:=rx
 obtain ⟨t',rfl⟩:=ry
 exact rule i j t t' s _ _ hc ⟨.int (g i j),H,I.tok _,⟨_,rfl⟩,q⟩
theorem zI3 {f:Value->Value->Sem Value} {g:Int->Int->Int}
  (rule:∀ (i j:Int) (t u:Tok) (s:Shared) (Q:VSP) (E:VSP),Q (.int (g i j) s.toks) { s with toks:=s.toks + 1 }->wpAny (model X.prog X.w) X.A (f (.int i t) (.int j u)) Q E s) :
  OpR X f (rI0 fun i j=>.int (g i j)):=by
 intro zp s σ H x y v u Q I rx ry h
 obtain ⟨i,j,rfl,rfl,q⟩:=h
 obtain ⟨t,rfl⟩:=rx
 obtain ⟨t',rfl⟩:=ry
 exact rule i j t t' s _ _ ⟨.int (g i j),H,I.tok _,⟨_,rfl⟩,q⟩
theorem zCT {f:Value->Value->Sem Value} {g:Int->Int->Bool}
  (rule:∀ (i j:Int) (t u:Tok) (s:Shared) (Q:VSP) (E:VSP),Q (.bool (g i j)) s->wpAny (model X.prog X.w) X.A (f (.int i t) (.int j u)) Q E s) :
  OpR X f (rI0 fun i j=>.bl (g i j)):=by
 intro zp s σ H x y v u Q I rx ry h
 obtain ⟨i,j,rfl,rfl,q⟩:=h
 obtain ⟨t,rfl⟩:=rx
 obtain ⟨t',rfl⟩:=ry
 exact rule i j t t' s _ _ ⟨.bl (g i j),H,I,rfl,q⟩
def zD0 (i j:Int):Prop:=0 < j/\j < 1073741824
def cH (i j:Int):Prop:=(-(2 ^ 64) < i/\i < 2 ^ 64) \/ (-(2 ^ 64) < j/\j < 2 ^ 64)
theorem cH.ok {i j:Int} (h:cH i j):IntMulOk i j:=by
 rcases h with ⟨h1,h2⟩ | ⟨h1,h2⟩
 ·exact .of_left (intBits_le_64 h1 h2)
 ·exact .of_right (intBits_le_64 h1 h2)
theorem uP:OpR X (binaryOp .Add) (rI0 fun i j=>.int (i + j)):=zI3 fun _ _ _ _ _ _ _ q=>add_int q
theorem iF:OpR X (binaryOp .Sub) (rI0 fun i j=>.int (i - j)):=zI3 fun _ _ _ _ _ _ _ q=>sub_int q
theorem rF:OpR X (binaryOp .Mult) (rI cH fun i j=>.int (i * j)):=opI fun _ _ _ _ _ _ _ hc q=>mul_int q hc.ok
theorem qE:OpR X (binaryOp .FloorDiv) (rI zD0 fun i j=>.int (i / j)):=opI fun i j _ _ _ _ _ hc q=>by
 have h1:(0:Int) < j:=hc.1
 have h2:j < 1073741824:=hc.2
 exact floordiv_int (by omega) (by rw [Int.fdiv_eq_ediv_of_nonneg i (by omega)];exact q) (.inl (PyProof.noPylong_small (by omega)))
theorem uX:OpR X (binaryOp .Mod) (rI (fun _ j=>0 < j) fun i j=>.int (i % j)):=opI fun i j _ _ _ _ _ hc q=>by
 have h1:(0:Int) < j:=hc
 exact mod_int' (by omega) (by rw [Int.fmod_eq_emod_of_nonneg i (by omega)];exact q)
theorem unI {f:Value->Sem Value} {g:Int->Int}
  (rule:∀ (i:Int) (t:Tok) (s:Shared) (Q:VSP) (E:VSP),Q (.int (g i) s.toks) { s with toks:=s.toks + 1 }->wpAny (model X.prog X.w) X.A (f (.int i t)) Q E s) :
  UnR X f (rU fun i=>.int (g i)):=by
 intro zp s σ H x v Q I rx h
 obtain ⟨i,rfl,q⟩:=h
 obtain ⟨t,rfl⟩:=rx
 exact rule i t s _ _ ⟨.int (g i),H,I.tok _,⟨_,rfl⟩,q⟩
theorem qM:UnR X (unaryOp .USub) (rU fun i=>.int (-i)):=unI fun _ _ _ _ _ q=>neg_int q
end
def zB2:V->V->Bool
 | .non,.non=>true | .non,.int _=>true | .int _,.non=>true | .non,.bl _=>true | .bl _,.non=>true | .non,.str _=>true | .str _,.non=>true
 | .int _,.int _=>true | .bl _,.bl _=>true | .str _,.str _=>true | .byt _,.byt _=>true
 | .int _,.str _=>true | .str _,.int _=>true | .bl _,.str _=>true | .str _,.bl _=>true
 | _,_=>false
def rEq:R2:=fun x y H Q=>zB2 x y=true/\Q (.bl (decide (x=y))) H
def rNe:R2:=fun x y H Q=>zB2 x y=true/\Q (.bl (!decide (x=y))) H
theorem fO {i j:Int}:decide (V.int i=V.int j)=(i == j):=by
 rw [Bool.eq_iff_iff]
 simp
theorem zA5 {i j:Bool}:decide (V.bl i=V.bl j)=(i == j):=by
 rw [Bool.eq_iff_iff]
 simp
theorem fN {i j:Str}:decide (V.str i=V.str j)=(i == j):=by
 rw [Bool.eq_iff_iff]
 simp
theorem fP {i j:Array UInt8}:decide (V.byt i=V.byt j)=(i.toList == j.toList):=by
 rw [Bool.eq_iff_iff]
 cases i
 cases j
 simp
section
variable {X:Cx} {a b c:Expr} {ta tb tc:TE} {pos:Pos}
theorem yE {zp:LAO} {σ:St} {H:Hp} {s:Shared} {Q:VK} {k k':Bool} (I:Inv X zp σ H s) (q:Q (.bl k) H) (e:k=k'):EP X zp σ Q (.bool k') s:=by
 subst e
 exact ⟨.bl k,H,I,rfl,q⟩
theorem uY:OpR X (compareOp .Eq) rEq:=by
 intro zp s σ H x y v u Q I rx ry h
 obtain ⟨hs,q⟩:=h
 cases x with
 | non=>
  cases rx
  cases y with
  | non=>cases ry;exact PySem.EqNone.eq_none_none (yE I q (by simp))
  | bl j=>cases ry;exact PySem.EqNone.eq_none_bool (yE I q (by simp))
  | int j=>obtain ⟨t',rfl⟩:=ry;exact PySem.EqNone.eq_none_int (yE I q (by simp))
  | str j=>obtain ⟨t',rfl⟩:=ry;exact PySem.EqNone.eq_none_str (yE I q (by simp))
  | _=>exact absurd (show false=true from hs) zKY
 | bl i=>
  cases rx
  cases y with
  | non=>cases ry;exact PySem.EqNone.eq_bool_none (yE I q (by simp))
  | bl j=>cases ry;exact eq_bool (yE I q zA5)
  | str j=>obtain ⟨t',rfl⟩:=ry;exact PySem.EqMixed.eq_bool_str (yE I q (by simp))
  | _=>exact absurd (show false=true from hs) zKY
 | int i=>
  obtain ⟨t,rfl⟩:=rx
  cases y with
  | non=>cases ry;exact PySem.EqNone.eq_int_none (yE I q (by simp))
  | int j=>obtain ⟨t',rfl⟩:=ry;exact eq_int (yE I q fO)
  | str j=>obtain ⟨t',rfl⟩:=ry;exact PySem.EqMixed.eq_int_str (yE I q (by simp))
  | _=>exact absurd (show false=true from hs) zKY
 | str i=>
  obtain ⟨t,rfl⟩:=rx
  cases y with
  | non=>cases ry;exact PySem.EqNone.eq_str_none (yE I q (by simp))
  | bl j=>cases ry;exact PySem.EqMixed.eq_str_bool (yE I q (by simp))
  | int j=>obtain ⟨t',rfl⟩:=ry;exact PySem.EqMixed.eq_str_int (yE I q (by simp))
  | str j=>obtain ⟨t',rfl⟩:=ry;exact eq_str (yE I q fN)
  | _=>exact absurd (show false=true from hs) zKY
 | byt i=>
  obtain ⟨t,rfl⟩:=rx
  cases y with
  | byt j=>obtain ⟨t',rfl⟩:=ry;exact W.eq_bytes (yE I q fP)
  | _=>exact absurd (show false=true from hs) zKY
 | _=>cases y <;> exact absurd (show false=true from hs) zKY
theorem sK:OpR X (compareOp .NotEq) rNe:=by
 intro zp s σ H x y v u Q I rx ry h
 obtain ⟨hs,q⟩:=h
 cases x with
 | non=>
  cases rx
  cases y with
  | non=>cases ry;exact PySem.EqNone.ne_none_none (yE I q (by simp))
  | bl j=>cases ry;exact PySem.EqNone.ne_none_bool (yE I q (by simp))
  | int j=>obtain ⟨t',rfl⟩:=ry;exact PySem.EqNone.ne_none_int (yE I q (by simp))
  | str j=>obtain ⟨t',rfl⟩:=ry;exact PySem.EqNone.ne_none_str (yE I q (by simp))
  | _=>exact absurd (show false=true from hs) zKY
 | bl i=>
  cases rx
  cases y with
  | non=>cases ry;exact PySem.EqNone.ne_bool_none (yE I q (by simp))
  | bl j=>cases ry;exact ne_bool (yE I q (congrArg not zA5))
  | str j=>obtain ⟨t',rfl⟩:=ry;exact PySem.EqMixed.ne_bool_str (yE I q (by simp))
  | _=>exact absurd (show false=true from hs) zKY
 | int i=>
  obtain ⟨t,rfl⟩:=rx
  cases y with
  | non=>cases ry;exact PySem.EqNone.ne_int_none (yE I q (by simp))
  | int j=>obtain ⟨t',rfl⟩:=ry;exact ne_int (yE I q (congrArg not fO))
  | str j=>obtain ⟨t',rfl⟩:=ry;exact PySem.EqMixed.ne_int_str (yE I q (by simp))
  | _=>exact absurd (show false=true from hs) zKY
 | str i=>
  obtain ⟨t,rfl⟩:=rx
  cases y with
  | non=>cases ry;exact PySem.EqNone.ne_str_none (yE I q (by simp))
  | bl j=>cases ry;exact PySem.EqMixed.ne_str_bool (yE I q (by simp))
  | int j=>obtain ⟨t',rfl⟩:=ry;exact PySem.EqMixed.ne_str_int (yE I q (by simp))
  | str j=>obtain ⟨t',rfl⟩:=ry;exact ne_str (yE I q (congrArg not fN))
  | _=>exact absurd (show false=true from hs) zKY
 | byt i=>
  obtain ⟨t,rfl⟩:=rx
  cases y with
  | byt j=>obtain ⟨t',rfl⟩:=ry;exact W.ne_bytes (yE I q (congrArg not fP))
  | _=>exact absurd (show false=true from hs) zKY
 | _=>cases y <;> exact absurd (show false=true from hs) zKY
theorem zEM:OpR X (compareOp .Lt) (rI0 fun i j=>.bl (decide (i < j))):=zCT fun _ _ _ _ _ _ _ q=>lt_int q
theorem aV:OpR X (compareOp .LtE) (rI0 fun i j=>.bl (decide (i <= j))):=zCT fun _ _ _ _ _ _ _ q=>le_int q
theorem aW:OpR X (compareOp .Gt) (rI0 fun i j=>.bl (decide (j < i))):=zCT fun _ _ _ _ _ _ _ q=>gt_int q
theorem zI2:OpR X (compareOp .GtE) (rI0 fun i j=>.bl (decide (j <= i))):=zCT fun _ _ _ _ _ _ _ q=>ge_int q
theorem dC:OpR X (compareOp .In) (fun x y H Q=>∃ i j,x=.str i/\y=.str j/\Q (.bl (!(Builtin.Str.occurrences j i 0 j.length 1).isEmpty)) H):=by
 intro zp s σ H x y v u Q I rx ry h
 obtain ⟨i,j,rfl,rfl,q⟩:=h
 obtain ⟨t,rfl⟩:=rx
 obtain ⟨t',rfl⟩:=ry
 exact in_str (yE I q rfl)
theorem qY:OpR X (compareOp .Is) (fun x y H Q=>y=.non/\Q (.bl (decide (x=.non))) H):=by
 intro zp s σ H x y v u Q I rx ry h
 obtain ⟨rfl,q⟩:=h
 cases ry
 refine is_none_gen (yE I q ?_)
 cases x <;> first
  | (cases rx;rfl)
  | (obtain ⟨t,rfl⟩:=rx;rfl)
theorem n8:OpR X (compareOp .IsNot) (fun x y H Q=>y=.non/\Q (.bl (!decide (x=.non))) H):=by
 intro zp s σ H x y v u Q I rx ry h
 obtain ⟨rfl,q⟩:=h
 cases ry
 refine isnot_none_gen (yE I q ?_)
 cases x <;> first
  | (cases rx;rfl)
  | (obtain ⟨t,rfl⟩:=rx;rfl)
theorem zW (b:Expr) {op:CmpOp} (h:op ≠ .In:=by decide) (h2:op ≠ .NotIn:=by decide):behindInMarks op b=false:=by
 have e1:(op == CmpOp.In)=false:=by cases op <;> first | rfl | exact absurd rfl h
 have e2:(op == CmpOp.NotIn)=false:=by cases op <;> first | rfl | exact absurd rfl h2
 cases b <;> simp [behindInMarks,e1,e2]
theorem xW {op:CmpOp} {r:R2} (ho:OpR X (compareOp op) r) (ha:PE X a ta) (hb:PE X b tb) (hm:behindInMarks op b=false):PE X (.Compare a [op] [b] pos) (tOp r ta tb):=by
 intro zp s σ H Q I h
 exact wpAny_Compare1 (zG8 ha hb I h fun v u s2 x y H2 I2 rx ry q=>ho zp s2 σ H2 x y v u Q I2 rx ry q) hm
def cQ (t:TE):TT:=fun σ H Q=>t σ H fun x H'=>∃ k,x=.bl k/\Q k H'
theorem zU {op:CmpOp} {r:R2} (ho:OpR X (compareOp op) r) (ha:PE X a ta) (hb:PE X b tb) (hm:behindInMarks op b=false):PT X (.Compare a [op] [b] pos) (cQ (tOp r ta tb)):=by
 intro zp s σ H Q I h
 refine wpAny_isTrue_Compare1 (thn (ha zp s σ H _ I h) fun v s1 ⟨x,H1,I1,r1,q1⟩=>thn (hb zp s1 σ H1 _ I1 q1) fun u s2 ⟨y,H2,I2,r2,q2⟩=>
  thn (ho zp s2 σ H2 x y v u _ I2 r1 r2 q2) fun c s3 ⟨z,H3,I3,r3,k,e,q3⟩=>?_) hm
 subst e
 cases r3
 exact wpAny_truthy_bool ⟨H3,I3,q3⟩
def cW (r r':R2) (ta tb tc:TE):TE:=fun σ H Q=>ta σ H fun x H1=>tb σ H1 fun y H2=>r x y H2 fun z H3=>∃ k,z=.bl k /\
 (if k=true then tc σ H3 fun w' H4=>r' y w' H4 Q else Q (.bl false) H3)
theorem aP {op op':CmpOp} {r r':R2} (ho:OpR X (compareOp op) r) (ho':OpR X (compareOp op') r') (ha:PE X a ta) (hb:PE X b tb) (hc:PE X c tc)
  (hm:lastMarks [op,op'] [b,c]=false:=by with_unfolding_all rfl):PE X (.Compare a [op,op'] [b,c] pos) (cW r r' ta tb tc):=by
 intro zp s σ H Q I h
 refine Compare_chain (thn (ha zp s σ H _ I h) fun v s1 ⟨x,H1,I1,r1,q1⟩=>chain_link (thn (hb zp s1 σ H1 _ I1 q1) fun u s2 ⟨y,H2,I2,r2,q2⟩=>
  thn (ho zp s2 σ H2 x y v u _ I2 r1 r2 q2) fun d s3 ⟨z,H3,I3,r3,k,e,q3⟩=>?_)) hm
 subst e
 cases r3
 refine wpAny_truthy_bool ?_
 cases k with
 | false=>exact ite_ff ⟨.bl false,H3,I3,rfl,q3⟩
 | true=>exact ite_tt (chain_last (thn (hc zp s3 σ H3 _ I3 q3) fun w' s4 ⟨z',H4,I4,r4,q4⟩=>ho' zp s4 σ H4 y z' u w' Q I4 r2 r4 q4))
theorem aE {op op':CmpOp} {r r':R2} (ho:OpR X (compareOp op) r) (ho':OpR X (compareOp op') r') (ha:PE X a ta) (hb:PE X b tb) (hc:PE X c tc)
  (hm:lastMarks [op,op'] [b,c]=false:=by with_unfolding_all rfl):PT X (.Compare a [op,op'] [b,c] pos) (cQ (cW r r' ta tb tc)):=by
 intro zp s σ H Q I h
 refine isTrue_chain (thn (ha zp s σ H _ I h) fun v s1 ⟨x,H1,I1,r1,q1⟩=>test_link (thn (hb zp s1 σ H1 _ I1 q1) fun u s2 ⟨y,H2,I2,r2,q2⟩=>
  thn (ho zp s2 σ H2 x y v u _ I2 r1 r2 q2) fun d s3 ⟨z,H3,I3,r3,k,e,q3⟩=>?_)) hm
 subst e
 cases r3
 refine wpAny_truthy_bool ?_
 cases k with
 | false=>
  obtain ⟨k',e',q'⟩:=q3
  cases e'
  exact ite_ff ⟨H3,I3,q'⟩
 | true=>
  refine ite_tt (test_last (thn (hc zp s3 σ H3 _ I3 q3) fun w' s4 hz24=>?_))
  obtain ⟨z',H4,I4,r4,q4⟩:=hz24
  refine thn (ho' zp s4 σ H4 y z' u w' _ I4 r2 r4 q4) fun d' s5 hz25=>?_
  obtain ⟨z2,H5,I5,r5,k2,e2,q5⟩:=hz25
  subst e2
  cases r5
  exact wpAny_truthy_bool ⟨H5,I5,q5⟩
def zJY (K:W.Frag) (x:V) (H:Hp) (k:Bool):Prop:=
 match x with
 | .non=>k=false
 | .bl b=>k=b
 | .int i=>k=(i != 0)
 | .str y=>y.length <= sizeLine/\k=((y.length:Int) != 0)
 | .byt y=>y.size <= sizeLine/\k=((y.size:Int) != 0)
 | .ref p=>(∃ xs,SqL K H p xs/\k = !xs.isEmpty) \/ (∃ xs,SqT K H p xs/\k = !xs.isEmpty) \/ ∃ kvs,H p=some (.dK kvs)/\k = !kvs.isEmpty
 | _=>False
theorem iR {κ:Type} {kvs:List (κ × V)} {vs:List (κ × Value)} (r:KV kvs vs):(!vs.isEmpty) = !kvs.isEmpty:=by
 cases r <;> rfl
theorem pF {xs:List V} {its:List Value} (r:zY xs its):(!its.toArray.isEmpty) = !xs.isEmpty:=by
 cases r <;> simp
theorem tP:(sizeLine:Nat) < 2 ^ 63:=by rw [sizeLine_eq];decide
theorem zEY:TruR X (fun x H Q=>∃ k,zJY X.K x H k/\Q k H):=by
 intro zp s σ H x v Q I rx h
 obtain ⟨k,e,q⟩:=h
 have hl:=tP
 have hs:sizeLine=16777216:=sizeLine_eq
 cases x with
 | non=>
  cases rx
  have e':k=false:=e
  subst e'
  exact truthy_none ⟨H,I,q⟩
 | bl b=>
  cases rx
  have e':k=b:=e
  subst e'
  exact wpAny_truthy_bool ⟨H,I,q⟩
 | int i=>
  obtain ⟨t,rfl⟩:=rx
  have e':k=(i != 0):=e
  subst e'
  exact PySem.P.truthy_int ⟨H,I,q⟩
 | str y=>
  obtain ⟨t,rfl⟩:=rx
  obtain ⟨hy,e'⟩:y.length <= sizeLine/\k=((y.length:Int) != 0):=e
  subst e'
  exact PySem.P.truthy_str (by omega) ⟨H,I.tok _,q⟩
 | byt y=>
  obtain ⟨t,rfl⟩:=rx
  obtain ⟨hy,e'⟩:y.size <= sizeLine/\k=((y.size:Int) != 0):=e
  subst e'
  exact W.truthy_bytes (by omega) ⟨H,I.tok _,q⟩
 | ref p=>
  cases rx
  have e':(∃ xs,SqL X.K H p xs/\k = !xs.isEmpty) \/ (∃ xs,SqT X.K H p xs/\k = !xs.isEmpty) \/ ∃ kvs,H p=some (.dK kvs)/\k = !kvs.isEmpty:=e
  rcases e' with ⟨xs,hx,e'⟩ | ⟨xs,hx,e'⟩ | ⟨kvs,hx,e'⟩
  ·subst e'
   obtain ⟨its,r,pl,hz⟩:=I.list hx
   have hlen:=r.length
   exact wpAny_truthy_list pl.isList (by simp only [zKE];omega) ⟨H,I.tok _,by rw [pF r];exact q⟩
  ·subst e'
   obtain ⟨its,r,pl,hz⟩:=I.tuple hx
   have hlen:=r.length
   exact truthy_tuple pl (by simp only [zKE];omega) ⟨H,I.tok _,by rw [pF r];exact q⟩
  ·subst e'
   obtain ⟨hz,hS,vs,r,m⟩:kvs.length <= sizeLine/\(p == sysModules)=false/\∃ vs,KV kvs vs/\s.heap.DictOf (xF X.prog X.w) p vs:=I.hok p _ hx
   have hlen:kvs.length=vs.length:=Paired.length r
   exact wpAny_truthy_dict hS m (by omega) ⟨H,I.tok _,by rw [iR r];exact q⟩
 | _=>exact (show False from e).elim
theorem lH (ha:PE X a ta) (he:∀ whole,isTrue a X.env whole=(do let v <- whole;standAt a.pos;holding [v] (truthy v))) :
  PT X a (fun σ H Q=>ta σ H fun x H'=>∃ k,zJY X.K x H' k/\Q k H'):=by
 intro zp s σ H Q I h
 exact isTrue_plain (thn (ha zp s σ H _ I h) fun v s1 ⟨x,H1,I1,r1,q1⟩=>zEY zp s1 σ H1 x v Q I1 r1 q1) (he _)
theorem qZ:OpR X (binaryOp .Add) (fun x y H Q=>∃ i j,x=.str i/\y=.str j/\i.length + j.length <= sizeLine/\Q (.str (i ++ j)) H):=by
 intro zp s σ H x y v u Q I rx ry h
 obtain ⟨i,j,rfl,rfl,hz,q⟩:=h
 obtain ⟨t,rfl⟩:=rx
 obtain ⟨t',rfl⟩:=ry
 exact add_str (fun t' tk=>⟨.str (i ++ j),H,I.tok _,⟨_,rfl⟩,q⟩) hz
theorem uS {x:V} {us:List Value} (r:zY [x] us):∃ u,us=[u]/\z7 x u:=by
 cases r with
 | cons r1 r2=>cases r2;exact ⟨_,rfl,r1⟩
theorem cD:wV X (.type "int") (fun xs H Q=>(∃ i,xs=[.int i]/\Q (.int i) H) \/ ∃ k,xs=[.bl k]/\Q (.int (if k then 1 else 0)) H):=by
 intro zp s σ H xs us Q I r h
 rcases h with ⟨i,rfl,q⟩ | ⟨k,rfl,q⟩
 ·obtain ⟨u,rfl,t,rfl⟩:=uS r
  exact call_int_int ⟨.int i,H,I,⟨_,rfl⟩,q⟩
 ·obtain ⟨u,rfl,r1⟩:=uS r
  cases r1
  exact call_int_bool ⟨.int (if k then 1 else 0),H,I.tok _,⟨_,rfl⟩,q⟩
def zJ2 (K:W.Frag) (x:V) (H:Hp) (n:Nat):Prop:=
 match x with
 | .str y=>y.length <= sizeLine/\n=y.length
 | .byt y=>y.size <= sizeLine/\n=y.size
 | .ref p=>(∃ xs,SqL K H p xs/\n=xs.length) \/ ∃ xs,SqT K H p xs/\n=xs.length
 | _=>False
theorem yD:wV X (.builtin "len") (fun xs H Q=>∃ x n,xs=[x]/\zJ2 X.K x H n/\Q (.int n) H):=by
 intro zp s σ H xs us Q I r h
 obtain ⟨x,n,rfl,e,q⟩:=h
 obtain ⟨u,rfl,rx⟩:=uS r
 have hl:=tP
 have hs:sizeLine=16777216:=sizeLine_eq
 cases x with
 | str y=>
  obtain ⟨t,rfl⟩:=rx
  obtain ⟨hy,e'⟩:y.length <= sizeLine/\n=y.length:=e
  subst e'
  exact len_str (by omega) ⟨.int _,H,I.tok _,⟨_,rfl⟩,q⟩
 | byt y=>
  obtain ⟨t,rfl⟩:=rx
  obtain ⟨hy,e'⟩:y.size <= sizeLine/\n=y.size:=e
  subst e'
  exact W.len_bytes (by omega) ⟨.int _,H,I.tok _,⟨_,rfl⟩,q⟩
 | ref p=>
  cases rx
  have e':(∃ xs,SqL X.K H p xs/\n=xs.length) \/ ∃ xs,SqT X.K H p xs/\n=xs.length:=e
  rcases e' with ⟨xs,hx,e'⟩ | ⟨xs,hx,e'⟩
  ·subst e'
   obtain ⟨its,r',pl,hz⟩:=I.list hx
   have hlen:=r'.length
   exact Calls.call_len_list pl.isList (by simp only [zKE];omega) ⟨.int xs.length,H,I.tok _,⟨_,by simp only [zKE];rw [hlen]⟩,q⟩
  ·subst e'
   obtain ⟨its,r',pl,hz⟩:=I.tuple hx
   have hlen:=r'.length
   exact len_tuple pl (by simp only [zKE];omega) ⟨.int xs.length,H,I.tok _,⟨_,by simp only [zKE];rw [hlen]⟩,q⟩
 | _=>exact (show False from e).elim
end
structure i9 (h:Heap) (x dx C:Addr) (mA:Str->Option Value):Prop where
 obj:h.get? x=some (W.instObj C dx)
 ns:h.Ns1 dx mA
 ne:dx ≠ x
theorem dH {h:Heap} {dx:Addr} {mA:Str->Option Value} (n:h.Ns1 dx mA):∃ od,h.get? dx=some od/\∀ name,W.lookIn name od=some (mA name):=by
 obtain ⟨o,es,ep,ho,hd,hk,_,hm⟩:=n
 refine ⟨o,ho,fun name=>?_⟩
 have e:=hm name
 unfold nsFind findBy at e
 rw [<- Array.find?_toList] at e
 unfold W.lookIn
 rw [hd]
 dsimp only
 split
 ·rename_i y q
  rw [q] at e
  exact congrArg some e
 ·rename_i q
  rw [q] at e
  have a:es.toList.any (·.refKey)=false:=by
   rw [List.any_eq_false]
   intro y hy
   obtain ⟨z,t,hkey⟩:=hk y (Array.mem_toList_iff.mp hy)
   simp [DictEntry.refKey,hkey]
  have a':¬ es.toList.any (·.refKey)=true:=by rw [a];exact zKY
  rw [if_neg a']
  exact congrArg some e
theorem i9.look {h:Heap} {x dx C:Addr} {mA:Str->Option Value} (I:i9 h x dx C mA):∃ od,W.InstAt h x (W.instObj C dx) C (some od)/\∀ name,W.lookIn name od=some (mA name):=
 let ⟨od,ho,hl⟩:=dH I.ns
 ⟨od,⟨I.obj,rfl,rfl,ho⟩,hl⟩
section
variable {prog:Program} {w:World} {A:Around} {E:VSP} {s:Shared} {K:W.Frag} {x dx C f:Addr} {mA:Str->Option Value} {name:Str} {v:Value}
theorem zDC {expr:Bool} {Q:VSP} (X:K.In s.heap) (I:i9 s.heap x dx C mA) (hg:W.plainGet K C name=true) (hh:W.hasDictIn K C=true)
  (ha:W.findIn K (.ref C) name=some none) (hv:mA name=some v) (hv':W.handedIn v=true) (h:Q v { s with toks:=s.toks + 1 }) :
  wpAny (model prog w) A (getAttr (.ref x) name expr) Q E s:=by
 obtain ⟨od,J,hl⟩:=I.look
 exact W.get_value X J (W.plainGet_of hg).1 (W.findObj_own hh ha rfl (by rw [hl,hv])) hv' h
theorem zAS {pl:Sem Bool} {Q:Value × List Value->Shared->Prop} (X:K.In s.heap) (I:i9 s.heap x dx C mA) (hg:W.plainGet K C name=true)
  (hf:W.findIn K (.ref C) name=some (some (.ref f))) (ht:W.isFn K (.ref f)=true) (hv:mA name=none) (h:Q (.ref f,[.ref x]) s) :
  wpAny (model prog w) A (getMethod (.ref x) name pl) Q E s:=by
 obtain ⟨od,J,hl⟩:=I.look
 exact W.method_fn X J (W.plainGet_of hg).1 (W.plainGet_of hg).2 hf (beq_iff_eq.mp ht) (by show (W.lookIn name od).map (·.isSome)=some false;rw [hl,hv];rfl) h
theorem zB0 {ns:List Str} {Q:Unit->Shared->Prop} (X:K.In s.heap) (I:i9 s.heap x dx C mA)
  (hs:W.findIn K (.ref C) "__setattr__"=some (some (.builtin "object.__setattr__"))) (hp:W.plainOver K C=true) (ht:W.takerIn K C name=some none) (hh:W.hasDictIn K C=true)
  (hw:PySem.Within mA ns) (hsz:ns.length <= sizeLine)
  (h:∀ h',i9 h' x dx C (fun y=>if y=name then some v else mA y)->Heap.SameBut dx s.heap h'->Q () { s with heap:=h',toks:=s.toks + 2 }) :
  wpAny (model prog w) A (setAttr (.ref x) name v) Q E s:=by
 obtain ⟨od,J,hl⟩:=I.look
 refine W.set_plain X J hs (W.osa_open (s:={ s with toks:=s.toks + 1 }) (r:=none) X J hp ht fun b=>?_)
 obtain ⟨cd,hc,hd'⟩:=W.any_some hh
 have hx:s.heap.get? x=some ⟨.ref C,some dx,.plain,#[]⟩:=I.obj
 refine wpAny_bind (wpAny_pure (wpAny_bind (wpAny_bind (wpAny_loadPart hx (wpAny_bind (W.Looks.here (s:={ s with toks:=s.toks + 1 }) (W.looks_clsIn X hc) ?_))))))
 rw [hd']
 refine wpAny_pure (a:=some dx) (wpAny_bind (wpAny_pure (wpAny_bind ?_)))
 refine wpAny_nsSet1 (s:={ s with toks:=s.toks + 1 }) I.ns fun h' hn2 hs2=>?_
 obtain ⟨oD,esD,epD,hoD,hdD,hcD⟩:=hn2.count (PySem.Within.cons name v hw)
 refine wpAny_bind (wpAny_lookBehind hoD (by rw [hdD];exact pastItsLine_dict (zKH hcD (by rw [zKR];omega))) ?_)
 exact wpAny_pure (h _ ⟨(hs2.2 _ (Ne.symm I.ne)).trans I.obj,hn2,I.ne⟩ hs2)
theorem zAC {R:Result->Shared->Prop} {vs:List Value} {kw:List (Str × Value)} (X:K.In s.heap) (hm:W.makesIn K C=true)
  (hi:W.findIn K (.ref C) "__init__"=some (some (.ref f))) (hf:W.typeIn K (.ref f)=some (.type "function"))
  (h:codeAny (model prog w) (A.under (.builtin "type.__call__" ⟨.ref C :: vs,kw⟩)) (.call (.ref f) ⟨.ref (s.heap.objs.size + 1) :: vs,kw⟩) (W.InitBack (s.heap.objs.size + 1) R)
   { s with heap:=(s.heap.push W.emptyDict).push (W.instObj C s.heap.objs.size) }) :
  codeAny (model prog w) A (.call (.ref C) ⟨vs,kw⟩) R s:=by
 obtain ⟨hh,g,d,t,os⟩:=s
 exact W.make_core (W.makes_of X hm) (W.looks_findIn X hi) (fun self=>W.bind_fn X self hf) (.inl rfl) h
end
def yL (f:Str) (v:V):List (Str × V)->List (Str × V)
 | []=>[(f,v)]
 | (g,x) :: r=>if g=f then (g,v) :: r else (g,x) :: yL f v r
theorem rR (f g:Str) (v:V):∀ fs:List (Str × V),(yL f v fs).lookup g=if g=f then some v else fs.lookup g
 | []=>by
  show List.lookup g [(f,v)]=_
  by_cases h:g=f
  ·have hb:(g == f)=true:=beq_iff_eq.mpr h
   simp only [List.lookup,hb,if_pos h]
  ·have hb:(g == f)=false:=beq_eq_false_iff_ne.mpr h
   simp only [List.lookup,hb,if_neg h]
 | (k,x) :: r=>by
  have ih:=rR f g v r
  rw [show yL f v ((k,x) :: r)=(if k=f then (k,v) :: r else (k,x) :: yL f v r) from rfl]
  by_cases hk:k=f
  ·rw [if_pos hk]
   by_cases h:g=k
   ·have hb:(g == k)=true:=beq_iff_eq.mpr h
    simp only [List.lookup,hb,if_pos (h.trans hk)]
   ·have hb:(g == k)=false:=beq_eq_false_iff_ne.mpr h
    simp only [List.lookup,hb,if_neg (fun e:g=f=>h (e.trans hk.symm))]
  ·rw [if_neg hk]
   by_cases h:g=k
   ·have hb:(g == k)=true:=beq_iff_eq.mpr h
    simp only [List.lookup,hb,if_neg (fun e:g=f=>hk (h.symm.trans e))]
   ·have hb:(g == k)=false:=beq_eq_false_iff_ne.mpr h
    simp only [List.lookup,hb]
    exact ih
theorem rJ (f:Str) (v:V):∀ fs:List (Str × V),f ∈ (yL f v fs).map (·.1)/\∀ g,g ∈ fs.map (·.1)->g ∈ (yL f v fs).map (·.1)
 | []=>⟨by simp [yL],fun g h=>by simp at h⟩
 | (k,x) :: r=>by
  obtain ⟨i1,i2⟩:=rJ f v r
  rw [show yL f v ((k,x) :: r)=(if k=f then (k,v) :: r else (k,x) :: yL f v r) from rfl]
  by_cases hk:k=f
  ·rw [if_pos hk]
   subst hk
   exact ⟨by simp,fun g h=>by simpa using h⟩
  ·rw [if_neg hk]
   refine ⟨?_,fun g h=>?_⟩
   ·rw [List.map_cons]
    exact zKJ _ i1
   ·rw [List.map_cons] at h ⊢
    rcases List.mem_cons.mp h with e | e
    ·exact List.mem_cons.mpr (.inl e)
    ·exact zKJ _ (i2 g e)
theorem rS (f:Str) (v:V):∀ fs:List (Str × V),(yL f v fs).length <= fs.length + 1
 | []=>by simp [yL]
 | (k,x) :: r=>by
  have ih:=rS f v r
  rw [show yL f v ((k,x) :: r)=(if k=f then (k,v) :: r else (k,x) :: yL f v r) from rfl]
  by_cases hk:k=f
  ·rw [if_pos hk,zKR,zKR];omega
  ·rw [if_neg hk,zKR,zKR];omega
theorem tJ.some_of {v:V} {o:Option Value} (r:tJ (some v) o):∃ u,o=some u/\z7 v u:=by
 cases o with
 | none=>exact (show False from r).elim
 | some u=>exact ⟨u,rfl,r⟩
theorem tJ.none_of {o:Option Value} (r:tJ none o):o=none:=by
 cases o with
 | none=>rfl
 | some u=>exact (show False from r).elim
theorem dQ {v:V} {u:Value} (r:z7 v u):W.handedIn u=true:=by
 cases v with
 | non=>cases (show u=Value.none from r);rfl
 | bl b=>cases (show u=Value.bool b from r);rfl
 | int i=>obtain ⟨t,e⟩:=(show ∃ t,u=Value.int i t from r);cases e;rfl
 | str x=>obtain ⟨t,e⟩:=(show ∃ t,u=Value.str x t from r);cases e;rfl
 | byt b=>obtain ⟨t,e⟩:=(show ∃ t,u=Value.bytes b t from r);cases e;rfl
 | flt b=>obtain ⟨t,e⟩:=(show ∃ t,u=Value.float b t from r);cases e;rfl
 | ref a=>cases (show u=Value.ref a from r);rfl
 | ty n=>cases (show u=Value.type n from r);rfl
section
variable {P:Program} {w:World} {H H':Hp} {h h':Heap} {a C dx:Addr} {fs fs':List (Str × V)}
theorem qH (hok:HOk P w H h) (e:H a=some (.ins C dx fs)):∃ mA,i9 h a dx C mA/\(∀ f,tJ (fs.lookup f) (mA f))/\PySem.Within mA (fs.map (·.1))/\fs.length <= 1000/\H dx=some (.own a):=by
 obtain ⟨d,z,ne,ob,mA,n,r,q⟩:=(show yV P w H h a (.ins C dx fs) from hok a _ e)
 exact ⟨mA,⟨ob,n,ne⟩,r,q,z,d⟩
end
structure Cls (K:W.Frag) (C:Addr):Prop where
 pg:W.plainGet K C Str.empty=true
 hd:W.hasDictIn K C=true
 po:W.plainOver K C=true
 sa:W.findIn K (.ref C) "__setattr__"=some (some (.builtin "object.__setattr__"))
theorem Cls.get {K:W.Frag} {C:Addr} (c:Cls K C) (f:Str):W.plainGet K C f=true:=c.pg
def xC (K:W.Frag) (C:Addr) (f:Str):Prop:=W.findIn K (.ref C) f=some none
theorem xC.taker {K:W.Frag} {C:Addr} {f:Str} (n:xC K C f):W.takerIn K C f=some none:=by
 unfold W.takerIn
 rw [show W.findIn K (.ref C) f=some none from n]
 rfl
structure zBO (K:W.Frag) (C:Addr) (m:Str) (f:Addr):Prop where
 at_:W.findIn K (.ref C) m=some (some (.ref f))
 fn:W.isFn K (.ref f)=true
 kp:W.keepIn K (.ref f)=true
section
variable {X:Cx} {zp:LAO} {σ:St} {H:Hp} {s:Shared} {a C dx:Addr} {fs:List (Str × V)} {f:Str} {v:V} {A:Around} {E:VSP}
theorem iT {b:Bool} {Q:VSP} (I:Inv X zp σ H s) (e:H a=some (.ins C dx fs)) (c:Cls X.K C) (n:xC X.K C f) (l:fs.lookup f=some v)
  (h:∀ u s',Inv X zp σ H s'->z7 v u->Q u s'):wpAny (model X.prog X.w) A (getAttr (.ref a) f b) Q E s:=by
 obtain ⟨mA,O,r,_,_,_⟩:=qH I.hok e
 obtain ⟨u,hu,ru⟩:=tJ.some_of (v:=v) (o:=mA f) (by rw [<- l];exact r f)
 exact zDC I.kIn O (c.get f) c.hd n hu (dQ ru) (h u _ (I.tok _) ru)
theorem pH {m:Str} {g:Addr} {pl:Sem Bool} {Q:Value × List Value->Shared->Prop} (I:Inv X zp σ H s) (e:H a=some (.ins C dx fs)) (c:Cls X.K C) (k:zBO X.K C m g) (l:fs.lookup m=none)
  (h:Q (.ref g,[.ref a]) s):wpAny (model X.prog X.w) A (getMethod (.ref a) m pl) Q E s:=by
 obtain ⟨mA,O,r,_,_,_⟩:=qH I.hok e
 have hn:mA m=none:=tJ.none_of (by rw [<- l];exact r m)
 exact zAS I.kIn O (c.get m) k.at_ k.fn hn h
theorem j8 {y:V} {u:Value} {Q:Unit->Shared->Prop} (I:Inv X zp σ H s) (e:H a=some (.ins C dx fs)) (c:Cls X.K C) (n:xC X.K C f) (hl:fs.length < 1000) (ry:z7 y u)
  (h:∀ s',Inv X zp σ (upd H a (.ins C dx (yL f y fs))) s'->Q () s'):wpAny (model X.prog X.w) A (setAttr (.ref a) f u) Q E s:=by
 obtain ⟨mA,O,r,wi,_,ho⟩:=qH I.hok e
 have hz:(fs.map (·.1)).length <= sizeLine:=by rw [zJ6,sizeLine_eq];omega
 refine zB0 I.kIn O c.sa c.po n.taker c.hd wi hz fun h' O' sb=>h _ ?_
 have hd:∃ o,h'.get? dx=some o:=let ⟨o,_,_,e',_⟩:=O'.ns;⟨o,e'⟩
 refine I.write (x:=a) (e:=dx) (by rw [e];exact True.intro) (.inr ho) (fun b q hb z=>(sb.2 b hb).trans z) hd ?_
 refine ⟨by rw [zJ O.ne];exact ho,?_,O.ne,O'.obj,_,O'.ns,fun g=>?_,fun g hg=>?_⟩
 ·have:=rS f y fs;omega
 ·show tJ ((yL f y fs).lookup g) (if g=f then some u else mA g)
  rw [rR]
  by_cases q:g=f
  ·rw [if_pos q,if_pos q];exact ry
  ·rw [if_neg q,if_neg q];exact r g
 ·by_cases q:g=f
  ·rw [q];exact (rJ f y fs).1
  ·refine (rJ f y fs).2 g (wi g fun z=>hg ?_)
   show (if g=f then some u else mA g)=none
   rw [if_neg q];exact z
theorem Inv.made (I:Inv X zp σ H s):Inv X zp σ (upd (upd H s.heap.objs.size (.own (s.heap.objs.size + 1))) (s.heap.objs.size + 1) (.ins C s.heap.objs.size []))
  { s with heap:=(s.heap.push W.emptyDict).push (W.instObj C s.heap.objs.size) }:=by
 have e1:(s.heap.push W.emptyDict).get? s.heap.objs.size=some W.emptyDict:=Heap.get?_push_size s.heap rfl
 have e2:((s.heap.push W.emptyDict).push (W.instObj C s.heap.objs.size)).get? (s.heap.objs.size + 1)=some (W.instObj C s.heap.objs.size):=by
  have:=Heap.get?_push_size (s.heap.push W.emptyDict) (o:=W.instObj C s.heap.objs.size) rfl
  rwa [Heap.size_push] at this
 have e3:(s.heap.push W.emptyDict).Ns s.heap.objs.size (fun _=>none):=⟨W.emptyDict,#[],_,e1,rfl,(fun e he=>absurd he (by simp)),fun _=>rfl⟩
 have I1:=I.laid (a:=s.heap.objs.size) (o:=.own (s.heap.objs.size + 1)) (h':=s.heap.push W.emptyDict) (t':=s.toks) (fun b u q=>Heap.get?_push_of_some _ q) (zKF _) ⟨_,e1⟩
 refine I1.laid (a:=s.heap.objs.size + 1) (o:=.ins C s.heap.objs.size []) (t':=s.toks) (fun b u q=>Heap.get?_push_of_some _ q) (Nat.le_of_eq (Heap.size_push _ _)) ?_
 have ne:s.heap.objs.size ≠ s.heap.objs.size + 1:=zKX (Nat.lt_succ_self _)
 refine ⟨by rw [zJ ne,zB],zKG _,ne,e2,fun _=>none,(Heap.Ns1.of_empty e3).at fun o q=>Heap.get?_push_of_some _ q,fun _=>True.intro,fun y hy=>absurd rfl hy⟩
theorem zDT {prog:Program} {w:World} {env:Env} {e:Expr} {f:Str} {pos:Pos} {s:Shared} {Q:VSP} (hb:attributeBase e f env (eval e env)=eval e env)
  (h:wpAny (model prog w) A (eval e env) (fun o s₁=>wpAny (model prog w) A (getAttr o f true) Q E s₁) E s):wpAny (model prog w) A (eval (.Attribute e f pos) env) Q E s:=
 Attribute_any_ h (by rw [arm_eval_Attribute,hb])
end
def tFld (K:W.Frag) (ta:TE) (f:Str):TE:=fun σ H Q=>ta σ H fun x H1=>∃ a C dx fs v,x=.ref a/\H1 a=some (.ins C dx fs)/\Cls K C/\xC K C f/\fs.lookup f=some v/\Q v H1
def bW (K:W.Frag) (ta tv:TE) (f:Str):TS:=fun D σ H=>tv σ H fun y H1=>ta σ H1 fun x H2=>∃ a C dx fs,x=.ref a/\H2 a=some (.ins C dx fs)/\Cls K C/\xC K C f/\fs.length < 1000 /\
 D.nx σ (upd H2 a (.ins C dx (yL f y fs)))
section
variable {X:Cx} {o e value:Expr} {f:Str} {pos pos' tpos:Pos} {ta tv:TE}
theorem zQ (he:PE X e ta) (hb:attributeBase e f X.env (eval e X.env)=eval e X.env):PE X (.Attribute e f pos) (tFld X.K ta f):=by
 intro zp s σ H Q I h
 refine zDT hb (thn (he zp s σ H _ I h) fun u s1 hz26=>?_)
 obtain ⟨x,H1,I1,rx,a,C,dx,fs,v,ex,ea,c,n,l,q⟩:=hz26
 subst ex
 obtain rfl:u=Value.ref a:=rx
 exact iT I1 ea c n l fun u' s2 I2 ru=>⟨v,H1,I2,ru,q⟩
theorem yX (ha:PE X o ta) (hv:PE X value tv) (hs:swapsWith value (some (.Attribute o f pos')) pos.line X.env=pure false):PS X (.Assign [.Attribute o f pos'] value pos) (bW X.K ta tv f):=by
 intro zp s σ H D I h
 refine plainObj_wpAny_Assign_Attribute (thn (hv zp s σ H _ I h) fun u s1 hz27=>?_) hs
 obtain ⟨y,H1,I1,ry,q⟩:=hz27
 refine thn (ha zp s1 σ H1 _ I1 q) fun ov s2 hz28=>?_
 obtain ⟨x,H2,I2,rx,a,C,dx,fs,ex,ea,c,n,l,q2⟩:=hz28
 subst ex
 obtain rfl:ov=Value.ref a:=rx
 exact j8 I2 ea c n l ry fun s3 I3=>⟨σ,_,I3,q2⟩
end
section
variable {X:Cx} {zp:LAO} {σ:St} {H:Hp} {s:Shared} {A:Around} {E:VSP} {Q:VSP} {c:Value} {b:Bool}
inductive tS (K:W.Frag) (H:Hp):V->Value->Prop where
 | non:tS K H .non (.type "NoneType")
 | bl (x:Bool):tS K H (.bl x) (.type "bool")
 | int (i:Int):tS K H (.int i) (.type "int")
 | str (x:Str):tS K H (.str x) (.type "str")
 | flt (x:UInt64):tS K H (.flt x) (.type "float")
 | lst {a:Addr} {xs:List V} (e:H a=some (.lst xs)):tS K H (.ref a) (.type "list")
 | frz {a:Addr} {o:Obj} {xs:List V} (e:H a=some (.frz o (.lst xs))):tS K H (.ref a) (.type "list")
 | tup {a:Addr} {xs:List V} (e:H a=some (.tup xs)):tS K H (.ref a) (.type "tuple")
 | dK {a:Addr} {kvs:List (Key × V)} (e:H a=some (.dK kvs)):tS K H (.ref a) (.type "dict")
 | dT {a:Addr} {kvs:List (List Key × V)} (e:H a=some (.dT kvs)):tS K H (.ref a) (.type "dict")
 | ins {a C dx:Addr} {fs:List (Str × V)} (e:H a=some (.ins C dx fs)) (cl:Cls K C) (ha:W.findIn K (.ref C) "__class__"=some (some (.builtin "object.__class__")))
   (hn:W.specialIn K (.builtin "object.__class__") "__get__"=some (some (.builtin "getset_descriptor.__get__"))) (htk:W.takesIn K (.builtin "object.__class__")=some true)
   (hm:W.mroIn K C (.type "object")=some true):tS K H (.ref a) (.ref C)
theorem oP {x:V} {u t:Value} (I:Inv X zp σ H s) (rx:z7 x u) (ty:tS X.K H x t) (e:W.kitOne X.K t c=some b) (h:∀ tk,Q (.bool b) { s with toks:=tk }) :
  wpAny (model X.prog X.w) A (call (.builtin "isinstance") [u,c]) Q E s:=by
 cases ty with
 | non=>cases (show u=Value.none from rx);exact W.kia_one W.kitx_none I.kIn True.intro e (fun z=>nomatch z) h
 | bl y=>cases (show u=Value.bool y from rx);exact W.kia_one W.kitx_bool I.kIn True.intro e (fun z=>nomatch z) h
 | int i=>obtain ⟨t,q⟩:=(show ∃ t,u=Value.int i t from rx);cases q;exact W.kia_one W.kitx_int I.kIn True.intro e (fun z=>nomatch z) h
 | str y=>obtain ⟨t,q⟩:=(show ∃ t,u=Value.str y t from rx);cases q;exact W.kia_one W.kitx_str I.kIn True.intro e (fun z=>nomatch z) h
 | flt y=>obtain ⟨t,q⟩:=(show ∃ t,u=Value.float y t from rx);cases q;exact W.kia_one W.kitx_float I.kIn True.intro e (fun z=>nomatch z) h
 | @lst a xs ea=>
  cases (show u=Value.ref a from rx)
  obtain ⟨_,_,n,_,h1⟩:=(show yV X.prog X.w H s.heap a (.lst xs) from I.hok a _ ea)
  exact W.kia_one W.kitx_list I.kIn ⟨_,h1,rfl⟩ e (fun z=>nomatch z) h
 | @frz a ob xs ea=>
  cases (show u=Value.ref a from rx)
  obtain ⟨_,_,_,n,_,h1⟩:=(show yV X.prog X.w H s.heap a (.frz ob (.lst xs)) from I.hok a _ ea)
  exact W.kia_one W.kitx_list I.kIn ⟨_,h1,rfl⟩ e (fun z=>nomatch z) h
 | @tup a xs ea=>
  cases (show u=Value.ref a from rx)
  obtain ⟨_,_,_,p⟩:=(show yV X.prog X.w H s.heap a (.tup xs) from I.hok a _ ea)
  obtain ⟨o,h1,h2,_⟩:=p
  exact W.kia_one W.kitx_tuple I.kIn ⟨o,h1,h2⟩ e (fun z=>nomatch z) h
 | @dK a kvs ea=>
  cases (show u=Value.ref a from rx)
  obtain ⟨_,_,vs,_,p⟩:=(show yV X.prog X.w H s.heap a (.dK kvs) from I.hok a _ ea)
  obtain ⟨o,es,ep,h1,h2,_⟩:=p
  exact W.kia_one W.kitx_dict I.kIn ⟨o,h1,h2.1⟩ e (fun z=>nomatch z) h
 | @dT a kvs ea=>
  cases (show u=Value.ref a from rx)
  obtain ⟨_,_,xs,_,o,es,ep,h1,h2,_⟩:=(show yV X.prog X.w H s.heap a (.dT kvs) from I.hok a _ ea)
  exact W.kia_one W.kitx_dict I.kIn ⟨o,h1,h2.1⟩ e (fun z=>nomatch z) h
 | @ins a C dx fs ea cl ha hn htk hm=>
  cases (show u=Value.ref a from rx)
  obtain ⟨mA,O,_⟩:=qH I.hok ea
  obtain ⟨od,J,_⟩:=O.look
  exact W.kia_one (W.kitx_own (cl.get _) cl.hd ha hn htk hm) I.kIn J e (fun z=>nomatch z) h
end
structure zO (k:Nat) (A:Around):Prop where
 hd:A.handled=none
 dp:A.depth + 3 * k + 5 < recursionLimit
 un:A.units + 16 * k + 200 < cLine
theorem zO.mono {j k:Nat} {A:Around} (r:zO k A) (h:j <= k):zO j A:=⟨r.hd,by have:=r.dp;omega,by have:=r.un;omega⟩
theorem zO.deeper {k:Nat} {A:Around} (r:zO (k + 1) A) (env:Env):zO k (A.deeper env):=
 ⟨r.hd,by have:=r.dp;show A.depth + 1 + 3 * k + 5 < _;omega,by have:=r.un;show A.units + 3 + 16 * k + 200 < _;omega⟩
theorem iO {A:Around} {C:Addr} {us:List Value} {kw:List (Str × Value)}:(A.under (.builtin "type.__call__" ⟨.ref C :: us,kw⟩)).depth=A.depth + 1:=by
 first | rfl | simp [Around.under,Code.weight,Code.isCreation,Code.isGuard,Code.isCaller,Code.frames,Code.isFrame,guardIds]
theorem iN {A:Around} {C:Addr} {us:List Value} {kw:List (Str × Value)}:(A.under (.builtin "type.__call__" ⟨.ref C :: us,kw⟩)).units=A.units + 1:=by
 first | rfl | simp [Around.under,Code.cUnits,Code.frames,Code.isFrame]
theorem zO.make {k:Nat} {A:Around} (r:zO (k + 1) A) (C:Addr) (us:List Value) (kw:List (Str × Value)):zO k (A.under (.builtin "type.__call__" ⟨.ref C :: us,kw⟩)):=
 ⟨r.hd,by have:=r.dp;rw [iO];omega,by have:=r.un;rw [iN];omega⟩
theorem zO.depth {k:Nat} {A:Around} (r:zO k A):A.depth < recursionLimit:=by have:=r.dp;omega
theorem zO.units {k:Nat} {A:Around} (r:zO k A):A.units + 64 < cLine:=by have:=r.un;omega
def o8:TA:=fun _ H Q=>Q [] H
def oA (ta:TE) (tr:TA):TA:=fun σ H Q=>ta σ H fun x H1=>tr σ H1 fun xs H2=>Q (x :: xs) H2
section
variable {X:Cx} {e:Expr} {es:List Expr} {te:TE} {t:TA} {pos:Pos}
theorem zD:PA X [] o8:=fun _ _ _ _ H Q I h=>Calls.spliced_nil ⟨[],H,I,.nil,h⟩
theorem zA (ha:PE X e te) (hr:PA X es t) (hs:starEach (e :: es) X.env=(false,eval e X.env) :: starEach es X.env:=by rfl):PA X (e :: es) (oA te t):=by
 intro pos zp s σ H Q I h
 rw [hs]
 show wpAny _ _ (spliced ((false,eval e X.env) :: backTo pos (starEach es X.env))) _ _ s
 refine Calls.spliced_cons (thn (ha zp s σ H _ I h) fun u s1 hz29=>?_)
 obtain ⟨x,H1,I1,r1,q1⟩:=hz29
 exact thn (hr pos zp s1 σ H1 _ I1 q1) fun us s2 ⟨xs,H2,I2,r2,q2⟩=>⟨x :: xs,H2,I2,.cons r1 r2,q2⟩
def zHG (t:TA):TE:=fun σ H Q=>t σ H fun xs H1=>xs.length <= sizeLine/\∀ p,H1 p=none->Q (.ref p) (upd H1 p (.tup xs))
def cV (t:TA):TE:=fun σ H Q=>t σ H fun xs H1=>xs.length <= sizeLine/\∀ p,H1 p=none->Q (.ref p) (upd H1 p (.lst xs))
theorem wJ {x1} (h:PA X es t):PE X (.Tuple es x1 pos) (zHG t):=by
 intro zp s σ H Q I hq
 refine wpAny_Tuple_spliced (thn (h pos zp s σ H _ I hq) fun us s1 hz30=>?_)
 obtain ⟨xs,H1,I1,r,z,q⟩:=hz30
 refine ⟨by rw [<- r.length];exact z,?_⟩
 have hf:H1 s1.heap.objs.size=none:=I1.hok.fresh (zKF _)
 refine ⟨.ref s1.heap.objs.size,upd H1 s1.heap.objs.size (.tup xs),I1.laid (t':=s1.toks) (fun b u e=>Heap.get?_push_of_some _ e) (zKF _) ?_,rfl,q _ hf⟩
 exact ⟨z,us,r,⟨_,Heap.get?_push_size _ rfl,rfl,_,rfl⟩⟩
theorem zX (h:PA X es t):PE X (.List es pos) (cV t):=by
 intro zp s σ H Q I hq
 refine wpAny_List_spliced (thn (h pos zp s σ H _ I hq) fun us s1 hz31=>?_)
 obtain ⟨xs,H1,I1,r,z,q⟩:=hz31
 refine ⟨by rw [<- r.length];exact z,?_⟩
 have hf:H1 s1.heap.objs.size=none:=I1.hok.fresh (zKF _)
 refine ⟨.ref s1.heap.objs.size,upd H1 s1.heap.objs.size (.lst xs),I1.laid (t':=s1.toks) (fun b u e=>Heap.get?_push_of_some _ e) (zKF _) ?_,rfl,q _ hf⟩
 exact ⟨z,us,0,r,Heap.get?_push_size _ rfl⟩
end
abbrev Sp:=List V->Hp->VK->XK->Prop
abbrev CXT:=List Env->Hp->Shared->XK->VSP
structure jR (P:Program) (w:World) (K:W.Frag) (mg:Str->Option Value) (base:Heap) (A:Around) (outer:List Env) (s:Shared) (H:Hp):Prop where
 frames:A.frames=some outer
 mod:Mod K mg base
 bs:∀ b o,base.get? b=some o->s.heap.get? b=some o/\H b=none
 bsz:base.objs.size <= s.heap.objs.size
 funs:s.heap.FunFrames base outer
 frf:∀ b ∈ frs outer,H b=none
 hok:HOk P w H s.heap
 bare:AllBare s.gens
def CE (outer:List Env) (P:Program) (w:World) (H:Hp) (s:Shared) (Q:VK) (u:Value) (s':Shared):Prop:=
 ∃ v H',s'.os=s.os/\AllBare s'.gens/\Un (frs outer) [] H H' s.heap s'.heap/\HOk P w H' s'.heap/\z7 v u/\Q v H'
def CR (CX:CXT) (outer:List Env) (P:Program) (w:World) (H:Hp) (s:Shared) (Q:VK) (E:XK) (r:Result) (s':Shared):Prop:=
 match r with
 | .ok (.ret u)=>CE outer P w H s Q u s'
 | .ok _=>False
 | .error e=>CX outer H s E e s'
structure vZ (P:Program) (w:World) (K:W.Frag) (mg:Str->Option Value) (base:Heap) (CX:CXT) (k:Nat) (f:Addr) (fd:FuncData) (ps:List Str) (sp:Sp):Prop where
 len:∀ vs H Q E,sp vs H Q E->vs.length=ps.length
 run:∀ (A:Around) (outer:List Env) (s:Shared) (H:Hp) (args:Args) (us:List Value) (vs:List V) (Q:VK) (E:XK),zO k A->jR P w K mg base A outer s H->BindsTo s fd args (ps.zip us)->zY vs us->sp vs H Q E ->
  codeAny (model P w) A (.call (.ref f) args) (CR CX outer P w H s Q E) s
theorem jR.make {P:Program} {w:World} {K:W.Frag} {mg:Str->Option Value} {base:Heap} {A:Around} {outer:List Env} {s:Shared} {H:Hp} (e:jR P w K mg base A outer s H) (C:Addr) (us:List Value) (kw:List (Str × Value)) :
  jR P w K mg base (A.under (.builtin "type.__call__" ⟨.ref C :: us,kw⟩)) outer s H:=⟨by first | exact e.frames | (simpa [Around.under,Code.envs,Code.isFrame,pushEnvs] using e.frames),e.mod,e.bs,e.bsz,e.funs,e.frf,e.hok,e.bare⟩
section
variable {X:Cx} {zp:LAO} {σ:St} {H:Hp} {s s':Shared}
theorem Inv.env0 (I:Inv X zp σ H s):jR X.prog X.w X.K X.mg X.base X.A X.stack s H:=
 ⟨I.ok.frames,I.ok.mod,I.bs,zKH I.ok.bsz I.sz,I.stack,I.stkFree,I.hok,I.bare⟩
theorem Inv.after {Q:VK} {u:Value} (I:Inv X zp σ H s) (h:CE X.stack X.prog X.w H s Q u s'):EP X zp σ Q u s':=by
 obtain ⟨v,H',os,bare,un,hok,r,q⟩:=h
 obtain ⟨hh,g,d,t,os'⟩:=s'
 obtain rfl:os'=s.os:=os
 exact ⟨v,H',I.call (h':=hh) (g':=g) (d':=d) (t':=t) (ch:=[]) un hok bare (fun b z=>absurd z (by simp)),r,q⟩
end
def h9 (sp:Sp) (dvs:List V) (E:XK) (t:TA):TE:=fun σ H Q=>t σ H fun vs H1=>sp (vs ++ dvs) H1 Q E
def m5 (C:Addr) (m:Str) (sp:Sp) (dvs:List V) (E:XK) (ta:TE) (t:TA):TE:=fun σ H Q=>ta σ H fun x H1=>∃ a dx fs,x=.ref a/\H1 a=some (.ins C dx fs)/\fs.lookup m=none /\
 t σ H1 fun vs H2=>sp (x :: (vs ++ dvs)) H2 Q E
def cU (C:Addr) (sp:Sp) (dvs:List V) (E:XK) (t:TA):TE:=fun σ H Q=>t σ H fun vs H1=>∀ x dx,H1 x=none->H1 dx=none->dx ≠ x ->
 sp (.ref x :: (vs ++ dvs)) (upd (upd H1 dx (.own x)) x (.ins C dx [])) (fun v H2=>v=.non/\Q (.ref x) H2) E
def vY (K:W.Frag) (fd:FuncData) (ps:List Str) (ds:List Value):Prop:=
 ∀ (s:Shared) (us:List Value),K.In s.heap->(us ++ ds).length=ps.length->BindsTo s fd ⟨us,[]⟩ (ps.zip (us ++ ds))
theorem vY.all {K:W.Frag} {fd:FuncData} {ps:List Str} (h:∀ us:List Value,us.length=ps.length->bindArgs fd ⟨us,[]⟩=pure (ps.zip us)):vY K fd ps []:=fun s us _ hl=>by
 rw [List.append_nil] at hl ⊢
 exact .of_eq (h us hl)
def vK (CX:CXT) (X:Cx) (E:XK):Prop:=∀ (zp:LAO) (σ:St) (H:Hp) (s:Shared) (e:Value) (s':Shared),Inv X zp σ H s->CX X.stack H s E e s'->X.xe e s'
section
variable {X:Cx} {CX:CXT} {k:Nat} {f C:Addr} {fd:FuncData} {ps:List Str} {sp:Sp} {dvs:List V} {ds:List Value} {E:XK} {x m:Str} {p pos apos:Pos} {e o:Expr} {es:List Expr} {ta:TE} {t:TA}
theorem iB {zp:LAO} {σ:St} {H:Hp} {s:Shared} {Q:VK} {us:List Value} {vs:List V} (F:vZ X.prog X.w X.K X.mg X.base CX k f fd ps sp) (hr:zO k X.A) (hb:vY X.K fd ps ds) (hd:zY dvs ds) (hx:vK CX X E)
  (I:Inv X zp σ H s) (r:zY vs us) (h:sp (vs ++ dvs) H Q E):wpAny (model X.prog X.w) X.A (call (.ref f) us) (EP X zp σ Q) X.xe s:=by
 have r2:zY (vs ++ dvs) (us ++ ds):=r.append hd
 have hl:(us ++ ds).length=ps.length:=by rw [<- r2.length];exact F.len _ _ _ _ h
 refine wpAny_call (codeAny_mono (F.run X.A X.stack s H ⟨us,[]⟩ (us ++ ds) (vs ++ dvs) Q E hr I.env0 (hb s us I.kIn hl) r2 h) fun r s' hq=>?_)
 cases r with
 | error e=>exact hx zp σ H s e s' I hq
 | ok fl=>
  cases fl with
  | ret u=>exact I.after hq
  | next=>exact False.elim hq
  | brk=>exact False.elim hq
  | cont=>exact False.elim hq
theorem gY (F:vZ X.prog X.w X.K X.mg X.base CX k f fd ps sp) (hr:zO k X.A) (hg:Gl X x) (hm:X.mg x=some (.ref f)) (hk:W.keepIn X.K (.ref f)=true) (hb:vY X.K fd ps ds) (hd:zY dvs ds) (hx:vK CX X E)
  (ha:PA X (e :: es) t) (hdb:(x == ("__debug__" : Str))=false:=by decide) (he:starEach (e :: es) X.env=(false,eval e X.env) :: starEach es X.env:=by rfl) (hpl:(backTo pos (starEach es X.env)).any (·.1)=false:=by rfl) :
  PE X (.Call (.Name x p) (e :: es) [] pos) (h9 sp dvs E t):=by
 intro zp s σ H Q I h
 refine wpAny_Call_Name_kw (tE I hg hm ?_ hdb)
 refine W.callWith_K (h₀:=X.base) I.ok.mod.kin hk (thn (ha pos zp s σ H _ I h) fun us s1 hz32=>?_) he hpl
 obtain ⟨vs,H1,I1,r,q⟩:=hz32
 refine ⟨I1.kIn,?_⟩
 exact iB F hr hb hd hx I1 r q
theorem gU {pl:Sem Bool} (he:PE X o ta) (c:Cls X.K C) (hm:zBO X.K C m f) (F:vZ X.prog X.w X.K X.mg X.base CX k f fd ps sp) (hr:zO k X.A) (hb:vY X.K fd ps ds) (hd:zY dvs ds) (hx:vK CX X E) (ha:PA X (e :: es) t)
  (hst:starEach (e :: es) X.env=(false,eval e X.env) :: starEach es X.env:=by rfl) (hpl:(backTo pos (starEach es X.env)).any (·.1)=false:=by rfl)
  (ht:eval (.Call (.Attribute o m apos) (e :: es) [] pos) X.env=(do
   let ov <- eval o X.env
   standAt apos.atName
   let (f,first) <- holding [ov] (getMethod ov m pl)
   callWith pos f first (backTo pos (starEach (e :: es) X.env)) (backToKw pos (keywordEach [] X.env))):=by rfl) :
  PE X (.Call (.Attribute o m apos) (e :: es) [] pos) (m5 C m sp dvs E ta t):=by
 intro zp s σ H Q I h
 refine W.methodCall_KW (pl:=pl) (thn (he zp s σ H _ I h) fun u s1 hz33=>?_) ht
 obtain ⟨x,H1,I1,rx,a,dx,fs,ex,ea,l,q⟩:=hz33
 subst ex
 obtain rfl:u=Value.ref a:=rx
 refine pH I1 ea c hm l ?_
 refine W.callWith_K (first:=[.ref a]) (h₀:=X.base) I.ok.mod.kin hm.kp (thn (ha pos zp s1 σ H1 _ I1 q) fun us s2 hz34=>?_) hst hpl
 obtain ⟨vs,H2,I2,r,q2⟩:=hz34
 refine ⟨I2.kIn,?_⟩
 exact iB (us:=.ref a :: us) (vs:=.ref a :: vs) F hr hb hd hx I2 (.cons rfl r) q2
theorem aN {pl:Sem Bool} (he:PE X o ta) (c:Cls X.K C) (hm:zBO X.K C m f) (F:vZ X.prog X.w X.K X.mg X.base CX k f fd ps sp) (hr:zO k X.A) (hb:vY X.K fd ps ds) (hd:zY dvs ds) (hx:vK CX X E)
  (ht:eval (.Call (.Attribute o m apos) [] [] pos) X.env=(do
   let ov <- eval o X.env
   standAt apos.atName
   let (f,first) <- holding [ov] (getMethod ov m pl)
   callWith pos f first (backTo pos (starEach [] X.env)) (backToKw pos (keywordEach [] X.env))):=by rfl) :
  PE X (.Call (.Attribute o m apos) [] [] pos) (m5 C m sp dvs E ta o8):=by
 intro zp s σ H Q I h
 refine W.methodCall_KW (pl:=pl) (thn (he zp s σ H _ I h) fun u s1 hz35=>?_) ht
 obtain ⟨x,H1,I1,rx,a,dx,fs,ex,ea,l,q⟩:=hz35
 subst ex
 obtain rfl:u=Value.ref a:=rx
 refine pH I1 ea c hm l ?_
 exact W.callWith_K0 (first:=[.ref a]) I1.kIn hm.kp (iB (us:=[.ref a]) (vs:=[.ref a]) F hr hb hd hx I1 (.cons rfl .nil) q)
structure Mk (K:W.Frag) (C f:Addr):Prop where
 makes:W.makesIn K C=true
 init:W.findIn K (.ref C) "__init__"=some (some (.ref f))
 fn:W.isFn K (.ref f)=true
 kp:W.keepIn K (.ref C)=true
theorem bZ {zp:LAO} {σ:St} {H:Hp} {s:Shared} {Q:VK} {us:List Value} {vs:List V} (M:Mk X.K C f) (F:vZ X.prog X.w X.K X.mg X.base CX k f fd ps sp) (hr:zO (k + 1) X.A) (hb:vY X.K fd ps ds) (hd:zY dvs ds)
  (hx:vK CX X E) (I:Inv X zp σ H s) (r:zY vs us)
  (h:∀ x dx,H x=none->H dx=none->dx ≠ x->sp (.ref x :: (vs ++ dvs)) (upd (upd H dx (.own x)) x (.ins C dx [])) (fun v H2=>v=.non/\Q (.ref x) H2) E) :
  wpAny (model X.prog X.w) X.A (call (.ref C) us) (EP X zp σ Q) X.xe s:=by
 have hq:=h (s.heap.objs.size + 1) s.heap.objs.size (I.hok.fresh (Nat.le_succ _)) (I.hok.fresh (zKF _)) (zKX (Nat.lt_succ_self _))
 have I2:=Inv.made (C:=C) I
 have r2:zY (V.ref (s.heap.objs.size + 1) :: (vs ++ dvs)) (Value.ref (s.heap.objs.size + 1) :: (us ++ ds)):=.cons rfl (r.append hd)
 have hl:(Value.ref (s.heap.objs.size + 1) :: us ++ ds).length=ps.length:=by
  have e:=r2.length
  rw [F.len _ _ _ _ hq] at e
  exact e.symm
 refine wpAny_call (zAC (f:=f) I.kIn M.makes M.init (beq_iff_eq.mp M.fn) (codeAny_mono (F.run _ X.stack _ _ ⟨Value.ref (s.heap.objs.size + 1) :: us,[]⟩ (Value.ref (s.heap.objs.size + 1) :: (us ++ ds)) _ _ E (hr.make C us [])
  (I2.env0.make C us []) (hb _ (Value.ref (s.heap.objs.size + 1) :: us) I2.kIn hl) r2 hq) fun r s' hq'=>?_))
 cases r with
 | error e=>exact hx zp σ _ _ e s' I2 hq'
 | ok fl=>
  cases fl with
  | ret u=>
   obtain ⟨v,H',I3,rv,ev,q3⟩:=I2.after hq'
   subst ev
   exact ⟨rv,⟨V.ref (s.heap.objs.size + 1),H',I3,rfl,q3⟩⟩
  | next=>exact False.elim hq'
  | brk=>exact False.elim hq'
  | cont=>exact False.elim hq'
theorem gW (M:Mk X.K C f) (F:vZ X.prog X.w X.K X.mg X.base CX k f fd ps sp) (hr:zO (k + 1) X.A) (hg:Gl X x) (hm:X.mg x=some (.ref C)) (hb:vY X.K fd ps ds) (hd:zY dvs ds) (hx:vK CX X E)
  (ha:PA X (e :: es) t) (hdb:(x == ("__debug__" : Str))=false:=by decide) (he:starEach (e :: es) X.env=(false,eval e X.env) :: starEach es X.env:=by rfl) (hpl:(backTo pos (starEach es X.env)).any (·.1)=false:=by rfl) :
  PE X (.Call (.Name x p) (e :: es) [] pos) (cU C sp dvs E t):=by
 intro zp s σ H Q I h
 refine wpAny_Call_Name_kw (tE I hg hm ?_ hdb)
 refine W.callWith_K (h₀:=X.base) I.ok.mod.kin M.kp (thn (ha pos zp s σ H _ I h) fun us s1 hz36=>?_) he hpl
 obtain ⟨vs,H1,I1,r,q⟩:=hz36
 refine ⟨I1.kIn,?_⟩
 exact bZ M F hr hb hd hx I1 r q
end
section
variable {X:Cx} {CX:CXT} {k:Nat} {f C:Addr} {fd:FuncData} {ps ks:List Str} {sp:Sp} {E:XK} {x m:Str} {p pos apos kpos:Pos} {e o:Expr} {es:List Expr} {kws:List Keyword} {te ta:TE} {t tk:TA} {nm:Option Str}
variable {g:List Value->List Value->List Value} {gV:List V->List V->List V}
end
structure zI (N P:List Str) (sc:Scope):Prop where
 kind:sc.kind=.function
 co:sc.isCoroutine=false
 gen:sc.isGenerator=false
 nd:N.Nodup
 pre:N.take P.length=P
 par:∀ x ∈ P,sc.names.lookup x=some .local \/ sc.names.lookup x=some .cell
 nofree:∀ y ∈ sc.names,y.2 ≠ .free
theorem scm {N P:List Str} {sc:Scope} (a:sc.kind=.function:=by rfl) (b:sc.isCoroutine=false:=by rfl) (c:sc.isGenerator=false:=by rfl) (d:N.Nodup:=by decide +kernel) (e:N.take P.length=P:=by rfl) (f:∀ x ∈ P,sc.names.lookup x=some .local \/ sc.names.lookup x=some .cell:=by decide +kernel)
  (g:∀ y ∈ sc.names,y.2 ≠ .free:=by decide +kernel):zI N P sc:=⟨a,b,c,d,e,f,g⟩
theorem oV {kindOf:Str->Option NameKind} {x:Str}:∀ {binds:List (Str × Value)} {m:Str->Option Value},(∀ v,(x,v) ∉ binds)->bindL kindOf binds m x=m x
 | [],_,_=>rfl
 | (n,v) :: r,m,h=>by
  unfold bindL
  rw [oV fun w hw=>h w (zKJ _ hw)]
  split
  ·have:x ≠ n:=by rintro rfl;exact h v zKZ
   simp [this]
  ·rfl
theorem oY {kindOf:Str->Option NameKind} {x:Str}:∀ {binds:List (Str × Value)} {m:Str->Option Value},(∀ v,(x,v) ∉ binds)->bindC kindOf binds m x=m x
 | [],_,_=>rfl
 | (n,v) :: r,m,h=>by
  unfold bindC
  rw [oY fun w hw=>h w (zKJ _ hw)]
  split
  ·rfl
  ·have:x ≠ n:=by rintro rfl;exact h v zKZ
   simp [this]
theorem oX {kindOf:Str->Option NameKind} {x:Str} {v:Value}:∀ {P:List Str} {vs:List Value} {i:Nat} {m:Str->Option Value},P.Nodup->P[i]?=some x->vs[i]?=some v->kindOf x=some .local ->
  bindL kindOf (P.zip vs) m x=some v
 | [],_,_,_,_,h,_,_=>by simp at h
 | _ :: _,[],_,_,_,_,h,_=>by simp at h
 | p :: P,w :: vs,0,m,nd,h1,h2,hk=>by
  simp at h1 h2;subst h1;subst h2
  show bindL kindOf ((p,w) :: P.zip vs) m p=_
  unfold bindL
  rw [oV fun v hv=>(List.nodup_cons.mp nd).1 (List.of_mem_zip hv).1,if_pos hk]
  simp
 | p :: P,w :: vs,i + 1,m,nd,h1,h2,hk=>by
  show bindL kindOf ((p,w) :: P.zip vs) m x=_
  unfold bindL
  exact oX (i:=i) (List.nodup_cons.mp nd).2 (by simpa using h1) (by simpa using h2) hk
theorem oZ {kindOf:Str->Option NameKind} {x:Str} {v:Value}:∀ {P:List Str} {vs:List Value} {i:Nat} {m:Str->Option Value},P.Nodup->P[i]?=some x->vs[i]?=some v->kindOf x ≠ some .local ->
  bindC kindOf (P.zip vs) m x=some v
 | [],_,_,_,_,h,_,_=>by simp at h
 | _ :: _,[],_,_,_,_,h,_=>by simp at h
 | p :: P,w :: vs,0,m,nd,h1,h2,hk=>by
  simp at h1 h2;subst h1;subst h2
  show bindC kindOf ((p,w) :: P.zip vs) m p=_
  unfold bindC
  rw [oY fun v hv=>(List.nodup_cons.mp nd).1 (List.of_mem_zip hv).1,if_neg hk]
  simp
 | p :: P,w :: vs,i + 1,m,nd,h1,h2,hk=>by
  show bindC kindOf ((p,w) :: P.zip vs) m x=_
  unfold bindC
  exact oZ (i:=i) (List.nodup_cons.mp nd).2 (by simpa using h1) (by simpa using h2) hk
def start (N:List Str) (vs:List V):St:=vs.map some ++ List.replicate (N.length - vs.length) none
def uV (CX:CXT) (P:Program) (w:World) (K:W.Frag) (mg:Str->Option Value) (base:Heap) (N:List Str) (qual:Str) (scope:Scope) (f:Addr) (cd:Value) (A:Around) (outer:List Env) (s:Shared) (H:Hp) (E:XK):Cx where
 prog:=P
 w:=w
 K:=K
 mg:=mg
 base:=base
 A:=A.deeper (envOfC qual scope s.heap.objs.size f cd)
 N:=N
 s₀:=s
 H₀:=H
 env:=envOfC qual scope s.heap.objs.size f cd
 outer:=outer
 stack:=envOfC qual scope s.heap.objs.size f cd :: outer
 ex:=[]
 calm:=true
 fn:=fun _=>true
 pn:=[]
 xe:=fun e s'=>wpAny (model P w) (A.deeper (envOfC qual scope s.heap.objs.size f cd)) (leaving (envOfC qual scope s.heap.objs.size f cd) e) (fun _ s''=>CX outer H s E e s'') (fun e' s''=>CX outer H s E e' s'') s'
theorem jO {sc:Scope} {n:Nat} {x:Str} (h:sc.names.lookup x=some .cell):∃ c,(cellsFrom n sc.names []).lookup x=some c:=by
 have q:=W.cellsFrom_some sc.names n [] (.inl h)
 exact Option.isSome_iff_exists.mp q
theorem oQ {CX:CXT} {P:Program} {w:World} {K:W.Frag} {mg:Str->Option Value} {base:Heap} {N ps:List Str} {qual:Str} {scope:Scope} {f:Addr} {cd:Value} {A:Around} {outer:List Env} {s s1:Shared} {H:Hp} {E:XK} {us:List Value} {vs:List V}
  (S:zI N ps scope) (hd:A.handled=none) (e0:jR P w K mg base A outer s H) (hl:vs.length=ps.length) (r:zY vs us)
  (x:InCallC s s.heap.objs.size (bindL (envOfC qual scope s.heap.objs.size f cd).kindOf (ps.zip us) fun _=>none) (cellsFrom (s.heap.objs.size + 1) scope.names []) (bindC (envOfC qual scope s.heap.objs.size f cd).kindOf (ps.zip us) fun _=>none) s1) :
  Inv (uV CX P w K mg base N qual scope f cd A outer s H E) [] (start N vs) H s1:=by
 have hpl:ps.length <= N.length:=by have:=congrArg List.length S.pre;rw [zKP] at this;omega
 obtain ⟨h1,tk,rfl,hk⟩:=x.done
 have noA:∀ b:Addr,b ∉ (uV CX P w K mg base N qual scope f cd A outer s H E).ex:=fun b z=>absurd (show b ∈ ([]:List Addr) from z) (by simp)
 refine ⟨⟨e0.mod,S.kind,rfl,rfl,zKF _,fun y z c h1 h2=>?_,fun y hy=>?_,fun y c _ h=>?_,fun _=>hd,Around.frames_deeper e0.frames,.inr ⟨rfl,rfl⟩,fun b z=>absurd z (noA b),e0.bs,e0.bsz,fun b _ _=>noA b,fun b z=>absurd z (noA b),e0.funs,e0.frf⟩,
  rfl,e0.bare,Un.kept hk,⟨_,x.toInCall.ns,fun i y v h1 h2 h3=>?_⟩,fun y c h=>⟨_,x.cell y c h⟩,e0.hok.fresh (zKF _),fun y c h=>?_,fun p hp=>absurd (show p ∈ ([]:LAO) from hp) (by simp),e0.hok.kept hk,?_⟩
 ·exact name_of_addr x.apart (PySem.mem_of_lookup h1) (PySem.mem_of_lookup h2)
 ·have hy:scope.names.lookup y=some .cell \/ scope.names.lookup y=some .free:=hy
  rcases hy with hy | hy
  ·exact jO hy
  ·exact absurd rfl (S.nofree _ (PySem.mem_of_lookup hy))
 ·exact Nat.le_of_lt (x.above y c (PySem.mem_of_lookup h))
 ·have hi:i < vs.length:=by
   unfold start at h2
   by_cases hi:i < vs.length
   ·exact hi
   ·rw [zKT (by simpa using hi)] at h2
    rw [List.getElem?_replicate] at h2
    split at h2 <;> cases h2
  have ha:vs[i]?=some v:=by
   unfold start at h2
   rw [zKU (by simpa using hi),zKC] at h2
   cases e:vs[i]? with
   | none=>rw [e] at h2;cases h2
   | some a=>rw [e] at h2;cases h2;rfl
  obtain ⟨u,hu,rv⟩:=r.get ha
  have hp:ps[i]?=some y:=by
   rw [<- S.pre,List.getElem?_take_of_lt (by omega)];exact h1
  have ndP:ps.Nodup:=by rw [<- S.pre];exact S.nd.sublist (List.take_sublist _ _)
  refine ⟨u,rv,?_⟩
  rcases S.par y (zKA hp) with k | k
  ·exact .inl ⟨k,oX ndP hp hu k⟩
  ·obtain ⟨c,e⟩:=jO (n:=s.heap.objs.size + 1) k
   refine .inr ⟨.inl k,c,e,?_⟩
   have q:=x.cell y c e
   rw [oZ ndP hp hu (by show scope.names.lookup y ≠ _;rw [k];decide)] at q
   exact q
 ·exact e0.hok.fresh (Nat.le_of_lt (x.above y c (PySem.mem_of_lookup h)))
 ·unfold start
  show _=N.length
  rw [zKO,zJ6,List.length_replicate]
  omega
theorem zEO {CX:CXT} {P:Program} {w:World} {K:W.Frag} {mg:Str->Option Value} {base:Heap} {k:Nat} {f:Addr} {name qual:Str} {params:Arguments} {body:List Stmt} {scope:Scope} {dV kV doc pm cdv ct oc:Value} {an od:Option Addr}
  {osl:Array (Option Value)} {N ps:List Str} {sp:Sp} (lk:K.lookup f=some ⟨oc,od,.func (W.fnOf name qual params body scope dV kV doc pm an cdv ct),osl⟩) (hcd:W.codeIn K cdv qual=true) (S:zI N ps scope)
  (len:∀ vs H Q E,sp vs H Q E->vs.length=ps.length)
  (hbody:∀ (A:Around) (outer:List Env) (s:Shared) (H:Hp) (vs:List V) (Q:VK) (E:XK),zO k (A.deeper (envOfC qual scope s.heap.objs.size f cdv))->sp vs H Q E ->
   ∃ t,PSs (uV CX P w K mg base N qual scope f cdv A outer s H E) body t/\t { nx:=fun _ H'=>Q .non H',rt:=Q } (start N vs) H) :
  vZ P w K mg base CX (k + 1) f (W.fnOf name qual params body scope dV kV doc pm an cdv ct) ps sp:=by
 refine ⟨len,fun A outer s H args us vs Q E hr e0 hb r hsp=>?_⟩
 have hl:=len _ _ _ _ hsp
 have KX:K.In s.heap:=e0.mod.kin.keeps fun b o e=>(e0.bs b o e).1
 have lim:s.heap.NoLimit:=e0.mod.nolimit.keeps fun b o e=>(e0.bs b o e).1
 have hkind:∀ y ∈ ps.zip us,scope.names.lookup y.1=some .local \/ (scope.names.lookup y.1=some .cell/\((cellsFrom (s.heap.objs.size + 1) scope.names []).lookup y.1).isSome=true):=fun ⟨n,v⟩ hy=>by
  rcases S.par n (List.of_mem_zip hy).1 with q | q
  ·exact .inl q
  ·exact .inr ⟨q,W.cellsFrom_some _ _ _ (.inl q)⟩
 refine codeAny_call_function hr.depth (KX _ _ lk) rfl S.co S.gen rfl (W.codeRec_of KX hcd) (hb _ _ _ _ ?_)
 refine wpAny_newFunctionEnv_cells S.kind hkind fun env he s1 x=>?_
 subst he
 refine ⟨lim.keeps x.toInCall.keep,codeAny_func ?_⟩
 obtain ⟨t,ht,hq⟩:=hbody A outer s H vs Q E (hr.deeper _) hsp
 have I:Inv (uV CX P w K mg base N qual scope f cdv A outer s H E) [] (start N vs) H s1:=oQ S hr.hd e0 hl r x
 refine wpAny_mono (ht [] s1 (start N vs) H _ I hq) (fun fl s' hs=>?_) fun e s' hs=>hs
 have fin:∀ {σ':St} {H':Hp} {v:V} {u:Value},Inv (uV CX P w K mg base N qual scope f cdv A outer s H E) [] σ' H' s'->z7 v u->Q v H'->CE outer P w H s Q u s':=
  fun {σ' H' v u} J rv q=>⟨v,H',J.os,J.bare,J.base,J.hok,rv,q⟩
 cases fl with
 | ret u=>
  obtain ⟨v,σ',H',J,rv,q⟩:=hs
  exact fin J rv q
 | next=>
  obtain ⟨σ',H',J,q⟩:=hs
  exact fin (v:=V.non) (u:=Value.none) J rfl q
 | brk=>
  obtain ⟨_,_,_,q⟩:=hs
  exact False.elim q
 | cont=>
  obtain ⟨_,_,_,q⟩:=hs
  exact False.elim q
section
variable {X:Cx} {x:Str} {p pos:Pos} {e:Expr} {es:List Expr} {t:TA} {id T:String} {r:List V->Hp->VK->Prop}
def tCB (r:List V->Hp->VK->Prop) (t:TA):TE:=fun σ H Q=>t σ H fun vs H1=>r vs H1 Q
theorem aQ (hc:wV X (.builtin id) r) (hg:Gl X x) (hm:X.mg x=none) (hv:bootBuiltins x=some (.builtin id)) (ha:PA X (e :: es) t) (hn:x ≠ "__name__":=by decide) (hdb:(x == ("__debug__" : Str))=false:=by decide)
  (he:starEach (e :: es) X.env=(false,eval e X.env) :: starEach es X.env:=by rfl) (hpl:(backTo pos (starEach es X.env)).any (·.1)=false:=by rfl):PE X (.Call (.Name x p) (e :: es) [] pos) (tCB r t):=by
 intro zp s σ H Q I h
 refine wpAny_Call_Name_kw (rH I hg hm hv ?_ hn hdb)
 exact PyProof.Rows.callWith_builtin1 (thn (ha pos zp s σ H _ I h) fun us s1 ⟨vs,H1,I1,r1,q1⟩=>hc zp s1 σ H1 vs us Q I1 r1 q1) he hpl
theorem xE (hc:wV X (.type T) r) (hg:Gl X x) (hm:X.mg x=none) (hv:bootBuiltins x=some (.type T)) (ha:PA X (e :: es) t) (hn:x ≠ "__name__":=by decide) (hdb:(x == ("__debug__" : Str))=false:=by decide)
  (he:starEach (e :: es) X.env=(false,eval e X.env) :: starEach es X.env:=by rfl) (hpl:(backTo pos (starEach es X.env)).any (·.1)=false:=by rfl):PE X (.Call (.Name x p) (e :: es) [] pos) (tCB r t):=by
 intro zp s σ H Q I h
 refine wpAny_Call_Name_kw (rH I hg hm hv ?_ hn hdb)
 exact PyProof.Rows.callWith_type1 (thn (ha pos zp s σ H _ I h) fun us s1 ⟨vs,H1,I1,r1,q1⟩=>hc zp s1 σ H1 vs us Q I1 r1 q1) he hpl
end
end L2
namespace HT
open PySem PyProof.Rows
section
open PySem.SeqAt
open PySem.AutoSeq1 (wpAny_loadPart')
open PySem.MeetsSeq PySem.MeetsSeq2 PySem.MeetsSeq3
end
section
variable {prog:Program} {w:World} {A:Around} {E:Value->Shared->Prop} {s:Shared}
theorem cat_tup {t b:Addr} {vs ws:List Value} {Q:Value->Shared->Prop} (ht:IsTup s.heap t vs.toArray) (hb:IsTup s.heap b ws.toArray) (hv:vs ≠ [])
  (h1:ws=[]->Q (.ref t) s) (h2:ws ≠ []->Q (.ref s.heap.objs.size) { s with heap:=s.heap.push { cls:=.type "tuple",data:=.seq (vs ++ ws).toArray } })
  (hsz:vs.length + ws.length <= sizeLine):wpAny (model prog w) A (binaryOp .Add (.ref t) (.ref b)) Q E s:=by
 obtain ⟨⟨cls,dd,data,sl⟩,ho,hc,n,hd⟩:=id ht
 obtain ⟨⟨cls2,dd2,data2,sl2⟩,ho2,hc2,n2,hd2⟩:=id hb
 simp only at hc hd hc2 hd2
 subst hc hd hc2 hd2
 have e:vs.toArray ++ ws.toArray=(vs ++ ws).toArray:=by simp
 by_cases hw:ws=[]
 ·exact concat_meets ⟨_,ho,rfl⟩ ⟨_,ho2,rfl⟩ noFill_tuple_add seq_tuple_add F.slot_tuple_add F.entry_tuple_add (F.args_tuple_add_2 _ _)
   (tuple_addW1 t b vs.toArray ws.toArray n n2 dd dd2 sl sl2 (by simpa using hv) (by simp [hw])) ⟨ho,ho2,h1 hw⟩
 ·refine concat_meets ⟨_,ho,rfl⟩ ⟨_,ho2,rfl⟩ noFill_tuple_add seq_tuple_add F.slot_tuple_add F.entry_tuple_add (F.args_tuple_add_2 _ _)
   (tuple_addW2 t b vs.toArray ws.toArray n n2 dd dd2 sl sl2 (by simpa using hv) (by simpa using hw) (by rw [zKE,zKE];exact hsz)) ⟨ho,ho2,?_⟩
  rw [e]
  exact h2 hw
def sIx (n d:Nat):Option Int->Nat
 | none=>d
 | some v=>if v < 0 then (v + (n:Int)).toNat else min v.toNat n
theorem sIx_none (n d:Nat):sIx n d none=d:=rfl
theorem sIx_nat (n d k:Nat):sIx n d (some (k:Int))=min k n:=by
 show (if (k:Int) < 0 then ((k:Int) + (n:Int)).toNat else min (k:Int).toNat n)=min k n
 rw [if_neg (by omega),Int.toNat_natCast]
theorem sIx_le (n d:Nat) (hd:d <= n) (o:Option Int):sIx n d o <= n:=by
 cases o with
 | none=>exact hd
 | some v=>
  show (if v < 0 then (v + (n:Int)).toNat else min v.toNat n) <= n
  by_cases hv:v < 0
  ·rw [if_pos hv];omega
  ·rw [if_neg hv];exact Nat.min_le_right _ _
theorem clip_eq (v:Int) (n d:Nat):(if v < 0 then max (v + (n:Int)) 0 else min v (n:Int))=((sIx n d (some v):Nat):Int):=by
 show (if v < 0 then max (v + (n:Int)) 0 else min v (n:Int))=(((if v < 0 then (v + (n:Int)).toNat else min v.toNat n):Nat):Int)
 by_cases hv:v < 0
 ·simp only [if_pos hv];omega
 ·simp only [if_neg hv];omega
theorem adjust_gen (lo hi:Option Int) (n:Nat):Builtin.Slice.sliceAdjust lo hi 1 (n:Int)=(((sIx n 0 lo:Nat):Int),((sIx n n hi:Nat):Int)):=by
 have h1:¬ ((1:Int) < 0):=by omega
 unfold Builtin.Slice.sliceAdjust
 simp only [h1,if_false]
 refine Prod.ext ?_ ?_
 ·cases lo with
  | none=>rfl
  | some v=>exact clip_eq v n 0
 ·cases hi with
  | none=>rfl
  | some v=>exact clip_eq v n n
theorem places_gen (i j:Nat):Builtin.Slice.slicePlaces (i:Int) (j:Int) 1=j - i:=by
 unfold Builtin.Slice.slicePlaces
 have h1:(1:Int) > 0:=by omega
 simp only [h1,if_true,Int.ediv_one]
 split <;> omega
theorem slicePart_ {v:Value} {o:Option Int} {Q:Option Int->Shared->Prop} (p:IsPart v o) (h:Q o s):wpAny (model prog w) A (Builtin.Slice.slicePartIndex v) Q E s:=by
 cases p with
 | none=>exact slicePart_none h
 | int i t=>exact slicePart_int h
theorem sliceApplied_gen {sl:Addr} {vl vu:Value} {lo hi:Option Int} {n:Nat} {Q:Int × Int × Nat->Shared->Prop} (hs:s.heap.IsSliceOf sl vl vu .none) (pl:IsPart vl lo) (pu:IsPart vu hi)
  (h:Q (((sIx n 0 lo:Nat):Int),1,sIx n n hi - sIx n 0 lo) s):wpAny (model prog w) A (Builtin.Slice.sliceApplied (.ref sl) (pure (n:Int))) Q E s:=by
 obtain ⟨os,hos,hcs,hds⟩:=id hs
 unfold Builtin.Slice.sliceApplied Builtin.Slice.sliceFields
 refine wpAny_bind (wpAny_bind (wpAny_field hos hds (x:=vl) rfl (wpAny_bind (wpAny_field hos hds (x:=vu) rfl (wpAny_bind (wpAny_field hos hds (x:=.none) rfl (wpAny_pure ?_)))))))
 refine wpAny_bind (slicePart_none ?_)
 show wpAny _ _ (if ((1:Int) == 0)=true then _ else _) _ _ s
 rw [if_neg (by decide)]
 refine wpAny_bind (slicePart_ pl (wpAny_bind (slicePart_ pu (wpAny_bind (wpAny_pure ?_)))))
 show wpAny _ _ (match Builtin.Slice.sliceAdjust lo hi 1 (n:Int) with | (lo,hi)=>pure (lo,(1:Int),Builtin.Slice.slicePlaces lo hi 1)) _ _ s
 rw [adjust_gen lo hi n]
 show wpAny _ _ (pure (((sIx n 0 lo:Nat):Int),(1:Int),Builtin.Slice.slicePlaces ((sIx n 0 lo:Nat):Int) ((sIx n n hi:Nat):Int) 1)) _ _ s
 rw [places_gen]
 exact wpAny_pure h
theorem pick_gen (xs:Array Value) (i k:Nat):((List.range k).filterMap fun (m:Nat)=>xs[((i:Int) + (m:Int) * 1).toNat]?).toArray=((xs.toList.drop i).take k).toArray:=by
 have e:(fun (m:Nat)=>xs[((i:Int) + (m:Int) * 1).toNat]?)=fun m=>xs[i + m]?:=by
  funext m
  have:((i:Int) + (m:Int) * 1).toNat=i + m:=by omega
  rw [this]
 rw [e]
 have:=pick_run xs i k
 rw [List.filterMap_map] at this
 have e2:((fun x=>xs[x]?) ∘ fun x=>i + x)=fun m=>xs[i + m]?:=rfl
 rw [e2] at this
 rw [this]
theorem getItem_tuple_cut {t sl:Addr} {items:Array Value} {vl vu:Value} {lo hi:Option Int} {Q:Value->Shared->Prop} (ht:IsTup s.heap t items) (hs:s.heap.IsSliceOf sl vl vu .none) (pl:IsPart vl lo) (pu:IsPart vu hi)
  (hw:¬ (sIx items.size 0 lo=0/\sIx items.size items.size hi=items.size))
  (h:Q (.ref s.heap.objs.size) { s with heap:=s.heap.push { cls:=.type "tuple",data:=.seq ((items.toList.drop (sIx items.size 0 lo)).take (sIx items.size items.size hi - sIx items.size 0 lo)).toArray } })
  (hsz:items.size <= sizeLine):wpAny (model prog w) A (getItem (.ref t) (.ref sl)) Q E s:=by
 have htake:sizeOk (.seq ((items.toList.drop (sIx items.size 0 lo)).take (sIx items.size items.size hi - sIx items.size 0 lo)).toArray):=by
  show ((items.toList.drop (sIx items.size 0 lo)).take (sIx items.size items.size hi - sIx items.size 0 lo)).toArray.size <= sizeLine
  rw [zKE,zKP,List.length_drop,Array.length_toList]
  omega
 have hj:sIx items.size items.size hi <= items.size:=sIx_le _ _ (zKF _) hi
 obtain ⟨os,hos,hcs,hds⟩:=id hs
 have hTs:s.TypeIs (.ref sl) "slice":=⟨os,hos,hcs⟩
 unfold getItem
 try with_reducible refine wpAny_holding ?_
 first | refine wpAny_bind (wpAny_pure ?_) | skip
 refine wpAny_bind (wpAny_sequenceKey ht.typeIs (by decide) ?_)
 refine wpAny_bind (wpAny_callSpecial?_slot (name:=Str.ofString "__getitem__") ht.typeIs PyProof.Rows.slot_tuple_getitem
  (wpAny_call_entry PyProof.Rows.slot_tuple_getitem ht.typeIs entry_tuple_getitem ?_ (args_tuple_getitem _ _)))
 show wpAny _ _ (Builtin.Tuple.tupleItemsOf (.ref t) >>= _) _ _ s
 refine wpAny_bind (tupleItemsOf_ ht ?_)
 refine wpAny_bind (wpAny_typeOf hTs ?_)
 rw [if_pos (by decide)]
 refine wpAny_bind (sliceApplied_gen hs pl pu ?_)
 have hno:¬ ((((sIx items.size 0 lo:Nat):Int) == 0 && (1:Int) == 1 && (sIx items.size items.size hi - sIx items.size 0 lo) == items.size)=true):=by
  intro q
  rw [Bool.and_eq_true,Bool.and_eq_true] at q
  have q1:((sIx items.size 0 lo:Nat):Int)=0:=eq_of_beq q.1.1
  have q2:sIx items.size items.size hi - sIx items.size 0 lo=items.size:=eq_of_beq q.2
  exact hw ⟨by omega,by omega⟩
 show wpAny _ _ (if (((sIx items.size 0 lo:Nat):Int) == 0 && (1:Int) == 1 && (sIx items.size items.size hi - sIx items.size 0 lo) == items.size)=true then _ else _) _ _ s
 rw [if_neg hno,pick_gen]
 first
  | exact wpAny_bind (m:=Builtin.Tuple.tupleExact _) (wpAny_newObj_type (wpAny_pure ⟨_,rfl,wpAny_pure h⟩) htake)
  | exact wpAny_bind (m:=Builtin.Tuple.tupleExact _) (wpAny_newObj_type (wpAny_bind (wpAny_pure (wpAny_pure ⟨_,rfl,wpAny_pure h⟩))) htake)
  | exact wpAny_bind (wpAny_bind (m:=Builtin.Tuple.tupleExact _) (wpAny_newObj_type (wpAny_pure (wpAny_pure ⟨_,rfl,wpAny_pure h⟩)) htake))
  | exact wpAny_bind (wpAny_bind (m:=Builtin.Tuple.tupleExact _) (wpAny_newObj_type (wpAny_pure ⟨_,rfl,wpAny_pure h⟩) htake))
end
end HT
namespace L2
open PySem PySem.Spec PyProof.Rows
abbrev TO:=St->Hp->(Option Int->Hp->Prop)->Prop
def PO (X:Cx) (e:Option Expr) (t:TO):Prop:=
 ∀ (zp:LAO) (s:Shared) (σ:St) (H:Hp) (Q:Option Int->Hp->Prop),Inv X zp σ H s->t σ H Q ->
  wpAny (model X.prog X.w) X.A (evalPart e X.env) (fun u s'=>∃ o H',Inv X zp σ H' s'/\IsPart u o/\Q o H') X.xe s
def hZ:TO:=fun _ H Q=>Q none H
def zD3 (t:TE):TO:=fun σ H Q=>t σ H fun x H1=>∃ i,x=.int i/\Q (some i) H1
section
variable {X:Cx} {e:Expr} {te:TE} {lo hi:Option Expr} {tl th:TO} {pos p2:Pos}
theorem uB:PO X none hZ:=by
 intro zp s σ H Q I h
 rw [evalPart_none]
 exact wpAny_pure ⟨none,H,I,.none,h⟩
theorem vM (h:PE X e te):PO X (some e) (zD3 te):=by
 intro zp s σ H Q I hw
 rw [evalPart_some]
 refine thn (h zp s σ H _ I hw) fun u s1 hz37=>?_
 obtain ⟨x,H1,I1,r1,q1⟩:=hz37
 obtain ⟨i,rfl,q⟩:=q1
 obtain ⟨t,rfl⟩:=r1
 exact ⟨some i,H1,I1,.int i t,q⟩
def SlR (X:Cx) (r:V->Option Int->Option Int->Hp->VK->Prop):Prop:=
 ∀ (zp:LAO) (s:Shared) (σ:St) (H:Hp) (x:V) (v vl vu:Value) (lo hi:Option Int) (sl:Addr) (Q:VK),Inv X zp σ H s->z7 x v->s.heap.IsSliceOf sl vl vu .none->IsPart vl lo->IsPart vu hi->r x lo hi H Q ->
  ∃ T id,typeLookup (.type T) "__getitem__"=pure (some (.builtin id))/\s.TypeIs v T/\wpAny (model X.prog X.w) X.A (getItem v (.ref sl)) (EP X zp σ Q) X.xe s
def tSl (r:V->Option Int->Option Int->Hp->VK->Prop) (te:TE) (tl th:TO):TE:=fun σ H Q=>te σ H fun x H1=>tl σ H1 fun l H2=>th σ H2 fun u H3=>r x l u H3 Q
theorem vG {r:V->Option Int->Option Int->Hp->VK->Prop} (hr:SlR X r) (he:PE X e te) (hl:PO X lo tl) (hu:PO X hi th):PE X (.Subscript e (.Slice lo hi none p2) pos) (tSl r te tl th):=by
 intro zp s σ H Q I h
 refine Subscript_ (thn (he zp s σ H _ I h) fun v s1 hz38=>?_)
 obtain ⟨x,H1,I1,r1,q1⟩:=hz38
 refine wpAny_Slice (thn (hl zp s1 σ H1 _ I1 q1) fun vl s2 hz39=>?_)
 obtain ⟨l,H2,I2,pl,q2⟩:=hz39
 refine thn (hu zp s2 σ H2 _ I2 q2) fun vu s3 hz40=>?_
 obtain ⟨u,H3,I3,pu,q3⟩:=hz40
 rw [evalPart_none]
 refine wpAny_pure ?_
 have I4:Inv X zp σ H3 { s3 with heap:=s3.heap.push { cls:=.type "slice",data:=.fields #[vl,vu,.none] } }:=I3.kept (t':=s3.toks) fun b ob q=>Heap.get?_push_of_some _ q
 obtain ⟨T,id,hT,ht,hg⟩:=hr zp { s3 with heap:=s3.heap.push { cls:=.type "slice",data:=.fields #[vl,vu,.none] } } σ H3 x v vl vu l u s3.heap.objs.size Q I4 r1 (Heap.IsSliceOf.new ..) pl pu q3
 show wpAny (model X.prog X.w) X.A (subscriptTail e (.Slice lo hi none p2) v (.ref s3.heap.objs.size)) (EP X zp σ Q) X.xe { s3 with heap:=s3.heap.push { cls:=.type "slice",data:=.fields #[vl,vu,.none] } }
 exact tail_any (ops:=[.ref s3.heap.objs.size,v]) ht hT hg (by with_unfolding_all rfl)
def rM (xs:List V) (lo hi:Option Int):List V:=(xs.drop (HT.sIx xs.length 0 lo)).take (HT.sIx xs.length xs.length hi - HT.sIx xs.length 0 lo)
theorem rW (xs:List V) (lo hi:Option Int):(rM xs lo hi).length <= xs.length:=by
 unfold rM
 rw [zKP,List.length_drop]
 omega
def rSlT (K:W.Frag):V->Option Int->Option Int->Hp->VK->Prop:=fun x lo hi H Q=>∃ a xs,x=.ref a/\SqT K H a xs /\
 ¬ (HT.sIx xs.length 0 lo=0/\HT.sIx xs.length xs.length hi=xs.length)/\∀ p,H p=none->Q (.ref p) (upd H p (.tup (rM xs lo hi)))
theorem zFE:SlR X (rSlT X.K):=by
 intro zp s σ H x v vl vu lo hi sl Q I rx hs pl pu h
 obtain ⟨a,xs,rfl,hx,hw,q⟩:=h
 cases rx
 obtain ⟨its,r,ht,hz⟩:=I.tuple hx
 have hlen:its.toArray.size=xs.length:=by rw [zKE];exact r.length.symm
 refine ⟨"tuple",_,PyProof.Rows.slot_tuple_getitem.lookup,ht.typeIs,?_⟩
 refine HT.getItem_tuple_cut ht hs pl pu (by rw [hlen];exact hw) ?_ (by rw [hlen];exact hz)
 rw [hlen]
 refine ⟨.ref s.heap.objs.size,_,I.laid (t':=s.toks) (o:=.tup (rM xs lo hi)) (fun b ob q=>Heap.get?_push_of_some _ q) (zKF _) ?_,rfl,q _ (I.hok.fresh (zKF _))⟩
 exact ⟨zKH (rW xs lo hi) hz,_,(r.drop (HT.sIx xs.length 0 lo)).take (HT.sIx xs.length xs.length hi - HT.sIx xs.length 0 lo),IsTup.new _ _⟩
def aC (K:W.Frag):R2:=fun x y H Q=>∃ a b xs ys,x=.ref a/\y=.ref b/\SqT K H a xs/\SqT K H b ys/\xs ≠ []/\xs.length + ys.length <= sizeLine /\
 (ys=[]->Q (.ref a) H)/\(ys ≠ []->∀ p,H p=none->Q (.ref p) (upd H p (.tup (xs ++ ys))))
theorem zY.nil_iff {xs:List V} {us:List Value} (r:zY xs us):us=[] ↔ xs=[]:=by
 cases r with
 | nil=>simp
 | cons _ _=>simp
theorem zCS:OpR X (binaryOp .Add) (aC X.K):=by
 intro zp s σ H x y v u Q I rx ry h
 obtain ⟨a,b,xs,ys,rfl,rfl,ha,hb,hx,hz,q1,q2⟩:=h
 cases rx
 cases ry
 obtain ⟨its,r1,p1,_⟩:=I.tuple ha
 obtain ⟨its2,r2,p2,_⟩:=I.tuple hb
 refine HT.cat_tup p1 p2 (fun z=>hx (r1.nil_iff.mp z)) (fun z=>⟨.ref a,H,I,rfl,q1 (r2.nil_iff.mp z)⟩) (fun z=>?_) (by rw [<- r1.length,<- r2.length];exact hz)
 refine ⟨.ref s.heap.objs.size,_,I.laid (t':=s.toks) (o:=.tup (xs ++ ys)) (fun b ob q=>Heap.get?_push_of_some _ q) (zKF _) ?_,rfl,q2 (fun w=>z (r2.nil_iff.mpr w)) _ (I.hok.fresh (zKF _))⟩
 exact ⟨by rw [zKO];exact hz,_,r1.append r2,IsTup.new _ _⟩
end
def ixN (n:Nat) (i:Int):Option Nat:=if 0 <= i then (if i < n then some i.toNat else none) else if -(n:Int) <= i then some (i + n).toNat else none
def atI {α:Type} (xs:List α) (i:Int):Option α:=(ixN xs.length i).bind fun j=>xs[j]?
theorem fJ {n:Nat} {i:Int} {j:Nat} (h:ixN n i=some j):seqIndex? i n=some j/\j < n/\-(n:Int) <= i/\i < n:=by
 unfold ixN at h
 by_cases h0:0 <= i
 ·rw [if_pos h0] at h
  by_cases h1:i < n
  ·rw [if_pos h1] at h
   have e:i.toNat=j:=zKD h
   exact ⟨by rw [seqIndex_of h0 h1,e],by omega,by omega,h1⟩
  ·rw [if_neg h1] at h;cases h
 ·rw [if_neg h0] at h
  by_cases h1:-(n:Int) <= i
  ·rw [if_pos h1] at h
   have e:(i + n).toNat=j:=zKD h
   exact ⟨by rw [seqIndex_neg (by omega) h1,e],by omega,h1,by omega⟩
  ·rw [if_neg h1] at h;cases h
theorem mX {α:Type} {xs:List α} {i:Int} {v:α} (h:atI xs i=some v):∃ j,seqIndex? i xs.length=some j/\xs[j]?=some v/\j < xs.length/\-(xs.length:Int) <= i/\i < xs.length:=by
 unfold atI at h
 cases e:ixN xs.length i with
 | none=>rw [e] at h;cases h
 | some j=>
  rw [e] at h
  obtain ⟨h1,h2,h3,h4⟩:=fJ e
  exact ⟨j,h1,h,h2,h3,h4⟩
theorem qI {α:Type} {xs:List α} {j:Nat} {v:α} (h:xs[j]?=some v):atI xs (j:Int)=some v:=by
 have hj:j < xs.length:=(zJ8.mp h).1
 have e:ixN xs.length (j:Int)=some j:=by
  unfold ixN
  rw [if_pos (by omega),if_pos (by omega)];simp
 unfold atI;rw [e];exact h
def zDY (b:Expr):Prop:=∀ o i,subscripted b false o i=operate [o,i] (getItem o i)
def IxR (X:Cx) (r:R2):Prop:=
 ∀ (value slice:Expr) (zp:LAO) (s:Shared) (σ:St) (H:Hp) (x y:V) (v u:Value) (Q:VK),Inv X zp σ H s->z7 x v->z7 y u->r x y H Q ->
  subscripted slice false v u=operate [v,u] (getItem v u)->wpAny (model X.prog X.w) X.A (subscriptTail value slice v u) (EP X zp σ Q) X.xe s
def MtR (X:Cx) (id:String) (r:V->List V->Hp->VK->Prop):Prop:=
 ∀ (zp:LAO) (s:Shared) (σ:St) (H:Hp) (x:V) (xs:List V) (v:Value) (us:List Value) (Q:VK),Inv X zp σ H s->z7 x v->zY xs us->r x xs H Q ->
  wpAny (model X.prog X.w) X.A (call (.builtin id) (v :: us)) (EP X zp σ Q) X.xe s
section
variable {X:Cx} {a b:Expr} {ta tb:TE} {pos:Pos}
theorem yJ {r:R2} (hr:IxR X r) (ha:PE X a ta) (hb:PE X b tb) (hs:zDY b):PE X (.Subscript a b pos) (tOp r ta tb):=by
 intro zp s σ H Q I h
 exact Subscript_ (zG8 ha hb I h fun v u s2 x y H2 I2 rx ry q=>hr a b zp s2 σ H2 x y v u Q I2 rx ry q (hs _ _))
def rIxL (K:W.Frag):R2:=fun x y H Q=>∃ p xs i v,x=.ref p/\y=.int i/\SqL K H p xs/\atI xs i=some v/\Q v H
def rIxT (K:W.Frag):R2:=fun x y H Q=>∃ p xs i v,x=.ref p/\y=.int i/\SqT K H p xs/\atI xs i=some v/\Q v H
def rIxS:R2:=fun x y H Q=>∃ z i c,x=.str z/\y=.int i/\z.length <= sizeLine/\atI z.cps.toList i=some c/\Q (.str ⟨#[c]⟩) H
theorem fH:IxR X (rIxL X.K):=by
 intro value slice zp s σ H x y v u Q I rx ry h hs
 obtain ⟨p,xs,i,z,rfl,rfl,hq,he,q⟩:=h
 cases rx
 obtain ⟨t,rfl⟩:=ry
 obtain ⟨its,r,pl,hz⟩:=I.list hq
 obtain ⟨j,h1,h2,h3,h4,h5⟩:=mX he
 obtain ⟨w,ew,rw'⟩:=r.get h2
 have hl:=r.length
 have hn:=tP
 have fin:EP X zp σ Q w s:=⟨z,H,I,rw',q⟩
 by_cases h0:0 <= i
 ·have hj:i.toNat=j:=by
   rw [seqIndex_of h0 h5] at h1
   exact zKD h1
  exact item_listR pl.isList h0 (by omega) (by rw [hj];simpa using ew) fin hs
 ·have hj:(i + (its.toArray.size:Int)).toNat=j:=by
   rw [seqIndex_neg (by omega) h4] at h1
   rw [zKE,<- hl]
   exact zKD h1
  exact subscriptTail_builtinR (x:=w) pl.isList.typeIs slot_list_getitem.lookup
   (wpAny_getItem_list_neg (Q:=fun r s'=>r=w/\EP X zp σ Q r s') pl.isList (by omega) (by rw [zKE] <;> omega) (by omega) (by rw [hj];simpa using ew) ⟨rfl,fin⟩) hs
theorem zGS:IxR X (rIxT X.K):=by
 intro value slice zp s σ H x y v u Q I rx ry h hs
 obtain ⟨p,xs,i,z,rfl,rfl,hq,he,q⟩:=h
 cases rx
 obtain ⟨t,rfl⟩:=ry
 obtain ⟨its,r,pl,hz⟩:=I.tuple hq
 obtain ⟨j,h1,h2,h3,h4,h5⟩:=mX he
 obtain ⟨w,ew,rw'⟩:=r.get h2
 have hl:=r.length
 have hn:=tP
 have fin:EP X zp σ Q w s:=⟨z,H,I,rw',q⟩
 exact subscriptTail_builtinR (x:=w) pl.typeIs slot_tuple_getitem.lookup
  (getItem_tuple (j:=j) (Q:=fun r s'=>r=w/\EP X zp σ Q r s') pl (by omega) (by omega) (by rw [zKE,<- hl];exact h1) (by simpa using ew) ⟨rfl,fin⟩) hs
theorem zGT:IxR X rIxS:=by
 intro value slice zp s σ H x y v u Q I rx ry h hs
 obtain ⟨z,i,c,rfl,rfl,hz,he,q⟩:=h
 obtain ⟨t,rfl⟩:=rx
 obtain ⟨t',rfl⟩:=ry
 obtain ⟨j,h1,h2,h3,h4,h5⟩:=mX he
 have hl:z.cps.toList.length=z.length:=by simp [Str.length]
 rw [hl] at h1 h4 h5
 have hn:=tP
 exact tail_any (typeIs_str s z t) slot_str_getitem.lookup (getItem_str (c:=c) (by
  have e1:decide (i < -(2 ^ 63:Int))=false:=zKM (by omega)
  have e2:decide (i >= 2 ^ 63)=false:=zKM (by omega)
  rw [e1,e2,Bool.or_false]) (by rw [h1];simpa using h2) ⟨.str ⟨#[c]⟩,H,I.tok _,⟨_,rfl⟩,q⟩) hs
theorem iM (its:List Value) (n j:Nat) (u:Value):Obj.mapSeq (·.setIfInBounds j u) { cls:=.type "list",data:=.seq its.toArray n } = { cls:=.type "list",data:=.seq (its.set j u).toArray n }:=by
 simp [Obj.mapSeq]
theorem Inv.lst {zp:LAO} {σ:St} {H:Hp} {s:Shared} {p:Addr} {xs:List V} (I:Inv X zp σ H s) (h:H p=some (.lst xs)) :
  ∃ (its:List Value) (n:Nat),zY xs its/\s.heap.get? p=some { cls:=.type "list",data:=.seq its.toArray n }/\xs.length <= sizeLine:=by
 obtain ⟨z,its,n,r,e⟩:=I.hok p _ h
 exact ⟨its,n,r,e,z⟩
theorem Inv.lstUpd {zp:LAO} {σ:St} {H:Hp} {s:Shared} {p:Addr} {xs ys:List V} {its its':List Value} {n n':Nat} {f:Obj->Obj} (I:Inv X zp σ H s) (h:H p=some (.lst xs))
  (ho:s.heap.get? p=some { cls:=.type "list",data:=.seq its.toArray n }) (hf:f { cls:=.type "list",data:=.seq its.toArray n } = { cls:=.type "list",data:=.seq its'.toArray n' }) (r:zY ys its') (hz:ys.length <= sizeLine) (t:Nat) :
  Inv X zp σ (upd H p (.lst ys)) { s with heap:=s.heap.update p f,toks:=t }:=by
 have e:(s.heap.update p f).get? p=some { cls:=.type "list",data:=.seq its'.toArray n' }:=by
  rw [Heap.get?_update_self f ho (by rw [hf] <;> rfl),hf]
 refine I.write (x:=p) (e:=p) (by rw [h];trivial) (.inl rfl) (fun b u hb q=>(Heap.get?_update_other _ _ (Ne.symm hb)).trans q) ⟨_,e⟩ ?_
 exact ⟨hz,its',n',r,e⟩
def zEH:V->V->V->Hp->(Hp->Prop)->Prop:=fun o i v H Q=>∃ p xs k j,o=.ref p/\i=.int k/\H p=some (.lst xs)/\ixN xs.length k=some j/\Q (upd H p (.lst (xs.set j v)))
theorem lA:zJ0 X zEH:=by
 intro zp s σ H o i v ov iv u Q I ro ri rv h
 obtain ⟨p,xs,k,j,rfl,rfl,hp,hj,q⟩:=h
 cases ro
 obtain ⟨t,rfl⟩:=ri
 obtain ⟨its,n,r,ho,hz⟩:=I.lst hp
 obtain ⟨h1,h2,h3,h4⟩:=fJ hj
 have hl:=r.length
 have hn:=tP
 have I':Inv X zp σ (upd H p (.lst (xs.set j v))) { s with heap:=s.heap.update p (Obj.mapSeq (·.setIfInBounds j u)) }:=
  I.lstUpd hp ho (iM its n j u) (r.set rv j) (by rw [List.length_set];exact hz) s.toks
 by_cases h0:0 <= k
 ·have hk:k.toNat=j:=by
   rw [seqIndex_of h0 h4] at h1
   exact zKD h1
  exact W.ki_setAt ho h0 (by omega) (by rw [zKE,<- hl];exact h4) (by rw [hk];exact ⟨_,I',q⟩)
 ·have hk:(k + (its.toArray.size:Int)).toNat=j:=by
   rw [seqIndex_neg (by omega) h3] at h1
   rw [zKE,<- hl]
   exact zKD h1
  exact W.ki_setBack ho (by omega) (by rw [zKE,<- hl];exact h3) (by omega) (by rw [hk];exact ⟨_,I',q⟩)
theorem nJ (lo hi:Option Int) (n:Nat):(sliceBounds lo hi none n).1=((HT.sIx n 0 lo:Nat):Int)/\(sliceBounds lo hi none n).2.1=((HT.sIx n n hi:Nat):Int)/\(sliceBounds lo hi none n).2.2=1:=by
 refine ⟨?_,?_,rfl⟩
 ·cases lo with
  | none=>simp [sliceBounds,HT.sIx]
  | some i=>
   simp only [sliceBounds,HT.sIx,Option.getD_none,show (1:Int) > 0 by decide,if_true]
   by_cases h:i < 0
   ·simp only [h,if_true] <;> omega
   ·simp only [h,if_false] <;> omega
 ·cases hi with
  | none=>simp [sliceBounds,HT.sIx]
  | some i=>
   simp only [sliceBounds,HT.sIx,Option.getD_none,show (1:Int) > 0 by decide,if_true]
   by_cases h:i < 0
   ·simp only [h,if_true] <;> omega
   ·simp only [h,if_false] <;> omega
theorem pT (its:List Value) (lo hi:Option Int):slicePick its.toArray lo hi none=((its.drop (HT.sIx its.length 0 lo)).take (HT.sIx its.length its.length hi - HT.sIx its.length 0 lo)).toArray:=by
 obtain ⟨h1,h2,h3⟩:=nJ lo hi its.toArray.size
 unfold slicePick
 rw [h1,h2,h3]
 simp only [sliceRange_one,pick_run,zKE] <;> rfl
def rSlL (K:W.Frag):V->Option Int->Option Int->Hp->VK->Prop:=fun x lo hi H Q=>∃ a xs,x=.ref a/\SqL K H a xs/\∀ p,H p=none->Q (.ref p) (upd H p (.lst (rM xs lo hi)))
theorem uN:SlR X (rSlL X.K):=by
 intro zp s σ H x v vl vu lo hi sl Q I rx hs pl pu h
 obtain ⟨a,xs,rfl,hx,q⟩:=h
 cases rx
 obtain ⟨its,r,ht,hz⟩:=I.list hx
 have hlen:=r.length
 refine ⟨"list",_,slot_list_getitem.lookup,ht.isList.typeIs,?_⟩
 refine wpAny_getItem_list_slice ht.isList hs pl pu .none (by simp) ?_ (by rw [zKE] <;> omega)
 rw [pT,<- hlen]
 refine ⟨.ref s.heap.objs.size,_,I.laid (t':=s.toks) (o:=.lst (rM xs lo hi)) (fun b ob q=>Heap.get?_push_of_some _ q) (zKF _) ?_,rfl,q _ (I.hok.fresh (zKF _))⟩
 exact ⟨zKH (rW xs lo hi) hz,_,0,(r.drop (HT.sIx xs.length 0 lo)).take (HT.sIx xs.length xs.length hi - HT.sIx xs.length 0 lo),Heap.get?_push_size _ rfl⟩
def wE:V->Bool
 | .non=>true
 | .bl _=>true
 | .int _=>true
 | .str _=>true
 | _=>false
def eqV:V->V->Bool
 | .non,.non=>true
 | .bl a,.bl b=>a == b
 | .bl a,.int b=>(if a then 1 else 0) == b
 | .int a,.bl b=>a == (if b then 1 else 0)
 | .int a,.int b=>a == b
 | .str a,.str b=>a == b
 | _,_=>false
theorem i3 {A:Around} {s:Shared} {y x:V} {u v:Value} (ry:z7 y u) (rx:z7 x v) (fy:wE y=true) (fx:wE x=true):SeqAt.EqAt A s u v (eqV y x):=by
 cases y with
 | non=>
  cases ry
  cases x with
  | non=>cases rx;exact SeqAt.EqAt.same _
  | bl b=>cases rx;exact SeqAt.EqAt.none_bool b
  | int b=>obtain ⟨t,rfl⟩:=rx;exact SeqAt.EqAt.none_int b t
  | str b=>obtain ⟨t,rfl⟩:=rx;exact SeqAt.EqAt.none_str b t
  | _=>exact absurd (show false=true from fx) zKY
 | bl a=>
  cases ry
  cases x with
  | non=>cases rx;exact SeqAt.EqAt.bool_none a
  | bl b=>cases rx;exact SeqAt.EqAt.bool_bool a b
  | int b=>obtain ⟨t,rfl⟩:=rx;exact SeqAt.EqAt.bool_int a b t
  | str b=>obtain ⟨t,rfl⟩:=rx;exact SeqAt.EqAt.bool_str a b t
  | _=>exact absurd (show false=true from fx) zKY
 | int a=>
  obtain ⟨t',rfl⟩:=ry
  cases x with
  | non=>cases rx;exact SeqAt.EqAt.int_none a t'
  | bl b=>cases rx;exact SeqAt.EqAt.int_bool a t' b
  | int b=>obtain ⟨t,rfl⟩:=rx;exact SeqAt.EqAt.int_int a t' b t
  | str b=>obtain ⟨t,rfl⟩:=rx;exact SeqAt.EqAt.int_str a t' b t
  | _=>exact absurd (show false=true from fx) zKY
 | str a=>
  obtain ⟨t',rfl⟩:=ry
  cases x with
  | non=>cases rx;exact SeqAt.EqAt.str_none a t'
  | bl b=>cases rx;exact SeqAt.EqAt.str_bool a t' b
  | int b=>obtain ⟨t,rfl⟩:=rx;exact SeqAt.EqAt.str_int a t' b t
  | str b=>obtain ⟨t,rfl⟩:=rx;exact SeqAt.EqAt.str_str a t' b t
  | _=>exact absurd (show false=true from fx) zKY
 | _=>exact absurd (show false=true from fy) zKY
def eqU (x:V) (u:Value):Bool:=match u with
 | .none=>eqV .non x
 | .bool b=>eqV (.bl b) x
 | .int i _=>eqV (.int i) x
 | .str z _=>eqV (.str z) x
 | _=>false
theorem zAW {x y:V} {u:Value} (r:z7 y u) (f:wE y=true):eqU x u=eqV y x:=by
 cases y with
 | non=>cases r;rfl
 | bl b=>cases r;rfl
 | int i=>obtain ⟨t,rfl⟩:=r;rfl
 | str z=>obtain ⟨t,rfl⟩:=r;rfl
 | _=>exact absurd (show false=true from f) zKY
theorem rA {x:V}:∀ {xs:List V} {us:List Value},zY xs us->xs.all wE=true->us.any (eqU x)=xs.any fun y=>eqV y x
 | _,_,.nil,_=>rfl
 | y :: xs,u :: us,.cons r t,f=>by
  rw [List.all_cons,Bool.and_eq_true] at f
  rw [List.any_cons,List.any_cons,zAW r f.1,rA t f.2]
theorem uZ {A:Around} {s:Shared} {x:V} {v:Value} (rx:z7 x v) (fx:wE x=true):∀ {xs:List V} {us:List Value},zY xs us->xs.all wE=true->∀ u ∈ us,SeqAt.EqAt A s u v (eqU x u)
 | _,_,.nil,_=>fun u hu=>by cases hu
 | y :: xs,u :: us,.cons r t,f=>fun u' hu=>by
  rw [List.all_cons,Bool.and_eq_true] at f
  rcases List.mem_cons.mp hu with rfl | hu
  ·rw [zAW r f.1];exact i3 r rx f.1 fx
  ·exact uZ rx fx t f.2 u' hu
def inV (x:V) (xs:List V):Bool:=xs.any fun y=>eqV y x
def rIn (K:W.Frag) (neg:Bool):R2:=fun x y H Q=>∃ p xs,y=.ref p/\(SqL K H p xs \/ SqT K H p xs)/\wE x=true/\xs.all wE=true/\Q (.bl (if neg then !inV x xs else inV x xs)) H
theorem rG:OpR X (compareOp .In) (rIn X.K false):=by
 intro zp s σ H x y v u Q I rx ry h
 obtain ⟨p,xs,rfl,hq,fx,fs,q⟩:=h
 cases ry
 rcases hq with hq | hq
 ·obtain ⟨its,r,pl,hz⟩:=I.list hq
  refine SeqAt.in_listAt (eqU x) pl.isList (fun w hw=>uZ rx fx r fs w (by simpa using hw)) ⟨.bl _,H,I,rfl,?_⟩
  rw [show its.toArray.any (eqU x)=its.any (eqU x) by simp,rA r fs]
  exact q
 ·obtain ⟨its,r,pl,hz⟩:=I.tuple hq
  refine SeqAt.in_tupleAt (eqU x) pl (fun w hw=>uZ rx fx r fs w (by simpa using hw)) ⟨.bl _,H,I,rfl,?_⟩
  rw [show its.toArray.any (eqU x)=its.any (eqU x) by simp,rA r fs]
  exact q
theorem sH:OpR X (compareOp .NotIn) (rIn X.K true):=by
 intro zp s σ H x y v u Q I rx ry h
 obtain ⟨p,xs,rfl,hq,fx,fs,q⟩:=h
 cases ry
 rcases hq with hq | hq
 ·obtain ⟨its,r,pl,hz⟩:=I.list hq
  refine SeqAt.notIn_listAt (eqU x) pl.isList (fun w hw=>uZ rx fx r fs w (by simpa using hw)) ⟨.bl _,H,I,rfl,?_⟩
  rw [show its.toArray.any (eqU x)=its.any (eqU x) by simp,rA r fs]
  exact q
 ·obtain ⟨its,r,pl,hz⟩:=I.tuple hq
  refine SeqAt.notIn_tupleAt (eqU x) pl (fun w hw=>uZ rx fx r fs w (by simpa using hw)) ⟨.bl _,H,I,rfl,?_⟩
  rw [show its.toArray.any (eqU x)=its.any (eqU x) by simp,rA r fs]
  exact q
theorem y6:wV X (.type "list") (fun xs H Q=>∃ p ys,xs=[.ref p]/\(SqL X.K H p ys \/ SqT X.K H p ys)/\∀ l,H l=none->Q (.ref l) (upd H l (.lst ys))):=by
 intro zp s σ H xs us Q I r h
 obtain ⟨p,ys,rfl,hq,q⟩:=h
 obtain ⟨u,rfl,rx⟩:=uS r
 cases rx
 have fin:∀ (its:List Value),zY ys its->ys.length <= sizeLine->∀ (h':Heap) (c':Nat),(∀ b o',s.heap.get? b=some o'->h'.get? b=some o') ->
   h'.get? s.heap.objs.size=some { cls:=.type "list",dict:=none,data:=.seq its.toArray c',slots:=#[] }->EP X zp σ Q (.ref s.heap.objs.size) { s with heap:=h' }:=fun its r' hz h' c' kp e=>
  ⟨.ref s.heap.objs.size,_,I.laid (t':=s.toks) kp (zKF _) (show yV X.prog X.w _ h' _ (.lst ys) from ⟨hz,its,c',r',e⟩),rfl,q _ (I.hok.fresh (zKF _))⟩
 rcases hq with hq | hq
 ·obtain ⟨its,r',pl,hz⟩:=I.list hq
  have hlen:=r'.length
  obtain ⟨o,ho,hc,n,hd⟩:=pl.isList
  exact call_list_seq p (.inl rfl) ho hc hd (fun h' c' kp e=>fin its r' hz h' c' kp e) (by simp only [zKE] <;> omega)
 ·obtain ⟨its,r',pl,hz⟩:=I.tuple hq
  have hlen:=r'.length
  obtain ⟨o,ho,hc,n,hd⟩:=pl
  exact call_list_seq p (.inr rfl) ho hc hd (fun h' c' kp e=>fin its r' hz h' c' kp e) (by simp only [zKE] <;> omega)
theorem pW:wV X (.type "tuple") (fun xs H Q=>∃ p ys,xs=[.ref p]/\((SqL X.K H p ys/\∀ l,H l=none->Q (.ref l) (upd H l (.tup ys))) \/ (SqT X.K H p ys/\Q (.ref p) H))):=by
 intro zp s σ H xs us Q I r h
 obtain ⟨p,ys,rfl,h⟩:=h
 obtain ⟨u,rfl,rx⟩:=uS r
 cases rx
 rcases h with ⟨hq,q⟩ | ⟨hq,q⟩
 ·obtain ⟨its,r',pl,hz⟩:=I.list hq
  have hlen:=r'.length
  refine call_tuple_list pl.isList (fun h' kp=>?_) (by simp only [zKE] <;> omega)
  have I1:Inv X zp σ H { s with heap:=h' }:=I.kept (t':=s.toks) kp
  have I2:Inv X zp σ (upd H h'.objs.size (.tup ys)) { s with heap:=h'.push { cls:=.type "tuple",data:=.seq its.toArray } }:=
   I1.laid (t':=s.toks) (fun b o e=>Heap.get?_push_of_some _ e) (zKF _) (show yV X.prog X.w _ _ _ (.tup ys) from ⟨hz,its,r',IsTup.new _ _⟩)
  exact ⟨.ref h'.objs.size,_,I2,rfl,q _ (I1.hok.fresh (zKF _))⟩
 ·obtain ⟨its,r',pl,hz⟩:=I.tuple hq
  exact call_tuple_same pl ⟨.ref p,H,I,rfl,q⟩
def tyV (K:W.Frag) (T:String) (x:V) (H:Hp):Prop:=match x with
 | .str _=>T="str"
 | .int _=>T="int"
 | .ref p=>(T="list"/\∃ xs,SqL K H p xs) \/ (T="tuple"/\∃ o,K.lookup p=some o/\o.cls=.type "tuple"/\o.dict=none) \/
   (T="dict"/\((∃ kvs,H p=some (.dK kvs)) \/ ∃ kvs,H p=some (.dT kvs))) \/ (T="set"/\∃ S n,H p=some (.set S n))
 | _=>False
theorem cK {zp:LAO} {σ:St} {H:Hp} {s:Shared} {T:String} {x:V} {v:Value} (I:Inv X zp σ H s) (r:z7 x v) (ty:tyV X.K T x H) :
  s.TypeIs v T/\∀ a,v=.ref a->∃ ob,s.heap.get? a=some ob/\ob.dict=none:=by
 cases x with
 | str z=>
  obtain ⟨t,rfl⟩:=r
  cases (show T="str" from ty)
  exact ⟨typeIs_str s z t,fun _ e=>nomatch e⟩
 | int i=>
  obtain ⟨t,rfl⟩:=r
  cases (show T="int" from ty)
  exact ⟨typeIs_int s i t,fun _ e=>nomatch e⟩
 | ref p=>
  cases r
  rcases ty with ⟨rfl,xs,hq⟩ | ⟨rfl,o,hk,hc,hd⟩ | ⟨rfl,hk⟩ | ⟨rfl,S,n,hk⟩
  ·obtain ⟨its,_,pl,_⟩:=I.list hq
   refine ⟨pl.isList.typeIs,fun a e=>?_⟩
   cases e
   obtain ⟨o,n,e,c,hd,_⟩:=pl
   exact ⟨o,e,hd⟩
  ·refine ⟨⟨o,I.kIn p o hk,hc⟩,fun a e=>?_⟩
   cases e
   exact ⟨o,I.kIn _ o hk,hd⟩
  ·have z:∃ o,s.heap.get? p=some o/\o.ExactDict:=by
    rcases hk with ⟨kvs,hk⟩ | ⟨kvs,hk⟩
    ·obtain ⟨_,_,_,_,o,_,_,e,ex,_⟩:=I.hok p _ hk
     exact ⟨o,e,ex⟩
    ·obtain ⟨_,_,_,_,o,_,_,e,ex,_⟩:=I.hok p _ hk
     exact ⟨o,e,ex⟩
   obtain ⟨o,e,ex⟩:=z
   refine ⟨⟨o,e,ex.1⟩,fun a e2=>?_⟩
   cases e2
   exact ⟨o,e,ex.2.1⟩
  ·obtain ⟨o,_,_,_,e,ex,_⟩:=I.hok p _ hk
   refine ⟨⟨o,e,ex.1⟩,fun a e2=>?_⟩
   cases e2
   exact ⟨o,e,ex.2.1⟩
 | _=>exact False.elim ty
def tBM0 (K:W.Frag) (T:String) (r:V->List V->Hp->VK->Prop) (to:TE):TE:=fun σ H Q=>to σ H fun x H1=>tyV K T x H1/\r x [] H1 Q
def tBM (K:W.Frag) (T:String) (r:V->List V->Hp->VK->Prop) (to:TE) (t:TA):TE:=fun σ H Q=>to σ H fun x H1=>tyV K T x H1/\t σ H1 fun xs H2=>r x xs H2 Q
variable {o e:Expr} {es:List Expr} {to:TE} {t:TA} {name:Str} {apos cpos:Pos} {T id:String} {r:V->List V->Hp->VK->Prop}
theorem zF0 (pa:PlainAttrs T) (slot:Slot T name id) (hty:typeOf (.builtin id)=pure (.type "method_descriptor")) (hm:MtR X id r) (ho:PE X o to)
  (hbase:attributeBase o name X.env (eval o X.env)=eval o X.env:=by rfl) (hline:(apos.endLine == cpos.line)=true:=by rfl):PE X (.Call (.Attribute o name apos) [] [] cpos) (tBM0 X.K T r to):=by
 intro zp s σ H Q I h
 refine wpAny_Call_method0_late hbase hline (thn (ho zp s σ H _ I h) fun v s1 hz41=>?_)
 obtain ⟨x,H1,I1,r1,ty,q1⟩:=hz41
 obtain ⟨h1,h2⟩:=cK I1 r1 ty
 exact ⟨T,id,pa,slot,hty,h1,h2,Calls.callWith_builtin rfl (PySem.evalArgs_none (hm zp s1 σ H1 x [] v [] Q I1 r1 .nil q1))⟩
theorem uW (pa:PlainAttrs T) (slot:Slot T name id) (hty:typeOf (.builtin id)=pure (.type "method_descriptor")) (hm:MtR X id r) (ho:PE X o to) (ha:PA X (e :: es) t)
  (hbase:attributeBase o name X.env (eval o X.env)=eval o X.env:=by rfl)
  (hfew:((backTo cpos (starEach (e :: es) X.env)).all (fun x=>!x.1) && (backToKw cpos (keywordEach [] X.env)).all (fun x=>x.1.isSome)
   && decide ((e :: es).length + ([]:List Keyword).length + (if ([]:List Keyword).isEmpty then 0 else 1) < 30))=true:=by rfl)
  (hline:(apos.endLine == cpos.line)=true:=by rfl) (hs:starEach (e :: es) X.env=(false,eval e X.env) :: starEach es X.env:=by rfl) (hplain:(backTo cpos (starEach es X.env)).any (·.1)=false:=by rfl) :
  PE X (.Call (.Attribute o name apos) (e :: es) [] cpos) (tBM X.K T r to t):=by
 intro zp s σ H Q I h
 refine wpAny_Call_method_late hbase hfew hline rfl (thn (ho zp s σ H _ I h) fun v s1 hz42=>?_)
 obtain ⟨x,H1,I1,r1,ty,q1⟩:=hz42
 obtain ⟨h1,h2⟩:=cK I1 r1 ty
 refine ⟨T,id,pa,slot,hty,h1,h2,?_⟩
 have hA:=ha cpos zp s1 σ H1 _ I1 q1
 rw [hs] at hA ⊢
 refine Calls.callWith_builtin (by show (false || (backTo cpos (starEach es X.env)).any (·.1))=false;rw [hplain] <;> rfl) (Calls.evalArgs_plain ?_)
 exact thn hA fun us s2 ⟨vs,H2,I2,r2,q2⟩=>hm zp s2 σ H2 x vs v us Q I2 r1 r2 q2
end
def MtM (X:Cx) (id:String) (r:V->List V->Hp->VK->Prop):Prop:=
 ∀ (zp:LAO) (s:Shared) (σ:St) (H:Hp) (x:V) (xs:List V) (v:Value) (us:List Value) (Q:VK),Inv X zp σ H s->z7 x v->zY xs us->r x xs H Q ->
  wpAny (model X.prog X.w) X.A (call (.builtin id) (v :: us)) (EP X zp σ Q) X.xe s
theorem zY.one {x:V} {us:List Value} (h:zY [x] us):∃ u,us=[u]/\z7 x u:=by
 cases h with
 | cons r k=>cases k;exact ⟨_,rfl,r⟩
theorem zY.two {x y:V} {us:List Value} (h:zY [x,y] us):∃ u v,us=[u,v]/\z7 x u/\z7 y v:=by
 cases h with
 | cons r k=>cases k with
  | cons q m=>cases m;exact ⟨_,_,rfl,r,q⟩
theorem zY.zero:∀ {us:List Value},zY [] us->us=[]
 | _,.nil=>rfl
theorem zY.dropLast {xs:List V} {us:List Value} (h:zY xs us):zY xs.dropLast us.dropLast:=by
 induction h with
 | nil=>exact .nil
 | cons r t ih=>
  cases t with
  | nil=>exact .nil
  | cons q t'=>exact .cons r ih
theorem zY.eraseIdx:∀ {xs:List V} {us:List Value} (i:Nat),zY xs us->zY (xs.eraseIdx i) (us.eraseIdx i)
 | _,_,_,.nil=>.nil
 | _,_,0,.cons _ t=>t
 | _,_,i + 1,.cons r t=>.cons r (zY.eraseIdx i t)
theorem iY {α:Type} (l:List α):l.eraseIdx (l.length - 1)=l.dropLast:=by
 induction l with
 | nil=>rfl
 | cons a r ih=>
  cases r with
  | nil=>rfl
  | cons b r=>
   have e:(a :: b :: r).length - 1=((b :: r).length - 1) + 1:=by
    have h1:(a :: b :: r).length=r.length + 2:=rfl
    have h2:(b :: r).length=r.length + 1:=rfl
    omega
   rw [e,List.eraseIdx_cons_succ,ih]
   all_goals rfl
theorem oM {α:Type}:∀ (l:List α) (i:Nat),(l.eraseIdx i).length <= l.length
 | [],_=>zKF _
 | _ :: _,0=>Nat.le_succ _
 | _ :: r,i + 1=>Nat.succ_le_succ (oM r i)
section
variable {X:Cx} {zp:LAO} {σ:St} {H:Hp} {s:Shared} {l b:Addr} {xs ys zs:List V}
theorem Inv.lset {its its':List Value} {n:Nat} {f:Array Value->Array Value} {t':Nat} (I:Inv X zp σ H s) (hH:H l=some (.lst xs))
  (e:s.heap.get? l=some { cls:=.type "list",data:=.seq its.toArray n }) (hf:f its.toArray=its'.toArray) (hv:zY ys its') (hz:ys.length <= sizeLine) :
  Inv X zp σ (upd H l (.lst ys)) { s with heap:=s.heap.update l (Obj.mapSeq f),toks:=t' }:=by
 have q:=PySem.IsL.update e f
 rw [hf] at q
 refine I.write (x:=l) (e:=l) (by rw [hH];exact trivial) (.inl rfl) (fun b' u hb hu=>(Heap.get?_update_other s.heap (Obj.mapSeq f) (Ne.symm hb)).trans hu) ⟨_,q⟩ ?_
 exact ⟨hz,its',_,hv,q⟩
theorem Inv.lnew {its:List Value} {t':Nat} (I:Inv X zp σ H s) (hv:zY ys its) (hz:ys.length <= sizeLine) :
  Inv X zp σ (upd H s.heap.objs.size (.lst ys)) { s with heap:=s.heap.push { cls:=.type "list",data:=.seq its.toArray },toks:=t' }:=
 I.laid (fun _ _ q=>Heap.get?_push_of_some _ q) (zKF _) ⟨hz,its,0,hv,Heap.get?_push_size _ rfl⟩
theorem Inv.fresh (I:Inv X zp σ H s):H s.heap.objs.size=none:=I.hok.fresh (zKF _)
theorem Inv.lstM (I:Inv X zp σ H s) (hH:H l=some (.lst xs)):xs.length <= sizeLine/\∃ (its:List Value) (n:Nat),zY xs its/\xs.length=its.length/\s.heap.get? l=some { cls:=.type "list",data:=.seq its.toArray n }:=by
 obtain ⟨z,its,n,r,e⟩:=I.hok l _ hH
 exact ⟨z,its,n,r,r.length,e⟩
theorem zAB {n:Nat} (h:n <= sizeLine):Builtin.List.listTooLong n=false:=by
 unfold Builtin.List.listTooLong
 exact zKM (by omega)
end
section
variable {X:Cx}
def zCE:V->List V->Hp->VK->Prop:=fun x vs H Q=>∃ l xs y,x=.ref l/\vs=[y]/\H l=some (.lst xs)/\xs.length < sizeLine/\Q .non (upd H l (.lst (xs ++ [y])))
theorem wG:MtM X "list.append" zCE:=by
 intro zp s σ H x vs v us Q I rx rv h
 obtain ⟨l,xs,y,rfl,rfl,hH,hz,q⟩:=h
 cases rx
 obtain ⟨u,rfl,ru⟩:=rv.one
 obtain ⟨z,its,n,r,hl,e⟩:=I.lstM hH
 refine call_meets F.slot_list_append ⟨_,e,rfl⟩ F.entry_list_append (F.args_list_append_2 _ _) (PySem.list_append l its.toArray n u (by rw [zKE];omega)) ⟨e,?_⟩
 refine ⟨.non,_,I.lset (its':=its ++ [u]) hH e (by simp) (r.append (.cons ru .nil)) ?_,rfl,q⟩
 rw [zKO,List.length_singleton]
 omega
def zCD:V->List V->Hp->VK->Prop:=fun x vs H Q=>∃ l b xs zs,x=.ref l/\vs=[.ref b]/\H l=some (.lst xs)/\H b=some (.lst zs)/\xs.length + zs.length <= sizeLine/\Q .non (upd H l (.lst (xs ++ zs)))
theorem dG:MtM X "list.extend" zCD:=by
 intro zp s σ H x vs v us Q I rx rv h
 obtain ⟨l,b,xs,zs,rfl,rfl,hH,hB,hz,q⟩:=h
 cases rx
 obtain ⟨u,rfl,ru⟩:=rv.one
 cases ru
 obtain ⟨z,its,n,r,hl,e⟩:=I.lstM hH
 obtain ⟨z2,its2,n2,r2,hl2,e2⟩:=I.lstM hB
 have hsz:its.toArray.size + its2.toArray.size <= sizeLine:=by rw [zKE,zKE];omega
 have hlong:¬ (!its.toArray.isEmpty && Builtin.List.listTooLong (its.toArray.size + its2.toArray.size))=true:=by
  rw [zAB hsz,Bool.and_false]
  exact zKY
 refine call_meets F.slot_list_extend ⟨_,e,rfl⟩ F.entry_list_extend (F.args_list_extend_2 _ _)
  (AutoSeq1.list_extend_list_list_0 l its.toArray n b its2.toArray n2 hlong (by rw [zKE];omega) (by omega)) ⟨e,e2,?_⟩
 refine ⟨.non,_,I.lset (its':=its ++ its2) hH e (by simp) (r.append r2) ?_,rfl,q⟩
 rw [zKO]
 omega
def rPop:V->List V->Hp->VK->Prop:=fun x vs H Q=>∃ l xs y,x=.ref l/\vs=[]/\H l=some (.lst xs)/\xs[xs.length - 1]?=some y/\Q y (upd H l (.lst xs.dropLast))
theorem zGL:MtM X "list.pop" rPop:=by
 intro zp s σ H x vs v us Q I rx rv h
 obtain ⟨l,xs,y,rfl,rfl,hH,hy,q⟩:=h
 cases rx
 have hus:=rv.zero
 subst hus
 obtain ⟨z,its,n,r,hl,e⟩:=I.lstM hH
 obtain ⟨u,hu,ru⟩:=r.get hy
 have hy':its.toArray[its.toArray.size - 1]?=some u:=by
  show its.toArray[its.length - 1]?=some u
  rw [<- Array.getElem?_toList,<- hl]
  exact hu
 refine call_meets F.slot_list_pop ⟨_,e,rfl⟩ F.entry_list_pop (F.args_list_pop_1 _) (MeetsSeq.list_pop_last l its.toArray n u hy' (by rw [zKE];omega)) ⟨e,?_⟩
 refine ⟨y,_,I.lset (its':=its.dropLast) hH e ?_ r.dropLast ?_,ru,q⟩
 ·show its.toArray.eraseIdxIfInBounds (its.toArray.size - 1)=its.dropLast.toArray
  rw [zKE,List.eraseIdxIfInBounds_toArray,iY]
 ·rw [List.length_dropLast]
  omega
def zFQ:V->List V->Hp->VK->Prop:=fun x vs H Q=>∃ l xs i k y,x=.ref l/\vs=[.int i]/\H l=some (.lst xs)/\-(2 ^ 63) <= i/\i < 2 ^ 63/\seqIndex? i xs.length=some k/\xs[k]?=some y/\Q y (upd H l (.lst (xs.eraseIdx k)))
theorem lW:MtM X "list.pop" zFQ:=by
 intro zp s σ H x vs v us Q I rx rv h
 obtain ⟨l,xs,i,k,y,rfl,rfl,hH,h1,h2,hk,hy,q⟩:=h
 cases rx
 obtain ⟨u,rfl,ru⟩:=rv.one
 obtain ⟨t,rfl⟩:=ru
 obtain ⟨z,its,n,r,hl,e⟩:=I.lstM hH
 obtain ⟨w,hw,rw'⟩:=r.get hy
 refine call_meets F.slot_list_pop ⟨_,e,rfl⟩ F.entry_list_pop (F.args_list_pop_2 _ _)
  (MeetsSeq.list_pop_at l its.toArray n i t k w (fitsIndex_both h1 h2) (by rw [zKE,<- hl];exact hk) (by rw [<- Array.getElem?_toList];exact hw) (by rw [zKE];omega)) ⟨e,?_⟩
 refine ⟨y,_,I.lset (its':=its.eraseIdx k) hH e ?_ (r.eraseIdx k) ?_,rw',q⟩
 ·show its.toArray.eraseIdxIfInBounds k=(its.eraseIdx k).toArray
  rw [List.eraseIdxIfInBounds_toArray]
 ·have:=oM xs k
  omega
def rCat:R2:=fun x y H Q=>∃ l b xs zs,x=.ref l/\y=.ref b/\H l=some (.lst xs)/\H b=some (.lst zs)/\xs.length + zs.length <= sizeLine/\∀ p,H p=none->Q (.ref p) (upd H p (.lst (xs ++ zs)))
theorem vS:OpR X (binaryOp .Add) rCat:=by
 intro zp s σ H x y v u Q I rx ry h
 obtain ⟨l,b,xs,zs,rfl,rfl,hH,hB,hz,q⟩:=h
 cases rx
 cases ry
 obtain ⟨z,its,n,r,hl,e⟩:=I.lstM hH
 obtain ⟨z2,its2,n2,r2,hl2,e2⟩:=I.lstM hB
 refine PySem.P.add_list e e2 ?_ (by rw [zKE,zKE];omega)
 have ea:its.toArray ++ its2.toArray=(its ++ its2).toArray:=by simp
 rw [ea]
 exact ⟨.ref _,_,I.lnew (t':=s.toks) (r.append r2) (by rw [zKO];omega),rfl,q _ I.fresh⟩
end
section
variable {prog:Program} {w:World} {A:Around} {E:VSP} {s:Shared}
end
section
variable {X:Cx}
end
section
variable {κ:Type} [DecidableEq κ]
def wN (kvs:List (κ × V)) (k:κ):Option V:=(kvs.find? fun kv=>decide (kv.1=k)).map (·.2)
def xH (kvs:List (κ × V)) (k:κ) (v:V):List (κ × V):=
 if (kvs.any fun kv=>decide (kv.1=k))=true then kvs.map (fun kv=>if kv.1=k then (kv.1,v) else kv) else kvs ++ [(k,v)]
theorem xT {p:κ × V} {r:List (κ × V)} {k:κ} (e:p.1=k):wN (p :: r) k=some p.2:=by simp [wN,List.find?_cons,e]
theorem xL {p:κ × V} {r:List (κ × V)} {k:κ} (e:¬ p.1=k):wN (p :: r) k=wN r k:=by simp [wN,List.find?_cons,e]
theorem tW (k:κ):∀ kvs:List (κ × V),(kvs.any fun kv=>decide (kv.1=k))=(wN kvs k).isSome
 | []=>rfl
 | p :: r=>by
  rw [List.any_cons]
  by_cases e:p.1=k
  ·simp only [xT e,zKL e,Bool.true_or,Option.isSome_some]
  ·rw [xL e,zKM e,Bool.false_or];exact tW k r
theorem m3 (k j:κ) (y:V):∀ kvs:List (κ × V),wN (kvs.map fun kv=>if kv.1=k then (kv.1,y) else kv) j=(wN kvs j).map fun x=>if j=k then y else x
 | []=>rfl
 | p :: r=>by
  have ih:=m3 k j y r
  rw [List.map_cons]
  by_cases h:p.1=k
  ·rw [if_pos h]
   by_cases e:p.1=j
   ·rw [xT (p:=(p.1,y)) e,xT e,Option.map_some,if_pos (e.symm.trans h)]
   ·rw [xL (p:=(p.1,y)) e,xL e,ih]
  ·rw [if_neg h]
   by_cases e:p.1=j
   ·rw [xT (p:=p) e,xT e,Option.map_some,if_neg (fun z=>h (e.trans z))]
   ·rw [xL (p:=p) e,xL e,ih]
theorem p9 (k j:κ) (y:V):∀ kvs:List (κ × V),wN kvs k=none->wN (kvs ++ [(k,y)]) j=if j=k then some y else wN kvs j
 | [],_=>by
  by_cases e:k=j
  ·rw [if_pos e.symm];exact xT (p:=(k,y)) e
  ·rw [if_neg (fun z=>e z.symm)];exact xL (p:=(k,y)) e
 | p :: r,hn=>by
  rw [List.cons_append]
  have hk:¬ p.1=k:=fun z=>by rw [xT z] at hn;cases hn
  rw [xL hk] at hn
  have ih:=p9 k j y r hn
  by_cases e:p.1=j
  ·rw [xT e,xT e,if_neg (fun z=>hk (e.trans z))]
  ·rw [xL e,xL e,ih]
theorem tV (kvs:List (κ × V)) (k j:κ) (y:V):wN (xH kvs k y) j=if j=k then some y else wN kvs j:=by
 unfold xH
 by_cases a:(kvs.any fun kv=>decide (kv.1=k))=true
 ·rw [if_pos a,m3]
  rw [tW] at a
  by_cases e:j=k
  ·obtain ⟨x,hx⟩:=Option.isSome_iff_exists.mp a
   rw [if_pos e,e,hx,Option.map_some,if_pos rfl]
  ·rw [if_neg e]
   cases wN kvs j with
   | none=>rfl
   | some x=>rw [Option.map_some,if_neg e]
 ·rw [if_neg a]
  refine p9 k j y kvs ?_
  rw [tW] at a
  cases q:wN kvs k with
  | none=>rfl
  | some x=>rw [q] at a;exact (a rfl).elim
theorem wA (kvs:List (κ × V)) (k:κ) (v:V):(xH kvs k v).length <= kvs.length + 1:=by
 unfold xH
 split
 ·rw [zJ6];omega
 ·rw [zKO,zKR,List.length_nil];omega
theorem tJ.isSome_eq {o:Option V} {u:Option Value} (r:tJ o u):o.isSome=u.isSome:=by
 cases o with
 | none=>cases u with
  | none=>rfl
  | some _=>exact (show False from r).elim
 | some _=>cases u with
  | none=>exact (show False from r).elim
  | some _=>rfl
theorem KV.val {kvs:List (κ × V)} {vs:List (κ × Value)} (r:KV kvs vs) (k:κ):tJ (wN kvs k) (valueAt vs k):=by
 unfold KV at r
 induction r with
 | nil=>exact True.intro
 | @cons p q ps qs h t ih=>
  obtain ⟨h1,h2⟩:=h
  by_cases e:p.1=k
  ·have e':q.1=k:=h1.symm.trans e
   have b:valueAt (q :: qs) k=some q.2:=by simp [valueAt,List.find?_cons,e']
   rw [xT e,b];exact h2
  ·have e':¬ q.1=k:=fun z=>e (h1.trans z)
   have b:valueAt (q :: qs) k=valueAt qs k:=by simp [valueAt,List.find?_cons,e']
   rw [xL e,b];exact ih
theorem KV.any {kvs:List (κ × V)} {vs:List (κ × Value)} (r:KV kvs vs) (k:κ):(kvs.any fun kv=>decide (kv.1=k))=vs.any fun kv=>decide (kv.1=k):=by
 unfold KV at r
 induction r with
 | nil=>rfl
 | cons h t ih=>rw [List.any_cons,List.any_cons,ih,h.1]
theorem KV.repl {kvs:List (κ × V)} {vs:List (κ × Value)} (r:KV kvs vs) (k:κ) {y:V} {u:Value} (ry:z7 y u) :
  KV (kvs.map fun kv=>if kv.1=k then (kv.1,y) else kv) (vs.map fun kv=>if kv.1=k then (kv.1,u) else kv):=by
 unfold KV at r ⊢
 induction r with
 | nil=>exact .nil
 | @cons p q ps qs h t ih=>
  rw [List.map_cons,List.map_cons]
  refine .cons ?_ ih
  obtain ⟨h1,h2⟩:=h
  by_cases e:p.1=k
  ·rw [if_pos e,if_pos (h1.symm.trans e)];exact ⟨h1,ry⟩
  ·rw [if_neg e,if_neg (fun z=>e (h1.trans z))];exact ⟨h1,h2⟩
theorem KV.put {kvs:List (κ × V)} {vs:List (κ × Value)} (r:KV kvs vs) (k:κ) {y:V} {u:Value} (ry:z7 y u):KV (xH kvs k y) (stored vs k u):=by
 unfold xH stored
 rw [r.any k]
 by_cases e:(vs.any fun kv=>decide (kv.1=k))=true
 ·rw [if_pos e,if_pos e];exact r.repl k ry
 ·rw [if_neg e,if_neg e];exact Paired.snoc r ⟨rfl,ry⟩
theorem KV.length {kvs:List (κ × V)} {vs:List (κ × Value)} (r:KV kvs vs):kvs.length=vs.length:=Paired.length r
end
theorem pE {P:Program} {w:World} {k:Key} {u:Value} (r:z7 (kV k) u):(xF P w).is k u=true:=by
 cases k with
 | inl i=>obtain ⟨t,e⟩:=(show ∃ t,u=Value.int i t from r);subst e;exact lY P w i t
 | inr x=>obtain ⟨t,e⟩:=(show ∃ t,u=Value.str x t from r);subst e;exact lX P w x t
theorem oO {P:Program} {w:World}:∀ {ks:List Key} {us:List Value},zY (ks.map kV) us->ItemsAre (xF P w) ks us
 | [],_,r=>by rw [List.map_nil] at r;cases r;exact .nil
 | k :: ks,_,r=>by
  rw [List.map_cons] at r
  cases r with
  | cons h t=>exact .cons (pE h) (oO t)
abbrev KT (H:Hp):List (List Key × V)->List (List Key × Addr × Value)->Prop:=Paired fun p q=>p.1=q.1/\H q.2.1=some (.tup (p.1.map kV))/\z7 p.2 q.2.2
theorem KT.val {H:Hp} {kvs:List (List Key × V)} {xs:List (List Key × Addr × Value)} (r:KT H kvs xs) (k:List Key):tJ (wN kvs k) ((atKey xs k).map (·.2)):=by
 induction r with
 | nil=>exact True.intro
 | @cons p q ps qs h t ih=>
  obtain ⟨h1,_,h2⟩:=h
  by_cases e:p.1=k
  ·have e':q.1=k:=h1.symm.trans e
   have b:atKey (q :: qs) k=some q.2:=by simp [atKey,List.find?_cons,e']
   rw [xT e,b];exact h2
  ·have e':¬ q.1=k:=fun z=>e (h1.trans z)
   have b:atKey (q :: qs) k=atKey qs k:=by simp [atKey,List.find?_cons,e']
   rw [xL e,b];exact ih
theorem KT.repl {H:Hp} {kvs:List (List Key × V)} {xs:List (List Key × Addr × Value)} (r:KT H kvs xs) (k:List Key) {y:V} {u:Value} (ry:z7 y u) :
  KT H (kvs.map fun kv=>if kv.1=k then (kv.1,y) else kv) (xs.map (putAt k u)):=by
 induction r with
 | nil=>exact .nil
 | @cons p q ps qs h t ih=>
  rw [List.map_cons,List.map_cons]
  refine .cons ?_ ih
  obtain ⟨h1,h2,h3⟩:=h
  unfold putAt
  by_cases e:p.1=k
  ·rw [if_pos e,if_pos (h1.symm.trans e)];exact ⟨h1,h2,ry⟩
  ·rw [if_neg e,if_neg (fun z=>e (h1.trans z))];exact ⟨h1,h2,h3⟩
theorem KT.put {H:Hp} {kvs:List (List Key × V)} {xs:List (List Key × Addr × Value)} (r:KT H kvs xs) (k:List Key) {b:Addr} {y:V} {u:Value} (hb:H b=some (.tup (k.map kV))) (ry:z7 y u) :
  KT H (xH kvs k y) (storedH xs k b u):=by
 have e:(kvs.any fun kv=>decide (kv.1=k))=(atKey xs k).isSome:=by
  rw [tW,(r.val k).isSome_eq,Option.isSome_map]
 unfold xH storedH
 rw [e]
 by_cases q:(atKey xs k).isSome=true
 ·rw [if_pos q,if_pos q];exact r.repl k ry
 ·rw [if_neg q,if_neg q];exact Paired.snoc r ⟨rfl,hb,ry⟩
theorem KT.keeps {H H':Hp} {kvs:List (List Key × V)} {xs:List (List Key × Addr × Value)} (r:KT H kvs xs) (ht:∀ b ys,H b=some (.tup ys)->H' b=some (.tup ys)):KT H' kvs xs:=
 Paired.mapP r fun _ _ z=>⟨z.1,ht _ _ z.2.1,z.2.2⟩
section
variable {P:Program} {w:World} {H:Hp} {h:Heap} {a:Addr}
theorem zEE {u:HO} (ok:HOk P w H h) (e:Rd H a u):yV P w H h a u:=e.ok ok
theorem jL {kvs:List (Key × V)} (ok:HOk P w H h) (e:Rd H a (.dK kvs)):kvs.length <= sizeLine/\(a == sysModules)=false/\∃ vs,KV kvs vs/\h.DictOf (xF P w) a vs:=
 show yV P w H h a (.dK kvs) from zEE ok e
theorem zA4 {kvs:List (Key × V)} (ok:HOk P w H h) (e:H a=some (.dK kvs)):kvs.length <= sizeLine/\(a == sysModules)=false/\∃ vs,KV kvs vs/\h.DictOf (xF P w) a vs:=jL ok (.inl e)
theorem rK {ks:List Key} (ok:HOk P w H h) (e:H a=some (.tup (ks.map kV))):(tupleKind (xF P w)).is h ks a:=by
 obtain ⟨_,its,r,o,h1,h2,n,h3⟩:=(show yV P w H h a (.tup (ks.map kV)) from ok a _ e)
 exact ⟨o,its.toArray,n,h1,h2,h3,by simpa using oO r⟩
theorem jK {kvs:List (List Key × V)} (ok:HOk P w H h) (e:Rd H a (.dT kvs)):kvs.length <= sizeLine/\(a == sysModules)=false /\
  ∃ xs,KT H kvs xs/\h.DictOfH (tupleKind (xF P w)) a xs:=by
 obtain ⟨z,y,xs,r,o,es,ep,h1,h2,h3,h4,h5⟩:=(show yV P w H h a (.dT kvs) from zEE ok e)
 refine ⟨z,y,xs,r,o,es,ep,h1,h2,h3,h4,fun x hx=>?_,h5⟩
 have all:∀ {l:List (List Key × V)} {m:List (List Key × Addr × Value)},KT H l m->∀ x ∈ m,(tupleKind (xF P w)).is h x.1 x.2.1:=by
  intro l m q
  induction q with
  | nil=>intro x hx;exact nomatch hx
  | @cons p q ps qs hq t ih=>
   intro x hx
   rcases List.mem_cons.mp hx with e | hx
   ·subst e
    exact rK ok (by rw [<- hq.1];exact hq.2.1)
   ·exact ih x hx
 exact all r x hx
theorem zES {kvs:List (List Key × V)} (ok:HOk P w H h) (e:H a=some (.dT kvs)):kvs.length <= sizeLine/\(a == sysModules)=false /\
  ∃ xs,KT H kvs xs/\h.DictOfH (tupleKind (xF P w)) a xs:=jK ok (.inl e)
end
def vX (H:Hp) (a:Addr) (y:V) (r:Option V):Prop:=
 (∃ kvs k,Rd H a (.dK kvs)/\y=kV k/\r=wN kvs k) \/ ∃ kvs k b,Rd H a (.dT kvs)/\y=.ref b/\H b=some (.tup (k.map kV))/\r=wN kvs k
def zBQ (H:Hp) (a:Addr) (y v:V) (H':Hp):Prop:=
 (∃ kvs k,H a=some (.dK kvs)/\y=kV k/\kvs.length < sizeLine/\H'=upd H a (.dK (xH kvs k v))) \/
 ∃ kvs k b,H a=some (.dT kvs)/\y=.ref b/\H b=some (.tup (k.map kV))/\kvs.length < sizeLine/\H'=upd H a (.dT (xH kvs k v))
theorem vX.k {H:Hp} {a:Addr} {kvs:List (Key × V)} {k:Key} (e:H a=some (.dK kvs)):vX H a (kV k) (wN kvs k):=.inl ⟨kvs,k,.inl e,rfl,rfl⟩
theorem vX.t {H:Hp} {a b:Addr} {kvs:List (List Key × V)} {k:List Key} (e:H a=some (.dT kvs)) (eb:H b=some (.tup (k.map kV))):vX H a (.ref b) (wN kvs k):=.inr ⟨kvs,k,b,.inl e,rfl,eb,rfl⟩
theorem zBQ.k {H:Hp} {a:Addr} {kvs:List (Key × V)} {k:Key} {v:V} (e:H a=some (.dK kvs)) (hl:kvs.length < sizeLine):zBQ H a (kV k) v (upd H a (.dK (xH kvs k v))):=.inl ⟨kvs,k,e,rfl,hl,rfl⟩
section
variable {X:Cx} {zp:LAO} {σ:St} {H:Hp} {s:Shared} {a:Addr} {y v:V} {u r:Value} {o:Option V} {A:Around} {E:VSP}
theorem Inv.big (I:Inv X zp σ H s):sysModules < s.heap.objs.size:=by
 have h:mainGlobals < s.heap.objs.size:=(I.mod.glob.keeps I.bk).lt
 exact Nat.lt_trans (by decide) h
theorem dZ {Q:VSP} (hu:A.units + 1 < cLine) (I:Inv X zp σ H s) (g:vX H a y (some v)) (ry:z7 y u) (h:∀ w' s',Inv X zp σ H s'->z7 v w'->Q w' s') :
  wpAny (model X.prog X.w) A (getItem (.ref a) u) Q E s:=by
 rcases g with ⟨kvs,k,e,ey,l⟩ | ⟨kvs,k,b,e,ey,eb,l⟩
 ·subst ey
  obtain ⟨z,hd,vs,rel,dd⟩:=jL I.hok e
  obtain ⟨w',hw,rw'⟩:=tJ.some_of (v:=v) (o:=valueAt vs k) (by rw [l];exact rel.val k)
  exact wpAny_getItem_of (pE ry) dd.mapOf hw (h w' _ (I.tok _) rw')
 ·subst ey
  cases (show u=Value.ref b from ry)
  obtain ⟨z,hd,xs,rel,dd⟩:=jK I.hok e
  obtain ⟨w',hw,rw'⟩:=tJ.some_of (v:=v) (o:=(atKey xs k).map (·.2)) (by rw [l];exact rel.val k)
  obtain ⟨p,hp,hp2⟩:=Option.map_eq_some_iff.mp hw
  refine wpAny_getItem_heap (tupleKind_room_in1 hu) (rK I.hok eb) dd hp ?_
  rw [hp2]
  exact h w' _ (I.tok _) rw'
theorem d_in {Q:VSP} (hu:A.units + 1 < cLine) (I:Inv X zp σ H s) (g:vX H a y o) (ry:z7 y u) (h:∀ s',Inv X zp σ H s'->Q (.bool o.isSome) s') :
  wpAny (model X.prog X.w) A (compareOp .In u (.ref a)) Q E s:=by
 rcases g with ⟨kvs,k,e,ey,l⟩ | ⟨kvs,k,b,e,ey,eb,l⟩
 ·subst ey
  obtain ⟨z,hd,vs,rel,dd⟩:=jL I.hok e
  refine wpAny_in_of (pE ry) hd dd.mapOf ?_
  rw [<- (rel.val k).isSome_eq,<- l]
  exact h _ (I.tok _)
 ·subst ey
  cases (show u=Value.ref b from ry)
  obtain ⟨z,hd,xs,rel,dd⟩:=jK I.hok e
  refine wpAny_in_heap (tupleKind_room_in1 hu) (rK I.hok eb) hd dd ?_
  have q:=(rel.val k).isSome_eq
  rw [Option.isSome_map] at q
  rw [<- q,<- l]
  exact h _ (I.tok _)
theorem zDN {Q:VSP} (hu:A.units + 1 < cLine) (I:Inv X zp σ H s) (g:vX H a y o) (ry:z7 y u) (h:∀ s',Inv X zp σ H s'->Q (.bool (!o.isSome)) s') :
  wpAny (model X.prog X.w) A (compareOp .NotIn u (.ref a)) Q E s:=by
 rcases g with ⟨kvs,k,e,ey,l⟩ | ⟨kvs,k,b,e,ey,eb,l⟩
 ·subst ey
  obtain ⟨z,hd,vs,rel,dd⟩:=jL I.hok e
  refine wpAny_notIn_of (pE ry) hd dd.mapOf ?_
  rw [<- (rel.val k).isSome_eq,<- l]
  exact h _ (I.tok _)
 ·subst ey
  cases (show u=Value.ref b from ry)
  obtain ⟨z,hd,xs,rel,dd⟩:=jK I.hok e
  refine wpAny_notIn_heap (tupleKind_room_in1 hu) (rK I.hok eb) hd dd ?_
  have q:=(rel.val k).isSome_eq
  rw [Option.isSome_map] at q
  rw [<- q,<- l]
  exact h _ (I.tok _)
theorem sY {h':Heap} {t':Nat} {ob:HO} (I:Inv X zp σ H s) (mu:Mut (H a)) (hs:Heap.SameBut a s.heap h') (he:∃ q,h'.get? a=some q) (new:yV X.prog X.w (upd H a ob) h' a ob) :
  Inv X zp σ (upd H a ob) { s with heap:=h',toks:=t' }:=
 I.write (x:=a) (e:=a) mu (.inl rfl) (fun b q hb z=>(hs.2 b hb).trans z) he new
theorem i5 {P:Program} {w:World} {H':Hp} {h':Heap} {kvs:List (Key × V)} {vs:List (Key × Value)} (z:kvs.length <= sizeLine) (hd:(a == sysModules)=false) (rel:KV kvs vs) (dd:h'.DictOf (xF P w) a vs) :
  yV P w H' h' a (.dK kvs):=⟨z,hd,vs,rel,dd⟩
theorem dY {H':Hp} {Q:Unit->Shared->Prop} (hu:A.units + 1 < cLine) (I:Inv X zp σ H s) (g:zBQ H a y v H') (ry:z7 y u) (rv:z7 v r) (h:∀ s',Inv X zp σ H' s'->Q () s') :
  wpAny (model X.prog X.w) A (setItem (.ref a) u r) Q E s:=by
 rcases g with ⟨kvs,k,e,ey,l,eH⟩ | ⟨kvs,k,b,e,ey,eb,l,eH⟩
 ·subst ey eH
  obtain ⟨z,hd,vs,rel,dd⟩:=zA4 I.hok e
  have hz:vs.length <= sizeLine:=by rw [<- rel.length];exact z
  have hl:(xH kvs k v).length <= sizeLine:=by have:=wA kvs k v;omega
  refine wpAny_setItem_pairs (hsz:=hz) (pE ry) dd fun h' dd' hs=>h _ ?_
  have he:∃ q,h'.get? a=some q:=let ⟨q,_,_,hq,_⟩:=dd';⟨q,hq⟩
  exact sY I (by rw [e];exact True.intro) hs he (i5 hl hd (rel.put k rv) dd')
 ·subst ey eH
  cases (show u=Value.ref b from ry)
  obtain ⟨z,hd,xs,rel,dd⟩:=zES I.hok e
  have hz:xs.length <= sizeLine:=by rw [<- Paired.length rel];exact z
  have hl:(xH kvs k v).length <= sizeLine:=by have:=wA kvs k v;omega
  refine wpAny_setItem_heap (hsz:=hz) (tupleKind_room_in1 hu) (rK I.hok eb) dd fun h' dd' hs=>h _ ?_
  obtain ⟨q,es,ep,hq,h2,h3,h4,_,h5⟩:=dd'
  refine sY I (by rw [e];exact True.intro) hs ⟨q,hq⟩ ⟨hl,hd,_,(rel.put k eb rv).keeps fun c ys ec=>?_,q,es,ep,hq,h2,h3,h4,h5⟩
  rw [zJ (sR ec e (fun z=>nomatch z))]
  exact ec
end
section
variable {X:Cx} {zp:LAO} {σ:St} {H:Hp} {s:Shared} {a:Addr} {kvs:List (Key × V)} {k:Key} {u:Value} {A:Around} {E:VSP}
end
def zJ1 (i:Expr):Prop:=∀ ov iv,subscripted i false ov iv=operate [ov,iv] (getItem ov iv)
theorem zBU {prog:Program} {w:World} {A:Around} {E:VSP} {s:Shared} {env:Env} {value slice:Expr} {pos:Pos} {T id:String} {Q:VSP}
  (hl:typeLookup (.type T) "__getitem__"=pure (some (.builtin id))) (hs:zJ1 slice)
  (h:wpAny (model prog w) A (eval value env) (fun o s₁=>wpAny (model prog w) A (eval slice env) (fun i s₂=>s₂.TypeIs o T/\wpAny (model prog w) A (getItem o i) Q E s₂) E s₁) E s) :
  wpAny (model prog w) A (eval (.Subscript value slice pos) env) Q E s:=by
 refine Subscript_ (wpAny_mono h (fun o s₁ h₁=>wpAny_mono h₁ (fun i s₂ h₂=>?_) fun _ _ x=>x) fun _ _ x=>x)
 obtain ⟨hT,h₂⟩:=h₂
 unfold subscriptTail
 refine wpAny_bind ?_
 rw [getitemInPython_of_ne hT.not_modules]
 refine wpAny_bind (wpAny_specialOf hT hl ?_)
 have fin:wpAny (model prog w) A (subscripted slice false o i) (fun r s₃=>wpAny (model prog w) A (letTemporaryGo value o r >>= fun _=>pure r) Q E s₃) E s₂:=by
  rw [hs o i]
  exact wpAny_operating (wpAny_mono h₂ (fun r s₃ h₃=>wpAny_bind (wpAny_letTemporaryGo (wpAny_pure h₃))) fun _ _ x=>x)
 first
  | exact wpAny_pure (wpAny_bind fin)
  | exact wpAny_bind (wpAny_pure (wpAny_bind fin))
  | exact wpAny_bind fin
theorem jN {X:Cx} {zp:LAO} {σ:St} {H:Hp} {s:Shared} {a:Addr} {y:V} {o:Option V} (I:Inv X zp σ H s) (g:vX H a y o):s.TypeIs (.ref a) "dict":=by
 rcases g with ⟨kvs,k,e,_,_⟩ | ⟨kvs,k,b,e,_,_,_⟩
 ·obtain ⟨_,_,vs,_,dd⟩:=jL I.hok e
  exact dd.typeIs
 ·obtain ⟨_,_,xs,_,dd⟩:=jK I.hok e
  exact dd.typeIs
def zHM (td ty:TE):TE:=fun σ H Q=>td σ H fun x H1=>ty σ H1 fun y H2=>∃ a v,x=.ref a/\vX H2 a y (some v)/\Q v H2
def tDIn (ty td:TE):TE:=fun σ H Q=>ty σ H fun y H1=>td σ H1 fun x H2=>∃ a o,x=.ref a/\vX H2 a y o/\Q (.bl o.isSome) H2
def zBT (ty td:TE):TE:=fun σ H Q=>ty σ H fun y H1=>td σ H1 fun x H2=>∃ a o,x=.ref a/\vX H2 a y o/\Q (.bl (!o.isSome)) H2
def zIT (td ty tv:TE):TS:=fun D σ H=>tv σ H fun v H1=>td σ H1 fun x H2=>ty σ H2 fun y H3=>∃ a H4,x=.ref a/\zBQ H3 a y v H4/\D.nx σ H4
section
variable {X:Cx} {o i e value:Expr} {pos pos' tpos:Pos} {td ty tv:TE}
theorem uC (hu:X.A.units + 1 < cLine) (ho:PE X o td) (hi:PE X i ty) (hs:zJ1 i):PE X (.Subscript o i pos) (zHM td ty):=by
 intro zp s σ H Q I h
 refine zBU F.slot_dict_getitem.lookup hs (thn (ho zp s σ H _ I h) fun u s1 hz43=>?_)
 obtain ⟨x,H1,I1,rx,q1⟩:=hz43
 refine thn (hi zp s1 σ H1 _ I1 q1) fun iv s2 hz44=>?_
 obtain ⟨y,H2,I2,ry,a,v,ex,g,q2⟩:=hz44
 subst ex
 obtain rfl:u=Value.ref a:=rx
 exact ⟨jN I2 g,dZ hu I2 g ry fun w' s3 I3 rw'=>⟨v,H2,I3,rw',q2⟩⟩
theorem zF1 (hu:X.A.units + 1 < cLine) (hi:PE X i ty) (ho:PE X o td):PC X .In i o (tDIn ty td):=by
 intro zp s σ H Q I h
 refine thn (hi zp s σ H _ I h) fun iv s1 hz45=>?_
 obtain ⟨y,H1,I1,ry,q1⟩:=hz45
 refine thn (ho zp s1 σ H1 _ I1 q1) fun u s2 hz46=>?_
 obtain ⟨x,H2,I2,rx,a,ov,ex,g,q2⟩:=hz46
 subst ex
 obtain rfl:u=Value.ref a:=rx
 exact d_in hu I2 g ry fun s3 I3=>⟨.bl ov.isSome,H2,I3,rfl,q2⟩
theorem oI (hu:X.A.units + 1 < cLine) (hi:PE X i ty) (ho:PE X o td):PC X .NotIn i o (zBT ty td):=by
 intro zp s σ H Q I h
 refine thn (hi zp s σ H _ I h) fun iv s1 hz47=>?_
 obtain ⟨y,H1,I1,ry,q1⟩:=hz47
 refine thn (ho zp s1 σ H1 _ I1 q1) fun u s2 hz48=>?_
 obtain ⟨x,H2,I2,rx,a,ov,ex,g,q2⟩:=hz48
 subst ex
 obtain rfl:u=Value.ref a:=rx
 exact zDN hu I2 g ry fun s3 I3=>⟨.bl (!ov.isSome),H2,I3,rfl,q2⟩
theorem zCI (hu:X.A.units + 1 < cLine) (ho:PE X o td) (hi:PE X i ty) (hv:PE X value tv) (hs:swapsWith value (some (.Subscript o i pos')) pos.line X.env=pure false) :
  PS X (.Assign [.Subscript o i pos'] value pos) (zIT td ty tv):=by
 intro zp s σ H D I h
 refine wpAny_Assign_Subscript (thn (hv zp s σ H _ I h) fun r s1 hz49=>?_) hs
 obtain ⟨v,H1,I1,rv,q1⟩:=hz49
 refine thn (ho zp s1 σ H1 _ I1 q1) fun u s2 hz50=>?_
 obtain ⟨x,H2,I2,rx,q2⟩:=hz50
 refine thn (hi zp s2 σ H2 _ I2 q2) fun iv s3 hz51=>?_
 obtain ⟨y,H3,I3,ry,a,H4,ex,g,q3⟩:=hz51
 subst ex
 obtain rfl:u=Value.ref a:=rx
 exact dY hu I3 g ry rv fun s4 I4=>⟨σ,H4,I4,q3⟩
end
theorem jM {P:Program} {w:World} {H:Hp} (h:Heap) (hb:sysModules < h.objs.size):yV P w H (h.push { cls:=.type "dict",data:=.dict #[] }) h.objs.size (.dK []):=
 ⟨zKG _,beq_eq_false_iff_ne.mpr (Ne.symm (zKX hb)),[],.nil,Heap.DictOf.new h⟩
theorem zA2 {P:Program} {w:World} {H:Hp} (h:Heap) (hb:sysModules < h.objs.size):yV P w H (h.push { cls:=.type "dict",data:=.dict #[] }) h.objs.size (.dT []):=
 ⟨zKG _,beq_eq_false_iff_ne.mpr (Ne.symm (zKX hb)),[],.nil,_,#[],0,Heap.get?_push_size _ rfl,⟨rfl,rfl,rfl⟩,rfl,rfl,List.nodup_nil⟩
section
variable {X:Cx} {pos:Pos}
end
def jX:List (TE × TE)->St->Hp->(List (V × V)->Hp->Prop)->Prop
 | [],_,H,Q=>Q [] H
 | (tk,tv) :: r,σ,H,Q=>tk σ H fun x H1=>tv σ H1 fun y H2=>jX r σ H2 fun ps H3=>Q ((x,y) :: ps) H3
abbrev VV:List (V × V)->List (Value × Value)->Prop:=Paired fun p q=>z7 p.1 q.1/\z7 p.2 q.2
def PPs (X:Cx) (pos:Pos) (keys:List (Option Expr)) (values:List Expr) (trs:List (TE × TE)):Prop:=
 ∀ (zp:LAO) (s:Shared) (σ:St) (H:Hp) (Q:List (V × V)->Hp->Prop),Inv X zp σ H s->jX trs σ H Q ->
  wpAny (model X.prog X.w) X.A (evalPairs (pairTrees keys values X.env pos)) (fun vs s'=>∃ ps H',Inv X zp σ H' s'/\VV ps vs/\Q ps H') X.xe s
theorem gR {X:Cx} {pos:Pos}:PPs X pos [] [] []:=fun zp s σ H Q I h=>pairTrees_nil_walk ⟨[],H,I,.nil,h⟩
theorem lK {X:Cx} {pos:Pos} {k v:Expr} {ks:List (Option Expr)} {vs:List Expr} {tk tv:TE} {trs:List (TE × TE)} (hk:PE X k tk) (hv:PE X v tv) (hr:PPs X pos ks vs trs) :
  PPs X pos (some k :: ks) (v :: vs) ((tk,tv) :: trs):=fun zp s σ H Q I h=>
 pairTrees_cons_walk (thn (hk zp s σ H _ I h) fun u s1 ⟨x,H1,I1,rx,q1⟩=>thn (hv zp s1 σ H1 _ I1 q1) fun w2 s2 ⟨y,H2,I2,ry,q2⟩=>
  thn (hr zp s2 σ H2 _ I2 q2) fun ws s3 ⟨ps,H3,I3,rel,q3⟩=>⟨(x,y) :: ps,H3,I3,.cons ⟨rx,ry⟩ rel,q3⟩)
def uQ (kvs more:List (Key × V)):List (Key × V):=more.foldl (fun acc kv=>xH acc kv.1 kv.2) kvs
theorem KV.merge:∀ {more:List (Key × V)} {rs:List (Key × Value)} {kvs:List (Key × V)} {vs:List (Key × Value)},KV more rs->KV kvs vs->KV (uQ kvs more) (merged vs rs):=by
 intro more rs kvs vs r
 unfold KV at r
 induction r generalizing kvs vs with
 | nil=>intro q;exact q
 | @cons p q ps qs h t ih=>
  intro r0
  have e:KV (xH kvs p.1 p.2) (stored vs q.1 q.2):=by
   have:=r0.put p.1 h.2
   rw [<- h.1];exact this
  exact ih e
theorem tK:∀ (more kvs:List (Key × V)),(uQ kvs more).length <= kvs.length + more.length
 | [],kvs=>by show kvs.length <= kvs.length + 0;omega
 | p :: r,kvs=>by
  have h1:=tK r (xH kvs p.1 p.2)
  have h2:=wA kvs p.1 p.2
  show (uQ (xH kvs p.1 p.2) r).length <= _
  rw [zKR];omega
theorem pO {P:Program} {w:World}:∀ {kvs:List (Key × V)} {ws:List (Value × Value)},VV (kvs.map fun kv=>(kV kv.1,kv.2)) ws->∃ rs,Carries (xF P w) ws rs/\KV kvs rs
 | [],_,r=>by rw [List.map_nil] at r;cases r;exact ⟨[],True.intro,.nil⟩
 | p :: kvs,_,r=>by
  rw [List.map_cons] at r
  cases r with
  | @cons a b as bs h t=>
   obtain ⟨rs,c,q⟩:=pO (P:=P) (w:=w) t
   obtain ⟨b1,b2⟩:=b
   exact ⟨(p.1,b2) :: rs,⟨pE h.1,rfl,c⟩,.cons ⟨rfl,h.2⟩ q⟩
def zHL (trs:List (TE × TE)):TE:=fun σ H Q=>∀ p,H p=none->jX trs σ (upd H p (.dK [])) fun ps H2=>H2 p=some (.dK [])/\∃ kvs:List (Key × V),ps=kvs.map (fun kv=>(kV kv.1,kv.2))/\kvs.length <= 15/\Q (.ref p) (upd H2 p (.dK (uQ [] kvs)))
theorem gX {X:Cx} {pos:Pos} {keys:List (Option Expr)} {values:List Expr} {trs:List (TE × TE)} (h:PPs X pos keys values trs) (hall:keys.all (·.isSome)=true) (hl:keys.length=values.length) (h0:keys ≠ [])
  (h15:keys.length <= 15):PE X (.Dict keys values pos) (zHL trs):=by
 intro zp s σ H Q I q
 have hn:=I.hok.fresh (zKF s.heap.objs.size)
 have I1:=I.laid (a:=s.heap.objs.size) (o:=.dK []) (h':=s.heap.push { cls:=.type "dict",data:=.dict #[] }) (t':=s.toks) (fun _ _ q=>Heap.get?_push_of_some _ q) (zKF _) (jM s.heap I.big)
 refine wpAny_Dict_walk (knd:=xF X.prog X.w) hall hl h0 h15 (thn (h zp _ σ _ _ I1 (q _ hn)) fun ws s2 hz52=>?_)
 obtain ⟨ps,H2,I2,rel,e,kvs,ep,lk,q2⟩:=hz52
 subst ep
 obtain ⟨rs,c,rk⟩:=pO (P:=X.prog) (w:=X.w) rel
 obtain ⟨z,hd,vs0,r0,dd⟩:=zA4 I2.hok e
 cases r0
 refine ⟨rs,c,dd,fun h' dd' hs=>⟨.ref s.heap.objs.size,_,?_,rfl,q2⟩⟩
 have hz:(uQ [] kvs).length <= sizeLine:=by
  have h1:=tK kvs []
  rw [List.length_nil] at h1
  rw [sizeLine_eq];omega
 have he:∃ q,h'.get? s.heap.objs.size=some q:=let ⟨q,_,_,hq,_⟩:=dd';⟨q,hq⟩
 exact sY I2 (by rw [e];exact True.intro) hs he (i5 hz hd (rk.merge .nil) dd')
section
variable {X:Cx} {zp:LAO} {σ:St} {H:Hp} {s:Shared} {a:Addr} {y d:V} {u r:Value} {o:Option V} {A:Around} {E:VSP}
end
section
variable {X:Cx} {o e f:Expr} {apos cpos:Pos} {td ty tx:TE}
end
section
variable {X:Cx} {zp:LAO} {σ:St} {H:Hp} {s:Shared} {a:Addr} {kvs:List (Key × V)} {A:Around} {E:VSP}
end
section
variable {X:Cx} {zp:LAO} {σ:St} {H:Hp} {s:Shared} {a:Addr} {y:V} {u:Value} {A:Around} {E:VSP}
end
end L2
namespace Att
open PySem PySem.W PySem.Calls PyProof.Rows
theorem ints_of_wellAll {P:Params} {h:Heap}:∀ (ns:List Int) (vs:List Value),WellAll P h vs (ns.map WData.int)->IntsAre vs ns:=by
 intro ns
 induction ns with
 | nil=>
  intro vs w
  rw [List.map_nil] at w
  cases w
  exact .nil
 | cons n ns ih=>
  intro vs w
  rw [List.map_cons] at w
  cases w with
  | cons a b=>
   cases a
   exact .cons _ _ (ih _ b)
theorem script_of {l:OpenLaw} {n:Nat} (hn:l.most=some n) {P:Params} {h:Heap} {args:List WData} {vals:List Value}
  (hpre:l.row.toRowW.claim.pre args=true) (hwl:WellAll P h vals args) :
  ∃ a vs ns,vals=[Value.ref a]/\args=[WData.list (ns.map WData.int)]/\h.get? a=some { cls:=.type "list",data:=.seq vs.toArray }/\IntsAre vs ns/\ns.length <= n:=by
 have hsh:WShape.hasAll [] args [.list .int]=true:=(pre_splitW hpre).1
 have hc:l.pre.holds [] { args:=args }=true:=(pre_splitW hpre).2
 obtain ⟨d,r,rfl,h1,h2⟩:=hasAllW_cons hsh
 obtain rfl:=hasAllW_nil h2
 obtain ⟨xs,rfl,h3⟩:=hasW_list h1
 obtain ⟨ns,rfl⟩:=items_int h3
 have hlen:ns.length <= n:=by
  unfold OpenLaw.pre at hc
  have h4:(WTm.not (.lt (.lit (.int (n:Int))) (.len (.arg 0)))).holds [] { args:=[.list (ns.map .int)] }=true:=by
   have h4:=(holds_andW hc).1
   rw [hn] at h4
   exact h4
  have h5:=condW_of h4 (w_not (w_lt w_lit (w_len_list (w_arg rfl))))
  rw [zJ6] at h5
  refine Nat.le_of_not_lt fun q=>?_
  have q':(n:Int) < ((ns.length:Nat):Int):=by omega
  first
   | (rw [zKL q'] at h5;exact absurd h5 (by decide))
   | (simp at h5;omega)
 cases hwl with
 | cons w1 w2=>
  cases w2
  cases w1 with
  | list ho hall=>exact ⟨_,_,ns,rfl,rfl,ho,ints_of_wellAll ns _ hall,hlen⟩
theorem post_true (l:OpenLaw) (args:List WData):l.row.toRowW.claim.post args (.bool true) args=true:=
 postW_of (r:=l.row.toRowW) (X:=(true == true))
  (show WShape.has [] (.bool true) .bool=true by first | rfl | decide | simp [WShape.has,WShape.arms,WShape.armsAll])
  (show (WTm.eq .res (.lit (.bool true))).value [] { args:=args,res:=some (.bool true),after:=args }=some (.bool (true == true)) from w_eq_bool (w_res rfl) w_lit) rfl
theorem attach_call {l:OpenLaw} {n:Nat} {q:Program} {loose:List Str} {XP:(Str->Option Value)->Heap->Prop} {YP:World->Heap->Prop} {d:DefRec}
  (hn:l.most=some n) (hdf:d.params.defaults=[])
  (call:∀ (w:World) (s₀ s₁:Shared) (mg mb:Str->Option Value) (fa:Addr) (o:Obj) (pm cd doc:Value) (a:Addr) (vs:List Value) (ns:List Int),
   Ground q loose [] XP w s₀ mg mb s₁.heap->YP w s₁.heap ->
   s₁.heap.get? fa=some o->o.data=.func (docDef d.name d.params d.body d.scope pm cd doc)->s₁.heap.CodeRec cd d.name->mg d.name=some (.ref fa) ->
   s₁.heap.get? a=some { cls:=.type "list",data:=.seq vs.toArray }->IntsAre vs ns->ns.length <= n->s₁.gens = #[] ->
   codeAny (model l.prog w) callerA (.call (.ref fa) ⟨[.ref a],[]⟩) (fun r s'=>r=.ok (.ret (.bool true))/\OldK s₁.heap s'.heap/\s'.os=s₁.os/\AllBare s'.gens) s₁) :
  WalkO q loose XP YP l.row.toRowW d [] (fun f vs=>PySem.call f vs):=by
 intro w s₀ s₁ mg mb G Y fa o pm cd doc dV kV ho hd hcd hD hmg hg args vals as hpre hlay hrd hwl hlo
 obtain rfl:dV=.none:=Dflts.none hD hdf
 obtain rfl:kV=.none:=Dflts.noKw hD
 obtain ⟨a,vs,ns,rfl,rfl,hobj,hints,hlen⟩:=script_of hn hpre hwl
 refine enter_call (codeAny_mono (call w s₀ s₁ mg mb fa o pm cd doc a vs ns G Y ho (fd_plain hd) hcd hmg hobj hints hlen hg) fun r s' hq=>?_)
 obtain ⟨rfl,h2,h3,h4⟩:=hq
 exact ⟨.inl ⟨.bool true,.bool true,[],rfl,fun _=>rfl,.bool true,post_true l _,fun _=>⟨List.Pairwise.nil,fun _ hm=>(nomatch hm)⟩⟩,h2,h3,h4⟩
section
variable {prog:Program} {w:World} {A:Around} {E:Value->Shared->Prop} {s:Shared} {K:Frag}
end
end Att
namespace L2
open PySem PySem.Spec PyProof.Rows
theorem fV {vs:List Value} {ns:List Int} (h:IntsAre vs ns):zY (ns.map V.int) vs:=by
 induction h with
 | nil=>exact .nil
 | cons n t _ ih=>exact .cons ⟨t,rfl⟩ ih
def zHC (H:Hp):Prop:=∀ b,H b=none \/ ∃ o xs,H b=some (.frz o (.lst xs))
theorem zAN {P:Program} {w:World} {K:W.Frag} {mg mb:Str->Option Value} {CX:CXT} {k:Nat} {fa a:Addr} {fd:FuncData} {x:Str} {sp:Sp} {s₁:Shared} {vs:List Value} {ns:List Int}
  (KX:K.In s₁.heap) (hns:s₁.heap.Ns mainGlobals mg) (hb:s₁.heap.Ns builtinsNs mb) (hbb:∀ x:Str,x ≠ "__name__"->mb x=bootBuiltins x) (hlim:s₁.heap.NoLimit) (hg:s₁.gens = #[])
  (ha:s₁.heap.get? a=some { cls:=.type "list",data:=.seq vs.toArray }) (hi:IntsAre vs ns) (hl:ns.length <= sizeLine) (hr:zO k callerA)
  (F:∀ base:Heap,K.In base->base.Ns mainGlobals mg->vZ P w K mg base CX k fa fd [x] sp) (hbind:∀ (s:Shared) (u:Value),BindsTo s fd ⟨[u],[]⟩ [(x,u)])
  (hsp:∀ H:Hp,zHC H->SqL K H a (ns.map V.int)->sp [.ref a] H (fun v _=>v=.bl true) fun _ _ _=>False)
  (hCX:∀ H e s',CX [] H s₁ (fun _ _ _=>False) e s'->False) :
  codeAny (model P w) callerA (.call (.ref fa) ⟨[.ref a],[]⟩) (fun r s'=>r=.ok (.ret (.bool true))/\OldK s₁.heap s'.heap/\s'.os=s₁.os/\AllBare s'.gens) s₁:=by
 have rv:=fV hi
 have lenV:=hi.length
 have core:∀ H:Hp,zHC H->SqL K H a (ns.map V.int)->HOk P w H s₁.heap->(∀ b,H b ≠ none->b=a)->(H a ≠ none->K.lookup a=none) ->
   codeAny (model P w) callerA (.call (.ref fa) ⟨[.ref a],[]⟩) (fun r s'=>r=.ok (.ret (.bool true))/\OldK s₁.heap s'.heap/\s'.os=s₁.os/\AllBare s'.gens) s₁:=by
  intro H hO hS hok hA hK
  have base_of:∀ {b:Addr} {o:Obj},s₁.heap.get? b=some o->H b=none->(mI s₁.heap H).get? b=some o:=fun e n=>zAR e n
  have noA:∀ {b:Addr} {o:Obj} {es:Array DictEntry} {ep:Nat},s₁.heap.get? b=some o->o.data=.dict es ep->H b=none:=fun {b o es ep} e d=>by
   cases q:H b with
   | none=>rfl
   | some u=>
    have e':b=a:=hA b (by rw [q];simp)
    subst e'
    rw [ha] at e;cases e
    have d':Data.seq vs.toArray _=Data.dict es ep:=d
    cases d'
  have nsK:∀ {b:Addr} {m:Str->Option Value},s₁.heap.Ns b m->(mI s₁.heap H).Ns b m:=fun {b m} ⟨o,es,ep,e,d,r⟩=>⟨o,es,ep,base_of e (noA e d),d,r⟩
  have hKb:K.In (mI s₁.heap H):=fun b o e=>base_of (KX b o e) (by
   cases q:H b with
   | none=>rfl
   | some u=>
    have e':b=a:=hA b (by rw [q];simp)
    subst e'
    rw [hK (by rw [q];simp)] at e;cases e)
  have hM:Mod K mg (mI s₁.heap H):=⟨hKb,nsK hns,⟨mb,nsK hb,hbb⟩,let ⟨mc,h1,h2⟩:=hlim;⟨mc,nsK h1,h2⟩⟩
  have e0:jR P w K mg (mI s₁.heap H) callerA [] s₁ H:=⟨rfl,hM,fun b o e=>zC1 e,Nat.le_of_eq (dP _ _),trivial,fun b hb=>absurd (show b ∈ ([]:List Addr) from hb) (by simp),hok,.of_eq hg⟩
  refine codeAny_mono ((F _ hKb (nsK hns)).run callerA [] s₁ H ⟨[.ref a],[]⟩ [.ref a] [.ref a] _ _ hr e0 (hbind s₁ (.ref a)) (.cons rfl .nil) (hsp H hO hS)) fun r s' h=>?_
  cases r with
  | error e=>exact (hCX H e s' h).elim
  | ok fl=>
   cases fl with
   | next=>exact False.elim h
   | brk=>exact False.elim h
   | cont=>exact False.elim h
   | ret u=>
    obtain ⟨v,H',os,bare,un,hok',r',q⟩:=h
    have q':v=.bl true:=q
    subst q'
    obtain rfl:u=Value.bool true:=r'
    refine ⟨rfl,OldK.of_keep fun b o e=>?_,os,bare⟩
    cases q:H b with
    | none=>exact un.keep b o e q (by intro z;exact absurd (show b ∈ ([]:List Addr) from z) (by simp)) (by simp)
    | some u=>
     rcases hO b with z | ⟨ob,xs,z⟩
     ·rw [q] at z;cases z
     ·have z2:=un.frzs b ob _ z
      obtain ⟨e1,_⟩:=hok b _ z
      obtain ⟨e2,_⟩:=hok' b _ z2
      rw [e] at e1;cases e1
      exact e2
 cases hk:K.lookup a with
 | some o=>
  have e:=KX a o hk
  rw [ha] at e
  cases e
  refine core (fun _=>none) (fun _=>.inl rfl) (.inr ⟨_,vs.toArray,_,hk,rfl,rfl,rfl,by rw [zKE,lenV];exact hl,by simpa using rv⟩) (fun b u z=>by have z':(none:Option HO)=some u:=z;cases z') (fun b z=>absurd rfl z) fun z=>absurd rfl z
 | none=>
  refine core (fun b=>if b=a then some (.frz { cls:=.type "list",data:=.seq vs.toArray } (.lst (ns.map V.int))) else none) (fun b=>?_) (.inl (.inr ⟨{ cls:=.type "list",data:=.seq vs.toArray },if_pos rfl⟩)) (fun b u z=>?_) (fun b z=>?_) fun _=>hk
  ·by_cases hb:b=a
   ·exact .inr ⟨_,_,if_pos hb⟩
   ·exact .inl (if_neg hb)
  ·by_cases hb:b=a
   ·have z':=(if_pos hb).symm.trans z
    cases z'
    subst hb
    exact ⟨ha,by rw [zJ6];exact hl,vs,_,rv,ha⟩
   ·have z':=(if_neg hb).symm.trans z
    cases z'
  ·by_cases hb:b=a
   ·exact hb
   ·exact absurd (if_neg hb) z
theorem walk_of {l:W.OpenLaw} {n k:Nat} {q:Program} {loose:List Str} {XP:(Str->Option Value)->Heap->Prop} {YP:World->Heap->Prop} {d:DefRec} {K:Params->W.Frag} {CX:World->CXT} {sp:World->Sp} {x:Str}
  (hn:l.most=some n) (hn2:n <= sizeLine) (hdf:d.params.defaults=[]) (hr:zO k callerA)
  (hY:∀ (w:World) (h:Heap),YP w h->(K w.params).In h)
  (F:∀ (w:World) (mg:Str->Option Value) (fa:Addr) (h:Heap),(K w.params).In h->h.Ns mainGlobals mg->mg d.name=some (.ref fa) ->
   ∃ fd:FuncData,(∀ (s:Shared) (u:Value),BindsTo s fd ⟨[u],[]⟩ [(x,u)]) /\
    ∀ base:Heap,(K w.params).In base->base.Ns mainGlobals mg->vZ l.prog w (K w.params) mg base (CX w) k fa fd [x] (sp w))
  (hsp:∀ (w:World) (H:Hp) (a:Addr) (ns:List Int),ns.length <= n->zHC H->SqL (K w.params) H a (ns.map V.int)->sp w [.ref a] H (fun v _=>v=.bl true) fun _ _ _=>False)
  (hCX:∀ (w:World) (H:Hp) (s:Shared) (e:Value) (s':Shared),CX w [] H s (fun _ _ _=>False) e s'->False) :
  W.WalkO q loose XP YP l.row.toRowW d [] (fun f vs=>PySem.call f vs):=by
 refine Att.attach_call hn hdf fun w s₀ s₁ mg mb fa o pm cd doc a vs ns G Y ho hd hcd hmg hobj hints hlen hg=>?_
 have KX:=hY w _ Y
 obtain ⟨fd,hb,hF⟩:=F w mg fa _ KX G.T.g hmg
 exact zAN KX G.T.g G.T.b G.T.builtins G.T.nolimit hg hobj hints (zKH hlen hn2) hr hF hb (fun H hO hS=>hsp w H a ns hlen hO hS) fun H e s'=>hCX w H s₁ e s'
def z4 (s:Stmt) (j:Nat):Stmt:=match s with
 | .ClassDef _ _ _ body _ _ _ _ _ _ _=>body.getD j (.Pass ⟨0,0,0,0⟩)
 | _=>.Pass ⟨0,0,0,0⟩
def wM (s:Stmt):Arguments:=match s with
 | .FunctionDef _ a _ _ _ _ _ _ _ _=>a
 | _=>{ posonlyargs:=[],args:=[],vararg:=none,kwonlyargs:=[],kw_defaults:=[],kwarg:=none,defaults:=[] }
def yU (s:Stmt):List Stmt:=match s with
 | .FunctionDef _ _ b _ _ _ _ _ _ _=>b
 | _=>[]
def zE (s:Stmt):Scope:=match s with
 | .FunctionDef _ _ _ _ _ _ sc _ _ _=>sc
 | _=>{ kind:=.function,names:=[],isGenerator:=false,isCoroutine:=false }
abbrev CX0:CXT:=fun _ _ _ _ _ _=>False
abbrev E0:XK:=fun _ _ _=>False
theorem fA {X:Cx}:vK CX0 X E0:=fun _ _ _ _ _ _ _ h=>h.elim
structure Fun (K:W.Frag) (x qual:Str) (st:Stmt) (f:Addr) (fd:FuncData):Prop where
 ex:∃ (oc:Value) (od:Option Addr) (kV doc pm:Value) (an:Option Addr) (cdv ct:Value) (osl:Array (Option Value)),
  fd=W.fnOf x qual (wM st) (yU st) (zE st) .none kV doc pm an cdv ct/\K.lookup f=some ⟨oc,od,.func fd,osl⟩/\W.codeIn K cdv qual=true
 kp:W.keepIn K (.ref f)=true
section
variable {P:Program} {w:World} {K:W.Frag} {mg:Str->Option Value} {base:Heap}
theorem Fun.ok {x qual:Str} {st:Stmt} {f:Addr} {fd:FuncData} {N ps:List Str} {k:Nat} {sp:Sp} (F:Fun K x qual st f fd) (S:zI N ps (zE st)) (len:∀ vs H Q E,sp vs H Q E->vs.length=ps.length)
  (hbody:∀ (cdv:Value) (A:Around) (outer:List Env) (s:Shared) (H:Hp) (vs:List V) (Q:VK) (E:XK),zO k (A.deeper (envOfC qual (zE st) s.heap.objs.size f cdv))->sp vs H Q E ->
   ∃ t,PSs (uV CX0 P w K mg base N qual (zE st) f cdv A outer s H E).nox (yU st) t/\t { nx:=fun _ H'=>Q .non H',rt:=Q } (start N vs) H):vZ P w K mg base CX0 (k + 1) f fd ps sp:=by
 obtain ⟨oc,od,kV,doc,pm,an,cdv,ct,osl,rfl,lk,hcd⟩:=F.ex
 refine zEO lk hcd S len fun A outer s H vs Q E hr hsp=>?_
 obtain ⟨t,h,q⟩:=hbody cdv A outer s H vs Q E hr hsp
 exact ⟨t,h.nox,q⟩
theorem Fun.binds {x qual:Str} {st:Stmt} {f:Addr} {fd:FuncData} {ps:List Str} (F:Fun K x qual st f fd)
  (h:∀ (kV doc pm:Value) (an:Option Addr) (cdv ct:Value) (us:List Value),us.length=ps.length->bindArgs (W.fnOf x qual (wM st) (yU st) (zE st) .none kV doc pm an cdv ct) ⟨us,[]⟩=pure (ps.zip us)):vY K fd ps []:=by
 obtain ⟨oc,od,kV,doc,pm,an,cdv,ct,osl,rfl,lk,hcd⟩:=F.ex
 exact .all (h kV doc pm an cdv ct)
theorem uR {x qual:Str} {st:Stmt} {f:Addr} {oc:Value} {od an:Option Addr} {osl:Array (Option Value)} {kV doc pm cdv ct:Value} (l:K.lookup f=some ⟨oc,od,.func (W.fnOf x qual (wM st) (yU st) (zE st) .none kV doc pm an cdv ct),osl⟩)
  (c:W.codeIn K cdv qual=true) (k:W.keepIn K (.ref f)=true):Fun K x qual st f (W.fnOf x qual (wM st) (yU st) (zE st) .none kV doc pm an cdv ct):=⟨⟨oc,od,kV,doc,pm,an,cdv,ct,osl,rfl,l,c⟩,k⟩
end
theorem uT {A:Around} {k:Nat} (hr:zO k A):A.units + 1 < cLine:=Nat.lt_of_le_of_lt (Nat.add_le_add_left (by decide:1 <= 64) _) hr.units
theorem fZ {n:Nat} (h:n <= 1000):n < sizeLine:=Nat.lt_of_le_of_lt h (by decide)
section
variable {X:Cx}
theorem pv (i:Nat) {x:Str} {pos:Pos} (hN:X.N[i]?=some x:=by rfl) (hv:Vis X.env.scope x:=by first | exact Or.inl rfl | exact Or.inr (Or.inl rfl) | exact Or.inr (Or.inr rfl)) (hd:(x == ("__debug__" : Str))=false:=by decide)
  (hcd:(x == ("__classdict__" : Str))=false:=by decide):PE X (.Name x pos) (tY i):=zFU hN hv hd hcd
end
theorem iQ {A B:Prop} (h:B):if false=true then A else B:=by
 rw [if_neg zKY]
 exact h
theorem dN {A B:Prop} (h:A):if true=true then A else B:=by
 rw [if_pos rfl]
 exact h
theorem zAO {c A B:Prop} [Decidable c] (h1:c->A) (h2:¬ c->B):if c then A else B:=by
 by_cases h:c
 ·rw [if_pos h]
  exact h1 h
 ·rw [if_neg h]
  exact h2 h
def zHB (H H':Hp):Prop:=∀ b o,H b=some o->H' b=some o
theorem zHB.seq {K:W.Frag} {H H':Hp} {a:Addr} {xs:List V} (e:zHB H H') (h:SqL K H a xs):SqL K H' a xs:=by
 rcases h with (h | ⟨o,h⟩) | h
 ·exact .inl (.inl (e _ _ h))
 ·exact .inl (.inr ⟨o,e _ _ h⟩)
 ·exact .inr h
end L2
set_option maxHeartbeats 4000000
namespace L2
open PySem PySem.Spec PyProof.Rows
def clF (env:Env):List (Str × NameKind)->List (Str × Addr)->List (Str × Addr)
 | [],cs=>cs
 | (n,k) :: r,cs=>clF env r (if k == NameKind.free then (n,(env.cells.lookup n).getD 0) :: cs else cs)
theorem zDP (env:Env):∀ (l:List (Str × NameKind)) (cs:List (Str × Addr)),(∀ n,(n,NameKind.free) ∈ l->(env.cells.lookup n).isSome=true) ->
  (forIn l cs fun x r=>(match x with
   | (name,kind)=>if (kind == NameKind.free)=true then (do let c <- cellOf env name;pure (ForInStep.yield ((name,c) :: r))) else pure (ForInStep.yield r):Sem (ForInStep (List (Str × Addr)))))=pure (clF env l cs):=by
 intro l
 induction l with
 | nil=>intro cs _;rfl
 | cons x l ih=>
  intro cs h
  obtain ⟨n,k⟩:=x
  rw [List.forIn_cons]
  by_cases hk:k=NameKind.free
  ·subst hk
   have h1:=h n zKZ
   obtain ⟨c,hc⟩:=Option.isSome_iff_exists.mp h1
   simp only [beq_self_eq_true,if_true,clF,hc,Option.getD_some,cellOf,pure_bind]
   exact ih _ fun m hm=>h m (zKJ _ hm)
  ·have hb:(k == NameKind.free)=false:=by simpa using hk
   simp only [hb,Bool.false_eq_true,if_false,clF,pure_bind]
   exact ih _ fun m hm=>h m (zKJ _ hm)
theorem xN {scope:Scope} {env:Env} (h:∀ n,(n,NameKind.free) ∈ scope.names->(env.cells.lookup n).isSome=true) :
  closureFor scope env=pure (clF env scope.names []):=by
 have e:=zDP env scope.names [] h
 unfold closureFor
 simp only [bind_pure] at e ⊢
 exact e
theorem zDO (env:Env):∀ (l:List (Str × NameKind)) (cs:List (Str × Addr)),(∀ n,(n,NameKind.free) ∈ l->(env.cells.lookup n).isSome=true) ->
  (∀ y c,cs.lookup y=some c->env.cells.lookup y=some c)->∀ y c,(clF env l cs).lookup y=some c->env.cells.lookup y=some c:=by
 intro l
 induction l with
 | nil=>intro cs _ h;exact h
 | cons x l ih=>
  intro cs h hc
  obtain ⟨n,k⟩:=x
  refine ih _ (fun m hm=>h m (zKJ _ hm)) ?_
  by_cases hk:k=NameKind.free
  ·subst hk
   obtain ⟨c,e⟩:=Option.isSome_iff_exists.mp (h n zKZ)
   simp only [beq_self_eq_true,if_true,e,Option.getD_some]
   intro y c' q
   rw [List.lookup_cons] at q
   cases hy:y == n with
   | true=>
    rw [hy] at q
    have ey:y=n:=by simpa using hy
    cases q
    rw [ey];exact e
   | false=>
    rw [hy] at q
    exact hc y c' q
  ·have hb:(k == NameKind.free)=false:=by simpa using hk
   simp only [hb,Bool.false_eq_true,if_false]
   exact hc
theorem zDQ (env:Env):∀ (l:List (Str × NameKind)) (cs:List (Str × Addr)) (y:Str),((y,NameKind.free) ∈ l \/ (cs.lookup y).isSome=true)->((clF env l cs).lookup y).isSome=true:=by
 intro l
 induction l with
 | nil=>intro cs y h;exact h.elim (fun z=>by cases z) id
 | cons x l ih=>
  intro cs y h
  obtain ⟨n,k⟩:=x
  refine ih _ y ?_
  rcases h with h | h
  ·rcases List.mem_cons.mp h with e | e
   ·cases e
    right
    simp
   ·exact .inl e
  ·right
   by_cases hk:k=NameKind.free
   ·subst hk
    simp only [beq_self_eq_true,if_true,List.lookup_cons]
    cases hy:y == n <;> simp [h]
   ·have hb:(k == NameKind.free)=false:=by simpa using hk
    simp only [hb,Bool.false_eq_true,if_false]
    exact h
theorem t6 {scope:Scope} {env:Env}:∀ (l:List (Str × NameKind)) (x:Str) (k:NameKind),
  (l.map fun (n,k)=>if (k == NameKind.free && env.scope.kind == .function && env.kindOf n == some .cell) then (n,NameKind.cell) else (n,k)).lookup x=some k->k=.cell \/ k=.free ->
  (∀ y ∈ l,y.2 ≠ .cell)->(x,NameKind.free) ∈ l
 | [],x,k,h,_,_=>by simp at h
 | (n,k') :: r,x,k,h,hk,hc=>by
  rw [List.map_cons,List.lookup_cons] at h
  have hn:(if (k' == NameKind.free && env.scope.kind == .function && env.kindOf n == some .cell)=true then (n,NameKind.cell) else (n,k')).1=n:=by split <;> rfl
  simp only [hn] at h
  cases hx:x == n with
  | true=>
   rw [hx] at h
   have ex:x=n:=by simpa using hx
   subst ex
   simp only [Option.some.injEq] at h
   split at h
   ·rename_i q
    simp only [Bool.and_eq_true,beq_iff_eq] at q
    rw [q.1.1];exact zKZ
   ·have h':k'=k:=h
    rcases hk with z | z
    ·exact absurd (h'.trans z) (hc _ zKZ)
    ·rw [h',z];exact zKZ
  | false=>
   rw [hx] at h
   exact zKJ _ (t6 (scope:=scope) r x k h hk fun y hy=>hc y (zKJ _ hy))
def cxC (X:Cx) (xs:List Str) (ix:List Nat) (scope:Scope) (C:Addr) (fp:List Addr) (s:Shared) (H:Hp):Cx:=
  { X with N:=xs ++ ix.map (fun i=>X.N.getD i ""),s₀:=s,H₀:=H,env:=compEnvC scope (clF X.env scope.names []) C X.env,
           outer:=X.stack,stack:=X.stack,ex:=fp,fn:=fun _=>false,pn:=[],xe:=fun _ _=>False }
def stC (xs:List Str) (ix:List Nat) (σ:St):St:=xs.map (fun _=>none) ++ ix.map (fun i=>(σ[i]?).join)
structure yW (X:Cx) (xs:List Str) (ix:List Nat) (scope:Scope):Prop where
 kind:scope.kind=.function
 nocell:∀ y ∈ scope.names,y.2 ≠ .cell
 loc:∀ y ∈ scope.names,y.2=.local->scope.names.lookup y.1=some .local
 fre:∀ n,(n,NameKind.free) ∈ scope.names->X.env.kindOf n=some .cell \/ X.env.kindOf n=some .free
 own:∀ x ∈ xs,scope.names.lookup x=some .local
 nd:(xs ++ ix.map (fun i=>X.N.getD i "")).Nodup
 inN:∀ i ∈ ix,i < X.N.length
 frx:∀ i ∈ ix,scope.names.lookup (X.N.getD i "")=some .free
theorem t7 {scope:Scope} {env:Env}:∀ (l:List (Str × NameKind)) (x:Str),l.lookup x=some .free ->
  (l.map fun (n,k)=>if (k == NameKind.free && env.scope.kind == .function && env.kindOf n == some .cell) then (n,NameKind.cell) else (n,k)).lookup x=some .cell \/
  (l.map fun (n,k)=>if (k == NameKind.free && env.scope.kind == .function && env.kindOf n == some .cell) then (n,NameKind.cell) else (n,k)).lookup x=some .free
 | [],x,h=>by simp at h
 | (n,k') :: r,x,h=>by
  rw [List.lookup_cons] at h
  rw [List.map_cons,List.lookup_cons]
  have hn:(if (k' == NameKind.free && env.scope.kind == .function && env.kindOf n == some .cell)=true then (n,NameKind.cell) else (n,k')).1=n:=by split <;> rfl
  simp only [hn]
  cases hx:x == n with
  | true=>
   rw [hx] at h
   have h':k'=.free:=zKD h
   subst h'
   by_cases hc:(NameKind.free == NameKind.free && env.scope.kind == .function && env.kindOf n == some .cell)=true
   ·left;simp only [if_pos hc]
   ·right;simp only [if_neg hc]
  | false=>
   rw [hx] at h
   exact t7 (scope:=scope) r x h
theorem uE {X:Cx} {xs:List Str} {ix:List Nat} {scope:Scope} {zp:LAO} {σ:St} {H:Hp} {s s1:Shared} {fp:List Addr} {h1:Heap} {tk:Nat}
  (S:yW X xs ix scope) (I:Inv X zp σ H s) (hf:∀ b ∈ fp,vW X zp H b) (hfo:∀ b ∈ fp,∃ o,s.heap.get? b=some o)
  (hns:h1.Ns s.heap.objs.size (fun _=>none)) (hk:∀ b o,s.heap.get? b=some o->h1.get? b=some o) (e1:s1 = { s with heap:=h1,toks:=tk }) :
  Inv (cxC X xs ix scope s.heap.objs.size fp s H) [] (stC xs ix σ) H s1:=by
 subst e1
 have hcl:∀ n,(n,NameKind.free) ∈ scope.names->(X.env.cells.lookup n).isSome=true:=fun n hn=>by
  obtain ⟨c,e⟩:=I.ok.has n (S.fre n hn)
  rw [e];rfl
 have sub:=zDO X.env scope.names [] hcl (fun y c q=>by simp at q)
 have has:=fun y hy=>zDQ X.env scope.names [] y (.inl hy)
 have fpl:∀ b ∈ fp,b ∉ frs X.stack:=fun b hb z=>by
  obtain ⟨_,f1,f2,_⟩:=hf b hb
  rcases List.mem_cons.mp (I.stkSub b z) with q | q
  ·exact f1 q
  ·exact f2 q
 have kindR:∀ x k,(cxC X xs ix scope s.heap.objs.size fp s H).env.kindOf x=some k->k=.cell \/ k=.free->(x,NameKind.free) ∈ scope.names:=fun x k e hk'=>
  t6 (scope:=scope) (env:=X.env) scope.names x k e hk' S.nocell
 refine ⟨⟨I.ok.mod,S.kind,I.ok.glob,I.ok.blt,zKF _,fun x y c a b=>?_,fun x hx=>?_,fun x c z=>(by cases z),I.ok.hd,I.ok.frames,.inl rfl,fun b hb=>?_,I.bs,zKH I.ok.bsz I.sz,fun b o e hb=>?_,fpl,I.stack,I.stkFree⟩,
  rfl,I.bare,Un.kept hk,⟨_,hns,fun i x v e1 e2 e3=>?_⟩,fun x c e=>?_,I.hok.fresh (zKF _),fun x c e=>I.freeC x c (sub x c e),fun p hp=>absurd (show p ∈ ([]:LAO) from hp) (by simp),I.hok.kept hk,?_⟩
 ·exact I.ok.inj x y c (sub x c a) (sub y c b)
 ·have hm:(x,NameKind.free) ∈ scope.names:=hx.elim (fun z=>kindR x _ z (.inl rfl)) fun z=>kindR x _ z (.inr rfl)
  exact Option.isSome_iff_exists.mp (has x hm)
 ·obtain ⟨f0,f1,f2,f3,f4,f5⟩:=hf b hb
  obtain ⟨o,ho⟩:=hfo b hb
  exact ⟨fun z=>Nat.lt_irrefl _ (Nat.lt_of_lt_of_eq (Heap.lt_size ho) z.symm),fun x c e=>f4 x c (sub x c e)⟩
 ·obtain ⟨f0,f1,f2,f3,f4,f5⟩:=hf b hb
  rcases f3 with q | q
  ·exact I.ok.noex b o e q
  ·exact Nat.lt_irrefl _ (zKS (Heap.lt_size e) (zKH I.ok.bsz q))
 ·have e2':(xs.map (fun _=>(none:Option V)) ++ ix.map (fun i=>(σ[i]?).join))[i]?=some (some v):=e2
  have e1':(xs ++ ix.map (fun i=>X.N.getD i ""))[i]?=some x:=e1
  by_cases hi:i < xs.length
  ·rw [zKU (by simpa using hi),zKC] at e2'
   cases q:xs[i]? with
   | none=>rw [q] at e2';cases e2'
   | some z=>rw [q] at e2';cases e2'
  ·have hi':xs.length <= i:=Nat.not_lt.mp hi
   rw [zKT (by simpa using hi'),zJ6,zKC] at e2'
   rw [zKT hi',zKC] at e1'
   cases q:ix[i - xs.length]? with
   | none=>rw [q] at e2';cases e2'
   | some j=>
    rw [q] at e1' e2'
    have hj:j ∈ ix:=zKA q
    have ex:X.N.getD j ""=x:=zKD e1'
    have ev:(σ[j]?).join=some v:=zKD e2'
    have hjl:=S.inN j hj
    have eN:X.N[j]?=some x:=by
     rw [<- ex,zKB]
     rw [zJ7 hjl];rfl
    have eσ:σ[j]?=some (some v):=by
     cases z:σ[j]? with
     | none=>rw [z] at ev;cases ev
     | some y=>rw [z] at ev;simp at ev;rw [ev]
    have hfr:=S.frx j hj
    rw [ex] at hfr
    have hkin:=S.fre x (PySem.mem_of_lookup hfr)
    obtain ⟨m,hn,hl⟩:=I.loc
    obtain ⟨u,ru,lk⟩:=hl j x v eN eσ (hkin.elim (fun z=>.inr (.inl z)) fun z=>.inr (.inr z))
    refine ⟨u,ru,.inr ⟨t7 (scope:=scope) (env:=X.env) scope.names x hfr,?_⟩⟩
    rcases lk with ⟨k1,_⟩ | ⟨_,c,ec,zc⟩
    ·rcases hkin with z | z <;> (rw [z] at k1;cases k1)
    ·obtain ⟨c',ec'⟩:=Option.isSome_iff_exists.mp (has x (PySem.mem_of_lookup hfr))
     have q2:=sub x c' ec'
     rw [ec] at q2;cases q2
     obtain ⟨oc,hoc,hd⟩:=zc
     exact ⟨c,ec',oc,hk c oc hoc,hd⟩
 ·obtain ⟨v,oc,hoc,hd⟩:=I.cell x c (sub x c e)
  exact ⟨v,oc,hk c oc hoc,hd⟩
 ·show (xs.map (fun _=>(none:Option V)) ++ ix.map (fun i=>(σ[i]?).join)).length=(xs ++ ix.map (fun i=>X.N.getD i "")).length
  simp
def cxX (X:Cx) (xs:List Str) (ix:List Nat) (scope:Scope) (C:Addr) (fp:List Addr) (s:Shared) (H:Hp) (xe':VSP):Cx:={ cxC X xs ix scope C fp s H with xe:=xe' }
theorem Inv.toX {X:Cx} {zp:LAO} {σ:St} {H:Hp} {s:Shared} (I:Inv X zp σ H s) (xe':VSP):Inv { X with xe:=xe' } zp σ H s:=
 ⟨⟨I.ok.mod,I.ok.kind,I.ok.glob,I.ok.blt,I.ok.above,I.ok.inj,I.ok.has,I.ok.cab,I.ok.hd,I.ok.frames,I.ok.stk,I.ok.exf,I.ok.bs,I.ok.bsz,I.ok.noex,I.ok.exfs,I.ok.funs,I.ok.frf⟩,
  I.os,I.bare,I.base,I.loc,I.cell,I.free,I.freeC,I.pin,I.hok,I.len⟩
theorem zAI {prog:Program} {w:World} {A:Around} {R:Result->Shared->Prop} {s:Shared} {elt target iter:Expr} {ifs:List Expr} {scope:Scope} {pos:Pos} {it acc:Value} {env:Env} (J:Nat->Shared->Prop) {Eb:VSP} (nof:∀ (e:Value) (s':Shared),Eb e s'->notedBy (model prog w) A env (fun e s'=>R (.error e) s') e s')
  (turn:∀ n s,J n s->wpAny (model prog w) A (pyNext it) (fun r s1=>match r with
   | none=>R (.ok .next) s1
   | some v=>wpAny (model prog w) A (letOwnedTupleGo target it v) (fun _ s1'=>wpAny (model prog w) A (assign target env v) (fun _ s2=>
     wpAny (model prog w) A (forIn ifs true fun c r=>if r=true then do let ok <- isTrue c env (eval c env);pure (ForInStep.yield ok) else pure (ForInStep.yield r)) (fun ok s3=>
      if ok=true then wpAny (model prog w) A (eval elt env) (fun x s4=>
       wpAny (model prog w) A (call (.builtin "list.append") [acc,x]) (fun _ s5=>∃ m,m < n/\J m s5) Eb s4) Eb s3
      else ∃ m,m < n/\J m s3) Eb s2) Eb s1') Eb s1) Eb s)
  (n:Nat) (h:J n s):codeAny (model prog w) A (.compLoop (.ListComp elt [⟨target,iter,ifs,0⟩] scope pos) 0 it acc env) R s:=by
 refine codeAny_loop rfl J (fun n s hJ=>?_) n h
 show wpAny (model prog w) A ((compTurn (.ListComp elt [⟨target,iter,ifs,0⟩] scope pos) 0 it acc env).onRaise (fun x=>do noteFrame x env;theTreesLotGoes x)) _ _ s
 refine wpAny_noted ?_
 rw [compTurn_list]
 refine wpAny_bind (wpAny_standAt (wpAny_bind (wpAny_mono (turn n s hJ) (fun r s1 h1=>?_) nof)))
 cases r with
 | none=>exact wpAny_pure h1
 | some v=>
  refine wpAny_bind (wpAny_mono h1 (fun _ s1' h1'=>?_) nof)
  refine wpAny_bind (wpAny_mono h1' (fun _ s2 h2=>?_) nof)
  refine wpAny_bind (wpAny_mono h2 (fun ok s3 h3=>?_) nof)
  cases ok with
  | false=>exact wpAny_pure ⟨rfl,h3⟩
  | true=>
   refine wpAny_bind (wpAny_bind (wpAny_mono h3 (fun x s4 h4=>?_) nof))
   exact wpAny_bind (wpAny_mono h4 (fun _ s5 h5=>wpAny_pure (wpAny_pure ⟨rfl,h5⟩)) nof)
def PTs (X:Cx) (ifs:List Expr) (t:TT):Prop:=
 ∀ (zp:LAO) (s:Shared) (σ:St) (H:Hp) (Q:Bool->Hp->Prop),Inv X zp σ H s->t σ H Q ->
  wpAny (model X.prog X.w) X.A (forIn ifs true fun c r=>if r=true then do let ok <- isTrue c X.env (eval c X.env);pure (ForInStep.yield ok) else pure (ForInStep.yield r)) (TP X zp σ Q) X.xe s
def tG:TT:=fun _ H Q=>Q true H
theorem yT {X:Cx}:PTs X [] tG:=fun _ _ _ H _ I h=>wpAny_tests_nil ⟨H,I,h⟩
theorem t9 {X:Cx} {c:Expr} {t:TT} (h:PT X c t):PTs X [c] t:=fun zp s σ H Q I hw=>wpAny_tests_one (h zp s σ H Q I hw)
def LCW (J:It) (xs:List Str) (ix:List Nat) (g:TG) (tt:TT) (te:TE) (σ:St) (H1:Hp) (acc:Addr) (Q:VK):Prop:=
 ∃ W:Nat->Nat->List V->St->Hp->Prop,(∃ m,W 0 m [] (stC xs ix σ) (upd H1 acc (.lst []))) /\
  ∀ i m ys τ H,W i m ys τ H->H acc=some (.lst ys)/\ys.length < sizeLine /\
   ((J.stop i H/\Q (.ref acc) H) \/ (J.go i H/\∃ N:List V->St->Hp->Prop,(∀ ys' τ' H',N ys' τ' H'->∃ m',m' < m/\W (i + 1) m' ys' τ' H') /\
    ∀ x H',J.yld i H x H'->g x τ H' fun τ2 H2=>tt τ2 H2 fun b H3=>
    if b=true then te τ2 H3 fun y H4=>H4 acc=some (.lst ys)/\N (ys ++ [y]) τ2 (upd H4 acc (.lst (ys ++ [y]))) else N ys τ2 H3))
def tLC (xs:List Str) (ix:List Nat) (wi:TI) (g:TG) (tt:TT) (te:TE):TE:=fun σ H Q=>wi σ H fun J H1=>∀ acc,H1 acc=none->LCW J xs ix g tt te σ H1 acc Q
structure zET (Reg:Cx->Prop) (P:Program) (w:World) (tg:Expr) (J:It) (fp:List Addr) (it:Addr) (tn:Nat->Heap->Prop):Prop where
 mem:it ∈ fp
 obj:∀ i h,tn i h->∀ b ∈ fp,∃ o,h.get? b=some o/\∀ v,o.data ≠ .cell v
 keep:∀ i h h',tn i h->(∀ b ∈ fp,∀ o,h.get? b=some o->h'.get? b=some o)->tn i h'
 item:∀ (X:Cx),X.prog=P->X.w=w->Reg X->∀ (i:Nat) (zp:LAO) (s:Shared) (σ:St) (H:Hp) (E:VSP),Inv X zp σ H s->(∀ b ∈ fp,vW X zp H b)->tn i s.heap->J.go i H ->
  wpAny (model P w) X.A (pyNext (.ref it)) (fun r s1=>∃ u,r=some u /\
   wpAny (model P w) X.A (letOwnedTupleGo tg (.ref it) u) (fun _ s2=>∃ x H',Inv X zp σ H' s2/\z7 x u/\J.yld i H x H'/\tn (i + 1) s2.heap/\∀ b ∈ fp,H' b=none) E s1) E s
 done:∀ (X:Cx),X.prog=P->X.w=w->Reg X->∀ (i:Nat) (zp:LAO) (s:Shared) (σ:St) (H:Hp) (E:VSP),Inv X zp σ H s->(∀ b ∈ fp,vW X zp H b)->tn i s.heap->J.stop i H ->
  wpAny (model P w) X.A (pyNext (.ref it)) (fun r s1=>r=none/\Inv X zp σ H s1) E s
 self:∀ (A:Around) (i:Nat) (s:Shared) (Q:VSP) (E:VSP),tn i s.heap->Q (.ref it) s->wpAny (model P w) A (pyIter (.ref it)) Q E s
def PIEG (Reg:Cx->Prop) (X:Cx) (zp:LAO) (σ:St) (tg:Expr) (R:It->Hp->Prop) (itv:Value) (s2:Shared):Prop:=
 ∃ (it:Addr) (fp:List Addr) (tn:Nat->Heap->Prop) (J:It) (H':Hp),itv=.ref it/\Inv X zp σ H' s2/\zET Reg X.prog X.w tg J fp it tn/\tn 0 s2.heap/\(∀ b ∈ fp,vW X zp H' b)/\R J H'
def PIG (Reg:Cx->Prop) (X:Cx) (tg iter:Expr) (wi:TI):Prop:=
 ∀ (zp:LAO) (s:Shared) (σ:St) (H:Hp) (R:It->Hp->Prop),Inv X zp σ H s->wi σ H R ->
  wpAny (model X.prog X.w) X.A (eval iter X.env) (fun v s1=>wpAny (model X.prog X.w) X.A (pyIter v) (PIEG Reg X zp σ tg R) X.xe s1) X.xe s
theorem zAK {Reg:Cx->Prop} {X:Cx} {xs:List Str} {ix:List Nat} {scope:Scope} {elt tg iter:Expr} {ifs:List Expr} {pos:Pos} {wi:TI} {g:TG} {tt:TT} {te:TE} (xf:Addr->List Addr->Shared->Hp->VSP)
  (S:yW X xs ix scope) (hreg:∀ Y:Cx,Y.K=X.K->Y.calm=X.calm->Y.A.handled=X.A.handled->Reg Y) (hi:PIG Reg X tg iter wi)
  (hg:∀ C fp s H,PG (cxX X xs ix scope C fp s H (xf C fp s H)) tg g) (ht:∀ C fp s H,PTs (cxX X xs ix scope C fp s H (xf C fp s H)) ifs tt) (he:∀ C fp s H,PE (cxX X xs ix scope C fp s H (xf C fp s H)) elt te)
  {zp:LAO} {s:Shared} {σ:St} {H:Hp} {Q:VK} (I:Inv X zp σ H s) (h:tLC xs ix wi g tt te σ H Q) {use:Option (Value->Sem Unit)} {R:VSP}
  (nf:∀ (fp:List Addr) (s3:Shared) (H3:Hp) (acc e:Value) (s':Shared),Inv X zp σ H3 s3->(∀ b ∈ fp,vW X zp H3 b)->xf s3.heap.objs.size fp s3 H3 e s'->notedBy (model X.prog X.w) X.A (compEnvC scope (clF X.env scope.names []) s3.heap.objs.size X.env) (fun e s'=>compPost (model X.prog X.w) X.A X.xe use R acc s3.heap.objs.size (.error e) s') e s')
  (fin:∀ (acc C:Addr) (H':Hp) (s':Shared) (m:Str->Option Value),Q (.ref acc) H'->s'.heap.Ns C m->(∀ h',Heap.SameBut C s'.heap h'->∀ tk,Inv X zp σ H' { s' with heap:=h',toks:=tk })->(X.s₀.heap.objs.size <= C/\C ≠ X.env.locals/\(∀ x c,X.env.cells.lookup x=some c->c ≠ C)/\(∀ p ∈ X.pn ++ zp,p.1 ≠ C)/\H' C=none)->compPost (model X.prog X.w) X.A X.xe use R (.ref acc) C (.ok .next) s') :
  wpAny (model X.prog X.w) X.A (eval iter X.env) (fun x s₁=>wpAny (model X.prog X.w) X.A (pyIter x) (fun it s₂=>wpAny (model X.prog X.w) X.A (newList []) (fun acc s₃=>
   wpAny (model X.prog X.w) X.A (newFunctionEnv scope X.env.globals (clF X.env scope.names []) [] X.env.qual none .none (some X.env)) (fun cenv s₄=>
    codeAny (model X.prog X.w) X.A (.compStart (.ListComp elt [⟨tg,iter,ifs,0⟩] scope pos) 0 it acc { cenv with scope:=relabel scope X.env }) (compPost (model X.prog X.w) X.A X.xe use R acc cenv.locals) s₄) X.xe s₃) X.xe s₂) X.xe s₁) X.xe s:=by
 refine thn (hi zp s σ H _ I h) fun v s1 h1=>thn h1 fun itv s2 h2=>?_
 obtain ⟨it,fp,tn,J,H2,rfl,I2,T,st2,f2,q⟩:=h2
 refine wpAny_newObj_type ?_
 have I3:Inv X zp σ (upd H2 s2.heap.objs.size (.lst [])) { s2 with heap:=s2.heap.push { cls:=.type "list",data:=.seq ([]:List Value).toArray },toks:=s2.toks }:=I2.lnew (ys:=[]) (its:=[]) .nil (zKG _)
 obtain ⟨W,⟨m0,w0⟩,turn⟩:=q s2.heap.objs.size I2.fresh
 have objs2:=T.obj 0 _ st2
 have neacc:∀ b ∈ fp,b ≠ s2.heap.objs.size:=fun b hb z=>by
  obtain ⟨o,ho,_⟩:=objs2 b hb
  exact Nat.lt_irrefl _ (Nat.lt_of_lt_of_eq (Heap.lt_size ho) z.symm)
 generalize hacc:s2.heap.objs.size=acc at *
 generalize hs3:({ s2 with heap:=s2.heap.push { cls:=.type "list",data:=.seq ([]:List Value).toArray } }:Shared)=s3
 have I3:Inv X zp σ (upd H2 acc (.lst [])) s3:=by rw [<- hs3];exact I3
 have k3:∀ b o,s2.heap.get? b=some o->s3.heap.get? b=some o:=fun b o e=>by rw [<- hs3];exact Heap.get?_push_of_some _ e
 have f3:∀ b ∈ fp,vW X zp (upd H2 acc (.lst [])) b:=fun b hb=>⟨by rw [zJ (neacc b hb)];exact (f2 b hb).1,(f2 b hb).2⟩
 have o3:∀ b ∈ fp,∃ o,s3.heap.get? b=some o:=fun b hb=>let ⟨o,ho,_⟩:=objs2 b hb;⟨o,k3 b o ho⟩
 have st3:tn 0 s3.heap:=T.keep _ _ _ st2 fun b _ o e=>k3 b o e
 refine wpAny_newFunctionEnv S.nocell (by intro y hy;simp at hy) (fun h1 hns1 hsb1=>?_) S.kind
 have keep1:∀ b o,s3.heap.get? b=some o->h1.get? b=some o:=fun b o e=>hsb1.extBut b o (zKX (Heap.lt_size e)) (Heap.get?_push_of_some _ e)
 generalize hs4:({ s3 with heap:=h1,toks:=s3.toks + ([]:List (Str × Value)).length }:Shared)=s4
 have I4:Inv (cxC X xs ix scope s3.heap.objs.size fp s3 (upd H2 acc (.lst []))) [] (stC xs ix σ) (upd H2 acc (.lst [])) s4:=uE S I3 f3 o3 hns1 keep1 hs4.symm
 have st4:tn 0 s4.heap:=T.keep _ _ _ st3 fun b _ o e=>by rw [<- hs4];exact keep1 b o e
 have nf:=fun av e s'=>nf fp s3 (upd H2 acc (.lst [])) av e s' I3 f3
 have hg:=hg s3.heap.objs.size fp s3 (upd H2 acc (.lst []))
 have ht:=ht s3.heap.objs.size fp s3 (upd H2 acc (.lst []))
 have he:=he s3.heap.objs.size fp s3 (upd H2 acc (.lst []))
 generalize xf s3.heap.objs.size fp s3 (upd H2 acc (.lst []))=xb at hg ht he nf
 have I4:Inv (cxX X xs ix scope s3.heap.objs.size fp s3 (upd H2 acc (.lst [])) xb) [] (stC xs ix σ) (upd H2 acc (.lst [])) s4:=I4.toX xb
 generalize hX':cxX X xs ix scope s3.heap.objs.size fp s3 (upd H2 acc (.lst [])) xb=X' at *
 have eP:X'.prog=X.prog:=by rw [<- hX'];rfl
 have ew:X'.w=X.w:=by rw [<- hX'];rfl
 have eK:X'.K=X.K:=by rw [<- hX'];rfl
 have eA:X'.A=X.A:=by rw [<- hX'];rfl
 have ec:Reg X':=hreg X' eK (by rw [<- hX'];rfl) (by rw [<- hX'];rfl)
 have ex:X'.xe=xb:=by rw [<- hX'];rfl
 have eenv:X'.env=compEnvC scope (clF X.env scope.names []) s3.heap.objs.size X.env:=by rw [<- hX'];rfl
 have eex:X'.ex=fp:=by rw [<- hX'];rfl
 have efs:X'.fs=frs X.stack:=by rw [<- hX'];rfl
 have epn:X'.pn=[]:=by rw [<- hX'];rfl
 have eH0:X'.H₀=upd H2 acc (.lst []):=by rw [<- hX'];rfl
 have es0:X'.s₀=s3:=by rw [<- hX'];rfl
 have eloc:X'.env.locals=s3.heap.objs.size:=by rw [eenv];rfl
 have stat:∀ {H':Hp},(∀ b ∈ fp,H' b=none)->∀ b ∈ fp,vW X' [] H' b:=fun {H'} hn b hb=>by
  refine ⟨hn b hb,?_,?_,.inl (by rw [eex];exact hb),?_,?_⟩
  ·rw [eloc]
   intro z
   obtain ⟨o,ho⟩:=o3 b hb
   exact Nat.lt_irrefl _ (Nat.lt_of_lt_of_eq (Heap.lt_size ho) z.symm)
  ·exact I4.ok.exfs b (by rw [eex];exact hb)
  ·exact (I4.ok.exf b (by rw [eex];exact hb)).2
  ·rw [epn];intro p hp;exact absurd hp (by simp)
 have loop:codeAny (model X.prog X.w) X.A (.compLoop (.ListComp elt [⟨tg,iter,ifs,0⟩] scope pos) 0 (.ref it) (.ref acc) X'.env) (compPost (model X.prog X.w) X.A X.xe use R (.ref acc) s3.heap.objs.size) s4:=by
  refine zAI (Eb:=xb) (nof:=?nf) (J:=fun n s'=>∃ i ys τ H',Inv X' [] τ H' s'/\tn i s'.heap/\(∀ b ∈ fp,H' b=none)/\W i n ys τ H') ?tn m0 ⟨0,[],_,_,I4,st4,fun b hb=>(f3 b hb).1,w0⟩
  case nf=>
   rw [eenv]
   exact nf (.ref acc)
  rintro n s5 ⟨i,ys,τ,H5,I5,st5,fr5,w5⟩
  obtain ⟨ha5,hz5,way⟩:=turn i n ys τ H5 w5
  rcases way with ⟨stop,qn⟩ | ⟨go,N,hN,step⟩
  ·have d:=T.done X' eP ew ec i [] s5 τ H5 xb I5 (stat fr5) st5 stop
   rw [eA] at d
   refine thn d fun r s6 hz53=>?_
   obtain ⟨hr,I6⟩:=hz53
   subst hr
   obtain ⟨m,hn6,_⟩:=id I6.loc
   rw [eloc] at hn6
   refine fin acc s3.heap.objs.size H5 s6 m qn hn6 (fun h' hsb tk=>?_) ⟨I3.sz,Ne.symm (zKX I3.lt),fun x c e z=>by
    obtain ⟨v,oc,hoc,_⟩:=I3.cell x c e
    exact Nat.lt_irrefl _ (Nat.lt_of_lt_of_eq (Heap.lt_size hoc) z.symm),fun p hp z=>Nat.lt_irrefl _ (Nat.lt_of_lt_of_eq (Heap.lt_size (I3.pin p hp).1) z.symm),by have:=I6.free;rw [eloc] at this;exact this⟩
   have same:∀ b,b ≠ s3.heap.objs.size->h'.get? b=s6.heap.get? b:=fun b hb=>hsb.2 b hb
   have ub:=I6.base
   rw [efs,eex,eH0,es0] at ub
   have ne3:∀ b o,s3.heap.get? b=some o->b ≠ s3.heap.objs.size:=fun b o e=>zKX (Heap.lt_size e)
   have u:Un (frs X.stack) fp (upd H2 acc (.lst [])) H5 s3.heap h':=
    ⟨fun b o e n1 n2 n3=>(same b (ne3 b o e)).trans (ub.keep b o e n1 n2 n3),fun b o e n1 n2 n3=>by
      obtain ⟨sl,z⟩:=ub.slot b o e n1 n2 n3
      exact ⟨sl,(same b (ne3 b o e)).trans z⟩,ub.free,fun b o e n3=>by
      obtain ⟨o',z⟩:=ub.there b o e n3
      exact ⟨o',(same b (ne3 b o e)).trans z⟩,ub.tups,ub.frzs,ub.tbls⟩
   have fC:H5 s3.heap.objs.size=none:=by have:=I6.free;rw [eloc] at this;exact this
   have hok:HOk X.prog X.w H5 h':=fun b o e=>by
    have z:=I6.hok b o e
    rw [eP,ew] at z
    refine z.stay (fun c u hc q=>(same c ?_).trans q) (fun _ q=>q) fun _ _ q=>q
    intro zc
    rcases hc with q1 | q1
    ·rw [<- q1,zc,fC] at e;cases e
    ·rw [zc,fC] at q1;cases q1
   have hch:∀ b ∈ fp,(b ∈ X.ex \/ X.s₀.heap.objs.size <= b)/\b ≠ X.env.locals/\(∀ x c,X.env.cells.lookup x=some c->c ≠ b)/\∀ p ∈ X.pn ++ zp,p.1 ≠ b:=fun b hb=>by
    obtain ⟨_,f1,_,g3,g4,g5⟩:=f3 b hb
    exact ⟨g3,f1,g4,g5⟩
   have ho:s6.os=s3.os:=by have:=I6.os;rw [es0] at this;exact this
   exact I3.call' (s':={ s6 with heap:=h',toks:=tk }) (ch:=fp) ho u hok I6.bare hch
  ·have d:=T.item X' eP ew ec i [] s5 τ H5 xb I5 (stat fr5) st5 go
   rw [eA] at d
   refine thn d fun r s6 hz54=>?_
   obtain ⟨u,hr,h6⟩:=hz54
   subst hr
   refine thn h6 fun _ s7 hz55=>?_
   obtain ⟨x,H7,I7,r7,y7,st7,fr7⟩:=hz55
   have I7':=I7.pinned (stat fr7) (T.obj _ _ st7)
   have dg:=hg _ s7 τ H7 x u _ I7' r7 (step x H7 y7)
   rw [eP,ew,eA,ex] at dg
   refine thn dg fun _ s8 hz56=>?_
   obtain ⟨τ8,H8,I8,q8⟩:=hz56
   have dt:=ht _ s8 τ8 H8 _ I8 q8
   rw [eP,ew,eA,ex] at dt
   refine thn dt fun ok s9 hz57=>?_
   obtain ⟨H9,I9,q9⟩:=hz57
   have again:∀ {τ':St} {H':Hp} {s':Shared},Inv X' ([] ++ xQ fp s7.heap) τ' H' s'->Inv X' [] τ' H' s'/\tn (i + 1) s'.heap/\∀ b ∈ fp,H' b=none:=fun {τ' H' s'} Ie=>by
    refine ⟨Ie.unpinned,T.keep _ _ _ st7 fun b hb o e=>(Ie.pin (b,o) (zKK _ (zKK _ (yM hb e)))).1,fun b hb=>?_⟩
    obtain ⟨o,e,_⟩:=T.obj _ _ st7 b hb
    exact (Ie.pin (b,o) (zKK _ (zKK _ (yM hb e)))).2.1
   cases ok with
   | false=>
    rw [if_neg zKY] at q9 ⊢
    obtain ⟨m',hm,w9⟩:=hN _ _ _ q9
    obtain ⟨z1,z2,z3⟩:=again I9
    exact ⟨m',hm,i + 1,ys,τ8,H9,z1,z2,z3,w9⟩
   | true=>
    rw [if_pos rfl] at q9 ⊢
    have de:=he _ s9 τ8 H9 _ I9 q9
    rw [eP,ew,eA,ex] at de
    refine thn de fun yv s10 hz58=>?_
    obtain ⟨y,H10,I10,r10,ha10,n10⟩:=hz58
    obtain ⟨m',hm,w10⟩:=hN _ _ _ n10
    have dm:=wG (X:=X') _ s10 τ8 H10 (.ref acc) [y] (.ref acc) [yv] (fun v H'=>v=.non/\H'=upd H10 acc (.lst (ys ++ [y]))) I10 rfl (.cons r10 .nil) ⟨acc,ys,y,rfl,rfl,ha10,hz5,rfl,rfl⟩
    rw [eP,ew,eA,ex] at dm
    refine thn dm fun _ s11 hz59=>?_
    obtain ⟨_,H11,I11,_,_,e11⟩:=hz59
    subst e11
    obtain ⟨z1,z2,z3⟩:=again I11
    exact ⟨m',hm,i + 1,ys ++ [y],τ8,_,z1,z2,z3,w10⟩
 have e4:({ newEnv scope s3.heap.objs.size X.env.globals (clF X.env scope.names []) X.env.qual none .none (some X.env) builtinsNs with scope:=relabel scope X.env }:Env)=X'.env:=by rw [eenv];rfl
 rw [eenv] at loop
 have self:=T.self X.A 0 s4 (fun it' s'=>codeAny (model X.prog X.w) X.A (.compLoop (.ListComp elt [⟨tg,iter,ifs,0⟩] scope pos) 0 it' (.ref acc) (compEnvC scope (clF X.env scope.names []) s3.heap.objs.size X.env)) (compPost (model X.prog X.w) X.A X.xe use R (.ref acc) s3.heap.objs.size) s')
  (notedBy (model X.prog X.w) X.A (compEnvC scope (clF X.env scope.names []) s3.heap.objs.size X.env) fun x s'=>compPost (model X.prog X.w) X.A X.xe use R (.ref acc) s3.heap.objs.size (.error x) s') st4 loop
 exact codeAny_compStart_list loop self
theorem jD {Reg:Cx->Prop} {X:Cx} {xs:List Str} {ix:List Nat} {scope:Scope} {elt tg iter:Expr} {ifs:List Expr} {pos:Pos} {wi:TI} {g:TG} {tt:TT} {te:TE}
  (S:yW X xs ix scope) (hreg:∀ Y:Cx,Y.K=X.K->Y.calm=X.calm->Y.A.handled=X.A.handled->Reg Y) (hi:PIG Reg X tg iter wi)
  (hg:∀ C fp s H,PG (cxC X xs ix scope C fp s H) tg g) (ht:∀ C fp s H,PTs (cxC X xs ix scope C fp s H) ifs tt) (he:∀ C fp s H,PE (cxC X xs ix scope C fp s H) elt te)
  {zp:LAO} {s:Shared} {σ:St} {H:Hp} {Q:VK} (I:Inv X zp σ H s) (h:tLC xs ix wi g tt te σ H Q) {use:Option (Value->Sem Unit)} {R:VSP}
  (fin:∀ (acc C:Addr) (H':Hp) (s':Shared) (m:Str->Option Value),Q (.ref acc) H'->s'.heap.Ns C m->(∀ h',Heap.SameBut C s'.heap h'->∀ tk,Inv X zp σ H' { s' with heap:=h',toks:=tk })->(X.s₀.heap.objs.size <= C/\C ≠ X.env.locals/\(∀ x c,X.env.cells.lookup x=some c->c ≠ C)/\(∀ p ∈ X.pn ++ zp,p.1 ≠ C)/\H' C=none)->compPost (model X.prog X.w) X.A X.xe use R (.ref acc) C (.ok .next) s') :
  wpAny (model X.prog X.w) X.A (eval iter X.env) (fun x s₁=>wpAny (model X.prog X.w) X.A (pyIter x) (fun it s₂=>wpAny (model X.prog X.w) X.A (newList []) (fun acc s₃=>
   wpAny (model X.prog X.w) X.A (newFunctionEnv scope X.env.globals (clF X.env scope.names []) [] X.env.qual none .none (some X.env)) (fun cenv s₄=>
    codeAny (model X.prog X.w) X.A (.compStart (.ListComp elt [⟨tg,iter,ifs,0⟩] scope pos) 0 it acc { cenv with scope:=relabel scope X.env }) (compPost (model X.prog X.w) X.A X.xe use R acc cenv.locals) s₄) X.xe s₃) X.xe s₂) X.xe s₁) X.xe s:=
 zAK (fun _ _ _ _ _ _=>False) S hreg hi hg ht he I h (fun _ _ _ _ _ _ _ _ f=>f.elim) fin
theorem fF {X:Cx} {xs:List Str} {ix:List Nat} {scope:Scope} {elt tg iter:Expr} {ifs:List Expr} {pos:Pos} {wi:TI} {g:TG} {tt:TT} {te:TE}
  (S:yW X xs ix scope) (hc:X.calm=true) (hi:PI X tg iter wi)
  (hg:∀ C fp s H,PG (cxC X xs ix scope C fp s H) tg g) (ht:∀ C fp s H,PTs (cxC X xs ix scope C fp s H) ifs tt) (he:∀ C fp s H,PE (cxC X xs ix scope C fp s H) elt te)
  {zp:LAO} {s:Shared} {σ:St} {H:Hp} {Q:VK} (I:Inv X zp σ H s) (h:tLC xs ix wi g tt te σ H Q) {use:Option (Value->Sem Unit)} {R:VSP}
  (fin:∀ (acc C:Addr) (H':Hp) (s':Shared) (m:Str->Option Value),Q (.ref acc) H'->s'.heap.Ns C m->(∀ h',Heap.SameBut C s'.heap h'->∀ tk,Inv X zp σ H' { s' with heap:=h',toks:=tk })->(X.s₀.heap.objs.size <= C/\C ≠ X.env.locals/\(∀ x c,X.env.cells.lookup x=some c->c ≠ C)/\(∀ p ∈ X.pn ++ zp,p.1 ≠ C)/\H' C=none)->compPost (model X.prog X.w) X.A X.xe use R (.ref acc) C (.ok .next) s') :
  wpAny (model X.prog X.w) X.A (eval iter X.env) (fun x s₁=>wpAny (model X.prog X.w) X.A (pyIter x) (fun it s₂=>wpAny (model X.prog X.w) X.A (newList []) (fun acc s₃=>
   wpAny (model X.prog X.w) X.A (newFunctionEnv scope X.env.globals (clF X.env scope.names []) [] X.env.qual none .none (some X.env)) (fun cenv s₄=>
    codeAny (model X.prog X.w) X.A (.compStart (.ListComp elt [⟨tg,iter,ifs,0⟩] scope pos) 0 it acc { cenv with scope:=relabel scope X.env }) (compPost (model X.prog X.w) X.A X.xe use R acc cenv.locals) s₄) X.xe s₃) X.xe s₂) X.xe s₁) X.xe s:=
 jD (Reg:=fun Y=>Y.K=X.K/\Y.calm=true) S (fun Y k c _=>⟨k,c.trans hc⟩)
  (fun zp s σ H R I q=>thn (hi zp s σ H R I q) fun v s1 h1=>thn h1 fun itv s2 h2=>by
   obtain ⟨it,fp,tn,J,H',e,I',T,r⟩:=h2
   exact ⟨it,fp,tn,J,H',e,I',⟨T.mem,T.obj,T.keep,fun Y e1 e2 r=>T.item Y e1 e2 r.1 r.2,fun Y e1 e2 r=>T.done Y e1 e2 r.1 r.2,T.self⟩,r⟩) hg ht he I h fin
theorem zEK {X:Cx} {xs:List Str} {ix:List Nat} {scope:Scope} {elt tg iter:Expr} {ifs:List Expr} {pos:Pos} {wi:TI} {g:TG} {tt:TT} {te:TE}
  (S:yW X xs ix scope) (hc:X.calm=true) (hi:PI X tg iter wi)
  (hg:∀ C fp s H,PG (cxC X xs ix scope C fp s H) tg g) (ht:∀ C fp s H,PTs (cxC X xs ix scope C fp s H) ifs tt) (he:∀ C fp s H,PE (cxC X xs ix scope C fp s H) elt te)
  (hs:∀ x,foldedSetIterable iter X.env x=pure x:=by intro _;rfl) :
  PE X (.ListComp elt [⟨tg,iter,ifs,0⟩] scope pos) (tLC xs ix wi g tt te):=by
 intro zp s σ H Q I h
 have hcl:∀ n,(n,NameKind.free) ∈ scope.names->(X.env.cells.lookup n).isSome=true:=fun n hn=>by
  obtain ⟨c,e⟩:=I.ok.has n (S.fre n hn)
  rw [e];rfl
 rw [eval_ListComp]
 refine wpAny_comprehension_free (use:=none) rfl hs (xN hcl) S.kind S.loc ?_
 refine fF S hc hi hg ht he I h fun acc C H' s' m q hn k _=>?_
 exact ⟨m,hn,fun h' hsb=>⟨.ref acc,H',k h' hsb s'.toks,rfl,q⟩⟩
theorem Inv.letgo {X:Cx} {zp:LAO} {σ:St} {H:Hp} {s:Shared} {h':Heap} {C:Addr} (I:Inv X zp σ H s) (hs:Heap.SameBut C s.heap h')
  (hC:X.s₀.heap.objs.size <= C/\C ≠ X.env.locals/\(∀ x c,X.env.cells.lookup x=some c->c ≠ C)/\(∀ p ∈ X.pn ++ zp,p.1 ≠ C)/\H C=none):Inv X zp σ H { s with heap:=h' }:=by
 obtain ⟨c1,c2,c3,c4,c5⟩:=hC
 have same:∀ b,b ≠ C->h'.get? b=s.heap.get? b:=fun b hb=>hs.2 b hb
 have ne:∀ {b:Addr},b ∉ [C]->b ≠ C:=fun h e=>h (by simp [e])
 have u:Un (frs X.stack) [C] H H s.heap h':=
  ⟨fun b o e _ _ n=>(same b (ne n)).trans e,fun b o e _ _ n=>⟨o.slots,(same b (ne n)).trans e⟩,fun b o _ e _=>e,fun b o e n=>⟨o,(same b (ne n)).trans e⟩,fun _ _ e=>e,fun _ _ _ e=>e,fun b ps e=>⟨#[],by rw [Array.append_empty];exact e⟩⟩
 have hok:HOk X.prog X.w H h':=fun b o e=>by
  refine (I.hok b o e).stay (fun c u hc q=>(same c ?_).trans q) (fun _ q=>q) fun _ _ q=>q
  intro zc
  rcases hc with q1 | q1
  ·rw [<- q1,zc,c5] at e;cases e
  ·rw [zc,c5] at q1;cases q1
 refine I.call' (s':={ s with heap:=h' }) (ch:=[C]) rfl u hok I.bare fun b hb=>?_
 have eb:b=C:=by simpa using hb
 subst eb
 exact ⟨.inr c1,c2,c3,c4⟩
theorem lI {X:Cx} {xs:List Str} {ix:List Nat} {scope:Scope} {elt tg iter:Expr} {ifs:List Expr} {cpos pos pos':Pos} {wi:TI} {g:TG} {tt:TT} {te:TE} {i:Nat} {x:Str}
  (hN:X.N.Nodup) (hin:X.N[i]?=some x) (hx:Loc X.env.scope x)
  (S:yW X xs ix scope) (hc:X.calm=true) (hi:PI X tg iter wi)
  (hg:∀ C fp s H,PG (cxC X xs ix scope C fp s H) tg g) (ht:∀ C fp s H,PTs (cxC X xs ix scope C fp s H) ifs tt) (he:∀ C fp s H,PE (cxC X xs ix scope C fp s H) elt te)
  (hsw:swapsWith (.ListComp elt [⟨tg,iter,ifs,0⟩] scope cpos) (some (.Name x pos')) pos.line X.env=pure true)
  (hf:X.fn x=true \/ X.env.scope.names.lookup x=some .local:=by first | exact .inl rfl | exact .inr rfl | assumption)
  (hs:∀ x,foldedSetIterable iter X.env x=pure x:=by intro _;rfl) :
  PS X (.Assign [.Name x pos'] (.ListComp elt [⟨tg,iter,ifs,0⟩] scope cpos) pos) (o9 (tLC xs ix wi g tt te) (xK i)):=by
 intro zp s σ H D I h
 have hcl:∀ n,(n,NameKind.free) ∈ scope.names->(X.env.cells.lookup n).isSome=true:=fun n hn=>by
  obtain ⟨c,e⟩:=I.ok.has n (S.fre n hn)
  rw [e];rfl
 rw [exec_Assign_Name_used _ _ _ _ hsw]
 refine wpAny_bind (wpAny_standAt (wpAny_bind ?_))
 rw [arm_evalThenUse_ListComp]
 refine wpAny_bind (thn (Q:=fun _ s'=>SP X zp D .next s') (wpAny_comprehension_free (g:=⟨tg,iter,ifs,0⟩) (gs:=[]) (use:=some (assign (.Name x pos') X.env)) rfl hs (xN hcl) S.kind S.loc ?_) fun _ s1 h1=>wpAny_pure (wpAny_pure h1))
 refine fF S hc hi hg ht he I h fun acc C H' s' m q hn k hC=>?_
 have I':Inv X zp σ H' s':=k s'.heap (Heap.SameBut.refl _ _) s'.toks
 show wpAny (model X.prog X.w) X.A (assign (.Name x pos') X.env (.ref acc)) (fun _ s''=>∃ m,s''.heap.Ns C m/\∀ h',Heap.SameBut C s''.heap h'->SP X zp D .next { s'' with heap:=h' }) X.xe s'
 refine wpAny_assign_Name (oB I' hN hin hx (v:=.ref acc) rfl (fun s'' I'' hz60=>?_) hf)
 obtain ⟨a,hsa,ha⟩:=hz60
 refine ⟨m,hn.sameBut hsa ?_,fun h' hsb=>⟨_,H',I''.letgo hsb hC,q⟩⟩
 rcases ha with rfl | ha
 ·exact hC.2.1
 ·exact fun z=>hC.2.2.1 x a ha z.symm
def Its (x:Str):It:=⟨fun i _=>i < x.cps.size,fun i H v H'=>H'=H/\∃ c,x.cps[i]?=some c/\v=.str ⟨#[c]⟩,fun i _=>i=x.cps.size⟩
theorem cM {P:Program} {w:World} {K:PySem.W.Frag} {tg:Expr} (it:Addr) (x:Str) (t:Tok) (ty:String)
  (hty:["enumerate","zip","dict_itemiterator","dict_reverseitemiterator","odict_iterator","itertools.zip_longest","itertools.pairwise"].contains ty=false)
  (W:∀ A:Around,A.handled=none->Walks P w A it [it] [it] x.cps.size (SignAt x) (fun i h=>h.IsStrIter it ty x t i))
  (self:∀ (A:Around) (i:Nat) (s:Shared) (Q:VSP) (E:VSP),s.heap.IsStrIter it ty x t i->Q (.ref it) s->wpAny (model P w) A (pyIter (.ref it)) Q E s) :
  zBM P w K tg (Its x) [it] it (fun i h=>h.IsStrIter it ty x t i) where
 mem:=by simp
 obj:=fun i h st b hb=>by
  have e:b=it:=by simpa using hb
  subst e
  obtain ⟨o,e,c,d⟩:=st
  exact ⟨o,e,fun v z=>by rw [d] at z;cases z⟩
 keep:=fun i h h' st k=>let ⟨o,e,r⟩:=st;⟨o,k it (by simp) o e,r⟩
 item:=by
  intro X hP hw hK hc i zp s σ H E I hf st hg
  subst hP hw hK
  obtain ⟨f0,f1,f2,f3,f4,f5⟩:=hf it (by simp)
  refine (W X.A (I.ok.hd hc)).item i s _ _ hg st fun v h' tk hv st' kk=>?_
  obtain ⟨c,u,hcx,rfl⟩:=hv
  have I1:Inv X zp σ H { s with heap:=h',toks:=tk }:=I.turned (fun b o hb e=>kk b o (by simpa using hb) e) f0 f1 f3 f4 f5
  obtain ⟨o,e,c',d⟩:=id st'
  exact ⟨_,rfl,fK (s:={ s with heap:=h',toks:=tk }) e c' d hty ⟨.str ⟨#[c]⟩,H,I1,⟨u,rfl⟩,⟨rfl,c,hcx,rfl⟩,st',fun b hb=>(hf b hb).1⟩⟩
 done:=by
  intro X hP hw hK hc i zp s σ H E I hf st hg
  subst hP hw hK
  obtain ⟨f0,f1,f2,f3,f4,f5⟩:=hf it (by simp)
  have hg':i=x.cps.size:=hg
  subst hg'
  exact (W X.A (I.ok.hd hc)).done s _ _ st fun h' tk kk=>⟨rfl,I.turned (fun b o hb e=>kk b o (by simpa using hb) e) f0 f1 f3 f4 f5⟩
 self:=self
section
variable {X:Cx} {tg:Expr}
def iStr (tl:TE):TI:=fun σ H R=>tl σ H fun x H1=>∃ z,x=.str z/\R (Its z) H1
theorem zFT {l:Expr} {tl:TE} (hl:PE X l tl):PI X tg l (iStr tl):=by
 intro zp s σ H R I h
 refine thn (hl zp s σ H _ I h) fun v s1 hz61=>?_
 obtain ⟨x,H1,I1,r1,q1⟩:=hz61
 obtain ⟨z,e,q⟩:=q1
 subst e
 obtain ⟨t,rfl⟩:=(show ∃ t,v=Value.str z t from r1)
 have fin:∀ (o:Obj) (ty:String),o.cls=.type ty->o.data=.fields #[.str z t,.int 0 0] ->
   ["enumerate","zip","dict_itemiterator","dict_reverseitemiterator","odict_iterator","itertools.zip_longest","itertools.pairwise"].contains ty=false ->
   o.isFreed=false ->
   (∀ A:Around,A.handled=none->Walks X.prog X.w A s1.heap.objs.size [s1.heap.objs.size] [s1.heap.objs.size] z.cps.size (SignAt z) (fun i h=>h.IsStrIter s1.heap.objs.size ty z t i)) ->
   (∀ (A:Around) (i:Nat) (s:Shared) (Q:VSP) (E:VSP),s.heap.IsStrIter s1.heap.objs.size ty z t i->Q (.ref s1.heap.objs.size) s->wpAny (model X.prog X.w) A (pyIter (.ref s1.heap.objs.size)) Q E s) ->
   PIE X zp σ tg R (.ref s1.heap.objs.size) { s1 with heap:=s1.heap.push o }:=fun o ty h1 h2 h3 hfr W self=>by
  refine ⟨s1.heap.objs.size,[s1.heap.objs.size],_,_,H1,rfl,I1.kept (t':=s1.toks) fun b o e=>Heap.get?_push_of_some _ e,cM _ z t ty h3 W self,⟨o,Heap.get?_push_size _ hfr,h1,h2⟩,fun b hb=>?_,q⟩
  have e:b=s1.heap.objs.size:=by simpa using hb
  subst e
  exact I1.fpOk (zKF _) (I1.hok.fresh (zKF _))
 cases ha:z.cps.all (· < 128)
 ·exact wpAny_pyIter_wide ha (fin _ "str_iterator" rfl rfl (by decide) rfl (fun A hA=>Walks.strWide hA _ z t) fun _ _ _ _ _ st hQ=>wpAny_pyIter_striter_wide st hQ)
 ·exact wpAny_pyIter_ascii ha (fin _ "str_ascii_iterator" rfl rfl (by decide) rfl (fun A hA=>Walks.strAscii hA _ z t) fun _ _ _ _ _ st hQ=>wpAny_pyIter_striter_ascii st hQ)
theorem jF {A:Around} (h:A.handled=none):A.in1.handled=none:=h
theorem cE {ys:List Bool} {its:List Value} (r:zY (ys.map V.bl) its) {i:Nat} {v:Value} (h:its[i]?=some v):∃ b,ys[i]?=some b/\v=.bool b:=by
 have hl:=r.length
 rw [zJ6] at hl
 have hi:i < its.length:=(zJ8.mp h).1
 obtain ⟨u,e1,e2⟩:=r.get (i:=i) (x:=V.bl (ys[i]'(by omega))) (by rw [zKC,zJ7 (by omega)];rfl)
 rw [h] at e1
 cases e1
 exact ⟨_,zJ7 (by omega),e2⟩
theorem eF (ys:List Bool):(List.range ys.length).all (fun i=>ys.getD i false)=ys.all id:=by
 have e:ys=(List.range ys.length).map (fun i=>ys.getD i false):=by
  apply List.ext_getElem (by simp)
  intro i h1 h2
  simp [zKB,zJ7 h1]
 conv=>rhs;rw [e]
 rw [List.all_map];rfl
theorem sZ (hc:X.calm=true):wV X (.builtin "all") (fun xs H Q=>∃ (p:Addr) (ys:List Bool),xs=[.ref p]/\SqL X.K H p (ys.map V.bl)/\Q (.bl (ys.all id)) H):=by
 intro zp s σ H xs us Q I r h
 obtain ⟨p,ys,rfl,hq,q⟩:=h
 obtain ⟨u,rfl,ru⟩:=r.one
 cases ru
 obtain ⟨its,rv,pl,hz⟩:=I.list hq
 have hl:=rv.length
 rw [zJ6] at hl
 refine call_all_walk (wpAny_pyIter_list pl.isList ?_)
 have hp:p < s.heap.objs.size:=by obtain ⟨o,ho,_⟩:=pl.isList;exact Heap.lt_size ho
 refine ⟨s.heap.objs.size,_,_,_,_,_,fun i=>ys.getD i false,rfl,Walks.list (jF (I.ok.hd hc)) _ p (zKX hp) its.toArray,⟨⟨_,Heap.get?_push_size _ rfl,rfl,rfl⟩,?_⟩,?_,fun h' tk kk=>?_⟩
 ·obtain ⟨o,ho,r⟩:=pl.isList
  exact ⟨o,Heap.get?_push_of_some _ ho,r⟩
 ·intro i v s' Q' E' hP hQ
  obtain ⟨b,e1,rfl⟩:=cE rv (by simpa using hP)
  refine wpAny_truthy_bool ?_
  have e2:ys.getD i false=b:=by rw [zKB,e1];rfl
  rw [<- e2];exact hQ
 ·refine ⟨.bl (ys.all id),H,I.kept fun b o e=>kk b o ?_ (Heap.get?_push_of_some _ e),?_,q⟩
  ·intro z;have z':b=s.heap.objs.size:=by simpa using z
   exact zKX (Heap.lt_size e) z'
  ·have e3:its.toArray.size=ys.length:=by simp;omega
   rw [e3,eF];rfl
theorem xP:wV X (.builtin "isinstance") (fun xs H Q=>∃ x t T b,xs=[x,.ty T]/\tS X.K H x t/\W.kitOne X.K t (.type T)=some b/\Q (.bl b) H):=by
 intro zp s σ H xs us Q I r h
 obtain ⟨x,t,T,b,rfl,ty,e,q⟩:=h
 obtain ⟨u,v,rfl,ru,rv⟩:=r.two
 cases rv
 exact oP I ru ty e fun tk=>⟨.bl b,H,I.tok tk,rfl,q⟩
theorem mP:wV X (.builtin "isinstance") (fun xs H Q=>∃ x t C b,xs=[x,.ref C]/\tS X.K H x t/\W.kitOne X.K t (.ref C)=some b/\Q (.bl b) H):=by
 intro zp s σ H xs us Q I r h
 obtain ⟨x,t,T,b,rfl,ty,e,q⟩:=h
 obtain ⟨u,v,rfl,ru,rv⟩:=r.two
 cases rv
 exact oP I ru ty e fun tk=>⟨.bl b,H,I.tok tk,rfl,q⟩
theorem z7.bool_iff {x:V} {v:Value} {b:Bool} (r:z7 x v):plainIs v (.bool b)=true/\(v == Value.bool b)=decide (x=.bl b):=by
 cases x with
 | non=>cases r;exact ⟨rfl,by simp⟩
 | bl c=>cases r;refine ⟨rfl,?_⟩;cases b <;> cases c <;> decide
 | int i=>obtain ⟨t,rfl⟩:=r;exact ⟨rfl,by simp⟩
 | str i=>obtain ⟨t,rfl⟩:=r;exact ⟨rfl,by simp⟩
 | byt i=>obtain ⟨t,rfl⟩:=r;exact ⟨rfl,by simp⟩
 | flt i=>obtain ⟨t,rfl⟩:=r;exact ⟨rfl,by simp⟩
 | ref a=>cases r;exact ⟨rfl,by simp⟩
 | ty n=>cases r;exact ⟨rfl,by simp⟩
theorem oJ:OpR X (compareOp .IsNot) (fun x y H Q=>∃ b,y=.bl b/\Q (.bl (!decide (x=.bl b))) H):=by
 intro zp s σ H x y v u Q I rx ry h
 obtain ⟨b,rfl,q⟩:=h
 cases ry
 obtain ⟨h1,h2⟩:=rx.bool_iff (b:=b)
 refine wpAny_isNot_plain h1 ?_
 rw [h2]
 exact ⟨.bl _,H,I,rfl,q⟩
theorem nC:∀ {ys:List Str} {us:List Value},zY (ys.map V.str) us->StrsAre us ys
 | [],_,.nil=>.nil
 | y :: ys,_,.cons r t=>by
  obtain ⟨k,rfl⟩:=r
  exact .cons y k (nC t)
theorem lT:OpR X (binaryOp .FloorDiv) (rI (fun _ j=>0 < j/\j < 2 ^ 62) fun i j=>.int (i / j)):=opI fun i j _ _ _ _ _ hc q=>by
 have hp:(0:Int) < j:=hc.1
 have hq:j < 2 ^ 62:=hc.2
 have hlog:j.natAbs.log2 < 9000:=by
  have h1:j.natAbs ≠ 0:=by omega
  have h2:j.natAbs.log2 < 62:=(Nat.log2_lt h1).mpr (by omega)
  omega
 exact floordiv_int (by omega) (by rw [Int.fdiv_eq_ediv_of_nonneg i (by omega)];exact q) (.inl (PyProof.noPylong_of_log2 hlog))
end
structure yB (K:W.Frag) (mg:Str->Option Value) (x:Str) (st:Stmt) (ps:List Str):Prop where
 ex:∃ (f:Addr) (fd:FuncData),Fun K x x st f fd/\mg x=some (.ref f)/\vY K fd ps []
structure Cal (P:Program) (w:World) (K:W.Frag) (mg:Str->Option Value) (base:Heap) (CX:CXT) (k:Nat) (x:Str) (ps:List Str) (sp:Sp):Prop where
 ex:∃ (f:Addr) (fd:FuncData),vZ P w K mg base CX k f fd ps sp/\mg x=some (.ref f)/\W.keepIn K (.ref f)=true/\vY K fd ps []
section
variable {P:Program} {w:World} {K:W.Frag} {mg:Str->Option Value} {base:Heap}
theorem yB.ok {x:Str} {st:Stmt} {N ps:List Str} {k:Nat} {sp:Sp} (G:yB K mg x st ps) (S:zI N ps (zE st)) (len:∀ vs H Q E,sp vs H Q E->vs.length=ps.length)
  (hbody:∀ (f:Addr) (cdv:Value) (A:Around) (outer:List Env) (s:Shared) (H:Hp) (vs:List V) (Q:VK) (E:XK),zO k (A.deeper (envOfC x (zE st) s.heap.objs.size f cdv))->sp vs H Q E ->
   ∃ t,PSs (uV CX0 P w K mg base N x (zE st) f cdv A outer s H E).nox (yU st) t/\t { nx:=fun _ H'=>Q .non H',rt:=Q } (start N vs) H):Cal P w K mg base CX0 (k + 1) x ps sp:=by
 obtain ⟨f,fd,F,hm,hb⟩:=G.ex
 exact ⟨f,fd,F.ok S len fun cdv A outer s H vs Q E hr h=>hbody f cdv A outer s H vs Q E hr h,hm,F.kp,hb⟩
theorem zDD {h:Heap} {x:Str} {st:Stmt} {f:Addr} {oc:Value} {od an:Option Addr} {osl:Array (Option Value)} {kV doc pm cdv ct:Value} {ps:List Str} (X:K.In h) (G:h.Ns mainGlobals mg)
  (a:W.nsIn K mainGlobals x=some (some (.ref f)))
  (l:K.lookup f=some ⟨oc,od,.func (W.fnOf x x (wM st) (yU st) (zE st) .none kV doc pm an cdv ct),osl⟩) (c:W.codeIn K cdv x=true) (k:W.keepIn K (.ref f)=true)
  (hb:∀ (kV doc pm:Value) (an:Option Addr) (cdv ct:Value) (us:List Value),us.length=ps.length->bindArgs (W.fnOf x x (wM st) (yU st) (zE st) .none kV doc pm an cdv ct) ⟨us,[]⟩=pure (ps.zip us)):yB K mg x st ps:=
 ⟨f,_,uR l c k,W.mg_of X G a,(uR l c k).binds hb⟩
end
section
variable {X:Cx} {CX:CXT} {k:Nat} {ps:List Str} {sp:Sp} {E:XK} {x:Str} {p pos:Pos} {e:Expr} {es:List Expr} {t:TA}
theorem zM (C:Cal X.prog X.w X.K X.mg X.base CX0 k x ps sp) (hr:zO k X.A) (ha:PA X (e :: es) t) (hg:Gl X x:=by rfl)
  (hdb:(x == ("__debug__" : Str))=false:=by decide) (he:starEach (e :: es) X.env=(false,eval e X.env) :: starEach es X.env:=by rfl) (hpl:(backTo pos (starEach es X.env)).any (·.1)=false:=by rfl) :
  PE X (.Call (.Name x p) (e :: es) [] pos) (h9 sp [] E0 t):=
 let ⟨_,_,F,hm,hk,hb⟩:=C.ex
 gY F hr hg hm hk hb .nil fA ha hdb he hpl
structure Blt (mg:Str->Option Value) (x:Str):Prop where
 no:mg x=none
theorem zP {id:String} {r:List V->Hp->VK->Prop} (hc:wV X (.builtin id) r) (b:Blt X.mg x) (hv:bootBuiltins x=some (.builtin id)) (ha:PA X (e :: es) t) (hg:Gl X x:=by rfl) (hn:x ≠ "__name__":=by decide) (hdb:(x == ("__debug__" : Str))=false:=by decide)
  (he:starEach (e :: es) X.env=(false,eval e X.env) :: starEach es X.env:=by rfl) (hpl:(backTo pos (starEach es X.env)).any (·.1)=false:=by rfl) :
  PE X (.Call (.Name x p) (e :: es) [] pos) (tCB r t):=aQ hc hg b.no hv ha hn hdb he hpl
theorem sA {T:String} (b:Blt X.mg x) (hv:bootBuiltins x=some (.type T)) (hg:Gl X x:=by rfl) (hn:x ≠ "__name__":=by decide) (hd:(x == ("__debug__" : Str))=false:=by decide):PE X (.Name x pos) (tC (.ty T)):=
 zCQ hg b.no hv rfl hn hd
end
def zC (S:List Addr) (H H':Hp):Prop:=∀ b o,b ∉ S->H b=some o->H' b=some o
theorem zC.refl {S:List Addr} (H:Hp):zC S H H:=fun _ _ _ h=>h
theorem zC.trans {S:List Addr} {H H1 H2:Hp} (a:zC S H H1) (b:zC S H1 H2):zC S H H2:=fun c o n h=>b c o n (a c o n h)
theorem zC.mono {S S':List Addr} {H H1:Hp} (a:zC S H H1) (h:∀ b ∈ S,b ∈ S'):zC S' H H1:=fun c o n q=>a c o (fun z=>n (h c z)) q
theorem zC.new {S:List Addr} {H:Hp} {p:Addr} {o:HO} (h:H p=none):zC S H (upd H p o):=fun b u _ q=>by rw [zJ (zG q h)];exact q
theorem zC.at {S:List Addr} {H:Hp} {p:Addr} {o:HO} (h:p ∈ S):zC S H (upd H p o):=fun b u n q=>by
 rw [zJ (fun z=>n (by rw [z];exact h))];exact q
theorem zC.none {S:List Addr} {H H':Hp} (k:zC S H H') {l:Addr} (n:l ∉ S) (h:H' l=Option.none):H l=Option.none:=by
 cases q:H l with
 | none=>rfl
 | some o=>rw [k l o n q] at h;cases h
theorem zC.same {H H':Hp} (k:zC [] H H'):zHB H H':=fun b o h=>k b o (by simp) h
theorem zC.seq {K:W.Frag} {H H':Hp} {a:Addr} {xs:List V} (k:zC [] H H') (h:SqL K H a xs):SqL K H' a xs:=k.same.seq h
theorem fG {J:It} {xs:List Str} {ix:List Nat} {g:TG} {tt:TT} {te:TE} {n:Nat} {σ:St} {H1:Hp} {Q:VK} {acc:Addr} (hn:n < sizeLine) (item:Nat->V) (Pv:Nat->List V->St->Hp->Prop)
  (h0:Pv 0 [] (stC xs ix σ) (upd H1 acc (.lst [])))
  (hacc:∀ i ys τ H,Pv i ys τ H->H acc=some (.lst ys)/\ys.length <= i)
  (hgo:∀ i ys τ H,i < n->Pv i ys τ H->J.go i H) (hyl:∀ i ys τ H x H',i < n->Pv i ys τ H->J.yld i H x H'->H'=H/\x=item i) (hst:∀ ys τ H,Pv n ys τ H->J.stop n H)
  (hs:∀ i ys τ H,i < n->Pv i ys τ H->g (item i) τ H fun τ2 H2=>tt τ2 H2 fun b H3=>
   if b=true then te τ2 H3 fun y H4=>H4 acc=some (.lst ys)/\Pv (i + 1) (ys ++ [y]) τ2 (upd H4 acc (.lst (ys ++ [y]))) else Pv (i + 1) ys τ2 H3)
  (hd:∀ ys τ H,Pv n ys τ H->Q (.ref acc) H) :
  LCW J xs ix g tt te σ H1 acc Q:=by
 refine ⟨fun i m ys τ H=>m=n - i/\i <= n/\Pv i ys τ H,⟨n,by simp,zKG _,h0⟩,?_⟩
 rintro i m ys τ H ⟨rfl,hi,p⟩
 obtain ⟨a1,a2⟩:=hacc i ys τ H p
 refine ⟨a1,by omega,?_⟩
 by_cases hlt:i < n
 ·refine .inr ⟨hgo i ys τ H hlt p,Pv (i + 1),fun ys' τ' H' p'=>⟨n - (i + 1),by omega,rfl,hlt,p'⟩,fun x H' y=>?_⟩
  obtain ⟨rfl,rfl⟩:=hyl i ys τ H x H' hlt p y
  exact hs i ys τ _ hlt p
 ·have e:i=n:=by omega
  subst e
  exact .inl ⟨hst ys τ H p,hd ys τ H p⟩
theorem zAH {xs:List Str} {ix:List Nat} {g:TG} {tt:TT} {te:TE} {lo:Int} {n:Nat} {σ:St} {H1:Hp} {Q:VK} {acc:Addr} (hn:n < sizeLine) (Pv:Nat->List V->St->Hp->Prop)
  (h0:Pv 0 [] (stC xs ix σ) (upd H1 acc (.lst [])))
  (hacc:∀ i ys τ H,Pv i ys τ H->H acc=some (.lst ys)/\ys.length <= i)
  (hs:∀ i ys τ H,i < n->Pv i ys τ H->g (.int (lo + i)) τ H fun τ2 H2=>tt τ2 H2 fun b H3=>
   if b=true then te τ2 H3 fun y H4=>H4 acc=some (.lst ys)/\Pv (i + 1) (ys ++ [y]) τ2 (upd H4 acc (.lst (ys ++ [y]))) else Pv (i + 1) ys τ2 H3)
  (hd:∀ ys τ H,Pv n ys τ H->Q (.ref acc) H) :
  LCW (Itr lo n) xs ix g tt te σ H1 acc Q:=
 fG hn (fun i=>.int (lo + i)) Pv h0 hacc (fun i _ _ _ h _=>h) (fun i _ _ _ _ _ _ _ h=>h) (fun _ _ _ _=>zKF n) hs hd
theorem zGM {xs:List Str} {ix:List Nat} {g:TG} {tt:TT} {te:TE} {z:Str} {σ:St} {H1:Hp} {Q:VK} {acc:Addr} (hn:z.cps.size < sizeLine) (Pv:Nat->List V->St->Hp->Prop)
  (h0:Pv 0 [] (stC xs ix σ) (upd H1 acc (.lst [])))
  (hacc:∀ i ys τ H,Pv i ys τ H->H acc=some (.lst ys)/\ys.length <= i)
  (hs:∀ i ys τ H,i < z.cps.size->Pv i ys τ H->g (.str ⟨#[z.cps.getD i 0]⟩) τ H fun τ2 H2=>tt τ2 H2 fun b H3=>
   if b=true then te τ2 H3 fun y H4=>H4 acc=some (.lst ys)/\Pv (i + 1) (ys ++ [y]) τ2 (upd H4 acc (.lst (ys ++ [y]))) else Pv (i + 1) ys τ2 H3)
  (hd:∀ ys τ H,Pv z.cps.size ys τ H->Q (.ref acc) H) :
  LCW (Its z) xs ix g tt te σ H1 acc Q:=
 fG hn (fun i=>.str ⟨#[z.cps.getD i 0]⟩) Pv h0 hacc (fun i _ _ _ h _=>h) (fun i _ _ _ x H' _ _ h=>⟨h.1,by
  obtain ⟨_,c,e,ex⟩:=h
  rw [ex,show z.cps.getD i 0=c by rw [zK5,e];rfl]⟩) (fun _ _ _ _=>rfl) hs hd
theorem qF {K:W.Frag} {a:Addr} {its:List V} {xs:List Str} {ix:List Nat} {g:TG} {tt:TT} {te:TE} {σ:St} {H1:Hp} {Q:VK} {acc:Addr} (hn:its.length < sizeLine) (Pv:Nat->List V->St->Hp->Prop)
  (h0:Pv 0 [] (stC xs ix σ) (upd H1 acc (.lst [])))
  (hacc:∀ i ys τ H,Pv i ys τ H->H acc=some (.lst ys)/\ys.length <= i/\SqL K H a its)
  (hs:∀ i ys τ H x,its[i]?=some x->Pv i ys τ H->g x τ H fun τ2 H2=>tt τ2 H2 fun b H3=>
   if b=true then te τ2 H3 fun y H4=>H4 acc=some (.lst ys)/\Pv (i + 1) (ys ++ [y]) τ2 (upd H4 acc (.lst (ys ++ [y]))) else Pv (i + 1) ys τ2 H3)
  (hd:∀ ys τ H,Pv its.length ys τ H->Q (.ref acc) H) :
  LCW (Itl K a) xs ix g tt te σ H1 acc Q:=by
 refine fG hn (fun i=>its.getD i .non) Pv h0 (fun i ys τ H p=>⟨(hacc i ys τ H p).1,(hacc i ys τ H p).2.1⟩) (fun i ys τ H h p=>⟨its,its[i],(hacc i ys τ H p).2.2,by simp [h]⟩)
  (fun i ys τ H x H' h p y=>⟨y.1,?_⟩) (fun ys τ H p=>⟨its,(hacc _ ys τ H p).2.2,zKF _⟩) (fun i ys τ H h p=>hs i ys τ H _ (by simp [zKB,h]) p) hd
 have e:=y.2 its (hacc i ys τ H p).2.2
 rw [zKB,e];rfl
theorem qL {g:TG} {te:TE} {x:V} {τ:St} {H:Hp} {R:St->Hp->VK} {N:St->Hp->Prop} (h:g x τ H fun τ2 H2=>te τ2 H2 (R τ2 H2)) :
  g x τ H fun τ2 H2=>tG τ2 H2 fun b H3=>if b=true then te τ2 H3 (R τ2 H3) else N τ2 H3:=by
 have e:(fun τ2 H2=>tG τ2 H2 fun b H3=>if b=true then te τ2 H3 (R τ2 H3) else N τ2 H3)=fun τ2 H2=>te τ2 H2 (R τ2 H2):=by
  funext τ2 H2
  show (if true=true then te τ2 H2 (R τ2 H2) else N τ2 H2)=_
  rw [if_pos rfl]
 rw [e];exact h
theorem dJ {xs:List Str} {ix:List Nat} {g:TG} {te:TE} {lo:Int} {n:Nat} {σ:St} {H1:Hp} {Q:VK} {acc:Addr} (hn:n < sizeLine) (Pv:Nat->List V->St->Hp->Prop)
  (h0:Pv 0 [] (stC xs ix σ) (upd H1 acc (.lst [])))
  (hacc:∀ i ys τ H,Pv i ys τ H->H acc=some (.lst ys)/\ys.length <= i)
  (hs:∀ i ys τ H,i < n->Pv i ys τ H->g (.int (lo + i)) τ H fun τ2 H2=>te τ2 H2 fun y H4=>H4 acc=some (.lst ys)/\Pv (i + 1) (ys ++ [y]) τ2 (upd H4 acc (.lst (ys ++ [y]))))
  (hd:∀ ys τ H,Pv n ys τ H->Q (.ref acc) H):LCW (Itr lo n) xs ix g tG te σ H1 acc Q:=
 zAH hn Pv h0 hacc (fun i ys τ H hi p=>qL (R:=fun τ2 _=>fun y H4=>H4 acc=some (.lst ys)/\Pv (i + 1) (ys ++ [y]) τ2 (upd H4 acc (.lst (ys ++ [y])))) (hs i ys τ H hi p)) hd
theorem zC9 {xs:List Str} {ix:List Nat} {g:TG} {te:TE} {z:Str} {σ:St} {H1:Hp} {Q:VK} {acc:Addr} (hn:z.cps.size < sizeLine) (Pv:Nat->List V->St->Hp->Prop)
  (h0:Pv 0 [] (stC xs ix σ) (upd H1 acc (.lst [])))
  (hacc:∀ i ys τ H,Pv i ys τ H->H acc=some (.lst ys)/\ys.length <= i)
  (hs:∀ i ys τ H,i < z.cps.size->Pv i ys τ H->g (.str ⟨#[z.cps.getD i 0]⟩) τ H fun τ2 H2=>te τ2 H2 fun y H4=>H4 acc=some (.lst ys)/\Pv (i + 1) (ys ++ [y]) τ2 (upd H4 acc (.lst (ys ++ [y]))))
  (hd:∀ ys τ H,Pv z.cps.size ys τ H->Q (.ref acc) H):LCW (Its z) xs ix g tG te σ H1 acc Q:=
 zGM hn Pv h0 hacc (fun i ys τ H hi p=>qL (R:=fun τ2 _=>fun y H4=>H4 acc=some (.lst ys)/\Pv (i + 1) (ys ++ [y]) τ2 (upd H4 acc (.lst (ys ++ [y])))) (hs i ys τ H hi p)) hd
theorem w4 {K:W.Frag} {a:Addr} {its:List V} {xs:List Str} {ix:List Nat} {g:TG} {te:TE} {σ:St} {H1:Hp} {Q:VK} {acc:Addr} (hn:its.length < sizeLine) (Pv:Nat->List V->St->Hp->Prop)
  (h0:Pv 0 [] (stC xs ix σ) (upd H1 acc (.lst [])))
  (hacc:∀ i ys τ H,Pv i ys τ H->H acc=some (.lst ys)/\ys.length <= i/\SqL K H a its)
  (hs:∀ i ys τ H x,its[i]?=some x->Pv i ys τ H->g x τ H fun τ2 H2=>te τ2 H2 fun y H4=>H4 acc=some (.lst ys)/\Pv (i + 1) (ys ++ [y]) τ2 (upd H4 acc (.lst (ys ++ [y]))))
  (hd:∀ ys τ H,Pv its.length ys τ H->Q (.ref acc) H):LCW (Itl K a) xs ix g tG te σ H1 acc Q:=
 qF hn Pv h0 hacc (fun i ys τ H x hi p=>qL (R:=fun τ2 _=>fun y H4=>H4 acc=some (.lst ys)/\Pv (i + 1) (ys ++ [y]) τ2 (upd H4 acc (.lst (ys ++ [y])))) (hs i ys τ H x hi p)) hd
section
variable {X:Cx}
def zIV:R2:=fun x y H Q=>∃ p xs i v,x=.ref p/\y=.int i/\H p=some (.lst xs)/\atI xs i=some v/\Q v H
theorem zT:IxR X zIV:=fun value slice zp s σ H x y v u Q I rx ry hz hs=>by
 obtain ⟨p,xs,i,z,a,b,c,d,e⟩:=hz
 exact fH value slice zp s σ H x y v u Q I rx ry ⟨p,xs,i,z,a,b,.of c,d,e⟩ hs
def zEI:R2:=fun x y H Q=>∃ p xs i v,x=.ref p/\y=.int i/\H p=some (.tup xs)/\atI xs i=some v/\Q v H
theorem zDA:IxR X zEI:=fun value slice zp s σ H x y v u Q I rx ry hz hs=>by
 obtain ⟨p,xs,i,z,a,b,c,d,e⟩:=hz
 exact zGS value slice zp s σ H x y v u Q I rx ry ⟨p,xs,i,z,a,b,.of c,d,e⟩ hs
end
def uM (N:List Str) (sc:Scope) (xs:List Str) (ix:List Nat) (scope:Scope):Prop:=
 scope.kind=.function/\(∀ y ∈ scope.names,y.2 ≠ .cell)/\(∀ y ∈ scope.names,y.2=.local->scope.names.lookup y.1=some .local) /\
 (∀ y ∈ scope.names,y.2=.free->sc.names.lookup y.1=some .cell \/ sc.names.lookup y.1=some .free)/\(∀ x ∈ xs,scope.names.lookup x=some .local) /\
 (xs ++ ix.map (fun i=>N.getD i "")).Nodup/\(∀ i ∈ ix,i < N.length)/\(∀ i ∈ ix,scope.names.lookup (N.getD i "")=some .free)
instance {N:List Str} {sc:Scope} {xs:List Str} {ix:List Nat} {scope:Scope}:Decidable (uM N sc xs ix scope):=by unfold uM;infer_instance
theorem uM.at {X:Cx} {N:List Str} {sc:Scope} {xs:List Str} {ix:List Nat} {scope:Scope} (S:uM N sc xs ix scope) (hN:X.N=N) (hsc:X.env.scope=sc):yW X xs ix scope:=by
 obtain ⟨a,b,c,d,e,f,g,h⟩:=S
 subst hN hsc
 exact ⟨a,b,c,fun n hn=>d (n,.free) hn rfl,e,f,g,h⟩
theorem vD {X:Cx} {N:List Str} {sc:Scope} {x:Str} {ix:List Nat} {scope:Scope} {elt iter:Expr} {ifs:List Expr} {px pos:Pos} {wi:TI} {tt:TT} {te:TE}
  (hS:uM N sc [x] ix scope) (hi:PI X (.Name x px) iter wi)
  (ht:∀ C fp s H,PTs (cxC X [x] ix scope C fp s H) ifs tt) (he:∀ C fp s H,PE (cxC X [x] ix scope C fp s H) elt te)
  (hN:X.N=N:=by rfl) (hsc:X.env.scope=sc:=by rfl) (hc:X.calm=true:=by rfl)
  (hs:∀ x,foldedSetIterable iter X.env x=pure x:=by intro _;rfl) :
  PE X (.ListComp elt [⟨.Name x px,iter,ifs,0⟩] scope pos) (tLC [x] ix wi (xK 0) tt te):=by
 have S:=hS.at (X:=X) hN hsc
 have hl:∀ C fp s H,(cxC X [x] ix scope C fp s H).env.scope.names.lookup x=some .local:=fun _ _ _ _=>lookup_relabel_local (S.own x (by simp))
 exact zEK S hc hi (fun C fp s H=>zZ S.nd rfl (Or.inl (hl C fp s H)) (.inr (hl C fp s H))) ht he hs
theorem eY {X:Cx} {N:List Str} {sc:Scope} {x y:Str} {ix:List Nat} {scope:Scope} {elt iter:Expr} {ifs:List Expr} {px cpos pos pos':Pos} {wi:TI} {tt:TT} {te:TE} {i:Nat}
  (hN':X.N.Nodup) (hin:X.N[i]?=some y) (hx:Loc X.env.scope y)
  (hS:uM N sc [x] ix scope) (hi:PI X (.Name x px) iter wi)
  (ht:∀ C fp s H,PTs (cxC X [x] ix scope C fp s H) ifs tt) (he:∀ C fp s H,PE (cxC X [x] ix scope C fp s H) elt te)
  (hN:X.N=N:=by rfl) (hsc:X.env.scope=sc:=by rfl) (hc:X.calm=true:=by rfl)
  (hsw:swapsWith (.ListComp elt [⟨.Name x px,iter,ifs,0⟩] scope cpos) (some (.Name y pos')) pos.line X.env=pure true:=by rfl)
  (hf:X.fn y=true \/ X.env.scope.names.lookup y=some .local:=by first | exact .inl rfl | exact .inr rfl | assumption)
  (hs:∀ x,foldedSetIterable iter X.env x=pure x:=by intro _;rfl) :
  PS X (.Assign [.Name y pos'] (.ListComp elt [⟨.Name x px,iter,ifs,0⟩] scope cpos) pos) (o9 (tLC [x] ix wi (xK 0) tt te) (xK i)):=by
 have S:=hS.at (X:=X) hN hsc
 have hl:∀ C fp s H,(cxC X [x] ix scope C fp s H).env.scope.names.lookup x=some .local:=fun _ _ _ _=>lookup_relabel_local (S.own x (by simp))
 exact lI hN' hin hx S hc hi (fun C fp s H=>zZ S.nd rfl (Or.inl (hl C fp s H)) (.inr (hl C fp s H))) ht he hsw hf hs
theorem zC.drop {S:List Addr} {H H':Hp} {a:Addr} (k:zC (a :: S) H H') (h:H a=Option.none):zC S H H':=fun b o n q=>k b o (fun z=>(List.mem_cons.mp z).elim (fun e=>by rw [e,h] at q;cases q) n) q
theorem xZ {H:Hp} {p a:Addr} {o:HO} (h:upd H p o a=Option.none):H a=Option.none/\a ≠ p:=by
 by_cases e:a=p
 ·rw [e,zB] at h;cases h
 ·rw [zJ e] at h;exact ⟨h,e⟩
end L2
namespace L2
theorem mV {α:Type} {xs:List α} {i:Int} (h0:0 <= i) (h1:i < xs.length):∃ v,atI xs i=some v/\xs[i.toNat]?=some v:=by
 have hl:i.toNat < xs.length:=by omega
 refine ⟨xs[i.toNat],?_,zJ7 hl⟩
 have e:=qI (zJ7 hl)
 rwa [Int.toNat_of_nonneg h0] at e
end L2
namespace L2
open PySem PySem.Spec PyProof.Rows
structure Glo (mg:Str->Option Value) (x:Str) (v:V):Prop where
 ex:∃ u,mg x=some u/\z7 v u
theorem wP {X:Cx} {x:Str} {v:V} {pos:Pos} (g:Glo X.mg x v) (hg:Gl X x:=by rfl) (hd:(x == ("__debug__" : Str))=false:=by decide):PE X (.Name x pos) (tC v):=
 let ⟨_,hm,r⟩:=g.ex
 zCM hg hm r hd
inductive yS (K:W.Frag) (H:Hp):V->String->Prop where
 | non:yS K H .non "NoneType"
 | bl (x:Bool):yS K H (.bl x) "bool"
 | int (i:Int):yS K H (.int i) "int"
 | str (x:Str):yS K H (.str x) "str"
 | lst {a:Addr} {xs:List V} (e:H a=some (.lst xs)):yS K H (.ref a) "list"
 | tup {a:Addr} {xs:List V} (e:H a=some (.tup xs)):yS K H (.ref a) "tuple"
 | dK {a:Addr} {kvs:List (Key × V)} (e:H a=some (.dK kvs)):yS K H (.ref a) "dict"
theorem yS.ty {K:W.Frag} {H:Hp} {x:V} {T:String} (h:yS K H x T):tS K H x (.type T):=by
 cases h with
 | non=>exact .non
 | bl b=>exact .bl b
 | int i=>exact .int i
 | str z=>exact .str z
 | lst e=>exact .lst e
 | tup e=>exact .tup e
 | dK e=>exact .dK e
theorem yS.kit {K:W.Frag} {H:Hp} {x:V} {T:String} (h:yS K H x T):W.kitOne K (.type T) (.type "str")=some (T == "str")/\W.kitOne K (.type T) (.type "int")=some (T == "int" || T == "bool") /\
  W.kitOne K (.type T) (.type "bool")=some (T == "bool")/\W.kitOne K (.type T) (.type "list")=some (T == "list")/\W.kitOne K (.type T) (.type "tuple")=some (T == "tuple"):=by
 cases h <;> exact ⟨rfl,rfl,rfl,rfl,rfl⟩
abbrev abc:Str:="abcdefghijklmnopqrstuvwxyz"
def vN (c:Nat):Bool:=!(Builtin.Str.occurrences abc ⟨#[c]⟩ 0 abc.length 1).isEmpty
def uK (z:Str):Bool:=decide (1 <= z.length) && decide (z.length <= 8) && z.cps.toList.all vN
def uJ:V->Bool
 | .str z=>uK z
 | _=>false
theorem i8 {α:Type} (l:List α) (f:α->Bool):(l.map f).all id=l.all f:=by rw [List.all_map];rfl
end L2
namespace L2
open PySem
theorem zN:bootBuiltins "isinstance"=some (.builtin "isinstance"):=by decide +kernel
theorem y8:bootBuiltins "len"=some (.builtin "len"):=by decide +kernel
theorem mQ:bootBuiltins "all"=some (.builtin "all"):=by decide +kernel
theorem vP:bootBuiltins "sorted"=some (.builtin "sorted"):=by decide +kernel
theorem zG4:bootBuiltins "min"=some (.builtin "min"):=by decide +kernel
theorem zG5:bootBuiltins "max"=some (.builtin "max"):=by decide +kernel
theorem zG2:bootBuiltins "str"=some (.type "str"):=by decide +kernel
theorem zBC:bootBuiltins "int"=some (.type "int"):=by decide +kernel
theorem zDR:bootBuiltins "bool"=some (.type "bool"):=by decide +kernel
theorem wI:bootBuiltins "list"=some (.type "list"):=by decide +kernel
theorem jQ:bootBuiltins "tuple"=some (.type "tuple"):=by decide +kernel
theorem zG3:bootBuiltins "set"=some (.type "set"):=by decide +kernel
end L2
namespace L2
theorem ifF {c:Bool} {A B:Prop} (h:c=false) (k:B):if c=true then A else B:=by rw [h];exact iQ k
theorem ifT {c:Bool} {A B:Prop} (h:c=true) (k:A):if c=true then A else B:=by rw [h];exact dN k
end L2
namespace L2
open PySem PySem.Spec PyProof.Rows
def eqT (xs ys:List V):Bool:=xs.length == ys.length && (List.zipWith eqV xs ys).all id
theorem jJ {x:V} (f:wE x=true):eqV x x=true:=by
 cases x with
 | non=>rfl
 | bl b=>cases b <;> rfl
 | int i=>show (i == i)=true;simp
 | str z=>show (z == z)=true;simp
 | _=>exact absurd (show false=true from f) zKY
theorem o4:∀ (xs ys:List V),(List.zipWith eqV xs ys).all id=(List.range (min xs.length ys.length)).all fun j=>eqV (xs.getD j .non) (ys.getD j .non)
 | [],_=>by simp
 | _ :: _,[]=>by simp
 | x :: xs,y :: ys=>by
  have e:min (x :: xs).length (y :: ys).length=min xs.length ys.length + 1:=by simp [Nat.succ_min_succ]
  rw [e,List.range_succ_eq_map,List.all_cons,List.all_map,List.zipWith_cons_cons,List.all_cons,o4 xs ys]
  rfl
theorem zAX:∀ {xs:List V},xs.all wE=true->eqT xs xs=true:=fun {xs} f=>by
 unfold eqT
 rw [beq_self_eq_true,Bool.true_and,o4,List.all_eq_true]
 intro j hj
 have hl:j < xs.length:=by have:=List.mem_range.mp hj;omega
 rw [zKB,zJ7 hl]
 exact jJ (List.all_eq_true.mp f _ (List.getElem_mem hl))
section
variable {X:Cx}
theorem zAY {zp:LAO} {σ:St} {H:Hp} {s:Shared} {A:Around} {a b:Addr} {xs ys:List V} (I:Inv X zp σ H s) (h1:SqT X.K H a xs) (h2:SqT X.K H b ys) (f1:xs.all wE=true) (f2:ys.all wE=true)
  (hu:A.units < cLine):SeqAt.EqAt A s (.ref a) (.ref b) (eqT xs ys):=by
 by_cases e:a=b
 ·subst e
  have e2:=I.tuple_inj h1 h2
  subst e2
  rw [zAX f1]
  exact SeqAt.EqAt.same _
 ·obtain ⟨i1,r1,t1,_⟩:=I.tuple h1
  obtain ⟨i2,r2,t2,_⟩:=I.tuple h2
  have l1:=r1.length
  have l2:=r2.length
  have key:=SeqAt.RcAt.tuples (A:=A) (s:=s) (l:=a) (b:=b) (e:=fun j=>eqV (xs.getD j .non) (ys.getD j .non)) (show s.heap.IsTuple a i1.toArray from t1) (show s.heap.IsTuple b i2.toArray from t2) hu (fun j g1 g2=>by
   have g1':j < i1.length:=by simpa using g1
   have g2':j < i2.length:=by simpa using g2
   obtain ⟨u,eu,ru⟩:=r1.get (i:=j) (zJ7 (by omega:j < xs.length))
   obtain ⟨v,ev,rv⟩:=r2.get (i:=j) (zJ7 (by omega:j < ys.length))
   have eu':i1.toArray[j]=u:=by
    rw [zJ7 g1'] at eu
    simpa using zKD eu
   have ev':i2.toArray[j]=v:=by
    rw [zJ7 g2'] at ev
    simpa using zKD ev
   rw [eu',ev']
   have q1:xs.getD j .non=xs[j]'(by omega):=by rw [zKB,zJ7 (by omega)];rfl
   have q2:ys.getD j .non=ys[j]'(by omega):=by rw [zKB,zJ7 (by omega)];rfl
   show SeqAt.EqAt _ _ _ _ (eqV (xs.getD j .non) (ys.getD j .non))
   rw [q1,q2]
   exact i3 ru rv (List.all_eq_true.mp f1 _ (List.getElem_mem _)) (List.all_eq_true.mp f2 _ (List.getElem_mem _)))
  have ee:eqT xs ys=((List.range (min i1.toArray.size i2.toArray.size)).all (fun j=>eqV (xs.getD j .non) (ys.getD j .non)) && i1.toArray.size == i2.toArray.size):=by
   unfold eqT
   rw [o4,zKE,zKE,<- l1,<- l2,Bool.and_comm]
  rw [ee]
  exact SeqAt.EqAt.of_refs e key
def Rows (H:Hp) (p:Addr) (rows:List (List V)):Prop:=∃ ps:List Addr,H p=some (.lst (ps.map V.ref))/\Paired (fun q r=>H q=some (.tup r)) ps rows
theorem uO {α β:Type} {F:α->β->Prop} {xs:List α} {ys:List β} (h:Paired F xs ys):∀ (i:Nat) (x:α),xs[i]?=some x->∃ y,ys[i]?=some y/\F x y:=by
 induction h with
 | nil=>intro i x h;simp at h
 | cons r _ ih=>
  intro i x h
  cases i with
  | zero=>simp at h;subst h;exact ⟨_,rfl,r⟩
  | succ i=>
   obtain ⟨y,h1,h2⟩:=ih i x (by simpa using h)
   exact ⟨y,by simpa using h1,h2⟩
theorem wQ {α β:Type} {F:α->β->Prop} {a:α} {b:β} {xs:List α} {ys:List β} (h:Paired F xs ys) (r:F a b):Paired F (xs ++ [a]) (ys ++ [b]):=by
 induction h with
 | nil=>exact .cons r .nil
 | cons q _ ih=>exact .cons q ih
theorem zS {α β:Type} {F:α->β->Prop} {xs:List α} {ys:List β} (h:Paired F xs ys):xs.length=ys.length:=by
 induction h with
 | nil=>rfl
 | cons _ _ ih=>exact congrArg Nat.succ ih
theorem Rows.keep {H H':Hp} {p:Addr} {rows:List (List V)} (h:Rows H p rows) (k:zC [] H H'):Rows H' p rows:=by
 obtain ⟨ps,e,r⟩:=h
 exact ⟨ps,k _ _ (by simp) e,L2.Paired.mapP r fun q x z=>k _ _ (by simp) z⟩
theorem gO:∀ {ps:List Addr} {us:List Value},zY (ps.map V.ref) us->us=ps.map Value.ref
 | [],_,.nil=>rfl
 | p :: ps,_,.cons r t=>by cases r;rw [List.map_cons,gO t]
def sW (H:Hp) (xs:List V) (u:Value):Bool:=match u with
 | .ref q=>(match H q with | some (.tup r)=>eqT r xs | _=>false)
 | _=>false
theorem o0 {H:Hp} {xs:List V}:∀ {ps:List Addr} {rows:List (List V)},Paired (fun q r=>H q=some (.tup r)) ps rows->(ps.map Value.ref).any (sW H xs)=rows.any fun r=>eqT r xs
 | _,_,.nil=>rfl
 | p :: ps,r :: rows,.cons e t=>by
  rw [List.map_cons,List.any_cons,List.any_cons,o0 t]
  have e1:sW H xs (.ref p)=eqT r xs:=by unfold sW;simp only [e]
  rw [e1]
theorem pC {zp:LAO} {σ:St} {H:Hp} {s:Shared} {A:Around} {t:Addr} {xs:List V} (I:Inv X zp σ H s) (ht:H t=some (.tup xs)) (fx:xs.all wE=true) (hu:A.units < cLine) :
  ∀ {ps:List Addr} {rows:List (List V)},Paired (fun q r=>H q=some (.tup r)) ps rows->(∀ r ∈ rows,r.all wE=true)->∀ u ∈ ps.map Value.ref,SeqAt.EqAt A s u (.ref t) (sW H xs u)
 | _,_,.nil,_=>fun u hu'=>by cases hu'
 | p :: ps,r :: rows,.cons e tl,f=>fun u hu'=>by
  rcases List.mem_cons.mp hu' with rfl | hu'
  ·have e1:sW H xs (.ref p)=eqT r xs:=by unfold sW;simp only [e]
   rw [e1]
   exact zAY I (.of e) (.of ht) (f r zKZ) fx hu
  ·exact pC I ht fx hu tl (fun r' hr=>f r' (zKJ _ hr)) u hu'
def rInT (neg:Bool):R2:=fun x y H Q=>∃ p t xs rows,y=.ref p/\x=.ref t/\Rows H p rows/\H t=some (.tup xs)/\xs.all wE=true/\(∀ r ∈ rows,r.all wE=true)/\Q (.bl (if neg then !rows.any (fun r=>eqT r xs) else rows.any fun r=>eqT r xs)) H
theorem dO {A:Around} (h:A.units + 1 < cLine):A.in1.units < cLine:=by
 have e:A.in1.units=A.units + 1:=rfl
 omega
theorem zF2 (hu:X.A.units + 1 < cLine):OpR X (compareOp .In) (rInT false):=by
 intro zp s σ H x y v u Q I rx ry h
 obtain ⟨p,t,xs,rows,rfl,rfl,⟨ps,hp,hr⟩,ht,fx,fr,q⟩:=h
 cases ry;cases rx
 obtain ⟨its,r,pl,hz⟩:=I.list (.of hp)
 have e:=gO r
 subst e
 refine SeqAt.in_listAt (sW H xs) pl.isList (fun w hw=>pC I ht fx (dO hu) hr fr w (by simpa using hw)) ⟨.bl _,H,I,rfl,?_⟩
 rw [show (ps.map Value.ref).toArray.any (sW H xs)=(ps.map Value.ref).any (sW H xs) by simp,o0 hr]
 exact q
open MeetsSeq in
open AutoSeq1 (wpAny_loadPart') in
open MeetsSeq in
open AutoSeq1 (wpAny_loadPart') in
def zIU (neg:Bool):R2:=fun x y H Q=>∃ a b xs,x=.ref a/\y=.ref b/\H a=some (.lst xs)/\H b=some (.lst [])/\a ≠ b/\Q (.bl (if neg then !xs.isEmpty else xs.isEmpty)) H
theorem zF3 (hu:X.A.units < cLine):OpR X (compareOp .Eq) (zIU false):=by
 intro zp s σ H x y v u Q I rx ry h
 obtain ⟨a,b,xs,rfl,rfl,ha,hb,hne,q⟩:=h
 cases rx;cases ry
 obtain ⟨i1,r1,p1,_⟩:=I.list (.of ha)
 obtain ⟨i2,r2,p2,_⟩:=I.list (.of hb)
 cases r2
 cases xs with
 | nil=>
  cases r1
  exact SeqAt.eq_listAt (e:=fun _=>true) p1.isList p2.isList rfl hu (fun j h1=>by simp at h1) ⟨.bl _,H,I,rfl,q⟩
 | cons x xs=>
  have l1:=r1.length
  refine SeqAt.eq_list_lengthsAt p1.isList p2.isList ?_ hu ⟨.bl false,H,I,rfl,q⟩
  rw [zKE,zKE,<- l1]
  rfl
end
structure yI (K:W.Frag) (C:Addr) (m qual:Str) (st:Stmt) (ps:List Str):Prop where
 ex:∃ (f:Addr) (fd:FuncData),Fun K m qual st f fd/\zBO K C m f/\vY K fd ps []
structure z8 (P:Program) (w:World) (K:W.Frag) (mg:Str->Option Value) (base:Heap) (CX:CXT) (k:Nat) (C:Addr) (m:Str) (ps:List Str) (sp:Sp):Prop where
 ex:∃ (f:Addr) (fd:FuncData),vZ P w K mg base CX k f fd ps sp/\zBO K C m f/\vY K fd ps []
section
variable {P:Program} {w:World} {K:W.Frag} {mg:Str->Option Value} {base:Heap}
theorem yI.ok {C:Addr} {m qual:Str} {st:Stmt} {N ps:List Str} {k:Nat} {sp:Sp} (G:yI K C m qual st ps) (S:zI N ps (zE st)) (len:∀ vs H Q E,sp vs H Q E->vs.length=ps.length)
  (hbody:∀ (f:Addr) (cdv:Value) (A:Around) (outer:List Env) (s:Shared) (H:Hp) (vs:List V) (Q:VK) (E:XK),zO k (A.deeper (envOfC qual (zE st) s.heap.objs.size f cdv))->sp vs H Q E ->
   ∃ t,PSs (uV CX0 P w K mg base N qual (zE st) f cdv A outer s H E).nox (yU st) t/\t { nx:=fun _ H'=>Q .non H',rt:=Q } (start N vs) H):z8 P w K mg base CX0 (k + 1) C m ps sp:=by
 obtain ⟨f,fd,F,hm,hb⟩:=G.ex
 exact ⟨f,fd,F.ok S len fun cdv A outer s H vs Q E hr h=>hbody f cdv A outer s H vs Q E hr h,hm,hb⟩
theorem zC5 {C:Addr} {x qual:Str} {st:Stmt} {f:Addr} {oc:Value} {od an:Option Addr} {osl:Array (Option Value)} {kV doc pm cdv ct:Value} {ps:List Str}
  (a:W.findIn K (.ref C) x=some (some (.ref f))) (i:W.isFn K (.ref f)=true)
  (l:K.lookup f=some ⟨oc,od,.func (W.fnOf x qual (wM st) (yU st) (zE st) .none kV doc pm an cdv ct),osl⟩) (c:W.codeIn K cdv qual=true) (k:W.keepIn K (.ref f)=true)
  (hb:∀ (kV doc pm:Value) (an:Option Addr) (cdv ct:Value) (us:List Value),us.length=ps.length->bindArgs (W.fnOf x qual (wM st) (yU st) (zE st) .none kV doc pm an cdv ct) ⟨us,[]⟩=pure (ps.zip us)):yI K C x qual st ps:=
 ⟨f,_,uR l c k,⟨a,i,k⟩,(uR l c k).binds hb⟩
end
section
variable {X:Cx} {k:Nat} {C:Addr} {ps:List Str} {sp:Sp} {m:Str} {apos pos:Pos} {o e:Expr} {es:List Expr} {ta:TE} {t:TA}
theorem yY {pl:Sem Bool} (M:z8 X.prog X.w X.K X.mg X.base CX0 k C m ps sp) (c:Cls X.K C) (hr:zO k X.A) (ho:PE X o ta) (ha:PA X (e :: es) t)
  (hst:starEach (e :: es) X.env=(false,eval e X.env) :: starEach es X.env:=by rfl) (hpl:(backTo pos (starEach es X.env)).any (·.1)=false:=by rfl)
  (ht:eval (.Call (.Attribute o m apos) (e :: es) [] pos) X.env=(do
   let ov <- eval o X.env
   standAt apos.atName
   let (f,first) <- holding [ov] (getMethod ov m pl)
   callWith pos f first (backTo pos (starEach (e :: es) X.env)) (backToKw pos (keywordEach [] X.env))):=by rfl) :
  PE X (.Call (.Attribute o m apos) (e :: es) [] pos) (m5 C m sp [] E0 ta t):=
 let ⟨_,_,F,hm,hb⟩:=M.ex
 gU ho c hm F hr hb .nil fA ha hst hpl ht
theorem yP {pl:Sem Bool} (M:z8 X.prog X.w X.K X.mg X.base CX0 k C m ps sp) (c:Cls X.K C) (hr:zO k X.A) (ho:PE X o ta)
  (ht:eval (.Call (.Attribute o m apos) [] [] pos) X.env=(do
   let ov <- eval o X.env
   standAt apos.atName
   let (f,first) <- holding [ov] (getMethod ov m pl)
   callWith pos f first (backTo pos (starEach [] X.env)) (backToKw pos (keywordEach [] X.env))):=by rfl) :
  PE X (.Call (.Attribute o m apos) [] [] pos) (m5 C m sp [] E0 ta o8):=
 let ⟨_,_,F,hm,hb⟩:=M.ex
 aN ho c hm F hr hb .nil fA ht
end
section
variable {X:Cx}
theorem rE (hu:X.A.units < cLine):OpR X (compareOp .NotEq) (zIU true):=by
 intro zp s σ H x y v u Q I rx ry h
 obtain ⟨a,b,xs,rfl,rfl,ha,hb,hne,q⟩:=h
 cases rx;cases ry
 obtain ⟨i1,r1,p1,_⟩:=I.list (.of ha)
 obtain ⟨i2,r2,p2,_⟩:=I.list (.of hb)
 cases r2
 cases xs with
 | nil=>
  cases r1
  exact SeqAt.RcNeAt.lists (e:=fun _=>true) p1.isList p2.isList rfl hu (fun j h1=>by simp at h1) _ _ _ _ ⟨.bl _,H,I,rfl,q⟩
 | cons x xs=>
  have l1:=r1.length
  refine SeqAt.RcNeAt.lists_lengths p1.isList p2.isList ?_ hu _ _ _ _ ⟨.bl true,H,I,rfl,q⟩
  rw [zKE,zKE,<- l1]
  rfl
def rInH (neg:Bool):R2:=fun x y H Q=>∃ p xs,y=.ref p/\H p=some (.lst xs)/\wE x=true/\xs.all wE=true/\Q (.bl (if neg then !inV x xs else inV x xs)) H
theorem iG:OpR X (compareOp .NotIn) (rInH true):=fun zp s σ H x y v u Q I rx ry ⟨p,xs,a,b,c,d,e⟩=>sH zp s σ H x y v u Q I rx ry ⟨p,xs,a,.inl (.of b),c,d,e⟩
end
structure uG (P:Program) (w:World) (K:W.Frag) (mg:Str->Option Value) (base:Heap) (CX:CXT) (k:Nat) (C:Addr) (x:Str) (ps:List Str) (sp:Sp):Prop where
 ex:∃ (f:Addr) (fd:FuncData),vZ P w K mg base CX k f fd ps sp/\Mk K C f/\mg x=some (.ref C)/\vY K fd ps []
section
variable {X:Cx} {k:Nat} {C:Addr} {ps:List Str} {sp:Sp} {x:Str} {p pos:Pos} {e:Expr} {es:List Expr} {t:TA}
theorem oH (M:uG X.prog X.w X.K X.mg X.base CX0 k C x ps sp) (hr:zO (k + 1) X.A) (ha:PA X (e :: es) t) (hg:Gl X x:=by rfl)
  (hdb:(x == ("__debug__" : Str))=false:=by decide) (he:starEach (e :: es) X.env=(false,eval e X.env) :: starEach es X.env:=by rfl) (hpl:(backTo pos (starEach es X.env)).any (·.1)=false:=by rfl) :
  PE X (.Call (.Name x p) (e :: es) [] pos) (cU C sp [] E0 t):=
 let ⟨_,_,F,M',hm,hb⟩:=M.ex
 gW M' F hr hg hm hb .nil fA ha hdb he hpl
end
section
variable {prog:Program} {w:World} {A:Around} {E:VSP} {s:Shared}
end
section
variable {X:Cx} {pos:Pos}
theorem iZ {zp:LAO} {σ:St} {H:Hp} {s:Shared} {A:Around} {xs ys:List V} {i1 i2:List Value} (r1:zY xs i1) (r2:zY ys i2) (f1:xs.all wE=true) (f2:ys.all wE=true) (j:Nat) (g1:j < i1.toArray.size) (g2:j < i2.toArray.size) :
  SeqAt.EqAt A s i1.toArray[j] i2.toArray[j] (eqV (xs.getD j .non) (ys.getD j .non)):=by
 have l1:=r1.length
 have l2:=r2.length
 have g1':j < i1.length:=by simpa using g1
 have g2':j < i2.length:=by simpa using g2
 obtain ⟨u,eu,ru⟩:=r1.get (i:=j) (zJ7 (by omega:j < xs.length))
 obtain ⟨v,ev,rv⟩:=r2.get (i:=j) (zJ7 (by omega:j < ys.length))
 have eu':i1.toArray[j]=u:=by
  rw [zJ7 g1'] at eu
  simpa using zKD eu
 have ev':i2.toArray[j]=v:=by
  rw [zJ7 g2'] at ev
  simpa using zKD ev
 rw [eu',ev']
 have q1:xs.getD j .non=xs[j]'(by omega):=by rw [zKB,zJ7 (by omega)];rfl
 have q2:ys.getD j .non=ys[j]'(by omega):=by rw [zKB,zJ7 (by omega)];rfl
 show SeqAt.EqAt _ _ _ _ (eqV (xs.getD j .non) (ys.getD j .non))
 rw [q1,q2]
 exact i3 ru rv (List.all_eq_true.mp f1 _ (List.getElem_mem _)) (List.all_eq_true.mp f2 _ (List.getElem_mem _))
end
theorem fE {K:W.Frag} {α:Type} {a acc:Addr} {xs:List Str} {ix:List Nat} {g:TG} {tt:TT} {te:TE} {σ:St} {H1:Hp} {Q:VK} {ds:List α} (f mk:α->List V) (b:α->Bool) (own:α->Addr->List (Option V)) (rest:List (Option V)) (hn:ds.length <= 2000) (ha:H1 acc=none) (hS:Rows H1 a (ds.map f))
  (hσ:∃ vs:List (Option V),stC xs ix σ=vs ++ rest/\vs.length=xs.length) (hown:∀ d q,(own d q).length=xs.length)
  (hg:∀ (d:α) (q:Addr) (vs:List (Option V)) (H:Hp) (R:St->Hp->Prop),d ∈ ds->vs.length=xs.length->H q=some (.tup (f d))->R (own d q ++ rest) H->g (.ref q) (vs ++ rest) H R)
  (htt:∀ (d:α) (q:Addr) (H:Hp) (R:Bool->Hp->Prop),d ∈ ds->zC [acc] H1 H->H q=some (.tup (f d))->(∀ H',zC [] H H'->R (b d) H')->tt (own d q ++ rest) H R)
  (hte:∀ (d:α) (q:Addr) (H:Hp) (R:VK),d ∈ ds->H q=some (.tup (f d))->(∀ t H',zC [] H H'->H' t=some (.tup (mk d))->R (.ref t) H')->te (own d q ++ rest) H R)
  (q:∀ H',Rows H' acc ((ds.filter b).map mk)->zC [] H1 H'->Q (.ref acc) H'):LCW (Itl K a) xs ix g tt te σ H1 acc Q:=by
 obtain ⟨ps0,e0,r0⟩:=hS
 have aa:a ≠ acc:=zG e0 ha
 have l0:=zS r0
 rw [zJ6] at l0
 obtain ⟨vs0,hσ,hv0⟩:=hσ
 refine qF (K:=K) (a:=a) (its:=ps0.map V.ref) (by rw [zJ6,sizeLine_eq];omega)
  (fun i ys τ H2=>∃ (ps:List Addr) (vs:List (Option V)),τ=vs ++ rest/\vs.length=xs.length/\ys=ps.map V.ref/\Paired (fun q r=>H2 q=some (.tup r)) ps (((ds.take i).filter b).map mk)/\zC [acc] H1 H2/\H2 acc=some (.lst ys)) ?_ ?_ ?_ ?_
 ·exact ⟨[],vs0,hσ,hv0,rfl,.nil,zC.at (by simp),zB⟩
 ·rintro i ys τ H2 ⟨ps,vs,rfl,hv,rfl,hp,kp,h2⟩
  refine ⟨h2,?_,.of (kp _ _ (by simp [aa]) e0)⟩
  have:=zS hp
  rw [zJ6] at this
  have h3:=zK4 b (ds.take i)
  rw [zJ6,this]
  rw [zKP] at h3
  omega
 ·rintro i ys τ H2 x hx ⟨ps,vs,rfl,hv,rfl,hp,kp,h2⟩
  rw [zKC] at hx
  cases ez:ps0[i]? with
  | none=>rw [ez] at hx;cases hx
  | some qa=>
  rw [ez] at hx
  have ey:V.ref qa=x:=zKD hx
  subst ey
  obtain ⟨r,er,hr⟩:=uO r0 i qa ez
  rw [zKC] at er
  cases ed:ds[i]? with
  | none=>rw [ed] at er;cases er
  | some d=>
  rw [ed] at er
  have er':f d=r:=zKD er
  subst er'
  have nqa:qa ≠ acc:=zG hr ha
  have hq2:=kp _ _ (by simp [nqa]) hr
  have hm:=zKA ed
  have eT:ds.take (i + 1)=ds.take i ++ [d]:=by rw [List.take_succ,ed];rfl
  refine hg d qa vs H2 _ hm hv hq2 (htt d qa H2 _ hm kp hq2 fun H4 k4=>?_)
  cases hb:b d with
  | false=>
   rw [if_neg zKY]
   refine ⟨ps,own d qa,rfl,hown d qa,rfl,?_,kp.trans (k4.mono (by simp)),k4 _ _ (by simp) h2⟩
   rw [eT,List.filter_append,List.filter_cons,hb]
   simpa using L2.Paired.mapP hp fun q r e=>k4 _ _ (by simp) e
  | true=>
   rw [if_pos rfl]
   refine hte d qa H4 _ hm (k4 _ _ (by simp) hq2) fun t H5 k45 h5t=>?_
   have k5:=k4.trans k45
   have h5:=k5 _ _ (by simp) h2
   have nt:acc ≠ t:=by intro z;rw [<- z,h5] at h5t;cases h5t
   refine ⟨h5,ps ++ [t],own d qa,rfl,hown d qa,by simp,?_,(kp.trans (k5.mono (by simp))).trans (zC.at (by simp)),zB⟩
   rw [eT,List.filter_append,List.filter_cons,hb]
   simp only [if_true,List.filter_nil,zKI,List.map_cons,List.map_nil]
   refine wQ ?_ (by rw [zJ (Ne.symm nt)];exact h5t)
   exact L2.Paired.mapP hp fun q r e=>by
    have e5:=k5 _ _ (by simp) e
    have nq:q ≠ acc:=sR e5 h5 (by intro z;cases z)
    rw [zJ nq];exact e5
 ·rintro ys τ H2 ⟨ps,vs,rfl,hv,rfl,hp,kp,h2⟩
  rw [zJ6,l0,zK6] at hp
  exact q H2 ⟨ps,h2,hp⟩ (kp.drop ha)
theorem aO {X:Cx} {N:List Str} {sc:Scope} {x y:Str} {ix:List Nat} {scope:Scope} {elt iter:Expr} {ifs:List Expr} {px py tp pos:Pos} {tk:Nat} {wi:TI} {tt:TT} {te:TE}
  (hS:uM N sc [x,y] ix scope) (hi:PI X (.Tuple [.Name x px,.Name y py] tk tp) iter wi)
  (ht:∀ C fp s H,PTs (cxC X [x,y] ix scope C fp s H) ifs tt) (he:∀ C fp s H,PE (cxC X [x,y] ix scope C fp s H) elt te)
  (hN:X.N=N:=by rfl) (hsc:X.env.scope=sc:=by rfl) (hc:X.calm=true:=by rfl)
  (hs:∀ x,foldedSetIterable iter X.env x=pure x:=by intro _;rfl) :
  PE X (.ListComp elt [⟨.Tuple [.Name x px,.Name y py] tk tp,iter,ifs,0⟩] scope pos) (tLC [x,y] ix wi (iU X.K 2 (uD (xK 0) (uD (xK 1) iV))) tt te):=by
 have S:=hS.at (X:=X) hN hsc
 have hl:∀ C fp s H,(cxC X [x,y] ix scope C fp s H).env.scope.names.lookup x=some .local:=fun _ _ _ _=>lookup_relabel_local (S.own x (by simp))
 have hl2:∀ C fp s H,(cxC X [x,y] ix scope C fp s H).env.scope.names.lookup y=some .local:=fun _ _ _ _=>lookup_relabel_local (S.own y (by simp))
 exact zEK S hc hi (fun C fp s H=>uH (X:=cxC X [x,y] ix scope C fp s H) hc (yH (zZ S.nd rfl (Or.inl (hl C fp s H)) (.inr (hl C fp s H))) (yH (zZ S.nd rfl (Or.inl (hl2 C fp s H)) (.inr (hl2 C fp s H))) vE))) ht he hs
theorem zC.under {S:List Addr} {H0 H1 H2:Hp} (k0:zC [] H0 H1) (k:zC S H1 H2) (hS:∀ b ∈ S,H0 b=Option.none):zC [] H0 H2:=fun b o _ h=>k b o (fun hb=>by rw [hS b hb] at h;cases h) (k0 b o (by simp) h)
theorem qX {α β:Type} {F:α->β->Prop}:∀ {a c:List α} {b d:List β},Paired F a b->Paired F c d->Paired F (a ++ c) (b ++ d)
 | _,_,_,_,.nil,h=>h
 | _,_,_,_,.cons r t,h=>.cons r (qX t h)
def fT (ob:Obj) (C:Addr) (dc:Option Addr):Prop:=ob.cls=.ref C/\ob.dict=dc
theorem dX (f:Array Value->Array Value) (o:Obj):(Obj.mapFields f o).dict=o.dict:=by
 unfold Obj.mapFields
 split <;> rfl
def Rec (h B:Heap) (e C:Addr) (dc:Option Addr) (fl:Value):Prop:=
 ∃ (ob:Obj) (cells:Array Value) (tb:Addr) (ot:Obj) (tcs:Array Value),h.get? e=some ob/\fT ob C dc/\ob.data=.fields cells/\cells[2]?=some .none/\cells[1]?=some (.ref tb) /\
  B.get? tb=none/\tb ≠ e/\h.get? tb=some ot/\ot.data=.fields tcs/\tcs[3]?=some fl
def Fly (B:Heap) (l:List Env) (e C:Addr) (dc:Option Addr) (fl:Value) (h:Heap):Prop:=B.StaysIn h/\B.get? e=none/\h.FunFrames B l/\Rec h B e C dc fl
section
variable {dc:Option Addr} {M:Model} {A:Around} {E:VSP} {s:Shared} {B:Heap} {env:Env} {outer:List Env} {L e C:Addr} {Q:Unit->Shared->Prop}
theorem lU {head:Value} {hadNext:Bool} {ob:Obj} {cells:Array Value} (fr:A.frames=some (env :: outer)) (ff:s.heap.FunFrames B (env :: outer)) (ef:env.frame=some L)
  (ge:s.heap.get? e=some ob) (gc:fT ob C dc) (st:B.StaysIn s.heap) (ne:B.get? e=none) (gd:ob.data=.fields cells) (g2:cells[2]?=some .none)
  (k:∀ h',Fly B (env :: outer) e C dc (rawInt L) h'->s.heap.UpToSlots h'->Q () { s with heap:=h' }) :
  wpAny M A (do let a <- frameOf env;let pl <- entryPlaceOf L hadNext;let b <- EntryCells.newEntry head a .none (rawInt L) .none pl;setField (.ref e) 1 b) Q E s:=by
 have z2:2 < cells.size:=(Array.getElem?_eq_some_iff.mp g2).1
 have z1:1 < cells.size:=by omega
 have nfe:e ∉ (env :: outer).filterMap (·.frame):=fun hm=>by
  obtain ⟨_,o,ho,hnf⟩:=ff.mem hm
  rw [ge] at ho;cases ho;exact hnf cells gd
 refine wpAny_bind (wpAny_frameOf_fun fr ff ef fun g hg=>?_)
 refine wpAny_bind (wpAny_entryPlaceOf fun pl hpl=>?_)
 unfold EntryCells.newEntry newFields
 refine wpAny_bind (wpAny_newObj_type ?_ (hpl.sizeOk5 _ _ _ _ _))
 have e1:g.get? e=some ob:=(hg.2.1 e nfe).trans ge
 have st1:B.StaysIn g:=fun b o hb=>(hg.2.1 b fun hm=>by rw [(ff.mem hm).1] at hb;cases hb).trans (st b o hb)
 generalize htb:({ cls:=.type "traceback",dict:=none,data:=.fields ([head,.ref L,.none,rawInt L,.none] ++ (if pl.isEmpty then List.replicate 6 Value.none else pl)).toArray }:Obj)=tbo
 have tbd:∃ tcs:Array Value,tbo.data=.fields tcs/\tcs[3]?=some (rawInt L):=⟨_,by rw [<- htb],by first | (simp;done) | (rcases hpl with rfl | ⟨_,_,_,_,_,_,_,rfl⟩ <;> simp)⟩
 obtain ⟨tcs,td,t3⟩:=tbd
 have e2:=Heap.get?_push_of_some (h:=g) tbo e1
 have nte:g.objs.size ≠ e:=Nat.ne_of_gt (Heap.lt_size e1)
 have d3:=Obj.data_mapFields gd (·.setIfInBounds 1 (Value.ref g.objs.size))
 have e3:=Heap.get?_update_self (Obj.mapFields (·.setIfInBounds 1 (Value.ref g.objs.size))) e2 (Obj.isFreed_of_fields d3)
 have oth:∀ b o,b ≠ e->g.get? b=some o->((g.push tbo).update e (Obj.mapFields (·.setIfInBounds 1 (Value.ref g.objs.size)))).get? b=some o:=fun b o nb hb=>by
  rw [Heap.get?_update_other _ _ (Ne.symm nb)];exact Heap.get?_push_of_some _ hb
 have nrec:∀ b o,s.heap.get? b=some o->(∀ vs,o.data ≠ .fields vs)->b ≠ e:=fun b o hb hnf z=>by
  rw [z,ge] at hb;cases hb;exact hnf cells gd
 have up:s.heap.UpToSlots ((g.push tbo).update e (Obj.mapFields (·.setIfInBounds 1 (Value.ref g.objs.size)))):=fun b o hb hnf=>by
  obtain ⟨sl,q⟩:=hg.2.2 b o hb
  exact ⟨sl,oth b _ (nrec b o hb hnf) q⟩
 have tbg:((g.push tbo).update e (Obj.mapFields (·.setIfInBounds 1 (Value.ref g.objs.size)))).get? g.objs.size=some tbo:=by
  rw [Heap.get?_update_other _ _ (Ne.symm nte)]
  exact Heap.get?_push_size g (Obj.isFreed_of_fields td)
 refine wpAny_setField e2 gd z1 (k _ ⟨fun b o hb=>oth b o (fun z=>by rw [z,ne] at hb;cases hb) (st1 b o hb),ne,ff.of_keeps fun b o hb hnf=>?_,?_⟩ up)
 ·obtain ⟨sl,q⟩:=up b o hb hnf
  exact ⟨_,q,rfl⟩
 ·exact ⟨_,_,g.objs.size,tbo,tcs,e3,⟨(Obj.cls_mapFields _ _).trans gc.1,(dX _ _).trans gc.2⟩,d3,by rw [Array.getElem?_setIfInBounds_ne (by decide)];exact g2,by simp [z1],st1.fresh,nte,tbg,td,t3⟩
theorem zAA {ob:Obj} {cells:Array Value} (fr:A.frames=some (env :: outer)) (ff:s.heap.FunFrames B (env :: outer)) (ef:env.frame=some L)
  (ge:s.heap.get? e=some ob) (gc:fT ob C dc) (st:B.StaysIn s.heap) (ne:B.get? e=none) (gd:ob.data=.fields cells) (g1:cells[1]?=some .none) (g2:cells[2]?=some .none)
  (k:∀ h',Fly B (env :: outer) e C dc (rawInt L) h'->s.heap.UpToSlots h'->Q () { s with heap:=h' }):wpAny M A (noteFrame (.ref e) env) Q E s:=by
 unfold noteFrame
 simp only [ef]
 refine wpAny_bind (wpAny_field ge gd g1 ?_)
 rw [if_neg (by decide)]
 exact lU fr ff ef ge gc st ne gd g2 k
theorem fB (fr:A.frames=some (env :: outer)) (ef:env.frame=some L) (F:Fly B (env :: outer) e C dc .none s.heap)
  (k:∀ h',Fly B (env :: outer) e C dc (rawInt L) h'->s.heap.UpToSlots h'->Q () { s with heap:=h' }):wpAny M A (noteFrame (.ref e) env) Q E s:=by
 obtain ⟨st,ne,ff,ob,cells,tb,ot,tcs,ge,gc,gd,g2,g1,nb,nte,gt,td,t3⟩:=F
 unfold noteFrame
 simp only [ef]
 refine wpAny_bind (wpAny_field ge gd g1 ?_)
 rw [if_pos (by simp:(Value.ref tb != Value.none)=true)]
 refine wpAny_bind (wpAny_field gt td t3 ?_)
 rw [if_neg (by simp [rawInt]:¬ ((Value.none == rawInt L)=true))]
 refine wpAny_bind (wpAny_setField gt td (Array.getElem?_eq_some_iff.mp t3).1 ?_)
 have oth:∀ b,b ≠ tb->(s.heap.update tb (Obj.mapFields (·.setIfInBounds 3 Value.none))).get? b=s.heap.get? b:=fun b hb=>Heap.get?_update_other _ _ (Ne.symm hb)
 have nrec:∀ b o,s.heap.get? b=some o->(∀ vs,o.data ≠ .fields vs)->b ≠ tb:=fun b o hb hnf z=>by
  rw [z,gt] at hb;cases hb;exact hnf tcs td
 exact lU fr (ff.of_keeps fun b o hb hnf=>⟨o,(oth b (nrec b o hb hnf)).trans hb,rfl⟩) ef ((oth e (Ne.symm nte)).trans ge) gc (fun b o hb=>(oth b fun z=>by rw [z,nb] at hb;cases hb).trans (st b o hb)) ne gd g2
  fun h' F' up=>k h' F' fun b o hb hnf=>up b o ((oth b (nrec b o hb hnf)).trans hb) hnf
theorem qG {l:List Env} {fl:Value} (F:Fly B l e C dc fl s.heap) (k:∀ h',Fly B l e C dc .none h'->s.heap.UpToSlots h'->Q () { s with heap:=h' }):wpAny M A (setFlight (.ref e) none) Q E s:=by
 obtain ⟨st,ne,ff,ob,cells,tb,ot,tcs,ge,gc,gd,g2,g1,nb,nte,gt,td,t3⟩:=F
 have z3:3 < tcs.size:=(Array.getElem?_eq_some_iff.mp t3).1
 have oth:∀ b,b ≠ tb->(s.heap.update tb (Obj.mapFields (·.setIfInBounds 3 ((none:Option Addr).elim Value.none fun f=>rawInt f)))).get? b=s.heap.get? b:=fun b hb=>Heap.get?_update_other _ _ (Ne.symm hb)
 have nrec:∀ b o,s.heap.get? b=some o->(∀ vs,o.data ≠ .fields vs)->b ≠ tb:=fun b o hb hnf z=>by
  rw [z,gt] at hb;cases hb;exact hnf tcs td
 unfold setFlight
 refine wpAny_bind (wpAny_field ge gd g1 ?_)
 rw [if_pos (by simp:(Value.ref tb != Value.none)=true)]
 refine wpAny_setField gt td z3 (k _ ⟨fun b o hb=>(oth b fun z=>by rw [z,nb] at hb;cases hb).trans (st b o hb),ne,ff.of_keeps fun b o hb hnf=>⟨o,(oth b (nrec b o hb hnf)).trans hb,rfl⟩,?_⟩ fun b o hb hnf=>⟨o.slots,(oth b (nrec b o hb hnf)).trans hb⟩)
 exact ⟨ob,cells,tb,_,_,(oth e (Ne.symm nte)).trans ge,gc,gd,g2,g1,nb,nte,Heap.get?_update_self _ gt (Obj.isFreed_of_fields (Obj.data_mapFields td _)),Obj.data_mapFields td _,by simp [z3]⟩
theorem Fly.down {l:List Env} {fl:Value} {h:Heap} (F:Fly B (env :: l) e C dc fl h):Fly B l e C dc fl h:=⟨F.1,F.2.1,F.2.2.1.2.2,F.2.2.2⟩
theorem zAF (fr:A.frames=some (env :: outer)) (ef:env.frame=some L) (F:Fly B (env :: outer) e C dc .none s.heap)
  (k:∀ h',Fly B outer e C dc .none h'->s.heap.UpToSlots h'->Q () { s with heap:=h' }):wpAny M A (leaving env (.ref e)) Q E s:=by
 unfold leaving
 exact wpAny_bind (fB fr ef F fun g F1 u1=>qG F1 fun h' F2 u2=>k h' F2.down (u1.trans u2))
theorem dI {h:Heap} {args:List Value} (fr:A.frames=some (env :: outer)) (ff:h.FunFrames B (env :: outer)) (ef:env.frame=some L) (st:B.StaysIn h) (mk:Heap.MadeExcOf h s.heap e (.ref C) args)
  (k:∀ h',Fly B outer e C none .none h'->s.heap.UpToSlots h'->Q () { s with heap:=h' }):wpAny M A (leaving env (.ref e)) Q E s:=by
 obtain ⟨t,ge,_,_⟩:=mk.there
 have ne:B.get? e=none:=by
  cases q:B.get? e with
  | none=>rfl
  | some o=>have:=st e o q;rw [mk.new] at this;cases this
 unfold leaving
 exact wpAny_bind (zAA fr (ff.of_keeps fun b o hb _=>⟨o,mk.keeps b o hb,rfl⟩) ef ge ⟨rfl,rfl⟩ (fun b o hb=>mk.keeps b o (st b o hb)) ne rfl rfl rfl fun g F1 u1=>qG F1 fun h' F2 u2=>k h' F2.down (u1.trans u2))
end
section
variable {P:Program} {w:World} {H H':Hp} {h h' B:Heap} {a:Addr} {o:HO}
theorem yV.there (x:yV P w H h a o):∃ u,h.get? a=some u:=by
 cases o with
 | lst xs=>obtain ⟨_,_,_,_,q⟩:=x;exact ⟨_,q⟩
 | tup xs=>obtain ⟨_,_,_,⟨u,q,_⟩⟩:=x;exact ⟨u,q⟩
 | dK kvs=>obtain ⟨_,_,_,_,u,_,_,q,_⟩:=x;exact ⟨u,q⟩
 | dT kvs=>obtain ⟨_,_,_,_,u,_,_,q,_⟩:=x;exact ⟨u,q⟩
 | set S n=>obtain ⟨u,_,_,_,q,_⟩:=x;exact ⟨u,q⟩
 | ins C dx fs=>obtain ⟨_,_,_,q,_⟩:=x;exact ⟨_,q⟩
 | own y=>exact x
 | xd fs=>obtain ⟨_,⟨u,_,_,q,_⟩,_⟩:=x;exact ⟨u,q⟩
 | rng lo hi=>obtain ⟨_,_,_,q⟩:=x;exact ⟨_,q⟩
 | frz ob u=>obtain ⟨q,_⟩:=x;exact ⟨_,q⟩
 | tbl ps=>exact ⟨_,(show h.get? a=some _ from x)⟩
 | met f y=>exact ⟨_,(show h.get? a=some _ from x)⟩
 | ext φ=>obtain ⟨_,q,_⟩:=x;exact q
theorem HOk.air (ok:HOk P w H h) (st:B.StaysIn h) (st':B.StaysIn h') (cov:∀ c,H c ≠ none->∃ u,B.get? c=some u):HOk P w H h':=fun b o e=>
 (ok b o e).stay (fun c u hc q=>by
  have hn:H c ≠ none:=by
   rcases hc with z | z
   ·rw [z,e];intro y;cases y
   ·rw [z];intro y;cases y
  obtain ⟨u',qB⟩:=cov c hn
  have:=st c u' qB
  rw [q] at this;cases this
  exact st' c u qB) (fun _ z=>z) fun _ _ z=>z
end
def CXE (P:Program) (w:World):CXT:=fun outer H s E e s'=>∃ (a C:Addr) (dc:Option Addr) (B:Heap) (H':Hp),e=.ref a/\s'.os=s.os/\AllBare s'.gens/\Un (frs outer) [] H H' s.heap s'.heap/\HOk P w H' s'.heap/\Fly B outer a C dc .none s'.heap /\
 (∀ c,H' c ≠ none->∃ u,B.get? c=some u)/\(∀ b o,s.heap.get? b=some o->H b=none->b ∉ frs outer->B.get? b=some o)/\(∀ b o,s.heap.get? b=some o->b ∉ frs outer->∃ o',B.get? b=some o')/\E (.ref C) dc H'
section
variable {P:Program} {w:World} {K:W.Frag} {mg:Str->Option Value} {base:Heap} {N:List Str} {qual:Str} {scope:Scope} {f:Addr} {cd:Value} {A:Around} {outer:List Env} {s0:Shared} {H0:Hp} {E:XK}
theorem zC2 {h:Heap} {bb:Heap} {l:List Env} {b:Addr} {o:Obj} (ff:h.FunFrames bb l) (hb:b ∈ frs l) (q:h.get? b=some o):∀ vs,o.data ≠ .fields vs:=by
 obtain ⟨_,o',q',n⟩:=ff.mem hb
 rw [q] at q';cases q'
 exact n
theorem aB {zp:LAO} {σ:St} {H:Hp} {s:Shared} {h':Heap} {e C:Addr} {args:List Value} (I:Inv (uV (CXE P w) P w K mg base N qual scope f cd A outer s0 H0 E) zp σ H s)
  (mk:Heap.MadeExcOf s.heap h' e (.ref C) args) (hE:E (.ref C) none H):(uV (CXE P w) P w K mg base N qual scope f cd A outer s0 H0 E).xe (.ref e) { s with heap:=h' }:=by
 have nfree:∀ b ∈ frs (envOfC qual scope s0.heap.objs.size f cd :: outer),H b=none:=I.stkFree
 have ff:s.heap.FunFrames base (envOfC qual scope s0.heap.objs.size f cd :: outer):=I.stack
 have inB:∀ b o,s.heap.get? b=some o->b ∉ frs (envOfC qual scope s0.heap.objs.size f cd :: outer)->(W.hideAll s.heap (frs (envOfC qual scope s0.heap.objs.size f cd :: outer))).get? b=some o:=fun b o q n=>W.hideAll_get _ q n
 have st:(W.hideAll s.heap (frs (envOfC qual scope s0.heap.objs.size f cd :: outer))).StaysIn s.heap:=fun b o q=>W.of_hideAll _ q
 have cov:∀ c,H c ≠ none->∃ u,(W.hideAll s.heap (frs (envOfC qual scope s0.heap.objs.size f cd :: outer))).get? c=some u:=fun c hc=>by
  cases q:H c with
  | none=>exact absurd q hc
  | some o=>
   obtain ⟨u,hu⟩:=(I.hok c o q).there
   exact ⟨u,inB c u hu fun z=>hc (nfree c z)⟩
 have old:∀ b o,s0.heap.get? b=some o->b ∉ frs outer->b ∉ frs (envOfC qual scope s0.heap.objs.size f cd :: outer):=fun b o q n z=>by
  rcases List.mem_cons.mp (show b ∈ s0.heap.objs.size :: frs outer from z) with y | y
  ·exact Nat.lt_irrefl _ (Nat.lt_of_lt_of_eq (Heap.lt_size q) y.symm)
  ·exact n y
 refine dI (B:=W.hideAll s.heap (frs (envOfC qual scope s0.heap.objs.size f cd :: outer))) (h:=s.heap) I.ok.frames (W.funFrames_hide ff fun env he a ha=>List.mem_filterMap.mpr ⟨env,he,ha⟩) rfl st mk fun h2 F up=>?_
 have cov2:∀ b o,s0.heap.get? b=some o->H0 b=none->b ∉ frs outer->(W.hideAll s.heap (frs (envOfC qual scope s0.heap.objs.size f cd :: outer))).get? b=some o:=fun b o q n nb=>
  inB b o (I.base.keep b o q n nb (show b ∉ ([]:List Addr) by simp)) (old b o q nb)
 have cov3:∀ b o,s0.heap.get? b=some o->b ∉ frs outer->∃ o',(W.hideAll s.heap (frs (envOfC qual scope s0.heap.objs.size f cd :: outer))).get? b=some o':=fun b o q nb=>by
  obtain ⟨o',q'⟩:=I.base.there b o q (show b ∉ ([]:List Addr) by simp)
  exact ⟨o',inB b o' q' (old b o q nb)⟩
 have upf:∀ b o,b ∈ frs outer->s.heap.get? b=some o->∃ sl,h2.get? b=some { o with slots:=sl }:=fun b o hb q=>up b o (mk.keeps b o q) (zC2 ff (zKJ _ hb) q)
 refine ⟨e,C,none,_,H,rfl,I.os,I.bare,⟨fun b o q n nb _=>F.1 b o (cov2 b o q n nb),fun b o q n hb nx=>?_,fun b o q n nx=>I.base.free b o q n nx,fun b o q nx=>?_,I.base.tups,I.base.frzs,I.base.tbls⟩,I.hok.air st F.1 cov,F,cov,cov2,cov3,hE⟩
 ·obtain ⟨sl,q1⟩:=I.base.slot b o q n hb nx
  obtain ⟨sl2,q2⟩:=upf b _ hb q1
  exact ⟨sl2,q2⟩
 ·by_cases hb:b ∈ frs outer
  ·obtain ⟨o',q1⟩:=I.base.there b o q nx
   obtain ⟨sl2,q2⟩:=upf b _ hb q1
   exact ⟨_,q2⟩
  ·obtain ⟨o',q1⟩:=cov3 b o q hb
   exact ⟨o',F.1 b o' q1⟩
theorem gZ:vK (CXE P w) (uV (CXE P w) P w K mg base N qual scope f cd A outer s0 H0 E) E:=by
 rintro zp σ H s e s' I ⟨a,C,dc,B,H',rfl,os,bare,u,hok,F,cov,cov2,cov3,hE⟩
 have old:∀ b o,s0.heap.get? b=some o->b ∉ frs outer->b ∉ frs (envOfC qual scope s0.heap.objs.size f cd :: outer):=fun b o q n z=>by
  rcases List.mem_cons.mp (show b ∈ s0.heap.objs.size :: frs outer from z) with y | y
  ·exact Nat.lt_irrefl _ (Nat.lt_of_lt_of_eq (Heap.lt_size q) y.symm)
  ·exact n y
 have nex:∀ b:Addr,b ∉ (uV (CXE P w) P w K mg base N qual scope f cd A outer s0 H0 E).ex:=fun b=>(show b ∉ ([]:List Addr) by simp)
 refine zAF (C:=C) (B:=B) I.ok.frames rfl F fun h2 F2 up=>?_
 have cov2':∀ b o,s0.heap.get? b=some o->H0 b=none->b ∉ frs outer->B.get? b=some o:=fun b o q n nb=>
  cov2 b o (I.base.keep b o q n nb (nex b)) (I.base.free b o q n (nex b)) (old b o q nb)
 have cov3':∀ b o,s0.heap.get? b=some o->b ∉ frs outer->∃ o',B.get? b=some o':=fun b o q nb=>by
  obtain ⟨o',q'⟩:=I.base.there b o q (nex b)
  exact cov3 b o' q' (old b o q nb)
 have upf:∀ b o,b ∈ frs outer->s'.heap.get? b=some o->∃ sl,h2.get? b=some { o with slots:=sl }:=fun b o hb q=>up b o q (zC2 F.2.2.1 (zKJ _ hb) q)
 refine ⟨a,C,dc,B,H',rfl,os.trans I.os,bare,⟨fun b o q n nb _=>F2.1 b o (cov2' b o q n nb),fun b o q n hb nx=>?_,fun b o q n nx=>?_,fun b o q nx=>?_,fun b xs q=>u.tups b xs (I.base.tups b xs q),fun b o v q=>u.frzs b o v (I.base.frzs b o v q),fun b ps q=>?_⟩,hok.air F.1 F2.1 cov,F2,cov,cov2',cov3',hE⟩
 ·obtain ⟨sl,q1⟩:=I.base.slot b o q n hb (nex b)
  obtain ⟨sl1,q2⟩:=u.slot b _ q1 (I.base.free b o q n (nex b)) (zKJ _ hb) (by simp)
  obtain ⟨sl2,q3⟩:=upf b _ hb q2
  exact ⟨sl2,q3⟩
 ·obtain ⟨o',q1⟩:=I.base.there b o q (nex b)
  exact u.free b o' q1 (I.base.free b o q n (nex b)) (by simp)
 ·by_cases hb:b ∈ frs outer
  ·obtain ⟨o',q1⟩:=I.base.there b o q (nex b)
   obtain ⟨o2,q2⟩:=u.there b o' q1 (by simp)
   obtain ⟨sl2,q3⟩:=upf b _ hb q2
   exact ⟨_,q3⟩
  ·obtain ⟨o',q1⟩:=cov3' b o q hb
   exact ⟨o',F2.1 b o' q1⟩
 ·obtain ⟨m1,q1⟩:=I.base.tbls b ps q
  obtain ⟨m2,q2⟩:=u.tbls b _ q1
  exact ⟨m1 ++ m2,by rw [q2,Array.append_assoc]⟩
end
abbrev zDS:List Value:=[.type "ValueError",.type "Exception",.type "BaseException",.type "object"]
structure zBP (K:W.Frag) (mg:Str->Option Value) (x:Str) (C:Addr):Prop where
 at_:mg x=some (.ref C)
 ok:W.excIn K C zDS "ValueError.__new__"=true
theorem zDG {K:W.Frag} {h:Heap} {C:Addr} {bmB:List Value} {newId:String} (X:K.In h) (q:W.excIn K C bmB newId=true) :
  ∃ bm N nm qn bs hdct sn sub ab col dd k0 k1 k2 k3 k5,∃ mN:Str->Option Value,h.get? C=some (excClassObj nm qn C N bs bm hdct sn sub ab col dd k0 k1 k2 k3 k5 newId)/\h.Ns N mN/\mN "__init__"=none/\OwnTail h bmB bm:=by
 unfold W.excIn at q
 split at q
 ·rename_i dd cd sl hk
  split at q
  ·rename_i C' bm k0 k1 k2 k3 n k5 e1 e2
   simp only [Bool.and_eq_true,beq_iff_eq,Bool.not_eq_true'] at q
   obtain ⟨⟨⟨⟨⟨r1,r2⟩,r3⟩,r4⟩,r5⟩,r6⟩:=q
   subst r1 r2
   cases cd with
   | mk nm bs mro ns qn hdc sn sub ab col del=>
    dsimp only at e1 r3 r5 r6
    subst e1 r3
    have esl:sl = #[k0,k1,k2,k3,some (.builtin n),k5]:=by
     cases sl with
     | mk l=>
      dsimp only at e2
      rw [e2]
    subst esl
    exact ⟨bm,ns,nm,qn,bs,hdc,sn,sub,ab,col,dd,k0,k1,k2,k3,k5,_,X _ _ hk,.of_isNs (W.isNs_of_in X r5),W.nsMap_none_of_in X r5 r6,W.tail_of_in X r4⟩
  ·cases q
 ·cases q
structure fR (X:Cx) (E:XK):Prop where
 hd:X.A.handled=none
 out:∀ (zp:LAO) (σ:St) (H:Hp) (s:Shared) (h':Heap) (e C:Addr) (args:List Value),Inv X zp σ H s->Heap.MadeExcOf s.heap h' e (.ref C) args->E (.ref C) none H->X.xe (.ref e) { s with heap:=h' }
def zE4 (E:XK) (C:Addr):TS:=fun _ _ H=>E (.ref C) none H
section
variable {X:Cx} {E:XK} {x:Str} {C:Addr}
theorem lJ {z:Str} {j np cp cpos pos} (R:fR X E) (c:zBP X.K X.mg x C) (hg:Gl X x:=by rfl) (hd:(x == ("__debug__" : Str))=false:=by decide) :
  PS X (.Raise (some (.Call (.Name x np) [.Constant (.str z) j cp] [] cpos)) none pos) (zE4 E C):=by
 intro zp s σ H D I h
 obtain ⟨bm,N,nm,qn,bs,hdct,sn,sub,ab,col,dd,k0,k1,k2,k3,k5,mN,hC,hN,hni,T⟩:=zDG I.ok.mod.kin c.ok
 refine wpAny_Raise_call_subT (C:=C) (nm:=nm) (q:=qn) (N:=N) (bs:=bs) (bm:=bm) (hdct:=hdct) (sn:=sn) (sub:=sub) (ab:=ab) (col:=col) (dd:=dd) (k0:=k0) (k1:=k1) (k2:=k2) (k3:=k3) (k5:=k5)
  F.excBase_ValueError (mN:=mN) (T.hasType F.excBase_ValueError.hasBase) R.hd rfl hni (tE I hg c.at_ ⟨rfl,?_⟩ hd)
 refine Calls.evalArgs_plain (thn ((zA xD zD) cpos zp s σ H (fun vs H1=>vs=[.str z]/\H1=H) I ⟨rfl,rfl⟩) fun us s1 hz62=>?_)
 obtain ⟨vs,H1,I1,r,e1,e2⟩:=hz62
 subst e1 e2
 obtain ⟨u,rfl,_⟩:=r.one
 exact ⟨rfl,by show 1 <= sizeLine;decide,I1.bk _ _ hC,hN.keeps I1.bk,T.keeps I1.bk,fun h' e mk=>R.out zp σ _ s1 h' e C _ I1 mk h⟩
end
section
variable {P:Program} {w:World} {K:W.Frag} {mg:Str->Option Value} {base:Heap}
theorem qT {N:List Str} {qual:Str} {scope:Scope} {f:Addr} {cd:Value} {A:Around} {outer:List Env} {s0:Shared} {H0:Hp} {E:XK} {k:Nat} (hr:zO k (A.deeper (envOfC qual scope s0.heap.objs.size f cd))) :
  fR (uV (CXE P w) P w K mg base N qual scope f cd A outer s0 H0 E) E:=⟨hr.hd,fun _ _ _ _ _ _ _ _ I mk hE=>aB I mk hE⟩
theorem Fun.okX {x qual:Str} {st:Stmt} {f:Addr} {fd:FuncData} {N ps:List Str} {k:Nat} {sp:Sp} (F:Fun K x qual st f fd) (S:zI N ps (zE st)) (len:∀ vs H Q E,sp vs H Q E->vs.length=ps.length)
  (hbody:∀ (cdv:Value) (A:Around) (outer:List Env) (s:Shared) (H:Hp) (vs:List V) (Q:VK) (E:XK),zO k (A.deeper (envOfC qual (zE st) s.heap.objs.size f cdv))->sp vs H Q E ->
   ∃ t,PSs (uV (CXE P w) P w K mg base N qual (zE st) f cdv A outer s H E) (yU st) t/\t { nx:=fun _ H'=>Q .non H',rt:=Q } (start N vs) H):vZ P w K mg base (CXE P w) (k + 1) f fd ps sp:=by
 obtain ⟨oc,od,kV,doc,pm,an,cdv,ct,osl,rfl,lk,hcd⟩:=F.ex
 exact zEO lk hcd S len fun A outer s H vs Q E hr hsp=>hbody cdv A outer s H vs Q E hr hsp
theorem yB.okX {x:Str} {st:Stmt} {N ps:List Str} {k:Nat} {sp:Sp} (G:yB K mg x st ps) (S:zI N ps (zE st)) (len:∀ vs H Q E,sp vs H Q E->vs.length=ps.length)
  (hbody:∀ (f:Addr) (cdv:Value) (A:Around) (outer:List Env) (s:Shared) (H:Hp) (vs:List V) (Q:VK) (E:XK),zO k (A.deeper (envOfC x (zE st) s.heap.objs.size f cdv))->sp vs H Q E ->
   ∃ t,PSs (uV (CXE P w) P w K mg base N x (zE st) f cdv A outer s H E) (yU st) t/\t { nx:=fun _ H'=>Q .non H',rt:=Q } (start N vs) H):Cal P w K mg base (CXE P w) (k + 1) x ps sp:=by
 obtain ⟨f,fd,F,hm,hb⟩:=G.ex
 exact ⟨f,fd,F.okX S len fun cdv A outer s H vs Q E hr h=>hbody f cdv A outer s H vs Q E hr h,hm,F.kp,hb⟩
theorem yI.okX {C:Addr} {m qual:Str} {st:Stmt} {N ps:List Str} {k:Nat} {sp:Sp} (G:yI K C m qual st ps) (S:zI N ps (zE st)) (len:∀ vs H Q E,sp vs H Q E->vs.length=ps.length)
  (hbody:∀ (f:Addr) (cdv:Value) (A:Around) (outer:List Env) (s:Shared) (H:Hp) (vs:List V) (Q:VK) (E:XK),zO k (A.deeper (envOfC qual (zE st) s.heap.objs.size f cdv))->sp vs H Q E ->
   ∃ t,PSs (uV (CXE P w) P w K mg base N qual (zE st) f cdv A outer s H E) (yU st) t/\t { nx:=fun _ H'=>Q .non H',rt:=Q } (start N vs) H):z8 P w K mg base (CXE P w) (k + 1) C m ps sp:=by
 obtain ⟨f,fd,F,hm,hb⟩:=G.ex
 exact ⟨f,fd,F.okX S len fun cdv A outer s H vs Q E hr h=>hbody f cdv A outer s H vs Q E hr h,hm,hb⟩
end
section
variable {X:Cx} {k:Nat} {C:Addr} {ps:List Str} {sp:Sp} {E:XK} {x m:Str} {p pos apos:Pos} {o e:Expr} {es:List Expr} {ta:TE} {t:TA}
theorem zCO (D:Cal X.prog X.w X.K X.mg X.base (CXE X.prog X.w) k x ps sp) (hx:vK (CXE X.prog X.w) X E) (hr:zO k X.A) (ha:PA X (e :: es) t) (hg:Gl X x:=by rfl)
  (hdb:(x == ("__debug__" : Str))=false:=by decide) (he:starEach (e :: es) X.env=(false,eval e X.env) :: starEach es X.env:=by rfl) (hpl:(backTo pos (starEach es X.env)).any (·.1)=false:=by rfl) :
  PE X (.Call (.Name x p) (e :: es) [] pos) (h9 sp [] E t):=
 let ⟨_,_,F,hm,hk,hb⟩:=D.ex
 gY F hr hg hm hk hb .nil hx ha hdb he hpl
theorem zCJ {pl:Sem Bool} (D:z8 X.prog X.w X.K X.mg X.base (CXE X.prog X.w) k C m ps sp) (hx:vK (CXE X.prog X.w) X E) (c:Cls X.K C) (hr:zO k X.A) (ho:PE X o ta) (ha:PA X (e :: es) t)
  (hst:starEach (e :: es) X.env=(false,eval e X.env) :: starEach es X.env:=by rfl) (hpl:(backTo pos (starEach es X.env)).any (·.1)=false:=by rfl)
  (ht:eval (.Call (.Attribute o m apos) (e :: es) [] pos) X.env=(do
   let ov <- eval o X.env
   standAt apos.atName
   let (f,first) <- holding [ov] (getMethod ov m pl)
   callWith pos f first (backTo pos (starEach (e :: es) X.env)) (backToKw pos (keywordEach [] X.env))):=by rfl) :
  PE X (.Call (.Attribute o m apos) (e :: es) [] pos) (m5 C m sp [] E ta t):=
 let ⟨_,_,F,hm,hb⟩:=D.ex
 gU ho c hm F hr hb .nil hx ha hst hpl ht
theorem zFW (D:uG X.prog X.w X.K X.mg X.base (CXE X.prog X.w) k C x ps sp) (hx:vK (CXE X.prog X.w) X E) (hr:zO (k + 1) X.A) (ha:PA X (e :: es) t) (hg:Gl X x:=by rfl)
  (hdb:(x == ("__debug__" : Str))=false:=by decide) (he:starEach (e :: es) X.env=(false,eval e X.env) :: starEach es X.env:=by rfl) (hpl:(backTo pos (starEach es X.env)).any (·.1)=false:=by rfl) :
  PE X (.Call (.Name x p) (e :: es) [] pos) (cU C sp [] E t):=
 let ⟨_,_,F,M',hm,hb⟩:=D.ex
 gW M' F hr hg hm hb .nil hx ha hdb he hpl
end
def fM (C a:Addr) (dc:Option Addr):Heap->Prop:=fun h=>∃ (ob:Obj) (cells:Array Value),h.get? a=some ob/\fT ob C dc/\ob.data=.fields cells/\cells[2]?=some .none
abbrev excP (C a:Addr):Heap->Prop:=fM C a none
abbrev zGX (C a:Addr) (dc:Option Addr):HO:=.ext (fM C a dc)
abbrev iW (C a:Addr):HO:=.ext (fM C a none)
abbrev XB (X:Cx) (pn':LAO) (xe':VSP):Cx:={ X with pn:=pn',xe:=xe' }
abbrev XH (X:Cx) (pn':LAO) (a:Addr):Cx:={ X with pn:=pn',A:=X.A.mark (some (.ref a)),calm:=false,xe:=fun _ _=>False }
section
variable {X:Cx} {zp:LAO} {σ:St} {H:Hp} {s:Shared}
theorem Inv.toB (I:Inv X zp σ H s) (xe':VSP):Inv (XB X (X.pn ++ zp) xe') [] σ H s:=
 ⟨⟨I.ok.mod,I.ok.kind,I.ok.glob,I.ok.blt,I.ok.above,I.ok.inj,I.ok.has,I.ok.cab,I.ok.hd,I.ok.frames,I.ok.stk,I.ok.exf,I.ok.bs,I.ok.bsz,I.ok.noex,I.ok.exfs,I.ok.funs,I.ok.frf⟩,
  I.os,I.bare,I.base,I.loc,I.cell,I.free,I.freeC,fun p hp=>I.pin p (by simpa using hp),I.hok,I.len⟩
theorem Inv.ofB {pins':LAO} {xe':VSP} (I:Inv (XB X (X.pn ++ zp) xe') pins' σ H s):Inv X zp σ H s:=
 ⟨⟨I.ok.mod,I.ok.kind,I.ok.glob,I.ok.blt,I.ok.above,I.ok.inj,I.ok.has,I.ok.cab,I.ok.hd,I.ok.frames,I.ok.stk,I.ok.exf,I.ok.bs,I.ok.bsz,I.ok.noex,I.ok.exfs,I.ok.funs,I.ok.frf⟩,
  I.os,I.bare,I.base,I.loc,I.cell,I.free,I.freeC,fun p hp=>I.pin p (List.mem_append_left _ hp),I.hok,I.len⟩
theorem Inv.toH (I:Inv X zp σ H s) (a:Addr):Inv (XH X (X.pn ++ zp) a) [] σ H s:=
 ⟨⟨I.ok.mod,I.ok.kind,I.ok.glob,I.ok.blt,I.ok.above,I.ok.inj,I.ok.has,I.ok.cab,(fun z=>by cases z),I.ok.frames,I.ok.stk,I.ok.exf,I.ok.bs,I.ok.bsz,I.ok.noex,I.ok.exfs,I.ok.funs,I.ok.frf⟩,
  I.os,I.bare,I.base,I.loc,I.cell,I.free,I.freeC,fun p hp=>I.pin p (by simpa using hp),I.hok,I.len⟩
theorem Inv.ofH {a:Addr} {pins':LAO} {σ0:St} {H0:Hp} {s0:Shared} (I0:Inv X zp σ0 H0 s0) (I:Inv (XH X (X.pn ++ zp) a) pins' σ H s):Inv X zp σ H s:=
 ⟨I0.ok,I.os,I.bare,I.base,I.loc,I.cell,I.free,I.freeC,fun p hp=>I.pin p (List.mem_append_left _ hp),I.hok,I.len⟩
theorem Inv.lose {h':Heap} {m':Str->Option Value} (I:Inv X zp σ H s) (sb:Heap.SameBut X.env.locals s.heap h') (hn:h'.Ns X.env.locals m'):Inv X zp (List.replicate X.N.length none) H { s with heap:=h' }:=by
 have same:∀ b,b ≠ X.env.locals->h'.get? b=s.heap.get? b:=fun b hb=>sb.2 b hb
 have neL:∀ b o,X.s₀.heap.get? b=some o->b ≠ X.env.locals:=fun b o q=>zKX (zKS (Heap.lt_size q) I.ok.above)
 refine ⟨I.ok,I.os,I.bare,⟨fun b o q n nb nx=>(same b (neL b o q)).trans (I.base.keep b o q n nb nx),fun b o q n hb nx=>?_,I.base.free,fun b o q nx=>?_,I.base.tups,I.base.frzs,I.base.tbls⟩,⟨m',hn,fun i x v e1 e2 _=>?_⟩,fun x c e=>?_,I.free,I.freeC,fun p hp=>?_,fun b o q=>?_,by simp⟩
 ·obtain ⟨sl,z⟩:=I.base.slot b o q n hb nx
  exact ⟨sl,(same b (neL b o q)).trans z⟩
 ·obtain ⟨o',z⟩:=I.base.there b o q nx
  exact ⟨o',(same b (neL b o q)).trans z⟩
 ·rw [List.getElem?_replicate] at e2
  split at e2 <;> cases e2
 ·obtain ⟨v,o,q,d⟩:=I.cell x c e
  exact ⟨v,o,(same c (I.cne x c e)).trans q,d⟩
 ·obtain ⟨e,n,ne,nf,d⟩:=I.pin p hp
  exact ⟨(same _ ne).trans e,n,ne,nf,d⟩
 ·refine (I.hok b o q).stay (fun c u hc z=>(same c fun y=>?_).trans z) (fun _ z=>z) fun _ _ z=>z
  have f0:=I.free
  rcases hc with r | r
  ·rw [<- r,y,f0] at q;cases q
  ·rw [y,f0] at r;cases r
end
theorem Inv.caught {X:Cx} {zp:LAO} {σ:St} {H H':Hp} {s s1:Shared} {a C:Addr} {dc:Option Addr} {B h4:Heap} (I:Inv X zp σ H s) (os:s1.os=s.os) (bare:AllBare s1.gens) (u:Un (frs X.stack) [] H H' s.heap s1.heap)
  (hok:HOk X.prog X.w H' s1.heap) (F:Fly B X.stack a C dc .none s1.heap) (cov:∀ c,H' c ≠ none->∃ v,B.get? c=some v) (cov2:∀ b o,s.heap.get? b=some o->H b=none->b ∉ frs X.stack->B.get? b=some o)
  (cov3:∀ b o,s.heap.get? b=some o->b ∉ frs X.stack->∃ o',B.get? b=some o') (F4:Fly B X.stack a C dc .none h4) (up:s1.heap.UpToSlots h4) :
  H' a=none/\Inv X zp σ (upd H' a (zGX C a dc)) { s1 with heap:=h4 }:=by
 have ha:H' a=none:=by
  cases q:H' a with
  | none=>rfl
  | some o=>
   obtain ⟨v,hv⟩:=cov a (by rw [q];intro z;cases z)
   rw [F.2.1] at hv;cases hv
 have nfr:a ∉ frs X.stack:=fun z=>by
  obtain ⟨ob,cells,tb,ot,tcs,q1,_,q2,_⟩:=F.2.2.2
  exact zC2 F.2.2.1 z q1 cells q2
 have new:∀ b o,s.heap.get? b=some o->b ≠ a:=fun b o q z=>by
  subst z
  obtain ⟨o',q'⟩:=cov3 b o q nfr
  rw [F.2.1] at q';cases q'
 have ne:∀ b o,H' b=some o->b ≠ a:=fun b o q z=>by rw [z,ha] at q;cases q
 have upf:∀ b o,b ∈ frs X.stack->s1.heap.get? b=some o->∃ sl,h4.get? b=some { o with slots:=sl }:=fun b o hb q=>up b o q (zC2 F.2.2.1 hb q)
 refine ⟨ha,I.call' (s':={ s1 with heap:=h4 }) (ch:=[]) os ⟨fun b o q n nb _=>F4.1 b o (cov2 b o q n nb),fun b o q n hb nx=>?_,fun b o q n nx=>?_,fun b o q nx=>?_,fun b xs q=>?_,fun b o v q=>?_,fun b ps q=>?_⟩ (fun b o q=>?_) bare fun b hb=>absurd hb zK0⟩
 ·obtain ⟨sl,q1⟩:=u.slot b o q n hb nx
  obtain ⟨sl2,q2⟩:=upf b _ hb q1
  exact ⟨sl2,q2⟩
 ·rw [zJ (new b o q)];exact u.free b o q n nx
 ·by_cases hb:b ∈ frs X.stack
  ·obtain ⟨o',q1⟩:=u.there b o q nx
   obtain ⟨sl2,q2⟩:=upf b _ hb q1
   exact ⟨_,q2⟩
  ·obtain ⟨o',q1⟩:=cov3 b o q hb
   exact ⟨o',F4.1 b o' q1⟩
 ·have q1:=u.tups b xs q
  rw [zJ (ne b _ q1)];exact q1
 ·have q1:=u.frzs b o v q
  rw [zJ (ne b _ q1)];exact q1
 ·obtain ⟨more,q1⟩:=u.tbls b ps q
  exact ⟨more,by rw [zJ (ne b _ q1)];exact q1⟩
 ·by_cases hb:b=a
  ·subst hb
   rw [zB] at q
   cases q
   obtain ⟨ob,cells,tb,ot,tcs,q1,q2,q3,q4,_⟩:=F4.2.2.2
   refine ⟨⟨ob,cells,q1,q2,q3,q4⟩,⟨ob,q1⟩,fun h1 h2 ⟨o1,c1,r1,r2,r3,r4⟩ k=>⟨o1,c1,k o1 r1,r2,r3,r4⟩⟩
  ·rw [zJ hb] at q
   have z:=(hok.air F.1 F4.1 cov) b o q
   exact z.stay (fun c v _ z=>z) (fun c z=>by rw [zJ (ne c _ z)];exact z) fun c xs z=>by rw [zJ (ne c _ z)];exact z
def tTry (Nn:Nat) (ci:Addr->Prop) (n:Nat) (tb:XK->TS) (th:Addr->TS):TS:=fun D σ H=>
 tb (fun cls dc H'=>∃ C,cls=.ref C/\ci C/\∀ (a:Addr) (σ':St),σ'.length=Nn->H' a=none->th a { nx:=fun _ _=>False,rt:=D.rt } (σ'.set n (some (.ref a))) (upd H' a (zGX C a dc))) D σ H
theorem zFS {X:Cx} {body:List Stmt} {b0:Stmt} {suite:List Stmt} {T n:Str} {tp hp pos:Pos} {i:Nat} {DC:Addr} {tb:XK->TS} {th:Addr->TS}
  (hm:X.mg T=some (.ref DC)) (hN:X.N.Nodup) (hi:X.N[i]?=some n) (hl:X.env.kindOf n=some .local)
  (hb:∀ (pn':LAO) (xe':VSP) (E1:XK),vK (CXE X.prog X.w) (XB X pn' xe') E1->PSs (XB X pn' xe') body (tb E1))
  (hh:∀ (pn':LAO) (a:Addr),PSs (XH X pn' a) (b0 :: suite) (th a)) (hg:Gl X T:=by rfl) (hstk:X.stack=X.env :: X.outer:=by rfl) (hfr:X.env.frame=some X.env.locals:=by rfl) (hk:X.env.scope.kind=.function:=by rfl) (hd:(T == ("__debug__" : Str))=false:=by decide) :
  PS X (.Try body [.ExceptHandler (some (.Name T tp)) (some n) (b0 :: suite) hp] [] [] pos) (tTry X.N.length (fun C=>W.exmOne X.K (.ref C) (.ref DC)=some true) i tb th):=by
 intro zp s0 σ0 H0 D I0 h0
 refine wpAny_Try_except ?_
 have I1:=I0.toB (fun e s1=>∃ σ H s,Inv X zp σ H s/\CXE X.prog X.w X.stack H s (fun cls dc H'=>∃ C,cls=.ref C/\W.exmOne X.K (.ref C) (.ref DC)=some true/\∀ (a:Addr) (σ':St),σ'.length=X.N.length->H' a=none->th a { nx:=fun _ _=>False,rt:=D.rt } (σ'.set i (some (.ref a))) (upd H' a (zGX C a dc))) e s1)
 have run:=hb _ _ _ (fun pins' σ H s e s' I z=>⟨σ,H,s,I.ofB,z⟩) [] s0 σ0 H0 D I1 h0
 refine wpAny_mono run (fun f s1 hs=>?_) fun e s1 hs=>?_
 ·cases f with
  | next=>
   obtain ⟨σ',H',I',q⟩:=hs
   exact wpAny_execs_nil ⟨σ',H',I'.ofB,q⟩
  | brk=>obtain ⟨σ',H',I',q⟩:=hs;exact ⟨σ',H',I'.ofB,q⟩
  | cont=>obtain ⟨σ',H',I',q⟩:=hs;exact ⟨σ',H',I'.ofB,q⟩
  | ret v=>obtain ⟨x,σ',H',I',r,q⟩:=hs;exact ⟨x,σ',H',I'.ofB,r,q⟩
 ·obtain ⟨σ,H,s,I,a,C,dc,B,H',rfl,os,bare,u,hok,F,cov,cov2,cov3,C',eC,hex,hth⟩:=hs
  cases eC
  have Fs:=F
  rw [hstk] at Fs
  refine fB (by rw [I.ok.frames,hstk]) hfr Fs fun h2 F2 u2=>?_
  refine qG F2 fun h3 F3 u3=>?_
  have F3':Fly B X.stack a C dc .none h3:=by rw [hstk];exact F3
  obtain ⟨ha,I3⟩:=I.caught os bare u hok F cov cov2 cov3 F3' (u2.trans u3)
  obtain ⟨ob,cells,tb',ot,tcs,ge,gc,_⟩:=id F3.2.2.2
  have LT:W.Looks (model X.prog X.w) h3 (typeOf (.ref a)) (.ref C):=by
   have z:W.Looks (model X.prog X.w) h3 (typeOf (.ref a)) ob.cls:=(W.Looks.ld ge).andThen .now
   rw [gc.1] at z;exact z
  refine wpAny_handleBy_cons (codeAny_handlers_test ?_) (by intro z;cases z)
  refine tE (I3.toH a) (show Gl (XH X (X.pn ++ zp) a) T from hg) hm ?_ hd
  refine W.exm_one (M:=model X.prog X.w) I3.kIn LT hex _ _ _ _ (fun _ _ z=>z) ?_
  refine codeAny_handlers_suite_as ?_
  refine qG F3 fun h4 F4 u4=>?_
  have F4':Fly B X.stack a C dc .none h4:=by rw [hstk];exact F4
  obtain ⟨_,I4⟩:=I.caught os bare u hok F cov cov2 cov3 F4' ((u2.trans u3).trans u4)
  refine tZ I4 hN hi (.inl hl) (v:=.ref a) rfl (fun s5 I5=>?_) (.inr hl)
  refine wpAny_mono (hh (X.pn ++ zp) a [] s5 _ _ _ (I5.toH a) (hth a σ I.len ha)) (fun f s6 hs6=>?_) fun _ _ z=>z.elim
  cases f with
  | next=>obtain ⟨_,_,_,z⟩:=hs6;exact z.elim
  | brk=>obtain ⟨_,_,_,z⟩:=hs6;exact z.elim
  | cont=>obtain ⟨_,_,_,z⟩:=hs6;exact z.elim
  | ret v=>
   obtain ⟨x6,σ6,H6,I6,r6,q6⟩:=hs6
   have I6':Inv X zp σ6 H6 s6:=I4.ofH I6
   refine wpAny_bind (wpAny_bindName (tZ I6' hN hi (.inl hl) (v:=.non) rfl (fun s7 I7=>?_) (.inr hl)))
   unfold unbindBehindTheSuite
   obtain ⟨m,hn,hlk⟩:=id I7.loc
   have hi':(σ6.set i (some V.non))[i]?=some (some V.non):=by
    rw [zK3]
    rw [I6'.len];exact (zJ8.mp hi).1
   obtain ⟨v7,_,lk⟩:=hlk i n .non hi hi' (.inl hl)
   have hv:m n=some v7:=by
    rcases lk with ⟨_,z⟩ | ⟨z,_⟩
    ·exact z
    ·rcases z with z | z <;> (rw [hl] at z;cases z)
   refine wpAny_onRaise (wpAny_unbindName_local hl hn hv (by rw [hk];rfl) fun h8 w8 hn8 sb8=>?_)
   exact ⟨x6,_,H6,I7.lose sb8 hn8,r6,q6⟩
end L2
namespace L2
open PySem PySem.Spec PyProof.Rows PySem.W
structure pY (K:Frag) (C:Addr):Prop where
 ga:findIn K (.ref C) "__getattribute__"=some (some (.builtin "BaseException.__getattribute__"))
 gt:findIn K (.ref C) "__getattr__"=some none
 ca:findIn K (.ref C) "__class__"=some (some (.builtin "object.__class__"))
 sg:specialIn K (.builtin "object.__class__") "__get__"=some (some (.builtin "getset_descriptor.__get__"))
 tk:takesIn K (.builtin "object.__class__")=some true
 mo:mroIn K C (.type "object")=some true
 hd:hasDictIn K C=true
 be:subIn K (.ref C) (.type "BaseException")=some true
section
variable {prog:Program} {w:World} {A:Around} {E:VSP} {K:Frag} {x C:Addr} {ox:Obj} {od:Option Obj} {h:Heap} {g:Array GenState} {d:Drawn} {t:Nat} {os:OsState}
theorem zAU (k:pY K C):findObj K C od "__class__"=some (.bind (.builtin "getset_descriptor.__get__") (.builtin "object.__class__")):=by
 obtain ⟨cd,hc,_⟩:=any_some k.hd
 unfold findObj
 rw [hc,Option.bind_some,k.ca,Option.bind_some]
 simp [k.sg,k.tk]
theorem rX {tok:Tok} {Q:Fin->Shared->Prop} (k:pY K C) (X:K.In h) (I:InstAt h x ox C od) (hq:Q (.done (.ret (.ref C))) ⟨h,g,d,t,os⟩) :
  wpAny (model prog w) A (Builtin.«object.__getattribute__» ⟨[.ref x,.str "__class__" tok],[]⟩) Q E ⟨h,g,d,t,os⟩:=by
 have L0:=I.type (M:=model prog w)
 have L1:=looks_find (M:=model prog w) X I (zAU k)
 unfold Builtin.«object.__getattribute__»
 repeat (any_goals (first | assumption | with_reducible refine L0.at ?_ | with_reducible refine L1.at ?_ | wp_step))
 exact class_get (s:=⟨h,g,d,t,os⟩) X I k.mo (wpAny_pure hq)
theorem mL {M:Model} {uJ:Value} {Q:Unit->Shared->Prop} (k:pY K C) (X:K.In h) (I:InstAt h x ox C od) (hq:Q () ⟨h,g,d,t,os⟩) :
  wpAny M A (checkBuiltinCall "BaseException.__getattribute__" ⟨[.ref x,uJ],[]⟩) Q E ⟨h,g,d,t,os⟩:=by
 have kd:builtinKind "BaseException.__getattribute__"=some .slot:=by decide +kernel
 have sp:splitId "BaseException.__getattribute__"=some ("BaseException","__getattribute__"):=by decide +kernel
 have LI:Looks M h (isInstance (.ref x) (.type "BaseException")) true:=(I.type (M:=M)).andThen (looks_subIn X k.be)
 have ar:=F.args_bexc_ga (.ref x) uJ
 simp only [checkBuiltinCall,kd,sp]
 refine wpAny_bind (LI.at ?_)
 repeat (any_goals (first | assumption | wp_step))
theorem pM {tok:Tok} {R:Result->Shared->Prop} (k:pY K C) (X:K.In h) (I:InstAt h x ox C od) (hq:R (.ok (.ret (.ref C))) ⟨h,g,d,t,os⟩) :
  codeAny (model prog w) A (.call (.builtin "BaseException.__getattribute__") ⟨[.ref x,.str "__class__" tok],[]⟩) R ⟨h,g,d,t,os⟩:=
 codeAny_call_builtin F.attrBase_ValueError.ga.plain F.entry_bexc_ga (mL k X I (rX k X I hq))
theorem mK {tok:Tok} {Q:VSP} (k:pY K C) (X:K.In h) (I:InstAt h x ox C od) (hq:Q (.ref C) ⟨h,g,d,t,os⟩) :
  wpAny (model prog w) A (getAttrBy (.ref x) (.str "__class__" tok) false) Q E ⟨h,g,d,t,os⟩:=by
 have f3:=F.attrBase_ValueError.ga.bind (.ref x)
 have x2:(Value.builtin "BaseException.__getattribute__" == Value.builtin "object.__getattribute__")=false:=by decide +kernel
 have x1:(onTheHeap (Value.ref C) && Value.builtin "BaseException.__getattribute__" == Value.builtin "object.__getattribute__")=false:=by rw [x2];rfl
 have L0:=I.type (M:=model prog w)
 have L1:=looks_findIn (M:=model prog w) X k.ga
 have L2:=looks_findIn (M:=model prog w) X k.gt
 repeat (any_goals (first | assumption | with_reducible refine L0.at ?_ | with_reducible refine L1.at ?_ | with_reducible refine L2.at ?_ | wp_step))
 refine pM k X I ?_
 repeat (any_goals (first | assumption | wp_step))
theorem pN {Q:Option Value->Shared->Prop} (k:pY K C) (X:K.In h) (I:InstAt h x ox C od) (hq:Q (some (.ref C)) ⟨h,g,d,t + 1,os⟩) :
  wpAny (model prog w) A (getAttr? (.ref x) "__class__") Q E ⟨h,g,d,t,os⟩:=by
 unfold getAttr? getAttrBy?
 repeat (any_goals (first | assumption | with_reducible apply mK k X I | wp_step))
theorem jE (k:pY K C):KitX K (.ref x) (.ref C) (fun h=>∃ ox od,InstAt h x ox C od) where
 ty:=fun _ _ _ ⟨_,_,I⟩=>I.type
 it:=fun _ _ X _=>by
  obtain ⟨cd,hc,_⟩:=any_some k.hd
  unfold clsIn at hc
  split at hc
  ·rename_i c1 d1 cd1 sl1 hk
   intro A' Q' E' s' kk q
   unfold isType loadHead
   exact wpAny_bind (wpAny_loadPart (kk _ _ (X _ _ hk)) (wpAny_pure q))
  ·cases hc
 ne:=fun h tp dd its n sl X htp=>by
  obtain ⟨cd,hc,_⟩:=any_some k.hd
  refine Bool.eq_false_iff.mpr fun q=>?_
  have e1:C=tp:=Value.ref.inj (beq_iff_eq.mp q)
  subst e1
  unfold clsIn at hc
  split at hc
  ·rename_i c1 d1 cd1 sl1 hk
   cases ((X _ _ hk).symm.trans htp)
  ·cases hc
 ca:=fun {_ _ _ _ _ s} X ⟨ox,od,I⟩ hq=>by
  obtain ⟨h,g,d,t,os⟩:=s
  exact pN k X I hq
end
section
variable {X:Cx}
theorem jI {C a:Addr} {h:Heap} {dc:Option Addr} (p:fM C a dc h) (hd:∀ dx,dc=some dx->∃ o,h.get? dx=some o):∃ ox od,InstAt h a ox C od:=by
 obtain ⟨ob,cells,q1,⟨q2,q3⟩,q4,_⟩:=p
 have nc:notCls ob=true:=by unfold notCls;rw [q4]
 cases dc with
 | none=>exact ⟨ob,none,q1,q2,nc,by rw [q3];trivial⟩
 | some dx=>
  obtain ⟨o,ho⟩:=hd dx rfl
  exact ⟨ob,some o,q1,q2,nc,by rw [q3];exact ho⟩
def zIW (K:Frag) (c:V) (cv:Value):List V->Hp->VK->Prop:=fun xs H Q=>∃ a C b,xs=[.ref a,c]/\H a=some (iW C a)/\pY K C/\kitOne K (.ref C) cv=some b/\Q (.bl b) H
theorem xV {D:Addr}:wV X (.builtin "isinstance") (zIW X.K (.ref D) (.ref D)):=by
 intro zp s σ H xs us Q I r h
 obtain ⟨a,C,b,rfl,ha,k,e,q⟩:=h
 obtain ⟨u,v,rfl,ru,rv⟩:=r.two
 cases ru;cases rv
 obtain ⟨p,_,_⟩:=(show yV X.prog X.w H s.heap a (iW C a) from I.hok a _ ha)
 exact kia_one (jE k) I.kIn (jI p (fun _ z=>nomatch z)) e (fun z=>nomatch z) fun tk=>⟨.bl b,H,I.tok tk,rfl,q⟩
theorem cC {T:String}:wV X (.builtin "isinstance") (zIW X.K (.ty T) (.type T)):=by
 intro zp s σ H xs us Q I r h
 obtain ⟨a,C,b,rfl,ha,k,e,q⟩:=h
 obtain ⟨u,v,rfl,ru,rv⟩:=r.two
 cases ru;cases rv
 obtain ⟨p,_,_⟩:=(show yV X.prog X.w H s.heap a (iW C a) from I.hok a _ ha)
 exact kia_one (jE k) I.kIn (jI p (fun _ z=>nomatch z)) e (fun z=>nomatch z) fun tk=>⟨.bl b,H,I.tok tk,rfl,q⟩
end
end L2
namespace L2
open PySem PySem.Spec PyProof.Rows
section
variable {X:Cx} {zp:LAO} {σ:List (Option V)} {H:Hp} {s:Shared}
end
section
variable {X:Cx}
end
end L2
namespace L2
open PySem PySem.Spec PyProof.Rows PySem.W
section
variable {prog:Program} {w:World} {A:Around} {E:VSP} {h:Heap} {g:Array GenState} {d:Drawn} {t:Nat} {os:OsState}
variable {nm qn:Str} {C N:Addr} {bs bm bmB:List Value} {hdct:Bool} {sn:List Str} {sub:List Value} {ab:Bool} {col:Option Bool} {dd:Option Addr} {k0 k1 k2 k3 k5:Option Value} {B newId initId:String}
end
section
variable {M:Model} {A:Around} {E:VSP} {s:Shared} {B:Heap} {env:Env} {outer:List Env} {L e C:Addr} {dc:Option Addr} {Q:Unit->Shared->Prop}
end
section
variable {P:Program} {w:World} {K:W.Frag} {mg:Str->Option Value} {base:Heap} {N:List Str} {qual:Str} {scope:Scope} {f:Addr} {cd:Value} {A:Around} {outer:List Env} {s0:Shared} {H0:Hp} {E:XK}
end
section
variable {X:Cx} {E:XK}
end
section
variable {dc:Option Addr} {M:Model} {A:Around} {E:VSP} {s:Shared} {B:Heap} {env:Env} {outer:List Env} {L e C:Addr} {Q:Unit->Shared->Prop}
end
end L2
namespace L2
open PySem PySem.Spec PyProof.Rows
section
variable {prog:Program} {w:World} {A:Around} {E:VSP} {s:Shared}
theorem pV:entryFor table "proto.unchain"=some Builtin.«proto.unchain»:=entryFor_of_fast (by kernel_rfl)
theorem o5 {e hx:Addr} {ob:Obj} {cells:Array Value} {Q:VSP} (gh:s.heap.get? hx=some ob) (gd:ob.data=.fields cells) (g2:cells[2]?=some .none) (q:Q .none s) :
  wpAny (model prog w) A (runValue (.builtin "proto.unchain" ⟨[.ref e,.ref hx,.ref hx,.bool false],[]⟩)) Q E s:=by
 refine wpAny_runValue (codeAny_builtin pV ?_)
 unfold Builtin.«proto.unchain»
 refine wpAny_bind (wpAny_field gh gd g2 ?_)
 rw [if_pos (by rfl)]
 first | exact wpAny_pure q | (refine wpAny_bind ?_;exact wpAny_pure (wpAny_pure q)) | (repeat (any_goals (first | assumption | wp_step)))
theorem pU {e hx:Addr} {oe ob:Obj} {cells ce:Array Value} {α:Type} {Q:α->Shared->Prop} (hh:A.handled=some (.ref hx)) (gh:s.heap.get? hx=some ob) (gd:ob.data=.fields cells) (g2:cells[2]?=some .none)
  (ge:s.heap.get? e=some oe) (ged:oe.data=.fields ce) (gz:2 < ce.size) (ne:hx ≠ e) (q:E (.ref e) { s with heap:=s.heap.update e (Obj.mapFields (·.setIfInBounds 2 (.ref hx))) }) :
  wpAny (model prog w) A (raiseNew (.ref e):Sem α) Q E s:=by
 simp only [raiseNew]
 refine wpAny_bind (wpAny_handled ?_)
 rw [hh]
 have b1:(Value.ref hx != Value.ref e)=true:=by simp [ne]
 dsimp only
 rw [if_pos b1]
 refine wpAny_bind (wpAny_holding (o5 gh gd g2 ?_))
 refine wpAny_bind ?_
 unfold updateField
 refine wpAny_bind (wpAny_load ge ?_)
 rw [ged]
 dsimp only
 rw [if_pos gz]
 exact wpAny_update ge (wpAny_throw q)
end
section
variable {X:Cx} {tg:Expr} {hx:Addr}
end
structure zBN (k:Nat) (A:Around):Prop where
 dp:A.depth + 3 * k + 5 < recursionLimit
 un:A.units + 16 * k + 200 < cLine
theorem zO.toH {k:Nat} {A:Around} (r:zO k A) (o:Option Value):zBN k (A.mark o):=⟨r.dp,r.un⟩
abbrev SpH:=Addr->List V->Hp->VK->Prop
structure zEV (P:Program) (w:World) (K:W.Frag) (mg:Str->Option Value) (base:Heap) (k:Nat) (f:Addr) (fd:FuncData) (ps:List Str) (sp:SpH):Prop where
 len:∀ hx vs H Q,sp hx vs H Q->vs.length=ps.length
 run:∀ (hx:Addr) (A:Around) (outer:List Env) (s:Shared) (H:Hp) (args:Args) (us:List Value) (vs:List V) (Q:VK),zBN k A->A.handled=some (.ref hx)->jR P w K mg base A outer s H->BindsTo s fd args (ps.zip us)->zY vs us->sp hx vs H Q ->
  codeAny (model P w) A (.call (.ref f) args) (CR CX0 outer P w H s Q (fun _ _ _=>False)) s
def cxH (P:Program) (w:World) (K:W.Frag) (mg:Str->Option Value) (base:Heap) (N:List Str) (qual:Str) (scope:Scope) (f:Addr) (cd:Value) (A:Around) (outer:List Env) (s:Shared) (H:Hp):Cx:=
 { uV CX0 P w K mg base N qual scope f cd A outer s H (fun _ _ _=>False) with calm:=false,xe:=fun _ _=>False }
theorem Fun.okH {P:Program} {w:World} {K:W.Frag} {mg:Str->Option Value} {base:Heap} {x qual:Str} {st:Stmt} {f:Addr} {fd:FuncData} {N ps:List Str} {k:Nat} {sp:SpH} (F:Fun K x qual st f fd) (S:zI N ps (zE st)) (len:∀ hx vs H Q,sp hx vs H Q->vs.length=ps.length)
  (hbody:∀ (hx:Addr) (cdv:Value) (A:Around) (outer:List Env) (s:Shared) (H:Hp) (vs:List V) (Q:VK),A.handled=some (.ref hx)->sp hx vs H Q ->
   ∃ t,PSs (cxH P w K mg base N qual (zE st) f cdv A outer s H) (yU st) t/\t { nx:=fun _ H'=>Q .non H',rt:=Q } (start N vs) H):zEV P w K mg base (k + 1) f fd ps sp:=by
 obtain ⟨oc,od,kV,doc,pm,an,cdv,ct,osl,rfl,lk,hcd⟩:=F.ex
 refine ⟨len,fun hx A outer s H args us vs Q hr hh e0 hb r hsp=>?_⟩
 have hl:=len _ _ _ _ hsp
 have KX:K.In s.heap:=e0.mod.kin.keeps fun b o e=>(e0.bs b o e).1
 have lim:s.heap.NoLimit:=e0.mod.nolimit.keeps fun b o e=>(e0.bs b o e).1
 have hkind:∀ y ∈ ps.zip us,(zE st).names.lookup y.1=some .local \/ ((zE st).names.lookup y.1=some .cell/\((cellsFrom (s.heap.objs.size + 1) (zE st).names []).lookup y.1).isSome=true):=fun ⟨n,v⟩ hy=>by
  rcases S.par n (List.of_mem_zip hy).1 with q | q
  ·exact .inl q
  ·exact .inr ⟨q,W.cellsFrom_some _ _ _ (.inl q)⟩
 refine codeAny_call_function (by have:=hr.dp;omega) (KX _ _ lk) rfl S.co S.gen rfl (W.codeRec_of KX hcd) (hb _ _ _ _ ?_)
 refine wpAny_newFunctionEnv_cells S.kind hkind fun env he s1 x=>?_
 subst he
 refine ⟨lim.keeps x.toInCall.keep,codeAny_func ?_⟩
 obtain ⟨t,ht,hq⟩:=hbody hx cdv A outer s H vs Q hh hsp
 have I0:Inv (uV CX0 P w K mg base N qual (zE st) f cdv { A with handled:=none } outer s H (fun _ _ _=>False)) [] (start N vs) H s1:=
  oQ S rfl ⟨e0.frames,e0.mod,e0.bs,e0.bsz,e0.funs,e0.frf,e0.hok,e0.bare⟩ hl r x
 have I:Inv (cxH P w K mg base N qual (zE st) f cdv A outer s H) [] (start N vs) H s1:=
  ⟨⟨I0.ok.mod,I0.ok.kind,I0.ok.glob,I0.ok.blt,I0.ok.above,I0.ok.inj,I0.ok.has,I0.ok.cab,(fun z=>by cases z),I0.ok.frames,I0.ok.stk,I0.ok.exf,I0.ok.bs,I0.ok.bsz,I0.ok.noex,I0.ok.exfs,I0.ok.funs,I0.ok.frf⟩,
   I0.os,I0.bare,I0.base,I0.loc,I0.cell,I0.free,I0.freeC,I0.pin,I0.hok,I0.len⟩
 refine wpAny_mono (ht [] s1 (start N vs) H _ I hq) (fun fl s' hs=>?_) fun e s' hs=>hs.elim
 cases fl with
 | ret u=>
  obtain ⟨v,σ',H',J,rv,q⟩:=hs
  exact ⟨v,H',J.os,J.bare,J.base,J.hok,rv,q⟩
 | next=>
  obtain ⟨σ',H',J,q⟩:=hs
  exact ⟨V.non,H',J.os,J.bare,J.base,J.hok,rfl,q⟩
 | brk=>
  obtain ⟨_,_,_,q⟩:=hs
  exact q.elim
 | cont=>
  obtain ⟨_,_,_,q⟩:=hs
  exact q.elim
structure zDZ (P:Program) (w:World) (K:W.Frag) (mg:Str->Option Value) (base:Heap) (k:Nat) (x:Str) (ps:List Str) (sp:SpH):Prop where
 ex:∃ (f:Addr) (fd:FuncData),zEV P w K mg base k f fd ps sp/\mg x=some (.ref f)/\W.keepIn K (.ref f)=true/\vY K fd ps []
theorem yB.okH {P:Program} {w:World} {K:W.Frag} {mg:Str->Option Value} {base:Heap} {x:Str} {st:Stmt} {N ps:List Str} {k:Nat} {sp:SpH} (G:yB K mg x st ps) (S:zI N ps (zE st)) (len:∀ hx vs H Q,sp hx vs H Q->vs.length=ps.length)
  (hbody:∀ (f hx:Addr) (cdv:Value) (A:Around) (outer:List Env) (s:Shared) (H:Hp) (vs:List V) (Q:VK),A.handled=some (.ref hx)->sp hx vs H Q ->
   ∃ t,PSs (cxH P w K mg base N x (zE st) f cdv A outer s H) (yU st) t/\t { nx:=fun _ H'=>Q .non H',rt:=Q } (start N vs) H):zDZ P w K mg base (k + 1) x ps sp:=by
 obtain ⟨f,fd,F,hm,hb⟩:=G.ex
 exact ⟨f,fd,F.okH S len fun hx cdv A outer s H vs Q hh h=>hbody f hx cdv A outer s H vs Q hh h,hm,F.kp,hb⟩
def cX (hx:Addr) (sp:SpH) (t:TA):TE:=fun σ H Q=>t σ H fun vs H1=>sp hx vs H1 Q
theorem zCP {X:Cx} {hx:Addr} {k:Nat} {x:Str} {ps:List Str} {sp:SpH} {p pos:Pos} {e:Expr} {es:List Expr} {t:TA} (D:zDZ X.prog X.w X.K X.mg X.base k x ps sp) (hr:zBN k X.A) (hh:X.A.handled=some (.ref hx)) (ha:PA X (e :: es) t) (hg:Gl X x:=by rfl)
  (hdb:(x == ("__debug__" : Str))=false:=by decide) (he:starEach (e :: es) X.env=(false,eval e X.env) :: starEach es X.env:=by rfl) (hpl:(backTo pos (starEach es X.env)).any (·.1)=false:=by rfl) :
  PE X (.Call (.Name x p) (e :: es) [] pos) (cX hx sp t):=by
 obtain ⟨f,fd,F,hm,hk,hb⟩:=D.ex
 intro zp s σ H Q I h
 refine wpAny_Call_Name_kw (tE I hg hm ?_ hdb)
 refine W.callWith_K (h₀:=X.base) I.ok.mod.kin hk (thn (ha pos zp s σ H _ I h) fun us s1 hz63=>?_) he hpl
 obtain ⟨vs,H1,I1,r,q⟩:=hz63
 refine ⟨I1.kIn,?_⟩
 have hl:us.length=ps.length:=by rw [<- r.length];exact F.len _ _ _ _ q
 have hb':=hb s1 us I1.kIn (by simpa using hl)
 rw [List.append_nil] at hb'
 refine wpAny_call (codeAny_mono (F.run hx X.A X.stack s1 H1 ⟨us,[]⟩ us vs Q hr hh I1.env0 hb' r q) fun r s' hq=>?_)
 cases r with
 | error e=>exact hq.elim
 | ok fl=>
  cases fl with
  | ret u=>exact I1.after hq
  | next=>exact hq.elim
  | brk=>exact hq.elim
  | cont=>exact hq.elim
section
variable {X:Cx} {es es1:List Expr} {t t1:TA}
theorem swL {es:List Expr} {p:Pos} {t:Option Expr} {n:Nat} {env:Env}:swapsWith (.List es p) t n env=pure false:=rfl
inductive CV:Expr->V->Prop
 | str {z:Str} {j p}:CV (.Constant (.str z) j p) (.str z)
 | int {z:Int} {j p}:CV (.Constant (.int z) j p) (.int z)
 | bl {z:Bool} {j p}:CV (.Constant (.bool z) j p) (.bl z)
 | non {j p}:CV (.Constant .none j p) .non
inductive CVs:List Expr->List V->Prop
 | nil:CVs [] []
 | cons {e:Expr} {v:V} {es:List Expr} {vs:List V} (h:CV e v) (t:CVs es vs):CVs (e :: es) (v :: vs)
def zHH (vs:List V) (t:TA):TA:=fun σ H Q=>t σ H (fun xs H1=>Q (vs ++ xs) H1)
theorem zCR (h:PA X es t) {cs:List Expr} {vs:List V} (h0:CVs cs vs):PA X (cs ++ es) (zHH vs t):=by
 induction h0 with
 | nil=>exact h
 | cons c _ ih=>
  cases c with
  | str=>exact zA xD ih
  | int=>exact zA zK ih
  | bl=>exact zA wY ih
  | non=>exact zA wO ih
theorem gQ {i:Nat} {x:Str} {pos pos' lp:Pos} (hN:X.N.Nodup) (hi:X.N[i]?=some x) (hx:Loc X.env.scope x) (hf:X.fn x=true \/ X.env.scope.names.lookup x=some .local) (h:PA X es t) :
  PS X (.Assign [.Name x pos'] (.List es lp) pos) (o9 (cV t) (xK i)):=z5 hN hi hx (zX h) swL hf
def zHO (vs:List V):TA:=fun _ H Q=>Q vs H
theorem aT {vs:List V} (h:CVs es vs):PA X es (zHO vs):=by
 have z:=zCR (X:=X) zD h
 have e:zHH vs o8=zHO vs:=by
  funext σ H Q
  show Q (vs ++ []) H=Q vs H
  rw [List.append_nil]
 rwa [List.append_nil,e] at z
end
section
variable {X:Cx}
end
section
variable {X:Cx}
theorem cF {zs ws:List Str} (l:zs.length=ws.length) {n:Nat} (hn:n=zs.length):(List.range n).all (fun j=>eqV ((zs.map V.str).getD j .non) ((ws.map V.str).getD j .non))=decide (zs=ws):=by
 subst hn
 by_cases e:zs=ws
 ·subst e
  rw [zKL rfl,List.all_eq_true]
  intro j hj
  have hl:j < zs.length:=List.mem_range.mp hj
  rw [zKB,zKC,zJ7 hl]
  exact jJ rfl
 ·rw [zKM e]
  refine Bool.eq_false_iff.mpr fun h=>e ?_
  rw [List.all_eq_true] at h
  refine List.ext_getElem l fun j h1 h2=>?_
  have:=h j (List.mem_range.mpr h1)
  rw [zKB,zKC,zJ7 h1,zKB,zKC,zJ7 h2] at this
  have q:eqV (V.str zs[j]) (V.str ws[j])=true:=this
  simpa [eqV] using q
def rTxt (eq:Bool):R2:=fun x y H Q=>∃ (a b:Addr) (zs ws:List Str),x=.ref a/\y=.ref b/\H a=some (.lst (zs.map V.str))/\H b=some (.lst (ws.map V.str))/\Q (.bl (if eq then decide (zs=ws) else !decide (zs=ws))) H
theorem zEP (zs:List Str):(zs.map V.str).all wE=true:=by
 rw [List.all_eq_true]
 intro x hx
 obtain ⟨z,_,rfl⟩:=List.mem_map.mp hx
 rfl
theorem aU (hu:X.A.units < cLine):OpR X (compareOp .NotEq) (rTxt false):=by
 intro zp s σ H x y v u Q I rx ry h
 obtain ⟨a,b,zs,ws,rfl,rfl,ha,hb,q⟩:=h
 cases rx;cases ry
 obtain ⟨i1,r1,p1,_⟩:=I.list (.of ha)
 obtain ⟨i2,r2,p2,_⟩:=I.list (.of hb)
 have l1:=r1.length
 have l2:=r2.length
 rw [zJ6] at l1 l2
 by_cases le:zs.length=ws.length
 ·have key:=SeqAt.RcNeAt.lists (A:=X.A) (e:=fun j=>eqV ((zs.map V.str).getD j .non) ((ws.map V.str).getD j .non)) p1.isList p2.isList (by rw [zKE,zKE,<- l1,<- l2,le]) hu
   (fun j g1 g2=>iZ (zp:=zp) (σ:=σ) (H:=H) r1 r2 (zEP _) (zEP _) j g1 g2)
  rw [cF le (by rw [zKE,l1])] at key
  exact key _ _ _ _ ⟨.bl (!decide (zs=ws)),H,I,rfl,q⟩
 ·have ne:decide (zs=ws)=false:=zKM fun e=>le (by rw [e])
  have key:=SeqAt.RcNeAt.lists_lengths (A:=X.A) p1.isList p2.isList (by rw [zKE,zKE,<- l1,<- l2];simpa using le) hu
  rw [ne] at q
  exact key _ _ _ _ ⟨.bl true,H,I,rfl,q⟩
end
end L2
namespace L2
open PySem PySem.Spec PyProof.Rows PySem.Builtin.Str
end L2
namespace PySem.SeqAt
open AutoSeq1 (wpAny_loadPart')
open MeetsSeq
end PySem.SeqAt
namespace L2
open PySem PySem.Spec PyProof.Rows
section
variable {X:Cx}
end
end L2
namespace HT
open PySem PySem.Spec PyProof.Rows L2
section
variable {prog:Program} {w:World} {A:Around} {E:Value->Shared->Prop} {s:Shared}
theorem getItem_tuple_self {t sl:Addr} {items:Array Value} {vl vu:Value} {lo hi:Option Int} {Q:Value->Shared->Prop} (ht:IsTup s.heap t items)
  (hs:s.heap.IsSliceOf sl vl vu .none) (pl:IsPart vl lo) (pu:IsPart vu hi) (h1:sIx items.size 0 lo=0) (h2:sIx items.size items.size hi=items.size) (h:Q (.ref t) s):wpAny (model prog w) A (getItem (.ref t) (.ref sl)) Q E s:=by
 obtain ⟨os,hos,hcs,hds⟩:=id hs
 have hTs:s.TypeIs (.ref sl) "slice":=⟨os,hos,hcs⟩
 unfold getItem
 try with_reducible refine wpAny_holding ?_
 first | refine wpAny_bind (wpAny_pure ?_) | skip
 refine wpAny_bind (wpAny_sequenceKey ht.typeIs (by decide) (wpAny_bind ?_))
 refine wpAny_callSpecial?_slot (name:=Str.ofString "__getitem__") ht.typeIs PyProof.Rows.slot_tuple_getitem (wpAny_call_entry PyProof.Rows.slot_tuple_getitem ht.typeIs entry_tuple_getitem ?_ (args_tuple_getitem _ _))
 change wpAny _ _ (Builtin.Tuple.tupleItemsOf (.ref t) >>= _) _ _ s
 refine wpAny_bind (tupleItemsOf_ ht (wpAny_bind (wpAny_typeOf hTs ?_)))
 rw [if_pos (by decide)]
 refine wpAny_bind (sliceApplied_gen hs pl pu ?_)
 have yes:(((sIx items.size 0 lo:Nat):Int) == 0 && (1:Int) == 1 && (sIx items.size items.size hi - sIx items.size 0 lo) == items.size)=true:=by
  rw [h1,h2];simp
 show wpAny _ _ (if (((sIx items.size 0 lo:Nat):Int) == 0 && (1:Int) == 1 && (sIx items.size items.size hi - sIx items.size 0 lo) == items.size)=true then _ else _) _ _ s
 rw [if_pos yes]
 unfold Builtin.Tuple.tupleIsExact
 refine wpAny_bind ?_
 refine wpAny_bind (wpAny_typeOf ht.typeIs ?_)
 refine wpAny_pure ?_
 rw [if_pos (by decide)]
 exact wpAny_bind (wpAny_rule (wpAny_pure ⟨_,rfl,wpAny_pure h⟩))
end
end HT
namespace L2
open PySem PySem.Spec PyProof.Rows
def zFP (K:W.Frag):V->Option Int->Option Int->Hp->VK->Prop:=fun x lo hi H Q=>∃ a xs,x=.ref a/\SqT K H a xs /\
 ((HT.sIx xs.length 0 lo=0/\HT.sIx xs.length xs.length hi=xs.length/\Q (.ref a) H) \/ (¬ (HT.sIx xs.length 0 lo=0/\HT.sIx xs.length xs.length hi=xs.length)/\∀ p,H p=none->Q (.ref p) (upd H p (.tup (rM xs lo hi)))))
theorem zBZ {X:Cx}:SlR X (zFP X.K):=by
 intro zp s σ H x v vl vu lo hi sl Q I rx hs pl pu h
 obtain ⟨a,xs,rfl,hx,h⟩:=h
 rcases h with ⟨h1,h2,q⟩ | ⟨hw,q⟩
 ·cases rx
  obtain ⟨its,r,ht,hz⟩:=I.tuple hx
  have hlen:its.toArray.size=xs.length:=by rw [zKE];exact r.length.symm
  exact ⟨"tuple",_,PyProof.Rows.slot_tuple_getitem.lookup,ht.typeIs,HT.getItem_tuple_self ht hs pl pu (by rw [hlen];exact h1) (by rw [hlen];exact h2) ⟨.ref a,H,I,rfl,q⟩⟩
 ·exact zFE zp s σ H _ v vl vu lo hi sl Q I rx hs pl pu ⟨a,xs,rfl,hx,hw,q⟩
section
variable {X:Cx} {e:Expr} {te:TE} {pos p1 p2 p3:Pos} {j1:Nat}
theorem zI1:PE X (.UnaryOp .USub (.Constant (.int 1) j1 p1) p3) (fun _ H Q=>Q (.int (-1)) H):=by
 intro zp s σ H Q I h
 exact (lO qM zK) zp s σ H Q I ⟨1,rfl,h⟩
end
end L2
namespace L2
open PySem PySem.Spec PyProof.Rows PySem.W
def evK {α:Type} (lt:Nat->Nat->Bool):KasT α->α
 | .ret a=>a
 | .ask i j k=>evK lt (k (lt i j))
theorem tD {α β:Type} (lt:Nat->Nat->Bool) (f:α->KasT β) (t:KasT α):evK lt (t.bind f)=evK lt (f (evK lt t)):=by
 induction t with
 | ret a=>rfl
 | ask i j k ih=>exact ih (lt i j)
structure LtO (lt:Nat->Nat->Bool):Prop where
 asym:∀ i j,lt i j=true->lt j i=false
 trn:∀ i j k,lt j i=false->lt k j=false->lt k i=false
section
variable {lt:Nat->Nat->Bool}
abbrev gA (p:Array Nat) (i:Nat):Nat:=p.getD i 0
def leK (lt:Nat->Nat->Bool) (i j:Nat):Prop:=lt j i=false
def Up (lt:Nat->Nat->Bool) (p:Array Nat) (k:Nat):Prop:=∀ i j,i <= j->j < k->leK lt (gA p i) (gA p j)
def Dn (lt:Nat->Nat->Bool) (p:Array Nat) (k:Nat):Prop:=∀ i j,i <= j->j < k->leK lt (gA p j) (gA p i)
theorem xB (O:LtO lt) (i:Nat):leK lt i i:=by
 unfold leK
 cases e:lt i i with
 | false=>rfl
 | true=>exact absurd (O.asym i i e) (by rw [e];simp)
theorem y9 (O:LtO lt) {i j k:Nat} (a:leK lt i j) (b:leK lt j k):leK lt i k:=O.trn i j k a b
theorem mG (O:LtO lt) {i j:Nat} (h:lt i j=true):leK lt i j:=O.asym i j h
theorem pI {p:Array Nat} {i j:Nat} (hj:j <= p.size) (k:Nat):gA (kas_rev p i j) k=if i <= k/\k < j then gA p (i + j - 1 - k) else gA p k:=by
 unfold gA kas_rev
 rw [zK5,zK5,zK5,getElem?_mirror_all hj]
 split <;> rfl
theorem zAT {p:Array Nat} {k l:Nat} (hk:k < p.size) (hl:l <= k) (x:Nat):gA (bubble p k (k - l)) x=if x=l then gA p k else if l < x/\x <= k then gA p (x - 1) else gA p x:=by
 unfold gA
 rw [zK5,zK5,zK5,zK5,getElem?_bubble hk (k - l) (by omega)]
 rw [show k - (k - l)=l by omega]
 repeat' split
 all_goals first | rfl | omega
theorem qR (p:Array Nat) (i j:Nat):(kas_rev p i j).size=p.size:=mirror_size _ _ _ _
theorem wX (p:Array Nat) (i j:Nat):(kas_rev p i j).Perm p:=mirror_perm _ _ _ _
theorem zEX (O:LtO lt) (p:Array Nat):Up lt p 1:=fun i j h1 h2=>by
 have:i=j:=by omega
 rw [this];exact xB O _
theorem Up.more (O:LtO lt) {p:Array Nat} {n:Nat} (h:Up lt p n) (h1:1 <= n) (e:leK lt (gA p (n - 1)) (gA p n)):Up lt p (n + 1):=fun i j hij hj=>by
 by_cases hn:j < n
 ·exact h i j hij hn
 ·have ej:j=n:=by omega
  subst ej
  by_cases hi:i < j
  ·exact y9 O (h i (j - 1) (by omega) (by omega)) e
  ·have:i=j:=by omega
   rw [this];exact xB O _
theorem Dn.more (O:LtO lt) {p:Array Nat} {n:Nat} (h:Dn lt p n) (h1:1 <= n) (e:leK lt (gA p n) (gA p (n - 1))):Dn lt p (n + 1):=fun i j hij hj=>by
 by_cases hn:j < n
 ·exact h i j hij hn
 ·have ej:j=n:=by omega
  subst ej
  by_cases hi:i < j
  ·exact y9 O e (h i (j - 1) (by omega) (by omega))
  ·have:i=j:=by omega
   rw [this];exact xB O _
theorem zBJ (O:LtO lt) (p:Array Nat):∀ (f n:Nat),1 <= n->Up lt p n->n <= evK lt (kas_asc p f n)/\evK lt (kas_asc p f n) <= n + f/\Up lt p (evK lt (kas_asc p f n)) /\
  (evK lt (kas_asc p f n) < n + f->lt (gA p (evK lt (kas_asc p f n))) (gA p (evK lt (kas_asc p f n) - 1))=true):=by
 intro f
 induction f with
 | zero=>exact fun n h1 h=>⟨zKF _,zKF _,h,fun z=>absurd z (Nat.lt_irrefl _)⟩
 | succ f ih=>
  intro n h1 h
  have e:evK lt (kas_asc p (f + 1) n)=evK lt (if lt (gA p n) (gA p (n - 1))=true then .ret n else kas_asc p f (n + 1)):=rfl
  rw [e]
  cases c:lt (gA p n) (gA p (n - 1)) with
  | true=>
   rw [if_pos rfl]
   exact ⟨zKF _,Nat.le_add_right _ _,h,fun _=>c⟩
  | false=>
   rw [if_neg (by simp)]
   obtain ⟨a1,a2,a3,a4⟩:=ih (n + 1) (by omega) (h.more O h1 c)
   exact ⟨by omega,by omega,a3,fun z=>a4 (by omega)⟩
def EqS (lt:Nat->Nat->Bool) (p:Array Nat) (n q:Nat):Prop:=∀ i,n - (q + 1) <= i->i < n->leK lt (gA p i) (gA p (n - 1))/\leK lt (gA p (n - 1)) (gA p i)
theorem gN (O:LtO lt) {p:Array Nat} {n q:Nat} (hn:n <= p.size) (hq:q + 1 <= n) (h:EqS lt p n q) (x:Nat):leK lt (gA (kas_rev p (n - (q + 1)) n) x) (gA p x)/\leK lt (gA p x) (gA (kas_rev p (n - (q + 1)) n) x):=by
 rw [pI hn]
 split
 ·next hx=>
  obtain ⟨a1,a2⟩:=h x hx.1 hx.2
  obtain ⟨b1,b2⟩:=h (n - (q + 1) + n - 1 - x) (by omega) (by omega)
  exact ⟨y9 O b1 a2,y9 O a1 b2⟩
 ·exact ⟨xB O _,xB O _⟩
theorem zA3 (O:LtO lt) {p:Array Nat} {n q k:Nat} (hn:n <= p.size) (hq:q + 1 <= n) (h:EqS lt p n q) (d:Dn lt p k):Dn lt (kas_rev p (n - (q + 1)) n) k:=fun i j hij hj=>
 y9 O (gN O hn hq h j).1 (y9 O (d i j hij hj) (gN O hn hq h i).2)
theorem zDK (O:LtO lt):∀ (f:Nat) (p:Array Nat) (n q:Nat),q + 1 <= n->n + f <= p.size->Dn lt p n->EqS lt p n q ->
  (evK lt (kas_desc f p n q)).1.Perm p/\n <= (evK lt (kas_desc f p n q)).2.1/\(evK lt (kas_desc f p n q)).2.1 <= n + f/\Dn lt (evK lt (kas_desc f p n q)).1 (evK lt (kas_desc f p n q)).2.1 /\
  (evK lt (kas_desc f p n q)).2.2 + 1 <= (evK lt (kas_desc f p n q)).2.1/\EqS lt (evK lt (kas_desc f p n q)).1 (evK lt (kas_desc f p n q)).2.1 (evK lt (kas_desc f p n q)).2.2:=by
 intro f
 induction f with
 | zero=>exact fun p n q h1 h2 h3 h4=>⟨.refl _,zKF _,zKF _,h3,h1,h4⟩
 | succ f ih=>
  intro p n q h1 h2 h3 h4
  have e:evK lt (kas_desc (f + 1) p n q)=evK lt (if lt (gA p n) (gA p (n - 1))=true then (if q > 0 then kas_desc f (kas_rev p (n - (q + 1)) n) (n + 1) 0 else kas_desc f p (n + 1) 0)
   else .ask (gA p (n - 1)) (gA p n) fun d=>if d=true then .ret (p,n,q) else kas_desc f p (n + 1) (q + 1)):=rfl
  rw [e]
  have one:∀ p:Array Nat,EqS lt p (n + 1) 0:=fun p i h1 h2=>by
   have:i=n + 1 - 1:=by omega
   rw [this];exact ⟨xB O _,xB O _⟩
  cases c:lt (gA p n) (gA p (n - 1)) with
  | true=>
   rw [if_pos rfl]
   have d1:=h3.more O (by omega) (mG O c)
   by_cases hq:q > 0
   ·rw [if_pos hq]
    obtain ⟨a1,a2,a3,a4,a5,a6⟩:=ih (kas_rev p (n - (q + 1)) n) (n + 1) 0 (by omega) (by rw [qR];omega) (zA3 O (by omega) h1 h4 d1) (one _)
    exact ⟨a1.trans (wX _ _ _),by omega,by omega,a4,a5,a6⟩
   ·rw [if_neg hq]
    obtain ⟨a1,a2,a3,a4,a5,a6⟩:=ih p (n + 1) 0 (by omega) (by omega) d1 (one _)
    exact ⟨a1,by omega,by omega,a4,a5,a6⟩
  | false=>
   rw [if_neg (by simp)]
   show (evK lt (if lt (gA p (n - 1)) (gA p n)=true then .ret (p,n,q) else kas_desc f p (n + 1) (q + 1))).1.Perm p/\_
   show _/\n <= (evK lt (if lt (gA p (n - 1)) (gA p n)=true then .ret (p,n,q) else kas_desc f p (n + 1) (q + 1))).2.1/\(evK lt (if lt (gA p (n - 1)) (gA p n)=true then .ret (p,n,q) else kas_desc f p (n + 1) (q + 1))).2.1 <= _/\Dn lt (evK lt (if lt (gA p (n - 1)) (gA p n)=true then .ret (p,n,q) else kas_desc f p (n + 1) (q + 1))).1 (evK lt (if lt (gA p (n - 1)) (gA p n)=true then .ret (p,n,q) else kas_desc f p (n + 1) (q + 1))).2.1/\(evK lt (if lt (gA p (n - 1)) (gA p n)=true then .ret (p,n,q) else kas_desc f p (n + 1) (q + 1))).2.2 + 1 <= (evK lt (if lt (gA p (n - 1)) (gA p n)=true then .ret (p,n,q) else kas_desc f p (n + 1) (q + 1))).2.1/\EqS lt (evK lt (if lt (gA p (n - 1)) (gA p n)=true then .ret (p,n,q) else kas_desc f p (n + 1) (q + 1))).1 (evK lt (if lt (gA p (n - 1)) (gA p n)=true then .ret (p,n,q) else kas_desc f p (n + 1) (q + 1))).2.1 (evK lt (if lt (gA p (n - 1)) (gA p n)=true then .ret (p,n,q) else kas_desc f p (n + 1) (q + 1))).2.2
   cases d:lt (gA p (n - 1)) (gA p n) with
   | true=>
    rw [if_pos rfl]
    exact ⟨.refl _,zKF _,Nat.le_add_right _ _,h3,h1,h4⟩
   | false=>
    rw [if_neg (by simp)]
    have es:EqS lt p (n + 1) (q + 1):=fun i g1 g2=>by
     rw [Nat.add_sub_cancel]
     by_cases hi:i=n
     ·rw [hi];exact ⟨xB O _,xB O _⟩
     ·obtain ⟨b1,b2⟩:=h4 i (by omega) (by omega)
      exact ⟨y9 O b1 c,y9 O d b2⟩
    obtain ⟨a1,a2,a3,a4,a5,a6⟩:=ih p (n + 1) (q + 1) (by omega) (by omega) (h3.more O (by omega) d) es
    exact ⟨a1,by omega,by omega,a4,a5,a6⟩
theorem cJ {p:Array Nat} {n:Nat} (hn:n <= p.size) (d:Dn lt p n):Up lt (kas_rev p 0 n) n:=fun i j hij hj=>by
 rw [pI hn,pI hn,if_pos ⟨zKG _,by omega⟩,if_pos ⟨zKG _,hj⟩]
 exact d _ _ (by omega) (by omega)
theorem hX (O:LtO lt) {p:Array Nat} {n nrem:Nat} (h1:1 <= n) (hn:n <= nrem) (hz:nrem <= p.size) (d:Dn lt p n) :
  (evK lt (kas_tail3 n nrem p)).2.Perm p/\1 <= (evK lt (kas_tail3 n nrem p)).1/\(evK lt (kas_tail3 n nrem p)).1 <= nrem/\Up lt (evK lt (kas_tail3 n nrem p)).2 (evK lt (kas_tail3 n nrem p)).1:=by
 unfold kas_tail3
 rw [tD]
 obtain ⟨a1,a2,a3,_⟩:=zBJ O (kas_rev p 0 n) (nrem - n) n h1 (cJ (by omega) d)
 exact ⟨wX _ _ _,zKH h1 a1,zKH a2 (by omega),a3⟩
theorem rV (O:LtO lt) {p:Array Nat} {n nrem:Nat} (h1:1 <= n) (hn:n + 1 <= nrem) (hz:nrem <= p.size) (d:Dn lt p (n + 1)) :
  (evK lt (kas_descPart n nrem p)).2.Perm p/\1 <= (evK lt (kas_descPart n nrem p)).1/\(evK lt (kas_descPart n nrem p)).1 <= nrem/\Up lt (evK lt (kas_descPart n nrem p)).2 (evK lt (kas_descPart n nrem p)).1:=by
 unfold kas_descPart
 rw [tD]
 obtain ⟨a1,a2,a3,a4,a5,a6⟩:=zDK O (nrem - (n + 1)) p (n + 1) 0 (by omega) (by omega) d (fun i g1 g2=>by
  have:i=n + 1 - 1:=by omega
  rw [this];exact ⟨xB O _,xB O _⟩)
 generalize evK lt (kas_desc (nrem - (n + 1)) p (n + 1) 0)=r at a1 a2 a3 a4 a5 a6 ⊢
 have hs:=a1.size_eq
 by_cases hq:r.2.2 > 0
 ·rw [if_pos hq]
  obtain ⟨b1,b2,b3,b4⟩:=hX O (p:=kas_rev r.1 (r.2.1 - (r.2.2 + 1)) r.2.1) (n:=r.2.1) (nrem:=nrem) (by omega) (by omega) (by rw [qR];omega) (zA3 O (by omega) a5 a6 a4)
  exact ⟨(b1.trans (wX _ _ _)).trans a1,b2,b3,b4⟩
 ·rw [if_neg hq]
  obtain ⟨b1,b2,b3,b4⟩:=hX O (p:=r.1) (n:=r.2.1) (nrem:=nrem) (by omega) (by omega) (by omega) a4
  exact ⟨b1.trans a1,b2,b3,b4⟩
theorem zBA (O:LtO lt) {p:Array Nat} {nrem:Nat} (h1:1 <= nrem) (hz:nrem <= p.size) :
  (evK lt (kas_count nrem p)).2.Perm p/\1 <= (evK lt (kas_count nrem p)).1/\(evK lt (kas_count nrem p)).1 <= nrem/\Up lt (evK lt (kas_count nrem p)).2 (evK lt (kas_count nrem p)).1:=by
 unfold kas_count
 rw [tD]
 obtain ⟨a1,a2,a3,a4⟩:=zBJ O p (nrem - 1) 1 (zKF _) (zEX O p)
 generalize evK lt (kas_asc p (nrem - 1) 1)=m at a1 a2 a3 a4 ⊢
 by_cases hm:m=nrem
 ·rw [if_pos (by simpa using hm)]
  exact ⟨.refl _,a1,by show m <= nrem;omega,a3⟩
 ·rw [if_neg (by simpa using hm)]
  have c:=a4 (by omega)
  by_cases h2:m > 1
  ·rw [if_pos h2]
   have e:evK lt (KasT.ask (gA p 0) (gA p (m - 1)) fun c=>if c=true then .ret (m,p) else kas_descPart m nrem (kas_rev p 0 m))=evK lt (if lt (gA p 0) (gA p (m - 1))=true then .ret (m,p) else kas_descPart m nrem (kas_rev p 0 m)):=rfl
   rw [e]
   cases d:lt (gA p 0) (gA p (m - 1)) with
   | true=>rw [if_pos rfl];exact ⟨.refl _,a1,by show m <= nrem;omega,a3⟩
   | false=>
    rw [if_neg (by simp)]
    have all:∀ x y,x < m->y < m->leK lt (gA p x) (gA p y):=fun x y hx hy=>y9 O (a3 x (m - 1) (by omega) (by omega)) (y9 O d (a3 0 y (zKG _) hy))
    obtain ⟨b1,b2,b3,b4⟩:=rV O (p:=kas_rev p 0 m) (n:=m) (nrem:=nrem) a1 (by omega) (by rw [qR];omega) (by
     intro i j hij hj
     rw [pI (by omega),pI (by omega)]
     by_cases hjm:j < m
     ·rw [if_pos ⟨zKG j,hjm⟩,if_pos ⟨zKG i,by omega⟩]
      exact all _ _ (by omega) (by omega)
     ·rw [if_neg (fun z=>hjm z.2)]
      have ej:j=m:=by omega
      subst ej
      by_cases hi:i < j
      ·rw [if_pos ⟨zKG _,hi⟩]
       exact y9 O (mG O c) (all _ _ (by omega) (by omega))
      ·have:i=j:=by omega
       subst this
       rw [if_neg (fun z=>hi z.2)]
       exact xB O _)
    exact ⟨b1.trans (wX _ _ _),b2,b3,b4⟩
  ·rw [if_neg h2]
   have em:m=1:=by omega
   subst em
   refine rV O (zKF _) (by omega) hz fun i j hij hj=>?_
   by_cases hj0:j=0
   ·have:i=j:=by omega
    rw [this];exact xB O _
   ·have ej:j=1:=by omega
    by_cases hi:i=0
    ·rw [hi,ej];exact mG O c
    ·have:i=j:=by omega
     rw [this];exact xB O _
theorem aH (O:LtO lt) {p:Array Nat} {k:Nat} (hs:Up lt p k):∀ (f l r:Nat),l <= r->r <= k->r - l <= f->(∀ i,i < l->leK lt (gA p i) (gA p k))->(∀ i,r <= i->i < k->leK lt (gA p k) (gA p i)) ->
  evK lt (kas_place p k f l r) <= k/\(∀ i,i < evK lt (kas_place p k f l r)->leK lt (gA p i) (gA p k))/\(∀ i,evK lt (kas_place p k f l r) <= i->i < k->leK lt (gA p k) (gA p i)):=by
 intro f
 induction f with
 | zero=>
  intro l r h1 h2 h3 h4 h5
  have e:l=r:=by omega
  subst e
  exact ⟨h2,h4,h5⟩
 | succ f ih=>
  intro l r h1 h2 h3 h4 h5
  have e:kas_place p k (f + 1) l r=if l >= r then .ret l else .ask (gA p k) (gA p ((l + r) / 2)) fun c=>if c=true then kas_place p k f l ((l + r) / 2) else kas_place p k f ((l + r) / 2 + 1) r:=rfl
  rw [e]
  by_cases hlr:l >= r
  ·rw [if_pos hlr]
   have e:l=r:=by omega
   subst e
   exact ⟨h2,h4,h5⟩
  ·rw [if_neg hlr]
   have e2:evK lt (KasT.ask (gA p k) (gA p ((l + r) / 2)) fun c=>if c=true then kas_place p k f l ((l + r) / 2) else kas_place p k f ((l + r) / 2 + 1) r)=evK lt (if lt (gA p k) (gA p ((l + r) / 2))=true then kas_place p k f l ((l + r) / 2) else kas_place p k f ((l + r) / 2 + 1) r):=rfl
   rw [e2]
   cases c:lt (gA p k) (gA p ((l + r) / 2)) with
   | true=>
    rw [if_pos rfl]
    exact ih l ((l + r) / 2) (by omega) (by omega) (by omega) h4 fun i g1 g2=>y9 O (mG O c) (hs _ _ g1 g2)
   | false=>
    rw [if_neg (by simp)]
    exact ih ((l + r) / 2 + 1) r (by omega) h2 (by omega) (fun i g=>y9 O (hs i ((l + r) / 2) (by omega) (by omega)) c) h5
theorem zG7 (O:LtO lt):∀ (f:Nat) (p:Array Nat) (k:Nat),k + f <= p.size->Up lt p k->(evK lt (kas_bin f p k)).Perm p/\Up lt (evK lt (kas_bin f p k)) (k + f):=by
 intro f
 induction f with
 | zero=>exact fun p k _ h=>⟨.refl _,h⟩
 | succ f ih=>
  intro p k hz h
  have e:kas_bin (f + 1) p k=(kas_place p k k 0 k).bind fun l=>kas_bin f (bubble p k (k - l)) (k + 1):=rfl
  rw [e,tD]
  obtain ⟨a1,a2,a3⟩:=aH O h k 0 k (zKG _) (zKF _) (by omega) (fun i g=>absurd g (Nat.not_lt_zero _)) (fun i g1 g2=>absurd g2 (by omega))
  generalize evK lt (kas_place p k k 0 k)=l at a1 a2 a3 ⊢
  have up:Up lt (bubble p k (k - l)) (k + 1):=fun i j hij hj=>by
   rw [zAT (by omega) a1,zAT (by omega) a1]
   by_cases i1:i=l
   ·rw [if_pos i1]
    by_cases j1:j=l
    ·rw [if_pos j1];exact xB O _
    ·rw [if_neg j1,if_pos ⟨by omega,by omega⟩]
     exact a3 _ (by omega) (by omega)
   ·rw [if_neg i1]
    by_cases i2:l < i/\i <= k
    ·rw [if_pos i2,if_neg (by omega),if_pos ⟨by omega,by omega⟩]
     exact h _ _ (by omega) (by omega)
    ·rw [if_neg i2]
     by_cases j1:j=l
     ·rw [if_pos j1];exact a2 _ (by omega)
     ·rw [if_neg j1]
      by_cases j2:l < j/\j <= k
      ·rw [if_pos j2];exact h _ _ (by omega) (by omega)
      ·rw [if_neg j2];exact h _ _ hij (by omega)
  obtain ⟨b1,b2⟩:=ih (bubble p k (k - l)) (k + 1) (by rw [bubble_size];omega) up
  exact ⟨b1.trans (bubble_perm _ _ _),by rw [show k + (f + 1)=k + 1 + f by omega];exact b2⟩
theorem zBY (O:LtO lt) {n:Nat} (h1:1 <= n):(evK lt (kas_sort n)).Perm (List.range n).toArray/\Up lt (evK lt (kas_sort n)) n:=by
 unfold kas_sort
 rw [tD]
 have hsz:(List.range n).toArray.size=n:=by simp
 obtain ⟨a1,a2,a3,a4⟩:=zBA O (p:=(List.range n).toArray) h1 (by omega)
 generalize evK lt (kas_count n (List.range n).toArray)=r at a1 a2 a3 a4 ⊢
 have hs:=a1.size_eq
 by_cases h:r.1 < n
 ·rw [if_pos h]
  have em:max r.1 1=r.1:=by omega
  rw [em]
  obtain ⟨b1,b2⟩:=zG7 O (n - r.1) r.2 r.1 (by omega) a4
  exact ⟨b1.trans a1,by rw [show n=r.1 + (n - r.1) by omega];exact (by rw [show r.1 + (n - r.1) - r.1=n - r.1 by omega];exact b2)⟩
 ·rw [if_neg h]
  have e:r.1=n:=by omega
  exact ⟨a1,by rw [<- e];exact a4⟩
def tI {α:Type} (n:Nat) (R:α->Prop):KasT α->Prop
 | .ret a=>R a
 | .ask i j k=>i < n/\j < n/\∀ b,tI n R (k b)
theorem tI.bind {α β:Type} {n:Nat} {R:α->Prop} {R':β->Prop} {f:α->KasT β} (t:KasT α) (h:tI n R t) (hf:∀ a,R a->tI n R' (f a)):tI n R' (t.bind f):=by
 induction t with
 | ret a=>exact hf a h
 | ask i j k ih=>exact ⟨h.1,h.2.1,fun b=>ih b (h.2.2 b)⟩
theorem zHE {α:Type} {n:Nat} {R:α->Prop} {lt:Nat->Nat->Bool} {cmp:Nat->Nat->(Bool->Shared->Prop)->Shared->Prop} {Pq:Shared->Prop} (hc:∀ i j C s,i < n->j < n->Pq s->(∀ s',Pq s'->C (lt i j) s')->cmp i j C s) (t:KasT α) (ht:tI n R t) {Q:α->Shared->Prop} :
  ∀ s,Pq s->(∀ s',Pq s'->Q (evK lt t) s')->t.kasWp cmp Q s:=by
 induction t with
 | ret a=>exact fun s h q=>q s h
 | ask i j k ih=>exact fun s h q=>hc i j _ s ht.1 ht.2.1 h fun s' h'=>ih (lt i j) (ht.2.2 _) s' h' q
def In_ (n:Nat) (p:Array Nat):Prop:=∀ v ∈ p.toList,v < n
theorem In_.gA {n:Nat} {p:Array Nat} (h:In_ n p) (h1:1 <= n) (x:Nat):gA p x < n:=by
 unfold L2.gA
 rw [zK5]
 cases e:p[x]? with
 | none=>exact h1
 | some v=>exact h v (by rw [Array.mem_toList_iff];exact Array.mem_of_getElem? e)
theorem In_.perm {n:Nat} {p q:Array Nat} (h:In_ n p) (e:q.Perm p):In_ n q:=fun v hv=>h v ((Array.perm_iff_toList_perm.mp e).mem_iff.mp hv)
section
variable {n:Nat} (h1:1 <= n)
include h1
theorem zBI {p:Array Nat} (h:In_ n p):∀ f m,tI n (fun _=>True) (kas_asc p f m):=by
 intro f
 induction f with
 | zero=>exact fun _=>trivial
 | succ f ih=>
  intro m
  refine ⟨h.gA h1 _,h.gA h1 _,fun b=>?_⟩
  cases b with
  | true=>exact trivial
  | false=>exact ih _
theorem zDJ:∀ f (p:Array Nat) m q,In_ n p->tI n (fun r=>In_ n r.1) (kas_desc f p m q):=by
 intro f
 induction f with
 | zero=>exact fun p m q h=>h
 | succ f ih=>
  intro p m q h
  refine ⟨h.gA h1 _,h.gA h1 _,fun b=>?_⟩
  cases b with
  | true=>
   show tI n _ (if q > 0 then kas_desc f (kas_rev p (m - (q + 1)) m) (m + 1) 0 else kas_desc f p (m + 1) 0)
   by_cases hq:q > 0
   ·rw [if_pos hq];exact ih _ _ _ (h.perm (wX _ _ _))
   ·rw [if_neg hq];exact ih _ _ _ h
  | false=>
   refine ⟨h.gA h1 _,h.gA h1 _,fun c=>?_⟩
   cases c with
   | true=>exact h
   | false=>exact ih _ _ _ h
theorem hV {p:Array Nat} (h:In_ n p) (m nr:Nat):tI n (fun r=>In_ n r.2) (kas_tail3 m nr p):=
 (zBI h1 (h.perm (wX _ _ _)) _ _).bind _ fun _ _=>h.perm (wX _ _ _)
theorem rT {p:Array Nat} (h:In_ n p) (m nr:Nat):tI n (fun r=>In_ n r.2) (kas_descPart m nr p):=by
 refine (zDJ h1 _ p _ _ h).bind _ fun r hr=>?_
 by_cases hq:r.2.2 > 0
 ·rw [if_pos hq];exact hV h1 (hr.perm (wX _ _ _)) _ _
 ·rw [if_neg hq];exact hV h1 hr _ _
theorem zA9 {p:Array Nat} (h:In_ n p) (nr:Nat):tI n (fun r=>In_ n r.2) (kas_count nr p):=by
 refine (zBI h1 h _ _).bind _ fun m _=>?_
 by_cases hm:(m == nr)=true
 ·rw [if_pos hm];exact h
 ·rw [if_neg hm]
  by_cases h2:m > 1
  ·rw [if_pos h2]
   refine ⟨h.gA h1 _,h.gA h1 _,fun b=>?_⟩
   cases b with
   | true=>exact h
   | false=>exact rT h1 (h.perm (wX _ _ _)) _ _
  ·rw [if_neg h2];exact rT h1 h _ _
theorem aG {p:Array Nat} (h:In_ n p) (k:Nat):∀ f l r,tI n (fun _=>True) (kas_place p k f l r):=by
 intro f
 induction f with
 | zero=>exact fun _ _=>trivial
 | succ f ih=>
  intro l r
  show tI n _ (if l >= r then .ret l else .ask (gA p k) (gA p ((l + r) / 2)) fun c=>if c=true then kas_place p k f l ((l + r) / 2) else kas_place p k f ((l + r) / 2 + 1) r)
  by_cases hlr:l >= r
  ·rw [if_pos hlr];exact trivial
  ·rw [if_neg hlr]
   refine ⟨h.gA h1 _,h.gA h1 _,fun b=>?_⟩
   cases b with
   | true=>exact ih _ _
   | false=>exact ih _ _
theorem zG6:∀ f (p:Array Nat) k,In_ n p->tI n (In_ n) (kas_bin f p k):=by
 intro f
 induction f with
 | zero=>exact fun p k h=>h
 | succ f ih=>exact fun p k h=>(aG h1 h k _ _ _).bind _ fun l _=>ih _ _ (h.perm (bubble_perm _ _ _))
theorem zBX:tI n (In_ n) (kas_sort n):=by
 refine (zA9 h1 (p:=(List.range n).toArray) (fun v hv=>by simpa using hv) n).bind _ fun r hr=>?_
 by_cases h:r.1 < n
 ·rw [if_pos h];exact zG6 h1 _ _ _ hr
 ·rw [if_neg h];exact hr
end
end
def ltS (a b:Str):Bool:=decide (a.cps.toList < b.cps.toList)
theorem pD {a b:Str} (h:ltS a b=true):ltS b a=false:=KeyOrd.klt_asymm (O:=strKind.toKeyOrd) h
theorem mE {a b c:Str} (h1:ltS b a=false) (h2:ltS c b=false):ltS c a=false:=KeyOrd.kle_trans (O:=strKind.toKeyOrd) (a:=a.cps.toList) (b:=b.cps.toList) (c:=c.cps.toList) h1 h2
theorem mF {a b:Str} (h1:ltS a b=false) (h2:ltS b a=false):a=b:=by
 have e:a.cps.toList=b.cps.toList:=strKind.total _ _ h1 h2
 cases a;cases b
 simp only [Str.mk.injEq]
 exact Array.toList_inj.mp e
theorem zAD (a:Str):ltS a a=false:=strKind.irrefl _
def ltP (a b:Str × Str):Bool:=if a.1=b.1 then ltS a.2 b.2 else ltS a.1 b.1
theorem zAE {a b:Str × Str} (h:ltP a b=true):ltP b a=false:=by
 unfold ltP at h ⊢
 by_cases e:a.1=b.1
 ·rw [if_pos e] at h;rw [if_pos e.symm];exact pD h
 ·rw [if_neg e] at h;rw [if_neg (Ne.symm e)];exact pD h
theorem zC6 {a b c:Str × Str} (h1:ltP b a=false) (h2:ltP c b=false):ltP c a=false:=by
 unfold ltP at h1 h2 ⊢
 by_cases e1:b.1=a.1 <;> by_cases e2:c.1=b.1
 ·rw [if_pos e1] at h1;rw [if_pos e2] at h2;rw [if_pos (e2.trans e1)];exact mE h1 h2
 ·rw [if_neg e2] at h2;rw [if_neg (fun z=>e2 (z.trans e1.symm)),<- e1];exact h2
 ·rw [if_neg e1] at h1;rw [if_neg (fun z=>e1 (e2.symm.trans z)),e2];exact h1
 ·rw [if_neg e1] at h1;rw [if_neg e2] at h2
  by_cases e3:c.1=a.1
  ·exact absurd (mF (a:=b.1) (b:=a.1) h1 (by rw [<- e3];exact h2)) e1
  ·rw [if_neg e3];exact mE h1 h2
def Asc {α:Type} (lt:α->α->Bool) (l:List α):Prop:=l.Pairwise fun a b=>lt b a=false
theorem zBH {α:Type} {lt:α->α->Bool} (tot:∀ a b,lt a b=false->lt b a=false->a=b):∀ {l l':List α},l.Perm l'->Asc lt l->Asc lt l'->l=l':=by
 intro l
 induction l with
 | nil=>intro l' p _ _;exact (List.Perm.nil_eq p)
 | cons x l ih=>
  intro l' p h h'
  cases l' with
  | nil=>exact absurd p.length_eq (by simp)
  | cons y l'=>
   obtain ⟨a1,a2⟩:=List.pairwise_cons.mp h
   obtain ⟨b1,b2⟩:=List.pairwise_cons.mp h'
   have e:x=y:=by
    have hx:x ∈ y :: l':=p.mem_iff.mp zKZ
    have hy:y ∈ x :: l:=p.mem_iff.mpr zKZ
    rcases List.mem_cons.mp hx with e | hx
    ·exact e
    ·rcases List.mem_cons.mp hy with e | hy
     ·exact e.symm
     ·exact tot x y (b1 x hx) (a1 y hy)
   subst e
   rw [ih (List.Perm.cons_inv p) a2 b2]
theorem qQ:∀ (l:List Str) (p:Str),risingS p l=true->Asc ltS (p :: l)
 | [],p,_=>List.pairwise_singleton _ _
 | x :: r,p,h=>by
  unfold risingS at h
  obtain ⟨h1,h2⟩:=Bool.and_eq_true_iff.mp h
  have ih:=qQ r x h2
  have hpx:ltS x p=false:=by
   rw [ltCps_eq] at h1
   simpa [ltS] using h1
  refine List.pairwise_cons.mpr ⟨fun y hy=>?_,ih⟩
  rcases List.mem_cons.mp hy with rfl | hy
  ·exact hpx
  ·exact mE hpx ((List.pairwise_cons.mp ih).1 y hy)
theorem j6 (l:List Str) (h:sortedS l=true):Asc ltS l:=by
 cases l with
 | nil=>exact .nil
 | cons x r=>exact qQ r x h
theorem p7:∀ {us:List Value} {ys:List Str},StrsAre us ys->zY (ys.map V.str) us
 | _,_,.nil=>.nil
 | _,_,.cons _ _ h=>.cons ⟨_,rfl⟩ (p7 h)
section
variable {X:Cx}
theorem w6:wV X (.builtin "sorted") (fun xs H Q=>∃ (a:Addr) (zs:List Str),xs=[.ref a]/\H a=some (.lst (zs.map V.str))/\zs.length < 64 /\
  ∀ (l:Addr) (ys:List Str),H l=none->ys.Perm zs->Asc ltS ys->Q (.ref l) (upd H l (.lst (ys.map V.str)))):=by
 intro zp s σ H xs us Q I r h
 obtain ⟨a,zs,rfl,hS,hz,q⟩:=h
 obtain ⟨u,rfl,rx⟩:=uS r
 cases rx
 obtain ⟨its,r',pl,hzl⟩:=I.list (.of hS)
 have hst:=nC r'
 have hl:its.length=zs.length:=by have:=r'.length;rw [zJ6] at this;exact this.symm
 refine sorted_strs pl.isList hst (by omega) fun out ss a1 a2 a3=>?_
 obtain ⟨e,he⟩:=sortedAll_at s.heap its out
 have le:ss.length=zs.length:=a2.length_eq
 refine ⟨.ref (s.heap.objs.size + 1),_,I.laid (t':=s.toks) (h':=sortedAll s.heap its out) (o:=.lst (ss.map V.str)) (fun b o z=>sortedAll_old z) (Nat.le_succ _) ?_,rfl,q _ ss (I.hok.fresh (Nat.le_succ _)) a2 (j6 _ a3)⟩
 exact ⟨by rw [zJ6,sizeLine_eq];omega,out.toList,e,p7 a1,by rw [Array.toArray_toList];exact he⟩
end
def zDX (h:Heap) (v:Value) (p:Str × Str):Prop:=∃ (t:Addr) (o:Obj) (k:Nat) (t1 t2:Tok),v=.ref t/\h.get? t=some o/\o.cls=.type "tuple"/\o.data=.seq #[.str p.1 t1,.str p.2 t2] k
inductive vB (h:Heap):List Value->LSS->Prop
 | nil:vB h [] []
 | cons {v:Value} {p:Str × Str} {vs:List Value} {ps:LSS} (a:zDX h v p) (r:vB h vs ps):vB h (v :: vs) (p :: ps)
theorem vB.len {h:Heap} {vs:List Value} {ps:LSS} (x:vB h vs ps):vs.length=ps.length:=by
 induction x with
 | nil=>rfl
 | cons _ _ ih=>rw [zKR,zKR,ih]
theorem vB.get {h:Heap} {vs:List Value} {ps:LSS} (x:vB h vs ps):∀ (i:Nat),i < vs.length->zDX h (vs.getD i .none) (ps.getD i (Str.empty,Str.empty)):=by
 induction x with
 | nil=>exact fun i hi=>absurd hi (Nat.not_lt_zero _)
 | cons a r ih=>
  intro i hi
  cases i with
  | zero=>exact a
  | succ i=>exact ih i (by simpa using hi)
theorem vB.keep {h h':Heap} {a:Addr} {u:Array Value} {n:Nat} (ha:h.get? a=some (seqObj "list" u n)) (k:∀ b o,b ≠ a->h.get? b=some o->h'.get? b=some o) {vs:List Value} {ps:LSS} (x:vB h vs ps):vB h' vs ps:=by
 induction x with
 | nil=>exact .nil
 | cons c r ih=>
  obtain ⟨t,o,j,t1,t2,e1,e2,e3,e4⟩:=c
  refine .cons ⟨t,o,j,t1,t2,e1,k t o (fun z=>?_) e2,e3,e4⟩ ih
  rw [z,ha] at e2
  cases e2
  exact absurd e3 (by show ¬ (Value.type "list"=Value.type "tuple");decide)
section
variable {prog:Program} {w:World} {A:Around} {E:VSP} {s:Shared}
theorem zBG {x y:Value} {p q:Str × Str} {C:Bool->Shared->Prop} (hx:zDX s.heap x p) (hy:zDX s.heap y q) (h:C (ltP p q) s):wpAny (model prog w) A (keyLt' (tuples' true) x y) C E s:=by
 obtain ⟨t,o,j,t1,t2,rfl,e2,_,e4⟩:=hx
 obtain ⟨t',o',j',t3,t4,rfl,f2,_,f4⟩:=hy
 refine kat_lt e2 e4 f2 f4 ?_
 show KatLex prog w A true _ C [(.str p.1 t1,.str q.1 t3),(.str p.2 t2,.str q.2 t4)] 0 s
 refine kat_cons (eqBool_str ?_)
 unfold ltP at h
 by_cases e:p.1=q.1
 ·rw [show (p.1 == q.1)=true by simpa using e]
  rw [if_pos e] at h
  refine kat_yes (kat_cons (eqBool_str ?_))
  by_cases e':p.2=q.2
  ·rw [show (p.2 == q.2)=true by simpa using e']
   rw [e',zAD] at h
   exact kat_yes (kat_nil h)
  ·rw [show (p.2 == q.2)=false by simpa using e']
   exact kat_no (kat_one _ _ (PyProof.Rows.lt_str h))
 ·rw [show (p.1 == q.1)=false by simpa using e]
  rw [if_neg e] at h
  exact kat_no (oneLt_str h)
theorem iP {vs:List Value} {ps:LSS} {C:SortKind->Shared->Prop} (x:vB s.heap vs ps) (hne:0 < vs.length) (h:C (tuples' true) s):wpAny (model prog w) A (keyKind' vs.toArray) C E s:=by
 have key:∀ {vs:List Value} {ps:LSS},vB s.heap vs ps->∃ fs,KatTups s.heap vs fs/\fs.length=vs.length/\∀ v ∈ fs,∃ z t,v=.str z t:=by
  intro vs ps x
  induction x with
  | nil=>exact ⟨[],KatTups.nil,rfl,fun v hv=>by cases hv⟩
  | cons c r ih=>
   obtain ⟨fs,a1,a2,a3⟩:=ih
   obtain ⟨t,o,j,t1,t2,rfl,e2,e3,e4⟩:=c
   refine ⟨_ :: fs,KatTups.cons e2 e3 e4 rfl a1,by rw [zKR,zKR,a2],fun v hv=>?_⟩
   rcases List.mem_cons.mp hv with rfl | hv
   ·exact ⟨_,_,rfl⟩
   ·exact a3 v hv
 obtain ⟨fs,a1,a2,a3⟩:=key x
 refine kat_kind (T:=.type "str") a1 (by omega) (fun v hv=>?_) rfl h
 obtain ⟨z,t,rfl⟩:=a3 v hv
 exact Looks.of_pure rfl
def wW {α:Type} (p:Array Nat) (l:List α) (d:α):List α:=p.toList.map fun i=>l.getD i d
theorem eZ {α:Type} {p:Array Nat} {l:List α} (d:α) (h:p.Perm (List.range l.length).toArray):(wW p l d).Perm l:=by
 have h1:(wW p l d).Perm ((List.range l.length).map fun i=>l.getD i d):=(Array.perm_iff_toList_perm.mp h).map _
 have e:(List.range l.length).map (fun i=>l.getD i d)=l:=by
  apply List.ext_getElem
  ·simp
  ·intro i g1 g2
   simp [zKB,zJ7 g2]
 rwa [e] at h1
theorem aI {p:Array Nat} {ps:LSS} {n:Nat} (hp:p.size=n) (u:Up (fun i j=>ltP (ps.getD i (Str.empty,Str.empty)) (ps.getD j (Str.empty,Str.empty))) p n):Asc ltP (wW p ps (Str.empty,Str.empty)):=by
 refine List.pairwise_iff_getElem.mpr fun i j hi hj hij=>?_
 unfold wW at hi hj ⊢
 rw [zJ6,Array.length_toList] at hi hj
 have z:=u i j (Nat.le_of_lt hij) (by omega)
 unfold leK gA at z
 simp only [zK5,Array.getElem?_eq_getElem hi,Array.getElem?_eq_getElem hj,Option.getD_some] at z
 simpa using z
theorem j7 {a:Addr} {vs:List Value} {ps:LSS} {n:Nat} {P:PySem.Fin->Shared->Prop} (hA:s.heap.get? a=some (seqObj "list" vs.toArray n)) (hT:vB s.heap vs ps) (h64:vs.length < 64)
  (h:∀ (p:Array Nat) (g:Heap) (c:Nat),p.Perm (List.range vs.length).toArray->Asc ltP (wW p ps (Str.empty,Str.empty))->(∀ b o,b ≠ a->s.heap.get? b=some o->g.get? b=some o)->g.get? a=some (seqObj "list" (wW p vs .none).toArray c) ->
   P (.done (.ret .none)) { s with heap:=g }):wpAny (model prog w) A (Builtin.«list.sort» ⟨[.ref a],[]⟩) P E s:=by
 have lsz:vs.length <= sizeLine:=by rw [sizeLine_eq];omega
 obtain ⟨e1,hA1⟩:∃ e1,(s.heap.update a (Obj.mapSeq fun _=>(#[]:Array Value))).get? a=some (seqObj "list" #[] e1):=⟨_,get?_update_seq hA fun _=>#[]⟩
 rw [list_sort_plain]
 refine wpAny_bind (listItems_at hA rfl (wpAny_bind (listUpdate_at hA rfl (wpAny_bind (seqEpoch_at hA1 rfl (wpAny_bind (wpAny_newTuple (wpAny_bind (wpAny_newList (wpAny_holding ?_) (zKG _))) lsz)))) (by rw [zKE];exact lsz) (zKG _))))
 obtain ⟨g0,eg⟩:∃ g0,g0=((s.heap.update a (Obj.mapSeq fun _=>(#[]:Array Value))).push (seqObj "tuple" vs.toArray 0)).push (seqObj "list" #[] 0):=⟨_,rfl⟩
 have hA2:g0.get? a=some (seqObj "list" #[] e1):=by rw [eg];exact Heap.get?_push_of_some _ (Heap.get?_push_of_some _ hA1)
 have kp:∀ b o,b ≠ a->s.heap.get? b=some o->g0.get? b=some o:=fun b o hb z=>by
  rw [eg];exact Heap.get?_push_of_some _ (Heap.get?_push_of_some _ ((Heap.get?_update_ne _ _ _ _ hb).trans z))
 show wpAny (model prog w) A _ P E { s with heap:=((s.heap.update a (Obj.mapSeq fun _=>(#[]:Array Value))).push (seqObj "tuple" vs.toArray 0)).push (seqObj "list" #[] 0) }
 rw [<- eg]
 dsimp only
 have hT0:vB g0 vs ps:=hT.keep hA kp
 have fin:∀ (st:SortSt) (p:Array Nat),p.Perm (List.range vs.length).toArray->Asc ltP (wW p ps (Str.empty,Str.empty))->(arrOf st).map (·.2)=(wW p vs .none).toArray->failedOf st=none ->
   P (.done (.ret .none)) { s with heap:=g0.update a (Obj.mapSeq fun _=>(arrOf st).map (·.2)) }:=fun st p hp ha ho _=>by
  rw [ho]
  exact h p _ _ hp ha (fun b o hb z=>(Heap.get?_update_ne _ _ _ _ hb).trans (kp b o hb z)) (get?_update_seq hA2 fun _=>(wW p vs .none).toArray)
 by_cases h2:vs.toArray.size < 2
 ·rw [if_pos h2,if_pos h2]
  refine wpAny_bind (wpAny_pure ?_)
  rw [StateT.run_pure]
  refine wpAny_bind (wpAny_pure ?_)
  dsimp only
  have l2:vs.length < 2:=by simpa using h2
  have eo:(arrOf (SortSt.mk' general' (vs.toArray.zip vs.toArray) #[] 7 none)).map (·.2)=(wW (List.range vs.length).toArray vs .none).toArray:=by
   show (vs.toArray.zip vs.toArray).map (·.2)=_
   have lv:vs=[] \/ ∃ v,vs=[v]:=by
    cases vs with
    | nil=>exact .inl rfl
    | cons v r=>cases r with
     | nil=>exact .inr ⟨v,rfl⟩
     | cons _ _=>exact absurd l2 (by simp)
   apply Array.toList_inj.mp
   rcases lv with rfl | ⟨v,rfl⟩
   ·simp [wW]
   ·simp [wW,List.range_succ]
  have z:=fin (SortSt.mk' general' (vs.toArray.zip vs.toArray) #[] 7 none) (List.range vs.length).toArray (.refl _) (by
   have lp:=hT.len
   unfold wW
   refine List.pairwise_iff_getElem.mpr fun i j hi hj hij=>?_
   simp at hi hj
   omega) eo rfl
  have sz:((arrOf (SortSt.mk' general' (vs.toArray.zip vs.toArray) #[] 7 none)).map (·.2)).size <= sizeLine:=by
   rw [eo];show (wW _ _ _).length <= _;unfold wW;simp;exact lsz
  refine wpAny_bind (seqEpoch_at hA2 rfl (wpAny_bind (listUpdate_at hA2 rfl ?_ (zKG _) (Nat.le_succ_of_le sz))))
  simp only [bne_self_eq_false,Bool.false_eq_true,if_false]
  exact wpAny_pure z
 ·rw [if_neg h2,if_neg h2]
  have l2:2 <= vs.length:=by simpa using h2
  let lt:Nat->Nat->Bool:=fun i j=>ltP (ps.getD i (Str.empty,Str.empty)) (ps.getD j (Str.empty,Str.empty))
  have O:LtO lt:=⟨fun i j q=>zAE q,fun i j k q1 q2=>zC6 q1 q2⟩
  obtain ⟨pp,up⟩:=zBY O (n:=vs.length) (by omega)
  have psz:(evK lt (kas_sort vs.length)).size=vs.length:=by rw [pp.size_eq];simp
  refine wpAny_bind (iP (s:={ s with heap:=g0 }) hT0 (by omega) ?_)
  refine wpAny_bind (wpAny_mono (kat_run (κ:=tuples' true) (ks:=vs) (vs:=vs) (G:=fun p s'=>p=evK lt (kas_sort vs.length)/\s' = { s with heap:=g0 })
   (Q:=fun st s'=>(arrOf st).map (·.2)=(wW (evK lt (kas_sort vs.length)) vs .none).toArray/\failedOf st=none/\s' = { s with heap:=g0 }) rfl l2 h64 (fun p st s' _ b2 b3 b4=>⟨by rw [<- b4.1];exact kat_snds rfl b2,b3,b4.2⟩) ?_) ?_ fun _ _ z=>z)
  ·
   refine zHE (lt:=lt) (Pq:=fun s'=>s' = { s with heap:=g0 }) (fun i j C s' hi hj hs hC=>?_) _ (zBX (by omega)) _ rfl fun s' hs=>⟨rfl,hs⟩
   subst hs
   exact zBG (hT0.get i hi) (hT0.get j hj) (hC _ rfl)
  ·rintro ⟨⟨⟩,st⟩ s' ⟨b1,b2,rfl⟩
   dsimp only
   have sz:((arrOf st).map (·.2)).size <= sizeLine:=by
    rw [b1];show (wW _ _ _).length <= _;unfold wW;rw [zJ6,Array.length_toList,psz];exact lsz
   refine wpAny_bind (seqEpoch_at hA2 rfl (wpAny_bind (listUpdate_at hA2 rfl ?_ (zKG _) (Nat.le_succ_of_le sz))))
   rw [b2]
   simp only [bne_self_eq_false,Bool.false_eq_true,if_false]
   exact wpAny_pure (fin st _ pp (aI psz up) b1 b2)
end
def xO (p:Str × Str):List V:=[.str p.1,.str p.2]
theorem gP:∀ {qs:List Addr} {us:List Value},zY (qs.map V.ref) us->us=qs.map Value.ref
 | [],_,.nil=>rfl
 | q :: qs,_,.cons r h=>by
  rw [List.map_cons,<- gP h]
  exact congrArg (· :: _) r
theorem p8:∀ (qs:List Addr),zY (qs.map V.ref) (qs.map Value.ref)
 | []=>.nil
 | _ :: qs=>.cons rfl (p8 qs)
section
variable {X:Cx} {zp:LAO} {σ:St} {H:Hp} {s:Shared}
theorem aS (I:Inv X zp σ H s):∀ {qs:List Addr} {ps:LSS},Paired (fun q r=>H q=some (.tup r)) qs (ps.map xO)->vB s.heap (qs.map Value.ref) ps:=by
 intro qs
 induction qs with
 | nil=>
  intro ps h
  cases ps with
  | nil=>exact .nil
  | cons _ _=>cases h
 | cons q qs ih=>
  intro ps h
  cases ps with
  | nil=>cases h
  | cons p ps=>
   cases h with
   | cons h1 h2=>
   obtain ⟨its,r,pl,_⟩:=I.tuple (.of h1)
   obtain ⟨o,ho,hc,n,hd⟩:=pl
   cases r with
   | cons r1 r=>
   cases r with
   | cons r2 r=>
   cases r
   obtain ⟨t1,rfl⟩:=r1
   obtain ⟨t2,rfl⟩:=r2
   exact .cons ⟨q,o,n,t1,t2,rfl,ho,hc,hd⟩ (ih h2)
theorem vB.more {h h':Heap} (k:∀ b o,h.get? b=some o->h'.get? b=some o) {vs:List Value} {ps:LSS} (x:vB h vs ps):vB h' vs ps:=by
 induction x with
 | nil=>exact .nil
 | cons c r ih=>
  obtain ⟨t,o,j,t1,t2,e1,e2,e3,e4⟩:=c
  exact .cons ⟨t,o,j,t1,t2,e1,k t o e2,e3,e4⟩ ih
theorem lM {α β:Type} (f:α->β) (p:Array Nat) (l:List α) (d:α) (e:β) (hp:∀ i ∈ p.toList,i < l.length):wW p (l.map f) e=(wW p l d).map f:=by
 unfold wW
 rw [List.map_map]
 refine List.map_congr_left fun i hi=>?_
 have:=hp i hi
 simp [zKB,zJ7 this]
theorem lQ {R:Addr->List V->Prop} {qs:List Addr} {rs:List (List V)} (h:Paired R qs rs) (p:Array Nat) (hp:∀ i ∈ p.toList,i < qs.length):Paired R (wW p qs 0) (wW p rs []):=by
 unfold wW
 have get:∀ i,i < qs.length->R (qs.getD i 0) (rs.getD i []):=by
  clear hp
  induction h with
  | nil=>exact fun i hi=>absurd hi (Nat.not_lt_zero _)
  | cons a r ih=>
   intro i hi
   cases i with
   | zero=>exact a
   | succ i=>exact ih i (by simpa using hi)
 generalize p.toList=l at hp
 induction l with
 | nil=>exact .nil
 | cons i l ih=>exact .cons (get i (hp i zKZ)) (ih fun j hj=>hp j (zKJ _ hj))
theorem mO:wV X (.builtin "sorted") (fun xs H Q=>∃ (a:Addr) (qs:List Addr) (ps:LSS),xs=[.ref a]/\H a=some (.lst (qs.map V.ref))/\Paired (fun q r=>H q=some (.tup r)) qs (ps.map xO)/\ps.length < 64 /\
  ∀ (l:Addr) (qs':List Addr) (ps':LSS),H l=none->ps'.Perm ps->Asc ltP ps'->Paired (fun q r=>H q=some (.tup r)) qs' (ps'.map xO)->Q (.ref l) (upd H l (.lst (qs'.map V.ref)))):=by
 intro zp s σ H xs us Q I r h
 obtain ⟨a,qs,ps,rfl,hA,hP,hz,q⟩:=h
 obtain ⟨u,rfl,rx⟩:=uS r
 cases rx
 obtain ⟨its,r',pl,hzl⟩:=I.list (.of hA)
 have ei:=gP r'
 subst ei
 have hpr:=aS I hP
 have lq:qs.length=ps.length:=by have:=hpr.len;rwa [zJ6] at this
 have lv:(qs.map Value.ref).length < 64:=by rw [zJ6];omega
 refine Calls.call_function_entry kind_sorted plain_sorted entry_sorted (args_sorted1 _) ?_
 unfold Builtin.«sorted»
 refine wpAny_bind (m:=checkCount "sorted" 1 1 _) (wpAny_pure (wpAny_bind (collect_list pl.isList (wpAny_bind (wpAny_newList ?_ (by rw [sizeLine_eq];omega))) (by rw [sizeLine_eq];omega))))
 obtain ⟨g0,eg⟩:∃ g0,g0=(s.heap.push (seqObj "list" #[] 0)).update s.heap.objs.size (Obj.mapSeq (· ++ (qs.map Value.ref).toArray)):=⟨_,rfl⟩
 have gs:g0.objs.size=s.heap.objs.size + 1:=by rw [eg,Heap.size_update,size_push']
 have k0:∀ b o,s.heap.get? b=some o->(g0.push (seqObj "list" (qs.map Value.ref).toArray 0)).get? b=some o:=fun b o z=>by
  have hlt:b < s.heap.objs.size:=Heap.lt_size z
  refine Heap.get?_push_of_some _ ?_
  rw [eg,Heap.get?_update_ne _ _ _ _ (zKX hlt)]
  exact Heap.get?_push_of_some _ z
 have hN:(g0.push (seqObj "list" (qs.map Value.ref).toArray 0)).get? (s.heap.objs.size + 1)=some (seqObj "list" (qs.map Value.ref).toArray 0):=by
  rw [<- gs];exact Heap.get?_push_size _ rfl
 show wpAny _ _ _ _ _ { s with heap:=((s.heap.push (seqObj "list" #[] 0)).update s.heap.objs.size (Obj.mapSeq (· ++ (qs.map Value.ref).toArray))).push (seqObj "list" (qs.map Value.ref).toArray 0) }
 rw [<- eg,gs]
 refine wpAny_bind (wpAny_holding (wpAny_call_entry slot_list_sort ⟨_,hN,rfl⟩ entry_list_sort (j7 hN (hpr.more k0) lv fun p g c b1 b2 b3 b4=>⟨_,rfl,?_⟩) (args_list_sort _)))
 refine wpAny_pure ⟨_,rfl,?_⟩
 rw [zJ6] at b1
 have hin:∀ i ∈ p.toList,i < qs.length:=fun i hi=>by
  have:=(Array.perm_iff_toList_perm.mp b1).mem_iff.mp hi
  simpa using this
 have pq:=lQ hP p hin
 have er:wW p (ps.map xO) []=(wW p ps (Str.empty,Str.empty)).map xO:=lM xO p ps _ _ (fun i hi=>by rw [<- lq];exact hin i hi)
 rw [er] at pq
 have ev:wW p (qs.map Value.ref) .none=(wW p qs 0).map Value.ref:=lM Value.ref p qs _ _ hin
 rw [ev] at b4
 have old:∀ b o,s.heap.get? b=some o->g.get? b=some o:=fun b o z=>b3 b o (zKX (Nat.lt_succ_of_lt (Heap.lt_size z))) (k0 b o z)
 refine ⟨.ref (s.heap.objs.size + 1),_,I.laid (t':=s.toks) (h':=g) (o:=.lst ((wW p qs 0).map V.ref)) old (Nat.le_succ _) ?_,rfl,q _ _ _ (I.hok.fresh (Nat.le_succ _)) (eZ _ (by rw [<- lq];exact b1)) b2 pq⟩
 refine ⟨?_,_,c,p8 _,b4⟩
 unfold wW
 rw [zJ6,zJ6,Array.length_toList,b1.size_eq]
 simp
 rw [sizeLine_eq];omega
end
def vJ (val:Nat->Str):Nat->List Str
 | 0=>[]
 | i + 1=>if (vJ val i).any (· == val i) then vJ val i else vJ val i ++ [val i]
theorem lZ (val:Nat->Str) (i:Nat) (k:Str):(vJ val (i + 1)).any (· == k)=((vJ val i).any (· == k) || k == val i):=by
 show (if (vJ val i).any (· == val i) then vJ val i else vJ val i ++ [val i]).any (· == k)=_
 by_cases h:(vJ val i).any (· == val i)=true
 ·rw [if_pos h]
  by_cases hk:k=val i
  ·subst hk;rw [h];simp
  ·rw [show (k == val i)=false by simpa using hk,Bool.or_false]
 ·rw [if_neg h,List.any_append]
  simp only [List.any_cons,List.any_nil,Bool.or_false]
  rw [Bool.beq_comm (a:=k)]
theorem pB (val:Nat->Str) (i:Nat):(vJ val (i + 1)).length=if (vJ val i).any (· == val i) then (vJ val i).length else (vJ val i).length + 1:=by
 show (if (vJ val i).any (· == val i) then vJ val i else vJ val i ++ [val i]).length=_
 split <;> simp
theorem mD (val:Nat->Str):∀ i,(vJ val i).length <= i
 | 0=>zKF _
 | i + 1=>by
  rw [pB]
  have:=mD val i
  split <;> omega
theorem pA {val:Nat->Str}:∀ n,(∀ i j,i < n->j < n->val i=val j->i=j)->(vJ val n).length=n/\∀ k,(vJ val n).any (· == k)=true->∃ i,i < n/\val i=k
 | 0,_=>⟨rfl,fun k h=>by simp [vJ] at h⟩
 | n + 1,h=>by
  obtain ⟨a1,a2⟩:=pA n fun i j hi hj e=>h i j (by omega) (by omega) e
  have no:(vJ val n).any (· == val n)=false:=by
   cases c:(vJ val n).any (· == val n) with
   | false=>rfl
   | true=>
    obtain ⟨i,hi,e⟩:=a2 _ c
    have:=h i n (by omega) (by omega) e
    omega
  refine ⟨by rw [pB,no,a1];rfl,fun k hk=>?_⟩
  rw [lZ] at hk
  rcases Bool.or_eq_true_iff.mp hk with q | q
  ·obtain ⟨i,hi,e⟩:=a2 k q
   exact ⟨i,by omega,e⟩
  ·exact ⟨n,by omega,by simpa using (beq_iff_eq.mp q).symm⟩
section
variable {prog:Program} {w:World} {A:Around} {R:Result->Shared->Prop} {I:Addr} {fp wr:List Addr} {G:Array GenState->Array GenState->Prop} {n:Nat} {P:Nat->Value->Prop} {St:Nat->Shared->Prop}
abbrev mY (prog:Program) (w:World) (h:Heap) (S:Addr) (val:Nat->Str) (i:Nat):Prop:=h.SetOf (PySem.strKind prog w) S (fun k=>(vJ val i).any (· == k)) (vJ val i).length
theorem rD {h h':Heap} {S:Addr} {val:Nat->Str} {i:Nat} (x:mY prog w h S val i) (k:∀ o,h.get? S=some o->h'.get? S=some o):mY prog w h' S val i:=by
 obtain ⟨o,es,ep,tb,ho,q⟩:=x
 exact ⟨o,es,ep,tb,k o ho,q⟩
theorem f7 (W:WalksS prog w A.in1 I fp wr G n P St) (S:Addr) (hSf:S ∉ fp) (val:Nat->Str) (hval:∀ i v,P i v->∃ t,v=.str (val i) t) (hb:n + 1 < scanBound):∀ (k i:Nat) (s:Shared),n - i=k->i <= n->St i s->mY prog w s.heap S val i ->
  (∀ s',Moved (S :: wr) G s s'->mY prog w s'.heap S val n->R (.ok (.ret .none)) s')->codeAny (model prog w) A (.builtin "set.update.loop" ⟨[.ref S,.ref I],[]⟩) R s:=by
 have nw:S ∉ wr:=fun z=>hSf (W.sub _ z)
 have more:∀ b ∈ wr,b ∈ S :: wr:=fun b z=>zKJ _ z
 intro k
 induction k with
 | zero=>
  intro i s hk hi st hS hR
  obtain rfl:i=n:=by omega
  refine codeAny_builtin F.entry_set_update_loop ?_
  rw [Around.under_plainId F.plain_set_update_loop _]
  show wpAny _ A.in1 (pyNext (.ref I) >>= _) _ _ s
  exact wpAny_bind (W.done s _ _ st fun s' hm=>wpAny_pure (hR s' (hm.mono more) (rD hS fun o z=>hm.heap S _ nw z)))
 | succ k ih=>
  intro i s hk hi st hS hR
  have lt:i < n:=by omega
  refine codeAny_builtin F.entry_set_update_loop ?_
  rw [Around.under_plainId F.plain_set_update_loop _]
  show wpAny _ A.in1 (pyNext (.ref I) >>= _) _ _ s
  refine wpAny_bind (W.item i s _ _ lt st fun v s' hP st' hm=>?_)
  obtain ⟨t,rfl⟩:=hval i v hP
  have hS1:mY prog w s'.heap S val i:=rD hS fun o z=>hm.heap S _ nw z
  have room:=mD val i
  show wpAny _ A.in1 (holding [Value.str (val i) t] (setAdd S (.str (val i) t)) >>= _) _ _ s'
  refine wpAny_bind (wpAny_holding ?_)
  unfold setAdd
  refine wpAny_holding (wpAny_bind ((PySem.strKind prog w).pyHash (k:=val i) (strKind_is _ _ _ _) (wpAny_setAddHashed_of (knd:=PySem.strKind prog w) (s:={ s' with toks:=s'.toks + 1 }) (strKind_is _ _ _ _) rfl hS1 (by omega) fun h' hsb hS2=>?_)))
  have hS3:mY prog w h' S val (i + 1):=SetOf_congr hS2 (fun k'=>by rw [lZ];rfl) (by rw [pB])
  refine wpAny_pure ⟨plainId_quiet F.plain_set_update_loop _,ih (i + 1) _ (by omega) lt (W.frame _ s' _ _ st' (Nat.le_succ _) fun b hb o e=>?_) hS3 fun s2 hm2 hS4=>hR s2 (Moved.trans W.gtrans ((hm.mono more).then_heap (Nat.le_succ _) fun b o hb e=>?_) hm2) hS4⟩
  ·rw [hsb.2 b (fun z:b=S=>hSf (by rw [<- z];exact hb))];exact e
  ·rw [hsb.2 b (fun z:b=S=>hb (by rw [z];exact zKZ))];exact e
end
section
variable {prog:Program} {w:World} {A:Around} {E:VSP} {s:Shared}
abbrev iI (led:Bool):Obj:={ cls:=.type "set",dict:=none,data:=.set #[] 0 (.fresh 0 0 led) }
theorem f8 {l:Addr} {items:Array Value} {val:Nat->Str} {Q:VSP} (hh:A.handled=none) (hl:s.heap.IsList l items) (hv:∀ (i:Nat) (v:Value),items[i]?=some v->∃ t,v=.str (val i) t) (hb:items.size + 1 < scanBound)
  (h:∀ (g:Heap) (tk:Nat),mY prog w g s.heap.objs.size val items.size->(∀ b o,b < s.heap.objs.size->s.heap.get? b=some o->g.get? b=some o)->Q (.ref s.heap.objs.size) { s with heap:=g,toks:=tk }) :
  wpAny (model prog w) A (call (.type "set") [.ref l]) Q E s:=by
 obtain ⟨c,tl,hmro⟩:=F.called_set.mro
 have hmade:=F.called_set.made
 have hsub:=F.called_set.sub
 refine wpAny_call (codeAny_of_tree ?_)
 show wpAny _ _ (callAny (.type "set") _) _ _ _
 refine wpAny_pure ⟨Code.quiet_builtin _ (by decide +kernel),codeAny_builtin F.entry_type_call ?_⟩
 rw [Around.under_plain (weight_type_call_type "set" [.ref l] []) rfl]
 have h1:=F.called_set.notType
 have h2:=F.called_set.canCreate
 have hct:=F.typeCall_set_1 (.ref l)
 repeat (any_goals (first | assumption | wp_step))
 refine codeAny_mono (code_set_new_1 (.ref l) (E:=E) (Q₁:=fun obj s1=>∃ led:Bool,obj=.ref s.heap.objs.size/\s1 = { s with heap:=s.heap.push (iI led) }) fun led=>⟨led,rfl,rfl⟩) fun r s1 hr=>?_
 cases r with
 | error e=>exact hr
 | ok fl=>
  cases fl with
  | ret obj=>
   obtain ⟨led,rfl,rfl⟩:=hr
   have gS:(s.heap.push (iI led)).get? s.heap.objs.size=some (iI led):=Heap.get?_push_size _ rfl
   have hT:Shared.TypeIs { s with heap:=s.heap.push (iI led) } (.ref s.heap.objs.size) "set":=⟨_,gS,rfl⟩
   have hli:=F.called_set.init.lookup
   have hbi:=F.called_set.init.bind (.ref s.heap.objs.size)
   repeat (any_goals (first | assumption | wp_step))
   refine codeAny_mono (codeAny_call_builtin (R:=wants (fun r s2=>r=.none/\∃ g tk,s2 = { s with heap:=g,toks:=tk }/\mY prog w g s.heap.objs.size val items.size/\(∀ b o,b < s.heap.objs.size->s.heap.get? b=some o->g.get? b=some o)) E)
    F.called_set.init.plain F.entry_set_init (check_set_init_1 hT ?_)) fun r2 s2 hr2=>?_
   ·obtain ⟨⟨ocls,odict,odata,oslots⟩,hol,hcl,nl,hdl⟩:=hl
    simp only at hcl hdl
    subst hcl;subst hdl
    have hol':(s.heap.push (iI led)).get? l=some { cls:=.type "list",dict:=odict,data:=.seq items nl,slots:=oslots }:=Heap.get?_push_of_some _ hol
    have hsls:=F.sub_list_set
    have hslf:=F.sub_list_frozenset
    have hne:(Value.type "list" == Value.type "dict")=false:=by decide
    have hl1:(s.heap.push (iI led)).IsList l items:=⟨_,hol',rfl,nl,rfl⟩
    unfold Builtin.«set.__init__» noKeywords Builtin.Frozenset.updateFrom
    generalize hPI:pyIter=PI
    wp_walk
    subst hPI
    refine wpAny_pyIter_list hl1 (wpAny_bind (wpAny_runValue ?_))
    have hlS:l < s.heap.objs.size:=Heap.lt_size hol
    have sz:(s.heap.push (iI led)).objs.size=s.heap.objs.size + 1:=Heap.size_push _ _
    refine f7 ((Walks.list (A:=A.in1.in1.in1) (by simp [hh]) _ l (by rw [sz];exact zKX (Nat.lt_succ_of_lt hlS)) items).toS) s.heap.objs.size (by rw [sz];simp;exact Nat.ne_of_gt hlS) val hv hb (items.size - 0) 0 _ (by omega) (zKG _) ⟨⟨_,Heap.get?_push_size _ rfl,rfl,rfl⟩,(hl1.push _)⟩ ?z0 ?zR
    case z0=>
     exact SetOf_congr ((setObjOf_fresh (knd:=PySem.strKind prog w) led).setOf (Heap.get?_push_of_some _ gS) (by unfold scanBound;omega)) (fun _=>rfl) rfl
    case zR=>
     intro s' hm hS'
     obtain ⟨g,g',d',tk',os'⟩:=s'
     have eg:g'=s.gens:=hm.gens
     have ed:d'=s.drawn:=hm.drawn
     have eo:os'=s.os:=hm.os
     subst eg;subst ed;subst eo
     show wpAny _ _ _ _ _ _
     refine wpAny_pure ?_
     show wpAny _ _ (ret Value.none) _ _ _
     refine wpAny_pure ⟨rfl,g,tk',rfl,hS',fun b o hb e=>hm.heap b o ?_ (Heap.get?_push_of_some _ (Heap.get?_push_of_some _ e))⟩
     rw [sz];simp;exact ⟨zKX hb,zKX (Nat.lt_succ_of_lt hb)⟩
   ·cases r2 with
    | error e=>exact hr2
    | ok fl2=>
     cases fl2 with
     | ret r=>
      obtain ⟨rfl,g,tk,rfl,hS',hk'⟩:=hr2
      repeat (any_goals (first | assumption | wp_step))
      exact h _ _ hS' hk'
     | _=>exact hr2.elim
  | _=>exact hr.elim
end
def jB (zs:List Str):Nat:=(vJ (fun i=>zs.getD i Str.empty) zs.length).length
theorem jA {zs:List Str} (h:zs.Nodup):jB zs=zs.length:=by
 refine (pA zs.length fun i j hi hj q=>?_).1
 simp only [zKB,zJ7 hi,zJ7 hj,Option.getD_some] at q
 exact (List.getElem_inj h).mp q
def zB1 (P:Program) (w:World) (a:Addr) (zs:List Str):HO:=.ext fun h=>mY P w h a (fun i=>zs.getD i Str.empty) zs.length
section
variable {X:Cx}
theorem cY {zs:List Str} {its:List Value} (r:StrsAre its zs):∀ (i:Nat) (v:Value),its.toArray[i]?=some v->∃ t,v=.str (zs.getD i Str.empty) t:=by
 induction r with
 | nil=>intro i v h;simp at h
 | cons x t r ih=>
  intro i v h
  cases i with
  | zero=>simp at h;exact ⟨t,h.symm⟩
  | succ i=>simp at h;exact ih i v (by simpa using h)
theorem d7 (hc:X.calm=true):wV X (.type "set") (fun xs H Q=>∃ (a:Addr) (zs:List Str),xs=[.ref a]/\H a=some (.lst (zs.map V.str))/\zs.length < 1000/\∀ p,H p=none->Q (.ref p) (upd H p (zB1 X.prog X.w p zs))):=by
 intro zp s σ H xs us Q I r h
 obtain ⟨a,zs,rfl,hA,hz,q⟩:=h
 obtain ⟨u,rfl,rx⟩:=uS r
 cases rx
 obtain ⟨its,r',pl,hzl⟩:=I.list (.of hA)
 have hst:=nC r'
 have hl:its.length=zs.length:=by have:=r'.length;rw [zJ6] at this;exact this.symm
 have hsz:its.toArray.size=zs.length:=by rw [zKE];exact hl
 refine f8 (I.ok.hd hc) pl.isList (cY hst) (by rw [hsz];unfold scanBound;omega) fun g tk hS old=>?_
 rw [hsz] at hS
 have k:∀ b o,s.heap.get? b=some o->g.get? b=some o:=fun b o z=>old b o (Heap.lt_size z) z
 refine ⟨.ref s.heap.objs.size,_,I.laid (t':=tk) (h':=g) (o:=zB1 X.prog X.w s.heap.objs.size zs) k (zKF _) ⟨hS,?_,fun h1 h2 x st=>rD x st⟩,rfl,q _ (I.hok.fresh (zKF _))⟩
 obtain ⟨o,_,_,_,ho,_⟩:=hS
 exact ⟨o,ho⟩
theorem jP:wV X (.builtin "len") (fun xs H Q=>∃ (p:Addr) (zs:List Str),xs=[.ref p]/\H p=some (zB1 X.prog X.w p zs)/\zs.length < 1000/\Q (.int (jB zs)) H):=by
 intro zp s σ H xs us Q I r h
 obtain ⟨p,zs,rfl,hP,hz,q⟩:=h
 obtain ⟨u,rfl,rx⟩:=uS r
 cases rx
 obtain ⟨hS,_,_⟩:=I.hok p _ hP
 obtain ⟨o,es,ep,t,ho,hex,hd,hel,hmem,hb,hf,hn⟩:=hS
 have le:=mD (fun i=>zs.getD i Str.empty) zs.length
 have en:es.size=jB zs:=hn
 have lm:jB zs <= zs.length:=le
 refine call_len_set ho hex hd hf (by rw [en];omega) ⟨.int (jB zs),H,I.tok _,⟨s.toks + 1,by rw [en]⟩,q⟩
def iK (a b:Str):Str:=if ltS b a then b else a
def iL (a b:Str):Str:=if ltS a b then b else a
theorem o6 {a b:Str} {t u:Tok} (i:Nat) (v:Value) (h:#[Value.str a t,.str b u][i]?=some v):(i=0/\v=.str a t) \/ (i=1/\v=.str b u):=by
 cases i with
 | zero=>simp at h;exact .inl ⟨rfl,h.symm⟩
 | succ i=>cases i with
  | zero=>simp at h;exact .inr ⟨rfl,h.symm⟩
  | succ i=>simp at h
section
variable {prog:Program} {w:World} {A:Around} {E:VSP} {s:Shared}
abbrev wS (a b:Str) (i:Nat):Str:=if i=0 then a else b
theorem zG0 {a b:Str} {t u:Tok}:CmpOf prog w A .Lt (fun i v=>#[Value.str a t,.str b u][i]?=some v) (fun i j=>ltS (wS a b i) (wS a b j)):=fun i j vi vj s Q E hi hj q=>by
 rcases o6 i vi hi with ⟨rfl,rfl⟩ | ⟨rfl,rfl⟩ <;> rcases o6 j vj hj with ⟨rfl,rfl⟩ | ⟨rfl,rfl⟩ <;> exact PyProof.Rows.lt_str q
theorem zG1 {a b:Str} {t u:Tok}:CmpOf prog w A .Gt (fun i v=>#[Value.str a t,.str b u][i]?=some v) (fun i j=>ltS (wS a b j) (wS a b i)):=fun i j vi vj s Q E hi hj q=>by
 rcases o6 i vi hi with ⟨rfl,rfl⟩ | ⟨rfl,rfl⟩ <;> rcases o6 j vj hj with ⟨rfl,rfl⟩ | ⟨rfl,rfl⟩ <;> exact PySem.P.gt_str q
theorem mZ {op:CmpOp} {bt:Nat->Nat->Bool} {x:Addr} {a b z:Str} {t u:Tok} {Q:VSP} (hh:A.handled=none) (hT:s.heap.IsTuple x #[.str a t,.str b u]) (hc:CmpOf prog w A op (fun i v=>#[Value.str a t,.str b u][i]?=some v) bt)
  (hz:∀ v,#[Value.str a t,.str b u][argBest bt 1]?=some v->∃ t,v=.str z t) (h:∀ h' tk t,(∀ c o,s.heap.get? c=some o->h'.get? c=some o)->Q (.str z t) { s with heap:=h',toks:=tk }) :
  wpAny (model prog w) A (pyIter (.ref x)) (fun it s2=>∃ I fp wr n P St bt,it=.ref I/\Walks prog w A I fp wr n P St/\St 0 s2.heap/\(∀ b ∈ fp,b < s2.heap.objs.size)/\0 < n/\CmpOf prog w A op P bt /\
   ∀ v h' tk,P (argBest bt (n - 1)) v->(∀ b o,b ∉ wr->s2.heap.get? b=some o->h'.get? b=some o)->Q v { s2 with heap:=h',toks:=tk }) E s:=by
 have hx:x < s.heap.objs.size:=by obtain ⟨o,ho,_⟩:=hT;exact Heap.lt_size ho
 refine wpAny_pyIter_tuple hT ⟨_,[_,x],[_],_,_,_,bt,rfl,Walks.tuple hh _ x (zKX hx) #[.str a t,.str b u],⟨⟨_,Heap.get?_push_size _ rfl,rfl,rfl⟩,hT.push _⟩,fun c hc=>?_,Nat.zero_lt_succ _,hc,fun v h' tk hP hk=>?_⟩
 ·show c < (s.heap.push _).objs.size
  rw [Heap.size_push]
  simp only [List.mem_cons,zK0,or_false] at hc
  rcases hc with rfl | rfl
  ·exact Nat.lt_succ_self _
  ·exact Nat.lt_succ_of_lt hx
 ·obtain ⟨t',rfl⟩:=hz v hP
  refine h h' tk t' fun c o e=>hk c o (fun hm=>?_) (Heap.get?_push_of_some _ e)
  simp only [List.mem_cons,zK0,or_false] at hm
  exact absurd (Heap.lt_size e) (by rw [hm];exact Nat.lt_irrefl _)
end
theorem zBD {a b:Str} {t u:Tok} (v:Value) (h:#[Value.str a t,.str b u][argBest (fun i j=>ltS (wS a b i) (wS a b j)) 1]?=some v):∃ t,v=.str (iK a b) t:=by
 have e:argBest (fun i j=>ltS (wS a b i) (wS a b j)) 1=if ltS b a then 1 else 0:=rfl
 rw [e] at h
 unfold iK
 cases c:ltS b a with
 | true=>rw [c] at h;simp at h;exact ⟨u,by simp [<- h]⟩
 | false=>rw [c] at h;simp at h;exact ⟨t,by simp [<- h]⟩
theorem zBE {a b:Str} {t u:Tok} (v:Value) (h:#[Value.str a t,.str b u][argBest (fun i j=>ltS (wS a b j) (wS a b i)) 1]?=some v):∃ t,v=.str (iL a b) t:=by
 have e:argBest (fun i j=>ltS (wS a b j) (wS a b i)) 1=if ltS a b then 1 else 0:=rfl
 rw [e] at h
 unfold iL
 cases c:ltS a b with
 | true=>rw [c] at h;simp at h;exact ⟨u,by simp [<- h]⟩
 | false=>rw [c] at h;simp at h;exact ⟨t,by simp [<- h]⟩
theorem hU {zp:LAO} {σ:St} {H:Hp} {s:Shared} (I:Inv X zp σ H s) {x:Addr} {a b:Str} (h:H x=some (.tup [.str a,.str b])):∃ t u,s.heap.IsTuple x #[.str a t,.str b u]:=by
 obtain ⟨its,r,pl,_⟩:=I.tuple (.of h)
 cases r with
 | cons r1 r=>
 cases r with
 | cons r2 r=>
 cases r
 obtain ⟨t1,rfl⟩:=r1
 obtain ⟨t2,rfl⟩:=r2
 exact ⟨t1,t2,pl⟩
theorem d8 (hc:X.calm=true):wV X (.builtin "min") (fun xs H Q=>∃ (x:Addr) (a b:Str),xs=[.ref x]/\H x=some (.tup [.str a,.str b])/\Q (.str (iK a b)) H):=by
 intro zp s σ H xs us Q I r h
 obtain ⟨x,a,b,rfl,hx,q⟩:=h
 obtain ⟨u,rfl,rx⟩:=uS r
 cases rx
 obtain ⟨t,u,hT⟩:=hU I hx
 exact call_min_walk (mZ (I.ok.hd hc) hT zG0 zBD fun h' tk t' k=>⟨.str (iK a b),H,I.kept k,⟨t',rfl⟩,q⟩)
theorem d9 (hc:X.calm=true):wV X (.builtin "max") (fun xs H Q=>∃ (x:Addr) (a b:Str),xs=[.ref x]/\H x=some (.tup [.str a,.str b])/\Q (.str (iL a b)) H):=by
 intro zp s σ H xs us Q I r h
 obtain ⟨x,a,b,rfl,hx,q⟩:=h
 obtain ⟨u,rfl,rx⟩:=uS r
 cases rx
 obtain ⟨t,u,hT⟩:=hU I hx
 exact call_max_walk (mZ (I.ok.hd hc) hT zG1 zBE fun h' tk t' k=>⟨.str (iL a b),H,I.kept k,⟨t',rfl⟩,q⟩)
end
end L2
namespace L2
open PySem PySem.Spec PyProof.Rows
theorem zDL {prog:Program} {w:World} {A:Around} {R:Result->Shared->Prop} {s:Shared} {kx vx target iter:Expr} {ifs:List Expr} {scope:Scope} {pos:Pos} {it:Value} {D:Addr} {env:Env} (J:Nat->Shared->Prop)
  (turn:∀ n s,J n s->wpAny (model prog w) A (pyNext it) (fun r s1=>match r with
   | none=>R (.ok .next) s1
   | some v=>wpAny (model prog w) A (letOwnedTupleGo target it v) (fun _ s1'=>wpAny (model prog w) A (assign target env v) (fun _ s2=>
     wpAny (model prog w) A (forIn ifs true fun c r=>if r=true then do let ok <- isTrue c env (eval c env);pure (ForInStep.yield ok) else pure (ForInStep.yield r)) (fun ok s3=>
      if ok=true then wpAny (model prog w) A (eval kx env) (fun y s4=>wpAny (model prog w) A (eval vx env) (fun x s5=>
       wpAny (model prog w) A (dictSet D y x) (fun _ s6=>∃ m,m < n/\J m s6) (fun _ _=>False) s5) (fun _ _=>False) s4) (fun _ _=>False) s3
      else ∃ m,m < n/\J m s3) (fun _ _=>False) s2) (fun _ _=>False) s1') (fun _ _=>False) s1) (fun _ _=>False) s)
  (n:Nat) (h:J n s):codeAny (model prog w) A (.compLoop (.DictComp kx vx [⟨target,iter,ifs,0⟩] scope pos) 0 it (.ref D) env) R s:=by
 refine codeAny_loop rfl J (fun n s hJ=>?_) n h
 have nof:∀ (e:Value) (s':Shared),False->notedBy (model prog w) A env (fun e s'=>R (.error e) s') e s':=fun _ _ f=>f.elim
 show wpAny (model prog w) A ((compTurn (.DictComp kx vx [⟨target,iter,ifs,0⟩] scope pos) 0 it (.ref D) env).onRaise (fun x=>do noteFrame x env;theTreesLotGoes x)) _ _ s
 refine wpAny_noted ?_
 rw [compTurn_dict]
 refine wpAny_bind (wpAny_standAt (wpAny_bind (wpAny_mono (turn n s hJ) (fun r s1 h1=>?_) nof)))
 cases r with
 | none=>exact wpAny_pure h1
 | some v=>
  refine wpAny_bind (wpAny_mono h1 (fun _ s1' h1'=>?_) nof)
  refine wpAny_bind (wpAny_mono h1' (fun _ s2 h2=>?_) nof)
  refine wpAny_bind (wpAny_mono h2 (fun ok s3 h3=>?_) nof)
  cases ok with
  | false=>exact wpAny_pure ⟨rfl,h3⟩
  | true=>
   refine wpAny_bind (wpAny_bind (wpAny_mono h3 (fun y s4 h4=>?_) nof))
   refine wpAny_bind (wpAny_holding (wpAny_mono h4 (fun x s5 h5=>?_) nof))
   exact wpAny_bind (wpAny_standAt (wpAny_holding (wpAny_mono h5 (fun _ s6 h6=>wpAny_pure ⟨rfl,h6⟩) nof)))
def DCW (J:It) (xs:List Str) (ix:List Nat) (g:TG) (tt:TT) (ty te:TE) (σ:St) (H1:Hp) (acc:Addr) (Q:VK):Prop:=
 ∃ W:Nat->Nat->List (Key × V)->St->Hp->Prop,(∃ m,W 0 m [] (stC xs ix σ) (upd H1 acc (.dK []))) /\
  ∀ i m ys τ H,W i m ys τ H->H acc=some (.dK ys)/\ys.length < sizeLine /\
   ((J.stop i H/\Q (.ref acc) H) \/ (J.go i H/\∃ N:List (Key × V)->St->Hp->Prop,(∀ ys' τ' H',N ys' τ' H'->∃ m',m' < m/\W (i + 1) m' ys' τ' H') /\
    ∀ x H',J.yld i H x H'->g x τ H' fun τ2 H2=>tt τ2 H2 fun b H3=>
    if b=true then ty τ2 H3 fun z H4=>te τ2 H4 fun y H5=>∃ k,z=kV k/\H5 acc=some (.dK ys)/\N (xH ys k y) τ2 (upd H5 acc (.dK (xH ys k y))) else N ys τ2 H3))
def tDC (xs:List Str) (ix:List Nat) (wi:TI) (g:TG) (tt:TT) (ty te:TE):TE:=fun σ H Q=>wi σ H fun J H1=>∀ acc,H1 acc=none->DCW J xs ix g tt ty te σ H1 acc Q
theorem d4 {X:Cx} {zp:LAO} {σ:St} {H:Hp} {s:Shared} {A:Around} {E:VSP} {a:Addr} {k:Key} {v:V} {u r:Value} {kvs:List (Key × V)} {Q:Unit->Shared->Prop} (I:Inv X zp σ H s) (e:H a=some (.dK kvs)) (l:kvs.length < sizeLine) (ry:z7 (kV k) u) (rv:z7 v r)
  (h:∀ s',Inv X zp σ (upd H a (.dK (xH kvs k v))) s'->Q () s'):wpAny (model X.prog X.w) A (dictSet a u r) Q E s:=by
 obtain ⟨z,hd,vs,rel,dd⟩:=zA4 I.hok e
 have hz:vs.length <= sizeLine:=by rw [<- rel.length];exact z
 have hl:(xH kvs k v).length <= sizeLine:=by have:=wA kvs k v;omega
 refine wpAny_dictSet_pairs (hsz:=hz) (pE ry) dd fun h' dd' hs=>h _ (sY I (by rw [e];exact True.intro) hs ?_ (i5 hl hd (rel.put k rv) dd'))
 obtain ⟨q,_,_,hq,_⟩:=dd'
 exact ⟨q,hq⟩
theorem zA6 {Reg:Cx->Prop} {X:Cx} {xs:List Str} {ix:List Nat} {scope:Scope} {kx vx tg iter:Expr} {ifs:List Expr} {pos:Pos} {wi:TI} {g:TG} {tt:TT} {ty te:TE}
  (S:yW X xs ix scope) (hreg:∀ Y:Cx,Y.K=X.K->Y.calm=X.calm->Y.A.handled=X.A.handled->Reg Y) (hi:PIG Reg X tg iter wi)
  (hg:∀ C fp s H,PG (cxC X xs ix scope C fp s H) tg g) (ht:∀ C fp s H,PTs (cxC X xs ix scope C fp s H) ifs tt) (hy:∀ C fp s H,PE (cxC X xs ix scope C fp s H) kx ty) (he:∀ C fp s H,PE (cxC X xs ix scope C fp s H) vx te)
  {zp:LAO} {s:Shared} {σ:St} {H:Hp} {Q:VK} (I:Inv X zp σ H s) (h:tDC xs ix wi g tt ty te σ H Q) {use:Option (Value->Sem Unit)} {R:VSP}
  (fin:∀ (acc C:Addr) (H':Hp) (s':Shared) (m:Str->Option Value),Q (.ref acc) H'->s'.heap.Ns C m->(∀ h',Heap.SameBut C s'.heap h'->∀ tk,Inv X zp σ H' { s' with heap:=h',toks:=tk })->(X.s₀.heap.objs.size <= C/\C ≠ X.env.locals/\(∀ x c,X.env.cells.lookup x=some c->c ≠ C)/\(∀ p ∈ X.pn ++ zp,p.1 ≠ C)/\H' C=none)->compPost (model X.prog X.w) X.A X.xe use R (.ref acc) C (.ok .next) s') :
  wpAny (model X.prog X.w) X.A (eval iter X.env) (fun x s₁=>wpAny (model X.prog X.w) X.A (pyIter x) (fun it s₂=>wpAny (model X.prog X.w) X.A newDict (fun acc s₃=>
   wpAny (model X.prog X.w) X.A (newFunctionEnv scope X.env.globals (clF X.env scope.names []) [] X.env.qual none .none (some X.env)) (fun cenv s₄=>
    codeAny (model X.prog X.w) X.A (.compStart (.DictComp kx vx [⟨tg,iter,ifs,0⟩] scope pos) 0 it acc { cenv with scope:=relabel scope X.env }) (compPost (model X.prog X.w) X.A X.xe use R acc cenv.locals) s₄) X.xe s₃) X.xe s₂) X.xe s₁) X.xe s:=by
 refine thn (hi zp s σ H _ I h) fun v s1 h1=>thn h1 fun itv s2 h2=>?_
 obtain ⟨it,fp,tn,J,H2,rfl,I2,T,st2,f2,q⟩:=h2
 refine wpAny_newObj_type ?_
 have I3:Inv X zp σ (upd H2 s2.heap.objs.size (.dK [])) { s2 with heap:=s2.heap.push { cls:=.type "dict",data:=.dict #[] },toks:=s2.toks }:=I2.laid (a:=s2.heap.objs.size) (o:=.dK []) (t':=s2.toks) (fun _ _ q=>Heap.get?_push_of_some _ q) (zKF _) (jM s2.heap I2.big)
 obtain ⟨W,⟨m0,w0⟩,turn⟩:=q s2.heap.objs.size I2.fresh
 have objs2:=T.obj 0 _ st2
 have neacc:∀ b ∈ fp,b ≠ s2.heap.objs.size:=fun b hb z=>by
  obtain ⟨o,ho,_⟩:=objs2 b hb
  exact Nat.lt_irrefl _ (Nat.lt_of_lt_of_eq (Heap.lt_size ho) z.symm)
 generalize hacc:s2.heap.objs.size=acc at *
 generalize hs3:({ s2 with heap:=s2.heap.push { cls:=.type "dict",data:=.dict #[] } }:Shared)=s3
 have I3:Inv X zp σ (upd H2 acc (.dK [])) s3:=by rw [<- hs3];exact I3
 have k3:∀ b o,s2.heap.get? b=some o->s3.heap.get? b=some o:=fun b o e=>by rw [<- hs3];exact Heap.get?_push_of_some _ e
 have f3:∀ b ∈ fp,vW X zp (upd H2 acc (.dK [])) b:=fun b hb=>⟨by rw [zJ (neacc b hb)];exact (f2 b hb).1,(f2 b hb).2⟩
 have o3:∀ b ∈ fp,∃ o,s3.heap.get? b=some o:=fun b hb=>let ⟨o,ho,_⟩:=objs2 b hb;⟨o,k3 b o ho⟩
 have st3:tn 0 s3.heap:=T.keep _ _ _ st2 fun b _ o e=>k3 b o e
 refine wpAny_newFunctionEnv S.nocell (by intro y hy;simp at hy) (fun h1 hns1 hsb1=>?_) S.kind
 have keep1:∀ b o,s3.heap.get? b=some o->h1.get? b=some o:=fun b o e=>hsb1.extBut b o (zKX (Heap.lt_size e)) (Heap.get?_push_of_some _ e)
 generalize hs4:({ s3 with heap:=h1,toks:=s3.toks + ([]:List (Str × Value)).length }:Shared)=s4
 have I4:Inv (cxC X xs ix scope s3.heap.objs.size fp s3 (upd H2 acc (.dK []))) [] (stC xs ix σ) (upd H2 acc (.dK [])) s4:=uE S I3 f3 o3 hns1 keep1 hs4.symm
 have st4:tn 0 s4.heap:=T.keep _ _ _ st3 fun b _ o e=>by rw [<- hs4];exact keep1 b o e
 generalize hX':cxC X xs ix scope s3.heap.objs.size fp s3 (upd H2 acc (.dK []))=X' at *
 have hg:=hg s3.heap.objs.size fp s3 (upd H2 acc (.dK []))
 have ht:=ht s3.heap.objs.size fp s3 (upd H2 acc (.dK []))
 have he:=he s3.heap.objs.size fp s3 (upd H2 acc (.dK []))
 have hy:=hy s3.heap.objs.size fp s3 (upd H2 acc (.dK []))
 rw [hX'] at hg ht he hy
 have eP:X'.prog=X.prog:=by rw [<- hX'];rfl
 have ew:X'.w=X.w:=by rw [<- hX'];rfl
 have eK:X'.K=X.K:=by rw [<- hX'];rfl
 have eA:X'.A=X.A:=by rw [<- hX'];rfl
 have ec:Reg X':=hreg X' eK (by rw [<- hX'];rfl) (by rw [<- hX'];rfl)
 have ex:X'.xe=fun _ _=>False:=by rw [<- hX'];rfl
 have eenv:X'.env=compEnvC scope (clF X.env scope.names []) s3.heap.objs.size X.env:=by rw [<- hX'];rfl
 have eex:X'.ex=fp:=by rw [<- hX'];rfl
 have efs:X'.fs=frs X.stack:=by rw [<- hX'];rfl
 have epn:X'.pn=[]:=by rw [<- hX'];rfl
 have eH0:X'.H₀=upd H2 acc (.dK []):=by rw [<- hX'];rfl
 have es0:X'.s₀=s3:=by rw [<- hX'];rfl
 have eloc:X'.env.locals=s3.heap.objs.size:=by rw [eenv];rfl
 have stat:∀ {H':Hp},(∀ b ∈ fp,H' b=none)->∀ b ∈ fp,vW X' [] H' b:=fun {H'} hn b hb=>by
  refine ⟨hn b hb,?_,?_,.inl (by rw [eex];exact hb),?_,?_⟩
  ·rw [eloc]
   intro z
   obtain ⟨o,ho⟩:=o3 b hb
   exact Nat.lt_irrefl _ (Nat.lt_of_lt_of_eq (Heap.lt_size ho) z.symm)
  ·exact I4.ok.exfs b (by rw [eex];exact hb)
  ·exact (I4.ok.exf b (by rw [eex];exact hb)).2
  ·rw [epn];intro p hp;exact absurd hp (by simp)
 have loop:codeAny (model X.prog X.w) X.A (.compLoop (.DictComp kx vx [⟨tg,iter,ifs,0⟩] scope pos) 0 (.ref it) (.ref acc) X'.env) (compPost (model X.prog X.w) X.A X.xe use R (.ref acc) s3.heap.objs.size) s4:=by
  refine zDL (fun n s'=>∃ i ys τ H',Inv X' [] τ H' s'/\tn i s'.heap/\(∀ b ∈ fp,H' b=none)/\W i n ys τ H') ?_ m0 ⟨0,[],_,_,I4,st4,fun b hb=>(f3 b hb).1,w0⟩
  rintro n s5 ⟨i,ys,τ,H5,I5,st5,fr5,w5⟩
  obtain ⟨ha5,hz5,way⟩:=turn i n ys τ H5 w5
  rcases way with ⟨stop,qn⟩ | ⟨go,N,hN,step⟩
  ·have d:=T.done X' eP ew ec i [] s5 τ H5 (fun _ _=>False) I5 (stat fr5) st5 stop
   rw [eA] at d
   refine thn d fun r s6 hz64=>?_
   obtain ⟨hr,I6⟩:=hz64
   subst hr
   obtain ⟨m,hn6,_⟩:=id I6.loc
   rw [eloc] at hn6
   refine fin acc s3.heap.objs.size H5 s6 m qn hn6 (fun h' hsb tk=>?_) ⟨I3.sz,Ne.symm (zKX I3.lt),fun x c e z=>by
    obtain ⟨v,oc,hoc,_⟩:=I3.cell x c e
    exact Nat.lt_irrefl _ (Nat.lt_of_lt_of_eq (Heap.lt_size hoc) z.symm),fun p hp z=>Nat.lt_irrefl _ (Nat.lt_of_lt_of_eq (Heap.lt_size (I3.pin p hp).1) z.symm),by have:=I6.free;rw [eloc] at this;exact this⟩
   have same:∀ b,b ≠ s3.heap.objs.size->h'.get? b=s6.heap.get? b:=fun b hb=>hsb.2 b hb
   have ub:=I6.base
   rw [efs,eex,eH0,es0] at ub
   have ne3:∀ b o,s3.heap.get? b=some o->b ≠ s3.heap.objs.size:=fun b o e=>zKX (Heap.lt_size e)
   have u:Un (frs X.stack) fp (upd H2 acc (.dK [])) H5 s3.heap h':=
    ⟨fun b o e n1 n2 n3=>(same b (ne3 b o e)).trans (ub.keep b o e n1 n2 n3),fun b o e n1 n2 n3=>by
      obtain ⟨sl,z⟩:=ub.slot b o e n1 n2 n3
      exact ⟨sl,(same b (ne3 b o e)).trans z⟩,ub.free,fun b o e n3=>by
      obtain ⟨o',z⟩:=ub.there b o e n3
      exact ⟨o',(same b (ne3 b o e)).trans z⟩,ub.tups,ub.frzs,ub.tbls⟩
   have fC:H5 s3.heap.objs.size=none:=by have:=I6.free;rw [eloc] at this;exact this
   have hok:HOk X.prog X.w H5 h':=fun b o e=>by
    have z:=I6.hok b o e
    rw [eP,ew] at z
    refine z.stay (fun c u hc q=>(same c ?_).trans q) (fun _ q=>q) fun _ _ q=>q
    intro zc
    rcases hc with q1 | q1
    ·rw [<- q1,zc,fC] at e;cases e
    ·rw [zc,fC] at q1;cases q1
   have hch:∀ b ∈ fp,(b ∈ X.ex \/ X.s₀.heap.objs.size <= b)/\b ≠ X.env.locals/\(∀ x c,X.env.cells.lookup x=some c->c ≠ b)/\∀ p ∈ X.pn ++ zp,p.1 ≠ b:=fun b hb=>by
    obtain ⟨_,f1,_,g3,g4,g5⟩:=f3 b hb
    exact ⟨g3,f1,g4,g5⟩
   have ho:s6.os=s3.os:=by have:=I6.os;rw [es0] at this;exact this
   exact I3.call' (s':={ s6 with heap:=h',toks:=tk }) (ch:=fp) ho u hok I6.bare hch
  ·have d:=T.item X' eP ew ec i [] s5 τ H5 (fun _ _=>False) I5 (stat fr5) st5 go
   rw [eA] at d
   refine thn d fun r s6 hz65=>?_
   obtain ⟨u,hr,h6⟩:=hz65
   subst hr
   refine thn h6 fun _ s7 hz66=>?_
   obtain ⟨x,H7,I7,r7,y7,st7,fr7⟩:=hz66
   have I7':=I7.pinned (stat fr7) (T.obj _ _ st7)
   have dg:=hg _ s7 τ H7 x u _ I7' r7 (step x H7 y7)
   rw [eP,ew,eA,ex] at dg
   refine thn dg fun _ s8 hz67=>?_
   obtain ⟨τ8,H8,I8,q8⟩:=hz67
   have dt:=ht _ s8 τ8 H8 _ I8 q8
   rw [eP,ew,eA,ex] at dt
   refine thn dt fun ok s9 hz68=>?_
   obtain ⟨H9,I9,q9⟩:=hz68
   have again:∀ {τ':St} {H':Hp} {s':Shared},Inv X' ([] ++ xQ fp s7.heap) τ' H' s'->Inv X' [] τ' H' s'/\tn (i + 1) s'.heap/\∀ b ∈ fp,H' b=none:=fun {τ' H' s'} Ie=>by
    refine ⟨Ie.unpinned,T.keep _ _ _ st7 fun b hb o e=>(Ie.pin (b,o) (zKK _ (zKK _ (yM hb e)))).1,fun b hb=>?_⟩
    obtain ⟨o,e,_⟩:=T.obj _ _ st7 b hb
    exact (Ie.pin (b,o) (zKK _ (zKK _ (yM hb e)))).2.1
   cases ok with
   | false=>
    rw [if_neg zKY] at q9 ⊢
    obtain ⟨m',hm,w9⟩:=hN _ _ _ q9
    obtain ⟨z1,z2,z3⟩:=again I9
    exact ⟨m',hm,i + 1,ys,τ8,H9,z1,z2,z3,w9⟩
   | true=>
    rw [if_pos rfl] at q9 ⊢
    have dy:=hy _ s9 τ8 H9 _ I9 q9
    rw [eP,ew,eA,ex] at dy
    refine thn dy fun kv s10 hz69=>?_
    obtain ⟨z,H10,I10,r10,q10⟩:=hz69
    have de:=he _ s10 τ8 H10 _ I10 q10
    rw [eP,ew,eA,ex] at de
    refine thn de fun yv s11 hz70=>?_
    obtain ⟨y,H11,I11,r11,k,ek,ha11,n11⟩:=hz70
    subst ek
    obtain ⟨m',hm,w11⟩:=hN _ _ _ n11
    have dm:=d4 (X:=X') (A:=X.A) (E:=fun _ _=>False) (Q:=fun _ s'=>∃ m,m < n/\∃ i ys τ H',Inv X' [] τ H' s'/\tn i s'.heap/\(∀ b ∈ fp,H' b=none)/\W i m ys τ H') I11 ha11 hz5 r10 r11 fun s12 I12=>by
     obtain ⟨z1,z2,z3⟩:=again I12
     exact ⟨m',hm,i + 1,xH ys k y,τ8,_,z1,z2,z3,w11⟩
    rw [eP,ew] at dm
    exact dm
 have e4:({ newEnv scope s3.heap.objs.size X.env.globals (clF X.env scope.names []) X.env.qual none .none (some X.env) builtinsNs with scope:=relabel scope X.env }:Env)=X'.env:=by rw [eenv];rfl
 rw [eenv] at loop
 have self:=T.self X.A 0 s4 (fun it' s'=>codeAny (model X.prog X.w) X.A (.compLoop (.DictComp kx vx [⟨tg,iter,ifs,0⟩] scope pos) 0 it' (.ref acc) (compEnvC scope (clF X.env scope.names []) s3.heap.objs.size X.env)) (compPost (model X.prog X.w) X.A X.xe use R (.ref acc) s3.heap.objs.size) s')
  (notedBy (model X.prog X.w) X.A (compEnvC scope (clF X.env scope.names []) s3.heap.objs.size X.env) fun x s'=>compPost (model X.prog X.w) X.A X.xe use R (.ref acc) s3.heap.objs.size (.error x) s') st4 loop
 exact codeAny_compStart_dict loop self
theorem zDM {X:Cx} {xs:List Str} {ix:List Nat} {scope:Scope} {kx vx tg iter:Expr} {ifs:List Expr} {pos:Pos} {wi:TI} {g:TG} {tt:TT} {ty te:TE}
  (S:yW X xs ix scope) (hc:X.calm=true) (hi:PI X tg iter wi)
  (hg:∀ C fp s H,PG (cxC X xs ix scope C fp s H) tg g) (ht:∀ C fp s H,PTs (cxC X xs ix scope C fp s H) ifs tt) (hy:∀ C fp s H,PE (cxC X xs ix scope C fp s H) kx ty) (he:∀ C fp s H,PE (cxC X xs ix scope C fp s H) vx te)
  {zp:LAO} {s:Shared} {σ:St} {H:Hp} {Q:VK} (I:Inv X zp σ H s) (h:tDC xs ix wi g tt ty te σ H Q) {use:Option (Value->Sem Unit)} {R:VSP}
  (fin:∀ (acc C:Addr) (H':Hp) (s':Shared) (m:Str->Option Value),Q (.ref acc) H'->s'.heap.Ns C m->(∀ h',Heap.SameBut C s'.heap h'->∀ tk,Inv X zp σ H' { s' with heap:=h',toks:=tk })->(X.s₀.heap.objs.size <= C/\C ≠ X.env.locals/\(∀ x c,X.env.cells.lookup x=some c->c ≠ C)/\(∀ p ∈ X.pn ++ zp,p.1 ≠ C)/\H' C=none)->compPost (model X.prog X.w) X.A X.xe use R (.ref acc) C (.ok .next) s') :
  wpAny (model X.prog X.w) X.A (eval iter X.env) (fun x s₁=>wpAny (model X.prog X.w) X.A (pyIter x) (fun it s₂=>wpAny (model X.prog X.w) X.A newDict (fun acc s₃=>
   wpAny (model X.prog X.w) X.A (newFunctionEnv scope X.env.globals (clF X.env scope.names []) [] X.env.qual none .none (some X.env)) (fun cenv s₄=>
    codeAny (model X.prog X.w) X.A (.compStart (.DictComp kx vx [⟨tg,iter,ifs,0⟩] scope pos) 0 it acc { cenv with scope:=relabel scope X.env }) (compPost (model X.prog X.w) X.A X.xe use R acc cenv.locals) s₄) X.xe s₃) X.xe s₂) X.xe s₁) X.xe s:=
 zA6 (Reg:=fun Y=>Y.K=X.K/\Y.calm=true) S (fun Y k c _=>⟨k,c.trans hc⟩)
  (fun zp s σ H R I q=>thn (hi zp s σ H R I q) fun v s1 h1=>thn h1 fun itv s2 h2=>by
   obtain ⟨it,fp,tn,J,H',e,I',T,r⟩:=h2
   exact ⟨it,fp,tn,J,H',e,I',⟨T.mem,T.obj,T.keep,fun Y e1 e2 r=>T.item Y e1 e2 r.1 r.2,fun Y e1 e2 r=>T.done Y e1 e2 r.1 r.2,T.self⟩,r⟩) hg ht hy he I h fin
theorem zEL {X:Cx} {xs:List Str} {ix:List Nat} {scope:Scope} {kx vx tg iter:Expr} {ifs:List Expr} {pos:Pos} {wi:TI} {g:TG} {tt:TT} {ty te:TE}
  (S:yW X xs ix scope) (hc:X.calm=true) (hi:PI X tg iter wi)
  (hg:∀ C fp s H,PG (cxC X xs ix scope C fp s H) tg g) (ht:∀ C fp s H,PTs (cxC X xs ix scope C fp s H) ifs tt) (hy:∀ C fp s H,PE (cxC X xs ix scope C fp s H) kx ty) (he:∀ C fp s H,PE (cxC X xs ix scope C fp s H) vx te)
  (hs:∀ x,foldedSetIterable iter X.env x=pure x:=by intro _;rfl) :
  PE X (.DictComp kx vx [⟨tg,iter,ifs,0⟩] scope pos) (tDC xs ix wi g tt ty te):=by
 intro zp s σ H Q I h
 have hcl:∀ n,(n,NameKind.free) ∈ scope.names->(X.env.cells.lookup n).isSome=true:=fun n hn=>by
  obtain ⟨c,e⟩:=I.ok.has n (S.fre n hn)
  rw [e];rfl
 rw [arm_eval_DictComp]
 refine wpAny_comprehension_free (use:=none) rfl hs (xN hcl) S.kind S.loc ?_
 refine zDM S hc hi hg ht hy he I h fun acc C H' s' m q hn k _=>?_
 exact ⟨m,hn,fun h' hsb=>⟨.ref acc,H',k h' hsb s'.toks,rfl,q⟩⟩
theorem iE {X:Cx} {N:List Str} {sc:Scope} {x:Str} {ix:List Nat} {scope:Scope} {kx vx iter:Expr} {ifs:List Expr} {px pos:Pos} {wi:TI} {tt:TT} {ty te:TE}
  (hS:uM N sc [x] ix scope) (hi:PI X (.Name x px) iter wi)
  (ht:∀ C fp s H,PTs (cxC X [x] ix scope C fp s H) ifs tt) (hy:∀ C fp s H,PE (cxC X [x] ix scope C fp s H) kx ty) (he:∀ C fp s H,PE (cxC X [x] ix scope C fp s H) vx te)
  (hN:X.N=N:=by rfl) (hsc:X.env.scope=sc:=by rfl) (hc:X.calm=true:=by rfl)
  (hs:∀ x,foldedSetIterable iter X.env x=pure x:=by intro _;rfl) :
  PE X (.DictComp kx vx [⟨.Name x px,iter,ifs,0⟩] scope pos) (tDC [x] ix wi (xK 0) tt ty te):=by
 have S:=hS.at (X:=X) hN hsc
 have hl:∀ C fp s H,(cxC X [x] ix scope C fp s H).env.scope.names.lookup x=some .local:=fun _ _ _ _=>lookup_relabel_local (S.own x (by simp))
 exact zEL S hc hi (fun C fp s H=>zZ S.nd rfl (Or.inl (hl C fp s H)) (.inr (hl C fp s H))) ht hy he hs
theorem sX {K:W.Frag} {a:Addr} {its:List V} {xs:List Str} {ix:List Nat} {g:TG} {ty te:TE} {σ:St} {H1:Hp} {Q:VK} {acc:Addr} (hn:its.length < sizeLine) (Pv:Nat->List (Key × V)->St->Hp->Prop)
  (h0:Pv 0 [] (stC xs ix σ) (upd H1 acc (.dK []))) (hacc:∀ i ys τ H,Pv i ys τ H->H acc=some (.dK ys)/\ys.length <= i/\SqL K H a its)
  (hs:∀ i ys τ H x,its[i]?=some x->Pv i ys τ H->g x τ H fun τ2 H2=>ty τ2 H2 fun z H4=>te τ2 H4 fun y H5=>∃ k,z=kV k/\H5 acc=some (.dK ys)/\Pv (i + 1) (xH ys k y) τ2 (upd H5 acc (.dK (xH ys k y))))
  (hd:∀ ys τ H,Pv its.length ys τ H->Q (.ref acc) H):DCW (Itl K a) xs ix g tG ty te σ H1 acc Q:=by
 refine ⟨fun i m ys τ H=>m=its.length - i/\i <= its.length/\Pv i ys τ H,⟨its.length,by simp,zKG _,h0⟩,?_⟩
 rintro i m ys τ H ⟨rfl,hi,p⟩
 obtain ⟨a1,a2,a3⟩:=hacc i ys τ H p
 refine ⟨a1,by omega,?_⟩
 by_cases hlt:i < its.length
 ·refine .inr ⟨⟨its,its[i],a3,by simp [hlt]⟩,fun ys' τ' H'=>Pv (i + 1) ys' τ' H',fun ys' τ' H' p'=>⟨its.length - (i + 1),by omega,rfl,hlt,p'⟩,fun x H' y=>?_⟩
  obtain ⟨e,y⟩:=y
  subst e
  have ex:=y its a3
  have st:=hs i ys τ H' x ex p
  have e:(fun τ2 H2=>tG τ2 H2 fun b H3=>if b=true then ty τ2 H3 fun z H4=>te τ2 H4 fun y H5=>∃ k,z=kV k/\H5 acc=some (.dK ys)/\Pv (i + 1) (xH ys k y) τ2 (upd H5 acc (.dK (xH ys k y))) else Pv (i + 1) ys τ2 H3) =
    fun τ2 H2=>ty τ2 H2 fun z H4=>te τ2 H4 fun y H5=>∃ k,z=kV k/\H5 acc=some (.dK ys)/\Pv (i + 1) (xH ys k y) τ2 (upd H5 acc (.dK (xH ys k y))):=by
   funext τ2 H2
   simp only [tG,if_true]
  rw [e];exact st
 ·have ei:i=its.length:=by omega
  subst ei
  exact .inl ⟨⟨its,a3,zKF _⟩,hd ys τ H p⟩
section
variable {X:Cx}
theorem cB:wV X (.builtin "len") (fun xs H Q=>∃ (p:Addr) (kvs:List (Key × V)),xs=[.ref p]/\H p=some (.dK kvs)/\Q (.int kvs.length) H):=by
 intro zp s σ H xs us Q I r h
 obtain ⟨p,kvs,rfl,hP,q⟩:=h
 obtain ⟨u,rfl,rx⟩:=uS r
 cases rx
 obtain ⟨hz,hS,vs,rv,m⟩:kvs.length <= sizeLine/\(p == sysModules)=false/\∃ vs,KV kvs vs/\s.heap.DictOf (xF X.prog X.w) p vs:=I.hok p _ hP
 have hlen:kvs.length=vs.length:=Paired.length rv
 have hl:=tP
 exact call_len_dict hS m (by omega) ⟨.int kvs.length,H,I.tok _,⟨_,by rw [hlen]⟩,q⟩
end
section
variable {prog:Program} {w:World} {A:Around} {E:VSP} {s:Shared}
theorem dB {t sl:Addr} {x y vs:Value} {Q:VSP} (ht:IsTup s.heap t #[x,y]) (hs:s.heap.IsSliceOf sl .none .none vs) (ps:IsPart vs (some (-1)))
  (h:Q (.ref s.heap.objs.size) { s with heap:=s.heap.push { cls:=.type "tuple",data:=.seq #[y,x] } }):wpAny (model prog w) A (getItem (.ref t) (.ref sl)) Q E s:=by
 have htake:sizeOk (.seq (#[y,x]:Array Value)):=by show 2 <= sizeLine;decide
 obtain ⟨os,hos,hcs,hds⟩:=id hs
 have hTs:s.TypeIs (.ref sl) "slice":=⟨os,hos,hcs⟩
 unfold getItem
 try with_reducible refine wpAny_holding ?_
 first | refine wpAny_bind (wpAny_pure ?_) | skip
 refine wpAny_bind (wpAny_sequenceKey ht.typeIs (by decide) ?_)
 refine wpAny_bind (wpAny_callSpecial?_slot (name:=Str.ofString "__getitem__") ht.typeIs PyProof.Rows.slot_tuple_getitem
  (wpAny_call_entry PyProof.Rows.slot_tuple_getitem ht.typeIs entry_tuple_getitem ?_ (args_tuple_getitem _ _)))
 show wpAny _ _ (Builtin.Tuple.tupleItemsOf (.ref t) >>= _) _ _ s
 refine wpAny_bind (tupleItemsOf_ ht ?_)
 refine wpAny_bind (wpAny_typeOf hTs ?_)
 rw [if_pos (by decide)]
 have key:∀ (A:Around) (E:VSP),wpAny (model prog w) A (Builtin.Slice.sliceApplied (.ref sl) (pure ((2:Nat):Int))) (fun r s'=>r=((1:Int),(-1:Int),(2:Nat))/\s'=s) E s:=by
  intro A E
  unfold Builtin.Slice.sliceApplied Builtin.Slice.sliceFields
  refine wpAny_bind (wpAny_bind (wpAny_field hos hds (x:=.none) rfl (wpAny_bind (wpAny_field hos hds (x:=.none) rfl (wpAny_bind (wpAny_field hos hds (x:=vs) rfl (wpAny_pure ?_)))))))
  refine wpAny_bind (HT.slicePart_ ps ?_)
  show wpAny _ _ (if ((-1:Int) == 0)=true then _ else _) _ _ s
  rw [if_neg (by decide)]
  refine wpAny_bind (slicePart_none (wpAny_bind (slicePart_none (wpAny_bind (wpAny_pure ?_)))))
  exact wpAny_pure ⟨rfl,rfl⟩
 refine wpAny_bind (wpAny_mono (key _ _) (fun r s' q=>?_) fun _ _ z=>z)
 obtain ⟨e1,e2⟩:=q
 subst e1 e2
 show wpAny _ _ (if ((1:Int) == 0 && (-1:Int) == 1 && (2:Nat) == 2)=true then _ else _) _ _ _
 rw [if_neg (by decide)]
 have pk:((List.range 2).filterMap fun (k:Nat)=>(#[x,y]:Array Value)[((1:Int) + (k:Int) * (-1)).toNat]?).toArray = #[y,x]:=rfl
 rw [pk]
 first
  | exact wpAny_bind (m:=Builtin.Tuple.tupleExact _) (wpAny_newObj_type (wpAny_pure ⟨_,rfl,wpAny_pure h⟩) htake)
  | exact wpAny_bind (m:=Builtin.Tuple.tupleExact _) (wpAny_newObj_type (wpAny_bind (wpAny_pure (wpAny_pure ⟨_,rfl,wpAny_pure h⟩))) htake)
end
section
variable {X:Cx} {e:Expr} {te:TE} {pos p1 p2 p3:Pos} {j1:Nat}
def zE7 (te:TE):TE:=fun σ H Q=>te σ H fun x H1=>∃ a u v,x=.ref a/\H1 a=some (.tup [u,v])/\∀ p,H1 p=none->Q (.ref p) (upd H1 p (.tup [v,u]))
theorem aR (he:PE X e te):PE X (.Subscript e (.Slice none none (some (.UnaryOp .USub (.Constant (.int 1) j1 p1) p3)) p2) pos) (zE7 te):=by
 intro zp s σ H Q I h
 refine Subscript_ (thn (he zp s σ H _ I h) fun v s1 hz71=>?_)
 obtain ⟨x,H1,I1,r1,q1⟩:=hz71
 refine wpAny_Slice ?_
 rw [evalPart_none]
 refine wpAny_pure (wpAny_pure ?_)
 refine thn ((vM (zI1 (X:=X) (j1:=j1) (p1:=p1) (p3:=p3))) zp s1 σ H1 (fun o H2=>o=some (-1)/\H2=H1) I1 ⟨-1,rfl,rfl,rfl⟩) fun vs s3 hz72=>?_
 obtain ⟨o,H3,I3,ps,e1,e2⟩:=hz72
 subst e1 e2
 obtain ⟨a,u,v,rfl,hx,q⟩:=q1
 cases r1
 have I4:Inv X zp σ H3 { s3 with heap:=s3.heap.push { cls:=.type "slice",data:=.fields #[.none,.none,vs] } }:=I3.kept (t':=s3.toks) fun b ob q=>Heap.get?_push_of_some _ q
 obtain ⟨its,r,ht,hz⟩:=I4.tuple (.of hx)
 cases r with
 | cons r1 t=>
 cases t with
 | cons r2 t=>
 cases t
 show wpAny (model X.prog X.w) X.A (subscriptTail e (.Slice none none (some (.UnaryOp .USub (.Constant (.int 1) j1 p1) p3)) p2) (.ref a) (.ref s3.heap.objs.size)) (EP X zp σ Q) X.xe { s3 with heap:=s3.heap.push { cls:=.type "slice",data:=.fields #[.none,.none,vs] } }
 refine tail_any (ops:=[.ref a,.ref s3.heap.objs.size]) ht.typeIs slot_tuple_getitem.lookup ?_ (by with_unfolding_all rfl)
 refine dB ht (Heap.IsSliceOf.new ..) ps ?_
 refine ⟨.ref _,_,I4.laid (t':=s3.toks) (o:=.tup [v,u]) (fun b ob q=>Heap.get?_push_of_some _ q) (zKF _) ?_,rfl,q _ (I4.hok.fresh (zKF _))⟩
 exact ⟨by show 2 <= sizeLine;decide,_,.cons r2 (.cons r1 .nil),IsTup.new _ _⟩
end
end L2
namespace L2
open PySem PySem.Spec PyProof.Rows PySem.W
section
variable {X:Cx}
end
section
variable {prog:Program} {w:World} {A:Around} {E:VSP} {K:Frag} {x C D:Addr} {f:Str} {v:Value}
end
section
variable {X:Cx}
end
section
variable {prog:Program} {w:World} {A:Around} {E:VSP} {K:Frag} {x C:Addr} {ox:Obj} {od:Option Obj} {h:Heap} {g:Array GenState} {d:Drawn} {t:Nat} {os:OsState} {f:Str} {v:Value}
end
section
variable {X:Cx}
end
end L2
namespace L2
open PySem PySem.Spec PyProof.Rows
section
variable {prog:Program} {w:World} {A:Around} {E:VSP} {s:Shared}
end
section
variable {X:Cx} {pos:Pos}
end
section
variable {X:Cx}
end
section
variable {prog:Program} {w:World} {A:Around} {E:VSP} {s:Shared}
open Builtin.Str in
end
section
variable {X:Cx} {pos:Pos}
end
section
variable {X:Cx}
end
section
open PySem.SeqAt
open PySem.AutoSeq1 (wpAny_loadPart')
open PySem.MeetsSeq PySem.MeetsSeq2 PySem.MeetsSeq3
end
section
variable {X:Cx}
end
end L2
namespace L2
open PySem PySem.Spec PyProof.Rows
open PySem.AutoSeq1 (wpAny_loadPart')
section
variable {prog:Program} {w:World} {A:Around} {E:VSP} {s:Shared}
theorem zAZ {e it l:Addr} {i:Nat} {c:Int} {its:Array Value} {x old:Value} {Q:Option Value->Shared->Prop}
  (he:IsEnum s.heap e it c old) (hit:s.heap.IsListIter it l i) (hl:s.heap.IsList l its) (hx:its[i]?=some x) (hne:e ≠ it)
  (hQ:∀ h',IsEnumOut h' e it (c + 1) x s.heap.objs.size->h'.IsListIter it l (i + 1)->h'.get? s.heap.objs.size=some { cls:=.type "tuple",data:=.seq #[.int c s.toks,x] } ->
   (∀ b o,b ≠ e->b ≠ it->s.heap.get? b=some o->h'.get? b=some o)->Q (some (.ref s.heap.objs.size)) { s with heap:=h',toks:=s.toks + 1 }) :
  wpAny (model prog w) A (pyNext (.ref e)) Q E s:=by
 have hT:s.TypeIs (.ref e) "enumerate":=⟨_,he,rfl⟩
 unfold pyNext
 refine wpAny_bind (wpAny_attempt (wpAny_callSpecial?_slot (name:=Str.ofString "__next__") hT F.slot_enumerate_next (wpAny_call_entry F.slot_enumerate_next hT F.entry_enumerate_next ?_ (F.args_enumerate_next_1 _))))
 obtain ⟨h0,ge,dr,tk,so⟩:=s
 show wpAny _ _ (field (.ref e) 2 >>= _) _ _ _
 refine wpAny_bind (wpAny_field he rfl (x:=.ref it) rfl (wpAny_bind (wpAny_nextOf_list_item hit hl hx fun h1 i1 s1=>?_)))
 replace s1:Heap.SameBut it h0 h1:=s1
 have e1:IsEnum h1 e it c old:=(s1.2 e hne).trans he
 show wpAny _ _ (field (.ref e) 3 >>= _) _ _ ⟨h1,ge,dr,tk,so⟩
 refine wpAny_bind (wpAny_field e1 rfl (x:=rawInt c) rfl ?_)
 show wpAny _ _ (field (.ref e) 4 >>= _) _ _ ⟨h1,ge,dr,tk,so⟩
 refine wpAny_bind (wpAny_field e1 rfl (x:=.none) rfl ?_)
 show wpAny _ _ (mkInt c >>= _) _ _ ⟨h1,ge,dr,tk,so⟩
 refine wpAny_bind (wpAny_mkInt ?_)
 show wpAny _ _ (setField (.ref e) 3 (rawInt (c + 1)) >>= _) _ _ ⟨h1,ge,dr,tk + 1,so⟩
 refine wpAny_bind (wpAny_setField_rec e1 (by simp) fun h2 e2 s2=>?_)
 replace s2:Heap.SameBut e h1 h2:=s2
 replace e2:IsEnum h2 e it (c + 1) old:=e2
 show wpAny _ _ (setField (.ref e) 4 .none >>= _) _ _ ⟨h2,ge,dr,tk + 1,so⟩
 refine wpAny_bind (wpAny_setField_rec e2 (by simp) fun h3 e3 s3=>?_)
 replace s3:Heap.SameBut e h2 h3:=s3
 replace e3:IsEnum h3 e it (c + 1) old:=e3
 show wpAny _ _ (newTuple [.int c tk,x] >>= _) _ _ ⟨h3,ge,dr,tk + 1,so⟩
 refine wpAny_bind (wpAny_newTuple ?_)
 have e4:IsEnum (h3.push { cls:=.type "tuple",data:=.seq #[.int c tk,x] }) e it (c + 1) old:=Heap.get?_push_of_some _ e3
 generalize hh4:h3.push { cls:=.type "tuple",data:=.seq #[.int c tk,x] }=h4 at e4
 have zz:h3.objs.size=h0.objs.size:=by rw [s3.1,s2.1,s1.1]
 have lt:e < h0.objs.size:=Heap.lt_size he
 have t4:h4.get? h0.objs.size=some { cls:=.type "tuple",data:=.seq #[.int c tk,x] }:=by
  rw [<- hh4,<- zz];exact Heap.get?_push_size _ rfl
 have k4:∀ b o,b ≠ e->b ≠ it->h0.get? b=some o->h4.get? b=some o:=fun b o n1 n2 hb=>by
  rw [<- hh4]
  exact Heap.get?_push_of_some _ (s3.extBut b o n1 (s2.extBut b o n1 (s1.extBut b o n2 hb)))
 have i4:h4.IsListIter it l (i + 1):=by
  rw [<- hh4]
  obtain ⟨o,ho,r⟩:=(i1.extBut s2.extBut (Ne.symm hne)).extBut s3.extBut (Ne.symm hne)
  exact ⟨o,Heap.get?_push_of_some _ ho,r⟩
 show wpAny _ _ (Builtin.SmallTypes.ownedTupleIsFree (.ref e) >>= _) _ _ ⟨h4,ge,dr,tk + 1,so⟩
 rw [zz]
 refine wpAny_bind ?_
 unfold Builtin.SmallTypes.ownedTupleIsFree
 refine wpAny_bind (wpAny_field e4 rfl (x:=.none) rfl (wpAny_pure ?_))
 simp only [if_true]
 refine wpAny_bind (wpAny_rule (wpAny_bind (wpAny_field e4 rfl (x:=old) rfl ?_)))
 refine wpAny_bind (wpAny_setField_rec e4 (by simp) fun h5 e5 s5=>?_)
 replace s5:Heap.SameBut e h4 h5:=s5
 replace e5:IsEnum h5 e it (c + 1) x:=e5
 show wpAny _ _ (Builtin.SmallTypes.ownedTupleHandOut (.ref e) (.ref h0.objs.size) >>= _) _ _ ⟨h5,ge,dr,tk + 1,so⟩
 refine wpAny_bind ?_
 unfold Builtin.SmallTypes.ownedTupleHandOut
 refine wpAny_bind (wpAny_setField_rec e5 (by simp) fun h6 e6 s6=>?_)
 replace s6:Heap.SameBut e h5 h6:=s6
 replace e6:IsEnumOut h6 e it (c + 1) x h0.objs.size:=e6
 refine wpAny_setField_rec e6 (by simp) fun h7 e7 s7=>?_
 replace s7:Heap.SameBut e h6 h7:=s7
 replace e7:IsEnumOut h7 e it (c + 1) x h0.objs.size:=e7
 refine wpAny_bind (wpAny_letGo (wpAny_pure ⟨_,rfl,wpAny_pure (hQ h7 e7 ?_ ?_ ?_)⟩))
 ·exact ((i4.extBut s5.extBut (Ne.symm hne)).extBut s6.extBut (Ne.symm hne)).extBut s7.extBut (Ne.symm hne)
 ·exact s7.extBut _ _ (Nat.ne_of_gt lt) (s6.extBut _ _ (Nat.ne_of_gt lt) (s5.extBut _ _ (Nat.ne_of_gt lt) t4))
 ·exact fun b o n1 n2 hb=>s7.extBut b o n1 (s6.extBut b o n1 (s5.extBut b o n1 (k4 b o n1 n2 hb)))
theorem zDI {e it l:Addr} {i:Nat} {c:Int} {its:Array Value} {old:Value} {Q:Option Value->Shared->Prop} (hh:A.handled=none) (he:IsEnum s.heap e it c old) (hit:s.heap.IsListIter it l i) (hl:s.heap.IsList l its) (hx:its[i]?=none)
  (hQ:∀ h',Heap.ExtBut it s.heap h'->Q none { s with heap:=h' }):wpAny (model prog w) A (pyNext (.ref e)) Q E s:=by
 have hT:s.TypeIs (.ref e) "enumerate":=⟨_,he,rfl⟩
 unfold pyNext
 refine wpAny_bind (wpAny_attempt (wpAny_callSpecial?_slot (name:=Str.ofString "__next__") hT F.slot_enumerate_next (wpAny_call_entry F.slot_enumerate_next hT F.entry_enumerate_next ?_ (F.args_enumerate_next_1 _))))
 show wpAny _ _ (field (.ref e) 2 >>= _) _ _ _
 refine wpAny_bind (wpAny_field he rfl (x:=.ref it) rfl (wpAny_bind (wpAny_nextOf_list_end hh hit hl hx fun h' x he' hx'=>?_)))
 obtain ⟨o,ho,hc⟩:=hx'
 exact wpAny_bind (wpAny_isInstance (T:="StopIteration") (b:=true) ⟨o,ho,hc⟩ isSubtype_stop (wpAny_pure (hQ _ he')))
end
theorem Inv.turnedT {X:Cx} {zp:LAO} {σ:St} {H:Hp} {s:Shared} {h':Heap} {t':Nat} {a b T:Addr} {xs:List V} (I:Inv X zp σ H s) (k:∀ c o,c ≠ a->c ≠ b->s.heap.get? c=some o->h'.get? c=some o)
  (fa:vW X zp H a) (fb:vW X zp H b) (hT:s.heap.objs.size <= T) (new:yV X.prog X.w (upd H T (.tup xs)) h' T (.tup xs)):Inv X zp σ (upd H T (.tup xs)) { s with heap:=h',toks:=t' }:=by
 have nT:H T=none:=I.hok.fresh hT
 have na:∀ c u,H c=some u->c ≠ a:=fun c u e z=>by rw [z,fa.1] at e;cases e
 have nb:∀ c u,H c=some u->c ≠ b:=fun c u e z=>by rw [z,fb.1] at e;cases e
 have kk:∀ c o,c ∉ [a,b]->s.heap.get? c=some o->h'.get? c=some o:=fun c o hc e=>k c o (fun z=>hc (by simp [z])) (fun z=>hc (by simp [z])) e
 refine I.step (g':=s.gens) (d':=s.drawn) (ch:=[a,b]) (fun c hc=>?_) (fun c o _ _ hc e _=>kk c o hc e) (fun c o _ _ hc e _=>⟨o.slots,kk c o hc e⟩) (fun c o _ e n=>by rw [zJ (zKX (zKS (Heap.lt_size e) hT))];exact n)
  (fun c o hc e=>⟨o,kk c o hc e⟩) (fun c ys e=>by rw [zJ (zG e nT)];exact e) (fun c o u e=>by rw [zJ (zG e nT)];exact e) (fun c ps e=>⟨#[],by rw [zJ (zG e nT),e];simp⟩) (fun m hm=>?_) (fun c u e=>?_) I.bare
 ·rcases List.mem_cons.mp hc with rfl | hc
  ·exact ⟨fa.2.2.2.1,fa.2.1,fa.2.2.2.2.1,fa.2.2.2.2.2⟩
  ·rw [zJ9.mp hc]
   exact ⟨fb.2.2.2.1,fb.2.1,fb.2.2.2.2.1,fb.2.2.2.2.2⟩
 ·obtain ⟨o,es,ep,ho,r⟩:=hm
  exact ⟨o,es,ep,k _ o (Ne.symm fa.2.1) (Ne.symm fb.2.1) ho,r⟩
 ·by_cases hc:c=T
  ·subst hc;rw [zB] at e;cases e;exact new
  ·rw [zJ hc] at e
   refine (I.hok c u e).stay (fun d v hd q=>?_) (fun d q=>by rw [zJ (zG q nT)];exact q) fun d ys q=>by rw [zJ (zG q nT)];exact q
   rcases hd with z | z
   ·rw [z] at q ⊢;exact k c v (na c u e) (nb c u e) q
   ·exact k d v (na d _ z) (nb d _ z) q
def Ite (K:W.Frag) (a:Addr) (k:Int):It:=
 ⟨fun i H=>∃ xs x,SqL K H a xs/\xs[i]?=some x,fun i H x H'=>∃ T v,x=.ref T/\H T=none/\H'=upd H T (.tup [.int (k + i),v])/\∀ xs,SqL K H a xs->xs[i]?=some v,fun i H=>∃ xs,SqL K H a xs/\xs.length <= i⟩
theorem fX {P:Program} {w:World} {K:W.Frag} {elts:List Expr} {n:Nat} {tp:Pos} (a e it:Addr) (k:Int) (hne:e ≠ it):zBM P w K (.Tuple elts n tp) (Ite K a k) [e,it] e (fun i h=>(∃ old,IsEnum h e it (k + i) old)/\h.IsListIter it a i) where
 mem:=by simp
 obj:=fun i h st b hb=>by
  obtain ⟨⟨old,he⟩,o,ho,c,d⟩:=st
  rcases List.mem_cons.mp hb with rfl | hb
  ·exact ⟨_,he,fun v z=>by cases z⟩
  ·rw [zJ9.mp hb]
   exact ⟨o,ho,fun v z=>by rw [d] at z;cases z⟩
 keep:=fun i h h' st kk=>⟨let ⟨old,he⟩:=st.1;⟨old,kk e (by simp) _ he⟩,st.2.at fun o z=>kk it (by simp) o z⟩
 item:=by
  intro X hP hw hK hc i zp s σ H E I hf st hg
  subst hP hw hK
  obtain ⟨xs,x,hq,hx⟩:=hg
  obtain ⟨⟨old,he⟩,hit⟩:=st
  obtain ⟨its,rv,p,hz⟩:=I.list hq
  obtain ⟨u,hu,ru⟩:=rv.get hx
  refine zAZ he hit p.isList (x:=u) (by simpa using hu) hne fun h' eo it' tt kp=>?_
  refine ⟨_,rfl,wpAny_letOwnedTupleGo_enum eo fun h2 e2 s2=>?_⟩
  have el:e < s.heap.objs.size:=Heap.lt_size he
  have il:it < s.heap.objs.size:=by obtain ⟨o,ho,_⟩:=hit;exact Heap.lt_size ho
  have tt2:h2.get? s.heap.objs.size=some { cls:=.type "tuple",data:=.seq #[.int (k + i) s.toks,u] }:=(s2.2 _ (Nat.ne_of_gt el)).trans tt
  have I1:Inv X zp σ (upd H s.heap.objs.size (.tup [.int (k + i),x])) { s with heap:=h2,toks:=s.toks + 1 }:=I.turnedT (fun c o n1 n2 z=>(s2.2 c n1).trans (kp c o n1 n2 z)) (hf e (by simp)) (hf it (by simp)) (zKF _)
   ⟨by show 2 <= sizeLine;decide,[.int (k + i) s.toks,u],.cons ⟨_,rfl⟩ (.cons ru .nil),_,tt2,rfl,_,rfl⟩
  refine ⟨.ref s.heap.objs.size,_,I1,rfl,⟨s.heap.objs.size,x,rfl,I.hok.fresh (zKF _),rfl,fun ys hy=>by rw [I.list_inj hy hq];exact hx⟩,⟨⟨u,by have z:=e2;rw [show k + (i:Int) + 1=k + ((i + 1:Nat):Int) by omega] at z;exact z⟩,it'.at fun o z=>(s2.2 it (Ne.symm hne)).trans z⟩,fun b hb=>?_⟩
  have bl:b ≠ s.heap.objs.size:=by
   rcases List.mem_cons.mp hb with rfl | hb
   ·exact zKX el
   ·rw [zJ9.mp hb];exact zKX il
  rw [zJ bl]
  exact (hf b hb).1
 done:=by
  intro X hP hw hK hc i zp s σ H E I hf st hg
  subst hP hw hK
  obtain ⟨xs,hq,hx⟩:=hg
  obtain ⟨⟨old,he⟩,hit⟩:=st
  obtain ⟨its,rv,p,hz⟩:=I.list hq
  obtain ⟨f0,f1,f2,f3,f4,f5⟩:=hf it (by simp)
  have hl:=rv.length
  exact zDI (I.ok.hd hc) he hit p.isList (by simp;omega) fun h' eb=>⟨rfl,I.turned (t':=s.toks) (fun b o hb z=>eb b o hb z) f0 f1 f3 f4 f5⟩
 self:=fun _ _ _ _ _ st h=>by
  obtain ⟨⟨old,he⟩,_⟩:=st
  exact wpAny_pyIter_enum he h
section
variable {X:Cx}
def zJJ (K:W.Frag) (k:Int) (tl:TE):TI:=fun σ H R=>tl σ H fun x H1=>∃ a,x=.ref a/\(∃ xs,SqL K H1 a xs)/\R (Ite K a k) H1
end
end L2
namespace L2
open PySem PySem.Spec PyProof.Rows
theorem zBS (g1:Comprehension) (elt target iter:Expr) (ifs:List Expr) (scope:Scope) (pos:Pos) (it acc:Value) (env:Env) :
  compTurn (.ListComp elt [g1,⟨target,iter,ifs,0⟩] scope pos) 1 it acc env=(do
   standAt iter.pos
   match <- pyNext it with
   | none=>pure (.done .next)
   | some v=>do
    letOwnedTupleGo target it v
    assign target env v
    let ok <- forIn ifs true fun c r=>if r=true then do let ok <- isTrue c env (eval c env);pure (ForInStep.yield ok) else pure (ForInStep.yield r)
    if ok=true then do
     (do let z <- eval elt env;let _ <- call (.builtin "list.append") [acc,z])
     again (.compLoop (.ListComp elt [g1,⟨target,iter,ifs,0⟩] scope pos) 1 it acc env)
    else again (.compLoop (.ListComp elt [g1,⟨target,iter,ifs,0⟩] scope pos) 1 it acc env)):=rfl
theorem cN (elt target iter tg2 iter2:Expr) (ifs ifs2:List Expr) (scope:Scope) (pos:Pos) (it acc:Value) (env:Env) :
  compTurn (.ListComp elt [⟨target,iter,ifs,0⟩,⟨tg2,iter2,ifs2,0⟩] scope pos) 0 it acc env=(do
   standAt iter.pos
   match <- pyNext it with
   | none=>pure (.done .next)
   | some v=>do
    letOwnedTupleGo target it v
    assign target env v
    let ok <- forIn ifs true fun c r=>if r=true then do let ok <- isTrue c env (eval c env);pure (ForInStep.yield ok) else pure (ForInStep.yield r)
    if ok=true then do
     let x <- eval iter2 env
     standAt iter2.pos
     let x <- foldedSetIterable iter2 env x
     let _ <- runOwn (.compStart (.ListComp elt [⟨target,iter,ifs,0⟩,⟨tg2,iter2,ifs2,0⟩] scope pos) 1 (<- holding [x] (pyIter x)) acc env) env
     again (.compLoop (.ListComp elt [⟨target,iter,ifs,0⟩,⟨tg2,iter2,ifs2,0⟩] scope pos) 0 it acc env)
    else again (.compLoop (.ListComp elt [⟨target,iter,ifs,0⟩,⟨tg2,iter2,ifs2,0⟩] scope pos) 0 it acc env)):=rfl
section
variable {prog:Program} {w:World} {A:Around} {R:Result->Shared->Prop} {s:Shared} {elt target iter tg2 iter2:Expr} {ifs ifs2:List Expr} {scope:Scope} {pos:Pos} {it acc:Value} {env:Env}
theorem cZ {g1:Comprehension} (h0:codeAny (model prog w) A (.compLoop (.ListComp elt [g1,⟨target,iter,ifs,0⟩] scope pos) 1 it acc env) R s)
  (h:wpAny (model prog w) A (pyIter it) (fun it' s'=>codeAny (model prog w) A (.compLoop (.ListComp elt [g1,⟨target,iter,ifs,0⟩] scope pos) 1 it' acc env) R s') (fun _ _=>False) s) :
  codeAny (model prog w) A (.compStart (.ListComp elt [g1,⟨target,iter,ifs,0⟩] scope pos) 1 it acc env) R s:=by
 refine codeAny_of_tree ?_
 show wpAny _ _ ((compStart (.ListComp elt [g1,⟨target,iter,ifs,0⟩] scope pos) 1 it acc env).onRaise (fun x=>do noteFrame x env;standAt theWindowsPlace)) _ _ s
 refine wpAny_notedAt ?_
 unfold compStart;show wpAny _ _ (ask >>= _) _ _ s
 refine wpAny_bind (wpAny_askSetting (wpAny_ite ?_));split
 ·first | exact wpAny_bind (wpAny_pure (wpAny_pure (And.intro rfl h0))) | exact wpAny_pure (And.intro rfl h0)
 ·have hh:wpAny (model prog w) A (pyIter it) (fun it' s'=>codeAny (model prog w) A (.compLoop (.ListComp elt [g1,⟨target,iter,ifs,0⟩] scope pos) 1 it' acc env) R s') (notedBy (model prog w) A env fun x s'=>R (.error x) s') s:=wpAny_mono h (fun _ _ q=>q) fun _ _ q=>q.elim
  refine wpAny_bind (wpAny_rule ?_)
  show wpAny _ _ (standAt iter.pos >>= _) _ _ s
  exact wpAny_bind (wpAny_standAt (wpAny_bind (wpAny_mono hh (fun it' s' h'=>wpAny_pure ⟨rfl,h'⟩) fun _ _ x=>x)))
theorem zJG {g1:Comprehension} (J:Nat->Shared->Prop)
  (turn:∀ n s,J n s->wpAny (model prog w) A (pyNext it) (fun r s1=>match r with
   | none=>R (.ok .next) s1
   | some v=>wpAny (model prog w) A (letOwnedTupleGo target it v) (fun _ s1'=>wpAny (model prog w) A (assign target env v) (fun _ s2=>
     wpAny (model prog w) A (forIn ifs true fun c r=>if r=true then do let ok <- isTrue c env (eval c env);pure (ForInStep.yield ok) else pure (ForInStep.yield r)) (fun ok s3=>
      if ok=true then wpAny (model prog w) A (eval elt env) (fun x s4=>
       wpAny (model prog w) A (call (.builtin "list.append") [acc,x]) (fun _ s5=>∃ m,m < n/\J m s5) (fun _ _=>False) s4) (fun _ _=>False) s3
      else ∃ m,m < n/\J m s3) (fun _ _=>False) s2) (fun _ _=>False) s1') (fun _ _=>False) s1) (fun _ _=>False) s)
  (n:Nat) (h:J n s):codeAny (model prog w) A (.compLoop (.ListComp elt [g1,⟨target,iter,ifs,0⟩] scope pos) 1 it acc env) R s:=by
 refine codeAny_loop rfl J (fun n s hJ=>?_) n h
 have nof:∀ (e:Value) (s':Shared),False->notedBy (model prog w) A env (fun e s'=>R (.error e) s') e s':=fun _ _ f=>f.elim
 show wpAny (model prog w) A ((compTurn (.ListComp elt [g1,⟨target,iter,ifs,0⟩] scope pos) 1 it acc env).onRaise (fun x=>do noteFrame x env;theTreesLotGoes x)) _ _ s
 refine wpAny_noted ?_
 rw [zBS]
 refine wpAny_bind (wpAny_standAt (wpAny_bind (wpAny_mono (turn n s hJ) (fun r s1 h1=>?_) nof)))
 cases r with
 | none=>exact wpAny_pure h1
 | some v=>
  refine wpAny_bind (wpAny_mono h1 (fun _ s1' h1'=>?_) nof)
  refine wpAny_bind (wpAny_mono h1' (fun _ s2 h2=>?_) nof)
  refine wpAny_bind (wpAny_mono h2 (fun ok s3 h3=>?_) nof)
  cases ok with
  | false=>exact wpAny_pure ⟨rfl,h3⟩
  | true=>
   refine wpAny_bind (wpAny_bind (wpAny_mono h3 (fun x s4 h4=>?_) nof))
   exact wpAny_bind (wpAny_mono h4 (fun _ s5 h5=>wpAny_pure (wpAny_pure ⟨rfl,h5⟩)) nof)
theorem zGN (hf:∀ x,foldedSetIterable iter2 env x=pure x) (J:Nat->Shared->Prop)
  (turn:∀ n s,J n s->wpAny (model prog w) A (pyNext it) (fun r s1=>match r with
   | none=>R (.ok .next) s1
   | some v=>wpAny (model prog w) A (letOwnedTupleGo target it v) (fun _ s1'=>wpAny (model prog w) A (assign target env v) (fun _ s2=>
     wpAny (model prog w) A (forIn ifs true fun c r=>if r=true then do let ok <- isTrue c env (eval c env);pure (ForInStep.yield ok) else pure (ForInStep.yield r)) (fun ok s3=>
      if ok=true then wpAny (model prog w) A (eval iter2 env) (fun x s4=>wpAny (model prog w) A (pyIter x) (fun it2 s5=>
       codeAny (model prog w) A (.compStart (.ListComp elt [⟨target,iter,ifs,0⟩,⟨tg2,iter2,ifs2,0⟩] scope pos) 1 it2 acc env) (fun r s6=>r=.ok .next/\∃ m,m < n/\J m s6) s5) (fun _ _=>False) s4) (fun _ _=>False) s3
      else ∃ m,m < n/\J m s3) (fun _ _=>False) s2) (fun _ _=>False) s1') (fun _ _=>False) s1) (fun _ _=>False) s)
  (n:Nat) (h:J n s):codeAny (model prog w) A (.compLoop (.ListComp elt [⟨target,iter,ifs,0⟩,⟨tg2,iter2,ifs2,0⟩] scope pos) 0 it acc env) R s:=by
 refine codeAny_loop rfl J (fun n s hJ=>?_) n h
 have nof:∀ (e:Value) (s':Shared),False->notedBy (model prog w) A env (fun e s'=>R (.error e) s') e s':=fun _ _ f=>f.elim
 show wpAny (model prog w) A ((compTurn (.ListComp elt [⟨target,iter,ifs,0⟩,⟨tg2,iter2,ifs2,0⟩] scope pos) 0 it acc env).onRaise (fun x=>do noteFrame x env;theTreesLotGoes x)) _ _ s
 refine wpAny_noted ?_
 rw [cN]
 refine wpAny_bind (wpAny_standAt (wpAny_bind (wpAny_mono (turn n s hJ) (fun r s1 h1=>?_) nof)))
 cases r with
 | none=>exact wpAny_pure h1
 | some v=>
  refine wpAny_bind (wpAny_mono h1 (fun _ s1' h1'=>?_) nof)
  refine wpAny_bind (wpAny_mono h1' (fun _ s2 h2=>?_) nof)
  refine wpAny_bind (wpAny_mono h2 (fun ok s3 h3=>?_) nof)
  cases ok with
  | false=>exact wpAny_pure ⟨rfl,h3⟩
  | true=>
   simp only [if_true]
   refine wpAny_bind (wpAny_mono h3 (fun x s4 h4=>?_) nof)
   refine wpAny_bind (wpAny_standAt ?_)
   rw [hf]
   refine wpAny_bind (wpAny_pure (wpAny_bind (wpAny_holding (wpAny_mono h4 (fun it2 s5 h5=>?_) nof))))
   refine wpAny_bind (wpAny_runOwn (h:=none) ?_)
   rw [Around.mark_none]
   refine codeAny_mono h5 fun r s6 hz73=>?_
   obtain ⟨e,q⟩:=hz73
   subst e
   exact wpAny_pure ⟨rfl,q⟩
end
def INW (J:It) (g:TG) (tt:TT) (te:TE) (acc:Addr) (ys0:List V) (τ0:St) (H0:Hp) (N:List V->St->Hp->Prop):Prop:=
 ∃ W:Nat->Nat->List V->St->Hp->Prop,(∃ m,W 0 m ys0 τ0 H0)/\∀ i m ys τ H,W i m ys τ H->H acc=some (.lst ys)/\ys.length < sizeLine /\
  ((J.stop i H/\N ys τ H) \/ (J.go i H/\∃ M:List V->St->Hp->Prop,(∀ ys' τ' H',M ys' τ' H'->∃ m',m' < m/\W (i + 1) m' ys' τ' H') /\
   ∀ x H',J.yld i H x H'->g x τ H' fun τ2 H2=>tt τ2 H2 fun b H3=>if b=true then te τ2 H3 fun y H4=>H4 acc=some (.lst ys)/\M (ys ++ [y]) τ2 (upd H4 acc (.lst (ys ++ [y]))) else M ys τ2 H3))
def zJ3 (J:It) (xs:List Str) (ix:List Nat) (g:TG) (tt:TT) (wi2:TI) (g2:TG) (tt2:TT) (te:TE) (σ:St) (H1:Hp) (acc:Addr) (Q:VK):Prop:=
 ∃ W:Nat->Nat->List V->St->Hp->Prop,(∃ m,W 0 m [] (stC xs ix σ) (upd H1 acc (.lst [])))/\∀ i m ys τ H,W i m ys τ H ->
  ((J.stop i H/\Q (.ref acc) H) \/ (J.go i H/\∃ N:List V->St->Hp->Prop,(∀ ys' τ' H',N ys' τ' H'->∃ m',m' < m/\W (i + 1) m' ys' τ' H') /\
   ∀ x H',J.yld i H x H'->g x τ H' fun τ2 H2=>tt τ2 H2 fun b H3=>if b=true then wi2 τ2 H3 fun J2 H4=>INW J2 g2 tt2 te acc ys τ2 H4 N else N ys τ2 H3))
def zE5 (xs:List Str) (ix:List Nat) (wi:TI) (g:TG) (tt:TT) (wi2:TI) (g2:TG) (tt2:TT) (te:TE):TE:=fun σ H Q=>wi σ H fun J H1=>∀ acc,H1 acc=none->zJ3 J xs ix g tt wi2 g2 tt2 te σ H1 acc Q
theorem zAM {X:Cx} {xs:List Str} {ix:List Nat} {scope:Scope} {elt tg iter tg2 iter2:Expr} {ifs ifs2:List Expr} {pos:Pos} {wi wi2:TI} {g g2:TG} {tt tt2:TT} {te:TE}
  (S:yW X xs ix scope) (hc:X.calm=true) (hi:PI X tg iter wi) (hi2:∀ C fp s H,PI (cxC X xs ix scope C fp s H) tg2 iter2 wi2) (hf2:∀ env x,foldedSetIterable iter2 env x=pure x)
  (hg:∀ C fp s H,PG (cxC X xs ix scope C fp s H) tg g) (ht:∀ C fp s H,PTs (cxC X xs ix scope C fp s H) ifs tt) (hg2:∀ C fp s H,PG (cxC X xs ix scope C fp s H) tg2 g2) (ht2:∀ C fp s H,PTs (cxC X xs ix scope C fp s H) ifs2 tt2) (he:∀ C fp s H,PE (cxC X xs ix scope C fp s H) elt te)
  {zp:LAO} {s:Shared} {σ:St} {H:Hp} {Q:VK} (I:Inv X zp σ H s) (h:zE5 xs ix wi g tt wi2 g2 tt2 te σ H Q) {use:Option (Value->Sem Unit)} {R:VSP}
  (fin:∀ (acc C:Addr) (H':Hp) (s':Shared) (m:Str->Option Value),Q (.ref acc) H'->s'.heap.Ns C m->(∀ h',Heap.SameBut C s'.heap h'->∀ tk,Inv X zp σ H' { s' with heap:=h',toks:=tk })->(X.s₀.heap.objs.size <= C/\C ≠ X.env.locals/\(∀ x c,X.env.cells.lookup x=some c->c ≠ C)/\(∀ p ∈ X.pn ++ zp,p.1 ≠ C)/\H' C=none)->compPost (model X.prog X.w) X.A X.xe use R (.ref acc) C (.ok .next) s') :
  wpAny (model X.prog X.w) X.A (eval iter X.env) (fun x s₁=>wpAny (model X.prog X.w) X.A (pyIter x) (fun it s₂=>wpAny (model X.prog X.w) X.A (newList []) (fun acc s₃=>
   wpAny (model X.prog X.w) X.A (newFunctionEnv scope X.env.globals (clF X.env scope.names []) [] X.env.qual none .none (some X.env)) (fun cenv s₄=>
    codeAny (model X.prog X.w) X.A (.compStart (.ListComp elt [⟨tg,iter,ifs,0⟩,⟨tg2,iter2,ifs2,0⟩] scope pos) 0 it acc { cenv with scope:=relabel scope X.env }) (compPost (model X.prog X.w) X.A X.xe use R acc cenv.locals) s₄) X.xe s₃) X.xe s₂) X.xe s₁) X.xe s:=by
 refine thn (hi zp s σ H _ I h) fun v s1 h1=>thn h1 fun itv s2 h2=>?_
 obtain ⟨it,fp,tn,J,H2,rfl,I2,T,st2,f2,q⟩:=h2
 refine wpAny_newObj_type ?_
 have I3:Inv X zp σ (upd H2 s2.heap.objs.size (.lst [])) { s2 with heap:=s2.heap.push { cls:=.type "list",data:=.seq ([]:List Value).toArray },toks:=s2.toks }:=I2.lnew (ys:=[]) (its:=[]) .nil (zKG _)
 obtain ⟨W,⟨m0,w0⟩,turn⟩:=q s2.heap.objs.size I2.fresh
 have objs2:=T.obj 0 _ st2
 have neacc:∀ b ∈ fp,b ≠ s2.heap.objs.size:=fun b hb z=>by
  obtain ⟨o,ho,_⟩:=objs2 b hb
  exact Nat.lt_irrefl _ (Nat.lt_of_lt_of_eq (Heap.lt_size ho) z.symm)
 generalize hacc:s2.heap.objs.size=acc at *
 generalize hs3:({ s2 with heap:=s2.heap.push { cls:=.type "list",data:=.seq ([]:List Value).toArray } }:Shared)=s3
 have I3:Inv X zp σ (upd H2 acc (.lst [])) s3:=by rw [<- hs3];exact I3
 have k3:∀ b o,s2.heap.get? b=some o->s3.heap.get? b=some o:=fun b o e=>by rw [<- hs3];exact Heap.get?_push_of_some _ e
 have f3:∀ b ∈ fp,vW X zp (upd H2 acc (.lst [])) b:=fun b hb=>⟨by rw [zJ (neacc b hb)];exact (f2 b hb).1,(f2 b hb).2⟩
 have o3:∀ b ∈ fp,∃ o,s3.heap.get? b=some o:=fun b hb=>let ⟨o,ho,_⟩:=objs2 b hb;⟨o,k3 b o ho⟩
 have st3:tn 0 s3.heap:=T.keep _ _ _ st2 fun b _ o e=>k3 b o e
 refine wpAny_newFunctionEnv S.nocell (by intro y hy;simp at hy) (fun h1 hns1 hsb1=>?_) S.kind
 have keep1:∀ b o,s3.heap.get? b=some o->h1.get? b=some o:=fun b o e=>hsb1.extBut b o (zKX (Heap.lt_size e)) (Heap.get?_push_of_some _ e)
 generalize hs4:({ s3 with heap:=h1,toks:=s3.toks + ([]:List (Str × Value)).length }:Shared)=s4
 have I4:Inv (cxC X xs ix scope s3.heap.objs.size fp s3 (upd H2 acc (.lst []))) [] (stC xs ix σ) (upd H2 acc (.lst [])) s4:=uE S I3 f3 o3 hns1 keep1 hs4.symm
 have st4:tn 0 s4.heap:=T.keep _ _ _ st3 fun b _ o e=>by rw [<- hs4];exact keep1 b o e
 generalize hX':cxC X xs ix scope s3.heap.objs.size fp s3 (upd H2 acc (.lst []))=X' at *
 have hg:=hg s3.heap.objs.size fp s3 (upd H2 acc (.lst []))
 have ht:=ht s3.heap.objs.size fp s3 (upd H2 acc (.lst []))
 have he:=he s3.heap.objs.size fp s3 (upd H2 acc (.lst []))
 have hg2:=hg2 s3.heap.objs.size fp s3 (upd H2 acc (.lst []))
 have ht2:=ht2 s3.heap.objs.size fp s3 (upd H2 acc (.lst []))
 have hi2:=hi2 s3.heap.objs.size fp s3 (upd H2 acc (.lst []))
 rw [hX'] at hg ht he hg2 ht2 hi2
 have eP:X'.prog=X.prog:=by rw [<- hX'];rfl
 have ew:X'.w=X.w:=by rw [<- hX'];rfl
 have eK:X'.K=X.K:=by rw [<- hX'];rfl
 have eA:X'.A=X.A:=by rw [<- hX'];rfl
 have ec:X'.calm=true:=by rw [<- hX'];exact hc
 have ex:X'.xe=fun _ _=>False:=by rw [<- hX'];rfl
 have eenv:X'.env=compEnvC scope (clF X.env scope.names []) s3.heap.objs.size X.env:=by rw [<- hX'];rfl
 have eex:X'.ex=fp:=by rw [<- hX'];rfl
 have efs:X'.fs=frs X.stack:=by rw [<- hX'];rfl
 have epn:X'.pn=[]:=by rw [<- hX'];rfl
 have eH0:X'.H₀=upd H2 acc (.lst []):=by rw [<- hX'];rfl
 have es0:X'.s₀=s3:=by rw [<- hX'];rfl
 have eloc:X'.env.locals=s3.heap.objs.size:=by rw [eenv];rfl
 have stat:∀ {H':Hp},(∀ b ∈ fp,H' b=none)->∀ b ∈ fp,vW X' [] H' b:=fun {H'} hn b hb=>by
  refine ⟨hn b hb,?_,?_,.inl (by rw [eex];exact hb),?_,?_⟩
  ·rw [eloc]
   intro z
   obtain ⟨o,ho⟩:=o3 b hb
   exact Nat.lt_irrefl _ (Nat.lt_of_lt_of_eq (Heap.lt_size ho) z.symm)
  ·exact I4.ok.exfs b (by rw [eex];exact hb)
  ·exact (I4.ok.exf b (by rw [eex];exact hb)).2
  ·rw [epn];intro p hp;exact absurd hp (by simp)
 have loop:codeAny (model X.prog X.w) X.A (.compLoop (.ListComp elt [⟨tg,iter,ifs,0⟩,⟨tg2,iter2,ifs2,0⟩] scope pos) 0 (.ref it) (.ref acc) X'.env) (compPost (model X.prog X.w) X.A X.xe use R (.ref acc) s3.heap.objs.size) s4:=by
  refine zGN (fun x=>hf2 _ x) (fun n s'=>∃ i ys τ H',Inv X' [] τ H' s'/\tn i s'.heap/\(∀ b ∈ fp,H' b=none)/\W i n ys τ H') ?_ m0 ⟨0,[],_,_,I4,st4,fun b hb=>(f3 b hb).1,w0⟩
  rintro n s5 ⟨i,ys,τ,H5,I5,st5,fr5,w5⟩
  rcases turn i n ys τ H5 w5 with ⟨stop,qn⟩ | ⟨go,N,hN,step⟩
  ·have d:=T.done X' eP ew eK ec i [] s5 τ H5 (fun _ _=>False) I5 (stat fr5) st5 stop
   rw [eA] at d
   refine thn d fun r s6 hz74=>?_
   obtain ⟨hr,I6⟩:=hz74
   subst hr
   obtain ⟨m,hn6,_⟩:=id I6.loc
   rw [eloc] at hn6
   refine fin acc s3.heap.objs.size H5 s6 m qn hn6 (fun h' hsb tk=>?_) ⟨I3.sz,Ne.symm (zKX I3.lt),fun x c e z=>by
    obtain ⟨v,oc,hoc,_⟩:=I3.cell x c e
    exact Nat.lt_irrefl _ (Nat.lt_of_lt_of_eq (Heap.lt_size hoc) z.symm),fun p hp z=>Nat.lt_irrefl _ (Nat.lt_of_lt_of_eq (Heap.lt_size (I3.pin p hp).1) z.symm),by have:=I6.free;rw [eloc] at this;exact this⟩
   have same:∀ b,b ≠ s3.heap.objs.size->h'.get? b=s6.heap.get? b:=fun b hb=>hsb.2 b hb
   have ub:=I6.base
   rw [efs,eex,eH0,es0] at ub
   have ne3:∀ b o,s3.heap.get? b=some o->b ≠ s3.heap.objs.size:=fun b o e=>zKX (Heap.lt_size e)
   have u:Un (frs X.stack) fp (upd H2 acc (.lst [])) H5 s3.heap h':=
    ⟨fun b o e n1 n2 n3=>(same b (ne3 b o e)).trans (ub.keep b o e n1 n2 n3),fun b o e n1 n2 n3=>by
      obtain ⟨sl,z⟩:=ub.slot b o e n1 n2 n3
      exact ⟨sl,(same b (ne3 b o e)).trans z⟩,ub.free,fun b o e n3=>by
      obtain ⟨o',z⟩:=ub.there b o e n3
      exact ⟨o',(same b (ne3 b o e)).trans z⟩,ub.tups,ub.frzs,ub.tbls⟩
   have fC:H5 s3.heap.objs.size=none:=by have:=I6.free;rw [eloc] at this;exact this
   have hok:HOk X.prog X.w H5 h':=fun b o e=>by
    have z:=I6.hok b o e
    rw [eP,ew] at z
    refine z.stay (fun c u hc q=>(same c ?_).trans q) (fun _ q=>q) fun _ _ q=>q
    intro zc
    rcases hc with q1 | q1
    ·rw [<- q1,zc,fC] at e;cases e
    ·rw [zc,fC] at q1;cases q1
   have hch:∀ b ∈ fp,(b ∈ X.ex \/ X.s₀.heap.objs.size <= b)/\b ≠ X.env.locals/\(∀ x c,X.env.cells.lookup x=some c->c ≠ b)/\∀ p ∈ X.pn ++ zp,p.1 ≠ b:=fun b hb=>by
    obtain ⟨_,f1,_,g3,g4,g5⟩:=f3 b hb
    exact ⟨g3,f1,g4,g5⟩
   have ho:s6.os=s3.os:=by have:=I6.os;rw [es0] at this;exact this
   exact I3.call' (s':={ s6 with heap:=h',toks:=tk }) (ch:=fp) ho u hok I6.bare hch
  ·have d:=T.item X' eP ew eK ec i [] s5 τ H5 (fun _ _=>False) I5 (stat fr5) st5 go
   rw [eA] at d
   refine thn d fun r s6 hz75=>?_
   obtain ⟨u,hr,h6⟩:=hz75
   subst hr
   refine thn h6 fun _ s7 hz76=>?_
   obtain ⟨x,H7,I7,r7,y7,st7,fr7⟩:=hz76
   have I7':=I7.pinned (stat fr7) (T.obj _ _ st7)
   have dg:=hg _ s7 τ H7 x u _ I7' r7 (step x H7 y7)
   rw [eP,ew,eA,ex] at dg
   refine thn dg fun _ s8 hz77=>?_
   obtain ⟨τ8,H8,I8,q8⟩:=hz77
   have dt:=ht _ s8 τ8 H8 _ I8 q8
   rw [eP,ew,eA,ex] at dt
   refine thn dt fun ok s9 hz78=>?_
   obtain ⟨H9,I9,q9⟩:=hz78
   have again:∀ {τ':St} {H':Hp} {s':Shared},Inv X' ([] ++ xQ fp s7.heap) τ' H' s'->Inv X' [] τ' H' s'/\tn (i + 1) s'.heap/\∀ b ∈ fp,H' b=none:=fun {τ' H' s'} Ie=>by
    refine ⟨Ie.unpinned,T.keep _ _ _ st7 fun b hb o e=>(Ie.pin (b,o) (zKK _ (zKK _ (yM hb e)))).1,fun b hb=>?_⟩
    obtain ⟨o,e,_⟩:=T.obj _ _ st7 b hb
    exact (Ie.pin (b,o) (zKK _ (zKK _ (yM hb e)))).2.1
   cases ok with
   | false=>
    rw [if_neg zKY] at q9 ⊢
    obtain ⟨m',hm,w9⟩:=hN _ _ _ q9
    obtain ⟨z1,z2,z3⟩:=again I9
    exact ⟨m',hm,i + 1,ys,τ8,H9,z1,z2,z3,w9⟩
   | true=>
    rw [if_pos rfl] at q9 ⊢
    have de:=hi2 _ s9 τ8 H9 _ I9 q9
    rw [eP,ew,eA,ex] at de
    refine thn de fun xv s10 h10=>thn h10 fun itv s11 h11=>?_
    obtain ⟨it2,fp2,tn2,J2,H11,rfl,I11,T2,st11,f11,W2,⟨m2,w2⟩,turn2⟩:=h11
    rw [eP,ew,eK] at T2
    have stat2:∀ {H':Hp},(∀ b ∈ fp2,H' b=none)->∀ b ∈ fp2,vW X' ([] ++ xQ fp s7.heap) H' b:=fun hn b hb=>⟨hn b hb,(f11 b hb).2⟩
    have loop2:codeAny (model X.prog X.w) X.A (.compLoop (.ListComp elt [⟨tg,iter,ifs,0⟩,⟨tg2,iter2,ifs2,0⟩] scope pos) 1 (.ref it2) (.ref acc) X'.env) (fun r s12=>r=.ok .next/\∃ m,m < n/\∃ i ys τ H',Inv X' [] τ H' s12/\tn i s12.heap/\(∀ b ∈ fp,H' b=none)/\W i m ys τ H') s11:=by
     refine zJG (fun n2 s'=>∃ i2 ys2 τ2 H',Inv X' ([] ++ xQ fp s7.heap) τ2 H' s'/\tn2 i2 s'.heap/\(∀ b ∈ fp2,H' b=none)/\W2 i2 n2 ys2 τ2 H') ?_ m2 ⟨0,ys,τ8,H11,I11,st11,fun b hb=>(f11 b hb).1,w2⟩
     rintro n2 s12 ⟨i2,ys2,τ12,H12,I12,st12,fr12,w12⟩
     obtain ⟨ha12,hz12,way2⟩:=turn2 i2 n2 ys2 τ12 H12 w12
     rcases way2 with ⟨stop2,qn2⟩ | ⟨go2,N2,hN2,step2⟩
     ·have d2:=T2.done X' eP ew eK ec i2 _ s12 τ12 H12 (fun _ _=>False) I12 (stat2 fr12) st12 stop2
      rw [eA] at d2
      refine thn d2 fun r s13 hz79=>?_
      obtain ⟨hr,I13⟩:=hz79
      subst hr
      obtain ⟨m',hm,w13⟩:=hN _ _ _ qn2
      obtain ⟨z1,z2,z3⟩:=again I13
      exact ⟨rfl,m',hm,i + 1,ys2,τ12,H12,z1,z2,z3,w13⟩
     ·have d2:=T2.item X' eP ew eK ec i2 _ s12 τ12 H12 (fun _ _=>False) I12 (stat2 fr12) st12 go2
      rw [eA] at d2
      refine thn d2 fun r s13 hz80=>?_
      obtain ⟨u2,hr,h13⟩:=hz80
      subst hr
      refine thn h13 fun _ s14 hz81=>?_
      obtain ⟨x2,H14,I14,r14,y14,st14,fr14⟩:=hz81
      have I14':=I14.pinned (stat2 fr14) (T2.obj _ _ st14)
      have dg2:=hg2 _ s14 τ12 H14 x2 u2 _ I14' r14 (step2 x2 H14 y14)
      rw [eP,ew,eA,ex] at dg2
      refine thn dg2 fun _ s15 hz82=>?_
      obtain ⟨τ15,H15,I15,q15⟩:=hz82
      have dt2:=ht2 _ s15 τ15 H15 _ I15 q15
      rw [eP,ew,eA,ex] at dt2
      refine thn dt2 fun ok2 s16 hz83=>?_
      obtain ⟨H16,I16,q16⟩:=hz83
      have again2:∀ {τ':St} {H':Hp} {s':Shared},Inv X' (([] ++ xQ fp s7.heap) ++ xQ fp2 s14.heap) τ' H' s'->Inv X' ([] ++ xQ fp s7.heap) τ' H' s'/\tn2 (i2 + 1) s'.heap/\∀ b ∈ fp2,H' b=none:=fun {τ' H' s'} Ie=>by
       refine ⟨Ie.unpinned,T2.keep _ _ _ st14 fun b hb o e=>(Ie.pin (b,o) (zKK _ (zKK _ (yM hb e)))).1,fun b hb=>?_⟩
       obtain ⟨o,e,_⟩:=T2.obj _ _ st14 b hb
       exact (Ie.pin (b,o) (zKK _ (zKK _ (yM hb e)))).2.1
      cases ok2 with
      | false=>
       rw [if_neg zKY] at q16 ⊢
       obtain ⟨m',hm,w16⟩:=hN2 _ _ _ q16
       obtain ⟨z1,z2,z3⟩:=again2 I16
       exact ⟨m',hm,i2 + 1,ys2,τ15,H16,z1,z2,z3,w16⟩
      | true=>
       rw [if_pos rfl] at q16 ⊢
       have de2:=he _ s16 τ15 H16 _ I16 q16
       rw [eP,ew,eA,ex] at de2
       refine thn de2 fun yv s17 hz84=>?_
       obtain ⟨y,H17,I17,r17,ha17,n17⟩:=hz84
       obtain ⟨m',hm,w17⟩:=hN2 _ _ _ n17
       have dm:=wG (X:=X') _ s17 τ15 H17 (.ref acc) [y] (.ref acc) [yv] (fun v H'=>v=.non/\H'=upd H17 acc (.lst (ys2 ++ [y]))) I17 rfl (.cons r17 .nil) ⟨acc,ys2,y,rfl,rfl,ha17,hz12,rfl,rfl⟩
       rw [eP,ew,eA,ex] at dm
       refine thn dm fun _ s18 hz85=>?_
       obtain ⟨_,H18,I18,_,_,e18⟩:=hz85
       subst e18
       obtain ⟨z1,z2,z3⟩:=again2 I18
       exact ⟨m',hm,i2 + 1,ys2 ++ [y],τ15,_,z1,z2,z3,w17⟩
    exact cZ loop2 (T2.self X.A 0 s11 _ (fun _ _=>False) st11 loop2)
 have e4:({ newEnv scope s3.heap.objs.size X.env.globals (clF X.env scope.names []) X.env.qual none .none (some X.env) builtinsNs with scope:=relabel scope X.env }:Env)=X'.env:=by rw [eenv];rfl
 rw [eenv] at loop
 have self:=T.self X.A 0 s4 (fun it' s'=>codeAny (model X.prog X.w) X.A (.compLoop (.ListComp elt [⟨tg,iter,ifs,0⟩,⟨tg2,iter2,ifs2,0⟩] scope pos) 0 it' (.ref acc) (compEnvC scope (clF X.env scope.names []) s3.heap.objs.size X.env)) (compPost (model X.prog X.w) X.A X.xe use R (.ref acc) s3.heap.objs.size) s')
  (notedBy (model X.prog X.w) X.A (compEnvC scope (clF X.env scope.names []) s3.heap.objs.size X.env) fun x s'=>compPost (model X.prog X.w) X.A X.xe use R (.ref acc) s3.heap.objs.size (.error x) s') st4 loop
 exact codeAny_compStart_list loop self
theorem zFX {X:Cx} {xs:List Str} {ix:List Nat} {scope:Scope} {elt tg iter tg2 iter2:Expr} {ifs ifs2:List Expr} {pos:Pos} {wi wi2:TI} {g g2:TG} {tt tt2:TT} {te:TE} (S:yW X xs ix scope) (hc:X.calm=true) (hi:PI X tg iter wi) (hi2:∀ C fp s H,PI (cxC X xs ix scope C fp s H) tg2 iter2 wi2)
  (hg:∀ C fp s H,PG (cxC X xs ix scope C fp s H) tg g) (ht:∀ C fp s H,PTs (cxC X xs ix scope C fp s H) ifs tt) (hg2:∀ C fp s H,PG (cxC X xs ix scope C fp s H) tg2 g2) (ht2:∀ C fp s H,PTs (cxC X xs ix scope C fp s H) ifs2 tt2)
  (he:∀ C fp s H,PE (cxC X xs ix scope C fp s H) elt te) (hs:∀ x,foldedSetIterable iter X.env x=pure x:=by intro _;rfl) (hf2:∀ env x,foldedSetIterable iter2 env x=pure x:=by intro _ _;rfl) :
  PE X (.ListComp elt [⟨tg,iter,ifs,0⟩,⟨tg2,iter2,ifs2,0⟩] scope pos) (zE5 xs ix wi g tt wi2 g2 tt2 te):=by
 intro zp s σ H Q I h
 have hcl:∀ n,(n,NameKind.free) ∈ scope.names->(X.env.cells.lookup n).isSome=true:=fun n hn=>by
  obtain ⟨c,e⟩:=I.ok.has n (S.fre n hn)
  rw [e];rfl
 rw [eval_ListComp]
 refine wpAny_comprehension_free (use:=none) rfl hs (xN hcl) S.kind S.loc ?_
 refine zAM S hc hi hi2 hf2 hg ht hg2 ht2 he I h fun acc C H' s' m q hn k _=>?_
 exact ⟨m,hn,fun h' hsb=>⟨.ref acc,H',k h' hsb s'.toks,rfl,q⟩⟩
theorem zCK {X:Cx} {N:List Str} {sc:Scope} {x y z u:Str} {ix:List Nat} {scope:Scope} {elt iter iter2:Expr} {ifs ifs2:List Expr} {px py pz pu tp tp2 pos:Pos} {tk tk2:Nat} {wi wi2:TI} {tt tt2:TT} {te:TE}
  (hS:uM N sc [x,y,z,u] ix scope) (hi:PI X (.Tuple [.Name x px,.Name y py] tk tp) iter wi) (hi2:∀ C fp s H,PI (cxC X [x,y,z,u] ix scope C fp s H) (.Tuple [.Name z pz,.Name u pu] tk2 tp2) iter2 wi2)
  (ht:∀ C fp s H,PTs (cxC X [x,y,z,u] ix scope C fp s H) ifs tt) (ht2:∀ C fp s H,PTs (cxC X [x,y,z,u] ix scope C fp s H) ifs2 tt2) (he:∀ C fp s H,PE (cxC X [x,y,z,u] ix scope C fp s H) elt te)
  (hN:X.N=N:=by rfl) (hsc:X.env.scope=sc:=by rfl) (hc:X.calm=true:=by rfl) (hs:∀ x,foldedSetIterable iter X.env x=pure x:=by intro _;rfl) (hf2:∀ env x,foldedSetIterable iter2 env x=pure x:=by intro _ _;rfl) :
  PE X (.ListComp elt [⟨.Tuple [.Name x px,.Name y py] tk tp,iter,ifs,0⟩,⟨.Tuple [.Name z pz,.Name u pu] tk2 tp2,iter2,ifs2,0⟩] scope pos)
   (zE5 [x,y,z,u] ix wi (iU X.K 2 (uD (xK 0) (uD (xK 1) iV))) tt wi2 (iU X.K 2 (uD (xK 2) (uD (xK 3) iV))) tt2 te):=by
 have S:=hS.at (X:=X) hN hsc
 have hl:∀ n ∈ [x,y,z,u],∀ C fp s H,(cxC X [x,y,z,u] ix scope C fp s H).env.scope.names.lookup n=some .local:=fun n hn _ _ _ _=>lookup_relabel_local (S.own n hn)
 have l0:=hl x (by simp)
 have l1:=hl y (by simp)
 have l2:=hl z (by simp)
 have l3:=hl u (by simp)
 exact zFX S hc hi hi2 (fun C fp s H=>uH (X:=cxC X [x,y,z,u] ix scope C fp s H) hc (yH (zZ S.nd rfl (Or.inl (l0 C fp s H)) (.inr (l0 C fp s H))) (yH (zZ S.nd rfl (Or.inl (l1 C fp s H)) (.inr (l1 C fp s H))) vE))) ht
  (fun C fp s H=>uH (X:=cxC X [x,y,z,u] ix scope C fp s H) hc (yH (zZ S.nd rfl (Or.inl (l2 C fp s H)) (.inr (l2 C fp s H))) (yH (zZ S.nd rfl (Or.inl (l3 C fp s H)) (.inr (l3 C fp s H))) vE))) ht2 he hs hf2
theorem zAP {K:W.Frag} {a acc:Addr} {its ys0:List V} {g:TG} {te:TE} {τ0:St} {H0:Hp} {N:List V->St->Hp->Prop} (Pv:Nat->List V->St->Hp->Prop) (h0:Pv 0 ys0 τ0 H0) (hacc:∀ i ys τ H,Pv i ys τ H->H acc=some (.lst ys)/\ys.length < sizeLine/\SqL K H a its)
  (hs:∀ i ys τ H x,its[i]?=some x->Pv i ys τ H->g x τ H fun τ2 H2=>te τ2 H2 fun y H4=>H4 acc=some (.lst ys)/\Pv (i + 1) (ys ++ [y]) τ2 (upd H4 acc (.lst (ys ++ [y])))) (hd:∀ ys τ H,Pv its.length ys τ H->N ys τ H):INW (Itl K a) g tG te acc ys0 τ0 H0 N:=by
 refine ⟨fun i m ys τ H=>m=its.length - i/\i <= its.length/\Pv i ys τ H,⟨its.length,by simp,zKG _,h0⟩,?_⟩
 rintro i m ys τ H ⟨rfl,hi,p⟩
 obtain ⟨c1,c2,c3⟩:=hacc i ys τ H p
 refine ⟨c1,c2,?_⟩
 by_cases hlt:i < its.length
 ·refine .inr ⟨⟨its,its[i],c3,by simp [hlt]⟩,Pv (i + 1),fun ys' τ' H' p'=>⟨its.length - (i + 1),by omega,rfl,hlt,p'⟩,fun x H' y=>?_⟩
  obtain ⟨e,y⟩:=y
  subst e
  exact qL (R:=fun τ2 _=>fun y H4=>H4 acc=some (.lst ys)/\Pv (i + 1) (ys ++ [y]) τ2 (upd H4 acc (.lst (ys ++ [y])))) (hs i ys τ _ x (y its c3) p)
 ·have e:i=its.length:=by omega
  subst e
  exact .inl ⟨⟨its,c3,zKF _⟩,hd ys τ H p⟩
theorem zAL {K:W.Frag} {a acc:Addr} {k:Int} {its:List V} {xs:List Str} {ix:List Nat} {g g2:TG} {tt2:TT} {wi2:TI} {te:TE} {σ:St} {H1:Hp} {Q:VK} (Pv:Nat->List V->St->Hp->Prop) (h0:Pv 0 [] (stC xs ix σ) (upd H1 acc (.lst []))) (hl:∀ i ys τ H,i <= its.length->Pv i ys τ H->SqL K H a its)
  (hs:∀ i ys τ H x T,its[i]?=some x->Pv i ys τ H->H T=none->g (.ref T) τ (upd H T (.tup [.int (k + i),x])) fun τ2 H2=>wi2 τ2 H2 fun J2 H4=>INW J2 g2 tt2 te acc ys τ2 H4 (Pv (i + 1))) (hd:∀ ys τ H,Pv its.length ys τ H->Q (.ref acc) H):zJ3 (Ite K a k) xs ix g tG wi2 g2 tt2 te σ H1 acc Q:=by
 refine ⟨fun i m ys τ H=>m=its.length - i/\i <= its.length/\Pv i ys τ H,⟨its.length,by simp,zKG _,h0⟩,?_⟩
 rintro i m ys τ H ⟨rfl,hi,p⟩
 have q:=hl i ys τ H hi p
 by_cases hlt:i < its.length
 ·refine .inr ⟨⟨its,its[i],q,by simp [hlt]⟩,Pv (i + 1),fun ys' τ' H' p'=>⟨its.length - (i + 1),by omega,rfl,hlt,p'⟩,fun x H' y=>?_⟩
  obtain ⟨T,v,rfl,nT,rfl,y⟩:=y
  have e:(fun τ2 H2=>tG τ2 H2 fun b H3=>if b=true then wi2 τ2 H3 fun J2 H4=>INW J2 g2 tt2 te acc ys τ2 H4 (Pv (i + 1)) else Pv (i + 1) ys τ2 H3)=fun τ2 H2=>wi2 τ2 H2 fun J2 H4=>INW J2 g2 tt2 te acc ys τ2 H4 (Pv (i + 1)):=by
   funext τ2 H2
   show (if true=true then wi2 τ2 H2 (fun J2 H4=>INW J2 g2 tt2 te acc ys τ2 H4 (Pv (i + 1))) else Pv (i + 1) ys τ2 H2)=_
   rw [if_pos rfl]
  rw [e]
  exact hs i ys τ H v T (y its q) p nT
 ·have e:i=its.length:=by omega
  subst e
  exact .inl ⟨⟨its,q,zKF _⟩,hd ys τ H p⟩
section
variable {X:Cx}
theorem aK {elts:List Expr} {n:Nat} {tp:Pos} {p pos:Pos} {l:Expr} {tl:TE} (hg:Gl X "enumerate") (hm:X.mg "enumerate"=none) (hl:PE X l tl) (he:starEach [l] X.env=[(false,eval l X.env)]:=by rfl) :
  PI X (.Tuple elts n tp) (.Call (.Name "enumerate" p) [l] [] pos) (zJJ X.K 0 tl):=by
 intro zp s σ H R I h
 refine wpAny_Call_Name_kw (rH I hg hm (u:=.type "enumerate") rfl ?_)
 rw [he]
 refine PySem.callWith_type rfl (Calls.evalArgs_plain (Calls.spliced_cons (thn (hl zp s σ H _ I h) fun v s1 hz86=>?_)))
 obtain ⟨x,H1,I1,r1,q1⟩:=hz86
 refine Calls.spliced_nil ?_
 obtain ⟨a,rfl,⟨xs,hq⟩,q⟩:=q1
 cases r1
 obtain ⟨its,rv,pl,hz⟩:=I1.list hq
 refine call_enumerate_list pl.isList fun h' ie il _ kp'=>?_
 refine wpAny_pyIter_enum ie ?_
 refine ⟨s1.heap.objs.size + 1,[s1.heap.objs.size + 1,s1.heap.objs.size],_,_,H1,rfl,I1.kept (t':=s1.toks) kp',fX a (s1.heap.objs.size + 1) s1.heap.objs.size 0 (Nat.succ_ne_self _),⟨⟨.none,by simpa using ie⟩,il⟩,fun b hb=>?_,q⟩
 have hb':s1.heap.objs.size <= b:=by
  rcases List.mem_cons.mp hb with rfl | hb
  ·exact Nat.le_succ _
  ·rw [zJ9.mp hb];exact zKF _
 exact I1.fpOk hb' (I1.hok.fresh hb')
end
theorem eS {X:Cx} {N:List Str} {sc:Scope} {x z y:Str} {ix:List Nat} {scope:Scope} {elt iter:Expr} {ifs:List Expr} {px pz tp cpos pos pos':Pos} {tk:Nat} {wi:TI} {tt:TT} {te:TE} {i:Nat}
  (hN':X.N.Nodup) (hin:X.N[i]?=some y) (hx:Loc X.env.scope y)
  (hS:uM N sc [x,z] ix scope) (hi:PI X (.Tuple [.Name x px,.Name z pz] tk tp) iter wi) (ht:∀ C fp s H,PTs (cxC X [x,z] ix scope C fp s H) ifs tt) (he:∀ C fp s H,PE (cxC X [x,z] ix scope C fp s H) elt te)
  (hN:X.N=N:=by rfl) (hsc:X.env.scope=sc:=by rfl) (hc:X.calm=true:=by rfl)
  (hsw:swapsWith (.ListComp elt [⟨.Tuple [.Name x px,.Name z pz] tk tp,iter,ifs,0⟩] scope cpos) (some (.Name y pos')) pos.line X.env=pure true:=by rfl)
  (hf:X.fn y=true \/ X.env.scope.names.lookup y=some .local:=by first | exact .inl rfl | exact .inr rfl | assumption)
  (hs:∀ x,foldedSetIterable iter X.env x=pure x:=by intro _;rfl) :
  PS X (.Assign [.Name y pos'] (.ListComp elt [⟨.Tuple [.Name x px,.Name z pz] tk tp,iter,ifs,0⟩] scope cpos) pos) (o9 (tLC [x,z] ix wi (iU X.K 2 (uD (xK 0) (uD (xK 1) iV))) tt te) (xK i)):=by
 have S:=hS.at (X:=X) hN hsc
 have l0:∀ C fp s H,(cxC X [x,z] ix scope C fp s H).env.scope.names.lookup x=some .local:=fun _ _ _ _=>lookup_relabel_local (S.own x (by simp))
 have l1:∀ C fp s H,(cxC X [x,z] ix scope C fp s H).env.scope.names.lookup z=some .local:=fun _ _ _ _=>lookup_relabel_local (S.own z (by simp))
 exact lI hN' hin hx S hc hi (fun C fp s H=>uH (X:=cxC X [x,z] ix scope C fp s H) hc (yH (zZ S.nd rfl (Or.inl (l0 C fp s H)) (.inr (l0 C fp s H))) (yH (zZ S.nd rfl (Or.inl (l1 C fp s H)) (.inr (l1 C fp s H))) vE))) ht he hsw hf hs
section
variable {prog:Program} {w:World} {A:Around} {E:VSP} {s:Shared}
end
section
variable {X:Cx}
end
section
variable {prog:Program} {w:World} {A:Around} {E:VSP} {s:Shared}
end
section
variable {prog:Program} {w:World} {A:Around} {s:Shared} {R:Result->Shared->Prop}
end
section
variable {prog:Program} {w:World} {A:Around} {s:Shared} {R:Result->Shared->Prop}
end
section
variable {X:Cx}
end
section
variable {X:Cx} {e:Expr} {te:TE} {pos p1 p2 p3:Pos} {j1 j2:Nat} {lo:Int}
end
section
variable {X:Cx}
end
end L2
namespace L2
open PySem PySem.Spec PyProof.Rows PySem.W
section
variable {X:Cx} {pos:Pos}
end
end L2
namespace L2
open PySem PySem.Spec PyProof.Rows
section
variable {X:Cx} {o e:Expr} {apos cpos:Pos} {td ty:TE}
end
section
variable {X:Cx}
theorem zGK {H:Hp} {xs:List V} {us:List Value} {u:Value} (r:zY xs us) (hu:u ∈ us):∃ x ∈ xs,z7 x u:=by
 obtain ⟨i,hi⟩:=List.getElem?_of_mem hu
 have hl:=r.length
 have il:i < us.length:=(zJ8.mp hi).1
 obtain ⟨w,hw,rw'⟩:=r.get (i:=i) (x:=xs[i]'(by omega)) (by simp)
 rw [hi] at hw
 cases hw
 exact ⟨_,List.getElem_mem _,rw'⟩
end
section
variable {prog:Program} {w:World} {A:Around} {s:Shared} {E:VSP}
theorem iH {it l hx C:Addr} {i:Nat} {items:Array Value} {Q:Option Value->Shared->Prop} (hh:A.handled=some (.ref hx)) (p:excP C hx s.heap) (hit:s.heap.IsListIter it l i) (hl:s.heap.IsList l items) (hx0:items[i]?=none)
  (hQ:∀ h',Heap.ExtBut it s.heap h'->Q none { s with heap:=h' }):wpAny (model prog w) A (pyNext (.ref it)) Q E s:=by
 obtain ⟨o,ho,hc,hd⟩:=id hit
 obtain ⟨ol,hol,_,nl,hdl⟩:=hl
 obtain ⟨ob,cells,gh,gc,gd,g2⟩:=p
 have nit:hx ≠ it:=fun e=>by
  subst e
  rw [ho] at gh
  cases gh
  have gc:=gc.1
  rw [hc] at gc
  cases gc
 unfold pyNext
 refine wpAny_bind (wpAny_attempt (wpAny_callSpecial?_slot (name:=Str.ofString "__next__") hit.typeIs slot_listiter_next (wpAny_call_entry slot_listiter_next hit.typeIs entry_listiter_next ?_ (args_listiter_next _))))
 change wpAny _ _ (field (.ref it) 0 >>= _) _ _ s
 refine wpAny_bind (wpAny_field ho hd (x:=.ref l) rfl ?_)
 change wpAny _ _ (if (Value.ref l == Value.none)=true then _ else _) _ _ s
 rw [if_neg (show ¬ ((Value.ref l == Value.none)=true) from zKY)]
 change wpAny _ _ (field (.ref it) 1 >>= _) _ _ s
 refine wpAny_bind (wpAny_field ho hd (x:=.int i 0) rfl ?_)
 change wpAny _ _ (seqItems? (.ref l) >>= _) _ _ s
 refine wpAny_bind (wpAny_seqItems hol hdl ?_)
 simp only [Int.toNat_natCast,hx0]
 refine wpAny_bind (wpAny_rule (wpAny_bind (wpAny_setField ho hd (by simp) ?_)))
 change wpAny _ _ (newExc (.type "StopIteration") [] >>= _) _ _ _
 refine wpAny_bind ?_
 simp only [newExc,newTuple]
 refine wpAny_bind (wpAny_newObj_type (T:="tuple") ?_ (by size_fits))
 refine wpAny_bind (m:=firstArgMember _ _) (wpAny_of_eq (a:=Value.none) (by first | rfl | (simp only [firstArgMember];rfl)) (wpAny_newObj_type ?_ (by size_fits)))
 generalize hp1:(Heap.push _ _:Heap)=g1
 have k1:∀ b o,b ≠ it->s.heap.get? b=some o->g1.get? b=some o:=fun b o n q=>by rw [<- hp1];exact Heap.get?_push_of_some _ ((Heap.get?_update_other _ _ (Ne.symm n)).trans q)
 generalize hob:({ cls:=Value.type "StopIteration",dict:=none,data:=_ }:Obj)=so
 have ged:∃ ce:Array Value,so.data=.fields ce/\2 < ce.size:=⟨_,by rw [<- hob],by simp;omega⟩
 obtain ⟨ce,ged,gz⟩:=ged
 have ge:(g1.push so).get? g1.objs.size=some so:=Heap.get?_push_size _ (Obj.isFreed_of_fields ged)
 have cl:so.cls=.type "StopIteration":=by rw [<- hob]
 have nhx:hx ≠ g1.objs.size:=zKX (Heap.lt_size (k1 _ _ nit gh))
 have up:Heap.ExtBut it s.heap ((g1.push so).update g1.objs.size (Obj.mapFields (·.setIfInBounds 2 (.ref hx)))):=fun b o n q=>by
  rw [Heap.get?_update_other _ _ (Nat.ne_of_gt (Heap.lt_size (k1 b o n q)))];exact Heap.get?_push_of_some _ (k1 b o n q)
 refine pU (hx:=hx) (oe:=so) (ce:=ce) hh (Heap.get?_push_of_some _ (k1 _ _ nit gh)) gd g2 ge ged gz nhx ?_
 dsimp only
 refine wpAny_bind (wpAny_isInstance (T:="StopIteration") (b:=true) ⟨_,Heap.get?_update_self _ ge (Obj.isFreed_of_fields (Obj.data_mapFields ged _)),(Obj.cls_mapFields _ _).trans cl⟩ isSubtype_stop ?_)
 exact wpAny_pure (hQ _ up)
end
def zHD (hx:Addr) (K:W.Frag) (a:Addr):It:=⟨(Itl K a).go,(Itl K a).yld,fun i H=>(Itl K a).stop i H/\∃ C,H hx=some (iW C hx)⟩
theorem jW {hx:Addr} {P:Program} {w:World} {K:W.Frag} {tg:Expr} (a it:Addr):zET (fun Y=>Y.K=K/\Y.A.handled=some (.ref hx)) P w tg (zHD hx K a) [it] it (fun i h=>h.IsListIter it a i) where
 mem:=by simp
 obj:=(rC (P:=P) (w:=w) (K:=K) (tg:=tg) a it).obj
 keep:=(rC (P:=P) (w:=w) (K:=K) (tg:=tg) a it).keep
 item:=by
  intro X hP hw hc i zp s σ H E I hf st hg
  subst hP hw
  obtain ⟨hK,hc⟩:=hc
  subst hK
  obtain ⟨xs,x,hq,hx⟩:=hg
  obtain ⟨its,rv,p,hz⟩:=I.list hq
  obtain ⟨u,hu,ru⟩:=rv.get hx
  obtain ⟨f0,f1,f2,f3,f4,f5⟩:=hf it (by simp)
  refine wpAny_pyNext_list_item st p.isList (x:=u) (by simpa using hu) fun h' st' sb=>?_
  have I1:Inv X zp σ H { s with heap:=h' }:=I.turned (t':=s.toks) (fun b o hb e=>(sb.2 b hb).trans e) f0 f1 f3 f4 f5
  obtain ⟨o,e,c,d⟩:=id st'
  exact ⟨u,rfl,fK (s:={ s with heap:=h' }) e c d (by decide) ⟨x,H,I1,ru,⟨rfl,fun ys hy=>by rw [I.list_inj hy hq];exact hx⟩,st',fun b hb=>(hf b hb).1⟩⟩
 done:=by
  intro X hP hw hc i zp s σ H E I hf st hg
  subst hP hw
  obtain ⟨hK,hc⟩:=hc
  subst hK
  obtain ⟨⟨xs,hq,hx⟩,C,hC⟩:=hg
  obtain ⟨its,rv,p,hz⟩:=I.list hq
  obtain ⟨f0,f1,f2,f3,f4,f5⟩:=hf it (by simp)
  have hl:=rv.length
  obtain ⟨pe,_,_⟩:=(show yV X.prog X.w H s.heap _ (iW C _) from I.hok _ _ hC)
  exact iH hc pe st p.isList (by simp;omega) fun h' eb=>⟨rfl,I.turned (t':=s.toks) (fun b o hb e=>eb b o hb e) f0 f1 f3 f4 f5⟩
 self:=fun _ _ _ _ _ st h=>wpAny_pyIter_listiter st h
section
variable {X:Cx} {tg:Expr} {hx:Addr}
def zGU (hx:Addr) (K:W.Frag) (tl:TE):TI:=fun σ H R=>tl σ H fun x H1=>∃ a,x=.ref a/\(∃ xs,SqL K H1 a xs)/\R (zHD hx K a) H1
theorem aJ {l:Expr} {tl:TE} (hl:PE X l tl):PIG (fun Y=>Y.K=X.K/\Y.A.handled=some (.ref hx)) X tg l (zGU hx X.K tl):=by
 intro zp s σ H R I h
 refine thn (hl zp s σ H _ I h) fun v s1 hz87=>?_
 obtain ⟨x,H1,I1,r1,q1⟩:=hz87
 obtain ⟨a,e,⟨xs,hq⟩,q⟩:=q1
 subst e
 cases r1
 obtain ⟨its,rv,p,hz⟩:=I1.list hq
 refine wpAny_pyIter_list p.isList ?_
 refine ⟨s1.heap.objs.size,[s1.heap.objs.size],_,_,H1,rfl,I1.kept (t':=s1.toks) fun b o e=>Heap.get?_push_of_some _ e,jW a _,⟨_,Heap.get?_push_size _ rfl,rfl,rfl⟩,fun b hb=>?_,q⟩
 have e:b=s1.heap.objs.size:=by simpa using hb
 subst e
 exact I1.fpOk (zKF _) (I1.hok.fresh (zKF _))
end
theorem zCL {ax:Addr} {X:Cx} {N:List Str} {sc:Scope} {x:Str} {ix:List Nat} {scope:Scope} {elt iter:Expr} {ifs:List Expr} {px pos:Pos} {wi:TI} {tt:TT} {te:TE} (hc:X.A.handled=some (.ref ax))
  (hS:uM N sc [x] ix scope) (hi:PIG (fun Y=>Y.K=X.K/\Y.A.handled=some (.ref ax)) X (.Name x px) iter wi)
  (ht:∀ C fp s H,PTs (cxC X [x] ix scope C fp s H) ifs tt) (he:∀ C fp s H,PE (cxC X [x] ix scope C fp s H) elt te)
  (hN:X.N=N:=by rfl) (hsc:X.env.scope=sc:=by rfl)
  (hs:∀ x,foldedSetIterable iter X.env x=pure x:=by intro _;rfl) :
  PE X (.ListComp elt [⟨.Name x px,iter,ifs,0⟩] scope pos) (tLC [x] ix wi (xK 0) tt te):=by
 have S:=hS.at (X:=X) hN hsc
 have hl:∀ C fp s H,(cxC X [x] ix scope C fp s H).env.scope.names.lookup x=some .local:=fun _ _ _ _=>lookup_relabel_local (S.own x (by simp))
 intro zp s σ H Q I h
 have hcl:∀ n,(n,NameKind.free) ∈ scope.names->(X.env.cells.lookup n).isSome=true:=fun n hn=>by
  obtain ⟨c,e⟩:=I.ok.has n (S.fre n hn)
  rw [e];rfl
 rw [eval_ListComp]
 refine wpAny_comprehension_free (use:=none) rfl hs (xN hcl) S.kind S.loc ?_
 refine jD (Reg:=fun Y=>Y.K=X.K/\Y.A.handled=some (.ref ax)) S (fun Y k _ e=>⟨k,e.trans hc⟩) hi (fun C fp s H=>zZ S.nd rfl (Or.inl (hl C fp s H)) (.inr (hl C fp s H))) ht he I h fun acc C H' s' m q hn k _=>?_
 exact ⟨m,hn,fun h' hsb=>⟨.ref acc,H',k h' hsb s'.toks,rfl,q⟩⟩
theorem zAJ {hx:Addr} {K:W.Frag} {a:Addr} {its:List V} {xs:List Str} {ix:List Nat} {g:TG} {tt:TT} {te:TE} {σ:St} {H1:Hp} {Q:VK} {acc:Addr} (hn:its.length < sizeLine) (Pv:Nat->List V->St->Hp->Prop)
  (h0:Pv 0 [] (stC xs ix σ) (upd H1 acc (.lst []))) (hacc:∀ i ys τ H,Pv i ys τ H->H acc=some (.lst ys)/\ys.length <= i/\SqL K H a its/\∃ C,H hx=some (iW C hx))
  (hs:∀ i ys τ H x,its[i]?=some x->Pv i ys τ H->g x τ H fun τ2 H2=>tt τ2 H2 fun b H3=>
   if b=true then te τ2 H3 fun y H4=>H4 acc=some (.lst ys)/\Pv (i + 1) (ys ++ [y]) τ2 (upd H4 acc (.lst (ys ++ [y]))) else Pv (i + 1) ys τ2 H3)
  (hd:∀ ys τ H,Pv its.length ys τ H->Q (.ref acc) H):LCW (zHD hx K a) xs ix g tt te σ H1 acc Q:=by
 refine fG hn (fun i=>its.getD i .non) Pv h0 (fun i ys τ H p=>⟨(hacc i ys τ H p).1,(hacc i ys τ H p).2.1⟩) (fun i ys τ H hi p=>⟨its,_,(hacc i ys τ H p).2.2.1,zJ7 hi⟩) (fun i ys τ H x H' hi p y=>?_) (fun ys τ H p=>⟨⟨its,(hacc _ ys τ H p).2.2.1,zKF _⟩,(hacc _ ys τ H p).2.2.2⟩) (fun i ys τ H hi p=>?_) hd
 ·obtain ⟨e,y⟩:=y
  have:=y its (hacc i ys τ H p).2.2.1
  exact ⟨e,by rw [zKB,this];rfl⟩
 ·refine hs i ys τ H _ ?_ p
  rw [zKB,zJ7 hi];rfl
section
variable {X:Cx}
def eqB:Value->Bool
 | .bool true=>true
 | _=>false
def zIX:V->List V->Hp->VK->Prop:=fun x vs H Q=>∃ (l:Addr) (bs:List Bool) (j:Nat),x=.ref l/\vs=[.bl true]/\H l=some (.lst (bs.map V.bl))/\bs[j]?=some true/\(∀ m,m < j->bs[m]? ≠ some true)/\Q (.int j) H
theorem dF:MtM X "list.index" zIX:=by
 intro zp s σ H x vs v us Q I rx rv h
 obtain ⟨l,bs,j,rfl,rfl,hH,hj,ho,q⟩:=h
 cases rx
 obtain ⟨w,rfl,rw'⟩:=rv.one
 cases rw'
 obtain ⟨z,its,n,r,hl,e⟩:=I.lstM hH
 have bv:∀ u ∈ its,∃ b:Bool,u=.bool b:=fun u hu=>by
  obtain ⟨x,hx,rx⟩:=zGK (H:=H) r hu
  obtain ⟨b,_,rfl⟩:=List.mem_map.mp hx
  exact ⟨b,rx⟩
 rw [zJ6] at hl
 have at_:∀ (m:Nat) (hm:m < its.toArray.size),∃ b,bs[m]?=some b/\its.toArray[m]=.bool b:=fun m hm=>by
  rw [zKE] at hm
  have hb:bs[m]?=some (bs[m]'(by omega)):=zJ7 _
  obtain ⟨u2,hu2,ru2⟩:=r.get (i:=m) (x:=.bl (bs[m]'(by omega))) (by rw [zKC,hb];rfl)
  refine ⟨_,hb,?_⟩
  have:=(zJ8.mp hu2).2
  have e2:its.toArray[m]=u2:=by simpa using this
  rw [e2];exact ru2
 have jl:j < bs.length:=(zJ8.mp hj).1
 have jl2:j < its.toArray.size:=by rw [zKE];omega
 have s63:(sizeLine:Int) < 2 ^ 63 - 1:=by rw [sizeLine_eq];decide
 rw [zJ6] at z
 refine call_meets F.slot_list_index ⟨_,e,rfl⟩ F.entry_list_index (F.args_list_index_2 _ _)
  (SeqAt.list_indexAt l its.toArray n none #[] (.bool true) eqB j jl2 (by omega) ?_ (fun m hm hmj=>?_)) ⟨e,fun y hy=>?_,⟨.int j,H,I.tok _,⟨_,rfl⟩,q⟩⟩
 ·obtain ⟨b,hb,eb⟩:=at_ j jl2
  rw [hj] at hb
  cases hb
  rw [eb];rfl
 ·obtain ⟨b,hb,eb⟩:=at_ m hm
  rw [eb]
  cases b with
  | false=>rfl
  | true=>exact absurd hb (ho m hmj)
 ·obtain ⟨b,rfl⟩:=bv y (by simpa using hy)
  cases b with
  | true=>exact SeqAt.EqAt.same _
  | false=>exact SeqAt.EqAt.bool_bool false true
end
theorem i6 {X:Cx} {zp:LAO} {σ:St} {H:Hp} {s:Shared} {A:Around} {E:VSP} {a b:Addr} {k:List Key} {v:V} {u r:Value} {kvs:List (List Key × V)} {Q:Unit->Shared->Prop} (hu:A.units + 1 < cLine) (I:Inv X zp σ H s) (e:H a=some (.dT kvs)) (eb:H b=some (.tup (k.map kV))) (l:kvs.length < sizeLine) (ry:z7 (.ref b) u) (rv:z7 v r)
  (h:∀ s',Inv X zp σ (upd H a (.dT (xH kvs k v))) s'->Q () s'):wpAny (model X.prog X.w) A (dictSet a u r) Q E s:=by
 cases (show u=Value.ref b from ry)
 obtain ⟨z,hd,xs,rel,dd⟩:=zES I.hok e
 have hz:xs.length <= sizeLine:=by rw [<- Paired.length rel];exact z
 have hl:(xH kvs k v).length <= sizeLine:=by have:=wA kvs k v;omega
 refine wpAny_dictSet_heap (hsz:=hz) (by exact Nat.lt_of_succ_lt hu) (rK I.hok eb) dd fun h' dd' hs=>h _ ?_
 obtain ⟨q,es,ep,hq,h2,h3,h4,_,h5⟩:=dd'
 refine sY I (by rw [e];exact True.intro) hs ⟨q,hq⟩ ⟨hl,hd,_,(rel.put k eb rv).keeps fun c ys ec=>?_,q,es,ep,hq,h2,h3,h4,h5⟩
 rw [zJ (sR ec e (fun z=>nomatch z))]
 exact ec
theorem zA1 (g1:Comprehension) (kx vx target iter:Expr) (ifs:List Expr) (scope:Scope) (pos:Pos) (it:Value) (D:Addr) (env:Env) :
  compTurn (.DictComp kx vx [g1,⟨target,iter,ifs,0⟩] scope pos) 1 it (.ref D) env=(do
   standAt iter.pos
   match <- pyNext it with
   | none=>pure (.done .next)
   | some v=>do
    letOwnedTupleGo target it v
    assign target env v
    let ok <- forIn ifs true fun c r=>if r=true then do let ok <- isTrue c env (eval c env);pure (ForInStep.yield ok) else pure (ForInStep.yield r)
    if ok=true then do
     (do
      let kv <- eval kx env
      let vv <- holding [kv] (eval vx env)
      standAt { kx.pos with endLine:=vx.pos.endLine,endCol:=vx.pos.endCol }
      holding [kv,vv] (dictSet D kv vv))
     again (.compLoop (.DictComp kx vx [g1,⟨target,iter,ifs,0⟩] scope pos) 1 it (.ref D) env)
    else again (.compLoop (.DictComp kx vx [g1,⟨target,iter,ifs,0⟩] scope pos) 1 it (.ref D) env)):=rfl
theorem dS (kx vx target iter tg2 iter2:Expr) (ifs ifs2:List Expr) (scope:Scope) (pos:Pos) (it acc:Value) (env:Env) :
  compTurn (.DictComp kx vx [⟨target,iter,ifs,0⟩,⟨tg2,iter2,ifs2,0⟩] scope pos) 0 it acc env=(do
   standAt iter.pos
   match <- pyNext it with
   | none=>pure (.done .next)
   | some v=>do
    letOwnedTupleGo target it v
    assign target env v
    let ok <- forIn ifs true fun c r=>if r=true then do let ok <- isTrue c env (eval c env);pure (ForInStep.yield ok) else pure (ForInStep.yield r)
    if ok=true then do
     let x <- eval iter2 env
     standAt iter2.pos
     let x <- foldedSetIterable iter2 env x
     let _ <- runOwn (.compStart (.DictComp kx vx [⟨target,iter,ifs,0⟩,⟨tg2,iter2,ifs2,0⟩] scope pos) 1 (<- holding [x] (pyIter x)) acc env) env
     again (.compLoop (.DictComp kx vx [⟨target,iter,ifs,0⟩,⟨tg2,iter2,ifs2,0⟩] scope pos) 0 it acc env)
    else again (.compLoop (.DictComp kx vx [⟨target,iter,ifs,0⟩,⟨tg2,iter2,ifs2,0⟩] scope pos) 0 it acc env)):=rfl
section
variable {prog:Program} {w:World} {A:Around} {R:Result->Shared->Prop} {s:Shared} {kx vx target iter tg2 iter2:Expr} {ifs ifs2:List Expr} {scope:Scope} {pos:Pos} {it acc:Value} {env:Env}
theorem dU {g1:Comprehension} (h0:codeAny (model prog w) A (.compLoop (.DictComp kx vx [g1,⟨target,iter,ifs,0⟩] scope pos) 1 it acc env) R s)
  (h:wpAny (model prog w) A (pyIter it) (fun it' s'=>codeAny (model prog w) A (.compLoop (.DictComp kx vx [g1,⟨target,iter,ifs,0⟩] scope pos) 1 it' acc env) R s') (fun _ _=>False) s) :
  codeAny (model prog w) A (.compStart (.DictComp kx vx [g1,⟨target,iter,ifs,0⟩] scope pos) 1 it acc env) R s:=by
 refine codeAny_of_tree ?_
 show wpAny _ _ ((compStart (.DictComp kx vx [g1,⟨target,iter,ifs,0⟩] scope pos) 1 it acc env).onRaise (fun x=>do noteFrame x env;standAt theWindowsPlace)) _ _ s
 refine wpAny_notedAt ?_
 unfold compStart;show wpAny _ _ (ask >>= _) _ _ s
 refine wpAny_bind (wpAny_askSetting (wpAny_ite ?_));split
 ·first | exact wpAny_bind (wpAny_pure (wpAny_pure (And.intro rfl h0))) | exact wpAny_pure (And.intro rfl h0)
 ·have hh:wpAny (model prog w) A (pyIter it) (fun it' s'=>codeAny (model prog w) A (.compLoop (.DictComp kx vx [g1,⟨target,iter,ifs,0⟩] scope pos) 1 it' acc env) R s') (notedBy (model prog w) A env fun x s'=>R (.error x) s') s:=wpAny_mono h (fun _ _ q=>q) fun _ _ q=>q.elim
  refine wpAny_bind (wpAny_rule ?_)
  show wpAny _ _ (standAt iter.pos >>= _) _ _ s
  exact wpAny_bind (wpAny_standAt (wpAny_bind (wpAny_mono hh (fun it' s' h'=>wpAny_pure ⟨rfl,h'⟩) fun _ _ x=>x)))
theorem zJW {g1:Comprehension} {D:Addr} (J:Nat->Shared->Prop)
  (turn:∀ n s,J n s->wpAny (model prog w) A (pyNext it) (fun r s1=>match r with
   | none=>R (.ok .next) s1
   | some v=>wpAny (model prog w) A (letOwnedTupleGo target it v) (fun _ s1'=>wpAny (model prog w) A (assign target env v) (fun _ s2=>
     wpAny (model prog w) A (forIn ifs true fun c r=>if r=true then do let ok <- isTrue c env (eval c env);pure (ForInStep.yield ok) else pure (ForInStep.yield r)) (fun ok s3=>
      if ok=true then wpAny (model prog w) A (eval kx env) (fun y s4=>wpAny (model prog w) A (eval vx env) (fun x s5=>
       wpAny (model prog w) A (dictSet D y x) (fun _ s6=>∃ m,m < n/\J m s6) (fun _ _=>False) s5) (fun _ _=>False) s4) (fun _ _=>False) s3
      else ∃ m,m < n/\J m s3) (fun _ _=>False) s2) (fun _ _=>False) s1') (fun _ _=>False) s1) (fun _ _=>False) s)
  (n:Nat) (h:J n s):codeAny (model prog w) A (.compLoop (.DictComp kx vx [g1,⟨target,iter,ifs,0⟩] scope pos) 1 it (.ref D) env) R s:=by
 refine codeAny_loop rfl J (fun n s hJ=>?_) n h
 have nof:∀ (e:Value) (s':Shared),False->notedBy (model prog w) A env (fun e s'=>R (.error e) s') e s':=fun _ _ f=>f.elim
 show wpAny (model prog w) A ((compTurn (.DictComp kx vx [g1,⟨target,iter,ifs,0⟩] scope pos) 1 it (.ref D) env).onRaise (fun x=>do noteFrame x env;theTreesLotGoes x)) _ _ s
 refine wpAny_noted ?_
 rw [zA1]
 refine wpAny_bind (wpAny_standAt (wpAny_bind (wpAny_mono (turn n s hJ) (fun r s1 h1=>?_) nof)))
 cases r with
 | none=>exact wpAny_pure h1
 | some v=>
  refine wpAny_bind (wpAny_mono h1 (fun _ s1' h1'=>?_) nof)
  refine wpAny_bind (wpAny_mono h1' (fun _ s2 h2=>?_) nof)
  refine wpAny_bind (wpAny_mono h2 (fun ok s3 h3=>?_) nof)
  cases ok with
  | false=>exact wpAny_pure ⟨rfl,h3⟩
  | true=>
   refine wpAny_bind (wpAny_bind (wpAny_mono h3 (fun y s4 h4=>?_) nof))
   refine wpAny_bind (wpAny_holding (wpAny_mono h4 (fun x s5 h5=>?_) nof))
   exact wpAny_bind (wpAny_standAt (wpAny_holding (wpAny_mono h5 (fun _ s6 h6=>wpAny_pure ⟨rfl,h6⟩) nof)))
theorem zGZ (hf:∀ x,foldedSetIterable iter2 env x=pure x) (J:Nat->Shared->Prop)
  (turn:∀ n s,J n s->wpAny (model prog w) A (pyNext it) (fun r s1=>match r with
   | none=>R (.ok .next) s1
   | some v=>wpAny (model prog w) A (letOwnedTupleGo target it v) (fun _ s1'=>wpAny (model prog w) A (assign target env v) (fun _ s2=>
     wpAny (model prog w) A (forIn ifs true fun c r=>if r=true then do let ok <- isTrue c env (eval c env);pure (ForInStep.yield ok) else pure (ForInStep.yield r)) (fun ok s3=>
      if ok=true then wpAny (model prog w) A (eval iter2 env) (fun x s4=>wpAny (model prog w) A (pyIter x) (fun it2 s5=>
       codeAny (model prog w) A (.compStart (.DictComp kx vx [⟨target,iter,ifs,0⟩,⟨tg2,iter2,ifs2,0⟩] scope pos) 1 it2 acc env) (fun r s6=>r=.ok .next/\∃ m,m < n/\J m s6) s5) (fun _ _=>False) s4) (fun _ _=>False) s3
      else ∃ m,m < n/\J m s3) (fun _ _=>False) s2) (fun _ _=>False) s1') (fun _ _=>False) s1) (fun _ _=>False) s)
  (n:Nat) (h:J n s):codeAny (model prog w) A (.compLoop (.DictComp kx vx [⟨target,iter,ifs,0⟩,⟨tg2,iter2,ifs2,0⟩] scope pos) 0 it acc env) R s:=by
 refine codeAny_loop rfl J (fun n s hJ=>?_) n h
 have nof:∀ (e:Value) (s':Shared),False->notedBy (model prog w) A env (fun e s'=>R (.error e) s') e s':=fun _ _ f=>f.elim
 show wpAny (model prog w) A ((compTurn (.DictComp kx vx [⟨target,iter,ifs,0⟩,⟨tg2,iter2,ifs2,0⟩] scope pos) 0 it acc env).onRaise (fun x=>do noteFrame x env;theTreesLotGoes x)) _ _ s
 refine wpAny_noted ?_
 rw [dS]
 refine wpAny_bind (wpAny_standAt (wpAny_bind (wpAny_mono (turn n s hJ) (fun r s1 h1=>?_) nof)))
 cases r with
 | none=>exact wpAny_pure h1
 | some v=>
  refine wpAny_bind (wpAny_mono h1 (fun _ s1' h1'=>?_) nof)
  refine wpAny_bind (wpAny_mono h1' (fun _ s2 h2=>?_) nof)
  refine wpAny_bind (wpAny_mono h2 (fun ok s3 h3=>?_) nof)
  cases ok with
  | false=>exact wpAny_pure ⟨rfl,h3⟩
  | true=>
   simp only [if_true]
   refine wpAny_bind (wpAny_mono h3 (fun x s4 h4=>?_) nof)
   refine wpAny_bind (wpAny_standAt ?_)
   rw [hf]
   refine wpAny_bind (wpAny_pure (wpAny_bind (wpAny_holding (wpAny_mono h4 (fun it2 s5 h5=>?_) nof))))
   refine wpAny_bind (wpAny_runOwn (h:=none) ?_)
   rw [Around.mark_none]
   refine codeAny_mono h5 fun r s6 hz88=>?_
   obtain ⟨e,q⟩:=hz88
   subst e
   exact wpAny_pure ⟨rfl,q⟩
end
def IND (J:It) (g:TG) (tt:TT) (ty te:TE) (acc:Addr) (ys0:List (List Key × V)) (τ0:St) (H0:Hp) (N:List (List Key × V)->St->Hp->Prop):Prop:=
 ∃ W:Nat->Nat->List (List Key × V)->St->Hp->Prop,(∃ m,W 0 m ys0 τ0 H0)/\∀ i m ys τ H,W i m ys τ H->H acc=some (.dT ys)/\ys.length < sizeLine /\
  ((J.stop i H/\N ys τ H) \/ (J.go i H/\∃ M:List (List Key × V)->St->Hp->Prop,(∀ ys' τ' H',M ys' τ' H'->∃ m',m' < m/\W (i + 1) m' ys' τ' H') /\
   ∀ x H',J.yld i H x H'->g x τ H' fun τ2 H2=>tt τ2 H2 fun b H3=>if b=true then ty τ2 H3 fun z H4=>te τ2 H4 fun y H5=>∃ (c:Addr) (k:List Key),z=.ref c/\H5 c=some (.tup (k.map kV))/\H5 acc=some (.dT ys)/\M (xH ys k y) τ2 (upd H5 acc (.dT (xH ys k y))) else M ys τ2 H3))
def zJ5 (J:It) (xs:List Str) (ix:List Nat) (g:TG) (tt:TT) (wi2:TI) (g2:TG) (tt2:TT) (ty te:TE) (σ:St) (H1:Hp) (acc:Addr) (Q:VK):Prop:=
 ∃ W:Nat->Nat->List (List Key × V)->St->Hp->Prop,(∃ m,W 0 m [] (stC xs ix σ) (upd H1 acc (.dT [])))/\∀ i m ys τ H,W i m ys τ H ->
  ((J.stop i H/\Q (.ref acc) H) \/ (J.go i H/\∃ N:List (List Key × V)->St->Hp->Prop,(∀ ys' τ' H',N ys' τ' H'->∃ m',m' < m/\W (i + 1) m' ys' τ' H') /\
   ∀ x H',J.yld i H x H'->g x τ H' fun τ2 H2=>tt τ2 H2 fun b H3=>if b=true then wi2 τ2 H3 fun J2 H4=>IND J2 g2 tt2 ty te acc ys τ2 H4 N else N ys τ2 H3))
def zE6 (xs:List Str) (ix:List Nat) (wi:TI) (g:TG) (tt:TT) (wi2:TI) (g2:TG) (tt2:TT) (ty te:TE):TE:=fun σ H Q=>wi σ H fun J H1=>∀ acc,H1 acc=none->zJ5 J xs ix g tt wi2 g2 tt2 ty te σ H1 acc Q
theorem zA8 {X:Cx} {xs:List Str} {ix:List Nat} {scope:Scope} {kx vx tg iter tg2 iter2:Expr} {ifs ifs2:List Expr} {pos:Pos} {wi wi2:TI} {g g2:TG} {tt tt2:TT} {ty te:TE}
  (S:yW X xs ix scope) (hu:X.A.units + 1 < cLine) (hc:X.calm=true) (hi:PI X tg iter wi) (hi2:∀ C fp s H,PI (cxC X xs ix scope C fp s H) tg2 iter2 wi2) (hf2:∀ env x,foldedSetIterable iter2 env x=pure x)
  (hg:∀ C fp s H,PG (cxC X xs ix scope C fp s H) tg g) (ht:∀ C fp s H,PTs (cxC X xs ix scope C fp s H) ifs tt) (hg2:∀ C fp s H,PG (cxC X xs ix scope C fp s H) tg2 g2) (ht2:∀ C fp s H,PTs (cxC X xs ix scope C fp s H) ifs2 tt2) (hy:∀ C fp s H,PE (cxC X xs ix scope C fp s H) kx ty) (he:∀ C fp s H,PE (cxC X xs ix scope C fp s H) vx te)
  {zp:LAO} {s:Shared} {σ:St} {H:Hp} {Q:VK} (I:Inv X zp σ H s) (h:zE6 xs ix wi g tt wi2 g2 tt2 ty te σ H Q) {use:Option (Value->Sem Unit)} {R:VSP}
  (fin:∀ (acc C:Addr) (H':Hp) (s':Shared) (m:Str->Option Value),Q (.ref acc) H'->s'.heap.Ns C m->(∀ h',Heap.SameBut C s'.heap h'->∀ tk,Inv X zp σ H' { s' with heap:=h',toks:=tk })->(X.s₀.heap.objs.size <= C/\C ≠ X.env.locals/\(∀ x c,X.env.cells.lookup x=some c->c ≠ C)/\(∀ p ∈ X.pn ++ zp,p.1 ≠ C)/\H' C=none)->compPost (model X.prog X.w) X.A X.xe use R (.ref acc) C (.ok .next) s') :
  wpAny (model X.prog X.w) X.A (eval iter X.env) (fun x s₁=>wpAny (model X.prog X.w) X.A (pyIter x) (fun it s₂=>wpAny (model X.prog X.w) X.A (newDict) (fun acc s₃=>
   wpAny (model X.prog X.w) X.A (newFunctionEnv scope X.env.globals (clF X.env scope.names []) [] X.env.qual none .none (some X.env)) (fun cenv s₄=>
    codeAny (model X.prog X.w) X.A (.compStart (.DictComp kx vx [⟨tg,iter,ifs,0⟩,⟨tg2,iter2,ifs2,0⟩] scope pos) 0 it acc { cenv with scope:=relabel scope X.env }) (compPost (model X.prog X.w) X.A X.xe use R acc cenv.locals) s₄) X.xe s₃) X.xe s₂) X.xe s₁) X.xe s:=by
 refine thn (hi zp s σ H _ I h) fun v s1 h1=>thn h1 fun itv s2 h2=>?_
 obtain ⟨it,fp,tn,J,H2,rfl,I2,T,st2,f2,q⟩:=h2
 refine wpAny_newObj_type ?_
 have I3:Inv X zp σ (upd H2 s2.heap.objs.size (.dT [])) { s2 with heap:=s2.heap.push { cls:=.type "dict",data:=.dict #[] },toks:=s2.toks }:=I2.laid (a:=s2.heap.objs.size) (o:=.dT []) (t':=s2.toks) (fun _ _ q=>Heap.get?_push_of_some _ q) (zKF _) (zA2 s2.heap I2.big)
 obtain ⟨W,⟨m0,w0⟩,turn⟩:=q s2.heap.objs.size I2.fresh
 have objs2:=T.obj 0 _ st2
 have neacc:∀ b ∈ fp,b ≠ s2.heap.objs.size:=fun b hb z=>by
  obtain ⟨o,ho,_⟩:=objs2 b hb
  exact Nat.lt_irrefl _ (Nat.lt_of_lt_of_eq (Heap.lt_size ho) z.symm)
 generalize hacc:s2.heap.objs.size=acc at *
 generalize hs3:({ s2 with heap:=s2.heap.push { cls:=.type "dict",data:=.dict #[] } }:Shared)=s3
 have I3:Inv X zp σ (upd H2 acc (.dT [])) s3:=by rw [<- hs3];exact I3
 have k3:∀ b o,s2.heap.get? b=some o->s3.heap.get? b=some o:=fun b o e=>by rw [<- hs3];exact Heap.get?_push_of_some _ e
 have f3:∀ b ∈ fp,vW X zp (upd H2 acc (.dT [])) b:=fun b hb=>⟨by rw [zJ (neacc b hb)];exact (f2 b hb).1,(f2 b hb).2⟩
 have o3:∀ b ∈ fp,∃ o,s3.heap.get? b=some o:=fun b hb=>let ⟨o,ho,_⟩:=objs2 b hb;⟨o,k3 b o ho⟩
 have st3:tn 0 s3.heap:=T.keep _ _ _ st2 fun b _ o e=>k3 b o e
 refine wpAny_newFunctionEnv S.nocell (by intro y hy;simp at hy) (fun h1 hns1 hsb1=>?_) S.kind
 have keep1:∀ b o,s3.heap.get? b=some o->h1.get? b=some o:=fun b o e=>hsb1.extBut b o (zKX (Heap.lt_size e)) (Heap.get?_push_of_some _ e)
 generalize hs4:({ s3 with heap:=h1,toks:=s3.toks + ([]:List (Str × Value)).length }:Shared)=s4
 have I4:Inv (cxC X xs ix scope s3.heap.objs.size fp s3 (upd H2 acc (.dT []))) [] (stC xs ix σ) (upd H2 acc (.dT [])) s4:=uE S I3 f3 o3 hns1 keep1 hs4.symm
 have st4:tn 0 s4.heap:=T.keep _ _ _ st3 fun b _ o e=>by rw [<- hs4];exact keep1 b o e
 generalize hX':cxC X xs ix scope s3.heap.objs.size fp s3 (upd H2 acc (.dT []))=X' at *
 have hg:=hg s3.heap.objs.size fp s3 (upd H2 acc (.dT []))
 have ht:=ht s3.heap.objs.size fp s3 (upd H2 acc (.dT []))
 have he:=he s3.heap.objs.size fp s3 (upd H2 acc (.dT []))
 have hy:=hy s3.heap.objs.size fp s3 (upd H2 acc (.dT []))
 have hg2:=hg2 s3.heap.objs.size fp s3 (upd H2 acc (.dT []))
 have ht2:=ht2 s3.heap.objs.size fp s3 (upd H2 acc (.dT []))
 have hi2:=hi2 s3.heap.objs.size fp s3 (upd H2 acc (.dT []))
 rw [hX'] at hg ht he hy hg2 ht2 hi2
 have eP:X'.prog=X.prog:=by rw [<- hX'];rfl
 have ew:X'.w=X.w:=by rw [<- hX'];rfl
 have eK:X'.K=X.K:=by rw [<- hX'];rfl
 have eA:X'.A=X.A:=by rw [<- hX'];rfl
 have ec:X'.calm=true:=by rw [<- hX'];exact hc
 have ex:X'.xe=fun _ _=>False:=by rw [<- hX'];rfl
 have eenv:X'.env=compEnvC scope (clF X.env scope.names []) s3.heap.objs.size X.env:=by rw [<- hX'];rfl
 have eex:X'.ex=fp:=by rw [<- hX'];rfl
 have efs:X'.fs=frs X.stack:=by rw [<- hX'];rfl
 have epn:X'.pn=[]:=by rw [<- hX'];rfl
 have eH0:X'.H₀=upd H2 acc (.dT []):=by rw [<- hX'];rfl
 have es0:X'.s₀=s3:=by rw [<- hX'];rfl
 have eloc:X'.env.locals=s3.heap.objs.size:=by rw [eenv];rfl
 have stat:∀ {H':Hp},(∀ b ∈ fp,H' b=none)->∀ b ∈ fp,vW X' [] H' b:=fun {H'} hn b hb=>by
  refine ⟨hn b hb,?_,?_,.inl (by rw [eex];exact hb),?_,?_⟩
  ·rw [eloc]
   intro z
   obtain ⟨o,ho⟩:=o3 b hb
   exact Nat.lt_irrefl _ (Nat.lt_of_lt_of_eq (Heap.lt_size ho) z.symm)
  ·exact I4.ok.exfs b (by rw [eex];exact hb)
  ·exact (I4.ok.exf b (by rw [eex];exact hb)).2
  ·rw [epn];intro p hp;exact absurd hp (by simp)
 have loop:codeAny (model X.prog X.w) X.A (.compLoop (.DictComp kx vx [⟨tg,iter,ifs,0⟩,⟨tg2,iter2,ifs2,0⟩] scope pos) 0 (.ref it) (.ref acc) X'.env) (compPost (model X.prog X.w) X.A X.xe use R (.ref acc) s3.heap.objs.size) s4:=by
  refine zGZ (fun x=>hf2 _ x) (fun n s'=>∃ i ys τ H',Inv X' [] τ H' s'/\tn i s'.heap/\(∀ b ∈ fp,H' b=none)/\W i n ys τ H') ?_ m0 ⟨0,[],_,_,I4,st4,fun b hb=>(f3 b hb).1,w0⟩
  rintro n s5 ⟨i,ys,τ,H5,I5,st5,fr5,w5⟩
  rcases turn i n ys τ H5 w5 with ⟨stop,qn⟩ | ⟨go,N,hN,step⟩
  ·have d:=T.done X' eP ew eK ec i [] s5 τ H5 (fun _ _=>False) I5 (stat fr5) st5 stop
   rw [eA] at d
   refine thn d fun r s6 hz89=>?_
   obtain ⟨hr,I6⟩:=hz89
   subst hr
   obtain ⟨m,hn6,_⟩:=id I6.loc
   rw [eloc] at hn6
   refine fin acc s3.heap.objs.size H5 s6 m qn hn6 (fun h' hsb tk=>?_) ⟨I3.sz,Ne.symm (zKX I3.lt),fun x c e z=>by
    obtain ⟨v,oc,hoc,_⟩:=I3.cell x c e
    exact Nat.lt_irrefl _ (Nat.lt_of_lt_of_eq (Heap.lt_size hoc) z.symm),fun p hp z=>Nat.lt_irrefl _ (Nat.lt_of_lt_of_eq (Heap.lt_size (I3.pin p hp).1) z.symm),by have:=I6.free;rw [eloc] at this;exact this⟩
   have same:∀ b,b ≠ s3.heap.objs.size->h'.get? b=s6.heap.get? b:=fun b hb=>hsb.2 b hb
   have ub:=I6.base
   rw [efs,eex,eH0,es0] at ub
   have ne3:∀ b o,s3.heap.get? b=some o->b ≠ s3.heap.objs.size:=fun b o e=>zKX (Heap.lt_size e)
   have u:Un (frs X.stack) fp (upd H2 acc (.dT [])) H5 s3.heap h':=
    ⟨fun b o e n1 n2 n3=>(same b (ne3 b o e)).trans (ub.keep b o e n1 n2 n3),fun b o e n1 n2 n3=>by
      obtain ⟨sl,z⟩:=ub.slot b o e n1 n2 n3
      exact ⟨sl,(same b (ne3 b o e)).trans z⟩,ub.free,fun b o e n3=>by
      obtain ⟨o',z⟩:=ub.there b o e n3
      exact ⟨o',(same b (ne3 b o e)).trans z⟩,ub.tups,ub.frzs,ub.tbls⟩
   have fC:H5 s3.heap.objs.size=none:=by have:=I6.free;rw [eloc] at this;exact this
   have hok:HOk X.prog X.w H5 h':=fun b o e=>by
    have z:=I6.hok b o e
    rw [eP,ew] at z
    refine z.stay (fun c u hc q=>(same c ?_).trans q) (fun _ q=>q) fun _ _ q=>q
    intro zc
    rcases hc with q1 | q1
    ·rw [<- q1,zc,fC] at e;cases e
    ·rw [zc,fC] at q1;cases q1
   have hch:∀ b ∈ fp,(b ∈ X.ex \/ X.s₀.heap.objs.size <= b)/\b ≠ X.env.locals/\(∀ x c,X.env.cells.lookup x=some c->c ≠ b)/\∀ p ∈ X.pn ++ zp,p.1 ≠ b:=fun b hb=>by
    obtain ⟨_,f1,_,g3,g4,g5⟩:=f3 b hb
    exact ⟨g3,f1,g4,g5⟩
   have ho:s6.os=s3.os:=by have:=I6.os;rw [es0] at this;exact this
   exact I3.call' (s':={ s6 with heap:=h',toks:=tk }) (ch:=fp) ho u hok I6.bare hch
  ·have d:=T.item X' eP ew eK ec i [] s5 τ H5 (fun _ _=>False) I5 (stat fr5) st5 go
   rw [eA] at d
   refine thn d fun r s6 hz90=>?_
   obtain ⟨u,hr,h6⟩:=hz90
   subst hr
   refine thn h6 fun _ s7 hz91=>?_
   obtain ⟨x,H7,I7,r7,y7,st7,fr7⟩:=hz91
   have I7':=I7.pinned (stat fr7) (T.obj _ _ st7)
   have dg:=hg _ s7 τ H7 x u _ I7' r7 (step x H7 y7)
   rw [eP,ew,eA,ex] at dg
   refine thn dg fun _ s8 hz92=>?_
   obtain ⟨τ8,H8,I8,q8⟩:=hz92
   have dt:=ht _ s8 τ8 H8 _ I8 q8
   rw [eP,ew,eA,ex] at dt
   refine thn dt fun ok s9 hz93=>?_
   obtain ⟨H9,I9,q9⟩:=hz93
   have again:∀ {τ':St} {H':Hp} {s':Shared},Inv X' ([] ++ xQ fp s7.heap) τ' H' s'->Inv X' [] τ' H' s'/\tn (i + 1) s'.heap/\∀ b ∈ fp,H' b=none:=fun {τ' H' s'} Ie=>by
    refine ⟨Ie.unpinned,T.keep _ _ _ st7 fun b hb o e=>(Ie.pin (b,o) (zKK _ (zKK _ (yM hb e)))).1,fun b hb=>?_⟩
    obtain ⟨o,e,_⟩:=T.obj _ _ st7 b hb
    exact (Ie.pin (b,o) (zKK _ (zKK _ (yM hb e)))).2.1
   cases ok with
   | false=>
    rw [if_neg zKY] at q9 ⊢
    obtain ⟨m',hm,w9⟩:=hN _ _ _ q9
    obtain ⟨z1,z2,z3⟩:=again I9
    exact ⟨m',hm,i + 1,ys,τ8,H9,z1,z2,z3,w9⟩
   | true=>
    rw [if_pos rfl] at q9 ⊢
    have de:=hi2 _ s9 τ8 H9 _ I9 q9
    rw [eP,ew,eA,ex] at de
    refine thn de fun xv s10 h10=>thn h10 fun itv s11 h11=>?_
    obtain ⟨it2,fp2,tn2,J2,H11,rfl,I11,T2,st11,f11,W2,⟨m2,w2⟩,turn2⟩:=h11
    rw [eP,ew,eK] at T2
    have stat2:∀ {H':Hp},(∀ b ∈ fp2,H' b=none)->∀ b ∈ fp2,vW X' ([] ++ xQ fp s7.heap) H' b:=fun hn b hb=>⟨hn b hb,(f11 b hb).2⟩
    have loop2:codeAny (model X.prog X.w) X.A (.compLoop (.DictComp kx vx [⟨tg,iter,ifs,0⟩,⟨tg2,iter2,ifs2,0⟩] scope pos) 1 (.ref it2) (.ref acc) X'.env) (fun r s12=>r=.ok .next/\∃ m,m < n/\∃ i ys τ H',Inv X' [] τ H' s12/\tn i s12.heap/\(∀ b ∈ fp,H' b=none)/\W i m ys τ H') s11:=by
     refine zJW (fun n2 s'=>∃ i2 ys2 τ2 H',Inv X' ([] ++ xQ fp s7.heap) τ2 H' s'/\tn2 i2 s'.heap/\(∀ b ∈ fp2,H' b=none)/\W2 i2 n2 ys2 τ2 H') ?_ m2 ⟨0,ys,τ8,H11,I11,st11,fun b hb=>(f11 b hb).1,w2⟩
     rintro n2 s12 ⟨i2,ys2,τ12,H12,I12,st12,fr12,w12⟩
     obtain ⟨ha12,hz12,way2⟩:=turn2 i2 n2 ys2 τ12 H12 w12
     rcases way2 with ⟨stop2,qn2⟩ | ⟨go2,N2,hN2,step2⟩
     ·have d2:=T2.done X' eP ew eK ec i2 _ s12 τ12 H12 (fun _ _=>False) I12 (stat2 fr12) st12 stop2
      rw [eA] at d2
      refine thn d2 fun r s13 hz94=>?_
      obtain ⟨hr,I13⟩:=hz94
      subst hr
      obtain ⟨m',hm,w13⟩:=hN _ _ _ qn2
      obtain ⟨z1,z2,z3⟩:=again I13
      exact ⟨rfl,m',hm,i + 1,ys2,τ12,H12,z1,z2,z3,w13⟩
     ·have d2:=T2.item X' eP ew eK ec i2 _ s12 τ12 H12 (fun _ _=>False) I12 (stat2 fr12) st12 go2
      rw [eA] at d2
      refine thn d2 fun r s13 hz95=>?_
      obtain ⟨u2,hr,h13⟩:=hz95
      subst hr
      refine thn h13 fun _ s14 hz96=>?_
      obtain ⟨x2,H14,I14,r14,y14,st14,fr14⟩:=hz96
      have I14':=I14.pinned (stat2 fr14) (T2.obj _ _ st14)
      have dg2:=hg2 _ s14 τ12 H14 x2 u2 _ I14' r14 (step2 x2 H14 y14)
      rw [eP,ew,eA,ex] at dg2
      refine thn dg2 fun _ s15 hz97=>?_
      obtain ⟨τ15,H15,I15,q15⟩:=hz97
      have dt2:=ht2 _ s15 τ15 H15 _ I15 q15
      rw [eP,ew,eA,ex] at dt2
      refine thn dt2 fun ok2 s16 hz98=>?_
      obtain ⟨H16,I16,q16⟩:=hz98
      have again2:∀ {τ':St} {H':Hp} {s':Shared},Inv X' (([] ++ xQ fp s7.heap) ++ xQ fp2 s14.heap) τ' H' s'->Inv X' ([] ++ xQ fp s7.heap) τ' H' s'/\tn2 (i2 + 1) s'.heap/\∀ b ∈ fp2,H' b=none:=fun {τ' H' s'} Ie=>by
       refine ⟨Ie.unpinned,T2.keep _ _ _ st14 fun b hb o e=>(Ie.pin (b,o) (zKK _ (zKK _ (yM hb e)))).1,fun b hb=>?_⟩
       obtain ⟨o,e,_⟩:=T2.obj _ _ st14 b hb
       exact (Ie.pin (b,o) (zKK _ (zKK _ (yM hb e)))).2.1
      cases ok2 with
      | false=>
       rw [if_neg zKY] at q16 ⊢
       obtain ⟨m',hm,w16⟩:=hN2 _ _ _ q16
       obtain ⟨z1,z2,z3⟩:=again2 I16
       exact ⟨m',hm,i2 + 1,ys2,τ15,H16,z1,z2,z3,w16⟩
      | true=>
       rw [if_pos rfl] at q16 ⊢
       have dy2:=hy _ s16 τ15 H16 _ I16 q16
       rw [eP,ew,eA,ex] at dy2
       refine thn dy2 fun kv s17 hz99=>?_
       obtain ⟨z,H17,I17,r17,q17⟩:=hz99
       have de2:=he _ s17 τ15 H17 _ I17 q17
       rw [eP,ew,eA,ex] at de2
       refine thn de2 fun yv s18 hz100=>?_
       obtain ⟨y,H18,I18,r18,c,k,ek,hc18,ha18,n18⟩:=hz100
       subst ek
       obtain ⟨m',hm,w18⟩:=hN2 _ _ _ n18
       have dm:=i6 (X:=X') (A:=X.A) (E:=fun _ _=>False) (Q:=fun _ s'=>∃ m,m < n2/\∃ i2 ys2 τ2 H',Inv X' ([] ++ xQ fp s7.heap) τ2 H' s'/\tn2 i2 s'.heap/\(∀ b ∈ fp2,H' b=none)/\W2 i2 m ys2 τ2 H') hu I18 ha18 hc18 hz12 r17 r18 fun s19 I19=>by
        obtain ⟨z1,z2,z3⟩:=again2 I19
        exact ⟨m',hm,i2 + 1,xH ys2 k y,τ15,_,z1,z2,z3,w18⟩
       rw [eP,ew] at dm
       exact dm
    exact dU loop2 (T2.self X.A 0 s11 _ (fun _ _=>False) st11 loop2)
 have e4:({ newEnv scope s3.heap.objs.size X.env.globals (clF X.env scope.names []) X.env.qual none .none (some X.env) builtinsNs with scope:=relabel scope X.env }:Env)=X'.env:=by rw [eenv];rfl
 rw [eenv] at loop
 have self:=T.self X.A 0 s4 (fun it' s'=>codeAny (model X.prog X.w) X.A (.compLoop (.DictComp kx vx [⟨tg,iter,ifs,0⟩,⟨tg2,iter2,ifs2,0⟩] scope pos) 0 it' (.ref acc) (compEnvC scope (clF X.env scope.names []) s3.heap.objs.size X.env)) (compPost (model X.prog X.w) X.A X.xe use R (.ref acc) s3.heap.objs.size) s')
  (notedBy (model X.prog X.w) X.A (compEnvC scope (clF X.env scope.names []) s3.heap.objs.size X.env) fun x s'=>compPost (model X.prog X.w) X.A X.xe use R (.ref acc) s3.heap.objs.size (.error x) s') st4 loop
 exact codeAny_compStart_dict loop self
theorem zFY {X:Cx} {xs:List Str} {ix:List Nat} {scope:Scope} {kx vx tg iter tg2 iter2:Expr} {ifs ifs2:List Expr} {pos:Pos} {wi wi2:TI} {g g2:TG} {tt tt2:TT} {ty te:TE} (S:yW X xs ix scope) (hu:X.A.units + 1 < cLine) (hc:X.calm=true) (hi:PI X tg iter wi) (hi2:∀ C fp s H,PI (cxC X xs ix scope C fp s H) tg2 iter2 wi2)
  (hg:∀ C fp s H,PG (cxC X xs ix scope C fp s H) tg g) (ht:∀ C fp s H,PTs (cxC X xs ix scope C fp s H) ifs tt) (hg2:∀ C fp s H,PG (cxC X xs ix scope C fp s H) tg2 g2) (ht2:∀ C fp s H,PTs (cxC X xs ix scope C fp s H) ifs2 tt2)
  (hy:∀ C fp s H,PE (cxC X xs ix scope C fp s H) kx ty) (he:∀ C fp s H,PE (cxC X xs ix scope C fp s H) vx te) (hs:∀ x,foldedSetIterable iter X.env x=pure x:=by intro _;rfl) (hf2:∀ env x,foldedSetIterable iter2 env x=pure x:=by intro _ _;rfl) :
  PE X (.DictComp kx vx [⟨tg,iter,ifs,0⟩,⟨tg2,iter2,ifs2,0⟩] scope pos) (zE6 xs ix wi g tt wi2 g2 tt2 ty te):=by
 intro zp s σ H Q I h
 have hcl:∀ n,(n,NameKind.free) ∈ scope.names->(X.env.cells.lookup n).isSome=true:=fun n hn=>by
  obtain ⟨c,e⟩:=I.ok.has n (S.fre n hn)
  rw [e];rfl
 rw [arm_eval_DictComp]
 refine wpAny_comprehension_free (use:=none) rfl hs (xN hcl) S.kind S.loc ?_
 refine zA8 S hu hc hi hi2 hf2 hg ht hg2 ht2 hy he I h fun acc C H' s' m q hn k _=>?_
 exact ⟨m,hn,fun h' hsb=>⟨.ref acc,H',k h' hsb s'.toks,rfl,q⟩⟩
theorem zCN {X:Cx} {N:List Str} {sc:Scope} {x y:Str} {ix:List Nat} {scope:Scope} {kx vx iter iter2:Expr} {ifs ifs2:List Expr} {px py pos:Pos} {wi wi2:TI} {tt tt2:TT} {ty te:TE}
  (hu:X.A.units + 1 < cLine) (hS:uM N sc [x,y] ix scope) (hi:PI X (.Name x px) iter wi) (hi2:∀ C fp s H,PI (cxC X [x,y] ix scope C fp s H) (.Name y py) iter2 wi2)
  (ht:∀ C fp s H,PTs (cxC X [x,y] ix scope C fp s H) ifs tt) (ht2:∀ C fp s H,PTs (cxC X [x,y] ix scope C fp s H) ifs2 tt2) (hy:∀ C fp s H,PE (cxC X [x,y] ix scope C fp s H) kx ty) (he:∀ C fp s H,PE (cxC X [x,y] ix scope C fp s H) vx te)
  (hN:X.N=N:=by rfl) (hsc:X.env.scope=sc:=by rfl) (hc:X.calm=true:=by rfl) (hs:∀ x,foldedSetIterable iter X.env x=pure x:=by intro _;rfl) (hf2:∀ env x,foldedSetIterable iter2 env x=pure x:=by intro _ _;rfl) :
  PE X (.DictComp kx vx [⟨.Name x px,iter,ifs,0⟩,⟨.Name y py,iter2,ifs2,0⟩] scope pos) (zE6 [x,y] ix wi (xK 0) tt wi2 (xK 1) tt2 ty te):=by
 have S:=hS.at (X:=X) hN hsc
 have l0:∀ C fp s H,(cxC X [x,y] ix scope C fp s H).env.scope.names.lookup x=some .local:=fun _ _ _ _=>lookup_relabel_local (S.own x (by simp))
 have l1:∀ C fp s H,(cxC X [x,y] ix scope C fp s H).env.scope.names.lookup y=some .local:=fun _ _ _ _=>lookup_relabel_local (S.own y (by simp))
 exact zFY S hu hc hi hi2 (fun C fp s H=>zZ S.nd rfl (Or.inl (l0 C fp s H)) (.inr (l0 C fp s H))) ht (fun C fp s H=>zZ S.nd rfl (Or.inl (l1 C fp s H)) (.inr (l1 C fp s H))) ht2 hy he hs hf2
theorem zAQ {K:W.Frag} {a acc:Addr} {its:List V} {ys0:List (List Key × V)} {g:TG} {ty te:TE} {τ0:St} {H0:Hp} {N:List (List Key × V)->St->Hp->Prop} (Pv:Nat->List (List Key × V)->St->Hp->Prop) (h0:Pv 0 ys0 τ0 H0) (hacc:∀ i ys τ H,Pv i ys τ H->H acc=some (.dT ys)/\ys.length < sizeLine/\SqL K H a its)
  (hs:∀ i ys τ H x,its[i]?=some x->Pv i ys τ H->g x τ H fun τ2 H2=>ty τ2 H2 fun z H4=>te τ2 H4 fun y H5=>∃ (c:Addr) (k:List Key),z=.ref c/\H5 c=some (.tup (k.map kV))/\H5 acc=some (.dT ys)/\Pv (i + 1) (xH ys k y) τ2 (upd H5 acc (.dT (xH ys k y)))) (hd:∀ ys τ H,Pv its.length ys τ H->N ys τ H):IND (Itl K a) g tG ty te acc ys0 τ0 H0 N:=by
 refine ⟨fun i m ys τ H=>m=its.length - i/\i <= its.length/\Pv i ys τ H,⟨its.length,by simp,zKG _,h0⟩,?_⟩
 rintro i m ys τ H ⟨rfl,hi,p⟩
 obtain ⟨c1,c2,c3⟩:=hacc i ys τ H p
 refine ⟨c1,c2,?_⟩
 by_cases hlt:i < its.length
 ·refine .inr ⟨⟨its,its[i],c3,by simp [hlt]⟩,Pv (i + 1),fun ys' τ' H' p'=>⟨its.length - (i + 1),by omega,rfl,hlt,p'⟩,fun x H' y=>?_⟩
  obtain ⟨e,y⟩:=y
  subst e
  exact qL  (hs i ys τ _ x (y its c3) p)
 ·have e:i=its.length:=by omega
  subst e
  exact .inl ⟨⟨its,c3,zKF _⟩,hd ys τ H p⟩
theorem zA7 {K:W.Frag} {a acc:Addr} {its:List V} {xs:List Str} {ix:List Nat} {g g2:TG} {tt2:TT} {wi2:TI} {ty te:TE} {σ:St} {H1:Hp} {Q:VK} (Pv:Nat->List (List Key × V)->St->Hp->Prop) (h0:Pv 0 [] (stC xs ix σ) (upd H1 acc (.dT []))) (hl:∀ i ys τ H,i <= its.length->Pv i ys τ H->SqL K H a its)
  (hs:∀ i ys τ H x,its[i]?=some x->Pv i ys τ H->g x τ H fun τ2 H2=>wi2 τ2 H2 fun J2 H4=>IND J2 g2 tt2 ty te acc ys τ2 H4 (Pv (i + 1))) (hd:∀ ys τ H,Pv its.length ys τ H->Q (.ref acc) H):zJ5 (Itl K a) xs ix g tG wi2 g2 tt2 ty te σ H1 acc Q:=by
 refine ⟨fun i m ys τ H=>m=its.length - i/\i <= its.length/\Pv i ys τ H,⟨its.length,by simp,zKG _,h0⟩,?_⟩
 rintro i m ys τ H ⟨rfl,hi,p⟩
 have q:=hl i ys τ H hi p
 by_cases hlt:i < its.length
 ·refine .inr ⟨⟨its,its[i],q,by simp [hlt]⟩,Pv (i + 1),fun ys' τ' H' p'=>⟨its.length - (i + 1),by omega,rfl,hlt,p'⟩,fun x H' y=>?_⟩
  obtain ⟨e,y⟩:=y
  subst e
  have e:(fun τ2 H2=>tG τ2 H2 fun b H3=>if b=true then wi2 τ2 H3 fun J2 H4=>IND J2 g2 tt2 ty te acc ys τ2 H4 (Pv (i + 1)) else Pv (i + 1) ys τ2 H3)=fun τ2 H2=>wi2 τ2 H2 fun J2 H4=>IND J2 g2 tt2 ty te acc ys τ2 H4 (Pv (i + 1)):=by
   funext τ2 H2
   show (if true=true then wi2 τ2 H2 (fun J2 H4=>IND J2 g2 tt2 ty te acc ys τ2 H4 (Pv (i + 1))) else Pv (i + 1) ys τ2 H2)=_
   rw [if_pos rfl]
  rw [e]
  exact hs i ys τ _ x (y its q) p
 ·have e:i=its.length:=by omega
  subst e
  exact .inl ⟨⟨its,q,zKF _⟩,hd ys τ H p⟩
end L2
namespace L2
open PySem PySem.Spec PyProof.Rows PySem.W
section
open PySem.SeqAt
open PySem.AutoSeq1 (wpAny_loadPart')
open PySem.MeetsSeq PySem.MeetsSeq2 PySem.MeetsSeq3
end
section
variable {X:Cx}
end
section
variable {prog:Program} {w:World} {A:Around} {R:Result->Shared->Prop} {I:Addr} {fp wr:List Addr} {n:Nat} {P:Nat->Value->Prop} {St:Nat->Heap->Prop} {G:Heap->Prop} {bt:Nat->Nat->Bool} {S:Addr}
end
section
variable {X:Cx}
end
section
variable {prog:Program} {w:World} {A:Around} {E:VSP} {s:Shared}
end
section
variable {X:Cx} {zp:LAO} {σ:St} {H:Hp} {s:Shared}
end
theorem zFZ {X:Cx} {N:List Str} {sc:Scope} {x y z:Str} {ix:List Nat} {scope:Scope} {kx vx iter:Expr} {ifs:List Expr} {px py pz tp pos:Pos} {tk:Nat} {wi:TI} {tt:TT} {ty te:TE}
  (hS:uM N sc [x,y,z] ix scope) (hi:PI X (.Tuple [.Name x px,.Name y py,.Name z pz] tk tp) iter wi)
  (ht:∀ C fp s H,PTs (cxC X [x,y,z] ix scope C fp s H) ifs tt) (hy:∀ C fp s H,PE (cxC X [x,y,z] ix scope C fp s H) kx ty) (he:∀ C fp s H,PE (cxC X [x,y,z] ix scope C fp s H) vx te)
  (hN:X.N=N:=by rfl) (hsc:X.env.scope=sc:=by rfl) (hc:X.calm=true:=by rfl) (hs:∀ x,foldedSetIterable iter X.env x=pure x:=by intro _;rfl) :
  PE X (.DictComp kx vx [⟨.Tuple [.Name x px,.Name y py,.Name z pz] tk tp,iter,ifs,0⟩] scope pos) (tDC [x,y,z] ix wi (iU X.K 3 (uD (xK 0) (uD (xK 1) (uD (xK 2) iV)))) tt ty te):=by
 have S:=hS.at (X:=X) hN hsc
 have hl:∀ n,n ∈ [x,y,z]->∀ C fp s H,(cxC X [x,y,z] ix scope C fp s H).env.scope.names.lookup n=some .local:=fun n hn _ _ _ _=>lookup_relabel_local (S.own n hn)
 have h1:=hl x (by simp)
 have h2:=hl y (by simp)
 have h3:=hl z (by simp)
 exact zEL S hc hi (fun C fp s H=>uH (X:=cxC X [x,y,z] ix scope C fp s H) hc (yH (zZ S.nd rfl (Or.inl (h1 C fp s H)) (.inr (h1 C fp s H))) (yH (zZ S.nd rfl (Or.inl (h2 C fp s H)) (.inr (h2 C fp s H))) (yH (zZ S.nd rfl (Or.inl (h3 C fp s H)) (.inr (h3 C fp s H))) vE)))) ht hy he hs
end L2
namespace L2
open PySem PySem.W
def rL (K:Frag) (cs:List Addr) (cT:Addr):Bool:=(List.range 12).all fun i=>
 ((List.range 12).all fun j=>kitOne K (.ref (cs.getD i 0)) (.ref (cs.getD j 0)) == some (decide (i=j))) && (kitOne K (.ref (cs.getD i 0)) (.type "ValueError") == some true) && (kitOne K (.ref (cs.getD i 0)) (.ref cT) == some true) &&
  (exmOne K (.ref (cs.getD i 0)) (.ref cT) == some true) && (i == 10 || excIn K (cs.getD i 0) zDS "ValueError.__new__")
def zAV (K:Frag) (c:Addr):Bool:=(findIn K (.ref c) "__getattribute__" == some (some (.builtin "BaseException.__getattribute__"))) && (findIn K (.ref c) "__getattr__" == some none) && (findIn K (.ref c) "__class__" == some (some (.builtin "object.__class__"))) &&
 (mroIn K c (.type "object") == some true) && hasDictIn K c && (subIn K (.ref c) (.type "BaseException") == some true)
def iX (K:Frag) (cs:List Addr):Bool:=(specialIn K (.builtin "object.__class__") "__get__" == some (some (.builtin "getset_descriptor.__get__"))) && (takesIn K (.builtin "object.__class__") == some true) && (List.range 12).all fun i=>zAV K (cs.getD i 0)
section
variable {K:Frag} {cs:List Addr} {cT:Addr}
theorem o7 (h:rL K cs cT=true) {i:Nat} (hi:i < 12):((((∀ j,j < 12->kitOne K (.ref (cs.getD i 0)) (.ref (cs.getD j 0))=some (decide (i=j)))/\kitOne K (.ref (cs.getD i 0)) (.type "ValueError")=some true)/\kitOne K (.ref (cs.getD i 0)) (.ref cT)=some true) /\
  exmOne K (.ref (cs.getD i 0)) (.ref cT)=some true)/\(i=10 \/ excIn K (cs.getD i 0) zDS "ValueError.__new__"=true):=by
 have q:=List.all_eq_true.mp h i (List.mem_range.mpr hi)
 simp only [Bool.and_eq_true,Bool.or_eq_true,beq_iff_eq] at q
 refine ⟨⟨⟨⟨fun j hj=>?_,q.1.1.1.2⟩,q.1.1.2⟩,q.1.2⟩,q.2⟩
 exact beq_iff_eq.mp (List.all_eq_true.mp q.1.1.1.1 j (List.mem_range.mpr hj))
theorem zE1 (h:rL K cs cT=true) {i j:Nat} (hi:i < 12) (hj:j < 12):kitOne K (.ref (cs.getD i 0)) (.ref (cs.getD j 0))=some (decide (i=j)):=(o7 h hi).1.1.1.1 j hj
theorem zE0 (h:rL K cs cT=true) {i:Nat} (hi:i < 12):kitOne K (.ref (cs.getD i 0)) (.type "ValueError")=some true:=(o7 h hi).1.1.1.2
theorem zE2 (h:rL K cs cT=true) {i:Nat} (hi:i < 12):exmOne K (.ref (cs.getD i 0)) (.ref cT)=some true:=(o7 h hi).1.2
theorem cP (h:rL K cs cT=true) {i:Nat} (hi:i < 12) (n:i ≠ 10):excIn K (cs.getD i 0) zDS "ValueError.__new__"=true:=(o7 h hi).2.resolve_left n
theorem zG9 (h:iX K cs=true) {i:Nat} (hi:i < 12):pY K (cs.getD i 0):=by
 unfold iX at h
 simp only [Bool.and_eq_true,beq_iff_eq] at h
 have q:=List.all_eq_true.mp h.2 i (List.mem_range.mpr hi)
 unfold zAV at q
 simp only [Bool.and_eq_true,beq_iff_eq] at q
 exact ⟨q.1.1.1.1.1,q.1.1.1.1.2,q.1.1.1.2,h.1.1,h.1.2,q.1.1.2,q.1.2,q.2⟩
end
end L2
namespace K31
open PySem L2
def top (i:Nat):Stmt:=PySem.Challenge.pw_treeright_k31_worlds_made.main.body.getD i (.Pass ⟨0,0,0,0⟩)
abbrev lB:Stmt:=top 18
abbrev nY:Stmt:=top 57
abbrev qC:Stmt:=top 58
abbrev gH:Stmt:=top 59
def Src (H:Hp) (p:Addr):Prop:=∃ a b c:Int,H p=some (.lst [.int a,.int b,.int c])
def cG (z:Str):Prop:=∀ c ∈ z.cps.toList,vN c=true
theorem zDW:∀ c ∈ abc.cps.toList,vN c=true:=by decide +kernel
theorem zC8 {x y:Str} (h1:cG x) (h2:cG y):cG (x ++ y):=by
 intro c hc
 have e:(x ++ y).cps.toList=x.cps.toList ++ y.cps.toList:=by
  show (x.cps ++ y.cps).toList=_
  simp
 rw [e] at hc
 exact (zKN.mp hc).elim (h1 c) (h2 c)
theorem zC7 {ch:Nat} (h:ch ∈ abc.cps.toList):cG ⟨#[ch]⟩:=fun c hc=>by
 have e:c=ch:=by simpa using hc
 rw [e];exact zDW ch h
theorem zC3 {z:Str} (h:cG z) (h1:1 <= z.length) (h2:z.length <= 8):uK z=true:=by
 unfold uK
 rw [zKL h1,zKL h2]
 simp only [Bool.true_and]
 exact List.all_eq_true.mpr h
section
variable {P:Program} {w:World} {K:W.Frag} {mg:Str->Option Value} {base:Heap} {C:Addr}
def nG:Sp:=fun vs H Q _=>∃ a k,vs=[.int a,.int k]/\∀ v:Int,0 <= v->v < 2147483629->Q (.int v) H
theorem r8:zI ["_law_cell","_law_k","_law_number"] ["_law_cell","_law_k"] (zE nY):=scm
theorem zCZ (G:yB K mg "_law_mixed" nY ["_law_cell","_law_k"]):Cal P w K mg base CX0 1 "_law_mixed" ["_law_cell","_law_k"] nG:=by
 refine G.ok r8 (fun vs H Q E h=>by obtain ⟨a,k,rfl,_⟩:=h;rfl) (fun f cdv A outer s H vs Q E hr h=>?_)
 obtain ⟨a,k,rfl,q⟩:=h
 refine ⟨_,zF (z5 (i:=2) r8.nd rfl (Or.inl rfl) (yC uX (yC rF (yC uP (yC uP (yC uX (pv 0) zK) (yC rF zK (pv 1))) zK) zK) zK))
  (zF (z5 (i:=2) r8.nd rfl (Or.inl rfl) (yC uX (yC rF (pv 2) (yC uP (yC qE (pv 2) zK) zK)) zK))
  (zF (z5 (i:=2) r8.nd rfl (Or.inl rfl) (yC uX (yC rF (pv 2) (yC uP (yC uP (yC qE (pv 2) zK) zK) (pv 1))) zK))
  (zH (zL (yC uX (yC rF (pv 2) (yC uP (yC qE (pv 2) zK) zK)) zK))))),?_⟩
 simp [pS,o9,cR,tOp,rI,rI0,tY,tC,xK,L2.start,cH,zD0]
 refine ⟨by omega,by omega,by omega,q _ (by omega) (by omega)⟩
def m7:Sp:=fun vs H Q _=>∃ a,vs=[.int a]/\∀ (p:Addr) (b c d:Int),H p=none->Q (.ref p) (upd H p (.lst [.int b,.int c,.int d]))
theorem bU:zI ["_law_cell"] ["_law_cell"] (zE qC):=scm
theorem a8 (G:yB K mg "_law_digits" qC ["_law_cell"]):Cal P w K mg base CX0 1 "_law_digits" ["_law_cell"] m7:=by
 refine G.ok bU (fun vs H Q E h=>by obtain ⟨a,rfl,_⟩:=h;rfl) (fun f cdv A outer s H vs Q E hr h=>?_)
 obtain ⟨a,rfl,q⟩:=h
 refine ⟨_,zH (zL (zX (zA (yC rF (yC qE (pv 0) zK) (yC iF zK (yC uX (pv 0) zK))) (zA (pv 0) (zA zK zD))))),?_⟩
 simp [pS,o9,cR,tOp,rI,rI0,tY,tC,xK,L2.start,cH,zD0,cV,oA,o8]
 refine ⟨by omega,fZ (by decide) |> Nat.le_of_lt,fun p hp=>q p _ _ _ hp⟩
def jZ:Sp:=fun vs H Q _=>∃ (p:Addr) (a b c m:Int),vs=[.ref p,.int m]/\H p=some (.lst [.int a,.int b,.int c])/\0 < m/\m < 4611686018427387904 /\
 ∀ v a' c':Int,0 <= v->v < m->Q (.int v) (upd H p (.lst [.int a',.int b,.int c']))
theorem bP:zI ["_law_source","_law_many","_law_found"] ["_law_source","_law_many"] (zE gH):=scm
theorem zF9 (G:yB K mg "_law_next" gH ["_law_source","_law_many"]) (CM:Cal P w K mg base CX0 1 "_law_mixed" ["_law_cell","_law_k"] nG):Cal P w K mg base CX0 2 "_law_next" ["_law_source","_law_many"] jZ:=by
 refine G.ok bP (fun vs H Q E h=>by obtain ⟨p,a,b,c,m,rfl,_⟩:=h;rfl) (fun f cdv A outer s H vs Q E hr h=>?_)
 obtain ⟨p,a,b,c,m,rfl,hp,m0,m1,q⟩:=h
 refine ⟨_,zF (yQ (zU aW (yJ zT (pv 0) zK (fun _ _=>rfl)) zK (zW _))
   (zF (z5 (i:=2) bP.nd rfl (Or.inl rfl) (yC uX (yJ zT (pv 0) zK (fun _ _=>rfl)) (pv 1)))
   (zF (qV (yC lT (yJ zT (pv 0) zK (fun _ _=>rfl)) (pv 1)) (aM (pv 0) zK lA))
   (zH (zL (pv 2))))) zV)
  (zF (qV (yC uP (yJ zT (pv 0) zK (fun _ _=>rfl)) zK) (aM (pv 0) zK lA))
  (zH (zL (yC uX (zM CM hr (zA (yJ zT (pv 0) zK (fun _ _=>rfl)) (zA (yJ zT (pv 0) zK (fun _ _=>rfl)) zD))) (pv 1))))),?_⟩
 simp [pS,o9,cR,tOp,rI,rI0,tY,tC,xK,L2.start,cH,zD0,cV,oA,o8,zHJ,cQ,zD4,zJO,zIV,zEH,h9,nG,hp,atI,ixN,zB,tX]
 refine zAO (fun h1=>⟨m0,⟨m0,m1⟩,q _ _ _ (Int.emod_nonneg _ (by omega)) (Int.emod_lt_of_pos _ m0)⟩) (fun h1 v v0 v1=>⟨m0,q _ _ _ (Int.emod_nonneg _ (by omega)) (Int.emod_lt_of_pos _ m0)⟩)
def xY (z:Str):Prop:=uK z=true/\z.length <= 8
def tM (K:W.Frag):Sp:=fun vs H Q _=>∃ (x:V) (T:String),vs=[x]/\yS K H x T/\(∀ z,x=.str z->z.length <= 1000)/\∀ H',zC [] H H'->Q (.bl (uJ x)) H'
theorem zFG:zI ["thing"] ["thing"] (zE lB):=scm
theorem zGA (G:yB K mg "is_name" lB ["thing"]) (bI:Blt mg "isinstance") (bS:Blt mg "str") (bL:Blt mg "len") (bA:Blt mg "all") (gL:Glo mg "LETTERS" (.str abc)) (g8:Glo mg "LONGEST_NAME" (.int 8)) :
  Cal P w K mg base CX0 1 "is_name" ["thing"] (tM K):=by
 refine G.ok zFG (fun vs H Q E h=>by obtain ⟨x,T,rfl,_⟩:=h;rfl) (fun f cdv A outer s H vs Q E hr h=>?_)
 obtain ⟨x,T,rfl,pt,hz,q⟩:=h
 refine ⟨_,zF (yQ (xM (xI (zP xP bI zN (zA (pv 0) (zA (sA bS zG2) zD))))) (zH (zL wY)) zV)
  (zH (zL (vI (aP aV aV zK (zP yD bL y8 (zA (pv 0) zD)) (wP g8))
   (uI (zP (sZ rfl) bA mQ (zA (vD (N:=["thing"]) (sc:=zE lB) (ix:=[]) (by decide +kernel) (zFT (pv 0)) (fun _ _ _ _=>yT)
    (fun C fp s H=>xW dC (pv 0) (wP gL) (by with_unfolding_all rfl))) zD)))))),?_⟩
 refine ⟨_,rfl,_,_,_,_,rfl,pt.ty,pt.kit.1,_,rfl,?_⟩
 cases pt with
 | str z=>
  have hz:=hz z rfl
  refine iQ ?_
  refine ⟨_,rfl,_,z.length,rfl,⟨by rw [sizeLine_eq];omega,rfl⟩,_,_,rfl,rfl,_,rfl,?_⟩
  refine zAO (fun h1=>?_) (fun h1=>?_)
  ·refine ⟨_,_,rfl,rfl,_,rfl,?_⟩
   refine zAO (fun h2=>?_) (fun h2=>?_)
   ·refine ⟨_,rfl,z,rfl,fun acc ha=>?_⟩
    refine zC9 (by rw [sizeLine_eq];show z.length < _;omega) (fun i ys τ H2=>∃ (k:Option V),τ=[k]/\ys=(z.cps.toList.take i).map (fun c=>V.bl (vN c))/\i <= z.cps.size/\zC [acc] H H2/\H2 acc=some (.lst ys)) ?_ ?_ ?_ ?_
    ·exact ⟨_,rfl,rfl,zKG _,zC.at (by simp),zB⟩
    ·rintro i ys τ H2 ⟨k,rfl,rfl,hi,kp,h3⟩
     exact ⟨h3,by simp;omega⟩
    ·rintro i ys τ H2 hi ⟨k,rfl,rfl,_,kp,h3⟩
     refine ⟨_,rfl,_,_,rfl,rfl,h3,_,rfl,?_,hi,kp.trans (zC.at (by simp)),zB⟩
     rw [List.take_add_one,zKI]
     congr 1
     have e:z.cps.toList[i]?=some (z.cps.getD i 0):=by
      rw [Array.getElem?_toList,zK5,Array.getElem?_eq_getElem hi];rfl
     rw [e];rfl
    ·rintro ys τ H2 ⟨k,rfl,rfl,_,kp,h3⟩
     refine ⟨acc,z.cps.toList.map vN,rfl,.of ?_,?_⟩
     ·rw [h3,zKV (by simp),List.map_map];rfl
     ·rw [i8]
      have e:uJ (.str z)=z.cps.toList.all vN:=by
       show (decide (1 <= z.length) && decide (z.length <= 8) && _)=_
       have e1:1 <= z.length:=by have:=of_decide_eq_true h1;omega
       have e2:z.length <= 8:=by have:=of_decide_eq_true h2;omega
       rw [zKL e1,zKL e2];rfl
      rw [<- e]
      exact q _ (kp.drop ha)
   ·have e:uJ (.str z)=false:=by
     show (decide (1 <= z.length) && decide (z.length <= 8) && _)=_
     have e2:¬ z.length <= 8:=fun z'=>h2 (zKL (by omega))
     rw [zKM e2];simp
    rw [<- e]
    exact q _ (zC.refl _)
  ·refine ⟨_,rfl,iQ ?_⟩
   have e:uJ (.str z)=false:=by
    show (decide (1 <= z.length) && decide (z.length <= 8) && _)=_
    have e2:¬ 1 <= z.length:=fun z'=>h1 (zKL (by omega))
    rw [zKM e2];simp
   rw [<- e]
   exact q _ (zC.refl _)
 | _=>exact dN (q H (zC.refl _))
end
abbrev qP:Stmt:=top 20
abbrev lE:Stmt:=top 21
abbrev zB5:Stmt:=top 22
abbrev gM:Stmt:=top 23
abbrev zB6:Stmt:=top 24
abbrev lD:Stmt:=top 25
section
variable {P:Program} {w:World} {K:W.Frag} {mg:Str->Option Value} {base:Heap} {C:Addr}
theorem gE:zI ["thing","houses"] ["thing","houses"] (zE qP):=scm
theorem jG {z:Str} (h:xY z):z.length <= 1000:=by have:=h.2;omega
theorem zDB {z:Str} {zs:List Str} (h:z ∈ zs):inV (.str z) (zs.map V.str)=true:=by
 unfold inV
 rw [List.any_map,List.any_eq_true]
 exact ⟨z,h,by simp [eqV]⟩
theorem tF (zs:List Str):(zs.map V.str).all wE=true:=by
 rw [List.all_map,List.all_eq_true];exact fun _ _=>rfl
def rY:Sp:=fun vs H Q _=>∃ (z:Str) (a:Addr) (zs:List Str),vs=[.str z,.ref a]/\H a=some (.lst (zs.map V.str))/\xY z/\z ∈ zs/\∀ H',zC [] H H'->Q (.bl true) H'
theorem zCX (G:yB K mg "is_one_of" qP ["thing","houses"]) (CI:Cal P w K mg base CX0 1 "is_name" ["thing"] (tM K)):Cal P w K mg base CX0 2 "is_one_of" ["thing","houses"] rY:=by
 refine G.ok gE (fun vs H Q E h=>by obtain ⟨z,a,zs,rfl,_⟩:=h;rfl) (fun f cdv A outer s H vs Q E hr h=>?_)
 obtain ⟨z,a,zs,rfl,ha,gz,hm,q⟩:=h
 have hr1:zO 1 _:=hr
 refine ⟨_,(zH (zL (vI (zM CI hr1 (zA (pv 0) zD)) (uI (xW rG (pv 0) (pv 1) (by with_unfolding_all rfl)))))),?_⟩
 refine ⟨_,rfl,_,_,rfl,.str z,(fun z' e=>by cases e;exact jG gz),fun H1 k1=>⟨_,rfl,?_⟩⟩
 rw [show uJ (.str z)=true from gz.1]
 refine ifT rfl ⟨_,rfl,_,rfl,a,_,rfl,.inl (.of (k1 _ _ (by simp) ha)),rfl,tF zs,?_⟩
 rw [zDB hm]
 exact q _ k1
theorem zFN:zI ["thing"] ["thing"] (zE lE):=scm
def j5:Sp:=fun vs H Q _=>∃ (a:Addr) (zs:List Str),vs=[.ref a]/\H a=some (.lst (zs.map V.str))/\(∀ z ∈ zs,xY z)/\zs.length <= 1000/\∀ H',zC [] H H'->Q (.bl true) H'
theorem zGH (G:yB K mg "are_names" lE ["thing"]) (CI:Cal P w K mg base CX0 1 "is_name" ["thing"] (tM K)) (b_isinstance:Blt mg "isinstance") (b_list:Blt mg "list") (b_all:Blt mg "all"):Cal P w K mg base CX0 2 "are_names" ["thing"] j5:=by
 refine G.ok zFN (fun vs H Q E h=>by obtain ⟨a,zs,rfl,_⟩:=h;rfl) (fun f cdv A outer s H vs Q E hr h=>?_)
 obtain ⟨a,zs,rfl,ha,gz,lz,q⟩:=h
 have hr1:zO 1 _:=hr
 refine ⟨_,(zH (zL (vI (zP xP b_isinstance zN (zA (pv 0) (zA (sA b_list wI) zD))) (uI (zP (sZ rfl) b_all mQ (zA (vD (N:=["thing"]) (sc:=zE lE) (ix:=[]) (by decide +kernel) (yG (pv 0)) (fun _ _ _ _=>yT) (fun _ _ _ _=>(zM CI hr1 (zA (pv 0) zD)))) zD)))))),?_⟩
 have pt:yS K H (.ref a) "list":=.lst ha
 refine ⟨_,rfl,_,_,_,_,rfl,pt.ty,pt.kit.2.2.2.1,_,rfl,ifT rfl ?_⟩
 refine ⟨_,rfl,a,rfl,⟨_,.of ha⟩,fun acc hacc=>?_⟩
 have aa:a ≠ acc:=zG ha hacc
 refine w4 (K:=K) (a:=a) (its:=zs.map V.str) (by rw [zJ6,sizeLine_eq];omega) (fun i ys τ H1=>∃ k:Option V,τ=[k]/\ys=(List.replicate i true).map V.bl/\zC [acc] H H1/\H1 acc=some (.lst ys)) ?_ ?_ ?_ ?_
 ·exact ⟨_,rfl,rfl,zC.at (by simp),zB⟩
 ·rintro i ys τ H1 ⟨k,rfl,rfl,kp,h1⟩
  exact ⟨h1,by simp,.of (kp _ _ (by simp [aa]) ha)⟩
 ·rintro i ys τ H1 x hx ⟨k,rfl,rfl,kp,h1⟩
  obtain ⟨z,hz,rfl⟩:∃ z ∈ zs,V.str z=x:=List.mem_map.mp (zKA hx)
  refine ⟨_,rfl,_,_,rfl,.str z,(fun z' e=>by cases e;exact jG (gz z hz)),fun H2 k2=>⟨k2 _ _ (by simp) h1,_,rfl,?_,(kp.trans (k2.mono (by simp))).trans (zC.at (by simp)),zB⟩⟩
  rw [show uJ (.str z)=true from (gz z hz).1,List.replicate_succ',zKI];rfl
 ·rintro ys τ H1 ⟨k,rfl,rfl,kp,h1⟩
  refine ⟨acc,List.replicate _ true,rfl,.of h1,?_⟩
  rw [show (List.replicate (zs.map V.str).length true).all id=true by simp]
  exact q _ (kp.drop hacc)
theorem zID:zI ["names"] ["names"] (zE zB5):=scm
def c8:Sp:=fun vs H Q _=>∃ (a:Addr) (zs:List Str),vs=[.ref a]/\H a=some (.lst (zs.map V.str))/\zs.Nodup/\zs.length < 1000/\∀ H',zC [] H H'->Q (.bl true) H'
theorem zI4 (G:yB K mg "are_unlike" zB5 ["names"]) (b_len:Blt mg "len") (b_set:Blt mg "set"):Cal P w K mg base CX0 1 "are_unlike" ["names"] c8:=by
 refine G.ok zID (fun vs H Q E h=>by obtain ⟨a,zs,rfl,_⟩:=h;rfl) (fun f cdv A outer s H vs Q E hr h=>?_)
 obtain ⟨a,zs,rfl,ha,nd,lz,q⟩:=h
 refine ⟨_,(zH (zL (xW uY (zP jP b_len y8 (zA (xE (d7 rfl) rfl b_set.no zG3 (zA (pv 0) zD)) zD)) (zP yD b_len y8 (zA (pv 0) zD)) (zW _)))),?_⟩
 refine ⟨_,rfl,a,zs,rfl,ha,lz,fun p hp=>⟨p,zs,rfl,zB,lz,?_⟩⟩
 have k1:zC [] H (upd H p (zB1 P w p zs)):=zC.new hp
 refine ⟨_,rfl,_,_,rfl,.inl ⟨_,.of (k1 _ _ (by simp) ha),rfl⟩,rfl,?_⟩
 rw [jA nd,zJ6]
 rw [show decide (V.int (zs.length:Int)=V.int (zs.length:Int))=true from zKL rfl]
 exact q _ k1
theorem zFO:zI ["thing"] ["thing"] (zE gM):=scm
def bK:Sp:=fun vs H Q _=>∃ (a:Addr) (zs:List Str),vs=[.ref a]/\H a=some (.lst (zs.map V.str))/\(∀ z ∈ zs,xY z)/\zs.Nodup/\1 <= zs.length/\zs.length < 1000/\∀ H',zC [] H H'->Q (.bl true) H'
theorem zGI (G:yB K mg "are_houses" gM ["thing"]) (CAN:Cal P w K mg base CX0 2 "are_names" ["thing"] j5) (CAU:Cal P w K mg base CX0 1 "are_unlike" ["names"] c8) (b_len:Blt mg "len"):Cal P w K mg base CX0 3 "are_houses" ["thing"] bK:=by
 refine G.ok zFO (fun vs H Q E h=>by obtain ⟨a,zs,rfl,_⟩:=h;rfl) (fun f cdv A outer s H vs Q E hr h=>?_)
 obtain ⟨a,zs,rfl,ha,gz,nd,l1,lz,q⟩:=h
 have hr1:zO 1 _:=hr.mono (by decide)
 have hr2:zO 2 _:=hr
 refine ⟨_,(zH (zL (vI (zM CAN hr2 (zA (pv 0) zD)) (vI (zM CAU hr1 (zA (pv 0) zD)) (uI (xW zI2 (zP yD b_len y8 (zA (pv 0) zD)) zK (zW _))))))),?_⟩
 refine ⟨_,rfl,a,zs,rfl,ha,gz,by omega,fun H1 k1=>⟨_,rfl,ifT rfl ?_⟩⟩
 refine ⟨_,rfl,a,zs,rfl,k1 _ _ (by simp) ha,nd,lz,fun H2 k2=>⟨_,rfl,ifT rfl ?_⟩⟩
 have k12:=k1.trans k2
 refine ⟨_,rfl,_,_,rfl,.inl ⟨_,.of (k12 _ _ (by simp) ha),rfl⟩,_,_,rfl,rfl,?_⟩
 rw [zJ6]
 dsimp only
 rw [show decide ((zs.length:Int) >= 1)=true from zKL (by omega)]
 exact q _ k12
theorem bO:zI ["thing","houses","one","other"] ["thing","houses"] (zE zB6):=scm
def zD5:Sp:=fun vs H Q _=>∃ (t a:Addr) (p:Str × Str) (zs:List Str),vs=[.ref t,.ref a]/\H t=some (.tup (xO p))/\H a=some (.lst (zs.map V.str))/\xY p.1/\xY p.2/\p.1 ∈ zs/\p.2 ∈ zs/\p.1 ≠ p.2/\∀ H',zC [] H H'->Q (.bl true) H'
theorem zI5 (G:yB K mg "is_tie" zB6 ["thing","houses"]) (CO:Cal P w K mg base CX0 2 "is_one_of" ["thing","houses"] rY) (b_isinstance:Blt mg "isinstance") (b_tuple:Blt mg "tuple") (b_len:Blt mg "len"):Cal P w K mg base CX0 3 "is_tie" ["thing","houses"] zD5:=by
 refine G.ok bO (fun vs H Q E h=>by obtain ⟨t,a,p,zs,rfl,_⟩:=h;rfl) (fun f cdv A outer s H vs Q E hr h=>?_)
 obtain ⟨t,a,⟨p1,p2⟩,zs,rfl,ht,ha,g1,g2,m1,m2,ne,q⟩:=h
 dsimp only at *
 have ht':H t=some (.tup [.str p1,.str p2]):=ht
 have hr2:zO 2 _:=hr
 refine ⟨_,(zF (yQ (PW.pt (uA (xM (xI (zP xP b_isinstance zN (zA (pv 0) (zA (sA b_tuple jQ) zD))))) (vC (zU sK (zP yD b_len y8 (zA (pv 0) zD)) zK (zW _))))) (zH (zL wY)) zV)
   (zF (qV (pv 0) (uH rfl (yH (zZ (i:=2) bO.nd rfl (Or.inl rfl)) (yH (zZ (i:=3) bO.nd rfl (Or.inl rfl)) vE))))
   (zH (zL (vI (zM CO hr2 (zA (pv 2) (zA (pv 1) zD))) (vI (zM CO hr2 (zA (pv 3) (zA (pv 1) zD))) (uI (xW sK (pv 2) (pv 3) (zW _))))))))),?_⟩
 have pt:yS K H (.ref t) "tuple":=.tup ht'
 refine ⟨_,rfl,_,_,_,_,rfl,pt.ty,pt.kit.2.2.2.2,_,rfl,ifF rfl ?_⟩
 refine ⟨_,rfl,_,_,rfl,.inr ⟨_,.of ht',rfl⟩,rfl,_,rfl,ifF (by show (!decide (V.int ((2:Nat):Int)=V.int 2))=false;decide) ?_⟩
 refine ⟨_,rfl,t,_,rfl,.of ht',rfl,_,_,rfl,_,_,rfl,rfl,?_⟩
 refine ⟨_,rfl,_,rfl,p1,a,zs,rfl,ha,g1,m1,fun H1 k1=>⟨_,rfl,ifT rfl ?_⟩⟩
 refine ⟨_,rfl,_,rfl,p2,a,zs,rfl,k1 _ _ (by simp) ha,g2,m2,fun H2 k2=>⟨_,rfl,ifT rfl ?_⟩⟩
 refine ⟨_,rfl,_,rfl,rfl,?_⟩
 rw [show (!decide (V.str p1=V.str p2))=true by simpa using ne]
 exact q _ (k1.trans k2)
theorem zFM:zI ["thing","houses"] ["thing","houses"] (zE lD):=scm
def wK (zs:List Str) (p:Str × Str):Prop:=p.1 ∈ zs/\p.2 ∈ zs/\p.1 ≠ p.2
def bJ:Sp:=fun vs H Q _=>∃ (b a:Addr) (ps:LSS) (zs:List Str),vs=[.ref b,.ref a]/\Rows H b (ps.map xO)/\H a=some (.lst (zs.map V.str))/\(∀ z ∈ zs,xY z)/\(∀ p ∈ ps,wK zs p)/\ps.length + 1=zs.length/\zs.length <= 1000/\∀ H',zC [] H H'->Q (.bl true) H'
theorem zGG (G:yB K mg "are_ties" lD ["thing","houses"]) (CT:Cal P w K mg base CX0 3 "is_tie" ["thing","houses"] zD5) (b_isinstance:Blt mg "isinstance") (b_list:Blt mg "list") (b_len:Blt mg "len") (b_all:Blt mg "all"):Cal P w K mg base CX0 4 "are_ties" ["thing","houses"] bJ:=by
 refine G.ok zFM (fun vs H Q E h=>by obtain ⟨b,a,ps,zs,rfl,_⟩:=h;rfl) (fun f cdv A outer s H vs Q E hr h=>?_)
 obtain ⟨b,a,ps,zs,rfl,⟨qs,hb,hq⟩,ha,gz,tz,lp,lz,q⟩:=h
 have hr3:zO 3 _:=hr
 have lq:=zS hq
 rw [zJ6] at lq
 refine ⟨_,(zF (yQ (PW.pt (uA (xM (xI (zP xP b_isinstance zN (zA (pv 0) (zA (sA b_list wI) zD))))) (vC (zU sK (zP yD b_len y8 (zA (pv 0) zD)) (yC iF (zP yD b_len y8 (zA (pv 1) zD)) zK) (zW _))))) (zH (zL wY)) zV)
   (zH (zL (zP (sZ rfl) b_all mQ (zA (vD (N:=["thing","houses"]) (sc:=zE lD) (ix:=[1]) (by decide +kernel) (yG (pv 0)) (fun _ _ _ _=>yT) (fun _ _ _ _=>(zM CT hr3 (zA (pv 0) (zA (pv 1) zD))))) zD))))),?_⟩
 have pt:yS K H (.ref b) "list":=.lst hb
 refine ⟨_,rfl,_,_,_,_,rfl,pt.ty,pt.kit.2.2.2.1,_,rfl,ifF rfl ?_⟩
 refine ⟨_,rfl,_,_,rfl,.inl ⟨_,.of hb,rfl⟩,_,rfl,_,_,rfl,.inl ⟨_,.of ha,rfl⟩,_,_,rfl,rfl,rfl,_,rfl,ifF ?_ ?_⟩
 ·rw [zJ6,zJ6]
  simp;omega
 refine ⟨_,rfl,b,rfl,⟨_,.of hb⟩,fun acc hacc=>?_⟩
 have ba:b ≠ acc:=zG hb hacc
 have aa:a ≠ acc:=zG ha hacc
 refine w4 (K:=K) (a:=b) (its:=qs.map V.ref) (by rw [zJ6,sizeLine_eq];omega) (fun i ys τ H1=>∃ k:Option V,τ=[k,some (.ref a)]/\ys=(List.replicate i true).map V.bl/\zC [acc] H H1/\H1 acc=some (.lst ys)) ?_ ?_ ?_ ?_
 ·exact ⟨_,rfl,rfl,zC.at (by simp),zB⟩
 ·rintro i ys τ H1 ⟨k,rfl,rfl,kp,h1⟩
  exact ⟨h1,by simp,.of (kp _ _ (by simp [ba]) hb)⟩
 ·rintro i ys τ H1 x hx ⟨k,rfl,rfl,kp,h1⟩
  rw [zKC] at hx
  cases et:qs[i]? with
  | none=>rw [et] at hx;cases hx
  | some t=>
  rw [et] at hx
  have ex:V.ref t=x:=zKD hx
  subst ex
  obtain ⟨r,er,ht⟩:=uO hq i t et
  rw [zKC] at er
  cases ep:ps[i]? with
  | none=>rw [ep] at er;cases er
  | some p=>
  rw [ep] at er
  have er':xO p=r:=zKD er
  subst er'
  obtain ⟨m1,m2,ne⟩:=tz p (zKA ep)
  have ta:t ≠ acc:=zG ht hacc
  refine ⟨_,rfl,_,rfl,t,a,p,zs,rfl,kp _ _ (by simp [ta]) ht,kp _ _ (by simp [aa]) ha,gz _ m1,gz _ m2,m1,m2,ne,fun H2 k2=>⟨k2 _ _ (by simp) h1,_,rfl,?_,(kp.trans (k2.mono (by simp))).trans (zC.at (by simp)),zB⟩⟩
  rw [List.replicate_succ',zKI];rfl
 ·rintro ys τ H1 ⟨k,rfl,rfl,kp,h1⟩
  refine ⟨acc,List.replicate _ true,rfl,.of h1,?_⟩
  rw [show (List.replicate (qs.map V.ref).length true).all id=true by simp]
  exact q _ (kp.drop hacc)
end
def dz (zs:List Str) (f:Str->V):List (Key × V):=zs.map fun z=>(Sum.inr z,f z)
theorem tL {zs:List Str} {f:Str->V} {z:Str} (h:z ∈ zs):wN (dz zs f) (Sum.inr z)=some (f z):=by
 unfold dz
 induction zs with
 | nil=>cases h
 | cons y zs ih=>
  rw [List.map_cons]
  by_cases e:y=z
  ·subst e;exact xT rfl
  ·have hz:z ∈ zs:=by rcases List.mem_cons.mp h with q | q;exact absurd q.symm e;exact q
   rw [xL (by simpa using e)]
   exact ih hz
theorem fW {zs:List Str} {f:Str->V} {z:Str} (h:z ∉ zs):wN (dz zs f) (Sum.inr z)=none:=by
 unfold dz
 induction zs with
 | nil=>rfl
 | cons y zs ih=>
  have e:y ≠ z:=fun e=>h (by simp [e])
  rw [List.map_cons,xL (by simpa using e)]
  exact ih fun q=>h (zKJ _ q)
theorem iC {zs:List Str} {f:Str->V} {z:Str} {v:V} (h:z ∉ zs):xH (dz zs f) (Sum.inr z) v=dz (zs ++ [z]) (fun y=>if y=z then v else f y):=by
 have no:((dz zs f).any fun kv=>decide (kv.1=Sum.inr z))=false:=by
  unfold dz
  rw [List.any_map,List.any_eq_false]
  intro y hy
  simp only [Function.comp]
  simp
  rintro rfl;exact h hy
 unfold xH
 rw [no,if_neg (by simp)]
 unfold dz
 rw [zKI]
 congr 1
 ·refine List.map_congr_left fun y hy=>?_
  have e:y ≠ z:=fun e=>h (e ▸ hy)
  show _=(Sum.inr y,if y=z then v else f y)
  rw [if_neg e]
 ·simp
theorem pJ {zs:List Str} {f g:Str->V} (h:∀ z ∈ zs,f z=g z):dz zs f=dz zs g:=List.map_congr_left fun z hz=>by rw [h z hz]
def yZ (ps:LSS) (z:Str):List Str:=ps.flatMap fun p=>if p.1=z then [p.2] else if p.2=z then [p.1] else []
theorem oF (ps:LSS) (p:Str × Str) (z:Str):yZ (ps ++ [p]) z=yZ ps z ++ (if p.1=z then [p.2] else if p.2=z then [p.1] else []):=by
 unfold yZ;rw [List.flatMap_append];simp
theorem t8 (ps:LSS) (z:Str):(yZ ps z).length <= ps.length:=by
 induction ps with
 | nil=>exact zKF _
 | cons p ps ih=>
  have e:yZ (p :: ps) z=(if p.1=z then [p.2] else if p.2=z then [p.1] else []) ++ yZ ps z:=by unfold yZ;rw [List.flatMap_cons]
  rw [e,zKO,zKR]
  have:(if p.1=z then [p.2] else if p.2=z then [p.1] else []:List Str).length <= 1:=by split <;> (try split) <;> simp
  omega
structure tT (H:Hp) (nd:Addr) (zs:List Str) (ps:LSS) (L:Str->Addr) (N:Str->List Str):Prop where
 d:H nd=some (.dK (dz zs fun z=>.ref (L z)))
 l:∀ z ∈ zs,H (L z)=some (.lst ((N z).map V.str))
 p:∀ z ∈ zs,(N z).Perm (yZ ps z)
 s:∀ z ∈ zs,Asc ltS (N z)
theorem tT.keep {H H':Hp} {nd:Addr} {zs:List Str} {ps:LSS} {L:Str->Addr} {N:Str->List Str} (h:tT H nd zs ps L N) (k:zC [] H H'):tT H' nd zs ps L N:=
 ⟨k _ _ (by simp) h.d,fun z hz=>k _ _ (by simp) (h.l z hz),h.p,h.s⟩
abbrev oC:Stmt:=top 26
section
variable {P:Program} {w:World} {K:W.Frag} {mg:Str->Option Value} {base:Heap} {C:Addr}
theorem nK:zI ["houses","ties","near","one","other"] ["houses","ties"] (zE oC):=scm
def c9:Sp:=fun vs H Q _=>∃ (a b:Addr) (ps:LSS) (zs:List Str),vs=[.ref a,.ref b]/\H a=some (.lst (zs.map V.str))/\Rows H b (ps.map xO)/\zs.Nodup/\(∀ p ∈ ps,wK zs p)/\ps.length < 60/\zs.length < 60 /\
 ∀ (nd:Addr) (L:Str->Addr) (N:Str->List Str) (H':Hp),H nd=none->(∀ z ∈ zs,H (L z)=none)->tT H' nd zs ps L N->zC [] H H'->Q (.ref nd) H'
theorem zF6 (G:yB K mg "tied_to_each" oC ["houses","ties"]) (b_sorted:Blt mg "sorted"):Cal P w K mg base CX0 1 "tied_to_each" ["houses","ties"] c9:=by
 refine G.ok nK (fun vs H Q E h=>by obtain ⟨a,b,ps,zs,rfl,_⟩:=h;rfl) (fun f cdv A outer s H vs Q E hr h=>?_)
 obtain ⟨a,b,ps,zs,rfl,ha,⟨qs,hb,hq⟩,nd0,tz,lp,lz,q⟩:=h
 have hu:=uT hr
 have lq:=zS hq
 rw [zJ6] at lq
 refine ⟨_,(zF (z5 (i:=2) nK.nd rfl (Or.inr rfl) (iE (N:=["houses","ties","near","one","other"]) (sc:=zE oC) (ix:=[]) (by decide +kernel) (yG (pv 0)) (fun _ _ _ _=>yT) (fun _ _ _ _=>(pv 0)) (fun _ _ _ _=>(zX zD))))
   (zF (tO PassesOwn.never rfl (yG (pv 1)) (uH rfl (yH (zZ (i:=3) nK.nd rfl (Or.inl rfl)) (yH (zZ (i:=4) nK.nd rfl (Or.inl rfl)) vE))) (zF (z9 (uW F.plainAttrs_list F.slot_list_append F.type_list_append wG (uC hu (pv 2) (pv 3) (fun _ _=>rfl)) (zA (pv 4) zD)))
   (zH (z9 (uW F.plainAttrs_list F.slot_list_append F.type_list_append wG (uC hu (pv 2) (pv 4) (fun _ _=>rfl)) (zA (pv 3) zD))))))
   (zH (zL (iE (N:=["houses","ties","near","one","other"]) (sc:=zE oC) (ix:=[2]) (by decide +kernel) (yG (pv 0)) (fun _ _ _ _=>yT) (fun _ _ _ _=>(pv 0)) (fun _ _ _ _=>(zP w6 b_sorted vP (zA (uC hu (pv 1) (pv 0) (fun _ _=>rfl)) zD)))))))),?_⟩
 refine ⟨_,rfl,a,rfl,⟨_,.of ha⟩,fun d0 hd0=>?_⟩
 have ad:a ≠ d0:=zG ha hd0
 refine sX (K:=K) (a:=a) (its:=zs.map V.str) (by rw [zJ6,sizeLine_eq];omega) (fun i ys τ H1=>i <= zs.length/\∃ (L:Str->Addr) (k:Option V),τ=[k]/\ys=dz (zs.take i) (fun z=>.ref (L z))/\(∀ z ∈ zs.take i,H1 (L z)=some (.lst [])/\H (L z)=none/\L z ≠ d0) /\
  (∀ y ∈ zs.take i,∀ z ∈ zs.take i,L y=L z->y=z)/\zC [d0] H H1/\H1 d0=some (.dK ys)) ?_ ?_ ?_ ?_
 ·exact ⟨zKG _,fun _=>0,_,rfl,rfl,(fun z hz=>by cases hz),(fun y hy=>by cases hy),zC.at (by simp),zB⟩
 ·rintro i ys τ H1 ⟨hi,L,k,rfl,rfl,_,_,kp,h1⟩
  exact ⟨h1,by unfold dz;rw [zJ6,zKP];omega,.of (kp _ _ (by simp [ad]) ha)⟩
 ·rintro i ys τ H1 x hx ⟨hi,L,k,rfl,rfl,hl,inj,kp,h1⟩
  rw [zKC] at hx
  cases ez:zs[i]? with
  | none=>rw [ez] at hx;cases hx
  | some z=>
  rw [ez] at hx
  have ex:V.str z=x:=zKD hx
  subst ex
  have il:i < zs.length:=(zJ8.mp ez).1
  have tk:zs.take (i + 1)=zs.take i ++ [z]:=by rw [List.take_add_one,ez];rfl
  have nin:z ∉ zs.take i:=fun hm=>by
   have:=nd0.sublist (List.take_sublist (i + 1) zs)
   rw [tk] at this
   exact (List.nodup_append.mp this).2.2 z hm z (by simp) rfl
  refine ⟨_,rfl,zKG _,fun l hln=>⟨Sum.inr z,rfl,?_,?_⟩⟩
  ·exact (zC.new (S:=[]) hln) _ _ (by simp) h1
  have ld:l ≠ d0:=Ne.symm (zG h1 hln)
  rw [iC nin]
  refine ⟨il,fun y=>if y=z then l else L y,_,rfl,?_,?_,?_,(kp.trans (zC.new hln)).trans (zC.at (by simp)),zB⟩
  ·rw [tk]
   refine pJ fun y _=>?_
   dsimp only
   by_cases e:y=z
   ·rw [if_pos e,if_pos e]
   ·rw [if_neg e,if_neg e]
  ·intro y hy
   rw [tk] at hy
   dsimp only
   by_cases e:y=z
   ·rw [if_pos e]
    exact ⟨by rw [zJ ld,zB],kp.none (by simp [ld]) hln,ld⟩
   ·rw [if_neg e]
    have hy':y ∈ zs.take i:=by rcases zKN.mp hy with q | q;exact q;exact absurd (zJ9.mp q) e
    obtain ⟨g1,g2,g3⟩:=hl y hy'
    exact ⟨by rw [zJ g3,zJ (zG g1 hln)];exact g1,g2,g3⟩
  ·intro x hx y hy exy
   rw [tk] at hx hy
   dsimp only at exy
   have alt:∀ u ∈ zs.take i ++ [z],u=z \/ u ∈ zs.take i:=fun u hu=>by
    rcases zKN.mp hu with q | q
    ·exact .inr q
    ·exact .inl (zJ9.mp q)
   rcases alt x hx with rfl | hx' <;> rcases alt y hy with rfl | hy'
   ·rfl
   ·have ny:y ≠ x:=fun e=>nin (e ▸ hy')
    rw [if_pos rfl,if_neg ny] at exy
    rw [exy] at hln;rw [(hl y hy').1] at hln;cases hln
   ·have nx:x ≠ y:=fun e=>nin (e ▸ hx')
    rw [if_neg nx,if_pos rfl] at exy
    rw [<- exy] at hln;rw [(hl x hx').1] at hln;cases hln
   ·have nx:x ≠ z:=fun e=>nin (e ▸ hx')
    have ny:y ≠ z:=fun e=>nin (e ▸ hy')
    rw [if_neg nx,if_neg ny] at exy
    exact inj x hx' y hy' exy
 rintro ys τ H1 ⟨_,L,kk,rfl,rfl,hl,inj,kp,h1⟩
 rw [zJ6,zK6] at hl inj h1
 have k1:zC [] H H1:=kp.drop hd0
 have ha1:=k1 _ _ (by simp) ha
 have hb1:=k1 _ _ (by simp) hb
 have out:∀ {u:Addr} {o:HO},H u=some o->u ∉ zs.map L:=fun {u o} hu hm=>by
  obtain ⟨z,hz,rfl⟩:=List.mem_map.mp hm
  rw [(hl z hz).2.1] at hu;cases hu
 have dout:d0 ∉ zs.map L:=fun hm=>by
  obtain ⟨z,hz,e⟩:=List.mem_map.mp hm
  exact (hl z hz).2.2 e
 refine ⟨_,rfl,b,rfl,⟨_,.of hb1⟩,sU (K:=K) (a:=b) (xs:=qs.map V.ref) (fun i σ H2=>i <= ps.length/\∃ (v3 v4:Option V),σ=[some (.ref a),some (.ref b),some (.ref d0),v3,v4]/\(∀ z ∈ zs,H2 (L z)=some (.lst ((yZ (ps.take i) z).map V.str)))/\zC (zs.map L) H1 H2)
  ⟨zKG _,_,_,rfl,(fun z hz=>(hl z hz).1),zC.refl _⟩ (fun i σ H2 _ ⟨_,_,_,_,_,k2⟩=>.of (k2 _ _ (out hb) hb1)) ?_ ?_⟩
 ·rintro i y σ H2 hi ⟨hip,v3,v4,rfl,hn,k2⟩
  rw [zKC] at hi
  cases et:qs[i]? with
  | none=>rw [et] at hi;cases hi
  | some t=>
  rw [et] at hi
  have ex:V.ref t=y:=zKD hi
  subst ex
  obtain ⟨r,er,ht⟩:=uO hq i t et
  rw [zKC] at er
  cases ep:ps[i]? with
  | none=>rw [ep] at er;cases er
  | some p=>
  rw [ep] at er
  have er':xO p=r:=zKD er
  subst er'
  obtain ⟨p1,p2⟩:=p
  obtain ⟨m1,m2,ne⟩:=tz _ (zKA ep)
  dsimp only at m1 m2 ne
  have il:i < ps.length:=(zJ8.mp ep).1
  have ht2:H2 t=some (.tup [.str p1,.str p2]):=k2 _ _ (out ht) (k1 _ _ (by simp) ht)
  have tk:ps.take (i + 1)=ps.take i ++ [(p1,p2)]:=by rw [List.take_add_one,ep];rfl
  have hd2:=k2 _ _ dout h1
  have len:∀ z,((yZ (ps.take i) z).map V.str).length < sizeLine:=fun z=>by
   have:=t8 (ps.take i) z
   rw [zJ6,sizeLine_eq];rw [zKP] at this;omega
  have l12:L p1 ≠ L p2:=fun e=>ne (inj p1 m1 p2 m2 e)
  refine ⟨t,_,rfl,.of ht2,rfl,_,_,rfl,_,_,rfl,rfl,?_⟩
  refine ⟨_,rfl,_,rfl,d0,_,rfl,by have z:=vX.k (k:=Sum.inr p1) hd2;rw [tL m1] at z;exact z,(show tyV _ "list" (.ref (L p1)) _ from Or.inl ⟨rfl,_,.of (hn p1 m1)⟩),_,rfl,L p1,_,_,rfl,rfl,hn p1 m1,len p1,?_⟩
  have hd3:upd H2 (L p1) (.lst ((yZ (ps.take i) p1).map V.str ++ [.str p2])) d0=some (.dK (dz zs fun z=>.ref (L z))):=by
   rw [zJ (hl p1 m1).2.2.symm];exact hd2
  have hn3:upd H2 (L p1) (.lst ((yZ (ps.take i) p1).map V.str ++ [.str p2])) (L p2)=some (.lst ((yZ (ps.take i) p2).map V.str)):=by
   rw [zJ l12.symm];exact hn p2 m2
  refine ⟨_,rfl,_,rfl,d0,_,rfl,by have z:=vX.k (k:=Sum.inr p2) hd3;rw [tL m2] at z;exact z,(show tyV _ "list" (.ref (L p2)) _ from Or.inl ⟨rfl,_,.of hn3⟩),_,rfl,L p2,_,_,rfl,rfl,hn3,len p2,?_⟩
  refine ⟨il,_,_,rfl,fun z hz=>?_,k2.trans ((zC.at (List.mem_map.mpr ⟨p1,m1,rfl⟩)).trans (zC.at (List.mem_map.mpr ⟨p2,m2,rfl⟩)))⟩
  rw [tk,oF]
  dsimp only
  by_cases e2:p2=z
  ·subst e2
   rw [zB,if_neg ne,if_pos rfl,zKI];rfl
  ·have n2:L z ≠ L p2:=fun e=>e2 (inj z hz p2 m2 e).symm
   rw [zJ n2]
   by_cases e1:p1=z
   ·subst e1
    rw [zB,if_pos rfl,zKI];rfl
   ·have n1:L z ≠ L p1:=fun e=>e1 (inj z hz p1 m1 e).symm
    rw [zJ n1,if_neg e1,if_neg e2,List.append_nil]
    exact hn z hz
 rintro σ H2 ⟨_,v3,v4,rfl,hn,k2⟩
 rw [zJ6,lq,zK6] at hn
 have ha2:=k2 _ _ (out ha) ha1
 have hd2:=k2 _ _ dout h1
 have k02:zC [] H H2:=k1.under k2 (fun u hm=>by
  obtain ⟨z,hz,rfl⟩:=List.mem_map.mp hm
  exact (hl z hz).2.1)
 refine ⟨_,rfl,a,rfl,⟨_,.of ha2⟩,fun nd hnd=>?_⟩
 have an:a ≠ nd:=zG ha2 hnd
 have dn:d0 ≠ nd:=zG hd2 hnd
 refine sX (K:=K) (a:=a) (its:=zs.map V.str) (by rw [zJ6,sizeLine_eq];omega) (fun i ys τ H3=>i <= zs.length/\∃ (M:Str->Addr) (N:Str->List Str) (k:Option V),τ=[k,some (.ref d0)]/\ys=dz (zs.take i) (fun z=>.ref (M z))/\(∀ z ∈ zs.take i,H3 (M z)=some (.lst ((N z).map V.str))/\H2 (M z)=none/\M z ≠ nd/\(N z).Perm (yZ ps z)/\Asc ltS (N z)) /\
  zC [nd] H2 H3/\H3 nd=some (.dK ys)) ?_ ?_ ?_ ?_
 ·exact ⟨zKG _,fun _=>0,fun _=>[],_,rfl,rfl,(fun z hz=>by cases hz),zC.at (by simp),zB⟩
 ·rintro i ys τ H3 ⟨hi,M,N,k,rfl,rfl,_,kp3,h3⟩
  exact ⟨h3,by unfold dz;rw [zJ6,zKP];omega,.of (kp3 _ _ (by simp [an]) ha2)⟩
 ·rintro i ys τ H3 x hx ⟨hi,M,N,k,rfl,rfl,hm,kp3,h3⟩
  rw [zKC] at hx
  cases ez:zs[i]? with
  | none=>rw [ez] at hx;cases hx
  | some z=>
  rw [ez] at hx
  have ex:V.str z=x:=zKD hx
  subst ex
  have il:i < zs.length:=(zJ8.mp ez).1
  have hz:z ∈ zs:=zKA ez
  have tk:zs.take (i + 1)=zs.take i ++ [z]:=by rw [List.take_add_one,ez];rfl
  have nin:z ∉ zs.take i:=fun hm=>by
   have:=nd0.sublist (List.take_sublist (i + 1) zs)
   rw [tk] at this
   exact (List.nodup_append.mp this).2.2 z hm z (by simp) rfl
  have hd3:=kp3 _ _ (by simp [dn]) hd2
  have lzn:L z ≠ nd:=zG (hn z hz) hnd
  have hl3:=kp3 _ _ (by simp [lzn]) (hn z hz)
  refine ⟨_,rfl,_,rfl,_,rfl,d0,_,rfl,by have y:=vX.k (k:=Sum.inr z) hd3;rw [tL hz] at y;exact y,L z,yZ ps z,rfl,hl3,by have:=t8 ps z;omega,fun l ys' hln hp hs=>⟨Sum.inr z,rfl,?_,?_⟩⟩
  ·exact (zC.new (S:=[]) hln) _ _ (by simp) h3
  have ld:l ≠ nd:=Ne.symm (zG h3 hln)
  rw [iC nin]
  refine ⟨il,fun y=>if y=z then l else M y,fun y=>if y=z then ys' else N y,_,rfl,?_,?_,(kp3.trans (zC.new hln)).trans (zC.at (by simp)),zB⟩
  ·rw [tk]
   refine pJ fun y _=>?_
   dsimp only
   by_cases e:y=z
   ·rw [if_pos e,if_pos e]
   ·rw [if_neg e,if_neg e]
  ·intro y hy
   rw [tk] at hy
   dsimp only
   by_cases e:y=z
   ·subst e
    rw [if_pos rfl,if_pos rfl]
    exact ⟨by rw [zJ ld,zB],kp3.none (by simp [ld]) hln,ld,hp,hs⟩
   ·rw [if_neg e,if_neg e]
    have hy':y ∈ zs.take i:=by rcases zKN.mp hy with q | q;exact q;exact absurd (zJ9.mp q) e
    obtain ⟨g1,g2,g3,g4,g5⟩:=hm y hy'
    exact ⟨by rw [zJ g3,zJ (zG g1 hln)];exact g1,g2,g3,g4,g5⟩
 rintro ys τ H3 ⟨_,M,N,k,rfl,rfl,hm,kp3,h3⟩
 rw [zJ6,zK6] at hm h3
 have k23:zC [] H2 H3:=kp3.drop hnd
 exact q nd M N H3 (k02.none (by simp) hnd) (fun z hz=>k02.none (by simp) (hm z hz).2.1) ⟨h3,fun z hz=>(hm z hz).1,fun z hz=>(hm z hz).2.2.2.1,fun z hz=>(hm z hz).2.2.2.2⟩ (k02.trans k23)
end
theorem wZ:∀ {ks zs:List Str},ks.Nodup->(∀ y ∈ ks,y ∈ zs)->ks.length <= zs.length:=by
 intro ks
 induction ks with
 | nil=>intro zs _ _;exact zKG _
 | cons k ks ih=>
  intro zs nd h
  have nk:=(List.nodup_cons.mp nd).1
  have hk:=h k zKZ
  have:=ih (zs:=zs.erase k) (List.nodup_cons.mp nd).2 (fun y hy=>by
   have ne:y ≠ k:=fun e=>nk (e ▸ hy)
   exact (List.mem_erase_of_ne ne).mpr (h y (zKJ _ hy)))
  rw [List.length_erase_of_mem hk] at this
  have l0:=List.length_pos_of_mem hk
  rw [zKR];omega
structure Led (zs:List Str) (N:Str->List Str) (goal:Str) (ks:List Str) (nx:Str->Str):Prop where
 nd:ks.Nodup
 g:goal ∈ ks
 z:∀ y ∈ ks,y ∈ zs
 o:∀ i y,ks[i]?=some y->y ≠ goal->nx y ∈ ks.take i/\y ∈ N (nx y)
theorem Led.snoc {zs:List Str} {N:Str->List Str} {goal:Str} {ks:List Str} {nx:Str->Str} (h:Led zs N goal ks nx) {o here:Str} (no:o ∉ ks) (oz:o ∈ zs) (hh:here ∈ ks) (on:o ∈ N here) :
  Led zs N goal (ks ++ [o]) (fun y=>if y=o then here else nx y):=by
 refine ⟨?_,List.mem_append_left _ h.g,?_,?_⟩
 ·refine List.nodup_append.mpr ⟨h.nd,List.nodup_cons.mpr ⟨by simp,List.nodup_nil⟩,?_⟩
  intro a ha b hb e
  exact no (zJ9.mp hb ▸ e ▸ ha)
 ·intro y hy
  rcases zKN.mp hy with q | q
  ·exact h.z y q
  ·rw [zJ9.mp q];exact oz
 ·intro i y hy ng
  by_cases il:i < ks.length
  ·rw [zKU il] at hy
   have ne:y ≠ o:=fun e=>no (e ▸ zKA hy)
   rw [if_neg ne,List.take_append_of_le_length (by omega)]
   exact h.o i y hy ng
  ·rw [zKT (by omega)] at hy
   have i0:i - ks.length=0:=by
    cases e:i - ks.length with
    | zero=>rfl
    | succ k=>rw [e] at hy;simp at hy
   rw [i0] at hy
   have e:o=y:=by simpa using hy
   subst e
   have il':i=ks.length:=by omega
   subst il'
   rw [if_pos rfl,List.take_append_of_le_length (zKF _),zK6]
   exact ⟨hh,on⟩
def stp (goal:Str) (nx:Str->Str) (y:Str):V:=if y=goal then .non else .str (nx y)
theorem zCG {goal:Str} {nx:Str->Str} {ks:List Str} {o here:Str} (no:o ∉ ks) (g:goal ∈ ks):xH (dz ks (stp goal nx)) (Sum.inr o) (.str here)=dz (ks ++ [o]) (stp goal (fun y=>if y=o then here else nx y)):=by
 rw [iC no]
 refine pJ fun y _=>?_
 unfold stp
 have og:o ≠ goal:=fun e=>no (e ▸ g)
 by_cases e:y=o
 ·subst e;rw [if_pos rfl,if_neg og];dsimp only;rw [if_pos rfl]
 ·rw [if_neg e];dsimp only;rw [if_neg e]
theorem zA0 (ks:List Str) (f:Str->V):(dz ks f).length=ks.length:=zJ6 _
abbrev nO:Stmt:=top 27
section
variable {P:Program} {w:World} {K:W.Frag} {mg:Str->Option Value} {base:Heap} {C:Addr}
theorem t5:zI ["near","goal","steps","fresh","here","other"] ["near","goal"] (zE nO):=scm
def zEU (H:Hp) (nd sd fl:Addr) (goal:Str) (zs:List Str) (N:Str->List Str) (m:Nat) (σ:St) (H1:Hp):Prop:=∃ (ks fs:List Str) (nx:Str->Str) (v4 v5:Option V),σ=[some (.ref nd),some (.str goal),some (.ref sd),some (.ref fl),v4,v5]/\m=2 * (zs.length - ks.length) + fs.length/\Led zs N goal ks nx/\(∀ y ∈ fs,y ∈ ks)/\fs.length <= ks.length /\
  (∀ z ∈ ks,z ∉ fs->∀ y ∈ N z,y ∈ ks)/\zC [sd,fl] H H1/\H1 sd=some (.dK (dz ks (stp goal nx)))/\H1 fl=some (.lst (fs.map V.str))
def nD:Sp:=fun vs H Q _=>∃ (nd:Addr) (zs:List Str) (ps:LSS) (L:Str->Addr) (N:Str->List Str) (goal:Str),vs=[.ref nd,.str goal]/\tT H nd zs ps L N/\zs.length < 60/\goal ∈ zs/\(∀ z ∈ zs,∀ y ∈ N z,y ∈ zs) /\
 ∀ (sd:Addr) (ks:List Str) (nx:Str->Str) (H':Hp),H sd=none->Led zs N goal ks nx->(∀ z ∈ ks,∀ y ∈ N z,y ∈ ks)->H' sd=some (.dK (dz ks (stp goal nx)))->zC [] H H'->Q (.ref sd) H'
theorem zCV (G:yB K mg "steps_toward" nO ["near","goal"]):Cal P w K mg base CX0 1 "steps_toward" ["near","goal"] nD:=by
 refine G.ok t5 (fun vs H Q E h=>by obtain ⟨nd,zs,ps,L,N,goal,rfl,_⟩:=h;rfl) (fun f cdv A outer s H vs Q E hr h=>?_)
 obtain ⟨nd,zs,ps,L,N,goal,rfl,na,lz,gz,nz,q⟩:=h
 have hu:=uT hr
 refine ⟨_,(zF (z5 (i:=2) t5.nd rfl (Or.inl rfl) (gX (lK (pv 1) wO gR) rfl rfl (by simp) (by decide)))
   (zF (z5 (i:=3) t5.nd rfl (Or.inl rfl) (zX (zA (pv 1) zD)))
   (zF (qU PassesOwn.never (lH (pv 3) (fun _=>rfl)) (zF (z5 (i:=4) t5.nd rfl (Or.inl rfl) (zF0 F.plainAttrs_list F.slot_list_pop F.type_list_pop zGL (pv 3)))
   (zH (tO PassesOwn.never rfl (yG (uC hu (pv 0) (pv 4) (fun _ _=>rfl))) (zZ (i:=5) t5.nd rfl (Or.inl rfl)) (zH (yQ (iD (oI hu (pv 5) (pv 2))) (zF (zCI hu (pv 2) (pv 5) (pv 4) rfl)
   (zH (z9 (uW F.plainAttrs_list F.slot_list_append F.type_list_append wG (pv 3) (zA (pv 5) zD))))) zV))))))
   (zH (zL (pv 2)))))),?_⟩
 intro sd hsd
 refine ⟨_,rfl,zB,[(Sum.inr goal,.non)],rfl,by simp,?_⟩
 rw [tX]
 refine ⟨_,rfl,by simp [sizeLine_eq],fun fl hfl=>?_⟩
 have fs0:fl ≠ sd:=fun e=>by rw [e,zB] at hfl;cases hfl
 have hfl0:H fl=none:=by rw [zJ fs0] at hfl;exact hfl
 refine ⟨zEU H nd sd fl goal zs N,⟨_,[goal],[goal],fun _=>goal,_,_,rfl,rfl,⟨by simp,by simp,(fun y hy=>by rw [zJ9.mp hy];exact gz),?_⟩,(fun y hy=>hy),zKF _,(fun z hz nz=>absurd hz nz),?_,?_,zB⟩,?_⟩
 ·intro i y hy ng
  exact absurd (zJ9.mp (zKA hy)) ng
 ·exact (zC.at (by simp)).trans (zC.at (by simp))
 ·rw [zJ fs0.symm,zB]
  show some (HO.dK [(Sum.inr goal,V.non)])=some (HO.dK [(Sum.inr goal,if goal=goal then .non else .str goal)])
  rw [if_pos rfl]
 rintro m σ H1 ⟨ks,fs,nx,v4,v5,rfl,rfl,led,fk,fle,cl,kp,h1,hf⟩
 have sf:sd ≠ fl:=fs0.symm
 rcases List.eq_nil_or_concat fs with rfl | ⟨fs,here,e⟩
 ·refine ⟨_,rfl,_,.inl ⟨_,.of hf,rfl⟩,ifF rfl ?_⟩
  refine ⟨_,rfl,?_⟩
  refine q sd ks nx H1 hsd led (fun z hz=>cl z hz (by simp)) h1 ?_
  intro u o hu ho
  refine kp u o ?_ ho
  have n1:u ≠ sd:=fun e=>by rw [e,hsd] at ho;cases ho
  have n2:u ≠ fl:=fun e=>by rw [e,hfl0] at ho;cases ho
  simp [n1,n2]
 rw [List.concat_eq_append] at e
 subst e
 refine ⟨_,rfl,_,.inl ⟨_,.of hf,rfl⟩,ifT (by simp) ?_⟩
 have hk:here ∈ ks:=fk here (by simp)
 have hz:here ∈ zs:=led.z _ hk
 have ef:(fs ++ [here]).map V.str=fs.map V.str ++ [.str here]:=by rw [zKI];rfl
 rw [ef] at hf
 rw [zKO] at fle
 have fle':fs.length + 1 <= ks.length:=fle
 have out:∀ {u:Addr} {o:HO},H u=some o->u ∉ [sd,fl]:=fun {u o} ho=>by
  have n1:u ≠ sd:=fun e=>by rw [e,hsd] at ho;cases ho
  have n2:u ≠ fl:=fun e=>by rw [e,hfl0] at ho;cases ho
  simp [n1,n2]
 refine ⟨fun σ' H'=>∃ m',m' < 2 * (zs.length - ks.length) + (fs ++ [here]).length/\zEU H nd sd fl goal zs N m' σ' H',fun _ _ h=>h,?_⟩
 refine ⟨_,rfl,Or.inl ⟨rfl,_,.of hf⟩,fl,_,.str here,rfl,rfl,hf,by simp,?_⟩
 rw [show (fs.map V.str ++ [V.str here]).dropLast=fs.map V.str from List.dropLast_concat]
 have kp1:zC [sd,fl] H (upd H1 fl (.lst (fs.map V.str))):=kp.trans (zC.at (by simp))
 refine ⟨_,rfl,_,rfl,nd,_,rfl,by have z:=vX.k (k:=Sum.inr here) (kp1 _ _ (out na.d) na.d);rw [tL hz] at z;exact z,L here,rfl,⟨_,.of (kp1 _ _ (out (na.l here hz)) (na.l here hz))⟩,?_⟩
 refine sU (K:=K) (a:=L here) (xs:=(N here).map V.str) (fun i σ H2=>∃ (ks2 fs2:List Str) (nx2:Str->Str) (v5:Option V),σ=[some (.ref nd),some (.str goal),some (.ref sd),some (.ref fl),some (.str here),v5] /\
  2 * (zs.length - ks2.length) + fs2.length < 2 * (zs.length - ks.length) + (fs ++ [here]).length/\Led zs N goal ks2 nx2/\here ∈ ks2/\(∀ y ∈ fs2,y ∈ ks2)/\fs2.length <= ks2.length/\(∀ z ∈ ks2,z ∉ fs2->z ≠ here->∀ y ∈ N z,y ∈ ks2)/\(∀ y ∈ (N here).take i,y ∈ ks2) /\
  zC [sd,fl] H H2/\H2 sd=some (.dK (dz ks2 (stp goal nx2)))/\H2 fl=some (.lst (fs2.map V.str))) ?_ (fun i σ H2 _ ⟨_,_,_,_,_,_,_,_,_,_,_,_,k2,_⟩=>.of (k2 _ _ (out (na.l here hz)) (na.l here hz))) ?_ ?_
 ·refine ⟨ks,fs,nx,_,rfl,by simp,led,hk,(fun y hy=>fk y (List.mem_append_left _ hy)),by omega,?_,(fun y hy=>by simp at hy),kp1,?_,zB⟩
  ·intro z hz' nf ne
   refine cl z hz' fun hm=>?_
   rcases zKN.mp hm with a | a
   ·exact nf a
   ·exact ne (zJ9.mp a)
  ·rw [zJ sf];exact h1
 ·rintro i y σ H2 hi ⟨ks2,fs2,nx2,v5,rfl,ml,led2,hk2,fk2,fl2,cl2,tk2,kp2,h2,hf2⟩
  rw [zKC] at hi
  cases eo:(N here)[i]? with
  | none=>rw [eo] at hi;cases hi
  | some o=>
  rw [eo] at hi
  have ex:V.str o=y:=zKD hi
  subst ex
  have on:o ∈ N here:=zKA eo
  have oz:o ∈ zs:=nz here hz o on
  have tk:(N here).take (i + 1)=(N here).take i ++ [o]:=by rw [List.take_add_one,eo];rfl
  by_cases ok:o ∈ ks2
  ·refine ⟨_,rfl,_,rfl,sd,_,rfl,vX.k (k:=Sum.inr o) h2,_,rfl,?_⟩
   rw [tL ok]
   refine ifF rfl ?_
   refine ⟨ks2,fs2,nx2,_,rfl,ml,led2,hk2,fk2,fl2,cl2,?_,kp2,h2,hf2⟩
   intro y hy
   rw [tk] at hy
   rcases zKN.mp hy with a | a
   ·exact tk2 y a
   ·rw [zJ9.mp a];exact ok
  ·refine ⟨_,rfl,_,rfl,sd,_,rfl,vX.k (k:=Sum.inr o) h2,_,rfl,?_⟩
   rw [fW ok]
   refine ifT rfl ?_
   have led3:=led2.snoc ok oz hk2 on
   have l3:=wZ led3.nd led3.z
   rw [zKO] at l3
   have l3':ks2.length + 1 <= zs.length:=l3
   refine ⟨_,rfl,_,rfl,_,rfl,sd,_,rfl,zBQ.k (k:=Sum.inr o) h2 (by rw [zA0,sizeLine_eq];omega),?_⟩
   rw [zCG ok led2.g]
   have hf3:upd H2 sd (.dK (dz (ks2 ++ [o]) (stp goal (fun y=>if y=o then here else nx2 y)))) fl=some (.lst (fs2.map V.str)):=by rw [zJ sf.symm];exact hf2
   refine ⟨_,rfl,Or.inl ⟨rfl,_,.of hf3⟩,_,rfl,fl,_,_,rfl,rfl,hf3,by rw [zJ6,sizeLine_eq];omega,?_⟩
   refine ⟨ks2 ++ [o],fs2 ++ [o],_,_,rfl,?_,led3,List.mem_append_left _ hk2,?_,by rw [zKO,zKO];omega,?_,?_,(kp2.trans (zC.at (by simp))).trans (zC.at (by simp)),by rw [zJ sf,zB],by rw [zB,zKI];rfl⟩
   ·have e1:(ks2 ++ [o]).length=ks2.length + 1:=by simp
    have e2:(fs2 ++ [o]).length=fs2.length + 1:=by simp
    rw [e1,e2]
    omega
   ·intro y hy
    rcases zKN.mp hy with a | a
    ·exact List.mem_append_left _ (fk2 y a)
    ·exact zKK _ a
   ·intro z hz' nf ne y hy
    rcases zKN.mp hz' with a | a
    ·exact List.mem_append_left _ (cl2 z a (fun b=>nf (List.mem_append_left _ b)) ne y hy)
    ·exact absurd (zKK _ a) nf
   ·intro y hy
    rw [tk] at hy
    rcases zKN.mp hy with a | a
    ·exact List.mem_append_left _ (tk2 y a)
    ·exact zKK _ a
 ·rintro σ H2 ⟨ks2,fs2,nx2,v5,rfl,ml,led2,hk2,fk2,fl2,cl2,tk2,kp2,h2,hf2⟩
  rw [zJ6,zK6] at tk2
  refine ⟨_,ml,ks2,fs2,nx2,_,_,rfl,rfl,led2,fk2,fl2,?_,kp2,h2,hf2⟩
  intro z hz' nf
  by_cases e:z=here
  ·subst e;exact tk2
  ·exact cl2 z hz' nf e
end
def vH (p:Str × Str):Str × Str:=(iK p.1 p.2,iL p.1 p.2)
theorem sM (p:Str × Str):vH p=p \/ vH p=(p.2,p.1):=by
 obtain ⟨a,b⟩:=p
 unfold vH iK iL
 cases h1:ltS b a with
 | true=>
  have h2:ltS a b=false:=pD h1
  right;simp [h1,h2]
 | false=>
  cases h2:ltS a b with
  | true=>left;simp [h1,h2]
  | false=>
   have e:=mF h1 h2
   subst e
   left;simp [h1]
theorem m4 {zs:List Str} {p:Str × Str} (h:wK zs p):wK zs (vH p):=by
 obtain ⟨a,b,c⟩:=h
 rcases sM p with e | e <;> rw [e]
 ·exact ⟨a,b,c⟩
 ·exact ⟨b,a,fun e=>c e.symm⟩
def pR (zs:List Str) (ps:LSS):Prop:=∀ (P:Str->Prop) (z0:Str),z0 ∈ zs->P z0->(∀ t ∈ ps,P t.1 ↔ P t.2)->∀ z ∈ zs,P z
theorem oU {zs zs':List Str} {ps ps':LSS} (h:pR zs ps) (pz:zs'.Perm zs) (pp:ps'.Perm (ps.map vH)):pR zs' ps':=by
 intro P z0 hz p0 each z hz'
 refine h P z0 (pz.mem_iff.mp hz) p0 (fun t ht=>?_) z (pz.mem_iff.mp hz')
 have:=each (vH t) (pp.mem_iff.mpr (List.mem_map.mpr ⟨t,ht,rfl⟩))
 rcases sM t with e | e
 ·rw [e] at this;exact this
 ·rw [e] at this;exact this.symm
theorem zEG {ps:LSS} {t:Str × Str} (h:t ∈ ps):t.2 ∈ yZ ps t.1:=by
 unfold yZ
 exact List.mem_flatMap.mpr ⟨t,h,by rw [if_pos rfl];exact zJ9.mpr rfl⟩
theorem zEF {ps:LSS} {t:Str × Str} (h:t ∈ ps) (n:t.1 ≠ t.2):t.1 ∈ yZ ps t.2:=by
 unfold yZ
 exact List.mem_flatMap.mpr ⟨t,h,by rw [if_neg n,if_pos rfl];exact zJ9.mpr rfl⟩
theorem qS {zs:List Str} {ps:LSS} (tz:∀ p ∈ ps,wK zs p) {z y:Str} (h:y ∈ yZ ps z):y ∈ zs:=by
 unfold yZ at h
 obtain ⟨t,ht,hy⟩:=List.mem_flatMap.mp h
 obtain ⟨a,b,_⟩:=tz t ht
 by_cases e1:t.1=z
 ·rw [if_pos e1] at hy;rw [zJ9.mp hy];exact b
 ·rw [if_neg e1] at hy
  by_cases e2:t.2=z
  ·rw [if_pos e2] at hy;rw [zJ9.mp hy];exact a
  ·rw [if_neg e2] at hy;cases hy
theorem fD {zs:List Str} {ps:LSS} {N:Str->List Str} {goal:Str} {ks:List Str} {nx:Str->Str} (cn:pR zs ps) (tz:∀ p ∈ ps,wK zs p) (nd:zs.Nodup) (pn:∀ z ∈ zs,(N z).Perm (yZ ps z)) (led:Led zs N goal ks nx) (cl:∀ z ∈ ks,∀ y ∈ N z,y ∈ ks) :
  (∀ z ∈ zs,z ∈ ks)/\ks.length=zs.length:=by
 have all:∀ z ∈ zs,z ∈ ks:=cn (· ∈ ks) goal (led.z _ led.g) led.g fun t ht=>by
  obtain ⟨a,b,c⟩:=tz t ht
  exact ⟨fun h=>cl t.1 h t.2 ((pn t.1 a).mem_iff.mpr (zEG ht)),fun h=>cl t.2 h t.1 ((pn t.2 b).mem_iff.mpr (zEF ht c))⟩
 exact ⟨all,Nat.le_antisymm (wZ led.nd led.z) (wZ nd all)⟩
def tfl (nl pl nd:Addr):List (Str × V):=[("names",.ref nl),("pairs",.ref pl),("near",.ref nd)]
theorem tn1:¬ (("names" : Str)="pairs"):=by decide +kernel
theorem tn2:¬ (("names" : Str)="near"):=by decide +kernel
theorem tn3:¬ (("pairs" : Str)="near"):=by decide +kernel
theorem tput (nl pl nd:Addr):yL "near" (.ref nd) (yL "pairs" (.ref pl) (yL "names" (.ref nl) []))=tfl nl pl nd:=by
 unfold tfl
 simp only [yL,if_neg tn1,if_neg tn2,if_neg tn3]
def tf2 (nl pl:Addr):List (Str × V):=[("names",.ref nl),("pairs",.ref pl)]
theorem zD1 (nl pl:Addr):yL "pairs" (.ref pl) (yL "names" (.ref nl) [])=tf2 nl pl:=by
 unfold tf2
 simp only [yL,if_neg tn1]
structure vV (K:W.Frag) (C:Addr):Prop where
 cl:Cls K C
 nN:xC K C "names"
 nP:xC K C "pairs"
 nR:xC K C "near"
def xJ (B:Hp) (C:Addr) (H:Hp) (p:Addr) (zs:List Str) (ps:LSS):Prop:=∃ (dx nl pl nd:Addr) (L:Str->Addr) (N:Str->List Str),(B nl=none/\B pl=none/\B nd=none/\∀ z ∈ zs,B (L z)=none) /\
 H p=some (.ins C dx (tfl nl pl nd))/\H nl=some (.lst (zs.map V.str))/\Rows H pl (ps.map xO)/\tT H nd zs ps L N
theorem vR {S:List Addr} {H H':Hp} (k:zC S H H') (n:∀ b ∈ S,∀ xs,H b ≠ some (.tup xs)) {qs:List Addr} {rows:List (List V)} (h:Paired (fun q r=>H q=some (.tup r)) qs rows):Paired (fun q r=>H' q=some (.tup r)) qs rows:=by
 induction h with
 | nil=>exact .nil
 | cons e _ ih=>exact .cons (k _ _ (fun z=>n _ z _ e) e) ih
theorem xJ.keep {B:Hp} {C:Addr} {H H':Hp} {p:Addr} {zs:List Str} {ps:LSS} {S:List Addr} (h:xJ B C H p zs ps) (k:zC S H H') (hS:∀ b ∈ S,b ≠ p/\B b ≠ none/\∀ xs,H b ≠ some (.tup xs)):xJ B C H' p zs ps:=by
 obtain ⟨dx,nl,pl,nd,L,N,⟨b1,b2,b3,b4⟩,h1,h2,⟨qs,h3,h4⟩,h5⟩:=h
 have far:∀ {u:Addr},B u=none->u ∉ S:=fun {u} hb hm=>(hS u hm).2.1 hb
 exact ⟨dx,nl,pl,nd,L,N,⟨b1,b2,b3,b4⟩,k _ _ (fun hm=>(hS p hm).1 rfl) h1,k _ _ (far b1) h2,⟨qs,k _ _ (far b2) h3,vR k (fun b hb=>(hS b hb).2.2) h4⟩,
  ⟨k _ _ (far b3) h5.d,fun z hz=>k _ _ (far (b4 z hz)) (h5.l z hz),h5.p,h5.s⟩⟩
theorem xJ.on {B:Hp} {C:Addr} {H H':Hp} {p:Addr} {zs:List Str} {ps:LSS} (h:xJ B C H p zs ps) (k:zC [] H H'):xJ B C H' p zs ps:=h.keep k fun b hb=>by cases hb
theorem xJ.base {B B':Hp} {C:Addr} {H:Hp} {p:Addr} {zs:List Str} {ps:LSS} (h:xJ B C H p zs ps) (k:∀ u,B u=none->B' u=none):xJ B' C H p zs ps:=by
 obtain ⟨dx,nl,pl,nd,L,N,⟨b1,b2,b3,b4⟩,r⟩:=h
 exact ⟨dx,nl,pl,nd,L,N,⟨k _ b1,k _ b2,k _ b3,fun z hz=>k _ (b4 z hz)⟩,r⟩
abbrev lC:Stmt:=z4 (top 28) 0
abbrev qA:Stmt:=z4 (top 28) 1
section
variable {P:Program} {w:World} {K:W.Frag} {mg:Str->Option Value} {base:Heap} {C:Addr}
theorem zFJ:zI ["self","houses","ties"] ["self","houses","ties"] (zE lC):=scm
theorem bR:zI ["self"] ["self"] (zE qA):=scm
def j3 (C:Addr):Sp:=fun vs H Q _=>∃ (p dx a b:Addr) (zs:List Str) (ps:LSS),vs=[.ref p,.ref a,.ref b]/\H p=some (.ins C dx [])/\H a=some (.lst (zs.map V.str))/\Rows H b (ps.map xO)/\(∀ z ∈ zs,xY z)/\zs.Nodup/\1 <= zs.length/\zs.length < 60/\ps.length + 1=zs.length/\(∀ p ∈ ps,wK zs p)/\pR zs ps /\
 ∀ (zs':List Str) (ps':LSS) (H':Hp),zs'.Perm zs->Asc ltS zs'->ps'.Perm (ps.map vH)->Asc ltP ps'->xJ H C H' p zs' ps'->zC [p] H H'->Q .non H'
theorem zGC {fI:Addr} {fd:FuncData} (T:vV K C) (G:Fun K "__init__" "Tree.__init__" lC fI fd) (CAH:Cal P w K mg base CX0 3 "are_houses" ["thing"] bK) (CAT:Cal P w K mg base CX0 4 "are_ties" ["thing","houses"] bJ)
  (CTE:Cal P w K mg base CX0 1 "tied_to_each" ["houses","ties"] c9) (CST:Cal P w K mg base CX0 1 "steps_toward" ["near","goal"] nD) (b_sorted:Blt mg "sorted") (b_min:Blt mg "min") (b_max:Blt mg "max") (b_len:Blt mg "len") :
  vZ P w K mg base CX0 5 fI fd ["self","houses","ties"] (j3 C):=by
 refine G.ok zFJ (fun vs H Q E h=>by obtain ⟨p,dx,a,b,zs,ps,rfl,_⟩:=h;rfl) (fun cdv A outer s0 H vs Q E hr h=>?_)
 obtain ⟨p,dx,a,b,zs,ps,rfl,hp,ha,hb,gz,nd,l1,lz,lp,tz,cn,q⟩:=h
 have hr4:zO 4 _:=hr
 have hr3:zO 3 _:=hr.mono (by decide)
 have hr1:zO 1 _:=hr.mono (by decide)
 refine ⟨_,(zF (yQ (xM (xI (zM CAH hr3 (zA (pv 1) zD)))) (zH xA) zV)
   (zF (yQ (xM (xI (zM CAT hr4 (zA (pv 2) (zA (pv 1) zD))))) (zH xA) zV)
   (zF (yX (pv 0) (zP w6 b_sorted vP (zA (pv 1) zD)) rfl)
   (zF (yX (pv 0) (zP mO b_sorted vP (zA (vD (N:=["self","houses","ties"]) (sc:=zE lC) (ix:=[]) (by decide +kernel) (yG (pv 2)) (fun _ _ _ _=>yT) (fun _ _ _ _=>(wJ (zA (zP (d8 rfl) b_min zG4 (zA (pv 0) zD)) (zA (zP (d9 rfl) b_max zG5 (zA (pv 0) zD)) zD))))) zD)) rfl)
   (zF (yX (pv 0) (zM CTE hr1 (zA (zQ (pv 0) rfl) (zA (zQ (pv 0) rfl) zD))) rfl)
   (zH (yQ (zU sK (zP cB b_len y8 (zA (zM CST hr1 (zA (zQ (pv 0) rfl) (zA (yJ zT (zQ (pv 0) rfl) zK (fun _ _=>rfl)) zD))) zD)) (zP yD b_len y8 (zA (zQ (pv 0) rfl) zD)) (zW _)) (zH xA) zV))))))),?_⟩
 refine ⟨_,rfl,a,zs,rfl,ha,gz,nd,l1,by omega,fun H1 k1=>⟨_,rfl,ifF rfl ?_⟩⟩
 refine ⟨_,rfl,_,rfl,b,a,ps,zs,rfl,hb.keep k1,k1 _ _ (by simp) ha,gz,tz,lp,by omega,fun H2 k2=>⟨_,rfl,ifF rfl ?_⟩⟩
 have k02:=k1.trans k2
 have hp2:=k02 _ _ (by simp) hp
 have ha2:=k02 _ _ (by simp) ha
 have hb2:=hb.keep k02
 refine ⟨_,rfl,a,zs,rfl,ha2,by omega,fun nl zs' hnl pz sz=>?_⟩
 have pnl:p ≠ nl:=zG hp2 hnl
 refine ⟨_,rfl,p,C,dx,_,rfl,by rw [zJ pnl];exact hp2,T.cl,T.nN,by show 0 < 1000;decide,?_⟩
 generalize hH3:upd (upd H2 nl (.lst (zs'.map V.str))) p (.ins C dx (yL "names" (.ref nl) []))=H3
 have k3:zC [p] H H3:=by rw [<- hH3];exact ((k02.mono (by simp)).trans (zC.new hnl)).trans (zC.at (by simp))
 have hp3:H3 p=some (.ins C dx (yL "names" (.ref nl) [])):=by rw [<- hH3];exact zB
 have hn3:H3 nl=some (.lst (zs'.map V.str)):=by rw [<- hH3,zJ pnl.symm];exact zB
 have bnl:H nl=none:=k02.none (by simp) hnl
 obtain ⟨qs,hbl,hbq⟩:=hb
 have bp:b ≠ p:=fun e=>by rw [e,hp] at hbl;cases hbl
 have hbl3:=k3 _ _ (by simp [bp]) hbl
 have npT:∀ u ∈ [p],∀ xs,H u ≠ some (.tup xs):=fun u hu xs e=>by rw [zJ9.mp hu,hp] at e;cases e
 have hbq3:=vR k3 npT hbq
 have lq:=zS hbq
 rw [zJ6] at lq
 refine ⟨_,rfl,b,rfl,⟨_,.of hbl3⟩,fun acc hacc=>?_⟩
 have ba:b ≠ acc:=zG hbl3 hacc
 have pa:p ≠ acc:=zG hp3 hacc
 refine w4 (K:=K) (a:=b) (its:=qs.map V.ref) (by rw [zJ6,sizeLine_eq];omega) (fun i ys τ H4=>∃ (k:Option V) (ts:List Addr),τ=[k]/\ys=ts.map V.ref/\Paired (fun q r=>H4 q=some (.tup r)) ts (((ps.take i).map vH).map xO)/\zC [acc] H3 H4/\H4 acc=some (.lst ys)) ?_ ?_ ?_ ?_
 ·exact ⟨_,[],rfl,rfl,.nil,zC.at (by simp),zB⟩
 ·rintro i ys τ H4 ⟨k,ts,rfl,rfl,pt,kp,h4⟩
  refine ⟨h4,?_,.of (kp _ _ (by simp [ba]) hbl3)⟩
  have:=zS pt
  rw [zJ6] at *
  rw [this,zJ6,zKP];omega
 ·rintro i ys τ H4 x hx ⟨k,ts,rfl,rfl,pt,kp,h4⟩
  rw [zKC] at hx
  cases et:qs[i]? with
  | none=>rw [et] at hx;cases hx
  | some t=>
  rw [et] at hx
  have ex:V.ref t=x:=zKD hx
  subst ex
  obtain ⟨r,er,ht⟩:=uO hbq3 i t et
  rw [zKC] at er
  cases ep:ps[i]? with
  | none=>rw [ep] at er;cases er
  | some pr=>
  rw [ep] at er
  have er':xO pr=r:=zKD er
  subst er'
  have ta:t ≠ acc:=zG ht hacc
  have ht4:=kp _ _ (by simp [ta]) ht
  have tk:ps.take (i + 1)=ps.take i ++ [pr]:=by rw [List.take_add_one,ep];rfl
  refine ⟨_,rfl,t,pr.1,pr.2,rfl,ht4,_,rfl,t,pr.1,pr.2,rfl,ht4,by show 2 <= sizeLine;decide,fun t2 ht2=>?_⟩
  have k5:zC [] H4 (upd H4 t2 (.tup [.str (iK pr.1 pr.2),.str (iL pr.1 pr.2)])):=zC.new ht2
  refine ⟨k5 _ _ (by simp) h4,_,ts ++ [t2],rfl,by rw [zKI];rfl,?_,(kp.trans (k5.mono (by simp))).trans (zC.at (by simp)),zB⟩
  rw [tk,zKI,zKI]
  have a2:acc ≠ t2:=zG h4 ht2
  refine wQ (vR (S:=[acc]) ((k5.mono (by simp)).trans (zC.at (by simp))) (fun u hu xs e=>by rw [zJ9.mp hu,h4] at e;cases e) pt) ?_
  rw [zJ a2.symm]
  exact zB
 rintro ys τ H4 ⟨k,ts,rfl,rfl,pt,kp4,h4⟩
 rw [zJ6,lq,zK6] at pt
 have k34:zC [] H3 H4:=kp4.drop hacc
 refine ⟨acc,ts,ps.map vH,rfl,h4,pt,by rw [zJ6];omega,fun pl qs' ps' hpl pp sp hpr=>?_⟩
 have hp4:=k34 _ _ (by simp) hp3
 have ppl:p ≠ pl:=zG hp4 hpl
 refine ⟨_,rfl,p,C,dx,_,rfl,by rw [zJ ppl];exact hp4,T.cl,T.nP,by show 1 < 1000;decide,?_⟩
 rw [zD1]
 generalize hH5:upd (upd H4 pl (.lst (qs'.map V.ref))) p (.ins C dx (tf2 nl pl))=H5
 have k5:zC [p] H4 H5:=by rw [<- hH5];exact (zC.new hpl).trans (zC.at (by simp))
 have hp5:H5 p=some (.ins C dx (tf2 nl pl)):=by rw [<- hH5];exact zB
 have hn5:H5 nl=some (.lst (zs'.map V.str)):=k5 _ _ (by simp [pnl.symm]) (k34 _ _ (by simp) hn3)
 have hl5:H5 pl=some (.lst (qs'.map V.ref)):=by rw [<- hH5,zJ ppl.symm];exact zB
 have hq5:Paired (fun q r=>H5 q=some (.tup r)) qs' (ps'.map xO):=vR k5 (fun u hu xs e=>by rw [zJ9.mp hu,hp4] at e;cases e) hpr
 have k05:zC [p] H H5:=(k3.trans (k34.mono (by simp))).trans k5
 have bpl:H pl=none:=(k3.trans (k34.mono (by simp))).none (by simp [ppl.symm]) hpl
 have tz':∀ t ∈ ps',wK zs' t:=fun t ht=>by
  obtain ⟨u,hu,e⟩:=List.mem_map.mp (pp.mem_iff.mp ht)
  rw [<- e]
  obtain ⟨a,b,c⟩:=m4 (tz u hu)
  exact ⟨pz.mem_iff.mpr a,pz.mem_iff.mpr b,c⟩
 have lps':ps'.length < 60:=by rw [pp.length_eq,zJ6];omega
 have lzs':zs'.length=zs.length:=pz.length_eq
 have nd':zs'.Nodup:=pz.nodup_iff.mpr nd
 refine ⟨_,rfl,p,C,dx,_,_,rfl,hp5,T.cl,T.nN,rfl,_,rfl,p,C,dx,_,_,rfl,hp5,T.cl,T.nP,rfl,nl,pl,ps',zs',rfl,hn5,⟨qs',hl5,hq5⟩,nd',tz',lps',by omega,fun ndr L N H6 hnd hL na k6=>?_⟩
 have hp6:=k6 _ _ (by simp) hp5
 refine ⟨_,rfl,p,C,dx,_,rfl,hp6,T.cl,T.nR,by show 2 < 1000;decide,?_⟩
 rw [show yL "near" (.ref ndr) (tf2 nl pl)=tfl nl pl ndr from by rw [<- zD1,tput]]
 generalize hH7:upd H6 p (.ins C dx (tfl nl pl ndr))=H7
 have k7:zC [p] H6 H7:=by rw [<- hH7];exact zC.at (by simp)
 have hp7:H7 p=some (.ins C dx (tfl nl pl ndr)):=by rw [<- hH7];exact zB
 have k57:zC [p] H5 H7:=(k6.mono (by simp)).trans k7
 have k07:zC [p] H H7:=k05.trans k57
 have pnd:ndr ≠ p:=fun e=>by rw [e,hp5] at hnd;cases hnd
 have bnd:H ndr=none:=k05.none (by simp [pnd]) hnd
 have pL:∀ z ∈ zs',L z ≠ p:=fun z hz e=>by have:=hL z hz;rw [e,hp5] at this;cases this
 have bL:∀ z ∈ zs',H (L z)=none:=fun z hz=>k05.none (by simp [pL z hz]) (hL z hz)
 have na7:tT H7 ndr zs' ps' L N:=⟨k7 _ _ (by simp [pnd]) na.d,fun z hz=>k7 _ _ (by simp [pL z hz]) (na.l z hz),na.p,na.s⟩
 have hn7:=k57 _ _ (by simp [pnl.symm]) hn5
 have hl7:=k57 _ _ (by simp [ppl.symm]) hl5
 have hq7:Paired (fun q r=>H7 q=some (.tup r)) qs' (ps'.map xO):=vR k57 (fun u hu xs e=>by rw [zJ9.mp hu,hp5] at e;cases e) hq5
 obtain ⟨g,zs1,ez⟩:∃ g zs1,zs'=g :: zs1:=by
  cases e:zs' with
  | nil=>rw [e] at lzs';simp at lzs';omega
  | cons g zs1=>exact ⟨g,zs1,rfl⟩
 have hg:g ∈ zs':=by rw [ez];exact zKZ
 refine ⟨_,rfl,p,C,dx,_,_,rfl,hp7,T.cl,T.nR,rfl,_,rfl,p,C,dx,_,_,rfl,hp7,T.cl,T.nN,rfl,nl,_,_,.str g,rfl,rfl,hn7,?_,ndr,zs',ps',L,N,g,rfl,na7,by omega,hg,(fun z hz y hy=>qS tz' ((na.p z hz).mem_iff.mp hy)),fun sd ks nx H8 hsd led cl h8 k8=>?_⟩
 ·rw [ez];simp [atI,ixN]
 obtain ⟨_,ek⟩:=fD (oU cn pz pp) tz' nd' na.p led cl
 refine ⟨sd,_,rfl,h8,_,rfl,p,C,dx,_,_,rfl,k8 _ _ (by simp) hp7,T.cl,T.nN,rfl,_,_,rfl,.inl ⟨_,.of (k8 _ _ (by simp) hn7),rfl⟩,rfl,_,rfl,ifF ?_ ?_⟩
 ·rw [zA0,zJ6,ek];simp
 refine q zs' ps' H8 pz sz pp sp ?_ (k07.trans (k8.mono (by simp)))
 exact xJ.on ⟨dx,nl,pl,ndr,L,N,⟨bnl,bpl,bnd,bL⟩,hp7,hn7,⟨qs',hl7,hq7⟩,na7⟩ k8
def t0 (C:Addr):Sp:=fun vs H Q _=>∃ (p:Addr) (B:Hp) (zs:List Str) (ps:LSS),vs=[.ref p]/\xJ B C H p zs ps/\∀ l,H l=none->Q (.ref l) (upd H l (.lst (zs.map V.str)))
theorem aZ (T:vV K C) (G:yI K C "houses" "Tree.houses" qA ["self"]) (b_list:Blt mg "list"):z8 P w K mg base CX0 1 C "houses" ["self"] (t0 C):=by
 refine G.ok bR (fun vs H Q E h=>by obtain ⟨p,B,zs,ps,rfl,_⟩:=h;rfl) (fun f cdv A outer s0 H vs Q E hr h=>?_)
 obtain ⟨p,B,zs,ps,rfl,⟨dx,nl,pl,nd,L,N,_,h1,h2,h3,h4⟩,q⟩:=h
 refine ⟨_,(zH (zL (xE y6 rfl b_list.no wI (zA (zQ (pv 0) rfl) zD)))),?_⟩
 exact ⟨_,rfl,p,C,dx,_,_,rfl,h1,T.cl,T.nN,rfl,nl,_,rfl,.inl (.of h2),fun l hl=>q l hl⟩
end
def rB (zs:List Str) (ps:LSS):Prop:=∀ (j:Nat) (t:Str × Str),ps[j]?=some t->∃ (o:Nat) (a b:Str),o <= j/\zs[j + 1]?=some a/\zs[o]?=some b/\(t=(a,b) \/ t=(b,a))
theorem pG {zs:List Str} {ps:LSS} (h:rB zs ps) (hl:ps.length + 1=zs.length):pR zs ps:=by
 intro P z0 hz p0 each
 obtain ⟨c,hc⟩:∃ c,zs[0]?=some c:=⟨zs[0],zJ7 (by omega)⟩
 have all:∀ (n j:Nat) (a:Str),j <= n->zs[j]?=some a->(P a ↔ P c):=by
  intro n
  induction n with
  | zero=>
   intro j a hj ha
   have:j=0:=by omega
   subst this
   rw [ha] at hc;cases hc;exact Iff.rfl
  | succ n ih=>
   intro j a hj ha
   cases j with
   | zero=>exact ih 0 a (zKG _) ha
   | succ j=>
    have jl:j + 1 < zs.length:=(zJ8.mp ha).1
    have jp:j < ps.length:=by omega
    obtain ⟨o,a',b,ho,e1,e2,e3⟩:=h j _ (zJ7 jp)
    rw [ha] at e1;cases e1
    have eb:=ih o b (by omega) e2
    have et:=each _ (List.getElem_mem jp)
    rcases e3 with e3 | e3 <;> rw [e3] at et
    ·exact et.trans eb
    ·exact et.symm.trans eb
 intro z hz'
 obtain ⟨i,hi⟩:=List.getElem?_of_mem hz
 obtain ⟨j,hj⟩:=List.getElem?_of_mem hz'
 exact (all j j z (zKF _) hj).mpr ((all i i z0 (zKF _) hi).mp p0)
theorem tQ {zs:List Str} {ps:LSS} (h:rB zs ps) (nd:zs.Nodup):∀ t ∈ ps,wK zs t:=by
 intro t ht
 obtain ⟨j,hj⟩:=List.getElem?_of_mem ht
 obtain ⟨o,a,b,ho,e1,e2,e3⟩:=h j t hj
 have ne:a ≠ b:=fun e=>by
  subst e
  have:=(List.getElem?_inj (zJ8.mp e1).1 nd).mp (e1.trans e2.symm)
  omega
 have ma:=zKA e1
 have mb:=zKA e2
 rcases e3 with rfl | rfl
 ·exact ⟨ma,mb,ne⟩
 ·exact ⟨mb,ma,ne.symm⟩
theorem iS {zs:List Str} {ps:LSS} (h:rB zs ps) {t:Str × Str} {o:Nat} {a b:Str} (ho:o <= ps.length) (e1:zs[ps.length + 1]?=some a) (e2:zs[o]?=some b) (e3:t=(a,b) \/ t=(b,a)):rB zs (ps ++ [t]):=by
 intro j u hu
 by_cases jl:j < ps.length
 ·rw [zKU jl] at hu
  exact h j u hu
 ·rw [zKT (by omega)] at hu
  have j0:j - ps.length=0:=by
   cases e:j - ps.length with
   | zero=>rfl
   | succ k=>rw [e] at hu;simp at hu
  rw [j0] at hu
  have e:t=u:=by simpa using hu
  subst e
  have j':j=ps.length:=by omega
  subst j'
  exact ⟨o,a,b,ho,e1,e2,e3⟩
theorem pP {zs:List Str} {o:Nat} {b:Str} (h:zs[o]?=some b):atI (zs.map V.str) (o:Int)=some (.str b):=by
 have ol:o < zs.length:=(zJ8.mp h).1
 obtain ⟨v,e1,e2⟩:=mV (xs:=zs.map V.str) (i:=(o:Int)) (by omega) (by rw [zJ6];omega)
 rw [e1]
 rw [Int.toNat_natCast,zKC,h] at e2
 exact e2.symm
def Adj (ps:LSS) (x y:Str):Prop:=(x,y) ∈ ps \/ (y,x) ∈ ps
theorem Adj.symm {ps:LSS} {x y:Str} (h:Adj ps x y):Adj ps y x:=Or.symm h
inductive yR (ps:LSS):Str->Str->List Str->Prop
 | one (a:Str):yR ps a a [a]
 | cons {a b c:Str} {R:List Str}:Adj ps a c->yR ps c b R->a ∉ R->yR ps a b (a :: R)
theorem yR.hd {ps:LSS} {a b:Str} {R:List Str} (h:yR ps a b R):∃ R1,R=a :: R1:=by
 cases h with
 | one=>exact ⟨[],rfl⟩
 | cons=>exact ⟨_,rfl⟩
theorem yR.first {ps:LSS} {a b:Str} {R:List Str} (h:yR ps a b R):a ∈ R:=by
 obtain ⟨R1,e⟩:=h.hd
 rw [e];exact zKZ
theorem yR.last {ps:LSS} {a b:Str} {R:List Str} (h:yR ps a b R):b ∈ R:=by
 induction h with
 | one=>exact zKZ
 | cons _ _ _ ih=>exact zKJ _ ih
theorem yR.end {ps:LSS} {a b:Str} {R:List Str} (h:yR ps a b R):R.getLast?=some b:=by
 induction h with
 | one=>rfl
 | @cons a b c R _ w _ ih=>
  obtain ⟨R1,e⟩:=w.hd
  rw [e,List.getLast?_cons_cons,<- e]
  exact ih
theorem yR.nd {ps:LSS} {a b:Str} {R:List Str} (h:yR ps a b R):R.Nodup:=by
 induction h with
 | one=>exact List.nodup_cons.mpr ⟨by simp,List.nodup_nil⟩
 | cons _ _ n ih=>exact List.nodup_cons.mpr ⟨n,ih⟩
theorem yR.self {ps:LSS} {a:Str} {R:List Str} (h:yR ps a a R):R=[a]:=by
 cases h with
 | one=>rfl
 | cons _ w n=>exact absurd w.last n
theorem yR.snoc {ps:LSS} {a b c:Str} {R:List Str} (h:yR ps a b R) (e:Adj ps b c) (n:c ∉ R):yR ps a c (R ++ [c]):=by
 induction h with
 | one a=>
  refine .cons e (.one c) ?_
  intro hm
  exact n (by rw [zJ9.mp hm];exact zKZ)
 | @cons a b d R ad w na ih=>
  refine .cons ad (ih e fun hm=>n (zKJ _ hm)) ?_
  intro hm
  rcases zKN.mp hm with q | q
  ·exact na q
  ·exact n (by rw [zJ9.mp q];exact zKZ)
theorem yR.rev {ps:LSS} {a b:Str} {R:List Str} (h:yR ps a b R):yR ps b a R.reverse:=by
 induction h with
 | one a=>exact .one a
 | cons ad w n ih=>
  rw [List.reverse_cons]
  exact ih.snoc ad.symm (by simpa using n)
theorem yR.step {ps:LSS} {a b:Str} {R:List Str} (h:yR ps a b R):∀ (i:Nat) (x y:Str),R[i]?=some x->R[i + 1]?=some y->Adj ps x y:=by
 induction h with
 | one a=>intro i x y _ hy;simp at hy
 | @cons a b c R ad w n ih=>
  intro i x y hx hy
  cases i with
  | zero=>
   obtain ⟨R1,e⟩:=w.hd
   rw [e] at hy
   have ex:a=x:=by simpa using hx
   have ey:c=y:=by simpa using hy
   rw [<- ex,<- ey];exact ad
  | succ i=>exact ih i x y (by simpa using hx) (by simpa using hy)
theorem yR.map {ps qs:LSS} (f:∀ x y,Adj ps x y->Adj qs x y) {a b:Str} {R:List Str} (h:yR ps a b R):yR qs a b R:=by
 induction h with
 | one a=>exact .one a
 | cons ad w n ih=>exact .cons (f _ _ ad) ih n
theorem yR.within {zs:List Str} {ps:LSS} (tz:∀ t ∈ ps,wK zs t) {a b:Str} {R:List Str} (h:yR ps a b R) (ha:a ∈ zs):∀ x ∈ R,x ∈ zs:=by
 induction h with
 | one a=>intro x hx;rw [zJ9.mp hx];exact ha
 | cons ad w n ih=>
  intro x hx
  rcases List.mem_cons.mp hx with e | q
  ·rw [e];exact ha
  ·refine ih ?_ x q
   rcases ad with h | h
   ·exact (tz _ h).2.1
   ·exact (tz _ h).1
section leaf
variable {ps qs:LSS} {y p:Str}
theorem tU (hq:∀ u v,Adj qs u v->Adj ps u v \/ u=y \/ v=y) {a b:Str} {R:List Str} (h:yR qs a b R):y ∉ R->yR ps a b R:=by
 induction h with
 | one a=>intro _;exact .one a
 | @cons a b c R ad w n ih=>
  intro hy
  have ay:a ≠ y:=fun e=>hy (by rw [e];exact zKZ)
  have hyR:y ∉ R:=fun m=>hy (zKJ _ m)
  have cy:c ≠ y:=fun e=>hyR (e ▸ w.first)
  rcases hq _ _ ad with g | g | g
  ·exact .cons g (ih hyR) n
  ·exact absurd g ay
  ·exact absurd g cy
theorem pZ (ly:∀ v,Adj qs y v->v=p) {a b:Str} {R:List Str} (h:yR qs a b R):a ≠ y->b ≠ y->y ∉ R:=by
 induction h with
 | one a=>intro ha _ hm;exact ha (zJ9.mp hm).symm
 | @cons a b c R ad w n ih=>
  intro ha hb hm
  rcases List.mem_cons.mp hm with e | hm
  ·exact ha e.symm
  by_cases cy:c=y
  ·subst cy
   have ap:a=p:=ly a ad.symm
   cases w with
   | one=>exact hb rfl
   | cons ad2 w2 n2=>
    have e:=ly _ ad2
    subst e
    exact n (zKJ _ (ap ▸ w2.first))
  ·exact ih cy hb hm
theorem cI (hq:∀ u v,Adj qs u v->Adj ps u v \/ u=y \/ v=y) (ly:∀ v,Adj qs y v->v=p) (U:∀ a b R R',yR ps a b R->yR ps a b R'->R=R') (a b:Str) (R R':List Str) (h:yR qs a b R) (h':yR qs a b R'):R=R':=by
 have lead:∀ (b:Str) (R R':List Str),b ≠ y->yR qs y b R->yR qs y b R'->R=R':=by
  intro b R R' hb w w'
  cases w with
  | one=>exact absurd rfl hb
  | cons ad w n=>
   cases w' with
   | one=>exact absurd rfl hb
   | cons ad' w' n'=>
    have e:=ly _ ad
    have e':=ly _ ad'
    subst e
    subst e'
    rw [U _ _ _ _ (tU hq w n) (tU hq w' n')]
 by_cases ha:a=y
 ·by_cases hb:b=y
  ·subst ha hb
   rw [h.self,h'.self]
  ·subst ha
   exact lead b R R' hb h h'
 ·by_cases hb:b=y
  ·subst hb
   have:=lead a _ _ ha h.rev h'.rev
   have e:=congrArg List.reverse this
   rwa [List.reverse_reverse,List.reverse_reverse] at e
  ·exact U _ _ _ _ (tU hq h (pZ ly h ha hb)) (tU hq h' (pZ ly h' ha hb))
end leaf
theorem rP {zs:List Str} {ps:LSS} (gr:rB zs ps) (nd:zs.Nodup):∀ a b R R',yR ps a b R->yR ps a b R'->R=R':=by
 have all:∀ n,n <= ps.length->∀ a b R R',yR (ps.take n) a b R->yR (ps.take n) a b R'->R=R':=by
  intro n
  induction n with
  | zero=>
   intro _ a b R R' h h'
   have no:∀ {x y:Str},¬ Adj (ps.take 0) x y:=fun {x y} h=>by rcases h with h | h <;> simp at h
   cases h with
   | one=>exact h'.self.symm
   | cons ad _ _=>exact absurd ad no
  | succ n ih=>
   intro hn
   have nl:n < ps.length:=hn
   obtain ⟨o,y,p,ho,e1,e2,e3⟩:=gr n _ (zJ7 nl)
   have tk:ps.take (n + 1)=ps.take n ++ [ps[n]]:=by rw [List.take_add_one,zJ7 nl];rfl
   have far:∀ (j:Nat) (u v:Str),j < n->(ps[j]?=some (u,v))->u ≠ y/\v ≠ y:=by
    intro j u v hj hu
    obtain ⟨o',a,b,ho',f1,f2,f3⟩:=gr j _ hu
    have i1:∀ (k:Nat) (x:Str),k <= n->zs[k]?=some x->x ≠ y:=fun k x hk hx e=>by
     subst e
     have:=(List.getElem?_inj (zJ8.mp hx).1 nd).mp (hx.trans e1.symm)
     omega
    have a1:=i1 (j + 1) a (by omega) f1
    have b1:=i1 o' b (by omega) f2
    rcases f3 with f | f <;> cases f
    ·exact ⟨a1,b1⟩
    ·exact ⟨b1,a1⟩
   have far':∀ (u v:Str),(u,v) ∈ ps.take n->u ≠ y/\v ≠ y:=by
    intro u v hm
    obtain ⟨j,hj⟩:=List.getElem?_of_mem hm
    have jn:j < n:=by
     have:=(zJ8.mp hj).1
     rw [zKP] at this;omega
    rw [List.getElem?_take_of_lt jn] at hj
    exact far j u v jn hj
   have mem:∀ (u v:Str),(u,v) ∈ ps.take (n + 1)->(u,v) ∈ ps.take n \/ (u=y/\v=p) \/ (u=p/\v=y):=by
    intro u v hm
    rw [tk] at hm
    rcases zKN.mp hm with q | q
    ·exact .inl q
    ·have e:=zJ9.mp q
     rcases e3 with f | f <;> rw [f] at e <;> cases e
     ·exact .inr (.inl ⟨rfl,rfl⟩)
     ·exact .inr (.inr ⟨rfl,rfl⟩)
   have yp:∀ v,Adj (ps.take (n + 1)) y v->v=p:=by
    intro v h
    rcases h with h | h
    ·rcases mem _ _ h with q | ⟨_,q⟩ | ⟨q1,q2⟩
     ·exact absurd rfl (far' _ _ q).1
     ·exact q
     ·rw [q2,q1]
    ·rcases mem _ _ h with q | ⟨q1,q2⟩ | ⟨q1,_⟩
     ·exact absurd rfl (far' _ _ q).2
     ·rw [q1,q2]
     ·exact q1
   refine cI (y:=y) (p:=p) ?_ yp (ih (by omega))
   intro u v h
   rcases h with h | h
   ·rcases mem _ _ h with q | ⟨q,_⟩ | ⟨_,q⟩
    ·exact .inl (.inl q)
    ·exact .inr (.inl q)
    ·exact .inr (.inr q)
   ·rcases mem _ _ h with q | ⟨q,_⟩ | ⟨_,q⟩
    ·exact .inl (.inr q)
    ·exact .inr (.inr q)
    ·exact .inr (.inl q)
 have:=all ps.length (zKF _)
 rwa [zK6] at this
theorem zBL {ps:LSS} {x y:Str}:Adj (ps.map vH) x y ↔ Adj ps x y:=by
 have m:∀ {ps:LSS} {u v:Str},(u,v) ∈ ps.map vH->Adj ps u v:=fun {ps u v} h=>by
  obtain ⟨t,ht,e⟩:=List.mem_map.mp h
  rcases sM t with f | f
  ·rw [f] at e;rw [e] at ht;exact .inl ht
  ·rw [f] at e;cases e;exact .inr ht
 have m':∀ {ps:LSS} {u v:Str},(u,v) ∈ ps->Adj (ps.map vH) u v:=fun {ps u v} h=>by
  have hm:vH (u,v) ∈ ps.map vH:=List.mem_map.mpr ⟨(u,v),h,rfl⟩
  rcases sM (u,v) with f | f
  ·rw [f] at hm;exact .inl hm
  ·rw [f] at hm;exact .inr hm
 constructor
 ·rintro (h | h)
  ·exact m h
  ·exact (m h).symm
 ·rintro (h | h)
  ·exact m' h
  ·exact (m' h).symm
theorem zBK {ps qs:LSS} (h:ps.Perm qs) {x y:Str}:Adj ps x y ↔ Adj qs x y:=by
 unfold Adj
 rw [h.mem_iff,h.mem_iff]
theorem qD {ps:LSS} {z y:Str} (h:y ∈ yZ ps z):Adj ps z y:=by
 unfold yZ at h
 obtain ⟨t,ht,hy⟩:=List.mem_flatMap.mp h
 by_cases e1:t.1=z
 ·rw [if_pos e1] at hy
  have e:=zJ9.mp hy
  left;rw [e,<- e1];exact ht
 ·rw [if_neg e1] at hy
  by_cases e2:t.2=z
  ·rw [if_pos e2] at hy
   have e:=zJ9.mp hy
   right;rw [e,<- e2];exact ht
  ·rw [if_neg e2] at hy;cases hy
theorem qK {zs:List Str} {ps:LSS} (tz:∀ t ∈ ps,wK zs t) {z y:Str} (h:Adj ps z y):y ∈ yZ ps z:=by
 rcases h with h | h
 ·exact zEG h
 ·exact zEF h (tz _ h).2.2
abbrev bX:Stmt:=z4 (top 28) 6
abbrev nX:Stmt:=z4 (top 28) 3
abbrev gG:Stmt:=z4 (top 28) 4
theorem rO (nl pl nd:Addr):(tfl nl pl nd).lookup ("check_house" : Str)=none:=rfl
theorem zD2 (nl pl nd:Addr):(tfl nl pl nd).lookup ("neighbours" : Str)=none:=rfl
theorem zHF (nl pl nd:Addr):(tfl nl pl nd).lookup ("road" : Str)=none:=rfl
theorem mU (zs:List Str) (z:Str):atI ((zs ++ [z]).map V.str) (-1)=some (.str z):=by
 unfold atI ixN
 rw [zJ6,zKO]
 rw [if_neg (by decide),if_pos (by show -(((zs.length + 1:Nat)):Int) <= -1;omega)]
 show ((zs ++ [z]).map V.str)[((-1:Int) + ((zs.length + 1:Nat):Int)).toNat]?=_
 rw [show ((-1:Int) + ((zs.length + 1:Nat):Int)).toNat=zs.length by omega,zKC,zKT (zKF _),Nat.sub_self]
 rfl
section
variable {P:Program} {w:World} {K:W.Frag} {mg:Str->Option Value} {base:Heap} {C:Addr}
theorem zED:zI ["self","house"] ["self","house"] (zE bX):=scm
theorem zB3:zI ["self","house"] ["self","house"] (zE nX):=scm
theorem j9:zI ["self","one","other","steps","passed"] ["self","one","other"] (zE gG):=scm
def m8 (C:Addr):Sp:=fun vs H Q _=>∃ (p:Addr) (z:Str) (B:Hp) (zs:List Str) (ps:LSS),vs=[.ref p,.str z]/\xJ B C H p zs ps/\xY z/\z ∈ zs/\∀ H',zC [] H H'->Q .non H'
theorem zJE (T:vV K C) (G:yI K C "check_house" "Tree.check_house" bX ["self","house"]) (CO:Cal P w K mg base CX0 2 "is_one_of" ["thing","houses"] rY):z8 P w K mg base CX0 3 C "check_house" ["self","house"] (m8 C):=by
 refine G.ok zED (fun vs H Q E h=>by obtain ⟨p,z,B,zs,ps,rfl,_⟩:=h;rfl) (fun f cdv A outer s0 H vs Q E hr h=>?_)
 obtain ⟨p,z,B,zs,ps,rfl,⟨dx,nl,pl,nd,L,N,_,h1,h2,h3,h4⟩,gz,hz,q⟩:=h
 have hr2:zO 2 _:=hr
 refine ⟨_,(zH (yQ (xM (xI (zM CO hr2 (zA (pv 1) (zA (zQ (pv 0) rfl) zD))))) (zH xA) zV)),?_⟩
 exact ⟨_,rfl,_,rfl,p,C,dx,_,_,rfl,h1,T.cl,T.nN,rfl,z,nl,zs,rfl,h2,gz,hz,fun H1 k1=>⟨_,rfl,ifF rfl (q H1 k1)⟩⟩
def nE (C:Addr):Sp:=fun vs H Q _=>∃ (p:Addr) (z:Str) (B:Hp) (zs:List Str) (ps:LSS),vs=[.ref p,.str z]/\xJ B C H p zs ps/\xY z/\z ∈ zs/\∀ (l:Addr) (ys:List Str) (H':Hp),H l=none->ys.Perm (yZ ps z)->Asc ltS ys->H' l=some (.lst (ys.map V.str))->zC [] H H'->Q (.ref l) H'
theorem zCY (T:vV K C) (G:yI K C "neighbours" "Tree.neighbours" nX ["self","house"]) (MC:z8 P w K mg base CX0 3 C "check_house" ["self","house"] (m8 C)) (b_list:Blt mg "list"):z8 P w K mg base CX0 4 C "neighbours" ["self","house"] (nE C):=by
 refine G.ok zB3 (fun vs H Q E h=>by obtain ⟨p,z,B,zs,ps,rfl,_⟩:=h;rfl) (fun f cdv A outer s0 H vs Q E hr h=>?_)
 obtain ⟨p,z,B,zs,ps,rfl,tr,gz,hz,q⟩:=h
 have hr3:zO 3 _:=hr
 have hu:=uT hr
 obtain ⟨dx,nl,pl,nd,L,N,_,h1,h2,h3,h4⟩:=id tr
 refine ⟨_,(zF (z9 (yY MC T.cl hr3 (pv 0) (zA (pv 1) zD)))
   (zH (zL (xE y6 rfl b_list.no wI (zA (uC hu (zQ (pv 0) rfl) (pv 1) (fun _ _=>rfl)) zD))))),?_⟩
 refine ⟨_,rfl,p,dx,_,rfl,h1,rO _ _ _,_,rfl,p,z,B,zs,ps,rfl,tr,gz,hz,fun H1 k1=>?_⟩
 refine ⟨_,rfl,p,C,dx,_,_,rfl,k1 _ _ (by simp) h1,T.cl,T.nR,rfl,_,rfl,nd,_,rfl,by have y:=vX.k (k:=Sum.inr z) (k1 _ _ (by simp) h4.d);rw [tL hz] at y;exact y,L z,_,rfl,.inl (.of (k1 _ _ (by simp) (h4.l z hz))),fun l hl=>?_⟩
 exact q l (N z) _ (k1.none (by simp) hl) (h4.p z hz) (h4.s z hz) zB (k1.trans (zC.new hl))
def bB (C:Addr):Sp:=fun vs H Q _=>∃ (p:Addr) (a b:Str) (B:Hp) (zs:List Str) (ps:LSS),vs=[.ref p,.str a,.str b]/\xJ B C H p zs ps/\xY a/\xY b/\a ∈ zs/\b ∈ zs/\zs.Nodup/\zs.length < 60/\(∀ t ∈ ps,wK zs t)/\pR zs ps /\
 ∀ (l:Addr) (R:List Str) (H':Hp),H l=none->yR ps a b R->H' l=some (.lst (R.map V.str))->zC [] H H'->Q (.ref l) H'
theorem zF7 (T:vV K C) (G:yI K C "road" "Tree.road" gG ["self","one","other"]) (MC:z8 P w K mg base CX0 3 C "check_house" ["self","house"] (m8 C)) (CST:Cal P w K mg base CX0 1 "steps_toward" ["near","goal"] nD):z8 P w K mg base CX0 4 C "road" ["self","one","other"] (bB C):=by
 refine G.ok j9 (fun vs H Q E h=>by obtain ⟨p,a,b,B,zs,ps,rfl,_⟩:=h;rfl) (fun f cdv A outer s0 H vs Q E hr h=>?_)
 obtain ⟨p,a,b,B,zs,ps,rfl,tr,ga,gb,ha,hb,nd,lz,tz,cn,q⟩:=h
 have hr3:zO 3 _:=hr
 have hr1:zO 1 _:=hr.mono (by decide)
 have hu:=uT hr
 obtain ⟨dx,nl,pl,ndr,L,N,_,h1,h2,h3,h4⟩:=id tr
 refine ⟨_,(zF (z9 (yY MC T.cl hr3 (pv 0) (zA (pv 1) zD)))
   (zF (z9 (yY MC T.cl hr3 (pv 0) (zA (pv 2) zD)))
   (zF (z5 (i:=3) j9.nd rfl (Or.inl rfl) (zM CST hr1 (zA (zQ (pv 0) rfl) (zA (pv 2) zD))))
   (zF (z5 (i:=4) j9.nd rfl (Or.inl rfl) (zX (zA (pv 1) zD)))
   (zF (qU PassesOwn.never (zU sK (yJ zT (pv 4) (lO qM zK) (fun _ _=>rfl)) (pv 2) (zW _)) (zH (z9 (uW F.plainAttrs_list F.slot_list_append F.type_list_append wG (pv 4) (zA (uC hu (pv 3) (yJ zT (pv 4) (lO qM zK) (fun _ _=>rfl)) (fun _ _=>rfl)) zD)))))
   (zH (zL (pv 4)))))))),?_⟩
 refine ⟨_,rfl,p,dx,_,rfl,h1,rO _ _ _,_,rfl,p,a,B,zs,ps,rfl,tr,ga,ha,fun H1 k1=>?_⟩
 refine ⟨_,rfl,p,dx,_,rfl,k1 _ _ (by simp) h1,rO _ _ _,_,rfl,p,b,B,zs,ps,rfl,tr.on k1,gb,hb,fun H2 k2=>?_⟩
 have k02:=k1.trans k2
 refine ⟨_,rfl,p,C,dx,_,_,rfl,k02 _ _ (by simp) h1,T.cl,T.nR,rfl,_,rfl,ndr,zs,ps,L,N,b,rfl,h4.keep k02,lz,hb,(fun z hz y hy=>qS tz ((h4.p z hz).mem_iff.mp hy)),fun sd ks nx H3 hsd led cl hs3 k3=>?_⟩
 obtain ⟨all,lk⟩:=fD cn tz nd h4.p led cl
 have k03:=k02.trans k3
 refine ⟨_,rfl,by show 1 <= sizeLine;decide,fun l hl=>?_⟩
 have sl:sd ≠ l:=zG hs3 hl
 obtain ⟨j0,hj0⟩:=List.getElem?_of_mem (all a ha)
 have fresh:∀ (j:Nat) (c:Str),ks[j]?=some c->c ∉ ks.take j:=fun j c hj hm=>by
  obtain ⟨i,hi⟩:=List.getElem?_of_mem hm
  have il:i < j:=by have:=(zJ8.mp hi).1;rw [zKP] at this;omega
  rw [List.getElem?_take_of_lt il] at hi
  have:=(List.getElem?_inj (zJ8.mp hi).1 led.nd).mp (hi.trans hj.symm)
  omega
 refine ⟨fun m σ H4=>∃ (R:List Str) (c:Str),σ=[some (.ref p),some (.str a),some (.str b),some (.ref sd),some (.ref l)]/\yR ps a c (R ++ [c])/\ks[m]?=some c/\(∀ x ∈ R ++ [c],x ∉ ks.take m)/\H4 l=some (.lst ((R ++ [c]).map V.str))/\zC [l] H3 H4,⟨j0,[],a,rfl,.one a,hj0,(fun x hx=>by rw [zJ9.mp hx];exact fresh j0 a hj0),zB,zC.at (by simp)⟩,?_⟩
 rintro m σ H4 ⟨R,c,rfl,wk,hm,far,hl4,k4⟩
 refine ⟨_,rfl,_,rfl,l,_,-1,_,rfl,rfl,hl4,mU R c,_,rfl,rfl,_,rfl,?_⟩
 have hs4:=k4 _ _ (by simp [sl]) hs3
 by_cases e:c=b
 ·subst e
  refine ifF (by simp) ⟨_,rfl,?_⟩
  exact q l _ H4 (k03.none (by simp) hl) wk hl4 (k03.under k4 (fun u hu=>by rw [zJ9.mp hu];exact k03.none (by simp) hl))
 refine ifT (by simp [e]) ?_
 have hc:c ∈ ks:=zKA hm
 obtain ⟨o1,o2⟩:=led.o m c hm e
 obtain ⟨m',hm'⟩:=List.getElem?_of_mem o1
 have ml:m' < m:=by have:=(zJ8.mp hm').1;rw [zKP] at this;omega
 rw [List.getElem?_take_of_lt ml] at hm'
 have nz:nx c ∈ zs:=led.z _ (zKA hm')
 have lR:(R ++ [c]).length <= zs.length:=wZ wk.nd (wk.within tz ha)
 refine ⟨fun σ' H'=>∃ m',m' < m/\∃ (R:List Str) (c:Str),σ'=[some (.ref p),some (.str a),some (.str b),some (.ref sd),some (.ref l)]/\yR ps a c (R ++ [c])/\ks[m']?=some c/\(∀ x ∈ R ++ [c],x ∉ ks.take m')/\H' l=some (.lst ((R ++ [c]).map V.str))/\zC [l] H3 H',fun _ _ h=>h,?_⟩
 refine ⟨_,rfl,Or.inl ⟨rfl,_,.of hl4⟩,_,rfl,_,rfl,_,rfl,l,_,-1,_,rfl,rfl,hl4,mU R c,sd,_,rfl,by have y:=vX.k (k:=Sum.inr c) hs4;rw [tL hc] at y;exact y,l,_,_,rfl,rfl,hl4,by rw [zJ6,sizeLine_eq];omega,?_⟩
 have es:stp b nx c=.str (nx c):=by unfold stp;rw [if_neg e]
 rw [es]
 refine ⟨m',ml,R ++ [c],nx c,rfl,wk.snoc ?_ ?_,hm',?_,by rw [zB];simp,k4.trans (zC.at (by simp))⟩
 ·exact (qD ((h4.p _ nz).mem_iff.mp o2)).symm
 ·exact fun hx=>far _ hx o1
 ·intro x hx hxm
  have sub:x ∈ ks.take m:=by
   rw [show ks.take m'=(ks.take m).take m' from by rw [List.take_take,Nat.min_eq_left (by omega)]] at hxm
   exact List.mem_of_mem_take hxm
  rcases zKN.mp hx with g | g
  ·exact far x g sub
  ·rw [zJ9.mp g] at hxm
   exact fresh m' _ hm' hxm
end
def vO (K:W.Frag) (H:Hp) (zs:List Str) (x:V):Prop:=(∃ T,yS K H x T)/\(∀ z,x=.str z->z.length <= 1000)/\∀ z ∈ zs,x ≠ .str z
def mB (x:V) (zs:List Str):Bool:=uJ x && inV x (zs.map V.str)
theorem zCU {x:V} {zs:List Str} (h:∀ z ∈ zs,x ≠ .str z):mB x zs=false:=by
 unfold mB
 cases x with
 | str y=>
  have e:inV (.str y) (zs.map V.str)=false:=by
   unfold inV
   rw [List.any_map,List.any_eq_false]
   intro z hz
   show ¬ ((z == y)=true)
   intro e
   exact h z hz (by rw [eq_of_beq e])
  rw [e,Bool.and_false]
 | _=>rfl
section
variable {P:Program} {w:World} {K:W.Frag} {mg:Str->Option Value} {base:Heap} {C:Addr}
def bC (K:W.Frag):Sp:=fun vs H Q _=>∃ (x:V) (T:String) (a:Addr) (zs:List Str),vs=[x,.ref a]/\yS K H x T/\(∀ z,x=.str z->z.length <= 1000)/\H a=some (.lst (zs.map V.str))/\∀ H',zC [] H H'->Q (.bl (mB x zs)) H'
theorem zF8 (G:yB K mg "is_one_of" qP ["thing","houses"]) (CI:Cal P w K mg base CX0 1 "is_name" ["thing"] (tM K)):Cal P w K mg base CX0 2 "is_one_of" ["thing","houses"] (bC K):=by
 refine G.ok gE (fun vs H Q E h=>by obtain ⟨x,T,a,zs,rfl,_⟩:=h;rfl) (fun f cdv A outer s H vs Q E hr h=>?_)
 obtain ⟨x,T,a,zs,rfl,pt,sz,ha,q⟩:=h
 have hr1:zO 1 _:=hr
 refine ⟨_,(zH (zL (vI (zM CI hr1 (zA (pv 0) zD)) (uI (xW rG (pv 0) (pv 1) (by with_unfolding_all rfl)))))),?_⟩
 refine ⟨_,rfl,x,T,rfl,pt,sz,fun H1 k1=>⟨_,rfl,?_⟩⟩
 cases e:uJ x with
 | false=>
  have:mB x zs=false:=by unfold mB;rw [e];rfl
  rw [this] at q
  exact ifF rfl (q H1 k1)
 | true=>
  cases x with
  | str z=>
   have:mB (.str z) zs=inV (.str z) (zs.map V.str):=by unfold mB;rw [e,Bool.true_and]
   rw [this] at q
   exact ifT rfl ⟨_,rfl,_,rfl,a,_,rfl,.inl (.of (k1 _ _ (by simp) ha)),rfl,tF zs,q H1 k1⟩
  | _=>cases e
def bG (K:W.Frag) (C CH:Addr):Sp:=fun vs H Q E=>∃ (p:Addr) (x:V) (B:Hp) (zs:List Str) (ps:LSS),vs=[.ref p,x]/\xJ B C H p zs ps/\((∃ z,x=.str z/\xY z/\z ∈ zs/\∀ H',zC [] H H'->Q .non H') \/ (vO K H zs x/\∀ H',zC [] H H'->E (.ref CH) none H'))
theorem zGD {CH:Addr} (T:vV K C) (G:yI K C "check_house" "Tree.check_house" bX ["self","house"]) (CO2:Cal P w K mg base CX0 2 "is_one_of" ["thing","houses"] (bC K)) (exH:zBP K mg "NoHouse" CH):z8 P w K mg base (CXE P w) 3 C "check_house" ["self","house"] (bG K C CH):=by
 refine G.okX zED (fun vs H Q E h=>by obtain ⟨p,x,B,zs,ps,rfl,_⟩:=h;rfl) (fun f cdv A outer s0 H vs Q E hr h=>?_)
 obtain ⟨p,x,B,zs,ps,rfl,⟨dx,nl,pl,nd,L,N,_,h1,h2,h3,h4⟩,h⟩:=h
 have hr2:zO 2 _:=hr.mono (by decide)
 refine ⟨_,(zH (yQ (xM (xI (zM CO2 hr2 (zA (pv 1) (zA (zQ (pv 0) rfl) zD))))) (zH (lJ (qT hr) exH)) zV)),?_⟩
 rcases h with ⟨z,rfl,gz,hz,q⟩ | ⟨⟨⟨Ty,pt⟩,sz,bad⟩,q⟩
 ·refine ⟨_,rfl,_,rfl,p,C,dx,_,_,rfl,h1,T.cl,T.nN,rfl,.str z,"str",nl,zs,rfl,.str z,(fun y e=>by cases e;exact zKH gz.2 (by decide)),h2,fun H1 k1=>⟨_,rfl,ifF ?_ (q H1 k1)⟩⟩
  have e:mB (.str z) zs=true:=by
   unfold mB
   have e1:uJ (.str z)=true:=gz.1
   have e2:inV (.str z) (zs.map V.str)=true:=by
    unfold inV
    rw [List.any_map,List.any_eq_true]
    exact ⟨z,hz,by show (z == z)=true;simp⟩
   rw [e1,e2];rfl
  rw [e];rfl
 ·refine ⟨_,rfl,_,rfl,p,C,dx,_,_,rfl,h1,T.cl,T.nN,rfl,x,Ty,nl,zs,rfl,pt,sz,h2,fun H1 k1=>⟨_,rfl,ifT ?_ (q H1 k1)⟩⟩
  rw [zCU bad];rfl
theorem qW {H H':Hp} {x:V} {T:String} (h:yS K H x T) (k:zC [] H H'):yS K H' x T:=by
 cases h with
 | non=>exact .non
 | bl y=>exact .bl y
 | int i=>exact .int i
 | str y=>exact .str y
 | lst e=>exact .lst (k _ _ (by simp) e)
 | tup e=>exact .tup (k _ _ (by simp) e)
 | dK e=>exact .dK (k _ _ (by simp) e)
theorem vO.on {H H':Hp} {zs:List Str} {x:V} (h:vO K H zs x) (k:zC [] H H'):vO K H' zs x:=
 let ⟨⟨T,a⟩,b,c⟩:=h
 ⟨⟨T,qW a k⟩,b,c⟩
end
abbrev gJ:Stmt:=top 30
abbrev sSI:Stmt:=z4 (top 32) 0
abbrev nZ:Stmt:=z4 (top 32) 1
abbrev zB7:Stmt:=z4 (top 32) 2
abbrev r9:Stmt:=z4 (top 32) 3
abbrev zB8:Stmt:=z4 (top 32) 4
abbrev gF:Stmt:=z4 (top 32) 10
abbrev gI:Stmt:=z4 (top 32) 15
abbrev nU:Stmt:=z4 (top 32) 16
def xU (a:V) (wl:Addr) (h:V) (k:Bool):List (Str × V):=[("pointer",a),("waiting",.ref wl),("holder",h),("asked",.bl k)]
theorem n1:¬ (("pointer" : Str)="holder"):=by decide +kernel
theorem n2:¬ (("waiting" : Str)="holder"):=by decide +kernel
theorem n3:¬ (("pointer" : Str)="asked"):=by decide +kernel
theorem n4:¬ (("waiting" : Str)="asked"):=by decide +kernel
theorem n5:¬ (("holder" : Str)="asked"):=by decide +kernel
theorem n6:¬ (("pointer" : Str)="waiting"):=by decide +kernel
theorem zIZ (a b:V) (wl:Addr) (h:V) (k:Bool):yL "pointer" b (xU a wl h k)=xU b wl h k:=by
 unfold xU;rw [yL,if_pos rfl]
theorem zEJ (a:V) (wl:Addr) (h g:V) (k:Bool):yL "holder" g (xU a wl h k)=xU a wl g k:=by
 unfold xU;rw [yL,if_neg n1,yL,if_neg n2,yL,if_pos rfl]
theorem aD (a:V) (wl:Addr) (h:V) (k j:Bool):yL "asked" (.bl j) (xU a wl h k)=xU a wl h j:=by
 unfold xU;rw [yL,if_neg n3,yL,if_neg n4,yL,if_neg n5,yL,if_pos rfl]
theorem zDF (a:V) (wl:Addr) (h:V) (k:Bool):(xU a wl h k).lookup ("pointer" : Str)=some a:=rfl
theorem jH (a:V) (wl:Addr) (h:V) (k:Bool):(xU a wl h k).lookup ("waiting" : Str)=some (.ref wl):=rfl
theorem dR (a:V) (wl:Addr) (h:V) (k:Bool):(xU a wl h k).lookup ("holder" : Str)=some h:=rfl
theorem zGW (a:V) (wl:Addr) (h:V) (k:Bool):(xU a wl h k).lookup ("asked" : Str)=some (.bl k):=rfl
def xR:Option Str->V
 | none=>.non
 | some z=>.str z
structure vA (K:W.Frag) (C:Addr):Prop where
 cl:Cls K C
 nP:xC K C "pointer"
 nW:xC K C "waiting"
 nH:xC K C "holder"
 nA:xC K C "asked"
structure SS where
 ptr:Option Str
 row:LSS
 hold:Option Str
 asked:Bool
def uU (r:Str × Str):List V:=[.str r.1,.str r.2]
structure yF (C:Addr) (H:Hp) (p wl:Addr) (s:SS):Prop where
 ob:∃ dx,H p=some (.ins C dx (xU (xR s.ptr) wl (xR s.hold) s.asked))
 rw:Rows H wl (s.row.map uU)
 len:s.row.length <= 1000
theorem f9 (l:LSS):∀ r ∈ l.map uU,r.all wE=true:=fun r hr=>by
 obtain ⟨x,_,rfl⟩:=List.mem_map.mp hr
 rfl
theorem yF.ne {C:Addr} {H:Hp} {p wl:Addr} {s:SS} (S:yF C H p wl s):p ≠ wl:=by
 obtain ⟨dx,h⟩:=S.ob
 obtain ⟨ps,h2,_⟩:=S.rw
 exact sR h h2 (by intro z;cases z)
theorem yF.keep {C:Addr} {H H':Hp} {p wl:Addr} {s:SS} (S:yF C H p wl s) (k:zC [] H H'):yF C H' p wl s:=by
 obtain ⟨⟨dx,h⟩,r,l⟩:=S
 exact ⟨⟨dx,k _ _ (by simp) h⟩,r.keep k,l⟩
def vQ (s:SS):SS × List V:=match s.row with
 | []=>(s,[])
 | (k,n) :: rest=>if k="asker" then ({ s with row:=rest,hold:=some n },[.str "given",.str n])
  else ({ s with ptr:=some n,row:=rest,asked:=!rest.isEmpty },[.str "right",.str n,.bl (!rest.isEmpty)])
def vT (s:SS):SS × List (List V):=
 if s.row.isEmpty then (s,[]) else
 match s.ptr with
 | none=>match s.hold with
  | none=>((vQ s).1,[(vQ s).2])
  | some _=>(s,[])
 | some q=>if s.asked then (s,[]) else ({ s with asked:=true },[[.str "ask",.str q]])
theorem yO {S:List Addr} {H H':Hp} (k:zC S H H') (n:∀ b ∈ S,∀ xs,H b ≠ some (.tup xs)) {ps:List Addr} {rows:List (List V)} (h:Paired (fun q r=>H q=some (.tup r)) ps rows):Paired (fun q r=>H' q=some (.tup r)) ps rows:=by
 induction h with
 | nil=>exact .nil
 | cons e _ ih=>exact .cons (k _ _ (fun z=>n _ z _ e) e) ih
theorem mC {C dx p wl:Addr} {H:Hp} {fs:List (Str × V)} {ys:List V} (h1:H p=some (.ins C dx fs)) (h2:H wl=some (.lst ys)):∀ b ∈ [p,wl],∀ xs,H b ≠ some (.tup xs):=fun b hb xs z=>by
 simp only [List.mem_cons,zK0,or_false] at hb
 rcases hb with rfl | rfl
 ·rw [h1] at z;cases z
 ·rw [h2] at z;cases z
theorem zIA (n:Nat):seqIndex? 0 (n + 1)=some 0:=by
 unfold seqIndex?
 simp
section
variable {P:Program} {w:World} {K:W.Frag} {mg:Str->Option Value} {base:Heap} {C:Addr}
theorem rZ:zI ["self","kind","name","back"] ["self"] (zE nU):=scm
def gB (C:Addr):Sp:=fun vs H Q _=>∃ (p wl:Addr) (s:SS),vs=[.ref p]/\yF C H p wl s/\s.row ≠ [] /\
 ∀ (r:Addr) (H':Hp),yF C H' p wl (vQ s).1->H' r=some (.tup (vQ s).2)->H r=none->zC [p,wl] H H'->Q (.ref r) H'
theorem zCW (T:vA K C) (G:yI K C "serve_first" "Seat.serve_first" nU ["self"]) (bL:Blt mg "len"):z8 P w K mg base CX0 1 C "serve_first" ["self"] (gB C):=by
 refine G.ok rZ (fun vs H Q E h=>by obtain ⟨p,wl,s,rfl,_⟩:=h;rfl) (fun f cdv A outer s0 H vs Q E hr h=>?_)
 obtain ⟨p,wl,s,rfl,S,hne,q⟩:=h
 refine ⟨_,(zF (qV (uW F.plainAttrs_list F.slot_list_pop F.type_list_pop lW (zQ (pv 0) rfl) (zA zK zD)) (uH rfl (yH (zZ (i:=1) rZ.nd rfl (Or.inl rfl)) (yH (zZ (i:=2) rZ.nd rfl (Or.inl rfl)) vE))))
   (zF (yQ (zU uY (pv 1) xD (zW _)) (zF (yX (pv 0) (pv 2) rfl)
   (zH (zL (wJ (zA xD (zA (pv 2) zD)))))) zV)
   (zF (z5 (i:=3) rZ.nd rfl (Or.inl rfl) (xW aW (zP yD bL y8 (zA (zQ (pv 0) rfl) zD)) zK (zW _)))
   (zF (yX (pv 0) (pv 2) rfl)
   (zF (yX (pv 0) (pv 3) rfl)
   (zH (zL (wJ (zA xD (zA (pv 2) (zA (pv 3) zD))))))))))),?_⟩
 have npw:=S.ne
 obtain ⟨⟨dx,hob⟩,⟨ps,hwl,hpr⟩,hlen⟩:=S
 obtain ⟨ptr,row,hold,asked⟩:=s
 dsimp only at *
 cases row with
 | nil=>exact absurd rfl hne
 | cons kn rest=>
  obtain ⟨k,n⟩:=kn
  cases hpr with
  | @cons t _ ps' _ ht hpr=>
  refine ⟨_,rfl,p,C,dx,_,_,rfl,hob,T.cl,T.nW,jH _ _ _ _,.inl ⟨rfl,_,.of hwl⟩,wl,_,0,0,.ref t,rfl,rfl,hwl,by decide,by decide,zIA _,rfl,?_⟩
  rw [show (List.map V.ref (t :: ps')).eraseIdx 0=ps'.map V.ref from rfl]
  have ntw:t ≠ wl:=sR ht hwl (by intro z;cases z)
  have lps:=zS hpr
  rw [zJ6] at lps
  have hl1:rest.length + 1 <= 1000:=hlen
  have hp1:∀ o,upd H wl o p=some (.ins C dx (xU (xR ptr) wl (xR hold) asked)):=fun o=>by rw [zJ npw];exact hob
  refine ⟨t,_,rfl,.of (by rw [zJ ntw];exact ht),rfl,_,_,rfl,_,_,rfl,rfl,?_⟩
  refine ⟨_,rfl,rfl,_,rfl,?_⟩
  refine zAO (fun hk=>?_) (fun hk=>?_)
  ·have hk':k="asker":=by have:=of_decide_eq_true hk;injection this
   refine ⟨_,rfl,_,rfl,p,C,dx,_,rfl,hp1 _,T.cl,T.nH,by show 4 < 1000;decide,_,rfl,by show 2 <= sizeLine;decide,fun r hr=>?_⟩
   rw [zEJ] at hr ⊢
   obtain ⟨hr1,rp⟩:=xZ hr
   obtain ⟨hr2,rw_⟩:=xZ hr1
   have kk:zC [p,wl] H (upd (upd (upd H wl (.lst (ps'.map V.ref))) p (.ins C dx (xU (xR ptr) wl (.str n) asked))) r (.tup [.str "given",.str n])):=((zC.at (by simp)).trans (zC.at (by simp))).trans (zC.new hr)
   have es:vQ { ptr:=ptr,row:=(k,n) :: rest,hold:=hold,asked:=asked }=({ ptr:=ptr,row:=rest,hold:=some n,asked:=asked },[.str "given",.str n]):=by
    unfold vQ;simp only [hk',if_true]
   rw [es] at q
   refine q r _ ⟨⟨dx,?_⟩,⟨ps',?_,yO kk (mC hob hwl) hpr⟩,?_⟩ zB hr2 kk
   ·rw [zJ (Ne.symm rp),zB];rfl
   ·rw [zJ (Ne.symm rw_),zJ (Ne.symm npw),zB]
   ·show rest.length <= 1000;omega
  ·have hk':¬ k="asker":=fun z=>hk (by rw [z];exact zKL rfl)
   refine ⟨_,rfl,p,C,dx,_,_,rfl,hp1 _,T.cl,T.nW,jH _ _ _ _,_,_,rfl,.inl ⟨_,.of zB,rfl⟩,_,_,rfl,rfl,?_⟩
   have eb:decide ((0:Int) < (((ps'.map V.ref).length:Nat):Int)) = !rest.isEmpty:=by
    rw [zJ6,lps]
    cases rest with
    | nil=>rfl
    | cons x y=>exact zKL (by simp)
   refine ⟨_,rfl,_,rfl,p,C,dx,_,rfl,hp1 _,T.cl,T.nP,by show 4 < 1000;decide,?_⟩
   rw [zIZ]
   refine ⟨_,rfl,_,rfl,p,C,dx,_,rfl,zB,T.cl,T.nA,by show 4 < 1000;decide,?_⟩
   dsimp only
   rw [aD,tX,eb]
   refine ⟨_,rfl,_,rfl,by show 3 <= sizeLine;decide,fun r hr=>?_⟩
   obtain ⟨hr1,rp⟩:=xZ hr
   obtain ⟨hr2,rw_⟩:=xZ hr1
   have kk:zC [p,wl] H (upd (upd (upd H wl (.lst (ps'.map V.ref))) p (.ins C dx (xU (.str n) wl (xR hold) (!rest.isEmpty)))) r (.tup [.str "right",.str n,.bl (!rest.isEmpty)])):=((zC.at (by simp)).trans (zC.at (by simp))).trans (zC.new hr)
   have es:vQ { ptr:=ptr,row:=(k,n) :: rest,hold:=hold,asked:=asked }=({ ptr:=some n,row:=rest,hold:=hold,asked:=!rest.isEmpty },[.str "right",.str n,.bl (!rest.isEmpty)]):=by
    unfold vQ;simp only [if_neg hk']
   rw [es] at q
   refine q r _ ⟨⟨dx,?_⟩,⟨ps',?_,yO kk (mC hob hwl) hpr⟩,?_⟩ zB hr2 kk
   ·rw [zJ (Ne.symm rp),zB];rfl
   ·rw [zJ (Ne.symm rw_),zJ (Ne.symm npw),zB]
   ·show rest.length <= 1000;omega
theorem zFH:zI ["self"] ["self"] (zE gI):=scm
theorem zEQ (a:V) (wl:Addr) (h:V) (k:Bool) {m:Str} (h1:¬ m="pointer") (h2:¬ m="waiting") (h3:¬ m="holder") (h4:¬ m="asked"):(xU a wl h k).lookup m=none:=by
 have e1:(m == ("pointer" : Str))=false:=by simpa using h1
 have e2:(m == ("waiting" : Str))=false:=by simpa using h2
 have e3:(m == ("holder" : Str))=false:=by simpa using h3
 have e4:(m == ("asked" : Str))=false:=by simpa using h4
 unfold xU
 simp only [List.lookup_cons,e1,e2,e3,e4,List.lookup_nil]
theorem yF.stay {H H':Hp} {p wl:Addr} {s:SS} {dx:Addr} (S:yF C H p wl s) (s':SS) (hob:H' p=some (.ins C dx (xU (xR s'.ptr) wl (xR s'.hold) s'.asked))) (hw:H' wl=H wl) (er:s'.row=s.row) (k:zC [p,wl] H H'):yF C H' p wl s':=by
 obtain ⟨⟨dx0,h0⟩,⟨ps,h1,h2⟩,hl⟩:=S
 refine ⟨⟨dx,hob⟩,⟨ps,by rw [hw];exact h1,?_⟩,by rw [er];exact hl⟩
 rw [er]
 exact yO k (mC h0 h1) h2
def bD (C:Addr):Sp:=fun vs H Q _=>∃ (p wl:Addr) (s:SS),vs=[.ref p]/\yF C H p wl s /\
 ∀ (r:Addr) (H':Hp),yF C H' p wl (vT s).1->Rows H' r (vT s).2->H r=none->zC [p,wl] H H'->Q (.ref r) H'
theorem zGB (T:vA K C) (G:yI K C "move_on" "Seat.move_on" gI ["self"]) (MS:z8 P w K mg base CX0 1 C "serve_first" ["self"] (gB C)):z8 P w K mg base CX0 2 C "move_on" ["self"] (bD C):=by
 refine G.ok zFH (fun vs H Q E h=>by obtain ⟨p,wl,s,rfl,_⟩:=h;rfl) (fun f cdv A outer s0 H vs Q E hr h=>?_)
 obtain ⟨p,wl,s,rfl,S,q⟩:=h
 have hr1:zO 1 _:=hr.mono (by decide)
 refine ⟨_,(zF (yQ (xM (lH (zQ (pv 0) rfl) (fun _=>rfl))) (zH (zL (zX zD))) zV)
   (zF (yQ (zU qY (zQ (pv 0) rfl) wO (zW _)) (zH (zL (sC (zU qY (zQ (pv 0) rfl) wO (zW _)) (zX (zA (yP MS T.cl hr1 (pv 0)) zD)) (zX zD)))) zV)
   (zF (yQ (xI (zQ (pv 0) rfl)) (zH (zL (zX zD))) zV)
   (zF (yX (pv 0) wY rfl)
   (zH (zL (zX (zA (wJ (zA xD (zA (zQ (pv 0) rfl) zD))) zD)))))))),?_⟩
 have npw:=S.ne
 obtain ⟨⟨dx,hob⟩,⟨ps,hwl,hpr⟩,hlen⟩:=id S
 have lps:=zS hpr
 rw [zJ6] at lps
 have hps:(ps.map V.ref).isEmpty=s.row.isEmpty:=by
  cases hps:ps <;> cases hrow:s.row <;> simp_all
 have none_:vT s=(s,[])->∀ r,H r=none->Q (.ref r) (upd H r (.lst [])):=fun e r hr=>by
  rw [e] at q
  exact q r _ (S.keep (zC.new hr)) ⟨[],zB,.nil⟩ hr (zC.new hr)
 refine ⟨_,rfl,p,C,dx,_,_,rfl,hob,T.cl,T.nW,jH _ _ _ _,_,.inl ⟨_,.of hwl,rfl⟩,?_⟩
 dsimp only
 rw [hps]
 cases hem:s.row.isEmpty with
 | true=>
  refine dN ⟨zKG _,fun r hr=>none_ ?_ r hr⟩
  unfold vT;rw [hem];rfl
 | false=>
 refine iQ ?_
 have hne:s.row ≠ []:=fun z=>by rw [z] at hem;cases hem
 refine ⟨_,rfl,p,C,dx,_,_,rfl,hob,T.cl,T.nP,zDF _ _ _ _,rfl,_,rfl,?_⟩
 cases hp:s.ptr with
 | none=>
  refine dN ?_
  refine ⟨_,rfl,p,C,dx,_,_,rfl,hob,T.cl,T.nH,dR _ _ _ _,rfl,_,rfl,?_⟩
  cases hh:s.hold with
  | none=>
   refine dN ?_
   have em:vT s=((vQ s).1,[(vQ s).2]):=by unfold vT;rw [hem,hp,hh];rfl
   rw [em] at q
   refine ⟨_,rfl,p,dx,_,rfl,hob,zEQ _ _ _ _ (by decide +kernel) (by decide +kernel) (by decide +kernel) (by decide +kernel),p,wl,s,rfl,S,hne,fun r H1 S1 h1 hr k1=>⟨by show 1 <= sizeLine;decide,fun l hl=>?_⟩⟩
   have nl:H l=none:=by
    cases e:H l with
    | none=>rfl
    | some o=>
     by_cases z:l ∈ [p,wl]
     ·obtain ⟨dx1,o1⟩:=S1.ob
      obtain ⟨ps1,o2,_⟩:=S1.rw
      simp only [List.mem_cons,zK0,or_false] at z
      rcases z with z | z
      ·rw [z,o1] at hl;cases hl
      ·rw [z,o2] at hl;cases hl
     ·rw [k1 l o z e] at hl;cases hl
   exact q l _ (S1.keep (zC.new hl)) ⟨[r],zB,.cons (by rw [zJ (zG h1 hl)];exact h1) .nil⟩ nl (k1.trans (zC.new hl))
  | some g=>
   refine iQ ⟨zKG _,fun r hr=>none_ ?_ r hr⟩
   unfold vT;rw [hem,hp,hh];rfl
 | some g=>
  refine iQ ?_
  refine ⟨_,rfl,p,C,dx,_,_,rfl,hob,T.cl,T.nA,zGW _ _ _ _,_,rfl,?_⟩
  cases ha:s.asked with
  | true=>
   refine dN ⟨zKG _,fun r hr=>none_ ?_ r hr⟩
   unfold vT;rw [hem,hp,ha];rfl
  | false=>
   refine iQ ?_
   have em:vT s=({ s with asked:=true },[[.str "ask",.str g]]):=by unfold vT;rw [hem,hp,ha];rfl
   rw [em] at q
   refine ⟨_,rfl,p,C,dx,_,rfl,hob,T.cl,T.nA,by show 4 < 1000;decide,?_⟩
   rw [aD]
   refine ⟨_,rfl,p,C,dx,_,_,rfl,zB,T.cl,T.nP,zDF _ _ _ _,by show 2 <= sizeLine;decide,fun t ht=>⟨by show 1 <= sizeLine;decide,fun l hl=>?_⟩⟩
   obtain ⟨ht1,tp⟩:=xZ ht
   obtain ⟨hl1,lt⟩:=xZ hl
   obtain ⟨hl2,lp⟩:=xZ hl1
   have nwt:wl ≠ t:=zG hwl ht1
   have nwl:wl ≠ l:=zG hwl hl2
   have kk:zC [p,wl] H (upd (upd (upd H p (.ins C dx (xU (xR s.ptr) wl (xR s.hold) true))) t (.tup [.str "ask",xR s.ptr])) l (.lst [.ref t])):=((zC.at (by simp)).trans (zC.new ht)).trans (zC.new hl)
   refine q l _ (S.stay (dx:=dx) { s with asked:=true } ?_ ?_ rfl kk) ⟨[t],zB,.cons ?_ .nil⟩ hl2 kk
   ·rw [zJ (Ne.symm lp),zJ (Ne.symm tp),zB]
   ·rw [zJ nwl,zJ nwt,zJ (Ne.symm npw)]
   ·rw [zJ (Ne.symm lt),zB,hp];rfl
theorem zFK:zI ["asker"] ["asker"] (zE gJ):=scm
def j4:Sp:=fun vs H Q _=>∃ (z:Str),vs=[.str z]/\uK z=true/\z.length <= 1000/\∀ H',zC [] H H'->Q .non H'
theorem zGE (G:yB K mg "check_asker" gJ ["asker"]) (CI:Cal P w K mg base CX0 1 "is_name" ["thing"] (tM K)):Cal P w K mg base CX0 2 "check_asker" ["asker"] j4:=by
 refine G.ok zFK (fun vs H Q E h=>by obtain ⟨z,rfl,_⟩:=h;rfl) (fun f cdv A outer s0 H vs Q E hr h=>?_)
 obtain ⟨z,rfl,hn,hl,q⟩:=h
 have hr1:zO 1 _:=hr.mono (by decide)
 refine ⟨_,(zH (yQ (xM (xI (zM CI hr1 (zA (pv 0) zD)))) (zH xA) zV)),?_⟩
 refine ⟨_,rfl,_,"str",rfl,.str z,(fun z' e=>by cases e;exact hl),fun H1 k1=>⟨_,rfl,?_⟩⟩
 exact ifF (by show (!uK z)=false;rw [hn];rfl) (q H1 k1)
theorem zFF:zI ["self","asker"] ["self","asker"] (zE gF):=scm
abbrev i7 (z:Str):Str × Str:=(("asker" : Str),z)
theorem zDH (r x:Str × Str):eqT (uU r) (uU x)=decide (r=x):=by
 obtain ⟨a,b⟩:=r
 obtain ⟨c,e⟩:=x
 show ((2 == 2) && ((a == c) && ((b == e) && true)))=_
 by_cases h1:a=c <;> by_cases h2:b=e <;> simp [h1,h2]
theorem zDV (row:LSS) (x:Str × Str):(row.map uU).any (fun r=>eqT r (uU x))=decide (x ∈ row):=by
 rw [List.any_map]
 induction row with
 | nil=>simp
 | cons r row ih=>
  rw [List.any_cons,ih]
  show (eqT (uU r) (uU x) || decide (x ∈ row))=_
  rw [zDH]
  by_cases h1:r=x
  ·subst h1;simp
  ·have h2:¬ x=r:=fun z=>h1 z.symm
   simp [h1,h2]
theorem zIB (z:Str) (o:Option Str):zB2 (.str z) (xR o)=true:=by cases o <;> rfl
theorem decO (z:Str) (o:Option Str):decide (V.str z=xR o)=decide (o=some z):=by
 cases o with
 | none=>simp [xR]
 | some y=>simp [xR,eq_comm]
theorem zJS (a:V) (wl:Addr) (h:V) (k:Bool):(xU a wl h k).lookup ("move_on" : Str)=none:=zEQ a wl h k (by decide +kernel) (by decide +kernel) (by decide +kernel) (by decide +kernel)
theorem yF.more {H H1 H3:Hp} {p wl t dx:Addr} {s:SS} {ps:List Addr} {x:Str × Str} (hob:H3 p=some (.ins C dx (xU (xR s.ptr) wl (xR s.hold) s.asked)))
  (hpr:Paired (fun q r=>H3 q=some (.tup r)) ps (s.row.map uU)) (hw:H3 wl=some (.lst (ps.map V.ref ++ [.ref t]))) (ht:H3 t=some (.tup (uU x))) (hl:s.row.length < 1000):yF C H3 p wl { s with row:=s.row ++ [x] }:=by
 refine ⟨⟨dx,hob⟩,⟨ps ++ [t],by rw [hw,zKI];rfl,?_⟩,by show (s.row ++ [x]).length <= 1000;simp;omega⟩
 show Paired _ _ ((s.row ++ [x]).map uU)
 rw [zKI]
 exact wQ hpr ht
def c7 (C:Addr):Sp:=fun vs H Q _=>∃ (p wl:Addr) (s:SS) (z:Str),vs=[.ref p,.str z]/\yF C H p wl s/\uK z=true/\z.length <= 1000/\s.hold ≠ some z/\(i7 z) ∉ s.row/\s.row.length < 1000 /\
 ∀ (r:Addr) (H':Hp),yF C H' p wl (vT { s with row:=s.row ++ [(i7 z)] }).1->Rows H' r (vT { s with row:=s.row ++ [(i7 z)] }).2->H r=none->zC [p,wl] H H'->Q (.ref r) H'
theorem zF5 (T:vA K C) (G:yI K C "want" "Seat.want" gF ["self","asker"]) (CC:Cal P w K mg base CX0 2 "check_asker" ["asker"] j4) (MM:z8 P w K mg base CX0 2 C "move_on" ["self"] (bD C)) :
  z8 P w K mg base CX0 3 C "want" ["self","asker"] (c7 C):=by
 refine G.ok zFF (fun vs H Q E h=>by obtain ⟨p,wl,s,z,rfl,_⟩:=h;rfl) (fun f cdv A outer s0 H vs Q E hr h=>?_)
 obtain ⟨p,wl,s,z,rfl,S0,hn,hl,hh,hi,hlen,q⟩:=h
 have hr2:zO 2 _:=hr.mono (by decide)
 have hu:=uT hr
 refine ⟨_,(zF (z9 (zM CC hr2 (zA (pv 1) zD)))
   (zF (yQ (PW.pt (uA (zU uY (pv 1) (zQ (pv 0) rfl) (zW _)) (vC (zU (zF2 hu) (wJ (zA xD (zA (pv 1) zD))) (zQ (pv 0) rfl) (by with_unfolding_all rfl))))) (zH xA) zV)
   (zF (z9 (uW F.plainAttrs_list F.slot_list_append F.type_list_append wG (zQ (pv 0) rfl) (zA (wJ (zA xD (zA (pv 1) zD))) zD)))
   (zH (zL (yP MM T.cl hr2 (pv 0))))))),?_⟩
 refine ⟨_,rfl,z,rfl,hn,hl,fun H1 k1=>?_⟩
 have S:=S0.keep k1
 have npw:=S.ne
 obtain ⟨⟨dx,hob⟩,⟨ps,hwl,hpr⟩,_⟩:=id S
 refine ⟨_,rfl,_,rfl,p,C,dx,_,_,rfl,hob,T.cl,T.nH,dR _ _ _ _,zIB _ _,_,rfl,?_⟩
 refine ifF (by rw [decO];exact zKM hh) ?_
 refine ⟨_,rfl,by show 2 <= sizeLine;decide,fun t ht=>?_⟩
 have pt:p ≠ t:=zG hob ht
 have wt:wl ≠ t:=zG hwl ht
 have k2:zC [] H1 (upd H1 t (.tup [.str "asker",.str z])):=zC.new ht
 refine ⟨_,rfl,p,C,dx,_,_,rfl,(k2 _ _ (by simp) hob),T.cl,T.nW,jH _ _ _ _,wl,t,_,s.row.map uU,rfl,rfl,(Rows.keep ⟨ps,hwl,hpr⟩ k2),zB,rfl,f9 _,_,rfl,?_⟩
 refine ifF (by show ((s.row.map uU).any fun r=>eqT r (uU (i7 z)))=false;rw [zDV];exact zKM hi) ?_
 refine ⟨_,rfl,p,C,dx,_,_,rfl,(k2 _ _ (by simp) hob),T.cl,T.nW,jH _ _ _ _,.inl ⟨rfl,_,.of (k2 _ _ (by simp) hwl)⟩,_,rfl,by show 2 <= sizeLine;decide,fun t2 ht2=>?_⟩
 have k3:zC [] (upd H1 t (.tup [.str "asker",.str z])) (upd (upd H1 t (.tup [.str "asker",.str z])) t2 (.tup [.str "asker",.str z])):=zC.new ht2
 have k13:=k2.trans k3
 have wt2:wl ≠ t2:=zG (k2 _ _ (by simp) hwl) ht2
 have lps:=zS hpr
 rw [zJ6] at lps
 refine ⟨wl,_,_,rfl,rfl,k13 _ _ (by simp) hwl,by rw [zJ6,sizeLine_eq];omega,?_⟩
 generalize hH3:upd (upd H1 t (.tup [.str "asker",.str z])) t2 (.tup [.str "asker",.str z])=H3 at k3 k13 ⊢
 have h3t:H3 t2=some (.tup (uU (i7 z))):=by rw [<- hH3];exact zB
 have k4:zC [p,wl] H1 (upd H3 wl (.lst (ps.map V.ref ++ [.ref t2]))):=(k13.mono (by simp)).trans (zC.at (by simp))
 have hob4:upd H3 wl (.lst (ps.map V.ref ++ [.ref t2])) p=some (.ins C dx (xU (xR s.ptr) wl (xR s.hold) s.asked)):=by rw [zJ npw];exact k13 _ _ (by simp) hob
 have S4:yF C (upd H3 wl (.lst (ps.map V.ref ++ [.ref t2]))) p wl { s with row:=s.row ++ [(i7 z)] }:=
  yF.more (H:=H) (H1:=H1) hob4 (yO k4 (mC hob hwl) hpr) zB (by rw [zJ (Ne.symm wt2)];exact h3t) hlen
 refine ⟨_,rfl,p,dx,_,rfl,hob4,zJS _ _ _ _,p,wl,_,rfl,S4,fun r H5 S5 R5 hr5 k5=>?_⟩
 have hr4:=(xZ hr5).1
 exact q r H5 S5 R5 (k1.none (by simp) (k13.none (by simp) hr4)) (((k1.mono (by simp)).trans k4).trans k5)
theorem zB4:zI ["self"] ["self"] (zE nZ):=scm
def nI (C:Addr):Sp:=fun vs H Q _=>∃ (p wl:Addr) (s:SS),vs=[.ref p]/\yF C H p wl s/\Q (xR s.ptr) H
theorem zC0 (T:vA K C) (G:yI K C "arrow" "Seat.arrow" nZ ["self"]):z8 P w K mg base CX0 1 C "arrow" ["self"] (nI C):=by
 refine G.ok zB4 (fun vs H Q E h=>by obtain ⟨p,wl,s,rfl,_⟩:=h;rfl) (fun f cdv A outer s0 H vs Q E hr h=>?_)
 obtain ⟨p,wl,s,rfl,S,q⟩:=h
 obtain ⟨dx,hob⟩:=S.ob
 exact ⟨_,(zH (zL (zQ (pv 0) rfl))),_,rfl,p,C,dx,_,_,rfl,hob,T.cl,T.nP,zDF _ _ _ _,q⟩
theorem bQ:zI ["self"] ["self"] (zE r9):=scm
def m6 (C:Addr):Sp:=fun vs H Q _=>∃ (p wl:Addr) (s:SS),vs=[.ref p]/\yF C H p wl s/\Q (xR s.hold) H
theorem aY (T:vA K C) (G:yI K C "inside" "Seat.inside" r9 ["self"]):z8 P w K mg base CX0 1 C "inside" ["self"] (m6 C):=by
 refine G.ok bQ (fun vs H Q E h=>by obtain ⟨p,wl,s,rfl,_⟩:=h;rfl) (fun f cdv A outer s0 H vs Q E hr h=>?_)
 obtain ⟨p,wl,s,rfl,S,q⟩:=h
 obtain ⟨dx,hob⟩:=S.ob
 exact ⟨_,(zH (zL (zQ (pv 0) rfl))),_,rfl,p,C,dx,_,_,rfl,hob,T.cl,T.nH,dR _ _ _ _,q⟩
theorem zIJ:zI ["self"] ["self"] (zE zB8):=scm
def zD7 (C:Addr):Sp:=fun vs H Q _=>∃ (p wl:Addr) (s:SS),vs=[.ref p]/\yF C H p wl s/\Q (.bl s.asked) H
theorem zI8 (T:vA K C) (G:yI K C "has_asked" "Seat.has_asked" zB8 ["self"]):z8 P w K mg base CX0 1 C "has_asked" ["self"] (zD7 C):=by
 refine G.ok zIJ (fun vs H Q E h=>by obtain ⟨p,wl,s,rfl,_⟩:=h;rfl) (fun f cdv A outer s0 H vs Q E hr h=>?_)
 obtain ⟨p,wl,s,rfl,S,q⟩:=h
 obtain ⟨dx,hob⟩:=S.ob
 exact ⟨_,(zH (zL (zQ (pv 0) rfl))),_,rfl,p,C,dx,_,_,rfl,hob,T.cl,T.nA,zGW _ _ _ _,q⟩
theorem zIG:zI ["self"] ["self"] (zE zB7):=scm
def zD6 (C:Addr):Sp:=fun vs H Q _=>∃ (p wl:Addr) (s:SS),vs=[.ref p]/\yF C H p wl s/\∀ (r:Addr) (H':Hp),H r=none->Rows H' r (s.row.map uU)->zC [] H H'->Q (.ref r) H'
theorem zI6 (T:vA K C) (G:yI K C "row" "Seat.row" zB7 ["self"]) (bT:Blt mg "list"):z8 P w K mg base CX0 1 C "row" ["self"] (zD6 C):=by
 refine G.ok zIG (fun vs H Q E h=>by obtain ⟨p,wl,s,rfl,_⟩:=h;rfl) (fun f cdv A outer s0 H vs Q E hr h=>?_)
 obtain ⟨p,wl,s,rfl,S,q⟩:=h
 obtain ⟨⟨dx,hob⟩,⟨ps,hwl,hpr⟩,hlen⟩:=id S
 refine ⟨_,(zH (zL (xE y6 rfl bT.no wI (zA (zQ (pv 0) rfl) zD)))),_,rfl,p,C,dx,_,_,rfl,hob,T.cl,T.nW,jH _ _ _ _,wl,_,rfl,.inl (.of hwl),fun l hl=>?_⟩
 have k1:zC [] H (upd H l (.lst (ps.map V.ref))):=zC.new hl
 exact q l _ hl ⟨ps,zB,yO k1 (fun b hb=>by cases hb) hpr⟩ k1
theorem scSI:zI ["self","arrow"] ["self","arrow"] (zE sSI):=scm
theorem zCH (a:V) (wl:Addr):yL "asked" (.bl false) (yL "holder" .non (yL "waiting" (.ref wl) (yL "pointer" a [])))=xU a wl .non false:=by
 unfold xU
 simp only [yL,if_neg n1,if_neg n2,if_neg n3,if_neg n4,if_neg n5,if_neg n6]
def zBV (C:Addr):Sp:=fun vs H Q _=>∃ (p dx:Addr) (ar:Option Str),vs=[.ref p,xR ar]/\H p=some (.ins C dx [])/\(∀ z,ar=some z->uK z=true/\z.length <= 1000) /\
 ∀ (wl:Addr) (H':Hp),H wl=none->yF C H' p wl ⟨ar,[],none,false⟩->zC [p] H H'->Q .non H'
theorem okSI {fI:Addr} {fd:FuncData} (T:vA K C) (G:Fun K "__init__" "Seat.__init__" sSI fI fd) (CI:Cal P w K mg base CX0 1 "is_name" ["thing"] (tM K)):vZ P w K mg base CX0 2 fI fd ["self","arrow"] (zBV C):=by
 refine G.ok scSI (fun vs H Q E h=>by obtain ⟨p,dx,ar,rfl,_⟩:=h;rfl) (fun cdv A outer s0 H vs Q E hr h=>?_)
 obtain ⟨p,dx,ar,rfl,hp,hz,q⟩:=h
 have hr1:zO 1 _:=hr.mono (by decide)
 refine ⟨_,(zF (yQ (PW.pt (zFR (zU n8 (pv 1) wO (zW _)) (zCF (xM (xI (zM CI hr1 (zA (pv 1) zD))))))) (zH xA) zV)
   (zF (yX (pv 0) (pv 1) rfl)
   (zF (yX (pv 0) (zX zD) rfl)
   (zF (yX (pv 0) wO rfl)
   (zH (yX (pv 0) wY rfl)))))),?_⟩
 have rest:∀ H1,zC [] H H1->(pS (bW K (tY 0) (tY 1) "pointer") (pS (bW K (tY 0) (cV o8) "waiting") (pS (bW K (tY 0) (tC .non) "holder") (bW K (tY 0) (tC (.bl false)) "asked")))) { nx:=fun _ H'=>Q .non H',rt:=Q } (L2.start ["self","arrow"] [.ref p,xR ar]) H1:=fun H1 k1=>by
  have hp1:=k1 _ _ (by simp) hp
  refine ⟨_,rfl,_,rfl,p,C,dx,_,rfl,hp1,T.cl,T.nP,by show 0 < 1000;decide,zKG _,fun wl hw=>?_⟩
  obtain ⟨hw1,wp⟩:=xZ hw
  refine ⟨_,rfl,p,C,dx,_,rfl,by rw [zJ (Ne.symm wp),zB],T.cl,T.nW,by show 1 < 1000;decide,?_⟩
  refine ⟨_,rfl,p,C,dx,_,rfl,zB,T.cl,T.nH,by show 2 < 1000;decide,?_⟩
  refine ⟨_,rfl,p,C,dx,_,rfl,zB,T.cl,T.nA,by show 3 < 1000;decide,?_⟩
  dsimp only
  rw [zCH,tX,tX]
  refine q wl _ (k1.none (by simp) hw1) ⟨⟨dx,zB⟩,⟨[],by rw [zJ wp,zB];rfl,.nil⟩,zKG _⟩ ?_
  exact ((((k1.mono (by simp)).trans (zC.at (by simp))).trans (zC.new hw))).trans (zC.at (by simp))
 cases ar with
 | none=>exact ⟨_,rfl,rfl,_,rfl,ifF rfl (ifF rfl (rest H (zC.refl _)))⟩
 | some z=>
  obtain ⟨h1,h2⟩:=hz z rfl
  refine ⟨_,rfl,rfl,_,rfl,ifT rfl ?_⟩
  refine ⟨_,rfl,_,"str",rfl,.str z,(fun z' e=>by cases e;exact h2),fun H1 k1=>⟨_,rfl,?_⟩⟩
  exact ifF (by show (!uK z)=false;rw [h1];rfl) (rest H1 k1)
end
abbrev sNb:Stmt:=top 34
abbrev bY:Stmt:=top 35
abbrev sHI:Stmt:=z4 (top 38) 0
def hfl (nm:V) (nl sl:Addr):List (Str × V):=[("name",nm),("nearby",.ref nl),("seats",.ref sl)]
theorem hn1:¬ (("name" : Str)="nearby"):=by decide +kernel
theorem hn2:¬ (("name" : Str)="seats"):=by decide +kernel
theorem hn3:¬ (("nearby" : Str)="seats"):=by decide +kernel
theorem hput (nm:V) (nl sl:Addr):yL "seats" (.ref sl) (yL "nearby" (.ref nl) (yL "name" nm []))=hfl nm nl sl:=by
 unfold hfl
 simp only [yL,if_neg hn1,if_neg hn2,if_neg hn3]
structure vL (K:W.Frag) (C:Addr):Prop where
 cl:Cls K C
 nN:xC K C "name"
 nB:xC K C "nearby"
 nS:xC K C "seats"
theorem yF.keepS {C:Addr} {S:List Addr} {H H':Hp} {p wl:Addr} {s:SS} (A:yF C H p wl s) (k:zC S H H') (hp:p ∉ S) (hw:wl ∉ S) (ht:∀ b ∈ S,∀ xs,H b ≠ some (.tup xs)):yF C H' p wl s:=by
 obtain ⟨⟨dx,h⟩,⟨ps,e,r⟩,l⟩:=A
 exact ⟨⟨dx,k _ _ hp h⟩,⟨ps,k _ _ hw e,yO k ht r⟩,l⟩
def Dis (nl sl:Addr) (xs:List (Addr × Addr)):Prop:=(∀ x ∈ xs,x.2 ≠ nl/\x.2 ≠ sl)/\xs.Pairwise fun a b=>a.1 ≠ b.1/\a.2 ≠ b.2
def yK (B:Addr->Prop) (C CS:Addr) (H:Hp) (p:Addr) (nm:Str) (nb:List Str) (xs:List (Addr × Addr)) (ss:List SS):Prop:=∃ (dx nl sl:Addr),(B nl/\B sl/\(∀ x ∈ xs,B x.1/\B x.2)/\Dis nl sl xs) /\
 H p=some (.ins C dx (hfl (.str nm) nl sl))/\H nl=some (.lst (nb.map V.str))/\H sl=some (.lst (xs.map fun x=>V.ref x.1))/\xs.length=ss.length/\∀ (i:Nat) (x:Addr × Addr) (s:SS),xs[i]?=some x->ss[i]?=some s->yF CS H x.1 x.2 s
theorem yK.on {B:Addr->Prop} {C CS:Addr} {H H':Hp} {p:Addr} {nm:Str} {nb:List Str} {xs:List (Addr × Addr)} {ss:List SS} (h:yK B C CS H p nm nb xs ss) (k:zC [] H H'):yK B C CS H' p nm nb xs ss:=by
 obtain ⟨dx,nl,sl,b,h1,h2,h3,h4,h5⟩:=h
 exact ⟨dx,nl,sl,b,k _ _ (by simp) h1,k _ _ (by simp) h2,k _ _ (by simp) h3,h4,fun i x s e1 e2=>(h5 i x s e1 e2).keep k⟩
theorem yK.keep {B:Addr->Prop} {C CS:Addr} {H H':Hp} {p:Addr} {nm:Str} {nb:List Str} {xs:List (Addr × Addr)} {ss:List SS} {S:List Addr} (h:yK B C CS H p nm nb xs ss) (k:zC S H H') (hS:∀ b ∈ S,b ≠ p/\¬ B b/\∀ ys,H b ≠ some (.tup ys)):yK B C CS H' p nm nb xs ss:=by
 obtain ⟨dx,nl,sl,⟨b1,b2,b3,b4⟩,h1,h2,h3,h4,h5⟩:=h
 have far:∀ {u:Addr},B u->u ∉ S:=fun {u} hb hm=>(hS u hm).2.1 hb
 exact ⟨dx,nl,sl,⟨b1,b2,b3,b4⟩,k _ _ (fun hm=>(hS p hm).1 rfl) h1,k _ _ (far b1) h2,k _ _ (far b2) h3,h4,fun i x s e1 e2=>(h5 i x s e1 e2).keepS k (far (b3 x (zKA e1)).1) (far (b3 x (zKA e1)).2) fun b hb=>(hS b hb).2.2⟩
def yN (ars:List (Option Str)):List SS:=ars.map fun a=>⟨a,[],none,false⟩
section
variable {P:Program} {w:World} {K:W.Frag} {mg:Str->Option Value} {base:Heap} {C CS:Addr}
theorem scNb:zI ["thing","name"] ["thing","name"] (zE sNb):=scm
theorem zIS:zI ["thing","neighbours"] ["thing","neighbours"] (zE bY):=scm
def zH2:Sp:=fun vs H Q _=>∃ (a:Addr) (nb:List Str) (nm:Str),vs=[.ref a,.str nm]/\H a=some (.lst (nb.map V.str))/\(∀ z ∈ nb,xY z)/\nb.Nodup/\nm ∉ nb/\nb.length <= 100/\∀ H',zC [] H H'->Q (.bl true) H'
theorem okNb (G:yB K mg "are_neighbours" sNb ["thing","name"]) (CAN:Cal P w K mg base CX0 2 "are_names" ["thing"] j5) (CAU:Cal P w K mg base CX0 1 "are_unlike" ["names"] c8):Cal P w K mg base CX0 3 "are_neighbours" ["thing","name"] zH2:=by
 refine G.ok scNb (fun vs H Q E h=>by obtain ⟨a,nb,nm,rfl,_⟩:=h;rfl) (fun f cdv A outer s H vs Q E hr h=>?_)
 obtain ⟨a,nb,nm,rfl,ha,gz,nd,nin,lz,q⟩:=h
 have hr2:zO 2 _:=hr
 have hr1:zO 1 _:=hr.mono (by decide)
 refine ⟨_,(zH (zL (vI (zM CAN hr2 (zA (pv 0) zD)) (vI (zM CAU hr1 (zA (pv 0) zD)) (uI (xW sH (pv 1) (pv 0) (by with_unfolding_all rfl))))))),?_⟩
 refine ⟨_,rfl,a,nb,rfl,ha,gz,by omega,fun H1 k1=>⟨_,rfl,ifT rfl ?_⟩⟩
 refine ⟨_,rfl,a,nb,rfl,k1 _ _ (by simp) ha,nd,by omega,fun H2 k2=>⟨_,rfl,ifT rfl ?_⟩⟩
 have k02:=k1.trans k2
 have e2:(!inV (.str nm) (nb.map V.str))=true:=by
  unfold inV
  rw [List.any_map,Bool.not_eq_true',List.any_eq_false]
  intro z hz e
  have:z=nm:=eq_of_beq (show (z == nm)=true from e)
  exact nin (this ▸ hz)
 exact ⟨_,rfl,_,rfl,a,_,rfl,.inl (.of (k02 _ _ (by simp) ha)),rfl,tF nb,by rw [e2];exact q H2 k02⟩
def zEC:Sp:=fun vs H Q _=>∃ (a b:Addr) (ars:List (Option Str)) (nb:List Str),vs=[.ref a,.ref b]/\H a=some (.lst (ars.map xR))/\H b=some (.lst (nb.map V.str))/\(∀ z ∈ nb,xY z)/\ars ≠ []/\ars.length <= 100/\(∀ z,some z ∈ ars->z ∈ nb)/\∀ H',zC [] H H'->Q (.bl true) H'
theorem zJF (G:yB K mg "are_arrows" bY ["thing","neighbours"]) (CO:Cal P w K mg base CX0 2 "is_one_of" ["thing","houses"] rY) (b_isinstance:Blt mg "isinstance") (b_list:Blt mg "list") (b_len:Blt mg "len") (b_all:Blt mg "all"):Cal P w K mg base CX0 3 "are_arrows" ["thing","neighbours"] zEC:=by
 refine G.ok zIS (fun vs H Q E h=>by obtain ⟨a,b,ars,nb,rfl,_⟩:=h;rfl) (fun f cdv A outer s H vs Q E hr h=>?_)
 obtain ⟨a,b,ars,nb,rfl,ha,hb,gz,nar,lar,arin,q⟩:=h
 have hr2:zO 2 _:=hr
 refine ⟨_,(zF (yQ (PW.pt (uA (xM (xI (zP xP b_isinstance zN (zA (pv 0) (zA (sA b_list wI) zD))))) (vC (zU uY (zP yD b_len y8 (zA (pv 0) zD)) zK (zW _))))) (zH (zL wY)) zV)
   (zH (zL (zP (sZ rfl) b_all mQ (zA (vD (N:=["thing","neighbours"]) (sc:=zE bY) (ix:=[1]) (by decide +kernel) (yG (pv 0)) (fun _ _ _ _=>yT) (fun _ _ _ _=>(zI0 (xW qY (pv 0) wO (zW _)) (uI (zM CO hr2 (zA (pv 0) (zA (pv 1) zD))))))) zD))))),?_⟩
 have pt:yS K H (.ref a) "list":=.lst ha
 refine ⟨_,rfl,_,_,_,true,rfl,pt.ty,pt.kit.2.2.2.1,_,rfl,ifF rfl ?_⟩
 refine ⟨_,rfl,_,_,rfl,.inl ⟨_,.of ha,rfl⟩,rfl,_,rfl,?_⟩
 refine ifF (by cases ars with | nil=>exact absurd rfl nar | cons x l=>simp;omega) ?_
 refine ⟨_,rfl,a,rfl,⟨_,.of ha⟩,fun acc hacc=>?_⟩
 have aa:a ≠ acc:=zG ha hacc
 have bb:b ≠ acc:=zG hb hacc
 refine w4 (K:=K) (a:=a) (its:=ars.map xR) (by rw [zJ6,sizeLine_eq];omega) (fun i ys τ H1=>∃ k:Option V,τ=[k,some (.ref b)]/\ys=(List.replicate i true).map V.bl/\i <= ars.length/\zC [acc] H H1/\H1 acc=some (.lst ys)) ?_ ?_ ?_ ?_
 ·exact ⟨_,rfl,rfl,zKG _,zC.at (by simp),zB⟩
 ·rintro i ys τ H1 ⟨k,rfl,rfl,il,kp,h1⟩
  exact ⟨h1,by simp [il],.of (kp _ _ (by simp [aa]) ha)⟩
 ·rintro i ys τ H1 x hx ⟨k,rfl,rfl,il,kp,h1⟩
  rw [zKC] at hx
  cases ei:ars[i]? with
  | none=>rw [ei] at hx;cases hx
  | some ar=>
  rw [ei] at hx
  have ex:xR ar=x:=zKD hx
  subst ex
  have il':i < ars.length:=(zJ8.mp ei).1
  have er:(List.replicate (i + 1) true).map V.bl=(List.replicate i true).map V.bl ++ [.bl true]:=by rw [List.replicate_succ',zKI];rfl
  cases ar with
  | none=>exact ⟨_,rfl,rfl,_,rfl,ifT rfl ⟨h1,_,rfl,er.symm,il',kp.trans (zC.at (by simp)),zB⟩⟩
  | some z=>
   have zn:=arin z (zKA ei)
   refine ⟨_,rfl,rfl,_,rfl,ifF rfl ⟨_,rfl,_,rfl,z,b,nb,rfl,kp _ _ (by simp [bb]) hb,gz z zn,zn,fun H2 k2=>⟨k2 _ _ (by simp) h1,_,rfl,er.symm,il',(kp.trans (k2.mono (by simp))).trans (zC.at (by simp)),zB⟩⟩⟩
 ·rintro ys τ H1 ⟨k,rfl,rfl,_,kp,h1⟩
  rw [zJ6] at h1
  refine ⟨acc,List.replicate ars.length true,rfl,.of h1,?_⟩
  rw [show (List.replicate ars.length true).all id=true by simp]
  exact q _ (kp.drop hacc)
theorem jC {K:W.Frag} {CS a acc:Addr} {its:List V} {ss:List SS} {xs:List Str} {ix:List Nat} {g:TG} {te:TE} {σ:St} {H1:Hp} {Q:VK} (hl:its.length=ss.length) (hn:its.length <= 100) (ha:H1 a=some (.lst its)) (hacc:H1 acc=none) (h0:stC xs ix σ=[none])
  (step:∀ (i:Nat) (x:V) (s:SS) (kk:Option V) (H:Hp) (R:V->St->Hp->Prop),its[i]?=some x->ss[i]?=some s->zC [acc] H1 H->(∀ (q wl:Addr) (kk:Option V) (H4:Hp),H q=none->H wl=none->yF CS H4 q wl s->zC [] H H4->R (.ref q) [kk] H4)->g x [kk] H fun τ2 H2=>te τ2 H2 fun y H4=>R y τ2 H4)
  (fin:∀ (ps:List (Addr × Addr)) (H':Hp),ps.length=ss.length->(∀ (i:Nat) (x:Addr × Addr) (s:SS),ps[i]?=some x->ss[i]?=some s->yF CS H' x.1 x.2 s)->(∀ x ∈ ps,H1 x.1=none/\H1 x.2=none/\x.1 ≠ acc/\x.2 ≠ acc)->(ps.Pairwise fun a b=>a.1 ≠ b.1/\a.2 ≠ b.2)->zC [] H1 H'->H' acc=some (.lst (ps.map fun p=>V.ref p.1))->Q (.ref acc) H'):LCW (Itl K a) xs ix g tG te σ H1 acc Q:=by
 have aacc:a ≠ acc:=zG ha hacc
 refine w4 (K:=K) (a:=a) (its:=its) (by rw [sizeLine_eq];omega) (fun i ys τ H6=>∃ (ps:List (Addr × Addr)) (kk:Option V),τ=[kk]/\ys=ps.map (fun p=>V.ref p.1)/\ps.length=i/\(∀ (j:Nat) (x:Addr × Addr) (s:SS),ps[j]?=some x->ss[j]?=some s->yF CS H6 x.1 x.2 s) /\
  (∀ x ∈ ps,H1 x.1=none/\H1 x.2=none/\x.1 ≠ acc/\x.2 ≠ acc/\H6 x.1 ≠ none/\H6 x.2 ≠ none)/\(ps.Pairwise fun a b=>a.1 ≠ b.1/\a.2 ≠ b.2)/\zC [acc] H1 H6/\H6 acc=some (.lst ys)) ?_ ?_ ?_ ?_
 ·exact ⟨[],none,h0,rfl,rfl,(fun j p s e=>by cases e),(fun p hp=>by cases hp),.nil,zC.at (by simp),zB⟩
 ·rintro i ys τ H6 ⟨ps,kk,rfl,rfl,hl,_,_,_,kp,h6⟩
  exact ⟨h6,by rw [zJ6];omega,.of (kp _ _ (by simp [aacc]) ha)⟩
 ·rintro i ys τ H6 x hx ⟨ps,kk,rfl,rfl,hpl,hse,hfr,hpw,kp,h6⟩
  have il:i < ss.length:=by rw [<- hl];exact (zJ8.mp hx).1
  have es:ss[i]?=some ss[i]:=zJ7 il
  generalize ss[i]=s at es
  refine step i x s kk H6 (fun y τ2 H4=>H4 acc=some (.lst (ps.map fun p=>V.ref p.1))/\_) hx es kp ?_
  intro q wl kk2 H4 hq hwl S4 k4
  have h4:=k4 _ _ (by simp) h6
  have qa:q ≠ acc:=Ne.symm (zG h6 hq)
  have wa:wl ≠ acc:=Ne.symm (zG h6 hwl)
  have nt:∀ b ∈ [acc],∀ xs,H4 b ≠ some (.tup xs):=fun b hb xs z=>by rw [zJ9.mp hb,h4] at z;cases z
  have kl:zC [acc] H4 (upd H4 acc (.lst (List.map (fun p=>V.ref p.1) ps ++ [V.ref q]))):=zC.at (by simp)
  obtain ⟨⟨dq,oq⟩,⟨qs,ow,_⟩,_⟩:=id S4
  have oq':=kl _ _ (by simp [qa]) oq
  have ow':=kl _ _ (by simp [wa]) ow
  refine ⟨h4,ps ++ [(q,wl)],_,rfl,by simp,by simp [hpl],?_,?_,?_,(kp.trans (k4.mono (by simp))).trans kl,zB⟩
  ·intro j x' s' hj hs
   by_cases hjl:j < ps.length
   ·rw [zKU hjl] at hj
    obtain ⟨_,_,f1,f2,_⟩:=hfr x' (zKA hj)
    exact ((hse j x' s' hj hs).keep k4).keepS kl (by simpa using f1) (by simpa using f2) nt
   ·rw [zKT (by omega)] at hj
    have ej:j=i:=by
     have:=(zJ8.mp hj).1
     simp at this;omega
    subst ej
    rw [hpl,Nat.sub_self] at hj
    cases hj
    rw [es] at hs
    cases hs
    exact S4.keepS kl (by simpa using qa) (by simpa using wa) nt
  ·intro x' hx'
   rcases zKN.mp hx' with h | h
   ·obtain ⟨f1,f2,f3,f4,f5,f6⟩:=hfr x' h
    exact ⟨f1,f2,f3,f4,fun z=>f5 (k4.none (by simp) (kl.none (by simpa using f3) z)),fun z=>f6 (k4.none (by simp) (kl.none (by simpa using f4) z))⟩
   ·rw [zJ9.mp h]
    exact ⟨kp.none (by simpa using qa) hq,kp.none (by simpa using wa) hwl,qa,wa,(by rw [oq'];nofun),(by rw [ow'];nofun)⟩
  ·refine List.pairwise_append.mpr ⟨hpw,List.pairwise_singleton _ _,fun a ha b hb=>?_⟩
   rw [zJ9.mp hb]
   obtain ⟨_,_,_,_,f5,f6⟩:=hfr a ha
   exact ⟨fun e=>f5 (e ▸ hq),fun e=>f6 (e ▸ hwl)⟩
 ·rintro ys τ H6 ⟨ps,kk,rfl,rfl,hpl,hse,hfr,hpw,kp,h6⟩
  exact fin ps H6 (hpl.trans hl) hse (fun x hx=>let ⟨a,b,c,d,_⟩:=hfr x hx;⟨a,b,c,d⟩) hpw (kp.drop hacc) h6
theorem scHI:zI ["self","name","neighbours","arrows"] ["self","name","neighbours","arrows"] (zE sHI):=scm
def zBW (C CS:Addr):Sp:=fun vs H Q _=>∃ (p dx a b:Addr) (nm:Str) (nb:List Str) (ars:List (Option Str)),vs=[.ref p,.str nm,.ref a,.ref b]/\H p=some (.ins C dx [])/\H a=some (.lst (nb.map V.str))/\H b=some (.lst (ars.map xR))/\xY nm/\(∀ z ∈ nb,xY z)/\nb.Nodup/\nm ∉ nb/\nb.length <= 100/\ars ≠ []/\ars.length <= 100/\(∀ z,some z ∈ ars->z ∈ nb) /\
 ∀ (xs:List (Addr × Addr)) (H':Hp),yK (fun u=>H u=none) C CS H' p nm nb xs (yN ars)->zC [p] H H'->Q .non H'
theorem okHI {fI:Addr} {fd:FuncData} (T:vL K C) (G:Fun K "__init__" "House.__init__" sHI fI fd) (CI:Cal P w K mg base CX0 1 "is_name" ["thing"] (tM K)) (CNb:Cal P w K mg base CX0 3 "are_neighbours" ["thing","name"] zH2) (CAr:Cal P w K mg base CX0 3 "are_arrows" ["thing","neighbours"] zEC) (MKS:uG P w K mg base CX0 2 CS "Seat" ["self","arrow"] (zBV CS)) (b_list:Blt mg "list") :
  vZ P w K mg base CX0 4 fI fd ["self","name","neighbours","arrows"] (zBW C CS):=by
 refine G.ok scHI (fun vs H Q E h=>by obtain ⟨p,dx,a,b,nm,nb,ars,rfl,_⟩:=h;rfl) (fun cdv A outer s0 H vs Q E hr h=>?_)
 obtain ⟨p,dx,a,b,nm,nb,ars,rfl,hp,ha,hb,gn,gb,nd,nin,lb,nar,lar,arin,q⟩:=h
 have hr3:zO 3 _:=hr
 have hr1:zO 1 _:=hr.mono (by decide)
 refine ⟨_,(zF (yQ (xM (xI (zM CI hr1 (zA (pv 1) zD)))) (zH xA) zV)
   (zF (yQ (xM (xI (zM CNb hr3 (zA (pv 2) (zA (pv 1) zD))))) (zH xA) zV)
   (zF (yQ (xM (xI (zM CAr hr3 (zA (pv 3) (zA (pv 2) zD))))) (zH xA) zV)
   (zF (yX (pv 0) (pv 1) rfl)
   (zF (yX (pv 0) (xE y6 rfl b_list.no wI (zA (pv 2) zD)) rfl)
   (zH (yX (pv 0) (vD (N:=["self","name","neighbours","arrows"]) (sc:=zE sHI) (ix:=[]) (by decide +kernel) (yG (pv 3)) (fun _ _ _ _=>yT) (fun _ _ _ _=>(oH MKS hr3 (zA (pv 0) zD)))) rfl))))))),?_⟩
 refine ⟨_,rfl,.str nm,"str",rfl,.str nm,(fun z e=>by cases e;exact zKH gn.2 (by decide)),fun H1 k1=>⟨_,rfl,ifF (by rw [show uJ (.str nm)=true from gn.1];rfl) ?_⟩⟩
 refine ⟨_,rfl,_,rfl,a,nb,nm,rfl,k1 _ _ (by simp) ha,gb,nd,nin,lb,fun H2 k2=>⟨_,rfl,ifF rfl ?_⟩⟩
 have k02:=k1.trans k2
 refine ⟨_,rfl,_,rfl,b,a,ars,nb,rfl,k02 _ _ (by simp) hb,k02 _ _ (by simp) ha,gb,nar,lar,arin,fun H3 k3=>⟨_,rfl,ifF rfl ?_⟩⟩
 have k03:=k02.trans k3
 have hp3:=k03 _ _ (by simp) hp
 refine ⟨_,rfl,_,rfl,p,C,dx,_,rfl,hp3,T.cl,T.nN,by show 0 < 1000;decide,?_⟩
 generalize hH4:upd H3 p (.ins C dx (yL "name" (.str nm) []))=H4
 have k4:zC [p] H H4:=by rw [<- hH4];exact (k03.mono (by simp)).trans (zC.at (by simp))
 have hp4:H4 p=some (.ins C dx (yL "name" (.str nm) [])):=by rw [<- hH4];exact zB
 have ap:a ≠ p:=fun e=>by rw [e,hp] at ha;cases ha
 have bp:b ≠ p:=fun e=>by rw [e,hp] at hb;cases hb
 refine ⟨_,rfl,a,_,rfl,.inl (.of (k4 _ _ (by simp [ap]) ha)),fun nl hnl=>?_⟩
 have pnl:p ≠ nl:=zG hp4 hnl
 refine ⟨_,rfl,p,C,dx,_,rfl,by rw [zJ pnl];exact hp4,T.cl,T.nB,by show 1 < 1000;decide,?_⟩
 generalize hH5:upd (upd H4 nl (.lst (nb.map V.str))) p (.ins C dx (yL "nearby" (.ref nl) (yL "name" (.str nm) [])))=H5
 have k5:zC [p] H4 H5:=by rw [<- hH5];exact (zC.new hnl).trans (zC.at (by simp))
 have hp5:H5 p=some (.ins C dx (yL "nearby" (.ref nl) (yL "name" (.str nm) []))):=by rw [<- hH5];exact zB
 have hn5:H5 nl=some (.lst (nb.map V.str)):=by rw [<- hH5,zJ pnl.symm];exact zB
 have k05:=k4.trans k5
 have bnl:H nl=none:=k4.none (by simp [pnl.symm]) hnl
 have hb5:=k05 _ _ (by simp [bp]) hb
 refine ⟨_,rfl,b,rfl,⟨_,.of hb5⟩,fun ls hls=>?_⟩
 have pls:p ≠ ls:=zG hp5 hls
 have nlls:nl ≠ ls:=zG hn5 hls
 refine jC (K:=K) (CS:=CS) (a:=b) (its:=ars.map xR) (ss:=yN ars) (by unfold yN;rw [zJ6,zJ6]) (by rw [zJ6];exact lar) hb5 hls rfl (fun i x s kk H6 R hx hs kp h=>?_) fun ps H6 hl hse hfr hpw kp h6=>?_
 ·rw [zKC] at hx
  cases ei:ars[i]? with
  | none=>rw [ei] at hx;cases hx
  | some ar=>
  rw [ei] at hx
  cases zKD hx
  have es:s=⟨ar,[],none,false⟩:=by
   unfold yN at hs
   rw [zKC,ei] at hs
   exact (zKD hs).symm
  subst es
  refine ⟨_,rfl,fun x dx hx hdx ndx=>⟨x,dx,ar,rfl,zB,(fun z e=>by have g:=gb z (arin z (by rw [<- e];exact zKA ei));exact ⟨g.1,zKH g.2 (by decide)⟩),fun wl H7 hwl S7 k7=>⟨rfl,?_⟩⟩⟩
  exact h x wl _ H7 hx (xZ (xZ hwl).1).1 S7 (((zC.new hdx).trans (zC.new (by rw [zJ (Ne.symm ndx)];exact hx))).under k7 (by intro b hb;rw [zJ9.mp hb];exact hx))
 have hp6:=kp _ _ (by simp) hp5
 refine ⟨_,rfl,p,C,dx,_,rfl,hp6,T.cl,T.nS,by show 2 < 1000;decide,?_⟩
 rw [hput]
 have k7:zC [p] H6 (upd H6 p (.ins C dx (hfl (.str nm) nl ls))):=zC.at (by simp)
 have e7:upd H6 p (.ins C dx (hfl (.str nm) nl ls)) p=some (.ins C dx (hfl (.str nm) nl ls)):=zB
 generalize upd H6 p (.ins C dx (hfl (.str nm) nl ls))=H7 at k7 e7
 have H0:∀ {u:Addr},H5 u=none->H u=none/\u ≠ p:=fun {u} hu=>by
  have un:u ≠ p:=fun e=>by rw [e,hp5] at hu;cases hu
  exact ⟨k05.none (by simp [un]) hu,un⟩
 have ntp:∀ b ∈ [p],∀ xs,H6 b ≠ some (.tup xs):=fun b hb xs z=>by rw [zJ9.mp hb,hp6] at z;cases z
 refine q ps H7 ⟨dx,nl,ls,⟨bnl,(H0 hls).1,fun x hx=>⟨(H0 (hfr x hx).1).1,(H0 (hfr x hx).2.1).1⟩,⟨fun x hx=>⟨Ne.symm (zG hn5 (hfr x hx).2.1),(hfr x hx).2.2.2⟩,hpw⟩⟩,e7,k7 _ _ (by simp [pnl.symm]) (kp _ _ (by simp) hn5),k7 _ _ (by simp [pls.symm]) h6,hl,fun i x s e1 e2=>?_⟩ ?_
 ·have sa:=hse i x s e1 e2
  have hx:=hfr x (zKA e1)
  exact sa.keepS k7 (by simpa using (H0 hx.1).2) (by simpa using (H0 hx.2.1).2) ntp
 ·exact (k05.trans (kp.mono (by simp))).trans k7
end
abbrev sWh:Stmt:=top 19
abbrev sCk:Stmt:=top 36
abbrev sSA:Stmt:=z4 (top 32) 5
abbrev zCC:Stmt:=z4 (top 38) 7
abbrev zB9:Stmt:=z4 (top 38) 8
abbrev zCA:Stmt:=z4 (top 38) 9
abbrev zCB:Stmt:=z4 (top 38) 10
abbrev bV:Stmt:=z4 (top 38) 6
theorem uL (nm:V) (nl sl:Addr):(hfl nm nl sl).lookup ("seats" : Str)=some (.ref sl):=rfl
theorem lN {X:Cx} {K:W.Frag} {tg l:Expr} {tl:TE} (hl:PE X l tl) (e:X.K=K:=by rfl):PI X tg l (zEN K tl):=e ▸ yG hl
theorem zER (a:V) (wl:Addr) (h:V) (k:Bool):(xU a wl h k).lookup ("arrow" : Str)=none:=rfl
theorem zJR (a:V) (wl:Addr) (h:V) (k:Bool):(xU a wl h k).lookup ("row" : Str)=none:=rfl
theorem zJT (a:V) (wl:Addr) (h:V) (k:Bool):(xU a wl h k).lookup ("inside" : Str)=none:=rfl
theorem zJU (a:V) (wl:Addr) (h:V) (k:Bool):(xU a wl h k).lookup ("has_asked" : Str)=none:=rfl
theorem zJV (a:V) (wl:Addr) (h:V) (k:Bool):(xU a wl h k).lookup ("askers" : Str)=none:=rfl
def zJX (r:Str × Bool):List V:=[.str r.1,.bl r.2]
def zBF (s:SS):List (Str × Bool):=(match s.hold with | some z=>[(z,false)] | none=>[]) ++ ((s.row.filter fun r=>decide (r.1=("asker" : Str))).map fun r=>(r.2,true))
theorem m9 {l:List (Addr × Addr)} {i:Nat} {x:Addr × Addr} (h:l[i]?=some x):atI (l.map fun x=>V.ref x.1) (i:Int)=some (.ref x.1):=by
 have ol:i < l.length:=(zJ8.mp h).1
 obtain ⟨v,e1,e2⟩:=mV (xs:=l.map fun x=>V.ref x.1) (i:=(i:Int)) (by omega) (by rw [zJ6];omega)
 rw [e1]
 rw [Int.toNat_natCast,zKC,h] at e2
 exact e2.symm
section
variable {P:Program} {w:World} {K:W.Frag} {mg:Str->Option Value} {base:Heap} {C CS:Addr}
theorem scWh:zI ["thing"] ["thing"] (zE sWh):=scm
theorem scCk:zI ["right","many"] ["right","many"] (zE sCk):=scm
theorem zIF:zI ["self","waiting"] ["self"] (zE sSA):=scm
theorem zIQ:zI ["self","right"] ["self","right"] (zE zCC):=scm
theorem zIM:zI ["self","right"] ["self","right"] (zE zB9):=scm
theorem zIN:zI ["self","right"] ["self","right"] (zE zCA):=scm
theorem zIO:zI ["self","right"] ["self","right"] (zE zCB):=scm
theorem zIP:zI ["self"] ["self"] (zE bV):=scm
def zHP:Sp:=fun vs H Q _=>∃ i:Int,vs=[.int i]/\Q (.bl true) H
theorem okWh (G:yB K mg "is_whole" sWh ["thing"]) (b_isinstance:Blt mg "isinstance") (b_int:Blt mg "int") (b_bool:Blt mg "bool"):Cal P w K mg base CX0 1 "is_whole" ["thing"] zHP:=by
 refine G.ok scWh (fun vs H Q E h=>by obtain ⟨i,rfl,_⟩:=h;rfl) (fun f cdv A outer s H vs Q E hr h=>?_)
 obtain ⟨i,rfl,q⟩:=h
 refine ⟨_,(zH (zL (vI (zP xP b_isinstance zN (zA (pv 0) (zA (sA b_int zBC) zD))) (uI (zFV (zP xP b_isinstance zN (zA (pv 0) (zA (sA b_bool zDR) zD)))))))),?_⟩
 have pt:yS K H (.int i) "int":=.int i
 exact ⟨_,rfl,_,_,_,true,rfl,pt.ty,pt.kit.2.1,_,rfl,ifT rfl ⟨_,rfl,_,_,_,false,rfl,pt.ty,pt.kit.2.2.1,_,rfl,q⟩⟩
def fY:Sp:=fun vs H Q _=>∃ i n:Int,vs=[.int i,.int n]/\0 <= i/\i < n/\Q .non H
theorem okCk (G:yB K mg "check_right" sCk ["right","many"]) (CW:Cal P w K mg base CX0 1 "is_whole" ["thing"] zHP):Cal P w K mg base CX0 2 "check_right" ["right","many"] fY:=by
 refine G.ok scCk (fun vs H Q E h=>by obtain ⟨i,n,rfl,_⟩:=h;rfl) (fun f cdv A outer s H vs Q E hr h=>?_)
 obtain ⟨i,n,rfl,h0,h1,q⟩:=h
 have hr1:zO 1 _:=hr
 refine ⟨_,(zH (yQ (PW.pt (uA (xM (xI (zM CW hr1 (zA (pv 0) zD)))) (vC (xM (aE aV zEM zK (pv 0) (pv 1)))))) (zH xA) zV)),?_⟩
 refine ⟨_,rfl,i,rfl,_,rfl,ifF rfl ?_⟩
 refine ⟨_,rfl,_,_,rfl,rfl,_,rfl,ifT (zKL h0) ⟨_,rfl,_,_,rfl,rfl,_,rfl,ifF ?_ q⟩⟩
 rw [zKL h1];rfl
def zEB (C CS:Addr):Sp:=fun vs H Q _=>∃ (B:Addr->Prop) (p:Addr) (i:Nat) (nm:Str) (nb:List Str) (xs:List (Addr × Addr)) (ss:List SS) (s:SS),vs=[.ref p,.int i]/\yK B C CS H p nm nb xs ss/\ss[i]?=some s/\Q (xR s.ptr) H
theorem zJD (T:vL K C) (TS:vA K CS) (G:yI K C "arrow" "House.arrow" zCC ["self","right"]) (CK:Cal P w K mg base CX0 2 "check_right" ["right","many"] fY) (MA:z8 P w K mg base CX0 1 CS "arrow" ["self"] (nI CS)) (b_len:Blt mg "len"):z8 P w K mg base CX0 3 C "arrow" ["self","right"] (zEB C CS):=by
 refine G.ok zIQ (fun vs H Q E h=>by obtain ⟨B,p,i,nm,nb,xs,ss,s,rfl,_⟩:=h;rfl) (fun f cdv A outer s0 H vs Q E hr h=>?_)
 obtain ⟨B,p,i,nm,nb,xs,ss,s,rfl,⟨dx,nl,sl,_,hp,hnl,hsl,hxs,hse⟩,es,q⟩:=h
 have hr2:zO 2 _:=hr
 have hr1:zO 1 _:=hr.mono (by decide)
 have il:i < xs.length:=by rw [hxs];exact (zJ8.mp es).1
 have ex:xs[i]?=some xs[i]:=zJ7 il
 generalize xs[i]=x at ex
 have S:=hse i x s ex es
 obtain ⟨dx2,hob⟩:=S.ob
 refine ⟨_,(zF (z9 (zM CK hr2 (zA (pv 1) (zA (zP yD b_len y8 (zA (zQ (pv 0) rfl) zD)) zD))))
   (zH (zL (yP MA TS.cl hr1 (yJ zT (zQ (pv 0) rfl) (pv 1) (fun _ _=>rfl)))))),?_⟩
 refine ⟨_,rfl,_,rfl,p,C,dx,_,_,rfl,hp,T.cl,T.nS,uL _ _ _,_,_,rfl,.inl ⟨_,.of hsl,rfl⟩,_,_,rfl,by omega,by rw [zJ6];omega,?_⟩
 exact ⟨_,rfl,p,C,dx,_,_,rfl,hp,T.cl,T.nS,uL _ _ _,_,rfl,sl,_,i,_,rfl,rfl,hsl,m9 ex,x.1,dx2,_,rfl,hob,zER _ _ _ _,x.1,x.2,s,rfl,S,q⟩
def zD8 (C CS:Addr):Sp:=fun vs H Q _=>∃ (B:Addr->Prop) (p:Addr) (i:Nat) (nm:Str) (nb:List Str) (xs:List (Addr × Addr)) (ss:List SS) (s:SS),vs=[.ref p,.int i]/\yK B C CS H p nm nb xs ss/\ss[i]?=some s/\∀ (r:Addr) (H':Hp),H r=none->Rows H' r (s.row.map uU)->zC [] H H'->Q (.ref r) H'
theorem zI9 (T:vL K C) (TS:vA K CS) (G:yI K C "row" "House.row" zB9 ["self","right"]) (CK:Cal P w K mg base CX0 2 "check_right" ["right","many"] fY) (MR:z8 P w K mg base CX0 1 CS "row" ["self"] (zD6 CS)) (b_len:Blt mg "len"):z8 P w K mg base CX0 3 C "row" ["self","right"] (zD8 C CS):=by
 refine G.ok zIM (fun vs H Q E h=>by obtain ⟨B,p,i,nm,nb,xs,ss,s,rfl,_⟩:=h;rfl) (fun f cdv A outer s0 H vs Q E hr h=>?_)
 obtain ⟨B,p,i,nm,nb,xs,ss,s,rfl,⟨dx,nl,sl,_,hp,hnl,hsl,hxs,hse⟩,es,q⟩:=h
 have hr2:zO 2 _:=hr
 have hr1:zO 1 _:=hr.mono (by decide)
 have il:i < xs.length:=by rw [hxs];exact (zJ8.mp es).1
 have ex:xs[i]?=some xs[i]:=zJ7 il
 generalize xs[i]=x at ex
 have S:=hse i x s ex es
 obtain ⟨dx2,hob⟩:=S.ob
 refine ⟨_,(zF (z9 (zM CK hr2 (zA (pv 1) (zA (zP yD b_len y8 (zA (zQ (pv 0) rfl) zD)) zD))))
   (zH (zL (yP MR TS.cl hr1 (yJ zT (zQ (pv 0) rfl) (pv 1) (fun _ _=>rfl)))))),?_⟩
 refine ⟨_,rfl,_,rfl,p,C,dx,_,_,rfl,hp,T.cl,T.nS,uL _ _ _,_,_,rfl,.inl ⟨_,.of hsl,rfl⟩,_,_,rfl,by omega,by rw [zJ6];omega,?_⟩
 exact ⟨_,rfl,p,C,dx,_,_,rfl,hp,T.cl,T.nS,uL _ _ _,_,rfl,sl,_,i,_,rfl,rfl,hsl,m9 ex,x.1,dx2,_,rfl,hob,zJR _ _ _ _,x.1,x.2,s,rfl,S,q⟩
def zD9 (C CS:Addr):Sp:=fun vs H Q _=>∃ (B:Addr->Prop) (p:Addr) (i:Nat) (nm:Str) (nb:List Str) (xs:List (Addr × Addr)) (ss:List SS) (s:SS),vs=[.ref p,.int i]/\yK B C CS H p nm nb xs ss/\ss[i]?=some s/\Q (xR s.hold) H
theorem zJA (T:vL K C) (TS:vA K CS) (G:yI K C "inside" "House.inside" zCA ["self","right"]) (CK:Cal P w K mg base CX0 2 "check_right" ["right","many"] fY) (MI:z8 P w K mg base CX0 1 CS "inside" ["self"] (m6 CS)) (b_len:Blt mg "len"):z8 P w K mg base CX0 3 C "inside" ["self","right"] (zD9 C CS):=by
 refine G.ok zIN (fun vs H Q E h=>by obtain ⟨B,p,i,nm,nb,xs,ss,s,rfl,_⟩:=h;rfl) (fun f cdv A outer s0 H vs Q E hr h=>?_)
 obtain ⟨B,p,i,nm,nb,xs,ss,s,rfl,⟨dx,nl,sl,_,hp,hnl,hsl,hxs,hse⟩,es,q⟩:=h
 have hr2:zO 2 _:=hr
 have hr1:zO 1 _:=hr.mono (by decide)
 have il:i < xs.length:=by rw [hxs];exact (zJ8.mp es).1
 have ex:xs[i]?=some xs[i]:=zJ7 il
 generalize xs[i]=x at ex
 have S:=hse i x s ex es
 obtain ⟨dx2,hob⟩:=S.ob
 refine ⟨_,(zF (z9 (zM CK hr2 (zA (pv 1) (zA (zP yD b_len y8 (zA (zQ (pv 0) rfl) zD)) zD))))
   (zH (zL (yP MI TS.cl hr1 (yJ zT (zQ (pv 0) rfl) (pv 1) (fun _ _=>rfl)))))),?_⟩
 refine ⟨_,rfl,_,rfl,p,C,dx,_,_,rfl,hp,T.cl,T.nS,uL _ _ _,_,_,rfl,.inl ⟨_,.of hsl,rfl⟩,_,_,rfl,by omega,by rw [zJ6];omega,?_⟩
 exact ⟨_,rfl,p,C,dx,_,_,rfl,hp,T.cl,T.nS,uL _ _ _,_,rfl,sl,_,i,_,rfl,rfl,hsl,m9 ex,x.1,dx2,_,rfl,hob,zJT _ _ _ _,x.1,x.2,s,rfl,S,q⟩
def zEA (C CS:Addr):Sp:=fun vs H Q _=>∃ (B:Addr->Prop) (p:Addr) (i:Nat) (nm:Str) (nb:List Str) (xs:List (Addr × Addr)) (ss:List SS) (s:SS),vs=[.ref p,.int i]/\yK B C CS H p nm nb xs ss/\ss[i]?=some s/\Q (.bl s.asked) H
theorem zJB (T:vL K C) (TS:vA K CS) (G:yI K C "has_asked" "House.has_asked" zCB ["self","right"]) (CK:Cal P w K mg base CX0 2 "check_right" ["right","many"] fY) (MHa:z8 P w K mg base CX0 1 CS "has_asked" ["self"] (zD7 CS)) (b_len:Blt mg "len"):z8 P w K mg base CX0 3 C "has_asked" ["self","right"] (zEA C CS):=by
 refine G.ok zIO (fun vs H Q E h=>by obtain ⟨B,p,i,nm,nb,xs,ss,s,rfl,_⟩:=h;rfl) (fun f cdv A outer s0 H vs Q E hr h=>?_)
 obtain ⟨B,p,i,nm,nb,xs,ss,s,rfl,⟨dx,nl,sl,_,hp,hnl,hsl,hxs,hse⟩,es,q⟩:=h
 have hr2:zO 2 _:=hr
 have hr1:zO 1 _:=hr.mono (by decide)
 have il:i < xs.length:=by rw [hxs];exact (zJ8.mp es).1
 have ex:xs[i]?=some xs[i]:=zJ7 il
 generalize xs[i]=x at ex
 have S:=hse i x s ex es
 obtain ⟨dx2,hob⟩:=S.ob
 refine ⟨_,(zF (z9 (zM CK hr2 (zA (pv 1) (zA (zP yD b_len y8 (zA (zQ (pv 0) rfl) zD)) zD))))
   (zH (zL (yP MHa TS.cl hr1 (yJ zT (zQ (pv 0) rfl) (pv 1) (fun _ _=>rfl)))))),?_⟩
 refine ⟨_,rfl,_,rfl,p,C,dx,_,_,rfl,hp,T.cl,T.nS,uL _ _ _,_,_,rfl,.inl ⟨_,.of hsl,rfl⟩,_,_,rfl,by omega,by rw [zJ6];omega,?_⟩
 exact ⟨_,rfl,p,C,dx,_,_,rfl,hp,T.cl,T.nS,uL _ _ _,_,rfl,sl,_,i,_,rfl,rfl,hsl,m9 ex,x.1,dx2,_,rfl,hob,zJU _ _ _ _,x.1,x.2,s,rfl,S,q⟩
def zHW (CS:Addr):Sp:=fun vs H Q _=>∃ (p wl:Addr) (s:SS),vs=[.ref p]/\yF CS H p wl s/\∀ (r:Addr) (H':Hp),Rows H' r ((zBF s).map zJX)->H r=none->zC [] H H'->Q (.ref r) H'
theorem okSA (TS:vA K CS) (G:yI K CS "askers" "Seat.askers" sSA ["self"]):z8 P w K mg base CX0 1 CS "askers" ["self"] (zHW CS):=by
 refine G.ok zIF (fun vs H Q E h=>by obtain ⟨p,wl,s,rfl,_⟩:=h;rfl) (fun f cdv A outer s0 H vs Q E hr h=>?_)
 obtain ⟨p,wl,s,rfl,S,q⟩:=h
 obtain ⟨⟨dx,hob⟩,hrw,hlen⟩:=id S
 obtain ⟨qs,hwl,hqp⟩:=id hrw
 refine ⟨_,(zF (eS (i:=1) zIF.nd rfl (Or.inl rfl) (N:=["self","waiting"]) (sc:=zE sSA) (ix:=[]) (by decide +kernel) (yG (zQ (pv 0) rfl)) (fun _ _ _ _=>(t9 (zU uY (pv 0) xD (zW _)))) (fun _ _ _ _=>(wJ (zA (pv 1) (zA wY zD)))))
   (zH (zL (sC (zU qY (zQ (pv 0) rfl) wO (zW _)) (pv 1) (yC vS (zX (zA (wJ (zA (zQ (pv 0) rfl) (zA wY zD))) zD)) (pv 1)))))),?_⟩
 refine ⟨_,rfl,p,CS,dx,_,_,rfl,hob,TS.cl,TS.nW,jH _ _ _ _,wl,rfl,⟨_,.of hwl⟩,fun c1 hc1=>?_⟩
 refine fE (ds:=s.row) uU (fun r=>[.str r.2,.bl true]) (fun r=>decide (r.1=("asker" : Str))) (fun r _=>[some (.str r.1),some (.str r.2)]) [] (by omega) hc1 hrw ⟨[none,none],rfl,rfl⟩ (fun _ _=>rfl) ?_ ?_ ?_ ?_
 ·intro r q vs H R _ hv hq h
  match vs,hv with
  | [v1,v2],_=>exact ⟨q,_,rfl,.of hq,rfl,_,_,rfl,_,_,rfl,rfl,h⟩
 ·intro r q H R _ _ _ h
  refine ⟨_,rfl,rfl,_,rfl,?_⟩
  rw [show decide (V.str r.1=V.str "asker")=decide (r.1=("asker" : Str)) by simp]
  exact h H (zC.refl _)
 ·intro r q H R _ _ h
  exact ⟨_,rfl,by show 2 <= sizeLine;decide,fun t ht=>h t _ (zC.new ht) zB⟩
 intro H2 hR k2
 obtain ⟨ts,hts,htp⟩:=hR
 have e1:((s.row.filter fun r=>decide (r.1=("asker" : Str))).map fun r=>[V.str r.2,.bl true])=((s.row.filter fun r=>decide (r.1=("asker" : Str))).map fun r=>(r.2,true)).map zJX:=by rw [List.map_map];rfl
 rw [e1] at htp
 have hob2:=k2 _ _ (by simp) hob
 refine ⟨_,rfl,p,CS,dx,_,_,rfl,hob2,TS.cl,TS.nH,dR _ _ _ _,rfl,_,rfl,?_⟩
 cases eh:s.hold with
 | none=>
  refine ifT rfl ⟨_,rfl,q c1 H2 ⟨ts,hts,?_⟩ hc1 k2⟩
  unfold zBF
  rw [eh]
  exact htp
 | some z=>
  refine ifF rfl ?_
  rw [eh] at hob2
  refine ⟨_,rfl,p,CS,dx,_,_,rfl,hob2,TS.cl,TS.nH,dR _ _ _ _,by show 2 <= sizeLine;decide,fun t ht=>⟨by show 1 <= sizeLine;decide,fun l1 hl1=>?_⟩⟩
  have k3:zC [] H2 (upd H2 t (.tup [.str z,.bl false])):=zC.new ht
  have e3:upd H2 t (.tup [.str z,.bl false]) t=some (.tup [.str z,.bl false]):=zB
  have hl1':upd H2 t (.tup [.str z,.bl false]) l1=none:=hl1
  have k4:zC [] (upd H2 t (.tup [.str z,.bl false])) (upd (upd H2 t (.tup [.str z,.bl false])) l1 (.lst [.ref t])):=zC.new hl1'
  have e4:upd (upd H2 t (.tup [.str z,.bl false])) l1 (.lst [.ref t]) l1=some (.lst [.ref t]):=zB
  have e34:=k4 _ _ (by simp) e3
  have k24:=k3.trans k4
  have lt:=zS htp
  rw [zJ6,zJ6] at lt
  have lf:=zK4 (fun r:Str × Str=>decide (r.1=("asker" : Str))) s.row
  refine ⟨_,rfl,l1,c1,_,_,rfl,rfl,e4,k24 _ _ (by simp) hts,by rw [zJ6,sizeLine_eq];show 1 + _ <= _;omega,fun l2 hl2=>?_⟩
  have k5:zC [] (upd (upd H2 t (.tup [.str z,.bl false])) l1 (.lst [.ref t])) (upd (upd (upd H2 t (.tup [.str z,.bl false])) l1 (.lst [.ref t])) l2 (.lst ((t :: ts).map V.ref))):=zC.new hl2
  refine q l2 _ ⟨t :: ts,zB,?_⟩ (k2.none (by simp) (k24.none (by simp) hl2)) (k2.trans (k24.trans k5))
  unfold zBF
  rw [eh]
  exact .cons (k5 _ _ (by simp) e34) (L2.Paired.mapP htp fun u r e=>(k24.trans k5) _ _ (by simp) e)
end
abbrev sNu:Stmt:=top 37
abbrev sRW:Stmt:=z4 (top 38) 15
abbrev sHW:Stmt:=z4 (top 38) 1
theorem aX {X:Cx} {K:W.Frag} (e:X.K=K:=by rfl):OpR X (binaryOp .Add) (aC K):=e ▸ zCS
theorem bM {X:Cx} {K:W.Frag} (e:X.K=K:=by rfl):SlR X (zFP K):=e ▸ zBZ
theorem at0 {α:Type} (x:α) (l:List α):atI (x :: l) 0=some x:=qI (j:=0) rfl
theorem at1 {α:Type} (x y:α) (l:List α):atI (x :: y :: l) 1=some y:=qI (j:=1) rfl
theorem d5 (x:V) (l:List V):rM (x :: l) (some 1) none=l:=by
 unfold rM
 rw [show (1:Int)=((1:Nat):Int) from rfl,HT.sIx_nat]
 simp only [zKR]
 rw [show min 1 (l.length + 1)=1 by omega]
 show l.take _=l
 rw [zKV]
 show l.length <= HT.sIx (l.length + 1) (l.length + 1) none - 1
 unfold HT.sIx
 simp
theorem lP {X:Cx} {e:Expr}:PE X e (fun _ _ _=>False):=fun _ _ _ _ _ _ h=>h.elim
def zGJ (i:Nat):List V->List V
 | []=>[]
 | x :: l=>x :: .int (i:Int) :: l
theorem zJL (nm:V) (nl sl:Addr):(hfl nm nl sl).lookup ("askers" : Str)=none:=rfl
theorem zJK (nm:V) (nl sl:Addr):(hfl nm nl sl).lookup ("rights_wanted" : Str)=none:=rfl
theorem zJP (a:V) (wl:Addr) (h:V) (k:Bool):(xU a wl h k).lookup ("want" : Str)=none:=rfl
theorem iJ (s:SS):(∀ l ∈ (vT s).2,l ≠ []/\l.length <= 10)/\(vT s).2.length <= 100:=by
 unfold vT
 split
 ·exact ⟨fun l hl=>(by cases hl),zKG _⟩
 ·rename_i hne
  split
  ·split
   ·unfold vQ
    split
    ·rename_i er;rw [er] at hne;exact absurd rfl hne
    ·split
     ·exact ⟨fun l hl=>by rw [zJ9.mp hl];exact ⟨by simp,by show 2 <= 10;decide⟩,by show 1 <= 100;decide⟩
     ·exact ⟨fun l hl=>by rw [zJ9.mp hl];exact ⟨by simp,by show 3 <= 10;decide⟩,by show 1 <= 100;decide⟩
   ·exact ⟨fun l hl=>(by cases hl),zKG _⟩
  ·split
   ·exact ⟨fun l hl=>(by cases hl),zKG _⟩
   ·exact ⟨fun l hl=>by rw [zJ9.mp hl];exact ⟨by simp,by show 2 <= 10;decide⟩,by show 1 <= 100;decide⟩
section
variable {P:Program} {w:World} {K:W.Frag} {mg:Str->Option Value} {base:Heap} {C CS:Addr}
theorem scNu:zI ["right","told"] ["right","told"] (zE sNu):=scm
theorem scRW:zI ["self"] ["self"] (zE sRW):=scm
theorem zIK:zI ["self","asker","right","number"] ["self","asker","right"] (zE sHW):=scm
def zH0:Sp:=fun vs H Q _=>∃ (i:Nat) (a:Addr) (ls:List (List V)),vs=[.int (i:Int),.ref a]/\Rows H a ls/\(∀ l ∈ ls,l ≠ []/\l.length <= 10)/\ls.length <= 100/\∀ (r:Addr) (H':Hp),Rows H' r (ls.map (zGJ i))->H r=none->zC [] H H'->Q (.ref r) H'
theorem dE {K:W.Frag} {i:Nat} {q:Addr} {l:List V} {H:Hp} {R:VK} (n:l ≠ []/\l.length <= 10) (hq:H q=some (.tup l)) (h:∀ t H',zC [] H H'->H' t=some (.tup (zGJ i l))->R (.ref t) H') :
  tOp (aC K) (zHG (oA (tOp zEI (tY 0) (tC (.int 0))) (oA (tY 1) o8))) (tSl (zFP K) (tY 0) (zD3 (tC (.int 1))) hZ) [some (.ref q),some (.int (i:Int))] H R:=by
 obtain ⟨n1,n2⟩:=n
 cases l with
 | nil=>exact absurd rfl n1
 | cons x l=>
 have l10:l.length <= 9:=by simpa using n2
 refine ⟨_,rfl,q,_,0,x,rfl,rfl,hq,at0 _ _,_,rfl,by show 2 <= sizeLine;decide,fun u hu=>?_⟩
 have k1:zC [] H (upd H u (.tup [x,.int (i:Int)])):=zC.new hu
 have e1:upd H u (.tup [x,.int (i:Int)]) u=some (.tup [x,.int (i:Int)]):=zB
 have hq1:=k1 _ _ (by simp) hq
 generalize upd H u (.tup [x,.int (i:Int)])=H1 at k1 e1 hq1 ⊢
 refine ⟨_,rfl,_,rfl,q,_,rfl,.of hq1,.inr ⟨?_,fun v hv=>?_⟩⟩
 ·rintro ⟨e,_⟩
  rw [show (1:Int)=((1:Nat):Int) from rfl,HT.sIx_nat] at e
  simp only [zKR] at e
  omega
 rw [d5]
 have k2:zC [] H1 (upd H1 v (.tup l)):=zC.new hv
 have e2:=k2 _ _ (by simp) e1
 have e3:upd H1 v (.tup l) v=some (.tup l):=zB
 generalize upd H1 v (.tup l)=H2 at k2 e2 e3 ⊢
 refine ⟨u,v,[x,.int (i:Int)],l,rfl,rfl,.of e2,.of e3,by simp,by rw [sizeLine_eq];show 2 + _ <= _;omega,fun e=>?_,fun _ p hp=>?_⟩
 ·subst e
  exact h u H2 (k1.trans k2) e2
 ·exact h p _ ((k1.trans k2).trans (zC.new hp)) zB
theorem okNu (G:yB K mg "numbered" sNu ["right","told"]):Cal P w K mg base CX0 1 "numbered" ["right","told"] zH0:=by
 refine G.ok scNu (fun vs H Q E h=>by obtain ⟨i,a,ls,rfl,_⟩:=h;rfl) (fun f cdv A outer s0 H vs Q E hr h=>?_)
 obtain ⟨i,a,ls,rfl,R,hl,ll,q⟩:=h
 obtain ⟨ps,hps,hpp⟩:=id R
 refine ⟨_,(zH (zL (vD (N:=["right","told"]) (sc:=zE sNu) (ix:=[0]) (by decide +kernel) (yG (pv 1)) (fun _ _ _ _=>yT) (fun _ _ _ _=>(yC (aX (K:=K)) (wJ (zA (yJ zDA (pv 0) zK (fun _ _=>rfl)) (zA (pv 1) zD))) (vG (bM (K:=K)) (pv 0) (vM zK) uB)))))),?_⟩
 refine ⟨_,rfl,a,rfl,⟨_,.of hps⟩,fun acc hacc=>?_⟩
 refine fE (ds:=ls) id (zGJ i) (fun _=>true) (fun l q=>[some (.ref q)]) [some (.int (i:Int))] (by omega) hacc (by rw [List.map_id];exact R) ⟨[none],rfl,rfl⟩ (fun _ _=>rfl) ?_ ?_ ?_ ?_
 ·intro l q vs H R _ hv hq h
  match vs,hv with
  | [v],_=>exact h
 ·intro l q H R _ _ _ h
  exact h H (zC.refl _)
 ·intro l q H R hm hq h
  exact dE (hl l hm) hq h
 ·intro H' hR k
  rw [List.filter_eq_self.mpr (fun _ _=>rfl)] at hR
  exact q acc H' hR hacc k
theorem sT {ars:List (Option Str)} {i:Nat} {s:SS} (h:(yN ars)[i]?=some s):∃ a,ars[i]?=some a/\s=⟨a,[],none,false⟩:=by
 unfold yN at h
 rw [zKC] at h
 cases e:ars[i]? with
 | none=>rw [e] at h;cases h
 | some a=>rw [e] at h;exact ⟨a,rfl,(zKD h).symm⟩
def bE (C CS:Addr):Sp:=fun vs H Q _=>∃ (B:Addr->Prop) (p:Addr) (nm:Str) (nb:List Str) (xs:List (Addr × Addr)) (ars:List (Option Str)),vs=[.ref p]/\yK B C CS H p nm nb xs (yN ars)/\∀ (l:Addr) (H':Hp),H' l=some (.lst [])->H l=none->zC [] H H'->Q (.ref l) H'
theorem zJC (T:vL K C) (TS:vA K CS) (G:yI K C "askers" "House.askers" bV ["self"]) (MAs:z8 P w K mg base CX0 1 CS "askers" ["self"] (zHW CS)) (b_sorted:Blt mg "sorted") (b_enumerate:Blt mg "enumerate"):z8 P w K mg base CX0 2 C "askers" ["self"] (bE C CS):=by
 refine G.ok zIP (fun vs H Q E h=>by obtain ⟨B,p,nm,nb,xs,ars,rfl,_⟩:=h;rfl) (fun f cdv A outer s0 H vs Q E hr h=>?_)
 obtain ⟨B,p,nm,nb,xs,ars,rfl,⟨dx,nl,sl,_,hp,hnl,hsl,hxs,hse⟩,q⟩:=h
 have hr1:zO 1 _:=hr
 refine ⟨_,(zH (zL (zP w6 b_sorted vP (zA (zCK (N:=["self"]) (sc:=zE bV) (ix:=[]) (by decide +kernel) (aK rfl b_enumerate.no (zQ (pv 0) rfl)) (fun _ _ _ _=>lN (K:=K) (yP MAs TS.cl hr1 (pv 1))) (fun _ _ _ _=>yT) (fun _ _ _ _=>yT) (fun _ _ _ _=>(wJ (zA (pv 2) (zA (pv 0) (zA (pv 3) zD)))))) zD)))),?_⟩
 refine ⟨_,rfl,p,C,dx,_,_,rfl,hp,T.cl,T.nS,uL _ _ _,sl,rfl,⟨_,.of hsl⟩,fun acc hacc=>?_⟩
 have sa:sl ≠ acc:=zG hsl hacc
 refine zAL (K:=K) (a:=sl) (k:=0) (its:=xs.map fun x=>V.ref x.1) (fun i ys τ H1=>∃ (v0 v1 v2 v3:Option V),τ=[v0,v1,v2,v3]/\ys=[]/\zC [acc] H H1/\H1 acc=some (.lst [])) ⟨_,_,_,_,rfl,rfl,zC.at (by simp),zB⟩ (fun i ys τ H1 _ ⟨_,_,_,_,_,_,k,_⟩=>.of (k _ _ (by simp [sa]) hsl)) ?_ ?_
 ·rintro i ys τ H1 x TT hx ⟨v0,v1,v2,v3,rfl,rfl,k1,h1⟩ hTT
  rw [zKC] at hx
  cases ex:xs[i]? with
  | none=>rw [ex] at hx;cases hx
  | some y=>
  rw [ex] at hx
  have ey:V.ref y.1=x:=zKD hx
  subst ey
  have il:i < (yN ars).length:=by rw [<- hxs];exact (zJ8.mp ex).1
  have es:=zJ7 il
  generalize (yN ars)[i]=s at es
  have S:=hse i y _ ex es
  obtain ⟨ar,_,rfl⟩:=sT es
  have k2:zC [] H1 (upd H1 TT (.tup [.int (0 + (i:Int)),.ref y.1])):=zC.new hTT
  have e2:upd H1 TT (.tup [.int (0 + (i:Int)),.ref y.1]) TT=some (.tup [.int (0 + (i:Int)),.ref y.1]):=zB
  generalize upd H1 TT (.tup [.int (0 + (i:Int)),.ref y.1])=H2 at k2 e2 ⊢
  have S2:=(S.keep (k1.drop hacc)).keep k2
  obtain ⟨dy,hob⟩:=S2.ob
  refine ⟨TT,_,rfl,.of e2,rfl,_,_,rfl,_,_,rfl,rfl,?_⟩
  refine ⟨_,rfl,y.1,dy,_,rfl,hob,zJV _ _ _ _,y.1,y.2,_,rfl,S2,fun r H3 hR hr k3=>⟨r,rfl,?_⟩⟩
  obtain ⟨rs,hrs,hrp⟩:=hR
  have k23:=k2.trans k3
  have h3:=k23 _ _ (by simp) h1
  have ra:r ≠ acc:=Ne.symm (zG (k2 _ _ (by simp) h1) hr)
  have e0:rs=[]:=List.length_eq_zero_iff.mp (zS hrp)
  subst e0
  refine ⟨⟨_,.of hrs⟩,?_⟩
  refine zAP (K:=K) (its:=[]) (fun j ys τ H4=>∃ (w2 w3:Option V),τ=[some (.int (0 + (i:Int))),some (.ref y.1),w2,w3]/\ys=[]/\zC [acc] H3 H4/\H4 acc=some (.lst [])) ?_ ?_ ?_ ?_
  ·exact ⟨v2,v3,rfl,rfl,zC.refl _,h3⟩
  ·rintro j ys τ H4 ⟨w2,w3,rfl,rfl,k4,h4⟩
   exact ⟨h4,by rw [sizeLine_eq];show 0 < _;decide,.of (k4 _ _ (by simp [ra]) hrs)⟩
  ·rintro j ys τ H4 x hx _
   simp at hx
  ·rintro ys τ H4 ⟨w2,w3,rfl,rfl,k4,h4⟩
   exact ⟨_,_,_,_,rfl,rfl,(k1.trans (k23.mono (by simp))).trans k4,h4⟩
 ·rintro ys τ H1 ⟨v0,v1,v2,v3,rfl,rfl,k1,h1⟩
  refine ⟨acc,[],rfl,h1,by decide,?_⟩
  intro b zs' hb hp' _
  have:zs'=[]:=hp'.eq_nil
  subst this
  have k1':=k1.drop hacc
  exact q b _ zB (k1'.none (by simp) hb) (k1'.trans (zC.new hb))
def zHY (C CS:Addr):Sp:=fun vs H Q _=>∃ (B:Addr->Prop) (p:Addr) (nm:Str) (nb:List Str) (xs:List (Addr × Addr)) (ars:List (Option Str)),vs=[.ref p]/\yK B C CS H p nm nb xs (yN ars)/\∀ (l:Addr) (H':Hp),H' l=some (.dK [])->zC [] H H'->Q (.ref l) H'
theorem okRW (T:vL K C) (G:yI K C "rights_wanted" "House.rights_wanted" sRW ["self"]) (MHAs:z8 P w K mg base CX0 2 C "askers" ["self"] (bE C CS)):z8 P w K mg base CX0 3 C "rights_wanted" ["self"] (zHY C CS):=by
 refine G.ok scRW (fun vs H Q E h=>by obtain ⟨B,p,nm,nb,xs,ars,rfl,_⟩:=h;rfl) (fun f cdv A outer s0 H vs Q E hr h=>?_)
 obtain ⟨B,p,nm,nb,xs,ars,rfl,hh,q⟩:=h
 obtain ⟨dx,nl,sl,_,hp,hnl,hsl,hxs,hse⟩:=id hh
 have hr2:zO 2 _:=hr
 refine ⟨_,(zH (zL (zFZ (N:=["self"]) (sc:=zE sRW) (ix:=[]) (by decide +kernel) (yG (yP MHAs T.cl hr2 (pv 0))) (fun _ _ _ _=>yT) (fun _ _ _ _=>(pv 0)) (fun _ _ _ _=>(pv 1))))),?_⟩
 refine ⟨_,rfl,p,dx,_,rfl,hp,zJL _ _ _,B,p,nm,nb,xs,ars,rfl,hh,fun l H1 hl n1 k1=>⟨l,rfl,⟨_,.of hl⟩,fun acc hacc=>?_⟩⟩
 have la:l ≠ acc:=zG hl hacc
 refine sX (K:=K) (a:=l) (its:=[]) (by decide) (fun i ys τ H2=>ys=[]/\zC [acc] H1 H2/\H2 acc=some (.dK [])) ⟨rfl,zC.at (by simp),zB⟩ ?_ ?_ ?_
 ·rintro i ys τ H2 ⟨rfl,k2,h2⟩
  exact ⟨h2,zKG _,.of (k2 _ _ (by simp [la]) hl)⟩
 ·rintro i ys τ H2 x hx _
  simp at hx
 ·rintro ys τ H2 ⟨rfl,k2,h2⟩
  exact q acc H2 h2 (k1.trans (k2.drop hacc))
def zH6 (C CS:Addr):Sp:=fun vs H Q _=>∃ (B:Addr->Prop) (p:Addr) (nm:Str) (nb:List Str) (xs:List (Addr × Addr)) (ars:List (Option Str)) (z:Str) (x:Addr × Addr),vs=[.ref p,.str z,.int 0]/\yK B C CS H p nm nb xs (yN ars)/\xY z/\xs[0]?=some x/\∀ (r:Addr) (H':Hp),zC [x.1,x.2] H H'->Q (.ref r) H'
theorem okHW (T:vL K C) (TS:vA K CS) (G:yI K C "want" "House.want" sHW ["self","asker","right"]) (CC:Cal P w K mg base CX0 2 "check_asker" ["asker"] j4) (CK:Cal P w K mg base CX0 2 "check_right" ["right","many"] fY) (MRW:z8 P w K mg base CX0 3 C "rights_wanted" ["self"] (zHY C CS)) (MW:z8 P w K mg base CX0 3 CS "want" ["self","asker"] (c7 CS)) (CNu:Cal P w K mg base CX0 1 "numbered" ["right","told"] zH0) (b_len:Blt mg "len"):z8 P w K mg base CX0 4 C "want" ["self","asker","right"] (zH6 C CS):=by
 refine G.ok zIK (fun vs H Q E h=>by obtain ⟨B,p,nm,nb,xs,ars,z,x,rfl,_⟩:=h;rfl) (fun f cdv A outer s0 H vs Q E hr h=>?_)
 obtain ⟨B,p,nm,nb,xs,ars,z,x,rfl,hh,gz,ex,q⟩:=h
 have hr3:zO 3 _:=hr
 have hr2:zO 2 _:=hr.mono (by decide)
 have hr1:zO 1 _:=hr.mono (by decide)
 have hu:=uT hr
 obtain ⟨dx,nl,sl,_,hp,hnl,hsl,hxs,hse⟩:=id hh
 have xl:0 < xs.length:=(zJ8.mp ex).1
 have es:=zJ7 (l:=yN ars) (i:=0) (by omega)
 generalize (yN ars)[0]=s at es
 have S0:=hse 0 x s ex es
 obtain ⟨ar,_,rfl⟩:=sT es
 refine ⟨_,(zF (z9 (zM CC hr2 (zA (pv 1) zD)))
   (zF (yQ (zU n8 (pv 2) wO (zW _)) (zH (z9 (zM CK hr2 (zA (pv 2) (zA (zP yD b_len y8 (zA (zQ (pv 0) rfl) zD)) zD))))) zV)
   (zF (yQ (iD (zF1 hu (pv 1) (yP MRW T.cl hr3 (pv 0)))) (zH xA) zV)
   (zF (z5 (i:=3) zIK.nd rfl (Or.inl rfl) (sC (zU qY (pv 2) wO (zW _)) (lP) (pv 2)))
   (zH (zL (zM CNu hr1 (zA (pv 3) (zA (yY MW TS.cl hr3 (yJ zT (zQ (pv 0) rfl) (pv 3) (fun _ _=>rfl)) (zA (pv 1) zD)) zD))))))))),?_⟩
 refine ⟨_,rfl,z,rfl,gz.1,zKH gz.2 (by decide),fun H1 k1=>?_⟩
 have hp1:=k1 _ _ (by simp) hp
 have hsl1:=k1 _ _ (by simp) hsl
 refine ⟨_,rfl,rfl,_,rfl,ifT rfl ⟨_,rfl,_,rfl,p,C,dx,_,_,rfl,hp1,T.cl,T.nS,uL _ _ _,_,_,rfl,.inl ⟨_,.of hsl1,rfl⟩,_,_,rfl,by omega,by rw [zJ6];omega,?_⟩⟩
 refine ⟨_,rfl,_,rfl,p,dx,_,rfl,hp1,zJK _ _ _,B,p,nm,nb,xs,ars,rfl,hh.on k1,fun a H2 ha k2=>⟨a,_,rfl,vX.k (k:=Sum.inr z) ha,_,rfl,ifF rfl ?_⟩⟩
 have k02:=k1.trans k2
 refine ⟨_,rfl,rfl,_,rfl,ifF rfl ⟨_,rfl,?_⟩⟩
 have S:=S0.keep k02
 obtain ⟨dy,hob⟩:=S.ob
 refine ⟨_,rfl,_,rfl,p,C,dx,_,_,rfl,k02 _ _ (by simp) hp,T.cl,T.nS,uL _ _ _,_,rfl,sl,_,0,_,rfl,rfl,k02 _ _ (by simp) hsl,m9 ex,x.1,dy,_,rfl,hob,zJP _ _ _ _,_,rfl,x.1,x.2,_,z,rfl,S,gz.1,zKH gz.2 (by decide),(by simp),(by simp),(by show 0 < 1000;decide),?_⟩
 intro r H3 S' R' n' k'
 obtain ⟨l1,l2⟩:=iJ { (⟨ar,[],none,false⟩:SS) with row:=([]:LSS) ++ [i7 z] }
 exact ⟨0,r,_,rfl,R',l1,l2,fun r' H4 R4 n4 k4=>q r' H4 (((k02.mono (by simp)).trans k').trans (k4.mono (by simp)))⟩
end
abbrev sTw:Stmt:=z4 (top 32) 7
abbrev sHT:Stmt:=z4 (top 38) 12
theorem zIY (a:V) (wl l:Addr) (h:V) (k:Bool):yL "waiting" (.ref l) (xU a wl h k)=xU a l h k:=by
 unfold xU;rw [yL,if_neg n6,yL,if_pos rfl]
theorem zGV (nm:V) (nl sl l:Addr):yL "seats" (.ref l) (hfl nm nl sl)=hfl nm nl l:=by
 unfold hfl;rw [yL,if_neg hn2,yL,if_neg hn3,yL,if_pos rfl]
theorem zJQ (a:V) (wl:Addr) (h:V) (k:Bool):(xU a wl h k).lookup ("twin" : Str)=none:=rfl
theorem zJM (nm:V) (nl sl:Addr):(hfl nm nl sl).lookup ("name" : Str)=some nm:=rfl
theorem zJN (nm:V) (nl sl:Addr):(hfl nm nl sl).lookup ("nearby" : Str)=some (.ref nl):=rfl
theorem wF {α:Type} {l:List α} {i:Nat} {x:α} (h:l[i]?=some x):l.take (i + 1)=l.take i ++ [x]:=by rw [List.take_add_one,h];rfl
def fS (nm:Str) (nb:List Str) (ars:List (Option Str)):Prop:=xY nm/\(∀ z ∈ nb,xY z)/\nb.Nodup/\nm ∉ nb/\nb.length <= 100/\ars ≠ []/\ars.length <= 100/\∀ z,some z ∈ ars->z ∈ nb
section
variable {P:Program} {w:World} {K:W.Frag} {mg:Str->Option Value} {base:Heap} {C CS:Addr}
theorem zIE:zI ["self","other"] ["self"] (zE sTw):=scm
theorem zIL:zI ["self","other"] ["self"] (zE sHT):=scm
def zHV (CS:Addr):Sp:=fun vs H Q _=>∃ (p wl:Addr) (ar:Option Str),vs=[.ref p]/\yF CS H p wl ⟨ar,[],none,false⟩/\(∀ z,ar=some z->uK z=true/\z.length <= 1000)/\∀ (q l:Addr) (H':Hp),H q=none->H l=none->yF CS H' q l ⟨ar,[],none,false⟩->zC [] H H'->Q (.ref q) H'
theorem okTw (TS:vA K CS) (G:yI K CS "twin" "Seat.twin" sTw ["self"]) (MKS:uG P w K mg base CX0 2 CS "Seat" ["self","arrow"] (zBV CS)) (b_list:Blt mg "list"):z8 P w K mg base CX0 4 CS "twin" ["self"] (zHV CS):=by
 refine G.ok zIE (fun vs H Q E h=>by obtain ⟨p,wl,ar,rfl,_⟩:=h;rfl) (fun f cdv A outer s0 H vs Q E hr h=>?_)
 obtain ⟨p,wl,ar,rfl,S,hz,q⟩:=h
 have hr3:zO 3 _:=hr
 obtain ⟨dx0,hob⟩:=S.ob
 refine ⟨_,(zF (z5 (i:=1) zIE.nd rfl (Or.inl rfl) (oH MKS hr3 (zA (zQ (pv 0) rfl) zD)))
   (zF (yX (pv 1) (xE y6 rfl b_list.no wI (zA (zQ (pv 0) rfl) zD)) rfl)
   (zF (yX (pv 1) (zQ (pv 0) rfl) rfl)
   (zF (yX (pv 1) (zQ (pv 0) rfl) rfl)
   (zH (zL (pv 1))))))),?_⟩
 refine ⟨_,rfl,p,CS,dx0,_,_,rfl,hob,TS.cl,TS.nP,zDF _ _ _ _,fun x dx hx hdx ndx=>⟨x,dx,ar,rfl,zB,hz,fun wl1 H1 hwl1 S1 k1=>⟨rfl,?_⟩⟩⟩
 have k01:zC [] H H1:=((zC.new hdx).trans (zC.new (by rw [zJ (Ne.symm ndx)];exact hx))).under k1 (by intro b hb;rw [zJ9.mp hb];exact hx)
 obtain ⟨_,⟨ps,hwl,hps⟩,_⟩:=S.keep k01
 have e0:ps=[]:=List.length_eq_zero_iff.mp (zS hps)
 subst e0
 have ob1:=k01 _ _ (by simp) hob
 have px:p ≠ x:=zG hob hx
 obtain ⟨dx1,ox⟩:=S1.ob
 refine ⟨_,rfl,p,CS,dx0,_,_,rfl,ob1,TS.cl,TS.nW,jH _ _ _ _,wl,_,rfl,.inl (.of hwl),fun l hl=>?_⟩
 have xl:x ≠ l:=zG ox hl
 have H0l:H l=none:=k01.none (by simp) hl
 refine ⟨_,rfl,x,CS,dx1,_,rfl,by rw [zJ xl];exact ox,TS.cl,TS.nW,by show 4 < 1000;decide,?_⟩
 rw [zIY]
 generalize hH2:upd _ x _=H2
 have k12:zC [x] H1 H2:=by rw [<- hH2];exact (zC.new hl).trans (zC.at (by simp))
 have ox2:H2 x=some (.ins CS dx1 (xU (xR ar) l .non false)):=by rw [<- hH2];exact zB
 have hl2:H2 l=some (.lst []):=by rw [<- hH2,zJ (Ne.symm xl)];exact zB
 have ob2:=k12 _ _ (by simp [px]) ob1
 refine ⟨_,rfl,p,CS,dx0,_,_,rfl,ob2,TS.cl,TS.nH,dR _ _ _ _,_,rfl,x,CS,dx1,_,rfl,ox2,TS.cl,TS.nH,by show 4 < 1000;decide,?_⟩
 rw [zEJ]
 generalize hH3:upd _ x _=H3
 have k23:zC [x] H2 H3:=by rw [<- hH3];exact zC.at (by simp)
 have ox3:H3 x=some (.ins CS dx1 (xU (xR ar) l .non false)):=by rw [<- hH3];exact zB
 refine ⟨_,rfl,p,CS,dx0,_,_,rfl,k23 _ _ (by simp [px]) ob2,TS.cl,TS.nA,zGW _ _ _ _,_,rfl,x,CS,dx1,_,rfl,ox3,TS.cl,TS.nA,by show 4 < 1000;decide,?_⟩
 rw [aD]
 generalize hH4:upd _ x _=H4
 have k34:zC [x] H3 H4:=by rw [<- hH4];exact zC.at (by simp)
 have k14:=(k12.trans k23).trans k34
 refine ⟨_,rfl,q x l H4 hx H0l ⟨⟨dx1,by rw [<- hH4];exact zB⟩,⟨[],k34 _ _ (by simp [Ne.symm xl]) (k23 _ _ (by simp [Ne.symm xl]) hl2),.nil⟩,zKG _⟩ ?_⟩
 exact k01.under k14 (by intro b hb;rw [zJ9.mp hb];exact hx)
def zH7 (C CS:Addr):Sp:=fun vs H Q _=>∃ (B:Addr->Prop) (p:Addr) (nm:Str) (nb:List Str) (xs:List (Addr × Addr)) (ars:List (Option Str)),vs=[.ref p]/\yK B C CS H p nm nb xs (yN ars)/\fS nm nb ars/\∀ (q:Addr) (ys:List (Addr × Addr)) (H':Hp),H q=none->yK (fun u=>H u=none) C CS H' q nm nb ys (yN ars)->zC [] H H'->Q (.ref q) H'
theorem okHT (T:vL K C) (TS:vA K CS) (G:yI K C "twin" "House.twin" sHT ["self"]) (MA:z8 P w K mg base CX0 1 CS "arrow" ["self"] (nI CS)) (MT:z8 P w K mg base CX0 4 CS "twin" ["self"] (zHV CS)) (MKH:uG P w K mg base CX0 4 C "House" ["self","name","neighbours","arrows"] (zBW C CS)):z8 P w K mg base CX0 6 C "twin" ["self"] (zH7 C CS):=by
 refine G.ok zIL (fun vs H Q E h=>by obtain ⟨B,p,nm,nb,xs,ars,rfl,_⟩:=h;rfl) (fun f cdv A outer s0 H vs Q E hr h=>?_)
 obtain ⟨B,p,nm,nb,xs,ars,rfl,hh,hg,q⟩:=h
 have hr5:zO 5 _:=hr
 have hr4:zO 4 _:=hr.mono (by decide)
 have hr1:zO 1 _:=hr.mono (by decide)
 obtain ⟨dx,nl,sl,bb,hp,hnl,hsl,hxs,hse⟩:=id hh
 obtain ⟨gn,gb,nd,nin,lb,nar,lar,arin⟩:=id hg
 have lxs:xs.length=ars.length:=by rw [hxs];unfold yN;rw [zJ6]
 refine ⟨_,(zF (z5 (i:=1) zIL.nd rfl (Or.inl rfl) (oH MKH hr5 (zA (zQ (pv 0) rfl) (zA (zQ (pv 0) rfl) (zA (vD (N:=["self","other"]) (sc:=zE sHT) (ix:=[]) (by decide +kernel) (yG (zQ (pv 0) rfl)) (fun _ _ _ _=>yT) (fun _ _ _ _=>(yP MA TS.cl hr1 (pv 0)))) zD)))))
   (zF (yX (pv 1) (vD (N:=["self","other"]) (sc:=zE sHT) (ix:=[]) (by decide +kernel) (yG (zQ (pv 0) rfl)) (fun _ _ _ _=>yT) (fun _ _ _ _=>(yP MT TS.cl hr4 (pv 0)))) rfl)
   (zH (zL (pv 1))))),?_⟩
 refine ⟨_,rfl,p,C,dx,_,_,rfl,hp,T.cl,T.nN,zJM _ _ _,_,rfl,p,C,dx,_,_,rfl,hp,T.cl,T.nB,zJN _ _ _,_,rfl,p,C,dx,_,_,rfl,hp,T.cl,T.nS,uL _ _ _,sl,rfl,⟨_,.of hsl⟩,fun l hl=>?_⟩
 have sll:sl ≠ l:=zG hsl hl
 refine w4 (K:=K) (a:=sl) (its:=xs.map fun x=>V.ref x.1) (by rw [zJ6,sizeLine_eq];omega) (fun i ys τ H1=>∃ kk:Option V,τ=[kk]/\ys=(ars.take i).map xR/\zC [l] H H1/\H1 l=some (.lst ys)) ⟨_,rfl,rfl,zC.at (by simp),zB⟩ ?_ ?_ ?_
 ·rintro i ys τ H1 ⟨kk,rfl,rfl,k1,h1⟩
  exact ⟨h1,by rw [zJ6,zKP];omega,.of (k1 _ _ (by simp [sll]) hsl)⟩
 ·rintro i ys τ H1 x hx ⟨kk,rfl,rfl,k1,h1⟩
  rw [zKC] at hx
  cases ex:xs[i]? with
  | none=>rw [ex] at hx;cases hx
  | some y=>
  rw [ex] at hx
  cases zKD hx
  have il:i < (yN ars).length:=by rw [<- hxs];exact (zJ8.mp ex).1
  have es:=zJ7 il
  generalize (yN ars)[i]=s at es
  have S:=(hse i y s ex es).keep (k1.drop hl)
  obtain ⟨ar,ea,rfl⟩:=sT es
  obtain ⟨dy,hob⟩:=S.ob
  refine ⟨_,rfl,y.1,dy,_,rfl,hob,zER _ _ _ _,y.1,y.2,_,rfl,S,h1,_,rfl,?_,k1.trans (zC.at (by simp)),zB⟩
  rw [wF ea,zKI];rfl
 rintro ys τ H1 ⟨kk,rfl,rfl,k1,h1⟩
 have k01:=k1.drop hl
 rw [zJ6,lxs,zK6] at h1
 refine fun x dx2 hx hdx ndx=>?_
 have kx:zC [] H1 (upd (upd H1 dx2 (.own x)) x (.ins C dx2 [])):=(zC.new hdx).trans (zC.new (by rw [zJ (Ne.symm ndx)];exact hx))
 refine ⟨x,dx2,nl,l,nm,nb,ars,rfl,zB,kx _ _ (by simp) (k01 _ _ (by simp) hnl),kx _ _ (by simp) h1,gn,gb,nd,nin,lb,nar,lar,arin,fun zs H2 hh2 k2=>⟨rfl,?_⟩⟩
 have k12:zC [] H1 H2:=kx.under k2 (by intro b hb;rw [zJ9.mp hb];exact hx)
 have k02:=k01.trans k12
 have Hx:H x=none:=k01.none (by simp) hx
 have px:p ≠ x:=zG hp Hx
 obtain ⟨dx3,nl3,sl3,⟨b1,b2,b3,b4⟩,e1,e2,e3,_,_⟩:=hh2
 have nn:∀ {u:Addr},upd (upd H1 dx2 (.own x)) x (.ins C dx2 []) u=none->H u=none:=fun {u} h=>k01.none (by simp) (kx.none (by simp) h)
 refine ⟨_,rfl,p,C,dx,_,_,rfl,k02 _ _ (by simp) hp,T.cl,T.nS,uL _ _ _,sl,rfl,⟨_,.of (k02 _ _ (by simp) hsl)⟩,fun m hm=>?_⟩
 refine jC (K:=K) (CS:=CS) (a:=sl) (its:=xs.map fun x=>V.ref x.1) (ss:=yN ars) (by rw [zJ6];exact hxs) (by rw [zJ6,lxs];exact lar) (k02 _ _ (by simp) hsl) hm rfl (fun i y s kk H3 R hy hs k3 h=>?_) fun ps H3 hl3 hse3 hfr hpw k3 h3=>?_
 ·rw [zKC] at hy
  cases ex:xs[i]? with
  | none=>rw [ex] at hy;cases hy
  | some z=>
  rw [ex] at hy
  cases zKD hy
  have S:=((hse i z s ex hs).keep k02).keep (k3.drop hm)
  obtain ⟨ar,ea,rfl⟩:=sT hs
  obtain ⟨dy,hob⟩:=S.ob
  exact ⟨_,rfl,z.1,dy,_,rfl,hob,zJQ _ _ _ _,z.1,z.2,ar,rfl,S,(fun z e=>by have g:=gb z (arin z (by rw [<- e];exact zKA ea));exact ⟨g.1,zKH g.2 (by decide)⟩),fun q' l' H4 hq' hl' S4 k4=>h q' l' _ H4 hq' hl' S4 k4⟩
 have xm:x ≠ m:=zG e1 hm
 refine ⟨_,rfl,x,C,dx3,_,rfl,k3 _ _ (by simp) e1,T.cl,T.nS,by show 3 < 1000;decide,?_⟩
 rw [zGV]
 generalize hH4:upd _ x _=H4
 have k34:zC [x] H3 H4:=by rw [<- hH4];exact zC.at (by simp)
 have n2:∀ {u:Addr},H2 u=none->H u=none/\u ≠ x:=fun {u} h=>⟨k02.none (by simp) h,fun e=>by rw [e,e1] at h;cases h⟩
 have nt:∀ b ∈ [x],∀ xs,H3 b ≠ some (.tup xs):=fun b hb xs z=>by rw [zJ9.mp hb,k3 _ _ (by simp) e1] at z;cases z
 have nlx:nl3 ≠ x:=fun e=>by rw [e,e1] at e2;cases e2
 refine ⟨_,rfl,q x ps H4 Hx ⟨dx3,nl3,m,⟨nn b1,(n2 hm).1,fun u hu=>⟨(n2 (hfr u hu).1).1,(n2 (hfr u hu).2.1).1⟩,fun u hu=>⟨Ne.symm (zG e2 (hfr u hu).2.1),(hfr u hu).2.2.2⟩,hpw⟩,by rw [<- hH4];exact zB,k34 _ _ (by simp [nlx]) (k3 _ _ (by simp) e2),k34 _ _ (by simp [Ne.symm xm]) h3,hl3,fun i u s i1 i2=>?_⟩ ?_⟩
 ·have hu:=hfr u (zKA i1)
  exact (hse3 i u s i1 i2).keepS k34 (by simpa using (n2 hu.1).2) (by simpa using (n2 hu.2.1).2) nt
 ·exact (k02.trans k3).under k34 (by intro b hb;rw [zJ9.mp hb];exact Hx)
end
abbrev sNx:Stmt:=top 40
abbrev sAT:Stmt:=top 41
abbrev sNH:Stmt:=top 42
theorem aA {zs:List Str} {ps:LSS} (tz:∀ t ∈ ps,wK zs t) (z:Str):yZ (ps.map vH) z=yZ ps z:=by
 unfold yZ
 rw [List.flatMap_map]
 induction ps with
 | nil=>rfl
 | cons t ps ih=>
  rw [List.flatMap_cons,List.flatMap_cons,ih (fun u hu=>tz u (zKJ _ hu))]
  congr 1
  have n:=(tz t zKZ).2.2
  rcases sM t with e | e <;> rw [e]
  dsimp only
  by_cases h1:t.1=z
  ·rw [if_pos h1,if_pos h1,if_neg (fun h2=>n (h1.trans h2.symm))]
  ·rw [if_neg h1,if_neg h1]
theorem b8 {ps qs:LSS} (h:ps.Perm qs) (z:Str):(yZ ps z).Perm (yZ qs z):=by
 unfold yZ
 exact List.Perm.flatMap_right _ h
theorem oS {zs zs':List Str} {ps ps':LSS} (h:pR zs ps) (pz:zs'.Perm zs) (pp:ps'.Perm ps):pR zs' ps':=fun P z0 hz p0 each z hz'=>
 h P z0 (pz.mem_iff.mp hz) p0 (fun t ht=>each t (pp.mem_iff.mpr ht)) z (pz.mem_iff.mp hz')
theorem qN {zs zs':List Str} {ps ps':LSS} (h:∀ t ∈ ps,wK zs t) (pz:zs'.Perm zs) (pp:ps'.Perm ps):∀ t ∈ ps',wK zs' t:=fun t ht=>
 let ⟨a,b,c⟩:=h t (pp.mem_iff.mp ht)
 ⟨pz.mem_iff.mpr a,pz.mem_iff.mpr b,c⟩
theorem oE {zs:List Str} {ps:LSS} (gr:rB zs ps) (nd:zs.Nodup) (z:Str):(yZ ps z).Nodup:=by
 have all:∀ n,n <= ps.length->(yZ (ps.take n) z).Nodup:=by
  intro n
  induction n with
  | zero=>intro _;exact List.nodup_nil
  | succ n ih=>
   intro hn
   have nl:n < ps.length:=hn
   obtain ⟨o,y,p,ho,e1,e2,e3⟩:=gr n _ (zJ7 nl)
   have tk:ps.take (n + 1)=ps.take n ++ [ps[n]]:=by rw [List.take_add_one,zJ7 nl];rfl
   have i1:∀ (k:Nat) (x:Str),k <= n->zs[k]?=some x->x ≠ y:=fun k x hk hx e=>by
    subst e
    have:=(List.getElem?_inj (zJ8.mp hx).1 nd).mp (hx.trans e1.symm)
    omega
   have far:∀ (u v:Str),(u,v) ∈ ps.take n->u ≠ y/\v ≠ y:=by
    intro u v hm
    obtain ⟨j,hj⟩:=List.getElem?_of_mem hm
    have jn:j < n:=by
     have:=(zJ8.mp hj).1
     rw [zKP] at this;omega
    rw [List.getElem?_take_of_lt jn] at hj
    obtain ⟨o',a,b,ho',f1,f2,f3⟩:=gr j _ hj
    have a1:=i1 (j + 1) a (by omega) f1
    have b1:=i1 o' b (by omega) f2
    rcases f3 with f | f <;> cases f
    ·exact ⟨a1,b1⟩
    ·exact ⟨b1,a1⟩
   have no:∀ x,x ∈ yZ (ps.take n) z->x ≠ y/\z ≠ y:=fun x hx=>by
    rcases qD hx with h | h
    ·exact ⟨(far _ _ h).2,(far _ _ h).1⟩
    ·exact ⟨(far _ _ h).1,(far _ _ h).2⟩
   have py:p ≠ y:=i1 o p (by omega) e2
   rw [tk,oF]
   have one:∀ l:List Str,(l=[] \/ (l=[y]/\z=p) \/ (∃ x,l=[x]/\z=y))->(yZ (ps.take n) z ++ l).Nodup:=by
    intro l hl
    rcases hl with rfl | ⟨rfl,rfl⟩ | ⟨x,rfl,rfl⟩
    ·rw [List.append_nil];exact ih (by omega)
    ·refine List.nodup_append.mpr ⟨ih (by omega),by simp,fun a ha b hb=>?_⟩
     rw [zJ9.mp hb];exact (no a ha).1
    ·have e:yZ (ps.take n) z=[]:=by
      cases h:yZ (ps.take n) z with
      | nil=>rfl
      | cons a l=>exact absurd rfl (no a (by rw [h];exact zKZ)).2
     rw [e];simp
   refine one _ ?_
   rcases e3 with f | f <;> rw [f]
   ·by_cases h:y=z
    ·subst h;exact .inr (.inr ⟨p,by rw [if_pos rfl],rfl⟩)
    ·by_cases h2:p=z
     ·subst h2;exact .inr (.inl ⟨by rw [if_neg h,if_pos rfl],rfl⟩)
     ·exact .inl (by rw [if_neg h,if_neg h2])
   ·by_cases h2:p=z
    ·subst h2;exact .inr (.inl ⟨by rw [if_pos rfl],rfl⟩)
    ·by_cases h:y=z
     ·subst h;exact .inr (.inr ⟨p,by rw [if_neg h2,if_pos rfl],rfl⟩)
     ·exact .inl (by rw [if_neg h2,if_neg h])
 have:=all ps.length (zKF _)
 rwa [zK6] at this
structure uF (CT:Addr) (H:Hp) (t:Addr) (zs:List Str) (ps:LSS):Prop where
 tr:xJ (fun _=>none) CT H t zs ps
 good:∀ z ∈ zs,xY z
 nd:zs.Nodup
 len:zs.length < 60
 tz:∀ p ∈ ps,wK zs p
 cn:pR zs ps
 rn:∀ z,(yZ ps z).Nodup
theorem uF.on {CT:Addr} {H H':Hp} {t:Addr} {zs:List Str} {ps:LSS} (h:uF CT H t zs ps) (k:zC [] H H'):uF CT H' t zs ps:=⟨h.tr.on k,h.good,h.nd,h.len,h.tz,h.cn,h.rn⟩
theorem yK.weak {B B':Addr->Prop} {C CS:Addr} {H:Hp} {p:Addr} {nm:Str} {nb:List Str} {xs:List (Addr × Addr)} {ss:List SS} (h:yK B C CS H p nm nb xs ss) (f:∀ u,B u->B' u):yK B' C CS H p nm nb xs ss:=by
 obtain ⟨y1,y2,y3,⟨b1,b2,b3,y4⟩,y5⟩:=h
 exact ⟨y1,y2,y3,⟨f _ b1,f _ b2,fun x hx=>⟨f _ (b3 x hx).1,f _ (b3 x hx).2⟩,y4⟩,y5⟩
def jS (ps:LSS) (a b:Str) (o:Option Str):Prop:=∃ R,yR ps a b R/\o=R[1]?
section
variable {P:Program} {w:World} {K:W.Frag} {mg:Str->Option Value} {base:Heap} {C CS CT:Addr}
theorem zII:zI ["tree","one","other","road"] ["tree","one","other"] (zE sNx):=scm
theorem scAT:zI ["tree","house","places"] ["tree","house","places"] (zE sAT):=scm
theorem scNH:zI ["tree","house","places"] ["tree","house","places"] (zE sNH):=scm
def zFC (CT:Addr):Sp:=fun vs H Q _=>∃ (t:Addr) (a b:Str) (zs:List Str) (ps:LSS),vs=[.ref t,.str a,.str b]/\uF CT H t zs ps/\a ∈ zs/\b ∈ zs/\∀ (o:Option Str) (H':Hp),jS ps a b o->zC [] H H'->Q (xR o) H'
theorem okNx (T:vV K CT) (G:yB K mg "next_on" sNx ["tree","one","other"]) (MR:z8 P w K mg base CX0 4 CT "road" ["self","one","other"] (bB CT)) (b_len:Blt mg "len"):Cal P w K mg base CX0 5 "next_on" ["tree","one","other"] (zFC CT):=by
 refine G.ok zII (fun vs H Q E h=>by obtain ⟨t,a,b,zs,ps,rfl,_⟩:=h;rfl) (fun f cdv A outer s0 H vs Q E hr h=>?_)
 obtain ⟨t,a,b,zs,ps,rfl,F,ha,hb,q⟩:=h
 have hr4:zO 4 _:=hr
 obtain ⟨dx,nl,pl,nd,L,N,_,h1,_⟩:=id F.tr
 refine ⟨_,(zF (z5 (i:=3) zII.nd rfl (Or.inl rfl) (yY MR T.cl hr4 (pv 0) (zA (pv 1) (zA (pv 2) zD))))
   (zH (zL (sC (zU aW (zP yD b_len y8 (zA (pv 3) zD)) zK (zW _)) (yJ zT (pv 3) zK (fun _ _=>rfl)) wO)))),?_⟩
 refine ⟨_,rfl,t,dx,_,rfl,h1,zHF _ _ _,_,rfl,_,rfl,t,a,b,_,zs,ps,rfl,F.tr,F.good a ha,F.good b hb,ha,hb,F.nd,F.len,F.tz,F.cn,fun l R H1 hl W e1 k1=>?_⟩
 have qq:=q R[1]? H1 ⟨R,W,rfl⟩ k1
 obtain ⟨R1,rfl⟩:=W.hd
 refine ⟨_,rfl,_,_,rfl,.inl ⟨_,.of e1,rfl⟩,_,_,rfl,rfl,_,rfl,?_⟩
 cases R1 with
 | nil=>exact ifF rfl qq
 | cons x R2=>exact ifT (zKL (by simp only [zJ6,zKR];omega)) ⟨_,rfl,l,_,1,_,rfl,rfl,e1,at1 _ _ _,qq⟩
def zH9 (CT:Addr):Sp:=fun vs H Q _=>∃ (t pl:Addr) (a:Str) (pls:List Str) (zs:List Str) (ps:LSS),vs=[.ref t,.str a,.ref pl]/\uF CT H t zs ps/\a ∈ zs/\H pl=some (.lst (pls.map V.str))/\(∀ b ∈ pls,b ∈ zs)/\pls.length <= 100/\∀ (l:Addr) (ars:List (Option Str)) (H':Hp),H l=none->Paired (jS ps a) pls ars->H' l=some (.lst (ars.map xR))->zC [] H H'->Q (.ref l) H'
theorem okAT (G:yB K mg "arrows_toward" sAT ["tree","house","places"]) (CNX:Cal P w K mg base CX0 5 "next_on" ["tree","one","other"] (zFC CT)):Cal P w K mg base CX0 6 "arrows_toward" ["tree","house","places"] (zH9 CT):=by
 refine G.ok scAT (fun vs H Q E h=>by obtain ⟨t,pl,a,pls,zs,ps,rfl,_⟩:=h;rfl) (fun f cdv A outer s0 H vs Q E hr h=>?_)
 obtain ⟨t,pl,a,pls,zs,ps,rfl,F,ha,hpl,hin,lp,q⟩:=h
 have hr5:zO 5 _:=hr
 refine ⟨_,(zH (zL (vD (N:=["tree","house","places"]) (sc:=zE sAT) (ix:=[0,1]) (by decide +kernel) (yG (pv 2)) (fun _ _ _ _=>yT) (fun _ _ _ _=>(zM CNX hr5 (zA (pv 1) (zA (pv 2) (zA (pv 0) zD)))))))),?_⟩
 refine ⟨_,rfl,pl,rfl,⟨_,.of hpl⟩,fun l hl=>?_⟩
 have pll:pl ≠ l:=zG hpl hl
 refine w4 (K:=K) (a:=pl) (its:=pls.map V.str) (by rw [zJ6,sizeLine_eq];omega) (fun i ys τ H1=>∃ (kk:Option V) (ars:List (Option Str)),τ=[kk,some (.ref t),some (.str a)]/\ys=ars.map xR/\Paired (jS ps a) (pls.take i) ars/\zC [l] H H1/\H1 l=some (.lst ys)) ⟨_,[],rfl,rfl,.nil,zC.at (by simp),zB⟩ ?_ ?_ ?_
 ·rintro i ys τ H1 ⟨kk,ars,rfl,rfl,pa,k1,h1⟩
  have:=zS pa
  exact ⟨h1,by rw [zJ6,<- this,zKP];omega,.of (k1 _ _ (by simp [pll]) hpl)⟩
 ·rintro i ys τ H1 x hx ⟨kk,ars,rfl,rfl,pa,k1,h1⟩
  rw [zKC] at hx
  cases ex:pls[i]? with
  | none=>rw [ex] at hx;cases hx
  | some b=>
  rw [ex] at hx
  cases zKD hx
  refine ⟨_,rfl,_,rfl,_,rfl,t,a,b,zs,ps,rfl,F.on (k1.drop hl),ha,hin b (zKA ex),fun o H2 ho k2=>⟨k2 _ _ (by simp) h1,_,ars ++ [o],rfl,by simp,?_,(k1.trans (k2.mono (by simp))).trans (zC.at (by simp)),zB⟩⟩
  rw [wF ex]
  exact wQ pa ho
 ·rintro ys τ H1 ⟨kk,ars,rfl,rfl,pa,k1,h1⟩
  rw [zJ6,zK6] at pa
  exact q l ars H1 hl pa h1 (k1.drop hl)
def zH4 (C CS CT:Addr):Sp:=fun vs H Q _=>∃ (t pl:Addr) (a:Str) (pls:List Str) (zs:List Str) (ps:LSS),vs=[.ref t,.str a,.ref pl]/\uF CT H t zs ps/\a ∈ zs/\H pl=some (.lst (pls.map V.str))/\(∀ b ∈ pls,b ∈ zs)/\pls ≠ []/\pls.length <= 100/\∀ (h:Addr) (nb:List Str) (xs:List (Addr × Addr)) (ars:List (Option Str)) (H':Hp),H h=none->yK (fun u=>H u=none) C CS H' h a nb xs (yN ars)->fS a nb ars->Paired (jS ps a) pls ars->zC [] H H'->Q (.ref h) H'
theorem okNH (T:vV K CT) (G:yB K mg "new_house" sNH ["tree","house","places"]) (MN:z8 P w K mg base CX0 4 CT "neighbours" ["self","house"] (nE CT)) (CAT:Cal P w K mg base CX0 6 "arrows_toward" ["tree","house","places"] (zH9 CT)) (MKH:uG P w K mg base CX0 4 C "House" ["self","name","neighbours","arrows"] (zBW C CS)):Cal P w K mg base CX0 7 "new_house" ["tree","house","places"] (zH4 C CS CT):=by
 refine G.ok scNH (fun vs H Q E h=>by obtain ⟨t,pl,a,pls,zs,ps,rfl,_⟩:=h;rfl) (fun f cdv A outer s0 H vs Q E hr h=>?_)
 obtain ⟨t,pl,a,pls,zs,ps,rfl,F,ha,hpl,hin,np,lp,q⟩:=h
 have hr6:zO 6 _:=hr
 have hr5:zO 5 _:=hr.mono (by decide)
 have hr4:zO 4 _:=hr.mono (by decide)
 obtain ⟨dx,nl,pl',nd,L,N,_,h1,_⟩:=id F.tr
 refine ⟨_,(zH (zL (oH MKH hr5 (zA (pv 1) (zA (yY MN T.cl hr4 (pv 0) (zA (pv 1) zD)) (zA (zM CAT hr6 (zA (pv 0) (zA (pv 1) (zA (pv 2) zD)))) zD)))))),?_⟩
 refine ⟨_,rfl,_,rfl,t,dx,_,rfl,h1,zD2 _ _ _,_,rfl,t,a,_,zs,ps,rfl,F.tr,F.good a ha,ha,fun l nb H1 hl pm _ e1 k1=>?_⟩
 refine ⟨_,rfl,_,rfl,_,rfl,t,pl,a,pls,zs,ps,rfl,F.on k1,ha,k1 _ _ (by simp) hpl,hin,lp,fun m ars H2 hm pa e2 k2=>?_⟩
 have nbz:∀ z ∈ nb,z ∈ zs:=fun z hz=>qS F.tz (pm.mem_iff.mp hz)
 have ndb:nb.Nodup:=pm.nodup_iff.mpr (F.rn a)
 have la:=zS pa
 have hg:fS a nb ars:=⟨F.good a ha,fun z hz=>F.good z (nbz z hz),ndb,fun hm=>by
  rcases qD (pm.mem_iff.mp hm) with h | h <;> exact (F.tz _ h).2.2 rfl,by have:=wZ ndb nbz;have:=F.len;omega,fun e=>np (by rw [e] at la;exact List.length_eq_zero_iff.mp la),by omega,fun z hz=>?_⟩
 ·refine fun x dx2 hx hdx ndx=>?_
  have kx:zC [] H2 (upd (upd H2 dx2 (.own x)) x (.ins C dx2 [])):=(zC.new hdx).trans (zC.new (by rw [zJ (Ne.symm ndx)];exact hx))
  obtain ⟨g1,g2,g3,g4,g5,g6,g7,g8⟩:=id hg
  have k12:=k1.trans k2
  refine ⟨x,dx2,l,m,a,nb,ars,rfl,zB,kx _ _ (by simp) (k2 _ _ (by simp) e1),kx _ _ (by simp) e2,g1,g2,g3,g4,g5,g6,g7,g8,fun xs H3 hh k3=>⟨rfl,q x nb xs ars H3 (k12.none (by simp) hx) (hh.weak fun u hu=>k12.none (by simp) (kx.none (by simp) hu)) hg pa ?_⟩⟩
  ·exact k12.trans (kx.under k3 (by intro b hb;rw [zJ9.mp hb];exact hx))
 ·obtain ⟨b,⟨R,W,e⟩⟩:∃ b,jS ps a b (some z):=by
   clear q hin np lp la hpl e2
   induction pa with
   | nil=>cases hz
   | cons c _ ih=>
    rcases List.mem_cons.mp hz with e | e
    ·exact ⟨_,e ▸ c⟩
    ·exact ih e
  refine pm.mem_iff.mpr (qK F.tz ?_)
  cases W with
  | one=>cases e
  | cons ad w _=>
   obtain ⟨R1,rfl⟩:=w.hd
   cases e
   exact ad
end
abbrev sCP:Stmt:=top 50
abbrev sNL:Stmt:=top 52
structure zJ4 (K:W.Frag) (C:Addr):Prop where
 ha:W.findIn K (.ref C) "__class__"=some (some (.builtin "object.__class__"))
 hn:W.specialIn K (.builtin "object.__class__") "__get__"=some (some (.builtin "getset_descriptor.__get__"))
 htk:W.takesIn K (.builtin "object.__class__")=some true
 hm:W.mroIn K C (.type "object")=some true
 self:W.kitOne K (.ref C) (.ref C)=some true
theorem cO (nl pl nd:Addr):(tfl nl pl nd).lookup ("houses" : Str)=none:=rfl
def QOk (H:Hp) (kvs:List (List Key × V)) (a b:Str):Prop:=∃ l,wN kvs [Sum.inr a,Sum.inr b]=some (.ref l)/\H l=some (.lst [])
section
variable {P:Program} {w:World} {K:W.Frag} {mg:Str->Option Value} {base:Heap} {C CS CT CH CR:Addr}
theorem zIR:zI ["tree","places","place"] ["tree","places"] (zE sCP):=scm
theorem scNL:zI ["tree"] ["tree"] (zE sNL):=scm
def zJZ (K:W.Frag) (CH CR:Addr) (H:Hp) (zs:List Str) (v:V) (Q:Hp->Prop) (E:XK):Prop:=
 (∃ (pl:Addr) (pls:List Str),v=.ref pl/\H pl=some (.lst (pls.map V.str))/\pls ≠ []/\pls.length <= 100/\(∀ b ∈ pls,b ∈ zs)/\∀ H',zC [] H H'->Q H') \/
 (∃ (pl:Addr) (pls:List Str) (x:V) (r:List V),v=.ref pl/\H pl=some (.lst (pls.map V.str ++ x :: r))/\pls.length <= 100/\(∀ b ∈ pls,b ∈ zs)/\vO K H zs x/\∀ H',zC [] H H'->E (.ref CH) none H') \/
 (∃ T:String,yS K H v T/\(T ≠ "list" \/ ∃ pl,v=.ref pl/\H pl=some (.lst []))/\E (.ref CR) none H)
def zFD (K:W.Frag) (CT CH CR:Addr):Sp:=fun vs H Q E=>∃ (t:Addr) (v:V) (zs:List Str) (ps:LSS),vs=[.ref t,v]/\uF CT H t zs ps/\zJZ K CH CR H zs v (fun H'=>Q .non H') E
theorem okCP (T:vV K CT) (IT:zJ4 K CT) (G:yB K mg "check_places" sCP ["tree","places"]) (MCX:z8 P w K mg base (CXE P w) 3 CT "check_house" ["self","house"] (bG K CT CH)) (exR:zBP K mg "NoRight" CR) (gT:Glo mg "Tree" (.ref CT)) (b_isinstance:Blt mg "isinstance") (b_list:Blt mg "list") (b_len:Blt mg "len"):Cal P w K mg base (CXE P w) 4 "check_places" ["tree","places"] (zFD K CT CH CR):=by
 refine G.okX zIR (fun vs H Q E h=>by obtain ⟨t,v,zs,ps,rfl,_⟩:=h;rfl) (fun f cdv A outer s0 H vs Q E hr h=>?_)
 obtain ⟨t,v,zs,ps,rfl,F,h⟩:=h
 have hr3:zO 3 _:=hr.mono (by decide)
 obtain ⟨dx,nl,pl',nd,L,N,_,h1,_⟩:=id F.tr
 refine ⟨_,(zF (yQ (xM (xI (zP mP b_isinstance zN (zA (pv 0) (zA (wP gT) zD))))) (zH xA) zV)
   (zF (yQ (PW.pt (uA (xM (xI (zP xP b_isinstance zN (zA (pv 1) (zA (sA b_list wI) zD))))) (vC (zU uY (zP yD b_len y8 (zA (pv 1) zD)) zK (zW _))))) (zH (lJ (qT hr) exR)) zV)
   (zH (tO PassesOwn.leaving rfl (yG (pv 1)) (zZ (i:=2) zIR.nd rfl (Or.inl rfl)) (zH (z9 (zCJ MCX gZ T.cl hr3 (pv 0) (zA (pv 2) zD)))))))),?_⟩
 refine ⟨_,rfl,_,_,_,true,rfl,.ins h1 T.cl IT.ha IT.hn IT.htk IT.hm,IT.self,_,rfl,ifF rfl ?_⟩
 have h':(∃ (pl:Addr) (pls:List Str) (r:List V),v=.ref pl/\H pl=some (.lst (pls.map V.str ++ r))/\pls.length <= 100/\(∀ b ∈ pls,b ∈ zs)/\(r=[]/\pls ≠ []/\(∀ H',zC [] H H'->Q .non H') \/ ∃ x r',r=x :: r'/\vO K H zs x/\∀ H',zC [] H H'->E (.ref CH) none H')) \/ (∃ T:String,yS K H v T/\(T ≠ "list" \/ ∃ pl,v=.ref pl/\H pl=some (.lst []))/\E (.ref CR) none H):=by
  rcases h with ⟨pl,pls,rfl,hp,ne,lp,hin,q⟩ | ⟨pl,pls,x,r,rfl,hp,lp,hin,st,q⟩ | h
  ·exact .inl ⟨pl,pls,[],rfl,by rw [List.append_nil];exact hp,lp,hin,.inl ⟨rfl,ne,q⟩⟩
  ·exact .inl ⟨pl,pls,x :: r,rfl,hp,lp,hin,.inr ⟨x,r,rfl,st,q⟩⟩
  ·exact .inr h
 clear h
 rcases h' with ⟨pl,pls,r,rfl,hp,lp,hin,way⟩ | ⟨Ty,pt,hT,q⟩
 rotate_left
 ·rcases hT with nT | ⟨pl,rfl,hp⟩
  ·have e:(Ty == "list")=false:=by simpa using nT
   exact ⟨_,rfl,_,_,_,false,rfl,pt.ty,(e ▸ pt.kit.2.2.2.1),_,rfl,ifT rfl q⟩
  ·have pt:yS K H (.ref pl) "list":=.lst hp
   exact ⟨_,rfl,_,_,_,true,rfl,pt.ty,pt.kit.2.2.2.1,_,rfl,ifF rfl ⟨_,rfl,_,_,rfl,.inl ⟨_,.of hp,rfl⟩,rfl,_,rfl,ifT rfl q⟩⟩
 have pt:yS K H (.ref pl) "list":=.lst hp
 refine ⟨_,rfl,_,_,_,true,rfl,pt.ty,pt.kit.2.2.2.1,_,rfl,ifF rfl ⟨_,rfl,_,_,rfl,.inl ⟨_,.of hp,rfl⟩,rfl,_,rfl,ifF ?_ ?_⟩⟩
 ·refine zKM fun e=>?_
  have e0:(pls.map V.str ++ r).length=0:=by injection e with e;exact Int.ofNat.inj e
  rw [zKO,zJ6] at e0
  rcases way with ⟨_,ne,_⟩ | ⟨x,r',rfl,_⟩
  ·exact ne (List.length_eq_zero_iff.mp (by omega))
  ·simp at e0
 refine ⟨_,rfl,pl,rfl,⟨_,.of hp⟩,?_⟩
 refine ⟨fun i m σ H1=>m=pls.length + 1 - i/\i <= pls.length/\(∃ v2:Option V,σ=[some (.ref t),some (.ref pl),v2])/\zC [] H H1,⟨_,rfl,zKG _,⟨_,rfl⟩,zC.refl _⟩,?_⟩
 rintro i m σ H1 ⟨rfl,hi,⟨v2,rfl⟩,k1⟩
 have hp1:=k1 _ _ (by simp) hp
 have sq:SqL K H1 pl (pls.map V.str ++ r):=.of hp1
 by_cases il:i < pls.length
 ·have ei:(pls.map V.str ++ r)[i]?=some (.str pls[i]):=by rw [zKU (by rw [zJ6];exact il),zKC,zJ7 il];rfl
  have zin:=hin _ (List.getElem_mem il)
  refine .inr ⟨⟨_,_,sq,ei⟩,fun σ' H'=>(∃ v2:Option V,σ'=[some (.ref t),some (.ref pl),v2])/\zC [] H H',fun σ' H' ⟨a,b⟩=>⟨_,by omega,rfl,by omega,a,b⟩,fun x H' y=>?_⟩
  obtain ⟨rfl,y⟩:=y
  cases (y _ sq).symm.trans ei
  exact ⟨_,rfl,t,dx,_,rfl,k1 _ _ (by simp) h1,rO _ _ _,_,rfl,t,_,_,zs,ps,rfl,F.tr.on k1,.inl ⟨_,rfl,F.good _ zin,zin,fun H2 k2=>⟨⟨_,rfl⟩,k1.trans k2⟩⟩⟩
 ·have e:i=pls.length:=by omega
  subst e
  rcases way with ⟨rfl,_,q⟩ | ⟨x,r',rfl,st,q⟩
  ·exact .inl ⟨⟨_,sq,by simp⟩,q H1 k1⟩
  ·have ei:(pls.map V.str ++ x :: r')[pls.length]?=some x:=by rw [zKT (by rw [zJ6];exact zKF _),zJ6,Nat.sub_self];rfl
   refine .inr ⟨⟨_,_,sq,ei⟩,fun _ _=>False,fun _ _ h=>h.elim,fun y H' yy=>?_⟩
   obtain ⟨rfl,yy⟩:=yy
   cases (yy _ sq).symm.trans ei
   exact ⟨_,rfl,t,dx,_,rfl,k1 _ _ (by simp) h1,rO _ _ _,_,rfl,t,x,_,zs,ps,rfl,F.tr.on k1,.inr ⟨st.on k1,fun H2 k2=>q H2 (k1.trans k2)⟩⟩
end
abbrev sWI:Stmt:=z4 (top 54) 0
theorem vF:∀ {fs:List (Str × V)} {k:Str} {v:V},fs.lookup k=none->yL k v fs=fs ++ [(k,v)]
 | [],_,_,_=>rfl
 | (j,u) :: fs,k,v,h=>by
  have n:¬ (j=k):=fun e=>by
   subst e
   rw [List.lookup_cons_self] at h
   cases h
  have hk:(k == j)=false:=by
   cases e:k == j with
   | false=>rfl
   | true=>exact absurd (eq_of_beq e).symm n
  rw [List.lookup_cons,hk] at h
  rw [yL,if_neg n,vF h];rfl
def wfl (t:Addr) (n:Int) (hd qd fl sv ln:Addr):List (Str × V):=[("shape",.ref t),("many",.int n),("homes",.ref hd),("queues",.ref qd),("fallen",.ref fl),("severed",.ref sv),("lines",.ref ln)]
structure vU (K:W.Frag) (C:Addr):Prop where
 cl:Cls K C
 nS:xC K C "shape"
 nM:xC K C "many"
 nH:xC K C "homes"
 nQ:xC K C "queues"
 nF:xC K C "fallen"
 nV:xC K C "severed"
 nL:xC K C "lines"
def pQ (B:Addr->Prop) (C CS:Addr) (H:Hp) (kvs:List (Key × V)) (ps:LSS) (pls:List Str) (z:Str):Prop:=∃ (h:Addr) (nb:List Str) (xs:List (Addr × Addr)) (ars:List (Option Str)),wN kvs (Sum.inr z)=some (.ref h)/\B h/\yK B C CS H h z nb xs (yN ars)/\fS z nb ars/\Paired (jS ps z) pls ars
structure xX (C CS CT CW:Addr) (H:Hp) (p t:Addr) (zs:List Str) (ps:LSS) (pls:List Str):Prop where
 ob:∃ (dx hd qd fl sv ln:Addr) (kvs:List (Key × V)) (qvs:List (List Key × V)),H p=some (.ins CW dx (wfl t pls.length hd qd fl sv ln))/\H hd=some (.dK kvs)/\(∀ z ∈ zs,pQ (fun _=>True) C CS H kvs ps pls z)/\H qd=some (.dT qvs)/\(∀ a ∈ zs,∀ b ∈ yZ ps a,QOk H qvs a b)/\H fl=some (.lst [])/\H ln=some (.lst [])
 tf:uF CT H t zs ps
theorem QOk.on {H H':Hp} {kvs:List (List Key × V)} {a b:Str} (h:QOk H kvs a b) (k:zC [] H H'):QOk H' kvs a b:=let ⟨l,e,x⟩:=h;⟨l,e,k _ _ (by simp) x⟩
theorem xX.on {C CS CT CW:Addr} {H H':Hp} {p t:Addr} {zs:List Str} {ps:LSS} {pls:List Str} (h:xX C CS CT CW H p t zs ps pls) (k:zC [] H H'):xX C CS CT CW H' p t zs ps pls:=by
 obtain ⟨⟨dx,hd,qd,fl,sv,ln,kvs,qvs,h1,h2,h3,h4,h5,h6,h7⟩,tf⟩:=h
 refine ⟨⟨dx,hd,qd,fl,sv,ln,kvs,qvs,k _ _ (by simp) h1,k _ _ (by simp) h2,fun z hz=>?_,k _ _ (by simp) h4,fun a ha b hb=>(h5 a ha b hb).on k,k _ _ (by simp) h6,k _ _ (by simp) h7⟩,tf.on k⟩
 obtain ⟨h,nb,xs,ars,e,b,hh,r⟩:=h3 z hz
 exact ⟨h,nb,xs,ars,e,b,hh.on k,r⟩
section
variable {P:Program} {w:World} {K:W.Frag} {mg:Str->Option Value} {base:Heap} {C CS CT CW CH CR:Addr}
def zH3 (CT:Addr):Sp:=fun vs H Q _=>∃ (t:Addr) (zs:List Str) (ps:LSS),vs=[.ref t]/\uF CT H t zs ps/\∀ (q:Addr) (qvs:List (List Key × V)) (H':Hp),H q=none->H' q=some (.dT qvs)->(∀ a ∈ zs,∀ b ∈ yZ ps a,∃ l,wN qvs [Sum.inr a,Sum.inr b]=some (.ref l)/\H' l=some (.lst [])/\H l=none)->zC [] H H'->Q (.ref q) H'
theorem okNL (T:vV K CT) (G:yB K mg "no_letters" sNL ["tree"]) (MH:z8 P w K mg base CX0 1 CT "houses" ["self"] (t0 CT)) (MN:z8 P w K mg base CX0 4 CT "neighbours" ["self","house"] (nE CT)):Cal P w K mg base CX0 5 "no_letters" ["tree"] (zH3 CT):=by
 refine G.ok scNL (fun vs H Q E h=>by obtain ⟨t,zs,ps,rfl,_⟩:=h;rfl) (fun f cdv A outer s0 H vs Q E hr h=>?_)
 obtain ⟨t,zs,ps,rfl,F,q⟩:=h
 have hr4:zO 4 _:=hr
 have hr1:zO 1 _:=hr.mono (by decide)
 have hu:=uT hr
 obtain ⟨dx,nl,pl',nd,L,N,_,h1,_⟩:=id F.tr
 refine ⟨_,(zH (zL (zCN hu (N:=["tree"]) (sc:=zE sNL) (ix:=[0]) (by decide +kernel) (yG (yP MH T.cl hr1 (pv 0))) (fun _ _ _ _=>lN (K:=K) (yY MN T.cl hr4 (pv 2) (zA (pv 0) zD))) (fun _ _ _ _=>yT) (fun _ _ _ _=>yT) (fun _ _ _ _=>wJ (zA (pv 0) (zA (pv 1) zD))) (fun _ _ _ _=>zX zD)))),?_⟩
 refine ⟨_,rfl,t,dx,_,rfl,h1,cO _ _ _,t,_,zs,ps,rfl,F.tr,fun l hl=>?_⟩
 have k1:zC [] H (upd H l (.lst (zs.map V.str))):=zC.new hl
 have e1:upd H l (.lst (zs.map V.str)) l=some (.lst (zs.map V.str)):=zB
 generalize upd H l (.lst (zs.map V.str))=H1 at k1 e1
 refine ⟨l,rfl,⟨_,.of e1⟩,fun acc hacc=>?_⟩
 have la:l ≠ acc:=zG e1 hacc
 have lz:=F.len
 have step:∀ {H2 H3:Hp} {ys:List (List Key × V)} {k:List Key} {m:Addr} {a b:Str},zC [acc] H2 H3->H2 acc=some (.dT ys)->H3 m=some (.lst [])->H1 m=none->(∃ l,wN ys [Sum.inr a,Sum.inr b]=some (.ref l)/\H2 l=some (.lst [])/\H1 l=none)->∃ l,wN (xH ys k (.ref m)) [Sum.inr a,Sum.inr b]=some (.ref l)/\H3 l=some (.lst [])/\H1 l=none:=by
  intro H2 H3 ys k m a b kk ea em nm ⟨l,e,hl,n⟩
  rw [tV]
  by_cases c:[Sum.inr a,Sum.inr b]=k
  ·rw [if_pos c];exact ⟨m,rfl,em,nm⟩
  ·rw [if_neg c]
   exact ⟨l,e,kk _ _ (by simp [sR hl ea (fun z=>nomatch z)]) hl,n⟩
 refine zA7 (K:=K) (a:=l) (its:=zs.map V.str) (fun i ys τ H2=>∃ v0 v1:Option V,τ=[v0,v1,some (.ref t)]/\ys.length <= 60 * i/\(∀ a ∈ zs.take i,∀ b ∈ yZ ps a,∃ l,wN ys [Sum.inr a,Sum.inr b]=some (.ref l)/\H2 l=some (.lst [])/\H1 l=none)/\zC [acc] H1 H2/\H2 acc=some (.dT ys)) ⟨_,_,rfl,zKG _,(fun a ha=>by cases ha),zC.at (by simp),zB⟩ ?_ ?_ ?_
 ·rintro i ys τ H2 _ ⟨v0,v1,rfl,_,_,k2,_⟩
  exact .of (k2 _ _ (by simp [la]) e1)
 ·rintro i ys τ H2 x hx ⟨v0,v1,rfl,ly,old,k2,h2⟩
  rw [zKC] at hx
  cases ex:zs[i]? with
  | none=>rw [ex] at hx;cases hx
  | some a=>
  rw [ex] at hx
  cases zKD hx
  have il:i < zs.length:=(zJ8.mp ex).1
  have az:=zKA ex
  have F2:=F.on (k1.trans (k2.drop hacc))
  refine ⟨_,rfl,t,dx,_,rfl,(k1.trans (k2.drop hacc)) _ _ (by simp) h1,zD2 _ _ _,_,rfl,t,a,_,zs,ps,rfl,F2.tr,F.good a az,az,fun m nb H3 hm pm _ e3 k3=>⟨m,rfl,⟨_,.of e3⟩,?_⟩⟩
  have h3:=k3 _ _ (by simp) h2
  have ma:m ≠ acc:=sR e3 h3 (fun z=>nomatch z)
  have lnb:nb.length <= 60:=by
   have:=wZ (pm.nodup_iff.mpr (F.rn a)) fun z hz=>qS F.tz (pm.mem_iff.mp hz)
   omega
  refine zAQ (K:=K) (its:=nb.map V.str) (fun j ys τ H4=>∃ v1:Option V,τ=[some (.str a),v1,some (.ref t)]/\j <= nb.length/\ys.length <= 60 * i + j/\(∀ a ∈ zs.take i,∀ b ∈ yZ ps a,∃ l,wN ys [Sum.inr a,Sum.inr b]=some (.ref l)/\H4 l=some (.lst [])/\H1 l=none)/\(∀ b ∈ nb.take j,∃ l,wN ys [Sum.inr a,Sum.inr b]=some (.ref l)/\H4 l=some (.lst [])/\H1 l=none)/\zC [acc] H3 H4/\H4 acc=some (.dT ys)) ?_ ?_ ?_ ?_
  ·exact ⟨v1,rfl,zKG _,ly,(fun a ha b hb=>by obtain ⟨l,e,x,n⟩:=old a ha b hb;exact ⟨l,e,k3 _ _ (by simp) x,n⟩),(fun b hb=>by cases hb),zC.refl _,h3⟩
  ·rintro j ys τ H4 ⟨v1,rfl,jl,ly,_,_,k4,h4⟩
   exact ⟨h4,by rw [sizeLine_eq];omega,.of (k4 _ _ (by simp [ma]) e3)⟩
  ·rintro j ys τ H4 x hx ⟨v1,rfl,jl,ly,o1,o2,k4,h4⟩
   rw [zKC] at hx
   cases ey:nb[j]? with
   | none=>rw [ey] at hx;cases hx
   | some b=>
   rw [ey] at hx
   cases zKD hx
   refine ⟨_,rfl,_,rfl,by show 2 <= sizeLine;decide,fun c hc=>?_⟩
   have k5:zC [] H4 (upd H4 c (.tup [.str a,.str b])):=zC.new hc
   have e5:upd H4 c (.tup [.str a,.str b]) c=some (.tup [.str a,.str b]):=zB
   generalize upd H4 c (.tup [.str a,.str b])=H5 at k5 e5 ⊢
   refine ⟨zKG _,fun l' hl'=>?_⟩
   have k6:zC [] H5 (upd H5 l' (.lst [])):=zC.new hl'
   have e6:upd H5 l' (.lst []) l'=some (.lst []):=zB
   generalize upd H5 l' (.lst [])=H6 at k6 e6 ⊢
   have k46:=k5.trans k6
   have h6:=k46 _ _ (by simp) h4
   have n1:H1 l'=none:=by
    have n4:=k5.none (by simp) hl'
    have la':l' ≠ acc:=Ne.symm (zG h4 n4)
    exact k2.none (by simp [la']) (k3.none (by simp) (k4.none (by simp [la']) n4))
   have ca:c ≠ acc:=Ne.symm (zG h4 hc)
   have la':l' ≠ acc:=sR e6 h6 (fun z=>nomatch z)
   have kl:zC [acc] H6 (upd H6 acc (.dT (xH ys [Sum.inr a,Sum.inr b] (.ref l')))):=zC.at (by simp)
   have k4l:zC [acc] H4 (upd H6 acc (.dT (xH ys [Sum.inr a,Sum.inr b] (.ref l')))):=(k46.mono (by simp)).trans kl
   have el:=kl _ _ (by simp [la']) e6
   refine ⟨c,[Sum.inr a,Sum.inr b],rfl,k6 _ _ (by simp) e5,h6,_,rfl,(zJ8.mp ey).1,by have:=wA ys [Sum.inr a,Sum.inr b] (.ref l');omega,fun a' ha' b' hb'=>step k4l h4 el n1 (o1 a' ha' b' hb'),fun b' hb'=>?_,k4.trans k4l,zB⟩
   rw [wF ey] at hb'
   rcases zKN.mp hb' with h | h
   ·exact step k4l h4 el n1 (o2 b' h)
   ·rw [zJ9.mp h,tV,if_pos rfl]
    exact ⟨l',rfl,el,n1⟩
  ·rintro ys τ H4 ⟨v1,rfl,_,ly,o1,o2,k4,h4⟩
   rw [zJ6] at ly o2
   rw [zK6] at o2
   refine ⟨_,v1,rfl,by omega,fun a' ha' b' hb'=>?_,(k2.trans (k3.mono (by simp))).trans k4,h4⟩
   rw [wF ex] at ha'
   rcases zKN.mp ha' with h | h
   ·exact o1 a' h b' hb'
   ·rw [zJ9.mp h] at hb' ⊢
    exact o2 b' (pm.mem_iff.mpr hb')
 ·rintro ys τ H2 ⟨v0,v1,rfl,_,old,k2,h2⟩
  rw [zJ6,zK6] at old
  refine q acc ys H2 (k1.none (by simp) hacc) h2 (fun a ha b hb=>?_) (k1.trans (k2.drop hacc))
  obtain ⟨l,e,x,n⟩:=old a ha b hb
  exact ⟨l,e,x,k1.none (by simp) n⟩
theorem zIC:zI ["self","tree","places"] ["self","tree","places"] (zE sWI):=scm
def zFA (C CS CT CW:Addr):Sp:=fun vs H Q _=>∃ (p dx t pl:Addr) (zs:List Str) (ps:LSS) (pls:List Str) (B:Hp),vs=[.ref p,.ref t,.ref pl]/\H p=some (.ins CW dx [])/\uF CT H t zs ps/\xJ B CT H t zs ps/\H pl=some (.lst (pls.map V.str))/\pls ≠ []/\pls.length <= 100/\(∀ b ∈ pls,b ∈ zs)/\∀ H',xX C CS CT CW H' p t zs ps pls->(∀ (u:Addr) (H2:Hp),H u ≠ none->B u ≠ none->u ≠ p->u ≠ t->(∀ xs,H' u ≠ some (.tup xs))->zC [u] H' H2->xX C CS CT CW H2 p t zs ps pls)->zC [p] H H'->Q .non H'
theorem okWI {fI:Addr} {fd:FuncData} (T:vV K CT) (TW:vU K CW) (G:Fun K "__init__" "World.__init__" sWI fI fd) (CCP:Cal P w K mg base CX0 4 "check_places" ["tree","places"] (fun vs H Q _=>zFD K CT CH CR vs H Q E0)) (MH:z8 P w K mg base CX0 1 CT "houses" ["self"] (t0 CT)) (CNH:Cal P w K mg base CX0 7 "new_house" ["tree","house","places"] (zH4 C CS CT)) (CNL:Cal P w K mg base CX0 5 "no_letters" ["tree"] (zH3 CT)) (b_len:Blt mg "len"):vZ P w K mg base CX0 8 fI fd ["self","tree","places"] (zFA C CS CT CW):=by
 refine G.ok zIC (fun vs H Q E h=>by obtain ⟨p,dx,t,pl,zs,ps,pls,B,rfl,_⟩:=h;rfl) (fun cdv A outer s0 H vs Q E hr h=>?_)
 obtain ⟨p,dx,t,pl,zs,ps,pls,B,rfl,hp,F,TB,hpl,ne,lp,hin,q⟩:=h
 have hr7:zO 7 _:=hr
 have hr5:zO 5 _:=hr.mono (by decide)
 have hr4:zO 4 _:=hr.mono (by decide)
 have hr1:zO 1 _:=hr.mono (by decide)
 refine ⟨_,(zF (z9 (zM CCP hr4 (zA (pv 1) (zA (pv 2) zD))))
   (zF (yX (pv 0) (pv 1) rfl)
   (zF (yX (pv 0) (zP yD b_len y8 (zA (pv 2) zD)) rfl)
   (zF (yX (pv 0) (iE (N:=["self","tree","places"]) (sc:=zE sWI) (ix:=[1,2]) (by decide +kernel) (yG (yP MH T.cl hr1 (pv 1))) (fun _ _ _ _=>yT) (fun _ _ _ _=>(pv 0)) (fun _ _ _ _=>(zM CNH hr7 (zA (pv 1) (zA (pv 0) (zA (pv 2) zD)))))) rfl)
   (zF (yX (pv 0) (zM CNL hr5 (zA (pv 1) zD)) rfl)
   (zF (yX (pv 0) (zX zD) rfl)
   (zF (yX (pv 0) (zX zD) rfl)
   (zH (yX (pv 0) (zX zD) rfl))))))))),?_⟩
 refine ⟨_,rfl,_,rfl,t,.ref pl,zs,ps,rfl,F,.inl ⟨pl,pls,rfl,hpl,ne,lp,hin,fun H1 k1=>?_⟩⟩
 have F1:=F.on k1
 have plp:pl ≠ p:=fun e=>by rw [e,hp] at hpl;cases hpl
 have TK:∀ {H2:Hp},zC [p] H H2->xJ B CT H2 t zs ps:=fun {H2} k=>by
  obtain ⟨dx',a1,a2,a3,L,N,⟨b1,b2,b3,b4⟩,e1,e2,⟨qs,e3,e3'⟩,e4⟩:=id TB
  have tp:t ≠ p:=fun e=>by
   rw [e,hp] at e1
   have e0:(0:Nat)=3:=congrArg List.length (HO.ins.inj (zKD e1)).2.2
   exact absurd e0 (by decide)
  have B':xJ (fun u=>if u=p then some (.lst []) else B u) CT H t zs ps:=⟨dx',a1,a2,a3,L,N,⟨(if_neg (fun e=>by rw [e,hp] at e2;cases e2)).trans b1,(if_neg (fun e=>by rw [e,hp] at e3;cases e3)).trans b2,(if_neg (fun e=>by have:=e4.d;rw [e,hp] at this;cases this)).trans b3,fun z hz=>(if_neg (fun e=>by have:=e4.l z hz;rw [e,hp] at this;cases this)).trans (b4 z hz)⟩,e1,e2,⟨qs,e3,e3'⟩,e4⟩
  refine (B'.keep k fun b hb=>?_).base fun u h=>?_
  ·rw [zJ9.mp hb]
   exact ⟨Ne.symm tp,(by rw [if_pos rfl];nofun),fun xs z=>by rw [hp] at z;cases z⟩
  ·by_cases e:u=p
   ·rw [if_pos e] at h;cases h
   ·rw [if_neg e] at h;exact h
 have FK:∀ {H2:Hp},zC [p] H H2->uF CT H2 t zs ps:=fun k=>⟨(TK k).base fun _ _=>rfl,F.good,F.nd,F.len,F.tz,F.cn,F.rn⟩
 have hp1:=k1 _ _ (by simp) hp
 refine ⟨_,rfl,_,rfl,p,CW,dx,_,rfl,hp1,TW.cl,TW.nS,by show 0 < 1000;decide,?_⟩
 rw [vF rfl]
 generalize hH2:upd _ p _=H2
 have k2:zC [p] H H2:=by rw [<- hH2];exact (k1.mono (by simp)).trans (zC.at (by simp))
 have hp2:H2 p=some (.ins CW dx [("shape",.ref t)]):=by rw [<- hH2];exact zB
 refine ⟨_,rfl,_,_,rfl,.inl ⟨_,.of (k2 _ _ (by simp [plp]) hpl),rfl⟩,_,rfl,p,CW,dx,_,rfl,hp2,TW.cl,TW.nM,by show 1 < 1000;decide,?_⟩
 rw [vF rfl,zJ6]
 generalize hH3:upd _ p _=H3
 have k3:zC [p] H H3:=by rw [<- hH3];exact k2.trans (zC.at (by simp))
 have hp3:H3 p=some (.ins CW dx [("shape",.ref t),("many",.int (pls.length:Int))]):=by rw [<- hH3];exact zB
 have F3:=FK k3
 obtain ⟨dxt,_,_,_,_,_,_,ht3,_⟩:=id F3.tr
 refine ⟨_,rfl,t,dxt,_,rfl,ht3,cO _ _ _,t,_,zs,ps,rfl,F3.tr,fun l hl=>?_⟩
 have k34:zC [] H3 (upd H3 l (.lst (zs.map V.str))):=zC.new hl
 have e4:upd H3 l (.lst (zs.map V.str)) l=some (.lst (zs.map V.str)):=zB
 generalize upd H3 l (.lst (zs.map V.str))=H4 at k34 e4
 have hpl4:=k34 _ _ (by simp) (k3 _ _ (by simp [plp]) hpl)
 have F4:=F3.on k34
 have hp4:=k34 _ _ (by simp) hp3
 have lz:=F.len
 refine ⟨l,rfl,⟨_,.of e4⟩,fun acc hacc=>?_⟩
 have la:l ≠ acc:=zG e4 hacc
 refine sX (K:=K) (a:=l) (its:=zs.map V.str) (by rw [zJ6,sizeLine_eq];omega) (fun i ys τ H5=>∃ kk:Option V,τ=[kk,some (.ref t),some (.ref pl)]/\ys.length <= i/\(∀ z ∈ zs.take i,pQ (fun u=>H4 u=none/\u ≠ acc) C CS H5 ys ps pls z)/\zC [acc] H4 H5/\H5 acc=some (.dK ys)) ⟨_,rfl,zKF _,(fun z hz=>by cases hz),zC.at (by simp),zB⟩ ?_ ?_ ?_
 ·rintro i ys τ H5 ⟨kk,rfl,ly,_,k5,h5⟩
  exact ⟨h5,ly,.of (k5 _ _ (by simp [la]) e4)⟩
 ·rintro i ys τ H5 x hx ⟨kk,rfl,ly,old,k5,h5⟩
  rw [zKC] at hx
  cases ex:zs[i]? with
  | none=>rw [ex] at hx;cases hx
  | some z=>
  rw [ex] at hx
  cases zKD hx
  have k45:=k5.drop hacc
  refine ⟨_,rfl,_,rfl,_,rfl,_,rfl,t,pl,z,pls,zs,ps,rfl,F4.on k45,zKA ex,k45 _ _ (by simp) hpl4,hin,ne,lp,fun h nb xs ars H6 nh hh hg pa k6=>?_⟩
  have h6:=k6 _ _ (by simp) h5
  have kl:zC [acc] H6 (upd H6 acc (.dK (xH ys (Sum.inr z) (.ref h)))):=zC.at (by simp)
  have far:∀ {u:Addr},H5 u=none->H4 u=none/\u ≠ acc:=fun {u} hu=>by
   have ua:u ≠ acc:=Ne.symm (zG h5 hu)
   exact ⟨k5.none (by simp [ua]) hu,ua⟩
  have on:∀ {h':Addr} {z':Str} {nb':List Str} {xs':List (Addr × Addr)} {ars':List (Option Str)},h' ≠ acc->yK (fun u=>H4 u=none/\u ≠ acc) C CS H6 h' z' nb' xs' (yN ars')->yK (fun u=>H4 u=none/\u ≠ acc) C CS (upd H6 acc (.dK (xH ys (Sum.inr z) (.ref h)))) h' z' nb' xs' (yN ars'):=fun ne hh=>hh.keep kl fun b hb=>by
   rw [zJ9.mp hb]
   exact ⟨Ne.symm ne,fun x=>x.2 rfl,fun ys e=>by rw [h6] at e;cases e⟩
  refine ⟨Sum.inr z,rfl,h6,_,rfl,by have:=wA ys (Sum.inr z) (.ref h);omega,fun z' hz'=>?_,(k5.trans (k6.mono (by simp))).trans kl,zB⟩
  by_cases c:z'=z
  ·subst c
   exact ⟨h,nb,xs,ars,by rw [tV,if_pos rfl],far nh,on (far nh).2 (hh.weak fun u hu=>far hu),hg,pa⟩
  ·rw [wF ex] at hz'
   rcases zKN.mp hz' with m | m
   ·obtain ⟨h',nb',xs',ars',e,b,hh',r⟩:=old z' m
    exact ⟨h',nb',xs',ars',by rw [tV,if_neg (fun e=>c (Sum.inr.inj e))];exact e,b,on b.2 (hh'.on k6),r⟩
   ·exact absurd (zJ9.mp m) c
 rintro kvs τ H5 ⟨kk,rfl,_,homes,k5,h5⟩
 rw [zJ6,zK6] at homes
 have k45:=k5.drop hacc
 have ap:acc ≠ p:=Ne.symm (zG hp4 hacc)
 refine ⟨_,rfl,p,CW,dx,_,rfl,k45 _ _ (by simp) hp4,TW.cl,TW.nH,by show 2 < 1000;decide,?_⟩
 rw [vF rfl]
 generalize hH6:upd _ p _=H6
 have k56:zC [p] H5 H6:=by rw [<- hH6];exact zC.at (by simp)
 have k6:zC [p] H H6:=(k3.trans ((k34.trans k45).mono (by simp))).trans k56
 have hp6:H6 p=some (.ins CW dx [("shape",.ref t),("many",.int (pls.length:Int)),("homes",.ref acc)]):=by rw [<- hH6];exact zB
 have ntp:∀ {Hx:Hp} {fs:List (Str × V)},Hx p=some (.ins CW dx fs)->∀ b ∈ [p],b ≠ p->False:=fun _ b hb n=>n (zJ9.mp hb)
 have HK:∀ {Ha Hb:Hp} {fs:List (Str × V)},Ha p=some (.ins CW dx fs)->zC [p] Ha Hb->(∀ z ∈ zs,pQ (fun u=>H4 u=none/\u ≠ acc) C CS Ha kvs ps pls z)->∀ z ∈ zs,pQ (fun u=>H4 u=none/\u ≠ acc) C CS Hb kvs ps pls z:=fun {Ha Hb fs} ea k hs z hz=>by
  obtain ⟨h',nb',xs',ars',e,b,hh',r⟩:=hs z hz
  have np:∀ {u:Addr},H4 u=none/\u ≠ acc->u ≠ p:=fun {u} hu e=>by rw [e,hp4] at hu;cases hu.1
  exact ⟨h',nb',xs',ars',e,b,hh'.keep k (fun b' hb'=>by rw [zJ9.mp hb'];exact ⟨Ne.symm (np b),fun x=>np x rfl,fun ys e=>by rw [ea] at e;cases e⟩),r⟩
 have homes6:=HK (k45 _ _ (by simp) hp4) k56 homes
 have h6:=k56 _ _ (by simp [ap]) h5
 refine ⟨_,rfl,t,zs,ps,rfl,FK k6,fun qd qvs H7 nq h7 qs k67=>?_⟩
 have k7:=k6.trans (k67.mono (by simp))
 have hp7:=k67 _ _ (by simp) hp6
 have homes7:∀ z ∈ zs,pQ (fun u=>H4 u=none/\u ≠ acc) C CS H7 kvs ps pls z:=fun z hz=>by
  obtain ⟨h',nb',xs',ars',e,b,hh',r⟩:=homes6 z hz
  exact ⟨h',nb',xs',ars',e,b,hh'.on k67,r⟩
 have qp:qd ≠ p:=fun e=>by rw [e,hp7] at h7;cases h7
 refine ⟨_,rfl,p,CW,dx,_,rfl,hp7,TW.cl,TW.nQ,by show 3 < 1000;decide,?_⟩
 rw [vF rfl]
 generalize hH8:upd _ p _=H8
 have k78:zC [p] H7 H8:=by rw [<- hH8];exact zC.at (by simp)
 have hp8:H8 p=some (.ins CW dx [("shape",.ref t),("many",.int (pls.length:Int)),("homes",.ref acc),("queues",.ref qd)]):=by rw [<- hH8];exact zB
 have homes8:=HK hp7 k78 homes7
 refine ⟨zKG _,fun f1 hf1=>?_⟩
 have k8a:zC [] H8 (upd H8 f1 (.lst [])):=zC.new hf1
 have e8a:upd H8 f1 (.lst []) f1=some (.lst []):=zB
 generalize upd H8 f1 (.lst [])=H9 at k8a e8a ⊢
 have hp9:=k8a _ _ (by simp) hp8
 refine ⟨_,rfl,p,CW,dx,_,rfl,hp9,TW.cl,TW.nF,by show 4 < 1000;decide,?_⟩
 rw [vF rfl]
 generalize hHa:upd _ p _=Ha
 have k9a:zC [p] H9 Ha:=by rw [<- hHa];exact zC.at (by simp)
 have hpa:Ha p=some (.ins CW dx [("shape",.ref t),("many",.int (pls.length:Int)),("homes",.ref acc),("queues",.ref qd),("fallen",.ref f1)]):=by rw [<- hHa];exact zB
 refine ⟨zKG _,fun f2 hf2=>?_⟩
 have kab:zC [] Ha (upd Ha f2 (.lst [])):=zC.new hf2
 generalize upd Ha f2 (.lst [])=Hb at kab ⊢
 have hpb:=kab _ _ (by simp) hpa
 refine ⟨_,rfl,p,CW,dx,_,rfl,hpb,TW.cl,TW.nV,by show 5 < 1000;decide,?_⟩
 rw [vF rfl]
 generalize hHc:upd _ p _=Hc
 have kbc:zC [p] Hb Hc:=by rw [<- hHc];exact zC.at (by simp)
 have hpc:Hc p=some (.ins CW dx [("shape",.ref t),("many",.int (pls.length:Int)),("homes",.ref acc),("queues",.ref qd),("fallen",.ref f1),("severed",.ref f2)]):=by rw [<- hHc];exact zB
 refine ⟨zKG _,fun f3 hf3=>?_⟩
 have kcd:zC [] Hc (upd Hc f3 (.lst [])):=zC.new hf3
 have ed:upd Hc f3 (.lst []) f3=some (.lst []):=zB
 generalize upd Hc f3 (.lst [])=Hd at kcd ed ⊢
 have hpd:=kcd _ _ (by simp) hpc
 refine ⟨_,rfl,p,CW,dx,_,rfl,hpd,TW.cl,TW.nL,by show 6 < 1000;decide,?_⟩
 rw [vF rfl]
 generalize hHe:upd _ p _=He
 have kde:zC [p] Hd He:=by rw [<- hHe];exact zC.at (by simp)
 have hpe:He p=some (.ins CW dx (wfl t pls.length acc qd f1 f2 f3)):=by rw [<- hHe];exact zB
 have k8e:zC [p] H8 He:=(((((k8a.mono (by simp)).trans k9a).trans (kab.mono (by simp))).trans kbc).trans (kcd.mono (by simp))).trans kde
 have k9e:zC [p] H9 He:=((((k9a.trans (kab.mono (by simp))).trans kbc).trans (kcd.mono (by simp)))).trans kde
 have k7e:=k78.trans k8e
 have f1p:f1 ≠ p:=fun e=>by rw [e,hp9] at e8a;cases e8a
 have f3p:f3 ≠ p:=fun e=>by rw [e,hpd] at ed;cases ed
 have k0e:=k7.trans k7e
 have TBe:=TK k0e
 have homesE:=HK hp8 k8e homes8
 have fin:∀ (S:List Addr) (Hx:Hp),zC S He Hx->(∀ u ∈ S,H u ≠ none/\B u ≠ none/\u ≠ p/\u ≠ t/\∀ xs,He u ≠ some (.tup xs))->xX C CS CT CW Hx p t zs ps pls:=fun S Hx kx hS=>by
  have there:∀ {Hy:Hp},zC [p] H Hy->∀ u ∈ S,Hy u ≠ none:=fun {Hy} k u hu e=>(hS u hu).1 (k.none (by simpa using (hS u hu).2.2.1) e)
  have k4:zC [p] H H4:=k3.trans (k34.mono (by simp))
  have ofn:∀ {Hy:Hp} {v:Addr},zC [p] H Hy->Hy v=none->v ∉ S:=fun k hv hm=>there k _ hm hv
  have f1S:f1 ∉ S:=ofn ((k7.trans k78)) hf1
  have f3S:f3 ∉ S:=ofn (((((k7.trans k78).trans (k8a.mono (by simp))).trans k9a).trans (kab.mono (by simp))).trans kbc) hf3
  refine ⟨⟨dx,acc,qd,f1,f2,f3,kvs,qvs,kx _ _ (fun hm=>(hS p hm).2.2.1 rfl) hpe,kx _ _ (ofn k4 hacc) (k7e _ _ (by simp [ap]) (k67 _ _ (by simp) h6)),fun z hz=>?_,kx _ _ (ofn k6 nq) (k7e _ _ (by simp [qp]) h7),fun a ha b hb=>?_,kx _ _ f1S (k9e _ _ (by simp [f1p]) e8a),kx _ _ f3S (kde _ _ (by simp [f3p]) ed)⟩,⟨(TBe.keep kx fun u hu=>⟨(hS u hu).2.2.2.1,(hS u hu).2.1,(hS u hu).2.2.2.2⟩).base fun _ _=>rfl,F.good,F.nd,F.len,F.tz,F.cn,F.rn⟩⟩
  ·obtain ⟨h',nb',xs',ars',e,b,hh',r⟩:=homesE z hz
   exact ⟨h',nb',xs',ars',e,trivial,(hh'.keep kx fun u hu=>⟨fun e=>there k4 u hu (by rw [e];exact b.1),fun x=>there k4 u hu x.1,(hS u hu).2.2.2.2⟩).weak (fun _ _=>trivial),r⟩
  ·obtain ⟨l',e,x,n⟩:=qs a ha b hb
   have lp:l' ≠ p:=fun e=>by rw [e,hp6] at n;cases n
   exact ⟨l',e,kx _ _ (ofn k6 n) (k7e _ _ (by simp [lp]) x)⟩
 exact q He (fin [] He (zC.refl _) (fun u hu=>by cases hu)) (fun u H2 a1 a2 a3 a4 a5 k=>fin [u] H2 k fun v hv=>by rw [zJ9.mp hv];exact ⟨a1,a2,a3,a4,a5⟩) k0e
end
abbrev sWd:Stmt:=top 64
theorem pX:bootBuiltins "ValueError"=some (.type "ValueError"):=by decide +kernel
structure Kn (K:W.Frag) (mg:Str->Option Value) (cs:Nat->Addr):Prop where
 g0:Glo mg "NoTree" (.ref (cs 0))
 g1:Glo mg "NoHouse" (.ref (cs 1))
 g2:Glo mg "NoSeat" (.ref (cs 2))
 g3:Glo mg "NoAsker" (.ref (cs 3))
 g4:Glo mg "NoLetter" (.ref (cs 4))
 g5:Glo mg "NoRight" (.ref (cs 5))
 g6:Glo mg "NoRow" (.ref (cs 6))
 g7:Glo mg "NoTie" (.ref (cs 7))
 g8:Glo mg "Down" (.ref (cs 8))
 g9:Glo mg "NoMend" (.ref (cs 9))
 g10:Glo mg "NoText" (.ref (cs 10))
 g11:Glo mg "NoLine" (.ref (cs 11))
 kd:∀ i j,i < 12->j < 12->W.kitOne K (.ref (cs i)) (.ref (cs j))=some (decide (i=j))
 kv:∀ i,i < 12->W.kitOne K (.ref (cs i)) (.type "ValueError")=some true
 ke:∀ i,i < 12->pY K (cs i)
def rN:List Str:=["tree","house","seat","asker","letter","right","row","tie","down","mend","text","line"]
def jT (i:Nat):Str:=rN.getD i ""
theorem zBR {i:Nat} (hi:i < 12):(rN.map V.str)[i]?=some (.str (jT i)):=by
 have e:rN.length=12:=rfl
 rw [zKC,zJ7 (by rw [e];exact hi)]
 unfold jT
 rw [zKB,zJ7 (by rw [e];exact hi)];rfl
def sV (d:Nat->Bool):List V:=[.bl (d 0),.bl (d 1),.bl (d 2),.bl (d 3),.bl (d 4),.bl (d 5),.bl (d 6),.bl (d 7),.bl (d 8),.bl (d 9),.bl (d 10),.bl (d 11)]
theorem zDE {d:Nat->Bool} {j:Nat} (hj:j < 12):(sV d)[j]?=some (.bl (d j)):=by
 have e:sV d=(List.range 12).map fun j=>V.bl (d j):=rfl
 rw [e,zKC,List.getElem?_range hj];rfl
theorem bN:zI ["_law_e","_law_some","_law_words"] ["_law_e"] (zE sWd):=scm
def jY (cs:Nat->Addr):SpH:=fun hx vs H Q=>∃ (i:Nat),vs=[.ref hx]/\i < 12/\H hx=some (iW (cs i) hx)/\∀ H',zC [] H H'->Q (.str (jT i)) H'
section
variable {P:Program} {w:World} {K:W.Frag} {mg:Str->Option Value} {base:Heap} {C:Addr}
theorem zF4 {cs:Nat->Addr} (kn:Kn K mg cs) (G:yB K mg "_law_word" sWd ["_law_e"]) (b_isinstance:Blt mg "isinstance") (b_len:Blt mg "len") (b_ValueError:Blt mg "ValueError") :
  zDZ P w K mg base 1 "_law_word" ["_law_e"] (jY cs):=by
 refine G.okH bN (fun hx vs H Q h=>by obtain ⟨i,rfl,_⟩:=h;rfl) (fun f hx cdv A outer s0 H vs Q hh h=>?_)
 obtain ⟨i,rfl,hi,ha,q⟩:=h
 obtain ⟨a,ea⟩:∃ a,a=hx:=⟨_,rfl⟩
 subst ea
 refine ⟨_,(zF (z5 (i:=1) bN.nd rfl (Or.inl rfl) (zX (zA (zP (xV (D:=cs 0)) b_isinstance zN (zA (pv 0) (zA (wP kn.g0) zD))) (zA (zP (xV (D:=cs 1)) b_isinstance zN (zA (pv 0) (zA (wP kn.g1) zD))) (zA (zP (xV (D:=cs 2)) b_isinstance zN (zA (pv 0) (zA (wP kn.g2) zD))) (zA (zP (xV (D:=cs 3)) b_isinstance zN (zA (pv 0) (zA (wP kn.g3) zD))) zD))))))
   (zF (z5 (i:=1) bN.nd rfl (Or.inl rfl) (yC vS (pv 1) (zX (zA (zP (xV (D:=cs 4)) b_isinstance zN (zA (pv 0) (zA (wP kn.g4) zD))) (zA (zP (xV (D:=cs 5)) b_isinstance zN (zA (pv 0) (zA (wP kn.g5) zD))) (zA (zP (xV (D:=cs 6)) b_isinstance zN (zA (pv 0) (zA (wP kn.g6) zD))) (zA (zP (xV (D:=cs 7)) b_isinstance zN (zA (pv 0) (zA (wP kn.g7) zD))) zD)))))))
   (zF (z5 (i:=1) bN.nd rfl (Or.inl rfl) (yC vS (pv 1) (zX (zA (zP (xV (D:=cs 8)) b_isinstance zN (zA (pv 0) (zA (wP kn.g8) zD))) (zA (zP (xV (D:=cs 9)) b_isinstance zN (zA (pv 0) (zA (wP kn.g9) zD))) (zA (zP (xV (D:=cs 10)) b_isinstance zN (zA (pv 0) (zA (wP kn.g10) zD))) (zA (zP (xV (D:=cs 11)) b_isinstance zN (zA (pv 0) (zA (wP kn.g11) zD))) zD)))))))
   (@zF _ _ _ _ _ (@gQ _ _ _ 2 _ _ _ _ bN.nd rfl (Or.inl rfl) (Or.inl rfl) (@aT _ _ (rN.map V.str) (.cons .str (.cons .str (.cons .str (.cons .str (.cons .str (.cons .str (.cons .str (.cons .str (.cons .str (.cons .str (.cons .str (.cons .str .nil))))))))))))))
   (zF (yQ (PW.pt (uA (xM (xI (zP (cC (T:="ValueError")) b_isinstance zN (zA (pv 0) (zA (sA b_ValueError pX) zD))))) (vC (zU sK (zP yD b_len y8 (zA (zCL (ax:=a) hh (N:=["_law_e","_law_some","_law_words"]) (sc:=zE sWd) (ix:=[]) (by decide +kernel) (aJ (pv 1)) (fun _ _ _ _=>(t9 (xI (pv 0)))) (fun _ _ _ _=>(pv 0))) zD)) zK (zW _))))) (zH (zL xD)) zV)
   (zH (zL (yJ zT (pv 2) (uW F.plainAttrs_list F.slot_list_index F.type_list_index dF (pv 1) (zA wY zD)) (fun _ _=>rfl))))))))),?_⟩
 obtain ⟨d,hd⟩:∃ d:Nat->Bool,∀ j,d j=decide (i=j):=⟨fun j=>decide (i=j),fun _=>rfl⟩
 have kd:∀ j,j < 12->W.kitOne K (.ref (cs i)) (.ref (cs j))=some (d j):=fun j hj=>(kn.kd i j hi hj).trans (congrArg some (hd j).symm)
 have ke:=kn.ke i hi
 refine ⟨_,rfl,a,cs i,_,rfl,ha,ke,kd 0 (by decide),?_⟩
 refine ⟨_,rfl,a,cs i,_,rfl,ha,ke,kd 1 (by decide),?_⟩
 refine ⟨_,rfl,a,cs i,_,rfl,ha,ke,kd 2 (by decide),?_⟩
 refine ⟨_,rfl,a,cs i,_,rfl,ha,ke,kd 3 (by decide),?_⟩
 refine ⟨by show 4 <= sizeLine;decide,fun p1 f1=>?_⟩
 have k1:=zC.new (S:=[]) (o:=.lst [.bl (d 0),.bl (d 1),.bl (d 2),.bl (d 3)]) f1
 have e1:upd H p1 (.lst [.bl (d 0),.bl (d 1),.bl (d 2),.bl (d 3)]) p1=some (.lst [.bl (d 0),.bl (d 1),.bl (d 2),.bl (d 3)]):=zB
 generalize upd H p1 (.lst [.bl (d 0),.bl (d 1),.bl (d 2),.bl (d 3)])=H1 at k1 e1 ⊢
 have ha1:=k1 _ _ (by simp) ha
 refine ⟨_,rfl,?_⟩
 refine ⟨_,rfl,a,cs i,_,rfl,ha1,ke,kd 4 (by decide),?_⟩
 refine ⟨_,rfl,a,cs i,_,rfl,ha1,ke,kd 5 (by decide),?_⟩
 refine ⟨_,rfl,a,cs i,_,rfl,ha1,ke,kd 6 (by decide),?_⟩
 refine ⟨_,rfl,a,cs i,_,rfl,ha1,ke,kd 7 (by decide),?_⟩
 refine ⟨by show 4 <= sizeLine;decide,fun p2 f2=>?_⟩
 have k2:=zC.new (S:=[]) (o:=.lst [.bl (d 4),.bl (d 5),.bl (d 6),.bl (d 7)]) f2
 refine ⟨p1,p2,_,_,rfl,rfl,k2 _ _ (by simp) e1,zB,by show 8 <= sizeLine;decide,fun p3 f3=>?_⟩
 have k3:=k2.trans (zC.new (S:=[]) (o:=.lst ([.bl (d 0),.bl (d 1),.bl (d 2),.bl (d 3)] ++ [.bl (d 4),.bl (d 5),.bl (d 6),.bl (d 7)])) f3)
 have e3:=zB (H:=upd H1 p2 (.lst [.bl (d 4),.bl (d 5),.bl (d 6),.bl (d 7)])) (a:=p3) (o:=.lst ([.bl (d 0),.bl (d 1),.bl (d 2),.bl (d 3)] ++ [.bl (d 4),.bl (d 5),.bl (d 6),.bl (d 7)]))
 generalize upd (upd H1 p2 _) p3 _=H3 at k3 e3 ⊢
 have ha3:=k3 _ _ (by simp) ha1
 refine ⟨_,rfl,?_⟩
 refine ⟨_,rfl,a,cs i,_,rfl,ha3,ke,kd 8 (by decide),?_⟩
 refine ⟨_,rfl,a,cs i,_,rfl,ha3,ke,kd 9 (by decide),?_⟩
 refine ⟨_,rfl,a,cs i,_,rfl,ha3,ke,kd 10 (by decide),?_⟩
 refine ⟨_,rfl,a,cs i,_,rfl,ha3,ke,kd 11 (by decide),?_⟩
 refine ⟨by show 4 <= sizeLine;decide,fun p4 f4=>?_⟩
 have k4:=zC.new (S:=[]) (o:=.lst [.bl (d 8),.bl (d 9),.bl (d 10),.bl (d 11)]) f4
 refine ⟨p3,p4,_,_,rfl,rfl,k4 _ _ (by simp) e3,zB,by show 12 <= sizeLine;decide,fun p5 f5=>?_⟩
 have k5:zC [] H3 (upd (upd H3 p4 (.lst [.bl (d 8),.bl (d 9),.bl (d 10),.bl (d 11)])) p5 (.lst (sV d))):=k4.trans (zC.new f5)
 have e5:=zB (H:=upd H3 p4 (.lst [.bl (d 8),.bl (d 9),.bl (d 10),.bl (d 11)])) (a:=p5) (o:=.lst (sV d))
 change pS _ _ _ _ (upd (upd H3 p4 (.lst [.bl (d 8),.bl (d 9),.bl (d 10),.bl (d 11)])) p5 (.lst (sV d)))
 generalize upd (upd H3 p4 (.lst [.bl (d 8),.bl (d 9),.bl (d 10),.bl (d 11)])) p5 (.lst (sV d))=H5 at k5 e5 ⊢
 have ha5:=k5 _ _ (by simp) ha3
 refine ⟨by show 12 <= sizeLine;decide,fun p6 f6=>?_⟩
 have k6:zC [] H5 (upd H5 p6 (.lst (rN.map V.str))):=zC.new f6
 have e6:=zB (H:=H5) (a:=p6) (o:=.lst (rN.map V.str))
 have e5':=k6 _ _ (by simp) e5
 change pS _ _ _ _ (upd H5 p6 (.lst (rN.map V.str)))
 generalize upd H5 p6 (.lst (rN.map V.str))=H6 at k6 e6 e5' ⊢
 have ha6:=k6 _ _ (by simp) ha5
 have kA:zC [] H H6:=((k1.trans k3).trans k5).trans k6
 refine ⟨_,rfl,a,cs i,_,rfl,ha6,ke,kn.kv i hi,_,rfl,ifF rfl ?_⟩
 refine ⟨_,rfl,p5,rfl,⟨_,.of e5'⟩,fun acc hacc=>?_⟩
 have n5:p5 ≠ acc:=zG e5' hacc
 have fl:(sV d).length=12:=rfl
 refine zAJ (hx:=a) (K:=K) (a:=p5) (its:=sV d) (by rw [fl];decide) (fun j ys τ H7=>∃ v:Option V,τ=[v]/\ys=(if i < j then [V.bl true] else [])/\zC [acc] H6 H7/\H7 acc=some (.lst ys)) ?_ ?_ ?_ ?_
 ·exact ⟨_,rfl,rfl,zC.at (by simp),zB⟩
 ·rintro j ys τ H7 ⟨v,rfl,rfl,kp,h7⟩
  refine ⟨h7,?_,.of (kp _ _ (by simp [n5]) e5'),_,(kp.drop hacc) _ _ (by simp) ha6⟩
  split
  ·show 1 <= j;omega
  ·exact zKG _
 ·rintro j ys τ H7 x hx ⟨v,rfl,rfl,kp,h7⟩
  have hj:j < 12:=(zJ8.mp hx).1
  rw [zDE hj] at hx
  cases zKD hx
  refine ⟨_,rfl,_,rfl,?_⟩
  by_cases hij:i=j
  ·refine ifT ((hd j).trans (zKL hij)) ?_
   subst hij
   refine ⟨_,rfl,h7,_,rfl,?_,kp.trans (zC.at (by simp)),zB⟩
   rw [if_neg (Nat.lt_irrefl i),if_pos (Nat.lt_succ_self i),(hd i).trans (zKL rfl)];rfl
  ·refine ifF ((hd j).trans (zKM hij)) ⟨_,rfl,?_,kp,h7⟩
   by_cases hl:i < j
   ·rw [if_pos hl,if_pos (Nat.lt_succ_of_lt hl)]
   ·rw [if_neg hl,if_neg (by omega)]
 ·rintro ys τ H7 ⟨v,rfl,rfl,kp,h7⟩
  rw [fl,if_pos hi] at h7
  have kB:zC [] H6 H7:=kp.drop hacc
  refine ⟨_,_,rfl,.inl ⟨_,.of h7,rfl⟩,rfl,_,rfl,ifF rfl ?_⟩
  have ef:sV d=((List.range 12).map d).map V.bl:=rfl
  refine ⟨_,rfl,_,rfl,.inl ⟨rfl,_,.of (kB _ _ (by simp) e5')⟩,p5,(List.range 12).map d,i,rfl,rfl,by rw [<- ef];exact kB _ _ (by simp) e5',?_,fun m hm e=>?_,?_⟩
  ·rw [zKC,List.getElem?_range hi]
   exact congrArg some ((hd i).trans (zKL rfl))
  ·rw [zKC,List.getElem?_range (by omega)] at e
   have e:=zKD e
   rw [hd m,decide_eq_true_eq] at e
   omega
  ·exact ⟨p6,_,i,_,rfl,rfl,kB _ _ (by simp) e6,qI (zBR hi),q _ (kA.trans kB)⟩
end
abbrev sWT:Stmt:=z4 (top 54) 2
abbrev sWL:Stmt:=z4 (top 54) 3
abbrev sWB:Stmt:=z4 (top 54) 4
abbrev sWD:Stmt:=z4 (top 54) 5
abbrev sWH:Stmt:=z4 (top 54) 6
abbrev sWU:Stmt:=z4 (top 54) 9
abbrev sWC:Stmt:=z4 (top 54) 10
abbrev sRf:Stmt:=top 65
section
variable {P:Program} {w:World} {K:W.Frag} {mg:Str->Option Value} {base:Heap} {C CS CT CW CH CR:Addr}
theorem zBB {k:Nat} {x:Str} {ps:List Str} {sp:Sp} (D:Cal P w K mg base (CXE P w) k x ps sp):Cal P w K mg base CX0 k x ps (fun vs H Q _=>sp vs H Q E0):=by
 obtain ⟨f,fd,F,h1,h2,h3⟩:=D.ex
 refine ⟨f,fd,⟨fun vs H Q E h=>F.len vs H Q E0 h,fun A outer s H args us vs Q E hr he hb hv h=>codeAny_mono (F.run A outer s H args us vs Q E0 hr he hb hv h) fun r s' q=>?_⟩,h1,h2,h3⟩
 cases r with
 | ok fl=>
  cases fl with
  | ret u=>exact q
  | _=>exact q
 | error e=>
  obtain ⟨_,_,_,_,_,_,_,_,_,_,_,_,_,z⟩:=q
  exact z.2.elim
theorem scWT:zI ["self"] ["self"] (zE sWT):=scm
theorem scWL:zI ["self","one","other"] ["self","one","other"] (zE sWL):=scm
theorem scWB:zI ["self"] ["self"] (zE sWB):=scm
theorem scWD:zI ["self","house"] ["self","house"] (zE sWD):=scm
theorem scWH:zI ["self","name"] ["self","name"] (zE sWH):=scm
theorem scWU:zI ["self","house"] ["self","house"] (zE sWU):=scm
theorem scWC:zI ["self","one","other"] ["self","one","other"] (zE sWC):=scm
theorem zIH:zI ["_law_tree","_law_thing","_law_e"] ["_law_tree","_law_thing"] (zE sRf):=scm
def zE9 (C CS CT CW:Addr):Sp:=fun vs H Q _=>∃ (p t:Addr) (zs:List Str) (ps:LSS) (pls:List Str),vs=[.ref p]/\xX C CS CT CW H p t zs ps pls/\Q (.ref t) H
theorem okWT (TW:vU K CW) (G:yI K CW "tree" "World.tree" sWT ["self"]):z8 P w K mg base CX0 1 CW "tree" ["self"] (zE9 C CS CT CW):=by
 refine G.ok scWT (fun vs H Q E h=>by obtain ⟨p,t,zs,ps,pls,rfl,_⟩:=h;rfl) (fun f cdv A outer s0 H vs Q E hr h=>?_)
 obtain ⟨p,t,zs,ps,pls,rfl,⟨⟨dx,hd,qd,fl,sv,ln,kvs,qvs,h1,_⟩,_⟩,q⟩:=h
 refine ⟨_,(zH (zL (zQ (pv 0) rfl))),?_⟩
 exact ⟨_,rfl,p,CW,dx,_,_,rfl,h1,TW.cl,TW.nS,rfl,q⟩
def zFB (C CS CT CW:Addr):Sp:=fun vs H Q _=>∃ (p t:Addr) (z:Str) (zs:List Str) (ps:LSS) (pls:List Str),vs=[.ref p,.str z]/\xX C CS CT CW H p t zs ps pls/\z ∈ zs/\∀ H',zC [] H H'->Q (.bl false) H'
theorem okWD (T:vV K CT) (TW:vU K CW) (G:yI K CW "is_down" "World.is_down" sWD ["self","house"]) (MC:z8 P w K mg base CX0 3 CT "check_house" ["self","house"] (m8 CT)):z8 P w K mg base CX0 4 CW "is_down" ["self","house"] (zFB C CS CT CW):=by
 refine G.ok scWD (fun vs H Q E h=>by obtain ⟨p,t,z,zs,ps,pls,rfl,_⟩:=h;rfl) (fun f cdv A outer s0 H vs Q E hr h=>?_)
 obtain ⟨p,t,z,zs,ps,pls,rfl,⟨⟨dx,hd,qd,fl,sv,ln,kvs,qvs,h1,_,_,_,_,h6,_⟩,F⟩,hz,q⟩:=h
 have hr3:zO 3 _:=hr
 obtain ⟨dt,_,_,_,_,_,_,ht,_⟩:=id F.tr
 refine ⟨_,(zF (z9 (yY MC T.cl hr3 (zQ (pv 0) rfl) (zA (pv 1) zD)))
   (zH (zL (xW rG (pv 1) (zQ (pv 0) rfl) (by with_unfolding_all rfl))))),?_⟩
 refine ⟨_,rfl,p,CW,dx,_,_,rfl,h1,TW.cl,TW.nS,rfl,t,dt,_,rfl,ht,rO _ _ _,_,rfl,t,z,_,zs,ps,rfl,F.tr,F.good z hz,hz,fun H1 k1=>?_⟩
 exact ⟨_,rfl,_,rfl,p,CW,dx,_,_,rfl,k1 _ _ (by simp) h1,TW.cl,TW.nF,rfl,fl,_,rfl,.inl (.of (k1 _ _ (by simp) h6)),rfl,rfl,q H1 k1⟩
def zHQ (C CS CT CW:Addr):Sp:=fun vs H Q _=>∃ (p t:Addr) (z:Str) (zs:List Str) (ps:LSS) (pls:List Str),vs=[.ref p,.str z]/\xX C CS CT CW H p t zs ps pls/\z ∈ zs/\∀ H',zC [] H H'->Q .non H'
theorem okWU (TW:vU K CW) (G:yI K CW "check_up" "World.check_up" sWU ["self","house"]) (MID:z8 P w K mg base CX0 4 CW "is_down" ["self","house"] (zFB C CS CT CW)):z8 P w K mg base CX0 5 CW "check_up" ["self","house"] (zHQ C CS CT CW):=by
 refine G.ok scWU (fun vs H Q E h=>by obtain ⟨p,t,z,zs,ps,pls,rfl,_⟩:=h;rfl) (fun f cdv A outer s0 H vs Q E hr h=>?_)
 obtain ⟨p,t,z,zs,ps,pls,rfl,W,hz,q⟩:=h
 have hr4:zO 4 _:=hr
 obtain ⟨⟨dx,hd,qd,fl,sv,ln,kvs,qvs,h1,_⟩,_⟩:=id W
 refine ⟨_,(zH (yQ (xI (yY MID TW.cl hr4 (pv 0) (zA (pv 1) zD))) (zH xA) zV)),?_⟩
 exact ⟨_,rfl,p,dx,_,rfl,h1,rfl,_,rfl,p,t,z,zs,ps,pls,rfl,W,hz,fun H1 k1=>⟨_,rfl,ifF rfl (q H1 k1)⟩⟩
def zHS (C CS CT CW:Addr):Sp:=fun vs H Q _=>∃ (p t:Addr) (z:Str) (zs:List Str) (ps:LSS) (pls:List Str),vs=[.ref p,.str z]/\xX C CS CT CW H p t zs ps pls/\z ∈ zs/\∀ (q:Addr) (nb:List Str) (ys:List (Addr × Addr)) (ars:List (Option Str)) (H':Hp),yK (fun u=>H u=none) C CS H' q z nb ys (yN ars)->Paired (jS ps z) pls ars->zC [] H H'->Q (.ref q) H'
theorem okWH (TH:vL K C) (TW:vU K CW) (G:yI K CW "house" "World.house" sWH ["self","name"]) (MCU:z8 P w K mg base CX0 5 CW "check_up" ["self","house"] (zHQ C CS CT CW)) (MTw:z8 P w K mg base CX0 6 C "twin" ["self"] (zH7 C CS)):z8 P w K mg base CX0 7 CW "house" ["self","name"] (zHS C CS CT CW):=by
 refine G.ok scWH (fun vs H Q E h=>by obtain ⟨p,t,z,zs,ps,pls,rfl,_⟩:=h;rfl) (fun f cdv A outer s0 H vs Q E hr h=>?_)
 obtain ⟨p,t,z,zs,ps,pls,rfl,W,hz,q⟩:=h
 have hr6:zO 6 _:=hr
 have hr5:zO 5 _:=hr.mono (by decide)
 have hu:=uT hr
 obtain ⟨⟨dx,hd,qd,fl,sv,ln,kvs,qvs,h1,h2,h3,_⟩,_⟩:=id W
 refine ⟨_,(zF (z9 (yY MCU TW.cl hr5 (pv 0) (zA (pv 1) zD)))
   (zH (zL (yP MTw TH.cl hr6 (uC hu (zQ (pv 0) rfl) (pv 1) (fun _ _=>rfl)))))),?_⟩
 refine ⟨_,rfl,p,dx,_,rfl,h1,rfl,_,rfl,p,t,z,zs,ps,pls,rfl,W,hz,fun H1 k1=>?_⟩
 obtain ⟨h,nb,xs,ars,e,_,hh,hg,pa⟩:=h3 z hz
 have hh1:=hh.on k1
 obtain ⟨dh,_,_,_,oh,_⟩:=id hh1
 exact ⟨_,rfl,p,CW,dx,_,_,rfl,k1 _ _ (by simp) h1,TW.cl,TW.nH,rfl,_,rfl,hd,_,rfl,by have y:=vX.k (k:=Sum.inr z) (k1 _ _ (by simp) h2);rw [e] at y;exact y,h,dh,_,rfl,oh,rfl,_,h,z,nb,xs,ars,rfl,hh1,hg,fun q' ys H2 nq hh2 k2=>q q' nb ys ars H2 (hh2.weak fun u hu=>k1.none (by simp) hu) pa (k1.trans k2)⟩
def zHT (C CS CT CW:Addr):Sp:=fun vs H Q _=>∃ (p t:Addr) (a b:Str) (zs:List Str) (ps:LSS) (pls:List Str),vs=[.ref p,.str a,.str b]/\xX C CS CT CW H p t zs ps pls/\a ∈ zs/\b ∈ yZ ps a/\∀ H',zC [] H H'->Q .non H'
theorem okWC (T:vV K CT) (TW:vU K CW) (G:yI K CW "check_tied" "World.check_tied" sWC ["self","one","other"]) (MC:z8 P w K mg base CX0 3 CT "check_house" ["self","house"] (m8 CT)):z8 P w K mg base CX0 4 CW "check_tied" ["self","one","other"] (zHT C CS CT CW):=by
 refine G.ok scWC (fun vs H Q E h=>by obtain ⟨p,t,a,b,zs,ps,pls,rfl,_⟩:=h;rfl) (fun f cdv A outer s0 H vs Q E hr h=>?_)
 obtain ⟨p,t,a,b,zs,ps,pls,rfl,⟨⟨dx,hd,qd,fl,sv,ln,kvs,qvs,h1,_,_,h4,h5,_⟩,F⟩,ha,hb,q⟩:=h
 have hr3:zO 3 _:=hr
 have hu:=uT hr
 have bz:=qS F.tz hb
 obtain ⟨dt,_,_,_,_,_,_,ht,_⟩:=id F.tr
 refine ⟨_,(zF (z9 (yY MC T.cl hr3 (zQ (pv 0) rfl) (zA (pv 1) zD)))
   (zF (z9 (yY MC T.cl hr3 (zQ (pv 0) rfl) (zA (pv 2) zD)))
   (zH (yQ (iD (oI hu (wJ (zA (pv 1) (zA (pv 2) zD))) (zQ (pv 0) rfl))) (zH xA) zV)))),?_⟩
 refine ⟨_,rfl,p,CW,dx,_,_,rfl,h1,TW.cl,TW.nS,rfl,t,dt,_,rfl,ht,rO _ _ _,_,rfl,t,a,_,zs,ps,rfl,F.tr,F.good a ha,ha,fun H1 k1=>?_⟩
 refine ⟨_,rfl,p,CW,dx,_,_,rfl,k1 _ _ (by simp) h1,TW.cl,TW.nS,rfl,t,dt,_,rfl,k1 _ _ (by simp) ht,rO _ _ _,_,rfl,t,b,_,zs,ps,rfl,F.tr.on k1,F.good b bz,bz,fun H2 k2=>?_⟩
 have k02:=k1.trans k2
 refine ⟨_,rfl,_,rfl,by show 2 <= sizeLine;decide,fun c hc=>?_⟩
 have k3:zC [] H2 (upd H2 c (.tup [.str a,.str b])):=zC.new hc
 have e3:upd H2 c (.tup [.str a,.str b]) c=some (.tup [.str a,.str b]):=zB
 generalize upd H2 c (.tup [.str a,.str b])=H3 at k3 e3 ⊢
 have k03:=k02.trans k3
 obtain ⟨l,e,_⟩:=h5 a ha b hb
 have y:=vX.t (k:=[Sum.inr a,Sum.inr b]) (k03 _ _ (by simp) h4) e3
 rw [e] at y
 exact ⟨_,rfl,p,CW,dx,_,_,rfl,k03 _ _ (by simp) h1,TW.cl,TW.nQ,rfl,qd,_,rfl,y,_,rfl,ifF rfl (q H3 k03)⟩
def zHR (C CS CT CW:Addr):Sp:=fun vs H Q _=>∃ (p t:Addr) (a b:Str) (zs:List Str) (ps:LSS) (pls:List Str),vs=[.ref p,.str a,.str b]/\xX C CS CT CW H p t zs ps pls/\a ∈ zs/\b ∈ yZ ps a/\∀ (l:Addr) (H':Hp),H' l=some (.lst [])->zC [] H H'->Q (.ref l) H'
theorem okWL (TW:vU K CW) (G:yI K CW "letters" "World.letters" sWL ["self","one","other"]) (MCT:z8 P w K mg base CX0 4 CW "check_tied" ["self","one","other"] (zHT C CS CT CW)) (b_list:Blt mg "list"):z8 P w K mg base CX0 5 CW "letters" ["self","one","other"] (zHR C CS CT CW):=by
 refine G.ok scWL (fun vs H Q E h=>by obtain ⟨p,t,a,b,zs,ps,pls,rfl,_⟩:=h;rfl) (fun f cdv A outer s0 H vs Q E hr h=>?_)
 obtain ⟨p,t,a,b,zs,ps,pls,rfl,W,ha,hb,q⟩:=h
 have hr4:zO 4 _:=hr
 have hu:=uT hr
 obtain ⟨⟨dx,hd,qd,fl,sv,ln,kvs,qvs,h1,_,_,h4,h5,_⟩,F⟩:=id W
 refine ⟨_,(zF (z9 (yY MCT TW.cl hr4 (pv 0) (zA (pv 1) (zA (pv 2) zD))))
   (zH (zL (xE y6 rfl b_list.no wI (zA (uC hu (zQ (pv 0) rfl) (wJ (zA (pv 1) (zA (pv 2) zD))) (fun _ _=>rfl)) zD))))),?_⟩
 refine ⟨_,rfl,p,dx,_,rfl,h1,rfl,_,rfl,_,rfl,p,t,a,b,zs,ps,pls,rfl,W,ha,hb,fun H2 k02=>?_⟩
 refine ⟨_,rfl,p,CW,dx,_,_,rfl,k02 _ _ (by simp) h1,TW.cl,TW.nQ,rfl,_,rfl,_,rfl,by show 2 <= sizeLine;decide,fun c hc=>?_⟩
 have k3:zC [] H2 (upd H2 c (.tup [.str a,.str b])):=zC.new hc
 have e3:upd H2 c (.tup [.str a,.str b]) c=some (.tup [.str a,.str b]):=zB
 generalize upd H2 c (.tup [.str a,.str b])=H3 at k3 e3 ⊢
 have k03:=k02.trans k3
 obtain ⟨l,e,el⟩:=h5 a ha b hb
 have y:=vX.t (k:=[Sum.inr a,Sum.inr b]) (k03 _ _ (by simp) h4) e3
 rw [e] at y
 exact ⟨qd,_,rfl,y,l,_,rfl,.inl (.of (k03 _ _ (by simp) el)),fun m hm=>q m _ zB (k03.trans (zC.new hm))⟩
def zHU (C CS CT CW:Addr):Sp:=fun vs H Q _=>∃ (p t:Addr) (zs:List Str) (ps:LSS) (pls:List Str),vs=[.ref p]/\xX C CS CT CW H p t zs ps pls/\∀ (l:Addr) (H':Hp),H' l=some (.lst [])->zC [] H H'->Q (.ref l) H'
theorem okWB (TW:vU K CW) (G:yI K CW "book" "World.book" sWB ["self"]):z8 P w K mg base CX0 1 CW "book" ["self"] (zHU C CS CT CW):=by
 refine G.ok scWB (fun vs H Q E h=>by obtain ⟨p,t,zs,ps,pls,rfl,_⟩:=h;rfl) (fun f cdv A outer s0 H vs Q E hr h=>?_)
 obtain ⟨p,t,zs,ps,pls,rfl,⟨⟨dx,hd,qd,fl,sv,ln,kvs,qvs,h1,_,_,_,_,_,h7⟩,_⟩,q⟩:=h
 refine ⟨_,(zH (zL (vD (N:=["self"]) (sc:=zE sWB) (ix:=[]) (by decide +kernel) (yG (zQ (pv 0) rfl)) (fun _ _ _ _=>yT) (fun _ _ _ _=>lP)))),?_⟩
 refine ⟨_,rfl,p,CW,dx,_,_,rfl,h1,TW.cl,TW.nL,rfl,ln,rfl,⟨_,.of h7⟩,fun acc hacc=>?_⟩
 have la:ln ≠ acc:=zG h7 hacc
 refine w4 (K:=K) (a:=ln) (its:=[]) (by decide) (fun i ys τ H1=>ys=[]/\zC [acc] H H1/\H1 acc=some (.lst [])) ⟨rfl,zC.at (by simp),zB⟩ ?_ ?_ ?_
 ·rintro i ys τ H1 ⟨rfl,k1,h1⟩
  exact ⟨h1,zKG _,.of (k1 _ _ (by simp [la]) h7)⟩
 ·rintro i ys τ H1 x hx _
  simp at hx
 ·rintro ys τ H1 ⟨rfl,k1,h1⟩
  exact q acc H1 h1 (k1.drop hacc)
def zE8 (K:W.Frag) (CT CW CH CR:Addr):Sp:=fun vs H Q E=>∃ (p t:Addr) (v:V) (zs:List Str) (ps:LSS),vs=[.ref p,.ref t,v]/\uF CT H t zs ps/\zJZ K CH CR H zs v (fun _=>False) E
theorem okWX {fI:Addr} {fd:FuncData} (G:Fun K "__init__" "World.__init__" sWI fI fd) (CCP:Cal P w K mg base (CXE P w) 4 "check_places" ["tree","places"] (zFD K CT CH CR)):vZ P w K mg base (CXE P w) 5 fI fd ["self","tree","places"] (zE8 K CT CW CH CR):=by
 refine G.okX zIC (fun vs H Q E h=>by obtain ⟨p,t,v,zs,ps,rfl,_⟩:=h;rfl) (fun cdv A outer s0 H vs Q E hr h=>?_)
 obtain ⟨p,t,v,zs,ps,rfl,F,h⟩:=h
 have hr4:zO 4 _:=hr
 refine ⟨_,(zF (z9 (zCO CCP gZ hr4 (zA (pv 1) (zA (pv 2) zD)))) eJ),?_⟩
 refine ⟨_,rfl,_,rfl,t,v,zs,ps,rfl,F,?_⟩
 rcases h with ⟨pl,pls,e,hp,ne,lp,hin,q⟩ | h
 ·exact (q H (zC.refl _)).elim
 ·exact .inr h
def zHX (K:W.Frag) (CT:Addr):Sp:=fun vs H Q _=>∃ (t:Addr) (v:V) (zs:List Str) (ps:LSS),vs=[.ref t,v]/\uF CT H t zs ps /\
 ((∃ (pl:Addr) (pls:List Str) (x:V) (r:List V),v=.ref pl/\H pl=some (.lst (pls.map V.str ++ x :: r))/\pls.length <= 100/\(∀ b ∈ pls,b ∈ zs)/\vO K H zs x/\∀ H',zC [] H H'->Q (.str "house") H') \/
 (∃ T:String,yS K H v T/\(T ≠ "list" \/ ∃ pl,v=.ref pl/\H pl=some (.lst []))/\∀ H',zC [] H H'->Q (.str "right") H'))
theorem okRf {cs:Nat->Addr} {DC:Addr} (G:yB K mg "_law_refused" sRf ["_law_tree","_law_thing"]) (MWX:uG P w K mg base (CXE P w) 5 CW "World" ["self","tree","places"] (zE8 K CT CW (cs 1) (cs 5))) (CW':zDZ P w K mg base 1 "_law_word" ["_law_e"] (jY cs))
  (hm:mg "TreeError"=some (.ref DC)) (hx:∀ i,i < 12->W.exmOne K (.ref (cs i)) (.ref DC)=some true):Cal P w K mg base CX0 7 "_law_refused" ["_law_tree","_law_thing"] (zHX K CT):=by
 refine G.ok zIH (fun vs H Q E h=>by obtain ⟨t,v,zs,ps,rfl,_⟩:=h;rfl) (fun f cdv A outer s0 H vs Q E hr h=>?_)
 obtain ⟨t,v,zs,ps,rfl,F,h⟩:=h
 have hr6:zO 6 _:=hr
 have hr1:zO 1 _:=hr.mono (by decide)
 refine ⟨_,(zF (zFS (i:=2) (th:=(fun a=>cR (cX a (jY cs) (oA (tY 2) o8)))) hm zIH.nd rfl rfl (fun pn' xe' E1 hp=>zH (z9 (zFW MWX hp hr6 (zA (pv 0) (zA (pv 1) zD))))) (fun pn' a=>zH (zL (zCP CW' (hr1.toH (some (.ref a))) rfl (zA (pv 2) zD))))) (zH (zL xD))),?_⟩
 refine ⟨_,rfl,_,rfl,fun p dx hp hdx ne=>?_⟩
 have kB:zC [] H (upd (upd H dx (.own p)) p (.ins CW dx [])):=(zC.new hdx).trans (zC.new (by rw [zJ ne.symm];exact hp))
 have FB:=F.on kB
 rcases h with ⟨pl,pls,x,r,rfl,hpl,lp,hin,st,q⟩ | ⟨Ty,pt,hT,q⟩
 ·exact ⟨p,t,_,zs,ps,rfl,FB,.inr (.inl ⟨pl,pls,x,r,rfl,kB _ _ (by simp) hpl,lp,hin,st.on kB,fun H1 k1=>⟨cs 1,rfl,hx 1 (by decide),fun a σ' hl ha=>⟨.ref a,by rw [zK3 (by rw [hl];show 2 < 3;decide)],1,rfl,by decide,zB,fun H3 k3=>q H3 ((kB.trans k1).trans ((zC.new ha).trans k3))⟩⟩⟩)⟩
 ·refine ⟨p,t,_,zs,ps,rfl,FB,.inr (.inr ⟨Ty,qW pt kB,?_,cs 5,rfl,hx 5 (by decide),fun a σ' hl ha=>⟨.ref a,by rw [zK3 (by rw [hl];show 2 < 3;decide)],5,rfl,by decide,zB,fun H3 k3=>q H3 (kB.trans ((zC.new ha).trans k3))⟩⟩)⟩
  rcases hT with n | ⟨pl,e,hpl⟩
  ·exact .inl n
  ·exact .inr ⟨pl,e,kB _ _ (by simp) hpl⟩
end
abbrev sNe:Stmt:=top 62
abbrev sLR:Stmt:=top 63
abbrev gK:Stmt:=top 56
theorem oK (z:Str):∀ (ps:LSS),(∀ p ∈ ps,p.1 ≠ p.2)->(((ps.filter fun p=>decide (p.2=z)).map (·.1)) ++ ((ps.filter fun p=>decide (p.1=z)).map (·.2))).Perm (yZ ps z)
 | [],_=>List.Perm.refl _
 | p :: ps,h=>by
  have ih:=oK z ps fun q hq=>h q (zKJ _ hq)
  have hp:=h p zKZ
  have e:yZ (p :: ps) z=(if p.1=z then [p.2] else if p.2=z then [p.1] else []) ++ yZ ps z:=by unfold yZ;rw [List.flatMap_cons]
  rw [e]
  by_cases h1:p.1=z
  ·have h2:¬ p.2=z:=fun e=>hp (h1.trans e.symm)
   rw [if_pos h1,List.filter_cons_of_neg (by simpa using h2),List.filter_cons_of_pos (by simpa using h1),List.map_cons]
   exact List.perm_middle.trans (ih.cons _)
  ·by_cases h2:p.2=z
   ·rw [if_neg h1,if_pos h2,List.filter_cons_of_pos (by simpa using h2),List.filter_cons_of_neg (by simpa using h1),List.map_cons]
    exact ih.cons _
   ·rw [if_neg h1,if_neg h2,List.filter_cons_of_neg (by simpa using h2),List.filter_cons_of_neg (by simpa using h1)]
    exact ih
theorem fU {zs:List Str} {ps:LSS} {a:Str} (U:∀ a b R R',yR ps a b R->yR ps a b R'->R=R') (tz:∀ t ∈ ps,wK zs t) (ha:a ∈ zs) {L:List (List Str)} (nd:L.Nodup) (hw:∀ P ∈ L,∃ b,yR ps a b P):L.length <= zs.length:=by
 have e:=wZ (ks:=L.map fun P=>P.getLast?.getD "") (zs:=zs) (by
  unfold List.Nodup at nd ⊢
  rw [List.pairwise_map]
  refine nd.imp_of_mem fun {P R} hP hR ne e=>ne ?_
  obtain ⟨b,wb⟩:=hw P hP
  obtain ⟨c,wc⟩:=hw R hR
  rw [wb.end,wc.end] at e
  have:b=c:=e
  subst this
  exact U _ _ _ _ wb wc) (fun y hy=>by
  obtain ⟨P,hP,rfl⟩:=List.mem_map.mp hy
  obtain ⟨b,wb⟩:=hw P hP
  show P.getLast?.getD "" ∈ zs
  rw [wb.end]
  exact wb.within tz ha b wb.last)
 rwa [zJ6] at e
def isL (H:Hp) (q:Addr) (R:List Str):Prop:=H q=some (.lst (R.map V.str))
theorem u9 {S:List Addr} {H H':Hp} (k:zC S H H'):∀ {qs:List Addr} {Rs:List (List Str)},(∀ q ∈ qs,q ∉ S)->Paired (isL H) qs Rs->Paired (isL H') qs Rs
 | [],_,_,.nil=>.nil
 | _ :: _,_,n,.cons c t=>.cons (k _ _ (n _ zKZ) c) (u9 k (fun q hq=>n q (zKJ _ hq)) t)
theorem rQ {α:Type} {R:Addr->α->Prop} {qs:List Addr} {rs:List α} (h:Paired R qs rs):∀ (i:Nat) (q:Addr),qs[i]?=some q->∃ r,rs[i]?=some r/\R q r:=by
 induction h with
 | nil=>intro i q e;simp at e
 | @cons q r qs rs c _ ih=>
  intro i x e
  cases i with
  | zero=>simp at e;subst e;exact ⟨r,rfl,c⟩
  | succ i=>exact ih i x (by simpa using e)
section
variable {P:Program} {w:World} {K:W.Frag} {mg:Str->Option Value} {base:Heap} {C:Addr}
theorem scNe:zI ["_law_ties","_law_name"] ["_law_ties","_law_name"] (zE sNe):=scm
theorem zFI:zI ["_law_ties","_law_one","_law_other","_law_roads","_law_road_here"] ["_law_ties","_law_one","_law_other"] (zE sLR):=scm
theorem zAG {a acc:Addr} {xs:List Str} {ix:List Nat} {tt:TT} {te:TE} {σ:St} {H1:Hp} {Q:VK} {rest:List (Option V)} (ps:LSS) (out:Str × Str->Str) (b:Str × Str->Bool) (hn:ps.length <= 100) (hacc:H1 acc=none) (hR:Rows H1 a (ps.map xO)) (hσ:stC xs ix σ=none :: none :: rest)
  (htt:∀ (p:Str × Str) (H:Hp) (R:Bool->Hp->Prop),R (b p) H->tt (some (.str p.1) :: some (.str p.2) :: rest) H R) (hte:∀ (p:Str × Str) (H:Hp) (R:VK),R (.str (out p)) H->te (some (.str p.1) :: some (.str p.2) :: rest) H R)
  (q:∀ H',H' acc=some (.lst (((ps.filter b).map out).map V.str))->zC [] H1 H'->Q (.ref acc) H'):LCW (Itl K a) xs ix (iU K 2 (uD (xK 0) (uD (xK 1) iV))) tt te σ H1 acc Q:=by
 obtain ⟨qs,hqs,hqp⟩:=hR
 have lq:=zS hqp
 rw [zJ6] at lq
 have aa:a ≠ acc:=zG hqs hacc
 refine qF (K:=K) (a:=a) (its:=qs.map V.ref) (by rw [zJ6,sizeLine_eq];omega) (fun i ys τ H2=>∃ v0 v1:Option V,τ=v0 :: v1 :: rest/\ys=((((ps.take i).filter b).map out).map V.str)/\zC [acc] H1 H2/\H2 acc=some (.lst ys)) ⟨_,_,hσ,rfl,zC.at (by simp),zB⟩ ?_ ?_ ?_
 ·rintro i ys τ H2 ⟨v0,v1,rfl,rfl,k2,h2⟩
  refine ⟨h2,?_,.of (k2 _ _ (by simp [aa]) hqs)⟩
  rw [zJ6,zJ6]
  exact zKH (zK4 _ _) (by rw [zKP];omega)
 ·rintro i ys τ H2 x hx ⟨v0,v1,rfl,rfl,k2,h2⟩
  rw [zKC] at hx
  cases eq:qs[i]? with
  | none=>rw [eq] at hx;cases hx
  | some u=>
  rw [eq] at hx
  cases zKD hx
  have il:i < ps.length:=by rw [<- lq];exact (zJ8.mp eq).1
  obtain ⟨r,er,hr⟩:=rQ hqp i u eq
  have ep:ps[i]?=some ps[i]:=zJ7 il
  generalize ps[i]=p at ep
  rw [zKC,ep] at er
  cases zKD er
  have ua:u ≠ acc:=zG hr hacc
  refine ⟨u,_,rfl,.of (k2 _ _ (by simp [ua]) hr),rfl,_,_,rfl,_,_,rfl,rfl,htt p H2 _ ?_⟩
  rw [wF ep,List.filter_append]
  cases eb:b p with
  | true=>
   rw [if_pos rfl,List.filter_cons_of_pos eb,List.filter_nil,zKI,zKI]
   exact hte p H2 _ ⟨h2,_,_,rfl,rfl,k2.trans (zC.at (by simp)),zB⟩
  | false=>
   rw [if_neg (by simp),List.filter_cons_of_neg (by rw [eb];simp),List.filter_nil,List.append_nil]
   exact ⟨_,_,rfl,rfl,k2,h2⟩
 ·rintro ys τ H2 ⟨v0,v1,rfl,rfl,k2,h2⟩
  rw [zJ6,lq,zK6] at h2
  exact q H2 h2 (k2.drop hacc)
def zH1:Sp:=fun vs H Q _=>∃ (th:Addr) (z:Str) (ps:LSS),vs=[.ref th,.str z]/\Rows H th (ps.map xO)/\(∀ p ∈ ps,p.1 ≠ p.2)/\ps.length <= 60/\∀ (l:Addr) (ys:List Str) (H':Hp),ys.Perm (yZ ps z)->H l=none->H' l=some (.lst (ys.map V.str))->zC [] H H'->Q (.ref l) H'
theorem okNe (G:yB K mg "_law_near" sNe ["_law_ties","_law_name"]) (b_sorted:Blt mg "sorted"):Cal P w K mg base CX0 1 "_law_near" ["_law_ties","_law_name"] zH1:=by
 refine G.ok scNe (fun vs H Q E h=>by obtain ⟨th,z,ps,rfl,_⟩:=h;rfl) (fun f cdv A outer s0 H vs Q E hr h=>?_)
 obtain ⟨th,z,ps,rfl,R,hne,lp,q⟩:=h
 obtain ⟨qs,hqs,_⟩:=id R
 refine ⟨_,(zH (zL (zP w6 b_sorted vP (zA (yC vS (aO (N:=["_law_ties","_law_name"]) (sc:=zE sNe) (ix:=[1]) (by decide +kernel) (yG (pv 0)) (fun _ _ _ _=>(t9 (zU uY (pv 1) (pv 2) (zW _)))) (fun _ _ _ _=>(pv 0))) (aO (N:=["_law_ties","_law_name"]) (sc:=zE sNe) (ix:=[1]) (by decide +kernel) (yG (pv 0)) (fun _ _ _ _=>(t9 (zU uY (pv 0) (pv 2) (zW _)))) (fun _ _ _ _=>(pv 1)))) zD)))),?_⟩
 refine ⟨_,rfl,th,rfl,⟨_,.of hqs⟩,fun a1 ha1=>?_⟩
 refine zAG ps (·.1) (fun p=>decide (p.2=z)) (by omega) ha1 R rfl (fun p H2 R2 h=>⟨_,rfl,_,rfl,rfl,_,rfl,by rw [show decide (V.str p.2=V.str z)=decide (p.2=z) by simp];exact h⟩) (fun p H2 R2 h=>⟨_,rfl,h⟩) fun H1 e1 k1=>?_
 refine ⟨_,rfl,th,rfl,⟨_,.of (k1 _ _ (by simp) hqs)⟩,fun a2 ha2=>?_⟩
 refine zAG ps (·.2) (fun p=>decide (p.1=z)) (by omega) ha2 (R.keep k1) rfl (fun p H2 R2 h=>⟨_,rfl,_,rfl,rfl,_,rfl,by rw [show decide (V.str p.1=V.str z)=decide (p.1=z) by simp];exact h⟩) (fun p H2 R2 h=>⟨_,rfl,h⟩) fun H2 e2 k2=>?_
 have pm:=oK z ps hne
 have ll:=pm.length_eq
 have lr:=t8 ps z
 rw [zKO] at ll
 refine ⟨a1,a2,_,_,rfl,rfl,k2 _ _ (by simp) e1,e2,by simp only [zJ6,sizeLine_eq] at ll ⊢;omega,fun a3 ha3=>?_⟩
 rw [<- zKI]
 refine ⟨a3,_,rfl,zB,by rw [zKO];omega,fun l ys hl py _=>?_⟩
 have k3:zC [] H2 (upd H2 a3 (.lst (List.map V.str ((ps.filter fun p=>decide (p.2=z)).map (·.1) ++ (ps.filter fun p=>decide (p.1=z)).map (·.2))))):=zC.new ha3
 have k03:=(k1.trans k2).trans k3
 exact q l ys _ (py.trans pm) (k03.none (by simp) hl) zB (k03.trans (zC.new hl))
def zH5:Sp:=fun vs H Q _=>∃ (th:Addr) (a b:Str) (W ns:List Str) (ps:LSS),vs=[.ref th,.str a,.str b]/\Rows H th (ps.map xO)/\rB ns ps/\ns.Nodup/\ns.length <= 60/\(∀ t ∈ ps,wK ns t)/\ps.length <= 60/\a ∈ ns/\yR ps a b W/\∀ (l:Addr) (H':Hp),H' l=some (.lst (W.map V.str))->zC [] H H'->Q (.ref l) H'
theorem okLR (G:yB K mg "_law_road" sLR ["_law_ties","_law_one","_law_other"]) (CNe:Cal P w K mg base CX0 1 "_law_near" ["_law_ties","_law_name"] zH1):Cal P w K mg base CX0 2 "_law_road" ["_law_ties","_law_one","_law_other"] zH5:=by
 refine G.ok zFI (fun vs H Q E h=>by obtain ⟨th,a,b,W,ns,ps,rfl,_⟩:=h;rfl) (fun f cdv A outer s0 H vs Q E hr h=>?_)
 obtain ⟨th,a,b,W,ns,ps,rfl,R,gr,nd,ln,tz,lp,ha,wk,q⟩:=h
 have hr1:zO 1 _:=hr
 have U:=rP gr nd
 have few:∀ {L:List (List Str)},L.Nodup->(∀ P ∈ L,∃ c,yR ps a c P)->L.length <= ns.length:=fun nd hw=>fU U tz ha nd hw
 refine ⟨_,(zF (z5 (i:=3) zFI.nd rfl (Or.inl rfl) (zX (zA (zX (zA (pv 1) zD)) zD)))
   (zF (qU PassesOwn.never (zU sK (yJ zT (yJ zT (pv 3) zK (fun _ _=>rfl)) (lO qM zK) (fun _ _=>rfl)) (pv 2) (zW _)) (zF (z5 (i:=4) zFI.nd rfl (Or.inr rfl) (uW F.plainAttrs_list F.slot_list_pop F.type_list_pop lW (pv 3) (zA zK zD)))
   (zH (z9 (uW F.plainAttrs_list F.slot_list_extend F.type_list_extend dG (pv 3) (zA (vD (N:=["_law_ties","_law_one","_law_other","_law_roads","_law_road_here"]) (sc:=zE sLR) (ix:=[4]) (by decide +kernel) (yG (zM CNe hr1 (zA (pv 0) (zA (yJ zT (pv 4) (lO qM zK) (fun _ _=>rfl)) zD)))) (fun _ _ _ _=>(t9 (zU iG (pv 0) (pv 1) (by with_unfolding_all rfl)))) (fun _ _ _ _=>(yC vS (pv 1) (zX (zA (pv 0) zD))))) zD))))))
   (zH (zL (yJ zT (pv 3) zK (fun _ _=>rfl)))))),?_⟩
 refine ⟨_,rfl,by show 1 <= sizeLine;decide,fun p0 hp0=>⟨by show 1 <= sizeLine;decide,fun r hr0=>?_⟩⟩
 have k1:zC [] H (upd H p0 (.lst [.str a])):=zC.new hp0
 have e1:upd H p0 (.lst [.str a]) p0=some (.lst [.str a]):=zB
 have hr0':upd H p0 (.lst [.str a]) r=none:=hr0
 have pr:p0 ≠ r:=zG e1 hr0'
 have k2:zC [] (upd H p0 (.lst [.str a])) (upd (upd H p0 (.lst [.str a])) r (.lst [.ref p0])):=zC.new hr0'
 have e2:upd (upd H p0 (.lst [.str a])) r (.lst [.ref p0]) r=some (.lst [.ref p0]):=zB
 have e12:=k2 _ _ (by simp) e1
 have k02:=k1.trans k2
 have Hr:H r=none:=k1.none (by simp) hr0'
 generalize upd (upd H p0 (.lst [.str a])) r (.lst [.ref p0])=H2 at k2 e2 e12 k02
 refine ⟨fun m σ H3=>∃ (v4:Option V) (qs:List Addr) (Rs dn:List (List Str)) (k:Nat),σ=[some (.ref th),some (.str a),some (.str b),some (.ref r),v4]/\H3 r=some (.lst (qs.map V.ref))/\Paired (isL H3) qs Rs/\(∀ u ∈ qs,u ≠ r)/\(dn ++ Rs).Nodup/\(∀ P ∈ dn ++ Rs,(∃ c,yR ps a c P)/\(P=[a] \/ P.dropLast ∈ dn))/\1 <= k/\k <= W.length/\W.take k ∈ Rs/\m=ns.length + 1 - dn.length/\zC [] H H3,
  ⟨_,none,[p0],[[a]],[],1,rfl,e2,.cons e12 .nil,(fun u hu=>by rw [zJ9.mp hu];exact pr),(by simp),(fun P hP=>by obtain rfl:P=[a]:=(by simpa using hP);exact ⟨⟨a,.one a⟩,.inl rfl⟩),zKF _,?_,?_,rfl,k02⟩,?_⟩
 ·obtain ⟨W1,rfl⟩:=wk.hd;simp
 ·obtain ⟨W1,rfl⟩:=wk.hd;simp
 rintro m σ H3 ⟨v4,qs,Rs,dn,k,rfl,h3,pq,far,ndR,all,k1',kW,inR,rfl,k03⟩
 cases pq with
 | nil=>cases inR
 | @cons q0 R0 qs Rs c0 pq=>
 have c0':H3 q0=some (.lst (R0.map V.str)):=c0
 obtain ⟨⟨c,w0⟩,_⟩:=all R0 (by simp)
 obtain ⟨I0,eI⟩:∃ I,R0=I ++ [c]:=by
  have e:=w0.end
  refine ⟨R0.dropLast,?_⟩
  have ne:R0 ≠ []:=fun z=>by rw [z] at e;cases e
  have:=List.dropLast_concat_getLast ne
  rw [List.getLast?_eq_getLast ne] at e
  rw [zKD e] at this
  exact this.symm
 have at0':atI (R0.map V.str) (-1)=some (.str c):=by rw [eI];exact mU I0 c
 refine ⟨_,rfl,r,_,0,_,rfl,rfl,h3,at0 _ _,_,rfl,q0,_,-1,_,rfl,rfl,c0',at0',_,rfl,rfl,_,rfl,?_⟩
 by_cases ecb:c=b
 ·subst ecb
  refine ifF (by simp) ⟨_,rfl,r,_,0,_,rfl,rfl,h3,at0 _ _,?_⟩
  rw [U _ _ _ _ w0 wk] at c0'
  exact q q0 H3 c0' k03
 refine ifT (by simp [ecb]) ?_
 have q0r:q0 ≠ r:=far q0 zKZ
 have dl:dn.length + 1 <= ns.length:=by
  have:=few (L:=dn ++ [R0]) (by
   have:(dn ++ R0 :: Rs).Nodup:=ndR
   rw [List.append_cons] at this
   exact (List.nodup_append.mp this).1) (fun P hP=>(all P (by
    rcases zKN.mp hP with h | h
    ·exact List.mem_append_left _ h
    ·exact zKK _ (by rw [zJ9.mp h];exact zKZ))).1)
  rwa [zKO,List.length_singleton] at this
 refine ⟨fun σ' H'=>∃ (v4:Option V) (qs:List Addr) (Rs dn':List (List Str)) (k:Nat),σ'=[some (.ref th),some (.str a),some (.str b),some (.ref r),v4]/\H' r=some (.lst (qs.map V.ref))/\Paired (isL H') qs Rs/\(∀ u ∈ qs,u ≠ r)/\(dn' ++ Rs).Nodup/\(∀ P ∈ dn' ++ Rs,(∃ c,yR ps a c P)/\(P=[a] \/ P.dropLast ∈ dn'))/\1 <= k/\k <= W.length/\W.take k ∈ Rs/\dn'.length=dn.length + 1/\zC [] H H',fun σ' H' ⟨v4,qs,Rs,dn',k,x1,x2,x3,x4,x5,x6,x7,x8,x9,x10,x11⟩=>⟨_,by omega,v4,qs,Rs,dn',k,x1,x2,x3,x4,x5,x6,x7,x8,x9,rfl,x11⟩,?_⟩
 refine ⟨_,rfl,.inl ⟨rfl,_,.of h3⟩,r,_,0,0,_,rfl,rfl,h3,by decide,by decide,(by rw [zJ6,zKR];exact zIA _),rfl,?_⟩
 have k34:zC [r] H3 (upd H3 r (.lst (((q0 :: qs).map V.ref).eraseIdx 0))):=zC.at (by simp)
 have e4:upd H3 r (.lst (((q0 :: qs).map V.ref).eraseIdx 0)) r=some (.lst (qs.map V.ref)):=zB
 generalize upd H3 r (.lst (((q0 :: qs).map V.ref).eraseIdx 0))=H4 at k34 e4
 have k04:zC [] H H4:=k03.under k34 (by intro u hu;rw [zJ9.mp hu];exact Hr)
 have c4:=k34 _ _ (by simp [q0r]) c0'
 have pq4:Paired (isL H4) qs Rs:=u9 k34 (fun u hu=>by simpa using far u (zKJ _ hu)) pq
 refine ⟨_,rfl,.inl ⟨rfl,_,.of e4⟩,_,rfl,_,rfl,_,rfl,q0,_,-1,_,rfl,rfl,c4,at0',th,c,ps,rfl,R.keep k04,(fun p hp=>(tz p hp).2.2),lp,fun nl ys H5 py hnl e5 k45=>⟨nl,rfl,⟨_,.of e5⟩,fun acc hacc=>?_⟩⟩
 have c5:=k45 _ _ (by simp) c4
 have na:nl ≠ acc:=zG e5 hacc
 have qa:q0 ≠ acc:=zG c5 hacc
 have lys:ys.length <= 60:=by have:=py.length_eq;have:=t8 ps c;omega
 have lR0:R0.length <= 60:=by
  have:=wZ w0.nd (w0.within tz ha)
  omega
 refine qF (K:=K) (a:=nl) (its:=ys.map V.str) (by rw [zJ6,sizeLine_eq];omega) (fun i zs τ H6=>∃ (kk:Option V) (us:List Addr),τ=[kk,some (.ref q0)]/\zs=us.map V.ref/\Paired (isL H6) us (((ys.take i).filter fun y=>decide (y ∉ R0)).map fun y=>R0 ++ [y])/\(∀ u ∈ us,u ≠ acc/\H5 u=none)/\zC [acc] H5 H6/\H6 acc=some (.lst zs)) ⟨_,[],rfl,rfl,.nil,(fun u hu=>by cases hu),zC.at (by simp),zB⟩ ?_ ?_ ?_
 ·rintro i zs τ H6 ⟨kk,us,rfl,rfl,pu,_,k6,h6⟩
  have:=zS pu
  refine ⟨h6,?_,.of (k6 _ _ (by simp [na]) e5)⟩
  rw [zJ6,this,zJ6]
  exact zKH (zK4 _ _) (by rw [zKP];omega)
 ·rintro i zs τ H6 x hx ⟨kk,us,rfl,rfl,pu,fu,k6,h6⟩
  rw [zKC] at hx
  cases ey:ys[i]? with
  | none=>rw [ey] at hx;cases hx
  | some y=>
  rw [ey] at hx
  cases zKD hx
  have c6:=k6 _ _ (by simp [qa]) c5
  have eb:(!inV (.str y) (R0.map V.str))=decide (y ∉ R0):=by
   unfold inV
   rw [List.any_map]
   by_cases h:y ∈ R0
   ·rw [zKM (not_not_intro h),Bool.not_eq_false',List.any_eq_true]
    exact ⟨y,h,by show (y == y)=true;simp⟩
   ·rw [zKL h,Bool.not_eq_true',List.any_eq_false]
    exact fun z hz e=>h (eq_of_beq (show (z == y)=true from e) ▸ hz)
  refine ⟨_,rfl,_,rfl,q0,_,rfl,c6,rfl,tF R0,_,rfl,?_⟩
  by_cases h:y ∈ R0
  ·refine ifF (eb.trans (zKM (not_not_intro h))) ⟨_,us,rfl,rfl,?_,fu,k6,h6⟩
   rw [wF ey,List.filter_append,List.filter_cons_of_neg (by simpa using h),List.filter_nil,List.append_nil]
   exact pu
  ·refine ifT (eb.trans (zKL h)) ?_
   refine ⟨_,rfl,_,rfl,by show 1 <= sizeLine;decide,fun u1 hu1=>?_⟩
   have k7:zC [] H6 (upd H6 u1 (.lst [.str y])):=zC.new hu1
   have e7:upd H6 u1 (.lst [.str y]) u1=some (.lst [.str y]):=zB
   generalize upd H6 u1 (.lst [.str y])=H7 at k7 e7
   refine ⟨q0,u1,_,_,rfl,rfl,k7 _ _ (by simp) c6,e7,by rw [zJ6,sizeLine_eq];show R0.length + 1 <= _;omega,fun v hv=>?_⟩
   have k8:zC [] H7 (upd H7 v (.lst (R0.map V.str ++ [.str y]))):=zC.new hv
   have e8:upd H7 v (.lst (R0.map V.str ++ [.str y])) v=some (.lst ((R0 ++ [y]).map V.str)):=by rw [zKI];exact zB
   generalize upd H7 v (.lst (R0.map V.str ++ [.str y]))=H8 at k8 e8
   have k68:=k7.trans k8
   have v6:H6 v=none:=k7.none (by simp) hv
   have h8:=k68 _ _ (by simp) h6
   have va:v ≠ acc:=Ne.symm (zG h6 v6)
   have kl:zC [acc] H8 (upd H8 acc (.lst (us.map V.ref ++ [.ref v]))):=zC.at (by simp)
   refine ⟨h8,_,us ++ [v],rfl,by simp,by rw [wF ey,List.filter_append,List.filter_cons_of_pos (by simpa using h),List.filter_nil,zKI];exact wQ (u9 ((k68.mono (by simp)).trans kl) (fun u hu=>by simpa using (fu u hu).1) pu) (kl _ _ (by simp [va]) e8),fun u hu=>?_,(k6.trans (k68.mono (by simp))).trans kl,zB⟩
   rcases zKN.mp hu with h | h
   ·exact fu u h
   ·rw [zJ9.mp h]
    exact ⟨va,k6.none (by simp [va]) v6⟩
 rintro zs τ H6 ⟨kk,us,rfl,rfl,pu,fu,k6,h6⟩
 rw [zJ6,zK6] at pu
 have k46:zC [] H4 H6:=k45.trans (k6.drop hacc)
 have e6:=k46 _ _ (by simp) e4
 have ra:acc ≠ r:=fun e=>by rw [e,k45 _ _ (by simp) e4] at hacc;cases hacc
 generalize eN:((ys.filter fun y=>decide (y ∉ R0)).map fun y=>R0 ++ [y])=Ns at pu
 have new:∀ P ∈ Ns,∃ y,P=R0 ++ [y]/\y ∉ R0/\y ∈ ys:=fun P hP=>by
  rw [<- eN] at hP
  obtain ⟨y,hy,rfl⟩:=List.mem_map.mp hP
  obtain ⟨h1,h2⟩:=List.mem_filter.mp hy
  exact ⟨y,rfl,by simpa using h2,h1⟩
 have ysn:ys.Nodup:=py.nodup_iff.mpr (oE gr nd c)
 have ndN:Ns.Nodup:=by
  rw [<- eN]
  unfold List.Nodup
  rw [List.pairwise_map]
  exact ((ysn.filter _)).imp fun {x y} ne e=>ne (by simpa using e)
 have R0dn:R0 ∉ dn:=fun h=>(List.nodup_append.mp ndR).2.2 R0 h R0 zKZ rfl
 have all':∀ P ∈ (dn ++ [R0]) ++ (Rs ++ Ns),(∃ c,yR ps a c P)/\(P=[a] \/ P.dropLast ∈ dn ++ [R0]):=fun P hP=>by
  have old:P ∈ dn ++ R0 :: Rs->_:=fun h=>(⟨(all P h).1,(all P h).2.imp id fun h=>List.mem_append_left _ h⟩:(∃ c,yR ps a c P)/\(P=[a] \/ P.dropLast ∈ dn ++ [R0]))
  rcases zKN.mp hP with h | h
  ·rcases zKN.mp h with h | h
   ·exact old (List.mem_append_left _ h)
   ·exact old (zKK _ (by rw [zJ9.mp h];exact zKZ))
  ·rcases zKN.mp h with h | h
   ·exact old (zKK _ (zKJ _ h))
   ·obtain ⟨y,rfl,ny,hy⟩:=new P h
    exact ⟨⟨y,w0.snoc (qD (py.mem_iff.mp hy)) ny⟩,.inr (by rw [List.dropLast_concat];exact zKK _ (List.mem_singleton_self _))⟩
 have nd':((dn ++ [R0]) ++ (Rs ++ Ns)).Nodup:=by
  rw [<- zK1]
  refine List.nodup_append.mpr ⟨by rw [zK1];exact ndR,ndN,fun P hP P' hN e=>?_⟩
  subst e
  obtain ⟨y,rfl,ny,hy⟩:=new P hN
  have hP':R0 ++ [y] ∈ dn ++ R0 :: Rs:=by rw [zK1] at hP;exact hP
  rcases (all _ hP').2 with e | e
  ·have:=congrArg List.length e
   rw [zKO,eI] at this
   simp at this
  ·rw [List.dropLast_concat] at e
   exact R0dn e
 have lall:=few nd' fun P hP=>(all' P hP).1
 have lrn:Rs.length + Ns.length <= 60:=by
  simp only [zKO,List.length_singleton] at lall;omega
 have lus:=zS pu
 have lqs:=zS pq
 refine ⟨r,acc,_,_,rfl,rfl,e6,h6,by rw [zJ6,zJ6,sizeLine_eq];omega,?_⟩
 have kl:zC [r] H6 (upd H6 r (.lst (qs.map V.ref ++ us.map V.ref))):=zC.at (by simp)
 refine ⟨some (.ref q0),qs ++ us,Rs ++ Ns,dn ++ [R0],?_⟩
 have ur:∀ u ∈ us,u ≠ r:=fun u hu e=>by
  have:=(fu u hu).2
  rw [e,k45 _ _ (by simp) e4] at this;cases this
 have pall:Paired (isL (upd H6 r (.lst (qs.map V.ref ++ us.map V.ref)))) (qs ++ us) (Rs ++ Ns):=qX (u9 ((k46.mono (by simp)).trans kl) (fun u hu=>by simpa using far u (zKJ _ hu)) pq4) (u9 kl (fun u hu=>by simpa using ur u hu) pu)
 have farN:∀ u ∈ qs ++ us,u ≠ r:=fun u hu=>by
  rcases zKN.mp hu with h | h
  ·exact far u (zKJ _ h)
  ·exact ur u h
 have kE:zC [] H (upd H6 r (.lst (qs.map V.ref ++ us.map V.ref))):=(k04.trans k46).under kl (by intro u hu;rw [zJ9.mp hu];exact Hr)
 by_cases eW:W.take k=R0
 ·
  have kl':k < W.length:=by
   refine Nat.lt_of_le_of_ne kW fun e=>ecb ?_
   rw [e,zK6] at eW
   subst eW
   have:=w0.end.symm.trans wk.end
   exact zKD this
  have ex:W[k]?=some W[k]:=zJ7 kl'
  have tk:W.take (k + 1)=R0 ++ [W[k]]:=by rw [List.take_add_one,ex,eW];rfl
  have wn:W[k] ∉ R0:=fun h=>by
   rw [<- eW] at h
   have n2:=wk.nd
   rw [<- List.take_append_drop k W] at n2
   refine (List.nodup_append.mp n2).2.2 _ h _ ?_ rfl
   rw [List.drop_eq_getElem_cons kl']
   exact zKZ
  have adj:Adj ps c W[k]:=by
   have lk:R0.length=k:=by rw [<- eW,zKP];omega
   have ec:W[k - 1]?=some c:=by
    have e:=w0.end
    rw [<- eW,List.getLast?_eq_getElem?,zKP,show min k W.length - 1=k - 1 by omega,List.getElem?_take_of_lt (by omega)] at e
    exact e
   exact wk.step (k - 1) c W[k] ec (by rw [show k - 1 + 1=k by omega];exact ex)
  refine ⟨k + 1,rfl,by rw [zKI];exact zB,pall,farN,nd',all',by omega,kl',?_,by simp,kE⟩
  refine zKK _ ?_
  rw [tk,<- eN]
  exact List.mem_map.mpr ⟨W[k],List.mem_filter.mpr ⟨py.mem_iff.mpr (qK tz adj),by simpa using wn⟩,rfl⟩
 ·refine ⟨k,rfl,by rw [zKI];exact zB,pall,farN,nd',all',k1',kW,?_,by simp,kE⟩
  rcases List.mem_cons.mp inR with h | h
  ·exact absurd h eW
  ·exact List.mem_append_left _ h
end
abbrev sDT:Stmt:=top 60
abbrev sPl:Stmt:=top 61
@[irreducible] def spDr:Sp:=jZ
theorem gD:spDr=jZ:=by unfold spDr;rfl
theorem xS {H:Hp} {p:Addr} {m:Int} {Q:VK} {E:XK} (s:Src H p) (m0:0 < m) (m1:m < 4611686018427387904) (h:∀ (v:Int) (H':Hp),0 <= v->v < m->zC [p] H H'->Src H' p->Q (.int v) H'):spDr [.ref p,.int m] H Q E:=by
 obtain ⟨a,b,c,hp⟩:=s
 rw [gD]
 exact ⟨p,a,b,c,m,rfl,hp,m0,m1,fun v a' c' v0 v1=>h v _ v0 v1 (zC.at (by simp)) ⟨a',b,c',zB⟩⟩
theorem mJ {α:Type} (f:α->V) (l:List α) {k:Int} (hk:0 <= k):rM (l.map f) none (some k)=(l.take k.toNat).map f:=by
 unfold rM
 obtain ⟨n,rfl⟩:=Int.eq_ofNat_of_zero_le hk
 rw [HT.sIx_none,HT.sIx_nat,List.drop_zero,zJ6,Nat.sub_zero,<- List.map_take]
 congr 1
 rcases Nat.le_total n l.length with h | h
 ·rw [Nat.min_eq_left h];rfl
 ·rw [Nat.min_eq_right h,zKV (zKF _)];exact (zKV h).symm
theorem pK {α:Type} (f:α->V) (l:List α) {k:Int} (hk:0 <= k):rM (l.map f) (some k) none=(l.drop k.toNat).map f:=by
 unfold rM
 obtain ⟨n,rfl⟩:=Int.eq_ofNat_of_zero_le hk
 rw [HT.sIx_none,HT.sIx_nat,zJ6,<- List.map_drop,<- List.map_take]
 congr 1
 show (l.drop (min n l.length)).take (l.length - min n l.length)=l.drop n
 rcases Nat.le_total n l.length with h | h
 ·rw [Nat.min_eq_left h,zKV (by rw [List.length_drop];omega)]
 ·rw [Nat.min_eq_right h,List.drop_of_length_le (zKF _),List.drop_of_length_le h];simp
theorem lF {α:Type} (k:Nat) (xs:List α):(xs.drop k ++ xs.take k).Perm xs:=by
 have:=@List.perm_append_comm _ (xs.drop k) (xs.take k)
 rw [List.take_append_drop] at this
 exact this
theorem Src.on {H H':Hp} {p:Addr} (h:Src H p) (k:zC [] H H'):Src H' p:=by
 obtain ⟨a,b,c,e⟩:=h
 exact ⟨a,b,c,k _ _ (by simp) e⟩
theorem Src.ne {H:Hp} {p l:Addr} (h:Src H p) (hl:H l=none):l ≠ p:=by
 obtain ⟨a,b,c,e⟩:=h
 exact Ne.symm (zG e hl)
def wds:List Str:=["box","lid","a","boxes","b","cab","d","east","f","gate","hall","inn"]
theorem zEW:wds.Nodup:=by decide +kernel
theorem jU:∀ w ∈ wds,w.cps.toList.all vN=true/\1 <= w.length/\w.length <= 5/\w.cps.toList.head? ≠ some 122:=by decide +kernel
theorem qJ (x y:Str):(x ++ y).cps.toList=x.cps.toList ++ y.cps.toList:=by
 show (x.cps ++ y.cps).toList=_
 simp
theorem fQ (x y:Str):(x ++ y).length=x.length + y.length:=by
 have e:=congrArg List.length (qJ x y)
 rw [zKO] at e
 show (x ++ y).cps.size=x.cps.size + y.cps.size
 simpa using e
theorem zDU {x y t:Str} (h:x ++ t=y ++ t):x=y:=by
 have e:=congrArg (fun s:Str=>s.cps.toList) h
 simp only [qJ] at e
 have e2:=List.append_cancel_right e
 cases x;cases y
 simp only [Str.mk.injEq]
 exact Array.toList_inj.mp e2
structure DT (zs ns:List Str) (ps:LSS):Prop where
 pm:zs.Perm ns
 good:∀ z ∈ ns,xY z
 nd:ns.Nodup
 l1:1 <= ns.length
 l12:ns.length <= 12
 lp:ps.length + 1=ns.length
 gr:rB ns ps
 zed:("zed" : Str) ∉ ns
section
variable {P:Program} {w:World} {K:W.Frag} {mg:Str->Option Value} {base:Heap} {C:Addr}
theorem qO:zI ["_law_source","_law_tail","_law_words","_law_many","_law_turn","_law_names","_law_shape","_law_ties","_law_k","_law_pair","_law_at"] ["_law_source"] (zE sDT):=scm
theorem scPl:zI ["_law_source","_law_names"] ["_law_source","_law_names"] (zE sPl):=scm
def zH8:Sp:=fun vs H Q _=>∃ p:Addr,vs=[.ref p]/\Src H p/\∀ (t nh th:Addr) (zs ns:List Str) (ps:LSS) (H':Hp),H' t=some (.tup [.ref nh,.ref th])->H' nh=some (.lst (zs.map V.str))->Rows H' th (ps.map xO)->nh ≠ p->th ≠ p->DT zs ns ps->zC [p] H H'->Src H' p->Q (.ref t) H'
theorem okDT (G:yB K mg "_law_drawn_tree" sDT ["_law_source"]) (CN:Cal P w K mg base CX0 2 "_law_next" ["_law_source","_law_many"] spDr) (b_range:Blt mg "range") (b_int:Blt mg "int"):Cal P w K mg base CX0 3 "_law_drawn_tree" ["_law_source"] zH8:=by
 refine G.ok qO (fun vs H Q E h=>by obtain ⟨p,rfl,_⟩:=h;rfl) (fun f cdv A outer s0 H vs Q E hr h=>?_)
 obtain ⟨p,rfl,sr,q⟩:=h
 have hr2:zO 2 _:=hr
 refine ⟨_,(zF (z5 (i:=1) qO.nd rfl (Or.inr rfl) (yJ zT (zX (zA xD (zA (yJ zGT xD (zM CN hr2 (zA (pv 0) (zA zK zD))) (fun _ _=>rfl)) zD))) (zM CN hr2 (zA (pv 0) (zA zK zD))) (fun _ _=>rfl)))
   (@zF _ _ _ _ _ (@gQ _ _ _ 2 _ _ _ _ qO.nd rfl (Or.inl rfl) (Or.inl rfl) (@aT _ _ (wds.map V.str) (.cons .str (.cons .str (.cons .str (.cons .str (.cons .str (.cons .str (.cons .str (.cons .str (.cons .str (.cons .str (.cons .str (.cons .str .nil))))))))))))))
   (zF (z5 (i:=3) qO.nd rfl (Or.inl rfl) (yC uP zK (yJ zT (zX (zA (zM CN hr2 (zA (pv 0) (zA zK zD))) (zA (zM CN hr2 (zA (pv 0) (zA zK zD))) zD))) (xE cD rfl b_int.no zBC (zA (xW uY (zM CN hr2 (zA (pv 0) (zA zK zD))) zK (zW _)) zD)) (fun _ _=>rfl))))
   (zF (z5 (i:=4) qO.nd rfl (Or.inl rfl) (zM CN hr2 (zA (pv 0) (zA zK zD))))
   (zF (eY (i:=5) qO.nd rfl (Or.inl rfl) (N:=["_law_source","_law_tail","_law_words","_law_many","_law_turn","_law_names","_law_shape","_law_ties","_law_k","_law_pair","_law_at"]) (sc:=zE sDT) (ix:=[1]) (by decide +kernel) (yG (vG uN (yC vS (vG uN (pv 2) (vM (pv 4)) uB) (vG uN (pv 2) uB (vM (pv 4)))) uB (vM (pv 3)))) (fun _ _ _ _=>yT) (fun _ _ _ _=>(yC qZ (pv 0) (pv 1))))
   (zF (z5 (i:=6) qO.nd rfl (Or.inl rfl) (zM CN hr2 (zA (pv 0) (zA zK zD))))
   (zF (z5 (i:=7) qO.nd rfl (Or.inl rfl) (zX zD))
   (zF (tO PassesOwn.never rfl (dA rfl b_range.no (zA zK (zA (pv 3) zD))) (zZ (i:=8) qO.nd rfl (Or.inl rfl)) (zF (z5 (i:=9) qO.nd rfl (Or.inl rfl) (wJ (zA (yJ zT (pv 5) (pv 8) (fun _ _=>rfl)) (zA (yJ zT (pv 5) (yJ zT (zX (zA (zM CN hr2 (zA (pv 0) (zA (pv 8) zD))) (zA (yC iF (pv 8) zK) (zA zK (zA (yC lT (pv 8) zK) zD))))) (pv 6) (fun _ _=>rfl)) (fun _ _=>rfl)) zD))))
   (zH (z9 (uW F.plainAttrs_list F.slot_list_append F.type_list_append wG (pv 7) (zA (yJ zT (zX (zA (pv 9) (zA (aR (pv 9)) zD))) (zM CN hr2 (zA (pv 0) (zA zK zD))) (fun _ _=>rfl)) zD))))))
   (zF (z5 (i:=10) qO.nd rfl (Or.inl rfl) (zM CN hr2 (zA (pv 0) (zA (pv 3) zD))))
   (zH (zL (wJ (zA (yC vS (vG uN (pv 5) (vM (pv 10)) uB) (vG uN (pv 5) uB (vM (pv 10)))) (zA (pv 7) zD)))))))))))))),?_⟩
 refine ⟨_,rfl,?_⟩
 refine xS (m:=26) sr (by decide) (by decide) fun u1 H1 a1 b1 k1 s1=>?_
 obtain ⟨c,hc1,hc2⟩:=mV (xs:=abc.cps.toList) (i:=u1) a1 b1
 refine ⟨_,_,c,rfl,rfl,by decide,hc1,by show 2 <= sizeLine;decide,fun d1 hd1=>?_⟩
 have k2:zC [] H1 (upd H1 d1 (.lst [.str "",.str ⟨#[c]⟩])):=zC.new hd1
 have e2:upd H1 d1 (.lst [.str "",.str ⟨#[c]⟩]) d1=some (.lst [.str "",.str ⟨#[c]⟩]):=zB
 generalize upd H1 d1 (.lst [.str "",.str ⟨#[c]⟩])=H2 at k2 e2
 have dp:d1 ≠ p:=s1.ne hd1
 refine ⟨_,rfl,?_⟩
 refine xS (m:=2) (s1.on k2) (by decide) (by decide) fun u2 H3 a2 b2 k3 s3=>?_
 obtain ⟨t,ht,lowt,lt⟩:∃ t:Str,atI [V.str "",.str ⟨#[c]⟩] u2=some (.str t)/\cG t/\t.length <= 1:=by
  rcases (show u2=0 \/ u2=1 by omega) with rfl | rfl
  ·exact ⟨"",rfl,fun c hc=>absurd hc (by show ¬ c ∈ ([]:List Nat);simp),by decide⟩
  ·exact ⟨⟨#[c]⟩,rfl,zC7 (zKA hc2),by show 1 <= 1;decide⟩
 refine ⟨d1,_,u2,_,rfl,rfl,k3 _ _ (by simp [dp]) e2,ht,?_⟩
 have k03:zC [p] H H3:=(k1.trans (k2.mono (by simp))).trans k3
 refine ⟨by show 12 <= sizeLine;decide,fun wl hwl=>?_⟩
 have k4:zC [] H3 (upd H3 wl (.lst (wds.map V.str))):=zC.new hwl
 have e4:upd H3 wl (.lst (wds.map V.str)) wl=some (.lst (wds.map V.str)):=zB
 change pS _ _ _ _ (upd H3 wl (.lst (wds.map V.str)))
 generalize upd H3 wl (.lst (wds.map V.str))=H4 at k4 e4
 have s4:=s3.on k4
 have wp:wl ≠ p:=s3.ne hwl
 refine ⟨_,rfl,?_⟩
 refine xS (m:=5) s4 (by decide) (by decide) fun u5 H5 a5 b5 k5 s5=>?_
 refine ⟨_,rfl,?_⟩
 refine xS (m:=12) s5 (by decide) (by decide) fun u6 H6 a6 b6 k6 s6=>?_
 refine ⟨by show 2 <= sizeLine;decide,fun d2 hd2=>?_⟩
 have k7:zC [] H6 (upd H6 d2 (.lst [.int u5,.int u6])):=zC.new hd2
 have e7:upd H6 d2 (.lst [.int u5,.int u6]) d2=some (.lst [.int u5,.int u6]):=zB
 generalize upd H6 d2 (.lst [.int u5,.int u6])=H7 at k7 e7
 have dp2:d2 ≠ p:=s6.ne hd2
 refine ⟨_,rfl,?_⟩
 refine xS (m:=6) (s6.on k7) (by decide) (by decide) fun u7 H8 a7 b7 k8 s8=>?_
 refine ⟨rfl,.inr ⟨_,rfl,?_⟩⟩
 obtain ⟨x,hx,x0,x12⟩:∃ x:Int,atI [V.int u5,.int u6] (if decide (V.int u7=V.int 5)=true then 1 else 0)=some (.int x)/\0 <= x/\x < 12:=by
  split
  ·exact ⟨u6,rfl,a6,b6⟩
  ·exact ⟨u5,rfl,a5,by omega⟩
 refine ⟨d2,_,_,_,rfl,rfl,k8 _ _ (by simp [dp2]) e7,hx,_,_,rfl,rfl,?_⟩
 have k48:zC [p] H4 H8:=((k5.trans k6).trans (k7.mono (by simp))).trans k8
 have e8:=k48 _ _ (by simp [wp]) e4
 have k08:=(k03.trans (k4.mono (by simp))).trans k48
 refine ⟨_,rfl,?_⟩
 refine xS (m:=12) s8 (by decide) (by decide) fun tr H9 a9 b9 k9 s9=>?_
 have e9:=k9 _ _ (by simp [wp]) e8
 have k09:=k08.trans k9
 refine ⟨_,rfl,_,rfl,_,rfl,wl,_,rfl,.of e9,fun c1 hc1=>?_⟩
 rw [pK _ _ a9]
 have kA:zC [] H9 (upd H9 c1 (.lst ((wds.drop tr.toNat).map V.str))):=zC.new hc1
 have eA:upd H9 c1 (.lst ((wds.drop tr.toNat).map V.str)) c1=some (.lst ((wds.drop tr.toNat).map V.str)):=zB
 generalize upd H9 c1 (.lst ((wds.drop tr.toNat).map V.str))=HA at kA eA
 refine ⟨_,rfl,_,rfl,_,rfl,wl,_,rfl,.of (kA _ _ (by simp) e9),fun c2 hc2=>?_⟩
 rw [mJ _ _ a9]
 have kB:zC [] HA (upd HA c2 (.lst ((wds.take tr.toNat).map V.str))):=zC.new hc2
 have eB:upd HA c2 (.lst ((wds.take tr.toNat).map V.str)) c2=some (.lst ((wds.take tr.toNat).map V.str)):=zB
 generalize upd HA c2 (.lst ((wds.take tr.toNat).map V.str))=HB at kB eB
 have w12:wds.length=12:=rfl
 refine ⟨c1,c2,_,_,rfl,rfl,kB _ _ (by simp) eA,eB,by rw [zJ6,zJ6,List.length_drop,zKP,w12,sizeLine_eq];omega,fun c3 hc3=>?_⟩
 rw [<- zKI]
 have pw:(wds.drop tr.toNat ++ wds.take tr.toNat).Perm wds:=lF _ _
 generalize wds.drop tr.toNat ++ wds.take tr.toNat=ws at pw
 have kC:zC [] HB (upd HB c3 (.lst (ws.map V.str))):=zC.new hc3
 have eC:upd HB c3 (.lst (ws.map V.str)) c3=some (.lst (ws.map V.str)):=zB
 generalize upd HB c3 (.lst (ws.map V.str))=HC at kC eC
 refine ⟨_,rfl,_,rfl,c3,_,rfl,.of eC,fun c4 hc4=>?_⟩
 rw [mJ _ _ (by omega)]
 have lw:ws.length=12:=pw.length_eq
 have ln:(ws.take (1 + x).toNat).length=(1 + x).toNat:=by rw [zKP];omega
 have hws:∀ z ∈ ws.take (1 + x).toNat,z ∈ wds:=fun z hz=>pw.mem_iff.mp (List.mem_of_mem_take hz)
 have ndw:(ws.take (1 + x).toNat).Nodup:=(pw.nodup_iff.mpr zEW).sublist (List.take_sublist _ _)
 generalize ws.take (1 + x).toNat=ww at ln hws ndw
 have kD:zC [] HC (upd HC c4 (.lst (ww.map V.str))):=zC.new hc4
 have eD:upd HC c4 (.lst (ww.map V.str)) c4=some (.lst (ww.map V.str)):=zB
 generalize upd HC c4 (.lst (ww.map V.str))=HD at kD eD
 have k9D:=((kA.trans kB).trans kC).trans kD
 have k0D:=k09.trans (k9D.mono (by simp))
 have sD:=s9.on k9D
 refine ⟨c4,rfl,⟨_,.of eD⟩,fun nh hnh=>?_⟩
 have cn:c4 ≠ nh:=zG eD hnh
 have np:nh ≠ p:=sD.ne hnh
 refine w4 (K:=K) (a:=c4) (its:=ww.map V.str) (by rw [zJ6,sizeLine_eq];omega) (fun i ys τ HE=>∃ kk:Option V,τ=[kk,some (.str t)]/\ys=((ww.take i).map (· ++ t)).map V.str/\zC [nh] HD HE/\HE nh=some (.lst ys)) ⟨_,rfl,rfl,zC.at (by simp),zB⟩ ?_ ?_ ?_
 ·rintro i ys τ HE ⟨kk,rfl,rfl,kE,hE⟩
  exact ⟨hE,by rw [zJ6,zJ6,zKP];omega,.of (kE _ _ (by simp [cn]) eD)⟩
 ·rintro i ys τ HE z hz ⟨kk,rfl,rfl,kE,hE⟩
  rw [zKC] at hz
  cases ez:ww[i]? with
  | none=>rw [ez] at hz;cases hz
  | some y=>
  rw [ez] at hz
  cases zKD hz
  obtain ⟨_,_,y5,_⟩:=jU y (hws y (zKA ez))
  refine ⟨_,rfl,_,rfl,_,_,rfl,rfl,by rw [sizeLine_eq];omega,hE,_,rfl,?_,kE.trans (zC.at (by simp)),zB⟩
  rw [wF ez,zKI,zKI];rfl
 rintro ys τ HE ⟨kk,rfl,rfl,kE,hE⟩
 rw [zJ6,zK6] at hE
 generalize ens:ww.map (· ++ t)=ns at hE
 have lns:ns.length=(1 + x).toNat:=by rw [<- ens,zJ6];exact ln
 have good:∀ z ∈ ns,xY z:=fun z hz=>by
  rw [<- ens] at hz
  obtain ⟨y,hy,rfl⟩:=List.mem_map.mp hz
  obtain ⟨y1,y2,y5,_⟩:=jU y (hws y hy)
  have l:=fQ y t
  exact ⟨zC3 (zC8 (List.all_eq_true.mp y1) lowt) (by omega) (by omega),by omega⟩
 have ndn:ns.Nodup:=by
  rw [<- ens]
  unfold List.Nodup
  rw [List.pairwise_map]
  exact ndw.imp fun {a b} ne e=>ne (zDU e)
 have zed:("zed" : Str) ∉ ns:=fun hz=>by
  rw [<- ens] at hz
  obtain ⟨y,hy,e⟩:=List.mem_map.mp hz
  obtain ⟨_,y2,_,y4⟩:=jU y (hws y hy)
  have e':=congrArg (fun s:Str=>s.cps.toList) e
  simp only [qJ] at e'
  cases hh:y.cps.toList with
  | nil=>
   have:y.length=0:=by
    have:=congrArg List.length hh
    show y.cps.size=0
    rw [List.length_nil,Array.length_toList] at this
    exact this
   omega
  | cons a l=>
   rw [hh,show ("zed" : Str).cps.toList=[122,101,100] by decide +kernel] at e'
   injection e' with e' _
   exact y4 (by rw [hh,e'];rfl)
 have kDE:zC [] HD HE:=kE.drop hnh
 have k0E:=k0D.trans (kDE.mono (by simp))
 have sE:=sD.on kDE
 refine ⟨_,rfl,?_⟩
 refine xS (m:=4) sE (by decide) (by decide) fun sh HF aF bF kF sF=>?_
 have hF:=kF _ _ (by simp [np]) hE
 have k0F:=k0E.trans kF
 refine ⟨zKG _,fun th hth=>?_⟩
 have thp:th ≠ p:=sF.ne hth
 have nt:nh ≠ th:=zG hF hth
 have kG:zC [] HF (upd HF th (.lst [])):=zC.new hth
 have eG:upd HF th (.lst []) th=some (.lst []):=zB
 generalize upd HF th (.lst [])=HG at kG eG
 have hG:=kG _ _ (by simp) hF
 have sG:=sF.on kG
 refine ⟨_,rfl,1,_,rfl,by omega,?_⟩
 refine oR (fun i σ H1=>∃ (ps:LSS) (qs:List Addr) (v8 v9 v10:Option V),σ=[some (.ref p),some (.str t),some (.ref wl),some (.int (1 + x)),some (.int tr),some (.ref nh),some (.int sh),some (.ref th),v8,v9,v10]/\ps.length=i/\rB ns ps/\H1 th=some (.lst (qs.map V.ref))/\Paired (fun q r=>H1 q=some (.tup r)) qs (ps.map xO)/\Src H1 p/\zC [th,p] HG H1) ?_ ?_ ?_
 ·exact ⟨[],[],_,_,_,rfl,rfl,(fun j t e=>by simp at e),eG,.nil,sG,zC.refl _⟩
 ·rintro i σ H1 hi ⟨ps,qs,v8,v9,v10,rfl,hl,gr,ht1,pq,s1',kp⟩
  have il:i + 1 < ns.length:=by omega
  have h1:=kp _ _ (by simp [nt,np]) hG
  have ea:ns[i + 1]?=some (ns[i + 1]'il):=zJ7 il
  generalize ns[i + 1]'il=za at ea
  have ek:atI (ns.map V.str) (1 + (i:Int))=some (.str za):=by rw [show 1 + (i:Int)=((i + 1:Nat):Int) by omega];exact pP ea
  refine ⟨_,rfl,_,rfl,nh,_,_,_,rfl,rfl,h1,ek,_,rfl,_,rfl,_,rfl,?_⟩
  refine xS (m:=1 + (i:Int)) s1' (by omega) (by omega) fun u3 H2 g1 g2 k2 s2=>?_
  refine ⟨_,rfl,_,_,rfl,rfl,_,rfl,_,_,rfl,rfl,⟨by decide,by decide⟩,by show 4 <= sizeLine;decide,fun dl hdl=>?_⟩
  have dlp:dl ≠ p:=s2.ne hdl
  have k3:zC [] H2 (upd H2 dl (.lst [.int u3,.int (1 + (i:Int) - 1),.int 0,.int ((1 + (i:Int)) / 2)])):=zC.new hdl
  have e3:upd H2 dl (.lst [.int u3,.int (1 + (i:Int) - 1),.int 0,.int ((1 + (i:Int)) / 2)]) dl=some (.lst [.int u3,.int (1 + (i:Int) - 1),.int 0,.int ((1 + (i:Int)) / 2)]):=zB
  generalize upd H2 dl (.lst [.int u3,.int (1 + (i:Int) - 1),.int 0,.int ((1 + (i:Int)) / 2)])=H3 at k3 e3
  obtain ⟨o,oi,eo⟩:∃ o:Nat,o <= i/\atI [V.int u3,.int (1 + (i:Int) - 1),.int 0,.int ((1 + (i:Int)) / 2)] sh=some (.int (o:Int)):=by
   rcases (show sh=0 \/ sh=1 \/ sh=2 \/ sh=3 by omega) with rfl | rfl | rfl | rfl
   ·exact ⟨u3.toNat,by omega,by show some (V.int u3)=_;rw [show ((u3.toNat:Nat):Int)=u3 by omega]⟩
   ·exact ⟨i,zKF _,by show some (V.int (1 + (i:Int) - 1))=_;rw [show 1 + (i:Int) - 1=i by omega]⟩
   ·exact ⟨0,zKG _,rfl⟩
   ·exact ⟨(1 + i) / 2,by omega,by show some (V.int ((1 + (i:Int)) / 2))=_;rw [show (1 + (i:Int)) / 2=(((1 + i) / 2:Nat):Int) by omega]⟩
  have eb:ns[o]?=some (ns[o]'(by omega)):=zJ7 (by omega)
  generalize ns[o]'(by omega)=zb at eb
  have k13:zC [p] H1 H3:=k2.trans (k3.mono (by simp))
  refine ⟨_,rfl,dl,_,sh,_,rfl,rfl,e3,eo,nh,_,o,.str zb,rfl,rfl,k13 _ _ (by simp [np]) h1,pP eb,by show 2 <= sizeLine;decide,fun t1 ht1'=>?_⟩
  have s3':=s2.on k3
  have t1p:t1 ≠ p:=s3'.ne ht1'
  have k4':zC [] H3 (upd H3 t1 (.tup [.str za,.str zb])):=zC.new ht1'
  have e4':upd H3 t1 (.tup [.str za,.str zb]) t1=some (.tup [.str za,.str zb]):=zB
  generalize upd H3 t1 (.tup [.str za,.str zb])=H4 at k4' e4'
  have k14:=k13.trans (k4'.mono (by simp))
  have th4:=k14 _ _ (by simp [thp]) ht1
  refine ⟨_,rfl,.inl ⟨rfl,_,.of th4⟩,_,rfl,_,rfl,t1,_,_,rfl,e4',fun t2 ht2=>?_⟩
  have k5':zC [] H4 (upd H4 t2 (.tup [.str zb,.str za])):=zC.new ht2
  have e5':upd H4 t2 (.tup [.str zb,.str za]) t2=some (.tup [.str zb,.str za]):=zB
  generalize upd H4 t2 (.tup [.str zb,.str za])=H5 at k5' e5'
  refine ⟨by show 2 <= sizeLine;decide,fun dl2 hdl2=>?_⟩
  have s5':=(s3'.on k4').on k5'
  have dlp2:dl2 ≠ p:=s5'.ne hdl2
  have k6':zC [] H5 (upd H5 dl2 (.lst [.ref t1,.ref t2])):=zC.new hdl2
  have e6':upd H5 dl2 (.lst [.ref t1,.ref t2]) dl2=some (.lst [.ref t1,.ref t2]):=zB
  generalize upd H5 dl2 (.lst [.ref t1,.ref t2])=H6 at k6' e6'
  refine ⟨_,rfl,?_⟩
  refine xS (m:=2) (s5'.on k6') (by decide) (by decide) fun u8 H7 f1 f2 k7' s7=>?_
  have k17:zC [p] H1 H7:=(k14.trans ((k5'.trans k6').mono (by simp))).trans k7'
  have t2p:t2 ≠ p:=fun e=>by
   obtain ⟨_,_,_,e0⟩:=s5'
   rw [e,e0] at e5';cases e5'
  obtain ⟨tt,tq,ett,htt,hpr⟩:∃ (tt:Addr) (tq:Str × Str),atI [V.ref t1,.ref t2] u8=some (.ref tt)/\H7 tt=some (.tup (xO tq))/\(tq=(za,zb) \/ tq=(zb,za)):=by
   rcases (show u8=0 \/ u8=1 by omega) with rfl | rfl
   ·exact ⟨t1,(za,zb),rfl,k7' _ _ (by simp [t1p]) ((k5'.trans k6') _ _ (by simp) e4'),.inl rfl⟩
   ·exact ⟨t2,(zb,za),rfl,k7' _ _ (by simp [t2p]) (k6' _ _ (by simp) e5'),.inr rfl⟩
  have th7:=k17 _ _ (by simp [thp]) ht1
  have lq:=zS pq
  rw [zJ6] at lq
  refine ⟨dl2,_,_,_,rfl,rfl,k7' _ _ (by simp [dlp2]) e6',ett,th,_,_,rfl,rfl,th7,by rw [zJ6,sizeLine_eq];omega,?_⟩
  have kl:zC [th] H7 (upd H7 th (.lst (qs.map V.ref ++ [.ref tt]))):=zC.at (by simp)
  have ntp:∀ b ∈ [th],∀ xs,H7 b ≠ some (.tup xs):=fun b hb xs z=>by rw [zJ9.mp hb,th7] at z;cases z
  have ntp1:∀ b ∈ [p],∀ xs,H1 b ≠ some (.tup xs):=fun b hb xs z=>by
   obtain ⟨_,_,_,e0⟩:=s1'
   rw [zJ9.mp hb,e0] at z;cases z
  have ttth:tt ≠ th:=sR htt th7 (fun z=>nomatch z)
  refine ⟨ps ++ [tq],qs ++ [tt],_,_,_,rfl,by simp [hl],iS gr (o:=o) (a:=za) (b:=zb) (by omega) (by rw [hl];exact ea) eb hpr,by rw [zKI];exact zB,?_,?_,(kp.trans (k17.mono (by simp))).trans (kl.mono (by simp))⟩
  ·rw [zKI]
   exact wQ (yO kl ntp (yO k17 ntp1 pq)) (kl _ _ (by simp [ttth]) htt)
  ·obtain ⟨x1,x2,x3,e0⟩:=s7
   exact ⟨x1,x2,x3,kl _ _ (by simp [thp.symm]) e0⟩
 rintro σ H1 ⟨ps,qs,v8,v9,v10,rfl,hl,gr,ht1,pq,s1',kp⟩
 have h1:=kp _ _ (by simp [nt,np]) hG
 have lps:ps.length + 1=ns.length:=by omega
 refine ⟨_,rfl,_,rfl,?_⟩
 refine xS (m:=1 + x) s1' (by omega) (by omega) fun at' H2 g1 g2 k2 s2=>?_
 have h2:=k2 _ _ (by simp [np]) h1
 refine ⟨_,rfl,_,rfl,_,rfl,nh,_,rfl,.of h2,fun c5 hc5=>?_⟩
 rw [pK _ _ g1]
 have kA':zC [] H2 (upd H2 c5 (.lst ((ns.drop at'.toNat).map V.str))):=zC.new hc5
 have eA':upd H2 c5 (.lst ((ns.drop at'.toNat).map V.str)) c5=some (.lst ((ns.drop at'.toNat).map V.str)):=zB
 generalize upd H2 c5 (.lst ((ns.drop at'.toNat).map V.str))=H3 at kA' eA'
 refine ⟨_,rfl,_,rfl,_,rfl,nh,_,rfl,.of (kA' _ _ (by simp) h2),fun c6 hc6=>?_⟩
 rw [mJ _ _ g1]
 have kB':zC [] H3 (upd H3 c6 (.lst ((ns.take at'.toNat).map V.str))):=zC.new hc6
 have eB':upd H3 c6 (.lst ((ns.take at'.toNat).map V.str)) c6=some (.lst ((ns.take at'.toNat).map V.str)):=zB
 generalize upd H3 c6 (.lst ((ns.take at'.toNat).map V.str))=H4 at kB' eB'
 refine ⟨c5,c6,_,_,rfl,rfl,kB' _ _ (by simp) eA',eB',by rw [zJ6,zJ6,List.length_drop,zKP,sizeLine_eq];omega,fun rn hrn=>?_⟩
 rw [<- zKI]
 have pz:(ns.drop at'.toNat ++ ns.take at'.toNat).Perm ns:=lF _ _
 generalize ns.drop at'.toNat ++ ns.take at'.toNat=zs at pz
 have kC':zC [] H4 (upd H4 rn (.lst (zs.map V.str))):=zC.new hrn
 have eC':upd H4 rn (.lst (zs.map V.str)) rn=some (.lst (zs.map V.str)):=zB
 have rnp:rn ≠ p:=((s2.on kA').on kB').ne hrn
 generalize upd H4 rn (.lst (zs.map V.str))=H5 at kC' eC'
 refine ⟨_,rfl,by show 2 <= sizeLine;decide,fun tp htp=>?_⟩
 have kD':zC [] H5 (upd H5 tp (.tup [.ref rn,.ref th])):=zC.new htp
 have eD':upd H5 tp (.tup [.ref rn,.ref th]) tp=some (.tup [.ref rn,.ref th]):=zB
 generalize upd H5 tp (.tup [.ref rn,.ref th])=H6 at kD' eD'
 have k26:=((kA'.trans kB').trans kC').trans kD'
 have ntp1:∀ b ∈ [p],∀ xs,H1 b ≠ some (.tup xs):=fun b hb xs z=>by
  obtain ⟨_,_,_,e0⟩:=s1'
  rw [zJ9.mp hb,e0] at z;cases z
 refine q tp rn th zs ns ps H6 eD' (kD' _ _ (by simp) eC') ⟨qs,k26 _ _ (by simp) (k2 _ _ (by simp [thp]) ht1),yO k26 (fun b hb=>by cases hb) (yO k2 ntp1 pq)⟩ rnp thp ⟨pz,good,ndn,by omega,by omega,lps,gr,zed⟩ ?_ (s2.on k26)
 have kGth:zC [p] HF H1:=zC.drop (a:=th) ((kG.mono (by simp)).trans kp) hth
 exact (k0F.trans kGth).trans (k2.trans (k26.mono (by simp)))
end
abbrev sB:Stmt:=top 66
theorem cA {X:Cx} {K:W.Frag} (e:X.K=K:=by rfl):wV X (.builtin "len") (fun xs H Q=>∃ x n,xs=[x]/\zJ2 K x H n/\Q (V.int (n:Int)) H):=e ▸ yD
theorem zGY {ps:LSS} {a b:Str} {W:List Str} (h:yR ps a b W):atI (W.map V.str ++ [.non]) 1=some (xR W[1]?):=by
 obtain ⟨R,rfl⟩:=h.hd
 cases R with
 | nil=>exact at1 _ _ _
 | cons x R=>exact at1 _ _ _
theorem scO (o:Option Str):zB2 (xR o) (xR o)=true:=by cases o <;> rfl
theorem lS {α β:Type} {F:α->β->Prop} {xs:List α} {ys:List β} (h:Paired F xs ys):∀ (i:Nat) (x:α) (y:β),xs[i]?=some x->ys[i]?=some y->F x y:=by
 induction h with
 | nil=>intro i x y e;simp at e
 | cons c _ ih=>
  intro i x y e1 e2
  cases i with
  | zero=>simp at e1 e2;subst e1 e2;exact c
  | succ i=>exact ih i x y (by simpa using e1) (by simpa using e2)
section
variable {P:Program} {w:World} {K:W.Frag} {mg:Str->Option Value} {base:Heap} {C CS CT CW:Addr}
theorem scB:zI ["_law_world","_law_names","_law_ties","_law_places_here","_law_name","_law_house","_law_right","_law_due"] ["_law_world","_law_names","_law_ties","_law_places_here"] (zE sB):=scm
def zHZ:Sp:=fun vs H Q _=>∃ (p nh:Addr) (zs:List Str),vs=[.ref p,.ref nh]/\Src H p/\H nh=some (.lst (zs.map V.str))/\nh ≠ p/\1 <= zs.length/\zs.length <= 100/\∀ (l:Addr) (pls:List Str) (H':Hp),H' l=some (.lst (pls.map V.str))->pls ≠ []->pls.length <= 4->(∀ z ∈ pls,z ∈ zs)->l ≠ p->zC [p] H H'->Src H' p->Q (.ref l) H'
theorem okPl (G:yB K mg "_law_places" sPl ["_law_source","_law_names"]) (CN:Cal P w K mg base CX0 2 "_law_next" ["_law_source","_law_many"] spDr) (b_range:Blt mg "range") (b_len:Blt mg "len"):Cal P w K mg base CX0 3 "_law_places" ["_law_source","_law_names"] zHZ:=by
 refine G.ok scPl (fun vs H Q E h=>by obtain ⟨p,nh,zs,rfl,_⟩:=h;rfl) (fun f cdv A outer s0 H vs Q E hr h=>?_)
 obtain ⟨p,nh,zs,rfl,sr,hn,np,l1,l2,q⟩:=h
 have hr2:zO 2 _:=hr
 refine ⟨_,(zH (zL (vD (N:=["_law_source","_law_names"]) (sc:=zE sPl) (ix:=[1,0]) (by decide +kernel) (oG rfl b_range.no (zA (yJ zT (zX (zA zK (zA zK (zA zK (zA zK zD))))) (zM CN hr2 (zA (pv 0) (zA zK zD))) (fun _ _=>rfl)) zD)) (fun _ _ _ _=>yT) (fun _ _ _ _=>(yJ zT (pv 1) (zM CN hr2 (zA (pv 2) (zA (zP (cA (K:=K)) b_len y8 (zA (pv 1) zD)) zD))) (fun _ _=>rfl)))))),?_⟩
 refine ⟨by show 4 <= sizeLine;decide,fun d1 hd1=>?_⟩
 have dp:d1 ≠ p:=sr.ne hd1
 have k1:zC [] H (upd H d1 (.lst [.int 1,.int 2,.int 3,.int 4])):=zC.new hd1
 have e1:upd H d1 (.lst [.int 1,.int 2,.int 3,.int 4]) d1=some (.lst [.int 1,.int 2,.int 3,.int 4]):=zB
 generalize upd H d1 (.lst [.int 1,.int 2,.int 3,.int 4])=H1 at k1 e1
 refine ⟨_,rfl,?_⟩
 refine xS (m:=4) (sr.on k1) (by decide) (by decide) fun u H2 u0 u1 k2 s2=>?_
 obtain ⟨n,n1,n4,en⟩:∃ n:Nat,1 <= n/\n <= 4/\atI [V.int 1,.int 2,.int 3,.int 4] u=some (.int (n:Int)):=by
  rcases (show u=0 \/ u=1 \/ u=2 \/ u=3 by omega) with rfl | rfl | rfl | rfl
  ·exact ⟨1,by decide,by decide,rfl⟩
  ·exact ⟨2,by decide,by decide,rfl⟩
  ·exact ⟨3,by decide,by decide,rfl⟩
  ·exact ⟨4,by decide,by decide,rfl⟩
 refine ⟨d1,_,_,_,rfl,rfl,k2 _ _ (by simp [dp]) e1,en,_,rfl,by omega,by omega,fun l hl=>?_⟩
 have k02:zC [p] H H2:=(k1.mono (by simp)).trans k2
 have h2:=k02 _ _ (by simp [np]) hn
 have lp:l ≠ p:=s2.ne hl
 have nl:nh ≠ l:=zG h2 hl
 refine dJ (n:=(n:Int).toNat) (by rw [sizeLine_eq];omega) (fun i ys τ H3=>∃ (kk:Option V) (pls:List Str),τ=[kk,some (.ref nh),some (.ref p)]/\ys=pls.map V.str/\pls.length=i/\(∀ z ∈ pls,z ∈ zs)/\Src H3 p/\zC [l,p] H2 H3/\H3 l=some (.lst ys)) ⟨_,[],rfl,rfl,rfl,(fun z hz=>by cases hz),s2.on (zC.new hl),zC.at (by simp),zB⟩ ?_ ?_ ?_
 ·rintro i ys τ H3 ⟨kk,pls,rfl,rfl,rfl,_,_,_,h3⟩
  exact ⟨h3,by rw [zJ6];exact zKF _⟩
 ·rintro i ys τ H3 hi ⟨kk,pls,rfl,rfl,rfl,hin,s3,k3,h3⟩
  have hn3:=k3 _ _ (by simp [nl,np]) h2
  refine ⟨_,rfl,_,rfl,_,rfl,_,_,rfl,.inl ⟨_,.of hn3,rfl⟩,?_⟩
  refine xS (m:=((zs.map V.str).length:Int)) s3 (by rw [zJ6];omega) (by rw [zJ6];omega) fun v H4 v0 v1 k4 s4=>?_
  rw [zJ6] at v1
  have ez:zs[v.toNat]?=some (zs[v.toNat]'(by omega)):=zJ7 (by omega)
  generalize zs[v.toNat]'(by omega)=z at ez
  have ev:atI (zs.map V.str) v=some (.str z):=by have:=pP ez;rwa [show ((v.toNat:Nat):Int)=v by omega] at this
  have h4:=k4 _ _ (by simp [lp]) h3
  refine ⟨nh,_,v,_,rfl,rfl,k4 _ _ (by simp [np]) hn3,ev,h4,_,pls ++ [z],rfl,by simp,by simp,fun y hy=>?_,?_,(k3.trans (k4.mono (by simp))).trans (zC.at (by simp)),zB⟩
  ·rcases zKN.mp hy with h | h
   ·exact hin y h
   ·rw [zJ9.mp h];exact zKA ez
  ·obtain ⟨x1,x2,x3,e0⟩:=s4
   exact ⟨x1,x2,x3,by rw [zJ lp.symm];exact e0⟩
 ·rintro ys τ H3 ⟨kk,pls,rfl,rfl,hl',hin,s3,k3,h3⟩
  exact q l pls H3 h3 (fun e=>by rw [e] at hl';simp at hl';omega) (by omega) hin lp (k02.trans (k3.drop hl)) s3
def spB (C CS CT CW:Addr):Sp:=fun vs H Q _=>∃ (wd nh th pl t:Addr) (zs ns zs':List Str) (ps ps':LSS) (pls:List Str),vs=[.ref wd,.ref nh,.ref th,.ref pl]/\xX C CS CT CW H wd t zs' ps' pls/\H nh=some (.lst (zs.map V.str))/\Rows H th (ps.map xO)/\H pl=some (.lst (pls.map V.str))/\DT zs ns ps/\(∀ x y,Adj ps' x y ↔ Adj ps x y)/\zs'.Perm ns/\pls ≠ []/\pls.length <= 4/\(∀ z ∈ pls,z ∈ zs)/\∀ H',zC [] H H'->Q (.bl true) H'
theorem okB (TH:vL K C) (TW:vU K CW) (G:yB K mg "_law_begun_right" sB ["_law_world","_law_names","_law_ties","_law_places_here"]) (CR:Cal P w K mg base CX0 2 "_law_road" ["_law_ties","_law_one","_law_other"] zH5) (CNX:Cal P w K mg base CX0 5 "next_on" ["tree","one","other"] (zFC CT))
  (MWH:z8 P w K mg base CX0 7 CW "house" ["self","name"] (zHS C CS CT CW)) (MWD:z8 P w K mg base CX0 4 CW "is_down" ["self","house"] (zFB C CS CT CW)) (MWT:z8 P w K mg base CX0 1 CW "tree" ["self"] (zE9 C CS CT CW)) (MWB:z8 P w K mg base CX0 1 CW "book" ["self"] (zHU C CS CT CW))
  (MHA:z8 P w K mg base CX0 3 C "arrow" ["self","right"] (zEB C CS)) (MHR:z8 P w K mg base CX0 3 C "row" ["self","right"] (zD8 C CS)) (MHI:z8 P w K mg base CX0 3 C "inside" ["self","right"] (zD9 C CS)) (MHH:z8 P w K mg base CX0 3 C "has_asked" ["self","right"] (zEA C CS)) (MAs:z8 P w K mg base CX0 2 C "askers" ["self"] (bE C CS)) (MW:z8 P w K mg base CX0 4 C "want" ["self","asker","right"] (zH6 C CS)) (b_range:Blt mg "range") (b_len:Blt mg "len") :
  Cal P w K mg base CX0 8 "_law_begun_right" ["_law_world","_law_names","_law_ties","_law_places_here"] (spB C CS CT CW):=by
 refine G.ok scB (fun vs H Q E h=>by obtain ⟨wd,nh,th,pl,t,zs,ns,zs',ps,ps',pls,rfl,_⟩:=h;rfl) (fun f cdv A outer s0 H vs Q E hr h=>?_)
 obtain ⟨wd,nh,th,pl,t,zs,ns,zs',ps,ps',pls,rfl,W,hn,hR,hpl,D,adj,pz,np,lp,hin,q⟩:=h
 have hr7:zO 7 _:=hr
 have hr5:zO 5 _:=hr.mono (by decide)
 have hr4:zO 4 _:=hr.mono (by decide)
 have hr3:zO 3 _:=hr.mono (by decide)
 have hr2:zO 2 _:=hr.mono (by decide)
 have hr1:zO 1 _:=hr.mono (by decide)
 have hu0:=Nat.lt_of_succ_lt (uT hr)
 have tz:∀ t ∈ ps,wK ns t:=tQ D.gr D.nd
 have U:=rP D.gr D.nd
 have lns:=D.l12
 have lps:=D.lp
 obtain ⟨⟨dx,hd,qd,fl,sv,ln,kvs,qvs,h1,_⟩,_⟩:=id W
 have toN:∀ {z:Str},z ∈ zs->z ∈ ns:=fun hz=>D.pm.mem_iff.mp hz
 have toZ:∀ {z:Str},z ∈ zs->z ∈ zs':=fun hz=>pz.mem_iff.mpr (toN hz)
 refine ⟨_,(zF (tO PassesOwn.never rfl (yG (pv 1)) (zZ (i:=4) scB.nd rfl (Or.inl rfl)) (zF (z5 (i:=5) scB.nd rfl (Or.inl rfl) (yY MWH TW.cl hr7 (pv 0) (zA (pv 4) zD)))
   (zF (tO PassesOwn.never rfl (oG rfl b_range.no (zA (zP yD b_len y8 (zA (pv 3) zD)) zD)) (zZ (i:=6) scB.nd rfl (Or.inl rfl)) (zF (z5 (i:=7) scB.nd rfl (Or.inl rfl) (yJ zT (yC vS (zM CR hr2 (zA (pv 2) (zA (pv 4) (zA (yJ zT (pv 3) (pv 6) (fun _ _=>rfl)) zD)))) (zX (zA wO zD))) zK (fun _ _=>rfl)))
   (zF (yQ (PW.pt (uA (zU sK (yY MHA TH.cl hr3 (pv 5) (zA (pv 6) zD)) (pv 7) (zW _)) (uA (zU (rE hu0) (yY MHR TH.cl hr3 (pv 5) (zA (pv 6) zD)) (zX zD) (zW _)) (vC (zU n8 (yY MHI TH.cl hr3 (pv 5) (zA (pv 6) zD)) wO (zW _)))))) (zH (zL wY)) zV)
   (zH (yQ (PW.pt (uA (zU oJ (yY MHH TH.cl hr3 (pv 5) (zA (pv 6) zD)) wY (zW _)) (vC (zU sK (zM CNX hr5 (zA (yP MWT TW.cl hr1 (pv 0)) (zA (pv 4) (zA (yJ zT (pv 3) (pv 6) (fun _ _=>rfl)) zD)))) (pv 7) (zW _))))) (zH (zL wY)) zV)))))
   (zF (yQ (PW.pt (uA (zU oJ (yY MWD TW.cl hr4 (pv 0) (zA (pv 4) zD)) wY (zW _)) (vC (zU (rE hu0) (yP MAs TH.cl hr2 (pv 5)) (zX zD) (zW _))))) (zH (zL wY)) zV)
   (zF (z9 (yY MW TH.cl hr4 (pv 5) (zA xD (zA zK zD))))
   (zH (yQ (PW.pt (uA (zU (rE hu0) (yP MAs TH.cl hr2 (yY MWH TW.cl hr7 (pv 0) (zA (pv 4) zD))) (zX zD) (zW _)) (vC (zU (rE hu0) (yY MHR TH.cl hr3 (yY MWH TW.cl hr7 (pv 0) (zA (pv 4) zD)) (zA zK zD)) (zX zD) (zW _))))) (zH (zL wY)) zV)))))))
   (zH (zL (xW (zF3 hu0) (yP MWB TW.cl hr1 (pv 0)) (zX zD) (zW _))))),?_⟩
 refine ⟨_,rfl,nh,rfl,⟨_,.of hn⟩,sU (K:=K) (a:=nh) (xs:=zs.map V.str) (fun i σ H1=>∃ v4 v5 v6 v7:Option V,σ=[some (.ref wd),some (.ref nh),some (.ref th),some (.ref pl),v4,v5,v6,v7]/\zC [] H H1) ⟨_,_,_,_,rfl,zC.refl _⟩ ?_ ?_ ?_⟩
 ·rintro i σ H1 _ ⟨v4,v5,v6,v7,rfl,k1⟩
  exact .of (k1 _ _ (by simp) hn)
 ·rintro i x σ H1 hx ⟨v4,v5,v6,v7,rfl,k1⟩
  rw [zKC] at hx
  cases ez:zs[i]? with
  | none=>rw [ez] at hx;cases hx
  | some z=>
  rw [ez] at hx
  cases zKD hx
  have mz:=zKA ez
  have W1:=W.on k1
  refine ⟨_,rfl,wd,dx,_,rfl,k1 _ _ (by simp) h1,rfl,_,rfl,wd,t,z,zs',ps',pls,rfl,W1,toZ mz,fun hq nb ys ars H2 hh pa k2=>?_⟩
  have k02:=k1.trans k2
  have lar:=zS pa
  have lys:ys.length=ars.length:=by
   obtain ⟨_,_,_,_,_,_,_,e,_⟩:=id hh
   rw [e];unfold yN;rw [zJ6]
  refine ⟨_,rfl,_,_,rfl,.inl ⟨_,.of (k02 _ _ (by simp) hpl),rfl⟩,_,rfl,by rw [zJ6];omega,by rw [zJ6];omega,?_⟩
  refine oR (fun j σ H3=>∃ v6 v7:Option V,σ=[some (.ref wd),some (.ref nh),some (.ref th),some (.ref pl),some (.str z),some (.ref hq),v6,v7]/\zC [] H2 H3) ⟨_,_,rfl,zC.refl _⟩ ?_ ?_
  ·rintro j σ H3 hj ⟨v6,v7,rfl,k3⟩
   rw [zJ6,Int.toNat_natCast] at hj
   rw [show (0:Int) + (j:Int)=(j:Int) from Int.zero_add _]
   have k03:=k02.trans k3
   have eb:pls[j]?=some pls[j]:=zJ7 hj
   generalize pls[j]=b at eb
   have mb:=hin b (zKA eb)
   have ea:ars[j]?=some (ars[j]'(by omega)):=zJ7 (by omega)
   generalize ars[j]'(by omega)=ar at ea
   obtain ⟨R,wR,eR⟩:jS ps' z b ar:=lS pa j b ar eb ea
   have wk:yR ps z b R:=wR.map fun x y h=>(adj x y).mp h
   have hp3:=k03 _ _ (by simp) hpl
   refine ⟨_,rfl,_,rfl,_,rfl,_,rfl,pl,_,_,_,rfl,rfl,hp3,pP eb,th,z,b,R,ns,ps,rfl,hR.keep k03,D.gr,D.nd,by omega,tz,by omega,toN mz,wk,fun l H4 hl k4=>?_⟩
   refine ⟨by show 1 <= sizeLine;decide,fun u hu=>?_⟩
   have k5:zC [] H4 (upd H4 u (.lst [.non])):=zC.new hu
   have e5:upd H4 u (.lst [.non]) u=some (.lst [.non]):=zB
   generalize upd H4 u (.lst [.non])=H5 at k5 e5
   have lR:R.length <= 60:=by have:=wZ wk.nd (wk.within tz (toN mz));omega
   refine ⟨l,u,_,_,rfl,rfl,k5 _ _ (by simp) hl,e5,by rw [zJ6,sizeLine_eq];show R.length + 1 <= _;omega,fun m hm=>?_⟩
   have k6:zC [] H5 (upd H5 m (.lst (R.map V.str ++ [.non]))):=zC.new hm
   have e6:upd H5 m (.lst (R.map V.str ++ [.non])) m=some (.lst (R.map V.str ++ [.non])):=zB
   generalize upd H5 m (.lst (R.map V.str ++ [.non]))=H6 at k6 e6
   refine ⟨m,_,1,_,rfl,rfl,e6,zGY wk,?_⟩
   rw [<- eR]
   have k36:=(k4.trans k5).trans k6
   have k26:=k3.trans k36
   have hh6:=hh.on k26
   obtain ⟨dh,_,_,_,oh,_⟩:=id hh6
   have es:(yN ars)[j]?=some ⟨ar,[],none,false⟩:=by unfold yN;rw [zKC,ea];rfl
   refine ⟨_,rfl,hq,dh,_,rfl,oh,rfl,_,rfl,_,hq,j,z,nb,ys,_,_,rfl,hh6,es,_,rfl,scO _,_,rfl,ifF (by simp) ?_⟩
   refine ⟨_,rfl,hq,dh,_,rfl,oh,rfl,_,rfl,_,hq,j,z,nb,ys,_,_,rfl,hh6,es,fun r H7 nr rr k7=>?_⟩
   obtain ⟨qs,e7,pq⟩:=rr
   have q0:qs=[]:=List.length_eq_zero_iff.mp (zS pq)
   subst q0
   refine ⟨zKG _,fun v hv=>⟨r,v,[],rfl,rfl,(zC.new (S:=[]) hv) _ _ (by simp) e7,zB,zG e7 hv,_,rfl,ifF rfl ?_⟩⟩
   have k8:zC [] H7 (upd H7 v (.lst [])):=zC.new hv
   generalize upd H7 v (.lst [])=H8 at k8
   have k68:=k7.trans k8
   have hh8:=hh6.on k68
   have oh8:=k68 _ _ (by simp) oh
   refine ⟨_,rfl,hq,dh,_,rfl,oh8,rfl,_,rfl,_,hq,j,z,nb,ys,_,_,rfl,hh8,es,rfl,_,rfl,ifF rfl ?_⟩
   refine ⟨_,rfl,hq,dh,_,rfl,oh8,rfl,_,rfl,_,hq,j,z,nb,ys,_,_,rfl,hh8,es,false,rfl,_,rfl,ifF rfl ?_⟩
   have k08:=(k03.trans k36).trans k68
   have W8:=W.on k08
   refine ⟨_,rfl,wd,dx,_,rfl,k08 _ _ (by simp) h1,rfl,wd,t,zs',ps',pls,rfl,W8,_,rfl,_,rfl,_,rfl,pl,_,_,_,rfl,rfl,k08 _ _ (by simp) hpl,pP eb,t,z,b,zs',ps',rfl,W8.tf,toZ mz,toZ mb,fun o H9 ho k9=>?_⟩
   obtain ⟨R',wR',eo⟩:=ho
   have eo':o=ar:=by rw [eo,eR,U _ _ _ _ (wR'.map fun x y h=>(adj x y).mp h) wk]
   subst eo'
   exact ⟨_,rfl,scO _,_,rfl,ifF (by simp) ⟨_,_,rfl,(k26.trans k68).trans k9⟩⟩
  ·rintro σ H3 ⟨v6,v7,rfl,k3⟩
   have k03:=k02.trans k3
   have hh3:=hh.on k3
   refine ⟨_,rfl,wd,dx,_,rfl,k03 _ _ (by simp) h1,rfl,_,rfl,wd,t,z,zs',ps',pls,rfl,W.on k03,toZ mz,fun H4 k4=>⟨false,rfl,_,rfl,ifF rfl ?_⟩⟩
   have hh4:=hh3.on k4
   obtain ⟨dh,_,_,⟨_,_,bx,_⟩,oh,_⟩:=id hh4
   refine ⟨_,rfl,hq,dh,_,rfl,oh,rfl,_,hq,z,nb,ys,ars,rfl,hh4,fun l H5 e5 n5 k5=>?_⟩
   refine ⟨zKG _,fun v hv=>⟨l,v,[],rfl,rfl,(zC.new (S:=[]) hv) _ _ (by simp) e5,zB,zG e5 hv,_,rfl,ifF rfl ?_⟩⟩
   have k6:zC [] H5 (upd H5 v (.lst [])):=zC.new hv
   generalize upd H5 v (.lst [])=H6 at k6
   have k46:=k5.trans k6
   have ex:ys[0]?=some (ys[0]'(by rw [lys];cases ars with | nil=>exact absurd (List.length_eq_zero_iff.mp lar) np | cons _ _=>simp)):=zJ7 _
   generalize ys[0]'(by rw [lys];cases ars with | nil=>exact absurd (List.length_eq_zero_iff.mp lar) np | cons _ _=>simp)=y at ex
   refine ⟨_,rfl,hq,dh,_,rfl,k46 _ _ (by simp) oh,rfl,_,hq,z,nb,ys,ars,"ann",y,rfl,hh4.on k46,⟨by decide +kernel,by decide +kernel⟩,ex,fun r H7 k7=>?_⟩
   have k07:zC [] H1 H7:=(((k2.trans k3).trans k4).trans k46).under k7 (by
    intro b hb
    have by':=bx y (zKA ex)
    rcases List.mem_cons.mp hb with h | h
    ·rw [h];exact by'.1
    ·rw [zJ9.mp h];exact by'.2)
   have k7':=k1.trans k07
   refine ⟨_,rfl,wd,dx,_,rfl,k7' _ _ (by simp) h1,rfl,_,rfl,wd,t,z,zs',ps',pls,rfl,W.on k7',toZ mz,fun hq2 nb2 ys2 ars2 H8 hh8 pa8 k8=>?_⟩
   obtain ⟨dh8,_,_,_,oh8,_⟩:=id hh8
   refine ⟨hq2,dh8,_,rfl,oh8,rfl,_,hq2,z,nb2,ys2,ars2,rfl,hh8,fun l H9 e9 n9 k9=>?_⟩
   refine ⟨zKG _,fun v hv=>⟨l,v,[],rfl,rfl,(zC.new (S:=[]) hv) _ _ (by simp) e9,zB,zG e9 hv,_,rfl,ifF rfl ?_⟩⟩
   have kA:zC [] H9 (upd H9 v (.lst [])):=zC.new hv
   generalize upd H9 v (.lst [])=HA at kA
   have k0A:=((k7'.trans k8).trans k9).trans kA
   refine ⟨_,rfl,wd,dx,_,rfl,k0A _ _ (by simp) h1,rfl,_,rfl,wd,t,z,zs',ps',pls,rfl,W.on k0A,toZ mz,fun hq3 nb3 ys3 ars3 HB hhB paB kB=>?_⟩
   obtain ⟨dhB,_,_,_,ohB,_⟩:=id hhB
   have laB:=zS paB
   have esB:(yN ars3)[0]?=some ⟨ars3.getD 0 none,[],none,false⟩:=by
    unfold yN
    cases ars3 with
    | nil=>exact absurd (List.length_eq_zero_iff.mp laB) np
    | cons a l=>rfl
   refine ⟨hq3,dhB,_,rfl,ohB,rfl,_,hq3,0,z,nb3,ys3,_,_,rfl,hhB,esB,fun r HC nr rr kC=>?_⟩
   obtain ⟨qs,eC,pq⟩:=rr
   have q0:qs=[]:=List.length_eq_zero_iff.mp (zS pq)
   subst q0
   refine ⟨zKG _,fun v hv=>⟨r,v,[],rfl,rfl,(zC.new (S:=[]) hv) _ _ (by simp) eC,zB,zG eC hv,_,rfl,ifF rfl ?_⟩⟩
   exact ⟨_,_,_,_,rfl,((k0A.trans kB).trans kC).trans (zC.new hv)⟩
 ·rintro σ H1 ⟨v4,v5,v6,v7,rfl,k1⟩
  refine ⟨_,rfl,wd,dx,_,rfl,k1 _ _ (by simp) h1,rfl,wd,t,zs',ps',pls,rfl,W.on k1,fun l H2 e2 k2=>?_⟩
  refine ⟨zKG _,fun v hv=>⟨l,v,[],rfl,rfl,(zC.new (S:=[]) hv) _ _ (by simp) e2,zB,zG e2 hv,?_⟩⟩
  exact q _ ((k1.trans k2).trans (zC.new hv))
end
abbrev iA:Stmt:=top 67
theorem zC4 {z:Str} {c:Nat} (h:c ∈ z.cps.toList) (hb:vN c=false):uK z=false:=by
 unfold uK
 have e:z.cps.toList.all vN=false:=by
  rw [List.all_eq_false]
  exact ⟨c,h,by rw [hb];simp⟩
 rw [e,Bool.and_false]
theorem zEZ {CT tr:Addr} {H0 H:Hp} {zs ns zs':List Str} {ps ps':LSS} (D:DT zs ns ps) (pz:zs'.Perm zs) (pp:ps'.Perm (ps.map vH)) (TA:xJ H0 CT H tr zs' ps'):uF CT H tr zs' ps'/\(∀ x y,Adj ps' x y ↔ Adj ps x y)/\(∀ t ∈ ps,wK zs t)/\pR zs ps:=by
 have tn:=tQ D.gr D.nd
 have tz:∀ t ∈ ps,wK zs t:=qN tn D.pm (List.Perm.refl _)
 have cn:pR zs ps:=oS (pG D.gr D.lp) D.pm (List.Perm.refl _)
 have l:=D.l12
 have e1:=pz.length_eq
 have e2:=D.pm.length_eq
 refine ⟨⟨TA.base fun _ _=>rfl,fun z hz=>D.good z (D.pm.mem_iff.mp (pz.mem_iff.mp hz)),(pz.trans D.pm).nodup_iff.mpr D.nd,by omega,qN (ps:=ps.map vH) (fun t ht=>?_) pz pp,oU cn pz pp,fun z=>(b8 pp z).nodup_iff.mpr (by rw [aA tz z];exact oE D.gr D.nd z)⟩,fun x y=>(zBK pp).trans zBL,tz,cn⟩
 obtain ⟨u,hu,rfl⟩:=List.mem_map.mp ht
 exact m4 (tz u hu)
section
variable {P:Program} {w:World} {K:W.Frag} {mg:Str->Option Value} {base:Heap} {C CS CT CW:Addr}
theorem zFL:zI ["_law_script","_law_k"] ["_law_script","_law_k"] (zE gK):=scm
def bH (K:W.Frag):Sp:=fun vs H Q _=>∃ (a:Addr) (ns:List Int) (k:Int),vs=[.ref a,.int k]/\SqL K H a (ns.map V.int)/\0 <= k/\∀ v:Int,Q (.int v) H
theorem zGF (G:yB K mg "_law_cell_at" gK ["_law_script","_law_k"]) (b_len:Blt mg "len"):Cal P w K mg base CX0 1 "_law_cell_at" ["_law_script","_law_k"] (bH K):=by
 refine G.ok zFL (fun vs H Q E h=>by obtain ⟨a,ns,k,rfl,_⟩:=h;rfl) (fun f cdv A outer s0 H vs Q E hr h=>?_)
 obtain ⟨a,ns,k,rfl,hS,k0,q⟩:=h
 refine ⟨_,(zF (yQ (zU zEM (pv 1) (zP yD b_len y8 (zA (pv 0) zD)) (zW _)) (zH (zL (yJ fH (pv 0) (pv 1) (fun _ _=>rfl)))) zV)
   (zH (zL zK))),?_⟩
 refine ⟨_,rfl,_,rfl,_,_,rfl,.inl ⟨_,hS,rfl⟩,_,_,rfl,rfl,_,rfl,?_⟩
 refine zAO (fun h1=>?_) (fun h1=>q 0)
 have h1':=of_decide_eq_true h1
 obtain ⟨v,e1,e2⟩:=mV k0 h1'
 rw [zKC] at e2
 cases hz:ns[k.toNat]? with
 | none=>rw [hz] at e2;cases e2
 | some z=>
  rw [hz] at e2
  have e3:V.int z=v:=zKD e2
  subst e3
  exact ⟨_,rfl,_,rfl,a,_,k,_,rfl,rfl,hS,e1,q z⟩
theorem scL:zI ["_law_script","_law_source","_law_names","_law_ties","_law_places_here","_law_handed","_law_world","_law_one","_law_other","_law_at","_law_odd","_law_wrong","_law_bad"] ["_law_script"] (zE iA):=scm
def gC (K:W.Frag):Sp:=fun vs H Q _=>∃ (a:Addr) (ns:List Int),vs=[.ref a]/\SqL K H a (ns.map V.int)/\ns.length <= 63/\∀ H',Q (.bl true) H'
theorem zI7 {f:Addr} {fd:FuncData} (T:vV K CT) (TW:vU K CW) (G:Fun K "law" "law" iA f fd) (CC:Cal P w K mg base CX0 1 "_law_cell_at" ["_law_script","_law_k"] (bH K)) (CD:Cal P w K mg base CX0 1 "_law_digits" ["_law_cell"] m7) (CN:Cal P w K mg base CX0 2 "_law_next" ["_law_source","_law_many"] spDr) (CDT:Cal P w K mg base CX0 3 "_law_drawn_tree" ["_law_source"] zH8) (CPl:Cal P w K mg base CX0 3 "_law_places" ["_law_source","_law_names"] zHZ)
  (MKT:uG P w K mg base CX0 5 CT "Tree" ["self","houses","ties"] (j3 CT)) (MKW:uG P w K mg base CX0 8 CW "World" ["self","tree","places"] (zFA C CS CT CW)) (CB:Cal P w K mg base CX0 8 "_law_begun_right" ["_law_world","_law_names","_law_ties","_law_places_here"] (spB C CS CT CW)) (MWL:z8 P w K mg base CX0 5 CW "letters" ["self","one","other"] (zHR C CS CT CW)) (MWT:z8 P w K mg base CX0 1 CW "tree" ["self"] (zE9 C CS CT CW)) (MTH:z8 P w K mg base CX0 1 CT "houses" ["self"] (t0 CT)) (CRf:Cal P w K mg base CX0 7 "_law_refused" ["_law_tree","_law_thing"] (zHX K CT))
  (b_len:Blt mg "len") (b_list:Blt mg "list") (b_sorted:Blt mg "sorted") (b_tuple:Blt mg "tuple"):vZ P w K mg base CX0 10 f fd ["_law_script"] (gC K):=by
 refine G.ok scL (fun vs H Q E h=>by obtain ⟨a,ns,rfl,_⟩:=h;rfl) (fun cdv A outer s0 H vs Q E hr h=>?_)
 obtain ⟨a,is,rfl,hS,hlen,fin⟩:=h
 have hr9:zO 9 _:=hr
 have hr8:zO 8 _:=hr.mono (by decide)
 have hr7:zO 7 _:=hr.mono (by decide)
 have hr6:zO 6 _:=hr.mono (by decide)
 have hr5:zO 5 _:=hr.mono (by decide)
 have hr3:zO 3 _:=hr.mono (by decide)
 have hr2:zO 2 _:=hr.mono (by decide)
 have hr1:zO 1 _:=hr.mono (by decide)
 have hu0:=Nat.lt_of_succ_lt (uT hr)
 refine ⟨_,(zF (z5 (i:=1) scL.nd rfl (Or.inl rfl) (zM CD hr1 (zA (zM CC hr1 (zA (pv 0) (zA zK zD))) zD)))
   (zF (qV (zM CDT hr3 (zA (pv 1) zD)) (uH rfl (yH (zZ (i:=2) scL.nd rfl (Or.inl rfl)) (yH (zZ (i:=3) scL.nd rfl (Or.inl rfl)) vE))))
   (zF (z5 (i:=4) scL.nd rfl (Or.inl rfl) (zM CPl hr3 (zA (pv 1) (zA (pv 2) zD))))
   (zF (z5 (i:=5) scL.nd rfl (Or.inl rfl) (xE y6 rfl b_list.no wI (zA (pv 4) zD)))
   (zF (z5 (i:=6) scL.nd rfl (Or.inl rfl) (oH MKW hr9 (zA (oH MKT hr6 (zA (xE y6 rfl b_list.no wI (zA (pv 2) zD)) (zA (xE y6 rfl b_list.no wI (zA (pv 3) zD)) zD))) (zA (pv 5) zD))))
   (zF (z9 (uW F.plainAttrs_list F.slot_list_append F.type_list_append wG (pv 5) (zA xD zD)))
   (zF (yQ (PW.pt (uA (xM (xI (zM CB hr8 (zA (pv 6) (zA (pv 2) (zA (pv 3) (zA (pv 4) zD))))))) (vC (zU (aU hu0) (pv 5) (yC vS (pv 4) (zX (zA xD zD))) (zW _))))) (zH (zL wY)) zV)
   (zF (tO PassesOwn.never rfl (yG (pv 3)) (uH rfl (yH (zZ (i:=7) scL.nd rfl (Or.inl rfl)) (yH (zZ (i:=8) scL.nd rfl (Or.inl rfl)) vE))) (zH (yQ (PW.pt (uA (zU (rE hu0) (yY MWL TW.cl hr5 (pv 6) (zA (pv 7) (zA (pv 8) zD))) (zX zD) (zW _)) (vC (zU (rE hu0) (yY MWL TW.cl hr5 (pv 6) (zA (pv 8) (zA (pv 7) zD))) (zX zD) (zW _))))) (zH (zL wY)) zV)))
   (zF (yQ (zU (aU hu0) (yP MTH T.cl hr1 (yP MWT TW.cl hr1 (pv 6))) (zP w6 b_sorted vP (zA (pv 2) zD)) (zW _)) (zH (zL wY)) zV)
   (zF (z5 (i:=1) scL.nd rfl (Or.inl rfl) (zM CD hr1 (zA (zM CC hr1 (zA (pv 0) (zA zK zD))) zD)))
   (zF (z5 (i:=9) scL.nd rfl (Or.inl rfl) (zM CN hr2 (zA (pv 1) (zA (yC uP (zP yD b_len y8 (zA (pv 4) zD)) zK) zD))))
   (@zF _ _ _ _ _ (@z5 _ _ 10 _ _ _ _ scL.nd rfl (Or.inl rfl) (@yJ _ _ _ _ _ _ _ zT (@zX _ _ _ _ (@zA _ _ _ _ _ xD (@zA _ _ _ _ _ xD (@zA _ _ _ _ _ wO (@zA _ _ _ _ _ zK (@zA _ _ _ _ _ xD (@zA _ _ _ _ _ (zX (zA (yJ zT (pv 2) zK (fun _ _=>rfl)) zD)) (@zA _ _ _ _ _ (wJ (zA (yJ zT (pv 2) zK (fun _ _=>rfl)) zD)) (@zA _ _ _ _ _ (yC qZ (yJ zT (pv 2) zK (fun _ _=>rfl)) xD) (@zD _) rfl) rfl) rfl) rfl) rfl) rfl) rfl) rfl)) (zM CN hr2 (zA (pv 1) (zA zK zD))) (fun _ _=>rfl)) rfl (Or.inl rfl))
   (@zF _ _ _ _ _ (@z5 _ _ 11 _ _ _ _ scL.nd rfl (Or.inl rfl) (@yJ _ _ _ _ _ _ _ zT (@zX _ _ _ _ (@zA _ _ _ _ _ wO (@zA _ _ _ _ _ (zX zD) (@zA _ _ _ _ _ (xE pW rfl b_tuple.no jQ (zA (pv 4) zD)) (@zA _ _ _ _ _ (yJ zT (pv 2) zK (fun _ _=>rfl)) (@zA _ _ _ _ _ zK (@zA _ _ _ _ _ (gX (lK (yJ zT (pv 2) zK (fun _ _=>rfl)) zK gR) rfl rfl (by simp) (by decide)) (@zD _) rfl) rfl) rfl) rfl) rfl) rfl)) (zM CN hr2 (zA (pv 1) (zA zK zD))) (fun _ _=>rfl)) rfl (Or.inl rfl))
   (zF (z5 (i:=12) scL.nd rfl (Or.inl rfl) (yC vS (yC vS (vG uN (pv 4) uB (vM (pv 9))) (zX (zA (pv 10) zD))) (vG uN (pv 4) (vM (pv 9)) uB)))
   (zH (zL (vI (xW uY (zM CRf hr7 (zA (yP MWT TW.cl hr1 (pv 6)) (zA (pv 12) zD))) xD (zW _)) (uI (xW uY (zM CRf hr7 (zA (yP MWT TW.cl hr1 (pv 6)) (zA (pv 11) zD))) xD (zW _)))))))))))))))))))),?_⟩
 refine ⟨_,rfl,a,is,0,rfl,hS,by decide,fun v0=>⟨v0,rfl,fun src b1 c1 e1 hsrc=>?_⟩⟩
 have k1:zC [] H (upd H src (.lst [.int b1,.int c1,.int e1])):=zC.new hsrc
 have s1:Src (upd H src (.lst [.int b1,.int c1,.int e1])) src:=⟨_,_,_,zB⟩
 generalize upd H src (.lst [.int b1,.int c1,.int e1])=H1 at k1 s1
 have un:∀ {Hx Hy:Hp},zC [] H Hx->zC [src] Hx Hy->zC [] H Hy:=fun k k'=>k.under k' (by intro u hu;rw [zJ9.mp hu];exact hsrc)
 refine ⟨_,rfl,src,rfl,s1,fun t nh th zs ns ps H2 et en hR np tp D k2 s2=>?_⟩
 have k02:=un k1 k2
 refine ⟨t,_,rfl,.of et,rfl,_,_,rfl,_,_,rfl,rfl,?_⟩
 have l1:=D.l1
 have l12:=D.l12
 have lps:=D.lp
 have ezn:=D.pm.length_eq
 refine ⟨_,rfl,_,rfl,src,nh,zs,rfl,s2,en,np,by omega,by omega,fun pl pls H3 hpl ne l4 hin plp k3 s3=>?_⟩
 have k03:=un k02 k3
 have en3:=k3 _ _ (by simp [np]) en
 have nts:∀ b ∈ [src],∀ xs,H2 b ≠ some (.tup xs):=fun b hb xs z=>by
  obtain ⟨_,_,_,e0⟩:=s2
  rw [zJ9.mp hb,e0] at z;cases z
 have hR3:Rows H3 th (ps.map xO):=by
  obtain ⟨qs,e,pq⟩:=hR
  exact ⟨qs,k3 _ _ (by simp [tp]) e,yO k3 nts pq⟩
 refine ⟨_,rfl,pl,_,rfl,.inl (.of hpl),fun hd hhd=>?_⟩
 have k4:zC [] H3 (upd H3 hd (.lst (pls.map V.str))):=zC.new hhd
 have e4:upd H3 hd (.lst (pls.map V.str)) hd=some (.lst (pls.map V.str)):=zB
 generalize upd H3 hd (.lst (pls.map V.str))=H4 at k4 e4
 refine ⟨_,rfl,nh,_,rfl,.inl (.of (k4 _ _ (by simp) en3)),fun n2 hn2=>?_⟩
 have k5:zC [] H4 (upd H4 n2 (.lst (zs.map V.str))):=zC.new hn2
 have e5:upd H4 n2 (.lst (zs.map V.str)) n2=some (.lst (zs.map V.str)):=zB
 generalize upd H4 n2 (.lst (zs.map V.str))=H5 at k5 e5
 have hR5:=hR3.keep (k4.trans k5)
 obtain ⟨qs,eq5,pq5⟩:=id hR5
 refine ⟨_,rfl,th,_,rfl,.inl (.of eq5),fun t2 ht2=>?_⟩
 have k6:zC [] H5 (upd H5 t2 (.lst (qs.map V.ref))):=zC.new ht2
 have hR6:Rows (upd H5 t2 (.lst (qs.map V.ref))) t2 (ps.map xO):=⟨qs,zB,yO k6 (fun b hb=>by cases hb) pq5⟩
 generalize upd H5 t2 (.lst (qs.map V.ref))=H6 at k6 hR6
 refine fun tr dx htr hdx nd=>?_
 have kx:zC [] H6 (upd (upd H6 dx (.own tr)) tr (.ins CT dx [])):=(zC.new hdx).trans (zC.new (by rw [zJ (Ne.symm nd)];exact htr))
 have ex:upd (upd H6 dx (.own tr)) tr (.ins CT dx []) tr=some (.ins CT dx []):=zB
 generalize upd (upd H6 dx (.own tr)) tr (.ins CT dx [])=H7 at kx ex
 have k46:=k5.trans k6
 have k47:=k46.trans kx
 have tz0:=qN (tQ D.gr D.nd) D.pm (List.Perm.refl ps)
 refine ⟨tr,dx,n2,t2,zs,ps,rfl,ex,kx _ _ (by simp) (k6 _ _ (by simp) e5),hR6.keep kx,fun z hz=>D.good z (D.pm.mem_iff.mp hz),D.pm.nodup_iff.mpr D.nd,by omega,by omega,by omega,tz0,oS (pG D.gr D.lp) D.pm (List.Perm.refl _),fun zs' ps' H8 pz az pp ap TA k8=>⟨rfl,?_⟩⟩
 obtain ⟨F8,adj,tz,cn⟩:=zEZ D pz pp TA
 have k68:zC [] H6 H8:=kx.under k8 (by intro u hu;rw [zJ9.mp hu];exact htr)
 have k48:=k46.trans k68
 have e8:=k48 _ _ (by simp) e4
 have inZ:∀ {z:Str},z ∈ zs->z ∈ zs':=fun hz=>pz.mem_iff.mpr hz
 refine ⟨_,rfl,fun wd dw hwd hdw ndw=>?_⟩
 have ky:zC [] H8 (upd (upd H8 dw (.own wd)) wd (.ins CW dw [])):=(zC.new hdw).trans (zC.new (by rw [zJ (Ne.symm ndw)];exact hwd))
 have ey:upd (upd H8 dw (.own wd)) wd (.ins CW dw []) wd=some (.ins CW dw []):=zB
 generalize upd (upd H8 dw (.own wd)) wd (.ins CW dw [])=H9 at ky ey
 have e9:=ky _ _ (by simp) e8
 refine ⟨wd,dw,tr,hd,zs',ps',pls,H7,rfl,ey,F8.on ky,TA.on ky,e9,ne,by omega,fun b hb=>inZ (hin b hb),fun HA WA stab kA=>⟨rfl,?_⟩⟩
 have k8A:zC [] H8 HA:=ky.under kA (by intro u hu;rw [zJ9.mp hu];exact hwd)
 have hdw':hd ≠ wd:=fun e=>by rw [e,ey] at e9;cases e9
 have hdt:hd ≠ tr:=fun e=>by
  obtain ⟨_,_,_,_,_,_,_,o,_⟩:=F8.tr
  rw [e,o] at e8;cases e8
 have eA:=k8A _ _ (by simp) e8
 refine ⟨_,rfl,.inl ⟨rfl,_,.of eA⟩,hd,_,_,rfl,rfl,eA,by rw [zJ6,sizeLine_eq];omega,?_⟩
 have kAB:zC [hd] HA (upd HA hd (.lst (pls.map V.str ++ [.str "zed"]))):=zC.at (by simp)
 have eB:upd HA hd (.lst (pls.map V.str ++ [.str "zed"])) hd=some (.lst ((pls ++ [("zed" : Str)]).map V.str)):=by rw [zKI];exact zB
 generalize upd HA hd (.lst (pls.map V.str ++ [.str "zed"]))=HB at kAB eB
 have WB:=stab hd HB (by rw [e9];nofun) (by rw [kx _ _ (by simp) (k46 _ _ (by simp) e4)];nofun) hdw' hdt (fun xs z=>by rw [eA] at z;cases z) kAB
 have k3A:zC [] H3 HA:=(k4.trans k48).trans k8A
 have k3B:zC [] H3 HB:=k3A.under kAB (by intro u hu;rw [zJ9.mp hu];exact hhd)
 have enB:=k3B _ _ (by simp) en3
 have RB:=hR3.keep k3B
 have plB:=k3B _ _ (by simp) hpl
 refine ⟨_,rfl,_,rfl,_,rfl,_,rfl,wd,nh,th,pl,tr,zs,ns,zs',ps,ps',pls,rfl,WB,enB,RB,plB,D,adj,pz.trans D.pm,ne,l4,hin,fun HC kC=>⟨_,rfl,ifF rfl ?_⟩⟩
 have plC:=kC _ _ (by simp) plB
 refine ⟨_,rfl,_,rfl,by show 1 <= sizeLine;decide,fun u hu=>?_⟩
 have kD:zC [] HC (upd HC u (.lst [.str "zed"])):=zC.new hu
 have eD:upd HC u (.lst [.str "zed"]) u=some (.lst [.str "zed"]):=zB
 generalize upd HC u (.lst [.str "zed"])=HD at kD eD
 refine ⟨pl,u,_,_,rfl,rfl,kD _ _ (by simp) plC,eD,by rw [zJ6,sizeLine_eq];show pls.length + 1 <= _;omega,fun v hv=>?_⟩
 have kE:zC [] HD (upd HD v (.lst (pls.map V.str ++ [.str "zed"]))):=zC.new hv
 have eE:upd HD v (.lst (pls.map V.str ++ [.str "zed"])) v=some (.lst ((pls ++ [("zed" : Str)]).map V.str)):=by rw [zKI];exact zB
 generalize upd HD v (.lst (pls.map V.str ++ [.str "zed"]))=HE at kE eE
 have kBE:=(kC.trans kD).trans kE
 refine ⟨hd,v,_,_,rfl,rfl,kBE _ _ (by simp) eB,eE,_,rfl,ifF (by simp) ?_⟩
 obtain ⟨qsB,eqB,pqB⟩:=id (RB.keep kBE)
 have lqB:=zS pqB
 rw [zJ6] at lqB
 have plE:=kBE _ _ (by simp) plB
 have enE:=kBE _ _ (by simp) enB
 have k0E:zC [] H HE:=(k03.trans k3B).trans kBE
 have WE:=WB.on kBE
 obtain ⟨⟨dW,_,_,_,_,_,_,_,oW,_⟩,_⟩:=id WE
 refine ⟨_,rfl,th,rfl,⟨_,.of eqB⟩,sU (K:=K) (a:=th) (xs:=qsB.map V.ref) (fun i σ HF=>∃ v7 v8 v9 v10 v11 v12:Option V,σ=[some (.ref a),some (.ref src),some (.ref nh),some (.ref th),some (.ref pl),some (.ref hd),some (.ref wd),v7,v8,v9,v10,v11,v12]/\zC [] HE HF) ⟨_,_,_,_,_,_,rfl,zC.refl _⟩ ?_ ?_ ?_⟩
 ·rintro i σ HF _ ⟨v7,v8,v9,v10,v11,v12,rfl,kF⟩
  exact .of (kF _ _ (by simp) eqB)
 ·rintro i x σ HF hx ⟨v7,v8,v9,v10,v11,v12,rfl,kF⟩
  rw [zKC] at hx
  cases eq:qsB[i]? with
  | none=>rw [eq] at hx;cases hx
  | some q=>
  rw [eq] at hx
  cases zKD hx
  obtain ⟨r,er,hr'⟩:=rQ pqB i q eq
  rw [zKC] at er
  cases ep:ps[i]? with
  | none=>rw [ep] at er;cases er
  | some p=>
  rw [ep] at er
  cases zKD er
  have mp:=zKA ep
  have aj:Adj ps' p.1 p.2:=(adj _ _).mpr (.inl mp)
  have tzp:=tz p mp
  refine ⟨q,_,rfl,.of (kF _ _ (by simp) hr'),rfl,_,_,rfl,_,_,rfl,rfl,?_⟩
  have WF:=WE.on kF
  refine ⟨_,rfl,wd,dW,_,rfl,kF _ _ (by simp) oW,rfl,_,rfl,_,rfl,wd,tr,p.1,p.2,zs',ps',pls,rfl,WF,inZ tzp.1,qK F8.tz aj,fun l HG eG kG=>?_⟩
  refine ⟨zKG _,fun v hv=>⟨l,v,[],rfl,rfl,(zC.new (S:=[]) hv) _ _ (by simp) eG,zB,zG eG hv,_,rfl,ifF rfl ?_⟩⟩
  have kH:zC [] HG (upd HG v (.lst [])):=zC.new hv
  generalize upd HG v (.lst [])=HH at kH
  have kFH:=kG.trans kH
  refine ⟨_,rfl,wd,dW,_,rfl,(kF.trans kFH) _ _ (by simp) oW,rfl,_,rfl,_,rfl,wd,tr,p.2,p.1,zs',ps',pls,rfl,WF.on kFH,inZ tzp.2.1,qK F8.tz aj.symm,fun l HI eI kI=>?_⟩
  refine ⟨zKG _,fun v hv=>⟨l,v,[],rfl,rfl,(zC.new (S:=[]) hv) _ _ (by simp) eI,zB,zG eI hv,_,rfl,ifF rfl ?_⟩⟩
  exact ⟨_,_,_,_,_,_,rfl,((kF.trans kFH).trans kI).trans (zC.new hv)⟩
 rintro σ HF ⟨v7,v8,v9,v10,v11,v12,rfl,kF⟩
 have WF:=WE.on kF
 have FF:=WF.tf
 obtain ⟨dT,_,_,_,_,_,_,oT,_⟩:=id FF.tr
 refine ⟨_,rfl,wd,dW,_,rfl,kF _ _ (by simp) oW,rfl,wd,tr,zs',ps',pls,rfl,WF,tr,dT,_,rfl,oT,cO _ _ _,tr,_,zs',ps',rfl,FF.tr,fun l hl=>?_⟩
 have kG:zC [] HF (upd HF l (.lst (zs'.map V.str))):=zC.new hl
 have eG:upd HF l (.lst (zs'.map V.str)) l=some (.lst (zs'.map V.str)):=zB
 generalize upd HF l (.lst (zs'.map V.str))=HG at kG eG
 have kEG:=kF.trans kG
 refine ⟨_,rfl,nh,zs,rfl,kEG _ _ (by simp) enE,by omega,fun m ws hm pm am=>?_⟩
 have ew:zs'=ws:=zBH (fun a b=>mF) (pz.trans pm.symm) az am
 have kH:zC [] HG (upd HG m (.lst (ws.map V.str))):=zC.new hm
 refine ⟨l,m,_,_,rfl,rfl,kH _ _ (by simp) eG,zB,_,rfl,ifF (by simp [ew]) ?_⟩
 generalize upd HG m (.lst (ws.map V.str))=HH at kH
 have kEH:=kEG.trans kH
 refine ⟨_,rfl,a,is,1,rfl,zC.seq (k0E.trans kEH) hS,by decide,fun v1=>⟨v1,rfl,fun sr2 b2 c2 f2 hsr2=>?_⟩⟩
 have kI:zC [] HH (upd HH sr2 (.lst [.int b2,.int c2,.int f2])):=zC.new hsr2
 have sI:Src (upd HH sr2 (.lst [.int b2,.int c2,.int f2])) sr2:=⟨_,_,_,zB⟩
 generalize upd HH sr2 (.lst [.int b2,.int c2,.int f2])=HI at kI sI
 have un2:∀ {Hx Hy:Hp},zC [] HH Hx->zC [sr2] Hx Hy->zC [] HH Hy:=fun k k'=>k.under k' (by intro u hu;rw [zJ9.mp hu];exact hsr2)
 have plI:=(kEH.trans kI) _ _ (by simp) plE
 refine ⟨_,rfl,_,rfl,_,_,rfl,.inl ⟨_,.of plI,rfl⟩,_,_,rfl,rfl,?_⟩
 refine xS (m:=((pls.map V.str).length:Int) + 1) sI (by omega) (by rw [zJ6];omega) fun at' HJ j0 j1 kJ sJ=>?_
 have kHJ:=un2 kI kJ
 have kEJ:=kEH.trans kHJ
 obtain ⟨z0,zr,ezs⟩:∃ z0 zr,zs=z0 :: zr:=by
  cases zs with
  | nil=>simp at ezn;omega
  | cons a b=>exact ⟨a,b,rfl⟩
 have a0:atI (zs.map V.str) 0=some (.str z0):=by rw [ezs];exact at0 _ _
 have z0m:z0 ∈ zs:=by rw [ezs];exact zKZ
 have g0:=D.good z0 (D.pm.mem_iff.mp z0m)
 have enJ:=kEJ _ _ (by simp) enE
 refine ⟨_,rfl,nh,_,0,_,rfl,rfl,enJ,a0,by show 1 <= sizeLine;decide,fun o1 ho1=>?_⟩
 have kK:zC [] HJ (upd HJ o1 (.lst [.str z0])):=zC.new ho1
 have eK:upd HJ o1 (.lst [.str z0]) o1=some (.lst [.str z0]):=zB
 generalize upd HJ o1 (.lst [.str z0])=HK at kK eK
 refine ⟨_,rfl,nh,_,0,_,rfl,rfl,kK _ _ (by simp) enJ,a0,by show 1 <= sizeLine;decide,fun o2 ho2=>?_⟩
 have kL:zC [] HK (upd HK o2 (.tup [.str z0])):=zC.new ho2
 have eL:upd HK o2 (.tup [.str z0]) o2=some (.tup [.str z0]):=zB
 generalize upd HK o2 (.tup [.str z0])=HL at kL eL
 have kJL:=kK.trans kL
 refine ⟨_,rfl,nh,_,0,_,rfl,rfl,kJL _ _ (by simp) enJ,a0,_,_,rfl,rfl,by rw [sizeLine_eq];have:=g0.2;show z0.length + 1 <= _;omega,by show 8 <= sizeLine;decide,fun dl hdl=>?_⟩
 have sL:=sJ.on kJL
 have dls:dl ≠ sr2:=sL.ne hdl
 have kM:=zC.new (S:=[]) (o:=.lst [.str "zed",.str "",.non,.int 5,.str "Box",.ref o1,.ref o2,.str (z0 ++ " ")]) hdl
 have eM:=zB (H:=HL) (a:=dl) (o:=.lst [.str "zed",.str "",.non,.int 5,.str "Box",.ref o1,.ref o2,.str (z0 ++ " ")])
 generalize upd HL dl _=HM at kM eM
 refine ⟨_,rfl,?_⟩
 refine xS (m:=8) (sL.on kM) (by decide) (by decide) fun u8 HN n0 n1 kN sN=>?_
 have eK':HN o1=some (.lst [.str z0]):=kN _ _ (by simp [sJ.ne ho1]) ((kL.trans kM) _ _ (by simp) eK)
 have o2s:o2 ≠ sr2:=(sJ.on kK).ne ho2
 have eL':HN o2=some (.tup [.str z0]):=kN _ _ (by simp [o2s]) (kM _ _ (by simp) eL)
 have goodZ:∀ z ∈ zs',xY z:=F8.good
 have nos:∀ {x:Str},uK x=false->∀ z ∈ zs',V.str x ≠ .str z:=fun {x} h z hz e=>by
  rw [V.str.inj e,(goodZ z hz).1] at h
  cases h
 obtain ⟨ov,eo,sto⟩:∃ ov,atI [V.str "zed",.str "",.non,.int 5,.str "Box",.ref o1,.ref o2,.str (z0 ++ " ")] u8=some ov/\∀ HZ:Hp,HZ o1=some (.lst [.str z0])->HZ o2=some (.tup [.str z0])->vO K HZ zs' ov:=by
  rcases (show u8=0 \/ u8=1 \/ u8=2 \/ u8=3 \/ u8=4 \/ u8=5 \/ u8=6 \/ u8=7 by omega) with rfl | rfl | rfl | rfl | rfl | rfl | rfl | rfl
  ·exact ⟨_,rfl,fun HZ eK' eL'=>⟨⟨_,.str _⟩,(fun y e=>by cases e;decide),fun z hz e=>by cases e;exact D.zed (D.pm.mem_iff.mp (pz.mem_iff.mp hz))⟩⟩
  ·exact ⟨_,rfl,fun HZ eK' eL'=>⟨⟨_,.str _⟩,(fun y e=>by cases e;decide),nos (by decide +kernel)⟩⟩
  ·exact ⟨_,rfl,fun HZ eK' eL'=>⟨⟨_,.non⟩,(fun y e=>by cases e),fun z hz e=>by cases e⟩⟩
  ·exact ⟨_,rfl,fun HZ eK' eL'=>⟨⟨_,.int _⟩,(fun y e=>by cases e),fun z hz e=>by cases e⟩⟩
  ·exact ⟨_,rfl,fun HZ eK' eL'=>⟨⟨_,.str _⟩,(fun y e=>by cases e;decide),nos (by decide +kernel)⟩⟩
  ·exact ⟨_,rfl,fun HZ eK' eL'=>⟨⟨_,.lst eK'⟩,(fun y e=>by cases e),fun z hz e=>by cases e⟩⟩
  ·exact ⟨_,rfl,fun HZ eK' eL'=>⟨⟨_,.tup eL'⟩,(fun y e=>by cases e),fun z hz e=>by cases e⟩⟩
  ·exact ⟨_,rfl,fun HZ eK' eL'=>⟨⟨_,.str _⟩,(fun y e=>by cases e;have:=fQ z0 " ";have:=g0.2;have:(" " : Str).length=1:=(by decide);omega),nos (zC4 (c:=32) (by rw [qJ];exact zKK _ (by decide +kernel)) (by decide +kernel))⟩⟩
 refine ⟨dl,_,_,_,rfl,rfl,kN _ _ (by simp [dls]) eM,eo,?_⟩
 have kHN:=un2 (kHJ.trans (kJL.trans kM)) kN
 have kEN:=kEH.trans kHN
 have plN:=kEN _ _ (by simp) plE
 have enN:=kEN _ _ (by simp) enE
 refine ⟨zKG _,fun w1 hw1=>?_⟩
 have kO:zC [] HN (upd HN w1 (.lst [])):=zC.new hw1
 have eO:upd HN w1 (.lst []) w1=some (.lst []):=zB
 generalize upd HN w1 (.lst [])=HO' at kO eO
 have w1s:w1 ≠ sr2:=sN.ne hw1
 refine ⟨_,rfl,pl,_,rfl,.inl ⟨.of (kO _ _ (by simp) plN),fun w2 hw2=>?_⟩⟩
 have sO:=sN.on kO
 have w2s:w2 ≠ sr2:=sO.ne hw2
 have kP:zC [] HO' (upd HO' w2 (.tup (pls.map V.str))):=zC.new hw2
 have eP:upd HO' w2 (.tup (pls.map V.str)) w2=some (.tup (pls.map V.str)):=zB
 generalize upd HO' w2 (.tup (pls.map V.str))=HP at kP eP
 have kNP:=kO.trans kP
 refine ⟨_,rfl,nh,_,0,_,rfl,rfl,kNP _ _ (by simp) enN,a0,fun w3 hw3=>?_⟩
 have sP:=sO.on kP
 have w3s:w3 ≠ sr2:=sP.ne hw3
 have kQ0:zC [] HP (upd HP w3 (.dK [])):=zC.new hw3
 refine ⟨_,rfl,nh,_,0,_,rfl,rfl,kQ0 _ _ (by simp) (kNP _ _ (by simp) enN),a0,zB,[(Sum.inr z0,.int 0)],rfl,by show 1 <= 15;decide,by show 6 <= sizeLine;decide,fun d6 hd6=>?_⟩
 have kQ:zC [] HP (upd (upd HP w3 (.dK [])) w3 (.dK (uQ [] [(Sum.inr z0,.int 0)]))):=kQ0.under (S:=[w3]) (zC.at (by simp)) (by intro u hu;rw [zJ9.mp hu];exact hw3)
 have eQ:upd (upd HP w3 (.dK [])) w3 (.dK (uQ [] [(Sum.inr z0,.int 0)])) w3=some (.dK (uQ [] [(Sum.inr z0,.int 0)])):=zB
 generalize upd (upd HP w3 (.dK [])) w3 (.dK (uQ [] [(Sum.inr z0,.int 0)]))=HQ at kQ eQ hd6
 have sQ:=sP.on kQ
 have d6s:d6 ≠ sr2:=sQ.ne hd6
 have kR:=zC.new (S:=[]) (o:=.lst [.non,.ref w1,.ref w2,.str z0,.int 5,.ref w3]) hd6
 have eR:=zB (H:=HQ) (a:=d6) (o:=.lst [.non,.ref w1,.ref w2,.str z0,.int 5,.ref w3])
 generalize upd HQ d6 _=HR at kR eR
 refine ⟨_,rfl,?_⟩
 refine xS (m:=6) (sQ.on kR) (by decide) (by decide) fun u6 HS y0 y1 kS sS=>?_
 have kQR:=kQ.trans kR
 obtain ⟨wv,ewv,Ty,ptw,hT⟩:∃ wv,atI [V.non,.ref w1,.ref w2,.str z0,.int 5,.ref w3] u6=some wv/\∃ Ty:String,yS K HS wv Ty/\(Ty ≠ "list" \/ ∃ pl,wv=.ref pl/\HS pl=some (.lst [])):=by
  rcases (show u6=0 \/ u6=1 \/ u6=2 \/ u6=3 \/ u6=4 \/ u6=5 by omega) with rfl | rfl | rfl | rfl | rfl | rfl
  ·exact ⟨_,rfl,_,.non,.inl (by decide)⟩
  ·have e:=kS _ _ (by simp [w1s]) ((kP.trans kQR) _ _ (by simp) eO)
   exact ⟨_,rfl,_,.lst e,.inr ⟨w1,rfl,e⟩⟩
  ·exact ⟨_,rfl,_,.tup (kS _ _ (by simp [w2s]) (kQR _ _ (by simp) eP)),.inl (by decide)⟩
  ·exact ⟨_,rfl,_,.str _,.inl (by decide)⟩
  ·exact ⟨_,rfl,_,.int _,.inl (by decide)⟩
  ·exact ⟨_,rfl,_,.dK (kS _ _ (by simp [w3s]) (kR _ _ (by simp) eQ)),.inl (by decide)⟩
 refine ⟨d6,_,_,_,rfl,rfl,kS _ _ (by simp [d6s]) eR,ewv,?_⟩
 have kNR:=kNP.trans kQR
 have kHS:=un2 (kHN.trans kNR) kS
 have kES:=kEH.trans kHS
 have plS:=kES _ _ (by simp) plE
 have kNS:=(kNR.mono (S':=[sr2]) (by simp)).trans kS
 have stoS:vO K HS zs' ov:=sto HS (kNS _ _ (by simp [sJ.ne ho1]) eK') (kNS _ _ (by simp [o2s]) eL')
 refine ⟨_,rfl,_,rfl,_,rfl,pl,_,rfl,.of plS,fun x1 hx1=>?_⟩
 rw [mJ _ _ j0]
 have kT:zC [] HS (upd HS x1 (.lst ((pls.take at'.toNat).map V.str))):=zC.new hx1
 have eT:upd HS x1 (.lst ((pls.take at'.toNat).map V.str)) x1=some (.lst ((pls.take at'.toNat).map V.str)):=zB
 generalize upd HS x1 (.lst ((pls.take at'.toNat).map V.str))=HT' at kT eT
 refine ⟨_,rfl,by show 1 <= sizeLine;decide,fun x2 hx2=>?_⟩
 have kU:zC [] HT' (upd HT' x2 (.lst [ov])):=zC.new hx2
 have eU:upd HT' x2 (.lst [ov]) x2=some (.lst [ov]):=zB
 generalize upd HT' x2 (.lst [ov])=HU at kU eU
 refine ⟨x1,x2,_,_,rfl,rfl,kU _ _ (by simp) eT,eU,by rw [zJ6,zKP,sizeLine_eq];show _ + 1 <= _;omega,fun x3 hx3=>?_⟩
 have kV:zC [] HU (upd HU x3 (.lst ((pls.take at'.toNat).map V.str ++ [ov]))):=zC.new hx3
 have eV:upd HU x3 (.lst ((pls.take at'.toNat).map V.str ++ [ov])) x3=some (.lst ((pls.take at'.toNat).map V.str ++ [ov])):=zB
 generalize upd HU x3 (.lst ((pls.take at'.toNat).map V.str ++ [ov]))=HV at kV eV
 have kSV:=(kT.trans kU).trans kV
 refine ⟨_,rfl,_,rfl,_,rfl,pl,_,rfl,.of (kSV _ _ (by simp) plS),fun x4 hx4=>?_⟩
 rw [pK _ _ j0]
 have kW:zC [] HV (upd HV x4 (.lst ((pls.drop at'.toNat).map V.str))):=zC.new hx4
 have eW:upd HV x4 (.lst ((pls.drop at'.toNat).map V.str)) x4=some (.lst ((pls.drop at'.toNat).map V.str)):=zB
 generalize upd HV x4 (.lst ((pls.drop at'.toNat).map V.str))=HW at kW eW
 refine ⟨x3,x4,_,_,rfl,rfl,kW _ _ (by simp) eV,eW,by rw [zKO,zJ6,zJ6,zKP,List.length_drop,sizeLine_eq];show _ + 1 + _ <= _;omega,fun x5 hx5=>?_⟩
 have kX:zC [] HW (upd HW x5 (.lst (((pls.take at'.toNat).map V.str ++ [ov]) ++ (pls.drop at'.toNat).map V.str))):=zC.new hx5
 have eX:upd HW x5 (.lst (((pls.take at'.toNat).map V.str ++ [ov]) ++ (pls.drop at'.toNat).map V.str)) x5=some (.lst ((pls.take at'.toNat).map V.str ++ ov :: (pls.drop at'.toNat).map V.str)):=zB.trans (congrArg (fun l=>some (HO.lst l)) (List.append_cons _ _ _).symm)
 generalize upd HW x5 (.lst (((pls.take at'.toNat).map V.str ++ [ov]) ++ (pls.drop at'.toNat).map V.str))=HX at kX eX
 have kSX:=(kSV.trans kW).trans kX
 have kEX:=kES.trans kSX
 have WX:=WE.on kEX
 refine ⟨_,rfl,wd,dW,_,rfl,kEX _ _ (by simp) oW,rfl,wd,tr,zs',ps',pls,rfl,WX,_,rfl,tr,_,zs',ps',rfl,WX.tf,.inl ⟨x5,pls.take at'.toNat,ov,_,rfl,eX,by rw [zKP];omega,fun b hb=>inZ (hin b (List.mem_of_mem_take hb)),stoS.on kSX,fun HY kY=>⟨rfl,_,rfl,ifT (by simp) ?_⟩⟩⟩
 have kEY:=kEX.trans kY
 have WY:=WE.on kEY
 refine ⟨_,rfl,wd,dW,_,rfl,kEY _ _ (by simp) oW,rfl,wd,tr,zs',ps',pls,rfl,WY,_,rfl,tr,_,zs',ps',rfl,WY.tf,.inr ⟨Ty,qW ptw (kSX.trans kY),?_,fun HZ kZ=>⟨rfl,?_⟩⟩⟩
 ·rcases hT with n | ⟨p1,e1,e2⟩
  ·exact .inl n
  ·exact .inr ⟨p1,e1,(kSX.trans kY) _ _ (by simp) e2⟩
 ·rw [show decide (V.str "right"=V.str "right")=true by simp]
  exact fin HZ
end
end K31
section
open PySem PySem.W PyProof.Rows
set_option maxHeartbeats 0
namespace PySem.W.Fast
def tw16968176118458789586:=0
def tw1454219785156648487:=0
def tw10690290613013544276:=0
def tw9497945907656264259:=0
def tw316514102143019080:=0
def tw1176975735165151067:=0
def tw10426125643436316091:=0
def tw906997338810173357:=0
def tw11172916005052047515:=0
def tw10199354318988768051:=0
def tw1473157368647526513:=0
def tw14442895186254868694:=0
def tw4944538096920542639:=0
def tw10666358394269039325:=0
def tw13402640891724300857:=0
def tw17643754061406199020:=0
def tw1532905827683784112:=0
def tw4584130408075211490:=0
def tw8348929279939143713:=0
def tw11187973929812520656:=0
def tw3285859953031059425:=0
def tw15502550340765836045:=0
def tw10667965978278278033:=0
def tw9601000219436670146:=0
def tw1479287613276173130:=0
def tw16449049683821496617:=0
def tw9156678896304099913:=0
def tw15886500619415505586:=0
def tw531412535426860449:=0
def tw6486810437610700802:=0
def tw14397872965251920632:=0
def tw16075136791760097191:=0
def tw8683647306443290362:=0
def tw9077073247801000857:=0
def tw8428562227566387420:=0
def tw4491058772748593153:=0
def tw9741163907969138060:=0
def tw6494943896840636653:=0
def tw4135897612330176133:=0
def tw10073777498728569760:=0
def tw13436231055378572716:=0
def tw11930311979851757478:=0
def tw5055051069096525434:=0
def tw15221209806709932071:=0
def tw7398817070849623441:=0
def tw12798869161161681673:=0
def tw10209164474934016114:=0
def tw8393786181099783575:=0
def tw9774394379856643515:=0
def tw2257529940240947247:=0
def tw15402286563333779435:=0
def tw12533650973541477374:=0
def tw9840342860782594374:=0
def tw13713662601823219867:=0
def tw4359589691058243886:=0
def tw586414817643026165:=0
def tw14562797142590040716:=0
def tw4540636511946744494:=0
def tw1839109375146967462:=0
def tw1825691751249298209:=0
def tw17704188385166749297:=0
def tw7523194637212750777:=0
def tw14741059370588343079:=0
def tw509087118977565734:=0
def tw6824431518044964225:=0
def tw3092117133297227249:=0
def tw3470010718395615242:=0
def tw13060605142614655490:=0
def tw11902711398340702967:=0
def tw13840814423707232359:=0
def tw9682125037027054050:=0
def tw16192155080924809213:=0
def tw15515405784836723652:=0
def tw15348117752812372481:=0
def tw17624731456758155189:=0
def tw11519117686961666697:=0
def tw2947586027576077979:=0
def tw4157206338815638501:=0
def tw16932301668260661676:=0
def tw1483244801744361964:=0
def tw1349388230604553621:=0
def tw16915470645016011554:=0
def tw16472409268878238316:=0
def tw8164005668110941744:=0
def tw6972137507745442014:=0
def tw8981913638643619018:=0
def tw9605743605585339520:=0
def tw3764688243253525356:=0
def tw4918578279448414526:=0
def tw1462193419119380569:=0
def tw13426244417702134072:=0
def tw742405457713269000:=0
def tw6282235656393965153:=0
def tw6389263286938051477:=0
def tw234749781942434899:=0
def tw18145098415874279589:=0
def tw17442110473662064967:=0
def tw3906252008257840017:=0
def tw5958337225494893492:=0
def tw17541053060092493725:=0
def tw15422119907067038827:=0
def tw1191315250883676292:=0
def tw15824036994488615982:=0
def tw1906743188756502811:=0
def tw7875376050956498882:=0
def tw8426798971799828003:=0
def tw11370914782968760983:=0
def tw4504308265987017973:=0
def tw4631843929112630505:=0
def tw15861331538122591068:=0
def tw8043475576194751547:=0
def tw14501001857826371202:=0
def tw17925384258215065573:=0
def tw3506314266756369058:=0
def tw5030944203280556702:=0
def tw7328447075739424539:=0
def tw9435018134839604537:=0
def tw16539199913488330184:=0
def tw16798657068305975370:=0
def tw12549480798472879603:=0
def tw8251615781885547615:=0
def tw8933567498414919238:=0
def tw7492102371377302679:=0
def tw5623994078177797194:=0
def tw12390559651112219368:=0
def tw10326493174037289348:=0
def tw17233677561841584812:=0
def tw4339094378015247841:=0
def tw14191745827877185554:=0
def tw307898289698214084:=0
def tw8470894229461020840:=0
def tw10502693668590426699:=0
def tw3582249997124558875:=0
def tw6548945272714408661:=0
def tw16364373167927100580:=0
def tw35568349831873098:=0
def tw14613296582639449008:=0
def tw12018387782679925087:=0
def tw11779420592341035236:=0
def tw4097071322456330496:=0
def tw16745343075639119971:=0
def tw17500236039170889412:=0
def tw3810288955371171240:=0
def tw15365484819746726251:=0
def tw3381083816267484057:=0
def tw10561106145012299093:=0
def tw1987508650992133761:=0
def tw18395511878220121235:=0
def tw2208741240797131588:=0
def tw17768571080419900198:=0
def tw2283480497557504744:=0
def tw69414778264802052:=0
def tw12336147652794031108:=0
def tw7175924686734873740:=0
def tw14170585217052205424:=0
def tw7537285074954141530:=0
def tw9110270791296138383:=0
def tw1300389390809692256:=0
def tw11574620562411281403:=0
def tw4571146918403064550:=0
def tw15904842870477748834:=0
def tw3479469073905811116:=0
def tw1420662732131515904:=0
def tw11343340059310441149:=0
def tw4843473975253519250:=0
def tw16172578528114110199:=0
def tw6012122021747098740:=0
def tw4598012029387006661:=0
def tw16459021049253542911:=0
def tw3307598998989760257:=0
def tw1541540961381408409:=0
def tw15248526436251307398:=0
def tw8308560865943985453:=0
def tw15622835117965313283:=0
def tw2485138290154517179:=0
def tw5388663596951873645:=0
def tw12673549619886724666:=0
def tw15705199264805783303:=0
def tw19087262800434883:=0
def tw10785849952161257653:=0
def tw14405926674196405372:=0
def tw569269584081339442:=0
def tw733115270667523211:=0
def tw16900098544317168846:=0
def tw2037118409890360768:=0
def tw12536675682341429926:=0
def tw16317983856663788926:=0
def tw3778666011296723585:=0
def tw2938142743764115087:=0
def tw1191518686258777599:=0
def tw8621301723031713458:=0
def tw8974712187610346474:=0
def tw3414106826494052011:=0
def tw17305903175009340426:=0
def tw12941643214049860704:=0
def tw11224283036561675971:=0
def tw4203021270051977171:=0
def tw3801760983836956406:=0
def tw14785674107316509737:=0
def tw3094701115853657799:=0
def tw13197444509695450237:=0
def tw1385777081429181588:=0
def tw6292166794754334899:=0
def tw15508019666092448443:=0
def tw804092199982636349:=0
def tw2944391684731814369:=0
def tw14326666937008165477:=0
def tw7260338619989925410:=0
def tw13829591483307370896:=0
def tw17969941481158815411:=0
def tw14601374924635115150:=0
def tw15786108522021975023:=0
def tw3022614760011389842:=0
def tw15095310939110568327:=0
def tw16469568281967520401:=0
def tw7975222031838317642:=0
def tw2133271169735087666:=0
def tw2451202640524662777:=0
def tw1165732905965986049:=0
def tw17334881123488906936:=0
def tw17427895641331663283:=0
def tw4033379813872489195:=0
def tw3166399620581321579:=0
def tw7080789625436062031:=0
def tw8866799916698666265:=0
def tw1550398474585127534:=0
def tw8903238766108814736:=0
def tw5799554998426481285:=0
def tw539595736760451978:=0
def tw16897998798116281364:=0
def tw16149030986926176842:=0
def tw11636702290074901078:=0
def tw4283984659391282296:=0
def tw1672326540721132644:=0
def tw8704305404121857298:=0
def tw14150022099575242417:=0
def tw15695617497022372041:=0
def tw17186741509365979835:=0
def tw7247118927824095897:=0
def tw3035243531618640371:=0
def tw8436589768386056944:=0
def tw18192907663531859256:=0
def tw10137764753370060610:=0
def tw6200747210346194187:=0
def tw17682402426280554898:=0
def tw6708892414054319099:=0
def tw6807009207803952845:=0
def tw13319170342346483122:=0
def tw7305881857308230406:=0
def tw15382044423783582273:=0
def tw1147522009701800784:=0
def tw15737338000419672667:=0
def tw17721039672839981703:=0
def tw182668025278835697:=0
def tw9192171586001469603:=0
def tw9359623039629485964:=0
def tw14846608996346228861:=0
def tw2358892869828748035:=0
def tw9455475090630465045:=0
def tw15416708228241726627:=0
def tw2766794811542550618:=0
def tw17004574920194074796:=0
def tw8646929664414959583:=0
def tw14023712959475348811:=0
def tw358491328311820773:=0
def tw1880258362356491002:=0
def tw17845374550828520631:=0
def tw17619882183920601743:=0
def tw15187948449530629271:=0
def tw11392713097197983755:=0
def tw11510790518079381290:=0
def tw16268753175028127129:=0
def tw14439765378166140033:=0
def tw15646415040929263001:=0
def tw8454840944936950519:=0
def tw16629561534657121264:=0
def tw17601101962401091345:=0
def tw14864845329073380503:=0
def tw7586693836618795562:=0
def tw4074981978428682757:=0
def tw12059592832596718669:=0
def tw11849823424631295993:=0
def tw7249538410202319208:=0
def tw13624067223694474022:=0
def tw16118103595353321548:=0
def tw14395535763308203431:=0
def tw11712190458185945011:=0
def tw10746989603658154836:=0
def tw5093760422677637020:=0
def tw7394473655412076685:=0
def tw10762484250532422250:=0
def tw17150219012052418107:=0
def tw10469807499340016548:=0
def tw15734334760007649912:=0
def tw3985506009949057970:=0
def tw9183887234732007851:=0
def tw14678158920106854735:=0
def tw14790834132378566595:=0
def tw17798109276220946204:=0
def tw877418901244307835:=0
def tw5089109622011424599:=0
def tw6288245671383669902:=0
def tw13148303815899264127:=0
def tw802917404587063742:=0
def tw17546005709695080877:=0
def tw2294854397974045510:=0
def tw17244165749177940222:=0
def tw12221415409051222339:=0
def tw13260146092877858203:=0
def tw9685044298169568939:=0
def tw264859973967348148:=0
def tw16207471116852146628:=0
def tw7766378276201275438:=0
def tw6664951462986138201:=0
def tw278057108609374583:=0
def tw603962551829649689:=0
def tw3241244739717862871:=0
def tw11769617611247221923:=0
def tw15679247252792206210:=0
def tw454280894128670149:=0
def tw8160871880118814707:=0
def tw9032336229301285499:=0
def tw5550509959566540293:=0
def tw9715166753854553471:=0
def tw17100184641858439841:=0
def tw15632388027458123374:=0
def tw9957620556588924339:=0
def tw2229296814111626559:=0
def tw14827384380277173613:=0
def tw15431134087688302020:=0
def tw9970415837922127764:=0
def tw9897558803702562313:=0
def tw12978678129208030876:=0
def tw8008005557923197168:=0
def tw9508736203920968164:=0
def tw6973558733670310315:=0
def tw7900839787485558254:=0
def tw10884089432341657690:=0
def tw2481563345554938573:=0
def tw6585068141940680455:=0
def tw1584912289204293663:=0
def tw11990459337992974956:=0
def tw899467453790264098:=0
def tw6582134788679801411:=0
def tw4952506757814975653:=0
def tw5036445103931068615:=0
def tw517312751163448032:=0
def tw16029188298635462215:=0
def tw11732214188671553305:=0
def tw603919011924581760:=0
def tw6834397320308548248:=0
def tw17938573788391313690:=0
def tw13792483299354683862:=0
def tw4954584648838934644:=0
def tw3482820431698744051:=0
def tw6511239469406747073:=0
def tw4198713400997701141:=0
def tw1313047135445303594:=0
def tw6737687440995333003:=0
def tw5189820047638375715:=0
def tw2478928736998500339:=0
def tw16919330064296535691:=0
def tw12725296767022386299:=0
def tw1712973634487312807:=0
def tw1948689806639624469:=0
def tw2852278927748849453:=0
def tw425938344300624212:=0
def tw10042499479572932358:=0
def tw10390157646234782899:=0
def tw1138913362466708187:=0
def tw3179113964874686181:=0
def tw14015890951069844909:=0
def tw10114559176044890587:=0
def tw16831826745284165009:=0
def tw7254989234349611870:=0
def tw15726315211890062517:=0
def tw6396003848318028651:=0
def tw3992908553847606798:=0
def tw7042659310547366237:=0
def tw10015853644003576960:=0
def tw13078823862939028812:=0
def tw9484893572878908112:=0
def tw9053782029162397877:=0
def tw14729990847023682631:=0
def tw9232382410035873144:=0
def tw11447477075748414676:=0
def tw8864380892348041232:=0
def tw7388713464098733815:=0
def tw7499281151589028774:=0
def tw12434779806091606683:=0
def tw6518321594825264574:=0
def tw12380031433413146341:=0
def tw9791681398072291233:=0
def tw13673065589402620214:=0
def tw6364832225403335943:=0
def tw14858129598448742980:=0
def tw14495299557687959983:=0
def tw5353813085845620550:=0
def tw5107255825281412738:=0
def tw6192104577313164617:=0
def tw380267787363406661:=0
def tw12184380411685104690:=0
def tw4475145619620083286:=0
def tw3507429394446682220:=0
def tw9308127886482624579:=0
def tw2348382526199129394:=0
def tw10693841506766600124:=0
def tw15724745641170818534:=0
def tw780352493179443570:=0
def tw5485572742587201778:=0
def tw6203606158221864914:=0
def tw17093224777342109595:=0
def tw14255533807856875452:=0
def tw17391336857961395939:=0
def tw13419329186978087958:=0
def tw8237626310708396552:=0
def tw17837415989878807268:=0
def tw10987736105736012968:=0
def tw2477643992490326988:=0
def tw7440338388817694703:=0
def tw4982327473614321822:=0
def tw7296062328341103413:=0
def tw12182783529103667017:=0
def tw11845996908044828999:=0
def tw12748364046262365132:=0
def tw17314640977518372658:=0
def tw5286587840749011222:=0
def tw17974404532321089622:=0
def tw15666997468571502003:=0
def tw6183355688225794848:=0
def tw6415066574636824545:=0
def tw5552461122284547459:=0
def tw15140938179311494802:=0
def tw6315216371427503177:=0
def tw5260856337621036202:=0
def tw15862806813707239167:=0
def tw7877236402650122457:=0
def tw9305391788130653963:=0
def tw11637195238256488622:=0
def tw1611551182742943237:=0
def tw16864953814531559520:=0
def tw1877735476730380715:=0
def tw14029752382306131292:=0
def tw14624137194681822032:=0
def tw12847321847948890356:=0
def tw12899766395315103347:=0
def tw4449657751673405704:=0
def tw8971928162430966047:=0
def tw2810533944269268182:=0
def tw726985913927333873:=0
def tw2385268686561707046:=0
def tw12738439760183948126:=0
def tw2927799364441409784:=0
def tw729466047920990731:=0
def tw11717690317537128808:=0
def tw17513604867990543079:=0
def tw9122274009815981030:=0
def tw9289493724674991399:=0
def tw2463093255817348941:=0
def tw8605165415444627158:=0
def tw13553050674002434610:=0
def tw14987661418082201831:=0
def tw571030836065106013:=0
def tw1722802803701587481:=0
def tw15934030157929616494:=0
def tw3450989490954552525:=0
def tw8126552424372712672:=0
def tw8665634375594789945:=0
def tw4769901133546641911:=0
def tw17094580856887593759:=0
def tw838488071084229480:=0
def tw17119971604622065936:=0
def tw14583267516977433036:=0
def tw1770178512437172215:=0
def tw3944315687946155255:=0
def tw386646798200593236:=0
def tw2648174423076098445:=0
def tw10069975712529536831:=0
def tw4425046354534653865:=0
def tw2969480146181677978:=0
def tw9832553117377153458:=0
def tw14722794537435163219:=0
def tw18431155831084640082:=0
def tw2912592304959361012:=0
def tw11069628954808310989:=0
def tw2337977823195543630:=0
def tw3892864765347196996:=0
def tw17698735102306075112:=0
def tw4227517698962585424:=0
def tw14749253800190834908:=0
def tw6215920317759002765:=0
def tw9417821408627411278:=0
def tw519266280920424228:=0
def tw13662637811004586191:=0
def tw12243597962237336636:=0
def tw11763852733077360975:=0
def tw15977843376605620593:=0
def tw8526028360262338249:=0
def tw12888458977819952578:=0
def tw10052001805573714066:=0
def tw1018241977421654940:=0
def tw8544851875200626613:=0
def tw306725001281121169:=0
def tw17882641709403210578:=0
def tw15545184769064153574:=0
def tw4327481325072456391:=0
def tw5565376262109202332:=0
def tw12067549021546063074:=0
def tw14996608434851025094:=0
def tw8975212363463974631:=0
def tw1665878787184676641:=0
def tw2857234818492195956:=0
def tw1647960591809683682:=0
def tw17878424488110687958:=0
def tw4437086304538376352:=0
def tw14267268813261638861:=0
def tw5835942142707902020:=0
def tw10015450608781386451:=0
def tw1773412541820395039:=0
def tw3345597093286824917:=0
def tw5680315236850328200:=0
def tw14706185440976847018:=0
def tw8174591469460913490:=0
def tw13702985418278947913:=0
def tw11786325122171474085:=0
def tw1349615225243010270:=0
def tw17453007754238675230:=0
def tw763151578990004582:=0
def tw7343611390307366373:=0
def tw4543556514994620149:=0
def tw7089793799200125183:=0
def tw5916140570258018564:=0
def tw8159976661246289121:=0
def tw7340446101256811000:=0
def tw3121739546393284973:=0
def tw14734032772098568817:=0
def tw12815670308626618822:=0
def tw14189555721544581985:=0
def tw14900259974334564751:=0
def tw5769997320742902227:=0
def tw2962324470309885386:=0
def tw744308932230929381:=0
def tw2747774915501398362:=0
def tw4721951213564682446:=0
def tw11320351676317602388:=0
def tw11329467641453361123:=0
def tw7020395562169822392:=0
def tw12616699830948850482:=0
def tw13774056567397157767:=0
def tw2424774302306548116:=0
def tw5541168653056121806:=0
def tw12164847016668196034:=0
def tw13952158723898717365:=0
def tw18012574323051992567:=0
def tw4941654611710099729:=0
def tw8079883169468671255:=0
def tw10378583025934500588:=0
def tw7524379617451308511:=0
def tw18167724695441219349:=0
def tw12718454046807659718:=0
def tw6880125886219600808:=0
def tw1796273381948687019:=0
def tw15722476443830486393:=0
def tw17433476089929063245:=0
def tw7420531298404749032:=0
def tw7640442551644295459:=0
def tw4968929673044707356:=0
def tw7690381188980140627:=0
def tw13887902116395311400:=0
def tw1638044586162870736:=0
def tw4983238944512131410:=0
def tw16154006052845571654:=0
def tw12712400820596877648:=0
def tw8701388421011056580:=0
def tw17888565902029391346:=0
def tw10846345724684618374:=0
def tw13055661147411815287:=0
def tw3934833063311361131:=0
def tw2040744933412127554:=0
def tw6492823980505428362:=0
def tw2754325095672005890:=0
def tw75764501244781629:=0
def tw7076977106511060911:=0
def tw2873748437651673626:=0
def tw10896712999787139778:=0
def tw16655083059833703075:=0
def tw6771182271545134960:=0
def tw3664731896753646195:=0
def tw5315833730557488597:=0
def tw6873971014812347169:=0
def tw8891557043749499067:=0
def tw6999419289813526679:=0
def tw4340971767527515617:=0
def tw13508602156133886167:=0
def tw10733525418748422364:=0
def tw4056980464201440128:=0
def tw10131873952172028942:=0
def tw10490896440440575333:=0
def tw1267704075650749254:=0
def tw7950223703418521501:=0
def tw14381848211998048001:=0
def tw16463793508043411602:=0
def tw18116090264126130099:=0
def tw4888033052430993751:=0
def tw5587484289544270231:=0
def tw959750476839503417:=0
def tw12798482353308782584:=0
def tw8131721106225051767:=0
def tw3808584094389355786:=0
def tw6851207145984494839:=0
def tw3190473778026329144:=0
def tw4177351759533223642:=0
def tw2202087279664922802:=0
def tw16925118299729312639:=0
def tw3471986238504059686:=0
def tw4773397407553703792:=0
def tw16034362830870596112:=0
def tw14763428746477059428:=0
def tw5363195699714531557:=0
def tw17666627728419048244:=0
def tw18182889222666715495:=0
def tw14335355579717207800:=0
def tw8674833295852230495:=0
def tw15204850212942285997:=0
def tw8963181155552011567:=0
def tw438459731153329746:=0
def tw8060744490709563079:=0
def tw11224361182253327997:=0
def tw18146824316399097613:=0
def tw11896190001472655623:=0
def tw10729351905339586543:=0
def tw8481912209251361999:=0
def tw4188684199736651882:=0
def tw7767600555257307780:=0
def tw704147369595269066:=0
def tw6623812351622530092:=0
def tw10448383514627668160:=0
def tw9161490523856799436:=0
def tw4880262508069084:=0
def tw6760056911573607715:=0
def tw3812623656604795163:=0
def tw1048264011454463007:=0
def tw6089177832033215386:=0
def tw9076479597209935715:=0
def tw10925597439039874015:=0
def tw5227643050314000434:=0
def tw11300376045408061371:=0
def tw9232342255221618221:=0
def tw6692257562035669867:=0
def tw18277388166739348960:=0
def tw9751423446361702133:=0
def tw17637976172252843794:=0
def tw671769174312181376:=0
def tw3543174748483581286:=0
def tw15144473761172219204:=0
def tw8369655760788974282:=0
def tw14889595167817102546:=0
def tw10232147439284725336:=0
def tw7395645310213146516:=0
def tw3302770140995672700:=0
def tw12079628635447562283:=0
def tw3048301304931576756:=0
def tw714049069090440106:=0
def tw5802571108899374253:=0
def tw840874552673099760:=0
def tw4549206651492310876:=0
def tw4034687210265294523:=0
def tw8489791072293843769:=0
def tw14064692534454641163:=0
def tw11347631108264317165:=0
def tw9513619709740374535:=0
def tw8886442042033028919:=0
def tw10728712052571211117:=0
def tw11586196018267737339:=0
def tw11522840503767320408:=0
def tw16061800364364160699:=0
def tw5805183375971660199:=0
def tw14398365135244066966:=0
def tw6606014719576569030:=0
def tw15250632263150132618:=0
def tw6999941293234460784:=0
def tw10285885531015897042:=0
def tw14112606434462084385:=0
def tw16339243704642337257:=0
def tw15988265368706215130:=0
def tw1173414789623836638:=0
def tw12319047049370110589:=0
def tw7158441374720773216:=0
def tw7834740603555865465:=0
def tw133755455108545178:=0
def tw16286715671046524454:=0
def tw12514039047250868702:=0
def tw6788773261714906821:=0
def tw12694112234171929671:=0
def tw6147076586173037292:=0
def tw2484844197603217540:=0
def tw15281107440404749168:=0
def tw7717702957765121957:=0
def tw13350131943787299761:=0
def tw3295466097903864610:=0
def tw1354003750591732747:=0
def tw14731147920152588799:=0
def tw11887224372650548316:=0
def tw8078195926588453703:=0
def tw3822784309164373692:=0
def tw4251283908050598120:=0
def tw11269825475406603969:=0
def tw12036168689724814288:=0
def tw5011889884212318148:=0
def tw8175973581910071180:=0
def tw15452640027357039508:=0
def tw5782394823436434100:=0
def tw1292346606274980823:=0
def tw14245618210516037357:=0
def tw6381902497316938245:=0
def tw1906461178052628661:=0
def tw8697654515486363317:=0
def tw2456577590951144490:=0
def tw8848340392469278725:=0
def tw8877373362634485534:=0
def tw12661032092557703082:=0
def tw12436235973947379448:=0
def tw4636031889025220839:=0
def tw11558780327473938450:=0
def tw18152145473544675463:=0
def tw3981585000120243262:=0
def tw4872952286622431662:=0
def tw12737541344736672974:=0
def tw17361600720005761245:=0
def tw6595744693926533701:=0
def tw5399014298235654608:=0
def tw16444569944806229531:=0
def tw13949155002146243131:=0
def tw16970792351503237766:=0
def tw15755219311246346914:=0
def tw2351595017107847903:=0
def tw11747886684248664031:=0
def tw1620389302784492585:=0
def tw10149639745659574222:=0
def tw16787063365666532030:=0
def tw11268533821286410027:=0
def tw13323373534744806615:=0
def tw15854262060937163188:=0
def tw17960848765466677729:=0
def tw7910172739516966087:=0
def tw17802128708061929859:=0
def tw9835382159548102362:=0
def tw19751972998642308:=0
def tw17215249892471440014:=0
def tw14650769484350525481:=0
def tw592193406742131962:=0
def tw18042889414512086050:=0
def tw9823039669657098575:=0
def tw3016012700857477809:=0
def tw3942624392001961204:=0
def tw6728313399510405491:=0
def tw16338214745046372782:=0
def tw3640494629250541465:=0
def tw2450569374399577549:=0
def tw17995702471018909939:=0
def tw1632905160279749488:=0
def tw11843833423457600547:=0
def tw15536387163757344236:=0
def tw17108046237660401759:=0
def tw16504757533647375273:=0
end PySem.W.Fast
open_top head for PySem.Challenge.rw_treeright_k31_worlds_made
end
namespace K31
open PySem L2
def FnK (K:PySem.W.Frag) (n q:Str) (st:Stmt) (f:Addr):Prop:=∃ (od an:Option Addr) (sl:Array (Option Value)) (oc kV dc pm cd ct:Value),K.lookup f=some ⟨oc,od,.func (PySem.W.fnOf n q (wM st) (yU st) (zE st) .none kV dc pm an cd ct),sl⟩/\PySem.W.codeIn K cd q=true/\PySem.W.keepIn K (.ref f)=true
def FgK (K:PySem.W.Frag) (n:Str) (st:Stmt):Prop:=∃ f,PySem.W.nsIn K mainGlobals n=some (some (.ref f))/\FnK K n n st f
def MtK (K:PySem.W.Frag) (C:Addr) (n q:Str) (st:Stmt):Prop:=∃ f,PySem.W.findIn K (.ref C) n=some (some (.ref f))/\PySem.W.isFn K (.ref f)=true/\FnK K n q st f
theorem z6 {K:PySem.W.Frag} {h:Heap} {mg:Str->Option Value} {n:Str} {st:Stmt} {ps:List Str} (X:K.In h) (G:h.Ns mainGlobals mg) (l:FgK K n st)
  (hb:∀ (kV doc pm:Value) (an:Option Addr) (cdv ct:Value) (us:List Value),us.length=ps.length->bindArgs (PySem.W.fnOf n n (wM st) (yU st) (zE st) .none kV doc pm an cdv ct) ⟨us,[]⟩=pure (ps.zip us)):yB K mg n st ps:=by
 obtain ⟨f,a,od,an,sl,oc,kV,dc,pm,cd,ct,l,c,k⟩:=l
 exact zDD X G a l c k hb
theorem yA {K:PySem.W.Frag} {C:Addr} {n q:Str} {st:Stmt} {ps:List Str} (l:MtK K C n q st)
  (hb:∀ (kV doc pm:Value) (an:Option Addr) (cdv ct:Value) (us:List Value),us.length=ps.length->bindArgs (PySem.W.fnOf n q (wM st) (yU st) (zE st) .none kV doc pm an cdv ct) ⟨us,[]⟩=pure (ps.zip us)):yI K C n q st ps:=by
 obtain ⟨f,a,i,od,an,sl,oc,kV,dc,pm,cd,ct,l,c,k⟩:=l
 exact zC5 a i l c k hb
structure ClK (K:PySem.W.Frag) (n:Str) (C:Addr):Prop where
 a:PySem.W.nsIn K mainGlobals n=some (some (.ref C))
 pg:PySem.W.plainGet K C Str.empty=true
 hd:PySem.W.hasDictIn K C=true
 po:PySem.W.plainOver K C=true
 sa:PySem.W.findIn K (.ref C) "__setattr__"=some (some (.builtin "object.__setattr__"))
 ms:PySem.W.makesIn K C=true
 kc:PySem.W.keepIn K (.ref C)=true
theorem all_mk {l:PySem.W.OpenLaw} {w:World} {K:PySem.W.Frag} {h:Heap} {mg:Str->Option Value} {fa:Addr} (X:K.In h) (G:h.Ns mainGlobals mg) (hfa:mg "law"=some (.ref fa))
  {fL:Addr} {CT:Addr} {CS:Addr} {C:Addr} {CW:Addr} {t_LETTERS:Tok} {t_LONGEST_NAME:Tok} {x0:Addr} {x1:Addr} {x2:Addr} {x3:Addr} {x4:Addr} {x5:Addr} {x6:Addr} {x7:Addr} {x8:Addr} {x9:Addr} {x10:Addr} {x11:Addr} {x12:Addr}
  (l0:FgK K "is_name" lB)
  (l1:FgK K "is_whole" sWh)
  (l2:FgK K "is_one_of" qP)
  (l3:FgK K "are_names" lE)
  (l4:FgK K "are_unlike" zB5)
  (l5:FgK K "are_houses" gM)
  (l6:FgK K "is_tie" zB6)
  (l7:FgK K "are_ties" lD)
  (l8:FgK K "tied_to_each" oC)
  (l9:FgK K "steps_toward" nO)
  (l10:FgK K "check_asker" gJ)
  (l11:FgK K "are_neighbours" sNb)
  (l12:FgK K "are_arrows" bY)
  (l13:FgK K "check_right" sCk)
  (l14:FgK K "numbered" sNu)
  (l15:FgK K "next_on" sNx)
  (l16:FgK K "arrows_toward" sAT)
  (l17:FgK K "new_house" sNH)
  (l18:FgK K "check_places" sCP)
  (l19:FgK K "no_letters" sNL)
  (l20:FgK K "_law_cell_at" gK)
  (l21:FgK K "_law_mixed" nY)
  (l22:FgK K "_law_digits" qC)
  (l23:FgK K "_law_next" gH)
  (l24:FgK K "_law_drawn_tree" sDT)
  (l25:FgK K "_law_places" sPl)
  (l26:FgK K "_law_near" sNe)
  (l27:FgK K "_law_road" sLR)
  (l28:FgK K "_law_word" sWd)
  (l29:FgK K "_law_refused" sRf)
  (l30:FgK K "_law_begun_right" sB)
  (aL:PySem.W.nsIn K mainGlobals "law"=some (some (.ref fL))) (lL:FnK K "law" "law" iA fL)
  (k_CT:ClK K "Tree" CT)
  (mCT0:MtK K CT "__init__" "Tree.__init__" lC)
  (mCT1:MtK K CT "houses" "Tree.houses" qA)
  (mCT2:MtK K CT "neighbours" "Tree.neighbours" nX)
  (mCT3:MtK K CT "road" "Tree.road" gG)
  (mCT4:MtK K CT "check_house" "Tree.check_house" bX)
  (n_CT_names:PySem.W.findIn K (.ref CT) "names"=some none)
  (n_CT_pairs:PySem.W.findIn K (.ref CT) "pairs"=some none)
  (n_CT_near:PySem.W.findIn K (.ref CT) "near"=some none)
  (k_CS:ClK K "Seat" CS)
  (mCS0:MtK K CS "__init__" "Seat.__init__" sSI)
  (mCS1:MtK K CS "arrow" "Seat.arrow" nZ)
  (mCS2:MtK K CS "row" "Seat.row" zB7)
  (mCS3:MtK K CS "inside" "Seat.inside" r9)
  (mCS4:MtK K CS "has_asked" "Seat.has_asked" zB8)
  (mCS5:MtK K CS "askers" "Seat.askers" sSA)
  (mCS6:MtK K CS "twin" "Seat.twin" sTw)
  (mCS7:MtK K CS "want" "Seat.want" gF)
  (mCS8:MtK K CS "move_on" "Seat.move_on" gI)
  (mCS9:MtK K CS "serve_first" "Seat.serve_first" nU)
  (n_CS_pointer:PySem.W.findIn K (.ref CS) "pointer"=some none)
  (n_CS_waiting:PySem.W.findIn K (.ref CS) "waiting"=some none)
  (n_CS_holder:PySem.W.findIn K (.ref CS) "holder"=some none)
  (n_CS_asked:PySem.W.findIn K (.ref CS) "asked"=some none)
  (k_C:ClK K "House" C)
  (mC0:MtK K C "__init__" "House.__init__" sHI)
  (mC1:MtK K C "want" "House.want" sHW)
  (mC2:MtK K C "askers" "House.askers" bV)
  (mC3:MtK K C "arrow" "House.arrow" zCC)
  (mC4:MtK K C "row" "House.row" zB9)
  (mC5:MtK K C "inside" "House.inside" zCA)
  (mC6:MtK K C "has_asked" "House.has_asked" zCB)
  (mC7:MtK K C "twin" "House.twin" sHT)
  (mC8:MtK K C "rights_wanted" "House.rights_wanted" sRW)
  (n_C_name:PySem.W.findIn K (.ref C) "name"=some none)
  (n_C_nearby:PySem.W.findIn K (.ref C) "nearby"=some none)
  (n_C_seats:PySem.W.findIn K (.ref C) "seats"=some none)
  (k_CW:ClK K "World" CW)
  (mCW0:MtK K CW "__init__" "World.__init__" sWI)
  (mCW1:MtK K CW "tree" "World.tree" sWT)
  (mCW2:MtK K CW "letters" "World.letters" sWL)
  (mCW3:MtK K CW "book" "World.book" sWB)
  (mCW4:MtK K CW "is_down" "World.is_down" sWD)
  (mCW5:MtK K CW "house" "World.house" sWH)
  (mCW6:MtK K CW "check_up" "World.check_up" sWU)
  (mCW7:MtK K CW "check_tied" "World.check_tied" sWC)
  (n_CW_shape:PySem.W.findIn K (.ref CW) "shape"=some none)
  (n_CW_many:PySem.W.findIn K (.ref CW) "many"=some none)
  (n_CW_homes:PySem.W.findIn K (.ref CW) "homes"=some none)
  (n_CW_queues:PySem.W.findIn K (.ref CW) "queues"=some none)
  (n_CW_fallen:PySem.W.findIn K (.ref CW) "fallen"=some none)
  (n_CW_severed:PySem.W.findIn K (.ref CW) "severed"=some none)
  (n_CW_lines:PySem.W.findIn K (.ref CW) "lines"=some none)
  (z_isinstance:PySem.W.nsIn K mainGlobals "isinstance"=some none)
  (z_str:PySem.W.nsIn K mainGlobals "str"=some none)
  (z_int:PySem.W.nsIn K mainGlobals "int"=some none)
  (z_bool:PySem.W.nsIn K mainGlobals "bool"=some none)
  (z_len:PySem.W.nsIn K mainGlobals "len"=some none)
  (z_all:PySem.W.nsIn K mainGlobals "all"=some none)
  (z_range:PySem.W.nsIn K mainGlobals "range"=some none)
  (z_list:PySem.W.nsIn K mainGlobals "list"=some none)
  (z_tuple:PySem.W.nsIn K mainGlobals "tuple"=some none)
  (z_set:PySem.W.nsIn K mainGlobals "set"=some none)
  (z_sorted:PySem.W.nsIn K mainGlobals "sorted"=some none)
  (z_enumerate:PySem.W.nsIn K mainGlobals "enumerate"=some none)
  (z_min:PySem.W.nsIn K mainGlobals "min"=some none)
  (z_max:PySem.W.nsIn K mainGlobals "max"=some none)
  (z_ValueError:PySem.W.nsIn K mainGlobals "ValueError"=some none)
  (g_LETTERS:PySem.W.nsIn K mainGlobals "LETTERS"=some (some (.str "abcdefghijklmnopqrstuvwxyz" t_LETTERS)))
  (g_LONGEST_NAME:PySem.W.nsIn K mainGlobals "LONGEST_NAME"=some (some (.int 8 t_LONGEST_NAME)))
  (aX_0:PySem.W.nsIn K mainGlobals "NoTree"=some (some (.ref x0)))
  (aX_1:PySem.W.nsIn K mainGlobals "NoHouse"=some (some (.ref x1)))
  (aX_2:PySem.W.nsIn K mainGlobals "NoSeat"=some (some (.ref x2)))
  (aX_3:PySem.W.nsIn K mainGlobals "NoAsker"=some (some (.ref x3)))
  (aX_4:PySem.W.nsIn K mainGlobals "NoLetter"=some (some (.ref x4)))
  (aX_5:PySem.W.nsIn K mainGlobals "NoRight"=some (some (.ref x5)))
  (aX_6:PySem.W.nsIn K mainGlobals "NoRow"=some (some (.ref x6)))
  (aX_7:PySem.W.nsIn K mainGlobals "NoTie"=some (some (.ref x7)))
  (aX_8:PySem.W.nsIn K mainGlobals "Down"=some (some (.ref x8)))
  (aX_9:PySem.W.nsIn K mainGlobals "NoMend"=some (some (.ref x9)))
  (aX_10:PySem.W.nsIn K mainGlobals "NoText"=some (some (.ref x10)))
  (aX_11:PySem.W.nsIn K mainGlobals "NoLine"=some (some (.ref x11)))
  (aX_12:PySem.W.nsIn K mainGlobals "TreeError"=some (some (.ref x12)))
  (xtab:rL K [x0,x1,x2,x3,x4,x5,x6,x7,x8,x9,x10,x11] x12=true)
  (xall:iX K [x0,x1,x2,x3,x4,x5,x6,x7,x8,x9,x10,x11]=true)
  (insT:zJ4 K CT) :
  ∃ fd:FuncData,(∀ (s:Shared) (v:Value),BindsTo s fd ⟨[v],[]⟩ [("_law_script",v)])/\∀ base:Heap,K.In base->base.Ns mainGlobals mg->vZ l.prog w K mg base CX0 10 fa fd ["_law_script"] (gC K):=by
 have e:=hfa.symm.trans (PySem.W.mg_of X G aL)
 cases e
 obtain ⟨od,an,sl,oc,kV,dc,pm,cd,ct,lL,cL,kL⟩:=lL
 have GI:yB K mg "is_name" lB ["thing"]:=z6 X G l0 (fun _ _ _ _ _ _ us hl=>match us,hl with | [_],_=>rfl)
 have GWh:yB K mg "is_whole" sWh ["thing"]:=z6 X G l1 (fun _ _ _ _ _ _ us hl=>match us,hl with | [_],_=>rfl)
 have GOO:yB K mg "is_one_of" qP ["thing","houses"]:=z6 X G l2 (fun _ _ _ _ _ _ us hl=>match us,hl with | [_,_],_=>rfl)
 have GAN:yB K mg "are_names" lE ["thing"]:=z6 X G l3 (fun _ _ _ _ _ _ us hl=>match us,hl with | [_],_=>rfl)
 have GAU:yB K mg "are_unlike" zB5 ["names"]:=z6 X G l4 (fun _ _ _ _ _ _ us hl=>match us,hl with | [_],_=>rfl)
 have GAH:yB K mg "are_houses" gM ["thing"]:=z6 X G l5 (fun _ _ _ _ _ _ us hl=>match us,hl with | [_],_=>rfl)
 have GIT:yB K mg "is_tie" zB6 ["thing","houses"]:=z6 X G l6 (fun _ _ _ _ _ _ us hl=>match us,hl with | [_,_],_=>rfl)
 have GAT:yB K mg "are_ties" lD ["thing","houses"]:=z6 X G l7 (fun _ _ _ _ _ _ us hl=>match us,hl with | [_,_],_=>rfl)
 have GTE:yB K mg "tied_to_each" oC ["houses","ties"]:=z6 X G l8 (fun _ _ _ _ _ _ us hl=>match us,hl with | [_,_],_=>rfl)
 have GST:yB K mg "steps_toward" nO ["near","goal"]:=z6 X G l9 (fun _ _ _ _ _ _ us hl=>match us,hl with | [_,_],_=>rfl)
 have GCA:yB K mg "check_asker" gJ ["asker"]:=z6 X G l10 (fun _ _ _ _ _ _ us hl=>match us,hl with | [_],_=>rfl)
 have GNb:yB K mg "are_neighbours" sNb ["thing","name"]:=z6 X G l11 (fun _ _ _ _ _ _ us hl=>match us,hl with | [_,_],_=>rfl)
 have GAr:yB K mg "are_arrows" bY ["thing","neighbours"]:=z6 X G l12 (fun _ _ _ _ _ _ us hl=>match us,hl with | [_,_],_=>rfl)
 have GCk:yB K mg "check_right" sCk ["right","many"]:=z6 X G l13 (fun _ _ _ _ _ _ us hl=>match us,hl with | [_,_],_=>rfl)
 have GNu:yB K mg "numbered" sNu ["right","told"]:=z6 X G l14 (fun _ _ _ _ _ _ us hl=>match us,hl with | [_,_],_=>rfl)
 have GNx:yB K mg "next_on" sNx ["tree","one","other"]:=z6 X G l15 (fun _ _ _ _ _ _ us hl=>match us,hl with | [_,_,_],_=>rfl)
 have GTo:yB K mg "arrows_toward" sAT ["tree","house","places"]:=z6 X G l16 (fun _ _ _ _ _ _ us hl=>match us,hl with | [_,_,_],_=>rfl)
 have GNH:yB K mg "new_house" sNH ["tree","house","places"]:=z6 X G l17 (fun _ _ _ _ _ _ us hl=>match us,hl with | [_,_,_],_=>rfl)
 have GCP:yB K mg "check_places" sCP ["tree","places"]:=z6 X G l18 (fun _ _ _ _ _ _ us hl=>match us,hl with | [_,_],_=>rfl)
 have GNL:yB K mg "no_letters" sNL ["tree"]:=z6 X G l19 (fun _ _ _ _ _ _ us hl=>match us,hl with | [_],_=>rfl)
 have GC:yB K mg "_law_cell_at" gK ["_law_script","_law_k"]:=z6 X G l20 (fun _ _ _ _ _ _ us hl=>match us,hl with | [_,_],_=>rfl)
 have GM:yB K mg "_law_mixed" nY ["_law_cell","_law_k"]:=z6 X G l21 (fun _ _ _ _ _ _ us hl=>match us,hl with | [_,_],_=>rfl)
 have GD:yB K mg "_law_digits" qC ["_law_cell"]:=z6 X G l22 (fun _ _ _ _ _ _ us hl=>match us,hl with | [_],_=>rfl)
 have GN:yB K mg "_law_next" gH ["_law_source","_law_many"]:=z6 X G l23 (fun _ _ _ _ _ _ us hl=>match us,hl with | [_,_],_=>rfl)
 have GDT:yB K mg "_law_drawn_tree" sDT ["_law_source"]:=z6 X G l24 (fun _ _ _ _ _ _ us hl=>match us,hl with | [_],_=>rfl)
 have GPl:yB K mg "_law_places" sPl ["_law_source","_law_names"]:=z6 X G l25 (fun _ _ _ _ _ _ us hl=>match us,hl with | [_,_],_=>rfl)
 have GNe:yB K mg "_law_near" sNe ["_law_ties","_law_name"]:=z6 X G l26 (fun _ _ _ _ _ _ us hl=>match us,hl with | [_,_],_=>rfl)
 have GLR:yB K mg "_law_road" sLR ["_law_ties","_law_one","_law_other"]:=z6 X G l27 (fun _ _ _ _ _ _ us hl=>match us,hl with | [_,_,_],_=>rfl)
 have GWd:yB K mg "_law_word" sWd ["_law_e"]:=z6 X G l28 (fun _ _ _ _ _ _ us hl=>match us,hl with | [_],_=>rfl)
 have GRf:yB K mg "_law_refused" sRf ["_law_tree","_law_thing"]:=z6 X G l29 (fun _ _ _ _ _ _ us hl=>match us,hl with | [_,_],_=>rfl)
 have GB:yB K mg "_law_begun_right" sB ["_law_world","_law_names","_law_ties","_law_places_here"]:=z6 X G l30 (fun _ _ _ _ _ _ us hl=>match us,hl with | [_,_,_,_],_=>rfl)
 have FL:=uR (st:=iA) lL cL kL
 have cl_CT:Cls K CT:=⟨k_CT.pg,k_CT.hd,k_CT.po,k_CT.sa⟩
 obtain ⟨fiCT,aiCT,iiCT,_,_,_,_,_,_,_,_,_,liCT,ciCT,kiCT⟩:=mCT0
 have tIF:=uR (st:=lC) liCT ciCT kiCT
 have tIB:=tIF.binds (ps:=["self","houses","ties"]) (fun _ _ _ _ _ _ us hl=>match us,hl with | [_,_,_],_=>rfl)
 have tIM:Mk K CT fiCT:=⟨k_CT.ms,aiCT,iiCT,k_CT.kc⟩
 have tH:yI K CT "houses" "Tree.houses" qA ["self"]:=yA mCT1 (fun _ _ _ _ _ _ us hl=>match us,hl with | [_],_=>rfl)
 have tN:yI K CT "neighbours" "Tree.neighbours" nX ["self","house"]:=yA mCT2 (fun _ _ _ _ _ _ us hl=>match us,hl with | [_,_],_=>rfl)
 have tR:yI K CT "road" "Tree.road" gG ["self","one","other"]:=yA mCT3 (fun _ _ _ _ _ _ us hl=>match us,hl with | [_,_,_],_=>rfl)
 have tC:yI K CT "check_house" "Tree.check_house" bX ["self","house"]:=yA mCT4 (fun _ _ _ _ _ _ us hl=>match us,hl with | [_,_],_=>rfl)
 have mg_CT:=PySem.W.mg_of X G k_CT.a
 have cl_CS:Cls K CS:=⟨k_CS.pg,k_CS.hd,k_CS.po,k_CS.sa⟩
 obtain ⟨fiCS,aiCS,iiCS,_,_,_,_,_,_,_,_,_,liCS,ciCS,kiCS⟩:=mCS0
 have mIF:=uR (st:=sSI) liCS ciCS kiCS
 have mIB:=mIF.binds (ps:=["self","arrow"]) (fun _ _ _ _ _ _ us hl=>match us,hl with | [_,_],_=>rfl)
 have mIM:Mk K CS fiCS:=⟨k_CS.ms,aiCS,iiCS,k_CS.kc⟩
 have mA:yI K CS "arrow" "Seat.arrow" nZ ["self"]:=yA mCS1 (fun _ _ _ _ _ _ us hl=>match us,hl with | [_],_=>rfl)
 have mR:yI K CS "row" "Seat.row" zB7 ["self"]:=yA mCS2 (fun _ _ _ _ _ _ us hl=>match us,hl with | [_],_=>rfl)
 have mIn:yI K CS "inside" "Seat.inside" r9 ["self"]:=yA mCS3 (fun _ _ _ _ _ _ us hl=>match us,hl with | [_],_=>rfl)
 have mH:yI K CS "has_asked" "Seat.has_asked" zB8 ["self"]:=yA mCS4 (fun _ _ _ _ _ _ us hl=>match us,hl with | [_],_=>rfl)
 have mSA:yI K CS "askers" "Seat.askers" sSA ["self"]:=yA mCS5 (fun _ _ _ _ _ _ us hl=>match us,hl with | [_],_=>rfl)
 have mT:yI K CS "twin" "Seat.twin" sTw ["self"]:=yA mCS6 (fun _ _ _ _ _ _ us hl=>match us,hl with | [_],_=>rfl)
 have mW:yI K CS "want" "Seat.want" gF ["self","asker"]:=yA mCS7 (fun _ _ _ _ _ _ us hl=>match us,hl with | [_,_],_=>rfl)
 have mM:yI K CS "move_on" "Seat.move_on" gI ["self"]:=yA mCS8 (fun _ _ _ _ _ _ us hl=>match us,hl with | [_],_=>rfl)
 have mS:yI K CS "serve_first" "Seat.serve_first" nU ["self"]:=yA mCS9 (fun _ _ _ _ _ _ us hl=>match us,hl with | [_],_=>rfl)
 have mg_CS:=PySem.W.mg_of X G k_CS.a
 have cl_C:Cls K C:=⟨k_C.pg,k_C.hd,k_C.po,k_C.sa⟩
 obtain ⟨fiC,aiC,iiC,_,_,_,_,_,_,_,_,_,liC,ciC,kiC⟩:=mC0
 have hIF:=uR (st:=sHI) liC ciC kiC
 have hIB:=hIF.binds (ps:=["self","name","neighbours","arrows"]) (fun _ _ _ _ _ _ us hl=>match us,hl with | [_,_,_,_],_=>rfl)
 have hIM:Mk K C fiC:=⟨k_C.ms,aiC,iiC,k_C.kc⟩
 have hW:yI K C "want" "House.want" sHW ["self","asker","right"]:=yA mC1 (fun _ _ _ _ _ _ us hl=>match us,hl with | [_,_,_],_=>rfl)
 have hAs:yI K C "askers" "House.askers" bV ["self"]:=yA mC2 (fun _ _ _ _ _ _ us hl=>match us,hl with | [_],_=>rfl)
 have hA:yI K C "arrow" "House.arrow" zCC ["self","right"]:=yA mC3 (fun _ _ _ _ _ _ us hl=>match us,hl with | [_,_],_=>rfl)
 have hR:yI K C "row" "House.row" zB9 ["self","right"]:=yA mC4 (fun _ _ _ _ _ _ us hl=>match us,hl with | [_,_],_=>rfl)
 have hIn:yI K C "inside" "House.inside" zCA ["self","right"]:=yA mC5 (fun _ _ _ _ _ _ us hl=>match us,hl with | [_,_],_=>rfl)
 have hH:yI K C "has_asked" "House.has_asked" zCB ["self","right"]:=yA mC6 (fun _ _ _ _ _ _ us hl=>match us,hl with | [_,_],_=>rfl)
 have hT:yI K C "twin" "House.twin" sHT ["self"]:=yA mC7 (fun _ _ _ _ _ _ us hl=>match us,hl with | [_],_=>rfl)
 have hRW:yI K C "rights_wanted" "House.rights_wanted" sRW ["self"]:=yA mC8 (fun _ _ _ _ _ _ us hl=>match us,hl with | [_],_=>rfl)
 have mg_C:=PySem.W.mg_of X G k_C.a
 have cl_CW:Cls K CW:=⟨k_CW.pg,k_CW.hd,k_CW.po,k_CW.sa⟩
 obtain ⟨fiCW,aiCW,iiCW,_,_,_,_,_,_,_,_,_,liCW,ciCW,kiCW⟩:=mCW0
 have wIF:=uR (st:=sWI) liCW ciCW kiCW
 have wIB:=wIF.binds (ps:=["self","tree","places"]) (fun _ _ _ _ _ _ us hl=>match us,hl with | [_,_,_],_=>rfl)
 have wIM:Mk K CW fiCW:=⟨k_CW.ms,aiCW,iiCW,k_CW.kc⟩
 have wT:yI K CW "tree" "World.tree" sWT ["self"]:=yA mCW1 (fun _ _ _ _ _ _ us hl=>match us,hl with | [_],_=>rfl)
 have wL:yI K CW "letters" "World.letters" sWL ["self","one","other"]:=yA mCW2 (fun _ _ _ _ _ _ us hl=>match us,hl with | [_,_,_],_=>rfl)
 have wB:yI K CW "book" "World.book" sWB ["self"]:=yA mCW3 (fun _ _ _ _ _ _ us hl=>match us,hl with | [_],_=>rfl)
 have wD:yI K CW "is_down" "World.is_down" sWD ["self","house"]:=yA mCW4 (fun _ _ _ _ _ _ us hl=>match us,hl with | [_,_],_=>rfl)
 have wH:yI K CW "house" "World.house" sWH ["self","name"]:=yA mCW5 (fun _ _ _ _ _ _ us hl=>match us,hl with | [_,_],_=>rfl)
 have wU:yI K CW "check_up" "World.check_up" sWU ["self","house"]:=yA mCW6 (fun _ _ _ _ _ _ us hl=>match us,hl with | [_,_],_=>rfl)
 have wC:yI K CW "check_tied" "World.check_tied" sWC ["self","one","other"]:=yA mCW7 (fun _ _ _ _ _ _ us hl=>match us,hl with | [_,_,_],_=>rfl)
 have mg_CW:=PySem.W.mg_of X G k_CW.a
 have b_isinstance:Blt mg "isinstance":=⟨PySem.W.mg_none_of X G z_isinstance⟩
 have b_str:Blt mg "str":=⟨PySem.W.mg_none_of X G z_str⟩
 have b_int:Blt mg "int":=⟨PySem.W.mg_none_of X G z_int⟩
 have b_bool:Blt mg "bool":=⟨PySem.W.mg_none_of X G z_bool⟩
 have b_len:Blt mg "len":=⟨PySem.W.mg_none_of X G z_len⟩
 have b_all:Blt mg "all":=⟨PySem.W.mg_none_of X G z_all⟩
 have b_range:Blt mg "range":=⟨PySem.W.mg_none_of X G z_range⟩
 have b_list:Blt mg "list":=⟨PySem.W.mg_none_of X G z_list⟩
 have b_tuple:Blt mg "tuple":=⟨PySem.W.mg_none_of X G z_tuple⟩
 have b_set:Blt mg "set":=⟨PySem.W.mg_none_of X G z_set⟩
 have b_sorted:Blt mg "sorted":=⟨PySem.W.mg_none_of X G z_sorted⟩
 have b_enumerate:Blt mg "enumerate":=⟨PySem.W.mg_none_of X G z_enumerate⟩
 have b_min:Blt mg "min":=⟨PySem.W.mg_none_of X G z_min⟩
 have b_max:Blt mg "max":=⟨PySem.W.mg_none_of X G z_max⟩
 have b_ValueError:Blt mg "ValueError":=⟨PySem.W.mg_none_of X G z_ValueError⟩
 have gl_LETTERS:Glo mg "LETTERS" (.str abc):=⟨_,PySem.W.mg_of X G g_LETTERS,⟨_,rfl⟩⟩
 have gl_LONGEST_NAME:Glo mg "LONGEST_NAME" (.int 8):=⟨_,PySem.W.mg_of X G g_LONGEST_NAME,⟨_,rfl⟩⟩
 refine ⟨PySem.W.fnOf "law" "law" (wM iA) (yU iA) (zE iA) .none kV dc pm an cd ct,fun s v=>.of_eq rfl,fun base _ _=>?_⟩
 have T:vV K CT:=⟨cl_CT,n_CT_names,n_CT_pairs,n_CT_near⟩
 have TS:vA K CS:=⟨cl_CS,n_CS_pointer,n_CS_waiting,n_CS_holder,n_CS_asked⟩
 have TH:vL K C:=⟨cl_C,n_C_name,n_C_nearby,n_C_seats⟩
 have TW:vU K CW:=⟨cl_CW,n_CW_shape,n_CW_many,n_CW_homes,n_CW_queues,n_CW_fallen,n_CW_severed,n_CW_lines⟩
 obtain ⟨cs,hcs⟩:∃ cs:Nat->Addr,cs=fun i=>[x0,x1,x2,x3,x4,x5,x6,x7,x8,x9,x10,x11].getD i 0:=⟨_,rfl⟩
 have kn:Kn K mg cs:=by
  subst hcs
  exact ⟨⟨_,PySem.W.mg_of X G aX_0,rfl⟩,⟨_,PySem.W.mg_of X G aX_1,rfl⟩,⟨_,PySem.W.mg_of X G aX_2,rfl⟩,⟨_,PySem.W.mg_of X G aX_3,rfl⟩,⟨_,PySem.W.mg_of X G aX_4,rfl⟩,⟨_,PySem.W.mg_of X G aX_5,rfl⟩,⟨_,PySem.W.mg_of X G aX_6,rfl⟩,⟨_,PySem.W.mg_of X G aX_7,rfl⟩,⟨_,PySem.W.mg_of X G aX_8,rfl⟩,⟨_,PySem.W.mg_of X G aX_9,rfl⟩,⟨_,PySem.W.mg_of X G aX_10,rfl⟩,⟨_,PySem.W.mg_of X G aX_11,rfl⟩,fun i j hi hj=>zE1 xtab hi hj,fun i hi=>zE0 xtab hi,fun i hi=>zG9 xall hi⟩
 have exH:zBP K mg "NoHouse" (cs 1):=by
  subst hcs
  exact ⟨PySem.W.mg_of X G aX_1,cP xtab (i:=1) (by decide) (by decide)⟩
 have exR:zBP K mg "NoRight" (cs 5):=by
  subst hcs
  exact ⟨PySem.W.mg_of X G aX_5,cP xtab (i:=5) (by decide) (by decide)⟩
 have hex:∀ i,i < 12->PySem.W.exmOne K (.ref (cs i)) (.ref x12)=some true:=by
  subst hcs
  exact fun i hi=>zE2 xtab hi
 have mgT:=PySem.W.mg_of X G aX_12
 have CI:=zGA (P:=l.prog) (w:=w) (base:=base) GI b_isinstance b_str b_len b_all gl_LETTERS gl_LONGEST_NAME
 have CWh:=okWh (P:=l.prog) (w:=w) (base:=base) GWh b_isinstance b_int b_bool
 have CO:=zCX GOO CI
 have CO2:=zF8 GOO CI
 have CAN:=zGH GAN CI b_isinstance b_list b_all
 have CAU:=zI4 (P:=l.prog) (w:=w) (base:=base) GAU b_len b_set
 have CAH:=zGI GAH CAN CAU b_len
 have CIT:=zI5 GIT CO b_isinstance b_tuple b_len
 have CAT:=zGG GAT CIT b_isinstance b_list b_len b_all
 have CTE:=zF6 (P:=l.prog) (w:=w) (base:=base) GTE b_sorted
 have CST:=zCV (P:=l.prog) (w:=w) (base:=base) GST
 have MC:=zJE T tC CO
 have MN:=zCY T tN MC b_list
 have MR:=zF7 T tR MC CST
 have MTH:=aZ (P:=l.prog) (w:=w) (mg:=mg) (base:=base) T tH b_list
 have MKT:uG l.prog w K mg base CX0 5 CT "Tree" ["self","houses","ties"] (j3 CT):=⟨_,_,zGC T tIF CAH CAT CTE CST b_sorted b_min b_max b_len,tIM,mg_CT,tIB⟩
 have MCX:=zGD T tC CO2 exH
 have CNb:=okNb GNb CAN CAU
 have CAr:=zJF GAr CO b_isinstance b_list b_len b_all
 have CCk:=okCk GCk CWh
 have CCA:=zGE GCA CI
 have CNu:=okNu (P:=l.prog) (w:=w) (base:=base) GNu
 have MS:=zCW (P:=l.prog) (w:=w) (mg:=mg) (base:=base) TS mS b_len
 have MM:=zGB TS mM MS
 have MA:=zC0 (P:=l.prog) (w:=w) (mg:=mg) (base:=base) TS mA
 have MRo:=zI6 (P:=l.prog) (w:=w) (mg:=mg) (base:=base) TS mR b_list
 have MIn:=aY (P:=l.prog) (w:=w) (mg:=mg) (base:=base) TS mIn
 have MHs:=zI8 (P:=l.prog) (w:=w) (mg:=mg) (base:=base) TS mH
 have MSA:=okSA (P:=l.prog) (w:=w) (mg:=mg) (base:=base) TS mSA
 have MW:=zF5 TS mW CCA MM
 have MKS:uG l.prog w K mg base CX0 2 CS "Seat" ["self","arrow"] (zBV CS):=⟨_,_,okSI TS mIF CI,mIM,mg_CS,mIB⟩
 have MKH:uG l.prog w K mg base CX0 4 C "House" ["self","name","neighbours","arrows"] (zBW C CS):=⟨_,_,okHI TH hIF CI CNb CAr MKS b_list,hIM,mg_C,hIB⟩
 have HA:=zJD TH TS hA CCk MA b_len
 have HR:=zI9 TH TS hR CCk MRo b_len
 have HI:=zJA TH TS hIn CCk MIn b_len
 have HH:=zJB TH TS hH CCk MHs b_len
 have HAs:=zJC TH TS hAs MSA b_sorted b_enumerate
 have HRW:=okRW TH hRW HAs
 have HW:=okHW TH TS hW CCA CCk HRW MW CNu b_len
 have MTw:=okTw TS mT MKS b_list
 have HT:=okHT TH TS hT MA MTw MKH
 have CNX:=okNx T GNx MR b_len
 have CTo:=okAT GTo CNX
 have CNH:=okNH T GNH MN CTo MKH
 have CCP:=okCP T insT GCP MCX exR ⟨_,mg_CT,rfl⟩ b_isinstance b_list b_len
 have CNL:=okNL T GNL MTH MN
 have MKW:uG l.prog w K mg base CX0 8 CW "World" ["self","tree","places"] (zFA C CS CT CW):=⟨_,_,okWI T TW wIF (zBB CCP) MTH CNH CNL b_len,wIM,mg_CW,wIB⟩
 have MWX:uG l.prog w K mg base (CXE l.prog w) 5 CW "World" ["self","tree","places"] (zE8 K CT CW (cs 1) (cs 5)):=⟨_,_,okWX wIF CCP,wIM,mg_CW,wIB⟩
 have WT:=okWT (P:=l.prog) (w:=w) (mg:=mg) (base:=base) (C:=C) (CS:=CS) (CT:=CT) TW wT
 have WD:=okWD (C:=C) (CS:=CS) T TW wD MC
 have WU:=okWU TW wU WD
 have WH:=okWH TH TW wH WU HT
 have WC:=okWC (C:=C) (CS:=CS) T TW wC MC
 have WL:=okWL TW wL WC b_list
 have WB:=okWB (P:=l.prog) (w:=w) (mg:=mg) (base:=base) (C:=C) (CS:=CS) (CT:=CT) TW wB
 have CWd:=zF4 (P:=l.prog) (w:=w) (base:=base) kn GWd b_isinstance b_len b_ValueError
 have CRf:=okRf GRf MWX CWd mgT hex
 have CM:=zCZ (P:=l.prog) (w:=w) (base:=base) GM
 have CD:=a8 (P:=l.prog) (w:=w) (base:=base) GD
 have CN:Cal l.prog w K mg base CX0 2 "_law_next" ["_law_source","_law_many"] spDr:=by rw [gD];exact zF9 GN CM
 have CC:=zGF (P:=l.prog) (w:=w) (base:=base) GC b_len
 have CDT:=okDT GDT CN b_range b_int
 have CPl:=okPl GPl CN b_range b_len
 have CNe:=okNe (P:=l.prog) (w:=w) (base:=base) GNe b_sorted
 have CLR:=okLR GLR CNe
 have CB:=okB TH TW GB CLR CNX WH WD WT WB HA HR HI HH HAs HW b_range b_len
 exact zI7 T TW FL CC CD CN CDT CPl MKT MKW CB WL WT MTH CRf b_len b_list b_sorted b_tuple
theorem walk {l:PySem.W.OpenLaw} {q:Program} {loose:List Str} {XP:(Str->Option Value)->Heap->Prop} {YP:World->Heap->Prop} {d:DefRec} {K:Params->PySem.W.Frag} (hn:l.most=some 63) (hdf:d.params.defaults=[])
  (hY:∀ (w:World) (h:Heap),YP w h->(K w.params).In h)
  (F:∀ (w:World) (mg:Str->Option Value) (fa:Addr) (h:Heap),(K w.params).In h->h.Ns mainGlobals mg->mg d.name=some (.ref fa) ->
   ∃ fd:FuncData,(∀ (s:Shared) (u:Value),BindsTo s fd ⟨[u],[]⟩ [("_law_script",u)])/\∀ base:Heap,(K w.params).In base->base.Ns mainGlobals mg->vZ l.prog w (K w.params) mg base CX0 10 fa fd ["_law_script"] (gC (K w.params))) :
  PySem.W.WalkO q loose XP YP l.row.toRowW d [] (fun f vs=>PySem.call f vs):=
 L2.walk_of (n:=63) (k:=10) (x:="_law_script") (CX:=fun _=>CX0) (sp:=fun w=>gC (K w.params)) hn (by decide) hdf ⟨rfl,by decide,by decide⟩ hY F (fun _ _ a ns hl _ hS=>⟨a,ns,rfl,hS,hl,fun _=>rfl⟩) fun _ _ _ _ _ z=>z
end K31
open PySem PySem.W PyProof.Rows
set_option maxRecDepth 100000 in
set_option maxHeartbeats 0 in
theorem PySem.Challenge.cw_treeright_k31_worlds_made_holds : PySem.Challenge.rw_treeright_k31_worlds_made.Holds := by
 refine head ?_
 k_fill
 refine K31.walk (l:=PySem.Challenge.rw_treeright_k31_worlds_made) rfl rfl (fun w h Y=>PySem.W.kIn_of Y) ?F
 case F=>
  intro w mg fa h KX G hmg
  refine' K31.all_mk KX G hmg ?l0 ?l1 ?l2 ?l3 ?l4 ?l5 ?l6 ?l7 ?l8 ?l9 ?l10 ?l11 ?l12 ?l13 ?l14 ?l15 ?l16 ?l17 ?l18 ?l19 ?l20 ?l21 ?l22 ?l23 ?l24 ?l25 ?l26 ?l27 ?l28 ?l29 ?l30 ?aL ?lL ?k_CT ?mCT0 ?mCT1 ?mCT2 ?mCT3 ?mCT4 ?n_CT_names ?n_CT_pairs ?n_CT_near ?k_CS ?mCS0 ?mCS1 ?mCS2 ?mCS3 ?mCS4 ?mCS5 ?mCS6 ?mCS7 ?mCS8 ?mCS9 ?n_CS_pointer ?n_CS_waiting ?n_CS_holder ?n_CS_asked ?k_C ?mC0 ?mC1 ?mC2 ?mC3 ?mC4 ?mC5 ?mC6 ?mC7 ?mC8 ?n_C_name ?n_C_nearby ?n_C_seats ?k_CW ?mCW0 ?mCW1 ?mCW2 ?mCW3 ?mCW4 ?mCW5 ?mCW6 ?mCW7 ?n_CW_shape ?n_CW_many ?n_CW_homes ?n_CW_queues ?n_CW_fallen ?n_CW_severed ?n_CW_lines ?z_isinstance ?z_str ?z_int ?z_bool ?z_len ?z_all ?z_range ?z_list ?z_tuple ?z_set ?z_sorted ?z_enumerate ?z_min ?z_max ?z_ValueError ?g_LETTERS ?g_LONGEST_NAME ?aX_0 ?aX_1 ?aX_2 ?aX_3 ?aX_4 ?aX_5 ?aX_6 ?aX_7 ?aX_8 ?aX_9 ?aX_10 ?aX_11 ?aX_12 ?xtab ?xall ?insT
  (case aL=>k_is)
  (case lL=>exact ⟨_,_,_,_,_,_,_,_,_,by k_is,by k_is,by k_is⟩)
  (case l0 | l1 | l2 | l3 | l4 | l5 | l6 | l7 | l8 | l9 | l10 | l11 | l12 | l13 | l14 | l15 | l16 | l17 | l18 | l19 | l20 | l21 | l22 | l23 | l24 | l25 | l26 | l27 | l28 | l29 | l30=>exact ⟨_,by k_is,_,_,_,_,_,_,_,_,_,by k_is,by k_is,by k_is⟩)
  (case k_CT | k_CS | k_C | k_CW=>exact ⟨by k_is,by k_is,by k_is,by k_is,by k_is,by k_is,by k_is⟩)
  (case mCT0 | mCT1 | mCT2 | mCT3 | mCT4 | mCS0 | mCS1 | mCS2 | mCS3 | mCS4 | mCS5 | mCS6 | mCS7 | mCS8 | mCS9 | mC0 | mC1 | mC2 | mC3 | mC4 | mC5 | mC6 | mC7 | mC8 | mCW0 | mCW1 | mCW2 | mCW3 | mCW4 | mCW5 | mCW6 | mCW7=>exact ⟨_,by k_is,by k_is,_,_,_,_,_,_,_,_,_,by k_is,by k_is,by k_is⟩)
  (case n_CT_names | n_CT_pairs | n_CT_near | n_CS_pointer | n_CS_waiting | n_CS_holder | n_CS_asked | n_C_name | n_C_nearby | n_C_seats | n_CW_shape | n_CW_many | n_CW_homes | n_CW_queues | n_CW_fallen | n_CW_severed | n_CW_lines | z_isinstance | z_str | z_int | z_bool | z_len | z_all | z_range | z_list | z_tuple | z_set | z_sorted | z_enumerate | z_min | z_max | z_ValueError | g_LETTERS | g_LONGEST_NAME=>k_is)
  (case aX_0=>k_is)
  (case aX_1=>k_is)
  (case aX_2=>k_is)
  (case aX_3=>k_is)
  (case aX_4=>k_is)
  (case aX_5=>k_is)
  (case aX_6=>k_is)
  (case aX_7=>k_is)
  (case aX_8=>k_is)
  (case aX_9=>k_is)
  (case aX_10=>k_is)
  (case aX_11=>k_is)
  (case aX_12=>k_is)
  (case xtab=>kernel_rfl)
  (case xall=>kernel_rfl)
  (case insT=>exact ⟨by first | k_is | kernel_rfl,by first | k_is | kernel_rfl,by first | k_is | kernel_rfl,by first | k_is | kernel_rfl,by first | k_is | kernel_rfl⟩)
