import PyProof.Rows.All
import Wide.All
import OpenK.AllK
import Wide.FinOn
import Lean
import PyProof.EqAt
import PyProof.EqKinds
import PyProof.TupleCall
import PySem.Challenge.RW_treeright_k24_askers_by_name
noncomputable section
def zF7:=@List.length_map
def zF8:=@List.getElem?_eq_getElem
def zF9:=@List.getElem?_eq_some_iff
def zGA:=@List.mem_singleton
def zGB:=@List.mem_of_getElem?
def zGC:=@List.getD_eq_getElem?_getD
def zGD:=@List.getElem?_map
def zGE:=@Option.some.inj
def zGF:=@List.size_toArray
def zGG:=@Nat.le_refl
def zGH:=@Nat.zero_le
def zGI:=@Nat.le_trans
def zGJ:=@List.map_append
def zGK:=@List.mem_cons_of_mem
def zGL:=@List.mem_append_right
def zGM:=@decide_eq_true
def zGN:=@decide_eq_false
def zGO:=@List.mem_append
def zGP:=@List.length_append
def zGQ:=@List.length_take
def zGR:=@List.map_map
def zGS:=@List.length_cons
def zGT:=@Nat.lt_of_lt_of_le
def zGU:=@List.getElem?_append_right
def zGV:=@List.getElem?_append_left
def zGW:=@List.take_of_length_le
def zGX:=@List.length_pos_iff
def zGY:=@Nat.ne_of_lt
def zGZ:=@Bool.false_ne_true
def zG0:=@List.mem_cons_self
def zG1:=@List.not_mem_nil
def zG2:=@List.append_assoc
def zG3:=@List.getElem?_set_ne
def zG4:=@List.getElem?_set_self
def zG5:=@List.length_filter_le
def zG6:=@Array.getD_eq_getD_getElem?
def zG7:=@List.take_length
def zG8:=@List.length_set
set_option Elab.async false
set_option linter.all false
set_option maxRecDepth 100000
namespace L2
open PySem PySem.Spec PyProof.Rows
abbrev Key:=Sum Int Str
def t7:Key->Value->Bool
 | .inl k,v=>Value.isInt k v
 | .inr x,v=>Value.isStrOf x v
def keyH (w:World):Key->Int
 | .inl k=>hashInt k
 | .inr x=>hashStr w x
theorem xK:∀ {k:Key} {v:Value},t7 k v=true->(∃ i t,k=Sum.inl i/\v=Value.int i t) \/ (∃ x t,k=Sum.inr x/\v=Value.str x t)
 | .inl i,v,h=>by
  obtain ⟨t,e⟩:=Value.isInt_shape (k:=i) (v:=v) h
  exact .inl ⟨i,t,rfl,e⟩
 | .inr x,v,h=>by
  obtain ⟨t,e⟩:=Value.isStrOf_shape (x:=x) (v:=v) h
  exact .inr ⟨x,t,rfl,e⟩
theorem gF (i:Int) (t:Tok):t7 (.inl i) (.int i t)=true:=by simp [t7,Value.isInt]
theorem gE (x:Str) (t:Tok):t7 (.inr x) (.str x t)=true:=by simp [t7,Value.isStrOf]
theorem zDG (a b:Int):decide ((Sum.inl a:Key)=Sum.inl b)=(a == b):=by
 by_cases e:a=b
 ·subst e;simp
 ·have h:¬ (Sum.inl a:Key)=Sum.inl b:=fun q=>e (Sum.inl.inj q)
  rw [zGN h]
  exact (beq_eq_false_iff_ne.mpr e).symm
theorem zDD (a b:Str):decide ((Sum.inr a:Key)=Sum.inr b)=decide (a=b):=by
 by_cases e:a=b
 ·subst e;simp
 ·have h:¬ (Sum.inr a:Key)=Sum.inr b:=fun q=>e (Sum.inr.inj q)
  rw [zGN h,zGN e]
theorem zDF (a:Int) (b:Str):decide ((Sum.inl a:Key)=Sum.inr b)=false:=zGN (fun q=>nomatch q)
theorem zDE (a:Str) (b:Int):decide ((Sum.inr a:Key)=Sum.inl b)=false:=zGN (fun q=>nomatch q)
def y9 (prog:Program) (w:World):PySem.KeyKind prog w Key where
 is:=t7
 hash:=keyH w
 inj:=fun v a b ha hb=>by
  rcases xK ha with ⟨i,t,rfl,rfl⟩ | ⟨x,t,rfl,rfl⟩
  ·rcases xK hb with ⟨j,u,rfl,e⟩ | ⟨y,u,rfl,e⟩
   ·injection e with e1 _;rw [e1]
   ·exact nomatch e
  ·rcases xK hb with ⟨j,u,rfl,e⟩ | ⟨y,u,rfl,e⟩
   ·exact nomatch e
   ·injection e with e1 _;rw [e1]
 byValue:=fun k v h=>by
  rcases xK h with ⟨i,t,rfl,rfl⟩ | ⟨x,t,rfl,rfl⟩ <;> rfl
 pyHash:=fun hv h=>by
  rcases xK hv with ⟨i,t,rfl,rfl⟩ | ⟨x,t,rfl,rfl⟩
  ·exact wpAny_pyHash_int h
  ·exact wpAny_pyHash_str h
 eqBool:=fun hu hv h=>by
  rcases xK hu with ⟨i,t,rfl,rfl⟩ | ⟨x,t,rfl,rfl⟩
  ·rcases xK hv with ⟨j,u,rfl,rfl⟩ | ⟨y,u,rfl,rfl⟩
   ·rw [zDG] at h;exact wpAny_eqBool_int h
   ·rw [zDF] at h;exact SeqAt.EqAt.int_str i t y u _ _ _ _ h
  ·rcases xK hv with ⟨j,u,rfl,rfl⟩ | ⟨y,u,rfl,rfl⟩
   ·rw [zDE] at h;exact SeqAt.EqAt.str_int x t j u _ _ _ _ h
   ·rw [zDD] at h;exact wpAny_eqBool_str h
 «strs»:=fun k x t v h=>by
  rcases xK h with ⟨i,u,rfl,e⟩ | ⟨y,u,rfl,e⟩
  ·exact nomatch e
  ·injection e with e1 _
   subst e1
   cases v <;> rfl
theorem m6 (prog:Program) (w:World) (i:Int) (t:Tok):(y9 prog w).is (.inl i) (.int i t)=true:=gF i t
theorem m5 (prog:Program) (w:World) (x:Str) (t:Tok):(y9 prog w).is (.inr x) (.str x t)=true:=gE x t
end L2
namespace L2
open PySem PySem.Spec PyProof.Rows
inductive V where
 | non | bl (b:Bool) | int (i:Int) | str (x:Str) | byt (b:Array UInt8) | flt (b:UInt64) | ref (a:Addr) | ty (n:String)
 deriving DecidableEq
def yM:V->Value->Prop
 | .non,u=>u=Value.none
 | .bl b,u=>u=Value.bool b
 | .int i,u=>∃ t,u=Value.int i t
 | .str x,u=>∃ t,u=Value.str x t
 | .byt b,u=>∃ t,u=Value.bytes b t
 | .flt b,u=>∃ t,u=Value.float b t
 | .ref a,u=>u=Value.ref a
 | .ty n,u=>u=Value.type n
abbrev yD:List V->List Value->Prop:=Paired yM
theorem yD.length {xs:List V} {us:List Value} (r:yD xs us):xs.length=us.length:=Paired.length r
theorem yD.get:∀ {xs:List V} {us:List Value} {i:Nat} {x:V},yD xs us->xs[i]?=some x->∃ u,us[i]?=some u/\yM x u
 | _,_,_,_,.nil,e=>by simp at e
 | _,_,0,_,.cons r _,e=>by simp at e;subst e;exact ⟨_,rfl,r⟩
 | _,_,i + 1,x,.cons _ t,e=>by
  obtain ⟨u,h1,h2⟩:=yD.get (i:=i) (x:=x) t (by simpa using e)
  exact ⟨u,by simpa using h1,h2⟩
theorem yD.set {x:V} {u:Value} (r:yM x u):∀ {xs:List V} {us:List Value} (i:Nat),yD xs us->yD (xs.set i x) (us.set i u)
 | _,_,_,.nil=>.nil
 | _,_,0,.cons _ t=>.cons r t
 | _,_,i + 1,.cons q t=>.cons q (yD.set r i t)
theorem yD.append {xs ys:List V} {us ws:List Value} (h:yD xs us) (s:yD ys ws):yD (xs ++ ys) (us ++ ws):=by
 induction h with
 | nil=>exact s
 | cons r _ ih=>exact .cons r ih
theorem yD.take:∀ {xs:List V} {us:List Value} (n:Nat),yD xs us->yD (xs.take n) (us.take n)
 | _,_,0,_=>.nil
 | _,_,_ + 1,.nil=>.nil
 | _,_,n + 1,.cons r t=>.cons r (yD.take n t)
theorem yD.drop:∀ {xs:List V} {us:List Value} (n:Nat),yD xs us->yD (xs.drop n) (us.drop n)
 | _,_,0,r=>r
 | _,_,_ + 1,.nil=>.nil
 | _,_,n + 1,.cons _ t=>yD.drop n t
def u4:Option V->Option Value->Prop
 | some v,some u=>yM v u
 | none,none=>True
 | _,_=>False
def KV {κ:Type}:List (κ × V)->List (κ × Value)->Prop:=Paired fun (p:κ × V) (q:κ × Value)=>p.1=q.1/\yM p.2 q.2
def kV:Key->V
 | .inl i=>.int i
 | .inr x=>.str x
inductive HO where
 | lst (xs:List V)
 | tup (xs:List V)
 | dK (kvs:List (Key × V)) | dT (kvs:List (List Key × V))
 | set (S:Int->Bool) (n:Nat)
 | ins (C dx:Addr) (fs:List (Str × V))
 | own (x:Addr)
 | xd (fs:List (Str × V))
 | met (f x:Addr)
 | rng (lo hi:Int)
 | frz (o:Obj) (u:HO)
 | tbl (ps:Array Value)
 | ext (φ:Heap->Prop)
abbrev Hp:=Addr->Option HO
def upd (H:Hp) (a:Addr) (o:HO):Hp:=fun b=>if b=a then some o else H b
theorem zB {H:Hp} {a:Addr} {o:HO}:upd H a o a=some o:=by unfold upd;rw [if_pos rfl]
theorem zI {H:Hp} {a b:Addr} {o:HO} (h:b ≠ a):upd H a o b=H b:=by unfold upd;rw [if_neg h]
theorem vP {H:Hp} {a:Addr} {o u:HO}:upd (upd H a o) a u=upd H a u:=by
 funext b;unfold upd;split <;> rfl
theorem xO {H:Hp} {a b:Addr} {o u:HO} (h:H a=some o) (h':H b=some u) (d:o ≠ u):a ≠ b:=by
 intro e;subst e;rw [h] at h';exact d (zGE h')
theorem zH {H:Hp} {a b:Addr} {o:HO} (h:H a=some o) (h':H b=none):a ≠ b:=by
 intro e;subst e;rw [h] at h';cases h'
section
variable (P:Program) (w:World)
def xF (H:Hp) (h:Heap) (a:Addr):HO->Prop
 | .lst xs=>xs.length <= sizeLine/\∃ (its:List Value) (n:Nat),yD xs its/\h.get? a=some { cls:=.type "list",data:=.seq its.toArray n }
 | .tup xs=>xs.length <= sizeLine/\∃ its:List Value,yD xs its/\IsTup h a its.toArray
 | .dK kvs=>kvs.length <= sizeLine/\(a == sysModules)=false/\∃ vs,KV kvs vs/\h.DictOf (y9 P w) a vs
 | .dT kvs=>kvs.length <= sizeLine/\(a == sysModules)=false/\∃ xs:List (List Key × Addr × Value),
   Paired (fun (p:List Key × V) (q:List Key × Addr × Value)=>p.1=q.1/\H q.2.1=some (.tup (p.1.map kV))/\yM p.2 q.2.2) kvs xs /\
   ∃ o es ep,h.get? a=some o/\o.ExactDict/\o.data=.dict es ep/\es.toList=xs.map (entryOfKey (tupleKind (y9 P w)))/\(xs.map (·.1)).Nodup
 | .set S n=>h.SetOf (intKind P w) a S n
 | .ins C dx fs=>H dx=some (.own a)/\fs.length <= 1000/\dx ≠ a/\h.get? a=some (PySem.W.instObj C dx) /\
   ∃ mA,h.Ns1 dx mA/\(∀ f,u4 (fs.lookup f) (mA f))/\PySem.Within mA (fs.map (·.1))
 | .own _=>∃ o,h.get? a=some o
 | .xd fs=>∃ mA,h.Ns1 a mA/\∀ f,u4 (fs.lookup f) (mA f)
 | .rng lo hi=>∃ t u v,h.get? a=some { cls:=.type "range",data:=.fields #[.int lo t,.int hi u,.int 1 v] }
 | .frz o u=>h.get? a=some o/\xF H h a u
 | .tbl ps=>h.get? a=some { cls:=.none,data:=.fields ps }
 | .met f x=>h.get? a=some (PySem.W.methodObj (.ref f) (.ref x))
 | .ext φ=>φ h/\(∃ o,h.get? a=some o)/\∀ h1 h2:Heap,φ h1->(∀ o,h1.get? a=some o->h2.get? a=some o)->φ h2
def HOk (H:Hp) (h:Heap):Prop:=∀ a o,H a=some o->xF P w H h a o
end
section
variable {P:Program} {w:World} {H H':Hp} {h h':Heap} {a:Addr} {o:HO}
theorem xF.lt (x:xF P w H h a o):a < h.objs.size:=by
 cases o with
 | lst xs=>obtain ⟨_,_,_,_,e⟩:=x;exact Heap.lt_size e
 | tup xs=>obtain ⟨_,_,_,p⟩:=x;exact p.lt
 | dK kvs=>obtain ⟨_,_,_,_,o,_,_,e,_⟩:=x;exact Heap.lt_size e
 | dT kvs=>obtain ⟨_,_,_,_,o,_,_,e,_⟩:=x;exact Heap.lt_size e
 | set S n=>obtain ⟨o,_,_,_,e,_⟩:=x;exact Heap.lt_size e
 | ins C dx fs=>obtain ⟨_,_,_,e,_⟩:=x;exact Heap.lt_size e
 | own y=>obtain ⟨_,e⟩:=x;exact Heap.lt_size e
 | xd fs=>obtain ⟨_,⟨_,_,_,e,_⟩,_⟩:=x;exact Heap.lt_size e
 | rng lo hi=>obtain ⟨_,_,_,e⟩:=x;exact Heap.lt_size e
 | frz ob u=>obtain ⟨e,_⟩:=x;exact Heap.lt_size e
 | tbl ps=>exact Heap.lt_size (show h.get? a=some _ from x)
 | met f y=>exact Heap.lt_size (show h.get? a=some _ from x)
 | ext φ=>obtain ⟨_,⟨_,e⟩,_⟩:=x;exact Heap.lt_size e
theorem Paired.mapP {α β:Type} {F G:α->β->Prop} {l₁:List α} {l₂:List β} (h:Paired F l₁ l₂) (f:∀ a b,F a b->G a b):Paired G l₁ l₂:=by
 induction h with
 | nil=>exact .nil
 | cons r _ ih=>exact .cons (f _ _ r) ih
theorem xF.stay (x:xF P w H h a o) (k:∀ b u,(b=a \/ H b=some (.own a))->h.get? b=some u->h'.get? b=some u)
  (ho:∀ b,H b=some (.own a)->H' b=some (.own a)) (ht:∀ b xs,H b=some (.tup xs)->H' b=some (.tup xs)):xF P w H' h' a o:=by
 induction o with
 | lst xs=>obtain ⟨z,its,n,r,e⟩:=x;exact ⟨z,its,n,r,k _ _ (.inl rfl) e⟩
 | tup xs=>obtain ⟨z,its,r,ob,e,c⟩:=x;exact ⟨z,its,r,ob,k _ _ (.inl rfl) e,c⟩
 | dK kvs=>obtain ⟨z,y,vs,r,ob,es,ep,e,c⟩:=x;exact ⟨z,y,vs,r,ob,es,ep,k _ _ (.inl rfl) e,c⟩
 | dT kvs=>
  obtain ⟨z,y,xs,r,ob,es,ep,e,c⟩:=x
  exact ⟨z,y,xs,Paired.mapP r fun p q z=>⟨z.1,ht _ _ z.2.1,z.2.2⟩,ob,es,ep,k _ _ (.inl rfl) e,c⟩
 | set S n=>obtain ⟨ob,es,ep,t,e,c⟩:=x;exact ⟨ob,es,ep,t,k _ _ (.inl rfl) e,c⟩
 | ins C dx fs=>
  obtain ⟨d,z,ne,e,mA,⟨od,es,ep,e2,c⟩,r⟩:=x
  exact ⟨ho _ d,z,ne,k _ _ (.inl rfl) e,mA,⟨od,es,ep,k _ _ (.inr d) e2,c⟩,r⟩
 | own y=>obtain ⟨ob,e⟩:=x;exact ⟨ob,k _ _ (.inl rfl) e⟩
 | xd fs=>obtain ⟨mA,⟨od,es,ep,e,c⟩,r⟩:=x;exact ⟨mA,⟨od,es,ep,k _ _ (.inl rfl) e,c⟩,r⟩
 | rng lo hi=>obtain ⟨t,u,v,e⟩:=x;exact ⟨t,u,v,k _ _ (.inl rfl) e⟩
 | frz ob u ih=>obtain ⟨e,q⟩:=x;exact ⟨k _ _ (.inl rfl) e,ih q⟩
 | tbl ps=>
  have e:h.get? a=some { cls:=.none,data:=.fields ps }:=x
  show h'.get? a=some { cls:=.none,data:=.fields ps }
  exact k a _ (.inl rfl) e
 | met f y=>
  have e:h.get? a=some (PySem.W.methodObj (.ref f) (.ref y)):=x
  show h'.get? a=some (PySem.W.methodObj (.ref f) (.ref y))
  exact k a _ (.inl rfl) e
 | ext φ=>obtain ⟨p,⟨o,e⟩,st⟩:=x;exact ⟨st _ _ p fun o q=>k _ _ (.inl rfl) q,⟨o,k _ _ (.inl rfl) e⟩,st⟩
theorem HOk.lt (x:HOk P w H h) (e:H a=some o):a < h.objs.size:=(x a o e).lt
theorem HOk.fresh (x:HOk P w H h) (e:h.objs.size <= a):H a=none:=by
 cases q:H a with
 | none=>rfl
 | some u=>exact absurd (zGT (x.lt q) e) (Nat.lt_irrefl _)
theorem HOk.kept (x:HOk P w H h) (k:∀ b u,h.get? b=some u->h'.get? b=some u):HOk P w H h':=fun a o e=>
 (x a o e).stay (fun b u _ q=>k b u q) (fun _ q=>q) fun _ _ q=>q
theorem HOk.laid (x:HOk P w H h) (k:∀ b u,h.get? b=some u->h'.get? b=some u) (hp:h.objs.size <= a) (new:xF P w (upd H a o) h' a o):HOk P w (upd H a o) h':=fun b u e=>by
 have hn:=x.fresh hp
 by_cases hb:b=a
 ·subst hb;rw [zB] at e;cases e;exact new
 ·rw [zI hb] at e
  exact (x b u e).stay (fun c v _ q=>k c v q) (fun c q=>by rw [zI (zH q hn)];exact q) fun c xs q=>by rw [zI (zH q hn)];exact q
end
def Rd (H:Hp) (a:Addr) (u:HO):Prop:=H a=some u \/ ∃ o,H a=some (.frz o u)
theorem Rd.of {H:Hp} {a:Addr} {u:HO} (h:H a=some u):Rd H a u:=.inl h
theorem Rd.ok {P:Program} {w:World} {H:Hp} {h:Heap} {a:Addr} {u:HO} (r:Rd H a u) (x:HOk P w H h):xF P w H h a u:=by
 rcases r with r | ⟨o,r⟩
 ·exact x a u r
 ·obtain ⟨_,q⟩:=x a _ r
  exact q
def Mut:Option HO->Prop
 | some (.lst _)=>True
 | some (.dK _)=>True
 | some (.dT _)=>True
 | some (.set _ _)=>True
 | some (.ins _ _ _)=>True
 | some (.ext _)=>True
 | _=>False
section
variable {P:Program} {w:World} {H:Hp} {h h':Heap} {x e:Addr} {o':HO}
theorem HOk.write (ok:HOk P w H h) (mu:Mut (H x)) (he:e=x \/ H e=some (.own x)) (k:∀ b u,b ≠ e->h.get? b=some u->h'.get? b=some u) (heo:∃ u,h'.get? e=some u)
  (new:xF P w (upd H x o') h' x o'):HOk P w (upd H x o') h':=fun b u q=>by
 have nown:∀ c y,H c=some (.own y)->c ≠ x:=fun c y r z=>by subst z;rw [r] at mu;exact mu
 have ntup:∀ c xs,H c=some (.tup xs)->c ≠ x:=fun c xs r z=>by subst z;rw [r] at mu;exact mu
 by_cases hb:b=x
 ·subst hb;rw [zB] at q;cases q;exact new
 ·rw [zI hb] at q
  by_cases hbe:b=e
  ·have q':H b=some (.own x):=by
    rcases he with z | z
    ·exact absurd (hbe.trans z) hb
    ·rw [hbe];exact z
   rw [q] at q';cases q'
   obtain ⟨v,hv⟩:=heo
   exact ⟨v,by rw [hbe];exact hv⟩
  ·refine (ok b u q).stay (fun c v hc r=>k c v ?_ r) (fun c r=>by rw [zI (nown c b r)];exact r) fun c xs r=>by rw [zI (ntup c xs r)];exact r
   rcases hc with rfl | hc
   ·exact hbe
   ·rintro rfl
    rcases he with z | z
    ·exact nown c b hc z
    ·rw [hc] at z;cases z;exact hb rfl
end
structure Un (fs ex:List Addr) (H H':Hp) (h h':Heap):Prop where
 keep:∀ b o,h.get? b=some o->H b=none->b ∉ fs->b ∉ ex->h'.get? b=some o
 slot:∀ b o,h.get? b=some o->H b=none->b ∈ fs->b ∉ ex->∃ sl,h'.get? b=some { o with slots:=sl }
 free:∀ b o,h.get? b=some o->H b=none->b ∉ ex->H' b=none
 there:∀ b o,h.get? b=some o->b ∉ ex->∃ o',h'.get? b=some o'
 tups:∀ b xs,H b=some (.tup xs)->H' b=some (.tup xs)
 frzs:∀ b o u,H b=some (.frz o u)->H' b=some (.frz o u)
 tbls:∀ b ps,H b=some (.tbl ps)->∃ more,H' b=some (.tbl (ps ++ more))
section
variable {fs fs' ex ex':List Addr} {H H1 H2:Hp} {h h1 h2 h':Heap} {a x e:Addr} {o:HO}
theorem Un.any (u:Un fs ex H H1 h h1) {b:Addr} {ob:Obj} (q:h.get? b=some ob) (n:H b=none) (hx:b ∉ ex):∃ sl,h1.get? b=some { ob with slots:=sl }:=by
 by_cases hb:b ∈ fs
 ·exact u.slot b ob q n hb hx
 ·exact ⟨ob.slots,u.keep b ob q n hb hx⟩
theorem Un.kept (k:∀ b u,h.get? b=some u->h'.get? b=some u):Un fs ex H H h h':=
 ⟨fun b ob q _ _ _=>k b ob q,fun b ob q _ _ _=>⟨ob.slots,k b ob q⟩,fun _ _ _ n _=>n,fun b ob q _=>⟨ob,k b ob q⟩,fun _ _ q=>q,fun _ _ _ q=>q,fun _ ps q=>⟨#[],by rw [q];simp⟩⟩
theorem Un.refl:Un fs ex H H h h:=Un.kept fun _ _ q=>q
theorem Un.laid (k:∀ b u,h.get? b=some u->h'.get? b=some u) (hp:h.objs.size <= a) (hn:H a=none):Un fs ex H (upd H a o) h h' where
 keep:=fun b u q _ _ _=>k b u q
 slot:=fun b u q _ _ _=>⟨u.slots,k b u q⟩
 free:=fun b u q n _=>by rw [zI (zGY (zGT (Heap.lt_size q) hp))];exact n
 there:=fun b u q _=>⟨u,k b u q⟩
 tups:=fun b xs q=>by rw [zI (zH q hn)];exact q
 frzs:=fun b u xs q=>by rw [zI (zH q hn)];exact q
 tbls:=fun b ps q=>⟨#[],by rw [zI (zH q hn),q];simp⟩
theorem Un.write (mu:Mut (H x)) (he:e=x \/ H e=some (.own x)) (k:∀ b u,b ≠ e->h.get? b=some u->h'.get? b=some u) (heo:∃ u,h'.get? e=some u):Un fs ex H (upd H x o) h h':=by
 have hx:∀ b,H b=none->b ≠ x:=fun b n z=>by subst z;rw [n] at mu;exact mu
 have hb:∀ b,H b=none->b ≠ e:=fun b n z=>by
  subst z
  rcases he with r | r
  ·exact hx b n r
  ·rw [n] at r;cases r
 have hm:∀ b u,H b=some u->¬ Mut (some u)->b ≠ x:=fun b u q nm z=>by subst z;rw [q] at mu;exact nm mu
 refine ⟨fun b u q n _ _=>k b u (hb b n) q,fun b u q n _ _=>⟨u.slots,k b u (hb b n) q⟩,fun b u q n _=>by rw [zI (hx b n)];exact n,fun b u q _=>?_,
  fun b xs q=>by rw [zI (hm b _ q fun z=>z)];exact q,fun b u xs q=>by rw [zI (hm b _ q fun z=>z)];exact q,fun b ps q=>⟨#[],by rw [zI (hm b _ q fun z=>z),q];simp⟩⟩
 by_cases hbe:b=e
 ·subst hbe;exact heo
 ·exact ⟨u,k b u hbe q⟩
end
def trk (h:Heap) (H:Hp):List Addr:=(List.range h.objs.size).filter fun a=>(H a).isSome
def nE (h:Heap) (H:Hp):Heap:=PySem.W.hideAll h (trk h H)
theorem gK (h:Heap) (H:Hp):(nE h H).objs.size=h.objs.size:=PySem.W.hideAll_size _ _
theorem cD {h:Heap} {H:Hp} {b:Addr} {o:Obj} (e:h.get? b=some o) (n:H b=none):(nE h H).get? b=some o:=
 PySem.W.hideAll_get _ e fun hm=>by
  have q:(H b).isSome=true:=(List.mem_filter.mp hm).2
  rw [n] at q;simp at q
theorem aW {h:Heap} {H:Hp} {b:Addr} {o:Obj} (e:(nE h H).get? b=some o):h.get? b=some o/\H b=none:=by
 have e':h.get? b=some o:=PySem.W.of_hideAll (trk h H) e
 refine ⟨e',?_⟩
 cases q:H b with
 | none=>rfl
 | some x=>
  have hm:b ∈ trk h H:=List.mem_filter.mpr ⟨List.mem_range.mpr (Heap.lt_size e'),by simp [q]⟩
  have z:(nE h H).get? b=none:=PySem.W.hideAll_none (trk h H) hm
  rw [z] at e;cases e
end L2
namespace L2
open PySem PySem.Spec PyProof.Rows
structure Mod (K:PySem.W.Frag) (mg:Str->Option Value) (base:Heap):Prop where
 kin:K.In base
 glob:base.Ns mainGlobals mg
 blt:∃ mb,base.Ns builtinsNs mb/\∀ x:Str,x ≠ "__name__"->mb x=bootBuiltins x
 nolimit:base.NoLimit
structure Cx where
 prog:Program
 w:World
 K:PySem.W.Frag
 mg:Str->Option Value
 base:Heap
 A:Around
 N:List Str
 s₀:Shared
 H₀:Hp
 env:Env
 outer:List Env
 stack:List Env
 ex:List Addr
 fn:Str->Bool
 calm:Bool
 pn:List (Addr × Obj)
 xe:Value->Shared->Prop
def frs (l:List Env):List Addr:=l.filterMap (·.frame)
abbrev Cx.fs (X:Cx):List Addr:=frs X.outer
def Vis (sc:Scope) (x:Str):Prop:=sc.names.lookup x=some .local \/ sc.names.lookup x=some .cell \/ sc.names.lookup x=some .free
def Loc (sc:Scope) (x:Str):Prop:=sc.names.lookup x=some .local \/ sc.names.lookup x=some .cell
def Look (env:Env) (h:Heap) (m:Str->Option Value) (x:Str) (u:Value):Prop:=
 (env.kindOf x=some .local/\m x=some u) \/ ((env.kindOf x=some .cell \/ env.kindOf x=some .free)/\∃ c,env.cells.lookup x=some c/\h.IsCell c (some u))
structure Cx.Ok (X:Cx):Prop where
 mod:Mod X.K X.mg X.base
 kind:X.env.scope.kind=.function
 glob:X.env.globals=mainGlobals
 blt:X.env.builtins=builtinsNs
 above:X.s₀.heap.objs.size <= X.env.locals
 inj:∀ x y c,X.env.cells.lookup x=some c->X.env.cells.lookup y=some c->x=y
 has:∀ x,(X.env.kindOf x=some .cell \/ X.env.kindOf x=some .free)->∃ c,X.env.cells.lookup x=some c
 cab:∀ x c,X.fn x=true->X.env.cells.lookup x=some c->X.s₀.heap.objs.size <= c
 hd:X.calm=true->X.A.handled=none
 frames:X.A.frames=some X.stack
 stk:X.stack=X.outer \/ (X.stack=X.env :: X.outer/\X.env.frame=some X.env.locals)
 exf:∀ b ∈ X.ex,b ≠ X.env.locals/\∀ x c,X.env.cells.lookup x=some c->c ≠ b
 bs:∀ b o,X.base.get? b=some o->X.s₀.heap.get? b=some o/\X.H₀ b=none
 bsz:X.base.objs.size <= X.s₀.heap.objs.size
 noex:∀ b o,X.base.get? b=some o->b ∉ X.ex
 exfs:∀ b ∈ X.ex,b ∉ X.fs
 funs:X.s₀.heap.FunFrames X.base X.outer
 frf:∀ b ∈ X.fs,X.H₀ b=none
structure Inv (X:Cx) (pins:List (Addr × Obj)) (σ:List (Option V)) (H:Hp) (s:Shared):Prop where
 ok:X.Ok
 os:s.os=X.s₀.os
 bare:AllBare s.gens
 base:Un X.fs X.ex X.H₀ H X.s₀.heap s.heap
 loc:∃ m,s.heap.Ns X.env.locals m/\∀ (i:Nat) (x:Str) (v:V),X.N[i]?=some x->σ[i]?=some (some v)->Vis X.env.scope x->∃ u,yM v u/\Look X.env s.heap m x u
 cell:∀ x c,X.env.cells.lookup x=some c->∃ v,s.heap.IsCell c v
 free:H X.env.locals=none
 freeC:∀ x c,X.env.cells.lookup x=some c->H c=none
 pin:∀ p ∈ X.pn ++ pins,s.heap.get? p.1=some p.2/\H p.1=none/\p.1 ≠ X.env.locals/\p.1 ∉ X.fs/\∀ v,p.2.data ≠ .cell v
 hok:HOk X.prog X.w H s.heap
 len:σ.length=X.N.length
section
variable {X:Cx} {pins:List (Addr × Obj)} {σ:List (Option V)} {H H':Hp} {s:Shared} {h':Heap}
theorem Cx.Ok.nofr (ok:X.Ok) {b:Addr} {o:Obj} (e:X.base.get? b=some o):b ∉ X.fs:=fun hb=>by
 have:=(ok.funs.mem hb).1
 rw [e] at this;cases this
theorem Inv.bs (I:Inv X pins σ H s):∀ b o,X.base.get? b=some o->s.heap.get? b=some o/\H b=none:=fun b o e=>
 ⟨I.base.keep b o (I.ok.bs b o e).1 (I.ok.bs b o e).2 (I.ok.nofr e) (I.ok.noex b o e),I.base.free b o (I.ok.bs b o e).1 (I.ok.bs b o e).2 (I.ok.noex b o e)⟩
theorem Inv.bk (I:Inv X pins σ H s):∀ b o,X.base.get? b=some o->s.heap.get? b=some o:=fun b o e=>(I.bs b o e).1
theorem Inv.mod (I:Inv X pins σ H s):Mod X.K X.mg X.base:=I.ok.mod
theorem Inv.kIn (I:Inv X pins σ H s):X.K.In s.heap:=I.ok.mod.kin.keeps I.bk
theorem Inv.lt (I:Inv X pins σ H s):X.env.locals < s.heap.objs.size:=let ⟨_,hn,_⟩:=I.loc;hn.lt
theorem Inv.sz (I:Inv X pins σ H s):X.s₀.heap.objs.size <= s.heap.objs.size:=zGI I.ok.above (Nat.le_of_lt I.lt)
theorem Inv.nofs (I:Inv X pins σ H s) {a:Addr} (h:s.heap.objs.size <= a):a ∉ X.fs:=fun hb=>by
 obtain ⟨_,o,ho,_⟩:=I.ok.funs.mem hb
 exact absurd (zGT (Heap.lt_size ho) (zGI I.sz h)) (Nat.lt_irrefl _)
theorem Inv.cne (I:Inv X pins σ H s):∀ x c,X.env.cells.lookup x=some c->c ≠ X.env.locals:=fun x c e z=>by
 obtain ⟨v,o,ho,hd⟩:=I.cell x c e
 obtain ⟨m,⟨o',es,ep,ho',hd',_⟩,_⟩:=I.loc
 rw [z,ho'] at ho;cases ho;rw [hd'] at hd;cases hd
theorem Inv.funs (I:Inv X pins σ H s):s.heap.FunFrames X.base X.outer:=by
 have all:∀ (l:List Env),(∀ b ∈ frs l,b ∈ X.fs)->X.s₀.heap.FunFrames X.base l->s.heap.FunFrames X.base l:=by
  intro l
  induction l with
  | nil=>intro _ _;trivial
  | cons env r ih=>
   intro hs hl
   obtain ⟨hk,⟨L,o,hf,hn,ho,hd⟩,hr⟩:=hl
   have hL:L ∈ X.fs:=hs L (by unfold frs;rw [List.filterMap_cons,hf];exact zG0)
   obtain ⟨sl,e⟩:=I.base.slot L o ho (I.ok.frf L hL) hL fun z=>I.ok.exfs L z hL
   exact ⟨hk,⟨L,_,hf,hn,e,hd⟩,ih (fun b hb=>hs b (by unfold frs;rw [List.filterMap_cons,hf];exact zGK _ hb)) hr⟩
 exact all X.outer (fun _ hb=>hb) I.ok.funs
theorem Inv.stack (I:Inv X pins σ H s):s.heap.FunFrames X.base X.stack:=by
 rcases I.ok.stk with e | ⟨e,hf⟩
 ·rw [e];exact I.funs
 ·rw [e]
  obtain ⟨m,hn,_⟩:=I.loc
  refine .cons (by rw [I.ok.kind];decide) hf hn ?_ I.funs
  exact Heap.get?_none_of_le (zGI I.ok.bsz I.ok.above)
theorem Inv.stkSub (I:Inv X pins σ H s):∀ b ∈ frs X.stack,b ∈ X.env.locals :: X.fs:=fun b hb=>by
 rcases I.ok.stk with e | ⟨e,hf⟩
 ·rw [e] at hb;exact zGK _ hb
 ·rw [e] at hb
  unfold frs at hb
  rw [List.filterMap_cons,hf] at hb
  exact hb
theorem Inv.stkFree (I:Inv X pins σ H s):∀ b ∈ frs X.stack,H b=none:=fun b hb=>by
 rcases List.mem_cons.mp (I.stkSub b hb) with e | hb
 ·rw [e];exact I.free
 ·obtain ⟨_,o,ho,_⟩:=I.ok.funs.mem hb
  exact I.base.free b o ho (I.ok.frf b hb) fun z=>I.ok.exfs b z hb
theorem Inv.step {g':Array GenState} {t':Nat} {d':Drawn} {ch:List Addr} (I:Inv X pins σ H s)
  (hch:∀ b ∈ ch,(b ∈ X.ex \/ X.s₀.heap.objs.size <= b)/\b ≠ X.env.locals/\(∀ x c,X.env.cells.lookup x=some c->c ≠ b)/\∀ p ∈ X.pn ++ pins,p.1 ≠ b)
  (keep:∀ b o,b ≠ X.env.locals->b ∉ X.fs->b ∉ ch->s.heap.get? b=some o->H b=none->h'.get? b=some o)
  (slot:∀ b o,b ≠ X.env.locals->b ∈ X.fs->b ∉ ch->s.heap.get? b=some o->H b=none->∃ sl,h'.get? b=some { o with slots:=sl }) (free:∀ b o,b ∉ ch->s.heap.get? b=some o->H b=none->H' b=none)
  (there:∀ b o,b ∉ ch->s.heap.get? b=some o->∃ o',h'.get? b=some o')
  (tups:∀ b xs,H b=some (.tup xs)->H' b=some (.tup xs)) (frzs:∀ b o u,H b=some (.frz o u)->H' b=some (.frz o u)) (tbls:∀ b ps,H b=some (.tbl ps)->∃ more,H' b=some (.tbl (ps ++ more)))
  (ns:∀ m,s.heap.Ns X.env.locals m->h'.Ns X.env.locals m) (hok:HOk X.prog X.w H' h') (hg:AllBare g') :
  Inv X pins σ H' { s with heap:=h',gens:=g',drawn:=d',toks:=t' }:=by
 have neL:∀ b o,X.s₀.heap.get? b=some o->b ≠ X.env.locals:=fun b o e=>zGY (zGT (Heap.lt_size e) I.ok.above)
 have neC:∀ b o,X.s₀.heap.get? b=some o->b ∉ X.ex->b ∉ ch:=fun b o e hx hb=>by
  rcases (hch b hb).1 with z | z
  ·exact hx z
  ·exact absurd (zGT (Heap.lt_size e) z) (Nat.lt_irrefl _)
 have cellK:∀ x c,X.env.cells.lookup x=some c->∀ v,s.heap.IsCell c v->h'.IsCell c v:=fun x c e v ⟨o,ho,hd⟩=>by
  have nch:c ∉ ch:=fun z=>(hch c z).2.2.1 x c e rfl
  by_cases hc:c ∈ X.fs
  ·obtain ⟨sl,q⟩:=slot c o (I.cne x c e) hc nch ho (I.freeC x c e)
   exact ⟨_,q,hd⟩
  ·exact ⟨o,keep c o (I.cne x c e) hc nch ho (I.freeC x c e),hd⟩
 refine ⟨I.ok,I.os,hg,⟨fun b o e n hb hx=>?_,fun b o e n hb hx=>?_,fun b o e n hx=>?_,fun b o e hx=>?_,fun b xs e=>tups b xs (I.base.tups b xs e),fun b o xs e=>frzs b o xs (I.base.frzs b o xs e),fun b ps e=>?_⟩,?_,fun x c e=>?_,?_,fun x c e=>?_,fun p hp=>?_,hok,I.len⟩
 ·exact keep b o (neL b o e) hb (neC b o e hx) (I.base.keep b o e n hb hx) (I.base.free b o e n hx)
 ·obtain ⟨sl,e1⟩:=I.base.slot b o e n hb hx
  obtain ⟨sl',e2⟩:=slot b _ (neL b o e) hb (neC b o e hx) e1 (I.base.free b o e n hx)
  exact ⟨sl',e2⟩
 ·obtain ⟨o',e1⟩:=I.base.there b o e hx
  exact free b o' (neC b o e hx) e1 (I.base.free b o e n hx)
 ·obtain ⟨o',e1⟩:=I.base.there b o e hx
  exact there b o' (neC b o e hx) e1
 ·obtain ⟨m1,e1⟩:=I.base.tbls b ps e
  obtain ⟨m2,e2⟩:=tbls b _ e1
  exact ⟨m1 ++ m2,by rw [e2,Array.append_assoc]⟩
 ·obtain ⟨m,hn,hl⟩:=I.loc
  refine ⟨m,ns m hn,fun i x v e1 e2 e3=>?_⟩
  obtain ⟨u,r,l⟩:=hl i x v e1 e2 e3
  refine ⟨u,r,?_⟩
  rcases l with l | ⟨k,c,e,z⟩
  ·exact .inl l
  ·exact .inr ⟨k,c,e,cellK x c e _ z⟩
 ·obtain ⟨v,z⟩:=I.cell x c e
  exact ⟨v,cellK x c e v z⟩
 ·obtain ⟨m,⟨o,_,_,ho,_⟩,_⟩:=I.loc
  exact free _ o (fun z=>(hch _ z).2.1 rfl) ho I.free
 ·obtain ⟨v,o,ho,hd⟩:=I.cell x c e
  exact free c o (fun z=>(hch c z).2.2.1 x c e rfl) ho (I.freeC x c e)
 ·obtain ⟨e,n,ne,nf,d⟩:=I.pin p hp
  have nch:p.1 ∉ ch:=fun z=>(hch p.1 z).2.2.2 p hp rfl
  exact ⟨keep p.1 p.2 ne nf nch e n,free p.1 p.2 nch e n,ne,nf,d⟩
theorem Inv.un {t':Nat} (I:Inv X pins σ H s) (u:Un X.fs [] H H' s.heap h') (hok:HOk X.prog X.w H' h'):Inv X pins σ H' { s with heap:=h',toks:=t' }:=by
 obtain ⟨m,⟨o,es,ep,ho,r⟩,_⟩:=id I.loc
 obtain ⟨sl,hL⟩:=u.any ho I.free (by simp)
 exact I.step (g':=s.gens) (d':=s.drawn) (ch:=[]) (fun _ z=>nomatch z) (fun b o _ hb _ e n=>u.keep b o e n hb (by simp)) (fun b o _ hb _ e n=>u.slot b o e n hb (by simp)) (fun b o _ e n=>u.free b o e n (by simp)) (fun b o _ e=>u.there b o e (by simp)) u.tups u.frzs u.tbls (fun m' hm=>by
  obtain ⟨o',es',ep',ho',r'⟩:=hm
  rw [ho] at ho';cases ho'
  exact ⟨_,es',ep',hL,r'⟩) hok I.bare
theorem Inv.call {g':Array GenState} {t':Nat} {d':Drawn} {ch:List Addr} (I:Inv X pins σ H s) (u:Un (frs X.stack) ch H H' s.heap h') (hok:HOk X.prog X.w H' h') (hg:AllBare g')
  (hch:∀ b ∈ ch,(b ∈ X.ex \/ X.s₀.heap.objs.size <= b)/\b ≠ X.env.locals/\(∀ x c,X.env.cells.lookup x=some c->c ≠ b)/\∀ p ∈ X.pn ++ pins,p.1 ≠ b) :
  Inv X pins σ H' { s with heap:=h',gens:=g',drawn:=d',toks:=t' }:=by
 obtain ⟨m,⟨o,es,ep,ho,r⟩,_⟩:=id I.loc
 obtain ⟨sl,hL⟩:=u.any ho I.free fun z=>(hch _ z).2.1 rfl
 exact I.step (ch:=ch) hch (fun b o hL hb hc e n=>u.keep b o e n (fun z=>(List.mem_cons.mp (I.stkSub b z)).elim hL hb) hc) (fun b o _ _ hc e n=>u.any e n hc) (fun b o hc e n=>u.free b o e n hc) (fun b o hc e=>u.there b o e hc) u.tups u.frzs u.tbls (fun m' hm=>by
  obtain ⟨o',es',ep',ho',r'⟩:=hm
  rw [ho] at ho';cases ho'
  exact ⟨_,es',ep',hL,r'⟩) hok hg
theorem Inv.turned {t':Nat} {it:Addr} (I:Inv X pins σ H s) (k:∀ b o,b ≠ it->s.heap.get? b=some o->h'.get? b=some o) (hn:H it=none) (hL:it ≠ X.env.locals)
  (h1:it ∈ X.ex \/ X.s₀.heap.objs.size <= it) (h2:∀ x c,X.env.cells.lookup x=some c->c ≠ it) (h3:∀ p ∈ X.pn ++ pins,p.1 ≠ it):Inv X pins σ H { s with heap:=h',toks:=t' }:=by
 have nit:∀ b u,H b=some u->b ≠ it:=fun b u e z=>by rw [z,hn] at e;cases e
 refine I.step (g':=s.gens) (d':=s.drawn) (ch:=[it]) (fun b hb=>?_) (fun b o _ _ hc e _=>k b o (fun z=>hc (by simp [z])) e) (fun b o _ _ hc e _=>⟨o.slots,k b o (fun z=>hc (by simp [z])) e⟩) (fun _ _ _ _ n=>n)
  (fun b o hc e=>⟨o,k b o (fun z=>hc (by simp [z])) e⟩) (fun _ _ e=>e) (fun _ _ _ e=>e) (fun b ps e=>⟨#[],by rw [e];simp⟩) (fun m hm=>?_) (fun b u e=>?_) I.bare
 ·have e:b=it:=by simpa using hb
  subst e
  exact ⟨h1,hL,h2,h3⟩
 ·obtain ⟨o,es,ep,ho,r⟩:=hm
  exact ⟨o,es,ep,k _ o (Ne.symm hL) ho,r⟩
 ·refine (I.hok b u e).stay (fun c v hc q=>k c v ?_ q) (fun _ q=>q) fun _ _ q=>q
  rcases hc with z | z
  ·rw [z];exact nit b u e
  ·exact nit c _ z
theorem Inv.tok (I:Inv X pins σ H s) (t:Nat):Inv X pins σ H { s with toks:=t }:=I.un (h':=s.heap) (t':=t) Un.refl I.hok
theorem Inv.kept {t':Nat} (I:Inv X pins σ H s) (k:∀ b u,s.heap.get? b=some u->h'.get? b=some u):Inv X pins σ H { s with heap:=h',toks:=t' }:=I.un (Un.kept k) (I.hok.kept k)
theorem Inv.laid {a:Addr} {o:HO} {t':Nat} (I:Inv X pins σ H s) (k:∀ b u,s.heap.get? b=some u->h'.get? b=some u) (hp:s.heap.objs.size <= a) (new:xF X.prog X.w (upd H a o) h' a o) :
  Inv X pins σ (upd H a o) { s with heap:=h',toks:=t' }:=I.un (Un.laid k hp (I.hok.fresh hp)) (I.hok.laid k hp new)
theorem Inv.write {x e:Addr} {o:HO} {t':Nat} (I:Inv X pins σ H s) (mu:Mut (H x)) (he:e=x \/ H e=some (.own x)) (k:∀ b u,b ≠ e->s.heap.get? b=some u->h'.get? b=some u) (heo:∃ u,h'.get? e=some u)
  (new:xF X.prog X.w (upd H x o) h' x o):Inv X pins σ (upd H x o) { s with heap:=h',toks:=t' }:=I.un (Un.write mu he k heo) (I.hok.write mu he k heo new)
theorem Inv.pins_of {pins':List (Addr × Obj)} (I:Inv X pins σ H s) (h:∀ p ∈ pins',s.heap.get? p.1=some p.2/\H p.1=none/\p.1 ≠ X.env.locals/\p.1 ∉ X.fs/\∀ v,p.2.data ≠ .cell v):Inv X pins' σ H s:=
 ⟨I.ok,I.os,I.bare,I.base,I.loc,I.cell,I.free,I.freeC,fun p hp=>(zGO.mp hp).elim (fun z=>I.pin p (List.mem_append_left _ z)) (h p),I.hok,I.len⟩
theorem mZ {N:List Str} (hN:N.Nodup) {i j:Nat} {x:Str} (a:N[i]?=some x) (b:N[j]?=some x):i=j:=by
 obtain ⟨h1,e1⟩:=zF9.mp a
 obtain ⟨h2,e2⟩:=zF9.mp b
 exact (List.getElem_inj hN).mp (e1.trans e2.symm)
theorem pJ {M:Model} {A:Around} {E:Value->Shared->Prop} {i:Nat} {x:Str} {v:V} {u:Value} {Q:Unit->Shared->Prop} (I:Inv X pins σ H s) (hN:X.N.Nodup) (hi:X.N[i]?=some x) (hx:Loc X.env.scope x) (r:yM v u)
  (h:∀ s',Inv X pins (σ.set i (some v)) H s'->(∃ a,Heap.SameBut a s.heap s'.heap/\(a=X.env.locals \/ X.env.cells.lookup x=some a))->Q () s') (hf:X.fn x=true \/ X.env.scope.names.lookup x=some .local:=by first | exact .inl rfl | exact .inr rfl | assumption):wpAny M A (storeName X.env x u) Q E s:=by
 obtain ⟨m,hn,hl⟩:=id I.loc
 have hcls:(X.env.scope.kind == .class || (X.env.scope.kind == .module && X.env.locals != X.env.globals))=false:=by rw [I.ok.kind];rfl
 have hiσ:i < σ.length:=by rw [I.len];exact (zF9.mp hi).1
 have cne:=I.cne
 have tracked:∀ {a:Addr} {h':Heap},(∃ o,s.heap.get? a=some o/\H a=none)->Heap.SameBut a s.heap h'->HOk X.prog X.w H h':=fun {a h'} ha hs b ob e=>by
  obtain ⟨_,_,hfree⟩:=ha
  refine (I.hok b ob e).stay (fun c w' hc q=>(hs.2 c ?_).trans q) (fun _ q=>q) fun _ _ q=>q
  rintro rfl
  rcases hc with rfl | hc
  ·rw [hfree] at e;cases e
  ·rw [hfree] at hc;cases hc
 rcases hx with hk | hk
 ·refine wpAny_storeName_local hk hn (fun h' hn' hs=>?_) hcls
  obtain ⟨oL,_,_,hoL,_⟩:=id hn
  refine h _ ⟨I.ok,I.os,I.bare,⟨fun b o e n hb hx=>?_,fun b o e n hb hx=>?_,I.base.free,fun b o e hx=>?_,I.base.tups,I.base.frzs,I.base.tbls⟩,⟨_,hn',fun j y v' e1 e2 e3=>?_⟩,fun y c e=>?_,I.free,I.freeC,fun p hp=>?_,tracked ⟨oL,hoL,I.free⟩ hs,by simpa using I.len⟩ ⟨_,hs,.inl rfl⟩
  ·exact (hs.2 b (zGY (zGT (Heap.lt_size e) I.ok.above))).trans (I.base.keep b o e n hb hx)
  ·obtain ⟨sl,e1⟩:=I.base.slot b o e n hb hx
   exact ⟨sl,(hs.2 b (zGY (zGT (Heap.lt_size e) I.ok.above))).trans e1⟩
  ·obtain ⟨o',e1⟩:=I.base.there b o e hx
   exact ⟨o',(hs.2 b (zGY (zGT (Heap.lt_size e) I.ok.above))).trans e1⟩
  ·by_cases hj:j=i
   ·subst hj
    rw [hi] at e1;cases e1
    rw [zG4 hiσ] at e2
    cases e2
    exact ⟨u,r,.inl ⟨hk,by simp⟩⟩
   ·rw [zG3 (Ne.symm hj)] at e2
    obtain ⟨u',r',q⟩:=hl j y v' e1 e2 e3
    refine ⟨u',r',?_⟩
    rcases q with ⟨k,e⟩ | ⟨k,c,e,z⟩
    ·refine .inl ⟨k,?_⟩
     have:y ≠ x:=fun e=>hj (mZ hN e1 (e ▸ hi))
     simp [this,e]
    ·exact .inr ⟨k,c,e,z.sameBut hs (cne y c e)⟩
  ·obtain ⟨w',z⟩:=I.cell y c e
   exact ⟨w',z.sameBut hs (cne y c e)⟩
  ·obtain ⟨e,n,ne,nf,d⟩:=I.pin p hp
   exact ⟨(hs.2 p.1 ne).trans e,n,ne,nf,d⟩
 ·have hfn:X.fn x=true:=by
   rcases hf with z | z
   ·exact z
   ·rw [z] at hk;cases hk
  obtain ⟨c,hc⟩:=I.ok.has x (.inl hk)
  obtain ⟨w',z⟩:=I.cell x c hc
  refine wpAny_storeName_cell I.ok.kind hk hc z (fun h' hc' hs=>?_)
  obtain ⟨oc,hoc,hocd⟩:=id z
  refine h { s with heap:=h' } ⟨I.ok,I.os,I.bare,⟨fun b o e n hb hx=>?_,fun b o e n hb hx=>?_,I.base.free,fun b o e hx=>?_,I.base.tups,I.base.frzs,I.base.tbls⟩,⟨m,hn.sameBut hs (Ne.symm (cne x c hc)),fun j y v' e1 e2 e3=>?_⟩,fun y c' e=>?_,I.free,I.freeC,fun p hp=>?_,tracked ⟨oc,hoc,I.freeC x c hc⟩ hs,by simpa using I.len⟩ ⟨c,hs,.inr hc⟩
  ·exact (hs.2 b (zGY (zGT (Heap.lt_size e) (I.ok.cab x c hfn hc)))).trans (I.base.keep b o e n hb hx)
  ·obtain ⟨sl,e1⟩:=I.base.slot b o e n hb hx
   exact ⟨sl,(hs.2 b (zGY (zGT (Heap.lt_size e) (I.ok.cab x c hfn hc)))).trans e1⟩
  ·obtain ⟨o',e1⟩:=I.base.there b o e hx
   exact ⟨o',(hs.2 b (zGY (zGT (Heap.lt_size e) (I.ok.cab x c hfn hc)))).trans e1⟩
  ·by_cases hj:j=i
   ·subst hj
    rw [hi] at e1;cases e1
    rw [zG4 hiσ] at e2
    cases e2
    exact ⟨u,r,.inr ⟨.inl hk,c,hc,hc'⟩⟩
   ·rw [zG3 (Ne.symm hj)] at e2
    obtain ⟨u',r',q⟩:=hl j y v' e1 e2 e3
    refine ⟨u',r',?_⟩
    rcases q with q | ⟨k,c',e,z'⟩
    ·exact .inl q
    ·refine .inr ⟨k,c',e,z'.sameBut hs ?_⟩
     rintro rfl
     exact hj (mZ hN e1 (I.ok.inj _ _ _ e hc ▸ hi))
  ·by_cases hcc:c'=c
   ·subst hcc;exact ⟨_,hc'⟩
   ·obtain ⟨w2,z2⟩:=I.cell y c' e
    exact ⟨w2,z2.sameBut hs hcc⟩
  ·obtain ⟨e,n,ne,nf,d⟩:=I.pin p hp
   refine ⟨(hs.2 p.1 ?_).trans e,n,ne,nf,d⟩
   intro q
   rw [q,hoc] at e
   have q':oc=p.2:=zGE e
   exact d w' (by rw [<- q'];exact hocd)
theorem n8 {M:Model} {A:Around} {E:Value->Shared->Prop} {i:Nat} {x:Str} {v:V} {u:Value} {Q:Unit->Shared->Prop} (I:Inv X pins σ H s) (hN:X.N.Nodup) (hi:X.N[i]?=some x) (hx:Loc X.env.scope x) (r:yM v u)
  (h:∀ s',Inv X pins (σ.set i (some v)) H s'->Q () s') (hf:X.fn x=true \/ X.env.scope.names.lookup x=some .local:=by first | exact .inl rfl | exact .inr rfl | assumption):wpAny M A (storeName X.env x u) Q E s:=
 pJ I hN hi hx r (fun s' I' _=>h s' I') hf
theorem Inv.call' {s':Shared} {ch:List Addr} (I:Inv X pins σ H s) (ho:s'.os=s.os) (u:Un (frs X.stack) ch H H' s.heap s'.heap) (hok:HOk X.prog X.w H' s'.heap) (hg:AllBare s'.gens)
  (hch:∀ b ∈ ch,(b ∈ X.ex \/ X.s₀.heap.objs.size <= b)/\b ≠ X.env.locals/\(∀ x c,X.env.cells.lookup x=some c->c ≠ b)/\∀ p ∈ X.pn ++ pins,p.1 ≠ b):Inv X pins σ H' s':=by
 obtain ⟨h',g',d',t',o'⟩:=s'
 have e:o'=s.os:=ho
 subst e
 exact I.call (g':=g') (t':=t') (d':=d') u hok hg hch
end
abbrev XK:=Value->Option Addr->Hp->Prop
abbrev St:=List (Option V)
abbrev VK:=V->Hp->Prop
abbrev TE:=St->Hp->VK->Prop
abbrev TT:=St->Hp->(Bool->Hp->Prop)->Prop
abbrev TA:=St->Hp->(List V->Hp->Prop)->Prop
structure lR where
 nx:St->Hp->Prop
 rt:VK
 bk:St->Hp->Prop:=fun _ _=>False
 ct:St->Hp->Prop:=fun _ _=>False
abbrev TS:=lR->St->Hp->Prop
def EP (X:Cx) (pins:List (Addr × Obj)) (σ:St) (Q:VK) (u:Value) (s':Shared):Prop:=∃ v H',Inv X pins σ H' s'/\yM v u/\Q v H'
def TP (X:Cx) (pins:List (Addr × Obj)) (σ:St) (Q:Bool->Hp->Prop) (b:Bool) (s':Shared):Prop:=∃ H',Inv X pins σ H' s'/\Q b H'
def AP (X:Cx) (pins:List (Addr × Obj)) (σ:St) (Q:List V->Hp->Prop) (us:List Value) (s':Shared):Prop:=∃ vs H',Inv X pins σ H' s'/\yD vs us/\Q vs H'
def SP (X:Cx) (pins:List (Addr × Obj)) (D:lR) (f:Flow) (s':Shared):Prop:=
 match f with
 | .next=>∃ σ' H',Inv X pins σ' H' s'/\D.nx σ' H'
 | .brk=>∃ σ' H',Inv X pins σ' H' s'/\D.bk σ' H'
 | .cont=>∃ σ' H',Inv X pins σ' H' s'/\D.ct σ' H'
 | .ret u=>∃ v σ' H',Inv X pins σ' H' s'/\yM v u/\D.rt v H'
def PE (X:Cx) (e:Expr) (t:TE):Prop:=
 ∀ (pins:List (Addr × Obj)) (s:Shared) (σ:St) (H:Hp) (Q:VK),Inv X pins σ H s->t σ H Q->wpAny (model X.prog X.w) X.A (eval e X.env) (EP X pins σ Q) X.xe s
def PT (X:Cx) (e:Expr) (t:TT):Prop:=
 ∀ (pins:List (Addr × Obj)) (s:Shared) (σ:St) (H:Hp) (Q:Bool->Hp->Prop),Inv X pins σ H s->t σ H Q->wpAny (model X.prog X.w) X.A (isTrue e X.env (eval e X.env)) (TP X pins σ Q) X.xe s
def PW (X:Cx) (e:Expr) (t:TT):Prop:=
 ∀ (whole:Sem Value) (pins:List (Addr × Obj)) (s:Shared) (σ:St) (H:Hp) (Q:Bool->Hp->Prop),Inv X pins σ H s->t σ H Q->wpAny (model X.prog X.w) X.A (isTrue e X.env whole) (TP X pins σ Q) X.xe s
theorem PW.pt {X:Cx} {e:Expr} {t:TT} (h:PW X e t):PT X e t:=h _
def PA (X:Cx) (es:List Expr) (t:TA):Prop:=
 ∀ (pos:Pos) (pins:List (Addr × Obj)) (s:Shared) (σ:St) (H:Hp) (Q:List V->Hp->Prop),Inv X pins σ H s->t σ H Q->wpAny (model X.prog X.w) X.A (spliced (backTo pos (starEach es X.env))) (AP X pins σ Q) X.xe s
def PS (X:Cx) (st:Stmt) (t:TS):Prop:=
 ∀ (pins:List (Addr × Obj)) (s:Shared) (σ:St) (H:Hp) (D:lR),Inv X pins σ H s->t D σ H->wpAny (model X.prog X.w) X.A (exec st X.env) (SP X pins D) X.xe s
def PSs (X:Cx) (st:List Stmt) (t:TS):Prop:=
 ∀ (pins:List (Addr × Obj)) (s:Shared) (σ:St) (H:Hp) (D:lR),Inv X pins σ H s->t D σ H->wpAny (model X.prog X.w) X.A (execs st X.env) (SP X pins D) X.xe s
theorem thn {α:Type} {t:Sem α} {Q Q':α->Shared->Prop} {M:Model} {A:Around} {E:Value->Shared->Prop} {s:Shared} (h:wpAny M A t Q E s) (hQ:∀ a s,Q a s->Q' a s):wpAny M A t Q' E s:=wpAny_mono h hQ fun _ _ x=>x
end L2
namespace L2
open PySem PySem.Spec PyProof.Rows
section
variable {X:Cx}
def uV (i:Nat):TE:=fun σ H Q=>∃ v,σ[i]?=some (some v)/\Q v H
def tC (v:V):TE:=fun _ H Q=>Q v H
theorem zCK {i:Nat} {x:Str} {pos:Pos} (hN:X.N[i]?=some x) (hv:Vis X.env.scope x) (hd:(x == ("__debug__" : Str))=false:=by decide) (hcd:(x == ("__classdict__" : Str))=false:=by decide):PE X (.Name x pos) (uV i):=by
 intro pins s σ H Q I h
 obtain ⟨v,e,h⟩:=h
 obtain ⟨m,hn,hl⟩:=I.loc
 obtain ⟨u,r,l⟩:=hl i x v hN e hv
 have fin:EP X pins σ Q u s:=⟨v,H,I,r,h⟩
 rcases l with ⟨hk,hm⟩ | ⟨hk,c,hc,hcell⟩
 ·exact wpAny_Name (wpAny_loadName_local I.ok.kind hk hn hm fin) hd
 ·rcases hk with hk | hk
  ·exact wpAny_Name (wpAny_loadName_cell I.ok.kind hk hc hcell fin) hd
  ·exact wpAny_Name (wpAny_loadName_free I.ok.kind hk hc hcell fin hcd) hd
theorem zJ {i j pos}:PE X (.Constant (.int i) j pos) (tC (.int i)):=fun _ _ _ H _ I h=>wpAny_Constant_int ⟨.int i,H,I.tok _,⟨_,rfl⟩,h⟩
theorem wP {b j pos}:PE X (.Constant (.bool b) j pos) (tC (.bl b)):=fun _ _ _ H _ I h=>Constant_bool ⟨.bl b,H,I,rfl,h⟩
theorem yZ {j pos}:PE X (.Constant .none j pos) (tC .non):=fun _ _ _ H _ I h=>Constant_none ⟨.non,H,I,rfl,h⟩
theorem zM {x j pos}:PE X (.Constant (.str x) j pos) (tC (.str x)):=fun _ _ _ H _ I h=>Calls.Constant_str ⟨.str x,H,I.tok _,⟨_,rfl⟩,h⟩
def Gl (X:Cx) (x:Str):Prop:=X.env.kindOf x=some .globalImplicit
theorem nC {E:Value->Shared->Prop} {pins:List (Addr × Obj)} {s:Shared} {σ:St} {H:Hp} {x:Str} {u:Value} {pos:Pos} {Q:Value->Shared->Prop} (I:Inv X pins σ H s) (hg:Gl X x) (hm:X.mg x=some u) (h:Q u s)
  (hd:(x == ("__debug__" : Str))=false:=by decide):wpAny (model X.prog X.w) X.A (eval (.Name x pos) X.env) Q E s:=
 Calls.Name_function_global I.ok.kind hg (Calls.loadGlobal_global (by rw [I.ok.glob];exact I.mod.glob.keeps I.bk) hm h) hd
theorem sS {E:Value->Shared->Prop} {pins:List (Addr × Obj)} {s:Shared} {σ:St} {H:Hp} {x:Str} {u:Value} {pos:Pos} {Q:Value->Shared->Prop} (I:Inv X pins σ H s) (hg:Gl X x) (hm:X.mg x=none) (hv:bootBuiltins x=some u) (h:Q u s)
  (hn:x ≠ "__name__":=by decide) (hd:(x == ("__debug__" : Str))=false:=by decide):wpAny (model X.prog X.w) X.A (eval (.Name x pos) X.env) Q E s:=by
 obtain ⟨mb,h1,h2⟩:=I.mod.blt
 exact Calls.Name_function_global I.ok.kind hg (Calls.loadGlobal_builtin (by rw [I.ok.glob];exact I.mod.glob.keeps I.bk) hm (by rw [I.ok.blt];exact h1.keeps I.bk) ((h2 x hn).trans hv) h) hd
theorem aK {x:Str} {v:V} {u:Value} {pos:Pos} (hg:Gl X x) (hm:X.mg x=some u) (r:yM v u) (hd:(x == ("__debug__" : Str))=false:=by decide):PE X (.Name x pos) (tC v):=
 fun _ _ _ H _ I h=>nC I hg hm ⟨v,H,I,r,h⟩ hd
theorem aO {x:Str} {v:V} {u:Value} {pos:Pos} (hg:Gl X x) (hm:X.mg x=none) (hv:bootBuiltins x=some u) (r:yM v u) (hn:x ≠ "__name__":=by decide) (hd:(x == ("__debug__" : Str))=false:=by decide):PE X (.Name x pos) (tC v):=
 fun _ _ _ H _ I h=>sS I hg hm hv ⟨v,H,I,r,h⟩ hn hd
variable {a b:Expr} {ta tb:TE} {pos:Pos}
def PC (X:Cx) (op:CmpOp) (a b:Expr) (t:TE):Prop:=
 ∀ (pins:List (Addr × Obj)) (s:Shared) (σ:St) (H:Hp) (Q:VK),Inv X pins σ H s->t σ H Q ->
  wpAny (model X.prog X.w) X.A (eval a X.env) (fun v s₁=>wpAny (model X.prog X.w) X.A (eval b X.env) (fun u s₂=>wpAny (model X.prog X.w) X.A (compareOp op v u) (EP X pins σ Q) X.xe s₂) X.xe s₁) X.xe s
def tB (t:TE):TT:=fun σ H Q=>t σ H fun x H1=>∃ c,x=.bl c/\Q c H1
theorem eR {op:CmpOp} {t:TE} (h:PC X op a b t) (h1:behindInMarks op b=false:=by first | exact nobehind _ (by decide) (by decide) | rfl):PT X (.Compare a [op] [b] pos) (tB t):=by
 intro pins s σ H Q I hw
 refine wpAny_isTrue_Compare1 (thn (h pins s σ H _ I hw) fun v s1 h1=>thn h1 fun u s2 h2=>thn h2 fun c s3 hz1=>?_) h1
 obtain ⟨x,H1,I1,r1,q1⟩:=hz1
 obtain ⟨d,rfl,q⟩:=q1
 cases r1
 exact wpAny_truthy_bool ⟨H1,I1,q⟩
theorem xY {e:Expr} {t:TE} (h:PE X e t) (he:∀ whole,isTrue e X.env whole=(do let v <- whole;standAt e.pos;holding [v] (truthy v)):=by intro _;rfl):PT X e (tB t):=by
 intro pins s σ H Q I hw
 refine isTrue_plain (thn (h pins s σ H _ I hw) fun v s1 hz2=>?_) (he _)
 obtain ⟨x,H1,I1,r1,q1⟩:=hz2
 obtain ⟨d,rfl,q⟩:=q1
 cases r1
 exact wpAny_truthy_bool ⟨H1,I1,q⟩
variable {tA tB':TT} {rest:List Expr}
def tAnd (t u:TT):TT:=fun σ H Q=>t σ H fun c H1=>if c=true then u σ H1 Q else Q false H1
def tOr (t u:TT):TT:=fun σ H Q=>t σ H fun c H1=>if c=true then Q true H1 else u σ H1 Q
def tNot (t:TT):TT:=fun σ H Q=>t σ H fun c H1=>Q (!c) H1
theorem oU (ha:PT X a tA):PW X (.BoolOp .And [a] pos) tA:=by
 intro wh pins s σ H Q I h
 refine isTrue_and (thn (ha pins s σ H Q I h) fun c s1 e=>?_)
 cases c with
 | true=>exact isTrue_and_nil e
 | false=>exact e
theorem sL (ha:PT X a tA):PW X (.BoolOp .Or [a] pos) tA:=by
 intro wh pins s σ H Q I h
 refine isTrue_or (thn (ha pins s σ H Q I h) fun c s1 e=>?_)
 cases c with
 | false=>exact isTrue_or_nil e
 | true=>exact e
theorem kG (ha:PT X a tA) (hb:PW X (.BoolOp .And (b :: rest) pos) tB'):PW X (.BoolOp .And (a :: b :: rest) pos) (tAnd tA tB'):=by
 intro wh pins s σ H Q I h
 refine isTrue_and (thn (ha pins s σ H _ I h) fun c s1 hz3=>?_)
 obtain ⟨H1,I1,q1⟩:=hz3
 cases c with
 | true=>exact hb wh pins s1 σ H1 Q I1 q1
 | false=>exact ⟨H1,I1,q1⟩
theorem pK (ha:PT X a tA) (hb:PW X (.BoolOp .Or (b :: rest) pos) tB'):PW X (.BoolOp .Or (a :: b :: rest) pos) (tOr tA tB'):=by
 intro wh pins s σ H Q I h
 refine isTrue_or (thn (ha pins s σ H _ I h) fun c s1 hz4=>?_)
 obtain ⟨H1,I1,q1⟩:=hz4
 cases c with
 | true=>exact ⟨H1,I1,q1⟩
 | false=>exact hb wh pins s1 σ H1 Q I1 q1
theorem wD (ha:PT X a tA):PT X (.UnaryOp .Not a pos) (tNot tA):=by
 intro pins s σ H Q I h
 exact isTrue_not (ha pins s σ H (fun c H1=>Q (!c) H1) I h)
def zD4 (ta tb:TE):TE:=fun σ H Q=>ta σ H fun x H1=>∃ c,x=.bl c/\if c=true then tb σ H1 Q else Q (.bl false) H1
def tOrV (ta tb:TE):TE:=fun σ H Q=>ta σ H fun x H1=>∃ c,x=.bl c/\if c=true then Q (.bl true) H1 else tb σ H1 Q
def zDZ (ta:TE):TE:=fun σ H Q=>ta σ H fun x H1=>∃ c,x=.bl c/\Q (.bl (!c)) H1
theorem tK {op} {t:TE} (h:PE X a t):PE X (.BoolOp op [a] pos) t:=fun pins s σ H Q I hw=>BoolOp_one (h pins s σ H Q I hw)
theorem tL (ha:PE X a ta) (hb:PE X (.BoolOp .And (b :: rest) pos) tb):PE X (.BoolOp .And (a :: b :: rest) pos) (zD4 ta tb):=by
 intro pins s σ H Q I h
 refine BoolOp_and (thn (ha pins s σ H _ I h) fun v s1 hz5=>?_)
 obtain ⟨x,H1,I1,r1,q1⟩:=hz5
 obtain ⟨c,rfl,q1⟩:=q1
 cases r1
 refine wpAny_truthy_bool ?_
 cases c with
 | true=>exact hb pins s1 σ H1 Q I1 q1
 | false=>exact ⟨.bl false,H1,I1,rfl,q1⟩
theorem zE3 (ha:PE X a ta) (hb:PE X (.BoolOp .Or (b :: rest) pos) tb):PE X (.BoolOp .Or (a :: b :: rest) pos) (tOrV ta tb):=by
 intro pins s σ H Q I h
 refine BoolOp_or (thn (ha pins s σ H _ I h) fun v s1 hz6=>?_)
 obtain ⟨x,H1,I1,r1,q1⟩:=hz6
 obtain ⟨c,rfl,q1⟩:=q1
 cases r1
 refine wpAny_truthy_bool ?_
 cases c with
 | false=>exact hb pins s1 σ H1 Q I1 q1
 | true=>exact ⟨.bl true,H1,I1,rfl,q1⟩
theorem zCL (ha:PE X a ta):PE X (.UnaryOp .Not a pos) (zDZ ta):=by
 intro pins s σ H Q I h
 refine UnaryOp_ (thn (ha pins s σ H _ I h) fun v s1 hz7=>?_)
 obtain ⟨x,H1,I1,r1,q1⟩:=hz7
 obtain ⟨c,rfl,q1⟩:=q1
 cases r1
 exact not_of (wpAny_truthy_bool ⟨.bl (!c),H1,I1,rfl,q1⟩)
def tIf (t:TT) (ta tb:TE):TE:=fun σ H Q=>t σ H fun c H1=>if c=true then ta σ H1 Q else tb σ H1 Q
theorem tX {c:Expr} (hc:PT X c tA) (ha:PE X a ta) (hb:PE X b tb):PE X (.IfExp c a b pos) (tIf tA ta tb):=by
 intro pins s σ H Q I h
 refine wpAny_IfExp (thn (hc pins s σ H _ I h) fun d s1 hz8=>?_)
 obtain ⟨H1,I1,q1⟩:=hz8
 cases d with
 | true=>exact ha pins s1 σ H1 Q I1 q1
 | false=>exact hb pins s1 σ H1 Q I1 q1
end
end L2
namespace L2
open PySem PySem.Spec PyProof.Rows
def SqL (K:PySem.W.Frag) (H:Hp) (a:Addr) (xs:List V):Prop:=
 Rd H a (.lst xs) \/
  ∃ (o:Obj) (its:Array Value) (n:Nat),K.lookup a=some o/\o.cls=.type "list"/\o.dict=none/\o.data=.seq its n/\its.size <= sizeLine/\yD xs its.toList
def SqT (K:PySem.W.Frag) (H:Hp) (a:Addr) (xs:List V):Prop:=
 Rd H a (.tup xs) \/
  ∃ (o:Obj) (its:Array Value) (n:Nat),K.lookup a=some o/\o.cls=.type "tuple"/\o.data=.seq its n/\its.size <= sizeLine/\yD xs its.toList
def absV:Value->Option V
 | .none=>some .non
 | .bool b=>some (.bl b)
 | .int i _=>some (.int i)
 | .str x _=>some (.str x)
 | .bytes b _=>some (.byt b)
 | .float b _=>some (.flt b)
 | .ref a=>some (.ref a)
 | .type n=>some (.ty n)
 | _=>none
theorem yM.abs {x:V} {u:Value} (r:yM x u):absV u=some x:=by
 cases x with
 | non=>cases r;rfl
 | bl _=>cases r;rfl
 | int _=>obtain ⟨t,rfl⟩:=r;rfl
 | str _=>obtain ⟨t,rfl⟩:=r;rfl
 | byt _=>obtain ⟨t,rfl⟩:=r;rfl
 | flt _=>obtain ⟨t,rfl⟩:=r;rfl
 | ref _=>cases r;rfl
 | ty _=>cases r;rfl
theorem yM.inj {x y:V} {u:Value} (r:yM x u) (q:yM y u):x=y:=zGE (r.abs.symm.trans q.abs)
theorem yD.inj:∀ {xs ys:List V} {us:List Value},yD xs us->yD ys us->xs=ys
 | _,_,_,.nil,.nil=>rfl
 | _,_,_,.cons r t,.cons r' t'=>by rw [r.inj r',yD.inj t t']
section
variable {X:Cx} {pins:List (Addr × Obj)} {σ:St} {H:Hp} {s:Shared} {a:Addr} {xs ys:List V}
theorem SqL.of {K:PySem.W.Frag} (h:H a=some (.lst xs)):SqL K H a xs:=.inl (.inl h)
theorem SqT.of {K:PySem.W.Frag} (h:H a=some (.tup xs)):SqT K H a xs:=.inl (.inl h)
theorem Inv.list (I:Inv X pins σ H s) (h:SqL X.K H a xs):∃ its:List Value,yD xs its/\PlainL s.heap a its.toArray/\xs.length <= sizeLine:=by
 rcases h with h | ⟨o,its,n,hk,hc,hd,hs,hz,r⟩
 ·obtain ⟨z,its,n,r,e⟩:=h.ok I.hok
  exact ⟨its,r,⟨_,n,e,rfl,rfl,rfl⟩,z⟩
 ·refine ⟨its.toList,r,⟨o,n,I.kIn a o hk,hc,hd,by simpa using hs⟩,?_⟩
  have e:=r.length
  simp only [Array.length_toList] at e
  omega
theorem Inv.tuple (I:Inv X pins σ H s) (h:SqT X.K H a xs):∃ its:List Value,yD xs its/\IsTup s.heap a its.toArray/\xs.length <= sizeLine:=by
 rcases h with h | ⟨o,its,n,hk,hc,hs,hz,r⟩
 ·obtain ⟨z,its,r,p⟩:=h.ok I.hok
  exact ⟨its,r,p,z⟩
 ·refine ⟨its.toList,r,⟨o,I.kIn a o hk,hc,n,by simpa using hs⟩,?_⟩
  have e:=r.length
  simp only [Array.length_toList] at e
  omega
theorem Inv.list_inj (I:Inv X pins σ H s) (h:SqL X.K H a xs) (h':SqL X.K H a ys):xs=ys:=by
 obtain ⟨its,r,⟨o,n,e,_,_,d⟩,_⟩:=I.list h
 obtain ⟨its',r',⟨o',n',e',_,_,d'⟩,_⟩:=I.list h'
 rw [e] at e';cases e'
 rw [d] at d'
 injection d' with d1 _
 have:its=its':=by simpa using congrArg Array.toList d1
 subst this
 exact r.inj r'
theorem Inv.tuple_inj (I:Inv X pins σ H s) (h:SqT X.K H a xs) (h':SqT X.K H a ys):xs=ys:=by
 obtain ⟨its,r,⟨o,e,_,n,d⟩,_⟩:=I.tuple h
 obtain ⟨its',r',⟨o',e',_,n',d'⟩,_⟩:=I.tuple h'
 rw [e] at e';cases e'
 rw [d] at d'
 injection d' with d1 _
 have:its=its':=by simpa using congrArg Array.toList d1
 subst this
 exact r.inj r'
end
abbrev Cx.wish (X:Cx) (E:Value->Shared->Prop):Cx:={ X with xe:=E }
abbrev Cx.nox (X:Cx):Cx:=X.wish fun _ _=>False
theorem Cx.Ok.wish {X:Cx} (ok:X.Ok) (E:Value->Shared->Prop):(X.wish E).Ok:=
 ⟨ok.mod,ok.kind,ok.glob,ok.blt,ok.above,ok.inj,ok.has,ok.cab,ok.hd,ok.frames,ok.stk,ok.exf,ok.bs,ok.bsz,ok.noex,ok.exfs,ok.funs,ok.frf⟩
theorem Cx.Ok.unwish {X:Cx} {E:Value->Shared->Prop} (ok:(X.wish E).Ok):X.Ok:=
 ⟨ok.mod,ok.kind,ok.glob,ok.blt,ok.above,ok.inj,ok.has,ok.cab,ok.hd,ok.frames,ok.stk,ok.exf,ok.bs,ok.bsz,ok.noex,ok.exfs,ok.funs,ok.frf⟩
section
variable {X:Cx} {pins:List (Addr × Obj)} {σ:St} {H:Hp} {s:Shared} {E:Value->Shared->Prop}
theorem Inv.wish (I:Inv X pins σ H s) (E:Value->Shared->Prop):Inv (X.wish E) pins σ H s:=⟨I.ok.wish E,I.os,I.bare,I.base,I.loc,I.cell,I.free,I.freeC,I.pin,I.hok,I.len⟩
theorem Inv.unwish (I:Inv (X.wish E) pins σ H s):Inv X pins σ H s:=⟨I.ok.unwish,I.os,I.bare,I.base,I.loc,I.cell,I.free,I.freeC,I.pin,I.hok,I.len⟩
theorem SP.unwish {D:lR} {f:Flow} {s':Shared} (h:SP (X.wish E) pins D f s'):SP X pins D f s':=by
 cases f with
 | next=>obtain ⟨σ',H',I,q⟩:=h;exact ⟨σ',H',I.unwish,q⟩
 | brk=>obtain ⟨σ',H',I,q⟩:=h;exact ⟨σ',H',I.unwish,q⟩
 | cont=>obtain ⟨σ',H',I,q⟩:=h;exact ⟨σ',H',I.unwish,q⟩
 | ret u=>obtain ⟨v,σ',H',I,r,q⟩:=h;exact ⟨v,σ',H',I.unwish,r,q⟩
theorem PSs.nox {st:List Stmt} {t:TS} (h:PSs X.nox st t):PSs X st t:=fun pins s σ H D I hw=>
 wpAny_mono (h pins s σ H D (I.wish _) hw) (fun _ _ q=>q.unwish) fun _ _ z=>False.elim z
end
section
variable {X:Cx} {st:Stmt} {rest:List Stmt} {t u:TS} {e:Expr} {te:TE} {pos:Pos}
def zA0:TS:=fun D σ H=>D.nx σ H
def pD (t u:TS):TS:=fun D σ H=>t { D with nx:=u D } σ H
theorem zQ:PSs X [] zA0:=fun _ _ σ H _ I h=>wpAny_execs_nil ⟨σ,H,I,h⟩
theorem zE (h1:PS X st t) (h2:PSs X rest u):PSs X (st :: rest) (pD t u):=by
 intro pins s σ H D I h
 refine wpAny_execs_cons (thn (h1 pins s σ H { D with nx:=u D } I h) fun f s1 q=>?_)
 cases f with
 | next=>
  obtain ⟨σ',H',I',q⟩:=q
  exact h2 pins s1 σ' H' D I' q
 | ret v=>exact q
 | brk=>exact q
 | cont=>exact q
theorem zF (h1:PS X st t):PSs X [st] t:=by
 intro pins s σ H D I h
 refine wpAny_execs_cons (thn (h1 pins s σ H D I h) fun f s1 q=>?_)
 cases f with
 | next=>exact wpAny_execs_nil q
 | ret v=>exact q
 | brk=>exact q
 | cont=>exact q
theorem Inv.quiet {pins:List (Addr × Obj)} {σ:St} {H:Hp} {s:Shared} (I:Inv X pins σ H s):interactive X.env=false:=by simp [interactive,I.ok.kind]
def zD1 (te:TE):TS:=fun D σ H=>te σ H fun _ H1=>D.nx σ H1
theorem yG (he:PE X e te) (hs:swapsWith e none pos.line X.env=pure false:=by rfl):PS X (.Expr e pos) (zD1 te):=by
 intro pins s σ H D I h
 exact wpAny_Expr_any (thn (he pins s σ H _ I h) fun v s1 ⟨x,H1,I1,r1,q1⟩=>⟨σ,H1,I1,q1⟩) I.quiet hs
def fK (te:TE):TS:=fun D σ H=>te σ H D.rt
theorem zO (he:PE X e te):PS X (.Return (some e) pos) (fK te):=by
 intro pins s σ H D I h
 exact wpAny_Return_some (thn (he pins s σ H _ I h) fun v s1 ⟨x,H1,I1,r1,q1⟩=>⟨x,σ,H1,I1,r1,q1⟩)
def zD0 (c:TT) (t u:TS):TS:=fun D σ H=>c σ H fun b H1=>if b=true then t D σ H1 else u D σ H1
theorem z4 {c:Expr} {a b:List Stmt} {tc:TT} (hc:PT X c tc) (ha:PSs X a t) (hb:PSs X b u):PS X (.If c a b pos) (zD0 tc t u):=by
 intro pins s σ H D I h
 refine wpAny_If (thn (hc pins s σ H _ I h) fun d s1 hz9=>?_)
 obtain ⟨H1,I1,q1⟩:=hz9
 cases d with
 | true=>exact ha pins s1 σ H1 D I1 q1
 | false=>exact hb pins s1 σ H1 D I1 q1
def zBV:TS:=fun _ _ _=>False
theorem y0:PS X st zBV:=fun _ _ _ _ _ _ h=>h.elim
end
abbrev TG:=V->St->Hp->(St->Hp->Prop)->Prop
abbrev TGs:=List V->St->Hp->(St->Hp->Prop)->Prop
def PG (X:Cx) (target:Expr) (t:TG):Prop:=
 ∀ (pins:List (Addr × Obj)) (s:Shared) (σ:St) (H:Hp) (v:V) (u:Value) (Q:St->Hp->Prop),Inv X pins σ H s->yM v u->t v σ H Q ->
  wpAny (model X.prog X.w) X.A (assign target X.env u) (fun _ s'=>∃ σ' H',Inv X pins σ' H' s'/\Q σ' H') X.xe s
def PGs (X:Cx) (ts:List Expr) (t:TGs):Prop:=
 ∀ (pins:List (Addr × Obj)) (s:Shared) (σ:St) (H:Hp) (vs:List V) (us:List Value) (Q:St->Hp->Prop),Inv X pins σ H s->yD vs us->t vs σ H Q ->
  wpAny (model X.prog X.w) X.A (assignInOrder ((assignEach ts X.env).map (·.2)) us) (fun _ s'=>∃ σ' H',Inv X pins σ' H' s'/\Q σ' H') X.xe s
abbrev zDT:=V->V->V->Hp->(Hp->Prop)->Prop
def zF4 (X:Cx) (t:zDT):Prop:=
 ∀ (pins:List (Addr × Obj)) (s:Shared) (σ:St) (H:Hp) (o i v:V) (ov iv u:Value) (Q:Hp->Prop),Inv X pins σ H s->yM o ov->yM i iv->yM v u->t o i v H Q ->
  wpAny (model X.prog X.w) X.A (setItem ov iv u) (fun _ s'=>∃ H',Inv X pins σ H' s'/\Q H') X.xe s
section
variable {X:Cx} {pos:Pos}
def xZ (i:Nat):TG:=fun v σ H Q=>Q (σ.set i (some v)) H
theorem yE {i:Nat} {x:Str} (hN:X.N.Nodup) (hi:X.N[i]?=some x) (hx:Loc X.env.scope x) (hf:X.fn x=true \/ X.env.scope.names.lookup x=some .local:=by first | exact .inl rfl | exact .inr rfl | assumption):PG X (.Name x pos) (xZ i):=by
 intro pins s σ H v u Q I r h
 exact wpAny_assign_Name (n8 I hN hi hx r (fun s' I'=>⟨_,H,I',h⟩) hf)
def gP:TGs:=fun vs σ H Q=>vs=[]/\Q σ H
def uU (t:TG) (u:TGs):TGs:=fun vs σ H Q=>∃ v r,vs=v :: r/\t v σ H fun σ' H'=>u r σ' H' Q
theorem vF:PGs X [] gP:=by
 intro pins s σ H vs us Q I r h
 obtain ⟨e,h⟩:=h
 subst e
 cases r
 exact assignInOrder_nil ⟨σ,H,I,h⟩
theorem yS {e:Expr} {es:List Expr} {t:TG} {u:TGs} (h1:PG X e t) (h2:PGs X es u)
  (hs:(assignEach (e :: es) X.env).map (·.2)=assign e X.env :: (assignEach es X.env).map (·.2):=by rfl):PGs X (e :: es) (uU t u):=by
 intro pins s σ H vs us Q I r h
 obtain ⟨v,vr,e1,h⟩:=h
 subst e1
 cases r with
 | cons r rr=>
  rw [hs]
  refine assignInOrder_cons (thn (h1 pins s σ H _ _ _ I r h) fun _ s1 hz10=>?_)
  obtain ⟨σ1,H1,I1,q1⟩:=hz10
  exact h2 pins s1 σ1 H1 _ _ Q I1 rr q1
def gO (K:PySem.W.Frag) (n:Nat) (t:TGs):TG:=fun v σ H Q=>∃ a xs,v=.ref a/\SqT K H a xs/\xs.length=n/\t xs σ H Q
theorem uI {es:List Expr} {k:Nat} {t:TGs} {n:Nat} (hc:X.calm=true) (h:PGs X es t)
  (hn:(assignEach es X.env).length=n:=by rfl) (hst:(assignEach es X.env).findIdx? (·.1)=none:=by rfl):PG X (.Tuple es k pos) (gO X.K n t):=by
 intro pins s σ H v u Q I r hw
 obtain ⟨a,xs,e1,hq,hl,hw⟩:=hw
 subst e1
 cases r
 obtain ⟨its,rv,ht,hz⟩:=I.tuple hq
 refine assign_Tuple_tuple (I.ok.hd hc) ht (by simp [hn,<- hl,rv.length]) hst fun h' hx=>?_
 have I1:Inv X pins σ H { s with heap:=h' }:=I.kept (t':=s.toks) fun b o e=>hx b o (zGY (Heap.lt_size e)) e
 exact h pins _ σ H xs _ Q I1 (by simpa using rv) hw
def zFP (to ti:TE) (t:zDT):TG:=fun v σ H Q=>to σ H fun o H1=>ti σ H1 fun i H2=>t o i v H2 fun H3=>Q σ H3
theorem eX {o i:Expr} {to ti:TE} {t:zDT} (ho:PE X o to) (hi:PE X i ti) (hs:zF4 X t)
  (ha:∀ v,assign (.Subscript o i pos) X.env v=(do
   let ov <- holding [v] (eval o X.env)
   let iv <- holding [v,ov] (eval i X.env)
   standAt pos
   holding [v,ov,iv] (setItem ov iv v)
   release [v,ov,iv] []):=by intro _;rfl):PG X (.Subscript o i pos) (zFP to ti t):=by
 intro pins s σ H v u Q I r h
 rw [ha]
 refine wpAny_bind (wpAny_holding (thn (ho pins s σ H _ I h) fun ov s1 hz11=>?_))
 obtain ⟨x,H1,I1,r1,q1⟩:=hz11
 refine wpAny_bind (wpAny_holding (thn (hi pins s1 σ H1 _ I1 q1) fun iv s2 hz12=>?_))
 obtain ⟨y,H2,I2,r2,q2⟩:=hz12
 refine wpAny_bind (wpAny_standAt (wpAny_bind (wpAny_holding (thn (hs pins s2 σ H2 x y v ov iv u _ I2 r1 r2 r q2) fun _ s3 hz13=>?_))))
 obtain ⟨H3,I3,q3⟩:=hz13
 exact wpAny_release ⟨σ,H3,I3,q3⟩
def nY (te:TE) (g:TG):TS:=fun D σ H=>te σ H fun x H1=>g x σ H1 D.nx
theorem sM {tg e:Expr} {te:TE} {g:TG} (he:PE X e te) (hg:PG X tg g) (hs:swapsWithSole [tg] e pos.line X.env=pure false:=by rfl) (hw:swappedStores [tg] e X.env=pure none:=by rfl)
  (h1:(assignEach [tg] X.env).map (·.2)=[assign tg X.env]:=by rfl):PS X (.Assign [tg] e pos) (nY te g):=by
 intro pins s σ H D I h
 refine wpAny_Assign_stores (thn (he pins s σ H _ I h) fun v s1 hz14=>?_) hs hw
 obtain ⟨x,H1,I1,r1,q1⟩:=hz14
 rw [h1]
 exact thn (hg pins s1 σ H1 x v _ I1 r1 q1) fun _ s2 q=>q
theorem yI {i:Nat} {x:Str} {e:Expr} {te:TE} {pos':Pos} (hN:X.N.Nodup) (hi:X.N[i]?=some x) (hx:Loc X.env.scope x) (he:PE X e te) (hs:swapsWith e (some (.Name x pos')) pos.line X.env=pure false:=by rfl) (hf:X.fn x=true \/ X.env.scope.names.lookup x=some .local:=by first | exact .inl rfl | exact .inr rfl | assumption) :
  PS X (.Assign [.Name x pos'] e pos) (nY te (xZ i)):=by
 intro pins s σ H D I h
 refine wpAny_Assign_Name (thn (he pins s σ H _ I h) fun v s1 hz15=>?_) hs
 obtain ⟨y,H1,I1,r1,q1⟩:=hz15
 exact n8 I1 hN hi hx r1 (fun s2 I2=>⟨_,H1,I2,q1⟩) hf
end
section
variable {X:Cx} {pos:Pos}
end
structure It where
 go:Nat->Hp->Prop
 yld:Nat->Hp->V->Hp->Prop
 stop:Nat->Hp->Prop
def uS (X:Cx) (pins:List (Addr × Obj)) (H:Hp) (b:Addr):Prop:=
 H b=none/\b ≠ X.env.locals/\b ∉ X.fs/\(b ∈ X.ex \/ X.s₀.heap.objs.size <= b)/\(∀ x c,X.env.cells.lookup x=some c->c ≠ b)/\∀ p ∈ X.pn ++ pins,p.1 ≠ b
theorem Inv.fpOk {X:Cx} {pins:List (Addr × Obj)} {σ:St} {H H':Hp} {s:Shared} {b:Addr} (I:Inv X pins σ H s) (hb:s.heap.objs.size <= b) (hn:H' b=none):uS X pins H' b:=by
 refine ⟨hn,Nat.ne_of_gt (zGT I.lt hb),I.nofs hb,.inr (zGI I.sz hb),fun x c e z=>?_,fun p hp z=>?_⟩
 ·obtain ⟨v,q⟩:=I.cell x c e
  exact absurd (zGT q.lt (by rw [z];exact hb)) (Nat.lt_irrefl _)
 ·exact absurd (zGT (Heap.lt_size (I.pin p hp).1) (by rw [z];exact hb)) (Nat.lt_irrefl _)
structure bD (P:Program) (w:World) (K:PySem.W.Frag) (tg:Expr) (J:It) (fp:List Addr) (it:Addr) (tn:Nat->Heap->Prop):Prop where
 mem:it ∈ fp
 obj:∀ i h,tn i h->∀ b ∈ fp,∃ o,h.get? b=some o/\∀ v,o.data ≠ .cell v
 keep:∀ i h h',tn i h->(∀ b ∈ fp,∀ o,h.get? b=some o->h'.get? b=some o)->tn i h'
 item:∀ (X:Cx),X.prog=P->X.w=w->X.K=K->X.calm=true->∀ (i:Nat) (pins:List (Addr × Obj)) (s:Shared) (σ:St) (H:Hp) (E:Value->Shared->Prop),Inv X pins σ H s->(∀ b ∈ fp,uS X pins H b)->tn i s.heap->J.go i H ->
  wpAny (model P w) X.A (pyNext (.ref it)) (fun r s1=>∃ u,r=some u /\
   wpAny (model P w) X.A (letOwnedTupleGo tg (.ref it) u) (fun _ s2=>∃ x H',Inv X pins σ H' s2/\yM x u/\J.yld i H x H'/\tn (i + 1) s2.heap/\∀ b ∈ fp,H' b=none) E s1) E s
 done:∀ (X:Cx),X.prog=P->X.w=w->X.K=K->X.calm=true->∀ (i:Nat) (pins:List (Addr × Obj)) (s:Shared) (σ:St) (H:Hp) (E:Value->Shared->Prop),Inv X pins σ H s->(∀ b ∈ fp,uS X pins H b)->tn i s.heap->J.stop i H ->
  wpAny (model P w) X.A (pyNext (.ref it)) (fun r s1=>r=none/\Inv X pins σ H s1) E s
 self:∀ (A:Around) (i:Nat) (s:Shared) (Q:Value->Shared->Prop) (E:Value->Shared->Prop),tn i s.heap->Q (.ref it) s->wpAny (model P w) A (pyIter (.ref it)) Q E s
abbrev TI:=St->Hp->(It->Hp->Prop)->Prop
def PIE (X:Cx) (pins:List (Addr × Obj)) (σ:St) (tg:Expr) (R:It->Hp->Prop) (itv:Value) (s2:Shared):Prop:=
 ∃ (it:Addr) (fp:List Addr) (tn:Nat->Heap->Prop) (J:It) (H':Hp),itv=.ref it/\Inv X pins σ H' s2/\bD X.prog X.w X.K tg J fp it tn/\tn 0 s2.heap/\(∀ b ∈ fp,uS X pins H' b)/\R J H'
def PI (X:Cx) (tg iter:Expr) (wi:TI):Prop:=
 ∀ (pins:List (Addr × Obj)) (s:Shared) (σ:St) (H:Hp) (R:It->Hp->Prop),Inv X pins σ H s->wi σ H R ->
  wpAny (model X.prog X.w) X.A (eval iter X.env) (fun v s1=>wpAny (model X.prog X.w) X.A (pyIter v) (PIE X pins σ tg R) X.xe s1) X.xe s
theorem cE {M:Model} {A:Around} {E:Value->Shared->Prop} {s:Shared} {tg:Expr} {it:Addr} {u:Value} {o:Obj} {n:String} {vs:Array Value} {Q:Unit->Shared->Prop} (ho:s.heap.get? it=some o) (hc:o.cls=.type n) (hd:o.data=.fields vs)
    (hn:["enumerate","zip","dict_itemiterator","dict_reverseitemiterator","odict_iterator","itertools.zip_longest","itertools.pairwise"].contains n=false) (hQ:Q () s):wpAny M A (letOwnedTupleGo tg (.ref it) u) Q E s:=by
  unfold letOwnedTupleGo
  cases tg <;> first
    | exact wpAny_pure hQ
    | (cases u <;> first
        | exact wpAny_pure hQ
        | (refine wpAny_bind (wpAny_load ho ?_)
           rw [hc,hd]
           show wpAny M A (if (["enumerate","zip","dict_itemiterator","dict_reverseitemiterator","odict_iterator","itertools.zip_longest","itertools.pairwise"].contains n && vs[0]? == some (rawInt _))=true then _ else _) Q E s
           rw [if_neg (by intro h;rw [hn,Bool.false_and] at h;cases h)]
           exact wpAny_pure hQ))
def Itl (K:PySem.W.Frag) (a:Addr):It:=
 ⟨fun i H=>∃ xs x,SqL K H a xs/\xs[i]?=some x,fun i H x H'=>H'=H/\∀ xs,SqL K H a xs->xs[i]?=some x,fun i H=>∃ xs,SqL K H a xs/\xs.length <= i⟩
def Itr (lo:Int) (n:Nat):It:=⟨fun i _=>i < n,fun i H x H'=>H'=H/\x=.int (lo + i),fun i _=>n <= i⟩
theorem iU {P:Program} {w:World} {K:PySem.W.Frag} {tg:Expr} (a it:Addr):bD P w K tg (Itl K a) [it] it (fun i h=>h.IsListIter it a i) where
 mem:=by simp
 obj:=fun i h st b hb=>by
  have e:b=it:=by simpa using hb
  subst e
  obtain ⟨o,e,c,d⟩:=st
  exact ⟨o,e,fun v z=>by rw [d] at z;cases z⟩
 keep:=fun i h h' st k=>st.at fun o e=>k it (by simp) o e
 item:=by
  intro X hP hw hK hc i pins s σ H E I hf st hg
  subst hP hw hK
  obtain ⟨xs,x,hq,hx⟩:=hg
  obtain ⟨its,rv,p,hz⟩:=I.list hq
  obtain ⟨u,hu,ru⟩:=rv.get hx
  obtain ⟨f0,f1,f2,f3,f4,f5⟩:=hf it (by simp)
  refine wpAny_pyNext_list_item st p.isList (x:=u) (by simpa using hu) fun h' st' sb=>?_
  have I1:Inv X pins σ H { s with heap:=h' }:=I.turned (t':=s.toks) (fun b o hb e=>(sb.2 b hb).trans e) f0 f1 f3 f4 f5
  obtain ⟨o,e,c,d⟩:=id st'
  exact ⟨u,rfl,cE (s:={ s with heap:=h' }) e c d (by decide) ⟨x,H,I1,ru,⟨rfl,fun ys hy=>by rw [I.list_inj hy hq];exact hx⟩,st',fun b hb=>(hf b hb).1⟩⟩
 done:=by
  intro X hP hw hK hc i pins s σ H E I hf st hg
  subst hP hw hK
  obtain ⟨xs,hq,hx⟩:=hg
  obtain ⟨its,rv,p,hz⟩:=I.list hq
  obtain ⟨f0,f1,f2,f3,f4,f5⟩:=hf it (by simp)
  have hl:=rv.length
  exact wpAny_pyNext_list_end (I.ok.hd hc) st p.isList (by simp;omega) fun h' eb=>⟨rfl,I.turned (t':=s.toks) (fun b o hb e=>eb b o hb e) f0 f1 f3 f4 f5⟩
 self:=fun _ _ _ _ _ st h=>wpAny_pyIter_listiter st h
theorem lS {P:Program} {w:World} {K:PySem.W.Frag} {tg:Expr} (it:Addr) (lo:Int) (n:Nat):bD P w K tg (Itr lo n) [it] it (fun i h=>IsRangeIter h it (lo + (i:Nat) * 1) ((n:Int) - (i:Nat)) 1) where
 mem:=by simp
 obj:=fun i h st b hb=>by
  have e:b=it:=by simpa using hb
  subst e
  exact ⟨_,st,fun v z=>by
   have z':Data.fields _=Data.cell v:=z
   cases z'⟩
 keep:=fun i h h' st k=>k it (by simp) _ st
 item:=by
  intro X hP hw hK hc i pins s σ H E I hf st hg
  subst hP hw hK
  obtain ⟨f0,f1,f2,f3,f4,f5⟩:=hf it (by simp)
  have W:=Walks.range (prog:=X.prog) (w:=X.w) (I.ok.hd hc) it lo 1 n
  refine W.item i s _ _ hg st fun v h' tk hv st' kk=>?_
  obtain ⟨t,rfl⟩:=hv
  have I1:Inv X pins σ H { s with heap:=h',toks:=tk }:=I.turned (fun b o hb e=>kk b o (by simpa using hb) e) f0 f1 f3 f4 f5
  refine ⟨_,rfl,cE (s:={ s with heap:=h',toks:=tk }) (n:="range_iterator") st' rfl rfl (by decide) ⟨.int (lo + i),H,I1,⟨t,?_⟩,⟨rfl,rfl⟩,st',fun b hb=>(hf b hb).1⟩⟩
  rw [Int.mul_one]
 done:=by
  intro X hP hw hK hc i pins s σ H E I hf st hg
  subst hP hw hK
  obtain ⟨f0,f1,f2,f3,f4,f5⟩:=hf it (by simp)
  exact wpAny_pyNext_range_end (I.ok.hd hc) st (by have:n <= i:=hg;omega) fun h' eb=>⟨rfl,I.turned (t':=s.toks) (fun b o hb e=>eb b o hb e) f0 f1 f3 f4 f5⟩
 self:=fun _ _ _ _ _ st h=>wpAny_pyIter_rangeiter st h
end L2
namespace L2
open PySem PySem.Spec PyProof.Rows
section
variable {X:Cx} {tg:Expr}
def zBJ (K:PySem.W.Frag) (tl:TE):TI:=fun σ H R=>tl σ H fun x H1=>∃ a,x=.ref a/\(∃ xs,SqL K H1 a xs)/\R (Itl K a) H1
theorem xE {l:Expr} {tl:TE} (hl:PE X l tl):PI X tg l (zBJ X.K tl):=by
 intro pins s σ H R I h
 refine thn (hl pins s σ H _ I h) fun v s1 hz16=>?_
 obtain ⟨x,H1,I1,r1,q1⟩:=hz16
 obtain ⟨a,e,⟨xs,hq⟩,q⟩:=q1
 subst e
 cases r1
 obtain ⟨its,rv,p,hz⟩:=I1.list hq
 refine wpAny_pyIter_list p.isList ?_
 refine ⟨s1.heap.objs.size,[s1.heap.objs.size],_,_,H1,rfl,I1.kept (t':=s1.toks) fun b o e=>Heap.get?_push_of_some _ e,iU a _,⟨_,Heap.get?_push_size _ rfl,rfl,rfl⟩,fun b hb=>?_,q⟩
 have e:b=s1.heap.objs.size:=by simpa using hb
 subst e
 exact I1.fpOk (zGG _) (I1.hok.fresh (zGG _))
theorem mJ {pins:List (Addr × Obj)} {σ:St} {H:Hp} {s:Shared} {R:It->Hp->Prop} {E:Value->Shared->Prop} {lo hi:Int} {t u v:Tok} {tk:Nat} (I:Inv X pins σ H s) (h1:-(2 ^ 62) <= lo) (h2:lo < 2 ^ 62) (h3:-(2 ^ 62) <= hi) (h4:hi < 2 ^ 62)
  (q:R (Itr lo (hi - lo).toNat) H):wpAny (model X.prog X.w) X.A (pyIter (.ref s.heap.objs.size)) (PIE X pins σ tg R) E { s with heap:=s.heap.push { cls:=.type "range",data:=.fields #[.int lo t,.int hi u,.int 1 v] },toks:=tk }:=by
 refine wpAny_pyIter_range (IsRange.new ..) (small_one h1 h2 h3 h4) ?_
 have I1:Inv X pins σ H { s with heap:=s.heap.push { cls:=.type "range",data:=.fields #[.int lo t,.int hi u,.int 1 v] },toks:=tk }:=I.kept fun b o e=>Heap.get?_push_of_some _ e
 refine ⟨(s.heap.push { cls:=.type "range",data:=.fields #[.int lo t,.int hi u,.int 1 v] }).objs.size,[(s.heap.push { cls:=.type "range",data:=.fields #[.int lo t,.int hi u,.int 1 v] }).objs.size],_,_,H,rfl,
  I1.kept (t':=tk) fun b o e=>Heap.get?_push_of_some _ e,lS _ lo (hi - lo).toNat,?_,fun b hb=>?_,q⟩
 ·have e1:lo + ((0:Nat):Int) * 1=lo:=by simp
  have e2:(((hi - lo).toNat:Nat):Int) - ((0:Nat):Int)=Builtin.Range.rangeSize lo hi 1:=by rw [rangeSize_one];split <;> omega
  show IsRangeIter _ _ (lo + ((0:Nat):Int) * 1) ((((hi - lo).toNat:Nat):Int) - ((0:Nat):Int)) 1
  rw [e1,e2]
  exact Heap.get?_push_size _ rfl
 ·have e:b=(s.heap.push { cls:=.type "range",data:=.fields #[.int lo t,.int hi u,.int 1 v] }).objs.size:=by simpa using hb
  subst e
  exact I1.fpOk (zGG _) (I1.hok.fresh (zGG _))
def zFG (ta:TA):TI:=fun σ H R=>ta σ H fun vs H1=>∃ j:Int,vs=[.int j]/\-(2 ^ 62) <= j/\j < 2 ^ 62/\R (Itr 0 j.toNat) H1
def zFF (ta:TA):TI:=fun σ H R=>ta σ H fun vs H1=>∃ i j:Int,vs=[.int i,.int j]/\(-(2 ^ 62) <= i/\i < 2 ^ 62/\-(2 ^ 62) <= j/\j < 2 ^ 62)/\R (Itr i (j - i).toNat) H1
theorem wI {a:Expr} {ta:TA} {p pos:Pos} (hg:Gl X "range") (hm:X.mg "range"=none) (ha:PA X [a] ta) (hs:starEach [a] X.env=[(false,eval a X.env)]:=by rfl):PI X tg (.Call (.Name "range" p) [a] [] pos) (zFG ta):=by
 intro pins s σ H R I h
 refine Call_ (sS I hg hm boot_range (PyProof.Rows.callWith_type1 (thn (ha pos pins s σ H _ I h) fun us s1 hz17=>?_) hs rfl))
 obtain ⟨vs,H1,I1,r1,q1⟩:=hz17
 obtain ⟨j,e,q1,q2,q⟩:=q1
 subst e
 cases r1 with
 | cons r rr=>
  cases rr
  obtain ⟨t,rfl⟩:=r
  exact call_range_1 (mJ I1 (by omega) (by omega) q1 q2 (by simpa using q))
theorem i9 {a b:Expr} {ta:TA} {p pos:Pos} (hg:Gl X "range") (hm:X.mg "range"=none) (ha:PA X [a,b] ta) (hs:starEach [a,b] X.env=[(false,eval a X.env),(false,eval b X.env)]:=by rfl) (hs2:starEach [b] X.env=[(false,eval b X.env)]:=by rfl) :
  PI X tg (.Call (.Name "range" p) [a,b] [] pos) (zFF ta):=by
 intro pins s σ H R I h
 refine Call_ (sS I hg hm boot_range (PyProof.Rows.callWith_type1 (thn (ha pos pins s σ H _ I h) fun us s1 hz18=>?_) (by rw [hs,hs2]) (by rw [hs2];rfl)))
 obtain ⟨vs,H1,I1,r1,q1⟩:=hz18
 obtain ⟨i,j,e,⟨q1,q2,q3,q4⟩,q⟩:=q1
 subst e
 cases r1 with
 | cons r rr=>
  cases rr with
  | cons r' rr=>
   cases rr
   obtain ⟨t,rfl⟩:=r
   obtain ⟨t',rfl⟩:=r'
   exact call_range_2 (mJ I1 q1 q2 q3 q4 q)
def tFor (wi:TI) (g:TG) (tb:TS):TS:=fun D σ H=>wi σ H fun J H1=>∃ W:Nat->Nat->St->Hp->Prop,(∃ m,W 0 m σ H1)/\∀ i m σ H,W i m σ H ->
 (J.stop i H/\D.nx σ H) \/ (J.go i H/\∃ N:St->Hp->Prop,(∀ σ' H',N σ' H'->∃ m',m' < m/\W (i + 1) m' σ' H')/\∀ x H',J.yld i H x H'->g x σ H' fun σ2 H2=>tb { D with nx:=N,ct:=N,bk:=D.nx } σ2 H2)
def vB (fp:List Addr) (h:Heap):List (Addr × Obj):=fp.filterMap fun b=>(h.get? b).map fun o=>(b,o)
theorem xN {fp:List Addr} {h:Heap} {b:Addr} {o:Obj} (hb:b ∈ fp) (e:h.get? b=some o):(b,o) ∈ vB fp h:=List.mem_filterMap.mpr ⟨b,hb,by rw [e];rfl⟩
theorem hU {fp:List Addr} {h:Heap} {p:Addr × Obj} (hp:p ∈ vB fp h):p.1 ∈ fp/\h.get? p.1=some p.2:=by
 obtain ⟨b,hb,e⟩:=List.mem_filterMap.mp hp
 cases q:h.get? b with
 | none=>rw [q] at e;cases e
 | some o=>
  rw [q] at e
  have e':(b,o)=p:=zGE e
  subst e'
  exact ⟨hb,q⟩
theorem Inv.pinned {pins:List (Addr × Obj)} {σ:St} {H:Hp} {s:Shared} {fp:List Addr} (I:Inv X pins σ H s) (hf:∀ b ∈ fp,uS X pins H b) (ho:∀ b ∈ fp,∃ o,s.heap.get? b=some o/\∀ v,o.data ≠ .cell v):Inv X (pins ++ vB fp s.heap) σ H s:=
 I.pins_of fun p hp=>(zGO.mp hp).elim (fun z=>I.pin p (zGL _ z)) fun z=>by
  obtain ⟨hb,e⟩:=hU z
  obtain ⟨f0,f1,f2,_⟩:=hf p.1 hb
  obtain ⟨o,e',d⟩:=ho p.1 hb
  rw [e] at e';cases e'
  exact ⟨e,f0,f1,f2,d⟩
theorem Inv.unpinned {pins pl:List (Addr × Obj)} {σ:St} {H:Hp} {s:Shared} (I:Inv X (pins ++ pl) σ H s):Inv X pins σ H s:=I.pins_of fun p hp=>I.pin p (zGL _ (List.mem_append_left _ hp))
theorem vU {iter:Expr} {body:List Stmt} {wi:TI} {g:TG} {tb:TS} {pos:Pos} (hp:PassesOwn (model X.prog X.w) X.A X.env X.xe) (hc:X.calm=true) (hi:PI X tg iter wi) (hg:PG X tg g) (hb:PSs X body tb)
  (hs:∀ x,foldedSetIterable iter X.env x=pure x:=by intro _;rfl):PS X (.For tg iter body [] pos) (tFor wi g tb):=by
 intro pins s σ H D I h
 refine wpAny_For (thn (hi pins s σ H _ I h) fun v s1 h1=>thn h1 fun itv s2 h2=>?_) hs
 obtain ⟨it,fp,tn,J,H2,e,I2,T,st2,f2,W,⟨m0,w0⟩,turn⟩:=h2
 subst e
 have stat:∀ {H':Hp},(∀ b ∈ fp,H' b=none)->∀ b ∈ fp,uS X pins H' b:=fun hn b hb=>⟨hn b hb,(f2 b hb).2⟩
 refine codeAny_forLoop_any (fun n s'=>∃ i σ' H',Inv X pins σ' H' s'/\tn i s'.heap/\(∀ b ∈ fp,H' b=none)/\W i n σ' H') ?_ m0 ⟨0,σ,H2,I2,st2,fun b hb=>(f2 b hb).1,w0⟩
 rintro n s3 ⟨i,σ3,H3,I3,st3,fr3,w3⟩
 rcases turn i n σ3 H3 w3 with ⟨stop,qn⟩ | ⟨go,N,hN,step⟩
 ·refine wpAny_passesOwn hp (thn (T.done X rfl rfl rfl hc i pins s3 σ3 H3 X.xe I3 (stat fr3) st3 stop) fun r s4 ⟨hr,I4⟩=>?_)
  subst hr
  exact wpAny_execs_nil ⟨σ3,H3,I4,qn⟩
 ·refine wpAny_passesOwn hp (thn (T.item X rfl rfl rfl hc i pins s3 σ3 H3 X.xe I3 (stat fr3) st3 go) fun r s4 ⟨u,hr,h4⟩=>?_)
  subst hr
  refine wpAny_passesOwn hp (thn h4 fun _ s5 hz19=>?_)
  obtain ⟨x,H5,I5,r5,y5,st5,fr5⟩:=hz19
  have I5':=I5.pinned (stat fr5) (T.obj _ _ st5)
  refine wpAny_passesOwn hp (thn (hg _ s5 σ3 H5 x u _ I5' r5 (step x H5 y5)) fun _ s6 hz20=>?_)
  obtain ⟨σ6,H6,I6,q6⟩:=hz20
  refine wpAny_passesOwn hp (thn (hb _ s6 σ6 H6 _ I6 q6) fun f s7 q7=>?_)
  have again:∀ {σ7:St} {H7:Hp},Inv X (pins ++ vB fp s5.heap) σ7 H7 s7->N σ7 H7->∃ m,m < n/\∃ i σ' H',Inv X pins σ' H' s7/\tn i s7.heap/\(∀ b ∈ fp,H' b=none)/\W i m σ' H':=fun {σ7 H7} I7 n7=>by
   obtain ⟨m',hm,w7⟩:=hN σ7 H7 n7
   refine ⟨m',hm,i + 1,σ7,H7,I7.unpinned,T.keep _ _ _ st5 fun b hb o e=>(I7.pin (b,o) (zGL _ (zGL _ (xN hb e)))).1,fun b hb=>?_,w7⟩
   obtain ⟨o,e,d⟩:=T.obj _ _ st5 b hb
   exact (I7.pin (b,o) (zGL _ (zGL _ (xN hb e)))).2.1
  cases f with
  | next=>obtain ⟨σ7,H7,I7,n7⟩:=q7;exact again I7 n7
  | cont=>obtain ⟨σ7,H7,I7,n7⟩:=q7;exact again I7 n7
  | brk=>obtain ⟨σ7,H7,I7,q7⟩:=q7;exact ⟨σ7,H7,I7.unpinned,q7⟩
  | ret v=>obtain ⟨x7,σ7,H7,I7,r7,q7⟩:=q7;exact ⟨x7,σ7,H7,I7.unpinned,r7,q7⟩
end
theorem vL {K:PySem.W.Frag} {a:Addr} {xs:List V} {g:TG} {tb:TS} {D:lR} {σ:St} {H:Hp} (Pv:Nat->St->Hp->Prop) (h0:Pv 0 σ H) (hl:∀ i σ H,i <= xs.length->Pv i σ H->SqL K H a xs)
  (hs:∀ i x σ H,xs[i]?=some x->Pv i σ H->g x σ H fun σ2 H2=>tb { D with nx:=Pv (i + 1),ct:=Pv (i + 1),bk:=D.nx } σ2 H2) (hd:∀ σ H,Pv xs.length σ H->D.nx σ H) :
  ∃ W:Nat->Nat->St->Hp->Prop,(∃ m,W 0 m σ H)/\∀ i m σ H,W i m σ H ->
   ((Itl K a).stop i H/\D.nx σ H) \/ ((Itl K a).go i H/\∃ N:St->Hp->Prop,(∀ σ' H',N σ' H'->∃ m',m' < m/\W (i + 1) m' σ' H')/\∀ x H',(Itl K a).yld i H x H'->g x σ H' fun σ2 H2=>tb { D with nx:=N,ct:=N,bk:=D.nx } σ2 H2):=by
 refine ⟨fun i m σ H=>m=xs.length - i/\i <= xs.length/\Pv i σ H,⟨xs.length,by simp,zGH _,h0⟩,?_⟩
 rintro i m σ H ⟨rfl,hi,p⟩
 have q:=hl i σ H hi p
 by_cases hlt:i < xs.length
 ·refine .inr ⟨⟨xs,xs[i],q,by simp [hlt]⟩,Pv (i + 1),fun σ' H' p'=>⟨xs.length - (i + 1),by omega,rfl,hlt,p'⟩,fun x H' y=>?_⟩
  obtain ⟨e,y⟩:=y
  subst e
  exact hs i x σ _ (y xs q) p
 ·have e:i=xs.length:=by omega
  subst e
  exact .inl ⟨⟨xs,q,zGG _⟩,hd σ H p⟩
theorem u9 {lo:Int} {n:Nat} {g:TG} {tb:TS} {D:lR} {σ:St} {H:Hp} (Pv:Nat->St->Hp->Prop) (h0:Pv 0 σ H)
  (hs:∀ i σ H,i < n->Pv i σ H->g (.int (lo + i)) σ H fun σ2 H2=>tb { D with nx:=Pv (i + 1),ct:=Pv (i + 1),bk:=D.nx } σ2 H2) (hd:∀ σ H,Pv n σ H->D.nx σ H) :
  ∃ W:Nat->Nat->St->Hp->Prop,(∃ m,W 0 m σ H)/\∀ i m σ H,W i m σ H ->
   ((Itr lo n).stop i H/\D.nx σ H) \/ ((Itr lo n).go i H/\∃ N:St->Hp->Prop,(∀ σ' H',N σ' H'->∃ m',m' < m/\W (i + 1) m' σ' H')/\∀ x H',(Itr lo n).yld i H x H'->g x σ H' fun σ2 H2=>tb { D with nx:=N,ct:=N,bk:=D.nx } σ2 H2):=by
 refine ⟨fun i m σ H=>m=n - i/\i <= n/\Pv i σ H,⟨n,by simp,zGH _,h0⟩,?_⟩
 rintro i m σ H ⟨rfl,hi,p⟩
 by_cases hlt:i < n
 ·refine .inr ⟨hlt,Pv (i + 1),fun σ' H' p'=>⟨n - (i + 1),by omega,rfl,hlt,p'⟩,fun x H' y=>?_⟩
  obtain ⟨e,y⟩:=y
  subst e y
  exact hs i σ _ hlt p
 ·have e:i=n:=by omega
  subst e
  exact .inl ⟨zGG _,hd σ H p⟩
end L2
namespace L2
open PySem PySem.Spec PyProof.Rows
abbrev R2:=V->V->Hp->VK->Prop
def OpR (X:Cx) (f:Value->Value->Sem Value) (r:R2):Prop:=
 ∀ (pins:List (Addr × Obj)) (s:Shared) (σ:St) (H:Hp) (x y:V) (v u:Value) (Q:VK),Inv X pins σ H s->yM x v->yM y u->r x y H Q ->
  wpAny (model X.prog X.w) X.A (f v u) (EP X pins σ Q) X.xe s
def wW (X:Cx) (f:Value) (r:List V->Hp->VK->Prop):Prop:=
 ∀ (pins:List (Addr × Obj)) (s:Shared) (σ:St) (H:Hp) (xs:List V) (us:List Value) (Q:VK),Inv X pins σ H s->yD xs us->r xs H Q ->
  wpAny (model X.prog X.w) X.A (call f us) (EP X pins σ Q) X.xe s
def TruR (X:Cx) (r:V->Hp->(Bool->Hp->Prop)->Prop):Prop:=
 ∀ (pins:List (Addr × Obj)) (s:Shared) (σ:St) (H:Hp) (x:V) (v:Value) (Q:Bool->Hp->Prop),Inv X pins σ H s->yM x v->r x H Q ->
  wpAny (model X.prog X.w) X.A (truthy v) (TP X pins σ Q) X.xe s
def tOp (r:R2) (ta tb:TE):TE:=fun σ H Q=>ta σ H fun x H1=>tb σ H1 fun y H2=>r x y H2 Q
def rI (C:Int->Int->Prop) (g:Int->Int->V):R2:=fun x y H Q=>∃ i j,x=.int i/\y=.int j/\C i j/\Q (g i j) H
def rI0 (g:Int->Int->V):R2:=fun x y H Q=>∃ i j,x=.int i/\y=.int j/\Q (g i j) H
section
variable {X:Cx} {a b c:Expr} {ta tb tc:TE} {pos:Pos}
theorem zDR (ha:PE X a ta) (hb:PE X b tb) {pins:List (Addr × Obj)} {s:Shared} {σ:St} {H:Hp} {R:V->V->Hp->Prop} (I:Inv X pins σ H s)
  (h:ta σ H fun x H1=>tb σ H1 fun y H2=>R x y H2) {Q:Value->Shared->Prop} {f:Value->Value->Sem Value}
  (hf:∀ v u s2 x y H2,Inv X pins σ H2 s2->yM x v->yM y u->R x y H2->wpAny (model X.prog X.w) X.A (f v u) Q X.xe s2) :
  wpAny (model X.prog X.w) X.A (eval a X.env) (fun v s₁=>wpAny (model X.prog X.w) X.A (eval b X.env) (fun u s₂=>wpAny (model X.prog X.w) X.A (f v u) Q X.xe s₂) X.xe s₁) X.xe s:=by
 refine thn (ha pins s σ H _ I h) fun v s1 hz21=>?_
 obtain ⟨x,H1,I1,r1,q1⟩:=hz21
 refine thn (hb pins s1 σ H1 _ I1 q1) fun u s2 hz22=>?_
 obtain ⟨y,H2,I2,r2,q2⟩:=hz22
 exact hf v u s2 x y H2 I2 r1 r2 q2
theorem yO {op:Operator} {r:R2} (ho:OpR X (binaryOp op) r) (ha:PE X a ta) (hb:PE X b tb):PE X (.BinOp a op b pos) (tOp r ta tb):=by
 intro pins s σ H Q I h
 exact wpAny_BinOp (zDR ha hb I h fun v u s2 x y H2 I2 rx ry q=>ho pins s2 σ H2 x y v u Q I2 rx ry q)
theorem opI {f:Value->Value->Sem Value} {C:Int->Int->Prop} {g:Int->Int->Int}
  (rule:∀ (i j:Int) (t u:Tok) (s:Shared) (Q:Value->Shared->Prop) (E:Value->Shared->Prop),C i j->Q (.int (g i j) s.toks) { s with toks:=s.toks + 1 }->wpAny (model X.prog X.w) X.A (f (.int i t) (.int j u)) Q E s) :
  OpR X f (rI C fun i j=>.int (g i j)):=by
 intro pins s σ H x y v u Q I rx ry h
 obtain ⟨i,j,rfl,rfl,hc,q⟩:=h
 obtain ⟨t,rfl⟩:=rx
 obtain ⟨t',rfl⟩:=ry
 exact rule i j t t' s _ _ hc ⟨.int (g i j),H,I.tok _,⟨_,rfl⟩,q⟩
theorem zE5 {f:Value->Value->Sem Value} {g:Int->Int->Int}
  (rule:∀ (i j:Int) (t u:Tok) (s:Shared) (Q:Value->Shared->Prop) (E:Value->Shared->Prop),Q (.int (g i j) s.toks) { s with toks:=s.toks + 1 }->wpAny (model X.prog X.w) X.A (f (.int i t) (.int j u)) Q E s) :
  OpR X f (rI0 fun i j=>.int (g i j)):=by
 intro pins s σ H x y v u Q I rx ry h
 obtain ⟨i,j,rfl,rfl,q⟩:=h
 obtain ⟨t,rfl⟩:=rx
 obtain ⟨t',rfl⟩:=ry
 exact rule i j t t' s _ _ ⟨.int (g i j),H,I.tok _,⟨_,rfl⟩,q⟩
theorem zCV {f:Value->Value->Sem Value} {g:Int->Int->Bool}
  (rule:∀ (i j:Int) (t u:Tok) (s:Shared) (Q:Value->Shared->Prop) (E:Value->Shared->Prop),Q (.bool (g i j)) s->wpAny (model X.prog X.w) X.A (f (.int i t) (.int j u)) Q E s) :
  OpR X f (rI0 fun i j=>.bl (g i j)):=by
 intro pins s σ H x y v u Q I rx ry h
 obtain ⟨i,j,rfl,rfl,q⟩:=h
 obtain ⟨t,rfl⟩:=rx
 obtain ⟨t',rfl⟩:=ry
 exact rule i j t t' s _ _ ⟨.bl (g i j),H,I,rfl,q⟩
def zAZ (i j:Int):Prop:=0 < j/\j < 1073741824
def fD (i j:Int):Prop:=(-(2 ^ 64) < i/\i < 2 ^ 64) \/ (-(2 ^ 64) < j/\j < 2 ^ 64)
theorem fD.ok {i j:Int} (h:fD i j):IntMulOk i j:=by
 rcases h with ⟨h1,h2⟩ | ⟨h1,h2⟩
 ·exact .of_left (intBits_le_64 h1 h2)
 ·exact .of_right (intBits_le_64 h1 h2)
theorem wQ:OpR X (binaryOp .Add) (rI0 fun i j=>.int (i + j)):=zE5 fun _ _ _ _ _ _ _ q=>add_int q
theorem zCR:OpR X (binaryOp .Sub) (rI0 fun i j=>.int (i - j)):=zE5 fun _ _ _ _ _ _ _ q=>sub_int q
theorem sN:OpR X (binaryOp .Mult) (rI fD fun i j=>.int (i * j)):=opI fun _ _ _ _ _ _ _ hc q=>mul_int q hc.ok
theorem rU:OpR X (binaryOp .FloorDiv) (rI zAZ fun i j=>.int (i / j)):=opI fun i j _ _ _ _ _ hc q=>by
 have h1:(0:Int) < j:=hc.1
 have h2:j < 1073741824:=hc.2
 exact floordiv_int (by omega) (by rw [Int.fdiv_eq_ediv_of_nonneg i (by omega)];exact q) (.inl (PyProof.noPylong_small (by omega)))
theorem uL:OpR X (binaryOp .Mod) (rI (fun _ j=>0 < j) fun i j=>.int (i % j)):=opI fun i j _ _ _ _ _ hc q=>by
 have h1:(0:Int) < j:=hc
 exact mod_int' (by omega) (by rw [Int.fmod_eq_emod_of_nonneg i (by omega)];exact q)
end
def fZ:V->V->Bool
 | .non,.non=>true | .non,.int _=>true | .int _,.non=>true | .non,.bl _=>true | .bl _,.non=>true | .non,.str _=>true | .str _,.non=>true
 | .int _,.int _=>true | .bl _,.bl _=>true | .str _,.str _=>true | .byt _,.byt _=>true
 | .int _,.str _=>true | .str _,.int _=>true | .bl _,.str _=>true | .str _,.bl _=>true
 | _,_=>false
def rEq:R2:=fun x y H Q=>fZ x y=true/\Q (.bl (decide (x=y))) H
def rNe:R2:=fun x y H Q=>fZ x y=true/\Q (.bl (!decide (x=y))) H
theorem iN {i j:Int}:decide (V.int i=V.int j)=(i == j):=by
 rw [Bool.eq_iff_iff]
 simp
theorem cS {i j:Bool}:decide (V.bl i=V.bl j)=(i == j):=by
 rw [Bool.eq_iff_iff]
 simp
theorem iM {i j:Str}:decide (V.str i=V.str j)=(i == j):=by
 rw [Bool.eq_iff_iff]
 simp
theorem iO {i j:Array UInt8}:decide (V.byt i=V.byt j)=(i.toList == j.toList):=by
 rw [Bool.eq_iff_iff]
 cases i
 cases j
 simp
section
variable {X:Cx} {a b c:Expr} {ta tb tc:TE} {pos:Pos}
theorem yP {pins:List (Addr × Obj)} {σ:St} {H:Hp} {s:Shared} {Q:VK} {k k':Bool} (I:Inv X pins σ H s) (q:Q (.bl k) H) (e:k=k'):EP X pins σ Q (.bool k') s:=by
 subst e
 exact ⟨.bl k,H,I,rfl,q⟩
theorem xW:OpR X (compareOp .Eq) rEq:=by
 intro pins s σ H x y v u Q I rx ry h
 obtain ⟨hs,q⟩:=h
 cases x with
 | non=>
  cases rx
  cases y with
  | non=>cases ry;exact PySem.EqNone.eq_none_none (yP I q (by simp))
  | bl j=>cases ry;exact PySem.EqNone.eq_none_bool (yP I q (by simp))
  | int j=>obtain ⟨t',rfl⟩:=ry;exact PySem.EqNone.eq_none_int (yP I q (by simp))
  | str j=>obtain ⟨t',rfl⟩:=ry;exact PySem.EqNone.eq_none_str (yP I q (by simp))
  | _=>exact absurd (show false=true from hs) zGZ
 | bl i=>
  cases rx
  cases y with
  | non=>cases ry;exact PySem.EqNone.eq_bool_none (yP I q (by simp))
  | bl j=>cases ry;exact eq_bool (yP I q cS)
  | str j=>obtain ⟨t',rfl⟩:=ry;exact PySem.EqMixed.eq_bool_str (yP I q (by simp))
  | _=>exact absurd (show false=true from hs) zGZ
 | int i=>
  obtain ⟨t,rfl⟩:=rx
  cases y with
  | non=>cases ry;exact PySem.EqNone.eq_int_none (yP I q (by simp))
  | int j=>obtain ⟨t',rfl⟩:=ry;exact eq_int (yP I q iN)
  | str j=>obtain ⟨t',rfl⟩:=ry;exact PySem.EqMixed.eq_int_str (yP I q (by simp))
  | _=>exact absurd (show false=true from hs) zGZ
 | str i=>
  obtain ⟨t,rfl⟩:=rx
  cases y with
  | non=>cases ry;exact PySem.EqNone.eq_str_none (yP I q (by simp))
  | bl j=>cases ry;exact PySem.EqMixed.eq_str_bool (yP I q (by simp))
  | int j=>obtain ⟨t',rfl⟩:=ry;exact PySem.EqMixed.eq_str_int (yP I q (by simp))
  | str j=>obtain ⟨t',rfl⟩:=ry;exact eq_str (yP I q iM)
  | _=>exact absurd (show false=true from hs) zGZ
 | byt i=>
  obtain ⟨t,rfl⟩:=rx
  cases y with
  | byt j=>obtain ⟨t',rfl⟩:=ry;exact PySem.W.eq_bytes (yP I q iO)
  | _=>exact absurd (show false=true from hs) zGZ
 | _=>cases y <;> exact absurd (show false=true from hs) zGZ
theorem mU:OpR X (compareOp .NotEq) rNe:=by
 intro pins s σ H x y v u Q I rx ry h
 obtain ⟨hs,q⟩:=h
 cases x with
 | non=>
  cases rx
  cases y with
  | non=>cases ry;exact PySem.EqNone.ne_none_none (yP I q (by simp))
  | bl j=>cases ry;exact PySem.EqNone.ne_none_bool (yP I q (by simp))
  | int j=>obtain ⟨t',rfl⟩:=ry;exact PySem.EqNone.ne_none_int (yP I q (by simp))
  | str j=>obtain ⟨t',rfl⟩:=ry;exact PySem.EqNone.ne_none_str (yP I q (by simp))
  | _=>exact absurd (show false=true from hs) zGZ
 | bl i=>
  cases rx
  cases y with
  | non=>cases ry;exact PySem.EqNone.ne_bool_none (yP I q (by simp))
  | bl j=>cases ry;exact ne_bool (yP I q (congrArg not cS))
  | str j=>obtain ⟨t',rfl⟩:=ry;exact PySem.EqMixed.ne_bool_str (yP I q (by simp))
  | _=>exact absurd (show false=true from hs) zGZ
 | int i=>
  obtain ⟨t,rfl⟩:=rx
  cases y with
  | non=>cases ry;exact PySem.EqNone.ne_int_none (yP I q (by simp))
  | int j=>obtain ⟨t',rfl⟩:=ry;exact ne_int (yP I q (congrArg not iN))
  | str j=>obtain ⟨t',rfl⟩:=ry;exact PySem.EqMixed.ne_int_str (yP I q (by simp))
  | _=>exact absurd (show false=true from hs) zGZ
 | str i=>
  obtain ⟨t,rfl⟩:=rx
  cases y with
  | non=>cases ry;exact PySem.EqNone.ne_str_none (yP I q (by simp))
  | bl j=>cases ry;exact PySem.EqMixed.ne_str_bool (yP I q (by simp))
  | int j=>obtain ⟨t',rfl⟩:=ry;exact PySem.EqMixed.ne_str_int (yP I q (by simp))
  | str j=>obtain ⟨t',rfl⟩:=ry;exact ne_str (yP I q (congrArg not iM))
  | _=>exact absurd (show false=true from hs) zGZ
 | byt i=>
  obtain ⟨t,rfl⟩:=rx
  cases y with
  | byt j=>obtain ⟨t',rfl⟩:=ry;exact PySem.W.ne_bytes (yP I q (congrArg not iO))
  | _=>exact absurd (show false=true from hs) zGZ
 | _=>cases y <;> exact absurd (show false=true from hs) zGZ
theorem zBF:OpR X (compareOp .Lt) (rI0 fun i j=>.bl (decide (i < j))):=zCV fun _ _ _ _ _ _ _ q=>lt_int q
theorem dC:OpR X (compareOp .LtE) (rI0 fun i j=>.bl (decide (i <= j))):=zCV fun _ _ _ _ _ _ _ q=>le_int q
theorem zBG:OpR X (compareOp .Gt) (rI0 fun i j=>.bl (decide (j < i))):=zCV fun _ _ _ _ _ _ _ q=>gt_int q
theorem hI:OpR X (compareOp .In) (fun x y H Q=>∃ i j,x=.str i/\y=.str j/\Q (.bl (!(Builtin.Str.occurrences j i 0 j.length 1).isEmpty)) H):=by
 intro pins s σ H x y v u Q I rx ry h
 obtain ⟨i,j,rfl,rfl,q⟩:=h
 obtain ⟨t,rfl⟩:=rx
 obtain ⟨t',rfl⟩:=ry
 exact in_str (yP I q rfl)
theorem vJ:OpR X (compareOp .Is) (fun x y H Q=>y=.non/\Q (.bl (decide (x=.non))) H):=by
 intro pins s σ H x y v u Q I rx ry h
 obtain ⟨rfl,q⟩:=h
 cases ry
 refine is_none_gen (yP I q ?_)
 cases x <;> first
  | (cases rx;rfl)
  | (obtain ⟨t,rfl⟩:=rx;rfl)
theorem u5:OpR X (compareOp .IsNot) (fun x y H Q=>y=.non/\Q (.bl (!decide (x=.non))) H):=by
 intro pins s σ H x y v u Q I rx ry h
 obtain ⟨rfl,q⟩:=h
 cases ry
 refine isnot_none_gen (yP I q ?_)
 cases x <;> first
  | (cases rx;rfl)
  | (obtain ⟨t,rfl⟩:=rx;rfl)
theorem zX (b:Expr) {op:CmpOp} (h:op ≠ .In:=by decide) (h2:op ≠ .NotIn:=by decide):behindInMarks op b=false:=by
 have e1:(op == CmpOp.In)=false:=by cases op <;> first | rfl | exact absurd rfl h
 have e2:(op == CmpOp.NotIn)=false:=by cases op <;> first | rfl | exact absurd rfl h2
 cases b <;> simp [behindInMarks,e1,e2]
theorem wA {op:CmpOp} {r:R2} (ho:OpR X (compareOp op) r) (ha:PE X a ta) (hb:PE X b tb) (hm:behindInMarks op b=false):PE X (.Compare a [op] [b] pos) (tOp r ta tb):=by
 intro pins s σ H Q I h
 exact wpAny_Compare1 (zDR ha hb I h fun v u s2 x y H2 I2 rx ry q=>ho pins s2 σ H2 x y v u Q I2 rx ry q) hm
def fJ (t:TE):TT:=fun σ H Q=>t σ H fun x H'=>∃ k,x=.bl k/\Q k H'
theorem zT {op:CmpOp} {r:R2} (ho:OpR X (compareOp op) r) (ha:PE X a ta) (hb:PE X b tb) (hm:behindInMarks op b=false):PT X (.Compare a [op] [b] pos) (fJ (tOp r ta tb)):=by
 intro pins s σ H Q I h
 refine wpAny_isTrue_Compare1 (thn (ha pins s σ H _ I h) fun v s1 ⟨x,H1,I1,r1,q1⟩=>thn (hb pins s1 σ H1 _ I1 q1) fun u s2 ⟨y,H2,I2,r2,q2⟩=>
  thn (ho pins s2 σ H2 x y v u _ I2 r1 r2 q2) fun c s3 ⟨z,H3,I3,r3,k,e,q3⟩=>?_) hm
 subst e
 cases r3
 exact wpAny_truthy_bool ⟨H3,I3,q3⟩
def fN (r r':R2) (ta tb tc:TE):TE:=fun σ H Q=>ta σ H fun x H1=>tb σ H1 fun y H2=>r x y H2 fun z H3=>∃ k,z=.bl k /\
 (if k=true then tc σ H3 fun w' H4=>r' y w' H4 Q else Q (.bl false) H3)
theorem dA {op op':CmpOp} {r r':R2} (ho:OpR X (compareOp op) r) (ho':OpR X (compareOp op') r') (ha:PE X a ta) (hb:PE X b tb) (hc:PE X c tc)
  (hm:lastMarks [op,op'] [b,c]=false:=by with_unfolding_all rfl):PE X (.Compare a [op,op'] [b,c] pos) (fN r r' ta tb tc):=by
 intro pins s σ H Q I h
 refine Compare_chain (thn (ha pins s σ H _ I h) fun v s1 ⟨x,H1,I1,r1,q1⟩=>chain_link (thn (hb pins s1 σ H1 _ I1 q1) fun u s2 ⟨y,H2,I2,r2,q2⟩=>
  thn (ho pins s2 σ H2 x y v u _ I2 r1 r2 q2) fun d s3 ⟨z,H3,I3,r3,k,e,q3⟩=>?_)) hm
 subst e
 cases r3
 refine wpAny_truthy_bool ?_
 cases k with
 | false=>exact ite_ff ⟨.bl false,H3,I3,rfl,q3⟩
 | true=>exact ite_tt (chain_last (thn (hc pins s3 σ H3 _ I3 q3) fun w' s4 ⟨z',H4,I4,r4,q4⟩=>ho' pins s4 σ H4 y z' u w' Q I4 r2 r4 q4))
theorem eS {op op':CmpOp} {r r':R2} (ho:OpR X (compareOp op) r) (ho':OpR X (compareOp op') r') (ha:PE X a ta) (hb:PE X b tb) (hc:PE X c tc)
  (hm:lastMarks [op,op'] [b,c]=false:=by with_unfolding_all rfl):PT X (.Compare a [op,op'] [b,c] pos) (fJ (fN r r' ta tb tc)):=by
 intro pins s σ H Q I h
 refine isTrue_chain (thn (ha pins s σ H _ I h) fun v s1 ⟨x,H1,I1,r1,q1⟩=>test_link (thn (hb pins s1 σ H1 _ I1 q1) fun u s2 ⟨y,H2,I2,r2,q2⟩=>
  thn (ho pins s2 σ H2 x y v u _ I2 r1 r2 q2) fun d s3 ⟨z,H3,I3,r3,k,e,q3⟩=>?_)) hm
 subst e
 cases r3
 refine wpAny_truthy_bool ?_
 cases k with
 | false=>
  obtain ⟨k',e',q'⟩:=q3
  cases e'
  exact ite_ff ⟨H3,I3,q'⟩
 | true=>
  refine ite_tt (test_last (thn (hc pins s3 σ H3 _ I3 q3) fun w' s4 hz23=>?_))
  obtain ⟨z',H4,I4,r4,q4⟩:=hz23
  refine thn (ho' pins s4 σ H4 y z' u w' _ I4 r2 r4 q4) fun d' s5 hz24=>?_
  obtain ⟨z2,H5,I5,r5,k2,e2,q5⟩:=hz24
  subst e2
  cases r5
  exact wpAny_truthy_bool ⟨H5,I5,q5⟩
def zF3 (K:PySem.W.Frag) (x:V) (H:Hp) (k:Bool):Prop:=
 match x with
 | .non=>k=false
 | .bl b=>k=b
 | .int i=>k=(i != 0)
 | .str y=>y.length <= sizeLine/\k=((y.length:Int) != 0)
 | .byt y=>y.size <= sizeLine/\k=((y.size:Int) != 0)
 | .ref p=>(∃ xs,SqL K H p xs/\k = !xs.isEmpty) \/ (∃ xs,SqT K H p xs/\k = !xs.isEmpty) \/ ∃ kvs,H p=some (.dK kvs)/\k = !kvs.isEmpty
 | _=>False
theorem kR {κ:Type} {kvs:List (κ × V)} {vs:List (κ × Value)} (r:KV kvs vs):(!vs.isEmpty) = !kvs.isEmpty:=by
 cases r <;> rfl
theorem qS {xs:List V} {its:List Value} (r:yD xs its):(!its.toArray.isEmpty) = !xs.isEmpty:=by
 cases r <;> simp
theorem sR:(sizeLine:Nat) < 2 ^ 63:=by rw [sizeLine_eq];decide
theorem zBT:TruR X (fun x H Q=>∃ k,zF3 X.K x H k/\Q k H):=by
 intro pins s σ H x v Q I rx h
 obtain ⟨k,e,q⟩:=h
 have hl:=sR
 have hs:sizeLine=16777216:=sizeLine_eq
 cases x with
 | non=>
  cases rx
  have e':k=false:=e
  subst e'
  exact truthy_none ⟨H,I,q⟩
 | bl b=>
  cases rx
  have e':k=b:=e
  subst e'
  exact wpAny_truthy_bool ⟨H,I,q⟩
 | int i=>
  obtain ⟨t,rfl⟩:=rx
  have e':k=(i != 0):=e
  subst e'
  exact PySem.P.truthy_int ⟨H,I,q⟩
 | str y=>
  obtain ⟨t,rfl⟩:=rx
  obtain ⟨hy,e'⟩:y.length <= sizeLine/\k=((y.length:Int) != 0):=e
  subst e'
  exact PySem.P.truthy_str (by omega) ⟨H,I.tok _,q⟩
 | byt y=>
  obtain ⟨t,rfl⟩:=rx
  obtain ⟨hy,e'⟩:y.size <= sizeLine/\k=((y.size:Int) != 0):=e
  subst e'
  exact PySem.W.truthy_bytes (by omega) ⟨H,I.tok _,q⟩
 | ref p=>
  cases rx
  have e':(∃ xs,SqL X.K H p xs/\k = !xs.isEmpty) \/ (∃ xs,SqT X.K H p xs/\k = !xs.isEmpty) \/ ∃ kvs,H p=some (.dK kvs)/\k = !kvs.isEmpty:=e
  rcases e' with ⟨xs,hx,e'⟩ | ⟨xs,hx,e'⟩ | ⟨kvs,hx,e'⟩
  ·subst e'
   obtain ⟨its,r,pl,hz⟩:=I.list hx
   have hlen:=r.length
   exact wpAny_truthy_list pl.isList (by simp only [zGF];omega) ⟨H,I.tok _,by rw [qS r];exact q⟩
  ·subst e'
   obtain ⟨its,r,pl,hz⟩:=I.tuple hx
   have hlen:=r.length
   exact truthy_tuple pl (by simp only [zGF];omega) ⟨H,I.tok _,by rw [qS r];exact q⟩
  ·subst e'
   obtain ⟨hz,hS,vs,r,m⟩:kvs.length <= sizeLine/\(p == sysModules)=false/\∃ vs,KV kvs vs/\s.heap.DictOf (y9 X.prog X.w) p vs:=I.hok p _ hx
   have hlen:kvs.length=vs.length:=Paired.length r
   exact wpAny_truthy_dict hS m (by omega) ⟨H,I.tok _,by rw [kR r];exact q⟩
 | _=>exact (show False from e).elim
theorem mN (ha:PE X a ta) (he:∀ whole,isTrue a X.env whole=(do let v <- whole;standAt a.pos;holding [v] (truthy v))) :
  PT X a (fun σ H Q=>ta σ H fun x H'=>∃ k,zF3 X.K x H' k/\Q k H'):=by
 intro pins s σ H Q I h
 exact isTrue_plain (thn (ha pins s σ H _ I h) fun v s1 ⟨x,H1,I1,r1,q1⟩=>zBT pins s1 σ H1 x v Q I1 r1 q1) (he _)
theorem kI:OpR X (binaryOp .Add) (fun x y H Q=>∃ i j,x=.str i/\y=.str j/\i.length + j.length <= sizeLine/\Q (.str (i ++ j)) H):=by
 intro pins s σ H x y v u Q I rx ry h
 obtain ⟨i,j,rfl,rfl,hz,q⟩:=h
 obtain ⟨t,rfl⟩:=rx
 obtain ⟨t',rfl⟩:=ry
 exact add_str (fun t' tk=>⟨.str (i ++ j),H,I.tok _,⟨_,rfl⟩,q⟩) hz
theorem uT {x:V} {us:List Value} (r:yD [x] us):∃ u,us=[u]/\yM x u:=by
 cases r with
 | cons r1 r2=>cases r2;exact ⟨_,rfl,r1⟩
theorem pW:wW X (.type "int") (fun xs H Q=>(∃ i,xs=[.int i]/\Q (.int i) H) \/ ∃ k,xs=[.bl k]/\Q (.int (if k then 1 else 0)) H):=by
 intro pins s σ H xs us Q I r h
 rcases h with ⟨i,rfl,q⟩ | ⟨k,rfl,q⟩
 ·obtain ⟨u,rfl,t,rfl⟩:=uT r
  exact call_int_int ⟨.int i,H,I,⟨_,rfl⟩,q⟩
 ·obtain ⟨u,rfl,r1⟩:=uT r
  cases r1
  exact call_int_bool ⟨.int (if k then 1 else 0),H,I.tok _,⟨_,rfl⟩,q⟩
def zAY (K:PySem.W.Frag) (x:V) (H:Hp) (n:Nat):Prop:=
 match x with
 | .str y=>y.length <= sizeLine/\n=y.length
 | .byt y=>y.size <= sizeLine/\n=y.size
 | .ref p=>(∃ xs,SqL K H p xs/\n=xs.length) \/ ∃ xs,SqT K H p xs/\n=xs.length
 | _=>False
theorem yT:wW X (.builtin "len") (fun xs H Q=>∃ x n,xs=[x]/\zAY X.K x H n/\Q (.int n) H):=by
 intro pins s σ H xs us Q I r h
 obtain ⟨x,n,rfl,e,q⟩:=h
 obtain ⟨u,rfl,rx⟩:=uT r
 have hl:=sR
 have hs:sizeLine=16777216:=sizeLine_eq
 cases x with
 | str y=>
  obtain ⟨t,rfl⟩:=rx
  obtain ⟨hy,e'⟩:y.length <= sizeLine/\n=y.length:=e
  subst e'
  exact len_str (by omega) ⟨.int _,H,I.tok _,⟨_,rfl⟩,q⟩
 | byt y=>
  obtain ⟨t,rfl⟩:=rx
  obtain ⟨hy,e'⟩:y.size <= sizeLine/\n=y.size:=e
  subst e'
  exact PySem.W.len_bytes (by omega) ⟨.int _,H,I.tok _,⟨_,rfl⟩,q⟩
 | ref p=>
  cases rx
  have e':(∃ xs,SqL X.K H p xs/\n=xs.length) \/ ∃ xs,SqT X.K H p xs/\n=xs.length:=e
  rcases e' with ⟨xs,hx,e'⟩ | ⟨xs,hx,e'⟩
  ·subst e'
   obtain ⟨its,r',pl,hz⟩:=I.list hx
   have hlen:=r'.length
   exact Calls.call_len_list pl.isList (by simp only [zGF];omega) ⟨.int xs.length,H,I.tok _,⟨_,by simp only [zGF];rw [hlen]⟩,q⟩
  ·subst e'
   obtain ⟨its,r',pl,hz⟩:=I.tuple hx
   have hlen:=r'.length
   exact len_tuple pl (by simp only [zGF];omega) ⟨.int xs.length,H,I.tok _,⟨_,by simp only [zGF];rw [hlen]⟩,q⟩
 | _=>exact (show False from e).elim
end
end L2
namespace L2
open PySem PySem.Spec PyProof.Rows
structure jG (h:Heap) (x dx C:Addr) (mA:Str->Option Value):Prop where
 obj:h.get? x=some (PySem.W.instObj C dx)
 ns:h.Ns1 dx mA
 ne:dx ≠ x
theorem gC {h:Heap} {dx:Addr} {mA:Str->Option Value} (n:h.Ns1 dx mA):∃ od,h.get? dx=some od/\∀ name,PySem.W.lookIn name od=some (mA name):=by
 obtain ⟨o,es,ep,ho,hd,hk,_,hm⟩:=n
 refine ⟨o,ho,fun name=>?_⟩
 have e:=hm name
 unfold nsFind findBy at e
 rw [<- Array.find?_toList] at e
 unfold PySem.W.lookIn
 rw [hd]
 dsimp only
 split
 ·rename_i y q
  rw [q] at e
  exact congrArg some e
 ·rename_i q
  rw [q] at e
  have a:es.toList.any (·.refKey)=false:=by
   rw [List.any_eq_false]
   intro y hy
   obtain ⟨z,t,hkey⟩:=hk y (Array.mem_toList_iff.mp hy)
   simp [DictEntry.refKey,hkey]
  have a':¬ es.toList.any (·.refKey)=true:=by rw [a];exact zGZ
  rw [if_neg a']
  exact congrArg some e
theorem jG.look {h:Heap} {x dx C:Addr} {mA:Str->Option Value} (I:jG h x dx C mA):∃ od,PySem.W.InstAt h x (PySem.W.instObj C dx) C (some od)/\∀ name,PySem.W.lookIn name od=some (mA name):=
 let ⟨od,ho,hl⟩:=gC I.ns
 ⟨od,⟨I.obj,rfl,rfl,ho⟩,hl⟩
section
variable {prog:Program} {w:World} {A:Around} {E:Value->Shared->Prop} {s:Shared} {K:PySem.W.Frag} {x dx C f:Addr} {mA:Str->Option Value} {name:Str} {v:Value}
theorem zAH {expr:Bool} {Q:Value->Shared->Prop} (X:K.In s.heap) (I:jG s.heap x dx C mA) (hg:PySem.W.plainGet K C name=true) (hh:PySem.W.hasDictIn K C=true)
  (ha:PySem.W.findIn K (.ref C) name=some none) (hv:mA name=some v) (hv':PySem.W.handedIn v=true) (h:Q v { s with toks:=s.toks + 1 }) :
  wpAny (model prog w) A (getAttr (.ref x) name expr) Q E s:=by
 obtain ⟨od,J,hl⟩:=I.look
 exact PySem.W.get_value X J (PySem.W.plainGet_of hg).1 (PySem.W.findObj_own hh ha rfl (by rw [hl,hv])) hv' h
theorem cF {pl:Sem Bool} {Q:Value × List Value->Shared->Prop} (X:K.In s.heap) (I:jG s.heap x dx C mA) (hg:PySem.W.plainGet K C name=true)
  (hf:PySem.W.findIn K (.ref C) name=some (some (.ref f))) (ht:PySem.W.isFn K (.ref f)=true) (hv:mA name=none) (h:Q (.ref f,[.ref x]) s) :
  wpAny (model prog w) A (getMethod (.ref x) name pl) Q E s:=by
 obtain ⟨od,J,hl⟩:=I.look
 exact PySem.W.method_fn X J (PySem.W.plainGet_of hg).1 (PySem.W.plainGet_of hg).2 hf (beq_iff_eq.mp ht) (by show (PySem.W.lookIn name od).map (·.isSome)=some false;rw [hl,hv];rfl) h
theorem bP {ns:List Str} {Q:Unit->Shared->Prop} (X:K.In s.heap) (I:jG s.heap x dx C mA)
  (hs:PySem.W.findIn K (.ref C) "__setattr__"=some (some (.builtin "object.__setattr__"))) (hp:PySem.W.plainOver K C=true) (ht:PySem.W.takerIn K C name=some none) (hh:PySem.W.hasDictIn K C=true)
  (hw:PySem.Within mA ns) (hsz:ns.length <= sizeLine)
  (h:∀ h',jG h' x dx C (fun y=>if y=name then some v else mA y)->Heap.SameBut dx s.heap h'->Q () { s with heap:=h',toks:=s.toks + 2 }) :
  wpAny (model prog w) A (setAttr (.ref x) name v) Q E s:=by
 obtain ⟨od,J,hl⟩:=I.look
 refine PySem.W.set_plain X J hs (PySem.W.osa_open (s:={ s with toks:=s.toks + 1 }) (r:=none) X J hp ht fun b=>?_)
 obtain ⟨cd,hc,hd'⟩:=PySem.W.any_some hh
 have hx:s.heap.get? x=some ⟨.ref C,some dx,.plain,#[]⟩:=I.obj
 refine wpAny_bind (wpAny_pure (wpAny_bind (wpAny_bind (wpAny_loadPart hx (wpAny_bind (PySem.W.Looks.here (s:={ s with toks:=s.toks + 1 }) (PySem.W.looks_clsIn X hc) ?_))))))
 rw [hd']
 refine wpAny_pure (a:=some dx) (wpAny_bind (wpAny_pure (wpAny_bind ?_)))
 refine wpAny_nsSet1 (s:={ s with toks:=s.toks + 1 }) I.ns fun h' hn2 hs2=>?_
 obtain ⟨oD,esD,epD,hoD,hdD,hcD⟩:=hn2.count (PySem.Within.cons name v hw)
 refine wpAny_bind (wpAny_lookBehind hoD (by rw [hdD];exact pastItsLine_dict (zGI hcD (by rw [zGS];omega))) ?_)
 exact wpAny_pure (h _ ⟨(hs2.2 _ (Ne.symm I.ne)).trans I.obj,hn2,I.ne⟩ hs2)
theorem dN {R:Result->Shared->Prop} {vs:List Value} {kw:List (Str × Value)} (X:K.In s.heap) (hm:PySem.W.makesIn K C=true)
  (hi:PySem.W.findIn K (.ref C) "__init__"=some (some (.ref f))) (hf:PySem.W.typeIn K (.ref f)=some (.type "function"))
  (h:codeAny (model prog w) (A.under (.builtin "type.__call__" ⟨.ref C :: vs,kw⟩)) (.call (.ref f) ⟨.ref (s.heap.objs.size + 1) :: vs,kw⟩) (PySem.W.InitBack (s.heap.objs.size + 1) R)
   { s with heap:=(s.heap.push PySem.W.emptyDict).push (PySem.W.instObj C s.heap.objs.size) }) :
  codeAny (model prog w) A (.call (.ref C) ⟨vs,kw⟩) R s:=by
 obtain ⟨hh,g,d,t,os⟩:=s
 exact PySem.W.make_core (PySem.W.makes_of X hm) (PySem.W.looks_findIn X hi) (fun self=>PySem.W.bind_fn X self hf) (.inl rfl) h
end
def xP (f:Str) (v:V):List (Str × V)->List (Str × V)
 | []=>[(f,v)]
 | (g,x) :: r=>if g=f then (g,v) :: r else (g,x) :: xP f v r
theorem rC (f g:Str) (v:V):∀ fs:List (Str × V),(xP f v fs).lookup g=if g=f then some v else fs.lookup g
 | []=>by
  show List.lookup g [(f,v)]=_
  by_cases h:g=f
  ·have hb:(g == f)=true:=beq_iff_eq.mpr h
   simp only [List.lookup,hb,if_pos h]
  ·have hb:(g == f)=false:=beq_eq_false_iff_ne.mpr h
   simp only [List.lookup,hb,if_neg h]
 | (k,x) :: r=>by
  have ih:=rC f g v r
  rw [show xP f v ((k,x) :: r)=(if k=f then (k,v) :: r else (k,x) :: xP f v r) from rfl]
  by_cases hk:k=f
  ·rw [if_pos hk]
   by_cases h:g=k
   ·have hb:(g == k)=true:=beq_iff_eq.mpr h
    simp only [List.lookup,hb,if_pos (h.trans hk)]
   ·have hb:(g == k)=false:=beq_eq_false_iff_ne.mpr h
    simp only [List.lookup,hb,if_neg (fun e:g=f=>h (e.trans hk.symm))]
  ·rw [if_neg hk]
   by_cases h:g=k
   ·have hb:(g == k)=true:=beq_iff_eq.mpr h
    simp only [List.lookup,hb,if_neg (fun e:g=f=>hk (h.symm.trans e))]
   ·have hb:(g == k)=false:=beq_eq_false_iff_ne.mpr h
    simp only [List.lookup,hb]
    exact ih
theorem sT (f:Str) (v:V):∀ fs:List (Str × V),f ∈ (xP f v fs).map (·.1)/\∀ g,g ∈ fs.map (·.1)->g ∈ (xP f v fs).map (·.1)
 | []=>⟨by simp [xP],fun g h=>by simp at h⟩
 | (k,x) :: r=>by
  obtain ⟨i1,i2⟩:=sT f v r
  rw [show xP f v ((k,x) :: r)=(if k=f then (k,v) :: r else (k,x) :: xP f v r) from rfl]
  by_cases hk:k=f
  ·rw [if_pos hk]
   subst hk
   exact ⟨by simp,fun g h=>by simpa using h⟩
  ·rw [if_neg hk]
   refine ⟨?_,fun g h=>?_⟩
   ·rw [List.map_cons]
    exact zGK _ i1
   ·rw [List.map_cons] at h ⊢
    rcases List.mem_cons.mp h with e | e
    ·exact List.mem_cons.mpr (.inl e)
    ·exact zGK _ (i2 g e)
theorem rD (f:Str) (v:V):∀ fs:List (Str × V),(xP f v fs).length <= fs.length + 1
 | []=>by simp [xP]
 | (k,x) :: r=>by
  have ih:=rD f v r
  rw [show xP f v ((k,x) :: r)=(if k=f then (k,v) :: r else (k,x) :: xP f v r) from rfl]
  by_cases hk:k=f
  ·rw [if_pos hk,zGS,zGS];omega
  ·rw [if_neg hk,zGS,zGS];omega
theorem u4.some_of {v:V} {o:Option Value} (r:u4 (some v) o):∃ u,o=some u/\yM v u:=by
 cases o with
 | none=>exact (show False from r).elim
 | some u=>exact ⟨u,rfl,r⟩
theorem u4.none_of {o:Option Value} (r:u4 none o):o=none:=by
 cases o with
 | none=>rfl
 | some u=>exact (show False from r).elim
theorem gM {v:V} {u:Value} (r:yM v u):PySem.W.handedIn u=true:=by
 cases v with
 | non=>cases (show u=Value.none from r);rfl
 | bl b=>cases (show u=Value.bool b from r);rfl
 | int i=>obtain ⟨t,e⟩:=(show ∃ t,u=Value.int i t from r);cases e;rfl
 | str x=>obtain ⟨t,e⟩:=(show ∃ t,u=Value.str x t from r);cases e;rfl
 | byt b=>obtain ⟨t,e⟩:=(show ∃ t,u=Value.bytes b t from r);cases e;rfl
 | flt b=>obtain ⟨t,e⟩:=(show ∃ t,u=Value.float b t from r);cases e;rfl
 | ref a=>cases (show u=Value.ref a from r);rfl
 | ty n=>cases (show u=Value.type n from r);rfl
section
variable {P:Program} {w:World} {H H':Hp} {h h':Heap} {a C dx:Addr} {fs fs':List (Str × V)}
theorem rY (hok:HOk P w H h) (e:H a=some (.ins C dx fs)):∃ mA,jG h a dx C mA/\(∀ f,u4 (fs.lookup f) (mA f))/\PySem.Within mA (fs.map (·.1))/\fs.length <= 1000/\H dx=some (.own a):=by
 obtain ⟨d,z,ne,ob,mA,n,r,q⟩:=(show xF P w H h a (.ins C dx fs) from hok a _ e)
 exact ⟨mA,⟨ob,n,ne⟩,r,q,z,d⟩
end
structure Cls (K:PySem.W.Frag) (C:Addr):Prop where
 pg:PySem.W.plainGet K C Str.empty=true
 hd:PySem.W.hasDictIn K C=true
 po:PySem.W.plainOver K C=true
 sa:PySem.W.findIn K (.ref C) "__setattr__"=some (some (.builtin "object.__setattr__"))
theorem Cls.get {K:PySem.W.Frag} {C:Addr} (c:Cls K C) (f:Str):PySem.W.plainGet K C f=true:=c.pg
def wZ (K:PySem.W.Frag) (C:Addr) (f:Str):Prop:=PySem.W.findIn K (.ref C) f=some none
theorem wZ.taker {K:PySem.W.Frag} {C:Addr} {f:Str} (n:wZ K C f):PySem.W.takerIn K C f=some none:=by
 unfold PySem.W.takerIn
 rw [show PySem.W.findIn K (.ref C) f=some none from n]
 rfl
structure bG (K:PySem.W.Frag) (C:Addr) (m:Str) (f:Addr):Prop where
 at_:PySem.W.findIn K (.ref C) m=some (some (.ref f))
 fn:PySem.W.isFn K (.ref f)=true
 kp:PySem.W.keepIn K (.ref f)=true
section
variable {X:Cx} {pins:List (Addr × Obj)} {σ:St} {H:Hp} {s:Shared} {a C dx:Addr} {fs:List (Str × V)} {f:Str} {v:V} {A:Around} {E:Value->Shared->Prop}
theorem kU {b:Bool} {Q:Value->Shared->Prop} (I:Inv X pins σ H s) (e:H a=some (.ins C dx fs)) (c:Cls X.K C) (n:wZ X.K C f) (l:fs.lookup f=some v)
  (h:∀ u s',Inv X pins σ H s'->yM v u->Q u s'):wpAny (model X.prog X.w) A (getAttr (.ref a) f b) Q E s:=by
 obtain ⟨mA,O,r,_,_,_⟩:=rY I.hok e
 obtain ⟨u,hu,ru⟩:=u4.some_of (v:=v) (o:=mA f) (by rw [<- l];exact r f)
 exact zAH I.kIn O (c.get f) c.hd n hu (gM ru) (h u _ (I.tok _) ru)
theorem qT {m:Str} {g:Addr} {pl:Sem Bool} {Q:Value × List Value->Shared->Prop} (I:Inv X pins σ H s) (e:H a=some (.ins C dx fs)) (c:Cls X.K C) (k:bG X.K C m g) (l:fs.lookup m=none)
  (h:Q (.ref g,[.ref a]) s):wpAny (model X.prog X.w) A (getMethod (.ref a) m pl) Q E s:=by
 obtain ⟨mA,O,r,_,_,_⟩:=rY I.hok e
 have hn:mA m=none:=u4.none_of (by rw [<- l];exact r m)
 exact cF I.kIn O (c.get m) k.at_ k.fn hn h
theorem kA {y:V} {u:Value} {Q:Unit->Shared->Prop} (I:Inv X pins σ H s) (e:H a=some (.ins C dx fs)) (c:Cls X.K C) (n:wZ X.K C f) (hl:fs.length < 1000) (ry:yM y u)
  (h:∀ s',Inv X pins σ (upd H a (.ins C dx (xP f y fs))) s'->Q () s'):wpAny (model X.prog X.w) A (setAttr (.ref a) f u) Q E s:=by
 obtain ⟨mA,O,r,wi,_,ho⟩:=rY I.hok e
 have hz:(fs.map (·.1)).length <= sizeLine:=by rw [zF7,sizeLine_eq];omega
 refine bP I.kIn O c.sa c.po n.taker c.hd wi hz fun h' O' sb=>h _ ?_
 have hd:∃ o,h'.get? dx=some o:=let ⟨o,_,_,e',_⟩:=O'.ns;⟨o,e'⟩
 refine I.write (x:=a) (e:=dx) (by rw [e];exact True.intro) (.inr ho) (fun b q hb z=>(sb.2 b hb).trans z) hd ?_
 refine ⟨by rw [zI O.ne];exact ho,?_,O.ne,O'.obj,_,O'.ns,fun g=>?_,fun g hg=>?_⟩
 ·have:=rD f y fs;omega
 ·show u4 ((xP f y fs).lookup g) (if g=f then some u else mA g)
  rw [rC]
  by_cases q:g=f
  ·rw [if_pos q,if_pos q];exact ry
  ·rw [if_neg q,if_neg q];exact r g
 ·by_cases q:g=f
  ·rw [q];exact (sT f y fs).1
  ·refine (sT f y fs).2 g (wi g fun z=>hg ?_)
   show (if g=f then some u else mA g)=none
   rw [if_neg q];exact z
theorem Inv.made (I:Inv X pins σ H s):Inv X pins σ (upd (upd H s.heap.objs.size (.own (s.heap.objs.size + 1))) (s.heap.objs.size + 1) (.ins C s.heap.objs.size []))
  { s with heap:=(s.heap.push PySem.W.emptyDict).push (PySem.W.instObj C s.heap.objs.size) }:=by
 have e1:(s.heap.push PySem.W.emptyDict).get? s.heap.objs.size=some PySem.W.emptyDict:=Heap.get?_push_size s.heap rfl
 have e2:((s.heap.push PySem.W.emptyDict).push (PySem.W.instObj C s.heap.objs.size)).get? (s.heap.objs.size + 1)=some (PySem.W.instObj C s.heap.objs.size):=by
  have:=Heap.get?_push_size (s.heap.push PySem.W.emptyDict) (o:=PySem.W.instObj C s.heap.objs.size) rfl
  rwa [Heap.size_push] at this
 have e3:(s.heap.push PySem.W.emptyDict).Ns s.heap.objs.size (fun _=>none):=⟨PySem.W.emptyDict,#[],_,e1,rfl,(fun e he=>absurd he (by simp)),fun _=>rfl⟩
 have I1:=I.laid (a:=s.heap.objs.size) (o:=.own (s.heap.objs.size + 1)) (h':=s.heap.push PySem.W.emptyDict) (t':=s.toks) (fun b u q=>Heap.get?_push_of_some _ q) (zGG _) ⟨_,e1⟩
 refine I1.laid (a:=s.heap.objs.size + 1) (o:=.ins C s.heap.objs.size []) (t':=s.toks) (fun b u q=>Heap.get?_push_of_some _ q) (Nat.le_of_eq (Heap.size_push _ _)) ?_
 have ne:s.heap.objs.size ≠ s.heap.objs.size + 1:=zGY (Nat.lt_succ_self _)
 refine ⟨by rw [zI ne,zB],zGH _,ne,e2,fun _=>none,(Heap.Ns1.of_empty e3).at fun o q=>Heap.get?_push_of_some _ q,fun _=>True.intro,fun y hy=>absurd rfl hy⟩
theorem zAV {prog:Program} {w:World} {env:Env} {e:Expr} {f:Str} {pos:Pos} {s:Shared} {Q:Value->Shared->Prop} (hb:attributeBase e f env (eval e env)=eval e env)
  (h:wpAny (model prog w) A (eval e env) (fun o s₁=>wpAny (model prog w) A (getAttr o f true) Q E s₁) E s):wpAny (model prog w) A (eval (.Attribute e f pos) env) Q E s:=
 Attribute_any_ h (by rw [arm_eval_Attribute,hb])
end
def tFld (K:PySem.W.Frag) (ta:TE) (f:Str):TE:=fun σ H Q=>ta σ H fun x H1=>∃ a C dx fs v,x=.ref a/\H1 a=some (.ins C dx fs)/\Cls K C/\wZ K C f/\fs.lookup f=some v/\Q v H1
def eD (K:PySem.W.Frag) (ta tv:TE) (f:Str):TS:=fun D σ H=>tv σ H fun y H1=>ta σ H1 fun x H2=>∃ a C dx fs,x=.ref a/\H2 a=some (.ins C dx fs)/\Cls K C/\wZ K C f/\fs.length < 1000 /\
 D.nx σ (upd H2 a (.ins C dx (xP f y fs)))
section
variable {X:Cx} {o e value:Expr} {f:Str} {pos pos' tpos:Pos} {ta tv:TE}
theorem yF (he:PE X e ta) (hb:attributeBase e f X.env (eval e X.env)=eval e X.env):PE X (.Attribute e f pos) (tFld X.K ta f):=by
 intro pins s σ H Q I h
 refine zAV hb (thn (he pins s σ H _ I h) fun u s1 hz25=>?_)
 obtain ⟨x,H1,I1,rx,a,C,dx,fs,v,ex,ea,c,n,l,q⟩:=hz25
 subst ex
 obtain rfl:u=Value.ref a:=rx
 exact kU I1 ea c n l fun u' s2 I2 ru=>⟨v,H1,I2,ru,q⟩
theorem wM (ha:PE X o ta) (hv:PE X value tv) (hs:swapsWith value (some (.Attribute o f pos')) pos.line X.env=pure false):PS X (.Assign [.Attribute o f pos'] value pos) (eD X.K ta tv f):=by
 intro pins s σ H D I h
 refine plainObj_wpAny_Assign_Attribute (thn (hv pins s σ H _ I h) fun u s1 hz26=>?_) hs
 obtain ⟨y,H1,I1,ry,q⟩:=hz26
 refine thn (ha pins s1 σ H1 _ I1 q) fun ov s2 hz27=>?_
 obtain ⟨x,H2,I2,rx,a,C,dx,fs,ex,ea,c,n,l,q2⟩:=hz27
 subst ex
 obtain rfl:ov=Value.ref a:=rx
 exact kA I2 ea c n l ry fun s3 I3=>⟨σ,_,I3,q2⟩
end
section
variable {X:Cx} {pins:List (Addr × Obj)} {σ:St} {H:Hp} {s:Shared} {A:Around} {E:Value->Shared->Prop} {Q:Value->Shared->Prop} {c:Value} {b:Bool}
inductive sE (K:PySem.W.Frag) (H:Hp):V->Value->Prop where
 | non:sE K H .non (.type "NoneType")
 | bl (x:Bool):sE K H (.bl x) (.type "bool")
 | int (i:Int):sE K H (.int i) (.type "int")
 | str (x:Str):sE K H (.str x) (.type "str")
 | flt (x:UInt64):sE K H (.flt x) (.type "float")
 | lst {a:Addr} {xs:List V} (e:H a=some (.lst xs)):sE K H (.ref a) (.type "list")
 | frz {a:Addr} {o:Obj} {xs:List V} (e:H a=some (.frz o (.lst xs))):sE K H (.ref a) (.type "list")
 | tup {a:Addr} {xs:List V} (e:H a=some (.tup xs)):sE K H (.ref a) (.type "tuple")
 | dK {a:Addr} {kvs:List (Key × V)} (e:H a=some (.dK kvs)):sE K H (.ref a) (.type "dict")
 | dT {a:Addr} {kvs:List (List Key × V)} (e:H a=some (.dT kvs)):sE K H (.ref a) (.type "dict")
 | ins {a C dx:Addr} {fs:List (Str × V)} (e:H a=some (.ins C dx fs)) (cl:Cls K C) (ha:PySem.W.findIn K (.ref C) "__class__"=some (some (.builtin "object.__class__")))
   (hn:PySem.W.specialIn K (.builtin "object.__class__") "__get__"=some (some (.builtin "getset_descriptor.__get__"))) (htk:PySem.W.takesIn K (.builtin "object.__class__")=some true)
   (hm:PySem.W.mroIn K C (.type "object")=some true):sE K H (.ref a) (.ref C)
theorem gI {x:V} {u t:Value} (I:Inv X pins σ H s) (rx:yM x u) (ty:sE X.K H x t) (e:PySem.W.kitOne X.K t c=some b) (h:∀ tk,Q (.bool b) { s with toks:=tk }) :
  wpAny (model X.prog X.w) A (call (.builtin "isinstance") [u,c]) Q E s:=by
 cases ty with
 | non=>cases (show u=Value.none from rx);exact PySem.W.kia_one PySem.W.kitx_none I.kIn True.intro e (fun z=>nomatch z) h
 | bl y=>cases (show u=Value.bool y from rx);exact PySem.W.kia_one PySem.W.kitx_bool I.kIn True.intro e (fun z=>nomatch z) h
 | int i=>obtain ⟨t,q⟩:=(show ∃ t,u=Value.int i t from rx);cases q;exact PySem.W.kia_one PySem.W.kitx_int I.kIn True.intro e (fun z=>nomatch z) h
 | str y=>obtain ⟨t,q⟩:=(show ∃ t,u=Value.str y t from rx);cases q;exact PySem.W.kia_one PySem.W.kitx_str I.kIn True.intro e (fun z=>nomatch z) h
 | flt y=>obtain ⟨t,q⟩:=(show ∃ t,u=Value.float y t from rx);cases q;exact PySem.W.kia_one PySem.W.kitx_float I.kIn True.intro e (fun z=>nomatch z) h
 | @lst a xs ea=>
  cases (show u=Value.ref a from rx)
  obtain ⟨_,_,n,_,h1⟩:=(show xF X.prog X.w H s.heap a (.lst xs) from I.hok a _ ea)
  exact PySem.W.kia_one PySem.W.kitx_list I.kIn ⟨_,h1,rfl⟩ e (fun z=>nomatch z) h
 | @frz a ob xs ea=>
  cases (show u=Value.ref a from rx)
  obtain ⟨_,_,_,n,_,h1⟩:=(show xF X.prog X.w H s.heap a (.frz ob (.lst xs)) from I.hok a _ ea)
  exact PySem.W.kia_one PySem.W.kitx_list I.kIn ⟨_,h1,rfl⟩ e (fun z=>nomatch z) h
 | @tup a xs ea=>
  cases (show u=Value.ref a from rx)
  obtain ⟨_,_,_,p⟩:=(show xF X.prog X.w H s.heap a (.tup xs) from I.hok a _ ea)
  obtain ⟨o,h1,h2,_⟩:=p
  exact PySem.W.kia_one PySem.W.kitx_tuple I.kIn ⟨o,h1,h2⟩ e (fun z=>nomatch z) h
 | @dK a kvs ea=>
  cases (show u=Value.ref a from rx)
  obtain ⟨_,_,vs,_,p⟩:=(show xF X.prog X.w H s.heap a (.dK kvs) from I.hok a _ ea)
  obtain ⟨o,es,ep,h1,h2,_⟩:=p
  exact PySem.W.kia_one PySem.W.kitx_dict I.kIn ⟨o,h1,h2.1⟩ e (fun z=>nomatch z) h
 | @dT a kvs ea=>
  cases (show u=Value.ref a from rx)
  obtain ⟨_,_,xs,_,o,es,ep,h1,h2,_⟩:=(show xF X.prog X.w H s.heap a (.dT kvs) from I.hok a _ ea)
  exact PySem.W.kia_one PySem.W.kitx_dict I.kIn ⟨o,h1,h2.1⟩ e (fun z=>nomatch z) h
 | @ins a C dx fs ea cl ha hn htk hm=>
  cases (show u=Value.ref a from rx)
  obtain ⟨mA,O,_⟩:=rY I.hok ea
  obtain ⟨od,J,_⟩:=O.look
  exact PySem.W.kia_one (PySem.W.kitx_own (cl.get _) cl.hd ha hn htk hm) I.kIn J e (fun z=>nomatch z) h
end
end L2
namespace L2
open PySem PySem.Spec PyProof.Rows
structure z7 (k:Nat) (A:Around):Prop where
 hd:A.handled=none
 dp:A.depth + 3 * k + 5 < recursionLimit
 un:A.units + 16 * k + 200 < cLine
theorem z7.mono {j k:Nat} {A:Around} (r:z7 k A) (h:j <= k):z7 j A:=⟨r.hd,by have:=r.dp;omega,by have:=r.un;omega⟩
theorem z7.deeper {k:Nat} {A:Around} (r:z7 (k + 1) A) (env:Env):z7 k (A.deeper env):=
 ⟨r.hd,by have:=r.dp;show A.depth + 1 + 3 * k + 5 < _;omega,by have:=r.un;show A.units + 3 + 16 * k + 200 < _;omega⟩
theorem kO {A:Around} {C:Addr} {us:List Value} {kw:List (Str × Value)}:(A.under (.builtin "type.__call__" ⟨.ref C :: us,kw⟩)).depth=A.depth + 1:=by
 first | rfl | simp [Around.under,Code.weight,Code.isCreation,Code.isGuard,Code.isCaller,Code.frames,Code.isFrame,guardIds]
theorem kN {A:Around} {C:Addr} {us:List Value} {kw:List (Str × Value)}:(A.under (.builtin "type.__call__" ⟨.ref C :: us,kw⟩)).units=A.units + 1:=by
 first | rfl | simp [Around.under,Code.cUnits,Code.frames,Code.isFrame]
theorem z7.make {k:Nat} {A:Around} (r:z7 (k + 1) A) (C:Addr) (us:List Value) (kw:List (Str × Value)):z7 k (A.under (.builtin "type.__call__" ⟨.ref C :: us,kw⟩)):=
 ⟨r.hd,by have:=r.dp;rw [kO];omega,by have:=r.un;rw [kN];omega⟩
theorem z7.depth {k:Nat} {A:Around} (r:z7 k A):A.depth < recursionLimit:=by have:=r.dp;omega
theorem z7.units {k:Nat} {A:Around} (r:z7 k A):A.units + 64 < cLine:=by have:=r.un;omega
def nX:TA:=fun _ H Q=>Q [] H
def tS (ta:TE) (tr:TA):TA:=fun σ H Q=>ta σ H fun x H1=>tr σ H1 fun xs H2=>Q (x :: xs) H2
section
variable {X:Cx} {e:Expr} {es:List Expr} {te:TE} {t:TA} {pos:Pos}
theorem zD:PA X [] nX:=fun _ _ _ _ H Q I h=>Calls.spliced_nil ⟨[],H,I,.nil,h⟩
theorem zA (ha:PE X e te) (hr:PA X es t) (hs:starEach (e :: es) X.env=(false,eval e X.env) :: starEach es X.env:=by rfl):PA X (e :: es) (tS te t):=by
 intro pos pins s σ H Q I h
 rw [hs]
 show wpAny _ _ (spliced ((false,eval e X.env) :: backTo pos (starEach es X.env))) _ _ s
 refine Calls.spliced_cons (thn (ha pins s σ H _ I h) fun u s1 hz28=>?_)
 obtain ⟨x,H1,I1,r1,q1⟩:=hz28
 exact thn (hr pos pins s1 σ H1 _ I1 q1) fun us s2 ⟨xs,H2,I2,r2,q2⟩=>⟨x :: xs,H2,I2,.cons r1 r2,q2⟩
def zBU (t:TA):TE:=fun σ H Q=>t σ H fun xs H1=>xs.length <= sizeLine/\∀ p,H1 p=none->Q (.ref p) (upd H1 p (.tup xs))
def bJ (t:TA):TE:=fun σ H Q=>t σ H fun xs H1=>xs.length <= sizeLine/\∀ p,H1 p=none->Q (.ref p) (upd H1 p (.lst xs))
theorem z8 {x1} (h:PA X es t):PE X (.Tuple es x1 pos) (zBU t):=by
 intro pins s σ H Q I hq
 refine wpAny_Tuple_spliced (thn (h pos pins s σ H _ I hq) fun us s1 hz29=>?_)
 obtain ⟨xs,H1,I1,r,z,q⟩:=hz29
 refine ⟨by rw [<- r.length];exact z,?_⟩
 have hf:H1 s1.heap.objs.size=none:=I1.hok.fresh (zGG _)
 refine ⟨.ref s1.heap.objs.size,upd H1 s1.heap.objs.size (.tup xs),I1.laid (t':=s1.toks) (fun b u e=>Heap.get?_push_of_some _ e) (zGG _) ?_,rfl,q _ hf⟩
 exact ⟨z,us,r,⟨_,Heap.get?_push_size _ rfl,rfl,_,rfl⟩⟩
theorem y8 (h:PA X es t):PE X (.List es pos) (bJ t):=by
 intro pins s σ H Q I hq
 refine wpAny_List_spliced (thn (h pos pins s σ H _ I hq) fun us s1 hz30=>?_)
 obtain ⟨xs,H1,I1,r,z,q⟩:=hz30
 refine ⟨by rw [<- r.length];exact z,?_⟩
 have hf:H1 s1.heap.objs.size=none:=I1.hok.fresh (zGG _)
 refine ⟨.ref s1.heap.objs.size,upd H1 s1.heap.objs.size (.lst xs),I1.laid (t':=s1.toks) (fun b u e=>Heap.get?_push_of_some _ e) (zGG _) ?_,rfl,q _ hf⟩
 exact ⟨z,us,0,r,Heap.get?_push_size _ rfl⟩
end
abbrev Sp:=List V->Hp->VK->XK->Prop
abbrev CXT:=List Env->Hp->Shared->XK->Value->Shared->Prop
structure jH (P:Program) (w:World) (K:PySem.W.Frag) (mg:Str->Option Value) (base:Heap) (A:Around) (outer:List Env) (s:Shared) (H:Hp):Prop where
 frames:A.frames=some outer
 mod:Mod K mg base
 bs:∀ b o,base.get? b=some o->s.heap.get? b=some o/\H b=none
 bsz:base.objs.size <= s.heap.objs.size
 funs:s.heap.FunFrames base outer
 frf:∀ b ∈ frs outer,H b=none
 hok:HOk P w H s.heap
 bare:AllBare s.gens
def CE (outer:List Env) (P:Program) (w:World) (H:Hp) (s:Shared) (Q:VK) (u:Value) (s':Shared):Prop:=
 ∃ v H',s'.os=s.os/\AllBare s'.gens/\Un (frs outer) [] H H' s.heap s'.heap/\HOk P w H' s'.heap/\yM v u/\Q v H'
def CR (CX:CXT) (outer:List Env) (P:Program) (w:World) (H:Hp) (s:Shared) (Q:VK) (E:XK) (r:Result) (s':Shared):Prop:=
 match r with
 | .ok (.ret u)=>CE outer P w H s Q u s'
 | .ok _=>False
 | .error e=>CX outer H s E e s'
structure uW (P:Program) (w:World) (K:PySem.W.Frag) (mg:Str->Option Value) (base:Heap) (CX:CXT) (k:Nat) (f:Addr) (fd:FuncData) (ps:List Str) (sp:Sp):Prop where
 len:∀ vs H Q E,sp vs H Q E->vs.length=ps.length
 run:∀ (A:Around) (outer:List Env) (s:Shared) (H:Hp) (args:Args) (us:List Value) (vs:List V) (Q:VK) (E:XK),z7 k A->jH P w K mg base A outer s H->BindsTo s fd args (ps.zip us)->yD vs us->sp vs H Q E ->
  codeAny (model P w) A (.call (.ref f) args) (CR CX outer P w H s Q E) s
theorem jH.make {P:Program} {w:World} {K:PySem.W.Frag} {mg:Str->Option Value} {base:Heap} {A:Around} {outer:List Env} {s:Shared} {H:Hp} (e:jH P w K mg base A outer s H) (C:Addr) (us:List Value) (kw:List (Str × Value)) :
  jH P w K mg base (A.under (.builtin "type.__call__" ⟨.ref C :: us,kw⟩)) outer s H:=⟨by first | exact e.frames | (simpa [Around.under,Code.envs,Code.isFrame,pushEnvs] using e.frames),e.mod,e.bs,e.bsz,e.funs,e.frf,e.hok,e.bare⟩
section
variable {X:Cx} {pins:List (Addr × Obj)} {σ:St} {H:Hp} {s s':Shared}
theorem Inv.env0 (I:Inv X pins σ H s):jH X.prog X.w X.K X.mg X.base X.A X.stack s H:=
 ⟨I.ok.frames,I.ok.mod,I.bs,zGI I.ok.bsz I.sz,I.stack,I.stkFree,I.hok,I.bare⟩
theorem Inv.after {Q:VK} {u:Value} (I:Inv X pins σ H s) (h:CE X.stack X.prog X.w H s Q u s'):EP X pins σ Q u s':=by
 obtain ⟨v,H',os,bare,un,hok,r,q⟩:=h
 obtain ⟨hh,g,d,t,os'⟩:=s'
 obtain rfl:os'=s.os:=os
 exact ⟨v,H',I.call (h':=hh) (g':=g) (d':=d) (t':=t) (ch:=[]) un hok bare (fun b z=>absurd z (by simp)),r,q⟩
end
def fO (sp:Sp) (dvs:List V) (E:XK) (t:TA):TE:=fun σ H Q=>t σ H fun vs H1=>sp (vs ++ dvs) H1 Q E
def jM (C:Addr) (m:Str) (sp:Sp) (dvs:List V) (E:XK) (ta:TE) (t:TA):TE:=fun σ H Q=>ta σ H fun x H1=>∃ a dx fs,x=.ref a/\H1 a=some (.ins C dx fs)/\fs.lookup m=none /\
 t σ H1 fun vs H2=>sp (x :: (vs ++ dvs)) H2 Q E
def zA1 (C:Addr) (sp:Sp) (dvs:List V) (E:XK) (t:TA):TE:=fun σ H Q=>t σ H fun vs H1=>∀ x dx,H1 x=none->H1 dx=none->dx ≠ x ->
 sp (.ref x :: (vs ++ dvs)) (upd (upd H1 dx (.own x)) x (.ins C dx [])) (fun v H2=>v=.non/\Q (.ref x) H2) E
def vT (K:PySem.W.Frag) (fd:FuncData) (ps:List Str) (ds:List Value):Prop:=
 ∀ (s:Shared) (us:List Value),K.In s.heap->(us ++ ds).length=ps.length->BindsTo s fd ⟨us,[]⟩ (ps.zip (us ++ ds))
theorem vT.all {K:PySem.W.Frag} {fd:FuncData} {ps:List Str} (h:∀ us:List Value,us.length=ps.length->bindArgs fd ⟨us,[]⟩=pure (ps.zip us)):vT K fd ps []:=fun s us _ hl=>by
 rw [List.append_nil] at hl ⊢
 exact .of_eq (h us hl)
def tP (CX:CXT) (X:Cx) (E:XK):Prop:=∀ (pins:List (Addr × Obj)) (σ:St) (H:Hp) (s:Shared) (e:Value) (s':Shared),Inv X pins σ H s->CX X.stack H s E e s'->X.xe e s'
section
variable {X:Cx} {CX:CXT} {k:Nat} {f C:Addr} {fd:FuncData} {ps:List Str} {sp:Sp} {dvs:List V} {ds:List Value} {E:XK} {x m:Str} {p pos apos:Pos} {e o:Expr} {es:List Expr} {ta:TE} {t:TA}
theorem kF {pins:List (Addr × Obj)} {σ:St} {H:Hp} {s:Shared} {Q:VK} {us:List Value} {vs:List V} (F:uW X.prog X.w X.K X.mg X.base CX k f fd ps sp) (hr:z7 k X.A) (hb:vT X.K fd ps ds) (hd:yD dvs ds) (hx:tP CX X E)
  (I:Inv X pins σ H s) (r:yD vs us) (h:sp (vs ++ dvs) H Q E):wpAny (model X.prog X.w) X.A (call (.ref f) us) (EP X pins σ Q) X.xe s:=by
 have r2:yD (vs ++ dvs) (us ++ ds):=r.append hd
 have hl:(us ++ ds).length=ps.length:=by rw [<- r2.length];exact F.len _ _ _ _ h
 refine wpAny_call (codeAny_mono (F.run X.A X.stack s H ⟨us,[]⟩ (us ++ ds) (vs ++ dvs) Q E hr I.env0 (hb s us I.kIn hl) r2 h) fun r s' hq=>?_)
 cases r with
 | error e=>exact hx pins σ H s e s' I hq
 | ok fl=>
  cases fl with
  | ret u=>exact I.after hq
  | next=>exact False.elim hq
  | brk=>exact False.elim hq
  | cont=>exact False.elim hq
theorem aN (F:uW X.prog X.w X.K X.mg X.base CX k f fd ps sp) (hr:z7 k X.A) (hg:Gl X x) (hm:X.mg x=some (.ref f)) (hk:PySem.W.keepIn X.K (.ref f)=true) (hb:vT X.K fd ps ds) (hd:yD dvs ds) (hx:tP CX X E)
  (ha:PA X (e :: es) t) (hdb:(x == ("__debug__" : Str))=false:=by decide) (he:starEach (e :: es) X.env=(false,eval e X.env) :: starEach es X.env:=by rfl) (hpl:(backTo pos (starEach es X.env)).any (·.1)=false:=by rfl) :
  PE X (.Call (.Name x p) (e :: es) [] pos) (fO sp dvs E t):=by
 intro pins s σ H Q I h
 refine wpAny_Call_Name_kw (nC I hg hm ?_ hdb)
 refine PySem.W.callWith_K (h₀:=X.base) I.ok.mod.kin hk (thn (ha pos pins s σ H _ I h) fun us s1 hz31=>?_) he hpl
 obtain ⟨vs,H1,I1,r,q⟩:=hz31
 refine ⟨I1.kIn,?_⟩
 exact kF F hr hb hd hx I1 r q
theorem aH {pl:Sem Bool} (he:PE X o ta) (c:Cls X.K C) (hm:bG X.K C m f) (F:uW X.prog X.w X.K X.mg X.base CX k f fd ps sp) (hr:z7 k X.A) (hb:vT X.K fd ps ds) (hd:yD dvs ds) (hx:tP CX X E) (ha:PA X (e :: es) t)
  (hst:starEach (e :: es) X.env=(false,eval e X.env) :: starEach es X.env:=by rfl) (hpl:(backTo pos (starEach es X.env)).any (·.1)=false:=by rfl)
  (ht:eval (.Call (.Attribute o m apos) (e :: es) [] pos) X.env=(do
   let ov <- eval o X.env
   standAt apos.atName
   let (f,first) <- holding [ov] (getMethod ov m pl)
   callWith pos f first (backTo pos (starEach (e :: es) X.env)) (backToKw pos (keywordEach [] X.env))):=by rfl) :
  PE X (.Call (.Attribute o m apos) (e :: es) [] pos) (jM C m sp dvs E ta t):=by
 intro pins s σ H Q I h
 refine PySem.W.methodCall_KW (pl:=pl) (thn (he pins s σ H _ I h) fun u s1 hz32=>?_) ht
 obtain ⟨x,H1,I1,rx,a,dx,fs,ex,ea,l,q⟩:=hz32
 subst ex
 obtain rfl:u=Value.ref a:=rx
 refine qT I1 ea c hm l ?_
 refine PySem.W.callWith_K (first:=[.ref a]) (h₀:=X.base) I.ok.mod.kin hm.kp (thn (ha pos pins s1 σ H1 _ I1 q) fun us s2 hz33=>?_) hst hpl
 obtain ⟨vs,H2,I2,r,q2⟩:=hz33
 refine ⟨I2.kIn,?_⟩
 exact kF (us:=.ref a :: us) (vs:=.ref a :: vs) F hr hb hd hx I2 (.cons rfl r) q2
theorem eY {pl:Sem Bool} (he:PE X o ta) (c:Cls X.K C) (hm:bG X.K C m f) (F:uW X.prog X.w X.K X.mg X.base CX k f fd ps sp) (hr:z7 k X.A) (hb:vT X.K fd ps ds) (hd:yD dvs ds) (hx:tP CX X E)
  (ht:eval (.Call (.Attribute o m apos) [] [] pos) X.env=(do
   let ov <- eval o X.env
   standAt apos.atName
   let (f,first) <- holding [ov] (getMethod ov m pl)
   callWith pos f first (backTo pos (starEach [] X.env)) (backToKw pos (keywordEach [] X.env))):=by rfl) :
  PE X (.Call (.Attribute o m apos) [] [] pos) (jM C m sp dvs E ta nX):=by
 intro pins s σ H Q I h
 refine PySem.W.methodCall_KW (pl:=pl) (thn (he pins s σ H _ I h) fun u s1 hz34=>?_) ht
 obtain ⟨x,H1,I1,rx,a,dx,fs,ex,ea,l,q⟩:=hz34
 subst ex
 obtain rfl:u=Value.ref a:=rx
 refine qT I1 ea c hm l ?_
 exact PySem.W.callWith_K0 (first:=[.ref a]) I1.kIn hm.kp (kF (us:=[.ref a]) (vs:=[.ref a]) F hr hb hd hx I1 (.cons rfl .nil) q)
structure Mk (K:PySem.W.Frag) (C f:Addr):Prop where
 makes:PySem.W.makesIn K C=true
 init:PySem.W.findIn K (.ref C) "__init__"=some (some (.ref f))
 fn:PySem.W.isFn K (.ref f)=true
 kp:PySem.W.keepIn K (.ref C)=true
theorem eF {pins:List (Addr × Obj)} {σ:St} {H:Hp} {s:Shared} {Q:VK} {us:List Value} {vs:List V} (M:Mk X.K C f) (F:uW X.prog X.w X.K X.mg X.base CX k f fd ps sp) (hr:z7 (k + 1) X.A) (hb:vT X.K fd ps ds) (hd:yD dvs ds)
  (hx:tP CX X E) (I:Inv X pins σ H s) (r:yD vs us)
  (h:∀ x dx,H x=none->H dx=none->dx ≠ x->sp (.ref x :: (vs ++ dvs)) (upd (upd H dx (.own x)) x (.ins C dx [])) (fun v H2=>v=.non/\Q (.ref x) H2) E) :
  wpAny (model X.prog X.w) X.A (call (.ref C) us) (EP X pins σ Q) X.xe s:=by
 have hq:=h (s.heap.objs.size + 1) s.heap.objs.size (I.hok.fresh (Nat.le_succ _)) (I.hok.fresh (zGG _)) (zGY (Nat.lt_succ_self _))
 have I2:=Inv.made (C:=C) I
 have r2:yD (V.ref (s.heap.objs.size + 1) :: (vs ++ dvs)) (Value.ref (s.heap.objs.size + 1) :: (us ++ ds)):=.cons rfl (r.append hd)
 have hl:(Value.ref (s.heap.objs.size + 1) :: us ++ ds).length=ps.length:=by
  have e:=r2.length
  rw [F.len _ _ _ _ hq] at e
  exact e.symm
 refine wpAny_call (dN (f:=f) I.kIn M.makes M.init (beq_iff_eq.mp M.fn) (codeAny_mono (F.run _ X.stack _ _ ⟨Value.ref (s.heap.objs.size + 1) :: us,[]⟩ (Value.ref (s.heap.objs.size + 1) :: (us ++ ds)) _ _ E (hr.make C us [])
  (I2.env0.make C us []) (hb _ (Value.ref (s.heap.objs.size + 1) :: us) I2.kIn hl) r2 hq) fun r s' hq'=>?_))
 cases r with
 | error e=>exact hx pins σ _ _ e s' I2 hq'
 | ok fl=>
  cases fl with
  | ret u=>
   obtain ⟨v,H',I3,rv,ev,q3⟩:=I2.after hq'
   subst ev
   exact ⟨rv,⟨V.ref (s.heap.objs.size + 1),H',I3,rfl,q3⟩⟩
  | next=>exact False.elim hq'
  | brk=>exact False.elim hq'
  | cont=>exact False.elim hq'
theorem aI (M:Mk X.K C f) (F:uW X.prog X.w X.K X.mg X.base CX k f fd ps sp) (hr:z7 (k + 1) X.A) (hg:Gl X x) (hm:X.mg x=some (.ref C)) (hb:vT X.K fd ps ds) (hd:yD dvs ds) (hx:tP CX X E)
  (ha:PA X (e :: es) t) (hdb:(x == ("__debug__" : Str))=false:=by decide) (he:starEach (e :: es) X.env=(false,eval e X.env) :: starEach es X.env:=by rfl) (hpl:(backTo pos (starEach es X.env)).any (·.1)=false:=by rfl) :
  PE X (.Call (.Name x p) (e :: es) [] pos) (zA1 C sp dvs E t):=by
 intro pins s σ H Q I h
 refine wpAny_Call_Name_kw (nC I hg hm ?_ hdb)
 refine PySem.W.callWith_K (h₀:=X.base) I.ok.mod.kin M.kp (thn (ha pos pins s σ H _ I h) fun us s1 hz35=>?_) he hpl
 obtain ⟨vs,H1,I1,r,q⟩:=hz35
 refine ⟨I1.kIn,?_⟩
 exact eF M F hr hb hd hx I1 r q
end
section
variable {X:Cx} {CX:CXT} {k:Nat} {f C:Addr} {fd:FuncData} {ps ks:List Str} {sp:Sp} {E:XK} {x m:Str} {p pos apos kpos:Pos} {e o:Expr} {es:List Expr} {kws:List Keyword} {te ta:TE} {t tk:TA} {nm:Option Str}
variable {g:List Value->List Value->List Value} {gV:List V->List V->List V}
end
structure zN (N P:List Str) (sc:Scope):Prop where
 kind:sc.kind=.function
 co:sc.isCoroutine=false
 gen:sc.isGenerator=false
 nd:N.Nodup
 pre:N.take P.length=P
 par:∀ x ∈ P,sc.names.lookup x=some .local \/ sc.names.lookup x=some .cell
 nofree:∀ y ∈ sc.names,y.2 ≠ .free
theorem pX {kindOf:Str->Option NameKind} {x:Str}:∀ {binds:List (Str × Value)} {m:Str->Option Value},(∀ v,(x,v) ∉ binds)->bindL kindOf binds m x=m x
 | [],_,_=>rfl
 | (n,v) :: r,m,h=>by
  unfold bindL
  rw [pX fun w hw=>h w (zGK _ hw)]
  split
  ·have:x ≠ n:=by rintro rfl;exact h v zG0
   simp [this]
  ·rfl
theorem pZ {kindOf:Str->Option NameKind} {x:Str}:∀ {binds:List (Str × Value)} {m:Str->Option Value},(∀ v,(x,v) ∉ binds)->bindC kindOf binds m x=m x
 | [],_,_=>rfl
 | (n,v) :: r,m,h=>by
  unfold bindC
  rw [pZ fun w hw=>h w (zGK _ hw)]
  split
  ·rfl
  ·have:x ≠ n:=by rintro rfl;exact h v zG0
   simp [this]
theorem pY {kindOf:Str->Option NameKind} {x:Str} {v:Value}:∀ {P:List Str} {vs:List Value} {i:Nat} {m:Str->Option Value},P.Nodup->P[i]?=some x->vs[i]?=some v->kindOf x=some .local ->
  bindL kindOf (P.zip vs) m x=some v
 | [],_,_,_,_,h,_,_=>by simp at h
 | _ :: _,[],_,_,_,_,h,_=>by simp at h
 | p :: P,w :: vs,0,m,nd,h1,h2,hk=>by
  simp at h1 h2;subst h1;subst h2
  show bindL kindOf ((p,w) :: P.zip vs) m p=_
  unfold bindL
  rw [pX fun v hv=>(List.nodup_cons.mp nd).1 (List.of_mem_zip hv).1,if_pos hk]
  simp
 | p :: P,w :: vs,i + 1,m,nd,h1,h2,hk=>by
  show bindL kindOf ((p,w) :: P.zip vs) m x=_
  unfold bindL
  exact pY (i:=i) (List.nodup_cons.mp nd).2 (by simpa using h1) (by simpa using h2) hk
theorem p4 {kindOf:Str->Option NameKind} {x:Str} {v:Value}:∀ {P:List Str} {vs:List Value} {i:Nat} {m:Str->Option Value},P.Nodup->P[i]?=some x->vs[i]?=some v->kindOf x ≠ some .local ->
  bindC kindOf (P.zip vs) m x=some v
 | [],_,_,_,_,h,_,_=>by simp at h
 | _ :: _,[],_,_,_,_,h,_=>by simp at h
 | p :: P,w :: vs,0,m,nd,h1,h2,hk=>by
  simp at h1 h2;subst h1;subst h2
  show bindC kindOf ((p,w) :: P.zip vs) m p=_
  unfold bindC
  rw [pZ fun v hv=>(List.nodup_cons.mp nd).1 (List.of_mem_zip hv).1,if_neg hk]
  simp
 | p :: P,w :: vs,i + 1,m,nd,h1,h2,hk=>by
  show bindC kindOf ((p,w) :: P.zip vs) m x=_
  unfold bindC
  exact p4 (i:=i) (List.nodup_cons.mp nd).2 (by simpa using h1) (by simpa using h2) hk
def start (N:List Str) (vs:List V):St:=vs.map some ++ List.replicate (N.length - vs.length) none
def lF (CX:CXT) (P:Program) (w:World) (K:PySem.W.Frag) (mg:Str->Option Value) (base:Heap) (N:List Str) (qual:Str) (scope:Scope) (f:Addr) (cd:Value) (A:Around) (outer:List Env) (s:Shared) (H:Hp) (E:XK):Cx where
 prog:=P
 w:=w
 K:=K
 mg:=mg
 base:=base
 A:=A.deeper (envOfC qual scope s.heap.objs.size f cd)
 N:=N
 s₀:=s
 H₀:=H
 env:=envOfC qual scope s.heap.objs.size f cd
 outer:=outer
 stack:=envOfC qual scope s.heap.objs.size f cd :: outer
 ex:=[]
 calm:=true
 fn:=fun _=>true
 pn:=[]
 xe:=fun e s'=>wpAny (model P w) (A.deeper (envOfC qual scope s.heap.objs.size f cd)) (leaving (envOfC qual scope s.heap.objs.size f cd) e) (fun _ s''=>CX outer H s E e s'') (fun e' s''=>CX outer H s E e' s'') s'
theorem lG {sc:Scope} {n:Nat} {x:Str} (h:sc.names.lookup x=some .cell):∃ c,(cellsFrom n sc.names []).lookup x=some c:=by
 have q:=PySem.W.cellsFrom_some sc.names n [] (.inl h)
 exact Option.isSome_iff_exists.mp q
theorem gJ {CX:CXT} {P:Program} {w:World} {K:PySem.W.Frag} {mg:Str->Option Value} {base:Heap} {N ps:List Str} {qual:Str} {scope:Scope} {f:Addr} {cd:Value} {A:Around} {outer:List Env} {s s1:Shared} {H:Hp} {E:XK} {us:List Value} {vs:List V}
  (S:zN N ps scope) (hd:A.handled=none) (e0:jH P w K mg base A outer s H) (hl:vs.length=ps.length) (r:yD vs us)
  (x:InCallC s s.heap.objs.size (bindL (envOfC qual scope s.heap.objs.size f cd).kindOf (ps.zip us) fun _=>none) (cellsFrom (s.heap.objs.size + 1) scope.names []) (bindC (envOfC qual scope s.heap.objs.size f cd).kindOf (ps.zip us) fun _=>none) s1) :
  Inv (lF CX P w K mg base N qual scope f cd A outer s H E) [] (start N vs) H s1:=by
 have hpl:ps.length <= N.length:=by have:=congrArg List.length S.pre;rw [zGQ] at this;omega
 obtain ⟨h1,tk,rfl,hk⟩:=x.done
 have noA:∀ b:Addr,b ∉ (lF CX P w K mg base N qual scope f cd A outer s H E).ex:=fun b z=>absurd (show b ∈ ([]:List Addr) from z) (by simp)
 refine ⟨⟨e0.mod,S.kind,rfl,rfl,zGG _,fun y z c h1 h2=>?_,fun y hy=>?_,fun y c _ h=>?_,fun _=>hd,Around.frames_deeper e0.frames,.inr ⟨rfl,rfl⟩,fun b z=>absurd z (noA b),e0.bs,e0.bsz,fun b _ _=>noA b,fun b z=>absurd z (noA b),e0.funs,e0.frf⟩,
  rfl,e0.bare,Un.kept hk,⟨_,x.toInCall.ns,fun i y v h1 h2 h3=>?_⟩,fun y c h=>⟨_,x.cell y c h⟩,e0.hok.fresh (zGG _),fun y c h=>?_,fun p hp=>absurd (show p ∈ ([]:List (Addr × Obj)) from hp) (by simp),e0.hok.kept hk,?_⟩
 ·exact name_of_addr x.apart (PySem.mem_of_lookup h1) (PySem.mem_of_lookup h2)
 ·have hy:scope.names.lookup y=some .cell \/ scope.names.lookup y=some .free:=hy
  rcases hy with hy | hy
  ·exact lG hy
  ·exact absurd rfl (S.nofree _ (PySem.mem_of_lookup hy))
 ·exact Nat.le_of_lt (x.above y c (PySem.mem_of_lookup h))
 ·have hi:i < vs.length:=by
   unfold start at h2
   by_cases hi:i < vs.length
   ·exact hi
   ·rw [zGU (by simpa using hi)] at h2
    rw [List.getElem?_replicate] at h2
    split at h2 <;> cases h2
  have ha:vs[i]?=some v:=by
   unfold start at h2
   rw [zGV (by simpa using hi),zGD] at h2
   cases e:vs[i]? with
   | none=>rw [e] at h2;cases h2
   | some a=>rw [e] at h2;cases h2;rfl
  obtain ⟨u,hu,rv⟩:=r.get ha
  have hp:ps[i]?=some y:=by
   rw [<- S.pre,List.getElem?_take_of_lt (by omega)];exact h1
  have ndP:ps.Nodup:=by rw [<- S.pre];exact S.nd.sublist (List.take_sublist _ _)
  refine ⟨u,rv,?_⟩
  rcases S.par y (zGB hp) with k | k
  ·exact .inl ⟨k,pY ndP hp hu k⟩
  ·obtain ⟨c,e⟩:=lG (n:=s.heap.objs.size + 1) k
   refine .inr ⟨.inl k,c,e,?_⟩
   have q:=x.cell y c e
   rw [p4 ndP hp hu (by show scope.names.lookup y ≠ _;rw [k];decide)] at q
   exact q
 ·exact e0.hok.fresh (Nat.le_of_lt (x.above y c (PySem.mem_of_lookup h)))
 ·unfold start
  show _=N.length
  rw [zGP,zF7,List.length_replicate]
  omega
theorem zFQ {CX:CXT} {P:Program} {w:World} {K:PySem.W.Frag} {mg:Str->Option Value} {base:Heap} {k:Nat} {f:Addr} {name qual:Str} {params:Arguments} {body:List Stmt} {scope:Scope} {dV kV doc pm cdv ct oc:Value} {an od:Option Addr}
  {osl:Array (Option Value)} {N ps:List Str} {sp:Sp} (lk:K.lookup f=some ⟨oc,od,.func (PySem.W.fnOf name qual params body scope dV kV doc pm an cdv ct),osl⟩) (hcd:PySem.W.codeIn K cdv qual=true) (S:zN N ps scope)
  (len:∀ vs H Q E,sp vs H Q E->vs.length=ps.length)
  (hbody:∀ (A:Around) (outer:List Env) (s:Shared) (H:Hp) (vs:List V) (Q:VK) (E:XK),z7 k (A.deeper (envOfC qual scope s.heap.objs.size f cdv))->sp vs H Q E ->
   ∃ t,PSs (lF CX P w K mg base N qual scope f cdv A outer s H E) body t/\t { nx:=fun _ H'=>Q .non H',rt:=Q } (start N vs) H) :
  uW P w K mg base CX (k + 1) f (PySem.W.fnOf name qual params body scope dV kV doc pm an cdv ct) ps sp:=by
 refine ⟨len,fun A outer s H args us vs Q E hr e0 hb r hsp=>?_⟩
 have hl:=len _ _ _ _ hsp
 have KX:K.In s.heap:=e0.mod.kin.keeps fun b o e=>(e0.bs b o e).1
 have lim:s.heap.NoLimit:=e0.mod.nolimit.keeps fun b o e=>(e0.bs b o e).1
 have hkind:∀ y ∈ ps.zip us,scope.names.lookup y.1=some .local \/ (scope.names.lookup y.1=some .cell/\((cellsFrom (s.heap.objs.size + 1) scope.names []).lookup y.1).isSome=true):=fun ⟨n,v⟩ hy=>by
  rcases S.par n (List.of_mem_zip hy).1 with q | q
  ·exact .inl q
  ·exact .inr ⟨q,PySem.W.cellsFrom_some _ _ _ (.inl q)⟩
 refine codeAny_call_function hr.depth (KX _ _ lk) rfl S.co S.gen rfl (PySem.W.codeRec_of KX hcd) (hb _ _ _ _ ?_)
 refine wpAny_newFunctionEnv_cells S.kind hkind fun env he s1 x=>?_
 subst he
 refine ⟨lim.keeps x.toInCall.keep,codeAny_func ?_⟩
 obtain ⟨t,ht,hq⟩:=hbody A outer s H vs Q E (hr.deeper _) hsp
 have I:Inv (lF CX P w K mg base N qual scope f cdv A outer s H E) [] (start N vs) H s1:=gJ S hr.hd e0 hl r x
 refine wpAny_mono (ht [] s1 (start N vs) H _ I hq) (fun fl s' hs=>?_) fun e s' hs=>hs
 have fin:∀ {σ':St} {H':Hp} {v:V} {u:Value},Inv (lF CX P w K mg base N qual scope f cdv A outer s H E) [] σ' H' s'->yM v u->Q v H'->CE outer P w H s Q u s':=
  fun {σ' H' v u} J rv q=>⟨v,H',J.os,J.bare,J.base,J.hok,rv,q⟩
 cases fl with
 | ret u=>
  obtain ⟨v,σ',H',J,rv,q⟩:=hs
  exact fin J rv q
 | next=>
  obtain ⟨σ',H',J,q⟩:=hs
  exact fin (v:=V.non) (u:=Value.none) J rfl q
 | brk=>
  obtain ⟨_,_,_,q⟩:=hs
  exact False.elim q
 | cont=>
  obtain ⟨_,_,_,q⟩:=hs
  exact False.elim q
end L2
namespace L2
open PySem PySem.Spec PyProof.Rows
section
variable {X:Cx} {x:Str} {p pos:Pos} {e:Expr} {es:List Expr} {t:TA} {id T:String} {r:List V->Hp->VK->Prop}
def tCB (r:List V->Hp->VK->Prop) (t:TA):TE:=fun σ H Q=>t σ H fun vs H1=>r vs H1 Q
theorem dB (hc:wW X (.builtin id) r) (hg:Gl X x) (hm:X.mg x=none) (hv:bootBuiltins x=some (.builtin id)) (ha:PA X (e :: es) t) (hn:x ≠ "__name__":=by decide) (hdb:(x == ("__debug__" : Str))=false:=by decide)
  (he:starEach (e :: es) X.env=(false,eval e X.env) :: starEach es X.env:=by rfl) (hpl:(backTo pos (starEach es X.env)).any (·.1)=false:=by rfl):PE X (.Call (.Name x p) (e :: es) [] pos) (tCB r t):=by
 intro pins s σ H Q I h
 refine wpAny_Call_Name_kw (sS I hg hm hv ?_ hn hdb)
 exact PyProof.Rows.callWith_builtin1 (thn (ha pos pins s σ H _ I h) fun us s1 ⟨vs,H1,I1,r1,q1⟩=>hc pins s1 σ H1 vs us Q I1 r1 q1) he hpl
theorem xX (hc:wW X (.type T) r) (hg:Gl X x) (hm:X.mg x=none) (hv:bootBuiltins x=some (.type T)) (ha:PA X (e :: es) t) (hn:x ≠ "__name__":=by decide) (hdb:(x == ("__debug__" : Str))=false:=by decide)
  (he:starEach (e :: es) X.env=(false,eval e X.env) :: starEach es X.env:=by rfl) (hpl:(backTo pos (starEach es X.env)).any (·.1)=false:=by rfl):PE X (.Call (.Name x p) (e :: es) [] pos) (tCB r t):=by
 intro pins s σ H Q I h
 refine wpAny_Call_Name_kw (sS I hg hm hv ?_ hn hdb)
 exact PyProof.Rows.callWith_type1 (thn (ha pos pins s σ H _ I h) fun us s1 ⟨vs,H1,I1,r1,q1⟩=>hc pins s1 σ H1 vs us Q I1 r1 q1) he hpl
end
end L2
namespace HT
open PySem PyProof.Rows
section
open PySem.SeqAt
open PySem.AutoSeq1 (wpAny_loadPart')
open PySem.MeetsSeq PySem.MeetsSeq2 PySem.MeetsSeq3
end
section
variable {prog:Program} {w:World} {A:Around} {E:Value->Shared->Prop} {s:Shared}
theorem cat_tup {t b:Addr} {vs ws:List Value} {Q:Value->Shared->Prop} (ht:IsTup s.heap t vs.toArray) (hb:IsTup s.heap b ws.toArray) (hv:vs ≠ [])
  (h1:ws=[]->Q (.ref t) s) (h2:ws ≠ []->Q (.ref s.heap.objs.size) { s with heap:=s.heap.push { cls:=.type "tuple",data:=.seq (vs ++ ws).toArray } })
  (hsz:vs.length + ws.length <= sizeLine):wpAny (model prog w) A (binaryOp .Add (.ref t) (.ref b)) Q E s:=by
 obtain ⟨⟨cls,dd,data,sl⟩,ho,hc,n,hd⟩:=id ht
 obtain ⟨⟨cls2,dd2,data2,sl2⟩,ho2,hc2,n2,hd2⟩:=id hb
 simp only at hc hd hc2 hd2
 subst hc hd hc2 hd2
 have e:vs.toArray ++ ws.toArray=(vs ++ ws).toArray:=by simp
 by_cases hw:ws=[]
 ·exact concat_meets ⟨_,ho,rfl⟩ ⟨_,ho2,rfl⟩ noFill_tuple_add seq_tuple_add PySem.F.slot_tuple_add PySem.F.entry_tuple_add (PySem.F.args_tuple_add_2 _ _)
   (tuple_addW1 t b vs.toArray ws.toArray n n2 dd dd2 sl sl2 (by simpa using hv) (by simp [hw])) ⟨ho,ho2,h1 hw⟩
 ·refine concat_meets ⟨_,ho,rfl⟩ ⟨_,ho2,rfl⟩ noFill_tuple_add seq_tuple_add PySem.F.slot_tuple_add PySem.F.entry_tuple_add (PySem.F.args_tuple_add_2 _ _)
   (tuple_addW2 t b vs.toArray ws.toArray n n2 dd dd2 sl sl2 (by simpa using hv) (by simpa using hw) (by rw [zGF,zGF];exact hsz)) ⟨ho,ho2,?_⟩
  rw [e]
  exact h2 hw
def sIx (n d:Nat):Option Int->Nat
 | none=>d
 | some v=>if v < 0 then (v + (n:Int)).toNat else min v.toNat n
theorem sIx_none (n d:Nat):sIx n d none=d:=rfl
theorem sIx_nat (n d k:Nat):sIx n d (some (k:Int))=min k n:=by
 show (if (k:Int) < 0 then ((k:Int) + (n:Int)).toNat else min (k:Int).toNat n)=min k n
 rw [if_neg (by omega),Int.toNat_natCast]
theorem sIx_le (n d:Nat) (hd:d <= n) (o:Option Int):sIx n d o <= n:=by
 cases o with
 | none=>exact hd
 | some v=>
  show (if v < 0 then (v + (n:Int)).toNat else min v.toNat n) <= n
  by_cases hv:v < 0
  ·rw [if_pos hv];omega
  ·rw [if_neg hv];exact Nat.min_le_right _ _
theorem clip_eq (v:Int) (n d:Nat):(if v < 0 then max (v + (n:Int)) 0 else min v (n:Int))=((sIx n d (some v):Nat):Int):=by
 show (if v < 0 then max (v + (n:Int)) 0 else min v (n:Int))=(((if v < 0 then (v + (n:Int)).toNat else min v.toNat n):Nat):Int)
 by_cases hv:v < 0
 ·simp only [if_pos hv];omega
 ·simp only [if_neg hv];omega
theorem adjust_gen (lo hi:Option Int) (n:Nat):Builtin.Slice.sliceAdjust lo hi 1 (n:Int)=(((sIx n 0 lo:Nat):Int),((sIx n n hi:Nat):Int)):=by
 have h1:¬ ((1:Int) < 0):=by omega
 unfold Builtin.Slice.sliceAdjust
 simp only [h1,if_false]
 refine Prod.ext ?_ ?_
 ·cases lo with
  | none=>rfl
  | some v=>exact clip_eq v n 0
 ·cases hi with
  | none=>rfl
  | some v=>exact clip_eq v n n
theorem places_gen (i j:Nat):Builtin.Slice.slicePlaces (i:Int) (j:Int) 1=j - i:=by
 unfold Builtin.Slice.slicePlaces
 have h1:(1:Int) > 0:=by omega
 simp only [h1,if_true,Int.ediv_one]
 split <;> omega
theorem slicePart_ {v:Value} {o:Option Int} {Q:Option Int->Shared->Prop} (p:IsPart v o) (h:Q o s):wpAny (model prog w) A (Builtin.Slice.slicePartIndex v) Q E s:=by
 cases p with
 | none=>exact slicePart_none h
 | int i t=>exact slicePart_int h
theorem sliceApplied_gen {sl:Addr} {vl vu:Value} {lo hi:Option Int} {n:Nat} {Q:Int × Int × Nat->Shared->Prop} (hs:s.heap.IsSliceOf sl vl vu .none) (pl:IsPart vl lo) (pu:IsPart vu hi)
  (h:Q (((sIx n 0 lo:Nat):Int),1,sIx n n hi - sIx n 0 lo) s):wpAny (model prog w) A (Builtin.Slice.sliceApplied (.ref sl) (pure (n:Int))) Q E s:=by
 obtain ⟨os,hos,hcs,hds⟩:=id hs
 unfold Builtin.Slice.sliceApplied Builtin.Slice.sliceFields
 refine wpAny_bind (wpAny_bind (wpAny_field hos hds (x:=vl) rfl (wpAny_bind (wpAny_field hos hds (x:=vu) rfl (wpAny_bind (wpAny_field hos hds (x:=.none) rfl (wpAny_pure ?_)))))))
 refine wpAny_bind (slicePart_none ?_)
 show wpAny _ _ (if ((1:Int) == 0)=true then _ else _) _ _ s
 rw [if_neg (by decide)]
 refine wpAny_bind (slicePart_ pl (wpAny_bind (slicePart_ pu (wpAny_bind (wpAny_pure ?_)))))
 show wpAny _ _ (match Builtin.Slice.sliceAdjust lo hi 1 (n:Int) with | (lo,hi)=>pure (lo,(1:Int),Builtin.Slice.slicePlaces lo hi 1)) _ _ s
 rw [adjust_gen lo hi n]
 show wpAny _ _ (pure (((sIx n 0 lo:Nat):Int),(1:Int),Builtin.Slice.slicePlaces ((sIx n 0 lo:Nat):Int) ((sIx n n hi:Nat):Int) 1)) _ _ s
 rw [places_gen]
 exact wpAny_pure h
theorem pick_gen (xs:Array Value) (i k:Nat):((List.range k).filterMap fun (m:Nat)=>xs[((i:Int) + (m:Int) * 1).toNat]?).toArray=((xs.toList.drop i).take k).toArray:=by
 have e:(fun (m:Nat)=>xs[((i:Int) + (m:Int) * 1).toNat]?)=fun m=>xs[i + m]?:=by
  funext m
  have:((i:Int) + (m:Int) * 1).toNat=i + m:=by omega
  rw [this]
 rw [e]
 have:=pick_run xs i k
 rw [List.filterMap_map] at this
 have e2:((fun x=>xs[x]?) ∘ fun x=>i + x)=fun m=>xs[i + m]?:=rfl
 rw [e2] at this
 rw [this]
theorem getItem_tuple_cut {t sl:Addr} {items:Array Value} {vl vu:Value} {lo hi:Option Int} {Q:Value->Shared->Prop} (ht:IsTup s.heap t items) (hs:s.heap.IsSliceOf sl vl vu .none) (pl:IsPart vl lo) (pu:IsPart vu hi)
  (hw:¬ (sIx items.size 0 lo=0/\sIx items.size items.size hi=items.size))
  (h:Q (.ref s.heap.objs.size) { s with heap:=s.heap.push { cls:=.type "tuple",data:=.seq ((items.toList.drop (sIx items.size 0 lo)).take (sIx items.size items.size hi - sIx items.size 0 lo)).toArray } })
  (hsz:items.size <= sizeLine):wpAny (model prog w) A (getItem (.ref t) (.ref sl)) Q E s:=by
 have htake:sizeOk (.seq ((items.toList.drop (sIx items.size 0 lo)).take (sIx items.size items.size hi - sIx items.size 0 lo)).toArray):=by
  show ((items.toList.drop (sIx items.size 0 lo)).take (sIx items.size items.size hi - sIx items.size 0 lo)).toArray.size <= sizeLine
  rw [zGF,zGQ,List.length_drop,Array.length_toList]
  omega
 have hj:sIx items.size items.size hi <= items.size:=sIx_le _ _ (zGG _) hi
 obtain ⟨os,hos,hcs,hds⟩:=id hs
 have hTs:s.TypeIs (.ref sl) "slice":=⟨os,hos,hcs⟩
 unfold getItem
 try with_reducible refine wpAny_holding ?_
 first | refine wpAny_bind (wpAny_pure ?_) | skip
 refine wpAny_bind (wpAny_sequenceKey ht.typeIs (by decide) ?_)
 refine wpAny_bind (wpAny_callSpecial?_slot (name:=Str.ofString "__getitem__") ht.typeIs PyProof.Rows.slot_tuple_getitem
  (wpAny_call_entry PyProof.Rows.slot_tuple_getitem ht.typeIs entry_tuple_getitem ?_ (args_tuple_getitem _ _)))
 show wpAny _ _ (Builtin.Tuple.tupleItemsOf (.ref t) >>= _) _ _ s
 refine wpAny_bind (tupleItemsOf_ ht ?_)
 refine wpAny_bind (wpAny_typeOf hTs ?_)
 rw [if_pos (by decide)]
 refine wpAny_bind (sliceApplied_gen hs pl pu ?_)
 have hno:¬ ((((sIx items.size 0 lo:Nat):Int) == 0 && (1:Int) == 1 && (sIx items.size items.size hi - sIx items.size 0 lo) == items.size)=true):=by
  intro q
  rw [Bool.and_eq_true,Bool.and_eq_true] at q
  have q1:((sIx items.size 0 lo:Nat):Int)=0:=eq_of_beq q.1.1
  have q2:sIx items.size items.size hi - sIx items.size 0 lo=items.size:=eq_of_beq q.2
  exact hw ⟨by omega,by omega⟩
 show wpAny _ _ (if (((sIx items.size 0 lo:Nat):Int) == 0 && (1:Int) == 1 && (sIx items.size items.size hi - sIx items.size 0 lo) == items.size)=true then _ else _) _ _ s
 rw [if_neg hno,pick_gen]
 first
  | exact wpAny_bind (m:=Builtin.Tuple.tupleExact _) (wpAny_newObj_type (wpAny_pure ⟨_,rfl,wpAny_pure h⟩) htake)
  | exact wpAny_bind (m:=Builtin.Tuple.tupleExact _) (wpAny_newObj_type (wpAny_bind (wpAny_pure (wpAny_pure ⟨_,rfl,wpAny_pure h⟩))) htake)
  | exact wpAny_bind (wpAny_bind (m:=Builtin.Tuple.tupleExact _) (wpAny_newObj_type (wpAny_pure (wpAny_pure ⟨_,rfl,wpAny_pure h⟩)) htake))
  | exact wpAny_bind (wpAny_bind (m:=Builtin.Tuple.tupleExact _) (wpAny_newObj_type (wpAny_pure ⟨_,rfl,wpAny_pure h⟩) htake))
end
end HT
namespace L2
open PySem PySem.Spec PyProof.Rows
abbrev TO:=St->Hp->(Option Int->Hp->Prop)->Prop
def PO (X:Cx) (e:Option Expr) (t:TO):Prop:=
 ∀ (pins:List (Addr × Obj)) (s:Shared) (σ:St) (H:Hp) (Q:Option Int->Hp->Prop),Inv X pins σ H s->t σ H Q ->
  wpAny (model X.prog X.w) X.A (evalPart e X.env) (fun u s'=>∃ o H',Inv X pins σ H' s'/\IsPart u o/\Q o H') X.xe s
def oA:TO:=fun _ H Q=>Q none H
def fM (t:TE):TO:=fun σ H Q=>t σ H fun x H1=>∃ i,x=.int i/\Q (some i) H1
section
variable {X:Cx} {e:Expr} {te:TE} {lo hi:Option Expr} {tl th:TO} {pos p2:Pos}
theorem uH:PO X none oA:=by
 intro pins s σ H Q I h
 rw [evalPart_none]
 exact wpAny_pure ⟨none,H,I,.none,h⟩
theorem wN (h:PE X e te):PO X (some e) (fM te):=by
 intro pins s σ H Q I hw
 rw [evalPart_some]
 refine thn (h pins s σ H _ I hw) fun u s1 hz36=>?_
 obtain ⟨x,H1,I1,r1,q1⟩:=hz36
 obtain ⟨i,rfl,q⟩:=q1
 obtain ⟨t,rfl⟩:=r1
 exact ⟨some i,H1,I1,.int i t,q⟩
def SlR (X:Cx) (r:V->Option Int->Option Int->Hp->VK->Prop):Prop:=
 ∀ (pins:List (Addr × Obj)) (s:Shared) (σ:St) (H:Hp) (x:V) (v vl vu:Value) (lo hi:Option Int) (sl:Addr) (Q:VK),Inv X pins σ H s->yM x v->s.heap.IsSliceOf sl vl vu .none->IsPart vl lo->IsPart vu hi->r x lo hi H Q ->
  ∃ T id,typeLookup (.type T) "__getitem__"=pure (some (.builtin id))/\s.TypeIs v T/\wpAny (model X.prog X.w) X.A (getItem v (.ref sl)) (EP X pins σ Q) X.xe s
def tSl (r:V->Option Int->Option Int->Hp->VK->Prop) (te:TE) (tl th:TO):TE:=fun σ H Q=>te σ H fun x H1=>tl σ H1 fun l H2=>th σ H2 fun u H3=>r x l u H3 Q
theorem wO {r:V->Option Int->Option Int->Hp->VK->Prop} (hr:SlR X r) (he:PE X e te) (hl:PO X lo tl) (hu:PO X hi th):PE X (.Subscript e (.Slice lo hi none p2) pos) (tSl r te tl th):=by
 intro pins s σ H Q I h
 refine Subscript_ (thn (he pins s σ H _ I h) fun v s1 hz37=>?_)
 obtain ⟨x,H1,I1,r1,q1⟩:=hz37
 refine wpAny_Slice (thn (hl pins s1 σ H1 _ I1 q1) fun vl s2 hz38=>?_)
 obtain ⟨l,H2,I2,pl,q2⟩:=hz38
 refine thn (hu pins s2 σ H2 _ I2 q2) fun vu s3 hz39=>?_
 obtain ⟨u,H3,I3,pu,q3⟩:=hz39
 rw [evalPart_none]
 refine wpAny_pure ?_
 have I4:Inv X pins σ H3 { s3 with heap:=s3.heap.push { cls:=.type "slice",data:=.fields #[vl,vu,.none] } }:=I3.kept (t':=s3.toks) fun b ob q=>Heap.get?_push_of_some _ q
 obtain ⟨T,id,hT,ht,hg⟩:=hr pins { s3 with heap:=s3.heap.push { cls:=.type "slice",data:=.fields #[vl,vu,.none] } } σ H3 x v vl vu l u s3.heap.objs.size Q I4 r1 (Heap.IsSliceOf.new ..) pl pu q3
 show wpAny (model X.prog X.w) X.A (subscriptTail e (.Slice lo hi none p2) v (.ref s3.heap.objs.size)) (EP X pins σ Q) X.xe { s3 with heap:=s3.heap.push { cls:=.type "slice",data:=.fields #[vl,vu,.none] } }
 exact tail_any (ops:=[.ref s3.heap.objs.size,v]) ht hT hg (by with_unfolding_all rfl)
def vW (xs:List V) (lo hi:Option Int):List V:=(xs.drop (HT.sIx xs.length 0 lo)).take (HT.sIx xs.length xs.length hi - HT.sIx xs.length 0 lo)
theorem rJ (xs:List V) (lo hi:Option Int):(vW xs lo hi).length <= xs.length:=by
 unfold vW
 rw [zGQ,List.length_drop]
 omega
def rSlT (K:PySem.W.Frag):V->Option Int->Option Int->Hp->VK->Prop:=fun x lo hi H Q=>∃ a xs,x=.ref a/\SqT K H a xs /\
 ¬ (HT.sIx xs.length 0 lo=0/\HT.sIx xs.length xs.length hi=xs.length)/\∀ p,H p=none->Q (.ref p) (upd H p (.tup (vW xs lo hi)))
theorem zB6:SlR X (rSlT X.K):=by
 intro pins s σ H x v vl vu lo hi sl Q I rx hs pl pu h
 obtain ⟨a,xs,rfl,hx,hw,q⟩:=h
 cases rx
 obtain ⟨its,r,ht,hz⟩:=I.tuple hx
 have hlen:its.toArray.size=xs.length:=by rw [zGF];exact r.length.symm
 refine ⟨"tuple",_,PyProof.Rows.slot_tuple_getitem.lookup,ht.typeIs,?_⟩
 refine HT.getItem_tuple_cut ht hs pl pu (by rw [hlen];exact hw) ?_ (by rw [hlen];exact hz)
 rw [hlen]
 refine ⟨.ref s.heap.objs.size,_,I.laid (t':=s.toks) (o:=.tup (vW xs lo hi)) (fun b ob q=>Heap.get?_push_of_some _ q) (zGG _) ?_,rfl,q _ (I.hok.fresh (zGG _))⟩
 exact ⟨zGI (rJ xs lo hi) hz,_,(r.drop (HT.sIx xs.length 0 lo)).take (HT.sIx xs.length xs.length hi - HT.sIx xs.length 0 lo),IsTup.new _ _⟩
def eM (K:PySem.W.Frag):R2:=fun x y H Q=>∃ a b xs ys,x=.ref a/\y=.ref b/\SqT K H a xs/\SqT K H b ys/\xs ≠ []/\xs.length + ys.length <= sizeLine /\
 (ys=[]->Q (.ref a) H)/\(ys ≠ []->∀ p,H p=none->Q (.ref p) (upd H p (.tup (xs ++ ys))))
theorem yD.nil_iff {xs:List V} {us:List Value} (r:yD xs us):us=[] ↔ xs=[]:=by
 cases r with
 | nil=>simp
 | cons _ _=>simp
theorem iC:OpR X (binaryOp .Add) (eM X.K):=by
 intro pins s σ H x y v u Q I rx ry h
 obtain ⟨a,b,xs,ys,rfl,rfl,ha,hb,hx,hz,q1,q2⟩:=h
 cases rx
 cases ry
 obtain ⟨its,r1,p1,_⟩:=I.tuple ha
 obtain ⟨its2,r2,p2,_⟩:=I.tuple hb
 refine HT.cat_tup p1 p2 (fun z=>hx (r1.nil_iff.mp z)) (fun z=>⟨.ref a,H,I,rfl,q1 (r2.nil_iff.mp z)⟩) (fun z=>?_) (by rw [<- r1.length,<- r2.length];exact hz)
 refine ⟨.ref s.heap.objs.size,_,I.laid (t':=s.toks) (o:=.tup (xs ++ ys)) (fun b ob q=>Heap.get?_push_of_some _ q) (zGG _) ?_,rfl,q2 (fun w=>z (r2.nil_iff.mpr w)) _ (I.hok.fresh (zGG _))⟩
 exact ⟨by rw [zGP];exact hz,_,r1.append r2,IsTup.new _ _⟩
end
end L2
namespace L2
open PySem PySem.Spec PyProof.Rows
def ixN (n:Nat) (i:Int):Option Nat:=if 0 <= i then (if i < n then some i.toNat else none) else if -(n:Int) <= i then some (i + n).toNat else none
def atI {α:Type} (xs:List α) (i:Int):Option α:=(ixN xs.length i).bind fun j=>xs[j]?
theorem iL {n:Nat} {i:Int} {j:Nat} (h:ixN n i=some j):seqIndex? i n=some j/\j < n/\-(n:Int) <= i/\i < n:=by
 unfold ixN at h
 by_cases h0:0 <= i
 ·rw [if_pos h0] at h
  by_cases h1:i < n
  ·rw [if_pos h1] at h
   have e:i.toNat=j:=zGE h
   exact ⟨by rw [seqIndex_of h0 h1,e],by omega,by omega,h1⟩
  ·rw [if_neg h1] at h;cases h
 ·rw [if_neg h0] at h
  by_cases h1:-(n:Int) <= i
  ·rw [if_pos h1] at h
   have e:(i + n).toNat=j:=zGE h
   exact ⟨by rw [seqIndex_neg (by omega) h1,e],by omega,h1,by omega⟩
  ·rw [if_neg h1] at h;cases h
theorem nQ {α:Type} {xs:List α} {i:Int} {v:α} (h:atI xs i=some v):∃ j,seqIndex? i xs.length=some j/\xs[j]?=some v/\j < xs.length/\-(xs.length:Int) <= i/\i < xs.length:=by
 unfold atI at h
 cases e:ixN xs.length i with
 | none=>rw [e] at h;cases h
 | some j=>
  rw [e] at h
  obtain ⟨h1,h2,h3,h4⟩:=iL e
  exact ⟨j,h1,h,h2,h3,h4⟩
theorem uP {α:Type} {xs:List α} {j:Nat} {v:α} (h:xs[j]?=some v):atI xs (j:Int)=some v:=by
 have hj:j < xs.length:=(zF9.mp h).1
 have e:ixN xs.length (j:Int)=some j:=by
  unfold ixN
  rw [if_pos (by omega),if_pos (by omega)];simp
 unfold atI;rw [e];exact h
def zAX (b:Expr):Prop:=∀ o i,subscripted b false o i=operate [o,i] (getItem o i)
def IxR (X:Cx) (r:R2):Prop:=
 ∀ (value slice:Expr) (pins:List (Addr × Obj)) (s:Shared) (σ:St) (H:Hp) (x y:V) (v u:Value) (Q:VK),Inv X pins σ H s->yM x v->yM y u->r x y H Q ->
  subscripted slice false v u=operate [v,u] (getItem v u)->wpAny (model X.prog X.w) X.A (subscriptTail value slice v u) (EP X pins σ Q) X.xe s
def MtR (X:Cx) (id:String) (r:V->List V->Hp->VK->Prop):Prop:=
 ∀ (pins:List (Addr × Obj)) (s:Shared) (σ:St) (H:Hp) (x:V) (xs:List V) (v:Value) (us:List Value) (Q:VK),Inv X pins σ H s->yM x v->yD xs us->r x xs H Q ->
  wpAny (model X.prog X.w) X.A (call (.builtin id) (v :: us)) (EP X pins σ Q) X.xe s
section
variable {X:Cx} {a b:Expr} {ta tb:TE} {pos:Pos}
theorem IxR.or {r r':R2} (h:IxR X r) (h':IxR X r'):IxR X (fun x y H Q=>r x y H Q \/ r' x y H Q):=by
 intro value slice pins s σ H x y v u Q I rx ry q hs
 rcases q with q | q
 ·exact h value slice pins s σ H x y v u Q I rx ry q hs
 ·exact h' value slice pins s σ H x y v u Q I rx ry q hs
theorem zV {r:R2} (hr:IxR X r) (ha:PE X a ta) (hb:PE X b tb) (hs:zAX b):PE X (.Subscript a b pos) (tOp r ta tb):=by
 intro pins s σ H Q I h
 exact Subscript_ (zDR ha hb I h fun v u s2 x y H2 I2 rx ry q=>hr a b pins s2 σ H2 x y v u Q I2 rx ry q (hs _ _))
def rIxL (K:PySem.W.Frag):R2:=fun x y H Q=>∃ p xs i v,x=.ref p/\y=.int i/\SqL K H p xs/\atI xs i=some v/\Q v H
def rIxT (K:PySem.W.Frag):R2:=fun x y H Q=>∃ p xs i v,x=.ref p/\y=.int i/\SqT K H p xs/\atI xs i=some v/\Q v H
def rIxS:R2:=fun x y H Q=>∃ z i c,x=.str z/\y=.int i/\z.length <= sizeLine/\atI z.cps.toList i=some c/\Q (.str ⟨#[c]⟩) H
theorem iK:IxR X (rIxL X.K):=by
 intro value slice pins s σ H x y v u Q I rx ry h hs
 obtain ⟨p,xs,i,z,rfl,rfl,hq,he,q⟩:=h
 cases rx
 obtain ⟨t,rfl⟩:=ry
 obtain ⟨its,r,pl,hz⟩:=I.list hq
 obtain ⟨j,h1,h2,h3,h4,h5⟩:=nQ he
 obtain ⟨w,ew,rw'⟩:=r.get h2
 have hl:=r.length
 have hn:=sR
 have fin:EP X pins σ Q w s:=⟨z,H,I,rw',q⟩
 by_cases h0:0 <= i
 ·have hj:i.toNat=j:=by
   rw [seqIndex_of h0 h5] at h1
   exact zGE h1
  exact item_listR pl.isList h0 (by omega) (by rw [hj];simpa using ew) fin hs
 ·have hj:(i + (its.toArray.size:Int)).toNat=j:=by
   rw [seqIndex_neg (by omega) h4] at h1
   rw [zGF,<- hl]
   exact zGE h1
  exact subscriptTail_builtinR (x:=w) pl.isList.typeIs slot_list_getitem.lookup
   (wpAny_getItem_list_neg (Q:=fun r s'=>r=w/\EP X pins σ Q r s') pl.isList (by omega) (by rw [zGF] <;> omega) (by omega) (by rw [hj];simpa using ew) ⟨rfl,fin⟩) hs
theorem zDH:IxR X (rIxT X.K):=by
 intro value slice pins s σ H x y v u Q I rx ry h hs
 obtain ⟨p,xs,i,z,rfl,rfl,hq,he,q⟩:=h
 cases rx
 obtain ⟨t,rfl⟩:=ry
 obtain ⟨its,r,pl,hz⟩:=I.tuple hq
 obtain ⟨j,h1,h2,h3,h4,h5⟩:=nQ he
 obtain ⟨w,ew,rw'⟩:=r.get h2
 have hl:=r.length
 have hn:=sR
 have fin:EP X pins σ Q w s:=⟨z,H,I,rw',q⟩
 exact subscriptTail_builtinR (x:=w) pl.typeIs slot_tuple_getitem.lookup
  (getItem_tuple (j:=j) (Q:=fun r s'=>r=w/\EP X pins σ Q r s') pl (by omega) (by omega) (by rw [zGF,<- hl];exact h1) (by simpa using ew) ⟨rfl,fin⟩) hs
theorem d8:IxR X rIxS:=by
 intro value slice pins s σ H x y v u Q I rx ry h hs
 obtain ⟨z,i,c,rfl,rfl,hz,he,q⟩:=h
 obtain ⟨t,rfl⟩:=rx
 obtain ⟨t',rfl⟩:=ry
 obtain ⟨j,h1,h2,h3,h4,h5⟩:=nQ he
 have hl:z.cps.toList.length=z.length:=by simp [Str.length]
 rw [hl] at h1 h4 h5
 have hn:=sR
 exact tail_any (typeIs_str s z t) slot_str_getitem.lookup (getItem_str (c:=c) (by
  have e1:decide (i < -(2 ^ 63:Int))=false:=zGN (by omega)
  have e2:decide (i >= 2 ^ 63)=false:=zGN (by omega)
  rw [e1,e2,Bool.or_false]) (by rw [h1];simpa using h2) ⟨.str ⟨#[c]⟩,H,I.tok _,⟨_,rfl⟩,q⟩) hs
theorem kM (its:List Value) (n j:Nat) (u:Value):Obj.mapSeq (·.setIfInBounds j u) { cls:=.type "list",data:=.seq its.toArray n } = { cls:=.type "list",data:=.seq (its.set j u).toArray n }:=by
 simp [Obj.mapSeq]
theorem Inv.lst {pins:List (Addr × Obj)} {σ:St} {H:Hp} {s:Shared} {p:Addr} {xs:List V} (I:Inv X pins σ H s) (h:H p=some (.lst xs)) :
  ∃ (its:List Value) (n:Nat),yD xs its/\s.heap.get? p=some { cls:=.type "list",data:=.seq its.toArray n }/\xs.length <= sizeLine:=by
 obtain ⟨z,its,n,r,e⟩:=I.hok p _ h
 exact ⟨its,n,r,e,z⟩
theorem Inv.lstUpd {pins:List (Addr × Obj)} {σ:St} {H:Hp} {s:Shared} {p:Addr} {xs ys:List V} {its its':List Value} {n n':Nat} {f:Obj->Obj} (I:Inv X pins σ H s) (h:H p=some (.lst xs))
  (ho:s.heap.get? p=some { cls:=.type "list",data:=.seq its.toArray n }) (hf:f { cls:=.type "list",data:=.seq its.toArray n } = { cls:=.type "list",data:=.seq its'.toArray n' }) (r:yD ys its') (hz:ys.length <= sizeLine) (t:Nat) :
  Inv X pins σ (upd H p (.lst ys)) { s with heap:=s.heap.update p f,toks:=t }:=by
 have e:(s.heap.update p f).get? p=some { cls:=.type "list",data:=.seq its'.toArray n' }:=by
  rw [Heap.get?_update_self f ho (by rw [hf] <;> rfl),hf]
 refine I.write (x:=p) (e:=p) (by rw [h];trivial) (.inl rfl) (fun b u hb q=>(Heap.get?_update_other _ _ (Ne.symm hb)).trans q) ⟨_,e⟩ ?_
 exact ⟨hz,its',n',r,e⟩
def zA9:V->V->V->Hp->(Hp->Prop)->Prop:=fun o i v H Q=>∃ p xs k j,o=.ref p/\i=.int k/\H p=some (.lst xs)/\ixN xs.length k=some j/\Q (upd H p (.lst (xs.set j v)))
theorem mE:zF4 X zA9:=by
 intro pins s σ H o i v ov iv u Q I ro ri rv h
 obtain ⟨p,xs,k,j,rfl,rfl,hp,hj,q⟩:=h
 cases ro
 obtain ⟨t,rfl⟩:=ri
 obtain ⟨its,n,r,ho,hz⟩:=I.lst hp
 obtain ⟨h1,h2,h3,h4⟩:=iL hj
 have hl:=r.length
 have hn:=sR
 have I':Inv X pins σ (upd H p (.lst (xs.set j v))) { s with heap:=s.heap.update p (Obj.mapSeq (·.setIfInBounds j u)) }:=
  I.lstUpd hp ho (kM its n j u) (r.set rv j) (by rw [zG8];exact hz) s.toks
 by_cases h0:0 <= k
 ·have hk:k.toNat=j:=by
   rw [seqIndex_of h0 h4] at h1
   exact zGE h1
  exact PySem.W.ki_setAt ho h0 (by omega) (by rw [zGF,<- hl];exact h4) (by rw [hk];exact ⟨_,I',q⟩)
 ·have hk:(k + (its.toArray.size:Int)).toNat=j:=by
   rw [seqIndex_neg (by omega) h3] at h1
   rw [zGF,<- hl]
   exact zGE h1
  exact PySem.W.ki_setBack ho (by omega) (by rw [zGF,<- hl];exact h3) (by omega) (by rw [hk];exact ⟨_,I',q⟩)
theorem oG (lo hi:Option Int) (n:Nat):(sliceBounds lo hi none n).1=((HT.sIx n 0 lo:Nat):Int)/\(sliceBounds lo hi none n).2.1=((HT.sIx n n hi:Nat):Int)/\(sliceBounds lo hi none n).2.2=1:=by
 refine ⟨?_,?_,rfl⟩
 ·cases lo with
  | none=>simp [sliceBounds,HT.sIx]
  | some i=>
   simp only [sliceBounds,HT.sIx,Option.getD_none,show (1:Int) > 0 by decide,if_true]
   by_cases h:i < 0
   ·simp only [h,if_true] <;> omega
   ·simp only [h,if_false] <;> omega
 ·cases hi with
  | none=>simp [sliceBounds,HT.sIx]
  | some i=>
   simp only [sliceBounds,HT.sIx,Option.getD_none,show (1:Int) > 0 by decide,if_true]
   by_cases h:i < 0
   ·simp only [h,if_true] <;> omega
   ·simp only [h,if_false] <;> omega
theorem pE (its:List Value) (lo hi:Option Int):slicePick its.toArray lo hi none=((its.drop (HT.sIx its.length 0 lo)).take (HT.sIx its.length its.length hi - HT.sIx its.length 0 lo)).toArray:=by
 obtain ⟨h1,h2,h3⟩:=oG lo hi its.toArray.size
 unfold slicePick
 rw [h1,h2,h3]
 simp only [sliceRange_one,pick_run,zGF] <;> rfl
def zE0 (K:PySem.W.Frag):V->Option Int->Option Int->Hp->VK->Prop:=fun x lo hi H Q=>∃ a xs,x=.ref a/\SqL K H a xs/\∀ p,H p=none->Q (.ref p) (upd H p (.lst (vW xs lo hi)))
theorem oH:SlR X (zE0 X.K):=by
 intro pins s σ H x v vl vu lo hi sl Q I rx hs pl pu h
 obtain ⟨a,xs,rfl,hx,q⟩:=h
 cases rx
 obtain ⟨its,r,ht,hz⟩:=I.list hx
 have hlen:=r.length
 refine ⟨"list",_,slot_list_getitem.lookup,ht.isList.typeIs,?_⟩
 refine wpAny_getItem_list_slice ht.isList hs pl pu .none (by simp) ?_ (by rw [zGF] <;> omega)
 rw [pE,<- hlen]
 refine ⟨.ref s.heap.objs.size,_,I.laid (t':=s.toks) (o:=.lst (vW xs lo hi)) (fun b ob q=>Heap.get?_push_of_some _ q) (zGG _) ?_,rfl,q _ (I.hok.fresh (zGG _))⟩
 exact ⟨zGI (rJ xs lo hi) hz,_,0,(r.drop (HT.sIx xs.length 0 lo)).take (HT.sIx xs.length xs.length hi - HT.sIx xs.length 0 lo),Heap.get?_push_size _ rfl⟩
def xL:V->Bool
 | .non=>true
 | .bl _=>true
 | .int _=>true
 | .str _=>true
 | _=>false
def eqV:V->V->Bool
 | .non,.non=>true
 | .bl a,.bl b=>a == b
 | .bl a,.int b=>(if a then 1 else 0) == b
 | .int a,.bl b=>a == (if b then 1 else 0)
 | .int a,.int b=>a == b
 | .str a,.str b=>a == b
 | _,_=>false
theorem kY {A:Around} {s:Shared} {y x:V} {u v:Value} (ry:yM y u) (rx:yM x v) (fy:xL y=true) (fx:xL x=true):SeqAt.EqAt A s u v (eqV y x):=by
 cases y with
 | non=>
  cases ry
  cases x with
  | non=>cases rx;exact SeqAt.EqAt.same _
  | bl b=>cases rx;exact SeqAt.EqAt.none_bool b
  | int b=>obtain ⟨t,rfl⟩:=rx;exact SeqAt.EqAt.none_int b t
  | str b=>obtain ⟨t,rfl⟩:=rx;exact SeqAt.EqAt.none_str b t
  | _=>exact absurd (show false=true from fx) zGZ
 | bl a=>
  cases ry
  cases x with
  | non=>cases rx;exact SeqAt.EqAt.bool_none a
  | bl b=>cases rx;exact SeqAt.EqAt.bool_bool a b
  | int b=>obtain ⟨t,rfl⟩:=rx;exact SeqAt.EqAt.bool_int a b t
  | str b=>obtain ⟨t,rfl⟩:=rx;exact SeqAt.EqAt.bool_str a b t
  | _=>exact absurd (show false=true from fx) zGZ
 | int a=>
  obtain ⟨t',rfl⟩:=ry
  cases x with
  | non=>cases rx;exact SeqAt.EqAt.int_none a t'
  | bl b=>cases rx;exact SeqAt.EqAt.int_bool a t' b
  | int b=>obtain ⟨t,rfl⟩:=rx;exact SeqAt.EqAt.int_int a t' b t
  | str b=>obtain ⟨t,rfl⟩:=rx;exact SeqAt.EqAt.int_str a t' b t
  | _=>exact absurd (show false=true from fx) zGZ
 | str a=>
  obtain ⟨t',rfl⟩:=ry
  cases x with
  | non=>cases rx;exact SeqAt.EqAt.str_none a t'
  | bl b=>cases rx;exact SeqAt.EqAt.str_bool a t' b
  | int b=>obtain ⟨t,rfl⟩:=rx;exact SeqAt.EqAt.str_int a t' b t
  | str b=>obtain ⟨t,rfl⟩:=rx;exact SeqAt.EqAt.str_str a t' b t
  | _=>exact absurd (show false=true from fx) zGZ
 | _=>exact absurd (show false=true from fy) zGZ
def eqU (x:V) (u:Value):Bool:=match u with
 | .none=>eqV .non x
 | .bool b=>eqV (.bl b) x
 | .int i _=>eqV (.int i) x
 | .str z _=>eqV (.str z) x
 | _=>false
theorem cJ {x y:V} {u:Value} (r:yM y u) (f:xL y=true):eqU x u=eqV y x:=by
 cases y with
 | non=>cases r;rfl
 | bl b=>cases r;rfl
 | int i=>obtain ⟨t,rfl⟩:=r;rfl
 | str z=>obtain ⟨t,rfl⟩:=r;rfl
 | _=>exact absurd (show false=true from f) zGZ
theorem sD {x:V}:∀ {xs:List V} {us:List Value},yD xs us->xs.all xL=true->us.any (eqU x)=xs.any fun y=>eqV y x
 | _,_,.nil,_=>rfl
 | y :: xs,u :: us,.cons r t,f=>by
  rw [List.all_cons,Bool.and_eq_true] at f
  rw [List.any_cons,List.any_cons,cJ r f.1,sD t f.2]
theorem uY {A:Around} {s:Shared} {x:V} {v:Value} (rx:yM x v) (fx:xL x=true):∀ {xs:List V} {us:List Value},yD xs us->xs.all xL=true->∀ u ∈ us,SeqAt.EqAt A s u v (eqU x u)
 | _,_,.nil,_=>fun u hu=>by cases hu
 | y :: xs,u :: us,.cons r t,f=>fun u' hu=>by
  rw [List.all_cons,Bool.and_eq_true] at f
  rcases List.mem_cons.mp hu with rfl | hu
  ·rw [cJ r f.1];exact kY r rx f.1 fx
  ·exact uY rx fx t f.2 u' hu
def inV (x:V) (xs:List V):Bool:=xs.any fun y=>eqV y x
def rIn (K:PySem.W.Frag) (neg:Bool):R2:=fun x y H Q=>∃ p xs,y=.ref p/\(SqL K H p xs \/ SqT K H p xs)/\xL x=true/\xs.all xL=true/\Q (.bl (if neg then !inV x xs else inV x xs)) H
theorem sO:OpR X (compareOp .In) (rIn X.K false):=by
 intro pins s σ H x y v u Q I rx ry h
 obtain ⟨p,xs,rfl,hq,fx,fs,q⟩:=h
 cases ry
 rcases hq with hq | hq
 ·obtain ⟨its,r,pl,hz⟩:=I.list hq
  refine SeqAt.in_listAt (eqU x) pl.isList (fun w hw=>uY rx fx r fs w (by simpa using hw)) ⟨.bl _,H,I,rfl,?_⟩
  rw [show its.toArray.any (eqU x)=its.any (eqU x) by simp,sD r fs]
  exact q
 ·obtain ⟨its,r,pl,hz⟩:=I.tuple hq
  refine SeqAt.in_tupleAt (eqU x) pl (fun w hw=>uY rx fx r fs w (by simpa using hw)) ⟨.bl _,H,I,rfl,?_⟩
  rw [show its.toArray.any (eqU x)=its.any (eqU x) by simp,sD r fs]
  exact q
theorem oV:OpR X (compareOp .NotIn) (rIn X.K true):=by
 intro pins s σ H x y v u Q I rx ry h
 obtain ⟨p,xs,rfl,hq,fx,fs,q⟩:=h
 cases ry
 rcases hq with hq | hq
 ·obtain ⟨its,r,pl,hz⟩:=I.list hq
  refine SeqAt.notIn_listAt (eqU x) pl.isList (fun w hw=>uY rx fx r fs w (by simpa using hw)) ⟨.bl _,H,I,rfl,?_⟩
  rw [show its.toArray.any (eqU x)=its.any (eqU x) by simp,sD r fs]
  exact q
 ·obtain ⟨its,r,pl,hz⟩:=I.tuple hq
  refine SeqAt.notIn_tupleAt (eqU x) pl (fun w hw=>uY rx fx r fs w (by simpa using hw)) ⟨.bl _,H,I,rfl,?_⟩
  rw [show its.toArray.any (eqU x)=its.any (eqU x) by simp,sD r fs]
  exact q
theorem vH:wW X (.type "list") (fun xs H Q=>∃ p ys,xs=[.ref p]/\(SqL X.K H p ys \/ SqT X.K H p ys)/\∀ l,H l=none->Q (.ref l) (upd H l (.lst ys))):=by
 intro pins s σ H xs us Q I r h
 obtain ⟨p,ys,rfl,hq,q⟩:=h
 obtain ⟨u,rfl,rx⟩:=uT r
 cases rx
 have fin:∀ (its:List Value),yD ys its->ys.length <= sizeLine->∀ (h':Heap) (c':Nat),(∀ b o',s.heap.get? b=some o'->h'.get? b=some o') ->
   h'.get? s.heap.objs.size=some { cls:=.type "list",dict:=none,data:=.seq its.toArray c',slots:=#[] }->EP X pins σ Q (.ref s.heap.objs.size) { s with heap:=h' }:=fun its r' hz h' c' kp e=>
  ⟨.ref s.heap.objs.size,_,I.laid (t':=s.toks) kp (zGG _) (show xF X.prog X.w _ h' _ (.lst ys) from ⟨hz,its,c',r',e⟩),rfl,q _ (I.hok.fresh (zGG _))⟩
 rcases hq with hq | hq
 ·obtain ⟨its,r',pl,hz⟩:=I.list hq
  have hlen:=r'.length
  obtain ⟨o,ho,hc,n,hd⟩:=pl.isList
  exact call_list_seq p (.inl rfl) ho hc hd (fun h' c' kp e=>fin its r' hz h' c' kp e) (by simp only [zGF] <;> omega)
 ·obtain ⟨its,r',pl,hz⟩:=I.tuple hq
  have hlen:=r'.length
  obtain ⟨o,ho,hc,n,hd⟩:=pl
  exact call_list_seq p (.inr rfl) ho hc hd (fun h' c' kp e=>fin its r' hz h' c' kp e) (by simp only [zGF] <;> omega)
def tyV (K:PySem.W.Frag) (T:String) (x:V) (H:Hp):Prop:=match x with
 | .str _=>T="str"
 | .int _=>T="int"
 | .ref p=>(T="list"/\∃ xs,SqL K H p xs) \/ (T="tuple"/\∃ o,K.lookup p=some o/\o.cls=.type "tuple"/\o.dict=none) \/
   (T="dict"/\((∃ kvs,H p=some (.dK kvs)) \/ ∃ kvs,H p=some (.dT kvs))) \/ (T="set"/\∃ S n,H p=some (.set S n))
 | _=>False
theorem zBS {pins:List (Addr × Obj)} {σ:St} {H:Hp} {s:Shared} {T:String} {x:V} {v:Value} (I:Inv X pins σ H s) (r:yM x v) (ty:tyV X.K T x H) :
  s.TypeIs v T/\∀ a,v=.ref a->∃ ob,s.heap.get? a=some ob/\ob.dict=none:=by
 cases x with
 | str z=>
  obtain ⟨t,rfl⟩:=r
  cases (show T="str" from ty)
  exact ⟨typeIs_str s z t,fun _ e=>nomatch e⟩
 | int i=>
  obtain ⟨t,rfl⟩:=r
  cases (show T="int" from ty)
  exact ⟨typeIs_int s i t,fun _ e=>nomatch e⟩
 | ref p=>
  cases r
  rcases ty with ⟨rfl,xs,hq⟩ | ⟨rfl,o,hk,hc,hd⟩ | ⟨rfl,hk⟩ | ⟨rfl,S,n,hk⟩
  ·obtain ⟨its,_,pl,_⟩:=I.list hq
   refine ⟨pl.isList.typeIs,fun a e=>?_⟩
   cases e
   obtain ⟨o,n,e,c,hd,_⟩:=pl
   exact ⟨o,e,hd⟩
  ·refine ⟨⟨o,I.kIn p o hk,hc⟩,fun a e=>?_⟩
   cases e
   exact ⟨o,I.kIn _ o hk,hd⟩
  ·have z:∃ o,s.heap.get? p=some o/\o.ExactDict:=by
    rcases hk with ⟨kvs,hk⟩ | ⟨kvs,hk⟩
    ·obtain ⟨_,_,_,_,o,_,_,e,ex,_⟩:=I.hok p _ hk
     exact ⟨o,e,ex⟩
    ·obtain ⟨_,_,_,_,o,_,_,e,ex,_⟩:=I.hok p _ hk
     exact ⟨o,e,ex⟩
   obtain ⟨o,e,ex⟩:=z
   refine ⟨⟨o,e,ex.1⟩,fun a e2=>?_⟩
   cases e2
   exact ⟨o,e,ex.2.1⟩
  ·obtain ⟨o,_,_,_,e,ex,_⟩:=I.hok p _ hk
   refine ⟨⟨o,e,ex.1⟩,fun a e2=>?_⟩
   cases e2
   exact ⟨o,e,ex.2.1⟩
 | _=>exact False.elim ty
def tBM (K:PySem.W.Frag) (T:String) (r:V->List V->Hp->VK->Prop) (to:TE) (t:TA):TE:=fun σ H Q=>to σ H fun x H1=>tyV K T x H1/\t σ H1 fun xs H2=>r x xs H2 Q
variable {o e:Expr} {es:List Expr} {to:TE} {t:TA} {name:Str} {apos cpos:Pos} {T id:String} {r:V->List V->Hp->VK->Prop}
theorem vC (pa:PlainAttrs T) (slot:Slot T name id) (hty:typeOf (.builtin id)=pure (.type "method_descriptor")) (hm:MtR X id r) (ho:PE X o to) (ha:PA X (e :: es) t)
  (hbase:attributeBase o name X.env (eval o X.env)=eval o X.env:=by rfl)
  (hfew:((backTo cpos (starEach (e :: es) X.env)).all (fun x=>!x.1) && (backToKw cpos (keywordEach [] X.env)).all (fun x=>x.1.isSome)
   && decide ((e :: es).length + ([]:List Keyword).length + (if ([]:List Keyword).isEmpty then 0 else 1) < 30))=true:=by rfl)
  (hline:(apos.endLine == cpos.line)=true:=by rfl) (hs:starEach (e :: es) X.env=(false,eval e X.env) :: starEach es X.env:=by rfl) (hplain:(backTo cpos (starEach es X.env)).any (·.1)=false:=by rfl) :
  PE X (.Call (.Attribute o name apos) (e :: es) [] cpos) (tBM X.K T r to t):=by
 intro pins s σ H Q I h
 refine wpAny_Call_method_late hbase hfew hline rfl (thn (ho pins s σ H _ I h) fun v s1 hz40=>?_)
 obtain ⟨x,H1,I1,r1,ty,q1⟩:=hz40
 obtain ⟨h1,h2⟩:=zBS I1 r1 ty
 refine ⟨T,id,pa,slot,hty,h1,h2,?_⟩
 have hA:=ha cpos pins s1 σ H1 _ I1 q1
 rw [hs] at hA ⊢
 refine Calls.callWith_builtin (by show (false || (backTo cpos (starEach es X.env)).any (·.1))=false;rw [hplain] <;> rfl) (Calls.evalArgs_plain ?_)
 exact thn hA fun us s2 ⟨vs,H2,I2,r2,q2⟩=>hm pins s2 σ H2 x vs v us Q I2 r1 r2 q2
end
end L2
namespace L2
open PySem PySem.Spec PyProof.Rows
def MtM (X:Cx) (id:String) (r:V->List V->Hp->VK->Prop):Prop:=
 ∀ (pins:List (Addr × Obj)) (s:Shared) (σ:St) (H:Hp) (x:V) (xs:List V) (v:Value) (us:List Value) (Q:VK),Inv X pins σ H s->yM x v->yD xs us->r x xs H Q ->
  wpAny (model X.prog X.w) X.A (call (.builtin id) (v :: us)) (EP X pins σ Q) X.xe s
theorem yD.one {x:V} {us:List Value} (h:yD [x] us):∃ u,us=[u]/\yM x u:=by
 cases h with
 | cons r k=>cases k;exact ⟨_,rfl,r⟩
theorem yD.two {x y:V} {us:List Value} (h:yD [x,y] us):∃ u v,us=[u,v]/\yM x u/\yM y v:=by
 cases h with
 | cons r k=>cases k with
  | cons q m=>cases m;exact ⟨_,_,rfl,r,q⟩
theorem yD.eraseIdx:∀ {xs:List V} {us:List Value} (i:Nat),yD xs us->yD (xs.eraseIdx i) (us.eraseIdx i)
 | _,_,_,.nil=>.nil
 | _,_,0,.cons _ t=>t
 | _,_,i + 1,.cons r t=>.cons r (yD.eraseIdx i t)
theorem uA {α:Type}:∀ (l:List α) (i:Nat),(l.eraseIdx i).length <= l.length
 | [],_=>zGG _
 | _ :: _,0=>Nat.le_succ _
 | _ :: r,i + 1=>Nat.succ_le_succ (uA r i)
section
variable {X:Cx} {pins:List (Addr × Obj)} {σ:St} {H:Hp} {s:Shared} {l b:Addr} {xs ys zs:List V}
theorem Inv.lset {its its':List Value} {n:Nat} {f:Array Value->Array Value} {t':Nat} (I:Inv X pins σ H s) (hH:H l=some (.lst xs))
  (e:s.heap.get? l=some { cls:=.type "list",data:=.seq its.toArray n }) (hf:f its.toArray=its'.toArray) (hv:yD ys its') (hz:ys.length <= sizeLine) :
  Inv X pins σ (upd H l (.lst ys)) { s with heap:=s.heap.update l (Obj.mapSeq f),toks:=t' }:=by
 have q:=PySem.IsL.update e f
 rw [hf] at q
 refine I.write (x:=l) (e:=l) (by rw [hH];exact trivial) (.inl rfl) (fun b' u hb hu=>(Heap.get?_update_other s.heap (Obj.mapSeq f) (Ne.symm hb)).trans hu) ⟨_,q⟩ ?_
 exact ⟨hz,its',_,hv,q⟩
theorem Inv.lnew {its:List Value} {t':Nat} (I:Inv X pins σ H s) (hv:yD ys its) (hz:ys.length <= sizeLine) :
  Inv X pins σ (upd H s.heap.objs.size (.lst ys)) { s with heap:=s.heap.push { cls:=.type "list",data:=.seq its.toArray },toks:=t' }:=
 I.laid (fun _ _ q=>Heap.get?_push_of_some _ q) (zGG _) ⟨hz,its,0,hv,Heap.get?_push_size _ rfl⟩
theorem Inv.fresh (I:Inv X pins σ H s):H s.heap.objs.size=none:=I.hok.fresh (zGG _)
theorem Inv.lstM (I:Inv X pins σ H s) (hH:H l=some (.lst xs)):xs.length <= sizeLine/\∃ (its:List Value) (n:Nat),yD xs its/\xs.length=its.length/\s.heap.get? l=some { cls:=.type "list",data:=.seq its.toArray n }:=by
 obtain ⟨z,its,n,r,e⟩:=I.hok l _ hH
 exact ⟨z,its,n,r,r.length,e⟩
end
section
variable {X:Cx}
def aC:V->List V->Hp->VK->Prop:=fun x vs H Q=>∃ l xs y,x=.ref l/\vs=[y]/\H l=some (.lst xs)/\xs.length < sizeLine/\Q .non (upd H l (.lst (xs ++ [y])))
theorem xA:MtM X "list.append" aC:=by
 intro pins s σ H x vs v us Q I rx rv h
 obtain ⟨l,xs,y,rfl,rfl,hH,hz,q⟩:=h
 cases rx
 obtain ⟨u,rfl,ru⟩:=rv.one
 obtain ⟨z,its,n,r,hl,e⟩:=I.lstM hH
 refine call_meets F.slot_list_append ⟨_,e,rfl⟩ F.entry_list_append (F.args_list_append_2 _ _) (PySem.list_append l its.toArray n u (by rw [zGF];omega)) ⟨e,?_⟩
 refine ⟨.non,_,I.lset (its':=its ++ [u]) hH e (by simp) (r.append (.cons ru .nil)) ?_,rfl,q⟩
 rw [zGP,List.length_singleton]
 omega
def zCI:V->List V->Hp->VK->Prop:=fun x vs H Q=>∃ l xs i k y,x=.ref l/\vs=[.int i]/\H l=some (.lst xs)/\-(2 ^ 63) <= i/\i < 2 ^ 63/\seqIndex? i xs.length=some k/\xs[k]?=some y/\Q y (upd H l (.lst (xs.eraseIdx k)))
theorem m3:MtM X "list.pop" zCI:=by
 intro pins s σ H x vs v us Q I rx rv h
 obtain ⟨l,xs,i,k,y,rfl,rfl,hH,h1,h2,hk,hy,q⟩:=h
 cases rx
 obtain ⟨u,rfl,ru⟩:=rv.one
 obtain ⟨t,rfl⟩:=ru
 obtain ⟨z,its,n,r,hl,e⟩:=I.lstM hH
 obtain ⟨w,hw,rw'⟩:=r.get hy
 refine call_meets F.slot_list_pop ⟨_,e,rfl⟩ F.entry_list_pop (F.args_list_pop_2 _ _)
  (MeetsSeq.list_pop_at l its.toArray n i t k w (fitsIndex_both h1 h2) (by rw [zGF,<- hl];exact hk) (by rw [<- Array.getElem?_toList];exact hw) (by rw [zGF];omega)) ⟨e,?_⟩
 refine ⟨y,_,I.lset (its':=its.eraseIdx k) hH e ?_ (r.eraseIdx k) ?_,rw',q⟩
 ·show its.toArray.eraseIdxIfInBounds k=(its.eraseIdx k).toArray
  rw [List.eraseIdxIfInBounds_toArray]
 ·have:=uA xs k
  omega
def rCat:R2:=fun x y H Q=>∃ l b xs zs,x=.ref l/\y=.ref b/\H l=some (.lst xs)/\H b=some (.lst zs)/\xs.length + zs.length <= sizeLine/\∀ p,H p=none->Q (.ref p) (upd H p (.lst (xs ++ zs)))
theorem sP:OpR X (binaryOp .Add) rCat:=by
 intro pins s σ H x y v u Q I rx ry h
 obtain ⟨l,b,xs,zs,rfl,rfl,hH,hB,hz,q⟩:=h
 cases rx
 cases ry
 obtain ⟨z,its,n,r,hl,e⟩:=I.lstM hH
 obtain ⟨z2,its2,n2,r2,hl2,e2⟩:=I.lstM hB
 refine PySem.P.add_list e e2 ?_ (by rw [zGF,zGF];omega)
 have ea:its.toArray ++ its2.toArray=(its ++ its2).toArray:=by simp
 rw [ea]
 exact ⟨.ref _,_,I.lnew (t':=s.toks) (r.append r2) (by rw [zGP];omega),rfl,q _ I.fresh⟩
end
section
variable {prog:Program} {w:World} {A:Around} {E:Value->Shared->Prop} {s:Shared}
end
section
variable {X:Cx}
end
end L2
namespace L2
open PySem PySem.Spec PyProof.Rows
section
variable {κ:Type} [DecidableEq κ]
def vO (kvs:List (κ × V)) (k:κ):Option V:=(kvs.find? fun kv=>decide (kv.1=k)).map (·.2)
def wG (kvs:List (κ × V)) (k:κ) (v:V):List (κ × V):=
 if (kvs.any fun kv=>decide (kv.1=k))=true then kvs.map (fun kv=>if kv.1=k then (kv.1,v) else kv) else kvs ++ [(k,v)]
def uD (kvs:List (κ × V)) (k:κ):List (κ × V):=kvs.filter fun kv=>decide (kv.1 ≠ k)
theorem tQ {p:κ × V} {r:List (κ × V)} {k:κ} (e:p.1=k):vO (p :: r) k=some p.2:=by simp [vO,List.find?_cons,e]
theorem uX {p:κ × V} {r:List (κ × V)} {k:κ} (e:¬ p.1=k):vO (p :: r) k=vO r k:=by simp [vO,List.find?_cons,e]
theorem r8 (k:κ):∀ kvs:List (κ × V),(kvs.any fun kv=>decide (kv.1=k))=(vO kvs k).isSome
 | []=>rfl
 | p :: r=>by
  rw [List.any_cons]
  by_cases e:p.1=k
  ·simp only [tQ e,zGM e,Bool.true_or,Option.isSome_some]
  ·rw [uX e,zGN e,Bool.false_or];exact r8 k r
theorem vR (kvs:List (κ × V)) (k:κ) (v:V):(wG kvs k v).length <= kvs.length + 1:=by
 unfold wG
 split
 ·rw [zF7];omega
 ·rw [zGP,zGS,List.length_nil];omega
theorem eQ {kvs:List (κ × V)} {k:κ} (v:V) (h:vO kvs k=none):wG kvs k v=kvs ++ [(k,v)]:=by
 unfold wG
 rw [r8,h]
 exact if_neg (by decide)
theorem u4.isSome_eq {o:Option V} {u:Option Value} (r:u4 o u):o.isSome=u.isSome:=by
 cases o with
 | none=>cases u with
  | none=>rfl
  | some _=>exact (show False from r).elim
 | some _=>cases u with
  | none=>exact (show False from r).elim
  | some _=>rfl
theorem KV.val {kvs:List (κ × V)} {vs:List (κ × Value)} (r:KV kvs vs) (k:κ):u4 (vO kvs k) (valueAt vs k):=by
 unfold KV at r
 induction r with
 | nil=>exact True.intro
 | @cons p q ps qs h t ih=>
  obtain ⟨h1,h2⟩:=h
  by_cases e:p.1=k
  ·have e':q.1=k:=h1.symm.trans e
   have b:valueAt (q :: qs) k=some q.2:=by simp [valueAt,List.find?_cons,e']
   rw [tQ e,b];exact h2
  ·have e':¬ q.1=k:=fun z=>e (h1.trans z)
   have b:valueAt (q :: qs) k=valueAt qs k:=by simp [valueAt,List.find?_cons,e']
   rw [uX e,b];exact ih
theorem KV.any {kvs:List (κ × V)} {vs:List (κ × Value)} (r:KV kvs vs) (k:κ):(kvs.any fun kv=>decide (kv.1=k))=vs.any fun kv=>decide (kv.1=k):=by
 unfold KV at r
 induction r with
 | nil=>rfl
 | cons h t ih=>rw [List.any_cons,List.any_cons,ih,h.1]
theorem KV.repl {kvs:List (κ × V)} {vs:List (κ × Value)} (r:KV kvs vs) (k:κ) {y:V} {u:Value} (ry:yM y u) :
  KV (kvs.map fun kv=>if kv.1=k then (kv.1,y) else kv) (vs.map fun kv=>if kv.1=k then (kv.1,u) else kv):=by
 unfold KV at r ⊢
 induction r with
 | nil=>exact .nil
 | @cons p q ps qs h t ih=>
  rw [List.map_cons,List.map_cons]
  refine .cons ?_ ih
  obtain ⟨h1,h2⟩:=h
  by_cases e:p.1=k
  ·rw [if_pos e,if_pos (h1.symm.trans e)];exact ⟨h1,ry⟩
  ·rw [if_neg e,if_neg (fun z=>e (h1.trans z))];exact ⟨h1,h2⟩
theorem KV.put {kvs:List (κ × V)} {vs:List (κ × Value)} (r:KV kvs vs) (k:κ) {y:V} {u:Value} (ry:yM y u):KV (wG kvs k y) (stored vs k u):=by
 unfold wG stored
 rw [r.any k]
 by_cases e:(vs.any fun kv=>decide (kv.1=k))=true
 ·rw [if_pos e,if_pos e];exact r.repl k ry
 ·rw [if_neg e,if_neg e];exact Paired.snoc r ⟨rfl,ry⟩
theorem KV.drop {kvs:List (κ × V)} {vs:List (κ × Value)} (r:KV kvs vs) (k:κ):KV (uD kvs k) (without vs k):=by
 unfold KV at r ⊢
 unfold uD without
 induction r with
 | nil=>exact .nil
 | @cons p q ps qs h t ih=>
  obtain ⟨h1,h2⟩:=h
  rw [List.filter_cons,List.filter_cons]
  by_cases e:p.1=k
  ·have a:¬ decide (p.1 ≠ k)=true:=by simp [e]
   have b:¬ decide (q.1 ≠ k)=true:=by simp [h1.symm.trans e]
   rw [if_neg a,if_neg b];exact ih
  ·have e':¬ q.1=k:=fun z=>e (h1.trans z)
   have a:decide (p.1 ≠ k)=true:=by simp [e]
   have b:decide (q.1 ≠ k)=true:=by simp [e']
   rw [if_pos a,if_pos b];exact .cons ⟨h1,h2⟩ ih
theorem KV.length {kvs:List (κ × V)} {vs:List (κ × Value)} (r:KV kvs vs):kvs.length=vs.length:=Paired.length r
theorem cP (kvs:List (κ × V)) (k:κ):(uD kvs k).length <= kvs.length:=zG5 _ _
end
theorem rE {P:Program} {w:World} {k:Key} {u:Value} (r:yM (kV k) u):(y9 P w).is k u=true:=by
 cases k with
 | inl i=>obtain ⟨t,e⟩:=(show ∃ t,u=Value.int i t from r);subst e;exact m6 P w i t
 | inr x=>obtain ⟨t,e⟩:=(show ∃ t,u=Value.str x t from r);subst e;exact m5 P w x t
theorem pP {P:Program} {w:World}:∀ {ks:List Key} {us:List Value},yD (ks.map kV) us->ItemsAre (y9 P w) ks us
 | [],_,r=>by rw [List.map_nil] at r;cases r;exact .nil
 | k :: ks,_,r=>by
  rw [List.map_cons] at r
  cases r with
  | cons h t=>exact .cons (rE h) (pP t)
abbrev KT (H:Hp):List (List Key × V)->List (List Key × Addr × Value)->Prop:=Paired fun p q=>p.1=q.1/\H q.2.1=some (.tup (p.1.map kV))/\yM p.2 q.2.2
theorem KT.val {H:Hp} {kvs:List (List Key × V)} {xs:List (List Key × Addr × Value)} (r:KT H kvs xs) (k:List Key):u4 (vO kvs k) ((atKey xs k).map (·.2)):=by
 induction r with
 | nil=>exact True.intro
 | @cons p q ps qs h t ih=>
  obtain ⟨h1,_,h2⟩:=h
  by_cases e:p.1=k
  ·have e':q.1=k:=h1.symm.trans e
   have b:atKey (q :: qs) k=some q.2:=by simp [atKey,List.find?_cons,e']
   rw [tQ e,b];exact h2
  ·have e':¬ q.1=k:=fun z=>e (h1.trans z)
   have b:atKey (q :: qs) k=atKey qs k:=by simp [atKey,List.find?_cons,e']
   rw [uX e,b];exact ih
theorem KT.repl {H:Hp} {kvs:List (List Key × V)} {xs:List (List Key × Addr × Value)} (r:KT H kvs xs) (k:List Key) {y:V} {u:Value} (ry:yM y u) :
  KT H (kvs.map fun kv=>if kv.1=k then (kv.1,y) else kv) (xs.map (putAt k u)):=by
 induction r with
 | nil=>exact .nil
 | @cons p q ps qs h t ih=>
  rw [List.map_cons,List.map_cons]
  refine .cons ?_ ih
  obtain ⟨h1,h2,h3⟩:=h
  unfold putAt
  by_cases e:p.1=k
  ·rw [if_pos e,if_pos (h1.symm.trans e)];exact ⟨h1,h2,ry⟩
  ·rw [if_neg e,if_neg (fun z=>e (h1.trans z))];exact ⟨h1,h2,h3⟩
theorem KT.put {H:Hp} {kvs:List (List Key × V)} {xs:List (List Key × Addr × Value)} (r:KT H kvs xs) (k:List Key) {b:Addr} {y:V} {u:Value} (hb:H b=some (.tup (k.map kV))) (ry:yM y u) :
  KT H (wG kvs k y) (storedH xs k b u):=by
 have e:(kvs.any fun kv=>decide (kv.1=k))=(atKey xs k).isSome:=by
  rw [r8,(r.val k).isSome_eq,Option.isSome_map]
 unfold wG storedH
 rw [e]
 by_cases q:(atKey xs k).isSome=true
 ·rw [if_pos q,if_pos q];exact r.repl k ry
 ·rw [if_neg q,if_neg q];exact Paired.snoc r ⟨rfl,hb,ry⟩
theorem KT.keeps {H H':Hp} {kvs:List (List Key × V)} {xs:List (List Key × Addr × Value)} (r:KT H kvs xs) (ht:∀ b ys,H b=some (.tup ys)->H' b=some (.tup ys)):KT H' kvs xs:=
 Paired.mapP r fun _ _ z=>⟨z.1,ht _ _ z.2.1,z.2.2⟩
section
variable {P:Program} {w:World} {H:Hp} {h:Heap} {a:Addr}
theorem zA8 {u:HO} (ok:HOk P w H h) (e:Rd H a u):xF P w H h a u:=e.ok ok
theorem pT {kvs:List (Key × V)} (ok:HOk P w H h) (e:Rd H a (.dK kvs)):kvs.length <= sizeLine/\(a == sysModules)=false/\∃ vs,KV kvs vs/\h.DictOf (y9 P w) a vs:=
 show xF P w H h a (.dK kvs) from zA8 ok e
theorem pU {kvs:List (Key × V)} (ok:HOk P w H h) (e:H a=some (.dK kvs)):kvs.length <= sizeLine/\(a == sysModules)=false/\∃ vs,KV kvs vs/\h.DictOf (y9 P w) a vs:=pT ok (.inl e)
theorem qR {ks:List Key} (ok:HOk P w H h) (e:H a=some (.tup (ks.map kV))):(tupleKind (y9 P w)).is h ks a:=by
 obtain ⟨_,its,r,o,h1,h2,n,h3⟩:=(show xF P w H h a (.tup (ks.map kV)) from ok a _ e)
 exact ⟨o,its.toArray,n,h1,h2,h3,by simpa using pP r⟩
theorem pS {kvs:List (List Key × V)} (ok:HOk P w H h) (e:Rd H a (.dT kvs)):kvs.length <= sizeLine/\(a == sysModules)=false /\
  ∃ xs,KT H kvs xs/\h.DictOfH (tupleKind (y9 P w)) a xs:=by
 obtain ⟨z,y,xs,r,o,es,ep,h1,h2,h3,h4,h5⟩:=(show xF P w H h a (.dT kvs) from zA8 ok e)
 refine ⟨z,y,xs,r,o,es,ep,h1,h2,h3,h4,fun x hx=>?_,h5⟩
 have all:∀ {l:List (List Key × V)} {m:List (List Key × Addr × Value)},KT H l m->∀ x ∈ m,(tupleKind (y9 P w)).is h x.1 x.2.1:=by
  intro l m q
  induction q with
  | nil=>intro x hx;exact nomatch hx
  | @cons p q ps qs hq t ih=>
   intro x hx
   rcases List.mem_cons.mp hx with e | hx
   ·subst e
    exact qR ok (by rw [<- hq.1];exact hq.2.1)
   ·exact ih x hx
 exact all r x hx
theorem zFZ {kvs:List (List Key × V)} (ok:HOk P w H h) (e:H a=some (.dT kvs)):kvs.length <= sizeLine/\(a == sysModules)=false /\
  ∃ xs,KT H kvs xs/\h.DictOfH (tupleKind (y9 P w)) a xs:=pS ok (.inl e)
end
def uE (H:Hp) (a:Addr) (y:V) (r:Option V):Prop:=
 (∃ kvs k,Rd H a (.dK kvs)/\y=kV k/\r=vO kvs k) \/ ∃ kvs k b,Rd H a (.dT kvs)/\y=.ref b/\H b=some (.tup (k.map kV))/\r=vO kvs k
def pG (H:Hp) (a:Addr) (y v:V) (H':Hp):Prop:=
 (∃ kvs k,H a=some (.dK kvs)/\y=kV k/\kvs.length < sizeLine/\H'=upd H a (.dK (wG kvs k v))) \/
 ∃ kvs k b,H a=some (.dT kvs)/\y=.ref b/\H b=some (.tup (k.map kV))/\kvs.length < sizeLine/\H'=upd H a (.dT (wG kvs k v))
theorem uE.k {H:Hp} {a:Addr} {kvs:List (Key × V)} {k:Key} (e:H a=some (.dK kvs)):uE H a (kV k) (vO kvs k):=.inl ⟨kvs,k,.inl e,rfl,rfl⟩
theorem pG.k {H:Hp} {a:Addr} {kvs:List (Key × V)} {k:Key} {v:V} (e:H a=some (.dK kvs)) (hl:kvs.length < sizeLine):pG H a (kV k) v (upd H a (.dK (wG kvs k v))):=.inl ⟨kvs,k,e,rfl,hl,rfl⟩
section
variable {X:Cx} {pins:List (Addr × Obj)} {σ:St} {H:Hp} {s:Shared} {a:Addr} {y v:V} {u r:Value} {o:Option V} {A:Around} {E:Value->Shared->Prop}
theorem Inv.big (I:Inv X pins σ H s):sysModules < s.heap.objs.size:=by
 have h:mainGlobals < s.heap.objs.size:=(I.mod.glob.keeps I.bk).lt
 exact Nat.lt_trans (by decide) h
theorem gU {Q:Value->Shared->Prop} (hu:A.units + 1 < cLine) (I:Inv X pins σ H s) (g:uE H a y (some v)) (ry:yM y u) (h:∀ w' s',Inv X pins σ H s'->yM v w'->Q w' s') :
  wpAny (model X.prog X.w) A (getItem (.ref a) u) Q E s:=by
 rcases g with ⟨kvs,k,e,ey,l⟩ | ⟨kvs,k,b,e,ey,eb,l⟩
 ·subst ey
  obtain ⟨z,hd,vs,rel,dd⟩:=pT I.hok e
  obtain ⟨w',hw,rw'⟩:=u4.some_of (v:=v) (o:=valueAt vs k) (by rw [l];exact rel.val k)
  exact wpAny_getItem_of (rE ry) dd.mapOf hw (h w' _ (I.tok _) rw')
 ·subst ey
  cases (show u=Value.ref b from ry)
  obtain ⟨z,hd,xs,rel,dd⟩:=pS I.hok e
  obtain ⟨w',hw,rw'⟩:=u4.some_of (v:=v) (o:=(atKey xs k).map (·.2)) (by rw [l];exact rel.val k)
  obtain ⟨p,hp,hp2⟩:=Option.map_eq_some_iff.mp hw
  refine wpAny_getItem_heap (tupleKind_room_in1 hu) (qR I.hok eb) dd hp ?_
  rw [hp2]
  exact h w' _ (I.tok _) rw'
theorem d_in {Q:Value->Shared->Prop} (hu:A.units + 1 < cLine) (I:Inv X pins σ H s) (g:uE H a y o) (ry:yM y u) (h:∀ s',Inv X pins σ H s'->Q (.bool o.isSome) s') :
  wpAny (model X.prog X.w) A (compareOp .In u (.ref a)) Q E s:=by
 rcases g with ⟨kvs,k,e,ey,l⟩ | ⟨kvs,k,b,e,ey,eb,l⟩
 ·subst ey
  obtain ⟨z,hd,vs,rel,dd⟩:=pT I.hok e
  refine wpAny_in_of (rE ry) hd dd.mapOf ?_
  rw [<- (rel.val k).isSome_eq,<- l]
  exact h _ (I.tok _)
 ·subst ey
  cases (show u=Value.ref b from ry)
  obtain ⟨z,hd,xs,rel,dd⟩:=pS I.hok e
  refine wpAny_in_heap (tupleKind_room_in1 hu) (qR I.hok eb) hd dd ?_
  have q:=(rel.val k).isSome_eq
  rw [Option.isSome_map] at q
  rw [<- q,<- l]
  exact h _ (I.tok _)
theorem zAP {Q:Value->Shared->Prop} (hu:A.units + 1 < cLine) (I:Inv X pins σ H s) (g:uE H a y o) (ry:yM y u) (h:∀ s',Inv X pins σ H s'->Q (.bool (!o.isSome)) s') :
  wpAny (model X.prog X.w) A (compareOp .NotIn u (.ref a)) Q E s:=by
 rcases g with ⟨kvs,k,e,ey,l⟩ | ⟨kvs,k,b,e,ey,eb,l⟩
 ·subst ey
  obtain ⟨z,hd,vs,rel,dd⟩:=pT I.hok e
  refine wpAny_notIn_of (rE ry) hd dd.mapOf ?_
  rw [<- (rel.val k).isSome_eq,<- l]
  exact h _ (I.tok _)
 ·subst ey
  cases (show u=Value.ref b from ry)
  obtain ⟨z,hd,xs,rel,dd⟩:=pS I.hok e
  refine wpAny_notIn_heap (tupleKind_room_in1 hu) (qR I.hok eb) hd dd ?_
  have q:=(rel.val k).isSome_eq
  rw [Option.isSome_map] at q
  rw [<- q,<- l]
  exact h _ (I.tok _)
theorem t9 {h':Heap} {t':Nat} {ob:HO} (I:Inv X pins σ H s) (mu:Mut (H a)) (hs:Heap.SameBut a s.heap h') (he:∃ q,h'.get? a=some q) (new:xF X.prog X.w (upd H a ob) h' a ob) :
  Inv X pins σ (upd H a ob) { s with heap:=h',toks:=t' }:=
 I.write (x:=a) (e:=a) mu (.inl rfl) (fun b q hb z=>(hs.2 b hb).trans z) he new
theorem nJ {P:Program} {w:World} {H':Hp} {h':Heap} {kvs:List (Key × V)} {vs:List (Key × Value)} (z:kvs.length <= sizeLine) (hd:(a == sysModules)=false) (rel:KV kvs vs) (dd:h'.DictOf (y9 P w) a vs) :
  xF P w H' h' a (.dK kvs):=⟨z,hd,vs,rel,dd⟩
theorem gT {H':Hp} {Q:Unit->Shared->Prop} (hu:A.units + 1 < cLine) (I:Inv X pins σ H s) (g:pG H a y v H') (ry:yM y u) (rv:yM v r) (h:∀ s',Inv X pins σ H' s'->Q () s') :
  wpAny (model X.prog X.w) A (setItem (.ref a) u r) Q E s:=by
 rcases g with ⟨kvs,k,e,ey,l,eH⟩ | ⟨kvs,k,b,e,ey,eb,l,eH⟩
 ·subst ey eH
  obtain ⟨z,hd,vs,rel,dd⟩:=pU I.hok e
  have hz:vs.length <= sizeLine:=by rw [<- rel.length];exact z
  have hl:(wG kvs k v).length <= sizeLine:=by have:=vR kvs k v;omega
  refine wpAny_setItem_pairs (hsz:=hz) (rE ry) dd fun h' dd' hs=>h _ ?_
  have he:∃ q,h'.get? a=some q:=let ⟨q,_,_,hq,_⟩:=dd';⟨q,hq⟩
  exact t9 I (by rw [e];exact True.intro) hs he (nJ hl hd (rel.put k rv) dd')
 ·subst ey eH
  cases (show u=Value.ref b from ry)
  obtain ⟨z,hd,xs,rel,dd⟩:=zFZ I.hok e
  have hz:xs.length <= sizeLine:=by rw [<- Paired.length rel];exact z
  have hl:(wG kvs k v).length <= sizeLine:=by have:=vR kvs k v;omega
  refine wpAny_setItem_heap (hsz:=hz) (tupleKind_room_in1 hu) (qR I.hok eb) dd fun h' dd' hs=>h _ ?_
  obtain ⟨q,es,ep,hq,h2,h3,h4,_,h5⟩:=dd'
  refine t9 I (by rw [e];exact True.intro) hs ⟨q,hq⟩ ⟨hl,hd,_,(rel.put k eb rv).keeps fun c ys ec=>?_,q,es,ep,hq,h2,h3,h4,h5⟩
  rw [zI (xO ec e (fun z=>nomatch z))]
  exact ec
end
section
variable {X:Cx} {pins:List (Addr × Obj)} {σ:St} {H:Hp} {s:Shared} {a:Addr} {kvs:List (Key × V)} {k:Key} {u:Value} {A:Around} {E:Value->Shared->Prop}
theorem zF0 {v:V} {more:List Value} {Q:Value->Shared->Prop} (I:Inv X pins σ H s) (e:H a=some (.dK kvs)) (ry:yM (kV k) u) (l:vO kvs k=some v) (hm:more=[] \/ ∃ x,more=[x])
  (h:∀ w' s',Inv X pins σ (upd H a (.dK (uD kvs k))) s'->yM v w'->Q w' s'):wpAny (model X.prog X.w) A (call (.builtin "dict.pop") (.ref a :: u :: more)) Q E s:=by
 obtain ⟨z,hd,vs,rel,dd⟩:=pU I.hok e
 obtain ⟨w',hw,rw'⟩:=u4.some_of (v:=v) (o:=valueAt vs k) (by rw [<- l];exact rel.val k)
 have hp:(keyPart u).isSome=true:=by
  cases k with
  | inl i=>obtain ⟨t,q⟩:=(show ∃ t,u=Value.int i t from ry);subst q;rfl
  | inr x=>obtain ⟨t,q⟩:=(show ∃ t,u=Value.str x t from ry);subst q;rfl
 have ha:argsOk "dict.pop" ⟨.ref a :: u :: more,[]⟩:=by
  rcases hm with q | ⟨x,q⟩
  ·subst q;exact PySem.F.args_dict_pop_2 _ _
  ·subst q;exact PySem.F.args_dict_pop_3 _ _ _
 refine call_meetsIn PySem.F.slot_dict_pop dd.typeIs PySem.F.entry_dict_pop ha (meets_dict_pop_there (y9 X.prog X.w) a (rE ry) more hm hp)
  ⟨vs,w',dd,by rw [<- rel.length];exact z,hw,fun h' dd' hs=>h w' _ ?_ rw'⟩
 have he:∃ q,h'.get? a=some q:=let ⟨q,_,_,hq,_⟩:=dd';⟨q,hq⟩
 exact t9 I (by rw [e];exact True.intro) hs he (nJ (zGI (cP kvs k) z) hd (rel.drop k) dd')
end
def zF5 (i:Expr):Prop:=∀ ov iv,subscripted i false ov iv=operate [ov,iv] (getItem ov iv)
theorem bM {prog:Program} {w:World} {A:Around} {E:Value->Shared->Prop} {s:Shared} {env:Env} {value slice:Expr} {pos:Pos} {T id:String} {Q:Value->Shared->Prop}
  (hl:typeLookup (.type T) "__getitem__"=pure (some (.builtin id))) (hs:zF5 slice)
  (h:wpAny (model prog w) A (eval value env) (fun o s₁=>wpAny (model prog w) A (eval slice env) (fun i s₂=>s₂.TypeIs o T/\wpAny (model prog w) A (getItem o i) Q E s₂) E s₁) E s) :
  wpAny (model prog w) A (eval (.Subscript value slice pos) env) Q E s:=by
 refine Subscript_ (wpAny_mono h (fun o s₁ h₁=>wpAny_mono h₁ (fun i s₂ h₂=>?_) fun _ _ x=>x) fun _ _ x=>x)
 obtain ⟨hT,h₂⟩:=h₂
 unfold subscriptTail
 refine wpAny_bind ?_
 rw [getitemInPython_of_ne hT.not_modules]
 refine wpAny_bind (wpAny_specialOf hT hl ?_)
 have fin:wpAny (model prog w) A (subscripted slice false o i) (fun r s₃=>wpAny (model prog w) A (letTemporaryGo value o r >>= fun _=>pure r) Q E s₃) E s₂:=by
  rw [hs o i]
  exact wpAny_operating (wpAny_mono h₂ (fun r s₃ h₃=>wpAny_bind (wpAny_letTemporaryGo (wpAny_pure h₃))) fun _ _ x=>x)
 first
  | exact wpAny_pure (wpAny_bind fin)
  | exact wpAny_bind (wpAny_pure (wpAny_bind fin))
  | exact wpAny_bind fin
theorem lD {X:Cx} {pins:List (Addr × Obj)} {σ:St} {H:Hp} {s:Shared} {a:Addr} {y:V} {o:Option V} (I:Inv X pins σ H s) (g:uE H a y o):s.TypeIs (.ref a) "dict":=by
 rcases g with ⟨kvs,k,e,_,_⟩ | ⟨kvs,k,b,e,_,_,_⟩
 ·obtain ⟨_,_,vs,_,dd⟩:=pT I.hok e
  exact dd.typeIs
 ·obtain ⟨_,_,xs,_,dd⟩:=pS I.hok e
  exact dd.typeIs
def zD3 (td ty:TE):TE:=fun σ H Q=>td σ H fun x H1=>ty σ H1 fun y H2=>∃ a v,x=.ref a/\uE H2 a y (some v)/\Q v H2
def tDIn (ty td:TE):TE:=fun σ H Q=>ty σ H fun y H1=>td σ H1 fun x H2=>∃ a o,x=.ref a/\uE H2 a y o/\Q (.bl o.isSome) H2
def bK (ty td:TE):TE:=fun σ H Q=>ty σ H fun y H1=>td σ H1 fun x H2=>∃ a o,x=.ref a/\uE H2 a y o/\Q (.bl (!o.isSome)) H2
def zEZ (td ty tv:TE):TS:=fun D σ H=>tv σ H fun v H1=>td σ H1 fun x H2=>ty σ H2 fun y H3=>∃ a H4,x=.ref a/\pG H3 a y v H4/\D.nx σ H4
section
variable {X:Cx} {o i e value:Expr} {pos pos' tpos:Pos} {td ty tv:TE}
theorem yQ (hu:X.A.units + 1 < cLine) (ho:PE X o td) (hi:PE X i ty) (hs:zF5 i):PE X (.Subscript o i pos) (zD3 td ty):=by
 intro pins s σ H Q I h
 refine bM PySem.F.slot_dict_getitem.lookup hs (thn (ho pins s σ H _ I h) fun u s1 hz41=>?_)
 obtain ⟨x,H1,I1,rx,q1⟩:=hz41
 refine thn (hi pins s1 σ H1 _ I1 q1) fun iv s2 hz42=>?_
 obtain ⟨y,H2,I2,ry,a,v,ex,g,q2⟩:=hz42
 subst ex
 obtain rfl:u=Value.ref a:=rx
 exact ⟨lD I2 g,gU hu I2 g ry fun w' s3 I3 rw'=>⟨v,H2,I3,rw',q2⟩⟩
theorem zCP (hu:X.A.units + 1 < cLine) (hi:PE X i ty) (ho:PE X o td):PC X .In i o (tDIn ty td):=by
 intro pins s σ H Q I h
 refine thn (hi pins s σ H _ I h) fun iv s1 hz43=>?_
 obtain ⟨y,H1,I1,ry,q1⟩:=hz43
 refine thn (ho pins s1 σ H1 _ I1 q1) fun u s2 hz44=>?_
 obtain ⟨x,H2,I2,rx,a,ov,ex,g,q2⟩:=hz44
 subst ex
 obtain rfl:u=Value.ref a:=rx
 exact d_in hu I2 g ry fun s3 I3=>⟨.bl ov.isSome,H2,I3,rfl,q2⟩
theorem hE (hu:X.A.units + 1 < cLine) (hi:PE X i ty) (ho:PE X o td):PC X .NotIn i o (bK ty td):=by
 intro pins s σ H Q I h
 refine thn (hi pins s σ H _ I h) fun iv s1 hz45=>?_
 obtain ⟨y,H1,I1,ry,q1⟩:=hz45
 refine thn (ho pins s1 σ H1 _ I1 q1) fun u s2 hz46=>?_
 obtain ⟨x,H2,I2,rx,a,ov,ex,g,q2⟩:=hz46
 subst ex
 obtain rfl:u=Value.ref a:=rx
 exact zAP hu I2 g ry fun s3 I3=>⟨.bl (!ov.isSome),H2,I3,rfl,q2⟩
theorem vE (hu:X.A.units + 1 < cLine) (ho:PE X o td) (hi:PE X i ty) (hv:PE X value tv) (hs:swapsWith value (some (.Subscript o i pos')) pos.line X.env=pure false) :
  PS X (.Assign [.Subscript o i pos'] value pos) (zEZ td ty tv):=by
 intro pins s σ H D I h
 refine wpAny_Assign_Subscript (thn (hv pins s σ H _ I h) fun r s1 hz47=>?_) hs
 obtain ⟨v,H1,I1,rv,q1⟩:=hz47
 refine thn (ho pins s1 σ H1 _ I1 q1) fun u s2 hz48=>?_
 obtain ⟨x,H2,I2,rx,q2⟩:=hz48
 refine thn (hi pins s2 σ H2 _ I2 q2) fun iv s3 hz49=>?_
 obtain ⟨y,H3,I3,ry,a,H4,ex,g,q3⟩:=hz49
 subst ex
 obtain rfl:u=Value.ref a:=rx
 exact gT hu I3 g ry rv fun s4 I4=>⟨σ,H4,I4,q3⟩
end
theorem qV {P:Program} {w:World} {H:Hp} (h:Heap) (hb:sysModules < h.objs.size):xF P w H (h.push { cls:=.type "dict",data:=.dict #[] }) h.objs.size (.dK []):=
 ⟨zGH _,beq_eq_false_iff_ne.mpr (Ne.symm (zGY hb)),[],.nil,Heap.DictOf.new h⟩
def zBY:TE:=fun _ H Q=>∀ p,H p=none->Q (.ref p) (upd H p (.dK []))
section
variable {X:Cx} {pos:Pos}
theorem e9:PE X (.Dict [] [] pos) zBY:=fun pins s σ H Q I h=>
 wpAny_Dict_empty ⟨.ref s.heap.objs.size,_,I.laid (a:=s.heap.objs.size) (o:=.dK []) (t':=s.toks) (fun _ _ q=>Heap.get?_push_of_some _ q) (zGG _) (qV s.heap I.big),rfl,h _ (I.hok.fresh (zGG _))⟩
end
def lT:List (TE × TE)->St->Hp->(List (V × V)->Hp->Prop)->Prop
 | [],_,H,Q=>Q [] H
 | (tk,tv) :: r,σ,H,Q=>tk σ H fun x H1=>tv σ H1 fun y H2=>lT r σ H2 fun ps H3=>Q ((x,y) :: ps) H3
abbrev VV:List (V × V)->List (Value × Value)->Prop:=Paired fun p q=>yM p.1 q.1/\yM p.2 q.2
def PPs (X:Cx) (pos:Pos) (keys:List (Option Expr)) (values:List Expr) (trs:List (TE × TE)):Prop:=
 ∀ (pins:List (Addr × Obj)) (s:Shared) (σ:St) (H:Hp) (Q:List (V × V)->Hp->Prop),Inv X pins σ H s->lT trs σ H Q ->
  wpAny (model X.prog X.w) X.A (evalPairs (pairTrees keys values X.env pos)) (fun vs s'=>∃ ps H',Inv X pins σ H' s'/\VV ps vs/\Q ps H') X.xe s
theorem aF {X:Cx} {pos:Pos}:PPs X pos [] [] []:=fun pins s σ H Q I h=>pairTrees_nil_walk ⟨[],H,I,.nil,h⟩
theorem tW {X:Cx} {pos:Pos} {k v:Expr} {ks:List (Option Expr)} {vs:List Expr} {tk tv:TE} {trs:List (TE × TE)} (hk:PE X k tk) (hv:PE X v tv) (hr:PPs X pos ks vs trs) :
  PPs X pos (some k :: ks) (v :: vs) ((tk,tv) :: trs):=fun pins s σ H Q I h=>
 pairTrees_cons_walk (thn (hk pins s σ H _ I h) fun u s1 ⟨x,H1,I1,rx,q1⟩=>thn (hv pins s1 σ H1 _ I1 q1) fun w2 s2 ⟨y,H2,I2,ry,q2⟩=>
  thn (hr pins s2 σ H2 _ I2 q2) fun ws s3 ⟨ps,H3,I3,rel,q3⟩=>⟨(x,y) :: ps,H3,I3,.cons ⟨rx,ry⟩ rel,q3⟩)
def qO (kvs more:List (Key × V)):List (Key × V):=more.foldl (fun acc kv=>wG acc kv.1 kv.2) kvs
theorem KV.merge:∀ {more:List (Key × V)} {rs:List (Key × Value)} {kvs:List (Key × V)} {vs:List (Key × Value)},KV more rs->KV kvs vs->KV (qO kvs more) (merged vs rs):=by
 intro more rs kvs vs r
 unfold KV at r
 induction r generalizing kvs vs with
 | nil=>intro q;exact q
 | @cons p q ps qs h t ih=>
  intro r0
  have e:KV (wG kvs p.1 p.2) (stored vs q.1 q.2):=by
   have:=r0.put p.1 h.2
   rw [<- h.1];exact this
  exact ih e
theorem tE:∀ (more kvs:List (Key × V)),(qO kvs more).length <= kvs.length + more.length
 | [],kvs=>by show kvs.length <= kvs.length + 0;omega
 | p :: r,kvs=>by
  have h1:=tE r (wG kvs p.1 p.2)
  have h2:=vR kvs p.1 p.2
  show (qO (wG kvs p.1 p.2) r).length <= _
  rw [zGS];omega
theorem qY {P:Program} {w:World}:∀ {kvs:List (Key × V)} {ws:List (Value × Value)},VV (kvs.map fun kv=>(kV kv.1,kv.2)) ws->∃ rs,Carries (y9 P w) ws rs/\KV kvs rs
 | [],_,r=>by rw [List.map_nil] at r;cases r;exact ⟨[],True.intro,.nil⟩
 | p :: kvs,_,r=>by
  rw [List.map_cons] at r
  cases r with
  | @cons a b as bs h t=>
   obtain ⟨rs,c,q⟩:=qY (P:=P) (w:=w) t
   obtain ⟨b1,b2⟩:=b
   exact ⟨(p.1,b2) :: rs,⟨rE h.1,rfl,c⟩,.cons ⟨rfl,h.2⟩ q⟩
def zD2 (trs:List (TE × TE)):TE:=fun σ H Q=>∀ p,H p=none->lT trs σ (upd H p (.dK [])) fun ps H2=>H2 p=some (.dK [])/\∃ kvs:List (Key × V),ps=kvs.map (fun kv=>(kV kv.1,kv.2))/\kvs.length <= 15/\Q (.ref p) (upd H2 p (.dK (qO [] kvs)))
theorem aM {X:Cx} {pos:Pos} {keys:List (Option Expr)} {values:List Expr} {trs:List (TE × TE)} (h:PPs X pos keys values trs) (hall:keys.all (·.isSome)=true) (hl:keys.length=values.length) (h0:keys ≠ [])
  (h15:keys.length <= 15):PE X (.Dict keys values pos) (zD2 trs):=by
 intro pins s σ H Q I q
 have hn:=I.hok.fresh (zGG s.heap.objs.size)
 have I1:=I.laid (a:=s.heap.objs.size) (o:=.dK []) (h':=s.heap.push { cls:=.type "dict",data:=.dict #[] }) (t':=s.toks) (fun _ _ q=>Heap.get?_push_of_some _ q) (zGG _) (qV s.heap I.big)
 refine wpAny_Dict_walk (knd:=y9 X.prog X.w) hall hl h0 h15 (thn (h pins _ σ _ _ I1 (q _ hn)) fun ws s2 hz50=>?_)
 obtain ⟨ps,H2,I2,rel,e,kvs,ep,lk,q2⟩:=hz50
 subst ep
 obtain ⟨rs,c,rk⟩:=qY (P:=X.prog) (w:=X.w) rel
 obtain ⟨z,hd,vs0,r0,dd⟩:=pU I2.hok e
 cases r0
 refine ⟨rs,c,dd,fun h' dd' hs=>⟨.ref s.heap.objs.size,_,?_,rfl,q2⟩⟩
 have hz:(qO [] kvs).length <= sizeLine:=by
  have h1:=tE kvs []
  rw [List.length_nil] at h1
  rw [sizeLine_eq];omega
 have he:∃ q,h'.get? s.heap.objs.size=some q:=let ⟨q,_,_,hq,_⟩:=dd';⟨q,hq⟩
 exact t9 I2 (by rw [e];exact True.intro) hs he (nJ hz hd (rk.merge .nil) dd')
structure M1 (X:Cx) (o:Expr) (m:Str) (apos:Pos) (e:Expr) (cpos:Pos):Prop where
 base:attributeBase o m X.env (eval o X.env)=eval o X.env
 few:((backTo cpos (starEach [e] X.env)).all (fun x=>!x.1) && (backToKw cpos (keywordEach [] X.env)).all (fun x=>x.1.isSome)
  && decide (([e]:List Expr).length + ([]:List Keyword).length + (if ([]:List Keyword).isEmpty then 0 else 1) < 30))=true
 line:(apos.endLine == cpos.line)=true
 trees:backTo cpos (starEach [e] X.env)=[(false,eval e X.env)]
def IsD (H:Hp) (a:Addr):Prop:=(∃ kvs,Rd H a (.dK kvs)) \/ ∃ kvs,Rd H a (.dT kvs)
theorem zDI {X:Cx} {pins:List (Addr × Obj)} {σ:St} {H:Hp} {s:Shared} {a:Addr} (I:Inv X pins σ H s) (d:IsD H a) :
  s.TypeIs (.ref a) "dict"/\(∀ b,Value.ref a=.ref b->∃ ob,s.heap.get? b=some ob/\ob.dict=none)/\(a == sysModules)=false:=by
 rcases d with ⟨kvs,e⟩ | ⟨kvs,e⟩
 ·obtain ⟨_,hd,vs,_,dd⟩:=pT I.hok e
  refine ⟨dd.typeIs,fun b q=>?_,hd⟩
  cases q
  obtain ⟨ob,_,_,h1,h2,_⟩:=dd
  exact ⟨ob,h1,h2.2.1⟩
 ·obtain ⟨_,hd,xs,_,dd⟩:=pS I.hok e
  refine ⟨dd.typeIs,fun b q=>?_,hd⟩
  cases q
  obtain ⟨ob,_,_,h1,h2,_⟩:=dd
  exact ⟨ob,h1,h2.2.1⟩
section
variable {X:Cx} {pins:List (Addr × Obj)} {σ:St} {H:Hp} {s:Shared} {a:Addr} {y d:V} {u r:Value} {o:Option V} {A:Around} {E:Value->Shared->Prop}
end
def zBX (td ty:TE):TE:=fun σ H Q=>td σ H fun x H1=>∃ a,x=.ref a/\IsD H1 a/\ty σ H1 fun y H2=>∃ kvs k v,H2 a=some (.dK kvs)/\y=kV k/\vO kvs k=some v/\Q v (upd H2 a (.dK (uD kvs k)))
section
variable {X:Cx} {o e f:Expr} {apos cpos:Pos} {td ty tx:TE}
theorem mQ (ho:PE X o td) (he:PE X e ty) (m:M1 X o "pop" apos e cpos):PE X (.Call (.Attribute o "pop" apos) [e] [] cpos) (zBX td ty):=by
 intro pins s σ H Q I h
 refine wpAny_Call_method m.base m.few m.line PySem.F.plainAttrs_dict PySem.F.slot_dict_pop PySem.F.type_dict_pop (thn (ho pins s σ H _ I h) fun u s1 hz51=>?_)
 obtain ⟨x,H1,I1,rx,a,ex,d,q1⟩:=hz51
 subst ex
 obtain rfl:u=Value.ref a:=rx
 obtain ⟨t1,t2,_⟩:=zDI I1 d
 refine ⟨t1,t2,?_⟩
 rw [m.trees]
 refine Calls.callWith_builtin rfl (Calls.evalArgs_plain (Calls.spliced_cons (thn (he pins s1 σ H1 _ I1 q1) fun iv s2 hz52=>?_)))
 obtain ⟨y,H2,I2,ry,kvs,k,v,ea,ey,l,q2⟩:=hz52
 refine Calls.spliced_nil ?_
 subst ey
 exact zF0 I2 ea ry l (.inl rfl) fun w' s3 I3 rw'=>⟨v,_,I3,rw',q2⟩
end
section
variable {X:Cx} {pins:List (Addr × Obj)} {σ:St} {H:Hp} {s:Shared} {a:Addr} {kvs:List (Key × V)} {A:Around} {E:Value->Shared->Prop}
end
section
variable {X:Cx} {pins:List (Addr × Obj)} {σ:St} {H:Hp} {s:Shared} {a:Addr} {y:V} {u:Value} {A:Around} {E:Value->Shared->Prop}
end
end L2
namespace Att
open PySem PySem.W PySem.Calls PyProof.Rows
theorem ints_of_wellAll {P:Params} {h:Heap}:∀ (ns:List Int) (vs:List Value),WellAll P h vs (ns.map WData.int)->IntsAre vs ns:=by
 intro ns
 induction ns with
 | nil=>
  intro vs w
  rw [List.map_nil] at w
  cases w
  exact .nil
 | cons n ns ih=>
  intro vs w
  rw [List.map_cons] at w
  cases w with
  | cons a b=>
   cases a
   exact .cons _ _ (ih _ b)
theorem script_of {l:OpenLaw} {n:Nat} (hn:l.most=some n) {P:Params} {h:Heap} {args:List WData} {vals:List Value}
  (hpre:l.row.toRowW.claim.pre args=true) (hwl:WellAll P h vals args) :
  ∃ a vs ns,vals=[Value.ref a]/\args=[WData.list (ns.map WData.int)]/\h.get? a=some { cls:=.type "list",data:=.seq vs.toArray }/\IntsAre vs ns/\ns.length <= n:=by
 have hsh:WShape.hasAll [] args [.list .int]=true:=(pre_splitW hpre).1
 have hc:l.pre.holds [] { args:=args }=true:=(pre_splitW hpre).2
 obtain ⟨d,r,rfl,h1,h2⟩:=hasAllW_cons hsh
 obtain rfl:=hasAllW_nil h2
 obtain ⟨xs,rfl,h3⟩:=hasW_list h1
 obtain ⟨ns,rfl⟩:=items_int h3
 have hlen:ns.length <= n:=by
  unfold OpenLaw.pre at hc
  have h4:(WTm.not (.lt (.lit (.int (n:Int))) (.len (.arg 0)))).holds [] { args:=[.list (ns.map .int)] }=true:=by
   have h4:=(holds_andW hc).1
   rw [hn] at h4
   exact h4
  have h5:=condW_of h4 (w_not (w_lt w_lit (w_len_list (w_arg rfl))))
  rw [zF7] at h5
  refine Nat.le_of_not_lt fun q=>?_
  have q':(n:Int) < ((ns.length:Nat):Int):=by omega
  first
   | (rw [zGM q'] at h5;exact absurd h5 (by decide))
   | (simp at h5;omega)
 cases hwl with
 | cons w1 w2=>
  cases w2
  cases w1 with
  | list ho hall=>exact ⟨_,_,ns,rfl,rfl,ho,ints_of_wellAll ns _ hall,hlen⟩
theorem post_true (l:OpenLaw) (args:List WData):l.row.toRowW.claim.post args (.bool true) args=true:=
 postW_of (r:=l.row.toRowW) (X:=(true == true))
  (show WShape.has [] (.bool true) .bool=true by first | rfl | decide | simp [WShape.has,WShape.arms,WShape.armsAll])
  (show (WTm.eq .res (.lit (.bool true))).value [] { args:=args,res:=some (.bool true),after:=args }=some (.bool (true == true)) from w_eq_bool (w_res rfl) w_lit) rfl
theorem attach_call {l:OpenLaw} {n:Nat} {q:Program} {loose:List Str} {XP:(Str->Option Value)->Heap->Prop} {YP:World->Heap->Prop} {d:DefRec}
  (hn:l.most=some n) (hdf:d.params.defaults=[])
  (call:∀ (w:World) (s₀ s₁:Shared) (mg mb:Str->Option Value) (fa:Addr) (o:Obj) (pm cd doc:Value) (a:Addr) (vs:List Value) (ns:List Int),
   Ground q loose [] XP w s₀ mg mb s₁.heap->YP w s₁.heap ->
   s₁.heap.get? fa=some o->o.data=.func (docDef d.name d.params d.body d.scope pm cd doc)->s₁.heap.CodeRec cd d.name->mg d.name=some (.ref fa) ->
   s₁.heap.get? a=some { cls:=.type "list",data:=.seq vs.toArray }->IntsAre vs ns->ns.length <= n->s₁.gens = #[] ->
   codeAny (model l.prog w) callerA (.call (.ref fa) ⟨[.ref a],[]⟩) (fun r s'=>r=.ok (.ret (.bool true))/\OldK s₁.heap s'.heap/\s'.os=s₁.os/\AllBare s'.gens) s₁) :
  WalkO q loose XP YP l.row.toRowW d [] (fun f vs=>PySem.call f vs):=by
 intro w s₀ s₁ mg mb G Y fa o pm cd doc dV kV ho hd hcd hD hmg hg args vals as hpre hlay hrd hwl hlo
 obtain rfl:dV=.none:=Dflts.none hD hdf
 obtain rfl:kV=.none:=Dflts.noKw hD
 obtain ⟨a,vs,ns,rfl,rfl,hobj,hints,hlen⟩:=script_of hn hpre hwl
 refine enter_call (codeAny_mono (call w s₀ s₁ mg mb fa o pm cd doc a vs ns G Y ho (fd_plain hd) hcd hmg hobj hints hlen hg) fun r s' hq=>?_)
 obtain ⟨rfl,h2,h3,h4⟩:=hq
 exact ⟨.inl ⟨.bool true,.bool true,[],rfl,fun _=>rfl,.bool true,post_true l _,fun _=>⟨List.Pairwise.nil,fun _ hm=>(nomatch hm)⟩⟩,h2,h3,h4⟩
section
variable {prog:Program} {w:World} {A:Around} {E:Value->Shared->Prop} {s:Shared} {K:Frag}
end
end Att
namespace L2
open PySem PySem.Spec PyProof.Rows
theorem iT {vs:List Value} {ns:List Int} (h:IntsAre vs ns):yD (ns.map V.int) vs:=by
 induction h with
 | nil=>exact .nil
 | cons n t _ ih=>exact .cons ⟨t,rfl⟩ ih
def zDV (H:Hp):Prop:=∀ b,H b=none \/ ∃ o xs,H b=some (.frz o (.lst xs))
theorem d3 {P:Program} {w:World} {K:PySem.W.Frag} {mg mb:Str->Option Value} {CX:CXT} {k:Nat} {fa a:Addr} {fd:FuncData} {x:Str} {sp:Sp} {s₁:Shared} {vs:List Value} {ns:List Int}
  (KX:K.In s₁.heap) (hns:s₁.heap.Ns mainGlobals mg) (hb:s₁.heap.Ns builtinsNs mb) (hbb:∀ x:Str,x ≠ "__name__"->mb x=bootBuiltins x) (hlim:s₁.heap.NoLimit) (hg:s₁.gens = #[])
  (ha:s₁.heap.get? a=some { cls:=.type "list",data:=.seq vs.toArray }) (hi:IntsAre vs ns) (hl:ns.length <= sizeLine) (hr:z7 k callerA)
  (F:∀ base:Heap,K.In base->base.Ns mainGlobals mg->uW P w K mg base CX k fa fd [x] sp) (hbind:∀ (s:Shared) (u:Value),BindsTo s fd ⟨[u],[]⟩ [(x,u)])
  (hsp:∀ H:Hp,zDV H->SqL K H a (ns.map V.int)->sp [.ref a] H (fun v _=>v=.bl true) fun _ _ _=>False)
  (hCX:∀ H e s',CX [] H s₁ (fun _ _ _=>False) e s'->False) :
  codeAny (model P w) callerA (.call (.ref fa) ⟨[.ref a],[]⟩) (fun r s'=>r=.ok (.ret (.bool true))/\OldK s₁.heap s'.heap/\s'.os=s₁.os/\AllBare s'.gens) s₁:=by
 have rv:=iT hi
 have lenV:=hi.length
 have core:∀ H:Hp,zDV H->SqL K H a (ns.map V.int)->HOk P w H s₁.heap->(∀ b,H b ≠ none->b=a)->(H a ≠ none->K.lookup a=none) ->
   codeAny (model P w) callerA (.call (.ref fa) ⟨[.ref a],[]⟩) (fun r s'=>r=.ok (.ret (.bool true))/\OldK s₁.heap s'.heap/\s'.os=s₁.os/\AllBare s'.gens) s₁:=by
  intro H hO hS hok hA hK
  have base_of:∀ {b:Addr} {o:Obj},s₁.heap.get? b=some o->H b=none->(nE s₁.heap H).get? b=some o:=fun e n=>cD e n
  have noA:∀ {b:Addr} {o:Obj} {es:Array DictEntry} {ep:Nat},s₁.heap.get? b=some o->o.data=.dict es ep->H b=none:=fun {b o es ep} e d=>by
   cases q:H b with
   | none=>rfl
   | some u=>
    have e':b=a:=hA b (by rw [q];simp)
    subst e'
    rw [ha] at e;cases e
    have d':Data.seq vs.toArray _=Data.dict es ep:=d
    cases d'
  have nsK:∀ {b:Addr} {m:Str->Option Value},s₁.heap.Ns b m->(nE s₁.heap H).Ns b m:=fun {b m} ⟨o,es,ep,e,d,r⟩=>⟨o,es,ep,base_of e (noA e d),d,r⟩
  have hKb:K.In (nE s₁.heap H):=fun b o e=>base_of (KX b o e) (by
   cases q:H b with
   | none=>rfl
   | some u=>
    have e':b=a:=hA b (by rw [q];simp)
    subst e'
    rw [hK (by rw [q];simp)] at e;cases e)
  have hM:Mod K mg (nE s₁.heap H):=⟨hKb,nsK hns,⟨mb,nsK hb,hbb⟩,let ⟨mc,h1,h2⟩:=hlim;⟨mc,nsK h1,h2⟩⟩
  have e0:jH P w K mg (nE s₁.heap H) callerA [] s₁ H:=⟨rfl,hM,fun b o e=>aW e,Nat.le_of_eq (gK _ _),trivial,fun b hb=>absurd (show b ∈ ([]:List Addr) from hb) (by simp),hok,.of_eq hg⟩
  refine codeAny_mono ((F _ hKb (nsK hns)).run callerA [] s₁ H ⟨[.ref a],[]⟩ [.ref a] [.ref a] _ _ hr e0 (hbind s₁ (.ref a)) (.cons rfl .nil) (hsp H hO hS)) fun r s' h=>?_
  cases r with
  | error e=>exact (hCX H e s' h).elim
  | ok fl=>
   cases fl with
   | next=>exact False.elim h
   | brk=>exact False.elim h
   | cont=>exact False.elim h
   | ret u=>
    obtain ⟨v,H',os,bare,un,hok',r',q⟩:=h
    have q':v=.bl true:=q
    subst q'
    obtain rfl:u=Value.bool true:=r'
    refine ⟨rfl,OldK.of_keep fun b o e=>?_,os,bare⟩
    cases q:H b with
    | none=>exact un.keep b o e q (by intro z;exact absurd (show b ∈ ([]:List Addr) from z) (by simp)) (by simp)
    | some u=>
     rcases hO b with z | ⟨ob,xs,z⟩
     ·rw [q] at z;cases z
     ·have z2:=un.frzs b ob _ z
      obtain ⟨e1,_⟩:=hok b _ z
      obtain ⟨e2,_⟩:=hok' b _ z2
      rw [e] at e1;cases e1
      exact e2
 cases hk:K.lookup a with
 | some o=>
  have e:=KX a o hk
  rw [ha] at e
  cases e
  refine core (fun _=>none) (fun _=>.inl rfl) (.inr ⟨_,vs.toArray,_,hk,rfl,rfl,rfl,by rw [zGF,lenV];exact hl,by simpa using rv⟩) (fun b u z=>by have z':(none:Option HO)=some u:=z;cases z') (fun b z=>absurd rfl z) fun z=>absurd rfl z
 | none=>
  refine core (fun b=>if b=a then some (.frz { cls:=.type "list",data:=.seq vs.toArray } (.lst (ns.map V.int))) else none) (fun b=>?_) (.inl (.inr ⟨{ cls:=.type "list",data:=.seq vs.toArray },if_pos rfl⟩)) (fun b u z=>?_) (fun b z=>?_) fun _=>hk
  ·by_cases hb:b=a
   ·exact .inr ⟨_,_,if_pos hb⟩
   ·exact .inl (if_neg hb)
  ·by_cases hb:b=a
   ·have z':=(if_pos hb).symm.trans z
    cases z'
    subst hb
    exact ⟨ha,by rw [zF7];exact hl,vs,_,rv,ha⟩
   ·have z':=(if_neg hb).symm.trans z
    cases z'
  ·by_cases hb:b=a
   ·exact hb
   ·exact absurd (if_neg hb) z
end L2
namespace L2
open PySem PySem.Spec PyProof.Rows
theorem walk_of {l:PySem.W.OpenLaw} {n k:Nat} {q:Program} {loose:List Str} {XP:(Str->Option Value)->Heap->Prop} {YP:World->Heap->Prop} {d:DefRec} {K:Params->PySem.W.Frag} {CX:World->CXT} {sp:World->Sp} {x:Str}
  (hn:l.most=some n) (hn2:n <= sizeLine) (hdf:d.params.defaults=[]) (hr:z7 k callerA)
  (hY:∀ (w:World) (h:Heap),YP w h->(K w.params).In h)
  (F:∀ (w:World) (mg:Str->Option Value) (fa:Addr) (h:Heap),(K w.params).In h->h.Ns mainGlobals mg->mg d.name=some (.ref fa) ->
   ∃ fd:FuncData,(∀ (s:Shared) (u:Value),BindsTo s fd ⟨[u],[]⟩ [(x,u)]) /\
    ∀ base:Heap,(K w.params).In base->base.Ns mainGlobals mg->uW l.prog w (K w.params) mg base (CX w) k fa fd [x] (sp w))
  (hsp:∀ (w:World) (H:Hp) (a:Addr) (ns:List Int),ns.length <= n->zDV H->SqL (K w.params) H a (ns.map V.int)->sp w [.ref a] H (fun v _=>v=.bl true) fun _ _ _=>False)
  (hCX:∀ (w:World) (H:Hp) (s:Shared) (e:Value) (s':Shared),CX w [] H s (fun _ _ _=>False) e s'->False) :
  PySem.W.WalkO q loose XP YP l.row.toRowW d [] (fun f vs=>PySem.call f vs):=by
 refine Att.attach_call hn hdf fun w s₀ s₁ mg mb fa o pm cd doc a vs ns G Y ho hd hcd hmg hobj hints hlen hg=>?_
 have KX:=hY w _ Y
 obtain ⟨fd,hb,hF⟩:=F w mg fa _ KX G.T.g hmg
 exact d3 KX G.T.g G.T.b G.T.builtins G.T.nolimit hg hobj hints (zGI hlen hn2) hr hF hb (fun H hO hS=>hsp w H a ns hlen hO hS) fun H e s'=>hCX w H s₁ e s'
end L2
namespace L2
open PySem PySem.Spec PyProof.Rows
def yN (s:Stmt) (j:Nat):Stmt:=match s with
 | .ClassDef _ _ _ body _ _ _ _ _ _ _=>body.getD j (.Pass ⟨0,0,0,0⟩)
 | _=>.Pass ⟨0,0,0,0⟩
def x0 (s:Stmt):Arguments:=match s with
 | .FunctionDef _ a _ _ _ _ _ _ _ _=>a
 | _=>{ posonlyargs:=[],args:=[],vararg:=none,kwonlyargs:=[],kw_defaults:=[],kwarg:=none,defaults:=[] }
def xM (s:Stmt):List Stmt:=match s with
 | .FunctionDef _ _ b _ _ _ _ _ _ _=>b
 | _=>[]
def zG (s:Stmt):Scope:=match s with
 | .FunctionDef _ _ _ _ _ _ sc _ _ _=>sc
 | _=>{ kind:=.function,names:=[],isGenerator:=false,isCoroutine:=false }
abbrev CX0:CXT:=fun _ _ _ _ _ _=>False
abbrev E0:XK:=fun _ _ _=>False
theorem iB {X:Cx}:tP CX0 X E0:=fun _ _ _ _ _ _ _ h=>h.elim
structure Fun (K:PySem.W.Frag) (x qual:Str) (st:Stmt) (f:Addr) (fd:FuncData):Prop where
 ex:∃ (oc:Value) (od:Option Addr) (kV doc pm:Value) (an:Option Addr) (cdv ct:Value) (osl:Array (Option Value)),
  fd=PySem.W.fnOf x qual (x0 st) (xM st) (zG st) .none kV doc pm an cdv ct/\K.lookup f=some ⟨oc,od,.func fd,osl⟩/\PySem.W.codeIn K cdv qual=true
 kp:PySem.W.keepIn K (.ref f)=true
section
variable {P:Program} {w:World} {K:PySem.W.Frag} {mg:Str->Option Value} {base:Heap}
theorem Fun.ok {x qual:Str} {st:Stmt} {f:Addr} {fd:FuncData} {N ps:List Str} {k:Nat} {sp:Sp} (F:Fun K x qual st f fd) (S:zN N ps (zG st)) (len:∀ vs H Q E,sp vs H Q E->vs.length=ps.length)
  (hbody:∀ (cdv:Value) (A:Around) (outer:List Env) (s:Shared) (H:Hp) (vs:List V) (Q:VK) (E:XK),z7 k (A.deeper (envOfC qual (zG st) s.heap.objs.size f cdv))->sp vs H Q E ->
   ∃ t,PSs (lF CX0 P w K mg base N qual (zG st) f cdv A outer s H E).nox (xM st) t/\t { nx:=fun _ H'=>Q .non H',rt:=Q } (start N vs) H):uW P w K mg base CX0 (k + 1) f fd ps sp:=by
 obtain ⟨oc,od,kV,doc,pm,an,cdv,ct,osl,rfl,lk,hcd⟩:=F.ex
 refine zFQ lk hcd S len fun A outer s H vs Q E hr hsp=>?_
 obtain ⟨t,h,q⟩:=hbody cdv A outer s H vs Q E hr hsp
 exact ⟨t,h.nox,q⟩
theorem Fun.binds {x qual:Str} {st:Stmt} {f:Addr} {fd:FuncData} {ps:List Str} (F:Fun K x qual st f fd)
  (h:∀ (kV doc pm:Value) (an:Option Addr) (cdv ct:Value) (us:List Value),us.length=ps.length->bindArgs (PySem.W.fnOf x qual (x0 st) (xM st) (zG st) .none kV doc pm an cdv ct) ⟨us,[]⟩=pure (ps.zip us)):vT K fd ps []:=by
 obtain ⟨oc,od,kV,doc,pm,an,cdv,ct,osl,rfl,lk,hcd⟩:=F.ex
 exact .all (h kV doc pm an cdv ct)
theorem tN {x qual:Str} {st:Stmt} {f:Addr} {oc:Value} {od an:Option Addr} {osl:Array (Option Value)} {kV doc pm cdv ct:Value} (l:K.lookup f=some ⟨oc,od,.func (PySem.W.fnOf x qual (x0 st) (xM st) (zG st) .none kV doc pm an cdv ct),osl⟩)
  (c:PySem.W.codeIn K cdv qual=true) (k:PySem.W.keepIn K (.ref f)=true):Fun K x qual st f (PySem.W.fnOf x qual (x0 st) (xM st) (zG st) .none kV doc pm an cdv ct):=⟨⟨oc,od,kV,doc,pm,an,cdv,ct,osl,rfl,l,c⟩,k⟩
end
theorem uC {A:Around} {k:Nat} (hr:z7 k A):A.units + 1 < cLine:=Nat.lt_of_le_of_lt (Nat.add_le_add_left (by decide:1 <= 64) _) hr.units
theorem iW {n:Nat} (h:n <= 1000):n < sizeLine:=Nat.lt_of_le_of_lt h (by decide)
section
variable {X:Cx}
theorem pv (i:Nat) {x:Str} {pos:Pos} (hN:X.N[i]?=some x:=by rfl) (hv:Vis X.env.scope x:=by first | exact Or.inl rfl | exact Or.inr (Or.inl rfl) | exact Or.inr (Or.inr rfl)) (hd:(x == ("__debug__" : Str))=false:=by decide)
  (hcd:(x == ("__classdict__" : Str))=false:=by decide):PE X (.Name x pos) (uV i):=zCK hN hv hd hcd
end
theorem kQ {A B:Prop} (h:B):if false=true then A else B:=by
 rw [if_neg zGZ]
 exact h
theorem gG {A B:Prop} (h:A):if true=true then A else B:=by
 rw [if_pos rfl]
 exact h
theorem gH {c A B:Prop} [Decidable c] (h1:c->A) (h2:¬ c->B):if c then A else B:=by
 by_cases h:c
 ·rw [if_pos h]
  exact h1 h
 ·rw [if_neg h]
  exact h2 h
def zDU (H H':Hp):Prop:=∀ b o,H b=some o->H' b=some o
theorem zDU.seq {K:PySem.W.Frag} {H H':Hp} {a:Addr} {xs:List V} (e:zDU H H') (h:SqL K H a xs):SqL K H' a xs:=by
 rcases h with (h | ⟨o,h⟩) | h
 ·exact .inl (.inl (e _ _ h))
 ·exact .inl (.inr ⟨o,e _ _ h⟩)
 ·exact .inr h
end L2
set_option maxHeartbeats 4000000
namespace L2
open PySem PySem.Spec PyProof.Rows
def clF (env:Env):List (Str × NameKind)->List (Str × Addr)->List (Str × Addr)
 | [],cs=>cs
 | (n,k) :: r,cs=>clF env r (if k == NameKind.free then (n,(env.cells.lookup n).getD 0) :: cs else cs)
theorem zAS (env:Env):∀ (l:List (Str × NameKind)) (cs:List (Str × Addr)),(∀ n,(n,NameKind.free) ∈ l->(env.cells.lookup n).isSome=true) ->
  (forIn l cs fun x r=>(match x with
   | (name,kind)=>if (kind == NameKind.free)=true then (do let c <- cellOf env name;pure (ForInStep.yield ((name,c) :: r))) else pure (ForInStep.yield r):Sem (ForInStep (List (Str × Addr)))))=pure (clF env l cs):=by
 intro l
 induction l with
 | nil=>intro cs _;rfl
 | cons x l ih=>
  intro cs h
  obtain ⟨n,k⟩:=x
  rw [List.forIn_cons]
  by_cases hk:k=NameKind.free
  ·subst hk
   have h1:=h n zG0
   obtain ⟨c,hc⟩:=Option.isSome_iff_exists.mp h1
   simp only [beq_self_eq_true,if_true,clF,hc,Option.getD_some,cellOf,pure_bind]
   exact ih _ fun m hm=>h m (zGK _ hm)
  ·have hb:(k == NameKind.free)=false:=by simpa using hk
   simp only [hb,Bool.false_eq_true,if_false,clF,pure_bind]
   exact ih _ fun m hm=>h m (zGK _ hm)
theorem wS {scope:Scope} {env:Env} (h:∀ n,(n,NameKind.free) ∈ scope.names->(env.cells.lookup n).isSome=true) :
  closureFor scope env=pure (clF env scope.names []):=by
 have e:=zAS env scope.names [] h
 unfold closureFor
 simp only [bind_pure] at e ⊢
 exact e
theorem zAR (env:Env):∀ (l:List (Str × NameKind)) (cs:List (Str × Addr)),(∀ n,(n,NameKind.free) ∈ l->(env.cells.lookup n).isSome=true) ->
  (∀ y c,cs.lookup y=some c->env.cells.lookup y=some c)->∀ y c,(clF env l cs).lookup y=some c->env.cells.lookup y=some c:=by
 intro l
 induction l with
 | nil=>intro cs _ h;exact h
 | cons x l ih=>
  intro cs h hc
  obtain ⟨n,k⟩:=x
  refine ih _ (fun m hm=>h m (zGK _ hm)) ?_
  by_cases hk:k=NameKind.free
  ·subst hk
   obtain ⟨c,e⟩:=Option.isSome_iff_exists.mp (h n zG0)
   simp only [beq_self_eq_true,if_true,e,Option.getD_some]
   intro y c' q
   rw [List.lookup_cons] at q
   cases hy:y == n with
   | true=>
    rw [hy] at q
    have ey:y=n:=by simpa using hy
    cases q
    rw [ey];exact e
   | false=>
    rw [hy] at q
    exact hc y c' q
  ·have hb:(k == NameKind.free)=false:=by simpa using hk
   simp only [hb,Bool.false_eq_true,if_false]
   exact hc
theorem zAT (env:Env):∀ (l:List (Str × NameKind)) (cs:List (Str × Addr)) (y:Str),((y,NameKind.free) ∈ l \/ (cs.lookup y).isSome=true)->((clF env l cs).lookup y).isSome=true:=by
 intro l
 induction l with
 | nil=>intro cs y h;exact h.elim (fun z=>by cases z) id
 | cons x l ih=>
  intro cs y h
  obtain ⟨n,k⟩:=x
  refine ih _ y ?_
  rcases h with h | h
  ·rcases List.mem_cons.mp h with e | e
   ·cases e
    right
    simp
   ·exact .inl e
  ·right
   by_cases hk:k=NameKind.free
   ·subst hk
    simp only [beq_self_eq_true,if_true,List.lookup_cons]
    cases hy:y == n <;> simp [h]
   ·have hb:(k == NameKind.free)=false:=by simpa using hk
    simp only [hb,Bool.false_eq_true,if_false]
    exact h
theorem tU {scope:Scope} {env:Env}:∀ (l:List (Str × NameKind)) (x:Str) (k:NameKind),
  (l.map fun (n,k)=>if (k == NameKind.free && env.scope.kind == .function && env.kindOf n == some .cell) then (n,NameKind.cell) else (n,k)).lookup x=some k->k=.cell \/ k=.free ->
  (∀ y ∈ l,y.2 ≠ .cell)->(x,NameKind.free) ∈ l
 | [],x,k,h,_,_=>by simp at h
 | (n,k') :: r,x,k,h,hk,hc=>by
  rw [List.map_cons,List.lookup_cons] at h
  have hn:(if (k' == NameKind.free && env.scope.kind == .function && env.kindOf n == some .cell)=true then (n,NameKind.cell) else (n,k')).1=n:=by split <;> rfl
  simp only [hn] at h
  cases hx:x == n with
  | true=>
   rw [hx] at h
   have ex:x=n:=by simpa using hx
   subst ex
   simp only [Option.some.injEq] at h
   split at h
   ·rename_i q
    simp only [Bool.and_eq_true,beq_iff_eq] at q
    rw [q.1.1];exact zG0
   ·have h':k'=k:=h
    rcases hk with z | z
    ·exact absurd (h'.trans z) (hc _ zG0)
    ·rw [h',z];exact zG0
  | false=>
   rw [hx] at h
   exact zGK _ (tU (scope:=scope) r x k h hk fun y hy=>hc y (zGK _ hy))
def cxC (X:Cx) (xs:List Str) (ix:List Nat) (scope:Scope) (C:Addr) (fp:List Addr) (s:Shared) (H:Hp):Cx:=
  { X with N:=xs ++ ix.map (fun i=>X.N.getD i ""),s₀:=s,H₀:=H,env:=compEnvC scope (clF X.env scope.names []) C X.env,
           outer:=X.stack,stack:=X.stack,ex:=fp,fn:=fun _=>false,pn:=[],xe:=fun _ _=>False }
def stC (xs:List Str) (ix:List Nat) (σ:St):St:=xs.map (fun _=>none) ++ ix.map (fun i=>(σ[i]?).join)
structure xR (X:Cx) (xs:List Str) (ix:List Nat) (scope:Scope):Prop where
 kind:scope.kind=.function
 nocell:∀ y ∈ scope.names,y.2 ≠ .cell
 loc:∀ y ∈ scope.names,y.2=.local->scope.names.lookup y.1=some .local
 fre:∀ n,(n,NameKind.free) ∈ scope.names->X.env.kindOf n=some .cell \/ X.env.kindOf n=some .free
 own:∀ x ∈ xs,scope.names.lookup x=some .local
 nd:(xs ++ ix.map (fun i=>X.N.getD i "")).Nodup
 inN:∀ i ∈ ix,i < X.N.length
 frx:∀ i ∈ ix,scope.names.lookup (X.N.getD i "")=some .free
theorem tV {scope:Scope} {env:Env}:∀ (l:List (Str × NameKind)) (x:Str),l.lookup x=some .free ->
  (l.map fun (n,k)=>if (k == NameKind.free && env.scope.kind == .function && env.kindOf n == some .cell) then (n,NameKind.cell) else (n,k)).lookup x=some .cell \/
  (l.map fun (n,k)=>if (k == NameKind.free && env.scope.kind == .function && env.kindOf n == some .cell) then (n,NameKind.cell) else (n,k)).lookup x=some .free
 | [],x,h=>by simp at h
 | (n,k') :: r,x,h=>by
  rw [List.lookup_cons] at h
  rw [List.map_cons,List.lookup_cons]
  have hn:(if (k' == NameKind.free && env.scope.kind == .function && env.kindOf n == some .cell)=true then (n,NameKind.cell) else (n,k')).1=n:=by split <;> rfl
  simp only [hn]
  cases hx:x == n with
  | true=>
   rw [hx] at h
   have h':k'=.free:=zGE h
   subst h'
   by_cases hc:(NameKind.free == NameKind.free && env.scope.kind == .function && env.kindOf n == some .cell)=true
   ·left;simp only [if_pos hc]
   ·right;simp only [if_neg hc]
  | false=>
   rw [hx] at h
   exact tV (scope:=scope) r x h
theorem u3 {X:Cx} {xs:List Str} {ix:List Nat} {scope:Scope} {pins:List (Addr × Obj)} {σ:St} {H:Hp} {s s1:Shared} {fp:List Addr} {h1:Heap} {tk:Nat}
  (S:xR X xs ix scope) (I:Inv X pins σ H s) (hf:∀ b ∈ fp,uS X pins H b) (hfo:∀ b ∈ fp,∃ o,s.heap.get? b=some o)
  (hns:h1.Ns s.heap.objs.size (fun _=>none)) (hk:∀ b o,s.heap.get? b=some o->h1.get? b=some o) (e1:s1 = { s with heap:=h1,toks:=tk }) :
  Inv (cxC X xs ix scope s.heap.objs.size fp s H) [] (stC xs ix σ) H s1:=by
 subst e1
 have hcl:∀ n,(n,NameKind.free) ∈ scope.names->(X.env.cells.lookup n).isSome=true:=fun n hn=>by
  obtain ⟨c,e⟩:=I.ok.has n (S.fre n hn)
  rw [e];rfl
 have sub:=zAR X.env scope.names [] hcl (fun y c q=>by simp at q)
 have has:=fun y hy=>zAT X.env scope.names [] y (.inl hy)
 have fpl:∀ b ∈ fp,b ∉ frs X.stack:=fun b hb z=>by
  obtain ⟨_,f1,f2,_⟩:=hf b hb
  rcases List.mem_cons.mp (I.stkSub b z) with q | q
  ·exact f1 q
  ·exact f2 q
 have kindR:∀ x k,(cxC X xs ix scope s.heap.objs.size fp s H).env.kindOf x=some k->k=.cell \/ k=.free->(x,NameKind.free) ∈ scope.names:=fun x k e hk'=>
  tU (scope:=scope) (env:=X.env) scope.names x k e hk' S.nocell
 refine ⟨⟨I.ok.mod,S.kind,I.ok.glob,I.ok.blt,zGG _,fun x y c a b=>?_,fun x hx=>?_,fun x c z=>(by cases z),I.ok.hd,I.ok.frames,.inl rfl,fun b hb=>?_,I.bs,zGI I.ok.bsz I.sz,fun b o e hb=>?_,fpl,I.stack,I.stkFree⟩,
  rfl,I.bare,Un.kept hk,⟨_,hns,fun i x v e1 e2 e3=>?_⟩,fun x c e=>?_,I.hok.fresh (zGG _),fun x c e=>I.freeC x c (sub x c e),fun p hp=>absurd (show p ∈ ([]:List (Addr × Obj)) from hp) (by simp),I.hok.kept hk,?_⟩
 ·exact I.ok.inj x y c (sub x c a) (sub y c b)
 ·have hm:(x,NameKind.free) ∈ scope.names:=hx.elim (fun z=>kindR x _ z (.inl rfl)) fun z=>kindR x _ z (.inr rfl)
  exact Option.isSome_iff_exists.mp (has x hm)
 ·obtain ⟨f0,f1,f2,f3,f4,f5⟩:=hf b hb
  obtain ⟨o,ho⟩:=hfo b hb
  exact ⟨fun z=>Nat.lt_irrefl _ (Nat.lt_of_lt_of_eq (Heap.lt_size ho) z.symm),fun x c e=>f4 x c (sub x c e)⟩
 ·obtain ⟨f0,f1,f2,f3,f4,f5⟩:=hf b hb
  rcases f3 with q | q
  ·exact I.ok.noex b o e q
  ·exact Nat.lt_irrefl _ (zGT (Heap.lt_size e) (zGI I.ok.bsz q))
 ·have e2':(xs.map (fun _=>(none:Option V)) ++ ix.map (fun i=>(σ[i]?).join))[i]?=some (some v):=e2
  have e1':(xs ++ ix.map (fun i=>X.N.getD i ""))[i]?=some x:=e1
  by_cases hi:i < xs.length
  ·rw [zGV (by simpa using hi),zGD] at e2'
   cases q:xs[i]? with
   | none=>rw [q] at e2';cases e2'
   | some z=>rw [q] at e2';cases e2'
  ·have hi':xs.length <= i:=Nat.not_lt.mp hi
   rw [zGU (by simpa using hi'),zF7,zGD] at e2'
   rw [zGU hi',zGD] at e1'
   cases q:ix[i - xs.length]? with
   | none=>rw [q] at e2';cases e2'
   | some j=>
    rw [q] at e1' e2'
    have hj:j ∈ ix:=zGB q
    have ex:X.N.getD j ""=x:=zGE e1'
    have ev:(σ[j]?).join=some v:=zGE e2'
    have hjl:=S.inN j hj
    have eN:X.N[j]?=some x:=by
     rw [<- ex,zGC]
     rw [zF8 hjl];rfl
    have eσ:σ[j]?=some (some v):=by
     cases z:σ[j]? with
     | none=>rw [z] at ev;cases ev
     | some y=>rw [z] at ev;simp at ev;rw [ev]
    have hfr:=S.frx j hj
    rw [ex] at hfr
    have hkin:=S.fre x (PySem.mem_of_lookup hfr)
    obtain ⟨m,hn,hl⟩:=I.loc
    obtain ⟨u,ru,lk⟩:=hl j x v eN eσ (hkin.elim (fun z=>.inr (.inl z)) fun z=>.inr (.inr z))
    refine ⟨u,ru,.inr ⟨tV (scope:=scope) (env:=X.env) scope.names x hfr,?_⟩⟩
    rcases lk with ⟨k1,_⟩ | ⟨_,c,ec,zc⟩
    ·rcases hkin with z | z <;> (rw [z] at k1;cases k1)
    ·obtain ⟨c',ec'⟩:=Option.isSome_iff_exists.mp (has x (PySem.mem_of_lookup hfr))
     have q2:=sub x c' ec'
     rw [ec] at q2;cases q2
     obtain ⟨oc,hoc,hd⟩:=zc
     exact ⟨c,ec',oc,hk c oc hoc,hd⟩
 ·obtain ⟨v,oc,hoc,hd⟩:=I.cell x c (sub x c e)
  exact ⟨v,oc,hk c oc hoc,hd⟩
 ·show (xs.map (fun _=>(none:Option V)) ++ ix.map (fun i=>(σ[i]?).join)).length=(xs ++ ix.map (fun i=>X.N.getD i "")).length
  simp
theorem zAG {prog:Program} {w:World} {A:Around} {R:Result->Shared->Prop} {s:Shared} {elt target iter:Expr} {ifs:List Expr} {scope:Scope} {pos:Pos} {it acc:Value} {env:Env} (J:Nat->Shared->Prop)
  (turn:∀ n s,J n s->wpAny (model prog w) A (pyNext it) (fun r s1=>match r with
   | none=>R (.ok .next) s1
   | some v=>wpAny (model prog w) A (letOwnedTupleGo target it v) (fun _ s1'=>wpAny (model prog w) A (assign target env v) (fun _ s2=>
     wpAny (model prog w) A (forIn ifs true fun c r=>if r=true then do let ok <- isTrue c env (eval c env);pure (ForInStep.yield ok) else pure (ForInStep.yield r)) (fun ok s3=>
      if ok=true then wpAny (model prog w) A (eval elt env) (fun x s4=>
       wpAny (model prog w) A (call (.builtin "list.append") [acc,x]) (fun _ s5=>∃ m,m < n/\J m s5) (fun _ _=>False) s4) (fun _ _=>False) s3
      else ∃ m,m < n/\J m s3) (fun _ _=>False) s2) (fun _ _=>False) s1') (fun _ _=>False) s1) (fun _ _=>False) s)
  (n:Nat) (h:J n s):codeAny (model prog w) A (.compLoop (.ListComp elt [⟨target,iter,ifs,0⟩] scope pos) 0 it acc env) R s:=by
 refine codeAny_loop rfl J (fun n s hJ=>?_) n h
 have nof:∀ (e:Value) (s':Shared),False->notedBy (model prog w) A env (fun e s'=>R (.error e) s') e s':=fun _ _ f=>f.elim
 show wpAny (model prog w) A ((compTurn (.ListComp elt [⟨target,iter,ifs,0⟩] scope pos) 0 it acc env).onRaise (fun x=>do noteFrame x env;theTreesLotGoes x)) _ _ s
 refine wpAny_noted ?_
 rw [compTurn_list]
 refine wpAny_bind (wpAny_standAt (wpAny_bind (wpAny_mono (turn n s hJ) (fun r s1 h1=>?_) nof)))
 cases r with
 | none=>exact wpAny_pure h1
 | some v=>
  refine wpAny_bind (wpAny_mono h1 (fun _ s1' h1'=>?_) nof)
  refine wpAny_bind (wpAny_mono h1' (fun _ s2 h2=>?_) nof)
  refine wpAny_bind (wpAny_mono h2 (fun ok s3 h3=>?_) nof)
  cases ok with
  | false=>exact wpAny_pure ⟨rfl,h3⟩
  | true=>
   refine wpAny_bind (wpAny_bind (wpAny_mono h3 (fun x s4 h4=>?_) nof))
   exact wpAny_bind (wpAny_mono h4 (fun _ s5 h5=>wpAny_pure (wpAny_pure ⟨rfl,h5⟩)) nof)
def PTs (X:Cx) (ifs:List Expr) (t:TT):Prop:=
 ∀ (pins:List (Addr × Obj)) (s:Shared) (σ:St) (H:Hp) (Q:Bool->Hp->Prop),Inv X pins σ H s->t σ H Q ->
  wpAny (model X.prog X.w) X.A (forIn ifs true fun c r=>if r=true then do let ok <- isTrue c X.env (eval c X.env);pure (ForInStep.yield ok) else pure (ForInStep.yield r)) (TP X pins σ Q) X.xe s
def tI:TT:=fun _ H Q=>Q true H
theorem xD {X:Cx}:PTs X [] tI:=fun _ _ _ H _ I h=>wpAny_tests_nil ⟨H,I,h⟩
theorem iA {X:Cx} {c:Expr} {t:TT} (h:PT X c t):PTs X [c] t:=fun pins s σ H Q I hw=>wpAny_tests_one (h pins s σ H Q I hw)
def LCW (J:It) (xs:List Str) (ix:List Nat) (g:TG) (tt:TT) (te:TE) (σ:St) (H1:Hp) (acc:Addr) (Q:VK):Prop:=
 ∃ W:Nat->Nat->List V->St->Hp->Prop,(∃ m,W 0 m [] (stC xs ix σ) (upd H1 acc (.lst []))) /\
  ∀ i m ys τ H,W i m ys τ H->H acc=some (.lst ys)/\ys.length < sizeLine /\
   ((J.stop i H/\Q (.ref acc) H) \/ (J.go i H/\∃ N:List V->St->Hp->Prop,(∀ ys' τ' H',N ys' τ' H'->∃ m',m' < m/\W (i + 1) m' ys' τ' H') /\
    ∀ x H',J.yld i H x H'->g x τ H' fun τ2 H2=>tt τ2 H2 fun b H3=>
    if b=true then te τ2 H3 fun y H4=>H4 acc=some (.lst ys)/\N (ys ++ [y]) τ2 (upd H4 acc (.lst (ys ++ [y]))) else N ys τ2 H3))
def tLC (xs:List Str) (ix:List Nat) (wi:TI) (g:TG) (tt:TT) (te:TE):TE:=fun σ H Q=>wi σ H fun J H1=>∀ acc,H1 acc=none->LCW J xs ix g tt te σ H1 acc Q
structure zF2 (Reg:Cx->Prop) (P:Program) (w:World) (tg:Expr) (J:It) (fp:List Addr) (it:Addr) (tn:Nat->Heap->Prop):Prop where
 mem:it ∈ fp
 obj:∀ i h,tn i h->∀ b ∈ fp,∃ o,h.get? b=some o/\∀ v,o.data ≠ .cell v
 keep:∀ i h h',tn i h->(∀ b ∈ fp,∀ o,h.get? b=some o->h'.get? b=some o)->tn i h'
 item:∀ (X:Cx),X.prog=P->X.w=w->Reg X->∀ (i:Nat) (pins:List (Addr × Obj)) (s:Shared) (σ:St) (H:Hp) (E:Value->Shared->Prop),Inv X pins σ H s->(∀ b ∈ fp,uS X pins H b)->tn i s.heap->J.go i H ->
  wpAny (model P w) X.A (pyNext (.ref it)) (fun r s1=>∃ u,r=some u /\
   wpAny (model P w) X.A (letOwnedTupleGo tg (.ref it) u) (fun _ s2=>∃ x H',Inv X pins σ H' s2/\yM x u/\J.yld i H x H'/\tn (i + 1) s2.heap/\∀ b ∈ fp,H' b=none) E s1) E s
 done:∀ (X:Cx),X.prog=P->X.w=w->Reg X->∀ (i:Nat) (pins:List (Addr × Obj)) (s:Shared) (σ:St) (H:Hp) (E:Value->Shared->Prop),Inv X pins σ H s->(∀ b ∈ fp,uS X pins H b)->tn i s.heap->J.stop i H ->
  wpAny (model P w) X.A (pyNext (.ref it)) (fun r s1=>r=none/\Inv X pins σ H s1) E s
 self:∀ (A:Around) (i:Nat) (s:Shared) (Q:Value->Shared->Prop) (E:Value->Shared->Prop),tn i s.heap->Q (.ref it) s->wpAny (model P w) A (pyIter (.ref it)) Q E s
def PIEG (Reg:Cx->Prop) (X:Cx) (pins:List (Addr × Obj)) (σ:St) (tg:Expr) (R:It->Hp->Prop) (itv:Value) (s2:Shared):Prop:=
 ∃ (it:Addr) (fp:List Addr) (tn:Nat->Heap->Prop) (J:It) (H':Hp),itv=.ref it/\Inv X pins σ H' s2/\zF2 Reg X.prog X.w tg J fp it tn/\tn 0 s2.heap/\(∀ b ∈ fp,uS X pins H' b)/\R J H'
def PIG (Reg:Cx->Prop) (X:Cx) (tg iter:Expr) (wi:TI):Prop:=
 ∀ (pins:List (Addr × Obj)) (s:Shared) (σ:St) (H:Hp) (R:It->Hp->Prop),Inv X pins σ H s->wi σ H R ->
  wpAny (model X.prog X.w) X.A (eval iter X.env) (fun v s1=>wpAny (model X.prog X.w) X.A (pyIter v) (PIEG Reg X pins σ tg R) X.xe s1) X.xe s
theorem dW {Reg:Cx->Prop} {X:Cx} {xs:List Str} {ix:List Nat} {scope:Scope} {elt tg iter:Expr} {ifs:List Expr} {pos:Pos} {wi:TI} {g:TG} {tt:TT} {te:TE}
  (S:xR X xs ix scope) (hreg:∀ Y:Cx,Y.K=X.K->Y.calm=X.calm->Y.A.handled=X.A.handled->Reg Y) (hi:PIG Reg X tg iter wi)
  (hg:∀ C fp s H,PG (cxC X xs ix scope C fp s H) tg g) (ht:∀ C fp s H,PTs (cxC X xs ix scope C fp s H) ifs tt) (he:∀ C fp s H,PE (cxC X xs ix scope C fp s H) elt te)
  {pins:List (Addr × Obj)} {s:Shared} {σ:St} {H:Hp} {Q:VK} (I:Inv X pins σ H s) (h:tLC xs ix wi g tt te σ H Q) {use:Option (Value->Sem Unit)} {R:Value->Shared->Prop}
  (fin:∀ (acc C:Addr) (H':Hp) (s':Shared) (m:Str->Option Value),Q (.ref acc) H'->s'.heap.Ns C m->(∀ h',Heap.SameBut C s'.heap h'->∀ tk,Inv X pins σ H' { s' with heap:=h',toks:=tk })->(X.s₀.heap.objs.size <= C/\C ≠ X.env.locals/\(∀ x c,X.env.cells.lookup x=some c->c ≠ C)/\(∀ p ∈ X.pn ++ pins,p.1 ≠ C)/\H' C=none)->compPost (model X.prog X.w) X.A X.xe use R (.ref acc) C (.ok .next) s') :
  wpAny (model X.prog X.w) X.A (eval iter X.env) (fun x s₁=>wpAny (model X.prog X.w) X.A (pyIter x) (fun it s₂=>wpAny (model X.prog X.w) X.A (newList []) (fun acc s₃=>
   wpAny (model X.prog X.w) X.A (newFunctionEnv scope X.env.globals (clF X.env scope.names []) [] X.env.qual none .none (some X.env)) (fun cenv s₄=>
    codeAny (model X.prog X.w) X.A (.compStart (.ListComp elt [⟨tg,iter,ifs,0⟩] scope pos) 0 it acc { cenv with scope:=relabel scope X.env }) (compPost (model X.prog X.w) X.A X.xe use R acc cenv.locals) s₄) X.xe s₃) X.xe s₂) X.xe s₁) X.xe s:=by
 refine thn (hi pins s σ H _ I h) fun v s1 h1=>thn h1 fun itv s2 h2=>?_
 obtain ⟨it,fp,tn,J,H2,rfl,I2,T,st2,f2,q⟩:=h2
 refine wpAny_newObj_type ?_
 have I3:Inv X pins σ (upd H2 s2.heap.objs.size (.lst [])) { s2 with heap:=s2.heap.push { cls:=.type "list",data:=.seq ([]:List Value).toArray },toks:=s2.toks }:=I2.lnew (ys:=[]) (its:=[]) .nil (zGH _)
 obtain ⟨W,⟨m0,w0⟩,turn⟩:=q s2.heap.objs.size I2.fresh
 have objs2:=T.obj 0 _ st2
 have neacc:∀ b ∈ fp,b ≠ s2.heap.objs.size:=fun b hb z=>by
  obtain ⟨o,ho,_⟩:=objs2 b hb
  exact Nat.lt_irrefl _ (Nat.lt_of_lt_of_eq (Heap.lt_size ho) z.symm)
 generalize hacc:s2.heap.objs.size=acc at *
 generalize hs3:({ s2 with heap:=s2.heap.push { cls:=.type "list",data:=.seq ([]:List Value).toArray } }:Shared)=s3
 have I3:Inv X pins σ (upd H2 acc (.lst [])) s3:=by rw [<- hs3];exact I3
 have k3:∀ b o,s2.heap.get? b=some o->s3.heap.get? b=some o:=fun b o e=>by rw [<- hs3];exact Heap.get?_push_of_some _ e
 have f3:∀ b ∈ fp,uS X pins (upd H2 acc (.lst [])) b:=fun b hb=>⟨by rw [zI (neacc b hb)];exact (f2 b hb).1,(f2 b hb).2⟩
 have o3:∀ b ∈ fp,∃ o,s3.heap.get? b=some o:=fun b hb=>let ⟨o,ho,_⟩:=objs2 b hb;⟨o,k3 b o ho⟩
 have st3:tn 0 s3.heap:=T.keep _ _ _ st2 fun b _ o e=>k3 b o e
 refine wpAny_newFunctionEnv S.nocell (by intro y hy;simp at hy) (fun h1 hns1 hsb1=>?_) S.kind
 have keep1:∀ b o,s3.heap.get? b=some o->h1.get? b=some o:=fun b o e=>hsb1.extBut b o (zGY (Heap.lt_size e)) (Heap.get?_push_of_some _ e)
 generalize hs4:({ s3 with heap:=h1,toks:=s3.toks + ([]:List (Str × Value)).length }:Shared)=s4
 have I4:Inv (cxC X xs ix scope s3.heap.objs.size fp s3 (upd H2 acc (.lst []))) [] (stC xs ix σ) (upd H2 acc (.lst [])) s4:=u3 S I3 f3 o3 hns1 keep1 hs4.symm
 have st4:tn 0 s4.heap:=T.keep _ _ _ st3 fun b _ o e=>by rw [<- hs4];exact keep1 b o e
 generalize hX':cxC X xs ix scope s3.heap.objs.size fp s3 (upd H2 acc (.lst []))=X' at *
 have hg:=hg s3.heap.objs.size fp s3 (upd H2 acc (.lst []))
 have ht:=ht s3.heap.objs.size fp s3 (upd H2 acc (.lst []))
 have he:=he s3.heap.objs.size fp s3 (upd H2 acc (.lst []))
 rw [hX'] at hg ht he
 have eP:X'.prog=X.prog:=by rw [<- hX'];rfl
 have ew:X'.w=X.w:=by rw [<- hX'];rfl
 have eK:X'.K=X.K:=by rw [<- hX'];rfl
 have eA:X'.A=X.A:=by rw [<- hX'];rfl
 have ec:Reg X':=hreg X' eK (by rw [<- hX'];rfl) (by rw [<- hX'];rfl)
 have ex:X'.xe=fun _ _=>False:=by rw [<- hX'];rfl
 have eenv:X'.env=compEnvC scope (clF X.env scope.names []) s3.heap.objs.size X.env:=by rw [<- hX'];rfl
 have eex:X'.ex=fp:=by rw [<- hX'];rfl
 have efs:X'.fs=frs X.stack:=by rw [<- hX'];rfl
 have epn:X'.pn=[]:=by rw [<- hX'];rfl
 have eH0:X'.H₀=upd H2 acc (.lst []):=by rw [<- hX'];rfl
 have es0:X'.s₀=s3:=by rw [<- hX'];rfl
 have eloc:X'.env.locals=s3.heap.objs.size:=by rw [eenv];rfl
 have stat:∀ {H':Hp},(∀ b ∈ fp,H' b=none)->∀ b ∈ fp,uS X' [] H' b:=fun {H'} hn b hb=>by
  refine ⟨hn b hb,?_,?_,.inl (by rw [eex];exact hb),?_,?_⟩
  ·rw [eloc]
   intro z
   obtain ⟨o,ho⟩:=o3 b hb
   exact Nat.lt_irrefl _ (Nat.lt_of_lt_of_eq (Heap.lt_size ho) z.symm)
  ·exact I4.ok.exfs b (by rw [eex];exact hb)
  ·exact (I4.ok.exf b (by rw [eex];exact hb)).2
  ·rw [epn];intro p hp;exact absurd hp (by simp)
 have loop:codeAny (model X.prog X.w) X.A (.compLoop (.ListComp elt [⟨tg,iter,ifs,0⟩] scope pos) 0 (.ref it) (.ref acc) X'.env) (compPost (model X.prog X.w) X.A X.xe use R (.ref acc) s3.heap.objs.size) s4:=by
  refine zAG (fun n s'=>∃ i ys τ H',Inv X' [] τ H' s'/\tn i s'.heap/\(∀ b ∈ fp,H' b=none)/\W i n ys τ H') ?_ m0 ⟨0,[],_,_,I4,st4,fun b hb=>(f3 b hb).1,w0⟩
  rintro n s5 ⟨i,ys,τ,H5,I5,st5,fr5,w5⟩
  obtain ⟨ha5,hz5,way⟩:=turn i n ys τ H5 w5
  rcases way with ⟨stop,qn⟩ | ⟨go,N,hN,step⟩
  ·have d:=T.done X' eP ew ec i [] s5 τ H5 (fun _ _=>False) I5 (stat fr5) st5 stop
   rw [eA] at d
   refine thn d fun r s6 hz53=>?_
   obtain ⟨hr,I6⟩:=hz53
   subst hr
   obtain ⟨m,hn6,_⟩:=id I6.loc
   rw [eloc] at hn6
   refine fin acc s3.heap.objs.size H5 s6 m qn hn6 (fun h' hsb tk=>?_) ⟨I3.sz,Ne.symm (zGY I3.lt),fun x c e z=>by
    obtain ⟨v,oc,hoc,_⟩:=I3.cell x c e
    exact Nat.lt_irrefl _ (Nat.lt_of_lt_of_eq (Heap.lt_size hoc) z.symm),fun p hp z=>Nat.lt_irrefl _ (Nat.lt_of_lt_of_eq (Heap.lt_size (I3.pin p hp).1) z.symm),by have:=I6.free;rw [eloc] at this;exact this⟩
   have same:∀ b,b ≠ s3.heap.objs.size->h'.get? b=s6.heap.get? b:=fun b hb=>hsb.2 b hb
   have ub:=I6.base
   rw [efs,eex,eH0,es0] at ub
   have ne3:∀ b o,s3.heap.get? b=some o->b ≠ s3.heap.objs.size:=fun b o e=>zGY (Heap.lt_size e)
   have u:Un (frs X.stack) fp (upd H2 acc (.lst [])) H5 s3.heap h':=
    ⟨fun b o e n1 n2 n3=>(same b (ne3 b o e)).trans (ub.keep b o e n1 n2 n3),fun b o e n1 n2 n3=>by
      obtain ⟨sl,z⟩:=ub.slot b o e n1 n2 n3
      exact ⟨sl,(same b (ne3 b o e)).trans z⟩,ub.free,fun b o e n3=>by
      obtain ⟨o',z⟩:=ub.there b o e n3
      exact ⟨o',(same b (ne3 b o e)).trans z⟩,ub.tups,ub.frzs,ub.tbls⟩
   have fC:H5 s3.heap.objs.size=none:=by have:=I6.free;rw [eloc] at this;exact this
   have hok:HOk X.prog X.w H5 h':=fun b o e=>by
    have z:=I6.hok b o e
    rw [eP,ew] at z
    refine z.stay (fun c u hc q=>(same c ?_).trans q) (fun _ q=>q) fun _ _ q=>q
    intro zc
    rcases hc with q1 | q1
    ·rw [<- q1,zc,fC] at e;cases e
    ·rw [zc,fC] at q1;cases q1
   have hch:∀ b ∈ fp,(b ∈ X.ex \/ X.s₀.heap.objs.size <= b)/\b ≠ X.env.locals/\(∀ x c,X.env.cells.lookup x=some c->c ≠ b)/\∀ p ∈ X.pn ++ pins,p.1 ≠ b:=fun b hb=>by
    obtain ⟨_,f1,_,g3,g4,g5⟩:=f3 b hb
    exact ⟨g3,f1,g4,g5⟩
   have ho:s6.os=s3.os:=by have:=I6.os;rw [es0] at this;exact this
   exact I3.call' (s':={ s6 with heap:=h',toks:=tk }) (ch:=fp) ho u hok I6.bare hch
  ·have d:=T.item X' eP ew ec i [] s5 τ H5 (fun _ _=>False) I5 (stat fr5) st5 go
   rw [eA] at d
   refine thn d fun r s6 hz54=>?_
   obtain ⟨u,hr,h6⟩:=hz54
   subst hr
   refine thn h6 fun _ s7 hz55=>?_
   obtain ⟨x,H7,I7,r7,y7,st7,fr7⟩:=hz55
   have I7':=I7.pinned (stat fr7) (T.obj _ _ st7)
   have dg:=hg _ s7 τ H7 x u _ I7' r7 (step x H7 y7)
   rw [eP,ew,eA,ex] at dg
   refine thn dg fun _ s8 hz56=>?_
   obtain ⟨τ8,H8,I8,q8⟩:=hz56
   have dt:=ht _ s8 τ8 H8 _ I8 q8
   rw [eP,ew,eA,ex] at dt
   refine thn dt fun ok s9 hz57=>?_
   obtain ⟨H9,I9,q9⟩:=hz57
   have again:∀ {τ':St} {H':Hp} {s':Shared},Inv X' ([] ++ vB fp s7.heap) τ' H' s'->Inv X' [] τ' H' s'/\tn (i + 1) s'.heap/\∀ b ∈ fp,H' b=none:=fun {τ' H' s'} Ie=>by
    refine ⟨Ie.unpinned,T.keep _ _ _ st7 fun b hb o e=>(Ie.pin (b,o) (zGL _ (zGL _ (xN hb e)))).1,fun b hb=>?_⟩
    obtain ⟨o,e,_⟩:=T.obj _ _ st7 b hb
    exact (Ie.pin (b,o) (zGL _ (zGL _ (xN hb e)))).2.1
   cases ok with
   | false=>
    rw [if_neg zGZ] at q9 ⊢
    obtain ⟨m',hm,w9⟩:=hN _ _ _ q9
    obtain ⟨z1,z2,z3⟩:=again I9
    exact ⟨m',hm,i + 1,ys,τ8,H9,z1,z2,z3,w9⟩
   | true=>
    rw [if_pos rfl] at q9 ⊢
    have de:=he _ s9 τ8 H9 _ I9 q9
    rw [eP,ew,eA,ex] at de
    refine thn de fun yv s10 hz58=>?_
    obtain ⟨y,H10,I10,r10,ha10,n10⟩:=hz58
    obtain ⟨m',hm,w10⟩:=hN _ _ _ n10
    have dm:=xA (X:=X') _ s10 τ8 H10 (.ref acc) [y] (.ref acc) [yv] (fun v H'=>v=.non/\H'=upd H10 acc (.lst (ys ++ [y]))) I10 rfl (.cons r10 .nil) ⟨acc,ys,y,rfl,rfl,ha10,hz5,rfl,rfl⟩
    rw [eP,ew,eA,ex] at dm
    refine thn dm fun _ s11 hz59=>?_
    obtain ⟨_,H11,I11,_,_,e11⟩:=hz59
    subst e11
    obtain ⟨z1,z2,z3⟩:=again I11
    exact ⟨m',hm,i + 1,ys ++ [y],τ8,_,z1,z2,z3,w10⟩
 have e4:({ newEnv scope s3.heap.objs.size X.env.globals (clF X.env scope.names []) X.env.qual none .none (some X.env) builtinsNs with scope:=relabel scope X.env }:Env)=X'.env:=by rw [eenv];rfl
 rw [eenv] at loop
 have self:=T.self X.A 0 s4 (fun it' s'=>codeAny (model X.prog X.w) X.A (.compLoop (.ListComp elt [⟨tg,iter,ifs,0⟩] scope pos) 0 it' (.ref acc) (compEnvC scope (clF X.env scope.names []) s3.heap.objs.size X.env)) (compPost (model X.prog X.w) X.A X.xe use R (.ref acc) s3.heap.objs.size) s')
  (notedBy (model X.prog X.w) X.A (compEnvC scope (clF X.env scope.names []) s3.heap.objs.size X.env) fun x s'=>compPost (model X.prog X.w) X.A X.xe use R (.ref acc) s3.heap.objs.size (.error x) s') st4 loop
 exact codeAny_compStart_list loop self
theorem iJ {X:Cx} {xs:List Str} {ix:List Nat} {scope:Scope} {elt tg iter:Expr} {ifs:List Expr} {pos:Pos} {wi:TI} {g:TG} {tt:TT} {te:TE}
  (S:xR X xs ix scope) (hc:X.calm=true) (hi:PI X tg iter wi)
  (hg:∀ C fp s H,PG (cxC X xs ix scope C fp s H) tg g) (ht:∀ C fp s H,PTs (cxC X xs ix scope C fp s H) ifs tt) (he:∀ C fp s H,PE (cxC X xs ix scope C fp s H) elt te)
  {pins:List (Addr × Obj)} {s:Shared} {σ:St} {H:Hp} {Q:VK} (I:Inv X pins σ H s) (h:tLC xs ix wi g tt te σ H Q) {use:Option (Value->Sem Unit)} {R:Value->Shared->Prop}
  (fin:∀ (acc C:Addr) (H':Hp) (s':Shared) (m:Str->Option Value),Q (.ref acc) H'->s'.heap.Ns C m->(∀ h',Heap.SameBut C s'.heap h'->∀ tk,Inv X pins σ H' { s' with heap:=h',toks:=tk })->(X.s₀.heap.objs.size <= C/\C ≠ X.env.locals/\(∀ x c,X.env.cells.lookup x=some c->c ≠ C)/\(∀ p ∈ X.pn ++ pins,p.1 ≠ C)/\H' C=none)->compPost (model X.prog X.w) X.A X.xe use R (.ref acc) C (.ok .next) s') :
  wpAny (model X.prog X.w) X.A (eval iter X.env) (fun x s₁=>wpAny (model X.prog X.w) X.A (pyIter x) (fun it s₂=>wpAny (model X.prog X.w) X.A (newList []) (fun acc s₃=>
   wpAny (model X.prog X.w) X.A (newFunctionEnv scope X.env.globals (clF X.env scope.names []) [] X.env.qual none .none (some X.env)) (fun cenv s₄=>
    codeAny (model X.prog X.w) X.A (.compStart (.ListComp elt [⟨tg,iter,ifs,0⟩] scope pos) 0 it acc { cenv with scope:=relabel scope X.env }) (compPost (model X.prog X.w) X.A X.xe use R acc cenv.locals) s₄) X.xe s₃) X.xe s₂) X.xe s₁) X.xe s:=
 dW (Reg:=fun Y=>Y.K=X.K/\Y.calm=true) S (fun Y k c _=>⟨k,c.trans hc⟩)
  (fun pins s σ H R I q=>thn (hi pins s σ H R I q) fun v s1 h1=>thn h1 fun itv s2 h2=>by
   obtain ⟨it,fp,tn,J,H',e,I',T,r⟩:=h2
   exact ⟨it,fp,tn,J,H',e,I',⟨T.mem,T.obj,T.keep,fun Y e1 e2 r=>T.item Y e1 e2 r.1 r.2,fun Y e1 e2 r=>T.done Y e1 e2 r.1 r.2,T.self⟩,r⟩) hg ht he I h fin
theorem zBE {X:Cx} {xs:List Str} {ix:List Nat} {scope:Scope} {elt tg iter:Expr} {ifs:List Expr} {pos:Pos} {wi:TI} {g:TG} {tt:TT} {te:TE}
  (S:xR X xs ix scope) (hc:X.calm=true) (hi:PI X tg iter wi)
  (hg:∀ C fp s H,PG (cxC X xs ix scope C fp s H) tg g) (ht:∀ C fp s H,PTs (cxC X xs ix scope C fp s H) ifs tt) (he:∀ C fp s H,PE (cxC X xs ix scope C fp s H) elt te)
  (hs:∀ x,foldedSetIterable iter X.env x=pure x:=by intro _;rfl) :
  PE X (.ListComp elt [⟨tg,iter,ifs,0⟩] scope pos) (tLC xs ix wi g tt te):=by
 intro pins s σ H Q I h
 have hcl:∀ n,(n,NameKind.free) ∈ scope.names->(X.env.cells.lookup n).isSome=true:=fun n hn=>by
  obtain ⟨c,e⟩:=I.ok.has n (S.fre n hn)
  rw [e];rfl
 rw [eval_ListComp]
 refine wpAny_comprehension_free (use:=none) rfl hs (wS hcl) S.kind S.loc ?_
 refine iJ S hc hi hg ht he I h fun acc C H' s' m q hn k _=>?_
 exact ⟨m,hn,fun h' hsb=>⟨.ref acc,H',k h' hsb s'.toks,rfl,q⟩⟩
theorem Inv.letgo {X:Cx} {pins:List (Addr × Obj)} {σ:St} {H:Hp} {s:Shared} {h':Heap} {C:Addr} (I:Inv X pins σ H s) (hs:Heap.SameBut C s.heap h')
  (hC:X.s₀.heap.objs.size <= C/\C ≠ X.env.locals/\(∀ x c,X.env.cells.lookup x=some c->c ≠ C)/\(∀ p ∈ X.pn ++ pins,p.1 ≠ C)/\H C=none):Inv X pins σ H { s with heap:=h' }:=by
 obtain ⟨c1,c2,c3,c4,c5⟩:=hC
 have same:∀ b,b ≠ C->h'.get? b=s.heap.get? b:=fun b hb=>hs.2 b hb
 have ne:∀ {b:Addr},b ∉ [C]->b ≠ C:=fun h e=>h (by simp [e])
 have u:Un (frs X.stack) [C] H H s.heap h':=
  ⟨fun b o e _ _ n=>(same b (ne n)).trans e,fun b o e _ _ n=>⟨o.slots,(same b (ne n)).trans e⟩,fun b o _ e _=>e,fun b o e n=>⟨o,(same b (ne n)).trans e⟩,fun _ _ e=>e,fun _ _ _ e=>e,fun b ps e=>⟨#[],by rw [Array.append_empty];exact e⟩⟩
 have hok:HOk X.prog X.w H h':=fun b o e=>by
  refine (I.hok b o e).stay (fun c u hc q=>(same c ?_).trans q) (fun _ q=>q) fun _ _ q=>q
  intro zc
  rcases hc with q1 | q1
  ·rw [<- q1,zc,c5] at e;cases e
  ·rw [zc,c5] at q1;cases q1
 refine I.call' (s':={ s with heap:=h' }) (ch:=[C]) rfl u hok I.bare fun b hb=>?_
 have eb:b=C:=by simpa using hb
 subst eb
 exact ⟨.inr c1,c2,c3,c4⟩
theorem mO {X:Cx} {xs:List Str} {ix:List Nat} {scope:Scope} {elt tg iter:Expr} {ifs:List Expr} {cpos pos pos':Pos} {wi:TI} {g:TG} {tt:TT} {te:TE} {i:Nat} {x:Str}
  (hN:X.N.Nodup) (hin:X.N[i]?=some x) (hx:Loc X.env.scope x)
  (S:xR X xs ix scope) (hc:X.calm=true) (hi:PI X tg iter wi)
  (hg:∀ C fp s H,PG (cxC X xs ix scope C fp s H) tg g) (ht:∀ C fp s H,PTs (cxC X xs ix scope C fp s H) ifs tt) (he:∀ C fp s H,PE (cxC X xs ix scope C fp s H) elt te)
  (hsw:swapsWith (.ListComp elt [⟨tg,iter,ifs,0⟩] scope cpos) (some (.Name x pos')) pos.line X.env=pure true)
  (hf:X.fn x=true \/ X.env.scope.names.lookup x=some .local:=by first | exact .inl rfl | exact .inr rfl | assumption)
  (hs:∀ x,foldedSetIterable iter X.env x=pure x:=by intro _;rfl) :
  PS X (.Assign [.Name x pos'] (.ListComp elt [⟨tg,iter,ifs,0⟩] scope cpos) pos) (nY (tLC xs ix wi g tt te) (xZ i)):=by
 intro pins s σ H D I h
 have hcl:∀ n,(n,NameKind.free) ∈ scope.names->(X.env.cells.lookup n).isSome=true:=fun n hn=>by
  obtain ⟨c,e⟩:=I.ok.has n (S.fre n hn)
  rw [e];rfl
 rw [exec_Assign_Name_used _ _ _ _ hsw]
 refine wpAny_bind (wpAny_standAt (wpAny_bind ?_))
 rw [arm_evalThenUse_ListComp]
 refine wpAny_bind (thn (Q:=fun _ s'=>SP X pins D .next s') (wpAny_comprehension_free (g:=⟨tg,iter,ifs,0⟩) (gs:=[]) (use:=some (assign (.Name x pos') X.env)) rfl hs (wS hcl) S.kind S.loc ?_) fun _ s1 h1=>wpAny_pure (wpAny_pure h1))
 refine iJ S hc hi hg ht he I h fun acc C H' s' m q hn k hC=>?_
 have I':Inv X pins σ H' s':=k s'.heap (Heap.SameBut.refl _ _) s'.toks
 show wpAny (model X.prog X.w) X.A (assign (.Name x pos') X.env (.ref acc)) (fun _ s''=>∃ m,s''.heap.Ns C m/\∀ h',Heap.SameBut C s''.heap h'->SP X pins D .next { s'' with heap:=h' }) X.xe s'
 refine wpAny_assign_Name (pJ I' hN hin hx (v:=.ref acc) rfl (fun s'' I'' hz60=>?_) hf)
 obtain ⟨a,hsa,ha⟩:=hz60
 refine ⟨m,hn.sameBut hsa ?_,fun h' hsb=>⟨_,H',I''.letgo hsb hC,q⟩⟩
 rcases ha with rfl | ha
 ·exact hC.2.1
 ·exact fun z=>hC.2.2.1 x a ha z.symm
end L2
namespace L2
open PySem PySem.Spec PyProof.Rows
def Its (x:Str):It:=⟨fun i _=>i < x.cps.size,fun i H v H'=>H'=H/\∃ c,x.cps[i]?=some c/\v=.str ⟨#[c]⟩,fun i _=>i=x.cps.size⟩
theorem fG {P:Program} {w:World} {K:PySem.W.Frag} {tg:Expr} (it:Addr) (x:Str) (t:Tok) (ty:String)
  (hty:["enumerate","zip","dict_itemiterator","dict_reverseitemiterator","odict_iterator","itertools.zip_longest","itertools.pairwise"].contains ty=false)
  (W:∀ A:Around,A.handled=none->Walks P w A it [it] [it] x.cps.size (SignAt x) (fun i h=>h.IsStrIter it ty x t i))
  (self:∀ (A:Around) (i:Nat) (s:Shared) (Q:Value->Shared->Prop) (E:Value->Shared->Prop),s.heap.IsStrIter it ty x t i->Q (.ref it) s->wpAny (model P w) A (pyIter (.ref it)) Q E s) :
  bD P w K tg (Its x) [it] it (fun i h=>h.IsStrIter it ty x t i) where
 mem:=by simp
 obj:=fun i h st b hb=>by
  have e:b=it:=by simpa using hb
  subst e
  obtain ⟨o,e,c,d⟩:=st
  exact ⟨o,e,fun v z=>by rw [d] at z;cases z⟩
 keep:=fun i h h' st k=>let ⟨o,e,r⟩:=st;⟨o,k it (by simp) o e,r⟩
 item:=by
  intro X hP hw hK hc i pins s σ H E I hf st hg
  subst hP hw hK
  obtain ⟨f0,f1,f2,f3,f4,f5⟩:=hf it (by simp)
  refine (W X.A (I.ok.hd hc)).item i s _ _ hg st fun v h' tk hv st' kk=>?_
  obtain ⟨c,u,hcx,rfl⟩:=hv
  have I1:Inv X pins σ H { s with heap:=h',toks:=tk }:=I.turned (fun b o hb e=>kk b o (by simpa using hb) e) f0 f1 f3 f4 f5
  obtain ⟨o,e,c',d⟩:=id st'
  exact ⟨_,rfl,cE (s:={ s with heap:=h',toks:=tk }) e c' d hty ⟨.str ⟨#[c]⟩,H,I1,⟨u,rfl⟩,⟨rfl,c,hcx,rfl⟩,st',fun b hb=>(hf b hb).1⟩⟩
 done:=by
  intro X hP hw hK hc i pins s σ H E I hf st hg
  subst hP hw hK
  obtain ⟨f0,f1,f2,f3,f4,f5⟩:=hf it (by simp)
  have hg':i=x.cps.size:=hg
  subst hg'
  exact (W X.A (I.ok.hd hc)).done s _ _ st fun h' tk kk=>⟨rfl,I.turned (fun b o hb e=>kk b o (by simpa using hb) e) f0 f1 f3 f4 f5⟩
 self:=self
section
variable {X:Cx} {tg:Expr}
def iStr (tl:TE):TI:=fun σ H R=>tl σ H fun x H1=>∃ z,x=.str z/\R (Its z) H1
theorem zCJ {l:Expr} {tl:TE} (hl:PE X l tl):PI X tg l (iStr tl):=by
 intro pins s σ H R I h
 refine thn (hl pins s σ H _ I h) fun v s1 hz61=>?_
 obtain ⟨x,H1,I1,r1,q1⟩:=hz61
 obtain ⟨z,e,q⟩:=q1
 subst e
 obtain ⟨t,rfl⟩:=(show ∃ t,v=Value.str z t from r1)
 have fin:∀ (o:Obj) (ty:String),o.cls=.type ty->o.data=.fields #[.str z t,.int 0 0] ->
   ["enumerate","zip","dict_itemiterator","dict_reverseitemiterator","odict_iterator","itertools.zip_longest","itertools.pairwise"].contains ty=false ->
   o.isFreed=false ->
   (∀ A:Around,A.handled=none->Walks X.prog X.w A s1.heap.objs.size [s1.heap.objs.size] [s1.heap.objs.size] z.cps.size (SignAt z) (fun i h=>h.IsStrIter s1.heap.objs.size ty z t i)) ->
   (∀ (A:Around) (i:Nat) (s:Shared) (Q:Value->Shared->Prop) (E:Value->Shared->Prop),s.heap.IsStrIter s1.heap.objs.size ty z t i->Q (.ref s1.heap.objs.size) s->wpAny (model X.prog X.w) A (pyIter (.ref s1.heap.objs.size)) Q E s) ->
   PIE X pins σ tg R (.ref s1.heap.objs.size) { s1 with heap:=s1.heap.push o }:=fun o ty h1 h2 h3 hfr W self=>by
  refine ⟨s1.heap.objs.size,[s1.heap.objs.size],_,_,H1,rfl,I1.kept (t':=s1.toks) fun b o e=>Heap.get?_push_of_some _ e,fG _ z t ty h3 W self,⟨o,Heap.get?_push_size _ hfr,h1,h2⟩,fun b hb=>?_,q⟩
  have e:b=s1.heap.objs.size:=by simpa using hb
  subst e
  exact I1.fpOk (zGG _) (I1.hok.fresh (zGG _))
 cases ha:z.cps.all (· < 128)
 ·exact wpAny_pyIter_wide ha (fin _ "str_iterator" rfl rfl (by decide) rfl (fun A hA=>Walks.strWide hA _ z t) fun _ _ _ _ _ st hQ=>wpAny_pyIter_striter_wide st hQ)
 ·exact wpAny_pyIter_ascii ha (fin _ "str_ascii_iterator" rfl rfl (by decide) rfl (fun A hA=>Walks.strAscii hA _ z t) fun _ _ _ _ _ st hQ=>wpAny_pyIter_striter_ascii st hQ)
theorem lC {A:Around} (h:A.handled=none):A.in1.handled=none:=h
theorem fB {ys:List Bool} {its:List Value} (r:yD (ys.map V.bl) its) {i:Nat} {v:Value} (h:its[i]?=some v):∃ b,ys[i]?=some b/\v=.bool b:=by
 have hl:=r.length
 rw [zF7] at hl
 have hi:i < its.length:=(zF9.mp h).1
 obtain ⟨u,e1,e2⟩:=r.get (i:=i) (x:=V.bl (ys[i]'(by omega))) (by rw [zGD,zF8 (by omega)];rfl)
 rw [h] at e1
 cases e1
 exact ⟨_,zF8 (by omega),e2⟩
theorem i3 (ys:List Bool):(List.range ys.length).all (fun i=>ys.getD i false)=ys.all id:=by
 have e:ys=(List.range ys.length).map (fun i=>ys.getD i false):=by
  apply List.ext_getElem (by simp)
  intro i h1 h2
  simp [zGC,zF8 h1]
 conv=>rhs;rw [e]
 rw [List.all_map];rfl
theorem sB (hc:X.calm=true):wW X (.builtin "all") (fun xs H Q=>∃ (p:Addr) (ys:List Bool),xs=[.ref p]/\SqL X.K H p (ys.map V.bl)/\Q (.bl (ys.all id)) H):=by
 intro pins s σ H xs us Q I r h
 obtain ⟨p,ys,rfl,hq,q⟩:=h
 obtain ⟨u,rfl,ru⟩:=r.one
 cases ru
 obtain ⟨its,rv,pl,hz⟩:=I.list hq
 have hl:=rv.length
 rw [zF7] at hl
 refine call_all_walk (wpAny_pyIter_list pl.isList ?_)
 have hp:p < s.heap.objs.size:=by obtain ⟨o,ho,_⟩:=pl.isList;exact Heap.lt_size ho
 refine ⟨s.heap.objs.size,_,_,_,_,_,fun i=>ys.getD i false,rfl,Walks.list (lC (I.ok.hd hc)) _ p (zGY hp) its.toArray,⟨⟨_,Heap.get?_push_size _ rfl,rfl,rfl⟩,?_⟩,?_,fun h' tk kk=>?_⟩
 ·obtain ⟨o,ho,r⟩:=pl.isList
  exact ⟨o,Heap.get?_push_of_some _ ho,r⟩
 ·intro i v s' Q' E' hP hQ
  obtain ⟨b,e1,rfl⟩:=fB rv (by simpa using hP)
  refine wpAny_truthy_bool ?_
  have e2:ys.getD i false=b:=by rw [zGC,e1];rfl
  rw [<- e2];exact hQ
 ·refine ⟨.bl (ys.all id),H,I.kept fun b o e=>kk b o ?_ (Heap.get?_push_of_some _ e),?_,q⟩
  ·intro z;have z':b=s.heap.objs.size:=by simpa using z
   exact zGY (Heap.lt_size e) z'
  ·have e3:its.toArray.size=ys.length:=by simp;omega
   rw [e3,i3];rfl
theorem yX:wW X (.builtin "isinstance") (fun xs H Q=>∃ x t T b,xs=[x,.ty T]/\sE X.K H x t/\PySem.W.kitOne X.K t (.type T)=some b/\Q (.bl b) H):=by
 intro pins s σ H xs us Q I r h
 obtain ⟨x,t,T,b,rfl,ty,e,q⟩:=h
 obtain ⟨u,v,rfl,ru,rv⟩:=r.two
 cases rv
 exact gI I ru ty e fun tk=>⟨.bl b,H,I.tok tk,rfl,q⟩
def rSlS:V->Option Int->Option Int->Hp->VK->Prop:=fun x lo hi H Q=>∃ z,x=.str z/\z.length <= sizeLine/\Q (.str (Txt.slice z lo hi)) H
theorem zB7:SlR X rSlS:=by
 intro pins s σ H x v vl vu lo hi sl Q I rx hs pl pu h
 obtain ⟨z,rfl,hz,q⟩:=h
 obtain ⟨t,rfl⟩:=(show ∃ t,v=Value.str z t from rx)
 refine ⟨"str",_,F.slot_str_getitem.lookup,typeIs_str _ _ _,?_⟩
 have key:∀ (l u:Option (Int × Tok)),vl=partValue l->vu=partValue u->lo=l.map (·.1)->hi=u.map (·.1) ->
   wpAny (model X.prog X.w) X.A (getItem (.str z t) (.ref sl)) (EP X pins σ Q) X.xe s:=by
  intro l u e1 e2 e3 e4
  subst e1 e2
  refine wpAny_getItem_str_slice (l:=l) (u:=u) (st:=none) hs rfl ?_
  unfold sliceMade
  have ee:Txt.slice z lo hi=if (((none:Option (Int × Tok)).map (·.1)).getD 1 == 1 && (slicePicked z l u none).length == z.length)=true then z else ⟨((slicePicked z l u none).filterMap (z.cps[·]?)).toArray⟩:=by
   rw [e3,e4];rfl
  split
  ·rename_i c
   rw [if_pos c] at ee
   rw [ee] at q
   exact ⟨.str z,H,I,⟨t,rfl⟩,q⟩
  ·rename_i c
   rw [if_neg c] at ee
   rw [ee] at q
   have hle:=Txt.slice_le z lo hi
   rw [ee] at hle
   exact ⟨zGI hle hz,.str _,H,I.tok _,⟨_,rfl⟩,q⟩
 cases pl with
 | none=>
  cases pu with
  | none=>exact key none none rfl rfl rfl rfl
  | int j tj=>exact key none (some (j,tj)) rfl rfl rfl rfl
 | int i ti=>
  cases pu with
  | none=>exact key (some (i,ti)) none rfl rfl rfl rfl
  | int j tj=>exact key (some (i,ti)) (some (j,tj)) rfl rfl rfl rfl
theorem oB:∀ {ys:List Str} {us:List Value},yD (ys.map V.str) us->StrsAre us ys
 | [],_,.nil=>.nil
 | y :: ys,_,.cons r t=>by
  obtain ⟨k,rfl⟩:=r
  exact .cons y k (oB t)
theorem aZ:MtR X "str.join" (fun x xs H Q=>∃ (z:Str) (p:Addr) (ys:List Str),x=.str z/\xs=[.ref p]/\SqL X.K H p (ys.map V.str)/\(ys.map (·.length)).sum + ys.length * z.length <= 16777216/\Q (.str (Txt.join z ys)) H):=by
 intro pins s σ H x xs v us Q I rx rs h
 obtain ⟨z,p,ys,rfl,rfl,hq,hz,q⟩:=h
 obtain ⟨t,rfl⟩:=(show ∃ t,v=Value.str z t from rx)
 obtain ⟨u,rfl,ru⟩:=rs.one
 cases ru
 obtain ⟨its,rv,pl,hl⟩:=I.list hq
 exact join_list pl.isList (oB (by simpa using rv)) hz fun t' k=>⟨.str _,H,I.tok k,⟨t',rfl⟩,q⟩
theorem dD:OpR X (binaryOp .FloorDiv) (rI (fun _ j=>0 < j/\j < 2 ^ 62) fun i j=>.int (i / j)):=opI fun i j _ _ _ _ _ hc q=>by
 have hp:(0:Int) < j:=hc.1
 have hq:j < 2 ^ 62:=hc.2
 have hlog:j.natAbs.log2 < 9000:=by
  have h1:j.natAbs ≠ 0:=by omega
  have h2:j.natAbs.log2 < 62:=(Nat.log2_lt h1).mpr (by omega)
  omega
 exact floordiv_int (by omega) (by rw [Int.fdiv_eq_ediv_of_nonneg i (by omega)];exact q) (.inl (PyProof.noPylong_of_log2 hlog))
end
end L2
namespace L2
open PySem PySem.Spec PyProof.Rows
structure yW (K:PySem.W.Frag) (mg:Str->Option Value) (x:Str) (st:Stmt) (ps:List Str):Prop where
 ex:∃ (f:Addr) (fd:FuncData),Fun K x x st f fd/\mg x=some (.ref f)/\vT K fd ps []
structure Cal (P:Program) (w:World) (K:PySem.W.Frag) (mg:Str->Option Value) (base:Heap) (CX:CXT) (k:Nat) (x:Str) (ps:List Str) (sp:Sp):Prop where
 ex:∃ (f:Addr) (fd:FuncData),uW P w K mg base CX k f fd ps sp/\mg x=some (.ref f)/\PySem.W.keepIn K (.ref f)=true/\vT K fd ps []
section
variable {P:Program} {w:World} {K:PySem.W.Frag} {mg:Str->Option Value} {base:Heap}
theorem yW.ok {x:Str} {st:Stmt} {N ps:List Str} {k:Nat} {sp:Sp} (G:yW K mg x st ps) (S:zN N ps (zG st)) (len:∀ vs H Q E,sp vs H Q E->vs.length=ps.length)
  (hbody:∀ (f:Addr) (cdv:Value) (A:Around) (outer:List Env) (s:Shared) (H:Hp) (vs:List V) (Q:VK) (E:XK),z7 k (A.deeper (envOfC x (zG st) s.heap.objs.size f cdv))->sp vs H Q E ->
   ∃ t,PSs (lF CX0 P w K mg base N x (zG st) f cdv A outer s H E).nox (xM st) t/\t { nx:=fun _ H'=>Q .non H',rt:=Q } (start N vs) H):Cal P w K mg base CX0 (k + 1) x ps sp:=by
 obtain ⟨f,fd,F,hm,hb⟩:=G.ex
 exact ⟨f,fd,F.ok S len fun cdv A outer s H vs Q E hr h=>hbody f cdv A outer s H vs Q E hr h,hm,F.kp,hb⟩
theorem zAI {h:Heap} {x:Str} {st:Stmt} {f:Addr} {oc:Value} {od an:Option Addr} {osl:Array (Option Value)} {kV doc pm cdv ct:Value} {ps:List Str} (X:K.In h) (G:h.Ns mainGlobals mg)
  (a:PySem.W.nsIn K mainGlobals x=some (some (.ref f)))
  (l:K.lookup f=some ⟨oc,od,.func (PySem.W.fnOf x x (x0 st) (xM st) (zG st) .none kV doc pm an cdv ct),osl⟩) (c:PySem.W.codeIn K cdv x=true) (k:PySem.W.keepIn K (.ref f)=true)
  (hb:∀ (kV doc pm:Value) (an:Option Addr) (cdv ct:Value) (us:List Value),us.length=ps.length->bindArgs (PySem.W.fnOf x x (x0 st) (xM st) (zG st) .none kV doc pm an cdv ct) ⟨us,[]⟩=pure (ps.zip us)):yW K mg x st ps:=
 ⟨f,_,tN l c k,PySem.W.mg_of X G a,(tN l c k).binds hb⟩
end
section
variable {X:Cx} {CX:CXT} {k:Nat} {ps:List Str} {sp:Sp} {E:XK} {x:Str} {p pos:Pos} {e:Expr} {es:List Expr} {t:TA}
theorem zU (C:Cal X.prog X.w X.K X.mg X.base CX0 k x ps sp) (hr:z7 k X.A) (ha:PA X (e :: es) t) (hg:Gl X x:=by rfl)
  (hdb:(x == ("__debug__" : Str))=false:=by decide) (he:starEach (e :: es) X.env=(false,eval e X.env) :: starEach es X.env:=by rfl) (hpl:(backTo pos (starEach es X.env)).any (·.1)=false:=by rfl) :
  PE X (.Call (.Name x p) (e :: es) [] pos) (fO sp [] E0 t):=
 let ⟨_,_,F,hm,hk,hb⟩:=C.ex
 aN F hr hg hm hk hb .nil iB ha hdb he hpl
structure Blt (mg:Str->Option Value) (x:Str):Prop where
 no:mg x=none
theorem z9 {id:String} {r:List V->Hp->VK->Prop} (hc:wW X (.builtin id) r) (b:Blt X.mg x) (hv:bootBuiltins x=some (.builtin id)) (ha:PA X (e :: es) t) (hg:Gl X x:=by rfl) (hn:x ≠ "__name__":=by decide) (hdb:(x == ("__debug__" : Str))=false:=by decide)
  (he:starEach (e :: es) X.env=(false,eval e X.env) :: starEach es X.env:=by rfl) (hpl:(backTo pos (starEach es X.env)).any (·.1)=false:=by rfl) :
  PE X (.Call (.Name x p) (e :: es) [] pos) (tCB r t):=dB hc hg b.no hv ha hn hdb he hpl
theorem vQ {T:String} (b:Blt X.mg x) (hv:bootBuiltins x=some (.type T)) (hg:Gl X x:=by rfl) (hn:x ≠ "__name__":=by decide) (hd:(x == ("__debug__" : Str))=false:=by decide):PE X (.Name x pos) (tC (.ty T)):=
 aO hg b.no hv rfl hn hd
end
def zC (S:List Addr) (H H':Hp):Prop:=∀ b o,b ∉ S->H b=some o->H' b=some o
theorem zC.refl {S:List Addr} (H:Hp):zC S H H:=fun _ _ _ h=>h
theorem zC.trans {S:List Addr} {H H1 H2:Hp} (a:zC S H H1) (b:zC S H1 H2):zC S H H2:=fun c o n h=>b c o n (a c o n h)
theorem zC.mono {S S':List Addr} {H H1:Hp} (a:zC S H H1) (h:∀ b ∈ S,b ∈ S'):zC S' H H1:=fun c o n q=>a c o (fun z=>n (h c z)) q
theorem zC.new {S:List Addr} {H:Hp} {p:Addr} {o:HO} (h:H p=none):zC S H (upd H p o):=fun b u _ q=>by rw [zI (zH q h)];exact q
theorem zC.at {S:List Addr} {H:Hp} {p:Addr} {o:HO} (h:p ∈ S):zC S H (upd H p o):=fun b u n q=>by
 rw [zI (fun z=>n (by rw [z];exact h))];exact q
theorem zC.none {S:List Addr} {H H':Hp} (k:zC S H H') {l:Addr} (n:l ∉ S) (h:H' l=Option.none):H l=Option.none:=by
 cases q:H l with
 | none=>rfl
 | some o=>rw [k l o n q] at h;cases h
theorem zC.same {H H':Hp} (k:zC [] H H'):zDU H H':=fun b o h=>k b o (by simp) h
theorem zC.seq {K:PySem.W.Frag} {H H':Hp} {a:Addr} {xs:List V} (k:zC [] H H') (h:SqL K H a xs):SqL K H' a xs:=k.same.seq h
theorem dX {J:It} {xs:List Str} {ix:List Nat} {g:TG} {tt:TT} {te:TE} {n:Nat} {σ:St} {H1:Hp} {Q:VK} {acc:Addr} (hn:n < sizeLine) (item:Nat->V) (Pv:Nat->List V->St->Hp->Prop)
  (h0:Pv 0 [] (stC xs ix σ) (upd H1 acc (.lst [])))
  (hacc:∀ i ys τ H,Pv i ys τ H->H acc=some (.lst ys)/\ys.length <= i)
  (hgo:∀ i ys τ H,i < n->Pv i ys τ H->J.go i H) (hyl:∀ i ys τ H x H',i < n->Pv i ys τ H->J.yld i H x H'->H'=H/\x=item i) (hst:∀ ys τ H,Pv n ys τ H->J.stop n H)
  (hs:∀ i ys τ H,i < n->Pv i ys τ H->g (item i) τ H fun τ2 H2=>tt τ2 H2 fun b H3=>
   if b=true then te τ2 H3 fun y H4=>H4 acc=some (.lst ys)/\Pv (i + 1) (ys ++ [y]) τ2 (upd H4 acc (.lst (ys ++ [y]))) else Pv (i + 1) ys τ2 H3)
  (hd:∀ ys τ H,Pv n ys τ H->Q (.ref acc) H) :
  LCW J xs ix g tt te σ H1 acc Q:=by
 refine ⟨fun i m ys τ H=>m=n - i/\i <= n/\Pv i ys τ H,⟨n,by simp,zGH _,h0⟩,?_⟩
 rintro i m ys τ H ⟨rfl,hi,p⟩
 obtain ⟨a1,a2⟩:=hacc i ys τ H p
 refine ⟨a1,by omega,?_⟩
 by_cases hlt:i < n
 ·refine .inr ⟨hgo i ys τ H hlt p,Pv (i + 1),fun ys' τ' H' p'=>⟨n - (i + 1),by omega,rfl,hlt,p'⟩,fun x H' y=>?_⟩
  obtain ⟨rfl,rfl⟩:=hyl i ys τ H x H' hlt p y
  exact hs i ys τ _ hlt p
 ·have e:i=n:=by omega
  subst e
  exact .inl ⟨hst ys τ H p,hd ys τ H p⟩
theorem lA {xs:List Str} {ix:List Nat} {g:TG} {tt:TT} {te:TE} {lo:Int} {n:Nat} {σ:St} {H1:Hp} {Q:VK} {acc:Addr} (hn:n < sizeLine) (Pv:Nat->List V->St->Hp->Prop)
  (h0:Pv 0 [] (stC xs ix σ) (upd H1 acc (.lst [])))
  (hacc:∀ i ys τ H,Pv i ys τ H->H acc=some (.lst ys)/\ys.length <= i)
  (hs:∀ i ys τ H,i < n->Pv i ys τ H->g (.int (lo + i)) τ H fun τ2 H2=>tt τ2 H2 fun b H3=>
   if b=true then te τ2 H3 fun y H4=>H4 acc=some (.lst ys)/\Pv (i + 1) (ys ++ [y]) τ2 (upd H4 acc (.lst (ys ++ [y]))) else Pv (i + 1) ys τ2 H3)
  (hd:∀ ys τ H,Pv n ys τ H->Q (.ref acc) H) :
  LCW (Itr lo n) xs ix g tt te σ H1 acc Q:=
 dX hn (fun i=>.int (lo + i)) Pv h0 hacc (fun i _ _ _ h _=>h) (fun i _ _ _ _ _ _ _ h=>h) (fun _ _ _ _=>zGG n) hs hd
theorem zDB {xs:List Str} {ix:List Nat} {g:TG} {tt:TT} {te:TE} {z:Str} {σ:St} {H1:Hp} {Q:VK} {acc:Addr} (hn:z.cps.size < sizeLine) (Pv:Nat->List V->St->Hp->Prop)
  (h0:Pv 0 [] (stC xs ix σ) (upd H1 acc (.lst [])))
  (hacc:∀ i ys τ H,Pv i ys τ H->H acc=some (.lst ys)/\ys.length <= i)
  (hs:∀ i ys τ H,i < z.cps.size->Pv i ys τ H->g (.str ⟨#[z.cps.getD i 0]⟩) τ H fun τ2 H2=>tt τ2 H2 fun b H3=>
   if b=true then te τ2 H3 fun y H4=>H4 acc=some (.lst ys)/\Pv (i + 1) (ys ++ [y]) τ2 (upd H4 acc (.lst (ys ++ [y]))) else Pv (i + 1) ys τ2 H3)
  (hd:∀ ys τ H,Pv z.cps.size ys τ H->Q (.ref acc) H) :
  LCW (Its z) xs ix g tt te σ H1 acc Q:=
 dX hn (fun i=>.str ⟨#[z.cps.getD i 0]⟩) Pv h0 hacc (fun i _ _ _ h _=>h) (fun i _ _ _ x H' _ _ h=>⟨h.1,by
  obtain ⟨_,c,e,ex⟩:=h
  rw [ex,show z.cps.getD i 0=c by rw [zG6,e];rfl]⟩) (fun _ _ _ _=>rfl) hs hd
theorem iI {K:PySem.W.Frag} {a:Addr} {its:List V} {xs:List Str} {ix:List Nat} {g:TG} {tt:TT} {te:TE} {σ:St} {H1:Hp} {Q:VK} {acc:Addr} (hn:its.length < sizeLine) (Pv:Nat->List V->St->Hp->Prop)
  (h0:Pv 0 [] (stC xs ix σ) (upd H1 acc (.lst [])))
  (hacc:∀ i ys τ H,Pv i ys τ H->H acc=some (.lst ys)/\ys.length <= i/\SqL K H a its)
  (hs:∀ i ys τ H x,its[i]?=some x->Pv i ys τ H->g x τ H fun τ2 H2=>tt τ2 H2 fun b H3=>
   if b=true then te τ2 H3 fun y H4=>H4 acc=some (.lst ys)/\Pv (i + 1) (ys ++ [y]) τ2 (upd H4 acc (.lst (ys ++ [y]))) else Pv (i + 1) ys τ2 H3)
  (hd:∀ ys τ H,Pv its.length ys τ H->Q (.ref acc) H) :
  LCW (Itl K a) xs ix g tt te σ H1 acc Q:=by
 refine dX hn (fun i=>its.getD i .non) Pv h0 (fun i ys τ H p=>⟨(hacc i ys τ H p).1,(hacc i ys τ H p).2.1⟩) (fun i ys τ H h p=>⟨its,its[i],(hacc i ys τ H p).2.2,by simp [h]⟩)
  (fun i ys τ H x H' h p y=>⟨y.1,?_⟩) (fun ys τ H p=>⟨its,(hacc _ ys τ H p).2.2,zGG _⟩) (fun i ys τ H h p=>hs i ys τ H _ (by simp [zGC,h]) p) hd
 have e:=y.2 its (hacc i ys τ H p).2.2
 rw [zGC,e];rfl
theorem r6 {g:TG} {te:TE} {x:V} {τ:St} {H:Hp} {R:St->Hp->VK} {N:St->Hp->Prop} (h:g x τ H fun τ2 H2=>te τ2 H2 (R τ2 H2)) :
  g x τ H fun τ2 H2=>tI τ2 H2 fun b H3=>if b=true then te τ2 H3 (R τ2 H3) else N τ2 H3:=by
 have e:(fun τ2 H2=>tI τ2 H2 fun b H3=>if b=true then te τ2 H3 (R τ2 H3) else N τ2 H3)=fun τ2 H2=>te τ2 H2 (R τ2 H2):=by
  funext τ2 H2
  show (if true=true then te τ2 H2 (R τ2 H2) else N τ2 H2)=_
  rw [if_pos rfl]
 rw [e];exact h
theorem u7 {xs:List Str} {ix:List Nat} {g:TG} {te:TE} {lo:Int} {n:Nat} {σ:St} {H1:Hp} {Q:VK} {acc:Addr} (hn:n < sizeLine) (Pv:Nat->List V->St->Hp->Prop)
  (h0:Pv 0 [] (stC xs ix σ) (upd H1 acc (.lst [])))
  (hacc:∀ i ys τ H,Pv i ys τ H->H acc=some (.lst ys)/\ys.length <= i)
  (hs:∀ i ys τ H,i < n->Pv i ys τ H->g (.int (lo + i)) τ H fun τ2 H2=>te τ2 H2 fun y H4=>H4 acc=some (.lst ys)/\Pv (i + 1) (ys ++ [y]) τ2 (upd H4 acc (.lst (ys ++ [y]))))
  (hd:∀ ys τ H,Pv n ys τ H->Q (.ref acc) H):LCW (Itr lo n) xs ix g tI te σ H1 acc Q:=
 lA hn Pv h0 hacc (fun i ys τ H hi p=>r6 (R:=fun τ2 _=>fun y H4=>H4 acc=some (.lst ys)/\Pv (i + 1) (ys ++ [y]) τ2 (upd H4 acc (.lst (ys ++ [y])))) (hs i ys τ H hi p)) hd
theorem zAF {xs:List Str} {ix:List Nat} {g:TG} {te:TE} {z:Str} {σ:St} {H1:Hp} {Q:VK} {acc:Addr} (hn:z.cps.size < sizeLine) (Pv:Nat->List V->St->Hp->Prop)
  (h0:Pv 0 [] (stC xs ix σ) (upd H1 acc (.lst [])))
  (hacc:∀ i ys τ H,Pv i ys τ H->H acc=some (.lst ys)/\ys.length <= i)
  (hs:∀ i ys τ H,i < z.cps.size->Pv i ys τ H->g (.str ⟨#[z.cps.getD i 0]⟩) τ H fun τ2 H2=>te τ2 H2 fun y H4=>H4 acc=some (.lst ys)/\Pv (i + 1) (ys ++ [y]) τ2 (upd H4 acc (.lst (ys ++ [y]))))
  (hd:∀ ys τ H,Pv z.cps.size ys τ H->Q (.ref acc) H):LCW (Its z) xs ix g tI te σ H1 acc Q:=
 zDB hn Pv h0 hacc (fun i ys τ H hi p=>r6 (R:=fun τ2 _=>fun y H4=>H4 acc=some (.lst ys)/\Pv (i + 1) (ys ++ [y]) τ2 (upd H4 acc (.lst (ys ++ [y])))) (hs i ys τ H hi p)) hd
theorem uB {K:PySem.W.Frag} {a:Addr} {its:List V} {xs:List Str} {ix:List Nat} {g:TG} {te:TE} {σ:St} {H1:Hp} {Q:VK} {acc:Addr} (hn:its.length < sizeLine) (Pv:Nat->List V->St->Hp->Prop)
  (h0:Pv 0 [] (stC xs ix σ) (upd H1 acc (.lst [])))
  (hacc:∀ i ys τ H,Pv i ys τ H->H acc=some (.lst ys)/\ys.length <= i/\SqL K H a its)
  (hs:∀ i ys τ H x,its[i]?=some x->Pv i ys τ H->g x τ H fun τ2 H2=>te τ2 H2 fun y H4=>H4 acc=some (.lst ys)/\Pv (i + 1) (ys ++ [y]) τ2 (upd H4 acc (.lst (ys ++ [y]))))
  (hd:∀ ys τ H,Pv its.length ys τ H->Q (.ref acc) H):LCW (Itl K a) xs ix g tI te σ H1 acc Q:=
 iI hn Pv h0 hacc (fun i ys τ H x hi p=>r6 (R:=fun τ2 _=>fun y H4=>H4 acc=some (.lst ys)/\Pv (i + 1) (ys ++ [y]) τ2 (upd H4 acc (.lst (ys ++ [y])))) (hs i ys τ H x hi p)) hd
end L2
namespace L2
open PySem PySem.Spec PyProof.Rows
section
variable {X:Cx}
def eL:R2:=fun x y H Q=>∃ p xs i v,x=.ref p/\y=.int i/\H p=some (.lst xs)/\atI xs i=some v/\Q v H
theorem yA:IxR X eL:=fun value slice pins s σ H x y v u Q I rx ry hz hs=>by
 obtain ⟨p,xs,i,z,a,b,c,d,e⟩:=hz
 exact iK value slice pins s σ H x y v u Q I rx ry ⟨p,xs,i,z,a,b,.of c,d,e⟩ hs
def eJ:R2:=fun x y H Q=>∃ p xs i v,x=.ref p/\y=.int i/\H p=some (.tup xs)/\atI xs i=some v/\Q v H
theorem zY:IxR X eJ:=fun value slice pins s σ H x y v u Q I rx ry hz hs=>by
 obtain ⟨p,xs,i,z,a,b,c,d,e⟩:=hz
 exact zDH value slice pins s σ H x y v u Q I rx ry ⟨p,xs,i,z,a,b,.of c,d,e⟩ hs
end
end L2
namespace L2
open PySem PySem.Spec PyProof.Rows
def tH (N:List Str) (sc:Scope) (xs:List Str) (ix:List Nat) (scope:Scope):Prop:=
 scope.kind=.function/\(∀ y ∈ scope.names,y.2 ≠ .cell)/\(∀ y ∈ scope.names,y.2=.local->scope.names.lookup y.1=some .local) /\
 (∀ y ∈ scope.names,y.2=.free->sc.names.lookup y.1=some .cell \/ sc.names.lookup y.1=some .free)/\(∀ x ∈ xs,scope.names.lookup x=some .local) /\
 (xs ++ ix.map (fun i=>N.getD i "")).Nodup/\(∀ i ∈ ix,i < N.length)/\(∀ i ∈ ix,scope.names.lookup (N.getD i "")=some .free)
instance {N:List Str} {sc:Scope} {xs:List Str} {ix:List Nat} {scope:Scope}:Decidable (tH N sc xs ix scope):=by unfold tH;infer_instance
theorem tH.at {X:Cx} {N:List Str} {sc:Scope} {xs:List Str} {ix:List Nat} {scope:Scope} (S:tH N sc xs ix scope) (hN:X.N=N) (hsc:X.env.scope=sc):xR X xs ix scope:=by
 obtain ⟨a,b,c,d,e,f,g,h⟩:=S
 subst hN hsc
 exact ⟨a,b,c,fun n hn=>d (n,.free) hn rfl,e,f,g,h⟩
theorem vV {X:Cx} {N:List Str} {sc:Scope} {x:Str} {ix:List Nat} {scope:Scope} {elt iter:Expr} {ifs:List Expr} {px pos:Pos} {wi:TI} {tt:TT} {te:TE}
  (hS:tH N sc [x] ix scope) (hi:PI X (.Name x px) iter wi)
  (ht:∀ C fp s H,PTs (cxC X [x] ix scope C fp s H) ifs tt) (he:∀ C fp s H,PE (cxC X [x] ix scope C fp s H) elt te)
  (hN:X.N=N:=by rfl) (hsc:X.env.scope=sc:=by rfl) (hc:X.calm=true:=by rfl)
  (hs:∀ x,foldedSetIterable iter X.env x=pure x:=by intro _;rfl) :
  PE X (.ListComp elt [⟨.Name x px,iter,ifs,0⟩] scope pos) (tLC [x] ix wi (xZ 0) tt te):=by
 have S:=hS.at (X:=X) hN hsc
 have hl:∀ C fp s H,(cxC X [x] ix scope C fp s H).env.scope.names.lookup x=some .local:=fun _ _ _ _=>lookup_relabel_local (S.own x (by simp))
 exact zBE S hc hi (fun C fp s H=>yE S.nd rfl (Or.inl (hl C fp s H)) (.inr (hl C fp s H))) ht he hs
theorem vZ {X:Cx} {N:List Str} {sc:Scope} {x y:Str} {ix:List Nat} {scope:Scope} {elt iter:Expr} {ifs:List Expr} {px cpos pos pos':Pos} {wi:TI} {tt:TT} {te:TE} {i:Nat}
  (hN':X.N.Nodup) (hin:X.N[i]?=some y) (hx:Loc X.env.scope y)
  (hS:tH N sc [x] ix scope) (hi:PI X (.Name x px) iter wi)
  (ht:∀ C fp s H,PTs (cxC X [x] ix scope C fp s H) ifs tt) (he:∀ C fp s H,PE (cxC X [x] ix scope C fp s H) elt te)
  (hN:X.N=N:=by rfl) (hsc:X.env.scope=sc:=by rfl) (hc:X.calm=true:=by rfl)
  (hsw:swapsWith (.ListComp elt [⟨.Name x px,iter,ifs,0⟩] scope cpos) (some (.Name y pos')) pos.line X.env=pure true:=by rfl)
  (hf:X.fn y=true \/ X.env.scope.names.lookup y=some .local:=by first | exact .inl rfl | exact .inr rfl | assumption)
  (hs:∀ x,foldedSetIterable iter X.env x=pure x:=by intro _;rfl) :
  PS X (.Assign [.Name y pos'] (.ListComp elt [⟨.Name x px,iter,ifs,0⟩] scope cpos) pos) (nY (tLC [x] ix wi (xZ 0) tt te) (xZ i)):=by
 have S:=hS.at (X:=X) hN hsc
 have hl:∀ C fp s H,(cxC X [x] ix scope C fp s H).env.scope.names.lookup x=some .local:=fun _ _ _ _=>lookup_relabel_local (S.own x (by simp))
 exact mO hN' hin hx S hc hi (fun C fp s H=>yE S.nd rfl (Or.inl (hl C fp s H)) (.inr (hl C fp s H))) ht he hsw hf hs
theorem zAE (x y:Str):(x ++ y).length=x.length + y.length:=by
 show (x.cps ++ y.cps).size=_
 simp [Str.length]
end L2
namespace L2
open PySem PySem.Spec PyProof.Rows
theorem zC.drop {S:List Addr} {H H':Hp} {a:Addr} (k:zC (a :: S) H H') (h:H a=Option.none):zC S H H':=fun b o n q=>k b o (fun z=>(List.mem_cons.mp z).elim (fun e=>by rw [e,h] at q;cases q) n) q
theorem zL {H:Hp} {p a:Addr} {o:HO} (h:upd H p o a=Option.none):H a=Option.none/\a ≠ p:=by
 by_cases e:a=p
 ·rw [e,zB] at h;cases h
 ·rw [zI e] at h;exact ⟨h,e⟩
theorem d7 (ys:List Str):(Txt.join (Str.ofString "") ys).length=(ys.map (·.length)).sum:=by
 show (Builtin.Str.glued (Str.ofString "") ys).length=_
 rw [size_glued]
 show _ + (ys.length - 1) * 0=_
 omega
theorem nZ:∀ (ys:List Str),(∀ z ∈ ys,z.length=1)->(ys.map (·.length)).sum=ys.length
 | [],_=>rfl
 | y :: ys,h=>by
  rw [List.map_cons,List.sum_cons,h y zG0,nZ ys fun z hz=>h z (zGK _ hz),zGS]
  omega
end L2
namespace L2
theorem sX {α:Type} {xs:List α} {i:Int} (h0:0 <= i) (h1:i < xs.length):∃ v,atI xs i=some v/\xs[i.toNat]?=some v:=by
 have hl:i.toNat < xs.length:=by omega
 refine ⟨xs[i.toNat],?_,zF8 hl⟩
 have e:=uP (zF8 hl)
 rwa [Int.toNat_of_nonneg h0] at e
end L2
namespace L2
open PySem PySem.Spec PyProof.Rows
structure Glo (mg:Str->Option Value) (x:Str) (v:V):Prop where
 ex:∃ u,mg x=some u/\yM v u
theorem eZ {X:Cx} {x:Str} {v:V} {pos:Pos} (g:Glo X.mg x v) (hg:Gl X x:=by rfl) (hd:(x == ("__debug__" : Str))=false:=by decide):PE X (.Name x pos) (tC v):=
 let ⟨_,hm,r⟩:=g.ex
 aK hg hm r hd
inductive yY (K:PySem.W.Frag) (H:Hp):V->String->Prop where
 | non:yY K H .non "NoneType"
 | bl (x:Bool):yY K H (.bl x) "bool"
 | int (i:Int):yY K H (.int i) "int"
 | str (x:Str):yY K H (.str x) "str"
 | lst {a:Addr} {xs:List V} (e:H a=some (.lst xs)):yY K H (.ref a) "list"
 | tup {a:Addr} {xs:List V} (e:H a=some (.tup xs)):yY K H (.ref a) "tuple"
 | dK {a:Addr} {kvs:List (Key × V)} (e:H a=some (.dK kvs)):yY K H (.ref a) "dict"
theorem yY.ty {K:PySem.W.Frag} {H:Hp} {x:V} {T:String} (h:yY K H x T):sE K H x (.type T):=by
 cases h with
 | non=>exact .non
 | bl b=>exact .bl b
 | int i=>exact .int i
 | str z=>exact .str z
 | lst e=>exact .lst e
 | tup e=>exact .tup e
 | dK e=>exact .dK e
theorem yY.kit {K:PySem.W.Frag} {H:Hp} {x:V} {T:String} (h:yY K H x T):PySem.W.kitOne K (.type T) (.type "str")=some (T == "str")/\PySem.W.kitOne K (.type T) (.type "int")=some (T == "int" || T == "bool") /\
  PySem.W.kitOne K (.type T) (.type "bool")=some (T == "bool")/\PySem.W.kitOne K (.type T) (.type "list")=some (T == "list")/\PySem.W.kitOne K (.type T) (.type "tuple")=some (T == "tuple"):=by
 cases h <;> exact ⟨rfl,rfl,rfl,rfl,rfl⟩
theorem yY.keep {K:PySem.W.Frag} {H H':Hp} {x:V} {T:String} (h:yY K H x T) (k:zC [] H H'):yY K H' x T:=by
 cases h with
 | non=>exact .non
 | bl b=>exact .bl b
 | int i=>exact .int i
 | str z=>exact .str z
 | lst e=>exact .lst (k _ _ (by simp) e)
 | tup e=>exact .tup (k _ _ (by simp) e)
 | dK e=>exact .dK (k _ _ (by simp) e)
abbrev abc:Str:="abcdefghijklmnopqrstuvwxyz"
def vG (c:Nat):Bool:=!(Builtin.Str.occurrences abc ⟨#[c]⟩ 0 abc.length 1).isEmpty
def vD (z:Str):Bool:=decide (1 <= z.length) && decide (z.length <= 8) && z.cps.toList.all vG
def x6:V->Bool
 | .str z=>vD z
 | _=>false
theorem jE {α:Type} (l:List α) (f:α->Bool):(l.map f).all id=l.all f:=by rw [List.all_map];rfl
end L2
namespace L2
open PySem
theorem yJ:bootBuiltins "isinstance"=some (.builtin "isinstance"):=by decide +kernel
theorem xI:bootBuiltins "len"=some (.builtin "len"):=by decide +kernel
theorem nO:bootBuiltins "all"=some (.builtin "all"):=by decide +kernel
theorem sW:bootBuiltins "sorted"=some (.builtin "sorted"):=by decide +kernel
theorem zDO:bootBuiltins "min"=some (.builtin "min"):=by decide +kernel
theorem zDM:bootBuiltins "str"=some (.type "str"):=by decide +kernel
theorem jB:bootBuiltins "int"=some (.type "int"):=by decide +kernel
theorem rZ:bootBuiltins "bool"=some (.type "bool"):=by decide +kernel
theorem wT:bootBuiltins "list"=some (.type "list"):=by decide +kernel
theorem qZ:bootBuiltins "tuple"=some (.type "tuple"):=by decide +kernel
theorem zDN:bootBuiltins "set"=some (.type "set"):=by decide +kernel
theorem c6:bootBuiltins "range"=some (.type "range"):=by decide +kernel
end L2
namespace L2
theorem ifF {c:Bool} {A B:Prop} (h:c=false) (k:B):if c=true then A else B:=by rw [h];exact kQ k
theorem ifT {c:Bool} {A B:Prop} (h:c=true) (k:A):if c=true then A else B:=by rw [h];exact gG k
end L2
namespace L2
open PySem PySem.Spec PyProof.Rows
def eqT (xs ys:List V):Bool:=xs.length == ys.length && (List.zipWith eqV xs ys).all id
theorem cI {x:V} (f:xL x=true):eqV x x=true:=by
 cases x with
 | non=>rfl
 | bl b=>cases b <;> rfl
 | int i=>show (i == i)=true;simp
 | str z=>show (z == z)=true;simp
 | _=>exact absurd (show false=true from f) zGZ
theorem p9:∀ (xs ys:List V),(List.zipWith eqV xs ys).all id=(List.range (min xs.length ys.length)).all fun j=>eqV (xs.getD j .non) (ys.getD j .non)
 | [],_=>by simp
 | _ :: _,[]=>by simp
 | x :: xs,y :: ys=>by
  have e:min (x :: xs).length (y :: ys).length=min xs.length ys.length + 1:=by simp [Nat.succ_min_succ]
  rw [e,List.range_succ_eq_map,List.all_cons,List.all_map,List.zipWith_cons_cons,List.all_cons,p9 xs ys]
  rfl
theorem cK:∀ {xs:List V},xs.all xL=true->eqT xs xs=true:=fun {xs} f=>by
 unfold eqT
 rw [beq_self_eq_true,Bool.true_and,p9,List.all_eq_true]
 intro j hj
 have hl:j < xs.length:=by have:=List.mem_range.mp hj;omega
 rw [zGC,zF8 hl]
 exact cI (List.all_eq_true.mp f _ (List.getElem_mem hl))
section
variable {X:Cx}
theorem cM {pins:List (Addr × Obj)} {σ:St} {H:Hp} {s:Shared} {A:Around} {a b:Addr} {xs ys:List V} (I:Inv X pins σ H s) (h1:SqT X.K H a xs) (h2:SqT X.K H b ys) (f1:xs.all xL=true) (f2:ys.all xL=true)
  (hu:A.units < cLine):SeqAt.EqAt A s (.ref a) (.ref b) (eqT xs ys):=by
 by_cases e:a=b
 ·subst e
  have e2:=I.tuple_inj h1 h2
  subst e2
  rw [cK f1]
  exact SeqAt.EqAt.same _
 ·obtain ⟨i1,r1,t1,_⟩:=I.tuple h1
  obtain ⟨i2,r2,t2,_⟩:=I.tuple h2
  have l1:=r1.length
  have l2:=r2.length
  have key:=SeqAt.RcAt.tuples (A:=A) (s:=s) (l:=a) (b:=b) (e:=fun j=>eqV (xs.getD j .non) (ys.getD j .non)) (show s.heap.IsTuple a i1.toArray from t1) (show s.heap.IsTuple b i2.toArray from t2) hu (fun j g1 g2=>by
   have g1':j < i1.length:=by simpa using g1
   have g2':j < i2.length:=by simpa using g2
   obtain ⟨u,eu,ru⟩:=r1.get (i:=j) (zF8 (by omega:j < xs.length))
   obtain ⟨v,ev,rv⟩:=r2.get (i:=j) (zF8 (by omega:j < ys.length))
   have eu':i1.toArray[j]=u:=by
    rw [zF8 g1'] at eu
    simpa using zGE eu
   have ev':i2.toArray[j]=v:=by
    rw [zF8 g2'] at ev
    simpa using zGE ev
   rw [eu',ev']
   have q1:xs.getD j .non=xs[j]'(by omega):=by rw [zGC,zF8 (by omega)];rfl
   have q2:ys.getD j .non=ys[j]'(by omega):=by rw [zGC,zF8 (by omega)];rfl
   show SeqAt.EqAt _ _ _ _ (eqV (xs.getD j .non) (ys.getD j .non))
   rw [q1,q2]
   exact kY ru rv (List.all_eq_true.mp f1 _ (List.getElem_mem _)) (List.all_eq_true.mp f2 _ (List.getElem_mem _)))
  have ee:eqT xs ys=((List.range (min i1.toArray.size i2.toArray.size)).all (fun j=>eqV (xs.getD j .non) (ys.getD j .non)) && i1.toArray.size == i2.toArray.size):=by
   unfold eqT
   rw [p9,zGF,zGF,<- l1,<- l2,Bool.and_comm]
  rw [ee]
  exact SeqAt.EqAt.of_refs e key
def Rows (H:Hp) (p:Addr) (rows:List (List V)):Prop:=∃ ps:List Addr,H p=some (.lst (ps.map V.ref))/\Paired (fun q r=>H q=some (.tup r)) ps rows
theorem x4 {α β:Type} {F:α->β->Prop} {xs:List α} {ys:List β} (h:Paired F xs ys):∀ (i:Nat) (x:α),xs[i]?=some x->∃ y,ys[i]?=some y/\F x y:=by
 induction h with
 | nil=>intro i x h;simp at h
 | cons r _ ih=>
  intro i x h
  cases i with
  | zero=>simp at h;subst h;exact ⟨_,rfl,r⟩
  | succ i=>
   obtain ⟨y,h1,h2⟩:=ih i x (by simpa using h)
   exact ⟨y,by simpa using h1,h2⟩
theorem uJ {α β:Type} {F:α->β->Prop}:∀ {xs:List α} {ys:List β} (i:Nat),Paired F xs ys->Paired F (xs.eraseIdx i) (ys.eraseIdx i)
 | _,_,_,.nil=>.nil
 | _,_,0,.cons _ t=>t
 | _,_,i + 1,.cons r t=>.cons r (uJ i t)
theorem xS {α β:Type} {F:α->β->Prop} {a:α} {b:β} {xs:List α} {ys:List β} (h:Paired F xs ys) (r:F a b):Paired F (xs ++ [a]) (ys ++ [b]):=by
 induction h with
 | nil=>exact .cons r .nil
 | cons q _ ih=>exact .cons q ih
theorem zP {α β:Type} {F:α->β->Prop} {xs:List α} {ys:List β} (h:Paired F xs ys):xs.length=ys.length:=by
 induction h with
 | nil=>rfl
 | cons _ _ ih=>exact congrArg Nat.succ ih
theorem Rows.keep {H H':Hp} {p:Addr} {rows:List (List V)} (h:Rows H p rows) (k:zC [] H H'):Rows H' p rows:=by
 obtain ⟨ps,e,r⟩:=h
 exact ⟨ps,k _ _ (by simp) e,L2.Paired.mapP r fun q x z=>k _ _ (by simp) z⟩
theorem rT:∀ {ps:List Addr} {us:List Value},yD (ps.map V.ref) us->us=ps.map Value.ref
 | [],_,.nil=>rfl
 | p :: ps,_,.cons r t=>by cases r;rw [List.map_cons,rT t]
def vM (H:Hp) (xs:List V) (u:Value):Bool:=match u with
 | .ref q=>(match H q with | some (.tup r)=>eqT r xs | _=>false)
 | _=>false
theorem sZ {H:Hp} {xs:List V}:∀ {ps:List Addr} {rows:List (List V)},Paired (fun q r=>H q=some (.tup r)) ps rows->(ps.map Value.ref).any (vM H xs)=rows.any fun r=>eqT r xs
 | _,_,.nil=>rfl
 | p :: ps,r :: rows,.cons e t=>by
  rw [List.map_cons,List.any_cons,List.any_cons,sZ t]
  have e1:vM H xs (.ref p)=eqT r xs:=by unfold vM;simp only [e]
  rw [e1]
theorem uM {pins:List (Addr × Obj)} {σ:St} {H:Hp} {s:Shared} {A:Around} {t:Addr} {xs:List V} (I:Inv X pins σ H s) (ht:H t=some (.tup xs)) (fx:xs.all xL=true) (hu:A.units < cLine) :
  ∀ {ps:List Addr} {rows:List (List V)},Paired (fun q r=>H q=some (.tup r)) ps rows->(∀ r ∈ rows,r.all xL=true)->∀ u ∈ ps.map Value.ref,SeqAt.EqAt A s u (.ref t) (vM H xs u)
 | _,_,.nil,_=>fun u hu'=>by cases hu'
 | p :: ps,r :: rows,.cons e tl,f=>fun u hu'=>by
  rcases List.mem_cons.mp hu' with rfl | hu'
  ·have e1:vM H xs (.ref p)=eqT r xs:=by unfold vM;simp only [e]
   rw [e1]
   exact cM I (.of e) (.of ht) (f r zG0) fx hu
  ·exact uM I ht fx hu tl (fun r' hr=>f r' (zGK _ hr)) u hu'
def aB (neg:Bool):R2:=fun x y H Q=>∃ p t xs rows,y=.ref p/\x=.ref t/\Rows H p rows/\H t=some (.tup xs)/\xs.all xL=true/\(∀ r ∈ rows,r.all xL=true)/\Q (.bl (if neg then !rows.any (fun r=>eqT r xs) else rows.any fun r=>eqT r xs)) H
theorem u8 {A:Around} (h:A.units + 1 < cLine):A.in1.units < cLine:=by
 have e:A.in1.units=A.units + 1:=rfl
 omega
theorem oW (hu:X.A.units + 1 < cLine):OpR X (compareOp .In) (aB false):=by
 intro pins s σ H x y v u Q I rx ry h
 obtain ⟨p,t,xs,rows,rfl,rfl,⟨ps,hp,hr⟩,ht,fx,fr,q⟩:=h
 cases ry;cases rx
 obtain ⟨its,r,pl,hz⟩:=I.list (.of hp)
 have e:=rT r
 subst e
 refine SeqAt.in_listAt (vM H xs) pl.isList (fun w hw=>uM I ht fx (u8 hu) hr fr w (by simpa using hw)) ⟨.bl _,H,I,rfl,?_⟩
 rw [show (ps.map Value.ref).toArray.any (vM H xs)=(ps.map Value.ref).any (vM H xs) by simp,sZ hr]
 exact q
theorem pL (hu:X.A.units + 1 < cLine):OpR X (compareOp .NotIn) (aB true):=by
 intro pins s σ H x y v u Q I rx ry h
 obtain ⟨p,t,xs,rows,rfl,rfl,⟨ps,hp,hr⟩,ht,fx,fr,q⟩:=h
 cases ry;cases rx
 obtain ⟨its,r,pl,hz⟩:=I.list (.of hp)
 have e:=rT r
 subst e
 refine SeqAt.notIn_listAt (vM H xs) pl.isList (fun w hw=>uM I ht fx (u8 hu) hr fr w (by simpa using hw)) ⟨.bl _,H,I,rfl,?_⟩
 rw [show (ps.map Value.ref).toArray.any (vM H xs)=(ps.map Value.ref).any (vM H xs) by simp,sZ hr]
 exact q
theorem u6 {α β:Type} (f:α->β):∀ (l:List α) (j:Nat),(l.map f).eraseIdx j=(l.eraseIdx j).map f
 | [],_=>rfl
 | _ :: _,0=>rfl
 | x :: l,j + 1=>by simp [u6 f l j]
theorem rB:∀ ps:List Addr,yD (ps.map V.ref) (ps.map Value.ref)
 | []=>.nil
 | _ :: ps=>.cons rfl (rB ps)
open MeetsSeq in
open AutoSeq1 (wpAny_loadPart') in
theorem iZ (l:Addr) (items:Array Value) (n:Nat) (x:Value) (e:Value->Bool) (j:Nat) (hj:j < items.size) (hit:e items[j]=true) (hs1:items.size <= sizeLine) (k:Nat) :
  ∀ i:Nat,j - i=k->i <= j->(∀ m (hm:m < items.size),i <= m->m < j->e items[m]=false)->Meets (Builtin.«list.remove.loop» ⟨[.ref l,x,rawInt i],[]⟩)
   (fun A R s=>s.heap.get? l=some { cls:=.type "list",dict:=none,data:=.seq items n,slots:=#[] }/\(∀ y,y ∈ items->SeqAt.EqAt A.in1 s y x (e y)) /\
    R (.ok (.ret .none)) { s with heap:=s.heap.update l (Obj.mapSeq fun xs=>xs.eraseIdxIfInBounds j) }):=by
 induction k with
 | zero=>
  intro i hk hij hno prog w A R s h
  obtain ⟨hp,g,d,tk,os⟩:=s
  obtain ⟨hl,he,h⟩:=h
  obtain rfl:i=j:=by omega
  wp_walk using wpAny_loadPart' hl
  have at_i:items[((i:Nat):Int).toNat]?=some items[i]:=by simp [hj]
  rw [at_i]
  refine wpAny_bind (he _ (Array.getElem_mem hj) prog w _ _ ?_)
  rw [hit]
  have fits:(items.eraseIdxIfInBounds i).size <= sizeLine + 1:=zGI (size_erased items i) (Nat.le_succ_of_le hs1)
  wp_walk using (wpAny_updateSeq hl rfl (hz:=hs1) (_hz':=fits)),wpAny_loadPart' hl
  simpa using h
 | succ k ih=>
  intro i hk hij hno prog w A R s h
  obtain ⟨hp,g,d,tk,os⟩:=s
  obtain ⟨hl,he,h⟩:=h
  have less:i < items.size:=by omega
  wp_walk using wpAny_loadPart' hl
  have at_i:items[((i:Nat):Int).toNat]?=some items[i]:=by simp [less]
  have one:((i:Int) + 1)=((i + 1:Nat):Int):=by push_cast;rfl
  rw [at_i]
  refine wpAny_bind (he _ (Array.getElem_mem less) prog w _ _ ?_)
  rw [hno i less (zGG _) (by omega)]
  wp_walk
  rw [one]
  refine ⟨plainId_quiet plain_remove_loop _,codeAny_builtin entry_remove_loop ?_⟩
  rw [Around.under_plainId plain_remove_loop _]
  exact ih (i + 1) (by omega) (by omega) (fun m hm h1 h2=>hno m hm (by omega) h2) prog w A R _ ⟨hl,he,h⟩
open MeetsSeq in
open AutoSeq1 (wpAny_loadPart') in
theorem b9 (l:Addr) (items:Array Value) (n:Nat) (x:Value) (e:Value->Bool) (j:Nat) (hj:j < items.size) (hit:e items[j]=true) (hno:∀ m (hm:m < items.size),m < j->e items[m]=false) (hs1:items.size <= sizeLine) :
  Meets (Builtin.«list.remove» ⟨[.ref l,x],[]⟩)
   (fun A R s=>s.heap.get? l=some { cls:=.type "list",dict:=none,data:=.seq items n,slots:=#[] }/\(∀ y,y ∈ items->SeqAt.EqAt A.in1 s y x (e y)) /\
    R (.ok (.ret .none)) { s with heap:=s.heap.update l (Obj.mapSeq fun xs=>xs.eraseIdxIfInBounds j) }):=by
 intro prog w A R s h
 obtain ⟨hp,g,d,tk,os⟩:=s
 obtain ⟨hl,he,h⟩:=h
 wp_walk using wpAny_loadPart' hl
 refine ⟨plainId_quiet plain_remove_loop _,codeAny_builtin entry_remove_loop ?_⟩
 rw [Around.under_plainId plain_remove_loop _]
 exact iZ l items n x e j hj hit hs1 _ 0 rfl (zGH _) (fun m hm _ h2=>hno m hm h2) prog w A R _ ⟨hl,he,h⟩
def zE1:V->List V->Hp->VK->Prop:=fun x vs H Q=>∃ l t xs rows j ps,x=.ref l/\vs=[.ref t]/\H l=some (.lst (ps.map V.ref))/\Paired (fun q r=>H q=some (.tup r)) ps rows/\H t=some (.tup xs)/\xs.all xL=true/\(∀ r ∈ rows,r.all xL=true) /\
 (∃ r,rows[j]?=some r/\eqT r xs=true)/\(∀ m r,m < j->rows[m]?=some r->eqT r xs=false)/\Q .non (upd H l (.lst ((ps.eraseIdx j).map V.ref)))
theorem qK (hu:X.A.units + 1 < cLine):MtR X "list.remove" zE1:=by
 intro pins s σ H x vs v us Q I rx rv h
 obtain ⟨l,t,xs,rows,j,ps,rfl,rfl,hH,hp,ht,fx,fr,⟨r,hr,hit⟩,hno,q⟩:=h
 cases rx
 obtain ⟨u,rfl,ru⟩:=rv.one
 cases ru
 obtain ⟨z,its,n,rr,hl,e⟩:=I.lstM hH
 have ei:=rT rr
 subst ei
 have lps:=zP hp
 have hj:j < ps.length:=by have:=(zF9.mp hr).1;omega
 have eqj:∀ (m:Nat) (hm:m < (ps.map Value.ref).toArray.size),∃ r',rows[m]?=some r'/\vM H xs (ps.map Value.ref).toArray[m]=eqT r' xs:=fun m hm=>by
  have hm':m < ps.length:=by simpa using hm
  obtain ⟨r',e1,e2⟩:=x4 hp m ps[m] (zF8 hm')
  refine ⟨r',e1,?_⟩
  have e3:(ps.map Value.ref).toArray[m]=Value.ref ps[m]:=by simp
  rw [e3];unfold vM;simp only [e2]
 have hz:(ps.map Value.ref).toArray.size <= sizeLine:=by rw [zGF,zF7];rw [zF7] at z;exact z
 refine call_meets F.slot_list_remove ⟨_,e,rfl⟩ F.entry_list_remove (F.args_list_remove_2 _ _) (b9 l (ps.map Value.ref).toArray n (.ref t) (vM H xs) j (by simpa using hj) ?_ ?_ hz) ⟨e,?_,?_⟩
 ·obtain ⟨r',e1,e2⟩:=eqj j (by simpa using hj)
  rw [hr] at e1;cases e1
  rw [e2];exact hit
 ·intro m hm hlt
  obtain ⟨r',e1,e2⟩:=eqj m hm
  rw [e2];exact hno m r' hlt e1
 ·intro y hy
  exact uM I ht fx (u8 hu) hp fr y (by simpa using hy)
 ·refine ⟨.non,_,I.lset (its':=(ps.eraseIdx j).map Value.ref) (ys:=(ps.eraseIdx j).map V.ref) hH e ?_ ?_ ?_,rfl,q⟩
  ·simp [Array.eraseIdxIfInBounds,hj,u6]
  ·exact rB _
  ·rw [zF7] at z ⊢
   exact zGI (uA ps j) z
def zE2 (neg:Bool):R2:=fun x y H Q=>∃ a b xs,x=.ref a/\y=.ref b/\H a=some (.lst xs)/\H b=some (.lst [])/\a ≠ b/\Q (.bl (if neg then !xs.isEmpty else xs.isEmpty)) H
theorem zCU (hu:X.A.units < cLine):OpR X (compareOp .Eq) (zE2 false):=by
 intro pins s σ H x y v u Q I rx ry h
 obtain ⟨a,b,xs,rfl,rfl,ha,hb,hne,q⟩:=h
 cases rx;cases ry
 obtain ⟨i1,r1,p1,_⟩:=I.list (.of ha)
 obtain ⟨i2,r2,p2,_⟩:=I.list (.of hb)
 cases r2
 cases xs with
 | nil=>
  cases r1
  exact SeqAt.eq_listAt (e:=fun _=>true) p1.isList p2.isList rfl hu (fun j h1=>by simp at h1) ⟨.bl _,H,I,rfl,q⟩
 | cons x xs=>
  have l1:=r1.length
  refine SeqAt.eq_list_lengthsAt p1.isList p2.isList ?_ hu ⟨.bl false,H,I,rfl,q⟩
  rw [zGF,zGF,<- l1]
  rfl
theorem fF:∀ {Ts:List String} {us:List Value},yD (Ts.map V.ty) us->us=Ts.map Value.type
 | [],_,.nil=>rfl
 | _ :: Ts,_,.cons r t=>by cases r;rw [List.map_cons,fF t]
theorem nM:wW X (.builtin "isinstance") (fun xs H Q=>∃ (x:V) (T:String) (p:Addr) (Ts:List String) (b:Bool),xs=[x,.ref p]/\yY X.K H x T/\H p=some (.tup (Ts.map V.ty))/\PySem.W.kitAny X.K (.type T) (Ts.map Value.type)=some b/\Q (.bl b) H):=by
 intro pins s σ H xs us Q I r h
 obtain ⟨x,T,p,Ts,b,rfl,pt,hp,e,q⟩:=h
 obtain ⟨u,v,rfl,ru,rv⟩:=r.two
 cases rv
 obtain ⟨its,rt,it,_⟩:=I.tuple (.of hp)
 have ei:=fF rt
 subst ei
 obtain ⟨⟨cls,dd,data,sl⟩,ho,hc,n,hd⟩:=id it
 simp only at hc hd
 subst hc hd
 have fin:∀ tk,EP X pins σ Q (.bool b) { s with toks:=tk }:=fun tk=>⟨.bl b,H,I.tok tk,rfl,q⟩
 cases pt with
 | non=>cases (show u=Value.none from ru);exact PySem.W.kia_tup PySem.W.kitx_none I.kIn True.intro ho e (fun z=>nomatch z) fin
 | bl y=>cases (show u=Value.bool y from ru);exact PySem.W.kia_tup PySem.W.kitx_bool I.kIn True.intro ho e (fun z=>nomatch z) fin
 | int i=>obtain ⟨t,q'⟩:=(show ∃ t,u=Value.int i t from ru);cases q';exact PySem.W.kia_tup PySem.W.kitx_int I.kIn True.intro ho e (fun z=>nomatch z) fin
 | str y=>obtain ⟨t,q'⟩:=(show ∃ t,u=Value.str y t from ru);cases q';exact PySem.W.kia_tup PySem.W.kitx_str I.kIn True.intro ho e (fun z=>nomatch z) fin
 | @lst a xs ea=>
  cases (show u=Value.ref a from ru)
  obtain ⟨_,_,n',_,h1⟩:=(show xF X.prog X.w H s.heap a (.lst xs) from I.hok a _ ea)
  exact PySem.W.kia_tup PySem.W.kitx_list I.kIn ⟨_,h1,rfl⟩ ho e (fun z=>nomatch z) fin
 | @tup a xs ea=>
  cases (show u=Value.ref a from ru)
  obtain ⟨_,_,_,p'⟩:=(show xF X.prog X.w H s.heap a (.tup xs) from I.hok a _ ea)
  obtain ⟨o,h1,h2,_⟩:=p'
  exact PySem.W.kia_tup PySem.W.kitx_tuple I.kIn ⟨o,h1,h2⟩ ho e (fun z=>nomatch z) fin
 | @dK a kvs ea=>
  cases (show u=Value.ref a from ru)
  obtain ⟨_,_,vs,_,p'⟩:=(show xF X.prog X.w H s.heap a (.dK kvs) from I.hok a _ ea)
  obtain ⟨o,es,ep,h1,h2,_⟩:=p'
  exact PySem.W.kia_tup PySem.W.kitx_dict I.kIn ⟨o,h1,h2.1⟩ ho e (fun z=>nomatch z) fin
end
structure y3 (K:PySem.W.Frag) (C:Addr) (m qual:Str) (st:Stmt) (ps:List Str):Prop where
 ex:∃ (f:Addr) (fd:FuncData),Fun K m qual st f fd/\bG K C m f/\vT K fd ps []
structure yV (P:Program) (w:World) (K:PySem.W.Frag) (mg:Str->Option Value) (base:Heap) (CX:CXT) (k:Nat) (C:Addr) (m:Str) (ps:List Str) (sp:Sp):Prop where
 ex:∃ (f:Addr) (fd:FuncData),uW P w K mg base CX k f fd ps sp/\bG K C m f/\vT K fd ps []
section
variable {P:Program} {w:World} {K:PySem.W.Frag} {mg:Str->Option Value} {base:Heap}
theorem y3.ok {C:Addr} {m qual:Str} {st:Stmt} {N ps:List Str} {k:Nat} {sp:Sp} (G:y3 K C m qual st ps) (S:zN N ps (zG st)) (len:∀ vs H Q E,sp vs H Q E->vs.length=ps.length)
  (hbody:∀ (f:Addr) (cdv:Value) (A:Around) (outer:List Env) (s:Shared) (H:Hp) (vs:List V) (Q:VK) (E:XK),z7 k (A.deeper (envOfC qual (zG st) s.heap.objs.size f cdv))->sp vs H Q E ->
   ∃ t,PSs (lF CX0 P w K mg base N qual (zG st) f cdv A outer s H E).nox (xM st) t/\t { nx:=fun _ H'=>Q .non H',rt:=Q } (start N vs) H):yV P w K mg base CX0 (k + 1) C m ps sp:=by
 obtain ⟨f,fd,F,hm,hb⟩:=G.ex
 exact ⟨f,fd,F.ok S len fun cdv A outer s H vs Q E hr h=>hbody f cdv A outer s H vs Q E hr h,hm,hb⟩
theorem aY {C:Addr} {x qual:Str} {st:Stmt} {f:Addr} {oc:Value} {od an:Option Addr} {osl:Array (Option Value)} {kV doc pm cdv ct:Value} {ps:List Str}
  (a:PySem.W.findIn K (.ref C) x=some (some (.ref f))) (i:PySem.W.isFn K (.ref f)=true)
  (l:K.lookup f=some ⟨oc,od,.func (PySem.W.fnOf x qual (x0 st) (xM st) (zG st) .none kV doc pm an cdv ct),osl⟩) (c:PySem.W.codeIn K cdv qual=true) (k:PySem.W.keepIn K (.ref f)=true)
  (hb:∀ (kV doc pm:Value) (an:Option Addr) (cdv ct:Value) (us:List Value),us.length=ps.length->bindArgs (PySem.W.fnOf x qual (x0 st) (xM st) (zG st) .none kV doc pm an cdv ct) ⟨us,[]⟩=pure (ps.zip us)):y3 K C x qual st ps:=
 ⟨f,_,tN l c k,⟨a,i,k⟩,(tN l c k).binds hb⟩
end
section
variable {X:Cx} {k:Nat} {C:Addr} {ps:List Str} {sp:Sp} {m:Str} {apos pos:Pos} {o e:Expr} {es:List Expr} {ta:TE} {t:TA}
theorem x3 {pl:Sem Bool} (M:yV X.prog X.w X.K X.mg X.base CX0 k C m ps sp) (c:Cls X.K C) (hr:z7 k X.A) (ho:PE X o ta) (ha:PA X (e :: es) t)
  (hst:starEach (e :: es) X.env=(false,eval e X.env) :: starEach es X.env:=by rfl) (hpl:(backTo pos (starEach es X.env)).any (·.1)=false:=by rfl)
  (ht:eval (.Call (.Attribute o m apos) (e :: es) [] pos) X.env=(do
   let ov <- eval o X.env
   standAt apos.atName
   let (f,first) <- holding [ov] (getMethod ov m pl)
   callWith pos f first (backTo pos (starEach (e :: es) X.env)) (backToKw pos (keywordEach [] X.env))):=by rfl) :
  PE X (.Call (.Attribute o m apos) (e :: es) [] pos) (jM C m sp [] E0 ta t):=
 let ⟨_,_,F,hm,hb⟩:=M.ex
 aH ho c hm F hr hb .nil iB ha hst hpl ht
theorem xJ {pl:Sem Bool} (M:yV X.prog X.w X.K X.mg X.base CX0 k C m ps sp) (c:Cls X.K C) (hr:z7 k X.A) (ho:PE X o ta)
  (ht:eval (.Call (.Attribute o m apos) [] [] pos) X.env=(do
   let ov <- eval o X.env
   standAt apos.atName
   let (f,first) <- holding [ov] (getMethod ov m pl)
   callWith pos f first (backTo pos (starEach [] X.env)) (backToKw pos (keywordEach [] X.env))):=by rfl) :
  PE X (.Call (.Attribute o m apos) [] [] pos) (jM C m sp [] E0 ta nX):=
 let ⟨_,_,F,hm,hb⟩:=M.ex
 eY ho c hm F hr hb .nil iB ht
end
end L2
namespace L2
open PySem PySem.Spec PyProof.Rows
section
variable {X:Cx}
theorem zCS (hu:X.A.units < cLine):OpR X (compareOp .NotEq) (zE2 true):=by
 intro pins s σ H x y v u Q I rx ry h
 obtain ⟨a,b,xs,rfl,rfl,ha,hb,hne,q⟩:=h
 cases rx;cases ry
 obtain ⟨i1,r1,p1,_⟩:=I.list (.of ha)
 obtain ⟨i2,r2,p2,_⟩:=I.list (.of hb)
 cases r2
 cases xs with
 | nil=>
  cases r1
  exact SeqAt.RcNeAt.lists (e:=fun _=>true) p1.isList p2.isList rfl hu (fun j h1=>by simp at h1) _ _ _ _ ⟨.bl _,H,I,rfl,q⟩
 | cons x xs=>
  have l1:=r1.length
  refine SeqAt.RcNeAt.lists_lengths p1.isList p2.isList ?_ hu _ _ _ _ ⟨.bl true,H,I,rfl,q⟩
  rw [zGF,zGF,<- l1]
  rfl
end
structure lQ (P:Program) (w:World) (K:PySem.W.Frag) (mg:Str->Option Value) (base:Heap) (CX:CXT) (k:Nat) (C:Addr) (x:Str) (ps:List Str) (sp:Sp):Prop where
 ex:∃ (f:Addr) (fd:FuncData),uW P w K mg base CX k f fd ps sp/\Mk K C f/\mg x=some (.ref C)/\vT K fd ps []
section
variable {X:Cx} {k:Nat} {C:Addr} {ps:List Str} {sp:Sp} {x:Str} {p pos:Pos} {e:Expr} {es:List Expr} {t:TA}
theorem zBD (M:lQ X.prog X.w X.K X.mg X.base CX0 k C x ps sp) (hr:z7 (k + 1) X.A) (ha:PA X (e :: es) t) (hg:Gl X x:=by rfl)
  (hdb:(x == ("__debug__" : Str))=false:=by decide) (he:starEach (e :: es) X.env=(false,eval e X.env) :: starEach es X.env:=by rfl) (hpl:(backTo pos (starEach es X.env)).any (·.1)=false:=by rfl) :
  PE X (.Call (.Name x p) (e :: es) [] pos) (zA1 C sp [] E0 t):=
 let ⟨_,_,F,M',hm,hb⟩:=M.ex
 aI M' F hr hg hm hb .nil iB ha hdb he hpl
end
end L2
namespace L2
open PySem PySem.Spec PyProof.Rows
section
variable {prog:Program} {w:World} {A:Around} {E:Value->Shared->Prop} {s:Shared}
end
section
variable {X:Cx} {pos:Pos}
end
theorem nD {K:PySem.W.Frag} {α:Type} {a acc:Addr} {xs:List Str} {ix:List Nat} {g:TG} {tt:TT} {te:TE} {σ:St} {H1:Hp} {Q:VK} {ds:List α} (f mk:α->List V) (b:α->Bool) (own:α->Addr->List (Option V)) (rest:List (Option V)) (hn:ds.length <= 2000) (ha:H1 acc=none) (hS:Rows H1 a (ds.map f))
  (hσ:∃ vs:List (Option V),stC xs ix σ=vs ++ rest/\vs.length=xs.length) (hown:∀ d q,(own d q).length=xs.length)
  (hg:∀ (d:α) (q:Addr) (vs:List (Option V)) (H:Hp) (R:St->Hp->Prop),d ∈ ds->vs.length=xs.length->H q=some (.tup (f d))->R (own d q ++ rest) H->g (.ref q) (vs ++ rest) H R)
  (htt:∀ (d:α) (q:Addr) (H:Hp) (R:Bool->Hp->Prop),d ∈ ds->zC [acc] H1 H->H q=some (.tup (f d))->(∀ H',zC [] H H'->R (b d) H')->tt (own d q ++ rest) H R)
  (hte:∀ (d:α) (q:Addr) (H:Hp) (R:VK),d ∈ ds->H q=some (.tup (f d))->(∀ t H',zC [] H H'->H' t=some (.tup (mk d))->R (.ref t) H')->te (own d q ++ rest) H R)
  (q:∀ H',Rows H' acc ((ds.filter b).map mk)->zC [] H1 H'->Q (.ref acc) H'):LCW (Itl K a) xs ix g tt te σ H1 acc Q:=by
 obtain ⟨ps0,e0,r0⟩:=hS
 have aa:a ≠ acc:=zH e0 ha
 have l0:=zP r0
 rw [zF7] at l0
 obtain ⟨vs0,hσ,hv0⟩:=hσ
 refine iI (K:=K) (a:=a) (its:=ps0.map V.ref) (by rw [zF7,sizeLine_eq];omega)
  (fun i ys τ H2=>∃ (ps:List Addr) (vs:List (Option V)),τ=vs ++ rest/\vs.length=xs.length/\ys=ps.map V.ref/\Paired (fun q r=>H2 q=some (.tup r)) ps (((ds.take i).filter b).map mk)/\zC [acc] H1 H2/\H2 acc=some (.lst ys)) ?_ ?_ ?_ ?_
 ·exact ⟨[],vs0,hσ,hv0,rfl,.nil,zC.at (by simp),zB⟩
 ·rintro i ys τ H2 ⟨ps,vs,rfl,hv,rfl,hp,kp,h2⟩
  refine ⟨h2,?_,.of (kp _ _ (by simp [aa]) e0)⟩
  have:=zP hp
  rw [zF7] at this
  have h3:=zG5 b (ds.take i)
  rw [zF7,this]
  rw [zGQ] at h3
  omega
 ·rintro i ys τ H2 x hx ⟨ps,vs,rfl,hv,rfl,hp,kp,h2⟩
  rw [zGD] at hx
  cases ez:ps0[i]? with
  | none=>rw [ez] at hx;cases hx
  | some qa=>
  rw [ez] at hx
  have ey:V.ref qa=x:=zGE hx
  subst ey
  obtain ⟨r,er,hr⟩:=x4 r0 i qa ez
  rw [zGD] at er
  cases ed:ds[i]? with
  | none=>rw [ed] at er;cases er
  | some d=>
  rw [ed] at er
  have er':f d=r:=zGE er
  subst er'
  have nqa:qa ≠ acc:=zH hr ha
  have hq2:=kp _ _ (by simp [nqa]) hr
  have hm:=zGB ed
  have eT:ds.take (i + 1)=ds.take i ++ [d]:=by rw [List.take_succ,ed];rfl
  refine hg d qa vs H2 _ hm hv hq2 (htt d qa H2 _ hm kp hq2 fun H4 k4=>?_)
  cases hb:b d with
  | false=>
   rw [if_neg zGZ]
   refine ⟨ps,own d qa,rfl,hown d qa,rfl,?_,kp.trans (k4.mono (by simp)),k4 _ _ (by simp) h2⟩
   rw [eT,List.filter_append,List.filter_cons,hb]
   simpa using L2.Paired.mapP hp fun q r e=>k4 _ _ (by simp) e
  | true=>
   rw [if_pos rfl]
   refine hte d qa H4 _ hm (k4 _ _ (by simp) hq2) fun t H5 k45 h5t=>?_
   have k5:=k4.trans k45
   have h5:=k5 _ _ (by simp) h2
   have nt:acc ≠ t:=by intro z;rw [<- z,h5] at h5t;cases h5t
   refine ⟨h5,ps ++ [t],own d qa,rfl,hown d qa,by simp,?_,(kp.trans (k5.mono (by simp))).trans (zC.at (by simp)),zB⟩
   rw [eT,List.filter_append,List.filter_cons,hb]
   simp only [if_true,List.filter_nil,zGJ,List.map_cons,List.map_nil]
   refine xS ?_ (by rw [zI (Ne.symm nt)];exact h5t)
   exact L2.Paired.mapP hp fun q r e=>by
    have e5:=k5 _ _ (by simp) e
    have nq:q ≠ acc:=xO e5 h5 (by intro z;cases z)
    rw [zI nq];exact e5
 ·rintro ys τ H2 ⟨ps,vs,rfl,hv,rfl,hp,kp,h2⟩
  rw [zF7,l0,zG7] at hp
  exact q H2 ⟨ps,h2,hp⟩ (kp.drop ha)
theorem zCN {X:Cx} {N:List Str} {sc:Scope} {x y:Str} {ix:List Nat} {scope:Scope} {elt iter:Expr} {ifs:List Expr} {px py tp pos:Pos} {tk:Nat} {wi:TI} {tt:TT} {te:TE}
  (hS:tH N sc [x,y] ix scope) (hi:PI X (.Tuple [.Name x px,.Name y py] tk tp) iter wi)
  (ht:∀ C fp s H,PTs (cxC X [x,y] ix scope C fp s H) ifs tt) (he:∀ C fp s H,PE (cxC X [x,y] ix scope C fp s H) elt te)
  (hN:X.N=N:=by rfl) (hsc:X.env.scope=sc:=by rfl) (hc:X.calm=true:=by rfl)
  (hs:∀ x,foldedSetIterable iter X.env x=pure x:=by intro _;rfl) :
  PE X (.ListComp elt [⟨.Tuple [.Name x px,.Name y py] tk tp,iter,ifs,0⟩] scope pos) (tLC [x,y] ix wi (gO X.K 2 (uU (xZ 0) (uU (xZ 1) gP))) tt te):=by
 have S:=hS.at (X:=X) hN hsc
 have hl:∀ C fp s H,(cxC X [x,y] ix scope C fp s H).env.scope.names.lookup x=some .local:=fun _ _ _ _=>lookup_relabel_local (S.own x (by simp))
 have hl2:∀ C fp s H,(cxC X [x,y] ix scope C fp s H).env.scope.names.lookup y=some .local:=fun _ _ _ _=>lookup_relabel_local (S.own y (by simp))
 exact zBE S hc hi (fun C fp s H=>uI (X:=cxC X [x,y] ix scope C fp s H) hc (yS (yE S.nd rfl (Or.inl (hl C fp s H)) (.inr (hl C fp s H))) (yS (yE S.nd rfl (Or.inl (hl2 C fp s H)) (.inr (hl2 C fp s H))) vF))) ht he hs
theorem iF {i:Nat} {v:V} {σ:St} {H:Hp} {Q:St->Hp->Prop} (h:Q (σ.set i (some v)) H):xZ i v σ H Q:=h
theorem zC.under {S:List Addr} {H0 H1 H2:Hp} (k0:zC [] H0 H1) (k:zC S H1 H2) (hS:∀ b ∈ S,H0 b=Option.none):zC [] H0 H2:=fun b o _ h=>k b o (fun hb=>by rw [hS b hb] at h;cases h) (k0 b o (by simp) h)
theorem uK {α β:Type} {F:α->β->Prop}:∀ {a c:List α} {b d:List β},Paired F a b->Paired F c d->Paired F (a ++ c) (b ++ d)
 | _,_,_,_,.nil,h=>h
 | _,_,_,_,.cons r t,h=>.cons r (uK t h)
theorem cX (ns:List Int) (lo hi:Option Int):∃ ms:List Int,vW (ns.map V.int) lo hi=ms.map V.int/\ms.length <= ns.length:=by
 unfold vW
 refine ⟨(ns.drop (HT.sIx (ns.map V.int).length 0 lo)).take (HT.sIx (ns.map V.int).length (ns.map V.int).length hi - HT.sIx (ns.map V.int).length 0 lo),by rw [List.map_take,List.map_drop],?_⟩
 rw [zGQ,List.length_drop]
 omega
theorem tO {α:Type} [DecidableEq α]:∀ (l:List α) (x:α),x ∈ l->∃ j:Nat,l[j]?=some x/\∀ m:Nat,m < j->l[m]? ≠ some x
 | [],x,h=>by cases h
 | y :: l,x,h=>by
  by_cases e:y=x
  ·exact ⟨0,by rw [e];rfl,fun m hm=>absurd hm (Nat.not_lt_zero m)⟩
  ·obtain ⟨j,h1,h2⟩:=tO l x ((List.mem_cons.mp h).elim (fun z=>absurd z.symm e) id)
   refine ⟨j + 1,by simpa using h1,fun m hm=>?_⟩
   cases m with
   | zero=>intro z;exact e (zGE z)
   | succ m=>exact fun z=>h2 m (by omega) (by simpa using z)
end L2
namespace L2
open PySem PySem.Spec PyProof.Rows
section
variable {X:Cx} {es es1:List Expr} {t t1:TA}
end
end L2
namespace L2
open PySem PySem.Spec PyProof.Rows
section
variable {X:Cx}
end
end L2
namespace L2
open PySem PySem.Spec PyProof.Rows PySem.Builtin.Str
end L2
namespace PySem.SeqAt
open AutoSeq1 (wpAny_loadPart')
open MeetsSeq
end PySem.SeqAt
namespace L2
open PySem PySem.Spec PyProof.Rows
section
variable {X:Cx}
end
end L2
namespace HT
open PySem PySem.Spec PyProof.Rows L2
section
variable {prog:Program} {w:World} {A:Around} {E:Value->Shared->Prop} {s:Shared}
theorem getItem_tuple_self {t sl:Addr} {items:Array Value} {vl vu:Value} {lo hi:Option Int} {Q:Value->Shared->Prop} (ht:IsTup s.heap t items)
  (hs:s.heap.IsSliceOf sl vl vu .none) (pl:IsPart vl lo) (pu:IsPart vu hi) (h1:sIx items.size 0 lo=0) (h2:sIx items.size items.size hi=items.size) (h:Q (.ref t) s):wpAny (model prog w) A (getItem (.ref t) (.ref sl)) Q E s:=by
 obtain ⟨os,hos,hcs,hds⟩:=id hs
 have hTs:s.TypeIs (.ref sl) "slice":=⟨os,hos,hcs⟩
 unfold getItem
 try with_reducible refine wpAny_holding ?_
 first | refine wpAny_bind (wpAny_pure ?_) | skip
 refine wpAny_bind (wpAny_sequenceKey ht.typeIs (by decide) (wpAny_bind ?_))
 refine wpAny_callSpecial?_slot (name:=Str.ofString "__getitem__") ht.typeIs PyProof.Rows.slot_tuple_getitem (wpAny_call_entry PyProof.Rows.slot_tuple_getitem ht.typeIs entry_tuple_getitem ?_ (args_tuple_getitem _ _))
 change wpAny _ _ (Builtin.Tuple.tupleItemsOf (.ref t) >>= _) _ _ s
 refine wpAny_bind (tupleItemsOf_ ht (wpAny_bind (wpAny_typeOf hTs ?_)))
 rw [if_pos (by decide)]
 refine wpAny_bind (sliceApplied_gen hs pl pu ?_)
 have yes:(((sIx items.size 0 lo:Nat):Int) == 0 && (1:Int) == 1 && (sIx items.size items.size hi - sIx items.size 0 lo) == items.size)=true:=by
  rw [h1,h2];simp
 show wpAny _ _ (if (((sIx items.size 0 lo:Nat):Int) == 0 && (1:Int) == 1 && (sIx items.size items.size hi - sIx items.size 0 lo) == items.size)=true then _ else _) _ _ s
 rw [if_pos yes]
 unfold Builtin.Tuple.tupleIsExact
 refine wpAny_bind ?_
 refine wpAny_bind (wpAny_typeOf ht.typeIs ?_)
 refine wpAny_pure ?_
 rw [if_pos (by decide)]
 exact wpAny_bind (wpAny_rule (wpAny_pure ⟨_,rfl,wpAny_pure h⟩))
end
end HT
namespace L2
open PySem PySem.Spec PyProof.Rows
def eI (K:PySem.W.Frag):V->Option Int->Option Int->Hp->VK->Prop:=fun x lo hi H Q=>∃ a xs,x=.ref a/\SqT K H a xs /\
 ((HT.sIx xs.length 0 lo=0/\HT.sIx xs.length xs.length hi=xs.length/\Q (.ref a) H) \/ (¬ (HT.sIx xs.length 0 lo=0/\HT.sIx xs.length xs.length hi=xs.length)/\∀ p,H p=none->Q (.ref p) (upd H p (.tup (vW xs lo hi)))))
theorem rN {X:Cx}:SlR X (eI X.K):=by
 intro pins s σ H x v vl vu lo hi sl Q I rx hs pl pu h
 obtain ⟨a,xs,rfl,hx,h⟩:=h
 rcases h with ⟨h1,h2,q⟩ | ⟨hw,q⟩
 ·cases rx
  obtain ⟨its,r,ht,hz⟩:=I.tuple hx
  have hlen:its.toArray.size=xs.length:=by rw [zGF];exact r.length.symm
  exact ⟨"tuple",_,PyProof.Rows.slot_tuple_getitem.lookup,ht.typeIs,HT.getItem_tuple_self ht hs pl pu (by rw [hlen];exact h1) (by rw [hlen];exact h2) ⟨.ref a,H,I,rfl,q⟩⟩
 ·exact zB6 pins s σ H _ v vl vu lo hi sl Q I rx hs pl pu ⟨a,xs,rfl,hx,hw,q⟩
end L2
namespace L2
open PySem PySem.Spec PyProof.Rows
section
variable {X:Cx} {e:Expr} {te:TE} {pos p1 p2 p3:Pos} {j1:Nat}
end
end L2
namespace L2
open PySem PySem.Spec PyProof.Rows PySem.W
def evK {α:Type} (lt:Nat->Nat->Bool):KasT α->α
 | .ret a=>a
 | .ask i j k=>evK lt (k (lt i j))
theorem uZ {α β:Type} (lt:Nat->Nat->Bool) (f:α->KasT β) (t:KasT α):evK lt (t.bind f)=evK lt (f (evK lt t)):=by
 induction t with
 | ret a=>rfl
 | ask i j k ih=>exact ih (lt i j)
structure LtO (lt:Nat->Nat->Bool):Prop where
 asym:∀ i j,lt i j=true->lt j i=false
 trn:∀ i j k,lt j i=false->lt k j=false->lt k i=false
section
variable {lt:Nat->Nat->Bool}
abbrev gA (p:Array Nat) (i:Nat):Nat:=p.getD i 0
def leK (lt:Nat->Nat->Bool) (i j:Nat):Prop:=lt j i=false
def Up (lt:Nat->Nat->Bool) (p:Array Nat) (k:Nat):Prop:=∀ i j,i <= j->j < k->leK lt (gA p i) (gA p j)
def Dn (lt:Nat->Nat->Bool) (p:Array Nat) (k:Nat):Prop:=∀ i j,i <= j->j < k->leK lt (gA p j) (gA p i)
theorem xC (O:LtO lt) (i:Nat):leK lt i i:=by
 unfold leK
 cases e:lt i i with
 | false=>rfl
 | true=>exact absurd (O.asym i i e) (by rw [e];simp)
theorem xB (O:LtO lt) {i j k:Nat} (a:leK lt i j) (b:leK lt j k):leK lt i k:=O.trn i j k a b
theorem oZ (O:LtO lt) {i j:Nat} (h:lt i j=true):leK lt i j:=O.asym i j h
theorem qU {p:Array Nat} {i j:Nat} (hj:j <= p.size) (k:Nat):gA (kas_rev p i j) k=if i <= k/\k < j then gA p (i + j - 1 - k) else gA p k:=by
 unfold gA kas_rev
 rw [zG6,zG6,zG6,getElem?_mirror_all hj]
 split <;> rfl
theorem cG {p:Array Nat} {k l:Nat} (hk:k < p.size) (hl:l <= k) (x:Nat):gA (bubble p k (k - l)) x=if x=l then gA p k else if l < x/\x <= k then gA p (x - 1) else gA p x:=by
 unfold gA
 rw [zG6,zG6,zG6,zG6,getElem?_bubble hk (k - l) (by omega)]
 rw [show k - (k - l)=l by omega]
 repeat' split
 all_goals first | rfl | omega
theorem qD (p:Array Nat) (i j:Nat):(kas_rev p i j).size=p.size:=mirror_size _ _ _ _
theorem wL (p:Array Nat) (i j:Nat):(kas_rev p i j).Perm p:=mirror_perm _ _ _ _
theorem zBQ (O:LtO lt) (p:Array Nat):Up lt p 1:=fun i j h1 h2=>by
 have:i=j:=by omega
 rw [this];exact xC O _
theorem Up.more (O:LtO lt) {p:Array Nat} {n:Nat} (h:Up lt p n) (h1:1 <= n) (e:leK lt (gA p (n - 1)) (gA p n)):Up lt p (n + 1):=fun i j hij hj=>by
 by_cases hn:j < n
 ·exact h i j hij hn
 ·have ej:j=n:=by omega
  subst ej
  by_cases hi:i < j
  ·exact xB O (h i (j - 1) (by omega) (by omega)) e
  ·have:i=j:=by omega
   rw [this];exact xC O _
theorem Dn.more (O:LtO lt) {p:Array Nat} {n:Nat} (h:Dn lt p n) (h1:1 <= n) (e:leK lt (gA p n) (gA p (n - 1))):Dn lt p (n + 1):=fun i j hij hj=>by
 by_cases hn:j < n
 ·exact h i j hij hn
 ·have ej:j=n:=by omega
  subst ej
  by_cases hi:i < j
  ·exact xB O e (h i (j - 1) (by omega) (by omega))
  ·have:i=j:=by omega
   rw [this];exact xC O _
theorem bC (O:LtO lt) (p:Array Nat):∀ (f n:Nat),1 <= n->Up lt p n->n <= evK lt (kas_asc p f n)/\evK lt (kas_asc p f n) <= n + f/\Up lt p (evK lt (kas_asc p f n)) /\
  (evK lt (kas_asc p f n) < n + f->lt (gA p (evK lt (kas_asc p f n))) (gA p (evK lt (kas_asc p f n) - 1))=true):=by
 intro f
 induction f with
 | zero=>exact fun n h1 h=>⟨zGG _,zGG _,h,fun z=>absurd z (Nat.lt_irrefl _)⟩
 | succ f ih=>
  intro n h1 h
  have e:evK lt (kas_asc p (f + 1) n)=evK lt (if lt (gA p n) (gA p (n - 1))=true then .ret n else kas_asc p f (n + 1)):=rfl
  rw [e]
  cases c:lt (gA p n) (gA p (n - 1)) with
  | true=>
   rw [if_pos rfl]
   exact ⟨zGG _,Nat.le_add_right _ _,h,fun _=>c⟩
  | false=>
   rw [if_neg (by simp)]
   obtain ⟨a1,a2,a3,a4⟩:=ih (n + 1) (by omega) (h.more O h1 c)
   exact ⟨by omega,by omega,a3,fun z=>a4 (by omega)⟩
def EqS (lt:Nat->Nat->Bool) (p:Array Nat) (n q:Nat):Prop:=∀ i,n - (q + 1) <= i->i < n->leK lt (gA p i) (gA p (n - 1))/\leK lt (gA p (n - 1)) (gA p i)
theorem j9 (O:LtO lt) {p:Array Nat} {n q:Nat} (hn:n <= p.size) (hq:q + 1 <= n) (h:EqS lt p n q) (x:Nat):leK lt (gA (kas_rev p (n - (q + 1)) n) x) (gA p x)/\leK lt (gA p x) (gA (kas_rev p (n - (q + 1)) n) x):=by
 rw [qU hn]
 split
 ·next hx=>
  obtain ⟨a1,a2⟩:=h x hx.1 hx.2
  obtain ⟨b1,b2⟩:=h (n - (q + 1) + n - 1 - x) (by omega) (by omega)
  exact ⟨xB O b1 a2,xB O a1 b2⟩
 ·exact ⟨xC O _,xC O _⟩
theorem cQ (O:LtO lt) {p:Array Nat} {n q k:Nat} (hn:n <= p.size) (hq:q + 1 <= n) (h:EqS lt p n q) (d:Dn lt p k):Dn lt (kas_rev p (n - (q + 1)) n) k:=fun i j hij hj=>
 xB O (j9 O hn hq h j).1 (xB O (d i j hij hj) (j9 O hn hq h i).2)
theorem zAL (O:LtO lt):∀ (f:Nat) (p:Array Nat) (n q:Nat),q + 1 <= n->n + f <= p.size->Dn lt p n->EqS lt p n q ->
  (evK lt (kas_desc f p n q)).1.Perm p/\n <= (evK lt (kas_desc f p n q)).2.1/\(evK lt (kas_desc f p n q)).2.1 <= n + f/\Dn lt (evK lt (kas_desc f p n q)).1 (evK lt (kas_desc f p n q)).2.1 /\
  (evK lt (kas_desc f p n q)).2.2 + 1 <= (evK lt (kas_desc f p n q)).2.1/\EqS lt (evK lt (kas_desc f p n q)).1 (evK lt (kas_desc f p n q)).2.1 (evK lt (kas_desc f p n q)).2.2:=by
 intro f
 induction f with
 | zero=>exact fun p n q h1 h2 h3 h4=>⟨.refl _,zGG _,zGG _,h3,h1,h4⟩
 | succ f ih=>
  intro p n q h1 h2 h3 h4
  have e:evK lt (kas_desc (f + 1) p n q)=evK lt (if lt (gA p n) (gA p (n - 1))=true then (if q > 0 then kas_desc f (kas_rev p (n - (q + 1)) n) (n + 1) 0 else kas_desc f p (n + 1) 0)
   else .ask (gA p (n - 1)) (gA p n) fun d=>if d=true then .ret (p,n,q) else kas_desc f p (n + 1) (q + 1)):=rfl
  rw [e]
  have one:∀ p:Array Nat,EqS lt p (n + 1) 0:=fun p i h1 h2=>by
   have:i=n + 1 - 1:=by omega
   rw [this];exact ⟨xC O _,xC O _⟩
  cases c:lt (gA p n) (gA p (n - 1)) with
  | true=>
   rw [if_pos rfl]
   have d1:=h3.more O (by omega) (oZ O c)
   by_cases hq:q > 0
   ·rw [if_pos hq]
    obtain ⟨a1,a2,a3,a4,a5,a6⟩:=ih (kas_rev p (n - (q + 1)) n) (n + 1) 0 (by omega) (by rw [qD];omega) (cQ O (by omega) h1 h4 d1) (one _)
    exact ⟨a1.trans (wL _ _ _),by omega,by omega,a4,a5,a6⟩
   ·rw [if_neg hq]
    obtain ⟨a1,a2,a3,a4,a5,a6⟩:=ih p (n + 1) 0 (by omega) (by omega) d1 (one _)
    exact ⟨a1,by omega,by omega,a4,a5,a6⟩
  | false=>
   rw [if_neg (by simp)]
   show (evK lt (if lt (gA p (n - 1)) (gA p n)=true then .ret (p,n,q) else kas_desc f p (n + 1) (q + 1))).1.Perm p/\_
   show _/\n <= (evK lt (if lt (gA p (n - 1)) (gA p n)=true then .ret (p,n,q) else kas_desc f p (n + 1) (q + 1))).2.1/\(evK lt (if lt (gA p (n - 1)) (gA p n)=true then .ret (p,n,q) else kas_desc f p (n + 1) (q + 1))).2.1 <= _/\Dn lt (evK lt (if lt (gA p (n - 1)) (gA p n)=true then .ret (p,n,q) else kas_desc f p (n + 1) (q + 1))).1 (evK lt (if lt (gA p (n - 1)) (gA p n)=true then .ret (p,n,q) else kas_desc f p (n + 1) (q + 1))).2.1/\(evK lt (if lt (gA p (n - 1)) (gA p n)=true then .ret (p,n,q) else kas_desc f p (n + 1) (q + 1))).2.2 + 1 <= (evK lt (if lt (gA p (n - 1)) (gA p n)=true then .ret (p,n,q) else kas_desc f p (n + 1) (q + 1))).2.1/\EqS lt (evK lt (if lt (gA p (n - 1)) (gA p n)=true then .ret (p,n,q) else kas_desc f p (n + 1) (q + 1))).1 (evK lt (if lt (gA p (n - 1)) (gA p n)=true then .ret (p,n,q) else kas_desc f p (n + 1) (q + 1))).2.1 (evK lt (if lt (gA p (n - 1)) (gA p n)=true then .ret (p,n,q) else kas_desc f p (n + 1) (q + 1))).2.2
   cases d:lt (gA p (n - 1)) (gA p n) with
   | true=>
    rw [if_pos rfl]
    exact ⟨.refl _,zGG _,Nat.le_add_right _ _,h3,h1,h4⟩
   | false=>
    rw [if_neg (by simp)]
    have es:EqS lt p (n + 1) (q + 1):=fun i g1 g2=>by
     rw [Nat.add_sub_cancel]
     by_cases hi:i=n
     ·rw [hi];exact ⟨xC O _,xC O _⟩
     ·obtain ⟨b1,b2⟩:=h4 i (by omega) (by omega)
      exact ⟨xB O b1 c,xB O d b2⟩
    obtain ⟨a1,a2,a3,a4,a5,a6⟩:=ih p (n + 1) (q + 1) (by omega) (by omega) (h3.more O (by omega) d) es
    exact ⟨a1,by omega,by omega,a4,a5,a6⟩
theorem fE {p:Array Nat} {n:Nat} (hn:n <= p.size) (d:Dn lt p n):Up lt (kas_rev p 0 n) n:=fun i j hij hj=>by
 rw [qU hn,qU hn,if_pos ⟨zGH _,by omega⟩,if_pos ⟨zGH _,hj⟩]
 exact d _ _ (by omega) (by omega)
theorem jK (O:LtO lt) {p:Array Nat} {n nrem:Nat} (h1:1 <= n) (hn:n <= nrem) (hz:nrem <= p.size) (d:Dn lt p n) :
  (evK lt (kas_tail3 n nrem p)).2.Perm p/\1 <= (evK lt (kas_tail3 n nrem p)).1/\(evK lt (kas_tail3 n nrem p)).1 <= nrem/\Up lt (evK lt (kas_tail3 n nrem p)).2 (evK lt (kas_tail3 n nrem p)).1:=by
 unfold kas_tail3
 rw [uZ]
 obtain ⟨a1,a2,a3,_⟩:=bC O (kas_rev p 0 n) (nrem - n) n h1 (fE (by omega) d)
 exact ⟨wL _ _ _,zGI h1 a1,zGI a2 (by omega),a3⟩
theorem rG (O:LtO lt) {p:Array Nat} {n nrem:Nat} (h1:1 <= n) (hn:n + 1 <= nrem) (hz:nrem <= p.size) (d:Dn lt p (n + 1)) :
  (evK lt (kas_descPart n nrem p)).2.Perm p/\1 <= (evK lt (kas_descPart n nrem p)).1/\(evK lt (kas_descPart n nrem p)).1 <= nrem/\Up lt (evK lt (kas_descPart n nrem p)).2 (evK lt (kas_descPart n nrem p)).1:=by
 unfold kas_descPart
 rw [uZ]
 obtain ⟨a1,a2,a3,a4,a5,a6⟩:=zAL O (nrem - (n + 1)) p (n + 1) 0 (by omega) (by omega) d (fun i g1 g2=>by
  have:i=n + 1 - 1:=by omega
  rw [this];exact ⟨xC O _,xC O _⟩)
 generalize evK lt (kas_desc (nrem - (n + 1)) p (n + 1) 0)=r at a1 a2 a3 a4 a5 a6 ⊢
 have hs:=a1.size_eq
 by_cases hq:r.2.2 > 0
 ·rw [if_pos hq]
  obtain ⟨b1,b2,b3,b4⟩:=jK O (p:=kas_rev r.1 (r.2.1 - (r.2.2 + 1)) r.2.1) (n:=r.2.1) (nrem:=nrem) (by omega) (by omega) (by rw [qD];omega) (cQ O (by omega) a5 a6 a4)
  exact ⟨(b1.trans (wL _ _ _)).trans a1,b2,b3,b4⟩
 ·rw [if_neg hq]
  obtain ⟨b1,b2,b3,b4⟩:=jK O (p:=r.1) (n:=r.2.1) (nrem:=nrem) (by omega) (by omega) (by omega) a4
  exact ⟨b1.trans a1,b2,b3,b4⟩
theorem cZ (O:LtO lt) {p:Array Nat} {nrem:Nat} (h1:1 <= nrem) (hz:nrem <= p.size) :
  (evK lt (kas_count nrem p)).2.Perm p/\1 <= (evK lt (kas_count nrem p)).1/\(evK lt (kas_count nrem p)).1 <= nrem/\Up lt (evK lt (kas_count nrem p)).2 (evK lt (kas_count nrem p)).1:=by
 unfold kas_count
 rw [uZ]
 obtain ⟨a1,a2,a3,a4⟩:=bC O p (nrem - 1) 1 (zGG _) (zBQ O p)
 generalize evK lt (kas_asc p (nrem - 1) 1)=m at a1 a2 a3 a4 ⊢
 by_cases hm:m=nrem
 ·rw [if_pos (by simpa using hm)]
  exact ⟨.refl _,a1,by show m <= nrem;omega,a3⟩
 ·rw [if_neg (by simpa using hm)]
  have c:=a4 (by omega)
  by_cases h2:m > 1
  ·rw [if_pos h2]
   have e:evK lt (KasT.ask (gA p 0) (gA p (m - 1)) fun c=>if c=true then .ret (m,p) else kas_descPart m nrem (kas_rev p 0 m))=evK lt (if lt (gA p 0) (gA p (m - 1))=true then .ret (m,p) else kas_descPart m nrem (kas_rev p 0 m)):=rfl
   rw [e]
   cases d:lt (gA p 0) (gA p (m - 1)) with
   | true=>rw [if_pos rfl];exact ⟨.refl _,a1,by show m <= nrem;omega,a3⟩
   | false=>
    rw [if_neg (by simp)]
    have all:∀ x y,x < m->y < m->leK lt (gA p x) (gA p y):=fun x y hx hy=>xB O (a3 x (m - 1) (by omega) (by omega)) (xB O d (a3 0 y (zGH _) hy))
    obtain ⟨b1,b2,b3,b4⟩:=rG O (p:=kas_rev p 0 m) (n:=m) (nrem:=nrem) a1 (by omega) (by rw [qD];omega) (by
     intro i j hij hj
     rw [qU (by omega),qU (by omega)]
     by_cases hjm:j < m
     ·rw [if_pos ⟨zGH j,hjm⟩,if_pos ⟨zGH i,by omega⟩]
      exact all _ _ (by omega) (by omega)
     ·rw [if_neg (fun z=>hjm z.2)]
      have ej:j=m:=by omega
      subst ej
      by_cases hi:i < j
      ·rw [if_pos ⟨zGH _,hi⟩]
       exact xB O (oZ O c) (all _ _ (by omega) (by omega))
      ·have:i=j:=by omega
       subst this
       rw [if_neg (fun z=>hi z.2)]
       exact xC O _)
    exact ⟨b1.trans (wL _ _ _),b2,b3,b4⟩
  ·rw [if_neg h2]
   have em:m=1:=by omega
   subst em
   refine rG O (zGG _) (by omega) hz fun i j hij hj=>?_
   by_cases hj0:j=0
   ·have:i=j:=by omega
    rw [this];exact xC O _
   ·have ej:j=1:=by omega
    by_cases hi:i=0
    ·rw [hi,ej];exact oZ O c
    ·have:i=j:=by omega
     rw [this];exact xC O _
theorem eV (O:LtO lt) {p:Array Nat} {k:Nat} (hs:Up lt p k):∀ (f l r:Nat),l <= r->r <= k->r - l <= f->(∀ i,i < l->leK lt (gA p i) (gA p k))->(∀ i,r <= i->i < k->leK lt (gA p k) (gA p i)) ->
  evK lt (kas_place p k f l r) <= k/\(∀ i,i < evK lt (kas_place p k f l r)->leK lt (gA p i) (gA p k))/\(∀ i,evK lt (kas_place p k f l r) <= i->i < k->leK lt (gA p k) (gA p i)):=by
 intro f
 induction f with
 | zero=>
  intro l r h1 h2 h3 h4 h5
  have e:l=r:=by omega
  subst e
  exact ⟨h2,h4,h5⟩
 | succ f ih=>
  intro l r h1 h2 h3 h4 h5
  have e:kas_place p k (f + 1) l r=if l >= r then .ret l else .ask (gA p k) (gA p ((l + r) / 2)) fun c=>if c=true then kas_place p k f l ((l + r) / 2) else kas_place p k f ((l + r) / 2 + 1) r:=rfl
  rw [e]
  by_cases hlr:l >= r
  ·rw [if_pos hlr]
   have e:l=r:=by omega
   subst e
   exact ⟨h2,h4,h5⟩
  ·rw [if_neg hlr]
   have e2:evK lt (KasT.ask (gA p k) (gA p ((l + r) / 2)) fun c=>if c=true then kas_place p k f l ((l + r) / 2) else kas_place p k f ((l + r) / 2 + 1) r)=evK lt (if lt (gA p k) (gA p ((l + r) / 2))=true then kas_place p k f l ((l + r) / 2) else kas_place p k f ((l + r) / 2 + 1) r):=rfl
   rw [e2]
   cases c:lt (gA p k) (gA p ((l + r) / 2)) with
   | true=>
    rw [if_pos rfl]
    exact ih l ((l + r) / 2) (by omega) (by omega) (by omega) h4 fun i g1 g2=>xB O (oZ O c) (hs _ _ g1 g2)
   | false=>
    rw [if_neg (by simp)]
    exact ih ((l + r) / 2 + 1) r (by omega) h2 (by omega) (fun i g=>xB O (hs i ((l + r) / 2) (by omega) (by omega)) c) h5
theorem zDQ (O:LtO lt):∀ (f:Nat) (p:Array Nat) (k:Nat),k + f <= p.size->Up lt p k->(evK lt (kas_bin f p k)).Perm p/\Up lt (evK lt (kas_bin f p k)) (k + f):=by
 intro f
 induction f with
 | zero=>exact fun p k _ h=>⟨.refl _,h⟩
 | succ f ih=>
  intro p k hz h
  have e:kas_bin (f + 1) p k=(kas_place p k k 0 k).bind fun l=>kas_bin f (bubble p k (k - l)) (k + 1):=rfl
  rw [e,uZ]
  obtain ⟨a1,a2,a3⟩:=eV O h k 0 k (zGH _) (zGG _) (by omega) (fun i g=>absurd g (Nat.not_lt_zero _)) (fun i g1 g2=>absurd g2 (by omega))
  generalize evK lt (kas_place p k k 0 k)=l at a1 a2 a3 ⊢
  have up:Up lt (bubble p k (k - l)) (k + 1):=fun i j hij hj=>by
   rw [cG (by omega) a1,cG (by omega) a1]
   by_cases i1:i=l
   ·rw [if_pos i1]
    by_cases j1:j=l
    ·rw [if_pos j1];exact xC O _
    ·rw [if_neg j1,if_pos ⟨by omega,by omega⟩]
     exact a3 _ (by omega) (by omega)
   ·rw [if_neg i1]
    by_cases i2:l < i/\i <= k
    ·rw [if_pos i2,if_neg (by omega),if_pos ⟨by omega,by omega⟩]
     exact h _ _ (by omega) (by omega)
    ·rw [if_neg i2]
     by_cases j1:j=l
     ·rw [if_pos j1];exact a2 _ (by omega)
     ·rw [if_neg j1]
      by_cases j2:l < j/\j <= k
      ·rw [if_pos j2];exact h _ _ (by omega) (by omega)
      ·rw [if_neg j2];exact h _ _ hij (by omega)
  obtain ⟨b1,b2⟩:=ih (bubble p k (k - l)) (k + 1) (by rw [bubble_size];omega) up
  exact ⟨b1.trans (bubble_perm _ _ _),by rw [show k + (f + 1)=k + 1 + f by omega];exact b2⟩
theorem bO (O:LtO lt) {n:Nat} (h1:1 <= n):(evK lt (kas_sort n)).Perm (List.range n).toArray/\Up lt (evK lt (kas_sort n)) n:=by
 unfold kas_sort
 rw [uZ]
 have hsz:(List.range n).toArray.size=n:=by simp
 obtain ⟨a1,a2,a3,a4⟩:=cZ O (p:=(List.range n).toArray) h1 (by omega)
 generalize evK lt (kas_count n (List.range n).toArray)=r at a1 a2 a3 a4 ⊢
 have hs:=a1.size_eq
 by_cases h:r.1 < n
 ·rw [if_pos h]
  have em:max r.1 1=r.1:=by omega
  rw [em]
  obtain ⟨b1,b2⟩:=zDQ O (n - r.1) r.2 r.1 (by omega) a4
  exact ⟨b1.trans a1,by rw [show n=r.1 + (n - r.1) by omega];exact (by rw [show r.1 + (n - r.1) - r.1=n - r.1 by omega];exact b2)⟩
 ·rw [if_neg h]
  have e:r.1=n:=by omega
  exact ⟨a1,by rw [<- e];exact a4⟩
def tD {α:Type} (n:Nat) (R:α->Prop):KasT α->Prop
 | .ret a=>R a
 | .ask i j k=>i < n/\j < n/\∀ b,tD n R (k b)
theorem tD.bind {α β:Type} {n:Nat} {R:α->Prop} {R':β->Prop} {f:α->KasT β} (t:KasT α) (h:tD n R t) (hf:∀ a,R a->tD n R' (f a)):tD n R' (t.bind f):=by
 induction t with
 | ret a=>exact hf a h
 | ask i j k ih=>exact ⟨h.1,h.2.1,fun b=>ih b (h.2.2 b)⟩
theorem zDY {α:Type} {n:Nat} {R:α->Prop} {lt:Nat->Nat->Bool} {cmp:Nat->Nat->(Bool->Shared->Prop)->Shared->Prop} {Pq:Shared->Prop} (hc:∀ i j C s,i < n->j < n->Pq s->(∀ s',Pq s'->C (lt i j) s')->cmp i j C s) (t:KasT α) (ht:tD n R t) {Q:α->Shared->Prop} :
  ∀ s,Pq s->(∀ s',Pq s'->Q (evK lt t) s')->t.kasWp cmp Q s:=by
 induction t with
 | ret a=>exact fun s h q=>q s h
 | ask i j k ih=>exact fun s h q=>hc i j _ s ht.1 ht.2.1 h fun s' h'=>ih (lt i j) (ht.2.2 _) s' h' q
def In_ (n:Nat) (p:Array Nat):Prop:=∀ v ∈ p.toList,v < n
theorem In_.gA {n:Nat} {p:Array Nat} (h:In_ n p) (h1:1 <= n) (x:Nat):gA p x < n:=by
 unfold L2.gA
 rw [zG6]
 cases e:p[x]? with
 | none=>exact h1
 | some v=>exact h v (by rw [Array.mem_toList_iff];exact Array.mem_of_getElem? e)
theorem In_.perm {n:Nat} {p q:Array Nat} (h:In_ n p) (e:q.Perm p):In_ n q:=fun v hv=>h v ((Array.perm_iff_toList_perm.mp e).mem_iff.mp hv)
section
variable {n:Nat} (h1:1 <= n)
include h1
theorem bB {p:Array Nat} (h:In_ n p):∀ f m,tD n (fun _=>True) (kas_asc p f m):=by
 intro f
 induction f with
 | zero=>exact fun _=>trivial
 | succ f ih=>
  intro m
  refine ⟨h.gA h1 _,h.gA h1 _,fun b=>?_⟩
  cases b with
  | true=>exact trivial
  | false=>exact ih _
theorem zAK:∀ f (p:Array Nat) m q,In_ n p->tD n (fun r=>In_ n r.1) (kas_desc f p m q):=by
 intro f
 induction f with
 | zero=>exact fun p m q h=>h
 | succ f ih=>
  intro p m q h
  refine ⟨h.gA h1 _,h.gA h1 _,fun b=>?_⟩
  cases b with
  | true=>
   show tD n _ (if q > 0 then kas_desc f (kas_rev p (m - (q + 1)) m) (m + 1) 0 else kas_desc f p (m + 1) 0)
   by_cases hq:q > 0
   ·rw [if_pos hq];exact ih _ _ _ (h.perm (wL _ _ _))
   ·rw [if_neg hq];exact ih _ _ _ h
  | false=>
   refine ⟨h.gA h1 _,h.gA h1 _,fun c=>?_⟩
   cases c with
   | true=>exact h
   | false=>exact ih _ _ _ h
theorem jJ {p:Array Nat} (h:In_ n p) (m nr:Nat):tD n (fun r=>In_ n r.2) (kas_tail3 m nr p):=
 (bB h1 (h.perm (wL _ _ _)) _ _).bind _ fun _ _=>h.perm (wL _ _ _)
theorem rF {p:Array Nat} (h:In_ n p) (m nr:Nat):tD n (fun r=>In_ n r.2) (kas_descPart m nr p):=by
 refine (zAK h1 _ p _ _ h).bind _ fun r hr=>?_
 by_cases hq:r.2.2 > 0
 ·rw [if_pos hq];exact jJ h1 (hr.perm (wL _ _ _)) _ _
 ·rw [if_neg hq];exact jJ h1 hr _ _
theorem cY {p:Array Nat} (h:In_ n p) (nr:Nat):tD n (fun r=>In_ n r.2) (kas_count nr p):=by
 refine (bB h1 h _ _).bind _ fun m _=>?_
 by_cases hm:(m == nr)=true
 ·rw [if_pos hm];exact h
 ·rw [if_neg hm]
  by_cases h2:m > 1
  ·rw [if_pos h2]
   refine ⟨h.gA h1 _,h.gA h1 _,fun b=>?_⟩
   cases b with
   | true=>exact h
   | false=>exact rF h1 (h.perm (wL _ _ _)) _ _
  ·rw [if_neg h2];exact rF h1 h _ _
theorem eU {p:Array Nat} (h:In_ n p) (k:Nat):∀ f l r,tD n (fun _=>True) (kas_place p k f l r):=by
 intro f
 induction f with
 | zero=>exact fun _ _=>trivial
 | succ f ih=>
  intro l r
  show tD n _ (if l >= r then .ret l else .ask (gA p k) (gA p ((l + r) / 2)) fun c=>if c=true then kas_place p k f l ((l + r) / 2) else kas_place p k f ((l + r) / 2 + 1) r)
  by_cases hlr:l >= r
  ·rw [if_pos hlr];exact trivial
  ·rw [if_neg hlr]
   refine ⟨h.gA h1 _,h.gA h1 _,fun b=>?_⟩
   cases b with
   | true=>exact ih _ _
   | false=>exact ih _ _
theorem zDP:∀ f (p:Array Nat) k,In_ n p->tD n (In_ n) (kas_bin f p k):=by
 intro f
 induction f with
 | zero=>exact fun p k h=>h
 | succ f ih=>exact fun p k h=>(eU h1 h k _ _ _).bind _ fun l _=>ih _ _ (h.perm (bubble_perm _ _ _))
theorem bN:tD n (In_ n) (kas_sort n):=by
 refine (cY h1 (p:=(List.range n).toArray) (fun v hv=>by simpa using hv) n).bind _ fun r hr=>?_
 by_cases h:r.1 < n
 ·rw [if_pos h];exact zDP h1 _ _ _ hr
 ·rw [if_neg h];exact hr
end
end
end L2
namespace L2
open PySem PySem.Spec PyProof.Rows PySem.W
def ltS (a b:Str):Bool:=decide (a.cps.toList < b.cps.toList)
theorem dP {a b:Str} (h:ltS a b=true):ltS b a=false:=KeyOrd.klt_asymm (O:=strKind.toKeyOrd) h
theorem iG {a b c:Str} (h1:ltS b a=false) (h2:ltS c b=false):ltS c a=false:=KeyOrd.kle_trans (O:=strKind.toKeyOrd) (a:=a.cps.toList) (b:=b.cps.toList) (c:=c.cps.toList) h1 h2
theorem zAB {a b:Str} (h1:ltS a b=false) (h2:ltS b a=false):a=b:=by
 have e:a.cps.toList=b.cps.toList:=strKind.total _ _ h1 h2
 cases a;cases b
 simp only [Str.mk.injEq]
 exact Array.toList_inj.mp e
theorem dO (a:Str):ltS a a=false:=strKind.irrefl _
def Asc {α:Type} (lt:α->α->Bool) (l:List α):Prop:=l.Pairwise fun a b=>lt b a=false
theorem c9 {α:Type} {lt:α->α->Bool} (tot:∀ a b,lt a b=false->lt b a=false->a=b):∀ {l l':List α},l.Perm l'->Asc lt l->Asc lt l'->l=l':=by
 intro l
 induction l with
 | nil=>intro l' p _ _;exact (List.Perm.nil_eq p)
 | cons x l ih=>
  intro l' p h h'
  cases l' with
  | nil=>exact absurd p.length_eq (by simp)
  | cons y l'=>
   obtain ⟨a1,a2⟩:=List.pairwise_cons.mp h
   obtain ⟨b1,b2⟩:=List.pairwise_cons.mp h'
   have e:x=y:=by
    have hx:x ∈ y :: l':=p.mem_iff.mp zG0
    have hy:y ∈ x :: l:=p.mem_iff.mpr zG0
    rcases List.mem_cons.mp hx with e | hx
    ·exact e
    ·rcases List.mem_cons.mp hy with e | hy
     ·exact e.symm
     ·exact tot x y (b1 x hx) (a1 y hy)
   subst e
   rw [ih (List.Perm.cons_inv p) a2 b2]
theorem qC:∀ (l:List Str) (p:Str),risingS p l=true->Asc ltS (p :: l)
 | [],p,_=>List.pairwise_singleton _ _
 | x :: r,p,h=>by
  unfold risingS at h
  obtain ⟨h1,h2⟩:=Bool.and_eq_true_iff.mp h
  have ih:=qC r x h2
  have hpx:ltS x p=false:=by
   rw [ltCps_eq] at h1
   simpa [ltS] using h1
  refine List.pairwise_cons.mpr ⟨fun y hy=>?_,ih⟩
  rcases List.mem_cons.mp hy with rfl | hy
  ·exact hpx
  ·exact iG hpx ((List.pairwise_cons.mp ih).1 y hy)
theorem lY (l:List Str) (h:sortedS l=true):Asc ltS l:=by
 cases l with
 | nil=>exact .nil
 | cons x r=>exact qC r x h
theorem sH:∀ {us:List Value} {ys:List Str},StrsAre us ys->yD (ys.map V.str) us
 | _,_,.nil=>.nil
 | _,_,.cons _ _ h=>.cons ⟨_,rfl⟩ (sH h)
section
variable {X:Cx}
end
section
variable {prog:Program} {w:World} {A:Around} {E:Value->Shared->Prop} {s:Shared}
def wE {α:Type} (p:Array Nat) (l:List α) (d:α):List α:=p.toList.map fun i=>l.getD i d
theorem i7 {α:Type} {p:Array Nat} {l:List α} (d:α) (h:p.Perm (List.range l.length).toArray):(wE p l d).Perm l:=by
 have h1:(wE p l d).Perm ((List.range l.length).map fun i=>l.getD i d):=(Array.perm_iff_toList_perm.mp h).map _
 have e:(List.range l.length).map (fun i=>l.getD i d)=l:=by
  apply List.ext_getElem
  ·simp
  ·intro i g1 g2
   simp [zGC,zF8 g2]
 rwa [e] at h1
end
theorem oT:∀ {qs:List Addr} {us:List Value},yD (qs.map V.ref) us->us=qs.map Value.ref
 | [],_,.nil=>rfl
 | q :: qs,_,.cons r h=>by
  rw [List.map_cons,<- oT h]
  exact congrArg (· :: _) r
theorem pI:∀ (qs:List Addr),yD (qs.map V.ref) (qs.map Value.ref)
 | []=>.nil
 | _ :: qs=>.cons rfl (pI qs)
section
variable {X:Cx} {pins:List (Addr × Obj)} {σ:St} {H:Hp} {s:Shared}
theorem qG {α β:Type} (f:α->β) (p:Array Nat) (l:List α) (d:α) (e:β) (hp:∀ i ∈ p.toList,i < l.length):wE p (l.map f) e=(wE p l d).map f:=by
 unfold wE
 rw [zGR]
 refine List.map_congr_left fun i hi=>?_
 have:=hp i hi
 simp [zGC,zF8 this]
theorem mT {R:Addr->List V->Prop} {qs:List Addr} {rs:List (List V)} (h:Paired R qs rs) (p:Array Nat) (hp:∀ i ∈ p.toList,i < qs.length):Paired R (wE p qs 0) (wE p rs []):=by
 unfold wE
 have get:∀ i,i < qs.length->R (qs.getD i 0) (rs.getD i []):=by
  clear hp
  induction h with
  | nil=>exact fun i hi=>absurd hi (Nat.not_lt_zero _)
  | cons a r ih=>
   intro i hi
   cases i with
   | zero=>exact a
   | succ i=>exact ih i (by simpa using hi)
 generalize p.toList=l at hp
 induction l with
 | nil=>exact .nil
 | cons i l ih=>exact .cons (get i (hp i zG0)) (ih fun j hj=>hp j (zGK _ hj))
end
end L2
namespace L2
open PySem PySem.Spec PyProof.Rows PySem.W
def wU (val:Nat->Str):Nat->List Str
 | 0=>[]
 | i + 1=>if (wU val i).any (· == val i) then wU val i else wU val i ++ [val i]
theorem qN (val:Nat->Str) (i:Nat) (k:Str):(wU val (i + 1)).any (· == k)=((wU val i).any (· == k) || k == val i):=by
 show (if (wU val i).any (· == val i) then wU val i else wU val i ++ [val i]).any (· == k)=_
 by_cases h:(wU val i).any (· == val i)=true
 ·rw [if_pos h]
  by_cases hk:k=val i
  ·subst hk;rw [h];simp
  ·rw [show (k == val i)=false by simpa using hk,Bool.or_false]
 ·rw [if_neg h,List.any_append]
  simp only [List.any_cons,List.any_nil,Bool.or_false]
  rw [Bool.beq_comm (a:=k)]
theorem t5 (val:Nat->Str) (i:Nat):(wU val (i + 1)).length=if (wU val i).any (· == val i) then (wU val i).length else (wU val i).length + 1:=by
 show (if (wU val i).any (· == val i) then wU val i else wU val i ++ [val i]).length=_
 split <;> simp
theorem rW (val:Nat->Str):∀ i,(wU val i).length <= i
 | 0=>zGG _
 | i + 1=>by
  rw [t5]
  have:=rW val i
  split <;> omega
theorem qM {val:Nat->Str}:∀ n,(∀ i j,i < n->j < n->val i=val j->i=j)->(wU val n).length=n/\∀ k,(wU val n).any (· == k)=true->∃ i,i < n/\val i=k
 | 0,_=>⟨rfl,fun k h=>by simp [wU] at h⟩
 | n + 1,h=>by
  obtain ⟨a1,a2⟩:=qM n fun i j hi hj e=>h i j (by omega) (by omega) e
  have no:(wU val n).any (· == val n)=false:=by
   cases c:(wU val n).any (· == val n) with
   | false=>rfl
   | true=>
    obtain ⟨i,hi,e⟩:=a2 _ c
    have:=h i n (by omega) (by omega) e
    omega
  refine ⟨by rw [t5,no,a1];rfl,fun k hk=>?_⟩
  rw [qN] at hk
  rcases Bool.or_eq_true_iff.mp hk with q | q
  ·obtain ⟨i,hi,e⟩:=a2 k q
   exact ⟨i,by omega,e⟩
  ·exact ⟨n,by omega,by simpa using (beq_iff_eq.mp q).symm⟩
section
variable {prog:Program} {w:World} {A:Around} {R:Result->Shared->Prop} {I:Addr} {fp wr:List Addr} {G:Array GenState->Array GenState->Prop} {n:Nat} {P:Nat->Value->Prop} {St:Nat->Shared->Prop}
abbrev nR (prog:Program) (w:World) (h:Heap) (S:Addr) (val:Nat->Str) (i:Nat):Prop:=h.SetOf (PySem.strKind prog w) S (fun k=>(wU val i).any (· == k)) (wU val i).length
theorem sJ {h h':Heap} {S:Addr} {val:Nat->Str} {i:Nat} (x:nR prog w h S val i) (k:∀ o,h.get? S=some o->h'.get? S=some o):nR prog w h' S val i:=by
 obtain ⟨o,es,ep,tb,ho,q⟩:=x
 exact ⟨o,es,ep,tb,k o ho,q⟩
theorem iX (W:WalksS prog w A.in1 I fp wr G n P St) (S:Addr) (hSf:S ∉ fp) (val:Nat->Str) (hval:∀ i v,P i v->∃ t,v=.str (val i) t) (hb:n + 1 < scanBound):∀ (k i:Nat) (s:Shared),n - i=k->i <= n->St i s->nR prog w s.heap S val i ->
  (∀ s',Moved (S :: wr) G s s'->nR prog w s'.heap S val n->R (.ok (.ret .none)) s')->codeAny (model prog w) A (.builtin "set.update.loop" ⟨[.ref S,.ref I],[]⟩) R s:=by
 have nw:S ∉ wr:=fun z=>hSf (W.sub _ z)
 have more:∀ b ∈ wr,b ∈ S :: wr:=fun b z=>zGK _ z
 intro k
 induction k with
 | zero=>
  intro i s hk hi st hS hR
  obtain rfl:i=n:=by omega
  refine codeAny_builtin F.entry_set_update_loop ?_
  rw [Around.under_plainId F.plain_set_update_loop _]
  show wpAny _ A.in1 (pyNext (.ref I) >>= _) _ _ s
  exact wpAny_bind (W.done s _ _ st fun s' hm=>wpAny_pure (hR s' (hm.mono more) (sJ hS fun o z=>hm.heap S _ nw z)))
 | succ k ih=>
  intro i s hk hi st hS hR
  have lt:i < n:=by omega
  refine codeAny_builtin F.entry_set_update_loop ?_
  rw [Around.under_plainId F.plain_set_update_loop _]
  show wpAny _ A.in1 (pyNext (.ref I) >>= _) _ _ s
  refine wpAny_bind (W.item i s _ _ lt st fun v s' hP st' hm=>?_)
  obtain ⟨t,rfl⟩:=hval i v hP
  have hS1:nR prog w s'.heap S val i:=sJ hS fun o z=>hm.heap S _ nw z
  have room:=rW val i
  show wpAny _ A.in1 (holding [Value.str (val i) t] (setAdd S (.str (val i) t)) >>= _) _ _ s'
  refine wpAny_bind (wpAny_holding ?_)
  unfold setAdd
  refine wpAny_holding (wpAny_bind ((PySem.strKind prog w).pyHash (k:=val i) (strKind_is _ _ _ _) (wpAny_setAddHashed_of (knd:=PySem.strKind prog w) (s:={ s' with toks:=s'.toks + 1 }) (strKind_is _ _ _ _) rfl hS1 (by omega) fun h' hsb hS2=>?_)))
  have hS3:nR prog w h' S val (i + 1):=SetOf_congr hS2 (fun k'=>by rw [qN];rfl) (by rw [t5])
  refine wpAny_pure ⟨plainId_quiet F.plain_set_update_loop _,ih (i + 1) _ (by omega) lt (W.frame _ s' _ _ st' (Nat.le_succ _) fun b hb o e=>?_) hS3 fun s2 hm2 hS4=>hR s2 (Moved.trans W.gtrans ((hm.mono more).then_heap (Nat.le_succ _) fun b o hb e=>?_) hm2) hS4⟩
  ·rw [hsb.2 b (fun z:b=S=>hSf (by rw [<- z];exact hb))];exact e
  ·rw [hsb.2 b (fun z:b=S=>hb (by rw [z];exact zG0))];exact e
end
section
variable {prog:Program} {w:World} {A:Around} {E:Value->Shared->Prop} {s:Shared}
abbrev kJ (led:Bool):Obj:={ cls:=.type "set",dict:=none,data:=.set #[] 0 (.fresh 0 0 led) }
theorem iY {l:Addr} {items:Array Value} {val:Nat->Str} {Q:Value->Shared->Prop} (hh:A.handled=none) (hl:s.heap.IsList l items) (hv:∀ (i:Nat) (v:Value),items[i]?=some v->∃ t,v=.str (val i) t) (hb:items.size + 1 < scanBound)
  (h:∀ (g:Heap) (tk:Nat),nR prog w g s.heap.objs.size val items.size->(∀ b o,b < s.heap.objs.size->s.heap.get? b=some o->g.get? b=some o)->Q (.ref s.heap.objs.size) { s with heap:=g,toks:=tk }) :
  wpAny (model prog w) A (call (.type "set") [.ref l]) Q E s:=by
 obtain ⟨c,tl,hmro⟩:=F.called_set.mro
 have hmade:=F.called_set.made
 have hsub:=F.called_set.sub
 refine wpAny_call (codeAny_of_tree ?_)
 show wpAny _ _ (callAny (.type "set") _) _ _ _
 refine wpAny_pure ⟨Code.quiet_builtin _ (by decide +kernel),codeAny_builtin F.entry_type_call ?_⟩
 rw [Around.under_plain (weight_type_call_type "set" [.ref l] []) rfl]
 have h1:=F.called_set.notType
 have h2:=F.called_set.canCreate
 have hct:=F.typeCall_set_1 (.ref l)
 repeat (any_goals (first | assumption | wp_step))
 refine codeAny_mono (code_set_new_1 (.ref l) (E:=E) (Q₁:=fun obj s1=>∃ led:Bool,obj=.ref s.heap.objs.size/\s1 = { s with heap:=s.heap.push (kJ led) }) fun led=>⟨led,rfl,rfl⟩) fun r s1 hr=>?_
 cases r with
 | error e=>exact hr
 | ok fl=>
  cases fl with
  | ret obj=>
   obtain ⟨led,rfl,rfl⟩:=hr
   have gS:(s.heap.push (kJ led)).get? s.heap.objs.size=some (kJ led):=Heap.get?_push_size _ rfl
   have hT:Shared.TypeIs { s with heap:=s.heap.push (kJ led) } (.ref s.heap.objs.size) "set":=⟨_,gS,rfl⟩
   have hli:=F.called_set.init.lookup
   have hbi:=F.called_set.init.bind (.ref s.heap.objs.size)
   repeat (any_goals (first | assumption | wp_step))
   refine codeAny_mono (codeAny_call_builtin (R:=wants (fun r s2=>r=.none/\∃ g tk,s2 = { s with heap:=g,toks:=tk }/\nR prog w g s.heap.objs.size val items.size/\(∀ b o,b < s.heap.objs.size->s.heap.get? b=some o->g.get? b=some o)) E)
    F.called_set.init.plain F.entry_set_init (check_set_init_1 hT ?_)) fun r2 s2 hr2=>?_
   ·obtain ⟨⟨ocls,odict,odata,oslots⟩,hol,hcl,nl,hdl⟩:=hl
    simp only at hcl hdl
    subst hcl;subst hdl
    have hol':(s.heap.push (kJ led)).get? l=some { cls:=.type "list",dict:=odict,data:=.seq items nl,slots:=oslots }:=Heap.get?_push_of_some _ hol
    have hsls:=F.sub_list_set
    have hslf:=F.sub_list_frozenset
    have hne:(Value.type "list" == Value.type "dict")=false:=by decide
    have hl1:(s.heap.push (kJ led)).IsList l items:=⟨_,hol',rfl,nl,rfl⟩
    unfold Builtin.«set.__init__» noKeywords Builtin.Frozenset.updateFrom
    generalize hPI:pyIter=PI
    wp_walk
    subst hPI
    refine wpAny_pyIter_list hl1 (wpAny_bind (wpAny_runValue ?_))
    have hlS:l < s.heap.objs.size:=Heap.lt_size hol
    have sz:(s.heap.push (kJ led)).objs.size=s.heap.objs.size + 1:=Heap.size_push _ _
    refine iX ((Walks.list (A:=A.in1.in1.in1) (by simp [hh]) _ l (by rw [sz];exact zGY (Nat.lt_succ_of_lt hlS)) items).toS) s.heap.objs.size (by rw [sz];simp;exact Nat.ne_of_gt hlS) val hv hb (items.size - 0) 0 _ (by omega) (zGH _) ⟨⟨_,Heap.get?_push_size _ rfl,rfl,rfl⟩,(hl1.push _)⟩ ?z0 ?zR
    case z0=>
     exact SetOf_congr ((setObjOf_fresh (knd:=PySem.strKind prog w) led).setOf (Heap.get?_push_of_some _ gS) (by unfold scanBound;omega)) (fun _=>rfl) rfl
    case zR=>
     intro s' hm hS'
     obtain ⟨g,g',d',tk',os'⟩:=s'
     have eg:g'=s.gens:=hm.gens
     have ed:d'=s.drawn:=hm.drawn
     have eo:os'=s.os:=hm.os
     subst eg;subst ed;subst eo
     show wpAny _ _ _ _ _ _
     refine wpAny_pure ?_
     show wpAny _ _ (ret Value.none) _ _ _
     refine wpAny_pure ⟨rfl,g,tk',rfl,hS',fun b o hb e=>hm.heap b o ?_ (Heap.get?_push_of_some _ (Heap.get?_push_of_some _ e))⟩
     rw [sz];simp;exact ⟨zGY hb,zGY (Nat.lt_succ_of_lt hb)⟩
   ·cases r2 with
    | error e=>exact hr2
    | ok fl2=>
     cases fl2 with
     | ret r=>
      obtain ⟨rfl,g,tk,rfl,hS',hk'⟩:=hr2
      repeat (any_goals (first | assumption | wp_step))
      exact h _ _ hS' hk'
     | _=>exact hr2.elim
  | _=>exact hr.elim
end
end L2
namespace L2
open PySem PySem.Spec PyProof.Rows PySem.W
def qP (zs:List Str):Nat:=(wU (fun i=>zs.getD i Str.empty) zs.length).length
theorem m8 {zs:List Str} (h:zs.Nodup):qP zs=zs.length:=by
 refine (qM zs.length fun i j hi hj q=>?_).1
 simp only [zGC,zF8 hi,zF8 hj,Option.getD_some] at q
 exact (List.getElem_inj h).mp q
def bQ (P:Program) (w:World) (a:Addr) (zs:List Str):HO:=.ext fun h=>nR P w h a (fun i=>zs.getD i Str.empty) zs.length
section
variable {X:Cx}
theorem fP {zs:List Str} {its:List Value} (r:StrsAre its zs):∀ (i:Nat) (v:Value),its.toArray[i]?=some v->∃ t,v=.str (zs.getD i Str.empty) t:=by
 induction r with
 | nil=>intro i v h;simp at h
 | cons x t r ih=>
  intro i v h
  cases i with
  | zero=>simp at h;exact ⟨t,h.symm⟩
  | succ i=>simp at h;exact ih i v (by simpa using h)
theorem g7 (hc:X.calm=true):wW X (.type "set") (fun xs H Q=>∃ (a:Addr) (zs:List Str),xs=[.ref a]/\H a=some (.lst (zs.map V.str))/\zs.length < 1000/\∀ p,H p=none->Q (.ref p) (upd H p (bQ X.prog X.w p zs))):=by
 intro pins s σ H xs us Q I r h
 obtain ⟨a,zs,rfl,hA,hz,q⟩:=h
 obtain ⟨u,rfl,rx⟩:=uT r
 cases rx
 obtain ⟨its,r',pl,hzl⟩:=I.list (.of hA)
 have hst:=oB r'
 have hl:its.length=zs.length:=by have:=r'.length;rw [zF7] at this;exact this.symm
 have hsz:its.toArray.size=zs.length:=by rw [zGF];exact hl
 refine iY (I.ok.hd hc) pl.isList (fP hst) (by rw [hsz];unfold scanBound;omega) fun g tk hS old=>?_
 rw [hsz] at hS
 have k:∀ b o,s.heap.get? b=some o->g.get? b=some o:=fun b o z=>old b o (Heap.lt_size z) z
 refine ⟨.ref s.heap.objs.size,_,I.laid (t':=tk) (h':=g) (o:=bQ X.prog X.w s.heap.objs.size zs) k (zGG _) ⟨hS,?_,fun h1 h2 x st=>sJ x st⟩,rfl,q _ (I.hok.fresh (zGG _))⟩
 obtain ⟨o,_,_,_,ho,_⟩:=hS
 exact ⟨o,ho⟩
theorem lK:wW X (.builtin "len") (fun xs H Q=>∃ (p:Addr) (zs:List Str),xs=[.ref p]/\H p=some (bQ X.prog X.w p zs)/\zs.length < 1000/\Q (.int (qP zs)) H):=by
 intro pins s σ H xs us Q I r h
 obtain ⟨p,zs,rfl,hP,hz,q⟩:=h
 obtain ⟨u,rfl,rx⟩:=uT r
 cases rx
 obtain ⟨hS,_,_⟩:=I.hok p _ hP
 obtain ⟨o,es,ep,t,ho,hex,hd,hel,hmem,hb,hf,hn⟩:=hS
 have le:=rW (fun i=>zs.getD i Str.empty) zs.length
 have en:es.size=qP zs:=hn
 have lm:qP zs <= zs.length:=le
 refine call_len_set ho hex hd hf (by rw [en];omega) ⟨.int (qP zs),H,I.tok _,⟨s.toks + 1,by rw [en]⟩,q⟩
section
variable {prog:Program} {w:World} {A:Around} {E:Value->Shared->Prop} {s:Shared}
end
end
end L2
namespace L2
open PySem PySem.Spec PyProof.Rows
theorem zAN {prog:Program} {w:World} {A:Around} {R:Result->Shared->Prop} {s:Shared} {kx vx target iter:Expr} {ifs:List Expr} {scope:Scope} {pos:Pos} {it:Value} {D:Addr} {env:Env} (J:Nat->Shared->Prop)
  (turn:∀ n s,J n s->wpAny (model prog w) A (pyNext it) (fun r s1=>match r with
   | none=>R (.ok .next) s1
   | some v=>wpAny (model prog w) A (letOwnedTupleGo target it v) (fun _ s1'=>wpAny (model prog w) A (assign target env v) (fun _ s2=>
     wpAny (model prog w) A (forIn ifs true fun c r=>if r=true then do let ok <- isTrue c env (eval c env);pure (ForInStep.yield ok) else pure (ForInStep.yield r)) (fun ok s3=>
      if ok=true then wpAny (model prog w) A (eval kx env) (fun y s4=>wpAny (model prog w) A (eval vx env) (fun x s5=>
       wpAny (model prog w) A (dictSet D y x) (fun _ s6=>∃ m,m < n/\J m s6) (fun _ _=>False) s5) (fun _ _=>False) s4) (fun _ _=>False) s3
      else ∃ m,m < n/\J m s3) (fun _ _=>False) s2) (fun _ _=>False) s1') (fun _ _=>False) s1) (fun _ _=>False) s)
  (n:Nat) (h:J n s):codeAny (model prog w) A (.compLoop (.DictComp kx vx [⟨target,iter,ifs,0⟩] scope pos) 0 it (.ref D) env) R s:=by
 refine codeAny_loop rfl J (fun n s hJ=>?_) n h
 have nof:∀ (e:Value) (s':Shared),False->notedBy (model prog w) A env (fun e s'=>R (.error e) s') e s':=fun _ _ f=>f.elim
 show wpAny (model prog w) A ((compTurn (.DictComp kx vx [⟨target,iter,ifs,0⟩] scope pos) 0 it (.ref D) env).onRaise (fun x=>do noteFrame x env;theTreesLotGoes x)) _ _ s
 refine wpAny_noted ?_
 rw [compTurn_dict]
 refine wpAny_bind (wpAny_standAt (wpAny_bind (wpAny_mono (turn n s hJ) (fun r s1 h1=>?_) nof)))
 cases r with
 | none=>exact wpAny_pure h1
 | some v=>
  refine wpAny_bind (wpAny_mono h1 (fun _ s1' h1'=>?_) nof)
  refine wpAny_bind (wpAny_mono h1' (fun _ s2 h2=>?_) nof)
  refine wpAny_bind (wpAny_mono h2 (fun ok s3 h3=>?_) nof)
  cases ok with
  | false=>exact wpAny_pure ⟨rfl,h3⟩
  | true=>
   refine wpAny_bind (wpAny_bind (wpAny_mono h3 (fun y s4 h4=>?_) nof))
   refine wpAny_bind (wpAny_holding (wpAny_mono h4 (fun x s5 h5=>?_) nof))
   exact wpAny_bind (wpAny_standAt (wpAny_holding (wpAny_mono h5 (fun _ s6 h6=>wpAny_pure ⟨rfl,h6⟩) nof)))
def DCW (J:It) (xs:List Str) (ix:List Nat) (g:TG) (tt:TT) (ty te:TE) (σ:St) (H1:Hp) (acc:Addr) (Q:VK):Prop:=
 ∃ W:Nat->Nat->List (Key × V)->St->Hp->Prop,(∃ m,W 0 m [] (stC xs ix σ) (upd H1 acc (.dK []))) /\
  ∀ i m ys τ H,W i m ys τ H->H acc=some (.dK ys)/\ys.length < sizeLine /\
   ((J.stop i H/\Q (.ref acc) H) \/ (J.go i H/\∃ N:List (Key × V)->St->Hp->Prop,(∀ ys' τ' H',N ys' τ' H'->∃ m',m' < m/\W (i + 1) m' ys' τ' H') /\
    ∀ x H',J.yld i H x H'->g x τ H' fun τ2 H2=>tt τ2 H2 fun b H3=>
    if b=true then ty τ2 H3 fun z H4=>te τ2 H4 fun y H5=>∃ k,z=kV k/\H5 acc=some (.dK ys)/\N (wG ys k y) τ2 (upd H5 acc (.dK (wG ys k y))) else N ys τ2 H3))
def tDC (xs:List Str) (ix:List Nat) (wi:TI) (g:TG) (tt:TT) (ty te:TE):TE:=fun σ H Q=>wi σ H fun J H1=>∀ acc,H1 acc=none->DCW J xs ix g tt ty te σ H1 acc Q
theorem gW {X:Cx} {pins:List (Addr × Obj)} {σ:St} {H:Hp} {s:Shared} {A:Around} {E:Value->Shared->Prop} {a:Addr} {k:Key} {v:V} {u r:Value} {kvs:List (Key × V)} {Q:Unit->Shared->Prop} (I:Inv X pins σ H s) (e:H a=some (.dK kvs)) (l:kvs.length < sizeLine) (ry:yM (kV k) u) (rv:yM v r)
  (h:∀ s',Inv X pins σ (upd H a (.dK (wG kvs k v))) s'->Q () s'):wpAny (model X.prog X.w) A (dictSet a u r) Q E s:=by
 obtain ⟨z,hd,vs,rel,dd⟩:=pU I.hok e
 have hz:vs.length <= sizeLine:=by rw [<- rel.length];exact z
 have hl:(wG kvs k v).length <= sizeLine:=by have:=vR kvs k v;omega
 refine wpAny_dictSet_pairs (hsz:=hz) (rE ry) dd fun h' dd' hs=>h _ (t9 I (by rw [e];exact True.intro) hs ?_ (nJ hl hd (rel.put k rv) dd'))
 obtain ⟨q,_,_,hq,_⟩:=dd'
 exact ⟨q,hq⟩
theorem cV {Reg:Cx->Prop} {X:Cx} {xs:List Str} {ix:List Nat} {scope:Scope} {kx vx tg iter:Expr} {ifs:List Expr} {pos:Pos} {wi:TI} {g:TG} {tt:TT} {ty te:TE}
  (S:xR X xs ix scope) (hreg:∀ Y:Cx,Y.K=X.K->Y.calm=X.calm->Y.A.handled=X.A.handled->Reg Y) (hi:PIG Reg X tg iter wi)
  (hg:∀ C fp s H,PG (cxC X xs ix scope C fp s H) tg g) (ht:∀ C fp s H,PTs (cxC X xs ix scope C fp s H) ifs tt) (hy:∀ C fp s H,PE (cxC X xs ix scope C fp s H) kx ty) (he:∀ C fp s H,PE (cxC X xs ix scope C fp s H) vx te)
  {pins:List (Addr × Obj)} {s:Shared} {σ:St} {H:Hp} {Q:VK} (I:Inv X pins σ H s) (h:tDC xs ix wi g tt ty te σ H Q) {use:Option (Value->Sem Unit)} {R:Value->Shared->Prop}
  (fin:∀ (acc C:Addr) (H':Hp) (s':Shared) (m:Str->Option Value),Q (.ref acc) H'->s'.heap.Ns C m->(∀ h',Heap.SameBut C s'.heap h'->∀ tk,Inv X pins σ H' { s' with heap:=h',toks:=tk })->(X.s₀.heap.objs.size <= C/\C ≠ X.env.locals/\(∀ x c,X.env.cells.lookup x=some c->c ≠ C)/\(∀ p ∈ X.pn ++ pins,p.1 ≠ C)/\H' C=none)->compPost (model X.prog X.w) X.A X.xe use R (.ref acc) C (.ok .next) s') :
  wpAny (model X.prog X.w) X.A (eval iter X.env) (fun x s₁=>wpAny (model X.prog X.w) X.A (pyIter x) (fun it s₂=>wpAny (model X.prog X.w) X.A newDict (fun acc s₃=>
   wpAny (model X.prog X.w) X.A (newFunctionEnv scope X.env.globals (clF X.env scope.names []) [] X.env.qual none .none (some X.env)) (fun cenv s₄=>
    codeAny (model X.prog X.w) X.A (.compStart (.DictComp kx vx [⟨tg,iter,ifs,0⟩] scope pos) 0 it acc { cenv with scope:=relabel scope X.env }) (compPost (model X.prog X.w) X.A X.xe use R acc cenv.locals) s₄) X.xe s₃) X.xe s₂) X.xe s₁) X.xe s:=by
 refine thn (hi pins s σ H _ I h) fun v s1 h1=>thn h1 fun itv s2 h2=>?_
 obtain ⟨it,fp,tn,J,H2,rfl,I2,T,st2,f2,q⟩:=h2
 refine wpAny_newObj_type ?_
 have I3:Inv X pins σ (upd H2 s2.heap.objs.size (.dK [])) { s2 with heap:=s2.heap.push { cls:=.type "dict",data:=.dict #[] },toks:=s2.toks }:=I2.laid (a:=s2.heap.objs.size) (o:=.dK []) (t':=s2.toks) (fun _ _ q=>Heap.get?_push_of_some _ q) (zGG _) (qV s2.heap I2.big)
 obtain ⟨W,⟨m0,w0⟩,turn⟩:=q s2.heap.objs.size I2.fresh
 have objs2:=T.obj 0 _ st2
 have neacc:∀ b ∈ fp,b ≠ s2.heap.objs.size:=fun b hb z=>by
  obtain ⟨o,ho,_⟩:=objs2 b hb
  exact Nat.lt_irrefl _ (Nat.lt_of_lt_of_eq (Heap.lt_size ho) z.symm)
 generalize hacc:s2.heap.objs.size=acc at *
 generalize hs3:({ s2 with heap:=s2.heap.push { cls:=.type "dict",data:=.dict #[] } }:Shared)=s3
 have I3:Inv X pins σ (upd H2 acc (.dK [])) s3:=by rw [<- hs3];exact I3
 have k3:∀ b o,s2.heap.get? b=some o->s3.heap.get? b=some o:=fun b o e=>by rw [<- hs3];exact Heap.get?_push_of_some _ e
 have f3:∀ b ∈ fp,uS X pins (upd H2 acc (.dK [])) b:=fun b hb=>⟨by rw [zI (neacc b hb)];exact (f2 b hb).1,(f2 b hb).2⟩
 have o3:∀ b ∈ fp,∃ o,s3.heap.get? b=some o:=fun b hb=>let ⟨o,ho,_⟩:=objs2 b hb;⟨o,k3 b o ho⟩
 have st3:tn 0 s3.heap:=T.keep _ _ _ st2 fun b _ o e=>k3 b o e
 refine wpAny_newFunctionEnv S.nocell (by intro y hy;simp at hy) (fun h1 hns1 hsb1=>?_) S.kind
 have keep1:∀ b o,s3.heap.get? b=some o->h1.get? b=some o:=fun b o e=>hsb1.extBut b o (zGY (Heap.lt_size e)) (Heap.get?_push_of_some _ e)
 generalize hs4:({ s3 with heap:=h1,toks:=s3.toks + ([]:List (Str × Value)).length }:Shared)=s4
 have I4:Inv (cxC X xs ix scope s3.heap.objs.size fp s3 (upd H2 acc (.dK []))) [] (stC xs ix σ) (upd H2 acc (.dK [])) s4:=u3 S I3 f3 o3 hns1 keep1 hs4.symm
 have st4:tn 0 s4.heap:=T.keep _ _ _ st3 fun b _ o e=>by rw [<- hs4];exact keep1 b o e
 generalize hX':cxC X xs ix scope s3.heap.objs.size fp s3 (upd H2 acc (.dK []))=X' at *
 have hg:=hg s3.heap.objs.size fp s3 (upd H2 acc (.dK []))
 have ht:=ht s3.heap.objs.size fp s3 (upd H2 acc (.dK []))
 have he:=he s3.heap.objs.size fp s3 (upd H2 acc (.dK []))
 have hy:=hy s3.heap.objs.size fp s3 (upd H2 acc (.dK []))
 rw [hX'] at hg ht he hy
 have eP:X'.prog=X.prog:=by rw [<- hX'];rfl
 have ew:X'.w=X.w:=by rw [<- hX'];rfl
 have eK:X'.K=X.K:=by rw [<- hX'];rfl
 have eA:X'.A=X.A:=by rw [<- hX'];rfl
 have ec:Reg X':=hreg X' eK (by rw [<- hX'];rfl) (by rw [<- hX'];rfl)
 have ex:X'.xe=fun _ _=>False:=by rw [<- hX'];rfl
 have eenv:X'.env=compEnvC scope (clF X.env scope.names []) s3.heap.objs.size X.env:=by rw [<- hX'];rfl
 have eex:X'.ex=fp:=by rw [<- hX'];rfl
 have efs:X'.fs=frs X.stack:=by rw [<- hX'];rfl
 have epn:X'.pn=[]:=by rw [<- hX'];rfl
 have eH0:X'.H₀=upd H2 acc (.dK []):=by rw [<- hX'];rfl
 have es0:X'.s₀=s3:=by rw [<- hX'];rfl
 have eloc:X'.env.locals=s3.heap.objs.size:=by rw [eenv];rfl
 have stat:∀ {H':Hp},(∀ b ∈ fp,H' b=none)->∀ b ∈ fp,uS X' [] H' b:=fun {H'} hn b hb=>by
  refine ⟨hn b hb,?_,?_,.inl (by rw [eex];exact hb),?_,?_⟩
  ·rw [eloc]
   intro z
   obtain ⟨o,ho⟩:=o3 b hb
   exact Nat.lt_irrefl _ (Nat.lt_of_lt_of_eq (Heap.lt_size ho) z.symm)
  ·exact I4.ok.exfs b (by rw [eex];exact hb)
  ·exact (I4.ok.exf b (by rw [eex];exact hb)).2
  ·rw [epn];intro p hp;exact absurd hp (by simp)
 have loop:codeAny (model X.prog X.w) X.A (.compLoop (.DictComp kx vx [⟨tg,iter,ifs,0⟩] scope pos) 0 (.ref it) (.ref acc) X'.env) (compPost (model X.prog X.w) X.A X.xe use R (.ref acc) s3.heap.objs.size) s4:=by
  refine zAN (fun n s'=>∃ i ys τ H',Inv X' [] τ H' s'/\tn i s'.heap/\(∀ b ∈ fp,H' b=none)/\W i n ys τ H') ?_ m0 ⟨0,[],_,_,I4,st4,fun b hb=>(f3 b hb).1,w0⟩
  rintro n s5 ⟨i,ys,τ,H5,I5,st5,fr5,w5⟩
  obtain ⟨ha5,hz5,way⟩:=turn i n ys τ H5 w5
  rcases way with ⟨stop,qn⟩ | ⟨go,N,hN,step⟩
  ·have d:=T.done X' eP ew ec i [] s5 τ H5 (fun _ _=>False) I5 (stat fr5) st5 stop
   rw [eA] at d
   refine thn d fun r s6 hz62=>?_
   obtain ⟨hr,I6⟩:=hz62
   subst hr
   obtain ⟨m,hn6,_⟩:=id I6.loc
   rw [eloc] at hn6
   refine fin acc s3.heap.objs.size H5 s6 m qn hn6 (fun h' hsb tk=>?_) ⟨I3.sz,Ne.symm (zGY I3.lt),fun x c e z=>by
    obtain ⟨v,oc,hoc,_⟩:=I3.cell x c e
    exact Nat.lt_irrefl _ (Nat.lt_of_lt_of_eq (Heap.lt_size hoc) z.symm),fun p hp z=>Nat.lt_irrefl _ (Nat.lt_of_lt_of_eq (Heap.lt_size (I3.pin p hp).1) z.symm),by have:=I6.free;rw [eloc] at this;exact this⟩
   have same:∀ b,b ≠ s3.heap.objs.size->h'.get? b=s6.heap.get? b:=fun b hb=>hsb.2 b hb
   have ub:=I6.base
   rw [efs,eex,eH0,es0] at ub
   have ne3:∀ b o,s3.heap.get? b=some o->b ≠ s3.heap.objs.size:=fun b o e=>zGY (Heap.lt_size e)
   have u:Un (frs X.stack) fp (upd H2 acc (.dK [])) H5 s3.heap h':=
    ⟨fun b o e n1 n2 n3=>(same b (ne3 b o e)).trans (ub.keep b o e n1 n2 n3),fun b o e n1 n2 n3=>by
      obtain ⟨sl,z⟩:=ub.slot b o e n1 n2 n3
      exact ⟨sl,(same b (ne3 b o e)).trans z⟩,ub.free,fun b o e n3=>by
      obtain ⟨o',z⟩:=ub.there b o e n3
      exact ⟨o',(same b (ne3 b o e)).trans z⟩,ub.tups,ub.frzs,ub.tbls⟩
   have fC:H5 s3.heap.objs.size=none:=by have:=I6.free;rw [eloc] at this;exact this
   have hok:HOk X.prog X.w H5 h':=fun b o e=>by
    have z:=I6.hok b o e
    rw [eP,ew] at z
    refine z.stay (fun c u hc q=>(same c ?_).trans q) (fun _ q=>q) fun _ _ q=>q
    intro zc
    rcases hc with q1 | q1
    ·rw [<- q1,zc,fC] at e;cases e
    ·rw [zc,fC] at q1;cases q1
   have hch:∀ b ∈ fp,(b ∈ X.ex \/ X.s₀.heap.objs.size <= b)/\b ≠ X.env.locals/\(∀ x c,X.env.cells.lookup x=some c->c ≠ b)/\∀ p ∈ X.pn ++ pins,p.1 ≠ b:=fun b hb=>by
    obtain ⟨_,f1,_,g3,g4,g5⟩:=f3 b hb
    exact ⟨g3,f1,g4,g5⟩
   have ho:s6.os=s3.os:=by have:=I6.os;rw [es0] at this;exact this
   exact I3.call' (s':={ s6 with heap:=h',toks:=tk }) (ch:=fp) ho u hok I6.bare hch
  ·have d:=T.item X' eP ew ec i [] s5 τ H5 (fun _ _=>False) I5 (stat fr5) st5 go
   rw [eA] at d
   refine thn d fun r s6 hz63=>?_
   obtain ⟨u,hr,h6⟩:=hz63
   subst hr
   refine thn h6 fun _ s7 hz64=>?_
   obtain ⟨x,H7,I7,r7,y7,st7,fr7⟩:=hz64
   have I7':=I7.pinned (stat fr7) (T.obj _ _ st7)
   have dg:=hg _ s7 τ H7 x u _ I7' r7 (step x H7 y7)
   rw [eP,ew,eA,ex] at dg
   refine thn dg fun _ s8 hz65=>?_
   obtain ⟨τ8,H8,I8,q8⟩:=hz65
   have dt:=ht _ s8 τ8 H8 _ I8 q8
   rw [eP,ew,eA,ex] at dt
   refine thn dt fun ok s9 hz66=>?_
   obtain ⟨H9,I9,q9⟩:=hz66
   have again:∀ {τ':St} {H':Hp} {s':Shared},Inv X' ([] ++ vB fp s7.heap) τ' H' s'->Inv X' [] τ' H' s'/\tn (i + 1) s'.heap/\∀ b ∈ fp,H' b=none:=fun {τ' H' s'} Ie=>by
    refine ⟨Ie.unpinned,T.keep _ _ _ st7 fun b hb o e=>(Ie.pin (b,o) (zGL _ (zGL _ (xN hb e)))).1,fun b hb=>?_⟩
    obtain ⟨o,e,_⟩:=T.obj _ _ st7 b hb
    exact (Ie.pin (b,o) (zGL _ (zGL _ (xN hb e)))).2.1
   cases ok with
   | false=>
    rw [if_neg zGZ] at q9 ⊢
    obtain ⟨m',hm,w9⟩:=hN _ _ _ q9
    obtain ⟨z1,z2,z3⟩:=again I9
    exact ⟨m',hm,i + 1,ys,τ8,H9,z1,z2,z3,w9⟩
   | true=>
    rw [if_pos rfl] at q9 ⊢
    have dy:=hy _ s9 τ8 H9 _ I9 q9
    rw [eP,ew,eA,ex] at dy
    refine thn dy fun kv s10 hz67=>?_
    obtain ⟨z,H10,I10,r10,q10⟩:=hz67
    have de:=he _ s10 τ8 H10 _ I10 q10
    rw [eP,ew,eA,ex] at de
    refine thn de fun yv s11 hz68=>?_
    obtain ⟨y,H11,I11,r11,k,ek,ha11,n11⟩:=hz68
    subst ek
    obtain ⟨m',hm,w11⟩:=hN _ _ _ n11
    have dm:=gW (X:=X') (A:=X.A) (E:=fun _ _=>False) (Q:=fun _ s'=>∃ m,m < n/\∃ i ys τ H',Inv X' [] τ H' s'/\tn i s'.heap/\(∀ b ∈ fp,H' b=none)/\W i m ys τ H') I11 ha11 hz5 r10 r11 fun s12 I12=>by
     obtain ⟨z1,z2,z3⟩:=again I12
     exact ⟨m',hm,i + 1,wG ys k y,τ8,_,z1,z2,z3,w11⟩
    rw [eP,ew] at dm
    exact dm
 have e4:({ newEnv scope s3.heap.objs.size X.env.globals (clF X.env scope.names []) X.env.qual none .none (some X.env) builtinsNs with scope:=relabel scope X.env }:Env)=X'.env:=by rw [eenv];rfl
 rw [eenv] at loop
 have self:=T.self X.A 0 s4 (fun it' s'=>codeAny (model X.prog X.w) X.A (.compLoop (.DictComp kx vx [⟨tg,iter,ifs,0⟩] scope pos) 0 it' (.ref acc) (compEnvC scope (clF X.env scope.names []) s3.heap.objs.size X.env)) (compPost (model X.prog X.w) X.A X.xe use R (.ref acc) s3.heap.objs.size) s')
  (notedBy (model X.prog X.w) X.A (compEnvC scope (clF X.env scope.names []) s3.heap.objs.size X.env) fun x s'=>compPost (model X.prog X.w) X.A X.xe use R (.ref acc) s3.heap.objs.size (.error x) s') st4 loop
 exact codeAny_compStart_dict loop self
theorem zAO {X:Cx} {xs:List Str} {ix:List Nat} {scope:Scope} {kx vx tg iter:Expr} {ifs:List Expr} {pos:Pos} {wi:TI} {g:TG} {tt:TT} {ty te:TE}
  (S:xR X xs ix scope) (hc:X.calm=true) (hi:PI X tg iter wi)
  (hg:∀ C fp s H,PG (cxC X xs ix scope C fp s H) tg g) (ht:∀ C fp s H,PTs (cxC X xs ix scope C fp s H) ifs tt) (hy:∀ C fp s H,PE (cxC X xs ix scope C fp s H) kx ty) (he:∀ C fp s H,PE (cxC X xs ix scope C fp s H) vx te)
  {pins:List (Addr × Obj)} {s:Shared} {σ:St} {H:Hp} {Q:VK} (I:Inv X pins σ H s) (h:tDC xs ix wi g tt ty te σ H Q) {use:Option (Value->Sem Unit)} {R:Value->Shared->Prop}
  (fin:∀ (acc C:Addr) (H':Hp) (s':Shared) (m:Str->Option Value),Q (.ref acc) H'->s'.heap.Ns C m->(∀ h',Heap.SameBut C s'.heap h'->∀ tk,Inv X pins σ H' { s' with heap:=h',toks:=tk })->(X.s₀.heap.objs.size <= C/\C ≠ X.env.locals/\(∀ x c,X.env.cells.lookup x=some c->c ≠ C)/\(∀ p ∈ X.pn ++ pins,p.1 ≠ C)/\H' C=none)->compPost (model X.prog X.w) X.A X.xe use R (.ref acc) C (.ok .next) s') :
  wpAny (model X.prog X.w) X.A (eval iter X.env) (fun x s₁=>wpAny (model X.prog X.w) X.A (pyIter x) (fun it s₂=>wpAny (model X.prog X.w) X.A newDict (fun acc s₃=>
   wpAny (model X.prog X.w) X.A (newFunctionEnv scope X.env.globals (clF X.env scope.names []) [] X.env.qual none .none (some X.env)) (fun cenv s₄=>
    codeAny (model X.prog X.w) X.A (.compStart (.DictComp kx vx [⟨tg,iter,ifs,0⟩] scope pos) 0 it acc { cenv with scope:=relabel scope X.env }) (compPost (model X.prog X.w) X.A X.xe use R acc cenv.locals) s₄) X.xe s₃) X.xe s₂) X.xe s₁) X.xe s:=
 cV (Reg:=fun Y=>Y.K=X.K/\Y.calm=true) S (fun Y k c _=>⟨k,c.trans hc⟩)
  (fun pins s σ H R I q=>thn (hi pins s σ H R I q) fun v s1 h1=>thn h1 fun itv s2 h2=>by
   obtain ⟨it,fp,tn,J,H',e,I',T,r⟩:=h2
   exact ⟨it,fp,tn,J,H',e,I',⟨T.mem,T.obj,T.keep,fun Y e1 e2 r=>T.item Y e1 e2 r.1 r.2,fun Y e1 e2 r=>T.done Y e1 e2 r.1 r.2,T.self⟩,r⟩) hg ht hy he I h fin
theorem zE4 {X:Cx} {xs:List Str} {ix:List Nat} {scope:Scope} {kx vx tg iter:Expr} {ifs:List Expr} {pos:Pos} {wi:TI} {g:TG} {tt:TT} {ty te:TE}
  (S:xR X xs ix scope) (hc:X.calm=true) (hi:PI X tg iter wi)
  (hg:∀ C fp s H,PG (cxC X xs ix scope C fp s H) tg g) (ht:∀ C fp s H,PTs (cxC X xs ix scope C fp s H) ifs tt) (hy:∀ C fp s H,PE (cxC X xs ix scope C fp s H) kx ty) (he:∀ C fp s H,PE (cxC X xs ix scope C fp s H) vx te)
  (hs:∀ x,foldedSetIterable iter X.env x=pure x:=by intro _;rfl) :
  PE X (.DictComp kx vx [⟨tg,iter,ifs,0⟩] scope pos) (tDC xs ix wi g tt ty te):=by
 intro pins s σ H Q I h
 have hcl:∀ n,(n,NameKind.free) ∈ scope.names->(X.env.cells.lookup n).isSome=true:=fun n hn=>by
  obtain ⟨c,e⟩:=I.ok.has n (S.fre n hn)
  rw [e];rfl
 rw [arm_eval_DictComp]
 refine wpAny_comprehension_free (use:=none) rfl hs (wS hcl) S.kind S.loc ?_
 refine zAO S hc hi hg ht hy he I h fun acc C H' s' m q hn k _=>?_
 exact ⟨m,hn,fun h' hsb=>⟨.ref acc,H',k h' hsb s'.toks,rfl,q⟩⟩
theorem cU {K:PySem.W.Frag} {a:Addr} {its:List V} {xs:List Str} {ix:List Nat} {g:TG} {ty te:TE} {σ:St} {H1:Hp} {Q:VK} {acc:Addr} (hn:its.length < sizeLine) (Pv:Nat->List (Key × V)->St->Hp->Prop)
  (h0:Pv 0 [] (stC xs ix σ) (upd H1 acc (.dK []))) (hacc:∀ i ys τ H,Pv i ys τ H->H acc=some (.dK ys)/\ys.length <= i/\SqL K H a its)
  (hs:∀ i ys τ H x,its[i]?=some x->Pv i ys τ H->g x τ H fun τ2 H2=>ty τ2 H2 fun z H4=>te τ2 H4 fun y H5=>∃ k,z=kV k/\H5 acc=some (.dK ys)/\Pv (i + 1) (wG ys k y) τ2 (upd H5 acc (.dK (wG ys k y))))
  (hd:∀ ys τ H,Pv its.length ys τ H->Q (.ref acc) H):DCW (Itl K a) xs ix g tI ty te σ H1 acc Q:=by
 refine ⟨fun i m ys τ H=>m=its.length - i/\i <= its.length/\Pv i ys τ H,⟨its.length,by simp,zGH _,h0⟩,?_⟩
 rintro i m ys τ H ⟨rfl,hi,p⟩
 obtain ⟨a1,a2,a3⟩:=hacc i ys τ H p
 refine ⟨a1,by omega,?_⟩
 by_cases hlt:i < its.length
 ·refine .inr ⟨⟨its,its[i],a3,by simp [hlt]⟩,fun ys' τ' H'=>Pv (i + 1) ys' τ' H',fun ys' τ' H' p'=>⟨its.length - (i + 1),by omega,rfl,hlt,p'⟩,fun x H' y=>?_⟩
  obtain ⟨e,y⟩:=y
  subst e
  have ex:=y its a3
  have st:=hs i ys τ H' x ex p
  have e:(fun τ2 H2=>tI τ2 H2 fun b H3=>if b=true then ty τ2 H3 fun z H4=>te τ2 H4 fun y H5=>∃ k,z=kV k/\H5 acc=some (.dK ys)/\Pv (i + 1) (wG ys k y) τ2 (upd H5 acc (.dK (wG ys k y))) else Pv (i + 1) ys τ2 H3) =
    fun τ2 H2=>ty τ2 H2 fun z H4=>te τ2 H4 fun y H5=>∃ k,z=kV k/\H5 acc=some (.dK ys)/\Pv (i + 1) (wG ys k y) τ2 (upd H5 acc (.dK (wG ys k y))):=by
   funext τ2 H2
   simp only [tI,if_true]
  rw [e];exact st
 ·have ei:i=its.length:=by omega
  subst ei
  exact .inl ⟨⟨its,a3,zGG _⟩,hd ys τ H p⟩
end L2
namespace L2
open PySem PySem.Spec PyProof.Rows
section
variable {X:Cx}
end
end L2
namespace L2
open PySem PySem.Spec PyProof.Rows
section
variable {prog:Program} {w:World} {A:Around} {E:Value->Shared->Prop} {s:Shared}
end
section
variable {X:Cx} {e:Expr} {te:TE} {pos p1 p2 p3:Pos} {j1:Nat}
end
end L2
namespace L2
open PySem PySem.Spec PyProof.Rows
section
variable {prog:Program} {w:World} {A:Around} {E:Value->Shared->Prop} {s:Shared}
end
section
variable {X:Cx} {pos:Pos}
end
section
variable {X:Cx}
end
end L2
namespace L2
open PySem PySem.Spec PyProof.Rows
section
variable {prog:Program} {w:World} {A:Around} {E:Value->Shared->Prop} {s:Shared}
open Builtin.Str in
end
section
variable {X:Cx} {pos:Pos}
end
section
variable {X:Cx}
end
section
open PySem.SeqAt
open PySem.AutoSeq1 (wpAny_loadPart')
open PySem.MeetsSeq PySem.MeetsSeq2 PySem.MeetsSeq3
end
section
variable {X:Cx}
end
end L2
namespace L2
open PySem PySem.Spec PyProof.Rows
open PySem.AutoSeq1 (wpAny_loadPart')
section
variable {prog:Program} {w:World} {A:Around} {E:Value->Shared->Prop} {s:Shared}
theorem cN {e it l:Addr} {i:Nat} {c:Int} {its:Array Value} {x old:Value} {Q:Option Value->Shared->Prop}
  (he:IsEnum s.heap e it c old) (hit:s.heap.IsListIter it l i) (hl:s.heap.IsList l its) (hx:its[i]?=some x) (hne:e ≠ it)
  (hQ:∀ h',IsEnumOut h' e it (c + 1) x s.heap.objs.size->h'.IsListIter it l (i + 1)->h'.get? s.heap.objs.size=some { cls:=.type "tuple",data:=.seq #[.int c s.toks,x] } ->
   (∀ b o,b ≠ e->b ≠ it->s.heap.get? b=some o->h'.get? b=some o)->Q (some (.ref s.heap.objs.size)) { s with heap:=h',toks:=s.toks + 1 }) :
  wpAny (model prog w) A (pyNext (.ref e)) Q E s:=by
 have hT:s.TypeIs (.ref e) "enumerate":=⟨_,he,rfl⟩
 unfold pyNext
 refine wpAny_bind (wpAny_attempt (wpAny_callSpecial?_slot (name:=Str.ofString "__next__") hT F.slot_enumerate_next (wpAny_call_entry F.slot_enumerate_next hT F.entry_enumerate_next ?_ (F.args_enumerate_next_1 _))))
 obtain ⟨h0,ge,dr,tk,so⟩:=s
 show wpAny _ _ (field (.ref e) 2 >>= _) _ _ _
 refine wpAny_bind (wpAny_field he rfl (x:=.ref it) rfl (wpAny_bind (wpAny_nextOf_list_item hit hl hx fun h1 i1 s1=>?_)))
 replace s1:Heap.SameBut it h0 h1:=s1
 have e1:IsEnum h1 e it c old:=(s1.2 e hne).trans he
 show wpAny _ _ (field (.ref e) 3 >>= _) _ _ ⟨h1,ge,dr,tk,so⟩
 refine wpAny_bind (wpAny_field e1 rfl (x:=rawInt c) rfl ?_)
 show wpAny _ _ (field (.ref e) 4 >>= _) _ _ ⟨h1,ge,dr,tk,so⟩
 refine wpAny_bind (wpAny_field e1 rfl (x:=.none) rfl ?_)
 show wpAny _ _ (mkInt c >>= _) _ _ ⟨h1,ge,dr,tk,so⟩
 refine wpAny_bind (wpAny_mkInt ?_)
 show wpAny _ _ (setField (.ref e) 3 (rawInt (c + 1)) >>= _) _ _ ⟨h1,ge,dr,tk + 1,so⟩
 refine wpAny_bind (wpAny_setField_rec e1 (by simp) fun h2 e2 s2=>?_)
 replace s2:Heap.SameBut e h1 h2:=s2
 replace e2:IsEnum h2 e it (c + 1) old:=e2
 show wpAny _ _ (setField (.ref e) 4 .none >>= _) _ _ ⟨h2,ge,dr,tk + 1,so⟩
 refine wpAny_bind (wpAny_setField_rec e2 (by simp) fun h3 e3 s3=>?_)
 replace s3:Heap.SameBut e h2 h3:=s3
 replace e3:IsEnum h3 e it (c + 1) old:=e3
 show wpAny _ _ (newTuple [.int c tk,x] >>= _) _ _ ⟨h3,ge,dr,tk + 1,so⟩
 refine wpAny_bind (wpAny_newTuple ?_)
 have e4:IsEnum (h3.push { cls:=.type "tuple",data:=.seq #[.int c tk,x] }) e it (c + 1) old:=Heap.get?_push_of_some _ e3
 generalize hh4:h3.push { cls:=.type "tuple",data:=.seq #[.int c tk,x] }=h4 at e4
 have zz:h3.objs.size=h0.objs.size:=by rw [s3.1,s2.1,s1.1]
 have lt:e < h0.objs.size:=Heap.lt_size he
 have t4:h4.get? h0.objs.size=some { cls:=.type "tuple",data:=.seq #[.int c tk,x] }:=by
  rw [<- hh4,<- zz];exact Heap.get?_push_size _ rfl
 have k4:∀ b o,b ≠ e->b ≠ it->h0.get? b=some o->h4.get? b=some o:=fun b o n1 n2 hb=>by
  rw [<- hh4]
  exact Heap.get?_push_of_some _ (s3.extBut b o n1 (s2.extBut b o n1 (s1.extBut b o n2 hb)))
 have i4:h4.IsListIter it l (i + 1):=by
  rw [<- hh4]
  obtain ⟨o,ho,r⟩:=(i1.extBut s2.extBut (Ne.symm hne)).extBut s3.extBut (Ne.symm hne)
  exact ⟨o,Heap.get?_push_of_some _ ho,r⟩
 show wpAny _ _ (Builtin.SmallTypes.ownedTupleIsFree (.ref e) >>= _) _ _ ⟨h4,ge,dr,tk + 1,so⟩
 rw [zz]
 refine wpAny_bind ?_
 unfold Builtin.SmallTypes.ownedTupleIsFree
 refine wpAny_bind (wpAny_field e4 rfl (x:=.none) rfl (wpAny_pure ?_))
 simp only [if_true]
 refine wpAny_bind (wpAny_rule (wpAny_bind (wpAny_field e4 rfl (x:=old) rfl ?_)))
 refine wpAny_bind (wpAny_setField_rec e4 (by simp) fun h5 e5 s5=>?_)
 replace s5:Heap.SameBut e h4 h5:=s5
 replace e5:IsEnum h5 e it (c + 1) x:=e5
 show wpAny _ _ (Builtin.SmallTypes.ownedTupleHandOut (.ref e) (.ref h0.objs.size) >>= _) _ _ ⟨h5,ge,dr,tk + 1,so⟩
 refine wpAny_bind ?_
 unfold Builtin.SmallTypes.ownedTupleHandOut
 refine wpAny_bind (wpAny_setField_rec e5 (by simp) fun h6 e6 s6=>?_)
 replace s6:Heap.SameBut e h5 h6:=s6
 replace e6:IsEnumOut h6 e it (c + 1) x h0.objs.size:=e6
 refine wpAny_setField_rec e6 (by simp) fun h7 e7 s7=>?_
 replace s7:Heap.SameBut e h6 h7:=s7
 replace e7:IsEnumOut h7 e it (c + 1) x h0.objs.size:=e7
 refine wpAny_bind (wpAny_letGo (wpAny_pure ⟨_,rfl,wpAny_pure (hQ h7 e7 ?_ ?_ ?_)⟩))
 ·exact ((i4.extBut s5.extBut (Ne.symm hne)).extBut s6.extBut (Ne.symm hne)).extBut s7.extBut (Ne.symm hne)
 ·exact s7.extBut _ _ (Nat.ne_of_gt lt) (s6.extBut _ _ (Nat.ne_of_gt lt) (s5.extBut _ _ (Nat.ne_of_gt lt) t4))
 ·exact fun b o n1 n2 hb=>s7.extBut b o n1 (s6.extBut b o n1 (s5.extBut b o n1 (k4 b o n1 n2 hb)))
theorem zAJ {e it l:Addr} {i:Nat} {c:Int} {its:Array Value} {old:Value} {Q:Option Value->Shared->Prop} (hh:A.handled=none) (he:IsEnum s.heap e it c old) (hit:s.heap.IsListIter it l i) (hl:s.heap.IsList l its) (hx:its[i]?=none)
  (hQ:∀ h',Heap.ExtBut it s.heap h'->Q none { s with heap:=h' }):wpAny (model prog w) A (pyNext (.ref e)) Q E s:=by
 have hT:s.TypeIs (.ref e) "enumerate":=⟨_,he,rfl⟩
 unfold pyNext
 refine wpAny_bind (wpAny_attempt (wpAny_callSpecial?_slot (name:=Str.ofString "__next__") hT F.slot_enumerate_next (wpAny_call_entry F.slot_enumerate_next hT F.entry_enumerate_next ?_ (F.args_enumerate_next_1 _))))
 show wpAny _ _ (field (.ref e) 2 >>= _) _ _ _
 refine wpAny_bind (wpAny_field he rfl (x:=.ref it) rfl (wpAny_bind (wpAny_nextOf_list_end hh hit hl hx fun h' x he' hx'=>?_)))
 obtain ⟨o,ho,hc⟩:=hx'
 exact wpAny_bind (wpAny_isInstance (T:="StopIteration") (b:=true) ⟨o,ho,hc⟩ isSubtype_stop (wpAny_pure (hQ _ he')))
end
theorem Inv.turnedT {X:Cx} {pins:List (Addr × Obj)} {σ:St} {H:Hp} {s:Shared} {h':Heap} {t':Nat} {a b T:Addr} {xs:List V} (I:Inv X pins σ H s) (k:∀ c o,c ≠ a->c ≠ b->s.heap.get? c=some o->h'.get? c=some o)
  (fa:uS X pins H a) (fb:uS X pins H b) (hT:s.heap.objs.size <= T) (new:xF X.prog X.w (upd H T (.tup xs)) h' T (.tup xs)):Inv X pins σ (upd H T (.tup xs)) { s with heap:=h',toks:=t' }:=by
 have nT:H T=none:=I.hok.fresh hT
 have na:∀ c u,H c=some u->c ≠ a:=fun c u e z=>by rw [z,fa.1] at e;cases e
 have nb:∀ c u,H c=some u->c ≠ b:=fun c u e z=>by rw [z,fb.1] at e;cases e
 have kk:∀ c o,c ∉ [a,b]->s.heap.get? c=some o->h'.get? c=some o:=fun c o hc e=>k c o (fun z=>hc (by simp [z])) (fun z=>hc (by simp [z])) e
 refine I.step (g':=s.gens) (d':=s.drawn) (ch:=[a,b]) (fun c hc=>?_) (fun c o _ _ hc e _=>kk c o hc e) (fun c o _ _ hc e _=>⟨o.slots,kk c o hc e⟩) (fun c o _ e n=>by rw [zI (zGY (zGT (Heap.lt_size e) hT))];exact n)
  (fun c o hc e=>⟨o,kk c o hc e⟩) (fun c ys e=>by rw [zI (zH e nT)];exact e) (fun c o u e=>by rw [zI (zH e nT)];exact e) (fun c ps e=>⟨#[],by rw [zI (zH e nT),e];simp⟩) (fun m hm=>?_) (fun c u e=>?_) I.bare
 ·rcases List.mem_cons.mp hc with rfl | hc
  ·exact ⟨fa.2.2.2.1,fa.2.1,fa.2.2.2.2.1,fa.2.2.2.2.2⟩
  ·rw [zGA.mp hc]
   exact ⟨fb.2.2.2.1,fb.2.1,fb.2.2.2.2.1,fb.2.2.2.2.2⟩
 ·obtain ⟨o,es,ep,ho,r⟩:=hm
  exact ⟨o,es,ep,k _ o (Ne.symm fa.2.1) (Ne.symm fb.2.1) ho,r⟩
 ·by_cases hc:c=T
  ·subst hc;rw [zB] at e;cases e;exact new
  ·rw [zI hc] at e
   refine (I.hok c u e).stay (fun d v hd q=>?_) (fun d q=>by rw [zI (zH q nT)];exact q) fun d ys q=>by rw [zI (zH q nT)];exact q
   rcases hd with z | z
   ·rw [z] at q ⊢;exact k c v (na c u e) (nb c u e) q
   ·exact k d v (na d _ z) (nb d _ z) q
def Ite (K:PySem.W.Frag) (a:Addr) (k:Int):It:=
 ⟨fun i H=>∃ xs x,SqL K H a xs/\xs[i]?=some x,fun i H x H'=>∃ T v,x=.ref T/\H T=none/\H'=upd H T (.tup [.int (k + i),v])/\∀ xs,SqL K H a xs->xs[i]?=some v,fun i H=>∃ xs,SqL K H a xs/\xs.length <= i⟩
theorem iV {P:Program} {w:World} {K:PySem.W.Frag} {elts:List Expr} {n:Nat} {tp:Pos} (a e it:Addr) (k:Int) (hne:e ≠ it):bD P w K (.Tuple elts n tp) (Ite K a k) [e,it] e (fun i h=>(∃ old,IsEnum h e it (k + i) old)/\h.IsListIter it a i) where
 mem:=by simp
 obj:=fun i h st b hb=>by
  obtain ⟨⟨old,he⟩,o,ho,c,d⟩:=st
  rcases List.mem_cons.mp hb with rfl | hb
  ·exact ⟨_,he,fun v z=>by cases z⟩
  ·rw [zGA.mp hb]
   exact ⟨o,ho,fun v z=>by rw [d] at z;cases z⟩
 keep:=fun i h h' st kk=>⟨let ⟨old,he⟩:=st.1;⟨old,kk e (by simp) _ he⟩,st.2.at fun o z=>kk it (by simp) o z⟩
 item:=by
  intro X hP hw hK hc i pins s σ H E I hf st hg
  subst hP hw hK
  obtain ⟨xs,x,hq,hx⟩:=hg
  obtain ⟨⟨old,he⟩,hit⟩:=st
  obtain ⟨its,rv,p,hz⟩:=I.list hq
  obtain ⟨u,hu,ru⟩:=rv.get hx
  refine cN he hit p.isList (x:=u) (by simpa using hu) hne fun h' eo it' tt kp=>?_
  refine ⟨_,rfl,wpAny_letOwnedTupleGo_enum eo fun h2 e2 s2=>?_⟩
  have el:e < s.heap.objs.size:=Heap.lt_size he
  have il:it < s.heap.objs.size:=by obtain ⟨o,ho,_⟩:=hit;exact Heap.lt_size ho
  have tt2:h2.get? s.heap.objs.size=some { cls:=.type "tuple",data:=.seq #[.int (k + i) s.toks,u] }:=(s2.2 _ (Nat.ne_of_gt el)).trans tt
  have I1:Inv X pins σ (upd H s.heap.objs.size (.tup [.int (k + i),x])) { s with heap:=h2,toks:=s.toks + 1 }:=I.turnedT (fun c o n1 n2 z=>(s2.2 c n1).trans (kp c o n1 n2 z)) (hf e (by simp)) (hf it (by simp)) (zGG _)
   ⟨by show 2 <= sizeLine;decide,[.int (k + i) s.toks,u],.cons ⟨_,rfl⟩ (.cons ru .nil),_,tt2,rfl,_,rfl⟩
  refine ⟨.ref s.heap.objs.size,_,I1,rfl,⟨s.heap.objs.size,x,rfl,I.hok.fresh (zGG _),rfl,fun ys hy=>by rw [I.list_inj hy hq];exact hx⟩,⟨⟨u,by have z:=e2;rw [show k + (i:Int) + 1=k + ((i + 1:Nat):Int) by omega] at z;exact z⟩,it'.at fun o z=>(s2.2 it (Ne.symm hne)).trans z⟩,fun b hb=>?_⟩
  have bl:b ≠ s.heap.objs.size:=by
   rcases List.mem_cons.mp hb with rfl | hb
   ·exact zGY el
   ·rw [zGA.mp hb];exact zGY il
  rw [zI bl]
  exact (hf b hb).1
 done:=by
  intro X hP hw hK hc i pins s σ H E I hf st hg
  subst hP hw hK
  obtain ⟨xs,hq,hx⟩:=hg
  obtain ⟨⟨old,he⟩,hit⟩:=st
  obtain ⟨its,rv,p,hz⟩:=I.list hq
  obtain ⟨f0,f1,f2,f3,f4,f5⟩:=hf it (by simp)
  have hl:=rv.length
  exact zAJ (I.ok.hd hc) he hit p.isList (by simp;omega) fun h' eb=>⟨rfl,I.turned (t':=s.toks) (fun b o hb z=>eb b o hb z) f0 f1 f3 f4 f5⟩
 self:=fun _ _ _ _ _ st h=>by
  obtain ⟨⟨old,he⟩,_⟩:=st
  exact wpAny_pyIter_enum he h
section
variable {X:Cx}
def zFH (K:PySem.W.Frag) (k:Int) (tl:TE):TI:=fun σ H R=>tl σ H fun x H1=>∃ a,x=.ref a/\(∃ xs,SqL K H1 a xs)/\R (Ite K a k) H1
end
end L2
namespace L2
open PySem PySem.Spec PyProof.Rows
theorem bH (g1:Comprehension) (elt target iter:Expr) (ifs:List Expr) (scope:Scope) (pos:Pos) (it acc:Value) (env:Env) :
  compTurn (.ListComp elt [g1,⟨target,iter,ifs,0⟩] scope pos) 1 it acc env=(do
   standAt iter.pos
   match <- pyNext it with
   | none=>pure (.done .next)
   | some v=>do
    letOwnedTupleGo target it v
    assign target env v
    let ok <- forIn ifs true fun c r=>if r=true then do let ok <- isTrue c env (eval c env);pure (ForInStep.yield ok) else pure (ForInStep.yield r)
    if ok=true then do
     (do let z <- eval elt env;let _ <- call (.builtin "list.append") [acc,z])
     again (.compLoop (.ListComp elt [g1,⟨target,iter,ifs,0⟩] scope pos) 1 it acc env)
    else again (.compLoop (.ListComp elt [g1,⟨target,iter,ifs,0⟩] scope pos) 1 it acc env)):=rfl
theorem fH (elt target iter tg2 iter2:Expr) (ifs ifs2:List Expr) (scope:Scope) (pos:Pos) (it acc:Value) (env:Env) :
  compTurn (.ListComp elt [⟨target,iter,ifs,0⟩,⟨tg2,iter2,ifs2,0⟩] scope pos) 0 it acc env=(do
   standAt iter.pos
   match <- pyNext it with
   | none=>pure (.done .next)
   | some v=>do
    letOwnedTupleGo target it v
    assign target env v
    let ok <- forIn ifs true fun c r=>if r=true then do let ok <- isTrue c env (eval c env);pure (ForInStep.yield ok) else pure (ForInStep.yield r)
    if ok=true then do
     let x <- eval iter2 env
     standAt iter2.pos
     let x <- foldedSetIterable iter2 env x
     let _ <- runOwn (.compStart (.ListComp elt [⟨target,iter,ifs,0⟩,⟨tg2,iter2,ifs2,0⟩] scope pos) 1 (<- holding [x] (pyIter x)) acc env) env
     again (.compLoop (.ListComp elt [⟨target,iter,ifs,0⟩,⟨tg2,iter2,ifs2,0⟩] scope pos) 0 it acc env)
    else again (.compLoop (.ListComp elt [⟨target,iter,ifs,0⟩,⟨tg2,iter2,ifs2,0⟩] scope pos) 0 it acc env)):=rfl
section
variable {prog:Program} {w:World} {A:Around} {R:Result->Shared->Prop} {s:Shared} {elt target iter tg2 iter2:Expr} {ifs ifs2:List Expr} {scope:Scope} {pos:Pos} {it acc:Value} {env:Env}
theorem fQ {g1:Comprehension} (h0:codeAny (model prog w) A (.compLoop (.ListComp elt [g1,⟨target,iter,ifs,0⟩] scope pos) 1 it acc env) R s)
  (h:wpAny (model prog w) A (pyIter it) (fun it' s'=>codeAny (model prog w) A (.compLoop (.ListComp elt [g1,⟨target,iter,ifs,0⟩] scope pos) 1 it' acc env) R s') (fun _ _=>False) s) :
  codeAny (model prog w) A (.compStart (.ListComp elt [g1,⟨target,iter,ifs,0⟩] scope pos) 1 it acc env) R s:=by
 refine codeAny_of_tree ?_
 show wpAny _ _ ((compStart (.ListComp elt [g1,⟨target,iter,ifs,0⟩] scope pos) 1 it acc env).onRaise (fun x=>do noteFrame x env;standAt theWindowsPlace)) _ _ s
 refine wpAny_notedAt ?_
 unfold compStart;show wpAny _ _ (ask >>= _) _ _ s
 refine wpAny_bind (wpAny_askSetting (wpAny_ite ?_));split
 ·first | exact wpAny_bind (wpAny_pure (wpAny_pure (And.intro rfl h0))) | exact wpAny_pure (And.intro rfl h0)
 ·have hh:wpAny (model prog w) A (pyIter it) (fun it' s'=>codeAny (model prog w) A (.compLoop (.ListComp elt [g1,⟨target,iter,ifs,0⟩] scope pos) 1 it' acc env) R s') (notedBy (model prog w) A env fun x s'=>R (.error x) s') s:=wpAny_mono h (fun _ _ q=>q) fun _ _ q=>q.elim
  refine wpAny_bind (wpAny_rule ?_)
  show wpAny _ _ (standAt iter.pos >>= _) _ _ s
  exact wpAny_bind (wpAny_standAt (wpAny_bind (wpAny_mono hh (fun it' s' h'=>wpAny_pure ⟨rfl,h'⟩) fun _ _ x=>x)))
theorem zFE {g1:Comprehension} (J:Nat->Shared->Prop)
  (turn:∀ n s,J n s->wpAny (model prog w) A (pyNext it) (fun r s1=>match r with
   | none=>R (.ok .next) s1
   | some v=>wpAny (model prog w) A (letOwnedTupleGo target it v) (fun _ s1'=>wpAny (model prog w) A (assign target env v) (fun _ s2=>
     wpAny (model prog w) A (forIn ifs true fun c r=>if r=true then do let ok <- isTrue c env (eval c env);pure (ForInStep.yield ok) else pure (ForInStep.yield r)) (fun ok s3=>
      if ok=true then wpAny (model prog w) A (eval elt env) (fun x s4=>
       wpAny (model prog w) A (call (.builtin "list.append") [acc,x]) (fun _ s5=>∃ m,m < n/\J m s5) (fun _ _=>False) s4) (fun _ _=>False) s3
      else ∃ m,m < n/\J m s3) (fun _ _=>False) s2) (fun _ _=>False) s1') (fun _ _=>False) s1) (fun _ _=>False) s)
  (n:Nat) (h:J n s):codeAny (model prog w) A (.compLoop (.ListComp elt [g1,⟨target,iter,ifs,0⟩] scope pos) 1 it acc env) R s:=by
 refine codeAny_loop rfl J (fun n s hJ=>?_) n h
 have nof:∀ (e:Value) (s':Shared),False->notedBy (model prog w) A env (fun e s'=>R (.error e) s') e s':=fun _ _ f=>f.elim
 show wpAny (model prog w) A ((compTurn (.ListComp elt [g1,⟨target,iter,ifs,0⟩] scope pos) 1 it acc env).onRaise (fun x=>do noteFrame x env;theTreesLotGoes x)) _ _ s
 refine wpAny_noted ?_
 rw [bH]
 refine wpAny_bind (wpAny_standAt (wpAny_bind (wpAny_mono (turn n s hJ) (fun r s1 h1=>?_) nof)))
 cases r with
 | none=>exact wpAny_pure h1
 | some v=>
  refine wpAny_bind (wpAny_mono h1 (fun _ s1' h1'=>?_) nof)
  refine wpAny_bind (wpAny_mono h1' (fun _ s2 h2=>?_) nof)
  refine wpAny_bind (wpAny_mono h2 (fun ok s3 h3=>?_) nof)
  cases ok with
  | false=>exact wpAny_pure ⟨rfl,h3⟩
  | true=>
   refine wpAny_bind (wpAny_bind (wpAny_mono h3 (fun x s4 h4=>?_) nof))
   exact wpAny_bind (wpAny_mono h4 (fun _ s5 h5=>wpAny_pure (wpAny_pure ⟨rfl,h5⟩)) nof)
theorem zDC (hf:∀ x,foldedSetIterable iter2 env x=pure x) (J:Nat->Shared->Prop)
  (turn:∀ n s,J n s->wpAny (model prog w) A (pyNext it) (fun r s1=>match r with
   | none=>R (.ok .next) s1
   | some v=>wpAny (model prog w) A (letOwnedTupleGo target it v) (fun _ s1'=>wpAny (model prog w) A (assign target env v) (fun _ s2=>
     wpAny (model prog w) A (forIn ifs true fun c r=>if r=true then do let ok <- isTrue c env (eval c env);pure (ForInStep.yield ok) else pure (ForInStep.yield r)) (fun ok s3=>
      if ok=true then wpAny (model prog w) A (eval iter2 env) (fun x s4=>wpAny (model prog w) A (pyIter x) (fun it2 s5=>
       codeAny (model prog w) A (.compStart (.ListComp elt [⟨target,iter,ifs,0⟩,⟨tg2,iter2,ifs2,0⟩] scope pos) 1 it2 acc env) (fun r s6=>r=.ok .next/\∃ m,m < n/\J m s6) s5) (fun _ _=>False) s4) (fun _ _=>False) s3
      else ∃ m,m < n/\J m s3) (fun _ _=>False) s2) (fun _ _=>False) s1') (fun _ _=>False) s1) (fun _ _=>False) s)
  (n:Nat) (h:J n s):codeAny (model prog w) A (.compLoop (.ListComp elt [⟨target,iter,ifs,0⟩,⟨tg2,iter2,ifs2,0⟩] scope pos) 0 it acc env) R s:=by
 refine codeAny_loop rfl J (fun n s hJ=>?_) n h
 have nof:∀ (e:Value) (s':Shared),False->notedBy (model prog w) A env (fun e s'=>R (.error e) s') e s':=fun _ _ f=>f.elim
 show wpAny (model prog w) A ((compTurn (.ListComp elt [⟨target,iter,ifs,0⟩,⟨tg2,iter2,ifs2,0⟩] scope pos) 0 it acc env).onRaise (fun x=>do noteFrame x env;theTreesLotGoes x)) _ _ s
 refine wpAny_noted ?_
 rw [fH]
 refine wpAny_bind (wpAny_standAt (wpAny_bind (wpAny_mono (turn n s hJ) (fun r s1 h1=>?_) nof)))
 cases r with
 | none=>exact wpAny_pure h1
 | some v=>
  refine wpAny_bind (wpAny_mono h1 (fun _ s1' h1'=>?_) nof)
  refine wpAny_bind (wpAny_mono h1' (fun _ s2 h2=>?_) nof)
  refine wpAny_bind (wpAny_mono h2 (fun ok s3 h3=>?_) nof)
  cases ok with
  | false=>exact wpAny_pure ⟨rfl,h3⟩
  | true=>
   simp only [if_true]
   refine wpAny_bind (wpAny_mono h3 (fun x s4 h4=>?_) nof)
   refine wpAny_bind (wpAny_standAt ?_)
   rw [hf]
   refine wpAny_bind (wpAny_pure (wpAny_bind (wpAny_holding (wpAny_mono h4 (fun it2 s5 h5=>?_) nof))))
   refine wpAny_bind (wpAny_runOwn (h:=none) ?_)
   rw [Around.mark_none]
   refine codeAny_mono h5 fun r s6 hz69=>?_
   obtain ⟨e,q⟩:=hz69
   subst e
   exact wpAny_pure ⟨rfl,q⟩
end
def INW (J:It) (g:TG) (tt:TT) (te:TE) (acc:Addr) (ys0:List V) (τ0:St) (H0:Hp) (N:List V->St->Hp->Prop):Prop:=
 ∃ W:Nat->Nat->List V->St->Hp->Prop,(∃ m,W 0 m ys0 τ0 H0)/\∀ i m ys τ H,W i m ys τ H->H acc=some (.lst ys)/\ys.length < sizeLine /\
  ((J.stop i H/\N ys τ H) \/ (J.go i H/\∃ M:List V->St->Hp->Prop,(∀ ys' τ' H',M ys' τ' H'->∃ m',m' < m/\W (i + 1) m' ys' τ' H') /\
   ∀ x H',J.yld i H x H'->g x τ H' fun τ2 H2=>tt τ2 H2 fun b H3=>if b=true then te τ2 H3 fun y H4=>H4 acc=some (.lst ys)/\M (ys ++ [y]) τ2 (upd H4 acc (.lst (ys ++ [y]))) else M ys τ2 H3))
def zF6 (J:It) (xs:List Str) (ix:List Nat) (g:TG) (tt:TT) (wi2:TI) (g2:TG) (tt2:TT) (te:TE) (σ:St) (H1:Hp) (acc:Addr) (Q:VK):Prop:=
 ∃ W:Nat->Nat->List V->St->Hp->Prop,(∃ m,W 0 m [] (stC xs ix σ) (upd H1 acc (.lst [])))/\∀ i m ys τ H,W i m ys τ H ->
  ((J.stop i H/\Q (.ref acc) H) \/ (J.go i H/\∃ N:List V->St->Hp->Prop,(∀ ys' τ' H',N ys' τ' H'->∃ m',m' < m/\W (i + 1) m' ys' τ' H') /\
   ∀ x H',J.yld i H x H'->g x τ H' fun τ2 H2=>tt τ2 H2 fun b H3=>if b=true then wi2 τ2 H3 fun J2 H4=>INW J2 g2 tt2 te acc ys τ2 H4 N else N ys τ2 H3))
def zBW (xs:List Str) (ix:List Nat) (wi:TI) (g:TG) (tt:TT) (wi2:TI) (g2:TG) (tt2:TT) (te:TE):TE:=fun σ H Q=>wi σ H fun J H1=>∀ acc,H1 acc=none->zF6 J xs ix g tt wi2 g2 tt2 te σ H1 acc Q
theorem dZ {X:Cx} {xs:List Str} {ix:List Nat} {scope:Scope} {elt tg iter tg2 iter2:Expr} {ifs ifs2:List Expr} {pos:Pos} {wi wi2:TI} {g g2:TG} {tt tt2:TT} {te:TE}
  (S:xR X xs ix scope) (hc:X.calm=true) (hi:PI X tg iter wi) (hi2:∀ C fp s H,PI (cxC X xs ix scope C fp s H) tg2 iter2 wi2) (hf2:∀ env x,foldedSetIterable iter2 env x=pure x)
  (hg:∀ C fp s H,PG (cxC X xs ix scope C fp s H) tg g) (ht:∀ C fp s H,PTs (cxC X xs ix scope C fp s H) ifs tt) (hg2:∀ C fp s H,PG (cxC X xs ix scope C fp s H) tg2 g2) (ht2:∀ C fp s H,PTs (cxC X xs ix scope C fp s H) ifs2 tt2) (he:∀ C fp s H,PE (cxC X xs ix scope C fp s H) elt te)
  {pins:List (Addr × Obj)} {s:Shared} {σ:St} {H:Hp} {Q:VK} (I:Inv X pins σ H s) (h:zBW xs ix wi g tt wi2 g2 tt2 te σ H Q) {use:Option (Value->Sem Unit)} {R:Value->Shared->Prop}
  (fin:∀ (acc C:Addr) (H':Hp) (s':Shared) (m:Str->Option Value),Q (.ref acc) H'->s'.heap.Ns C m->(∀ h',Heap.SameBut C s'.heap h'->∀ tk,Inv X pins σ H' { s' with heap:=h',toks:=tk })->(X.s₀.heap.objs.size <= C/\C ≠ X.env.locals/\(∀ x c,X.env.cells.lookup x=some c->c ≠ C)/\(∀ p ∈ X.pn ++ pins,p.1 ≠ C)/\H' C=none)->compPost (model X.prog X.w) X.A X.xe use R (.ref acc) C (.ok .next) s') :
  wpAny (model X.prog X.w) X.A (eval iter X.env) (fun x s₁=>wpAny (model X.prog X.w) X.A (pyIter x) (fun it s₂=>wpAny (model X.prog X.w) X.A (newList []) (fun acc s₃=>
   wpAny (model X.prog X.w) X.A (newFunctionEnv scope X.env.globals (clF X.env scope.names []) [] X.env.qual none .none (some X.env)) (fun cenv s₄=>
    codeAny (model X.prog X.w) X.A (.compStart (.ListComp elt [⟨tg,iter,ifs,0⟩,⟨tg2,iter2,ifs2,0⟩] scope pos) 0 it acc { cenv with scope:=relabel scope X.env }) (compPost (model X.prog X.w) X.A X.xe use R acc cenv.locals) s₄) X.xe s₃) X.xe s₂) X.xe s₁) X.xe s:=by
 refine thn (hi pins s σ H _ I h) fun v s1 h1=>thn h1 fun itv s2 h2=>?_
 obtain ⟨it,fp,tn,J,H2,rfl,I2,T,st2,f2,q⟩:=h2
 refine wpAny_newObj_type ?_
 have I3:Inv X pins σ (upd H2 s2.heap.objs.size (.lst [])) { s2 with heap:=s2.heap.push { cls:=.type "list",data:=.seq ([]:List Value).toArray },toks:=s2.toks }:=I2.lnew (ys:=[]) (its:=[]) .nil (zGH _)
 obtain ⟨W,⟨m0,w0⟩,turn⟩:=q s2.heap.objs.size I2.fresh
 have objs2:=T.obj 0 _ st2
 have neacc:∀ b ∈ fp,b ≠ s2.heap.objs.size:=fun b hb z=>by
  obtain ⟨o,ho,_⟩:=objs2 b hb
  exact Nat.lt_irrefl _ (Nat.lt_of_lt_of_eq (Heap.lt_size ho) z.symm)
 generalize hacc:s2.heap.objs.size=acc at *
 generalize hs3:({ s2 with heap:=s2.heap.push { cls:=.type "list",data:=.seq ([]:List Value).toArray } }:Shared)=s3
 have I3:Inv X pins σ (upd H2 acc (.lst [])) s3:=by rw [<- hs3];exact I3
 have k3:∀ b o,s2.heap.get? b=some o->s3.heap.get? b=some o:=fun b o e=>by rw [<- hs3];exact Heap.get?_push_of_some _ e
 have f3:∀ b ∈ fp,uS X pins (upd H2 acc (.lst [])) b:=fun b hb=>⟨by rw [zI (neacc b hb)];exact (f2 b hb).1,(f2 b hb).2⟩
 have o3:∀ b ∈ fp,∃ o,s3.heap.get? b=some o:=fun b hb=>let ⟨o,ho,_⟩:=objs2 b hb;⟨o,k3 b o ho⟩
 have st3:tn 0 s3.heap:=T.keep _ _ _ st2 fun b _ o e=>k3 b o e
 refine wpAny_newFunctionEnv S.nocell (by intro y hy;simp at hy) (fun h1 hns1 hsb1=>?_) S.kind
 have keep1:∀ b o,s3.heap.get? b=some o->h1.get? b=some o:=fun b o e=>hsb1.extBut b o (zGY (Heap.lt_size e)) (Heap.get?_push_of_some _ e)
 generalize hs4:({ s3 with heap:=h1,toks:=s3.toks + ([]:List (Str × Value)).length }:Shared)=s4
 have I4:Inv (cxC X xs ix scope s3.heap.objs.size fp s3 (upd H2 acc (.lst []))) [] (stC xs ix σ) (upd H2 acc (.lst [])) s4:=u3 S I3 f3 o3 hns1 keep1 hs4.symm
 have st4:tn 0 s4.heap:=T.keep _ _ _ st3 fun b _ o e=>by rw [<- hs4];exact keep1 b o e
 generalize hX':cxC X xs ix scope s3.heap.objs.size fp s3 (upd H2 acc (.lst []))=X' at *
 have hg:=hg s3.heap.objs.size fp s3 (upd H2 acc (.lst []))
 have ht:=ht s3.heap.objs.size fp s3 (upd H2 acc (.lst []))
 have he:=he s3.heap.objs.size fp s3 (upd H2 acc (.lst []))
 have hg2:=hg2 s3.heap.objs.size fp s3 (upd H2 acc (.lst []))
 have ht2:=ht2 s3.heap.objs.size fp s3 (upd H2 acc (.lst []))
 have hi2:=hi2 s3.heap.objs.size fp s3 (upd H2 acc (.lst []))
 rw [hX'] at hg ht he hg2 ht2 hi2
 have eP:X'.prog=X.prog:=by rw [<- hX'];rfl
 have ew:X'.w=X.w:=by rw [<- hX'];rfl
 have eK:X'.K=X.K:=by rw [<- hX'];rfl
 have eA:X'.A=X.A:=by rw [<- hX'];rfl
 have ec:X'.calm=true:=by rw [<- hX'];exact hc
 have ex:X'.xe=fun _ _=>False:=by rw [<- hX'];rfl
 have eenv:X'.env=compEnvC scope (clF X.env scope.names []) s3.heap.objs.size X.env:=by rw [<- hX'];rfl
 have eex:X'.ex=fp:=by rw [<- hX'];rfl
 have efs:X'.fs=frs X.stack:=by rw [<- hX'];rfl
 have epn:X'.pn=[]:=by rw [<- hX'];rfl
 have eH0:X'.H₀=upd H2 acc (.lst []):=by rw [<- hX'];rfl
 have es0:X'.s₀=s3:=by rw [<- hX'];rfl
 have eloc:X'.env.locals=s3.heap.objs.size:=by rw [eenv];rfl
 have stat:∀ {H':Hp},(∀ b ∈ fp,H' b=none)->∀ b ∈ fp,uS X' [] H' b:=fun {H'} hn b hb=>by
  refine ⟨hn b hb,?_,?_,.inl (by rw [eex];exact hb),?_,?_⟩
  ·rw [eloc]
   intro z
   obtain ⟨o,ho⟩:=o3 b hb
   exact Nat.lt_irrefl _ (Nat.lt_of_lt_of_eq (Heap.lt_size ho) z.symm)
  ·exact I4.ok.exfs b (by rw [eex];exact hb)
  ·exact (I4.ok.exf b (by rw [eex];exact hb)).2
  ·rw [epn];intro p hp;exact absurd hp (by simp)
 have loop:codeAny (model X.prog X.w) X.A (.compLoop (.ListComp elt [⟨tg,iter,ifs,0⟩,⟨tg2,iter2,ifs2,0⟩] scope pos) 0 (.ref it) (.ref acc) X'.env) (compPost (model X.prog X.w) X.A X.xe use R (.ref acc) s3.heap.objs.size) s4:=by
  refine zDC (fun x=>hf2 _ x) (fun n s'=>∃ i ys τ H',Inv X' [] τ H' s'/\tn i s'.heap/\(∀ b ∈ fp,H' b=none)/\W i n ys τ H') ?_ m0 ⟨0,[],_,_,I4,st4,fun b hb=>(f3 b hb).1,w0⟩
  rintro n s5 ⟨i,ys,τ,H5,I5,st5,fr5,w5⟩
  rcases turn i n ys τ H5 w5 with ⟨stop,qn⟩ | ⟨go,N,hN,step⟩
  ·have d:=T.done X' eP ew eK ec i [] s5 τ H5 (fun _ _=>False) I5 (stat fr5) st5 stop
   rw [eA] at d
   refine thn d fun r s6 hz70=>?_
   obtain ⟨hr,I6⟩:=hz70
   subst hr
   obtain ⟨m,hn6,_⟩:=id I6.loc
   rw [eloc] at hn6
   refine fin acc s3.heap.objs.size H5 s6 m qn hn6 (fun h' hsb tk=>?_) ⟨I3.sz,Ne.symm (zGY I3.lt),fun x c e z=>by
    obtain ⟨v,oc,hoc,_⟩:=I3.cell x c e
    exact Nat.lt_irrefl _ (Nat.lt_of_lt_of_eq (Heap.lt_size hoc) z.symm),fun p hp z=>Nat.lt_irrefl _ (Nat.lt_of_lt_of_eq (Heap.lt_size (I3.pin p hp).1) z.symm),by have:=I6.free;rw [eloc] at this;exact this⟩
   have same:∀ b,b ≠ s3.heap.objs.size->h'.get? b=s6.heap.get? b:=fun b hb=>hsb.2 b hb
   have ub:=I6.base
   rw [efs,eex,eH0,es0] at ub
   have ne3:∀ b o,s3.heap.get? b=some o->b ≠ s3.heap.objs.size:=fun b o e=>zGY (Heap.lt_size e)
   have u:Un (frs X.stack) fp (upd H2 acc (.lst [])) H5 s3.heap h':=
    ⟨fun b o e n1 n2 n3=>(same b (ne3 b o e)).trans (ub.keep b o e n1 n2 n3),fun b o e n1 n2 n3=>by
      obtain ⟨sl,z⟩:=ub.slot b o e n1 n2 n3
      exact ⟨sl,(same b (ne3 b o e)).trans z⟩,ub.free,fun b o e n3=>by
      obtain ⟨o',z⟩:=ub.there b o e n3
      exact ⟨o',(same b (ne3 b o e)).trans z⟩,ub.tups,ub.frzs,ub.tbls⟩
   have fC:H5 s3.heap.objs.size=none:=by have:=I6.free;rw [eloc] at this;exact this
   have hok:HOk X.prog X.w H5 h':=fun b o e=>by
    have z:=I6.hok b o e
    rw [eP,ew] at z
    refine z.stay (fun c u hc q=>(same c ?_).trans q) (fun _ q=>q) fun _ _ q=>q
    intro zc
    rcases hc with q1 | q1
    ·rw [<- q1,zc,fC] at e;cases e
    ·rw [zc,fC] at q1;cases q1
   have hch:∀ b ∈ fp,(b ∈ X.ex \/ X.s₀.heap.objs.size <= b)/\b ≠ X.env.locals/\(∀ x c,X.env.cells.lookup x=some c->c ≠ b)/\∀ p ∈ X.pn ++ pins,p.1 ≠ b:=fun b hb=>by
    obtain ⟨_,f1,_,g3,g4,g5⟩:=f3 b hb
    exact ⟨g3,f1,g4,g5⟩
   have ho:s6.os=s3.os:=by have:=I6.os;rw [es0] at this;exact this
   exact I3.call' (s':={ s6 with heap:=h',toks:=tk }) (ch:=fp) ho u hok I6.bare hch
  ·have d:=T.item X' eP ew eK ec i [] s5 τ H5 (fun _ _=>False) I5 (stat fr5) st5 go
   rw [eA] at d
   refine thn d fun r s6 hz71=>?_
   obtain ⟨u,hr,h6⟩:=hz71
   subst hr
   refine thn h6 fun _ s7 hz72=>?_
   obtain ⟨x,H7,I7,r7,y7,st7,fr7⟩:=hz72
   have I7':=I7.pinned (stat fr7) (T.obj _ _ st7)
   have dg:=hg _ s7 τ H7 x u _ I7' r7 (step x H7 y7)
   rw [eP,ew,eA,ex] at dg
   refine thn dg fun _ s8 hz73=>?_
   obtain ⟨τ8,H8,I8,q8⟩:=hz73
   have dt:=ht _ s8 τ8 H8 _ I8 q8
   rw [eP,ew,eA,ex] at dt
   refine thn dt fun ok s9 hz74=>?_
   obtain ⟨H9,I9,q9⟩:=hz74
   have again:∀ {τ':St} {H':Hp} {s':Shared},Inv X' ([] ++ vB fp s7.heap) τ' H' s'->Inv X' [] τ' H' s'/\tn (i + 1) s'.heap/\∀ b ∈ fp,H' b=none:=fun {τ' H' s'} Ie=>by
    refine ⟨Ie.unpinned,T.keep _ _ _ st7 fun b hb o e=>(Ie.pin (b,o) (zGL _ (zGL _ (xN hb e)))).1,fun b hb=>?_⟩
    obtain ⟨o,e,_⟩:=T.obj _ _ st7 b hb
    exact (Ie.pin (b,o) (zGL _ (zGL _ (xN hb e)))).2.1
   cases ok with
   | false=>
    rw [if_neg zGZ] at q9 ⊢
    obtain ⟨m',hm,w9⟩:=hN _ _ _ q9
    obtain ⟨z1,z2,z3⟩:=again I9
    exact ⟨m',hm,i + 1,ys,τ8,H9,z1,z2,z3,w9⟩
   | true=>
    rw [if_pos rfl] at q9 ⊢
    have de:=hi2 _ s9 τ8 H9 _ I9 q9
    rw [eP,ew,eA,ex] at de
    refine thn de fun xv s10 h10=>thn h10 fun itv s11 h11=>?_
    obtain ⟨it2,fp2,tn2,J2,H11,rfl,I11,T2,st11,f11,W2,⟨m2,w2⟩,turn2⟩:=h11
    rw [eP,ew,eK] at T2
    have stat2:∀ {H':Hp},(∀ b ∈ fp2,H' b=none)->∀ b ∈ fp2,uS X' ([] ++ vB fp s7.heap) H' b:=fun hn b hb=>⟨hn b hb,(f11 b hb).2⟩
    have loop2:codeAny (model X.prog X.w) X.A (.compLoop (.ListComp elt [⟨tg,iter,ifs,0⟩,⟨tg2,iter2,ifs2,0⟩] scope pos) 1 (.ref it2) (.ref acc) X'.env) (fun r s12=>r=.ok .next/\∃ m,m < n/\∃ i ys τ H',Inv X' [] τ H' s12/\tn i s12.heap/\(∀ b ∈ fp,H' b=none)/\W i m ys τ H') s11:=by
     refine zFE (fun n2 s'=>∃ i2 ys2 τ2 H',Inv X' ([] ++ vB fp s7.heap) τ2 H' s'/\tn2 i2 s'.heap/\(∀ b ∈ fp2,H' b=none)/\W2 i2 n2 ys2 τ2 H') ?_ m2 ⟨0,ys,τ8,H11,I11,st11,fun b hb=>(f11 b hb).1,w2⟩
     rintro n2 s12 ⟨i2,ys2,τ12,H12,I12,st12,fr12,w12⟩
     obtain ⟨ha12,hz12,way2⟩:=turn2 i2 n2 ys2 τ12 H12 w12
     rcases way2 with ⟨stop2,qn2⟩ | ⟨go2,N2,hN2,step2⟩
     ·have d2:=T2.done X' eP ew eK ec i2 _ s12 τ12 H12 (fun _ _=>False) I12 (stat2 fr12) st12 stop2
      rw [eA] at d2
      refine thn d2 fun r s13 hz75=>?_
      obtain ⟨hr,I13⟩:=hz75
      subst hr
      obtain ⟨m',hm,w13⟩:=hN _ _ _ qn2
      obtain ⟨z1,z2,z3⟩:=again I13
      exact ⟨rfl,m',hm,i + 1,ys2,τ12,H12,z1,z2,z3,w13⟩
     ·have d2:=T2.item X' eP ew eK ec i2 _ s12 τ12 H12 (fun _ _=>False) I12 (stat2 fr12) st12 go2
      rw [eA] at d2
      refine thn d2 fun r s13 hz76=>?_
      obtain ⟨u2,hr,h13⟩:=hz76
      subst hr
      refine thn h13 fun _ s14 hz77=>?_
      obtain ⟨x2,H14,I14,r14,y14,st14,fr14⟩:=hz77
      have I14':=I14.pinned (stat2 fr14) (T2.obj _ _ st14)
      have dg2:=hg2 _ s14 τ12 H14 x2 u2 _ I14' r14 (step2 x2 H14 y14)
      rw [eP,ew,eA,ex] at dg2
      refine thn dg2 fun _ s15 hz78=>?_
      obtain ⟨τ15,H15,I15,q15⟩:=hz78
      have dt2:=ht2 _ s15 τ15 H15 _ I15 q15
      rw [eP,ew,eA,ex] at dt2
      refine thn dt2 fun ok2 s16 hz79=>?_
      obtain ⟨H16,I16,q16⟩:=hz79
      have again2:∀ {τ':St} {H':Hp} {s':Shared},Inv X' (([] ++ vB fp s7.heap) ++ vB fp2 s14.heap) τ' H' s'->Inv X' ([] ++ vB fp s7.heap) τ' H' s'/\tn2 (i2 + 1) s'.heap/\∀ b ∈ fp2,H' b=none:=fun {τ' H' s'} Ie=>by
       refine ⟨Ie.unpinned,T2.keep _ _ _ st14 fun b hb o e=>(Ie.pin (b,o) (zGL _ (zGL _ (xN hb e)))).1,fun b hb=>?_⟩
       obtain ⟨o,e,_⟩:=T2.obj _ _ st14 b hb
       exact (Ie.pin (b,o) (zGL _ (zGL _ (xN hb e)))).2.1
      cases ok2 with
      | false=>
       rw [if_neg zGZ] at q16 ⊢
       obtain ⟨m',hm,w16⟩:=hN2 _ _ _ q16
       obtain ⟨z1,z2,z3⟩:=again2 I16
       exact ⟨m',hm,i2 + 1,ys2,τ15,H16,z1,z2,z3,w16⟩
      | true=>
       rw [if_pos rfl] at q16 ⊢
       have de2:=he _ s16 τ15 H16 _ I16 q16
       rw [eP,ew,eA,ex] at de2
       refine thn de2 fun yv s17 hz80=>?_
       obtain ⟨y,H17,I17,r17,ha17,n17⟩:=hz80
       obtain ⟨m',hm,w17⟩:=hN2 _ _ _ n17
       have dm:=xA (X:=X') _ s17 τ15 H17 (.ref acc) [y] (.ref acc) [yv] (fun v H'=>v=.non/\H'=upd H17 acc (.lst (ys2 ++ [y]))) I17 rfl (.cons r17 .nil) ⟨acc,ys2,y,rfl,rfl,ha17,hz12,rfl,rfl⟩
       rw [eP,ew,eA,ex] at dm
       refine thn dm fun _ s18 hz81=>?_
       obtain ⟨_,H18,I18,_,_,e18⟩:=hz81
       subst e18
       obtain ⟨z1,z2,z3⟩:=again2 I18
       exact ⟨m',hm,i2 + 1,ys2 ++ [y],τ15,_,z1,z2,z3,w17⟩
    exact fQ loop2 (T2.self X.A 0 s11 _ (fun _ _=>False) st11 loop2)
 have e4:({ newEnv scope s3.heap.objs.size X.env.globals (clF X.env scope.names []) X.env.qual none .none (some X.env) builtinsNs with scope:=relabel scope X.env }:Env)=X'.env:=by rw [eenv];rfl
 rw [eenv] at loop
 have self:=T.self X.A 0 s4 (fun it' s'=>codeAny (model X.prog X.w) X.A (.compLoop (.ListComp elt [⟨tg,iter,ifs,0⟩,⟨tg2,iter2,ifs2,0⟩] scope pos) 0 it' (.ref acc) (compEnvC scope (clF X.env scope.names []) s3.heap.objs.size X.env)) (compPost (model X.prog X.w) X.A X.xe use R (.ref acc) s3.heap.objs.size) s')
  (notedBy (model X.prog X.w) X.A (compEnvC scope (clF X.env scope.names []) s3.heap.objs.size X.env) fun x s'=>compPost (model X.prog X.w) X.A X.xe use R (.ref acc) s3.heap.objs.size (.error x) s') st4 loop
 exact codeAny_compStart_list loop self
theorem zCM {X:Cx} {xs:List Str} {ix:List Nat} {scope:Scope} {elt tg iter tg2 iter2:Expr} {ifs ifs2:List Expr} {pos:Pos} {wi wi2:TI} {g g2:TG} {tt tt2:TT} {te:TE} (S:xR X xs ix scope) (hc:X.calm=true) (hi:PI X tg iter wi) (hi2:∀ C fp s H,PI (cxC X xs ix scope C fp s H) tg2 iter2 wi2)
  (hg:∀ C fp s H,PG (cxC X xs ix scope C fp s H) tg g) (ht:∀ C fp s H,PTs (cxC X xs ix scope C fp s H) ifs tt) (hg2:∀ C fp s H,PG (cxC X xs ix scope C fp s H) tg2 g2) (ht2:∀ C fp s H,PTs (cxC X xs ix scope C fp s H) ifs2 tt2)
  (he:∀ C fp s H,PE (cxC X xs ix scope C fp s H) elt te) (hs:∀ x,foldedSetIterable iter X.env x=pure x:=by intro _;rfl) (hf2:∀ env x,foldedSetIterable iter2 env x=pure x:=by intro _ _;rfl) :
  PE X (.ListComp elt [⟨tg,iter,ifs,0⟩,⟨tg2,iter2,ifs2,0⟩] scope pos) (zBW xs ix wi g tt wi2 g2 tt2 te):=by
 intro pins s σ H Q I h
 have hcl:∀ n,(n,NameKind.free) ∈ scope.names->(X.env.cells.lookup n).isSome=true:=fun n hn=>by
  obtain ⟨c,e⟩:=I.ok.has n (S.fre n hn)
  rw [e];rfl
 rw [eval_ListComp]
 refine wpAny_comprehension_free (use:=none) rfl hs (wS hcl) S.kind S.loc ?_
 refine dZ S hc hi hi2 hf2 hg ht hg2 ht2 he I h fun acc C H' s' m q hn k _=>?_
 exact ⟨m,hn,fun h' hsb=>⟨.ref acc,H',k h' hsb s'.toks,rfl,q⟩⟩
theorem aJ {X:Cx} {N:List Str} {sc:Scope} {x y z u:Str} {ix:List Nat} {scope:Scope} {elt iter iter2:Expr} {ifs ifs2:List Expr} {px py pz pu tp tp2 pos:Pos} {tk tk2:Nat} {wi wi2:TI} {tt tt2:TT} {te:TE}
  (hS:tH N sc [x,y,z,u] ix scope) (hi:PI X (.Tuple [.Name x px,.Name y py] tk tp) iter wi) (hi2:∀ C fp s H,PI (cxC X [x,y,z,u] ix scope C fp s H) (.Tuple [.Name z pz,.Name u pu] tk2 tp2) iter2 wi2)
  (ht:∀ C fp s H,PTs (cxC X [x,y,z,u] ix scope C fp s H) ifs tt) (ht2:∀ C fp s H,PTs (cxC X [x,y,z,u] ix scope C fp s H) ifs2 tt2) (he:∀ C fp s H,PE (cxC X [x,y,z,u] ix scope C fp s H) elt te)
  (hN:X.N=N:=by rfl) (hsc:X.env.scope=sc:=by rfl) (hc:X.calm=true:=by rfl) (hs:∀ x,foldedSetIterable iter X.env x=pure x:=by intro _;rfl) (hf2:∀ env x,foldedSetIterable iter2 env x=pure x:=by intro _ _;rfl) :
  PE X (.ListComp elt [⟨.Tuple [.Name x px,.Name y py] tk tp,iter,ifs,0⟩,⟨.Tuple [.Name z pz,.Name u pu] tk2 tp2,iter2,ifs2,0⟩] scope pos)
   (zBW [x,y,z,u] ix wi (gO X.K 2 (uU (xZ 0) (uU (xZ 1) gP))) tt wi2 (gO X.K 2 (uU (xZ 2) (uU (xZ 3) gP))) tt2 te):=by
 have S:=hS.at (X:=X) hN hsc
 have hl:∀ n ∈ [x,y,z,u],∀ C fp s H,(cxC X [x,y,z,u] ix scope C fp s H).env.scope.names.lookup n=some .local:=fun n hn _ _ _ _=>lookup_relabel_local (S.own n hn)
 have l0:=hl x (by simp)
 have l1:=hl y (by simp)
 have l2:=hl z (by simp)
 have l3:=hl u (by simp)
 exact zCM S hc hi hi2 (fun C fp s H=>uI (X:=cxC X [x,y,z,u] ix scope C fp s H) hc (yS (yE S.nd rfl (Or.inl (l0 C fp s H)) (.inr (l0 C fp s H))) (yS (yE S.nd rfl (Or.inl (l1 C fp s H)) (.inr (l1 C fp s H))) vF))) ht
  (fun C fp s H=>uI (X:=cxC X [x,y,z,u] ix scope C fp s H) hc (yS (yE S.nd rfl (Or.inl (l2 C fp s H)) (.inr (l2 C fp s H))) (yS (yE S.nd rfl (Or.inl (l3 C fp s H)) (.inr (l3 C fp s H))) vF))) ht2 he hs hf2
theorem d9 {K:PySem.W.Frag} {a acc:Addr} {its ys0:List V} {g:TG} {te:TE} {τ0:St} {H0:Hp} {N:List V->St->Hp->Prop} (Pv:Nat->List V->St->Hp->Prop) (h0:Pv 0 ys0 τ0 H0) (hacc:∀ i ys τ H,Pv i ys τ H->H acc=some (.lst ys)/\ys.length < sizeLine/\SqL K H a its)
  (hs:∀ i ys τ H x,its[i]?=some x->Pv i ys τ H->g x τ H fun τ2 H2=>te τ2 H2 fun y H4=>H4 acc=some (.lst ys)/\Pv (i + 1) (ys ++ [y]) τ2 (upd H4 acc (.lst (ys ++ [y])))) (hd:∀ ys τ H,Pv its.length ys τ H->N ys τ H):INW (Itl K a) g tI te acc ys0 τ0 H0 N:=by
 refine ⟨fun i m ys τ H=>m=its.length - i/\i <= its.length/\Pv i ys τ H,⟨its.length,by simp,zGH _,h0⟩,?_⟩
 rintro i m ys τ H ⟨rfl,hi,p⟩
 obtain ⟨c1,c2,c3⟩:=hacc i ys τ H p
 refine ⟨c1,c2,?_⟩
 by_cases hlt:i < its.length
 ·refine .inr ⟨⟨its,its[i],c3,by simp [hlt]⟩,Pv (i + 1),fun ys' τ' H' p'=>⟨its.length - (i + 1),by omega,rfl,hlt,p'⟩,fun x H' y=>?_⟩
  obtain ⟨e,y⟩:=y
  subst e
  exact r6 (R:=fun τ2 _=>fun y H4=>H4 acc=some (.lst ys)/\Pv (i + 1) (ys ++ [y]) τ2 (upd H4 acc (.lst (ys ++ [y])))) (hs i ys τ _ x (y its c3) p)
 ·have e:i=its.length:=by omega
  subst e
  exact .inl ⟨⟨its,c3,zGG _⟩,hd ys τ H p⟩
theorem dY {K:PySem.W.Frag} {a acc:Addr} {k:Int} {its:List V} {xs:List Str} {ix:List Nat} {g g2:TG} {tt2:TT} {wi2:TI} {te:TE} {σ:St} {H1:Hp} {Q:VK} (Pv:Nat->List V->St->Hp->Prop) (h0:Pv 0 [] (stC xs ix σ) (upd H1 acc (.lst []))) (hl:∀ i ys τ H,i <= its.length->Pv i ys τ H->SqL K H a its)
  (hs:∀ i ys τ H x T,its[i]?=some x->Pv i ys τ H->H T=none->g (.ref T) τ (upd H T (.tup [.int (k + i),x])) fun τ2 H2=>wi2 τ2 H2 fun J2 H4=>INW J2 g2 tt2 te acc ys τ2 H4 (Pv (i + 1))) (hd:∀ ys τ H,Pv its.length ys τ H->Q (.ref acc) H):zF6 (Ite K a k) xs ix g tI wi2 g2 tt2 te σ H1 acc Q:=by
 refine ⟨fun i m ys τ H=>m=its.length - i/\i <= its.length/\Pv i ys τ H,⟨its.length,by simp,zGH _,h0⟩,?_⟩
 rintro i m ys τ H ⟨rfl,hi,p⟩
 have q:=hl i ys τ H hi p
 by_cases hlt:i < its.length
 ·refine .inr ⟨⟨its,its[i],q,by simp [hlt]⟩,Pv (i + 1),fun ys' τ' H' p'=>⟨its.length - (i + 1),by omega,rfl,hlt,p'⟩,fun x H' y=>?_⟩
  obtain ⟨T,v,rfl,nT,rfl,y⟩:=y
  have e:(fun τ2 H2=>tI τ2 H2 fun b H3=>if b=true then wi2 τ2 H3 fun J2 H4=>INW J2 g2 tt2 te acc ys τ2 H4 (Pv (i + 1)) else Pv (i + 1) ys τ2 H3)=fun τ2 H2=>wi2 τ2 H2 fun J2 H4=>INW J2 g2 tt2 te acc ys τ2 H4 (Pv (i + 1)):=by
   funext τ2 H2
   show (if true=true then wi2 τ2 H2 (fun J2 H4=>INW J2 g2 tt2 te acc ys τ2 H4 (Pv (i + 1))) else Pv (i + 1) ys τ2 H2)=_
   rw [if_pos rfl]
  rw [e]
  exact hs i ys τ H v T (y its q) p nT
 ·have e:i=its.length:=by omega
  subst e
  exact .inl ⟨⟨its,q,zGG _⟩,hd ys τ H p⟩
section
variable {X:Cx}
theorem mP {elts:List Expr} {n:Nat} {tp:Pos} {p pos:Pos} {l:Expr} {tl:TE} (hg:Gl X "enumerate") (hm:X.mg "enumerate"=none) (hl:PE X l tl) (he:starEach [l] X.env=[(false,eval l X.env)]:=by rfl) :
  PI X (.Tuple elts n tp) (.Call (.Name "enumerate" p) [l] [] pos) (zFH X.K 0 tl):=by
 intro pins s σ H R I h
 refine wpAny_Call_Name_kw (sS I hg hm (u:=.type "enumerate") rfl ?_)
 rw [he]
 refine PySem.callWith_type rfl (Calls.evalArgs_plain (Calls.spliced_cons (thn (hl pins s σ H _ I h) fun v s1 hz82=>?_)))
 obtain ⟨x,H1,I1,r1,q1⟩:=hz82
 refine Calls.spliced_nil ?_
 obtain ⟨a,rfl,⟨xs,hq⟩,q⟩:=q1
 cases r1
 obtain ⟨its,rv,pl,hz⟩:=I1.list hq
 refine call_enumerate_list pl.isList fun h' ie il _ kp'=>?_
 refine wpAny_pyIter_enum ie ?_
 refine ⟨s1.heap.objs.size + 1,[s1.heap.objs.size + 1,s1.heap.objs.size],_,_,H1,rfl,I1.kept (t':=s1.toks) kp',iV a (s1.heap.objs.size + 1) s1.heap.objs.size 0 (Nat.succ_ne_self _),⟨⟨.none,by simpa using ie⟩,il⟩,fun b hb=>?_,q⟩
 have hb':s1.heap.objs.size <= b:=by
  rcases List.mem_cons.mp hb with rfl | hb
  ·exact Nat.le_succ _
  ·rw [zGA.mp hb];exact zGG _
 exact I1.fpOk hb' (I1.hok.fresh hb')
end
theorem i5 {X:Cx} {N:List Str} {sc:Scope} {x z y:Str} {ix:List Nat} {scope:Scope} {elt iter:Expr} {ifs:List Expr} {px pz tp cpos pos pos':Pos} {tk:Nat} {wi:TI} {tt:TT} {te:TE} {i:Nat}
  (hN':X.N.Nodup) (hin:X.N[i]?=some y) (hx:Loc X.env.scope y)
  (hS:tH N sc [x,z] ix scope) (hi:PI X (.Tuple [.Name x px,.Name z pz] tk tp) iter wi) (ht:∀ C fp s H,PTs (cxC X [x,z] ix scope C fp s H) ifs tt) (he:∀ C fp s H,PE (cxC X [x,z] ix scope C fp s H) elt te)
  (hN:X.N=N:=by rfl) (hsc:X.env.scope=sc:=by rfl) (hc:X.calm=true:=by rfl)
  (hsw:swapsWith (.ListComp elt [⟨.Tuple [.Name x px,.Name z pz] tk tp,iter,ifs,0⟩] scope cpos) (some (.Name y pos')) pos.line X.env=pure true:=by rfl)
  (hf:X.fn y=true \/ X.env.scope.names.lookup y=some .local:=by first | exact .inl rfl | exact .inr rfl | assumption)
  (hs:∀ x,foldedSetIterable iter X.env x=pure x:=by intro _;rfl) :
  PS X (.Assign [.Name y pos'] (.ListComp elt [⟨.Tuple [.Name x px,.Name z pz] tk tp,iter,ifs,0⟩] scope cpos) pos) (nY (tLC [x,z] ix wi (gO X.K 2 (uU (xZ 0) (uU (xZ 1) gP))) tt te) (xZ i)):=by
 have S:=hS.at (X:=X) hN hsc
 have l0:∀ C fp s H,(cxC X [x,z] ix scope C fp s H).env.scope.names.lookup x=some .local:=fun _ _ _ _=>lookup_relabel_local (S.own x (by simp))
 have l1:∀ C fp s H,(cxC X [x,z] ix scope C fp s H).env.scope.names.lookup z=some .local:=fun _ _ _ _=>lookup_relabel_local (S.own z (by simp))
 exact mO hN' hin hx S hc hi (fun C fp s H=>uI (X:=cxC X [x,z] ix scope C fp s H) hc (yS (yE S.nd rfl (Or.inl (l0 C fp s H)) (.inr (l0 C fp s H))) (yS (yE S.nd rfl (Or.inl (l1 C fp s H)) (.inr (l1 C fp s H))) vF))) ht he hsw hf hs
end L2
namespace L2
open PySem PySem.Spec PyProof.Rows PySem.W
def ltF:V->V->Bool
 | .int a,.int b=>decide (a < b)
 | .bl a,.bl b=>!a && b
 | .str a,.str b=>ltS a b
 | _,_=>false
inductive Kin:List V->List V->Prop
 | nil:Kin [] []
 | int {a b:Int} {xs ys:List V} (h:Kin xs ys):Kin (.int a :: xs) (.int b :: ys)
 | bl {a b:Bool} {xs ys:List V} (h:Kin xs ys):Kin (.bl a :: xs) (.bl b :: ys)
 | str {a b:Str} {xs ys:List V} (h:Kin xs ys):Kin (.str a :: xs) (.str b :: ys)
def uN:List V->List V->Bool
 | a :: as,c :: cs=>if eqV a c=true then uN as cs else ltF a c
 | _,_=>false
theorem gD (a c:V) (as cs:List V):uN (a :: as) (c :: cs)=if eqV a c=true then uN as cs else ltF a c:=rfl
theorem Kin.len {xs ys:List V} (h:Kin xs ys):xs.length=ys.length:=by
 induction h <;> simp_all
section
open PySem.SeqAt
open PySem.AutoSeq1 (wpAny_loadPart')
open PySem.MeetsSeq PySem.MeetsSeq2 PySem.MeetsSeq3
theorem i0 {x y:V} {u v:Value} {xs ys:List V} (hk:Kin (x :: xs) (y :: ys)) (rx:yM x u) (ry:yM y v) (A:Around) (s:Shared) (prog:Program) (w:World) (E:Value->Shared->Prop) (Q:Value->Shared->Prop) (h:Q (.bool (ltF x y)) s) :
  wpAny (model prog w) A (richCompare .Lt u v) Q E s:=by
 cases hk with
 | int _=>obtain ⟨t,rfl⟩:=rx;obtain ⟨t',rfl⟩:=ry;exact (PyProof.Rows.lt_int h:wpAny (model prog w) A (compareOp .Lt _ _) Q E s)
 | str _=>obtain ⟨t,rfl⟩:=rx;obtain ⟨t',rfl⟩:=ry;exact (PyProof.Rows.lt_str h:wpAny (model prog w) A (compareOp .Lt _ _) Q E s)
 | @bl a b _ _ _=>
  cases rx;cases ry
  refine (PyProof.Rows.lt_bool ?_:wpAny (model prog w) A (compareOp .Lt (.bool a) (.bool b)) Q E s)
  cases a <;> cases b <;> exact h
theorem Kin.flat {x y:V} {xs ys:List V} (h:Kin (x :: xs) (y :: ys)):xL x=true/\xL y=true/\Kin xs ys:=by
 cases h <;> exact ⟨rfl,rfl,by assumption⟩
theorem tR (l b:Addr) (items items2:Array Value) (n n2:Nat) (dd dd2:Option Addr) (sl sl2:Array (Option Value)) (ns ms:List V) (hk:Kin ns ms) (hi:yD ns items.toList) (hj:yD ms items2.toList) :
  Meets (Builtin.«tuple.__lt__» ⟨[.ref l,.ref b],[]⟩)
   (fun _ R s=>s.heap.get? l=some { cls:=.type "tuple",dict:=dd,data:=.seq items n,slots:=sl }/\s.heap.get? b=some { cls:=.type "tuple",dict:=dd2,data:=.seq items2 n2,slots:=sl2 } /\
    R (.ok (.ret (.bool (uN ns ms)))) s):=
 .of_wp fun prog w A R s h=>by
  obtain ⟨hp,g,d,tk,os⟩:=s;obtain ⟨hl,hb,h⟩:=h
  have f2:=AutoSeq1.sub_tuple_tuple
  have z1:items.size=ns.length:=by rw [hi.length];simp
  have z2:items2.size=ms.length:=by rw [hj.length];simp
  have zz:items.size=items2.size:=by rw [z1,z2,hk.len]
  wp_walk using wpAny_loadPart' hl,wpAny_loadPart' hb,wpAny_forIn_list _ (fun rest b s'=>b.1=none/\s'=⟨hp,g,d,tk,os⟩/\∃ (vs ws:List Value) (ns' ms':List V),rest=vs.zip ws /\
   yD ns' vs/\yD ms' ws/\Kin ns' ms'/\R (.ok (.ret (.bool (uN ns' ms')))) ⟨hp,g,d,tk,os⟩) _
  case turn=>
   rintro ⟨y,x⟩ rest b s' ⟨hb',rfl,vs,ws,ns',ms',hz,hvi,hwi,hkk,hR⟩
   cases hvi with
   | nil=>rw [List.zip_nil_left] at hz;cases hz
   | @cons a t as ts ra hvi'=>
    cases hwi with
    | nil=>rw [List.zip_nil_right] at hz;cases hz
    | @cons c u cs us rc hwi'=>
     rw [List.zip_cons_cons] at hz
     injection hz with hyx hrest
     injection hyx with hy hx
     subst hy hx
     rw [gD] at hR
     obtain ⟨fa,fc,hk'⟩:=hkk.flat
     have he:SeqAt.EqAt A.in1 ⟨hp,g,d,tk,os⟩ _ _ (eqV a c):=kY ra rc fa fc
     refine wpAny_bind (he prog w _ _ ?_)
     cases e:eqV a c with
     | true=>
      rw [e,if_pos rfl] at hR
      wp_walk
      exact ⟨rfl,rfl,_,_,_,_,hrest,hvi',hwi',hk',hR⟩
     | false=>
      rw [e,if_neg (by simp)] at hR
      have hri:=i0 hkk ra rc A.in1 ⟨hp,g,d,tk,os⟩ prog w
      wp_walk using hri
      exact ⟨_,rfl,by simpa using hR⟩
  case fin=>
   rintro ⟨b1,b2⟩ s' ⟨hb',rfl,vs,ws,ns',ms',hz,hvi,hwi,hkk,hR⟩
   simp only at hb'
   subst hb'
   have hv:uN ns' ms'=decide (items.size < items2.size):=by
    rw [zz,zGN (Nat.lt_irrefl _)]
    cases hvi with
    | nil=>rfl
    | cons ra hv=>
     cases hwi with
     | nil=>cases hkk
     | cons rc hw=>rw [List.zip_cons_cons] at hz;cases hz
   rw [hv] at hR
   wp_walk
   exact ⟨_,rfl,by simpa [Builtin.Tuple.tupleCompareSizes] using hR⟩
  case h=>
   exact ⟨rfl,rfl,items.toList,items2.toList,ns,ms,rfl,hi,hj,hk,h⟩
end
section
variable {X:Cx}
def rLtK:R2:=fun x y H Q=>∃ a b p q,x=.ref a/\y=.ref b/\H a=some (.tup p)/\H b=some (.tup q)/\Kin p q/\Q (.bl (uN p q)) H
theorem zCT (hu:X.A.units < cLine):OpR X (compareOp .Lt) rLtK:=by
 intro pins s σ H x y v u Q I rx ry h
 obtain ⟨a,b,p,q,rfl,rfl,ha,hb,hk,k⟩:=h
 cases rx
 cases ry
 obtain ⟨its,r1,p1,_⟩:=I.tuple (.of ha)
 obtain ⟨its2,r2,p2,_⟩:=I.tuple (.of hb)
 obtain ⟨⟨cls,dd,data,sl⟩,ho,hc,n,hd⟩:=id p1
 obtain ⟨⟨cls2,dd2,data2,sl2⟩,ho2,hc2,n2,hd2⟩:=id p2
 simp only at hc hd hc2 hd2
 subst hc hd hc2 hd2
 exact richCompare_meets_room (op:=.Lt) ⟨_,ho,rfl⟩ ⟨_,ho2,rfl⟩ PySem.F.slot_tuple_lt PySem.F.entry_tuple_lt (PySem.F.args_tuple_lt_2 _ _) (tR a b its.toArray its2.toArray n n2 dd dd2 sl sl2 _ _ hk r1 r2)
  ⟨ho,ho2,(⟨(fun x=>nomatch x),⟨.bl (uN p q),H,I,rfl,k⟩⟩:Value.bool (uN p q) ≠ Value.notImplemented/\EP X pins σ Q (.bool (uN p q)) s)⟩ hu
end
section
variable {prog:Program} {w:World} {A:Around} {R:Result->Shared->Prop} {I:Addr} {fp wr:List Addr} {n:Nat} {P:Nat->Value->Prop} {St:Nat->Heap->Prop} {G:Heap->Prop} {bt:Nat->Nat->Bool} {S:Addr}
def zDX (prog:Program) (w:World) (A:Around) (G:Heap->Prop) (P:Nat->Value->Prop) (bt:Nat->Nat->Bool):Prop:=∀ i j vi vj (s:Shared) (Q E:Value->Shared->Prop),G s.heap->P i vi->P j vj->Q (.bool (bt i j)) s->wpAny (model prog w) A (richCompare .Lt vi vj) Q E s
def zDW (G:Heap->Prop) (wr:List Addr) (S:Addr):Prop:=∀ h h':Heap,G h->(∀ b o,b ∉ wr->b ≠ S->h.get? b=some o->h'.get? b=some o)->G h'
theorem zAA (W:Walks prog w A.in1 I fp wr n P St) (hcmp:zDX prog w A.in1 G P bt) (hSf:S ∉ fp) (hG:zDW G wr S) :
  ∀ (k j:Nat) (s:Shared) (vb:Value) (c:Nat),n - (j + 1)=k->j + 1 <= n->St (j + 1) s.heap->G s.heap->P (argBest bt j) vb->s.heap.get? S=some ⟨.type "list",none,.seq #[vb,vb] c,#[]⟩ ->
  (∀ v h' tk,P (argBest bt (n - 1)) v->(∀ b o,b ∉ wr->b ≠ S->s.heap.get? b=some o->h'.get? b=some o)->R (.ok (.ret v)) ⟨h',s.gens,s.drawn,tk,s.os⟩)->codeAny (model prog w) A (.builtin "min.loop" ⟨[.ref I,.none,.ref S],[]⟩) R s:=by
 have hSw:S ∉ wr:=fun h=>hSf (W.sub _ h)
 have nm:(toString "min" ++ toString ".loop" : String)="min.loop":=by decide
 intro k;induction k with
 | zero=>
  intro j s vb c hk hj hst hg hPb hS hR
  have hin:j + 1=n:=by omega
  refine codeAny_builtin F.entry_min_loop ?_;rw [Around.under_plainId F.plain_min_loop _]
  refine wpAny_bind (m:=seqItems? (.ref S)) (wpAny_seqItems hS rfl ?_)
  refine wpAny_bind (m:=tryCatch (pyNext (.ref I)) _) (wpAny_tryCatch (W.done s _ _ (hin ▸ hst) fun h' tk hk'=>?_))
  have hS':=hk' S _ hSw hS
  refine wpAny_bind (m:=updateSeq S (fun _=>#[])) (wpAny_updateSeq hS' rfl (wpAny_bind (wpAny_letGo (wpAny_pure ?_))))
  exact hR vb _ tk (by rw [<- hin];exact hPb) fun b o hbw hbS e=>(Heap.get?_update_other _ _ (Ne.symm hbS)).trans (hk' b o hbw e)
 | succ k ih=>
  intro j s vb c hk hj hst hg hPb hS hR
  have hlt:j + 1 < n:=by omega
  refine codeAny_builtin F.entry_min_loop ?_;rw [Around.under_plainId F.plain_min_loop _]
  refine wpAny_bind (m:=seqItems? (.ref S)) (wpAny_seqItems hS rfl ?_)
  refine wpAny_bind (m:=tryCatch (pyNext (.ref I)) _) (wpAny_tryCatch (W.item (j + 1) s _ _ hlt hst fun v h' tk hP hst' hk'=>?_))
  have hS':=hk' S _ hSw hS
  have hg':G h':=hG _ _ hg fun b o hbw _ e=>hk' b o hbw e
  refine wpAny_bind (m:=tryCatch (holding [v,v] (richCompare .Lt v vb >>= _)) _) (wpAny_tryCatch (wpAny_holding (wpAny_bind (hcmp (j + 1) (argBest bt j) v vb _ _ _ hg' hP hPb ?_))))
  refine wpAny_bind (wpAny_holding (wpAny_truthy_bool (wpAny_bind (wpAny_letGo (wpAny_pure ?_)))))
  cases hb:bt (j + 1) (argBest bt j) with
  | true=>
   simp only [if_true]
   refine wpAny_bind (wpAny_updateSeq hS' rfl (wpAny_bind (wpAny_letGo ?_)));rw [nm]
   refine wpAny_pure ⟨plainId_quiet F.plain_min_loop _,ih (j + 1) _ v _ (by omega) hlt (W.frame _ _ _ hst' fun b hbf o e=>?_) (hG _ _ hg' fun b o _ hbS e=>?_) (by simp only [argBest,hb,if_true];exact hP) (Heap.get?_update_self _ hS' rfl) fun v' h'' tk'' hP' hk''=>?_⟩
   ·exact (Heap.get?_update_other _ _ fun (h:S=b)=>hSf (by rw [h];exact hbf)).trans e
   ·exact (Heap.get?_update_other _ _ (Ne.symm hbS)).trans e
   ·exact hR v' h'' tk'' hP' fun b o hbw hbS e=>hk'' b o hbw hbS ((Heap.get?_update_other _ _ (Ne.symm hbS)).trans (hk' b o hbw e))
  | false=>
   simp only [Bool.false_eq_true,if_false]
   refine wpAny_bind (wpAny_letGo ?_);rw [nm]
   refine wpAny_pure ⟨plainId_quiet F.plain_min_loop _,ih (j + 1) _ vb c (by omega) hlt hst' hg' (by simp only [argBest,hb,Bool.false_eq_true,if_false];exact hPb) hS' fun v' h'' tk'' hP' hk''=>?_⟩
   exact hR v' h'' tk'' hP' fun b o hbw hbS e=>hk'' b o hbw hbS (hk' b o hbw e)
theorem kK (W:Walks prog w A.in1 I fp wr n P St) (hcmp:zDX prog w A.in1 G P bt) (hSf:S ∉ fp) (hG:zDW G wr S) (hn:0 < n) {s:Shared} {c:Nat} (hst:St 0 s.heap) (hg:G s.heap) (hS:s.heap.get? S=some ⟨.type "list",none,.seq #[] c,#[]⟩)
  (hR:∀ v h' tk,P (argBest bt (n - 1)) v->(∀ b o,b ∉ wr->b ≠ S->s.heap.get? b=some o->h'.get? b=some o)->R (.ok (.ret v)) ⟨h',s.gens,s.drawn,tk,s.os⟩):codeAny (model prog w) A (.builtin "min.loop" ⟨[.ref I,.none,.ref S],[]⟩) R s:=by
 have hSw:S ∉ wr:=fun h=>hSf (W.sub _ h)
 have nm:(toString "min" ++ toString ".loop" : String)="min.loop":=by decide
 refine codeAny_builtin F.entry_min_loop ?_;rw [Around.under_plainId F.plain_min_loop _]
 refine wpAny_bind (m:=seqItems? (.ref S)) (wpAny_seqItems hS rfl ?_)
 refine wpAny_bind (m:=tryCatch (pyNext (.ref I)) _) (wpAny_tryCatch (W.item 0 s _ _ hn hst fun v h' tk hP hst' hk'=>?_))
 have hS':=hk' S _ hSw hS
 have hg':G h':=hG _ _ hg fun b o hbw _ e=>hk' b o hbw e
 refine wpAny_bind (m:=updateSeq S (fun _=>#[v,v])) (wpAny_updateSeq hS' rfl ?_);rw [nm]
 refine wpAny_pure ⟨plainId_quiet F.plain_min_loop _,zAA W hcmp hSf hG _ 0 _ v _ rfl hn (W.frame _ _ _ hst' fun b hbf o e=>?_) (hG _ _ hg' fun b o _ hbS e=>?_) hP (Heap.get?_update_self _ hS' rfl) fun v' h'' tk'' hP' hk''=>?_⟩
 ·exact (Heap.get?_update_other _ _ fun (h:S=b)=>hSf (by rw [h];exact hbf)).trans e
 ·exact (Heap.get?_update_other _ _ (Ne.symm hbS)).trans e
 ·exact hR v' h'' tk'' hP' fun b o hbw hbS e=>hk'' b o hbw hbS ((Heap.get?_update_other _ _ (Ne.symm hbS)).trans (hk' b o hbw e))
end
def pA (rs:List (List V)):Nat:=argBest (fun i j=>uN (rs.getD i []) (rs.getD j [])) (rs.length - 1)
section
variable {X:Cx}
theorem g9 (hc:X.calm=true) (hu:X.A.in1.units < cLine):wW X (.builtin "min") (fun xs H Q=>∃ (a:Addr) (qs:List Addr) (rs:List (List V)),xs=[.ref a]/\H a=some (.lst (qs.map V.ref))/\Paired (fun q r=>H q=some (.tup r)) qs rs/\(∀ r ∈ rs,∀ r' ∈ rs,Kin r r')/\0 < qs.length /\
  ∀ (q:Addr),qs[pA rs]?=some q->Q (.ref q) H):=by
 intro pins s σ H xs us Q I r h
 obtain ⟨a,qs,rs,rfl,hA,hP,hk,hne,q⟩:=h
 obtain ⟨u,rfl,rx⟩:=uT r
 cases rx
 obtain ⟨its,r',pl,hzl⟩:=I.list (.of hA)
 have ei:=oT r'
 subst ei
 have lq:qs.length=rs.length:=zP hP
 have hlt:@LT.lt Nat instLTNat a s.heap.objs.size:=by obtain ⟨_,_,e,_⟩:=pl;exact Heap.lt_size e
 have get:∀ {qs:List Addr} {rs:List (List V)},Paired (fun q r=>H q=some (.tup r)) qs rs->∀ (i:Nat) (x:Addr),qs[i]?=some x->H x=some (.tup (rs.getD i []))/\rs.getD i [] ∈ rs:=by
  intro qs rs h
  induction h with
  | nil=>intro i x e;simp at e
  | cons c r ih=>
   intro i x e
   cases i with
   | zero=>simp at e;subst e;exact ⟨c,by simp⟩
   | succ i=>
    obtain ⟨e1,e2⟩:=ih i x (by simpa using e)
    exact ⟨e1,zGK _ e2⟩
 let G:Heap->Prop:=fun h=>∀ (i:Nat) (x:Addr),qs[i]?=some x->∃ (its:Array Value) (n:Nat) (dd:Option Addr) (sl:Array (Option Value)),h.get? x=some ⟨.type "tuple",dd,.seq its n,sl⟩/\yD (rs.getD i []) its.toList/\@LT.lt Nat instLTNat x s.heap.objs.size
 have g0:G s.heap:=fun i x e=>by
  obtain ⟨its,r1,p1,_⟩:=I.tuple (.of (get hP i x e).1)
  obtain ⟨⟨cls,dd,data,sl⟩,ho,hc,n,hd⟩:=id p1
  simp only at hc hd
  subst hc hd
  exact ⟨its.toArray,n,dd,sl,ho,r1,Heap.lt_size ho⟩
 have nm:(toString "min" ++ toString ".loop" : String)="min.loop":=by decide
 refine call_function_tree F.kind_min F.plain_min F.entry_min (F.args_min1 _) ?_
 refine wpAny_bind (m:=Builtin.Builtins.bindParams "min" ["key","default"] 0 ⟨[],[]⟩) (wpAny_of_eq (show _=pure [none,none] from rfl) (wpAny_bind (wpAny_pure ?_)))
 refine wpAny_bind (wpAny_pyIter_list pl.isList ?_)
 have lg:G (s.heap.push { cls:=.type "list_iterator",data:=.fields #[.ref a,.int 0 0] }):=fun i x e=>by
  obtain ⟨its,n,dd,sl,h1,h2,h3⟩:=g0 i x e
  exact ⟨its,n,dd,sl,Heap.get?_push_of_some _ h1,h2,h3⟩
 have W:=Walks.list (prog:=X.prog) (w:=X.w) (A:=X.A.in1) (show X.A.in1.handled=none from I.ok.hd hc) s.heap.objs.size a (zGY hlt) (qs.map Value.ref).toArray
 have st0:(s.heap.push { cls:=.type "list_iterator",data:=.fields #[.ref a,.int 0 0] }).IsListIter s.heap.objs.size a 0/\(s.heap.push { cls:=.type "list_iterator",data:=.fields #[.ref a,.int 0 0] }).IsList a (qs.map Value.ref).toArray:=⟨⟨_,Heap.get?_push_size _ rfl,rfl,rfl⟩,pl.isList.push _⟩
 generalize hs2:(s.heap.push { cls:=.type "list_iterator",data:=.fields #[.ref a,.int 0 0] })=h2 at *
 have sz2:h2.objs.size=s.heap.objs.size + 1:=by rw [<- hs2,size_push']
 have k2:∀ b o,s.heap.get? b=some o->h2.get? b=some o:=fun b o e=>by rw [<- hs2];exact Heap.get?_push_of_some _ e
 refine wpAny_bind (wpAny_newObj_type ?_)
 rw [nm]
 have hSf:h2.objs.size ∉ [s.heap.objs.size,a]:=by
  simp only [List.mem_cons,zG1,or_false,not_or]
  exact ⟨by omega,by omega⟩
 have hG:zDW G [s.heap.objs.size] h2.objs.size:=fun h h' g k i x e=>by
  obtain ⟨its,n,dd,sl,h1,h2',h3⟩:=g i x e
  exact ⟨its,n,dd,sl,k _ _ (by simp;exact zGY h3) (zGY (by rw [sz2];exact Nat.lt_succ_of_lt h3)) h1,h2',h3⟩
 have hcmp:zDX X.prog X.w X.A.in1 G (fun i v=>(qs.map Value.ref).toArray[i]?=some v) (fun i j=>uN (rs.getD i []) (rs.getD j [])):=by
  intro i j vi vj s' Q' E' g hi hj hq
  simp only [List.getElem?_toArray,zGD] at hi hj
  cases ei:qs[i]? with
  | none=>rw [ei] at hi;cases hi
  | some xi=>
  cases ej:qs[j]? with
  | none=>rw [ej] at hj;cases hj
  | some xj=>
  rw [ei] at hi
  rw [ej] at hj
  cases hi
  cases hj
  obtain ⟨i1,n1,d1,s1,h1,v1,_⟩:=g i xi ei
  obtain ⟨i2,n2,d2,s2,h2,v2,_⟩:=g j xj ej
  exact richCompare_meets_room (op:=.Lt) ⟨_,h1,rfl⟩ ⟨_,h2,rfl⟩ PySem.F.slot_tuple_lt PySem.F.entry_tuple_lt (PySem.F.args_tuple_lt_2 _ _) (tR xi xj i1 i2 n1 n2 d1 d2 s1 s2 _ _ (hk _ (get hP i xi ei).2 _ (get hP j xj ej).2) v1 v2) ⟨h1,h2,⟨(fun x=>nomatch x),hq⟩⟩ hu
 refine wpAny_pure ⟨plainId_quiet F.plain_min_loop _,kK (G:=G) W hcmp hSf hG (by simpa using hne) (W.frame 0 h2 _ st0 fun b _ o e=>Heap.get?_push_of_some _ e) (hG h2 _ lg fun b o _ _ e=>Heap.get?_push_of_some _ e) (Heap.get?_push_size _ rfl) fun v h' tk hPv hk'=>?_⟩
 have hPv':(qs.map Value.ref).toArray[pA rs]?=some v:=by
  unfold pA
  rw [<- lq]
  simpa using hPv
 simp only [List.getElem?_toArray,zGD] at hPv'
 cases eb:qs[pA rs]? with
 | none=>rw [eb] at hPv';cases hPv'
 | some x=>
 rw [eb] at hPv'
 cases hPv'
 refine ⟨.ref x,H,I.kept fun b o e=>hk' b o ?_ ?_ (Heap.get?_push_of_some _ (k2 b o e)),rfl,q x eb⟩
 ·have z:@LT.lt Nat instLTNat b s.heap.objs.size:=Heap.lt_size e
  simp;exact zGY z
 ·have z:@LT.lt Nat instLTNat b s.heap.objs.size:=Heap.lt_size e
  exact zGY (by show @LT.lt Nat _ b h2.objs.size;rw [sz2];exact Nat.lt_succ_of_lt z)
end
end L2
namespace L2
open PySem PySem.Spec PyProof.Rows PySem.W
def nmV (r:Str × List V):List V:=.str r.1 :: r.2
def ltN (a b:Str × List V):Bool:=ltS a.1 b.1
def bF (h:Heap) (v:Value) (z:Str):Prop:=∃ (t:Addr) (o:Obj) (k:Nat) (u:Tok) (l:List Value),v=.ref t/\h.get? t=some o/\o.cls=.type "tuple"/\o.data=.seq (Value.str z u :: l).toArray k
def rL (h:Heap) (vs:List Value) (zs:List Str):Prop:=vs.length=zs.length/\∀ i,i < vs.length->bF h (vs.getD i .none) (zs.getD i Str.empty)
theorem rL.keep {h h':Heap} {a:Addr} {u:Array Value} {n:Nat} (ha:h.get? a=some (seqObj "list" u n)) (k:∀ b o,b ≠ a->h.get? b=some o->h'.get? b=some o) {vs:List Value} {zs:List Str} (x:rL h vs zs):rL h' vs zs:=by
 refine ⟨x.1,fun i hi=>?_⟩
 obtain ⟨t,o,j,t1,l,e1,e2,e3,e4⟩:=x.2 i hi
 refine ⟨t,o,j,t1,l,e1,k t o (fun z=>?_) e2,e3,e4⟩
 rw [z,ha] at e2
 cases e2
 exact absurd e3 (by show ¬ (Value.type "list"=Value.type "tuple");decide)
section
variable {prog:Program} {w:World} {A:Around} {E:Value->Shared->Prop} {s:Shared}
theorem d6 {b:Bool} {C:Bool->Shared->Prop} (h:C false s):∀ (l:List Value) (i:Nat),KatLex prog w A b false C (l.zip l) i s:=by
 intro l
 induction l with
 | nil=>exact fun i=>kat_nil h
 | cons v l ih=>exact fun i=>kat_cons (SeqAt.EqAt.same v prog w _ _ (kat_yes (ih (i + 1))))
theorem c8 {x y:Value} {p q:Str} {C:Bool->Shared->Prop} (hx:bF s.heap x p) (hy:bF s.heap y q) (hxy:p=q->x=y) (h:C (ltS p q) s):wpAny (model prog w) A (keyLt' (tuples' true) x y) C E s:=by
 obtain ⟨t,o,j,t1,l,rfl,e2,_,e4⟩:=hx
 obtain ⟨t',o',j',t2,l',rfl,f2,_,f4⟩:=hy
 by_cases e:p=q
 ·have et:Value.ref t=.ref t':=hxy e
  injection et with et
  subst et
  refine kat_lt e2 e4 e2 e4 ?_
  rw [zGN (Nat.lt_irrefl _)]
  rw [e,dO] at h
  exact d6 h _ 0
 ·refine kat_lt e2 e4 f2 f4 ?_
  simp only [List.zip_cons_cons]
  refine kat_cons (eqBool_str ?_)
  rw [show (p == q)=false by simpa using e]
  exact kat_no (oneLt_str h)
theorem kP {vs:List Value} {zs:List Str} {C:SortKind->Shared->Prop} (x:rL s.heap vs zs) (hne:0 < vs.length) (h:C (tuples' true) s):wpAny (model prog w) A (keyKind' vs.toArray) C E s:=by
 have key:∀ {vs:List Value},(∀ v ∈ vs,∃ z,bF s.heap v z)->∃ fs,KatTups s.heap vs fs/\fs.length=vs.length/\∀ v ∈ fs,∃ z t,v=.str z t:=by
  intro vs
  induction vs with
  | nil=>exact fun _=>⟨[],KatTups.nil,rfl,fun v hv=>by cases hv⟩
  | cons v vs ih=>
   intro x
   obtain ⟨fs,a1,a2,a3⟩:=ih fun u hu=>x u (zGK _ hu)
   obtain ⟨z,t,o,j,t1,l,rfl,e2,e3,e4⟩:=x v zG0
   refine ⟨.str z t1 :: fs,KatTups.cons e2 e3 e4 rfl a1,by rw [zGS,zGS,a2],fun v hv=>?_⟩
   rcases List.mem_cons.mp hv with rfl | hv
   ·exact ⟨_,_,rfl⟩
   ·exact a3 v hv
 obtain ⟨fs,a1,a2,a3⟩:=key (vs:=vs) fun v hv=>by
  obtain ⟨i,hi,e⟩:=List.getElem_of_mem hv
  have z:=x.2 i hi
  rw [zGC,zF8 hi,Option.getD_some,e] at z
  exact ⟨_,z⟩
 refine kat_kind (T:=.type "str") a1 (by omega) (fun v hv=>?_) rfl h
 obtain ⟨z,t,rfl⟩:=a3 v hv
 exact Looks.of_pure rfl
theorem i8 {p:Array Nat} {zs:List Str} {n:Nat} (hp:p.size=n) (u:Up (fun i j=>ltS (zs.getD i Str.empty) (zs.getD j Str.empty)) p n):Asc ltS (wE p zs Str.empty):=by
 refine List.pairwise_iff_getElem.mpr fun i j hi hj hij=>?_
 unfold wE at hi hj ⊢
 rw [zF7,Array.length_toList] at hi hj
 have z:=u i j (Nat.le_of_lt hij) (by omega)
 unfold leK gA at z
 simp only [zG6,Array.getElem?_eq_getElem hi,Array.getElem?_eq_getElem hj,Option.getD_some] at z
 simpa using z
theorem lZ {a:Addr} {vs:List Value} {zs:List Str} {n:Nat} {P:PySem.Fin->Shared->Prop} (hA:s.heap.get? a=some (seqObj "list" vs.toArray n)) (hT:rL s.heap vs zs) (hnd:zs.Nodup) (h64:vs.length < 64)
  (h:∀ (p:Array Nat) (g:Heap) (c:Nat),p.Perm (List.range vs.length).toArray->Asc ltS (wE p zs Str.empty)->(∀ b o,b ≠ a->s.heap.get? b=some o->g.get? b=some o)->g.get? a=some (seqObj "list" (wE p vs .none).toArray c) ->
   P (.done (.ret .none)) { s with heap:=g }):wpAny (model prog w) A (Builtin.«list.sort» ⟨[.ref a],[]⟩) P E s:=by
 have lsz:vs.length <= sizeLine:=by rw [sizeLine_eq];omega
 obtain ⟨e1,hA1⟩:∃ e1,(s.heap.update a (Obj.mapSeq fun _=>(#[]:Array Value))).get? a=some (seqObj "list" #[] e1):=⟨_,get?_update_seq hA fun _=>#[]⟩
 rw [list_sort_plain]
 refine wpAny_bind (listItems_at hA rfl (wpAny_bind (listUpdate_at hA rfl (wpAny_bind (seqEpoch_at hA1 rfl (wpAny_bind (wpAny_newTuple (wpAny_bind (wpAny_newList (wpAny_holding ?_) (zGH _))) lsz)))) (by rw [zGF];exact lsz) (zGH _))))
 obtain ⟨g0,eg⟩:∃ g0,g0=((s.heap.update a (Obj.mapSeq fun _=>(#[]:Array Value))).push (seqObj "tuple" vs.toArray 0)).push (seqObj "list" #[] 0):=⟨_,rfl⟩
 have hA2:g0.get? a=some (seqObj "list" #[] e1):=by rw [eg];exact Heap.get?_push_of_some _ (Heap.get?_push_of_some _ hA1)
 have kp:∀ b o,b ≠ a->s.heap.get? b=some o->g0.get? b=some o:=fun b o hb z=>by
  rw [eg];exact Heap.get?_push_of_some _ (Heap.get?_push_of_some _ ((Heap.get?_update_ne _ _ _ _ hb).trans z))
 show wpAny (model prog w) A _ P E { s with heap:=((s.heap.update a (Obj.mapSeq fun _=>(#[]:Array Value))).push (seqObj "tuple" vs.toArray 0)).push (seqObj "list" #[] 0) }
 rw [<- eg]
 dsimp only
 have hT0:rL g0 vs zs:=hT.keep hA kp
 have fin:∀ (st:SortSt) (p:Array Nat),p.Perm (List.range vs.length).toArray->Asc ltS (wE p zs Str.empty)->(arrOf st).map (·.2)=(wE p vs .none).toArray->failedOf st=none ->
   P (.done (.ret .none)) { s with heap:=g0.update a (Obj.mapSeq fun _=>(arrOf st).map (·.2)) }:=fun st p hp ha ho _=>by
  rw [ho]
  exact h p _ _ hp ha (fun b o hb z=>(Heap.get?_update_ne _ _ _ _ hb).trans (kp b o hb z)) (get?_update_seq hA2 fun _=>(wE p vs .none).toArray)
 by_cases h2:vs.toArray.size < 2
 ·rw [if_pos h2,if_pos h2]
  refine wpAny_bind (wpAny_pure ?_)
  rw [StateT.run_pure]
  refine wpAny_bind (wpAny_pure ?_)
  dsimp only
  have l2:vs.length < 2:=by simpa using h2
  have eo:(arrOf (SortSt.mk' general' (vs.toArray.zip vs.toArray) #[] 7 none)).map (·.2)=(wE (List.range vs.length).toArray vs .none).toArray:=by
   show (vs.toArray.zip vs.toArray).map (·.2)=_
   have lv:vs=[] \/ ∃ v,vs=[v]:=by
    cases vs with
    | nil=>exact .inl rfl
    | cons v r=>cases r with
     | nil=>exact .inr ⟨v,rfl⟩
     | cons _ _=>exact absurd l2 (by simp)
   apply Array.toList_inj.mp
   rcases lv with rfl | ⟨v,rfl⟩
   ·simp [wE]
   ·simp [wE,List.range_succ]
  have z:=fin (SortSt.mk' general' (vs.toArray.zip vs.toArray) #[] 7 none) (List.range vs.length).toArray (.refl _) (by
   unfold wE
   refine List.pairwise_iff_getElem.mpr fun i j hi hj hij=>?_
   simp at hi hj
   omega) eo rfl
  have sz:((arrOf (SortSt.mk' general' (vs.toArray.zip vs.toArray) #[] 7 none)).map (·.2)).size <= sizeLine:=by
   rw [eo];show (wE _ _ _).length <= _;unfold wE;simp;exact lsz
  refine wpAny_bind (seqEpoch_at hA2 rfl (wpAny_bind (listUpdate_at hA2 rfl ?_ (zGH _) (Nat.le_succ_of_le sz))))
  simp only [bne_self_eq_false,Bool.false_eq_true,if_false]
  exact wpAny_pure z
 ·rw [if_neg h2,if_neg h2]
  have l2:2 <= vs.length:=by simpa using h2
  let lt:Nat->Nat->Bool:=fun i j=>ltS (zs.getD i Str.empty) (zs.getD j Str.empty)
  have O:LtO lt:=⟨fun i j q=>dP q,fun i j k q1 q2=>iG q1 q2⟩
  obtain ⟨pp,up⟩:=bO O (n:=vs.length) (by omega)
  have psz:(evK lt (kas_sort vs.length)).size=vs.length:=by rw [pp.size_eq];simp
  refine wpAny_bind (kP (s:={ s with heap:=g0 }) hT0 (by omega) ?_)
  refine wpAny_bind (wpAny_mono (kat_run (κ:=tuples' true) (ks:=vs) (vs:=vs) (G:=fun p s'=>p=evK lt (kas_sort vs.length)/\s' = { s with heap:=g0 })
   (Q:=fun st s'=>(arrOf st).map (·.2)=(wE (evK lt (kas_sort vs.length)) vs .none).toArray/\failedOf st=none/\s' = { s with heap:=g0 }) rfl l2 h64 (fun p st s' _ b2 b3 b4=>⟨by rw [<- b4.1];exact kat_snds rfl b2,b3,b4.2⟩) ?_) ?_ fun _ _ z=>z)
  ·refine zDY (lt:=lt) (Pq:=fun s'=>s' = { s with heap:=g0 }) (fun i j C s' hi hj hs hC=>?_) _ (bN (by omega)) _ rfl fun s' hs=>⟨rfl,hs⟩
   subst hs
   refine c8 (hT0.2 i hi) (hT0.2 j hj) (fun e=>?_) (hC _ rfl)
   have li:i < zs.length:=by rw [<- hT.1];exact hi
   have lj:j < zs.length:=by rw [<- hT.1];exact hj
   simp only [zGC,zF8 li,zF8 lj,Option.getD_some] at e
   rw [(List.getElem_inj hnd).mp e]
  ·rintro ⟨⟨⟩,st⟩ s' ⟨b1,b2,rfl⟩
   dsimp only
   have sz:((arrOf st).map (·.2)).size <= sizeLine:=by
    rw [b1];show (wE _ _ _).length <= _;unfold wE;rw [zF7,Array.length_toList,psz];exact lsz
   refine wpAny_bind (seqEpoch_at hA2 rfl (wpAny_bind (listUpdate_at hA2 rfl ?_ (zGH _) (Nat.le_succ_of_le sz))))
   rw [b2]
   simp only [bne_self_eq_false,Bool.false_eq_true,if_false]
   exact wpAny_pure (fin st _ pp (i8 psz up) b1 b2)
end
section
variable {X:Cx} {pins:List (Addr × Obj)} {σ:St} {H:Hp} {s:Shared}
theorem dI (I:Inv X pins σ H s) {qs:List Addr} {rs:List (Str × List V)} (h:Paired (fun q r=>H q=some (.tup r)) qs (rs.map nmV)):rL s.heap (qs.map Value.ref) (rs.map (·.1)):=by
 have le:=zP h
 rw [zF7] at le
 refine ⟨by simp [le],?_⟩
 have get:∀ {qs:List Addr} {rs:List (Str × List V)},Paired (fun q r=>H q=some (.tup r)) qs (rs.map nmV)->∀ i,i < qs.length->bF s.heap ((qs.map Value.ref).getD i .none) ((rs.map (·.1)).getD i Str.empty):=by
  intro qs
  induction qs with
  | nil=>intro rs _ i hi;exact absurd hi (Nat.not_lt_zero _)
  | cons q qs ih=>
   intro rs h i hi
   cases rs with
   | nil=>cases h
   | cons r rs=>
    cases h with
    | cons h1 h2=>
    cases i with
    | succ i=>exact ih h2 i (by simpa using hi)
    | zero=>
     obtain ⟨its,r1,pl,_⟩:=I.tuple (.of h1)
     obtain ⟨o,ho,hc,n,hd⟩:=pl
     cases r1 with
     | cons r1 r2=>
     obtain ⟨t1,rfl⟩:=r1
     exact ⟨q,o,n,t1,_,rfl,ho,hc,hd⟩
 intro i hi
 exact get h i (by simpa using hi)
theorem nL:wW X (.builtin "sorted") (fun xs H Q=>∃ (a:Addr) (qs:List Addr) (rs:List (Str × List V)),xs=[.ref a]/\H a=some (.lst (qs.map V.ref))/\Paired (fun q r=>H q=some (.tup r)) qs (rs.map nmV)/\(rs.map (·.1)).Nodup/\rs.length < 64 /\
  ∀ (l:Addr) (qs':List Addr) (rs':List (Str × List V)),H l=none->rs'.Perm rs->Asc ltN rs'->Paired (fun q r=>H q=some (.tup r)) qs' (rs'.map nmV)->Q (.ref l) (upd H l (.lst (qs'.map V.ref)))):=by
 intro pins s σ H xs us Q I r h
 obtain ⟨a,qs,rs,rfl,hA,hP,hnd,hz,q⟩:=h
 obtain ⟨u,rfl,rx⟩:=uT r
 cases rx
 obtain ⟨its,r',pl,hzl⟩:=I.list (.of hA)
 have ei:=oT r'
 subst ei
 have lq:qs.length=rs.length:=by have:=zP hP;rwa [zF7] at this
 have lv:(qs.map Value.ref).length < 64:=by rw [zF7];omega
 refine Calls.call_function_entry kind_sorted plain_sorted entry_sorted (args_sorted1 _) ?_
 unfold Builtin.«sorted»
 refine wpAny_bind (m:=checkCount "sorted" 1 1 _) (wpAny_pure (wpAny_bind (collect_list pl.isList (wpAny_bind (wpAny_newList ?_ (by rw [sizeLine_eq];omega))) (by rw [sizeLine_eq];omega))))
 obtain ⟨g0,eg⟩:∃ g0,g0=(s.heap.push (seqObj "list" #[] 0)).update s.heap.objs.size (Obj.mapSeq (· ++ (qs.map Value.ref).toArray)):=⟨_,rfl⟩
 have gs:g0.objs.size=s.heap.objs.size + 1:=by rw [eg,Heap.size_update,size_push']
 have k0:∀ b o,s.heap.get? b=some o->(g0.push (seqObj "list" (qs.map Value.ref).toArray 0)).get? b=some o:=fun b o z=>by
  have hlt:b < s.heap.objs.size:=Heap.lt_size z
  refine Heap.get?_push_of_some _ ?_
  rw [eg,Heap.get?_update_ne _ _ _ _ (zGY hlt)]
  exact Heap.get?_push_of_some _ z
 have hN:(g0.push (seqObj "list" (qs.map Value.ref).toArray 0)).get? (s.heap.objs.size + 1)=some (seqObj "list" (qs.map Value.ref).toArray 0):=by
  rw [<- gs];exact Heap.get?_push_size _ rfl
 show wpAny _ _ _ _ _ { s with heap:=((s.heap.push (seqObj "list" #[] 0)).update s.heap.objs.size (Obj.mapSeq (· ++ (qs.map Value.ref).toArray))).push (seqObj "list" (qs.map Value.ref).toArray 0) }
 rw [<- eg,gs]
 have hnm:rL (g0.push (seqObj "list" (qs.map Value.ref).toArray 0)) (qs.map Value.ref) (rs.map (·.1)):=by
  obtain ⟨e1,e2⟩:=dI I hP
  refine ⟨e1,fun i hi=>?_⟩
  obtain ⟨t,o,j,t1,l,e1,e2,e3,e4⟩:=e2 i hi
  exact ⟨t,o,j,t1,l,e1,k0 t o e2,e3,e4⟩
 refine wpAny_bind (wpAny_holding (wpAny_call_entry slot_list_sort ⟨_,hN,rfl⟩ entry_list_sort (lZ hN hnm hnd lv fun p g c b1 b2 b3 b4=>⟨_,rfl,?_⟩) (args_list_sort _)))
 refine wpAny_pure ⟨_,rfl,?_⟩
 rw [zF7] at b1
 have hin:∀ i ∈ p.toList,i < qs.length:=fun i hi=>by
  have:=(Array.perm_iff_toList_perm.mp b1).mem_iff.mp hi
  simpa using this
 have hin2:∀ i ∈ p.toList,i < rs.length:=fun i hi=>by rw [<- lq];exact hin i hi
 have pq:=mT hP p hin
 have er:wE p (rs.map nmV) []=(wE p rs (Str.empty,[])).map nmV:=qG nmV p rs _ _ hin2
 rw [er] at pq
 have en:wE p (rs.map (·.1)) Str.empty=(wE p rs (Str.empty,[])).map (·.1):=qG (·.1) p rs _ _ hin2
 rw [en] at b2
 have ev:wE p (qs.map Value.ref) .none=(wE p qs 0).map Value.ref:=qG Value.ref p qs _ _ hin
 rw [ev] at b4
 have old:∀ b o,s.heap.get? b=some o->g.get? b=some o:=fun b o z=>b3 b o (zGY (Nat.lt_succ_of_lt (Heap.lt_size z))) (k0 b o z)
 refine ⟨.ref (s.heap.objs.size + 1),_,I.laid (t':=s.toks) (h':=g) (o:=.lst ((wE p qs 0).map V.ref)) old (Nat.le_succ _) ?_,rfl,q _ _ _ (I.hok.fresh (Nat.le_succ _)) (i7 _ (by rw [<- lq];exact b1)) (List.pairwise_map.mp b2) pq⟩
 refine ⟨?_,_,c,pI _,b4⟩
 unfold wE
 rw [zF7,zF7,Array.length_toList,b1.size_eq]
 simp
 rw [sizeLine_eq];omega
end
end L2
namespace L2
open PySem PySem.Spec PyProof.Rows PySem.W
theorem zCO {X:Cx} {N:List Str} {sc:Scope} {x y z:Str} {ix:List Nat} {scope:Scope} {kx vx iter:Expr} {ifs:List Expr} {px py pz tp pos:Pos} {tk:Nat} {wi:TI} {tt:TT} {ty te:TE}
  (hS:tH N sc [x,y,z] ix scope) (hi:PI X (.Tuple [.Name x px,.Name y py,.Name z pz] tk tp) iter wi)
  (ht:∀ C fp s H,PTs (cxC X [x,y,z] ix scope C fp s H) ifs tt) (hy:∀ C fp s H,PE (cxC X [x,y,z] ix scope C fp s H) kx ty) (he:∀ C fp s H,PE (cxC X [x,y,z] ix scope C fp s H) vx te)
  (hN:X.N=N:=by rfl) (hsc:X.env.scope=sc:=by rfl) (hc:X.calm=true:=by rfl) (hs:∀ x,foldedSetIterable iter X.env x=pure x:=by intro _;rfl) :
  PE X (.DictComp kx vx [⟨.Tuple [.Name x px,.Name y py,.Name z pz] tk tp,iter,ifs,0⟩] scope pos) (tDC [x,y,z] ix wi (gO X.K 3 (uU (xZ 0) (uU (xZ 1) (uU (xZ 2) gP)))) tt ty te):=by
 have S:=hS.at (X:=X) hN hsc
 have hl:∀ n,n ∈ [x,y,z]->∀ C fp s H,(cxC X [x,y,z] ix scope C fp s H).env.scope.names.lookup n=some .local:=fun n hn _ _ _ _=>lookup_relabel_local (S.own n hn)
 have h1:=hl x (by simp)
 have h2:=hl y (by simp)
 have h3:=hl z (by simp)
 exact zE4 S hc hi (fun C fp s H=>uI (X:=cxC X [x,y,z] ix scope C fp s H) hc (yS (yE S.nd rfl (Or.inl (h1 C fp s H)) (.inr (h1 C fp s H))) (yS (yE S.nd rfl (Or.inl (h2 C fp s H)) (.inr (h2 C fp s H))) (yS (yE S.nd rfl (Or.inl (h3 C fp s H)) (.inr (h3 C fp s H))) vF)))) ht hy he hs
end L2
namespace L2
open PySem PySem.Spec PyProof.Rows PySem.W
def oS (a:Addr) (n:Nat):HO:=.ext fun h=>∃ t u v,IsRange h a 0 (n:Int) 1 t u v
def rM (n:Nat):List V:=(List.range n).map fun (k:Nat)=>V.int (k:Int)
section
variable {X:Cx}
theorem lI:wW X (.type "range") (fun xs H Q=>∃ n:Nat,xs=[.int (n:Int)]/\∀ p,H p=none->Q (.ref p) (upd H p (oS p n))):=by
 intro pins s σ H xs us Q I r h
 obtain ⟨n,rfl,q⟩:=h
 obtain ⟨u,rfl,t,rfl⟩:=uT r
 have hn:IsRange (s.heap.push { cls:=.type "range",data:=.fields #[.int 0 s.toks,.int (n:Int) t,.int 1 (s.toks + 1)] }) s.heap.objs.size 0 (n:Int) 1 s.toks t (s.toks + 1):=IsRange.new ..
 refine call_range_1 ⟨.ref s.heap.objs.size,_,I.laid (t':=s.toks + 1 + 1) (o:=oS s.heap.objs.size n) (fun b o e=>Heap.get?_push_of_some _ e) (zGG _) ⟨⟨_,_,_,hn⟩,⟨_,hn⟩,fun h1 h2 x st=>?_⟩,rfl,q _ (I.hok.fresh (zGG _))⟩
 obtain ⟨t1,u1,v1,x⟩:=x
 exact ⟨t1,u1,v1,st _ x⟩
theorem jA (hc:X.calm=true):wW X (.type "list") (fun xs H Q=>∃ (p:Addr) (n:Nat),xs=[.ref p]/\H p=some (oS p n)/\n <= 1000/\∀ l,H l=none->Q (.ref l) (upd H l (.lst (rM n)))):=by
 intro pins s σ H xs us Q I r h
 obtain ⟨p,n,rfl,hP,hn,q⟩:=h
 obtain ⟨u,rfl,rx⟩:=uT r
 cases rx
 obtain ⟨⟨t,u,v,hr⟩,_,_⟩:=I.hok p _ hP
 have hsz:Builtin.Range.rangeSize 0 (n:Int) 1=(n:Int):=by rw [rangeSize_one];split <;> omega
 refine call_list_range (I.ok.hd hc) hr (small_one (by omega) (by omega) (by omega) (by omega)) hsz (by omega) fun h' tk acc' c' hk hS' hacc=>?_
 have hv:yD (rM n) acc'.toList:=by
  have key:∀ (l:List Value) (i:Nat),(∀ (j:Nat) (v:Value),l[j]?=some v->∃ t,v=.int ((i + j:Nat):Int) t)->yD ((List.range' i l.length).map fun (k:Nat)=>V.int (k:Int)) l:=by
   intro l
   induction l with
   | nil=>exact fun i _=>.nil
   | cons x l ih=>
    intro i hx
    rw [zGS,List.range'_succ,List.map_cons]
    refine .cons (by obtain ⟨t,e⟩:=hx 0 x rfl;exact ⟨t,e⟩) (ih (i + 1) fun j v e=>?_)
    obtain ⟨t,e⟩:=hx (j + 1) v (by simpa using e)
    exact ⟨t,by rw [e,show i + 1 + j=i + (j + 1) by omega]⟩
  have z:=key acc'.toList 0 fun j v e=>by
   obtain ⟨t,e⟩:=hacc.2 j v (by simpa using e)
   exact ⟨t,by rw [e];congr 1;omega⟩
  have sz:acc'.toList.length=n:=by rw [Array.length_toList];exact hacc.1
  rw [sz] at z
  unfold rM
  rw [List.range_eq_range']
  exact z
 refine ⟨.ref s.heap.objs.size,_,I.laid (t':=tk) (h':=h') (o:=.lst (rM n)) hk (zGG _) ?_,rfl,q _ (I.hok.fresh (zGG _))⟩
 exact ⟨by unfold rM;rw [zF7,List.length_range,sizeLine_eq];omega,acc'.toList,c',hv,by simpa using hS'⟩
end
end L2
namespace L2
open PySem PySem.Spec PyProof.Rows PySem.W
def wJ (tb:List (Str × V)):List (Key × V):=tb.map fun p=>(Sum.inr p.1,p.2)
theorem pO {x:Str} {v:Value} (h:t7 (.inr x) v=true):∃ t,v=.str x t:=by
 cases v <;> first | (simp [t7,Value.isStrOf] at h;done) | (simp [t7,Value.isStrOf] at h;subst h;exact ⟨_,rfl⟩)
theorem oC:∀ {l:List Value} {ks:List Str},l.length=ks.length->(∀ (j:Nat) (v:Value),l[j]?=some v->∃ (k:Str) (t:Tok),ks[j]?=some k/\v=.str k t)->StrsAre l ks
 | [],[],_,_=>.nil
 | [],_ :: _,e,_=>nomatch e
 | _ :: _,[],e,_=>nomatch e
 | v :: l,k :: ks,e,h=>by
  obtain ⟨k',t,e1,e2⟩:=h 0 v rfl
  cases e1
  subst e2
  exact .cons _ _ (oC (by simpa using e) fun j u hu=>h (j + 1) u (by simpa using hu))
theorem jL {tb:List (Str × V)} {vs:List (Key × Value)} (r:KV (wJ tb) vs) {j:Nat} {k:Key} {x:Value} (h:vs[j]?=some (k,x)):∃ z,(tb.map (·.1))[j]?=some z/\k=.inr z:=by
 unfold KV wJ at r
 revert j
 generalize e:tb.map (fun p=>((Sum.inr p.1:Key),p.2))=l at r
 induction r generalizing tb with
 | nil=>intro j h;simp at h
 | cons a b ih=>
  intro j h
  cases tb with
  | nil=>cases e
  | cons p tb=>
   rw [List.map_cons] at e
   cases e
   cases j with
   | zero=>cases h;exact ⟨_,rfl,a.1.symm⟩
   | succ j=>exact ih rfl (by simpa using h)
section
variable {X:Cx}
theorem lJ (hc:X.calm=true):wW X (.type "list") (fun xs H Q=>∃ (a:Addr) (tb:List (Str × V)),xs=[.ref a]/\H a=some (.dK (wJ tb))/\∀ l,H l=none->Q (.ref l) (upd H l (.lst ((tb.map (·.1)).map V.str)))):=by
 intro pins s σ H xs us Q I r h
 obtain ⟨a,tb,rfl,hP,q⟩:=h
 obtain ⟨u,rfl,rx⟩:=uT r
 cases rx
 obtain ⟨z,hd,vs,rel,dd⟩:=pU I.hok hP
 have lv:vs.length=tb.length:=by have:=rel.length;unfold wJ at this;rw [zF7] at this;exact this.symm
 obtain ⟨ep,hat⟩:=dd.dictAt
 unfold wJ at z
 rw [zF7] at z
 refine kdl_call (kdl_dict (knd:=y9 X.prog X.w) (kvs:=vs) (ep:=ep) hd) (I.ok.hd hc) hat (by rw [lv];exact z) fun h' tk acc' c' hk hS' hacc=>?_
 have st:StrsAre acc'.toList (tb.map (·.1)):=oC (by rw [Array.length_toList,hacc.1,lv,zF7]) fun j v e=>by
  obtain ⟨k,x,h1,h2⟩:=hacc.2 j v (by rw [<- Array.getElem?_toList];exact e)
  obtain ⟨y,h3,rfl⟩:=jL rel h1
  obtain ⟨t,rfl⟩:=pO h2
  exact ⟨y,t,h3,rfl⟩
 refine ⟨.ref s.heap.objs.size,_,I.laid (t':=tk) (h':=h') (o:=.lst ((tb.map (·.1)).map V.str)) hk (zGG _) ?_,rfl,q _ (I.hok.fresh (zGG _))⟩
 exact ⟨by rw [zF7,zF7];exact z,acc'.toList,c',sH st,by simpa using hS'⟩
theorem tF (hc:X.calm=true):wW X (.builtin "sorted") (fun xs H Q=>∃ (a:Addr) (tb:List (Str × V)),xs=[.ref a]/\H a=some (.dK (wJ tb))/\tb.length < 64 /\
  ∀ (l:Addr) (ys:List Str),H l=none->ys.Perm (tb.map (·.1))->Asc ltS ys->Q (.ref l) (upd H l (.lst (ys.map V.str)))):=by
 intro pins s σ H xs us Q I r h
 obtain ⟨a,tb,rfl,hP,h64,q⟩:=h
 obtain ⟨u,rfl,rx⟩:=uT r
 cases rx
 obtain ⟨z,hd,vs,rel,dd⟩:=pU I.hok hP
 have lv:vs.length=tb.length:=by have:=rel.length;unfold wJ at this;rw [zF7] at this;exact this.symm
 obtain ⟨ep,hat⟩:=dd.dictAt
 refine PySem.Calls.call_function_entry kind_sorted plain_sorted entry_sorted (args_sorted1 _) ?_
 unfold Builtin.«sorted»
 refine wpAny_bind (m:=checkCount "sorted" 1 1 _) (wpAny_pure ?_)
 refine wpAny_bind (kdu_collect (kdl_dict (knd:=y9 X.prog X.w) (kvs:=vs) (ep:=ep) hd) (I.ok.hd hc) hat (by rw [lv,sizeLine_eq];omega) fun h' tk acc hk hacc=>?_)
 have st:StrsAre acc.toList (tb.map (·.1)):=oC (by rw [Array.length_toList,hacc.1,lv,zF7]) fun j v e=>by
  obtain ⟨k,x,h1,h2⟩:=hacc.2 j v (by rw [<- Array.getElem?_toList];exact e)
  obtain ⟨y,h3,rfl⟩:=jL rel h1
  obtain ⟨t,rfl⟩:=pO h2
  exact ⟨y,t,h3,rfl⟩
 have l64:acc.toList.length < 64:=by rw [Array.length_toList,hacc.1,lv];exact h64
 refine wpAny_bind (wpAny_newList ?_ (by rw [sizeLine_eq];omega))
 have hoL:(h'.push (seqObj "list" acc.toList.toArray 0)).get? h'.objs.size=some (seqObj "list" acc.toList.toArray 0):=Heap.get?_push_size _ rfl
 refine wpAny_bind (wpAny_holding (wpAny_call_entry slot_list_sort ⟨_,hoL,rfl⟩ entry_list_sort (list_sort_treeK strKind_oneLt hoL st.keysOf (fun v₁ v₂ rest e=>keyKind_strs (by rw [<- e];exact st)) l64 fun st' a1 a2=>⟨_,rfl,?_⟩) (args_list_sort _)))
 obtain ⟨ss,b1,b2,b3⟩:=sorted_out_str st a1 a2
 obtain ⟨e,he⟩:=sortedHeap_at (out:=(arrOf st').map (·.2)) hoL
 have I':Inv X pins σ H { s with heap:=h',toks:=tk }:=I.kept hk
 refine wpAny_pure ⟨_,rfl,.ref h'.objs.size,_,I'.laid (t':=tk) (h':=sortedHeap (h'.push (seqObj "list" acc.toList.toArray 0)) h'.objs.size acc.toList ((arrOf st').map (·.2))) (o:=.lst (ss.map V.str)) (fun b o z=>?_) (zGG _) ?_,rfl,q _ ss (I'.hok.fresh (zGG _)) b2 (lY _ b3)⟩
 ·have lt:=Heap.lt_size z
  rw [sortedHeap_old (zGY lt) (by rw [size_push'];exact Nat.lt_succ_of_lt lt)]
  exact Heap.get?_push_of_some _ z
 ·exact ⟨by rw [zF7,b2.length_eq,zF7,sizeLine_eq];omega,_,e,sH b1,by rw [Array.toArray_toList];exact he⟩
end
end L2
namespace K24
open PySem L2
def top (i:Nat):Stmt:=PySem.Challenge.pw_treeright_k24_askers_by_name.main.body.getD i (.Pass ⟨0,0,0,0⟩)
abbrev mG:Stmt:=top 11
abbrev j7:Stmt:=top 17
abbrev j3:Stmt:=yN (top 19) 0
abbrev oR:Stmt:=yN (top 19) 1
abbrev b5:Stmt:=yN (top 19) 2
abbrev rR:Stmt:=yN (top 19) 3
abbrev jW:Stmt:=yN (top 19) 10
abbrev oQ:Stmt:=yN (top 19) 11
abbrev j4:Stmt:=yN (top 19) 12
abbrev jY:Stmt:=yN (top 19) 15
abbrev oM:Stmt:=yN (top 19) 16
def y6 (a:V) (wl:Addr) (h:V) (k:Bool):List (Str × V):=[("pointer",a),("waiting",.ref wl),("holder",h),("asked",.bl k)]
theorem n1:¬ (("pointer" : Str)="holder"):=by decide +kernel
theorem n2:¬ (("waiting" : Str)="holder"):=by decide +kernel
theorem n3:¬ (("pointer" : Str)="asked"):=by decide +kernel
theorem n4:¬ (("waiting" : Str)="asked"):=by decide +kernel
theorem n5:¬ (("holder" : Str)="asked"):=by decide +kernel
theorem n6:¬ (("pointer" : Str)="waiting"):=by decide +kernel
theorem zBB (a b:V) (wl:Addr) (h:V) (k:Bool):xP "pointer" b (y6 a wl h k)=y6 b wl h k:=by
 unfold y6;rw [xP,if_pos rfl]
theorem zBC (a:V) (wl:Addr) (h g:V) (k:Bool):xP "holder" g (y6 a wl h k)=y6 a wl g k:=by
 unfold y6;rw [xP,if_neg n1,xP,if_neg n2,xP,if_pos rfl]
theorem eO (a:V) (wl:Addr) (h:V) (k j:Bool):xP "asked" (.bl j) (y6 a wl h k)=y6 a wl h j:=by
 unfold y6;rw [xP,if_neg n3,xP,if_neg n4,xP,if_neg n5,xP,if_pos rfl]
theorem cH (a:V) (wl:Addr) (h:V) (k:Bool):(y6 a wl h k).lookup ("pointer" : Str)=some a:=rfl
theorem sV (a:V) (wl:Addr) (h:V) (k:Bool):(y6 a wl h k).lookup ("waiting" : Str)=some (.ref wl):=rfl
theorem kX (a:V) (wl:Addr) (h:V) (k:Bool):(y6 a wl h k).lookup ("holder" : Str)=some h:=rfl
theorem fl_k (a:V) (wl:Addr) (h:V) (k:Bool):(y6 a wl h k).lookup ("asked" : Str)=some (.bl k):=rfl
def yC:Option Str->V
 | none=>.non
 | some z=>.str z
structure x8 (K:PySem.W.Frag) (C:Addr):Prop where
 cl:Cls K C
 nP:wZ K C "pointer"
 nW:wZ K C "waiting"
 nH:wZ K C "holder"
 nA:wZ K C "asked"
structure SS where
 ptr:Option Str
 row:List (Str × Str)
 hold:Option Str
 asked:Bool
def yR (r:Str × Str):List V:=[.str r.1,.str r.2]
structure zZ (C:Addr) (H:Hp) (p wl:Addr) (s:SS):Prop where
 ob:∃ dx,H p=some (.ins C dx (y6 (yC s.ptr) wl (yC s.hold) s.asked))
 rw:Rows H wl (s.row.map yR)
 len:s.row.length <= 1000
theorem wX (l:List (Str × Str)):∀ r ∈ l.map yR,r.all xL=true:=fun r hr=>by
 obtain ⟨x,_,rfl⟩:=List.mem_map.mp hr
 rfl
theorem zZ.ne {C:Addr} {H:Hp} {p wl:Addr} {s:SS} (S:zZ C H p wl s):p ≠ wl:=by
 obtain ⟨dx,h⟩:=S.ob
 obtain ⟨ps,h2,_⟩:=S.rw
 exact xO h h2 (by intro z;cases z)
theorem zZ.keep {C:Addr} {H H':Hp} {p wl:Addr} {s:SS} (S:zZ C H p wl s) (k:zC [] H H'):zZ C H' p wl s:=by
 obtain ⟨⟨dx,h⟩,r,l⟩:=S
 exact ⟨⟨dx,k _ _ (by simp) h⟩,r.keep k,l⟩
def xH (s:SS):SS × List V:=match s.row with
 | []=>(s,[])
 | (k,n) :: rest=>if k="asker" then ({ s with row:=rest,hold:=some n },[.str "given",.str n])
  else ({ s with ptr:=some n,row:=rest,asked:=!rest.isEmpty },[.str "right",.str n,.bl (!rest.isEmpty)])
def zS (s:SS):SS × List (List V):=
 if s.row.isEmpty then (s,[]) else
 match s.ptr with
 | none=>match s.hold with
  | none=>((xH s).1,[(xH s).2])
  | some _=>(s,[])
 | some q=>if s.asked then (s,[]) else ({ s with asked:=true },[[.str "ask",.str q]])
theorem zK {S:List Addr} {H H':Hp} (k:zC S H H') (n:∀ b ∈ S,∀ xs,H b ≠ some (.tup xs)) {ps:List Addr} {rows:List (List V)} (h:Paired (fun q r=>H q=some (.tup r)) ps rows):Paired (fun q r=>H' q=some (.tup r)) ps rows:=by
 induction h with
 | nil=>exact .nil
 | cons e _ ih=>exact .cons (k _ _ (fun z=>n _ z _ e) e) ih
theorem vK {C dx p wl:Addr} {H:Hp} {fs:List (Str × V)} {ys:List V} (h1:H p=some (.ins C dx fs)) (h2:H wl=some (.lst ys)):∀ b ∈ [p,wl],∀ xs,H b ≠ some (.tup xs):=fun b hb xs z=>by
 simp only [List.mem_cons,zG1,or_false] at hb
 rcases hb with rfl | rfl
 ·rw [h1] at z;cases z
 ·rw [h2] at z;cases z
theorem zEL (n:Nat):seqIndex? 0 (n + 1)=some 0:=by
 unfold seqIndex?
 simp
section
variable {P:Program} {w:World} {K:PySem.W.Frag} {mg:Str->Option Value} {base:Heap} {C:Addr}
theorem rO:zN ["self","kind","name","back"] ["self"] (zG oM):=⟨rfl,rfl,rfl,by decide +kernel,rfl,by decide +kernel,by decide +kernel⟩
def jP (C:Addr):Sp:=fun vs H Q _=>∃ (p wl:Addr) (s:SS),vs=[.ref p]/\zZ C H p wl s/\s.row ≠ [] /\
 ∀ (r:Addr) (H':Hp),zZ C H' p wl (xH s).1->H' r=some (.tup (xH s).2)->H r=none->zC [p,wl] H H'->Q (.ref r) H'
theorem aQ (T:x8 K C) (G:y3 K C "serve_first" "Seat.serve_first" oM ["self"]) (bL:Blt mg "len"):yV P w K mg base CX0 1 C "serve_first" ["self"] (jP C):=by
 refine G.ok rO (fun vs H Q E h=>by obtain ⟨p,wl,s,rfl,_⟩:=h;rfl) (fun f cdv A outer s0 H vs Q E hr h=>?_)
 obtain ⟨p,wl,s,rfl,S,hne,q⟩:=h
 refine ⟨_,(zE (sM (vC PySem.F.plainAttrs_list PySem.F.slot_list_pop PySem.F.type_list_pop m3 (yF (pv 0) rfl) (zA zJ zD)) (uI rfl (yS (yE (i:=1) rO.nd rfl (Or.inl rfl)) (yS (yE (i:=2) rO.nd rfl (Or.inl rfl)) vF))))
   (zE (z4 (zT xW (pv 1) zM (zX _)) (zE (wM (pv 0) (pv 2) rfl)
   (zF (zO (z8 (zA zM (zA (pv 2) zD)))))) zQ)
   (zE (yI (i:=3) rO.nd rfl (Or.inl rfl) (wA zBG (z9 yT bL xI (zA (yF (pv 0) rfl) zD)) zJ (zX _)))
   (zE (wM (pv 0) (pv 2) rfl)
   (zE (wM (pv 0) (pv 3) rfl)
   (zF (zO (z8 (zA zM (zA (pv 2) (zA (pv 3) zD))))))))))),?_⟩
 have npw:=S.ne
 obtain ⟨⟨dx,hob⟩,⟨ps,hwl,hpr⟩,hlen⟩:=S
 obtain ⟨ptr,row,hold,asked⟩:=s
 dsimp only at *
 cases row with
 | nil=>exact absurd rfl hne
 | cons kn rest=>
  obtain ⟨k,n⟩:=kn
  cases hpr with
  | @cons t _ ps' _ ht hpr=>
  refine ⟨_,rfl,p,C,dx,_,_,rfl,hob,T.cl,T.nW,sV _ _ _ _,.inl ⟨rfl,_,.of hwl⟩,wl,_,0,0,.ref t,rfl,rfl,hwl,by decide,by decide,zEL _,rfl,?_⟩
  rw [show (List.map V.ref (t :: ps')).eraseIdx 0=ps'.map V.ref from rfl]
  have ntw:t ≠ wl:=xO ht hwl (by intro z;cases z)
  have lps:=zP hpr
  rw [zF7] at lps
  have hl1:rest.length + 1 <= 1000:=hlen
  have hp1:∀ o,upd H wl o p=some (.ins C dx (y6 (yC ptr) wl (yC hold) asked)):=fun o=>by rw [zI npw];exact hob
  refine ⟨t,_,rfl,.of (by rw [zI ntw];exact ht),rfl,_,_,rfl,_,_,rfl,rfl,?_⟩
  refine ⟨_,rfl,rfl,_,rfl,?_⟩
  refine gH (fun hk=>?_) (fun hk=>?_)
  ·have hk':k="asker":=by have:=of_decide_eq_true hk;injection this
   refine ⟨_,rfl,_,rfl,p,C,dx,_,rfl,hp1 _,T.cl,T.nH,by show 4 < 1000;decide,_,rfl,by show 2 <= sizeLine;decide,fun r hr=>?_⟩
   rw [zBC] at hr ⊢
   obtain ⟨hr1,rp⟩:=zL hr
   obtain ⟨hr2,rw_⟩:=zL hr1
   have kk:zC [p,wl] H (upd (upd (upd H wl (.lst (ps'.map V.ref))) p (.ins C dx (y6 (yC ptr) wl (.str n) asked))) r (.tup [.str "given",.str n])):=((zC.at (by simp)).trans (zC.at (by simp))).trans (zC.new hr)
   have es:xH { ptr:=ptr,row:=(k,n) :: rest,hold:=hold,asked:=asked }=({ ptr:=ptr,row:=rest,hold:=some n,asked:=asked },[.str "given",.str n]):=by
    unfold xH;simp only [hk',if_true]
   rw [es] at q
   refine q r _ ⟨⟨dx,?_⟩,⟨ps',?_,zK kk (vK hob hwl) hpr⟩,?_⟩ zB hr2 kk
   ·rw [zI (Ne.symm rp),zB];rfl
   ·rw [zI (Ne.symm rw_),zI (Ne.symm npw),zB]
   ·show rest.length <= 1000;omega
  ·have hk':¬ k="asker":=fun z=>hk (by rw [z];exact zGM rfl)
   refine ⟨_,rfl,p,C,dx,_,_,rfl,hp1 _,T.cl,T.nW,sV _ _ _ _,_,_,rfl,.inl ⟨_,.of zB,rfl⟩,_,_,rfl,rfl,?_⟩
   have eb:decide ((0:Int) < (((ps'.map V.ref).length:Nat):Int)) = !rest.isEmpty:=by
    rw [zF7,lps]
    cases rest with
    | nil=>rfl
    | cons x y=>exact zGM (by simp)
   refine ⟨_,rfl,_,rfl,p,C,dx,_,rfl,hp1 _,T.cl,T.nP,by show 4 < 1000;decide,?_⟩
   rw [zBB]
   refine ⟨_,rfl,_,rfl,p,C,dx,_,rfl,zB,T.cl,T.nA,by show 4 < 1000;decide,?_⟩
   dsimp only
   rw [eO,vP,eb]
   refine ⟨_,rfl,_,rfl,by show 3 <= sizeLine;decide,fun r hr=>?_⟩
   obtain ⟨hr1,rp⟩:=zL hr
   obtain ⟨hr2,rw_⟩:=zL hr1
   have kk:zC [p,wl] H (upd (upd (upd H wl (.lst (ps'.map V.ref))) p (.ins C dx (y6 (.str n) wl (yC hold) (!rest.isEmpty)))) r (.tup [.str "right",.str n,.bl (!rest.isEmpty)])):=((zC.at (by simp)).trans (zC.at (by simp))).trans (zC.new hr)
   have es:xH { ptr:=ptr,row:=(k,n) :: rest,hold:=hold,asked:=asked }=({ ptr:=some n,row:=rest,hold:=hold,asked:=!rest.isEmpty },[.str "right",.str n,.bl (!rest.isEmpty)]):=by
    unfold xH;simp only [if_neg hk']
   rw [es] at q
   refine q r _ ⟨⟨dx,?_⟩,⟨ps',?_,zK kk (vK hob hwl) hpr⟩,?_⟩ zB hr2 kk
   ·rw [zI (Ne.symm rp),zB];rfl
   ·rw [zI (Ne.symm rw_),zI (Ne.symm npw),zB]
   ·show rest.length <= 1000;omega
theorem zCA:zN ["self"] ["self"] (zG jY):=⟨rfl,rfl,rfl,by decide +kernel,rfl,by decide +kernel,by decide +kernel⟩
theorem zBO (a:V) (wl:Addr) (h:V) (k:Bool) {m:Str} (h1:¬ m="pointer") (h2:¬ m="waiting") (h3:¬ m="holder") (h4:¬ m="asked"):(y6 a wl h k).lookup m=none:=by
 have e1:(m == ("pointer" : Str))=false:=by simpa using h1
 have e2:(m == ("waiting" : Str))=false:=by simpa using h2
 have e3:(m == ("holder" : Str))=false:=by simpa using h3
 have e4:(m == ("asked" : Str))=false:=by simpa using h4
 unfold y6
 simp only [List.lookup_cons,e1,e2,e3,e4,List.lookup_nil]
theorem zZ.stay {H H':Hp} {p wl:Addr} {s:SS} {dx:Addr} (S:zZ C H p wl s) (s':SS) (hob:H' p=some (.ins C dx (y6 (yC s'.ptr) wl (yC s'.hold) s'.asked))) (hw:H' wl=H wl) (er:s'.row=s.row) (k:zC [p,wl] H H'):zZ C H' p wl s':=by
 obtain ⟨⟨dx0,h0⟩,⟨ps,h1,h2⟩,hl⟩:=S
 refine ⟨⟨dx,hob⟩,⟨ps,by rw [hw];exact h1,?_⟩,by rw [er];exact hl⟩
 rw [er]
 exact zK k (vK h0 h1) h2
def sI (C:Addr):Sp:=fun vs H Q _=>∃ (p wl:Addr) (s:SS),vs=[.ref p]/\zZ C H p wl s /\
 ∀ (r:Addr) (H':Hp),zZ C H' p wl (zS s).1->Rows H' r (zS s).2->H r=none->zC [p,wl] H H'->Q (.ref r) H'
theorem zC0 (T:x8 K C) (G:y3 K C "move_on" "Seat.move_on" jY ["self"]) (MS:yV P w K mg base CX0 1 C "serve_first" ["self"] (jP C)):yV P w K mg base CX0 2 C "move_on" ["self"] (sI C):=by
 refine G.ok zCA (fun vs H Q E h=>by obtain ⟨p,wl,s,rfl,_⟩:=h;rfl) (fun f cdv A outer s0 H vs Q E hr h=>?_)
 obtain ⟨p,wl,s,rfl,S,q⟩:=h
 have hr1:z7 1 _:=hr.mono (by decide)
 refine ⟨_,(zE (z4 (wD (mN (yF (pv 0) rfl) (fun _=>rfl))) (zF (zO (y8 zD))) zQ)
   (zE (z4 (zT vJ (yF (pv 0) rfl) yZ (zX _)) (zF (zO (tX (zT vJ (yF (pv 0) rfl) yZ (zX _)) (y8 (zA (xJ MS T.cl hr1 (pv 0)) zD)) (y8 zD)))) zQ)
   (zE (z4 (xY (yF (pv 0) rfl)) (zF (zO (y8 zD))) zQ)
   (zE (wM (pv 0) wP rfl)
   (zF (zO (y8 (zA (z8 (zA zM (zA (yF (pv 0) rfl) zD))) zD)))))))),?_⟩
 have npw:=S.ne
 obtain ⟨⟨dx,hob⟩,⟨ps,hwl,hpr⟩,hlen⟩:=id S
 have lps:=zP hpr
 rw [zF7] at lps
 have hps:(ps.map V.ref).isEmpty=s.row.isEmpty:=by
  cases hps:ps <;> cases hrow:s.row <;> simp_all
 have none_:zS s=(s,[])->∀ r,H r=none->Q (.ref r) (upd H r (.lst [])):=fun e r hr=>by
  rw [e] at q
  exact q r _ (S.keep (zC.new hr)) ⟨[],zB,.nil⟩ hr (zC.new hr)
 refine ⟨_,rfl,p,C,dx,_,_,rfl,hob,T.cl,T.nW,sV _ _ _ _,_,.inl ⟨_,.of hwl,rfl⟩,?_⟩
 dsimp only
 rw [hps]
 cases hem:s.row.isEmpty with
 | true=>
  refine gG ⟨zGH _,fun r hr=>none_ ?_ r hr⟩
  unfold zS;rw [hem];rfl
 | false=>
 refine kQ ?_
 have hne:s.row ≠ []:=fun z=>by rw [z] at hem;cases hem
 refine ⟨_,rfl,p,C,dx,_,_,rfl,hob,T.cl,T.nP,cH _ _ _ _,rfl,_,rfl,?_⟩
 cases hp:s.ptr with
 | none=>
  refine gG ?_
  refine ⟨_,rfl,p,C,dx,_,_,rfl,hob,T.cl,T.nH,kX _ _ _ _,rfl,_,rfl,?_⟩
  cases hh:s.hold with
  | none=>
   refine gG ?_
   have em:zS s=((xH s).1,[(xH s).2]):=by unfold zS;rw [hem,hp,hh];rfl
   rw [em] at q
   refine ⟨_,rfl,p,dx,_,rfl,hob,zBO _ _ _ _ (by decide +kernel) (by decide +kernel) (by decide +kernel) (by decide +kernel),p,wl,s,rfl,S,hne,fun r H1 S1 h1 hr k1=>⟨by show 1 <= sizeLine;decide,fun l hl=>?_⟩⟩
   have nl:H l=none:=by
    cases e:H l with
    | none=>rfl
    | some o=>
     by_cases z:l ∈ [p,wl]
     ·obtain ⟨dx1,o1⟩:=S1.ob
      obtain ⟨ps1,o2,_⟩:=S1.rw
      simp only [List.mem_cons,zG1,or_false] at z
      rcases z with z | z
      ·rw [z,o1] at hl;cases hl
      ·rw [z,o2] at hl;cases hl
     ·rw [k1 l o z e] at hl;cases hl
   exact q l _ (S1.keep (zC.new hl)) ⟨[r],zB,.cons (by rw [zI (zH h1 hl)];exact h1) .nil⟩ nl (k1.trans (zC.new hl))
  | some g=>
   refine kQ ⟨zGH _,fun r hr=>none_ ?_ r hr⟩
   unfold zS;rw [hem,hp,hh];rfl
 | some g=>
  refine kQ ?_
  refine ⟨_,rfl,p,C,dx,_,_,rfl,hob,T.cl,T.nA,fl_k _ _ _ _,_,rfl,?_⟩
  cases ha:s.asked with
  | true=>
   refine gG ⟨zGH _,fun r hr=>none_ ?_ r hr⟩
   unfold zS;rw [hem,hp,ha];rfl
  | false=>
   refine kQ ?_
   have em:zS s=({ s with asked:=true },[[.str "ask",.str g]]):=by unfold zS;rw [hem,hp,ha];rfl
   rw [em] at q
   refine ⟨_,rfl,p,C,dx,_,rfl,hob,T.cl,T.nA,by show 4 < 1000;decide,?_⟩
   rw [eO]
   refine ⟨_,rfl,p,C,dx,_,_,rfl,zB,T.cl,T.nP,cH _ _ _ _,by show 2 <= sizeLine;decide,fun t ht=>⟨by show 1 <= sizeLine;decide,fun l hl=>?_⟩⟩
   obtain ⟨ht1,tp⟩:=zL ht
   obtain ⟨hl1,lt⟩:=zL hl
   obtain ⟨hl2,lp⟩:=zL hl1
   have nwt:wl ≠ t:=zH hwl ht1
   have nwl:wl ≠ l:=zH hwl hl2
   have kk:zC [p,wl] H (upd (upd (upd H p (.ins C dx (y6 (yC s.ptr) wl (yC s.hold) true))) t (.tup [.str "ask",yC s.ptr])) l (.lst [.ref t])):=((zC.at (by simp)).trans (zC.new ht)).trans (zC.new hl)
   refine q l _ (S.stay (dx:=dx) { s with asked:=true } ?_ ?_ rfl kk) ⟨[t],zB,.cons ?_ .nil⟩ hl2 kk
   ·rw [zI (Ne.symm lp),zI (Ne.symm tp),zB]
   ·rw [zI nwl,zI nwt,zI (Ne.symm npw)]
   ·rw [zI (Ne.symm lt),zB,hp];rfl
end
section
variable {P:Program} {w:World} {K:PySem.W.Frag} {mg:Str->Option Value} {base:Heap} {C:Addr}
def tJ (K:PySem.W.Frag):Sp:=fun vs H Q _=>∃ (x:V) (T:String),vs=[x]/\yY K H x T/\(∀ z,x=.str z->z.length <= 1000)/\∀ H',zC [] H H'->Q (.bl (x6 x)) H'
theorem zB9:zN ["thing"] ["thing"] (zG mG):=⟨rfl,rfl,rfl,by decide +kernel,rfl,by decide +kernel,by decide +kernel⟩
theorem zCZ (G:yW K mg "is_name" mG ["thing"]) (bI:Blt mg "isinstance") (bS:Blt mg "str") (bL:Blt mg "len") (bA:Blt mg "all") (gL:Glo mg "LETTERS" (.str abc)) (g8:Glo mg "LONGEST_NAME" (.int 8)) :
  Cal P w K mg base CX0 1 "is_name" ["thing"] (tJ K):=by
 refine G.ok zB9 (fun vs H Q E h=>by obtain ⟨x,T,rfl,_⟩:=h;rfl) (fun f cdv A outer s H vs Q E hr h=>?_)
 obtain ⟨x,T,rfl,pt,hz,q⟩:=h
 refine ⟨_,zE (z4 (wD (xY (z9 yX bI yJ (zA (pv 0) (zA (vQ bS zDM) zD))))) (zF (zO wP)) zQ)
  (zF (zO (tL (dA dC dC zJ (z9 yT bL xI (zA (pv 0) zD)) (eZ g8))
   (tK (z9 (sB rfl) bA nO (zA (vV (N:=["thing"]) (sc:=zG mG) (ix:=[]) (by decide +kernel) (zCJ (pv 0)) (fun _ _ _ _=>xD)
    (fun C fp s H=>wA hI (pv 0) (eZ gL) (by with_unfolding_all rfl))) zD)))))),?_⟩
 refine ⟨_,rfl,_,_,_,_,rfl,pt.ty,pt.kit.1,_,rfl,?_⟩
 cases pt with
 | str z=>
  have hz:=hz z rfl
  refine kQ ?_
  refine ⟨_,rfl,_,z.length,rfl,⟨by rw [sizeLine_eq];omega,rfl⟩,_,_,rfl,rfl,_,rfl,?_⟩
  refine gH (fun h1=>?_) (fun h1=>?_)
  ·refine ⟨_,_,rfl,rfl,_,rfl,?_⟩
   refine gH (fun h2=>?_) (fun h2=>?_)
   ·refine ⟨_,rfl,z,rfl,fun acc ha=>?_⟩
    refine zAF (by rw [sizeLine_eq];show z.length < _;omega) (fun i ys τ H2=>∃ (k:Option V),τ=[k]/\ys=(z.cps.toList.take i).map (fun c=>V.bl (vG c))/\i <= z.cps.size/\zC [acc] H H2/\H2 acc=some (.lst ys)) ?_ ?_ ?_ ?_
    ·exact ⟨_,rfl,rfl,zGH _,zC.at (by simp),zB⟩
    ·rintro i ys τ H2 ⟨k,rfl,rfl,hi,kp,h3⟩
     exact ⟨h3,by simp;omega⟩
    ·rintro i ys τ H2 hi ⟨k,rfl,rfl,_,kp,h3⟩
     refine ⟨_,rfl,_,_,rfl,rfl,h3,_,rfl,?_,hi,kp.trans (zC.at (by simp)),zB⟩
     rw [List.take_add_one,zGJ]
     congr 1
     have e:z.cps.toList[i]?=some (z.cps.getD i 0):=by
      rw [Array.getElem?_toList,zG6,Array.getElem?_eq_getElem hi];rfl
     rw [e];rfl
    ·rintro ys τ H2 ⟨k,rfl,rfl,_,kp,h3⟩
     refine ⟨acc,z.cps.toList.map vG,rfl,.of ?_,?_⟩
     ·rw [h3,zGW (by simp),zGR];rfl
     ·rw [jE]
      have e:x6 (.str z)=z.cps.toList.all vG:=by
       show (decide (1 <= z.length) && decide (z.length <= 8) && _)=_
       have e1:1 <= z.length:=by have:=of_decide_eq_true h1;omega
       have e2:z.length <= 8:=by have:=of_decide_eq_true h2;omega
       rw [zGM e1,zGM e2];rfl
      rw [<- e]
      exact q _ (kp.drop ha)
   ·have e:x6 (.str z)=false:=by
     show (decide (1 <= z.length) && decide (z.length <= 8) && _)=_
     have e2:¬ z.length <= 8:=fun z'=>h2 (zGM (by omega))
     rw [zGN e2];simp
    rw [<- e]
    exact q _ (zC.refl _)
  ·refine ⟨_,rfl,kQ ?_⟩
   have e:x6 (.str z)=false:=by
    show (decide (1 <= z.length) && decide (z.length <= 8) && _)=_
    have e2:¬ 1 <= z.length:=fun z'=>h1 (zGM (by omega))
    rw [zGN e2];simp
   rw [<- e]
   exact q _ (zC.refl _)
 | _=>exact gG (q H (zC.refl _))
theorem zCF:zN ["asker"] ["asker"] (zG j7):=⟨rfl,rfl,rfl,by decide +kernel,rfl,by decide +kernel,by decide +kernel⟩
def tT:Sp:=fun vs H Q _=>∃ (z:Str),vs=[.str z]/\vD z=true/\z.length <= 1000/\∀ H',zC [] H H'->Q .non H'
theorem zC6 (G:yW K mg "check_asker" j7 ["asker"]) (CI:Cal P w K mg base CX0 1 "is_name" ["thing"] (tJ K)):Cal P w K mg base CX0 2 "check_asker" ["asker"] tT:=by
 refine G.ok zCF (fun vs H Q E h=>by obtain ⟨z,rfl,_⟩:=h;rfl) (fun f cdv A outer s0 H vs Q E hr h=>?_)
 obtain ⟨z,rfl,hn,hl,q⟩:=h
 have hr1:z7 1 _:=hr.mono (by decide)
 refine ⟨_,(zF (z4 (wD (xY (zU CI hr1 (zA (pv 0) zD)))) (zF y0) zQ)),?_⟩
 refine ⟨_,rfl,_,"str",rfl,.str z,(fun z' e=>by cases e;exact hl),fun H1 k1=>⟨_,rfl,?_⟩⟩
 exact ifF (by show (!vD z)=false;rw [hn];rfl) (q H1 k1)
theorem zB8:zN ["self","asker"] ["self","asker"] (zG jW):=⟨rfl,rfl,rfl,by decide +kernel,rfl,by decide +kernel,by decide +kernel⟩
abbrev yH (z:Str):Str × Str:=(("asker" : Str),z)
theorem t8 (r x:Str × Str):eqT (yR r) (yR x)=decide (r=x):=by
 obtain ⟨a,b⟩:=r
 obtain ⟨c,e⟩:=x
 show ((2 == 2) && ((a == c) && ((b == e) && true)))=_
 by_cases h1:a=c <;> by_cases h2:b=e <;> simp [h1,h2]
theorem uR (row:List (Str × Str)) (x:Str × Str):(row.map yR).any (fun r=>eqT r (yR x))=decide (x ∈ row):=by
 rw [List.any_map]
 induction row with
 | nil=>simp
 | cons r row ih=>
  rw [List.any_cons,ih]
  show (eqT (yR r) (yR x) || decide (x ∈ row))=_
  rw [t8]
  by_cases h1:r=x
  ·subst h1;simp
  ·have h2:¬ x=r:=fun z=>h1 z.symm
   simp [h1,h2]
theorem jV (z:Str) (o:Option Str):fZ (.str z) (yC o)=true:=by cases o <;> rfl
theorem zAM (z:Str) (o:Option Str):decide (V.str z=yC o)=decide (o=some z):=by
 cases o with
 | none=>simp [yC]
 | some y=>simp [yC,eq_comm]
theorem pR (a:V) (wl:Addr) (h:V) (k:Bool):(y6 a wl h k).lookup ("move_on" : Str)=none:=zBO a wl h k (by decide +kernel) (by decide +kernel) (by decide +kernel) (by decide +kernel)
theorem zZ.more {H H1 H3:Hp} {p wl t dx:Addr} {s:SS} {ps:List Addr} {x:Str × Str} (hob:H3 p=some (.ins C dx (y6 (yC s.ptr) wl (yC s.hold) s.asked)))
  (hpr:Paired (fun q r=>H3 q=some (.tup r)) ps (s.row.map yR)) (hw:H3 wl=some (.lst (ps.map V.ref ++ [.ref t]))) (ht:H3 t=some (.tup (yR x))) (hl:s.row.length < 1000):zZ C H3 p wl { s with row:=s.row ++ [x] }:=by
 refine ⟨⟨dx,hob⟩,⟨ps ++ [t],by rw [hw,zGJ];rfl,?_⟩,by show (s.row ++ [x]).length <= 1000;simp;omega⟩
 show Paired _ _ ((s.row ++ [x]).map yR)
 rw [zGJ]
 exact xS hpr ht
def fR (C:Addr):Sp:=fun vs H Q _=>∃ (p wl:Addr) (s:SS) (z:Str),vs=[.ref p,.str z]/\zZ C H p wl s/\vD z=true/\z.length <= 1000/\s.hold ≠ some z/\(yH z) ∉ s.row/\s.row.length < 1000 /\
 ∀ (r:Addr) (H':Hp),zZ C H' p wl (zS { s with row:=s.row ++ [(yH z)] }).1->Rows H' r (zS { s with row:=s.row ++ [(yH z)] }).2->H r=none->zC [p,wl] H H'->Q (.ref r) H'
theorem zCW (T:x8 K C) (G:y3 K C "want" "Seat.want" jW ["self","asker"]) (CC:Cal P w K mg base CX0 2 "check_asker" ["asker"] tT) (MM:yV P w K mg base CX0 2 C "move_on" ["self"] (sI C)) :
  yV P w K mg base CX0 3 C "want" ["self","asker"] (fR C):=by
 refine G.ok zB8 (fun vs H Q E h=>by obtain ⟨p,wl,s,z,rfl,_⟩:=h;rfl) (fun f cdv A outer s0 H vs Q E hr h=>?_)
 obtain ⟨p,wl,s,z,rfl,S0,hn,hl,hh,hi,hlen,q⟩:=h
 have hr2:z7 2 _:=hr.mono (by decide)
 have hu:=uC hr
 refine ⟨_,(zE (yG (zU CC hr2 (zA (pv 1) zD)))
   (zE (z4 (PW.pt (pK (zT xW (pv 1) (yF (pv 0) rfl) (zX _)) (sL (zT (oW hu) (z8 (zA zM (zA (pv 1) zD))) (yF (pv 0) rfl) (by with_unfolding_all rfl))))) (zF y0) zQ)
   (zE (yG (vC PySem.F.plainAttrs_list PySem.F.slot_list_append PySem.F.type_list_append xA (yF (pv 0) rfl) (zA (z8 (zA zM (zA (pv 1) zD))) zD)))
   (zF (zO (xJ MM T.cl hr2 (pv 0))))))),?_⟩
 refine ⟨_,rfl,z,rfl,hn,hl,fun H1 k1=>?_⟩
 have S:=S0.keep k1
 have npw:=S.ne
 obtain ⟨⟨dx,hob⟩,⟨ps,hwl,hpr⟩,_⟩:=id S
 refine ⟨_,rfl,_,rfl,p,C,dx,_,_,rfl,hob,T.cl,T.nH,kX _ _ _ _,jV _ _,_,rfl,?_⟩
 refine ifF (by rw [zAM];exact zGN hh) ?_
 refine ⟨_,rfl,by show 2 <= sizeLine;decide,fun t ht=>?_⟩
 have pt:p ≠ t:=zH hob ht
 have wt:wl ≠ t:=zH hwl ht
 have k2:zC [] H1 (upd H1 t (.tup [.str "asker",.str z])):=zC.new ht
 refine ⟨_,rfl,p,C,dx,_,_,rfl,(k2 _ _ (by simp) hob),T.cl,T.nW,sV _ _ _ _,wl,t,_,s.row.map yR,rfl,rfl,(Rows.keep ⟨ps,hwl,hpr⟩ k2),zB,rfl,wX _,_,rfl,?_⟩
 refine ifF (by show ((s.row.map yR).any fun r=>eqT r (yR (yH z)))=false;rw [uR];exact zGN hi) ?_
 refine ⟨_,rfl,p,C,dx,_,_,rfl,(k2 _ _ (by simp) hob),T.cl,T.nW,sV _ _ _ _,.inl ⟨rfl,_,.of (k2 _ _ (by simp) hwl)⟩,_,rfl,by show 2 <= sizeLine;decide,fun t2 ht2=>?_⟩
 have k3:zC [] (upd H1 t (.tup [.str "asker",.str z])) (upd (upd H1 t (.tup [.str "asker",.str z])) t2 (.tup [.str "asker",.str z])):=zC.new ht2
 have k13:=k2.trans k3
 have wt2:wl ≠ t2:=zH (k2 _ _ (by simp) hwl) ht2
 have lps:=zP hpr
 rw [zF7] at lps
 refine ⟨wl,_,_,rfl,rfl,k13 _ _ (by simp) hwl,by rw [zF7,sizeLine_eq];omega,?_⟩
 generalize hH3:upd (upd H1 t (.tup [.str "asker",.str z])) t2 (.tup [.str "asker",.str z])=H3 at k3 k13 ⊢
 have h3t:H3 t2=some (.tup (yR (yH z))):=by rw [<- hH3];exact zB
 have k4:zC [p,wl] H1 (upd H3 wl (.lst (ps.map V.ref ++ [.ref t2]))):=(k13.mono (by simp)).trans (zC.at (by simp))
 have hob4:upd H3 wl (.lst (ps.map V.ref ++ [.ref t2])) p=some (.ins C dx (y6 (yC s.ptr) wl (yC s.hold) s.asked)):=by rw [zI npw];exact k13 _ _ (by simp) hob
 have S4:zZ C (upd H3 wl (.lst (ps.map V.ref ++ [.ref t2]))) p wl { s with row:=s.row ++ [(yH z)] }:=
  zZ.more (H:=H) (H1:=H1) hob4 (zK k4 (vK hob hwl) hpr) zB (by rw [zI (Ne.symm wt2)];exact h3t) hlen
 refine ⟨_,rfl,p,dx,_,rfl,hob4,pR _ _ _ _,p,wl,_,rfl,S4,fun r H5 S5 R5 hr5 k5=>?_⟩
 have hr4:=(zL hr5).1
 exact q r H5 S5 R5 (k1.none (by simp) (k13.none (by simp) hr4)) (((k1.mono (by simp)).trans k4).trans k5)
theorem bW:zN ["self","asker"] ["self","asker"] (zG oQ):=⟨rfl,rfl,rfl,by decide +kernel,rfl,by decide +kernel,by decide +kernel⟩
def jS (C:Addr):Sp:=fun vs H Q _=>∃ (p wl:Addr) (s:SS) (z:Str) (j:Nat),vs=[.ref p,.str z]/\zZ C H p wl s/\vD z=true/\z.length <= 1000/\s.row[j]?=some (yH z)/\(∀ m,m < j->s.row[m]? ≠ some (yH z)) /\
 ∀ (r:Addr) (H':Hp),zZ C H' p wl (zS { s with row:=s.row.eraseIdx j }).1->Rows H' r (zS { s with row:=s.row.eraseIdx j }).2->H r=none->zC [p,wl] H H'->Q (.ref r) H'
theorem aU (T:x8 K C) (G:y3 K C "leave" "Seat.leave" oQ ["self","asker"]) (CC:Cal P w K mg base CX0 2 "check_asker" ["asker"] tT) (MM:yV P w K mg base CX0 2 C "move_on" ["self"] (sI C)) :
  yV P w K mg base CX0 3 C "leave" ["self","asker"] (jS C):=by
 refine G.ok bW (fun vs H Q E h=>by obtain ⟨p,wl,s,z,j,rfl,_⟩:=h;rfl) (fun f cdv A outer s0 H vs Q E hr h=>?_)
 obtain ⟨p,wl,s,z,j,rfl,S0,hn,hl,hj,hno,q⟩:=h
 have hr2:z7 2 _:=hr.mono (by decide)
 have hu:=uC hr
 refine ⟨_,(zE (yG (zU CC hr2 (zA (pv 1) zD)))
   (zE (z4 (zT (pL hu) (z8 (zA zM (zA (pv 1) zD))) (yF (pv 0) rfl) (by with_unfolding_all rfl)) (zF y0) zQ)
   (zE (yG (vC PySem.F.plainAttrs_list PySem.F.slot_list_remove PySem.F.type_list_remove (qK hu) (yF (pv 0) rfl) (zA (z8 (zA zM (zA (pv 1) zD))) zD)))
   (zF (zO (xJ MM T.cl hr2 (pv 0))))))),?_⟩
 refine ⟨_,rfl,z,rfl,hn,hl,fun H1 k1=>?_⟩
 have S:=S0.keep k1
 have npw:=S.ne
 obtain ⟨⟨dx,hob⟩,⟨ps,hwl,hpr⟩,hlen⟩:=id S
 refine ⟨_,rfl,by show 2 <= sizeLine;decide,fun t ht=>?_⟩
 have k2:zC [] H1 (upd H1 t (.tup [.str "asker",.str z])):=zC.new ht
 refine ⟨_,rfl,p,C,dx,_,_,rfl,(k2 _ _ (by simp) hob),T.cl,T.nW,sV _ _ _ _,wl,t,_,s.row.map yR,rfl,rfl,(Rows.keep ⟨ps,hwl,hpr⟩ k2),zB,rfl,wX _,_,rfl,?_⟩
 refine ifF (by show (!((s.row.map yR).any fun r=>eqT r (yR (yH z))))=false;rw [uR,zGM (zGB hj)];rfl) ?_
 refine ⟨_,rfl,p,C,dx,_,_,rfl,(k2 _ _ (by simp) hob),T.cl,T.nW,sV _ _ _ _,.inl ⟨rfl,_,.of (k2 _ _ (by simp) hwl)⟩,_,rfl,by show 2 <= sizeLine;decide,fun t2 ht2=>?_⟩
 have k3:zC [] (upd H1 t (.tup [.str "asker",.str z])) (upd (upd H1 t (.tup [.str "asker",.str z])) t2 (.tup [.str "asker",.str z])):=zC.new ht2
 have k13:=k2.trans k3
 have hn13:∀ b ∈ ([]:List Addr),∀ xs,H1 b ≠ some (.tup xs):=fun b hb=>by cases hb
 refine ⟨wl,t2,_,s.row.map yR,j,ps,rfl,rfl,k13 _ _ (by simp) hwl,zK k13 hn13 hpr,zB,rfl,wX _,⟨yR (yH z),by rw [zGD,hj];rfl,by
  show eqT (yR (yH z)) (yR (yH z))=true
  rw [t8];exact zGM rfl⟩,(fun m r hm e=>by
  rw [zGD] at e
  cases hx:s.row[m]? with
  | none=>rw [hx] at e;cases e
  | some y=>
   rw [hx] at e
   have e':yR y=r:=zGE e
   rw [<- e']
   show eqT (yR y) (yR (yH z))=false
   rw [t8]
   exact zGN (fun w=>hno m hm (by rw [hx,w]))),?_⟩
 generalize hH3:upd (upd H1 t (.tup [.str "asker",.str z])) t2 (.tup [.str "asker",.str z])=H3 at k3 k13 ⊢
 have k4:zC [p,wl] H1 (upd H3 wl (.lst ((ps.eraseIdx j).map V.ref))):=(k13.mono (by simp)).trans (zC.at (by simp))
 have hob4:upd H3 wl (.lst ((ps.eraseIdx j).map V.ref)) p=some (.ins C dx (y6 (yC s.ptr) wl (yC s.hold) s.asked)):=by rw [zI npw];exact k13 _ _ (by simp) hob
 have S4:zZ C (upd H3 wl (.lst ((ps.eraseIdx j).map V.ref))) p wl { s with row:=s.row.eraseIdx j }:=by
  refine ⟨⟨dx,hob4⟩,⟨ps.eraseIdx j,zB,?_⟩,zGI (uA s.row j) hlen⟩
  show Paired _ _ ((s.row.eraseIdx j).map yR)
  rw [<- u6 yR]
  exact uJ j (zK k4 (vK hob hwl) hpr)
 refine ⟨_,rfl,p,dx,_,rfl,hob4,pR _ _ _ _,p,wl,_,rfl,S4,fun r H5 S5 R5 hr5 k5=>?_⟩
 have hr4:=(zL hr5).1
 exact q r H5 S5 R5 (k1.none (by simp) (k13.none (by simp) hr4)) (((k1.mono (by simp)).trans k4).trans k5)
theorem zCC:zN ["self","asker"] ["self","asker"] (zG j4):=⟨rfl,rfl,rfl,by decide +kernel,rfl,by decide +kernel,by decide +kernel⟩
def fU (C:Addr):Sp:=fun vs H Q _=>∃ (p wl:Addr) (s:SS) (z:Str),vs=[.ref p,.str z]/\zZ C H p wl s/\vD z=true/\z.length <= 1000/\s.hold=some z /\
 ∀ (r:Addr) (H':Hp),zZ C H' p wl (zS { s with hold:=none }).1->Rows H' r (zS { s with hold:=none }).2->H r=none->zC [p,wl] H H'->Q (.ref r) H'
theorem zC3 (T:x8 K C) (G:y3 K C "done" "Seat.done" j4 ["self","asker"]) (CC:Cal P w K mg base CX0 2 "check_asker" ["asker"] tT) (MM:yV P w K mg base CX0 2 C "move_on" ["self"] (sI C)) :
  yV P w K mg base CX0 3 C "done" ["self","asker"] (fU C):=by
 refine G.ok zCC (fun vs H Q E h=>by obtain ⟨p,wl,s,z,rfl,_⟩:=h;rfl) (fun f cdv A outer s0 H vs Q E hr h=>?_)
 obtain ⟨p,wl,s,z,rfl,S0,hn,hl,hh,q⟩:=h
 have hr2:z7 2 _:=hr.mono (by decide)
 refine ⟨_,(zE (yG (zU CC hr2 (zA (pv 1) zD)))
   (zE (z4 (zT mU (pv 1) (yF (pv 0) rfl) (zX _)) (zF y0) zQ)
   (zE (wM (pv 0) yZ rfl)
   (zF (zO (xJ MM T.cl hr2 (pv 0))))))),?_⟩
 refine ⟨_,rfl,z,rfl,hn,hl,fun H1 k1=>?_⟩
 have S:=S0.keep k1
 have npw:=S.ne
 obtain ⟨⟨dx,hob⟩,⟨ps,hwl,hpr⟩,hlen⟩:=id S
 refine ⟨_,rfl,_,rfl,p,C,dx,_,_,rfl,hob,T.cl,T.nH,kX _ _ _ _,jV _ _,_,rfl,?_⟩
 refine ifF (by rw [zAM,zGM hh];rfl) ?_
 refine ⟨_,rfl,p,C,dx,_,rfl,hob,T.cl,T.nH,by show 4 < 1000;decide,?_⟩
 rw [zBC]
 have k4:zC [p,wl] H1 (upd H1 p (.ins C dx (y6 (yC s.ptr) wl .non s.asked))):=zC.at (by simp)
 have S4:zZ C (upd H1 p (.ins C dx (y6 (yC s.ptr) wl .non s.asked))) p wl { s with hold:=none }:=S.stay (dx:=dx) { s with hold:=none } zB (by rw [zI (Ne.symm npw)]) rfl k4
 refine ⟨_,rfl,p,dx,_,rfl,zB,pR _ _ _ _,p,wl,_,rfl,S4,fun r H5 S5 R5 hr5 k5=>?_⟩
 have hr4:=(zL hr5).1
 exact q r H5 S5 R5 (k1.none (by simp) hr4) (((k1.mono (by simp)).trans k4).trans k5)
theorem bY:zN ["self"] ["self"] (zG oR):=⟨rfl,rfl,rfl,by decide +kernel,rfl,by decide +kernel,by decide +kernel⟩
def jU (C:Addr):Sp:=fun vs H Q _=>∃ (p wl:Addr) (s:SS),vs=[.ref p]/\zZ C H p wl s/\Q (yC s.ptr) H
theorem aV (T:x8 K C) (G:y3 K C "arrow" "Seat.arrow" oR ["self"]):yV P w K mg base CX0 1 C "arrow" ["self"] (jU C):=by
 refine G.ok bY (fun vs H Q E h=>by obtain ⟨p,wl,s,rfl,_⟩:=h;rfl) (fun f cdv A outer s0 H vs Q E hr h=>?_)
 obtain ⟨p,wl,s,rfl,S,q⟩:=h
 obtain ⟨dx,hob⟩:=S.ob
 exact ⟨_,(zF (zO (yF (pv 0) rfl))),_,rfl,p,C,dx,_,_,rfl,hob,T.cl,T.nP,cH _ _ _ _,q⟩
theorem f8:zN ["self"] ["self"] (zG rR):=⟨rfl,rfl,rfl,by decide +kernel,rfl,by decide +kernel,by decide +kernel⟩
def n9 (C:Addr):Sp:=fun vs H Q _=>∃ (p wl:Addr) (s:SS),vs=[.ref p]/\zZ C H p wl s/\Q (yC s.hold) H
theorem dE (T:x8 K C) (G:y3 K C "inside" "Seat.inside" rR ["self"]):yV P w K mg base CX0 1 C "inside" ["self"] (n9 C):=by
 refine G.ok f8 (fun vs H Q E h=>by obtain ⟨p,wl,s,rfl,_⟩:=h;rfl) (fun f cdv A outer s0 H vs Q E hr h=>?_)
 obtain ⟨p,wl,s,rfl,S,q⟩:=h
 obtain ⟨dx,hob⟩:=S.ob
 exact ⟨_,(zF (zO (yF (pv 0) rfl))),_,rfl,p,C,dx,_,_,rfl,hob,T.cl,T.nH,kX _ _ _ _,q⟩
theorem zEP:zN ["self"] ["self"] (zG b5):=⟨rfl,rfl,rfl,by decide +kernel,rfl,by decide +kernel,by decide +kernel⟩
def zA3 (C:Addr):Sp:=fun vs H Q _=>∃ (p wl:Addr) (s:SS),vs=[.ref p]/\zZ C H p wl s/\∀ (r:Addr) (H':Hp),H r=none->Rows H' r (s.row.map yR)->zC [] H H'->Q (.ref r) H'
theorem zE7 (T:x8 K C) (G:y3 K C "row" "Seat.row" b5 ["self"]) (bT:Blt mg "list"):yV P w K mg base CX0 1 C "row" ["self"] (zA3 C):=by
 refine G.ok zEP (fun vs H Q E h=>by obtain ⟨p,wl,s,rfl,_⟩:=h;rfl) (fun f cdv A outer s0 H vs Q E hr h=>?_)
 obtain ⟨p,wl,s,rfl,S,q⟩:=h
 obtain ⟨⟨dx,hob⟩,⟨ps,hwl,hpr⟩,hlen⟩:=id S
 refine ⟨_,(zF (zO (xX vH rfl bT.no wT (zA (yF (pv 0) rfl) zD)))),_,rfl,p,C,dx,_,_,rfl,hob,T.cl,T.nW,sV _ _ _ _,wl,_,rfl,.inl (.of hwl),fun l hl=>?_⟩
 have k1:zC [] H (upd H l (.lst (ps.map V.ref))):=zC.new hl
 exact q l _ hl ⟨ps,zB,zK k1 (fun b hb=>by cases hb) hpr⟩ k1
theorem zCB:zN ["self","arrow"] ["self","arrow"] (zG j3):=⟨rfl,rfl,rfl,by decide +kernel,rfl,by decide +kernel,by decide +kernel⟩
theorem aE (a:V) (wl:Addr):xP "asked" (.bl false) (xP "holder" .non (xP "waiting" (.ref wl) (xP "pointer" a [])))=y6 a wl .non false:=by
 unfold y6
 simp only [xP,if_neg n1,if_neg n2,if_neg n3,if_neg n4,if_neg n5,if_neg n6]
def lX (C:Addr):Sp:=fun vs H Q _=>∃ (p dx:Addr) (ar:Option Str),vs=[.ref p,yC ar]/\H p=some (.ins C dx [])/\(∀ z,ar=some z->vD z=true/\z.length <= 1000) /\
 ∀ (wl:Addr) (H':Hp),H wl=none->zZ C H' p wl ⟨ar,[],none,false⟩->zC [p] H H'->Q .non H'
theorem zC2 {fI:Addr} {fd:FuncData} (T:x8 K C) (G:Fun K "__init__" "Seat.__init__" j3 fI fd) (CI:Cal P w K mg base CX0 1 "is_name" ["thing"] (tJ K)):uW P w K mg base CX0 2 fI fd ["self","arrow"] (lX C):=by
 refine G.ok zCB (fun vs H Q E h=>by obtain ⟨p,dx,ar,rfl,_⟩:=h;rfl) (fun cdv A outer s0 H vs Q E hr h=>?_)
 obtain ⟨p,dx,ar,rfl,hp,hz,q⟩:=h
 have hr1:z7 1 _:=hr.mono (by decide)
 refine ⟨_,(zE (z4 (PW.pt (kG (zT u5 (pv 1) yZ (zX _)) (oU (wD (xY (zU CI hr1 (zA (pv 1) zD))))))) (zF y0) zQ)
   (zE (wM (pv 0) (pv 1) rfl)
   (zE (wM (pv 0) (y8 zD) rfl)
   (zE (wM (pv 0) yZ rfl)
   (zF (wM (pv 0) wP rfl)))))),?_⟩
 have rest:∀ H1,zC [] H H1->(pD (eD K (uV 0) (uV 1) "pointer") (pD (eD K (uV 0) (bJ nX) "waiting") (pD (eD K (uV 0) (tC .non) "holder") (eD K (uV 0) (tC (.bl false)) "asked")))) { nx:=fun _ H'=>Q .non H',rt:=Q } (L2.start ["self","arrow"] [.ref p,yC ar]) H1:=fun H1 k1=>by
  have hp1:=k1 _ _ (by simp) hp
  refine ⟨_,rfl,_,rfl,p,C,dx,_,rfl,hp1,T.cl,T.nP,by show 0 < 1000;decide,zGH _,fun wl hw=>?_⟩
  obtain ⟨hw1,wp⟩:=zL hw
  refine ⟨_,rfl,p,C,dx,_,rfl,by rw [zI (Ne.symm wp),zB],T.cl,T.nW,by show 1 < 1000;decide,?_⟩
  refine ⟨_,rfl,p,C,dx,_,rfl,zB,T.cl,T.nH,by show 2 < 1000;decide,?_⟩
  refine ⟨_,rfl,p,C,dx,_,rfl,zB,T.cl,T.nA,by show 3 < 1000;decide,?_⟩
  dsimp only
  rw [aE,vP,vP]
  refine q wl _ (k1.none (by simp) hw1) ⟨⟨dx,zB⟩,⟨[],by rw [zI wp,zB];rfl,.nil⟩,zGH _⟩ ?_
  exact ((((k1.mono (by simp)).trans (zC.at (by simp))).trans (zC.new hw))).trans (zC.at (by simp))
 cases ar with
 | none=>exact ⟨_,rfl,rfl,_,rfl,ifF rfl (ifF rfl (rest H (zC.refl _)))⟩
 | some z=>
  obtain ⟨h1,h2⟩:=hz z rfl
  refine ⟨_,rfl,rfl,_,rfl,ifT rfl ?_⟩
  refine ⟨_,rfl,_,"str",rfl,.str z,(fun z' e=>by cases e;exact h2),fun H1 k1=>⟨_,rfl,?_⟩⟩
  exact ifF (by show (!vD z)=false;rw [h1];rfl) (rest H1 k1)
end
abbrev qA:Stmt:=top 32
def Alk (H:Hp):Nat->V->V->Prop
 | 0,u,v=>u=v/\xL u=true
 | n + 1,u,v=>(u=v/\xL u=true) \/ ∃ (a b:Addr) (us vs:List V),u=.ref a/\v=.ref b/\((H a=some (.lst us)/\H b=some (.lst vs)) \/ (H a=some (.tup us)/\H b=some (.tup vs)))/\Paired (Alk H n) us vs/\us.length <= 2000
theorem Alk.keep {H H':Hp} (k:zC [] H H') (n:Nat):∀ {u v:V},Alk H n u v->Alk H' n u v:=by
 induction n with
 | zero=>exact fun h=>h
 | succ n ih=>
  intro u v h
  rcases h with h | ⟨a,b,us,vs,e1,e2,hh,hp,hl⟩
  ·exact .inl h
  ·exact .inr ⟨a,b,us,vs,e1,e2,hh.elim (fun z=>.inl ⟨k _ _ (by simp) z.1,k _ _ (by simp) z.2⟩) (fun z=>.inr ⟨k _ _ (by simp) z.1,k _ _ (by simp) z.2⟩),L2.Paired.mapP hp fun x y z=>ih z,hl⟩
theorem kW {K:PySem.W.Frag} {H:Hp} {u:V} (f:xL u=true):∃ T,yY K H u T/\T ≠ "list"/\T ≠ "tuple":=by
 cases u with
 | non=>exact ⟨_,.non,by decide,by decide⟩
 | bl b=>exact ⟨_,.bl b,by decide,by decide⟩
 | int i=>exact ⟨_,.int i,by decide,by decide⟩
 | str z=>exact ⟨_,.str z,by decide,by decide⟩
 | _=>exact absurd (show false=true from f) zGZ
theorem zBI {K:PySem.W.Frag} {H:Hp} {x:V} {T:String} (h:yY K H x T):PySem.W.kitAny K (.type T) [.type "list",.type "tuple"]=some (T == "list" || T == "tuple"):=by
 cases h <;> rfl
section
variable {P:Program} {w:World} {K:PySem.W.Frag} {mg:Str->Option Value} {base:Heap} {C:Addr}
theorem bZ:zN ["_law_found","_law_due"] ["_law_found","_law_due"] (zG qA):=⟨rfl,rfl,rfl,by decide +kernel,rfl,by decide +kernel,by decide +kernel⟩
def zEK:Nat->Sp
 | 0=>fun _ _ _ _=>False
 | n + 1=>fun vs H Q _=>∃ (u v:V),vs=[u,v]/\Alk H n u v/\∀ H',zC [] H H'->Q (.bl true) H'
theorem zAD {K:PySem.W.Frag} {H:Hp} {a b:Addr} {us vs:List V} (h:(H a=some (.lst us)/\H b=some (.lst vs)) \/ (H a=some (.tup us)/\H b=some (.tup vs))):zAY K (.ref a) H us.length/\zAY K (.ref b) H vs.length:=by
 rcases h with ⟨h1,h2⟩ | ⟨h1,h2⟩
 ·exact ⟨.inl ⟨_,.of h1,rfl⟩,.inl ⟨_,.of h2,rfl⟩⟩
 ·exact ⟨.inr ⟨_,.of h1,rfl⟩,.inr ⟨_,.of h2,rfl⟩⟩
theorem zBR {K:PySem.W.Frag} {H:Hp} {a b:Addr} {us vs:List V} (h:(H a=some (.lst us)/\H b=some (.lst vs)) \/ (H a=some (.tup us)/\H b=some (.tup vs))):∃ T,yY K H (.ref a) T/\yY K H (.ref b) T/\(T="list" \/ T="tuple"):=by
 rcases h with ⟨h1,h2⟩ | ⟨h1,h2⟩
 ·exact ⟨_,.lst h1,.lst h2,.inl rfl⟩
 ·exact ⟨_,.tup h1,.tup h2,.inr rfl⟩
theorem mI {H H':Hp} {a b:Addr} {us vs:List V} (k:zC [] H H') (h:(H a=some (.lst us)/\H b=some (.lst vs)) \/ (H a=some (.tup us)/\H b=some (.tup vs))):(H' a=some (.lst us)/\H' b=some (.lst vs)) \/ (H' a=some (.tup us)/\H' b=some (.tup vs)):=
 h.elim (fun z=>.inl ⟨k _ _ (by simp) z.1,k _ _ (by simp) z.2⟩) (fun z=>.inr ⟨k _ _ (by simp) z.1,k _ _ (by simp) z.2⟩)
theorem iD (G:yW K mg "_law_alike" qA ["_law_found","_law_due"]) (b_isinstance:Blt mg "isinstance") (b_list:Blt mg "list") (b_tuple:Blt mg "tuple") (b_bool:Blt mg "bool") (b_len:Blt mg "len") (b_all:Blt mg "all") (b_range:Blt mg "range") :
  ∀ n,Cal P w K mg base CX0 n "_law_alike" ["_law_found","_law_due"] (zEK n)
 | 0=>by
  obtain ⟨f,fd,F,hm,hb⟩:=G.ex
  exact ⟨f,fd,⟨fun _ _ _ _ h=>h.elim,fun _ _ _ _ _ _ _ _ _ _ _ _ _ h=>h.elim⟩,hm,F.kp,hb⟩
 | n + 1=>by
  have CA:=iD G b_isinstance b_list b_tuple b_bool b_len b_all b_range n
  refine G.ok bZ (fun vs H Q E h=>by obtain ⟨u,v,rfl,_⟩:=h;rfl) (fun f cdv A outer s0 H vs Q E hr h=>?_)
  obtain ⟨u,v,rfl,hA,q⟩:=h
  refine ⟨_,(zE (z4 (xY (z9 nM b_isinstance yJ (zA (pv 1) (zA (z8 (zA (vQ b_list wT) (zA (vQ b_tuple qZ) zD))) zD)))) (zE (z4 (PW.pt (pK (zT mU (z9 yX b_isinstance yJ (zA (pv 1) (zA (vQ b_list wT) zD))) (z9 yX b_isinstance yJ (zA (pv 0) (zA (vQ b_list wT) zD))) (zX _)) (sL (zT mU (z9 yX b_isinstance yJ (zA (pv 1) (zA (vQ b_tuple qZ) zD))) (z9 yX b_isinstance yJ (zA (pv 0) (zA (vQ b_tuple qZ) zD))) (zX _))))) (zF (zO wP)) zQ)
   (zE (z4 (zT mU (z9 yT b_len xI (zA (pv 0) zD)) (z9 yT b_len xI (zA (pv 1) zD)) (zX _)) (zF (zO wP)) zQ)
   (zF (zO (z9 (sB rfl) b_all nO (zA (vV (N:=["_law_found","_law_due"]) (sc:=zG qA) (ix:=[0,1]) (by decide +kernel) (wI rfl b_range.no (zA (z9 yT b_len xI (zA (pv 1) zD)) zD)) (fun _ _ _ _=>xD) (fun _ _ _ _=>(zU CA hr (zA (zV (yA.or zY) (pv 1) (pv 0) (fun _ _=>rfl)) (zA (zV (yA.or zY) (pv 2) (pv 0) (fun _ _=>rfl)) zD))))) zD)))))) zQ)
   (zF (zO (tL (wA xW (z9 yX b_isinstance yJ (zA (pv 0) (zA (vQ b_bool rZ) zD))) (z9 yX b_isinstance yJ (zA (pv 1) (zA (vQ b_bool rZ) zD))) (zX _)) (tK (wA xW (pv 0) (pv 1) (zX _))))))),?_⟩
  have hA':(u=v/\xL u=true) \/ ∃ (a b:Addr) (us vs:List V) (m:Nat),u=.ref a/\v=.ref b/\((H a=some (.lst us)/\H b=some (.lst vs)) \/ (H a=some (.tup us)/\H b=some (.tup vs)))/\n=m + 1/\Paired (Alk H m) us vs/\us.length <= 2000:=by
   cases n with
   | zero=>exact .inl hA
   | succ m=>
    rcases hA with h | ⟨a,b,us,vs,e1,e2,hh,hp,hl⟩
    ·exact .inl h
    ·exact .inr ⟨a,b,us,vs,m,e1,e2,hh,rfl,hp,hl⟩
  rcases hA' with ⟨rfl,fu⟩ | ⟨a,b,us,vs,m,rfl,rfl,hh,rfl,hp,hl⟩
  ·obtain ⟨T,pt,n1,n2⟩:=kW (K:=K) (H:=H) fu
   have sc:fZ u u=true:=by
    cases u <;> first | rfl | exact absurd (show false=true from fu) zGZ
   refine ⟨_,rfl,by show 2 <= sizeLine;decide,fun t ht=>?_⟩
   have k1:zC [] H (upd H t (.tup [.ty "list",.ty "tuple"])):=zC.new ht
   refine ⟨_,T,t,["list","tuple"],_,rfl,pt.keep k1,zB,zBI (pt.keep k1),_,rfl,?_⟩
   refine ifF (by simp [n1,n2]) ?_
   have kt:=(pt.keep k1).kit.2.2.1
   refine ⟨_,rfl,_,_,_,_,rfl,(pt.keep k1).ty,kt,_,rfl,_,_,_,_,rfl,(pt.keep k1).ty,kt,rfl,_,rfl,?_⟩
   refine ifT (by simp) ⟨_,rfl,_,rfl,sc,?_⟩
   rw [zGM rfl]
   exact q _ k1
  ·have hlen:=zP hp
   refine ⟨_,rfl,by show 2 <= sizeLine;decide,fun t ht=>?_⟩
   have k1:zC [] H (upd H t (.tup [.ty "list",.ty "tuple"])):=zC.new ht
   generalize hH1:upd H t (.tup [.ty "list",.ty "tuple"])=H1 at k1 ⊢
   have hh1:=mI k1 hh
   obtain ⟨T,pa,pb,hT⟩:=zBR (K:=K) hh1
   refine ⟨_,T,t,["list","tuple"],_,rfl,pb,by rw [<- hH1];exact zB,zBI pb,_,rfl,?_⟩
   refine ifT (by rcases hT with h | h <;> rw [h] <;> rfl) ?_
   refine ⟨_,rfl,_,_,_,_,rfl,pb.ty,pb.kit.2.2.2.1,_,rfl,_,_,_,_,rfl,pa.ty,pa.kit.2.2.2.1,rfl,_,rfl,?_⟩
   refine ifF (by simp) ?_
   refine ⟨_,rfl,_,_,_,_,rfl,pb.ty,pb.kit.2.2.2.2,_,rfl,_,_,_,_,rfl,pa.ty,pa.kit.2.2.2.2,rfl,_,rfl,?_⟩
   refine ifF (by simp) ?_
   obtain ⟨l1,l2⟩:=zAD (K:=K) hh1
   refine ⟨_,rfl,_,_,rfl,l1,_,rfl,_,_,rfl,l2,rfl,_,rfl,?_⟩
   refine ifF (by rw [hlen];simp) ?_
   refine ⟨_,rfl,_,_,rfl,l2,_,rfl,by omega,by omega,fun acc hacc=>?_⟩
   refine u7 (by rw [sizeLine_eq];omega) (fun i ys τ H2=>∃ (k:Option V),τ=[k,some (.ref a),some (.ref b)]/\ys=List.replicate i (V.bl true)/\zC [acc] H1 H2/\H2 acc=some (.lst ys)) ?_ ?_ ?_ ?_
   ·exact ⟨_,rfl,rfl,zC.at (by simp),zB⟩
   ·rintro i ys τ H2 ⟨k,rfl,rfl,kp,h2⟩
    exact ⟨h2,by simp⟩
   ·rintro i ys τ H2 hi ⟨k,rfl,rfl,kp,h2⟩
    have hi':i < vs.length:=by omega
    have hi2:i < us.length:=by omega
    have k2:zC [] H1 H2:=kp.drop hacc
    have hh2:=mI k2 hh1
    obtain ⟨y,ey,ay⟩:=x4 hp i us[i] (zF8 hi2)
    have ix1:∀ {p:Addr} {zs:List V} {x:V} {Q:VK},zs[i]?=some x->(H2 p=some (.lst zs) \/ H2 p=some (.tup zs))->Q x H2->(eL (.ref p) (.int (0 + (i:Int))) H2 Q \/ eJ (.ref p) (.int (0 + (i:Int))) H2 Q):=fun {p zs x Q} e1 e2 e3=>by
     have e4:atI zs (0 + (i:Int))=some x:=by rw [Int.zero_add];exact uP e1
     exact e2.elim (fun z=>.inl ⟨p,zs,_,x,rfl,rfl,z,e4,e3⟩) (fun z=>.inr ⟨p,zs,_,x,rfl,rfl,z,e4,e3⟩)
    refine ⟨_,rfl,_,rfl,ix1 (zF8 hi2) (hh2.imp (·.1) (·.1)) ⟨_,rfl,_,rfl,ix1 ey (hh2.imp (·.2) (·.2)) ?_⟩⟩
    refine ⟨us[i],y,rfl,Alk.keep (k1.trans k2) m ay,fun H3 k3=>⟨k3 _ _ (by simp) h2,_,rfl,?_,(kp.trans (k3.mono (by simp))).trans (zC.at (by simp)),zB⟩⟩
    rw [List.replicate_succ']
   ·rintro ys τ H2 ⟨k,rfl,rfl,kp,h2⟩
    refine ⟨acc,List.replicate _ true,rfl,.of (by rw [h2,List.map_replicate]),?_⟩
    have e:(List.replicate ((vs.length:Nat):Int).toNat true).all id=true:=by simp
    rw [e]
    exact q _ (k1.trans (kp.drop hacc))
end
abbrev j8:Stmt:=top 27
abbrev oP:Stmt:=top 28
abbrev rS:Stmt:=top 29
abbrev jX:Stmt:=top 30
abbrev sK:Stmt:=top 31
def Src (H:Hp) (p:Addr):Prop:=∃ a b c:Int,H p=some (.lst [.int a,.int b,.int c])
def sF (z:Str):Prop:=∀ c ∈ z.cps.toList,vG c=true
theorem zAW:∀ c ∈ abc.cps.toList,vG c=true:=by decide +kernel
theorem zAC {x y:Str} (h1:sF x) (h2:sF y):sF (x ++ y):=by
 intro c hc
 have e:(x ++ y).cps.toList=x.cps.toList ++ y.cps.toList:=by
  show (x.cps ++ y.cps).toList=_
  simp
 rw [e] at hc
 exact (zGO.mp hc).elim (h1 c) (h2 c)
theorem iH {ch:Nat} (h:ch ∈ abc.cps.toList):sF ⟨#[ch]⟩:=fun c hc=>by
 have e:c=ch:=by simpa using hc
 rw [e];exact zAW ch h
theorem gB {x:Str} (h:sF x) (lo hi:Option Int):sF (Txt.slice x lo hi):=by
 intro c hc
 unfold Txt.slice at hc
 split at hc
 ·exact h c hc
 ·simp only [List.mem_filterMap] at hc
  obtain ⟨i,_,e⟩:=hc
  exact h c (by
   rw [<- Array.getElem?_toList] at e
   exact zGB e)
theorem m9:∀ (zs:List Str) (acc:Array Nat),(∀ c ∈ acc.toList,vG c=true)->(∀ z ∈ zs,sF z)->∀ c ∈ (zs.foldl (fun acc p=>acc ++ (Str.ofString "").cps ++ p.cps) acc).toList,vG c=true
 | [],acc,h,_=>h
 | z :: zs,acc,h,hz=>by
  rw [List.foldl_cons]
  refine m9 zs _ (fun c hc=>?_) fun y hy=>hz y (zGK _ hy)
  have hc':c ∈ acc.toList ++ (Str.ofString "").cps.toList ++ z.cps.toList:=by simpa using hc
  rcases zGO.mp hc' with q | q
  ·rcases zGO.mp q with q | q
   ·exact h c q
   ·exact absurd q (by show ¬ c ∈ ([]:List Nat);simp)
  ·exact hz z zG0 c q
theorem dQ (zs:List Str) (h:∀ z ∈ zs,sF z):sF (Txt.join (Str.ofString "") zs):=by
 cases zs with
 | nil=>intro c hc;exact absurd hc (by show ¬ c ∈ ([]:List Nat);simp)
 | cons z zs=>
  show ∀ c ∈ ((zs.foldl (fun acc p=>acc ++ (Str.ofString "").cps ++ p.cps) z.cps)).toList,vG c=true
  exact m9 zs _ (h z zG0) fun y hy=>h y (zGK _ hy)
theorem aX {z:Str} (h:sF z) (h1:1 <= z.length) (h2:z.length <= 8):vD z=true:=by
 unfold vD
 rw [zGM h1,zGM h2]
 simp only [Bool.true_and]
 exact List.all_eq_true.mpr h
section
variable {P:Program} {w:World} {K:PySem.W.Frag} {mg:Str->Option Value} {base:Heap} {C:Addr}
def oF:Sp:=fun vs H Q _=>∃ a k,vs=[.int a,.int k]/\∀ v:Int,0 <= v->v < 2147483629->Q (.int v) H
theorem rQ:zN ["_law_cell","_law_k","_law_number"] ["_law_cell","_law_k"] (zG oP):=⟨rfl,rfl,rfl,by decide +kernel,rfl,by decide +kernel,by decide +kernel⟩
theorem aT (G:yW K mg "_law_mixed" oP ["_law_cell","_law_k"]):Cal P w K mg base CX0 1 "_law_mixed" ["_law_cell","_law_k"] oF:=by
 refine G.ok rQ (fun vs H Q E h=>by obtain ⟨a,k,rfl,_⟩:=h;rfl) (fun f cdv A outer s H vs Q E hr h=>?_)
 obtain ⟨a,k,rfl,q⟩:=h
 refine ⟨_,zE (yI (i:=2) rQ.nd rfl (Or.inl rfl) (yO uL (yO sN (yO wQ (yO wQ (yO uL (pv 0) zJ) (yO sN zJ (pv 1))) zJ) zJ) zJ))
  (zE (yI (i:=2) rQ.nd rfl (Or.inl rfl) (yO uL (yO sN (pv 2) (yO wQ (yO rU (pv 2) zJ) zJ)) zJ))
  (zE (yI (i:=2) rQ.nd rfl (Or.inl rfl) (yO uL (yO sN (pv 2) (yO wQ (yO wQ (yO rU (pv 2) zJ) zJ) (pv 1))) zJ))
  (zF (zO (yO uL (yO sN (pv 2) (yO wQ (yO rU (pv 2) zJ) zJ)) zJ))))),?_⟩
 simp [pD,nY,fK,tOp,rI,rI0,uV,tC,xZ,L2.start,fD,zAZ]
 refine ⟨by omega,by omega,by omega,q _ (by omega) (by omega)⟩
def r9:Sp:=fun vs H Q _=>∃ a,vs=[.int a]/\∀ (p:Addr) (b c d:Int),H p=none->Q (.ref p) (upd H p (.lst [.int b,.int c,.int d]))
theorem f9:zN ["_law_cell"] ["_law_cell"] (zG rS):=⟨rfl,rfl,rfl,by decide +kernel,rfl,by decide +kernel,by decide +kernel⟩
theorem dF (G:yW K mg "_law_digits" rS ["_law_cell"]):Cal P w K mg base CX0 1 "_law_digits" ["_law_cell"] r9:=by
 refine G.ok f9 (fun vs H Q E h=>by obtain ⟨a,rfl,_⟩:=h;rfl) (fun f cdv A outer s H vs Q E hr h=>?_)
 obtain ⟨a,rfl,q⟩:=h
 refine ⟨_,zF (zO (y8 (zA (yO sN (yO rU (pv 0) zJ) (yO zCR zJ (yO uL (pv 0) zJ))) (zA (pv 0) (zA zJ zD))))),?_⟩
 simp [pD,nY,fK,tOp,rI,rI0,uV,tC,xZ,L2.start,fD,zAZ,bJ,tS,nX]
 refine ⟨by omega,iW (by decide) |> Nat.le_of_lt,fun p hp=>q p _ _ _ hp⟩
def oE:Sp:=fun vs H Q _=>∃ (p:Addr) (a b c m:Int),vs=[.ref p,.int m]/\H p=some (.lst [.int a,.int b,.int c])/\0 < m/\m < 4611686018427387904 /\
 ∀ v a' c':Int,0 <= v->v < m->Q (.int v) (upd H p (.lst [.int a',.int b,.int c']))
theorem f7:zN ["_law_source","_law_many","_law_found"] ["_law_source","_law_many"] (zG jX):=⟨rfl,rfl,rfl,by decide +kernel,rfl,by decide +kernel,by decide +kernel⟩
theorem zCY (G:yW K mg "_law_next" jX ["_law_source","_law_many"]) (CM:Cal P w K mg base CX0 1 "_law_mixed" ["_law_cell","_law_k"] oF):Cal P w K mg base CX0 2 "_law_next" ["_law_source","_law_many"] oE:=by
 refine G.ok f7 (fun vs H Q E h=>by obtain ⟨p,a,b,c,m,rfl,_⟩:=h;rfl) (fun f cdv A outer s H vs Q E hr h=>?_)
 obtain ⟨p,a,b,c,m,rfl,hp,m0,m1,q⟩:=h
 refine ⟨_,zE (z4 (zT zBG (zV yA (pv 0) zJ (fun _ _=>rfl)) zJ (zX _))
   (zE (yI (i:=2) f7.nd rfl (Or.inl rfl) (yO uL (zV yA (pv 0) zJ (fun _ _=>rfl)) (pv 1)))
   (zE (sM (yO dD (zV yA (pv 0) zJ (fun _ _=>rfl)) (pv 1)) (eX (pv 0) zJ mE))
   (zF (zO (pv 2))))) zQ)
  (zE (sM (yO wQ (zV yA (pv 0) zJ (fun _ _=>rfl)) zJ) (eX (pv 0) zJ mE))
  (zF (zO (yO uL (zU CM hr (zA (zV yA (pv 0) zJ (fun _ _=>rfl)) (zA (zV yA (pv 0) zJ (fun _ _=>rfl)) zD))) (pv 1))))),?_⟩
 simp [pD,nY,fK,tOp,rI,rI0,uV,tC,xZ,L2.start,fD,zAZ,bJ,tS,nX,zD0,fJ,zA0,zFP,eL,zA9,fO,oF,hp,atI,ixN,zB,vP]
 refine gH (fun h1=>⟨m0,⟨m0,m1⟩,q _ _ _ (Int.emod_nonneg _ (by omega)) (Int.emod_lt_of_pos _ m0)⟩) (fun h1 v v0 v1=>⟨m0,q _ _ _ (Int.emod_nonneg _ (by omega)) (Int.emod_lt_of_pos _ m0)⟩)
theorem zCG:zN ["_law_script","_law_k"] ["_law_script","_law_k"] (zG j8):=⟨rfl,rfl,rfl,by decide +kernel,rfl,by decide +kernel,by decide +kernel⟩
def fX (K:PySem.W.Frag):Sp:=fun vs H Q _=>∃ (a:Addr) (ns:List Int) (k:Int),vs=[.ref a,.int k]/\SqL K H a (ns.map V.int)/\0 <= k/\∀ v:Int,Q (.int v) H
theorem zC7 (G:yW K mg "_law_cell_at" j8 ["_law_script","_law_k"]) (b_len:Blt mg "len"):Cal P w K mg base CX0 1 "_law_cell_at" ["_law_script","_law_k"] (fX K):=by
 refine G.ok zCG (fun vs H Q E h=>by obtain ⟨a,ns,k,rfl,_⟩:=h;rfl) (fun f cdv A outer s0 H vs Q E hr h=>?_)
 obtain ⟨a,ns,k,rfl,hS,k0,q⟩:=h
 refine ⟨_,(zE (z4 (zT zBF (pv 1) (z9 yT b_len xI (zA (pv 0) zD)) (zX _)) (zF (zO (zV iK (pv 0) (pv 1) (fun _ _=>rfl)))) zQ)
   (zF (zO zJ))),?_⟩
 refine ⟨_,rfl,_,rfl,_,_,rfl,.inl ⟨_,hS,rfl⟩,_,_,rfl,rfl,_,rfl,?_⟩
 refine gH (fun h1=>?_) (fun h1=>q 0)
 have h1':=of_decide_eq_true h1
 obtain ⟨v,e1,e2⟩:=sX k0 h1'
 rw [zGD] at e2
 cases hz:ns[k.toNat]? with
 | none=>rw [hz] at e2;cases e2
 | some z=>
  rw [hz] at e2
  have e3:V.int z=v:=zGE e2
  subst e3
  exact ⟨_,rfl,_,rfl,a,_,k,_,rfl,rfl,hS,e1,q z⟩
theorem rP:zN ["_law_source","_law_many","_law_letters","_law_start","_law_stem"] ["_law_source","_law_many"] (zG sK):=⟨rfl,rfl,rfl,by decide +kernel,rfl,by decide +kernel,by decide +kernel⟩
theorem lU {xs:List Str} {te:TE} {n:Nat} {σ:St} {H1:Hp} {Q:VK} {acc p:Addr} {ix:List Nat} {rest:List (Option V)} (hn:n <= 100) (hs:Src H1 p) (ha:H1 acc=none)
  (hσ:stC xs ix σ=none :: rest)
  (ht:∀ (k:V) (H2:Hp) (R:VK),Src H2 p->(∀ (ch:Nat) (H3:Hp),ch ∈ abc.cps.toList->zC [p] H2 H3->Src H3 p->R (.str ⟨#[ch]⟩) H3)->te (some k :: rest) H2 R)
  (q:∀ (zs:List Str) (H2:Hp),zs.length=n->(∀ z ∈ zs,sF z/\z.length=1)->zC [p] H1 H2->Src H2 p->H2 acc=some (.lst (zs.map V.str))->Q (.ref acc) H2) :
  LCW (Itr 0 n) xs ix (xZ 0) tI te σ H1 acc Q:=by
 have pa:acc ≠ p:=by
  obtain ⟨a,b,c,h⟩:=hs
  exact Ne.symm (zH h ha)
 refine u7 (by rw [sizeLine_eq];omega) (fun i ys τ H2=>∃ (zs:List Str) (k:Option V),τ=k :: rest/\ys=zs.map V.str/\zs.length=i/\(∀ z ∈ zs,sF z/\z.length=1)/\zC [acc,p] H1 H2/\Src H2 p/\H2 acc=some (.lst ys)) ?_ ?_ ?_ ?_
 ·obtain ⟨a,b,c,h⟩:=hs
  exact ⟨[],none,hσ,rfl,rfl,(fun z hz=>by cases hz),zC.at (by simp),⟨a,b,c,by rw [zI (Ne.symm pa)];exact h⟩,zB⟩
 ·rintro i ys τ H2 ⟨zs,k,rfl,rfl,hl,_,_,_,h2⟩
  exact ⟨h2,by rw [zF7];omega⟩
 ·rintro i ys τ H2 hi ⟨zs,k,rfl,rfl,hl,h1,kp,hs2,h2⟩
  refine ht _ H2 _ hs2 fun ch H3 hc k3 hz83=>?_
  obtain ⟨a,b,c,hs3⟩:=hz83
  refine ⟨k3 _ _ (by simp [pa]) h2,zs ++ [⟨#[ch]⟩],_,rfl,by simp,by simp [hl],?_,(kp.trans (k3.mono (by simp))).trans (zC.at (by simp)),⟨a,b,c,by rw [zI (Ne.symm pa)];exact hs3⟩,zB⟩
  intro z hz
  rcases zGO.mp hz with z1 | z1
  ·exact h1 z z1
  ·rw [zGA.mp z1];exact ⟨iH hc,rfl⟩
 ·rintro ys τ H2 ⟨zs,k,rfl,rfl,hl,h1,kp,hs2,h2⟩
  exact q zs H2 hl h1 (kp.drop ha) hs2 h2
theorem jN (zs:List Str) (h:∀ z ∈ zs,sF z/\z.length=1):(zs.map (·.length)).sum=zs.length:=nZ zs fun z hz=>(h z hz).2
def xG (z:Str):Prop:=vD z=true/\z.length <= 8
def p8 (st:Int) (ws:List Str):Prop:=∀ (j:Nat) (z:Str),ws[j]?=some z->z.cps.toList.getLast?=abc.cps.toList[((st + (0 + (j:Int))) % 26).toNat]?
theorem p8.snoc {st:Int} {ws:List Str} {x:Str} {ch:Nat} (h:p8 st ws) (e:abc.cps.toList[((st + (0 + (ws.length:Int))) % 26).toNat]?=some ch):p8 st (ws ++ [x ++ ⟨#[ch]⟩]):=by
 intro j z hj
 by_cases jl:j < ws.length
 ·rw [zGV jl] at hj
  exact h j z hj
 ·rw [zGU (by omega)] at hj
  have j0:j=ws.length:=by
   have:=(zF9.mp hj).1
   simp at this;omega
  subst j0
  rw [Nat.sub_self] at hj
  have ez:x ++ (⟨#[ch]⟩:Str)=z:=zGE hj
  rw [<- ez,e]
  show (x.cps ++ #[ch]).toList.getLast?=_
  simp
theorem p7:abc.cps.toList.Nodup/\abc.cps.toList.length=26:=by decide +kernel
theorem p8.nodup {st:Int} {ws:List Str} (h:p8 st ws) (hl:ws.length <= 26):ws.Nodup:=by
 rw [List.nodup_iff_pairwise_ne,List.pairwise_iff_getElem]
 intro i j hi hj hij e
 have a:=h i _ (zF8 hi)
 have b:=h j _ (zF8 hj)
 rw [e] at a
 have c:=a.symm.trans b
 have ri:((st + (0 + (i:Int))) % 26).toNat < abc.cps.toList.length:=by rw [p7.2];omega
 have:=(List.getElem?_inj ri p7.1).mp c
 omega
def jQ:Sp:=fun vs H Q _=>∃ (p:Addr) (m:Int),vs=[.ref p,.int m]/\Src H p/\0 <= m/\m <= 26 /\
 ∀ (r:Addr) (zs:List Str) (H':Hp),H r=none->H' r=some (.lst (zs.map V.str))->zs.length=m.toNat->(∀ z ∈ zs,xG z)->zs.Nodup->zC [p] H H'->Src H' p->Q (.ref r) H'
theorem aR (G:yW K mg "_law_names" sK ["_law_source","_law_many"]) (CN:Cal P w K mg base CX0 2 "_law_next" ["_law_source","_law_many"] oE) (b_range:Blt mg "range"):Cal P w K mg base CX0 3 "_law_names" ["_law_source","_law_many"] jQ:=by
 refine G.ok rP (fun vs H Q E h=>by obtain ⟨p,m,rfl,_⟩:=h;rfl) (fun f cdv A outer s0 H vs Q E hr h=>?_)
 obtain ⟨p,m,rfl,⟨a,b,c,hp⟩,m0,m1,q⟩:=h
 have hr2:z7 2 _:=hr.mono (by decide)
 refine ⟨_,(zE (yI (i:=2) rP.nd rfl (Or.inr rfl) zM)
   (zE (yI (i:=3) rP.nd rfl (Or.inr rfl) (zU CN hr2 (zA (pv 0) (zA zJ zD))))
   (zE (yI (i:=4) rP.nd rfl (Or.inr rfl) (vC PySem.F.plainAttrs_str PySem.F.slot_str_join PySem.F.type_str_join aZ zM (zA (vV (N:=["_law_source","_law_many","_law_letters","_law_start","_law_stem"]) (sc:=zG sK) (ix:=[2,0]) (by decide +kernel) (wI rfl b_range.no (zA zJ zD)) (fun _ _ _ _=>xD) (fun _ _ _ _=>(zV d8 (pv 1) (zU CN hr2 (zA (pv 2) (zA zJ zD))) (fun _ _=>rfl)))) zD)))
   (zF (zO (vV (N:=["_law_source","_law_many","_law_letters","_law_start","_law_stem"]) (sc:=zG sK) (ix:=[4,2,0,3]) (by decide +kernel) (wI rfl b_range.no (zA (pv 1) zD)) (fun _ _ _ _=>xD) (fun _ _ _ _=>(yO kI (wO zB7 (pv 1) uH (wN (zU CN hr2 (zA (pv 3) (zA zJ zD))))) (zV d8 (pv 2) (yO uL (yO wQ (pv 4) (pv 0)) zJ) (fun _ _=>rfl)))))))))),?_⟩
 refine ⟨_,rfl,p,a,b,c,26,rfl,hp,by decide,by decide,fun st a1 c1 st0 st1=>?_⟩
 have k1:zC [p] H (upd H p (.lst [.int a1,.int b,.int c1])):=zC.at (by simp)
 generalize hH1:upd H p (.lst [.int a1,.int b,.int c1])=H1 at k1 ⊢
 have s1:Src H1 p:=⟨a1,b,c1,by rw [<- hH1];exact zB⟩
 refine ⟨rfl,7,rfl,by decide,by decide,fun acc ha=>?_⟩
 refine lU (p:=p) (by decide) s1 ha rfl (fun k H2 R ⟨a2,b2,c2,hs⟩ R'=>?_) ?_
 ·refine ⟨_,rfl,_,rfl,p,a2,b2,c2,26,rfl,hs,by decide,by decide,fun v2 a3 c3 w0 w1=>?_⟩
  obtain ⟨ch,hc1,hc2⟩:=sX (xs:=abc.cps.toList) w0 (show v2 < ((26:Nat):Int) from w1)
  exact ⟨_,v2,ch,rfl,rfl,by decide,hc1,R' ch _ (zGB hc2) (zC.at (by simp)) ⟨a3,b2,c3,zB⟩⟩
 intro zs H2 hzl hz k2 s2 h2
 refine ⟨"",acc,zs,rfl,rfl,.of h2,by rw [jN zs hz,hzl];decide,?_⟩
 have hstem:sF (Txt.join (Str.ofString "") zs):=dQ zs fun z h=>(hz z h).1
 have lstem:(Txt.join (Str.ofString "") zs).length=7:=by rw [d7,jN zs hz,hzl];rfl
 generalize Txt.join (Str.ofString "") zs=stem at hstem lstem ⊢
 refine ⟨_,rfl,m,rfl,by omega,by omega,fun acc2 ha2=>?_⟩
 have pa:acc2 ≠ p:=by
  obtain ⟨x,y,z,h⟩:=s2
  exact Ne.symm (zH h ha2)
 have na:H acc2=none:=k1.none (by simp [pa]) (k2.none (by simp [pa]) ha2)
 refine u7 (by rw [sizeLine_eq];omega) (fun i ys τ H3=>∃ (ws:List Str) (k:Option V),τ=k :: [some (.str stem),some (.str abc),some (.ref p),some (.int st)]/\ys=ws.map V.str/\ws.length=i/\(∀ z ∈ ws,xG z)/\p8 st ws/\zC [acc2,p] H2 H3/\Src H3 p/\H3 acc2=some (.lst ys)) ?_ ?_ ?_ ?_
 ·obtain ⟨x,y,z,h⟩:=s2
  exact ⟨[],none,rfl,rfl,rfl,(fun z hz=>by cases hz),(fun j z e=>by simp at e),zC.at (by simp),⟨x,y,z,by rw [zI (Ne.symm pa)];exact h⟩,zB⟩
 ·rintro i ys τ H3 ⟨ws,k,rfl,rfl,hl,_,_,_,_,h3⟩
  exact ⟨h3,by rw [zF7];omega⟩
 ·rintro i ys τ H3 hi ⟨ws,k,rfl,rfl,hl,h1,hla,kp,⟨a2,b2,c2,hs⟩,h3⟩
  refine ⟨_,rfl,_,rfl,p,a2,b2,c2,8,rfl,hs,by decide,by decide,fun v a3 c3 v0 v1=>⟨v,rfl,stem,rfl,by rw [lstem,sizeLine_eq];decide,?_⟩⟩
  refine ⟨_,rfl,_,rfl,_,rfl,_,_,rfl,rfl,_,_,rfl,rfl,(by show (0:Int) < 26;decide),?_⟩
  have g0:0 <= (st + (0 + (i:Int))) % 26:=Int.emod_nonneg _ (by decide)
  have g1:(st + (0 + (i:Int))) % 26 < 26:=Int.emod_lt_of_pos _ (by decide)
  obtain ⟨ch,hc1,hc2⟩:=sX (xs:=abc.cps.toList) g0 (show (st + (0 + (i:Int))) % 26 < ((26:Nat):Int) from g1)
  have e1:=Txt.slice_le stem none (some v)
  refine ⟨_,_,ch,rfl,rfl,by decide,hc1,_,_,rfl,rfl,by rw [sizeLine_eq];show _ + 1 <= _;omega,?_⟩
  refine ⟨by rw [zI pa];exact h3,ws ++ [Txt.slice stem none (some v) ++ ⟨#[ch]⟩],_,rfl,by simp,by simp [hl],?_,hla.snoc (by rw [hl];exact hc2),(kp.trans (zC.at (by simp))).trans (zC.at (by simp)),⟨a3,b2,c3,by rw [zI (Ne.symm pa),zB]⟩,zB⟩
  intro z hz
  rcases zGO.mp hz with z1 | z1
  ·exact h1 z z1
  ·rw [zGA.mp z1]
   have el:(Txt.slice stem none (some v) ++ (⟨#[ch]⟩:Str)).length=(Txt.slice stem none (some v)).length + 1:=by rw [zAE];rfl
   exact ⟨aX (zAC (gB hstem _ _) (iH (zGB hc2))) (by omega) (by omega),by omega⟩
 ·rintro ys τ H3 ⟨ws,k,rfl,rfl,hl,h1,hla,kp,hs3,h3⟩
  exact q acc2 ws H3 na h3 hl h1 (hla.nodup (by omega)) ((k1.trans k2).trans (kp.drop ha2)) hs3
end
abbrev oN:Stmt:=top 13
abbrev mH:Stmt:=top 14
abbrev b0:Stmt:=top 15
abbrev sNb:Stmt:=top 21
abbrev eE:Stmt:=top 22
theorem pQ (zs:List Str):(zs.map V.str).all xL=true:=by
 rw [List.all_map,List.all_eq_true];exact fun _ _=>rfl
theorem dM {zs:List Str} (h:qP zs=zs.length):zs.Nodup:=by
 have go:∀ (val:Nat->Str) (n:Nat),(wU val n).length=n->∀ i j,i < j->j < n->val i ≠ val j:=by
  intro val n
  induction n with
  | zero=>intro _ i j _ hj;omega
  | succ n ih=>
   intro hl i j hij hj e
   rw [t5] at hl
   have le:=rW val n
   have any:∀ (m:Nat) (k:Str) (a:Nat),a < m->val a=k->(wU val m).any (· == k)=true:=by
    intro m
    induction m with
    | zero=>intro k a ha;omega
    | succ m im=>
     intro k a ha ek
     rw [qN]
     by_cases ea:a=m
     ·subst ea;rw [ek];simp
     ·rw [im k a (by omega) ek];rfl
   cases c:(wU val n).any (· == val n) with
   | true=>rw [c] at hl;simp only [if_true] at hl;omega
   | false=>
    rw [c] at hl
    simp only [Bool.false_eq_true,if_false] at hl
    by_cases ej:j=n
    ·subst ej
     rw [any j (val j) i hij e] at c
     cases c
    ·exact ih (by omega) i j hij (by omega) e
 rw [List.nodup_iff_pairwise_ne,List.pairwise_iff_getElem]
 intro i j hi hj hij e
 refine go (fun i=>zs.getD i Str.empty) zs.length h i j hij hj ?_
 simp only [zGC,zF8 hi,zF8 hj,Option.getD_some]
 exact e
theorem hZ (zs:List Str):decide (V.int ((qP zs:Nat):Int)=V.int (zs.length:Int))=decide zs.Nodup:=by
 by_cases h:zs.Nodup
 ·rw [m8 h];simp [h]
 ·rw [zGN h]
  refine zGN fun e=>h (dM ?_)
  have:=V.int.inj e
  omega
def bE (K:PySem.W.Frag) (H:Hp) (x:V):Prop:=(∃ T,yY K H x T)/\∀ z,x=.str z->z.length <= 1000
theorem dJ {x:V} (h:x6 x=true):∃ z,x=.str z/\vD z=true:=by
 cases x with
 | str z=>exact ⟨z,rfl,h⟩
 | _=>cases h
theorem qJ:∀ {vs:List V},vs.all x6=true->∃ zs:List Str,vs=zs.map V.str/\∀ z ∈ zs,vD z=true
 | [],_=>⟨[],rfl,fun z hz=>by cases hz⟩
 | v :: vs,h=>by
  rw [List.all_cons,Bool.and_eq_true] at h
  obtain ⟨z,rfl,hz⟩:=dJ h.1
  obtain ⟨zs,rfl,hzs⟩:=qJ h.2
  refine ⟨z :: zs,rfl,fun y hy=>?_⟩
  rcases List.mem_cons.mp hy with e | e
  ·rw [e];exact hz
  ·exact hzs y e
def mX (x:V) (zs:List Str):Bool:=x6 x && inV x (zs.map V.str)
section
variable {P:Program} {w:World} {K:PySem.W.Frag} {mg:Str->Option Value} {base:Heap} {C:Addr}
theorem bV:zN ["thing","houses"] ["thing","houses"] (zG oN):=⟨rfl,rfl,rfl,by decide +kernel,rfl,by decide +kernel,by decide +kernel⟩
theorem zCH:zN ["thing"] ["thing"] (zG mH):=⟨rfl,rfl,rfl,by decide +kernel,rfl,by decide +kernel,by decide +kernel⟩
theorem zEM:zN ["names"] ["names"] (zG b0):=⟨rfl,rfl,rfl,by decide +kernel,rfl,by decide +kernel,by decide +kernel⟩
theorem scNb:zN ["thing","name"] ["thing","name"] (zG sNb):=⟨rfl,rfl,rfl,by decide +kernel,rfl,by decide +kernel,by decide +kernel⟩
theorem zEY:zN ["thing","neighbours"] ["thing","neighbours"] (zG eE):=⟨rfl,rfl,rfl,by decide +kernel,rfl,by decide +kernel,by decide +kernel⟩
def lV (K:PySem.W.Frag):Sp:=fun vs H Q _=>∃ (x:V) (T:String) (a:Addr) (zs:List Str),vs=[x,.ref a]/\yY K H x T/\(∀ z,x=.str z->z.length <= 1000)/\H a=some (.lst (zs.map V.str))/\∀ H',zC [] H H'->Q (.bl (mX x zs)) H'
theorem zCX (G:yW K mg "is_one_of" oN ["thing","houses"]) (CI:Cal P w K mg base CX0 1 "is_name" ["thing"] (tJ K)):Cal P w K mg base CX0 2 "is_one_of" ["thing","houses"] (lV K):=by
 refine G.ok bV (fun vs H Q E h=>by obtain ⟨x,T,a,zs,rfl,_⟩:=h;rfl) (fun f cdv A outer s H vs Q E hr h=>?_)
 obtain ⟨x,T,a,zs,rfl,pt,sz,ha,q⟩:=h
 have hr1:z7 1 _:=hr
 refine ⟨_,(zF (zO (tL (zU CI hr1 (zA (pv 0) zD)) (tK (wA sO (pv 0) (pv 1) (by with_unfolding_all rfl)))))),?_⟩
 refine ⟨_,rfl,x,T,rfl,pt,sz,fun H1 k1=>⟨_,rfl,?_⟩⟩
 cases e:x6 x with
 | false=>
  have:mX x zs=false:=by unfold mX;rw [e];rfl
  rw [this] at q
  exact ifF rfl (q H1 k1)
 | true=>
  cases x with
  | str z=>
   have:mX (.str z) zs=inV (.str z) (zs.map V.str):=by unfold mX;rw [e,Bool.true_and]
   rw [this] at q
   exact ifT rfl ⟨_,rfl,_,rfl,a,_,rfl,.inl (.of (k1 _ _ (by simp) ha)),rfl,pQ zs,q H1 k1⟩
  | _=>cases e
def jF (K:PySem.W.Frag) (H:Hp) (x:V) (vs:Option (List V)):Prop:=match vs with
 | some l=>∃ a,x=.ref a/\H a=some (.lst l)/\(∀ v ∈ l,bE K H v)/\l.length <= 500
 | none=>∃ T,yY K H x T/\T ≠ "list"
def oY:Option (List V)->Bool
 | some l=>l.all x6
 | none=>false
def fY (K:PySem.W.Frag):Sp:=fun vs H Q _=>∃ (x:V) (o:Option (List V)),vs=[x]/\jF K H x o/\∀ H',zC [] H H'->Q (.bl (oY o)) H'
theorem zC8 (G:yW K mg "are_names" mH ["thing"]) (CI:Cal P w K mg base CX0 1 "is_name" ["thing"] (tJ K)) (b_isinstance:Blt mg "isinstance") (b_list:Blt mg "list") (b_all:Blt mg "all"):Cal P w K mg base CX0 2 "are_names" ["thing"] (fY K):=by
 refine G.ok zCH (fun vs H Q E h=>by obtain ⟨x,o,rfl,_⟩:=h;rfl) (fun f cdv A outer s H vs Q E hr h=>?_)
 obtain ⟨x,o,rfl,th,q⟩:=h
 have hr1:z7 1 _:=hr
 refine ⟨_,(zF (zO (tL (z9 yX b_isinstance yJ (zA (pv 0) (zA (vQ b_list wT) zD))) (tK (z9 (sB rfl) b_all nO (zA (vV (N:=["thing"]) (sc:=zG mH) (ix:=[]) (by decide +kernel) (xE (pv 0)) (fun _ _ _ _=>xD) (fun _ _ _ _=>(zU CI hr1 (zA (pv 0) zD)))) zD)))))),?_⟩
 cases o with
 | none=>
  obtain ⟨T,pt,nT⟩:=th
  have e:(T == "list")=false:=by simpa using nT
  exact ⟨_,rfl,_,_,_,false,rfl,pt.ty,(e ▸ pt.kit.2.2.2.1),_,rfl,ifF rfl (q H (zC.refl _))⟩
 | some l=>
  obtain ⟨a,rfl,ha,pl,ll⟩:=th
  have pt:yY K H (.ref a) "list":=.lst ha
  refine ⟨_,rfl,_,_,_,_,rfl,pt.ty,pt.kit.2.2.2.1,_,rfl,ifT rfl ?_⟩
  refine ⟨_,rfl,a,rfl,⟨_,.of ha⟩,fun acc hacc=>?_⟩
  have aa:a ≠ acc:=zH ha hacc
  refine uB (K:=K) (a:=a) (its:=l) (by rw [sizeLine_eq];omega) (fun i ys τ H1=>∃ k:Option V,τ=[k]/\ys=((l.take i).map x6).map V.bl/\i <= l.length/\zC [acc] H H1/\H1 acc=some (.lst ys)) ?_ ?_ ?_ ?_
  ·exact ⟨_,rfl,rfl,zGH _,zC.at (by simp),zB⟩
  ·rintro i ys τ H1 ⟨k,rfl,rfl,il,kp,h1⟩
   exact ⟨h1,by simp;omega,.of (kp _ _ (by simp [aa]) ha)⟩
  ·rintro i ys τ H1 x hx ⟨k,rfl,rfl,il,kp,h1⟩
   obtain ⟨⟨T,p1⟩,sz⟩:=pl x (zGB hx)
   have il':i < l.length:=(zF9.mp hx).1
   refine ⟨_,rfl,x,T,rfl,p1.keep (kp.drop hacc),sz,fun H2 k2=>⟨k2 _ _ (by simp) h1,_,rfl,?_,il',(kp.trans (k2.mono (by simp))).trans (zC.at (by simp)),zB⟩⟩
   rw [show l.take (i + 1)=l.take i ++ [x] by rw [List.take_add_one,hx];rfl,zGJ,zGJ];rfl
  ·rintro ys τ H1 ⟨k,rfl,rfl,_,kp,h1⟩
   rw [zG7] at h1
   refine ⟨acc,l.map x6,rfl,.of h1,?_⟩
   rw [show (l.map x6).all id=oY (some l) by rw [List.all_map];rfl]
   exact q _ (kp.drop hacc)
def zA2:Sp:=fun vs H Q _=>∃ (a:Addr) (zs:List Str),vs=[.ref a]/\H a=some (.lst (zs.map V.str))/\zs.length < 1000/\∀ H',zC [] H H'->Q (.bl (decide zs.Nodup)) H'
theorem zE6 (G:yW K mg "are_unlike" b0 ["names"]) (b_len:Blt mg "len") (b_set:Blt mg "set"):Cal P w K mg base CX0 1 "are_unlike" ["names"] zA2:=by
 refine G.ok zEM (fun vs H Q E h=>by obtain ⟨a,zs,rfl,_⟩:=h;rfl) (fun f cdv A outer s H vs Q E hr h=>?_)
 obtain ⟨a,zs,rfl,ha,lz,q⟩:=h
 refine ⟨_,(zF (zO (wA xW (z9 lK b_len xI (zA (xX (g7 rfl) rfl b_set.no zDN (zA (pv 0) zD)) zD)) (z9 yT b_len xI (zA (pv 0) zD)) (zX _)))),?_⟩
 refine ⟨_,rfl,a,zs,rfl,ha,lz,fun p hp=>⟨p,zs,rfl,zB,lz,?_⟩⟩
 have k1:zC [] H (upd H p (bQ P w p zs)):=zC.new hp
 refine ⟨_,rfl,_,_,rfl,.inl ⟨_,.of (k1 _ _ (by simp) ha),rfl⟩,rfl,?_⟩
 rw [zF7,hZ]
 exact q _ k1
def nbV (o:Option (List V)) (y:V):Bool:=match o with
 | some l=>l.all x6 && decide l.Nodup && !inV y l
 | none=>false
theorem tM (zs:List Str):decide (zs.map V.str).Nodup=decide zs.Nodup:=by
 have:(zs.map V.str).Nodup ↔ zs.Nodup:=by
  rw [List.nodup_iff_pairwise_ne,List.nodup_iff_pairwise_ne,List.pairwise_map]
  constructor
  ·exact fun h=>h.imp fun n e=>n (by rw [e])
  ·exact fun h=>h.imp fun n e=>n (V.str.inj e)
 by_cases h:zs.Nodup
 ·rw [zGM h,zGM (this.mpr h)]
 ·rw [zGN h,zGN (fun e=>h (this.mp e))]
def zD9 (K:PySem.W.Frag):Sp:=fun vs H Q _=>∃ (x:V) (o:Option (List V)) (y:Str),vs=[x,.str y]/\jF K H x o/\∀ H',zC [] H H'->Q (.bl (nbV o (.str y))) H'
theorem okNb (G:yW K mg "are_neighbours" sNb ["thing","name"]) (CAN:Cal P w K mg base CX0 2 "are_names" ["thing"] (fY K)) (CAU:Cal P w K mg base CX0 1 "are_unlike" ["names"] zA2):Cal P w K mg base CX0 3 "are_neighbours" ["thing","name"] (zD9 K):=by
 refine G.ok scNb (fun vs H Q E h=>by obtain ⟨x,o,y,rfl,_⟩:=h;rfl) (fun f cdv A outer s H vs Q E hr h=>?_)
 obtain ⟨x,o,y,rfl,th,q⟩:=h
 have hr2:z7 2 _:=hr
 have hr1:z7 1 _:=hr.mono (by decide)
 refine ⟨_,(zF (zO (tL (zU CAN hr2 (zA (pv 0) zD)) (tL (zU CAU hr1 (zA (pv 0) zD)) (tK (wA oV (pv 1) (pv 0) (by with_unfolding_all rfl))))))),?_⟩
 refine ⟨_,rfl,x,o,rfl,th,fun H1 k1=>⟨_,rfl,?_⟩⟩
 cases o with
 | none=>exact ifF rfl (q H1 k1)
 | some l=>
  obtain ⟨a,rfl,ha,pl,ll⟩:=th
  cases hn:l.all x6 with
  | false=>
   have e:nbV (some l) (.str y)=false:=by show (l.all x6 && decide l.Nodup && !inV (V.str y) l)=false;rw [hn];rfl
   rw [e] at q
   have e2:oY (some l)=false:=hn
   rw [e2]
   exact ifF rfl (q H1 k1)
  | true=>
   obtain ⟨zs,rfl,hzs⟩:=qJ hn
   have e2:oY (some (zs.map V.str))=true:=hn
   rw [e2]
   refine ifT rfl ?_
   have ha1:=k1 _ _ (by simp) ha
   rw [zF7] at ll
   refine ⟨_,rfl,a,zs,rfl,ha1,by omega,fun H2 k2=>⟨_,rfl,?_⟩⟩
   have k02:=k1.trans k2
   cases hd:decide zs.Nodup with
   | false=>
    have e:nbV (some (zs.map V.str)) (.str y)=false:=by show ((zs.map V.str).all x6 && decide (zs.map V.str).Nodup && !inV (V.str y) (zs.map V.str))=false;rw [hn,tM,hd];rfl
    rw [e] at q
    exact ifF rfl (q H2 k02)
   | true=>
    have e:nbV (some (zs.map V.str)) (.str y) = !inV (.str y) (zs.map V.str):=by show ((zs.map V.str).all x6 && decide (zs.map V.str).Nodup && !inV (V.str y) (zs.map V.str))=_;rw [hn,tM,hd];rfl
    rw [e] at q
    exact ifT rfl ⟨_,rfl,_,rfl,a,_,rfl,.inl (.of (k02 _ _ (by simp) ha)),rfl,pQ zs,q H2 k02⟩
def sY (nb:List Str) (x:V):Bool:=decide (x=.non) || mX x nb
def zF1 (nb:List Str):Option (List V)->Bool
 | some l=>decide (l ≠ []) && l.all (sY nb)
 | none=>false
def zA7 (K:PySem.W.Frag):Sp:=fun vs H Q _=>∃ (x:V) (o:Option (List V)) (b:Addr) (nb:List Str),vs=[x,.ref b]/\jF K H x o/\H b=some (.lst (nb.map V.str))/\∀ H',zC [] H H'->Q (.bl (zF1 nb o)) H'
theorem zFD (G:yW K mg "are_arrows" eE ["thing","neighbours"]) (CO2:Cal P w K mg base CX0 2 "is_one_of" ["thing","houses"] (lV K)) (b_isinstance:Blt mg "isinstance") (b_list:Blt mg "list") (b_len:Blt mg "len") (b_all:Blt mg "all"):Cal P w K mg base CX0 3 "are_arrows" ["thing","neighbours"] (zA7 K):=by
 refine G.ok zEY (fun vs H Q E h=>by obtain ⟨x,o,b,nb,rfl,_⟩:=h;rfl) (fun f cdv A outer s H vs Q E hr h=>?_)
 obtain ⟨x,o,b,nb,rfl,th,hb,q⟩:=h
 have hr2:z7 2 _:=hr
 refine ⟨_,(zE (z4 (PW.pt (pK (wD (xY (z9 yX b_isinstance yJ (zA (pv 0) (zA (vQ b_list wT) zD))))) (sL (zT xW (z9 yT b_len xI (zA (pv 0) zD)) zJ (zX _))))) (zF (zO wP)) zQ)
   (zF (zO (z9 (sB rfl) b_all nO (zA (vV (N:=["thing","neighbours"]) (sc:=zG eE) (ix:=[1]) (by decide +kernel) (xE (pv 0)) (fun _ _ _ _=>xD) (fun _ _ _ _=>(zE3 (wA vJ (pv 0) yZ (zX _)) (tK (zU CO2 hr2 (zA (pv 0) (zA (pv 1) zD))))))) zD))))),?_⟩
 cases o with
 | none=>
  obtain ⟨T,pt,nT⟩:=th
  have e:(T == "list")=false:=by simpa using nT
  exact ⟨_,rfl,_,_,_,false,rfl,pt.ty,(e ▸ pt.kit.2.2.2.1),_,rfl,ifT rfl (q H (zC.refl _))⟩
 | some l=>
  obtain ⟨a,rfl,ha,pl,ll⟩:=th
  have pt:yY K H (.ref a) "list":=.lst ha
  refine ⟨_,rfl,_,_,_,true,rfl,pt.ty,pt.kit.2.2.2.1,_,rfl,ifF rfl ?_⟩
  refine ⟨_,rfl,_,_,rfl,.inl ⟨_,.of ha,rfl⟩,rfl,_,rfl,?_⟩
  cases hl:l with
  | nil=>
   subst hl
   exact ifT rfl (q H (zC.refl _))
  | cons v0 l0=>
  rw [<- hl]
  refine ifF (by rw [hl];simp;omega) ?_
  refine ⟨_,rfl,a,rfl,⟨_,.of ha⟩,fun acc hacc=>?_⟩
  have aa:a ≠ acc:=zH ha hacc
  refine uB (K:=K) (a:=a) (its:=l) (by rw [sizeLine_eq];omega) (fun i ys τ H1=>∃ k:Option V,τ=[k,some (.ref b)]/\ys=((l.take i).map (sY nb)).map V.bl/\i <= l.length/\zC [acc] H H1/\H1 acc=some (.lst ys)) ?_ ?_ ?_ ?_
  ·exact ⟨_,rfl,rfl,zGH _,zC.at (by simp),zB⟩
  ·rintro i ys τ H1 ⟨k,rfl,rfl,il,kp,h1⟩
   exact ⟨h1,by simp;omega,.of (kp _ _ (by simp [aa]) ha)⟩
  ·rintro i ys τ H1 x hx ⟨k,rfl,rfl,il,kp,h1⟩
   obtain ⟨⟨T,p1⟩,sz⟩:=pl x (zGB hx)
   have il':i < l.length:=(zF9.mp hx).1
   have et:l.take (i + 1)=l.take i ++ [x]:=by rw [List.take_add_one,hx];rfl
   refine ⟨_,rfl,rfl,_,rfl,?_⟩
   by_cases hn:x=.non
   ·refine ifT (by rw [hn];rfl) ⟨h1,_,rfl,?_,il',kp.trans (zC.at (by simp)),zB⟩
    rw [et,zGJ,zGJ]
    have:sY nb x=true:=by unfold sY;rw [zGM hn];rfl
    show _=_ ++ [V.bl (sY nb x)]
    rw [this]
   ·refine ifF (by simp [hn]) ?_
    refine ⟨_,rfl,_,rfl,x,T,b,nb,rfl,p1.keep (kp.drop hacc),sz,(kp.drop hacc) _ _ (by simp) hb,fun H2 k2=>⟨k2 _ _ (by simp) h1,_,rfl,?_,il',(kp.trans (k2.mono (by simp))).trans (zC.at (by simp)),zB⟩⟩
    rw [et,zGJ,zGJ]
    have:sY nb x=mX x nb:=by unfold sY;rw [zGN hn];rfl
    show _=_ ++ [V.bl (sY nb x)]
    rw [this]
  ·rintro ys τ H1 ⟨k,rfl,rfl,_,kp,h1⟩
   rw [zG7] at h1
   refine ⟨acc,l.map (sY nb),rfl,.of h1,?_⟩
   have e:zF1 nb (some l)=(l.map (sY nb)).all id:=by
    show (decide (l ≠ []) && l.all (sY nb))=_
    rw [zGM (by rw [hl];simp),List.all_map];rfl
   rw [<- e]
   exact q _ (kp.drop hacc)
end
abbrev sHI:Stmt:=yN (top 25) 0
def hfl (nm:V) (nl sl:Addr):List (Str × V):=[("name",nm),("nearby",.ref nl),("seats",.ref sl)]
theorem hn1:¬ (("name" : Str)="nearby"):=by decide +kernel
theorem hn2:¬ (("name" : Str)="seats"):=by decide +kernel
theorem hn3:¬ (("nearby" : Str)="seats"):=by decide +kernel
theorem hput (nm:V) (nl sl:Addr):xP "seats" (.ref sl) (xP "nearby" (.ref nl) (xP "name" nm []))=hfl nm nl sl:=by
 unfold hfl
 simp only [xP,if_neg hn1,if_neg hn2,if_neg hn3]
structure x9 (K:PySem.W.Frag) (C:Addr):Prop where
 cl:Cls K C
 nN:wZ K C "name"
 nB:wZ K C "nearby"
 nS:wZ K C "seats"
theorem zZ.keepS {C:Addr} {S:List Addr} {H H':Hp} {p wl:Addr} {s:SS} (A:zZ C H p wl s) (k:zC S H H') (hp:p ∉ S) (hw:wl ∉ S) (ht:∀ b ∈ S,∀ xs,H b ≠ some (.tup xs)):zZ C H' p wl s:=by
 obtain ⟨⟨dx,h⟩,⟨ps,e,r⟩,l⟩:=A
 exact ⟨⟨dx,k _ _ hp h⟩,⟨ps,k _ _ hw e,zK k ht r⟩,l⟩
def Dis (nl sl:Addr) (xs:List (Addr × Addr)):Prop:=(∀ x ∈ xs,x.2 ≠ nl/\x.2 ≠ sl)/\xs.Pairwise fun a b=>a.1 ≠ b.1/\a.2 ≠ b.2
def z6 (B:Addr->Prop) (C CS:Addr) (H:Hp) (p:Addr) (nm:Str) (nb:List Str) (xs:List (Addr × Addr)) (ss:List SS):Prop:=∃ (dx nl sl:Addr),(B nl/\B sl/\(∀ x ∈ xs,B x.1/\B x.2)/\Dis nl sl xs) /\
 H p=some (.ins C dx (hfl (.str nm) nl sl))/\H nl=some (.lst (nb.map V.str))/\H sl=some (.lst (xs.map fun x=>V.ref x.1))/\xs.length=ss.length/\∀ (i:Nat) (x:Addr × Addr) (s:SS),xs[i]?=some x->ss[i]?=some s->zZ CS H x.1 x.2 s
theorem z6.on {B:Addr->Prop} {C CS:Addr} {H H':Hp} {p:Addr} {nm:Str} {nb:List Str} {xs:List (Addr × Addr)} {ss:List SS} (h:z6 B C CS H p nm nb xs ss) (k:zC [] H H'):z6 B C CS H' p nm nb xs ss:=by
 obtain ⟨dx,nl,sl,b,h1,h2,h3,h4,h5⟩:=h
 exact ⟨dx,nl,sl,b,k _ _ (by simp) h1,k _ _ (by simp) h2,k _ _ (by simp) h3,h4,fun i x s e1 e2=>(h5 i x s e1 e2).keep k⟩
theorem z6.keep {B:Addr->Prop} {C CS:Addr} {H H':Hp} {p:Addr} {nm:Str} {nb:List Str} {xs:List (Addr × Addr)} {ss:List SS} {S:List Addr} (h:z6 B C CS H p nm nb xs ss) (k:zC S H H') (hS:∀ b ∈ S,b ≠ p/\¬ B b/\∀ ys,H b ≠ some (.tup ys)):z6 B C CS H' p nm nb xs ss:=by
 obtain ⟨dx,nl,sl,⟨b1,b2,b3,b4⟩,h1,h2,h3,h4,h5⟩:=h
 have far:∀ {u:Addr},B u->u ∉ S:=fun {u} hb hm=>(hS u hm).2.1 hb
 exact ⟨dx,nl,sl,⟨b1,b2,b3,b4⟩,k _ _ (fun hm=>(hS p hm).1 rfl) h1,k _ _ (far b1) h2,k _ _ (far b2) h3,h4,fun i x s e1 e2=>(h5 i x s e1 e2).keepS k (far (b3 x (zGB e1)).1) (far (b3 x (zGB e1)).2) fun b hb=>(hS b hb).2.2⟩
def xV (ars:List (Option Str)):List SS:=ars.map fun a=>⟨a,[],none,false⟩
section
variable {P:Program} {w:World} {K:PySem.W.Frag} {mg:Str->Option Value} {base:Heap} {C CS:Addr}
theorem scHI:zN ["self","name","neighbours","arrows"] ["self","name","neighbours","arrows"] (zG sHI):=⟨rfl,rfl,rfl,by decide +kernel,rfl,by decide +kernel,by decide +kernel⟩
def zB4 (K:PySem.W.Frag) (C CS:Addr):Sp:=fun vs H Q _=>∃ (p dx a b:Addr) (nm:Str) (nb:List Str) (ars:List (Option Str)),vs=[.ref p,.str nm,.ref a,.ref b]/\H p=some (.ins C dx [])/\H a=some (.lst (nb.map V.str))/\H b=some (.lst (ars.map yC))/\xG nm/\(∀ z ∈ nb,xG z)/\nb.Nodup/\nm ∉ nb/\nb.length <= 100/\ars ≠ []/\ars.length <= 100/\(∀ z,some z ∈ ars->z ∈ nb) /\
 ∀ (xs:List (Addr × Addr)) (H':Hp),z6 (fun u=>H u=none) C CS H' p nm nb xs (xV ars)->zC [p] H H'->Q .non H'
theorem okHI {fI:Addr} {fd:FuncData} (T:x9 K C) (G:Fun K "__init__" "House.__init__" sHI fI fd) (CI:Cal P w K mg base CX0 1 "is_name" ["thing"] (tJ K)) (CNb:Cal P w K mg base CX0 3 "are_neighbours" ["thing","name"] (zD9 K)) (CAr:Cal P w K mg base CX0 3 "are_arrows" ["thing","neighbours"] (zA7 K)) (MKS:lQ P w K mg base CX0 2 CS "Seat" ["self","arrow"] (lX CS)) (b_list:Blt mg "list") :
  uW P w K mg base CX0 4 fI fd ["self","name","neighbours","arrows"] (zB4 K C CS):=by
 refine G.ok scHI (fun vs H Q E h=>by obtain ⟨p,dx,a,b,nm,nb,ars,rfl,_⟩:=h;rfl) (fun cdv A outer s0 H vs Q E hr h=>?_)
 obtain ⟨p,dx,a,b,nm,nb,ars,rfl,hp,ha,hb,gn,gb,nd,nin,lb,nar,lar,arin,q⟩:=h
 have hr3:z7 3 _:=hr
 have hr1:z7 1 _:=hr.mono (by decide)
 refine ⟨_,(zE (z4 (wD (xY (zU CI hr1 (zA (pv 1) zD)))) (zF y0) zQ)
   (zE (z4 (wD (xY (zU CNb hr3 (zA (pv 2) (zA (pv 1) zD))))) (zF y0) zQ)
   (zE (z4 (wD (xY (zU CAr hr3 (zA (pv 3) (zA (pv 2) zD))))) (zF y0) zQ)
   (zE (wM (pv 0) (pv 1) rfl)
   (zE (wM (pv 0) (xX vH rfl b_list.no wT (zA (pv 2) zD)) rfl)
   (zF (wM (pv 0) (vV (N:=["self","name","neighbours","arrows"]) (sc:=zG sHI) (ix:=[]) (by decide +kernel) (xE (pv 3)) (fun _ _ _ _=>xD) (fun _ _ _ _=>(zBD MKS hr3 (zA (pv 0) zD)))) rfl))))))),?_⟩
 refine ⟨_,rfl,.str nm,"str",rfl,.str nm,(fun z e=>by cases e;exact zGI gn.2 (by decide)),fun H1 k1=>⟨_,rfl,ifF (by rw [show x6 (.str nm)=true from gn.1];rfl) ?_⟩⟩
 have plS:∀ (zs:List Str) (H:Hp),(∀ z ∈ zs,xG z)->∀ v ∈ zs.map V.str,bE K H v:=fun zs H g v hv=>by
  obtain ⟨z,hz,rfl⟩:=List.mem_map.mp hv
  exact ⟨⟨_,.str z⟩,fun y e=>by cases e;exact zGI (g z hz).2 (by decide)⟩
 refine ⟨_,rfl,_,rfl,.ref a,some (nb.map V.str),nm,rfl,⟨a,rfl,k1 _ _ (by simp) ha,plS nb H1 gb,by rw [zF7];omega⟩,fun H2 k2=>⟨_,rfl,ifF ?_ ?_⟩⟩
 ·have e1:(nb.map V.str).all x6=true:=by
   rw [List.all_map,List.all_eq_true]
   exact fun z hz=>(gb z hz).1
  have e2:inV (.str nm) (nb.map V.str)=false:=by
   unfold inV
   rw [List.any_map,List.any_eq_false]
   intro z hz e
   have:z=nm:=eq_of_beq (show (z == nm)=true from e)
   exact nin (this ▸ hz)
  show (!((nb.map V.str).all x6 && decide (nb.map V.str).Nodup && !inV (V.str nm) (nb.map V.str)))=false
  rw [e1,tM,zGM nd,e2];rfl
 have k02:=k1.trans k2
 refine ⟨_,rfl,_,rfl,.ref b,some (ars.map yC),a,nb,rfl,⟨b,rfl,k02 _ _ (by simp) hb,?_,by rw [zF7];omega⟩,k02 _ _ (by simp) ha,fun H3 k3=>⟨_,rfl,ifF ?_ ?_⟩⟩
 ·intro v hv
  obtain ⟨o,ho,rfl⟩:=List.mem_map.mp hv
  cases o with
  | none=>exact ⟨⟨_,.non⟩,fun y e=>by cases e⟩
  | some z=>exact ⟨⟨_,.str z⟩,fun y e=>by cases e;exact zGI (gb z (arin z ho)).2 (by decide)⟩
 ·have e1:(ars.map yC).all (sY nb)=true:=by
   rw [List.all_map,List.all_eq_true]
   intro o ho
   cases o with
   | none=>rfl
   | some z=>
    have m:=arin z ho
    show (decide (V.str z=.non) || (x6 (.str z) && inV (.str z) (nb.map V.str)))=true
    have e2:inV (.str z) (nb.map V.str)=true:=by
     unfold inV
     rw [List.any_map,List.any_eq_true]
     exact ⟨z,m,by show (z == z)=true;simp⟩
    rw [e2,show x6 (.str z)=true from (gb z m).1];simp
  show (!(decide (ars.map yC ≠ []) && (ars.map yC).all (sY nb)))=false
  rw [e1,zGM (by simpa using nar)];rfl
 have k03:=k02.trans k3
 have hp3:=k03 _ _ (by simp) hp
 refine ⟨_,rfl,_,rfl,p,C,dx,_,rfl,hp3,T.cl,T.nN,by show 0 < 1000;decide,?_⟩
 generalize hH4:upd H3 p (.ins C dx (xP "name" (.str nm) []))=H4
 have k4:zC [p] H H4:=by rw [<- hH4];exact (k03.mono (by simp)).trans (zC.at (by simp))
 have hp4:H4 p=some (.ins C dx (xP "name" (.str nm) [])):=by rw [<- hH4];exact zB
 have ap:a ≠ p:=fun e=>by rw [e,hp] at ha;cases ha
 have bp:b ≠ p:=fun e=>by rw [e,hp] at hb;cases hb
 refine ⟨_,rfl,a,_,rfl,.inl (.of (k4 _ _ (by simp [ap]) ha)),fun nl hnl=>?_⟩
 have pnl:p ≠ nl:=zH hp4 hnl
 refine ⟨_,rfl,p,C,dx,_,rfl,by rw [zI pnl];exact hp4,T.cl,T.nB,by show 1 < 1000;decide,?_⟩
 generalize hH5:upd (upd H4 nl (.lst (nb.map V.str))) p (.ins C dx (xP "nearby" (.ref nl) (xP "name" (.str nm) [])))=H5
 have k5:zC [p] H4 H5:=by rw [<- hH5];exact (zC.new hnl).trans (zC.at (by simp))
 have hp5:H5 p=some (.ins C dx (xP "nearby" (.ref nl) (xP "name" (.str nm) []))):=by rw [<- hH5];exact zB
 have hn5:H5 nl=some (.lst (nb.map V.str)):=by rw [<- hH5,zI pnl.symm];exact zB
 have k05:=k4.trans k5
 have bnl:H nl=none:=k4.none (by simp [pnl.symm]) hnl
 have hb5:=k05 _ _ (by simp [bp]) hb
 refine ⟨_,rfl,b,rfl,⟨_,.of hb5⟩,fun ls hls=>?_⟩
 have bls:b ≠ ls:=zH hb5 hls
 have pls:p ≠ ls:=zH hp5 hls
 have nlls:nl ≠ ls:=zH hn5 hls
 refine uB (K:=K) (a:=b) (its:=ars.map yC) (by rw [zF7,sizeLine_eq];omega) (fun i ys τ H6=>∃ (ps:List (Addr × Addr)) (kk:Option V),τ=[kk]/\ys=ps.map (fun p=>V.ref p.1)/\ps.length=i/\(∀ (j:Nat) (x:Addr × Addr),ps[j]?=some x->zZ CS H6 x.1 x.2 ⟨ars.getD j none,[],none,false⟩) /\
  (∀ x ∈ ps,H5 x.1=none/\H5 x.2=none/\x.1 ≠ ls/\x.2 ≠ ls)/\(ps.Pairwise fun a b=>a.1 ≠ b.1/\a.2 ≠ b.2)/\zC [ls] H5 H6/\H6 ls=some (.lst ys)) ?_ ?_ ?_ ?_
 ·exact ⟨[],none,rfl,rfl,rfl,(fun j p e=>by cases e),(fun p hp=>by cases hp),.nil,zC.at (by simp),zB⟩
 ·rintro i ys τ H6 ⟨ps,kk,rfl,rfl,hl,_,_,_,kp,h6⟩
  exact ⟨h6,by rw [zF7];omega,.of (kp _ _ (by simp [bls]) hb5)⟩
 ·rintro i ys τ H6 x hx ⟨ps,kk,rfl,rfl,hl,hse,hfr,hpw,kp,h6⟩
  rw [zGD] at hx
  cases ei:ars[i]? with
  | none=>rw [ei] at hx;cases hx
  | some ar=>
  rw [ei] at hx
  have ex:yC ar=x:=zGE hx
  subst ex
  have eg:ars.getD i none=ar:=by rw [zGC,ei];rfl
  refine ⟨_,rfl,fun x dx hx hdx ndx=>⟨x,dx,ar,rfl,zB,(fun z e=>by have g:=gb z (arin z (by rw [<- e];exact zGB ei));exact ⟨g.1,zGI g.2 (by decide)⟩),fun wl H7 hwl S7 k7=>⟨rfl,?_⟩⟩⟩
  have k67:zC [] H6 H7:=((zC.new hdx).trans (zC.new (by rw [zI (Ne.symm ndx)];exact hx))).under k7 (by intro b hb;rw [zGA.mp hb];exact hx)
  have hwl6:H6 wl=none:=(zL (zL hwl).1).1
  have h67:=k67 _ _ (by simp) h6
  have xls:x ≠ ls:=Ne.symm (zH h6 hx)
  have wls:wl ≠ ls:=Ne.symm (zH h6 hwl6)
  have nt:∀ b ∈ [ls],∀ xs,H7 b ≠ some (.tup xs):=fun b hb xs z=>by rw [zGA.mp hb,h67] at z;cases z
  refine ⟨h67,ps ++ [(x,wl)],_,rfl,by simp,by simp [hl],?_,?_,?_,(kp.trans (k67.mono (by simp))).trans (zC.at (by simp)),zB⟩
  ·intro j x' hj
   have kl:zC [ls] H7 (upd H7 ls (.lst (List.map (fun p=>V.ref p.1) ps ++ [V.ref x]))):=zC.at (by simp)
   by_cases hjl:j < ps.length
   ·rw [zGV hjl] at hj
    obtain ⟨_,_,f1,f2⟩:=hfr x' (zGB hj)
    exact ((hse j x' hj).keep k67).keepS kl (by simpa using f1) (by simpa using f2) nt
   ·rw [zGU (by omega)] at hj
    have ej:j=i:=by
     have:=(zF9.mp hj).1
     simp at this;omega
    subst ej
    rw [hl,Nat.sub_self] at hj
    cases hj
    rw [eg]
    exact S7.keepS kl (by simpa using xls) (by simpa using wls) nt
  ·intro x' hx'
   rcases zGO.mp hx' with h | h
   ·exact hfr x' h
   ·rw [zGA.mp h]
    exact ⟨kp.none (by simpa using xls) hx,kp.none (by simpa using wls) hwl6,xls,wls⟩
  ·refine List.pairwise_append.mpr ⟨hpw,List.pairwise_singleton _ _,fun a ha b hb=>?_⟩
   rw [zGA.mp hb]
   obtain ⟨j,hj,ej⟩:=List.getElem_of_mem ha
   have sj:=hse j a (by rw [zF8 hj,ej])
   obtain ⟨⟨dj,oj⟩,⟨qj,wj,_⟩,_⟩:=sj
   exact ⟨zH oj hx,zH wj hwl6⟩
 rintro ys τ H6 ⟨ps,kk,rfl,rfl,hl,hse,hfr,hpw,kp,h6⟩
 rw [zF7] at hl
 have hp6:=kp _ _ (by simp [pls]) hp5
 refine ⟨_,rfl,p,C,dx,_,rfl,hp6,T.cl,T.nS,by show 2 < 1000;decide,?_⟩
 rw [hput]
 have k7:zC [p] H6 (upd H6 p (.ins C dx (hfl (.str nm) nl ls))):=zC.at (by simp)
 have e7:upd H6 p (.ins C dx (hfl (.str nm) nl ls)) p=some (.ins C dx (hfl (.str nm) nl ls)):=zB
 generalize upd H6 p (.ins C dx (hfl (.str nm) nl ls))=H7 at k7 e7
 have H0:∀ {u:Addr},H5 u=none->H u=none/\u ≠ p:=fun {u} hu=>by
  have un:u ≠ p:=fun e=>by rw [e,hp5] at hu;cases hu
  exact ⟨k05.none (by simp [un]) hu,un⟩
 have ntp:∀ b ∈ [p],∀ xs,H6 b ≠ some (.tup xs):=fun b hb xs z=>by rw [zGA.mp hb,hp6] at z;cases z
 refine q ps H7 ⟨dx,nl,ls,⟨bnl,(H0 hls).1,fun x hx=>⟨(H0 (hfr x hx).1).1,(H0 (hfr x hx).2.1).1⟩,⟨fun x hx=>⟨Ne.symm (zH hn5 (hfr x hx).2.1),(hfr x hx).2.2.2⟩,hpw⟩⟩,e7,k7 _ _ (by simp [pnl.symm]) (kp _ _ (by simp [nlls]) hn5),k7 _ _ (by simp [pls.symm]) h6,by unfold xV;rw [zF7];exact hl,fun i x s e1 e2=>?_⟩ ?_
 ·unfold xV at e2
  rw [zGD] at e2
  cases ei:ars[i]? with
  | none=>rw [ei] at e2;cases e2
  | some ar=>
  rw [ei] at e2
  have es:(⟨ar,[],none,false⟩:SS)=s:=zGE e2
  subst es
  have eg:ars.getD i none=ar:=by rw [zGC,ei];rfl
  have sa:=hse i x e1
  rw [eg] at sa
  have hx:=hfr x (zGB e1)
  exact sa.keepS k7 (by simpa using (H0 hx.1).2) (by simpa using (H0 hx.2.1).2) ntp
 ·exact (k05.trans ((kp.drop hls).mono (by simp))).trans k7
end
abbrev sWh:Stmt:=top 12
abbrev sCk:Stmt:=top 23
abbrev sSA:Stmt:=yN (top 19) 5
abbrev b6:Stmt:=yN (top 25) 8
abbrev b7:Stmt:=yN (top 25) 9
abbrev eC:Stmt:=yN (top 25) 6
theorem vS (nm:V) (nl sl:Addr):(hfl nm nl sl).lookup ("seats" : Str)=some (.ref sl):=rfl
theorem eW {X:Cx} {K:PySem.W.Frag} {tg l:Expr} {tl:TE} (hl:PE X l tl) (e:X.K=K:=by rfl):PI X tg l (zBJ K tl):=e ▸ xE hl
theorem zFX (a:V) (wl:Addr) (h:V) (k:Bool):(y6 a wl h k).lookup ("arrow" : Str)=none:=rfl
theorem zFR (a:V) (wl:Addr) (h:V) (k:Bool):(y6 a wl h k).lookup ("row" : Str)=none:=rfl
theorem zFT (a:V) (wl:Addr) (h:V) (k:Bool):(y6 a wl h k).lookup ("inside" : Str)=none:=rfl
theorem zFY (a:V) (wl:Addr) (h:V) (k:Bool):(y6 a wl h k).lookup ("askers" : Str)=none:=rfl
def zDS (r:Str × Bool):List V:=[.str r.1,.bl r.2]
def y1 (s:SS):List (Str × Bool):=(match s.hold with | some z=>[(z,false)] | none=>[]) ++ ((s.row.filter fun r=>decide (r.1=("asker" : Str))).map fun r=>(r.2,true))
theorem wK {l:List (Addr × Addr)} {i:Nat} {x:Addr × Addr} (h:l[i]?=some x):atI (l.map fun x=>V.ref x.1) (i:Int)=some (.ref x.1):=by
 have ol:i < l.length:=(zF9.mp h).1
 obtain ⟨v,e1,e2⟩:=sX (xs:=l.map fun x=>V.ref x.1) (i:=(i:Int)) (by omega) (by rw [zF7];omega)
 rw [e1]
 rw [Int.toNat_natCast,zGD,h] at e2
 exact e2.symm
section
variable {P:Program} {w:World} {K:PySem.W.Frag} {mg:Str->Option Value} {base:Heap} {C CS:Addr}
theorem scWh:zN ["thing"] ["thing"] (zG sWh):=⟨rfl,rfl,rfl,by decide +kernel,rfl,by decide +kernel,by decide +kernel⟩
theorem scCk:zN ["right","many"] ["right","many"] (zG sCk):=⟨rfl,rfl,rfl,by decide +kernel,rfl,by decide +kernel,by decide +kernel⟩
theorem zEO:zN ["self","waiting"] ["self"] (zG sSA):=⟨rfl,rfl,rfl,by decide +kernel,rfl,by decide +kernel,by decide +kernel⟩
theorem zES:zN ["self","right"] ["self","right"] (zG b6):=⟨rfl,rfl,rfl,by decide +kernel,rfl,by decide +kernel,by decide +kernel⟩
theorem zEU:zN ["self","right"] ["self","right"] (zG b7):=⟨rfl,rfl,rfl,by decide +kernel,rfl,by decide +kernel,by decide +kernel⟩
theorem zEW:zN ["self"] ["self"] (zG eC):=⟨rfl,rfl,rfl,by decide +kernel,rfl,by decide +kernel,by decide +kernel⟩
def zD5:Sp:=fun vs H Q _=>∃ i:Int,vs=[.int i]/\Q (.bl true) H
theorem okWh (G:yW K mg "is_whole" sWh ["thing"]) (b_isinstance:Blt mg "isinstance") (b_int:Blt mg "int") (b_bool:Blt mg "bool"):Cal P w K mg base CX0 1 "is_whole" ["thing"] zD5:=by
 refine G.ok scWh (fun vs H Q E h=>by obtain ⟨i,rfl,_⟩:=h;rfl) (fun f cdv A outer s H vs Q E hr h=>?_)
 obtain ⟨i,rfl,q⟩:=h
 refine ⟨_,(zF (zO (tL (z9 yX b_isinstance yJ (zA (pv 0) (zA (vQ b_int jB) zD))) (tK (zCL (z9 yX b_isinstance yJ (zA (pv 0) (zA (vQ b_bool rZ) zD)))))))),?_⟩
 have pt:yY K H (.int i) "int":=.int i
 exact ⟨_,rfl,_,_,_,true,rfl,pt.ty,pt.kit.2.1,_,rfl,ifT rfl ⟨_,rfl,_,_,_,false,rfl,pt.ty,pt.kit.2.2.1,_,rfl,q⟩⟩
def fW:Sp:=fun vs H Q _=>∃ i n:Int,vs=[.int i,.int n]/\0 <= i/\i < n/\Q .non H
theorem okCk (G:yW K mg "check_right" sCk ["right","many"]) (CW:Cal P w K mg base CX0 1 "is_whole" ["thing"] zD5):Cal P w K mg base CX0 2 "check_right" ["right","many"] fW:=by
 refine G.ok scCk (fun vs H Q E h=>by obtain ⟨i,n,rfl,_⟩:=h;rfl) (fun f cdv A outer s H vs Q E hr h=>?_)
 obtain ⟨i,n,rfl,h0,h1,q⟩:=h
 have hr1:z7 1 _:=hr
 refine ⟨_,(zF (z4 (PW.pt (pK (wD (xY (zU CW hr1 (zA (pv 0) zD)))) (sL (wD (eS dC zBF zJ (pv 0) (pv 1)))))) (zF y0) zQ)),?_⟩
 refine ⟨_,rfl,i,rfl,_,rfl,ifF rfl ?_⟩
 refine ⟨_,rfl,_,_,rfl,rfl,_,rfl,ifT (zGM h0) ⟨_,rfl,_,_,rfl,rfl,_,rfl,ifF ?_ q⟩⟩
 rw [zGM h1];rfl
def zA4 (C CS:Addr):Sp:=fun vs H Q _=>∃ (B:Addr->Prop) (p:Addr) (i:Nat) (nm:Str) (nb:List Str) (xs:List (Addr × Addr)) (ss:List SS) (s:SS),vs=[.ref p,.int i]/\z6 B C CS H p nm nb xs ss/\ss[i]?=some s/\∀ (r:Addr) (H':Hp),H r=none->Rows H' r (s.row.map yR)->zC [] H H'->Q (.ref r) H'
theorem zE9 (T:x9 K C) (TS:x8 K CS) (G:y3 K C "row" "House.row" b6 ["self","right"]) (CK:Cal P w K mg base CX0 2 "check_right" ["right","many"] fW) (MR:yV P w K mg base CX0 1 CS "row" ["self"] (zA3 CS)) (b_len:Blt mg "len"):yV P w K mg base CX0 3 C "row" ["self","right"] (zA4 C CS):=by
 refine G.ok zES (fun vs H Q E h=>by obtain ⟨B,p,i,nm,nb,xs,ss,s,rfl,_⟩:=h;rfl) (fun f cdv A outer s0 H vs Q E hr h=>?_)
 obtain ⟨B,p,i,nm,nb,xs,ss,s,rfl,⟨dx,nl,sl,_,hp,hnl,hsl,hxs,hse⟩,es,q⟩:=h
 have hr2:z7 2 _:=hr
 have hr1:z7 1 _:=hr.mono (by decide)
 have il:i < xs.length:=by rw [hxs];exact (zF9.mp es).1
 have ex:xs[i]?=some xs[i]:=zF8 il
 generalize xs[i]=x at ex
 have S:=hse i x s ex es
 obtain ⟨dx2,hob⟩:=S.ob
 refine ⟨_,(zE (yG (zU CK hr2 (zA (pv 1) (zA (z9 yT b_len xI (zA (yF (pv 0) rfl) zD)) zD))))
   (zF (zO (xJ MR TS.cl hr1 (zV yA (yF (pv 0) rfl) (pv 1) (fun _ _=>rfl)))))),?_⟩
 refine ⟨_,rfl,_,rfl,p,C,dx,_,_,rfl,hp,T.cl,T.nS,vS _ _ _,_,_,rfl,.inl ⟨_,.of hsl,rfl⟩,_,_,rfl,by omega,by rw [zF7];omega,?_⟩
 exact ⟨_,rfl,p,C,dx,_,_,rfl,hp,T.cl,T.nS,vS _ _ _,_,rfl,sl,_,i,_,rfl,rfl,hsl,wK ex,x.1,dx2,_,rfl,hob,zFR _ _ _ _,x.1,x.2,s,rfl,S,q⟩
def zA5 (C CS:Addr):Sp:=fun vs H Q _=>∃ (B:Addr->Prop) (p:Addr) (i:Nat) (nm:Str) (nb:List Str) (xs:List (Addr × Addr)) (ss:List SS) (s:SS),vs=[.ref p,.int i]/\z6 B C CS H p nm nb xs ss/\ss[i]?=some s/\Q (yC s.hold) H
theorem zFA (T:x9 K C) (TS:x8 K CS) (G:y3 K C "inside" "House.inside" b7 ["self","right"]) (CK:Cal P w K mg base CX0 2 "check_right" ["right","many"] fW) (MI:yV P w K mg base CX0 1 CS "inside" ["self"] (n9 CS)) (b_len:Blt mg "len"):yV P w K mg base CX0 3 C "inside" ["self","right"] (zA5 C CS):=by
 refine G.ok zEU (fun vs H Q E h=>by obtain ⟨B,p,i,nm,nb,xs,ss,s,rfl,_⟩:=h;rfl) (fun f cdv A outer s0 H vs Q E hr h=>?_)
 obtain ⟨B,p,i,nm,nb,xs,ss,s,rfl,⟨dx,nl,sl,_,hp,hnl,hsl,hxs,hse⟩,es,q⟩:=h
 have hr2:z7 2 _:=hr
 have hr1:z7 1 _:=hr.mono (by decide)
 have il:i < xs.length:=by rw [hxs];exact (zF9.mp es).1
 have ex:xs[i]?=some xs[i]:=zF8 il
 generalize xs[i]=x at ex
 have S:=hse i x s ex es
 obtain ⟨dx2,hob⟩:=S.ob
 refine ⟨_,(zE (yG (zU CK hr2 (zA (pv 1) (zA (z9 yT b_len xI (zA (yF (pv 0) rfl) zD)) zD))))
   (zF (zO (xJ MI TS.cl hr1 (zV yA (yF (pv 0) rfl) (pv 1) (fun _ _=>rfl)))))),?_⟩
 refine ⟨_,rfl,_,rfl,p,C,dx,_,_,rfl,hp,T.cl,T.nS,vS _ _ _,_,_,rfl,.inl ⟨_,.of hsl,rfl⟩,_,_,rfl,by omega,by rw [zF7];omega,?_⟩
 exact ⟨_,rfl,p,C,dx,_,_,rfl,hp,T.cl,T.nS,vS _ _ _,_,rfl,sl,_,i,_,rfl,rfl,hsl,wK ex,x.1,dx2,_,rfl,hob,zFT _ _ _ _,x.1,x.2,s,rfl,S,q⟩
def zD6 (CS:Addr):Sp:=fun vs H Q _=>∃ (p wl:Addr) (s:SS),vs=[.ref p]/\zZ CS H p wl s/\∀ (r:Addr) (H':Hp),Rows H' r ((y1 s).map zDS)->H r=none->zC [] H H'->Q (.ref r) H'
theorem okSA (TS:x8 K CS) (G:y3 K CS "askers" "Seat.askers" sSA ["self"]):yV P w K mg base CX0 1 CS "askers" ["self"] (zD6 CS):=by
 refine G.ok zEO (fun vs H Q E h=>by obtain ⟨p,wl,s,rfl,_⟩:=h;rfl) (fun f cdv A outer s0 H vs Q E hr h=>?_)
 obtain ⟨p,wl,s,rfl,S,q⟩:=h
 obtain ⟨⟨dx,hob⟩,hrw,hlen⟩:=id S
 obtain ⟨qs,hwl,hqp⟩:=id hrw
 refine ⟨_,(zE (i5 (i:=1) zEO.nd rfl (Or.inl rfl) (N:=["self","waiting"]) (sc:=zG sSA) (ix:=[]) (by decide +kernel) (xE (yF (pv 0) rfl)) (fun _ _ _ _=>(iA (zT xW (pv 0) zM (zX _)))) (fun _ _ _ _=>(z8 (zA (pv 1) (zA wP zD)))))
   (zF (zO (tX (zT vJ (yF (pv 0) rfl) yZ (zX _)) (pv 1) (yO sP (y8 (zA (z8 (zA (yF (pv 0) rfl) (zA wP zD))) zD)) (pv 1)))))),?_⟩
 refine ⟨_,rfl,p,CS,dx,_,_,rfl,hob,TS.cl,TS.nW,sV _ _ _ _,wl,rfl,⟨_,.of hwl⟩,fun c1 hc1=>?_⟩
 refine nD (ds:=s.row) yR (fun r=>[.str r.2,.bl true]) (fun r=>decide (r.1=("asker" : Str))) (fun r _=>[some (.str r.1),some (.str r.2)]) [] (by omega) hc1 hrw ⟨[none,none],rfl,rfl⟩ (fun _ _=>rfl) ?_ ?_ ?_ ?_
 ·intro r q vs H R _ hv hq h
  match vs,hv with
  | [v1,v2],_=>exact ⟨q,_,rfl,.of hq,rfl,_,_,rfl,_,_,rfl,rfl,h⟩
 ·intro r q H R _ _ _ h
  refine ⟨_,rfl,rfl,_,rfl,?_⟩
  rw [show decide (V.str r.1=V.str "asker")=decide (r.1=("asker" : Str)) by simp]
  exact h H (zC.refl _)
 ·intro r q H R _ _ h
  exact ⟨_,rfl,by show 2 <= sizeLine;decide,fun t ht=>h t _ (zC.new ht) zB⟩
 intro H2 hR k2
 obtain ⟨ts,hts,htp⟩:=hR
 have e1:((s.row.filter fun r=>decide (r.1=("asker" : Str))).map fun r=>[V.str r.2,.bl true])=((s.row.filter fun r=>decide (r.1=("asker" : Str))).map fun r=>(r.2,true)).map zDS:=by rw [zGR];rfl
 rw [e1] at htp
 have hob2:=k2 _ _ (by simp) hob
 refine ⟨_,rfl,p,CS,dx,_,_,rfl,hob2,TS.cl,TS.nH,kX _ _ _ _,rfl,_,rfl,?_⟩
 cases eh:s.hold with
 | none=>
  refine ifT rfl ⟨_,rfl,q c1 H2 ⟨ts,hts,?_⟩ hc1 k2⟩
  unfold y1
  rw [eh]
  exact htp
 | some z=>
  refine ifF rfl ?_
  rw [eh] at hob2
  refine ⟨_,rfl,p,CS,dx,_,_,rfl,hob2,TS.cl,TS.nH,kX _ _ _ _,by show 2 <= sizeLine;decide,fun t ht=>⟨by show 1 <= sizeLine;decide,fun l1 hl1=>?_⟩⟩
  have k3:zC [] H2 (upd H2 t (.tup [.str z,.bl false])):=zC.new ht
  have e3:upd H2 t (.tup [.str z,.bl false]) t=some (.tup [.str z,.bl false]):=zB
  have hl1':upd H2 t (.tup [.str z,.bl false]) l1=none:=hl1
  have k4:zC [] (upd H2 t (.tup [.str z,.bl false])) (upd (upd H2 t (.tup [.str z,.bl false])) l1 (.lst [.ref t])):=zC.new hl1'
  have e4:upd (upd H2 t (.tup [.str z,.bl false])) l1 (.lst [.ref t]) l1=some (.lst [.ref t]):=zB
  have e34:=k4 _ _ (by simp) e3
  have k24:=k3.trans k4
  have lt:=zP htp
  rw [zF7,zF7] at lt
  have lf:=zG5 (fun r:Str × Str=>decide (r.1=("asker" : Str))) s.row
  refine ⟨_,rfl,l1,c1,_,_,rfl,rfl,e4,k24 _ _ (by simp) hts,by rw [zF7,sizeLine_eq];show 1 + _ <= _;omega,fun l2 hl2=>?_⟩
  have k5:zC [] (upd (upd H2 t (.tup [.str z,.bl false])) l1 (.lst [.ref t])) (upd (upd (upd H2 t (.tup [.str z,.bl false])) l1 (.lst [.ref t])) l2 (.lst ((t :: ts).map V.ref))):=zC.new hl2
  refine q l2 _ ⟨t :: ts,zB,?_⟩ (k2.none (by simp) (k24.none (by simp) hl2)) (k2.trans (k24.trans k5))
  unfold y1
  rw [eh]
  exact .cons (k5 _ _ (by simp) e34) (L2.Paired.mapP htp fun u r e=>(k24.trans k5) _ _ (by simp) e)
end
abbrev j6:Stmt:=top 18
abbrev b8:Stmt:=yN (top 19) 13
abbrev j5:Stmt:=yN (top 19) 14
section
variable {P:Program} {w:World} {K:PySem.W.Frag} {mg:Str->Option Value} {base:Heap} {C:Addr}
theorem zCE:zN ["house"] ["house"] (zG j6):=⟨rfl,rfl,rfl,by decide +kernel,rfl,by decide +kernel,by decide +kernel⟩
theorem zC5 (G:yW K mg "check_house" j6 ["house"]) (CI:Cal P w K mg base CX0 1 "is_name" ["thing"] (tJ K)):Cal P w K mg base CX0 2 "check_house" ["house"] tT:=by
 refine G.ok zCE (fun vs H Q E h=>by obtain ⟨z,rfl,_⟩:=h;rfl) (fun f cdv A outer s0 H vs Q E hr h=>?_)
 obtain ⟨z,rfl,h1,h2,q⟩:=h
 have hr1:z7 1 _:=hr.mono (by decide)
 refine ⟨_,(zF (z4 (wD (xY (zU CI hr1 (zA (pv 0) zD)))) (zF y0) zQ)),?_⟩
 refine ⟨_,rfl,_,"str",rfl,.str z,(fun z' e=>by cases e;exact h2),fun H1 k1=>⟨_,rfl,?_⟩⟩
 exact ifF (by show (!vD z)=false;rw [h1];rfl) (q H1 k1)
theorem zEX:zN ["self","house"] ["self","house"] (zG b8):=⟨rfl,rfl,rfl,by decide +kernel,rfl,by decide +kernel,by decide +kernel⟩
abbrev hsR (z:Str):Str × Str:=(("house" : Str),z)
def zA6 (C:Addr):Sp:=fun vs H Q _=>∃ (p wl:Addr) (s:SS) (z:Str),vs=[.ref p,.str z]/\zZ C H p wl s/\vD z=true/\z.length <= 1000/\s.ptr ≠ some z/\(hsR z) ∉ s.row/\s.row.length < 1000 /\
 ∀ (r:Addr) (H':Hp),zZ C H' p wl (zS { s with row:=s.row ++ [(hsR z)] }).1->Rows H' r (zS { s with row:=s.row ++ [(hsR z)] }).2->H r=none->zC [p,wl] H H'->Q (.ref r) H'
theorem zFC (T:x8 K C) (G:y3 K C "ask" "Seat.ask" b8 ["self","house"]) (CC:Cal P w K mg base CX0 2 "check_house" ["house"] tT) (MM:yV P w K mg base CX0 2 C "move_on" ["self"] (sI C)) :
  yV P w K mg base CX0 3 C "ask" ["self","house"] (zA6 C):=by
 refine G.ok zEX (fun vs H Q E h=>by obtain ⟨p,wl,s,z,rfl,_⟩:=h;rfl) (fun f cdv A outer s0 H vs Q E hr h=>?_)
 obtain ⟨p,wl,s,z,rfl,S0,hn,hl,hh,hi,hlen,q⟩:=h
 have hr2:z7 2 _:=hr.mono (by decide)
 have hu:=uC hr
 refine ⟨_,(zE (yG (zU CC hr2 (zA (pv 1) zD)))
   (zE (z4 (zT xW (pv 1) (yF (pv 0) rfl) (zX _)) (zF y0) zQ)
   (zE (z4 (zT (oW hu) (z8 (zA zM (zA (pv 1) zD))) (yF (pv 0) rfl) (by with_unfolding_all rfl)) (zF y0) zQ)
   (zE (yG (vC PySem.F.plainAttrs_list PySem.F.slot_list_append PySem.F.type_list_append xA (yF (pv 0) rfl) (zA (z8 (zA zM (zA (pv 1) zD))) zD)))
   (zF (zO (xJ MM T.cl hr2 (pv 0)))))))),?_⟩
 refine ⟨_,rfl,z,rfl,hn,hl,fun H1 k1=>?_⟩
 have S:=S0.keep k1
 have npw:=S.ne
 obtain ⟨⟨dx,hob⟩,⟨ps,hwl,hpr⟩,_⟩:=id S
 refine ⟨_,rfl,_,rfl,p,C,dx,_,_,rfl,hob,T.cl,T.nP,cH _ _ _ _,jV _ _,_,rfl,?_⟩
 refine ifF (by rw [zAM];exact zGN hh) ?_
 refine ⟨_,rfl,by show 2 <= sizeLine;decide,fun t ht=>?_⟩
 have k2:zC [] H1 (upd H1 t (.tup [.str "house",.str z])):=zC.new ht
 refine ⟨_,rfl,p,C,dx,_,_,rfl,(k2 _ _ (by simp) hob),T.cl,T.nW,sV _ _ _ _,wl,t,_,s.row.map yR,rfl,rfl,(Rows.keep ⟨ps,hwl,hpr⟩ k2),zB,rfl,wX _,_,rfl,?_⟩
 refine ifF (by show ((s.row.map yR).any fun r=>eqT r (yR (hsR z)))=false;rw [uR];exact zGN hi) ?_
 refine ⟨_,rfl,p,C,dx,_,_,rfl,(k2 _ _ (by simp) hob),T.cl,T.nW,sV _ _ _ _,.inl ⟨rfl,_,.of (k2 _ _ (by simp) hwl)⟩,_,rfl,by show 2 <= sizeLine;decide,fun t2 ht2=>?_⟩
 have k3:zC [] (upd H1 t (.tup [.str "house",.str z])) (upd (upd H1 t (.tup [.str "house",.str z])) t2 (.tup [.str "house",.str z])):=zC.new ht2
 have k13:=k2.trans k3
 have wt2:wl ≠ t2:=zH (k2 _ _ (by simp) hwl) ht2
 have lps:=zP hpr
 rw [zF7] at lps
 refine ⟨wl,_,_,rfl,rfl,k13 _ _ (by simp) hwl,by rw [zF7,sizeLine_eq];omega,?_⟩
 generalize hH3:upd (upd H1 t (.tup [.str "house",.str z])) t2 (.tup [.str "house",.str z])=H3 at k3 k13 ⊢
 have h3t:H3 t2=some (.tup (yR (hsR z))):=by rw [<- hH3];exact zB
 have k4:zC [p,wl] H1 (upd H3 wl (.lst (ps.map V.ref ++ [.ref t2]))):=(k13.mono (by simp)).trans (zC.at (by simp))
 have hob4:upd H3 wl (.lst (ps.map V.ref ++ [.ref t2])) p=some (.ins C dx (y6 (yC s.ptr) wl (yC s.hold) s.asked)):=by rw [zI npw];exact k13 _ _ (by simp) hob
 have S4:zZ C (upd H3 wl (.lst (ps.map V.ref ++ [.ref t2]))) p wl { s with row:=s.row ++ [(hsR z)] }:=
  zZ.more (H:=H) (H1:=H1) hob4 (zK k4 (vK hob hwl) hpr) zB (by rw [zI (Ne.symm wt2)];exact h3t) hlen
 refine ⟨_,rfl,p,dx,_,rfl,hob4,pR _ _ _ _,p,wl,_,rfl,S4,fun r H5 S5 R5 hr5 k5=>?_⟩
 have hr4:=(zL hr5).1
 exact q r H5 S5 R5 (k1.none (by simp) (k13.none (by simp) hr4)) (((k1.mono (by simp)).trans k4).trans k5)
theorem zCD:zN ["self","house","back"] ["self","house","back"] (zG j5):=⟨rfl,rfl,rfl,by decide +kernel,rfl,by decide +kernel,by decide +kernel⟩
def iQ (s:SS) (z:Str) (b:Bool):SS:={ s with ptr:=none,asked:=false,row:=if b then s.row ++ [hsR z] else s.row }
def fV (C:Addr):Sp:=fun vs H Q _=>∃ (p wl:Addr) (s:SS) (z:Str) (b:Bool),vs=[.ref p,.str z,.bl b]/\zZ C H p wl s/\vD z=true/\z.length <= 1000/\s.ptr=some z/\s.row.length < 1000 /\
 ∀ (r:Addr) (H':Hp),zZ C H' p wl (zS (iQ s z b)).1->Rows H' r (zS (iQ s z b)).2->H r=none->zC [p,wl] H H'->Q (.ref r) H'
theorem zC4 (T:x8 K C) (G:y3 K C "come" "Seat.come" j5 ["self","house","back"]) (CC:Cal P w K mg base CX0 2 "check_house" ["house"] tT) (MM:yV P w K mg base CX0 2 C "move_on" ["self"] (sI C)) (b_isinstance:Blt mg "isinstance") (b_bool:Blt mg "bool") :
  yV P w K mg base CX0 3 C "come" ["self","house","back"] (fV C):=by
 refine G.ok zCD (fun vs H Q E h=>by obtain ⟨p,wl,s,z,b,rfl,_⟩:=h;rfl) (fun f cdv A outer s0 H vs Q E hr h=>?_)
 obtain ⟨p,wl,s,z,b,rfl,S0,hn,hl,hh,hlen,q⟩:=h
 have hr2:z7 2 _:=hr.mono (by decide)
 refine ⟨_,(zE (yG (zU CC hr2 (zA (pv 1) zD)))
   (zE (z4 (zT mU (pv 1) (yF (pv 0) rfl) (zX _)) (zF y0) zQ)
   (zE (z4 (wD (xY (z9 yX b_isinstance yJ (zA (pv 2) (zA (vQ b_bool rZ) zD))))) (zF y0) zQ)
   (zE (wM (pv 0) yZ rfl)
   (zE (wM (pv 0) wP rfl)
   (zE (z4 (xY (pv 2)) (zF (yG (vC PySem.F.plainAttrs_list PySem.F.slot_list_append PySem.F.type_list_append xA (yF (pv 0) rfl) (zA (z8 (zA zM (zA (pv 1) zD))) zD)))) zQ)
   (zF (zO (xJ MM T.cl hr2 (pv 0)))))))))),?_⟩
 refine ⟨_,rfl,z,rfl,hn,hl,fun H1 k1=>?_⟩
 have S:=S0.keep k1
 have npw:=S.ne
 obtain ⟨⟨dx,hob⟩,⟨ps,hwl,hpr⟩,_⟩:=id S
 refine ⟨_,rfl,_,rfl,p,C,dx,_,_,rfl,hob,T.cl,T.nP,cH _ _ _ _,jV _ _,_,rfl,?_⟩
 refine ifF (by rw [zAM,zGM hh];rfl) ?_
 refine ⟨_,rfl,_,_,_,_,rfl,(yY.bl (K:=K) (H:=H1) b).ty,(yY.bl (K:=K) (H:=H1) b).kit.2.2.1,_,rfl,?_⟩
 refine ifF rfl ?_
 refine ⟨_,rfl,p,C,dx,_,rfl,hob,T.cl,T.nP,by show 4 < 1000;decide,?_⟩
 rw [zBB]
 refine ⟨_,rfl,p,C,dx,_,rfl,zB,T.cl,T.nA,by show 4 < 1000;decide,?_⟩
 dsimp only
 rw [eO,vP]
 have k2:zC [p,wl] H1 (upd H1 p (.ins C dx (y6 .non wl (yC s.hold) false))):=zC.at (by simp)
 have S2:zZ C (upd H1 p (.ins C dx (y6 .non wl (yC s.hold) false))) p wl { s with ptr:=none,asked:=false }:=S.stay (dx:=dx) { s with ptr:=none,asked:=false } zB (by rw [zI (Ne.symm npw)]) rfl k2
 have hob2:upd H1 p (.ins C dx (y6 .non wl (yC s.hold) false)) p=some (.ins C dx (y6 .non wl (yC s.hold) false)):=zB
 have hwl2:upd H1 p (.ins C dx (y6 .non wl (yC s.hold) false)) wl=some (.lst (ps.map V.ref)):=by rw [zI (Ne.symm npw)];exact hwl
 have hpr2:=zK k2 (vK hob hwl) hpr
 have n12:∀ r,upd H1 p (.ins C dx (y6 .non wl (yC s.hold) false)) r=none->H1 r=none:=fun r h=>(zL h).1
 generalize upd H1 p (.ins C dx (y6 .non wl (yC s.hold) false))=H2 at k2 S2 hob2 hwl2 hpr2 n12 ⊢
 refine ⟨_,rfl,_,rfl,?_⟩
 cases b with
 | false=>
  refine ifF rfl ?_
  refine ⟨_,rfl,p,dx,_,rfl,hob2,pR _ _ _ _,p,wl,_,rfl,S2,fun r H5 S5 R5 hr5 k5=>?_⟩
  exact q r H5 S5 R5 (k1.none (by simp) (n12 r hr5)) (((k1.mono (by simp)).trans k2).trans k5)
 | true=>
  refine ifT rfl ?_
  refine ⟨_,rfl,p,C,dx,_,_,rfl,hob2,T.cl,T.nW,sV _ _ _ _,.inl ⟨rfl,_,.of hwl2⟩,_,rfl,by show 2 <= sizeLine;decide,fun t2 ht2=>?_⟩
  have k3:zC [] H2 (upd H2 t2 (.tup [.str "house",.str z])):=zC.new ht2
  have wt2:wl ≠ t2:=zH hwl2 ht2
  have lps:=zP hpr
  rw [zF7] at lps
  refine ⟨wl,_,_,rfl,rfl,k3 _ _ (by simp) hwl2,by rw [zF7,sizeLine_eq];omega,?_⟩
  have n23:∀ r,upd H2 t2 (.tup [.str "house",.str z]) r=none->H2 r=none:=fun r h=>(zL h).1
  have h3t:upd H2 t2 (.tup [.str "house",.str z]) t2=some (.tup (yR (hsR z))):=zB
  generalize upd H2 t2 (.tup [.str "house",.str z])=H3 at k3 n23 h3t ⊢
  have k4:zC [p,wl] H2 (upd H3 wl (.lst (ps.map V.ref ++ [.ref t2]))):=(k3.mono (by simp)).trans (zC.at (by simp))
  have hob4:upd H3 wl (.lst (ps.map V.ref ++ [.ref t2])) p=some (.ins C dx (y6 (yC none) wl (yC s.hold) false)):=by rw [zI npw];exact k3 _ _ (by simp) hob2
  have S4:zZ C (upd H3 wl (.lst (ps.map V.ref ++ [.ref t2]))) p wl (iQ s z true):=
   zZ.more (s:={ s with ptr:=none,asked:=false }) (H:=H) (H1:=H2) hob4 (zK k4 (vK hob2 hwl2) hpr2) zB (by rw [zI (Ne.symm wt2)];exact h3t) hlen
  refine ⟨_,rfl,p,dx,_,rfl,hob4,pR _ _ _ _,p,wl,_,rfl,S4,fun r H5 S5 R5 hr5 k5=>?_⟩
  have hr4:=(zL hr5).1
  exact q r H5 S5 R5 (k1.none (by simp) (n12 r (n23 r hr4))) ((((k1.mono (by simp)).trans k2).trans k4).trans k5)
end
theorem zBN (a:V) (wl:Addr) (h:V) (k:Bool):(y6 a wl h k).lookup ("want" : Str)=none:=rfl
theorem zFS (a:V) (wl:Addr) (h:V) (k:Bool):(y6 a wl h k).lookup ("leave" : Str)=none:=rfl
theorem zFU (a:V) (wl:Addr) (h:V) (k:Bool):(y6 a wl h k).lookup ("done" : Str)=none:=rfl
theorem zDL (a:V) (wl:Addr) (h:V) (k:Bool):(y6 a wl h k).lookup ("ask" : Str)=none:=rfl
theorem zFW (a:V) (wl:Addr) (h:V) (k:Bool):(y6 a wl h k).lookup ("come" : Str)=none:=rfl
theorem zFV (a:V) (wl:Addr) (h:V) (k:Bool):(y6 a wl h k).lookup ("crowd" : Str)=none:=rfl
inductive DD where
 | want (z:Str)
 | leave (z:Str)
 | done (z:Str)
 | ask (z:Str)
 | come (z:Str) (b:Bool)
def deedV:DD->List V
 | .want z=>[.str "want",.str z]
 | .leave z=>[.str "leave",.str z]
 | .done z=>[.str "done",.str z]
 | .ask z=>[.str "ask",.str z]
 | .come z b=>[.str "come",.str z,.bl b]
def sC (row:List (Str × Str)):DD->List (Str × Str)
 | .want z=>row ++ [yH z]
 | .leave z=>row.filter fun x=>decide (x ≠ yH z)
 | .done _=>row
 | .ask z=>row ++ [hsR z]
 | .come z b=>if b then row ++ [hsR z] else row
def zW (s:SS):DD->SS
 | .want z=>{ s with row:=s.row ++ [yH z] }
 | .leave z=>{ s with row:=s.row.filter fun x=>decide (x ≠ yH z) }
 | .done _=>{ s with hold:=none }
 | .ask z=>{ s with row:=s.row ++ [hsR z] }
 | .come z b=>iQ s z b
def jI (s:SS):DD->Prop
 | .want z=>s.hold ≠ some z/\yH z ∉ s.row/\xG z
 | .leave z=>yH z ∈ s.row
 | .done z=>s.hold=some z
 | .ask z=>s.ptr ≠ some z/\hsR z ∉ s.row/\xG z
 | .come z _=>s.ptr=some z
structure rA (s:SS):Prop where
 p:∀ z,s.ptr=some z->xG z
 h:∀ z,s.hold=some z->xG z
 r:∀ x ∈ s.row,(x.1="asker" \/ x.1="house")/\xG x.2
 u:∀ z,s.row.count (yH z) <= 1
theorem gR (s:SS) (d:DD):(zW s d).row=sC s.row d:=by cases d <;> rfl
theorem oX (y z:Str):hsR y ≠ yH z:=by
 intro e
 have e1:("house" : Str)="asker":=congrArg Prod.fst e
 exact absurd e1 (by decide +kernel)
theorem nK {l:List (Str × Str)} {x a:Str × Str} (h:x ≠ a):(l ++ [x]).count a=l.count a:=by
 rw [List.count_append,List.count_cons,List.count_nil]
 have:(x == a)=false:=by simpa using h
 rw [this];simp
theorem rA.more {s:SS} (I:rA s) {x:Str × Str} (hx:(x.1="asker" \/ x.1="house")/\xG x.2) (hn:∀ z,x=yH z->x ∉ s.row):rA { s with row:=s.row ++ [x] }:=by
 refine ⟨I.p,I.h,fun y hy=>?_,fun z=>?_⟩
 ·rcases zGO.mp hy with q | q
  ·exact I.r y q
  ·rw [zGA.mp q];exact hx
 ·by_cases e:x=yH z
  ·have h0:s.row.count (yH z)=0:=List.count_eq_zero.mpr (by rw [<- e];exact hn z e)
   show (s.row ++ [x]).count (yH z) <= 1
   rw [List.count_append,h0,e]
   simp
  ·show (s.row ++ [x]).count (yH z) <= 1
   rw [nK e];exact I.u z
theorem rA.sub {s s':SS} (I:rA s) (hp:∀ z,s'.ptr=some z->xG z) (hh:∀ z,s'.hold=some z->xG z) (hs:List.Sublist s'.row s.row):rA s':=
 ⟨hp,hh,fun x hx=>I.r x (hs.subset hx),fun z=>zGI (hs.count_le _) (I.u z)⟩
theorem cR {s:SS} (I:rA s):∀ {d:DD},jI s d->rA (zW s d)
 | .want z,h=>I.more ⟨.inl rfl,h.2.2⟩ fun _ _=>h.2.1
 | .leave z,_=>I.sub I.p I.h List.filter_sublist
 | .done z,_=>I.sub I.p (fun z e=>by cases e) (List.Sublist.refl _)
 | .ask z,h=>I.more ⟨.inr rfl,h.2.2⟩ fun y e=>absurd e (oX z y)
 | .come z b,h=>by
  have g:=I.p z h
  have I0:rA { s with ptr:=none,asked:=false }:=I.sub (fun z e=>by cases e) I.h (List.Sublist.refl _)
  cases b with
  | false=>exact I0
  | true=>exact I0.more (x:=hsR z) ⟨.inr rfl,g⟩ fun y e=>absurd e (oX z y)
theorem dL {s:SS} (I:rA s):rA (zS s).1:=by
 unfold zS
 split
 ·exact I
 ·split
  ·split
   ·rename_i hne _ _ hh
    unfold xH
    split
    ·exact I
    ·rename_i k n rest er
     have hm:(k,n) ∈ s.row:=by rw [er];simp
     have gn:=(I.r _ hm).2
     have hsub:List.Sublist rest s.row:=by rw [er];exact List.sublist_cons_self _ _
     split
     ·exact I.sub I.p (fun z e=>by cases e;exact gn) hsub
     ·exact I.sub (fun z e=>by cases e;exact gn) I.h hsub
   ·exact I
  ·split
   ·exact I
   ·exact I.sub I.p I.h (List.Sublist.refl _)
theorem jC (row:List (Str × Str)) (d:DD):(sC row d).length <= row.length + 1:=by
 cases d with
 | want z=>simp [sC]
 | leave z=>exact zGI (zG5 _ _) (Nat.le_succ _)
 | done z=>exact Nat.le_succ _
 | ask z=>simp [sC]
 | come z b=>cases b <;> simp [sC]
theorem m4 (s:SS):(zS s).1.row.length <= s.row.length:=by
 unfold zS
 split
 ·exact zGG _
 ·split
  ·split
   ·unfold xH
    split
    ·exact zGG _
    ·rename_i k n rest er
     split <;> (show rest.length <= s.row.length;rw [er];simp)
   ·exact zGG _
  ·split <;> exact zGG _
theorem uO:∀ (l:List (Str × Str)) (a:Str × Str) (j:Nat),l[j]?=some a->(∀ m:Nat,m < j->l[m]? ≠ some a)->l.count a <= 1->l.filter (fun x=>decide (x ≠ a))=l.eraseIdx j
 | [],a,j,h,_,_=>by simp at h
 | y :: l,a,0,h,_,hc=>by
  have e:y=a:=by simpa using h
  subst e
  have h0:l.count y=0:=by
   rw [List.count_cons_self] at hc;omega
  have hn:y ∉ l:=List.count_eq_zero.mp h0
  rw [List.filter_cons]
  simp only [ne_eq,not_true_eq_false,decide_false,Bool.false_eq_true,if_false,List.eraseIdx_zero,List.tail_cons]
  exact List.filter_eq_self.mpr fun x hx=>zGM fun e=>hn (e ▸ hx)
 | y :: l,a,j + 1,h,hno,hc=>by
  have ne:y ≠ a:=fun e=>hno 0 (by omega) (by simp [e])
  have hc':l.count a <= 1:=zGI (List.Sublist.count_le _ (List.sublist_cons_self y l)) hc
  rw [List.filter_cons,if_pos (zGM ne),uO l a j (by simpa using h) (fun m hm e=>hno (m + 1) (by omega) (by simpa using e)) hc']
  rfl
def vN (row:List (Str × Str)):List Str:=(row.filter fun r=>decide (r.1=("asker" : Str))).map (·.2)
def xU (s:SS):List Str:=(y1 s).map (·.1)
theorem xQ (s:SS):xU s=(match s.hold with | some z=>[z] | none=>[]) ++ vN s.row:=by
 unfold xU y1 vN
 rw [zGJ,zGR]
 cases s.hold <;> rfl
theorem lO (row:List (Str × Str)) (z:Str):vN (row ++ [yH z])=vN row ++ [z]:=by
 unfold vN
 rw [List.filter_append,zGJ]
 simp
theorem iS (row:List (Str × Str)) (z:Str):vN (row ++ [hsR z])=vN row:=by
 unfold vN
 rw [List.filter_append,zGJ]
 have:(("house" : Str)="asker")=False:=by simp;decide +kernel
 simp [this]
theorem m7 {row:List (Str × Str)} {z:Str}:z ∈ vN row ↔ yH z ∈ row:=by
 unfold vN
 rw [List.mem_map]
 constructor
 ·rintro ⟨⟨k,y⟩,h,rfl⟩
  obtain ⟨h1,h2⟩:=List.mem_filter.mp h
  have e:k=("asker" : Str):=of_decide_eq_true h2
  subst e;exact h1
 ·exact fun h=>⟨yH z,List.mem_filter.mpr ⟨h,by simp⟩,rfl⟩
theorem wB {s:SS} {z:Str}:z ∈ xU s ↔ (s.hold=some z \/ yH z ∈ s.row):=by
 rw [xQ,zGO,m7]
 cases s.hold with
 | none=>simp
 | some y=>simp [eq_comm]
theorem t3 (s:SS):xU (zS s).1=xU s:=by
 unfold zS
 split
 ·rfl
 ·split
  ·split
   ·rename_i hh
    unfold xH
    split
    ·rfl
    ·rename_i k n rest er
     by_cases hk:k=("asker" : Str)
     ·simp only [if_pos hk]
      rw [xQ,xQ,hh,er]
      show [n] ++ vN rest=[] ++ vN ((k,n) :: rest)
      unfold vN
      rw [List.filter_cons,if_pos (by rw [hk];simp)];rfl
     ·simp only [if_neg hk]
      rw [xQ,xQ,hh,er]
      show [] ++ vN rest=[] ++ vN ((k,n) :: rest)
      unfold vN
      rw [List.filter_cons,if_neg (by simpa using hk)]
   ·rfl
  ·split <;> rfl
def yK (ss:List SS):List Str:=ss.flatMap xU
def wC:Nat->List SS->List (Str × List V)
 | _,[]=>[]
 | i,s :: ss=>(y1 s).map (fun a=>(a.1,[V.int (i:Int),V.bl a.2])) ++ wC (i + 1) ss
theorem y2:∀ (ss:List SS) (i:Nat),(wC i ss).map (·.1)=yK ss
 | [],_=>rfl
 | s :: ss,i=>by
  unfold wC yK
  rw [zGJ,y2 ss,zGR];rfl
theorem p6:∀ (ss:List SS) (i:Nat) (s:SS),wC i (ss ++ [s])=wC i ss ++ (y1 s).map (fun a=>(a.1,[V.int ((i + ss.length:Nat):Int),V.bl a.2]))
 | [],i,s=>by simp [wC]
 | x :: ss,i,s=>by
  show _ ++ wC (i + 1) (ss ++ [s])=_
  rw [p6 ss,<- zG2,zGS,show i + 1 + ss.length=i + (ss.length + 1) by omega];rfl
theorem wY:∀ {ss:List SS} {i:Nat} {r:Str × List V},r ∈ wC i ss ↔ ∃ (k:Nat) (s:SS) (b:Bool),ss[k]?=some s/\(r.1,b) ∈ y1 s/\r.2=[V.int ((i + k:Nat):Int),V.bl b]
 | [],i,r=>by simp [wC]
 | x :: ss,i,r=>by
  unfold wC
  rw [zGO,wY (ss:=ss),List.mem_map]
  constructor
  ·rintro (⟨a,ha,rfl⟩ | ⟨k,s,b,h1,h2,h3⟩)
   ·exact ⟨0,x,a.2,rfl,ha,rfl⟩
   ·exact ⟨k + 1,s,b,by simpa using h1,h2,by rw [h3,show i + 1 + k=i + (k + 1) by omega]⟩
  ·rintro ⟨k,s,b,h1,h2,h3⟩
   cases k with
   | zero=>
    have e:x=s:=by simpa using h1
    subst e
    exact .inl ⟨_,h2,Prod.ext rfl h3.symm⟩
   | succ k=>exact .inr ⟨k,s,b,by simpa using h1,h2,by rw [h3,show i + 1 + k=i + (k + 1) by omega]⟩
theorem wR {ss:List SS} {z:Str}:z ∈ yK ss ↔ ∃ (i:Nat) (s:SS),ss[i]?=some s/\z ∈ xU s:=by
 unfold yK
 rw [List.mem_flatMap]
 constructor
 ·rintro ⟨s,hs,hz⟩
  obtain ⟨i,hi,e⟩:=List.getElem_of_mem hs
  exact ⟨i,s,by rw [zF8 hi,e],hz⟩
 ·rintro ⟨i,s,h,hz⟩;exact ⟨s,zGB h,hz⟩
theorem t0:∀ {ss:List SS} {i j:Nat} {s s':SS} {z:Str},(yK ss).Nodup->ss[i]?=some s->ss[j]?=some s'->z ∈ xU s->z ∈ xU s'->i=j
 | [],_,_,_,_,_,_,h,_,_,_=>by simp at h
 | x :: ss,i,j,s,s',z,nd,h1,h2,z1,z2=>by
  obtain ⟨_,nd2,dj⟩:=List.nodup_append.mp (show (xU x ++ yK ss).Nodup from nd)
  cases i with
  | zero=>
   cases j with
   | zero=>rfl
   | succ j=>
    have e:x=s:=by simpa using h1
    subst e
    exact absurd rfl (dj z z1 z (wR.mpr ⟨j,s',by simpa using h2,z2⟩))
  | succ i=>
   cases j with
   | zero=>
    have e:x=s':=by simpa using h2
    subst e
    exact absurd rfl (dj z z2 z (wR.mpr ⟨i,s,by simpa using h1,z1⟩))
   | succ j=>exact congrArg Nat.succ (t0 (s:=s) (s':=s') (z:=z) nd2 (by simpa using h1) (by simpa using h2) z1 z2)
theorem qI:∀ {ss:List SS} {i:Nat} {s s':SS},ss[i]?=some s->(xU s').Sublist (xU s)->(yK (ss.set i s')).Sublist (yK ss)
 | [],_,_,_,h,_=>by simp at h
 | x :: ss,0,s,s',h,l=>by
  have e:x=s:=by simpa using h
  subst e
  exact List.Sublist.append l (List.Sublist.refl _)
 | x :: ss,i + 1,s,s',h,l=>List.Sublist.append (List.Sublist.refl (xU x)) (qI (ss:=ss) (i:=i) (by simpa using h) l)
theorem pN:∀ {ss:List SS} {i:Nat} {s s':SS} {z:Str},ss[i]?=some s->xU s'=xU s ++ [z]->(yK (ss.set i s')).Perm (z :: yK ss)
 | [],_,_,_,_,h,_=>by simp at h
 | x :: ss,0,s,s',z,h,l=>by
  have e:x=s:=by simpa using h
  subst e
  show (xU s' ++ yK ss).Perm (z :: (xU x ++ yK ss))
  rw [l,zG2]
  exact List.perm_middle
 | x :: ss,i + 1,s,s',z,h,l=>by
  show (xU x ++ yK (ss.set i s')).Perm (z :: (xU x ++ yK ss))
  exact (List.Perm.append_left _ (pN (ss:=ss) (by simpa using h) l)).trans List.perm_middle
structure vX (k:Nat) (ss:List SS):Prop where
 si:∀ s ∈ ss,rA s
 nd:(yK ss).Nodup
 ln:(yK ss).length <= k
 rl:∀ s ∈ ss,s.row.length <= k
def qX (s:SS):Nat:=s.row.length + (if s.hold=none then 0 else 1)
def vY (s:SS) (i:Nat):List V:=[.int (qX s:Int),.bl (decide (s.ptr ≠ none)),.int (i:Int)]
def xT:Nat->List SS->List (List V)
 | _,[]=>[]
 | i,s :: ss=>vY s i :: xT (i + 1) ss
theorem vI:∀ (ss:List SS) (i:Nat),(xT i ss).length=ss.length
 | [],_=>rfl
 | _ :: ss,i=>by unfold xT;rw [zGS,vI ss];rfl
theorem uG:∀ {ss:List SS} {i k:Nat} {s:SS},ss[k]?=some s->(xT i ss)[k]?=some (vY s (i + k))
 | [],_,_,_,h=>by simp at h
 | x :: ss,i,0,s,h=>by
  have e:x=s:=by simpa using h
  subst e;rfl
 | x :: ss,i,k + 1,s,h=>by
  show (xT (i + 1) ss)[k]?=_
  rw [uG (i:=i + 1) (by simpa using h),show i + 1 + k=i + (k + 1) by omega]
theorem qE:∀ (ss:List SS) (i:Nat) (s:SS),xT i (ss ++ [s])=xT i ss ++ [vY s (i + ss.length)]
 | [],i,s=>rfl
 | x :: ss,i,s=>by
  show vY x i :: xT (i + 1) (ss ++ [s])=_
  rw [qE ss,show i + 1 + ss.length=i + (ss.length + 1) by omega];rfl
theorem qF:∀ {ss:List SS} {i:Nat},∀ r ∈ xT i ss,∃ (a:Int) (b:Bool) (c:Int),r=[.int a,.bl b,.int c]
 | [],_,r,h=>by cases h
 | x :: ss,i,r,h=>by
  rcases List.mem_cons.mp h with rfl | h
  ·exact ⟨_,_,_,rfl⟩
  ·exact qF r h
def rK (ss:List SS):Nat:=pA (xT 0 ss)
theorem uQ (bt:Nat->Nat->Bool):∀ k,argBest bt k <= k
 | 0=>zGG _
 | k + 1=>by
  unfold argBest
  split
  ·exact zGG _
  ·exact Nat.le_succ_of_le (uQ bt k)
theorem lN {ss:List SS} (h:ss ≠ []):rK ss < ss.length:=by
 unfold rK pA
 rw [vI]
 have:=uQ (fun i j=>uN ((xT 0 ss).getD i []) ((xT 0 ss).getD j [])) (ss.length - 1)
 have:0 < ss.length:=zGX.mpr h
 omega
def vA (s:SS):List V:=[.int (qX s:Int),.int (if s.ptr=none then 0 else 1)]
def bt2 (ss:List SS) (i j:Nat):Bool:=uN ((ss.map vA).getD i []) ((ss.map vA).getD j [])
theorem dR (s t:SS) {i j:Nat} (h:j <= i):uN (vY s i) (vY t j)=uN (vA s) (vA t):=by
 have hij:¬ ((i:Int) < j):=by omega
 unfold vY vA
 simp only [uN,eqV,ltF]
 cases s.ptr <;> cases t.ptr <;> simp [hij]
theorem lM (ss:List SS):∀ k,k < ss.length->argBest (fun i j=>uN ((xT 0 ss).getD i []) ((xT 0 ss).getD j [])) k=argBest (bt2 ss) k
 | 0,_=>rfl
 | k + 1,h=>by
  unfold argBest
  rw [lM ss k (by omega)]
  have l:=uQ (bt2 ss) k
  generalize argBest (bt2 ss) k=b at l
  have hb:b < ss.length:=by omega
  have e1:uN ((xT 0 ss).getD (k + 1) []) ((xT 0 ss).getD b [])=bt2 ss (k + 1) b:=by
   unfold bt2
   rw [zGC,zGC,uG (zF8 h),uG (zF8 hb),zGC,zGC,zGD,zGD,zF8 h,zF8 hb]
   exact dR _ _ (by omega)
  rw [e1]
theorem zAU {ss:List SS} (h:ss ≠ []):rK ss=argBest (bt2 ss) (ss.length - 1):=by
 have:0 < ss.length:=zGX.mpr h
 unfold rK pA
 rw [vI]
 exact lM ss _ (by omega)
inductive HD where
 | want (z:Str) (r:Option Nat)
 | leave (z:Str)
 | done (z:Str)
 | ask (z:Str) (r:Nat)
 | come (z:Str) (r:Nat) (b:Bool)
def rV:Option Nat->V
 | none=>.non
 | some i=>.int (i:Int)
def hdV:HD->List V
 | .want z r=>[.str "want",.str z,rV r]
 | .leave z=>[.str "leave",.str z]
 | .done z=>[.str "done",.str z]
 | .ask z r=>[.str "ask",.str z,.int (r:Int)]
 | .come z r b=>[.str "come",.str z,.int (r:Int),.bl b]
inductive AtR (nb:List Str) (ss:List SS):HD->Nat->SS->DD->Prop
 | any {z:Str} {i:Nat} {s:SS}:ss[i]?=some s->i=rK ss->xG z->z ∉ yK ss->AtR nb ss (.want z none) i s (.want z)
 | want {z:Str} {i:Nat} {s:SS}:ss[i]?=some s->xG z->z ∉ yK ss->AtR nb ss (.want z (some i)) i s (.want z)
 | leave {z:Str} {i:Nat} {s:SS}:ss[i]?=some s->yH z ∈ s.row->AtR nb ss (.leave z) i s (.leave z)
 | done {z:Str} {i:Nat} {s:SS}:ss[i]?=some s->s.hold=some z->AtR nb ss (.done z) i s (.done z)
 | ask {z:Str} {i:Nat} {s:SS}:ss[i]?=some s->z ∈ nb->xG z->s.ptr ≠ some z->hsR z ∉ s.row->AtR nb ss (.ask z i) i s (.ask z)
 | come {z:Str} {i:Nat} {s:SS} {b:Bool}:ss[i]?=some s->z ∈ nb->s.ptr=some z->AtR nb ss (.come z i b) i s (.come z b)
theorem AtR.here {nb:List Str} {ss:List SS} {h:HD} {i:Nat} {s:SS} {d:DD} (a:AtR nb ss h i s d):ss[i]?=some s:=by cases a <;> assumption
theorem AtR.ok {nb:List Str} {ss:List SS} {h:HD} {i:Nat} {s:SS} {d:DD} (a:AtR nb ss h i s d):jI s d:=by
 have no:∀ {z:Str},ss[i]?=some s->z ∉ yK ss->s.hold ≠ some z/\yH z ∉ s.row:=fun hs hz=>by
  have:=fun q=>hz (wR.mpr ⟨i,s,hs,wB.mpr q⟩)
  exact ⟨fun e=>this (.inl e),fun e=>this (.inr e)⟩
 cases a with
 | any h _ g n=>exact ⟨(no h n).1,(no h n).2,g⟩
 | want h g n=>exact ⟨(no h n).1,(no h n).2,g⟩
 | leave h m=>exact m
 | done h m=>exact m
 | ask h m g a b=>exact ⟨a,b,g⟩
 | come h m a=>exact a
theorem vX.deed {nb:List Str} {k:Nat} {ss:List SS} {h:HD} {i:Nat} {s:SS} {d:DD} (I:vX k ss) (a:AtR nb ss h i s d):vX (k + 1) (ss.set i (zS (zW s d)).1):=by
 have hs:=a.here
 have ms:=zGB hs
 have si:=I.si s ms
 have nm:=t3 (zW s d)
 have sub:∀ l:(xU (zW s d)).Sublist (xU s),(yK (ss.set i (zS (zW s d)).1)).Nodup/\(yK (ss.set i (zS (zW s d)).1)).length <= k + 1:=fun l=>by
  have sl:=qI (s':=(zS (zW s d)).1) hs (by rw [nm];exact l)
  exact ⟨I.nd.sublist sl,Nat.le_succ_of_le (zGI sl.length_le I.ln)⟩
 have more:∀ z,xU (zW s d)=xU s ++ [z]->z ∉ yK ss->(yK (ss.set i (zS (zW s d)).1)).Nodup/\(yK (ss.set i (zS (zW s d)).1)).length <= k + 1:=fun z e hz=>by
  have p:=pN (s':=(zS (zW s d)).1) hs (by rw [nm];exact e)
  exact ⟨p.nodup_iff.mpr (List.nodup_cons.mpr ⟨hz,I.nd⟩),by rw [p.length_eq,zGS];exact Nat.succ_le_succ I.ln⟩
 have both:(yK (ss.set i (zS (zW s d)).1)).Nodup/\(yK (ss.set i (zS (zW s d)).1)).length <= k + 1:=by
  cases a with
  | @any z _ _ _ _ _ n=>exact more z (by rw [xQ,xQ];show _ ++ vN (s.row ++ [yH z])=_;rw [lO,<- zG2];rfl) n
  | @want z _ _ _ _ n=>exact more z (by rw [xQ,xQ];show _ ++ vN (s.row ++ [yH z])=_;rw [lO,<- zG2];rfl) n
  | leave _ _=>
   refine sub ?_
   rw [xQ,xQ]
   refine List.Sublist.append (List.Sublist.refl _) ?_
   exact (List.Sublist.filter _ List.filter_sublist).map _
  | done _ _=>
   refine sub ?_
   rw [xQ,xQ]
   exact List.sublist_append_right _ _
  | ask _ _ _ _ _=>
   refine sub ?_
   rw [xQ,xQ]
   show ((match s.hold with | some z=>[z] | none=>[]) ++ vN (s.row ++ [hsR _])).Sublist _
   rw [iS]
   exact List.Sublist.refl _
  | @come z _ _ b _ _ _=>
   refine sub ?_
   rw [xQ,xQ]
   cases b with
   | false=>exact List.Sublist.refl _
   | true=>
    show ((match s.hold with | some z=>[z] | none=>[]) ++ vN (s.row ++ [hsR z])).Sublist _
    rw [iS]
    exact List.Sublist.refl _
 refine ⟨fun t ht=>?_,both.1,both.2,fun t ht=>?_⟩
 ·rcases List.mem_or_eq_of_mem_set ht with h | rfl
  ·exact I.si t h
  ·exact dL (cR si a.ok)
 ·rcases List.mem_or_eq_of_mem_set ht with h | rfl
  ·exact Nat.le_succ_of_le (I.rl t h)
  ·refine zGI (m4 _) ?_
   rw [gR]
   exact zGI (jC _ _) (Nat.succ_le_succ (I.rl s ms))
def mY (i:Nat):List V->List V
 | []=>[]
 | x :: l=>x :: .int (i:Int) :: l
abbrev sNu:Stmt:=top 24
abbrev sCr:Stmt:=yN (top 19) 6
abbrev sRW:Stmt:=yN (top 25) 15
abbrev sRO:Stmt:=yN (top 25) 16
abbrev sBR:Stmt:=yN (top 25) 17
abbrev sCL:Stmt:=yN (top 25) 18
theorem mV {X:Cx} {K:PySem.W.Frag} (e:X.K=K:=by rfl):OpR X (binaryOp .Add) (eM K):=e ▸ iC
theorem mB {X:Cx} {K:PySem.W.Frag} (e:X.K=K:=by rfl):SlR X (eI K):=e ▸ rN
theorem at0 {α:Type} (x:α) (l:List α):atI (x :: l) 0=some x:=uP (j:=0) rfl
theorem at1 {α:Type} (x y:α) (l:List α):atI (x :: y :: l) 1=some y:=uP (j:=1) rfl
theorem at2 {α:Type} (x y z:α) (l:List α):atI (x :: y :: z :: l) 2=some z:=uP (j:=2) rfl
theorem at3 {α:Type} (x y z u:α) (l:List α):atI (x :: y :: z :: u :: l) 3=some u:=uP (j:=3) rfl
theorem gX (x:V) (l:List V):vW (x :: l) (some 1) none=l:=by
 unfold vW
 rw [show (1:Int)=((1:Nat):Int) from rfl,HT.sIx_nat]
 simp only [zGS]
 rw [show min 1 (l.length + 1)=1 by omega]
 show l.take _=l
 rw [zGW]
 show l.length <= HT.sIx (l.length + 1) (l.length + 1) none - 1
 unfold HT.sIx
 simp
theorem dU {K:PySem.W.Frag} {a acc:Addr} {k:Int} {its:List V} {xs:List Str} {ix:List Nat} {g:TG} {te:TE} {σ:St} {H1:Hp} {Q:VK} (hn:its.length < sizeLine) (Pv:Nat->List V->St->Hp->Prop) (h0:Pv 0 [] (stC xs ix σ) (upd H1 acc (.lst []))) (hacc:∀ i ys τ H,Pv i ys τ H->H acc=some (.lst ys)/\ys.length <= i/\SqL K H a its)
  (hs:∀ i ys τ H x T,its[i]?=some x->Pv i ys τ H->H T=none->g (.ref T) τ (upd H T (.tup [.int (k + i),x])) fun τ2 H2=>te τ2 H2 fun y H4=>H4 acc=some (.lst ys)/\Pv (i + 1) (ys ++ [y]) τ2 (upd H4 acc (.lst (ys ++ [y])))) (hd:∀ ys τ H,Pv its.length ys τ H->Q (.ref acc) H):LCW (Ite K a k) xs ix g tI te σ H1 acc Q:=by
 refine ⟨fun i m ys τ H=>m=its.length - i/\i <= its.length/\Pv i ys τ H,⟨its.length,by simp,zGH _,h0⟩,?_⟩
 rintro i m ys τ H ⟨rfl,hi,p⟩
 obtain ⟨c1,c2,c3⟩:=hacc i ys τ H p
 refine ⟨c1,by omega,?_⟩
 by_cases hlt:i < its.length
 ·refine .inr ⟨⟨its,its[i],c3,by simp [hlt]⟩,Pv (i + 1),fun ys' τ' H' p'=>⟨its.length - (i + 1),by omega,rfl,hlt,p'⟩,fun x H' y=>?_⟩
  obtain ⟨T,v,rfl,nT,rfl,y⟩:=y
  exact r6 (R:=fun τ2 _=>fun y H4=>H4 acc=some (.lst ys)/\Pv (i + 1) (ys ++ [y]) τ2 (upd H4 acc (.lst (ys ++ [y])))) (hs i ys τ _ v T (y its c3) p nT)
 ·have e:i=its.length:=by omega
  subst e
  exact .inl ⟨⟨its,c3,zGG _⟩,hd ys τ H p⟩
theorem hX (ss:List SS) (i:Nat):(yK (ss.take i)).length <= (yK ss).length:=by
 have e:yK ss=yK (ss.take i) ++ yK (ss.drop i):=by
  unfold yK
  rw [<- List.flatMap_append,List.take_append_drop]
 rw [e,zGP];omega
theorem jD (ss:List SS) (i:Nat):(wC 0 (ss.take i)).length <= (yK ss).length:=by
 have:=hX ss i
 rw [<- y2 _ 0,zF7] at this
 exact this
theorem wH {α:Type} {l:List α} {i:Nat} {x:α} (h:l[i]?=some x):l.take (i + 1)=l.take i ++ [x]:=by rw [List.take_add_one,h];rfl
def kvR (rs:List (Str × List V)):List (Key × V):=rs.map fun r=>((Sum.inr r.1:Key),r.2.headD .non)
theorem qQ:∀ {rs:List (Str × List V)} {z:Str},z ∉ rs.map (·.1)->vO (kvR rs) (.inr z)=none
 | [],_,_=>rfl
 | r :: rs,z,h=>by
  rw [List.map_cons,List.mem_cons,not_or] at h
  show vO ((Sum.inr r.1,r.2.headD .non) :: kvR rs) _=none
  rw [uX (by show ¬ ((Sum.inr r.1:Key)=.inr z);intro e;injection e with e;exact h.1 e.symm)]
  exact qQ h.2
theorem lB:∀ {rs:List (Str × List V)} {r:Str × List V},(rs.map (·.1)).Nodup->r ∈ rs->vO (kvR rs) (.inr r.1)=some (r.2.headD .non)
 | [],_,_,h=>by cases h
 | x :: rs,r,nd,h=>by
  obtain ⟨n1,n2⟩:=List.nodup_cons.mp (show (x.1 :: rs.map (·.1)).Nodup from nd)
  show vO ((Sum.inr x.1,x.2.headD .non) :: kvR rs) _=_
  rcases List.mem_cons.mp h with rfl | h
  ·exact tQ rfl
  ·rw [uX (by show ¬ ((Sum.inr x.1:Key)=.inr r.1);intro e;injection e with e;exact n1 (e ▸ List.mem_map_of_mem h))]
   exact lB n2 h
theorem x4 {R:Addr->List V->Prop} {qs:List Addr} {rs:List (List V)} (h:Paired R qs rs):∀ (i:Nat) (q:Addr),qs[i]?=some q->∃ r,rs[i]?=some r/\R q r:=by
 induction h with
 | nil=>intro i q e;simp at e
 | @cons q r qs rs c _ ih=>
  intro i x e
  cases i with
  | zero=>simp at e;subst e;exact ⟨r,rfl,c⟩
  | succ i=>exact ih i x (by simpa using e)
theorem cC (nm:V) (nl sl:Addr):(hfl nm nl sl).lookup ("askers" : Str)=none:=rfl
theorem cA (nm:V) (nl sl:Addr):(hfl nm nl sl).lookup ("rights_wanted" : Str)=none:=rfl
theorem cB (nm:V) (nl sl:Addr):(hfl nm nl sl).lookup ("right_of" : Str)=none:=rfl
theorem zFM (nm:V) (nl sl:Addr):(hfl nm nl sl).lookup ("best_right" : Str)=none:=rfl
theorem zBM (nm:V) (nl sl:Addr):(hfl nm nl sl).lookup ("check_letter" : Str)=none:=rfl
theorem zFO (nm:V) (nl sl:Addr):(hfl nm nl sl).lookup ("nearby" : Str)=some (.ref nl):=rfl
section
variable {P:Program} {w:World} {K:PySem.W.Frag} {mg:Str->Option Value} {base:Heap} {C CS:Addr}
theorem scNu:zN ["right","told"] ["right","told"] (zG sNu):=⟨rfl,rfl,rfl,by decide +kernel,rfl,by decide +kernel,by decide +kernel⟩
theorem scCr:zN ["self"] ["self"] (zG sCr):=⟨rfl,rfl,rfl,by decide +kernel,rfl,by decide +kernel,by decide +kernel⟩
theorem scRW:zN ["self"] ["self"] (zG sRW):=⟨rfl,rfl,rfl,by decide +kernel,rfl,by decide +kernel,by decide +kernel⟩
theorem zEQ:zN ["self","asker","wanted"] ["self","asker"] (zG sRO):=⟨rfl,rfl,rfl,by decide +kernel,rfl,by decide +kernel,by decide +kernel⟩
theorem scBR:zN ["self"] ["self"] (zG sBR):=⟨rfl,rfl,rfl,by decide +kernel,rfl,by decide +kernel,by decide +kernel⟩
theorem scCL:zN ["self","house","right"] ["self","house","right"] (zG sCL):=⟨rfl,rfl,rfl,by decide +kernel,rfl,by decide +kernel,by decide +kernel⟩
def lW:Sp:=fun vs H Q _=>∃ (i:Nat) (a:Addr) (ls:List (List V)),vs=[.int (i:Int),.ref a]/\Rows H a ls/\(∀ l ∈ ls,l ≠ []/\l.length <= 10)/\ls.length <= 100/\∀ (r:Addr) (H':Hp),Rows H' r (ls.map (mY i))->H r=none->zC [] H H'->Q (.ref r) H'
theorem pM {K:PySem.W.Frag} {i:Nat} {q:Addr} {l:List V} {H:Hp} {R:VK} (n:l ≠ []/\l.length <= 10) (hq:H q=some (.tup l)) (h:∀ t H',zC [] H H'->H' t=some (.tup (mY i l))->R (.ref t) H') :
  tOp (eM K) (zBU (tS (tOp eJ (uV 0) (tC (.int 0))) (tS (uV 1) nX))) (tSl (eI K) (uV 0) (fM (tC (.int 1))) oA) [some (.ref q),some (.int (i:Int))] H R:=by
 obtain ⟨n1,n2⟩:=n
 cases l with
 | nil=>exact absurd rfl n1
 | cons x l=>
 have l10:l.length <= 9:=by simpa using n2
 refine ⟨_,rfl,q,_,0,x,rfl,rfl,hq,at0 _ _,_,rfl,by show 2 <= sizeLine;decide,fun u hu=>?_⟩
 have k1:zC [] H (upd H u (.tup [x,.int (i:Int)])):=zC.new hu
 have e1:upd H u (.tup [x,.int (i:Int)]) u=some (.tup [x,.int (i:Int)]):=zB
 have hq1:=k1 _ _ (by simp) hq
 generalize upd H u (.tup [x,.int (i:Int)])=H1 at k1 e1 hq1 ⊢
 refine ⟨_,rfl,_,rfl,q,_,rfl,.of hq1,.inr ⟨?_,fun v hv=>?_⟩⟩
 ·rintro ⟨e,_⟩
  rw [show (1:Int)=((1:Nat):Int) from rfl,HT.sIx_nat] at e
  simp only [zGS] at e
  omega
 rw [gX]
 have k2:zC [] H1 (upd H1 v (.tup l)):=zC.new hv
 have e2:=k2 _ _ (by simp) e1
 have e3:upd H1 v (.tup l) v=some (.tup l):=zB
 generalize upd H1 v (.tup l)=H2 at k2 e2 e3 ⊢
 refine ⟨u,v,[x,.int (i:Int)],l,rfl,rfl,.of e2,.of e3,by simp,by rw [sizeLine_eq];show 2 + _ <= _;omega,fun e=>?_,fun _ p hp=>?_⟩
 ·subst e
  exact h u H2 (k1.trans k2) e2
 ·exact h p _ ((k1.trans k2).trans (zC.new hp)) zB
theorem okNu (G:yW K mg "numbered" sNu ["right","told"]):Cal P w K mg base CX0 1 "numbered" ["right","told"] lW:=by
 refine G.ok scNu (fun vs H Q E h=>by obtain ⟨i,a,ls,rfl,_⟩:=h;rfl) (fun f cdv A outer s0 H vs Q E hr h=>?_)
 obtain ⟨i,a,ls,rfl,R,hl,ll,q⟩:=h
 obtain ⟨ps,hps,hpp⟩:=id R
 refine ⟨_,(zF (zO (vV (N:=["right","told"]) (sc:=zG sNu) (ix:=[0]) (by decide +kernel) (xE (pv 1)) (fun _ _ _ _=>xD) (fun _ _ _ _=>(yO (mV (K:=K)) (z8 (zA (zV zY (pv 0) zJ (fun _ _=>rfl)) (zA (pv 1) zD))) (wO (mB (K:=K)) (pv 0) (wN zJ) uH)))))),?_⟩
 refine ⟨_,rfl,a,rfl,⟨_,.of hps⟩,fun acc hacc=>?_⟩
 refine nD (ds:=ls) id (mY i) (fun _=>true) (fun l q=>[some (.ref q)]) [some (.int (i:Int))] (by omega) hacc (by rw [List.map_id];exact R) ⟨[none],rfl,rfl⟩ (fun _ _=>rfl) ?_ ?_ ?_ ?_
 ·intro l q vs H R _ hv hq h
  match vs,hv with
  | [v],_=>exact h
 ·intro l q H R _ _ _ h
  exact h H (zC.refl _)
 ·intro l q H R hm hq h
  exact pM (hl l hm) hq h
 ·intro H' hR k
  rw [List.filter_eq_self.mpr (fun _ _=>rfl)] at hR
  exact q acc H' hR hacc k
def zEH (CS:Addr):Sp:=fun vs H Q _=>∃ (p wl:Addr) (s:SS),vs=[.ref p]/\zZ CS H p wl s/\Q (.int (qX s:Int)) H
theorem okCr (TS:x8 K CS) (G:y3 K CS "crowd" "Seat.crowd" sCr ["self"]) (b_len:Blt mg "len"):yV P w K mg base CX0 1 CS "crowd" ["self"] (zEH CS):=by
 refine G.ok scCr (fun vs H Q E h=>by obtain ⟨p,wl,s,rfl,_⟩:=h;rfl) (fun f cdv A outer s0 H vs Q E hr h=>?_)
 obtain ⟨p,wl,s,rfl,S,q⟩:=h
 obtain ⟨⟨dx,hob⟩,⟨qs,hwl,hqp⟩,hlen⟩:=id S
 have lq:=zP hqp
 rw [zF7] at lq
 refine ⟨_,(zF (zO (yO wQ (z9 yT b_len xI (zA (yF (pv 0) rfl) zD)) (tX (zT vJ (yF (pv 0) rfl) yZ (zX _)) zJ zJ)))),?_⟩
 refine ⟨_,rfl,p,CS,dx,_,_,rfl,hob,TS.cl,TS.nW,sV _ _ _ _,_,_,rfl,.inl ⟨_,.of hwl,rfl⟩,_,rfl,p,CS,dx,_,_,rfl,hob,TS.cl,TS.nH,kX _ _ _ _,rfl,_,rfl,?_⟩
 unfold qX at q
 cases eh:s.hold with
 | none=>
  rw [eh,if_pos rfl] at q
  refine ifT rfl ⟨_,_,rfl,rfl,?_⟩
  rw [zF7,lq]
  exact q
 | some z=>
  rw [eh,if_neg (by simp)] at q
  refine ifF rfl ⟨_,_,rfl,rfl,?_⟩
  rw [zF7,lq]
  exact q
def fT (C CS:Addr):Sp:=fun vs H Q _=>∃ (B:Addr->Prop) (p:Addr) (nm:Str) (nb:List Str) (xs:List (Addr × Addr)) (ss:List SS),vs=[.ref p]/\z6 B C CS H p nm nb xs ss/\(yK ss).Nodup/\(yK ss).length < 64 /\
 ∀ (l:Addr) (rs:List (Str × List V)) (H':Hp),rs.Perm (wC 0 ss)->Asc ltN rs->Rows H' l (rs.map nmV)->H l=none->zC [] H H'->Q (.ref l) H'
theorem zFB (T:x9 K C) (TS:x8 K CS) (G:y3 K C "askers" "House.askers" eC ["self"]) (MAs:yV P w K mg base CX0 1 CS "askers" ["self"] (zD6 CS)) (b_sorted:Blt mg "sorted") (b_enumerate:Blt mg "enumerate"):yV P w K mg base CX0 2 C "askers" ["self"] (fT C CS):=by
 refine G.ok zEW (fun vs H Q E h=>by obtain ⟨B,p,nm,nb,xs,ss,rfl,_⟩:=h;rfl) (fun f cdv A outer s0 H vs Q E hr h=>?_)
 obtain ⟨B,p,nm,nb,xs,ss,rfl,⟨dx,nl,sl,_,hp,hnl,hsl,hxs,hse⟩,nd,l64,q⟩:=h
 have hr1:z7 1 _:=hr
 refine ⟨_,(zF (zO (z9 nL b_sorted sW (zA (aJ (N:=["self"]) (sc:=zG eC) (ix:=[]) (by decide +kernel) (mP rfl b_enumerate.no (yF (pv 0) rfl)) (fun _ _ _ _=>eW (K:=K) (xJ MAs TS.cl hr1 (pv 1))) (fun _ _ _ _=>xD) (fun _ _ _ _=>xD) (fun _ _ _ _=>(z8 (zA (pv 2) (zA (pv 0) (zA (pv 3) zD)))))) zD)))),?_⟩
 refine ⟨_,rfl,p,C,dx,_,_,rfl,hp,T.cl,T.nS,vS _ _ _,sl,rfl,⟨_,.of hsl⟩,fun acc hacc=>?_⟩
 have sa:sl ≠ acc:=zH hsl hacc
 refine dY (K:=K) (a:=sl) (k:=0) (its:=xs.map fun x=>V.ref x.1) (fun i ys τ H1=>∃ (v0 v1 v2 v3:Option V) (qs:List Addr),τ=[v0,v1,v2,v3]/\ys=qs.map V.ref/\Paired (fun q r=>H1 q=some (.tup r)) qs ((wC 0 (ss.take i)).map nmV)/\zC [acc] H H1/\H1 acc=some (.lst ys)) ⟨_,_,_,_,[],rfl,rfl,.nil,zC.at (by simp),zB⟩ (fun i ys τ H1 _ ⟨_,_,_,_,_,_,_,_,k,_⟩=>.of (k _ _ (by simp [sa]) hsl)) ?_ ?_
 ·rintro i ys τ H1 x TT hx ⟨v0,v1,v2,v3,qs,rfl,rfl,hqs,k1,h1⟩ hTT
  rw [zGD] at hx
  cases ex:xs[i]? with
  | none=>rw [ex] at hx;cases hx
  | some y=>
  rw [ex] at hx
  have ey:V.ref y.1=x:=zGE hx
  subst ey
  have il:i < ss.length:=by rw [<- hxs];exact (zF9.mp ex).1
  have es:ss[i]?=some ss[i]:=zF8 il
  generalize ss[i]=s at es
  have S:=hse i y _ ex es
  rw [show (0:Int) + (i:Int)=(i:Int) from Int.zero_add _]
  have k2:zC [] H1 (upd H1 TT (.tup [.int (i:Int),.ref y.1])):=zC.new hTT
  have e2:upd H1 TT (.tup [.int (i:Int),.ref y.1]) TT=some (.tup [.int (i:Int),.ref y.1]):=zB
  generalize upd H1 TT (.tup [.int (i:Int),.ref y.1])=H2 at k2 e2
  have S2:=(S.keep (k1.drop hacc)).keep k2
  obtain ⟨dy,hob⟩:=S2.ob
  refine ⟨TT,_,rfl,.of e2,rfl,_,_,rfl,_,_,rfl,rfl,?_⟩
  refine ⟨_,rfl,y.1,dy,_,rfl,hob,zFY _ _ _ _,y.1,y.2,_,rfl,S2,fun r H3 hR hr k3=>⟨r,rfl,?_⟩⟩
  obtain ⟨rs,hrs,hrp⟩:=hR
  have lrs:=zP hrp
  rw [zF7] at lrs
  have k23:=k2.trans k3
  have h3:=k23 _ _ (by simp) h1
  have ra:r ≠ acc:=Ne.symm (zH (k2 _ _ (by simp) h1) hr)
  have hq3:=zK k23 (fun b hb=>by cases hb) hqs
  have et:(wC 0 (ss.take (i + 1))).map nmV=(wC 0 (ss.take i)).map nmV ++ (y1 s).map fun a=>[.str a.1,.int (i:Int),.bl a.2]:=by
   rw [wH es,p6,zGJ,zGR,zGQ,Nat.zero_add,show min i ss.length=i by omega];rfl
  have lt:((wC 0 (ss.take i)).map nmV).length + (y1 s).length < 64:=by
   have a1:=congrArg List.length et
   have a2:=jD ss (i + 1)
   simp only [zGP,zF7] at a1 ⊢
   omega
  refine ⟨⟨_,.of hrs⟩,?_⟩
  refine d9 (K:=K) (its:=rs.map V.ref) (fun j ys τ H4=>∃ (w2 w3:Option V) (qs':List Addr),τ=[some (.int (i:Int)),some (.ref y.1),w2,w3]/\ys=(qs ++ qs').map V.ref/\Paired (fun q r=>H4 q=some (.tup r)) (qs ++ qs') ((wC 0 (ss.take i)).map nmV ++ ((y1 s).take j).map fun a=>[.str a.1,.int (i:Int),.bl a.2])/\zC [acc] H3 H4/\H4 acc=some (.lst ys)) ?_ ?_ ?_ ?_
  ·exact ⟨v2,v3,[],rfl,by simp,by simpa using hq3,zC.refl _,h3⟩
  ·rintro j ys τ H4 ⟨w2,w3,qs',rfl,rfl,hpq,k4,h4⟩
   refine ⟨h4,?_,.of (k4 _ _ (by simp [ra]) hrs)⟩
   have:=zP hpq
   rw [zGP,zGP,zF7 (as:=List.take j _),zGQ] at this
   rw [zF7,zGP,sizeLine_eq];omega
  ·rintro j ys τ H4 x hx ⟨w2,w3,qs',rfl,rfl,hpq,k4,h4⟩
   rw [zGD] at hx
   cases eu:rs[j]? with
   | none=>rw [eu] at hx;cases hx
   | some u=>
   rw [eu] at hx
   have ey:V.ref u=x:=zGE hx
   subst ey
   obtain ⟨r',er',hu⟩:=x4 hrp j u eu
   rw [zGD] at er'
   cases ea:(y1 s)[j]? with
   | none=>rw [ea] at er';cases er'
   | some a=>
   rw [ea] at er'
   have e':zDS a=r':=zGE er'
   subst e'
   have ua:u ≠ acc:=xO hu h3 (by intro z;cases z)
   have hu4:=k4 _ _ (by simp [ua]) hu
   refine ⟨u,_,rfl,.of hu4,rfl,_,_,rfl,_,_,rfl,rfl,?_⟩
   refine ⟨_,rfl,_,rfl,_,rfl,by show 3 <= sizeLine;decide,fun t ht=>?_⟩
   have k5:zC [] H4 (upd H4 t (.tup [.str a.1,.int (i:Int),.bl a.2])):=zC.new ht
   have e5:upd H4 t (.tup [.str a.1,.int (i:Int),.bl a.2]) t=some (.tup [.str a.1,.int (i:Int),.bl a.2]):=zB
   have h5:=k5 _ _ (by simp) h4
   have ta:t ≠ acc:=Ne.symm (zH h4 ht)
   refine ⟨h5,_,_,qs' ++ [t],rfl,by simp,?_,(k4.trans (k5.mono (by simp))).trans (zC.at (by simp)),zB⟩
   have k6:zC [acc] (upd H4 t (.tup [.str a.1,.int (i:Int),.bl a.2])) (upd (upd H4 t (.tup [.str a.1,.int (i:Int),.bl a.2])) acc (.lst ((qs ++ qs').map V.ref ++ [.ref t]))):=zC.at (by simp)
   have nt:∀ b ∈ [acc],∀ xs,upd H4 t (.tup [.str a.1,.int (i:Int),.bl a.2]) b ≠ some (.tup xs):=fun b hb xs z=>by rw [zGA.mp hb,h5] at z;cases z
   have er:((y1 s).take (j + 1)).map (fun a=>[V.str a.1,V.int (i:Int),V.bl a.2])=((y1 s).take j).map (fun a=>[V.str a.1,V.int (i:Int),V.bl a.2]) ++ [[V.str a.1,.int (i:Int),.bl a.2]]:=by rw [wH ea,zGJ];rfl
   rw [er,<- zG2 qs,<- zG2 (List.map nmV _)]
   exact xS (zK k6 nt (zK k5 (fun b hb=>by cases hb) hpq)) (k6 _ _ (by simp [ta]) e5)
  ·rintro ys τ H4 ⟨w2,w3,qs',rfl,rfl,hpq,k4,h4⟩
   refine ⟨_,_,_,_,qs ++ qs',rfl,rfl,?_,k1.trans ((k23.mono (by simp)).trans k4),h4⟩
   rw [et]
   rw [zF7,lrs,zG7] at hpq
   exact hpq
 ·rintro ys τ H1 ⟨v0,v1,v2,v3,qs,rfl,rfl,hqs,k1,h1⟩
  have k01:=k1.drop hacc
  rw [zF7,hxs,zG7] at hqs
  refine ⟨acc,qs,wC 0 ss,rfl,h1,hqs,by rw [y2];exact nd,by rw [<- zF7 (f:=(·.1)),y2];exact l64,fun l qs' rs' hl pm asc pr=>?_⟩
  exact q l rs' _ pm asc ⟨qs',zB,zK (zC.new (S:=[]) hl) (fun b hb=>by cases hb) pr⟩ (k01.none (by simp) hl) (k01.trans (zC.new hl))
def zB0 (C CS:Addr):Sp:=fun vs H Q _=>∃ (B:Addr->Prop) (p:Addr) (nm:Str) (nb:List Str) (xs:List (Addr × Addr)) (ss:List SS),vs=[.ref p]/\z6 B C CS H p nm nb xs ss/\(yK ss).Nodup/\(yK ss).length < 64 /\
 ∀ (a:Addr) (kvs:List (Key × V)) (H':Hp),H' a=some (.dK kvs)->(∀ z,z ∉ yK ss->vO kvs (.inr z)=none)->(∀ (z:Str) (i:Nat) (s:SS),ss[i]?=some s->z ∈ xU s->vO kvs (.inr z)=some (.int (i:Int)))->zC [] H H'->Q (.ref a) H'
theorem okRW (T:x9 K C) (G:y3 K C "rights_wanted" "House.rights_wanted" sRW ["self"]) (MHAs:yV P w K mg base CX0 2 C "askers" ["self"] (fT C CS)):yV P w K mg base CX0 3 C "rights_wanted" ["self"] (zB0 C CS):=by
 refine G.ok scRW (fun vs H Q E h=>by obtain ⟨B,p,nm,nb,xs,ss,rfl,_⟩:=h;rfl) (fun f cdv A outer s0 H vs Q E hr h=>?_)
 obtain ⟨B,p,nm,nb,xs,ss,rfl,hh,nd,l64,q⟩:=h
 have hr2:z7 2 _:=hr
 obtain ⟨dx,nl,sl,_,hp,_⟩:=id hh
 refine ⟨_,(zF (zO (zCO (N:=["self"]) (sc:=zG sRW) (ix:=[]) (by decide +kernel) (xE (xJ MHAs T.cl hr2 (pv 0))) (fun _ _ _ _=>xD) (fun _ _ _ _=>(pv 0)) (fun _ _ _ _=>(pv 1))))),?_⟩
 refine ⟨_,rfl,p,dx,_,rfl,hp,cC _ _ _,B,p,nm,nb,xs,ss,rfl,hh,nd,l64,fun l rs H1 pm asc R hl k1=>⟨l,rfl,?_⟩⟩
 obtain ⟨qs,hqs,hqp⟩:=id R
 have lq:=zP hqp
 rw [zF7] at lq
 refine ⟨⟨_,.of hqs⟩,fun acc hacc=>?_⟩
 have la:l ≠ acc:=zH hqs hacc
 have ndr:(rs.map (·.1)).Nodup:=(pm.map (·.1)).nodup_iff.mpr (by rw [y2];exact nd)
 have lr:rs.length < 64:=by rw [pm.length_eq,<- zF7 (f:=(·.1)),y2];exact l64
 refine cU (K:=K) (a:=l) (its:=qs.map V.ref) (by rw [zF7,sizeLine_eq];omega) (fun i ys τ H2=>∃ (v0 v1 v2:Option V),τ=[v0,v1,v2]/\ys=kvR (rs.take i)/\zC [acc] H1 H2/\H2 acc=some (.dK ys)) ?_ ?_ ?_ ?_
 ·exact ⟨_,_,_,rfl,rfl,zC.at (by simp),zB⟩
 ·rintro i ys τ H2 ⟨v0,v1,v2,rfl,rfl,k2,h2⟩
  exact ⟨h2,by unfold kvR;rw [zF7,zGQ];omega,.of (k2 _ _ (by simp [la]) hqs)⟩
 ·rintro i ys τ H2 x hx ⟨v0,v1,v2,rfl,rfl,k2,h2⟩
  rw [zGD] at hx
  cases eu:qs[i]? with
  | none=>rw [eu] at hx;cases hx
  | some u=>
  rw [eu] at hx
  have ey:V.ref u=x:=zGE hx
  subst ey
  obtain ⟨r',er',hu⟩:=x4 hqp i u eu
  rw [zGD] at er'
  cases er:rs[i]? with
  | none=>rw [er] at er';cases er'
  | some r=>
  rw [er] at er'
  have e':nmV r=r':=zGE er'
  subst e'
  obtain ⟨k,s,b,_,_,e2⟩:=wY.mp (pm.mem_iff.mp (zGB er))
  obtain ⟨z,r2⟩:=r
  have e2:r2=[V.int ((0 + k:Nat):Int),V.bl b]:=e2
  subst e2
  have ua:u ≠ acc:=zH hu hacc
  have hu2:=k2 _ _ (by simp [ua]) hu
  refine ⟨u,_,rfl,.of hu2,rfl,_,_,rfl,_,_,rfl,_,_,rfl,rfl,?_⟩
  refine ⟨_,rfl,_,rfl,.inr z,rfl,h2,_,_,_,rfl,?_,k2.trans (zC.at (by simp)),zB⟩
  have nz:z ∉ (rs.take i).map (·.1):=by
   have sb:((rs.take (i + 1)).map (·.1)).Nodup:=ndr.sublist ((List.take_sublist _ _).map _)
   rw [wH er,zGJ] at sb
   intro hm
   exact absurd rfl ((List.nodup_append.mp sb).2.2 z hm z (by simp))
  rw [eQ _ (qQ nz),wH er]
  unfold kvR
  rw [zGJ];rfl
 ·rintro ys τ H2 ⟨v0,v1,v2,rfl,rfl,k2,h2⟩
  rw [zF7,lq,zG7] at h2
  refine q acc (kvR rs) H2 h2 (fun z hz=>qQ fun hm=>hz ?_) (fun z i s es hz=>?_) (k1.trans (k2.drop hacc))
  ·have:=(pm.map (·.1)).mem_iff.mp hm
   rwa [y2] at this
  ·obtain ⟨a,ha,rfl⟩:=List.mem_map.mp hz
   have m:(a.1,[V.int ((0 + i:Nat):Int),V.bl a.2]) ∈ rs:=pm.mem_iff.mpr (wY.mpr ⟨i,s,a.2,es,ha,rfl⟩)
   rw [lB ndr m,Nat.zero_add];rfl
def zB1 (C CS:Addr):Sp:=fun vs H Q _=>∃ (B:Addr->Prop) (p:Addr) (nm:Str) (nb:List Str) (xs:List (Addr × Addr)) (ss:List SS) (z:Str) (i:Nat) (s:SS),vs=[.ref p,.str z]/\z6 B C CS H p nm nb xs ss/\(yK ss).Nodup/\(yK ss).length < 64/\ss[i]?=some s/\z ∈ xU s/\xG z /\
 ∀ H',zC [] H H'->Q (.int (i:Int)) H'
theorem okRO (T:x9 K C) (G:y3 K C "right_of" "House.right_of" sRO ["self","asker"]) (CC:Cal P w K mg base CX0 2 "check_asker" ["asker"] tT) (MRW:yV P w K mg base CX0 3 C "rights_wanted" ["self"] (zB0 C CS)):yV P w K mg base CX0 4 C "right_of" ["self","asker"] (zB1 C CS):=by
 refine G.ok zEQ (fun vs H Q E h=>by obtain ⟨B,p,nm,nb,xs,ss,z,i,s,rfl,_⟩:=h;rfl) (fun f cdv A outer s0 H vs Q E hr h=>?_)
 obtain ⟨B,p,nm,nb,xs,ss,z,i,s,rfl,hh,nd,l64,es,hz,gz,q⟩:=h
 have hr3:z7 3 _:=hr
 have hr2:z7 2 _:=hr.mono (by decide)
 have hu:=uC hr
 refine ⟨_,(zE (yG (zU CC hr2 (zA (pv 1) zD)))
   (zE (yI (i:=2) zEQ.nd rfl (Or.inl rfl) (xJ MRW T.cl hr3 (pv 0)))
   (zE (z4 (eR (hE hu (pv 1) (pv 2))) (zF y0) zQ)
   (zF (zO (yQ hu (pv 2) (pv 1) (fun _ _=>rfl))))))),?_⟩
 refine ⟨_,rfl,z,rfl,gz.1,zGI gz.2 (by decide),fun H1 k1=>?_⟩
 have hh1:=hh.on k1
 obtain ⟨dx,nl,sl,_,hp,_⟩:=id hh1
 refine ⟨_,rfl,p,dx,_,rfl,hp,cA _ _ _,B,p,nm,nb,xs,ss,rfl,hh1,nd,l64,fun a kvs H2 ha _ hv k2=>?_⟩
 have e:=hv z i s es hz
 have dg:uE H2 a (.str z) (some (.int (i:Int))):=e ▸ uE.k (k:=Sum.inr z) ha
 refine ⟨_,rfl,_,rfl,a,_,rfl,dg,_,rfl,ifF rfl ?_⟩
 exact ⟨_,rfl,_,rfl,a,_,rfl,dg,q H2 (k1.trans k2)⟩
theorem dG (o:Option Str):(!decide (yC o=V.non))=decide (o ≠ none):=by cases o <;> simp [yC]
def zEJ (C CS:Addr):Sp:=fun vs H Q _=>∃ (B:Addr->Prop) (p:Addr) (nm:Str) (nb:List Str) (xs:List (Addr × Addr)) (ss:List SS),vs=[.ref p]/\z6 B C CS H p nm nb xs ss/\ss ≠ []/\ss.length <= 100/\∀ H',zC [] H H'->Q (.int (rK ss:Int)) H'
theorem okBR (T:x9 K C) (TS:x8 K CS) (G:y3 K C "best_right" "House.best_right" sBR ["self"]) (MCr:yV P w K mg base CX0 1 CS "crowd" ["self"] (zEH CS)) (MA:yV P w K mg base CX0 1 CS "arrow" ["self"] (jU CS)) (b_min:Blt mg "min") (b_enumerate:Blt mg "enumerate"):yV P w K mg base CX0 2 C "best_right" ["self"] (zEJ C CS):=by
 refine G.ok scBR (fun vs H Q E h=>by obtain ⟨B,p,nm,nb,xs,ss,rfl,_⟩:=h;rfl) (fun f cdv A outer s0 H vs Q E hr h=>?_)
 obtain ⟨B,p,nm,nb,xs,ss,rfl,⟨dx,nl,sl,_,hp,hnl,hsl,hxs,hse⟩,ne,l100,q⟩:=h
 have hr1:z7 1 _:=hr
 have hu:=uC hr
 refine ⟨_,(zF (zO (zV zY (z9 (g9 rfl (u8 hu)) b_min zDO (zA (zCN (N:=["self"]) (sc:=zG sBR) (ix:=[]) (by decide +kernel) (mP rfl b_enumerate.no (yF (pv 0) rfl)) (fun _ _ _ _=>xD) (fun _ _ _ _=>(z8 (zA (xJ MCr TS.cl hr1 (pv 1)) (zA (wA u5 (xJ MA TS.cl hr1 (pv 1)) yZ (zX _)) (zA (pv 0) zD)))))) zD)) zJ (fun _ _=>rfl)))),?_⟩
 refine ⟨_,rfl,p,C,dx,_,_,rfl,hp,T.cl,T.nS,vS _ _ _,sl,rfl,⟨_,.of hsl⟩,fun acc hacc=>?_⟩
 have sa:sl ≠ acc:=zH hsl hacc
 refine dU (K:=K) (a:=sl) (k:=0) (its:=xs.map fun x=>V.ref x.1) (by rw [zF7,hxs,sizeLine_eq];omega) (fun i ys τ H1=>∃ (v0 v1:Option V) (qs:List Addr),τ=[v0,v1]/\ys=qs.map V.ref/\i <= ss.length/\Paired (fun q r=>H1 q=some (.tup r)) qs (xT 0 (ss.take i))/\zC [acc] H H1/\H1 acc=some (.lst ys)) ⟨_,_,[],rfl,rfl,zGH _,.nil,zC.at (by simp),zB⟩ ?_ ?_ ?_
 ·rintro i ys τ H1 ⟨v0,v1,qs,rfl,rfl,il,hqs,k,h1⟩
  refine ⟨h1,?_,.of (k _ _ (by simp [sa]) hsl)⟩
  have:=zP hqs
  rw [vI,zGQ] at this
  rw [zF7];omega
 ·rintro i ys τ H1 x TT hx ⟨v0,v1,qs,rfl,rfl,_,hqs,k1,h1⟩ hTT
  rw [zGD] at hx
  cases ex:xs[i]? with
  | none=>rw [ex] at hx;cases hx
  | some y=>
  rw [ex] at hx
  have ey:V.ref y.1=x:=zGE hx
  subst ey
  have il:i < ss.length:=by rw [<- hxs];exact (zF9.mp ex).1
  have es:ss[i]?=some ss[i]:=zF8 il
  generalize ss[i]=s at es
  have S:=hse i y _ ex es
  rw [show (0:Int) + (i:Int)=(i:Int) from Int.zero_add _]
  have k2:zC [] H1 (upd H1 TT (.tup [.int (i:Int),.ref y.1])):=zC.new hTT
  have e2:upd H1 TT (.tup [.int (i:Int),.ref y.1]) TT=some (.tup [.int (i:Int),.ref y.1]):=zB
  generalize upd H1 TT (.tup [.int (i:Int),.ref y.1])=H2 at k2 e2
  have S2:=(S.keep (k1.drop hacc)).keep k2
  obtain ⟨dy,hob⟩:=S2.ob
  refine ⟨TT,_,rfl,.of e2,rfl,_,_,rfl,_,_,rfl,rfl,?_⟩
  refine ⟨_,rfl,y.1,dy,_,rfl,hob,zFV _ _ _ _,y.1,y.2,_,rfl,S2,?_⟩
  refine ⟨_,rfl,y.1,dy,_,rfl,hob,zFX _ _ _ _,y.1,y.2,_,rfl,S2,rfl,?_⟩
  refine ⟨_,rfl,by show 3 <= sizeLine;decide,fun t ht=>?_⟩
  rw [dG]
  have k5:zC [] H2 (upd H2 t (.tup (vY s i))):=zC.new ht
  have e5:upd H2 t (.tup (vY s i)) t=some (.tup (vY s i)):=zB
  have h2:=k2 _ _ (by simp) h1
  have h5:=k5 _ _ (by simp) h2
  have ta:t ≠ acc:=Ne.symm (zH h2 ht)
  refine ⟨h5,_,_,qs ++ [t],rfl,by simp,il,?_,((k1.trans (k2.mono (by simp))).trans (k5.mono (by simp))).trans (zC.at (by simp)),zB⟩
  have k6:zC [acc] (upd H2 t (.tup (vY s i))) (upd (upd H2 t (.tup (vY s i))) acc (.lst (qs.map V.ref ++ [.ref t]))):=zC.at (by simp)
  have nt:∀ b ∈ [acc],∀ xs,upd H2 t (.tup (vY s i)) b ≠ some (.tup xs):=fun b hb xs z=>by rw [zGA.mp hb,h5] at z;cases z
  rw [wH es,qE,zGQ,Nat.zero_add,show min i ss.length=i by omega]
  exact xS (zK k6 nt (zK (k2.trans k5) (fun b hb=>by cases hb) hqs)) (k6 _ _ (by simp [ta]) e5)
 ·rintro ys τ H1 ⟨v0,v1,qs,rfl,rfl,_,hqs,k1,h1⟩
  rw [zF7,hxs,zG7] at hqs
  have lq:=zP hqs
  rw [vI] at lq
  have pos:0 < ss.length:=zGX.mpr ne
  refine ⟨acc,qs,xT 0 ss,rfl,h1,hqs,fun r hr r' hr'=>?_,by omega,fun u eu=>?_⟩
  ·obtain ⟨a,b,c,rfl⟩:=qF r hr
   obtain ⟨a',b',c',rfl⟩:=qF r' hr'
   exact .int (.bl (.int .nil))
  ·obtain ⟨r,er,hu⟩:=x4 hqs _ u eu
   have lb:=lN ne
   have eb:=uG (i:=0) (zF8 lb)
   have er':(xT 0 ss)[rK ss]?=some r:=er
   rw [eb] at er'
   have e':=zGE er'
   subst e'
   refine ⟨u,_,2,_,rfl,rfl,hu,at2 _ _ _ _,?_⟩
   rw [Nat.zero_add]
   exact q H1 (k1.drop hacc)
def zB5 (C CS:Addr):Sp:=fun vs H Q _=>∃ (B:Addr->Prop) (p:Addr) (nm:Str) (nb:List Str) (xs:List (Addr × Addr)) (ss:List SS) (z:Str) (i:Nat),vs=[.ref p,.str z,.int (i:Int)]/\z6 B C CS H p nm nb xs ss/\z ∈ nb/\xG z/\i < ss.length/\∀ H',zC [] H H'->Q .non H'
theorem okCL (T:x9 K C) (G:y3 K C "check_letter" "House.check_letter" sCL ["self","house","right"]) (CO:Cal P w K mg base CX0 2 "is_one_of" ["thing","houses"] (lV K)) (CK:Cal P w K mg base CX0 2 "check_right" ["right","many"] fW) (b_len:Blt mg "len"):yV P w K mg base CX0 3 C "check_letter" ["self","house","right"] (zB5 C CS):=by
 refine G.ok scCL (fun vs H Q E h=>by obtain ⟨B,p,nm,nb,xs,ss,z,i,rfl,_⟩:=h;rfl) (fun f cdv A outer s0 H vs Q E hr h=>?_)
 obtain ⟨B,p,nm,nb,xs,ss,z,i,rfl,hh,hz,gz,il,q⟩:=h
 have hr2:z7 2 _:=hr
 obtain ⟨dx,nl,sl,_,hp,hnl,hsl,hxs,_⟩:=id hh
 refine ⟨_,(zE (z4 (wD (xY (zU CO hr2 (zA (pv 1) (zA (yF (pv 0) rfl) zD))))) (zF y0) zQ)
   (zF (yG (zU CK hr2 (zA (pv 2) (zA (z9 yT b_len xI (zA (yF (pv 0) rfl) zD)) zD)))))),?_⟩
 refine ⟨_,rfl,_,rfl,p,C,dx,_,_,rfl,hp,T.cl,T.nB,zFO _ _ _,.str z,"str",nl,nb,rfl,.str z,(fun y e=>by cases e;exact zGI gz.2 (by decide)),hnl,fun H1 k1=>⟨_,rfl,ifF ?_ ?_⟩⟩
 ·have e2:inV (.str z) (nb.map V.str)=true:=by
   unfold inV
   rw [List.any_map,List.any_eq_true]
   exact ⟨z,hz,by show (z == z)=true;simp⟩
  unfold mX
  rw [e2,show x6 (.str z)=true from gz.1];rfl
 ·have hp1:=k1 _ _ (by simp) hp
  have hsl1:=k1 _ _ (by simp) hsl
  exact ⟨_,rfl,_,rfl,p,C,dx,_,_,rfl,hp1,T.cl,T.nS,vS _ _ _,_,_,rfl,.inl ⟨_,.of hsl1,rfl⟩,_,_,rfl,by omega,by rw [zF7];omega,q H1 k1⟩
end
abbrev sHW:Stmt:=yN (top 25) 1
abbrev sHL:Stmt:=yN (top 25) 2
abbrev sHD:Stmt:=yN (top 25) 3
abbrev sHK:Stmt:=yN (top 25) 4
abbrev sHC:Stmt:=yN (top 25) 5
theorem zBA {xs:List (Addr × Addr)} (h:xs.Pairwise fun a b=>a.1 ≠ b.1/\a.2 ≠ b.2) {i j:Nat} {x y:Addr × Addr} (hi:xs[i]?=some x) (hj:xs[j]?=some y) (n:i ≠ j):x.1 ≠ y.1/\x.2 ≠ y.2:=by
 obtain ⟨li,ei⟩:=zF9.mp hi
 obtain ⟨lj,ej⟩:=zF9.mp hj
 rcases Nat.lt_or_gt_of_ne n with l | l
 ·have:=List.pairwise_iff_getElem.mp h i j li lj l
  rw [ei,ej] at this
  exact this
 ·have:=List.pairwise_iff_getElem.mp h j i lj li l
  rw [ei,ej] at this
  exact ⟨Ne.symm this.1,Ne.symm this.2⟩
theorem z6.seat {B:Addr->Prop} {C CS:Addr} {H H':Hp} {p:Addr} {nm:Str} {nb:List Str} {xs:List (Addr × Addr)} {ss:List SS} {i:Nat} {x:Addr × Addr} {s':SS} (h:z6 B C CS H p nm nb xs ss) (ex:xs[i]?=some x) (k:zC [x.1,x.2] H H') (S:zZ CS H' x.1 x.2 s'):z6 B C CS H' p nm nb xs (ss.set i s'):=by
 obtain ⟨dx,nl,sl,⟨b1,b2,b3,b4⟩,h1,h2,h3,h4,h5⟩:=h
 have il:i < ss.length:=by rw [<- h4];exact (zF9.mp ex).1
 obtain ⟨⟨dy,hob⟩,⟨ps,hwl,_⟩,_⟩:=h5 i x _ ex (zF8 il)
 have mx:=zGB ex
 have px:p ≠ x.1:=fun e=>by
  rw [e,hob] at h1
  injection h1 with h1
  injection h1 with _ _ e
  unfold y6 hfl at e
  injection e with e _
  injection e with e _
  exact absurd e (by decide +kernel)
 have pw:p ≠ x.2:=xO h1 hwl (by intro z;cases z)
 have n1:nl ≠ x.1:=xO h2 hob (by intro z;cases z)
 have n2:nl ≠ x.2:=Ne.symm (b4.1 x mx).1
 have s1:sl ≠ x.1:=xO h3 hob (by intro z;cases z)
 have s2:sl ≠ x.2:=Ne.symm (b4.1 x mx).2
 refine ⟨dx,nl,sl,⟨b1,b2,b3,b4⟩,k _ _ (by simp [px,pw]) h1,k _ _ (by simp [n1,n2]) h2,k _ _ (by simp [s1,s2]) h3,by rw [zG8];exact h4,fun j y t ey et=>?_⟩
 by_cases e:j=i
 ·subst e
  rw [ey] at ex
  cases ex
  rw [zG4 il] at et
  cases et
  exact S
 ·rw [zG3 (Ne.symm e)] at et
  have sj:=h5 j y t ey et
  obtain ⟨m1,m2⟩:=zBA b4.2 ey ex e
  obtain ⟨⟨dz,oz⟩,⟨_,wz,_⟩,_⟩:=id sj
  exact sj.keepS k (by simp [m1,xO oz hwl (by intro z;cases z)]) (by simp [m2,xO wz hob (by intro z;cases z)]) (vK hob hwl)
theorem qL (s:SS):(∀ l ∈ (zS s).2,l ≠ []/\l.length <= 10)/\(zS s).2.length <= 100:=by
 unfold zS
 split
 ·exact ⟨fun l hl=>(by cases hl),zGH _⟩
 ·rename_i hne
  split
  ·split
   ·unfold xH
    split
    ·rename_i er;rw [er] at hne;exact absurd rfl hne
    ·split
     ·exact ⟨fun l hl=>by rw [zGA.mp hl];exact ⟨by simp,by show 2 <= 10;decide⟩,by show 1 <= 100;decide⟩
     ·exact ⟨fun l hl=>by rw [zGA.mp hl];exact ⟨by simp,by show 3 <= 10;decide⟩,by show 1 <= 100;decide⟩
   ·exact ⟨fun l hl=>(by cases hl),zGH _⟩
  ·split
   ·exact ⟨fun l hl=>(by cases hl),zGH _⟩
   ·exact ⟨fun l hl=>by rw [zGA.mp hl];exact ⟨by simp,by show 2 <= 10;decide⟩,by show 1 <= 100;decide⟩
def sG (B:Addr->Prop) (C CS:Addr) (H:Hp) (p:Addr) (nm:Str) (nb:List Str) (xs:List (Addr × Addr)) (ss:List SS) (i:Nat) (s:SS) (d:DD) (Q:VK):Prop:=∀ (r:Addr) (x:Addr × Addr) (H':Hp),xs[i]?=some x->z6 B C CS H' p nm nb xs (ss.set i (zS (zW s d)).1)->Rows H' r ((zS (zW s d)).2.map (mY i))->H r=none->zC [x.1,x.2] H H'->Q (.ref r) H'
theorem sG.num {B:Addr->Prop} {C CS:Addr} {H H1 H2:Hp} {p:Addr} {nm:Str} {nb:List Str} {xs:List (Addr × Addr)} {ss:List SS} {i:Nat} {s:SS} {d:DD} {Q:VK} {E:XK} {x:Addr × Addr} {r:Addr} (hh:z6 B C CS H p nm nb xs ss) (ex:xs[i]?=some x) (q:sG B C CS H p nm nb xs ss i s d Q) (k01:zC [] H H1) (S:zZ CS H2 x.1 x.2 (zS (zW s d)).1) (R:Rows H2 r (zS (zW s d)).2) (nr:H1 r=none) (k2:zC [x.1,x.2] H1 H2):lW [.int (i:Int),.ref r] H2 Q E:=by
 obtain ⟨l1,l2⟩:=qL (zW s d)
 refine ⟨i,r,_,rfl,R,l1,l2,fun r' H3 R3 n3 k3=>q r' x H3 ex (((hh.on k01).seat ex k2 S).on k3) R3 ?_ (((k01.mono (by simp)).trans k2).trans (k3.mono (by simp)))⟩
 obtain ⟨⟨dy,hob⟩,⟨ps,hwl,_⟩,_⟩:=id S
 refine k01.none (by simp) (k2.none ?_ n3)
 simp only [List.mem_cons,zG1,or_false]
 rintro (e | e)
 ·rw [e,hob] at n3;cases n3
 ·rw [e,hwl] at n3;cases n3
section
variable {P:Program} {w:World} {K:PySem.W.Frag} {mg:Str->Option Value} {base:Heap} {C CS:Addr}
theorem zER:zN ["self","asker","right","number"] ["self","asker","right"] (zG sHW):=⟨rfl,rfl,rfl,by decide +kernel,rfl,by decide +kernel,by decide +kernel⟩
theorem zET:zN ["self","asker","right"] ["self","asker"] (zG sHL):=⟨rfl,rfl,rfl,by decide +kernel,rfl,by decide +kernel,by decide +kernel⟩
theorem zEV:zN ["self","asker","right"] ["self","asker"] (zG sHD):=⟨rfl,rfl,rfl,by decide +kernel,rfl,by decide +kernel,by decide +kernel⟩
theorem scHK:zN ["self","house","right"] ["self","house","right"] (zG sHK):=⟨rfl,rfl,rfl,by decide +kernel,rfl,by decide +kernel,by decide +kernel⟩
theorem scHC:zN ["self","house","right","back"] ["self","house","right","back"] (zG sHC):=⟨rfl,rfl,rfl,by decide +kernel,rfl,by decide +kernel,by decide +kernel⟩
def zEB (C CS:Addr):Sp:=fun vs H Q _=>∃ (B:Addr->Prop) (p:Addr) (nm:Str) (nb:List Str) (xs:List (Addr × Addr)) (ss:List SS) (k:Nat) (z:Str) (r:Option Nat) (i:Nat) (s:SS),vs=[.ref p,.str z,rV r]/\z6 B C CS H p nm nb xs ss/\vX k ss/\k <= 60/\ss.length <= 100/\AtR nb ss (.want z r) i s (.want z)/\sG B C CS H p nm nb xs ss i s (.want z) Q
theorem okHW (T:x9 K C) (TS:x8 K CS) (G:y3 K C "want" "House.want" sHW ["self","asker","right"]) (CC:Cal P w K mg base CX0 2 "check_asker" ["asker"] tT) (CK:Cal P w K mg base CX0 2 "check_right" ["right","many"] fW) (MRW:yV P w K mg base CX0 3 C "rights_wanted" ["self"] (zB0 C CS)) (MBR:yV P w K mg base CX0 2 C "best_right" ["self"] (zEJ C CS)) (MW:yV P w K mg base CX0 3 CS "want" ["self","asker"] (fR CS)) (CNu:Cal P w K mg base CX0 1 "numbered" ["right","told"] lW) (b_len:Blt mg "len"):yV P w K mg base CX0 4 C "want" ["self","asker","right"] (zEB C CS):=by
 refine G.ok zER (fun vs H Q E h=>by obtain ⟨B,p,nm,nb,xs,ss,k,z,r,i,s,rfl,_⟩:=h;rfl) (fun f cdv A outer s0 H vs Q E hr h=>?_)
 obtain ⟨B,p,nm,nb,xs,ss,k,z,r,i,s,rfl,hh,I,hk,l100,a,q⟩:=h
 have hr3:z7 3 _:=hr
 have hr2:z7 2 _:=hr.mono (by decide)
 have hr1:z7 1 _:=hr.mono (by decide)
 have hu:=uC hr
 have es:=a.here
 have il:i < ss.length:=(zF9.mp es).1
 obtain ⟨dx,nl,sl,_,hp,hnl,hsl,hxs,hse⟩:=id hh
 have ex:xs[i]?=some xs[i]:=zF8 (by omega)
 generalize xs[i]=x at ex
 have si:=I.si s (zGB es)
 have lr:s.row.length < 1000:=by have:=I.rl s (zGB es);omega
 have ne:ss ≠ []:=fun e=>by rw [e] at il;simp at il
 have ok:=a.ok
 obtain ⟨ok1,ok2,gz⟩:=ok
 have l64:(yK ss).length < 64:=by have:=I.ln;omega
 refine ⟨_,(zE (yG (zU CC hr2 (zA (pv 1) zD)))
   (zE (z4 (zT u5 (pv 2) yZ (zX _)) (zF (yG (zU CK hr2 (zA (pv 2) (zA (z9 yT b_len xI (zA (yF (pv 0) rfl) zD)) zD))))) zQ)
   (zE (z4 (eR (zCP hu (pv 1) (xJ MRW T.cl hr3 (pv 0)))) (zF y0) zQ)
   (zE (yI (i:=3) zER.nd rfl (Or.inl rfl) (tX (zT vJ (pv 2) yZ (zX _)) (xJ MBR T.cl hr2 (pv 0)) (pv 2)))
   (zF (zO (zU CNu hr1 (zA (pv 3) (zA (x3 MW TS.cl hr3 (zV yA (yF (pv 0) rfl) (pv 3) (fun _ _=>rfl)) (zA (pv 1) zD)) zD))))))))),?_⟩
 refine ⟨_,rfl,z,rfl,gz.1,zGI gz.2 (by decide),fun H1 k1=>?_⟩
 have hp1:=k1 _ _ (by simp) hp
 have hsl1:=k1 _ _ (by simp) hsl
 cases a with
 | any _ eb _ nz=>
  refine ⟨_,rfl,rfl,_,rfl,ifF rfl ?_⟩
  refine ⟨_,rfl,_,rfl,p,dx,_,rfl,hp1,cA _ _ _,B,p,nm,nb,xs,ss,rfl,hh.on k1,I.nd,l64,fun a kvs H2 ha hv0 _ k2=>⟨a,_,rfl,uE.k (k:=Sum.inr z) ha,_,rfl,ifF (by rw [hv0 z nz];rfl) ?_⟩⟩
  have k02:=k1.trans k2
  refine ⟨_,rfl,rfl,_,rfl,ifT rfl ⟨_,rfl,p,dx,_,rfl,k02 _ _ (by simp) hp,zFM _ _ _,B,p,nm,nb,xs,ss,rfl,hh.on k02,ne,l100,fun H3 k3=>?_⟩⟩
  have k03:=k02.trans k3
  rw [<- eb]
  have S:=(hse i x s ex es).keep k03
  obtain ⟨dy,hob⟩:=S.ob
  refine ⟨_,rfl,_,rfl,p,C,dx,_,_,rfl,k03 _ _ (by simp) hp,T.cl,T.nS,vS _ _ _,_,rfl,sl,_,i,_,rfl,rfl,k03 _ _ (by simp) hsl,wK ex,x.1,dy,_,rfl,hob,zBN _ _ _ _,_,rfl,x.1,x.2,s,z,rfl,S,gz.1,zGI gz.2 (by decide),ok1,ok2,lr,?_⟩
  exact fun r H' S' R' n' k'=>sG.num (E:=E) hh ex q k03 S' R' n' k'
 | want _ _ nz=>
  refine ⟨_,rfl,rfl,_,rfl,ifT rfl ⟨_,rfl,_,rfl,p,C,dx,_,_,rfl,hp1,T.cl,T.nS,vS _ _ _,_,_,rfl,.inl ⟨_,.of hsl1,rfl⟩,_,_,rfl,by omega,by rw [zF7];omega,?_⟩⟩
  refine ⟨_,rfl,_,rfl,p,dx,_,rfl,hp1,cA _ _ _,B,p,nm,nb,xs,ss,rfl,hh.on k1,I.nd,l64,fun a kvs H2 ha hv0 _ k2=>⟨a,_,rfl,uE.k (k:=Sum.inr z) ha,_,rfl,ifF (by rw [hv0 z nz];rfl) ?_⟩⟩
  have k02:=k1.trans k2
  refine ⟨_,rfl,rfl,_,rfl,ifF rfl ⟨_,rfl,?_⟩⟩
  have S:=(hse i x s ex es).keep k02
  obtain ⟨dy,hob⟩:=S.ob
  refine ⟨_,rfl,_,rfl,p,C,dx,_,_,rfl,k02 _ _ (by simp) hp,T.cl,T.nS,vS _ _ _,_,rfl,sl,_,i,_,rfl,rfl,k02 _ _ (by simp) hsl,wK ex,x.1,dy,_,rfl,hob,zBN _ _ _ _,_,rfl,x.1,x.2,s,z,rfl,S,gz.1,zGI gz.2 (by decide),ok1,ok2,lr,?_⟩
  exact fun r H' S' R' n' k'=>sG.num (E:=E) hh ex q k02 S' R' n' k'
def zB3 (C CS:Addr):Sp:=fun vs H Q _=>∃ (B:Addr->Prop) (p:Addr) (nm:Str) (nb:List Str) (xs:List (Addr × Addr)) (ss:List SS) (k:Nat) (z:Str) (i:Nat) (s:SS),vs=[.ref p,.str z]/\z6 B C CS H p nm nb xs ss/\vX k ss/\k <= 60/\ss.length <= 100/\AtR nb ss (.leave z) i s (.leave z)/\sG B C CS H p nm nb xs ss i s (.leave z) Q
theorem okHL (T:x9 K C) (TS:x8 K CS) (G:y3 K C "leave" "House.leave" sHL ["self","asker"]) (MRO:yV P w K mg base CX0 4 C "right_of" ["self","asker"] (zB1 C CS)) (ML:yV P w K mg base CX0 3 CS "leave" ["self","asker"] (jS CS)) (CNu:Cal P w K mg base CX0 1 "numbered" ["right","told"] lW):yV P w K mg base CX0 5 C "leave" ["self","asker"] (zB3 C CS):=by
 refine G.ok zET (fun vs H Q E h=>by obtain ⟨B,p,nm,nb,xs,ss,k,z,i,s,rfl,_⟩:=h;rfl) (fun f cdv A outer s0 H vs Q E hr h=>?_)
 obtain ⟨B,p,nm,nb,xs,ss,k,z,i,s,rfl,hh,I,hk,l100,a,q⟩:=h
 have hr4:z7 4 _:=hr
 have hr3:z7 3 _:=hr.mono (by decide)
 have hr1:z7 1 _:=hr.mono (by decide)
 have es:=a.here
 have il:i < ss.length:=(zF9.mp es).1
 obtain ⟨dx,nl,sl,_,hp,hnl,hsl,hxs,hse⟩:=id hh
 have ex:xs[i]?=some xs[i]:=zF8 (by omega)
 generalize xs[i]=x at ex
 have si:=I.si s (zGB es)
 have lr:s.row.length < 1000:=by have:=I.rl s (zGB es);omega
 have ne:ss ≠ []:=fun e=>by rw [e] at il;simp at il
 have ok:yH z ∈ s.row:=a.ok
 have gz:xG z:=(si.r _ ok).2
 have l64:(yK ss).length < 64:=by have:=I.ln;omega
 obtain ⟨j,hj,hno⟩:=tO s.row (yH z) ok
 have ef:zW s (.leave z) = { s with row:=s.row.eraseIdx j }:=by
  show { s with row:=s.row.filter fun x=>decide (x ≠ yH z) }=_
  rw [uO s.row (yH z) j hj hno (si.u z)]
 refine ⟨_,(zE (yI (i:=2) zET.nd rfl (Or.inl rfl) (x3 MRO T.cl hr4 (pv 0) (zA (pv 1) zD)))
   (zF (zO (zU CNu hr1 (zA (pv 2) (zA (x3 ML TS.cl hr3 (zV yA (yF (pv 0) rfl) (pv 2) (fun _ _=>rfl)) (zA (pv 1) zD)) zD)))))),?_⟩
 refine ⟨_,rfl,p,dx,_,rfl,hp,cB _ _ _,_,rfl,B,p,nm,nb,xs,ss,z,i,s,rfl,hh,I.nd,l64,es,wB.mpr (.inr ok),gz,fun H1 k1=>?_⟩
 have S:=(hse i x s ex es).keep k1
 obtain ⟨dy,hob⟩:=S.ob
 refine ⟨_,rfl,_,rfl,p,C,dx,_,_,rfl,k1 _ _ (by simp) hp,T.cl,T.nS,vS _ _ _,_,rfl,sl,_,i,_,rfl,rfl,k1 _ _ (by simp) hsl,wK ex,x.1,dy,_,rfl,hob,zFS _ _ _ _,_,rfl,x.1,x.2,s,z,j,rfl,S,gz.1,zGI gz.2 (by decide),hj,hno,?_⟩
 rw [<- ef]
 exact fun r H' S' R' n' k'=>sG.num (E:=E) hh ex q k1 S' R' n' k'
def zED (C CS:Addr):Sp:=fun vs H Q _=>∃ (B:Addr->Prop) (p:Addr) (nm:Str) (nb:List Str) (xs:List (Addr × Addr)) (ss:List SS) (k:Nat) (z:Str) (i:Nat) (s:SS),vs=[.ref p,.str z]/\z6 B C CS H p nm nb xs ss/\vX k ss/\k <= 60/\ss.length <= 100/\AtR nb ss (.done z) i s (.done z)/\sG B C CS H p nm nb xs ss i s (.done z) Q
theorem okHD (T:x9 K C) (TS:x8 K CS) (G:y3 K C "done" "House.done" sHD ["self","asker"]) (MRO:yV P w K mg base CX0 4 C "right_of" ["self","asker"] (zB1 C CS)) (MD:yV P w K mg base CX0 3 CS "done" ["self","asker"] (fU CS)) (CNu:Cal P w K mg base CX0 1 "numbered" ["right","told"] lW):yV P w K mg base CX0 5 C "done" ["self","asker"] (zED C CS):=by
 refine G.ok zEV (fun vs H Q E h=>by obtain ⟨B,p,nm,nb,xs,ss,k,z,i,s,rfl,_⟩:=h;rfl) (fun f cdv A outer s0 H vs Q E hr h=>?_)
 obtain ⟨B,p,nm,nb,xs,ss,k,z,i,s,rfl,hh,I,hk,l100,a,q⟩:=h
 have hr4:z7 4 _:=hr
 have hr3:z7 3 _:=hr.mono (by decide)
 have hr1:z7 1 _:=hr.mono (by decide)
 have es:=a.here
 have il:i < ss.length:=(zF9.mp es).1
 obtain ⟨dx,nl,sl,_,hp,hnl,hsl,hxs,hse⟩:=id hh
 have ex:xs[i]?=some xs[i]:=zF8 (by omega)
 generalize xs[i]=x at ex
 have si:=I.si s (zGB es)
 have lr:s.row.length < 1000:=by have:=I.rl s (zGB es);omega
 have ne:ss ≠ []:=fun e=>by rw [e] at il;simp at il
 have ok:s.hold=some z:=a.ok
 have gz:xG z:=si.h _ ok
 have l64:(yK ss).length < 64:=by have:=I.ln;omega
 refine ⟨_,(zE (yI (i:=2) zEV.nd rfl (Or.inl rfl) (x3 MRO T.cl hr4 (pv 0) (zA (pv 1) zD)))
   (zF (zO (zU CNu hr1 (zA (pv 2) (zA (x3 MD TS.cl hr3 (zV yA (yF (pv 0) rfl) (pv 2) (fun _ _=>rfl)) (zA (pv 1) zD)) zD)))))),?_⟩
 refine ⟨_,rfl,p,dx,_,rfl,hp,cB _ _ _,_,rfl,B,p,nm,nb,xs,ss,z,i,s,rfl,hh,I.nd,l64,es,wB.mpr (.inl ok),gz,fun H1 k1=>?_⟩
 have S:=(hse i x s ex es).keep k1
 obtain ⟨dy,hob⟩:=S.ob
 refine ⟨_,rfl,_,rfl,p,C,dx,_,_,rfl,k1 _ _ (by simp) hp,T.cl,T.nS,vS _ _ _,_,rfl,sl,_,i,_,rfl,rfl,k1 _ _ (by simp) hsl,wK ex,x.1,dy,_,rfl,hob,zFU _ _ _ _,_,rfl,x.1,x.2,s,z,rfl,S,gz.1,zGI gz.2 (by decide),ok,?_⟩
 exact fun r H' S' R' n' k'=>sG.num (E:=E) hh ex q k1 S' R' n' k'
def zEC (C CS:Addr):Sp:=fun vs H Q _=>∃ (B:Addr->Prop) (p:Addr) (nm:Str) (nb:List Str) (xs:List (Addr × Addr)) (ss:List SS) (k:Nat) (z:Str) (i:Nat) (s:SS),vs=[.ref p,.str z,.int (i:Int)]/\z6 B C CS H p nm nb xs ss/\vX k ss/\k <= 60/\ss.length <= 100/\AtR nb ss (.ask z i) i s (.ask z)/\sG B C CS H p nm nb xs ss i s (.ask z) Q
theorem okHK (T:x9 K C) (TS:x8 K CS) (G:y3 K C "ask" "House.ask" sHK ["self","house","right"]) (MCL:yV P w K mg base CX0 3 C "check_letter" ["self","house","right"] (zB5 C CS)) (MK:yV P w K mg base CX0 3 CS "ask" ["self","house"] (zA6 CS)) (CNu:Cal P w K mg base CX0 1 "numbered" ["right","told"] lW):yV P w K mg base CX0 4 C "ask" ["self","house","right"] (zEC C CS):=by
 refine G.ok scHK (fun vs H Q E h=>by obtain ⟨B,p,nm,nb,xs,ss,k,z,i,s,rfl,_⟩:=h;rfl) (fun f cdv A outer s0 H vs Q E hr h=>?_)
 obtain ⟨B,p,nm,nb,xs,ss,k,z,i,s,rfl,hh,I,hk,l100,a,q⟩:=h
 have hr3:z7 3 _:=hr
 have hr1:z7 1 _:=hr.mono (by decide)
 have es:=a.here
 have il:i < ss.length:=(zF9.mp es).1
 obtain ⟨dx,nl,sl,_,hp,hnl,hsl,hxs,hse⟩:=id hh
 have ex:xs[i]?=some xs[i]:=zF8 (by omega)
 generalize xs[i]=x at ex
 have si:=I.si s (zGB es)
 have lr:s.row.length < 1000:=by have:=I.rl s (zGB es);omega
 have ne:ss ≠ []:=fun e=>by rw [e] at il;simp at il
 obtain ⟨o1,o2,gz⟩:=a.ok
 have zn:z ∈ nb:=by cases a;assumption
 refine ⟨_,(zE (yG (x3 MCL T.cl hr3 (pv 0) (zA (pv 1) (zA (pv 2) zD))))
   (zF (zO (zU CNu hr1 (zA (pv 2) (zA (x3 MK TS.cl hr3 (zV yA (yF (pv 0) rfl) (pv 2) (fun _ _=>rfl)) (zA (pv 1) zD)) zD)))))),?_⟩
 refine ⟨_,rfl,p,dx,_,rfl,hp,zBM _ _ _,_,rfl,_,rfl,B,p,nm,nb,xs,ss,z,i,rfl,hh,zn,gz,il,fun H1 k1=>?_⟩
 have S:=(hse i x s ex es).keep k1
 obtain ⟨dy,hob⟩:=S.ob
 refine ⟨_,rfl,_,rfl,p,C,dx,_,_,rfl,k1 _ _ (by simp) hp,T.cl,T.nS,vS _ _ _,_,rfl,sl,_,i,_,rfl,rfl,k1 _ _ (by simp) hsl,wK ex,x.1,dy,_,rfl,hob,zDL _ _ _ _,_,rfl,x.1,x.2,s,z,rfl,S,gz.1,zGI gz.2 (by decide),o1,o2,lr,?_⟩
 exact fun r H' S' R' n' k'=>sG.num (E:=E) hh ex q k1 S' R' n' k'
def zEE (C CS:Addr):Sp:=fun vs H Q _=>∃ (B:Addr->Prop) (p:Addr) (nm:Str) (nb:List Str) (xs:List (Addr × Addr)) (ss:List SS) (k:Nat) (z:Str) (bb:Bool) (i:Nat) (s:SS),vs=[.ref p,.str z,.int (i:Int),.bl bb]/\z6 B C CS H p nm nb xs ss/\vX k ss/\k <= 60/\ss.length <= 100/\AtR nb ss (.come z i bb) i s (.come z bb)/\sG B C CS H p nm nb xs ss i s (.come z bb) Q
theorem okHC (T:x9 K C) (TS:x8 K CS) (G:y3 K C "come" "House.come" sHC ["self","house","right","back"]) (MCL:yV P w K mg base CX0 3 C "check_letter" ["self","house","right"] (zB5 C CS)) (MCo:yV P w K mg base CX0 3 CS "come" ["self","house","back"] (fV CS)) (CNu:Cal P w K mg base CX0 1 "numbered" ["right","told"] lW):yV P w K mg base CX0 4 C "come" ["self","house","right","back"] (zEE C CS):=by
 refine G.ok scHC (fun vs H Q E h=>by obtain ⟨B,p,nm,nb,xs,ss,k,z,bb,i,s,rfl,_⟩:=h;rfl) (fun f cdv A outer s0 H vs Q E hr h=>?_)
 obtain ⟨B,p,nm,nb,xs,ss,k,z,bb,i,s,rfl,hh,I,hk,l100,a,q⟩:=h
 have hr3:z7 3 _:=hr
 have hr1:z7 1 _:=hr.mono (by decide)
 have es:=a.here
 have il:i < ss.length:=(zF9.mp es).1
 obtain ⟨dx,nl,sl,_,hp,hnl,hsl,hxs,hse⟩:=id hh
 have ex:xs[i]?=some xs[i]:=zF8 (by omega)
 generalize xs[i]=x at ex
 have si:=I.si s (zGB es)
 have lr:s.row.length < 1000:=by have:=I.rl s (zGB es);omega
 have ne:ss ≠ []:=fun e=>by rw [e] at il;simp at il
 have ok:s.ptr=some z:=a.ok
 have gz:xG z:=si.p _ ok
 have zn:z ∈ nb:=by cases a;assumption
 refine ⟨_,(zE (yG (x3 MCL T.cl hr3 (pv 0) (zA (pv 1) (zA (pv 2) zD))))
   (zF (zO (zU CNu hr1 (zA (pv 2) (zA (x3 MCo TS.cl hr3 (zV yA (yF (pv 0) rfl) (pv 2) (fun _ _=>rfl)) (zA (pv 1) (zA (pv 3) zD))) zD)))))),?_⟩
 refine ⟨_,rfl,p,dx,_,rfl,hp,zBM _ _ _,_,rfl,_,rfl,B,p,nm,nb,xs,ss,z,i,rfl,hh,zn,gz,il,fun H1 k1=>?_⟩
 have S:=(hse i x s ex es).keep k1
 obtain ⟨dy,hob⟩:=S.ob
 refine ⟨_,rfl,_,rfl,p,C,dx,_,_,rfl,k1 _ _ (by simp) hp,T.cl,T.nS,vS _ _ _,_,rfl,sl,_,i,_,rfl,rfl,k1 _ _ (by simp) hsl,wK ex,x.1,dy,_,rfl,hob,zFW _ _ _ _,_,rfl,_,rfl,x.1,x.2,s,z,bb,rfl,S,gz.1,zGI gz.2 (by decide),ok,lr,?_⟩
 exact fun r H' S' R' n' k'=>sG.num (E:=E) hh ex q k1 S' R' n' k'
end
abbrev oK:Stmt:=top 35
abbrev oO:Stmt:=top 36
abbrev jZ:Stmt:=top 37
inductive GD where
 | want (x:V)
 | leave (x:V)
 | done (x:V)
 | ask (x:V)
 | come (x y:V)
def gdV:GD->List V
 | .want x=>[.str "want",x]
 | .leave x=>[.str "leave",x]
 | .done x=>[.str "done",x]
 | .ask x=>[.str "ask",x]
 | .come x y=>[.str "come",x,y]
def GD.nm:GD->V
 | .want x=>x
 | .leave x=>x
 | .done x=>x
 | .ask x=>x
 | .come x _=>x
def gN:DD->GD
 | .want z=>.want (.str z)
 | .leave z=>.leave (.str z)
 | .done z=>.done (.str z)
 | .ask z=>.ask (.str z)
 | .come z b=>.come (.str z) (.bl b)
def mkD (a:V) (rl:Addr) (h:V) (k:Bool):List (Key × V):=[(.inr "arrow",a),(.inr "row",.ref rl),(.inr "inside",h),(.inr "asked",.bl k)]
structure DAt (H:Hp) (st rl:Addr) (s:SS):Prop where
 d:H st=some (.dK (mkD (yC s.ptr) rl (yC s.hold) s.asked))
 rw:Rows H rl (s.row.map yR)
 len:s.row.length <= 1000
section
variable {H:Hp} {st rl:Addr} {a h:V} {k:Bool}
theorem g_a (e:H st=some (.dK (mkD a rl h k))):uE H st (.str "arrow") (some a):=.inl ⟨_,.inr "arrow",.inl e,rfl,rfl⟩
theorem g_r (e:H st=some (.dK (mkD a rl h k))):uE H st (.str "row") (some (.ref rl)):=.inl ⟨_,.inr "row",.inl e,rfl,rfl⟩
theorem g_h (e:H st=some (.dK (mkD a rl h k))):uE H st (.str "inside") (some h):=.inl ⟨_,.inr "inside",.inl e,rfl,rfl⟩
theorem g_k (e:H st=some (.dK (mkD a rl h k))):uE H st (.str "asked") (some (.bl k)):=.inl ⟨_,.inr "asked",.inl e,rfl,rfl⟩
theorem p_a (e:H st=some (.dK (mkD a rl h k))) (v:V):pG H st (.str "arrow") v (upd H st (.dK (mkD v rl h k))):=.inl ⟨_,.inr "arrow",e,rfl,by show 4 < sizeLine;decide,rfl⟩
theorem p_h (e:H st=some (.dK (mkD a rl h k))) (v:V):pG H st (.str "inside") v (upd H st (.dK (mkD a rl v k))):=.inl ⟨_,.inr "inside",e,rfl,by show 4 < sizeLine;decide,rfl⟩
theorem p_k (e:H st=some (.dK (mkD a rl h k))) (j:Bool):pG H st (.str "asked") (.bl j) (upd H st (.dK (mkD a rl h j))):=.inl ⟨_,.inr "asked",e,rfl,by show 4 < sizeLine;decide,rfl⟩
theorem DAt.ne {s:SS} (D:DAt H st rl s):st ≠ rl:=by
 obtain ⟨ps,h2,_⟩:=D.rw
 exact xO D.d h2 (by intro z;cases z)
theorem DAt.keep {H':Hp} {s:SS} (D:DAt H st rl s) (k:zC [] H H'):DAt H' st rl s:=⟨k _ _ (by simp) D.d,D.rw.keep k,D.len⟩
theorem wF {ys:List V} {kvs:List (Key × V)} (h1:H st=some (.dK kvs)) (h2:H rl=some (.lst ys)):∀ b ∈ [st,rl],∀ xs,H b ≠ some (.tup xs):=fun b hb xs z=>by
 simp only [List.mem_cons,zG1,or_false] at hb
 rcases hb with rfl | rfl
 ·rw [h1] at z;cases z
 ·rw [h2] at z;cases z
theorem DAt.fresh {s:SS} {u:Addr} (D:DAt H st rl s) (h:H u=none):u ∉ [st,rl]:=by
 obtain ⟨ps,hwl,_⟩:=D.rw
 simp only [List.mem_cons,zG1,or_false]
 rintro (rfl | rfl)
 ·rw [D.d] at h;cases h
 ·rw [hwl] at h;cases h
end
section
variable {P:Program} {w:World} {K:PySem.W.Frag} {mg:Str->Option Value} {base:Heap} {C:Addr}
theorem bU:zN ["_law_arrow"] ["_law_arrow"] (zG oK):=⟨rfl,rfl,rfl,by decide +kernel,rfl,by decide +kernel,by decide +kernel⟩
def jO:Sp:=fun vs H Q _=>∃ (ar:Option Str),vs=[yC ar]/\∀ (st rl:Addr) (H':Hp),H st=none->H rl=none->DAt H' st rl ⟨ar,[],none,false⟩->zC [] H H'->Q (.ref st) H'
theorem aP (G:yW K mg "_law_state" oK ["_law_arrow"]):Cal P w K mg base CX0 1 "_law_state" ["_law_arrow"] jO:=by
 refine G.ok bU (fun vs H Q E h=>by obtain ⟨ar,rfl,_⟩:=h;rfl) (fun f cdv A outer s0 H vs Q E hr h=>?_)
 obtain ⟨ar,rfl,q⟩:=h
 refine ⟨_,(zF (zO (aM (tW zM (pv 0) (tW zM (y8 zD) (tW zM yZ (tW zM wP aF)))) rfl rfl (by simp) (by decide)))),?_⟩
 intro p hp
 refine ⟨_,rfl,zGH _,fun l hl=>?_⟩
 obtain ⟨hl1,lp⟩:=zL hl
 refine ⟨by rw [zI (Ne.symm lp),zB],mkD (yC ar) l .non false,rfl,by show 4 <= 15;decide,?_⟩
 have kk:zC [] H (upd (upd (upd H p (.dK [])) l (.lst [])) p (.dK (mkD (yC ar) l .non false))):=((zC.new hp).trans (zC.new hl)).under (S:=[p]) (zC.at (by simp)) (by intro b hb;rw [zGA.mp hb];exact hp)
 exact q p l _ hp hl1 ⟨zB,⟨[],by rw [zI lp,zB];rfl,.nil⟩,zGH _⟩ kk
theorem oI:zN ["_law_state_here","_law_word","_law_name"] ["_law_state_here"] (zG oO):=⟨rfl,rfl,rfl,by decide +kernel,rfl,by decide +kernel,by decide +kernel⟩
def jR:Sp:=fun vs H Q _=>∃ (st rl:Addr) (s:SS),vs=[.ref st]/\DAt H st rl s/\∀ (r:Addr) (H':Hp),DAt H' st rl (zS s).1->Rows H' r (zS s).2->H r=none->zC [st,rl] H H'->Q (.ref r) H'
theorem aS (G:yW K mg "_law_moved" oO ["_law_state_here"]):Cal P w K mg base CX0 1 "_law_moved" ["_law_state_here"] jR:=by
 refine G.ok oI (fun vs H Q E h=>by obtain ⟨st,rl,s,rfl,_⟩:=h;rfl) (fun f cdv A outer s0 H vs Q E hr h=>?_)
 obtain ⟨st,rl,s,rfl,D0,q⟩:=h
 have hu:=uC hr
 refine ⟨_,(zE (z4 (zT (zCU (Nat.lt_of_succ_lt hu)) (yQ hu (pv 0) zM (fun _ _=>rfl)) (y8 zD) (zX _)) (zF (zO (y8 zD))) zQ)
   (zE (z4 (PW.pt (kG (zT vJ (yQ hu (pv 0) zM (fun _ _=>rfl)) yZ (zX _)) (oU (zT vJ (yQ hu (pv 0) zM (fun _ _=>rfl)) yZ (zX _))))) (zE (sM (vC PySem.F.plainAttrs_list PySem.F.slot_list_pop PySem.F.type_list_pop m3 (yQ hu (pv 0) zM (fun _ _=>rfl)) (zA zJ zD)) (uI rfl (yS (yE (i:=1) oI.nd rfl (Or.inl rfl)) (yS (yE (i:=2) oI.nd rfl (Or.inl rfl)) vF))))
   (zE (z4 (zT xW (pv 1) zM (zX _)) (zE (vE hu (pv 0) zM (pv 2) rfl)
   (zF (zO (y8 (zA (z8 (zA zM (zA (pv 2) zD))) zD))))) zQ)
   (zE (vE hu (pv 0) zM (pv 2) rfl)
   (zE (vE hu (pv 0) zM (wA (zCS (Nat.lt_of_succ_lt hu)) (yQ hu (pv 0) zM (fun _ _=>rfl)) (y8 zD) (zX _)) rfl)
   (zF (zO (y8 (zA (z8 (zA zM (zA (pv 2) (zA (yQ hu (pv 0) zM (fun _ _=>rfl)) zD)))) zD)))))))) zQ)
   (zE (z4 (PW.pt (kG (zT u5 (yQ hu (pv 0) zM (fun _ _=>rfl)) yZ (zX _)) (oU (wD (xY (yQ hu (pv 0) zM (fun _ _=>rfl))))))) (zE (vE hu (pv 0) zM wP rfl)
   (zF (zO (y8 (zA (z8 (zA zM (zA (yQ hu (pv 0) zM (fun _ _=>rfl)) zD))) zD))))) zQ)
   (zF (zO (y8 zD)))))),?_⟩
 have none_:∀ H1,zC [] H H1->zS s=(s,[])->∀ r,H1 r=none->Q (.ref r) (upd H1 r (.lst [])):=fun H1 k1 e r hr=>by
  rw [e] at q
  exact q r _ (D0.keep (k1.trans (zC.new hr))) ⟨[],zB,.nil⟩ (k1.none (by simp) hr) ((k1.trans (zC.new hr)).mono (by simp))
 obtain ⟨ps0,hw0,hpr0⟩:=id D0.rw
 have lps:=zP hpr0
 rw [zF7] at lps
 have hps:(ps0.map V.ref).isEmpty=s.row.isEmpty:=by
  cases hps:ps0 <;> cases hrow:s.row <;> simp_all
 refine ⟨_,rfl,st,_,rfl,g_r D0.d,zGH _,fun e0 he0=>?_⟩
 have k0:zC [] H (upd H e0 (.lst [])):=zC.new he0
 refine ⟨rl,e0,_,rfl,rfl,k0 _ _ (by simp) hw0,zB,zH hw0 he0,_,rfl,?_⟩
 generalize upd H e0 (.lst [])=H1 at k0 ⊢
 have D:=D0.keep k0
 have nst:=D.ne
 obtain ⟨ps,hwl,hpr⟩:=id D.rw
 cases hem:s.row.isEmpty with
 | true=>
  refine ifT (by show (ps0.map V.ref).isEmpty=true;rw [hps];exact hem) ⟨zGH _,fun r hr=>none_ H1 k0 ?_ r hr⟩
  unfold zS;rw [hem];rfl
 | false=>
 refine ifF (by show (ps0.map V.ref).isEmpty=false;rw [hps];exact hem) ?_
 refine ⟨_,rfl,st,_,rfl,g_a D.d,rfl,_,rfl,?_⟩
 cases hp:s.ptr with
 | none=>
  refine ifT rfl ?_
  refine ⟨_,rfl,st,_,rfl,g_h D.d,rfl,_,rfl,?_⟩
  cases hh:s.hold with
  | none=>
   refine ifT rfl ?_
   have em:zS s=((xH s).1,[(xH s).2]):=by unfold zS;rw [hem,hp,hh];rfl
   rw [em] at q
   obtain ⟨ptr,row,hold,asked⟩:=s
   dsimp only at *
   subst hp hh
   cases row with
   | nil=>cases hem
   | cons kn rest=>
    obtain ⟨k,n⟩:=kn
    cases hpr with
    | @cons t _ ps' _ ht hpr=>
    have lps':=zP hpr
    rw [zF7] at lps'
    have hl1:rest.length + 1 <= 1000:=D.len
    refine ⟨_,rfl,st,_,rfl,g_r D.d,.inl ⟨rfl,_,.of hwl⟩,rl,_,0,0,.ref t,rfl,rfl,hwl,by decide,by decide,zEL _,rfl,?_⟩
    rw [show (List.map V.ref (t :: ps')).eraseIdx 0=ps'.map V.ref from rfl]
    have ntw:t ≠ rl:=xO ht hwl (by intro z;cases z)
    have hd1:upd H1 rl (.lst (ps'.map V.ref)) st=some (.dK (mkD .non rl .non asked)):=by rw [zI nst];exact D.d
    refine ⟨t,_,rfl,.of (by rw [zI ntw];exact ht),rfl,_,_,rfl,_,_,rfl,rfl,?_⟩
    refine ⟨_,rfl,rfl,_,rfl,?_⟩
    refine gH (fun hk=>?_) (fun hk=>?_)
    ·have hk':k="asker":=by have:=of_decide_eq_true hk;injection this
     have es:xH { ptr:=none,row:=(k,n) :: rest,hold:=none,asked:=asked }=({ ptr:=none,row:=rest,hold:=some n,asked:=asked },[.str "given",.str n]):=by
      unfold xH;simp only [hk',if_true]
     rw [es] at q
     refine ⟨_,rfl,_,rfl,st,_,rfl,p_h hd1 _,?_⟩
     refine ⟨_,rfl,by show 2 <= sizeLine;decide,fun t1 ht1=>⟨by show 1 <= sizeLine;decide,fun r hr=>?_⟩⟩
     have kk:zC [st,rl] H1 (upd (upd (upd (upd H1 rl (.lst (ps'.map V.ref))) st (.dK (mkD .non rl (.str n) asked))) t1 (.tup [.str "given",.str n])) r (.lst [.ref t1])):=(((zC.at (by simp)).trans (zC.at (by simp))).trans (zC.new ht1)).trans (zC.new hr)
     obtain ⟨hr1,rt⟩:=zL hr
     obtain ⟨hr2,rs⟩:=zL hr1
     obtain ⟨hr3,rr⟩:=zL hr2
     obtain ⟨hs2,ts⟩:=zL ht1
     obtain ⟨hs3,tr⟩:=zL hs2
     refine q r _ ⟨?_,⟨ps',?_,zK kk (wF D.d hwl) hpr⟩,?_⟩ ⟨[t1],zB,.cons ?_ .nil⟩ (k0.none (by simp) hr3) ((k0.mono (by simp)).trans kk)
     ·rw [zI (Ne.symm rs),zI (Ne.symm ts),zB];rfl
     ·rw [zI (Ne.symm rr),zI (Ne.symm tr),zI (Ne.symm nst),zB]
     ·show rest.length <= 1000;omega
     ·rw [zI (Ne.symm rt),zB]
    ·have hk':¬ k="asker":=fun z=>hk (by rw [z];exact zGM rfl)
     have es:xH { ptr:=none,row:=(k,n) :: rest,hold:=none,asked:=asked }=({ ptr:=some n,row:=rest,hold:=none,asked:=!rest.isEmpty },[.str "right",.str n,.bl (!rest.isEmpty)]):=by
      unfold xH;simp only [if_neg hk']
     rw [es] at q
     refine ⟨_,rfl,_,rfl,st,_,rfl,p_a hd1 _,?_⟩
     have hd2:upd (upd H1 rl (.lst (ps'.map V.ref))) st (.dK (mkD (.str n) rl .non asked)) st=some (.dK (mkD (.str n) rl .non asked)):=zB
     refine ⟨_,rfl,st,_,rfl,g_r hd2,zGH _,fun e1 he1=>?_⟩
     obtain ⟨he2,es1⟩:=zL he1
     obtain ⟨he3,er1⟩:=zL he2
     have hrl2:upd (upd (upd H1 rl (.lst (ps'.map V.ref))) st (.dK (mkD (.str n) rl .non asked))) e1 (.lst []) rl=some (.lst (ps'.map V.ref)):=by rw [zI (Ne.symm er1),zI (Ne.symm nst),zB]
     refine ⟨rl,e1,_,rfl,rfl,hrl2,zB,Ne.symm er1,?_⟩
     have eb:(!(ps'.map V.ref).isEmpty) = !rest.isEmpty:=by
      cases rest <;> cases ps' <;> first | rfl | (simp at lps')
     rw [if_pos rfl,eb]
     have hd3:upd (upd (upd H1 rl (.lst (ps'.map V.ref))) st (.dK (mkD (.str n) rl .non asked))) e1 (.lst []) st=some (.dK (mkD (.str n) rl .non asked)):=by rw [zI (Ne.symm es1)];exact hd2
     refine ⟨_,rfl,st,_,rfl,p_k hd3 _,?_⟩
     refine ⟨_,rfl,_,rfl,st,_,rfl,g_k zB,by show 3 <= sizeLine;decide,fun t1 ht1=>⟨by show 1 <= sizeLine;decide,fun r hr=>?_⟩⟩
     have kk:zC [st,rl] H1 (upd (upd (upd (upd (upd (upd H1 rl (.lst (ps'.map V.ref))) st (.dK (mkD (.str n) rl .non asked))) e1 (.lst [])) st (.dK (mkD (.str n) rl .non (!rest.isEmpty)))) t1 (.tup [.str "right",.str n,.bl (!rest.isEmpty)])) r (.lst [.ref t1])):=
      (((((zC.at (by simp)).trans (zC.at (by simp))).trans (zC.new he1)).trans (zC.at (by simp))).trans (zC.new ht1)).trans (zC.new hr)
     obtain ⟨hr1,rt⟩:=zL hr
     obtain ⟨hr2,rs⟩:=zL hr1
     obtain ⟨hr3,re⟩:=zL hr2
     obtain ⟨hr4,_⟩:=zL hr3
     obtain ⟨hr5,rr⟩:=zL hr4
     obtain ⟨hs2,ts⟩:=zL ht1
     obtain ⟨hs3,te⟩:=zL hs2
     obtain ⟨hs4,_⟩:=zL hs3
     obtain ⟨hs5,tr⟩:=zL hs4
     refine q r _ ⟨?_,⟨ps',?_,zK kk (wF D.d hwl) hpr⟩,?_⟩ ⟨[t1],zB,.cons ?_ .nil⟩ (k0.none (by simp) hr5) ((k0.mono (by simp)).trans kk)
     ·rw [zI (Ne.symm rs),zI (Ne.symm ts),zB];rfl
     ·rw [zI (Ne.symm rr),zI (Ne.symm tr),zI (Ne.symm nst),zI (Ne.symm er1),zI (Ne.symm nst),zB]
     ·show rest.length <= 1000;omega
     ·rw [zI (Ne.symm rt),zB]
  | some g=>
   refine ifF rfl ?_
   refine ⟨_,rfl,st,_,rfl,g_a D.d,rfl,_,rfl,?_⟩
   refine ifF (by rw [hp];rfl) (ifF rfl ⟨zGH _,fun r hr=>none_ H1 k0 ?_ r hr⟩)
   unfold zS;rw [hem,hp,hh];rfl
 | some g=>
  refine ifF rfl (ifF rfl ?_)
  refine ⟨_,rfl,st,_,rfl,g_a D.d,rfl,_,rfl,?_⟩
  refine ifT (by rw [hp];rfl) ?_
  refine ⟨_,rfl,st,_,rfl,g_k D.d,_,rfl,?_⟩
  cases hk:s.asked with
  | true=>
   refine ifF rfl ⟨zGH _,fun r hr=>none_ H1 k0 ?_ r hr⟩
   unfold zS;rw [hem,hp,hk];rfl
  | false=>
   refine ifT rfl ?_
   have em:zS s=({ s with asked:=true },[[.str "ask",.str g]]):=by unfold zS;rw [hem,hp,hk];rfl
   rw [em] at q
   refine ⟨_,rfl,st,_,rfl,p_k D.d true,?_⟩
   have hd2:upd H1 st (.dK (mkD (yC s.ptr) rl (yC s.hold) true)) st=some (.dK (mkD (yC s.ptr) rl (yC s.hold) true)):=zB
   refine ⟨_,rfl,st,_,rfl,g_a hd2,by show 2 <= sizeLine;decide,fun t1 ht1=>⟨by show 1 <= sizeLine;decide,fun r hr=>?_⟩⟩
   rw [hp] at ht1 hr ⊢
   have kk:zC [st,rl] H1 (upd (upd (upd H1 st (.dK (mkD (yC (some g)) rl (yC s.hold) true))) t1 (.tup [.str "ask",yC (some g)])) r (.lst [.ref t1])):=((zC.at (by simp)).trans (zC.new ht1)).trans (zC.new hr)
   obtain ⟨hr1,rt⟩:=zL hr
   obtain ⟨hr2,rs⟩:=zL hr1
   obtain ⟨hs2,ts⟩:=zL ht1
   refine q r _ ⟨?_,⟨ps,?_,zK kk (wF D.d hwl) hpr⟩,D.len⟩ ⟨[t1],zB,.cons ?_ .nil⟩ (k0.none (by simp) hr2) ((k0.mono (by simp)).trans kk)
   ·rw [zI (Ne.symm rs),zI (Ne.symm ts),zB,hp]
   ·rw [zI (zH hwl hr2),zI (zH hwl hs2),zI (Ne.symm nst)];exact hwl
   ·rw [zI (Ne.symm rt),zB];rfl
end
def GD.wd:GD->Str
 | .want _=>"want"
 | .leave _=>"leave"
 | .done _=>"done"
 | .ask _=>"ask"
 | .come _ _=>"come"
theorem zDK {K:PySem.W.Frag} {H:Hp} {t:Addr} {Q:VK}:∀ {g:GD},H t=some (.tup (gdV g))->(∀ (u:Addr) (H1:Hp),zC [] H H1->H1 u=some (.tup [.str g.wd,g.nm])->Q (.ref u) H1)->eI K (.ref t) none (some 2) H Q
 | .want _,ht,h=>⟨t,_,rfl,.of ht,.inl ⟨rfl,rfl,h t H (zC.refl _) ht⟩⟩
 | .leave _,ht,h=>⟨t,_,rfl,.of ht,.inl ⟨rfl,rfl,h t H (zC.refl _) ht⟩⟩
 | .done _,ht,h=>⟨t,_,rfl,.of ht,.inl ⟨rfl,rfl,h t H (zC.refl _) ht⟩⟩
 | .ask _,ht,h=>⟨t,_,rfl,.of ht,.inl ⟨rfl,rfl,h t H (zC.refl _) ht⟩⟩
 | .come _ _,ht,h=>⟨t,_,rfl,.of ht,.inr ⟨by show ¬ ((0:Nat)=0/\(2:Nat)=3);decide,fun p hp=>h p _ (zC.new hp) zB⟩⟩
theorem DAt.more {H3:Hp} {st rl t:Addr} {s:SS} {ps:List Addr} {x:Str × Str} (hd:H3 st=some (.dK (mkD (yC s.ptr) rl (yC s.hold) s.asked)))
  (hpr:Paired (fun q r=>H3 q=some (.tup r)) ps (s.row.map yR)) (hw:H3 rl=some (.lst (ps.map V.ref ++ [.ref t]))) (ht:H3 t=some (.tup (yR x))) (hl:s.row.length < 1000):DAt H3 st rl { s with row:=s.row ++ [x] }:=by
 refine ⟨hd,⟨ps ++ [t],by rw [hw,zGJ];rfl,?_⟩,by show (s.row ++ [x]).length <= 1000;simp;omega⟩
 show Paired _ _ ((s.row ++ [x]).map yR)
 rw [zGJ]
 exact xS hpr ht
theorem kC (z:Str) (o:Option Str):fZ (yC o) (.str z)=true:=by cases o <;> rfl
theorem cT (z:Str) (o:Option Str):decide (yC o=V.str z)=decide (o=some z):=by
 cases o with
 | none=>simp [yC]
 | some y=>simp [yC]
theorem zDJ {H:Hp} {Q:VK} {p t:Addr} {row:List (Str × Str)} {x:Str × Str} (R:Rows H p (row.map yR)) (ht:H t=some (.tup (yR x))) (q:Q (.bl (decide (x ∈ row))) H):aB false (.ref t) (.ref p) H Q:=
 ⟨p,t,_,row.map yR,rfl,rfl,R,ht,rfl,wX _,by
  show Q (.bl ((row.map yR).any fun r=>eqT r (yR x))) H
  rw [uR];exact q⟩
theorem hV {H:Hp} {Q:VK} {p t:Addr} {row:List (Str × Str)} {x:Str × Str} (R:Rows H p (row.map yR)) (ht:H t=some (.tup (yR x))) (q:Q (.bl (!decide (x ∈ row))) H):aB true (.ref t) (.ref p) H Q:=
 ⟨p,t,_,row.map yR,rfl,rfl,R,ht,rfl,wX _,by
  show Q (.bl (!(row.map yR).any fun r=>eqT r (yR x))) H
  rw [uR];exact q⟩
section
variable {P:Program} {w:World} {K:PySem.W.Frag} {mg:Str->Option Value} {base:Heap} {C:Addr}
theorem kD:zN ["_law_state_here","_law_deed","_law_word","_law_name"] ["_law_state_here","_law_deed"] (zG jZ):=⟨rfl,rfl,rfl,by decide +kernel,rfl,by decide +kernel,by decide +kernel⟩
def fS:Sp:=fun vs H Q _=>∃ (st rl t:Addr) (s:SS) (d:DD),vs=[.ref st,.ref t]/\DAt H st rl s/\H t=some (.tup (gdV (gN d)))/\rA s/\jI s d/\s.row.length < 900 /\
 ∀ (r:Addr) (H':Hp),DAt H' st rl (zS (zW s d)).1->Rows H' r (zS (zW s d)).2->H r=none->zC [st,rl] H H'->Q (.ref r) H'
theorem zC1 (G:yW K mg "_law_made_at" jZ ["_law_state_here","_law_deed"]) (CM:Cal P w K mg base CX0 1 "_law_moved" ["_law_state_here"] jR):Cal P w K mg base CX0 2 "_law_made_at" ["_law_state_here","_law_deed"] fS:=by
 refine G.ok kD (fun vs H Q E h=>by obtain ⟨st,rl,t,s,d,rfl,_⟩:=h;rfl) (fun f cdv A outer s0 H vs Q E hr h=>?_)
 obtain ⟨st,rl,t,s,d,rfl,D0,ht,I,ok,hlen,q⟩:=h
 have hr1:z7 1 _:=hr
 have hu:=uC hr
 have hlen':s.row.length < 1000:=by omega
 refine ⟨_,(zE (sM (wO rN (pv 1) uH (wN zJ)) (uI rfl (yS (yE (i:=2) kD.nd rfl (Or.inl rfl)) (yS (yE (i:=3) kD.nd rfl (Or.inl rfl)) vF))))
   (zE (z4 (zT xW (pv 2) zM (zX _)) (zF (yG (vC PySem.F.plainAttrs_list PySem.F.slot_list_append PySem.F.type_list_append xA (yQ hu (pv 0) zM (fun _ _=>rfl)) (zA (z8 (zA zM (zA (pv 3) zD))) zD)))) (zF (z4 (zT xW (pv 2) zM (zX _)) (zF (yG (vC PySem.F.plainAttrs_list PySem.F.slot_list_remove PySem.F.type_list_remove (qK hu) (yQ hu (pv 0) zM (fun _ _=>rfl)) (zA (z8 (zA zM (zA (pv 3) zD))) zD)))) (zF (z4 (zT xW (pv 2) zM (zX _)) (zF (vE hu (pv 0) zM yZ rfl)) (zF (z4 (zT xW (pv 2) zM (zX _)) (zF (yG (vC PySem.F.plainAttrs_list PySem.F.slot_list_append PySem.F.type_list_append xA (yQ hu (pv 0) zM (fun _ _=>rfl)) (zA (z8 (zA zM (zA (pv 3) zD))) zD)))) (zE (vE hu (pv 0) zM yZ rfl)
   (zE (vE hu (pv 0) zM wP rfl)
   (zF (z4 (xY (zV zY (pv 1) zJ (fun _ _=>rfl))) (zF (yG (vC PySem.F.plainAttrs_list PySem.F.slot_list_append PySem.F.type_list_append xA (yQ hu (pv 0) zM (fun _ _=>rfl)) (zA (z8 (zA zM (zA (pv 3) zD))) zD)))) zQ)))))))))))
   (zF (zO (zU CM hr1 (zA (pv 0) zD)))))),?_⟩
 refine ⟨_,rfl,_,rfl,zDK ht fun u H1 k01 hu1=>?_⟩
 refine ⟨u,_,rfl,.of hu1,rfl,_,_,rfl,_,_,rfl,rfl,?_⟩
 have D:=D0.keep k01
 have ht1:=k01 _ _ (by simp) ht
 cases d with
 | want z=>
  dsimp only [gN,GD.wd,GD.nm]
  refine ⟨_,rfl,rfl,_,rfl,ifT (by decide +kernel) ?_⟩
  obtain ⟨ps,hwl,hpr⟩:=id D.rw
  have lps:=zP hpr
  rw [zF7] at lps
  refine ⟨_,rfl,st,_,rfl,g_r D.d,.inl ⟨rfl,_,.of hwl⟩,_,rfl,by show 2 <= sizeLine;decide,fun t2 ht2=>?_⟩
  have k3:zC [] H1 (upd H1 t2 (.tup [.str "asker",.str z])):=zC.new ht2
  have wt2:rl ≠ t2:=zH hwl ht2
  refine ⟨rl,_,_,rfl,rfl,k3 _ _ (by simp) hwl,by rw [zF7,sizeLine_eq];have:=D.len;omega,?_⟩
  have h3t:upd H1 t2 (.tup [.str "asker",.str z]) t2=some (.tup (yR (yH z))):=zB
  have n3:∀ r,upd H1 t2 (.tup [.str "asker",.str z]) r=none->H1 r=none:=fun r h=>(zL h).1
  generalize upd H1 t2 (.tup [.str "asker",.str z])=H3 at k3 h3t n3 ⊢
  have k4:zC [st,rl] H1 (upd H3 rl (.lst (ps.map V.ref ++ [.ref t2]))):=(k3.mono (by simp)).trans (zC.at (by simp))
  have D4:=DAt.more (H3:=upd H3 rl (.lst (ps.map V.ref ++ [.ref t2]))) (x:=yH z) (by rw [zI D.ne];exact k3 _ _ (by simp) D.d) (zK k4 (wF D.d hwl) hpr) zB (by rw [zI (Ne.symm wt2)];exact h3t) hlen'
  refine ⟨_,rfl,st,rl,_,rfl,D4,fun r H5 D5 R5 hr5 k5=>?_⟩
  exact q r H5 D5 R5 (k01.none (by simp) (n3 r (zL hr5).1)) (((k01.mono (by simp)).trans k4).trans k5)
 | leave z=>
  dsimp only [gN,GD.wd,GD.nm]
  refine ⟨_,rfl,rfl,_,rfl,ifF (by decide +kernel) ?_⟩
  refine ⟨_,rfl,rfl,_,rfl,ifT (by decide +kernel) ?_⟩
  obtain ⟨ps,hwl,hpr⟩:=id D.rw
  obtain ⟨j,hj,hno⟩:=tO s.row (yH z) ok
  have ef:zW s (.leave z) = { s with row:=s.row.eraseIdx j }:=by
   show ({ s with row:=s.row.filter fun x=>decide (x ≠ yH z) }:SS)=_
   rw [uO s.row (yH z) j hj hno (I.u z)]
  rw [ef] at q
  refine ⟨_,rfl,st,_,rfl,g_r D.d,.inl ⟨rfl,_,.of hwl⟩,_,rfl,by show 2 <= sizeLine;decide,fun t2 ht2=>?_⟩
  have k3:zC [] H1 (upd H1 t2 (.tup [.str "asker",.str z])):=zC.new ht2
  have hn13:∀ b ∈ ([]:List Addr),∀ xs,H1 b ≠ some (.tup xs):=fun b hb=>by cases hb
  refine ⟨rl,t2,_,s.row.map yR,j,ps,rfl,rfl,k3 _ _ (by simp) hwl,zK k3 hn13 hpr,zB,rfl,wX _,⟨yR (yH z),by rw [zGD,hj];rfl,by
   show eqT (yR (yH z)) (yR (yH z))=true
   rw [t8];exact zGM rfl⟩,(fun m r hm e=>by
   rw [zGD] at e
   cases hx:s.row[m]? with
   | none=>rw [hx] at e;cases e
   | some y=>
    rw [hx] at e
    have e':yR y=r:=zGE e
    rw [<- e']
    show eqT (yR y) (yR (yH z))=false
    rw [t8]
    exact zGN (fun w=>hno m hm (by rw [hx,w]))),?_⟩
  have n3:∀ r,upd H1 t2 (.tup [.str "asker",.str z]) r=none->H1 r=none:=fun r h=>(zL h).1
  generalize upd H1 t2 (.tup [.str "asker",.str z])=H3 at k3 n3 ⊢
  have k4:zC [st,rl] H1 (upd H3 rl (.lst ((ps.eraseIdx j).map V.ref))):=(k3.mono (by simp)).trans (zC.at (by simp))
  have D4:DAt (upd H3 rl (.lst ((ps.eraseIdx j).map V.ref))) st rl { s with row:=s.row.eraseIdx j }:=by
   refine ⟨by rw [zI D.ne];exact k3 _ _ (by simp) D.d,⟨ps.eraseIdx j,zB,?_⟩,zGI (uA s.row j) D.len⟩
   show Paired _ _ ((s.row.eraseIdx j).map yR)
   rw [<- u6 yR]
   exact uJ j (zK k4 (wF D.d hwl) hpr)
  refine ⟨_,rfl,st,rl,_,rfl,D4,fun r H5 D5 R5 hr5 k5=>?_⟩
  exact q r H5 D5 R5 (k01.none (by simp) (n3 r (zL hr5).1)) (((k01.mono (by simp)).trans k4).trans k5)
 | done z=>
  dsimp only [gN,GD.wd,GD.nm]
  refine ⟨_,rfl,rfl,_,rfl,ifF (by decide +kernel) ?_⟩
  refine ⟨_,rfl,rfl,_,rfl,ifF (by decide +kernel) ?_⟩
  refine ⟨_,rfl,rfl,_,rfl,ifT (by decide +kernel) ?_⟩
  refine ⟨_,rfl,st,_,rfl,p_h D.d .non,?_⟩
  have k4:zC [st,rl] H1 (upd H1 st (.dK (mkD (yC s.ptr) rl .non s.asked))):=zC.at (by simp)
  obtain ⟨ps,hwl,hpr⟩:=id D.rw
  have D4:DAt (upd H1 st (.dK (mkD (yC s.ptr) rl .non s.asked))) st rl { s with hold:=none }:=⟨zB,⟨ps,by rw [zI (Ne.symm D.ne)];exact hwl,zK k4 (wF D.d hwl) hpr⟩,D.len⟩
  refine ⟨_,rfl,st,rl,_,rfl,D4,fun r H5 D5 R5 hr5 k5=>?_⟩
  exact q r H5 D5 R5 (k01.none (by simp) (zL hr5).1) (((k01.mono (by simp)).trans k4).trans k5)
 | ask z=>
  dsimp only [gN,GD.wd,GD.nm]
  refine ⟨_,rfl,rfl,_,rfl,ifF (by decide +kernel) ?_⟩
  refine ⟨_,rfl,rfl,_,rfl,ifF (by decide +kernel) ?_⟩
  refine ⟨_,rfl,rfl,_,rfl,ifF (by decide +kernel) ?_⟩
  refine ⟨_,rfl,rfl,_,rfl,ifT (by decide +kernel) ?_⟩
  obtain ⟨ps,hwl,hpr⟩:=id D.rw
  have lps:=zP hpr
  rw [zF7] at lps
  refine ⟨_,rfl,st,_,rfl,g_r D.d,.inl ⟨rfl,_,.of hwl⟩,_,rfl,by show 2 <= sizeLine;decide,fun t2 ht2=>?_⟩
  have k3:zC [] H1 (upd H1 t2 (.tup [.str "house",.str z])):=zC.new ht2
  have wt2:rl ≠ t2:=zH hwl ht2
  refine ⟨rl,_,_,rfl,rfl,k3 _ _ (by simp) hwl,by rw [zF7,sizeLine_eq];have:=D.len;omega,?_⟩
  have h3t:upd H1 t2 (.tup [.str "house",.str z]) t2=some (.tup (yR (hsR z))):=zB
  have n3:∀ r,upd H1 t2 (.tup [.str "house",.str z]) r=none->H1 r=none:=fun r h=>(zL h).1
  generalize upd H1 t2 (.tup [.str "house",.str z])=H3 at k3 h3t n3 ⊢
  have k4:zC [st,rl] H1 (upd H3 rl (.lst (ps.map V.ref ++ [.ref t2]))):=(k3.mono (by simp)).trans (zC.at (by simp))
  have D4:=DAt.more (H3:=upd H3 rl (.lst (ps.map V.ref ++ [.ref t2]))) (x:=hsR z) (by rw [zI D.ne];exact k3 _ _ (by simp) D.d) (zK k4 (wF D.d hwl) hpr) zB (by rw [zI (Ne.symm wt2)];exact h3t) hlen'
  refine ⟨_,rfl,st,rl,_,rfl,D4,fun r H5 D5 R5 hr5 k5=>?_⟩
  exact q r H5 D5 R5 (k01.none (by simp) (n3 r (zL hr5).1)) (((k01.mono (by simp)).trans k4).trans k5)
 | come z b=>
  dsimp only [gN,GD.wd,GD.nm]
  refine ⟨_,rfl,rfl,_,rfl,ifF (by decide +kernel) ?_⟩
  refine ⟨_,rfl,rfl,_,rfl,ifF (by decide +kernel) ?_⟩
  refine ⟨_,rfl,rfl,_,rfl,ifF (by decide +kernel) ?_⟩
  refine ⟨_,rfl,rfl,_,rfl,ifF (by decide +kernel) ?_⟩
  refine ⟨_,rfl,st,_,rfl,p_a D.d .non,?_⟩
  refine ⟨_,rfl,st,_,rfl,p_k zB false,?_⟩
  rw [vP]
  obtain ⟨ps0,hwl0,hpr0⟩:=id D.rw
  have kc:zC [st,rl] H1 (upd H1 st (.dK (mkD .non rl (yC s.hold) false))):=zC.at (by simp)
  have Dc:DAt (upd H1 st (.dK (mkD .non rl (yC s.hold) false))) st rl { s with ptr:=none,asked:=false }:=⟨zB,⟨ps0,by rw [zI (Ne.symm D.ne)];exact hwl0,zK kc (wF D.d hwl0) hpr0⟩,D.len⟩
  have htc:upd H1 st (.dK (mkD .non rl (yC s.hold) false)) t=some (.tup [.str "come",.str z,.bl b]):=by
   rw [zI (xO ht1 D.d (by intro z;cases z))];exact ht1
  have nc:∀ r,upd H1 st (.dK (mkD .non rl (yC s.hold) false)) r=none->H1 r=none:=fun r h=>(zL h).1
  clear D
  generalize upd H1 st (.dK (mkD .non rl (yC s.hold) false))=H2 at kc Dc htc nc ⊢
  refine ⟨_,rfl,t,_,2,_,rfl,rfl,htc,at2 _ _ _ _,_,rfl,?_⟩
  have kk:zC [st,rl] H H2:=(k01.mono (by simp)).trans kc
  have nn:∀ r,H2 r=none->H r=none:=fun r h=>k01.none (by simp) (nc r h)
  cases b with
  | false=>
   refine ifF rfl ?_
   refine ⟨_,rfl,st,rl,_,rfl,Dc,fun r H5 D5 R5 hr5 k5=>?_⟩
   exact q r H5 D5 R5 (nn r hr5) (kk.trans k5)
  | true=>
   refine ifT rfl ?_
   obtain ⟨ps,hwl,hpr⟩:=id Dc.rw
   have lps:=zP hpr
   rw [zF7] at lps
   refine ⟨_,rfl,st,_,rfl,g_r Dc.d,.inl ⟨rfl,_,.of hwl⟩,_,rfl,by show 2 <= sizeLine;decide,fun t2 ht2=>?_⟩
   have k3:zC [] H2 (upd H2 t2 (.tup [.str "house",.str z])):=zC.new ht2
   have wt2:rl ≠ t2:=zH hwl ht2
   refine ⟨rl,_,_,rfl,rfl,k3 _ _ (by simp) hwl,by rw [zF7,sizeLine_eq];have:=Dc.len;omega,?_⟩
   have h3t:upd H2 t2 (.tup [.str "house",.str z]) t2=some (.tup (yR (hsR z))):=zB
   have n3:∀ r,upd H2 t2 (.tup [.str "house",.str z]) r=none->H2 r=none:=fun r h=>(zL h).1
   generalize upd H2 t2 (.tup [.str "house",.str z])=H3 at k3 h3t n3 ⊢
   have k4:zC [st,rl] H2 (upd H3 rl (.lst (ps.map V.ref ++ [.ref t2]))):=(k3.mono (by simp)).trans (zC.at (by simp))
   have D4:=DAt.more (s:={ s with ptr:=none,asked:=false }) (H3:=upd H3 rl (.lst (ps.map V.ref ++ [.ref t2]))) (x:=hsR z) (by rw [zI Dc.ne];exact k3 _ _ (by simp) Dc.d) (zK k4 (wF Dc.d hwl) hpr) zB (by rw [zI (Ne.symm wt2)];exact h3t) hlen'
   refine ⟨_,rfl,st,rl,_,rfl,D4,fun r H5 D5 R5 hr5 k5=>?_⟩
   exact q r H5 D5 R5 (nn _ (n3 r (zL hr5).1)) ((kk.trans k4).trans k5)
end
abbrev sCh:Stmt:=top 38
abbrev sSO:Stmt:=top 39
abbrev sLN:Stmt:=top 40
def wV (Y:Addr->Prop) (H:Hp) (st:Addr) (ys:List (Addr × Addr)) (ss:List SS):Prop:=H st=some (.lst (ys.map fun y=>V.ref y.1))/\(Y st/\∀ y ∈ ys,Y y.1/\Y y.2)/\((∀ y ∈ ys,y.2 ≠ st)/\ys.Pairwise fun a b=>a.1 ≠ b.1/\a.2 ≠ b.2)/\ys.length=ss.length/\∀ (i:Nat) (y:Addr × Addr) (s:SS),ys[i]?=some y->ss[i]?=some s->DAt H y.1 y.2 s
theorem wV.on {Y:Addr->Prop} {H H':Hp} {st:Addr} {ys:List (Addr × Addr)} {ss:List SS} (h:wV Y H st ys ss) (k:zC [] H H'):wV Y H' st ys ss:=by
 obtain ⟨h1,h2,h3,h4,h5⟩:=h
 exact ⟨k _ _ (by simp) h1,h2,h3,h4,fun i y s e1 e2=>(h5 i y s e1 e2).keep k⟩
theorem DAt.keepS {S:List Addr} {H H':Hp} {st rl:Addr} {s:SS} (D:DAt H st rl s) (k:zC S H H') (h1:st ∉ S) (h2:rl ∉ S) (ht:∀ b ∈ S,∀ xs,H b ≠ some (.tup xs)):DAt H' st rl s:=by
 obtain ⟨ps,e,r⟩:=D.rw
 exact ⟨k _ _ h1 D.d,⟨ps,k _ _ h2 e,zK k ht r⟩,D.len⟩
theorem wV.keep {Y:Addr->Prop} {H H':Hp} {st:Addr} {ys:List (Addr × Addr)} {ss:List SS} {S:List Addr} (h:wV Y H st ys ss) (k:zC S H H') (hS:∀ b ∈ S,¬ Y b/\∀ xs,H b ≠ some (.tup xs)):wV Y H' st ys ss:=by
 obtain ⟨h1,h2,h3,h4,h5⟩:=h
 have far:∀ {u:Addr},Y u->u ∉ S:=fun hy hm=>(hS _ hm).1 hy
 exact ⟨k _ _ (far h2.1) h1,h2,h3,h4,fun i y s e1 e2=>(h5 i y s e1 e2).keepS k (far (h2.2 y (zGB e1)).1) (far (h2.2 y (zGB e1)).2) fun b hb=>(hS b hb).2⟩
theorem wV.seat {Y:Addr->Prop} {H H':Hp} {st:Addr} {ys:List (Addr × Addr)} {ss:List SS} {i:Nat} {y:Addr × Addr} {s':SS} (h:wV Y H st ys ss) (ey:ys[i]?=some y) (k:zC [y.1,y.2] H H') (D:DAt H' y.1 y.2 s'):wV Y H' st ys (ss.set i s'):=by
 obtain ⟨h1,h2,h3,h4,h5⟩:=h
 have il:i < ss.length:=by rw [<- h4];exact (zF9.mp ey).1
 have D0:=h5 i y _ ey (zF8 il)
 obtain ⟨ps,hwl,_⟩:=D0.rw
 have n1:st ≠ y.1:=xO h1 D0.d (by intro z;cases z)
 have n2:st ≠ y.2:=Ne.symm (h3.1 y (zGB ey))
 refine ⟨k _ _ (by simp [n1,n2]) h1,h2,h3,by rw [zG8];exact h4,fun j x t ex et=>?_⟩
 by_cases e:j=i
 ·subst e
  rw [ex] at ey
  cases ey
  rw [zG4 il] at et
  cases et
  exact D
 ·rw [zG3 (Ne.symm e)] at et
  have dj:=h5 j x t ex et
  obtain ⟨m1,m2⟩:=zBA h3.2 ex ey e
  obtain ⟨_,wz,_⟩:=id dj.rw
  exact dj.keepS k (by simp [m1,xO dj.d hwl (by intro z;cases z)]) (by simp [m2,xO wz D0.d (by intro z;cases z)]) (wF D0.d hwl)
section
variable {P:Program} {w:World} {K:PySem.W.Frag} {mg:Str->Option Value} {base:Heap} {C:Addr}
theorem scLN:zN ["_law_told_here","_law_right"] ["_law_told_here","_law_right"] (zG sLN):=⟨rfl,rfl,rfl,by decide +kernel,rfl,by decide +kernel,by decide +kernel⟩
theorem zEN:zN ["_law_states","_law_asker","_law_right"] ["_law_states","_law_asker"] (zG sSO):=⟨rfl,rfl,rfl,by decide +kernel,rfl,by decide +kernel,by decide +kernel⟩
theorem kE:zN ["_law_states","_law_found","_law_right","_law_ranks","_law_k","_law_many"] ["_law_states"] (zG sCh):=⟨rfl,rfl,rfl,by decide +kernel,rfl,by decide +kernel,by decide +kernel⟩
def zB2:Sp:=fun vs H Q _=>∃ (i:Nat) (a:Addr) (ls:List (List V)),vs=[.ref a,.int (i:Int)]/\Rows H a ls/\(∀ l ∈ ls,l ≠ []/\l.length <= 10)/\ls.length <= 100/\∀ (r:Addr) (H':Hp),Rows H' r (ls.map (mY i))->H r=none->zC [] H H'->Q (.ref r) H'
theorem okLN (G:yW K mg "_law_numbered" sLN ["_law_told_here","_law_right"]):Cal P w K mg base CX0 1 "_law_numbered" ["_law_told_here","_law_right"] zB2:=by
 refine G.ok scLN (fun vs H Q E h=>by obtain ⟨i,a,ls,rfl,_⟩:=h;rfl) (fun f cdv A outer s0 H vs Q E hr h=>?_)
 obtain ⟨i,a,ls,rfl,R,hl,ll,q⟩:=h
 obtain ⟨ps,hps,hpp⟩:=id R
 refine ⟨_,(zF (zO (vV (N:=["_law_told_here","_law_right"]) (sc:=zG sLN) (ix:=[1]) (by decide +kernel) (xE (pv 0)) (fun _ _ _ _=>xD) (fun _ _ _ _=>(yO (mV (K:=K)) (z8 (zA (zV zY (pv 0) zJ (fun _ _=>rfl)) (zA (pv 1) zD))) (wO (mB (K:=K)) (pv 0) (wN zJ) uH)))))),?_⟩
 refine ⟨_,rfl,a,rfl,⟨_,.of hps⟩,fun acc hacc=>?_⟩
 refine nD (ds:=ls) id (mY i) (fun _=>true) (fun l q=>[some (.ref q)]) [some (.int (i:Int))] (by omega) hacc (by rw [List.map_id];exact R) ⟨[none],rfl,rfl⟩ (fun _ _=>rfl) ?_ ?_ ?_ ?_
 ·intro l q vs H R _ hv hq h
  match vs,hv with
  | [v],_=>exact h
 ·intro l q H R _ _ _ h
  exact h H (zC.refl _)
 ·intro l q H R hm hq h
  exact pM (hl l hm) hq h
 ·intro H' hR k
  rw [List.filter_eq_self.mpr (fun _ _=>rfl)] at hR
  exact q acc H' hR hacc k
def zBZ:Sp:=fun vs H Q _=>∃ (Y:Addr->Prop) (st:Addr) (ys:List (Addr × Addr)) (ss:List SS) (z:Str),vs=[.ref st,.str z]/\wV Y H st ys ss/\ss.length <= 100 /\
 (∀ H',z ∉ yK ss->zC [] H H'->Q .non H')/\(∀ (i:Nat) (s:SS) (H':Hp),ss[i]?=some s->z ∈ xU s->zC [] H H'->Q (.int (i:Int)) H')
theorem okSO (G:yW K mg "_law_seat_of" sSO ["_law_states","_law_asker"]) (b_len:Blt mg "len") (b_range:Blt mg "range"):Cal P w K mg base CX0 1 "_law_seat_of" ["_law_states","_law_asker"] zBZ:=by
 refine G.ok zEN (fun vs H Q E h=>by obtain ⟨Y,st,ys,ss,z,rfl,_⟩:=h;rfl) (fun f cdv A outer s0 H vs Q E hr h=>?_)
 obtain ⟨Y,st,ys,ss,z,rfl,hS,l100,q0,q1⟩:=h
 have hu:=uC hr
 refine ⟨_,(zE (vU PassesOwn.never rfl (wI rfl b_range.no (zA (z9 yT b_len xI (zA (pv 0) zD)) zD)) (yE (i:=2) zEN.nd rfl (Or.inl rfl)) (zF (z4 (PW.pt (pK (zT xW (yQ hu (zV yA (pv 0) (pv 2) (fun _ _=>rfl)) zM (fun _ _=>rfl)) (pv 1) (zX _)) (sL (zT (oW hu) (z8 (zA zM (zA (pv 1) zD))) (yQ hu (zV yA (pv 0) (pv 2) (fun _ _=>rfl)) zM (fun _ _=>rfl)) (by with_unfolding_all rfl))))) (zF (zO (pv 2))) zQ)))
   (zF (zO yZ))),?_⟩
 obtain ⟨hst,_,_,ly,_⟩:=id hS
 refine ⟨_,rfl,_,_,rfl,.inl ⟨_,.of hst,rfl⟩,_,rfl,by omega,by rw [zF7,ly];omega,u9 (fun i σ H1=>∃ v2:Option V,σ=[some (.ref st),some (.str z),v2]/\(∀ (j:Nat) (s:SS),j < i->ss[j]?=some s->z ∉ xU s)/\zC [] H H1) ⟨_,rfl,fun j s hj=>absurd hj (Nat.not_lt_zero j),zC.refl _⟩ ?_ ?_⟩
 ·rintro i σ H1 hi ⟨v2,rfl,no,k1⟩
  rw [zF7,Int.toNat_natCast] at hi
  have il:i < ss.length:=by omega
  have es:ss[i]?=some ss[i]:=zF8 il
  generalize ss[i]=s at es
  have ey:ys[i]?=some ys[i]:=zF8 (by omega)
  generalize ys[i]=y at ey
  obtain ⟨hst1,_,_,_,hd⟩:=hS.on k1
  have D:=hd i y s ey es
  have ei:(0:Int) + (i:Int)=(i:Int):=Int.zero_add _
  have ix:atI (ys.map fun y=>V.ref y.1) (0 + (i:Int))=some (.ref y.1):=by rw [ei];exact wK ey
  refine ⟨_,rfl,_,rfl,st,_,_,_,rfl,rfl,hst1,ix,y.1,_,rfl,g_h D.d,_,rfl,kC _ _,_,rfl,?_⟩
  rw [cT]
  by_cases h1:s.hold=some z
  ·rw [zGM h1]
   refine ifT rfl (ifT rfl ⟨_,rfl,?_⟩)
   rw [ei]
   exact q1 i s H1 es (wB.mpr (.inl h1)) k1
  ·rw [zGN h1]
   refine ifF rfl ?_
   refine ⟨_,rfl,by show 2 <= sizeLine;decide,fun t2 ht2=>?_⟩
   have k2:zC [] H1 (upd H1 t2 (.tup [.str "asker",.str z])):=zC.new ht2
   have D3:=D.keep k2
   refine ⟨_,rfl,_,rfl,st,_,_,_,rfl,rfl,k2 _ _ (by simp) hst1,ix,y.1,_,rfl,g_r D3.d,zDJ (x:=yH z) D3.rw zB ⟨_,rfl,?_⟩⟩
   by_cases h2:yH z ∈ s.row
   ·rw [zGM h2]
    refine ifT rfl ⟨_,rfl,?_⟩
    rw [ei]
    exact q1 i s _ es (wB.mpr (.inr h2)) (k1.trans k2)
   ·rw [zGN h2]
    refine ifF rfl ⟨_,rfl,fun j t hj et=>?_,k1.trans k2⟩
    by_cases e:j=i
    ·subst e
     rw [es] at et
     cases et
     exact fun hm=>(wB.mp hm).elim h1 h2
    ·exact no j t (by omega) et
 ·rintro σ H1 ⟨v2,rfl,no,k1⟩
  refine q0 H1 (fun hm=>?_) k1
  obtain ⟨i,s,es,hz⟩:=wR.mp hm
  have il:i < ss.length:=(zF9.mp es).1
  exact no i s (by rw [zF7,Int.toNat_natCast];omega) es hz
end
abbrev sDn:Stmt:=top 42
abbrev sPu:Stmt:=top 43
theorem zAQ (x y:V) (l:List V):vW (x :: y :: l) none (some 2)=[x,y]:=by
 unfold vW
 rw [show (2:Int)=((2:Nat):Int) from rfl,HT.sIx_nat]
 simp only [zGS]
 rw [show min 2 (l.length + 1 + 1)=2 by omega]
 rfl
theorem pV (x y z:V) (l:List V):vW (x :: y :: z :: l) (some 3) none=l:=by
 unfold vW
 rw [show (3:Int)=((3:Nat):Int) from rfl,HT.sIx_nat]
 simp only [zGS]
 rw [show min 3 (l.length + 1 + 1 + 1)=3 by omega]
 show l.take _=l
 rw [zGW]
 show l.length <= HT.sIx (l.length + 1 + 1 + 1) (l.length + 1 + 1 + 1) none - 3
 unfold HT.sIx
 simp
theorem nF {K:PySem.W.Frag} {H:Hp} {t:Addr} {Q:VK} {a b:V} {l:List V} (ht:H t=some (.tup (a :: b :: l))) (h:∀ (u:Addr) (H1:Hp),zC [] H H1->H1 u=some (.tup [a,b])->Q (.ref u) H1):eI K (.ref t) none (some 2) H Q:=by
 cases l with
 | nil=>exact ⟨t,_,rfl,.of ht,.inl ⟨rfl,rfl,h t H (zC.refl _) ht⟩⟩
 | cons c l=>
  refine ⟨t,_,rfl,.of ht,.inr ⟨?_,fun p hp=>?_⟩⟩
  ·rintro ⟨_,e⟩
   rw [show (2:Int)=((2:Nat):Int) from rfl,HT.sIx_nat] at e
   simp only [zGS] at e
   omega
  ·rw [zAQ]
   exact h p _ (zC.new hp) zB
theorem nV {a b c:V} {l:List V} {p:Prop}:¬ (HT.sIx (a :: b :: c :: l).length 0 (some 3)=0/\p):=by
 rintro ⟨e,_⟩
 rw [show (3:Int)=((3:Nat):Int) from rfl,HT.sIx_nat] at e
 simp only [zGS] at e
 omega
theorem aA (s:SS) {n:Nat} (h:n=s.row.length):[V.int ((n:Int) + (if (!decide (yC s.hold=.non))=true then 1 else 0)),V.int (if (!decide (yC s.ptr=V.non))=true then 1 else 0)]=vA s:=by
 unfold vA qX
 rw [h]
 cases s.hold <;> cases s.ptr <;> simp [yC]
def nU (Y:Addr->Prop) (H:Hp) (st:Addr) (ys:List (Addr × Addr)) (ss:List SS) (i:Nat) (s:SS) (d:DD) (Q:VK):Prop:=∀ (r:Addr) (y:Addr × Addr) (H':Hp),ys[i]?=some y->wV Y H' st ys (ss.set i (zS (zW s d)).1)->Rows H' r ((zS (zW s d)).2.map (mY i))->H r=none->zC [y.1,y.2] H H'->Q (.ref r) H'
theorem nU.num {Y:Addr->Prop} {H H1 H2:Hp} {st:Addr} {ys:List (Addr × Addr)} {ss:List SS} {i:Nat} {s:SS} {d:DD} {Q:VK} {E:XK} {y:Addr × Addr} {r:Addr} (hh:wV Y H st ys ss) (ey:ys[i]?=some y) (q:nU Y H st ys ss i s d Q) (k01:zC [] H H1) (D:DAt H2 y.1 y.2 (zS (zW s d)).1) (R:Rows H2 r (zS (zW s d)).2) (nr:H1 r=none) (k2:zC [y.1,y.2] H1 H2):zB2 [.ref r,.int (i:Int)] H2 Q E:=by
 obtain ⟨l1,l2⟩:=qL (zW s d)
 refine ⟨i,r,_,rfl,R,l1,l2,fun r' H3 R3 n3 k3=>q r' y H3 ey (((hh.on k01).seat ey k2 D).on k3) R3 ?_ (((k01.mono (by simp)).trans k2).trans (k3.mono (by simp)))⟩
 exact k01.none (by simp) (k2.none (D.fresh n3) n3)
theorem zBK (nm:V) (nl sl:Addr):(hfl nm nl sl).lookup ("want" : Str)=none:=rfl
theorem zBL (nm:V) (nl sl:Addr):(hfl nm nl sl).lookup ("leave" : Str)=none:=rfl
theorem zFK (nm:V) (nl sl:Addr):(hfl nm nl sl).lookup ("done" : Str)=none:=rfl
theorem zFN (nm:V) (nl sl:Addr):(hfl nm nl sl).lookup ("ask" : Str)=none:=rfl
theorem zFL (nm:V) (nl sl:Addr):(hfl nm nl sl).lookup ("come" : Str)=none:=rfl
section
variable {P:Program} {w:World} {K:PySem.W.Frag} {mg:Str->Option Value} {base:Heap} {C CS:Addr}
theorem bX:zN ["_law_states","_law_deed","_law_right"] ["_law_states","_law_deed"] (zG sDn):=⟨rfl,rfl,rfl,by decide +kernel,rfl,by decide +kernel,by decide +kernel⟩
theorem scPu:zN ["_law_house","_law_deed"] ["_law_house","_law_deed"] (zG sPu):=⟨rfl,rfl,rfl,by decide +kernel,rfl,by decide +kernel,by decide +kernel⟩
def zEI:Sp:=fun vs H Q _=>∃ (Y:Addr->Prop) (st:Addr) (ys:List (Addr × Addr)) (ss:List SS),vs=[.ref st]/\wV Y H st ys ss/\ss ≠ []/\ss.length <= 100/\∀ H',zC [] H H'->Q (.int (rK ss:Int)) H'
theorem okCh (G:yW K mg "_law_chosen" sCh ["_law_states"]) (b_len:Blt mg "len") (b_range:Blt mg "range") (b_int:Blt mg "int"):Cal P w K mg base CX0 1 "_law_chosen" ["_law_states"] zEI:=by
 refine G.ok kE (fun vs H Q E h=>by obtain ⟨Y,st,ys,ss,rfl,_⟩:=h;rfl) (fun f cdv A outer s0 H vs Q E hr h=>?_)
 obtain ⟨Y,st,ys,ss,rfl,hS,ne,l100,q⟩:=h
 have hu:=uC hr
 have pos:0 < ss.length:=zGX.mpr ne
 refine ⟨_,(zE (yI (i:=1) kE.nd rfl (Or.inl rfl) zJ)
   (zE (vU PassesOwn.never rfl (i9 rfl b_range.no (zA zJ (zA (z9 yT b_len xI (zA (pv 0) zD)) zD))) (yE (i:=2) kE.nd rfl (Or.inl rfl)) (zE (yI (i:=3) kE.nd rfl (Or.inl rfl) (y8 zD))
   (zE (vU PassesOwn.never rfl (xE (y8 (zA (pv 2) (zA (pv 1) zD)))) (yE (i:=4) kE.nd rfl (Or.inl rfl)) (zE (yI (i:=5) kE.nd rfl (Or.inl rfl) (yO wQ (z9 yT b_len xI (zA (yQ hu (zV yA (pv 0) (pv 4) (fun _ _=>rfl)) zM (fun _ _=>rfl)) zD)) (xX pW rfl b_int.no jB (zA (wA u5 (yQ hu (zV yA (pv 0) (pv 4) (fun _ _=>rfl)) zM (fun _ _=>rfl)) yZ (zX _)) zD))))
   (zF (yG (vC PySem.F.plainAttrs_list PySem.F.slot_list_append PySem.F.type_list_append xA (pv 3) (zA (z8 (zA (pv 5) (zA (xX pW rfl b_int.no jB (zA (wA u5 (yQ hu (zV yA (pv 0) (pv 4) (fun _ _=>rfl)) zM (fun _ _=>rfl)) yZ (zX _)) zD)) zD))) zD))))))
   (zF (z4 (zT (zCT (Nat.lt_of_succ_lt hu)) (zV yA (pv 3) zJ (fun _ _=>rfl)) (zV yA (pv 3) zJ (fun _ _=>rfl)) (zX _)) (zF (yI (i:=1) kE.nd rfl (Or.inl rfl) (pv 2))) zQ)))))
   (zF (zO (pv 1))))),?_⟩
 obtain ⟨hst,_,_,ly,_⟩:=id hS
 have len:((List.map (fun y:Addr × Addr=>V.ref y.1) ys).length:Int)=(ss.length:Int):=by rw [zF7,ly]
 refine ⟨_,rfl,_,_,rfl,.inl ⟨_,.of hst,rfl⟩,_,_,rfl,⟨by omega,by omega,by rw [len];omega,by rw [len];omega⟩,?_⟩
 rw [len,show (((ss.length:Int)) - 1).toNat=ss.length - 1 by omega]
 refine u9 (fun k σ H1=>∃ v2 v3 v4 v5:Option V,σ=[some (.ref st),some (.int (argBest (bt2 ss) k:Int)),v2,v3,v4,v5]/\zC [] H H1) ⟨_,_,_,_,rfl,zC.refl _⟩ ?_ ?_
 ·rintro k σ H1 hk ⟨v2,v3,v4,v5,rfl,k1⟩
  have bl:=uQ (bt2 ss) k
  generalize eb:argBest (bt2 ss) k=b at bl
  have kl:k + 1 < ss.length:=by omega
  have bl':b < ss.length:=by omega
  rw [show (1:Int) + (k:Int)=((k + 1:Nat):Int) by omega]
  refine ⟨zGH _,fun rk hrk=>?_⟩
  have k2:zC [] H1 (upd H1 rk (.lst [])):=zC.new hrk
  have e2:upd H1 rk (.lst []) rk=some (.lst []):=zB
  generalize upd H1 rk (.lst [])=H2 at k2 e2 ⊢
  refine ⟨_,rfl,_,rfl,by show 2 <= sizeLine;decide,fun l2 hl2=>⟨l2,rfl,⟨_,.of zB⟩,?_⟩⟩
  have k3:zC [] H2 (upd H2 l2 (.lst [.int ((k + 1:Nat):Int),.int (b:Int)])):=zC.new hl2
  have e3:upd H2 l2 (.lst [.int ((k + 1:Nat):Int),.int (b:Int)]) l2=some (.lst ([k + 1,b].map fun n:Nat=>V.int (n:Int))):=zB
  have rl2:rk ≠ l2:=zH e2 hl2
  have e23:=k3 _ _ (by simp) e2
  generalize upd H2 l2 (.lst [.int ((k + 1:Nat):Int),.int (b:Int)])=H3 at k3 e3 e23 ⊢
  have k03:=(k1.trans k2).trans k3
  have rH:H rk=none:=k1.none (by simp) hrk
  refine vL (K:=K) (a:=l2) (xs:=[k + 1,b].map fun n:Nat=>V.int (n:Int)) (fun j σ H4=>∃ (v4 v5:Option V) (ps:List Addr),σ=[some (.ref st),some (.int (b:Int)),some (.int ((k + 1:Nat):Int)),some (.ref rk),v4,v5]/\H4 rk=some (.lst (ps.map V.ref))/\Paired (fun q r=>H4 q=some (.tup r)) ps (([k + 1,b].take j).map fun n=>(ss.map vA).getD n [])/\zC [rk] H3 H4) ⟨_,_,[],rfl,e23,.nil,zC.refl _⟩ ?_ ?_ ?_
  ·rintro j σ H4 _ ⟨v4,v5,ps,rfl,h4,hp,k4⟩
   exact .of (k4 _ _ (by simp [Ne.symm rl2]) e3)
  ·rintro j x σ H4 hx ⟨v4,v5,ps,rfl,h4,hp,k4⟩
   rw [zGD] at hx
   cases en:[k + 1,b][j]? with
   | none=>rw [en] at hx;cases hx
   | some n=>
   rw [en] at hx
   have ex:V.int (n:Int)=x:=zGE hx
   subst ex
   have nl:n < ss.length:=by
    have:=zGB en
    simp at this
    rcases this with rfl | rfl <;> assumption
   have es:ss[n]?=some ss[n]:=zF8 nl
   generalize ss[n]=s at es
   have ey:ys[n]?=some ys[n]:=zF8 (by omega)
   generalize ys[n]=y at ey
   have k04:zC [] H H4:=k03.under k4 (by intro c hc;rw [zGA.mp hc];exact rH)
   obtain ⟨hst4,_,_,_,hd⟩:=hS.on k04
   have D:=hd n y s ey es
   obtain ⟨rs,hrl,hrp⟩:=id D.rw
   have lrs:=zP hrp
   rw [zF7] at lrs
   have ix:=wK ey
   refine ⟨_,rfl,_,rfl,st,_,_,_,rfl,rfl,hst4,ix,y.1,_,rfl,g_r D.d,_,_,rfl,.inl ⟨_,.of hrl,rfl⟩,_,rfl,_,rfl,st,_,_,_,rfl,rfl,hst4,ix,y.1,_,rfl,g_h D.d,rfl,.inr ⟨_,rfl,_,_,rfl,rfl,?_⟩⟩
   refine ⟨_,rfl,.inl ⟨rfl,_,.of h4⟩,_,rfl,_,rfl,_,rfl,st,_,_,_,rfl,rfl,hst4,ix,y.1,_,rfl,g_a D.d,rfl,.inr ⟨_,rfl,by show 2 <= sizeLine;decide,fun t ht=>?_⟩⟩
   rw [aA s (by rw [zF7];exact lrs)] at *
   have k5:zC [] H4 (upd H4 t (.tup (vA s))):=zC.new ht
   have e5:upd H4 t (.tup (vA s)) t=some (.tup (vA s)):=zB
   have h5:=k5 _ _ (by simp) h4
   have tr:t ≠ rk:=Ne.symm (zH h4 ht)
   have lp:=zP hp
   rw [zF7,zGQ] at lp
   generalize upd H4 t (.tup (vA s))=H5 at k5 e5 h5 ⊢
   refine ⟨rk,_,_,rfl,rfl,h5,by rw [zF7,sizeLine_eq];simp at lp;omega,?_⟩
   have k6:zC [rk] H5 (upd H5 rk (.lst (ps.map V.ref ++ [.ref t]))):=zC.at (by simp)
   have nt:∀ c ∈ [rk],∀ xs,H5 c ≠ some (.tup xs):=fun c hc xs z=>by rw [zGA.mp hc,h5] at z;cases z
   refine ⟨_,_,ps ++ [t],rfl,by rw [zB,zGJ];rfl,?_,(k4.trans (k5.mono (by simp))).trans k6⟩
   rw [wH en,zGJ]
   have eg:(ss.map vA).getD n []=vA s:=by rw [zGC,zGD,es];rfl
   refine xS (zK k6 nt (zK k5 (fun c hc=>by cases hc) hp)) ?_
   show _=some (HO.tup ((ss.map vA).getD n []))
   rw [eg]
   exact k6 _ _ (by simp [tr]) e5
  ·rintro σ H4 ⟨v4,v5,ps,rfl,h4,hp,k4⟩
   have k04:zC [] H H4:=k03.under k4 (by intro c hc;rw [zGA.mp hc];exact rH)
   match ps,hp with
   | [t1,t2],.cons h1 (.cons h2 .nil)=>
    have kin:Kin ((ss.map vA).getD (k + 1) []) ((ss.map vA).getD b []):=by
     rw [zGC,zGC,zGD,zGD,zF8 kl,zF8 bl']
     exact .int (.int .nil)
    refine ⟨_,rfl,rk,_,0,_,rfl,rfl,h4,at0 _ _,_,rfl,rk,_,1,_,rfl,rfl,h4,at1 _ _ _,t1,t2,_,_,rfl,rfl,h1,h2,kin,_,rfl,?_⟩
    have ea:argBest (bt2 ss) (k + 1)=if bt2 ss (k + 1) b=true then k + 1 else b:=by
     show (if bt2 ss (k + 1) (argBest (bt2 ss) k)=true then k + 1 else argBest (bt2 ss) k)=_
     rw [eb]
    show if bt2 ss (k + 1) b=true then _ else _
    by_cases hb:bt2 ss (k + 1) b=true
    ·rw [if_pos hb]
     rw [if_pos hb] at ea
     exact ⟨_,rfl,_,_,_,_,by rw [ea];rfl,k04⟩
    ·rw [if_neg hb]
     rw [if_neg hb] at ea
     exact ⟨_,_,_,_,by rw [ea],k04⟩
 ·rintro σ H1 ⟨v2,v3,v4,v5,rfl,k1⟩
  refine ⟨_,rfl,?_⟩
  rw [<- zAU ne]
  exact q H1 k1
def zEG:Sp:=fun vs H Q _=>∃ (Y:Addr->Prop) (st t:Addr) (ys:List (Addr × Addr)) (ss:List SS) (k:Nat) (nb:List Str) (h:HD) (i:Nat) (s:SS) (d:DD),vs=[.ref st,.ref t]/\wV Y H st ys ss/\vX k ss/\k <= 60/\ss.length <= 100/\H t=some (.tup (hdV h))/\AtR nb ss h i s d/\nU Y H st ys ss i s d Q
theorem okDn (G:yW K mg "_law_done" sDn ["_law_states","_law_deed"]) (CSO:Cal P w K mg base CX0 1 "_law_seat_of" ["_law_states","_law_asker"] zBZ) (CCh:Cal P w K mg base CX0 1 "_law_chosen" ["_law_states"] zEI) (CMa:Cal P w K mg base CX0 2 "_law_made_at" ["_law_state_here","_law_deed"] fS) (CLN:Cal P w K mg base CX0 1 "_law_numbered" ["_law_told_here","_law_right"] zB2):Cal P w K mg base CX0 3 "_law_done" ["_law_states","_law_deed"] zEG:=by
 refine G.ok bX (fun vs H Q E h=>by obtain ⟨Y,st,t,ys,ss,k,nb,hx,i,s,dd,rfl,_⟩:=h;rfl) (fun f cdv A outer s0 H vs Q E hr h=>?_)
 obtain ⟨Y,st,t,ys,ss,k,nb,hx,i,s,dd,rfl,hS,I,hk,l100,ht,a,q⟩:=h
 have hr2:z7 2 _:=hr
 have hr1:z7 1 _:=hr.mono (by decide)
 have es:=a.here
 have ok:=a.ok
 have il:i < ss.length:=(zF9.mp es).1
 obtain ⟨hst,_,_,ly,hd⟩:=id hS
 have ey:ys[i]?=some ys[i]:=zF8 (by omega)
 generalize ys[i]=y at ey
 have si:=I.si s (zGB es)
 have lr:s.row.length < 900:=by have:=I.rl s (zGB es);omega
 have ne:ss ≠ []:=fun e=>by rw [e] at il;simp at il
 have hD0:=(hd i y s ey es).d
 obtain ⟨_,hW0,_⟩:=id (hd i y s ey es).rw
 refine ⟨_,(zE (z4 (zT sO (zV zY (pv 1) zJ (fun _ _=>rfl)) (z8 (zA zM (zA zM zD))) (by with_unfolding_all rfl)) (zF (zO (zU CLN hr1 (zA (zU CMa hr2 (zA (zV yA (pv 0) (zV zY (pv 1) zJ (fun _ _=>rfl)) (fun _ _=>rfl)) (zA (yO iC (z8 (zA (zV zY (pv 1) zJ (fun _ _=>rfl)) (zA (zV zY (pv 1) zJ (fun _ _=>rfl)) zD))) (wO rN (pv 1) (wN zJ) uH)) zD))) (zA (zV zY (pv 1) zJ (fun _ _=>rfl)) zD))))) zQ)
   (zE (yI (i:=2) bX.nd rfl (Or.inl rfl) (zU CSO hr1 (zA (pv 0) (zA (zV zY (pv 1) zJ (fun _ _=>rfl)) zD))))
   (zE (z4 (zT xW (zV zY (pv 1) zJ (fun _ _=>rfl)) zM (zX _)) (zE (yI (i:=2) bX.nd rfl (Or.inl rfl) (zV zY (pv 1) zJ (fun _ _=>rfl)))
   (zF (z4 (zT vJ (pv 2) yZ (zX _)) (zF (yI (i:=2) bX.nd rfl (Or.inl rfl) (zU CCh hr1 (zA (pv 0) zD)))) zQ))) zQ)
   (zF (zO (zU CLN hr1 (zA (zU CMa hr2 (zA (zV yA (pv 0) (pv 2) (fun _ _=>rfl)) (zA (wO rN (pv 1) uH (wN zJ)) zD))) (zA (pv 2) zD)))))))),?_⟩
 cases a with
 | @any z _ _ _ eb gz nz=>
  refine ⟨_,rfl,t,_,0,_,rfl,rfl,ht,at0 _ _ ,by show 2 <= sizeLine;decide,fun tp htp=>⟨tp,_,rfl,.inr (.of zB),rfl,rfl,_,rfl,ifF (by decide +kernel) ?_⟩⟩
  have k1:zC [] H (upd H tp (.tup [.str "ask",.str "come"])):=zC.new htp
  generalize upd H tp (.tup [.str "ask",.str "come"])=H1 at k1 ⊢
  have ht1:=k1 _ _ (by simp) ht
  refine ⟨_,rfl,_,rfl,t,_,1,_,rfl,rfl,ht1,at1 _ _ _,Y,st,ys,ss,z,rfl,hS.on k1,l100,fun H2 _ k2=>?_,fun i' s' H2 es' hz _=>absurd (wR.mpr ⟨i',s',es',hz⟩) nz⟩
  have k02:=k1.trans k2
  have ht2:=k02 _ _ (by simp) ht
  refine ⟨_,rfl,t,_,0,_,rfl,rfl,ht2,at0 _ _,rfl,_,rfl,ifT (by decide +kernel) ⟨_,rfl,t,_,2,_,rfl,rfl,ht2,at2 _ _ _ _,?_⟩⟩
  refine ⟨_,rfl,rfl,_,rfl,ifT rfl ⟨_,rfl,Y,st,ys,ss,rfl,hS.on k02,ne,l100,fun H3 k3=>?_⟩⟩
  have k03:=k02.trans k3
  rw [<- eb]
  refine ⟨_,rfl,_,rfl,st,_,_,_,rfl,rfl,k03 _ _ (by simp) hst,wK ey,_,rfl,_,rfl,nF (k03 _ _ (by simp) ht) fun u H4 k4 hu4=>?_⟩
  have k04:=k03.trans k4
  exact ⟨y.1,y.2,u,s,(.want z),rfl,(hd i y s ey es).keep k04,hu4,si,ok,lr,fun r H5 D5 R5 n5 k5=>⟨_,rfl,nU.num (E:=E) hS ey q k04 D5 R5 n5 k5⟩⟩
 | @want z _ _ _ gz nz=>
  refine ⟨_,rfl,t,_,0,_,rfl,rfl,ht,at0 _ _ ,by show 2 <= sizeLine;decide,fun tp htp=>⟨tp,_,rfl,.inr (.of zB),rfl,rfl,_,rfl,ifF (by decide +kernel) ?_⟩⟩
  have k1:zC [] H (upd H tp (.tup [.str "ask",.str "come"])):=zC.new htp
  generalize upd H tp (.tup [.str "ask",.str "come"])=H1 at k1 ⊢
  have ht1:=k1 _ _ (by simp) ht
  refine ⟨_,rfl,_,rfl,t,_,1,_,rfl,rfl,ht1,at1 _ _ _,Y,st,ys,ss,z,rfl,hS.on k1,l100,fun H2 _ k2=>?_,fun i' s' H2 es' hz _=>absurd (wR.mpr ⟨i',s',es',hz⟩) nz⟩
  have k02:=k1.trans k2
  have ht2:=k02 _ _ (by simp) ht
  refine ⟨_,rfl,t,_,0,_,rfl,rfl,ht2,at0 _ _,rfl,_,rfl,ifT (by decide +kernel) ⟨_,rfl,t,_,2,_,rfl,rfl,ht2,at2 _ _ _ _,?_⟩⟩
  refine ⟨_,rfl,rfl,_,rfl,ifF rfl ?_⟩
  refine ⟨_,rfl,_,rfl,st,_,_,_,rfl,rfl,k02 _ _ (by simp) hst,wK ey,_,rfl,_,rfl,nF ht2 fun u H4 k4 hu4=>?_⟩
  have k04:=k02.trans k4
  exact ⟨y.1,y.2,u,s,(.want z),rfl,(hd i y s ey es).keep k04,hu4,si,ok,lr,fun r H5 D5 R5 n5 k5=>⟨_,rfl,nU.num (E:=E) hS ey q k04 D5 R5 n5 k5⟩⟩
 | @leave z _ _ _ hm=>
  refine ⟨_,rfl,t,_,0,_,rfl,rfl,ht,at0 _ _ ,by show 2 <= sizeLine;decide,fun tp htp=>⟨tp,_,rfl,.inr (.of zB),rfl,rfl,_,rfl,ifF (by decide +kernel) ?_⟩⟩
  have k1:zC [] H (upd H tp (.tup [.str "ask",.str "come"])):=zC.new htp
  generalize upd H tp (.tup [.str "ask",.str "come"])=H1 at k1 ⊢
  have ht1:=k1 _ _ (by simp) ht
  have zn:z ∈ xU s:=wB.mpr (.inr hm)
  refine ⟨_,rfl,_,rfl,t,_,1,_,rfl,rfl,ht1,at1 _ _ _,Y,st,ys,ss,z,rfl,hS.on k1,l100,fun H2 no _=>absurd (wR.mpr ⟨i,s,es,zn⟩) no,fun i' s' H2 es' hz k2=>?_⟩
  obtain rfl:=t0 I.nd es es' zn hz
  have k02:=k1.trans k2
  have ht2:=k02 _ _ (by simp) ht
  refine ⟨_,rfl,t,_,0,_,rfl,rfl,ht2,at0 _ _,rfl,_,rfl,ifF (by decide +kernel) ?_⟩
  refine ⟨_,rfl,_,rfl,st,_,_,_,rfl,rfl,k02 _ _ (by simp) hst,wK ey,_,rfl,_,rfl,nF ht2 fun u H4 k4 hu4=>?_⟩
  have k04:=k02.trans k4
  exact ⟨y.1,y.2,u,s,(.leave z),rfl,(hd i y s ey es).keep k04,hu4,si,ok,lr,fun r H5 D5 R5 n5 k5=>⟨_,rfl,nU.num (E:=E) hS ey q k04 D5 R5 n5 k5⟩⟩
 | @done z _ _ _ hm=>
  refine ⟨_,rfl,t,_,0,_,rfl,rfl,ht,at0 _ _ ,by show 2 <= sizeLine;decide,fun tp htp=>⟨tp,_,rfl,.inr (.of zB),rfl,rfl,_,rfl,ifF (by decide +kernel) ?_⟩⟩
  have k1:zC [] H (upd H tp (.tup [.str "ask",.str "come"])):=zC.new htp
  generalize upd H tp (.tup [.str "ask",.str "come"])=H1 at k1 ⊢
  have ht1:=k1 _ _ (by simp) ht
  have zn:z ∈ xU s:=wB.mpr (.inl hm)
  refine ⟨_,rfl,_,rfl,t,_,1,_,rfl,rfl,ht1,at1 _ _ _,Y,st,ys,ss,z,rfl,hS.on k1,l100,fun H2 no _=>absurd (wR.mpr ⟨i,s,es,zn⟩) no,fun i' s' H2 es' hz k2=>?_⟩
  obtain rfl:=t0 I.nd es es' zn hz
  have k02:=k1.trans k2
  have ht2:=k02 _ _ (by simp) ht
  refine ⟨_,rfl,t,_,0,_,rfl,rfl,ht2,at0 _ _,rfl,_,rfl,ifF (by decide +kernel) ?_⟩
  refine ⟨_,rfl,_,rfl,st,_,_,_,rfl,rfl,k02 _ _ (by simp) hst,wK ey,_,rfl,_,rfl,nF ht2 fun u H4 k4 hu4=>?_⟩
  have k04:=k02.trans k4
  exact ⟨y.1,y.2,u,s,(.done z),rfl,(hd i y s ey es).keep k04,hu4,si,ok,lr,fun r H5 D5 R5 n5 k5=>⟨_,rfl,nU.num (E:=E) hS ey q k04 D5 R5 n5 k5⟩⟩
 | @ask z _ _ _ zn gz n1 n2=>
  have ht:H t=some (.tup [.str "ask",.str z,.int (i:Int)]):=ht
  refine ⟨_,rfl,t,_,0,_,rfl,rfl,ht,at0 _ _ ,by show 2 <= sizeLine;decide,fun tp htp=>⟨tp,_,rfl,.inr (.of zB),rfl,rfl,_,rfl,ifT (by decide +kernel) ?_⟩⟩
  have k1:zC [] H (upd H tp (.tup [.str "ask",.str "come"])):=zC.new htp
  generalize upd H tp (.tup [.str "ask",.str "come"])=H1 at k1 ⊢
  have ht1:=k1 _ _ (by simp) ht
  refine ⟨_,rfl,_,rfl,t,_,2,_,rfl,rfl,ht1,at2 _ _ _ _,st,_,_,_,rfl,rfl,k1 _ _ (by simp) hst,wK ey,_,rfl,t,_,0,_,rfl,rfl,ht1,at0 _ _,_,rfl,t,_,1,_,rfl,rfl,ht1,at1 _ _ _,by show 2 <= sizeLine;decide,fun u hu=>?_⟩
  have k2:zC [] H1 (upd H1 u (.tup [.str "ask",.str z])):=zC.new hu
  have e2:upd H1 u (.tup [.str "ask",.str z]) u=some (.tup [.str "ask",.str z]):=zB
  generalize upd H1 u (.tup [.str "ask",.str z])=H2 at k2 e2 ⊢
  refine ⟨_,rfl,_,rfl,t,_,rfl,.of (k2 _ _ (by simp) ht1),.inr ⟨nV,fun v hv=>?_⟩⟩
  rw [pV]
  have k3:zC [] H2 (upd H2 v (.tup [])):=zC.new hv
  refine ⟨u,v,_,_,rfl,rfl,.of (k3 _ _ (by simp) e2),.of zB,by simp,by show 2 + 0 <= sizeLine;decide,fun _=>?_,fun c=>absurd rfl c⟩
  have k03:=(k1.trans k2).trans k3
  exact ⟨y.1,y.2,u,s,.ask z,rfl,(hd i y s ey es).keep k03,k3 _ _ (by simp) e2,si,ok,lr,fun r H5 D5 R5 n5 k5=>⟨_,rfl,t,_,2,_,rfl,rfl,k5 _ _ (by simp [xO ht hD0 (by intro z;cases z),xO ht hW0 (by intro z;cases z)]) (k03 _ _ (by simp) ht),at2 _ _ _ _,nU.num (E:=E) hS ey q k03 D5 R5 n5 k5⟩⟩
 | @come z _ _ b zn hp=>
  have ht:H t=some (.tup [.str "come",.str z,.int (i:Int),.bl b]):=ht
  refine ⟨_,rfl,t,_,0,_,rfl,rfl,ht,at0 _ _ ,by show 2 <= sizeLine;decide,fun tp htp=>⟨tp,_,rfl,.inr (.of zB),rfl,rfl,_,rfl,ifT (by decide +kernel) ?_⟩⟩
  have k1:zC [] H (upd H tp (.tup [.str "ask",.str "come"])):=zC.new htp
  generalize upd H tp (.tup [.str "ask",.str "come"])=H1 at k1 ⊢
  have ht1:=k1 _ _ (by simp) ht
  refine ⟨_,rfl,_,rfl,t,_,2,_,rfl,rfl,ht1,at2 _ _ _ _,st,_,_,_,rfl,rfl,k1 _ _ (by simp) hst,wK ey,_,rfl,t,_,0,_,rfl,rfl,ht1,at0 _ _,_,rfl,t,_,1,_,rfl,rfl,ht1,at1 _ _ _,by show 2 <= sizeLine;decide,fun u hu=>?_⟩
  have k2:zC [] H1 (upd H1 u (.tup [.str "come",.str z])):=zC.new hu
  have e2:upd H1 u (.tup [.str "come",.str z]) u=some (.tup [.str "come",.str z]):=zB
  generalize upd H1 u (.tup [.str "come",.str z])=H2 at k2 e2 ⊢
  refine ⟨_,rfl,_,rfl,t,_,rfl,.of (k2 _ _ (by simp) ht1),.inr ⟨nV,fun v hv=>?_⟩⟩
  rw [pV]
  have k3:zC [] H2 (upd H2 v (.tup [.bl b])):=zC.new hv
  refine ⟨u,v,_,_,rfl,rfl,.of (k3 _ _ (by simp) e2),.of zB,by simp,by show 2 + 1 <= sizeLine;decide,fun c=>(by cases c),fun _ w hw=>?_⟩
  have k03:zC [] H (upd (upd H2 v (.tup [.bl b])) w (.tup [.str "come",.str z,.bl b])):=((k1.trans k2).trans k3).trans (zC.new hw)
  exact ⟨y.1,y.2,w,s,.come z b,rfl,(hd i y s ey es).keep k03,zB,si,ok,lr,fun r H5 D5 R5 n5 k5=>⟨_,rfl,t,_,2,_,rfl,rfl,k5 _ _ (by simp [xO ht hD0 (by intro z;cases z),xO ht hW0 (by intro z;cases z)]) (k03 _ _ (by simp) ht),at2 _ _ _ _,nU.num (E:=E) hS ey q k03 D5 R5 n5 k5⟩⟩
def zD7 (C CS:Addr):Sp:=fun vs H Q _=>∃ (B:Addr->Prop) (p t:Addr) (nm:Str) (nb:List Str) (xs:List (Addr × Addr)) (ss:List SS) (k:Nat) (h:HD) (i:Nat) (s:SS) (d:DD),vs=[.ref p,.ref t]/\z6 B C CS H p nm nb xs ss/\vX k ss/\k <= 60/\ss.length <= 100/\H t=some (.tup (hdV h))/\AtR nb ss h i s d/\sG B C CS H p nm nb xs ss i s d Q
theorem okPu (T:x9 K C) (G:yW K mg "_law_put" sPu ["_law_house","_law_deed"]) (MHW:yV P w K mg base CX0 4 C "want" ["self","asker","right"] (zEB C CS)) (MHL:yV P w K mg base CX0 5 C "leave" ["self","asker"] (zB3 C CS)) (MHD:yV P w K mg base CX0 5 C "done" ["self","asker"] (zED C CS)) (MHK:yV P w K mg base CX0 4 C "ask" ["self","house","right"] (zEC C CS)) (MHC:yV P w K mg base CX0 4 C "come" ["self","house","right","back"] (zEE C CS)):Cal P w K mg base CX0 6 "_law_put" ["_law_house","_law_deed"] (zD7 C CS):=by
 refine G.ok scPu (fun vs H Q E h=>by obtain ⟨B,p,t,nm,nb,xs,ss,k,hx,i,s,dd,rfl,_⟩:=h;rfl) (fun f cdv A outer s0 H vs Q E hr h=>?_)
 obtain ⟨B,p,t,nm,nb,xs,ss,k,hx,i,s,dd,rfl,hh,I,hk,l100,ht,a,q⟩:=h
 have hr5:z7 5 _:=hr
 have hr4:z7 4 _:=hr.mono (by decide)
 obtain ⟨dx,nl,sl,_,hp,_⟩:=id hh
 refine ⟨_,(zE (z4 (zT xW (zV zY (pv 1) zJ (fun _ _=>rfl)) zM (zX _)) (zF (zO (x3 MHW T.cl hr4 (pv 0) (zA (zV zY (pv 1) zJ (fun _ _=>rfl)) (zA (zV zY (pv 1) zJ (fun _ _=>rfl)) zD))))) zQ)
   (zE (z4 (zT xW (zV zY (pv 1) zJ (fun _ _=>rfl)) zM (zX _)) (zF (zO (x3 MHL T.cl hr5 (pv 0) (zA (zV zY (pv 1) zJ (fun _ _=>rfl)) zD)))) zQ)
   (zE (z4 (zT xW (zV zY (pv 1) zJ (fun _ _=>rfl)) zM (zX _)) (zF (zO (x3 MHD T.cl hr5 (pv 0) (zA (zV zY (pv 1) zJ (fun _ _=>rfl)) zD)))) zQ)
   (zE (z4 (zT xW (zV zY (pv 1) zJ (fun _ _=>rfl)) zM (zX _)) (zF (zO (x3 MHK T.cl hr4 (pv 0) (zA (zV zY (pv 1) zJ (fun _ _=>rfl)) (zA (zV zY (pv 1) zJ (fun _ _=>rfl)) zD))))) zQ)
   (zF (zO (x3 MHC T.cl hr4 (pv 0) (zA (zV zY (pv 1) zJ (fun _ _=>rfl)) (zA (zV zY (pv 1) zJ (fun _ _=>rfl)) (zA (zV zY (pv 1) zJ (fun _ _=>rfl)) zD)))))))))),?_⟩
 have a':=a
 cases a with
 | @any z _ _ _ eb gz nz=>
  refine ⟨_,rfl,t,_,0,_,rfl,rfl,ht,at0 _ _,rfl,_,rfl,ifT (by decide +kernel) ?_⟩
  exact ⟨_,rfl,p,dx,_,rfl,hp,zBK _ _ _,_,rfl,t,_,1,_,rfl,rfl,ht,at1 _ _ _,_,rfl,t,_,2,_,rfl,rfl,ht,at2 _ _ _ _,B,p,nm,nb,xs,ss,k,z,none,i,s,rfl,hh,I,hk,l100,a',q⟩
 | @want z _ _ _ gz nz=>
  refine ⟨_,rfl,t,_,0,_,rfl,rfl,ht,at0 _ _,rfl,_,rfl,ifT (by decide +kernel) ?_⟩
  exact ⟨_,rfl,p,dx,_,rfl,hp,zBK _ _ _,_,rfl,t,_,1,_,rfl,rfl,ht,at1 _ _ _,_,rfl,t,_,2,_,rfl,rfl,ht,at2 _ _ _ _,B,p,nm,nb,xs,ss,k,z,some i,i,s,rfl,hh,I,hk,l100,a',q⟩
 | @leave z _ _ _ hm=>
  refine ⟨_,rfl,t,_,0,_,rfl,rfl,ht,at0 _ _,rfl,_,rfl,ifF (by decide +kernel) ?_⟩
  refine ⟨_,rfl,t,_,0,_,rfl,rfl,ht,at0 _ _,rfl,_,rfl,ifT (by decide +kernel) ?_⟩
  exact ⟨_,rfl,p,dx,_,rfl,hp,zBL _ _ _,_,rfl,t,_,1,_,rfl,rfl,ht,at1 _ _ _,B,p,nm,nb,xs,ss,k,z,i,s,rfl,hh,I,hk,l100,a',q⟩
 | @done z _ _ _ hm=>
  refine ⟨_,rfl,t,_,0,_,rfl,rfl,ht,at0 _ _,rfl,_,rfl,ifF (by decide +kernel) ?_⟩
  refine ⟨_,rfl,t,_,0,_,rfl,rfl,ht,at0 _ _,rfl,_,rfl,ifF (by decide +kernel) ?_⟩
  refine ⟨_,rfl,t,_,0,_,rfl,rfl,ht,at0 _ _,rfl,_,rfl,ifT (by decide +kernel) ?_⟩
  exact ⟨_,rfl,p,dx,_,rfl,hp,zFK _ _ _,_,rfl,t,_,1,_,rfl,rfl,ht,at1 _ _ _,B,p,nm,nb,xs,ss,k,z,i,s,rfl,hh,I,hk,l100,a',q⟩
 | @ask z _ _ _ zn gz n1 n2=>
  refine ⟨_,rfl,t,_,0,_,rfl,rfl,ht,at0 _ _,rfl,_,rfl,ifF (by decide +kernel) ?_⟩
  refine ⟨_,rfl,t,_,0,_,rfl,rfl,ht,at0 _ _,rfl,_,rfl,ifF (by decide +kernel) ?_⟩
  refine ⟨_,rfl,t,_,0,_,rfl,rfl,ht,at0 _ _,rfl,_,rfl,ifF (by decide +kernel) ?_⟩
  refine ⟨_,rfl,t,_,0,_,rfl,rfl,ht,at0 _ _,rfl,_,rfl,ifT (by decide +kernel) ?_⟩
  exact ⟨_,rfl,p,dx,_,rfl,hp,zFN _ _ _,_,rfl,t,_,1,_,rfl,rfl,ht,at1 _ _ _,_,rfl,t,_,2,_,rfl,rfl,ht,at2 _ _ _ _,B,p,nm,nb,xs,ss,k,z,i,s,rfl,hh,I,hk,l100,a',q⟩
 | @come z _ _ b zn hq=>
  refine ⟨_,rfl,t,_,0,_,rfl,rfl,ht,at0 _ _,rfl,_,rfl,ifF (by decide +kernel) ?_⟩
  refine ⟨_,rfl,t,_,0,_,rfl,rfl,ht,at0 _ _,rfl,_,rfl,ifF (by decide +kernel) ?_⟩
  refine ⟨_,rfl,t,_,0,_,rfl,rfl,ht,at0 _ _,rfl,_,rfl,ifF (by decide +kernel) ?_⟩
  refine ⟨_,rfl,t,_,0,_,rfl,rfl,ht,at0 _ _,rfl,_,rfl,ifF (by decide +kernel) ?_⟩
  exact ⟨_,rfl,p,dx,_,rfl,hp,zFL _ _ _,_,rfl,t,_,1,_,rfl,rfl,ht,at1 _ _ _,_,rfl,t,_,2,_,rfl,rfl,ht,at2 _ _ _ _,_,rfl,t,_,3,_,rfl,rfl,ht,at3 _ _ _ _ _,B,p,nm,nb,xs,ss,k,z,b,i,s,rfl,hh,I,hk,l100,a',q⟩
end
abbrev sGd:Stmt:=top 41
def tG (nb:List Str) (ss:List SS) (ds:List HD):Prop:=∀ d ∈ ds,∃ (i:Nat) (s:SS) (e:DD),AtR nb ss d i s e
theorem tG.app {nb:List Str} {ss:List SS} {ds es:List HD} (h:tG nb ss ds) (h':tG nb ss es):tG nb ss (ds ++ es):=fun d hd=>(zGO.mp hd).elim (h d) (h' d)
theorem tG.one {nb:List Str} {ss:List SS} {d:HD} {i:Nat} {s:SS} {e:DD} (h:AtR nb ss d i s e):tG nb ss [d]:=fun x hx=>by rw [zGA.mp hx];exact ⟨i,s,e,h⟩
theorem eG {H:Hp} {d t:Addr} {ps:List Addr} {rows:List (List V)} {x:List V} (e:H d=some (.lst (ps.map V.ref ++ [.ref t]))) (r:Paired (fun q r=>H q=some (.tup r)) ps rows) (h:H t=some (.tup x)):Rows H d (rows ++ [x]):=⟨ps ++ [t],by rw [e,zGJ];rfl,xS r h⟩
theorem qW {H H1:Hp} {dl t:Addr} {ds:List HD} (d:HD) {ps:List Addr} (k1:zC [] H H1) (hd0:H dl=none) (e:H1 dl=some (.lst (ps.map V.ref))) (r:Paired (fun q r=>H1 q=some (.tup r)) ps (ds.map hdV)) (ht:H1 t=none) :
  Rows (upd (upd H1 t (.tup (hdV d))) dl (.lst (ps.map V.ref ++ [.ref t]))) dl ((ds ++ [d]).map hdV)/\zC [] H (upd (upd H1 t (.tup (hdV d))) dl (.lst (ps.map V.ref ++ [.ref t]))):=by
 have dt:dl ≠ t:=zH e ht
 have k2:zC [dl] H1 (upd (upd H1 t (.tup (hdV d))) dl (.lst (ps.map V.ref ++ [.ref t]))):=(zC.new ht).trans (zC.at (by simp))
 refine ⟨?_,k1.under k2 (by intro b hb;rw [zGA.mp hb];exact hd0)⟩
 rw [zGJ]
 refine eG zB (zK k2 (fun b hb xs z=>?_) r) (by rw [zI (Ne.symm dt),zB])
 rw [zGA.mp hb,e] at z;cases z
def tZ (n:Nat):List (Option Nat):=none :: (List.range n).map some
theorem zCQ (n:Nat):[V.non] ++ rM n=(tZ n).map rV:=by
 unfold tZ rM
 rw [List.map_cons,zGR];rfl
theorem tY (n:Nat):(tZ n).length=n + 1:=by unfold tZ;simp
section
variable {P:Program} {w:World} {K:PySem.W.Frag} {mg:Str->Option Value} {base:Heap} {C:Addr}
theorem mF:zN ["_law_states","_law_askers","_law_neighbours","_law_deeds","_law_asker","_law_right","_law_name"] ["_law_states","_law_askers","_law_neighbours"] (zG sGd):=⟨rfl,rfl,rfl,by decide +kernel,rfl,by decide +kernel,by decide +kernel⟩
def zEF:Sp:=fun vs H Q _=>∃ (Y:Addr->Prop) (st al nl:Addr) (ys:List (Addr × Addr)) (ss:List SS) (k:Nat) (as nb:List Str),vs=[.ref st,.ref al,.ref nl]/\wV Y H st ys ss/\vX k ss/\ss ≠ []/\ss.length <= 10/\H al=some (.lst (as.map V.str))/\H nl=some (.lst (nb.map V.str))/\(∀ z ∈ as,xG z)/\(∀ z ∈ nb,xG z)/\as.length <= 20/\nb.length <= 20 /\
 ∀ (r:Addr) (ds:List HD) (H':Hp),Rows H' r (ds.map hdV)->tG nb ss ds->ds.length <= 1000->(as ≠ []->ds ≠ [])->H r=none->zC [] H H'->Q (.ref r) H'
theorem okGd (G:yW K mg "_law_good_deeds" sGd ["_law_states","_law_askers","_law_neighbours"]) (CSO:Cal P w K mg base CX0 1 "_law_seat_of" ["_law_states","_law_asker"] zBZ) (b_len:Blt mg "len") (b_range:Blt mg "range") (b_list:Blt mg "list"):Cal P w K mg base CX0 2 "_law_good_deeds" ["_law_states","_law_askers","_law_neighbours"] zEF:=by
 refine G.ok mF (fun vs H Q E h=>by obtain ⟨Y,st,al,nl,ys,ss,k,as,nb,rfl,_⟩:=h;rfl) (fun f cdv A outer s0 H vs Q E hr h=>?_)
 obtain ⟨Y,st,al,nl,ys,ss,k,as,nb,rfl,hS,I,ne,l10,hal,hnl,gas,gnb,las,lnb,q⟩:=h
 have hr1:z7 1 _:=hr
 have hu:=uC hr
 refine ⟨_,(zE (yI (i:=3) mF.nd rfl (Or.inl rfl) (y8 zD))
   (zE (vU PassesOwn.never rfl (xE (pv 1)) (yE (i:=4) mF.nd rfl (Or.inr rfl)) (zE (yI (i:=5) mF.nd rfl (Or.inl rfl) (zU CSO hr1 (zA (pv 0) (zA (pv 4) zD))))
   (zF (z4 (zT vJ (pv 5) yZ (zX _)) (zF (yI (i:=3) mF.nd rfl (Or.inl rfl) (yO sP (pv 3) (vV (N:=["_law_states","_law_askers","_law_neighbours","_law_deeds","_law_asker","_law_right","_law_name"]) (sc:=zG sGd) (ix:=[4]) (by decide +kernel) (xE (yO sP (y8 (zA yZ zD)) (xX (jA rfl) rfl b_list.no wT (zA (xX lI rfl b_range.no c6 (zA (z9 yT b_len xI (zA (pv 0) zD)) zD)) zD)))) (fun _ _ _ _=>xD) (fun _ _ _ _=>(z8 (zA zM (zA (pv 1) (zA (pv 0) zD))))))))) (zF (z4 (zT xW (yQ hu (zV yA (pv 0) (pv 5) (fun _ _=>rfl)) zM (fun _ _=>rfl)) (pv 4) (zX _)) (zF (yG (vC PySem.F.plainAttrs_list PySem.F.slot_list_append PySem.F.type_list_append xA (pv 3) (zA (z8 (zA zM (zA (pv 4) zD))) zD)))) (zF (yG (vC PySem.F.plainAttrs_list PySem.F.slot_list_append PySem.F.type_list_append xA (pv 3) (zA (z8 (zA zM (zA (pv 4) zD))) zD))))))))))
   (zE (vU PassesOwn.never rfl (wI rfl b_range.no (zA (z9 yT b_len xI (zA (pv 0) zD)) zD)) (yE (i:=5) mF.nd rfl (Or.inl rfl)) (zF (vU PassesOwn.never rfl (xE (pv 2)) (yE (i:=6) mF.nd rfl (Or.inl rfl)) (zF (z4 (zT xW (yQ hu (zV yA (pv 0) (pv 5) (fun _ _=>rfl)) zM (fun _ _=>rfl)) (pv 6) (zX _)) (zF (yI (i:=3) mF.nd rfl (Or.inl rfl) (yO sP (pv 3) (y8 (zA (z8 (zA zM (zA (pv 6) (zA (pv 5) (zA wP zD))))) (zA (z8 (zA zM (zA (pv 6) (zA (pv 5) (zA wP zD))))) zD)))))) (zF (z4 (zT (pL hu) (z8 (zA zM (zA (pv 6) zD))) (yQ hu (zV yA (pv 0) (pv 5) (fun _ _=>rfl)) zM (fun _ _=>rfl)) (by with_unfolding_all rfl)) (zF (yG (vC PySem.F.plainAttrs_list PySem.F.slot_list_append PySem.F.type_list_append xA (pv 3) (zA (z8 (zA zM (zA (pv 6) (zA (pv 5) zD)))) zD)))) zQ)))))))
   (zF (zO (pv 3)))))),?_⟩
 obtain ⟨hst,_,_,ly,_⟩:=id hS
 have yl:(ys.map fun y=>V.ref y.1).length=ss.length:=by rw [zF7,ly]
 refine ⟨zGH _,fun d0 hd0=>?_⟩
 have k0:zC [] H (upd H d0 (.lst [])):=zC.new hd0
 have e0:upd H d0 (.lst []) d0=some (.lst []):=zB
 generalize upd H d0 (.lst [])=H0 at k0 e0 ⊢
 refine ⟨_,rfl,al,rfl,⟨_,.of (k0 _ _ (by simp) hal)⟩,vL (K:=K) (a:=al) (xs:=as.map V.str) (fun j σ H1=>∃ (dl:Addr) (ds:List HD) (v4 v5 v6:Option V),σ=[some (.ref st),some (.ref al),some (.ref nl),some (.ref dl),v4,v5,v6]/\Rows H1 dl (ds.map hdV)/\tG nb ss ds/\ds.length <= 11 * j/\(0 < j->ds ≠ [])/\H dl=none/\zC [] H H1) ⟨d0,[],_,_,_,rfl,⟨[],e0,.nil⟩,(fun d hd=>by cases hd),zGH _,(fun h=>absurd h (Nat.lt_irrefl 0)),hd0,k0⟩ ?_ ?_ ?_⟩
 ·rintro j σ H1 _ ⟨dl,ds,v4,v5,v6,rfl,_,_,_,_,_,k1⟩
  exact .of (k1 _ _ (by simp) hal)
 ·rintro j x σ H1 hx ⟨dl,ds,v4,v5,v6,rfl,R1,gd,ld,_,hdl,k1⟩
  rw [zGD] at hx
  cases ez:as[j]? with
  | none=>rw [ez] at hx;cases hx
  | some z=>
  rw [ez] at hx
  have ex:V.str z=x:=zGE hx
  subst ex
  have jl:j < as.length:=(zF9.mp ez).1
  have gz:=gas z (zGB ez)
  refine ⟨_,rfl,_,rfl,Y,st,ys,ss,z,rfl,hS.on k1,by omega,fun H2 nz k2=>?_,fun i s H2 es hz k2=>?_⟩
  ·have k02:=k1.trans k2
   have hst2:=k02 _ _ (by simp) hst
   refine ⟨_,rfl,rfl,_,rfl,ifT rfl ?_⟩
   refine ⟨_,rfl,by show 1 <= sizeLine;decide,fun l1 hl1=>?_⟩
   have k3:zC [] H2 (upd H2 l1 (.lst [.non])):=zC.new hl1
   have e3:upd H2 l1 (.lst [.non]) l1=some (.lst [.non]):=zB
   generalize upd H2 l1 (.lst [.non])=H3 at k3 e3 ⊢
   refine ⟨_,rfl,_,_,rfl,.inl ⟨_,.of (k3 _ _ (by simp) hst2),rfl⟩,_,rfl,fun rp hrp=>?_⟩
   rw [yl]
   have k4:zC [] H3 (upd H3 rp (oS rp ss.length)):=zC.new hrp
   refine ⟨rp,_,rfl,zB,by omega,fun l2 hl2=>?_⟩
   have k5:zC [] (upd H3 rp (oS rp ss.length)) (upd (upd H3 rp (oS rp ss.length)) l2 (.lst (rM ss.length))):=zC.new hl2
   refine ⟨l1,l2,_,_,rfl,rfl,(k4.trans k5) _ _ (by simp) e3,zB,by rw [List.length_singleton,sizeLine_eq];unfold rM;rw [zF7,List.length_range];omega,fun l3 hl3=>?_⟩
   rw [zCQ]
   have k25:zC [] H2 (upd (upd (upd H3 rp (oS rp ss.length)) l2 (.lst (rM ss.length))) l3 (.lst ((tZ ss.length).map rV))):=((k3.trans k4).trans k5).trans (zC.new hl3)
   have e6:upd (upd (upd H3 rp (oS rp ss.length)) l2 (.lst (rM ss.length))) l3 (.lst ((tZ ss.length).map rV)) l3=some (.lst ((tZ ss.length).map rV)):=zB
   generalize upd (upd (upd H3 rp (oS rp ss.length)) l2 (.lst (rM ss.length))) l3 (.lst ((tZ ss.length).map rV))=H6 at k25 e6 ⊢
   refine ⟨l3,rfl,⟨_,.of e6⟩,fun acc hacc=>?_⟩
   have la:l3 ≠ acc:=zH e6 hacc
   refine uB (K:=K) (a:=l3) (its:=(tZ ss.length).map rV) (by rw [zF7,tY,sizeLine_eq];omega) (fun i ws τ H7=>∃ (kk:Option V) (qs:List Addr),τ=[kk,some (.str z)]/\ws=qs.map V.ref/\i <= (tZ ss.length).length/\Paired (fun q r=>H7 q=some (.tup r)) qs (((tZ ss.length).take i).map fun r=>hdV (.want z r))/\zC [acc] H6 H7/\H7 acc=some (.lst ws)) ⟨_,[],rfl,rfl,zGH _,.nil,zC.at (by simp),zB⟩ ?_ ?_ ?_
   ·rintro i ws τ H7 ⟨kk,qs,rfl,rfl,il,hq,k7,h7⟩
    have lq:=zP hq
    rw [zF7,zGQ] at lq
    exact ⟨h7,by rw [zF7];omega,.of (k7 _ _ (by simp [la]) e6)⟩
   ·rintro i ws τ H7 x hx ⟨kk,qs,rfl,rfl,il,hq,k7,h7⟩
    rw [zGD] at hx
    cases eo:(tZ ss.length)[i]? with
    | none=>rw [eo] at hx;cases hx
    | some o=>
    rw [eo] at hx
    have ex:rV o=x:=zGE hx
    subst ex
    refine ⟨_,rfl,_,rfl,by show 3 <= sizeLine;decide,fun t ht=>?_⟩
    have k8:zC [] H7 (upd H7 t (.tup (hdV (.want z o)))):=zC.new ht
    have e8:upd H7 t (.tup (hdV (.want z o))) t=some (.tup (hdV (.want z o))):=zB
    have h8:=k8 _ _ (by simp) h7
    have ta:t ≠ acc:=Ne.symm (zH h7 ht)
    have k9:zC [acc] (upd H7 t (.tup (hdV (.want z o)))) (upd (upd H7 t (.tup (hdV (.want z o)))) acc (.lst (qs.map V.ref ++ [.ref t]))):=zC.at (by simp)
    have nt:∀ b ∈ [acc],∀ xs,upd H7 t (.tup (hdV (.want z o))) b ≠ some (.tup xs):=fun b hb xs z=>by rw [zGA.mp hb,h8] at z;cases z
    refine ⟨h8,_,qs ++ [t],rfl,by simp,(zF9.mp eo).1,?_,(k7.trans (k8.mono (by simp))).trans k9,zB⟩
    rw [wH eo,zGJ]
    exact xS (zK k9 nt (zK k8 (fun b hb=>by cases hb) hq)) (k9 _ _ (by simp [ta]) e8)
   ·rintro ws τ H7 ⟨kk,qs,rfl,rfl,_,hq,k7,h7⟩
    rw [zF7,zG7] at hq
    have k67:=k7.drop hacc
    have k27:=k25.trans k67
    obtain ⟨ps,hps,hpp⟩:=R1.keep (k2.trans k27)
    have lp:=zP hpp
    have lq:=zP hq
    rw [zF7] at lp
    rw [zF7,tY] at lq
    refine ⟨dl,acc,_,_,rfl,rfl,hps,h7,by rw [zF7,zF7,sizeLine_eq];omega,fun d4 hd4=>?_⟩
    have k9:zC [] H7 (upd H7 d4 (.lst (ps.map V.ref ++ qs.map V.ref))):=zC.new hd4
    have k09:=(k02.trans k27).trans k9
    refine ⟨d4,ds ++ (tZ ss.length).map (HD.want z),_,_,_,rfl,⟨ps ++ qs,by rw [zB,zGJ],?_⟩,gd.app fun d hd=>?_,by rw [zGP,zF7,tY];omega,fun _ e=>?_,(k02.trans k27).none (by simp) hd4,k09⟩
    ·rw [zGJ,zGR]
     exact uK (zK k9 (fun b hb=>by cases hb) hpp) (zK k9 (fun b hb=>by cases hb) hq)
    ·obtain ⟨o,ho,rfl⟩:=List.mem_map.mp hd
     unfold tZ at ho
     rcases List.mem_cons.mp ho with rfl | ho
     ·exact ⟨_,_,_,.any (zF8 (lN ne)) rfl gz nz⟩
     ·obtain ⟨n,hn,rfl⟩:=List.mem_map.mp ho
      exact ⟨_,_,_,.want (zF8 (List.mem_range.mp hn)) gz nz⟩
    ·have:=congrArg List.length e
     rw [zGP,zF7,tY] at this
     simp at this
  ·have k02:=k1.trans k2
   have il:i < ss.length:=(zF9.mp es).1
   have ey:ys[i]?=some ys[i]:=zF8 (by omega)
   generalize ys[i]=y at ey
   obtain ⟨hst2,_,_,_,hd⟩:=hS.on k02
   have D:=hd i y s ey es
   obtain ⟨ps,hps,hpp⟩:=R1.keep k2
   have lp:=zP hpp
   rw [zF7] at lp
   refine ⟨_,rfl,rfl,_,rfl,ifF rfl ?_⟩
   refine ⟨_,rfl,_,rfl,st,_,_,_,rfl,rfl,hst2,wK ey,y.1,_,rfl,g_h D.d,_,rfl,kC _ _,_,rfl,?_⟩
   rw [cT]
   by_cases h1:s.hold=some z
   ·rw [zGM h1]
    refine ifT rfl ?_
    refine ⟨_,rfl,.inl ⟨rfl,_,.of hps⟩,_,rfl,by show 2 <= sizeLine;decide,fun t ht=>⟨dl,_,_,rfl,rfl,(zC.new (S:=[]) ht) _ _ (by simp) hps,by rw [zF7,sizeLine_eq];omega,?_⟩⟩
    obtain ⟨R',k'⟩:=qW (.done z) k02 hdl hps hpp ht
    exact ⟨dl,ds ++ [HD.done z],_,_,_,rfl,R',gd.app (.one (.done es h1)),by simp;omega,fun _ e=>by simp at e,hdl,k'⟩
   ·rw [zGN h1]
    refine ifF rfl ?_
    have h2:yH z ∈ s.row:=(wB.mp hz).elim (fun e=>absurd e h1) id
    refine ⟨_,rfl,.inl ⟨rfl,_,.of hps⟩,_,rfl,by show 2 <= sizeLine;decide,fun t ht=>⟨dl,_,_,rfl,rfl,(zC.new (S:=[]) ht) _ _ (by simp) hps,by rw [zF7,sizeLine_eq];omega,?_⟩⟩
    obtain ⟨R',k'⟩:=qW (.leave z) k02 hdl hps hpp ht
    exact ⟨dl,ds ++ [HD.leave z],_,_,_,rfl,R',gd.app (.one (.leave es h2)),by simp;omega,fun _ e=>by simp at e,hdl,k'⟩
 ·rintro σ H1 ⟨dl,ds,v4,v5,v6,rfl,R1,gd,ld,nd,hdl,k1⟩
  rw [zF7] at ld nd
  have nd':as ≠ []->ds ≠ []:=fun h=>nd (zGX.mpr h)
  have hst1:=k1 _ _ (by simp) hst
  refine ⟨_,rfl,_,_,rfl,.inl ⟨_,.of hst1,rfl⟩,_,rfl,by omega,by rw [yl];omega,?_⟩
  rw [yl,Int.toNat_natCast]
  refine u9 (fun i σ H2=>∃ (dl:Addr) (ds:List HD) (v4 v5 v6:Option V),σ=[some (.ref st),some (.ref al),some (.ref nl),some (.ref dl),v4,v5,v6]/\Rows H2 dl (ds.map hdV)/\tG nb ss ds/\ds.length <= 220 + 40 * i/\(as ≠ []->ds ≠ [])/\H dl=none/\zC [] H H2) ⟨dl,ds,_,_,_,rfl,R1,gd,by omega,nd',hdl,k1⟩ ?_ ?_
  ·rintro i σ H2 il ⟨dl,ds,v4,v5,v6,rfl,R2,gd,ld,nd,hdl,k2⟩
   have es:ss[i]?=some ss[i]:=zF8 il
   generalize ss[i]=s at es
   have ey:ys[i]?=some ys[i]:=zF8 (by omega)
   generalize ys[i]=y at ey
   rw [show (0:Int) + (i:Int)=(i:Int) from Int.zero_add _]
   refine ⟨_,rfl,nl,rfl,⟨_,.of (k2 _ _ (by simp) hnl)⟩,vL (K:=K) (a:=nl) (xs:=nb.map V.str) (fun j σ H3=>∃ (dl:Addr) (ds:List HD) (v4 v6:Option V),σ=[some (.ref st),some (.ref al),some (.ref nl),some (.ref dl),v4,some (.int (i:Int)),v6]/\Rows H3 dl (ds.map hdV)/\tG nb ss ds/\ds.length <= 220 + 40 * i + 2 * j/\(as ≠ []->ds ≠ [])/\H dl=none/\zC [] H H3) ⟨dl,ds,_,_,rfl,R2,gd,by omega,nd,hdl,k2⟩ ?_ ?_ ?_⟩
   ·rintro j σ H3 _ ⟨dl,ds,v4,v6,rfl,_,_,_,_,_,k3⟩
    exact .of (k3 _ _ (by simp) hnl)
   ·rintro j x σ H3 hx ⟨dl,ds,v4,v6,rfl,R3,gd,ld,nd,hdl,k3⟩
    rw [zGD] at hx
    cases ez:nb[j]? with
    | none=>rw [ez] at hx;cases hx
    | some z=>
    rw [ez] at hx
    have ex:V.str z=x:=zGE hx
    subst ex
    have zn:=zGB ez
    obtain ⟨hst3,_,_,_,hd⟩:=hS.on k3
    have D:=hd i y s ey es
    obtain ⟨ps,hps,hpp⟩:=id R3
    have lp:=zP hpp
    rw [zF7] at lp
    have jl:j < nb.length:=(zF9.mp ez).1
    refine ⟨_,rfl,_,rfl,st,_,_,_,rfl,rfl,hst3,wK ey,y.1,_,rfl,g_a D.d,_,rfl,kC _ _,_,rfl,?_⟩
    rw [cT]
    by_cases h1:s.ptr=some z
    ·rw [zGM h1]
     refine ifT rfl ⟨_,rfl,_,rfl,_,rfl,by show 4 <= sizeLine;decide,fun t1 ht1=>⟨_,rfl,_,rfl,by show 4 <= sizeLine;decide,fun t2 ht2=>⟨by show 2 <= sizeLine;decide,fun l2 hl2=>⟨dl,l2,_,_,rfl,rfl,(((zC.new (S:=[]) ht1).trans (zC.new ht2)).trans (zC.new hl2)) _ _ (by simp) hps,zB,by rw [zF7,sizeLine_eq];show _ + 2 <= _;omega,fun d5 hd5=>?_⟩⟩⟩⟩
     obtain ⟨_,t21⟩:=zL ht2
     obtain ⟨hl2a,l2t2⟩:=zL hl2
     obtain ⟨_,l2t1⟩:=zL hl2a
     obtain ⟨hd5a,d5l⟩:=zL hd5
     obtain ⟨hd5b,d5t2⟩:=zL hd5a
     obtain ⟨hd5c,d5t1⟩:=zL hd5b
     have k10:zC [] H3 (upd (upd (upd (upd H3 t1 (.tup (hdV (.come z i true)))) t2 (.tup (hdV (.come z i false)))) l2 (.lst [.ref t1,.ref t2])) d5 (.lst (ps.map V.ref ++ [.ref t1,.ref t2]))):=(((zC.new ht1).trans (zC.new ht2)).trans (zC.new hl2)).trans (zC.new hd5)
     refine ⟨d5,ds ++ [.come z i true,.come z i false],_,_,rfl,⟨ps ++ [t1,t2],by rw [zB,zGJ];rfl,?_⟩,gd.app fun d hd=>?_,by simp;omega,fun h e=>nd h (List.append_eq_nil_iff.mp e).1,k3.none (by simp) hd5c,k3.trans k10⟩
     ·rw [zGJ]
      refine uK (zK k10 (fun b hb=>by cases hb) hpp) (.cons ?_ (.cons ?_ .nil))
      ·show upd _ _ _ t1=_
       rw [zI (Ne.symm d5t1),zI (Ne.symm l2t1),zI (Ne.symm t21),zB];rfl
      ·show upd _ _ _ t2=_
       rw [zI (Ne.symm d5t2),zI (Ne.symm l2t2),zB];rfl
     ·simp only [List.mem_cons,zG1,or_false] at hd
      rcases hd with rfl | rfl
      ·exact ⟨i,s,_,.come es zn h1⟩
      ·exact ⟨i,s,_,.come es zn h1⟩
    ·rw [zGN h1]
     refine ifF rfl ⟨_,rfl,by show 2 <= sizeLine;decide,fun t2 ht2=>?_⟩
     have k4:zC [] H3 (upd H3 t2 (.tup [.str "house",.str z])):=zC.new ht2
     have D4:=D.keep k4
     have hps4:=k4 _ _ (by simp) hps
     have hpp4:=zK k4 (fun b hb=>by cases hb) hpp
     refine ⟨_,rfl,_,rfl,st,_,_,_,rfl,rfl,k4 _ _ (by simp) hst3,wK ey,y.1,_,rfl,g_r D4.d,hV (x:=hsR z) D4.rw zB ⟨_,rfl,?_⟩⟩
     have k04:=k3.trans k4
     generalize upd H3 t2 (.tup [.str "house",.str z])=H4 at k4 k04 hps4 hpp4 ⊢
     by_cases h2:hsR z ∈ s.row
     ·rw [zGM h2]
      exact ifF rfl ⟨dl,ds,_,_,rfl,⟨ps,hps4,hpp4⟩,gd,by omega,nd,hdl,k04⟩
     ·rw [zGN h2]
      refine ifT rfl ?_
      refine ⟨_,rfl,.inl ⟨rfl,_,.of hps4⟩,_,rfl,_,rfl,by show 3 <= sizeLine;decide,fun t ht=>⟨dl,_,_,rfl,rfl,(zC.new (S:=[]) ht) _ _ (by simp) hps4,by rw [zF7,sizeLine_eq];omega,?_⟩⟩
      obtain ⟨R',k'⟩:=qW (.ask z i) k04 hdl hps4 hpp4 ht
      exact ⟨dl,ds ++ [HD.ask z i],_,_,rfl,R',gd.app (.one (.ask es zn (gnb z zn) h1 h2)),by simp;omega,fun h e=>by simp at e,hdl,k'⟩
   ·rintro σ H3 ⟨dl,ds,v4,v6,rfl,R3,gd,ld,nd,hdl,k3⟩
    rw [zF7] at ld
    exact ⟨dl,ds,_,_,_,rfl,R3,gd,by omega,nd,hdl,k3⟩
  ·rintro σ H2 ⟨dl,ds,v4,v5,v6,rfl,R2,gd,ld,nd,hdl,k2⟩
   exact ⟨_,rfl,q dl ds H2 R2 gd (by omega) nd hdl k2⟩
end
abbrev sMd:Stmt:=top 34
theorem fA {X:Cx} {K:PySem.W.Frag} (e:X.K=K:=by rfl):wW X (.builtin "len") (fun xs H Q=>∃ x n,xs=[x]/\zAY K x H n/\Q (V.int (n:Int)) H):=e ▸ yT
theorem Src.on {H H':Hp} {p:Addr} (h:Src H p) (k:zC [] H H'):Src H' p:=let ⟨a,b,c,e⟩:=h;⟨a,b,c,k _ _ (by simp) e⟩
theorem Src.ne {H:Hp} {p q:Addr} (h:Src H p) (hq:H q=none):q ≠ p:=by
 obtain ⟨a,b,c,e⟩:=h
 exact Ne.symm (zH e hq)
theorem zBP (nb:List Str) {v:Int} (h0:0 <= v) (h1:v < (nb.length:Int) + 1):∃ ar:Option Str,atI (nb.map V.str ++ [V.non]) v=some (yC ar)/\∀ z,ar=some z->z ∈ nb:=by
 obtain ⟨u,a,b⟩:=sX (xs:=nb.map V.str ++ [V.non]) h0 (by rw [zGP,zF7];simp;omega)
 by_cases hv:v.toNat < nb.length
 ·rw [zGV (by rw [zF7];exact hv),zGD,zF8 hv] at b
  exact ⟨some nb[v.toNat],by rw [a,<- b];rfl,fun z e=>by cases e;exact List.getElem_mem hv⟩
 ·have ev:v.toNat=nb.length:=by omega
  rw [ev,zGU (by rw [zF7];exact zGG _),zF7,Nat.sub_self] at b
  exact ⟨none,by rw [a,<- b];rfl,fun z e=>by cases e⟩
theorem iP (l:List V) (k:Nat):vW l (some 1) (some (1 + (k:Int)))=(l.drop 1).take k:=by
 unfold vW
 rw [show (1:Int)=((1:Nat):Int) from rfl,HT.sIx_nat,show ((1:Nat):Int) + (k:Int)=((1 + k:Nat):Int) by omega,HT.sIx_nat]
 cases l with
 | nil=>simp
 | cons x l=>
  simp only [zGS]
  rw [show min 1 (l.length + 1)=1 by omega]
  show l.take _=l.take k
  by_cases h:k <= l.length
  ·rw [show min (1 + k) (l.length + 1) - 1=k by omega]
  ·rw [zGW (by omega),zGW (by omega)]
theorem cW (l:List Str) {k:Int} (hk:0 <= k):vW (l.map V.str) none (some k)=(l.take k.toNat).map V.str:=by
 unfold vW
 obtain ⟨n,rfl⟩:=Int.eq_ofNat_of_zero_le hk
 rw [HT.sIx_none,HT.sIx_nat,List.drop_zero,zF7,Nat.sub_zero,<- List.map_take]
 congr 1
 rcases Nat.le_total n l.length with h | h
 ·rw [Nat.min_eq_left h];rfl
 ·rw [Nat.min_eq_right h,zGW (zGG _)];exact (zGW h).symm
theorem qH {H:Hp}:∀ {ps qs:List Addr} {rows:List (List V)},Paired (fun q r=>H q=some (.tup r)) ps rows->Paired (fun q r=>H q=some (.tup r)) qs rows->(∀ r ∈ rows,r.all xL=true/\r.length <= 2000)->Paired (Alk H 1) (ps.map V.ref) (qs.map V.ref)
 | _,_,_,.nil,.nil,_=>.nil
 | p :: _,q :: _,r :: _,.cons a s,.cons b t,h=>by
  refine .cons (.inr ⟨p,q,r,r,rfl,rfl,.inr ⟨a,b⟩,?_,(h r zG0).2⟩) (qH s t fun x hx=>h x (zGK _ hx))
  have f:=(h r zG0).1
  clear a b s t h
  induction r with
  | nil=>exact .nil
  | cons x r ih=>
   rw [List.all_cons,Bool.and_eq_true] at f
   exact .cons ⟨rfl,f.1⟩ (ih f.2)
theorem lP {H:Hp} {a b:Addr} {rows:List (List V)} (h1:Rows H a rows) (h2:Rows H b rows) (hf:∀ r ∈ rows,r.all xL=true/\r.length <= 2000) (hl:rows.length <= 2000):Alk H 2 (.ref a) (.ref b):=by
 obtain ⟨ps,e1,r1⟩:=h1
 obtain ⟨qs,e2,r2⟩:=h2
 exact .inr ⟨a,b,_,_,rfl,rfl,.inl ⟨e1,e2⟩,qH r1 r2 hf,by rw [zF7,zP r1];exact hl⟩
theorem Alk.succ {H:Hp}:∀ (n:Nat) {u v:V},Alk H n u v->Alk H (n + 1) u v
 | 0,_,_,h=>.inl h
 | n + 1,_,_,.inl h=>.inl h
 | n + 1,_,_,.inr ⟨a,b,us,vs,e1,e2,hh,hp,hl⟩=>.inr ⟨a,b,us,vs,e1,e2,hh,L2.Paired.mapP hp fun x y z=>Alk.succ n z,hl⟩
theorem qB {S:List Addr} {H H':Hp} {p:Addr} {rows:List (List V)} (A:Rows H p rows) (k:zC S H H') (hp:p ∉ S) (ht:∀ b ∈ S,∀ xs,H b ≠ some (.tup xs)):Rows H' p rows:=by
 obtain ⟨ps,e,r⟩:=A
 exact ⟨ps,k _ _ hp e,zK k ht r⟩
theorem zFI (nm:V) (nl sl:Addr):(hfl nm nl sl).lookup ("row" : Str)=none:=rfl
theorem zFJ (nm:V) (nl sl:Addr):(hfl nm nl sl).lookup ("inside" : Str)=none:=rfl
theorem z6.parts {B:Addr->Prop} {C CS:Addr} {H:Hp} {p:Addr} {nm:Str} {nb:List Str} {xs:List (Addr × Addr)} {ss:List SS} (h:z6 B C CS H p nm nb xs ss):∃ P1:List Addr,z6 (· ∈ P1) C CS H p nm nb xs ss/\∀ u ∈ P1,B u/\H u ≠ none/\u ≠ p:=by
 obtain ⟨dx,nl,sl,⟨b1,b2,b3,b4⟩,h1,h2,h3,h4,h5⟩:=h
 have pr:∀ x ∈ xs,H x.1 ≠ none/\H x.2 ≠ none/\x.1 ≠ p/\x.2 ≠ p:=fun x hx=>by
  obtain ⟨i,hi,e⟩:=List.getElem_of_mem hx
  obtain ⟨⟨dy,hob⟩,⟨ps,hwl,_⟩,_⟩:=h5 i x _ (by rw [zF8 hi,e]) (zF8 (by rw [<- h4];exact hi))
  refine ⟨(by rw [hob];nofun),(by rw [hwl];nofun),fun e=>?_,xO hwl h1 (by intro z;cases z)⟩
  rw [e,h1] at hob
  injection hob with hob
  injection hob with _ _ e
  unfold y6 hfl at e
  injection e with e _
  injection e with e _
  exact absurd e (by decide +kernel)
 refine ⟨nl :: sl :: (xs.map (·.1) ++ xs.map (·.2)),⟨dx,nl,sl,⟨by simp,by simp,fun x hx=>⟨?_,?_⟩,b4⟩,h1,h2,h3,h4,h5⟩,fun u hu=>?_⟩
 ·simp only [List.mem_cons,zGO,List.mem_map];exact .inr (.inr (.inl ⟨x,hx,rfl⟩))
 ·simp only [List.mem_cons,zGO,List.mem_map];exact .inr (.inr (.inr ⟨x,hx,rfl⟩))
 ·simp only [List.mem_cons,zGO,List.mem_map] at hu
  rcases hu with rfl | rfl | ⟨x,hx,rfl⟩ | ⟨x,hx,rfl⟩
  ·exact ⟨b1,(by rw [h2];nofun),xO h2 h1 (by intro z;cases z)⟩
  ·exact ⟨b2,(by rw [h3];nofun),xO h3 h1 (by intro z;cases z)⟩
  ·exact ⟨(b3 x hx).1,(pr x hx).1,(pr x hx).2.2.1⟩
  ·exact ⟨(b3 x hx).2,(pr x hx).2.1,(pr x hx).2.2.2⟩
theorem z6.at {B:Addr->Prop} {C CS:Addr} {H:Hp} {p:Addr} {nm:Str} {nb:List Str} {xs:List (Addr × Addr)} {ss:List SS} (h:z6 B C CS H p nm nb xs ss) {i:Nat} {x:Addr × Addr} (ex:xs[i]?=some x):B x.1/\B x.2/\∃ s,ss[i]?=some s/\zZ CS H x.1 x.2 s:=by
 obtain ⟨dx,nl,sl,⟨b1,b2,b3,b4⟩,h1,h2,h3,h4,h5⟩:=h
 have il:i < ss.length:=by rw [<- h4];exact (zF9.mp ex).1
 have:=b3 x (zGB ex)
 exact ⟨this.1,this.2,_,zF8 il,h5 i x _ ex (zF8 il)⟩
theorem z6.ob {B:Addr->Prop} {C CS:Addr} {H:Hp} {p:Addr} {nm:Str} {nb:List Str} {xs:List (Addr × Addr)} {ss:List SS} (h:z6 B C CS H p nm nb xs ss):∃ dx nl sl,H p=some (.ins C dx (hfl (.str nm) nl sl)):=by
 obtain ⟨dx,nl,sl,_,h1,_⟩:=h
 exact ⟨dx,nl,sl,h1⟩
structure WB (Z:Hp) (P1 P2:List Addr) (p:Addr):Prop where
 ex:∀ u ∈ P1 ++ P2,Z u ≠ none
 dj:∀ u ∈ P1,u ∉ P2
 pz:Z p ≠ none
structure WK (Z:Hp) (P1 P2:List Addr) (C CS p st:Addr) (nm:Str) (nb:List Str) (xs ys:List (Addr × Addr)) (H:Hp) (a b:List SS):Prop where
 ho:z6 (· ∈ P1) C CS H p nm nb xs a
 sa:wV (· ∈ P2) H st ys b
 kp:zC (P1 ++ P2) Z H
 dm:∀ u,H u=none->Z u=none
section
variable {Z:Hp} {P1 P2:List Addr} {C CS p st:Addr} {nm:Str} {nb:List Str} {xs ys:List (Addr × Addr)} {H H':Hp} {a b:List SS}
theorem WK.on (w:WK Z P1 P2 C CS p st nm nb xs ys H a b) (k:zC [] H H'):WK Z P1 P2 C CS p st nm nb xs ys H' a b:=
 ⟨w.ho.on k,w.sa.on k,w.kp.trans (k.mono (by simp)),fun u hu=>w.dm u (k.none (by simp) hu)⟩
theorem WK.new (B:WB Z P1 P2 p) (w:WK Z P1 P2 C CS p st nm nb xs ys H a b) {r:Addr} (k:zC [r] H H') (hr:Z r=none) (nt:∀ xs,H r ≠ some (.tup xs)):WK Z P1 P2 C CS p st nm nb xs ys H' a b:=by
 have nP:r ∉ P1 ++ P2:=fun h=>B.ex r h hr
 rw [zGO,not_or] at nP
 refine ⟨w.ho.keep k (fun c hc=>?_),w.sa.keep k (fun c hc=>?_),fun c o n h=>k c o (fun hc=>?_) (w.kp c o n h),fun u hu=>?_⟩
 ·rw [zGA.mp hc];exact ⟨(fun e=>B.pz (e ▸ hr)),nP.1,nt⟩
 ·rw [zGA.mp hc];exact ⟨nP.2,nt⟩
 ·rw [zGA.mp hc,hr] at h;cases h
 ·by_cases e:u=r
  ·rw [e];exact hr
  ·exact w.dm u (k.none (by simpa using e) hu)
theorem WK.sts (B:WB Z P1 P2 p) (w:WK Z P1 P2 C CS p st nm nb xs ys H a b) {i:Nat} {y:Addr × Addr} {b':List SS} (ey:ys[i]?=some y) (h:wV (· ∈ P2) H' st ys b') (k:zC [y.1,y.2] H H'):WK Z P1 P2 C CS p st nm nb xs ys H' a b':=by
 obtain ⟨_,h2,_,h4,h5⟩:=id h
 obtain ⟨_,g2,_,g4,g5⟩:=id w.sa
 have yl:=(zF9.mp ey).1
 have D:=h5 i y _ ey (zF8 (by omega))
 have D0:=g5 i y _ ey (zF8 (by omega))
 obtain ⟨_,w0,_⟩:=D0.rw
 have my:=h2.2 y (zGB ey)
 refine ⟨w.ho.keep k (fun c hc=>?_),h,w.kp.trans (k.mono ?_),fun u hu=>w.dm u (k.none (D.fresh hu) hu)⟩
 ·obtain ⟨dx,nl,sl,hp⟩:=w.ho.ob
  refine ⟨?_,?_,wF D0.d w0 c hc⟩
  ·simp only [List.mem_cons,zG1,or_false] at hc
   rcases hc with rfl | rfl
   ·exact xO D0.d hp (by intro z;cases z)
   ·exact xO w0 hp (by intro z;cases z)
  ·simp only [List.mem_cons,zG1,or_false] at hc
   rcases hc with rfl | rfl
   ·exact fun h=>B.dj _ h my.1
   ·exact fun h=>B.dj _ h my.2
 ·intro c hc
  simp only [List.mem_cons,zG1,or_false] at hc
  rcases hc with rfl | rfl
  ·exact zGO.mpr (.inr my.1)
  ·exact zGO.mpr (.inr my.2)
theorem WK.hou (B:WB Z P1 P2 p) (w:WK Z P1 P2 C CS p st nm nb xs ys H a b) {i:Nat} {x:Addr × Addr} {a':List SS} (ex:xs[i]?=some x) (h:z6 (· ∈ P1) C CS H' p nm nb xs a') (k:zC [x.1,x.2] H H'):WK Z P1 P2 C CS p st nm nb xs ys H' a' b:=by
 obtain ⟨m1,m2,s',_,S'⟩:=h.at ex
 obtain ⟨_,_,s0,_,S0⟩:=w.ho.at ex
 obtain ⟨⟨dy,hob⟩,⟨ps,hwl,_⟩,_⟩:=S'
 obtain ⟨⟨dy0,hob0⟩,⟨ps0,hwl0,_⟩,_⟩:=S0
 refine ⟨h,w.sa.keep k (fun c hc=>⟨?_,vK hob0 hwl0 c hc⟩),w.kp.trans (k.mono ?_),fun u hu=>w.dm u (k.none ?_ hu)⟩
 ·simp only [List.mem_cons,zG1,or_false] at hc
  rcases hc with rfl | rfl
  ·exact B.dj _ m1
  ·exact B.dj _ m2
 ·intro c hc
  simp only [List.mem_cons,zG1,or_false] at hc
  rcases hc with rfl | rfl
  ·exact zGO.mpr (.inl m1)
  ·exact zGO.mpr (.inl m2)
 ·simp only [List.mem_cons,zG1,or_false]
  rintro (rfl | rfl)
  ·rw [hob] at hu;cases hu
  ·rw [hwl] at hu;cases hu
theorem WK.farX (B:WB Z P1 P2 p) (w:WK Z P1 P2 C CS p st nm nb xs ys H a b) {i:Nat} {x:Addr × Addr} {r:Addr} (ex:xs[i]?=some x) (hr:Z r=none):r ∉ [x.1,x.2]:=by
 obtain ⟨m1,m2,_⟩:=w.ho.at ex
 simp only [List.mem_cons,zG1,or_false]
 rintro (rfl | rfl)
 ·exact B.ex _ (zGO.mpr (.inl m1)) hr
 ·exact B.ex _ (zGO.mpr (.inl m2)) hr
theorem WK.farY (B:WB Z P1 P2 p) (w:WK Z P1 P2 C CS p st nm nb xs ys H a b) {i:Nat} {y:Addr × Addr} {r:Addr} (ey:ys[i]?=some y) (hr:Z r=none):r ∉ [y.1,y.2]:=by
 have m:=w.sa.2.1.2 y (zGB ey)
 simp only [List.mem_cons,zG1,or_false]
 rintro (rfl | rfl)
 ·exact B.ex _ (zGO.mpr (.inr m.1)) hr
 ·exact B.ex _ (zGO.mpr (.inr m.2)) hr
theorem WK.noX (w:WK Z P1 P2 C CS p st nm nb xs ys H a b) {i:Nat} {x:Addr × Addr} (ex:xs[i]?=some x):∀ c ∈ [x.1,x.2],∀ xs,H c ≠ some (.tup xs):=by
 obtain ⟨_,_,s0,_,S0⟩:=w.ho.at ex
 obtain ⟨⟨dy0,hob0⟩,⟨ps0,hwl0,_⟩,_⟩:=S0
 exact vK hob0 hwl0
theorem WK.noY (w:WK Z P1 P2 C CS p st nm nb xs ys H a b) {i:Nat} {y:Addr × Addr} (ey:ys[i]?=some y):∀ c ∈ [y.1,y.2],∀ xs,H c ≠ some (.tup xs):=by
 obtain ⟨_,_,_,g4,g5⟩:=id w.sa
 have D0:=g5 i y _ ey (zF8 (by have:=(zF9.mp ey).1;omega))
 obtain ⟨_,w0,_⟩:=D0.rw
 exact wF D0.d w0
end
section
variable {P:Program} {w:World} {K:PySem.W.Frag} {mg:Str->Option Value} {base:Heap} {C CS:Addr}
theorem oJ:zN ["_law_cell","_law_source","_law_same","_law_many","_law_names_here","_law_neighbours","_law_ways","_law_askers"] ["_law_cell"] (zG sMd):=⟨rfl,rfl,rfl,by decide +kernel,rfl,by decide +kernel,by decide +kernel⟩
def zEA:Sp:=fun vs H Q _=>∃ c:Int,vs=[.int c]/\∀ (t nl wl al:Addr) (nm:Str) (nb:List Str) (ars:List (Option Str)) (H':Hp),H' t=some (.tup [.str nm,.ref nl,.ref wl,.ref al])->H' nl=some (.lst (nb.map V.str))->H' wl=some (.lst (ars.map yC))->H nl=none->H wl=none->nl ≠ wl->xG nm->(∀ z ∈ nb,xG z)->nb.Nodup->nm ∉ nb->nb.length <= 11->ars ≠ []->ars.length <= 4->(∀ z,some z ∈ ars->z ∈ nb)->(∃ as:List Str,H' al=some (.lst (as.map V.str))/\as ≠ []/\as.length <= 20/\∀ z ∈ as,xG z)->zC [] H H'->Q (.ref t) H'
theorem okMd (G:yW K mg "_law_made" sMd ["_law_cell"]) (CD:Cal P w K mg base CX0 1 "_law_digits" ["_law_cell"] r9) (CN:Cal P w K mg base CX0 2 "_law_next" ["_law_source","_law_many"] oE) (CNa:Cal P w K mg base CX0 3 "_law_names" ["_law_source","_law_many"] jQ) (b_len:Blt mg "len") (b_range:Blt mg "range"):Cal P w K mg base CX0 4 "_law_made" ["_law_cell"] zEA:=by
 refine G.ok oJ (fun vs H Q E h=>by obtain ⟨c,rfl,_⟩:=h;rfl) (fun f cdv A outer s0 H vs Q E hr h=>?_)
 obtain ⟨c,rfl,q⟩:=h
 have hr3:z7 3 _:=hr
 have hr2:z7 2 _:=hr.mono (by decide)
 have hr1:z7 1 _:=hr.mono (by decide)
 refine ⟨_,(zE (yI (i:=1) oJ.nd rfl (Or.inr rfl) (zU CD hr1 (zA (pv 0) zD)))
   (zE (yI (i:=2) oJ.nd rfl (Or.inl rfl) (wA xW (zU CN hr2 (zA (pv 1) (zA zJ zD))) zJ (zX _)))
   (zE (yI (i:=3) oJ.nd rfl (Or.inl rfl) (y8 (zA (zU CN hr2 (zA (pv 1) (zA zJ zD))) (zA (yO wQ zJ (zU CN hr2 (zA (pv 1) (zA zJ zD)))) (zA (yO wQ zJ (zU CN hr2 (zA (pv 1) (zA zJ zD)))) zD)))))
   (zE (yI (i:=4) oJ.nd rfl (Or.inl rfl) (zU CNa hr3 (zA (pv 1) (zA zJ zD))))
   (zE (yI (i:=5) oJ.nd rfl (Or.inr rfl) (wO oH (pv 4) (wN zJ) (wN (yO wQ zJ (zV yA (pv 3) zJ (fun _ _=>rfl))))))
   (zE (vZ (i:=6) oJ.nd rfl (Or.inl rfl) (N:=["_law_cell","_law_source","_law_same","_law_many","_law_names_here","_law_neighbours","_law_ways","_law_askers"]) (sc:=zG sMd) (ix:=[5,1]) (by decide +kernel) (wI rfl b_range.no (zA (zV yA (pv 3) zJ (fun _ _=>rfl)) zD)) (fun _ _ _ _=>xD) (fun _ _ _ _=>(zV yA (yO sP (pv 1) (y8 (zA yZ zD))) (zU CN hr2 (zA (pv 2) (zA (yO wQ (z9 (fA (K:=K)) b_len xI (zA (pv 1) zD)) zJ) zD))) (fun _ _=>rfl))))
   (zE (yI (i:=7) oJ.nd rfl (Or.inl rfl) (pv 4))
   (zE (z4 (wD (xY (pv 2))) (zF (yI (i:=7) oJ.nd rfl (Or.inl rfl) (zU CNa hr3 (zA (pv 1) (zA zJ zD))))) zQ)
   (zF (zO (z8 (zA (zV yA (pv 4) zJ (fun _ _=>rfl)) (zA (pv 5) (zA (pv 6) (zA (wO oH (pv 7) uH (wN (zV yA (pv 3) zJ (fun _ _=>rfl)))) zD))))))))))))))),?_⟩
 refine ⟨_,rfl,c,rfl,fun s b1 c1 e1 hs=>?_⟩
 refine ⟨_,rfl,s,b1,c1,e1,2,rfl,zB,by decide,by decide,fun u a2 c2 u0 u1=>⟨rfl,?_⟩⟩
 refine ⟨_,rfl,s,a2,c1,c2,12,rfl,zB,by decide,by decide,fun k a3 c3 w0 w1=>?_⟩
 refine ⟨_,rfl,s,a3,c1,c3,4,rfl,zB,by decide,by decide,fun m a4 c4 m0 m1=>⟨_,_,rfl,rfl,?_⟩⟩
 refine ⟨_,rfl,s,a4,c1,c4,10,rfl,zB,by decide,by decide,fun n a5 c5 n0 n1=>⟨_,_,rfl,rfl,by show 3 <= sizeLine;decide,fun ml hml=>?_⟩⟩
 simp only [vP] at hml ⊢
 have k1:zC [] H (upd H s (.lst [.int a5,.int c1,.int c5])):=zC.new hs
 generalize hH1:upd H s (.lst [.int a5,.int c1,.int c5])=H1 at k1 hml ⊢
 have s1:Src H1 s:=⟨a5,c1,c5,by rw [<- hH1];exact zB⟩
 have k2:zC [] H1 (upd H1 ml (.lst [.int k,.int (1 + m),.int (1 + n)])):=zC.new hml
 have e2:upd H1 ml (.lst [.int k,.int (1 + m),.int (1 + n)]) ml=some (.lst [.int k,.int (1 + m),.int (1 + n)]):=zB
 generalize upd H1 ml (.lst [.int k,.int (1 + m),.int (1 + n)])=H2 at k2 e2
 have s2:Src H2 s:=s1.on k2
 have sml:ml ≠ s:=s1.ne hml
 refine ⟨_,rfl,s,12,rfl,s2,by decide,by decide,fun nh zs H3 hnh enh lz gz nd k3 s3=>?_⟩
 have lz12:zs.length=12:=lz
 have e3:=k3 _ _ (by simp [sml]) e2
 have snh:nh ≠ s:=s2.ne hnh
 have k03:zC [s] H H3:=((k1.trans k2).mono (by simp)).trans k3
 refine ⟨_,rfl,1,rfl,_,rfl,ml,_,0,_,rfl,rfl,e3,rfl,_,_,rfl,rfl,_,rfl,nh,_,rfl,.of enh,fun nl hnl=>?_⟩
 have ek:(1:Int) + k=1 + ((k.toNat:Nat):Int):=by omega
 rw [ek,iP,<- List.map_drop,<- List.map_take]
 generalize hnb:(zs.drop 1).take k.toNat=nb
 have snl:nl ≠ s:=s3.ne hnl
 have k4:zC [] H3 (upd H3 nl (.lst (nb.map V.str))):=zC.new hnl
 have e4:upd H3 nl (.lst (nb.map V.str)) nl=some (.lst (nb.map V.str)):=zB
 generalize upd H3 nl (.lst (nb.map V.str))=H4 at k4 e4
 have s4:=s3.on k4
 have lnb:nb.length <= 11:=by rw [<- hnb,zGQ,List.length_drop];omega
 have sub:∀ z ∈ nb,z ∈ zs.drop 1:=fun z hz=>by rw [<- hnb] at hz;exact List.mem_of_mem_take hz
 obtain ⟨nm,zt,ez⟩:∃ nm zt,zs=nm :: zt:=by
  cases zs with
  | nil=>simp at lz12
  | cons a b=>exact ⟨a,b,rfl⟩
 have ed:zs.drop 1=zt:=by rw [ez];rfl
 obtain ⟨nin,ndt⟩:=List.nodup_cons.mp (ez ▸ nd)
 have gnb:∀ z ∈ nb,xG z:=fun z hz=>gz z (by rw [ez];exact zGK _ (ed ▸ sub z hz))
 have ndn:nb.Nodup:=by rw [<- hnb,ed];exact ndt.sublist (List.take_sublist _ _)
 have nmn:nm ∉ nb:=fun h=>nin (ed ▸ sub nm h)
 refine ⟨_,rfl,ml,_,1,_,rfl,rfl,k4 _ _ (by simp) e3,rfl,_,rfl,by omega,by omega,fun acc hacc=>?_⟩
 have nla:nl ≠ acc:=zH e4 hacc
 have sa:acc ≠ s:=s4.ne hacc
 refine u7 (by rw [sizeLine_eq];omega) (fun i ys τ H5=>∃ (ars:List (Option Str)) (kk:Option V),τ=kk :: [some (.ref nl),some (.ref s)]/\ys=ars.map yC/\ars.length=i/\(∀ z,some z ∈ ars->z ∈ nb)/\zC [acc,s] H4 H5/\Src H5 s/\H5 acc=some (.lst ys)) ?_ ?_ ?_ ?_
 ·exact ⟨[],none,rfl,rfl,rfl,(fun z hz=>by cases hz),zC.at (by simp),s4.on (zC.new hacc),zB⟩
 ·rintro i ys τ H5 ⟨ars,kk,rfl,rfl,hl,_,_,_,h5⟩
  exact ⟨h5,by rw [zF7];omega⟩
 ·rintro i ys τ H5 hi ⟨ars,kk,rfl,rfl,hl,hg,kp,⟨x5,y5,z5,hs5⟩,h5⟩
  have e5:=kp _ _ (by simp [nla,snl]) e4
  refine ⟨_,rfl,by show 1 <= sizeLine;decide,fun l1 h1=>⟨nl,l1,_,_,rfl,rfl,(zC.new (S:=[]) h1) _ _ (by simp) e5,zB,by rw [zF7,sizeLine_eq];show _ + 1 <= _;omega,fun l2 h2=>?_⟩⟩
  have k6:zC [] H5 (upd (upd H5 l1 (.lst [.non])) l2 (.lst (nb.map V.str ++ [V.non]))):=(zC.new h1).trans (zC.new h2)
  have e6:upd (upd H5 l1 (.lst [.non])) l2 (.lst (nb.map V.str ++ [V.non])) l2=some (.lst (nb.map V.str ++ [V.non])):=zB
  have n2:H5 l2=none:=(zL h2).1
  generalize upd (upd H5 l1 (.lst [.non])) l2 (.lst (nb.map V.str ++ [V.non]))=H6 at k6 e6 ⊢
  have hs6:=k6 _ _ (by simp) hs5
  have h56:=k6 _ _ (by simp) h5
  refine ⟨_,rfl,_,rfl,_,_,rfl,.inl ⟨_,.of (k6 _ _ (by simp) e5),rfl⟩,_,_,rfl,rfl,s,x5,y5,z5,_,rfl,hs6,by rw [zF7];omega,by rw [zF7];omega,fun v a7 c7 v0 v1=>?_⟩
  rw [zF7] at v1
  obtain ⟨ar,ea,za⟩:=zBP nb v0 v1
  have l2s:l2 ≠ s:=Ne.symm (zH hs5 n2)
  refine ⟨l2,_,v,_,rfl,rfl,by rw [zI l2s];exact e6,ea,?_⟩
  refine ⟨by rw [zI sa];exact h56,ars ++ [ar],_,rfl,by simp,by simp [hl],?_,((kp.trans (k6.mono (by simp))).trans (zC.at (by simp))).trans (zC.at (by simp)),⟨a7,y5,c7,by rw [zI sa.symm,zB]⟩,zB⟩
  intro z hz
  rcases zGO.mp hz with h | h
  ·exact hg z h
  ·exact za z (zGA.mp h).symm
 rintro ys τ H5 ⟨ars,kk,rfl,rfl,hl,hg,kp,s5,h5⟩
 have lars:ars.length=(1 + m).toNat:=hl
 have nars:ars ≠ []:=fun e=>by rw [e] at lars;simp at lars;omega
 have k45:zC [s] H4 H5:=fun b o hb ho=>kp b o (by
  simp only [List.mem_cons,zG1,or_false,not_or] at hb ⊢
  exact ⟨(fun e=>by rw [e,hacc] at ho;cases ho),hb⟩) ho
 have k05:zC [s] H H5:=(k03.trans (k4.mono (by simp))).trans k45
 have nlH:H nl=none:=k03.none (by simp [snl]) hnl
 have accH:H acc=none:=(k03.trans (k4.mono (by simp))).none (by simp [sa]) hacc
 have enh5:=k45 _ _ (by simp [snh]) (k4 _ _ (by simp) enh)
 have e5:=k45 _ _ (by simp [snl]) e4
 have ml5:=k45 _ _ (by simp [sml]) (k4 _ _ (by simp) e3)
 have fin:∀ (bb:Bool) (al:Addr) (as:List Str) (H6:Hp),H6 al=some (.lst (as.map V.str))->as ≠ []->as.length <= 12->(∀ z ∈ as,xG z)->zC [s] H5 H6->fK (zBU (tS (tOp eL (uV 4) (tC (.int 0))) (tS (uV 5) (tS (uV 6) (tS (tSl (zE0 K) (uV 7) oA (fM (tOp eL (uV 3) (tC (.int 2))))) nX))))) { nx:=fun _ H'=>Q V.non H',rt:=Q } [some (.int c),some (.ref s),some (.bl bb),some (.ref ml),some (.ref nh),some (.ref nl),some (.ref acc),some (.ref al)] H6:=by
  intro bb al as H6 hal nas las gas k56
  have enh6:=k56 _ _ (by simp [snh]) enh5
  have nl6:=k56 _ _ (by simp [snl]) e5
  have ac6:=k56 _ _ (by simp [sa]) h5
  have ml6:=k56 _ _ (by simp [sml]) ml5
  have at0:atI (zs.map V.str) 0=some (.str nm):=uP (j:=0) (by rw [ez];rfl)
  refine ⟨_,rfl,nh,_,0,_,rfl,rfl,enh6,at0,_,rfl,_,rfl,_,rfl,_,rfl,ml,_,2,_,rfl,rfl,ml6,rfl,_,rfl,al,_,rfl,.of hal,fun sl hsl=>?_⟩
  refine ⟨by show 4 <= sizeLine;decide,fun t ht=>?_⟩
  obtain ⟨cs,ecu,ncu,lcu,gcu⟩:∃ cs:List Str,vW (as.map V.str) none (some (1 + n))=cs.map V.str/\cs ≠ []/\cs.length <= 20/\∀ z ∈ cs,xG z:=by
   refine ⟨as.take (1 + n).toNat,cW as (by omega),?_,by rw [zGQ];omega,fun z hz=>gas z (List.mem_of_mem_take hz)⟩
   intro e
   have l1:=congrArg List.length e
   rw [zGQ,List.length_nil] at l1
   have l2:0 < as.length:=zGX.mpr nas
   omega
  rw [ecu] at ht ⊢
  generalize ecs:cs.map V.str=cu at ht ⊢
  have k6:zC [] H6 (upd H6 sl (.lst cu)):=zC.new hsl
  have k8:zC [] H6 (upd (upd H6 sl (.lst cu)) t (.tup [.str nm,.ref nl,.ref acc,.ref sl])):=k6.trans (zC.new ht)
  exact q t nl acc sl nm nb ars _ zB (k8 _ _ (by simp) nl6) (k8 _ _ (by simp) ac6) nlH accH nla (gz nm (by rw [ez];exact zG0 ..)) gnb ndn nmn lnb nars (by omega) hg ⟨cs,by rw [ecs];exact (zC.new (S:=[]) ht) _ _ (by simp) zB,ncu,lcu,gcu⟩ (((k05.trans k56).trans (k8.mono (by simp))).drop hs)
 refine ⟨_,rfl,?_⟩
 refine ⟨_,rfl,?_⟩
 refine ⟨_,rfl,?_⟩
 cases decide (V.int u=V.int 1) with
 | true=>exact fin true nh zs H5 enh5 (fun e=>by rw [e] at lz12;simp at lz12) (by omega) gz (zC.refl _)
 | false=>
  refine ⟨_,rfl,s,10,rfl,s5,by decide,by decide,fun al as H6 _ e6 l6 g6 _ k6 _=>?_⟩
  have l10:as.length=10:=l6
  exact fin false al as H6 e6 (fun e=>by rw [e] at l10;simp at l10) (by omega) g6 k6
end
def pH (s:SS):Prop:=(s.ptr=none->s.asked=false)/\(s.ptr=none->s.hold=none->s.row=[])
theorem gY {s:SS} (h:s.ptr=none->s.asked=false):pH (zS s).1:=by
 unfold zS
 split
 ·rename_i he
  exact ⟨h,fun _ _=>List.isEmpty_iff.mp he⟩
 ·rename_i hne
  split
  ·rename_i hp
   split
   ·rename_i hh
    unfold xH
    split
    ·rename_i er;rw [er] at hne;exact absurd rfl hne
    ·rename_i k n rest er
     by_cases hk:k=("asker" : Str)
     ·simp only [if_pos hk]
      exact ⟨fun _=>h hp,fun _ e=>by cases e⟩
     ·simp only [if_neg hk]
      exact ⟨fun e=>(by cases e),fun e=>by cases e⟩
   ·rename_i z hh
    exact ⟨h,fun _ e=>by rw [hh] at e;cases e⟩
  ·rename_i q hp
   split
   ·exact ⟨fun e=>(by rw [hp] at e;cases e),fun e=>by rw [hp] at e;cases e⟩
   ·refine ⟨fun e=>?_,fun e=>?_⟩
    ·have e:s.ptr=none:=e
     rw [hp] at e;cases e
    ·have e:s.ptr=none:=e
     rw [hp] at e;cases e
theorem gZ {s:SS} (c:pH s) (e:DD):pH (zS (zW s e)).1:=by
 refine gY ?_
 cases e with
 | come z b=>exact fun _=>rfl
 | _=>exact c.1
theorem lH {ss:List SS} (h:∀ s ∈ ss,pH s) {i:Nat} {s:SS} (es:ss[i]?=some s) (e:DD):∀ t ∈ ss.set i (zS (zW s e)).1,pH t:=fun t ht=>by
 rcases List.mem_or_eq_of_mem_set ht with h' | rfl
 ·exact h t h'
 ·exact gZ (h s (zGB es)) e
def QH (ss:List SS) (z:Str) (n:Nat) (b:Bool):Prop:=∃ s,ss[n]?=some s/\(z,b) ∈ y1 s
theorem yB {s:SS} {z:Str} {b:Bool}:(z,b) ∈ y1 s ↔ (b=false/\s.hold=some z) \/ (b=true/\yH z ∈ s.row):=by
 unfold y1
 rw [zGO,List.mem_map]
 have h2:(∃ a ∈ s.row.filter fun r=>decide (r.1=("asker" : Str)),(a.2,true)=(z,b)) ↔ (b=true/\yH z ∈ s.row):=by
  constructor
  ·rintro ⟨⟨k,y⟩,h,e⟩
   obtain ⟨h1,h2⟩:=List.mem_filter.mp h
   have e':k=("asker" : Str):=of_decide_eq_true h2
   subst e'
   cases e
   exact ⟨rfl,h1⟩
  ·rintro ⟨rfl,h⟩
   exact ⟨yH z,List.mem_filter.mpr ⟨h,by simp⟩,rfl⟩
 rw [h2]
 cases s.hold with
 | none=>simp
 | some y=>
  simp only [zGA,Prod.mk.injEq,Option.some.injEq]
  constructor
  ·rintro (⟨rfl,rfl⟩ | h)
   ·exact .inl ⟨rfl,rfl⟩
   ·exact .inr h
  ·rintro (⟨rfl,rfl⟩ | h)
   ·exact .inl ⟨rfl,rfl⟩
   ·exact .inr h
theorem QH.asks {ss:List SS} {z:Str} {n:Nat} {b:Bool}:QH ss z n b ↔ (z,[V.int (n:Int),V.bl b]) ∈ wC 0 ss:=by
 rw [wY]
 constructor
 ·rintro ⟨s,h1,h2⟩
  exact ⟨n,s,b,h1,h2,by rw [Nat.zero_add]⟩
 ·rintro ⟨k,s,b',h1,h2,h3⟩
  rw [Nat.zero_add] at h3
  have e1:(n:Int)=(k:Int):=by injection h3 with e _;injection e
  have e2:b=b':=by injection h3 with _ e;injection e with e _;injection e
  obtain rfl:n=k:=by omega
  subst e2
  exact ⟨s,h1,h2⟩
theorem sQ {α β:Type} (f:α->β):∀ {l:List α} {x y:α},(l.map f).Nodup->x ∈ l->y ∈ l->f x=f y->x=y
 | [],_,_,_,h,_,_=>nomatch h
 | a :: l,x,y,nd,hx,hy,e=>by
  rw [List.map_cons] at nd
  obtain ⟨n1,n2⟩:=List.nodup_cons.mp nd
  rcases List.mem_cons.mp hx with q | h1 <;> rcases List.mem_cons.mp hy with q' | h2
  ·rw [q,q']
  ·subst q;exact absurd (List.mem_map.mpr ⟨y,h2,e.symm⟩) n1
  ·subst q';exact absurd (List.mem_map.mpr ⟨x,h1,e⟩) n1
  ·exact sQ f n2 h1 h2 e
theorem QH.one {ss:List SS} (nd:(yK ss).Nodup) {z:Str} {n n':Nat} {b b':Bool} (h:QH ss z n b) (h':QH ss z n' b'):n=n'/\b=b':=by
 have e:=sQ (·.1) (by rw [y2];exact nd) (QH.asks.mp h) (QH.asks.mp h') rfl
 injection e with _ e
 injection e with e1 e2
 injection e2 with e2 _
 injection e1 with e1
 injection e2 with e2
 exact ⟨by omega,e2⟩
theorem QH.name {ss:List SS} {z:Str} {n:Nat} {b:Bool} (h:QH ss z n b):z ∈ yK ss:=by
 obtain ⟨s,h1,h2⟩:=h
 exact wR.mpr ⟨n,s,h1,List.mem_map.mpr ⟨_,h2,rfl⟩⟩
theorem QH.set {ss:List SS} {i:Nat} {s s':SS} (h:ss[i]?=some s) {y:Str} {m:Nat} {c:Bool}:QH (ss.set i s') y m c ↔ (m=i/\(y,c) ∈ y1 s') \/ (m ≠ i/\QH ss y m c):=by
 have il:=(zF9.mp h).1
 unfold QH
 by_cases e:m=i
 ·subst e
  constructor
  ·rintro ⟨t,h1,h2⟩
   rw [zG4 il] at h1
   cases h1
   exact .inl ⟨rfl,h2⟩
  ·rintro (⟨_,h2⟩ | ⟨n,_⟩)
   ·exact ⟨s',by rw [zG4 il],h2⟩
   ·exact absurd rfl n
 ·rw [zG3 (Ne.symm e)]
  constructor
  ·exact fun h=>.inr ⟨e,h⟩
  ·rintro (⟨n,_⟩ | ⟨_,h⟩)
   ·exact absurd n e
   ·exact h
theorem QH.more {ss:List SS} {i:Nat} {s s':SS} {z:Str} {b:Bool} (h:ss[i]?=some s) (no:∀ m c,m ≠ i->¬ QH ss z m c) (a:∀ y c,(y,c) ∈ y1 s' ↔ (y=z/\c=b) \/ ((y,c) ∈ y1 s/\y ≠ z)) (y:Str) (m:Nat) (c:Bool):QH (ss.set i s') y m c ↔ (y=z/\m=i/\c=b) \/ (QH ss y m c/\y ≠ z):=by
 rw [QH.set h,a]
 constructor
 ·rintro (⟨rfl,⟨rfl,rfl⟩ | ⟨h1,h2⟩⟩ | ⟨h1,h2⟩)
  ·exact .inl ⟨rfl,rfl,rfl⟩
  ·exact .inr ⟨⟨s,h,h1⟩,h2⟩
  ·exact .inr ⟨h2,fun e=>no m c h1 (e ▸ h2)⟩
 ·rintro (⟨rfl,rfl,rfl⟩ | ⟨⟨t,h1,h2⟩,h3⟩)
  ·exact .inl ⟨rfl,.inl ⟨rfl,rfl⟩⟩
  ·by_cases e:m=i
   ·subst e
    rw [h] at h1;cases h1
    exact .inl ⟨rfl,.inr ⟨h2,h3⟩⟩
   ·exact .inr ⟨e,t,h1,h2⟩
theorem QH.less {ss:List SS} {i:Nat} {s s':SS} {z:Str} (h:ss[i]?=some s) (no:∀ m c,m ≠ i->¬ QH ss z m c) (a:∀ y c,(y,c) ∈ y1 s' ↔ ((y,c) ∈ y1 s/\y ≠ z)) (y:Str) (m:Nat) (c:Bool):QH (ss.set i s') y m c ↔ QH ss y m c/\y ≠ z:=by
 rw [QH.set h,a]
 constructor
 ·rintro (⟨rfl,h1,h2⟩ | ⟨h1,h2⟩)
  ·exact ⟨⟨s,h,h1⟩,h2⟩
  ·exact ⟨h2,fun e=>no m c h1 (e ▸ h2)⟩
 ·rintro ⟨⟨t,h1,h2⟩,h3⟩
  by_cases e:m=i
  ·subst e
   rw [h] at h1;cases h1
   exact .inl ⟨rfl,h2,h3⟩
  ·exact .inr ⟨e,t,h1,h2⟩
theorem QH.same {ss:List SS} {i:Nat} {s s':SS} (h:ss[i]?=some s) (a:∀ y c,(y,c) ∈ y1 s' ↔ (y,c) ∈ y1 s) (y:Str) (m:Nat) (c:Bool):QH (ss.set i s') y m c ↔ QH ss y m c:=by
 rw [QH.set h,a]
 constructor
 ·rintro (⟨rfl,h1⟩ | ⟨h1,h2⟩)
  ·exact ⟨s,h,h1⟩
  ·exact h2
 ·rintro ⟨t,h1,h2⟩
  by_cases e:m=i
  ·subst e
   rw [h] at h1;cases h1
   exact .inl ⟨rfl,h2⟩
  ·exact .inr ⟨e,t,h1,h2⟩
theorem QH.else {ss:List SS} (nd:(yK ss).Nodup) {i:Nat} {s:SS} {z:Str} {b:Bool} (h:ss[i]?=some s) (hz:(z,b) ∈ y1 s) (m:Nat) (c:Bool) (n:m ≠ i):¬ QH ss z m c:=fun q=>n (QH.one nd q ⟨s,h,hz⟩).1
theorem QH.alone {ss:List SS} (nd:(yK ss).Nodup) {i:Nat} {s:SS} {z:Str} {b c:Bool} (h:ss[i]?=some s) (hz:(z,b) ∈ y1 s) (hc:(z,c) ∈ y1 s):b=c:=(QH.one nd ⟨s,h,hz⟩ ⟨s,h,hc⟩).2
theorem pC {y z:Str}:yH y=yH z ↔ y=z:=⟨fun e=>congrArg Prod.snd e,fun e=>by rw [e]⟩
theorem iR {row:List (Str × Str)} {y z:Str}:yH y ∈ row ++ [hsR z] ↔ yH y ∈ row:=by
 rw [zGO,zGA]
 exact ⟨fun h=>h.resolve_right (fun e=>oX z y e.symm),.inl⟩
theorem QH.want {ss:List SS} {i:Nat} {s:SS} {z:Str} (h:ss[i]?=some s) (nz:z ∉ yK ss) (y:Str) (m:Nat) (c:Bool):QH (ss.set i (zW s (.want z))) y m c ↔ (y=z/\m=i/\c=true) \/ (QH ss y m c/\y ≠ z):=by
 refine QH.more h (fun m c _ q=>nz q.name) (fun y c=>?_) y m c
 have n0:∀ c,(z,c) ∉ y1 s:=fun c hc=>nz (QH.name ⟨s,h,hc⟩)
 constructor
 ·intro hy
  by_cases e:y=z
  ·subst e
   refine .inl ⟨rfl,?_⟩
   rcases yB.mp hy with ⟨rfl,h1⟩ | ⟨h1,_⟩
   ·exact absurd (yB.mpr (.inl ⟨rfl,(show s.hold=some y from h1)⟩)) (n0 false)
   ·exact h1
  ·refine .inr ⟨yB.mpr ?_,e⟩
   rcases yB.mp hy with h1 | ⟨h1,h2⟩
   ·exact .inl h1
   ·refine .inr ⟨h1,?_⟩
    have h2:yH y ∈ s.row ++ [yH z]:=h2
    rcases zGO.mp h2 with h2 | h2
    ·exact h2
    ·exact absurd (pC.mp (zGA.mp h2)) e
 ·rintro (⟨rfl,rfl⟩ | ⟨h1,_⟩)
  ·exact yB.mpr (.inr ⟨rfl,zGO.mpr (.inr (zGA.mpr rfl))⟩)
  ·rcases yB.mp h1 with h1 | ⟨h1,h2⟩
   ·exact yB.mpr (.inl h1)
   ·exact yB.mpr (.inr ⟨h1,zGO.mpr (.inl h2)⟩)
theorem QH.leave {ss:List SS} (nd:(yK ss).Nodup) {i:Nat} {s:SS} {z:Str} (h:ss[i]?=some s) (hz:yH z ∈ s.row) (y:Str) (m:Nat) (c:Bool):QH (ss.set i (zW s (.leave z))) y m c ↔ QH ss y m c/\y ≠ z:=by
 have az:(z,true) ∈ y1 s:=yB.mpr (.inr ⟨rfl,hz⟩)
 refine QH.less h (QH.else nd h az) (fun y c=>?_) y m c
 have rw':∀ y,yH y ∈ (zW s (.leave z)).row ↔ yH y ∈ s.row/\y ≠ z:=fun y=>by
  show yH y ∈ s.row.filter (fun x=>decide (x ≠ yH z)) ↔ _
  rw [List.mem_filter]
  simp only [decide_eq_true_eq,ne_eq,pC]
 rw [yB,yB,rw']
 constructor
 ·rintro (⟨rfl,h1⟩ | ⟨rfl,h1,h2⟩)
  ·refine ⟨.inl ⟨rfl,h1⟩,fun e=>?_⟩
   subst e
   exact absurd (QH.alone nd h az (yB.mpr (.inl ⟨rfl,h1⟩))) (by decide)
  ·exact ⟨.inr ⟨rfl,h1⟩,h2⟩
 ·rintro ⟨⟨rfl,h1⟩ | ⟨rfl,h1⟩,h2⟩
  ·exact .inl ⟨rfl,h1⟩
  ·exact .inr ⟨rfl,h1,h2⟩
theorem QH.done {ss:List SS} (nd:(yK ss).Nodup) {i:Nat} {s:SS} {z:Str} (h:ss[i]?=some s) (hz:s.hold=some z) (y:Str) (m:Nat) (c:Bool):QH (ss.set i (zW s (.done z))) y m c ↔ QH ss y m c/\y ≠ z:=by
 have az:(z,false) ∈ y1 s:=yB.mpr (.inl ⟨rfl,hz⟩)
 refine QH.less h (QH.else nd h az) (fun y c=>?_) y m c
 rw [yB,yB]
 constructor
 ·rintro (⟨_,h1⟩ | ⟨rfl,h1⟩)
  ·cases h1
  ·refine ⟨.inr ⟨rfl,h1⟩,fun e=>?_⟩
   subst e
   exact absurd (QH.alone nd h az (yB.mpr (.inr ⟨rfl,h1⟩))) (by decide)
 ·rintro ⟨⟨rfl,h1⟩ | ⟨rfl,h1⟩,h2⟩
  ·rw [hz] at h1;cases h1;exact absurd rfl h2
  ·exact .inr ⟨rfl,h1⟩
theorem QH.ask {ss:List SS} {i:Nat} {s:SS} {z:Str} (h:ss[i]?=some s) (y:Str) (m:Nat) (c:Bool):QH (ss.set i (zW s (.ask z))) y m c ↔ QH ss y m c:=by
 refine QH.same h (fun y c=>?_) y m c
 rw [yB,yB]
 show _ \/ (_/\yH y ∈ s.row ++ [hsR z]) ↔ _
 rw [iR];rfl
theorem QH.come {ss:List SS} {i:Nat} {s:SS} {z:Str} {b:Bool} (h:ss[i]?=some s) (y:Str) (m:Nat) (c:Bool):QH (ss.set i (zW s (.come z b))) y m c ↔ QH ss y m c:=by
 refine QH.same h (fun y c=>?_) y m c
 rw [yB,yB]
 cases b with
 | false=>exact Iff.rfl
 | true=>
  show _ \/ (_/\yH y ∈ s.row ++ [hsR z]) ↔ _
  rw [iR];rfl
inductive Mv (s:SS):SS->List (List V)->Prop
 | give {n:Str} {rest:List (Str × Str)}:s.hold=none->s.ptr=none->s.row=yH n :: rest->Mv s { s with row:=rest,hold:=some n } [[.str "given",.str n]]
 | other {t:SS} {ls:List (List V)}:(∀ y c,(y,c) ∈ y1 t ↔ (y,c) ∈ y1 s)->(ls=[] \/ ∃ (x:Str) (r:List V),ls=[.str x :: r]/\x ≠ "given")->Mv s t ls
theorem zBH (s:SS):Mv s (zS s).1 (zS s).2:=by
 unfold zS
 split
 ·exact .other (fun _ _=>Iff.rfl) (.inl rfl)
 ·rename_i hne
  split
  ·rename_i hp
   split
   ·rename_i hh
    unfold xH
    split
    ·rename_i er;rw [er] at hne;exact absurd rfl hne
    ·rename_i k n rest er
     by_cases hk:k=("asker" : Str)
     ·simp only [if_pos hk]
      exact .give hh hp (by rw [er,hk])
     ·simp only [if_neg hk]
      refine .other (fun y c=>?_) (.inr ⟨_,_,rfl,by decide +kernel⟩)
      rw [yB,yB,er]
      have:yH y ∈ (k,n) :: rest ↔ yH y ∈ rest:=by
       rw [List.mem_cons]
       exact ⟨fun h=>h.resolve_left (fun e=>hk (congrArg Prod.fst e).symm),.inr⟩
      rw [this]
      done
   ·exact .other (fun _ _=>Iff.rfl) (.inl rfl)
  ·split
   ·exact .other (fun _ _=>Iff.rfl) (.inl rfl)
   ·exact .other (fun _ _=>Iff.rfl) (.inr ⟨_,_,rfl,by decide +kernel⟩)
theorem dH:∀ {ss:List SS} {i:Nat} {s:SS},ss[i]?=some s->(xU s).Sublist (yK ss)
 | [],_,_,h=>by simp at h
 | x :: ss,0,s,h=>by
  have e:x=s:=by simpa using h
  subst e
  exact List.sublist_append_left _ _
 | x :: ss,i + 1,s,h=>(dH (ss:=ss) (by simpa using h)).trans (List.sublist_append_right (xU x) (yK ss))
theorem QH.give {ss:List SS} (nd:(yK ss).Nodup) {i:Nat} {s:SS} {n:Str} {rest:List (Str × Str)} (h:ss[i]?=some s) (hh:s.hold=none) (er:s.row=yH n :: rest) (y:Str) (m:Nat) (c:Bool):QH (ss.set i { s with row:=rest,hold:=some n }) y m c ↔ (y=n/\m=i/\c=false) \/ (QH ss y m c/\y ≠ n):=by
 have az:(n,true) ∈ y1 s:=yB.mpr (.inr ⟨rfl,by rw [er];exact zG0⟩)
 refine QH.more h (QH.else nd h az) (fun y c=>?_) y m c
 have nr:yH n ∉ rest:=fun hr=>by
  have:(xU s).Nodup:=nd.sublist (dH h)
  rw [xQ,hh,er] at this
  have e:vN (yH n :: rest)=n :: vN rest:=by unfold vN;rw [List.filter_cons,if_pos (by simp)];rfl
  rw [e] at this
  exact (List.nodup_cons.mp this).1 (m7.mpr hr)
 rw [yB,yB,er,hh]
 constructor
 ·rintro (⟨rfl,h1⟩ | ⟨rfl,h1⟩)
  ·cases h1;exact .inl ⟨rfl,rfl⟩
  ·exact .inr ⟨.inr ⟨rfl,zGK _ h1⟩,fun e=>nr (e ▸ h1)⟩
 ·rintro (⟨rfl,rfl⟩ | ⟨⟨_,h1⟩ | ⟨rfl,h1⟩,h2⟩)
  ·exact .inl ⟨rfl,rfl⟩
  ·cases h1
  ·rcases List.mem_cons.mp h1 with e | h1
   ·exact absurd (pC.mp e) h2
   ·exact .inr ⟨rfl,h1⟩
theorem iE:∀ (ss:List SS) (i:Nat) (s t:SS),xU s=xU t->yK (ss.set i s)=yK (ss.set i t)
 | [],_,_,_,_=>rfl
 | x :: ss,0,s,t,e=>by show xU s ++ _=xU t ++ _;rw [e]
 | x :: ss,i + 1,s,t,e=>congrArg (xU x ++ ·) (iE ss i s t e)
theorem dS {s:SS} {z:Str} (c:pH s) (hz:yH z ∈ s.row) (y:Str) (b:Bool):(y,b) ∈ y1 (zS (zW s (.leave z))).1 ↔ (y,b) ∈ y1 (zW s (.leave z)):=by
 have mv:=zBH (zW s (.leave z))
 generalize (zS (zW s (.leave z))).1=t at mv ⊢
 generalize (zS (zW s (.leave z))).2=ls at mv
 cases mv with
 | give h1 h2 _=>
  rw [c.2 h2 h1] at hz
  cases hz
 | other h _=>exact h y b
theorem vX.leave {k:Nat} {ss:List SS} {i:Nat} {s:SS} {z:Str} (I:vX k ss) (h:ss[i]?=some s) (hz:yH z ∈ s.row):vX k (ss.set i (zS (zW s (.leave z))).1):=by
 have J:=I.deed (nb:=[]) (AtR.leave h hz)
 have sl:=qI (s':=(zS (zW s (.leave z))).1) h (by
  rw [t3,xQ,xQ]
  refine List.Sublist.append (List.Sublist.refl _) ?_
  exact (List.Sublist.filter _ List.filter_sublist).map _)
 refine ⟨J.si,J.nd,zGI sl.length_le I.ln,fun t ht=>?_⟩
 rcases List.mem_or_eq_of_mem_set ht with h' | rfl
 ·exact I.rl t h'
 ·refine zGI (m4 _) ?_
  show (s.row.filter _).length <= k
  exact zGI (zG5 _ _) (I.rl s (zGB h))
abbrev TE':=Str × Nat × Bool × Addr
def tbE (E:List TE'):List (Str × V):=E.map fun e=>(e.1,V.ref e.2.2.2)
def i6 (z:Str) (E:List TE'):List TE':=E.filter fun e=>decide (e.1 ≠ z)
def kH (z:Str) (n:Nat) (b:Bool) (a:Addr) (E:List TE'):List TE':=if (E.any fun e=>decide (e.1=z))=true then E.map (fun e=>if e.1=z then (z,n,b,a) else e) else E ++ [(z,n,b,a)]
theorem kS {y z:Str}:((Sum.inr y:Key)=Sum.inr z)=(y=z):=propext ⟨fun e=>Sum.inr.inj e,fun e=>by rw [e]⟩
theorem aG (z:Str) (E:List TE'):uD (wJ (tbE E)) (.inr z)=wJ (tbE (i6 z E)):=by
 unfold uD wJ tbE i6
 rw [zGR,List.filter_map,zGR]
 refine congrArg (List.map _) (List.filter_congr fun e _=>?_)
 show decide ((Sum.inr e.1:Key) ≠ Sum.inr z)=decide (e.1 ≠ z)
 simp only [ne_eq,kS]
theorem aD (z:Str) (n:Nat) (b:Bool) (a:Addr) (E:List TE'):wG (wJ (tbE E)) (.inr z) (.ref a)=wJ (tbE (kH z n b a E)):=by
 have ea:((wJ (tbE E)).any fun kv=>decide (kv.1=Sum.inr z))=E.any fun e=>decide (e.1=z):=by
  unfold wJ tbE
  rw [zGR,List.any_map]
  refine congrArg (E.any ·) (funext fun e=>?_)
  show decide ((Sum.inr e.1:Key)=Sum.inr z)=decide (e.1=z)
  simp only [kS]
 unfold wG kH
 rw [ea]
 split
 ·unfold wJ tbE
  rw [zGR,zGR,zGR,zGR]
  refine List.map_congr_left fun e _=>?_
  show (if (Sum.inr e.1:Key)=Sum.inr z then ((Sum.inr e.1:Key),V.ref a) else (Sum.inr e.1,V.ref e.2.2.2))=(Sum.inr (if e.1=z then (z,n,b,a) else e).1,V.ref (if e.1=z then (z,n,b,a) else e).2.2.2)
  by_cases q:e.1=z
  ·rw [if_pos (by rw [q]),if_pos q,q]
  ·rw [if_neg (fun x=>q (Sum.inr.inj x)),if_neg q]
 ·unfold wJ tbE
  rw [zGJ,zGJ];rfl
theorem t6 {z:Str} {E:List TE'} {e:TE'}:e ∈ i6 z E ↔ e ∈ E/\e.1 ≠ z:=by
 unfold i6
 rw [List.mem_filter]
 simp only [decide_eq_true_eq]
theorem zDA {z:Str} {E:List TE'} (h:(E.map (·.1)).Nodup):((i6 z E).map (·.1)).Nodup:=h.sublist (List.filter_sublist.map _)
theorem rX {z:Str} {n:Nat} {b:Bool} {a:Addr} {E:List TE'} {e:TE'}:e ∈ kH z n b a E ↔ e=(z,n,b,a) \/ (e ∈ E/\e.1 ≠ z):=by
 unfold kH
 split
 ·rename_i h
  obtain ⟨x,hx,ex⟩:=List.any_eq_true.mp h
  have ex:x.1=z:=of_decide_eq_true ex
  rw [List.mem_map]
  constructor
  ·rintro ⟨y,hy,rfl⟩
   by_cases q:y.1=z
   ·rw [if_pos q];exact .inl rfl
   ·rw [if_neg q];exact .inr ⟨hy,q⟩
  ·rintro (rfl | ⟨h1,h2⟩)
   ·exact ⟨x,hx,if_pos ex⟩
   ·exact ⟨e,h1,if_neg h2⟩
 ·rename_i h
  rw [zGO,zGA]
  constructor
  ·rintro (h1 | h1)
   ·exact .inr ⟨h1,fun q=>h (List.any_eq_true.mpr ⟨e,h1,by rw [q];simp⟩)⟩
   ·exact .inl h1
  ·rintro (h1 | ⟨h1,_⟩)
   ·exact .inr h1
   ·exact .inl h1
theorem zC9 {z:Str} {n:Nat} {b:Bool} {a:Addr} {E:List TE'} (h:(E.map (·.1)).Nodup):((kH z n b a E).map (·.1)).Nodup:=by
 unfold kH
 split
 ·rw [zGR]
  have:E.map ((fun x=>x.1) ∘ fun e=>if e.1=z then (z,n,b,a) else e)=E.map (·.1):=List.map_congr_left fun e _=>by
   show (if e.1=z then (z,n,b,a) else e).1=e.1
   by_cases q:e.1=z
   ·rw [if_pos q,q]
   ·rw [if_neg q]
  rw [this];exact h
 ·rename_i hn
  rw [zGJ]
  refine List.nodup_append.mpr ⟨h,List.pairwise_singleton _ _,fun x hx y hy e=>?_⟩
  obtain ⟨u,hu,rfl⟩:=List.mem_map.mp hx
  rw [List.map_singleton,zGA] at hy
  exact hn (List.any_eq_true.mpr ⟨u,hu,by rw [e,hy];simp⟩)
theorem uF:∀ {E:List TE'} {e:TE'},(E.map (·.1)).Nodup->e ∈ E->vO (wJ (tbE E)) (.inr e.1)=some (.ref e.2.2.2)
 | [],_,_,h=>nomatch h
 | x :: E,e,nd,h=>by
  unfold vO wJ tbE
  rw [List.map_cons,List.map_cons,List.find?_cons]
  rw [List.map_cons] at nd
  obtain ⟨n1,n2⟩:=List.nodup_cons.mp nd
  rcases List.mem_cons.mp h with rfl | h
  ·simp
  ·have:x.1 ≠ e.1:=fun q=>n1 (List.mem_map.mpr ⟨e,h,q.symm⟩)
   simp only [kS,this,decide_false]
   exact uF n2 h
structure y4 (H:Hp) (tab:Addr) (E:List TE') (ss:List SS):Prop where
 h:H tab=some (.dK (wJ (tbE E)))
 tu:∀ e ∈ E,H e.2.2.2=some (.tup [.int (e.2.1:Int),.bl e.2.2.1])
 nd:(E.map (·.1)).Nodup
 me:∀ z n b,(∃ a,(z,n,b,a) ∈ E) ↔ QH ss z n b
theorem y4.keep {H H':Hp} {tab:Addr} {E:List TE'} {ss:List SS} {S:List Addr} (t:y4 H tab E ss) (k:zC S H H') (n:tab ∉ S) (nt:∀ c ∈ S,∀ xs,H c ≠ some (.tup xs)):y4 H' tab E ss:=
 ⟨k _ _ n t.h,fun e he=>k _ _ (fun hm=>nt _ hm _ (t.tu e he)) (t.tu e he),t.nd,t.me⟩
theorem y4.on {H H':Hp} {tab:Addr} {E:List TE'} {ss:List SS} (t:y4 H tab E ss) (k:zC [] H H'):y4 H' tab E ss:=t.keep k (by simp) (fun c hc=>by cases hc)
theorem y4.iff {H:Hp} {tab:Addr} {E:List TE'} {ss ss':List SS} (t:y4 H tab E ss) (h:∀ z n b,QH ss' z n b ↔ QH ss z n b):y4 H tab E ss':=⟨t.h,t.tu,t.nd,fun z n b=>(t.me z n b).trans (h z n b).symm⟩
theorem y4.pop {H:Hp} {tab:Addr} {E:List TE'} {ss ss':List SS} {z:Str} (t:y4 H tab E ss) (q:∀ y m c,QH ss' y m c ↔ QH ss y m c/\y ≠ z):y4 (upd H tab (.dK (uD (wJ (tbE E)) (.inr z)))) tab (i6 z E) ss':=by
 refine ⟨by rw [zB,aG],fun e he=>?_,zDA t.nd,fun y m c=>?_⟩
 ·have h:=t.tu e (t6.mp he).1
  rw [zI (fun q=>by rw [q,t.h] at h;cases h)];exact h
 ·rw [q,<- t.me]
  constructor
  ·rintro ⟨a,h⟩
   obtain ⟨h1,h2⟩:=t6.mp h
   exact ⟨⟨a,h1⟩,h2⟩
  ·rintro ⟨⟨a,h1⟩,h2⟩
   exact ⟨a,t6.mpr ⟨h1,h2⟩⟩
theorem y4.put {H:Hp} {tab:Addr} {E:List TE'} {ss ss':List SS} {z:Str} {n:Nat} {b:Bool} {a:Addr} (t:y4 H tab E ss) (ha:H a=some (.tup [.int (n:Int),.bl b])) (q:∀ y m c,QH ss' y m c ↔ (y=z/\m=n/\c=b) \/ (QH ss y m c/\y ≠ z)) :
  y4 (upd H tab (.dK (wG (wJ (tbE E)) (.inr z) (.ref a)))) tab (kH z n b a E) ss':=by
 refine ⟨by rw [zB,aD],fun e he=>?_,zC9 t.nd,fun y m c=>?_⟩
 ·have h:H e.2.2.2=some (.tup [.int (e.2.1:Int),.bl e.2.2.1]):=by
   rcases rX.mp he with rfl | ⟨h1,_⟩
   ·exact ha
   ·exact t.tu e h1
  rw [zI (fun q=>by rw [q,t.h] at h;cases h)];exact h
 ·rw [q,<- t.me]
  constructor
  ·rintro ⟨x,h⟩
   rcases rX.mp h with e | ⟨h1,h2⟩
   ·cases e;exact .inl ⟨rfl,rfl,rfl⟩
   ·exact .inr ⟨⟨x,h1⟩,h2⟩
  ·rintro (⟨rfl,rfl,rfl⟩ | ⟨⟨x,h1⟩,h2⟩)
   ·exact ⟨a,rX.mpr (.inl rfl)⟩
   ·exact ⟨x,rX.mpr (.inr ⟨h1,h2⟩)⟩
theorem y4.len {H:Hp} {tab:Addr} {E:List TE'} {ss:List SS} (t:y4 H tab E ss):(E.map (·.1)).Perm (yK ss) \/ ¬ (yK ss).Nodup:=by
 by_cases nd:(yK ss).Nodup
 ·refine .inl ((List.perm_ext_iff_of_nodup t.nd nd).mpr fun z=>?_)
  constructor
  ·intro h
   obtain ⟨e,he,rfl⟩:=List.mem_map.mp h
   exact ((t.me e.1 e.2.1 e.2.2.1).mp ⟨e.2.2.2,he⟩).name
  ·intro h
   rw [<- y2 ss 0] at h
   obtain ⟨r,hr,rfl⟩:=List.mem_map.mp h
   obtain ⟨k,s,b,h1,h2,_⟩:=wY.mp hr
   obtain ⟨a,ha⟩:=(t.me r.1 k b).mpr ⟨s,h1,h2⟩
   exact List.mem_map.mpr ⟨_,ha,rfl⟩
 ·exact .inr nd
theorem y4.names {H:Hp} {tab:Addr} {E:List TE'} {ss:List SS} (t:y4 H tab E ss) (nd:(yK ss).Nodup):(E.map (·.1)).Perm (yK ss):=t.len.resolve_right (fun h=>h nd)
def nI (E:List TE') (z:Str):List V:=match E.find? fun e=>decide (e.1=z) with | some e=>[.int (e.2.1:Int),.bl e.2.2.1] | none=>[]
theorem nG:∀ {E:List TE'} {e:TE'},(E.map (·.1)).Nodup->e ∈ E->nI E e.1=[.int (e.2.1:Int),.bl e.2.2.1]
 | [],_,_,h=>nomatch h
 | x :: E,e,nd,h=>by
  unfold nI
  rw [List.find?_cons]
  rw [List.map_cons] at nd
  obtain ⟨n1,n2⟩:=List.nodup_cons.mp nd
  rcases List.mem_cons.mp h with rfl | h
  ·simp
  ·have:x.1 ≠ e.1:=fun q=>n1 (List.mem_map.mpr ⟨e,h,q.symm⟩)
   simp only [this,decide_false]
   exact nG n2 h
theorem y4.due {H:Hp} {tab:Addr} {E:List TE'} {ss:List SS} (t:y4 H tab E ss) (nd:(yK ss).Nodup) {ys:List Str} {rs:List (Str × List V)} (py:ys.Perm ((tbE E).map (·.1))) (ay:Asc ltS ys) (pr:rs.Perm (wC 0 ss)) (ar:Asc ltN rs):ys.map (fun z=>nmV (z,nI E z))=rs.map nmV:=by
 have e0:(tbE E).map (·.1)=E.map (·.1):=by unfold tbE;rw [zGR];rfl
 rw [e0] at py
 have pn:(rs.map (·.1)).Perm (yK ss):=by rw [<- y2 ss 0];exact pr.map _
 have ey:ys=rs.map (·.1):=by
  refine c9 (fun a b=>zAB) (py.trans ((t.names nd).trans pn.symm)) ay ?_
  unfold Asc
  rw [List.pairwise_map]
  exact ar
 rw [ey,zGR]
 refine List.map_congr_left fun r hr=>?_
 have hr:=pr.mem_iff.mp hr
 obtain ⟨k,s,b,h1,h2,h3⟩:=wY.mp hr
 obtain ⟨a,ha⟩:=(t.me r.1 k b).mpr ⟨s,h1,h2⟩
 have:=nG t.nd ha
 rw [Nat.zero_add] at h3
 show nmV (r.1,nI E r.1)=nmV r
 rw [show nI E r.1=r.2 from this.trans h3.symm]
abbrev sNo:Stmt:=top 44
theorem bR {a b r:TS} {D:lR} {σ:St} {H:Hp} (M:St->Hp->Prop) (h2:∀ σ' H',M σ' H'->r D σ' H') (h1:∀ nx':St->Hp->Prop,(∀ σ' H',M σ' H'->nx' σ' H')->pD a b { D with nx:=nx' } σ H):pD a (pD b r) D σ H:=h1 (r D) h2
section
variable {P:Program} {w:World} {K:PySem.W.Frag} {mg:Str->Option Value} {base:Heap} {C CS:Addr}
theorem f6:zN ["_law_table","_law_deed","_law_told_here","_law_house","_law_many","_law_right","_law_some","_law_line"] ["_law_table","_law_deed","_law_told_here","_law_house","_law_many"] (zG sNo):=⟨rfl,rfl,rfl,by decide +kernel,rfl,by decide +kernel,by decide +kernel⟩
def zD8 (C CS:Addr):Sp:=fun vs H Q _=>∃ (B:Addr->Prop) (tab t lr p:Addr) (nm:Str) (nb:List Str) (xs:List (Addr × Addr)) (ss:List SS) (k:Nat) (h:HD) (i:Nat) (s:SS) (d:DD) (E:List TE'),vs=[.ref tab,.ref t,.ref lr,.ref p,.int (ss.length:Int)]/\z6 B C CS H p nm nb xs (ss.set i (zS (zW s d)).1)/\vX k ss/\k <= 60/\ss.length <= 100/\H t=some (.tup (hdV h))/\AtR nb ss h i s d/\Rows H lr ((zS (zW s d)).2.map (mY i))/\y4 H tab E ss /\
 ∀ (E':List TE') (H':Hp),y4 H' tab E' (ss.set i (zS (zW s d)).1)->zC [tab] H H'->Q .non H'
theorem okNo (T:x9 K C) (G:yW K mg "_law_noted" sNo ["_law_table","_law_deed","_law_told_here","_law_house","_law_many"]) (MR:yV P w K mg base CX0 3 C "row" ["self","right"] (zA4 C CS)) (MI:yV P w K mg base CX0 3 C "inside" ["self","right"] (zA5 C CS)) (b_range:Blt mg "range"):Cal P w K mg base CX0 4 "_law_noted" ["_law_table","_law_deed","_law_told_here","_law_house","_law_many"] (zD8 C CS):=by
 refine G.ok f6 (fun vs H Q E h=>by obtain ⟨B,tab,t,lr,p,nm,nb,xs,ss,k,hx,i,s,dd,E',rfl,_⟩:=h;rfl) (fun f cdv A outer s0 H vs Q E0 hr h=>?_)
 obtain ⟨B,tab,t,lr,p,nm,nb,xs,ss,k,hx,i,s,dd,E,rfl,hh,I,hk,l100,ht,a,R,TI,q⟩:=h
 have hr3:z7 3 _:=hr
 have hu:=uC hr
 have J:=I.deed a
 have es:=a.here
 have il:=(zF9.mp es).1
 have eA:(ss.set i (zW s dd)).set i (zS (zW s dd)).1=ss.set i (zS (zW s dd)).1:=List.set_set _
 have nA:yK (ss.set i (zW s dd))=yK (ss.set i (zS (zW s dd)).1):=(iE ss i _ _ (t3 _)).symm
 have ndA:(yK (ss.set i (zW s dd))).Nodup:=by rw [nA];exact J.nd
 have esA:(ss.set i (zW s dd))[i]?=some (zW s dd):=zG4 il
 have elen:∀ {H':Hp} {E':List TE'},y4 H' tab E' (ss.set i (zW s dd))->(wJ (tbE E')).length < sizeLine:=fun {H' E'} t=>by
  have:=(t.names ndA).length_eq
  rw [nA,zF7] at this
  have:=J.ln
  unfold wJ tbE
  rw [zF7,zF7,sizeLine_eq]
  omega
 have elen0:(wJ (tbE E)).length < sizeLine:=by
  have:=(TI.names I.nd).length_eq
  rw [zF7] at this
  have:=I.ln
  unfold wJ tbE
  rw [zF7,zF7,sizeLine_eq]
  omega
 refine ⟨_,(zE (z4 (zT sO (zV zY (pv 1) zJ (fun _ _=>rfl)) (z8 (zA zM (zA zM zD))) (by with_unfolding_all rfl)) (zF (yG (mQ (pv 0) (zV zY (pv 1) zJ (fun _ _=>rfl)) ⟨rfl,rfl,rfl,rfl⟩))) zQ)
   (zE (z4 (zT xW (zV zY (pv 1) zJ (fun _ _=>rfl)) zM (zX _)) (zE (yI (i:=5) f6.nd rfl (Or.inl rfl) (zV zY (pv 1) zJ (fun _ _=>rfl)))
   (zE (z4 (zT vJ (pv 5) yZ (zX _)) (zE (vZ (i:=6) f6.nd rfl (Or.inl rfl) (N:=["_law_table","_law_deed","_law_told_here","_law_house","_law_many","_law_right","_law_some","_law_line"]) (sc:=zG sNo) (ix:=[1,3]) (by decide +kernel) (wI rfl b_range.no (zA (pv 4) zD)) (fun _ _ _ _=>(iA (PW.pt (pK (zT (oW hu) (z8 (zA zM (zA (zV zY (pv 1) zJ (fun _ _=>rfl)) zD))) (x3 MR T.cl hr3 (pv 2) (zA (pv 0) zD)) (by with_unfolding_all rfl)) (sL (zT xW (x3 MI T.cl hr3 (pv 2) (zA (pv 0) zD)) (zV zY (pv 1) zJ (fun _ _=>rfl)) (zX _))))))) (fun _ _ _ _=>(pv 0)))
   (zF (yI (i:=5) f6.nd rfl (Or.inl rfl) (zV yA (yO sP (pv 6) (y8 (zA yZ zD))) zJ (fun _ _=>rfl))))) zQ)
   (zF (vE hu (pv 0) (zV zY (pv 1) zJ (fun _ _=>rfl)) (z8 (zA (pv 5) (zA wP zD))) rfl)))) zQ)
   (zF (vU PassesOwn.never rfl (xE (pv 2)) (yE (i:=7) f6.nd rfl (Or.inl rfl)) (zF (z4 (zT xW (zV zY (pv 7) zJ (fun _ _=>rfl)) zM (zX _)) (zF (vE hu (pv 0) (zV zY (pv 7) zJ (fun _ _=>rfl)) (z8 (zA (zV zY (pv 7) zJ (fun _ _=>rfl)) (zA wP zD))) rfl)) zQ)))))),?_⟩
 refine bR (fun σ' H'=>∃ (E1:List TE') (v5 v6:Option V),σ'=[some (.ref tab),some (.ref t),some (.ref lr),some (.ref p),some (.int (ss.length:Int)),v5,v6,none]/\y4 H' tab E1 (ss.set i (zW s dd))/\zC [tab] H H') ?_ ?_
 ·
  rintro σ' H' ⟨E1,v5,v6,rfl,T1,k1⟩
  have nt:∀ c ∈ [tab],∀ xs,H c ≠ some (.tup xs):=fun c hc xs z=>by rw [zGA.mp hc,TI.h] at z;cases z
  obtain ⟨ps,e1,r1⟩:=R
  have lt:lr ≠ tab:=xO e1 TI.h (by intro z;cases z)
  have e1':=k1 _ _ (by simp [lt]) e1
  have r1':=zK k1 nt r1
  have mv:=zBH (zW s dd)
  rw [<- eA] at q
  generalize (zS (zW s dd)).1=t' at mv q
  generalize (zS (zW s dd)).2=ls at mv r1 r1'
  cases mv with
  | @give n rest hh0 hp0 er=>
   cases r1' with
   | @cons x _ _ _ ex rr=>
   cases rr
   refine ⟨_,rfl,lr,rfl,⟨_,.of e1'⟩,vL (K:=K) (a:=lr) (xs:=[V.ref x]) (fun j σ H2=>∃ (E2:List TE') (v7:Option V),σ=[some (.ref tab),some (.ref t),some (.ref lr),some (.ref p),some (.int (ss.length:Int)),v5,v6,v7]/\y4 H2 tab E2 (if j=0 then ss.set i (zW s dd) else (ss.set i (zW s dd)).set i { zW s dd with row:=rest,hold:=some n })/\zC [tab] H' H2) ⟨E1,_,rfl,T1,zC.refl _⟩ ?_ ?_ ?_⟩
   ·rintro j σ H2 _ ⟨E2,v7,rfl,T2,k2⟩
    exact .of (k2 _ _ (by simp [lt]) e1')
   ·rintro j y σ H2 hy ⟨E2,v7,rfl,T2,k2⟩
    cases j with
    | succ j=>simp at hy
    | zero=>
    have ey:V.ref x=y:=by simpa using hy
    subst ey
    have T2:y4 H2 tab E2 (ss.set i (zW s dd)):=T2
    have xt:x ≠ tab:=xO ex T1.h (by intro z;cases z)
    have ex2:H2 x=some (.tup [.str "given",.int (i:Int),.str n]):=k2 _ _ (by simp [xt]) ex
    refine ⟨_,rfl,x,_,0,_,rfl,rfl,ex2,at0 _ _,rfl,_,rfl,ifT (by decide +kernel) ?_⟩
    refine ⟨_,rfl,x,_,1,_,rfl,rfl,ex2,at1 _ _ _,by show 2 <= sizeLine;decide,fun a2 ha2=>?_⟩
    have k3:zC [] H2 (upd H2 a2 (.tup [.int (i:Int),.bl false])):=zC.new ha2
    have e3:upd H2 a2 (.tup [.int (i:Int),.bl false]) a2=some (.tup [.int (i:Int),.bl false]):=zB
    generalize upd H2 a2 (.tup [.int (i:Int),.bl false])=H3 at k3 e3 ⊢
    have T3:=T2.on k3
    refine ⟨_,rfl,_,rfl,x,_,2,_,rfl,rfl,k3 _ _ (by simp) ex2,at2 _ _ _ _,tab,_,rfl,pG.k (k:=.inr n) T3.h (elen T3),?_⟩
    refine ⟨_,_,rfl,T3.put e3 (fun y m c=>?_),(k2.trans (k3.mono (by simp))).trans (zC.at (by simp))⟩
    exact QH.give ndA esA hh0 er y m c
   ·rintro σ H2 ⟨E2,v7,rfl,T2,k2⟩
    exact q E2 H2 T2 (k1.trans k2)
  | @other _ _ same form=>
   refine ⟨_,rfl,lr,rfl,⟨_,.of e1'⟩,vL (K:=K) (a:=lr) (xs:=ps.map V.ref) (fun j σ H2=>∃ (v7:Option V),σ=[some (.ref tab),some (.ref t),some (.ref lr),some (.ref p),some (.int (ss.length:Int)),v5,v6,v7]/\zC [] H' H2) ⟨_,rfl,zC.refl _⟩ ?_ ?_ ?_⟩
   ·rintro j σ H2 _ ⟨v7,rfl,k2⟩
    exact .of (k2 _ _ (by simp) e1')
   ·rintro j y σ H2 hy ⟨v7,rfl,k2⟩
    rcases form with rfl | ⟨x,r,rfl,nx⟩
    ·cases r1'
     simp at hy
    ·cases r1' with
     | @cons u _ _ _ ex rr=>
     cases rr
     cases j with
     | succ j=>simp at hy
     | zero=>
     have ey:V.ref u=y:=by simpa using hy
     subst ey
     refine ⟨_,rfl,u,_,0,_,rfl,rfl,k2 _ _ (by simp) ex,at0 _ _,rfl,_,rfl,ifF (zGN fun z=>nx (by injection z)) ?_⟩
     exact ⟨_,rfl,k2⟩
   ·rintro σ H2 ⟨v7,rfl,k2⟩
    exact q E1 H2 ((T1.on k2).iff fun y m c=>QH.same esA same y m c) (k1.trans (k2.mono (by simp)))
 intro nx' hM
 have tt:t ≠ tab:=xO ht TI.h (by intro z;cases z)
 cases a with
 | @any z _ _ _ eb gz nz=>
  refine ⟨_,rfl,t,_,0,_,rfl,rfl,ht,at0 _ _ ,by show 2 <= sizeLine;decide,fun tp htp=>⟨tp,_,rfl,.inr (.of zB),rfl,rfl,_,rfl,ifF (by decide +kernel) ?_⟩⟩
  have k1:zC [] H (upd H tp (.tup [.str "leave",.str "done"])):=zC.new htp
  generalize upd H tp (.tup [.str "leave",.str "done"])=H1 at k1 ⊢
  have ht1:=k1 _ _ (by simp) ht
  refine ⟨_,rfl,t,_,0,_,rfl,rfl,ht1,at0 _ _,rfl,_,rfl,ifT (by decide +kernel) ?_⟩
  refine ⟨_,rfl,t,_,2,_,rfl,rfl,ht1,at2 _ _ _ _,?_⟩
  refine ⟨_,rfl,rfl,_,rfl,ifT rfl ?_⟩
  have hh1:=hh.on k1
  obtain ⟨dx,nl,sl,_,hp,_⟩:=id hh1
  have zi:∀ (j:Nat) (u:SS),(ss.set i (zS (zW s (.want z))).1)[j]?=some u->(z ∈ xU u ↔ j=i):=fun j u hu=>by
   have mem:z ∈ xU (zS (zW s (.want z))).1:=by
    rw [t3]
    exact wB.mpr (.inr (zGO.mpr (.inr (zGA.mpr rfl))))
   have ei:(ss.set i (zS (zW s (.want z))).1)[i]?=some (zS (zW s (.want z))).1:=zG4 il
   constructor
   ·exact fun h=>t0 J.nd hu ei h mem
   ·intro e
    subst e
    rw [ei] at hu
    cases hu
    exact mem
  refine ⟨_,rfl,_,rfl,by omega,by omega,fun acc hacc=>?_⟩
  have la:∀ {u:Addr} {o:HO},H1 u=some o->u ≠ acc:=fun hu=>zH hu hacc
  refine lA (by rw [sizeLine_eq];omega) (fun j ys τ H5=>∃ kk:Option V,τ=[kk,some (.ref t),some (.ref p)]/\ys=(if i < j then [V.int (i:Int)] else [])/\zC [acc] H1 H5/\H5 acc=some (.lst ys)) ⟨_,rfl,by rw [if_neg (Nat.not_lt_zero _)],zC.at (by simp),zB⟩ ?_ ?_ ?_
  ·rintro j ys τ H5 ⟨kk,rfl,rfl,kp,h5⟩
   refine ⟨h5,?_⟩
   split
   ·show 1 <= j;omega
   ·exact zGH _
  ·rintro j ys τ H5 hj ⟨kk,rfl,rfl,kp,h5⟩
   rw [Int.toNat_natCast] at hj
   have ht5:=kp _ _ (by simp [la ht1]) ht1
   refine ⟨_,rfl,t,_,1,_,rfl,rfl,ht5,at1 _ _ _,by show 2 <= sizeLine;decide,fun tp htp=>?_⟩
   have ei:(0:Int) + (j:Int)=(j:Int):=by omega
   have k6:zC [] H5 (upd H5 tp (.tup [.str "asker",.str z])):=zC.new htp
   have e6:upd H5 tp (.tup [.str "asker",.str z]) tp=some (.tup [.str "asker",.str z]):=zB
   generalize upd H5 tp (.tup [.str "asker",.str z])=H6 at k6 e6 ⊢
   have kp6:=kp.trans (k6.mono (by simp))
   have hh6:=hh1.on (kp6.drop hacc)
   have hp6:=kp6 _ _ (by simp [la hp]) hp
   have h6:=k6 _ _ (by simp) h5
   obtain ⟨u,es6⟩:∃ u,(ss.set i (zS (zW s (.want z))).1)[j]?=some u:=⟨_,zF8 (by rw [zG8];exact hj)⟩
   have zu:=zi j u es6
   have su:=J.si u (zGB es6)
   refine ⟨_,rfl,p,dx,_,rfl,hp6,zFI _ _ _,_,rfl,B,p,j,nm,nb,xs,_,_,congrArg (fun z=>[V.ref p,V.int z]) ei,hh6,es6,fun r H7 hr hR k7=>?_⟩
   have h7:=k7 _ _ (by simp) h6
   have kp7:=kp6.trans (k7.mono (by simp))
   refine ⟨r,tp,_,_,rfl,rfl,hR,k7 _ _ (by simp) e6,rfl,?_,?_⟩
   ·intro x hx
    obtain ⟨y,_,rfl⟩:=List.mem_map.mp hx
    rfl
   have yes:j=i->(if i < j then [V.int (i:Int)] else []) ++ [V.int (0 + (j:Int))]=if i < j + 1 then [V.int (i:Int)] else []:=fun e=>by
    subst e
    rw [if_neg (Nat.lt_irrefl _),if_pos (Nat.lt_succ_self _),ei];rfl
   have no:j ≠ i->(if i < j then [V.int (i:Int)] else [])=if i < j + 1 then [V.int (i:Int)] else []:=fun e=>by
    by_cases h:i < j
    ·rw [if_pos h,if_pos (by omega)]
    ·rw [if_neg h,if_neg (by omega)]
   refine ⟨_,rfl,?_⟩
   by_cases hm:yH z ∈ u.row
   ·refine ifT (by show ((u.row.map yR).any fun r=>eqT r (yR (yH z)))=true;rw [uR];exact zGM hm) (ifT rfl ?_)
    exact ⟨_,rfl,h7,_,rfl,yes (zu.mp (wB.mpr (.inr hm))),kp7.trans (zC.at (by simp)),zB⟩
   ·refine ifF (by show ((u.row.map yR).any fun r=>eqT r (yR (yH z)))=false;rw [uR];exact zGN hm) ?_
    have hp7:=k7 _ _ (by simp) hp6
    have hh7:=hh6.on k7
    have ht7:=kp7 _ _ (by simp [la ht1]) ht1
    refine ⟨_,rfl,p,dx,_,rfl,hp7,zFJ _ _ _,_,rfl,B,p,j,nm,nb,xs,_,_,congrArg (fun z=>[V.ref p,V.int z]) ei,hh7,es6,_,rfl,t,_,1,_,rfl,rfl,ht7,at1 _ _ _,by cases u.hold <;> rfl,_,rfl,?_⟩
    by_cases hd:u.hold=some z
    ·refine ifT (zGM (by rw [hd];rfl)) ?_
     exact ⟨_,rfl,h7,_,rfl,yes (zu.mp (wB.mpr (.inl hd))),kp7.trans (zC.at (by simp)),zB⟩
    ·refine ifF (zGN fun e=>?_) ?_
     ·cases eh:u.hold with
      | none=>rw [eh] at e;cases e
      | some y=>rw [eh] at e;have e:V.str y=V.str z:=e;injection e with e;subst e;exact hd eh
     ·refine ⟨_,rfl,no (fun e=>?_),kp7,h7⟩
      rcases wB.mp (zu.mpr e) with h | h
      ·exact hd h
      ·exact hm h
  ·rintro ys τ H5 ⟨kk,rfl,rfl,kp,h5⟩
   rw [Int.toNat_natCast,if_pos il] at h5
   have kp':zC [] H1 H5:=kp.drop hacc
   refine ⟨_,rfl,by show 1 <= sizeLine;decide,fun em hem=>⟨acc,em,_,_,rfl,rfl,(zC.new (S:=[]) hem) _ _ (by simp) h5,zB,by show 1 + 1 <= sizeLine;decide,fun l hl=>⟨l,_,0,_,rfl,rfl,zB,rfl,?_⟩⟩⟩
   have k6:zC [] H5 (upd (upd H5 em (.lst [.non])) l (.lst ([V.int (i:Int)] ++ [.non]))):=(zC.new hem).trans (zC.new hl)
   generalize upd (upd H5 em (.lst [.non])) l (.lst ([V.int (i:Int)] ++ [.non]))=H6 at k6 ⊢
   refine ⟨_,rfl,by show 2 <= sizeLine;decide,fun a2 ha2=>?_⟩
   have k2:zC [] H6 (upd H6 a2 (.tup [.int (i:Int),.bl true])):=zC.new ha2
   have e2:upd H6 a2 (.tup [.int (i:Int),.bl true]) a2=some (.tup [.int (i:Int),.bl true]):=zB
   generalize upd H6 a2 (.tup [.int (i:Int),.bl true])=H2 at k2 e2 ⊢
   have k12:=(kp'.trans k6).trans k2
   have T2:=TI.on (k1.trans k12)
   refine ⟨_,rfl,_,rfl,t,_,1,_,rfl,rfl,k12 _ _ (by simp) ht1,at1 _ _ _,tab,_,rfl,pG.k (k:=.inr z) T2.h elen0,?_⟩
   exact hM _ _ ⟨_,_,_,rfl,T2.put e2 (QH.want es nz),((k1.trans k12).mono (by simp)).trans (zC.at (by simp))⟩
 | @want z _ _ _ gz nz=>
  refine ⟨_,rfl,t,_,0,_,rfl,rfl,ht,at0 _ _ ,by show 2 <= sizeLine;decide,fun tp htp=>⟨tp,_,rfl,.inr (.of zB),rfl,rfl,_,rfl,ifF (by decide +kernel) ?_⟩⟩
  have k1:zC [] H (upd H tp (.tup [.str "leave",.str "done"])):=zC.new htp
  generalize upd H tp (.tup [.str "leave",.str "done"])=H1 at k1 ⊢
  have ht1:=k1 _ _ (by simp) ht
  refine ⟨_,rfl,t,_,0,_,rfl,rfl,ht1,at0 _ _,rfl,_,rfl,ifT (by decide +kernel) ?_⟩
  refine ⟨_,rfl,t,_,2,_,rfl,rfl,ht1,at2 _ _ _ _,?_⟩
  refine ⟨_,rfl,rfl,_,rfl,ifF rfl ?_⟩
  refine ⟨_,rfl,by show 2 <= sizeLine;decide,fun a2 ha2=>?_⟩
  have k2:zC [] H1 (upd H1 a2 (.tup [rV (some i),.bl true])):=zC.new ha2
  have e2:upd H1 a2 (.tup [rV (some i),.bl true]) a2=some (.tup [.int (i:Int),.bl true]):=zB
  generalize upd H1 a2 (.tup [rV (some i),.bl true])=H2 at k2 e2 ⊢
  have T2:=TI.on (k1.trans k2)
  refine ⟨_,rfl,_,rfl,t,_,1,_,rfl,rfl,k2 _ _ (by simp) ht1,at1 _ _ _,tab,_,rfl,pG.k (k:=.inr z) T2.h elen0,?_⟩
  exact hM _ _ ⟨_,_,_,rfl,T2.put e2 (QH.want es nz),((k1.trans k2).mono (by simp)).trans (zC.at (by simp))⟩
 | @leave z _ _ _ hm=>
  refine ⟨_,rfl,t,_,0,_,rfl,rfl,ht,at0 _ _ ,by show 2 <= sizeLine;decide,fun tp htp=>⟨tp,_,rfl,.inr (.of zB),rfl,rfl,_,rfl,ifT (by decide +kernel) ?_⟩⟩
  have k1:zC [] H (upd H tp (.tup [.str "leave",.str "done"])):=zC.new htp
  generalize upd H tp (.tup [.str "leave",.str "done"])=H1 at k1 ⊢
  have ht1:=k1 _ _ (by simp) ht
  have T1:=TI.on k1
  obtain ⟨ad,he⟩:=(TI.me z i true).mpr ⟨s,es,yB.mpr (.inr ⟨rfl,hm⟩)⟩
  refine ⟨_,rfl,tab,rfl,.inl ⟨_,.of T1.h⟩,_,rfl,t,_,1,_,rfl,rfl,ht1,at1 _ _ _,_,.inr z,_,T1.h,rfl,uF TI.nd he,?_⟩
  have T2:=T1.pop (z:=z) (QH.leave I.nd es hm)
  have k2:zC [tab] H1 (upd H1 tab (.dK (uD (wJ (tbE E)) (.inr z)))):=zC.at (by simp)
  generalize upd H1 tab (.dK (uD (wJ (tbE E)) (.inr z)))=H2 at k2 T2 ⊢
  have ht2:=k2 _ _ (by simp [tt]) ht1
  refine ⟨_,rfl,t,_,0,_,rfl,rfl,ht2,at0 _ _,rfl,_,rfl,ifF (by decide +kernel) ?_⟩
  exact hM _ _ ⟨_,_,_,rfl,T2,(k1.mono (by simp)).trans k2⟩
 | @done z _ _ _ hm=>
  refine ⟨_,rfl,t,_,0,_,rfl,rfl,ht,at0 _ _ ,by show 2 <= sizeLine;decide,fun tp htp=>⟨tp,_,rfl,.inr (.of zB),rfl,rfl,_,rfl,ifT (by decide +kernel) ?_⟩⟩
  have k1:zC [] H (upd H tp (.tup [.str "leave",.str "done"])):=zC.new htp
  generalize upd H tp (.tup [.str "leave",.str "done"])=H1 at k1 ⊢
  have ht1:=k1 _ _ (by simp) ht
  have T1:=TI.on k1
  obtain ⟨ad,he⟩:=(TI.me z i false).mpr ⟨s,es,yB.mpr (.inl ⟨rfl,hm⟩)⟩
  refine ⟨_,rfl,tab,rfl,.inl ⟨_,.of T1.h⟩,_,rfl,t,_,1,_,rfl,rfl,ht1,at1 _ _ _,_,.inr z,_,T1.h,rfl,uF TI.nd he,?_⟩
  have T2:=T1.pop (z:=z) (QH.done I.nd es hm)
  have k2:zC [tab] H1 (upd H1 tab (.dK (uD (wJ (tbE E)) (.inr z)))):=zC.at (by simp)
  generalize upd H1 tab (.dK (uD (wJ (tbE E)) (.inr z)))=H2 at k2 T2 ⊢
  have ht2:=k2 _ _ (by simp [tt]) ht1
  refine ⟨_,rfl,t,_,0,_,rfl,rfl,ht2,at0 _ _,rfl,_,rfl,ifF (by decide +kernel) ?_⟩
  exact hM _ _ ⟨_,_,_,rfl,T2,(k1.mono (by simp)).trans k2⟩
 | @ask z _ _ _ hz gz n1 n2=>
  refine ⟨_,rfl,t,_,0,_,rfl,rfl,ht,at0 _ _ ,by show 2 <= sizeLine;decide,fun tp htp=>⟨tp,_,rfl,.inr (.of zB),rfl,rfl,_,rfl,ifF (by decide +kernel) ?_⟩⟩
  have k1:zC [] H (upd H tp (.tup [.str "leave",.str "done"])):=zC.new htp
  generalize upd H tp (.tup [.str "leave",.str "done"])=H1 at k1 ⊢
  have ht1:=k1 _ _ (by simp) ht
  refine ⟨_,rfl,t,_,0,_,rfl,rfl,ht1,at0 _ _,rfl,_,rfl,ifF (by decide +kernel) ?_⟩
  exact hM _ _ ⟨_,_,_,rfl,(TI.on k1).iff (QH.ask es),k1.mono (by simp)⟩
 | @come z _ _ b _ hz hp=>
  refine ⟨_,rfl,t,_,0,_,rfl,rfl,ht,at0 _ _ ,by show 2 <= sizeLine;decide,fun tp htp=>⟨tp,_,rfl,.inr (.of zB),rfl,rfl,_,rfl,ifF (by decide +kernel) ?_⟩⟩
  have k1:zC [] H (upd H tp (.tup [.str "leave",.str "done"])):=zC.new htp
  generalize upd H tp (.tup [.str "leave",.str "done"])=H1 at k1 ⊢
  have ht1:=k1 _ _ (by simp) ht
  refine ⟨_,rfl,t,_,0,_,rfl,rfl,ht1,at0 _ _,rfl,_,rfl,ifF (by decide +kernel) ?_⟩
  exact hM _ _ ⟨_,_,_,rfl,(TI.on k1).iff (QH.come es),k1.mono (by simp)⟩
end
abbrev pF:Stmt:=top 45
theorem sU (ars:List (Option Str)):yK (xV ars)=[]:=by
 unfold yK xV
 rw [List.flatMap_map]
 induction ars with
 | nil=>rfl
 | cons o ars ih=>rw [List.flatMap_cons,ih];rfl
theorem vX.fresh {nb:List Str} {ars:List (Option Str)} (gnb:∀ z ∈ nb,xG z) (sub:∀ z,some z ∈ ars->z ∈ nb):vX 0 (xV ars):=by
 refine ⟨fun s hs=>?_,by rw [sU];exact List.nodup_nil,by rw [sU];exact zGG _,fun s hs=>?_⟩
 ·unfold xV at hs
  obtain ⟨o,ho,rfl⟩:=List.mem_map.mp hs
  exact ⟨fun z e=>gnb z (sub z (by have e:o=some z:=e;rw [<- e];exact ho)),fun z e=>(by cases e),fun x hx=>absurd hx zG1,fun z=>zGH _⟩
 ·unfold xV at hs
  obtain ⟨o,ho,rfl⟩:=List.mem_map.mp hs
  exact zGG _
theorem cO {K:PySem.W.Frag} {Q:VK} {sl tab fl:Addr} {E:List TE'} {ss:List SS} {ys:List Str} {H:Hp} {σ:St} {xs:List Str} {ix:List Nat} {te:TE} (hσ:∃ v,stC xs ix σ=[v,some (.ref tab)]) (TI:y4 H tab E ss) (hsl:H sl=some (.lst (ys.map V.str))) (py:ys.Perm ((tbE E).map (·.1))) (ly:ys.length < 64) (hfl:H fl=none)
  (hte:∀ (e:TE') (H':Hp) (Q':VK),e ∈ E->y4 H' tab E ss->(∀ tp H2,H' tp=none->H2 tp=some (.tup [.str e.1,.int (e.2.1:Int),.bl e.2.2.1])->zC [] H' H2->Q' (.ref tp) H2)->te [some (.str e.1),some (.ref tab)] H' Q')
  (h:∀ H',zC [] H H'->Rows H' fl (ys.map fun z=>nmV (z,nI E z))->Q (.ref fl) H'):LCW (Itl K sl) xs ix (xZ 0) tI te σ H fl Q:=by
 have af:sl ≠ fl:=zH hsl hfl
 obtain ⟨v,hσ⟩:=hσ
 refine uB (K:=K) (a:=sl) (its:=ys.map V.str) (by rw [zF7,sizeLine_eq];omega) (fun i zs τ H'=>∃ (ps:List Addr) (kk:Option V),τ=[kk,some (.ref tab)]/\zs=ps.map V.ref/\ps.length=i/\Paired (fun q r=>H' q=some (.tup r)) ps ((ys.take i).map fun z=>nmV (z,nI E z))/\zC [fl] H H'/\H' fl=some (.lst zs)) ⟨[],v,hσ,rfl,rfl,.nil,zC.at (by simp),zB⟩ ?_ ?_ ?_
 ·rintro i zs τ H' ⟨ps,kk,rfl,rfl,hl,_,kp,h'⟩
  exact ⟨h',by rw [zF7];omega,.of (kp _ _ (by simp [af]) hsl)⟩
 ·rintro i zs τ H' x hx ⟨ps,kk,rfl,rfl,hl,pr,kp,h'⟩
  rw [zGD] at hx
  cases ez:ys[i]? with
  | none=>rw [ez] at hx;cases hx
  | some z=>
  rw [ez] at hx
  have ex:V.str z=x:=zGE hx
  subst ex
  have e0:(tbE E).map (·.1)=E.map (·.1):=by unfold tbE;rw [zGR];rfl
  obtain ⟨e,he,rfl⟩:=List.mem_map.mp (e0 ▸ py.mem_iff.mp (zGB ez))
  refine hte e H' _ he (TI.on (kp.drop hfl)) fun tp H2 ntp etp k2=>?_
  have h2:=k2 _ _ (by simp) h'
  have tf:tp ≠ fl:=Ne.symm (zH h' ntp)
  have kl:zC [fl] H2 (upd H2 fl (.lst (ps.map V.ref ++ [.ref tp]))):=zC.at (by simp)
  have nt:∀ b ∈ [fl],∀ xs,H2 b ≠ some (.tup xs):=fun b hb xs z=>by rw [zGA.mp hb,h2] at z;cases z
  refine ⟨h2,ps ++ [tp],_,rfl,by simp,by simp [hl],?_,(kp.trans (k2.mono (by simp))).trans kl,zB⟩
  rw [wH ez,zGJ]
  refine uK (zK kl nt (zK k2 (fun b hb=>by cases hb) pr)) (.cons ?_ .nil)
  have:=kl _ _ (by simp [tf]) etp
  show _=some (HO.tup (V.str e.1 :: nI E e.1))
  rw [nG TI.nd he]
  exact this
 ·rintro zs τ H' ⟨ps,kk,rfl,rfl,_,pr,kp,h'⟩
  rw [zF7,zG7] at pr
  exact h H' (kp.drop hfl) ⟨ps,h',pr⟩
theorem p5 {ss:List SS} {rs:List (Str × List V)} (p:rs.Perm (wC 0 ss)):∀ r ∈ rs.map nmV,r.all xL=true/\r.length <= 2000:=fun r hr=>by
 obtain ⟨q,hq,rfl⟩:=List.mem_map.mp hr
 obtain ⟨k,s,b,_,_,e⟩:=wY.mp (p.mem_iff.mp hq)
 unfold nmV
 rw [e]
 exact ⟨rfl,by show 3 <= 2000;decide⟩
theorem pB {ss:List SS} {rs:List (Str × List V)} (p:rs.Perm (wC 0 ss)):rs.length=(yK ss).length:=by
 rw [p.length_eq,<- y2 ss 0,zF7]
theorem gQ {H:Hp} {tab:Addr} {ars:List (Option Str)} (h:H tab=some (.dK [])):y4 H tab [] (xV ars):=
 ⟨h,(fun e he=>by cases he),List.nodup_nil,fun z n b=>⟨(fun ⟨a,h⟩=>by cases h),(fun q=>by have:=QH.name q;rw [sU] at this;cases this)⟩⟩
theorem QH.left {ss:List SS} (nd:(yK ss).Nodup) {i:Nat} {s:SS} {z:Str} (h:ss[i]?=some s) (c:pH s) (hz:yH z ∈ s.row) (y:Str) (m:Nat) (b:Bool):QH (ss.set i (zS (zW s (.leave z))).1) y m b ↔ QH ss y m b/\y ≠ z:=by
 have il:=(zF9.mp h).1
 rw [<- QH.leave nd h hz]
 have e:=QH.same (ss:=ss.set i (zW s (.leave z))) (i:=i) (s':=(zS (zW s (.leave z))).1) (zG4 il) (dS c hz) y m b
 rw [List.set_set] at e
 exact e
section
variable {P:Program} {w:World} {K:PySem.W.Frag} {mg:Str->Option Value} {base:Heap} {C CS:Addr}
theorem scL:zN ["_law_script","_law_name","_law_neighbours","_law_ways","_law_askers","_law_house","_law_states","_law_table","_law_cell","_law_deeds","_law_deed","_law_told_here","_law_due","_law_turn","_law_found","_law_asker"] ["_law_script"] (zG pF):=⟨rfl,rfl,rfl,by decide +kernel,rfl,by decide +kernel,by decide +kernel⟩
def jT (K:PySem.W.Frag):Sp:=fun vs H Q _=>∃ (a:Addr) (ns:List Int),vs=[.ref a]/\SqL K H a (ns.map V.int)/\ns.length <= 63/\∀ H',Q (.bl true) H'
theorem zE8 {f:Addr} {fd:FuncData} (T:x9 K C) (G:Fun K "law" "law" pF f fd) (CC:Cal P w K mg base CX0 1 "_law_cell_at" ["_law_script","_law_k"] (fX K)) (CD:Cal P w K mg base CX0 1 "_law_digits" ["_law_cell"] r9) (CN:Cal P w K mg base CX0 2 "_law_next" ["_law_source","_law_many"] oE) (CM:Cal P w K mg base CX0 4 "_law_made" ["_law_cell"] zEA) (MH:lQ P w K mg base CX0 4 C "House" ["self","name","neighbours","arrows"] (zB4 K C CS)) (CS0:Cal P w K mg base CX0 1 "_law_state" ["_law_arrow"] jO)
  (CG:Cal P w K mg base CX0 2 "_law_good_deeds" ["_law_states","_law_askers","_law_neighbours"] zEF) (CDn:Cal P w K mg base CX0 3 "_law_done" ["_law_states","_law_deed"] zEG) (CPu:Cal P w K mg base CX0 6 "_law_put" ["_law_house","_law_deed"] (zD7 C CS)) (CNo:Cal P w K mg base CX0 4 "_law_noted" ["_law_table","_law_deed","_law_told_here","_law_house","_law_many"] (zD8 C CS)) (MAs:yV P w K mg base CX0 2 C "askers" ["self"] (fT C CS)) (MHL:yV P w K mg base CX0 5 C "leave" ["self","asker"] (zB3 C CS)) (CA:Cal P w K mg base CX0 5 "_law_alike" ["_law_found","_law_due"] (zEK 5)) (b_len:Blt mg "len") (b_list:Blt mg "list") (b_sorted:Blt mg "sorted") (b_range:Blt mg "range"):uW P w K mg base CX0 7 f fd ["_law_script"] (jT K):=by
 refine G.ok scL (fun vs H Q E h=>by obtain ⟨a,ns,rfl,_⟩:=h;rfl) (fun cdv A outer s0 H vs Q E0 hr h=>?_)
 obtain ⟨a,ns,rfl,hS,hlen,fin⟩:=h
 have hr1:z7 1 _:=hr.mono (by decide)
 have hr2:z7 2 _:=hr.mono (by decide)
 have hr3:z7 3 _:=hr.mono (by decide)
 have hr4:z7 4 _:=hr.mono (by decide)
 have hr5:z7 5 _:=hr.mono (by decide)
 have hr6:z7 6 _:=hr
 have hu:=uC hr
 refine ⟨_,(zE (sM (zU CM hr4 (zA (zU CC hr1 (zA (pv 0) (zA zJ zD))) zD)) (uI rfl (yS (yE (i:=1) scL.nd rfl (Or.inl rfl)) (yS (yE (i:=2) scL.nd rfl (Or.inl rfl)) (yS (yE (i:=3) scL.nd rfl (Or.inl rfl)) (yS (yE (i:=4) scL.nd rfl (Or.inl rfl)) vF))))))
   (zE (yI (i:=5) scL.nd rfl (Or.inl rfl) (zBD MH hr5 (zA (pv 1) (zA (xX vH rfl b_list.no wT (zA (pv 2) zD)) (zA (xX vH rfl b_list.no wT (zA (pv 3) zD)) zD)))))
   (zE (vZ (i:=6) scL.nd rfl (Or.inl rfl) (N:=["_law_script","_law_name","_law_neighbours","_law_ways","_law_askers","_law_house","_law_states","_law_table","_law_cell","_law_deeds","_law_deed","_law_told_here","_law_due","_law_turn","_law_found","_law_asker"]) (sc:=zG pF) (ix:=[]) (by decide +kernel) (xE (pv 3)) (fun _ _ _ _=>xD) (fun _ _ _ _=>(zU CS0 hr1 (zA (pv 0) zD))))
   (zE (yI (i:=7) scL.nd rfl (Or.inr rfl) e9)
   (zE (vU PassesOwn.never rfl (xE (wO oH (pv 0) (wN zJ) (wN zJ))) (yE (i:=8) scL.nd rfl (Or.inl rfl)) (zE (yI (i:=9) scL.nd rfl (Or.inl rfl) (zU CG hr2 (zA (pv 6) (zA (pv 4) (zA (pv 2) zD)))))
   (zE (yI (i:=10) scL.nd rfl (Or.inl rfl) (zV yA (pv 9) (zU CN hr2 (zA (zU CD hr1 (zA (pv 8) zD)) (zA (z9 yT b_len xI (zA (pv 9) zD)) zD))) (fun _ _=>rfl)))
   (zE (yI (i:=11) scL.nd rfl (Or.inl rfl) (zU CPu hr6 (zA (pv 5) (zA (pv 10) zD))))
   (zE (yG (zU CDn hr3 (zA (pv 6) (zA (pv 10) zD))))
   (zE (yG (zU CNo hr4 (zA (pv 7) (zA (pv 10) (zA (pv 11) (zA (pv 5) (zA (z9 yT b_len xI (zA (pv 3) zD)) zD)))))))
   (zE (vZ (i:=12) scL.nd rfl (Or.inl rfl) (N:=["_law_script","_law_name","_law_neighbours","_law_ways","_law_askers","_law_house","_law_states","_law_table","_law_cell","_law_deeds","_law_deed","_law_told_here","_law_due","_law_turn","_law_found","_law_asker"]) (sc:=zG pF) (ix:=[7]) (by decide +kernel) (xE (z9 (tF rfl) b_sorted sW (zA (pv 7) zD))) (fun _ _ _ _=>xD) (fun _ _ _ _=>(z8 (zA (pv 0) (zA (zV zY (yQ hu (pv 1) (pv 0) (fun _ _=>rfl)) zJ (fun _ _=>rfl)) (zA (zV zY (yQ hu (pv 1) (pv 0) (fun _ _=>rfl)) zJ (fun _ _=>rfl)) zD))))))
   (zF (vU PassesOwn.never rfl (wI rfl b_range.no (zA zJ zD)) (yE (i:=13) scL.nd rfl (Or.inl rfl)) (zE (yI (i:=14) scL.nd rfl (Or.inl rfl) (xJ MAs T.cl hr2 (pv 5)))
   (zE (z4 (wD (xY (zU CA hr5 (zA (pv 14) (zA (pv 12) zD))))) (zF (zO wP)) zQ)
   (zF (yG (vC PySem.F.plainAttrs_list PySem.F.slot_list_append PySem.F.type_list_append xA (pv 14) (zA (z8 (zA zM (zA zJ (zA wP zD)))) zD)))))))))))))))
   (zE (vU PassesOwn.never rfl (xE (xX (lJ rfl) rfl b_list.no wT (zA (pv 7) zD))) (yE (i:=15) scL.nd rfl (Or.inl rfl)) (zF (z4 (mN (zV zY (yQ hu (pv 7) (pv 15) (fun _ _=>rfl)) zJ (fun _ _=>rfl)) (fun _=>rfl)) (zE (yG (x3 MHL T.cl hr5 (pv 5) (zA (pv 15) zD)))
   (zF (yG (mQ (pv 7) (pv 15) ⟨rfl,rfl,rfl,rfl⟩)))) zQ)))
   (zE (vZ (i:=12) scL.nd rfl (Or.inl rfl) (N:=["_law_script","_law_name","_law_neighbours","_law_ways","_law_askers","_law_house","_law_states","_law_table","_law_cell","_law_deeds","_law_deed","_law_told_here","_law_due","_law_turn","_law_found","_law_asker"]) (sc:=zG pF) (ix:=[7]) (by decide +kernel) (xE (z9 (tF rfl) b_sorted sW (zA (pv 7) zD))) (fun _ _ _ _=>xD) (fun _ _ _ _=>(z8 (zA (pv 0) (zA (zV zY (yQ hu (pv 1) (pv 0) (fun _ _=>rfl)) zJ (fun _ _=>rfl)) (zA wP zD))))))
   (zF (zO (zU CA hr5 (zA (xJ MAs T.cl hr2 (pv 5)) (zA (pv 12) zD)))))))))))),?_⟩
 refine ⟨_,rfl,a,ns,0,rfl,hS,by decide,fun v0=>⟨v0,rfl,fun t nl wl al nm nb ars H2 et en ew hnl hwl nlw gn gnb nd nin ln ne la sub has k2=>?_⟩⟩
 obtain ⟨as,hal,nas,las,gas⟩:=has
 have apos:0 < ars.length:=zGX.mpr ne
 refine ⟨t,_,rfl,.of et,rfl,_,_,rfl,_,_,rfl,_,_,rfl,_,_,rfl,rfl,?_⟩
 refine ⟨_,rfl,_,rfl,nl,_,rfl,.inl (.of en),fun h0 hh0=>?_⟩
 have k3:=zC.new (S:=[]) (o:=.lst (nb.map V.str)) hh0
 have e30:upd H2 h0 (.lst (nb.map V.str)) h0=some (.lst (nb.map V.str)):=zB
 generalize upd H2 h0 (.lst (nb.map V.str))=H3 at k3 e30 ⊢
 refine ⟨_,rfl,wl,_,rfl,.inl (.of (k3 _ _ (by simp) ew)),fun h1 hh1=>?_⟩
 have k4:=zC.new (S:=[]) (o:=.lst (ars.map yC)) hh1
 have e41:upd H3 h1 (.lst (ars.map yC)) h1=some (.lst (ars.map yC)):=zB
 have e40:=k4 _ _ (by simp) e30
 generalize upd H3 h1 (.lst (ars.map yC))=H5 at k4 e40 e41 ⊢
 have k25:zC [] H2 H5:=k3.trans k4
 refine fun p dx hp hdx npd=>?_
 have kB:zC [] H5 (upd (upd H5 dx (.own p)) p (.ins C dx [])):=(zC.new hdx).trans (zC.new (by rw [zI npd.symm];exact hp))
 have eB:upd (upd H5 dx (.own p)) p (.ins C dx []) p=some (.ins C dx []):=zB
 generalize upd (upd H5 dx (.own p)) p (.ins C dx [])=HB at kB eB ⊢
 refine ⟨p,dx,h0,h1,nm,nb,ars,rfl,eB,kB _ _ (by simp) e40,kB _ _ (by simp) e41,gn,gnb,nd,nin,by omega,ne,by omega,sub,fun xs H6 hh k6=>⟨rfl,?_⟩⟩
 have k2B:=k25.trans kB
 have k26:zC [] H2 H6:=k2B.under k6 (by intro b hb;rw [zGA.mp hb];exact k25.none (by simp) hp)
 have ew6:=k26 _ _ (by simp) ew
 obtain ⟨P1,hh1,hP1⟩:=hh.parts
 refine ⟨_,rfl,wl,rfl,⟨_,.of ew6⟩,fun st hst=>?_⟩
 have wst:wl ≠ st:=zH ew6 hst
 refine uB (K:=K) (a:=wl) (its:=ars.map yC) (by rw [zF7,sizeLine_eq];omega) (fun i zs τ H'=>∃ (us:List (Addr × Addr)) (kk:Option V),τ=[kk]/\zs=us.map (fun u=>V.ref u.1)/\us.length=i/\(∀ (j:Nat) (u:Addr × Addr),us[j]?=some u->DAt H' u.1 u.2 ⟨ars.getD j none,[],none,false⟩)/\(∀ u ∈ us,H6 u.1=none/\H6 u.2=none/\u.1 ≠ st/\u.2 ≠ st)/\(us.Pairwise fun a b=>a.1 ≠ b.1/\a.2 ≠ b.2)/\zC [st] H6 H'/\H' st=some (.lst zs)) ⟨[],_,rfl,rfl,rfl,(fun j u e=>by simp at e),(fun u hu=>by cases hu),.nil,zC.at (by simp),zB⟩ ?_ ?_ ?_
 ·rintro i zs τ H' ⟨us,kk,rfl,rfl,hl,_,_,_,kp,h⟩
  exact ⟨h,by rw [zF7];omega,.of (kp _ _ (by simp [wst]) ew6)⟩
 ·rintro i zs τ H' x hx ⟨us,kk,rfl,rfl,hl,hD,hfr,hpw,kp,h⟩
  rw [zGD] at hx
  cases ei:ars[i]? with
  | none=>rw [ei] at hx;cases hx
  | some ar=>
  rw [ei] at hx
  have ex:yC ar=x:=zGE hx
  subst ex
  have eg:ars.getD i none=ar:=by rw [zGC,ei];rfl
  refine ⟨_,rfl,ar,rfl,fun u v H'' hu hv D k=>?_⟩
  have h':=k _ _ (by simp) h
  have us':u ≠ st:=Ne.symm (zH h hu)
  have vs':v ≠ st:=Ne.symm (zH h hv)
  have nt:∀ b ∈ [st],∀ xs,H'' b ≠ some (.tup xs):=fun b hb xs z=>by rw [zGA.mp hb,h'] at z;cases z
  have kl:zC [st] H'' (upd H'' st (.lst (us.map (fun u=>V.ref u.1) ++ [.ref u]))):=zC.at (by simp)
  refine ⟨h',us ++ [(u,v)],_,rfl,by simp,by simp [hl],fun j z hj=>?_,fun z hz=>?_,?_,(kp.trans (k.mono (by simp))).trans kl,zB⟩
  ·by_cases jl:j < us.length
   ·rw [zGV jl] at hj
    obtain ⟨_,_,f1,f2⟩:=hfr z (zGB hj)
    exact ((hD j z hj).keep k).keepS kl (by simpa using f1) (by simpa using f2) nt
   ·rw [zGU (by omega)] at hj
    have ej:j=i:=by
     have:=(zF9.mp hj).1
     simp at this;omega
    subst ej
    rw [hl,Nat.sub_self] at hj
    cases hj
    rw [eg]
    exact D.keepS kl (by simpa using us') (by simpa using vs') nt
  ·rcases zGO.mp hz with hz | hz
   ·exact hfr z hz
   ·rw [zGA.mp hz]
    exact ⟨kp.none (by simpa using us') hu,kp.none (by simpa using vs') hv,us',vs'⟩
  ·refine List.pairwise_append.mpr ⟨hpw,List.pairwise_singleton _ _,fun z hz z' hz'=>?_⟩
   rw [zGA.mp hz']
   obtain ⟨j,hj,ej⟩:=List.getElem_of_mem hz
   have dj:=hD j z (by rw [zF8 hj,ej])
   obtain ⟨_,wj,_⟩:=dj.rw
   exact ⟨zH dj.d hu,zH wj hv⟩
 rintro zs τ H7 ⟨ys,kk,rfl,rfl,hl,hD,hfr,hpw,k67s,h7⟩
 rw [zF7] at hl
 have k67:zC [] H6 H7:=k67s.drop hst
 obtain ⟨P2,eP2⟩:∃ P2:List Addr,P2=st :: (ys.map (·.1) ++ ys.map (·.2)):=⟨_,rfl⟩
 have sA:wV (· ∈ P2) H7 st ys (xV ars):=by
  subst eP2
  refine ⟨h7,⟨by simp,fun y hy=>⟨?_,?_⟩⟩,⟨fun y hy=>(hfr y hy).2.2.2,hpw⟩,by unfold xV;rw [zF7];exact hl,fun i y s e1 e2=>?_⟩
  ·simp only [List.mem_cons,zGO,List.mem_map];exact .inr (.inl ⟨y,hy,rfl⟩)
  ·simp only [List.mem_cons,zGO,List.mem_map];exact .inr (.inr ⟨y,hy,rfl⟩)
  ·unfold xV at e2
   rw [zGD] at e2
   cases ei:ars[i]? with
   | none=>rw [ei] at e2;cases e2
   | some ar=>
   rw [ei] at e2
   have es:(⟨ar,[],none,false⟩:SS)=s:=zGE e2
   subst es
   have:=hD i y e1
   rw [zGC,ei] at this
   exact this
 have hP2:∀ u ∈ P2,H6 u=none/\H7 u ≠ none:=by
  intro u hu
  rw [eP2] at hu
  simp only [List.mem_cons,zGO,List.mem_map] at hu
  have each:∀ y ∈ ys,H7 y.1 ≠ none/\H7 y.2 ≠ none:=fun y hy=>by
   obtain ⟨j,hj,ej⟩:=List.getElem_of_mem hy
   have dj:=hD j y (by rw [zF8 hj,ej])
   obtain ⟨_,wj,_⟩:=dj.rw
   exact ⟨(by rw [dj.d];nofun),(by rw [wj];nofun)⟩
  rcases hu with rfl | ⟨y,hy,rfl⟩ | ⟨y,hy,rfl⟩
  ·exact ⟨hst,(by rw [h7];nofun)⟩
  ·exact ⟨(hfr y hy).1,(each y hy).1⟩
  ·exact ⟨(hfr y hy).2.1,(each y hy).2⟩
 have sm:∀ {H H':Hp} {u:Addr},zC [] H H'->H u ≠ none->H' u ≠ none:=fun {H H' u} k h e=>h (k.none (by simp) e)
 have I0:vX 0 (xV ars):=vX.fresh gnb sub
 have k27:=k26.trans k67
 have far:∀ {u:Addr} {o:HO},H2 u=some o->u ∉ P1 ++ P2:=fun {u o} hu hm=>by
  rcases zGO.mp hm with h | h
  ·have:=(hP1 u h).1
   rw [k2B _ _ (by simp) hu] at this;cases this
  ·have:=(hP2 u h).1
   rw [k26 _ _ (by simp) hu] at this;cases this
 refine fun tab htab=>?_
 have kT:zC [] H7 (upd H7 tab (.dK [])):=zC.new htab
 have eT:upd H7 tab (.dK []) tab=some (.dK []):=zB
 generalize upd H7 tab (.dK [])=H8 at kT eT ⊢
 refine ⟨_,rfl,_,rfl,_,rfl,a,_,rfl,zC.seq (k2.trans (k27.trans kT)) hS,fun p0 hp0=>?_⟩
 obtain ⟨ms,em,lm⟩:=cX ns (some 1) (some 61)
 have lm60:ms.length <= 60:=by have e60:=congrArg List.length em;rw [zF7] at e60;rw [<- e60,show vW (ns.map V.int) (some 1) (some 61)=((ns.map V.int).drop 1).take 60 from iP _ 60,zGQ];omega
 rw [em]
 have k89:zC [] H8 (upd H8 p0 (.lst (ms.map V.int))):=zC.new hp0
 have e90:upd H8 p0 (.lst (ms.map V.int)) p0=some (.lst (ms.map V.int)):=zB
 have pt:p0 ≠ tab:=Ne.symm (zH eT hp0)
 have far0:p0 ∉ P1 ++ P2:=fun hm=>by
  rcases zGO.mp hm with h | h
  ·exact sm k67 (hP1 _ h).2.1 (kT.none (by simp) hp0)
  ·exact (hP2 _ h).2 (kT.none (by simp) hp0)
 generalize upd H8 p0 (.lst (ms.map V.int))=H9 at k89 e90 ⊢
 obtain ⟨Z,Zt,Ze⟩:∃ Z:Hp,Z tab=none/\∀ u,u ≠ tab->Z u=H9 u:=⟨fun u=>if u=tab then none else H9 u,if_pos rfl,fun u h=>if_neg h⟩
 have kZ:zC [] Z H9:=fun u o _ h=>by
  by_cases e:u=tab
  ·rw [e,Zt] at h;cases h
  ·rw [<- Ze u e];exact h
 have k78:zC [] H7 Z:=fun u o n h=>by
  rw [Ze u (zH h htab)]
  exact (kT.trans k89) u o n h
 have e80:Z p0=some (.lst (ms.map V.int)):=by rw [Ze _ pt];exact e90
 have B:WB Z P1 P2 p:=by
  refine ⟨fun u hu=>?_,fun u h1 h2=>(hP1 u h1).2.1 (hP2 u h2).1,?_⟩
  ·rcases zGO.mp hu with h | h
   ·exact sm (k67.trans k78) (hP1 u h).2.1
   ·exact sm k78 (hP2 u h).2
  ·obtain ⟨_,_,_,e⟩:=hh1.ob
   exact sm (k67.trans k78) (by rw [e];nofun)
 have w00:WK Z P1 P2 C CS p st nm nb xs ys Z (xV ars) (xV ars):=⟨hh1.on (k67.trans k78),sA.on k78,zC.refl _,fun u h=>h⟩
 have w0:=w00.on kZ
 have k2Z:=k27.trans k78
 have enZ:=k2Z _ _ (by simp) en
 have ewZ:=k2Z _ _ (by simp) ew
 have alZ:=k2Z _ _ (by simp) hal
 have T0:y4 H9 tab [] (xV ars):=gQ (k89 _ _ (by simp) eT)
 have c0:∀ s ∈ xV ars,pH s:=fun s hs=>by
  unfold xV at hs
  obtain ⟨o,_,rfl⟩:=List.mem_map.mp hs
  exact ⟨fun _=>rfl,fun _ _=>rfl⟩
 refine ⟨p0,rfl,⟨_,.of e90⟩,vL (K:=K) (a:=p0) (xs:=ms.map V.int) (fun i σ H'=>∃ (ss:List SS) (E:List TE') (v8 v9 v10 v11 v12 v13 v14 v15:Option V),σ=[some (.ref a),some (.str nm),some (.ref nl),some (.ref wl),some (.ref al),some (.ref p),some (.ref st),some (.ref tab),v8,v9,v10,v11,v12,v13,v14,v15]/\WK Z P1 P2 C CS p st nm nb xs ys H' ss ss/\vX i ss/\ss.length=ars.length/\(∀ s ∈ ss,pH s)/\y4 H' tab E ss) ⟨_,_,_,_,_,_,_,_,_,_,rfl,w0,I0,by unfold xV;rw [zF7],c0,T0⟩ ?_ ?_ ?_⟩
 ·rintro i σ H' _ ⟨ss,E,v8,v9,v10,v11,v12,v13,v14,v15,rfl,w,_⟩
  exact .of (w.kp _ _ far0 e80)
 ·rintro i c σ H1 hc ⟨ss,E,v8,v9,v10,v11,v12,v13,v14,v15,rfl,w,I,ls,cm,TI⟩
  have il:i < ms.length:=by have:=(zF9.mp hc).1;simpa using this
  obtain ⟨cell,rfl⟩:∃ z,c=V.int z:=by
   rw [zGD] at hc
   cases e:ms[i]? with
   | none=>rw [e] at hc;cases hc
   | some z=>rw [e] at hc;exact ⟨z,(zGE hc).symm⟩
  have nss:ss ≠ []:=fun e=>by rw [e] at ls;exact ne (List.length_eq_zero_iff.mp ls.symm)
  refine ⟨_,rfl,_,rfl,_,rfl,(· ∈ P2),st,al,nl,ys,ss,i,as,nb,rfl,w.sa,I,nss,by omega,w.kp _ _ (far hal) alZ,w.kp _ _ (far en) enZ,gas,gnb,las,by omega,fun dl ds H2 R2 gd ld nd' hdl k12=>?_⟩
  have w2:=w.on k12
  obtain ⟨ps,e2,r2⟩:=id R2
  have lps:=zP r2
  rw [zF7] at lps
  have dpos:0 < ds.length:=zGX.mpr (nd' nas)
  refine ⟨_,rfl,_,rfl,_,rfl,fun src b1 c1 e1 hsrc=>⟨_,rfl,_,_,rfl,.inl ⟨_,.of ((zC.new (S:=[]) hsrc) _ _ (by simp) e2),rfl⟩,src,b1,c1,e1,_,rfl,zB,by rw [zF7];omega,by rw [zF7];omega,fun u a' c' u0 u1=>?_⟩⟩
  rw [vP]
  have k23:zC [] H2 (upd H2 src (.lst [.int a',.int c1,.int c'])):=zC.new hsrc
  generalize upd H2 src (.lst [.int a',.int c1,.int c'])=H3 at k23 ⊢
  obtain ⟨uu,hu1',hu2'⟩:=sX (xs:=ps.map V.ref) u0 (by rw [zF7] at u1 ⊢;exact u1)
  rw [zGD] at hu2'
  cases et:ps[u.toNat]? with
  | none=>rw [et] at hu2';cases hu2'
  | some tt=>
  rw [et] at hu2'
  have eu:V.ref tt=uu:=zGE hu2'
  subst eu
  obtain ⟨rr,er,ht⟩:=x4 r2 _ tt et
  rw [zGD] at er
  cases ed:ds[u.toNat]? with
  | none=>rw [ed] at er;cases er
  | some dd=>
  rw [ed] at er
  have er':hdV dd=rr:=zGE er
  subst er'
  obtain ⟨j,s,e,at'⟩:=gd dd (zGB ed)
  refine ⟨dl,_,u,.ref tt,rfl,rfl,k23 _ _ (by simp) e2,hu1',?_⟩
  have w3:=w2.on k23
  have T3:=TI.on (k12.trans k23)
  have ht3:=k23 _ _ (by simp) ht
  refine ⟨_,rfl,_,rfl,(· ∈ P1),p,tt,nm,nb,xs,ss,i,dd,j,s,e,rfl,w3.ho,I,by omega,by omega,ht3,at',fun r x H4 ex hh4 R4 n4 k34=>?_⟩
  have w4:=w3.hou B ex hh4 k34
  have T4:=T3.keep k34 (w3.farX B ex Zt) (w3.noX ex)
  have Zr:Z r=none:=w3.dm r n4
  have ht4:H4 tt=some (.tup (hdV dd)):=k34 _ _ (fun hm=>w3.noX ex tt hm _ ht3) ht3
  refine ⟨_,rfl,_,rfl,(· ∈ P2),st,tt,ys,ss,i,nb,dd,j,s,e,rfl,w4.sa,I,by omega,by omega,ht4,at',fun r2' y H5 ey S5 R5' n5 k45=>?_⟩
  have w5:=w4.sts B ey S5 k45
  have T5:=T4.keep k45 (w4.farY B ey Zt) (w4.noY ey)
  have ht5:H5 tt=some (.tup (hdV dd)):=k45 _ _ (fun hm=>w4.noY ey tt hm _ ht4) ht4
  have R5:=qB R4 k45 (w4.farY B ey Zr) (w4.noY ey)
  refine ⟨_,rfl,_,rfl,_,rfl,_,rfl,_,rfl,_,_,rfl,.inl ⟨_,.of (w5.kp _ _ (far ew) ewZ),rfl⟩,(· ∈ P1),tab,tt,r,p,nm,nb,xs,ss,i,dd,j,s,e,E,(by rw [zF7,ls];rfl),w5.ho,I,by omega,by omega,ht5,at',R5,T5,fun E1 H6 T6 k56=>?_⟩
  have w6:=w5.new B k56 Zt (fun xs z=>by rw [T5.h] at z;cases z)
  have I':=I.deed at'
  have cm':=lH cm at'.here e
  generalize ess:ss.set j (zS (zW s e)).1=ss' at w4 w5 w6 I' T6 cm'
  have ls':ss'.length=ars.length:=by rw [<- ess,zG8];exact ls
  have l64:(yK ss').length < 64:=by have:=I'.ln;omega
  have lE:(tbE E1).length < 64:=by
   have:=(T6.names I'.nd).length_eq
   rw [zF7] at this
   unfold tbE
   rw [zF7]
   omega
  refine ⟨_,rfl,tab,tbE E1,rfl,T6.h,lE,fun sl zs hsl pz az=>?_⟩
  have k67:zC [] H6 (upd H6 sl (.lst (zs.map V.str))):=zC.new hsl
  have e7:upd H6 sl (.lst (zs.map V.str)) sl=some (.lst (zs.map V.str)):=zB
  generalize upd H6 sl (.lst (zs.map V.str))=H7' at k67 e7 ⊢
  have w7:=w6.on k67
  have T7:=T6.on k67
  refine ⟨sl,rfl,⟨_,.of e7⟩,fun du hdu=>cO ⟨_,rfl⟩ T7 e7 pz (by rw [pz.length_eq,zF7];exact lE) hdu ?_ fun H8' k78' R8=>?_⟩
  ·intro e1' Hc Q' he Tc hq
   have g:=uE.k (k:=.inr e1'.1) Tc.h
   rw [uF Tc.nd he] at g
   have tu:=Tc.tu e1' he
   refine ⟨_,rfl,_,rfl,_,rfl,tab,_,rfl,g,_,_,0,_,rfl,rfl,tu,at0 _ _,_,rfl,_,rfl,tab,_,rfl,g,_,_,1,_,rfl,rfl,tu,at1 _ _ _,by show 3 <= sizeLine;decide,fun tp htp=>hq tp _ htp zB (zC.new htp)⟩
  have w8:=w7.on k78'
  have T8:=T7.on k78'
  refine iF ?_
  refine ⟨_,rfl,by decide,by decide,u9 (fun j' σ H'=>∃ (v13 v14:Option V),σ=[some (.ref a),some (.str nm),some (.ref nl),some (.ref wl),some (.ref al),some (.ref p),some (.ref st),some (.ref tab),some (.int cell),some (.ref dl),some (.ref tt),some (.ref r),some (.ref du),v13,v14,v15]/\WK Z P1 P2 C CS p st nm nb xs ys H' ss' ss'/\y4 H' tab E1 ss'/\Rows H' du (zs.map fun z=>nmV (z,nI E1 z))/\H' du ≠ none) ⟨_,_,rfl,w8,T8,R8,by obtain ⟨_,e,_⟩:=R8;rw [e];nofun⟩ ?_ ?_⟩
  ·rintro j' σ Ha _ ⟨v13,v14,rfl,wa,Ta,Ra,da⟩
   obtain ⟨dx,nl',sl',_,hp,_⟩:=id wa.ho
   refine ⟨_,rfl,p,dx,_,rfl,hp,cC _ _ _,(· ∈ P1),p,nm,nb,xs,ss',rfl,wa.ho,I'.nd,l64,fun fo rs Hb pr ar Rf nf kab=>?_⟩
   have wb:=wa.on kab
   have Tb:=Ta.on kab
   have Rb:=Ra.keep kab
   have ed':=Ta.due I'.nd pz az pr ar
   refine ⟨_,rfl,_,rfl,.ref fo,.ref du,rfl,(lP Rf (ed' ▸ Rb) (p5 pr) (by rw [zF7,pB pr];omega)).succ.succ,fun Hc kbc=>⟨_,rfl,ifF rfl ?_⟩⟩
   have wc:=wb.on kbc
   have Tc:=Tb.on kbc
   obtain ⟨qs,ef,rf⟩:=Rf.keep kbc
   have lq:=zP rf
   rw [zF7,pB pr] at lq
   refine ⟨_,rfl,.inl ⟨rfl,_,.of ef⟩,by show 3 <= sizeLine;decide,fun tg htg=>⟨fo,_,_,rfl,rfl,(zC.new (S:=[]) htg) _ _ (by simp) ef,by rw [zF7,sizeLine_eq];omega,?_⟩⟩
   have kcd:zC [fo] Hc (upd (upd Hc tg (.tup [.str "a",.int 0,.bl true])) fo (.lst (qs.map V.ref ++ [.ref tg]))):=(zC.new htg).trans (zC.at (by simp))
   have ntf:∀ c ∈ [fo],∀ xs,Hc c ≠ some (.tup xs):=fun c hc xs z=>by rw [zGA.mp hc,ef] at z;cases z
   have wd:=wc.new B kcd (wa.dm _ nf) (fun xs=>ntf fo (by simp) xs)
   have tf:tab ≠ fo:=zH Ta.h nf
   have df:du ≠ fo:=fun q=>da (q ▸ nf)
   have Rd':=qB (Rb.keep kbc) kcd (by simpa using df) ntf
   exact ⟨_,_,rfl,wd,Tc.keep kcd (by simpa using tf) ntf,Rd',by obtain ⟨_,e,_⟩:=Rd';rw [e];nofun⟩
  ·rintro σ Ha ⟨v13,v14,rfl,wa,Ta,_⟩
   exact ⟨ss',E1,_,_,_,_,_,_,_,_,rfl,wa,I',ls',cm',Ta⟩
 ·rintro σ H1 ⟨ss,E,v8,v9,v10,v11,v12,v13,v14,v15,rfl,w,I,ls,cm,TI⟩
  rw [zF7] at I
  refine ⟨_,rfl,tab,tbE E,rfl,TI.h,fun nl' hnl'=>?_⟩
  have k12:zC [] H1 (upd H1 nl' (.lst (((tbE E).map (·.1)).map V.str))):=zC.new hnl'
  have e2:upd H1 nl' (.lst (((tbE E).map (·.1)).map V.str)) nl'=some (.lst (((tbE E).map (·.1)).map V.str)):=zB
  generalize upd H1 nl' (.lst (((tbE E).map (·.1)).map V.str))=H2 at k12 e2 ⊢
  have e0:(tbE E).map (·.1)=E.map (·.1):=by unfold tbE;rw [zGR];rfl
  rw [e0] at e2
  have w2:=w.on k12
  have T2:=TI.on k12
  have Zn:Z nl'=none:=w.dm _ hnl'
  have nT:nl' ≠ tab:=Ne.symm (zH TI.h hnl')
  have ndN:=TI.nd
  generalize eN:E.map (·.1)=N at e2 ndN
  refine ⟨nl',rfl,⟨_,.of e2⟩,vL (K:=K) (a:=nl') (xs:=N.map V.str) (fun j σ H'=>∃ (ss':List SS) (E':List TE') (v15:Option V),σ=[some (.ref a),some (.str nm),some (.ref nl),some (.ref wl),some (.ref al),some (.ref p),some (.ref st),some (.ref tab),v8,v9,v10,v11,v12,v13,v14,v15]/\WK Z P1 P2 C CS p st nm nb xs ys H' ss' ss/\vX ms.length ss'/\ss'.length=ars.length/\(∀ s ∈ ss',pH s)/\y4 H' tab E' ss'/\H' nl'=some (.lst (N.map V.str))/\(∀ z ∈ N.drop j,∃ e ∈ E',e.1=z)/\(∀ e ∈ E',e.2.2.1=true->e.1 ∈ N.drop j)) ⟨ss,E,_,rfl,w2,I,ls,cm,T2,e2,fun z hz=>by rw [List.drop_zero,<- eN] at hz;exact List.mem_map.mp hz,fun e he _=>by rw [List.drop_zero,<- eN];exact List.mem_map.mpr ⟨e,he,rfl⟩⟩ ?_ ?_ ?_⟩
  ·rintro j σ H' _ ⟨ss',E',v15,rfl,_,_,_,_,_,h,_,_⟩
   exact .of h
  ·rintro j x σ H3 hx ⟨ss',E',v15,rfl,w3,I3,ls3,cm3,T3,h3,hin,hask⟩
   rw [zGD] at hx
   cases ez:N[j]? with
   | none=>rw [ez] at hx;cases hx
   | some z=>
   rw [ez] at hx
   have ex:V.str z=x:=zGE hx
   subst ex
   have jl:=(zF9.mp ez).1
   have dz:N.drop j=z :: N.drop (j + 1):=by
    rw [List.drop_eq_getElem_cons jl,(zF9.mp ez).2]
   have nz:z ∉ N.drop (j + 1):=by
    have:=ndN.sublist (List.drop_sublist j N)
    rw [dz] at this
    exact (List.nodup_cons.mp this).1
   obtain ⟨e,he,rfl⟩:=hin z (by rw [dz];exact zG0)
   have g:=uE.k (k:=.inr e.1) T3.h
   rw [uF T3.nd he] at g
   refine ⟨_,rfl,_,rfl,tab,_,rfl,g,_,_,1,_,rfl,rfl,T3.tu e he,at1 _ _ _,_,rfl,?_⟩
   cases eb:e.2.2.1 with
   | false=>
    refine ifF rfl ?_
    refine ⟨ss',E',_,rfl,w3,I3,ls3,cm3,T3,h3,fun y hy=>hin y (by rw [dz];exact zGK _ hy),fun e' he' h=>?_⟩
    have:=hask e' he' h
    rw [dz] at this
    rcases List.mem_cons.mp this with q | q
    ·rw [sQ (·.1) T3.nd he' he q,eb] at h;cases h
    ·exact q
   | true=>
    refine ifT rfl ?_
    obtain ⟨s,es,hs⟩:=(T3.me e.1 e.2.1 true).mp ⟨e.2.2.2,by rw [<- eb];exact he⟩
    have hz:yH e.1 ∈ s.row:=by
     rcases yB.mp hs with ⟨q,_⟩ | ⟨_,q⟩
     ·cases q
     ·exact q
    obtain ⟨dx,nlx,slx,_,hp,_⟩:=id w3.ho
    refine ⟨_,rfl,p,dx,_,rfl,hp,zBL _ _ _,_,rfl,(· ∈ P1),p,nm,nb,xs,ss',ms.length,e.1,e.2.1,s,rfl,w3.ho,I3,by omega,by omega,.leave es hz,fun r xx H4 ex hh4 _ _ k34=>?_⟩
    have w4:=w3.hou B ex hh4 k34
    have T4:=T3.keep k34 (w3.farX B ex Zt) (w3.noX ex)
    have h4:=k34 _ _ (w3.farX B ex Zn) h3
    refine ⟨_,rfl,tab,rfl,.inl ⟨_,.of T4.h⟩,_,rfl,_,.inr e.1,_,T4.h,rfl,uF T4.nd he,?_⟩
    have T5:=T4.pop (z:=e.1) (QH.left I3.nd es (cm3 s (zGB es)) hz)
    have k45:zC [tab] H4 (upd H4 tab (.dK (uD (wJ (tbE E')) (.inr e.1)))):=zC.at (by simp)
    have w5:=w4.new B k45 Zt (fun xs z=>by rw [T4.h] at z;cases z)
    refine ⟨_,_,_,rfl,w5,I3.leave es hz,by rw [zG8];exact ls3,lH cm3 es _,T5,k45 _ _ (by simp [nT]) h4,fun y hy=>?_,fun e' he' h=>?_⟩
    ·obtain ⟨e',he',q⟩:=hin y (by rw [dz];exact zGK _ hy)
     exact ⟨e',t6.mpr ⟨he',fun q'=>nz (by rw [<- q',q];exact hy)⟩,q⟩
    ·obtain ⟨h1,h2⟩:=t6.mp he'
     have:=hask e' h1 h
     rw [dz] at this
     rcases List.mem_cons.mp this with q | q
     ·exact absurd q h2
     ·exact q
  ·rintro σ H3 ⟨ss',E',v15,rfl,w3,I3,ls3,cm3,T3,_,_,hask⟩
   have allF:∀ e ∈ E',e.2.2.1=false:=fun e he=>by
    cases q:e.2.2.1 with
    | false=>rfl
    | true=>
     have:=hask e he q
     rw [zF7,List.drop_length] at this
     cases this
   have l64:(yK ss').length < 64:=by have:=I3.ln;omega
   have lE:(tbE E').length < 64:=by
    have:=(T3.names I3.nd).length_eq
    rw [zF7] at this
    unfold tbE
    rw [zF7]
    omega
   refine ⟨_,rfl,tab,tbE E',rfl,T3.h,lE,fun sl zs hsl pz az=>?_⟩
   have k67:zC [] H3 (upd H3 sl (.lst (zs.map V.str))):=zC.new hsl
   have e7:upd H3 sl (.lst (zs.map V.str)) sl=some (.lst (zs.map V.str)):=zB
   generalize upd H3 sl (.lst (zs.map V.str))=H7' at k67 e7 ⊢
   have w7:=w3.on k67
   have T7:=T3.on k67
   refine ⟨sl,rfl,⟨_,.of e7⟩,fun du hdu=>cO ⟨_,rfl⟩ T7 e7 pz (by rw [pz.length_eq,zF7];exact lE) hdu ?_ fun H8' k78' R8=>?_⟩
   ·intro e1' Hc Q' he Tc hq
    have g:=uE.k (k:=.inr e1'.1) Tc.h
    rw [uF Tc.nd he] at g
    have tu:=Tc.tu e1' he
    rw [allF e1' he] at hq
    refine ⟨_,rfl,_,rfl,_,rfl,tab,_,rfl,g,_,_,0,_,rfl,rfl,tu,at0 _ _,by show 3 <= sizeLine;decide,fun tp htp=>hq tp _ htp zB (zC.new htp)⟩
   have w8:=w7.on k78'
   have T8:=T7.on k78'
   obtain ⟨dx,nlx,slx,_,hp,_⟩:=id w8.ho
   refine iF ?_
   refine ⟨_,rfl,p,dx,_,rfl,hp,cC _ _ _,(· ∈ P1),p,nm,nb,xs,ss',rfl,w8.ho,I3.nd,l64,fun fo rs Hb pr ar Rf nf kab=>?_⟩
   have Rb:=R8.keep kab
   have ed':=T8.due I3.nd pz az pr ar
   exact ⟨_,rfl,.ref fo,.ref du,rfl,(lP Rf (ed' ▸ Rb) (p5 pr) (by rw [zF7,pB pr];omega)).succ.succ,fun Hc kbc=>fin _⟩
end
end K24
section
open PySem PySem.W PyProof.Rows
set_option maxHeartbeats 0
noncomputable section
namespace HD
open PySem PySem.W L2
variable (P:Params)
def tp (i:Nat):Stmt:=PySem.Challenge.pw_treeright_k24_askers_by_name.main.body.getD i (.Pass ⟨0,0,0,0⟩)
def ic (i j:Nat):Stmt:=yN (tp i) j
abbrev N:=@BT.node
abbrev L:=BT.nil
def en (P:Params) (k:Str) (t:Nat) (v:Value):DictEntry:=⟨PyData.keyHash P k,.str k t,v⟩
noncomputable def h0 (a0:Str) (a1:Nat) (a2:Str) (a3:Nat):Obj:=⟨(.type "tuple"),none,(Data.seq #[(.str a0 a1),(.str a2 a3)] 0),#[]⟩
noncomputable def o0:Obj:=h0 "self" 452 "asker" 453
noncomputable def o7:Obj:=h0 "self" 365 "arrow" 366
noncomputable def o17:Obj:=h0 "self" 623 "right" 624
noncomputable def o30:Obj:=h0 "self" 615 "right" 616
noncomputable def o146:Obj:=h0 "_law_house" 842 "_law_deed" 843
noncomputable def o157:Obj:=h0 "self" 639 "right" 640
noncomputable def o162:Obj:=h0 "self" 428 "arrow" 429
noncomputable def o172:Obj:=h0 "self" 444 "asker" 445
noncomputable def o183:Obj:=h0 "self" 631 "right" 632
noncomputable def o199:Obj:=h0 "right" 522 "many" 523
noncomputable def o243:Obj:=h0 "thing" 508 "name" 509
noncomputable def o247:Obj:=h0 "self" 460 "house" 461
noncomputable def o249:Obj:=h0 "self" 607 "right" 608
noncomputable def o294:Obj:=h0 "_law_script" 713 "_law_k" 714
noncomputable def o317:Obj:=h0 "self" 436 "asker" 437
noncomputable def o353:Obj:=h0 "thing" 316 "houses" 317
noncomputable def h1 (a0:Str) (a1:Nat) (a2:Nat) (a3:Nat) (a4:Int) (a5:Nat) (a6:Nat) (a7:Int) (a8:Nat):Obj:=⟨(.type "code"),none,(Data.fields #[(.str a0 a1),(.str a0 a2),(.str "/claim/cut.py" a3),(.int a4 0),(.int 0 0),(.int 0 0),(.int 0 0),(.int 0 0),(.ref a5),(.bool false),(.int 181 0),(.ref a6),.none,.none,.none,.none,(.int a7 0),(.int a4 0),(.str "/claim/cut.py" a8)]),#[]⟩
noncomputable def o1:Obj:=h1 "Seat" 352 353 354 39 143 144 355 356
noncomputable def o133:Obj:=h1 "NoSeat" 232 233 234 9 50 51 235 236
noncomputable def o169:Obj:=h1 "NoHouse" 216 217 218 7 38 39 219 220
noncomputable def o185:Obj:=h1 "TreeError" 198 199 200 5 25 26 201 202
noncomputable def o207:Obj:=h1 "<module>" 182 183 184 1 11 12 185 186
noncomputable def o211:Obj:=h1 "House" 535 536 537 150 298 299 538 539
noncomputable def o214:Obj:=h1 "NoAsker" 248 249 250 11 62 63 251 252
noncomputable def o269:Obj:=h1 "NoRight" 280 281 282 15 86 87 283 284
noncomputable def o315:Obj:=h1 "NoLetter" 264 265 266 13 74 75 267 268
noncomputable def h2 (a0:Str) (a1:Str) (a2:Stmt) (a3:Str) (a4:Nat) (a5:Nat):Obj:=⟨(.type "function"),none,(Data.func ⟨a0,a1,(x0 a2),(FuncBody.stmts (xM a2)),(zG a2),3,[],.none,.none,.none,(.str a3 a4),none,(.ref a5),.none,0⟩),#[]⟩
noncomputable def o2:Obj:=h2 "row" "Seat.row" (ic 19 2) "treeright.seats" 334 166
noncomputable def o3:Obj:=h2 "want" "Seat.want" (ic 19 10) "treeright.seats" 334 220
noncomputable def o6:Obj:=h2 "_law_state" "_law_state" (tp 35) "law_treeright_k24_askers_by_name" 708 489
noncomputable def o29:Obj:=h2 "done" "Seat.done" (ic 19 12) "treeright.seats" 334 234
noncomputable def o31:Obj:=h2 "_law_mixed" "_law_mixed" (tp 28) "law_treeright_k24_askers_by_name" 708 446
noncomputable def o32:Obj:=h2 "settle" "House.settle" (ic 25 14) "treeright.houses" 503 401
noncomputable def o33:Obj:=h2 "_law_names" "_law_names" (tp 31) "law_treeright_k24_askers_by_name" 708 465
noncomputable def o37:Obj:=h2 "_law_moved" "_law_moved" (tp 36) "law_treeright_k24_askers_by_name" 708 496
noncomputable def o42:Obj:=h2 "__init__" "Seat.__init__" (ic 19 0) "treeright.seats" 334 152
noncomputable def o45:Obj:=h2 "done" "House.done" (ic 25 3) "treeright.houses" 503 326
noncomputable def o47:Obj:=h2 "askers" "Seat.askers" (ic 19 5) "treeright.seats" 334 185
noncomputable def o50:Obj:=h2 "settle" "Seat.settle" (ic 19 9) "treeright.seats" 334 213
noncomputable def o51:Obj:=h2 "check_asker" "check_asker" (tp 17) "treeright.seats" 334 131
noncomputable def o61:Obj:=h2 "want" "House.want" (ic 25 1) "treeright.houses" 503 312
noncomputable def o63:Obj:=h2 "_law_next" "_law_next" (tp 30) "law_treeright_k24_askers_by_name" 708 460
noncomputable def o70:Obj:=h2 "move_on" "House.move_on" (ic 25 11) "treeright.houses" 503 380
noncomputable def o77:Obj:=h2 "arrow" "Seat.arrow" (ic 19 1) "treeright.seats" 334 159
noncomputable def o78:Obj:=h2 "ask" "Seat.ask" (ic 19 13) "treeright.seats" 334 241
noncomputable def o80:Obj:=h2 "check_letter" "House.check_letter" (ic 25 18) "treeright.houses" 503 425
noncomputable def o82:Obj:=h2 "state" "House.state" (ic 25 13) "treeright.houses" 503 394
noncomputable def o96:Obj:=h2 "arrow" "House.arrow" (ic 25 7) "treeright.houses" 503 352
noncomputable def o99:Obj:=h2 "row" "House.row" (ic 25 8) "treeright.houses" 503 359
noncomputable def o106:Obj:=h2 "leave" "House.leave" (ic 25 2) "treeright.houses" 503 319
noncomputable def o107:Obj:=h2 "best_right" "House.best_right" (ic 25 17) "treeright.houses" 503 418
noncomputable def o108:Obj:=h2 "_law_good_deeds" "_law_good_deeds" (tp 41) "law_treeright_k24_askers_by_name" 708 527
noncomputable def o119:Obj:=h2 "come" "Seat.come" (ic 19 14) "treeright.seats" 334 248
noncomputable def o137:Obj:=h2 "are_neighbours" "are_neighbours" (tp 21) "treeright.houses" 503 276
noncomputable def o139:Obj:=h2 "come" "House.come" (ic 25 5) "treeright.houses" 503 340
noncomputable def o167:Obj:=h2 "check_right" "check_right" (tp 23) "treeright.houses" 503 288
noncomputable def o171:Obj:=h2 "leave" "Seat.leave" (ic 19 11) "treeright.seats" 334 227
noncomputable def o184:Obj:=h2 "ask" "House.ask" (ic 25 4) "treeright.houses" 503 333
noncomputable def o186:Obj:=h2 "twin" "Seat.twin" (ic 19 7) "treeright.seats" 334 199
noncomputable def o195:Obj:=h2 "crowd" "Seat.crowd" (ic 19 6) "treeright.seats" 334 192
noncomputable def o196:Obj:=h2 "law" "law" (tp 45) "law_treeright_k24_askers_by_name" 708 551
noncomputable def o202:Obj:=h2 "right_of" "House.right_of" (ic 25 16) "treeright.houses" 503 413
noncomputable def o208:Obj:=h2 "_law_put" "_law_put" (tp 43) "law_treeright_k24_askers_by_name" 708 541
noncomputable def o209:Obj:=h2 "are_names" "are_names" (tp 14) "treeright.trees" 294 117
noncomputable def o212:Obj:=h2 "_law_noted" "_law_noted" (tp 44) "law_treeright_k24_askers_by_name" 708 546
noncomputable def o216:Obj:=h2 "check_house" "check_house" (tp 18) "treeright.seats" 334 138
noncomputable def o217:Obj:=h2 "serve_first" "Seat.serve_first" (ic 19 16) "treeright.seats" 334 262
noncomputable def o221:Obj:=h2 "has_asked" "Seat.has_asked" (ic 19 4) "treeright.seats" 334 180
noncomputable def o223:Obj:=h2 "__init__" "House.__init__" (ic 25 0) "treeright.houses" 503 305
noncomputable def o242:Obj:=h2 "is_name" "is_name" (tp 11) "treeright.trees" 294 98
noncomputable def o254:Obj:=h2 "inside" "House.inside" (ic 25 9) "treeright.houses" 503 366
noncomputable def o265:Obj:=h2 "askers" "House.askers" (ic 25 6) "treeright.houses" 503 345
noncomputable def o268:Obj:=h2 "has_asked" "House.has_asked" (ic 25 10) "treeright.houses" 503 373
noncomputable def o272:Obj:=h2 "are_unlike" "are_unlike" (tp 15) "treeright.trees" 294 124
noncomputable def o274:Obj:=h2 "inside" "Seat.inside" (ic 19 3) "treeright.seats" 334 173
noncomputable def o282:Obj:=h2 "_law_chosen" "_law_chosen" (tp 38) "law_treeright_k24_askers_by_name" 708 510
noncomputable def o287:Obj:=h2 "_law_digits" "_law_digits" (tp 29) "law_treeright_k24_askers_by_name" 708 453
noncomputable def o289:Obj:=h2 "_law_told" "_law_told" (tp 33) "law_treeright_k24_askers_by_name" 708 477
noncomputable def o293:Obj:=h2 "_law_cell_at" "_law_cell_at" (tp 27) "law_treeright_k24_askers_by_name" 708 439
noncomputable def o296:Obj:=h2 "move_on" "Seat.move_on" (ic 19 15) "treeright.seats" 334 255
noncomputable def o299:Obj:=h2 "rights_wanted" "House.rights_wanted" (ic 25 15) "treeright.houses" 503 406
noncomputable def o305:Obj:=h2 "_law_numbered" "_law_numbered" (tp 40) "law_treeright_k24_askers_by_name" 708 522
noncomputable def o308:Obj:=h2 "state" "Seat.state" (ic 19 8) "treeright.seats" 334 206
noncomputable def o309:Obj:=h2 "_law_made_at" "_law_made_at" (tp 37) "law_treeright_k24_askers_by_name" 708 503
noncomputable def o312:Obj:=h2 "_wall" "_wall" (tp 0) "__main__" 164 20
noncomputable def o313:Obj:=h2 "twin" "House.twin" (ic 25 12) "treeright.houses" 503 387
noncomputable def o320:Obj:=h2 "_law_made" "_law_made" (tp 34) "law_treeright_k24_askers_by_name" 708 482
noncomputable def o323:Obj:=h2 "_law_done" "_law_done" (tp 42) "law_treeright_k24_askers_by_name" 708 534
noncomputable def o327:Obj:=h2 "_law_alike" "_law_alike" (tp 32) "law_treeright_k24_askers_by_name" 708 470
noncomputable def o340:Obj:=h2 "_law_seat_of" "_law_seat_of" (tp 39) "law_treeright_k24_askers_by_name" 708 517
noncomputable def o343:Obj:=h2 "is_one_of" "is_one_of" (tp 13) "treeright.trees" 294 112
noncomputable def o344:Obj:=h2 "is_whole" "is_whole" (tp 12) "treeright.trees" 294 105
noncomputable def o349:Obj:=h2 "numbered" "numbered" (tp 24) "treeright.houses" 503 293
noncomputable def o352:Obj:=h2 "are_arrows" "are_arrows" (tp 22) "treeright.houses" 503 281
noncomputable def h3 (a0:Str) (a1:Nat) (a2:Str) (a3:Nat) (a4:Nat) (a5:Int) (a6:Int) (a7:Nat) (a8:Nat) (a9:Nat) (a10:Int) (a11:Nat):Obj:=⟨(.type "code"),none,(Data.fields #[(.str a0 a1),(.str a2 a3),(.str "/claim/cut.py" a4),(.int a5 0),(.int a6 0),(.int 0 0),(.int 0 0),(.int 3 0),(.ref a7),(.bool true),(.int 181 0),(.ref a8),.none,.none,.none,(.ref a9),(.int a10 0),(.int a5 0),(.str "/claim/cut.py" a11)]),#[]⟩
noncomputable def o4:Obj:=h3 "_law_made" 765 "_law_made" 766 767 273 1 479 480 481 768 769
noncomputable def o16:Obj:=h3 "_law_alike" 749 "_law_alike" 750 751 260 2 467 468 469 752 753
noncomputable def o19:Obj:=h3 "_law_numbered" 818 "_law_numbered" 819 820 332 2 519 520 521 821 822
noncomputable def o24:Obj:=h3 "askers" 598 "House.askers" 599 600 188 1 342 343 344 601 602
noncomputable def o54:Obj:=h3 "askers" 398 "Seat.askers" 399 400 61 1 182 183 184 401 402
noncomputable def o101:Obj:=h3 "rights_wanted" 667 "House.rights_wanted" 668 669 219 1 403 404 405 670 671
noncomputable def o161:Obj:=h3 "_law_good_deeds" 824 "_law_good_deeds" 825 826 334 3 524 525 526 827 828
noncomputable def o175:Obj:=h3 "__init__" 545 "House.__init__" 546 547 152 4 302 303 304 548 549
noncomputable def o187:Obj:=h3 "are_names" 321 "are_names" 322 323 28 1 114 115 116 324 325
noncomputable def o198:Obj:=h3 "is_name" 300 "is_name" 301 302 20 1 95 96 97 303 304
noncomputable def o228:Obj:=h3 "are_arrows" 513 "are_arrows" 514 515 141 2 278 279 280 516 517
noncomputable def o237:Obj:=h3 "_law_noted" 847 "_law_noted" 848 849 370 5 543 544 545 850 851
noncomputable def o238:Obj:=h3 "numbered" 527 "numbered" 528 529 148 2 290 291 292 530 531
noncomputable def o332:Obj:=h3 "law" 853 "law" 854 855 382 1 548 549 550 856 857
noncomputable def o342:Obj:=h3 "_law_names" 743 "_law_names" 744 745 255 2 462 463 464 746 747
noncomputable def o348:Obj:=h3 "best_right" 682 "House.best_right" 683 684 229 1 415 416 417 685 686
noncomputable def o5:Obj:=⟨(.type "tuple"),none,(Data.seq #[] 0),#[]⟩
noncomputable def o8:Obj:=⟨.none,none,(Data.fields #[(.int 1 0),(.int 0 0),(.ref 20),(.int 5 0),(.int 0 0),(.ref 27),(.int 7 0),(.int 0 0),(.ref 40)]),#[]⟩
noncomputable def h4 (a0:Str) (a1:Nat) (a2:Str) (a3:Nat) (a4:Nat) (a5:Int) (a6:Int) (a7:Nat) (a8:Nat) (a9:Nat) (a10:Nat) (a11:Nat) (a12:Int) (a13:Nat):Obj:=⟨(.type "code"),none,(Data.fields #[(.str a0 a1),(.str a2 a3),(.str "/claim/cut.py" a4),(.int a5 0),(.int a6 0),(.int 0 0),(.int 0 0),(.int 3 0),(.ref a7),(.bool true),(.int 181 0),(.ref a8),.none,(.ref a9),(.ref a10),(.ref a11),(.int a12 0),(.int a5 0),(.str "/claim/cut.py" a13)]),#[]⟩
noncomputable def o9:Obj:=h4 "ask" 579 "House.ask" 580 581 180 3 328 329 330 331 332 585 586
noncomputable def o15:Obj:=h4 "is_one_of" 313 "is_one_of" 314 315 26 2 107 108 109 110 111 318 319
noncomputable def o27:Obj:=h4 "has_asked" 628 "House.has_asked" 629 630 203 2 368 369 370 371 372 633 634
noncomputable def o34:Obj:=h4 "has_asked" 391 "Seat.has_asked" 392 393 58 1 175 176 177 178 179 395 396
noncomputable def o35:Obj:=h4 "done" 570 "House.done" 571 572 176 2 321 322 323 324 325 576 577
noncomputable def o43:Obj:=h4 "_law_digits" 727 "_law_digits" 728 729 246 1 448 449 450 451 452 731 732
noncomputable def o44:Obj:=h4 "come" 588 "House.come" 589 590 184 4 335 336 337 338 339 595 596
noncomputable def o52:Obj:=h4 "crowd" 404 "Seat.crowd" 405 406 65 1 187 188 189 190 191 408 409
noncomputable def o65:Obj:=h4 "ask" 457 "Seat.ask" 458 459 98 2 236 237 238 239 240 462 463
noncomputable def o75:Obj:=h4 "_law_told" 755 "_law_told" 756 757 268 2 472 473 474 475 476 762 763
noncomputable def o79:Obj:=h4 "leave" 441 "Seat.leave" 442 443 84 2 222 223 224 225 226 446 447
noncomputable def o81:Obj:=h4 "twin" 644 "House.twin" 645 646 210 1 382 383 384 385 386 648 649
noncomputable def o85:Obj:=h4 "come" 465 "Seat.come" 466 467 107 3 243 244 245 246 247 471 472
noncomputable def o87:Obj:=h4 "check_asker" 336 "check_asker" 337 338 33 1 126 127 128 129 130 340 341
noncomputable def o90:Obj:=h4 "__init__" 362 "Seat.__init__" 363 364 41 2 147 148 149 150 151 367 368
noncomputable def o93:Obj:=h4 "done" 449 "Seat.done" 450 451 91 2 229 230 231 232 233 454 455
noncomputable def o98:Obj:=h4 "_law_seat_of" 809 "_law_seat_of" 810 811 327 2 512 513 514 515 516 815 816
noncomputable def o102:Obj:=h4 "want" 433 "Seat.want" 434 435 77 2 215 216 217 218 219 438 439
noncomputable def o103:Obj:=h4 "serve_first" 481 "Seat.serve_first" 482 483 129 1 257 258 259 260 261 488 489
noncomputable def o105:Obj:=h4 "settle" 425 "Seat.settle" 426 427 74 2 208 209 210 211 212 430 431
noncomputable def o115:Obj:=h4 "state" 651 "House.state" 652 653 213 1 389 390 391 392 393 655 656
noncomputable def o116:Obj:=h4 "_law_chosen" 797 "_law_chosen" 798 799 317 1 505 506 507 508 509 806 807
noncomputable def o140:Obj:=h4 "arrow" 604 "House.arrow" 605 606 191 2 347 348 349 350 351 609 610
noncomputable def o142:Obj:=h4 "settle" 658 "House.settle" 659 660 216 3 396 397 398 399 400 664 665
noncomputable def o151:Obj:=h4 "arrow" 370 "Seat.arrow" 371 372 49 1 154 155 156 157 158 374 375
noncomputable def o159:Obj:=h4 "inside" 384 "Seat.inside" 385 386 55 1 168 169 170 171 172 388 389
noncomputable def o160:Obj:=h4 "are_unlike" 327 "are_unlike" 328 329 30 1 119 120 121 122 123 331 332
noncomputable def o176:Obj:=h4 "row" 377 "Seat.row" 378 379 52 1 161 162 163 164 165 381 382
noncomputable def o180:Obj:=h4 "right_of" 673 "House.right_of" 674 675 222 2 408 409 410 411 412 679 680
noncomputable def o182:Obj:=h4 "state" 418 "Seat.state" 419 420 71 1 201 202 203 204 205 422 423
noncomputable def o191:Obj:=h4 "leave" 561 "House.leave" 562 563 172 2 314 315 316 317 318 567 568
noncomputable def o192:Obj:=h4 "row" 612 "House.row" 613 614 195 2 354 355 356 357 358 617 618
noncomputable def o206:Obj:=h4 "_wall" 187 "_wall" 188 189 1 1 15 16 17 18 19 191 192
noncomputable def o213:Obj:=h4 "_law_made_at" 787 "_law_made_at" 788 789 301 2 498 499 500 501 502 794 795
noncomputable def o218:Obj:=h4 "_law_next" 734 "_law_next" 735 736 248 2 455 456 457 458 459 740 741
noncomputable def o224:Obj:=h4 "check_house" 343 "check_house" 344 345 36 1 133 134 135 136 137 347 348
noncomputable def o226:Obj:=h4 "inside" 620 "House.inside" 621 622 199 2 361 362 363 364 365 625 626
noncomputable def o227:Obj:=h4 "_law_moved" 778 "_law_moved" 779 780 286 1 491 492 493 494 495 784 785
noncomputable def o234:Obj:=h4 "want" 551 "House.want" 552 553 163 3 307 308 309 310 311 558 559
noncomputable def o240:Obj:=h4 "move_on" 474 "Seat.move_on" 475 476 119 1 250 251 252 253 254 478 479
noncomputable def o256:Obj:=h4 "_law_put" 839 "_law_put" 840 841 360 2 536 537 538 539 540 844 845
noncomputable def o257:Obj:=h4 "move_on" 636 "House.move_on" 637 638 207 2 375 376 377 378 379 641 642
noncomputable def o267:Obj:=h4 "check_letter" 688 "House.check_letter" 689 690 232 3 420 421 422 423 424 694 695
noncomputable def o270:Obj:=h4 "check_right" 519 "check_right" 520 521 145 2 283 284 285 286 287 524 525
noncomputable def o276:Obj:=h4 "twin" 411 "Seat.twin" 412 413 68 1 194 195 196 197 198 415 416
noncomputable def o316:Obj:=h4 "is_whole" 306 "is_whole" 307 308 24 1 100 101 102 103 104 310 311
noncomputable def o318:Obj:=h4 "are_neighbours" 505 "are_neighbours" 506 507 139 2 271 272 273 274 275 510 511
noncomputable def o333:Obj:=h4 "_law_done" 830 "_law_done" 831 832 351 2 529 530 531 532 533 836 837
noncomputable def o335:Obj:=h4 "_law_mixed" 718 "_law_mixed" 719 720 241 2 441 442 443 444 445 724 725
noncomputable def o341:Obj:=h4 "_law_state" 771 "_law_state" 772 773 284 1 484 485 486 487 488 775 776
noncomputable def o347:Obj:=h4 "_law_cell_at" 710 "_law_cell_at" 711 712 237 2 434 435 436 437 438 715 716
noncomputable def o10:Obj:=⟨.none,none,(Data.fields #[]),#[]⟩
noncomputable def o11:Obj:=⟨(.type "dict"),none,(Data.dict #[en P "__name__" 165 (.str "treeright.seats" 334),en P "__doc__" 166 .none,en P "__package__" 167 .none,en P "__loader__" 168 (.builtin "__main__.__loader__#opaque"),en P "__spec__" 169 .none,en P "__annotations__" 170 (.ref 6),en P "__builtins__" 171 (.ref 4),en P "__file__" 173 (.str "/claim/cut.py" 172),en P "__cached__" 174 .none,en P "_wall" 193 (.ref 21),en P "TreeError" 213 (.ref 31),en P "NoHouse" 229 (.ref 44),en P "NoSeat" 245 (.ref 56),en P "NoAsker" 261 (.ref 68),en P "NoLetter" 277 (.ref 80),en P "NoRight" 293 (.ref 92),en P "LETTERS" 297 (.str "abcdefghijklmnopqrstuvwxyz" 296),en P "LONGEST_NAME" 299 (.int 8 298),en P "is_name" 305 (.ref 99),en P "is_whole" 312 (.ref 106),en P "is_one_of" 320 (.ref 113),en P "are_names" 326 (.ref 118),en P "are_unlike" 333 (.ref 125)] 23),#[]⟩
noncomputable def h5 (a0:Str) (a1:Str) (a2:Stmt):Obj:=⟨.none,none,(Data.func ⟨a0,a1,(x0 a2),(FuncBody.stmts (xM a2)),(zG a2),0,[],.none,.none,.none,.none,none,.none,.none,0⟩),#[]⟩
noncomputable def o12:Obj:=h5 "arrow" "Seat.arrow" (ic 19 1)
noncomputable def o13:Obj:=h5 "come" "House.come" (ic 25 5)
noncomputable def o14:Obj:=h5 "_law_moved" "_law_moved" (tp 36)
noncomputable def o21:Obj:=h5 "__init__" "House.__init__" (ic 25 0)
noncomputable def o23:Obj:=h5 "_law_cell_at" "_law_cell_at" (tp 27)
noncomputable def o25:Obj:=h5 "arrow" "House.arrow" (ic 25 7)
noncomputable def o26:Obj:=h5 "leave" "House.leave" (ic 25 2)
noncomputable def o36:Obj:=h5 "twin" "Seat.twin" (ic 19 7)
noncomputable def o46:Obj:=h5 "askers" "Seat.askers" (ic 19 5)
noncomputable def o49:Obj:=h5 "best_right" "House.best_right" (ic 25 17)
noncomputable def o59:Obj:=h5 "is_name" "is_name" (tp 11)
noncomputable def o60:Obj:=h5 "_law_state" "_law_state" (tp 35)
noncomputable def o62:Obj:=h5 "want" "House.want" (ic 25 1)
noncomputable def o68:Obj:=h5 "_law_done" "_law_done" (tp 42)
noncomputable def o69:Obj:=h5 "_law_told" "_law_told" (tp 33)
noncomputable def o73:Obj:=h5 "_law_made" "_law_made" (tp 34)
noncomputable def o89:Obj:=h5 "want" "Seat.want" (ic 19 10)
noncomputable def o91:Obj:=h5 "inside" "House.inside" (ic 25 9)
noncomputable def o92:Obj:=h5 "ask" "House.ask" (ic 25 4)
noncomputable def o95:Obj:=h5 "row" "House.row" (ic 25 8)
noncomputable def o100:Obj:=h5 "__init__" "Seat.__init__" (ic 19 0)
noncomputable def o112:Obj:=h5 "check_house" "check_house" (tp 18)
noncomputable def o113:Obj:=h5 "ask" "Seat.ask" (ic 19 13)
noncomputable def o120:Obj:=h5 "row" "Seat.row" (ic 19 2)
noncomputable def o126:Obj:=h5 "has_asked" "Seat.has_asked" (ic 19 4)
noncomputable def o132:Obj:=h5 "_law_next" "_law_next" (tp 30)
noncomputable def o134:Obj:=h5 "settle" "House.settle" (ic 25 14)
noncomputable def o143:Obj:=h5 "_law_numbered" "_law_numbered" (tp 40)
noncomputable def o144:Obj:=h5 "has_asked" "House.has_asked" (ic 25 10)
noncomputable def o145:Obj:=h5 "askers" "House.askers" (ic 25 6)
noncomputable def o148:Obj:=h5 "right_of" "House.right_of" (ic 25 16)
noncomputable def o150:Obj:=h5 "law" "law" (tp 45)
noncomputable def o153:Obj:=h5 "_law_made_at" "_law_made_at" (tp 37)
noncomputable def o155:Obj:=h5 "settle" "Seat.settle" (ic 19 9)
noncomputable def o156:Obj:=h5 "_law_alike" "_law_alike" (tp 32)
noncomputable def o173:Obj:=h5 "done" "House.done" (ic 25 3)
noncomputable def o178:Obj:=h5 "crowd" "Seat.crowd" (ic 19 6)
noncomputable def o179:Obj:=h5 "_law_seat_of" "_law_seat_of" (tp 39)
noncomputable def o188:Obj:=h5 "move_on" "House.move_on" (ic 25 11)
noncomputable def o189:Obj:=h5 "_law_mixed" "_law_mixed" (tp 28)
noncomputable def o190:Obj:=h5 "_law_chosen" "_law_chosen" (tp 38)
noncomputable def o193:Obj:=h5 "_law_names" "_law_names" (tp 31)
noncomputable def o194:Obj:=h5 "_law_digits" "_law_digits" (tp 29)
noncomputable def o200:Obj:=h5 "twin" "House.twin" (ic 25 12)
noncomputable def o220:Obj:=h5 "is_whole" "is_whole" (tp 12)
noncomputable def o222:Obj:=h5 "state" "Seat.state" (ic 19 8)
noncomputable def o231:Obj:=h5 "are_neighbours" "are_neighbours" (tp 21)
noncomputable def o235:Obj:=h5 "move_on" "Seat.move_on" (ic 19 15)
noncomputable def o260:Obj:=h5 "serve_first" "Seat.serve_first" (ic 19 16)
noncomputable def o261:Obj:=h5 "are_names" "are_names" (tp 14)
noncomputable def o263:Obj:=h5 "check_right" "check_right" (tp 23)
noncomputable def o271:Obj:=h5 "check_asker" "check_asker" (tp 17)
noncomputable def o279:Obj:=h5 "come" "Seat.come" (ic 19 14)
noncomputable def o283:Obj:=h5 "leave" "Seat.leave" (ic 19 11)
noncomputable def o284:Obj:=h5 "_law_good_deeds" "_law_good_deeds" (tp 41)
noncomputable def o291:Obj:=h5 "inside" "Seat.inside" (ic 19 3)
noncomputable def o295:Obj:=h5 "are_unlike" "are_unlike" (tp 15)
noncomputable def o300:Obj:=h5 "_law_put" "_law_put" (tp 43)
noncomputable def o302:Obj:=h5 "_law_noted" "_law_noted" (tp 44)
noncomputable def o303:Obj:=h5 "are_arrows" "are_arrows" (tp 22)
noncomputable def o304:Obj:=h5 "rights_wanted" "House.rights_wanted" (ic 25 15)
noncomputable def o307:Obj:=h5 "check_letter" "House.check_letter" (ic 25 18)
noncomputable def o322:Obj:=h5 "done" "Seat.done" (ic 19 12)
noncomputable def o334:Obj:=h5 "state" "House.state" (ic 25 13)
noncomputable def o338:Obj:=h5 "is_one_of" "is_one_of" (tp 13)
noncomputable def o346:Obj:=h5 "numbered" "numbered" (tp 24)
noncomputable def o356:Obj:=h5 "_wall" "_wall" (tp 0)
noncomputable def o18:Obj:=⟨.none,none,(Data.fields #[(.int 1 0),(.int 0 0),(.ref 20),(.int 5 0),(.int 0 0),(.ref 27)]),#[]⟩
noncomputable def h6 (a0:Str) (a1:Nat) (a2:Nat) (a3:Nat) (a4:Nat) (a5:Nat):Obj:=⟨(.type "type"),none,(Data.cls ⟨a0,[(.ref 31)],[(.ref a1),(.ref 31),(.type "ValueError"),(.type "Exception"),(.type "BaseException"),(.type "object")],a2,a0,true,[],[],false,none,false⟩),#[(some (.ref a3)),none,(some (.str a0 a4)),(some (.str a0 a5)),(some (.builtin "ValueError.__new__")),(some (.bool true))]⟩
noncomputable def o20:Obj:=h6 "NoHouse" 44 43 35 214 222
noncomputable def o266:Obj:=h6 "NoLetter" 80 79 71 262 270
noncomputable def o292:Obj:=h6 "NoRight" 92 91 83 278 286
noncomputable def o325:Obj:=h6 "NoSeat" 56 55 47 230 238
noncomputable def o328:Obj:=h6 "NoAsker" 68 67 59 246 254
noncomputable def h7 (a0:Nat) (a1:Nat) (a2:Str) (a3:Nat):Obj:=⟨(.type "frame"),none,Data.plain,#[(some (.ref a0)),(some (.ref 3)),(some (.ref a1)),none,(some (.str a2 a3)),none,(some (.ref 0))]⟩
noncomputable def o22:Obj:=h7 300 297 "treeright.houses" 503
noncomputable def o53:Obj:=h7 64 61 "treeright.errors" 194
noncomputable def o94:Obj:=h7 13 3 "__main__" 164
noncomputable def o130:Obj:=h7 88 85 "treeright.errors" 194
noncomputable def o163:Obj:=h7 27 24 "treeright.errors" 194
noncomputable def o166:Obj:=h7 52 49 "treeright.errors" 194
noncomputable def o197:Obj:=h7 76 73 "treeright.errors" 194
noncomputable def o244:Obj:=h7 40 37 "treeright.errors" 194
noncomputable def o311:Obj:=h7 145 142 "treeright.seats" 334
noncomputable def h8 (a0:Str) (a1:Nat):Obj:=⟨(.type "tuple"),none,(Data.seq #[(.str a0 a1)] 0),#[]⟩
noncomputable def o28:Obj:=h8 "self" 373
noncomputable def o40:Obj:=h8 "self" 380
noncomputable def o48:Obj:=h8 "self" 414
noncomputable def o58:Obj:=h8 "self" 477
noncomputable def o83:Obj:=h8 "self" 407
noncomputable def o121:Obj:=h8 "names" 330
noncomputable def o128:Obj:=h8 "asker" 339
noncomputable def o136:Obj:=h8 "thing" 309
noncomputable def o149:Obj:=h8 "self" 394
noncomputable def o165:Obj:=h8 "self" 647
noncomputable def o168:Obj:=h8 "self" 421
noncomputable def o174:Obj:=h8 "_law_cell" 730
noncomputable def o246:Obj:=h8 "self" 387
noncomputable def o251:Obj:=h8 "_law_arrow" 774
noncomputable def o252:Obj:=h8 "house" 346
noncomputable def o330:Obj:=h8 "k" 190
noncomputable def o339:Obj:=h8 "self" 654
noncomputable def o38:Obj:=⟨(.type "dict"),none,(Data.dict #[en P "__module__" 203 (.str "treeright.errors" 194),en P "__firstlineno__" 207 (.int 5 206),en P "__static_attributes__" 208 (.ref 29),en P "__weakref__" 210 (.ref 32),en P "__doc__" 211 .none] 3),#[]⟩
noncomputable def h9 (a0:Int) (a1:Nat) (a2:Int) (a3:Nat) (a4:Int) (a5:Nat) (a6:Int) (a7:Nat) (a8:Int) (a9:Nat) (a10:Int) (a11:Nat) (a12:Int) (a13:Nat) (a14:Int) (a15:Nat) (a16:Int) (a17:Nat) (a18:Int) (a19:Nat) (a20:Int) (a21:Nat):Obj:=⟨.none,none,(Data.fields #[(.int a0 0),(.int 4 0),(.ref a1),(.int a2 0),(.int 4 0),(.ref a3),(.int a4 0),(.int 4 0),(.ref a5),(.int a6 0),(.int 4 0),(.ref a7),(.int a8 0),(.int 4 0),(.ref a9),(.int a10 0),(.int 4 0),(.ref a11),(.int a12 0),(.int 4 0),(.ref a13),(.int a14 0),(.int 4 0),(.ref a15),(.int a16 0),(.int 4 0),(.ref a17),(.int a18 0),(.int 4 0),(.ref a19),(.int a20 0),(.int 4 0),(.ref a21)]),#[]⟩
noncomputable def o39:Obj:=h9 152 305 163 312 172 319 176 326 180 333 184 340 188 345 191 352 195 359 199 366 203 373
noncomputable def o88:Obj:=h9 41 152 49 159 52 166 55 173 58 180 61 185 65 192 68 199 71 206 74 213 77 220
noncomputable def h10 (a0:Str) (a1:Nat) (a2:Str) (a3:Nat) (a4:Str) (a5:Nat):Obj:=⟨(.type "tuple"),none,(Data.seq #[(.str a0 a1),(.str a2 a3),(.str a4 a5)] 0),#[]⟩
noncomputable def o41:Obj:=h10 "_law_states" 812 "_law_asker" 813 "_law_right" 814
noncomputable def o57:Obj:=h10 "self" 676 "asker" 677 "wanted" 678
noncomputable def o129:Obj:=h10 "_law_states" 833 "_law_deed" 834 "_law_right" 835
noncomputable def o131:Obj:=h10 "self" 582 "house" 583 "right" 584
noncomputable def o138:Obj:=h10 "self" 564 "asker" 565 "right" 566
noncomputable def o177:Obj:=h10 "self" 573 "asker" 574 "right" 575
noncomputable def o181:Obj:=h10 "self" 468 "house" 469 "back" 470
noncomputable def o210:Obj:=h10 "self" 661 "neighbours" 662 "arrows" 663
noncomputable def o233:Obj:=h10 "_law_source" 737 "_law_many" 738 "_law_found" 739
noncomputable def o258:Obj:=h10 "name" 697 "nearby" 698 "seats" 699
noncomputable def o259:Obj:=h10 "_law_state_here" 781 "_law_word" 782 "_law_name" 783
noncomputable def o264:Obj:=h10 "self" 691 "house" 692 "right" 693
noncomputable def o275:Obj:=h10 "_law_cell" 721 "_law_k" 722 "_law_number" 723
noncomputable def h11 (a0:Str) (a1:Nat) (a2:Str) (a3:Nat) (a4:Str) (a5:Nat) (a6:Str) (a7:Nat):Obj:=⟨(.type "tuple"),none,(Data.seq #[(.str a0 a1),(.str a2 a3),(.str a4 a5),(.str a6 a7)] 0),#[]⟩
noncomputable def o55:Obj:=h11 "asked" 491 "holder" 492 "pointer" 493 "waiting" 494
noncomputable def o72:Obj:=h11 "self" 591 "house" 592 "right" 593 "back" 594
noncomputable def o86:Obj:=h11 "_law_state_here" 790 "_law_deed" 791 "_law_word" 792 "_law_name" 793
noncomputable def o109:Obj:=h11 "self" 554 "asker" 555 "right" 556 "number" 557
noncomputable def o117:Obj:=h11 "_law_house" 758 "_law_many" 759 "_law_found" 760 "_law_right" 761
noncomputable def o241:Obj:=h11 "self" 484 "kind" 485 "name" 486 "back" 487
noncomputable def h12 (a0:Nat):Obj:=⟨(.type "builtin_function_or_method"),none,(Data.fields #[(.builtin "object.__init_subclass__"),(.ref a0)]),#[]⟩
noncomputable def o56:Obj:=h12 31
noncomputable def o84:Obj:=h12 56
noncomputable def o111:Obj:=h12 266
noncomputable def o122:Obj:=h12 429
noncomputable def o239:Obj:=h12 80
noncomputable def o277:Obj:=h12 44
noncomputable def o285:Obj:=h12 68
noncomputable def o286:Obj:=h12 92
noncomputable def o64:Obj:=⟨.none,none,(Data.fields #[(.int 1 0),(.int 0 0),(.ref 20),(.int 5 0),(.int 0 0),(.ref 27),(.int 7 0),(.int 0 0),(.ref 40),(.int 9 0),(.int 0 0),(.ref 52),(.int 11 0),(.int 0 0),(.ref 64),(.int 13 0),(.int 0 0),(.ref 76),(.int 15 0),(.int 0 0),(.ref 88),(.int 20 0),(.int 0 0),(.ref 98),(.int 24 0),(.int 0 0),(.ref 105),(.int 26 0),(.int 0 0),(.ref 112),(.int 28 0),(.int 0 0),(.ref 117),(.int 30 0),(.int 0 0),(.ref 124),(.int 33 0),(.int 0 0),(.ref 131),(.int 36 0),(.int 0 0),(.ref 138)]),#[]⟩
noncomputable def o66:Obj:=⟨(.type "type"),none,(Data.cls ⟨"TreeError",[(.type "ValueError")],[(.ref 31),(.type "ValueError"),(.type "Exception"),(.type "BaseException"),(.type "object")],30,"TreeError",true,[],[(.ref 44),(.ref 56),(.ref 68)],false,none,false⟩),#[(some (.ref 22)),none,(some (.str "TreeError" 196)),(some (.str "TreeError" 204)),(some (.builtin "ValueError.__new__")),(some (.bool true))]⟩
noncomputable def o67:Obj:=⟨(.type "dict"),none,(Data.dict #[en P "__name__" 165 (.str "treeright.houses" 503),en P "__doc__" 166 .none,en P "__package__" 167 .none,en P "__loader__" 168 (.builtin "__main__.__loader__#opaque"),en P "__spec__" 169 .none,en P "__annotations__" 170 (.ref 6),en P "__builtins__" 171 (.ref 4),en P "__file__" 173 (.str "/claim/cut.py" 172),en P "__cached__" 174 .none,en P "_wall" 193 (.ref 21),en P "TreeError" 213 (.ref 31),en P "NoHouse" 229 (.ref 44),en P "NoSeat" 245 (.ref 56),en P "NoAsker" 261 (.ref 68),en P "NoLetter" 277 (.ref 80),en P "NoRight" 293 (.ref 92),en P "LETTERS" 297 (.str "abcdefghijklmnopqrstuvwxyz" 296),en P "LONGEST_NAME" 299 (.int 8 298),en P "is_name" 305 (.ref 99),en P "is_whole" 312 (.ref 106),en P "is_one_of" 320 (.ref 113),en P "are_names" 326 (.ref 118),en P "are_unlike" 333 (.ref 125),en P "check_asker" 342 (.ref 132),en P "check_house" 349 (.ref 139),en P "Seat" 502 (.ref 266),en P "are_neighbours" 512 (.ref 277),en P "are_arrows" 518 (.ref 282),en P "check_right" 526 (.ref 289),en P "numbered" 532 (.ref 294)] 30),#[]⟩
noncomputable def o71:Obj:=⟨.none,none,(Data.fields #[(.int 1 0),(.int 0 0),(.ref 20),(.int 5 0),(.int 0 0),(.ref 27),(.int 7 0),(.int 0 0),(.ref 40),(.int 9 0),(.int 0 0),(.ref 52),(.int 11 0),(.int 0 0),(.ref 64),(.int 13 0),(.int 0 0),(.ref 76),(.int 15 0),(.int 0 0),(.ref 88),(.int 20 0),(.int 0 0),(.ref 98),(.int 24 0),(.int 0 0),(.ref 105),(.int 26 0),(.int 0 0),(.ref 112),(.int 28 0),(.int 0 0),(.ref 117),(.int 30 0),(.int 0 0),(.ref 124),(.int 33 0),(.int 0 0),(.ref 131),(.int 36 0),(.int 0 0),(.ref 138),(.int 39 0),(.int 0 0),(.ref 145),(.int 139 0),(.int 0 0),(.ref 276),(.int 141 0),(.int 0 0),(.ref 281),(.int 145 0),(.int 0 0),(.ref 288),(.int 148 0),(.int 0 0),(.ref 293),(.int 150 0),(.int 0 0),(.ref 300)]),#[]⟩
noncomputable def o74:Obj:=⟨(.type "dict"),none,(Data.dict #[en P "__module__" 540 (.str "treeright.houses" 503),en P "__qualname__" 542 (.str "House" 541),en P "__firstlineno__" 544 (.int 150 543),en P "__init__" 550 (.ref 306),en P "want" 560 (.ref 313),en P "leave" 569 (.ref 320),en P "done" 578 (.ref 327),en P "ask" 587 (.ref 334),en P "come" 597 (.ref 341),en P "askers" 603 (.ref 346),en P "arrow" 611 (.ref 353),en P "row" 619 (.ref 360),en P "inside" 627 (.ref 367),en P "has_asked" 635 (.ref 374),en P "move_on" 643 (.ref 381),en P "twin" 650 (.ref 388),en P "state" 657 (.ref 395),en P "settle" 666 (.ref 402),en P "rights_wanted" 672 (.ref 407),en P "right_of" 681 (.ref 414),en P "best_right" 687 (.ref 419),en P "check_letter" 696 (.ref 426),en P "__static_attributes__" 700 (.ref 427)] 23),#[]⟩
noncomputable def o76:Obj:=⟨(.type "tuple"),none,(Data.seq #[(.ref 31)] 0),#[]⟩
noncomputable def o97:Obj:=⟨.none,none,(Data.fields #[(.int 1 0),(.int 0 0),(.ref 20),(.int 5 0),(.int 0 0),(.ref 27),(.int 7 0),(.int 0 0),(.ref 40),(.int 9 0),(.int 0 0),(.ref 52),(.int 11 0),(.int 0 0),(.ref 64),(.int 13 0),(.int 0 0),(.ref 76),(.int 15 0),(.int 0 0),(.ref 88),(.int 20 0),(.int 0 0),(.ref 98),(.int 24 0),(.int 0 0),(.ref 105),(.int 26 0),(.int 0 0),(.ref 112),(.int 28 0),(.int 0 0),(.ref 117),(.int 30 0),(.int 0 0),(.ref 124),(.int 33 0),(.int 0 0),(.ref 131),(.int 36 0),(.int 0 0),(.ref 138),(.int 39 0),(.int 0 0),(.ref 145)]),#[]⟩
noncomputable def o104:Obj:=⟨(.type "tuple"),none,(Data.seq #[(.type "ValueError")] 0),#[]⟩
noncomputable def h13 (a0:Str) (a1:Nat) (a2:Nat) (a3:Nat) (a4:Nat):Obj:=⟨(.type "type"),none,(Data.cls ⟨a0,[(.type "object")],[(.ref a1),(.type "object")],a2,a0,true,[],[],false,none,false⟩),#[none,none,(some (.str a0 a3)),(some (.str a0 a4)),(some (.builtin "object.__new__")),(some (.bool true))]⟩
noncomputable def o110:Obj:=h13 "House" 429 428 533 541
noncomputable def o326:Obj:=h13 "Seat" 266 265 350 358
noncomputable def o114:Obj:=⟨(.type "dict"),none,(Data.dict #[en P "__name__" 165 (.str "law_treeright_k24_askers_by_name" 708),en P "__doc__" 166 .none,en P "__package__" 167 .none,en P "__loader__" 168 (.builtin "__main__.__loader__#opaque"),en P "__spec__" 169 .none,en P "__annotations__" 170 (.ref 6),en P "__builtins__" 171 (.ref 4),en P "__file__" 173 (.str "/claim/cut.py" 172),en P "__cached__" 174 .none,en P "_wall" 193 (.ref 21),en P "TreeError" 213 (.ref 31),en P "NoHouse" 229 (.ref 44),en P "NoSeat" 245 (.ref 56),en P "NoAsker" 261 (.ref 68),en P "NoLetter" 277 (.ref 80),en P "NoRight" 293 (.ref 92),en P "LETTERS" 297 (.str "abcdefghijklmnopqrstuvwxyz" 296),en P "LONGEST_NAME" 299 (.int 8 298),en P "is_name" 305 (.ref 99),en P "is_whole" 312 (.ref 106),en P "is_one_of" 320 (.ref 113),en P "are_names" 326 (.ref 118),en P "are_unlike" 333 (.ref 125),en P "check_asker" 342 (.ref 132),en P "check_house" 349 (.ref 139),en P "Seat" 502 (.ref 266),en P "are_neighbours" 512 (.ref 277),en P "are_arrows" 518 (.ref 282),en P "check_right" 526 (.ref 289),en P "numbered" 532 (.ref 294),en P "House" 707 (.ref 429),en P "_law_cell_at" 717 (.ref 440),en P "_law_mixed" 726 (.ref 447),en P "_law_digits" 733 (.ref 454),en P "_law_next" 742 (.ref 461),en P "_law_names" 748 (.ref 466),en P "_law_alike" 754 (.ref 471),en P "_law_told" 764 (.ref 478),en P "_law_made" 770 (.ref 483),en P "_law_state" 777 (.ref 490),en P "_law_moved" 786 (.ref 497),en P "_law_made_at" 796 (.ref 504),en P "_law_chosen" 808 (.ref 511),en P "_law_seat_of" 817 (.ref 518),en P "_law_numbered" 823 (.ref 523),en P "_law_good_deeds" 829 (.ref 528),en P "_law_done" 838 (.ref 535),en P "_law_put" 846 (.ref 542),en P "_law_noted" 852 (.ref 547),en P "law" 858 (.ref 552)] 50),#[]⟩
noncomputable def o118:Obj:=⟨.none,none,(Data.fields #[(.int 1 0),(.int 0 0),(.ref 20),(.int 5 0),(.int 0 0),(.ref 27),(.int 7 0),(.int 0 0),(.ref 40),(.int 9 0),(.int 0 0),(.ref 52),(.int 11 0),(.int 0 0),(.ref 64),(.int 13 0),(.int 0 0),(.ref 76),(.int 15 0),(.int 0 0),(.ref 88),(.int 20 0),(.int 0 0),(.ref 98),(.int 24 0),(.int 0 0),(.ref 105),(.int 26 0),(.int 0 0),(.ref 112),(.int 28 0),(.int 0 0),(.ref 117),(.int 30 0),(.int 0 0),(.ref 124),(.int 33 0),(.int 0 0),(.ref 131),(.int 36 0),(.int 0 0),(.ref 138),(.int 39 0),(.int 0 0),(.ref 145),(.int 139 0),(.int 0 0),(.ref 276),(.int 141 0),(.int 0 0),(.ref 281),(.int 145 0),(.int 0 0),(.ref 288),(.int 148 0),(.int 0 0),(.ref 293),(.int 150 0),(.int 0 0),(.ref 300),(.int 237 0),(.int 0 0),(.ref 439),(.int 241 0),(.int 0 0),(.ref 446),(.int 246 0),(.int 0 0),(.ref 453),(.int 248 0),(.int 0 0),(.ref 460),(.int 255 0),(.int 0 0),(.ref 465),(.int 260 0),(.int 0 0),(.ref 470),(.int 268 0),(.int 0 0),(.ref 477),(.int 273 0),(.int 0 0),(.ref 482),(.int 284 0),(.int 0 0),(.ref 489),(.int 286 0),(.int 0 0),(.ref 496),(.int 301 0),(.int 0 0),(.ref 503),(.int 317 0),(.int 0 0),(.ref 510),(.int 327 0),(.int 0 0),(.ref 517),(.int 332 0),(.int 0 0),(.ref 522),(.int 334 0),(.int 0 0),(.ref 527),(.int 351 0),(.int 0 0),(.ref 534),(.int 360 0),(.int 0 0),(.ref 541),(.int 370 0),(.int 0 0),(.ref 546),(.int 382 0),(.int 0 0),(.ref 551)]),#[]⟩
noncomputable def o123:Obj:=⟨.none,none,(Data.fields #[(.int 1 0),(.int 0 0),(.ref 20),(.int 5 0),(.int 0 0),(.ref 27),(.int 7 0),(.int 0 0),(.ref 40),(.int 9 0),(.int 0 0),(.ref 52),(.int 11 0),(.int 0 0),(.ref 64),(.int 13 0),(.int 0 0),(.ref 76)]),#[]⟩
noncomputable def o124:Obj:=⟨(.type "dict"),none,(Data.dict #[en P "__name__" 165 (.str "treeright.errors" 194),en P "__doc__" 166 .none,en P "__package__" 167 .none,en P "__loader__" 168 (.builtin "__main__.__loader__#opaque"),en P "__spec__" 169 .none,en P "__annotations__" 170 (.ref 6),en P "__builtins__" 171 (.ref 4),en P "__file__" 173 (.str "/claim/cut.py" 172),en P "__cached__" 174 .none,en P "_wall" 193 (.ref 21),en P "TreeError" 213 (.ref 31),en P "NoHouse" 229 (.ref 44),en P "NoSeat" 245 (.ref 56),en P "NoAsker" 261 (.ref 68)] 14),#[]⟩
noncomputable def o125:Obj:=⟨(.type "type"),none,(Data.cls ⟨"TreeError",[(.type "ValueError")],[(.ref 31),(.type "ValueError"),(.type "Exception"),(.type "BaseException"),(.type "object")],30,"TreeError",true,[],[(.ref 44),(.ref 56),(.ref 68),(.ref 80),(.ref 92)],false,none,false⟩),#[(some (.ref 22)),none,(some (.str "TreeError" 196)),(some (.str "TreeError" 204)),(some (.builtin "ValueError.__new__")),(some (.bool true))]⟩
noncomputable def h14 (a0:Nat) (a1:Nat):Obj:=⟨(.type "getset_descriptor"),none,(Data.fields #[(.str "__weakref__" a0),(.ref a1),(.builtin "ExceptionGroup.__weakref__"),.none]),#[]⟩
noncomputable def o127:Obj:=h14 209 31
noncomputable def o152:Obj:=h14 498 266
noncomputable def o215:Obj:=h14 703 429
noncomputable def o135:Obj:=⟨(.type "builtin_function_or_method"),none,(Data.fields #[(.builtin "type.__prepare__"),(.type "type")]),#[]⟩
noncomputable def h15 (a0:Nat) (a1:Nat) (a2:Int) (a3:Nat) (a4:Nat) (a5:Nat) (a6:Nat):Obj:=⟨(.type "dict"),none,(Data.dict #[en P "__module__" a0 (.str "treeright.errors" 194),en P "__firstlineno__" a1 (.int a2 a3),en P "__static_attributes__" a4 (.ref a5),en P "__doc__" a6 .none] 2),#[]⟩
noncomputable def o141:Obj:=h15 P 269 273 13 272 274 78 275
noncomputable def o255:Obj:=h15 P 253 257 11 256 258 66 259
noncomputable def o314:Obj:=h15 P 237 241 9 240 242 54 243
noncomputable def o337:Obj:=h15 P 221 225 7 224 226 42 227
noncomputable def o354:Obj:=h15 P 285 289 15 288 290 90 291
noncomputable def h16 (a0:Int) (a1:Int) (a2:Nat) (a3:Int) (a4:Nat) (a5:Int) (a6:Nat) (a7:Int) (a8:Nat) (a9:Int) (a10:Nat) (a11:Int) (a12:Nat) (a13:Int) (a14:Nat) (a15:Int) (a16:Nat) (a17:Int) (a18:Nat) (a19:Int) (a20:Nat) (a21:Int) (a22:Nat) (a23:Int) (a24:Nat) (a25:Int) (a26:Nat) (a27:Int) (a28:Nat) (a29:Int) (a30:Nat) (a31:Int) (a32:Nat) (a33:Int) (a34:Nat) (a35:Int) (a36:Nat) (a37:Int) (a38:Nat):Obj:=⟨.none,none,(Data.fields #[(.int a0 0),(.int a1 0),(.ref a2),(.int a3 0),(.int a1 0),(.ref a4),(.int a5 0),(.int a1 0),(.ref a6),(.int a7 0),(.int a1 0),(.ref a8),(.int a9 0),(.int a1 0),(.ref a10),(.int a11 0),(.int a1 0),(.ref a12),(.int a13 0),(.int a1 0),(.ref a14),(.int a15 0),(.int a1 0),(.ref a16),(.int a17 0),(.int a1 0),(.ref a18),(.int a19 0),(.int a1 0),(.ref a20),(.int a21 0),(.int a1 0),(.ref a22),(.int a23 0),(.int a1 0),(.ref a24),(.int a25 0),(.int a1 0),(.ref a26),(.int a27 0),(.int a1 0),(.ref a28),(.int a29 0),(.int a1 0),(.ref a30),(.int a31 0),(.int a1 0),(.ref a32),(.int a33 0),(.int a1 0),(.ref a34),(.int a35 0),(.int a1 0),(.ref a36),(.int a37 0),(.int a1 0),(.ref a38)]),#[]⟩
noncomputable def o147:Obj:=h16 152 4 305 163 312 172 319 176 326 180 333 184 340 188 345 191 352 195 359 199 366 203 373 207 380 210 387 213 394 216 401 219 406 222 413 229 418 232 425
noncomputable def o229:Obj:=h16 1 0 20 5 27 7 40 9 52 11 64 13 76 15 88 20 98 24 105 26 112 28 117 30 124 33 131 36 138 39 145 139 276 141 281 145 288 148 293
noncomputable def h17 (a0:Nat):Obj:=⟨(.type "super"),none,(Data.fields #[(.ref a0),(.ref a0),(.ref a0)]),#[]⟩
noncomputable def o154:Obj:=h17 68
noncomputable def o164:Obj:=h17 266
noncomputable def o203:Obj:=h17 92
noncomputable def o219:Obj:=h17 80
noncomputable def o288:Obj:=h17 56
noncomputable def o297:Obj:=h17 31
noncomputable def o336:Obj:=h17 429
noncomputable def o350:Obj:=h17 44
noncomputable def o158:Obj:=⟨(.type "dict"),none,(Data.dict #[en P "__name__" 165 (.str "treeright.errors" 194),en P "__doc__" 166 .none,en P "__package__" 167 .none,en P "__loader__" 168 (.builtin "__main__.__loader__#opaque"),en P "__spec__" 169 .none,en P "__annotations__" 170 (.ref 6),en P "__builtins__" 171 (.ref 4),en P "__file__" 173 (.str "/claim/cut.py" 172),en P "__cached__" 174 .none,en P "_wall" 193 (.ref 21),en P "TreeError" 213 (.ref 31)] 11),#[]⟩
noncomputable def h18 (a0:Nat) (a1:Nat):Obj:=⟨(.type "getset_descriptor"),none,(Data.fields #[(.str "__dict__" a0),(.ref a1),(.builtin "function.__dict__"),(.builtin "function.__dict__#set")]),#[]⟩
noncomputable def o170:Obj:=h18 496 266
noncomputable def o290:Obj:=h18 701 429
noncomputable def o201:Obj:=⟨(.type "dict"),none,(Data.dict #[en P "__module__" 357 (.str "treeright.seats" 334),en P "__qualname__" 359 (.str "Seat" 358),en P "__firstlineno__" 361 (.int 39 360),en P "__init__" 369 (.ref 153),en P "arrow" 376 (.ref 160),en P "row" 383 (.ref 167),en P "inside" 390 (.ref 174),en P "has_asked" 397 (.ref 181),en P "askers" 403 (.ref 186),en P "crowd" 410 (.ref 193),en P "twin" 417 (.ref 200),en P "state" 424 (.ref 207),en P "settle" 432 (.ref 214),en P "want" 440 (.ref 221),en P "leave" 448 (.ref 228),en P "done" 456 (.ref 235),en P "ask" 464 (.ref 242),en P "come" 473 (.ref 249),en P "move_on" 480 (.ref 256),en P "serve_first" 490 (.ref 263),en P "__static_attributes__" 495 (.ref 264)] 21),#[]⟩
noncomputable def o204:Obj:=⟨(.type "dict"),none,(Data.dict #[en P "__name__" 165 (.str "treeright.houses" 503),en P "__doc__" 166 .none,en P "__package__" 167 .none,en P "__loader__" 168 (.builtin "__main__.__loader__#opaque"),en P "__spec__" 169 .none,en P "__annotations__" 170 (.ref 6),en P "__builtins__" 171 (.ref 4),en P "__file__" 173 (.str "/claim/cut.py" 172),en P "__cached__" 174 .none,en P "_wall" 193 (.ref 21),en P "TreeError" 213 (.ref 31),en P "NoHouse" 229 (.ref 44),en P "NoSeat" 245 (.ref 56),en P "NoAsker" 261 (.ref 68),en P "NoLetter" 277 (.ref 80),en P "NoRight" 293 (.ref 92),en P "LETTERS" 297 (.str "abcdefghijklmnopqrstuvwxyz" 296),en P "LONGEST_NAME" 299 (.int 8 298),en P "is_name" 305 (.ref 99),en P "is_whole" 312 (.ref 106),en P "is_one_of" 320 (.ref 113),en P "are_names" 326 (.ref 118),en P "are_unlike" 333 (.ref 125),en P "check_asker" 342 (.ref 132),en P "check_house" 349 (.ref 139),en P "Seat" 502 (.ref 266),en P "are_neighbours" 512 (.ref 277),en P "are_arrows" 518 (.ref 282),en P "check_right" 526 (.ref 289),en P "numbered" 532 (.ref 294),en P "House" 707 (.ref 429)] 31),#[]⟩
noncomputable def o205:Obj:=⟨(.type "dict"),none,(Data.dict #[en P "__name__" 165 (.str "treeright.errors" 194),en P "__doc__" 166 .none,en P "__package__" 167 .none,en P "__loader__" 168 (.builtin "__main__.__loader__#opaque"),en P "__spec__" 169 .none,en P "__annotations__" 170 (.ref 6),en P "__builtins__" 171 (.ref 4),en P "__file__" 173 (.str "/claim/cut.py" 172),en P "__cached__" 174 .none,en P "_wall" 193 (.ref 21),en P "TreeError" 213 (.ref 31),en P "NoHouse" 229 (.ref 44),en P "NoSeat" 245 (.ref 56),en P "NoAsker" 261 (.ref 68),en P "NoLetter" 277 (.ref 80)] 15),#[]⟩
noncomputable def o225:Obj:=⟨(.type "dict"),none,(Data.dict #[en P "__name__" 165 (.str "treeright.errors" 194),en P "__doc__" 166 .none,en P "__package__" 167 .none,en P "__loader__" 168 (.builtin "__main__.__loader__#opaque"),en P "__spec__" 169 .none,en P "__annotations__" 170 (.ref 6),en P "__builtins__" 171 (.ref 4),en P "__file__" 173 (.str "/claim/cut.py" 172),en P "__cached__" 174 .none,en P "_wall" 193 (.ref 21),en P "TreeError" 213 (.ref 31),en P "NoHouse" 229 (.ref 44)] 12),#[]⟩
noncomputable def h19 (a0:Nat) (a1:Nat) (a2:Str) (a3:Nat) (a4:Nat) (a5:Int) (a6:Nat) (a7:Nat) (a8:Nat):Obj:=⟨(.type "dict"),none,(Data.dict #[en P "__module__" a0 (.str "treeright.errors" 194),en P "__qualname__" a1 (.str a2 a3),en P "__firstlineno__" a4 (.int a5 a6),en P "__static_attributes__" a7 (.ref a8)] 4),#[]⟩
noncomputable def o230:Obj:=h19 P 269 271 "NoLetter" 270 273 13 272 274 78
noncomputable def o236:Obj:=h19 P 285 287 "NoRight" 286 289 15 288 290 90
noncomputable def o248:Obj:=h19 P 237 239 "NoSeat" 238 241 9 240 242 54
noncomputable def o273:Obj:=h19 P 221 223 "NoHouse" 222 225 7 224 226 42
noncomputable def o278:Obj:=h19 P 253 255 "NoAsker" 254 257 11 256 258 66
noncomputable def o331:Obj:=h19 P 203 205 "TreeError" 204 207 5 206 208 29
noncomputable def o232:Obj:=⟨(.type "type"),none,(Data.cls ⟨"TreeError",[(.type "ValueError")],[(.ref 31),(.type "ValueError"),(.type "Exception"),(.type "BaseException"),(.type "object")],30,"TreeError",true,[],[(.ref 44),(.ref 56)],false,none,false⟩),#[(some (.ref 22)),none,(some (.str "TreeError" 196)),(some (.str "TreeError" 204)),(some (.builtin "ValueError.__new__")),(some (.bool true))]⟩
noncomputable def o245:Obj:=⟨(.type "tuple"),none,(Data.seq #[(.str "_law_states" 800),(.str "_law_found" 801),(.str "_law_right" 802),(.str "_law_ranks" 803),(.str "_law_k" 804),(.str "_law_many" 805)] 0),#[]⟩
noncomputable def o250:Obj:=⟨.none,none,(Data.fields #[(.int 1 0),(.int 0 0),(.ref 20),(.int 5 0),(.int 0 0),(.ref 27),(.int 7 0),(.int 0 0),(.ref 40),(.int 9 0),(.int 0 0),(.ref 52),(.int 11 0),(.int 0 0),(.ref 64)]),#[]⟩
noncomputable def o253:Obj:=⟨(.type "dict"),none,(Data.dict #[en P "__name__" 165 (.str "treeright.seats" 334),en P "__doc__" 166 .none,en P "__package__" 167 .none,en P "__loader__" 168 (.builtin "__main__.__loader__#opaque"),en P "__spec__" 169 .none,en P "__annotations__" 170 (.ref 6),en P "__builtins__" 171 (.ref 4),en P "__file__" 173 (.str "/claim/cut.py" 172),en P "__cached__" 174 .none,en P "_wall" 193 (.ref 21),en P "TreeError" 213 (.ref 31),en P "NoHouse" 229 (.ref 44),en P "NoSeat" 245 (.ref 56),en P "NoAsker" 261 (.ref 68),en P "NoLetter" 277 (.ref 80),en P "NoRight" 293 (.ref 92),en P "LETTERS" 297 (.str "abcdefghijklmnopqrstuvwxyz" 296),en P "LONGEST_NAME" 299 (.int 8 298),en P "is_name" 305 (.ref 99),en P "is_whole" 312 (.ref 106),en P "is_one_of" 320 (.ref 113),en P "are_names" 326 (.ref 118),en P "are_unlike" 333 (.ref 125),en P "check_asker" 342 (.ref 132),en P "check_house" 349 (.ref 139),en P "Seat" 502 (.ref 266)] 26),#[]⟩
noncomputable def o262:Obj:=⟨(.type "type"),none,(Data.cls ⟨"TreeError",[(.type "ValueError")],[(.ref 31),(.type "ValueError"),(.type "Exception"),(.type "BaseException"),(.type "object")],30,"TreeError",true,[],[(.ref 44)],false,none,false⟩),#[(some (.ref 22)),none,(some (.str "TreeError" 196)),(some (.str "TreeError" 204)),(some (.builtin "ValueError.__new__")),(some (.bool true))]⟩
noncomputable def o280:Obj:=⟨(.type "dict"),none,(Data.dict #[en P "__name__" 165 (.str "treeright.seats" 334),en P "__doc__" 166 .none,en P "__package__" 167 .none,en P "__loader__" 168 (.builtin "__main__.__loader__#opaque"),en P "__spec__" 169 .none,en P "__annotations__" 170 (.ref 6),en P "__builtins__" 171 (.ref 4),en P "__file__" 173 (.str "/claim/cut.py" 172),en P "__cached__" 174 .none,en P "_wall" 193 (.ref 21),en P "TreeError" 213 (.ref 31),en P "NoHouse" 229 (.ref 44),en P "NoSeat" 245 (.ref 56),en P "NoAsker" 261 (.ref 68),en P "NoLetter" 277 (.ref 80),en P "NoRight" 293 (.ref 92),en P "LETTERS" 297 (.str "abcdefghijklmnopqrstuvwxyz" 296),en P "LONGEST_NAME" 299 (.int 8 298),en P "is_name" 305 (.ref 99),en P "is_whole" 312 (.ref 106),en P "is_one_of" 320 (.ref 113),en P "are_names" 326 (.ref 118),en P "are_unlike" 333 (.ref 125),en P "check_asker" 342 (.ref 132),en P "check_house" 349 (.ref 139)] 25),#[]⟩
noncomputable def o281:Obj:=⟨.none,none,(Data.fields #[(.int 1 0),(.int 0 0),(.ref 20),(.int 5 0),(.int 0 0),(.ref 27),(.int 7 0),(.int 0 0),(.ref 40),(.int 9 0),(.int 0 0),(.ref 52),(.int 11 0),(.int 0 0),(.ref 64),(.int 13 0),(.int 0 0),(.ref 76),(.int 15 0),(.int 0 0),(.ref 88),(.int 20 0),(.int 0 0),(.ref 98),(.int 24 0),(.int 0 0),(.ref 105),(.int 26 0),(.int 0 0),(.ref 112),(.int 28 0),(.int 0 0),(.ref 117),(.int 30 0),(.int 0 0),(.ref 124)]),#[]⟩
noncomputable def o298:Obj:=⟨(.type "dict"),none,(Data.dict #[en P "__module__" 540 (.str "treeright.houses" 503),en P "__firstlineno__" 544 (.int 150 543),en P "__init__" 550 (.ref 306),en P "want" 560 (.ref 313),en P "leave" 569 (.ref 320),en P "done" 578 (.ref 327),en P "ask" 587 (.ref 334),en P "come" 597 (.ref 341),en P "askers" 603 (.ref 346),en P "arrow" 611 (.ref 353),en P "row" 619 (.ref 360),en P "inside" 627 (.ref 367),en P "has_asked" 635 (.ref 374),en P "move_on" 643 (.ref 381),en P "twin" 650 (.ref 388),en P "state" 657 (.ref 395),en P "settle" 666 (.ref 402),en P "rights_wanted" 672 (.ref 407),en P "right_of" 681 (.ref 414),en P "best_right" 687 (.ref 419),en P "check_letter" 696 (.ref 426),en P "__static_attributes__" 700 (.ref 427),en P "__dict__" 702 (.ref 430),en P "__weakref__" 704 (.ref 431),en P "__doc__" 705 .none] 4),#[]⟩
noncomputable def o301:Obj:=⟨.none,none,(Data.fields #[(.int 1 0),(.int 0 0),(.ref 20),(.int 5 0),(.int 0 0),(.ref 27),(.int 7 0),(.int 0 0),(.ref 40),(.int 9 0),(.int 0 0),(.ref 52),(.int 11 0),(.int 0 0),(.ref 64),(.int 13 0),(.int 0 0),(.ref 76),(.int 15 0),(.int 0 0),(.ref 88),(.int 20 0),(.int 0 0),(.ref 98),(.int 24 0),(.int 0 0),(.ref 105),(.int 26 0),(.int 0 0),(.ref 112),(.int 28 0),(.int 0 0),(.ref 117),(.int 30 0),(.int 0 0),(.ref 124),(.int 33 0),(.int 0 0),(.ref 131),(.int 36 0),(.int 0 0),(.ref 138),(.int 39 0),(.int 0 0),(.ref 145),(.int 139 0),(.int 0 0),(.ref 276),(.int 141 0),(.int 0 0),(.ref 281),(.int 145 0),(.int 0 0),(.ref 288),(.int 148 0),(.int 0 0),(.ref 293),(.int 150 0),(.int 0 0),(.ref 300),(.int 237 0),(.int 0 0),(.ref 439),(.int 241 0),(.int 0 0),(.ref 446),(.int 246 0),(.int 0 0),(.ref 453),(.int 248 0),(.int 0 0),(.ref 460),(.int 255 0),(.int 0 0),(.ref 465),(.int 260 0),(.int 0 0),(.ref 470),(.int 268 0),(.int 0 0),(.ref 477),(.int 273 0),(.int 0 0),(.ref 482),(.int 284 0),(.int 0 0),(.ref 489),(.int 286 0),(.int 0 0),(.ref 496),(.int 301 0),(.int 0 0),(.ref 503),(.int 317 0),(.int 0 0),(.ref 510),(.int 327 0),(.int 0 0),(.ref 517)]),#[]⟩
noncomputable def h20 (a0:Nat) (a1:Str) (a2:Nat) (a3:Nat) (a4:Str) (a5:Nat) (a6:Nat) (a7:Int) (a8:Nat) (a9:Nat) (a10:Nat) (a11:Str) (a12:Nat) (a13:Nat) (a14:Str) (a15:Nat) (a16:Nat) (a17:Str) (a18:Nat) (a19:Nat) (a20:Str) (a21:Nat) (a22:Nat) (a23:Str) (a24:Nat) (a25:Nat) (a26:Str) (a27:Nat) (a28:Nat) (a29:Str) (a30:Nat) (a31:Nat) (a32:Str) (a33:Nat) (a34:Nat) (a35:Str) (a36:Nat) (a37:Nat) (a38:Str) (a39:Nat) (a40:Nat):Obj:=⟨(.type "dict"),none,(Data.dict #[en P "__module__" a0 (.str a1 a2),en P "__qualname__" a3 (.str a4 a5),en P "__firstlineno__" a6 (.int a7 a8),en P "__init__" a9 (.ref a10),en P a11 a12 (.ref a13),en P a14 a15 (.ref a16),en P a17 a18 (.ref a19),en P a20 a21 (.ref a22),en P a23 a24 (.ref a25),en P a26 a27 (.ref a28),en P a29 a30 (.ref a31),en P a32 a33 (.ref a34),en P a35 a36 (.ref a37),en P a38 a39 (.ref a40)] 14),#[]⟩
noncomputable def o306:Obj:=h20 P 357 "treeright.seats" 334 359 "Seat" 358 361 39 360 369 153 "arrow" 376 160 "row" 383 167 "inside" 390 174 "has_asked" 397 181 "askers" 403 186 "crowd" 410 193 "twin" 417 200 "state" 424 207 "settle" 432 214 "want" 440 221
noncomputable def o345:Obj:=h20 P 540 "treeright.houses" 503 542 "House" 541 544 150 543 550 306 "want" 560 313 "leave" 569 320 "done" 578 327 "ask" 587 334 "come" 597 341 "askers" 603 346 "arrow" 611 353 "row" 619 360 "inside" 627 367 "has_asked" 635 374
noncomputable def o310:Obj:=⟨.none,none,(Data.fields #[(.int 1 0),(.int 0 0),(.ref 20),(.int 5 0),(.int 0 0),(.ref 27),(.int 7 0),(.int 0 0),(.ref 40),(.int 9 0),(.int 0 0),(.ref 52)]),#[]⟩
noncomputable def o319:Obj:=⟨(.type "dict"),none,(Data.dict #[en P "__name__" 165 (.str "law_treeright_k24_askers_by_name" 708),en P "__doc__" 166 .none,en P "__package__" 167 .none,en P "__loader__" 168 (.builtin "__main__.__loader__#opaque"),en P "__spec__" 169 .none,en P "__annotations__" 170 (.ref 6),en P "__builtins__" 171 (.ref 4),en P "__file__" 173 (.str "/claim/cut.py" 172),en P "__cached__" 174 .none,en P "_wall" 193 (.ref 21),en P "TreeError" 213 (.ref 31),en P "NoHouse" 229 (.ref 44),en P "NoSeat" 245 (.ref 56),en P "NoAsker" 261 (.ref 68),en P "NoLetter" 277 (.ref 80),en P "NoRight" 293 (.ref 92),en P "LETTERS" 297 (.str "abcdefghijklmnopqrstuvwxyz" 296),en P "LONGEST_NAME" 299 (.int 8 298),en P "is_name" 305 (.ref 99),en P "is_whole" 312 (.ref 106),en P "is_one_of" 320 (.ref 113),en P "are_names" 326 (.ref 118),en P "are_unlike" 333 (.ref 125),en P "check_asker" 342 (.ref 132),en P "check_house" 349 (.ref 139),en P "Seat" 502 (.ref 266),en P "are_neighbours" 512 (.ref 277),en P "are_arrows" 518 (.ref 282),en P "check_right" 526 (.ref 289),en P "numbered" 532 (.ref 294),en P "House" 707 (.ref 429),en P "_law_cell_at" 717 (.ref 440),en P "_law_mixed" 726 (.ref 447),en P "_law_digits" 733 (.ref 454),en P "_law_next" 742 (.ref 461),en P "_law_names" 748 (.ref 466),en P "_law_alike" 754 (.ref 471),en P "_law_told" 764 (.ref 478),en P "_law_made" 770 (.ref 483),en P "_law_state" 777 (.ref 490),en P "_law_moved" 786 (.ref 497),en P "_law_made_at" 796 (.ref 504),en P "_law_chosen" 808 (.ref 511),en P "_law_seat_of" 817 (.ref 518)] 44),#[]⟩
noncomputable def o321:Obj:=⟨(.type "dict"),none,(Data.dict #[en P "__module__" 357 (.str "treeright.seats" 334),en P "__firstlineno__" 361 (.int 39 360),en P "__init__" 369 (.ref 153),en P "arrow" 376 (.ref 160),en P "row" 383 (.ref 167),en P "inside" 390 (.ref 174),en P "has_asked" 397 (.ref 181),en P "askers" 403 (.ref 186),en P "crowd" 410 (.ref 193),en P "twin" 417 (.ref 200),en P "state" 424 (.ref 207),en P "settle" 432 (.ref 214),en P "want" 440 (.ref 221),en P "leave" 448 (.ref 228),en P "done" 456 (.ref 235),en P "ask" 464 (.ref 242),en P "come" 473 (.ref 249),en P "move_on" 480 (.ref 256),en P "serve_first" 490 (.ref 263),en P "__static_attributes__" 495 (.ref 264),en P "__dict__" 497 (.ref 267),en P "__weakref__" 499 (.ref 268),en P "__doc__" 500 .none] 4),#[]⟩
noncomputable def o324:Obj:=⟨(.type "type"),none,(Data.cls ⟨"TreeError",[(.type "ValueError")],[(.ref 31),(.type "ValueError"),(.type "Exception"),(.type "BaseException"),(.type "object")],30,"TreeError",true,[],[],false,none,false⟩),#[(some (.ref 22)),none,(some (.str "TreeError" 196)),(some (.str "TreeError" 204)),(some (.builtin "ValueError.__new__")),(some (.bool true))]⟩
noncomputable def o329:Obj:=⟨(.type "dict"),none,(Data.dict #[en P "__name__" 165 (.str "treeright.errors" 194),en P "__doc__" 166 .none,en P "__package__" 167 .none,en P "__loader__" 168 (.builtin "__main__.__loader__#opaque"),en P "__spec__" 169 .none,en P "__annotations__" 170 (.ref 6),en P "__builtins__" 171 (.ref 4),en P "__file__" 173 (.str "/claim/cut.py" 172),en P "__cached__" 174 .none,en P "_wall" 193 (.ref 21),en P "TreeError" 213 (.ref 31),en P "NoHouse" 229 (.ref 44),en P "NoSeat" 245 (.ref 56)] 13),#[]⟩
noncomputable def o351:Obj:=⟨(.type "type"),none,(Data.cls ⟨"TreeError",[(.type "ValueError")],[(.ref 31),(.type "ValueError"),(.type "Exception"),(.type "BaseException"),(.type "object")],30,"TreeError",true,[],[(.ref 44),(.ref 56),(.ref 68),(.ref 80)],false,none,false⟩),#[(some (.ref 22)),none,(some (.str "TreeError" 196)),(some (.str "TreeError" 204)),(some (.builtin "ValueError.__new__")),(some (.bool true))]⟩
noncomputable def o355:Obj:=⟨.none,none,(Data.fields #[(.int 41 0),(.int 4 0),(.ref 152),(.int 49 0),(.int 4 0),(.ref 159),(.int 52 0),(.int 4 0),(.ref 166),(.int 55 0),(.int 4 0),(.ref 173),(.int 58 0),(.int 4 0),(.ref 180),(.int 61 0),(.int 4 0),(.ref 185),(.int 65 0),(.int 4 0),(.ref 192),(.int 68 0),(.int 4 0),(.ref 199),(.int 71 0),(.int 4 0),(.ref 206),(.int 74 0),(.int 4 0),(.ref 213),(.int 77 0),(.int 4 0),(.ref 220),(.int 84 0),(.int 4 0),(.ref 227),(.int 91 0),(.int 4 0),(.ref 234),(.int 98 0),(.int 4 0),(.ref 241),(.int 107 0),(.int 4 0),(.ref 248),(.int 119 0),(.int 4 0),(.ref 255),(.int 129 0),(.int 4 0),(.ref 262)]),#[]⟩
noncomputable def q0:BT:=N o125 (N o10 (N o10 (N o240 (N o282 L L) L) (N o10 L L)) (N o178 (N o191 L L) (N o31 L L))) (N o5 (N o151 (N o263 (N o5 L L) L) (N o5 L L)) (N o10 (N o25 L L) (N o5 L L)))
noncomputable def q1:BT:=N o76 (N (o141 P) (N o5 (N o5 (N o161 L L) L) (N o5 L L)) (N o308 (N o5 L L) (N o10 L L))) (N o338 (N o5 (N o10 L L) (N o215 L L)) (N o5 (N o254 L L) (N o14 L L)))
noncomputable def q2:BT:=N o10 (N o76 (N o252 (N o217 (N o5 L L) L) (N o339 L L)) (N o276 (N o45 L L) (N o5 L L))) (N o5 (N o2 (N o5 (N o332 L L) L) (N o5 L L)) (N o0 (N o192 L L) (N o5 L L)))
noncomputable def q3:BT:=N (o314 P) (N o10 (N o100 (N o10 (N o323 L L) L) (N o299 L L)) (N o5 (N o10 L L) (N o327 L L))) (N o5 (N o10 (N o62 L L) (N o347 L L)) (N o279 (N o5 L L) (N o213 L L)))
noncomputable def q4:BT:=N o76 (N (o255 P) (N o87 (N o241 (N o5 L L) L) (N o81 L L)) (N o10 (N o177 L L) (N o5 L L))) (N o242 (N o40 (N o10 (N o212 L L) L) (N o107 L L)) (N o79 (N o10 L L) (N o320 L L)))
noncomputable def q5:BT:=N o10 (N o76 (N o5 (N o231 (N o129 L L) L) (N o5 L L)) (N o5 (N o13 L L) (N o5 L L))) (N o10 (N o126 (N o5 L L) (N o10 L L)) (N o5 (N o5 L L) (N o10 L L)))
noncomputable def q6:BT:=N (o337 P) (N o10 (N o216 (N o170 (N o305 L L) L) (N o82 L L)) (N o168 (N o5 L L) (N o132 L L))) (N o5 (N o5 (N o147 L L) (N o258 L L)) (N o29 (N o17 L L) (N o5 L L)))
noncomputable def q7:BT:=N o76 (N (o354 P) (N o10 (N o5 (N o5 L L) L) (N o5 L L)) (N o89 (N o5 L L) (N o5 L L))) (N o295 (N o5 (N o10 L L) (N o275 L L)) (N o10 (N o188 L L) (N o245 L L)))
noncomputable def q8:BT:=N (o114 P) (N (boot_o_7 P) (N o5 q0 (q1 P)) (N o135 q2 (q3 P))) (N o5 (N o356 (q4 P) q5) (N o185 (q6 P) (q7 P)))
noncomputable def q9:BT:=N o297 (N o53 (N o5 (N o5 (N o10 L L) L) (N o5 L L)) (N o195 (N o5 L L) (N o10 L L))) (N o59 (N o5 (N o167 (N o302 L L) L) (N o49 L L)) (N o5 (N o96 L L) (N o73 L L)))
noncomputable def q10:BT:=N (o248 P) (N o219 (N o1 (N o243 (N o5 L L) L) (N o142 L L)) (N o10 (N o72 L L) (N o342 L L))) (N o343 (N o149 (N o175 L L) (N o122 L L)) (N o65 (N o10 L L) (N o37 L L)))
noncomputable def q11:BT:=N o244 (N (o230 P) (N o112 (N (o321 P) (N o143 L L) L) (N o334 L L)) (N o5 (N o10 L L) (N o233 L L))) (N o316 (N o10 (N (o74 P) L L) (N o267 L L)) (N o322 (N o5 L L) (N o341 L L)))
noncomputable def q12:BT:=N o288 (N o130 (N o42 (N o228 (N o10 L L) L) (N o10 L L)) (N o317 (N o24 L L) (N o10 L L))) (N o121 (N o54 (N o61 L L) (N o5 L L)) (N o119 (N o157 L L) (N o5 L L)))
noncomputable def q13:BT:=N (o273 P) (N o154 (N o5 (N o260 (N o98 L L) L) (N o5 L L)) (N o5 (N o173 L L) (N o43 L L))) (N o10 (N o120 (N o238 (N o10 L L) L) (N o10 L L)) (N o5 (N o5 L L) (N o10 L L)))
noncomputable def q14:BT:=N o166 (N (o236 P) (N o7 (N o137 (N o68 L L) L) (N o304 L L)) (N o105 (N o139 L L) (N o156 L L))) (N o187 (N o221 (N o109 L L) (N o5 L L)) (N o181 (N o27 L L) (N o5 L L)))
noncomputable def q15:BT:=N o350 (N o197 (N o135 (N o164 (N o10 L L) L) (N o10 L L)) (N o222 (N o9 L L) (N o63 L L))) (N o353 (N o159 (N o22 L L) (N o110 L L)) (N o10 (N o91 L L) (N o259 L L)))
noncomputable def q16:BT:=N (o278 P) (N o203 (N o5 (N o199 (N o256 L L) L) (N o180 L L)) (N o3 (N o249 L L) (N o75 L L))) (N o272 (N o83 (N o5 L L) (N o189 L L)) (N o5 (N o70 L L) (N o190 L L)))
noncomputable def q17:BT:=N (boot_o_5 P) (N (boot_o_9 P) (N o330 q9 (q10 P)) (N o5 (q11 P) q12)) (N o207 (N o312 (q13 P) (q14 P)) (N o5 q15 (q16 P)))
noncomputable def q18:BT:=N o127 (N o214 (N o128 (N o296 (N o5 L L) L) (N o165 L L)) (N o52 (N o106 L L) (N o5 L L))) (N o10 (N o77 (N o270 (N o10 L L) L) (N o10 L L)) (N o172 (N o140 L L) (N o10 L L)))
noncomputable def q19:BT:=N o135 (N o266 (N o355 (N o10 (N o108 L L) L) (N o134 L L)) (N o5 (N o10 L L) (N o193 L L))) (N o15 (N o10 (N o21 L L) (N o336 L L)) (N o113 (N o5 L L) (N o227 L L)))
noncomputable def q20:BT:=N o169 (N o135 (N o5 (N o55 (N o10 L L) L) (N o5 L L)) (N o186 (N o5 L L) (N o10 L L))) (N o220 (N o5 (N o135 (N o196 L L) L) (N o307 L L)) (N o5 (N o99 L L) (N o60 L L)))
noncomputable def q21:BT:=N o325 (N o269 (N o90 (N o303 (N o5 L L) L) (N o5 L L)) (N o10 (N o145 L L) (N o5 L L))) (N o10 (N o46 (N o234 L L) (N o293 L L)) (N o85 (N o10 L L) (N o309 L L)))
noncomputable def q22:BT:=N o135 (N o328 (N o51 (N o5 (N o179 L L) L) (N o313 L L)) (N o48 (N o5 L L) (N o194 L L))) (N o5 (N o5 (N o346 (N o5 L L) L) (N o5 L L)) (N o171 (N o30 L L) (N o5 L L)))
noncomputable def q23:BT:=N o133 (N o135 (N o10 (N o318 (N o5 L L) L) (N o10 L L)) (N o155 (N o44 L L) (N o10 L L))) (N o261 (N o34 (N o10 L L) (N o294 L L)) (N o10 (N o144 L L) (N o86 L L)))
noncomputable def q24:BT:=N o20 (N o315 (N o5 (N o152 (N o5 L L) L) (N o5 L L)) (N o5 (N o92 L L) (N o218 L L))) (N o10 (N o291 (N o211 L L) (N (o298 P) L L)) (N o5 (N o5 L L) (N o10 L L)))
noncomputable def q25:BT:=N o135 (N o292 (N o28 (N o10 (N o300 L L) L) (N o148 L L)) (N o102 (N o10 L L) (N o69 L L))) (N o160 (N o10 (N o138 L L) (N o5 L L)) (N o58 (N o257 L L) (N o5 L L)))
noncomputable def q26:BT:=N (boot_o_4 P) (N (boot_o_8 P) (N o10 q18 q19) (N (o331 P) q20 q21)) (N o118 (N o206 q22 q23) (N o163 (q24 P) q25))
noncomputable def q27:BT:=N o56 (N o5 (N o271 (N o10 (N o41 L L) L) (N o200 L L)) (N o5 (N o10 L L) (N o174 L L))) (N o198 (N o10 (N o5 (N o237 L L) L) (N o348 L L)) (N o283 (N o5 L L) (N o4 L L)))
noncomputable def q28:BT:=N o5 (N o239 (N o311 (N o5 (N o10 L L) L) (N o32 L L)) (N o162 (N o5 L L) (N o33 L L))) (N o5 (N o5 (N o223 L L) (N o5 L L)) (N o78 (N o183 L L) (N o5 L L)))
noncomputable def q29:BT:=N o5 (N o5 (N o224 (N o326 (N o19 L L) L) (N o115 L L)) (N o10 (N o131 L L) (N o5 L L))) (N o344 (N o246 (N o5 L L) (N o80 L L)) (N o93 (N o10 L L) (N o6 L L)))
noncomputable def q30:BT:=N o84 (N o5 (N o5 (N o352 (N o146 L L) L) (N o57 L L)) (N o5 (N o265 L L) (N o117 L L))) (N o5 (N o47 (N o5 L L) (N o10 L L)) (N o5 (N o5 L L) (N o10 L L)))
noncomputable def q31:BT:=N o5 (N o285 (N o10 (N o103 (N o340 L L) L) (N o10 L L)) (N o36 (N o35 L L) (N o287 L L))) (N o136 (N o176 (N o349 (N o150 L L) L) (N o264 L L)) (N o10 (N o95 L L) (N o251 L L)))
noncomputable def q32:BT:=N o5 (N o5 (N o5 (N o5 (N o333 L L) L) (N o101 L L)) (N o50 (N o5 L L) (N o16 L L))) (N o209 (N o5 (N o5 L L) (N o23 L L)) (N o5 (N o268 L L) (N o153 L L)))
noncomputable def q33:BT:=N o277 (N o5 (N (o201 P) (N o111 (N o284 L L) L) (N o210 L L)) (N o182 (N o184 L L) (N o5 L L))) (N o5 (N o274 (N o5 L L) (N o290 L L)) (N o247 (N o226 L L) (N o5 L L)))
noncomputable def q34:BT:=N o5 (N o286 (N o12 (N o5 (N o208 L L) L) (N o202 L L)) (N o5 (N o5 L L) (N o289 L L))) (N o5 (N o5 (N o26 L L) (N o335 L L)) (N o235 (N o5 L L) (N o116 L L)))
noncomputable def q35:BT:=N (boot_o_6 P) (N (boot_o_10 P) (N o5 q27 q28) (N o10 q29 q30)) (N o94 (N o104 q31 q32) (N (o38 P) (q33 P) q34))
noncomputable def t788 (P:Params):BT:=(N (boot_o_0 P) (N (boot_o_1 P) (q8 P) (q17 P)) (N (boot_o_2 P) (q26 P) (q35 P)))
noncomputable def q36:BT:=N (o225 P) (N (boot_o_7 P) (N o5 (N o262 L L) L) (N o135 (N o10 L L) L)) (N o5 (N o356 (N o76 L L) L) (N o185 (N (o337 P) L L) L))
noncomputable def q37:BT:=N (boot_o_5 P) (N (boot_o_9 P) (N o330 (N o297 L L) L) (N o5 (N o244 L L) L)) (N o207 (N o312 (N (o273 P) L L) L) (N o5 (N o350 L L) L))
noncomputable def q38:BT:=N (boot_o_4 P) (N (boot_o_8 P) (N o10 (N o127 L L) L) (N (o331 P) (N o169 L L) L)) (N o8 (N o206 (N o135 L L) L) (N o163 (N o20 L L) L))
noncomputable def q39:BT:=N (boot_o_6 P) (N (boot_o_10 P) (N o5 (N o56 L L) L) (N o10 (N o5 L L) L)) (N o94 (N o104 (N o5 L L) L) (N (o38 P) (N o277 L L) L))
noncomputable def t85 (P:Params):BT:=(N (boot_o_0 P) (N (boot_o_1 P) (q36 P) (q37 P)) (N (boot_o_2 P) (q38 P) (q39 P)))
noncomputable def q40:BT:=N (boot_o_7 P) (N o5 (N o125 (N o10 (N o10 L L) L) (N o5 L L)) (N o76 (N (o141 P) L L) (N o338 L L))) (N o135 (N o10 (N o76 (N o252 L L) L) (N o5 L L)) (N (o314 P) (N o10 L L) (N o5 L L)))
noncomputable def q41:BT:=N o5 (N o356 (N o76 (N (o255 P) (N o87 L L) L) (N o242 L L)) (N o10 (N o76 L L) (N o10 L L))) (N o185 (N (o337 P) (N o10 (N o216 L L) L) (N o5 L L)) (N o76 (N (o354 P) L L) (N o295 L L)))
noncomputable def q42:BT:=N (boot_o_9 P) (N o330 (N o297 (N o53 (N o5 L L) L) (N o59 L L)) (N (o248 P) (N o219 L L) (N o343 L L))) (N o5 (N o244 (N (o230 P) (N o112 L L) L) (N o316 L L)) (N o288 (N o130 L L) (N o121 L L)))
noncomputable def q43:BT:=N o207 (N o312 (N (o273 P) (N o154 (N o5 L L) L) (N o10 L L)) (N o166 (N (o236 P) L L) (N o187 L L))) (N o5 (N o350 (N o197 L L) (N o353 L L)) (N (o278 P) (N o203 L L) (N o272 L L)))
noncomputable def q44:BT:=N (boot_o_8 P) (N o10 (N o127 (N o214 (N o128 L L) L) (N o10 L L)) (N o135 (N o266 L L) (N o15 L L))) (N (o331 P) (N o169 (N o135 (N o5 L L) L) (N o220 L L)) (N o325 (N o269 L L) (N o10 L L)))
noncomputable def q45:BT:=N o64 (N o206 (N o135 (N o328 (N o51 L L) L) (N o5 L L)) (N o133 (N o135 L L) (N o261 L L))) (N o163 (N o20 (N o315 L L) (N o10 L L)) (N o135 (N o292 L L) (N o160 L L)))
noncomputable def q46:BT:=N (boot_o_10 P) (N o5 (N o56 (N o5 (N o271 L L) L) (N o198 L L)) (N o5 (N o239 L L) (N o5 L L))) (N o10 (N o5 (N o5 (N o224 L L) L) (N o344 L L)) (N o84 (N o5 L L) (N o5 L L)))
noncomputable def q47:BT:=N o94 (N o104 (N o5 (N o285 (N o10 L L) L) (N o136 L L)) (N o5 (N o5 L L) (N o209 L L))) (N (o38 P) (N o277 (N o5 L L) (N o5 L L)) (N o5 (N o286 L L) (N o5 L L)))
noncomputable def q48:BT:=N (boot_o_0 P) (N (boot_o_1 P) (N (o280 P) (q40 P) (q41 P)) (N (boot_o_5 P) (q42 P) (q43 P))) (N (boot_o_2 P) (N (boot_o_4 P) (q44 P) q45) (N (boot_o_6 P) (q46 P) (q47 P)))
noncomputable def t192 (P:Params):BT:=(q48 P)
noncomputable def q49:BT:=N (o329 P) (N (boot_o_7 P) (N o5 (N o232 L L) (N o76 L L)) (N o135 (N o10 L L) (N (o314 P) L L))) (N o5 (N o356 (N o76 L L) (N o10 L L)) (N o185 (N (o337 P) L L) L))
noncomputable def q50:BT:=N (boot_o_5 P) (N (boot_o_9 P) (N o330 (N o297 L L) (N (o248 P) L L)) (N o5 (N o244 L L) (N o288 L L))) (N o207 (N o312 (N (o273 P) L L) (N o166 L L)) (N o5 (N o350 L L) L))
noncomputable def q51:BT:=N (boot_o_4 P) (N (boot_o_8 P) (N o10 (N o127 L L) (N o135 L L)) (N (o331 P) (N o169 L L) (N o325 L L))) (N o310 (N o206 (N o135 L L) (N o133 L L)) (N o163 (N o20 L L) L))
noncomputable def q52:BT:=N (boot_o_6 P) (N (boot_o_10 P) (N o5 (N o56 L L) (N o5 L L)) (N o10 (N o5 L L) (N o84 L L))) (N o94 (N o104 (N o5 L L) (N o5 L L)) (N (o38 P) (N o277 L L) L))
noncomputable def t100 (P:Params):BT:=(N (boot_o_0 P) (N (boot_o_1 P) (q49 P) (q50 P)) (N (boot_o_2 P) (q51 P) (q52 P)))
noncomputable def q53:BT:=N (o124 P) (N (boot_o_7 P) (N o5 (N o66 (N o10 L L) L) (N o76 L L)) (N o135 (N o10 L L) (N (o314 P) L L))) (N o5 (N o356 (N o76 (N (o255 P) L L) L) (N o10 L L)) (N o185 (N (o337 P) L L) (N o76 L L)))
noncomputable def q54:BT:=N (boot_o_5 P) (N (boot_o_9 P) (N o330 (N o297 (N o53 L L) L) (N (o248 P) L L)) (N o5 (N o244 L L) (N o288 L L))) (N o207 (N o312 (N (o273 P) (N o154 L L) L) (N o166 L L)) (N o5 (N o350 L L) (N (o278 P) L L)))
noncomputable def q55:BT:=N (boot_o_4 P) (N (boot_o_8 P) (N o10 (N o127 (N o214 L L) L) (N o135 L L)) (N (o331 P) (N o169 L L) (N o325 L L))) (N o250 (N o206 (N o135 (N o328 L L) L) (N o133 L L)) (N o163 (N o20 L L) (N o135 L L)))
noncomputable def q56:BT:=N (boot_o_6 P) (N (boot_o_10 P) (N o5 (N o56 (N o5 L L) L) (N o5 L L)) (N o10 (N o5 L L) (N o84 L L))) (N o94 (N o104 (N o5 (N o285 L L) L) (N o5 L L)) (N (o38 P) (N o277 L L) (N o5 L L)))
noncomputable def t115 (P:Params):BT:=(N (boot_o_0 P) (N (boot_o_1 P) (q53 P) (q54 P)) (N (boot_o_2 P) (q55 P) (q56 P)))
def e46_0 (P:Params) (t:List Obj):List Obj:=(boot_o_0 P) :: (boot_o_1 P) :: (boot_o_2 P) :: (boot_o_3 P) :: (boot_o_4 P) :: (boot_o_5 P) :: (boot_o_6 P) :: (boot_o_7 P) :: (boot_o_8 P) :: (boot_o_9 P) :: (boot_o_10 P) :: o5 :: o10 :: o207 :: o94 :: t
noncomputable def e46 (P:Params):Heap:=⟨⟨(e46_0 P [])⟩,⟨[],[],[],0,[],[],false,#[],[],0,false,false,false,0,[2000,10,10],false,0,true,[],[],0,false⟩⟩
noncomputable def q57:BT:=N (boot_o_7 P) (N o5 (N o125 (N o10 L L) (N o5 L L)) (N o76 (N (o141 P) L L) (N o338 L L))) (N o135 (N o10 (N o76 L L) (N o5 L L)) (N (o314 P) (N o10 L L) (N o5 L L)))
noncomputable def q58:BT:=N o5 (N o356 (N o76 (N (o255 P) L L) (N o242 L L)) (N o10 (N o76 L L) (N o10 L L))) (N o185 (N (o337 P) (N o10 L L) (N o5 L L)) (N o76 (N (o354 P) L L) (N o295 L L)))
noncomputable def q59:BT:=N (boot_o_9 P) (N o330 (N o297 (N o53 L L) (N o59 L L)) (N (o248 P) (N o219 L L) (N o343 L L))) (N o5 (N o244 (N (o230 P) L L) (N o316 L L)) (N o288 (N o130 L L) (N o121 L L)))
noncomputable def q60:BT:=N o207 (N o312 (N (o273 P) (N o154 L L) (N o10 L L)) (N o166 (N (o236 P) L L) (N o187 L L))) (N o5 (N o350 (N o197 L L) (N o353 L L)) (N (o278 P) (N o203 L L) (N o272 L L)))
noncomputable def q61:BT:=N (boot_o_8 P) (N o10 (N o127 (N o214 L L) (N o10 L L)) (N o135 (N o266 L L) (N o15 L L))) (N (o331 P) (N o169 (N o135 L L) (N o220 L L)) (N o325 (N o269 L L) (N o10 L L)))
noncomputable def q62:BT:=N o281 (N o206 (N o135 (N o328 L L) (N o5 L L)) (N o133 (N o135 L L) (N o261 L L))) (N o163 (N o20 (N o315 L L) (N o10 L L)) (N o135 (N o292 L L) (N o160 L L)))
noncomputable def q63:BT:=N (boot_o_10 P) (N o5 (N o56 (N o5 L L) (N o198 L L)) (N o5 (N o239 L L) (N o5 L L))) (N o10 (N o5 (N o5 L L) (N o344 L L)) (N o84 (N o5 L L) (N o5 L L)))
noncomputable def q64:BT:=N o94 (N o104 (N o5 (N o285 L L) (N o136 L L)) (N o5 (N o5 L L) (N o209 L L))) (N (o38 P) (N o277 (N o5 L L) (N o5 L L)) (N o5 (N o286 L L) L))
noncomputable def q65:BT:=N (boot_o_0 P) (N (boot_o_1 P) (N (o11 P) (q57 P) (q58 P)) (N (boot_o_5 P) (q59 P) (q60 P))) (N (boot_o_2 P) (N (boot_o_4 P) (q61 P) q62) (N (boot_o_6 P) (q63 P) (q64 P)))
noncomputable def t176 (P:Params):BT:=(q65 P)
noncomputable def q66:BT:=N o125 (N o10 (N o10 (N o240 (N o282 L L) L) (N o10 L L)) (N o178 (N o191 L L) (N o31 L L))) (N o5 (N o151 (N o263 L L) (N o5 L L)) (N o10 (N o25 L L) (N o5 L L)))
noncomputable def q67:BT:=N o76 (N (o141 P) (N o5 (N o5 L L) (N o5 L L)) (N o308 (N o5 L L) (N o10 L L))) (N o338 (N o5 (N o10 L L) (N o215 L L)) (N o5 (N o254 L L) (N o14 L L)))
noncomputable def q68:BT:=N o10 (N o76 (N o252 (N o217 L L) (N o339 L L)) (N o276 (N o45 L L) (N o5 L L))) (N o5 (N o2 (N o5 L L) (N o5 L L)) (N o0 (N o192 L L) (N o5 L L)))
noncomputable def q69:BT:=N (o314 P) (N o10 (N o100 (N o10 L L) (N o299 L L)) (N o5 (N o10 L L) (N o327 L L))) (N o5 (N o10 (N o62 L L) (N o347 L L)) (N o279 (N o5 L L) (N o213 L L)))
noncomputable def q70:BT:=N o76 (N (o255 P) (N o87 (N o241 (N o5 L L) L) (N o81 L L)) (N o10 (N o177 L L) (N o5 L L))) (N o242 (N o40 (N o10 L L) (N o107 L L)) (N o79 (N o10 L L) (N o320 L L)))
noncomputable def q71:BT:=N o10 (N o76 (N o5 (N o231 L L) (N o5 L L)) (N o5 (N o13 L L) (N o5 L L))) (N o10 (N o126 (N o5 L L) (N o10 L L)) (N o5 (N o5 L L) (N o10 L L)))
noncomputable def q72:BT:=N (o337 P) (N o10 (N o216 (N o170 L L) (N o82 L L)) (N o168 (N o5 L L) (N o132 L L))) (N o5 (N o5 (N o147 L L) (N o258 L L)) (N o29 (N o17 L L) (N o5 L L)))
noncomputable def q73:BT:=N o76 (N (o354 P) (N o10 (N o5 L L) (N o5 L L)) (N o89 (N o5 L L) (N o5 L L))) (N o295 (N o5 (N o10 L L) (N o275 L L)) (N o10 (N o188 L L) (N o245 L L)))
noncomputable def q74:BT:=N (o319 P) (N (boot_o_7 P) (N o5 q66 (q67 P)) (N o135 q68 (q69 P))) (N o5 (N o356 (q70 P) q71) (N o185 (q72 P) (q73 P)))
noncomputable def q75:BT:=N o297 (N o53 (N o5 (N o5 (N o10 L L) L) (N o5 L L)) (N o195 (N o5 L L) (N o10 L L))) (N o59 (N o5 (N o167 L L) (N o49 L L)) (N o5 (N o96 L L) (N o73 L L)))
noncomputable def q76:BT:=N (o248 P) (N o219 (N o1 (N o243 L L) (N o142 L L)) (N o10 (N o72 L L) (N o342 L L))) (N o343 (N o149 (N o175 L L) (N o122 L L)) (N o65 (N o10 L L) (N o37 L L)))
noncomputable def q77:BT:=N o244 (N (o230 P) (N o112 (N (o321 P) L L) (N o334 L L)) (N o5 (N o10 L L) (N o233 L L))) (N o316 (N o10 (N (o74 P) L L) (N o267 L L)) (N o322 (N o5 L L) (N o341 L L)))
noncomputable def q78:BT:=N o288 (N o130 (N o42 (N o228 L L) (N o10 L L)) (N o317 (N o24 L L) (N o10 L L))) (N o121 (N o54 (N o61 L L) (N o5 L L)) (N o119 (N o157 L L) (N o5 L L)))
noncomputable def q79:BT:=N (o273 P) (N o154 (N o5 (N o260 (N o98 L L) L) (N o5 L L)) (N o5 (N o173 L L) (N o43 L L))) (N o10 (N o120 (N o238 L L) (N o10 L L)) (N o5 (N o5 L L) (N o10 L L)))
noncomputable def q80:BT:=N o166 (N (o236 P) (N o7 (N o137 L L) (N o304 L L)) (N o105 (N o139 L L) (N o156 L L))) (N o187 (N o221 (N o109 L L) (N o5 L L)) (N o181 (N o27 L L) (N o5 L L)))
noncomputable def q81:BT:=N o350 (N o197 (N o135 (N o164 L L) (N o10 L L)) (N o222 (N o9 L L) (N o63 L L))) (N o353 (N o159 (N o22 L L) (N o110 L L)) (N o10 (N o91 L L) (N o259 L L)))
noncomputable def q82:BT:=N (o278 P) (N o203 (N o5 (N o199 L L) (N o180 L L)) (N o3 (N o249 L L) (N o75 L L))) (N o272 (N o83 (N o5 L L) (N o189 L L)) (N o5 (N o70 L L) (N o190 L L)))
noncomputable def q83:BT:=N (boot_o_5 P) (N (boot_o_9 P) (N o330 q75 (q76 P)) (N o5 (q77 P) q78)) (N o207 (N o312 (q79 P) (q80 P)) (N o5 q81 (q82 P)))
noncomputable def q84:BT:=N o127 (N o214 (N o128 (N o296 (N o5 L L) L) (N o165 L L)) (N o52 (N o106 L L) (N o5 L L))) (N o10 (N o77 (N o270 L L) (N o10 L L)) (N o172 (N o140 L L) (N o10 L L)))
noncomputable def q85:BT:=N o135 (N o266 (N o355 (N o10 L L) (N o134 L L)) (N o5 (N o10 L L) (N o193 L L))) (N o15 (N o10 (N o21 L L) (N o336 L L)) (N o113 (N o5 L L) (N o227 L L)))
noncomputable def q86:BT:=N o169 (N o135 (N o5 (N o55 L L) (N o5 L L)) (N o186 (N o5 L L) (N o10 L L))) (N o220 (N o5 (N o135 L L) (N o307 L L)) (N o5 (N o99 L L) (N o60 L L)))
noncomputable def q87:BT:=N o325 (N o269 (N o90 (N o303 L L) (N o5 L L)) (N o10 (N o145 L L) (N o5 L L))) (N o10 (N o46 (N o234 L L) (N o293 L L)) (N o85 (N o10 L L) (N o309 L L)))
noncomputable def q88:BT:=N o135 (N o328 (N o51 (N o5 (N o179 L L) L) (N o313 L L)) (N o48 (N o5 L L) (N o194 L L))) (N o5 (N o5 (N o346 L L) (N o5 L L)) (N o171 (N o30 L L) (N o5 L L)))
noncomputable def q89:BT:=N o133 (N o135 (N o10 (N o318 L L) (N o10 L L)) (N o155 (N o44 L L) (N o10 L L))) (N o261 (N o34 (N o10 L L) (N o294 L L)) (N o10 (N o144 L L) (N o86 L L)))
noncomputable def q90:BT:=N o20 (N o315 (N o5 (N o152 L L) (N o5 L L)) (N o5 (N o92 L L) (N o218 L L))) (N o10 (N o291 (N o211 L L) (N (o298 P) L L)) (N o5 (N o5 L L) (N o10 L L)))
noncomputable def q91:BT:=N o135 (N o292 (N o28 (N o10 L L) (N o148 L L)) (N o102 (N o10 L L) (N o69 L L))) (N o160 (N o10 (N o138 L L) (N o5 L L)) (N o58 (N o257 L L) (N o5 L L)))
noncomputable def q92:BT:=N (boot_o_4 P) (N (boot_o_8 P) (N o10 q84 q85) (N (o331 P) q86 q87)) (N o301 (N o206 q88 q89) (N o163 (q90 P) q91))
noncomputable def q93:BT:=N o56 (N o5 (N o271 (N o10 (N o41 L L) L) (N o200 L L)) (N o5 (N o10 L L) (N o174 L L))) (N o198 (N o10 (N o5 L L) (N o348 L L)) (N o283 (N o5 L L) (N o4 L L)))
noncomputable def q94:BT:=N o5 (N o239 (N o311 (N o5 L L) (N o32 L L)) (N o162 (N o5 L L) (N o33 L L))) (N o5 (N o5 (N o223 L L) (N o5 L L)) (N o78 (N o183 L L) (N o5 L L)))
noncomputable def q95:BT:=N o5 (N o5 (N o224 (N o326 L L) (N o115 L L)) (N o10 (N o131 L L) (N o5 L L))) (N o344 (N o246 (N o5 L L) (N o80 L L)) (N o93 (N o10 L L) (N o6 L L)))
noncomputable def q96:BT:=N o84 (N o5 (N o5 (N o352 L L) (N o57 L L)) (N o5 (N o265 L L) (N o117 L L))) (N o5 (N o47 (N o5 L L) (N o10 L L)) (N o5 (N o5 L L) (N o10 L L)))
noncomputable def q97:BT:=N o5 (N o285 (N o10 (N o103 (N o340 L L) L) (N o10 L L)) (N o36 (N o35 L L) (N o287 L L))) (N o136 (N o176 (N o349 L L) (N o264 L L)) (N o10 (N o95 L L) (N o251 L L)))
noncomputable def q98:BT:=N o5 (N o5 (N o5 (N o5 L L) (N o101 L L)) (N o50 (N o5 L L) (N o16 L L))) (N o209 (N o5 (N o5 L L) (N o23 L L)) (N o5 (N o268 L L) (N o153 L L)))
noncomputable def q99:BT:=N o277 (N o5 (N (o201 P) (N o111 L L) (N o210 L L)) (N o182 (N o184 L L) (N o5 L L))) (N o5 (N o274 (N o5 L L) (N o290 L L)) (N o247 (N o226 L L) (N o5 L L)))
noncomputable def q100:BT:=N o5 (N o286 (N o12 (N o5 L L) (N o202 L L)) (N o5 (N o5 L L) (N o289 L L))) (N o5 (N o5 (N o26 L L) (N o335 L L)) (N o235 (N o5 L L) (N o116 L L)))
noncomputable def q101:BT:=N (boot_o_6 P) (N (boot_o_10 P) (N o5 q93 q94) (N o10 q95 q96)) (N o94 (N o104 q97 q98) (N (o38 P) (q99 P) q100))
noncomputable def t752 (P:Params):BT:=(N (boot_o_0 P) (N (boot_o_1 P) (q74 P) (q83 P)) (N (boot_o_2 P) (q92 P) (q101 P)))
noncomputable def q102:BT:=N o125 (N o10 (N o10 (N o240 L L) (N o10 L L)) (N o178 (N o191 L L) L)) (N o5 (N o151 (N o263 L L) (N o5 L L)) (N o10 (N o25 L L) L))
noncomputable def q103:BT:=N o76 (N (o141 P) (N o5 (N o5 L L) (N o5 L L)) (N o308 (N o5 L L) L)) (N o338 (N o5 (N o10 L L) (N o215 L L)) (N o5 (N o254 L L) L))
noncomputable def q104:BT:=N o10 (N o76 (N o252 (N o217 L L) (N o339 L L)) (N o276 (N o45 L L) L)) (N o5 (N o2 (N o5 L L) (N o5 L L)) (N o0 (N o192 L L) L))
noncomputable def q105:BT:=N (o314 P) (N o10 (N o100 (N o10 L L) (N o299 L L)) (N o5 (N o10 L L) L)) (N o5 (N o10 (N o62 L L) L) (N o279 (N o5 L L) L))
noncomputable def q106:BT:=N o76 (N (o255 P) (N o87 (N o241 L L) (N o81 L L)) (N o10 (N o177 L L) L)) (N o242 (N o40 (N o10 L L) (N o107 L L)) (N o79 (N o10 L L) L))
noncomputable def q107:BT:=N o10 (N o76 (N o5 (N o231 L L) (N o5 L L)) (N o5 (N o13 L L) L)) (N o10 (N o126 (N o5 L L) L) (N o5 (N o5 L L) L))
noncomputable def q108:BT:=N (o337 P) (N o10 (N o216 (N o170 L L) (N o82 L L)) (N o168 (N o5 L L) L)) (N o5 (N o5 (N o147 L L) (N o258 L L)) (N o29 (N o17 L L) L))
noncomputable def q109:BT:=N o76 (N (o354 P) (N o10 (N o5 L L) (N o5 L L)) (N o89 (N o5 L L) L)) (N o295 (N o5 (N o10 L L) L) (N o10 (N o188 L L) L))
noncomputable def q110:BT:=N (o204 P) (N (boot_o_7 P) (N o5 q102 (q103 P)) (N o135 q104 (q105 P))) (N o5 (N o356 (q106 P) q107) (N o185 (q108 P) (q109 P)))
noncomputable def q111:BT:=N o297 (N o53 (N o5 (N o5 L L) (N o5 L L)) (N o195 (N o5 L L) L)) (N o59 (N o5 (N o167 L L) (N o49 L L)) (N o5 (N o96 L L) L))
noncomputable def q112:BT:=N (o248 P) (N o219 (N o1 (N o243 L L) (N o142 L L)) (N o10 (N o72 L L) L)) (N o343 (N o149 (N o175 L L) (N o122 L L)) (N o65 (N o10 L L) L))
noncomputable def q113:BT:=N o244 (N (o230 P) (N o112 (N (o321 P) L L) (N o334 L L)) (N o5 (N o10 L L) L)) (N o316 (N o10 (N (o74 P) L L) (N o267 L L)) (N o322 (N o5 L L) L))
noncomputable def q114:BT:=N o288 (N o130 (N o42 (N o228 L L) (N o10 L L)) (N o317 (N o24 L L) L)) (N o121 (N o54 (N o61 L L) L) (N o119 (N o157 L L) L))
noncomputable def q115:BT:=N (o273 P) (N o154 (N o5 (N o260 L L) (N o5 L L)) (N o5 (N o173 L L) L)) (N o10 (N o120 (N o238 L L) (N o10 L L)) (N o5 (N o5 L L) L))
noncomputable def q116:BT:=N o166 (N (o236 P) (N o7 (N o137 L L) (N o304 L L)) (N o105 (N o139 L L) L)) (N o187 (N o221 (N o109 L L) L) (N o181 (N o27 L L) L))
noncomputable def q117:BT:=N o350 (N o197 (N o135 (N o164 L L) (N o10 L L)) (N o222 (N o9 L L) L)) (N o353 (N o159 (N o22 L L) (N o110 L L)) (N o10 (N o91 L L) L))
noncomputable def q118:BT:=N (o278 P) (N o203 (N o5 (N o199 L L) (N o180 L L)) (N o3 (N o249 L L) L)) (N o272 (N o83 (N o5 L L) L) (N o5 (N o70 L L) L))
noncomputable def q119:BT:=N (boot_o_5 P) (N (boot_o_9 P) (N o330 q111 (q112 P)) (N o5 (q113 P) q114)) (N o207 (N o312 (q115 P) (q116 P)) (N o5 q117 (q118 P)))
noncomputable def q120:BT:=N o127 (N o214 (N o128 (N o296 L L) (N o165 L L)) (N o52 (N o106 L L) L)) (N o10 (N o77 (N o270 L L) (N o10 L L)) (N o172 (N o140 L L) L))
noncomputable def q121:BT:=N o135 (N o266 (N o355 (N o10 L L) (N o134 L L)) (N o5 (N o10 L L) L)) (N o15 (N o10 (N o21 L L) (N o336 L L)) (N o113 (N o5 L L) L))
noncomputable def q122:BT:=N o169 (N o135 (N o5 (N o55 L L) (N o5 L L)) (N o186 (N o5 L L) L)) (N o220 (N o5 (N o135 L L) (N o307 L L)) (N o5 (N o99 L L) L))
noncomputable def q123:BT:=N o325 (N o269 (N o90 (N o303 L L) (N o5 L L)) (N o10 (N o145 L L) L)) (N o10 (N o46 (N o234 L L) L) (N o85 (N o10 L L) L))
noncomputable def q124:BT:=N o135 (N o328 (N o51 (N o5 L L) (N o313 L L)) (N o48 (N o5 L L) L)) (N o5 (N o5 (N o346 L L) (N o5 L L)) (N o171 (N o30 L L) L))
noncomputable def q125:BT:=N o133 (N o135 (N o10 (N o318 L L) (N o10 L L)) (N o155 (N o44 L L) L)) (N o261 (N o34 (N o10 L L) L) (N o10 (N o144 L L) L))
noncomputable def q126:BT:=N o20 (N o315 (N o5 (N o152 L L) (N o5 L L)) (N o5 (N o92 L L) L)) (N o10 (N o291 (N o211 L L) (N (o298 P) L L)) (N o5 (N o5 L L) L))
noncomputable def q127:BT:=N o135 (N o292 (N o28 (N o10 L L) (N o148 L L)) (N o102 (N o10 L L) L)) (N o160 (N o10 (N o138 L L) L) (N o58 (N o257 L L) L))
noncomputable def q128:BT:=N (boot_o_4 P) (N (boot_o_8 P) (N o10 q120 q121) (N (o331 P) q122 q123)) (N o71 (N o206 q124 q125) (N o163 (q126 P) q127))
noncomputable def q129:BT:=N o56 (N o5 (N o271 (N o10 L L) (N o200 L L)) (N o5 (N o10 L L) L)) (N o198 (N o10 (N o5 L L) (N o348 L L)) (N o283 (N o5 L L) L))
noncomputable def q130:BT:=N o5 (N o239 (N o311 (N o5 L L) (N o32 L L)) (N o162 (N o5 L L) L)) (N o5 (N o5 (N o223 L L) L) (N o78 (N o183 L L) L))
noncomputable def q131:BT:=N o5 (N o5 (N o224 (N o326 L L) (N o115 L L)) (N o10 (N o131 L L) L)) (N o344 (N o246 (N o5 L L) (N o80 L L)) (N o93 (N o10 L L) L))
noncomputable def q132:BT:=N o84 (N o5 (N o5 (N o352 L L) (N o57 L L)) (N o5 (N o265 L L) L)) (N o5 (N o47 (N o5 L L) L) (N o5 (N o5 L L) L))
noncomputable def q133:BT:=N o5 (N o285 (N o10 (N o103 L L) (N o10 L L)) (N o36 (N o35 L L) L)) (N o136 (N o176 (N o349 L L) (N o264 L L)) (N o10 (N o95 L L) L))
noncomputable def q134:BT:=N o5 (N o5 (N o5 (N o5 L L) (N o101 L L)) (N o50 (N o5 L L) L)) (N o209 (N o5 (N o5 L L) L) (N o5 (N o268 L L) L))
noncomputable def q135:BT:=N o277 (N o5 (N (o201 P) (N o111 L L) (N o210 L L)) (N o182 (N o184 L L) L)) (N o5 (N o274 (N o5 L L) (N o290 L L)) (N o247 (N o226 L L) L))
noncomputable def q136:BT:=N o5 (N o286 (N o12 (N o5 L L) (N o202 L L)) (N o5 (N o5 L L) L)) (N o5 (N o5 (N o26 L L) L) (N o235 (N o5 L L) L))
noncomputable def q137:BT:=N (boot_o_6 P) (N (boot_o_10 P) (N o5 q129 q130) (N o10 q131 q132)) (N o94 (N o104 q133 q134) (N (o38 P) (q135 P) q136))
noncomputable def t581 (P:Params):BT:=(N (boot_o_0 P) (N (boot_o_1 P) (q110 P) (q119 P)) (N (boot_o_2 P) (q128 P) (q137 P)))
def e789_0 (P:Params) (t:List Obj):List Obj:=(boot_o_0 P) :: (boot_o_1 P) :: (boot_o_2 P) :: (o114 P) :: (boot_o_4 P) :: (boot_o_5 P) :: (boot_o_6 P) :: (boot_o_7 P) :: (boot_o_8 P) :: (boot_o_9 P) :: (boot_o_10 P) :: o5 :: o118 :: o207 :: o94 :: t
def e789_1 (P:Params) (t:List Obj):List Obj:=o5 :: o10 :: o330 :: o5 :: o356 :: o206 :: o312 :: o104 :: o135 :: (o331 P) :: o5 :: o10 :: o185 :: o163 :: o5 :: t
def e789_2 (P:Params) (t:List Obj):List Obj:=(o38 P) :: o125 :: o127 :: o297 :: o56 :: o76 :: o135 :: (o273 P) :: o5 :: o10 :: o169 :: o244 :: o5 :: (o337 P) :: o20 :: t
def e789_3 (P:Params) (t:List Obj):List Obj:=o350 :: o277 :: o76 :: o135 :: (o248 P) :: o5 :: o10 :: o133 :: o166 :: o5 :: (o314 P) :: o325 :: o288 :: o84 :: o76 :: t
def e789_4 (P:Params) (t:List Obj):List Obj:=o135 :: (o278 P) :: o5 :: o10 :: o214 :: o53 :: o5 :: (o255 P) :: o328 :: o154 :: o285 :: o76 :: o135 :: (o230 P) :: o5 :: t
def e789_5 (P:Params) (t:List Obj):List Obj:=o10 :: o315 :: o197 :: o5 :: (o141 P) :: o266 :: o219 :: o239 :: o76 :: o135 :: (o236 P) :: o5 :: o10 :: o269 :: o130 :: t
def e789_6 (P:Params) (t:List Obj):List Obj:=o5 :: (o354 P) :: o292 :: o203 :: o286 :: o5 :: o10 :: o59 :: o198 :: o242 :: o5 :: o10 :: o136 :: o5 :: o220 :: t
def e789_7 (P:Params) (t:List Obj):List Obj:=o316 :: o344 :: o5 :: o10 :: o353 :: o5 :: o338 :: o15 :: o343 :: o5 :: o10 :: o261 :: o187 :: o209 :: o5 :: t
def e789_8 (P:Params) (t:List Obj):List Obj:=o10 :: o121 :: o5 :: o295 :: o160 :: o272 :: o5 :: o10 :: o128 :: o5 :: o271 :: o87 :: o51 :: o5 :: o10 :: t
def e789_9 (P:Params) (t:List Obj):List Obj:=o252 :: o5 :: o112 :: o224 :: o216 :: o5 :: o135 :: (o201 P) :: o5 :: o355 :: o1 :: o311 :: o5 :: o10 :: o7 :: t
def e789_10 (P:Params) (t:List Obj):List Obj:=o5 :: o100 :: o90 :: o42 :: o5 :: o10 :: o28 :: o5 :: o12 :: o151 :: o77 :: o5 :: o10 :: o40 :: o5 :: t
def e789_11 (P:Params) (t:List Obj):List Obj:=o120 :: o176 :: o2 :: o5 :: o10 :: o246 :: o5 :: o291 :: o159 :: o274 :: o5 :: o10 :: o149 :: o5 :: o126 :: t
def e789_12 (P:Params) (t:List Obj):List Obj:=o34 :: o221 :: o5 :: o10 :: o46 :: o54 :: o47 :: o5 :: o10 :: o83 :: o5 :: o178 :: o52 :: o195 :: o5 :: t
def e789_13 (P:Params) (t:List Obj):List Obj:=o10 :: o48 :: o5 :: o36 :: o276 :: o186 :: o5 :: o10 :: o168 :: o5 :: o222 :: o182 :: o308 :: o5 :: o10 :: t
def e789_14 (P:Params) (t:List Obj):List Obj:=o162 :: o5 :: o155 :: o105 :: o50 :: o5 :: o10 :: o317 :: o5 :: o89 :: o102 :: o3 :: o5 :: o10 :: o172 :: t
def e789_15 (P:Params) (t:List Obj):List Obj:=o5 :: o283 :: o79 :: o171 :: o5 :: o10 :: o0 :: o5 :: o322 :: o93 :: o29 :: o5 :: o10 :: o247 :: o5 :: t
def e789_16 (P:Params) (t:List Obj):List Obj:=o113 :: o65 :: o78 :: o5 :: o10 :: o181 :: o5 :: o279 :: o85 :: o119 :: o5 :: o10 :: o58 :: o5 :: o235 :: t
def e789_17 (P:Params) (t:List Obj):List Obj:=o240 :: o296 :: o5 :: o10 :: o241 :: o5 :: o260 :: o103 :: o217 :: o55 :: (o321 P) :: o326 :: o170 :: o152 :: o164 :: t
def e789_18 (P:Params) (t:List Obj):List Obj:=o111 :: o5 :: o10 :: o243 :: o5 :: o231 :: o318 :: o137 :: o5 :: o10 :: o303 :: o228 :: o352 :: o5 :: o10 :: t
def e789_19 (P:Params) (t:List Obj):List Obj:=o199 :: o5 :: o263 :: o270 :: o167 :: o5 :: o10 :: o346 :: o238 :: o349 :: o5 :: o135 :: (o74 P) :: o5 :: o147 :: t
def e789_20 (P:Params) (t:List Obj):List Obj:=o211 :: o22 :: o5 :: o10 :: o21 :: o175 :: o223 :: o5 :: o10 :: o109 :: o5 :: o62 :: o234 :: o61 :: o5 :: t
def e789_21 (P:Params) (t:List Obj):List Obj:=o10 :: o138 :: o5 :: o26 :: o191 :: o106 :: o5 :: o10 :: o177 :: o5 :: o173 :: o35 :: o45 :: o5 :: o10 :: t
def e789_22 (P:Params) (t:List Obj):List Obj:=o131 :: o5 :: o92 :: o9 :: o184 :: o5 :: o10 :: o72 :: o5 :: o13 :: o44 :: o139 :: o5 :: o10 :: o145 :: t
def e789_23 (P:Params) (t:List Obj):List Obj:=o24 :: o265 :: o5 :: o10 :: o249 :: o5 :: o25 :: o140 :: o96 :: o5 :: o10 :: o30 :: o5 :: o95 :: o192 :: t
def e789_24 (P:Params) (t:List Obj):List Obj:=o99 :: o5 :: o10 :: o17 :: o5 :: o91 :: o226 :: o254 :: o5 :: o10 :: o183 :: o5 :: o144 :: o27 :: o268 :: t
def e789_25 (P:Params) (t:List Obj):List Obj:=o5 :: o10 :: o157 :: o5 :: o188 :: o257 :: o70 :: o5 :: o10 :: o165 :: o5 :: o200 :: o81 :: o313 :: o5 :: t
def e789_26 (P:Params) (t:List Obj):List Obj:=o10 :: o339 :: o5 :: o334 :: o115 :: o82 :: o5 :: o10 :: o210 :: o5 :: o134 :: o142 :: o32 :: o5 :: o10 :: t
def e789_27 (P:Params) (t:List Obj):List Obj:=o304 :: o101 :: o299 :: o5 :: o10 :: o57 :: o5 :: o148 :: o180 :: o202 :: o5 :: o10 :: o49 :: o348 :: o107 :: t
def e789_28 (P:Params) (t:List Obj):List Obj:=o5 :: o10 :: o264 :: o5 :: o307 :: o267 :: o80 :: o258 :: (o298 P) :: o110 :: o290 :: o215 :: o336 :: o122 :: o5 :: t
def e789_29 (P:Params) (t:List Obj):List Obj:=o10 :: o294 :: o5 :: o23 :: o347 :: o293 :: o5 :: o10 :: o275 :: o5 :: o189 :: o335 :: o31 :: o5 :: o10 :: t
def e789_30 (P:Params) (t:List Obj):List Obj:=o174 :: o5 :: o194 :: o43 :: o287 :: o5 :: o10 :: o233 :: o5 :: o132 :: o218 :: o63 :: o5 :: o10 :: o193 :: t
def e789_31 (P:Params) (t:List Obj):List Obj:=o342 :: o33 :: o5 :: o10 :: o156 :: o16 :: o327 :: o5 :: o10 :: o117 :: o5 :: o69 :: o75 :: o289 :: o5 :: t
def e789_32 (P:Params) (t:List Obj):List Obj:=o10 :: o73 :: o4 :: o320 :: o5 :: o10 :: o251 :: o5 :: o60 :: o341 :: o6 :: o5 :: o10 :: o259 :: o5 :: t
def e789_33 (P:Params) (t:List Obj):List Obj:=o14 :: o227 :: o37 :: o5 :: o10 :: o86 :: o5 :: o153 :: o213 :: o309 :: o5 :: o10 :: o245 :: o5 :: o190 :: t
def e789_34 (P:Params) (t:List Obj):List Obj:=o116 :: o282 :: o5 :: o10 :: o41 :: o5 :: o179 :: o98 :: o340 :: o5 :: o10 :: o143 :: o19 :: o305 :: o5 :: t
def e789_35 (P:Params) (t:List Obj):List Obj:=o10 :: o284 :: o161 :: o108 :: o5 :: o10 :: o129 :: o5 :: o68 :: o333 :: o323 :: o5 :: o10 :: o146 :: o5 :: t
def e789_36 (P:Params) (t:List Obj):List Obj:=o300 :: o256 :: o208 :: o5 :: o10 :: o302 :: o237 :: o212 :: o5 :: o10 :: o150 :: o332 :: o196 :: t
noncomputable def e789 (P:Params):Heap:=⟨⟨(e789_0 P (e789_1 P (e789_2 P (e789_3 P (e789_4 P (e789_5 P (e789_6 P (e789_7 P (e789_8 P (e789_9 P (e789_10 P (e789_11 P (e789_12 P (e789_13 P (e789_14 P (e789_15 P (e789_16 P (e789_17 P (e789_18 P (e789_19 P (e789_20 P (e789_21 P (e789_22 P (e789_23 P (e789_24 P (e789_25 P (e789_26 P (e789_27 P (e789_28 P (e789_29 P (e789_30 P (e789_31 P (e789_32 P (e789_33 P (e789_34 P (e789_35 P (e789_36 P [])))))))))))))))))))))))))))))))))))))⟩,⟨[],[],[],0,[],[],false,#[],[],0,false,false,false,0,[2000,10,10],false,0,true,[],[],0,false⟩⟩
noncomputable def q138:BT:=N (boot_o_7 P) (N o5 (N o351 (N o10 L L) L) (N o76 (N (o141 P) L L) L)) (N o135 (N o10 (N o76 L L) L) (N (o314 P) L L))
noncomputable def q139:BT:=N (o205 P) (q138 P) (N o5 (N o356 (N o76 (N (o255 P) L L) L) (N o10 L L)) (N o185 (N (o337 P) (N o10 L L) L) (N o76 L L)))
noncomputable def q140:BT:=N (boot_o_9 P) (N o330 (N o297 (N o53 L L) L) (N (o248 P) (N o219 L L) L)) (N o5 (N o244 (N (o230 P) L L) L) (N o288 L L))
noncomputable def q141:BT:=N (boot_o_5 P) (q140 P) (N o207 (N o312 (N (o273 P) (N o154 L L) L) (N o166 L L)) (N o5 (N o350 (N o197 L L) L) (N (o278 P) L L)))
noncomputable def q142:BT:=N (boot_o_8 P) (N o10 (N o127 (N o214 L L) L) (N o135 (N o266 L L) L)) (N (o331 P) (N o169 (N o135 L L) L) (N o325 L L))
noncomputable def q143:BT:=N (boot_o_4 P) (q142 P) (N o123 (N o206 (N o135 (N o328 L L) L) (N o133 L L)) (N o163 (N o20 (N o315 L L) L) (N o135 L L)))
noncomputable def q144:BT:=N (boot_o_10 P) (N o5 (N o56 (N o5 L L) L) (N o5 (N o239 L L) L)) (N o10 (N o5 (N o5 L L) L) (N o84 L L))
noncomputable def q145:BT:=N (boot_o_6 P) (q144 P) (N o94 (N o104 (N o5 (N o285 L L) L) (N o5 L L)) (N (o38 P) (N o277 (N o5 L L) L) (N o5 L L)))
noncomputable def t130 (P:Params):BT:=(N (boot_o_0 P) (N (boot_o_1 P) (q139 P) (q141 P)) (N (boot_o_2 P) (q143 P) (q145 P)))
noncomputable def q146:BT:=N o5 (N o125 (N o10 (N o10 (N o240 L L) L) (N o178 L L)) (N o5 (N o151 L L) (N o10 L L))) (N o76 (N (o141 P) (N o5 L L) (N o308 L L)) (N o338 (N o5 L L) (N o5 L L)))
noncomputable def q147:BT:=N o135 (N o10 (N o76 (N o252 (N o217 L L) L) (N o276 L L)) (N o5 (N o2 L L) (N o0 L L))) (N (o314 P) (N o10 (N o100 L L) (N o5 L L)) (N o5 (N o10 L L) (N o279 L L)))
noncomputable def q148:BT:=N o356 (N o76 (N (o255 P) (N o87 (N o241 L L) L) (N o10 L L)) (N o242 (N o40 L L) (N o79 L L))) (N o10 (N o76 (N o5 L L) (N o5 L L)) (N o10 (N o126 L L) (N o5 L L)))
noncomputable def q149:BT:=N o185 (N (o337 P) (N o10 (N o216 (N o170 L L) L) (N o168 L L)) (N o5 (N o5 L L) (N o29 L L))) (N o76 (N (o354 P) (N o10 L L) (N o89 L L)) (N o295 (N o5 L L) (N o10 L L)))
noncomputable def q150:BT:=N o330 (N o297 (N o53 (N o5 (N o5 L L) L) (N o195 L L)) (N o59 (N o5 L L) (N o5 L L))) (N (o248 P) (N o219 (N o1 L L) (N o10 L L)) (N o343 (N o149 L L) (N o65 L L)))
noncomputable def q151:BT:=N o5 (N o244 (N (o230 P) (N o112 (N (o321 P) L L) L) (N o5 L L)) (N o316 (N o10 L L) (N o322 L L))) (N o288 (N o130 (N o42 L L) (N o317 L L)) (N o121 (N o54 L L) (N o119 L L)))
noncomputable def q152:BT:=N o312 (N (o273 P) (N o154 (N o5 (N o260 L L) L) (N o5 L L)) (N o10 (N o120 L L) (N o5 L L))) (N o166 (N (o236 P) (N o7 L L) (N o105 L L)) (N o187 (N o221 L L) (N o181 L L)))
noncomputable def q153:BT:=N o5 (N o350 (N o197 (N o135 (N o164 L L) L) (N o222 L L)) (N o353 (N o159 L L) (N o10 L L))) (N (o278 P) (N o203 (N o5 L L) (N o3 L L)) (N o272 (N o83 L L) (N o5 L L)))
noncomputable def q154:BT:=N (boot_o_1 P) (N (o253 P) (N (boot_o_7 P) (q146 P) (q147 P)) (N o5 (q148 P) (q149 P))) (N (boot_o_5 P) (N (boot_o_9 P) (q150 P) (q151 P)) (N o207 (q152 P) (q153 P)))
noncomputable def q155:BT:=N o10 (N o127 (N o214 (N o128 (N o296 L L) L) (N o52 L L)) (N o10 (N o77 L L) (N o172 L L))) (N o135 (N o266 (N o355 L L) (N o5 L L)) (N o15 (N o10 L L) (N o113 L L)))
noncomputable def q156:BT:=N (o331 P) (N o169 (N o135 (N o5 (N o55 L L) L) (N o186 L L)) (N o220 (N o5 L L) (N o5 L L))) (N o325 (N o269 (N o90 L L) (N o10 L L)) (N o10 (N o46 L L) (N o85 L L)))
noncomputable def q157:BT:=N o206 (N o135 (N o328 (N o51 (N o5 L L) L) (N o48 L L)) (N o5 (N o5 L L) (N o171 L L))) (N o133 (N o135 (N o10 L L) (N o155 L L)) (N o261 (N o34 L L) (N o10 L L)))
noncomputable def q158:BT:=N o163 (N o20 (N o315 (N o5 (N o152 L L) L) (N o5 L L)) (N o10 (N o291 L L) (N o5 L L))) (N o135 (N o292 (N o28 L L) (N o102 L L)) (N o160 (N o10 L L) (N o58 L L)))
noncomputable def q159:BT:=N o5 (N o56 (N o5 (N o271 (N o10 L L) L) (N o5 L L)) (N o198 (N o10 L L) (N o283 L L))) (N o5 (N o239 (N o311 L L) (N o162 L L)) (N o5 (N o5 L L) (N o78 L L)))
noncomputable def q160:BT:=N o10 (N o5 (N o5 (N o224 (N o326 L L) L) (N o10 L L)) (N o344 (N o246 L L) (N o93 L L))) (N o84 (N o5 (N o5 L L) (N o5 L L)) (N o5 (N o47 L L) (N o5 L L)))
noncomputable def q161:BT:=N o104 (N o5 (N o285 (N o10 (N o103 L L) L) (N o36 L L)) (N o136 (N o176 L L) (N o10 L L))) (N o5 (N o5 (N o5 L L) (N o50 L L)) (N o209 (N o5 L L) (N o5 L L)))
noncomputable def q162:BT:=N (o38 P) (N o277 (N o5 (N (o201 P) (N o111 L L) L) (N o182 L L)) (N o5 (N o274 L L) (N o247 L L))) (N o5 (N o286 (N o12 L L) (N o5 L L)) (N o5 (N o5 L L) (N o235 L L)))
noncomputable def q163:BT:=N (boot_o_2 P) (N (boot_o_4 P) (N (boot_o_8 P) q155 (q156 P)) (N o97 q157 q158)) (N (boot_o_6 P) (N (boot_o_10 P) q159 q160) (N o94 q161 (q162 P)))
noncomputable def t325 (P:Params):BT:=(N (boot_o_0 P) (q154 P) (q163 P))
noncomputable def q164:BT:=N o125 (N o10 (N o10 (N o240 L L) L) (N o178 (N o191 L L) L)) (N o5 (N o151 (N o263 L L) L) (N o10 (N o25 L L) L))
noncomputable def q165:BT:=N o76 (N (o141 P) (N o5 (N o5 L L) L) (N o308 (N o5 L L) L)) (N o338 (N o5 (N o10 L L) L) (N o5 (N o254 L L) L))
noncomputable def q166:BT:=N o10 (N o76 (N o252 (N o217 L L) L) (N o276 (N o45 L L) L)) (N o5 (N o2 (N o5 L L) L) (N o0 (N o192 L L) L))
noncomputable def q167:BT:=N (o314 P) (N o10 (N o100 (N o10 L L) L) (N o5 (N o10 L L) L)) (N o5 (N o10 (N o62 L L) L) (N o279 L L))
noncomputable def q168:BT:=N o76 (N (o255 P) (N o87 (N o241 L L) L) (N o10 (N o177 L L) L)) (N o242 (N o40 (N o10 L L) L) (N o79 (N o10 L L) L))
noncomputable def q169:BT:=N o10 (N o76 (N o5 (N o231 L L) L) (N o5 (N o13 L L) L)) (N o10 (N o126 (N o5 L L) L) (N o5 (N o5 L L) L))
noncomputable def q170:BT:=N (o337 P) (N o10 (N o216 (N o170 L L) L) (N o168 (N o5 L L) L)) (N o5 (N o5 (N o39 L L) L) (N o29 (N o17 L L) L))
noncomputable def q171:BT:=N o76 (N (o354 P) (N o10 (N o5 L L) L) (N o89 (N o5 L L) L)) (N o295 (N o5 (N o10 L L) L) (N o10 L L))
noncomputable def q172:BT:=N (o67 P) (N (boot_o_7 P) (N o5 q164 (q165 P)) (N o135 q166 (q167 P))) (N o5 (N o356 (q168 P) q169) (N o185 (q170 P) (q171 P)))
noncomputable def q173:BT:=N o297 (N o53 (N o5 (N o5 L L) L) (N o195 (N o5 L L) L)) (N o59 (N o5 (N o167 L L) L) (N o5 (N o96 L L) L))
noncomputable def q174:BT:=N (o248 P) (N o219 (N o1 (N o243 L L) L) (N o10 (N o72 L L) L)) (N o343 (N o149 (N o175 L L) L) (N o65 (N o10 L L) L))
noncomputable def q175:BT:=N o244 (N (o230 P) (N o112 (N (o321 P) L L) L) (N o5 (N o10 L L) L)) (N o316 (N o10 (N (o345 P) L L) L) (N o322 (N o5 L L) L))
noncomputable def q176:BT:=N o288 (N o130 (N o42 (N o228 L L) L) (N o317 (N o24 L L) L)) (N o121 (N o54 (N o61 L L) L) (N o119 L L))
noncomputable def q177:BT:=N (o273 P) (N o154 (N o5 (N o260 L L) L) (N o5 (N o173 L L) L)) (N o10 (N o120 (N o238 L L) L) (N o5 (N o5 L L) L))
noncomputable def q178:BT:=N o166 (N (o236 P) (N o7 (N o137 L L) L) (N o105 (N o139 L L) L)) (N o187 (N o221 (N o109 L L) L) (N o181 (N o27 L L) L))
noncomputable def q179:BT:=N o350 (N o197 (N o135 (N o164 L L) L) (N o222 (N o9 L L) L)) (N o353 (N o159 (N o22 L L) L) (N o10 (N o91 L L) L))
noncomputable def q180:BT:=N (o278 P) (N o203 (N o5 (N o199 L L) L) (N o3 (N o249 L L) L)) (N o272 (N o83 (N o5 L L) L) (N o5 L L))
noncomputable def q181:BT:=N (boot_o_5 P) (N (boot_o_9 P) (N o330 q173 (q174 P)) (N o5 (q175 P) q176)) (N o207 (N o312 (q177 P) (q178 P)) (N o5 q179 (q180 P)))
noncomputable def q182:BT:=N o127 (N o214 (N o128 (N o296 L L) L) (N o52 (N o106 L L) L)) (N o10 (N o77 (N o270 L L) L) (N o172 (N o140 L L) L))
noncomputable def q183:BT:=N o135 (N o266 (N o355 (N o10 L L) L) (N o5 (N o10 L L) L)) (N o15 (N o10 (N o21 L L) L) (N o113 (N o5 L L) L))
noncomputable def q184:BT:=N o169 (N o135 (N o5 (N o55 L L) L) (N o186 (N o5 L L) L)) (N o220 (N o5 (N o135 L L) L) (N o5 (N o99 L L) L))
noncomputable def q185:BT:=N o325 (N o269 (N o90 (N o303 L L) L) (N o10 (N o145 L L) L)) (N o10 (N o46 (N o234 L L) L) (N o85 L L))
noncomputable def q186:BT:=N o135 (N o328 (N o51 (N o5 L L) L) (N o48 (N o5 L L) L)) (N o5 (N o5 (N o346 L L) L) (N o171 (N o30 L L) L))
noncomputable def q187:BT:=N o133 (N o135 (N o10 (N o318 L L) L) (N o155 (N o44 L L) L)) (N o261 (N o34 (N o10 L L) L) (N o10 (N o144 L L) L))
noncomputable def q188:BT:=N o20 (N o315 (N o5 (N o152 L L) L) (N o5 (N o92 L L) L)) (N o10 (N o291 (N o211 L L) L) (N o5 (N o5 L L) L))
noncomputable def q189:BT:=N o135 (N o292 (N o28 (N o10 L L) L) (N o102 (N o10 L L) L)) (N o160 (N o10 (N o138 L L) L) (N o58 L L))
noncomputable def q190:BT:=N (boot_o_4 P) (N (boot_o_8 P) (N o10 q182 q183) (N (o331 P) q184 q185)) (N o71 (N o206 q186 q187) (N o163 q188 q189))
noncomputable def q191:BT:=N o56 (N o5 (N o271 (N o10 L L) L) (N o5 (N o10 L L) L)) (N o198 (N o10 (N o5 L L) L) (N o283 (N o5 L L) L))
noncomputable def q192:BT:=N o5 (N o239 (N o311 (N o5 L L) L) (N o162 (N o5 L L) L)) (N o5 (N o5 (N o223 L L) L) (N o78 (N o183 L L) L))
noncomputable def q193:BT:=N o5 (N o5 (N o224 (N o326 L L) L) (N o10 (N o131 L L) L)) (N o344 (N o246 (N o5 L L) L) (N o93 (N o10 L L) L))
noncomputable def q194:BT:=N o84 (N o5 (N o5 (N o352 L L) L) (N o5 (N o265 L L) L)) (N o5 (N o47 (N o5 L L) L) (N o5 L L))
noncomputable def q195:BT:=N o5 (N o285 (N o10 (N o103 L L) L) (N o36 (N o35 L L) L)) (N o136 (N o176 (N o349 L L) L) (N o10 (N o95 L L) L))
noncomputable def q196:BT:=N o5 (N o5 (N o5 (N o5 L L) L) (N o50 (N o5 L L) L)) (N o209 (N o5 (N o5 L L) L) (N o5 (N o268 L L) L))
noncomputable def q197:BT:=N o277 (N o5 (N (o201 P) (N o111 L L) L) (N o182 (N o184 L L) L)) (N o5 (N o274 (N o5 L L) L) (N o247 (N o226 L L) L))
noncomputable def q198:BT:=N o5 (N o286 (N o12 (N o5 L L) L) (N o5 (N o5 L L) L)) (N o5 (N o5 (N o26 L L) L) (N o235 L L))
noncomputable def q199:BT:=N (boot_o_6 P) (N (boot_o_10 P) (N o5 q191 q192) (N o10 q193 q194)) (N o94 (N o104 q195 q196) (N (o38 P) (q197 P) q198))
noncomputable def t662 (P:Params):BT:=(N (boot_o_0 P) (N (boot_o_1 P) (q172 P) (q181 P)) (N (boot_o_2 P) (q190 P) (q199 P)))
noncomputable def q200:BT:=N o5 (N o125 (N o10 (N o10 (N o240 L L) L) (N o178 L L)) (N o5 (N o151 (N o263 L L) L) (N o10 L L))) (N o76 (N (o141 P) (N o5 (N o5 L L) L) (N o308 L L)) (N o338 (N o5 L L) (N o5 L L)))
noncomputable def q201:BT:=N o135 (N o10 (N o76 (N o252 (N o217 L L) L) (N o276 L L)) (N o5 (N o2 L L) (N o0 L L))) (N (o314 P) (N o10 (N o100 (N o10 L L) L) (N o5 L L)) (N o5 (N o10 L L) (N o279 L L)))
noncomputable def q202:BT:=N o356 (N o76 (N (o255 P) (N o87 (N o241 L L) L) (N o10 L L)) (N o242 (N o40 (N o10 L L) L) (N o79 L L))) (N o10 (N o76 (N o5 (N o231 L L) L) (N o5 L L)) (N o10 (N o126 L L) (N o5 L L)))
noncomputable def q203:BT:=N o185 (N (o337 P) (N o10 (N o216 (N o170 L L) L) (N o168 L L)) (N o5 (N o5 L L) (N o29 L L))) (N o76 (N (o354 P) (N o10 (N o5 L L) L) (N o89 L L)) (N o295 (N o5 L L) (N o10 L L)))
noncomputable def q204:BT:=N o330 (N o297 (N o53 (N o5 (N o5 L L) L) (N o195 L L)) (N o59 (N o5 (N o167 L L) L) (N o5 L L))) (N (o248 P) (N o219 (N o1 (N o243 L L) L) (N o10 L L)) (N o343 (N o149 L L) (N o65 L L)))
noncomputable def q205:BT:=N o5 (N o244 (N (o230 P) (N o112 (N (o321 P) L L) L) (N o5 L L)) (N o316 (N o10 L L) (N o322 L L))) (N o288 (N o130 (N o42 (N o228 L L) L) (N o317 L L)) (N o121 (N o54 L L) (N o119 L L)))
noncomputable def q206:BT:=N o312 (N (o273 P) (N o154 (N o5 (N o260 L L) L) (N o5 L L)) (N o10 (N o120 (N o238 L L) L) (N o5 L L))) (N o166 (N (o236 P) (N o7 (N o137 L L) L) (N o105 L L)) (N o187 (N o221 L L) (N o181 L L)))
noncomputable def q207:BT:=N o5 (N o350 (N o197 (N o135 (N o164 L L) L) (N o222 L L)) (N o353 (N o159 L L) (N o10 L L))) (N (o278 P) (N o203 (N o5 (N o199 L L) L) (N o3 L L)) (N o272 (N o83 L L) (N o5 L L)))
noncomputable def q208:BT:=N (boot_o_1 P) (N (o67 P) (N (boot_o_7 P) (q200 P) (q201 P)) (N o5 (q202 P) (q203 P))) (N (boot_o_5 P) (N (boot_o_9 P) (q204 P) (q205 P)) (N o207 (q206 P) (q207 P)))
noncomputable def q209:BT:=N o10 (N o127 (N o214 (N o128 (N o296 L L) L) (N o52 L L)) (N o10 (N o77 (N o270 L L) L) (N o172 L L))) (N o135 (N o266 (N o355 (N o10 L L) L) (N o5 L L)) (N o15 (N o10 L L) (N o113 L L)))
noncomputable def q210:BT:=N (o331 P) (N o169 (N o135 (N o5 (N o55 L L) L) (N o186 L L)) (N o220 (N o5 L L) (N o5 L L))) (N o325 (N o269 (N o90 (N o303 L L) L) (N o10 L L)) (N o10 (N o46 L L) (N o85 L L)))
noncomputable def q211:BT:=N o206 (N o135 (N o328 (N o51 (N o5 L L) L) (N o48 L L)) (N o5 (N o5 (N o346 L L) L) (N o171 L L))) (N o133 (N o135 (N o10 (N o318 L L) L) (N o155 L L)) (N o261 (N o34 L L) (N o10 L L)))
noncomputable def q212:BT:=N o163 (N o20 (N o315 (N o5 (N o152 L L) L) (N o5 L L)) (N o10 (N o291 L L) (N o5 L L))) (N o135 (N o292 (N o28 (N o10 L L) L) (N o102 L L)) (N o160 (N o10 L L) (N o58 L L)))
noncomputable def q213:BT:=N o5 (N o56 (N o5 (N o271 (N o10 L L) L) (N o5 L L)) (N o198 (N o10 (N o5 L L) L) (N o283 L L))) (N o5 (N o239 (N o311 (N o5 L L) L) (N o162 L L)) (N o5 (N o5 L L) (N o78 L L)))
noncomputable def q214:BT:=N o10 (N o5 (N o5 (N o224 (N o326 L L) L) (N o10 L L)) (N o344 (N o246 L L) (N o93 L L))) (N o84 (N o5 (N o5 (N o352 L L) L) (N o5 L L)) (N o5 (N o47 L L) (N o5 L L)))
noncomputable def q215:BT:=N o104 (N o5 (N o285 (N o10 (N o103 L L) L) (N o36 L L)) (N o136 (N o176 (N o349 L L) L) (N o10 L L))) (N o5 (N o5 (N o5 (N o5 L L) L) (N o50 L L)) (N o209 (N o5 L L) (N o5 L L)))
noncomputable def q216:BT:=N (o38 P) (N o277 (N o5 (N (o201 P) (N o111 L L) L) (N o182 L L)) (N o5 (N o274 L L) (N o247 L L))) (N o5 (N o286 (N o12 (N o5 L L) L) (N o5 L L)) (N o5 (N o5 L L) (N o235 L L)))
noncomputable def q217:BT:=N (boot_o_2 P) (N (boot_o_4 P) (N (boot_o_8 P) q209 (q210 P)) (N o229 q211 q212)) (N (boot_o_6 P) (N (boot_o_10 P) q213 q214) (N o94 q215 (q216 P)))
noncomputable def t440 (P:Params):BT:=(N (boot_o_0 P) (q208 P) (q217 P))
noncomputable def q218:BT:=N (boot_o_1 P) (N (o158 P) (N (boot_o_7 P) (N o5 (N o324 L L) L) (N o135 L L)) (N o5 (N o356 L L) (N o185 L L))) (N (boot_o_5 P) (N (boot_o_9 P) (N o330 (N o297 L L) L) (N o5 L L)) (N o207 (N o312 L L) (N o5 L L)))
noncomputable def q219:BT:=N (boot_o_2 P) (N (boot_o_4 P) (N (boot_o_8 P) (N o10 (N o127 L L) L) (N (o331 P) L L)) (N o18 (N o206 L L) (N o163 L L))) (N (boot_o_6 P) (N (boot_o_10 P) (N o5 (N o56 L L) L) (N o10 L L)) (N o94 (N o104 L L) (N (o38 P) L L)))
noncomputable def t70 (P:Params):BT:=(N (boot_o_0 P) (q218 P) (q219 P))
noncomputable def q220:BT:=N o5 (N o125 (N o10 (N o10 L L) (N o178 L L)) (N o5 (N o151 L L) (N o10 L L))) (N o76 (N (o141 P) (N o5 L L) (N o308 L L)) (N o338 (N o5 L L) L))
noncomputable def q221:BT:=N o135 (N o10 (N o76 (N o252 L L) (N o276 L L)) (N o5 (N o2 L L) L)) (N (o314 P) (N o10 (N o100 L L) (N o5 L L)) (N o5 (N o10 L L) L))
noncomputable def q222:BT:=N o356 (N o76 (N (o255 P) (N o87 L L) (N o10 L L)) (N o242 (N o40 L L) L)) (N o10 (N o76 (N o5 L L) (N o5 L L)) (N o10 (N o126 L L) L))
noncomputable def q223:BT:=N o185 (N (o337 P) (N o10 (N o216 L L) (N o168 L L)) (N o5 (N o5 L L) L)) (N o76 (N (o354 P) (N o10 L L) (N o89 L L)) (N o295 (N o5 L L) L))
noncomputable def q224:BT:=N o330 (N o297 (N o53 (N o5 L L) (N o195 L L)) (N o59 (N o5 L L) L)) (N (o248 P) (N o219 (N o1 L L) (N o10 L L)) (N o343 (N o149 L L) L))
noncomputable def q225:BT:=N o5 (N o244 (N (o230 P) (N o112 L L) (N o5 L L)) (N o316 (N o10 L L) L)) (N o288 (N o130 (N o42 L L) (N o317 L L)) (N o121 (N o54 L L) L))
noncomputable def q226:BT:=N o312 (N (o273 P) (N o154 (N o5 L L) (N o5 L L)) (N o10 (N o120 L L) L)) (N o166 (N (o236 P) (N o7 L L) (N o105 L L)) (N o187 (N o221 L L) L))
noncomputable def q227:BT:=N o5 (N o350 (N o197 (N o135 L L) (N o222 L L)) (N o353 (N o159 L L) L)) (N (o278 P) (N o203 (N o5 L L) (N o3 L L)) (N o272 (N o83 L L) L))
noncomputable def q228:BT:=N (boot_o_1 P) (N (o280 P) (N (boot_o_7 P) (q220 P) (q221 P)) (N o5 (q222 P) (q223 P))) (N (boot_o_5 P) (N (boot_o_9 P) (q224 P) (q225 P)) (N o207 (q226 P) (q227 P)))
noncomputable def q229:BT:=N o10 (N o127 (N o214 (N o128 L L) (N o52 L L)) (N o10 (N o77 L L) (N o172 L L))) (N o135 (N o266 (N o88 L L) (N o5 L L)) (N o15 (N o10 L L) L))
noncomputable def q230:BT:=N (o331 P) (N o169 (N o135 (N o5 L L) (N o186 L L)) (N o220 (N o5 L L) L)) (N o325 (N o269 (N o90 L L) (N o10 L L)) (N o10 (N o46 L L) L))
noncomputable def q231:BT:=N o206 (N o135 (N o328 (N o51 L L) (N o48 L L)) (N o5 (N o5 L L) L)) (N o133 (N o135 (N o10 L L) (N o155 L L)) (N o261 (N o34 L L) L))
noncomputable def q232:BT:=N o163 (N o20 (N o315 (N o5 L L) (N o5 L L)) (N o10 (N o291 L L) L)) (N o135 (N o292 (N o28 L L) (N o102 L L)) (N o160 (N o10 L L) L))
noncomputable def q233:BT:=N o5 (N o56 (N o5 (N o271 L L) (N o5 L L)) (N o198 (N o10 L L) L)) (N o5 (N o239 (N o311 L L) (N o162 L L)) (N o5 (N o5 L L) L))
noncomputable def q234:BT:=N o10 (N o5 (N o5 (N o224 L L) (N o10 L L)) (N o344 (N o246 L L) L)) (N o84 (N o5 (N o5 L L) (N o5 L L)) (N o5 (N o47 L L) L))
noncomputable def q235:BT:=N o104 (N o5 (N o285 (N o10 L L) (N o36 L L)) (N o136 (N o176 L L) L)) (N o5 (N o5 (N o5 L L) (N o50 L L)) (N o209 (N o5 L L) L))
noncomputable def q236:BT:=N (o38 P) (N o277 (N o5 (N (o306 P) L L) (N o182 L L)) (N o5 (N o274 L L) L)) (N o5 (N o286 (N o12 L L) (N o5 L L)) (N o5 (N o5 L L) L))
noncomputable def q237:BT:=N (boot_o_2 P) (N (boot_o_4 P) (N (boot_o_8 P) q229 (q230 P)) (N o97 q231 q232)) (N (boot_o_6 P) (N (boot_o_10 P) q233 q234) (N o94 q235 (q236 P)))
noncomputable def t411 (P:Params):BT:=(N (boot_o_0 P) (q228 P) (q237 P))
noncomputable def q238:BT:=N (boot_o_0 P) (N (boot_o_1 P) (N (boot_o_3 P) (N (boot_o_7 P) L L) (N o5 L L)) (N (boot_o_5 P) (N (boot_o_9 P) L L) (N o207 L L))) (N (boot_o_2 P) (N (boot_o_4 P) (N (boot_o_8 P) L L) (N o10 L L)) (N (boot_o_6 P) (N (boot_o_10 P) L L) (N o94 L L)))
noncomputable def t47 (P:Params):BT:=(q238 P)
def vw:Program:=PySem.W.view PySem.Challenge.pw_treeright_k24_askers_by_name [0,2,3,4,5,6,7,9,10,11,12,13,14,15,17,18,19,21,22,23,24,25,27,28,29,30,31,32,33,34,35,36,37,38,39,40,41,42,43,44,45]
noncomputable def s49:List Stmt:=(PySem.Challenge.pw_treeright_k24_askers_by_name.main.body.drop 0).take 3
noncomputable def s71:List Stmt:=(PySem.Challenge.pw_treeright_k24_askers_by_name.main.body.drop 3).take 1
noncomputable def s86:List Stmt:=(PySem.Challenge.pw_treeright_k24_askers_by_name.main.body.drop 4).take 1
noncomputable def s101:List Stmt:=(PySem.Challenge.pw_treeright_k24_askers_by_name.main.body.drop 5).take 1
noncomputable def s116:List Stmt:=(PySem.Challenge.pw_treeright_k24_askers_by_name.main.body.drop 6).take 1
noncomputable def s131:List Stmt:=(PySem.Challenge.pw_treeright_k24_askers_by_name.main.body.drop 7).take 10
noncomputable def s177:List Stmt:=(PySem.Challenge.pw_treeright_k24_askers_by_name.main.body.drop 17).take 2
noncomputable def s193:List Stmt:=(PySem.Challenge.pw_treeright_k24_askers_by_name.main.body.drop 19).take 1
noncomputable def s415:List Stmt:=(PySem.Challenge.pw_treeright_k24_askers_by_name.main.body.drop 20).take 5
noncomputable def s441:List Stmt:=(PySem.Challenge.pw_treeright_k24_askers_by_name.main.body.drop 25).take 1
noncomputable def s666:List Stmt:=(PySem.Challenge.pw_treeright_k24_askers_by_name.main.body.drop 26).take 14
noncomputable def s753:List Stmt:=(PySem.Challenge.pw_treeright_k24_askers_by_name.main.body.drop 40).take 6
end HD
end
noncomputable def PySem.W.Fast.tw14598715356260435866:Unit:=()
noncomputable def PySem.W.Fast.tw12831946366807014121:Unit:=()
noncomputable def PySem.W.Fast.tw2505294214074580061:Unit:=()
noncomputable def PySem.W.Fast.tw1184825839854068080:Unit:=()
noncomputable def PySem.W.Fast.tw16963627058361203756:Unit:=()
noncomputable def PySem.W.Fast.tw4063309880790847132:Unit:=()
noncomputable def PySem.W.Fast.tw16335552587211677449:Unit:=()
noncomputable def PySem.W.Fast.tw1921148480499289173:Unit:=()
noncomputable def PySem.W.Fast.tw8219606844568596651:Unit:=()
noncomputable def PySem.W.Fast.tw1564543192828473526:Unit:=()
noncomputable def PySem.W.Fast.tw9434032782923581289:Unit:=()
noncomputable def PySem.W.Fast.tw3094701115853657799:Unit:=()
lay_quick PySem.Challenge.pw_treeright_k24_askers_by_name
lay_quick HD.t788
lay_quick HD.t85
lay_quick HD.t192
lay_quick HD.t100
lay_quick HD.t115
lay_quick HD.e46
lay_quick HD.t176
lay_quick HD.t752
lay_quick HD.t581
lay_quick HD.e789
lay_quick HD.t130
lay_quick HD.t325
lay_quick HD.t662
lay_quick HD.t440
lay_quick HD.t70
lay_quick HD.t411
lay_quick HD.t47
noncomputable def PySem.W.Fast.tw2638927907162909539:PySem.Params->PySem.W.BT:=PySem.W.Fast.tw8330394140683834047
theorem PySem.W.Fast.te2638927907162909539:HD.t788=PySem.W.Fast.tw2638927907162909539:=PySem.W.Fast.te8330394140683834047
noncomputable def PySem.W.Fast.tw2294854397974045510:PySem.Params->PySem.W.BT:=PySem.W.Fast.tw2036878166784380086
theorem PySem.W.Fast.te2294854397974045510:HD.t85=PySem.W.Fast.tw2294854397974045510:=PySem.W.Fast.te2036878166784380086
noncomputable def PySem.W.Fast.tw6140484524562760489:PySem.Params->PySem.W.BT:=PySem.W.Fast.tw7211603232809807215
theorem PySem.W.Fast.te6140484524562760489:HD.t192=PySem.W.Fast.tw6140484524562760489:=PySem.W.Fast.te7211603232809807215
noncomputable def PySem.W.Fast.tw17546005709695080877:PySem.Params->PySem.W.BT:=PySem.W.Fast.tw11108817263175320385
theorem PySem.W.Fast.te17546005709695080877:HD.t100=PySem.W.Fast.tw17546005709695080877:=PySem.W.Fast.te11108817263175320385
noncomputable def PySem.W.Fast.tw15632388027458123374:PySem.Params->PySem.W.BT:=PySem.W.Fast.tw13006058816851964647
theorem PySem.W.Fast.te15632388027458123374:HD.t115=PySem.W.Fast.tw15632388027458123374:=PySem.W.Fast.te13006058816851964647
noncomputable def PySem.W.Fast.tw2257529940240947247:PySem.Params->PySem.Heap:=PySem.W.Fast.tw12643942650068612825
theorem PySem.W.Fast.te2257529940240947247:HD.e46=PySem.W.Fast.tw2257529940240947247:=PySem.W.Fast.te12643942650068612825
noncomputable def PySem.W.Fast.tw6158393449932997776:PySem.Params->PySem.W.BT:=PySem.W.Fast.tw14843291937102528503
theorem PySem.W.Fast.te6158393449932997776:HD.t176=PySem.W.Fast.tw6158393449932997776:=PySem.W.Fast.te14843291937102528503
noncomputable def PySem.W.Fast.tw5746217002198019408:PySem.Params->PySem.W.BT:=PySem.W.Fast.tw12386183113426789900
theorem PySem.W.Fast.te5746217002198019408:HD.t752=PySem.W.Fast.tw5746217002198019408:=PySem.W.Fast.te12386183113426789900
noncomputable def PySem.W.Fast.tw9876927546715113685:PySem.Params->PySem.W.BT:=PySem.W.Fast.tw15972243646443434042
theorem PySem.W.Fast.te9876927546715113685:HD.t581=PySem.W.Fast.tw9876927546715113685:=PySem.W.Fast.te15972243646443434042
noncomputable def PySem.W.Fast.tw10668755517028277271:PySem.Params->PySem.Heap:=PySem.W.Fast.tw2228785882927013204
theorem PySem.W.Fast.te10668755517028277271:HD.e789=PySem.W.Fast.tw10668755517028277271:=PySem.W.Fast.te2228785882927013204
noncomputable def PySem.W.Fast.tw1292346606274980823:PySem.Params->PySem.W.BT:=PySem.W.Fast.tw7778535457881203485
theorem PySem.W.Fast.te1292346606274980823:HD.t130=PySem.W.Fast.tw1292346606274980823:=PySem.W.Fast.te7778535457881203485
noncomputable def PySem.W.Fast.tw10235683861645269560:PySem.Params->PySem.W.BT:=PySem.W.Fast.tw1593671910893269908
theorem PySem.W.Fast.te10235683861645269560:HD.t325=PySem.W.Fast.tw10235683861645269560:=PySem.W.Fast.te1593671910893269908
noncomputable def PySem.W.Fast.tw12078630607825759000:PySem.Params->PySem.W.BT:=PySem.W.Fast.tw16491974478149445394
theorem PySem.W.Fast.te12078630607825759000:HD.t662=PySem.W.Fast.tw12078630607825759000:=PySem.W.Fast.te16491974478149445394
noncomputable def PySem.W.Fast.tw10032584988220244729:PySem.Params->PySem.W.BT:=PySem.W.Fast.tw1784066655393700321
theorem PySem.W.Fast.te10032584988220244729:HD.t440=PySem.W.Fast.tw10032584988220244729:=PySem.W.Fast.te1784066655393700321
noncomputable def PySem.W.Fast.tw877418901244307835:PySem.Params->PySem.W.BT:=PySem.W.Fast.tw4601978763475442059
theorem PySem.W.Fast.te877418901244307835:HD.t70=PySem.W.Fast.tw877418901244307835:=PySem.W.Fast.te4601978763475442059
noncomputable def PySem.W.Fast.tw6844873832779938523:PySem.Params->PySem.W.BT:=PySem.W.Fast.tw2767549746680024091
theorem PySem.W.Fast.te6844873832779938523:HD.t411=PySem.W.Fast.tw6844873832779938523:=PySem.W.Fast.te2767549746680024091
noncomputable def PySem.W.Fast.tw804092199982636349:PySem.Params->PySem.W.BT:=PySem.W.Fast.tw12288697002581643564
theorem PySem.W.Fast.te804092199982636349:HD.t47=PySem.W.Fast.tw804092199982636349:=PySem.W.Fast.te12288697002581643564
noncomputable def PySem.W.Fast.tw1647960591809683682:PySem.Program:=PySem.W.view PySem.W.Fast.tw3905422191345443102 [0,2,3,4,5,6,7,9,10,11,12,13,14,15,17,18,19,21,22,23,24,25,27,28,29,30,31,32,33,34,35,36,37,38,39,40,41,42,43,44,45]
theorem PySem.W.Fast.te1647960591809683682:HD.vw=PySem.W.Fast.tw1647960591809683682:=congrArg (fun p:PySem.Program=>PySem.W.view p [0,2,3,4,5,6,7,9,10,11,12,13,14,15,17,18,19,21,22,23,24,25,27,28,29,30,31,32,33,34,35,36,37,38,39,40,41,42,43,44,45]) PySem.W.Fast.te3905422191345443102
noncomputable def PySem.W.Fast.tw16970792351503237766:List PySem.Stmt:=(PySem.W.Fast.tw3905422191345443102.main.body.drop 0).take 3
theorem PySem.W.Fast.te16970792351503237766:HD.s49=PySem.W.Fast.tw16970792351503237766:=congrArg (fun p:PySem.Program=>(p.main.body.drop 0).take 3) PySem.W.Fast.te3905422191345443102
noncomputable def PySem.W.Fast.tw7766378276201275438:List PySem.Stmt:=(PySem.W.Fast.tw3905422191345443102.main.body.drop 3).take 1
theorem PySem.W.Fast.te7766378276201275438:HD.s71=PySem.W.Fast.tw7766378276201275438:=congrArg (fun p:PySem.Program=>(p.main.body.drop 3).take 1) PySem.W.Fast.te3905422191345443102
noncomputable def PySem.W.Fast.tw9305391788130653963:List PySem.Stmt:=(PySem.W.Fast.tw3905422191345443102.main.body.drop 4).take 1
theorem PySem.W.Fast.te9305391788130653963:HD.s86=PySem.W.Fast.tw9305391788130653963:=congrArg (fun p:PySem.Program=>(p.main.body.drop 4).take 1) PySem.W.Fast.te3905422191345443102
noncomputable def PySem.W.Fast.tw12673549619886724666:List PySem.Stmt:=(PySem.W.Fast.tw3905422191345443102.main.body.drop 5).take 1
theorem PySem.W.Fast.te12673549619886724666:HD.s101=PySem.W.Fast.tw12673549619886724666:=congrArg (fun p:PySem.Program=>(p.main.body.drop 5).take 1) PySem.W.Fast.te3905422191345443102
noncomputable def PySem.W.Fast.tw14763428746477059428:List PySem.Stmt:=(PySem.W.Fast.tw3905422191345443102.main.body.drop 6).take 1
theorem PySem.W.Fast.te14763428746477059428:HD.s116=PySem.W.Fast.tw14763428746477059428:=congrArg (fun p:PySem.Program=>(p.main.body.drop 6).take 1) PySem.W.Fast.te3905422191345443102
noncomputable def PySem.W.Fast.tw8079883169468671255:List PySem.Stmt:=(PySem.W.Fast.tw3905422191345443102.main.body.drop 7).take 10
theorem PySem.W.Fast.te8079883169468671255:HD.s131=PySem.W.Fast.tw8079883169468671255:=congrArg (fun p:PySem.Program=>(p.main.body.drop 7).take 10) PySem.W.Fast.te3905422191345443102
noncomputable def PySem.W.Fast.tw16324385692754382440:List PySem.Stmt:=(PySem.W.Fast.tw3905422191345443102.main.body.drop 17).take 2
theorem PySem.W.Fast.te16324385692754382440:HD.s177=PySem.W.Fast.tw16324385692754382440:=congrArg (fun p:PySem.Program=>(p.main.body.drop 17).take 2) PySem.W.Fast.te3905422191345443102
noncomputable def PySem.W.Fast.tw14336418159074274461:List PySem.Stmt:=(PySem.W.Fast.tw3905422191345443102.main.body.drop 19).take 1
theorem PySem.W.Fast.te14336418159074274461:HD.s193=PySem.W.Fast.tw14336418159074274461:=congrArg (fun p:PySem.Program=>(p.main.body.drop 19).take 1) PySem.W.Fast.te3905422191345443102
noncomputable def PySem.W.Fast.tw15603180158190640421:List PySem.Stmt:=(PySem.W.Fast.tw3905422191345443102.main.body.drop 20).take 5
theorem PySem.W.Fast.te15603180158190640421:HD.s415=PySem.W.Fast.tw15603180158190640421:=congrArg (fun p:PySem.Program=>(p.main.body.drop 20).take 5) PySem.W.Fast.te3905422191345443102
noncomputable def PySem.W.Fast.tw820454973774160373:List PySem.Stmt:=(PySem.W.Fast.tw3905422191345443102.main.body.drop 25).take 1
theorem PySem.W.Fast.te820454973774160373:HD.s441=PySem.W.Fast.tw820454973774160373:=congrArg (fun p:PySem.Program=>(p.main.body.drop 25).take 1) PySem.W.Fast.te3905422191345443102
noncomputable def PySem.W.Fast.tw13195872156826447142:List PySem.Stmt:=(PySem.W.Fast.tw3905422191345443102.main.body.drop 26).take 14
theorem PySem.W.Fast.te13195872156826447142:HD.s666=PySem.W.Fast.tw13195872156826447142:=congrArg (fun p:PySem.Program=>(p.main.body.drop 26).take 14) PySem.W.Fast.te3905422191345443102
noncomputable def PySem.W.Fast.tw15576827953442246130:List PySem.Stmt:=(PySem.W.Fast.tw3905422191345443102.main.body.drop 40).take 6
theorem PySem.W.Fast.te15576827953442246130:HD.s753=PySem.W.Fast.tw15576827953442246130:=congrArg (fun p:PySem.Program=>(p.main.body.drop 40).take 6) PySem.W.Fast.te3905422191345443102
open_top head for PySem.Challenge.rw_treeright_k24_askers_by_name
end
namespace K24
open PySem L2
def FnK (K:PySem.W.Frag) (n q:Str) (st:Stmt) (f:Addr):Prop:=∃ (od an:Option Addr) (sl:Array (Option Value)) (oc kV dc pm cd ct:Value),K.lookup f=some ⟨oc,od,.func (PySem.W.fnOf n q (x0 st) (xM st) (zG st) .none kV dc pm an cd ct),sl⟩/\PySem.W.codeIn K cd q=true/\PySem.W.keepIn K (.ref f)=true
def FgK (K:PySem.W.Frag) (n:Str) (st:Stmt):Prop:=∃ f,PySem.W.nsIn K mainGlobals n=some (some (.ref f))/\FnK K n n st f
def MtK (K:PySem.W.Frag) (C:Addr) (n q:Str) (st:Stmt):Prop:=∃ f,PySem.W.findIn K (.ref C) n=some (some (.ref f))/\PySem.W.isFn K (.ref f)=true/\FnK K n q st f
theorem yL {K:PySem.W.Frag} {h:Heap} {mg:Str->Option Value} {n:Str} {st:Stmt} {ps:List Str} (X:K.In h) (G:h.Ns mainGlobals mg) (l:FgK K n st)
  (hb:∀ (kV doc pm:Value) (an:Option Addr) (cdv ct:Value) (us:List Value),us.length=ps.length->bindArgs (PySem.W.fnOf n n (x0 st) (xM st) (zG st) .none kV doc pm an cdv ct) ⟨us,[]⟩=pure (ps.zip us)):yW K mg n st ps:=by
 obtain ⟨f,a,od,an,sl,oc,kV,dc,pm,cd,ct,l,c,k⟩:=l
 exact zAI X G a l c k hb
theorem yU {K:PySem.W.Frag} {C:Addr} {n q:Str} {st:Stmt} {ps:List Str} (l:MtK K C n q st)
  (hb:∀ (kV doc pm:Value) (an:Option Addr) (cdv ct:Value) (us:List Value),us.length=ps.length->bindArgs (PySem.W.fnOf n q (x0 st) (xM st) (zG st) .none kV doc pm an cdv ct) ⟨us,[]⟩=pure (ps.zip us)):y3 K C n q st ps:=by
 obtain ⟨f,a,i,od,an,sl,oc,kV,dc,pm,cd,ct,l,c,k⟩:=l
 exact aY a i l c k hb
structure ClK (K:PySem.W.Frag) (n:Str) (C:Addr):Prop where
 a:PySem.W.nsIn K mainGlobals n=some (some (.ref C))
 pg:PySem.W.plainGet K C Str.empty=true
 hd:PySem.W.hasDictIn K C=true
 po:PySem.W.plainOver K C=true
 sa:PySem.W.findIn K (.ref C) "__setattr__"=some (some (.builtin "object.__setattr__"))
 ms:PySem.W.makesIn K C=true
 kc:PySem.W.keepIn K (.ref C)=true
theorem all_mk {l:PySem.W.OpenLaw} {w:World} {K:PySem.W.Frag} {h:Heap} {mg:Str->Option Value} {fa:Addr} (X:K.In h) (G:h.Ns mainGlobals mg) (hfa:mg "law"=some (.ref fa))
  {fL:Addr} {CS:Addr} {C:Addr} {t_LETTERS:Tok} {t_LONGEST_NAME:Tok}
  (l0:FgK K "is_name" mG)
  (l1:FgK K "is_whole" sWh)
  (l2:FgK K "is_one_of" oN)
  (l3:FgK K "are_names" mH)
  (l4:FgK K "are_unlike" b0)
  (l5:FgK K "are_neighbours" sNb)
  (l6:FgK K "are_arrows" eE)
  (l7:FgK K "check_right" sCk)
  (l8:FgK K "check_asker" j7)
  (l9:FgK K "check_house" j6)
  (l10:FgK K "numbered" sNu)
  (l11:FgK K "_law_cell_at" j8)
  (l12:FgK K "_law_mixed" oP)
  (l13:FgK K "_law_digits" rS)
  (l14:FgK K "_law_next" jX)
  (l15:FgK K "_law_names" sK)
  (l16:FgK K "_law_alike" qA)
  (l17:FgK K "_law_made" sMd)
  (l18:FgK K "_law_state" oK)
  (l19:FgK K "_law_moved" oO)
  (l20:FgK K "_law_made_at" jZ)
  (l21:FgK K "_law_chosen" sCh)
  (l22:FgK K "_law_seat_of" sSO)
  (l23:FgK K "_law_numbered" sLN)
  (l24:FgK K "_law_good_deeds" sGd)
  (l25:FgK K "_law_done" sDn)
  (l26:FgK K "_law_put" sPu)
  (l27:FgK K "_law_noted" sNo)
  (aL:PySem.W.nsIn K mainGlobals "law"=some (some (.ref fL))) (lL:FnK K "law" "law" pF fL)
  (k_CS:ClK K "Seat" CS)
  (mCS0:MtK K CS "__init__" "Seat.__init__" j3)
  (mCS1:MtK K CS "arrow" "Seat.arrow" oR)
  (mCS2:MtK K CS "row" "Seat.row" b5)
  (mCS3:MtK K CS "inside" "Seat.inside" rR)
  (mCS4:MtK K CS "askers" "Seat.askers" sSA)
  (mCS5:MtK K CS "crowd" "Seat.crowd" sCr)
  (mCS6:MtK K CS "want" "Seat.want" jW)
  (mCS7:MtK K CS "leave" "Seat.leave" oQ)
  (mCS8:MtK K CS "done" "Seat.done" j4)
  (mCS9:MtK K CS "ask" "Seat.ask" b8)
  (mCS10:MtK K CS "come" "Seat.come" j5)
  (mCS11:MtK K CS "move_on" "Seat.move_on" jY)
  (mCS12:MtK K CS "serve_first" "Seat.serve_first" oM)
  (n_CS_pointer:PySem.W.findIn K (.ref CS) "pointer"=some none)
  (n_CS_waiting:PySem.W.findIn K (.ref CS) "waiting"=some none)
  (n_CS_holder:PySem.W.findIn K (.ref CS) "holder"=some none)
  (n_CS_asked:PySem.W.findIn K (.ref CS) "asked"=some none)
  (k_C:ClK K "House" C)
  (mC0:MtK K C "__init__" "House.__init__" sHI)
  (mC1:MtK K C "row" "House.row" b6)
  (mC2:MtK K C "inside" "House.inside" b7)
  (mC3:MtK K C "askers" "House.askers" eC)
  (mC4:MtK K C "rights_wanted" "House.rights_wanted" sRW)
  (mC5:MtK K C "right_of" "House.right_of" sRO)
  (mC6:MtK K C "best_right" "House.best_right" sBR)
  (mC7:MtK K C "check_letter" "House.check_letter" sCL)
  (mC8:MtK K C "want" "House.want" sHW)
  (mC9:MtK K C "leave" "House.leave" sHL)
  (mC10:MtK K C "done" "House.done" sHD)
  (mC11:MtK K C "ask" "House.ask" sHK)
  (mC12:MtK K C "come" "House.come" sHC)
  (n_C_name:PySem.W.findIn K (.ref C) "name"=some none)
  (n_C_nearby:PySem.W.findIn K (.ref C) "nearby"=some none)
  (n_C_seats:PySem.W.findIn K (.ref C) "seats"=some none)
  (z_isinstance:PySem.W.nsIn K mainGlobals "isinstance"=some none)
  (z_str:PySem.W.nsIn K mainGlobals "str"=some none)
  (z_int:PySem.W.nsIn K mainGlobals "int"=some none)
  (z_bool:PySem.W.nsIn K mainGlobals "bool"=some none)
  (z_len:PySem.W.nsIn K mainGlobals "len"=some none)
  (z_all:PySem.W.nsIn K mainGlobals "all"=some none)
  (z_range:PySem.W.nsIn K mainGlobals "range"=some none)
  (z_list:PySem.W.nsIn K mainGlobals "list"=some none)
  (z_tuple:PySem.W.nsIn K mainGlobals "tuple"=some none)
  (z_set:PySem.W.nsIn K mainGlobals "set"=some none)
  (z_sorted:PySem.W.nsIn K mainGlobals "sorted"=some none)
  (z_enumerate:PySem.W.nsIn K mainGlobals "enumerate"=some none)
  (z_min:PySem.W.nsIn K mainGlobals "min"=some none)
  (g_LETTERS:PySem.W.nsIn K mainGlobals "LETTERS"=some (some (.str "abcdefghijklmnopqrstuvwxyz" t_LETTERS)))
  (g_LONGEST_NAME:PySem.W.nsIn K mainGlobals "LONGEST_NAME"=some (some (.int 8 t_LONGEST_NAME))) :
  ∃ fd:FuncData,(∀ (s:Shared) (v:Value),BindsTo s fd ⟨[v],[]⟩ [("_law_script",v)])/\∀ base:Heap,K.In base->base.Ns mainGlobals mg->uW l.prog w K mg base CX0 7 fa fd ["_law_script"] (jT K):=by
 have e:=hfa.symm.trans (PySem.W.mg_of X G aL)
 cases e
 obtain ⟨od,an,sl,oc,kV,dc,pm,cd,ct,lL,cL,kL⟩:=lL
 have GI:yW K mg "is_name" mG ["thing"]:=yL X G l0 (fun _ _ _ _ _ _ us hl=>match us,hl with | [_],_=>rfl)
 have GWh:yW K mg "is_whole" sWh ["thing"]:=yL X G l1 (fun _ _ _ _ _ _ us hl=>match us,hl with | [_],_=>rfl)
 have GOO:yW K mg "is_one_of" oN ["thing","houses"]:=yL X G l2 (fun _ _ _ _ _ _ us hl=>match us,hl with | [_,_],_=>rfl)
 have GAN:yW K mg "are_names" mH ["thing"]:=yL X G l3 (fun _ _ _ _ _ _ us hl=>match us,hl with | [_],_=>rfl)
 have GAU:yW K mg "are_unlike" b0 ["names"]:=yL X G l4 (fun _ _ _ _ _ _ us hl=>match us,hl with | [_],_=>rfl)
 have GNb:yW K mg "are_neighbours" sNb ["thing","name"]:=yL X G l5 (fun _ _ _ _ _ _ us hl=>match us,hl with | [_,_],_=>rfl)
 have GAr:yW K mg "are_arrows" eE ["thing","neighbours"]:=yL X G l6 (fun _ _ _ _ _ _ us hl=>match us,hl with | [_,_],_=>rfl)
 have GCk:yW K mg "check_right" sCk ["right","many"]:=yL X G l7 (fun _ _ _ _ _ _ us hl=>match us,hl with | [_,_],_=>rfl)
 have GCA:yW K mg "check_asker" j7 ["asker"]:=yL X G l8 (fun _ _ _ _ _ _ us hl=>match us,hl with | [_],_=>rfl)
 have GCH:yW K mg "check_house" j6 ["house"]:=yL X G l9 (fun _ _ _ _ _ _ us hl=>match us,hl with | [_],_=>rfl)
 have GNu:yW K mg "numbered" sNu ["right","told"]:=yL X G l10 (fun _ _ _ _ _ _ us hl=>match us,hl with | [_,_],_=>rfl)
 have GC:yW K mg "_law_cell_at" j8 ["_law_script","_law_k"]:=yL X G l11 (fun _ _ _ _ _ _ us hl=>match us,hl with | [_,_],_=>rfl)
 have GM:yW K mg "_law_mixed" oP ["_law_cell","_law_k"]:=yL X G l12 (fun _ _ _ _ _ _ us hl=>match us,hl with | [_,_],_=>rfl)
 have GD:yW K mg "_law_digits" rS ["_law_cell"]:=yL X G l13 (fun _ _ _ _ _ _ us hl=>match us,hl with | [_],_=>rfl)
 have GN:yW K mg "_law_next" jX ["_law_source","_law_many"]:=yL X G l14 (fun _ _ _ _ _ _ us hl=>match us,hl with | [_,_],_=>rfl)
 have GNa:yW K mg "_law_names" sK ["_law_source","_law_many"]:=yL X G l15 (fun _ _ _ _ _ _ us hl=>match us,hl with | [_,_],_=>rfl)
 have GAl:yW K mg "_law_alike" qA ["_law_found","_law_due"]:=yL X G l16 (fun _ _ _ _ _ _ us hl=>match us,hl with | [_,_],_=>rfl)
 have GMd:yW K mg "_law_made" sMd ["_law_cell"]:=yL X G l17 (fun _ _ _ _ _ _ us hl=>match us,hl with | [_],_=>rfl)
 have GSt:yW K mg "_law_state" oK ["_law_arrow"]:=yL X G l18 (fun _ _ _ _ _ _ us hl=>match us,hl with | [_],_=>rfl)
 have GMo:yW K mg "_law_moved" oO ["_law_state_here"]:=yL X G l19 (fun _ _ _ _ _ _ us hl=>match us,hl with | [_],_=>rfl)
 have GMa:yW K mg "_law_made_at" jZ ["_law_state_here","_law_deed"]:=yL X G l20 (fun _ _ _ _ _ _ us hl=>match us,hl with | [_,_],_=>rfl)
 have GCh:yW K mg "_law_chosen" sCh ["_law_states"]:=yL X G l21 (fun _ _ _ _ _ _ us hl=>match us,hl with | [_],_=>rfl)
 have GSO:yW K mg "_law_seat_of" sSO ["_law_states","_law_asker"]:=yL X G l22 (fun _ _ _ _ _ _ us hl=>match us,hl with | [_,_],_=>rfl)
 have GLN:yW K mg "_law_numbered" sLN ["_law_told_here","_law_right"]:=yL X G l23 (fun _ _ _ _ _ _ us hl=>match us,hl with | [_,_],_=>rfl)
 have GGd:yW K mg "_law_good_deeds" sGd ["_law_states","_law_askers","_law_neighbours"]:=yL X G l24 (fun _ _ _ _ _ _ us hl=>match us,hl with | [_,_,_],_=>rfl)
 have GDn:yW K mg "_law_done" sDn ["_law_states","_law_deed"]:=yL X G l25 (fun _ _ _ _ _ _ us hl=>match us,hl with | [_,_],_=>rfl)
 have GPu:yW K mg "_law_put" sPu ["_law_house","_law_deed"]:=yL X G l26 (fun _ _ _ _ _ _ us hl=>match us,hl with | [_,_],_=>rfl)
 have GNo:yW K mg "_law_noted" sNo ["_law_table","_law_deed","_law_told_here","_law_house","_law_many"]:=yL X G l27 (fun _ _ _ _ _ _ us hl=>match us,hl with | [_,_,_,_,_],_=>rfl)
 have FL:=tN (st:=pF) lL cL kL
 have cl_CS:Cls K CS:=⟨k_CS.pg,k_CS.hd,k_CS.po,k_CS.sa⟩
 obtain ⟨fiCS,aiCS,iiCS,_,_,_,_,_,_,_,_,_,liCS,ciCS,kiCS⟩:=mCS0
 have mIF:=tN (st:=j3) liCS ciCS kiCS
 have mIB:=mIF.binds (ps:=["self","arrow"]) (fun _ _ _ _ _ _ us hl=>match us,hl with | [_,_],_=>rfl)
 have mIM:Mk K CS fiCS:=⟨k_CS.ms,aiCS,iiCS,k_CS.kc⟩
 have mA:y3 K CS "arrow" "Seat.arrow" oR ["self"]:=yU mCS1 (fun _ _ _ _ _ _ us hl=>match us,hl with | [_],_=>rfl)
 have mR:y3 K CS "row" "Seat.row" b5 ["self"]:=yU mCS2 (fun _ _ _ _ _ _ us hl=>match us,hl with | [_],_=>rfl)
 have mIn:y3 K CS "inside" "Seat.inside" rR ["self"]:=yU mCS3 (fun _ _ _ _ _ _ us hl=>match us,hl with | [_],_=>rfl)
 have mSA:y3 K CS "askers" "Seat.askers" sSA ["self"]:=yU mCS4 (fun _ _ _ _ _ _ us hl=>match us,hl with | [_],_=>rfl)
 have mCr:y3 K CS "crowd" "Seat.crowd" sCr ["self"]:=yU mCS5 (fun _ _ _ _ _ _ us hl=>match us,hl with | [_],_=>rfl)
 have mW:y3 K CS "want" "Seat.want" jW ["self","asker"]:=yU mCS6 (fun _ _ _ _ _ _ us hl=>match us,hl with | [_,_],_=>rfl)
 have mL:y3 K CS "leave" "Seat.leave" oQ ["self","asker"]:=yU mCS7 (fun _ _ _ _ _ _ us hl=>match us,hl with | [_,_],_=>rfl)
 have mD:y3 K CS "done" "Seat.done" j4 ["self","asker"]:=yU mCS8 (fun _ _ _ _ _ _ us hl=>match us,hl with | [_,_],_=>rfl)
 have mK:y3 K CS "ask" "Seat.ask" b8 ["self","house"]:=yU mCS9 (fun _ _ _ _ _ _ us hl=>match us,hl with | [_,_],_=>rfl)
 have mC:y3 K CS "come" "Seat.come" j5 ["self","house","back"]:=yU mCS10 (fun _ _ _ _ _ _ us hl=>match us,hl with | [_,_,_],_=>rfl)
 have mM:y3 K CS "move_on" "Seat.move_on" jY ["self"]:=yU mCS11 (fun _ _ _ _ _ _ us hl=>match us,hl with | [_],_=>rfl)
 have mS:y3 K CS "serve_first" "Seat.serve_first" oM ["self"]:=yU mCS12 (fun _ _ _ _ _ _ us hl=>match us,hl with | [_],_=>rfl)
 have mg_CS:=PySem.W.mg_of X G k_CS.a
 have cl_C:Cls K C:=⟨k_C.pg,k_C.hd,k_C.po,k_C.sa⟩
 obtain ⟨fiC,aiC,iiC,_,_,_,_,_,_,_,_,_,liC,ciC,kiC⟩:=mC0
 have hIF:=tN (st:=sHI) liC ciC kiC
 have hIB:=hIF.binds (ps:=["self","name","neighbours","arrows"]) (fun _ _ _ _ _ _ us hl=>match us,hl with | [_,_,_,_],_=>rfl)
 have hIM:Mk K C fiC:=⟨k_C.ms,aiC,iiC,k_C.kc⟩
 have hR:y3 K C "row" "House.row" b6 ["self","right"]:=yU mC1 (fun _ _ _ _ _ _ us hl=>match us,hl with | [_,_],_=>rfl)
 have hIn:y3 K C "inside" "House.inside" b7 ["self","right"]:=yU mC2 (fun _ _ _ _ _ _ us hl=>match us,hl with | [_,_],_=>rfl)
 have hAs:y3 K C "askers" "House.askers" eC ["self"]:=yU mC3 (fun _ _ _ _ _ _ us hl=>match us,hl with | [_],_=>rfl)
 have hRW:y3 K C "rights_wanted" "House.rights_wanted" sRW ["self"]:=yU mC4 (fun _ _ _ _ _ _ us hl=>match us,hl with | [_],_=>rfl)
 have hRO:y3 K C "right_of" "House.right_of" sRO ["self","asker"]:=yU mC5 (fun _ _ _ _ _ _ us hl=>match us,hl with | [_,_],_=>rfl)
 have hBR:y3 K C "best_right" "House.best_right" sBR ["self"]:=yU mC6 (fun _ _ _ _ _ _ us hl=>match us,hl with | [_],_=>rfl)
 have hCL:y3 K C "check_letter" "House.check_letter" sCL ["self","house","right"]:=yU mC7 (fun _ _ _ _ _ _ us hl=>match us,hl with | [_,_,_],_=>rfl)
 have hW:y3 K C "want" "House.want" sHW ["self","asker","right"]:=yU mC8 (fun _ _ _ _ _ _ us hl=>match us,hl with | [_,_,_],_=>rfl)
 have hL:y3 K C "leave" "House.leave" sHL ["self","asker"]:=yU mC9 (fun _ _ _ _ _ _ us hl=>match us,hl with | [_,_],_=>rfl)
 have hD:y3 K C "done" "House.done" sHD ["self","asker"]:=yU mC10 (fun _ _ _ _ _ _ us hl=>match us,hl with | [_,_],_=>rfl)
 have hK:y3 K C "ask" "House.ask" sHK ["self","house","right"]:=yU mC11 (fun _ _ _ _ _ _ us hl=>match us,hl with | [_,_,_],_=>rfl)
 have hC:y3 K C "come" "House.come" sHC ["self","house","right","back"]:=yU mC12 (fun _ _ _ _ _ _ us hl=>match us,hl with | [_,_,_,_],_=>rfl)
 have mg_C:=PySem.W.mg_of X G k_C.a
 have b_isinstance:Blt mg "isinstance":=⟨PySem.W.mg_none_of X G z_isinstance⟩
 have b_str:Blt mg "str":=⟨PySem.W.mg_none_of X G z_str⟩
 have b_int:Blt mg "int":=⟨PySem.W.mg_none_of X G z_int⟩
 have b_bool:Blt mg "bool":=⟨PySem.W.mg_none_of X G z_bool⟩
 have b_len:Blt mg "len":=⟨PySem.W.mg_none_of X G z_len⟩
 have b_all:Blt mg "all":=⟨PySem.W.mg_none_of X G z_all⟩
 have b_range:Blt mg "range":=⟨PySem.W.mg_none_of X G z_range⟩
 have b_list:Blt mg "list":=⟨PySem.W.mg_none_of X G z_list⟩
 have b_tuple:Blt mg "tuple":=⟨PySem.W.mg_none_of X G z_tuple⟩
 have b_set:Blt mg "set":=⟨PySem.W.mg_none_of X G z_set⟩
 have b_sorted:Blt mg "sorted":=⟨PySem.W.mg_none_of X G z_sorted⟩
 have b_enumerate:Blt mg "enumerate":=⟨PySem.W.mg_none_of X G z_enumerate⟩
 have b_min:Blt mg "min":=⟨PySem.W.mg_none_of X G z_min⟩
 have gl_LETTERS:Glo mg "LETTERS" (.str abc):=⟨_,PySem.W.mg_of X G g_LETTERS,⟨_,rfl⟩⟩
 have gl_LONGEST_NAME:Glo mg "LONGEST_NAME" (.int 8):=⟨_,PySem.W.mg_of X G g_LONGEST_NAME,⟨_,rfl⟩⟩
 refine ⟨PySem.W.fnOf "law" "law" (x0 pF) (xM pF) (zG pF) .none kV dc pm an cd ct,fun s v=>.of_eq rfl,fun base _ _=>?_⟩
 have TS:x8 K CS:=⟨cl_CS,n_CS_pointer,n_CS_waiting,n_CS_holder,n_CS_asked⟩
 have T:x9 K C:=⟨cl_C,n_C_name,n_C_nearby,n_C_seats⟩
 have CI:=zCZ (P:=l.prog) (w:=w) (base:=base) GI b_isinstance b_str b_len b_all gl_LETTERS gl_LONGEST_NAME
 have CWh:=okWh (P:=l.prog) (w:=w) (base:=base) GWh b_isinstance b_int b_bool
 have CO2:=zCX GOO CI
 have CAN:=zC8 GAN CI b_isinstance b_list b_all
 have CAU:=zE6 (P:=l.prog) (w:=w) (base:=base) GAU b_len b_set
 have CNb:=okNb GNb CAN CAU
 have CAr:=zFD GAr CO2 b_isinstance b_list b_len b_all
 have CCk:=okCk GCk CWh
 have CCA:=zC6 GCA CI
 have CCH:=zC5 GCH CI
 have CNu:=okNu (P:=l.prog) (w:=w) (base:=base) GNu
 have MS:=aQ (P:=l.prog) (w:=w) (mg:=mg) (base:=base) TS mS b_len
 have MM:=zC0 TS mM MS
 have MA:=aV (P:=l.prog) (w:=w) (mg:=mg) (base:=base) TS mA
 have MR:=zE7 (P:=l.prog) (w:=w) (mg:=mg) (base:=base) TS mR b_list
 have MIn:=dE (P:=l.prog) (w:=w) (mg:=mg) (base:=base) TS mIn
 have MSA:=okSA (P:=l.prog) (w:=w) (mg:=mg) (base:=base) TS mSA
 have MCr:=okCr (P:=l.prog) (w:=w) (mg:=mg) (base:=base) TS mCr b_len
 have MW:=zCW TS mW CCA MM
 have ML:=aU TS mL CCA MM
 have MD:=zC3 TS mD CCA MM
 have MK:=zFC TS mK CCH MM
 have MC:=zC4 TS mC CCH MM b_isinstance b_bool
 have MKS:lQ l.prog w K mg base CX0 2 CS "Seat" ["self","arrow"] (lX CS):=⟨_,_,zC2 TS mIF CI,mIM,mg_CS,mIB⟩
 have MH:lQ l.prog w K mg base CX0 4 C "House" ["self","name","neighbours","arrows"] (zB4 K C CS):=⟨_,_,okHI T hIF CI CNb CAr MKS b_list,hIM,mg_C,hIB⟩
 have HR:=zE9 T TS hR CCk MR b_len
 have HI:=zFA T TS hIn CCk MIn b_len
 have HAs:=zFB T TS hAs MSA b_sorted b_enumerate
 have HRW:=okRW T hRW HAs
 have HRO:=okRO T hRO CCA HRW
 have HBR:=okBR T TS hBR MCr MA b_min b_enumerate
 have HCL:=okCL (CS:=CS) T hCL CO2 CCk b_len
 have HW:=okHW T TS hW CCA CCk HRW HBR MW CNu b_len
 have HL:=okHL T TS hL HRO ML CNu
 have HD:=okHD T TS hD HRO MD CNu
 have HK:=okHK T TS hK HCL MK CNu
 have HC:=okHC T TS hC HCL MC CNu
 have CM:=aT (P:=l.prog) (w:=w) (base:=base) GM
 have CD:=dF (P:=l.prog) (w:=w) (base:=base) GD
 have CN:=zCY GN CM
 have CC:=zC7 (P:=l.prog) (w:=w) (base:=base) GC b_len
 have CNa:=aR GNa CN b_range
 have CA:=iD (P:=l.prog) (w:=w) (base:=base) GAl b_isinstance b_list b_tuple b_bool b_len b_all b_range 5
 have CMd:=okMd GMd CD CN CNa b_len b_range
 have CSt:=aP (P:=l.prog) (w:=w) (base:=base) GSt
 have CMo:=aS (P:=l.prog) (w:=w) (base:=base) GMo
 have CMa:=zC1 GMa CMo
 have CCh:=okCh (P:=l.prog) (w:=w) (base:=base) GCh b_len b_range b_int
 have CSO:=okSO (P:=l.prog) (w:=w) (base:=base) GSO b_len b_range
 have CLN:=okLN (P:=l.prog) (w:=w) (base:=base) GLN
 have CGd:=okGd GGd CSO b_len b_range b_list
 have CDn:=okDn GDn CSO CCh CMa CLN
 have CPu:=okPu T GPu HW HL HD HK HC
 have CNo:=okNo T GNo HR HI b_range
 exact zE8 T FL CC CD CN CMd MH CSt CGd CDn CPu CNo HAs HL CA b_len b_list b_sorted b_range
theorem walk {l:PySem.W.OpenLaw} {q:Program} {loose:List Str} {XP:(Str->Option Value)->Heap->Prop} {YP:World->Heap->Prop} {d:DefRec} {K:Params->PySem.W.Frag} (hn:l.most=some 63) (hdf:d.params.defaults=[])
  (hY:∀ (w:World) (h:Heap),YP w h->(K w.params).In h)
  (F:∀ (w:World) (mg:Str->Option Value) (fa:Addr) (h:Heap),(K w.params).In h->h.Ns mainGlobals mg->mg d.name=some (.ref fa) ->
   ∃ fd:FuncData,(∀ (s:Shared) (u:Value),BindsTo s fd ⟨[u],[]⟩ [("_law_script",u)])/\∀ base:Heap,(K w.params).In base->base.Ns mainGlobals mg->uW l.prog w (K w.params) mg base CX0 7 fa fd ["_law_script"] (jT (K w.params))) :
  PySem.W.WalkO q loose XP YP l.row.toRowW d [] (fun f vs=>PySem.call f vs):=
 L2.walk_of (n:=63) (k:=7) (x:="_law_script") (CX:=fun _=>CX0) (sp:=fun w=>jT (K w.params)) hn (by decide) hdf ⟨rfl,by decide,by decide⟩ hY F (fun _ _ a ns hl _ hS=>⟨a,ns,rfl,hS,hl,fun _=>rfl⟩) fun _ _ _ _ _ z=>z
end K24
open PySem PySem.W PyProof.Rows
set_option maxRecDepth 100000 in
set_option maxHeartbeats 0 in
theorem PySem.Challenge.cw_treeright_k24_askers_by_name_holds : PySem.Challenge.rw_treeright_k24_askers_by_name.Holds := by
 refine head ?_
 k_fill
 refine K24.walk (l:=PySem.Challenge.rw_treeright_k24_askers_by_name) rfl rfl (fun w h Y=>PySem.W.kIn_of Y) ?F
 case F=>
  intro w mg fa h KX G hmg
  refine' K24.all_mk KX G hmg ?l0 ?l1 ?l2 ?l3 ?l4 ?l5 ?l6 ?l7 ?l8 ?l9 ?l10 ?l11 ?l12 ?l13 ?l14 ?l15 ?l16 ?l17 ?l18 ?l19 ?l20 ?l21 ?l22 ?l23 ?l24 ?l25 ?l26 ?l27 ?aL ?lL ?k_CS ?mCS0 ?mCS1 ?mCS2 ?mCS3 ?mCS4 ?mCS5 ?mCS6 ?mCS7 ?mCS8 ?mCS9 ?mCS10 ?mCS11 ?mCS12 ?n_CS_pointer ?n_CS_waiting ?n_CS_holder ?n_CS_asked ?k_C ?mC0 ?mC1 ?mC2 ?mC3 ?mC4 ?mC5 ?mC6 ?mC7 ?mC8 ?mC9 ?mC10 ?mC11 ?mC12 ?n_C_name ?n_C_nearby ?n_C_seats ?z_isinstance ?z_str ?z_int ?z_bool ?z_len ?z_all ?z_range ?z_list ?z_tuple ?z_set ?z_sorted ?z_enumerate ?z_min ?g_LETTERS ?g_LONGEST_NAME
  (case aL=>k_is)
  (case lL=>exact ⟨_,_,_,_,_,_,_,_,_,by k_is,by k_is,by k_is⟩)
  (case l0 | l1 | l2 | l3 | l4 | l5 | l6 | l7 | l8 | l9 | l10 | l11 | l12 | l13 | l14 | l15 | l16 | l17 | l18 | l19 | l20 | l21 | l22 | l23 | l24 | l25 | l26 | l27=>exact ⟨_,by k_is,_,_,_,_,_,_,_,_,_,by k_is,by k_is,by k_is⟩)
  (case k_CS | k_C=>exact ⟨by k_is,by k_is,by k_is,by k_is,by k_is,by k_is,by k_is⟩)
  (case mCS0 | mCS1 | mCS2 | mCS3 | mCS4 | mCS5 | mCS6 | mCS7 | mCS8 | mCS9 | mCS10 | mCS11 | mCS12 | mC0 | mC1 | mC2 | mC3 | mC4 | mC5 | mC6 | mC7 | mC8 | mC9 | mC10 | mC11 | mC12=>exact ⟨_,by k_is,by k_is,_,_,_,_,_,_,_,_,_,by k_is,by k_is,by k_is⟩)
  (case n_CS_pointer | n_CS_waiting | n_CS_holder | n_CS_asked | n_C_name | n_C_nearby | n_C_seats | z_isinstance | z_str | z_int | z_bool | z_len | z_all | z_range | z_list | z_tuple | z_set | z_sorted | z_enumerate | z_min | g_LETTERS | g_LONGEST_NAME=>k_is)
