import PyProof.Rows.All
import Wide.All
import OpenK.AllK
import Wide.FinOn
import Lean
import PyProof.EqAt
import PyProof.EqKinds
import PyProof.TupleCall
import PySem.Challenge.RW_treeright_k26_whole_seats_side_by_side
noncomputable section
def zGH:=@List.length_map
def zGI:=@List.getElem?_eq_getElem
def zGJ:=@List.getElem?_eq_some_iff
def zGK:=@List.mem_singleton
def zGL:=@List.mem_of_getElem?
def zGM:=@List.getD_eq_getElem?_getD
def zGN:=@List.getElem?_map
def zGO:=@Option.some.inj
def zGP:=@List.size_toArray
def zGQ:=@Nat.le_refl
def zGR:=@Nat.zero_le
def zGS:=@Nat.le_trans
def zGT:=@List.map_append
def zGU:=@List.mem_cons_of_mem
def zGV:=@List.mem_append_right
def zGW:=@decide_eq_true
def zGX:=@decide_eq_false
def zGY:=@List.mem_append
def zGZ:=@List.length_append
def zG0:=@List.length_take
def zG1:=@List.map_map
def zG2:=@List.length_cons
def zG3:=@Nat.lt_of_lt_of_le
def zG4:=@List.getElem?_append_right
def zG5:=@List.getElem?_append_left
def zG6:=@List.take_of_length_le
def zG7:=@List.length_pos_iff
def zG8:=@Nat.ne_of_lt
def zG9:=@Bool.false_ne_true
def zHA:=@List.mem_cons_self
def zHB:=@List.not_mem_nil
def zHC:=@List.append_assoc
def zHD:=@List.getElem?_set_ne
def zHE:=@List.getElem?_set_self
def zHF:=@List.length_filter_le
def zHG:=@Array.getD_eq_getD_getElem?
def zHH:=@List.take_length
def zHI:=@List.length_set
set_option Elab.async false
set_option linter.all false
set_option maxRecDepth 100000
namespace L2
open PySem PySem.Spec PyProof.Rows
abbrev Key:=Sum Int Str
noncomputable def pQ:Key->Value->Bool
 | .inl k,v=>Value.isInt k v
 | .inr x,v=>Value.isStrOf x v
noncomputable def keyH (w:World):Key->Int
 | .inl k=>hashInt k
 | .inr x=>hashStr w x
theorem xS:∀ {k:Key} {v:Value},pQ k v=true->(∃ i t,k=Sum.inl i/\v=Value.int i t) \/ (∃ x t,k=Sum.inr x/\v=Value.str x t)
 | .inl i,v,h=>by
  obtain ⟨t,e⟩:=Value.isInt_shape (k:=i) (v:=v) h
  exact .inl ⟨i,t,rfl,e⟩
 | .inr x,v,h=>by
  obtain ⟨t,e⟩:=Value.isStrOf_shape (x:=x) (v:=v) h
  exact .inr ⟨x,t,rfl,e⟩
theorem gB (i:Int) (t:Tok):pQ (.inl i) (.int i t)=true:=by simp [pQ,Value.isInt]
theorem hZ (x:Str) (t:Tok):pQ (.inr x) (.str x t)=true:=by simp [pQ,Value.isStrOf]
theorem zDN (a b:Int):decide ((Sum.inl a:Key)=Sum.inl b)=(a == b):=by
 by_cases e:a=b
 ·subst e;simp
 ·have h:¬ (Sum.inl a:Key)=Sum.inl b:=fun q=>e (Sum.inl.inj q)
  rw [zGX h]
  exact (beq_eq_false_iff_ne.mpr e).symm
theorem zDK (a b:Str):decide ((Sum.inr a:Key)=Sum.inr b)=decide (a=b):=by
 by_cases e:a=b
 ·subst e;simp
 ·have h:¬ (Sum.inr a:Key)=Sum.inr b:=fun q=>e (Sum.inr.inj q)
  rw [zGX h,zGX e]
theorem zDM (a:Int) (b:Str):decide ((Sum.inl a:Key)=Sum.inr b)=false:=zGX (fun q=>nomatch q)
theorem zDL (a:Str) (b:Int):decide ((Sum.inr a:Key)=Sum.inl b)=false:=zGX (fun q=>nomatch q)
noncomputable def x0 (prog:Program) (w:World):PySem.KeyKind prog w Key where
 is:=pQ
 hash:=keyH w
 inj:=fun v a b ha hb=>by
  rcases xS ha with ⟨i,t,rfl,rfl⟩ | ⟨x,t,rfl,rfl⟩
  ·rcases xS hb with ⟨j,u,rfl,e⟩ | ⟨y,u,rfl,e⟩
   ·injection e with e1 _;rw [e1]
   ·exact nomatch e
  ·rcases xS hb with ⟨j,u,rfl,e⟩ | ⟨y,u,rfl,e⟩
   ·exact nomatch e
   ·injection e with e1 _;rw [e1]
 byValue:=fun k v h=>by
  rcases xS h with ⟨i,t,rfl,rfl⟩ | ⟨x,t,rfl,rfl⟩ <;> rfl
 pyHash:=fun hv h=>by
  rcases xS hv with ⟨i,t,rfl,rfl⟩ | ⟨x,t,rfl,rfl⟩
  ·exact wpAny_pyHash_int h
  ·exact wpAny_pyHash_str h
 eqBool:=fun hu hv h=>by
  rcases xS hu with ⟨i,t,rfl,rfl⟩ | ⟨x,t,rfl,rfl⟩
  ·rcases xS hv with ⟨j,u,rfl,rfl⟩ | ⟨y,u,rfl,rfl⟩
   ·rw [zDN] at h;exact wpAny_eqBool_int h
   ·rw [zDM] at h;exact SeqAt.EqAt.int_str i t y u _ _ _ _ h
  ·rcases xS hv with ⟨j,u,rfl,rfl⟩ | ⟨y,u,rfl,rfl⟩
   ·rw [zDL] at h;exact SeqAt.EqAt.str_int x t j u _ _ _ _ h
   ·rw [zDK] at h;exact wpAny_eqBool_str h
 «strs»:=fun k x t v h=>by
  rcases xS h with ⟨i,u,rfl,e⟩ | ⟨y,u,rfl,e⟩
  ·exact nomatch e
  ·injection e with e1 _
   subst e1
   cases v <;> rfl
theorem mZ (prog:Program) (w:World) (i:Int) (t:Tok):(x0 prog w).is (.inl i) (.int i t)=true:=gB i t
theorem mY (prog:Program) (w:World) (x:Str) (t:Tok):(x0 prog w).is (.inr x) (.str x t)=true:=hZ x t
end L2
namespace L2
open PySem PySem.Spec PyProof.Rows
inductive V where
 | non | bl (b:Bool) | int (i:Int) | str (x:Str) | byt (b:Array UInt8) | flt (b:UInt64) | ref (a:Addr) | ty (n:String)
 deriving DecidableEq
def yN:V->Value->Prop
 | .non,u=>u=Value.none
 | .bl b,u=>u=Value.bool b
 | .int i,u=>∃ t,u=Value.int i t
 | .str x,u=>∃ t,u=Value.str x t
 | .byt b,u=>∃ t,u=Value.bytes b t
 | .flt b,u=>∃ t,u=Value.float b t
 | .ref a,u=>u=Value.ref a
 | .ty n,u=>u=Value.type n
abbrev yI:List V->List Value->Prop:=Paired yN
theorem yI.length {xs:List V} {us:List Value} (r:yI xs us):xs.length=us.length:=Paired.length r
theorem yI.get:∀ {xs:List V} {us:List Value} {i:Nat} {x:V},yI xs us->xs[i]?=some x->∃ u,us[i]?=some u/\yN x u
 | _,_,_,_,.nil,e=>by simp at e
 | _,_,0,_,.cons r _,e=>by simp at e;subst e;exact ⟨_,rfl,r⟩
 | _,_,i + 1,x,.cons _ t,e=>by
  obtain ⟨u,h1,h2⟩:=yI.get (i:=i) (x:=x) t (by simpa using e)
  exact ⟨u,by simpa using h1,h2⟩
theorem yI.set {x:V} {u:Value} (r:yN x u):∀ {xs:List V} {us:List Value} (i:Nat),yI xs us->yI (xs.set i x) (us.set i u)
 | _,_,_,.nil=>.nil
 | _,_,0,.cons _ t=>.cons r t
 | _,_,i + 1,.cons q t=>.cons q (yI.set r i t)
theorem yI.append {xs ys:List V} {us ws:List Value} (h:yI xs us) (s:yI ys ws):yI (xs ++ ys) (us ++ ws):=by
 induction h with
 | nil=>exact s
 | cons r _ ih=>exact .cons r ih
theorem yI.take:∀ {xs:List V} {us:List Value} (n:Nat),yI xs us->yI (xs.take n) (us.take n)
 | _,_,0,_=>.nil
 | _,_,_ + 1,.nil=>.nil
 | _,_,n + 1,.cons r t=>.cons r (yI.take n t)
theorem yI.drop:∀ {xs:List V} {us:List Value} (n:Nat),yI xs us->yI (xs.drop n) (us.drop n)
 | _,_,0,r=>r
 | _,_,_ + 1,.nil=>.nil
 | _,_,n + 1,.cons _ t=>yI.drop n t
def tH:Option V->Option Value->Prop
 | some v,some u=>yN v u
 | none,none=>True
 | _,_=>False
def KV {κ:Type}:List (κ × V)->List (κ × Value)->Prop:=Paired fun (p:κ × V) (q:κ × Value)=>p.1=q.1/\yN p.2 q.2
noncomputable def kV:Key->V
 | .inl i=>.int i
 | .inr x=>.str x
inductive HO where
 | lst (xs:List V)
 | tup (xs:List V)
 | dK (kvs:List (Key × V)) | dT (kvs:List (List Key × V))
 | set (S:Int->Bool) (n:Nat)
 | ins (C dx:Addr) (fs:List (Str × V))
 | own (x:Addr)
 | xd (fs:List (Str × V))
 | met (f x:Addr)
 | rng (lo hi:Int)
 | frz (o:Obj) (u:HO)
 | tbl (ps:Array Value)
 | ext (φ:Heap->Prop)
abbrev Hp:=Addr->Option HO
noncomputable def upd (H:Hp) (a:Addr) (o:HO):Hp:=fun b=>if b=a then some o else H b
theorem zB {H:Hp} {a:Addr} {o:HO}:upd H a o a=some o:=by unfold upd;rw [if_pos rfl]
theorem zJ {H:Hp} {a b:Addr} {o:HO} (h:b ≠ a):upd H a o b=H b:=by unfold upd;rw [if_neg h]
theorem vZ {H:Hp} {a:Addr} {o u:HO}:upd (upd H a o) a u=upd H a u:=by
 funext b;unfold upd;split <;> rfl
theorem xR {H:Hp} {a b:Addr} {o u:HO} (h:H a=some o) (h':H b=some u) (d:o ≠ u):a ≠ b:=by
 intro e;subst e;rw [h] at h';exact d (zGO h')
theorem zH {H:Hp} {a b:Addr} {o:HO} (h:H a=some o) (h':H b=none):a ≠ b:=by
 intro e;subst e;rw [h] at h';cases h'
section
variable (P:Program) (w:World)
def xP (H:Hp) (h:Heap) (a:Addr):HO->Prop
 | .lst xs=>xs.length <= sizeLine/\∃ (its:List Value) (n:Nat),yI xs its/\h.get? a=some { cls:=.type "list",data:=.seq its.toArray n }
 | .tup xs=>xs.length <= sizeLine/\∃ its:List Value,yI xs its/\IsTup h a its.toArray
 | .dK kvs=>kvs.length <= sizeLine/\(a == sysModules)=false/\∃ vs,KV kvs vs/\h.DictOf (x0 P w) a vs
 | .dT kvs=>kvs.length <= sizeLine/\(a == sysModules)=false/\∃ xs:List (List Key × Addr × Value),
   Paired (fun (p:List Key × V) (q:List Key × Addr × Value)=>p.1=q.1/\H q.2.1=some (.tup (p.1.map kV))/\yN p.2 q.2.2) kvs xs /\
   ∃ o es ep,h.get? a=some o/\o.ExactDict/\o.data=.dict es ep/\es.toList=xs.map (entryOfKey (tupleKind (x0 P w)))/\(xs.map (·.1)).Nodup
 | .set S n=>h.SetOf (intKind P w) a S n
 | .ins C dx fs=>H dx=some (.own a)/\fs.length <= 1000/\dx ≠ a/\h.get? a=some (PySem.W.instObj C dx) /\
   ∃ mA,h.Ns1 dx mA/\(∀ f,tH (fs.lookup f) (mA f))/\PySem.Within mA (fs.map (·.1))
 | .own _=>∃ o,h.get? a=some o
 | .xd fs=>∃ mA,h.Ns1 a mA/\∀ f,tH (fs.lookup f) (mA f)
 | .rng lo hi=>∃ t u v,h.get? a=some { cls:=.type "range",data:=.fields #[.int lo t,.int hi u,.int 1 v] }
 | .frz o u=>h.get? a=some o/\xP H h a u
 | .tbl ps=>h.get? a=some { cls:=.none,data:=.fields ps }
 | .met f x=>h.get? a=some (PySem.W.methodObj (.ref f) (.ref x))
 | .ext φ=>φ h/\(∃ o,h.get? a=some o)/\∀ h1 h2:Heap,φ h1->(∀ o,h1.get? a=some o->h2.get? a=some o)->φ h2
def HOk (H:Hp) (h:Heap):Prop:=∀ a o,H a=some o->xP P w H h a o
end
section
variable {P:Program} {w:World} {H H':Hp} {h h':Heap} {a:Addr} {o:HO}
theorem xP.lt (x:xP P w H h a o):a < h.objs.size:=by
 cases o with
 | lst xs=>obtain ⟨_,_,_,_,e⟩:=x;exact Heap.lt_size e
 | tup xs=>obtain ⟨_,_,_,p⟩:=x;exact p.lt
 | dK kvs=>obtain ⟨_,_,_,_,o,_,_,e,_⟩:=x;exact Heap.lt_size e
 | dT kvs=>obtain ⟨_,_,_,_,o,_,_,e,_⟩:=x;exact Heap.lt_size e
 | set S n=>obtain ⟨o,_,_,_,e,_⟩:=x;exact Heap.lt_size e
 | ins C dx fs=>obtain ⟨_,_,_,e,_⟩:=x;exact Heap.lt_size e
 | own y=>obtain ⟨_,e⟩:=x;exact Heap.lt_size e
 | xd fs=>obtain ⟨_,⟨_,_,_,e,_⟩,_⟩:=x;exact Heap.lt_size e
 | rng lo hi=>obtain ⟨_,_,_,e⟩:=x;exact Heap.lt_size e
 | frz ob u=>obtain ⟨e,_⟩:=x;exact Heap.lt_size e
 | tbl ps=>exact Heap.lt_size (show h.get? a=some _ from x)
 | met f y=>exact Heap.lt_size (show h.get? a=some _ from x)
 | ext φ=>obtain ⟨_,⟨_,e⟩,_⟩:=x;exact Heap.lt_size e
theorem Paired.mapP {α β:Type} {F G:α->β->Prop} {l₁:List α} {l₂:List β} (h:Paired F l₁ l₂) (f:∀ a b,F a b->G a b):Paired G l₁ l₂:=by
 induction h with
 | nil=>exact .nil
 | cons r _ ih=>exact .cons (f _ _ r) ih
theorem xP.stay (x:xP P w H h a o) (k:∀ b u,(b=a \/ H b=some (.own a))->h.get? b=some u->h'.get? b=some u)
  (ho:∀ b,H b=some (.own a)->H' b=some (.own a)) (ht:∀ b xs,H b=some (.tup xs)->H' b=some (.tup xs)):xP P w H' h' a o:=by
 induction o with
 | lst xs=>obtain ⟨z,its,n,r,e⟩:=x;exact ⟨z,its,n,r,k _ _ (.inl rfl) e⟩
 | tup xs=>obtain ⟨z,its,r,ob,e,c⟩:=x;exact ⟨z,its,r,ob,k _ _ (.inl rfl) e,c⟩
 | dK kvs=>obtain ⟨z,y,vs,r,ob,es,ep,e,c⟩:=x;exact ⟨z,y,vs,r,ob,es,ep,k _ _ (.inl rfl) e,c⟩
 | dT kvs=>
  obtain ⟨z,y,xs,r,ob,es,ep,e,c⟩:=x
  exact ⟨z,y,xs,Paired.mapP r fun p q z=>⟨z.1,ht _ _ z.2.1,z.2.2⟩,ob,es,ep,k _ _ (.inl rfl) e,c⟩
 | set S n=>obtain ⟨ob,es,ep,t,e,c⟩:=x;exact ⟨ob,es,ep,t,k _ _ (.inl rfl) e,c⟩
 | ins C dx fs=>
  obtain ⟨d,z,ne,e,mA,⟨od,es,ep,e2,c⟩,r⟩:=x
  exact ⟨ho _ d,z,ne,k _ _ (.inl rfl) e,mA,⟨od,es,ep,k _ _ (.inr d) e2,c⟩,r⟩
 | own y=>obtain ⟨ob,e⟩:=x;exact ⟨ob,k _ _ (.inl rfl) e⟩
 | xd fs=>obtain ⟨mA,⟨od,es,ep,e,c⟩,r⟩:=x;exact ⟨mA,⟨od,es,ep,k _ _ (.inl rfl) e,c⟩,r⟩
 | rng lo hi=>obtain ⟨t,u,v,e⟩:=x;exact ⟨t,u,v,k _ _ (.inl rfl) e⟩
 | frz ob u ih=>obtain ⟨e,q⟩:=x;exact ⟨k _ _ (.inl rfl) e,ih q⟩
 | tbl ps=>
  have e:h.get? a=some { cls:=.none,data:=.fields ps }:=x
  show h'.get? a=some { cls:=.none,data:=.fields ps }
  exact k a _ (.inl rfl) e
 | met f y=>
  have e:h.get? a=some (PySem.W.methodObj (.ref f) (.ref y)):=x
  show h'.get? a=some (PySem.W.methodObj (.ref f) (.ref y))
  exact k a _ (.inl rfl) e
 | ext φ=>obtain ⟨p,⟨o,e⟩,st⟩:=x;exact ⟨st _ _ p fun o q=>k _ _ (.inl rfl) q,⟨o,k _ _ (.inl rfl) e⟩,st⟩
theorem HOk.lt (x:HOk P w H h) (e:H a=some o):a < h.objs.size:=(x a o e).lt
theorem HOk.fresh (x:HOk P w H h) (e:h.objs.size <= a):H a=none:=by
 cases q:H a with
 | none=>rfl
 | some u=>exact absurd (zG3 (x.lt q) e) (Nat.lt_irrefl _)
theorem HOk.kept (x:HOk P w H h) (k:∀ b u,h.get? b=some u->h'.get? b=some u):HOk P w H h':=fun a o e=>
 (x a o e).stay (fun b u _ q=>k b u q) (fun _ q=>q) fun _ _ q=>q
theorem HOk.laid (x:HOk P w H h) (k:∀ b u,h.get? b=some u->h'.get? b=some u) (hp:h.objs.size <= a) (new:xP P w (upd H a o) h' a o):HOk P w (upd H a o) h':=fun b u e=>by
 have hn:=x.fresh hp
 by_cases hb:b=a
 ·subst hb;rw [zB] at e;cases e;exact new
 ·rw [zJ hb] at e
  exact (x b u e).stay (fun c v _ q=>k c v q) (fun c q=>by rw [zJ (zH q hn)];exact q) fun c xs q=>by rw [zJ (zH q hn)];exact q
end
def Rd (H:Hp) (a:Addr) (u:HO):Prop:=H a=some u \/ ∃ o,H a=some (.frz o u)
theorem Rd.ok {P:Program} {w:World} {H:Hp} {h:Heap} {a:Addr} {u:HO} (r:Rd H a u) (x:HOk P w H h):xP P w H h a u:=by
 rcases r with r | ⟨o,r⟩
 ·exact x a u r
 ·obtain ⟨_,q⟩:=x a _ r
  exact q
def Mut:Option HO->Prop
 | some (.lst _)=>True
 | some (.dK _)=>True
 | some (.dT _)=>True
 | some (.set _ _)=>True
 | some (.ins _ _ _)=>True
 | some (.ext _)=>True
 | _=>False
section
variable {P:Program} {w:World} {H:Hp} {h h':Heap} {x e:Addr} {o':HO}
theorem HOk.write (ok:HOk P w H h) (mu:Mut (H x)) (he:e=x \/ H e=some (.own x)) (k:∀ b u,b ≠ e->h.get? b=some u->h'.get? b=some u) (heo:∃ u,h'.get? e=some u)
  (new:xP P w (upd H x o') h' x o'):HOk P w (upd H x o') h':=fun b u q=>by
 have nown:∀ c y,H c=some (.own y)->c ≠ x:=fun c y r z=>by subst z;rw [r] at mu;exact mu
 have ntup:∀ c xs,H c=some (.tup xs)->c ≠ x:=fun c xs r z=>by subst z;rw [r] at mu;exact mu
 by_cases hb:b=x
 ·subst hb;rw [zB] at q;cases q;exact new
 ·rw [zJ hb] at q
  by_cases hbe:b=e
  ·have q':H b=some (.own x):=by
    rcases he with z | z
    ·exact absurd (hbe.trans z) hb
    ·rw [hbe];exact z
   rw [q] at q';cases q'
   obtain ⟨v,hv⟩:=heo
   exact ⟨v,by rw [hbe];exact hv⟩
  ·refine (ok b u q).stay (fun c v hc r=>k c v ?_ r) (fun c r=>by rw [zJ (nown c b r)];exact r) fun c xs r=>by rw [zJ (ntup c xs r)];exact r
   rcases hc with rfl | hc
   ·exact hbe
   ·rintro rfl
    rcases he with z | z
    ·exact nown c b hc z
    ·rw [hc] at z;cases z;exact hb rfl
end
structure Un (fs ex:List Addr) (H H':Hp) (h h':Heap):Prop where
 keep:∀ b o,h.get? b=some o->H b=none->b ∉ fs->b ∉ ex->h'.get? b=some o
 slot:∀ b o,h.get? b=some o->H b=none->b ∈ fs->b ∉ ex->∃ sl,h'.get? b=some { o with slots:=sl }
 free:∀ b o,h.get? b=some o->H b=none->b ∉ ex->H' b=none
 there:∀ b o,h.get? b=some o->b ∉ ex->∃ o',h'.get? b=some o'
 tups:∀ b xs,H b=some (.tup xs)->H' b=some (.tup xs)
 frzs:∀ b o u,H b=some (.frz o u)->H' b=some (.frz o u)
 tbls:∀ b ps,H b=some (.tbl ps)->∃ more,H' b=some (.tbl (ps ++ more))
section
variable {fs fs' ex ex':List Addr} {H H1 H2:Hp} {h h1 h2 h':Heap} {a x e:Addr} {o:HO}
theorem Un.any (u:Un fs ex H H1 h h1) {b:Addr} {ob:Obj} (q:h.get? b=some ob) (n:H b=none) (hx:b ∉ ex):∃ sl,h1.get? b=some { ob with slots:=sl }:=by
 by_cases hb:b ∈ fs
 ·exact u.slot b ob q n hb hx
 ·exact ⟨ob.slots,u.keep b ob q n hb hx⟩
theorem Un.kept (k:∀ b u,h.get? b=some u->h'.get? b=some u):Un fs ex H H h h':=
 ⟨fun b ob q _ _ _=>k b ob q,fun b ob q _ _ _=>⟨ob.slots,k b ob q⟩,fun _ _ _ n _=>n,fun b ob q _=>⟨ob,k b ob q⟩,fun _ _ q=>q,fun _ _ _ q=>q,fun _ ps q=>⟨#[],by rw [q];simp⟩⟩
theorem Un.refl:Un fs ex H H h h:=Un.kept fun _ _ q=>q
theorem Un.laid (k:∀ b u,h.get? b=some u->h'.get? b=some u) (hp:h.objs.size <= a) (hn:H a=none):Un fs ex H (upd H a o) h h' where
 keep:=fun b u q _ _ _=>k b u q
 slot:=fun b u q _ _ _=>⟨u.slots,k b u q⟩
 free:=fun b u q n _=>by rw [zJ (zG8 (zG3 (Heap.lt_size q) hp))];exact n
 there:=fun b u q _=>⟨u,k b u q⟩
 tups:=fun b xs q=>by rw [zJ (zH q hn)];exact q
 frzs:=fun b u xs q=>by rw [zJ (zH q hn)];exact q
 tbls:=fun b ps q=>⟨#[],by rw [zJ (zH q hn),q];simp⟩
theorem Un.write (mu:Mut (H x)) (he:e=x \/ H e=some (.own x)) (k:∀ b u,b ≠ e->h.get? b=some u->h'.get? b=some u) (heo:∃ u,h'.get? e=some u):Un fs ex H (upd H x o) h h':=by
 have hx:∀ b,H b=none->b ≠ x:=fun b n z=>by subst z;rw [n] at mu;exact mu
 have hb:∀ b,H b=none->b ≠ e:=fun b n z=>by
  subst z
  rcases he with r | r
  ·exact hx b n r
  ·rw [n] at r;cases r
 have hm:∀ b u,H b=some u->¬ Mut (some u)->b ≠ x:=fun b u q nm z=>by subst z;rw [q] at mu;exact nm mu
 refine ⟨fun b u q n _ _=>k b u (hb b n) q,fun b u q n _ _=>⟨u.slots,k b u (hb b n) q⟩,fun b u q n _=>by rw [zJ (hx b n)];exact n,fun b u q _=>?_,
  fun b xs q=>by rw [zJ (hm b _ q fun z=>z)];exact q,fun b u xs q=>by rw [zJ (hm b _ q fun z=>z)];exact q,fun b ps q=>⟨#[],by rw [zJ (hm b _ q fun z=>z),q];simp⟩⟩
 by_cases hbe:b=e
 ·subst hbe;exact heo
 ·exact ⟨u,k b u hbe q⟩
end
noncomputable def trk (h:Heap) (H:Hp):List Addr:=(List.range h.objs.size).filter fun a=>(H a).isSome
noncomputable def nG (h:Heap) (H:Hp):Heap:=PySem.W.hideAll h (trk h H)
theorem gG (h:Heap) (H:Hp):(nG h H).objs.size=h.objs.size:=PySem.W.hideAll_size _ _
theorem cF {h:Heap} {H:Hp} {b:Addr} {o:Obj} (e:h.get? b=some o) (n:H b=none):(nG h H).get? b=some o:=
 PySem.W.hideAll_get _ e fun hm=>by
  have q:(H b).isSome=true:=(List.mem_filter.mp hm).2
  rw [n] at q;simp at q
theorem zAF {h:Heap} {H:Hp} {b:Addr} {o:Obj} (e:(nG h H).get? b=some o):h.get? b=some o/\H b=none:=by
 have e':h.get? b=some o:=PySem.W.of_hideAll (trk h H) e
 refine ⟨e',?_⟩
 cases q:H b with
 | none=>rfl
 | some x=>
  have hm:b ∈ trk h H:=List.mem_filter.mpr ⟨List.mem_range.mpr (Heap.lt_size e'),by simp [q]⟩
  have z:(nG h H).get? b=none:=PySem.W.hideAll_none (trk h H) hm
  rw [z] at e;cases e
end L2
namespace L2
open PySem PySem.Spec PyProof.Rows
structure Mod (K:PySem.W.Frag) (mg:Str->Option Value) (base:Heap):Prop where
 kin:K.In base
 glob:base.Ns mainGlobals mg
 blt:∃ mb,base.Ns builtinsNs mb/\∀ x:Str,x ≠ "__name__"->mb x=bootBuiltins x
 nolimit:base.NoLimit
structure Cx where
 prog:Program
 w:World
 K:PySem.W.Frag
 mg:Str->Option Value
 base:Heap
 A:Around
 N:List Str
 s₀:Shared
 H₀:Hp
 env:Env
 outer:List Env
 stack:List Env
 ex:List Addr
 fn:Str->Bool
 calm:Bool
 pn:List (Addr × Obj)
 xe:Value->Shared->Prop
noncomputable def frs (l:List Env):List Addr:=l.filterMap (·.frame)
abbrev Cx.fs (X:Cx):List Addr:=frs X.outer
def Vis (sc:Scope) (x:Str):Prop:=sc.names.lookup x=some .local \/ sc.names.lookup x=some .cell \/ sc.names.lookup x=some .free
def Loc (sc:Scope) (x:Str):Prop:=sc.names.lookup x=some .local \/ sc.names.lookup x=some .cell
def Look (env:Env) (h:Heap) (m:Str->Option Value) (x:Str) (u:Value):Prop:=
 (env.kindOf x=some .local/\m x=some u) \/ ((env.kindOf x=some .cell \/ env.kindOf x=some .free)/\∃ c,env.cells.lookup x=some c/\h.IsCell c (some u))
structure Cx.Ok (X:Cx):Prop where
 mod:Mod X.K X.mg X.base
 kind:X.env.scope.kind=.function
 glob:X.env.globals=mainGlobals
 blt:X.env.builtins=builtinsNs
 above:X.s₀.heap.objs.size <= X.env.locals
 inj:∀ x y c,X.env.cells.lookup x=some c->X.env.cells.lookup y=some c->x=y
 has:∀ x,(X.env.kindOf x=some .cell \/ X.env.kindOf x=some .free)->∃ c,X.env.cells.lookup x=some c
 cab:∀ x c,X.fn x=true->X.env.cells.lookup x=some c->X.s₀.heap.objs.size <= c
 hd:X.calm=true->X.A.handled=none
 frames:X.A.frames=some X.stack
 stk:X.stack=X.outer \/ (X.stack=X.env :: X.outer/\X.env.frame=some X.env.locals)
 exf:∀ b ∈ X.ex,b ≠ X.env.locals/\∀ x c,X.env.cells.lookup x=some c->c ≠ b
 bs:∀ b o,X.base.get? b=some o->X.s₀.heap.get? b=some o/\X.H₀ b=none
 bsz:X.base.objs.size <= X.s₀.heap.objs.size
 noex:∀ b o,X.base.get? b=some o->b ∉ X.ex
 exfs:∀ b ∈ X.ex,b ∉ X.fs
 funs:X.s₀.heap.FunFrames X.base X.outer
 frf:∀ b ∈ X.fs,X.H₀ b=none
structure Inv (X:Cx) (pins:List (Addr × Obj)) (σ:List (Option V)) (H:Hp) (s:Shared):Prop where
 ok:X.Ok
 os:s.os=X.s₀.os
 bare:AllBare s.gens
 base:Un X.fs X.ex X.H₀ H X.s₀.heap s.heap
 loc:∃ m,s.heap.Ns X.env.locals m/\∀ (i:Nat) (x:Str) (v:V),X.N[i]?=some x->σ[i]?=some (some v)->Vis X.env.scope x->∃ u,yN v u/\Look X.env s.heap m x u
 cell:∀ x c,X.env.cells.lookup x=some c->∃ v,s.heap.IsCell c v
 free:H X.env.locals=none
 freeC:∀ x c,X.env.cells.lookup x=some c->H c=none
 pin:∀ p ∈ X.pn ++ pins,s.heap.get? p.1=some p.2/\H p.1=none/\p.1 ≠ X.env.locals/\p.1 ∉ X.fs/\∀ v,p.2.data ≠ .cell v
 hok:HOk X.prog X.w H s.heap
 len:σ.length=X.N.length
section
variable {X:Cx} {pins:List (Addr × Obj)} {σ:List (Option V)} {H H':Hp} {s:Shared} {h':Heap}
theorem Cx.Ok.nofr (ok:X.Ok) {b:Addr} {o:Obj} (e:X.base.get? b=some o):b ∉ X.fs:=fun hb=>by
 have:=(ok.funs.mem hb).1
 rw [e] at this;cases this
theorem Inv.bs (I:Inv X pins σ H s):∀ b o,X.base.get? b=some o->s.heap.get? b=some o/\H b=none:=fun b o e=>
 ⟨I.base.keep b o (I.ok.bs b o e).1 (I.ok.bs b o e).2 (I.ok.nofr e) (I.ok.noex b o e),I.base.free b o (I.ok.bs b o e).1 (I.ok.bs b o e).2 (I.ok.noex b o e)⟩
theorem Inv.bk (I:Inv X pins σ H s):∀ b o,X.base.get? b=some o->s.heap.get? b=some o:=fun b o e=>(I.bs b o e).1
theorem Inv.mod (I:Inv X pins σ H s):Mod X.K X.mg X.base:=I.ok.mod
theorem Inv.kIn (I:Inv X pins σ H s):X.K.In s.heap:=I.ok.mod.kin.keeps I.bk
theorem Inv.lt (I:Inv X pins σ H s):X.env.locals < s.heap.objs.size:=let ⟨_,hn,_⟩:=I.loc;hn.lt
theorem Inv.sz (I:Inv X pins σ H s):X.s₀.heap.objs.size <= s.heap.objs.size:=zGS I.ok.above (Nat.le_of_lt I.lt)
theorem Inv.nofs (I:Inv X pins σ H s) {a:Addr} (h:s.heap.objs.size <= a):a ∉ X.fs:=fun hb=>by
 obtain ⟨_,o,ho,_⟩:=I.ok.funs.mem hb
 exact absurd (zG3 (Heap.lt_size ho) (zGS I.sz h)) (Nat.lt_irrefl _)
theorem Inv.cne (I:Inv X pins σ H s):∀ x c,X.env.cells.lookup x=some c->c ≠ X.env.locals:=fun x c e z=>by
 obtain ⟨v,o,ho,hd⟩:=I.cell x c e
 obtain ⟨m,⟨o',es,ep,ho',hd',_⟩,_⟩:=I.loc
 rw [z,ho'] at ho;cases ho;rw [hd'] at hd;cases hd
theorem Inv.funs (I:Inv X pins σ H s):s.heap.FunFrames X.base X.outer:=by
 have all:∀ (l:List Env),(∀ b ∈ frs l,b ∈ X.fs)->X.s₀.heap.FunFrames X.base l->s.heap.FunFrames X.base l:=by
  intro l
  induction l with
  | nil=>intro _ _;trivial
  | cons env r ih=>
   intro hs hl
   obtain ⟨hk,⟨L,o,hf,hn,ho,hd⟩,hr⟩:=hl
   have hL:L ∈ X.fs:=hs L (by unfold frs;rw [List.filterMap_cons,hf];exact zHA)
   obtain ⟨sl,e⟩:=I.base.slot L o ho (I.ok.frf L hL) hL fun z=>I.ok.exfs L z hL
   exact ⟨hk,⟨L,_,hf,hn,e,hd⟩,ih (fun b hb=>hs b (by unfold frs;rw [List.filterMap_cons,hf];exact zGU _ hb)) hr⟩
 exact all X.outer (fun _ hb=>hb) I.ok.funs
theorem Inv.stack (I:Inv X pins σ H s):s.heap.FunFrames X.base X.stack:=by
 rcases I.ok.stk with e | ⟨e,hf⟩
 ·rw [e];exact I.funs
 ·rw [e]
  obtain ⟨m,hn,_⟩:=I.loc
  refine .cons (by rw [I.ok.kind];decide) hf hn ?_ I.funs
  exact Heap.get?_none_of_le (zGS I.ok.bsz I.ok.above)
theorem Inv.stkSub (I:Inv X pins σ H s):∀ b ∈ frs X.stack,b ∈ X.env.locals :: X.fs:=fun b hb=>by
 rcases I.ok.stk with e | ⟨e,hf⟩
 ·rw [e] at hb;exact zGU _ hb
 ·rw [e] at hb
  unfold frs at hb
  rw [List.filterMap_cons,hf] at hb
  exact hb
theorem Inv.stkFree (I:Inv X pins σ H s):∀ b ∈ frs X.stack,H b=none:=fun b hb=>by
 rcases List.mem_cons.mp (I.stkSub b hb) with e | hb
 ·rw [e];exact I.free
 ·obtain ⟨_,o,ho,_⟩:=I.ok.funs.mem hb
  exact I.base.free b o ho (I.ok.frf b hb) fun z=>I.ok.exfs b z hb
theorem Inv.step {g':Array GenState} {t':Nat} {d':Drawn} {ch:List Addr} (I:Inv X pins σ H s)
  (hch:∀ b ∈ ch,(b ∈ X.ex \/ X.s₀.heap.objs.size <= b)/\b ≠ X.env.locals/\(∀ x c,X.env.cells.lookup x=some c->c ≠ b)/\∀ p ∈ X.pn ++ pins,p.1 ≠ b)
  (keep:∀ b o,b ≠ X.env.locals->b ∉ X.fs->b ∉ ch->s.heap.get? b=some o->H b=none->h'.get? b=some o)
  (slot:∀ b o,b ≠ X.env.locals->b ∈ X.fs->b ∉ ch->s.heap.get? b=some o->H b=none->∃ sl,h'.get? b=some { o with slots:=sl }) (free:∀ b o,b ∉ ch->s.heap.get? b=some o->H b=none->H' b=none)
  (there:∀ b o,b ∉ ch->s.heap.get? b=some o->∃ o',h'.get? b=some o')
  (tups:∀ b xs,H b=some (.tup xs)->H' b=some (.tup xs)) (frzs:∀ b o u,H b=some (.frz o u)->H' b=some (.frz o u)) (tbls:∀ b ps,H b=some (.tbl ps)->∃ more,H' b=some (.tbl (ps ++ more)))
  (ns:∀ m,s.heap.Ns X.env.locals m->h'.Ns X.env.locals m) (hok:HOk X.prog X.w H' h') (hg:AllBare g') :
  Inv X pins σ H' { s with heap:=h',gens:=g',drawn:=d',toks:=t' }:=by
 have neL:∀ b o,X.s₀.heap.get? b=some o->b ≠ X.env.locals:=fun b o e=>zG8 (zG3 (Heap.lt_size e) I.ok.above)
 have neC:∀ b o,X.s₀.heap.get? b=some o->b ∉ X.ex->b ∉ ch:=fun b o e hx hb=>by
  rcases (hch b hb).1 with z | z
  ·exact hx z
  ·exact absurd (zG3 (Heap.lt_size e) z) (Nat.lt_irrefl _)
 have cellK:∀ x c,X.env.cells.lookup x=some c->∀ v,s.heap.IsCell c v->h'.IsCell c v:=fun x c e v ⟨o,ho,hd⟩=>by
  have nch:c ∉ ch:=fun z=>(hch c z).2.2.1 x c e rfl
  by_cases hc:c ∈ X.fs
  ·obtain ⟨sl,q⟩:=slot c o (I.cne x c e) hc nch ho (I.freeC x c e)
   exact ⟨_,q,hd⟩
  ·exact ⟨o,keep c o (I.cne x c e) hc nch ho (I.freeC x c e),hd⟩
 refine ⟨I.ok,I.os,hg,⟨fun b o e n hb hx=>?_,fun b o e n hb hx=>?_,fun b o e n hx=>?_,fun b o e hx=>?_,fun b xs e=>tups b xs (I.base.tups b xs e),fun b o xs e=>frzs b o xs (I.base.frzs b o xs e),fun b ps e=>?_⟩,?_,fun x c e=>?_,?_,fun x c e=>?_,fun p hp=>?_,hok,I.len⟩
 ·exact keep b o (neL b o e) hb (neC b o e hx) (I.base.keep b o e n hb hx) (I.base.free b o e n hx)
 ·obtain ⟨sl,e1⟩:=I.base.slot b o e n hb hx
  obtain ⟨sl',e2⟩:=slot b _ (neL b o e) hb (neC b o e hx) e1 (I.base.free b o e n hx)
  exact ⟨sl',e2⟩
 ·obtain ⟨o',e1⟩:=I.base.there b o e hx
  exact free b o' (neC b o e hx) e1 (I.base.free b o e n hx)
 ·obtain ⟨o',e1⟩:=I.base.there b o e hx
  exact there b o' (neC b o e hx) e1
 ·obtain ⟨m1,e1⟩:=I.base.tbls b ps e
  obtain ⟨m2,e2⟩:=tbls b _ e1
  exact ⟨m1 ++ m2,by rw [e2,Array.append_assoc]⟩
 ·obtain ⟨m,hn,hl⟩:=I.loc
  refine ⟨m,ns m hn,fun i x v e1 e2 e3=>?_⟩
  obtain ⟨u,r,l⟩:=hl i x v e1 e2 e3
  refine ⟨u,r,?_⟩
  rcases l with l | ⟨k,c,e,z⟩
  ·exact .inl l
  ·exact .inr ⟨k,c,e,cellK x c e _ z⟩
 ·obtain ⟨v,z⟩:=I.cell x c e
  exact ⟨v,cellK x c e v z⟩
 ·obtain ⟨m,⟨o,_,_,ho,_⟩,_⟩:=I.loc
  exact free _ o (fun z=>(hch _ z).2.1 rfl) ho I.free
 ·obtain ⟨v,o,ho,hd⟩:=I.cell x c e
  exact free c o (fun z=>(hch c z).2.2.1 x c e rfl) ho (I.freeC x c e)
 ·obtain ⟨e,n,ne,nf,d⟩:=I.pin p hp
  have nch:p.1 ∉ ch:=fun z=>(hch p.1 z).2.2.2 p hp rfl
  exact ⟨keep p.1 p.2 ne nf nch e n,free p.1 p.2 nch e n,ne,nf,d⟩
theorem Inv.un {t':Nat} (I:Inv X pins σ H s) (u:Un X.fs [] H H' s.heap h') (hok:HOk X.prog X.w H' h'):Inv X pins σ H' { s with heap:=h',toks:=t' }:=by
 obtain ⟨m,⟨o,es,ep,ho,r⟩,_⟩:=id I.loc
 obtain ⟨sl,hL⟩:=u.any ho I.free (by simp)
 exact I.step (g':=s.gens) (d':=s.drawn) (ch:=[]) (fun _ z=>nomatch z) (fun b o _ hb _ e n=>u.keep b o e n hb (by simp)) (fun b o _ hb _ e n=>u.slot b o e n hb (by simp)) (fun b o _ e n=>u.free b o e n (by simp)) (fun b o _ e=>u.there b o e (by simp)) u.tups u.frzs u.tbls (fun m' hm=>by
  obtain ⟨o',es',ep',ho',r'⟩:=hm
  rw [ho] at ho';cases ho'
  exact ⟨_,es',ep',hL,r'⟩) hok I.bare
theorem Inv.call {g':Array GenState} {t':Nat} {d':Drawn} {ch:List Addr} (I:Inv X pins σ H s) (u:Un (frs X.stack) ch H H' s.heap h') (hok:HOk X.prog X.w H' h') (hg:AllBare g')
  (hch:∀ b ∈ ch,(b ∈ X.ex \/ X.s₀.heap.objs.size <= b)/\b ≠ X.env.locals/\(∀ x c,X.env.cells.lookup x=some c->c ≠ b)/\∀ p ∈ X.pn ++ pins,p.1 ≠ b) :
  Inv X pins σ H' { s with heap:=h',gens:=g',drawn:=d',toks:=t' }:=by
 obtain ⟨m,⟨o,es,ep,ho,r⟩,_⟩:=id I.loc
 obtain ⟨sl,hL⟩:=u.any ho I.free fun z=>(hch _ z).2.1 rfl
 exact I.step (ch:=ch) hch (fun b o hL hb hc e n=>u.keep b o e n (fun z=>(List.mem_cons.mp (I.stkSub b z)).elim hL hb) hc) (fun b o _ _ hc e n=>u.any e n hc) (fun b o hc e n=>u.free b o e n hc) (fun b o hc e=>u.there b o e hc) u.tups u.frzs u.tbls (fun m' hm=>by
  obtain ⟨o',es',ep',ho',r'⟩:=hm
  rw [ho] at ho';cases ho'
  exact ⟨_,es',ep',hL,r'⟩) hok hg
theorem Inv.turned {t':Nat} {it:Addr} (I:Inv X pins σ H s) (k:∀ b o,b ≠ it->s.heap.get? b=some o->h'.get? b=some o) (hn:H it=none) (hL:it ≠ X.env.locals)
  (h1:it ∈ X.ex \/ X.s₀.heap.objs.size <= it) (h2:∀ x c,X.env.cells.lookup x=some c->c ≠ it) (h3:∀ p ∈ X.pn ++ pins,p.1 ≠ it):Inv X pins σ H { s with heap:=h',toks:=t' }:=by
 have nit:∀ b u,H b=some u->b ≠ it:=fun b u e z=>by rw [z,hn] at e;cases e
 refine I.step (g':=s.gens) (d':=s.drawn) (ch:=[it]) (fun b hb=>?_) (fun b o _ _ hc e _=>k b o (fun z=>hc (by simp [z])) e) (fun b o _ _ hc e _=>⟨o.slots,k b o (fun z=>hc (by simp [z])) e⟩) (fun _ _ _ _ n=>n)
  (fun b o hc e=>⟨o,k b o (fun z=>hc (by simp [z])) e⟩) (fun _ _ e=>e) (fun _ _ _ e=>e) (fun b ps e=>⟨#[],by rw [e];simp⟩) (fun m hm=>?_) (fun b u e=>?_) I.bare
 ·have e:b=it:=by simpa using hb
  subst e
  exact ⟨h1,hL,h2,h3⟩
 ·obtain ⟨o,es,ep,ho,r⟩:=hm
  exact ⟨o,es,ep,k _ o (Ne.symm hL) ho,r⟩
 ·refine (I.hok b u e).stay (fun c v hc q=>k c v ?_ q) (fun _ q=>q) fun _ _ q=>q
  rcases hc with z | z
  ·rw [z];exact nit b u e
  ·exact nit c _ z
theorem Inv.tok (I:Inv X pins σ H s) (t:Nat):Inv X pins σ H { s with toks:=t }:=I.un (h':=s.heap) (t':=t) Un.refl I.hok
theorem Inv.kept {t':Nat} (I:Inv X pins σ H s) (k:∀ b u,s.heap.get? b=some u->h'.get? b=some u):Inv X pins σ H { s with heap:=h',toks:=t' }:=I.un (Un.kept k) (I.hok.kept k)
theorem Inv.laid {a:Addr} {o:HO} {t':Nat} (I:Inv X pins σ H s) (k:∀ b u,s.heap.get? b=some u->h'.get? b=some u) (hp:s.heap.objs.size <= a) (new:xP X.prog X.w (upd H a o) h' a o) :
  Inv X pins σ (upd H a o) { s with heap:=h',toks:=t' }:=I.un (Un.laid k hp (I.hok.fresh hp)) (I.hok.laid k hp new)
theorem Inv.write {x e:Addr} {o:HO} {t':Nat} (I:Inv X pins σ H s) (mu:Mut (H x)) (he:e=x \/ H e=some (.own x)) (k:∀ b u,b ≠ e->s.heap.get? b=some u->h'.get? b=some u) (heo:∃ u,h'.get? e=some u)
  (new:xP X.prog X.w (upd H x o) h' x o):Inv X pins σ (upd H x o) { s with heap:=h',toks:=t' }:=I.un (Un.write mu he k heo) (I.hok.write mu he k heo new)
theorem Inv.pins_of {pins':List (Addr × Obj)} (I:Inv X pins σ H s) (h:∀ p ∈ pins',s.heap.get? p.1=some p.2/\H p.1=none/\p.1 ≠ X.env.locals/\p.1 ∉ X.fs/\∀ v,p.2.data ≠ .cell v):Inv X pins' σ H s:=
 ⟨I.ok,I.os,I.bare,I.base,I.loc,I.cell,I.free,I.freeC,fun p hp=>(zGY.mp hp).elim (fun z=>I.pin p (List.mem_append_left _ z)) (h p),I.hok,I.len⟩
theorem mU {N:List Str} (hN:N.Nodup) {i j:Nat} {x:Str} (a:N[i]?=some x) (b:N[j]?=some x):i=j:=by
 obtain ⟨h1,e1⟩:=zGJ.mp a
 obtain ⟨h2,e2⟩:=zGJ.mp b
 exact (List.getElem_inj hN).mp (e1.trans e2.symm)
theorem pK {M:Model} {A:Around} {E:Value->Shared->Prop} {i:Nat} {x:Str} {v:V} {u:Value} {Q:Unit->Shared->Prop} (I:Inv X pins σ H s) (hN:X.N.Nodup) (hi:X.N[i]?=some x) (hx:Loc X.env.scope x) (r:yN v u)
  (h:∀ s',Inv X pins (σ.set i (some v)) H s'->(∃ a,Heap.SameBut a s.heap s'.heap/\(a=X.env.locals \/ X.env.cells.lookup x=some a))->Q () s') (hf:X.fn x=true \/ X.env.scope.names.lookup x=some .local:=by first | exact .inl rfl | exact .inr rfl | assumption):wpAny M A (storeName X.env x u) Q E s:=by
 obtain ⟨m,hn,hl⟩:=id I.loc
 have hcls:(X.env.scope.kind == .class || (X.env.scope.kind == .module && X.env.locals != X.env.globals))=false:=by rw [I.ok.kind];rfl
 have hiσ:i < σ.length:=by rw [I.len];exact (zGJ.mp hi).1
 have cne:=I.cne
 have tracked:∀ {a:Addr} {h':Heap},(∃ o,s.heap.get? a=some o/\H a=none)->Heap.SameBut a s.heap h'->HOk X.prog X.w H h':=fun {a h'} ha hs b ob e=>by
  obtain ⟨_,_,hfree⟩:=ha
  refine (I.hok b ob e).stay (fun c w' hc q=>(hs.2 c ?_).trans q) (fun _ q=>q) fun _ _ q=>q
  rintro rfl
  rcases hc with rfl | hc
  ·rw [hfree] at e;cases e
  ·rw [hfree] at hc;cases hc
 rcases hx with hk | hk
 ·refine wpAny_storeName_local hk hn (fun h' hn' hs=>?_) hcls
  obtain ⟨oL,_,_,hoL,_⟩:=id hn
  refine h _ ⟨I.ok,I.os,I.bare,⟨fun b o e n hb hx=>?_,fun b o e n hb hx=>?_,I.base.free,fun b o e hx=>?_,I.base.tups,I.base.frzs,I.base.tbls⟩,⟨_,hn',fun j y v' e1 e2 e3=>?_⟩,fun y c e=>?_,I.free,I.freeC,fun p hp=>?_,tracked ⟨oL,hoL,I.free⟩ hs,by simpa using I.len⟩ ⟨_,hs,.inl rfl⟩
  ·exact (hs.2 b (zG8 (zG3 (Heap.lt_size e) I.ok.above))).trans (I.base.keep b o e n hb hx)
  ·obtain ⟨sl,e1⟩:=I.base.slot b o e n hb hx
   exact ⟨sl,(hs.2 b (zG8 (zG3 (Heap.lt_size e) I.ok.above))).trans e1⟩
  ·obtain ⟨o',e1⟩:=I.base.there b o e hx
   exact ⟨o',(hs.2 b (zG8 (zG3 (Heap.lt_size e) I.ok.above))).trans e1⟩
  ·by_cases hj:j=i
   ·subst hj
    rw [hi] at e1;cases e1
    rw [zHE hiσ] at e2
    cases e2
    exact ⟨u,r,.inl ⟨hk,by simp⟩⟩
   ·rw [zHD (Ne.symm hj)] at e2
    obtain ⟨u',r',q⟩:=hl j y v' e1 e2 e3
    refine ⟨u',r',?_⟩
    rcases q with ⟨k,e⟩ | ⟨k,c,e,z⟩
    ·refine .inl ⟨k,?_⟩
     have:y ≠ x:=fun e=>hj (mU hN e1 (e ▸ hi))
     simp [this,e]
    ·exact .inr ⟨k,c,e,z.sameBut hs (cne y c e)⟩
  ·obtain ⟨w',z⟩:=I.cell y c e
   exact ⟨w',z.sameBut hs (cne y c e)⟩
  ·obtain ⟨e,n,ne,nf,d⟩:=I.pin p hp
   exact ⟨(hs.2 p.1 ne).trans e,n,ne,nf,d⟩
 ·have hfn:X.fn x=true:=by
   rcases hf with z | z
   ·exact z
   ·rw [z] at hk;cases hk
  obtain ⟨c,hc⟩:=I.ok.has x (.inl hk)
  obtain ⟨w',z⟩:=I.cell x c hc
  refine wpAny_storeName_cell I.ok.kind hk hc z (fun h' hc' hs=>?_)
  obtain ⟨oc,hoc,hocd⟩:=id z
  refine h { s with heap:=h' } ⟨I.ok,I.os,I.bare,⟨fun b o e n hb hx=>?_,fun b o e n hb hx=>?_,I.base.free,fun b o e hx=>?_,I.base.tups,I.base.frzs,I.base.tbls⟩,⟨m,hn.sameBut hs (Ne.symm (cne x c hc)),fun j y v' e1 e2 e3=>?_⟩,fun y c' e=>?_,I.free,I.freeC,fun p hp=>?_,tracked ⟨oc,hoc,I.freeC x c hc⟩ hs,by simpa using I.len⟩ ⟨c,hs,.inr hc⟩
  ·exact (hs.2 b (zG8 (zG3 (Heap.lt_size e) (I.ok.cab x c hfn hc)))).trans (I.base.keep b o e n hb hx)
  ·obtain ⟨sl,e1⟩:=I.base.slot b o e n hb hx
   exact ⟨sl,(hs.2 b (zG8 (zG3 (Heap.lt_size e) (I.ok.cab x c hfn hc)))).trans e1⟩
  ·obtain ⟨o',e1⟩:=I.base.there b o e hx
   exact ⟨o',(hs.2 b (zG8 (zG3 (Heap.lt_size e) (I.ok.cab x c hfn hc)))).trans e1⟩
  ·by_cases hj:j=i
   ·subst hj
    rw [hi] at e1;cases e1
    rw [zHE hiσ] at e2
    cases e2
    exact ⟨u,r,.inr ⟨.inl hk,c,hc,hc'⟩⟩
   ·rw [zHD (Ne.symm hj)] at e2
    obtain ⟨u',r',q⟩:=hl j y v' e1 e2 e3
    refine ⟨u',r',?_⟩
    rcases q with q | ⟨k,c',e,z'⟩
    ·exact .inl q
    ·refine .inr ⟨k,c',e,z'.sameBut hs ?_⟩
     rintro rfl
     exact hj (mU hN e1 (I.ok.inj _ _ _ e hc ▸ hi))
  ·by_cases hcc:c'=c
   ·subst hcc;exact ⟨_,hc'⟩
   ·obtain ⟨w2,z2⟩:=I.cell y c' e
    exact ⟨w2,z2.sameBut hs hcc⟩
  ·obtain ⟨e,n,ne,nf,d⟩:=I.pin p hp
   refine ⟨(hs.2 p.1 ?_).trans e,n,ne,nf,d⟩
   intro q
   rw [q,hoc] at e
   have q':oc=p.2:=zGO e
   exact d w' (by rw [<- q'];exact hocd)
theorem nZ {M:Model} {A:Around} {E:Value->Shared->Prop} {i:Nat} {x:Str} {v:V} {u:Value} {Q:Unit->Shared->Prop} (I:Inv X pins σ H s) (hN:X.N.Nodup) (hi:X.N[i]?=some x) (hx:Loc X.env.scope x) (r:yN v u)
  (h:∀ s',Inv X pins (σ.set i (some v)) H s'->Q () s') (hf:X.fn x=true \/ X.env.scope.names.lookup x=some .local:=by first | exact .inl rfl | exact .inr rfl | assumption):wpAny M A (storeName X.env x u) Q E s:=
 pK I hN hi hx r (fun s' I' _=>h s' I') hf
theorem Inv.call' {s':Shared} {ch:List Addr} (I:Inv X pins σ H s) (ho:s'.os=s.os) (u:Un (frs X.stack) ch H H' s.heap s'.heap) (hok:HOk X.prog X.w H' s'.heap) (hg:AllBare s'.gens)
  (hch:∀ b ∈ ch,(b ∈ X.ex \/ X.s₀.heap.objs.size <= b)/\b ≠ X.env.locals/\(∀ x c,X.env.cells.lookup x=some c->c ≠ b)/\∀ p ∈ X.pn ++ pins,p.1 ≠ b):Inv X pins σ H' s':=by
 obtain ⟨h',g',d',t',o'⟩:=s'
 have e:o'=s.os:=ho
 subst e
 exact I.call (g':=g') (t':=t') (d':=d') u hok hg hch
end
abbrev XK:=Value->Option Addr->Hp->Prop
abbrev St:=List (Option V)
abbrev VK:=V->Hp->Prop
abbrev TE:=St->Hp->VK->Prop
abbrev TT:=St->Hp->(Bool->Hp->Prop)->Prop
abbrev TA:=St->Hp->(List V->Hp->Prop)->Prop
structure pI where
 nx:St->Hp->Prop
 rt:VK
 bk:St->Hp->Prop:=fun _ _=>False
 ct:St->Hp->Prop:=fun _ _=>False
abbrev TS:=pI->St->Hp->Prop
def EP (X:Cx) (pins:List (Addr × Obj)) (σ:St) (Q:VK) (u:Value) (s':Shared):Prop:=∃ v H',Inv X pins σ H' s'/\yN v u/\Q v H'
def TP (X:Cx) (pins:List (Addr × Obj)) (σ:St) (Q:Bool->Hp->Prop) (b:Bool) (s':Shared):Prop:=∃ H',Inv X pins σ H' s'/\Q b H'
def AP (X:Cx) (pins:List (Addr × Obj)) (σ:St) (Q:List V->Hp->Prop) (us:List Value) (s':Shared):Prop:=∃ vs H',Inv X pins σ H' s'/\yI vs us/\Q vs H'
def SP (X:Cx) (pins:List (Addr × Obj)) (D:pI) (f:Flow) (s':Shared):Prop:=
 match f with
 | .next=>∃ σ' H',Inv X pins σ' H' s'/\D.nx σ' H'
 | .brk=>∃ σ' H',Inv X pins σ' H' s'/\D.bk σ' H'
 | .cont=>∃ σ' H',Inv X pins σ' H' s'/\D.ct σ' H'
 | .ret u=>∃ v σ' H',Inv X pins σ' H' s'/\yN v u/\D.rt v H'
def PE (X:Cx) (e:Expr) (t:TE):Prop:=
 ∀ (pins:List (Addr × Obj)) (s:Shared) (σ:St) (H:Hp) (Q:VK),Inv X pins σ H s->t σ H Q->wpAny (model X.prog X.w) X.A (eval e X.env) (EP X pins σ Q) X.xe s
def PT (X:Cx) (e:Expr) (t:TT):Prop:=
 ∀ (pins:List (Addr × Obj)) (s:Shared) (σ:St) (H:Hp) (Q:Bool->Hp->Prop),Inv X pins σ H s->t σ H Q->wpAny (model X.prog X.w) X.A (isTrue e X.env (eval e X.env)) (TP X pins σ Q) X.xe s
def PW (X:Cx) (e:Expr) (t:TT):Prop:=
 ∀ (whole:Sem Value) (pins:List (Addr × Obj)) (s:Shared) (σ:St) (H:Hp) (Q:Bool->Hp->Prop),Inv X pins σ H s->t σ H Q->wpAny (model X.prog X.w) X.A (isTrue e X.env whole) (TP X pins σ Q) X.xe s
theorem PW.pt {X:Cx} {e:Expr} {t:TT} (h:PW X e t):PT X e t:=h _
def PA (X:Cx) (es:List Expr) (t:TA):Prop:=
 ∀ (pos:Pos) (pins:List (Addr × Obj)) (s:Shared) (σ:St) (H:Hp) (Q:List V->Hp->Prop),Inv X pins σ H s->t σ H Q->wpAny (model X.prog X.w) X.A (spliced (backTo pos (starEach es X.env))) (AP X pins σ Q) X.xe s
def PS (X:Cx) (st:Stmt) (t:TS):Prop:=
 ∀ (pins:List (Addr × Obj)) (s:Shared) (σ:St) (H:Hp) (D:pI),Inv X pins σ H s->t D σ H->wpAny (model X.prog X.w) X.A (exec st X.env) (SP X pins D) X.xe s
def PSs (X:Cx) (st:List Stmt) (t:TS):Prop:=
 ∀ (pins:List (Addr × Obj)) (s:Shared) (σ:St) (H:Hp) (D:pI),Inv X pins σ H s->t D σ H->wpAny (model X.prog X.w) X.A (execs st X.env) (SP X pins D) X.xe s
theorem thn {α:Type} {t:Sem α} {Q Q':α->Shared->Prop} {M:Model} {A:Around} {E:Value->Shared->Prop} {s:Shared} (h:wpAny M A t Q E s) (hQ:∀ a s,Q a s->Q' a s):wpAny M A t Q' E s:=wpAny_mono h hQ fun _ _ x=>x
end L2
namespace L2
open PySem PySem.Spec PyProof.Rows
section
variable {X:Cx}
def uX (i:Nat):TE:=fun σ H Q=>∃ v,σ[i]?=some (some v)/\Q v H
def tC (v:V):TE:=fun _ H Q=>Q v H
theorem zCT {i:Nat} {x:Str} {pos:Pos} (hN:X.N[i]?=some x) (hv:Vis X.env.scope x) (hd:(x == ("__debug__" : Str))=false:=by decide) (hcd:(x == ("__classdict__" : Str))=false:=by decide):PE X (.Name x pos) (uX i):=by
 intro pins s σ H Q I h
 obtain ⟨v,e,h⟩:=h
 obtain ⟨m,hn,hl⟩:=I.loc
 obtain ⟨u,r,l⟩:=hl i x v hN e hv
 have fin:EP X pins σ Q u s:=⟨v,H,I,r,h⟩
 rcases l with ⟨hk,hm⟩ | ⟨hk,c,hc,hcell⟩
 ·exact wpAny_Name (wpAny_loadName_local I.ok.kind hk hn hm fin) hd
 ·rcases hk with hk | hk
  ·exact wpAny_Name (wpAny_loadName_cell I.ok.kind hk hc hcell fin) hd
  ·exact wpAny_Name (wpAny_loadName_free I.ok.kind hk hc hcell fin hcd) hd
theorem zI {i j pos}:PE X (.Constant (.int i) j pos) (tC (.int i)):=fun _ _ _ H _ I h=>wpAny_Constant_int ⟨.int i,H,I.tok _,⟨_,rfl⟩,h⟩
theorem wT {b j pos}:PE X (.Constant (.bool b) j pos) (tC (.bl b)):=fun _ _ _ H _ I h=>Constant_bool ⟨.bl b,H,I,rfl,h⟩
theorem yY {j pos}:PE X (.Constant .none j pos) (tC .non):=fun _ _ _ H _ I h=>Constant_none ⟨.non,H,I,rfl,h⟩
theorem zO {x j pos}:PE X (.Constant (.str x) j pos) (tC (.str x)):=fun _ _ _ H _ I h=>Calls.Constant_str ⟨.str x,H,I.tok _,⟨_,rfl⟩,h⟩
def Gl (X:Cx) (x:Str):Prop:=X.env.kindOf x=some .globalImplicit
theorem nF {E:Value->Shared->Prop} {pins:List (Addr × Obj)} {s:Shared} {σ:St} {H:Hp} {x:Str} {u:Value} {pos:Pos} {Q:Value->Shared->Prop} (I:Inv X pins σ H s) (hg:Gl X x) (hm:X.mg x=some u) (h:Q u s)
  (hd:(x == ("__debug__" : Str))=false:=by decide):wpAny (model X.prog X.w) X.A (eval (.Name x pos) X.env) Q E s:=
 Calls.Name_function_global I.ok.kind hg (Calls.loadGlobal_global (by rw [I.ok.glob];exact I.mod.glob.keeps I.bk) hm h) hd
theorem sY {E:Value->Shared->Prop} {pins:List (Addr × Obj)} {s:Shared} {σ:St} {H:Hp} {x:Str} {u:Value} {pos:Pos} {Q:Value->Shared->Prop} (I:Inv X pins σ H s) (hg:Gl X x) (hm:X.mg x=none) (hv:bootBuiltins x=some u) (h:Q u s)
  (hn:x ≠ "__name__":=by decide) (hd:(x == ("__debug__" : Str))=false:=by decide):wpAny (model X.prog X.w) X.A (eval (.Name x pos) X.env) Q E s:=by
 obtain ⟨mb,h1,h2⟩:=I.mod.blt
 exact Calls.Name_function_global I.ok.kind hg (Calls.loadGlobal_builtin (by rw [I.ok.glob];exact I.mod.glob.keeps I.bk) hm (by rw [I.ok.blt];exact h1.keeps I.bk) ((h2 x hn).trans hv) h) hd
theorem aS {x:Str} {v:V} {u:Value} {pos:Pos} (hg:Gl X x) (hm:X.mg x=some u) (r:yN v u) (hd:(x == ("__debug__" : Str))=false:=by decide):PE X (.Name x pos) (tC v):=
 fun _ _ _ H _ I h=>nF I hg hm ⟨v,H,I,r,h⟩ hd
theorem aV {x:Str} {v:V} {u:Value} {pos:Pos} (hg:Gl X x) (hm:X.mg x=none) (hv:bootBuiltins x=some u) (r:yN v u) (hn:x ≠ "__name__":=by decide) (hd:(x == ("__debug__" : Str))=false:=by decide):PE X (.Name x pos) (tC v):=
 fun _ _ _ H _ I h=>sY I hg hm hv ⟨v,H,I,r,h⟩ hn hd
variable {a b:Expr} {ta tb:TE} {pos:Pos}
def PC (X:Cx) (op:CmpOp) (a b:Expr) (t:TE):Prop:=
 ∀ (pins:List (Addr × Obj)) (s:Shared) (σ:St) (H:Hp) (Q:VK),Inv X pins σ H s->t σ H Q ->
  wpAny (model X.prog X.w) X.A (eval a X.env) (fun v s₁=>wpAny (model X.prog X.w) X.A (eval b X.env) (fun u s₂=>wpAny (model X.prog X.w) X.A (compareOp op v u) (EP X pins σ Q) X.xe s₂) X.xe s₁) X.xe s
def tB (t:TE):TT:=fun σ H Q=>t σ H fun x H1=>∃ c,x=.bl c/\Q c H1
theorem eJ {op:CmpOp} {t:TE} (h:PC X op a b t) (h1:behindInMarks op b=false:=by first | exact nobehind _ (by decide) (by decide) | rfl):PT X (.Compare a [op] [b] pos) (tB t):=by
 intro pins s σ H Q I hw
 refine wpAny_isTrue_Compare1 (thn (h pins s σ H _ I hw) fun v s1 h1=>thn h1 fun u s2 h2=>thn h2 fun c s3 hz1=>?_) h1
 obtain ⟨x,H1,I1,r1,q1⟩:=hz1
 obtain ⟨d,rfl,q⟩:=q1
 cases r1
 exact wpAny_truthy_bool ⟨H1,I1,q⟩
theorem xV {e:Expr} {t:TE} (h:PE X e t) (he:∀ whole,isTrue e X.env whole=(do let v <- whole;standAt e.pos;holding [v] (truthy v)):=by intro _;rfl):PT X e (tB t):=by
 intro pins s σ H Q I hw
 refine isTrue_plain (thn (h pins s σ H _ I hw) fun v s1 hz2=>?_) (he _)
 obtain ⟨x,H1,I1,r1,q1⟩:=hz2
 obtain ⟨d,rfl,q⟩:=q1
 cases r1
 exact wpAny_truthy_bool ⟨H1,I1,q⟩
variable {tA tB':TT} {rest:List Expr}
def tAnd (t u:TT):TT:=fun σ H Q=>t σ H fun c H1=>if c=true then u σ H1 Q else Q false H1
def tOr (t u:TT):TT:=fun σ H Q=>t σ H fun c H1=>if c=true then Q true H1 else u σ H1 Q
def tNot (t:TT):TT:=fun σ H Q=>t σ H fun c H1=>Q (!c) H1
theorem t9 (ha:PT X a tA):PW X (.BoolOp .And [a] pos) tA:=by
 intro wh pins s σ H Q I h
 refine isTrue_and (thn (ha pins s σ H Q I h) fun c s1 e=>?_)
 cases c with
 | true=>exact isTrue_and_nil e
 | false=>exact e
theorem sS (ha:PT X a tA):PW X (.BoolOp .Or [a] pos) tA:=by
 intro wh pins s σ H Q I h
 refine isTrue_or (thn (ha pins s σ H Q I h) fun c s1 e=>?_)
 cases c with
 | false=>exact isTrue_or_nil e
 | true=>exact e
theorem qK (ha:PT X a tA) (hb:PW X (.BoolOp .And (b :: rest) pos) tB'):PW X (.BoolOp .And (a :: b :: rest) pos) (tAnd tA tB'):=by
 intro wh pins s σ H Q I h
 refine isTrue_and (thn (ha pins s σ H _ I h) fun c s1 hz3=>?_)
 obtain ⟨H1,I1,q1⟩:=hz3
 cases c with
 | true=>exact hb wh pins s1 σ H1 Q I1 q1
 | false=>exact ⟨H1,I1,q1⟩
theorem pL (ha:PT X a tA) (hb:PW X (.BoolOp .Or (b :: rest) pos) tB'):PW X (.BoolOp .Or (a :: b :: rest) pos) (tOr tA tB'):=by
 intro wh pins s σ H Q I h
 refine isTrue_or (thn (ha pins s σ H _ I h) fun c s1 hz4=>?_)
 obtain ⟨H1,I1,q1⟩:=hz4
 cases c with
 | true=>exact ⟨H1,I1,q1⟩
 | false=>exact hb wh pins s1 σ H1 Q I1 q1
theorem wA (ha:PT X a tA):PT X (.UnaryOp .Not a pos) (tNot tA):=by
 intro pins s σ H Q I h
 exact isTrue_not (ha pins s σ H (fun c H1=>Q (!c) H1) I h)
def zD9 (ta tb:TE):TE:=fun σ H Q=>ta σ H fun x H1=>∃ c,x=.bl c/\if c=true then tb σ H1 Q else Q (.bl false) H1
def tOrV (ta tb:TE):TE:=fun σ H Q=>ta σ H fun x H1=>∃ c,x=.bl c/\if c=true then Q (.bl true) H1 else tb σ H1 Q
def zD4 (ta:TE):TE:=fun σ H Q=>ta σ H fun x H1=>∃ c,x=.bl c/\Q (.bl (!c)) H1
theorem tQ {op} {t:TE} (h:PE X a t):PE X (.BoolOp op [a] pos) t:=fun pins s σ H Q I hw=>BoolOp_one (h pins s σ H Q I hw)
theorem tR (ha:PE X a ta) (hb:PE X (.BoolOp .And (b :: rest) pos) tb):PE X (.BoolOp .And (a :: b :: rest) pos) (zD9 ta tb):=by
 intro pins s σ H Q I h
 refine BoolOp_and (thn (ha pins s σ H _ I h) fun v s1 hz5=>?_)
 obtain ⟨x,H1,I1,r1,q1⟩:=hz5
 obtain ⟨c,rfl,q1⟩:=q1
 cases r1
 refine wpAny_truthy_bool ?_
 cases c with
 | true=>exact hb pins s1 σ H1 Q I1 q1
 | false=>exact ⟨.bl false,H1,I1,rfl,q1⟩
theorem zFD (ha:PE X a ta) (hb:PE X (.BoolOp .Or (b :: rest) pos) tb):PE X (.BoolOp .Or (a :: b :: rest) pos) (tOrV ta tb):=by
 intro pins s σ H Q I h
 refine BoolOp_or (thn (ha pins s σ H _ I h) fun v s1 hz6=>?_)
 obtain ⟨x,H1,I1,r1,q1⟩:=hz6
 obtain ⟨c,rfl,q1⟩:=q1
 cases r1
 refine wpAny_truthy_bool ?_
 cases c with
 | false=>exact hb pins s1 σ H1 Q I1 q1
 | true=>exact ⟨.bl true,H1,I1,rfl,q1⟩
theorem zCU (ha:PE X a ta):PE X (.UnaryOp .Not a pos) (zD4 ta):=by
 intro pins s σ H Q I h
 refine UnaryOp_ (thn (ha pins s σ H _ I h) fun v s1 hz7=>?_)
 obtain ⟨x,H1,I1,r1,q1⟩:=hz7
 obtain ⟨c,rfl,q1⟩:=q1
 cases r1
 exact not_of (wpAny_truthy_bool ⟨.bl (!c),H1,I1,rfl,q1⟩)
def tIf (t:TT) (ta tb:TE):TE:=fun σ H Q=>t σ H fun c H1=>if c=true then ta σ H1 Q else tb σ H1 Q
theorem sB {c:Expr} (hc:PT X c tA) (ha:PE X a ta) (hb:PE X b tb):PE X (.IfExp c a b pos) (tIf tA ta tb):=by
 intro pins s σ H Q I h
 refine wpAny_IfExp (thn (hc pins s σ H _ I h) fun d s1 hz8=>?_)
 obtain ⟨H1,I1,q1⟩:=hz8
 cases d with
 | true=>exact ha pins s1 σ H1 Q I1 q1
 | false=>exact hb pins s1 σ H1 Q I1 q1
end
end L2
namespace L2
open PySem PySem.Spec PyProof.Rows
def SqL (K:PySem.W.Frag) (H:Hp) (a:Addr) (xs:List V):Prop:=
 Rd H a (.lst xs) \/
  ∃ (o:Obj) (its:Array Value) (n:Nat),K.lookup a=some o/\o.cls=.type "list"/\o.dict=none/\o.data=.seq its n/\its.size <= sizeLine/\yI xs its.toList
def SqT (K:PySem.W.Frag) (H:Hp) (a:Addr) (xs:List V):Prop:=
 Rd H a (.tup xs) \/
  ∃ (o:Obj) (its:Array Value) (n:Nat),K.lookup a=some o/\o.cls=.type "tuple"/\o.data=.seq its n/\its.size <= sizeLine/\yI xs its.toList
noncomputable def absV:Value->Option V
 | .none=>some .non
 | .bool b=>some (.bl b)
 | .int i _=>some (.int i)
 | .str x _=>some (.str x)
 | .bytes b _=>some (.byt b)
 | .float b _=>some (.flt b)
 | .ref a=>some (.ref a)
 | .type n=>some (.ty n)
 | _=>none
theorem yN.abs {x:V} {u:Value} (r:yN x u):absV u=some x:=by
 cases x with
 | non=>cases r;rfl
 | bl _=>cases r;rfl
 | int _=>obtain ⟨t,rfl⟩:=r;rfl
 | str _=>obtain ⟨t,rfl⟩:=r;rfl
 | byt _=>obtain ⟨t,rfl⟩:=r;rfl
 | flt _=>obtain ⟨t,rfl⟩:=r;rfl
 | ref _=>cases r;rfl
 | ty _=>cases r;rfl
theorem yN.inj {x y:V} {u:Value} (r:yN x u) (q:yN y u):x=y:=zGO (r.abs.symm.trans q.abs)
theorem yI.inj:∀ {xs ys:List V} {us:List Value},yI xs us->yI ys us->xs=ys
 | _,_,_,.nil,.nil=>rfl
 | _,_,_,.cons r t,.cons r' t'=>by rw [r.inj r',yI.inj t t']
section
variable {X:Cx} {pins:List (Addr × Obj)} {σ:St} {H:Hp} {s:Shared} {a:Addr} {xs ys:List V}
theorem SqL.of {K:PySem.W.Frag} (h:H a=some (.lst xs)):SqL K H a xs:=.inl (.inl h)
theorem SqT.of {K:PySem.W.Frag} (h:H a=some (.tup xs)):SqT K H a xs:=.inl (.inl h)
theorem Inv.list (I:Inv X pins σ H s) (h:SqL X.K H a xs):∃ its:List Value,yI xs its/\PlainL s.heap a its.toArray/\xs.length <= sizeLine:=by
 rcases h with h | ⟨o,its,n,hk,hc,hd,hs,hz,r⟩
 ·obtain ⟨z,its,n,r,e⟩:=h.ok I.hok
  exact ⟨its,r,⟨_,n,e,rfl,rfl,rfl⟩,z⟩
 ·refine ⟨its.toList,r,⟨o,n,I.kIn a o hk,hc,hd,by simpa using hs⟩,?_⟩
  have e:=r.length
  simp only [Array.length_toList] at e
  omega
theorem Inv.tuple (I:Inv X pins σ H s) (h:SqT X.K H a xs):∃ its:List Value,yI xs its/\IsTup s.heap a its.toArray/\xs.length <= sizeLine:=by
 rcases h with h | ⟨o,its,n,hk,hc,hs,hz,r⟩
 ·obtain ⟨z,its,r,p⟩:=h.ok I.hok
  exact ⟨its,r,p,z⟩
 ·refine ⟨its.toList,r,⟨o,I.kIn a o hk,hc,n,by simpa using hs⟩,?_⟩
  have e:=r.length
  simp only [Array.length_toList] at e
  omega
theorem Inv.list_inj (I:Inv X pins σ H s) (h:SqL X.K H a xs) (h':SqL X.K H a ys):xs=ys:=by
 obtain ⟨its,r,⟨o,n,e,_,_,d⟩,_⟩:=I.list h
 obtain ⟨its',r',⟨o',n',e',_,_,d'⟩,_⟩:=I.list h'
 rw [e] at e';cases e'
 rw [d] at d'
 injection d' with d1 _
 have:its=its':=by simpa using congrArg Array.toList d1
 subst this
 exact r.inj r'
theorem Inv.tuple_inj (I:Inv X pins σ H s) (h:SqT X.K H a xs) (h':SqT X.K H a ys):xs=ys:=by
 obtain ⟨its,r,⟨o,e,_,n,d⟩,_⟩:=I.tuple h
 obtain ⟨its',r',⟨o',e',_,n',d'⟩,_⟩:=I.tuple h'
 rw [e] at e';cases e'
 rw [d] at d'
 injection d' with d1 _
 have:its=its':=by simpa using congrArg Array.toList d1
 subst this
 exact r.inj r'
end
abbrev Cx.wish (X:Cx) (E:Value->Shared->Prop):Cx:={ X with xe:=E }
abbrev Cx.nox (X:Cx):Cx:=X.wish fun _ _=>False
theorem Cx.Ok.wish {X:Cx} (ok:X.Ok) (E:Value->Shared->Prop):(X.wish E).Ok:=
 ⟨ok.mod,ok.kind,ok.glob,ok.blt,ok.above,ok.inj,ok.has,ok.cab,ok.hd,ok.frames,ok.stk,ok.exf,ok.bs,ok.bsz,ok.noex,ok.exfs,ok.funs,ok.frf⟩
theorem Cx.Ok.unwish {X:Cx} {E:Value->Shared->Prop} (ok:(X.wish E).Ok):X.Ok:=
 ⟨ok.mod,ok.kind,ok.glob,ok.blt,ok.above,ok.inj,ok.has,ok.cab,ok.hd,ok.frames,ok.stk,ok.exf,ok.bs,ok.bsz,ok.noex,ok.exfs,ok.funs,ok.frf⟩
section
variable {X:Cx} {pins:List (Addr × Obj)} {σ:St} {H:Hp} {s:Shared} {E:Value->Shared->Prop}
theorem Inv.wish (I:Inv X pins σ H s) (E:Value->Shared->Prop):Inv (X.wish E) pins σ H s:=⟨I.ok.wish E,I.os,I.bare,I.base,I.loc,I.cell,I.free,I.freeC,I.pin,I.hok,I.len⟩
theorem Inv.unwish (I:Inv (X.wish E) pins σ H s):Inv X pins σ H s:=⟨I.ok.unwish,I.os,I.bare,I.base,I.loc,I.cell,I.free,I.freeC,I.pin,I.hok,I.len⟩
theorem SP.unwish {D:pI} {f:Flow} {s':Shared} (h:SP (X.wish E) pins D f s'):SP X pins D f s':=by
 cases f with
 | next=>obtain ⟨σ',H',I,q⟩:=h;exact ⟨σ',H',I.unwish,q⟩
 | brk=>obtain ⟨σ',H',I,q⟩:=h;exact ⟨σ',H',I.unwish,q⟩
 | cont=>obtain ⟨σ',H',I,q⟩:=h;exact ⟨σ',H',I.unwish,q⟩
 | ret u=>obtain ⟨v,σ',H',I,r,q⟩:=h;exact ⟨v,σ',H',I.unwish,r,q⟩
theorem PSs.nox {st:List Stmt} {t:TS} (h:PSs X.nox st t):PSs X st t:=fun pins s σ H D I hw=>
 wpAny_mono (h pins s σ H D (I.wish _) hw) (fun _ _ q=>q.unwish) fun _ _ z=>False.elim z
end
section
variable {X:Cx} {st:Stmt} {rest:List Stmt} {t u:TS} {e:Expr} {te:TE} {pos:Pos}
def fH:TS:=fun D σ H=>D.nx σ H
def pF (t u:TS):TS:=fun D σ H=>t { D with nx:=u D } σ H
theorem zT:PSs X [] fH:=fun _ _ σ H _ I h=>wpAny_execs_nil ⟨σ,H,I,h⟩
theorem zE (h1:PS X st t) (h2:PSs X rest u):PSs X (st :: rest) (pF t u):=by
 intro pins s σ H D I h
 refine wpAny_execs_cons (thn (h1 pins s σ H { D with nx:=u D } I h) fun f s1 q=>?_)
 cases f with
 | next=>
  obtain ⟨σ',H',I',q⟩:=q
  exact h2 pins s1 σ' H' D I' q
 | ret v=>exact q
 | brk=>exact q
 | cont=>exact q
theorem zF (h1:PS X st t):PSs X [st] t:=by
 intro pins s σ H D I h
 refine wpAny_execs_cons (thn (h1 pins s σ H D I h) fun f s1 q=>?_)
 cases f with
 | next=>exact wpAny_execs_nil q
 | ret v=>exact q
 | brk=>exact q
 | cont=>exact q
theorem Inv.quiet {pins:List (Addr × Obj)} {σ:St} {H:Hp} {s:Shared} (I:Inv X pins σ H s):interactive X.env=false:=by simp [interactive,I.ok.kind]
def zD6 (te:TE):TS:=fun D σ H=>te σ H fun _ H1=>D.nx σ H1
theorem yO (he:PE X e te) (hs:swapsWith e none pos.line X.env=pure false:=by rfl):PS X (.Expr e pos) (zD6 te):=by
 intro pins s σ H D I h
 exact wpAny_Expr_any (thn (he pins s σ H _ I h) fun v s1 ⟨x,H1,I1,r1,q1⟩=>⟨σ,H1,I1,q1⟩) I.quiet hs
def fF (te:TE):TS:=fun D σ H=>te σ H D.rt
theorem zL (he:PE X e te):PS X (.Return (some e) pos) (fF te):=by
 intro pins s σ H D I h
 exact wpAny_Return_some (thn (he pins s σ H _ I h) fun v s1 ⟨x,H1,I1,r1,q1⟩=>⟨x,σ,H1,I1,r1,q1⟩)
def zD5 (c:TT) (t u:TS):TS:=fun D σ H=>c σ H fun b H1=>if b=true then t D σ H1 else u D σ H1
theorem yC {c:Expr} {a b:List Stmt} {tc:TT} (hc:PT X c tc) (ha:PSs X a t) (hb:PSs X b u):PS X (.If c a b pos) (zD5 tc t u):=by
 intro pins s σ H D I h
 refine wpAny_If (thn (hc pins s σ H _ I h) fun d s1 hz9=>?_)
 obtain ⟨H1,I1,q1⟩:=hz9
 cases d with
 | true=>exact ha pins s1 σ H1 D I1 q1
 | false=>exact hb pins s1 σ H1 D I1 q1
def zB5:TS:=fun _ _ _=>False
theorem xA:PS X st zB5:=fun _ _ _ _ _ _ h=>h.elim
end
abbrev TG:=V->St->Hp->(St->Hp->Prop)->Prop
abbrev TGs:=List V->St->Hp->(St->Hp->Prop)->Prop
def PG (X:Cx) (target:Expr) (t:TG):Prop:=
 ∀ (pins:List (Addr × Obj)) (s:Shared) (σ:St) (H:Hp) (v:V) (u:Value) (Q:St->Hp->Prop),Inv X pins σ H s->yN v u->t v σ H Q ->
  wpAny (model X.prog X.w) X.A (assign target X.env u) (fun _ s'=>∃ σ' H',Inv X pins σ' H' s'/\Q σ' H') X.xe s
def PGs (X:Cx) (ts:List Expr) (t:TGs):Prop:=
 ∀ (pins:List (Addr × Obj)) (s:Shared) (σ:St) (H:Hp) (vs:List V) (us:List Value) (Q:St->Hp->Prop),Inv X pins σ H s->yI vs us->t vs σ H Q ->
  wpAny (model X.prog X.w) X.A (assignInOrder ((assignEach ts X.env).map (·.2)) us) (fun _ s'=>∃ σ' H',Inv X pins σ' H' s'/\Q σ' H') X.xe s
abbrev zDY:=V->V->V->Hp->(Hp->Prop)->Prop
def zGE (X:Cx) (t:zDY):Prop:=
 ∀ (pins:List (Addr × Obj)) (s:Shared) (σ:St) (H:Hp) (o i v:V) (ov iv u:Value) (Q:Hp->Prop),Inv X pins σ H s->yN o ov->yN i iv->yN v u->t o i v H Q ->
  wpAny (model X.prog X.w) X.A (setItem ov iv u) (fun _ s'=>∃ H',Inv X pins σ H' s'/\Q H') X.xe s
section
variable {X:Cx} {pos:Pos}
def wK (i:Nat):TG:=fun v σ H Q=>Q (σ.set i (some v)) H
theorem yH {i:Nat} {x:Str} (hN:X.N.Nodup) (hi:X.N[i]?=some x) (hx:Loc X.env.scope x) (hf:X.fn x=true \/ X.env.scope.names.lookup x=some .local:=by first | exact .inl rfl | exact .inr rfl | assumption):PG X (.Name x pos) (wK i):=by
 intro pins s σ H v u Q I r h
 exact wpAny_assign_Name (nZ I hN hi hx r (fun s' I'=>⟨_,H,I',h⟩) hf)
noncomputable def gK:TGs:=fun vs σ H Q=>vs=[]/\Q σ H
noncomputable def uV (t:TG) (u:TGs):TGs:=fun vs σ H Q=>∃ v r,vs=v :: r/\t v σ H fun σ' H'=>u r σ' H' Q
theorem vF:PGs X [] gK:=by
 intro pins s σ H vs us Q I r h
 obtain ⟨e,h⟩:=h
 subst e
 cases r
 exact assignInOrder_nil ⟨σ,H,I,h⟩
theorem yS {e:Expr} {es:List Expr} {t:TG} {u:TGs} (h1:PG X e t) (h2:PGs X es u)
  (hs:(assignEach (e :: es) X.env).map (·.2)=assign e X.env :: (assignEach es X.env).map (·.2):=by rfl):PGs X (e :: es) (uV t u):=by
 intro pins s σ H vs us Q I r h
 obtain ⟨v,vr,e1,h⟩:=h
 subst e1
 cases r with
 | cons r rr=>
  rw [hs]
  refine assignInOrder_cons (thn (h1 pins s σ H _ _ _ I r h) fun _ s1 hz10=>?_)
  obtain ⟨σ1,H1,I1,q1⟩:=hz10
  exact h2 pins s1 σ1 H1 _ _ Q I1 rr q1
def gJ (K:PySem.W.Frag) (n:Nat) (t:TGs):TG:=fun v σ H Q=>∃ a xs,v=.ref a/\SqT K H a xs/\xs.length=n/\t xs σ H Q
theorem uB {es:List Expr} {k:Nat} {t:TGs} {n:Nat} (hc:X.calm=true) (h:PGs X es t)
  (hn:(assignEach es X.env).length=n:=by rfl) (hst:(assignEach es X.env).findIdx? (·.1)=none:=by rfl):PG X (.Tuple es k pos) (gJ X.K n t):=by
 intro pins s σ H v u Q I r hw
 obtain ⟨a,xs,e1,hq,hl,hw⟩:=hw
 subst e1
 cases r
 obtain ⟨its,rv,ht,hz⟩:=I.tuple hq
 refine assign_Tuple_tuple (I.ok.hd hc) ht (by simp [hn,<- hl,rv.length]) hst fun h' hx=>?_
 have I1:Inv X pins σ H { s with heap:=h' }:=I.kept (t':=s.toks) fun b o e=>hx b o (zG8 (Heap.lt_size e)) e
 exact h pins _ σ H xs _ Q I1 (by simpa using rv) hw
def zF5 (to ti:TE) (t:zDY):TG:=fun v σ H Q=>to σ H fun o H1=>ti σ H1 fun i H2=>t o i v H2 fun H3=>Q σ H3
theorem eR {o i:Expr} {to ti:TE} {t:zDY} (ho:PE X o to) (hi:PE X i ti) (hs:zGE X t)
  (ha:∀ v,assign (.Subscript o i pos) X.env v=(do
   let ov <- holding [v] (eval o X.env)
   let iv <- holding [v,ov] (eval i X.env)
   standAt pos
   holding [v,ov,iv] (setItem ov iv v)
   release [v,ov,iv] []):=by intro _;rfl):PG X (.Subscript o i pos) (zF5 to ti t):=by
 intro pins s σ H v u Q I r h
 rw [ha]
 refine wpAny_bind (wpAny_holding (thn (ho pins s σ H _ I h) fun ov s1 hz11=>?_))
 obtain ⟨x,H1,I1,r1,q1⟩:=hz11
 refine wpAny_bind (wpAny_holding (thn (hi pins s1 σ H1 _ I1 q1) fun iv s2 hz12=>?_))
 obtain ⟨y,H2,I2,r2,q2⟩:=hz12
 refine wpAny_bind (wpAny_standAt (wpAny_bind (wpAny_holding (thn (hs pins s2 σ H2 x y v ov iv u _ I2 r1 r2 r q2) fun _ s3 hz13=>?_))))
 obtain ⟨H3,I3,q3⟩:=hz13
 exact wpAny_release ⟨σ,H3,I3,q3⟩
def nX (te:TE) (g:TG):TS:=fun D σ H=>te σ H fun x H1=>g x σ H1 D.nx
theorem tP {tg e:Expr} {te:TE} {g:TG} (he:PE X e te) (hg:PG X tg g) (hs:swapsWithSole [tg] e pos.line X.env=pure false:=by rfl) (hw:swappedStores [tg] e X.env=pure none:=by rfl)
  (h1:(assignEach [tg] X.env).map (·.2)=[assign tg X.env]:=by rfl):PS X (.Assign [tg] e pos) (nX te g):=by
 intro pins s σ H D I h
 refine wpAny_Assign_stores (thn (he pins s σ H _ I h) fun v s1 hz14=>?_) hs hw
 obtain ⟨x,H1,I1,r1,q1⟩:=hz14
 rw [h1]
 exact thn (hg pins s1 σ H1 x v _ I1 r1 q1) fun _ s2 q=>q
theorem yF {i:Nat} {x:Str} {e:Expr} {te:TE} {pos':Pos} (hN:X.N.Nodup) (hi:X.N[i]?=some x) (hx:Loc X.env.scope x) (he:PE X e te) (hs:swapsWith e (some (.Name x pos')) pos.line X.env=pure false:=by rfl) (hf:X.fn x=true \/ X.env.scope.names.lookup x=some .local:=by first | exact .inl rfl | exact .inr rfl | assumption) :
  PS X (.Assign [.Name x pos'] e pos) (nX te (wK i)):=by
 intro pins s σ H D I h
 refine wpAny_Assign_Name (thn (he pins s σ H _ I h) fun v s1 hz15=>?_) hs
 obtain ⟨y,H1,I1,r1,q1⟩:=hz15
 exact nZ I1 hN hi hx r1 (fun s2 I2=>⟨_,H1,I2,q1⟩) hf
end
section
variable {X:Cx} {pos:Pos}
end
structure It where
 go:Nat->Hp->Prop
 yld:Nat->Hp->V->Hp->Prop
 stop:Nat->Hp->Prop
def uU (X:Cx) (pins:List (Addr × Obj)) (H:Hp) (b:Addr):Prop:=
 H b=none/\b ≠ X.env.locals/\b ∉ X.fs/\(b ∈ X.ex \/ X.s₀.heap.objs.size <= b)/\(∀ x c,X.env.cells.lookup x=some c->c ≠ b)/\∀ p ∈ X.pn ++ pins,p.1 ≠ b
theorem Inv.fpOk {X:Cx} {pins:List (Addr × Obj)} {σ:St} {H H':Hp} {s:Shared} {b:Addr} (I:Inv X pins σ H s) (hb:s.heap.objs.size <= b) (hn:H' b=none):uU X pins H' b:=by
 refine ⟨hn,Nat.ne_of_gt (zG3 I.lt hb),I.nofs hb,.inr (zGS I.sz hb),fun x c e z=>?_,fun p hp z=>?_⟩
 ·obtain ⟨v,q⟩:=I.cell x c e
  exact absurd (zG3 q.lt (by rw [z];exact hb)) (Nat.lt_irrefl _)
 ·exact absurd (zG3 (Heap.lt_size (I.pin p hp).1) (by rw [z];exact hb)) (Nat.lt_irrefl _)
structure bG (P:Program) (w:World) (K:PySem.W.Frag) (tg:Expr) (J:It) (fp:List Addr) (it:Addr) (tn:Nat->Heap->Prop):Prop where
 mem:it ∈ fp
 obj:∀ i h,tn i h->∀ b ∈ fp,∃ o,h.get? b=some o/\∀ v,o.data ≠ .cell v
 keep:∀ i h h',tn i h->(∀ b ∈ fp,∀ o,h.get? b=some o->h'.get? b=some o)->tn i h'
 item:∀ (X:Cx),X.prog=P->X.w=w->X.K=K->X.calm=true->∀ (i:Nat) (pins:List (Addr × Obj)) (s:Shared) (σ:St) (H:Hp) (E:Value->Shared->Prop),Inv X pins σ H s->(∀ b ∈ fp,uU X pins H b)->tn i s.heap->J.go i H ->
  wpAny (model P w) X.A (pyNext (.ref it)) (fun r s1=>∃ u,r=some u /\
   wpAny (model P w) X.A (letOwnedTupleGo tg (.ref it) u) (fun _ s2=>∃ x H',Inv X pins σ H' s2/\yN x u/\J.yld i H x H'/\tn (i + 1) s2.heap/\∀ b ∈ fp,H' b=none) E s1) E s
 done:∀ (X:Cx),X.prog=P->X.w=w->X.K=K->X.calm=true->∀ (i:Nat) (pins:List (Addr × Obj)) (s:Shared) (σ:St) (H:Hp) (E:Value->Shared->Prop),Inv X pins σ H s->(∀ b ∈ fp,uU X pins H b)->tn i s.heap->J.stop i H ->
  wpAny (model P w) X.A (pyNext (.ref it)) (fun r s1=>r=none/\Inv X pins σ H s1) E s
 self:∀ (A:Around) (i:Nat) (s:Shared) (Q:Value->Shared->Prop) (E:Value->Shared->Prop),tn i s.heap->Q (.ref it) s->wpAny (model P w) A (pyIter (.ref it)) Q E s
abbrev TI:=St->Hp->(It->Hp->Prop)->Prop
def PIE (X:Cx) (pins:List (Addr × Obj)) (σ:St) (tg:Expr) (R:It->Hp->Prop) (itv:Value) (s2:Shared):Prop:=
 ∃ (it:Addr) (fp:List Addr) (tn:Nat->Heap->Prop) (J:It) (H':Hp),itv=.ref it/\Inv X pins σ H' s2/\bG X.prog X.w X.K tg J fp it tn/\tn 0 s2.heap/\(∀ b ∈ fp,uU X pins H' b)/\R J H'
def PI (X:Cx) (tg iter:Expr) (wi:TI):Prop:=
 ∀ (pins:List (Addr × Obj)) (s:Shared) (σ:St) (H:Hp) (R:It->Hp->Prop),Inv X pins σ H s->wi σ H R ->
  wpAny (model X.prog X.w) X.A (eval iter X.env) (fun v s1=>wpAny (model X.prog X.w) X.A (pyIter v) (PIE X pins σ tg R) X.xe s1) X.xe s
theorem cG {M:Model} {A:Around} {E:Value->Shared->Prop} {s:Shared} {tg:Expr} {it:Addr} {u:Value} {o:Obj} {n:String} {vs:Array Value} {Q:Unit->Shared->Prop} (ho:s.heap.get? it=some o) (hc:o.cls=.type n) (hd:o.data=.fields vs)
    (hn:["enumerate","zip","dict_itemiterator","dict_reverseitemiterator","odict_iterator","itertools.zip_longest","itertools.pairwise"].contains n=false) (hQ:Q () s):wpAny M A (letOwnedTupleGo tg (.ref it) u) Q E s:=by
  unfold letOwnedTupleGo
  cases tg <;> first
    | exact wpAny_pure hQ
    | (cases u <;> first
        | exact wpAny_pure hQ
        | (refine wpAny_bind (wpAny_load ho ?_)
           rw [hc,hd]
           show wpAny M A (if (["enumerate","zip","dict_itemiterator","dict_reverseitemiterator","odict_iterator","itertools.zip_longest","itertools.pairwise"].contains n && vs[0]? == some (rawInt _))=true then _ else _) Q E s
           rw [if_neg (by intro h;rw [hn,Bool.false_and] at h;cases h)]
           exact wpAny_pure hQ))
noncomputable def Itl (K:PySem.W.Frag) (a:Addr):It:=
 ⟨fun i H=>∃ xs x,SqL K H a xs/\xs[i]?=some x,fun i H x H'=>H'=H/\∀ xs,SqL K H a xs->xs[i]?=some x,fun i H=>∃ xs,SqL K H a xs/\xs.length <= i⟩
noncomputable def Itr (lo:Int) (n:Nat):It:=⟨fun i _=>i < n,fun i H x H'=>H'=H/\x=.int (lo + i),fun i _=>n <= i⟩
theorem iQ {P:Program} {w:World} {K:PySem.W.Frag} {tg:Expr} (a it:Addr):bG P w K tg (Itl K a) [it] it (fun i h=>h.IsListIter it a i) where
 mem:=by simp
 obj:=fun i h st b hb=>by
  have e:b=it:=by simpa using hb
  subst e
  obtain ⟨o,e,c,d⟩:=st
  exact ⟨o,e,fun v z=>by rw [d] at z;cases z⟩
 keep:=fun i h h' st k=>st.at fun o e=>k it (by simp) o e
 item:=by
  intro X hP hw hK hc i pins s σ H E I hf st hg
  subst hP hw hK
  obtain ⟨xs,x,hq,hx⟩:=hg
  obtain ⟨its,rv,p,hz⟩:=I.list hq
  obtain ⟨u,hu,ru⟩:=rv.get hx
  obtain ⟨f0,f1,f2,f3,f4,f5⟩:=hf it (by simp)
  refine wpAny_pyNext_list_item st p.isList (x:=u) (by simpa using hu) fun h' st' sb=>?_
  have I1:Inv X pins σ H { s with heap:=h' }:=I.turned (t':=s.toks) (fun b o hb e=>(sb.2 b hb).trans e) f0 f1 f3 f4 f5
  obtain ⟨o,e,c,d⟩:=id st'
  exact ⟨u,rfl,cG (s:={ s with heap:=h' }) e c d (by decide) ⟨x,H,I1,ru,⟨rfl,fun ys hy=>by rw [I.list_inj hy hq];exact hx⟩,st',fun b hb=>(hf b hb).1⟩⟩
 done:=by
  intro X hP hw hK hc i pins s σ H E I hf st hg
  subst hP hw hK
  obtain ⟨xs,hq,hx⟩:=hg
  obtain ⟨its,rv,p,hz⟩:=I.list hq
  obtain ⟨f0,f1,f2,f3,f4,f5⟩:=hf it (by simp)
  have hl:=rv.length
  exact wpAny_pyNext_list_end (I.ok.hd hc) st p.isList (by simp;omega) fun h' eb=>⟨rfl,I.turned (t':=s.toks) (fun b o hb e=>eb b o hb e) f0 f1 f3 f4 f5⟩
 self:=fun _ _ _ _ _ st h=>wpAny_pyIter_listiter st h
theorem lR {P:Program} {w:World} {K:PySem.W.Frag} {tg:Expr} (it:Addr) (lo:Int) (n:Nat):bG P w K tg (Itr lo n) [it] it (fun i h=>IsRangeIter h it (lo + (i:Nat) * 1) ((n:Int) - (i:Nat)) 1) where
 mem:=by simp
 obj:=fun i h st b hb=>by
  have e:b=it:=by simpa using hb
  subst e
  exact ⟨_,st,fun v z=>by
   have z':Data.fields _=Data.cell v:=z
   cases z'⟩
 keep:=fun i h h' st k=>k it (by simp) _ st
 item:=by
  intro X hP hw hK hc i pins s σ H E I hf st hg
  subst hP hw hK
  obtain ⟨f0,f1,f2,f3,f4,f5⟩:=hf it (by simp)
  have W:=Walks.range (prog:=X.prog) (w:=X.w) (I.ok.hd hc) it lo 1 n
  refine W.item i s _ _ hg st fun v h' tk hv st' kk=>?_
  obtain ⟨t,rfl⟩:=hv
  have I1:Inv X pins σ H { s with heap:=h',toks:=tk }:=I.turned (fun b o hb e=>kk b o (by simpa using hb) e) f0 f1 f3 f4 f5
  refine ⟨_,rfl,cG (s:={ s with heap:=h',toks:=tk }) (n:="range_iterator") st' rfl rfl (by decide) ⟨.int (lo + i),H,I1,⟨t,?_⟩,⟨rfl,rfl⟩,st',fun b hb=>(hf b hb).1⟩⟩
  rw [Int.mul_one]
 done:=by
  intro X hP hw hK hc i pins s σ H E I hf st hg
  subst hP hw hK
  obtain ⟨f0,f1,f2,f3,f4,f5⟩:=hf it (by simp)
  exact wpAny_pyNext_range_end (I.ok.hd hc) st (by have:n <= i:=hg;omega) fun h' eb=>⟨rfl,I.turned (t':=s.toks) (fun b o hb e=>eb b o hb e) f0 f1 f3 f4 f5⟩
 self:=fun _ _ _ _ _ st h=>wpAny_pyIter_rangeiter st h
end L2
namespace L2
open PySem PySem.Spec PyProof.Rows
section
variable {X:Cx} {tg:Expr}
def zBR (K:PySem.W.Frag) (tl:TE):TI:=fun σ H R=>tl σ H fun x H1=>∃ a,x=.ref a/\(∃ xs,SqL K H1 a xs)/\R (Itl K a) H1
theorem xN {l:Expr} {tl:TE} (hl:PE X l tl):PI X tg l (zBR X.K tl):=by
 intro pins s σ H R I h
 refine thn (hl pins s σ H _ I h) fun v s1 hz16=>?_
 obtain ⟨x,H1,I1,r1,q1⟩:=hz16
 obtain ⟨a,e,⟨xs,hq⟩,q⟩:=q1
 subst e
 cases r1
 obtain ⟨its,rv,p,hz⟩:=I1.list hq
 refine wpAny_pyIter_list p.isList ?_
 refine ⟨s1.heap.objs.size,[s1.heap.objs.size],_,_,H1,rfl,I1.kept (t':=s1.toks) fun b o e=>Heap.get?_push_of_some _ e,iQ a _,⟨_,Heap.get?_push_size _ rfl,rfl,rfl⟩,fun b hb=>?_,q⟩
 have e:b=s1.heap.objs.size:=by simpa using hb
 subst e
 exact I1.fpOk (zGQ _) (I1.hok.fresh (zGQ _))
theorem mI {pins:List (Addr × Obj)} {σ:St} {H:Hp} {s:Shared} {R:It->Hp->Prop} {E:Value->Shared->Prop} {lo hi:Int} {t u v:Tok} {tk:Nat} (I:Inv X pins σ H s) (h1:-(2 ^ 62) <= lo) (h2:lo < 2 ^ 62) (h3:-(2 ^ 62) <= hi) (h4:hi < 2 ^ 62)
  (q:R (Itr lo (hi - lo).toNat) H):wpAny (model X.prog X.w) X.A (pyIter (.ref s.heap.objs.size)) (PIE X pins σ tg R) E { s with heap:=s.heap.push { cls:=.type "range",data:=.fields #[.int lo t,.int hi u,.int 1 v] },toks:=tk }:=by
 refine wpAny_pyIter_range (IsRange.new ..) (small_one h1 h2 h3 h4) ?_
 have I1:Inv X pins σ H { s with heap:=s.heap.push { cls:=.type "range",data:=.fields #[.int lo t,.int hi u,.int 1 v] },toks:=tk }:=I.kept fun b o e=>Heap.get?_push_of_some _ e
 refine ⟨(s.heap.push { cls:=.type "range",data:=.fields #[.int lo t,.int hi u,.int 1 v] }).objs.size,[(s.heap.push { cls:=.type "range",data:=.fields #[.int lo t,.int hi u,.int 1 v] }).objs.size],_,_,H,rfl,
  I1.kept (t':=tk) fun b o e=>Heap.get?_push_of_some _ e,lR _ lo (hi - lo).toNat,?_,fun b hb=>?_,q⟩
 ·have e1:lo + ((0:Nat):Int) * 1=lo:=by simp
  have e2:(((hi - lo).toNat:Nat):Int) - ((0:Nat):Int)=Builtin.Range.rangeSize lo hi 1:=by rw [rangeSize_one];split <;> omega
  show IsRangeIter _ _ (lo + ((0:Nat):Int) * 1) ((((hi - lo).toNat:Nat):Int) - ((0:Nat):Int)) 1
  rw [e1,e2]
  exact Heap.get?_push_size _ rfl
 ·have e:b=(s.heap.push { cls:=.type "range",data:=.fields #[.int lo t,.int hi u,.int 1 v] }).objs.size:=by simpa using hb
  subst e
  exact I1.fpOk (zGQ _) (I1.hok.fresh (zGQ _))
def zFT (ta:TA):TI:=fun σ H R=>ta σ H fun vs H1=>∃ j:Int,vs=[.int j]/\-(2 ^ 62) <= j/\j < 2 ^ 62/\R (Itr 0 j.toNat) H1
def zFS (ta:TA):TI:=fun σ H R=>ta σ H fun vs H1=>∃ i j:Int,vs=[.int i,.int j]/\(-(2 ^ 62) <= i/\i < 2 ^ 62/\-(2 ^ 62) <= j/\j < 2 ^ 62)/\R (Itr i (j - i).toNat) H1
theorem wR {a:Expr} {ta:TA} {p pos:Pos} (hg:Gl X "range") (hm:X.mg "range"=none) (ha:PA X [a] ta) (hs:starEach [a] X.env=[(false,eval a X.env)]:=by rfl):PI X tg (.Call (.Name "range" p) [a] [] pos) (zFT ta):=by
 intro pins s σ H R I h
 refine Call_ (sY I hg hm boot_range (PyProof.Rows.callWith_type1 (thn (ha pos pins s σ H _ I h) fun us s1 hz17=>?_) hs rfl))
 obtain ⟨vs,H1,I1,r1,q1⟩:=hz17
 obtain ⟨j,e,q1,q2,q⟩:=q1
 subst e
 cases r1 with
 | cons r rr=>
  cases rr
  obtain ⟨t,rfl⟩:=r
  exact call_range_1 (mI I1 (by omega) (by omega) q1 q2 (by simpa using q))
theorem i5 {a b:Expr} {ta:TA} {p pos:Pos} (hg:Gl X "range") (hm:X.mg "range"=none) (ha:PA X [a,b] ta) (hs:starEach [a,b] X.env=[(false,eval a X.env),(false,eval b X.env)]:=by rfl) (hs2:starEach [b] X.env=[(false,eval b X.env)]:=by rfl) :
  PI X tg (.Call (.Name "range" p) [a,b] [] pos) (zFS ta):=by
 intro pins s σ H R I h
 refine Call_ (sY I hg hm boot_range (PyProof.Rows.callWith_type1 (thn (ha pos pins s σ H _ I h) fun us s1 hz18=>?_) (by rw [hs,hs2]) (by rw [hs2];rfl)))
 obtain ⟨vs,H1,I1,r1,q1⟩:=hz18
 obtain ⟨i,j,e,⟨q1,q2,q3,q4⟩,q⟩:=q1
 subst e
 cases r1 with
 | cons r rr=>
  cases rr with
  | cons r' rr=>
   cases rr
   obtain ⟨t,rfl⟩:=r
   obtain ⟨t',rfl⟩:=r'
   exact call_range_2 (mI I1 q1 q2 q3 q4 q)
def tFor (wi:TI) (g:TG) (tb:TS):TS:=fun D σ H=>wi σ H fun J H1=>∃ W:Nat->Nat->St->Hp->Prop,(∃ m,W 0 m σ H1)/\∀ i m σ H,W i m σ H ->
 (J.stop i H/\D.nx σ H) \/ (J.go i H/\∃ N:St->Hp->Prop,(∀ σ' H',N σ' H'->∃ m',m' < m/\W (i + 1) m' σ' H')/\∀ x H',J.yld i H x H'->g x σ H' fun σ2 H2=>tb { D with nx:=N,ct:=N,bk:=D.nx } σ2 H2)
noncomputable def vJ (fp:List Addr) (h:Heap):List (Addr × Obj):=fp.filterMap fun b=>(h.get? b).map fun o=>(b,o)
theorem xW {fp:List Addr} {h:Heap} {b:Addr} {o:Obj} (hb:b ∈ fp) (e:h.get? b=some o):(b,o) ∈ vJ fp h:=List.mem_filterMap.mpr ⟨b,hb,by rw [e];rfl⟩
theorem i8 {fp:List Addr} {h:Heap} {p:Addr × Obj} (hp:p ∈ vJ fp h):p.1 ∈ fp/\h.get? p.1=some p.2:=by
 obtain ⟨b,hb,e⟩:=List.mem_filterMap.mp hp
 cases q:h.get? b with
 | none=>rw [q] at e;cases e
 | some o=>
  rw [q] at e
  have e':(b,o)=p:=zGO e
  subst e'
  exact ⟨hb,q⟩
theorem Inv.pinned {pins:List (Addr × Obj)} {σ:St} {H:Hp} {s:Shared} {fp:List Addr} (I:Inv X pins σ H s) (hf:∀ b ∈ fp,uU X pins H b) (ho:∀ b ∈ fp,∃ o,s.heap.get? b=some o/\∀ v,o.data ≠ .cell v):Inv X (pins ++ vJ fp s.heap) σ H s:=
 I.pins_of fun p hp=>(zGY.mp hp).elim (fun z=>I.pin p (zGV _ z)) fun z=>by
  obtain ⟨hb,e⟩:=i8 z
  obtain ⟨f0,f1,f2,_⟩:=hf p.1 hb
  obtain ⟨o,e',d⟩:=ho p.1 hb
  rw [e] at e';cases e'
  exact ⟨e,f0,f1,f2,d⟩
theorem Inv.unpinned {pins pl:List (Addr × Obj)} {σ:St} {H:Hp} {s:Shared} (I:Inv X (pins ++ pl) σ H s):Inv X pins σ H s:=I.pins_of fun p hp=>I.pin p (zGV _ (List.mem_append_left _ hp))
theorem uH {iter:Expr} {body:List Stmt} {wi:TI} {g:TG} {tb:TS} {pos:Pos} (hp:PassesOwn (model X.prog X.w) X.A X.env X.xe) (hc:X.calm=true) (hi:PI X tg iter wi) (hg:PG X tg g) (hb:PSs X body tb)
  (hs:∀ x,foldedSetIterable iter X.env x=pure x:=by intro _;rfl):PS X (.For tg iter body [] pos) (tFor wi g tb):=by
 intro pins s σ H D I h
 refine wpAny_For (thn (hi pins s σ H _ I h) fun v s1 h1=>thn h1 fun itv s2 h2=>?_) hs
 obtain ⟨it,fp,tn,J,H2,e,I2,T,st2,f2,W,⟨m0,w0⟩,turn⟩:=h2
 subst e
 have stat:∀ {H':Hp},(∀ b ∈ fp,H' b=none)->∀ b ∈ fp,uU X pins H' b:=fun hn b hb=>⟨hn b hb,(f2 b hb).2⟩
 refine codeAny_forLoop_any (fun n s'=>∃ i σ' H',Inv X pins σ' H' s'/\tn i s'.heap/\(∀ b ∈ fp,H' b=none)/\W i n σ' H') ?_ m0 ⟨0,σ,H2,I2,st2,fun b hb=>(f2 b hb).1,w0⟩
 rintro n s3 ⟨i,σ3,H3,I3,st3,fr3,w3⟩
 rcases turn i n σ3 H3 w3 with ⟨stop,qn⟩ | ⟨go,N,hN,step⟩
 ·refine wpAny_passesOwn hp (thn (T.done X rfl rfl rfl hc i pins s3 σ3 H3 X.xe I3 (stat fr3) st3 stop) fun r s4 ⟨hr,I4⟩=>?_)
  subst hr
  exact wpAny_execs_nil ⟨σ3,H3,I4,qn⟩
 ·refine wpAny_passesOwn hp (thn (T.item X rfl rfl rfl hc i pins s3 σ3 H3 X.xe I3 (stat fr3) st3 go) fun r s4 ⟨u,hr,h4⟩=>?_)
  subst hr
  refine wpAny_passesOwn hp (thn h4 fun _ s5 hz19=>?_)
  obtain ⟨x,H5,I5,r5,y5,st5,fr5⟩:=hz19
  have I5':=I5.pinned (stat fr5) (T.obj _ _ st5)
  refine wpAny_passesOwn hp (thn (hg _ s5 σ3 H5 x u _ I5' r5 (step x H5 y5)) fun _ s6 hz20=>?_)
  obtain ⟨σ6,H6,I6,q6⟩:=hz20
  refine wpAny_passesOwn hp (thn (hb _ s6 σ6 H6 _ I6 q6) fun f s7 q7=>?_)
  have again:∀ {σ7:St} {H7:Hp},Inv X (pins ++ vJ fp s5.heap) σ7 H7 s7->N σ7 H7->∃ m,m < n/\∃ i σ' H',Inv X pins σ' H' s7/\tn i s7.heap/\(∀ b ∈ fp,H' b=none)/\W i m σ' H':=fun {σ7 H7} I7 n7=>by
   obtain ⟨m',hm,w7⟩:=hN σ7 H7 n7
   refine ⟨m',hm,i + 1,σ7,H7,I7.unpinned,T.keep _ _ _ st5 fun b hb o e=>(I7.pin (b,o) (zGV _ (zGV _ (xW hb e)))).1,fun b hb=>?_,w7⟩
   obtain ⟨o,e,d⟩:=T.obj _ _ st5 b hb
   exact (I7.pin (b,o) (zGV _ (zGV _ (xW hb e)))).2.1
  cases f with
  | next=>obtain ⟨σ7,H7,I7,n7⟩:=q7;exact again I7 n7
  | cont=>obtain ⟨σ7,H7,I7,n7⟩:=q7;exact again I7 n7
  | brk=>obtain ⟨σ7,H7,I7,q7⟩:=q7;exact ⟨σ7,H7,I7.unpinned,q7⟩
  | ret v=>obtain ⟨x7,σ7,H7,I7,r7,q7⟩:=q7;exact ⟨x7,σ7,H7,I7.unpinned,r7,q7⟩
end
theorem sF {K:PySem.W.Frag} {a:Addr} {xs:List V} {g:TG} {tb:TS} {D:pI} {σ:St} {H:Hp} (Pv:Nat->St->Hp->Prop) (h0:Pv 0 σ H) (hl:∀ i σ H,i <= xs.length->Pv i σ H->SqL K H a xs)
  (hs:∀ i x σ H,xs[i]?=some x->Pv i σ H->g x σ H fun σ2 H2=>tb { D with nx:=Pv (i + 1),ct:=Pv (i + 1),bk:=D.nx } σ2 H2) (hd:∀ σ H,Pv xs.length σ H->D.nx σ H) :
  ∃ W:Nat->Nat->St->Hp->Prop,(∃ m,W 0 m σ H)/\∀ i m σ H,W i m σ H ->
   ((Itl K a).stop i H/\D.nx σ H) \/ ((Itl K a).go i H/\∃ N:St->Hp->Prop,(∀ σ' H',N σ' H'->∃ m',m' < m/\W (i + 1) m' σ' H')/\∀ x H',(Itl K a).yld i H x H'->g x σ H' fun σ2 H2=>tb { D with nx:=N,ct:=N,bk:=D.nx } σ2 H2):=by
 refine ⟨fun i m σ H=>m=xs.length - i/\i <= xs.length/\Pv i σ H,⟨xs.length,by simp,zGR _,h0⟩,?_⟩
 rintro i m σ H ⟨rfl,hi,p⟩
 have q:=hl i σ H hi p
 by_cases hlt:i < xs.length
 ·refine .inr ⟨⟨xs,xs[i],q,by simp [hlt]⟩,Pv (i + 1),fun σ' H' p'=>⟨xs.length - (i + 1),by omega,rfl,hlt,p'⟩,fun x H' y=>?_⟩
  obtain ⟨e,y⟩:=y
  subst e
  exact hs i x σ _ (y xs q) p
 ·have e:i=xs.length:=by omega
  subst e
  exact .inl ⟨⟨xs,q,zGQ _⟩,hd σ H p⟩
theorem vR {lo:Int} {n:Nat} {g:TG} {tb:TS} {D:pI} {σ:St} {H:Hp} (Pv:Nat->St->Hp->Prop) (h0:Pv 0 σ H)
  (hs:∀ i σ H,i < n->Pv i σ H->g (.int (lo + i)) σ H fun σ2 H2=>tb { D with nx:=Pv (i + 1),ct:=Pv (i + 1),bk:=D.nx } σ2 H2) (hd:∀ σ H,Pv n σ H->D.nx σ H) :
  ∃ W:Nat->Nat->St->Hp->Prop,(∃ m,W 0 m σ H)/\∀ i m σ H,W i m σ H ->
   ((Itr lo n).stop i H/\D.nx σ H) \/ ((Itr lo n).go i H/\∃ N:St->Hp->Prop,(∀ σ' H',N σ' H'->∃ m',m' < m/\W (i + 1) m' σ' H')/\∀ x H',(Itr lo n).yld i H x H'->g x σ H' fun σ2 H2=>tb { D with nx:=N,ct:=N,bk:=D.nx } σ2 H2):=by
 refine ⟨fun i m σ H=>m=n - i/\i <= n/\Pv i σ H,⟨n,by simp,zGR _,h0⟩,?_⟩
 rintro i m σ H ⟨rfl,hi,p⟩
 by_cases hlt:i < n
 ·refine .inr ⟨hlt,Pv (i + 1),fun σ' H' p'=>⟨n - (i + 1),by omega,rfl,hlt,p'⟩,fun x H' y=>?_⟩
  obtain ⟨e,y⟩:=y
  subst e y
  exact hs i σ _ hlt p
 ·have e:i=n:=by omega
  subst e
  exact .inl ⟨zGQ _,hd σ H p⟩
end L2
namespace L2
open PySem PySem.Spec PyProof.Rows
abbrev R2:=V->V->Hp->VK->Prop
def OpR (X:Cx) (f:Value->Value->Sem Value) (r:R2):Prop:=
 ∀ (pins:List (Addr × Obj)) (s:Shared) (σ:St) (H:Hp) (x y:V) (v u:Value) (Q:VK),Inv X pins σ H s->yN x v->yN y u->r x y H Q ->
  wpAny (model X.prog X.w) X.A (f v u) (EP X pins σ Q) X.xe s
def vN (X:Cx) (f:Value) (r:List V->Hp->VK->Prop):Prop:=
 ∀ (pins:List (Addr × Obj)) (s:Shared) (σ:St) (H:Hp) (xs:List V) (us:List Value) (Q:VK),Inv X pins σ H s->yI xs us->r xs H Q ->
  wpAny (model X.prog X.w) X.A (call f us) (EP X pins σ Q) X.xe s
def TruR (X:Cx) (r:V->Hp->(Bool->Hp->Prop)->Prop):Prop:=
 ∀ (pins:List (Addr × Obj)) (s:Shared) (σ:St) (H:Hp) (x:V) (v:Value) (Q:Bool->Hp->Prop),Inv X pins σ H s->yN x v->r x H Q ->
  wpAny (model X.prog X.w) X.A (truthy v) (TP X pins σ Q) X.xe s
def tOp (r:R2) (ta tb:TE):TE:=fun σ H Q=>ta σ H fun x H1=>tb σ H1 fun y H2=>r x y H2 Q
def rI (C:Int->Int->Prop) (g:Int->Int->V):R2:=fun x y H Q=>∃ i j,x=.int i/\y=.int j/\C i j/\Q (g i j) H
def rI0 (g:Int->Int->V):R2:=fun x y H Q=>∃ i j,x=.int i/\y=.int j/\Q (g i j) H
section
variable {X:Cx} {a b c:Expr} {ta tb tc:TE} {pos:Pos}
theorem zDW (ha:PE X a ta) (hb:PE X b tb) {pins:List (Addr × Obj)} {s:Shared} {σ:St} {H:Hp} {R:V->V->Hp->Prop} (I:Inv X pins σ H s)
  (h:ta σ H fun x H1=>tb σ H1 fun y H2=>R x y H2) {Q:Value->Shared->Prop} {f:Value->Value->Sem Value}
  (hf:∀ v u s2 x y H2,Inv X pins σ H2 s2->yN x v->yN y u->R x y H2->wpAny (model X.prog X.w) X.A (f v u) Q X.xe s2) :
  wpAny (model X.prog X.w) X.A (eval a X.env) (fun v s₁=>wpAny (model X.prog X.w) X.A (eval b X.env) (fun u s₂=>wpAny (model X.prog X.w) X.A (f v u) Q X.xe s₂) X.xe s₁) X.xe s:=by
 refine thn (ha pins s σ H _ I h) fun v s1 hz21=>?_
 obtain ⟨x,H1,I1,r1,q1⟩:=hz21
 refine thn (hb pins s1 σ H1 _ I1 q1) fun u s2 hz22=>?_
 obtain ⟨y,H2,I2,r2,q2⟩:=hz22
 exact hf v u s2 x y H2 I2 r1 r2 q2
theorem yU {op:Operator} {r:R2} (ho:OpR X (binaryOp op) r) (ha:PE X a ta) (hb:PE X b tb):PE X (.BinOp a op b pos) (tOp r ta tb):=by
 intro pins s σ H Q I h
 exact wpAny_BinOp (zDW ha hb I h fun v u s2 x y H2 I2 rx ry q=>ho pins s2 σ H2 x y v u Q I2 rx ry q)
theorem opI {f:Value->Value->Sem Value} {C:Int->Int->Prop} {g:Int->Int->Int}
  (rule:∀ (i j:Int) (t u:Tok) (s:Shared) (Q:Value->Shared->Prop) (E:Value->Shared->Prop),C i j->Q (.int (g i j) s.toks) { s with toks:=s.toks + 1 }->wpAny (model X.prog X.w) X.A (f (.int i t) (.int j u)) Q E s) :
  OpR X f (rI C fun i j=>.int (g i j)):=by
 intro pins s σ H x y v u Q I rx ry h
 obtain ⟨i,j,rfl,rfl,hc,q⟩:=h
 obtain ⟨t,rfl⟩:=rx
 obtain ⟨t',rfl⟩:=ry
 exact rule i j t t' s _ _ hc ⟨.int (g i j),H,I.tok _,⟨_,rfl⟩,q⟩
theorem zFF {f:Value->Value->Sem Value} {g:Int->Int->Int}
  (rule:∀ (i j:Int) (t u:Tok) (s:Shared) (Q:Value->Shared->Prop) (E:Value->Shared->Prop),Q (.int (g i j) s.toks) { s with toks:=s.toks + 1 }->wpAny (model X.prog X.w) X.A (f (.int i t) (.int j u)) Q E s) :
  OpR X f (rI0 fun i j=>.int (g i j)):=by
 intro pins s σ H x y v u Q I rx ry h
 obtain ⟨i,j,rfl,rfl,q⟩:=h
 obtain ⟨t,rfl⟩:=rx
 obtain ⟨t',rfl⟩:=ry
 exact rule i j t t' s _ _ ⟨.int (g i j),H,I.tok _,⟨_,rfl⟩,q⟩
theorem zC4 {f:Value->Value->Sem Value} {g:Int->Int->Bool}
  (rule:∀ (i j:Int) (t u:Tok) (s:Shared) (Q:Value->Shared->Prop) (E:Value->Shared->Prop),Q (.bool (g i j)) s->wpAny (model X.prog X.w) X.A (f (.int i t) (.int j u)) Q E s) :
  OpR X f (rI0 fun i j=>.bl (g i j)):=by
 intro pins s σ H x y v u Q I rx ry h
 obtain ⟨i,j,rfl,rfl,q⟩:=h
 obtain ⟨t,rfl⟩:=rx
 obtain ⟨t',rfl⟩:=ry
 exact rule i j t t' s _ _ ⟨.bl (g i j),H,I,rfl,q⟩
def zBB (i j:Int):Prop:=0 < j/\j < 1073741824
def g7 (i j:Int):Prop:=(-(2 ^ 64) < i/\i < 2 ^ 64) \/ (-(2 ^ 64) < j/\j < 2 ^ 64)
theorem g7.ok {i j:Int} (h:g7 i j):IntMulOk i j:=by
 rcases h with ⟨h1,h2⟩ | ⟨h1,h2⟩
 ·exact .of_left (intBits_le_64 h1 h2)
 ·exact .of_right (intBits_le_64 h1 h2)
theorem wZ:OpR X (binaryOp .Add) (rI0 fun i j=>.int (i + j)):=zFF fun _ _ _ _ _ _ _ q=>add_int q
theorem zCZ:OpR X (binaryOp .Sub) (rI0 fun i j=>.int (i - j)):=zFF fun _ _ _ _ _ _ _ q=>sub_int q
theorem sU:OpR X (binaryOp .Mult) (rI g7 fun i j=>.int (i * j)):=opI fun _ _ _ _ _ _ _ hc q=>mul_int q hc.ok
theorem rZ:OpR X (binaryOp .FloorDiv) (rI zBB fun i j=>.int (i / j)):=opI fun i j _ _ _ _ _ hc q=>by
 have h1:(0:Int) < j:=hc.1
 have h2:j < 1073741824:=hc.2
 exact floordiv_int (by omega) (by rw [Int.fdiv_eq_ediv_of_nonneg i (by omega)];exact q) (.inl (PyProof.noPylong_small (by omega)))
theorem uM:OpR X (binaryOp .Mod) (rI (fun _ j=>0 < j) fun i j=>.int (i % j)):=opI fun i j _ _ _ _ _ hc q=>by
 have h1:(0:Int) < j:=hc
 exact mod_int' (by omega) (by rw [Int.fmod_eq_emod_of_nonneg i (by omega)];exact q)
end
noncomputable def fT:V->V->Bool
 | .non,.non=>true | .non,.int _=>true | .int _,.non=>true | .non,.bl _=>true | .bl _,.non=>true | .non,.str _=>true | .str _,.non=>true
 | .int _,.int _=>true | .bl _,.bl _=>true | .str _,.str _=>true | .byt _,.byt _=>true
 | .int _,.str _=>true | .str _,.int _=>true | .bl _,.str _=>true | .str _,.bl _=>true
 | _,_=>false
def rEq:R2:=fun x y H Q=>fT x y=true/\Q (.bl (decide (x=y))) H
def rNe:R2:=fun x y H Q=>fT x y=true/\Q (.bl (!decide (x=y))) H
theorem iK {i j:Int}:decide (V.int i=V.int j)=(i == j):=by
 rw [Bool.eq_iff_iff]
 simp
theorem cV {i j:Bool}:decide (V.bl i=V.bl j)=(i == j):=by
 rw [Bool.eq_iff_iff]
 simp
theorem iJ {i j:Str}:decide (V.str i=V.str j)=(i == j):=by
 rw [Bool.eq_iff_iff]
 simp
theorem iL {i j:Array UInt8}:decide (V.byt i=V.byt j)=(i.toList == j.toList):=by
 rw [Bool.eq_iff_iff]
 cases i
 cases j
 simp
section
variable {X:Cx} {a b c:Expr} {ta tb tc:TE} {pos:Pos}
theorem yW {pins:List (Addr × Obj)} {σ:St} {H:Hp} {s:Shared} {Q:VK} {k k':Bool} (I:Inv X pins σ H s) (q:Q (.bl k) H) (e:k=k'):EP X pins σ Q (.bool k') s:=by
 subst e
 exact ⟨.bl k,H,I,rfl,q⟩
theorem xO:OpR X (compareOp .Eq) rEq:=by
 intro pins s σ H x y v u Q I rx ry h
 obtain ⟨hs,q⟩:=h
 cases x with
 | non=>
  cases rx
  cases y with
  | non=>cases ry;exact PySem.EqNone.eq_none_none (yW I q (by simp))
  | bl j=>cases ry;exact PySem.EqNone.eq_none_bool (yW I q (by simp))
  | int j=>obtain ⟨t',rfl⟩:=ry;exact PySem.EqNone.eq_none_int (yW I q (by simp))
  | str j=>obtain ⟨t',rfl⟩:=ry;exact PySem.EqNone.eq_none_str (yW I q (by simp))
  | _=>exact absurd (show false=true from hs) zG9
 | bl i=>
  cases rx
  cases y with
  | non=>cases ry;exact PySem.EqNone.eq_bool_none (yW I q (by simp))
  | bl j=>cases ry;exact eq_bool (yW I q cV)
  | str j=>obtain ⟨t',rfl⟩:=ry;exact PySem.EqMixed.eq_bool_str (yW I q (by simp))
  | _=>exact absurd (show false=true from hs) zG9
 | int i=>
  obtain ⟨t,rfl⟩:=rx
  cases y with
  | non=>cases ry;exact PySem.EqNone.eq_int_none (yW I q (by simp))
  | int j=>obtain ⟨t',rfl⟩:=ry;exact eq_int (yW I q iK)
  | str j=>obtain ⟨t',rfl⟩:=ry;exact PySem.EqMixed.eq_int_str (yW I q (by simp))
  | _=>exact absurd (show false=true from hs) zG9
 | str i=>
  obtain ⟨t,rfl⟩:=rx
  cases y with
  | non=>cases ry;exact PySem.EqNone.eq_str_none (yW I q (by simp))
  | bl j=>cases ry;exact PySem.EqMixed.eq_str_bool (yW I q (by simp))
  | int j=>obtain ⟨t',rfl⟩:=ry;exact PySem.EqMixed.eq_str_int (yW I q (by simp))
  | str j=>obtain ⟨t',rfl⟩:=ry;exact eq_str (yW I q iJ)
  | _=>exact absurd (show false=true from hs) zG9
 | byt i=>
  obtain ⟨t,rfl⟩:=rx
  cases y with
  | byt j=>obtain ⟨t',rfl⟩:=ry;exact PySem.W.eq_bytes (yW I q iL)
  | _=>exact absurd (show false=true from hs) zG9
 | _=>cases y <;> exact absurd (show false=true from hs) zG9
theorem mP:OpR X (compareOp .NotEq) rNe:=by
 intro pins s σ H x y v u Q I rx ry h
 obtain ⟨hs,q⟩:=h
 cases x with
 | non=>
  cases rx
  cases y with
  | non=>cases ry;exact PySem.EqNone.ne_none_none (yW I q (by simp))
  | bl j=>cases ry;exact PySem.EqNone.ne_none_bool (yW I q (by simp))
  | int j=>obtain ⟨t',rfl⟩:=ry;exact PySem.EqNone.ne_none_int (yW I q (by simp))
  | str j=>obtain ⟨t',rfl⟩:=ry;exact PySem.EqNone.ne_none_str (yW I q (by simp))
  | _=>exact absurd (show false=true from hs) zG9
 | bl i=>
  cases rx
  cases y with
  | non=>cases ry;exact PySem.EqNone.ne_bool_none (yW I q (by simp))
  | bl j=>cases ry;exact ne_bool (yW I q (congrArg not cV))
  | str j=>obtain ⟨t',rfl⟩:=ry;exact PySem.EqMixed.ne_bool_str (yW I q (by simp))
  | _=>exact absurd (show false=true from hs) zG9
 | int i=>
  obtain ⟨t,rfl⟩:=rx
  cases y with
  | non=>cases ry;exact PySem.EqNone.ne_int_none (yW I q (by simp))
  | int j=>obtain ⟨t',rfl⟩:=ry;exact ne_int (yW I q (congrArg not iK))
  | str j=>obtain ⟨t',rfl⟩:=ry;exact PySem.EqMixed.ne_int_str (yW I q (by simp))
  | _=>exact absurd (show false=true from hs) zG9
 | str i=>
  obtain ⟨t,rfl⟩:=rx
  cases y with
  | non=>cases ry;exact PySem.EqNone.ne_str_none (yW I q (by simp))
  | bl j=>cases ry;exact PySem.EqMixed.ne_str_bool (yW I q (by simp))
  | int j=>obtain ⟨t',rfl⟩:=ry;exact PySem.EqMixed.ne_str_int (yW I q (by simp))
  | str j=>obtain ⟨t',rfl⟩:=ry;exact ne_str (yW I q (congrArg not iJ))
  | _=>exact absurd (show false=true from hs) zG9
 | byt i=>
  obtain ⟨t,rfl⟩:=rx
  cases y with
  | byt j=>obtain ⟨t',rfl⟩:=ry;exact PySem.W.ne_bytes (yW I q (congrArg not iL))
  | _=>exact absurd (show false=true from hs) zG9
 | _=>cases y <;> exact absurd (show false=true from hs) zG9
theorem zBO:OpR X (compareOp .Lt) (rI0 fun i j=>.bl (decide (i < j))):=zC4 fun _ _ _ _ _ _ _ q=>lt_int q
theorem eY:OpR X (compareOp .LtE) (rI0 fun i j=>.bl (decide (i <= j))):=zC4 fun _ _ _ _ _ _ _ q=>le_int q
theorem eZ:OpR X (compareOp .Gt) (rI0 fun i j=>.bl (decide (j < i))):=zC4 fun _ _ _ _ _ _ _ q=>gt_int q
theorem i7:OpR X (compareOp .In) (fun x y H Q=>∃ i j,x=.str i/\y=.str j/\Q (.bl (!(Builtin.Str.occurrences j i 0 j.length 1).isEmpty)) H):=by
 intro pins s σ H x y v u Q I rx ry h
 obtain ⟨i,j,rfl,rfl,q⟩:=h
 obtain ⟨t,rfl⟩:=rx
 obtain ⟨t',rfl⟩:=ry
 exact in_str (yW I q rfl)
theorem vK:OpR X (compareOp .Is) (fun x y H Q=>y=.non/\Q (.bl (decide (x=.non))) H):=by
 intro pins s σ H x y v u Q I rx ry h
 obtain ⟨rfl,q⟩:=h
 cases ry
 refine is_none_gen (yW I q ?_)
 cases x <;> first
  | (cases rx;rfl)
  | (obtain ⟨t,rfl⟩:=rx;rfl)
theorem uL:OpR X (compareOp .IsNot) (fun x y H Q=>y=.non/\Q (.bl (!decide (x=.non))) H):=by
 intro pins s σ H x y v u Q I rx ry h
 obtain ⟨rfl,q⟩:=h
 cases ry
 refine isnot_none_gen (yW I q ?_)
 cases x <;> first
  | (cases rx;rfl)
  | (obtain ⟨t,rfl⟩:=rx;rfl)
theorem zV (b:Expr) {op:CmpOp} (h:op ≠ .In:=by decide) (h2:op ≠ .NotIn:=by decide):behindInMarks op b=false:=by
 have e1:(op == CmpOp.In)=false:=by cases op <;> first | rfl | exact absurd rfl h
 have e2:(op == CmpOp.NotIn)=false:=by cases op <;> first | rfl | exact absurd rfl h2
 cases b <;> simp [behindInMarks,e1,e2]
theorem wD {op:CmpOp} {r:R2} (ho:OpR X (compareOp op) r) (ha:PE X a ta) (hb:PE X b tb) (hm:behindInMarks op b=false):PE X (.Compare a [op] [b] pos) (tOp r ta tb):=by
 intro pins s σ H Q I h
 exact wpAny_Compare1 (zDW ha hb I h fun v u s2 x y H2 I2 rx ry q=>ho pins s2 σ H2 x y v u Q I2 rx ry q) hm
def fE (t:TE):TT:=fun σ H Q=>t σ H fun x H'=>∃ k,x=.bl k/\Q k H'
theorem zS {op:CmpOp} {r:R2} (ho:OpR X (compareOp op) r) (ha:PE X a ta) (hb:PE X b tb) (hm:behindInMarks op b=false):PT X (.Compare a [op] [b] pos) (fE (tOp r ta tb)):=by
 intro pins s σ H Q I h
 refine wpAny_isTrue_Compare1 (thn (ha pins s σ H _ I h) fun v s1 ⟨x,H1,I1,r1,q1⟩=>thn (hb pins s1 σ H1 _ I1 q1) fun u s2 ⟨y,H2,I2,r2,q2⟩=>
  thn (ho pins s2 σ H2 x y v u _ I2 r1 r2 q2) fun c s3 ⟨z,H3,I3,r3,k,e,q3⟩=>?_) hm
 subst e
 cases r3
 exact wpAny_truthy_bool ⟨H3,I3,q3⟩
def fJ (r r':R2) (ta tb tc:TE):TE:=fun σ H Q=>ta σ H fun x H1=>tb σ H1 fun y H2=>r x y H2 fun z H3=>∃ k,z=.bl k /\
 (if k=true then tc σ H3 fun w' H4=>r' y w' H4 Q else Q (.bl false) H3)
theorem eW {op op':CmpOp} {r r':R2} (ho:OpR X (compareOp op) r) (ho':OpR X (compareOp op') r') (ha:PE X a ta) (hb:PE X b tb) (hc:PE X c tc)
  (hm:lastMarks [op,op'] [b,c]=false:=by with_unfolding_all rfl):PE X (.Compare a [op,op'] [b,c] pos) (fJ r r' ta tb tc):=by
 intro pins s σ H Q I h
 refine Compare_chain (thn (ha pins s σ H _ I h) fun v s1 ⟨x,H1,I1,r1,q1⟩=>chain_link (thn (hb pins s1 σ H1 _ I1 q1) fun u s2 ⟨y,H2,I2,r2,q2⟩=>
  thn (ho pins s2 σ H2 x y v u _ I2 r1 r2 q2) fun d s3 ⟨z,H3,I3,r3,k,e,q3⟩=>?_)) hm
 subst e
 cases r3
 refine wpAny_truthy_bool ?_
 cases k with
 | false=>exact ite_ff ⟨.bl false,H3,I3,rfl,q3⟩
 | true=>exact ite_tt (chain_last (thn (hc pins s3 σ H3 _ I3 q3) fun w' s4 ⟨z',H4,I4,r4,q4⟩=>ho' pins s4 σ H4 y z' u w' Q I4 r2 r4 q4))
theorem eL {op op':CmpOp} {r r':R2} (ho:OpR X (compareOp op) r) (ho':OpR X (compareOp op') r') (ha:PE X a ta) (hb:PE X b tb) (hc:PE X c tc)
  (hm:lastMarks [op,op'] [b,c]=false:=by with_unfolding_all rfl):PT X (.Compare a [op,op'] [b,c] pos) (fE (fJ r r' ta tb tc)):=by
 intro pins s σ H Q I h
 refine isTrue_chain (thn (ha pins s σ H _ I h) fun v s1 ⟨x,H1,I1,r1,q1⟩=>test_link (thn (hb pins s1 σ H1 _ I1 q1) fun u s2 ⟨y,H2,I2,r2,q2⟩=>
  thn (ho pins s2 σ H2 x y v u _ I2 r1 r2 q2) fun d s3 ⟨z,H3,I3,r3,k,e,q3⟩=>?_)) hm
 subst e
 cases r3
 refine wpAny_truthy_bool ?_
 cases k with
 | false=>
  obtain ⟨k',e',q'⟩:=q3
  cases e'
  exact ite_ff ⟨H3,I3,q'⟩
 | true=>
  refine ite_tt (test_last (thn (hc pins s3 σ H3 _ I3 q3) fun w' s4 hz23=>?_))
  obtain ⟨z',H4,I4,r4,q4⟩:=hz23
  refine thn (ho' pins s4 σ H4 y z' u w' _ I4 r2 r4 q4) fun d' s5 hz24=>?_
  obtain ⟨z2,H5,I5,r5,k2,e2,q5⟩:=hz24
  subst e2
  cases r5
  exact wpAny_truthy_bool ⟨H5,I5,q5⟩
def zGD (K:PySem.W.Frag) (x:V) (H:Hp) (k:Bool):Prop:=
 match x with
 | .non=>k=false
 | .bl b=>k=b
 | .int i=>k=(i != 0)
 | .str y=>y.length <= sizeLine/\k=((y.length:Int) != 0)
 | .byt y=>y.size <= sizeLine/\k=((y.size:Int) != 0)
 | .ref p=>(∃ xs,SqL K H p xs/\k = !xs.isEmpty) \/ (∃ xs,SqT K H p xs/\k = !xs.isEmpty) \/ ∃ kvs,H p=some (.dK kvs)/\k = !kvs.isEmpty
 | _=>False
theorem kQ {κ:Type} {kvs:List (κ × V)} {vs:List (κ × Value)} (r:KV kvs vs):(!vs.isEmpty) = !kvs.isEmpty:=by
 cases r <;> rfl
theorem qX {xs:List V} {its:List Value} (r:yI xs its):(!its.toArray.isEmpty) = !xs.isEmpty:=by
 cases r <;> simp
theorem sV:(sizeLine:Nat) < 2 ^ 63:=by rw [sizeLine_eq];decide
theorem zB3:TruR X (fun x H Q=>∃ k,zGD X.K x H k/\Q k H):=by
 intro pins s σ H x v Q I rx h
 obtain ⟨k,e,q⟩:=h
 have hl:=sV
 have hs:sizeLine=16777216:=sizeLine_eq
 cases x with
 | non=>
  cases rx
  have e':k=false:=e
  subst e'
  exact truthy_none ⟨H,I,q⟩
 | bl b=>
  cases rx
  have e':k=b:=e
  subst e'
  exact wpAny_truthy_bool ⟨H,I,q⟩
 | int i=>
  obtain ⟨t,rfl⟩:=rx
  have e':k=(i != 0):=e
  subst e'
  exact PySem.P.truthy_int ⟨H,I,q⟩
 | str y=>
  obtain ⟨t,rfl⟩:=rx
  obtain ⟨hy,e'⟩:y.length <= sizeLine/\k=((y.length:Int) != 0):=e
  subst e'
  exact PySem.P.truthy_str (by omega) ⟨H,I.tok _,q⟩
 | byt y=>
  obtain ⟨t,rfl⟩:=rx
  obtain ⟨hy,e'⟩:y.size <= sizeLine/\k=((y.size:Int) != 0):=e
  subst e'
  exact PySem.W.truthy_bytes (by omega) ⟨H,I.tok _,q⟩
 | ref p=>
  cases rx
  have e':(∃ xs,SqL X.K H p xs/\k = !xs.isEmpty) \/ (∃ xs,SqT X.K H p xs/\k = !xs.isEmpty) \/ ∃ kvs,H p=some (.dK kvs)/\k = !kvs.isEmpty:=e
  rcases e' with ⟨xs,hx,e'⟩ | ⟨xs,hx,e'⟩ | ⟨kvs,hx,e'⟩
  ·subst e'
   obtain ⟨its,r,pl,hz⟩:=I.list hx
   have hlen:=r.length
   exact wpAny_truthy_list pl.isList (by simp only [zGP];omega) ⟨H,I.tok _,by rw [qX r];exact q⟩
  ·subst e'
   obtain ⟨its,r,pl,hz⟩:=I.tuple hx
   have hlen:=r.length
   exact truthy_tuple pl (by simp only [zGP];omega) ⟨H,I.tok _,by rw [qX r];exact q⟩
  ·subst e'
   obtain ⟨hz,hS,vs,r,m⟩:kvs.length <= sizeLine/\(p == sysModules)=false/\∃ vs,KV kvs vs/\s.heap.DictOf (x0 X.prog X.w) p vs:=I.hok p _ hx
   have hlen:kvs.length=vs.length:=Paired.length r
   exact wpAny_truthy_dict hS m (by omega) ⟨H,I.tok _,by rw [kQ r];exact q⟩
 | _=>exact (show False from e).elim
theorem eI (ha:PE X a ta) (he:∀ whole,isTrue a X.env whole=(do let v <- whole;standAt a.pos;holding [v] (truthy v))) :
  PT X a (fun σ H Q=>ta σ H fun x H'=>∃ k,zGD X.K x H' k/\Q k H'):=by
 intro pins s σ H Q I h
 exact isTrue_plain (thn (ha pins s σ H _ I h) fun v s1 ⟨x,H1,I1,r1,q1⟩=>zB3 pins s1 σ H1 x v Q I1 r1 q1) (he _)
theorem kH:OpR X (binaryOp .Add) (fun x y H Q=>∃ i j,x=.str i/\y=.str j/\i.length + j.length <= sizeLine/\Q (.str (i ++ j)) H):=by
 intro pins s σ H x y v u Q I rx ry h
 obtain ⟨i,j,rfl,rfl,hz,q⟩:=h
 obtain ⟨t,rfl⟩:=rx
 obtain ⟨t',rfl⟩:=ry
 exact add_str (fun t' tk=>⟨.str (i ++ j),H,I.tok _,⟨_,rfl⟩,q⟩) hz
theorem tI {x:V} {us:List Value} (r:yI [x] us):∃ u,us=[u]/\yN x u:=by
 cases r with
 | cons r1 r2=>cases r2;exact ⟨_,rfl,r1⟩
theorem pW:vN X (.type "int") (fun xs H Q=>(∃ i,xs=[.int i]/\Q (.int i) H) \/ ∃ k,xs=[.bl k]/\Q (.int (if k then 1 else 0)) H):=by
 intro pins s σ H xs us Q I r h
 rcases h with ⟨i,rfl,q⟩ | ⟨k,rfl,q⟩
 ·obtain ⟨u,rfl,t,rfl⟩:=tI r
  exact call_int_int ⟨.int i,H,I,⟨_,rfl⟩,q⟩
 ·obtain ⟨u,rfl,r1⟩:=tI r
  cases r1
  exact call_int_bool ⟨.int (if k then 1 else 0),H,I.tok _,⟨_,rfl⟩,q⟩
def zBA (K:PySem.W.Frag) (x:V) (H:Hp) (n:Nat):Prop:=
 match x with
 | .str y=>y.length <= sizeLine/\n=y.length
 | .byt y=>y.size <= sizeLine/\n=y.size
 | .ref p=>(∃ xs,SqL K H p xs/\n=xs.length) \/ ∃ xs,SqT K H p xs/\n=xs.length
 | _=>False
theorem yK:vN X (.builtin "len") (fun xs H Q=>∃ x n,xs=[x]/\zBA X.K x H n/\Q (.int n) H):=by
 intro pins s σ H xs us Q I r h
 obtain ⟨x,n,rfl,e,q⟩:=h
 obtain ⟨u,rfl,rx⟩:=tI r
 have hl:=sV
 have hs:sizeLine=16777216:=sizeLine_eq
 cases x with
 | str y=>
  obtain ⟨t,rfl⟩:=rx
  obtain ⟨hy,e'⟩:y.length <= sizeLine/\n=y.length:=e
  subst e'
  exact len_str (by omega) ⟨.int _,H,I.tok _,⟨_,rfl⟩,q⟩
 | byt y=>
  obtain ⟨t,rfl⟩:=rx
  obtain ⟨hy,e'⟩:y.size <= sizeLine/\n=y.size:=e
  subst e'
  exact PySem.W.len_bytes (by omega) ⟨.int _,H,I.tok _,⟨_,rfl⟩,q⟩
 | ref p=>
  cases rx
  have e':(∃ xs,SqL X.K H p xs/\n=xs.length) \/ ∃ xs,SqT X.K H p xs/\n=xs.length:=e
  rcases e' with ⟨xs,hx,e'⟩ | ⟨xs,hx,e'⟩
  ·subst e'
   obtain ⟨its,r',pl,hz⟩:=I.list hx
   have hlen:=r'.length
   exact Calls.call_len_list pl.isList (by simp only [zGP];omega) ⟨.int xs.length,H,I.tok _,⟨_,by simp only [zGP];rw [hlen]⟩,q⟩
  ·subst e'
   obtain ⟨its,r',pl,hz⟩:=I.tuple hx
   have hlen:=r'.length
   exact len_tuple pl (by simp only [zGP];omega) ⟨.int xs.length,H,I.tok _,⟨_,by simp only [zGP];rw [hlen]⟩,q⟩
 | _=>exact (show False from e).elim
end
end L2
namespace L2
open PySem PySem.Spec PyProof.Rows
structure jC (h:Heap) (x dx C:Addr) (mA:Str->Option Value):Prop where
 obj:h.get? x=some (PySem.W.instObj C dx)
 ns:h.Ns1 dx mA
 ne:dx ≠ x
theorem hV {h:Heap} {dx:Addr} {mA:Str->Option Value} (n:h.Ns1 dx mA):∃ od,h.get? dx=some od/\∀ name,PySem.W.lookIn name od=some (mA name):=by
 obtain ⟨o,es,ep,ho,hd,hk,_,hm⟩:=n
 refine ⟨o,ho,fun name=>?_⟩
 have e:=hm name
 unfold nsFind findBy at e
 rw [<- Array.find?_toList] at e
 unfold PySem.W.lookIn
 rw [hd]
 dsimp only
 split
 ·rename_i y q
  rw [q] at e
  exact congrArg some e
 ·rename_i q
  rw [q] at e
  have a:es.toList.any (·.refKey)=false:=by
   rw [List.any_eq_false]
   intro y hy
   obtain ⟨z,t,hkey⟩:=hk y (Array.mem_toList_iff.mp hy)
   simp [DictEntry.refKey,hkey]
  have a':¬ es.toList.any (·.refKey)=true:=by rw [a];exact zG9
  rw [if_neg a']
  exact congrArg some e
theorem jC.look {h:Heap} {x dx C:Addr} {mA:Str->Option Value} (I:jC h x dx C mA):∃ od,PySem.W.InstAt h x (PySem.W.instObj C dx) C (some od)/\∀ name,PySem.W.lookIn name od=some (mA name):=
 let ⟨od,ho,hl⟩:=hV I.ns
 ⟨od,⟨I.obj,rfl,rfl,ho⟩,hl⟩
section
variable {prog:Program} {w:World} {A:Around} {E:Value->Shared->Prop} {s:Shared} {K:PySem.W.Frag} {x dx C f:Addr} {mA:Str->Option Value} {name:Str} {v:Value}
theorem zAS {expr:Bool} {Q:Value->Shared->Prop} (X:K.In s.heap) (I:jC s.heap x dx C mA) (hg:PySem.W.plainGet K C name=true) (hh:PySem.W.hasDictIn K C=true)
  (ha:PySem.W.findIn K (.ref C) name=some none) (hv:mA name=some v) (hv':PySem.W.handedIn v=true) (h:Q v { s with toks:=s.toks + 1 }) :
  wpAny (model prog w) A (getAttr (.ref x) name expr) Q E s:=by
 obtain ⟨od,J,hl⟩:=I.look
 exact PySem.W.get_value X J (PySem.W.plainGet_of hg).1 (PySem.W.findObj_own hh ha rfl (by rw [hl,hv])) hv' h
theorem cH {pl:Sem Bool} {Q:Value × List Value->Shared->Prop} (X:K.In s.heap) (I:jC s.heap x dx C mA) (hg:PySem.W.plainGet K C name=true)
  (hf:PySem.W.findIn K (.ref C) name=some (some (.ref f))) (ht:PySem.W.isFn K (.ref f)=true) (hv:mA name=none) (h:Q (.ref f,[.ref x]) s) :
  wpAny (model prog w) A (getMethod (.ref x) name pl) Q E s:=by
 obtain ⟨od,J,hl⟩:=I.look
 exact PySem.W.method_fn X J (PySem.W.plainGet_of hg).1 (PySem.W.plainGet_of hg).2 hf (beq_iff_eq.mp ht) (by show (PySem.W.lookIn name od).map (·.isSome)=some false;rw [hl,hv];rfl) h
theorem bW {ns:List Str} {Q:Unit->Shared->Prop} (X:K.In s.heap) (I:jC s.heap x dx C mA)
  (hs:PySem.W.findIn K (.ref C) "__setattr__"=some (some (.builtin "object.__setattr__"))) (hp:PySem.W.plainOver K C=true) (ht:PySem.W.takerIn K C name=some none) (hh:PySem.W.hasDictIn K C=true)
  (hw:PySem.Within mA ns) (hsz:ns.length <= sizeLine)
  (h:∀ h',jC h' x dx C (fun y=>if y=name then some v else mA y)->Heap.SameBut dx s.heap h'->Q () { s with heap:=h',toks:=s.toks + 2 }) :
  wpAny (model prog w) A (setAttr (.ref x) name v) Q E s:=by
 obtain ⟨od,J,hl⟩:=I.look
 refine PySem.W.set_plain X J hs (PySem.W.osa_open (s:={ s with toks:=s.toks + 1 }) (r:=none) X J hp ht fun b=>?_)
 obtain ⟨cd,hc,hd'⟩:=PySem.W.any_some hh
 have hx:s.heap.get? x=some ⟨.ref C,some dx,.plain,#[]⟩:=I.obj
 refine wpAny_bind (wpAny_pure (wpAny_bind (wpAny_bind (wpAny_loadPart hx (wpAny_bind (PySem.W.Looks.here (s:={ s with toks:=s.toks + 1 }) (PySem.W.looks_clsIn X hc) ?_))))))
 rw [hd']
 refine wpAny_pure (a:=some dx) (wpAny_bind (wpAny_pure (wpAny_bind ?_)))
 refine wpAny_nsSet1 (s:={ s with toks:=s.toks + 1 }) I.ns fun h' hn2 hs2=>?_
 obtain ⟨oD,esD,epD,hoD,hdD,hcD⟩:=hn2.count (PySem.Within.cons name v hw)
 refine wpAny_bind (wpAny_lookBehind hoD (by rw [hdD];exact pastItsLine_dict (zGS hcD (by rw [zG2];omega))) ?_)
 exact wpAny_pure (h _ ⟨(hs2.2 _ (Ne.symm I.ne)).trans I.obj,hn2,I.ne⟩ hs2)
theorem dN {R:Result->Shared->Prop} {vs:List Value} {kw:List (Str × Value)} (X:K.In s.heap) (hm:PySem.W.makesIn K C=true)
  (hi:PySem.W.findIn K (.ref C) "__init__"=some (some (.ref f))) (hf:PySem.W.typeIn K (.ref f)=some (.type "function"))
  (h:codeAny (model prog w) (A.under (.builtin "type.__call__" ⟨.ref C :: vs,kw⟩)) (.call (.ref f) ⟨.ref (s.heap.objs.size + 1) :: vs,kw⟩) (PySem.W.InitBack (s.heap.objs.size + 1) R)
   { s with heap:=(s.heap.push PySem.W.emptyDict).push (PySem.W.instObj C s.heap.objs.size) }) :
  codeAny (model prog w) A (.call (.ref C) ⟨vs,kw⟩) R s:=by
 obtain ⟨hh,g,d,t,os⟩:=s
 exact PySem.W.make_core (PySem.W.makes_of X hm) (PySem.W.looks_findIn X hi) (fun self=>PySem.W.bind_fn X self hf) (.inl rfl) h
end
noncomputable def xZ (f:Str) (v:V):List (Str × V)->List (Str × V)
 | []=>[(f,v)]
 | (g,x) :: r=>if g=f then (g,v) :: r else (g,x) :: xZ f v r
theorem rG (f g:Str) (v:V):∀ fs:List (Str × V),(xZ f v fs).lookup g=if g=f then some v else fs.lookup g
 | []=>by
  show List.lookup g [(f,v)]=_
  by_cases h:g=f
  ·have hb:(g == f)=true:=beq_iff_eq.mpr h
   simp only [List.lookup,hb,if_pos h]
  ·have hb:(g == f)=false:=beq_eq_false_iff_ne.mpr h
   simp only [List.lookup,hb,if_neg h]
 | (k,x) :: r=>by
  have ih:=rG f g v r
  rw [show xZ f v ((k,x) :: r)=(if k=f then (k,v) :: r else (k,x) :: xZ f v r) from rfl]
  by_cases hk:k=f
  ·rw [if_pos hk]
   by_cases h:g=k
   ·have hb:(g == k)=true:=beq_iff_eq.mpr h
    simp only [List.lookup,hb,if_pos (h.trans hk)]
   ·have hb:(g == k)=false:=beq_eq_false_iff_ne.mpr h
    simp only [List.lookup,hb,if_neg (fun e:g=f=>h (e.trans hk.symm))]
  ·rw [if_neg hk]
   by_cases h:g=k
   ·have hb:(g == k)=true:=beq_iff_eq.mpr h
    simp only [List.lookup,hb,if_neg (fun e:g=f=>hk (h.symm.trans e))]
   ·have hb:(g == k)=false:=beq_eq_false_iff_ne.mpr h
    simp only [List.lookup,hb]
    exact ih
theorem sZ (f:Str) (v:V):∀ fs:List (Str × V),f ∈ (xZ f v fs).map (·.1)/\∀ g,g ∈ fs.map (·.1)->g ∈ (xZ f v fs).map (·.1)
 | []=>⟨by simp [xZ],fun g h=>by simp at h⟩
 | (k,x) :: r=>by
  obtain ⟨i1,i2⟩:=sZ f v r
  rw [show xZ f v ((k,x) :: r)=(if k=f then (k,v) :: r else (k,x) :: xZ f v r) from rfl]
  by_cases hk:k=f
  ·rw [if_pos hk]
   subst hk
   exact ⟨by simp,fun g h=>by simpa using h⟩
  ·rw [if_neg hk]
   refine ⟨?_,fun g h=>?_⟩
   ·rw [List.map_cons]
    exact zGU _ i1
   ·rw [List.map_cons] at h ⊢
    rcases List.mem_cons.mp h with e | e
    ·exact List.mem_cons.mpr (.inl e)
    ·exact zGU _ (i2 g e)
theorem rJ (f:Str) (v:V):∀ fs:List (Str × V),(xZ f v fs).length <= fs.length + 1
 | []=>by simp [xZ]
 | (k,x) :: r=>by
  have ih:=rJ f v r
  rw [show xZ f v ((k,x) :: r)=(if k=f then (k,v) :: r else (k,x) :: xZ f v r) from rfl]
  by_cases hk:k=f
  ·rw [if_pos hk,zG2,zG2];omega
  ·rw [if_neg hk,zG2,zG2];omega
theorem tH.some_of {v:V} {o:Option Value} (r:tH (some v) o):∃ u,o=some u/\yN v u:=by
 cases o with
 | none=>exact (show False from r).elim
 | some u=>exact ⟨u,rfl,r⟩
theorem tH.none_of {o:Option Value} (r:tH none o):o=none:=by
 cases o with
 | none=>rfl
 | some u=>exact (show False from r).elim
theorem gH {v:V} {u:Value} (r:yN v u):PySem.W.handedIn u=true:=by
 cases v with
 | non=>cases (show u=Value.none from r);rfl
 | bl b=>cases (show u=Value.bool b from r);rfl
 | int i=>obtain ⟨t,e⟩:=(show ∃ t,u=Value.int i t from r);cases e;rfl
 | str x=>obtain ⟨t,e⟩:=(show ∃ t,u=Value.str x t from r);cases e;rfl
 | byt b=>obtain ⟨t,e⟩:=(show ∃ t,u=Value.bytes b t from r);cases e;rfl
 | flt b=>obtain ⟨t,e⟩:=(show ∃ t,u=Value.float b t from r);cases e;rfl
 | ref a=>cases (show u=Value.ref a from r);rfl
 | ty n=>cases (show u=Value.type n from r);rfl
section
variable {P:Program} {w:World} {H H':Hp} {h h':Heap} {a C dx:Addr} {fs fs':List (Str × V)}
theorem qA (hok:HOk P w H h) (e:H a=some (.ins C dx fs)):∃ mA,jC h a dx C mA/\(∀ f,tH (fs.lookup f) (mA f))/\PySem.Within mA (fs.map (·.1))/\fs.length <= 1000/\H dx=some (.own a):=by
 obtain ⟨d,z,ne,ob,mA,n,r,q⟩:=(show xP P w H h a (.ins C dx fs) from hok a _ e)
 exact ⟨mA,⟨ob,n,ne⟩,r,q,z,d⟩
end
structure Cls (K:PySem.W.Frag) (C:Addr):Prop where
 pg:PySem.W.plainGet K C Str.empty=true
 hd:PySem.W.hasDictIn K C=true
 po:PySem.W.plainOver K C=true
 sa:PySem.W.findIn K (.ref C) "__setattr__"=some (some (.builtin "object.__setattr__"))
theorem Cls.get {K:PySem.W.Frag} {C:Addr} (c:Cls K C) (f:Str):PySem.W.plainGet K C f=true:=c.pg
def vE (K:PySem.W.Frag) (C:Addr) (f:Str):Prop:=PySem.W.findIn K (.ref C) f=some none
theorem vE.taker {K:PySem.W.Frag} {C:Addr} {f:Str} (n:vE K C f):PySem.W.takerIn K C f=some none:=by
 unfold PySem.W.takerIn
 rw [show PySem.W.findIn K (.ref C) f=some none from n]
 rfl
structure bK (K:PySem.W.Frag) (C:Addr) (m:Str) (f:Addr):Prop where
 at_:PySem.W.findIn K (.ref C) m=some (some (.ref f))
 fn:PySem.W.isFn K (.ref f)=true
 kp:PySem.W.keepIn K (.ref f)=true
section
variable {X:Cx} {pins:List (Addr × Obj)} {σ:St} {H:Hp} {s:Shared} {a C dx:Addr} {fs:List (Str × V)} {f:Str} {v:V} {A:Around} {E:Value->Shared->Prop}
theorem kR {b:Bool} {Q:Value->Shared->Prop} (I:Inv X pins σ H s) (e:H a=some (.ins C dx fs)) (c:Cls X.K C) (n:vE X.K C f) (l:fs.lookup f=some v)
  (h:∀ u s',Inv X pins σ H s'->yN v u->Q u s'):wpAny (model X.prog X.w) A (getAttr (.ref a) f b) Q E s:=by
 obtain ⟨mA,O,r,_,_,_⟩:=qA I.hok e
 obtain ⟨u,hu,ru⟩:=tH.some_of (v:=v) (o:=mA f) (by rw [<- l];exact r f)
 exact zAS I.kIn O (c.get f) c.hd n hu (gH ru) (h u _ (I.tok _) ru)
theorem qY {m:Str} {g:Addr} {pl:Sem Bool} {Q:Value × List Value->Shared->Prop} (I:Inv X pins σ H s) (e:H a=some (.ins C dx fs)) (c:Cls X.K C) (k:bK X.K C m g) (l:fs.lookup m=none)
  (h:Q (.ref g,[.ref a]) s):wpAny (model X.prog X.w) A (getMethod (.ref a) m pl) Q E s:=by
 obtain ⟨mA,O,r,_,_,_⟩:=qA I.hok e
 have hn:mA m=none:=tH.none_of (by rw [<- l];exact r m)
 exact cH I.kIn O (c.get m) k.at_ k.fn hn h
theorem kB {y:V} {u:Value} {Q:Unit->Shared->Prop} (I:Inv X pins σ H s) (e:H a=some (.ins C dx fs)) (c:Cls X.K C) (n:vE X.K C f) (hl:fs.length < 1000) (ry:yN y u)
  (h:∀ s',Inv X pins σ (upd H a (.ins C dx (xZ f y fs))) s'->Q () s'):wpAny (model X.prog X.w) A (setAttr (.ref a) f u) Q E s:=by
 obtain ⟨mA,O,r,wi,_,ho⟩:=qA I.hok e
 have hz:(fs.map (·.1)).length <= sizeLine:=by rw [zGH,sizeLine_eq];omega
 refine bW I.kIn O c.sa c.po n.taker c.hd wi hz fun h' O' sb=>h _ ?_
 have hd:∃ o,h'.get? dx=some o:=let ⟨o,_,_,e',_⟩:=O'.ns;⟨o,e'⟩
 refine I.write (x:=a) (e:=dx) (by rw [e];exact True.intro) (.inr ho) (fun b q hb z=>(sb.2 b hb).trans z) hd ?_
 refine ⟨by rw [zJ O.ne];exact ho,?_,O.ne,O'.obj,_,O'.ns,fun g=>?_,fun g hg=>?_⟩
 ·have:=rJ f y fs;omega
 ·show tH ((xZ f y fs).lookup g) (if g=f then some u else mA g)
  rw [rG]
  by_cases q:g=f
  ·rw [if_pos q,if_pos q];exact ry
  ·rw [if_neg q,if_neg q];exact r g
 ·by_cases q:g=f
  ·rw [q];exact (sZ f y fs).1
  ·refine (sZ f y fs).2 g (wi g fun z=>hg ?_)
   show (if g=f then some u else mA g)=none
   rw [if_neg q];exact z
theorem Inv.made (I:Inv X pins σ H s):Inv X pins σ (upd (upd H s.heap.objs.size (.own (s.heap.objs.size + 1))) (s.heap.objs.size + 1) (.ins C s.heap.objs.size []))
  { s with heap:=(s.heap.push PySem.W.emptyDict).push (PySem.W.instObj C s.heap.objs.size) }:=by
 have e1:(s.heap.push PySem.W.emptyDict).get? s.heap.objs.size=some PySem.W.emptyDict:=Heap.get?_push_size s.heap rfl
 have e2:((s.heap.push PySem.W.emptyDict).push (PySem.W.instObj C s.heap.objs.size)).get? (s.heap.objs.size + 1)=some (PySem.W.instObj C s.heap.objs.size):=by
  have:=Heap.get?_push_size (s.heap.push PySem.W.emptyDict) (o:=PySem.W.instObj C s.heap.objs.size) rfl
  rwa [Heap.size_push] at this
 have e3:(s.heap.push PySem.W.emptyDict).Ns s.heap.objs.size (fun _=>none):=⟨PySem.W.emptyDict,#[],_,e1,rfl,(fun e he=>absurd he (by simp)),fun _=>rfl⟩
 have I1:=I.laid (a:=s.heap.objs.size) (o:=.own (s.heap.objs.size + 1)) (h':=s.heap.push PySem.W.emptyDict) (t':=s.toks) (fun b u q=>Heap.get?_push_of_some _ q) (zGQ _) ⟨_,e1⟩
 refine I1.laid (a:=s.heap.objs.size + 1) (o:=.ins C s.heap.objs.size []) (t':=s.toks) (fun b u q=>Heap.get?_push_of_some _ q) (Nat.le_of_eq (Heap.size_push _ _)) ?_
 have ne:s.heap.objs.size ≠ s.heap.objs.size + 1:=zG8 (Nat.lt_succ_self _)
 refine ⟨by rw [zJ ne,zB],zGR _,ne,e2,fun _=>none,(Heap.Ns1.of_empty e3).at fun o q=>Heap.get?_push_of_some _ q,fun _=>True.intro,fun y hy=>absurd rfl hy⟩
theorem zA6 {prog:Program} {w:World} {env:Env} {e:Expr} {f:Str} {pos:Pos} {s:Shared} {Q:Value->Shared->Prop} (hb:attributeBase e f env (eval e env)=eval e env)
  (h:wpAny (model prog w) A (eval e env) (fun o s₁=>wpAny (model prog w) A (getAttr o f true) Q E s₁) E s):wpAny (model prog w) A (eval (.Attribute e f pos) env) Q E s:=
 Attribute_any_ h (by rw [arm_eval_Attribute,hb])
end
def tFld (K:PySem.W.Frag) (ta:TE) (f:Str):TE:=fun σ H Q=>ta σ H fun x H1=>∃ a C dx fs v,x=.ref a/\H1 a=some (.ins C dx fs)/\Cls K C/\vE K C f/\fs.lookup f=some v/\Q v H1
def fY (K:PySem.W.Frag) (ta tv:TE) (f:Str):TS:=fun D σ H=>tv σ H fun y H1=>ta σ H1 fun x H2=>∃ a C dx fs,x=.ref a/\H2 a=some (.ins C dx fs)/\Cls K C/\vE K C f/\fs.length < 1000 /\
 D.nx σ (upd H2 a (.ins C dx (xZ f y fs)))
section
variable {X:Cx} {o e value:Expr} {f:Str} {pos pos' tpos:Pos} {ta tv:TE}
theorem yG (he:PE X e ta) (hb:attributeBase e f X.env (eval e X.env)=eval e X.env):PE X (.Attribute e f pos) (tFld X.K ta f):=by
 intro pins s σ H Q I h
 refine zA6 hb (thn (he pins s σ H _ I h) fun u s1 hz25=>?_)
 obtain ⟨x,H1,I1,rx,a,C,dx,fs,v,ex,ea,c,n,l,q⟩:=hz25
 subst ex
 obtain rfl:u=Value.ref a:=rx
 exact kR I1 ea c n l fun u' s2 I2 ru=>⟨v,H1,I2,ru,q⟩
theorem wW (ha:PE X o ta) (hv:PE X value tv) (hs:swapsWith value (some (.Attribute o f pos')) pos.line X.env=pure false):PS X (.Assign [.Attribute o f pos'] value pos) (fY X.K ta tv f):=by
 intro pins s σ H D I h
 refine plainObj_wpAny_Assign_Attribute (thn (hv pins s σ H _ I h) fun u s1 hz26=>?_) hs
 obtain ⟨y,H1,I1,ry,q⟩:=hz26
 refine thn (ha pins s1 σ H1 _ I1 q) fun ov s2 hz27=>?_
 obtain ⟨x,H2,I2,rx,a,C,dx,fs,ex,ea,c,n,l,q2⟩:=hz27
 subst ex
 obtain rfl:ov=Value.ref a:=rx
 exact kB I2 ea c n l ry fun s3 I3=>⟨σ,_,I3,q2⟩
end
section
variable {X:Cx} {pins:List (Addr × Obj)} {σ:St} {H:Hp} {s:Shared} {A:Around} {E:Value->Shared->Prop} {Q:Value->Shared->Prop} {c:Value} {b:Bool}
inductive sM (K:PySem.W.Frag) (H:Hp):V->Value->Prop where
 | non:sM K H .non (.type "NoneType")
 | bl (x:Bool):sM K H (.bl x) (.type "bool")
 | int (i:Int):sM K H (.int i) (.type "int")
 | str (x:Str):sM K H (.str x) (.type "str")
 | flt (x:UInt64):sM K H (.flt x) (.type "float")
 | lst {a:Addr} {xs:List V} (e:H a=some (.lst xs)):sM K H (.ref a) (.type "list")
 | frz {a:Addr} {o:Obj} {xs:List V} (e:H a=some (.frz o (.lst xs))):sM K H (.ref a) (.type "list")
 | tup {a:Addr} {xs:List V} (e:H a=some (.tup xs)):sM K H (.ref a) (.type "tuple")
 | dK {a:Addr} {kvs:List (Key × V)} (e:H a=some (.dK kvs)):sM K H (.ref a) (.type "dict")
 | dT {a:Addr} {kvs:List (List Key × V)} (e:H a=some (.dT kvs)):sM K H (.ref a) (.type "dict")
 | ins {a C dx:Addr} {fs:List (Str × V)} (e:H a=some (.ins C dx fs)) (cl:Cls K C) (ha:PySem.W.findIn K (.ref C) "__class__"=some (some (.builtin "object.__class__")))
   (hn:PySem.W.specialIn K (.builtin "object.__class__") "__get__"=some (some (.builtin "getset_descriptor.__get__"))) (htk:PySem.W.takesIn K (.builtin "object.__class__")=some true)
   (hm:PySem.W.mroIn K C (.type "object")=some true):sM K H (.ref a) (.ref C)
theorem gE {x:V} {u t:Value} (I:Inv X pins σ H s) (rx:yN x u) (ty:sM X.K H x t) (e:PySem.W.kitOne X.K t c=some b) (h:∀ tk,Q (.bool b) { s with toks:=tk }) :
  wpAny (model X.prog X.w) A (call (.builtin "isinstance") [u,c]) Q E s:=by
 cases ty with
 | non=>cases (show u=Value.none from rx);exact PySem.W.kia_one PySem.W.kitx_none I.kIn True.intro e (fun z=>nomatch z) h
 | bl y=>cases (show u=Value.bool y from rx);exact PySem.W.kia_one PySem.W.kitx_bool I.kIn True.intro e (fun z=>nomatch z) h
 | int i=>obtain ⟨t,q⟩:=(show ∃ t,u=Value.int i t from rx);cases q;exact PySem.W.kia_one PySem.W.kitx_int I.kIn True.intro e (fun z=>nomatch z) h
 | str y=>obtain ⟨t,q⟩:=(show ∃ t,u=Value.str y t from rx);cases q;exact PySem.W.kia_one PySem.W.kitx_str I.kIn True.intro e (fun z=>nomatch z) h
 | flt y=>obtain ⟨t,q⟩:=(show ∃ t,u=Value.float y t from rx);cases q;exact PySem.W.kia_one PySem.W.kitx_float I.kIn True.intro e (fun z=>nomatch z) h
 | @lst a xs ea=>
  cases (show u=Value.ref a from rx)
  obtain ⟨_,_,n,_,h1⟩:=(show xP X.prog X.w H s.heap a (.lst xs) from I.hok a _ ea)
  exact PySem.W.kia_one PySem.W.kitx_list I.kIn ⟨_,h1,rfl⟩ e (fun z=>nomatch z) h
 | @frz a ob xs ea=>
  cases (show u=Value.ref a from rx)
  obtain ⟨_,_,_,n,_,h1⟩:=(show xP X.prog X.w H s.heap a (.frz ob (.lst xs)) from I.hok a _ ea)
  exact PySem.W.kia_one PySem.W.kitx_list I.kIn ⟨_,h1,rfl⟩ e (fun z=>nomatch z) h
 | @tup a xs ea=>
  cases (show u=Value.ref a from rx)
  obtain ⟨_,_,_,p⟩:=(show xP X.prog X.w H s.heap a (.tup xs) from I.hok a _ ea)
  obtain ⟨o,h1,h2,_⟩:=p
  exact PySem.W.kia_one PySem.W.kitx_tuple I.kIn ⟨o,h1,h2⟩ e (fun z=>nomatch z) h
 | @dK a kvs ea=>
  cases (show u=Value.ref a from rx)
  obtain ⟨_,_,vs,_,p⟩:=(show xP X.prog X.w H s.heap a (.dK kvs) from I.hok a _ ea)
  obtain ⟨o,es,ep,h1,h2,_⟩:=p
  exact PySem.W.kia_one PySem.W.kitx_dict I.kIn ⟨o,h1,h2.1⟩ e (fun z=>nomatch z) h
 | @dT a kvs ea=>
  cases (show u=Value.ref a from rx)
  obtain ⟨_,_,xs,_,o,es,ep,h1,h2,_⟩:=(show xP X.prog X.w H s.heap a (.dT kvs) from I.hok a _ ea)
  exact PySem.W.kia_one PySem.W.kitx_dict I.kIn ⟨o,h1,h2.1⟩ e (fun z=>nomatch z) h
 | @ins a C dx fs ea cl ha hn htk hm=>
  cases (show u=Value.ref a from rx)
  obtain ⟨mA,O,_⟩:=qA I.hok ea
  obtain ⟨od,J,_⟩:=O.look
  exact PySem.W.kia_one (PySem.W.kitx_own (cl.get _) cl.hd ha hn htk hm) I.kIn J e (fun z=>nomatch z) h
end
end L2
namespace L2
open PySem PySem.Spec PyProof.Rows
structure yB (k:Nat) (A:Around):Prop where
 hd:A.handled=none
 dp:A.depth + 3 * k + 5 < recursionLimit
 un:A.units + 16 * k + 200 < cLine
theorem yB.mono {j k:Nat} {A:Around} (r:yB k A) (h:j <= k):yB j A:=⟨r.hd,by have:=r.dp;omega,by have:=r.un;omega⟩
theorem yB.deeper {k:Nat} {A:Around} (r:yB (k + 1) A) (env:Env):yB k (A.deeper env):=
 ⟨r.hd,by have:=r.dp;show A.depth + 1 + 3 * k + 5 < _;omega,by have:=r.un;show A.units + 3 + 16 * k + 200 < _;omega⟩
theorem kN {A:Around} {C:Addr} {us:List Value} {kw:List (Str × Value)}:(A.under (.builtin "type.__call__" ⟨.ref C :: us,kw⟩)).depth=A.depth + 1:=by
 first | rfl | simp [Around.under,Code.weight,Code.isCreation,Code.isGuard,Code.isCaller,Code.frames,Code.isFrame,guardIds]
theorem kM {A:Around} {C:Addr} {us:List Value} {kw:List (Str × Value)}:(A.under (.builtin "type.__call__" ⟨.ref C :: us,kw⟩)).units=A.units + 1:=by
 first | rfl | simp [Around.under,Code.cUnits,Code.frames,Code.isFrame]
theorem yB.make {k:Nat} {A:Around} (r:yB (k + 1) A) (C:Addr) (us:List Value) (kw:List (Str × Value)):yB k (A.under (.builtin "type.__call__" ⟨.ref C :: us,kw⟩)):=
 ⟨r.hd,by have:=r.dp;rw [kN];omega,by have:=r.un;rw [kM];omega⟩
theorem yB.depth {k:Nat} {A:Around} (r:yB k A):A.depth < recursionLimit:=by have:=r.dp;omega
theorem yB.units {k:Nat} {A:Around} (r:yB k A):A.units + 64 < cLine:=by have:=r.un;omega
def nV:TA:=fun _ H Q=>Q [] H
def t3 (ta:TE) (tr:TA):TA:=fun σ H Q=>ta σ H fun x H1=>tr σ H1 fun xs H2=>Q (x :: xs) H2
section
variable {X:Cx} {e:Expr} {es:List Expr} {te:TE} {t:TA} {pos:Pos}
theorem zC:PA X [] nV:=fun _ _ _ _ H Q I h=>Calls.spliced_nil ⟨[],H,I,.nil,h⟩
theorem zA (ha:PE X e te) (hr:PA X es t) (hs:starEach (e :: es) X.env=(false,eval e X.env) :: starEach es X.env:=by rfl):PA X (e :: es) (t3 te t):=by
 intro pos pins s σ H Q I h
 rw [hs]
 show wpAny _ _ (spliced ((false,eval e X.env) :: backTo pos (starEach es X.env))) _ _ s
 refine Calls.spliced_cons (thn (ha pins s σ H _ I h) fun u s1 hz28=>?_)
 obtain ⟨x,H1,I1,r1,q1⟩:=hz28
 exact thn (hr pos pins s1 σ H1 _ I1 q1) fun us s2 ⟨xs,H2,I2,r2,q2⟩=>⟨x :: xs,H2,I2,.cons r1 r2,q2⟩
def zB4 (t:TA):TE:=fun σ H Q=>t σ H fun xs H1=>xs.length <= sizeLine/\∀ p,H1 p=none->Q (.ref p) (upd H1 p (.tup xs))
def bO (t:TA):TE:=fun σ H Q=>t σ H fun xs H1=>xs.length <= sizeLine/\∀ p,H1 p=none->Q (.ref p) (upd H1 p (.lst xs))
theorem yD {x1} (h:PA X es t):PE X (.Tuple es x1 pos) (zB4 t):=by
 intro pins s σ H Q I hq
 refine wpAny_Tuple_spliced (thn (h pos pins s σ H _ I hq) fun us s1 hz29=>?_)
 obtain ⟨xs,H1,I1,r,z,q⟩:=hz29
 refine ⟨by rw [<- r.length];exact z,?_⟩
 have hf:H1 s1.heap.objs.size=none:=I1.hok.fresh (zGQ _)
 refine ⟨.ref s1.heap.objs.size,upd H1 s1.heap.objs.size (.tup xs),I1.laid (t':=s1.toks) (fun b u e=>Heap.get?_push_of_some _ e) (zGQ _) ?_,rfl,q _ hf⟩
 exact ⟨z,us,r,⟨_,Heap.get?_push_size _ rfl,rfl,_,rfl⟩⟩
theorem yZ (h:PA X es t):PE X (.List es pos) (bO t):=by
 intro pins s σ H Q I hq
 refine wpAny_List_spliced (thn (h pos pins s σ H _ I hq) fun us s1 hz30=>?_)
 obtain ⟨xs,H1,I1,r,z,q⟩:=hz30
 refine ⟨by rw [<- r.length];exact z,?_⟩
 have hf:H1 s1.heap.objs.size=none:=I1.hok.fresh (zGQ _)
 refine ⟨.ref s1.heap.objs.size,upd H1 s1.heap.objs.size (.lst xs),I1.laid (t':=s1.toks) (fun b u e=>Heap.get?_push_of_some _ e) (zGQ _) ?_,rfl,q _ hf⟩
 exact ⟨z,us,0,r,Heap.get?_push_size _ rfl⟩
end
abbrev Sp:=List V->Hp->VK->XK->Prop
abbrev CXT:=List Env->Hp->Shared->XK->Value->Shared->Prop
structure jD (P:Program) (w:World) (K:PySem.W.Frag) (mg:Str->Option Value) (base:Heap) (A:Around) (outer:List Env) (s:Shared) (H:Hp):Prop where
 frames:A.frames=some outer
 mod:Mod K mg base
 bs:∀ b o,base.get? b=some o->s.heap.get? b=some o/\H b=none
 bsz:base.objs.size <= s.heap.objs.size
 funs:s.heap.FunFrames base outer
 frf:∀ b ∈ frs outer,H b=none
 hok:HOk P w H s.heap
 bare:AllBare s.gens
def CE (outer:List Env) (P:Program) (w:World) (H:Hp) (s:Shared) (Q:VK) (u:Value) (s':Shared):Prop:=
 ∃ v H',s'.os=s.os/\AllBare s'.gens/\Un (frs outer) [] H H' s.heap s'.heap/\HOk P w H' s'.heap/\yN v u/\Q v H'
def CR (CX:CXT) (outer:List Env) (P:Program) (w:World) (H:Hp) (s:Shared) (Q:VK) (E:XK) (r:Result) (s':Shared):Prop:=
 match r with
 | .ok (.ret u)=>CE outer P w H s Q u s'
 | .ok _=>False
 | .error e=>CX outer H s E e s'
structure uY (P:Program) (w:World) (K:PySem.W.Frag) (mg:Str->Option Value) (base:Heap) (CX:CXT) (k:Nat) (f:Addr) (fd:FuncData) (ps:List Str) (sp:Sp):Prop where
 len:∀ vs H Q E,sp vs H Q E->vs.length=ps.length
 run:∀ (A:Around) (outer:List Env) (s:Shared) (H:Hp) (args:Args) (us:List Value) (vs:List V) (Q:VK) (E:XK),yB k A->jD P w K mg base A outer s H->BindsTo s fd args (ps.zip us)->yI vs us->sp vs H Q E ->
  codeAny (model P w) A (.call (.ref f) args) (CR CX outer P w H s Q E) s
theorem jD.make {P:Program} {w:World} {K:PySem.W.Frag} {mg:Str->Option Value} {base:Heap} {A:Around} {outer:List Env} {s:Shared} {H:Hp} (e:jD P w K mg base A outer s H) (C:Addr) (us:List Value) (kw:List (Str × Value)) :
  jD P w K mg base (A.under (.builtin "type.__call__" ⟨.ref C :: us,kw⟩)) outer s H:=⟨by first | exact e.frames | (simpa [Around.under,Code.envs,Code.isFrame,pushEnvs] using e.frames),e.mod,e.bs,e.bsz,e.funs,e.frf,e.hok,e.bare⟩
section
variable {X:Cx} {pins:List (Addr × Obj)} {σ:St} {H:Hp} {s s':Shared}
theorem Inv.env0 (I:Inv X pins σ H s):jD X.prog X.w X.K X.mg X.base X.A X.stack s H:=
 ⟨I.ok.frames,I.ok.mod,I.bs,zGS I.ok.bsz I.sz,I.stack,I.stkFree,I.hok,I.bare⟩
theorem Inv.after {Q:VK} {u:Value} (I:Inv X pins σ H s) (h:CE X.stack X.prog X.w H s Q u s'):EP X pins σ Q u s':=by
 obtain ⟨v,H',os,bare,un,hok,r,q⟩:=h
 obtain ⟨hh,g,d,t,os'⟩:=s'
 obtain rfl:os'=s.os:=os
 exact ⟨v,H',I.call (h':=hh) (g':=g) (d':=d) (t':=t) (ch:=[]) un hok bare (fun b z=>absurd z (by simp)),r,q⟩
end
def fK (sp:Sp) (dvs:List V) (E:XK) (t:TA):TE:=fun σ H Q=>t σ H fun vs H1=>sp (vs ++ dvs) H1 Q E
def jH (C:Addr) (m:Str) (sp:Sp) (dvs:List V) (E:XK) (ta:TE) (t:TA):TE:=fun σ H Q=>ta σ H fun x H1=>∃ a dx fs,x=.ref a/\H1 a=some (.ins C dx fs)/\fs.lookup m=none /\
 t σ H1 fun vs H2=>sp (x :: (vs ++ dvs)) H2 Q E
def zBC (C:Addr) (sp:Sp) (dvs:List V) (E:XK) (t:TA):TE:=fun σ H Q=>t σ H fun vs H1=>∀ x dx,H1 x=none->H1 dx=none->dx ≠ x ->
 sp (.ref x :: (vs ++ dvs)) (upd (upd H1 dx (.own x)) x (.ins C dx [])) (fun v H2=>v=.non/\Q (.ref x) H2) E
def uA (K:PySem.W.Frag) (fd:FuncData) (ps:List Str) (ds:List Value):Prop:=
 ∀ (s:Shared) (us:List Value),K.In s.heap->(us ++ ds).length=ps.length->BindsTo s fd ⟨us,[]⟩ (ps.zip (us ++ ds))
theorem uA.all {K:PySem.W.Frag} {fd:FuncData} {ps:List Str} (h:∀ us:List Value,us.length=ps.length->bindArgs fd ⟨us,[]⟩=pure (ps.zip us)):uA K fd ps []:=fun s us _ hl=>by
 rw [List.append_nil] at hl ⊢
 exact .of_eq (h us hl)
def tY (CX:CXT) (X:Cx) (E:XK):Prop:=∀ (pins:List (Addr × Obj)) (σ:St) (H:Hp) (s:Shared) (e:Value) (s':Shared),Inv X pins σ H s->CX X.stack H s E e s'->X.xe e s'
section
variable {X:Cx} {CX:CXT} {k:Nat} {f C:Addr} {fd:FuncData} {ps:List Str} {sp:Sp} {dvs:List V} {ds:List Value} {E:XK} {x m:Str} {p pos apos:Pos} {e o:Expr} {es:List Expr} {ta:TE} {t:TA}
theorem kG {pins:List (Addr × Obj)} {σ:St} {H:Hp} {s:Shared} {Q:VK} {us:List Value} {vs:List V} (F:uY X.prog X.w X.K X.mg X.base CX k f fd ps sp) (hr:yB k X.A) (hb:uA X.K fd ps ds) (hd:yI dvs ds) (hx:tY CX X E)
  (I:Inv X pins σ H s) (r:yI vs us) (h:sp (vs ++ dvs) H Q E):wpAny (model X.prog X.w) X.A (call (.ref f) us) (EP X pins σ Q) X.xe s:=by
 have r2:yI (vs ++ dvs) (us ++ ds):=r.append hd
 have hl:(us ++ ds).length=ps.length:=by rw [<- r2.length];exact F.len _ _ _ _ h
 refine wpAny_call (codeAny_mono (F.run X.A X.stack s H ⟨us,[]⟩ (us ++ ds) (vs ++ dvs) Q E hr I.env0 (hb s us I.kIn hl) r2 h) fun r s' hq=>?_)
 cases r with
 | error e=>exact hx pins σ H s e s' I hq
 | ok fl=>
  cases fl with
  | ret u=>exact I.after hq
  | next=>exact False.elim hq
  | brk=>exact False.elim hq
  | cont=>exact False.elim hq
theorem aU (F:uY X.prog X.w X.K X.mg X.base CX k f fd ps sp) (hr:yB k X.A) (hg:Gl X x) (hm:X.mg x=some (.ref f)) (hk:PySem.W.keepIn X.K (.ref f)=true) (hb:uA X.K fd ps ds) (hd:yI dvs ds) (hx:tY CX X E)
  (ha:PA X (e :: es) t) (hdb:(x == ("__debug__" : Str))=false:=by decide) (he:starEach (e :: es) X.env=(false,eval e X.env) :: starEach es X.env:=by rfl) (hpl:(backTo pos (starEach es X.env)).any (·.1)=false:=by rfl) :
  PE X (.Call (.Name x p) (e :: es) [] pos) (fK sp dvs E t):=by
 intro pins s σ H Q I h
 refine wpAny_Call_Name_kw (nF I hg hm ?_ hdb)
 refine PySem.W.callWith_K (h₀:=X.base) I.ok.mod.kin hk (thn (ha pos pins s σ H _ I h) fun us s1 hz31=>?_) he hpl
 obtain ⟨vs,H1,I1,r,q⟩:=hz31
 refine ⟨I1.kIn,?_⟩
 exact kG F hr hb hd hx I1 r q
theorem aP {pl:Sem Bool} (he:PE X o ta) (c:Cls X.K C) (hm:bK X.K C m f) (F:uY X.prog X.w X.K X.mg X.base CX k f fd ps sp) (hr:yB k X.A) (hb:uA X.K fd ps ds) (hd:yI dvs ds) (hx:tY CX X E) (ha:PA X (e :: es) t)
  (hst:starEach (e :: es) X.env=(false,eval e X.env) :: starEach es X.env:=by rfl) (hpl:(backTo pos (starEach es X.env)).any (·.1)=false:=by rfl)
  (ht:eval (.Call (.Attribute o m apos) (e :: es) [] pos) X.env=(do
   let ov <- eval o X.env
   standAt apos.atName
   let (f,first) <- holding [ov] (getMethod ov m pl)
   callWith pos f first (backTo pos (starEach (e :: es) X.env)) (backToKw pos (keywordEach [] X.env))):=by rfl) :
  PE X (.Call (.Attribute o m apos) (e :: es) [] pos) (jH C m sp dvs E ta t):=by
 intro pins s σ H Q I h
 refine PySem.W.methodCall_KW (pl:=pl) (thn (he pins s σ H _ I h) fun u s1 hz32=>?_) ht
 obtain ⟨x,H1,I1,rx,a,dx,fs,ex,ea,l,q⟩:=hz32
 subst ex
 obtain rfl:u=Value.ref a:=rx
 refine qY I1 ea c hm l ?_
 refine PySem.W.callWith_K (first:=[.ref a]) (h₀:=X.base) I.ok.mod.kin hm.kp (thn (ha pos pins s1 σ H1 _ I1 q) fun us s2 hz33=>?_) hst hpl
 obtain ⟨vs,H2,I2,r,q2⟩:=hz33
 refine ⟨I2.kIn,?_⟩
 exact kG (us:=.ref a :: us) (vs:=.ref a :: vs) F hr hb hd hx I2 (.cons rfl r) q2
theorem eS {pl:Sem Bool} (he:PE X o ta) (c:Cls X.K C) (hm:bK X.K C m f) (F:uY X.prog X.w X.K X.mg X.base CX k f fd ps sp) (hr:yB k X.A) (hb:uA X.K fd ps ds) (hd:yI dvs ds) (hx:tY CX X E)
  (ht:eval (.Call (.Attribute o m apos) [] [] pos) X.env=(do
   let ov <- eval o X.env
   standAt apos.atName
   let (f,first) <- holding [ov] (getMethod ov m pl)
   callWith pos f first (backTo pos (starEach [] X.env)) (backToKw pos (keywordEach [] X.env))):=by rfl) :
  PE X (.Call (.Attribute o m apos) [] [] pos) (jH C m sp dvs E ta nV):=by
 intro pins s σ H Q I h
 refine PySem.W.methodCall_KW (pl:=pl) (thn (he pins s σ H _ I h) fun u s1 hz34=>?_) ht
 obtain ⟨x,H1,I1,rx,a,dx,fs,ex,ea,l,q⟩:=hz34
 subst ex
 obtain rfl:u=Value.ref a:=rx
 refine qY I1 ea c hm l ?_
 exact PySem.W.callWith_K0 (first:=[.ref a]) I1.kIn hm.kp (kG (us:=[.ref a]) (vs:=[.ref a]) F hr hb hd hx I1 (.cons rfl .nil) q)
structure Mk (K:PySem.W.Frag) (C f:Addr):Prop where
 makes:PySem.W.makesIn K C=true
 init:PySem.W.findIn K (.ref C) "__init__"=some (some (.ref f))
 fn:PySem.W.isFn K (.ref f)=true
 kp:PySem.W.keepIn K (.ref C)=true
theorem f6 {pins:List (Addr × Obj)} {σ:St} {H:Hp} {s:Shared} {Q:VK} {us:List Value} {vs:List V} (M:Mk X.K C f) (F:uY X.prog X.w X.K X.mg X.base CX k f fd ps sp) (hr:yB (k + 1) X.A) (hb:uA X.K fd ps ds) (hd:yI dvs ds)
  (hx:tY CX X E) (I:Inv X pins σ H s) (r:yI vs us)
  (h:∀ x dx,H x=none->H dx=none->dx ≠ x->sp (.ref x :: (vs ++ dvs)) (upd (upd H dx (.own x)) x (.ins C dx [])) (fun v H2=>v=.non/\Q (.ref x) H2) E) :
  wpAny (model X.prog X.w) X.A (call (.ref C) us) (EP X pins σ Q) X.xe s:=by
 have hq:=h (s.heap.objs.size + 1) s.heap.objs.size (I.hok.fresh (Nat.le_succ _)) (I.hok.fresh (zGQ _)) (zG8 (Nat.lt_succ_self _))
 have I2:=Inv.made (C:=C) I
 have r2:yI (V.ref (s.heap.objs.size + 1) :: (vs ++ dvs)) (Value.ref (s.heap.objs.size + 1) :: (us ++ ds)):=.cons rfl (r.append hd)
 have hl:(Value.ref (s.heap.objs.size + 1) :: us ++ ds).length=ps.length:=by
  have e:=r2.length
  rw [F.len _ _ _ _ hq] at e
  exact e.symm
 refine wpAny_call (dN (f:=f) I.kIn M.makes M.init (beq_iff_eq.mp M.fn) (codeAny_mono (F.run _ X.stack _ _ ⟨Value.ref (s.heap.objs.size + 1) :: us,[]⟩ (Value.ref (s.heap.objs.size + 1) :: (us ++ ds)) _ _ E (hr.make C us [])
  (I2.env0.make C us []) (hb _ (Value.ref (s.heap.objs.size + 1) :: us) I2.kIn hl) r2 hq) fun r s' hq'=>?_))
 cases r with
 | error e=>exact hx pins σ _ _ e s' I2 hq'
 | ok fl=>
  cases fl with
  | ret u=>
   obtain ⟨v,H',I3,rv,ev,q3⟩:=I2.after hq'
   subst ev
   exact ⟨rv,⟨V.ref (s.heap.objs.size + 1),H',I3,rfl,q3⟩⟩
  | next=>exact False.elim hq'
  | brk=>exact False.elim hq'
  | cont=>exact False.elim hq'
theorem aQ (M:Mk X.K C f) (F:uY X.prog X.w X.K X.mg X.base CX k f fd ps sp) (hr:yB (k + 1) X.A) (hg:Gl X x) (hm:X.mg x=some (.ref C)) (hb:uA X.K fd ps ds) (hd:yI dvs ds) (hx:tY CX X E)
  (ha:PA X (e :: es) t) (hdb:(x == ("__debug__" : Str))=false:=by decide) (he:starEach (e :: es) X.env=(false,eval e X.env) :: starEach es X.env:=by rfl) (hpl:(backTo pos (starEach es X.env)).any (·.1)=false:=by rfl) :
  PE X (.Call (.Name x p) (e :: es) [] pos) (zBC C sp dvs E t):=by
 intro pins s σ H Q I h
 refine wpAny_Call_Name_kw (nF I hg hm ?_ hdb)
 refine PySem.W.callWith_K (h₀:=X.base) I.ok.mod.kin M.kp (thn (ha pos pins s σ H _ I h) fun us s1 hz35=>?_) he hpl
 obtain ⟨vs,H1,I1,r,q⟩:=hz35
 refine ⟨I1.kIn,?_⟩
 exact f6 M F hr hb hd hx I1 r q
end
section
variable {X:Cx} {CX:CXT} {k:Nat} {f C:Addr} {fd:FuncData} {ps ks:List Str} {sp:Sp} {E:XK} {x m:Str} {p pos apos kpos:Pos} {e o:Expr} {es:List Expr} {kws:List Keyword} {te ta:TE} {t tk:TA} {nm:Option Str}
variable {g:List Value->List Value->List Value} {gV:List V->List V->List V}
end
structure zN (N P:List Str) (sc:Scope):Prop where
 kind:sc.kind=.function
 co:sc.isCoroutine=false
 gen:sc.isGenerator=false
 nd:N.Nodup
 pre:N.take P.length=P
 par:∀ x ∈ P,sc.names.lookup x=some .local \/ sc.names.lookup x=some .cell
 nofree:∀ y ∈ sc.names,y.2 ≠ .free
theorem pY {kindOf:Str->Option NameKind} {x:Str}:∀ {binds:List (Str × Value)} {m:Str->Option Value},(∀ v,(x,v) ∉ binds)->bindL kindOf binds m x=m x
 | [],_,_=>rfl
 | (n,v) :: r,m,h=>by
  unfold bindL
  rw [pY fun w hw=>h w (zGU _ hw)]
  split
  ·have:x ≠ n:=by rintro rfl;exact h v zHA
   simp [this]
  ·rfl
theorem p5 {kindOf:Str->Option NameKind} {x:Str}:∀ {binds:List (Str × Value)} {m:Str->Option Value},(∀ v,(x,v) ∉ binds)->bindC kindOf binds m x=m x
 | [],_,_=>rfl
 | (n,v) :: r,m,h=>by
  unfold bindC
  rw [p5 fun w hw=>h w (zGU _ hw)]
  split
  ·rfl
  ·have:x ≠ n:=by rintro rfl;exact h v zHA
   simp [this]
theorem pZ {kindOf:Str->Option NameKind} {x:Str} {v:Value}:∀ {P:List Str} {vs:List Value} {i:Nat} {m:Str->Option Value},P.Nodup->P[i]?=some x->vs[i]?=some v->kindOf x=some .local ->
  bindL kindOf (P.zip vs) m x=some v
 | [],_,_,_,_,h,_,_=>by simp at h
 | _ :: _,[],_,_,_,_,h,_=>by simp at h
 | p :: P,w :: vs,0,m,nd,h1,h2,hk=>by
  simp at h1 h2;subst h1;subst h2
  show bindL kindOf ((p,w) :: P.zip vs) m p=_
  unfold bindL
  rw [pY fun v hv=>(List.nodup_cons.mp nd).1 (List.of_mem_zip hv).1,if_pos hk]
  simp
 | p :: P,w :: vs,i + 1,m,nd,h1,h2,hk=>by
  show bindL kindOf ((p,w) :: P.zip vs) m x=_
  unfold bindL
  exact pZ (i:=i) (List.nodup_cons.mp nd).2 (by simpa using h1) (by simpa using h2) hk
theorem p6 {kindOf:Str->Option NameKind} {x:Str} {v:Value}:∀ {P:List Str} {vs:List Value} {i:Nat} {m:Str->Option Value},P.Nodup->P[i]?=some x->vs[i]?=some v->kindOf x ≠ some .local ->
  bindC kindOf (P.zip vs) m x=some v
 | [],_,_,_,_,h,_,_=>by simp at h
 | _ :: _,[],_,_,_,_,h,_=>by simp at h
 | p :: P,w :: vs,0,m,nd,h1,h2,hk=>by
  simp at h1 h2;subst h1;subst h2
  show bindC kindOf ((p,w) :: P.zip vs) m p=_
  unfold bindC
  rw [p5 fun v hv=>(List.nodup_cons.mp nd).1 (List.of_mem_zip hv).1,if_neg hk]
  simp
 | p :: P,w :: vs,i + 1,m,nd,h1,h2,hk=>by
  show bindC kindOf ((p,w) :: P.zip vs) m x=_
  unfold bindC
  exact p6 (i:=i) (List.nodup_cons.mp nd).2 (by simpa using h1) (by simpa using h2) hk
noncomputable def start (N:List Str) (vs:List V):St:=vs.map some ++ List.replicate (N.length - vs.length) none
noncomputable def lF (CX:CXT) (P:Program) (w:World) (K:PySem.W.Frag) (mg:Str->Option Value) (base:Heap) (N:List Str) (qual:Str) (scope:Scope) (f:Addr) (cd:Value) (A:Around) (outer:List Env) (s:Shared) (H:Hp) (E:XK):Cx where
 prog:=P
 w:=w
 K:=K
 mg:=mg
 base:=base
 A:=A.deeper (envOfC qual scope s.heap.objs.size f cd)
 N:=N
 s₀:=s
 H₀:=H
 env:=envOfC qual scope s.heap.objs.size f cd
 outer:=outer
 stack:=envOfC qual scope s.heap.objs.size f cd :: outer
 ex:=[]
 calm:=true
 fn:=fun _=>true
 pn:=[]
 xe:=fun e s'=>wpAny (model P w) (A.deeper (envOfC qual scope s.heap.objs.size f cd)) (leaving (envOfC qual scope s.heap.objs.size f cd) e) (fun _ s''=>CX outer H s E e s'') (fun e' s''=>CX outer H s E e' s'') s'
theorem lG {sc:Scope} {n:Nat} {x:Str} (h:sc.names.lookup x=some .cell):∃ c,(cellsFrom n sc.names []).lookup x=some c:=by
 have q:=PySem.W.cellsFrom_some sc.names n [] (.inl h)
 exact Option.isSome_iff_exists.mp q
theorem gF {CX:CXT} {P:Program} {w:World} {K:PySem.W.Frag} {mg:Str->Option Value} {base:Heap} {N ps:List Str} {qual:Str} {scope:Scope} {f:Addr} {cd:Value} {A:Around} {outer:List Env} {s s1:Shared} {H:Hp} {E:XK} {us:List Value} {vs:List V}
  (S:zN N ps scope) (hd:A.handled=none) (e0:jD P w K mg base A outer s H) (hl:vs.length=ps.length) (r:yI vs us)
  (x:InCallC s s.heap.objs.size (bindL (envOfC qual scope s.heap.objs.size f cd).kindOf (ps.zip us) fun _=>none) (cellsFrom (s.heap.objs.size + 1) scope.names []) (bindC (envOfC qual scope s.heap.objs.size f cd).kindOf (ps.zip us) fun _=>none) s1) :
  Inv (lF CX P w K mg base N qual scope f cd A outer s H E) [] (start N vs) H s1:=by
 have hpl:ps.length <= N.length:=by have:=congrArg List.length S.pre;rw [zG0] at this;omega
 obtain ⟨h1,tk,rfl,hk⟩:=x.done
 have noA:∀ b:Addr,b ∉ (lF CX P w K mg base N qual scope f cd A outer s H E).ex:=fun b z=>absurd (show b ∈ ([]:List Addr) from z) (by simp)
 refine ⟨⟨e0.mod,S.kind,rfl,rfl,zGQ _,fun y z c h1 h2=>?_,fun y hy=>?_,fun y c _ h=>?_,fun _=>hd,Around.frames_deeper e0.frames,.inr ⟨rfl,rfl⟩,fun b z=>absurd z (noA b),e0.bs,e0.bsz,fun b _ _=>noA b,fun b z=>absurd z (noA b),e0.funs,e0.frf⟩,
  rfl,e0.bare,Un.kept hk,⟨_,x.toInCall.ns,fun i y v h1 h2 h3=>?_⟩,fun y c h=>⟨_,x.cell y c h⟩,e0.hok.fresh (zGQ _),fun y c h=>?_,fun p hp=>absurd (show p ∈ ([]:List (Addr × Obj)) from hp) (by simp),e0.hok.kept hk,?_⟩
 ·exact name_of_addr x.apart (PySem.mem_of_lookup h1) (PySem.mem_of_lookup h2)
 ·have hy:scope.names.lookup y=some .cell \/ scope.names.lookup y=some .free:=hy
  rcases hy with hy | hy
  ·exact lG hy
  ·exact absurd rfl (S.nofree _ (PySem.mem_of_lookup hy))
 ·exact Nat.le_of_lt (x.above y c (PySem.mem_of_lookup h))
 ·have hi:i < vs.length:=by
   unfold start at h2
   by_cases hi:i < vs.length
   ·exact hi
   ·rw [zG4 (by simpa using hi)] at h2
    rw [List.getElem?_replicate] at h2
    split at h2 <;> cases h2
  have ha:vs[i]?=some v:=by
   unfold start at h2
   rw [zG5 (by simpa using hi),zGN] at h2
   cases e:vs[i]? with
   | none=>rw [e] at h2;cases h2
   | some a=>rw [e] at h2;cases h2;rfl
  obtain ⟨u,hu,rv⟩:=r.get ha
  have hp:ps[i]?=some y:=by
   rw [<- S.pre,List.getElem?_take_of_lt (by omega)];exact h1
  have ndP:ps.Nodup:=by rw [<- S.pre];exact S.nd.sublist (List.take_sublist _ _)
  refine ⟨u,rv,?_⟩
  rcases S.par y (zGL hp) with k | k
  ·exact .inl ⟨k,pZ ndP hp hu k⟩
  ·obtain ⟨c,e⟩:=lG (n:=s.heap.objs.size + 1) k
   refine .inr ⟨.inl k,c,e,?_⟩
   have q:=x.cell y c e
   rw [p6 ndP hp hu (by show scope.names.lookup y ≠ _;rw [k];decide)] at q
   exact q
 ·exact e0.hok.fresh (Nat.le_of_lt (x.above y c (PySem.mem_of_lookup h)))
 ·unfold start
  show _=N.length
  rw [zGZ,zGH,List.length_replicate]
  omega
theorem zF6 {CX:CXT} {P:Program} {w:World} {K:PySem.W.Frag} {mg:Str->Option Value} {base:Heap} {k:Nat} {f:Addr} {name qual:Str} {params:Arguments} {body:List Stmt} {scope:Scope} {dV kV doc pm cdv ct oc:Value} {an od:Option Addr}
  {osl:Array (Option Value)} {N ps:List Str} {sp:Sp} (lk:K.lookup f=some ⟨oc,od,.func (PySem.W.fnOf name qual params body scope dV kV doc pm an cdv ct),osl⟩) (hcd:PySem.W.codeIn K cdv qual=true) (S:zN N ps scope)
  (len:∀ vs H Q E,sp vs H Q E->vs.length=ps.length)
  (hbody:∀ (A:Around) (outer:List Env) (s:Shared) (H:Hp) (vs:List V) (Q:VK) (E:XK),yB k (A.deeper (envOfC qual scope s.heap.objs.size f cdv))->sp vs H Q E ->
   ∃ t,PSs (lF CX P w K mg base N qual scope f cdv A outer s H E) body t/\t { nx:=fun _ H'=>Q .non H',rt:=Q } (start N vs) H) :
  uY P w K mg base CX (k + 1) f (PySem.W.fnOf name qual params body scope dV kV doc pm an cdv ct) ps sp:=by
 refine ⟨len,fun A outer s H args us vs Q E hr e0 hb r hsp=>?_⟩
 have hl:=len _ _ _ _ hsp
 have KX:K.In s.heap:=e0.mod.kin.keeps fun b o e=>(e0.bs b o e).1
 have lim:s.heap.NoLimit:=e0.mod.nolimit.keeps fun b o e=>(e0.bs b o e).1
 have hkind:∀ y ∈ ps.zip us,scope.names.lookup y.1=some .local \/ (scope.names.lookup y.1=some .cell/\((cellsFrom (s.heap.objs.size + 1) scope.names []).lookup y.1).isSome=true):=fun ⟨n,v⟩ hy=>by
  rcases S.par n (List.of_mem_zip hy).1 with q | q
  ·exact .inl q
  ·exact .inr ⟨q,PySem.W.cellsFrom_some _ _ _ (.inl q)⟩
 refine codeAny_call_function hr.depth (KX _ _ lk) rfl S.co S.gen rfl (PySem.W.codeRec_of KX hcd) (hb _ _ _ _ ?_)
 refine wpAny_newFunctionEnv_cells S.kind hkind fun env he s1 x=>?_
 subst he
 refine ⟨lim.keeps x.toInCall.keep,codeAny_func ?_⟩
 obtain ⟨t,ht,hq⟩:=hbody A outer s H vs Q E (hr.deeper _) hsp
 have I:Inv (lF CX P w K mg base N qual scope f cdv A outer s H E) [] (start N vs) H s1:=gF S hr.hd e0 hl r x
 refine wpAny_mono (ht [] s1 (start N vs) H _ I hq) (fun fl s' hs=>?_) fun e s' hs=>hs
 have fin:∀ {σ':St} {H':Hp} {v:V} {u:Value},Inv (lF CX P w K mg base N qual scope f cdv A outer s H E) [] σ' H' s'->yN v u->Q v H'->CE outer P w H s Q u s':=
  fun {σ' H' v u} J rv q=>⟨v,H',J.os,J.bare,J.base,J.hok,rv,q⟩
 cases fl with
 | ret u=>
  obtain ⟨v,σ',H',J,rv,q⟩:=hs
  exact fin J rv q
 | next=>
  obtain ⟨σ',H',J,q⟩:=hs
  exact fin (v:=V.non) (u:=Value.none) J rfl q
 | brk=>
  obtain ⟨_,_,_,q⟩:=hs
  exact False.elim q
 | cont=>
  obtain ⟨_,_,_,q⟩:=hs
  exact False.elim q
end L2
namespace L2
open PySem PySem.Spec PyProof.Rows
section
variable {X:Cx} {x:Str} {p pos:Pos} {e:Expr} {es:List Expr} {t:TA} {id T:String} {r:List V->Hp->VK->Prop}
def tCB (r:List V->Hp->VK->Prop) (t:TA):TE:=fun σ H Q=>t σ H fun vs H1=>r vs H1 Q
theorem eX (hc:vN X (.builtin id) r) (hg:Gl X x) (hm:X.mg x=none) (hv:bootBuiltins x=some (.builtin id)) (ha:PA X (e :: es) t) (hn:x ≠ "__name__":=by decide) (hdb:(x == ("__debug__" : Str))=false:=by decide)
  (he:starEach (e :: es) X.env=(false,eval e X.env) :: starEach es X.env:=by rfl) (hpl:(backTo pos (starEach es X.env)).any (·.1)=false:=by rfl):PE X (.Call (.Name x p) (e :: es) [] pos) (tCB r t):=by
 intro pins s σ H Q I h
 refine wpAny_Call_Name_kw (sY I hg hm hv ?_ hn hdb)
 exact PyProof.Rows.callWith_builtin1 (thn (ha pos pins s σ H _ I h) fun us s1 ⟨vs,H1,I1,r1,q1⟩=>hc pins s1 σ H1 vs us Q I1 r1 q1) he hpl
theorem wM (hc:vN X (.type T) r) (hg:Gl X x) (hm:X.mg x=none) (hv:bootBuiltins x=some (.type T)) (ha:PA X (e :: es) t) (hn:x ≠ "__name__":=by decide) (hdb:(x == ("__debug__" : Str))=false:=by decide)
  (he:starEach (e :: es) X.env=(false,eval e X.env) :: starEach es X.env:=by rfl) (hpl:(backTo pos (starEach es X.env)).any (·.1)=false:=by rfl):PE X (.Call (.Name x p) (e :: es) [] pos) (tCB r t):=by
 intro pins s σ H Q I h
 refine wpAny_Call_Name_kw (sY I hg hm hv ?_ hn hdb)
 exact PyProof.Rows.callWith_type1 (thn (ha pos pins s σ H _ I h) fun us s1 ⟨vs,H1,I1,r1,q1⟩=>hc pins s1 σ H1 vs us Q I1 r1 q1) he hpl
end
end L2
namespace HT
open PySem PyProof.Rows
section
open PySem.SeqAt
open PySem.AutoSeq1 (wpAny_loadPart')
open PySem.MeetsSeq PySem.MeetsSeq2 PySem.MeetsSeq3
end
section
variable {prog:Program} {w:World} {A:Around} {E:Value->Shared->Prop} {s:Shared}
theorem cat_tup {t b:Addr} {vs ws:List Value} {Q:Value->Shared->Prop} (ht:IsTup s.heap t vs.toArray) (hb:IsTup s.heap b ws.toArray) (hv:vs ≠ [])
  (h1:ws=[]->Q (.ref t) s) (h2:ws ≠ []->Q (.ref s.heap.objs.size) { s with heap:=s.heap.push { cls:=.type "tuple",data:=.seq (vs ++ ws).toArray } })
  (hsz:vs.length + ws.length <= sizeLine):wpAny (model prog w) A (binaryOp .Add (.ref t) (.ref b)) Q E s:=by
 obtain ⟨⟨cls,dd,data,sl⟩,ho,hc,n,hd⟩:=id ht
 obtain ⟨⟨cls2,dd2,data2,sl2⟩,ho2,hc2,n2,hd2⟩:=id hb
 simp only at hc hd hc2 hd2
 subst hc hd hc2 hd2
 have e:vs.toArray ++ ws.toArray=(vs ++ ws).toArray:=by simp
 by_cases hw:ws=[]
 ·exact concat_meets ⟨_,ho,rfl⟩ ⟨_,ho2,rfl⟩ noFill_tuple_add seq_tuple_add PySem.F.slot_tuple_add PySem.F.entry_tuple_add (PySem.F.args_tuple_add_2 _ _)
   (tuple_addW1 t b vs.toArray ws.toArray n n2 dd dd2 sl sl2 (by simpa using hv) (by simp [hw])) ⟨ho,ho2,h1 hw⟩
 ·refine concat_meets ⟨_,ho,rfl⟩ ⟨_,ho2,rfl⟩ noFill_tuple_add seq_tuple_add PySem.F.slot_tuple_add PySem.F.entry_tuple_add (PySem.F.args_tuple_add_2 _ _)
   (tuple_addW2 t b vs.toArray ws.toArray n n2 dd dd2 sl sl2 (by simpa using hv) (by simpa using hw) (by rw [zGP,zGP];exact hsz)) ⟨ho,ho2,?_⟩
  rw [e]
  exact h2 hw
noncomputable def sIx (n d:Nat):Option Int->Nat
 | none=>d
 | some v=>if v < 0 then (v + (n:Int)).toNat else min v.toNat n
theorem sIx_none (n d:Nat):sIx n d none=d:=rfl
theorem sIx_nat (n d k:Nat):sIx n d (some (k:Int))=min k n:=by
 show (if (k:Int) < 0 then ((k:Int) + (n:Int)).toNat else min (k:Int).toNat n)=min k n
 rw [if_neg (by omega),Int.toNat_natCast]
theorem sIx_le (n d:Nat) (hd:d <= n) (o:Option Int):sIx n d o <= n:=by
 cases o with
 | none=>exact hd
 | some v=>
  show (if v < 0 then (v + (n:Int)).toNat else min v.toNat n) <= n
  by_cases hv:v < 0
  ·rw [if_pos hv];omega
  ·rw [if_neg hv];exact Nat.min_le_right _ _
theorem clip_eq (v:Int) (n d:Nat):(if v < 0 then max (v + (n:Int)) 0 else min v (n:Int))=((sIx n d (some v):Nat):Int):=by
 show (if v < 0 then max (v + (n:Int)) 0 else min v (n:Int))=(((if v < 0 then (v + (n:Int)).toNat else min v.toNat n):Nat):Int)
 by_cases hv:v < 0
 ·simp only [if_pos hv];omega
 ·simp only [if_neg hv];omega
theorem adjust_gen (lo hi:Option Int) (n:Nat):Builtin.Slice.sliceAdjust lo hi 1 (n:Int)=(((sIx n 0 lo:Nat):Int),((sIx n n hi:Nat):Int)):=by
 have h1:¬ ((1:Int) < 0):=by omega
 unfold Builtin.Slice.sliceAdjust
 simp only [h1,if_false]
 refine Prod.ext ?_ ?_
 ·cases lo with
  | none=>rfl
  | some v=>exact clip_eq v n 0
 ·cases hi with
  | none=>rfl
  | some v=>exact clip_eq v n n
theorem places_gen (i j:Nat):Builtin.Slice.slicePlaces (i:Int) (j:Int) 1=j - i:=by
 unfold Builtin.Slice.slicePlaces
 have h1:(1:Int) > 0:=by omega
 simp only [h1,if_true,Int.ediv_one]
 split <;> omega
theorem slicePart_ {v:Value} {o:Option Int} {Q:Option Int->Shared->Prop} (p:IsPart v o) (h:Q o s):wpAny (model prog w) A (Builtin.Slice.slicePartIndex v) Q E s:=by
 cases p with
 | none=>exact slicePart_none h
 | int i t=>exact slicePart_int h
theorem sliceApplied_gen {sl:Addr} {vl vu:Value} {lo hi:Option Int} {n:Nat} {Q:Int × Int × Nat->Shared->Prop} (hs:s.heap.IsSliceOf sl vl vu .none) (pl:IsPart vl lo) (pu:IsPart vu hi)
  (h:Q (((sIx n 0 lo:Nat):Int),1,sIx n n hi - sIx n 0 lo) s):wpAny (model prog w) A (Builtin.Slice.sliceApplied (.ref sl) (pure (n:Int))) Q E s:=by
 obtain ⟨os,hos,hcs,hds⟩:=id hs
 unfold Builtin.Slice.sliceApplied Builtin.Slice.sliceFields
 refine wpAny_bind (wpAny_bind (wpAny_field hos hds (x:=vl) rfl (wpAny_bind (wpAny_field hos hds (x:=vu) rfl (wpAny_bind (wpAny_field hos hds (x:=.none) rfl (wpAny_pure ?_)))))))
 refine wpAny_bind (slicePart_none ?_)
 show wpAny _ _ (if ((1:Int) == 0)=true then _ else _) _ _ s
 rw [if_neg (by decide)]
 refine wpAny_bind (slicePart_ pl (wpAny_bind (slicePart_ pu (wpAny_bind (wpAny_pure ?_)))))
 show wpAny _ _ (match Builtin.Slice.sliceAdjust lo hi 1 (n:Int) with | (lo,hi)=>pure (lo,(1:Int),Builtin.Slice.slicePlaces lo hi 1)) _ _ s
 rw [adjust_gen lo hi n]
 show wpAny _ _ (pure (((sIx n 0 lo:Nat):Int),(1:Int),Builtin.Slice.slicePlaces ((sIx n 0 lo:Nat):Int) ((sIx n n hi:Nat):Int) 1)) _ _ s
 rw [places_gen]
 exact wpAny_pure h
theorem pick_gen (xs:Array Value) (i k:Nat):((List.range k).filterMap fun (m:Nat)=>xs[((i:Int) + (m:Int) * 1).toNat]?).toArray=((xs.toList.drop i).take k).toArray:=by
 have e:(fun (m:Nat)=>xs[((i:Int) + (m:Int) * 1).toNat]?)=fun m=>xs[i + m]?:=by
  funext m
  have:((i:Int) + (m:Int) * 1).toNat=i + m:=by omega
  rw [this]
 rw [e]
 have:=pick_run xs i k
 rw [List.filterMap_map] at this
 have e2:((fun x=>xs[x]?) ∘ fun x=>i + x)=fun m=>xs[i + m]?:=rfl
 rw [e2] at this
 rw [this]
theorem getItem_tuple_cut {t sl:Addr} {items:Array Value} {vl vu:Value} {lo hi:Option Int} {Q:Value->Shared->Prop} (ht:IsTup s.heap t items) (hs:s.heap.IsSliceOf sl vl vu .none) (pl:IsPart vl lo) (pu:IsPart vu hi)
  (hw:¬ (sIx items.size 0 lo=0/\sIx items.size items.size hi=items.size))
  (h:Q (.ref s.heap.objs.size) { s with heap:=s.heap.push { cls:=.type "tuple",data:=.seq ((items.toList.drop (sIx items.size 0 lo)).take (sIx items.size items.size hi - sIx items.size 0 lo)).toArray } })
  (hsz:items.size <= sizeLine):wpAny (model prog w) A (getItem (.ref t) (.ref sl)) Q E s:=by
 have htake:sizeOk (.seq ((items.toList.drop (sIx items.size 0 lo)).take (sIx items.size items.size hi - sIx items.size 0 lo)).toArray):=by
  show ((items.toList.drop (sIx items.size 0 lo)).take (sIx items.size items.size hi - sIx items.size 0 lo)).toArray.size <= sizeLine
  rw [zGP,zG0,List.length_drop,Array.length_toList]
  omega
 have hj:sIx items.size items.size hi <= items.size:=sIx_le _ _ (zGQ _) hi
 obtain ⟨os,hos,hcs,hds⟩:=id hs
 have hTs:s.TypeIs (.ref sl) "slice":=⟨os,hos,hcs⟩
 unfold getItem
 try with_reducible refine wpAny_holding ?_
 first | refine wpAny_bind (wpAny_pure ?_) | skip
 refine wpAny_bind (wpAny_sequenceKey ht.typeIs (by decide) ?_)
 refine wpAny_bind (wpAny_callSpecial?_slot (name:=Str.ofString "__getitem__") ht.typeIs PyProof.Rows.slot_tuple_getitem
  (wpAny_call_entry PyProof.Rows.slot_tuple_getitem ht.typeIs entry_tuple_getitem ?_ (args_tuple_getitem _ _)))
 show wpAny _ _ (Builtin.Tuple.tupleItemsOf (.ref t) >>= _) _ _ s
 refine wpAny_bind (tupleItemsOf_ ht ?_)
 refine wpAny_bind (wpAny_typeOf hTs ?_)
 rw [if_pos (by decide)]
 refine wpAny_bind (sliceApplied_gen hs pl pu ?_)
 have hno:¬ ((((sIx items.size 0 lo:Nat):Int) == 0 && (1:Int) == 1 && (sIx items.size items.size hi - sIx items.size 0 lo) == items.size)=true):=by
  intro q
  rw [Bool.and_eq_true,Bool.and_eq_true] at q
  have q1:((sIx items.size 0 lo:Nat):Int)=0:=eq_of_beq q.1.1
  have q2:sIx items.size items.size hi - sIx items.size 0 lo=items.size:=eq_of_beq q.2
  exact hw ⟨by omega,by omega⟩
 show wpAny _ _ (if (((sIx items.size 0 lo:Nat):Int) == 0 && (1:Int) == 1 && (sIx items.size items.size hi - sIx items.size 0 lo) == items.size)=true then _ else _) _ _ s
 rw [if_neg hno,pick_gen]
 first
  | exact wpAny_bind (m:=Builtin.Tuple.tupleExact _) (wpAny_newObj_type (wpAny_pure ⟨_,rfl,wpAny_pure h⟩) htake)
  | exact wpAny_bind (m:=Builtin.Tuple.tupleExact _) (wpAny_newObj_type (wpAny_bind (wpAny_pure (wpAny_pure ⟨_,rfl,wpAny_pure h⟩))) htake)
  | exact wpAny_bind (wpAny_bind (m:=Builtin.Tuple.tupleExact _) (wpAny_newObj_type (wpAny_pure (wpAny_pure ⟨_,rfl,wpAny_pure h⟩)) htake))
  | exact wpAny_bind (wpAny_bind (m:=Builtin.Tuple.tupleExact _) (wpAny_newObj_type (wpAny_pure ⟨_,rfl,wpAny_pure h⟩) htake))
end
end HT
namespace L2
open PySem PySem.Spec PyProof.Rows
abbrev TO:=St->Hp->(Option Int->Hp->Prop)->Prop
def PO (X:Cx) (e:Option Expr) (t:TO):Prop:=
 ∀ (pins:List (Addr × Obj)) (s:Shared) (σ:St) (H:Hp) (Q:Option Int->Hp->Prop),Inv X pins σ H s->t σ H Q ->
  wpAny (model X.prog X.w) X.A (evalPart e X.env) (fun u s'=>∃ o H',Inv X pins σ H' s'/\IsPart u o/\Q o H') X.xe s
noncomputable def oB:TO:=fun _ H Q=>Q none H
noncomputable def fG (t:TE):TO:=fun σ H Q=>t σ H fun x H1=>∃ i,x=.int i/\Q (some i) H1
section
variable {X:Cx} {e:Expr} {te:TE} {lo hi:Option Expr} {tl th:TO} {pos p2:Pos}
theorem uJ:PO X none oB:=by
 intro pins s σ H Q I h
 rw [evalPart_none]
 exact wpAny_pure ⟨none,H,I,.none,h⟩
theorem wX (h:PE X e te):PO X (some e) (fG te):=by
 intro pins s σ H Q I hw
 rw [evalPart_some]
 refine thn (h pins s σ H _ I hw) fun u s1 hz36=>?_
 obtain ⟨x,H1,I1,r1,q1⟩:=hz36
 obtain ⟨i,rfl,q⟩:=q1
 obtain ⟨t,rfl⟩:=r1
 exact ⟨some i,H1,I1,.int i t,q⟩
def SlR (X:Cx) (r:V->Option Int->Option Int->Hp->VK->Prop):Prop:=
 ∀ (pins:List (Addr × Obj)) (s:Shared) (σ:St) (H:Hp) (x:V) (v vl vu:Value) (lo hi:Option Int) (sl:Addr) (Q:VK),Inv X pins σ H s->yN x v->s.heap.IsSliceOf sl vl vu .none->IsPart vl lo->IsPart vu hi->r x lo hi H Q ->
  ∃ T id,typeLookup (.type T) "__getitem__"=pure (some (.builtin id))/\s.TypeIs v T/\wpAny (model X.prog X.w) X.A (getItem v (.ref sl)) (EP X pins σ Q) X.xe s
def tSl (r:V->Option Int->Option Int->Hp->VK->Prop) (te:TE) (tl th:TO):TE:=fun σ H Q=>te σ H fun x H1=>tl σ H1 fun l H2=>th σ H2 fun u H3=>r x l u H3 Q
theorem wY {r:V->Option Int->Option Int->Hp->VK->Prop} (hr:SlR X r) (he:PE X e te) (hl:PO X lo tl) (hu:PO X hi th):PE X (.Subscript e (.Slice lo hi none p2) pos) (tSl r te tl th):=by
 intro pins s σ H Q I h
 refine Subscript_ (thn (he pins s σ H _ I h) fun v s1 hz37=>?_)
 obtain ⟨x,H1,I1,r1,q1⟩:=hz37
 refine wpAny_Slice (thn (hl pins s1 σ H1 _ I1 q1) fun vl s2 hz38=>?_)
 obtain ⟨l,H2,I2,pl,q2⟩:=hz38
 refine thn (hu pins s2 σ H2 _ I2 q2) fun vu s3 hz39=>?_
 obtain ⟨u,H3,I3,pu,q3⟩:=hz39
 rw [evalPart_none]
 refine wpAny_pure ?_
 have I4:Inv X pins σ H3 { s3 with heap:=s3.heap.push { cls:=.type "slice",data:=.fields #[vl,vu,.none] } }:=I3.kept (t':=s3.toks) fun b ob q=>Heap.get?_push_of_some _ q
 obtain ⟨T,id,hT,ht,hg⟩:=hr pins { s3 with heap:=s3.heap.push { cls:=.type "slice",data:=.fields #[vl,vu,.none] } } σ H3 x v vl vu l u s3.heap.objs.size Q I4 r1 (Heap.IsSliceOf.new ..) pl pu q3
 show wpAny (model X.prog X.w) X.A (subscriptTail e (.Slice lo hi none p2) v (.ref s3.heap.objs.size)) (EP X pins σ Q) X.xe { s3 with heap:=s3.heap.push { cls:=.type "slice",data:=.fields #[vl,vu,.none] } }
 exact tail_any (ops:=[.ref s3.heap.objs.size,v]) ht hT hg (by with_unfolding_all rfl)
noncomputable def uC (xs:List V) (lo hi:Option Int):List V:=(xs.drop (HT.sIx xs.length 0 lo)).take (HT.sIx xs.length xs.length hi - HT.sIx xs.length 0 lo)
theorem rM (xs:List V) (lo hi:Option Int):(uC xs lo hi).length <= xs.length:=by
 unfold uC
 rw [zG0,List.length_drop]
 omega
def rSlT (K:PySem.W.Frag):V->Option Int->Option Int->Hp->VK->Prop:=fun x lo hi H Q=>∃ a xs,x=.ref a/\SqT K H a xs /\
 ¬ (HT.sIx xs.length 0 lo=0/\HT.sIx xs.length xs.length hi=xs.length)/\∀ p,H p=none->Q (.ref p) (upd H p (.tup (uC xs lo hi)))
theorem zCD:SlR X (rSlT X.K):=by
 intro pins s σ H x v vl vu lo hi sl Q I rx hs pl pu h
 obtain ⟨a,xs,rfl,hx,hw,q⟩:=h
 cases rx
 obtain ⟨its,r,ht,hz⟩:=I.tuple hx
 have hlen:its.toArray.size=xs.length:=by rw [zGP];exact r.length.symm
 refine ⟨"tuple",_,PyProof.Rows.slot_tuple_getitem.lookup,ht.typeIs,?_⟩
 refine HT.getItem_tuple_cut ht hs pl pu (by rw [hlen];exact hw) ?_ (by rw [hlen];exact hz)
 rw [hlen]
 refine ⟨.ref s.heap.objs.size,_,I.laid (t':=s.toks) (o:=.tup (uC xs lo hi)) (fun b ob q=>Heap.get?_push_of_some _ q) (zGQ _) ?_,rfl,q _ (I.hok.fresh (zGQ _))⟩
 exact ⟨zGS (rM xs lo hi) hz,_,(r.drop (HT.sIx xs.length 0 lo)).take (HT.sIx xs.length xs.length hi - HT.sIx xs.length 0 lo),IsTup.new _ _⟩
def eD (K:PySem.W.Frag):R2:=fun x y H Q=>∃ a b xs ys,x=.ref a/\y=.ref b/\SqT K H a xs/\SqT K H b ys/\xs ≠ []/\xs.length + ys.length <= sizeLine /\
 (ys=[]->Q (.ref a) H)/\(ys ≠ []->∀ p,H p=none->Q (.ref p) (upd H p (.tup (xs ++ ys))))
theorem yI.nil_iff {xs:List V} {us:List Value} (r:yI xs us):us=[] ↔ xs=[]:=by
 cases r with
 | nil=>simp
 | cons _ _=>simp
theorem j9:OpR X (binaryOp .Add) (eD X.K):=by
 intro pins s σ H x y v u Q I rx ry h
 obtain ⟨a,b,xs,ys,rfl,rfl,ha,hb,hx,hz,q1,q2⟩:=h
 cases rx
 cases ry
 obtain ⟨its,r1,p1,_⟩:=I.tuple ha
 obtain ⟨its2,r2,p2,_⟩:=I.tuple hb
 refine HT.cat_tup p1 p2 (fun z=>hx (r1.nil_iff.mp z)) (fun z=>⟨.ref a,H,I,rfl,q1 (r2.nil_iff.mp z)⟩) (fun z=>?_) (by rw [<- r1.length,<- r2.length];exact hz)
 refine ⟨.ref s.heap.objs.size,_,I.laid (t':=s.toks) (o:=.tup (xs ++ ys)) (fun b ob q=>Heap.get?_push_of_some _ q) (zGQ _) ?_,rfl,q2 (fun w=>z (r2.nil_iff.mpr w)) _ (I.hok.fresh (zGQ _))⟩
 exact ⟨by rw [zGZ];exact hz,_,r1.append r2,IsTup.new _ _⟩
end
end L2
namespace L2
open PySem PySem.Spec PyProof.Rows
noncomputable def ixN (n:Nat) (i:Int):Option Nat:=if 0 <= i then (if i < n then some i.toNat else none) else if -(n:Int) <= i then some (i + n).toNat else none
noncomputable def atI {α:Type} (xs:List α) (i:Int):Option α:=(ixN xs.length i).bind fun j=>xs[j]?
theorem iF {n:Nat} {i:Int} {j:Nat} (h:ixN n i=some j):seqIndex? i n=some j/\j < n/\-(n:Int) <= i/\i < n:=by
 unfold ixN at h
 by_cases h0:0 <= i
 ·rw [if_pos h0] at h
  by_cases h1:i < n
  ·rw [if_pos h1] at h
   have e:i.toNat=j:=zGO h
   exact ⟨by rw [seqIndex_of h0 h1,e],by omega,by omega,h1⟩
  ·rw [if_neg h1] at h;cases h
 ·rw [if_neg h0] at h
  by_cases h1:-(n:Int) <= i
  ·rw [if_pos h1] at h
   have e:(i + n).toNat=j:=zGO h
   exact ⟨by rw [seqIndex_neg (by omega) h1,e],by omega,h1,by omega⟩
  ·rw [if_neg h1] at h;cases h
theorem nO {α:Type} {xs:List α} {i:Int} {v:α} (h:atI xs i=some v):∃ j,seqIndex? i xs.length=some j/\xs[j]?=some v/\j < xs.length/\-(xs.length:Int) <= i/\i < xs.length:=by
 unfold atI at h
 cases e:ixN xs.length i with
 | none=>rw [e] at h;cases h
 | some j=>
  rw [e] at h
  obtain ⟨h1,h2,h3,h4⟩:=iF e
  exact ⟨j,h1,h,h2,h3,h4⟩
theorem uR {α:Type} {xs:List α} {j:Nat} {v:α} (h:xs[j]?=some v):atI xs (j:Int)=some v:=by
 have hj:j < xs.length:=(zGJ.mp h).1
 have e:ixN xs.length (j:Int)=some j:=by
  unfold ixN
  rw [if_pos (by omega),if_pos (by omega)];simp
 unfold atI;rw [e];exact h
def zA8 (b:Expr):Prop:=∀ o i,subscripted b false o i=operate [o,i] (getItem o i)
def IxR (X:Cx) (r:R2):Prop:=
 ∀ (value slice:Expr) (pins:List (Addr × Obj)) (s:Shared) (σ:St) (H:Hp) (x y:V) (v u:Value) (Q:VK),Inv X pins σ H s->yN x v->yN y u->r x y H Q ->
  subscripted slice false v u=operate [v,u] (getItem v u)->wpAny (model X.prog X.w) X.A (subscriptTail value slice v u) (EP X pins σ Q) X.xe s
def MtR (X:Cx) (id:String) (r:V->List V->Hp->VK->Prop):Prop:=
 ∀ (pins:List (Addr × Obj)) (s:Shared) (σ:St) (H:Hp) (x:V) (xs:List V) (v:Value) (us:List Value) (Q:VK),Inv X pins σ H s->yN x v->yI xs us->r x xs H Q ->
  wpAny (model X.prog X.w) X.A (call (.builtin id) (v :: us)) (EP X pins σ Q) X.xe s
section
variable {X:Cx} {a b:Expr} {ta tb:TE} {pos:Pos}
theorem IxR.or {r r':R2} (h:IxR X r) (h':IxR X r'):IxR X (fun x y H Q=>r x y H Q \/ r' x y H Q):=by
 intro value slice pins s σ H x y v u Q I rx ry q hs
 rcases q with q | q
 ·exact h value slice pins s σ H x y v u Q I rx ry q hs
 ·exact h' value slice pins s σ H x y v u Q I rx ry q hs
theorem zU {r:R2} (hr:IxR X r) (ha:PE X a ta) (hb:PE X b tb) (hs:zA8 b):PE X (.Subscript a b pos) (tOp r ta tb):=by
 intro pins s σ H Q I h
 exact Subscript_ (zDW ha hb I h fun v u s2 x y H2 I2 rx ry q=>hr a b pins s2 σ H2 x y v u Q I2 rx ry q (hs _ _))
def rIxL (K:PySem.W.Frag):R2:=fun x y H Q=>∃ p xs i v,x=.ref p/\y=.int i/\SqL K H p xs/\atI xs i=some v/\Q v H
def rIxT (K:PySem.W.Frag):R2:=fun x y H Q=>∃ p xs i v,x=.ref p/\y=.int i/\SqT K H p xs/\atI xs i=some v/\Q v H
def rIxS:R2:=fun x y H Q=>∃ z i c,x=.str z/\y=.int i/\z.length <= sizeLine/\atI z.cps.toList i=some c/\Q (.str ⟨#[c]⟩) H
theorem iE:IxR X (rIxL X.K):=by
 intro value slice pins s σ H x y v u Q I rx ry h hs
 obtain ⟨p,xs,i,z,rfl,rfl,hq,he,q⟩:=h
 cases rx
 obtain ⟨t,rfl⟩:=ry
 obtain ⟨its,r,pl,hz⟩:=I.list hq
 obtain ⟨j,h1,h2,h3,h4,h5⟩:=nO he
 obtain ⟨w,ew,rw'⟩:=r.get h2
 have hl:=r.length
 have hn:=sV
 have fin:EP X pins σ Q w s:=⟨z,H,I,rw',q⟩
 by_cases h0:0 <= i
 ·have hj:i.toNat=j:=by
   rw [seqIndex_of h0 h5] at h1
   exact zGO h1
  exact item_listR pl.isList h0 (by omega) (by rw [hj];simpa using ew) fin hs
 ·have hj:(i + (its.toArray.size:Int)).toNat=j:=by
   rw [seqIndex_neg (by omega) h4] at h1
   rw [zGP,<- hl]
   exact zGO h1
  exact subscriptTail_builtinR (x:=w) pl.isList.typeIs slot_list_getitem.lookup
   (wpAny_getItem_list_neg (Q:=fun r s'=>r=w/\EP X pins σ Q r s') pl.isList (by omega) (by rw [zGP] <;> omega) (by omega) (by rw [hj];simpa using ew) ⟨rfl,fin⟩) hs
theorem zDO:IxR X (rIxT X.K):=by
 intro value slice pins s σ H x y v u Q I rx ry h hs
 obtain ⟨p,xs,i,z,rfl,rfl,hq,he,q⟩:=h
 cases rx
 obtain ⟨t,rfl⟩:=ry
 obtain ⟨its,r,pl,hz⟩:=I.tuple hq
 obtain ⟨j,h1,h2,h3,h4,h5⟩:=nO he
 obtain ⟨w,ew,rw'⟩:=r.get h2
 have hl:=r.length
 have hn:=sV
 have fin:EP X pins σ Q w s:=⟨z,H,I,rw',q⟩
 exact subscriptTail_builtinR (x:=w) pl.typeIs slot_tuple_getitem.lookup
  (getItem_tuple (j:=j) (Q:=fun r s'=>r=w/\EP X pins σ Q r s') pl (by omega) (by omega) (by rw [zGP,<- hl];exact h1) (by simpa using ew) ⟨rfl,fin⟩) hs
theorem cB:IxR X rIxS:=by
 intro value slice pins s σ H x y v u Q I rx ry h hs
 obtain ⟨z,i,c,rfl,rfl,hz,he,q⟩:=h
 obtain ⟨t,rfl⟩:=rx
 obtain ⟨t',rfl⟩:=ry
 obtain ⟨j,h1,h2,h3,h4,h5⟩:=nO he
 have hl:z.cps.toList.length=z.length:=by simp [Str.length]
 rw [hl] at h1 h4 h5
 have hn:=sV
 exact tail_any (typeIs_str s z t) slot_str_getitem.lookup (getItem_str (c:=c) (by
  have e1:decide (i < -(2 ^ 63:Int))=false:=zGX (by omega)
  have e2:decide (i >= 2 ^ 63)=false:=zGX (by omega)
  rw [e1,e2,Bool.or_false]) (by rw [h1];simpa using h2) ⟨.str ⟨#[c]⟩,H,I.tok _,⟨_,rfl⟩,q⟩) hs
theorem kK (its:List Value) (n j:Nat) (u:Value):Obj.mapSeq (·.setIfInBounds j u) { cls:=.type "list",data:=.seq its.toArray n } = { cls:=.type "list",data:=.seq (its.set j u).toArray n }:=by
 simp [Obj.mapSeq]
theorem Inv.lst {pins:List (Addr × Obj)} {σ:St} {H:Hp} {s:Shared} {p:Addr} {xs:List V} (I:Inv X pins σ H s) (h:H p=some (.lst xs)) :
  ∃ (its:List Value) (n:Nat),yI xs its/\s.heap.get? p=some { cls:=.type "list",data:=.seq its.toArray n }/\xs.length <= sizeLine:=by
 obtain ⟨z,its,n,r,e⟩:=I.hok p _ h
 exact ⟨its,n,r,e,z⟩
theorem Inv.lstUpd {pins:List (Addr × Obj)} {σ:St} {H:Hp} {s:Shared} {p:Addr} {xs ys:List V} {its its':List Value} {n n':Nat} {f:Obj->Obj} (I:Inv X pins σ H s) (h:H p=some (.lst xs))
  (ho:s.heap.get? p=some { cls:=.type "list",data:=.seq its.toArray n }) (hf:f { cls:=.type "list",data:=.seq its.toArray n } = { cls:=.type "list",data:=.seq its'.toArray n' }) (r:yI ys its') (hz:ys.length <= sizeLine) (t:Nat) :
  Inv X pins σ (upd H p (.lst ys)) { s with heap:=s.heap.update p f,toks:=t }:=by
 have e:(s.heap.update p f).get? p=some { cls:=.type "list",data:=.seq its'.toArray n' }:=by
  rw [Heap.get?_update_self f ho (by rw [hf] <;> rfl),hf]
 refine I.write (x:=p) (e:=p) (by rw [h];trivial) (.inl rfl) (fun b u hb q=>(Heap.get?_update_other _ _ (Ne.symm hb)).trans q) ⟨_,e⟩ ?_
 exact ⟨hz,its',n',r,e⟩
def zBK:V->V->V->Hp->(Hp->Prop)->Prop:=fun o i v H Q=>∃ p xs k j,o=.ref p/\i=.int k/\H p=some (.lst xs)/\ixN xs.length k=some j/\Q (upd H p (.lst (xs.set j v)))
theorem n9:zGE X zBK:=by
 intro pins s σ H o i v ov iv u Q I ro ri rv h
 obtain ⟨p,xs,k,j,rfl,rfl,hp,hj,q⟩:=h
 cases ro
 obtain ⟨t,rfl⟩:=ri
 obtain ⟨its,n,r,ho,hz⟩:=I.lst hp
 obtain ⟨h1,h2,h3,h4⟩:=iF hj
 have hl:=r.length
 have hn:=sV
 have I':Inv X pins σ (upd H p (.lst (xs.set j v))) { s with heap:=s.heap.update p (Obj.mapSeq (·.setIfInBounds j u)) }:=
  I.lstUpd hp ho (kK its n j u) (r.set rv j) (by rw [zHI];exact hz) s.toks
 by_cases h0:0 <= k
 ·have hk:k.toNat=j:=by
   rw [seqIndex_of h0 h4] at h1
   exact zGO h1
  exact PySem.W.ki_setAt ho h0 (by omega) (by rw [zGP,<- hl];exact h4) (by rw [hk];exact ⟨_,I',q⟩)
 ·have hk:(k + (its.toArray.size:Int)).toNat=j:=by
   rw [seqIndex_neg (by omega) h3] at h1
   rw [zGP,<- hl]
   exact zGO h1
  exact PySem.W.ki_setBack ho (by omega) (by rw [zGP,<- hl];exact h3) (by omega) (by rw [hk];exact ⟨_,I',q⟩)
theorem oI (lo hi:Option Int) (n:Nat):(sliceBounds lo hi none n).1=((HT.sIx n 0 lo:Nat):Int)/\(sliceBounds lo hi none n).2.1=((HT.sIx n n hi:Nat):Int)/\(sliceBounds lo hi none n).2.2=1:=by
 refine ⟨?_,?_,rfl⟩
 ·cases lo with
  | none=>simp [sliceBounds,HT.sIx]
  | some i=>
   simp only [sliceBounds,HT.sIx,Option.getD_none,show (1:Int) > 0 by decide,if_true]
   by_cases h:i < 0
   ·simp only [h,if_true] <;> omega
   ·simp only [h,if_false] <;> omega
 ·cases hi with
  | none=>simp [sliceBounds,HT.sIx]
  | some i=>
   simp only [sliceBounds,HT.sIx,Option.getD_none,show (1:Int) > 0 by decide,if_true]
   by_cases h:i < 0
   ·simp only [h,if_true] <;> omega
   ·simp only [h,if_false] <;> omega
theorem pG (its:List Value) (lo hi:Option Int):slicePick its.toArray lo hi none=((its.drop (HT.sIx its.length 0 lo)).take (HT.sIx its.length its.length hi - HT.sIx its.length 0 lo)).toArray:=by
 obtain ⟨h1,h2,h3⟩:=oI lo hi its.toArray.size
 unfold slicePick
 rw [h1,h2,h3]
 simp only [sliceRange_one,pick_run,zGP] <;> rfl
def zE9 (K:PySem.W.Frag):V->Option Int->Option Int->Hp->VK->Prop:=fun x lo hi H Q=>∃ a xs,x=.ref a/\SqL K H a xs/\∀ p,H p=none->Q (.ref p) (upd H p (.lst (uC xs lo hi)))
theorem oJ:SlR X (zE9 X.K):=by
 intro pins s σ H x v vl vu lo hi sl Q I rx hs pl pu h
 obtain ⟨a,xs,rfl,hx,q⟩:=h
 cases rx
 obtain ⟨its,r,ht,hz⟩:=I.list hx
 have hlen:=r.length
 refine ⟨"list",_,slot_list_getitem.lookup,ht.isList.typeIs,?_⟩
 refine wpAny_getItem_list_slice ht.isList hs pl pu .none (by simp) ?_ (by rw [zGP] <;> omega)
 rw [pG,<- hlen]
 refine ⟨.ref s.heap.objs.size,_,I.laid (t':=s.toks) (o:=.lst (uC xs lo hi)) (fun b ob q=>Heap.get?_push_of_some _ q) (zGQ _) ?_,rfl,q _ (I.hok.fresh (zGQ _))⟩
 exact ⟨zGS (rM xs lo hi) hz,_,0,(r.drop (HT.sIx xs.length 0 lo)).take (HT.sIx xs.length xs.length hi - HT.sIx xs.length 0 lo),Heap.get?_push_size _ rfl⟩
noncomputable def y1:V->Bool
 | .non=>true
 | .bl _=>true
 | .int _=>true
 | .str _=>true
 | _=>false
noncomputable def eqV:V->V->Bool
 | .non,.non=>true
 | .bl a,.bl b=>a == b
 | .bl a,.int b=>(if a then 1 else 0) == b
 | .int a,.bl b=>a == (if b then 1 else 0)
 | .int a,.int b=>a == b
 | .str a,.str b=>a == b
 | _,_=>false
theorem nJ {A:Around} {s:Shared} {y x:V} {u v:Value} (ry:yN y u) (rx:yN x v) (fy:y1 y=true) (fx:y1 x=true):SeqAt.EqAt A s u v (eqV y x):=by
 cases y with
 | non=>
  cases ry
  cases x with
  | non=>cases rx;exact SeqAt.EqAt.same _
  | bl b=>cases rx;exact SeqAt.EqAt.none_bool b
  | int b=>obtain ⟨t,rfl⟩:=rx;exact SeqAt.EqAt.none_int b t
  | str b=>obtain ⟨t,rfl⟩:=rx;exact SeqAt.EqAt.none_str b t
  | _=>exact absurd (show false=true from fx) zG9
 | bl a=>
  cases ry
  cases x with
  | non=>cases rx;exact SeqAt.EqAt.bool_none a
  | bl b=>cases rx;exact SeqAt.EqAt.bool_bool a b
  | int b=>obtain ⟨t,rfl⟩:=rx;exact SeqAt.EqAt.bool_int a b t
  | str b=>obtain ⟨t,rfl⟩:=rx;exact SeqAt.EqAt.bool_str a b t
  | _=>exact absurd (show false=true from fx) zG9
 | int a=>
  obtain ⟨t',rfl⟩:=ry
  cases x with
  | non=>cases rx;exact SeqAt.EqAt.int_none a t'
  | bl b=>cases rx;exact SeqAt.EqAt.int_bool a t' b
  | int b=>obtain ⟨t,rfl⟩:=rx;exact SeqAt.EqAt.int_int a t' b t
  | str b=>obtain ⟨t,rfl⟩:=rx;exact SeqAt.EqAt.int_str a t' b t
  | _=>exact absurd (show false=true from fx) zG9
 | str a=>
  obtain ⟨t',rfl⟩:=ry
  cases x with
  | non=>cases rx;exact SeqAt.EqAt.str_none a t'
  | bl b=>cases rx;exact SeqAt.EqAt.str_bool a t' b
  | int b=>obtain ⟨t,rfl⟩:=rx;exact SeqAt.EqAt.str_int a t' b t
  | str b=>obtain ⟨t,rfl⟩:=rx;exact SeqAt.EqAt.str_str a t' b t
  | _=>exact absurd (show false=true from fx) zG9
 | _=>exact absurd (show false=true from fy) zG9
noncomputable def eqU (x:V) (u:Value):Bool:=match u with
 | .none=>eqV .non x
 | .bool b=>eqV (.bl b) x
 | .int i _=>eqV (.int i) x
 | .str z _=>eqV (.str z) x
 | _=>false
theorem cO {x y:V} {u:Value} (r:yN y u) (f:y1 y=true):eqU x u=eqV y x:=by
 cases y with
 | non=>cases r;rfl
 | bl b=>cases r;rfl
 | int i=>obtain ⟨t,rfl⟩:=r;rfl
 | str z=>obtain ⟨t,rfl⟩:=r;rfl
 | _=>exact absurd (show false=true from f) zG9
theorem sK {x:V}:∀ {xs:List V} {us:List Value},yI xs us->xs.all y1=true->us.any (eqU x)=xs.any fun y=>eqV y x
 | _,_,.nil,_=>rfl
 | y :: xs,u :: us,.cons r t,f=>by
  rw [List.all_cons,Bool.and_eq_true] at f
  rw [List.any_cons,List.any_cons,cO r f.1,sK t f.2]
theorem u4 {A:Around} {s:Shared} {x:V} {v:Value} (rx:yN x v) (fx:y1 x=true):∀ {xs:List V} {us:List Value},yI xs us->xs.all y1=true->∀ u ∈ us,SeqAt.EqAt A s u v (eqU x u)
 | _,_,.nil,_=>fun u hu=>by cases hu
 | y :: xs,u :: us,.cons r t,f=>fun u' hu=>by
  rw [List.all_cons,Bool.and_eq_true] at f
  rcases List.mem_cons.mp hu with rfl | hu
  ·rw [cO r f.1];exact nJ r rx f.1 fx
  ·exact u4 rx fx t f.2 u' hu
noncomputable def inV (x:V) (xs:List V):Bool:=xs.any fun y=>eqV y x
def rIn (K:PySem.W.Frag) (neg:Bool):R2:=fun x y H Q=>∃ p xs,y=.ref p/\(SqL K H p xs \/ SqT K H p xs)/\y1 x=true/\xs.all y1=true/\Q (.bl (if neg then !inV x xs else inV x xs)) H
theorem pN:OpR X (compareOp .In) (rIn X.K false):=by
 intro pins s σ H x y v u Q I rx ry h
 obtain ⟨p,xs,rfl,hq,fx,fs,q⟩:=h
 cases ry
 rcases hq with hq | hq
 ·obtain ⟨its,r,pl,hz⟩:=I.list hq
  refine SeqAt.in_listAt (eqU x) pl.isList (fun w hw=>u4 rx fx r fs w (by simpa using hw)) ⟨.bl _,H,I,rfl,?_⟩
  rw [show its.toArray.any (eqU x)=its.any (eqU x) by simp,sK r fs]
  exact q
 ·obtain ⟨its,r,pl,hz⟩:=I.tuple hq
  refine SeqAt.in_tupleAt (eqU x) pl (fun w hw=>u4 rx fx r fs w (by simpa using hw)) ⟨.bl _,H,I,rfl,?_⟩
  rw [show its.toArray.any (eqU x)=its.any (eqU x) by simp,sK r fs]
  exact q
theorem oX:OpR X (compareOp .NotIn) (rIn X.K true):=by
 intro pins s σ H x y v u Q I rx ry h
 obtain ⟨p,xs,rfl,hq,fx,fs,q⟩:=h
 cases ry
 rcases hq with hq | hq
 ·obtain ⟨its,r,pl,hz⟩:=I.list hq
  refine SeqAt.notIn_listAt (eqU x) pl.isList (fun w hw=>u4 rx fx r fs w (by simpa using hw)) ⟨.bl _,H,I,rfl,?_⟩
  rw [show its.toArray.any (eqU x)=its.any (eqU x) by simp,sK r fs]
  exact q
 ·obtain ⟨its,r,pl,hz⟩:=I.tuple hq
  refine SeqAt.notIn_tupleAt (eqU x) pl (fun w hw=>u4 rx fx r fs w (by simpa using hw)) ⟨.bl _,H,I,rfl,?_⟩
  rw [show its.toArray.any (eqU x)=its.any (eqU x) by simp,sK r fs]
  exact q
theorem vQ:vN X (.type "list") (fun xs H Q=>∃ p ys,xs=[.ref p]/\(SqL X.K H p ys \/ SqT X.K H p ys)/\∀ l,H l=none->Q (.ref l) (upd H l (.lst ys))):=by
 intro pins s σ H xs us Q I r h
 obtain ⟨p,ys,rfl,hq,q⟩:=h
 obtain ⟨u,rfl,rx⟩:=tI r
 cases rx
 have fin:∀ (its:List Value),yI ys its->ys.length <= sizeLine->∀ (h':Heap) (c':Nat),(∀ b o',s.heap.get? b=some o'->h'.get? b=some o') ->
   h'.get? s.heap.objs.size=some { cls:=.type "list",dict:=none,data:=.seq its.toArray c',slots:=#[] }->EP X pins σ Q (.ref s.heap.objs.size) { s with heap:=h' }:=fun its r' hz h' c' kp e=>
  ⟨.ref s.heap.objs.size,_,I.laid (t':=s.toks) kp (zGQ _) (show xP X.prog X.w _ h' _ (.lst ys) from ⟨hz,its,c',r',e⟩),rfl,q _ (I.hok.fresh (zGQ _))⟩
 rcases hq with hq | hq
 ·obtain ⟨its,r',pl,hz⟩:=I.list hq
  have hlen:=r'.length
  obtain ⟨o,ho,hc,n,hd⟩:=pl.isList
  exact call_list_seq p (.inl rfl) ho hc hd (fun h' c' kp e=>fin its r' hz h' c' kp e) (by simp only [zGP] <;> omega)
 ·obtain ⟨its,r',pl,hz⟩:=I.tuple hq
  have hlen:=r'.length
  obtain ⟨o,ho,hc,n,hd⟩:=pl
  exact call_list_seq p (.inr rfl) ho hc hd (fun h' c' kp e=>fin its r' hz h' c' kp e) (by simp only [zGP] <;> omega)
def tyV (K:PySem.W.Frag) (T:String) (x:V) (H:Hp):Prop:=match x with
 | .str _=>T="str"
 | .int _=>T="int"
 | .ref p=>(T="list"/\∃ xs,SqL K H p xs) \/ (T="tuple"/\∃ o,K.lookup p=some o/\o.cls=.type "tuple"/\o.dict=none) \/
   (T="dict"/\((∃ kvs,H p=some (.dK kvs)) \/ ∃ kvs,H p=some (.dT kvs))) \/ (T="set"/\∃ S n,H p=some (.set S n))
 | _=>False
theorem zB2 {pins:List (Addr × Obj)} {σ:St} {H:Hp} {s:Shared} {T:String} {x:V} {v:Value} (I:Inv X pins σ H s) (r:yN x v) (ty:tyV X.K T x H) :
  s.TypeIs v T/\∀ a,v=.ref a->∃ ob,s.heap.get? a=some ob/\ob.dict=none:=by
 cases x with
 | str z=>
  obtain ⟨t,rfl⟩:=r
  cases (show T="str" from ty)
  exact ⟨typeIs_str s z t,fun _ e=>nomatch e⟩
 | int i=>
  obtain ⟨t,rfl⟩:=r
  cases (show T="int" from ty)
  exact ⟨typeIs_int s i t,fun _ e=>nomatch e⟩
 | ref p=>
  cases r
  rcases ty with ⟨rfl,xs,hq⟩ | ⟨rfl,o,hk,hc,hd⟩ | ⟨rfl,hk⟩ | ⟨rfl,S,n,hk⟩
  ·obtain ⟨its,_,pl,_⟩:=I.list hq
   refine ⟨pl.isList.typeIs,fun a e=>?_⟩
   cases e
   obtain ⟨o,n,e,c,hd,_⟩:=pl
   exact ⟨o,e,hd⟩
  ·refine ⟨⟨o,I.kIn p o hk,hc⟩,fun a e=>?_⟩
   cases e
   exact ⟨o,I.kIn _ o hk,hd⟩
  ·have z:∃ o,s.heap.get? p=some o/\o.ExactDict:=by
    rcases hk with ⟨kvs,hk⟩ | ⟨kvs,hk⟩
    ·obtain ⟨_,_,_,_,o,_,_,e,ex,_⟩:=I.hok p _ hk
     exact ⟨o,e,ex⟩
    ·obtain ⟨_,_,_,_,o,_,_,e,ex,_⟩:=I.hok p _ hk
     exact ⟨o,e,ex⟩
   obtain ⟨o,e,ex⟩:=z
   refine ⟨⟨o,e,ex.1⟩,fun a e2=>?_⟩
   cases e2
   exact ⟨o,e,ex.2.1⟩
  ·obtain ⟨o,_,_,_,e,ex,_⟩:=I.hok p _ hk
   refine ⟨⟨o,e,ex.1⟩,fun a e2=>?_⟩
   cases e2
   exact ⟨o,e,ex.2.1⟩
 | _=>exact False.elim ty
def tBM (K:PySem.W.Frag) (T:String) (r:V->List V->Hp->VK->Prop) (to:TE) (t:TA):TE:=fun σ H Q=>to σ H fun x H1=>tyV K T x H1/\t σ H1 fun xs H2=>r x xs H2 Q
variable {o e:Expr} {es:List Expr} {to:TE} {t:TA} {name:Str} {apos cpos:Pos} {T id:String} {r:V->List V->Hp->VK->Prop}
theorem vL (pa:PlainAttrs T) (slot:Slot T name id) (hty:typeOf (.builtin id)=pure (.type "method_descriptor")) (hm:MtR X id r) (ho:PE X o to) (ha:PA X (e :: es) t)
  (hbase:attributeBase o name X.env (eval o X.env)=eval o X.env:=by rfl)
  (hfew:((backTo cpos (starEach (e :: es) X.env)).all (fun x=>!x.1) && (backToKw cpos (keywordEach [] X.env)).all (fun x=>x.1.isSome)
   && decide ((e :: es).length + ([]:List Keyword).length + (if ([]:List Keyword).isEmpty then 0 else 1) < 30))=true:=by rfl)
  (hline:(apos.endLine == cpos.line)=true:=by rfl) (hs:starEach (e :: es) X.env=(false,eval e X.env) :: starEach es X.env:=by rfl) (hplain:(backTo cpos (starEach es X.env)).any (·.1)=false:=by rfl) :
  PE X (.Call (.Attribute o name apos) (e :: es) [] cpos) (tBM X.K T r to t):=by
 intro pins s σ H Q I h
 refine wpAny_Call_method_late hbase hfew hline rfl (thn (ho pins s σ H _ I h) fun v s1 hz40=>?_)
 obtain ⟨x,H1,I1,r1,ty,q1⟩:=hz40
 obtain ⟨h1,h2⟩:=zB2 I1 r1 ty
 refine ⟨T,id,pa,slot,hty,h1,h2,?_⟩
 have hA:=ha cpos pins s1 σ H1 _ I1 q1
 rw [hs] at hA ⊢
 refine Calls.callWith_builtin (by show (false || (backTo cpos (starEach es X.env)).any (·.1))=false;rw [hplain] <;> rfl) (Calls.evalArgs_plain ?_)
 exact thn hA fun us s2 ⟨vs,H2,I2,r2,q2⟩=>hm pins s2 σ H2 x vs v us Q I2 r1 r2 q2
end
end L2
namespace L2
open PySem PySem.Spec PyProof.Rows
def MtM (X:Cx) (id:String) (r:V->List V->Hp->VK->Prop):Prop:=
 ∀ (pins:List (Addr × Obj)) (s:Shared) (σ:St) (H:Hp) (x:V) (xs:List V) (v:Value) (us:List Value) (Q:VK),Inv X pins σ H s->yN x v->yI xs us->r x xs H Q ->
  wpAny (model X.prog X.w) X.A (call (.builtin id) (v :: us)) (EP X pins σ Q) X.xe s
theorem yI.one {x:V} {us:List Value} (h:yI [x] us):∃ u,us=[u]/\yN x u:=by
 cases h with
 | cons r k=>cases k;exact ⟨_,rfl,r⟩
theorem yI.two {x y:V} {us:List Value} (h:yI [x,y] us):∃ u v,us=[u,v]/\yN x u/\yN y v:=by
 cases h with
 | cons r k=>cases k with
  | cons q m=>cases m;exact ⟨_,_,rfl,r,q⟩
theorem yI.eraseIdx:∀ {xs:List V} {us:List Value} (i:Nat),yI xs us->yI (xs.eraseIdx i) (us.eraseIdx i)
 | _,_,_,.nil=>.nil
 | _,_,0,.cons _ t=>t
 | _,_,i + 1,.cons r t=>.cons r (yI.eraseIdx i t)
theorem uE {α:Type}:∀ (l:List α) (i:Nat),(l.eraseIdx i).length <= l.length
 | [],_=>zGQ _
 | _ :: _,0=>Nat.le_succ _
 | _ :: r,i + 1=>Nat.succ_le_succ (uE r i)
section
variable {X:Cx} {pins:List (Addr × Obj)} {σ:St} {H:Hp} {s:Shared} {l b:Addr} {xs ys zs:List V}
theorem Inv.lset {its its':List Value} {n:Nat} {f:Array Value->Array Value} {t':Nat} (I:Inv X pins σ H s) (hH:H l=some (.lst xs))
  (e:s.heap.get? l=some { cls:=.type "list",data:=.seq its.toArray n }) (hf:f its.toArray=its'.toArray) (hv:yI ys its') (hz:ys.length <= sizeLine) :
  Inv X pins σ (upd H l (.lst ys)) { s with heap:=s.heap.update l (Obj.mapSeq f),toks:=t' }:=by
 have q:=PySem.IsL.update e f
 rw [hf] at q
 refine I.write (x:=l) (e:=l) (by rw [hH];exact trivial) (.inl rfl) (fun b' u hb hu=>(Heap.get?_update_other s.heap (Obj.mapSeq f) (Ne.symm hb)).trans hu) ⟨_,q⟩ ?_
 exact ⟨hz,its',_,hv,q⟩
theorem Inv.lnew {its:List Value} {t':Nat} (I:Inv X pins σ H s) (hv:yI ys its) (hz:ys.length <= sizeLine) :
  Inv X pins σ (upd H s.heap.objs.size (.lst ys)) { s with heap:=s.heap.push { cls:=.type "list",data:=.seq its.toArray },toks:=t' }:=
 I.laid (fun _ _ q=>Heap.get?_push_of_some _ q) (zGQ _) ⟨hz,its,0,hv,Heap.get?_push_size _ rfl⟩
theorem Inv.fresh (I:Inv X pins σ H s):H s.heap.objs.size=none:=I.hok.fresh (zGQ _)
theorem Inv.lstM (I:Inv X pins σ H s) (hH:H l=some (.lst xs)):xs.length <= sizeLine/\∃ (its:List Value) (n:Nat),yI xs its/\xs.length=its.length/\s.heap.get? l=some { cls:=.type "list",data:=.seq its.toArray n }:=by
 obtain ⟨z,its,n,r,e⟩:=I.hok l _ hH
 exact ⟨z,its,n,r,r.length,e⟩
end
section
variable {X:Cx}
def aM:V->List V->Hp->VK->Prop:=fun x vs H Q=>∃ l xs y,x=.ref l/\vs=[y]/\H l=some (.lst xs)/\xs.length < sizeLine/\Q .non (upd H l (.lst (xs ++ [y])))
theorem xF:MtM X "list.append" aM:=by
 intro pins s σ H x vs v us Q I rx rv h
 obtain ⟨l,xs,y,rfl,rfl,hH,hz,q⟩:=h
 cases rx
 obtain ⟨u,rfl,ru⟩:=rv.one
 obtain ⟨z,its,n,r,hl,e⟩:=I.lstM hH
 refine call_meets F.slot_list_append ⟨_,e,rfl⟩ F.entry_list_append (F.args_list_append_2 _ _) (PySem.list_append l its.toArray n u (by rw [zGP];omega)) ⟨e,?_⟩
 refine ⟨.non,_,I.lset (its':=its ++ [u]) hH e (by simp) (r.append (.cons ru .nil)) ?_,rfl,q⟩
 rw [zGZ,List.length_singleton]
 omega
def zCR:V->List V->Hp->VK->Prop:=fun x vs H Q=>∃ l xs i k y,x=.ref l/\vs=[.int i]/\H l=some (.lst xs)/\-(2 ^ 63) <= i/\i < 2 ^ 63/\seqIndex? i xs.length=some k/\xs[k]?=some y/\Q y (upd H l (.lst (xs.eraseIdx k)))
theorem mX:MtM X "list.pop" zCR:=by
 intro pins s σ H x vs v us Q I rx rv h
 obtain ⟨l,xs,i,k,y,rfl,rfl,hH,h1,h2,hk,hy,q⟩:=h
 cases rx
 obtain ⟨u,rfl,ru⟩:=rv.one
 obtain ⟨t,rfl⟩:=ru
 obtain ⟨z,its,n,r,hl,e⟩:=I.lstM hH
 obtain ⟨w,hw,rw'⟩:=r.get hy
 refine call_meets F.slot_list_pop ⟨_,e,rfl⟩ F.entry_list_pop (F.args_list_pop_2 _ _)
  (MeetsSeq.list_pop_at l its.toArray n i t k w (fitsIndex_both h1 h2) (by rw [zGP,<- hl];exact hk) (by rw [<- Array.getElem?_toList];exact hw) (by rw [zGP];omega)) ⟨e,?_⟩
 refine ⟨y,_,I.lset (its':=its.eraseIdx k) hH e ?_ (r.eraseIdx k) ?_,rw',q⟩
 ·show its.toArray.eraseIdxIfInBounds k=(its.eraseIdx k).toArray
  rw [List.eraseIdxIfInBounds_toArray]
 ·have:=uE xs k
  omega
def rCat:R2:=fun x y H Q=>∃ l b xs zs,x=.ref l/\y=.ref b/\H l=some (.lst xs)/\H b=some (.lst zs)/\xs.length + zs.length <= sizeLine/\∀ p,H p=none->Q (.ref p) (upd H p (.lst (xs ++ zs)))
theorem tS:OpR X (binaryOp .Add) rCat:=by
 intro pins s σ H x y v u Q I rx ry h
 obtain ⟨l,b,xs,zs,rfl,rfl,hH,hB,hz,q⟩:=h
 cases rx
 cases ry
 obtain ⟨z,its,n,r,hl,e⟩:=I.lstM hH
 obtain ⟨z2,its2,n2,r2,hl2,e2⟩:=I.lstM hB
 refine PySem.P.add_list e e2 ?_ (by rw [zGP,zGP];omega)
 have ea:its.toArray ++ its2.toArray=(its ++ its2).toArray:=by simp
 rw [ea]
 exact ⟨.ref _,_,I.lnew (t':=s.toks) (r.append r2) (by rw [zGZ];omega),rfl,q _ I.fresh⟩
end
section
variable {prog:Program} {w:World} {A:Around} {E:Value->Shared->Prop} {s:Shared}
end
section
variable {X:Cx}
end
end L2
namespace L2
open PySem PySem.Spec PyProof.Rows
section
variable {κ:Type} [DecidableEq κ]
noncomputable def uW (kvs:List (κ × V)) (k:κ):Option V:=(kvs.find? fun kv=>decide (kv.1=k)).map (·.2)
noncomputable def vC (kvs:List (κ × V)) (k:κ) (v:V):List (κ × V):=
 if (kvs.any fun kv=>decide (kv.1=k))=true then kvs.map (fun kv=>if kv.1=k then (kv.1,v) else kv) else kvs ++ [(k,v)]
theorem tZ {p:κ × V} {r:List (κ × V)} {k:κ} (e:p.1=k):uW (p :: r) k=some p.2:=by simp [uW,List.find?_cons,e]
theorem uZ {p:κ × V} {r:List (κ × V)} {k:κ} (e:¬ p.1=k):uW (p :: r) k=uW r k:=by simp [uW,List.find?_cons,e]
theorem qE (k:κ):∀ kvs:List (κ × V),(kvs.any fun kv=>decide (kv.1=k))=(uW kvs k).isSome
 | []=>rfl
 | p :: r=>by
  rw [List.any_cons]
  by_cases e:p.1=k
  ·simp only [tZ e,zGW e,Bool.true_or,Option.isSome_some]
  ·rw [uZ e,zGX e,Bool.false_or];exact qE k r
theorem v8 (kvs:List (κ × V)) (k:κ) (v:V):(vC kvs k v).length <= kvs.length + 1:=by
 unfold vC
 split
 ·rw [zGH];omega
 ·rw [zGZ,zG2,List.length_nil];omega
theorem eG {kvs:List (κ × V)} {k:κ} (v:V) (h:uW kvs k=none):vC kvs k v=kvs ++ [(k,v)]:=by
 unfold vC
 rw [qE,h]
 exact if_neg (by decide)
theorem tH.isSome_eq {o:Option V} {u:Option Value} (r:tH o u):o.isSome=u.isSome:=by
 cases o with
 | none=>cases u with
  | none=>rfl
  | some _=>exact (show False from r).elim
 | some _=>cases u with
  | none=>exact (show False from r).elim
  | some _=>rfl
theorem KV.val {kvs:List (κ × V)} {vs:List (κ × Value)} (r:KV kvs vs) (k:κ):tH (uW kvs k) (valueAt vs k):=by
 unfold KV at r
 induction r with
 | nil=>exact True.intro
 | @cons p q ps qs h t ih=>
  obtain ⟨h1,h2⟩:=h
  by_cases e:p.1=k
  ·have e':q.1=k:=h1.symm.trans e
   have b:valueAt (q :: qs) k=some q.2:=by simp [valueAt,List.find?_cons,e']
   rw [tZ e,b];exact h2
  ·have e':¬ q.1=k:=fun z=>e (h1.trans z)
   have b:valueAt (q :: qs) k=valueAt qs k:=by simp [valueAt,List.find?_cons,e']
   rw [uZ e,b];exact ih
theorem KV.any {kvs:List (κ × V)} {vs:List (κ × Value)} (r:KV kvs vs) (k:κ):(kvs.any fun kv=>decide (kv.1=k))=vs.any fun kv=>decide (kv.1=k):=by
 unfold KV at r
 induction r with
 | nil=>rfl
 | cons h t ih=>rw [List.any_cons,List.any_cons,ih,h.1]
theorem KV.repl {kvs:List (κ × V)} {vs:List (κ × Value)} (r:KV kvs vs) (k:κ) {y:V} {u:Value} (ry:yN y u) :
  KV (kvs.map fun kv=>if kv.1=k then (kv.1,y) else kv) (vs.map fun kv=>if kv.1=k then (kv.1,u) else kv):=by
 unfold KV at r ⊢
 induction r with
 | nil=>exact .nil
 | @cons p q ps qs h t ih=>
  rw [List.map_cons,List.map_cons]
  refine .cons ?_ ih
  obtain ⟨h1,h2⟩:=h
  by_cases e:p.1=k
  ·rw [if_pos e,if_pos (h1.symm.trans e)];exact ⟨h1,ry⟩
  ·rw [if_neg e,if_neg (fun z=>e (h1.trans z))];exact ⟨h1,h2⟩
theorem KV.put {kvs:List (κ × V)} {vs:List (κ × Value)} (r:KV kvs vs) (k:κ) {y:V} {u:Value} (ry:yN y u):KV (vC kvs k y) (stored vs k u):=by
 unfold vC stored
 rw [r.any k]
 by_cases e:(vs.any fun kv=>decide (kv.1=k))=true
 ·rw [if_pos e,if_pos e];exact r.repl k ry
 ·rw [if_neg e,if_neg e];exact Paired.snoc r ⟨rfl,ry⟩
theorem KV.length {kvs:List (κ × V)} {vs:List (κ × Value)} (r:KV kvs vs):kvs.length=vs.length:=Paired.length r
end
theorem qW {P:Program} {w:World} {k:Key} {u:Value} (r:yN (kV k) u):(x0 P w).is k u=true:=by
 cases k with
 | inl i=>obtain ⟨t,e⟩:=(show ∃ t,u=Value.int i t from r);subst e;exact mZ P w i t
 | inr x=>obtain ⟨t,e⟩:=(show ∃ t,u=Value.str x t from r);subst e;exact mY P w x t
theorem pR {P:Program} {w:World}:∀ {ks:List Key} {us:List Value},yI (ks.map kV) us->ItemsAre (x0 P w) ks us
 | [],_,r=>by rw [List.map_nil] at r;cases r;exact .nil
 | k :: ks,_,r=>by
  rw [List.map_cons] at r
  cases r with
  | cons h t=>exact .cons (qW h) (pR t)
abbrev KT (H:Hp):List (List Key × V)->List (List Key × Addr × Value)->Prop:=Paired fun p q=>p.1=q.1/\H q.2.1=some (.tup (p.1.map kV))/\yN p.2 q.2.2
theorem KT.val {H:Hp} {kvs:List (List Key × V)} {xs:List (List Key × Addr × Value)} (r:KT H kvs xs) (k:List Key):tH (uW kvs k) ((atKey xs k).map (·.2)):=by
 induction r with
 | nil=>exact True.intro
 | @cons p q ps qs h t ih=>
  obtain ⟨h1,_,h2⟩:=h
  by_cases e:p.1=k
  ·have e':q.1=k:=h1.symm.trans e
   have b:atKey (q :: qs) k=some q.2:=by simp [atKey,List.find?_cons,e']
   rw [tZ e,b];exact h2
  ·have e':¬ q.1=k:=fun z=>e (h1.trans z)
   have b:atKey (q :: qs) k=atKey qs k:=by simp [atKey,List.find?_cons,e']
   rw [uZ e,b];exact ih
theorem KT.repl {H:Hp} {kvs:List (List Key × V)} {xs:List (List Key × Addr × Value)} (r:KT H kvs xs) (k:List Key) {y:V} {u:Value} (ry:yN y u) :
  KT H (kvs.map fun kv=>if kv.1=k then (kv.1,y) else kv) (xs.map (putAt k u)):=by
 induction r with
 | nil=>exact .nil
 | @cons p q ps qs h t ih=>
  rw [List.map_cons,List.map_cons]
  refine .cons ?_ ih
  obtain ⟨h1,h2,h3⟩:=h
  unfold putAt
  by_cases e:p.1=k
  ·rw [if_pos e,if_pos (h1.symm.trans e)];exact ⟨h1,h2,ry⟩
  ·rw [if_neg e,if_neg (fun z=>e (h1.trans z))];exact ⟨h1,h2,h3⟩
theorem KT.put {H:Hp} {kvs:List (List Key × V)} {xs:List (List Key × Addr × Value)} (r:KT H kvs xs) (k:List Key) {b:Addr} {y:V} {u:Value} (hb:H b=some (.tup (k.map kV))) (ry:yN y u) :
  KT H (vC kvs k y) (storedH xs k b u):=by
 have e:(kvs.any fun kv=>decide (kv.1=k))=(atKey xs k).isSome:=by
  rw [qE,(r.val k).isSome_eq,Option.isSome_map]
 unfold vC storedH
 rw [e]
 by_cases q:(atKey xs k).isSome=true
 ·rw [if_pos q,if_pos q];exact r.repl k ry
 ·rw [if_neg q,if_neg q];exact Paired.snoc r ⟨rfl,hb,ry⟩
theorem KT.keeps {H H':Hp} {kvs:List (List Key × V)} {xs:List (List Key × Addr × Value)} (r:KT H kvs xs) (ht:∀ b ys,H b=some (.tup ys)->H' b=some (.tup ys)):KT H' kvs xs:=
 Paired.mapP r fun _ _ z=>⟨z.1,ht _ _ z.2.1,z.2.2⟩
section
variable {P:Program} {w:World} {H:Hp} {h:Heap} {a:Addr}
theorem zBJ {u:HO} (ok:HOk P w H h) (e:Rd H a u):xP P w H h a u:=e.ok ok
theorem lC {kvs:List (Key × V)} (ok:HOk P w H h) (e:Rd H a (.dK kvs)):kvs.length <= sizeLine/\(a == sysModules)=false/\∃ vs,KV kvs vs/\h.DictOf (x0 P w) a vs:=
 show xP P w H h a (.dK kvs) from zBJ ok e
theorem cT {kvs:List (Key × V)} (ok:HOk P w H h) (e:H a=some (.dK kvs)):kvs.length <= sizeLine/\(a == sysModules)=false/\∃ vs,KV kvs vs/\h.DictOf (x0 P w) a vs:=lC ok (.inl e)
theorem qV {ks:List Key} (ok:HOk P w H h) (e:H a=some (.tup (ks.map kV))):(tupleKind (x0 P w)).is h ks a:=by
 obtain ⟨_,its,r,o,h1,h2,n,h3⟩:=(show xP P w H h a (.tup (ks.map kV)) from ok a _ e)
 exact ⟨o,its.toArray,n,h1,h2,h3,by simpa using pR r⟩
theorem lB {kvs:List (List Key × V)} (ok:HOk P w H h) (e:Rd H a (.dT kvs)):kvs.length <= sizeLine/\(a == sysModules)=false /\
  ∃ xs,KT H kvs xs/\h.DictOfH (tupleKind (x0 P w)) a xs:=by
 obtain ⟨z,y,xs,r,o,es,ep,h1,h2,h3,h4,h5⟩:=(show xP P w H h a (.dT kvs) from zBJ ok e)
 refine ⟨z,y,xs,r,o,es,ep,h1,h2,h3,h4,fun x hx=>?_,h5⟩
 have all:∀ {l:List (List Key × V)} {m:List (List Key × Addr × Value)},KT H l m->∀ x ∈ m,(tupleKind (x0 P w)).is h x.1 x.2.1:=by
  intro l m q
  induction q with
  | nil=>intro x hx;exact nomatch hx
  | @cons p q ps qs hq t ih=>
   intro x hx
   rcases List.mem_cons.mp hx with e | hx
   ·subst e
    exact qV ok (by rw [<- hq.1];exact hq.2.1)
   ·exact ih x hx
 exact all r x hx
theorem zGA {kvs:List (List Key × V)} (ok:HOk P w H h) (e:H a=some (.dT kvs)):kvs.length <= sizeLine/\(a == sysModules)=false /\
  ∃ xs,KT H kvs xs/\h.DictOfH (tupleKind (x0 P w)) a xs:=lB ok (.inl e)
end
def u8 (H:Hp) (a:Addr) (y:V) (r:Option V):Prop:=
 (∃ kvs k,Rd H a (.dK kvs)/\y=kV k/\r=uW kvs k) \/ ∃ kvs k b,Rd H a (.dT kvs)/\y=.ref b/\H b=some (.tup (k.map kV))/\r=uW kvs k
def bM (H:Hp) (a:Addr) (y v:V) (H':Hp):Prop:=
 (∃ kvs k,H a=some (.dK kvs)/\y=kV k/\kvs.length < sizeLine/\H'=upd H a (.dK (vC kvs k v))) \/
 ∃ kvs k b,H a=some (.dT kvs)/\y=.ref b/\H b=some (.tup (k.map kV))/\kvs.length < sizeLine/\H'=upd H a (.dT (vC kvs k v))
theorem u8.k {H:Hp} {a:Addr} {kvs:List (Key × V)} {k:Key} (e:H a=some (.dK kvs)):u8 H a (kV k) (uW kvs k):=.inl ⟨kvs,k,.inl e,rfl,rfl⟩
section
variable {X:Cx} {pins:List (Addr × Obj)} {σ:St} {H:Hp} {s:Shared} {a:Addr} {y v:V} {u r:Value} {o:Option V} {A:Around} {E:Value->Shared->Prop}
theorem Inv.big (I:Inv X pins σ H s):sysModules < s.heap.objs.size:=by
 have h:mainGlobals < s.heap.objs.size:=(I.mod.glob.keeps I.bk).lt
 exact Nat.lt_trans (by decide) h
theorem gO {Q:Value->Shared->Prop} (hu:A.units + 1 < cLine) (I:Inv X pins σ H s) (g:u8 H a y (some v)) (ry:yN y u) (h:∀ w' s',Inv X pins σ H s'->yN v w'->Q w' s') :
  wpAny (model X.prog X.w) A (getItem (.ref a) u) Q E s:=by
 rcases g with ⟨kvs,k,e,ey,l⟩ | ⟨kvs,k,b,e,ey,eb,l⟩
 ·subst ey
  obtain ⟨z,hd,vs,rel,dd⟩:=lC I.hok e
  obtain ⟨w',hw,rw'⟩:=tH.some_of (v:=v) (o:=valueAt vs k) (by rw [l];exact rel.val k)
  exact wpAny_getItem_of (qW ry) dd.mapOf hw (h w' _ (I.tok _) rw')
 ·subst ey
  cases (show u=Value.ref b from ry)
  obtain ⟨z,hd,xs,rel,dd⟩:=lB I.hok e
  obtain ⟨w',hw,rw'⟩:=tH.some_of (v:=v) (o:=(atKey xs k).map (·.2)) (by rw [l];exact rel.val k)
  obtain ⟨p,hp,hp2⟩:=Option.map_eq_some_iff.mp hw
  refine wpAny_getItem_heap (tupleKind_room_in1 hu) (qV I.hok eb) dd hp ?_
  rw [hp2]
  exact h w' _ (I.tok _) rw'
theorem d_in {Q:Value->Shared->Prop} (hu:A.units + 1 < cLine) (I:Inv X pins σ H s) (g:u8 H a y o) (ry:yN y u) (h:∀ s',Inv X pins σ H s'->Q (.bool o.isSome) s') :
  wpAny (model X.prog X.w) A (compareOp .In u (.ref a)) Q E s:=by
 rcases g with ⟨kvs,k,e,ey,l⟩ | ⟨kvs,k,b,e,ey,eb,l⟩
 ·subst ey
  obtain ⟨z,hd,vs,rel,dd⟩:=lC I.hok e
  refine wpAny_in_of (qW ry) hd dd.mapOf ?_
  rw [<- (rel.val k).isSome_eq,<- l]
  exact h _ (I.tok _)
 ·subst ey
  cases (show u=Value.ref b from ry)
  obtain ⟨z,hd,xs,rel,dd⟩:=lB I.hok e
  refine wpAny_in_heap (tupleKind_room_in1 hu) (qV I.hok eb) hd dd ?_
  have q:=(rel.val k).isSome_eq
  rw [Option.isSome_map] at q
  rw [<- q,<- l]
  exact h _ (I.tok _)
theorem zA0 {Q:Value->Shared->Prop} (hu:A.units + 1 < cLine) (I:Inv X pins σ H s) (g:u8 H a y o) (ry:yN y u) (h:∀ s',Inv X pins σ H s'->Q (.bool (!o.isSome)) s') :
  wpAny (model X.prog X.w) A (compareOp .NotIn u (.ref a)) Q E s:=by
 rcases g with ⟨kvs,k,e,ey,l⟩ | ⟨kvs,k,b,e,ey,eb,l⟩
 ·subst ey
  obtain ⟨z,hd,vs,rel,dd⟩:=lC I.hok e
  refine wpAny_notIn_of (qW ry) hd dd.mapOf ?_
  rw [<- (rel.val k).isSome_eq,<- l]
  exact h _ (I.tok _)
 ·subst ey
  cases (show u=Value.ref b from ry)
  obtain ⟨z,hd,xs,rel,dd⟩:=lB I.hok e
  refine wpAny_notIn_heap (tupleKind_room_in1 hu) (qV I.hok eb) hd dd ?_
  have q:=(rel.val k).isSome_eq
  rw [Option.isSome_map] at q
  rw [<- q,<- l]
  exact h _ (I.tok _)
theorem qB {h':Heap} {t':Nat} {ob:HO} (I:Inv X pins σ H s) (mu:Mut (H a)) (hs:Heap.SameBut a s.heap h') (he:∃ q,h'.get? a=some q) (new:xP X.prog X.w (upd H a ob) h' a ob) :
  Inv X pins σ (upd H a ob) { s with heap:=h',toks:=t' }:=
 I.write (x:=a) (e:=a) mu (.inl rfl) (fun b q hb z=>(hs.2 b hb).trans z) he new
theorem kU {P:Program} {w:World} {H':Hp} {h':Heap} {kvs:List (Key × V)} {vs:List (Key × Value)} (z:kvs.length <= sizeLine) (hd:(a == sysModules)=false) (rel:KV kvs vs) (dd:h'.DictOf (x0 P w) a vs) :
  xP P w H' h' a (.dK kvs):=⟨z,hd,vs,rel,dd⟩
theorem gN {H':Hp} {Q:Unit->Shared->Prop} (hu:A.units + 1 < cLine) (I:Inv X pins σ H s) (g:bM H a y v H') (ry:yN y u) (rv:yN v r) (h:∀ s',Inv X pins σ H' s'->Q () s') :
  wpAny (model X.prog X.w) A (setItem (.ref a) u r) Q E s:=by
 rcases g with ⟨kvs,k,e,ey,l,eH⟩ | ⟨kvs,k,b,e,ey,eb,l,eH⟩
 ·subst ey eH
  obtain ⟨z,hd,vs,rel,dd⟩:=cT I.hok e
  have hz:vs.length <= sizeLine:=by rw [<- rel.length];exact z
  have hl:(vC kvs k v).length <= sizeLine:=by have:=v8 kvs k v;omega
  refine wpAny_setItem_pairs (hsz:=hz) (qW ry) dd fun h' dd' hs=>h _ ?_
  have he:∃ q,h'.get? a=some q:=let ⟨q,_,_,hq,_⟩:=dd';⟨q,hq⟩
  exact qB I (by rw [e];exact True.intro) hs he (kU hl hd (rel.put k rv) dd')
 ·subst ey eH
  cases (show u=Value.ref b from ry)
  obtain ⟨z,hd,xs,rel,dd⟩:=zGA I.hok e
  have hz:xs.length <= sizeLine:=by rw [<- Paired.length rel];exact z
  have hl:(vC kvs k v).length <= sizeLine:=by have:=v8 kvs k v;omega
  refine wpAny_setItem_heap (hsz:=hz) (tupleKind_room_in1 hu) (qV I.hok eb) dd fun h' dd' hs=>h _ ?_
  obtain ⟨q,es,ep,hq,h2,h3,h4,_,h5⟩:=dd'
  refine qB I (by rw [e];exact True.intro) hs ⟨q,hq⟩ ⟨hl,hd,_,(rel.put k eb rv).keeps fun c ys ec=>?_,q,es,ep,hq,h2,h3,h4,h5⟩
  rw [zJ (xR ec e (fun z=>nomatch z))]
  exact ec
end
section
variable {X:Cx} {pins:List (Addr × Obj)} {σ:St} {H:Hp} {s:Shared} {a:Addr} {kvs:List (Key × V)} {k:Key} {u:Value} {A:Around} {E:Value->Shared->Prop}
end
def zGF (i:Expr):Prop:=∀ ov iv,subscripted i false ov iv=operate [ov,iv] (getItem ov iv)
theorem bQ {prog:Program} {w:World} {A:Around} {E:Value->Shared->Prop} {s:Shared} {env:Env} {value slice:Expr} {pos:Pos} {T id:String} {Q:Value->Shared->Prop}
  (hl:typeLookup (.type T) "__getitem__"=pure (some (.builtin id))) (hs:zGF slice)
  (h:wpAny (model prog w) A (eval value env) (fun o s₁=>wpAny (model prog w) A (eval slice env) (fun i s₂=>s₂.TypeIs o T/\wpAny (model prog w) A (getItem o i) Q E s₂) E s₁) E s) :
  wpAny (model prog w) A (eval (.Subscript value slice pos) env) Q E s:=by
 refine Subscript_ (wpAny_mono h (fun o s₁ h₁=>wpAny_mono h₁ (fun i s₂ h₂=>?_) fun _ _ x=>x) fun _ _ x=>x)
 obtain ⟨hT,h₂⟩:=h₂
 unfold subscriptTail
 refine wpAny_bind ?_
 rw [getitemInPython_of_ne hT.not_modules]
 refine wpAny_bind (wpAny_specialOf hT hl ?_)
 have fin:wpAny (model prog w) A (subscripted slice false o i) (fun r s₃=>wpAny (model prog w) A (letTemporaryGo value o r >>= fun _=>pure r) Q E s₃) E s₂:=by
  rw [hs o i]
  exact wpAny_operating (wpAny_mono h₂ (fun r s₃ h₃=>wpAny_bind (wpAny_letTemporaryGo (wpAny_pure h₃))) fun _ _ x=>x)
 first
  | exact wpAny_pure (wpAny_bind fin)
  | exact wpAny_bind (wpAny_pure (wpAny_bind fin))
  | exact wpAny_bind fin
theorem lE {X:Cx} {pins:List (Addr × Obj)} {σ:St} {H:Hp} {s:Shared} {a:Addr} {y:V} {o:Option V} (I:Inv X pins σ H s) (g:u8 H a y o):s.TypeIs (.ref a) "dict":=by
 rcases g with ⟨kvs,k,e,_,_⟩ | ⟨kvs,k,b,e,_,_,_⟩
 ·obtain ⟨_,_,vs,_,dd⟩:=lC I.hok e
  exact dd.typeIs
 ·obtain ⟨_,_,xs,_,dd⟩:=lB I.hok e
  exact dd.typeIs
def zD8 (td ty:TE):TE:=fun σ H Q=>td σ H fun x H1=>ty σ H1 fun y H2=>∃ a v,x=.ref a/\u8 H2 a y (some v)/\Q v H2
def tDIn (ty td:TE):TE:=fun σ H Q=>ty σ H fun y H1=>td σ H1 fun x H2=>∃ a o,x=.ref a/\u8 H2 a y o/\Q (.bl o.isSome) H2
def bP (ty td:TE):TE:=fun σ H Q=>ty σ H fun y H1=>td σ H1 fun x H2=>∃ a o,x=.ref a/\u8 H2 a y o/\Q (.bl (!o.isSome)) H2
def zE8 (td ty tv:TE):TS:=fun D σ H=>tv σ H fun v H1=>td σ H1 fun x H2=>ty σ H2 fun y H3=>∃ a H4,x=.ref a/\bM H3 a y v H4/\D.nx σ H4
section
variable {X:Cx} {o i e value:Expr} {pos pos' tpos:Pos} {td ty tv:TE}
theorem y6 (hu:X.A.units + 1 < cLine) (ho:PE X o td) (hi:PE X i ty) (hs:zGF i):PE X (.Subscript o i pos) (zD8 td ty):=by
 intro pins s σ H Q I h
 refine bQ PySem.F.slot_dict_getitem.lookup hs (thn (ho pins s σ H _ I h) fun u s1 hz41=>?_)
 obtain ⟨x,H1,I1,rx,q1⟩:=hz41
 refine thn (hi pins s1 σ H1 _ I1 q1) fun iv s2 hz42=>?_
 obtain ⟨y,H2,I2,ry,a,v,ex,g,q2⟩:=hz42
 subst ex
 obtain rfl:u=Value.ref a:=rx
 exact ⟨lE I2 g,gO hu I2 g ry fun w' s3 I3 rw'=>⟨v,H2,I3,rw',q2⟩⟩
theorem zCX (hu:X.A.units + 1 < cLine) (hi:PE X i ty) (ho:PE X o td):PC X .In i o (tDIn ty td):=by
 intro pins s σ H Q I h
 refine thn (hi pins s σ H _ I h) fun iv s1 hz43=>?_
 obtain ⟨y,H1,I1,ry,q1⟩:=hz43
 refine thn (ho pins s1 σ H1 _ I1 q1) fun u s2 hz44=>?_
 obtain ⟨x,H2,I2,rx,a,ov,ex,g,q2⟩:=hz44
 subst ex
 obtain rfl:u=Value.ref a:=rx
 exact d_in hu I2 g ry fun s3 I3=>⟨.bl ov.isSome,H2,I3,rfl,q2⟩
theorem i6 (hu:X.A.units + 1 < cLine) (hi:PE X i ty) (ho:PE X o td):PC X .NotIn i o (bP ty td):=by
 intro pins s σ H Q I h
 refine thn (hi pins s σ H _ I h) fun iv s1 hz45=>?_
 obtain ⟨y,H1,I1,ry,q1⟩:=hz45
 refine thn (ho pins s1 σ H1 _ I1 q1) fun u s2 hz46=>?_
 obtain ⟨x,H2,I2,rx,a,ov,ex,g,q2⟩:=hz46
 subst ex
 obtain rfl:u=Value.ref a:=rx
 exact zA0 hu I2 g ry fun s3 I3=>⟨.bl (!ov.isSome),H2,I3,rfl,q2⟩
theorem uI (hu:X.A.units + 1 < cLine) (ho:PE X o td) (hi:PE X i ty) (hv:PE X value tv) (hs:swapsWith value (some (.Subscript o i pos')) pos.line X.env=pure false) :
  PS X (.Assign [.Subscript o i pos'] value pos) (zE8 td ty tv):=by
 intro pins s σ H D I h
 refine wpAny_Assign_Subscript (thn (hv pins s σ H _ I h) fun r s1 hz47=>?_) hs
 obtain ⟨v,H1,I1,rv,q1⟩:=hz47
 refine thn (ho pins s1 σ H1 _ I1 q1) fun u s2 hz48=>?_
 obtain ⟨x,H2,I2,rx,q2⟩:=hz48
 refine thn (hi pins s2 σ H2 _ I2 q2) fun iv s3 hz49=>?_
 obtain ⟨y,H3,I3,ry,a,H4,ex,g,q3⟩:=hz49
 subst ex
 obtain rfl:u=Value.ref a:=rx
 exact gN hu I3 g ry rv fun s4 I4=>⟨σ,H4,I4,q3⟩
end
theorem lD {P:Program} {w:World} {H:Hp} (h:Heap) (hb:sysModules < h.objs.size):xP P w H (h.push { cls:=.type "dict",data:=.dict #[] }) h.objs.size (.dK []):=
 ⟨zGR _,beq_eq_false_iff_ne.mpr (Ne.symm (zG8 hb)),[],.nil,Heap.DictOf.new h⟩
section
variable {X:Cx} {pos:Pos}
end
def lS:List (TE × TE)->St->Hp->(List (V × V)->Hp->Prop)->Prop
 | [],_,H,Q=>Q [] H
 | (tk,tv) :: r,σ,H,Q=>tk σ H fun x H1=>tv σ H1 fun y H2=>lS r σ H2 fun ps H3=>Q ((x,y) :: ps) H3
abbrev VV:List (V × V)->List (Value × Value)->Prop:=Paired fun p q=>yN p.1 q.1/\yN p.2 q.2
def PPs (X:Cx) (pos:Pos) (keys:List (Option Expr)) (values:List Expr) (trs:List (TE × TE)):Prop:=
 ∀ (pins:List (Addr × Obj)) (s:Shared) (σ:St) (H:Hp) (Q:List (V × V)->Hp->Prop),Inv X pins σ H s->lS trs σ H Q ->
  wpAny (model X.prog X.w) X.A (evalPairs (pairTrees keys values X.env pos)) (fun vs s'=>∃ ps H',Inv X pins σ H' s'/\VV ps vs/\Q ps H') X.xe s
theorem aO {X:Cx} {pos:Pos}:PPs X pos [] [] []:=fun pins s σ H Q I h=>pairTrees_nil_walk ⟨[],H,I,.nil,h⟩
theorem sA {X:Cx} {pos:Pos} {k v:Expr} {ks:List (Option Expr)} {vs:List Expr} {tk tv:TE} {trs:List (TE × TE)} (hk:PE X k tk) (hv:PE X v tv) (hr:PPs X pos ks vs trs) :
  PPs X pos (some k :: ks) (v :: vs) ((tk,tv) :: trs):=fun pins s σ H Q I h=>
 pairTrees_cons_walk (thn (hk pins s σ H _ I h) fun u s1 ⟨x,H1,I1,rx,q1⟩=>thn (hv pins s1 σ H1 _ I1 q1) fun w2 s2 ⟨y,H2,I2,ry,q2⟩=>
  thn (hr pins s2 σ H2 _ I2 q2) fun ws s3 ⟨ps,H3,I3,rel,q3⟩=>⟨(x,y) :: ps,H3,I3,.cons ⟨rx,ry⟩ rel,q3⟩)
noncomputable def qS (kvs more:List (Key × V)):List (Key × V):=more.foldl (fun acc kv=>vC acc kv.1 kv.2) kvs
theorem KV.merge:∀ {more:List (Key × V)} {rs:List (Key × Value)} {kvs:List (Key × V)} {vs:List (Key × Value)},KV more rs->KV kvs vs->KV (qS kvs more) (merged vs rs):=by
 intro more rs kvs vs r
 unfold KV at r
 induction r generalizing kvs vs with
 | nil=>intro q;exact q
 | @cons p q ps qs h t ih=>
  intro r0
  have e:KV (vC kvs p.1 p.2) (stored vs q.1 q.2):=by
   have:=r0.put p.1 h.2
   rw [<- h.1];exact this
  exact ih e
theorem tJ:∀ (more kvs:List (Key × V)),(qS kvs more).length <= kvs.length + more.length
 | [],kvs=>by show kvs.length <= kvs.length + 0;omega
 | p :: r,kvs=>by
  have h1:=tJ r (vC kvs p.1 p.2)
  have h2:=v8 kvs p.1 p.2
  show (qS (vC kvs p.1 p.2) r).length <= _
  rw [zG2];omega
theorem pC {P:Program} {w:World}:∀ {kvs:List (Key × V)} {ws:List (Value × Value)},VV (kvs.map fun kv=>(kV kv.1,kv.2)) ws->∃ rs,Carries (x0 P w) ws rs/\KV kvs rs
 | [],_,r=>by rw [List.map_nil] at r;cases r;exact ⟨[],True.intro,.nil⟩
 | p :: kvs,_,r=>by
  rw [List.map_cons] at r
  cases r with
  | @cons a b as bs h t=>
   obtain ⟨rs,c,q⟩:=pC (P:=P) (w:=w) t
   obtain ⟨b1,b2⟩:=b
   exact ⟨(p.1,b2) :: rs,⟨qW h.1,rfl,c⟩,.cons ⟨rfl,h.2⟩ q⟩
def zD7 (trs:List (TE × TE)):TE:=fun σ H Q=>∀ p,H p=none->lS trs σ (upd H p (.dK [])) fun ps H2=>H2 p=some (.dK [])/\∃ kvs:List (Key × V),ps=kvs.map (fun kv=>(kV kv.1,kv.2))/\kvs.length <= 15/\Q (.ref p) (upd H2 p (.dK (qS [] kvs)))
theorem aT {X:Cx} {pos:Pos} {keys:List (Option Expr)} {values:List Expr} {trs:List (TE × TE)} (h:PPs X pos keys values trs) (hall:keys.all (·.isSome)=true) (hl:keys.length=values.length) (h0:keys ≠ [])
  (h15:keys.length <= 15):PE X (.Dict keys values pos) (zD7 trs):=by
 intro pins s σ H Q I q
 have hn:=I.hok.fresh (zGQ s.heap.objs.size)
 have I1:=I.laid (a:=s.heap.objs.size) (o:=.dK []) (h':=s.heap.push { cls:=.type "dict",data:=.dict #[] }) (t':=s.toks) (fun _ _ q=>Heap.get?_push_of_some _ q) (zGQ _) (lD s.heap I.big)
 refine wpAny_Dict_walk (knd:=x0 X.prog X.w) hall hl h0 h15 (thn (h pins _ σ _ _ I1 (q _ hn)) fun ws s2 hz50=>?_)
 obtain ⟨ps,H2,I2,rel,e,kvs,ep,lk,q2⟩:=hz50
 subst ep
 obtain ⟨rs,c,rk⟩:=pC (P:=X.prog) (w:=X.w) rel
 obtain ⟨z,hd,vs0,r0,dd⟩:=cT I2.hok e
 cases r0
 refine ⟨rs,c,dd,fun h' dd' hs=>⟨.ref s.heap.objs.size,_,?_,rfl,q2⟩⟩
 have hz:(qS [] kvs).length <= sizeLine:=by
  have h1:=tJ kvs []
  rw [List.length_nil] at h1
  rw [sizeLine_eq];omega
 have he:∃ q,h'.get? s.heap.objs.size=some q:=let ⟨q,_,_,hq,_⟩:=dd';⟨q,hq⟩
 exact qB I2 (by rw [e];exact True.intro) hs he (kU hz hd (rk.merge .nil) dd')
section
variable {X:Cx} {pins:List (Addr × Obj)} {σ:St} {H:Hp} {s:Shared} {a:Addr} {y d:V} {u r:Value} {o:Option V} {A:Around} {E:Value->Shared->Prop}
end
section
variable {X:Cx} {o e f:Expr} {apos cpos:Pos} {td ty tx:TE}
end
section
variable {X:Cx} {pins:List (Addr × Obj)} {σ:St} {H:Hp} {s:Shared} {a:Addr} {kvs:List (Key × V)} {A:Around} {E:Value->Shared->Prop}
end
section
variable {X:Cx} {pins:List (Addr × Obj)} {σ:St} {H:Hp} {s:Shared} {a:Addr} {y:V} {u:Value} {A:Around} {E:Value->Shared->Prop}
end
end L2
namespace Att
open PySem PySem.W PySem.Calls PyProof.Rows
theorem ints_of_wellAll {P:Params} {h:Heap}:∀ (ns:List Int) (vs:List Value),WellAll P h vs (ns.map WData.int)->IntsAre vs ns:=by
 intro ns
 induction ns with
 | nil=>
  intro vs w
  rw [List.map_nil] at w
  cases w
  exact .nil
 | cons n ns ih=>
  intro vs w
  rw [List.map_cons] at w
  cases w with
  | cons a b=>
   cases a
   exact .cons _ _ (ih _ b)
theorem script_of {l:OpenLaw} {n:Nat} (hn:l.most=some n) {P:Params} {h:Heap} {args:List WData} {vals:List Value}
  (hpre:l.row.toRowW.claim.pre args=true) (hwl:WellAll P h vals args) :
  ∃ a vs ns,vals=[Value.ref a]/\args=[WData.list (ns.map WData.int)]/\h.get? a=some { cls:=.type "list",data:=.seq vs.toArray }/\IntsAre vs ns/\ns.length <= n:=by
 have hsh:WShape.hasAll [] args [.list .int]=true:=(pre_splitW hpre).1
 have hc:l.pre.holds [] { args:=args }=true:=(pre_splitW hpre).2
 obtain ⟨d,r,rfl,h1,h2⟩:=hasAllW_cons hsh
 obtain rfl:=hasAllW_nil h2
 obtain ⟨xs,rfl,h3⟩:=hasW_list h1
 obtain ⟨ns,rfl⟩:=items_int h3
 have hlen:ns.length <= n:=by
  unfold OpenLaw.pre at hc
  have h4:(WTm.not (.lt (.lit (.int (n:Int))) (.len (.arg 0)))).holds [] { args:=[.list (ns.map .int)] }=true:=by
   have h4:=(holds_andW hc).1
   rw [hn] at h4
   exact h4
  have h5:=condW_of h4 (w_not (w_lt w_lit (w_len_list (w_arg rfl))))
  rw [zGH] at h5
  refine Nat.le_of_not_lt fun q=>?_
  have q':(n:Int) < ((ns.length:Nat):Int):=by omega
  first
   | (rw [zGW q'] at h5;exact absurd h5 (by decide))
   | (simp at h5;omega)
 cases hwl with
 | cons w1 w2=>
  cases w2
  cases w1 with
  | list ho hall=>exact ⟨_,_,ns,rfl,rfl,ho,ints_of_wellAll ns _ hall,hlen⟩
theorem post_true (l:OpenLaw) (args:List WData):l.row.toRowW.claim.post args (.bool true) args=true:=
 postW_of (r:=l.row.toRowW) (X:=(true == true))
  (show WShape.has [] (.bool true) .bool=true by first | rfl | decide | simp [WShape.has,WShape.arms,WShape.armsAll])
  (show (WTm.eq .res (.lit (.bool true))).value [] { args:=args,res:=some (.bool true),after:=args }=some (.bool (true == true)) from w_eq_bool (w_res rfl) w_lit) rfl
theorem attach_call {l:OpenLaw} {n:Nat} {q:Program} {loose:List Str} {XP:(Str->Option Value)->Heap->Prop} {YP:World->Heap->Prop} {d:DefRec}
  (hn:l.most=some n) (hdf:d.params.defaults=[])
  (call:∀ (w:World) (s₀ s₁:Shared) (mg mb:Str->Option Value) (fa:Addr) (o:Obj) (pm cd doc:Value) (a:Addr) (vs:List Value) (ns:List Int),
   Ground q loose [] XP w s₀ mg mb s₁.heap->YP w s₁.heap ->
   s₁.heap.get? fa=some o->o.data=.func (docDef d.name d.params d.body d.scope pm cd doc)->s₁.heap.CodeRec cd d.name->mg d.name=some (.ref fa) ->
   s₁.heap.get? a=some { cls:=.type "list",data:=.seq vs.toArray }->IntsAre vs ns->ns.length <= n->s₁.gens = #[] ->
   codeAny (model l.prog w) callerA (.call (.ref fa) ⟨[.ref a],[]⟩) (fun r s'=>r=.ok (.ret (.bool true))/\OldK s₁.heap s'.heap/\s'.os=s₁.os/\AllBare s'.gens) s₁) :
  WalkO q loose XP YP l.row.toRowW d [] (fun f vs=>PySem.call f vs):=by
 intro w s₀ s₁ mg mb G Y fa o pm cd doc dV kV ho hd hcd hD hmg hg args vals as hpre hlay hrd hwl hlo
 obtain rfl:dV=.none:=Dflts.none hD hdf
 obtain rfl:kV=.none:=Dflts.noKw hD
 obtain ⟨a,vs,ns,rfl,rfl,hobj,hints,hlen⟩:=script_of hn hpre hwl
 refine enter_call (codeAny_mono (call w s₀ s₁ mg mb fa o pm cd doc a vs ns G Y ho (fd_plain hd) hcd hmg hobj hints hlen hg) fun r s' hq=>?_)
 obtain ⟨rfl,h2,h3,h4⟩:=hq
 exact ⟨.inl ⟨.bool true,.bool true,[],rfl,fun _=>rfl,.bool true,post_true l _,fun _=>⟨List.Pairwise.nil,fun _ hm=>(nomatch hm)⟩⟩,h2,h3,h4⟩
section
variable {prog:Program} {w:World} {A:Around} {E:Value->Shared->Prop} {s:Shared} {K:Frag}
end
end Att
namespace L2
open PySem PySem.Spec PyProof.Rows
theorem iP {vs:List Value} {ns:List Int} (h:IntsAre vs ns):yI (ns.map V.int) vs:=by
 induction h with
 | nil=>exact .nil
 | cons n t _ ih=>exact .cons ⟨t,rfl⟩ ih
def zD0 (H:Hp):Prop:=∀ b,H b=none \/ ∃ o xs,H b=some (.frz o (.lst xs))
theorem d8 {P:Program} {w:World} {K:PySem.W.Frag} {mg mb:Str->Option Value} {CX:CXT} {k:Nat} {fa a:Addr} {fd:FuncData} {x:Str} {sp:Sp} {s₁:Shared} {vs:List Value} {ns:List Int}
  (KX:K.In s₁.heap) (hns:s₁.heap.Ns mainGlobals mg) (hb:s₁.heap.Ns builtinsNs mb) (hbb:∀ x:Str,x ≠ "__name__"->mb x=bootBuiltins x) (hlim:s₁.heap.NoLimit) (hg:s₁.gens = #[])
  (ha:s₁.heap.get? a=some { cls:=.type "list",data:=.seq vs.toArray }) (hi:IntsAre vs ns) (hl:ns.length <= sizeLine) (hr:yB k callerA)
  (F:∀ base:Heap,K.In base->base.Ns mainGlobals mg->uY P w K mg base CX k fa fd [x] sp) (hbind:∀ (s:Shared) (u:Value),BindsTo s fd ⟨[u],[]⟩ [(x,u)])
  (hsp:∀ H:Hp,zD0 H->SqL K H a (ns.map V.int)->sp [.ref a] H (fun v _=>v=.bl true) fun _ _ _=>False)
  (hCX:∀ H e s',CX [] H s₁ (fun _ _ _=>False) e s'->False) :
  codeAny (model P w) callerA (.call (.ref fa) ⟨[.ref a],[]⟩) (fun r s'=>r=.ok (.ret (.bool true))/\OldK s₁.heap s'.heap/\s'.os=s₁.os/\AllBare s'.gens) s₁:=by
 have rv:=iP hi
 have lenV:=hi.length
 have core:∀ H:Hp,zD0 H->SqL K H a (ns.map V.int)->HOk P w H s₁.heap->(∀ b,H b ≠ none->b=a)->(H a ≠ none->K.lookup a=none) ->
   codeAny (model P w) callerA (.call (.ref fa) ⟨[.ref a],[]⟩) (fun r s'=>r=.ok (.ret (.bool true))/\OldK s₁.heap s'.heap/\s'.os=s₁.os/\AllBare s'.gens) s₁:=by
  intro H hO hS hok hA hK
  have base_of:∀ {b:Addr} {o:Obj},s₁.heap.get? b=some o->H b=none->(nG s₁.heap H).get? b=some o:=fun e n=>cF e n
  have noA:∀ {b:Addr} {o:Obj} {es:Array DictEntry} {ep:Nat},s₁.heap.get? b=some o->o.data=.dict es ep->H b=none:=fun {b o es ep} e d=>by
   cases q:H b with
   | none=>rfl
   | some u=>
    have e':b=a:=hA b (by rw [q];simp)
    subst e'
    rw [ha] at e;cases e
    have d':Data.seq vs.toArray _=Data.dict es ep:=d
    cases d'
  have nsK:∀ {b:Addr} {m:Str->Option Value},s₁.heap.Ns b m->(nG s₁.heap H).Ns b m:=fun {b m} ⟨o,es,ep,e,d,r⟩=>⟨o,es,ep,base_of e (noA e d),d,r⟩
  have hKb:K.In (nG s₁.heap H):=fun b o e=>base_of (KX b o e) (by
   cases q:H b with
   | none=>rfl
   | some u=>
    have e':b=a:=hA b (by rw [q];simp)
    subst e'
    rw [hK (by rw [q];simp)] at e;cases e)
  have hM:Mod K mg (nG s₁.heap H):=⟨hKb,nsK hns,⟨mb,nsK hb,hbb⟩,let ⟨mc,h1,h2⟩:=hlim;⟨mc,nsK h1,h2⟩⟩
  have e0:jD P w K mg (nG s₁.heap H) callerA [] s₁ H:=⟨rfl,hM,fun b o e=>zAF e,Nat.le_of_eq (gG _ _),trivial,fun b hb=>absurd (show b ∈ ([]:List Addr) from hb) (by simp),hok,.of_eq hg⟩
  refine codeAny_mono ((F _ hKb (nsK hns)).run callerA [] s₁ H ⟨[.ref a],[]⟩ [.ref a] [.ref a] _ _ hr e0 (hbind s₁ (.ref a)) (.cons rfl .nil) (hsp H hO hS)) fun r s' h=>?_
  cases r with
  | error e=>exact (hCX H e s' h).elim
  | ok fl=>
   cases fl with
   | next=>exact False.elim h
   | brk=>exact False.elim h
   | cont=>exact False.elim h
   | ret u=>
    obtain ⟨v,H',os,bare,un,hok',r',q⟩:=h
    have q':v=.bl true:=q
    subst q'
    obtain rfl:u=Value.bool true:=r'
    refine ⟨rfl,OldK.of_keep fun b o e=>?_,os,bare⟩
    cases q:H b with
    | none=>exact un.keep b o e q (by intro z;exact absurd (show b ∈ ([]:List Addr) from z) (by simp)) (by simp)
    | some u=>
     rcases hO b with z | ⟨ob,xs,z⟩
     ·rw [q] at z;cases z
     ·have z2:=un.frzs b ob _ z
      obtain ⟨e1,_⟩:=hok b _ z
      obtain ⟨e2,_⟩:=hok' b _ z2
      rw [e] at e1;cases e1
      exact e2
 cases hk:K.lookup a with
 | some o=>
  have e:=KX a o hk
  rw [ha] at e
  cases e
  refine core (fun _=>none) (fun _=>.inl rfl) (.inr ⟨_,vs.toArray,_,hk,rfl,rfl,rfl,by rw [zGP,lenV];exact hl,by simpa using rv⟩) (fun b u z=>by have z':(none:Option HO)=some u:=z;cases z') (fun b z=>absurd rfl z) fun z=>absurd rfl z
 | none=>
  refine core (fun b=>if b=a then some (.frz { cls:=.type "list",data:=.seq vs.toArray } (.lst (ns.map V.int))) else none) (fun b=>?_) (.inl (.inr ⟨{ cls:=.type "list",data:=.seq vs.toArray },if_pos rfl⟩)) (fun b u z=>?_) (fun b z=>?_) fun _=>hk
  ·by_cases hb:b=a
   ·exact .inr ⟨_,_,if_pos hb⟩
   ·exact .inl (if_neg hb)
  ·by_cases hb:b=a
   ·have z':=(if_pos hb).symm.trans z
    cases z'
    subst hb
    exact ⟨ha,by rw [zGH];exact hl,vs,_,rv,ha⟩
   ·have z':=(if_neg hb).symm.trans z
    cases z'
  ·by_cases hb:b=a
   ·exact hb
   ·exact absurd (if_neg hb) z
end L2
namespace L2
open PySem PySem.Spec PyProof.Rows
theorem walk_of {l:PySem.W.OpenLaw} {n k:Nat} {q:Program} {loose:List Str} {XP:(Str->Option Value)->Heap->Prop} {YP:World->Heap->Prop} {d:DefRec} {K:Params->PySem.W.Frag} {CX:World->CXT} {sp:World->Sp} {x:Str}
  (hn:l.most=some n) (hn2:n <= sizeLine) (hdf:d.params.defaults=[]) (hr:yB k callerA)
  (hY:∀ (w:World) (h:Heap),YP w h->(K w.params).In h)
  (F:∀ (w:World) (mg:Str->Option Value) (fa:Addr) (h:Heap),(K w.params).In h->h.Ns mainGlobals mg->mg d.name=some (.ref fa) ->
   ∃ fd:FuncData,(∀ (s:Shared) (u:Value),BindsTo s fd ⟨[u],[]⟩ [(x,u)]) /\
    ∀ base:Heap,(K w.params).In base->base.Ns mainGlobals mg->uY l.prog w (K w.params) mg base (CX w) k fa fd [x] (sp w))
  (hsp:∀ (w:World) (H:Hp) (a:Addr) (ns:List Int),ns.length <= n->zD0 H->SqL (K w.params) H a (ns.map V.int)->sp w [.ref a] H (fun v _=>v=.bl true) fun _ _ _=>False)
  (hCX:∀ (w:World) (H:Hp) (s:Shared) (e:Value) (s':Shared),CX w [] H s (fun _ _ _=>False) e s'->False) :
  PySem.W.WalkO q loose XP YP l.row.toRowW d [] (fun f vs=>PySem.call f vs):=by
 refine Att.attach_call hn hdf fun w s₀ s₁ mg mb fa o pm cd doc a vs ns G Y ho hd hcd hmg hobj hints hlen hg=>?_
 have KX:=hY w _ Y
 obtain ⟨fd,hb,hF⟩:=F w mg fa _ KX G.T.g hmg
 exact d8 KX G.T.g G.T.b G.T.builtins G.T.nolimit hg hobj hints (zGS hlen hn2) hr hF hb (fun H hO hS=>hsp w H a ns hlen hO hS) fun H e s'=>hCX w H s₁ e s'
end L2
namespace L2
open PySem PySem.Spec PyProof.Rows
def yL (s:Stmt) (j:Nat):Stmt:=match s with
 | .ClassDef _ _ _ body _ _ _ _ _ _ _=>body.getD j (.Pass ⟨0,0,0,0⟩)
 | _=>.Pass ⟨0,0,0,0⟩
noncomputable def wF (s:Stmt):Arguments:=match s with
 | .FunctionDef _ a _ _ _ _ _ _ _ _=>a
 | _=>{ posonlyargs:=[],args:=[],vararg:=none,kwonlyargs:=[],kw_defaults:=[],kwarg:=none,defaults:=[] }
noncomputable def xT (s:Stmt):List Stmt:=match s with
 | .FunctionDef _ _ b _ _ _ _ _ _ _=>b
 | _=>[]
noncomputable def zG (s:Stmt):Scope:=match s with
 | .FunctionDef _ _ _ _ _ _ sc _ _ _=>sc
 | _=>{ kind:=.function,names:=[],isGenerator:=false,isCoroutine:=false }
abbrev CX0:CXT:=fun _ _ _ _ _ _=>False
abbrev E0:XK:=fun _ _ _=>False
theorem j8 {X:Cx}:tY CX0 X E0:=fun _ _ _ _ _ _ _ h=>h.elim
structure Fun (K:PySem.W.Frag) (x qual:Str) (st:Stmt) (f:Addr) (fd:FuncData):Prop where
 ex:∃ (oc:Value) (od:Option Addr) (kV doc pm:Value) (an:Option Addr) (cdv ct:Value) (osl:Array (Option Value)),
  fd=PySem.W.fnOf x qual (wF st) (xT st) (zG st) .none kV doc pm an cdv ct/\K.lookup f=some ⟨oc,od,.func fd,osl⟩/\PySem.W.codeIn K cdv qual=true
 kp:PySem.W.keepIn K (.ref f)=true
section
variable {P:Program} {w:World} {K:PySem.W.Frag} {mg:Str->Option Value} {base:Heap}
theorem Fun.ok {x qual:Str} {st:Stmt} {f:Addr} {fd:FuncData} {N ps:List Str} {k:Nat} {sp:Sp} (F:Fun K x qual st f fd) (S:zN N ps (zG st)) (len:∀ vs H Q E,sp vs H Q E->vs.length=ps.length)
  (hbody:∀ (cdv:Value) (A:Around) (outer:List Env) (s:Shared) (H:Hp) (vs:List V) (Q:VK) (E:XK),yB k (A.deeper (envOfC qual (zG st) s.heap.objs.size f cdv))->sp vs H Q E ->
   ∃ t,PSs (lF CX0 P w K mg base N qual (zG st) f cdv A outer s H E).nox (xT st) t/\t { nx:=fun _ H'=>Q .non H',rt:=Q } (start N vs) H):uY P w K mg base CX0 (k + 1) f fd ps sp:=by
 obtain ⟨oc,od,kV,doc,pm,an,cdv,ct,osl,rfl,lk,hcd⟩:=F.ex
 refine zF6 lk hcd S len fun A outer s H vs Q E hr hsp=>?_
 obtain ⟨t,h,q⟩:=hbody cdv A outer s H vs Q E hr hsp
 exact ⟨t,h.nox,q⟩
theorem Fun.binds {x qual:Str} {st:Stmt} {f:Addr} {fd:FuncData} {ps:List Str} (F:Fun K x qual st f fd)
  (h:∀ (kV doc pm:Value) (an:Option Addr) (cdv ct:Value) (us:List Value),us.length=ps.length->bindArgs (PySem.W.fnOf x qual (wF st) (xT st) (zG st) .none kV doc pm an cdv ct) ⟨us,[]⟩=pure (ps.zip us)):uA K fd ps []:=by
 obtain ⟨oc,od,kV,doc,pm,an,cdv,ct,osl,rfl,lk,hcd⟩:=F.ex
 exact .all (h kV doc pm an cdv ct)
theorem tV {x qual:Str} {st:Stmt} {f:Addr} {oc:Value} {od an:Option Addr} {osl:Array (Option Value)} {kV doc pm cdv ct:Value} (l:K.lookup f=some ⟨oc,od,.func (PySem.W.fnOf x qual (wF st) (xT st) (zG st) .none kV doc pm an cdv ct),osl⟩)
  (c:PySem.W.codeIn K cdv qual=true) (k:PySem.W.keepIn K (.ref f)=true):Fun K x qual st f (PySem.W.fnOf x qual (wF st) (xT st) (zG st) .none kV doc pm an cdv ct):=⟨⟨oc,od,kV,doc,pm,an,cdv,ct,osl,rfl,l,c⟩,k⟩
end
theorem v9 {A:Around} {k:Nat} (hr:yB k A):A.units + 1 < cLine:=Nat.lt_of_le_of_lt (Nat.add_le_add_left (by decide:1 <= 64) _) hr.units
theorem iS {n:Nat} (h:n <= 1000):n < sizeLine:=Nat.lt_of_le_of_lt h (by decide)
section
variable {X:Cx}
theorem pv (i:Nat) {x:Str} {pos:Pos} (hN:X.N[i]?=some x:=by rfl) (hv:Vis X.env.scope x:=by first | exact Or.inl rfl | exact Or.inr (Or.inl rfl) | exact Or.inr (Or.inr rfl)) (hd:(x == ("__debug__" : Str))=false:=by decide)
  (hcd:(x == ("__classdict__" : Str))=false:=by decide):PE X (.Name x pos) (uX i):=zCT hN hv hd hcd
end
theorem kP {A B:Prop} (h:B):if false=true then A else B:=by
 rw [if_neg zG9]
 exact h
theorem gC {A B:Prop} (h:A):if true=true then A else B:=by
 rw [if_pos rfl]
 exact h
theorem gD {c A B:Prop} [Decidable c] (h1:c->A) (h2:¬ c->B):if c then A else B:=by
 by_cases h:c
 ·rw [if_pos h]
  exact h1 h
 ·rw [if_neg h]
  exact h2 h
def zDZ (H H':Hp):Prop:=∀ b o,H b=some o->H' b=some o
theorem zDZ.seq {K:PySem.W.Frag} {H H':Hp} {a:Addr} {xs:List V} (e:zDZ H H') (h:SqL K H a xs):SqL K H' a xs:=by
 rcases h with (h | ⟨o,h⟩) | h
 ·exact .inl (.inl (e _ _ h))
 ·exact .inl (.inr ⟨o,e _ _ h⟩)
 ·exact .inr h
end L2
set_option maxHeartbeats 4000000
namespace L2
open PySem PySem.Spec PyProof.Rows
noncomputable def clF (env:Env):List (Str × NameKind)->List (Str × Addr)->List (Str × Addr)
 | [],cs=>cs
 | (n,k) :: r,cs=>clF env r (if k == NameKind.free then (n,(env.cells.lookup n).getD 0) :: cs else cs)
theorem zA3 (env:Env):∀ (l:List (Str × NameKind)) (cs:List (Str × Addr)),(∀ n,(n,NameKind.free) ∈ l->(env.cells.lookup n).isSome=true) ->
  (forIn l cs fun x r=>(match x with
   | (name,kind)=>if (kind == NameKind.free)=true then (do let c <- cellOf env name;pure (ForInStep.yield ((name,c) :: r))) else pure (ForInStep.yield r):Sem (ForInStep (List (Str × Addr)))))=pure (clF env l cs):=by
 intro l
 induction l with
 | nil=>intro cs _;rfl
 | cons x l ih=>
  intro cs h
  obtain ⟨n,k⟩:=x
  rw [List.forIn_cons]
  by_cases hk:k=NameKind.free
  ·subst hk
   have h1:=h n zHA
   obtain ⟨c,hc⟩:=Option.isSome_iff_exists.mp h1
   simp only [beq_self_eq_true,if_true,clF,hc,Option.getD_some,cellOf,pure_bind]
   exact ih _ fun m hm=>h m (zGU _ hm)
  ·have hb:(k == NameKind.free)=false:=by simpa using hk
   simp only [hb,Bool.false_eq_true,if_false,clF,pure_bind]
   exact ih _ fun m hm=>h m (zGU _ hm)
theorem w4 {scope:Scope} {env:Env} (h:∀ n,(n,NameKind.free) ∈ scope.names->(env.cells.lookup n).isSome=true) :
  closureFor scope env=pure (clF env scope.names []):=by
 have e:=zA3 env scope.names [] h
 unfold closureFor
 simp only [bind_pure] at e ⊢
 exact e
theorem zA2 (env:Env):∀ (l:List (Str × NameKind)) (cs:List (Str × Addr)),(∀ n,(n,NameKind.free) ∈ l->(env.cells.lookup n).isSome=true) ->
  (∀ y c,cs.lookup y=some c->env.cells.lookup y=some c)->∀ y c,(clF env l cs).lookup y=some c->env.cells.lookup y=some c:=by
 intro l
 induction l with
 | nil=>intro cs _ h;exact h
 | cons x l ih=>
  intro cs h hc
  obtain ⟨n,k⟩:=x
  refine ih _ (fun m hm=>h m (zGU _ hm)) ?_
  by_cases hk:k=NameKind.free
  ·subst hk
   obtain ⟨c,e⟩:=Option.isSome_iff_exists.mp (h n zHA)
   simp only [beq_self_eq_true,if_true,e,Option.getD_some]
   intro y c' q
   rw [List.lookup_cons] at q
   cases hy:y == n with
   | true=>
    rw [hy] at q
    have ey:y=n:=by simpa using hy
    cases q
    rw [ey];exact e
   | false=>
    rw [hy] at q
    exact hc y c' q
  ·have hb:(k == NameKind.free)=false:=by simpa using hk
   simp only [hb,Bool.false_eq_true,if_false]
   exact hc
theorem zA4 (env:Env):∀ (l:List (Str × NameKind)) (cs:List (Str × Addr)) (y:Str),((y,NameKind.free) ∈ l \/ (cs.lookup y).isSome=true)->((clF env l cs).lookup y).isSome=true:=by
 intro l
 induction l with
 | nil=>intro cs y h;exact h.elim (fun z=>by cases z) id
 | cons x l ih=>
  intro cs y h
  obtain ⟨n,k⟩:=x
  refine ih _ y ?_
  rcases h with h | h
  ·rcases List.mem_cons.mp h with e | e
   ·cases e
    right
    simp
   ·exact .inl e
  ·right
   by_cases hk:k=NameKind.free
   ·subst hk
    simp only [beq_self_eq_true,if_true,List.lookup_cons]
    cases hy:y == n <;> simp [h]
   ·have hb:(k == NameKind.free)=false:=by simpa using hk
    simp only [hb,Bool.false_eq_true,if_false]
    exact h
theorem t7 {scope:Scope} {env:Env}:∀ (l:List (Str × NameKind)) (x:Str) (k:NameKind),
  (l.map fun (n,k)=>if (k == NameKind.free && env.scope.kind == .function && env.kindOf n == some .cell) then (n,NameKind.cell) else (n,k)).lookup x=some k->k=.cell \/ k=.free ->
  (∀ y ∈ l,y.2 ≠ .cell)->(x,NameKind.free) ∈ l
 | [],x,k,h,_,_=>by simp at h
 | (n,k') :: r,x,k,h,hk,hc=>by
  rw [List.map_cons,List.lookup_cons] at h
  have hn:(if (k' == NameKind.free && env.scope.kind == .function && env.kindOf n == some .cell)=true then (n,NameKind.cell) else (n,k')).1=n:=by split <;> rfl
  simp only [hn] at h
  cases hx:x == n with
  | true=>
   rw [hx] at h
   have ex:x=n:=by simpa using hx
   subst ex
   simp only [Option.some.injEq] at h
   split at h
   ·rename_i q
    simp only [Bool.and_eq_true,beq_iff_eq] at q
    rw [q.1.1];exact zHA
   ·have h':k'=k:=h
    rcases hk with z | z
    ·exact absurd (h'.trans z) (hc _ zHA)
    ·rw [h',z];exact zHA
  | false=>
   rw [hx] at h
   exact zGU _ (t7 (scope:=scope) r x k h hk fun y hy=>hc y (zGU _ hy))
noncomputable def cxC (X:Cx) (xs:List Str) (ix:List Nat) (scope:Scope) (C:Addr) (fp:List Addr) (s:Shared) (H:Hp):Cx:=
  { X with N:=xs ++ ix.map (fun i=>X.N.getD i ""),s₀:=s,H₀:=H,env:=compEnvC scope (clF X.env scope.names []) C X.env,
           outer:=X.stack,stack:=X.stack,ex:=fp,fn:=fun _=>false,pn:=[],xe:=fun _ _=>False }
noncomputable def stC (xs:List Str) (ix:List Nat) (σ:St):St:=xs.map (fun _=>none) ++ ix.map (fun i=>(σ[i]?).join)
structure x6 (X:Cx) (xs:List Str) (ix:List Nat) (scope:Scope):Prop where
 kind:scope.kind=.function
 nocell:∀ y ∈ scope.names,y.2 ≠ .cell
 loc:∀ y ∈ scope.names,y.2=.local->scope.names.lookup y.1=some .local
 fre:∀ n,(n,NameKind.free) ∈ scope.names->X.env.kindOf n=some .cell \/ X.env.kindOf n=some .free
 own:∀ x ∈ xs,scope.names.lookup x=some .local
 nd:(xs ++ ix.map (fun i=>X.N.getD i "")).Nodup
 inN:∀ i ∈ ix,i < X.N.length
 frx:∀ i ∈ ix,scope.names.lookup (X.N.getD i "")=some .free
theorem t8 {scope:Scope} {env:Env}:∀ (l:List (Str × NameKind)) (x:Str),l.lookup x=some .free ->
  (l.map fun (n,k)=>if (k == NameKind.free && env.scope.kind == .function && env.kindOf n == some .cell) then (n,NameKind.cell) else (n,k)).lookup x=some .cell \/
  (l.map fun (n,k)=>if (k == NameKind.free && env.scope.kind == .function && env.kindOf n == some .cell) then (n,NameKind.cell) else (n,k)).lookup x=some .free
 | [],x,h=>by simp at h
 | (n,k') :: r,x,h=>by
  rw [List.lookup_cons] at h
  rw [List.map_cons,List.lookup_cons]
  have hn:(if (k' == NameKind.free && env.scope.kind == .function && env.kindOf n == some .cell)=true then (n,NameKind.cell) else (n,k')).1=n:=by split <;> rfl
  simp only [hn]
  cases hx:x == n with
  | true=>
   rw [hx] at h
   have h':k'=.free:=zGO h
   subst h'
   by_cases hc:(NameKind.free == NameKind.free && env.scope.kind == .function && env.kindOf n == some .cell)=true
   ·left;simp only [if_pos hc]
   ·right;simp only [if_neg hc]
  | false=>
   rw [hx] at h
   exact t8 (scope:=scope) r x h
theorem u7 {X:Cx} {xs:List Str} {ix:List Nat} {scope:Scope} {pins:List (Addr × Obj)} {σ:St} {H:Hp} {s s1:Shared} {fp:List Addr} {h1:Heap} {tk:Nat}
  (S:x6 X xs ix scope) (I:Inv X pins σ H s) (hf:∀ b ∈ fp,uU X pins H b) (hfo:∀ b ∈ fp,∃ o,s.heap.get? b=some o)
  (hns:h1.Ns s.heap.objs.size (fun _=>none)) (hk:∀ b o,s.heap.get? b=some o->h1.get? b=some o) (e1:s1 = { s with heap:=h1,toks:=tk }) :
  Inv (cxC X xs ix scope s.heap.objs.size fp s H) [] (stC xs ix σ) H s1:=by
 subst e1
 have hcl:∀ n,(n,NameKind.free) ∈ scope.names->(X.env.cells.lookup n).isSome=true:=fun n hn=>by
  obtain ⟨c,e⟩:=I.ok.has n (S.fre n hn)
  rw [e];rfl
 have sub:=zA2 X.env scope.names [] hcl (fun y c q=>by simp at q)
 have has:=fun y hy=>zA4 X.env scope.names [] y (.inl hy)
 have fpl:∀ b ∈ fp,b ∉ frs X.stack:=fun b hb z=>by
  obtain ⟨_,f1,f2,_⟩:=hf b hb
  rcases List.mem_cons.mp (I.stkSub b z) with q | q
  ·exact f1 q
  ·exact f2 q
 have kindR:∀ x k,(cxC X xs ix scope s.heap.objs.size fp s H).env.kindOf x=some k->k=.cell \/ k=.free->(x,NameKind.free) ∈ scope.names:=fun x k e hk'=>
  t7 (scope:=scope) (env:=X.env) scope.names x k e hk' S.nocell
 refine ⟨⟨I.ok.mod,S.kind,I.ok.glob,I.ok.blt,zGQ _,fun x y c a b=>?_,fun x hx=>?_,fun x c z=>(by cases z),I.ok.hd,I.ok.frames,.inl rfl,fun b hb=>?_,I.bs,zGS I.ok.bsz I.sz,fun b o e hb=>?_,fpl,I.stack,I.stkFree⟩,
  rfl,I.bare,Un.kept hk,⟨_,hns,fun i x v e1 e2 e3=>?_⟩,fun x c e=>?_,I.hok.fresh (zGQ _),fun x c e=>I.freeC x c (sub x c e),fun p hp=>absurd (show p ∈ ([]:List (Addr × Obj)) from hp) (by simp),I.hok.kept hk,?_⟩
 ·exact I.ok.inj x y c (sub x c a) (sub y c b)
 ·have hm:(x,NameKind.free) ∈ scope.names:=hx.elim (fun z=>kindR x _ z (.inl rfl)) fun z=>kindR x _ z (.inr rfl)
  exact Option.isSome_iff_exists.mp (has x hm)
 ·obtain ⟨f0,f1,f2,f3,f4,f5⟩:=hf b hb
  obtain ⟨o,ho⟩:=hfo b hb
  exact ⟨fun z=>Nat.lt_irrefl _ (Nat.lt_of_lt_of_eq (Heap.lt_size ho) z.symm),fun x c e=>f4 x c (sub x c e)⟩
 ·obtain ⟨f0,f1,f2,f3,f4,f5⟩:=hf b hb
  rcases f3 with q | q
  ·exact I.ok.noex b o e q
  ·exact Nat.lt_irrefl _ (zG3 (Heap.lt_size e) (zGS I.ok.bsz q))
 ·have e2':(xs.map (fun _=>(none:Option V)) ++ ix.map (fun i=>(σ[i]?).join))[i]?=some (some v):=e2
  have e1':(xs ++ ix.map (fun i=>X.N.getD i ""))[i]?=some x:=e1
  by_cases hi:i < xs.length
  ·rw [zG5 (by simpa using hi),zGN] at e2'
   cases q:xs[i]? with
   | none=>rw [q] at e2';cases e2'
   | some z=>rw [q] at e2';cases e2'
  ·have hi':xs.length <= i:=Nat.not_lt.mp hi
   rw [zG4 (by simpa using hi'),zGH,zGN] at e2'
   rw [zG4 hi',zGN] at e1'
   cases q:ix[i - xs.length]? with
   | none=>rw [q] at e2';cases e2'
   | some j=>
    rw [q] at e1' e2'
    have hj:j ∈ ix:=zGL q
    have ex:X.N.getD j ""=x:=zGO e1'
    have ev:(σ[j]?).join=some v:=zGO e2'
    have hjl:=S.inN j hj
    have eN:X.N[j]?=some x:=by
     rw [<- ex,zGM]
     rw [zGI hjl];rfl
    have eσ:σ[j]?=some (some v):=by
     cases z:σ[j]? with
     | none=>rw [z] at ev;cases ev
     | some y=>rw [z] at ev;simp at ev;rw [ev]
    have hfr:=S.frx j hj
    rw [ex] at hfr
    have hkin:=S.fre x (PySem.mem_of_lookup hfr)
    obtain ⟨m,hn,hl⟩:=I.loc
    obtain ⟨u,ru,lk⟩:=hl j x v eN eσ (hkin.elim (fun z=>.inr (.inl z)) fun z=>.inr (.inr z))
    refine ⟨u,ru,.inr ⟨t8 (scope:=scope) (env:=X.env) scope.names x hfr,?_⟩⟩
    rcases lk with ⟨k1,_⟩ | ⟨_,c,ec,zc⟩
    ·rcases hkin with z | z <;> (rw [z] at k1;cases k1)
    ·obtain ⟨c',ec'⟩:=Option.isSome_iff_exists.mp (has x (PySem.mem_of_lookup hfr))
     have q2:=sub x c' ec'
     rw [ec] at q2;cases q2
     obtain ⟨oc,hoc,hd⟩:=zc
     exact ⟨c,ec',oc,hk c oc hoc,hd⟩
 ·obtain ⟨v,oc,hoc,hd⟩:=I.cell x c (sub x c e)
  exact ⟨v,oc,hk c oc hoc,hd⟩
 ·show (xs.map (fun _=>(none:Option V)) ++ ix.map (fun i=>(σ[i]?).join)).length=(xs ++ ix.map (fun i=>X.N.getD i "")).length
  simp
theorem zAR {prog:Program} {w:World} {A:Around} {R:Result->Shared->Prop} {s:Shared} {elt target iter:Expr} {ifs:List Expr} {scope:Scope} {pos:Pos} {it acc:Value} {env:Env} (J:Nat->Shared->Prop)
  (turn:∀ n s,J n s->wpAny (model prog w) A (pyNext it) (fun r s1=>match r with
   | none=>R (.ok .next) s1
   | some v=>wpAny (model prog w) A (letOwnedTupleGo target it v) (fun _ s1'=>wpAny (model prog w) A (assign target env v) (fun _ s2=>
     wpAny (model prog w) A (forIn ifs true fun c r=>if r=true then do let ok <- isTrue c env (eval c env);pure (ForInStep.yield ok) else pure (ForInStep.yield r)) (fun ok s3=>
      if ok=true then wpAny (model prog w) A (eval elt env) (fun x s4=>
       wpAny (model prog w) A (call (.builtin "list.append") [acc,x]) (fun _ s5=>∃ m,m < n/\J m s5) (fun _ _=>False) s4) (fun _ _=>False) s3
      else ∃ m,m < n/\J m s3) (fun _ _=>False) s2) (fun _ _=>False) s1') (fun _ _=>False) s1) (fun _ _=>False) s)
  (n:Nat) (h:J n s):codeAny (model prog w) A (.compLoop (.ListComp elt [⟨target,iter,ifs,0⟩] scope pos) 0 it acc env) R s:=by
 refine codeAny_loop rfl J (fun n s hJ=>?_) n h
 have nof:∀ (e:Value) (s':Shared),False->notedBy (model prog w) A env (fun e s'=>R (.error e) s') e s':=fun _ _ f=>f.elim
 show wpAny (model prog w) A ((compTurn (.ListComp elt [⟨target,iter,ifs,0⟩] scope pos) 0 it acc env).onRaise (fun x=>do noteFrame x env;theTreesLotGoes x)) _ _ s
 refine wpAny_noted ?_
 rw [compTurn_list]
 refine wpAny_bind (wpAny_standAt (wpAny_bind (wpAny_mono (turn n s hJ) (fun r s1 h1=>?_) nof)))
 cases r with
 | none=>exact wpAny_pure h1
 | some v=>
  refine wpAny_bind (wpAny_mono h1 (fun _ s1' h1'=>?_) nof)
  refine wpAny_bind (wpAny_mono h1' (fun _ s2 h2=>?_) nof)
  refine wpAny_bind (wpAny_mono h2 (fun ok s3 h3=>?_) nof)
  cases ok with
  | false=>exact wpAny_pure ⟨rfl,h3⟩
  | true=>
   refine wpAny_bind (wpAny_bind (wpAny_mono h3 (fun x s4 h4=>?_) nof))
   exact wpAny_bind (wpAny_mono h4 (fun _ s5 h5=>wpAny_pure (wpAny_pure ⟨rfl,h5⟩)) nof)
def PTs (X:Cx) (ifs:List Expr) (t:TT):Prop:=
 ∀ (pins:List (Addr × Obj)) (s:Shared) (σ:St) (H:Hp) (Q:Bool->Hp->Prop),Inv X pins σ H s->t σ H Q ->
  wpAny (model X.prog X.w) X.A (forIn ifs true fun c r=>if r=true then do let ok <- isTrue c X.env (eval c X.env);pure (ForInStep.yield ok) else pure (ForInStep.yield r)) (TP X pins σ Q) X.xe s
def tM:TT:=fun _ H Q=>Q true H
theorem xM {X:Cx}:PTs X [] tM:=fun _ _ _ H _ I h=>wpAny_tests_nil ⟨H,I,h⟩
theorem oW {X:Cx} {c:Expr} {t:TT} (h:PT X c t):PTs X [c] t:=fun pins s σ H Q I hw=>wpAny_tests_one (h pins s σ H Q I hw)
def LCW (J:It) (xs:List Str) (ix:List Nat) (g:TG) (tt:TT) (te:TE) (σ:St) (H1:Hp) (acc:Addr) (Q:VK):Prop:=
 ∃ W:Nat->Nat->List V->St->Hp->Prop,(∃ m,W 0 m [] (stC xs ix σ) (upd H1 acc (.lst []))) /\
  ∀ i m ys τ H,W i m ys τ H->H acc=some (.lst ys)/\ys.length < sizeLine /\
   ((J.stop i H/\Q (.ref acc) H) \/ (J.go i H/\∃ N:List V->St->Hp->Prop,(∀ ys' τ' H',N ys' τ' H'->∃ m',m' < m/\W (i + 1) m' ys' τ' H') /\
    ∀ x H',J.yld i H x H'->g x τ H' fun τ2 H2=>tt τ2 H2 fun b H3=>
    if b=true then te τ2 H3 fun y H4=>H4 acc=some (.lst ys)/\N (ys ++ [y]) τ2 (upd H4 acc (.lst (ys ++ [y]))) else N ys τ2 H3))
def tLC (xs:List Str) (ix:List Nat) (wi:TI) (g:TG) (tt:TT) (te:TE):TE:=fun σ H Q=>wi σ H fun J H1=>∀ acc,H1 acc=none->LCW J xs ix g tt te σ H1 acc Q
structure zGC (Reg:Cx->Prop) (P:Program) (w:World) (tg:Expr) (J:It) (fp:List Addr) (it:Addr) (tn:Nat->Heap->Prop):Prop where
 mem:it ∈ fp
 obj:∀ i h,tn i h->∀ b ∈ fp,∃ o,h.get? b=some o/\∀ v,o.data ≠ .cell v
 keep:∀ i h h',tn i h->(∀ b ∈ fp,∀ o,h.get? b=some o->h'.get? b=some o)->tn i h'
 item:∀ (X:Cx),X.prog=P->X.w=w->Reg X->∀ (i:Nat) (pins:List (Addr × Obj)) (s:Shared) (σ:St) (H:Hp) (E:Value->Shared->Prop),Inv X pins σ H s->(∀ b ∈ fp,uU X pins H b)->tn i s.heap->J.go i H ->
  wpAny (model P w) X.A (pyNext (.ref it)) (fun r s1=>∃ u,r=some u /\
   wpAny (model P w) X.A (letOwnedTupleGo tg (.ref it) u) (fun _ s2=>∃ x H',Inv X pins σ H' s2/\yN x u/\J.yld i H x H'/\tn (i + 1) s2.heap/\∀ b ∈ fp,H' b=none) E s1) E s
 done:∀ (X:Cx),X.prog=P->X.w=w->Reg X->∀ (i:Nat) (pins:List (Addr × Obj)) (s:Shared) (σ:St) (H:Hp) (E:Value->Shared->Prop),Inv X pins σ H s->(∀ b ∈ fp,uU X pins H b)->tn i s.heap->J.stop i H ->
  wpAny (model P w) X.A (pyNext (.ref it)) (fun r s1=>r=none/\Inv X pins σ H s1) E s
 self:∀ (A:Around) (i:Nat) (s:Shared) (Q:Value->Shared->Prop) (E:Value->Shared->Prop),tn i s.heap->Q (.ref it) s->wpAny (model P w) A (pyIter (.ref it)) Q E s
def PIEG (Reg:Cx->Prop) (X:Cx) (pins:List (Addr × Obj)) (σ:St) (tg:Expr) (R:It->Hp->Prop) (itv:Value) (s2:Shared):Prop:=
 ∃ (it:Addr) (fp:List Addr) (tn:Nat->Heap->Prop) (J:It) (H':Hp),itv=.ref it/\Inv X pins σ H' s2/\zGC Reg X.prog X.w tg J fp it tn/\tn 0 s2.heap/\(∀ b ∈ fp,uU X pins H' b)/\R J H'
def PIG (Reg:Cx->Prop) (X:Cx) (tg iter:Expr) (wi:TI):Prop:=
 ∀ (pins:List (Addr × Obj)) (s:Shared) (σ:St) (H:Hp) (R:It->Hp->Prop),Inv X pins σ H s->wi σ H R ->
  wpAny (model X.prog X.w) X.A (eval iter X.env) (fun v s1=>wpAny (model X.prog X.w) X.A (pyIter v) (PIEG Reg X pins σ tg R) X.xe s1) X.xe s
theorem dY {Reg:Cx->Prop} {X:Cx} {xs:List Str} {ix:List Nat} {scope:Scope} {elt tg iter:Expr} {ifs:List Expr} {pos:Pos} {wi:TI} {g:TG} {tt:TT} {te:TE}
  (S:x6 X xs ix scope) (hreg:∀ Y:Cx,Y.K=X.K->Y.calm=X.calm->Y.A.handled=X.A.handled->Reg Y) (hi:PIG Reg X tg iter wi)
  (hg:∀ C fp s H,PG (cxC X xs ix scope C fp s H) tg g) (ht:∀ C fp s H,PTs (cxC X xs ix scope C fp s H) ifs tt) (he:∀ C fp s H,PE (cxC X xs ix scope C fp s H) elt te)
  {pins:List (Addr × Obj)} {s:Shared} {σ:St} {H:Hp} {Q:VK} (I:Inv X pins σ H s) (h:tLC xs ix wi g tt te σ H Q) {use:Option (Value->Sem Unit)} {R:Value->Shared->Prop}
  (fin:∀ (acc C:Addr) (H':Hp) (s':Shared) (m:Str->Option Value),Q (.ref acc) H'->s'.heap.Ns C m->(∀ h',Heap.SameBut C s'.heap h'->∀ tk,Inv X pins σ H' { s' with heap:=h',toks:=tk })->(X.s₀.heap.objs.size <= C/\C ≠ X.env.locals/\(∀ x c,X.env.cells.lookup x=some c->c ≠ C)/\(∀ p ∈ X.pn ++ pins,p.1 ≠ C)/\H' C=none)->compPost (model X.prog X.w) X.A X.xe use R (.ref acc) C (.ok .next) s') :
  wpAny (model X.prog X.w) X.A (eval iter X.env) (fun x s₁=>wpAny (model X.prog X.w) X.A (pyIter x) (fun it s₂=>wpAny (model X.prog X.w) X.A (newList []) (fun acc s₃=>
   wpAny (model X.prog X.w) X.A (newFunctionEnv scope X.env.globals (clF X.env scope.names []) [] X.env.qual none .none (some X.env)) (fun cenv s₄=>
    codeAny (model X.prog X.w) X.A (.compStart (.ListComp elt [⟨tg,iter,ifs,0⟩] scope pos) 0 it acc { cenv with scope:=relabel scope X.env }) (compPost (model X.prog X.w) X.A X.xe use R acc cenv.locals) s₄) X.xe s₃) X.xe s₂) X.xe s₁) X.xe s:=by
 refine thn (hi pins s σ H _ I h) fun v s1 h1=>thn h1 fun itv s2 h2=>?_
 obtain ⟨it,fp,tn,J,H2,rfl,I2,T,st2,f2,q⟩:=h2
 refine wpAny_newObj_type ?_
 have I3:Inv X pins σ (upd H2 s2.heap.objs.size (.lst [])) { s2 with heap:=s2.heap.push { cls:=.type "list",data:=.seq ([]:List Value).toArray },toks:=s2.toks }:=I2.lnew (ys:=[]) (its:=[]) .nil (zGR _)
 obtain ⟨W,⟨m0,w0⟩,turn⟩:=q s2.heap.objs.size I2.fresh
 have objs2:=T.obj 0 _ st2
 have neacc:∀ b ∈ fp,b ≠ s2.heap.objs.size:=fun b hb z=>by
  obtain ⟨o,ho,_⟩:=objs2 b hb
  exact Nat.lt_irrefl _ (Nat.lt_of_lt_of_eq (Heap.lt_size ho) z.symm)
 generalize hacc:s2.heap.objs.size=acc at *
 generalize hs3:({ s2 with heap:=s2.heap.push { cls:=.type "list",data:=.seq ([]:List Value).toArray } }:Shared)=s3
 have I3:Inv X pins σ (upd H2 acc (.lst [])) s3:=by rw [<- hs3];exact I3
 have k3:∀ b o,s2.heap.get? b=some o->s3.heap.get? b=some o:=fun b o e=>by rw [<- hs3];exact Heap.get?_push_of_some _ e
 have f3:∀ b ∈ fp,uU X pins (upd H2 acc (.lst [])) b:=fun b hb=>⟨by rw [zJ (neacc b hb)];exact (f2 b hb).1,(f2 b hb).2⟩
 have o3:∀ b ∈ fp,∃ o,s3.heap.get? b=some o:=fun b hb=>let ⟨o,ho,_⟩:=objs2 b hb;⟨o,k3 b o ho⟩
 have st3:tn 0 s3.heap:=T.keep _ _ _ st2 fun b _ o e=>k3 b o e
 refine wpAny_newFunctionEnv S.nocell (by intro y hy;simp at hy) (fun h1 hns1 hsb1=>?_) S.kind
 have keep1:∀ b o,s3.heap.get? b=some o->h1.get? b=some o:=fun b o e=>hsb1.extBut b o (zG8 (Heap.lt_size e)) (Heap.get?_push_of_some _ e)
 generalize hs4:({ s3 with heap:=h1,toks:=s3.toks + ([]:List (Str × Value)).length }:Shared)=s4
 have I4:Inv (cxC X xs ix scope s3.heap.objs.size fp s3 (upd H2 acc (.lst []))) [] (stC xs ix σ) (upd H2 acc (.lst [])) s4:=u7 S I3 f3 o3 hns1 keep1 hs4.symm
 have st4:tn 0 s4.heap:=T.keep _ _ _ st3 fun b _ o e=>by rw [<- hs4];exact keep1 b o e
 generalize hX':cxC X xs ix scope s3.heap.objs.size fp s3 (upd H2 acc (.lst []))=X' at *
 have hg:=hg s3.heap.objs.size fp s3 (upd H2 acc (.lst []))
 have ht:=ht s3.heap.objs.size fp s3 (upd H2 acc (.lst []))
 have he:=he s3.heap.objs.size fp s3 (upd H2 acc (.lst []))
 rw [hX'] at hg ht he
 have eP:X'.prog=X.prog:=by rw [<- hX'];rfl
 have ew:X'.w=X.w:=by rw [<- hX'];rfl
 have eK:X'.K=X.K:=by rw [<- hX'];rfl
 have eA:X'.A=X.A:=by rw [<- hX'];rfl
 have ec:Reg X':=hreg X' eK (by rw [<- hX'];rfl) (by rw [<- hX'];rfl)
 have ex:X'.xe=fun _ _=>False:=by rw [<- hX'];rfl
 have eenv:X'.env=compEnvC scope (clF X.env scope.names []) s3.heap.objs.size X.env:=by rw [<- hX'];rfl
 have eex:X'.ex=fp:=by rw [<- hX'];rfl
 have efs:X'.fs=frs X.stack:=by rw [<- hX'];rfl
 have epn:X'.pn=[]:=by rw [<- hX'];rfl
 have eH0:X'.H₀=upd H2 acc (.lst []):=by rw [<- hX'];rfl
 have es0:X'.s₀=s3:=by rw [<- hX'];rfl
 have eloc:X'.env.locals=s3.heap.objs.size:=by rw [eenv];rfl
 have stat:∀ {H':Hp},(∀ b ∈ fp,H' b=none)->∀ b ∈ fp,uU X' [] H' b:=fun {H'} hn b hb=>by
  refine ⟨hn b hb,?_,?_,.inl (by rw [eex];exact hb),?_,?_⟩
  ·rw [eloc]
   intro z
   obtain ⟨o,ho⟩:=o3 b hb
   exact Nat.lt_irrefl _ (Nat.lt_of_lt_of_eq (Heap.lt_size ho) z.symm)
  ·exact I4.ok.exfs b (by rw [eex];exact hb)
  ·exact (I4.ok.exf b (by rw [eex];exact hb)).2
  ·rw [epn];intro p hp;exact absurd hp (by simp)
 have loop:codeAny (model X.prog X.w) X.A (.compLoop (.ListComp elt [⟨tg,iter,ifs,0⟩] scope pos) 0 (.ref it) (.ref acc) X'.env) (compPost (model X.prog X.w) X.A X.xe use R (.ref acc) s3.heap.objs.size) s4:=by
  refine zAR (fun n s'=>∃ i ys τ H',Inv X' [] τ H' s'/\tn i s'.heap/\(∀ b ∈ fp,H' b=none)/\W i n ys τ H') ?_ m0 ⟨0,[],_,_,I4,st4,fun b hb=>(f3 b hb).1,w0⟩
  rintro n s5 ⟨i,ys,τ,H5,I5,st5,fr5,w5⟩
  obtain ⟨ha5,hz5,way⟩:=turn i n ys τ H5 w5
  rcases way with ⟨stop,qn⟩ | ⟨go,N,hN,step⟩
  ·have d:=T.done X' eP ew ec i [] s5 τ H5 (fun _ _=>False) I5 (stat fr5) st5 stop
   rw [eA] at d
   refine thn d fun r s6 hz51=>?_
   obtain ⟨hr,I6⟩:=hz51
   subst hr
   obtain ⟨m,hn6,_⟩:=id I6.loc
   rw [eloc] at hn6
   refine fin acc s3.heap.objs.size H5 s6 m qn hn6 (fun h' hsb tk=>?_) ⟨I3.sz,Ne.symm (zG8 I3.lt),fun x c e z=>by
    obtain ⟨v,oc,hoc,_⟩:=I3.cell x c e
    exact Nat.lt_irrefl _ (Nat.lt_of_lt_of_eq (Heap.lt_size hoc) z.symm),fun p hp z=>Nat.lt_irrefl _ (Nat.lt_of_lt_of_eq (Heap.lt_size (I3.pin p hp).1) z.symm),by have:=I6.free;rw [eloc] at this;exact this⟩
   have same:∀ b,b ≠ s3.heap.objs.size->h'.get? b=s6.heap.get? b:=fun b hb=>hsb.2 b hb
   have ub:=I6.base
   rw [efs,eex,eH0,es0] at ub
   have ne3:∀ b o,s3.heap.get? b=some o->b ≠ s3.heap.objs.size:=fun b o e=>zG8 (Heap.lt_size e)
   have u:Un (frs X.stack) fp (upd H2 acc (.lst [])) H5 s3.heap h':=
    ⟨fun b o e n1 n2 n3=>(same b (ne3 b o e)).trans (ub.keep b o e n1 n2 n3),fun b o e n1 n2 n3=>by
      obtain ⟨sl,z⟩:=ub.slot b o e n1 n2 n3
      exact ⟨sl,(same b (ne3 b o e)).trans z⟩,ub.free,fun b o e n3=>by
      obtain ⟨o',z⟩:=ub.there b o e n3
      exact ⟨o',(same b (ne3 b o e)).trans z⟩,ub.tups,ub.frzs,ub.tbls⟩
   have fC:H5 s3.heap.objs.size=none:=by have:=I6.free;rw [eloc] at this;exact this
   have hok:HOk X.prog X.w H5 h':=fun b o e=>by
    have z:=I6.hok b o e
    rw [eP,ew] at z
    refine z.stay (fun c u hc q=>(same c ?_).trans q) (fun _ q=>q) fun _ _ q=>q
    intro zc
    rcases hc with q1 | q1
    ·rw [<- q1,zc,fC] at e;cases e
    ·rw [zc,fC] at q1;cases q1
   have hch:∀ b ∈ fp,(b ∈ X.ex \/ X.s₀.heap.objs.size <= b)/\b ≠ X.env.locals/\(∀ x c,X.env.cells.lookup x=some c->c ≠ b)/\∀ p ∈ X.pn ++ pins,p.1 ≠ b:=fun b hb=>by
    obtain ⟨_,f1,_,g3,g4,g5⟩:=f3 b hb
    exact ⟨g3,f1,g4,g5⟩
   have ho:s6.os=s3.os:=by have:=I6.os;rw [es0] at this;exact this
   exact I3.call' (s':={ s6 with heap:=h',toks:=tk }) (ch:=fp) ho u hok I6.bare hch
  ·have d:=T.item X' eP ew ec i [] s5 τ H5 (fun _ _=>False) I5 (stat fr5) st5 go
   rw [eA] at d
   refine thn d fun r s6 hz52=>?_
   obtain ⟨u,hr,h6⟩:=hz52
   subst hr
   refine thn h6 fun _ s7 hz53=>?_
   obtain ⟨x,H7,I7,r7,y7,st7,fr7⟩:=hz53
   have I7':=I7.pinned (stat fr7) (T.obj _ _ st7)
   have dg:=hg _ s7 τ H7 x u _ I7' r7 (step x H7 y7)
   rw [eP,ew,eA,ex] at dg
   refine thn dg fun _ s8 hz54=>?_
   obtain ⟨τ8,H8,I8,q8⟩:=hz54
   have dt:=ht _ s8 τ8 H8 _ I8 q8
   rw [eP,ew,eA,ex] at dt
   refine thn dt fun ok s9 hz55=>?_
   obtain ⟨H9,I9,q9⟩:=hz55
   have again:∀ {τ':St} {H':Hp} {s':Shared},Inv X' ([] ++ vJ fp s7.heap) τ' H' s'->Inv X' [] τ' H' s'/\tn (i + 1) s'.heap/\∀ b ∈ fp,H' b=none:=fun {τ' H' s'} Ie=>by
    refine ⟨Ie.unpinned,T.keep _ _ _ st7 fun b hb o e=>(Ie.pin (b,o) (zGV _ (zGV _ (xW hb e)))).1,fun b hb=>?_⟩
    obtain ⟨o,e,_⟩:=T.obj _ _ st7 b hb
    exact (Ie.pin (b,o) (zGV _ (zGV _ (xW hb e)))).2.1
   cases ok with
   | false=>
    rw [if_neg zG9] at q9 ⊢
    obtain ⟨m',hm,w9⟩:=hN _ _ _ q9
    obtain ⟨z1,z2,z3⟩:=again I9
    exact ⟨m',hm,i + 1,ys,τ8,H9,z1,z2,z3,w9⟩
   | true=>
    rw [if_pos rfl] at q9 ⊢
    have de:=he _ s9 τ8 H9 _ I9 q9
    rw [eP,ew,eA,ex] at de
    refine thn de fun yv s10 hz56=>?_
    obtain ⟨y,H10,I10,r10,ha10,n10⟩:=hz56
    obtain ⟨m',hm,w10⟩:=hN _ _ _ n10
    have dm:=xF (X:=X') _ s10 τ8 H10 (.ref acc) [y] (.ref acc) [yv] (fun v H'=>v=.non/\H'=upd H10 acc (.lst (ys ++ [y]))) I10 rfl (.cons r10 .nil) ⟨acc,ys,y,rfl,rfl,ha10,hz5,rfl,rfl⟩
    rw [eP,ew,eA,ex] at dm
    refine thn dm fun _ s11 hz57=>?_
    obtain ⟨_,H11,I11,_,_,e11⟩:=hz57
    subst e11
    obtain ⟨z1,z2,z3⟩:=again I11
    exact ⟨m',hm,i + 1,ys ++ [y],τ8,_,z1,z2,z3,w10⟩
 have e4:({ newEnv scope s3.heap.objs.size X.env.globals (clF X.env scope.names []) X.env.qual none .none (some X.env) builtinsNs with scope:=relabel scope X.env }:Env)=X'.env:=by rw [eenv];rfl
 rw [eenv] at loop
 have self:=T.self X.A 0 s4 (fun it' s'=>codeAny (model X.prog X.w) X.A (.compLoop (.ListComp elt [⟨tg,iter,ifs,0⟩] scope pos) 0 it' (.ref acc) (compEnvC scope (clF X.env scope.names []) s3.heap.objs.size X.env)) (compPost (model X.prog X.w) X.A X.xe use R (.ref acc) s3.heap.objs.size) s')
  (notedBy (model X.prog X.w) X.A (compEnvC scope (clF X.env scope.names []) s3.heap.objs.size X.env) fun x s'=>compPost (model X.prog X.w) X.A X.xe use R (.ref acc) s3.heap.objs.size (.error x) s') st4 loop
 exact codeAny_compStart_list loop self
theorem iD {X:Cx} {xs:List Str} {ix:List Nat} {scope:Scope} {elt tg iter:Expr} {ifs:List Expr} {pos:Pos} {wi:TI} {g:TG} {tt:TT} {te:TE}
  (S:x6 X xs ix scope) (hc:X.calm=true) (hi:PI X tg iter wi)
  (hg:∀ C fp s H,PG (cxC X xs ix scope C fp s H) tg g) (ht:∀ C fp s H,PTs (cxC X xs ix scope C fp s H) ifs tt) (he:∀ C fp s H,PE (cxC X xs ix scope C fp s H) elt te)
  {pins:List (Addr × Obj)} {s:Shared} {σ:St} {H:Hp} {Q:VK} (I:Inv X pins σ H s) (h:tLC xs ix wi g tt te σ H Q) {use:Option (Value->Sem Unit)} {R:Value->Shared->Prop}
  (fin:∀ (acc C:Addr) (H':Hp) (s':Shared) (m:Str->Option Value),Q (.ref acc) H'->s'.heap.Ns C m->(∀ h',Heap.SameBut C s'.heap h'->∀ tk,Inv X pins σ H' { s' with heap:=h',toks:=tk })->(X.s₀.heap.objs.size <= C/\C ≠ X.env.locals/\(∀ x c,X.env.cells.lookup x=some c->c ≠ C)/\(∀ p ∈ X.pn ++ pins,p.1 ≠ C)/\H' C=none)->compPost (model X.prog X.w) X.A X.xe use R (.ref acc) C (.ok .next) s') :
  wpAny (model X.prog X.w) X.A (eval iter X.env) (fun x s₁=>wpAny (model X.prog X.w) X.A (pyIter x) (fun it s₂=>wpAny (model X.prog X.w) X.A (newList []) (fun acc s₃=>
   wpAny (model X.prog X.w) X.A (newFunctionEnv scope X.env.globals (clF X.env scope.names []) [] X.env.qual none .none (some X.env)) (fun cenv s₄=>
    codeAny (model X.prog X.w) X.A (.compStart (.ListComp elt [⟨tg,iter,ifs,0⟩] scope pos) 0 it acc { cenv with scope:=relabel scope X.env }) (compPost (model X.prog X.w) X.A X.xe use R acc cenv.locals) s₄) X.xe s₃) X.xe s₂) X.xe s₁) X.xe s:=
 dY (Reg:=fun Y=>Y.K=X.K/\Y.calm=true) S (fun Y k c _=>⟨k,c.trans hc⟩)
  (fun pins s σ H R I q=>thn (hi pins s σ H R I q) fun v s1 h1=>thn h1 fun itv s2 h2=>by
   obtain ⟨it,fp,tn,J,H',e,I',T,r⟩:=h2
   exact ⟨it,fp,tn,J,H',e,I',⟨T.mem,T.obj,T.keep,fun Y e1 e2 r=>T.item Y e1 e2 r.1 r.2,fun Y e1 e2 r=>T.done Y e1 e2 r.1 r.2,T.self⟩,r⟩) hg ht he I h fin
theorem zBN {X:Cx} {xs:List Str} {ix:List Nat} {scope:Scope} {elt tg iter:Expr} {ifs:List Expr} {pos:Pos} {wi:TI} {g:TG} {tt:TT} {te:TE}
  (S:x6 X xs ix scope) (hc:X.calm=true) (hi:PI X tg iter wi)
  (hg:∀ C fp s H,PG (cxC X xs ix scope C fp s H) tg g) (ht:∀ C fp s H,PTs (cxC X xs ix scope C fp s H) ifs tt) (he:∀ C fp s H,PE (cxC X xs ix scope C fp s H) elt te)
  (hs:∀ x,foldedSetIterable iter X.env x=pure x:=by intro _;rfl) :
  PE X (.ListComp elt [⟨tg,iter,ifs,0⟩] scope pos) (tLC xs ix wi g tt te):=by
 intro pins s σ H Q I h
 have hcl:∀ n,(n,NameKind.free) ∈ scope.names->(X.env.cells.lookup n).isSome=true:=fun n hn=>by
  obtain ⟨c,e⟩:=I.ok.has n (S.fre n hn)
  rw [e];rfl
 rw [eval_ListComp]
 refine wpAny_comprehension_free (use:=none) rfl hs (w4 hcl) S.kind S.loc ?_
 refine iD S hc hi hg ht he I h fun acc C H' s' m q hn k _=>?_
 exact ⟨m,hn,fun h' hsb=>⟨.ref acc,H',k h' hsb s'.toks,rfl,q⟩⟩
theorem Inv.letgo {X:Cx} {pins:List (Addr × Obj)} {σ:St} {H:Hp} {s:Shared} {h':Heap} {C:Addr} (I:Inv X pins σ H s) (hs:Heap.SameBut C s.heap h')
  (hC:X.s₀.heap.objs.size <= C/\C ≠ X.env.locals/\(∀ x c,X.env.cells.lookup x=some c->c ≠ C)/\(∀ p ∈ X.pn ++ pins,p.1 ≠ C)/\H C=none):Inv X pins σ H { s with heap:=h' }:=by
 obtain ⟨c1,c2,c3,c4,c5⟩:=hC
 have same:∀ b,b ≠ C->h'.get? b=s.heap.get? b:=fun b hb=>hs.2 b hb
 have ne:∀ {b:Addr},b ∉ [C]->b ≠ C:=fun h e=>h (by simp [e])
 have u:Un (frs X.stack) [C] H H s.heap h':=
  ⟨fun b o e _ _ n=>(same b (ne n)).trans e,fun b o e _ _ n=>⟨o.slots,(same b (ne n)).trans e⟩,fun b o _ e _=>e,fun b o e n=>⟨o,(same b (ne n)).trans e⟩,fun _ _ e=>e,fun _ _ _ e=>e,fun b ps e=>⟨#[],by rw [Array.append_empty];exact e⟩⟩
 have hok:HOk X.prog X.w H h':=fun b o e=>by
  refine (I.hok b o e).stay (fun c u hc q=>(same c ?_).trans q) (fun _ q=>q) fun _ _ q=>q
  intro zc
  rcases hc with q1 | q1
  ·rw [<- q1,zc,c5] at e;cases e
  ·rw [zc,c5] at q1;cases q1
 refine I.call' (s':={ s with heap:=h' }) (ch:=[C]) rfl u hok I.bare fun b hb=>?_
 have eb:b=C:=by simpa using hb
 subst eb
 exact ⟨.inr c1,c2,c3,c4⟩
theorem mJ {X:Cx} {xs:List Str} {ix:List Nat} {scope:Scope} {elt tg iter:Expr} {ifs:List Expr} {cpos pos pos':Pos} {wi:TI} {g:TG} {tt:TT} {te:TE} {i:Nat} {x:Str}
  (hN:X.N.Nodup) (hin:X.N[i]?=some x) (hx:Loc X.env.scope x)
  (S:x6 X xs ix scope) (hc:X.calm=true) (hi:PI X tg iter wi)
  (hg:∀ C fp s H,PG (cxC X xs ix scope C fp s H) tg g) (ht:∀ C fp s H,PTs (cxC X xs ix scope C fp s H) ifs tt) (he:∀ C fp s H,PE (cxC X xs ix scope C fp s H) elt te)
  (hsw:swapsWith (.ListComp elt [⟨tg,iter,ifs,0⟩] scope cpos) (some (.Name x pos')) pos.line X.env=pure true)
  (hf:X.fn x=true \/ X.env.scope.names.lookup x=some .local:=by first | exact .inl rfl | exact .inr rfl | assumption)
  (hs:∀ x,foldedSetIterable iter X.env x=pure x:=by intro _;rfl) :
  PS X (.Assign [.Name x pos'] (.ListComp elt [⟨tg,iter,ifs,0⟩] scope cpos) pos) (nX (tLC xs ix wi g tt te) (wK i)):=by
 intro pins s σ H D I h
 have hcl:∀ n,(n,NameKind.free) ∈ scope.names->(X.env.cells.lookup n).isSome=true:=fun n hn=>by
  obtain ⟨c,e⟩:=I.ok.has n (S.fre n hn)
  rw [e];rfl
 rw [exec_Assign_Name_used _ _ _ _ hsw]
 refine wpAny_bind (wpAny_standAt (wpAny_bind ?_))
 rw [arm_evalThenUse_ListComp]
 refine wpAny_bind (thn (Q:=fun _ s'=>SP X pins D .next s') (wpAny_comprehension_free (g:=⟨tg,iter,ifs,0⟩) (gs:=[]) (use:=some (assign (.Name x pos') X.env)) rfl hs (w4 hcl) S.kind S.loc ?_) fun _ s1 h1=>wpAny_pure (wpAny_pure h1))
 refine iD S hc hi hg ht he I h fun acc C H' s' m q hn k hC=>?_
 have I':Inv X pins σ H' s':=k s'.heap (Heap.SameBut.refl _ _) s'.toks
 show wpAny (model X.prog X.w) X.A (assign (.Name x pos') X.env (.ref acc)) (fun _ s''=>∃ m,s''.heap.Ns C m/\∀ h',Heap.SameBut C s''.heap h'->SP X pins D .next { s'' with heap:=h' }) X.xe s'
 refine wpAny_assign_Name (pK I' hN hin hx (v:=.ref acc) rfl (fun s'' I'' hz58=>?_) hf)
 obtain ⟨a,hsa,ha⟩:=hz58
 refine ⟨m,hn.sameBut hsa ?_,fun h' hsb=>⟨_,H',I''.letgo hsb hC,q⟩⟩
 rcases ha with rfl | ha
 ·exact hC.2.1
 ·exact fun z=>hC.2.2.1 x a ha z.symm
end L2
namespace L2
open PySem PySem.Spec PyProof.Rows
noncomputable def Its (x:Str):It:=⟨fun i _=>i < x.cps.size,fun i H v H'=>H'=H/\∃ c,x.cps[i]?=some c/\v=.str ⟨#[c]⟩,fun i _=>i=x.cps.size⟩
theorem fB {P:Program} {w:World} {K:PySem.W.Frag} {tg:Expr} (it:Addr) (x:Str) (t:Tok) (ty:String)
  (hty:["enumerate","zip","dict_itemiterator","dict_reverseitemiterator","odict_iterator","itertools.zip_longest","itertools.pairwise"].contains ty=false)
  (W:∀ A:Around,A.handled=none->Walks P w A it [it] [it] x.cps.size (SignAt x) (fun i h=>h.IsStrIter it ty x t i))
  (self:∀ (A:Around) (i:Nat) (s:Shared) (Q:Value->Shared->Prop) (E:Value->Shared->Prop),s.heap.IsStrIter it ty x t i->Q (.ref it) s->wpAny (model P w) A (pyIter (.ref it)) Q E s) :
  bG P w K tg (Its x) [it] it (fun i h=>h.IsStrIter it ty x t i) where
 mem:=by simp
 obj:=fun i h st b hb=>by
  have e:b=it:=by simpa using hb
  subst e
  obtain ⟨o,e,c,d⟩:=st
  exact ⟨o,e,fun v z=>by rw [d] at z;cases z⟩
 keep:=fun i h h' st k=>let ⟨o,e,r⟩:=st;⟨o,k it (by simp) o e,r⟩
 item:=by
  intro X hP hw hK hc i pins s σ H E I hf st hg
  subst hP hw hK
  obtain ⟨f0,f1,f2,f3,f4,f5⟩:=hf it (by simp)
  refine (W X.A (I.ok.hd hc)).item i s _ _ hg st fun v h' tk hv st' kk=>?_
  obtain ⟨c,u,hcx,rfl⟩:=hv
  have I1:Inv X pins σ H { s with heap:=h',toks:=tk }:=I.turned (fun b o hb e=>kk b o (by simpa using hb) e) f0 f1 f3 f4 f5
  obtain ⟨o,e,c',d⟩:=id st'
  exact ⟨_,rfl,cG (s:={ s with heap:=h',toks:=tk }) e c' d hty ⟨.str ⟨#[c]⟩,H,I1,⟨u,rfl⟩,⟨rfl,c,hcx,rfl⟩,st',fun b hb=>(hf b hb).1⟩⟩
 done:=by
  intro X hP hw hK hc i pins s σ H E I hf st hg
  subst hP hw hK
  obtain ⟨f0,f1,f2,f3,f4,f5⟩:=hf it (by simp)
  have hg':i=x.cps.size:=hg
  subst hg'
  exact (W X.A (I.ok.hd hc)).done s _ _ st fun h' tk kk=>⟨rfl,I.turned (fun b o hb e=>kk b o (by simpa using hb) e) f0 f1 f3 f4 f5⟩
 self:=self
section
variable {X:Cx} {tg:Expr}
def iStr (tl:TE):TI:=fun σ H R=>tl σ H fun x H1=>∃ z,x=.str z/\R (Its z) H1
theorem zCS {l:Expr} {tl:TE} (hl:PE X l tl):PI X tg l (iStr tl):=by
 intro pins s σ H R I h
 refine thn (hl pins s σ H _ I h) fun v s1 hz59=>?_
 obtain ⟨x,H1,I1,r1,q1⟩:=hz59
 obtain ⟨z,e,q⟩:=q1
 subst e
 obtain ⟨t,rfl⟩:=(show ∃ t,v=Value.str z t from r1)
 have fin:∀ (o:Obj) (ty:String),o.cls=.type ty->o.data=.fields #[.str z t,.int 0 0] ->
   ["enumerate","zip","dict_itemiterator","dict_reverseitemiterator","odict_iterator","itertools.zip_longest","itertools.pairwise"].contains ty=false ->
   o.isFreed=false ->
   (∀ A:Around,A.handled=none->Walks X.prog X.w A s1.heap.objs.size [s1.heap.objs.size] [s1.heap.objs.size] z.cps.size (SignAt z) (fun i h=>h.IsStrIter s1.heap.objs.size ty z t i)) ->
   (∀ (A:Around) (i:Nat) (s:Shared) (Q:Value->Shared->Prop) (E:Value->Shared->Prop),s.heap.IsStrIter s1.heap.objs.size ty z t i->Q (.ref s1.heap.objs.size) s->wpAny (model X.prog X.w) A (pyIter (.ref s1.heap.objs.size)) Q E s) ->
   PIE X pins σ tg R (.ref s1.heap.objs.size) { s1 with heap:=s1.heap.push o }:=fun o ty h1 h2 h3 hfr W self=>by
  refine ⟨s1.heap.objs.size,[s1.heap.objs.size],_,_,H1,rfl,I1.kept (t':=s1.toks) fun b o e=>Heap.get?_push_of_some _ e,fB _ z t ty h3 W self,⟨o,Heap.get?_push_size _ hfr,h1,h2⟩,fun b hb=>?_,q⟩
  have e:b=s1.heap.objs.size:=by simpa using hb
  subst e
  exact I1.fpOk (zGQ _) (I1.hok.fresh (zGQ _))
 cases ha:z.cps.all (· < 128)
 ·exact wpAny_pyIter_wide ha (fin _ "str_iterator" rfl rfl (by decide) rfl (fun A hA=>Walks.strWide hA _ z t) fun _ _ _ _ _ st hQ=>wpAny_pyIter_striter_wide st hQ)
 ·exact wpAny_pyIter_ascii ha (fin _ "str_ascii_iterator" rfl rfl (by decide) rfl (fun A hA=>Walks.strAscii hA _ z t) fun _ _ _ _ _ st hQ=>wpAny_pyIter_striter_ascii st hQ)
theorem m7 {A:Around} (h:A.handled=none):A.in1.handled=none:=h
theorem gW {ys:List Bool} {its:List Value} (r:yI (ys.map V.bl) its) {i:Nat} {v:Value} (h:its[i]?=some v):∃ b,ys[i]?=some b/\v=.bool b:=by
 have hl:=r.length
 rw [zGH] at hl
 have hi:i < its.length:=(zGJ.mp h).1
 obtain ⟨u,e1,e2⟩:=r.get (i:=i) (x:=V.bl (ys[i]'(by omega))) (by rw [zGN,zGI (by omega)];rfl)
 rw [h] at e1
 cases e1
 exact ⟨_,zGI (by omega),e2⟩
theorem iY (ys:List Bool):(List.range ys.length).all (fun i=>ys.getD i false)=ys.all id:=by
 have e:ys=(List.range ys.length).map (fun i=>ys.getD i false):=by
  apply List.ext_getElem (by simp)
  intro i h1 h2
  simp [zGM,zGI h1]
 conv=>rhs;rw [e]
 rw [List.all_map];rfl
theorem sI (hc:X.calm=true):vN X (.builtin "all") (fun xs H Q=>∃ (p:Addr) (ys:List Bool),xs=[.ref p]/\SqL X.K H p (ys.map V.bl)/\Q (.bl (ys.all id)) H):=by
 intro pins s σ H xs us Q I r h
 obtain ⟨p,ys,rfl,hq,q⟩:=h
 obtain ⟨u,rfl,ru⟩:=r.one
 cases ru
 obtain ⟨its,rv,pl,hz⟩:=I.list hq
 have hl:=rv.length
 rw [zGH] at hl
 refine call_all_walk (wpAny_pyIter_list pl.isList ?_)
 have hp:p < s.heap.objs.size:=by obtain ⟨o,ho,_⟩:=pl.isList;exact Heap.lt_size ho
 refine ⟨s.heap.objs.size,_,_,_,_,_,fun i=>ys.getD i false,rfl,Walks.list (m7 (I.ok.hd hc)) _ p (zG8 hp) its.toArray,⟨⟨_,Heap.get?_push_size _ rfl,rfl,rfl⟩,?_⟩,?_,fun h' tk kk=>?_⟩
 ·obtain ⟨o,ho,r⟩:=pl.isList
  exact ⟨o,Heap.get?_push_of_some _ ho,r⟩
 ·intro i v s' Q' E' hP hQ
  obtain ⟨b,e1,rfl⟩:=gW rv (by simpa using hP)
  refine wpAny_truthy_bool ?_
  have e2:ys.getD i false=b:=by rw [zGM,e1];rfl
  rw [<- e2];exact hQ
 ·refine ⟨.bl (ys.all id),H,I.kept fun b o e=>kk b o ?_ (Heap.get?_push_of_some _ e),?_,q⟩
  ·intro z;have z':b=s.heap.objs.size:=by simpa using z
   exact zG8 (Heap.lt_size e) z'
  ·have e3:its.toArray.size=ys.length:=by simp;omega
   rw [e3,iY];rfl
theorem y3:vN X (.builtin "isinstance") (fun xs H Q=>∃ x t T b,xs=[x,.ty T]/\sM X.K H x t/\PySem.W.kitOne X.K t (.type T)=some b/\Q (.bl b) H):=by
 intro pins s σ H xs us Q I r h
 obtain ⟨x,t,T,b,rfl,ty,e,q⟩:=h
 obtain ⟨u,v,rfl,ru,rv⟩:=r.two
 cases rv
 exact gE I ru ty e fun tk=>⟨.bl b,H,I.tok tk,rfl,q⟩
def rSlS:V->Option Int->Option Int->Hp->VK->Prop:=fun x lo hi H Q=>∃ z,x=.str z/\z.length <= sizeLine/\Q (.str (Txt.slice z lo hi)) H
theorem zCE:SlR X rSlS:=by
 intro pins s σ H x v vl vu lo hi sl Q I rx hs pl pu h
 obtain ⟨z,rfl,hz,q⟩:=h
 obtain ⟨t,rfl⟩:=(show ∃ t,v=Value.str z t from rx)
 refine ⟨"str",_,F.slot_str_getitem.lookup,typeIs_str _ _ _,?_⟩
 have key:∀ (l u:Option (Int × Tok)),vl=partValue l->vu=partValue u->lo=l.map (·.1)->hi=u.map (·.1) ->
   wpAny (model X.prog X.w) X.A (getItem (.str z t) (.ref sl)) (EP X pins σ Q) X.xe s:=by
  intro l u e1 e2 e3 e4
  subst e1 e2
  refine wpAny_getItem_str_slice (l:=l) (u:=u) (st:=none) hs rfl ?_
  unfold sliceMade
  have ee:Txt.slice z lo hi=if (((none:Option (Int × Tok)).map (·.1)).getD 1 == 1 && (slicePicked z l u none).length == z.length)=true then z else ⟨((slicePicked z l u none).filterMap (z.cps[·]?)).toArray⟩:=by
   rw [e3,e4];rfl
  split
  ·rename_i c
   rw [if_pos c] at ee
   rw [ee] at q
   exact ⟨.str z,H,I,⟨t,rfl⟩,q⟩
  ·rename_i c
   rw [if_neg c] at ee
   rw [ee] at q
   have hle:=Txt.slice_le z lo hi
   rw [ee] at hle
   exact ⟨zGS hle hz,.str _,H,I.tok _,⟨_,rfl⟩,q⟩
 cases pl with
 | none=>
  cases pu with
  | none=>exact key none none rfl rfl rfl rfl
  | int j tj=>exact key none (some (j,tj)) rfl rfl rfl rfl
 | int i ti=>
  cases pu with
  | none=>exact key (some (i,ti)) none rfl rfl rfl rfl
  | int j tj=>exact key (some (i,ti)) (some (j,tj)) rfl rfl rfl rfl
theorem oC:∀ {ys:List Str} {us:List Value},yI (ys.map V.str) us->StrsAre us ys
 | [],_,.nil=>.nil
 | y :: ys,_,.cons r t=>by
  obtain ⟨k,rfl⟩:=r
  exact .cons y k (oC t)
theorem zAI:MtR X "str.join" (fun x xs H Q=>∃ (z:Str) (p:Addr) (ys:List Str),x=.str z/\xs=[.ref p]/\SqL X.K H p (ys.map V.str)/\(ys.map (·.length)).sum + ys.length * z.length <= 16777216/\Q (.str (Txt.join z ys)) H):=by
 intro pins s σ H x xs v us Q I rx rs h
 obtain ⟨z,p,ys,rfl,rfl,hq,hz,q⟩:=h
 obtain ⟨t,rfl⟩:=(show ∃ t,v=Value.str z t from rx)
 obtain ⟨u,rfl,ru⟩:=rs.one
 cases ru
 obtain ⟨its,rv,pl,hl⟩:=I.list hq
 exact join_list pl.isList (oC (by simpa using rv)) hz fun t' k=>⟨.str _,H,I.tok k,⟨t',rfl⟩,q⟩
theorem dA:OpR X (binaryOp .FloorDiv) (rI (fun _ j=>0 < j/\j < 2 ^ 62) fun i j=>.int (i / j)):=opI fun i j _ _ _ _ _ hc q=>by
 have hp:(0:Int) < j:=hc.1
 have hq:j < 2 ^ 62:=hc.2
 have hlog:j.natAbs.log2 < 9000:=by
  have h1:j.natAbs ≠ 0:=by omega
  have h2:j.natAbs.log2 < 62:=(Nat.log2_lt h1).mpr (by omega)
  omega
 exact floordiv_int (by omega) (by rw [Int.fdiv_eq_ediv_of_nonneg i (by omega)];exact q) (.inl (PyProof.noPylong_of_log2 hlog))
end
end L2
namespace L2
open PySem PySem.Spec PyProof.Rows
structure y0 (K:PySem.W.Frag) (mg:Str->Option Value) (x:Str) (st:Stmt) (ps:List Str):Prop where
 ex:∃ (f:Addr) (fd:FuncData),Fun K x x st f fd/\mg x=some (.ref f)/\uA K fd ps []
structure Cal (P:Program) (w:World) (K:PySem.W.Frag) (mg:Str->Option Value) (base:Heap) (CX:CXT) (k:Nat) (x:Str) (ps:List Str) (sp:Sp):Prop where
 ex:∃ (f:Addr) (fd:FuncData),uY P w K mg base CX k f fd ps sp/\mg x=some (.ref f)/\PySem.W.keepIn K (.ref f)=true/\uA K fd ps []
section
variable {P:Program} {w:World} {K:PySem.W.Frag} {mg:Str->Option Value} {base:Heap}
theorem y0.ok {x:Str} {st:Stmt} {N ps:List Str} {k:Nat} {sp:Sp} (G:y0 K mg x st ps) (S:zN N ps (zG st)) (len:∀ vs H Q E,sp vs H Q E->vs.length=ps.length)
  (hbody:∀ (f:Addr) (cdv:Value) (A:Around) (outer:List Env) (s:Shared) (H:Hp) (vs:List V) (Q:VK) (E:XK),yB k (A.deeper (envOfC x (zG st) s.heap.objs.size f cdv))->sp vs H Q E ->
   ∃ t,PSs (lF CX0 P w K mg base N x (zG st) f cdv A outer s H E).nox (xT st) t/\t { nx:=fun _ H'=>Q .non H',rt:=Q } (start N vs) H):Cal P w K mg base CX0 (k + 1) x ps sp:=by
 obtain ⟨f,fd,F,hm,hb⟩:=G.ex
 exact ⟨f,fd,F.ok S len fun cdv A outer s H vs Q E hr h=>hbody f cdv A outer s H vs Q E hr h,hm,F.kp,hb⟩
theorem zAT {h:Heap} {x:Str} {st:Stmt} {f:Addr} {oc:Value} {od an:Option Addr} {osl:Array (Option Value)} {kV doc pm cdv ct:Value} {ps:List Str} (X:K.In h) (G:h.Ns mainGlobals mg)
  (a:PySem.W.nsIn K mainGlobals x=some (some (.ref f)))
  (l:K.lookup f=some ⟨oc,od,.func (PySem.W.fnOf x x (wF st) (xT st) (zG st) .none kV doc pm an cdv ct),osl⟩) (c:PySem.W.codeIn K cdv x=true) (k:PySem.W.keepIn K (.ref f)=true)
  (hb:∀ (kV doc pm:Value) (an:Option Addr) (cdv ct:Value) (us:List Value),us.length=ps.length->bindArgs (PySem.W.fnOf x x (wF st) (xT st) (zG st) .none kV doc pm an cdv ct) ⟨us,[]⟩=pure (ps.zip us)):y0 K mg x st ps:=
 ⟨f,_,tV l c k,PySem.W.mg_of X G a,(tV l c k).binds hb⟩
end
section
variable {X:Cx} {CX:CXT} {k:Nat} {ps:List Str} {sp:Sp} {E:XK} {x:Str} {p pos:Pos} {e:Expr} {es:List Expr} {t:TA}
theorem zQ (C:Cal X.prog X.w X.K X.mg X.base CX0 k x ps sp) (hr:yB k X.A) (ha:PA X (e :: es) t) (hg:Gl X x:=by rfl)
  (hdb:(x == ("__debug__" : Str))=false:=by decide) (he:starEach (e :: es) X.env=(false,eval e X.env) :: starEach es X.env:=by rfl) (hpl:(backTo pos (starEach es X.env)).any (·.1)=false:=by rfl) :
  PE X (.Call (.Name x p) (e :: es) [] pos) (fK sp [] E0 t):=
 let ⟨_,_,F,hm,hk,hb⟩:=C.ex
 aU F hr hg hm hk hb .nil j8 ha hdb he hpl
structure Blt (mg:Str->Option Value) (x:Str):Prop where
 no:mg x=none
theorem yE {id:String} {r:List V->Hp->VK->Prop} (hc:vN X (.builtin id) r) (b:Blt X.mg x) (hv:bootBuiltins x=some (.builtin id)) (ha:PA X (e :: es) t) (hg:Gl X x:=by rfl) (hn:x ≠ "__name__":=by decide) (hdb:(x == ("__debug__" : Str))=false:=by decide)
  (he:starEach (e :: es) X.env=(false,eval e X.env) :: starEach es X.env:=by rfl) (hpl:(backTo pos (starEach es X.env)).any (·.1)=false:=by rfl) :
  PE X (.Call (.Name x p) (e :: es) [] pos) (tCB r t):=eX hc hg b.no hv ha hn hdb he hpl
theorem v7 {T:String} (b:Blt X.mg x) (hv:bootBuiltins x=some (.type T)) (hg:Gl X x:=by rfl) (hn:x ≠ "__name__":=by decide) (hd:(x == ("__debug__" : Str))=false:=by decide):PE X (.Name x pos) (tC (.ty T)):=
 aV hg b.no hv rfl hn hd
end
def zD (S:List Addr) (H H':Hp):Prop:=∀ b o,b ∉ S->H b=some o->H' b=some o
theorem zD.refl {S:List Addr} (H:Hp):zD S H H:=fun _ _ _ h=>h
theorem zD.trans {S:List Addr} {H H1 H2:Hp} (a:zD S H H1) (b:zD S H1 H2):zD S H H2:=fun c o n h=>b c o n (a c o n h)
theorem zD.mono {S S':List Addr} {H H1:Hp} (a:zD S H H1) (h:∀ b ∈ S,b ∈ S'):zD S' H H1:=fun c o n q=>a c o (fun z=>n (h c z)) q
theorem zD.new {S:List Addr} {H:Hp} {p:Addr} {o:HO} (h:H p=none):zD S H (upd H p o):=fun b u _ q=>by rw [zJ (zH q h)];exact q
theorem zD.at {S:List Addr} {H:Hp} {p:Addr} {o:HO} (h:p ∈ S):zD S H (upd H p o):=fun b u n q=>by
 rw [zJ (fun z=>n (by rw [z];exact h))];exact q
theorem zD.none {S:List Addr} {H H':Hp} (k:zD S H H') {l:Addr} (n:l ∉ S) (h:H' l=Option.none):H l=Option.none:=by
 cases q:H l with
 | none=>rfl
 | some o=>rw [k l o n q] at h;cases h
theorem zD.same {H H':Hp} (k:zD [] H H'):zDZ H H':=fun b o h=>k b o (by simp) h
theorem zD.seq {K:PySem.W.Frag} {H H':Hp} {a:Addr} {xs:List V} (k:zD [] H H') (h:SqL K H a xs):SqL K H' a xs:=k.same.seq h
theorem dZ {J:It} {xs:List Str} {ix:List Nat} {g:TG} {tt:TT} {te:TE} {n:Nat} {σ:St} {H1:Hp} {Q:VK} {acc:Addr} (hn:n < sizeLine) (item:Nat->V) (Pv:Nat->List V->St->Hp->Prop)
  (h0:Pv 0 [] (stC xs ix σ) (upd H1 acc (.lst [])))
  (hacc:∀ i ys τ H,Pv i ys τ H->H acc=some (.lst ys)/\ys.length <= i)
  (hgo:∀ i ys τ H,i < n->Pv i ys τ H->J.go i H) (hyl:∀ i ys τ H x H',i < n->Pv i ys τ H->J.yld i H x H'->H'=H/\x=item i) (hst:∀ ys τ H,Pv n ys τ H->J.stop n H)
  (hs:∀ i ys τ H,i < n->Pv i ys τ H->g (item i) τ H fun τ2 H2=>tt τ2 H2 fun b H3=>
   if b=true then te τ2 H3 fun y H4=>H4 acc=some (.lst ys)/\Pv (i + 1) (ys ++ [y]) τ2 (upd H4 acc (.lst (ys ++ [y]))) else Pv (i + 1) ys τ2 H3)
  (hd:∀ ys τ H,Pv n ys τ H->Q (.ref acc) H) :
  LCW J xs ix g tt te σ H1 acc Q:=by
 refine ⟨fun i m ys τ H=>m=n - i/\i <= n/\Pv i ys τ H,⟨n,by simp,zGR _,h0⟩,?_⟩
 rintro i m ys τ H ⟨rfl,hi,p⟩
 obtain ⟨a1,a2⟩:=hacc i ys τ H p
 refine ⟨a1,by omega,?_⟩
 by_cases hlt:i < n
 ·refine .inr ⟨hgo i ys τ H hlt p,Pv (i + 1),fun ys' τ' H' p'=>⟨n - (i + 1),by omega,rfl,hlt,p'⟩,fun x H' y=>?_⟩
  obtain ⟨rfl,rfl⟩:=hyl i ys τ H x H' hlt p y
  exact hs i ys τ _ hlt p
 ·have e:i=n:=by omega
  subst e
  exact .inl ⟨hst ys τ H p,hd ys τ H p⟩
theorem dS {xs:List Str} {ix:List Nat} {g:TG} {tt:TT} {te:TE} {lo:Int} {n:Nat} {σ:St} {H1:Hp} {Q:VK} {acc:Addr} (hn:n < sizeLine) (Pv:Nat->List V->St->Hp->Prop)
  (h0:Pv 0 [] (stC xs ix σ) (upd H1 acc (.lst [])))
  (hacc:∀ i ys τ H,Pv i ys τ H->H acc=some (.lst ys)/\ys.length <= i)
  (hs:∀ i ys τ H,i < n->Pv i ys τ H->g (.int (lo + i)) τ H fun τ2 H2=>tt τ2 H2 fun b H3=>
   if b=true then te τ2 H3 fun y H4=>H4 acc=some (.lst ys)/\Pv (i + 1) (ys ++ [y]) τ2 (upd H4 acc (.lst (ys ++ [y]))) else Pv (i + 1) ys τ2 H3)
  (hd:∀ ys τ H,Pv n ys τ H->Q (.ref acc) H) :
  LCW (Itr lo n) xs ix g tt te σ H1 acc Q:=
 dZ hn (fun i=>.int (lo + i)) Pv h0 hacc (fun i _ _ _ h _=>h) (fun i _ _ _ _ _ _ _ h=>h) (fun _ _ _ _=>zGQ n) hs hd
theorem zDI {xs:List Str} {ix:List Nat} {g:TG} {tt:TT} {te:TE} {z:Str} {σ:St} {H1:Hp} {Q:VK} {acc:Addr} (hn:z.cps.size < sizeLine) (Pv:Nat->List V->St->Hp->Prop)
  (h0:Pv 0 [] (stC xs ix σ) (upd H1 acc (.lst [])))
  (hacc:∀ i ys τ H,Pv i ys τ H->H acc=some (.lst ys)/\ys.length <= i)
  (hs:∀ i ys τ H,i < z.cps.size->Pv i ys τ H->g (.str ⟨#[z.cps.getD i 0]⟩) τ H fun τ2 H2=>tt τ2 H2 fun b H3=>
   if b=true then te τ2 H3 fun y H4=>H4 acc=some (.lst ys)/\Pv (i + 1) (ys ++ [y]) τ2 (upd H4 acc (.lst (ys ++ [y]))) else Pv (i + 1) ys τ2 H3)
  (hd:∀ ys τ H,Pv z.cps.size ys τ H->Q (.ref acc) H) :
  LCW (Its z) xs ix g tt te σ H1 acc Q:=
 dZ hn (fun i=>.str ⟨#[z.cps.getD i 0]⟩) Pv h0 hacc (fun i _ _ _ h _=>h) (fun i _ _ _ x H' _ _ h=>⟨h.1,by
  obtain ⟨_,c,e,ex⟩:=h
  rw [ex,show z.cps.getD i 0=c by rw [zHG,e];rfl]⟩) (fun _ _ _ _=>rfl) hs hd
theorem r9 {K:PySem.W.Frag} {a:Addr} {its:List V} {xs:List Str} {ix:List Nat} {g:TG} {tt:TT} {te:TE} {σ:St} {H1:Hp} {Q:VK} {acc:Addr} (hn:its.length < sizeLine) (Pv:Nat->List V->St->Hp->Prop)
  (h0:Pv 0 [] (stC xs ix σ) (upd H1 acc (.lst [])))
  (hacc:∀ i ys τ H,Pv i ys τ H->H acc=some (.lst ys)/\ys.length <= i/\SqL K H a its)
  (hs:∀ i ys τ H x,its[i]?=some x->Pv i ys τ H->g x τ H fun τ2 H2=>tt τ2 H2 fun b H3=>
   if b=true then te τ2 H3 fun y H4=>H4 acc=some (.lst ys)/\Pv (i + 1) (ys ++ [y]) τ2 (upd H4 acc (.lst (ys ++ [y]))) else Pv (i + 1) ys τ2 H3)
  (hd:∀ ys τ H,Pv its.length ys τ H->Q (.ref acc) H) :
  LCW (Itl K a) xs ix g tt te σ H1 acc Q:=by
 refine dZ hn (fun i=>its.getD i .non) Pv h0 (fun i ys τ H p=>⟨(hacc i ys τ H p).1,(hacc i ys τ H p).2.1⟩) (fun i ys τ H h p=>⟨its,its[i],(hacc i ys τ H p).2.2,by simp [h]⟩)
  (fun i ys τ H x H' h p y=>⟨y.1,?_⟩) (fun ys τ H p=>⟨its,(hacc _ ys τ H p).2.2,zGQ _⟩) (fun i ys τ H h p=>hs i ys τ H _ (by simp [zGM,h]) p) hd
 have e:=y.2 its (hacc i ys τ H p).2.2
 rw [zGM,e];rfl
theorem qD {g:TG} {te:TE} {x:V} {τ:St} {H:Hp} {R:St->Hp->VK} {N:St->Hp->Prop} (h:g x τ H fun τ2 H2=>te τ2 H2 (R τ2 H2)) :
  g x τ H fun τ2 H2=>tM τ2 H2 fun b H3=>if b=true then te τ2 H3 (R τ2 H3) else N τ2 H3:=by
 have e:(fun τ2 H2=>tM τ2 H2 fun b H3=>if b=true then te τ2 H3 (R τ2 H3) else N τ2 H3)=fun τ2 H2=>te τ2 H2 (R τ2 H2):=by
  funext τ2 H2
  show (if true=true then te τ2 H2 (R τ2 H2) else N τ2 H2)=_
  rw [if_pos rfl]
 rw [e];exact h
theorem tE {xs:List Str} {ix:List Nat} {g:TG} {te:TE} {lo:Int} {n:Nat} {σ:St} {H1:Hp} {Q:VK} {acc:Addr} (hn:n < sizeLine) (Pv:Nat->List V->St->Hp->Prop)
  (h0:Pv 0 [] (stC xs ix σ) (upd H1 acc (.lst [])))
  (hacc:∀ i ys τ H,Pv i ys τ H->H acc=some (.lst ys)/\ys.length <= i)
  (hs:∀ i ys τ H,i < n->Pv i ys τ H->g (.int (lo + i)) τ H fun τ2 H2=>te τ2 H2 fun y H4=>H4 acc=some (.lst ys)/\Pv (i + 1) (ys ++ [y]) τ2 (upd H4 acc (.lst (ys ++ [y]))))
  (hd:∀ ys τ H,Pv n ys τ H->Q (.ref acc) H):LCW (Itr lo n) xs ix g tM te σ H1 acc Q:=
 dS hn Pv h0 hacc (fun i ys τ H hi p=>qD (R:=fun τ2 _=>fun y H4=>H4 acc=some (.lst ys)/\Pv (i + 1) (ys ++ [y]) τ2 (upd H4 acc (.lst (ys ++ [y])))) (hs i ys τ H hi p)) hd
theorem zAQ {xs:List Str} {ix:List Nat} {g:TG} {te:TE} {z:Str} {σ:St} {H1:Hp} {Q:VK} {acc:Addr} (hn:z.cps.size < sizeLine) (Pv:Nat->List V->St->Hp->Prop)
  (h0:Pv 0 [] (stC xs ix σ) (upd H1 acc (.lst [])))
  (hacc:∀ i ys τ H,Pv i ys τ H->H acc=some (.lst ys)/\ys.length <= i)
  (hs:∀ i ys τ H,i < z.cps.size->Pv i ys τ H->g (.str ⟨#[z.cps.getD i 0]⟩) τ H fun τ2 H2=>te τ2 H2 fun y H4=>H4 acc=some (.lst ys)/\Pv (i + 1) (ys ++ [y]) τ2 (upd H4 acc (.lst (ys ++ [y]))))
  (hd:∀ ys τ H,Pv z.cps.size ys τ H->Q (.ref acc) H):LCW (Its z) xs ix g tM te σ H1 acc Q:=
 zDI hn Pv h0 hacc (fun i ys τ H hi p=>qD (R:=fun τ2 _=>fun y H4=>H4 acc=some (.lst ys)/\Pv (i + 1) (ys ++ [y]) τ2 (upd H4 acc (.lst (ys ++ [y])))) (hs i ys τ H hi p)) hd
theorem u5 {K:PySem.W.Frag} {a:Addr} {its:List V} {xs:List Str} {ix:List Nat} {g:TG} {te:TE} {σ:St} {H1:Hp} {Q:VK} {acc:Addr} (hn:its.length < sizeLine) (Pv:Nat->List V->St->Hp->Prop)
  (h0:Pv 0 [] (stC xs ix σ) (upd H1 acc (.lst [])))
  (hacc:∀ i ys τ H,Pv i ys τ H->H acc=some (.lst ys)/\ys.length <= i/\SqL K H a its)
  (hs:∀ i ys τ H x,its[i]?=some x->Pv i ys τ H->g x τ H fun τ2 H2=>te τ2 H2 fun y H4=>H4 acc=some (.lst ys)/\Pv (i + 1) (ys ++ [y]) τ2 (upd H4 acc (.lst (ys ++ [y]))))
  (hd:∀ ys τ H,Pv its.length ys τ H->Q (.ref acc) H):LCW (Itl K a) xs ix g tM te σ H1 acc Q:=
 r9 hn Pv h0 hacc (fun i ys τ H x hi p=>qD (R:=fun τ2 _=>fun y H4=>H4 acc=some (.lst ys)/\Pv (i + 1) (ys ++ [y]) τ2 (upd H4 acc (.lst (ys ++ [y])))) (hs i ys τ H x hi p)) hd
end L2
namespace L2
open PySem PySem.Spec PyProof.Rows
section
variable {X:Cx}
def eB:R2:=fun x y H Q=>∃ p xs i v,x=.ref p/\y=.int i/\H p=some (.lst xs)/\atI xs i=some v/\Q v H
theorem zW:IxR X eB:=fun value slice pins s σ H x y v u Q I rx ry hz hs=>by
 obtain ⟨p,xs,i,z,a,b,c,d,e⟩:=hz
 exact iE value slice pins s σ H x y v u Q I rx ry ⟨p,xs,i,z,a,b,.of c,d,e⟩ hs
def f9:R2:=fun x y H Q=>∃ p xs i v,x=.ref p/\y=.int i/\H p=some (.tup xs)/\atI xs i=some v/\Q v H
theorem zY:IxR X f9:=fun value slice pins s σ H x y v u Q I rx ry hz hs=>by
 obtain ⟨p,xs,i,z,a,b,c,d,e⟩:=hz
 exact zDO value slice pins s σ H x y v u Q I rx ry ⟨p,xs,i,z,a,b,.of c,d,e⟩ hs
end
end L2
namespace L2
open PySem PySem.Spec PyProof.Rows
def tL (N:List Str) (sc:Scope) (xs:List Str) (ix:List Nat) (scope:Scope):Prop:=
 scope.kind=.function/\(∀ y ∈ scope.names,y.2 ≠ .cell)/\(∀ y ∈ scope.names,y.2=.local->scope.names.lookup y.1=some .local) /\
 (∀ y ∈ scope.names,y.2=.free->sc.names.lookup y.1=some .cell \/ sc.names.lookup y.1=some .free)/\(∀ x ∈ xs,scope.names.lookup x=some .local) /\
 (xs ++ ix.map (fun i=>N.getD i "")).Nodup/\(∀ i ∈ ix,i < N.length)/\(∀ i ∈ ix,scope.names.lookup (N.getD i "")=some .free)
instance {N:List Str} {sc:Scope} {xs:List Str} {ix:List Nat} {scope:Scope}:Decidable (tL N sc xs ix scope):=by unfold tL;infer_instance
theorem tL.at {X:Cx} {N:List Str} {sc:Scope} {xs:List Str} {ix:List Nat} {scope:Scope} (S:tL N sc xs ix scope) (hN:X.N=N) (hsc:X.env.scope=sc):x6 X xs ix scope:=by
 obtain ⟨a,b,c,d,e,f,g,h⟩:=S
 subst hN hsc
 exact ⟨a,b,c,fun n hn=>d (n,.free) hn rfl,e,f,g,h⟩
theorem vT {X:Cx} {N:List Str} {sc:Scope} {x:Str} {ix:List Nat} {scope:Scope} {elt iter:Expr} {ifs:List Expr} {px pos:Pos} {wi:TI} {tt:TT} {te:TE}
  (hS:tL N sc [x] ix scope) (hi:PI X (.Name x px) iter wi)
  (ht:∀ C fp s H,PTs (cxC X [x] ix scope C fp s H) ifs tt) (he:∀ C fp s H,PE (cxC X [x] ix scope C fp s H) elt te)
  (hN:X.N=N:=by rfl) (hsc:X.env.scope=sc:=by rfl) (hc:X.calm=true:=by rfl)
  (hs:∀ x,foldedSetIterable iter X.env x=pure x:=by intro _;rfl) :
  PE X (.ListComp elt [⟨.Name x px,iter,ifs,0⟩] scope pos) (tLC [x] ix wi (wK 0) tt te):=by
 have S:=hS.at (X:=X) hN hsc
 have hl:∀ C fp s H,(cxC X [x] ix scope C fp s H).env.scope.names.lookup x=some .local:=fun _ _ _ _=>lookup_relabel_local (S.own x (by simp))
 exact zBN S hc hi (fun C fp s H=>yH S.nd rfl (Or.inl (hl C fp s H)) (.inr (hl C fp s H))) ht he hs
theorem u9 {X:Cx} {N:List Str} {sc:Scope} {x y:Str} {ix:List Nat} {scope:Scope} {elt iter:Expr} {ifs:List Expr} {px cpos pos pos':Pos} {wi:TI} {tt:TT} {te:TE} {i:Nat}
  (hN':X.N.Nodup) (hin:X.N[i]?=some y) (hx:Loc X.env.scope y)
  (hS:tL N sc [x] ix scope) (hi:PI X (.Name x px) iter wi)
  (ht:∀ C fp s H,PTs (cxC X [x] ix scope C fp s H) ifs tt) (he:∀ C fp s H,PE (cxC X [x] ix scope C fp s H) elt te)
  (hN:X.N=N:=by rfl) (hsc:X.env.scope=sc:=by rfl) (hc:X.calm=true:=by rfl)
  (hsw:swapsWith (.ListComp elt [⟨.Name x px,iter,ifs,0⟩] scope cpos) (some (.Name y pos')) pos.line X.env=pure true:=by rfl)
  (hf:X.fn y=true \/ X.env.scope.names.lookup y=some .local:=by first | exact .inl rfl | exact .inr rfl | assumption)
  (hs:∀ x,foldedSetIterable iter X.env x=pure x:=by intro _;rfl) :
  PS X (.Assign [.Name y pos'] (.ListComp elt [⟨.Name x px,iter,ifs,0⟩] scope cpos) pos) (nX (tLC [x] ix wi (wK 0) tt te) (wK i)):=by
 have S:=hS.at (X:=X) hN hsc
 have hl:∀ C fp s H,(cxC X [x] ix scope C fp s H).env.scope.names.lookup x=some .local:=fun _ _ _ _=>lookup_relabel_local (S.own x (by simp))
 exact mJ hN' hin hx S hc hi (fun C fp s H=>yH S.nd rfl (Or.inl (hl C fp s H)) (.inr (hl C fp s H))) ht he hsw hf hs
theorem zAP (x y:Str):(x ++ y).length=x.length + y.length:=by
 show (x.cps ++ y.cps).size=_
 simp [Str.length]
end L2
namespace L2
open PySem PySem.Spec PyProof.Rows
theorem zD.drop {S:List Addr} {H H':Hp} {a:Addr} (k:zD (a :: S) H H') (h:H a=Option.none):zD S H H':=fun b o n q=>k b o (fun z=>(List.mem_cons.mp z).elim (fun e=>by rw [e,h] at q;cases q) n) q
theorem zM {H:Hp} {p a:Addr} {o:HO} (h:upd H p o a=Option.none):H a=Option.none/\a ≠ p:=by
 by_cases e:a=p
 ·rw [e,zB] at h;cases h
 ·rw [zJ e] at h;exact ⟨h,e⟩
theorem cA (ys:List Str):(Txt.join (Str.ofString "") ys).length=(ys.map (·.length)).sum:=by
 show (Builtin.Str.glued (Str.ofString "") ys).length=_
 rw [size_glued]
 show _ + (ys.length - 1) * 0=_
 omega
theorem nY:∀ (ys:List Str),(∀ z ∈ ys,z.length=1)->(ys.map (·.length)).sum=ys.length
 | [],_=>rfl
 | y :: ys,h=>by
  rw [List.map_cons,List.sum_cons,h y zHA,nY ys fun z hz=>h z (zGU _ hz),zG2]
  omega
end L2
namespace L2
theorem tX {α:Type} {xs:List α} {i:Int} (h0:0 <= i) (h1:i < xs.length):∃ v,atI xs i=some v/\xs[i.toNat]?=some v:=by
 have hl:i.toNat < xs.length:=by omega
 refine ⟨xs[i.toNat],?_,zGI hl⟩
 have e:=uR (zGI hl)
 rwa [Int.toNat_of_nonneg h0] at e
end L2
namespace L2
open PySem PySem.Spec PyProof.Rows
structure Glo (mg:Str->Option Value) (x:Str) (v:V):Prop where
 ex:∃ u,mg x=some u/\yN v u
theorem eV {X:Cx} {x:Str} {v:V} {pos:Pos} (g:Glo X.mg x v) (hg:Gl X x:=by rfl) (hd:(x == ("__debug__" : Str))=false:=by decide):PE X (.Name x pos) (tC v):=
 let ⟨_,hm,r⟩:=g.ex
 aS hg hm r hd
inductive y4 (K:PySem.W.Frag) (H:Hp):V->String->Prop where
 | non:y4 K H .non "NoneType"
 | bl (x:Bool):y4 K H (.bl x) "bool"
 | int (i:Int):y4 K H (.int i) "int"
 | str (x:Str):y4 K H (.str x) "str"
 | lst {a:Addr} {xs:List V} (e:H a=some (.lst xs)):y4 K H (.ref a) "list"
 | tup {a:Addr} {xs:List V} (e:H a=some (.tup xs)):y4 K H (.ref a) "tuple"
 | dK {a:Addr} {kvs:List (Key × V)} (e:H a=some (.dK kvs)):y4 K H (.ref a) "dict"
theorem y4.ty {K:PySem.W.Frag} {H:Hp} {x:V} {T:String} (h:y4 K H x T):sM K H x (.type T):=by
 cases h with
 | non=>exact .non
 | bl b=>exact .bl b
 | int i=>exact .int i
 | str z=>exact .str z
 | lst e=>exact .lst e
 | tup e=>exact .tup e
 | dK e=>exact .dK e
theorem y4.kit {K:PySem.W.Frag} {H:Hp} {x:V} {T:String} (h:y4 K H x T):PySem.W.kitOne K (.type T) (.type "str")=some (T == "str")/\PySem.W.kitOne K (.type T) (.type "int")=some (T == "int" || T == "bool") /\
  PySem.W.kitOne K (.type T) (.type "bool")=some (T == "bool")/\PySem.W.kitOne K (.type T) (.type "list")=some (T == "list")/\PySem.W.kitOne K (.type T) (.type "tuple")=some (T == "tuple"):=by
 cases h <;> exact ⟨rfl,rfl,rfl,rfl,rfl⟩
theorem y4.keep {K:PySem.W.Frag} {H H':Hp} {x:V} {T:String} (h:y4 K H x T) (k:zD [] H H'):y4 K H' x T:=by
 cases h with
 | non=>exact .non
 | bl b=>exact .bl b
 | int i=>exact .int i
 | str z=>exact .str z
 | lst e=>exact .lst (k _ _ (by simp) e)
 | tup e=>exact .tup (k _ _ (by simp) e)
 | dK e=>exact .dK (k _ _ (by simp) e)
abbrev abc:Str:="abcdefghijklmnopqrstuvwxyz"
noncomputable def vO (c:Nat):Bool:=!(Builtin.Str.occurrences abc ⟨#[c]⟩ 0 abc.length 1).isEmpty
noncomputable def vM (z:Str):Bool:=decide (1 <= z.length) && decide (z.length <= 8) && z.cps.toList.all vO
noncomputable def wJ:V->Bool
 | .str z=>vM z
 | _=>false
theorem jA {α:Type} (l:List α) (f:α->Bool):(l.map f).all id=l.all f:=by rw [List.all_map];rfl
end L2
namespace L2
open PySem
theorem yM:bootBuiltins "isinstance"=some (.builtin "isinstance"):=by decide +kernel
theorem xB:bootBuiltins "len"=some (.builtin "len"):=by decide +kernel
theorem nM:bootBuiltins "all"=some (.builtin "all"):=by decide +kernel
theorem pX:bootBuiltins "sorted"=some (.builtin "sorted"):=by decide +kernel
theorem zDT:bootBuiltins "min"=some (.builtin "min"):=by decide +kernel
theorem zDR:bootBuiltins "str"=some (.type "str"):=by decide +kernel
theorem kX:bootBuiltins "int"=some (.type "int"):=by decide +kernel
theorem qC:bootBuiltins "bool"=some (.type "bool"):=by decide +kernel
theorem vG:bootBuiltins "list"=some (.type "list"):=by decide +kernel
theorem pD:bootBuiltins "tuple"=some (.type "tuple"):=by decide +kernel
theorem zDS:bootBuiltins "set"=some (.type "set"):=by decide +kernel
theorem bC:bootBuiltins "range"=some (.type "range"):=by decide +kernel
end L2
namespace L2
theorem ifF {c:Bool} {A B:Prop} (h:c=false) (k:B):if c=true then A else B:=by rw [h];exact kP k
theorem ifT {c:Bool} {A B:Prop} (h:c=true) (k:A):if c=true then A else B:=by rw [h];exact gC k
end L2
namespace L2
open PySem PySem.Spec PyProof.Rows
noncomputable def eqT (xs ys:List V):Bool:=xs.length == ys.length && (List.zipWith eqV xs ys).all id
theorem m9 {x:V} (f:y1 x=true):eqV x x=true:=by
 cases x with
 | non=>rfl
 | bl b=>cases b <;> rfl
 | int i=>show (i == i)=true;simp
 | str z=>show (z == z)=true;simp
 | _=>exact absurd (show false=true from f) zG9
theorem oA:∀ (xs ys:List V),(List.zipWith eqV xs ys).all id=(List.range (min xs.length ys.length)).all fun j=>eqV (xs.getD j .non) (ys.getD j .non)
 | [],_=>by simp
 | _ :: _,[]=>by simp
 | x :: xs,y :: ys=>by
  have e:min (x :: xs).length (y :: ys).length=min xs.length ys.length + 1:=by simp [Nat.succ_min_succ]
  rw [e,List.range_succ_eq_map,List.all_cons,List.all_map,List.zipWith_cons_cons,List.all_cons,oA xs ys]
  rfl
theorem cP:∀ {xs:List V},xs.all y1=true->eqT xs xs=true:=fun {xs} f=>by
 unfold eqT
 rw [beq_self_eq_true,Bool.true_and,oA,List.all_eq_true]
 intro j hj
 have hl:j < xs.length:=by have:=List.mem_range.mp hj;omega
 rw [zGM,zGI hl]
 exact m9 (List.all_eq_true.mp f _ (List.getElem_mem hl))
section
variable {X:Cx}
theorem cQ {pins:List (Addr × Obj)} {σ:St} {H:Hp} {s:Shared} {A:Around} {a b:Addr} {xs ys:List V} (I:Inv X pins σ H s) (h1:SqT X.K H a xs) (h2:SqT X.K H b ys) (f1:xs.all y1=true) (f2:ys.all y1=true)
  (hu:A.units < cLine):SeqAt.EqAt A s (.ref a) (.ref b) (eqT xs ys):=by
 by_cases e:a=b
 ·subst e
  have e2:=I.tuple_inj h1 h2
  subst e2
  rw [cP f1]
  exact SeqAt.EqAt.same _
 ·obtain ⟨i1,r1,t1,_⟩:=I.tuple h1
  obtain ⟨i2,r2,t2,_⟩:=I.tuple h2
  have l1:=r1.length
  have l2:=r2.length
  have key:=SeqAt.RcAt.tuples (A:=A) (s:=s) (l:=a) (b:=b) (e:=fun j=>eqV (xs.getD j .non) (ys.getD j .non)) (show s.heap.IsTuple a i1.toArray from t1) (show s.heap.IsTuple b i2.toArray from t2) hu (fun j g1 g2=>by
   have g1':j < i1.length:=by simpa using g1
   have g2':j < i2.length:=by simpa using g2
   obtain ⟨u,eu,ru⟩:=r1.get (i:=j) (zGI (by omega:j < xs.length))
   obtain ⟨v,ev,rv⟩:=r2.get (i:=j) (zGI (by omega:j < ys.length))
   have eu':i1.toArray[j]=u:=by
    rw [zGI g1'] at eu
    simpa using zGO eu
   have ev':i2.toArray[j]=v:=by
    rw [zGI g2'] at ev
    simpa using zGO ev
   rw [eu',ev']
   have q1:xs.getD j .non=xs[j]'(by omega):=by rw [zGM,zGI (by omega)];rfl
   have q2:ys.getD j .non=ys[j]'(by omega):=by rw [zGM,zGI (by omega)];rfl
   show SeqAt.EqAt _ _ _ _ (eqV (xs.getD j .non) (ys.getD j .non))
   rw [q1,q2]
   exact nJ ru rv (List.all_eq_true.mp f1 _ (List.getElem_mem _)) (List.all_eq_true.mp f2 _ (List.getElem_mem _)))
  have ee:eqT xs ys=((List.range (min i1.toArray.size i2.toArray.size)).all (fun j=>eqV (xs.getD j .non) (ys.getD j .non)) && i1.toArray.size == i2.toArray.size):=by
   unfold eqT
   rw [oA,zGP,zGP,<- l1,<- l2,Bool.and_comm]
  rw [ee]
  exact SeqAt.EqAt.of_refs e key
def Rows (H:Hp) (p:Addr) (rows:List (List V)):Prop:=∃ ps:List Addr,H p=some (.lst (ps.map V.ref))/\Paired (fun q r=>H q=some (.tup r)) ps rows
theorem xJ {α β:Type} {F:α->β->Prop} {xs:List α} {ys:List β} (h:Paired F xs ys):∀ (i:Nat) (x:α),xs[i]?=some x->∃ y,ys[i]?=some y/\F x y:=by
 induction h with
 | nil=>intro i x h;simp at h
 | cons r _ ih=>
  intro i x h
  cases i with
  | zero=>simp at h;subst h;exact ⟨_,rfl,r⟩
  | succ i=>
   obtain ⟨y,h1,h2⟩:=ih i x (by simpa using h)
   exact ⟨y,by simpa using h1,h2⟩
theorem uK {α β:Type} {F:α->β->Prop}:∀ {xs:List α} {ys:List β} (i:Nat),Paired F xs ys->Paired F (xs.eraseIdx i) (ys.eraseIdx i)
 | _,_,_,.nil=>.nil
 | _,_,0,.cons _ t=>t
 | _,_,i + 1,.cons r t=>.cons r (uK i t)
theorem x8 {α β:Type} {F:α->β->Prop} {a:α} {b:β} {xs:List α} {ys:List β} (h:Paired F xs ys) (r:F a b):Paired F (xs ++ [a]) (ys ++ [b]):=by
 induction h with
 | nil=>exact .cons r .nil
 | cons q _ ih=>exact .cons q ih
theorem zP {α β:Type} {F:α->β->Prop} {xs:List α} {ys:List β} (h:Paired F xs ys):xs.length=ys.length:=by
 induction h with
 | nil=>rfl
 | cons _ _ ih=>exact congrArg Nat.succ ih
theorem Rows.keep {H H':Hp} {p:Addr} {rows:List (List V)} (h:Rows H p rows) (k:zD [] H H'):Rows H' p rows:=by
 obtain ⟨ps,e,r⟩:=h
 exact ⟨ps,k _ _ (by simp) e,L2.Paired.mapP r fun q x z=>k _ _ (by simp) z⟩
theorem rY:∀ {ps:List Addr} {us:List Value},yI (ps.map V.ref) us->us=ps.map Value.ref
 | [],_,.nil=>rfl
 | p :: ps,_,.cons r t=>by cases r;rw [List.map_cons,rY t]
noncomputable def vV (H:Hp) (xs:List V) (u:Value):Bool:=match u with
 | .ref q=>(match H q with | some (.tup r)=>eqT r xs | _=>false)
 | _=>false
theorem rD {H:Hp} {xs:List V}:∀ {ps:List Addr} {rows:List (List V)},Paired (fun q r=>H q=some (.tup r)) ps rows->(ps.map Value.ref).any (vV H xs)=rows.any fun r=>eqT r xs
 | _,_,.nil=>rfl
 | p :: ps,r :: rows,.cons e t=>by
  rw [List.map_cons,List.any_cons,List.any_cons,rD t]
  have e1:vV H xs (.ref p)=eqT r xs:=by unfold vV;simp only [e]
  rw [e1]
theorem uO {pins:List (Addr × Obj)} {σ:St} {H:Hp} {s:Shared} {A:Around} {t:Addr} {xs:List V} (I:Inv X pins σ H s) (ht:H t=some (.tup xs)) (fx:xs.all y1=true) (hu:A.units < cLine) :
  ∀ {ps:List Addr} {rows:List (List V)},Paired (fun q r=>H q=some (.tup r)) ps rows->(∀ r ∈ rows,r.all y1=true)->∀ u ∈ ps.map Value.ref,SeqAt.EqAt A s u (.ref t) (vV H xs u)
 | _,_,.nil,_=>fun u hu'=>by cases hu'
 | p :: ps,r :: rows,.cons e tl,f=>fun u hu'=>by
  rcases List.mem_cons.mp hu' with rfl | hu'
  ·have e1:vV H xs (.ref p)=eqT r xs:=by unfold vV;simp only [e]
   rw [e1]
   exact cQ I (.of e) (.of ht) (f r zHA) fx hu
  ·exact uO I ht fx hu tl (fun r' hr=>f r' (zGU _ hr)) u hu'
def aK (neg:Bool):R2:=fun x y H Q=>∃ p t xs rows,y=.ref p/\x=.ref t/\Rows H p rows/\H t=some (.tup xs)/\xs.all y1=true/\(∀ r ∈ rows,r.all y1=true)/\Q (.bl (if neg then !rows.any (fun r=>eqT r xs) else rows.any fun r=>eqT r xs)) H
theorem tF {A:Around} (h:A.units + 1 < cLine):A.in1.units < cLine:=by
 have e:A.in1.units=A.units + 1:=rfl
 omega
theorem oY (hu:X.A.units + 1 < cLine):OpR X (compareOp .In) (aK false):=by
 intro pins s σ H x y v u Q I rx ry h
 obtain ⟨p,t,xs,rows,rfl,rfl,⟨ps,hp,hr⟩,ht,fx,fr,q⟩:=h
 cases ry;cases rx
 obtain ⟨its,r,pl,hz⟩:=I.list (.of hp)
 have e:=rY r
 subst e
 refine SeqAt.in_listAt (vV H xs) pl.isList (fun w hw=>uO I ht fx (tF hu) hr fr w (by simpa using hw)) ⟨.bl _,H,I,rfl,?_⟩
 rw [show (ps.map Value.ref).toArray.any (vV H xs)=(ps.map Value.ref).any (vV H xs) by simp,rD hr]
 exact q
theorem pM (hu:X.A.units + 1 < cLine):OpR X (compareOp .NotIn) (aK true):=by
 intro pins s σ H x y v u Q I rx ry h
 obtain ⟨p,t,xs,rows,rfl,rfl,⟨ps,hp,hr⟩,ht,fx,fr,q⟩:=h
 cases ry;cases rx
 obtain ⟨its,r,pl,hz⟩:=I.list (.of hp)
 have e:=rY r
 subst e
 refine SeqAt.notIn_listAt (vV H xs) pl.isList (fun w hw=>uO I ht fx (tF hu) hr fr w (by simpa using hw)) ⟨.bl _,H,I,rfl,?_⟩
 rw [show (ps.map Value.ref).toArray.any (vV H xs)=(ps.map Value.ref).any (vV H xs) by simp,rD hr]
 exact q
theorem tD {α β:Type} (f:α->β):∀ (l:List α) (j:Nat),(l.map f).eraseIdx j=(l.eraseIdx j).map f
 | [],_=>rfl
 | _ :: _,0=>rfl
 | x :: l,j + 1=>by simp [tD f l j]
theorem rF:∀ ps:List Addr,yI (ps.map V.ref) (ps.map Value.ref)
 | []=>.nil
 | _ :: ps=>.cons rfl (rF ps)
open MeetsSeq in
open AutoSeq1 (wpAny_loadPart') in
theorem iW (l:Addr) (items:Array Value) (n:Nat) (x:Value) (e:Value->Bool) (j:Nat) (hj:j < items.size) (hit:e items[j]=true) (hs1:items.size <= sizeLine) (k:Nat) :
  ∀ i:Nat,j - i=k->i <= j->(∀ m (hm:m < items.size),i <= m->m < j->e items[m]=false)->Meets (Builtin.«list.remove.loop» ⟨[.ref l,x,rawInt i],[]⟩)
   (fun A R s=>s.heap.get? l=some { cls:=.type "list",dict:=none,data:=.seq items n,slots:=#[] }/\(∀ y,y ∈ items->SeqAt.EqAt A.in1 s y x (e y)) /\
    R (.ok (.ret .none)) { s with heap:=s.heap.update l (Obj.mapSeq fun xs=>xs.eraseIdxIfInBounds j) }):=by
 induction k with
 | zero=>
  intro i hk hij hno prog w A R s h
  obtain ⟨hp,g,d,tk,os⟩:=s
  obtain ⟨hl,he,h⟩:=h
  obtain rfl:i=j:=by omega
  wp_walk using wpAny_loadPart' hl
  have at_i:items[((i:Nat):Int).toNat]?=some items[i]:=by simp [hj]
  rw [at_i]
  refine wpAny_bind (he _ (Array.getElem_mem hj) prog w _ _ ?_)
  rw [hit]
  have fits:(items.eraseIdxIfInBounds i).size <= sizeLine + 1:=zGS (size_erased items i) (Nat.le_succ_of_le hs1)
  wp_walk using (wpAny_updateSeq hl rfl (hz:=hs1) (_hz':=fits)),wpAny_loadPart' hl
  simpa using h
 | succ k ih=>
  intro i hk hij hno prog w A R s h
  obtain ⟨hp,g,d,tk,os⟩:=s
  obtain ⟨hl,he,h⟩:=h
  have less:i < items.size:=by omega
  wp_walk using wpAny_loadPart' hl
  have at_i:items[((i:Nat):Int).toNat]?=some items[i]:=by simp [less]
  have one:((i:Int) + 1)=((i + 1:Nat):Int):=by push_cast;rfl
  rw [at_i]
  refine wpAny_bind (he _ (Array.getElem_mem less) prog w _ _ ?_)
  rw [hno i less (zGQ _) (by omega)]
  wp_walk
  rw [one]
  refine ⟨plainId_quiet plain_remove_loop _,codeAny_builtin entry_remove_loop ?_⟩
  rw [Around.under_plainId plain_remove_loop _]
  exact ih (i + 1) (by omega) (by omega) (fun m hm h1 h2=>hno m hm (by omega) h2) prog w A R _ ⟨hl,he,h⟩
open MeetsSeq in
open AutoSeq1 (wpAny_loadPart') in
theorem aI (l:Addr) (items:Array Value) (n:Nat) (x:Value) (e:Value->Bool) (j:Nat) (hj:j < items.size) (hit:e items[j]=true) (hno:∀ m (hm:m < items.size),m < j->e items[m]=false) (hs1:items.size <= sizeLine) :
  Meets (Builtin.«list.remove» ⟨[.ref l,x],[]⟩)
   (fun A R s=>s.heap.get? l=some { cls:=.type "list",dict:=none,data:=.seq items n,slots:=#[] }/\(∀ y,y ∈ items->SeqAt.EqAt A.in1 s y x (e y)) /\
    R (.ok (.ret .none)) { s with heap:=s.heap.update l (Obj.mapSeq fun xs=>xs.eraseIdxIfInBounds j) }):=by
 intro prog w A R s h
 obtain ⟨hp,g,d,tk,os⟩:=s
 obtain ⟨hl,he,h⟩:=h
 wp_walk using wpAny_loadPart' hl
 refine ⟨plainId_quiet plain_remove_loop _,codeAny_builtin entry_remove_loop ?_⟩
 rw [Around.under_plainId plain_remove_loop _]
 exact iW l items n x e j hj hit hs1 _ 0 rfl (zGR _) (fun m hm _ h2=>hno m hm h2) prog w A R _ ⟨hl,he,h⟩
def zFA:V->List V->Hp->VK->Prop:=fun x vs H Q=>∃ l t xs rows j ps,x=.ref l/\vs=[.ref t]/\H l=some (.lst (ps.map V.ref))/\Paired (fun q r=>H q=some (.tup r)) ps rows/\H t=some (.tup xs)/\xs.all y1=true/\(∀ r ∈ rows,r.all y1=true) /\
 (∃ r,rows[j]?=some r/\eqT r xs=true)/\(∀ m r,m < j->rows[m]?=some r->eqT r xs=false)/\Q .non (upd H l (.lst ((ps.eraseIdx j).map V.ref)))
theorem qP (hu:X.A.units + 1 < cLine):MtR X "list.remove" zFA:=by
 intro pins s σ H x vs v us Q I rx rv h
 obtain ⟨l,t,xs,rows,j,ps,rfl,rfl,hH,hp,ht,fx,fr,⟨r,hr,hit⟩,hno,q⟩:=h
 cases rx
 obtain ⟨u,rfl,ru⟩:=rv.one
 cases ru
 obtain ⟨z,its,n,rr,hl,e⟩:=I.lstM hH
 have ei:=rY rr
 subst ei
 have lps:=zP hp
 have hj:j < ps.length:=by have:=(zGJ.mp hr).1;omega
 have eqj:∀ (m:Nat) (hm:m < (ps.map Value.ref).toArray.size),∃ r',rows[m]?=some r'/\vV H xs (ps.map Value.ref).toArray[m]=eqT r' xs:=fun m hm=>by
  have hm':m < ps.length:=by simpa using hm
  obtain ⟨r',e1,e2⟩:=xJ hp m ps[m] (zGI hm')
  refine ⟨r',e1,?_⟩
  have e3:(ps.map Value.ref).toArray[m]=Value.ref ps[m]:=by simp
  rw [e3];unfold vV;simp only [e2]
 have hz:(ps.map Value.ref).toArray.size <= sizeLine:=by rw [zGP,zGH];rw [zGH] at z;exact z
 refine call_meets F.slot_list_remove ⟨_,e,rfl⟩ F.entry_list_remove (F.args_list_remove_2 _ _) (aI l (ps.map Value.ref).toArray n (.ref t) (vV H xs) j (by simpa using hj) ?_ ?_ hz) ⟨e,?_,?_⟩
 ·obtain ⟨r',e1,e2⟩:=eqj j (by simpa using hj)
  rw [hr] at e1;cases e1
  rw [e2];exact hit
 ·intro m hm hlt
  obtain ⟨r',e1,e2⟩:=eqj m hm
  rw [e2];exact hno m r' hlt e1
 ·intro y hy
  exact uO I ht fx (tF hu) hp fr y (by simpa using hy)
 ·refine ⟨.non,_,I.lset (its':=(ps.eraseIdx j).map Value.ref) (ys:=(ps.eraseIdx j).map V.ref) hH e ?_ ?_ ?_,rfl,q⟩
  ·simp [Array.eraseIdxIfInBounds,hj,tD]
  ·exact rF _
  ·rw [zGH] at z ⊢
   exact zGS (uE ps j) z
def zFB (neg:Bool):R2:=fun x y H Q=>∃ a b xs,x=.ref a/\y=.ref b/\H a=some (.lst xs)/\H b=some (.lst [])/\a ≠ b/\Q (.bl (if neg then !xs.isEmpty else xs.isEmpty)) H
theorem zC3 (hu:X.A.units < cLine):OpR X (compareOp .Eq) (zFB false):=by
 intro pins s σ H x y v u Q I rx ry h
 obtain ⟨a,b,xs,rfl,rfl,ha,hb,hne,q⟩:=h
 cases rx;cases ry
 obtain ⟨i1,r1,p1,_⟩:=I.list (.of ha)
 obtain ⟨i2,r2,p2,_⟩:=I.list (.of hb)
 cases r2
 cases xs with
 | nil=>
  cases r1
  exact SeqAt.eq_listAt (e:=fun _=>true) p1.isList p2.isList rfl hu (fun j h1=>by simp at h1) ⟨.bl _,H,I,rfl,q⟩
 | cons x xs=>
  have l1:=r1.length
  refine SeqAt.eq_list_lengthsAt p1.isList p2.isList ?_ hu ⟨.bl false,H,I,rfl,q⟩
  rw [zGP,zGP,<- l1]
  rfl
theorem fA:∀ {Ts:List String} {us:List Value},yI (Ts.map V.ty) us->us=Ts.map Value.type
 | [],_,.nil=>rfl
 | _ :: Ts,_,.cons r t=>by cases r;rw [List.map_cons,fA t]
theorem nL:vN X (.builtin "isinstance") (fun xs H Q=>∃ (x:V) (T:String) (p:Addr) (Ts:List String) (b:Bool),xs=[x,.ref p]/\y4 X.K H x T/\H p=some (.tup (Ts.map V.ty))/\PySem.W.kitAny X.K (.type T) (Ts.map Value.type)=some b/\Q (.bl b) H):=by
 intro pins s σ H xs us Q I r h
 obtain ⟨x,T,p,Ts,b,rfl,pt,hp,e,q⟩:=h
 obtain ⟨u,v,rfl,ru,rv⟩:=r.two
 cases rv
 obtain ⟨its,rt,it,_⟩:=I.tuple (.of hp)
 have ei:=fA rt
 subst ei
 obtain ⟨⟨cls,dd,data,sl⟩,ho,hc,n,hd⟩:=id it
 simp only at hc hd
 subst hc hd
 have fin:∀ tk,EP X pins σ Q (.bool b) { s with toks:=tk }:=fun tk=>⟨.bl b,H,I.tok tk,rfl,q⟩
 cases pt with
 | non=>cases (show u=Value.none from ru);exact PySem.W.kia_tup PySem.W.kitx_none I.kIn True.intro ho e (fun z=>nomatch z) fin
 | bl y=>cases (show u=Value.bool y from ru);exact PySem.W.kia_tup PySem.W.kitx_bool I.kIn True.intro ho e (fun z=>nomatch z) fin
 | int i=>obtain ⟨t,q'⟩:=(show ∃ t,u=Value.int i t from ru);cases q';exact PySem.W.kia_tup PySem.W.kitx_int I.kIn True.intro ho e (fun z=>nomatch z) fin
 | str y=>obtain ⟨t,q'⟩:=(show ∃ t,u=Value.str y t from ru);cases q';exact PySem.W.kia_tup PySem.W.kitx_str I.kIn True.intro ho e (fun z=>nomatch z) fin
 | @lst a xs ea=>
  cases (show u=Value.ref a from ru)
  obtain ⟨_,_,n',_,h1⟩:=(show xP X.prog X.w H s.heap a (.lst xs) from I.hok a _ ea)
  exact PySem.W.kia_tup PySem.W.kitx_list I.kIn ⟨_,h1,rfl⟩ ho e (fun z=>nomatch z) fin
 | @tup a xs ea=>
  cases (show u=Value.ref a from ru)
  obtain ⟨_,_,_,p'⟩:=(show xP X.prog X.w H s.heap a (.tup xs) from I.hok a _ ea)
  obtain ⟨o,h1,h2,_⟩:=p'
  exact PySem.W.kia_tup PySem.W.kitx_tuple I.kIn ⟨o,h1,h2⟩ ho e (fun z=>nomatch z) fin
 | @dK a kvs ea=>
  cases (show u=Value.ref a from ru)
  obtain ⟨_,_,vs,_,p'⟩:=(show xP X.prog X.w H s.heap a (.dK kvs) from I.hok a _ ea)
  obtain ⟨o,es,ep,h1,h2,_⟩:=p'
  exact PySem.W.kia_tup PySem.W.kitx_dict I.kIn ⟨o,h1,h2.1⟩ ho e (fun z=>nomatch z) fin
end
structure y2 (K:PySem.W.Frag) (C:Addr) (m qual:Str) (st:Stmt) (ps:List Str):Prop where
 ex:∃ (f:Addr) (fd:FuncData),Fun K m qual st f fd/\bK K C m f/\uA K fd ps []
structure yJ (P:Program) (w:World) (K:PySem.W.Frag) (mg:Str->Option Value) (base:Heap) (CX:CXT) (k:Nat) (C:Addr) (m:Str) (ps:List Str) (sp:Sp):Prop where
 ex:∃ (f:Addr) (fd:FuncData),uY P w K mg base CX k f fd ps sp/\bK K C m f/\uA K fd ps []
section
variable {P:Program} {w:World} {K:PySem.W.Frag} {mg:Str->Option Value} {base:Heap}
theorem y2.ok {C:Addr} {m qual:Str} {st:Stmt} {N ps:List Str} {k:Nat} {sp:Sp} (G:y2 K C m qual st ps) (S:zN N ps (zG st)) (len:∀ vs H Q E,sp vs H Q E->vs.length=ps.length)
  (hbody:∀ (f:Addr) (cdv:Value) (A:Around) (outer:List Env) (s:Shared) (H:Hp) (vs:List V) (Q:VK) (E:XK),yB k (A.deeper (envOfC qual (zG st) s.heap.objs.size f cdv))->sp vs H Q E ->
   ∃ t,PSs (lF CX0 P w K mg base N qual (zG st) f cdv A outer s H E).nox (xT st) t/\t { nx:=fun _ H'=>Q .non H',rt:=Q } (start N vs) H):yJ P w K mg base CX0 (k + 1) C m ps sp:=by
 obtain ⟨f,fd,F,hm,hb⟩:=G.ex
 exact ⟨f,fd,F.ok S len fun cdv A outer s H vs Q E hr h=>hbody f cdv A outer s H vs Q E hr h,hm,hb⟩
theorem zAH {C:Addr} {x qual:Str} {st:Stmt} {f:Addr} {oc:Value} {od an:Option Addr} {osl:Array (Option Value)} {kV doc pm cdv ct:Value} {ps:List Str}
  (a:PySem.W.findIn K (.ref C) x=some (some (.ref f))) (i:PySem.W.isFn K (.ref f)=true)
  (l:K.lookup f=some ⟨oc,od,.func (PySem.W.fnOf x qual (wF st) (xT st) (zG st) .none kV doc pm an cdv ct),osl⟩) (c:PySem.W.codeIn K cdv qual=true) (k:PySem.W.keepIn K (.ref f)=true)
  (hb:∀ (kV doc pm:Value) (an:Option Addr) (cdv ct:Value) (us:List Value),us.length=ps.length->bindArgs (PySem.W.fnOf x qual (wF st) (xT st) (zG st) .none kV doc pm an cdv ct) ⟨us,[]⟩=pure (ps.zip us)):y2 K C x qual st ps:=
 ⟨f,_,tV l c k,⟨a,i,k⟩,(tV l c k).binds hb⟩
end
section
variable {X:Cx} {k:Nat} {C:Addr} {ps:List Str} {sp:Sp} {m:Str} {apos pos:Pos} {o e:Expr} {es:List Expr} {ta:TE} {t:TA}
theorem xI {pl:Sem Bool} (M:yJ X.prog X.w X.K X.mg X.base CX0 k C m ps sp) (c:Cls X.K C) (hr:yB k X.A) (ho:PE X o ta) (ha:PA X (e :: es) t)
  (hst:starEach (e :: es) X.env=(false,eval e X.env) :: starEach es X.env:=by rfl) (hpl:(backTo pos (starEach es X.env)).any (·.1)=false:=by rfl)
  (ht:eval (.Call (.Attribute o m apos) (e :: es) [] pos) X.env=(do
   let ov <- eval o X.env
   standAt apos.atName
   let (f,first) <- holding [ov] (getMethod ov m pl)
   callWith pos f first (backTo pos (starEach (e :: es) X.env)) (backToKw pos (keywordEach [] X.env))):=by rfl) :
  PE X (.Call (.Attribute o m apos) (e :: es) [] pos) (jH C m sp [] E0 ta t):=
 let ⟨_,_,F,hm,hb⟩:=M.ex
 aP ho c hm F hr hb .nil j8 ha hst hpl ht
theorem yR {pl:Sem Bool} (M:yJ X.prog X.w X.K X.mg X.base CX0 k C m ps sp) (c:Cls X.K C) (hr:yB k X.A) (ho:PE X o ta)
  (ht:eval (.Call (.Attribute o m apos) [] [] pos) X.env=(do
   let ov <- eval o X.env
   standAt apos.atName
   let (f,first) <- holding [ov] (getMethod ov m pl)
   callWith pos f first (backTo pos (starEach [] X.env)) (backToKw pos (keywordEach [] X.env))):=by rfl) :
  PE X (.Call (.Attribute o m apos) [] [] pos) (jH C m sp [] E0 ta nV):=
 let ⟨_,_,F,hm,hb⟩:=M.ex
 eS ho c hm F hr hb .nil j8 ht
end
end L2
namespace L2
open PySem PySem.Spec PyProof.Rows
section
variable {X:Cx}
theorem zC0 (hu:X.A.units < cLine):OpR X (compareOp .NotEq) (zFB true):=by
 intro pins s σ H x y v u Q I rx ry h
 obtain ⟨a,b,xs,rfl,rfl,ha,hb,hne,q⟩:=h
 cases rx;cases ry
 obtain ⟨i1,r1,p1,_⟩:=I.list (.of ha)
 obtain ⟨i2,r2,p2,_⟩:=I.list (.of hb)
 cases r2
 cases xs with
 | nil=>
  cases r1
  exact SeqAt.RcNeAt.lists (e:=fun _=>true) p1.isList p2.isList rfl hu (fun j h1=>by simp at h1) _ _ _ _ ⟨.bl _,H,I,rfl,q⟩
 | cons x xs=>
  have l1:=r1.length
  refine SeqAt.RcNeAt.lists_lengths p1.isList p2.isList ?_ hu _ _ _ _ ⟨.bl true,H,I,rfl,q⟩
  rw [zGP,zGP,<- l1]
  rfl
end
structure p8 (P:Program) (w:World) (K:PySem.W.Frag) (mg:Str->Option Value) (base:Heap) (CX:CXT) (k:Nat) (C:Addr) (x:Str) (ps:List Str) (sp:Sp):Prop where
 ex:∃ (f:Addr) (fd:FuncData),uY P w K mg base CX k f fd ps sp/\Mk K C f/\mg x=some (.ref C)/\uA K fd ps []
section
variable {X:Cx} {k:Nat} {C:Addr} {ps:List Str} {sp:Sp} {x:Str} {p pos:Pos} {e:Expr} {es:List Expr} {t:TA}
theorem j7 (M:p8 X.prog X.w X.K X.mg X.base CX0 k C x ps sp) (hr:yB (k + 1) X.A) (ha:PA X (e :: es) t) (hg:Gl X x:=by rfl)
  (hdb:(x == ("__debug__" : Str))=false:=by decide) (he:starEach (e :: es) X.env=(false,eval e X.env) :: starEach es X.env:=by rfl) (hpl:(backTo pos (starEach es X.env)).any (·.1)=false:=by rfl) :
  PE X (.Call (.Name x p) (e :: es) [] pos) (zBC C sp [] E0 t):=
 let ⟨_,_,F,M',hm,hb⟩:=M.ex
 aQ M' F hr hg hm hb .nil j8 ha hdb he hpl
end
end L2
namespace L2
open PySem PySem.Spec PyProof.Rows
section
variable {prog:Program} {w:World} {A:Around} {E:Value->Shared->Prop} {s:Shared}
end
section
variable {X:Cx} {pos:Pos}
end
theorem r8 {K:PySem.W.Frag} {α:Type} {a acc:Addr} {xs:List Str} {ix:List Nat} {g:TG} {tt:TT} {te:TE} {σ:St} {H1:Hp} {Q:VK} {ds:List α} (f mk:α->List V) (b:α->Bool) (own:α->Addr->List (Option V)) (rest:List (Option V)) (hn:ds.length <= 2000) (ha:H1 acc=none) (hS:Rows H1 a (ds.map f))
  (hσ:∃ vs:List (Option V),stC xs ix σ=vs ++ rest/\vs.length=xs.length) (hown:∀ d q,(own d q).length=xs.length)
  (hg:∀ (d:α) (q:Addr) (vs:List (Option V)) (H:Hp) (R:St->Hp->Prop),d ∈ ds->vs.length=xs.length->H q=some (.tup (f d))->R (own d q ++ rest) H->g (.ref q) (vs ++ rest) H R)
  (htt:∀ (d:α) (q:Addr) (H:Hp) (R:Bool->Hp->Prop),d ∈ ds->zD [acc] H1 H->H q=some (.tup (f d))->(∀ H',zD [] H H'->R (b d) H')->tt (own d q ++ rest) H R)
  (hte:∀ (d:α) (q:Addr) (H:Hp) (R:VK),d ∈ ds->H q=some (.tup (f d))->(∀ t H',zD [] H H'->H' t=some (.tup (mk d))->R (.ref t) H')->te (own d q ++ rest) H R)
  (q:∀ H',Rows H' acc ((ds.filter b).map mk)->zD [] H1 H'->Q (.ref acc) H'):LCW (Itl K a) xs ix g tt te σ H1 acc Q:=by
 obtain ⟨ps0,e0,r0⟩:=hS
 have aa:a ≠ acc:=zH e0 ha
 have l0:=zP r0
 rw [zGH] at l0
 obtain ⟨vs0,hσ,hv0⟩:=hσ
 refine r9 (K:=K) (a:=a) (its:=ps0.map V.ref) (by rw [zGH,sizeLine_eq];omega)
  (fun i ys τ H2=>∃ (ps:List Addr) (vs:List (Option V)),τ=vs ++ rest/\vs.length=xs.length/\ys=ps.map V.ref/\Paired (fun q r=>H2 q=some (.tup r)) ps (((ds.take i).filter b).map mk)/\zD [acc] H1 H2/\H2 acc=some (.lst ys)) ?_ ?_ ?_ ?_
 ·exact ⟨[],vs0,hσ,hv0,rfl,.nil,zD.at (by simp),zB⟩
 ·rintro i ys τ H2 ⟨ps,vs,rfl,hv,rfl,hp,kp,h2⟩
  refine ⟨h2,?_,.of (kp _ _ (by simp [aa]) e0)⟩
  have:=zP hp
  rw [zGH] at this
  have h3:=zHF b (ds.take i)
  rw [zGH,this]
  rw [zG0] at h3
  omega
 ·rintro i ys τ H2 x hx ⟨ps,vs,rfl,hv,rfl,hp,kp,h2⟩
  rw [zGN] at hx
  cases ez:ps0[i]? with
  | none=>rw [ez] at hx;cases hx
  | some qa=>
  rw [ez] at hx
  have ey:V.ref qa=x:=zGO hx
  subst ey
  obtain ⟨r,er,hr⟩:=xJ r0 i qa ez
  rw [zGN] at er
  cases ed:ds[i]? with
  | none=>rw [ed] at er;cases er
  | some d=>
  rw [ed] at er
  have er':f d=r:=zGO er
  subst er'
  have nqa:qa ≠ acc:=zH hr ha
  have hq2:=kp _ _ (by simp [nqa]) hr
  have hm:=zGL ed
  have eT:ds.take (i + 1)=ds.take i ++ [d]:=by rw [List.take_succ,ed];rfl
  refine hg d qa vs H2 _ hm hv hq2 (htt d qa H2 _ hm kp hq2 fun H4 k4=>?_)
  cases hb:b d with
  | false=>
   rw [if_neg zG9]
   refine ⟨ps,own d qa,rfl,hown d qa,rfl,?_,kp.trans (k4.mono (by simp)),k4 _ _ (by simp) h2⟩
   rw [eT,List.filter_append,List.filter_cons,hb]
   simpa using L2.Paired.mapP hp fun q r e=>k4 _ _ (by simp) e
  | true=>
   rw [if_pos rfl]
   refine hte d qa H4 _ hm (k4 _ _ (by simp) hq2) fun t H5 k45 h5t=>?_
   have k5:=k4.trans k45
   have h5:=k5 _ _ (by simp) h2
   have nt:acc ≠ t:=by intro z;rw [<- z,h5] at h5t;cases h5t
   refine ⟨h5,ps ++ [t],own d qa,rfl,hown d qa,by simp,?_,(kp.trans (k5.mono (by simp))).trans (zD.at (by simp)),zB⟩
   rw [eT,List.filter_append,List.filter_cons,hb]
   simp only [if_true,List.filter_nil,zGT,List.map_cons,List.map_nil]
   refine x8 ?_ (by rw [zJ (Ne.symm nt)];exact h5t)
   exact L2.Paired.mapP hp fun q r e=>by
    have e5:=k5 _ _ (by simp) e
    have nq:q ≠ acc:=xR e5 h5 (by intro z;cases z)
    rw [zJ nq];exact e5
 ·rintro ys τ H2 ⟨ps,vs,rfl,hv,rfl,hp,kp,h2⟩
  rw [zGH,l0,zHH] at hp
  exact q H2 ⟨ps,h2,hp⟩ (kp.drop ha)
theorem eU {X:Cx} {N:List Str} {sc:Scope} {x y:Str} {ix:List Nat} {scope:Scope} {elt iter:Expr} {ifs:List Expr} {px py tp pos:Pos} {tk:Nat} {wi:TI} {tt:TT} {te:TE}
  (hS:tL N sc [x,y] ix scope) (hi:PI X (.Tuple [.Name x px,.Name y py] tk tp) iter wi)
  (ht:∀ C fp s H,PTs (cxC X [x,y] ix scope C fp s H) ifs tt) (he:∀ C fp s H,PE (cxC X [x,y] ix scope C fp s H) elt te)
  (hN:X.N=N:=by rfl) (hsc:X.env.scope=sc:=by rfl) (hc:X.calm=true:=by rfl)
  (hs:∀ x,foldedSetIterable iter X.env x=pure x:=by intro _;rfl) :
  PE X (.ListComp elt [⟨.Tuple [.Name x px,.Name y py] tk tp,iter,ifs,0⟩] scope pos) (tLC [x,y] ix wi (gJ X.K 2 (uV (wK 0) (uV (wK 1) gK))) tt te):=by
 have S:=hS.at (X:=X) hN hsc
 have hl:∀ C fp s H,(cxC X [x,y] ix scope C fp s H).env.scope.names.lookup x=some .local:=fun _ _ _ _=>lookup_relabel_local (S.own x (by simp))
 have hl2:∀ C fp s H,(cxC X [x,y] ix scope C fp s H).env.scope.names.lookup y=some .local:=fun _ _ _ _=>lookup_relabel_local (S.own y (by simp))
 exact zBN S hc hi (fun C fp s H=>uB (X:=cxC X [x,y] ix scope C fp s H) hc (yS (yH S.nd rfl (Or.inl (hl C fp s H)) (.inr (hl C fp s H))) (yS (yH S.nd rfl (Or.inl (hl2 C fp s H)) (.inr (hl2 C fp s H))) vF))) ht he hs
theorem zCF {a b:TS} {D:pI} {σ:St} {H:Hp} (M:St->Hp->Prop) (h2:∀ σ' H',M σ' H'->b D σ' H') (h1:∀ nx':St->Hp->Prop,(∀ σ' H',M σ' H'->nx' σ' H')->a { D with nx:=nx' } σ H):pF a b D σ H:=h1 (b D) h2
theorem zD.under {S:List Addr} {H0 H1 H2:Hp} (k0:zD [] H0 H1) (k:zD S H1 H2) (hS:∀ b ∈ S,H0 b=Option.none):zD [] H0 H2:=fun b o _ h=>k b o (fun hb=>by rw [hS b hb] at h;cases h) (k0 b o (by simp) h)
theorem vU {α β:Type} {F:α->β->Prop}:∀ {a c:List α} {b d:List β},Paired F a b->Paired F c d->Paired F (a ++ c) (b ++ d)
 | _,_,_,_,.nil,h=>h
 | _,_,_,_,.cons r t,h=>.cons r (vU t h)
theorem c8 (ns:List Int) (lo hi:Option Int):∃ ms:List Int,uC (ns.map V.int) lo hi=ms.map V.int/\ms.length <= ns.length:=by
 unfold uC
 refine ⟨(ns.drop (HT.sIx (ns.map V.int).length 0 lo)).take (HT.sIx (ns.map V.int).length (ns.map V.int).length hi - HT.sIx (ns.map V.int).length 0 lo),by rw [List.map_take,List.map_drop],?_⟩
 rw [zG0,List.length_drop]
 omega
theorem uQ {α:Type} [DecidableEq α]:∀ (l:List α) (x:α),x ∈ l->∃ j:Nat,l[j]?=some x/\∀ m:Nat,m < j->l[m]? ≠ some x
 | [],x,h=>by cases h
 | y :: l,x,h=>by
  by_cases e:y=x
  ·exact ⟨0,by rw [e];rfl,fun m hm=>absurd hm (Nat.not_lt_zero m)⟩
  ·obtain ⟨j,h1,h2⟩:=uQ l x ((List.mem_cons.mp h).elim (fun z=>absurd z.symm e) id)
   refine ⟨j + 1,by simpa using h1,fun m hm=>?_⟩
   cases m with
   | zero=>intro z;exact e (zGO z)
   | succ m=>exact fun z=>h2 m (by omega) (by simpa using z)
end L2
namespace L2
open PySem PySem.Spec PyProof.Rows
section
variable {X:Cx} {es es1:List Expr} {t t1:TA}
end
end L2
namespace L2
open PySem PySem.Spec PyProof.Rows
section
variable {X:Cx}
end
end L2
namespace L2
open PySem PySem.Spec PyProof.Rows PySem.Builtin.Str
end L2
namespace PySem.SeqAt
open AutoSeq1 (wpAny_loadPart')
open MeetsSeq
end PySem.SeqAt
namespace L2
open PySem PySem.Spec PyProof.Rows
section
variable {X:Cx}
end
end L2
namespace HT
open PySem PySem.Spec PyProof.Rows L2
section
variable {prog:Program} {w:World} {A:Around} {E:Value->Shared->Prop} {s:Shared}
theorem getItem_tuple_self {t sl:Addr} {items:Array Value} {vl vu:Value} {lo hi:Option Int} {Q:Value->Shared->Prop} (ht:IsTup s.heap t items)
  (hs:s.heap.IsSliceOf sl vl vu .none) (pl:IsPart vl lo) (pu:IsPart vu hi) (h1:sIx items.size 0 lo=0) (h2:sIx items.size items.size hi=items.size) (h:Q (.ref t) s):wpAny (model prog w) A (getItem (.ref t) (.ref sl)) Q E s:=by
 obtain ⟨os,hos,hcs,hds⟩:=id hs
 have hTs:s.TypeIs (.ref sl) "slice":=⟨os,hos,hcs⟩
 unfold getItem
 try with_reducible refine wpAny_holding ?_
 first | refine wpAny_bind (wpAny_pure ?_) | skip
 refine wpAny_bind (wpAny_sequenceKey ht.typeIs (by decide) (wpAny_bind ?_))
 refine wpAny_callSpecial?_slot (name:=Str.ofString "__getitem__") ht.typeIs PyProof.Rows.slot_tuple_getitem (wpAny_call_entry PyProof.Rows.slot_tuple_getitem ht.typeIs entry_tuple_getitem ?_ (args_tuple_getitem _ _))
 change wpAny _ _ (Builtin.Tuple.tupleItemsOf (.ref t) >>= _) _ _ s
 refine wpAny_bind (tupleItemsOf_ ht (wpAny_bind (wpAny_typeOf hTs ?_)))
 rw [if_pos (by decide)]
 refine wpAny_bind (sliceApplied_gen hs pl pu ?_)
 have yes:(((sIx items.size 0 lo:Nat):Int) == 0 && (1:Int) == 1 && (sIx items.size items.size hi - sIx items.size 0 lo) == items.size)=true:=by
  rw [h1,h2];simp
 show wpAny _ _ (if (((sIx items.size 0 lo:Nat):Int) == 0 && (1:Int) == 1 && (sIx items.size items.size hi - sIx items.size 0 lo) == items.size)=true then _ else _) _ _ s
 rw [if_pos yes]
 unfold Builtin.Tuple.tupleIsExact
 refine wpAny_bind ?_
 refine wpAny_bind (wpAny_typeOf ht.typeIs ?_)
 refine wpAny_pure ?_
 rw [if_pos (by decide)]
 exact wpAny_bind (wpAny_rule (wpAny_pure ⟨_,rfl,wpAny_pure h⟩))
end
end HT
namespace L2
open PySem PySem.Spec PyProof.Rows
def f8 (K:PySem.W.Frag):V->Option Int->Option Int->Hp->VK->Prop:=fun x lo hi H Q=>∃ a xs,x=.ref a/\SqT K H a xs /\
 ((HT.sIx xs.length 0 lo=0/\HT.sIx xs.length xs.length hi=xs.length/\Q (.ref a) H) \/ (¬ (HT.sIx xs.length 0 lo=0/\HT.sIx xs.length xs.length hi=xs.length)/\∀ p,H p=none->Q (.ref p) (upd H p (.tup (uC xs lo hi)))))
theorem rR {X:Cx}:SlR X (f8 X.K):=by
 intro pins s σ H x v vl vu lo hi sl Q I rx hs pl pu h
 obtain ⟨a,xs,rfl,hx,h⟩:=h
 rcases h with ⟨h1,h2,q⟩ | ⟨hw,q⟩
 ·cases rx
  obtain ⟨its,r,ht,hz⟩:=I.tuple hx
  have hlen:its.toArray.size=xs.length:=by rw [zGP];exact r.length.symm
  exact ⟨"tuple",_,PyProof.Rows.slot_tuple_getitem.lookup,ht.typeIs,HT.getItem_tuple_self ht hs pl pu (by rw [hlen];exact h1) (by rw [hlen];exact h2) ⟨.ref a,H,I,rfl,q⟩⟩
 ·exact zCD pins s σ H _ v vl vu lo hi sl Q I rx hs pl pu ⟨a,xs,rfl,hx,hw,q⟩
end L2
namespace L2
open PySem PySem.Spec PyProof.Rows
section
variable {X:Cx} {e:Expr} {te:TE} {pos p1 p2 p3:Pos} {j1:Nat}
end
end L2
namespace L2
open PySem PySem.Spec PyProof.Rows PySem.W
noncomputable def evK {α:Type} (lt:Nat->Nat->Bool):KasT α->α
 | .ret a=>a
 | .ask i j k=>evK lt (k (lt i j))
theorem u6 {α β:Type} (lt:Nat->Nat->Bool) (f:α->KasT β) (t:KasT α):evK lt (t.bind f)=evK lt (f (evK lt t)):=by
 induction t with
 | ret a=>rfl
 | ask i j k ih=>exact ih (lt i j)
structure LtO (lt:Nat->Nat->Bool):Prop where
 asym:∀ i j,lt i j=true->lt j i=false
 trn:∀ i j k,lt j i=false->lt k j=false->lt k i=false
section
variable {lt:Nat->Nat->Bool}
abbrev gA (p:Array Nat) (i:Nat):Nat:=p.getD i 0
def leK (lt:Nat->Nat->Bool) (i j:Nat):Prop:=lt j i=false
def Up (lt:Nat->Nat->Bool) (p:Array Nat) (k:Nat):Prop:=∀ i j,i <= j->j < k->leK lt (gA p i) (gA p j)
def Dn (lt:Nat->Nat->Bool) (p:Array Nat) (k:Nat):Prop:=∀ i j,i <= j->j < k->leK lt (gA p j) (gA p i)
theorem xK (O:LtO lt) (i:Nat):leK lt i i:=by
 unfold leK
 cases e:lt i i with
 | false=>rfl
 | true=>exact absurd (O.asym i i e) (by rw [e];simp)
theorem xG (O:LtO lt) {i j k:Nat} (a:leK lt i j) (b:leK lt j k):leK lt i k:=O.trn i j k a b
theorem nE (O:LtO lt) {i j:Nat} (h:lt i j=true):leK lt i j:=O.asym i j h
theorem qZ {p:Array Nat} {i j:Nat} (hj:j <= p.size) (k:Nat):gA (kas_rev p i j) k=if i <= k/\k < j then gA p (i + j - 1 - k) else gA p k:=by
 unfold gA kas_rev
 rw [zHG,zHG,zHG,getElem?_mirror_all hj]
 split <;> rfl
theorem cI {p:Array Nat} {k l:Nat} (hk:k < p.size) (hl:l <= k) (x:Nat):gA (bubble p k (k - l)) x=if x=l then gA p k else if l < x/\x <= k then gA p (x - 1) else gA p x:=by
 unfold gA
 rw [zHG,zHG,zHG,zHG,getElem?_bubble hk (k - l) (by omega)]
 rw [show k - (k - l)=l by omega]
 repeat' split
 all_goals first | rfl | omega
theorem qH (p:Array Nat) (i j:Nat):(kas_rev p i j).size=p.size:=mirror_size _ _ _ _
theorem wV (p:Array Nat) (i j:Nat):(kas_rev p i j).Perm p:=mirror_perm _ _ _ _
theorem zB0 (O:LtO lt) (p:Array Nat):Up lt p 1:=fun i j h1 h2=>by
 have:i=j:=by omega
 rw [this];exact xK O _
theorem Up.more (O:LtO lt) {p:Array Nat} {n:Nat} (h:Up lt p n) (h1:1 <= n) (e:leK lt (gA p (n - 1)) (gA p n)):Up lt p (n + 1):=fun i j hij hj=>by
 by_cases hn:j < n
 ·exact h i j hij hn
 ·have ej:j=n:=by omega
  subst ej
  by_cases hi:i < j
  ·exact xG O (h i (j - 1) (by omega) (by omega)) e
  ·have:i=j:=by omega
   rw [this];exact xK O _
theorem Dn.more (O:LtO lt) {p:Array Nat} {n:Nat} (h:Dn lt p n) (h1:1 <= n) (e:leK lt (gA p n) (gA p (n - 1))):Dn lt p (n + 1):=fun i j hij hj=>by
 by_cases hn:j < n
 ·exact h i j hij hn
 ·have ej:j=n:=by omega
  subst ej
  by_cases hi:i < j
  ·exact xG O e (h i (j - 1) (by omega) (by omega))
  ·have:i=j:=by omega
   rw [this];exact xK O _
theorem bF (O:LtO lt) (p:Array Nat):∀ (f n:Nat),1 <= n->Up lt p n->n <= evK lt (kas_asc p f n)/\evK lt (kas_asc p f n) <= n + f/\Up lt p (evK lt (kas_asc p f n)) /\
  (evK lt (kas_asc p f n) < n + f->lt (gA p (evK lt (kas_asc p f n))) (gA p (evK lt (kas_asc p f n) - 1))=true):=by
 intro f
 induction f with
 | zero=>exact fun n h1 h=>⟨zGQ _,zGQ _,h,fun z=>absurd z (Nat.lt_irrefl _)⟩
 | succ f ih=>
  intro n h1 h
  have e:evK lt (kas_asc p (f + 1) n)=evK lt (if lt (gA p n) (gA p (n - 1))=true then .ret n else kas_asc p f (n + 1)):=rfl
  rw [e]
  cases c:lt (gA p n) (gA p (n - 1)) with
  | true=>
   rw [if_pos rfl]
   exact ⟨zGQ _,Nat.le_add_right _ _,h,fun _=>c⟩
  | false=>
   rw [if_neg (by simp)]
   obtain ⟨a1,a2,a3,a4⟩:=ih (n + 1) (by omega) (h.more O h1 c)
   exact ⟨by omega,by omega,a3,fun z=>a4 (by omega)⟩
def EqS (lt:Nat->Nat->Bool) (p:Array Nat) (n q:Nat):Prop:=∀ i,n - (q + 1) <= i->i < n->leK lt (gA p i) (gA p (n - 1))/\leK lt (gA p (n - 1)) (gA p i)
theorem j6 (O:LtO lt) {p:Array Nat} {n q:Nat} (hn:n <= p.size) (hq:q + 1 <= n) (h:EqS lt p n q) (x:Nat):leK lt (gA (kas_rev p (n - (q + 1)) n) x) (gA p x)/\leK lt (gA p x) (gA (kas_rev p (n - (q + 1)) n) x):=by
 rw [qZ hn]
 split
 ·next hx=>
  obtain ⟨a1,a2⟩:=h x hx.1 hx.2
  obtain ⟨b1,b2⟩:=h (n - (q + 1) + n - 1 - x) (by omega) (by omega)
  exact ⟨xG O b1 a2,xG O a1 b2⟩
 ·exact ⟨xK O _,xK O _⟩
theorem cS (O:LtO lt) {p:Array Nat} {n q k:Nat} (hn:n <= p.size) (hq:q + 1 <= n) (h:EqS lt p n q) (d:Dn lt p k):Dn lt (kas_rev p (n - (q + 1)) n) k:=fun i j hij hj=>
 xG O (j6 O hn hq h j).1 (xG O (d i j hij hj) (j6 O hn hq h i).2)
theorem zAW (O:LtO lt):∀ (f:Nat) (p:Array Nat) (n q:Nat),q + 1 <= n->n + f <= p.size->Dn lt p n->EqS lt p n q ->
  (evK lt (kas_desc f p n q)).1.Perm p/\n <= (evK lt (kas_desc f p n q)).2.1/\(evK lt (kas_desc f p n q)).2.1 <= n + f/\Dn lt (evK lt (kas_desc f p n q)).1 (evK lt (kas_desc f p n q)).2.1 /\
  (evK lt (kas_desc f p n q)).2.2 + 1 <= (evK lt (kas_desc f p n q)).2.1/\EqS lt (evK lt (kas_desc f p n q)).1 (evK lt (kas_desc f p n q)).2.1 (evK lt (kas_desc f p n q)).2.2:=by
 intro f
 induction f with
 | zero=>exact fun p n q h1 h2 h3 h4=>⟨.refl _,zGQ _,zGQ _,h3,h1,h4⟩
 | succ f ih=>
  intro p n q h1 h2 h3 h4
  have e:evK lt (kas_desc (f + 1) p n q)=evK lt (if lt (gA p n) (gA p (n - 1))=true then (if q > 0 then kas_desc f (kas_rev p (n - (q + 1)) n) (n + 1) 0 else kas_desc f p (n + 1) 0)
   else .ask (gA p (n - 1)) (gA p n) fun d=>if d=true then .ret (p,n,q) else kas_desc f p (n + 1) (q + 1)):=rfl
  rw [e]
  have one:∀ p:Array Nat,EqS lt p (n + 1) 0:=fun p i h1 h2=>by
   have:i=n + 1 - 1:=by omega
   rw [this];exact ⟨xK O _,xK O _⟩
  cases c:lt (gA p n) (gA p (n - 1)) with
  | true=>
   rw [if_pos rfl]
   have d1:=h3.more O (by omega) (nE O c)
   by_cases hq:q > 0
   ·rw [if_pos hq]
    obtain ⟨a1,a2,a3,a4,a5,a6⟩:=ih (kas_rev p (n - (q + 1)) n) (n + 1) 0 (by omega) (by rw [qH];omega) (cS O (by omega) h1 h4 d1) (one _)
    exact ⟨a1.trans (wV _ _ _),by omega,by omega,a4,a5,a6⟩
   ·rw [if_neg hq]
    obtain ⟨a1,a2,a3,a4,a5,a6⟩:=ih p (n + 1) 0 (by omega) (by omega) d1 (one _)
    exact ⟨a1,by omega,by omega,a4,a5,a6⟩
  | false=>
   rw [if_neg (by simp)]
   show (evK lt (if lt (gA p (n - 1)) (gA p n)=true then .ret (p,n,q) else kas_desc f p (n + 1) (q + 1))).1.Perm p/\_
   show _/\n <= (evK lt (if lt (gA p (n - 1)) (gA p n)=true then .ret (p,n,q) else kas_desc f p (n + 1) (q + 1))).2.1/\(evK lt (if lt (gA p (n - 1)) (gA p n)=true then .ret (p,n,q) else kas_desc f p (n + 1) (q + 1))).2.1 <= _/\Dn lt (evK lt (if lt (gA p (n - 1)) (gA p n)=true then .ret (p,n,q) else kas_desc f p (n + 1) (q + 1))).1 (evK lt (if lt (gA p (n - 1)) (gA p n)=true then .ret (p,n,q) else kas_desc f p (n + 1) (q + 1))).2.1/\(evK lt (if lt (gA p (n - 1)) (gA p n)=true then .ret (p,n,q) else kas_desc f p (n + 1) (q + 1))).2.2 + 1 <= (evK lt (if lt (gA p (n - 1)) (gA p n)=true then .ret (p,n,q) else kas_desc f p (n + 1) (q + 1))).2.1/\EqS lt (evK lt (if lt (gA p (n - 1)) (gA p n)=true then .ret (p,n,q) else kas_desc f p (n + 1) (q + 1))).1 (evK lt (if lt (gA p (n - 1)) (gA p n)=true then .ret (p,n,q) else kas_desc f p (n + 1) (q + 1))).2.1 (evK lt (if lt (gA p (n - 1)) (gA p n)=true then .ret (p,n,q) else kas_desc f p (n + 1) (q + 1))).2.2
   cases d:lt (gA p (n - 1)) (gA p n) with
   | true=>
    rw [if_pos rfl]
    exact ⟨.refl _,zGQ _,Nat.le_add_right _ _,h3,h1,h4⟩
   | false=>
    rw [if_neg (by simp)]
    have es:EqS lt p (n + 1) (q + 1):=fun i g1 g2=>by
     rw [Nat.add_sub_cancel]
     by_cases hi:i=n
     ·rw [hi];exact ⟨xK O _,xK O _⟩
     ·obtain ⟨b1,b2⟩:=h4 i (by omega) (by omega)
      exact ⟨xG O b1 c,xG O d b2⟩
    obtain ⟨a1,a2,a3,a4,a5,a6⟩:=ih p (n + 1) (q + 1) (by omega) (by omega) (h3.more O (by omega) d) es
    exact ⟨a1,by omega,by omega,a4,a5,a6⟩
theorem g9 {p:Array Nat} {n:Nat} (hn:n <= p.size) (d:Dn lt p n):Up lt (kas_rev p 0 n) n:=fun i j hij hj=>by
 rw [qZ hn,qZ hn,if_pos ⟨zGR _,by omega⟩,if_pos ⟨zGR _,hj⟩]
 exact d _ _ (by omega) (by omega)
theorem jG (O:LtO lt) {p:Array Nat} {n nrem:Nat} (h1:1 <= n) (hn:n <= nrem) (hz:nrem <= p.size) (d:Dn lt p n) :
  (evK lt (kas_tail3 n nrem p)).2.Perm p/\1 <= (evK lt (kas_tail3 n nrem p)).1/\(evK lt (kas_tail3 n nrem p)).1 <= nrem/\Up lt (evK lt (kas_tail3 n nrem p)).2 (evK lt (kas_tail3 n nrem p)).1:=by
 unfold kas_tail3
 rw [u6]
 obtain ⟨a1,a2,a3,_⟩:=bF O (kas_rev p 0 n) (nrem - n) n h1 (g9 (by omega) d)
 exact ⟨wV _ _ _,zGS h1 a1,zGS a2 (by omega),a3⟩
theorem rL (O:LtO lt) {p:Array Nat} {n nrem:Nat} (h1:1 <= n) (hn:n + 1 <= nrem) (hz:nrem <= p.size) (d:Dn lt p (n + 1)) :
  (evK lt (kas_descPart n nrem p)).2.Perm p/\1 <= (evK lt (kas_descPart n nrem p)).1/\(evK lt (kas_descPart n nrem p)).1 <= nrem/\Up lt (evK lt (kas_descPart n nrem p)).2 (evK lt (kas_descPart n nrem p)).1:=by
 unfold kas_descPart
 rw [u6]
 obtain ⟨a1,a2,a3,a4,a5,a6⟩:=zAW O (nrem - (n + 1)) p (n + 1) 0 (by omega) (by omega) d (fun i g1 g2=>by
  have:i=n + 1 - 1:=by omega
  rw [this];exact ⟨xK O _,xK O _⟩)
 generalize evK lt (kas_desc (nrem - (n + 1)) p (n + 1) 0)=r at a1 a2 a3 a4 a5 a6 ⊢
 have hs:=a1.size_eq
 by_cases hq:r.2.2 > 0
 ·rw [if_pos hq]
  obtain ⟨b1,b2,b3,b4⟩:=jG O (p:=kas_rev r.1 (r.2.1 - (r.2.2 + 1)) r.2.1) (n:=r.2.1) (nrem:=nrem) (by omega) (by omega) (by rw [qH];omega) (cS O (by omega) a5 a6 a4)
  exact ⟨(b1.trans (wV _ _ _)).trans a1,b2,b3,b4⟩
 ·rw [if_neg hq]
  obtain ⟨b1,b2,b3,b4⟩:=jG O (p:=r.1) (n:=r.2.1) (nrem:=nrem) (by omega) (by omega) (by omega) a4
  exact ⟨b1.trans a1,b2,b3,b4⟩
theorem bB (O:LtO lt) {p:Array Nat} {nrem:Nat} (h1:1 <= nrem) (hz:nrem <= p.size) :
  (evK lt (kas_count nrem p)).2.Perm p/\1 <= (evK lt (kas_count nrem p)).1/\(evK lt (kas_count nrem p)).1 <= nrem/\Up lt (evK lt (kas_count nrem p)).2 (evK lt (kas_count nrem p)).1:=by
 unfold kas_count
 rw [u6]
 obtain ⟨a1,a2,a3,a4⟩:=bF O p (nrem - 1) 1 (zGQ _) (zB0 O p)
 generalize evK lt (kas_asc p (nrem - 1) 1)=m at a1 a2 a3 a4 ⊢
 by_cases hm:m=nrem
 ·rw [if_pos (by simpa using hm)]
  exact ⟨.refl _,a1,by show m <= nrem;omega,a3⟩
 ·rw [if_neg (by simpa using hm)]
  have c:=a4 (by omega)
  by_cases h2:m > 1
  ·rw [if_pos h2]
   have e:evK lt (KasT.ask (gA p 0) (gA p (m - 1)) fun c=>if c=true then .ret (m,p) else kas_descPart m nrem (kas_rev p 0 m))=evK lt (if lt (gA p 0) (gA p (m - 1))=true then .ret (m,p) else kas_descPart m nrem (kas_rev p 0 m)):=rfl
   rw [e]
   cases d:lt (gA p 0) (gA p (m - 1)) with
   | true=>rw [if_pos rfl];exact ⟨.refl _,a1,by show m <= nrem;omega,a3⟩
   | false=>
    rw [if_neg (by simp)]
    have all:∀ x y,x < m->y < m->leK lt (gA p x) (gA p y):=fun x y hx hy=>xG O (a3 x (m - 1) (by omega) (by omega)) (xG O d (a3 0 y (zGR _) hy))
    obtain ⟨b1,b2,b3,b4⟩:=rL O (p:=kas_rev p 0 m) (n:=m) (nrem:=nrem) a1 (by omega) (by rw [qH];omega) (by
     intro i j hij hj
     rw [qZ (by omega),qZ (by omega)]
     by_cases hjm:j < m
     ·rw [if_pos ⟨zGR j,hjm⟩,if_pos ⟨zGR i,by omega⟩]
      exact all _ _ (by omega) (by omega)
     ·rw [if_neg (fun z=>hjm z.2)]
      have ej:j=m:=by omega
      subst ej
      by_cases hi:i < j
      ·rw [if_pos ⟨zGR _,hi⟩]
       exact xG O (nE O c) (all _ _ (by omega) (by omega))
      ·have:i=j:=by omega
       subst this
       rw [if_neg (fun z=>hi z.2)]
       exact xK O _)
    exact ⟨b1.trans (wV _ _ _),b2,b3,b4⟩
  ·rw [if_neg h2]
   have em:m=1:=by omega
   subst em
   refine rL O (zGQ _) (by omega) hz fun i j hij hj=>?_
   by_cases hj0:j=0
   ·have:i=j:=by omega
    rw [this];exact xK O _
   ·have ej:j=1:=by omega
    by_cases hi:i=0
    ·rw [hi,ej];exact nE O c
    ·have:i=j:=by omega
     rw [this];exact xK O _
theorem eO (O:LtO lt) {p:Array Nat} {k:Nat} (hs:Up lt p k):∀ (f l r:Nat),l <= r->r <= k->r - l <= f->(∀ i,i < l->leK lt (gA p i) (gA p k))->(∀ i,r <= i->i < k->leK lt (gA p k) (gA p i)) ->
  evK lt (kas_place p k f l r) <= k/\(∀ i,i < evK lt (kas_place p k f l r)->leK lt (gA p i) (gA p k))/\(∀ i,evK lt (kas_place p k f l r) <= i->i < k->leK lt (gA p k) (gA p i)):=by
 intro f
 induction f with
 | zero=>
  intro l r h1 h2 h3 h4 h5
  have e:l=r:=by omega
  subst e
  exact ⟨h2,h4,h5⟩
 | succ f ih=>
  intro l r h1 h2 h3 h4 h5
  have e:kas_place p k (f + 1) l r=if l >= r then .ret l else .ask (gA p k) (gA p ((l + r) / 2)) fun c=>if c=true then kas_place p k f l ((l + r) / 2) else kas_place p k f ((l + r) / 2 + 1) r:=rfl
  rw [e]
  by_cases hlr:l >= r
  ·rw [if_pos hlr]
   have e:l=r:=by omega
   subst e
   exact ⟨h2,h4,h5⟩
  ·rw [if_neg hlr]
   have e2:evK lt (KasT.ask (gA p k) (gA p ((l + r) / 2)) fun c=>if c=true then kas_place p k f l ((l + r) / 2) else kas_place p k f ((l + r) / 2 + 1) r)=evK lt (if lt (gA p k) (gA p ((l + r) / 2))=true then kas_place p k f l ((l + r) / 2) else kas_place p k f ((l + r) / 2 + 1) r):=rfl
   rw [e2]
   cases c:lt (gA p k) (gA p ((l + r) / 2)) with
   | true=>
    rw [if_pos rfl]
    exact ih l ((l + r) / 2) (by omega) (by omega) (by omega) h4 fun i g1 g2=>xG O (nE O c) (hs _ _ g1 g2)
   | false=>
    rw [if_neg (by simp)]
    exact ih ((l + r) / 2 + 1) r (by omega) h2 (by omega) (fun i g=>xG O (hs i ((l + r) / 2) (by omega) (by omega)) c) h5
theorem zDV (O:LtO lt):∀ (f:Nat) (p:Array Nat) (k:Nat),k + f <= p.size->Up lt p k->(evK lt (kas_bin f p k)).Perm p/\Up lt (evK lt (kas_bin f p k)) (k + f):=by
 intro f
 induction f with
 | zero=>exact fun p k _ h=>⟨.refl _,h⟩
 | succ f ih=>
  intro p k hz h
  have e:kas_bin (f + 1) p k=(kas_place p k k 0 k).bind fun l=>kas_bin f (bubble p k (k - l)) (k + 1):=rfl
  rw [e,u6]
  obtain ⟨a1,a2,a3⟩:=eO O h k 0 k (zGR _) (zGQ _) (by omega) (fun i g=>absurd g (Nat.not_lt_zero _)) (fun i g1 g2=>absurd g2 (by omega))
  generalize evK lt (kas_place p k k 0 k)=l at a1 a2 a3 ⊢
  have up:Up lt (bubble p k (k - l)) (k + 1):=fun i j hij hj=>by
   rw [cI (by omega) a1,cI (by omega) a1]
   by_cases i1:i=l
   ·rw [if_pos i1]
    by_cases j1:j=l
    ·rw [if_pos j1];exact xK O _
    ·rw [if_neg j1,if_pos ⟨by omega,by omega⟩]
     exact a3 _ (by omega) (by omega)
   ·rw [if_neg i1]
    by_cases i2:l < i/\i <= k
    ·rw [if_pos i2,if_neg (by omega),if_pos ⟨by omega,by omega⟩]
     exact h _ _ (by omega) (by omega)
    ·rw [if_neg i2]
     by_cases j1:j=l
     ·rw [if_pos j1];exact a2 _ (by omega)
     ·rw [if_neg j1]
      by_cases j2:l < j/\j <= k
      ·rw [if_pos j2];exact h _ _ (by omega) (by omega)
      ·rw [if_neg j2];exact h _ _ hij (by omega)
  obtain ⟨b1,b2⟩:=ih (bubble p k (k - l)) (k + 1) (by rw [bubble_size];omega) up
  exact ⟨b1.trans (bubble_perm _ _ _),by rw [show k + (f + 1)=k + 1 + f by omega];exact b2⟩
theorem bV (O:LtO lt) {n:Nat} (h1:1 <= n):(evK lt (kas_sort n)).Perm (List.range n).toArray/\Up lt (evK lt (kas_sort n)) n:=by
 unfold kas_sort
 rw [u6]
 have hsz:(List.range n).toArray.size=n:=by simp
 obtain ⟨a1,a2,a3,a4⟩:=bB O (p:=(List.range n).toArray) h1 (by omega)
 generalize evK lt (kas_count n (List.range n).toArray)=r at a1 a2 a3 a4 ⊢
 have hs:=a1.size_eq
 by_cases h:r.1 < n
 ·rw [if_pos h]
  have em:max r.1 1=r.1:=by omega
  rw [em]
  obtain ⟨b1,b2⟩:=zDV O (n - r.1) r.2 r.1 (by omega) a4
  exact ⟨b1.trans a1,by rw [show n=r.1 + (n - r.1) by omega];exact (by rw [show r.1 + (n - r.1) - r.1=n - r.1 by omega];exact b2)⟩
 ·rw [if_neg h]
  have e:r.1=n:=by omega
  exact ⟨a1,by rw [<- e];exact a4⟩
def tG {α:Type} (n:Nat) (R:α->Prop):KasT α->Prop
 | .ret a=>R a
 | .ask i j k=>i < n/\j < n/\∀ b,tG n R (k b)
theorem tG.bind {α β:Type} {n:Nat} {R:α->Prop} {R':β->Prop} {f:α->KasT β} (t:KasT α) (h:tG n R t) (hf:∀ a,R a->tG n R' (f a)):tG n R' (t.bind f):=by
 induction t with
 | ret a=>exact hf a h
 | ask i j k ih=>exact ⟨h.1,h.2.1,fun b=>ih b (h.2.2 b)⟩
theorem zD3 {α:Type} {n:Nat} {R:α->Prop} {lt:Nat->Nat->Bool} {cmp:Nat->Nat->(Bool->Shared->Prop)->Shared->Prop} {Pq:Shared->Prop} (hc:∀ i j C s,i < n->j < n->Pq s->(∀ s',Pq s'->C (lt i j) s')->cmp i j C s) (t:KasT α) (ht:tG n R t) {Q:α->Shared->Prop} :
  ∀ s,Pq s->(∀ s',Pq s'->Q (evK lt t) s')->t.kasWp cmp Q s:=by
 induction t with
 | ret a=>exact fun s h q=>q s h
 | ask i j k ih=>exact fun s h q=>hc i j _ s ht.1 ht.2.1 h fun s' h'=>ih (lt i j) (ht.2.2 _) s' h' q
def In_ (n:Nat) (p:Array Nat):Prop:=∀ v ∈ p.toList,v < n
theorem In_.gA {n:Nat} {p:Array Nat} (h:In_ n p) (h1:1 <= n) (x:Nat):gA p x < n:=by
 unfold L2.gA
 rw [zHG]
 cases e:p[x]? with
 | none=>exact h1
 | some v=>exact h v (by rw [Array.mem_toList_iff];exact Array.mem_of_getElem? e)
theorem In_.perm {n:Nat} {p q:Array Nat} (h:In_ n p) (e:q.Perm p):In_ n q:=fun v hv=>h v ((Array.perm_iff_toList_perm.mp e).mem_iff.mp hv)
section
variable {n:Nat} (h1:1 <= n)
include h1
theorem bE {p:Array Nat} (h:In_ n p):∀ f m,tG n (fun _=>True) (kas_asc p f m):=by
 intro f
 induction f with
 | zero=>exact fun _=>trivial
 | succ f ih=>
  intro m
  refine ⟨h.gA h1 _,h.gA h1 _,fun b=>?_⟩
  cases b with
  | true=>exact trivial
  | false=>exact ih _
theorem zAV:∀ f (p:Array Nat) m q,In_ n p->tG n (fun r=>In_ n r.1) (kas_desc f p m q):=by
 intro f
 induction f with
 | zero=>exact fun p m q h=>h
 | succ f ih=>
  intro p m q h
  refine ⟨h.gA h1 _,h.gA h1 _,fun b=>?_⟩
  cases b with
  | true=>
   show tG n _ (if q > 0 then kas_desc f (kas_rev p (m - (q + 1)) m) (m + 1) 0 else kas_desc f p (m + 1) 0)
   by_cases hq:q > 0
   ·rw [if_pos hq];exact ih _ _ _ (h.perm (wV _ _ _))
   ·rw [if_neg hq];exact ih _ _ _ h
  | false=>
   refine ⟨h.gA h1 _,h.gA h1 _,fun c=>?_⟩
   cases c with
   | true=>exact h
   | false=>exact ih _ _ _ h
theorem jF {p:Array Nat} (h:In_ n p) (m nr:Nat):tG n (fun r=>In_ n r.2) (kas_tail3 m nr p):=
 (bE h1 (h.perm (wV _ _ _)) _ _).bind _ fun _ _=>h.perm (wV _ _ _)
theorem rK {p:Array Nat} (h:In_ n p) (m nr:Nat):tG n (fun r=>In_ n r.2) (kas_descPart m nr p):=by
 refine (zAV h1 _ p _ _ h).bind _ fun r hr=>?_
 by_cases hq:r.2.2 > 0
 ·rw [if_pos hq];exact jF h1 (hr.perm (wV _ _ _)) _ _
 ·rw [if_neg hq];exact jF h1 hr _ _
theorem c9 {p:Array Nat} (h:In_ n p) (nr:Nat):tG n (fun r=>In_ n r.2) (kas_count nr p):=by
 refine (bE h1 h _ _).bind _ fun m _=>?_
 by_cases hm:(m == nr)=true
 ·rw [if_pos hm];exact h
 ·rw [if_neg hm]
  by_cases h2:m > 1
  ·rw [if_pos h2]
   refine ⟨h.gA h1 _,h.gA h1 _,fun b=>?_⟩
   cases b with
   | true=>exact h
   | false=>exact rK h1 (h.perm (wV _ _ _)) _ _
  ·rw [if_neg h2];exact rK h1 h _ _
theorem eM {p:Array Nat} (h:In_ n p) (k:Nat):∀ f l r,tG n (fun _=>True) (kas_place p k f l r):=by
 intro f
 induction f with
 | zero=>exact fun _ _=>trivial
 | succ f ih=>
  intro l r
  show tG n _ (if l >= r then .ret l else .ask (gA p k) (gA p ((l + r) / 2)) fun c=>if c=true then kas_place p k f l ((l + r) / 2) else kas_place p k f ((l + r) / 2 + 1) r)
  by_cases hlr:l >= r
  ·rw [if_pos hlr];exact trivial
  ·rw [if_neg hlr]
   refine ⟨h.gA h1 _,h.gA h1 _,fun b=>?_⟩
   cases b with
   | true=>exact ih _ _
   | false=>exact ih _ _
theorem zDU:∀ f (p:Array Nat) k,In_ n p->tG n (In_ n) (kas_bin f p k):=by
 intro f
 induction f with
 | zero=>exact fun p k h=>h
 | succ f ih=>exact fun p k h=>(eM h1 h k _ _ _).bind _ fun l _=>ih _ _ (h.perm (bubble_perm _ _ _))
theorem bU:tG n (In_ n) (kas_sort n):=by
 refine (c9 h1 (p:=(List.range n).toArray) (fun v hv=>by simpa using hv) n).bind _ fun r hr=>?_
 by_cases h:r.1 < n
 ·rw [if_pos h];exact zDU h1 _ _ _ hr
 ·rw [if_neg h];exact hr
end
end
end L2
namespace L2
open PySem PySem.Spec PyProof.Rows PySem.W
noncomputable def ltS (a b:Str):Bool:=decide (a.cps.toList < b.cps.toList)
theorem dP {a b:Str} (h:ltS a b=true):ltS b a=false:=KeyOrd.klt_asymm (O:=strKind.toKeyOrd) h
theorem zAK {a b c:Str} (h1:ltS b a=false) (h2:ltS c b=false):ltS c a=false:=KeyOrd.kle_trans (O:=strKind.toKeyOrd) (a:=a.cps.toList) (b:=b.cps.toList) (c:=c.cps.toList) h1 h2
theorem zAL {a b:Str} (h1:ltS a b=false) (h2:ltS b a=false):a=b:=by
 have e:a.cps.toList=b.cps.toList:=strKind.total _ _ h1 h2
 cases a;cases b
 simp only [Str.mk.injEq]
 exact Array.toList_inj.mp e
theorem dO (a:Str):ltS a a=false:=strKind.irrefl _
def Asc {α:Type} (lt:α->α->Bool) (l:List α):Prop:=l.Pairwise fun a b=>lt b a=false
section
variable {X:Cx}
end
section
variable {prog:Program} {w:World} {A:Around} {E:Value->Shared->Prop} {s:Shared}
noncomputable def wO {α:Type} (p:Array Nat) (l:List α) (d:α):List α:=p.toList.map fun i=>l.getD i d
theorem i0 {α:Type} {p:Array Nat} {l:List α} (d:α) (h:p.Perm (List.range l.length).toArray):(wO p l d).Perm l:=by
 have h1:(wO p l d).Perm ((List.range l.length).map fun i=>l.getD i d):=(Array.perm_iff_toList_perm.mp h).map _
 have e:(List.range l.length).map (fun i=>l.getD i d)=l:=by
  apply List.ext_getElem
  ·simp
  ·intro i g1 g2
   simp [zGM,zGI g2]
 rwa [e] at h1
end
theorem oV:∀ {qs:List Addr} {us:List Value},yI (qs.map V.ref) us->us=qs.map Value.ref
 | [],_,.nil=>rfl
 | q :: qs,_,.cons r h=>by
  rw [List.map_cons,<- oV h]
  exact congrArg (· :: _) r
theorem pJ:∀ (qs:List Addr),yI (qs.map V.ref) (qs.map Value.ref)
 | []=>.nil
 | _ :: qs=>.cons rfl (pJ qs)
section
variable {X:Cx} {pins:List (Addr × Obj)} {σ:St} {H:Hp} {s:Shared}
theorem qL {α β:Type} (f:α->β) (p:Array Nat) (l:List α) (d:α) (e:β) (hp:∀ i ∈ p.toList,i < l.length):wO p (l.map f) e=(wO p l d).map f:=by
 unfold wO
 rw [zG1]
 refine List.map_congr_left fun i hi=>?_
 have:=hp i hi
 simp [zGM,zGI this]
theorem mO {R:Addr->List V->Prop} {qs:List Addr} {rs:List (List V)} (h:Paired R qs rs) (p:Array Nat) (hp:∀ i ∈ p.toList,i < qs.length):Paired R (wO p qs 0) (wO p rs []):=by
 unfold wO
 have get:∀ i,i < qs.length->R (qs.getD i 0) (rs.getD i []):=by
  clear hp
  induction h with
  | nil=>exact fun i hi=>absurd hi (Nat.not_lt_zero _)
  | cons a r ih=>
   intro i hi
   cases i with
   | zero=>exact a
   | succ i=>exact ih i (by simpa using hi)
 generalize p.toList=l at hp
 induction l with
 | nil=>exact .nil
 | cons i l ih=>exact .cons (get i (hp i zHA)) (ih fun j hj=>hp j (zGU _ hj))
end
end L2
namespace L2
open PySem PySem.Spec PyProof.Rows PySem.W
noncomputable def w8 (val:Nat->Str):Nat->List Str
 | 0=>[]
 | i + 1=>if (w8 val i).any (· == val i) then w8 val i else w8 val i ++ [val i]
theorem qR (val:Nat->Str) (i:Nat) (k:Str):(w8 val (i + 1)).any (· == k)=((w8 val i).any (· == k) || k == val i):=by
 show (if (w8 val i).any (· == val i) then w8 val i else w8 val i ++ [val i]).any (· == k)=_
 by_cases h:(w8 val i).any (· == val i)=true
 ·rw [if_pos h]
  by_cases hk:k=val i
  ·subst hk;rw [h];simp
  ·rw [show (k == val i)=false by simpa using hk,Bool.or_false]
 ·rw [if_neg h,List.any_append]
  simp only [List.any_cons,List.any_nil,Bool.or_false]
  rw [Bool.beq_comm (a:=k)]
theorem sE (val:Nat->Str) (i:Nat):(w8 val (i + 1)).length=if (w8 val i).any (· == val i) then (w8 val i).length else (w8 val i).length + 1:=by
 show (if (w8 val i).any (· == val i) then w8 val i else w8 val i ++ [val i]).length=_
 split <;> simp
theorem r6 (val:Nat->Str):∀ i,(w8 val i).length <= i
 | 0=>zGQ _
 | i + 1=>by
  rw [sE]
  have:=r6 val i
  split <;> omega
theorem qQ {val:Nat->Str}:∀ n,(∀ i j,i < n->j < n->val i=val j->i=j)->(w8 val n).length=n/\∀ k,(w8 val n).any (· == k)=true->∃ i,i < n/\val i=k
 | 0,_=>⟨rfl,fun k h=>by simp [w8] at h⟩
 | n + 1,h=>by
  obtain ⟨a1,a2⟩:=qQ n fun i j hi hj e=>h i j (by omega) (by omega) e
  have no:(w8 val n).any (· == val n)=false:=by
   cases c:(w8 val n).any (· == val n) with
   | false=>rfl
   | true=>
    obtain ⟨i,hi,e⟩:=a2 _ c
    have:=h i n (by omega) (by omega) e
    omega
  refine ⟨by rw [sE,no,a1];rfl,fun k hk=>?_⟩
  rw [qR] at hk
  rcases Bool.or_eq_true_iff.mp hk with q | q
  ·obtain ⟨i,hi,e⟩:=a2 k q
   exact ⟨i,by omega,e⟩
  ·exact ⟨n,by omega,by simpa using (beq_iff_eq.mp q).symm⟩
section
variable {prog:Program} {w:World} {A:Around} {R:Result->Shared->Prop} {I:Addr} {fp wr:List Addr} {G:Array GenState->Array GenState->Prop} {n:Nat} {P:Nat->Value->Prop} {St:Nat->Shared->Prop}
abbrev nQ (prog:Program) (w:World) (h:Heap) (S:Addr) (val:Nat->Str) (i:Nat):Prop:=h.SetOf (PySem.strKind prog w) S (fun k=>(w8 val i).any (· == k)) (w8 val i).length
theorem sQ {h h':Heap} {S:Addr} {val:Nat->Str} {i:Nat} (x:nQ prog w h S val i) (k:∀ o,h.get? S=some o->h'.get? S=some o):nQ prog w h' S val i:=by
 obtain ⟨o,es,ep,tb,ho,q⟩:=x
 exact ⟨o,es,ep,tb,k o ho,q⟩
theorem iT (W:WalksS prog w A.in1 I fp wr G n P St) (S:Addr) (hSf:S ∉ fp) (val:Nat->Str) (hval:∀ i v,P i v->∃ t,v=.str (val i) t) (hb:n + 1 < scanBound):∀ (k i:Nat) (s:Shared),n - i=k->i <= n->St i s->nQ prog w s.heap S val i ->
  (∀ s',Moved (S :: wr) G s s'->nQ prog w s'.heap S val n->R (.ok (.ret .none)) s')->codeAny (model prog w) A (.builtin "set.update.loop" ⟨[.ref S,.ref I],[]⟩) R s:=by
 have nw:S ∉ wr:=fun z=>hSf (W.sub _ z)
 have more:∀ b ∈ wr,b ∈ S :: wr:=fun b z=>zGU _ z
 intro k
 induction k with
 | zero=>
  intro i s hk hi st hS hR
  obtain rfl:i=n:=by omega
  refine codeAny_builtin F.entry_set_update_loop ?_
  rw [Around.under_plainId F.plain_set_update_loop _]
  show wpAny _ A.in1 (pyNext (.ref I) >>= _) _ _ s
  exact wpAny_bind (W.done s _ _ st fun s' hm=>wpAny_pure (hR s' (hm.mono more) (sQ hS fun o z=>hm.heap S _ nw z)))
 | succ k ih=>
  intro i s hk hi st hS hR
  have lt:i < n:=by omega
  refine codeAny_builtin F.entry_set_update_loop ?_
  rw [Around.under_plainId F.plain_set_update_loop _]
  show wpAny _ A.in1 (pyNext (.ref I) >>= _) _ _ s
  refine wpAny_bind (W.item i s _ _ lt st fun v s' hP st' hm=>?_)
  obtain ⟨t,rfl⟩:=hval i v hP
  have hS1:nQ prog w s'.heap S val i:=sQ hS fun o z=>hm.heap S _ nw z
  have room:=r6 val i
  show wpAny _ A.in1 (holding [Value.str (val i) t] (setAdd S (.str (val i) t)) >>= _) _ _ s'
  refine wpAny_bind (wpAny_holding ?_)
  unfold setAdd
  refine wpAny_holding (wpAny_bind ((PySem.strKind prog w).pyHash (k:=val i) (strKind_is _ _ _ _) (wpAny_setAddHashed_of (knd:=PySem.strKind prog w) (s:={ s' with toks:=s'.toks + 1 }) (strKind_is _ _ _ _) rfl hS1 (by omega) fun h' hsb hS2=>?_)))
  have hS3:nQ prog w h' S val (i + 1):=SetOf_congr hS2 (fun k'=>by rw [qR];rfl) (by rw [sE])
  refine wpAny_pure ⟨plainId_quiet F.plain_set_update_loop _,ih (i + 1) _ (by omega) lt (W.frame _ s' _ _ st' (Nat.le_succ _) fun b hb o e=>?_) hS3 fun s2 hm2 hS4=>hR s2 (Moved.trans W.gtrans ((hm.mono more).then_heap (Nat.le_succ _) fun b o hb e=>?_) hm2) hS4⟩
  ·rw [hsb.2 b (fun z:b=S=>hSf (by rw [<- z];exact hb))];exact e
  ·rw [hsb.2 b (fun z:b=S=>hb (by rw [z];exact zHA))];exact e
end
section
variable {prog:Program} {w:World} {A:Around} {E:Value->Shared->Prop} {s:Shared}
abbrev kI (led:Bool):Obj:={ cls:=.type "set",dict:=none,data:=.set #[] 0 (.fresh 0 0 led) }
theorem iU {l:Addr} {items:Array Value} {val:Nat->Str} {Q:Value->Shared->Prop} (hh:A.handled=none) (hl:s.heap.IsList l items) (hv:∀ (i:Nat) (v:Value),items[i]?=some v->∃ t,v=.str (val i) t) (hb:items.size + 1 < scanBound)
  (h:∀ (g:Heap) (tk:Nat),nQ prog w g s.heap.objs.size val items.size->(∀ b o,b < s.heap.objs.size->s.heap.get? b=some o->g.get? b=some o)->Q (.ref s.heap.objs.size) { s with heap:=g,toks:=tk }) :
  wpAny (model prog w) A (call (.type "set") [.ref l]) Q E s:=by
 obtain ⟨c,tl,hmro⟩:=F.called_set.mro
 have hmade:=F.called_set.made
 have hsub:=F.called_set.sub
 refine wpAny_call (codeAny_of_tree ?_)
 show wpAny _ _ (callAny (.type "set") _) _ _ _
 refine wpAny_pure ⟨Code.quiet_builtin _ (by decide +kernel),codeAny_builtin F.entry_type_call ?_⟩
 rw [Around.under_plain (weight_type_call_type "set" [.ref l] []) rfl]
 have h1:=F.called_set.notType
 have h2:=F.called_set.canCreate
 have hct:=F.typeCall_set_1 (.ref l)
 repeat (any_goals (first | assumption | wp_step))
 refine codeAny_mono (code_set_new_1 (.ref l) (E:=E) (Q₁:=fun obj s1=>∃ led:Bool,obj=.ref s.heap.objs.size/\s1 = { s with heap:=s.heap.push (kI led) }) fun led=>⟨led,rfl,rfl⟩) fun r s1 hr=>?_
 cases r with
 | error e=>exact hr
 | ok fl=>
  cases fl with
  | ret obj=>
   obtain ⟨led,rfl,rfl⟩:=hr
   have gS:(s.heap.push (kI led)).get? s.heap.objs.size=some (kI led):=Heap.get?_push_size _ rfl
   have hT:Shared.TypeIs { s with heap:=s.heap.push (kI led) } (.ref s.heap.objs.size) "set":=⟨_,gS,rfl⟩
   have hli:=F.called_set.init.lookup
   have hbi:=F.called_set.init.bind (.ref s.heap.objs.size)
   repeat (any_goals (first | assumption | wp_step))
   refine codeAny_mono (codeAny_call_builtin (R:=wants (fun r s2=>r=.none/\∃ g tk,s2 = { s with heap:=g,toks:=tk }/\nQ prog w g s.heap.objs.size val items.size/\(∀ b o,b < s.heap.objs.size->s.heap.get? b=some o->g.get? b=some o)) E)
    F.called_set.init.plain F.entry_set_init (check_set_init_1 hT ?_)) fun r2 s2 hr2=>?_
   ·obtain ⟨⟨ocls,odict,odata,oslots⟩,hol,hcl,nl,hdl⟩:=hl
    simp only at hcl hdl
    subst hcl;subst hdl
    have hol':(s.heap.push (kI led)).get? l=some { cls:=.type "list",dict:=odict,data:=.seq items nl,slots:=oslots }:=Heap.get?_push_of_some _ hol
    have hsls:=F.sub_list_set
    have hslf:=F.sub_list_frozenset
    have hne:(Value.type "list" == Value.type "dict")=false:=by decide
    have hl1:(s.heap.push (kI led)).IsList l items:=⟨_,hol',rfl,nl,rfl⟩
    unfold Builtin.«set.__init__» noKeywords Builtin.Frozenset.updateFrom
    generalize hPI:pyIter=PI
    wp_walk
    subst hPI
    refine wpAny_pyIter_list hl1 (wpAny_bind (wpAny_runValue ?_))
    have hlS:l < s.heap.objs.size:=Heap.lt_size hol
    have sz:(s.heap.push (kI led)).objs.size=s.heap.objs.size + 1:=Heap.size_push _ _
    refine iT ((Walks.list (A:=A.in1.in1.in1) (by simp [hh]) _ l (by rw [sz];exact zG8 (Nat.lt_succ_of_lt hlS)) items).toS) s.heap.objs.size (by rw [sz];simp;exact Nat.ne_of_gt hlS) val hv hb (items.size - 0) 0 _ (by omega) (zGR _) ⟨⟨_,Heap.get?_push_size _ rfl,rfl,rfl⟩,(hl1.push _)⟩ ?z0 ?zR
    case z0=>
     exact SetOf_congr ((setObjOf_fresh (knd:=PySem.strKind prog w) led).setOf (Heap.get?_push_of_some _ gS) (by unfold scanBound;omega)) (fun _=>rfl) rfl
    case zR=>
     intro s' hm hS'
     obtain ⟨g,g',d',tk',os'⟩:=s'
     have eg:g'=s.gens:=hm.gens
     have ed:d'=s.drawn:=hm.drawn
     have eo:os'=s.os:=hm.os
     subst eg;subst ed;subst eo
     show wpAny _ _ _ _ _ _
     refine wpAny_pure ?_
     show wpAny _ _ (ret Value.none) _ _ _
     refine wpAny_pure ⟨rfl,g,tk',rfl,hS',fun b o hb e=>hm.heap b o ?_ (Heap.get?_push_of_some _ (Heap.get?_push_of_some _ e))⟩
     rw [sz];simp;exact ⟨zG8 hb,zG8 (Nat.lt_succ_of_lt hb)⟩
   ·cases r2 with
    | error e=>exact hr2
    | ok fl2=>
     cases fl2 with
     | ret r=>
      obtain ⟨rfl,g,tk,rfl,hS',hk'⟩:=hr2
      repeat (any_goals (first | assumption | wp_step))
      exact h _ _ hS' hk'
     | _=>exact hr2.elim
  | _=>exact hr.elim
end
end L2
namespace L2
open PySem PySem.Spec PyProof.Rows PySem.W
noncomputable def qT (zs:List Str):Nat:=(w8 (fun i=>zs.getD i Str.empty) zs.length).length
theorem m3 {zs:List Str} (h:zs.Nodup):qT zs=zs.length:=by
 refine (qQ zs.length fun i j hi hj q=>?_).1
 simp only [zGM,zGI hi,zGI hj,Option.getD_some] at q
 exact (List.getElem_inj h).mp q
noncomputable def bX (P:Program) (w:World) (a:Addr) (zs:List Str):HO:=.ext fun h=>nQ P w h a (fun i=>zs.getD i Str.empty) zs.length
section
variable {X:Cx}
theorem fM {zs:List Str} {its:List Value} (r:StrsAre its zs):∀ (i:Nat) (v:Value),its.toArray[i]?=some v->∃ t,v=.str (zs.getD i Str.empty) t:=by
 induction r with
 | nil=>intro i v h;simp at h
 | cons x t r ih=>
  intro i v h
  cases i with
  | zero=>simp at h;exact ⟨t,h.symm⟩
  | succ i=>simp at h;exact ih i v (by simpa using h)
theorem gR (hc:X.calm=true):vN X (.type "set") (fun xs H Q=>∃ (a:Addr) (zs:List Str),xs=[.ref a]/\H a=some (.lst (zs.map V.str))/\zs.length < 1000/\∀ p,H p=none->Q (.ref p) (upd H p (bX X.prog X.w p zs))):=by
 intro pins s σ H xs us Q I r h
 obtain ⟨a,zs,rfl,hA,hz,q⟩:=h
 obtain ⟨u,rfl,rx⟩:=tI r
 cases rx
 obtain ⟨its,r',pl,hzl⟩:=I.list (.of hA)
 have hst:=oC r'
 have hl:its.length=zs.length:=by have:=r'.length;rw [zGH] at this;exact this.symm
 have hsz:its.toArray.size=zs.length:=by rw [zGP];exact hl
 refine iU (I.ok.hd hc) pl.isList (fM hst) (by rw [hsz];unfold scanBound;omega) fun g tk hS old=>?_
 rw [hsz] at hS
 have k:∀ b o,s.heap.get? b=some o->g.get? b=some o:=fun b o z=>old b o (Heap.lt_size z) z
 refine ⟨.ref s.heap.objs.size,_,I.laid (t':=tk) (h':=g) (o:=bX X.prog X.w s.heap.objs.size zs) k (zGQ _) ⟨hS,?_,fun h1 h2 x st=>sQ x st⟩,rfl,q _ (I.hok.fresh (zGQ _))⟩
 obtain ⟨o,_,_,_,ho,_⟩:=hS
 exact ⟨o,ho⟩
theorem lK:vN X (.builtin "len") (fun xs H Q=>∃ (p:Addr) (zs:List Str),xs=[.ref p]/\H p=some (bX X.prog X.w p zs)/\zs.length < 1000/\Q (.int (qT zs)) H):=by
 intro pins s σ H xs us Q I r h
 obtain ⟨p,zs,rfl,hP,hz,q⟩:=h
 obtain ⟨u,rfl,rx⟩:=tI r
 cases rx
 obtain ⟨hS,_,_⟩:=I.hok p _ hP
 obtain ⟨o,es,ep,t,ho,hex,hd,hel,hmem,hb,hf,hn⟩:=hS
 have le:=r6 (fun i=>zs.getD i Str.empty) zs.length
 have en:es.size=qT zs:=hn
 have lm:qT zs <= zs.length:=le
 refine call_len_set ho hex hd hf (by rw [en];omega) ⟨.int (qT zs),H,I.tok _,⟨s.toks + 1,by rw [en]⟩,q⟩
section
variable {prog:Program} {w:World} {A:Around} {E:Value->Shared->Prop} {s:Shared}
end
end
end L2
namespace L2
open PySem PySem.Spec PyProof.Rows
theorem zAY {prog:Program} {w:World} {A:Around} {R:Result->Shared->Prop} {s:Shared} {kx vx target iter:Expr} {ifs:List Expr} {scope:Scope} {pos:Pos} {it:Value} {D:Addr} {env:Env} (J:Nat->Shared->Prop)
  (turn:∀ n s,J n s->wpAny (model prog w) A (pyNext it) (fun r s1=>match r with
   | none=>R (.ok .next) s1
   | some v=>wpAny (model prog w) A (letOwnedTupleGo target it v) (fun _ s1'=>wpAny (model prog w) A (assign target env v) (fun _ s2=>
     wpAny (model prog w) A (forIn ifs true fun c r=>if r=true then do let ok <- isTrue c env (eval c env);pure (ForInStep.yield ok) else pure (ForInStep.yield r)) (fun ok s3=>
      if ok=true then wpAny (model prog w) A (eval kx env) (fun y s4=>wpAny (model prog w) A (eval vx env) (fun x s5=>
       wpAny (model prog w) A (dictSet D y x) (fun _ s6=>∃ m,m < n/\J m s6) (fun _ _=>False) s5) (fun _ _=>False) s4) (fun _ _=>False) s3
      else ∃ m,m < n/\J m s3) (fun _ _=>False) s2) (fun _ _=>False) s1') (fun _ _=>False) s1) (fun _ _=>False) s)
  (n:Nat) (h:J n s):codeAny (model prog w) A (.compLoop (.DictComp kx vx [⟨target,iter,ifs,0⟩] scope pos) 0 it (.ref D) env) R s:=by
 refine codeAny_loop rfl J (fun n s hJ=>?_) n h
 have nof:∀ (e:Value) (s':Shared),False->notedBy (model prog w) A env (fun e s'=>R (.error e) s') e s':=fun _ _ f=>f.elim
 show wpAny (model prog w) A ((compTurn (.DictComp kx vx [⟨target,iter,ifs,0⟩] scope pos) 0 it (.ref D) env).onRaise (fun x=>do noteFrame x env;theTreesLotGoes x)) _ _ s
 refine wpAny_noted ?_
 rw [compTurn_dict]
 refine wpAny_bind (wpAny_standAt (wpAny_bind (wpAny_mono (turn n s hJ) (fun r s1 h1=>?_) nof)))
 cases r with
 | none=>exact wpAny_pure h1
 | some v=>
  refine wpAny_bind (wpAny_mono h1 (fun _ s1' h1'=>?_) nof)
  refine wpAny_bind (wpAny_mono h1' (fun _ s2 h2=>?_) nof)
  refine wpAny_bind (wpAny_mono h2 (fun ok s3 h3=>?_) nof)
  cases ok with
  | false=>exact wpAny_pure ⟨rfl,h3⟩
  | true=>
   refine wpAny_bind (wpAny_bind (wpAny_mono h3 (fun y s4 h4=>?_) nof))
   refine wpAny_bind (wpAny_holding (wpAny_mono h4 (fun x s5 h5=>?_) nof))
   exact wpAny_bind (wpAny_standAt (wpAny_holding (wpAny_mono h5 (fun _ s6 h6=>wpAny_pure ⟨rfl,h6⟩) nof)))
def DCW (J:It) (xs:List Str) (ix:List Nat) (g:TG) (tt:TT) (ty te:TE) (σ:St) (H1:Hp) (acc:Addr) (Q:VK):Prop:=
 ∃ W:Nat->Nat->List (Key × V)->St->Hp->Prop,(∃ m,W 0 m [] (stC xs ix σ) (upd H1 acc (.dK []))) /\
  ∀ i m ys τ H,W i m ys τ H->H acc=some (.dK ys)/\ys.length < sizeLine /\
   ((J.stop i H/\Q (.ref acc) H) \/ (J.go i H/\∃ N:List (Key × V)->St->Hp->Prop,(∀ ys' τ' H',N ys' τ' H'->∃ m',m' < m/\W (i + 1) m' ys' τ' H') /\
    ∀ x H',J.yld i H x H'->g x τ H' fun τ2 H2=>tt τ2 H2 fun b H3=>
    if b=true then ty τ2 H3 fun z H4=>te τ2 H4 fun y H5=>∃ k,z=kV k/\H5 acc=some (.dK ys)/\N (vC ys k y) τ2 (upd H5 acc (.dK (vC ys k y))) else N ys τ2 H3))
def tDC (xs:List Str) (ix:List Nat) (wi:TI) (g:TG) (tt:TT) (ty te:TE):TE:=fun σ H Q=>wi σ H fun J H1=>∀ acc,H1 acc=none->DCW J xs ix g tt ty te σ H1 acc Q
theorem gP {X:Cx} {pins:List (Addr × Obj)} {σ:St} {H:Hp} {s:Shared} {A:Around} {E:Value->Shared->Prop} {a:Addr} {k:Key} {v:V} {u r:Value} {kvs:List (Key × V)} {Q:Unit->Shared->Prop} (I:Inv X pins σ H s) (e:H a=some (.dK kvs)) (l:kvs.length < sizeLine) (ry:yN (kV k) u) (rv:yN v r)
  (h:∀ s',Inv X pins σ (upd H a (.dK (vC kvs k v))) s'->Q () s'):wpAny (model X.prog X.w) A (dictSet a u r) Q E s:=by
 obtain ⟨z,hd,vs,rel,dd⟩:=cT I.hok e
 have hz:vs.length <= sizeLine:=by rw [<- rel.length];exact z
 have hl:(vC kvs k v).length <= sizeLine:=by have:=v8 kvs k v;omega
 refine wpAny_dictSet_pairs (hsz:=hz) (qW ry) dd fun h' dd' hs=>h _ (qB I (by rw [e];exact True.intro) hs ?_ (kU hl hd (rel.put k rv) dd'))
 obtain ⟨q,_,_,hq,_⟩:=dd'
 exact ⟨q,hq⟩
theorem c0 {Reg:Cx->Prop} {X:Cx} {xs:List Str} {ix:List Nat} {scope:Scope} {kx vx tg iter:Expr} {ifs:List Expr} {pos:Pos} {wi:TI} {g:TG} {tt:TT} {ty te:TE}
  (S:x6 X xs ix scope) (hreg:∀ Y:Cx,Y.K=X.K->Y.calm=X.calm->Y.A.handled=X.A.handled->Reg Y) (hi:PIG Reg X tg iter wi)
  (hg:∀ C fp s H,PG (cxC X xs ix scope C fp s H) tg g) (ht:∀ C fp s H,PTs (cxC X xs ix scope C fp s H) ifs tt) (hy:∀ C fp s H,PE (cxC X xs ix scope C fp s H) kx ty) (he:∀ C fp s H,PE (cxC X xs ix scope C fp s H) vx te)
  {pins:List (Addr × Obj)} {s:Shared} {σ:St} {H:Hp} {Q:VK} (I:Inv X pins σ H s) (h:tDC xs ix wi g tt ty te σ H Q) {use:Option (Value->Sem Unit)} {R:Value->Shared->Prop}
  (fin:∀ (acc C:Addr) (H':Hp) (s':Shared) (m:Str->Option Value),Q (.ref acc) H'->s'.heap.Ns C m->(∀ h',Heap.SameBut C s'.heap h'->∀ tk,Inv X pins σ H' { s' with heap:=h',toks:=tk })->(X.s₀.heap.objs.size <= C/\C ≠ X.env.locals/\(∀ x c,X.env.cells.lookup x=some c->c ≠ C)/\(∀ p ∈ X.pn ++ pins,p.1 ≠ C)/\H' C=none)->compPost (model X.prog X.w) X.A X.xe use R (.ref acc) C (.ok .next) s') :
  wpAny (model X.prog X.w) X.A (eval iter X.env) (fun x s₁=>wpAny (model X.prog X.w) X.A (pyIter x) (fun it s₂=>wpAny (model X.prog X.w) X.A newDict (fun acc s₃=>
   wpAny (model X.prog X.w) X.A (newFunctionEnv scope X.env.globals (clF X.env scope.names []) [] X.env.qual none .none (some X.env)) (fun cenv s₄=>
    codeAny (model X.prog X.w) X.A (.compStart (.DictComp kx vx [⟨tg,iter,ifs,0⟩] scope pos) 0 it acc { cenv with scope:=relabel scope X.env }) (compPost (model X.prog X.w) X.A X.xe use R acc cenv.locals) s₄) X.xe s₃) X.xe s₂) X.xe s₁) X.xe s:=by
 refine thn (hi pins s σ H _ I h) fun v s1 h1=>thn h1 fun itv s2 h2=>?_
 obtain ⟨it,fp,tn,J,H2,rfl,I2,T,st2,f2,q⟩:=h2
 refine wpAny_newObj_type ?_
 have I3:Inv X pins σ (upd H2 s2.heap.objs.size (.dK [])) { s2 with heap:=s2.heap.push { cls:=.type "dict",data:=.dict #[] },toks:=s2.toks }:=I2.laid (a:=s2.heap.objs.size) (o:=.dK []) (t':=s2.toks) (fun _ _ q=>Heap.get?_push_of_some _ q) (zGQ _) (lD s2.heap I2.big)
 obtain ⟨W,⟨m0,w0⟩,turn⟩:=q s2.heap.objs.size I2.fresh
 have objs2:=T.obj 0 _ st2
 have neacc:∀ b ∈ fp,b ≠ s2.heap.objs.size:=fun b hb z=>by
  obtain ⟨o,ho,_⟩:=objs2 b hb
  exact Nat.lt_irrefl _ (Nat.lt_of_lt_of_eq (Heap.lt_size ho) z.symm)
 generalize hacc:s2.heap.objs.size=acc at *
 generalize hs3:({ s2 with heap:=s2.heap.push { cls:=.type "dict",data:=.dict #[] } }:Shared)=s3
 have I3:Inv X pins σ (upd H2 acc (.dK [])) s3:=by rw [<- hs3];exact I3
 have k3:∀ b o,s2.heap.get? b=some o->s3.heap.get? b=some o:=fun b o e=>by rw [<- hs3];exact Heap.get?_push_of_some _ e
 have f3:∀ b ∈ fp,uU X pins (upd H2 acc (.dK [])) b:=fun b hb=>⟨by rw [zJ (neacc b hb)];exact (f2 b hb).1,(f2 b hb).2⟩
 have o3:∀ b ∈ fp,∃ o,s3.heap.get? b=some o:=fun b hb=>let ⟨o,ho,_⟩:=objs2 b hb;⟨o,k3 b o ho⟩
 have st3:tn 0 s3.heap:=T.keep _ _ _ st2 fun b _ o e=>k3 b o e
 refine wpAny_newFunctionEnv S.nocell (by intro y hy;simp at hy) (fun h1 hns1 hsb1=>?_) S.kind
 have keep1:∀ b o,s3.heap.get? b=some o->h1.get? b=some o:=fun b o e=>hsb1.extBut b o (zG8 (Heap.lt_size e)) (Heap.get?_push_of_some _ e)
 generalize hs4:({ s3 with heap:=h1,toks:=s3.toks + ([]:List (Str × Value)).length }:Shared)=s4
 have I4:Inv (cxC X xs ix scope s3.heap.objs.size fp s3 (upd H2 acc (.dK []))) [] (stC xs ix σ) (upd H2 acc (.dK [])) s4:=u7 S I3 f3 o3 hns1 keep1 hs4.symm
 have st4:tn 0 s4.heap:=T.keep _ _ _ st3 fun b _ o e=>by rw [<- hs4];exact keep1 b o e
 generalize hX':cxC X xs ix scope s3.heap.objs.size fp s3 (upd H2 acc (.dK []))=X' at *
 have hg:=hg s3.heap.objs.size fp s3 (upd H2 acc (.dK []))
 have ht:=ht s3.heap.objs.size fp s3 (upd H2 acc (.dK []))
 have he:=he s3.heap.objs.size fp s3 (upd H2 acc (.dK []))
 have hy:=hy s3.heap.objs.size fp s3 (upd H2 acc (.dK []))
 rw [hX'] at hg ht he hy
 have eP:X'.prog=X.prog:=by rw [<- hX'];rfl
 have ew:X'.w=X.w:=by rw [<- hX'];rfl
 have eK:X'.K=X.K:=by rw [<- hX'];rfl
 have eA:X'.A=X.A:=by rw [<- hX'];rfl
 have ec:Reg X':=hreg X' eK (by rw [<- hX'];rfl) (by rw [<- hX'];rfl)
 have ex:X'.xe=fun _ _=>False:=by rw [<- hX'];rfl
 have eenv:X'.env=compEnvC scope (clF X.env scope.names []) s3.heap.objs.size X.env:=by rw [<- hX'];rfl
 have eex:X'.ex=fp:=by rw [<- hX'];rfl
 have efs:X'.fs=frs X.stack:=by rw [<- hX'];rfl
 have epn:X'.pn=[]:=by rw [<- hX'];rfl
 have eH0:X'.H₀=upd H2 acc (.dK []):=by rw [<- hX'];rfl
 have es0:X'.s₀=s3:=by rw [<- hX'];rfl
 have eloc:X'.env.locals=s3.heap.objs.size:=by rw [eenv];rfl
 have stat:∀ {H':Hp},(∀ b ∈ fp,H' b=none)->∀ b ∈ fp,uU X' [] H' b:=fun {H'} hn b hb=>by
  refine ⟨hn b hb,?_,?_,.inl (by rw [eex];exact hb),?_,?_⟩
  ·rw [eloc]
   intro z
   obtain ⟨o,ho⟩:=o3 b hb
   exact Nat.lt_irrefl _ (Nat.lt_of_lt_of_eq (Heap.lt_size ho) z.symm)
  ·exact I4.ok.exfs b (by rw [eex];exact hb)
  ·exact (I4.ok.exf b (by rw [eex];exact hb)).2
  ·rw [epn];intro p hp;exact absurd hp (by simp)
 have loop:codeAny (model X.prog X.w) X.A (.compLoop (.DictComp kx vx [⟨tg,iter,ifs,0⟩] scope pos) 0 (.ref it) (.ref acc) X'.env) (compPost (model X.prog X.w) X.A X.xe use R (.ref acc) s3.heap.objs.size) s4:=by
  refine zAY (fun n s'=>∃ i ys τ H',Inv X' [] τ H' s'/\tn i s'.heap/\(∀ b ∈ fp,H' b=none)/\W i n ys τ H') ?_ m0 ⟨0,[],_,_,I4,st4,fun b hb=>(f3 b hb).1,w0⟩
  rintro n s5 ⟨i,ys,τ,H5,I5,st5,fr5,w5⟩
  obtain ⟨ha5,hz5,way⟩:=turn i n ys τ H5 w5
  rcases way with ⟨stop,qn⟩ | ⟨go,N,hN,step⟩
  ·have d:=T.done X' eP ew ec i [] s5 τ H5 (fun _ _=>False) I5 (stat fr5) st5 stop
   rw [eA] at d
   refine thn d fun r s6 hz60=>?_
   obtain ⟨hr,I6⟩:=hz60
   subst hr
   obtain ⟨m,hn6,_⟩:=id I6.loc
   rw [eloc] at hn6
   refine fin acc s3.heap.objs.size H5 s6 m qn hn6 (fun h' hsb tk=>?_) ⟨I3.sz,Ne.symm (zG8 I3.lt),fun x c e z=>by
    obtain ⟨v,oc,hoc,_⟩:=I3.cell x c e
    exact Nat.lt_irrefl _ (Nat.lt_of_lt_of_eq (Heap.lt_size hoc) z.symm),fun p hp z=>Nat.lt_irrefl _ (Nat.lt_of_lt_of_eq (Heap.lt_size (I3.pin p hp).1) z.symm),by have:=I6.free;rw [eloc] at this;exact this⟩
   have same:∀ b,b ≠ s3.heap.objs.size->h'.get? b=s6.heap.get? b:=fun b hb=>hsb.2 b hb
   have ub:=I6.base
   rw [efs,eex,eH0,es0] at ub
   have ne3:∀ b o,s3.heap.get? b=some o->b ≠ s3.heap.objs.size:=fun b o e=>zG8 (Heap.lt_size e)
   have u:Un (frs X.stack) fp (upd H2 acc (.dK [])) H5 s3.heap h':=
    ⟨fun b o e n1 n2 n3=>(same b (ne3 b o e)).trans (ub.keep b o e n1 n2 n3),fun b o e n1 n2 n3=>by
      obtain ⟨sl,z⟩:=ub.slot b o e n1 n2 n3
      exact ⟨sl,(same b (ne3 b o e)).trans z⟩,ub.free,fun b o e n3=>by
      obtain ⟨o',z⟩:=ub.there b o e n3
      exact ⟨o',(same b (ne3 b o e)).trans z⟩,ub.tups,ub.frzs,ub.tbls⟩
   have fC:H5 s3.heap.objs.size=none:=by have:=I6.free;rw [eloc] at this;exact this
   have hok:HOk X.prog X.w H5 h':=fun b o e=>by
    have z:=I6.hok b o e
    rw [eP,ew] at z
    refine z.stay (fun c u hc q=>(same c ?_).trans q) (fun _ q=>q) fun _ _ q=>q
    intro zc
    rcases hc with q1 | q1
    ·rw [<- q1,zc,fC] at e;cases e
    ·rw [zc,fC] at q1;cases q1
   have hch:∀ b ∈ fp,(b ∈ X.ex \/ X.s₀.heap.objs.size <= b)/\b ≠ X.env.locals/\(∀ x c,X.env.cells.lookup x=some c->c ≠ b)/\∀ p ∈ X.pn ++ pins,p.1 ≠ b:=fun b hb=>by
    obtain ⟨_,f1,_,g3,g4,g5⟩:=f3 b hb
    exact ⟨g3,f1,g4,g5⟩
   have ho:s6.os=s3.os:=by have:=I6.os;rw [es0] at this;exact this
   exact I3.call' (s':={ s6 with heap:=h',toks:=tk }) (ch:=fp) ho u hok I6.bare hch
  ·have d:=T.item X' eP ew ec i [] s5 τ H5 (fun _ _=>False) I5 (stat fr5) st5 go
   rw [eA] at d
   refine thn d fun r s6 hz61=>?_
   obtain ⟨u,hr,h6⟩:=hz61
   subst hr
   refine thn h6 fun _ s7 hz62=>?_
   obtain ⟨x,H7,I7,r7,y7,st7,fr7⟩:=hz62
   have I7':=I7.pinned (stat fr7) (T.obj _ _ st7)
   have dg:=hg _ s7 τ H7 x u _ I7' r7 (step x H7 y7)
   rw [eP,ew,eA,ex] at dg
   refine thn dg fun _ s8 hz63=>?_
   obtain ⟨τ8,H8,I8,q8⟩:=hz63
   have dt:=ht _ s8 τ8 H8 _ I8 q8
   rw [eP,ew,eA,ex] at dt
   refine thn dt fun ok s9 hz64=>?_
   obtain ⟨H9,I9,q9⟩:=hz64
   have again:∀ {τ':St} {H':Hp} {s':Shared},Inv X' ([] ++ vJ fp s7.heap) τ' H' s'->Inv X' [] τ' H' s'/\tn (i + 1) s'.heap/\∀ b ∈ fp,H' b=none:=fun {τ' H' s'} Ie=>by
    refine ⟨Ie.unpinned,T.keep _ _ _ st7 fun b hb o e=>(Ie.pin (b,o) (zGV _ (zGV _ (xW hb e)))).1,fun b hb=>?_⟩
    obtain ⟨o,e,_⟩:=T.obj _ _ st7 b hb
    exact (Ie.pin (b,o) (zGV _ (zGV _ (xW hb e)))).2.1
   cases ok with
   | false=>
    rw [if_neg zG9] at q9 ⊢
    obtain ⟨m',hm,w9⟩:=hN _ _ _ q9
    obtain ⟨z1,z2,z3⟩:=again I9
    exact ⟨m',hm,i + 1,ys,τ8,H9,z1,z2,z3,w9⟩
   | true=>
    rw [if_pos rfl] at q9 ⊢
    have dy:=hy _ s9 τ8 H9 _ I9 q9
    rw [eP,ew,eA,ex] at dy
    refine thn dy fun kv s10 hz65=>?_
    obtain ⟨z,H10,I10,r10,q10⟩:=hz65
    have de:=he _ s10 τ8 H10 _ I10 q10
    rw [eP,ew,eA,ex] at de
    refine thn de fun yv s11 hz66=>?_
    obtain ⟨y,H11,I11,r11,k,ek,ha11,n11⟩:=hz66
    subst ek
    obtain ⟨m',hm,w11⟩:=hN _ _ _ n11
    have dm:=gP (X:=X') (A:=X.A) (E:=fun _ _=>False) (Q:=fun _ s'=>∃ m,m < n/\∃ i ys τ H',Inv X' [] τ H' s'/\tn i s'.heap/\(∀ b ∈ fp,H' b=none)/\W i m ys τ H') I11 ha11 hz5 r10 r11 fun s12 I12=>by
     obtain ⟨z1,z2,z3⟩:=again I12
     exact ⟨m',hm,i + 1,vC ys k y,τ8,_,z1,z2,z3,w11⟩
    rw [eP,ew] at dm
    exact dm
 have e4:({ newEnv scope s3.heap.objs.size X.env.globals (clF X.env scope.names []) X.env.qual none .none (some X.env) builtinsNs with scope:=relabel scope X.env }:Env)=X'.env:=by rw [eenv];rfl
 rw [eenv] at loop
 have self:=T.self X.A 0 s4 (fun it' s'=>codeAny (model X.prog X.w) X.A (.compLoop (.DictComp kx vx [⟨tg,iter,ifs,0⟩] scope pos) 0 it' (.ref acc) (compEnvC scope (clF X.env scope.names []) s3.heap.objs.size X.env)) (compPost (model X.prog X.w) X.A X.xe use R (.ref acc) s3.heap.objs.size) s')
  (notedBy (model X.prog X.w) X.A (compEnvC scope (clF X.env scope.names []) s3.heap.objs.size X.env) fun x s'=>compPost (model X.prog X.w) X.A X.xe use R (.ref acc) s3.heap.objs.size (.error x) s') st4 loop
 exact codeAny_compStart_dict loop self
theorem zAZ {X:Cx} {xs:List Str} {ix:List Nat} {scope:Scope} {kx vx tg iter:Expr} {ifs:List Expr} {pos:Pos} {wi:TI} {g:TG} {tt:TT} {ty te:TE}
  (S:x6 X xs ix scope) (hc:X.calm=true) (hi:PI X tg iter wi)
  (hg:∀ C fp s H,PG (cxC X xs ix scope C fp s H) tg g) (ht:∀ C fp s H,PTs (cxC X xs ix scope C fp s H) ifs tt) (hy:∀ C fp s H,PE (cxC X xs ix scope C fp s H) kx ty) (he:∀ C fp s H,PE (cxC X xs ix scope C fp s H) vx te)
  {pins:List (Addr × Obj)} {s:Shared} {σ:St} {H:Hp} {Q:VK} (I:Inv X pins σ H s) (h:tDC xs ix wi g tt ty te σ H Q) {use:Option (Value->Sem Unit)} {R:Value->Shared->Prop}
  (fin:∀ (acc C:Addr) (H':Hp) (s':Shared) (m:Str->Option Value),Q (.ref acc) H'->s'.heap.Ns C m->(∀ h',Heap.SameBut C s'.heap h'->∀ tk,Inv X pins σ H' { s' with heap:=h',toks:=tk })->(X.s₀.heap.objs.size <= C/\C ≠ X.env.locals/\(∀ x c,X.env.cells.lookup x=some c->c ≠ C)/\(∀ p ∈ X.pn ++ pins,p.1 ≠ C)/\H' C=none)->compPost (model X.prog X.w) X.A X.xe use R (.ref acc) C (.ok .next) s') :
  wpAny (model X.prog X.w) X.A (eval iter X.env) (fun x s₁=>wpAny (model X.prog X.w) X.A (pyIter x) (fun it s₂=>wpAny (model X.prog X.w) X.A newDict (fun acc s₃=>
   wpAny (model X.prog X.w) X.A (newFunctionEnv scope X.env.globals (clF X.env scope.names []) [] X.env.qual none .none (some X.env)) (fun cenv s₄=>
    codeAny (model X.prog X.w) X.A (.compStart (.DictComp kx vx [⟨tg,iter,ifs,0⟩] scope pos) 0 it acc { cenv with scope:=relabel scope X.env }) (compPost (model X.prog X.w) X.A X.xe use R acc cenv.locals) s₄) X.xe s₃) X.xe s₂) X.xe s₁) X.xe s:=
 c0 (Reg:=fun Y=>Y.K=X.K/\Y.calm=true) S (fun Y k c _=>⟨k,c.trans hc⟩)
  (fun pins s σ H R I q=>thn (hi pins s σ H R I q) fun v s1 h1=>thn h1 fun itv s2 h2=>by
   obtain ⟨it,fp,tn,J,H',e,I',T,r⟩:=h2
   exact ⟨it,fp,tn,J,H',e,I',⟨T.mem,T.obj,T.keep,fun Y e1 e2 r=>T.item Y e1 e2 r.1 r.2,fun Y e1 e2 r=>T.done Y e1 e2 r.1 r.2,T.self⟩,r⟩) hg ht hy he I h fin
theorem zFE {X:Cx} {xs:List Str} {ix:List Nat} {scope:Scope} {kx vx tg iter:Expr} {ifs:List Expr} {pos:Pos} {wi:TI} {g:TG} {tt:TT} {ty te:TE}
  (S:x6 X xs ix scope) (hc:X.calm=true) (hi:PI X tg iter wi)
  (hg:∀ C fp s H,PG (cxC X xs ix scope C fp s H) tg g) (ht:∀ C fp s H,PTs (cxC X xs ix scope C fp s H) ifs tt) (hy:∀ C fp s H,PE (cxC X xs ix scope C fp s H) kx ty) (he:∀ C fp s H,PE (cxC X xs ix scope C fp s H) vx te)
  (hs:∀ x,foldedSetIterable iter X.env x=pure x:=by intro _;rfl) :
  PE X (.DictComp kx vx [⟨tg,iter,ifs,0⟩] scope pos) (tDC xs ix wi g tt ty te):=by
 intro pins s σ H Q I h
 have hcl:∀ n,(n,NameKind.free) ∈ scope.names->(X.env.cells.lookup n).isSome=true:=fun n hn=>by
  obtain ⟨c,e⟩:=I.ok.has n (S.fre n hn)
  rw [e];rfl
 rw [arm_eval_DictComp]
 refine wpAny_comprehension_free (use:=none) rfl hs (w4 hcl) S.kind S.loc ?_
 refine zAZ S hc hi hg ht hy he I h fun acc C H' s' m q hn k _=>?_
 exact ⟨m,hn,fun h' hsb=>⟨.ref acc,H',k h' hsb s'.toks,rfl,q⟩⟩
theorem cZ {K:PySem.W.Frag} {a:Addr} {its:List V} {xs:List Str} {ix:List Nat} {g:TG} {ty te:TE} {σ:St} {H1:Hp} {Q:VK} {acc:Addr} (hn:its.length < sizeLine) (Pv:Nat->List (Key × V)->St->Hp->Prop)
  (h0:Pv 0 [] (stC xs ix σ) (upd H1 acc (.dK []))) (hacc:∀ i ys τ H,Pv i ys τ H->H acc=some (.dK ys)/\ys.length <= i/\SqL K H a its)
  (hs:∀ i ys τ H x,its[i]?=some x->Pv i ys τ H->g x τ H fun τ2 H2=>ty τ2 H2 fun z H4=>te τ2 H4 fun y H5=>∃ k,z=kV k/\H5 acc=some (.dK ys)/\Pv (i + 1) (vC ys k y) τ2 (upd H5 acc (.dK (vC ys k y))))
  (hd:∀ ys τ H,Pv its.length ys τ H->Q (.ref acc) H):DCW (Itl K a) xs ix g tM ty te σ H1 acc Q:=by
 refine ⟨fun i m ys τ H=>m=its.length - i/\i <= its.length/\Pv i ys τ H,⟨its.length,by simp,zGR _,h0⟩,?_⟩
 rintro i m ys τ H ⟨rfl,hi,p⟩
 obtain ⟨a1,a2,a3⟩:=hacc i ys τ H p
 refine ⟨a1,by omega,?_⟩
 by_cases hlt:i < its.length
 ·refine .inr ⟨⟨its,its[i],a3,by simp [hlt]⟩,fun ys' τ' H'=>Pv (i + 1) ys' τ' H',fun ys' τ' H' p'=>⟨its.length - (i + 1),by omega,rfl,hlt,p'⟩,fun x H' y=>?_⟩
  obtain ⟨e,y⟩:=y
  subst e
  have ex:=y its a3
  have st:=hs i ys τ H' x ex p
  have e:(fun τ2 H2=>tM τ2 H2 fun b H3=>if b=true then ty τ2 H3 fun z H4=>te τ2 H4 fun y H5=>∃ k,z=kV k/\H5 acc=some (.dK ys)/\Pv (i + 1) (vC ys k y) τ2 (upd H5 acc (.dK (vC ys k y))) else Pv (i + 1) ys τ2 H3) =
    fun τ2 H2=>ty τ2 H2 fun z H4=>te τ2 H4 fun y H5=>∃ k,z=kV k/\H5 acc=some (.dK ys)/\Pv (i + 1) (vC ys k y) τ2 (upd H5 acc (.dK (vC ys k y))):=by
   funext τ2 H2
   simp only [tM,if_true]
  rw [e];exact st
 ·have ei:i=its.length:=by omega
  subst ei
  exact .inl ⟨⟨its,a3,zGQ _⟩,hd ys τ H p⟩
end L2
namespace L2
open PySem PySem.Spec PyProof.Rows
section
variable {X:Cx}
def zA9 (H:Hp):Nat->V->V->Prop
 | 0,x,y=>x=y/\(y1 x=true \/ ∃ a,x=.ref a)
 | n + 1,x,y=>(x=y/\(y1 x=true \/ ∃ a,x=.ref a)) \/ ∃ a b xs ys,x=.ref a/\y=.ref b/\((H a=some (.lst xs)/\H b=some (.lst ys)) \/ (H a=some (.tup xs)/\H b=some (.tup ys)))/\xs.length=ys.length /\
   ∀ (i:Nat) (u v:V),xs[i]?=some u->ys[i]?=some v->zA9 H n u v
theorem hu4 {A:Around} {k:Nat} (hr:yB k A):A.units + 4 < cLine:=Nat.lt_of_le_of_lt (Nat.add_le_add_left (by decide:4 <= 64) _) hr.units
theorem zBP {pins:List (Addr × Obj)} {σ:St} {H:Hp} {s:Shared} {A:Around} {x:V} {v u:Value} (rx:yN x v) (ry:yN x u) (h:y1 x=true \/ ∃ a,x=.ref a):SeqAt.EqAt A s v u true:=by
 rcases h with f | ⟨a,rfl⟩
 ·have:=nJ (A:=A) (s:=s) rx ry f f
  rw [m9 f] at this
  exact this
 ·cases rx;cases ry
  exact SeqAt.EqAt.same _
theorem tU {xs ys:List V} {i1 i2:List Value} (r1:yI xs i1) (r2:yI ys i2) (hl:xs.length=ys.length) (j:Nat) (g1:j < i1.toArray.size) (g2:j < i2.toArray.size) :
  ∃ x y,xs[j]?=some x/\ys[j]?=some y/\yN x i1.toArray[j]/\yN y i2.toArray[j]:=by
 have l1:=r1.length
 have l2:=r2.length
 have g1':j < i1.length:=by simpa using g1
 have g2':j < i2.length:=by simpa using g2
 obtain ⟨u,eu,ru⟩:=r1.get (i:=j) (zGI (by omega:j < xs.length))
 obtain ⟨v,ev,rv⟩:=r2.get (i:=j) (zGI (by omega:j < ys.length))
 have eu':i1.toArray[j]=u:=by
  rw [zGI g1'] at eu
  simpa using zGO eu
 have ev':i2.toArray[j]=v:=by
  rw [zGI g2'] at ev
  simpa using zGO ev
 rw [eu',ev']
 exact ⟨_,_,zGI (by omega),zGI (by omega),ru,rv⟩
theorem zAN {pins:List (Addr × Obj)} {σ:St} {H:Hp} {s:Shared} (I:Inv X pins σ H s):∀ (n:Nat) {A:Around} {x y:V} {v u:Value},yN x v->yN y u->zA9 H n x y->A.units + n < cLine->SeqAt.EqAt A s v u true:=by
 intro n
 induction n with
 | zero=>
  intro A x y v u rx ry h _
  obtain ⟨rfl,h⟩:=h
  exact zBP (pins:=pins) (σ:=σ) (H:=H) rx ry h
 | succ n ih=>
  intro A x y v u rx ry h hu
  rcases h with ⟨rfl,h⟩ | ⟨a,b,xs,ys,rfl,rfl,h,hl,each⟩
  ·exact zBP (pins:=pins) (σ:=σ) (H:=H) rx ry h
  cases rx;cases ry
  by_cases e:a=b
  ·subst e;exact SeqAt.EqAt.same _
  have hu1:A.in1.units + n < cLine:=by
   have e:A.in1.units=A.units + 1:=rfl
   omega
  refine SeqAt.EqAt.of_refs e ?_
  have hu0:A.units < cLine:=by omega
  rcases h with ⟨ha,hb⟩ | ⟨ha,hb⟩
  ·obtain ⟨i1,r1,p1,_⟩:=I.list (.of ha)
   obtain ⟨i2,r2,p2,_⟩:=I.list (.of hb)
   have l1:=r1.length
   have l2:=r2.length
   have key:=SeqAt.RcAt.lists (A:=A) (e:=fun _=>true) p1.isList p2.isList (by rw [zGP,zGP,<- l1,<- l2,hl]) hu0 (fun j g1 g2=>by
    obtain ⟨x,y,ex,ey,rx,ry⟩:=tU r1 r2 hl j g1 g2
    exact ih rx ry (each j x y ex ey) hu1)
   rw [show (List.range i1.toArray.size).all (fun _=>true)=true by simp] at key
   exact key
  ·obtain ⟨i1,r1,t1,_⟩:=I.tuple (.of ha)
   obtain ⟨i2,r2,t2,_⟩:=I.tuple (.of hb)
   have l1:=r1.length
   have l2:=r2.length
   have key:=SeqAt.RcAt.tuples (A:=A) (s:=s) (l:=a) (b:=b) (e:=fun _=>true) (show s.heap.IsTuple a i1.toArray from t1) (show s.heap.IsTuple b i2.toArray from t2) hu0 (fun j g1 g2=>by
    obtain ⟨x,y,ex,ey,rx,ry⟩:=tU r1 r2 hl j g1 g2
    exact ih rx ry (each j x y ex ey) hu1)
   rw [show ((List.range (min i1.toArray.size i2.toArray.size)).all (fun _=>true) && i1.toArray.size == i2.toArray.size)=true by
    rw [zGP,zGP,<- l1,<- l2,hl];simp] at key
   exact key
def zFC (b:Bool):R2:=fun x y H Q=>∃ p q xs ys,x=.ref p/\y=.ref q/\H p=some (.lst xs)/\H q=some (.lst ys)/\xs.length=ys.length/\(∀ (i:Nat) (u v:V),xs[i]?=some u->ys[i]?=some v->zA9 H 3 u v)/\Q (.bl b) H
theorem zC2 (hu:X.A.units + 4 < cLine):OpR X (compareOp .Eq) (zFC true):=by
 intro pins s σ H x y v u Q I rx ry h
 obtain ⟨a,b,xs,ys,rfl,rfl,ha,hb,hl,each,q⟩:=h
 cases rx;cases ry
 obtain ⟨i1,r1,p1,_⟩:=I.list (.of ha)
 obtain ⟨i2,r2,p2,_⟩:=I.list (.of hb)
 have l1:=r1.length
 have l2:=r2.length
 have key:=SeqAt.RcAt.lists (A:=X.A) (e:=fun _=>true) p1.isList p2.isList (by rw [zGP,zGP,<- l1,<- l2,hl]) (by omega) (fun j g1 g2=>by
  obtain ⟨x,y,ex,ey,rx,ry⟩:=tU r1 r2 hl j g1 g2
  exact zAN I 3 rx ry (each j x y ex ey) (by have e:X.A.in1.units=X.A.units + 1:=rfl;omega))
 rw [show (List.range i1.toArray.size).all (fun _=>true)=true by simp] at key
 exact key _ _ _ _ ⟨.bl true,H,I,rfl,q⟩
end
end L2
namespace L2
open PySem PySem.Spec PyProof.Rows
section
variable {prog:Program} {w:World} {A:Around} {E:Value->Shared->Prop} {s:Shared}
end
section
variable {X:Cx} {e:Expr} {te:TE} {pos p1 p2 p3:Pos} {j1:Nat}
end
end L2
namespace L2
open PySem PySem.Spec PyProof.Rows
section
variable {prog:Program} {w:World} {A:Around} {E:Value->Shared->Prop} {s:Shared}
end
section
variable {X:Cx} {pos:Pos}
end
section
variable {X:Cx}
end
end L2
namespace L2
open PySem PySem.Spec PyProof.Rows
section
variable {prog:Program} {w:World} {A:Around} {E:Value->Shared->Prop} {s:Shared}
open Builtin.Str in
end
section
variable {X:Cx} {pos:Pos}
end
section
variable {X:Cx}
end
section
open PySem.SeqAt
open PySem.AutoSeq1 (wpAny_loadPart')
open PySem.MeetsSeq PySem.MeetsSeq2 PySem.MeetsSeq3
end
section
variable {X:Cx}
end
end L2
namespace L2
open PySem PySem.Spec PyProof.Rows
open PySem.AutoSeq1 (wpAny_loadPart')
section
variable {prog:Program} {w:World} {A:Around} {E:Value->Shared->Prop} {s:Shared}
theorem cR {e it l:Addr} {i:Nat} {c:Int} {its:Array Value} {x old:Value} {Q:Option Value->Shared->Prop}
  (he:IsEnum s.heap e it c old) (hit:s.heap.IsListIter it l i) (hl:s.heap.IsList l its) (hx:its[i]?=some x) (hne:e ≠ it)
  (hQ:∀ h',IsEnumOut h' e it (c + 1) x s.heap.objs.size->h'.IsListIter it l (i + 1)->h'.get? s.heap.objs.size=some { cls:=.type "tuple",data:=.seq #[.int c s.toks,x] } ->
   (∀ b o,b ≠ e->b ≠ it->s.heap.get? b=some o->h'.get? b=some o)->Q (some (.ref s.heap.objs.size)) { s with heap:=h',toks:=s.toks + 1 }) :
  wpAny (model prog w) A (pyNext (.ref e)) Q E s:=by
 have hT:s.TypeIs (.ref e) "enumerate":=⟨_,he,rfl⟩
 unfold pyNext
 refine wpAny_bind (wpAny_attempt (wpAny_callSpecial?_slot (name:=Str.ofString "__next__") hT F.slot_enumerate_next (wpAny_call_entry F.slot_enumerate_next hT F.entry_enumerate_next ?_ (F.args_enumerate_next_1 _))))
 obtain ⟨h0,ge,dr,tk,so⟩:=s
 show wpAny _ _ (field (.ref e) 2 >>= _) _ _ _
 refine wpAny_bind (wpAny_field he rfl (x:=.ref it) rfl (wpAny_bind (wpAny_nextOf_list_item hit hl hx fun h1 i1 s1=>?_)))
 replace s1:Heap.SameBut it h0 h1:=s1
 have e1:IsEnum h1 e it c old:=(s1.2 e hne).trans he
 show wpAny _ _ (field (.ref e) 3 >>= _) _ _ ⟨h1,ge,dr,tk,so⟩
 refine wpAny_bind (wpAny_field e1 rfl (x:=rawInt c) rfl ?_)
 show wpAny _ _ (field (.ref e) 4 >>= _) _ _ ⟨h1,ge,dr,tk,so⟩
 refine wpAny_bind (wpAny_field e1 rfl (x:=.none) rfl ?_)
 show wpAny _ _ (mkInt c >>= _) _ _ ⟨h1,ge,dr,tk,so⟩
 refine wpAny_bind (wpAny_mkInt ?_)
 show wpAny _ _ (setField (.ref e) 3 (rawInt (c + 1)) >>= _) _ _ ⟨h1,ge,dr,tk + 1,so⟩
 refine wpAny_bind (wpAny_setField_rec e1 (by simp) fun h2 e2 s2=>?_)
 replace s2:Heap.SameBut e h1 h2:=s2
 replace e2:IsEnum h2 e it (c + 1) old:=e2
 show wpAny _ _ (setField (.ref e) 4 .none >>= _) _ _ ⟨h2,ge,dr,tk + 1,so⟩
 refine wpAny_bind (wpAny_setField_rec e2 (by simp) fun h3 e3 s3=>?_)
 replace s3:Heap.SameBut e h2 h3:=s3
 replace e3:IsEnum h3 e it (c + 1) old:=e3
 show wpAny _ _ (newTuple [.int c tk,x] >>= _) _ _ ⟨h3,ge,dr,tk + 1,so⟩
 refine wpAny_bind (wpAny_newTuple ?_)
 have e4:IsEnum (h3.push { cls:=.type "tuple",data:=.seq #[.int c tk,x] }) e it (c + 1) old:=Heap.get?_push_of_some _ e3
 generalize hh4:h3.push { cls:=.type "tuple",data:=.seq #[.int c tk,x] }=h4 at e4
 have zz:h3.objs.size=h0.objs.size:=by rw [s3.1,s2.1,s1.1]
 have lt:e < h0.objs.size:=Heap.lt_size he
 have t4:h4.get? h0.objs.size=some { cls:=.type "tuple",data:=.seq #[.int c tk,x] }:=by
  rw [<- hh4,<- zz];exact Heap.get?_push_size _ rfl
 have k4:∀ b o,b ≠ e->b ≠ it->h0.get? b=some o->h4.get? b=some o:=fun b o n1 n2 hb=>by
  rw [<- hh4]
  exact Heap.get?_push_of_some _ (s3.extBut b o n1 (s2.extBut b o n1 (s1.extBut b o n2 hb)))
 have i4:h4.IsListIter it l (i + 1):=by
  rw [<- hh4]
  obtain ⟨o,ho,r⟩:=(i1.extBut s2.extBut (Ne.symm hne)).extBut s3.extBut (Ne.symm hne)
  exact ⟨o,Heap.get?_push_of_some _ ho,r⟩
 show wpAny _ _ (Builtin.SmallTypes.ownedTupleIsFree (.ref e) >>= _) _ _ ⟨h4,ge,dr,tk + 1,so⟩
 rw [zz]
 refine wpAny_bind ?_
 unfold Builtin.SmallTypes.ownedTupleIsFree
 refine wpAny_bind (wpAny_field e4 rfl (x:=.none) rfl (wpAny_pure ?_))
 simp only [if_true]
 refine wpAny_bind (wpAny_rule (wpAny_bind (wpAny_field e4 rfl (x:=old) rfl ?_)))
 refine wpAny_bind (wpAny_setField_rec e4 (by simp) fun h5 e5 s5=>?_)
 replace s5:Heap.SameBut e h4 h5:=s5
 replace e5:IsEnum h5 e it (c + 1) x:=e5
 show wpAny _ _ (Builtin.SmallTypes.ownedTupleHandOut (.ref e) (.ref h0.objs.size) >>= _) _ _ ⟨h5,ge,dr,tk + 1,so⟩
 refine wpAny_bind ?_
 unfold Builtin.SmallTypes.ownedTupleHandOut
 refine wpAny_bind (wpAny_setField_rec e5 (by simp) fun h6 e6 s6=>?_)
 replace s6:Heap.SameBut e h5 h6:=s6
 replace e6:IsEnumOut h6 e it (c + 1) x h0.objs.size:=e6
 refine wpAny_setField_rec e6 (by simp) fun h7 e7 s7=>?_
 replace s7:Heap.SameBut e h6 h7:=s7
 replace e7:IsEnumOut h7 e it (c + 1) x h0.objs.size:=e7
 refine wpAny_bind (wpAny_letGo (wpAny_pure ⟨_,rfl,wpAny_pure (hQ h7 e7 ?_ ?_ ?_)⟩))
 ·exact ((i4.extBut s5.extBut (Ne.symm hne)).extBut s6.extBut (Ne.symm hne)).extBut s7.extBut (Ne.symm hne)
 ·exact s7.extBut _ _ (Nat.ne_of_gt lt) (s6.extBut _ _ (Nat.ne_of_gt lt) (s5.extBut _ _ (Nat.ne_of_gt lt) t4))
 ·exact fun b o n1 n2 hb=>s7.extBut b o n1 (s6.extBut b o n1 (s5.extBut b o n1 (k4 b o n1 n2 hb)))
theorem zAU {e it l:Addr} {i:Nat} {c:Int} {its:Array Value} {old:Value} {Q:Option Value->Shared->Prop} (hh:A.handled=none) (he:IsEnum s.heap e it c old) (hit:s.heap.IsListIter it l i) (hl:s.heap.IsList l its) (hx:its[i]?=none)
  (hQ:∀ h',Heap.ExtBut it s.heap h'->Q none { s with heap:=h' }):wpAny (model prog w) A (pyNext (.ref e)) Q E s:=by
 have hT:s.TypeIs (.ref e) "enumerate":=⟨_,he,rfl⟩
 unfold pyNext
 refine wpAny_bind (wpAny_attempt (wpAny_callSpecial?_slot (name:=Str.ofString "__next__") hT F.slot_enumerate_next (wpAny_call_entry F.slot_enumerate_next hT F.entry_enumerate_next ?_ (F.args_enumerate_next_1 _))))
 show wpAny _ _ (field (.ref e) 2 >>= _) _ _ _
 refine wpAny_bind (wpAny_field he rfl (x:=.ref it) rfl (wpAny_bind (wpAny_nextOf_list_end hh hit hl hx fun h' x he' hx'=>?_)))
 obtain ⟨o,ho,hc⟩:=hx'
 exact wpAny_bind (wpAny_isInstance (T:="StopIteration") (b:=true) ⟨o,ho,hc⟩ isSubtype_stop (wpAny_pure (hQ _ he')))
end
theorem Inv.turnedT {X:Cx} {pins:List (Addr × Obj)} {σ:St} {H:Hp} {s:Shared} {h':Heap} {t':Nat} {a b T:Addr} {xs:List V} (I:Inv X pins σ H s) (k:∀ c o,c ≠ a->c ≠ b->s.heap.get? c=some o->h'.get? c=some o)
  (fa:uU X pins H a) (fb:uU X pins H b) (hT:s.heap.objs.size <= T) (new:xP X.prog X.w (upd H T (.tup xs)) h' T (.tup xs)):Inv X pins σ (upd H T (.tup xs)) { s with heap:=h',toks:=t' }:=by
 have nT:H T=none:=I.hok.fresh hT
 have na:∀ c u,H c=some u->c ≠ a:=fun c u e z=>by rw [z,fa.1] at e;cases e
 have nb:∀ c u,H c=some u->c ≠ b:=fun c u e z=>by rw [z,fb.1] at e;cases e
 have kk:∀ c o,c ∉ [a,b]->s.heap.get? c=some o->h'.get? c=some o:=fun c o hc e=>k c o (fun z=>hc (by simp [z])) (fun z=>hc (by simp [z])) e
 refine I.step (g':=s.gens) (d':=s.drawn) (ch:=[a,b]) (fun c hc=>?_) (fun c o _ _ hc e _=>kk c o hc e) (fun c o _ _ hc e _=>⟨o.slots,kk c o hc e⟩) (fun c o _ e n=>by rw [zJ (zG8 (zG3 (Heap.lt_size e) hT))];exact n)
  (fun c o hc e=>⟨o,kk c o hc e⟩) (fun c ys e=>by rw [zJ (zH e nT)];exact e) (fun c o u e=>by rw [zJ (zH e nT)];exact e) (fun c ps e=>⟨#[],by rw [zJ (zH e nT),e];simp⟩) (fun m hm=>?_) (fun c u e=>?_) I.bare
 ·rcases List.mem_cons.mp hc with rfl | hc
  ·exact ⟨fa.2.2.2.1,fa.2.1,fa.2.2.2.2.1,fa.2.2.2.2.2⟩
  ·rw [zGK.mp hc]
   exact ⟨fb.2.2.2.1,fb.2.1,fb.2.2.2.2.1,fb.2.2.2.2.2⟩
 ·obtain ⟨o,es,ep,ho,r⟩:=hm
  exact ⟨o,es,ep,k _ o (Ne.symm fa.2.1) (Ne.symm fb.2.1) ho,r⟩
 ·by_cases hc:c=T
  ·subst hc;rw [zB] at e;cases e;exact new
  ·rw [zJ hc] at e
   refine (I.hok c u e).stay (fun d v hd q=>?_) (fun d q=>by rw [zJ (zH q nT)];exact q) fun d ys q=>by rw [zJ (zH q nT)];exact q
   rcases hd with z | z
   ·rw [z] at q ⊢;exact k c v (na c u e) (nb c u e) q
   ·exact k d v (na d _ z) (nb d _ z) q
noncomputable def Ite (K:PySem.W.Frag) (a:Addr) (k:Int):It:=
 ⟨fun i H=>∃ xs x,SqL K H a xs/\xs[i]?=some x,fun i H x H'=>∃ T v,x=.ref T/\H T=none/\H'=upd H T (.tup [.int (k + i),v])/\∀ xs,SqL K H a xs->xs[i]?=some v,fun i H=>∃ xs,SqL K H a xs/\xs.length <= i⟩
theorem iR {P:Program} {w:World} {K:PySem.W.Frag} {elts:List Expr} {n:Nat} {tp:Pos} (a e it:Addr) (k:Int) (hne:e ≠ it):bG P w K (.Tuple elts n tp) (Ite K a k) [e,it] e (fun i h=>(∃ old,IsEnum h e it (k + i) old)/\h.IsListIter it a i) where
 mem:=by simp
 obj:=fun i h st b hb=>by
  obtain ⟨⟨old,he⟩,o,ho,c,d⟩:=st
  rcases List.mem_cons.mp hb with rfl | hb
  ·exact ⟨_,he,fun v z=>by cases z⟩
  ·rw [zGK.mp hb]
   exact ⟨o,ho,fun v z=>by rw [d] at z;cases z⟩
 keep:=fun i h h' st kk=>⟨let ⟨old,he⟩:=st.1;⟨old,kk e (by simp) _ he⟩,st.2.at fun o z=>kk it (by simp) o z⟩
 item:=by
  intro X hP hw hK hc i pins s σ H E I hf st hg
  subst hP hw hK
  obtain ⟨xs,x,hq,hx⟩:=hg
  obtain ⟨⟨old,he⟩,hit⟩:=st
  obtain ⟨its,rv,p,hz⟩:=I.list hq
  obtain ⟨u,hu,ru⟩:=rv.get hx
  refine cR he hit p.isList (x:=u) (by simpa using hu) hne fun h' eo it' tt kp=>?_
  refine ⟨_,rfl,wpAny_letOwnedTupleGo_enum eo fun h2 e2 s2=>?_⟩
  have el:e < s.heap.objs.size:=Heap.lt_size he
  have il:it < s.heap.objs.size:=by obtain ⟨o,ho,_⟩:=hit;exact Heap.lt_size ho
  have tt2:h2.get? s.heap.objs.size=some { cls:=.type "tuple",data:=.seq #[.int (k + i) s.toks,u] }:=(s2.2 _ (Nat.ne_of_gt el)).trans tt
  have I1:Inv X pins σ (upd H s.heap.objs.size (.tup [.int (k + i),x])) { s with heap:=h2,toks:=s.toks + 1 }:=I.turnedT (fun c o n1 n2 z=>(s2.2 c n1).trans (kp c o n1 n2 z)) (hf e (by simp)) (hf it (by simp)) (zGQ _)
   ⟨by show 2 <= sizeLine;decide,[.int (k + i) s.toks,u],.cons ⟨_,rfl⟩ (.cons ru .nil),_,tt2,rfl,_,rfl⟩
  refine ⟨.ref s.heap.objs.size,_,I1,rfl,⟨s.heap.objs.size,x,rfl,I.hok.fresh (zGQ _),rfl,fun ys hy=>by rw [I.list_inj hy hq];exact hx⟩,⟨⟨u,by have z:=e2;rw [show k + (i:Int) + 1=k + ((i + 1:Nat):Int) by omega] at z;exact z⟩,it'.at fun o z=>(s2.2 it (Ne.symm hne)).trans z⟩,fun b hb=>?_⟩
  have bl:b ≠ s.heap.objs.size:=by
   rcases List.mem_cons.mp hb with rfl | hb
   ·exact zG8 el
   ·rw [zGK.mp hb];exact zG8 il
  rw [zJ bl]
  exact (hf b hb).1
 done:=by
  intro X hP hw hK hc i pins s σ H E I hf st hg
  subst hP hw hK
  obtain ⟨xs,hq,hx⟩:=hg
  obtain ⟨⟨old,he⟩,hit⟩:=st
  obtain ⟨its,rv,p,hz⟩:=I.list hq
  obtain ⟨f0,f1,f2,f3,f4,f5⟩:=hf it (by simp)
  have hl:=rv.length
  exact zAU (I.ok.hd hc) he hit p.isList (by simp;omega) fun h' eb=>⟨rfl,I.turned (t':=s.toks) (fun b o hb z=>eb b o hb z) f0 f1 f3 f4 f5⟩
 self:=fun _ _ _ _ _ st h=>by
  obtain ⟨⟨old,he⟩,_⟩:=st
  exact wpAny_pyIter_enum he h
section
variable {X:Cx}
def zFU (K:PySem.W.Frag) (k:Int) (tl:TE):TI:=fun σ H R=>tl σ H fun x H1=>∃ a,x=.ref a/\(∃ xs,SqL K H1 a xs)/\R (Ite K a k) H1
end
end L2
namespace L2
open PySem PySem.Spec PyProof.Rows
theorem bN (g1:Comprehension) (elt target iter:Expr) (ifs:List Expr) (scope:Scope) (pos:Pos) (it acc:Value) (env:Env) :
  compTurn (.ListComp elt [g1,⟨target,iter,ifs,0⟩] scope pos) 1 it acc env=(do
   standAt iter.pos
   match <- pyNext it with
   | none=>pure (.done .next)
   | some v=>do
    letOwnedTupleGo target it v
    assign target env v
    let ok <- forIn ifs true fun c r=>if r=true then do let ok <- isTrue c env (eval c env);pure (ForInStep.yield ok) else pure (ForInStep.yield r)
    if ok=true then do
     (do let z <- eval elt env;let _ <- call (.builtin "list.append") [acc,z])
     again (.compLoop (.ListComp elt [g1,⟨target,iter,ifs,0⟩] scope pos) 1 it acc env)
    else again (.compLoop (.ListComp elt [g1,⟨target,iter,ifs,0⟩] scope pos) 1 it acc env)):=rfl
theorem fD (elt target iter tg2 iter2:Expr) (ifs ifs2:List Expr) (scope:Scope) (pos:Pos) (it acc:Value) (env:Env) :
  compTurn (.ListComp elt [⟨target,iter,ifs,0⟩,⟨tg2,iter2,ifs2,0⟩] scope pos) 0 it acc env=(do
   standAt iter.pos
   match <- pyNext it with
   | none=>pure (.done .next)
   | some v=>do
    letOwnedTupleGo target it v
    assign target env v
    let ok <- forIn ifs true fun c r=>if r=true then do let ok <- isTrue c env (eval c env);pure (ForInStep.yield ok) else pure (ForInStep.yield r)
    if ok=true then do
     let x <- eval iter2 env
     standAt iter2.pos
     let x <- foldedSetIterable iter2 env x
     let _ <- runOwn (.compStart (.ListComp elt [⟨target,iter,ifs,0⟩,⟨tg2,iter2,ifs2,0⟩] scope pos) 1 (<- holding [x] (pyIter x)) acc env) env
     again (.compLoop (.ListComp elt [⟨target,iter,ifs,0⟩,⟨tg2,iter2,ifs2,0⟩] scope pos) 0 it acc env)
    else again (.compLoop (.ListComp elt [⟨target,iter,ifs,0⟩,⟨tg2,iter2,ifs2,0⟩] scope pos) 0 it acc env)):=rfl
section
variable {prog:Program} {w:World} {A:Around} {R:Result->Shared->Prop} {s:Shared} {elt target iter tg2 iter2:Expr} {ifs ifs2:List Expr} {scope:Scope} {pos:Pos} {it acc:Value} {env:Env}
theorem fN {g1:Comprehension} (h0:codeAny (model prog w) A (.compLoop (.ListComp elt [g1,⟨target,iter,ifs,0⟩] scope pos) 1 it acc env) R s)
  (h:wpAny (model prog w) A (pyIter it) (fun it' s'=>codeAny (model prog w) A (.compLoop (.ListComp elt [g1,⟨target,iter,ifs,0⟩] scope pos) 1 it' acc env) R s') (fun _ _=>False) s) :
  codeAny (model prog w) A (.compStart (.ListComp elt [g1,⟨target,iter,ifs,0⟩] scope pos) 1 it acc env) R s:=by
 refine codeAny_of_tree ?_
 show wpAny _ _ ((compStart (.ListComp elt [g1,⟨target,iter,ifs,0⟩] scope pos) 1 it acc env).onRaise (fun x=>do noteFrame x env;standAt theWindowsPlace)) _ _ s
 refine wpAny_notedAt ?_
 unfold compStart;show wpAny _ _ (ask >>= _) _ _ s
 refine wpAny_bind (wpAny_askSetting (wpAny_ite ?_));split
 ·first | exact wpAny_bind (wpAny_pure (wpAny_pure (And.intro rfl h0))) | exact wpAny_pure (And.intro rfl h0)
 ·have hh:wpAny (model prog w) A (pyIter it) (fun it' s'=>codeAny (model prog w) A (.compLoop (.ListComp elt [g1,⟨target,iter,ifs,0⟩] scope pos) 1 it' acc env) R s') (notedBy (model prog w) A env fun x s'=>R (.error x) s') s:=wpAny_mono h (fun _ _ q=>q) fun _ _ q=>q.elim
  refine wpAny_bind (wpAny_rule ?_)
  show wpAny _ _ (standAt iter.pos >>= _) _ _ s
  exact wpAny_bind (wpAny_standAt (wpAny_bind (wpAny_mono hh (fun it' s' h'=>wpAny_pure ⟨rfl,h'⟩) fun _ _ x=>x)))
theorem zFR {g1:Comprehension} (J:Nat->Shared->Prop)
  (turn:∀ n s,J n s->wpAny (model prog w) A (pyNext it) (fun r s1=>match r with
   | none=>R (.ok .next) s1
   | some v=>wpAny (model prog w) A (letOwnedTupleGo target it v) (fun _ s1'=>wpAny (model prog w) A (assign target env v) (fun _ s2=>
     wpAny (model prog w) A (forIn ifs true fun c r=>if r=true then do let ok <- isTrue c env (eval c env);pure (ForInStep.yield ok) else pure (ForInStep.yield r)) (fun ok s3=>
      if ok=true then wpAny (model prog w) A (eval elt env) (fun x s4=>
       wpAny (model prog w) A (call (.builtin "list.append") [acc,x]) (fun _ s5=>∃ m,m < n/\J m s5) (fun _ _=>False) s4) (fun _ _=>False) s3
      else ∃ m,m < n/\J m s3) (fun _ _=>False) s2) (fun _ _=>False) s1') (fun _ _=>False) s1) (fun _ _=>False) s)
  (n:Nat) (h:J n s):codeAny (model prog w) A (.compLoop (.ListComp elt [g1,⟨target,iter,ifs,0⟩] scope pos) 1 it acc env) R s:=by
 refine codeAny_loop rfl J (fun n s hJ=>?_) n h
 have nof:∀ (e:Value) (s':Shared),False->notedBy (model prog w) A env (fun e s'=>R (.error e) s') e s':=fun _ _ f=>f.elim
 show wpAny (model prog w) A ((compTurn (.ListComp elt [g1,⟨target,iter,ifs,0⟩] scope pos) 1 it acc env).onRaise (fun x=>do noteFrame x env;theTreesLotGoes x)) _ _ s
 refine wpAny_noted ?_
 rw [bN]
 refine wpAny_bind (wpAny_standAt (wpAny_bind (wpAny_mono (turn n s hJ) (fun r s1 h1=>?_) nof)))
 cases r with
 | none=>exact wpAny_pure h1
 | some v=>
  refine wpAny_bind (wpAny_mono h1 (fun _ s1' h1'=>?_) nof)
  refine wpAny_bind (wpAny_mono h1' (fun _ s2 h2=>?_) nof)
  refine wpAny_bind (wpAny_mono h2 (fun ok s3 h3=>?_) nof)
  cases ok with
  | false=>exact wpAny_pure ⟨rfl,h3⟩
  | true=>
   refine wpAny_bind (wpAny_bind (wpAny_mono h3 (fun x s4 h4=>?_) nof))
   exact wpAny_bind (wpAny_mono h4 (fun _ s5 h5=>wpAny_pure (wpAny_pure ⟨rfl,h5⟩)) nof)
theorem zDJ (hf:∀ x,foldedSetIterable iter2 env x=pure x) (J:Nat->Shared->Prop)
  (turn:∀ n s,J n s->wpAny (model prog w) A (pyNext it) (fun r s1=>match r with
   | none=>R (.ok .next) s1
   | some v=>wpAny (model prog w) A (letOwnedTupleGo target it v) (fun _ s1'=>wpAny (model prog w) A (assign target env v) (fun _ s2=>
     wpAny (model prog w) A (forIn ifs true fun c r=>if r=true then do let ok <- isTrue c env (eval c env);pure (ForInStep.yield ok) else pure (ForInStep.yield r)) (fun ok s3=>
      if ok=true then wpAny (model prog w) A (eval iter2 env) (fun x s4=>wpAny (model prog w) A (pyIter x) (fun it2 s5=>
       codeAny (model prog w) A (.compStart (.ListComp elt [⟨target,iter,ifs,0⟩,⟨tg2,iter2,ifs2,0⟩] scope pos) 1 it2 acc env) (fun r s6=>r=.ok .next/\∃ m,m < n/\J m s6) s5) (fun _ _=>False) s4) (fun _ _=>False) s3
      else ∃ m,m < n/\J m s3) (fun _ _=>False) s2) (fun _ _=>False) s1') (fun _ _=>False) s1) (fun _ _=>False) s)
  (n:Nat) (h:J n s):codeAny (model prog w) A (.compLoop (.ListComp elt [⟨target,iter,ifs,0⟩,⟨tg2,iter2,ifs2,0⟩] scope pos) 0 it acc env) R s:=by
 refine codeAny_loop rfl J (fun n s hJ=>?_) n h
 have nof:∀ (e:Value) (s':Shared),False->notedBy (model prog w) A env (fun e s'=>R (.error e) s') e s':=fun _ _ f=>f.elim
 show wpAny (model prog w) A ((compTurn (.ListComp elt [⟨target,iter,ifs,0⟩,⟨tg2,iter2,ifs2,0⟩] scope pos) 0 it acc env).onRaise (fun x=>do noteFrame x env;theTreesLotGoes x)) _ _ s
 refine wpAny_noted ?_
 rw [fD]
 refine wpAny_bind (wpAny_standAt (wpAny_bind (wpAny_mono (turn n s hJ) (fun r s1 h1=>?_) nof)))
 cases r with
 | none=>exact wpAny_pure h1
 | some v=>
  refine wpAny_bind (wpAny_mono h1 (fun _ s1' h1'=>?_) nof)
  refine wpAny_bind (wpAny_mono h1' (fun _ s2 h2=>?_) nof)
  refine wpAny_bind (wpAny_mono h2 (fun ok s3 h3=>?_) nof)
  cases ok with
  | false=>exact wpAny_pure ⟨rfl,h3⟩
  | true=>
   simp only [if_true]
   refine wpAny_bind (wpAny_mono h3 (fun x s4 h4=>?_) nof)
   refine wpAny_bind (wpAny_standAt ?_)
   rw [hf]
   refine wpAny_bind (wpAny_pure (wpAny_bind (wpAny_holding (wpAny_mono h4 (fun it2 s5 h5=>?_) nof))))
   refine wpAny_bind (wpAny_runOwn (h:=none) ?_)
   rw [Around.mark_none]
   refine codeAny_mono h5 fun r s6 hz67=>?_
   obtain ⟨e,q⟩:=hz67
   subst e
   exact wpAny_pure ⟨rfl,q⟩
end
def INW (J:It) (g:TG) (tt:TT) (te:TE) (acc:Addr) (ys0:List V) (τ0:St) (H0:Hp) (N:List V->St->Hp->Prop):Prop:=
 ∃ W:Nat->Nat->List V->St->Hp->Prop,(∃ m,W 0 m ys0 τ0 H0)/\∀ i m ys τ H,W i m ys τ H->H acc=some (.lst ys)/\ys.length < sizeLine /\
  ((J.stop i H/\N ys τ H) \/ (J.go i H/\∃ M:List V->St->Hp->Prop,(∀ ys' τ' H',M ys' τ' H'->∃ m',m' < m/\W (i + 1) m' ys' τ' H') /\
   ∀ x H',J.yld i H x H'->g x τ H' fun τ2 H2=>tt τ2 H2 fun b H3=>if b=true then te τ2 H3 fun y H4=>H4 acc=some (.lst ys)/\M (ys ++ [y]) τ2 (upd H4 acc (.lst (ys ++ [y]))) else M ys τ2 H3))
def zGG (J:It) (xs:List Str) (ix:List Nat) (g:TG) (tt:TT) (wi2:TI) (g2:TG) (tt2:TT) (te:TE) (σ:St) (H1:Hp) (acc:Addr) (Q:VK):Prop:=
 ∃ W:Nat->Nat->List V->St->Hp->Prop,(∃ m,W 0 m [] (stC xs ix σ) (upd H1 acc (.lst [])))/\∀ i m ys τ H,W i m ys τ H ->
  ((J.stop i H/\Q (.ref acc) H) \/ (J.go i H/\∃ N:List V->St->Hp->Prop,(∀ ys' τ' H',N ys' τ' H'->∃ m',m' < m/\W (i + 1) m' ys' τ' H') /\
   ∀ x H',J.yld i H x H'->g x τ H' fun τ2 H2=>tt τ2 H2 fun b H3=>if b=true then wi2 τ2 H3 fun J2 H4=>INW J2 g2 tt2 te acc ys τ2 H4 N else N ys τ2 H3))
def zB6 (xs:List Str) (ix:List Nat) (wi:TI) (g:TG) (tt:TT) (wi2:TI) (g2:TG) (tt2:TT) (te:TE):TE:=fun σ H Q=>wi σ H fun J H1=>∀ acc,H1 acc=none->zGG J xs ix g tt wi2 g2 tt2 te σ H1 acc Q
theorem d7 {X:Cx} {xs:List Str} {ix:List Nat} {scope:Scope} {elt tg iter tg2 iter2:Expr} {ifs ifs2:List Expr} {pos:Pos} {wi wi2:TI} {g g2:TG} {tt tt2:TT} {te:TE}
  (S:x6 X xs ix scope) (hc:X.calm=true) (hi:PI X tg iter wi) (hi2:∀ C fp s H,PI (cxC X xs ix scope C fp s H) tg2 iter2 wi2) (hf2:∀ env x,foldedSetIterable iter2 env x=pure x)
  (hg:∀ C fp s H,PG (cxC X xs ix scope C fp s H) tg g) (ht:∀ C fp s H,PTs (cxC X xs ix scope C fp s H) ifs tt) (hg2:∀ C fp s H,PG (cxC X xs ix scope C fp s H) tg2 g2) (ht2:∀ C fp s H,PTs (cxC X xs ix scope C fp s H) ifs2 tt2) (he:∀ C fp s H,PE (cxC X xs ix scope C fp s H) elt te)
  {pins:List (Addr × Obj)} {s:Shared} {σ:St} {H:Hp} {Q:VK} (I:Inv X pins σ H s) (h:zB6 xs ix wi g tt wi2 g2 tt2 te σ H Q) {use:Option (Value->Sem Unit)} {R:Value->Shared->Prop}
  (fin:∀ (acc C:Addr) (H':Hp) (s':Shared) (m:Str->Option Value),Q (.ref acc) H'->s'.heap.Ns C m->(∀ h',Heap.SameBut C s'.heap h'->∀ tk,Inv X pins σ H' { s' with heap:=h',toks:=tk })->(X.s₀.heap.objs.size <= C/\C ≠ X.env.locals/\(∀ x c,X.env.cells.lookup x=some c->c ≠ C)/\(∀ p ∈ X.pn ++ pins,p.1 ≠ C)/\H' C=none)->compPost (model X.prog X.w) X.A X.xe use R (.ref acc) C (.ok .next) s') :
  wpAny (model X.prog X.w) X.A (eval iter X.env) (fun x s₁=>wpAny (model X.prog X.w) X.A (pyIter x) (fun it s₂=>wpAny (model X.prog X.w) X.A (newList []) (fun acc s₃=>
   wpAny (model X.prog X.w) X.A (newFunctionEnv scope X.env.globals (clF X.env scope.names []) [] X.env.qual none .none (some X.env)) (fun cenv s₄=>
    codeAny (model X.prog X.w) X.A (.compStart (.ListComp elt [⟨tg,iter,ifs,0⟩,⟨tg2,iter2,ifs2,0⟩] scope pos) 0 it acc { cenv with scope:=relabel scope X.env }) (compPost (model X.prog X.w) X.A X.xe use R acc cenv.locals) s₄) X.xe s₃) X.xe s₂) X.xe s₁) X.xe s:=by
 refine thn (hi pins s σ H _ I h) fun v s1 h1=>thn h1 fun itv s2 h2=>?_
 obtain ⟨it,fp,tn,J,H2,rfl,I2,T,st2,f2,q⟩:=h2
 refine wpAny_newObj_type ?_
 have I3:Inv X pins σ (upd H2 s2.heap.objs.size (.lst [])) { s2 with heap:=s2.heap.push { cls:=.type "list",data:=.seq ([]:List Value).toArray },toks:=s2.toks }:=I2.lnew (ys:=[]) (its:=[]) .nil (zGR _)
 obtain ⟨W,⟨m0,w0⟩,turn⟩:=q s2.heap.objs.size I2.fresh
 have objs2:=T.obj 0 _ st2
 have neacc:∀ b ∈ fp,b ≠ s2.heap.objs.size:=fun b hb z=>by
  obtain ⟨o,ho,_⟩:=objs2 b hb
  exact Nat.lt_irrefl _ (Nat.lt_of_lt_of_eq (Heap.lt_size ho) z.symm)
 generalize hacc:s2.heap.objs.size=acc at *
 generalize hs3:({ s2 with heap:=s2.heap.push { cls:=.type "list",data:=.seq ([]:List Value).toArray } }:Shared)=s3
 have I3:Inv X pins σ (upd H2 acc (.lst [])) s3:=by rw [<- hs3];exact I3
 have k3:∀ b o,s2.heap.get? b=some o->s3.heap.get? b=some o:=fun b o e=>by rw [<- hs3];exact Heap.get?_push_of_some _ e
 have f3:∀ b ∈ fp,uU X pins (upd H2 acc (.lst [])) b:=fun b hb=>⟨by rw [zJ (neacc b hb)];exact (f2 b hb).1,(f2 b hb).2⟩
 have o3:∀ b ∈ fp,∃ o,s3.heap.get? b=some o:=fun b hb=>let ⟨o,ho,_⟩:=objs2 b hb;⟨o,k3 b o ho⟩
 have st3:tn 0 s3.heap:=T.keep _ _ _ st2 fun b _ o e=>k3 b o e
 refine wpAny_newFunctionEnv S.nocell (by intro y hy;simp at hy) (fun h1 hns1 hsb1=>?_) S.kind
 have keep1:∀ b o,s3.heap.get? b=some o->h1.get? b=some o:=fun b o e=>hsb1.extBut b o (zG8 (Heap.lt_size e)) (Heap.get?_push_of_some _ e)
 generalize hs4:({ s3 with heap:=h1,toks:=s3.toks + ([]:List (Str × Value)).length }:Shared)=s4
 have I4:Inv (cxC X xs ix scope s3.heap.objs.size fp s3 (upd H2 acc (.lst []))) [] (stC xs ix σ) (upd H2 acc (.lst [])) s4:=u7 S I3 f3 o3 hns1 keep1 hs4.symm
 have st4:tn 0 s4.heap:=T.keep _ _ _ st3 fun b _ o e=>by rw [<- hs4];exact keep1 b o e
 generalize hX':cxC X xs ix scope s3.heap.objs.size fp s3 (upd H2 acc (.lst []))=X' at *
 have hg:=hg s3.heap.objs.size fp s3 (upd H2 acc (.lst []))
 have ht:=ht s3.heap.objs.size fp s3 (upd H2 acc (.lst []))
 have he:=he s3.heap.objs.size fp s3 (upd H2 acc (.lst []))
 have hg2:=hg2 s3.heap.objs.size fp s3 (upd H2 acc (.lst []))
 have ht2:=ht2 s3.heap.objs.size fp s3 (upd H2 acc (.lst []))
 have hi2:=hi2 s3.heap.objs.size fp s3 (upd H2 acc (.lst []))
 rw [hX'] at hg ht he hg2 ht2 hi2
 have eP:X'.prog=X.prog:=by rw [<- hX'];rfl
 have ew:X'.w=X.w:=by rw [<- hX'];rfl
 have eK:X'.K=X.K:=by rw [<- hX'];rfl
 have eA:X'.A=X.A:=by rw [<- hX'];rfl
 have ec:X'.calm=true:=by rw [<- hX'];exact hc
 have ex:X'.xe=fun _ _=>False:=by rw [<- hX'];rfl
 have eenv:X'.env=compEnvC scope (clF X.env scope.names []) s3.heap.objs.size X.env:=by rw [<- hX'];rfl
 have eex:X'.ex=fp:=by rw [<- hX'];rfl
 have efs:X'.fs=frs X.stack:=by rw [<- hX'];rfl
 have epn:X'.pn=[]:=by rw [<- hX'];rfl
 have eH0:X'.H₀=upd H2 acc (.lst []):=by rw [<- hX'];rfl
 have es0:X'.s₀=s3:=by rw [<- hX'];rfl
 have eloc:X'.env.locals=s3.heap.objs.size:=by rw [eenv];rfl
 have stat:∀ {H':Hp},(∀ b ∈ fp,H' b=none)->∀ b ∈ fp,uU X' [] H' b:=fun {H'} hn b hb=>by
  refine ⟨hn b hb,?_,?_,.inl (by rw [eex];exact hb),?_,?_⟩
  ·rw [eloc]
   intro z
   obtain ⟨o,ho⟩:=o3 b hb
   exact Nat.lt_irrefl _ (Nat.lt_of_lt_of_eq (Heap.lt_size ho) z.symm)
  ·exact I4.ok.exfs b (by rw [eex];exact hb)
  ·exact (I4.ok.exf b (by rw [eex];exact hb)).2
  ·rw [epn];intro p hp;exact absurd hp (by simp)
 have loop:codeAny (model X.prog X.w) X.A (.compLoop (.ListComp elt [⟨tg,iter,ifs,0⟩,⟨tg2,iter2,ifs2,0⟩] scope pos) 0 (.ref it) (.ref acc) X'.env) (compPost (model X.prog X.w) X.A X.xe use R (.ref acc) s3.heap.objs.size) s4:=by
  refine zDJ (fun x=>hf2 _ x) (fun n s'=>∃ i ys τ H',Inv X' [] τ H' s'/\tn i s'.heap/\(∀ b ∈ fp,H' b=none)/\W i n ys τ H') ?_ m0 ⟨0,[],_,_,I4,st4,fun b hb=>(f3 b hb).1,w0⟩
  rintro n s5 ⟨i,ys,τ,H5,I5,st5,fr5,w5⟩
  rcases turn i n ys τ H5 w5 with ⟨stop,qn⟩ | ⟨go,N,hN,step⟩
  ·have d:=T.done X' eP ew eK ec i [] s5 τ H5 (fun _ _=>False) I5 (stat fr5) st5 stop
   rw [eA] at d
   refine thn d fun r s6 hz68=>?_
   obtain ⟨hr,I6⟩:=hz68
   subst hr
   obtain ⟨m,hn6,_⟩:=id I6.loc
   rw [eloc] at hn6
   refine fin acc s3.heap.objs.size H5 s6 m qn hn6 (fun h' hsb tk=>?_) ⟨I3.sz,Ne.symm (zG8 I3.lt),fun x c e z=>by
    obtain ⟨v,oc,hoc,_⟩:=I3.cell x c e
    exact Nat.lt_irrefl _ (Nat.lt_of_lt_of_eq (Heap.lt_size hoc) z.symm),fun p hp z=>Nat.lt_irrefl _ (Nat.lt_of_lt_of_eq (Heap.lt_size (I3.pin p hp).1) z.symm),by have:=I6.free;rw [eloc] at this;exact this⟩
   have same:∀ b,b ≠ s3.heap.objs.size->h'.get? b=s6.heap.get? b:=fun b hb=>hsb.2 b hb
   have ub:=I6.base
   rw [efs,eex,eH0,es0] at ub
   have ne3:∀ b o,s3.heap.get? b=some o->b ≠ s3.heap.objs.size:=fun b o e=>zG8 (Heap.lt_size e)
   have u:Un (frs X.stack) fp (upd H2 acc (.lst [])) H5 s3.heap h':=
    ⟨fun b o e n1 n2 n3=>(same b (ne3 b o e)).trans (ub.keep b o e n1 n2 n3),fun b o e n1 n2 n3=>by
      obtain ⟨sl,z⟩:=ub.slot b o e n1 n2 n3
      exact ⟨sl,(same b (ne3 b o e)).trans z⟩,ub.free,fun b o e n3=>by
      obtain ⟨o',z⟩:=ub.there b o e n3
      exact ⟨o',(same b (ne3 b o e)).trans z⟩,ub.tups,ub.frzs,ub.tbls⟩
   have fC:H5 s3.heap.objs.size=none:=by have:=I6.free;rw [eloc] at this;exact this
   have hok:HOk X.prog X.w H5 h':=fun b o e=>by
    have z:=I6.hok b o e
    rw [eP,ew] at z
    refine z.stay (fun c u hc q=>(same c ?_).trans q) (fun _ q=>q) fun _ _ q=>q
    intro zc
    rcases hc with q1 | q1
    ·rw [<- q1,zc,fC] at e;cases e
    ·rw [zc,fC] at q1;cases q1
   have hch:∀ b ∈ fp,(b ∈ X.ex \/ X.s₀.heap.objs.size <= b)/\b ≠ X.env.locals/\(∀ x c,X.env.cells.lookup x=some c->c ≠ b)/\∀ p ∈ X.pn ++ pins,p.1 ≠ b:=fun b hb=>by
    obtain ⟨_,f1,_,g3,g4,g5⟩:=f3 b hb
    exact ⟨g3,f1,g4,g5⟩
   have ho:s6.os=s3.os:=by have:=I6.os;rw [es0] at this;exact this
   exact I3.call' (s':={ s6 with heap:=h',toks:=tk }) (ch:=fp) ho u hok I6.bare hch
  ·have d:=T.item X' eP ew eK ec i [] s5 τ H5 (fun _ _=>False) I5 (stat fr5) st5 go
   rw [eA] at d
   refine thn d fun r s6 hz69=>?_
   obtain ⟨u,hr,h6⟩:=hz69
   subst hr
   refine thn h6 fun _ s7 hz70=>?_
   obtain ⟨x,H7,I7,r7,y7,st7,fr7⟩:=hz70
   have I7':=I7.pinned (stat fr7) (T.obj _ _ st7)
   have dg:=hg _ s7 τ H7 x u _ I7' r7 (step x H7 y7)
   rw [eP,ew,eA,ex] at dg
   refine thn dg fun _ s8 hz71=>?_
   obtain ⟨τ8,H8,I8,q8⟩:=hz71
   have dt:=ht _ s8 τ8 H8 _ I8 q8
   rw [eP,ew,eA,ex] at dt
   refine thn dt fun ok s9 hz72=>?_
   obtain ⟨H9,I9,q9⟩:=hz72
   have again:∀ {τ':St} {H':Hp} {s':Shared},Inv X' ([] ++ vJ fp s7.heap) τ' H' s'->Inv X' [] τ' H' s'/\tn (i + 1) s'.heap/\∀ b ∈ fp,H' b=none:=fun {τ' H' s'} Ie=>by
    refine ⟨Ie.unpinned,T.keep _ _ _ st7 fun b hb o e=>(Ie.pin (b,o) (zGV _ (zGV _ (xW hb e)))).1,fun b hb=>?_⟩
    obtain ⟨o,e,_⟩:=T.obj _ _ st7 b hb
    exact (Ie.pin (b,o) (zGV _ (zGV _ (xW hb e)))).2.1
   cases ok with
   | false=>
    rw [if_neg zG9] at q9 ⊢
    obtain ⟨m',hm,w9⟩:=hN _ _ _ q9
    obtain ⟨z1,z2,z3⟩:=again I9
    exact ⟨m',hm,i + 1,ys,τ8,H9,z1,z2,z3,w9⟩
   | true=>
    rw [if_pos rfl] at q9 ⊢
    have de:=hi2 _ s9 τ8 H9 _ I9 q9
    rw [eP,ew,eA,ex] at de
    refine thn de fun xv s10 h10=>thn h10 fun itv s11 h11=>?_
    obtain ⟨it2,fp2,tn2,J2,H11,rfl,I11,T2,st11,f11,W2,⟨m2,w2⟩,turn2⟩:=h11
    rw [eP,ew,eK] at T2
    have stat2:∀ {H':Hp},(∀ b ∈ fp2,H' b=none)->∀ b ∈ fp2,uU X' ([] ++ vJ fp s7.heap) H' b:=fun hn b hb=>⟨hn b hb,(f11 b hb).2⟩
    have loop2:codeAny (model X.prog X.w) X.A (.compLoop (.ListComp elt [⟨tg,iter,ifs,0⟩,⟨tg2,iter2,ifs2,0⟩] scope pos) 1 (.ref it2) (.ref acc) X'.env) (fun r s12=>r=.ok .next/\∃ m,m < n/\∃ i ys τ H',Inv X' [] τ H' s12/\tn i s12.heap/\(∀ b ∈ fp,H' b=none)/\W i m ys τ H') s11:=by
     refine zFR (fun n2 s'=>∃ i2 ys2 τ2 H',Inv X' ([] ++ vJ fp s7.heap) τ2 H' s'/\tn2 i2 s'.heap/\(∀ b ∈ fp2,H' b=none)/\W2 i2 n2 ys2 τ2 H') ?_ m2 ⟨0,ys,τ8,H11,I11,st11,fun b hb=>(f11 b hb).1,w2⟩
     rintro n2 s12 ⟨i2,ys2,τ12,H12,I12,st12,fr12,w12⟩
     obtain ⟨ha12,hz12,way2⟩:=turn2 i2 n2 ys2 τ12 H12 w12
     rcases way2 with ⟨stop2,qn2⟩ | ⟨go2,N2,hN2,step2⟩
     ·have d2:=T2.done X' eP ew eK ec i2 _ s12 τ12 H12 (fun _ _=>False) I12 (stat2 fr12) st12 stop2
      rw [eA] at d2
      refine thn d2 fun r s13 hz73=>?_
      obtain ⟨hr,I13⟩:=hz73
      subst hr
      obtain ⟨m',hm,w13⟩:=hN _ _ _ qn2
      obtain ⟨z1,z2,z3⟩:=again I13
      exact ⟨rfl,m',hm,i + 1,ys2,τ12,H12,z1,z2,z3,w13⟩
     ·have d2:=T2.item X' eP ew eK ec i2 _ s12 τ12 H12 (fun _ _=>False) I12 (stat2 fr12) st12 go2
      rw [eA] at d2
      refine thn d2 fun r s13 hz74=>?_
      obtain ⟨u2,hr,h13⟩:=hz74
      subst hr
      refine thn h13 fun _ s14 hz75=>?_
      obtain ⟨x2,H14,I14,r14,y14,st14,fr14⟩:=hz75
      have I14':=I14.pinned (stat2 fr14) (T2.obj _ _ st14)
      have dg2:=hg2 _ s14 τ12 H14 x2 u2 _ I14' r14 (step2 x2 H14 y14)
      rw [eP,ew,eA,ex] at dg2
      refine thn dg2 fun _ s15 hz76=>?_
      obtain ⟨τ15,H15,I15,q15⟩:=hz76
      have dt2:=ht2 _ s15 τ15 H15 _ I15 q15
      rw [eP,ew,eA,ex] at dt2
      refine thn dt2 fun ok2 s16 hz77=>?_
      obtain ⟨H16,I16,q16⟩:=hz77
      have again2:∀ {τ':St} {H':Hp} {s':Shared},Inv X' (([] ++ vJ fp s7.heap) ++ vJ fp2 s14.heap) τ' H' s'->Inv X' ([] ++ vJ fp s7.heap) τ' H' s'/\tn2 (i2 + 1) s'.heap/\∀ b ∈ fp2,H' b=none:=fun {τ' H' s'} Ie=>by
       refine ⟨Ie.unpinned,T2.keep _ _ _ st14 fun b hb o e=>(Ie.pin (b,o) (zGV _ (zGV _ (xW hb e)))).1,fun b hb=>?_⟩
       obtain ⟨o,e,_⟩:=T2.obj _ _ st14 b hb
       exact (Ie.pin (b,o) (zGV _ (zGV _ (xW hb e)))).2.1
      cases ok2 with
      | false=>
       rw [if_neg zG9] at q16 ⊢
       obtain ⟨m',hm,w16⟩:=hN2 _ _ _ q16
       obtain ⟨z1,z2,z3⟩:=again2 I16
       exact ⟨m',hm,i2 + 1,ys2,τ15,H16,z1,z2,z3,w16⟩
      | true=>
       rw [if_pos rfl] at q16 ⊢
       have de2:=he _ s16 τ15 H16 _ I16 q16
       rw [eP,ew,eA,ex] at de2
       refine thn de2 fun yv s17 hz78=>?_
       obtain ⟨y,H17,I17,r17,ha17,n17⟩:=hz78
       obtain ⟨m',hm,w17⟩:=hN2 _ _ _ n17
       have dm:=xF (X:=X') _ s17 τ15 H17 (.ref acc) [y] (.ref acc) [yv] (fun v H'=>v=.non/\H'=upd H17 acc (.lst (ys2 ++ [y]))) I17 rfl (.cons r17 .nil) ⟨acc,ys2,y,rfl,rfl,ha17,hz12,rfl,rfl⟩
       rw [eP,ew,eA,ex] at dm
       refine thn dm fun _ s18 hz79=>?_
       obtain ⟨_,H18,I18,_,_,e18⟩:=hz79
       subst e18
       obtain ⟨z1,z2,z3⟩:=again2 I18
       exact ⟨m',hm,i2 + 1,ys2 ++ [y],τ15,_,z1,z2,z3,w17⟩
    exact fN loop2 (T2.self X.A 0 s11 _ (fun _ _=>False) st11 loop2)
 have e4:({ newEnv scope s3.heap.objs.size X.env.globals (clF X.env scope.names []) X.env.qual none .none (some X.env) builtinsNs with scope:=relabel scope X.env }:Env)=X'.env:=by rw [eenv];rfl
 rw [eenv] at loop
 have self:=T.self X.A 0 s4 (fun it' s'=>codeAny (model X.prog X.w) X.A (.compLoop (.ListComp elt [⟨tg,iter,ifs,0⟩,⟨tg2,iter2,ifs2,0⟩] scope pos) 0 it' (.ref acc) (compEnvC scope (clF X.env scope.names []) s3.heap.objs.size X.env)) (compPost (model X.prog X.w) X.A X.xe use R (.ref acc) s3.heap.objs.size) s')
  (notedBy (model X.prog X.w) X.A (compEnvC scope (clF X.env scope.names []) s3.heap.objs.size X.env) fun x s'=>compPost (model X.prog X.w) X.A X.xe use R (.ref acc) s3.heap.objs.size (.error x) s') st4 loop
 exact codeAny_compStart_list loop self
theorem zCV {X:Cx} {xs:List Str} {ix:List Nat} {scope:Scope} {elt tg iter tg2 iter2:Expr} {ifs ifs2:List Expr} {pos:Pos} {wi wi2:TI} {g g2:TG} {tt tt2:TT} {te:TE} (S:x6 X xs ix scope) (hc:X.calm=true) (hi:PI X tg iter wi) (hi2:∀ C fp s H,PI (cxC X xs ix scope C fp s H) tg2 iter2 wi2)
  (hg:∀ C fp s H,PG (cxC X xs ix scope C fp s H) tg g) (ht:∀ C fp s H,PTs (cxC X xs ix scope C fp s H) ifs tt) (hg2:∀ C fp s H,PG (cxC X xs ix scope C fp s H) tg2 g2) (ht2:∀ C fp s H,PTs (cxC X xs ix scope C fp s H) ifs2 tt2)
  (he:∀ C fp s H,PE (cxC X xs ix scope C fp s H) elt te) (hs:∀ x,foldedSetIterable iter X.env x=pure x:=by intro _;rfl) (hf2:∀ env x,foldedSetIterable iter2 env x=pure x:=by intro _ _;rfl) :
  PE X (.ListComp elt [⟨tg,iter,ifs,0⟩,⟨tg2,iter2,ifs2,0⟩] scope pos) (zB6 xs ix wi g tt wi2 g2 tt2 te):=by
 intro pins s σ H Q I h
 have hcl:∀ n,(n,NameKind.free) ∈ scope.names->(X.env.cells.lookup n).isSome=true:=fun n hn=>by
  obtain ⟨c,e⟩:=I.ok.has n (S.fre n hn)
  rw [e];rfl
 rw [eval_ListComp]
 refine wpAny_comprehension_free (use:=none) rfl hs (w4 hcl) S.kind S.loc ?_
 refine d7 S hc hi hi2 hf2 hg ht hg2 ht2 he I h fun acc C H' s' m q hn k _=>?_
 exact ⟨m,hn,fun h' hsb=>⟨.ref acc,H',k h' hsb s'.toks,rfl,q⟩⟩
theorem aR {X:Cx} {N:List Str} {sc:Scope} {x y z u:Str} {ix:List Nat} {scope:Scope} {elt iter iter2:Expr} {ifs ifs2:List Expr} {px py pz pu tp tp2 pos:Pos} {tk tk2:Nat} {wi wi2:TI} {tt tt2:TT} {te:TE}
  (hS:tL N sc [x,y,z,u] ix scope) (hi:PI X (.Tuple [.Name x px,.Name y py] tk tp) iter wi) (hi2:∀ C fp s H,PI (cxC X [x,y,z,u] ix scope C fp s H) (.Tuple [.Name z pz,.Name u pu] tk2 tp2) iter2 wi2)
  (ht:∀ C fp s H,PTs (cxC X [x,y,z,u] ix scope C fp s H) ifs tt) (ht2:∀ C fp s H,PTs (cxC X [x,y,z,u] ix scope C fp s H) ifs2 tt2) (he:∀ C fp s H,PE (cxC X [x,y,z,u] ix scope C fp s H) elt te)
  (hN:X.N=N:=by rfl) (hsc:X.env.scope=sc:=by rfl) (hc:X.calm=true:=by rfl) (hs:∀ x,foldedSetIterable iter X.env x=pure x:=by intro _;rfl) (hf2:∀ env x,foldedSetIterable iter2 env x=pure x:=by intro _ _;rfl) :
  PE X (.ListComp elt [⟨.Tuple [.Name x px,.Name y py] tk tp,iter,ifs,0⟩,⟨.Tuple [.Name z pz,.Name u pu] tk2 tp2,iter2,ifs2,0⟩] scope pos)
   (zB6 [x,y,z,u] ix wi (gJ X.K 2 (uV (wK 0) (uV (wK 1) gK))) tt wi2 (gJ X.K 2 (uV (wK 2) (uV (wK 3) gK))) tt2 te):=by
 have S:=hS.at (X:=X) hN hsc
 have hl:∀ n ∈ [x,y,z,u],∀ C fp s H,(cxC X [x,y,z,u] ix scope C fp s H).env.scope.names.lookup n=some .local:=fun n hn _ _ _ _=>lookup_relabel_local (S.own n hn)
 have l0:=hl x (by simp)
 have l1:=hl y (by simp)
 have l2:=hl z (by simp)
 have l3:=hl u (by simp)
 exact zCV S hc hi hi2 (fun C fp s H=>uB (X:=cxC X [x,y,z,u] ix scope C fp s H) hc (yS (yH S.nd rfl (Or.inl (l0 C fp s H)) (.inr (l0 C fp s H))) (yS (yH S.nd rfl (Or.inl (l1 C fp s H)) (.inr (l1 C fp s H))) vF))) ht
  (fun C fp s H=>uB (X:=cxC X [x,y,z,u] ix scope C fp s H) hc (yS (yH S.nd rfl (Or.inl (l2 C fp s H)) (.inr (l2 C fp s H))) (yS (yH S.nd rfl (Or.inl (l3 C fp s H)) (.inr (l3 C fp s H))) vF))) ht2 he hs hf2
theorem cC {K:PySem.W.Frag} {a acc:Addr} {its ys0:List V} {g:TG} {te:TE} {τ0:St} {H0:Hp} {N:List V->St->Hp->Prop} (Pv:Nat->List V->St->Hp->Prop) (h0:Pv 0 ys0 τ0 H0) (hacc:∀ i ys τ H,Pv i ys τ H->H acc=some (.lst ys)/\ys.length < sizeLine/\SqL K H a its)
  (hs:∀ i ys τ H x,its[i]?=some x->Pv i ys τ H->g x τ H fun τ2 H2=>te τ2 H2 fun y H4=>H4 acc=some (.lst ys)/\Pv (i + 1) (ys ++ [y]) τ2 (upd H4 acc (.lst (ys ++ [y])))) (hd:∀ ys τ H,Pv its.length ys τ H->N ys τ H):INW (Itl K a) g tM te acc ys0 τ0 H0 N:=by
 refine ⟨fun i m ys τ H=>m=its.length - i/\i <= its.length/\Pv i ys τ H,⟨its.length,by simp,zGR _,h0⟩,?_⟩
 rintro i m ys τ H ⟨rfl,hi,p⟩
 obtain ⟨c1,c2,c3⟩:=hacc i ys τ H p
 refine ⟨c1,c2,?_⟩
 by_cases hlt:i < its.length
 ·refine .inr ⟨⟨its,its[i],c3,by simp [hlt]⟩,Pv (i + 1),fun ys' τ' H' p'=>⟨its.length - (i + 1),by omega,rfl,hlt,p'⟩,fun x H' y=>?_⟩
  obtain ⟨e,y⟩:=y
  subst e
  exact qD (R:=fun τ2 _=>fun y H4=>H4 acc=some (.lst ys)/\Pv (i + 1) (ys ++ [y]) τ2 (upd H4 acc (.lst (ys ++ [y])))) (hs i ys τ _ x (y its c3) p)
 ·have e:i=its.length:=by omega
  subst e
  exact .inl ⟨⟨its,c3,zGQ _⟩,hd ys τ H p⟩
theorem d6 {K:PySem.W.Frag} {a acc:Addr} {k:Int} {its:List V} {xs:List Str} {ix:List Nat} {g g2:TG} {tt2:TT} {wi2:TI} {te:TE} {σ:St} {H1:Hp} {Q:VK} (Pv:Nat->List V->St->Hp->Prop) (h0:Pv 0 [] (stC xs ix σ) (upd H1 acc (.lst []))) (hl:∀ i ys τ H,i <= its.length->Pv i ys τ H->SqL K H a its)
  (hs:∀ i ys τ H x T,its[i]?=some x->Pv i ys τ H->H T=none->g (.ref T) τ (upd H T (.tup [.int (k + i),x])) fun τ2 H2=>wi2 τ2 H2 fun J2 H4=>INW J2 g2 tt2 te acc ys τ2 H4 (Pv (i + 1))) (hd:∀ ys τ H,Pv its.length ys τ H->Q (.ref acc) H):zGG (Ite K a k) xs ix g tM wi2 g2 tt2 te σ H1 acc Q:=by
 refine ⟨fun i m ys τ H=>m=its.length - i/\i <= its.length/\Pv i ys τ H,⟨its.length,by simp,zGR _,h0⟩,?_⟩
 rintro i m ys τ H ⟨rfl,hi,p⟩
 have q:=hl i ys τ H hi p
 by_cases hlt:i < its.length
 ·refine .inr ⟨⟨its,its[i],q,by simp [hlt]⟩,Pv (i + 1),fun ys' τ' H' p'=>⟨its.length - (i + 1),by omega,rfl,hlt,p'⟩,fun x H' y=>?_⟩
  obtain ⟨T,v,rfl,nT,rfl,y⟩:=y
  have e:(fun τ2 H2=>tM τ2 H2 fun b H3=>if b=true then wi2 τ2 H3 fun J2 H4=>INW J2 g2 tt2 te acc ys τ2 H4 (Pv (i + 1)) else Pv (i + 1) ys τ2 H3)=fun τ2 H2=>wi2 τ2 H2 fun J2 H4=>INW J2 g2 tt2 te acc ys τ2 H4 (Pv (i + 1)):=by
   funext τ2 H2
   show (if true=true then wi2 τ2 H2 (fun J2 H4=>INW J2 g2 tt2 te acc ys τ2 H4 (Pv (i + 1))) else Pv (i + 1) ys τ2 H2)=_
   rw [if_pos rfl]
  rw [e]
  exact hs i ys τ H v T (y its q) p nT
 ·have e:i=its.length:=by omega
  subst e
  exact .inl ⟨⟨its,q,zGQ _⟩,hd ys τ H p⟩
section
variable {X:Cx}
theorem mN {elts:List Expr} {n:Nat} {tp:Pos} {p pos:Pos} {l:Expr} {tl:TE} (hg:Gl X "enumerate") (hm:X.mg "enumerate"=none) (hl:PE X l tl) (he:starEach [l] X.env=[(false,eval l X.env)]:=by rfl) :
  PI X (.Tuple elts n tp) (.Call (.Name "enumerate" p) [l] [] pos) (zFU X.K 0 tl):=by
 intro pins s σ H R I h
 refine wpAny_Call_Name_kw (sY I hg hm (u:=.type "enumerate") rfl ?_)
 rw [he]
 refine PySem.callWith_type rfl (Calls.evalArgs_plain (Calls.spliced_cons (thn (hl pins s σ H _ I h) fun v s1 hz80=>?_)))
 obtain ⟨x,H1,I1,r1,q1⟩:=hz80
 refine Calls.spliced_nil ?_
 obtain ⟨a,rfl,⟨xs,hq⟩,q⟩:=q1
 cases r1
 obtain ⟨its,rv,pl,hz⟩:=I1.list hq
 refine call_enumerate_list pl.isList fun h' ie il _ kp'=>?_
 refine wpAny_pyIter_enum ie ?_
 refine ⟨s1.heap.objs.size + 1,[s1.heap.objs.size + 1,s1.heap.objs.size],_,_,H1,rfl,I1.kept (t':=s1.toks) kp',iR a (s1.heap.objs.size + 1) s1.heap.objs.size 0 (Nat.succ_ne_self _),⟨⟨.none,by simpa using ie⟩,il⟩,fun b hb=>?_,q⟩
 have hb':s1.heap.objs.size <= b:=by
  rcases List.mem_cons.mp hb with rfl | hb
  ·exact Nat.le_succ _
  ·rw [zGK.mp hb];exact zGQ _
 exact I1.fpOk hb' (I1.hok.fresh hb')
end
theorem iZ {X:Cx} {N:List Str} {sc:Scope} {x z y:Str} {ix:List Nat} {scope:Scope} {elt iter:Expr} {ifs:List Expr} {px pz tp cpos pos pos':Pos} {tk:Nat} {wi:TI} {tt:TT} {te:TE} {i:Nat}
  (hN':X.N.Nodup) (hin:X.N[i]?=some y) (hx:Loc X.env.scope y)
  (hS:tL N sc [x,z] ix scope) (hi:PI X (.Tuple [.Name x px,.Name z pz] tk tp) iter wi) (ht:∀ C fp s H,PTs (cxC X [x,z] ix scope C fp s H) ifs tt) (he:∀ C fp s H,PE (cxC X [x,z] ix scope C fp s H) elt te)
  (hN:X.N=N:=by rfl) (hsc:X.env.scope=sc:=by rfl) (hc:X.calm=true:=by rfl)
  (hsw:swapsWith (.ListComp elt [⟨.Tuple [.Name x px,.Name z pz] tk tp,iter,ifs,0⟩] scope cpos) (some (.Name y pos')) pos.line X.env=pure true:=by rfl)
  (hf:X.fn y=true \/ X.env.scope.names.lookup y=some .local:=by first | exact .inl rfl | exact .inr rfl | assumption)
  (hs:∀ x,foldedSetIterable iter X.env x=pure x:=by intro _;rfl) :
  PS X (.Assign [.Name y pos'] (.ListComp elt [⟨.Tuple [.Name x px,.Name z pz] tk tp,iter,ifs,0⟩] scope cpos) pos) (nX (tLC [x,z] ix wi (gJ X.K 2 (uV (wK 0) (uV (wK 1) gK))) tt te) (wK i)):=by
 have S:=hS.at (X:=X) hN hsc
 have l0:∀ C fp s H,(cxC X [x,z] ix scope C fp s H).env.scope.names.lookup x=some .local:=fun _ _ _ _=>lookup_relabel_local (S.own x (by simp))
 have l1:∀ C fp s H,(cxC X [x,z] ix scope C fp s H).env.scope.names.lookup z=some .local:=fun _ _ _ _=>lookup_relabel_local (S.own z (by simp))
 exact mJ hN' hin hx S hc hi (fun C fp s H=>uB (X:=cxC X [x,z] ix scope C fp s H) hc (yS (yH S.nd rfl (Or.inl (l0 C fp s H)) (.inr (l0 C fp s H))) (yS (yH S.nd rfl (Or.inl (l1 C fp s H)) (.inr (l1 C fp s H))) vF))) ht he hsw hf hs
end L2
namespace L2
open PySem PySem.Spec PyProof.Rows PySem.W
noncomputable def ltF:V->V->Bool
 | .int a,.int b=>decide (a < b)
 | .bl a,.bl b=>!a && b
 | .str a,.str b=>ltS a b
 | _,_=>false
inductive Kin:List V->List V->Prop
 | nil:Kin [] []
 | int {a b:Int} {xs ys:List V} (h:Kin xs ys):Kin (.int a :: xs) (.int b :: ys)
 | bl {a b:Bool} {xs ys:List V} (h:Kin xs ys):Kin (.bl a :: xs) (.bl b :: ys)
 | str {a b:Str} {xs ys:List V} (h:Kin xs ys):Kin (.str a :: xs) (.str b :: ys)
noncomputable def uP:List V->List V->Bool
 | a :: as,c :: cs=>if eqV a c=true then uP as cs else ltF a c
 | _,_=>false
theorem hX (a c:V) (as cs:List V):uP (a :: as) (c :: cs)=if eqV a c=true then uP as cs else ltF a c:=rfl
theorem Kin.len {xs ys:List V} (h:Kin xs ys):xs.length=ys.length:=by
 induction h <;> simp_all
section
open PySem.SeqAt
open PySem.AutoSeq1 (wpAny_loadPart')
open PySem.MeetsSeq PySem.MeetsSeq2 PySem.MeetsSeq3
theorem iX {x y:V} {u v:Value} {xs ys:List V} (hk:Kin (x :: xs) (y :: ys)) (rx:yN x u) (ry:yN y v) (A:Around) (s:Shared) (prog:Program) (w:World) (E:Value->Shared->Prop) (Q:Value->Shared->Prop) (h:Q (.bool (ltF x y)) s) :
  wpAny (model prog w) A (richCompare .Lt u v) Q E s:=by
 cases hk with
 | int _=>obtain ⟨t,rfl⟩:=rx;obtain ⟨t',rfl⟩:=ry;exact (PyProof.Rows.lt_int h:wpAny (model prog w) A (compareOp .Lt _ _) Q E s)
 | str _=>obtain ⟨t,rfl⟩:=rx;obtain ⟨t',rfl⟩:=ry;exact (PyProof.Rows.lt_str h:wpAny (model prog w) A (compareOp .Lt _ _) Q E s)
 | @bl a b _ _ _=>
  cases rx;cases ry
  refine (PyProof.Rows.lt_bool ?_:wpAny (model prog w) A (compareOp .Lt (.bool a) (.bool b)) Q E s)
  cases a <;> cases b <;> exact h
theorem Kin.flat {x y:V} {xs ys:List V} (h:Kin (x :: xs) (y :: ys)):y1 x=true/\y1 y=true/\Kin xs ys:=by
 cases h <;> exact ⟨rfl,rfl,by assumption⟩
theorem t0 (l b:Addr) (items items2:Array Value) (n n2:Nat) (dd dd2:Option Addr) (sl sl2:Array (Option Value)) (ns ms:List V) (hk:Kin ns ms) (hi:yI ns items.toList) (hj:yI ms items2.toList) :
  Meets (Builtin.«tuple.__lt__» ⟨[.ref l,.ref b],[]⟩)
   (fun _ R s=>s.heap.get? l=some { cls:=.type "tuple",dict:=dd,data:=.seq items n,slots:=sl }/\s.heap.get? b=some { cls:=.type "tuple",dict:=dd2,data:=.seq items2 n2,slots:=sl2 } /\
    R (.ok (.ret (.bool (uP ns ms)))) s):=
 .of_wp fun prog w A R s h=>by
  obtain ⟨hp,g,d,tk,os⟩:=s;obtain ⟨hl,hb,h⟩:=h
  have f2:=AutoSeq1.sub_tuple_tuple
  have z1:items.size=ns.length:=by rw [hi.length];simp
  have z2:items2.size=ms.length:=by rw [hj.length];simp
  have zz:items.size=items2.size:=by rw [z1,z2,hk.len]
  wp_walk using wpAny_loadPart' hl,wpAny_loadPart' hb,wpAny_forIn_list _ (fun rest b s'=>b.1=none/\s'=⟨hp,g,d,tk,os⟩/\∃ (vs ws:List Value) (ns' ms':List V),rest=vs.zip ws /\
   yI ns' vs/\yI ms' ws/\Kin ns' ms'/\R (.ok (.ret (.bool (uP ns' ms')))) ⟨hp,g,d,tk,os⟩) _
  case turn=>
   rintro ⟨y,x⟩ rest b s' ⟨hb',rfl,vs,ws,ns',ms',hz,hvi,hwi,hkk,hR⟩
   cases hvi with
   | nil=>rw [List.zip_nil_left] at hz;cases hz
   | @cons a t as ts ra hvi'=>
    cases hwi with
    | nil=>rw [List.zip_nil_right] at hz;cases hz
    | @cons c u cs us rc hwi'=>
     rw [List.zip_cons_cons] at hz
     injection hz with hyx hrest
     injection hyx with hy hx
     subst hy hx
     rw [hX] at hR
     obtain ⟨fa,fc,hk'⟩:=hkk.flat
     have he:SeqAt.EqAt A.in1 ⟨hp,g,d,tk,os⟩ _ _ (eqV a c):=nJ ra rc fa fc
     refine wpAny_bind (he prog w _ _ ?_)
     cases e:eqV a c with
     | true=>
      rw [e,if_pos rfl] at hR
      wp_walk
      exact ⟨rfl,rfl,_,_,_,_,hrest,hvi',hwi',hk',hR⟩
     | false=>
      rw [e,if_neg (by simp)] at hR
      have hri:=iX hkk ra rc A.in1 ⟨hp,g,d,tk,os⟩ prog w
      wp_walk using hri
      exact ⟨_,rfl,by simpa using hR⟩
  case fin=>
   rintro ⟨b1,b2⟩ s' ⟨hb',rfl,vs,ws,ns',ms',hz,hvi,hwi,hkk,hR⟩
   simp only at hb'
   subst hb'
   have hv:uP ns' ms'=decide (items.size < items2.size):=by
    rw [zz,zGX (Nat.lt_irrefl _)]
    cases hvi with
    | nil=>rfl
    | cons ra hv=>
     cases hwi with
     | nil=>cases hkk
     | cons rc hw=>rw [List.zip_cons_cons] at hz;cases hz
   rw [hv] at hR
   wp_walk
   exact ⟨_,rfl,by simpa [Builtin.Tuple.tupleCompareSizes] using hR⟩
  case h=>
   exact ⟨rfl,rfl,items.toList,items2.toList,ns,ms,rfl,hi,hj,hk,h⟩
end
section
variable {X:Cx}
def rLtK:R2:=fun x y H Q=>∃ a b p q,x=.ref a/\y=.ref b/\H a=some (.tup p)/\H b=some (.tup q)/\Kin p q/\Q (.bl (uP p q)) H
theorem zC1 (hu:X.A.units < cLine):OpR X (compareOp .Lt) rLtK:=by
 intro pins s σ H x y v u Q I rx ry h
 obtain ⟨a,b,p,q,rfl,rfl,ha,hb,hk,k⟩:=h
 cases rx
 cases ry
 obtain ⟨its,r1,p1,_⟩:=I.tuple (.of ha)
 obtain ⟨its2,r2,p2,_⟩:=I.tuple (.of hb)
 obtain ⟨⟨cls,dd,data,sl⟩,ho,hc,n,hd⟩:=id p1
 obtain ⟨⟨cls2,dd2,data2,sl2⟩,ho2,hc2,n2,hd2⟩:=id p2
 simp only at hc hd hc2 hd2
 subst hc hd hc2 hd2
 exact richCompare_meets_room (op:=.Lt) ⟨_,ho,rfl⟩ ⟨_,ho2,rfl⟩ PySem.F.slot_tuple_lt PySem.F.entry_tuple_lt (PySem.F.args_tuple_lt_2 _ _) (t0 a b its.toArray its2.toArray n n2 dd dd2 sl sl2 _ _ hk r1 r2)
  ⟨ho,ho2,(⟨(fun x=>nomatch x),⟨.bl (uP p q),H,I,rfl,k⟩⟩:Value.bool (uP p q) ≠ Value.notImplemented/\EP X pins σ Q (.bool (uP p q)) s)⟩ hu
end
section
variable {prog:Program} {w:World} {A:Around} {R:Result->Shared->Prop} {I:Addr} {fp wr:List Addr} {n:Nat} {P:Nat->Value->Prop} {St:Nat->Heap->Prop} {G:Heap->Prop} {bt:Nat->Nat->Bool} {S:Addr}
def zD2 (prog:Program) (w:World) (A:Around) (G:Heap->Prop) (P:Nat->Value->Prop) (bt:Nat->Nat->Bool):Prop:=∀ i j vi vj (s:Shared) (Q E:Value->Shared->Prop),G s.heap->P i vi->P j vj->Q (.bool (bt i j)) s->wpAny (model prog w) A (richCompare .Lt vi vj) Q E s
def zD1 (G:Heap->Prop) (wr:List Addr) (S:Addr):Prop:=∀ h h':Heap,G h->(∀ b o,b ∉ wr->b ≠ S->h.get? b=some o->h'.get? b=some o)->G h'
theorem zAJ (W:Walks prog w A.in1 I fp wr n P St) (hcmp:zD2 prog w A.in1 G P bt) (hSf:S ∉ fp) (hG:zD1 G wr S) :
  ∀ (k j:Nat) (s:Shared) (vb:Value) (c:Nat),n - (j + 1)=k->j + 1 <= n->St (j + 1) s.heap->G s.heap->P (argBest bt j) vb->s.heap.get? S=some ⟨.type "list",none,.seq #[vb,vb] c,#[]⟩ ->
  (∀ v h' tk,P (argBest bt (n - 1)) v->(∀ b o,b ∉ wr->b ≠ S->s.heap.get? b=some o->h'.get? b=some o)->R (.ok (.ret v)) ⟨h',s.gens,s.drawn,tk,s.os⟩)->codeAny (model prog w) A (.builtin "min.loop" ⟨[.ref I,.none,.ref S],[]⟩) R s:=by
 have hSw:S ∉ wr:=fun h=>hSf (W.sub _ h)
 have nm:(toString "min" ++ toString ".loop" : String)="min.loop":=by decide
 intro k;induction k with
 | zero=>
  intro j s vb c hk hj hst hg hPb hS hR
  have hin:j + 1=n:=by omega
  refine codeAny_builtin F.entry_min_loop ?_;rw [Around.under_plainId F.plain_min_loop _]
  refine wpAny_bind (m:=seqItems? (.ref S)) (wpAny_seqItems hS rfl ?_)
  refine wpAny_bind (m:=tryCatch (pyNext (.ref I)) _) (wpAny_tryCatch (W.done s _ _ (hin ▸ hst) fun h' tk hk'=>?_))
  have hS':=hk' S _ hSw hS
  refine wpAny_bind (m:=updateSeq S (fun _=>#[])) (wpAny_updateSeq hS' rfl (wpAny_bind (wpAny_letGo (wpAny_pure ?_))))
  exact hR vb _ tk (by rw [<- hin];exact hPb) fun b o hbw hbS e=>(Heap.get?_update_other _ _ (Ne.symm hbS)).trans (hk' b o hbw e)
 | succ k ih=>
  intro j s vb c hk hj hst hg hPb hS hR
  have hlt:j + 1 < n:=by omega
  refine codeAny_builtin F.entry_min_loop ?_;rw [Around.under_plainId F.plain_min_loop _]
  refine wpAny_bind (m:=seqItems? (.ref S)) (wpAny_seqItems hS rfl ?_)
  refine wpAny_bind (m:=tryCatch (pyNext (.ref I)) _) (wpAny_tryCatch (W.item (j + 1) s _ _ hlt hst fun v h' tk hP hst' hk'=>?_))
  have hS':=hk' S _ hSw hS
  have hg':G h':=hG _ _ hg fun b o hbw _ e=>hk' b o hbw e
  refine wpAny_bind (m:=tryCatch (holding [v,v] (richCompare .Lt v vb >>= _)) _) (wpAny_tryCatch (wpAny_holding (wpAny_bind (hcmp (j + 1) (argBest bt j) v vb _ _ _ hg' hP hPb ?_))))
  refine wpAny_bind (wpAny_holding (wpAny_truthy_bool (wpAny_bind (wpAny_letGo (wpAny_pure ?_)))))
  cases hb:bt (j + 1) (argBest bt j) with
  | true=>
   simp only [if_true]
   refine wpAny_bind (wpAny_updateSeq hS' rfl (wpAny_bind (wpAny_letGo ?_)));rw [nm]
   refine wpAny_pure ⟨plainId_quiet F.plain_min_loop _,ih (j + 1) _ v _ (by omega) hlt (W.frame _ _ _ hst' fun b hbf o e=>?_) (hG _ _ hg' fun b o _ hbS e=>?_) (by simp only [argBest,hb,if_true];exact hP) (Heap.get?_update_self _ hS' rfl) fun v' h'' tk'' hP' hk''=>?_⟩
   ·exact (Heap.get?_update_other _ _ fun (h:S=b)=>hSf (by rw [h];exact hbf)).trans e
   ·exact (Heap.get?_update_other _ _ (Ne.symm hbS)).trans e
   ·exact hR v' h'' tk'' hP' fun b o hbw hbS e=>hk'' b o hbw hbS ((Heap.get?_update_other _ _ (Ne.symm hbS)).trans (hk' b o hbw e))
  | false=>
   simp only [Bool.false_eq_true,if_false]
   refine wpAny_bind (wpAny_letGo ?_);rw [nm]
   refine wpAny_pure ⟨plainId_quiet F.plain_min_loop _,ih (j + 1) _ vb c (by omega) hlt hst' hg' (by simp only [argBest,hb,Bool.false_eq_true,if_false];exact hPb) hS' fun v' h'' tk'' hP' hk''=>?_⟩
   exact hR v' h'' tk'' hP' fun b o hbw hbS e=>hk'' b o hbw hbS (hk' b o hbw e)
theorem kJ (W:Walks prog w A.in1 I fp wr n P St) (hcmp:zD2 prog w A.in1 G P bt) (hSf:S ∉ fp) (hG:zD1 G wr S) (hn:0 < n) {s:Shared} {c:Nat} (hst:St 0 s.heap) (hg:G s.heap) (hS:s.heap.get? S=some ⟨.type "list",none,.seq #[] c,#[]⟩)
  (hR:∀ v h' tk,P (argBest bt (n - 1)) v->(∀ b o,b ∉ wr->b ≠ S->s.heap.get? b=some o->h'.get? b=some o)->R (.ok (.ret v)) ⟨h',s.gens,s.drawn,tk,s.os⟩):codeAny (model prog w) A (.builtin "min.loop" ⟨[.ref I,.none,.ref S],[]⟩) R s:=by
 have hSw:S ∉ wr:=fun h=>hSf (W.sub _ h)
 have nm:(toString "min" ++ toString ".loop" : String)="min.loop":=by decide
 refine codeAny_builtin F.entry_min_loop ?_;rw [Around.under_plainId F.plain_min_loop _]
 refine wpAny_bind (m:=seqItems? (.ref S)) (wpAny_seqItems hS rfl ?_)
 refine wpAny_bind (m:=tryCatch (pyNext (.ref I)) _) (wpAny_tryCatch (W.item 0 s _ _ hn hst fun v h' tk hP hst' hk'=>?_))
 have hS':=hk' S _ hSw hS
 have hg':G h':=hG _ _ hg fun b o hbw _ e=>hk' b o hbw e
 refine wpAny_bind (m:=updateSeq S (fun _=>#[v,v])) (wpAny_updateSeq hS' rfl ?_);rw [nm]
 refine wpAny_pure ⟨plainId_quiet F.plain_min_loop _,zAJ W hcmp hSf hG _ 0 _ v _ rfl hn (W.frame _ _ _ hst' fun b hbf o e=>?_) (hG _ _ hg' fun b o _ hbS e=>?_) hP (Heap.get?_update_self _ hS' rfl) fun v' h'' tk'' hP' hk''=>?_⟩
 ·exact (Heap.get?_update_other _ _ fun (h:S=b)=>hSf (by rw [h];exact hbf)).trans e
 ·exact (Heap.get?_update_other _ _ (Ne.symm hbS)).trans e
 ·exact hR v' h'' tk'' hP' fun b o hbw hbS e=>hk'' b o hbw hbS ((Heap.get?_update_other _ _ (Ne.symm hbS)).trans (hk' b o hbw e))
end
noncomputable def pE (rs:List (List V)):Nat:=argBest (fun i j=>uP (rs.getD i []) (rs.getD j [])) (rs.length - 1)
section
variable {X:Cx}
theorem gT (hc:X.calm=true) (hu:X.A.in1.units < cLine):vN X (.builtin "min") (fun xs H Q=>∃ (a:Addr) (qs:List Addr) (rs:List (List V)),xs=[.ref a]/\H a=some (.lst (qs.map V.ref))/\Paired (fun q r=>H q=some (.tup r)) qs rs/\(∀ r ∈ rs,∀ r' ∈ rs,Kin r r')/\0 < qs.length /\
  ∀ (q:Addr),qs[pE rs]?=some q->Q (.ref q) H):=by
 intro pins s σ H xs us Q I r h
 obtain ⟨a,qs,rs,rfl,hA,hP,hk,hne,q⟩:=h
 obtain ⟨u,rfl,rx⟩:=tI r
 cases rx
 obtain ⟨its,r',pl,hzl⟩:=I.list (.of hA)
 have ei:=oV r'
 subst ei
 have lq:qs.length=rs.length:=zP hP
 have hlt:@LT.lt Nat instLTNat a s.heap.objs.size:=by obtain ⟨_,_,e,_⟩:=pl;exact Heap.lt_size e
 have get:∀ {qs:List Addr} {rs:List (List V)},Paired (fun q r=>H q=some (.tup r)) qs rs->∀ (i:Nat) (x:Addr),qs[i]?=some x->H x=some (.tup (rs.getD i []))/\rs.getD i [] ∈ rs:=by
  intro qs rs h
  induction h with
  | nil=>intro i x e;simp at e
  | cons c r ih=>
   intro i x e
   cases i with
   | zero=>simp at e;subst e;exact ⟨c,by simp⟩
   | succ i=>
    obtain ⟨e1,e2⟩:=ih i x (by simpa using e)
    exact ⟨e1,zGU _ e2⟩
 let G:Heap->Prop:=fun h=>∀ (i:Nat) (x:Addr),qs[i]?=some x->∃ (its:Array Value) (n:Nat) (dd:Option Addr) (sl:Array (Option Value)),h.get? x=some ⟨.type "tuple",dd,.seq its n,sl⟩/\yI (rs.getD i []) its.toList/\@LT.lt Nat instLTNat x s.heap.objs.size
 have g0:G s.heap:=fun i x e=>by
  obtain ⟨its,r1,p1,_⟩:=I.tuple (.of (get hP i x e).1)
  obtain ⟨⟨cls,dd,data,sl⟩,ho,hc,n,hd⟩:=id p1
  simp only at hc hd
  subst hc hd
  exact ⟨its.toArray,n,dd,sl,ho,r1,Heap.lt_size ho⟩
 have nm:(toString "min" ++ toString ".loop" : String)="min.loop":=by decide
 refine call_function_tree F.kind_min F.plain_min F.entry_min (F.args_min1 _) ?_
 refine wpAny_bind (m:=Builtin.Builtins.bindParams "min" ["key","default"] 0 ⟨[],[]⟩) (wpAny_of_eq (show _=pure [none,none] from rfl) (wpAny_bind (wpAny_pure ?_)))
 refine wpAny_bind (wpAny_pyIter_list pl.isList ?_)
 have lg:G (s.heap.push { cls:=.type "list_iterator",data:=.fields #[.ref a,.int 0 0] }):=fun i x e=>by
  obtain ⟨its,n,dd,sl,h1,h2,h3⟩:=g0 i x e
  exact ⟨its,n,dd,sl,Heap.get?_push_of_some _ h1,h2,h3⟩
 have W:=Walks.list (prog:=X.prog) (w:=X.w) (A:=X.A.in1) (show X.A.in1.handled=none from I.ok.hd hc) s.heap.objs.size a (zG8 hlt) (qs.map Value.ref).toArray
 have st0:(s.heap.push { cls:=.type "list_iterator",data:=.fields #[.ref a,.int 0 0] }).IsListIter s.heap.objs.size a 0/\(s.heap.push { cls:=.type "list_iterator",data:=.fields #[.ref a,.int 0 0] }).IsList a (qs.map Value.ref).toArray:=⟨⟨_,Heap.get?_push_size _ rfl,rfl,rfl⟩,pl.isList.push _⟩
 generalize hs2:(s.heap.push { cls:=.type "list_iterator",data:=.fields #[.ref a,.int 0 0] })=h2 at *
 have sz2:h2.objs.size=s.heap.objs.size + 1:=by rw [<- hs2,size_push']
 have k2:∀ b o,s.heap.get? b=some o->h2.get? b=some o:=fun b o e=>by rw [<- hs2];exact Heap.get?_push_of_some _ e
 refine wpAny_bind (wpAny_newObj_type ?_)
 rw [nm]
 have hSf:h2.objs.size ∉ [s.heap.objs.size,a]:=by
  simp only [List.mem_cons,zHB,or_false,not_or]
  exact ⟨by omega,by omega⟩
 have hG:zD1 G [s.heap.objs.size] h2.objs.size:=fun h h' g k i x e=>by
  obtain ⟨its,n,dd,sl,h1,h2',h3⟩:=g i x e
  exact ⟨its,n,dd,sl,k _ _ (by simp;exact zG8 h3) (zG8 (by rw [sz2];exact Nat.lt_succ_of_lt h3)) h1,h2',h3⟩
 have hcmp:zD2 X.prog X.w X.A.in1 G (fun i v=>(qs.map Value.ref).toArray[i]?=some v) (fun i j=>uP (rs.getD i []) (rs.getD j [])):=by
  intro i j vi vj s' Q' E' g hi hj hq
  simp only [List.getElem?_toArray,zGN] at hi hj
  cases ei:qs[i]? with
  | none=>rw [ei] at hi;cases hi
  | some xi=>
  cases ej:qs[j]? with
  | none=>rw [ej] at hj;cases hj
  | some xj=>
  rw [ei] at hi
  rw [ej] at hj
  cases hi
  cases hj
  obtain ⟨i1,n1,d1,s1,h1,v1,_⟩:=g i xi ei
  obtain ⟨i2,n2,d2,s2,h2,v2,_⟩:=g j xj ej
  exact richCompare_meets_room (op:=.Lt) ⟨_,h1,rfl⟩ ⟨_,h2,rfl⟩ PySem.F.slot_tuple_lt PySem.F.entry_tuple_lt (PySem.F.args_tuple_lt_2 _ _) (t0 xi xj i1 i2 n1 n2 d1 d2 s1 s2 _ _ (hk _ (get hP i xi ei).2 _ (get hP j xj ej).2) v1 v2) ⟨h1,h2,⟨(fun x=>nomatch x),hq⟩⟩ hu
 refine wpAny_pure ⟨plainId_quiet F.plain_min_loop _,kJ (G:=G) W hcmp hSf hG (by simpa using hne) (W.frame 0 h2 _ st0 fun b _ o e=>Heap.get?_push_of_some _ e) (hG h2 _ lg fun b o _ _ e=>Heap.get?_push_of_some _ e) (Heap.get?_push_size _ rfl) fun v h' tk hPv hk'=>?_⟩
 have hPv':(qs.map Value.ref).toArray[pE rs]?=some v:=by
  unfold pE
  rw [<- lq]
  simpa using hPv
 simp only [List.getElem?_toArray,zGN] at hPv'
 cases eb:qs[pE rs]? with
 | none=>rw [eb] at hPv';cases hPv'
 | some x=>
 rw [eb] at hPv'
 cases hPv'
 refine ⟨.ref x,H,I.kept fun b o e=>hk' b o ?_ ?_ (Heap.get?_push_of_some _ (k2 b o e)),rfl,q x eb⟩
 ·have z:@LT.lt Nat instLTNat b s.heap.objs.size:=Heap.lt_size e
  simp;exact zG8 z
 ·have z:@LT.lt Nat instLTNat b s.heap.objs.size:=Heap.lt_size e
  exact zG8 (by show @LT.lt Nat _ b h2.objs.size;rw [sz2];exact Nat.lt_succ_of_lt z)
end
end L2
namespace L2
open PySem PySem.Spec PyProof.Rows PySem.W
noncomputable def nmV (r:Str × List V):List V:=.str r.1 :: r.2
noncomputable def ltN (a b:Str × List V):Bool:=ltS a.1 b.1
def bJ (h:Heap) (v:Value) (z:Str):Prop:=∃ (t:Addr) (o:Obj) (k:Nat) (u:Tok) (l:List Value),v=.ref t/\h.get? t=some o/\o.cls=.type "tuple"/\o.data=.seq (Value.str z u :: l).toArray k
def rO (h:Heap) (vs:List Value) (zs:List Str):Prop:=vs.length=zs.length/\∀ i,i < vs.length->bJ h (vs.getD i .none) (zs.getD i Str.empty)
theorem rO.keep {h h':Heap} {a:Addr} {u:Array Value} {n:Nat} (ha:h.get? a=some (seqObj "list" u n)) (k:∀ b o,b ≠ a->h.get? b=some o->h'.get? b=some o) {vs:List Value} {zs:List Str} (x:rO h vs zs):rO h' vs zs:=by
 refine ⟨x.1,fun i hi=>?_⟩
 obtain ⟨t,o,j,t1,l,e1,e2,e3,e4⟩:=x.2 i hi
 refine ⟨t,o,j,t1,l,e1,k t o (fun z=>?_) e2,e3,e4⟩
 rw [z,ha] at e2
 cases e2
 exact absurd e3 (by show ¬ (Value.type "list"=Value.type "tuple");decide)
section
variable {prog:Program} {w:World} {A:Around} {E:Value->Shared->Prop} {s:Shared}
theorem d9 {b:Bool} {C:Bool->Shared->Prop} (h:C false s):∀ (l:List Value) (i:Nat),KatLex prog w A b false C (l.zip l) i s:=by
 intro l
 induction l with
 | nil=>exact fun i=>kat_nil h
 | cons v l ih=>exact fun i=>kat_cons (SeqAt.EqAt.same v prog w _ _ (kat_yes (ih (i + 1))))
theorem bD {x y:Value} {p q:Str} {C:Bool->Shared->Prop} (hx:bJ s.heap x p) (hy:bJ s.heap y q) (hxy:p=q->x=y) (h:C (ltS p q) s):wpAny (model prog w) A (keyLt' (tuples' true) x y) C E s:=by
 obtain ⟨t,o,j,t1,l,rfl,e2,_,e4⟩:=hx
 obtain ⟨t',o',j',t2,l',rfl,f2,_,f4⟩:=hy
 by_cases e:p=q
 ·have et:Value.ref t=.ref t':=hxy e
  injection et with et
  subst et
  refine kat_lt e2 e4 e2 e4 ?_
  rw [zGX (Nat.lt_irrefl _)]
  rw [e,dO] at h
  exact d9 h _ 0
 ·refine kat_lt e2 e4 f2 f4 ?_
  simp only [List.zip_cons_cons]
  refine kat_cons (eqBool_str ?_)
  rw [show (p == q)=false by simpa using e]
  exact kat_no (oneLt_str h)
theorem kO {vs:List Value} {zs:List Str} {C:SortKind->Shared->Prop} (x:rO s.heap vs zs) (hne:0 < vs.length) (h:C (tuples' true) s):wpAny (model prog w) A (keyKind' vs.toArray) C E s:=by
 have key:∀ {vs:List Value},(∀ v ∈ vs,∃ z,bJ s.heap v z)->∃ fs,KatTups s.heap vs fs/\fs.length=vs.length/\∀ v ∈ fs,∃ z t,v=.str z t:=by
  intro vs
  induction vs with
  | nil=>exact fun _=>⟨[],KatTups.nil,rfl,fun v hv=>by cases hv⟩
  | cons v vs ih=>
   intro x
   obtain ⟨fs,a1,a2,a3⟩:=ih fun u hu=>x u (zGU _ hu)
   obtain ⟨z,t,o,j,t1,l,rfl,e2,e3,e4⟩:=x v zHA
   refine ⟨.str z t1 :: fs,KatTups.cons e2 e3 e4 rfl a1,by rw [zG2,zG2,a2],fun v hv=>?_⟩
   rcases List.mem_cons.mp hv with rfl | hv
   ·exact ⟨_,_,rfl⟩
   ·exact a3 v hv
 obtain ⟨fs,a1,a2,a3⟩:=key (vs:=vs) fun v hv=>by
  obtain ⟨i,hi,e⟩:=List.getElem_of_mem hv
  have z:=x.2 i hi
  rw [zGM,zGI hi,Option.getD_some,e] at z
  exact ⟨_,z⟩
 refine kat_kind (T:=.type "str") a1 (by omega) (fun v hv=>?_) rfl h
 obtain ⟨z,t,rfl⟩:=a3 v hv
 exact Looks.of_pure rfl
theorem i3 {p:Array Nat} {zs:List Str} {n:Nat} (hp:p.size=n) (u:Up (fun i j=>ltS (zs.getD i Str.empty) (zs.getD j Str.empty)) p n):Asc ltS (wO p zs Str.empty):=by
 refine List.pairwise_iff_getElem.mpr fun i j hi hj hij=>?_
 unfold wO at hi hj ⊢
 rw [zGH,Array.length_toList] at hi hj
 have z:=u i j (Nat.le_of_lt hij) (by omega)
 unfold leK gA at z
 simp only [zHG,Array.getElem?_eq_getElem hi,Array.getElem?_eq_getElem hj,Option.getD_some] at z
 simpa using z
theorem kA {a:Addr} {vs:List Value} {zs:List Str} {n:Nat} {P:PySem.Fin->Shared->Prop} (hA:s.heap.get? a=some (seqObj "list" vs.toArray n)) (hT:rO s.heap vs zs) (hnd:zs.Nodup) (h64:vs.length < 64)
  (h:∀ (p:Array Nat) (g:Heap) (c:Nat),p.Perm (List.range vs.length).toArray->Asc ltS (wO p zs Str.empty)->(∀ b o,b ≠ a->s.heap.get? b=some o->g.get? b=some o)->g.get? a=some (seqObj "list" (wO p vs .none).toArray c) ->
   P (.done (.ret .none)) { s with heap:=g }):wpAny (model prog w) A (Builtin.«list.sort» ⟨[.ref a],[]⟩) P E s:=by
 have lsz:vs.length <= sizeLine:=by rw [sizeLine_eq];omega
 obtain ⟨e1,hA1⟩:∃ e1,(s.heap.update a (Obj.mapSeq fun _=>(#[]:Array Value))).get? a=some (seqObj "list" #[] e1):=⟨_,get?_update_seq hA fun _=>#[]⟩
 rw [list_sort_plain]
 refine wpAny_bind (listItems_at hA rfl (wpAny_bind (listUpdate_at hA rfl (wpAny_bind (seqEpoch_at hA1 rfl (wpAny_bind (wpAny_newTuple (wpAny_bind (wpAny_newList (wpAny_holding ?_) (zGR _))) lsz)))) (by rw [zGP];exact lsz) (zGR _))))
 obtain ⟨g0,eg⟩:∃ g0,g0=((s.heap.update a (Obj.mapSeq fun _=>(#[]:Array Value))).push (seqObj "tuple" vs.toArray 0)).push (seqObj "list" #[] 0):=⟨_,rfl⟩
 have hA2:g0.get? a=some (seqObj "list" #[] e1):=by rw [eg];exact Heap.get?_push_of_some _ (Heap.get?_push_of_some _ hA1)
 have kp:∀ b o,b ≠ a->s.heap.get? b=some o->g0.get? b=some o:=fun b o hb z=>by
  rw [eg];exact Heap.get?_push_of_some _ (Heap.get?_push_of_some _ ((Heap.get?_update_ne _ _ _ _ hb).trans z))
 show wpAny (model prog w) A _ P E { s with heap:=((s.heap.update a (Obj.mapSeq fun _=>(#[]:Array Value))).push (seqObj "tuple" vs.toArray 0)).push (seqObj "list" #[] 0) }
 rw [<- eg]
 dsimp only
 have hT0:rO g0 vs zs:=hT.keep hA kp
 have fin:∀ (st:SortSt) (p:Array Nat),p.Perm (List.range vs.length).toArray->Asc ltS (wO p zs Str.empty)->(arrOf st).map (·.2)=(wO p vs .none).toArray->failedOf st=none ->
   P (.done (.ret .none)) { s with heap:=g0.update a (Obj.mapSeq fun _=>(arrOf st).map (·.2)) }:=fun st p hp ha ho _=>by
  rw [ho]
  exact h p _ _ hp ha (fun b o hb z=>(Heap.get?_update_ne _ _ _ _ hb).trans (kp b o hb z)) (get?_update_seq hA2 fun _=>(wO p vs .none).toArray)
 by_cases h2:vs.toArray.size < 2
 ·rw [if_pos h2,if_pos h2]
  refine wpAny_bind (wpAny_pure ?_)
  rw [StateT.run_pure]
  refine wpAny_bind (wpAny_pure ?_)
  dsimp only
  have l2:vs.length < 2:=by simpa using h2
  have eo:(arrOf (SortSt.mk' general' (vs.toArray.zip vs.toArray) #[] 7 none)).map (·.2)=(wO (List.range vs.length).toArray vs .none).toArray:=by
   show (vs.toArray.zip vs.toArray).map (·.2)=_
   have lv:vs=[] \/ ∃ v,vs=[v]:=by
    cases vs with
    | nil=>exact .inl rfl
    | cons v r=>cases r with
     | nil=>exact .inr ⟨v,rfl⟩
     | cons _ _=>exact absurd l2 (by simp)
   apply Array.toList_inj.mp
   rcases lv with rfl | ⟨v,rfl⟩
   ·simp [wO]
   ·simp [wO,List.range_succ]
  have z:=fin (SortSt.mk' general' (vs.toArray.zip vs.toArray) #[] 7 none) (List.range vs.length).toArray (.refl _) (by
   unfold wO
   refine List.pairwise_iff_getElem.mpr fun i j hi hj hij=>?_
   simp at hi hj
   omega) eo rfl
  have sz:((arrOf (SortSt.mk' general' (vs.toArray.zip vs.toArray) #[] 7 none)).map (·.2)).size <= sizeLine:=by
   rw [eo];show (wO _ _ _).length <= _;unfold wO;simp;exact lsz
  refine wpAny_bind (seqEpoch_at hA2 rfl (wpAny_bind (listUpdate_at hA2 rfl ?_ (zGR _) (Nat.le_succ_of_le sz))))
  simp only [bne_self_eq_false,Bool.false_eq_true,if_false]
  exact wpAny_pure z
 ·rw [if_neg h2,if_neg h2]
  have l2:2 <= vs.length:=by simpa using h2
  let lt:Nat->Nat->Bool:=fun i j=>ltS (zs.getD i Str.empty) (zs.getD j Str.empty)
  have O:LtO lt:=⟨fun i j q=>dP q,fun i j k q1 q2=>zAK q1 q2⟩
  obtain ⟨pp,up⟩:=bV O (n:=vs.length) (by omega)
  have psz:(evK lt (kas_sort vs.length)).size=vs.length:=by rw [pp.size_eq];simp
  refine wpAny_bind (kO (s:={ s with heap:=g0 }) hT0 (by omega) ?_)
  refine wpAny_bind (wpAny_mono (kat_run (κ:=tuples' true) (ks:=vs) (vs:=vs) (G:=fun p s'=>p=evK lt (kas_sort vs.length)/\s' = { s with heap:=g0 })
   (Q:=fun st s'=>(arrOf st).map (·.2)=(wO (evK lt (kas_sort vs.length)) vs .none).toArray/\failedOf st=none/\s' = { s with heap:=g0 }) rfl l2 h64 (fun p st s' _ b2 b3 b4=>⟨by rw [<- b4.1];exact kat_snds rfl b2,b3,b4.2⟩) ?_) ?_ fun _ _ z=>z)
  ·refine zD3 (lt:=lt) (Pq:=fun s'=>s' = { s with heap:=g0 }) (fun i j C s' hi hj hs hC=>?_) _ (bU (by omega)) _ rfl fun s' hs=>⟨rfl,hs⟩
   subst hs
   refine bD (hT0.2 i hi) (hT0.2 j hj) (fun e=>?_) (hC _ rfl)
   have li:i < zs.length:=by rw [<- hT.1];exact hi
   have lj:j < zs.length:=by rw [<- hT.1];exact hj
   simp only [zGM,zGI li,zGI lj,Option.getD_some] at e
   rw [(List.getElem_inj hnd).mp e]
  ·rintro ⟨⟨⟩,st⟩ s' ⟨b1,b2,rfl⟩
   dsimp only
   have sz:((arrOf st).map (·.2)).size <= sizeLine:=by
    rw [b1];show (wO _ _ _).length <= _;unfold wO;rw [zGH,Array.length_toList,psz];exact lsz
   refine wpAny_bind (seqEpoch_at hA2 rfl (wpAny_bind (listUpdate_at hA2 rfl ?_ (zGR _) (Nat.le_succ_of_le sz))))
   rw [b2]
   simp only [bne_self_eq_false,Bool.false_eq_true,if_false]
   exact wpAny_pure (fin st _ pp (i3 psz up) b1 b2)
end
section
variable {X:Cx} {pins:List (Addr × Obj)} {σ:St} {H:Hp} {s:Shared}
theorem dF (I:Inv X pins σ H s) {qs:List Addr} {rs:List (Str × List V)} (h:Paired (fun q r=>H q=some (.tup r)) qs (rs.map nmV)):rO s.heap (qs.map Value.ref) (rs.map (·.1)):=by
 have le:=zP h
 rw [zGH] at le
 refine ⟨by simp [le],?_⟩
 have get:∀ {qs:List Addr} {rs:List (Str × List V)},Paired (fun q r=>H q=some (.tup r)) qs (rs.map nmV)->∀ i,i < qs.length->bJ s.heap ((qs.map Value.ref).getD i .none) ((rs.map (·.1)).getD i Str.empty):=by
  intro qs
  induction qs with
  | nil=>intro rs _ i hi;exact absurd hi (Nat.not_lt_zero _)
  | cons q qs ih=>
   intro rs h i hi
   cases rs with
   | nil=>cases h
   | cons r rs=>
    cases h with
    | cons h1 h2=>
    cases i with
    | succ i=>exact ih h2 i (by simpa using hi)
    | zero=>
     obtain ⟨its,r1,pl,_⟩:=I.tuple (.of h1)
     obtain ⟨o,ho,hc,n,hd⟩:=pl
     cases r1 with
     | cons r1 r2=>
     obtain ⟨t1,rfl⟩:=r1
     exact ⟨q,o,n,t1,_,rfl,ho,hc,hd⟩
 intro i hi
 exact get h i (by simpa using hi)
theorem sH:vN X (.builtin "sorted") (fun xs H Q=>∃ (a:Addr) (qs:List Addr) (rs:List (Str × List V)),xs=[.ref a]/\H a=some (.lst (qs.map V.ref))/\Paired (fun q r=>H q=some (.tup r)) qs (rs.map nmV)/\(rs.map (·.1)).Nodup/\rs.length < 64 /\
  ∀ (l:Addr) (qs':List Addr) (rs':List (Str × List V)),H l=none->rs'.Perm rs->Asc ltN rs'->Paired (fun q r=>H q=some (.tup r)) qs' (rs'.map nmV)->Q (.ref l) (upd H l (.lst (qs'.map V.ref)))):=by
 intro pins s σ H xs us Q I r h
 obtain ⟨a,qs,rs,rfl,hA,hP,hnd,hz,q⟩:=h
 obtain ⟨u,rfl,rx⟩:=tI r
 cases rx
 obtain ⟨its,r',pl,hzl⟩:=I.list (.of hA)
 have ei:=oV r'
 subst ei
 have lq:qs.length=rs.length:=by have:=zP hP;rwa [zGH] at this
 have lv:(qs.map Value.ref).length < 64:=by rw [zGH];omega
 refine Calls.call_function_entry kind_sorted plain_sorted entry_sorted (args_sorted1 _) ?_
 unfold Builtin.«sorted»
 refine wpAny_bind (m:=checkCount "sorted" 1 1 _) (wpAny_pure (wpAny_bind (collect_list pl.isList (wpAny_bind (wpAny_newList ?_ (by rw [sizeLine_eq];omega))) (by rw [sizeLine_eq];omega))))
 obtain ⟨g0,eg⟩:∃ g0,g0=(s.heap.push (seqObj "list" #[] 0)).update s.heap.objs.size (Obj.mapSeq (· ++ (qs.map Value.ref).toArray)):=⟨_,rfl⟩
 have gs:g0.objs.size=s.heap.objs.size + 1:=by rw [eg,Heap.size_update,size_push']
 have k0:∀ b o,s.heap.get? b=some o->(g0.push (seqObj "list" (qs.map Value.ref).toArray 0)).get? b=some o:=fun b o z=>by
  have hlt:b < s.heap.objs.size:=Heap.lt_size z
  refine Heap.get?_push_of_some _ ?_
  rw [eg,Heap.get?_update_ne _ _ _ _ (zG8 hlt)]
  exact Heap.get?_push_of_some _ z
 have hN:(g0.push (seqObj "list" (qs.map Value.ref).toArray 0)).get? (s.heap.objs.size + 1)=some (seqObj "list" (qs.map Value.ref).toArray 0):=by
  rw [<- gs];exact Heap.get?_push_size _ rfl
 show wpAny _ _ _ _ _ { s with heap:=((s.heap.push (seqObj "list" #[] 0)).update s.heap.objs.size (Obj.mapSeq (· ++ (qs.map Value.ref).toArray))).push (seqObj "list" (qs.map Value.ref).toArray 0) }
 rw [<- eg,gs]
 have hnm:rO (g0.push (seqObj "list" (qs.map Value.ref).toArray 0)) (qs.map Value.ref) (rs.map (·.1)):=by
  obtain ⟨e1,e2⟩:=dF I hP
  refine ⟨e1,fun i hi=>?_⟩
  obtain ⟨t,o,j,t1,l,e1,e2,e3,e4⟩:=e2 i hi
  exact ⟨t,o,j,t1,l,e1,k0 t o e2,e3,e4⟩
 refine wpAny_bind (wpAny_holding (wpAny_call_entry slot_list_sort ⟨_,hN,rfl⟩ entry_list_sort (kA hN hnm hnd lv fun p g c b1 b2 b3 b4=>⟨_,rfl,?_⟩) (args_list_sort _)))
 refine wpAny_pure ⟨_,rfl,?_⟩
 rw [zGH] at b1
 have hin:∀ i ∈ p.toList,i < qs.length:=fun i hi=>by
  have:=(Array.perm_iff_toList_perm.mp b1).mem_iff.mp hi
  simpa using this
 have hin2:∀ i ∈ p.toList,i < rs.length:=fun i hi=>by rw [<- lq];exact hin i hi
 have pq:=mO hP p hin
 have er:wO p (rs.map nmV) []=(wO p rs (Str.empty,[])).map nmV:=qL nmV p rs _ _ hin2
 rw [er] at pq
 have en:wO p (rs.map (·.1)) Str.empty=(wO p rs (Str.empty,[])).map (·.1):=qL (·.1) p rs _ _ hin2
 rw [en] at b2
 have ev:wO p (qs.map Value.ref) .none=(wO p qs 0).map Value.ref:=qL Value.ref p qs _ _ hin
 rw [ev] at b4
 have old:∀ b o,s.heap.get? b=some o->g.get? b=some o:=fun b o z=>b3 b o (zG8 (Nat.lt_succ_of_lt (Heap.lt_size z))) (k0 b o z)
 refine ⟨.ref (s.heap.objs.size + 1),_,I.laid (t':=s.toks) (h':=g) (o:=.lst ((wO p qs 0).map V.ref)) old (Nat.le_succ _) ?_,rfl,q _ _ _ (I.hok.fresh (Nat.le_succ _)) (i0 _ (by rw [<- lq];exact b1)) (List.pairwise_map.mp b2) pq⟩
 refine ⟨?_,_,c,pJ _,b4⟩
 unfold wO
 rw [zGH,zGH,Array.length_toList,b1.size_eq]
 simp
 rw [sizeLine_eq];omega
end
end L2
namespace L2
open PySem PySem.Spec PyProof.Rows PySem.W
theorem zCW {X:Cx} {N:List Str} {sc:Scope} {x y z:Str} {ix:List Nat} {scope:Scope} {kx vx iter:Expr} {ifs:List Expr} {px py pz tp pos:Pos} {tk:Nat} {wi:TI} {tt:TT} {ty te:TE}
  (hS:tL N sc [x,y,z] ix scope) (hi:PI X (.Tuple [.Name x px,.Name y py,.Name z pz] tk tp) iter wi)
  (ht:∀ C fp s H,PTs (cxC X [x,y,z] ix scope C fp s H) ifs tt) (hy:∀ C fp s H,PE (cxC X [x,y,z] ix scope C fp s H) kx ty) (he:∀ C fp s H,PE (cxC X [x,y,z] ix scope C fp s H) vx te)
  (hN:X.N=N:=by rfl) (hsc:X.env.scope=sc:=by rfl) (hc:X.calm=true:=by rfl) (hs:∀ x,foldedSetIterable iter X.env x=pure x:=by intro _;rfl) :
  PE X (.DictComp kx vx [⟨.Tuple [.Name x px,.Name y py,.Name z pz] tk tp,iter,ifs,0⟩] scope pos) (tDC [x,y,z] ix wi (gJ X.K 3 (uV (wK 0) (uV (wK 1) (uV (wK 2) gK)))) tt ty te):=by
 have S:=hS.at (X:=X) hN hsc
 have hl:∀ n,n ∈ [x,y,z]->∀ C fp s H,(cxC X [x,y,z] ix scope C fp s H).env.scope.names.lookup n=some .local:=fun n hn _ _ _ _=>lookup_relabel_local (S.own n hn)
 have h1:=hl x (by simp)
 have h2:=hl y (by simp)
 have h3:=hl z (by simp)
 exact zFE S hc hi (fun C fp s H=>uB (X:=cxC X [x,y,z] ix scope C fp s H) hc (yS (yH S.nd rfl (Or.inl (h1 C fp s H)) (.inr (h1 C fp s H))) (yS (yH S.nd rfl (Or.inl (h2 C fp s H)) (.inr (h2 C fp s H))) (yS (yH S.nd rfl (Or.inl (h3 C fp s H)) (.inr (h3 C fp s H))) vF)))) ht hy he hs
end L2
namespace L2
open PySem PySem.Spec PyProof.Rows PySem.W
noncomputable def oU (a:Addr) (n:Nat):HO:=.ext fun h=>∃ t u v,IsRange h a 0 (n:Int) 1 t u v
noncomputable def rP (n:Nat):List V:=(List.range n).map fun (k:Nat)=>V.int (k:Int)
section
variable {X:Cx}
theorem lI:vN X (.type "range") (fun xs H Q=>∃ n:Nat,xs=[.int (n:Int)]/\∀ p,H p=none->Q (.ref p) (upd H p (oU p n))):=by
 intro pins s σ H xs us Q I r h
 obtain ⟨n,rfl,q⟩:=h
 obtain ⟨u,rfl,t,rfl⟩:=tI r
 have hn:IsRange (s.heap.push { cls:=.type "range",data:=.fields #[.int 0 s.toks,.int (n:Int) t,.int 1 (s.toks + 1)] }) s.heap.objs.size 0 (n:Int) 1 s.toks t (s.toks + 1):=IsRange.new ..
 refine call_range_1 ⟨.ref s.heap.objs.size,_,I.laid (t':=s.toks + 1 + 1) (o:=oU s.heap.objs.size n) (fun b o e=>Heap.get?_push_of_some _ e) (zGQ _) ⟨⟨_,_,_,hn⟩,⟨_,hn⟩,fun h1 h2 x st=>?_⟩,rfl,q _ (I.hok.fresh (zGQ _))⟩
 obtain ⟨t1,u1,v1,x⟩:=x
 exact ⟨t1,u1,v1,st _ x⟩
theorem kW (hc:X.calm=true):vN X (.type "list") (fun xs H Q=>∃ (p:Addr) (n:Nat),xs=[.ref p]/\H p=some (oU p n)/\n <= 1000/\∀ l,H l=none->Q (.ref l) (upd H l (.lst (rP n)))):=by
 intro pins s σ H xs us Q I r h
 obtain ⟨p,n,rfl,hP,hn,q⟩:=h
 obtain ⟨u,rfl,rx⟩:=tI r
 cases rx
 obtain ⟨⟨t,u,v,hr⟩,_,_⟩:=I.hok p _ hP
 have hsz:Builtin.Range.rangeSize 0 (n:Int) 1=(n:Int):=by rw [rangeSize_one];split <;> omega
 refine call_list_range (I.ok.hd hc) hr (small_one (by omega) (by omega) (by omega) (by omega)) hsz (by omega) fun h' tk acc' c' hk hS' hacc=>?_
 have hv:yI (rP n) acc'.toList:=by
  have key:∀ (l:List Value) (i:Nat),(∀ (j:Nat) (v:Value),l[j]?=some v->∃ t,v=.int ((i + j:Nat):Int) t)->yI ((List.range' i l.length).map fun (k:Nat)=>V.int (k:Int)) l:=by
   intro l
   induction l with
   | nil=>exact fun i _=>.nil
   | cons x l ih=>
    intro i hx
    rw [zG2,List.range'_succ,List.map_cons]
    refine .cons (by obtain ⟨t,e⟩:=hx 0 x rfl;exact ⟨t,e⟩) (ih (i + 1) fun j v e=>?_)
    obtain ⟨t,e⟩:=hx (j + 1) v (by simpa using e)
    exact ⟨t,by rw [e,show i + 1 + j=i + (j + 1) by omega]⟩
  have z:=key acc'.toList 0 fun j v e=>by
   obtain ⟨t,e⟩:=hacc.2 j v (by simpa using e)
   exact ⟨t,by rw [e];congr 1;omega⟩
  have sz:acc'.toList.length=n:=by rw [Array.length_toList];exact hacc.1
  rw [sz] at z
  unfold rP
  rw [List.range_eq_range']
  exact z
 refine ⟨.ref s.heap.objs.size,_,I.laid (t':=tk) (h':=h') (o:=.lst (rP n)) hk (zGQ _) ?_,rfl,q _ (I.hok.fresh (zGQ _))⟩
 exact ⟨by unfold rP;rw [zGH,List.length_range,sizeLine_eq];omega,acc'.toList,c',hv,by simpa using hS'⟩
end
end L2
namespace K26
open PySem L2
def top (i:Nat):Stmt:=PySem.Challenge.pw_treeright_k26_whole_seats_side_by_side.main.body.getD i (.Pass ⟨0,0,0,0⟩)
abbrev mE:Stmt:=top 11
abbrev j4:Stmt:=top 17
abbrev jV:Stmt:=yL (top 19) 0
abbrev oT:Stmt:=yL (top 19) 1
abbrev aA:Stmt:=yL (top 19) 2
abbrev rW:Stmt:=yL (top 19) 3
abbrev aB:Stmt:=yL (top 19) 4
abbrev jR:Stmt:=yL (top 19) 10
abbrev oS:Stmt:=yL (top 19) 11
abbrev jY:Stmt:=yL (top 19) 12
abbrev jT:Stmt:=yL (top 19) 15
abbrev oO:Stmt:=yL (top 19) 16
noncomputable def xC (a:V) (wl:Addr) (h:V) (k:Bool):List (Str × V):=[("pointer",a),("waiting",.ref wl),("holder",h),("asked",.bl k)]
theorem n1:¬ (("pointer" : Str)="holder"):=by decide +kernel
theorem n2:¬ (("waiting" : Str)="holder"):=by decide +kernel
theorem n3:¬ (("pointer" : Str)="asked"):=by decide +kernel
theorem n4:¬ (("waiting" : Str)="asked"):=by decide +kernel
theorem n5:¬ (("holder" : Str)="asked"):=by decide +kernel
theorem n6:¬ (("pointer" : Str)="waiting"):=by decide +kernel
theorem zBL (a b:V) (wl:Addr) (h:V) (k:Bool):xZ "pointer" b (xC a wl h k)=xC b wl h k:=by
 unfold xC;rw [xZ,if_pos rfl]
theorem zBM (a:V) (wl:Addr) (h g:V) (k:Bool):xZ "holder" g (xC a wl h k)=xC a wl g k:=by
 unfold xC;rw [xZ,if_neg n1,xZ,if_neg n2,xZ,if_pos rfl]
theorem eF (a:V) (wl:Addr) (h:V) (k j:Bool):xZ "asked" (.bl j) (xC a wl h k)=xC a wl h j:=by
 unfold xC;rw [xZ,if_neg n3,xZ,if_neg n4,xZ,if_neg n5,xZ,if_pos rfl]
theorem cK (a:V) (wl:Addr) (h:V) (k:Bool):(xC a wl h k).lookup ("pointer" : Str)=some a:=rfl
theorem rA (a:V) (wl:Addr) (h:V) (k:Bool):(xC a wl h k).lookup ("waiting" : Str)=some (.ref wl):=rfl
theorem kT (a:V) (wl:Addr) (h:V) (k:Bool):(xC a wl h k).lookup ("holder" : Str)=some h:=rfl
theorem zF7 (a:V) (wl:Addr) (h:V) (k:Bool):(xC a wl h k).lookup ("asked" : Str)=some (.bl k):=rfl
noncomputable def z4:Option Str->V
 | none=>.non
 | some z=>.str z
structure xY (K:PySem.W.Frag) (C:Addr):Prop where
 cl:Cls K C
 nP:vE K C "pointer"
 nW:vE K C "waiting"
 nH:vE K C "holder"
 nA:vE K C "asked"
structure SS where
 ptr:Option Str
 row:List (Str × Str)
 hold:Option Str
 asked:Bool
noncomputable def yT (r:Str × Str):List V:=[.str r.1,.str r.2]
structure zZ (C:Addr) (H:Hp) (p wl:Addr) (s:SS):Prop where
 ob:∃ dx,H p=some (.ins C dx (xC (z4 s.ptr) wl (z4 s.hold) s.asked))
 rw:Rows H wl (s.row.map yT)
 len:s.row.length <= 1000
theorem vB (l:List (Str × Str)):∀ r ∈ l.map yT,r.all y1=true:=fun r hr=>by
 obtain ⟨x,_,rfl⟩:=List.mem_map.mp hr
 rfl
theorem zZ.ne {C:Addr} {H:Hp} {p wl:Addr} {s:SS} (S:zZ C H p wl s):p ≠ wl:=by
 obtain ⟨dx,h⟩:=S.ob
 obtain ⟨ps,h2,_⟩:=S.rw
 exact xR h h2 (by intro z;cases z)
theorem zZ.keep {C:Addr} {H H':Hp} {p wl:Addr} {s:SS} (S:zZ C H p wl s) (k:zD [] H H'):zZ C H' p wl s:=by
 obtain ⟨⟨dx,h⟩,r,l⟩:=S
 exact ⟨⟨dx,k _ _ (by simp) h⟩,r.keep k,l⟩
noncomputable def xU (s:SS):SS × List V:=match s.row with
 | []=>(s,[])
 | (k,n) :: rest=>if k="asker" then ({ s with row:=rest,hold:=some n },[.str "given",.str n])
  else ({ s with ptr:=some n,row:=rest,asked:=!rest.isEmpty },[.str "right",.str n,.bl (!rest.isEmpty)])
noncomputable def zX (s:SS):SS × List (List V):=
 if s.row.isEmpty then (s,[]) else
 match s.ptr with
 | none=>match s.hold with
  | none=>((xU s).1,[(xU s).2])
  | some _=>(s,[])
 | some q=>if s.asked then (s,[]) else ({ s with asked:=true },[[.str "ask",.str q]])
theorem zK {S:List Addr} {H H':Hp} (k:zD S H H') (n:∀ b ∈ S,∀ xs,H b ≠ some (.tup xs)) {ps:List Addr} {rows:List (List V)} (h:Paired (fun q r=>H q=some (.tup r)) ps rows):Paired (fun q r=>H' q=some (.tup r)) ps rows:=by
 induction h with
 | nil=>exact .nil
 | cons e _ ih=>exact .cons (k _ _ (fun z=>n _ z _ e) e) ih
theorem vD {C dx p wl:Addr} {H:Hp} {fs:List (Str × V)} {ys:List V} (h1:H p=some (.ins C dx fs)) (h2:H wl=some (.lst ys)):∀ b ∈ [p,wl],∀ xs,H b ≠ some (.tup xs):=fun b hb xs z=>by
 simp only [List.mem_cons,zHB,or_false] at hb
 rcases hb with rfl | rfl
 ·rw [h1] at z;cases z
 ·rw [h2] at z;cases z
theorem zER (n:Nat):seqIndex? 0 (n + 1)=some 0:=by
 unfold seqIndex?
 simp
section
variable {P:Program} {w:World} {K:PySem.W.Frag} {mg:Str->Option Value} {base:Heap} {C:Addr}
theorem rS:zN ["self","kind","name","back"] ["self"] (zG oO):=⟨rfl,rfl,rfl,by decide +kernel,rfl,by decide +kernel,by decide +kernel⟩
def jK (C:Addr):Sp:=fun vs H Q _=>∃ (p wl:Addr) (s:SS),vs=[.ref p]/\zZ C H p wl s/\s.row ≠ [] /\
 ∀ (r:Addr) (H':Hp),zZ C H' p wl (xU s).1->H' r=some (.tup (xU s).2)->H r=none->zD [p,wl] H H'->Q (.ref r) H'
theorem aZ (T:xY K C) (G:y2 K C "serve_first" "Seat.serve_first" oO ["self"]) (bL:Blt mg "len"):yJ P w K mg base CX0 1 C "serve_first" ["self"] (jK C):=by
 refine G.ok rS (fun vs H Q E h=>by obtain ⟨p,wl,s,rfl,_⟩:=h;rfl) (fun f cdv A outer s0 H vs Q E hr h=>?_)
 obtain ⟨p,wl,s,rfl,S,hne,q⟩:=h
 refine ⟨_,(zE (tP (vL PySem.F.plainAttrs_list PySem.F.slot_list_pop PySem.F.type_list_pop mX (yG (pv 0) rfl) (zA zI zC)) (uB rfl (yS (yH (i:=1) rS.nd rfl (Or.inl rfl)) (yS (yH (i:=2) rS.nd rfl (Or.inl rfl)) vF))))
   (zE (yC (zS xO (pv 1) zO (zV _)) (zE (wW (pv 0) (pv 2) rfl)
   (zF (zL (yD (zA zO (zA (pv 2) zC)))))) zT)
   (zE (yF (i:=3) rS.nd rfl (Or.inl rfl) (wD eZ (yE yK bL xB (zA (yG (pv 0) rfl) zC)) zI (zV _)))
   (zE (wW (pv 0) (pv 2) rfl)
   (zE (wW (pv 0) (pv 3) rfl)
   (zF (zL (yD (zA zO (zA (pv 2) (zA (pv 3) zC))))))))))),?_⟩
 have npw:=S.ne
 obtain ⟨⟨dx,hob⟩,⟨ps,hwl,hpr⟩,hlen⟩:=S
 obtain ⟨ptr,row,hold,asked⟩:=s
 dsimp only at *
 cases row with
 | nil=>exact absurd rfl hne
 | cons kn rest=>
  obtain ⟨k,n⟩:=kn
  cases hpr with
  | @cons t _ ps' _ ht hpr=>
  refine ⟨_,rfl,p,C,dx,_,_,rfl,hob,T.cl,T.nW,rA _ _ _ _,.inl ⟨rfl,_,.of hwl⟩,wl,_,0,0,.ref t,rfl,rfl,hwl,by decide,by decide,zER _,rfl,?_⟩
  rw [show (List.map V.ref (t :: ps')).eraseIdx 0=ps'.map V.ref from rfl]
  have ntw:t ≠ wl:=xR ht hwl (by intro z;cases z)
  have lps:=zP hpr
  rw [zGH] at lps
  have hl1:rest.length + 1 <= 1000:=hlen
  have hp1:∀ o,upd H wl o p=some (.ins C dx (xC (z4 ptr) wl (z4 hold) asked)):=fun o=>by rw [zJ npw];exact hob
  refine ⟨t,_,rfl,.of (by rw [zJ ntw];exact ht),rfl,_,_,rfl,_,_,rfl,rfl,?_⟩
  refine ⟨_,rfl,rfl,_,rfl,?_⟩
  refine gD (fun hk=>?_) (fun hk=>?_)
  ·have hk':k="asker":=by have:=of_decide_eq_true hk;injection this
   refine ⟨_,rfl,_,rfl,p,C,dx,_,rfl,hp1 _,T.cl,T.nH,by show 4 < 1000;decide,_,rfl,by show 2 <= sizeLine;decide,fun r hr=>?_⟩
   rw [zBM] at hr ⊢
   obtain ⟨hr1,rp⟩:=zM hr
   obtain ⟨hr2,rw_⟩:=zM hr1
   have kk:zD [p,wl] H (upd (upd (upd H wl (.lst (ps'.map V.ref))) p (.ins C dx (xC (z4 ptr) wl (.str n) asked))) r (.tup [.str "given",.str n])):=((zD.at (by simp)).trans (zD.at (by simp))).trans (zD.new hr)
   have es:xU { ptr:=ptr,row:=(k,n) :: rest,hold:=hold,asked:=asked }=({ ptr:=ptr,row:=rest,hold:=some n,asked:=asked },[.str "given",.str n]):=by
    unfold xU;simp only [hk',if_true]
   rw [es] at q
   refine q r _ ⟨⟨dx,?_⟩,⟨ps',?_,zK kk (vD hob hwl) hpr⟩,?_⟩ zB hr2 kk
   ·rw [zJ (Ne.symm rp),zB];rfl
   ·rw [zJ (Ne.symm rw_),zJ (Ne.symm npw),zB]
   ·show rest.length <= 1000;omega
  ·have hk':¬ k="asker":=fun z=>hk (by rw [z];exact zGW rfl)
   refine ⟨_,rfl,p,C,dx,_,_,rfl,hp1 _,T.cl,T.nW,rA _ _ _ _,_,_,rfl,.inl ⟨_,.of zB,rfl⟩,_,_,rfl,rfl,?_⟩
   have eb:decide ((0:Int) < (((ps'.map V.ref).length:Nat):Int)) = !rest.isEmpty:=by
    rw [zGH,lps]
    cases rest with
    | nil=>rfl
    | cons x y=>exact zGW (by simp)
   refine ⟨_,rfl,_,rfl,p,C,dx,_,rfl,hp1 _,T.cl,T.nP,by show 4 < 1000;decide,?_⟩
   rw [zBL]
   refine ⟨_,rfl,_,rfl,p,C,dx,_,rfl,zB,T.cl,T.nA,by show 4 < 1000;decide,?_⟩
   dsimp only
   rw [eF,vZ,eb]
   refine ⟨_,rfl,_,rfl,by show 3 <= sizeLine;decide,fun r hr=>?_⟩
   obtain ⟨hr1,rp⟩:=zM hr
   obtain ⟨hr2,rw_⟩:=zM hr1
   have kk:zD [p,wl] H (upd (upd (upd H wl (.lst (ps'.map V.ref))) p (.ins C dx (xC (.str n) wl (z4 hold) (!rest.isEmpty)))) r (.tup [.str "right",.str n,.bl (!rest.isEmpty)])):=((zD.at (by simp)).trans (zD.at (by simp))).trans (zD.new hr)
   have es:xU { ptr:=ptr,row:=(k,n) :: rest,hold:=hold,asked:=asked }=({ ptr:=some n,row:=rest,hold:=hold,asked:=!rest.isEmpty },[.str "right",.str n,.bl (!rest.isEmpty)]):=by
    unfold xU;simp only [if_neg hk']
   rw [es] at q
   refine q r _ ⟨⟨dx,?_⟩,⟨ps',?_,zK kk (vD hob hwl) hpr⟩,?_⟩ zB hr2 kk
   ·rw [zJ (Ne.symm rp),zB];rfl
   ·rw [zJ (Ne.symm rw_),zJ (Ne.symm npw),zB]
   ·show rest.length <= 1000;omega
theorem zCI:zN ["self"] ["self"] (zG jT):=⟨rfl,rfl,rfl,by decide +kernel,rfl,by decide +kernel,by decide +kernel⟩
theorem zBU (a:V) (wl:Addr) (h:V) (k:Bool) {m:Str} (h1:¬ m="pointer") (h2:¬ m="waiting") (h3:¬ m="holder") (h4:¬ m="asked"):(xC a wl h k).lookup m=none:=by
 have e1:(m == ("pointer" : Str))=false:=by simpa using h1
 have e2:(m == ("waiting" : Str))=false:=by simpa using h2
 have e3:(m == ("holder" : Str))=false:=by simpa using h3
 have e4:(m == ("asked" : Str))=false:=by simpa using h4
 unfold xC
 simp only [List.lookup_cons,e1,e2,e3,e4,List.lookup_nil]
theorem zZ.stay {H H':Hp} {p wl:Addr} {s:SS} {dx:Addr} (S:zZ C H p wl s) (s':SS) (hob:H' p=some (.ins C dx (xC (z4 s'.ptr) wl (z4 s'.hold) s'.asked))) (hw:H' wl=H wl) (er:s'.row=s.row) (k:zD [p,wl] H H'):zZ C H' p wl s':=by
 obtain ⟨⟨dx0,h0⟩,⟨ps,h1,h2⟩,hl⟩:=S
 refine ⟨⟨dx,hob⟩,⟨ps,by rw [hw];exact h1,?_⟩,by rw [er];exact hl⟩
 rw [er]
 exact zK k (vD h0 h1) h2
def sP (C:Addr):Sp:=fun vs H Q _=>∃ (p wl:Addr) (s:SS),vs=[.ref p]/\zZ C H p wl s /\
 ∀ (r:Addr) (H':Hp),zZ C H' p wl (zX s).1->Rows H' r (zX s).2->H r=none->zD [p,wl] H H'->Q (.ref r) H'
theorem zC9 (T:xY K C) (G:y2 K C "move_on" "Seat.move_on" jT ["self"]) (MS:yJ P w K mg base CX0 1 C "serve_first" ["self"] (jK C)):yJ P w K mg base CX0 2 C "move_on" ["self"] (sP C):=by
 refine G.ok zCI (fun vs H Q E h=>by obtain ⟨p,wl,s,rfl,_⟩:=h;rfl) (fun f cdv A outer s0 H vs Q E hr h=>?_)
 obtain ⟨p,wl,s,rfl,S,q⟩:=h
 have hr1:yB 1 _:=hr.mono (by decide)
 refine ⟨_,(zE (yC (wA (eI (yG (pv 0) rfl) (fun _=>rfl))) (zF (zL (yZ zC))) zT)
   (zE (yC (zS vK (yG (pv 0) rfl) yY (zV _)) (zF (zL (sB (zS vK (yG (pv 0) rfl) yY (zV _)) (yZ (zA (yR MS T.cl hr1 (pv 0)) zC)) (yZ zC)))) zT)
   (zE (yC (xV (yG (pv 0) rfl)) (zF (zL (yZ zC))) zT)
   (zE (wW (pv 0) wT rfl)
   (zF (zL (yZ (zA (yD (zA zO (zA (yG (pv 0) rfl) zC))) zC)))))))),?_⟩
 have npw:=S.ne
 obtain ⟨⟨dx,hob⟩,⟨ps,hwl,hpr⟩,hlen⟩:=id S
 have lps:=zP hpr
 rw [zGH] at lps
 have hps:(ps.map V.ref).isEmpty=s.row.isEmpty:=by
  cases hps:ps <;> cases hrow:s.row <;> simp_all
 have none_:zX s=(s,[])->∀ r,H r=none->Q (.ref r) (upd H r (.lst [])):=fun e r hr=>by
  rw [e] at q
  exact q r _ (S.keep (zD.new hr)) ⟨[],zB,.nil⟩ hr (zD.new hr)
 refine ⟨_,rfl,p,C,dx,_,_,rfl,hob,T.cl,T.nW,rA _ _ _ _,_,.inl ⟨_,.of hwl,rfl⟩,?_⟩
 dsimp only
 rw [hps]
 cases hem:s.row.isEmpty with
 | true=>
  refine gC ⟨zGR _,fun r hr=>none_ ?_ r hr⟩
  unfold zX;rw [hem];rfl
 | false=>
 refine kP ?_
 have hne:s.row ≠ []:=fun z=>by rw [z] at hem;cases hem
 refine ⟨_,rfl,p,C,dx,_,_,rfl,hob,T.cl,T.nP,cK _ _ _ _,rfl,_,rfl,?_⟩
 cases hp:s.ptr with
 | none=>
  refine gC ?_
  refine ⟨_,rfl,p,C,dx,_,_,rfl,hob,T.cl,T.nH,kT _ _ _ _,rfl,_,rfl,?_⟩
  cases hh:s.hold with
  | none=>
   refine gC ?_
   have em:zX s=((xU s).1,[(xU s).2]):=by unfold zX;rw [hem,hp,hh];rfl
   rw [em] at q
   refine ⟨_,rfl,p,dx,_,rfl,hob,zBU _ _ _ _ (by decide +kernel) (by decide +kernel) (by decide +kernel) (by decide +kernel),p,wl,s,rfl,S,hne,fun r H1 S1 h1 hr k1=>⟨by show 1 <= sizeLine;decide,fun l hl=>?_⟩⟩
   have nl:H l=none:=by
    cases e:H l with
    | none=>rfl
    | some o=>
     by_cases z:l ∈ [p,wl]
     ·obtain ⟨dx1,o1⟩:=S1.ob
      obtain ⟨ps1,o2,_⟩:=S1.rw
      simp only [List.mem_cons,zHB,or_false] at z
      rcases z with z | z
      ·rw [z,o1] at hl;cases hl
      ·rw [z,o2] at hl;cases hl
     ·rw [k1 l o z e] at hl;cases hl
   exact q l _ (S1.keep (zD.new hl)) ⟨[r],zB,.cons (by rw [zJ (zH h1 hl)];exact h1) .nil⟩ nl (k1.trans (zD.new hl))
  | some g=>
   refine kP ⟨zGR _,fun r hr=>none_ ?_ r hr⟩
   unfold zX;rw [hem,hp,hh];rfl
 | some g=>
  refine kP ?_
  refine ⟨_,rfl,p,C,dx,_,_,rfl,hob,T.cl,T.nA,zF7 _ _ _ _,_,rfl,?_⟩
  cases ha:s.asked with
  | true=>
   refine gC ⟨zGR _,fun r hr=>none_ ?_ r hr⟩
   unfold zX;rw [hem,hp,ha];rfl
  | false=>
   refine kP ?_
   have em:zX s=({ s with asked:=true },[[.str "ask",.str g]]):=by unfold zX;rw [hem,hp,ha];rfl
   rw [em] at q
   refine ⟨_,rfl,p,C,dx,_,rfl,hob,T.cl,T.nA,by show 4 < 1000;decide,?_⟩
   rw [eF]
   refine ⟨_,rfl,p,C,dx,_,_,rfl,zB,T.cl,T.nP,cK _ _ _ _,by show 2 <= sizeLine;decide,fun t ht=>⟨by show 1 <= sizeLine;decide,fun l hl=>?_⟩⟩
   obtain ⟨ht1,tp⟩:=zM ht
   obtain ⟨hl1,lt⟩:=zM hl
   obtain ⟨hl2,lp⟩:=zM hl1
   have nwt:wl ≠ t:=zH hwl ht1
   have nwl:wl ≠ l:=zH hwl hl2
   have kk:zD [p,wl] H (upd (upd (upd H p (.ins C dx (xC (z4 s.ptr) wl (z4 s.hold) true))) t (.tup [.str "ask",z4 s.ptr])) l (.lst [.ref t])):=((zD.at (by simp)).trans (zD.new ht)).trans (zD.new hl)
   refine q l _ (S.stay (dx:=dx) { s with asked:=true } ?_ ?_ rfl kk) ⟨[t],zB,.cons ?_ .nil⟩ hl2 kk
   ·rw [zJ (Ne.symm lp),zJ (Ne.symm tp),zB]
   ·rw [zJ nwl,zJ nwt,zJ (Ne.symm npw)]
   ·rw [zJ (Ne.symm lt),zB,hp];rfl
end
section
variable {P:Program} {w:World} {K:PySem.W.Frag} {mg:Str->Option Value} {base:Heap} {C:Addr}
def tN (K:PySem.W.Frag):Sp:=fun vs H Q _=>∃ (x:V) (T:String),vs=[x]/\y4 K H x T/\(∀ z,x=.str z->z.length <= 1000)/\∀ H',zD [] H H'->Q (.bl (wJ x)) H'
theorem zCH:zN ["thing"] ["thing"] (zG mE):=⟨rfl,rfl,rfl,by decide +kernel,rfl,by decide +kernel,by decide +kernel⟩
theorem zC8 (G:y0 K mg "is_name" mE ["thing"]) (bI:Blt mg "isinstance") (bS:Blt mg "str") (bL:Blt mg "len") (bA:Blt mg "all") (gL:Glo mg "LETTERS" (.str abc)) (g8:Glo mg "LONGEST_NAME" (.int 8)) :
  Cal P w K mg base CX0 1 "is_name" ["thing"] (tN K):=by
 refine G.ok zCH (fun vs H Q E h=>by obtain ⟨x,T,rfl,_⟩:=h;rfl) (fun f cdv A outer s H vs Q E hr h=>?_)
 obtain ⟨x,T,rfl,pt,hz,q⟩:=h
 refine ⟨_,zE (yC (wA (xV (yE y3 bI yM (zA (pv 0) (zA (v7 bS zDR) zC))))) (zF (zL wT)) zT)
  (zF (zL (tR (eW eY eY zI (yE yK bL xB (zA (pv 0) zC)) (eV g8))
   (tQ (yE (sI rfl) bA nM (zA (vT (N:=["thing"]) (sc:=zG mE) (ix:=[]) (by decide +kernel) (zCS (pv 0)) (fun _ _ _ _=>xM)
    (fun C fp s H=>wD i7 (pv 0) (eV gL) (by with_unfolding_all rfl))) zC)))))),?_⟩
 refine ⟨_,rfl,_,_,_,_,rfl,pt.ty,pt.kit.1,_,rfl,?_⟩
 cases pt with
 | str z=>
  have hz:=hz z rfl
  refine kP ?_
  refine ⟨_,rfl,_,z.length,rfl,⟨by rw [sizeLine_eq];omega,rfl⟩,_,_,rfl,rfl,_,rfl,?_⟩
  refine gD (fun h1=>?_) (fun h1=>?_)
  ·refine ⟨_,_,rfl,rfl,_,rfl,?_⟩
   refine gD (fun h2=>?_) (fun h2=>?_)
   ·refine ⟨_,rfl,z,rfl,fun acc ha=>?_⟩
    refine zAQ (by rw [sizeLine_eq];show z.length < _;omega) (fun i ys τ H2=>∃ (k:Option V),τ=[k]/\ys=(z.cps.toList.take i).map (fun c=>V.bl (vO c))/\i <= z.cps.size/\zD [acc] H H2/\H2 acc=some (.lst ys)) ?_ ?_ ?_ ?_
    ·exact ⟨_,rfl,rfl,zGR _,zD.at (by simp),zB⟩
    ·rintro i ys τ H2 ⟨k,rfl,rfl,hi,kp,h3⟩
     exact ⟨h3,by simp;omega⟩
    ·rintro i ys τ H2 hi ⟨k,rfl,rfl,_,kp,h3⟩
     refine ⟨_,rfl,_,_,rfl,rfl,h3,_,rfl,?_,hi,kp.trans (zD.at (by simp)),zB⟩
     rw [List.take_add_one,zGT]
     congr 1
     have e:z.cps.toList[i]?=some (z.cps.getD i 0):=by
      rw [Array.getElem?_toList,zHG,Array.getElem?_eq_getElem hi];rfl
     rw [e];rfl
    ·rintro ys τ H2 ⟨k,rfl,rfl,_,kp,h3⟩
     refine ⟨acc,z.cps.toList.map vO,rfl,.of ?_,?_⟩
     ·rw [h3,zG6 (by simp),zG1];rfl
     ·rw [jA]
      have e:wJ (.str z)=z.cps.toList.all vO:=by
       show (decide (1 <= z.length) && decide (z.length <= 8) && _)=_
       have e1:1 <= z.length:=by have:=of_decide_eq_true h1;omega
       have e2:z.length <= 8:=by have:=of_decide_eq_true h2;omega
       rw [zGW e1,zGW e2];rfl
      rw [<- e]
      exact q _ (kp.drop ha)
   ·have e:wJ (.str z)=false:=by
     show (decide (1 <= z.length) && decide (z.length <= 8) && _)=_
     have e2:¬ z.length <= 8:=fun z'=>h2 (zGW (by omega))
     rw [zGX e2];simp
    rw [<- e]
    exact q _ (zD.refl _)
  ·refine ⟨_,rfl,kP ?_⟩
   have e:wJ (.str z)=false:=by
    show (decide (1 <= z.length) && decide (z.length <= 8) && _)=_
    have e2:¬ 1 <= z.length:=fun z'=>h1 (zGW (by omega))
    rw [zGX e2];simp
   rw [<- e]
   exact q _ (zD.refl _)
 | _=>exact gC (q H (zD.refl _))
theorem zCN:zN ["asker"] ["asker"] (zG j4):=⟨rfl,rfl,rfl,by decide +kernel,rfl,by decide +kernel,by decide +kernel⟩
def t6:Sp:=fun vs H Q _=>∃ (z:Str),vs=[.str z]/\vM z=true/\z.length <= 1000/\∀ H',zD [] H H'->Q .non H'
theorem zDF (G:y0 K mg "check_asker" j4 ["asker"]) (CI:Cal P w K mg base CX0 1 "is_name" ["thing"] (tN K)):Cal P w K mg base CX0 2 "check_asker" ["asker"] t6:=by
 refine G.ok zCN (fun vs H Q E h=>by obtain ⟨z,rfl,_⟩:=h;rfl) (fun f cdv A outer s0 H vs Q E hr h=>?_)
 obtain ⟨z,rfl,hn,hl,q⟩:=h
 have hr1:yB 1 _:=hr.mono (by decide)
 refine ⟨_,(zF (yC (wA (xV (zQ CI hr1 (zA (pv 0) zC)))) (zF xA) zT)),?_⟩
 refine ⟨_,rfl,_,"str",rfl,.str z,(fun z' e=>by cases e;exact hl),fun H1 k1=>⟨_,rfl,?_⟩⟩
 exact ifF (by show (!vM z)=false;rw [hn];rfl) (q H1 k1)
theorem zCG:zN ["self","asker"] ["self","asker"] (zG jR):=⟨rfl,rfl,rfl,by decide +kernel,rfl,by decide +kernel,by decide +kernel⟩
abbrev y9 (z:Str):Str × Str:=(("asker" : Str),z)
theorem sG (r x:Str × Str):eqT (yT r) (yT x)=decide (r=x):=by
 obtain ⟨a,b⟩:=r
 obtain ⟨c,e⟩:=x
 show ((2 == 2) && ((a == c) && ((b == e) && true)))=_
 by_cases h1:a=c <;> by_cases h2:b=e <;> simp [h1,h2]
theorem uT (row:List (Str × Str)) (x:Str × Str):(row.map yT).any (fun r=>eqT r (yT x))=decide (x ∈ row):=by
 rw [List.any_map]
 induction row with
 | nil=>simp
 | cons r row ih=>
  rw [List.any_cons,ih]
  show (eqT (yT r) (yT x) || decide (x ∈ row))=_
  rw [sG]
  by_cases h1:r=x
  ·subst h1;simp
  ·have h2:¬ x=r:=fun z=>h1 z.symm
   simp [h1,h2]
theorem jQ (z:Str) (o:Option Str):fT (.str z) (z4 o)=true:=by cases o <;> rfl
theorem zAX (z:Str) (o:Option Str):decide (V.str z=z4 o)=decide (o=some z):=by
 cases o with
 | none=>simp [z4]
 | some y=>simp [z4,eq_comm]
theorem pU (a:V) (wl:Addr) (h:V) (k:Bool):(xC a wl h k).lookup ("move_on" : Str)=none:=zBU a wl h k (by decide +kernel) (by decide +kernel) (by decide +kernel) (by decide +kernel)
theorem zZ.more {H H1 H3:Hp} {p wl t dx:Addr} {s:SS} {ps:List Addr} {x:Str × Str} (hob:H3 p=some (.ins C dx (xC (z4 s.ptr) wl (z4 s.hold) s.asked)))
  (hpr:Paired (fun q r=>H3 q=some (.tup r)) ps (s.row.map yT)) (hw:H3 wl=some (.lst (ps.map V.ref ++ [.ref t]))) (ht:H3 t=some (.tup (yT x))) (hl:s.row.length < 1000):zZ C H3 p wl { s with row:=s.row ++ [x] }:=by
 refine ⟨⟨dx,hob⟩,⟨ps ++ [t],by rw [hw,zGT];rfl,?_⟩,by show (s.row ++ [x]).length <= 1000;simp;omega⟩
 show Paired _ _ ((s.row ++ [x]).map yT)
 rw [zGT]
 exact x8 hpr ht
def lU (C:Addr):Sp:=fun vs H Q _=>∃ (p wl:Addr) (s:SS) (z:Str),vs=[.ref p,.str z]/\zZ C H p wl s/\vM z=true/\z.length <= 1000/\s.hold ≠ some z/\(y9 z) ∉ s.row/\s.row.length < 1000 /\
 ∀ (r:Addr) (H':Hp),zZ C H' p wl (zX { s with row:=s.row ++ [(y9 z)] }).1->Rows H' r (zX { s with row:=s.row ++ [(y9 z)] }).2->H r=none->zD [p,wl] H H'->Q (.ref r) H'
theorem zC5 (T:xY K C) (G:y2 K C "want" "Seat.want" jR ["self","asker"]) (CC:Cal P w K mg base CX0 2 "check_asker" ["asker"] t6) (MM:yJ P w K mg base CX0 2 C "move_on" ["self"] (sP C)) :
  yJ P w K mg base CX0 3 C "want" ["self","asker"] (lU C):=by
 refine G.ok zCG (fun vs H Q E h=>by obtain ⟨p,wl,s,z,rfl,_⟩:=h;rfl) (fun f cdv A outer s0 H vs Q E hr h=>?_)
 obtain ⟨p,wl,s,z,rfl,S0,hn,hl,hh,hi,hlen,q⟩:=h
 have hr2:yB 2 _:=hr.mono (by decide)
 have hu:=v9 hr
 refine ⟨_,(zE (yO (zQ CC hr2 (zA (pv 1) zC)))
   (zE (yC (PW.pt (pL (zS xO (pv 1) (yG (pv 0) rfl) (zV _)) (sS (zS (oY hu) (yD (zA zO (zA (pv 1) zC))) (yG (pv 0) rfl) (by with_unfolding_all rfl))))) (zF xA) zT)
   (zE (yO (vL PySem.F.plainAttrs_list PySem.F.slot_list_append PySem.F.type_list_append xF (yG (pv 0) rfl) (zA (yD (zA zO (zA (pv 1) zC))) zC)))
   (zF (zL (yR MM T.cl hr2 (pv 0))))))),?_⟩
 refine ⟨_,rfl,z,rfl,hn,hl,fun H1 k1=>?_⟩
 have S:=S0.keep k1
 have npw:=S.ne
 obtain ⟨⟨dx,hob⟩,⟨ps,hwl,hpr⟩,_⟩:=id S
 refine ⟨_,rfl,_,rfl,p,C,dx,_,_,rfl,hob,T.cl,T.nH,kT _ _ _ _,jQ _ _,_,rfl,?_⟩
 refine ifF (by rw [zAX];exact zGX hh) ?_
 refine ⟨_,rfl,by show 2 <= sizeLine;decide,fun t ht=>?_⟩
 have pt:p ≠ t:=zH hob ht
 have wt:wl ≠ t:=zH hwl ht
 have k2:zD [] H1 (upd H1 t (.tup [.str "asker",.str z])):=zD.new ht
 refine ⟨_,rfl,p,C,dx,_,_,rfl,(k2 _ _ (by simp) hob),T.cl,T.nW,rA _ _ _ _,wl,t,_,s.row.map yT,rfl,rfl,(Rows.keep ⟨ps,hwl,hpr⟩ k2),zB,rfl,vB _,_,rfl,?_⟩
 refine ifF (by show ((s.row.map yT).any fun r=>eqT r (yT (y9 z)))=false;rw [uT];exact zGX hi) ?_
 refine ⟨_,rfl,p,C,dx,_,_,rfl,(k2 _ _ (by simp) hob),T.cl,T.nW,rA _ _ _ _,.inl ⟨rfl,_,.of (k2 _ _ (by simp) hwl)⟩,_,rfl,by show 2 <= sizeLine;decide,fun t2 ht2=>?_⟩
 have k3:zD [] (upd H1 t (.tup [.str "asker",.str z])) (upd (upd H1 t (.tup [.str "asker",.str z])) t2 (.tup [.str "asker",.str z])):=zD.new ht2
 have k13:=k2.trans k3
 have wt2:wl ≠ t2:=zH (k2 _ _ (by simp) hwl) ht2
 have lps:=zP hpr
 rw [zGH] at lps
 refine ⟨wl,_,_,rfl,rfl,k13 _ _ (by simp) hwl,by rw [zGH,sizeLine_eq];omega,?_⟩
 generalize hH3:upd (upd H1 t (.tup [.str "asker",.str z])) t2 (.tup [.str "asker",.str z])=H3 at k3 k13 ⊢
 have h3t:H3 t2=some (.tup (yT (y9 z))):=by rw [<- hH3];exact zB
 have k4:zD [p,wl] H1 (upd H3 wl (.lst (ps.map V.ref ++ [.ref t2]))):=(k13.mono (by simp)).trans (zD.at (by simp))
 have hob4:upd H3 wl (.lst (ps.map V.ref ++ [.ref t2])) p=some (.ins C dx (xC (z4 s.ptr) wl (z4 s.hold) s.asked)):=by rw [zJ npw];exact k13 _ _ (by simp) hob
 have S4:zZ C (upd H3 wl (.lst (ps.map V.ref ++ [.ref t2]))) p wl { s with row:=s.row ++ [(y9 z)] }:=
  zZ.more (H:=H) (H1:=H1) hob4 (zK k4 (vD hob hwl) hpr) zB (by rw [zJ (Ne.symm wt2)];exact h3t) hlen
 refine ⟨_,rfl,p,dx,_,rfl,hob4,pU _ _ _ _,p,wl,_,rfl,S4,fun r H5 S5 R5 hr5 k5=>?_⟩
 have hr4:=(zM hr5).1
 exact q r H5 S5 R5 (k1.none (by simp) (k13.none (by simp) hr4)) (((k1.mono (by simp)).trans k4).trans k5)
theorem b5:zN ["self","asker"] ["self","asker"] (zG oS):=⟨rfl,rfl,rfl,by decide +kernel,rfl,by decide +kernel,by decide +kernel⟩
def oG (C:Addr):Sp:=fun vs H Q _=>∃ (p wl:Addr) (s:SS) (z:Str) (j:Nat),vs=[.ref p,.str z]/\zZ C H p wl s/\vM z=true/\z.length <= 1000/\s.row[j]?=some (y9 z)/\(∀ m,m < j->s.row[m]? ≠ some (y9 z)) /\
 ∀ (r:Addr) (H':Hp),zZ C H' p wl (zX { s with row:=s.row.eraseIdx j }).1->Rows H' r (zX { s with row:=s.row.eraseIdx j }).2->H r=none->zD [p,wl] H H'->Q (.ref r) H'
theorem zAD (T:xY K C) (G:y2 K C "leave" "Seat.leave" oS ["self","asker"]) (CC:Cal P w K mg base CX0 2 "check_asker" ["asker"] t6) (MM:yJ P w K mg base CX0 2 C "move_on" ["self"] (sP C)) :
  yJ P w K mg base CX0 3 C "leave" ["self","asker"] (oG C):=by
 refine G.ok b5 (fun vs H Q E h=>by obtain ⟨p,wl,s,z,j,rfl,_⟩:=h;rfl) (fun f cdv A outer s0 H vs Q E hr h=>?_)
 obtain ⟨p,wl,s,z,j,rfl,S0,hn,hl,hj,hno,q⟩:=h
 have hr2:yB 2 _:=hr.mono (by decide)
 have hu:=v9 hr
 refine ⟨_,(zE (yO (zQ CC hr2 (zA (pv 1) zC)))
   (zE (yC (zS (pM hu) (yD (zA zO (zA (pv 1) zC))) (yG (pv 0) rfl) (by with_unfolding_all rfl)) (zF xA) zT)
   (zE (yO (vL PySem.F.plainAttrs_list PySem.F.slot_list_remove PySem.F.type_list_remove (qP hu) (yG (pv 0) rfl) (zA (yD (zA zO (zA (pv 1) zC))) zC)))
   (zF (zL (yR MM T.cl hr2 (pv 0))))))),?_⟩
 refine ⟨_,rfl,z,rfl,hn,hl,fun H1 k1=>?_⟩
 have S:=S0.keep k1
 have npw:=S.ne
 obtain ⟨⟨dx,hob⟩,⟨ps,hwl,hpr⟩,hlen⟩:=id S
 refine ⟨_,rfl,by show 2 <= sizeLine;decide,fun t ht=>?_⟩
 have k2:zD [] H1 (upd H1 t (.tup [.str "asker",.str z])):=zD.new ht
 refine ⟨_,rfl,p,C,dx,_,_,rfl,(k2 _ _ (by simp) hob),T.cl,T.nW,rA _ _ _ _,wl,t,_,s.row.map yT,rfl,rfl,(Rows.keep ⟨ps,hwl,hpr⟩ k2),zB,rfl,vB _,_,rfl,?_⟩
 refine ifF (by show (!((s.row.map yT).any fun r=>eqT r (yT (y9 z))))=false;rw [uT,zGW (zGL hj)];rfl) ?_
 refine ⟨_,rfl,p,C,dx,_,_,rfl,(k2 _ _ (by simp) hob),T.cl,T.nW,rA _ _ _ _,.inl ⟨rfl,_,.of (k2 _ _ (by simp) hwl)⟩,_,rfl,by show 2 <= sizeLine;decide,fun t2 ht2=>?_⟩
 have k3:zD [] (upd H1 t (.tup [.str "asker",.str z])) (upd (upd H1 t (.tup [.str "asker",.str z])) t2 (.tup [.str "asker",.str z])):=zD.new ht2
 have k13:=k2.trans k3
 have hn13:∀ b ∈ ([]:List Addr),∀ xs,H1 b ≠ some (.tup xs):=fun b hb=>by cases hb
 refine ⟨wl,t2,_,s.row.map yT,j,ps,rfl,rfl,k13 _ _ (by simp) hwl,zK k13 hn13 hpr,zB,rfl,vB _,⟨yT (y9 z),by rw [zGN,hj];rfl,by
  show eqT (yT (y9 z)) (yT (y9 z))=true
  rw [sG];exact zGW rfl⟩,(fun m r hm e=>by
  rw [zGN] at e
  cases hx:s.row[m]? with
  | none=>rw [hx] at e;cases e
  | some y=>
   rw [hx] at e
   have e':yT y=r:=zGO e
   rw [<- e']
   show eqT (yT y) (yT (y9 z))=false
   rw [sG]
   exact zGX (fun w=>hno m hm (by rw [hx,w]))),?_⟩
 generalize hH3:upd (upd H1 t (.tup [.str "asker",.str z])) t2 (.tup [.str "asker",.str z])=H3 at k3 k13 ⊢
 have k4:zD [p,wl] H1 (upd H3 wl (.lst ((ps.eraseIdx j).map V.ref))):=(k13.mono (by simp)).trans (zD.at (by simp))
 have hob4:upd H3 wl (.lst ((ps.eraseIdx j).map V.ref)) p=some (.ins C dx (xC (z4 s.ptr) wl (z4 s.hold) s.asked)):=by rw [zJ npw];exact k13 _ _ (by simp) hob
 have S4:zZ C (upd H3 wl (.lst ((ps.eraseIdx j).map V.ref))) p wl { s with row:=s.row.eraseIdx j }:=by
  refine ⟨⟨dx,hob4⟩,⟨ps.eraseIdx j,zB,?_⟩,zGS (uE s.row j) hlen⟩
  show Paired _ _ ((s.row.eraseIdx j).map yT)
  rw [<- tD yT]
  exact uK j (zK k4 (vD hob hwl) hpr)
 refine ⟨_,rfl,p,dx,_,rfl,hob4,pU _ _ _ _,p,wl,_,rfl,S4,fun r H5 S5 R5 hr5 k5=>?_⟩
 have hr4:=(zM hr5).1
 exact q r H5 S5 R5 (k1.none (by simp) (k13.none (by simp) hr4)) (((k1.mono (by simp)).trans k4).trans k5)
theorem zCK:zN ["self","asker"] ["self","asker"] (zG jY):=⟨rfl,rfl,rfl,by decide +kernel,rfl,by decide +kernel,by decide +kernel⟩
def lX (C:Addr):Sp:=fun vs H Q _=>∃ (p wl:Addr) (s:SS) (z:Str),vs=[.ref p,.str z]/\zZ C H p wl s/\vM z=true/\z.length <= 1000/\s.hold=some z /\
 ∀ (r:Addr) (H':Hp),zZ C H' p wl (zX { s with hold:=none }).1->Rows H' r (zX { s with hold:=none }).2->H r=none->zD [p,wl] H H'->Q (.ref r) H'
theorem zDC (T:xY K C) (G:y2 K C "done" "Seat.done" jY ["self","asker"]) (CC:Cal P w K mg base CX0 2 "check_asker" ["asker"] t6) (MM:yJ P w K mg base CX0 2 C "move_on" ["self"] (sP C)) :
  yJ P w K mg base CX0 3 C "done" ["self","asker"] (lX C):=by
 refine G.ok zCK (fun vs H Q E h=>by obtain ⟨p,wl,s,z,rfl,_⟩:=h;rfl) (fun f cdv A outer s0 H vs Q E hr h=>?_)
 obtain ⟨p,wl,s,z,rfl,S0,hn,hl,hh,q⟩:=h
 have hr2:yB 2 _:=hr.mono (by decide)
 refine ⟨_,(zE (yO (zQ CC hr2 (zA (pv 1) zC)))
   (zE (yC (zS mP (pv 1) (yG (pv 0) rfl) (zV _)) (zF xA) zT)
   (zE (wW (pv 0) yY rfl)
   (zF (zL (yR MM T.cl hr2 (pv 0))))))),?_⟩
 refine ⟨_,rfl,z,rfl,hn,hl,fun H1 k1=>?_⟩
 have S:=S0.keep k1
 have npw:=S.ne
 obtain ⟨⟨dx,hob⟩,⟨ps,hwl,hpr⟩,hlen⟩:=id S
 refine ⟨_,rfl,_,rfl,p,C,dx,_,_,rfl,hob,T.cl,T.nH,kT _ _ _ _,jQ _ _,_,rfl,?_⟩
 refine ifF (by rw [zAX,zGW hh];rfl) ?_
 refine ⟨_,rfl,p,C,dx,_,rfl,hob,T.cl,T.nH,by show 4 < 1000;decide,?_⟩
 rw [zBM]
 have k4:zD [p,wl] H1 (upd H1 p (.ins C dx (xC (z4 s.ptr) wl .non s.asked))):=zD.at (by simp)
 have S4:zZ C (upd H1 p (.ins C dx (xC (z4 s.ptr) wl .non s.asked))) p wl { s with hold:=none }:=S.stay (dx:=dx) { s with hold:=none } zB (by rw [zJ (Ne.symm npw)]) rfl k4
 refine ⟨_,rfl,p,dx,_,rfl,zB,pU _ _ _ _,p,wl,_,rfl,S4,fun r H5 S5 R5 hr5 k5=>?_⟩
 have hr4:=(zM hr5).1
 exact q r H5 S5 R5 (k1.none (by simp) hr4) (((k1.mono (by simp)).trans k4).trans k5)
theorem b7:zN ["self"] ["self"] (zG oT):=⟨rfl,rfl,rfl,by decide +kernel,rfl,by decide +kernel,by decide +kernel⟩
def rQ (C:Addr):Sp:=fun vs H Q _=>∃ (p wl:Addr) (s:SS),vs=[.ref p]/\zZ C H p wl s/\Q (z4 s.ptr) H
theorem zAE (T:xY K C) (G:y2 K C "arrow" "Seat.arrow" oT ["self"]):yJ P w K mg base CX0 1 C "arrow" ["self"] (rQ C):=by
 refine G.ok b7 (fun vs H Q E h=>by obtain ⟨p,wl,s,rfl,_⟩:=h;rfl) (fun f cdv A outer s0 H vs Q E hr h=>?_)
 obtain ⟨p,wl,s,rfl,S,q⟩:=h
 obtain ⟨dx,hob⟩:=S.ob
 exact ⟨_,(zF (zL (yG (pv 0) rfl))),_,rfl,p,C,dx,_,_,rfl,hob,T.cl,T.nP,cK _ _ _ _,q⟩
theorem fV:zN ["self"] ["self"] (zG rW):=⟨rfl,rfl,rfl,by decide +kernel,rfl,by decide +kernel,by decide +kernel⟩
def t5 (C:Addr):Sp:=fun vs H Q _=>∃ (p wl:Addr) (s:SS),vs=[.ref p]/\zZ C H p wl s/\Q (z4 s.hold) H
theorem dB (T:xY K C) (G:y2 K C "inside" "Seat.inside" rW ["self"]):yJ P w K mg base CX0 1 C "inside" ["self"] (t5 C):=by
 refine G.ok fV (fun vs H Q E h=>by obtain ⟨p,wl,s,rfl,_⟩:=h;rfl) (fun f cdv A outer s0 H vs Q E hr h=>?_)
 obtain ⟨p,wl,s,rfl,S,q⟩:=h
 obtain ⟨dx,hob⟩:=S.ob
 exact ⟨_,(zF (zL (yG (pv 0) rfl))),_,rfl,p,C,dx,_,_,rfl,hob,T.cl,T.nH,kT _ _ _ _,q⟩
theorem zEX:zN ["self"] ["self"] (zG aB):=⟨rfl,rfl,rfl,by decide +kernel,rfl,by decide +kernel,by decide +kernel⟩
def fP (C:Addr):Sp:=fun vs H Q _=>∃ (p wl:Addr) (s:SS),vs=[.ref p]/\zZ C H p wl s/\Q (.bl s.asked) H
theorem zFJ (T:xY K C) (G:y2 K C "has_asked" "Seat.has_asked" aB ["self"]):yJ P w K mg base CX0 1 C "has_asked" ["self"] (fP C):=by
 refine G.ok zEX (fun vs H Q E h=>by obtain ⟨p,wl,s,rfl,_⟩:=h;rfl) (fun f cdv A outer s0 H vs Q E hr h=>?_)
 obtain ⟨p,wl,s,rfl,S,q⟩:=h
 obtain ⟨dx,hob⟩:=S.ob
 exact ⟨_,(zF (zL (yG (pv 0) rfl))),_,rfl,p,C,dx,_,_,rfl,hob,T.cl,T.nA,zF7 _ _ _ _,q⟩
theorem zEV:zN ["self"] ["self"] (zG aA):=⟨rfl,rfl,rfl,by decide +kernel,rfl,by decide +kernel,by decide +kernel⟩
def jL (C:Addr):Sp:=fun vs H Q _=>∃ (p wl:Addr) (s:SS),vs=[.ref p]/\zZ C H p wl s/\∀ (r:Addr) (H':Hp),H r=none->Rows H' r (s.row.map yT)->zD [] H H'->Q (.ref r) H'
theorem zFH (T:xY K C) (G:y2 K C "row" "Seat.row" aA ["self"]) (bT:Blt mg "list"):yJ P w K mg base CX0 1 C "row" ["self"] (jL C):=by
 refine G.ok zEV (fun vs H Q E h=>by obtain ⟨p,wl,s,rfl,_⟩:=h;rfl) (fun f cdv A outer s0 H vs Q E hr h=>?_)
 obtain ⟨p,wl,s,rfl,S,q⟩:=h
 obtain ⟨⟨dx,hob⟩,⟨ps,hwl,hpr⟩,hlen⟩:=id S
 refine ⟨_,(zF (zL (wM vQ rfl bT.no vG (zA (yG (pv 0) rfl) zC)))),_,rfl,p,C,dx,_,_,rfl,hob,T.cl,T.nW,rA _ _ _ _,wl,_,rfl,.inl (.of hwl),fun l hl=>?_⟩
 have k1:zD [] H (upd H l (.lst (ps.map V.ref))):=zD.new hl
 exact q l _ hl ⟨ps,zB,zK k1 (fun b hb=>by cases hb) hpr⟩ k1
theorem zCJ:zN ["self","arrow"] ["self","arrow"] (zG jV):=⟨rfl,rfl,rfl,by decide +kernel,rfl,by decide +kernel,by decide +kernel⟩
theorem aN (a:V) (wl:Addr):xZ "asked" (.bl false) (xZ "holder" .non (xZ "waiting" (.ref wl) (xZ "pointer" a [])))=xC a wl .non false:=by
 unfold xC
 simp only [xZ,if_neg n1,if_neg n2,if_neg n3,if_neg n4,if_neg n5,if_neg n6]
def oH (C:Addr):Sp:=fun vs H Q _=>∃ (p dx:Addr) (ar:Option Str),vs=[.ref p,z4 ar]/\H p=some (.ins C dx [])/\(∀ z,ar=some z->vM z=true/\z.length <= 1000) /\
 ∀ (wl:Addr) (H':Hp),H wl=none->zZ C H' p wl ⟨ar,[],none,false⟩->zD [p] H H'->Q .non H'
theorem zDB {fI:Addr} {fd:FuncData} (T:xY K C) (G:Fun K "__init__" "Seat.__init__" jV fI fd) (CI:Cal P w K mg base CX0 1 "is_name" ["thing"] (tN K)):uY P w K mg base CX0 2 fI fd ["self","arrow"] (oH C):=by
 refine G.ok zCJ (fun vs H Q E h=>by obtain ⟨p,dx,ar,rfl,_⟩:=h;rfl) (fun cdv A outer s0 H vs Q E hr h=>?_)
 obtain ⟨p,dx,ar,rfl,hp,hz,q⟩:=h
 have hr1:yB 1 _:=hr.mono (by decide)
 refine ⟨_,(zE (yC (PW.pt (qK (zS uL (pv 1) yY (zV _)) (t9 (wA (xV (zQ CI hr1 (zA (pv 1) zC))))))) (zF xA) zT)
   (zE (wW (pv 0) (pv 1) rfl)
   (zE (wW (pv 0) (yZ zC) rfl)
   (zE (wW (pv 0) yY rfl)
   (zF (wW (pv 0) wT rfl)))))),?_⟩
 have rest:∀ H1,zD [] H H1->(pF (fY K (uX 0) (uX 1) "pointer") (pF (fY K (uX 0) (bO nV) "waiting") (pF (fY K (uX 0) (tC .non) "holder") (fY K (uX 0) (tC (.bl false)) "asked")))) { nx:=fun _ H'=>Q .non H',rt:=Q } (L2.start ["self","arrow"] [.ref p,z4 ar]) H1:=fun H1 k1=>by
  have hp1:=k1 _ _ (by simp) hp
  refine ⟨_,rfl,_,rfl,p,C,dx,_,rfl,hp1,T.cl,T.nP,by show 0 < 1000;decide,zGR _,fun wl hw=>?_⟩
  obtain ⟨hw1,wp⟩:=zM hw
  refine ⟨_,rfl,p,C,dx,_,rfl,by rw [zJ (Ne.symm wp),zB],T.cl,T.nW,by show 1 < 1000;decide,?_⟩
  refine ⟨_,rfl,p,C,dx,_,rfl,zB,T.cl,T.nH,by show 2 < 1000;decide,?_⟩
  refine ⟨_,rfl,p,C,dx,_,rfl,zB,T.cl,T.nA,by show 3 < 1000;decide,?_⟩
  dsimp only
  rw [aN,vZ,vZ]
  refine q wl _ (k1.none (by simp) hw1) ⟨⟨dx,zB⟩,⟨[],by rw [zJ wp,zB];rfl,.nil⟩,zGR _⟩ ?_
  exact ((((k1.mono (by simp)).trans (zD.at (by simp))).trans (zD.new hw))).trans (zD.at (by simp))
 cases ar with
 | none=>exact ⟨_,rfl,rfl,_,rfl,ifF rfl (ifF rfl (rest H (zD.refl _)))⟩
 | some z=>
  obtain ⟨h1,h2⟩:=hz z rfl
  refine ⟨_,rfl,rfl,_,rfl,ifT rfl ?_⟩
  refine ⟨_,rfl,_,"str",rfl,.str z,(fun z' e=>by cases e;exact h2),fun H1 k1=>⟨_,rfl,?_⟩⟩
  exact ifF (by show (!vM z)=false;rw [h1];rfl) (rest H1 k1)
end
abbrev qG:Stmt:=top 32
def Alk (H:Hp):Nat->V->V->Prop
 | 0,u,v=>u=v/\y1 u=true
 | n + 1,u,v=>(u=v/\y1 u=true) \/ ∃ (a b:Addr) (us vs:List V),u=.ref a/\v=.ref b/\((H a=some (.lst us)/\H b=some (.lst vs)) \/ (H a=some (.tup us)/\H b=some (.tup vs)))/\Paired (Alk H n) us vs/\us.length <= 2000
theorem Alk.flat {H:Hp} {u:V} (n:Nat) (f:y1 u=true):Alk H n u u:=by
 cases n with
 | zero=>exact ⟨rfl,f⟩
 | succ n=>exact .inl ⟨rfl,f⟩
theorem Alk.keep {H H':Hp} (k:zD [] H H') (n:Nat):∀ {u v:V},Alk H n u v->Alk H' n u v:=by
 induction n with
 | zero=>exact fun h=>h
 | succ n ih=>
  intro u v h
  rcases h with h | ⟨a,b,us,vs,e1,e2,hh,hp,hl⟩
  ·exact .inl h
  ·exact .inr ⟨a,b,us,vs,e1,e2,hh.elim (fun z=>.inl ⟨k _ _ (by simp) z.1,k _ _ (by simp) z.2⟩) (fun z=>.inr ⟨k _ _ (by simp) z.1,k _ _ (by simp) z.2⟩),L2.Paired.mapP hp fun x y z=>ih z,hl⟩
theorem kS {K:PySem.W.Frag} {H:Hp} {u:V} (f:y1 u=true):∃ T,y4 K H u T/\T ≠ "list"/\T ≠ "tuple":=by
 cases u with
 | non=>exact ⟨_,.non,by decide,by decide⟩
 | bl b=>exact ⟨_,.bl b,by decide,by decide⟩
 | int i=>exact ⟨_,.int i,by decide,by decide⟩
 | str z=>exact ⟨_,.str z,by decide,by decide⟩
 | _=>exact absurd (show false=true from f) zG9
theorem zBQ {K:PySem.W.Frag} {H:Hp} {x:V} {T:String} (h:y4 K H x T):PySem.W.kitAny K (.type T) [.type "list",.type "tuple"]=some (T == "list" || T == "tuple"):=by
 cases h <;> rfl
section
variable {P:Program} {w:World} {K:PySem.W.Frag} {mg:Str->Option Value} {base:Heap} {C:Addr}
theorem b8:zN ["_law_found","_law_due"] ["_law_found","_law_due"] (zG qG):=⟨rfl,rfl,rfl,by decide +kernel,rfl,by decide +kernel,by decide +kernel⟩
noncomputable def zCC:Nat->Sp
 | 0=>fun _ _ _ _=>False
 | n + 1=>fun vs H Q _=>∃ (u v:V),vs=[u,v]/\Alk H n u v/\∀ H',zD [] H H'->Q (.bl true) H'
theorem zAO {K:PySem.W.Frag} {H:Hp} {a b:Addr} {us vs:List V} (h:(H a=some (.lst us)/\H b=some (.lst vs)) \/ (H a=some (.tup us)/\H b=some (.tup vs))):zBA K (.ref a) H us.length/\zBA K (.ref b) H vs.length:=by
 rcases h with ⟨h1,h2⟩ | ⟨h1,h2⟩
 ·exact ⟨.inl ⟨_,.of h1,rfl⟩,.inl ⟨_,.of h2,rfl⟩⟩
 ·exact ⟨.inr ⟨_,.of h1,rfl⟩,.inr ⟨_,.of h2,rfl⟩⟩
theorem zB1 {K:PySem.W.Frag} {H:Hp} {a b:Addr} {us vs:List V} (h:(H a=some (.lst us)/\H b=some (.lst vs)) \/ (H a=some (.tup us)/\H b=some (.tup vs))):∃ T,y4 K H (.ref a) T/\y4 K H (.ref b) T/\(T="list" \/ T="tuple"):=by
 rcases h with ⟨h1,h2⟩ | ⟨h1,h2⟩
 ·exact ⟨_,.lst h1,.lst h2,.inl rfl⟩
 ·exact ⟨_,.tup h1,.tup h2,.inr rfl⟩
theorem mG {H H':Hp} {a b:Addr} {us vs:List V} (k:zD [] H H') (h:(H a=some (.lst us)/\H b=some (.lst vs)) \/ (H a=some (.tup us)/\H b=some (.tup vs))):(H' a=some (.lst us)/\H' b=some (.lst vs)) \/ (H' a=some (.tup us)/\H' b=some (.tup vs)):=
 h.elim (fun z=>.inl ⟨k _ _ (by simp) z.1,k _ _ (by simp) z.2⟩) (fun z=>.inr ⟨k _ _ (by simp) z.1,k _ _ (by simp) z.2⟩)
theorem iA (G:y0 K mg "_law_alike" qG ["_law_found","_law_due"]) (b_isinstance:Blt mg "isinstance") (b_list:Blt mg "list") (b_tuple:Blt mg "tuple") (b_bool:Blt mg "bool") (b_len:Blt mg "len") (b_all:Blt mg "all") (b_range:Blt mg "range") :
  ∀ n,Cal P w K mg base CX0 n "_law_alike" ["_law_found","_law_due"] (zCC n)
 | 0=>by
  obtain ⟨f,fd,F,hm,hb⟩:=G.ex
  exact ⟨f,fd,⟨fun _ _ _ _ h=>h.elim,fun _ _ _ _ _ _ _ _ _ _ _ _ _ h=>h.elim⟩,hm,F.kp,hb⟩
 | n + 1=>by
  have CA:=iA G b_isinstance b_list b_tuple b_bool b_len b_all b_range n
  refine G.ok b8 (fun vs H Q E h=>by obtain ⟨u,v,rfl,_⟩:=h;rfl) (fun f cdv A outer s0 H vs Q E hr h=>?_)
  obtain ⟨u,v,rfl,hA,q⟩:=h
  refine ⟨_,(zE (yC (xV (yE nL b_isinstance yM (zA (pv 1) (zA (yD (zA (v7 b_list vG) (zA (v7 b_tuple pD) zC))) zC)))) (zE (yC (PW.pt (pL (zS mP (yE y3 b_isinstance yM (zA (pv 1) (zA (v7 b_list vG) zC))) (yE y3 b_isinstance yM (zA (pv 0) (zA (v7 b_list vG) zC))) (zV _)) (sS (zS mP (yE y3 b_isinstance yM (zA (pv 1) (zA (v7 b_tuple pD) zC))) (yE y3 b_isinstance yM (zA (pv 0) (zA (v7 b_tuple pD) zC))) (zV _))))) (zF (zL wT)) zT)
   (zE (yC (zS mP (yE yK b_len xB (zA (pv 0) zC)) (yE yK b_len xB (zA (pv 1) zC)) (zV _)) (zF (zL wT)) zT)
   (zF (zL (yE (sI rfl) b_all nM (zA (vT (N:=["_law_found","_law_due"]) (sc:=zG qG) (ix:=[0,1]) (by decide +kernel) (wR rfl b_range.no (zA (yE yK b_len xB (zA (pv 1) zC)) zC)) (fun _ _ _ _=>xM) (fun _ _ _ _=>(zQ CA hr (zA (zU (zW.or zY) (pv 1) (pv 0) (fun _ _=>rfl)) (zA (zU (zW.or zY) (pv 2) (pv 0) (fun _ _=>rfl)) zC))))) zC)))))) zT)
   (zF (zL (tR (wD xO (yE y3 b_isinstance yM (zA (pv 0) (zA (v7 b_bool qC) zC))) (yE y3 b_isinstance yM (zA (pv 1) (zA (v7 b_bool qC) zC))) (zV _)) (tQ (wD xO (pv 0) (pv 1) (zV _))))))),?_⟩
  have hA':(u=v/\y1 u=true) \/ ∃ (a b:Addr) (us vs:List V) (m:Nat),u=.ref a/\v=.ref b/\((H a=some (.lst us)/\H b=some (.lst vs)) \/ (H a=some (.tup us)/\H b=some (.tup vs)))/\n=m + 1/\Paired (Alk H m) us vs/\us.length <= 2000:=by
   cases n with
   | zero=>exact .inl hA
   | succ m=>
    rcases hA with h | ⟨a,b,us,vs,e1,e2,hh,hp,hl⟩
    ·exact .inl h
    ·exact .inr ⟨a,b,us,vs,m,e1,e2,hh,rfl,hp,hl⟩
  rcases hA' with ⟨rfl,fu⟩ | ⟨a,b,us,vs,m,rfl,rfl,hh,rfl,hp,hl⟩
  ·obtain ⟨T,pt,n1,n2⟩:=kS (K:=K) (H:=H) fu
   have sc:fT u u=true:=by
    cases u <;> first | rfl | exact absurd (show false=true from fu) zG9
   refine ⟨_,rfl,by show 2 <= sizeLine;decide,fun t ht=>?_⟩
   have k1:zD [] H (upd H t (.tup [.ty "list",.ty "tuple"])):=zD.new ht
   refine ⟨_,T,t,["list","tuple"],_,rfl,pt.keep k1,zB,zBQ (pt.keep k1),_,rfl,?_⟩
   refine ifF (by simp [n1,n2]) ?_
   have kt:=(pt.keep k1).kit.2.2.1
   refine ⟨_,rfl,_,_,_,_,rfl,(pt.keep k1).ty,kt,_,rfl,_,_,_,_,rfl,(pt.keep k1).ty,kt,rfl,_,rfl,?_⟩
   refine ifT (by simp) ⟨_,rfl,_,rfl,sc,?_⟩
   rw [zGW rfl]
   exact q _ k1
  ·have hlen:=zP hp
   refine ⟨_,rfl,by show 2 <= sizeLine;decide,fun t ht=>?_⟩
   have k1:zD [] H (upd H t (.tup [.ty "list",.ty "tuple"])):=zD.new ht
   generalize hH1:upd H t (.tup [.ty "list",.ty "tuple"])=H1 at k1 ⊢
   have hh1:=mG k1 hh
   obtain ⟨T,pa,pb,hT⟩:=zB1 (K:=K) hh1
   refine ⟨_,T,t,["list","tuple"],_,rfl,pb,by rw [<- hH1];exact zB,zBQ pb,_,rfl,?_⟩
   refine ifT (by rcases hT with h | h <;> rw [h] <;> rfl) ?_
   refine ⟨_,rfl,_,_,_,_,rfl,pb.ty,pb.kit.2.2.2.1,_,rfl,_,_,_,_,rfl,pa.ty,pa.kit.2.2.2.1,rfl,_,rfl,?_⟩
   refine ifF (by simp) ?_
   refine ⟨_,rfl,_,_,_,_,rfl,pb.ty,pb.kit.2.2.2.2,_,rfl,_,_,_,_,rfl,pa.ty,pa.kit.2.2.2.2,rfl,_,rfl,?_⟩
   refine ifF (by simp) ?_
   obtain ⟨l1,l2⟩:=zAO (K:=K) hh1
   refine ⟨_,rfl,_,_,rfl,l1,_,rfl,_,_,rfl,l2,rfl,_,rfl,?_⟩
   refine ifF (by rw [hlen];simp) ?_
   refine ⟨_,rfl,_,_,rfl,l2,_,rfl,by omega,by omega,fun acc hacc=>?_⟩
   refine tE (by rw [sizeLine_eq];omega) (fun i ys τ H2=>∃ (k:Option V),τ=[k,some (.ref a),some (.ref b)]/\ys=List.replicate i (V.bl true)/\zD [acc] H1 H2/\H2 acc=some (.lst ys)) ?_ ?_ ?_ ?_
   ·exact ⟨_,rfl,rfl,zD.at (by simp),zB⟩
   ·rintro i ys τ H2 ⟨k,rfl,rfl,kp,h2⟩
    exact ⟨h2,by simp⟩
   ·rintro i ys τ H2 hi ⟨k,rfl,rfl,kp,h2⟩
    have hi':i < vs.length:=by omega
    have hi2:i < us.length:=by omega
    have k2:zD [] H1 H2:=kp.drop hacc
    have hh2:=mG k2 hh1
    obtain ⟨y,ey,ay⟩:=xJ hp i us[i] (zGI hi2)
    have ix1:∀ {p:Addr} {zs:List V} {x:V} {Q:VK},zs[i]?=some x->(H2 p=some (.lst zs) \/ H2 p=some (.tup zs))->Q x H2->(eB (.ref p) (.int (0 + (i:Int))) H2 Q \/ f9 (.ref p) (.int (0 + (i:Int))) H2 Q):=fun {p zs x Q} e1 e2 e3=>by
     have e4:atI zs (0 + (i:Int))=some x:=by rw [Int.zero_add];exact uR e1
     exact e2.elim (fun z=>.inl ⟨p,zs,_,x,rfl,rfl,z,e4,e3⟩) (fun z=>.inr ⟨p,zs,_,x,rfl,rfl,z,e4,e3⟩)
    refine ⟨_,rfl,_,rfl,ix1 (zGI hi2) (hh2.imp (·.1) (·.1)) ⟨_,rfl,_,rfl,ix1 ey (hh2.imp (·.2) (·.2)) ?_⟩⟩
    refine ⟨us[i],y,rfl,Alk.keep (k1.trans k2) m ay,fun H3 k3=>⟨k3 _ _ (by simp) h2,_,rfl,?_,(kp.trans (k3.mono (by simp))).trans (zD.at (by simp)),zB⟩⟩
    rw [List.replicate_succ']
   ·rintro ys τ H2 ⟨k,rfl,rfl,kp,h2⟩
    refine ⟨acc,List.replicate _ true,rfl,.of (by rw [h2,List.map_replicate]),?_⟩
    have e:(List.replicate ((vs.length:Nat):Int).toNat true).all id=true:=by simp
    rw [e]
    exact q _ (k1.trans (kp.drop hacc))
end
abbrev j5:Stmt:=top 27
abbrev oR:Stmt:=top 28
abbrev rX:Stmt:=top 29
abbrev jS:Stmt:=top 30
abbrev sR:Stmt:=top 31
def Src (H:Hp) (p:Addr):Prop:=∃ a b c:Int,H p=some (.lst [.int a,.int b,.int c])
def sN (z:Str):Prop:=∀ c ∈ z.cps.toList,vO c=true
theorem zA7:∀ c ∈ abc.cps.toList,vO c=true:=by decide +kernel
theorem zAM {x y:Str} (h1:sN x) (h2:sN y):sN (x ++ y):=by
 intro c hc
 have e:(x ++ y).cps.toList=x.cps.toList ++ y.cps.toList:=by
  show (x.cps ++ y.cps).toList=_
  simp
 rw [e] at hc
 exact (zGY.mp hc).elim (h1 c) (h2 c)
theorem iC {ch:Nat} (h:ch ∈ abc.cps.toList):sN ⟨#[ch]⟩:=fun c hc=>by
 have e:c=ch:=by simpa using hc
 rw [e];exact zA7 ch h
theorem hU {x:Str} (h:sN x) (lo hi:Option Int):sN (Txt.slice x lo hi):=by
 intro c hc
 unfold Txt.slice at hc
 split at hc
 ·exact h c hc
 ·simp only [List.mem_filterMap] at hc
  obtain ⟨i,_,e⟩:=hc
  exact h c (by
   rw [<- Array.getElem?_toList] at e
   exact zGL e)
theorem m4:∀ (zs:List Str) (acc:Array Nat),(∀ c ∈ acc.toList,vO c=true)->(∀ z ∈ zs,sN z)->∀ c ∈ (zs.foldl (fun acc p=>acc ++ (Str.ofString "").cps ++ p.cps) acc).toList,vO c=true
 | [],acc,h,_=>h
 | z :: zs,acc,h,hz=>by
  rw [List.foldl_cons]
  refine m4 zs _ (fun c hc=>?_) fun y hy=>hz y (zGU _ hy)
  have hc':c ∈ acc.toList ++ (Str.ofString "").cps.toList ++ z.cps.toList:=by simpa using hc
  rcases zGY.mp hc' with q | q
  ·rcases zGY.mp q with q | q
   ·exact h c q
   ·exact absurd q (by show ¬ c ∈ ([]:List Nat);simp)
  ·exact hz z zHA c q
theorem dQ (zs:List Str) (h:∀ z ∈ zs,sN z):sN (Txt.join (Str.ofString "") zs):=by
 cases zs with
 | nil=>intro c hc;exact absurd hc (by show ¬ c ∈ ([]:List Nat);simp)
 | cons z zs=>
  show ∀ c ∈ ((zs.foldl (fun acc p=>acc ++ (Str.ofString "").cps ++ p.cps) z.cps)).toList,vO c=true
  exact m4 zs _ (h z zHA) fun y hy=>h y (zGU _ hy)
theorem zAG {z:Str} (h:sN z) (h1:1 <= z.length) (h2:z.length <= 8):vM z=true:=by
 unfold vM
 rw [zGW h1,zGW h2]
 simp only [Bool.true_and]
 exact List.all_eq_true.mpr h
section
variable {P:Program} {w:World} {K:PySem.W.Frag} {mg:Str->Option Value} {base:Heap} {C:Addr}
def oF:Sp:=fun vs H Q _=>∃ a k,vs=[.int a,.int k]/\∀ v:Int,0 <= v->v < 2147483629->Q (.int v) H
theorem rU:zN ["_law_cell","_law_k","_law_number"] ["_law_cell","_law_k"] (zG oR):=⟨rfl,rfl,rfl,by decide +kernel,rfl,by decide +kernel,by decide +kernel⟩
theorem zAC (G:y0 K mg "_law_mixed" oR ["_law_cell","_law_k"]):Cal P w K mg base CX0 1 "_law_mixed" ["_law_cell","_law_k"] oF:=by
 refine G.ok rU (fun vs H Q E h=>by obtain ⟨a,k,rfl,_⟩:=h;rfl) (fun f cdv A outer s H vs Q E hr h=>?_)
 obtain ⟨a,k,rfl,q⟩:=h
 refine ⟨_,zE (yF (i:=2) rU.nd rfl (Or.inl rfl) (yU uM (yU sU (yU wZ (yU wZ (yU uM (pv 0) zI) (yU sU zI (pv 1))) zI) zI) zI))
  (zE (yF (i:=2) rU.nd rfl (Or.inl rfl) (yU uM (yU sU (pv 2) (yU wZ (yU rZ (pv 2) zI) zI)) zI))
  (zE (yF (i:=2) rU.nd rfl (Or.inl rfl) (yU uM (yU sU (pv 2) (yU wZ (yU wZ (yU rZ (pv 2) zI) zI) (pv 1))) zI))
  (zF (zL (yU uM (yU sU (pv 2) (yU wZ (yU rZ (pv 2) zI) zI)) zI))))),?_⟩
 simp [pF,nX,fF,tOp,rI,rI0,uX,tC,wK,L2.start,g7,zBB]
 refine ⟨by omega,by omega,by omega,q _ (by omega) (by omega)⟩
def qF:Sp:=fun vs H Q _=>∃ a,vs=[.int a]/\∀ (p:Addr) (b c d:Int),H p=none->Q (.ref p) (upd H p (.lst [.int b,.int c,.int d]))
theorem fW:zN ["_law_cell"] ["_law_cell"] (zG rX):=⟨rfl,rfl,rfl,by decide +kernel,rfl,by decide +kernel,by decide +kernel⟩
theorem dC (G:y0 K mg "_law_digits" rX ["_law_cell"]):Cal P w K mg base CX0 1 "_law_digits" ["_law_cell"] qF:=by
 refine G.ok fW (fun vs H Q E h=>by obtain ⟨a,rfl,_⟩:=h;rfl) (fun f cdv A outer s H vs Q E hr h=>?_)
 obtain ⟨a,rfl,q⟩:=h
 refine ⟨_,zF (zL (yZ (zA (yU sU (yU rZ (pv 0) zI) (yU zCZ zI (yU uM (pv 0) zI))) (zA (pv 0) (zA zI zC))))),?_⟩
 simp [pF,nX,fF,tOp,rI,rI0,uX,tC,wK,L2.start,g7,zBB,bO,t3,nV]
 refine ⟨by omega,iS (by decide) |> Nat.le_of_lt,fun p hp=>q p _ _ _ hp⟩
def oE:Sp:=fun vs H Q _=>∃ (p:Addr) (a b c m:Int),vs=[.ref p,.int m]/\H p=some (.lst [.int a,.int b,.int c])/\0 < m/\m < 4611686018427387904 /\
 ∀ v a' c':Int,0 <= v->v < m->Q (.int v) (upd H p (.lst [.int a',.int b,.int c']))
theorem fU:zN ["_law_source","_law_many","_law_found"] ["_law_source","_law_many"] (zG jS):=⟨rfl,rfl,rfl,by decide +kernel,rfl,by decide +kernel,by decide +kernel⟩
theorem zC7 (G:y0 K mg "_law_next" jS ["_law_source","_law_many"]) (CM:Cal P w K mg base CX0 1 "_law_mixed" ["_law_cell","_law_k"] oF):Cal P w K mg base CX0 2 "_law_next" ["_law_source","_law_many"] oE:=by
 refine G.ok fU (fun vs H Q E h=>by obtain ⟨p,a,b,c,m,rfl,_⟩:=h;rfl) (fun f cdv A outer s H vs Q E hr h=>?_)
 obtain ⟨p,a,b,c,m,rfl,hp,m0,m1,q⟩:=h
 refine ⟨_,zE (yC (zS eZ (zU zW (pv 0) zI (fun _ _=>rfl)) zI (zV _))
   (zE (yF (i:=2) fU.nd rfl (Or.inl rfl) (yU uM (zU zW (pv 0) zI (fun _ _=>rfl)) (pv 1)))
   (zE (tP (yU dA (zU zW (pv 0) zI (fun _ _=>rfl)) (pv 1)) (eR (pv 0) zI n9))
   (zF (zL (pv 2))))) zT)
  (zE (tP (yU wZ (zU zW (pv 0) zI (fun _ _=>rfl)) zI) (eR (pv 0) zI n9))
  (zF (zL (yU uM (zQ CM hr (zA (zU zW (pv 0) zI (fun _ _=>rfl)) (zA (zU zW (pv 0) zI (fun _ _=>rfl)) zC))) (pv 1))))),?_⟩
 simp [pF,nX,fF,tOp,rI,rI0,uX,tC,wK,L2.start,g7,zBB,bO,t3,nV,zD5,fE,fH,zF5,eB,zBK,fK,oF,hp,atI,ixN,zB,vZ]
 refine gD (fun h1=>⟨m0,⟨m0,m1⟩,q _ _ _ (Int.emod_nonneg _ (by omega)) (Int.emod_lt_of_pos _ m0)⟩) (fun h1 v v0 v1=>⟨m0,q _ _ _ (Int.emod_nonneg _ (by omega)) (Int.emod_lt_of_pos _ m0)⟩)
theorem zCO:zN ["_law_script","_law_k"] ["_law_script","_law_k"] (zG j5):=⟨rfl,rfl,rfl,by decide +kernel,rfl,by decide +kernel,by decide +kernel⟩
def fQ (K:PySem.W.Frag):Sp:=fun vs H Q _=>∃ (a:Addr) (ns:List Int) (k:Int),vs=[.ref a,.int k]/\SqL K H a (ns.map V.int)/\0 <= k/\∀ v:Int,Q (.int v) H
theorem zDG (G:y0 K mg "_law_cell_at" j5 ["_law_script","_law_k"]) (b_len:Blt mg "len"):Cal P w K mg base CX0 1 "_law_cell_at" ["_law_script","_law_k"] (fQ K):=by
 refine G.ok zCO (fun vs H Q E h=>by obtain ⟨a,ns,k,rfl,_⟩:=h;rfl) (fun f cdv A outer s0 H vs Q E hr h=>?_)
 obtain ⟨a,ns,k,rfl,hS,k0,q⟩:=h
 refine ⟨_,(zE (yC (zS zBO (pv 1) (yE yK b_len xB (zA (pv 0) zC)) (zV _)) (zF (zL (zU iE (pv 0) (pv 1) (fun _ _=>rfl)))) zT)
   (zF (zL zI))),?_⟩
 refine ⟨_,rfl,_,rfl,_,_,rfl,.inl ⟨_,hS,rfl⟩,_,_,rfl,rfl,_,rfl,?_⟩
 refine gD (fun h1=>?_) (fun h1=>q 0)
 have h1':=of_decide_eq_true h1
 obtain ⟨v,e1,e2⟩:=tX k0 h1'
 rw [zGN] at e2
 cases hz:ns[k.toNat]? with
 | none=>rw [hz] at e2;cases e2
 | some z=>
  rw [hz] at e2
  have e3:V.int z=v:=zGO e2
  subst e3
  exact ⟨_,rfl,_,rfl,a,_,k,_,rfl,rfl,hS,e1,q z⟩
theorem rT:zN ["_law_source","_law_many","_law_letters","_law_start","_law_stem"] ["_law_source","_law_many"] (zG sR):=⟨rfl,rfl,rfl,by decide +kernel,rfl,by decide +kernel,by decide +kernel⟩
theorem lT {xs:List Str} {te:TE} {n:Nat} {σ:St} {H1:Hp} {Q:VK} {acc p:Addr} {ix:List Nat} {rest:List (Option V)} (hn:n <= 100) (hs:Src H1 p) (ha:H1 acc=none)
  (hσ:stC xs ix σ=none :: rest)
  (ht:∀ (k:V) (H2:Hp) (R:VK),Src H2 p->(∀ (ch:Nat) (H3:Hp),ch ∈ abc.cps.toList->zD [p] H2 H3->Src H3 p->R (.str ⟨#[ch]⟩) H3)->te (some k :: rest) H2 R)
  (q:∀ (zs:List Str) (H2:Hp),zs.length=n->(∀ z ∈ zs,sN z/\z.length=1)->zD [p] H1 H2->Src H2 p->H2 acc=some (.lst (zs.map V.str))->Q (.ref acc) H2) :
  LCW (Itr 0 n) xs ix (wK 0) tM te σ H1 acc Q:=by
 have pa:acc ≠ p:=by
  obtain ⟨a,b,c,h⟩:=hs
  exact Ne.symm (zH h ha)
 refine tE (by rw [sizeLine_eq];omega) (fun i ys τ H2=>∃ (zs:List Str) (k:Option V),τ=k :: rest/\ys=zs.map V.str/\zs.length=i/\(∀ z ∈ zs,sN z/\z.length=1)/\zD [acc,p] H1 H2/\Src H2 p/\H2 acc=some (.lst ys)) ?_ ?_ ?_ ?_
 ·obtain ⟨a,b,c,h⟩:=hs
  exact ⟨[],none,hσ,rfl,rfl,(fun z hz=>by cases hz),zD.at (by simp),⟨a,b,c,by rw [zJ (Ne.symm pa)];exact h⟩,zB⟩
 ·rintro i ys τ H2 ⟨zs,k,rfl,rfl,hl,_,_,_,h2⟩
  exact ⟨h2,by rw [zGH];omega⟩
 ·rintro i ys τ H2 hi ⟨zs,k,rfl,rfl,hl,h1,kp,hs2,h2⟩
  refine ht _ H2 _ hs2 fun ch H3 hc k3 hz81=>?_
  obtain ⟨a,b,c,hs3⟩:=hz81
  refine ⟨k3 _ _ (by simp [pa]) h2,zs ++ [⟨#[ch]⟩],_,rfl,by simp,by simp [hl],?_,(kp.trans (k3.mono (by simp))).trans (zD.at (by simp)),⟨a,b,c,by rw [zJ (Ne.symm pa)];exact hs3⟩,zB⟩
  intro z hz
  rcases zGY.mp hz with z1 | z1
  ·exact h1 z z1
  ·rw [zGK.mp z1];exact ⟨iC hc,rfl⟩
 ·rintro ys τ H2 ⟨zs,k,rfl,rfl,hl,h1,kp,hs2,h2⟩
  exact q zs H2 hl h1 (kp.drop ha) hs2 h2
theorem jI (zs:List Str) (h:∀ z ∈ zs,sN z/\z.length=1):(zs.map (·.length)).sum=zs.length:=nY zs fun z hz=>(h z hz).2
def xE (z:Str):Prop:=vM z=true/\z.length <= 8
def p9 (st:Int) (ws:List Str):Prop:=∀ (j:Nat) (z:Str),ws[j]?=some z->z.cps.toList.getLast?=abc.cps.toList[((st + (0 + (j:Int))) % 26).toNat]?
theorem p9.snoc {st:Int} {ws:List Str} {x:Str} {ch:Nat} (h:p9 st ws) (e:abc.cps.toList[((st + (0 + (ws.length:Int))) % 26).toNat]?=some ch):p9 st (ws ++ [x ++ ⟨#[ch]⟩]):=by
 intro j z hj
 by_cases jl:j < ws.length
 ·rw [zG5 jl] at hj
  exact h j z hj
 ·rw [zG4 (by omega)] at hj
  have j0:j=ws.length:=by
   have:=(zGJ.mp hj).1
   simp at this;omega
  subst j0
  rw [Nat.sub_self] at hj
  have ez:x ++ (⟨#[ch]⟩:Str)=z:=zGO hj
  rw [<- ez,e]
  show (x.cps ++ #[ch]).toList.getLast?=_
  simp
theorem p7:abc.cps.toList.Nodup/\abc.cps.toList.length=26:=by decide +kernel
theorem p9.nodup {st:Int} {ws:List Str} (h:p9 st ws) (hl:ws.length <= 26):ws.Nodup:=by
 rw [List.nodup_iff_pairwise_ne,List.pairwise_iff_getElem]
 intro i j hi hj hij e
 have a:=h i _ (zGI hi)
 have b:=h j _ (zGI hj)
 rw [e] at a
 have c:=a.symm.trans b
 have ri:((st + (0 + (i:Int))) % 26).toNat < abc.cps.toList.length:=by rw [p7.2];omega
 have:=(List.getElem?_inj ri p7.1).mp c
 omega
def jM:Sp:=fun vs H Q _=>∃ (p:Addr) (m:Int),vs=[.ref p,.int m]/\Src H p/\0 <= m/\m <= 26 /\
 ∀ (r:Addr) (zs:List Str) (H':Hp),H r=none->H' r=some (.lst (zs.map V.str))->zs.length=m.toNat->(∀ z ∈ zs,xE z)->zs.Nodup->zD [p] H H'->Src H' p->Q (.ref r) H'
theorem zAA (G:y0 K mg "_law_names" sR ["_law_source","_law_many"]) (CN:Cal P w K mg base CX0 2 "_law_next" ["_law_source","_law_many"] oE) (b_range:Blt mg "range"):Cal P w K mg base CX0 3 "_law_names" ["_law_source","_law_many"] jM:=by
 refine G.ok rT (fun vs H Q E h=>by obtain ⟨p,m,rfl,_⟩:=h;rfl) (fun f cdv A outer s0 H vs Q E hr h=>?_)
 obtain ⟨p,m,rfl,⟨a,b,c,hp⟩,m0,m1,q⟩:=h
 have hr2:yB 2 _:=hr.mono (by decide)
 refine ⟨_,(zE (yF (i:=2) rT.nd rfl (Or.inr rfl) zO)
   (zE (yF (i:=3) rT.nd rfl (Or.inr rfl) (zQ CN hr2 (zA (pv 0) (zA zI zC))))
   (zE (yF (i:=4) rT.nd rfl (Or.inr rfl) (vL PySem.F.plainAttrs_str PySem.F.slot_str_join PySem.F.type_str_join zAI zO (zA (vT (N:=["_law_source","_law_many","_law_letters","_law_start","_law_stem"]) (sc:=zG sR) (ix:=[2,0]) (by decide +kernel) (wR rfl b_range.no (zA zI zC)) (fun _ _ _ _=>xM) (fun _ _ _ _=>(zU cB (pv 1) (zQ CN hr2 (zA (pv 2) (zA zI zC))) (fun _ _=>rfl)))) zC)))
   (zF (zL (vT (N:=["_law_source","_law_many","_law_letters","_law_start","_law_stem"]) (sc:=zG sR) (ix:=[4,2,0,3]) (by decide +kernel) (wR rfl b_range.no (zA (pv 1) zC)) (fun _ _ _ _=>xM) (fun _ _ _ _=>(yU kH (wY zCE (pv 1) uJ (wX (zQ CN hr2 (zA (pv 3) (zA zI zC))))) (zU cB (pv 2) (yU uM (yU wZ (pv 4) (pv 0)) zI) (fun _ _=>rfl)))))))))),?_⟩
 refine ⟨_,rfl,p,a,b,c,26,rfl,hp,by decide,by decide,fun st a1 c1 st0 st1=>?_⟩
 have k1:zD [p] H (upd H p (.lst [.int a1,.int b,.int c1])):=zD.at (by simp)
 generalize hH1:upd H p (.lst [.int a1,.int b,.int c1])=H1 at k1 ⊢
 have s1:Src H1 p:=⟨a1,b,c1,by rw [<- hH1];exact zB⟩
 refine ⟨rfl,7,rfl,by decide,by decide,fun acc ha=>?_⟩
 refine lT (p:=p) (by decide) s1 ha rfl (fun k H2 R ⟨a2,b2,c2,hs⟩ R'=>?_) ?_
 ·refine ⟨_,rfl,_,rfl,p,a2,b2,c2,26,rfl,hs,by decide,by decide,fun v2 a3 c3 w0 w1=>?_⟩
  obtain ⟨ch,hc1,hc2⟩:=tX (xs:=abc.cps.toList) w0 (show v2 < ((26:Nat):Int) from w1)
  exact ⟨_,v2,ch,rfl,rfl,by decide,hc1,R' ch _ (zGL hc2) (zD.at (by simp)) ⟨a3,b2,c3,zB⟩⟩
 intro zs H2 hzl hz k2 s2 h2
 refine ⟨"",acc,zs,rfl,rfl,.of h2,by rw [jI zs hz,hzl];decide,?_⟩
 have hstem:sN (Txt.join (Str.ofString "") zs):=dQ zs fun z h=>(hz z h).1
 have lstem:(Txt.join (Str.ofString "") zs).length=7:=by rw [cA,jI zs hz,hzl];rfl
 generalize Txt.join (Str.ofString "") zs=stem at hstem lstem ⊢
 refine ⟨_,rfl,m,rfl,by omega,by omega,fun acc2 ha2=>?_⟩
 have pa:acc2 ≠ p:=by
  obtain ⟨x,y,z,h⟩:=s2
  exact Ne.symm (zH h ha2)
 have na:H acc2=none:=k1.none (by simp [pa]) (k2.none (by simp [pa]) ha2)
 refine tE (by rw [sizeLine_eq];omega) (fun i ys τ H3=>∃ (ws:List Str) (k:Option V),τ=k :: [some (.str stem),some (.str abc),some (.ref p),some (.int st)]/\ys=ws.map V.str/\ws.length=i/\(∀ z ∈ ws,xE z)/\p9 st ws/\zD [acc2,p] H2 H3/\Src H3 p/\H3 acc2=some (.lst ys)) ?_ ?_ ?_ ?_
 ·obtain ⟨x,y,z,h⟩:=s2
  exact ⟨[],none,rfl,rfl,rfl,(fun z hz=>by cases hz),(fun j z e=>by simp at e),zD.at (by simp),⟨x,y,z,by rw [zJ (Ne.symm pa)];exact h⟩,zB⟩
 ·rintro i ys τ H3 ⟨ws,k,rfl,rfl,hl,_,_,_,_,h3⟩
  exact ⟨h3,by rw [zGH];omega⟩
 ·rintro i ys τ H3 hi ⟨ws,k,rfl,rfl,hl,h1,hla,kp,⟨a2,b2,c2,hs⟩,h3⟩
  refine ⟨_,rfl,_,rfl,p,a2,b2,c2,8,rfl,hs,by decide,by decide,fun v a3 c3 v0 v1=>⟨v,rfl,stem,rfl,by rw [lstem,sizeLine_eq];decide,?_⟩⟩
  refine ⟨_,rfl,_,rfl,_,rfl,_,_,rfl,rfl,_,_,rfl,rfl,(by show (0:Int) < 26;decide),?_⟩
  have g0:0 <= (st + (0 + (i:Int))) % 26:=Int.emod_nonneg _ (by decide)
  have g1:(st + (0 + (i:Int))) % 26 < 26:=Int.emod_lt_of_pos _ (by decide)
  obtain ⟨ch,hc1,hc2⟩:=tX (xs:=abc.cps.toList) g0 (show (st + (0 + (i:Int))) % 26 < ((26:Nat):Int) from g1)
  have e1:=Txt.slice_le stem none (some v)
  refine ⟨_,_,ch,rfl,rfl,by decide,hc1,_,_,rfl,rfl,by rw [sizeLine_eq];show _ + 1 <= _;omega,?_⟩
  refine ⟨by rw [zJ pa];exact h3,ws ++ [Txt.slice stem none (some v) ++ ⟨#[ch]⟩],_,rfl,by simp,by simp [hl],?_,hla.snoc (by rw [hl];exact hc2),(kp.trans (zD.at (by simp))).trans (zD.at (by simp)),⟨a3,b2,c3,by rw [zJ (Ne.symm pa),zB]⟩,zB⟩
  intro z hz
  rcases zGY.mp hz with z1 | z1
  ·exact h1 z z1
  ·rw [zGK.mp z1]
   have el:(Txt.slice stem none (some v) ++ (⟨#[ch]⟩:Str)).length=(Txt.slice stem none (some v)).length + 1:=by rw [zAP];rfl
   exact ⟨zAG (zAM (hU hstem _ _) (iC (zGL hc2))) (by omega) (by omega),by omega⟩
 ·rintro ys τ H3 ⟨ws,k,rfl,rfl,hl,h1,hla,kp,hs3,h3⟩
  exact q acc2 ws H3 na h3 hl h1 (hla.nodup (by omega)) ((k1.trans k2).trans (kp.drop ha2)) hs3
end
abbrev oP:Stmt:=top 13
abbrev mF:Stmt:=top 14
abbrev b9:Stmt:=top 15
abbrev sNb:Stmt:=top 21
abbrev fZ:Stmt:=top 22
theorem pT (zs:List Str):(zs.map V.str).all y1=true:=by
 rw [List.all_map,List.all_eq_true];exact fun _ _=>rfl
theorem dM {zs:List Str} (h:qT zs=zs.length):zs.Nodup:=by
 have go:∀ (val:Nat->Str) (n:Nat),(w8 val n).length=n->∀ i j,i < j->j < n->val i ≠ val j:=by
  intro val n
  induction n with
  | zero=>intro _ i j _ hj;omega
  | succ n ih=>
   intro hl i j hij hj e
   rw [sE] at hl
   have le:=r6 val n
   have any:∀ (m:Nat) (k:Str) (a:Nat),a < m->val a=k->(w8 val m).any (· == k)=true:=by
    intro m
    induction m with
    | zero=>intro k a ha;omega
    | succ m im=>
     intro k a ha ek
     rw [qR]
     by_cases ea:a=m
     ·subst ea;rw [ek];simp
     ·rw [im k a (by omega) ek];rfl
   cases c:(w8 val n).any (· == val n) with
   | true=>rw [c] at hl;simp only [if_true] at hl;omega
   | false=>
    rw [c] at hl
    simp only [Bool.false_eq_true,if_false] at hl
    by_cases ej:j=n
    ·subst ej
     rw [any j (val j) i hij e] at c
     cases c
    ·exact ih (by omega) i j hij (by omega) e
 rw [List.nodup_iff_pairwise_ne,List.pairwise_iff_getElem]
 intro i j hi hj hij e
 refine go (fun i=>zs.getD i Str.empty) zs.length h i j hij hj ?_
 simp only [zGM,zGI hi,zGI hj,Option.getD_some]
 exact e
theorem hI (zs:List Str):decide (V.int ((qT zs:Nat):Int)=V.int (zs.length:Int))=decide zs.Nodup:=by
 by_cases h:zs.Nodup
 ·rw [m3 h];simp [h]
 ·rw [zGX h]
  refine zGX fun e=>h (dM ?_)
  have:=V.int.inj e
  omega
def bH (K:PySem.W.Frag) (H:Hp) (x:V):Prop:=(∃ T,y4 K H x T)/\∀ z,x=.str z->z.length <= 1000
theorem dG {x:V} (h:wJ x=true):∃ z,x=.str z/\vM z=true:=by
 cases x with
 | str z=>exact ⟨z,rfl,h⟩
 | _=>cases h
theorem qO:∀ {vs:List V},vs.all wJ=true->∃ zs:List Str,vs=zs.map V.str/\∀ z ∈ zs,vM z=true
 | [],_=>⟨[],rfl,fun z hz=>by cases hz⟩
 | v :: vs,h=>by
  rw [List.all_cons,Bool.and_eq_true] at h
  obtain ⟨z,rfl,hz⟩:=dG h.1
  obtain ⟨zs,rfl,hzs⟩:=qO h.2
  refine ⟨z :: zs,rfl,fun y hy=>?_⟩
  rcases List.mem_cons.mp hy with e | e
  ·rw [e];exact hz
  ·exact hzs y e
noncomputable def mT (x:V) (zs:List Str):Bool:=wJ x && inV x (zs.map V.str)
section
variable {P:Program} {w:World} {K:PySem.W.Frag} {mg:Str->Option Value} {base:Heap} {C:Addr}
theorem bZ:zN ["thing","houses"] ["thing","houses"] (zG oP):=⟨rfl,rfl,rfl,by decide +kernel,rfl,by decide +kernel,by decide +kernel⟩
theorem zCP:zN ["thing"] ["thing"] (zG mF):=⟨rfl,rfl,rfl,by decide +kernel,rfl,by decide +kernel,by decide +kernel⟩
theorem zES:zN ["names"] ["names"] (zG b9):=⟨rfl,rfl,rfl,by decide +kernel,rfl,by decide +kernel,by decide +kernel⟩
theorem scNb:zN ["thing","name"] ["thing","name"] (zG sNb):=⟨rfl,rfl,rfl,by decide +kernel,rfl,by decide +kernel,by decide +kernel⟩
theorem zE7:zN ["thing","neighbours"] ["thing","neighbours"] (zG fZ):=⟨rfl,rfl,rfl,by decide +kernel,rfl,by decide +kernel,by decide +kernel⟩
def lV (K:PySem.W.Frag):Sp:=fun vs H Q _=>∃ (x:V) (T:String) (a:Addr) (zs:List Str),vs=[x,.ref a]/\y4 K H x T/\(∀ z,x=.str z->z.length <= 1000)/\H a=some (.lst (zs.map V.str))/\∀ H',zD [] H H'->Q (.bl (mT x zs)) H'
theorem zC6 (G:y0 K mg "is_one_of" oP ["thing","houses"]) (CI:Cal P w K mg base CX0 1 "is_name" ["thing"] (tN K)):Cal P w K mg base CX0 2 "is_one_of" ["thing","houses"] (lV K):=by
 refine G.ok bZ (fun vs H Q E h=>by obtain ⟨x,T,a,zs,rfl,_⟩:=h;rfl) (fun f cdv A outer s H vs Q E hr h=>?_)
 obtain ⟨x,T,a,zs,rfl,pt,sz,ha,q⟩:=h
 have hr1:yB 1 _:=hr
 refine ⟨_,(zF (zL (tR (zQ CI hr1 (zA (pv 0) zC)) (tQ (wD pN (pv 0) (pv 1) (by with_unfolding_all rfl)))))),?_⟩
 refine ⟨_,rfl,x,T,rfl,pt,sz,fun H1 k1=>⟨_,rfl,?_⟩⟩
 cases e:wJ x with
 | false=>
  have:mT x zs=false:=by unfold mT;rw [e];rfl
  rw [this] at q
  exact ifF rfl (q H1 k1)
 | true=>
  cases x with
  | str z=>
   have:mT (.str z) zs=inV (.str z) (zs.map V.str):=by unfold mT;rw [e,Bool.true_and]
   rw [this] at q
   exact ifT rfl ⟨_,rfl,_,rfl,a,_,rfl,.inl (.of (k1 _ _ (by simp) ha)),rfl,pT zs,q H1 k1⟩
  | _=>cases e
def jB (K:PySem.W.Frag) (H:Hp) (x:V) (vs:Option (List V)):Prop:=match vs with
 | some l=>∃ a,x=.ref a/\H a=some (.lst l)/\(∀ v ∈ l,bH K H v)/\l.length <= 500
 | none=>∃ T,y4 K H x T/\T ≠ "list"
noncomputable def nC:Option (List V)->Bool
 | some l=>l.all wJ
 | none=>false
def fS (K:PySem.W.Frag):Sp:=fun vs H Q _=>∃ (x:V) (o:Option (List V)),vs=[x]/\jB K H x o/\∀ H',zD [] H H'->Q (.bl (nC o)) H'
theorem zDH (G:y0 K mg "are_names" mF ["thing"]) (CI:Cal P w K mg base CX0 1 "is_name" ["thing"] (tN K)) (b_isinstance:Blt mg "isinstance") (b_list:Blt mg "list") (b_all:Blt mg "all"):Cal P w K mg base CX0 2 "are_names" ["thing"] (fS K):=by
 refine G.ok zCP (fun vs H Q E h=>by obtain ⟨x,o,rfl,_⟩:=h;rfl) (fun f cdv A outer s H vs Q E hr h=>?_)
 obtain ⟨x,o,rfl,th,q⟩:=h
 have hr1:yB 1 _:=hr
 refine ⟨_,(zF (zL (tR (yE y3 b_isinstance yM (zA (pv 0) (zA (v7 b_list vG) zC))) (tQ (yE (sI rfl) b_all nM (zA (vT (N:=["thing"]) (sc:=zG mF) (ix:=[]) (by decide +kernel) (xN (pv 0)) (fun _ _ _ _=>xM) (fun _ _ _ _=>(zQ CI hr1 (zA (pv 0) zC)))) zC)))))),?_⟩
 cases o with
 | none=>
  obtain ⟨T,pt,nT⟩:=th
  have e:(T == "list")=false:=by simpa using nT
  exact ⟨_,rfl,_,_,_,false,rfl,pt.ty,(e ▸ pt.kit.2.2.2.1),_,rfl,ifF rfl (q H (zD.refl _))⟩
 | some l=>
  obtain ⟨a,rfl,ha,pl,ll⟩:=th
  have pt:y4 K H (.ref a) "list":=.lst ha
  refine ⟨_,rfl,_,_,_,_,rfl,pt.ty,pt.kit.2.2.2.1,_,rfl,ifT rfl ?_⟩
  refine ⟨_,rfl,a,rfl,⟨_,.of ha⟩,fun acc hacc=>?_⟩
  have aa:a ≠ acc:=zH ha hacc
  refine u5 (K:=K) (a:=a) (its:=l) (by rw [sizeLine_eq];omega) (fun i ys τ H1=>∃ k:Option V,τ=[k]/\ys=((l.take i).map wJ).map V.bl/\i <= l.length/\zD [acc] H H1/\H1 acc=some (.lst ys)) ?_ ?_ ?_ ?_
  ·exact ⟨_,rfl,rfl,zGR _,zD.at (by simp),zB⟩
  ·rintro i ys τ H1 ⟨k,rfl,rfl,il,kp,h1⟩
   exact ⟨h1,by simp;omega,.of (kp _ _ (by simp [aa]) ha)⟩
  ·rintro i ys τ H1 x hx ⟨k,rfl,rfl,il,kp,h1⟩
   obtain ⟨⟨T,p1⟩,sz⟩:=pl x (zGL hx)
   have il':i < l.length:=(zGJ.mp hx).1
   refine ⟨_,rfl,x,T,rfl,p1.keep (kp.drop hacc),sz,fun H2 k2=>⟨k2 _ _ (by simp) h1,_,rfl,?_,il',(kp.trans (k2.mono (by simp))).trans (zD.at (by simp)),zB⟩⟩
   rw [show l.take (i + 1)=l.take i ++ [x] by rw [List.take_add_one,hx];rfl,zGT,zGT];rfl
  ·rintro ys τ H1 ⟨k,rfl,rfl,_,kp,h1⟩
   rw [zHH] at h1
   refine ⟨acc,l.map wJ,rfl,.of h1,?_⟩
   rw [show (l.map wJ).all id=nC (some l) by rw [List.all_map];rfl]
   exact q _ (kp.drop hacc)
def zBD:Sp:=fun vs H Q _=>∃ (a:Addr) (zs:List Str),vs=[.ref a]/\H a=some (.lst (zs.map V.str))/\zs.length < 1000/\∀ H',zD [] H H'->Q (.bl (decide zs.Nodup)) H'
theorem zFG (G:y0 K mg "are_unlike" b9 ["names"]) (b_len:Blt mg "len") (b_set:Blt mg "set"):Cal P w K mg base CX0 1 "are_unlike" ["names"] zBD:=by
 refine G.ok zES (fun vs H Q E h=>by obtain ⟨a,zs,rfl,_⟩:=h;rfl) (fun f cdv A outer s H vs Q E hr h=>?_)
 obtain ⟨a,zs,rfl,ha,lz,q⟩:=h
 refine ⟨_,(zF (zL (wD xO (yE lK b_len xB (zA (wM (gR rfl) rfl b_set.no zDS (zA (pv 0) zC)) zC)) (yE yK b_len xB (zA (pv 0) zC)) (zV _)))),?_⟩
 refine ⟨_,rfl,a,zs,rfl,ha,lz,fun p hp=>⟨p,zs,rfl,zB,lz,?_⟩⟩
 have k1:zD [] H (upd H p (bX P w p zs)):=zD.new hp
 refine ⟨_,rfl,_,_,rfl,.inl ⟨_,.of (k1 _ _ (by simp) ha),rfl⟩,rfl,?_⟩
 rw [zGH,hI]
 exact q _ k1
noncomputable def nbV (o:Option (List V)) (y:V):Bool:=match o with
 | some l=>l.all wJ && decide l.Nodup && !inV y l
 | none=>false
theorem tT (zs:List Str):decide (zs.map V.str).Nodup=decide zs.Nodup:=by
 have:(zs.map V.str).Nodup ↔ zs.Nodup:=by
  rw [List.nodup_iff_pairwise_ne,List.nodup_iff_pairwise_ne,List.pairwise_map]
  constructor
  ·exact fun h=>h.imp fun n e=>n (by rw [e])
  ·exact fun h=>h.imp fun n e=>n (V.str.inj e)
 by_cases h:zs.Nodup
 ·rw [zGW h,zGW (this.mpr h)]
 ·rw [zGX h,zGX (fun e=>h (this.mp e))]
def zEE (K:PySem.W.Frag):Sp:=fun vs H Q _=>∃ (x:V) (o:Option (List V)) (y:Str),vs=[x,.str y]/\jB K H x o/\∀ H',zD [] H H'->Q (.bl (nbV o (.str y))) H'
theorem okNb (G:y0 K mg "are_neighbours" sNb ["thing","name"]) (CAN:Cal P w K mg base CX0 2 "are_names" ["thing"] (fS K)) (CAU:Cal P w K mg base CX0 1 "are_unlike" ["names"] zBD):Cal P w K mg base CX0 3 "are_neighbours" ["thing","name"] (zEE K):=by
 refine G.ok scNb (fun vs H Q E h=>by obtain ⟨x,o,y,rfl,_⟩:=h;rfl) (fun f cdv A outer s H vs Q E hr h=>?_)
 obtain ⟨x,o,y,rfl,th,q⟩:=h
 have hr2:yB 2 _:=hr
 have hr1:yB 1 _:=hr.mono (by decide)
 refine ⟨_,(zF (zL (tR (zQ CAN hr2 (zA (pv 0) zC)) (tR (zQ CAU hr1 (zA (pv 0) zC)) (tQ (wD oX (pv 1) (pv 0) (by with_unfolding_all rfl))))))),?_⟩
 refine ⟨_,rfl,x,o,rfl,th,fun H1 k1=>⟨_,rfl,?_⟩⟩
 cases o with
 | none=>exact ifF rfl (q H1 k1)
 | some l=>
  obtain ⟨a,rfl,ha,pl,ll⟩:=th
  cases hn:l.all wJ with
  | false=>
   have e:nbV (some l) (.str y)=false:=by show (l.all wJ && decide l.Nodup && !inV (V.str y) l)=false;rw [hn];rfl
   rw [e] at q
   have e2:nC (some l)=false:=hn
   rw [e2]
   exact ifF rfl (q H1 k1)
  | true=>
   obtain ⟨zs,rfl,hzs⟩:=qO hn
   have e2:nC (some (zs.map V.str))=true:=hn
   rw [e2]
   refine ifT rfl ?_
   have ha1:=k1 _ _ (by simp) ha
   rw [zGH] at ll
   refine ⟨_,rfl,a,zs,rfl,ha1,by omega,fun H2 k2=>⟨_,rfl,?_⟩⟩
   have k02:=k1.trans k2
   cases hd:decide zs.Nodup with
   | false=>
    have e:nbV (some (zs.map V.str)) (.str y)=false:=by show ((zs.map V.str).all wJ && decide (zs.map V.str).Nodup && !inV (V.str y) (zs.map V.str))=false;rw [hn,tT,hd];rfl
    rw [e] at q
    exact ifF rfl (q H2 k02)
   | true=>
    have e:nbV (some (zs.map V.str)) (.str y) = !inV (.str y) (zs.map V.str):=by show ((zs.map V.str).all wJ && decide (zs.map V.str).Nodup && !inV (V.str y) (zs.map V.str))=_;rw [hn,tT,hd];rfl
    rw [e] at q
    exact ifT rfl ⟨_,rfl,_,rfl,a,_,rfl,.inl (.of (k02 _ _ (by simp) ha)),rfl,pT zs,q H2 k02⟩
noncomputable def rC (nb:List Str) (x:V):Bool:=decide (x=.non) || mT x nb
noncomputable def zGB (nb:List Str):Option (List V)->Bool
 | some l=>decide (l ≠ []) && l.all (rC nb)
 | none=>false
def zBI (K:PySem.W.Frag):Sp:=fun vs H Q _=>∃ (x:V) (o:Option (List V)) (b:Addr) (nb:List Str),vs=[x,.ref b]/\jB K H x o/\H b=some (.lst (nb.map V.str))/\∀ H',zD [] H H'->Q (.bl (zGB nb o)) H'
theorem zFQ (G:y0 K mg "are_arrows" fZ ["thing","neighbours"]) (CO2:Cal P w K mg base CX0 2 "is_one_of" ["thing","houses"] (lV K)) (b_isinstance:Blt mg "isinstance") (b_list:Blt mg "list") (b_len:Blt mg "len") (b_all:Blt mg "all"):Cal P w K mg base CX0 3 "are_arrows" ["thing","neighbours"] (zBI K):=by
 refine G.ok zE7 (fun vs H Q E h=>by obtain ⟨x,o,b,nb,rfl,_⟩:=h;rfl) (fun f cdv A outer s H vs Q E hr h=>?_)
 obtain ⟨x,o,b,nb,rfl,th,hb,q⟩:=h
 have hr2:yB 2 _:=hr
 refine ⟨_,(zE (yC (PW.pt (pL (wA (xV (yE y3 b_isinstance yM (zA (pv 0) (zA (v7 b_list vG) zC))))) (sS (zS xO (yE yK b_len xB (zA (pv 0) zC)) zI (zV _))))) (zF (zL wT)) zT)
   (zF (zL (yE (sI rfl) b_all nM (zA (vT (N:=["thing","neighbours"]) (sc:=zG fZ) (ix:=[1]) (by decide +kernel) (xN (pv 0)) (fun _ _ _ _=>xM) (fun _ _ _ _=>(zFD (wD vK (pv 0) yY (zV _)) (tQ (zQ CO2 hr2 (zA (pv 0) (zA (pv 1) zC))))))) zC))))),?_⟩
 cases o with
 | none=>
  obtain ⟨T,pt,nT⟩:=th
  have e:(T == "list")=false:=by simpa using nT
  exact ⟨_,rfl,_,_,_,false,rfl,pt.ty,(e ▸ pt.kit.2.2.2.1),_,rfl,ifT rfl (q H (zD.refl _))⟩
 | some l=>
  obtain ⟨a,rfl,ha,pl,ll⟩:=th
  have pt:y4 K H (.ref a) "list":=.lst ha
  refine ⟨_,rfl,_,_,_,true,rfl,pt.ty,pt.kit.2.2.2.1,_,rfl,ifF rfl ?_⟩
  refine ⟨_,rfl,_,_,rfl,.inl ⟨_,.of ha,rfl⟩,rfl,_,rfl,?_⟩
  cases hl:l with
  | nil=>
   subst hl
   exact ifT rfl (q H (zD.refl _))
  | cons v0 l0=>
  rw [<- hl]
  refine ifF (by rw [hl];simp;omega) ?_
  refine ⟨_,rfl,a,rfl,⟨_,.of ha⟩,fun acc hacc=>?_⟩
  have aa:a ≠ acc:=zH ha hacc
  refine u5 (K:=K) (a:=a) (its:=l) (by rw [sizeLine_eq];omega) (fun i ys τ H1=>∃ k:Option V,τ=[k,some (.ref b)]/\ys=((l.take i).map (rC nb)).map V.bl/\i <= l.length/\zD [acc] H H1/\H1 acc=some (.lst ys)) ?_ ?_ ?_ ?_
  ·exact ⟨_,rfl,rfl,zGR _,zD.at (by simp),zB⟩
  ·rintro i ys τ H1 ⟨k,rfl,rfl,il,kp,h1⟩
   exact ⟨h1,by simp;omega,.of (kp _ _ (by simp [aa]) ha)⟩
  ·rintro i ys τ H1 x hx ⟨k,rfl,rfl,il,kp,h1⟩
   obtain ⟨⟨T,p1⟩,sz⟩:=pl x (zGL hx)
   have il':i < l.length:=(zGJ.mp hx).1
   have et:l.take (i + 1)=l.take i ++ [x]:=by rw [List.take_add_one,hx];rfl
   refine ⟨_,rfl,rfl,_,rfl,?_⟩
   by_cases hn:x=.non
   ·refine ifT (by rw [hn];rfl) ⟨h1,_,rfl,?_,il',kp.trans (zD.at (by simp)),zB⟩
    rw [et,zGT,zGT]
    have:rC nb x=true:=by unfold rC;rw [zGW hn];rfl
    show _=_ ++ [V.bl (rC nb x)]
    rw [this]
   ·refine ifF (by simp [hn]) ?_
    refine ⟨_,rfl,_,rfl,x,T,b,nb,rfl,p1.keep (kp.drop hacc),sz,(kp.drop hacc) _ _ (by simp) hb,fun H2 k2=>⟨k2 _ _ (by simp) h1,_,rfl,?_,il',(kp.trans (k2.mono (by simp))).trans (zD.at (by simp)),zB⟩⟩
    rw [et,zGT,zGT]
    have:rC nb x=mT x nb:=by unfold rC;rw [zGX hn];rfl
    show _=_ ++ [V.bl (rC nb x)]
    rw [this]
  ·rintro ys τ H1 ⟨k,rfl,rfl,_,kp,h1⟩
   rw [zHH] at h1
   refine ⟨acc,l.map (rC nb),rfl,.of h1,?_⟩
   have e:zGB nb (some l)=(l.map (rC nb)).all id:=by
    show (decide (l ≠ []) && l.all (rC nb))=_
    rw [zGW (by rw [hl];simp),List.all_map];rfl
   rw [<- e]
   exact q _ (kp.drop hacc)
end
abbrev sHI:Stmt:=yL (top 25) 0
noncomputable def hfl (nm:V) (nl sl:Addr):List (Str × V):=[("name",nm),("nearby",.ref nl),("seats",.ref sl)]
theorem hn1:¬ (("name" : Str)="nearby"):=by decide +kernel
theorem hn2:¬ (("name" : Str)="seats"):=by decide +kernel
theorem hn3:¬ (("nearby" : Str)="seats"):=by decide +kernel
theorem hput (nm:V) (nl sl:Addr):xZ "seats" (.ref sl) (xZ "nearby" (.ref nl) (xZ "name" nm []))=hfl nm nl sl:=by
 unfold hfl
 simp only [xZ,if_neg hn1,if_neg hn2,if_neg hn3]
structure x3 (K:PySem.W.Frag) (C:Addr):Prop where
 cl:Cls K C
 nN:vE K C "name"
 nB:vE K C "nearby"
 nS:vE K C "seats"
theorem zZ.keepS {C:Addr} {S:List Addr} {H H':Hp} {p wl:Addr} {s:SS} (A:zZ C H p wl s) (k:zD S H H') (hp:p ∉ S) (hw:wl ∉ S) (ht:∀ b ∈ S,∀ xs,H b ≠ some (.tup xs)):zZ C H' p wl s:=by
 obtain ⟨⟨dx,h⟩,⟨ps,e,r⟩,l⟩:=A
 exact ⟨⟨dx,k _ _ hp h⟩,⟨ps,k _ _ hw e,zK k ht r⟩,l⟩
def Dis (nl sl:Addr) (xs:List (Addr × Addr)):Prop:=(∀ x ∈ xs,x.2 ≠ nl/\x.2 ≠ sl)/\xs.Pairwise fun a b=>a.1 ≠ b.1/\a.2 ≠ b.2
def yA (B:Addr->Prop) (C CS:Addr) (H:Hp) (p:Addr) (nm:Str) (nb:List Str) (xs:List (Addr × Addr)) (ss:List SS):Prop:=∃ (dx nl sl:Addr),(B nl/\B sl/\(∀ x ∈ xs,B x.1/\B x.2)/\Dis nl sl xs) /\
 H p=some (.ins C dx (hfl (.str nm) nl sl))/\H nl=some (.lst (nb.map V.str))/\H sl=some (.lst (xs.map fun x=>V.ref x.1))/\xs.length=ss.length/\∀ (i:Nat) (x:Addr × Addr) (s:SS),xs[i]?=some x->ss[i]?=some s->zZ CS H x.1 x.2 s
theorem yA.on {B:Addr->Prop} {C CS:Addr} {H H':Hp} {p:Addr} {nm:Str} {nb:List Str} {xs:List (Addr × Addr)} {ss:List SS} (h:yA B C CS H p nm nb xs ss) (k:zD [] H H'):yA B C CS H' p nm nb xs ss:=by
 obtain ⟨dx,nl,sl,b,h1,h2,h3,h4,h5⟩:=h
 exact ⟨dx,nl,sl,b,k _ _ (by simp) h1,k _ _ (by simp) h2,k _ _ (by simp) h3,h4,fun i x s e1 e2=>(h5 i x s e1 e2).keep k⟩
theorem yA.keep {B:Addr->Prop} {C CS:Addr} {H H':Hp} {p:Addr} {nm:Str} {nb:List Str} {xs:List (Addr × Addr)} {ss:List SS} {S:List Addr} (h:yA B C CS H p nm nb xs ss) (k:zD S H H') (hS:∀ b ∈ S,b ≠ p/\¬ B b/\∀ ys,H b ≠ some (.tup ys)):yA B C CS H' p nm nb xs ss:=by
 obtain ⟨dx,nl,sl,⟨b1,b2,b3,b4⟩,h1,h2,h3,h4,h5⟩:=h
 have far:∀ {u:Addr},B u->u ∉ S:=fun {u} hb hm=>(hS u hm).2.1 hb
 exact ⟨dx,nl,sl,⟨b1,b2,b3,b4⟩,k _ _ (fun hm=>(hS p hm).1 rfl) h1,k _ _ (far b1) h2,k _ _ (far b2) h3,h4,fun i x s e1 e2=>(h5 i x s e1 e2).keepS k (far (b3 x (zGL e1)).1) (far (b3 x (zGL e1)).2) fun b hb=>(hS b hb).2.2⟩
noncomputable def xL (ars:List (Option Str)):List SS:=ars.map fun a=>⟨a,[],none,false⟩
section
variable {P:Program} {w:World} {K:PySem.W.Frag} {mg:Str->Option Value} {base:Heap} {C CS:Addr}
theorem scHI:zN ["self","name","neighbours","arrows"] ["self","name","neighbours","arrows"] (zG sHI):=⟨rfl,rfl,rfl,by decide +kernel,rfl,by decide +kernel,by decide +kernel⟩
def zCA (K:PySem.W.Frag) (C CS:Addr):Sp:=fun vs H Q _=>∃ (p dx a b:Addr) (nm:Str) (nb:List Str) (ars:List (Option Str)),vs=[.ref p,.str nm,.ref a,.ref b]/\H p=some (.ins C dx [])/\H a=some (.lst (nb.map V.str))/\H b=some (.lst (ars.map z4))/\xE nm/\(∀ z ∈ nb,xE z)/\nb.Nodup/\nm ∉ nb/\nb.length <= 100/\ars ≠ []/\ars.length <= 100/\(∀ z,some z ∈ ars->z ∈ nb) /\
 ∀ (xs:List (Addr × Addr)) (H':Hp),yA (fun u=>H u=none) C CS H' p nm nb xs (xL ars)->zD [p] H H'->Q .non H'
theorem okHI {fI:Addr} {fd:FuncData} (T:x3 K C) (G:Fun K "__init__" "House.__init__" sHI fI fd) (CI:Cal P w K mg base CX0 1 "is_name" ["thing"] (tN K)) (CNb:Cal P w K mg base CX0 3 "are_neighbours" ["thing","name"] (zEE K)) (CAr:Cal P w K mg base CX0 3 "are_arrows" ["thing","neighbours"] (zBI K)) (MKS:p8 P w K mg base CX0 2 CS "Seat" ["self","arrow"] (oH CS)) (b_list:Blt mg "list") :
  uY P w K mg base CX0 4 fI fd ["self","name","neighbours","arrows"] (zCA K C CS):=by
 refine G.ok scHI (fun vs H Q E h=>by obtain ⟨p,dx,a,b,nm,nb,ars,rfl,_⟩:=h;rfl) (fun cdv A outer s0 H vs Q E hr h=>?_)
 obtain ⟨p,dx,a,b,nm,nb,ars,rfl,hp,ha,hb,gn,gb,nd,nin,lb,nar,lar,arin,q⟩:=h
 have hr3:yB 3 _:=hr
 have hr1:yB 1 _:=hr.mono (by decide)
 refine ⟨_,(zE (yC (wA (xV (zQ CI hr1 (zA (pv 1) zC)))) (zF xA) zT)
   (zE (yC (wA (xV (zQ CNb hr3 (zA (pv 2) (zA (pv 1) zC))))) (zF xA) zT)
   (zE (yC (wA (xV (zQ CAr hr3 (zA (pv 3) (zA (pv 2) zC))))) (zF xA) zT)
   (zE (wW (pv 0) (pv 1) rfl)
   (zE (wW (pv 0) (wM vQ rfl b_list.no vG (zA (pv 2) zC)) rfl)
   (zF (wW (pv 0) (vT (N:=["self","name","neighbours","arrows"]) (sc:=zG sHI) (ix:=[]) (by decide +kernel) (xN (pv 3)) (fun _ _ _ _=>xM) (fun _ _ _ _=>(j7 MKS hr3 (zA (pv 0) zC)))) rfl))))))),?_⟩
 refine ⟨_,rfl,.str nm,"str",rfl,.str nm,(fun z e=>by cases e;exact zGS gn.2 (by decide)),fun H1 k1=>⟨_,rfl,ifF (by rw [show wJ (.str nm)=true from gn.1];rfl) ?_⟩⟩
 have plS:∀ (zs:List Str) (H:Hp),(∀ z ∈ zs,xE z)->∀ v ∈ zs.map V.str,bH K H v:=fun zs H g v hv=>by
  obtain ⟨z,hz,rfl⟩:=List.mem_map.mp hv
  exact ⟨⟨_,.str z⟩,fun y e=>by cases e;exact zGS (g z hz).2 (by decide)⟩
 refine ⟨_,rfl,_,rfl,.ref a,some (nb.map V.str),nm,rfl,⟨a,rfl,k1 _ _ (by simp) ha,plS nb H1 gb,by rw [zGH];omega⟩,fun H2 k2=>⟨_,rfl,ifF ?_ ?_⟩⟩
 ·have e1:(nb.map V.str).all wJ=true:=by
   rw [List.all_map,List.all_eq_true]
   exact fun z hz=>(gb z hz).1
  have e2:inV (.str nm) (nb.map V.str)=false:=by
   unfold inV
   rw [List.any_map,List.any_eq_false]
   intro z hz e
   have:z=nm:=eq_of_beq (show (z == nm)=true from e)
   exact nin (this ▸ hz)
  show (!((nb.map V.str).all wJ && decide (nb.map V.str).Nodup && !inV (V.str nm) (nb.map V.str)))=false
  rw [e1,tT,zGW nd,e2];rfl
 have k02:=k1.trans k2
 refine ⟨_,rfl,_,rfl,.ref b,some (ars.map z4),a,nb,rfl,⟨b,rfl,k02 _ _ (by simp) hb,?_,by rw [zGH];omega⟩,k02 _ _ (by simp) ha,fun H3 k3=>⟨_,rfl,ifF ?_ ?_⟩⟩
 ·intro v hv
  obtain ⟨o,ho,rfl⟩:=List.mem_map.mp hv
  cases o with
  | none=>exact ⟨⟨_,.non⟩,fun y e=>by cases e⟩
  | some z=>exact ⟨⟨_,.str z⟩,fun y e=>by cases e;exact zGS (gb z (arin z ho)).2 (by decide)⟩
 ·have e1:(ars.map z4).all (rC nb)=true:=by
   rw [List.all_map,List.all_eq_true]
   intro o ho
   cases o with
   | none=>rfl
   | some z=>
    have m:=arin z ho
    show (decide (V.str z=.non) || (wJ (.str z) && inV (.str z) (nb.map V.str)))=true
    have e2:inV (.str z) (nb.map V.str)=true:=by
     unfold inV
     rw [List.any_map,List.any_eq_true]
     exact ⟨z,m,by show (z == z)=true;simp⟩
    rw [e2,show wJ (.str z)=true from (gb z m).1];simp
  show (!(decide (ars.map z4 ≠ []) && (ars.map z4).all (rC nb)))=false
  rw [e1,zGW (by simpa using nar)];rfl
 have k03:=k02.trans k3
 have hp3:=k03 _ _ (by simp) hp
 refine ⟨_,rfl,_,rfl,p,C,dx,_,rfl,hp3,T.cl,T.nN,by show 0 < 1000;decide,?_⟩
 generalize hH4:upd H3 p (.ins C dx (xZ "name" (.str nm) []))=H4
 have k4:zD [p] H H4:=by rw [<- hH4];exact (k03.mono (by simp)).trans (zD.at (by simp))
 have hp4:H4 p=some (.ins C dx (xZ "name" (.str nm) [])):=by rw [<- hH4];exact zB
 have ap:a ≠ p:=fun e=>by rw [e,hp] at ha;cases ha
 have bp:b ≠ p:=fun e=>by rw [e,hp] at hb;cases hb
 refine ⟨_,rfl,a,_,rfl,.inl (.of (k4 _ _ (by simp [ap]) ha)),fun nl hnl=>?_⟩
 have pnl:p ≠ nl:=zH hp4 hnl
 refine ⟨_,rfl,p,C,dx,_,rfl,by rw [zJ pnl];exact hp4,T.cl,T.nB,by show 1 < 1000;decide,?_⟩
 generalize hH5:upd (upd H4 nl (.lst (nb.map V.str))) p (.ins C dx (xZ "nearby" (.ref nl) (xZ "name" (.str nm) [])))=H5
 have k5:zD [p] H4 H5:=by rw [<- hH5];exact (zD.new hnl).trans (zD.at (by simp))
 have hp5:H5 p=some (.ins C dx (xZ "nearby" (.ref nl) (xZ "name" (.str nm) []))):=by rw [<- hH5];exact zB
 have hn5:H5 nl=some (.lst (nb.map V.str)):=by rw [<- hH5,zJ pnl.symm];exact zB
 have k05:=k4.trans k5
 have bnl:H nl=none:=k4.none (by simp [pnl.symm]) hnl
 have hb5:=k05 _ _ (by simp [bp]) hb
 refine ⟨_,rfl,b,rfl,⟨_,.of hb5⟩,fun ls hls=>?_⟩
 have bls:b ≠ ls:=zH hb5 hls
 have pls:p ≠ ls:=zH hp5 hls
 have nlls:nl ≠ ls:=zH hn5 hls
 refine u5 (K:=K) (a:=b) (its:=ars.map z4) (by rw [zGH,sizeLine_eq];omega) (fun i ys τ H6=>∃ (ps:List (Addr × Addr)) (kk:Option V),τ=[kk]/\ys=ps.map (fun p=>V.ref p.1)/\ps.length=i/\(∀ (j:Nat) (x:Addr × Addr),ps[j]?=some x->zZ CS H6 x.1 x.2 ⟨ars.getD j none,[],none,false⟩) /\
  (∀ x ∈ ps,H5 x.1=none/\H5 x.2=none/\x.1 ≠ ls/\x.2 ≠ ls)/\(ps.Pairwise fun a b=>a.1 ≠ b.1/\a.2 ≠ b.2)/\zD [ls] H5 H6/\H6 ls=some (.lst ys)) ?_ ?_ ?_ ?_
 ·exact ⟨[],none,rfl,rfl,rfl,(fun j p e=>by cases e),(fun p hp=>by cases hp),.nil,zD.at (by simp),zB⟩
 ·rintro i ys τ H6 ⟨ps,kk,rfl,rfl,hl,_,_,_,kp,h6⟩
  exact ⟨h6,by rw [zGH];omega,.of (kp _ _ (by simp [bls]) hb5)⟩
 ·rintro i ys τ H6 x hx ⟨ps,kk,rfl,rfl,hl,hse,hfr,hpw,kp,h6⟩
  rw [zGN] at hx
  cases ei:ars[i]? with
  | none=>rw [ei] at hx;cases hx
  | some ar=>
  rw [ei] at hx
  have ex:z4 ar=x:=zGO hx
  subst ex
  have eg:ars.getD i none=ar:=by rw [zGM,ei];rfl
  refine ⟨_,rfl,fun x dx hx hdx ndx=>⟨x,dx,ar,rfl,zB,(fun z e=>by have g:=gb z (arin z (by rw [<- e];exact zGL ei));exact ⟨g.1,zGS g.2 (by decide)⟩),fun wl H7 hwl S7 k7=>⟨rfl,?_⟩⟩⟩
  have k67:zD [] H6 H7:=((zD.new hdx).trans (zD.new (by rw [zJ (Ne.symm ndx)];exact hx))).under k7 (by intro b hb;rw [zGK.mp hb];exact hx)
  have hwl6:H6 wl=none:=(zM (zM hwl).1).1
  have h67:=k67 _ _ (by simp) h6
  have xls:x ≠ ls:=Ne.symm (zH h6 hx)
  have wls:wl ≠ ls:=Ne.symm (zH h6 hwl6)
  have nt:∀ b ∈ [ls],∀ xs,H7 b ≠ some (.tup xs):=fun b hb xs z=>by rw [zGK.mp hb,h67] at z;cases z
  refine ⟨h67,ps ++ [(x,wl)],_,rfl,by simp,by simp [hl],?_,?_,?_,(kp.trans (k67.mono (by simp))).trans (zD.at (by simp)),zB⟩
  ·intro j x' hj
   have kl:zD [ls] H7 (upd H7 ls (.lst (List.map (fun p=>V.ref p.1) ps ++ [V.ref x]))):=zD.at (by simp)
   by_cases hjl:j < ps.length
   ·rw [zG5 hjl] at hj
    obtain ⟨_,_,f1,f2⟩:=hfr x' (zGL hj)
    exact ((hse j x' hj).keep k67).keepS kl (by simpa using f1) (by simpa using f2) nt
   ·rw [zG4 (by omega)] at hj
    have ej:j=i:=by
     have:=(zGJ.mp hj).1
     simp at this;omega
    subst ej
    rw [hl,Nat.sub_self] at hj
    cases hj
    rw [eg]
    exact S7.keepS kl (by simpa using xls) (by simpa using wls) nt
  ·intro x' hx'
   rcases zGY.mp hx' with h | h
   ·exact hfr x' h
   ·rw [zGK.mp h]
    exact ⟨kp.none (by simpa using xls) hx,kp.none (by simpa using wls) hwl6,xls,wls⟩
  ·refine List.pairwise_append.mpr ⟨hpw,List.pairwise_singleton _ _,fun a ha b hb=>?_⟩
   rw [zGK.mp hb]
   obtain ⟨j,hj,ej⟩:=List.getElem_of_mem ha
   have sj:=hse j a (by rw [zGI hj,ej])
   obtain ⟨⟨dj,oj⟩,⟨qj,wj,_⟩,_⟩:=sj
   exact ⟨zH oj hx,zH wj hwl6⟩
 rintro ys τ H6 ⟨ps,kk,rfl,rfl,hl,hse,hfr,hpw,kp,h6⟩
 rw [zGH] at hl
 have hp6:=kp _ _ (by simp [pls]) hp5
 refine ⟨_,rfl,p,C,dx,_,rfl,hp6,T.cl,T.nS,by show 2 < 1000;decide,?_⟩
 rw [hput]
 have k7:zD [p] H6 (upd H6 p (.ins C dx (hfl (.str nm) nl ls))):=zD.at (by simp)
 have e7:upd H6 p (.ins C dx (hfl (.str nm) nl ls)) p=some (.ins C dx (hfl (.str nm) nl ls)):=zB
 generalize upd H6 p (.ins C dx (hfl (.str nm) nl ls))=H7 at k7 e7
 have H0:∀ {u:Addr},H5 u=none->H u=none/\u ≠ p:=fun {u} hu=>by
  have un:u ≠ p:=fun e=>by rw [e,hp5] at hu;cases hu
  exact ⟨k05.none (by simp [un]) hu,un⟩
 have ntp:∀ b ∈ [p],∀ xs,H6 b ≠ some (.tup xs):=fun b hb xs z=>by rw [zGK.mp hb,hp6] at z;cases z
 refine q ps H7 ⟨dx,nl,ls,⟨bnl,(H0 hls).1,fun x hx=>⟨(H0 (hfr x hx).1).1,(H0 (hfr x hx).2.1).1⟩,⟨fun x hx=>⟨Ne.symm (zH hn5 (hfr x hx).2.1),(hfr x hx).2.2.2⟩,hpw⟩⟩,e7,k7 _ _ (by simp [pnl.symm]) (kp _ _ (by simp [nlls]) hn5),k7 _ _ (by simp [pls.symm]) h6,by unfold xL;rw [zGH];exact hl,fun i x s e1 e2=>?_⟩ ?_
 ·unfold xL at e2
  rw [zGN] at e2
  cases ei:ars[i]? with
  | none=>rw [ei] at e2;cases e2
  | some ar=>
  rw [ei] at e2
  have es:(⟨ar,[],none,false⟩:SS)=s:=zGO e2
  subst es
  have eg:ars.getD i none=ar:=by rw [zGM,ei];rfl
  have sa:=hse i x e1
  rw [eg] at sa
  have hx:=hfr x (zGL e1)
  exact sa.keepS k7 (by simpa using (H0 hx.1).2) (by simpa using (H0 hx.2.1).2) ntp
 ·exact (k05.trans ((kp.drop hls).mono (by simp))).trans k7
end
abbrev sWh:Stmt:=top 12
abbrev sCk:Stmt:=top 23
abbrev sSA:Stmt:=yL (top 19) 5
abbrev aF:Stmt:=yL (top 25) 7
abbrev aC:Stmt:=yL (top 25) 8
abbrev aD:Stmt:=yL (top 25) 9
abbrev aE:Stmt:=yL (top 25) 10
abbrev fX:Stmt:=yL (top 25) 6
theorem vA (nm:V) (nl sl:Addr):(hfl nm nl sl).lookup ("seats" : Str)=some (.ref sl):=rfl
theorem eQ {X:Cx} {K:PySem.W.Frag} {tg l:Expr} {tl:TE} (hl:PE X l tl) (e:X.K=K:=by rfl):PI X tg l (zBR K tl):=e ▸ xN hl
theorem cN (a:V) (wl:Addr) (h:V) (k:Bool):(xC a wl h k).lookup ("arrow" : Str)=none:=rfl
theorem iI (a:V) (wl:Addr) (h:V) (k:Bool):(xC a wl h k).lookup ("row" : Str)=none:=rfl
theorem m8 (a:V) (wl:Addr) (h:V) (k:Bool):(xC a wl h k).lookup ("inside" : Str)=none:=rfl
theorem zBY (a:V) (wl:Addr) (h:V) (k:Bool):(xC a wl h k).lookup ("has_asked" : Str)=none:=rfl
theorem zF9 (a:V) (wl:Addr) (h:V) (k:Bool):(xC a wl h k).lookup ("askers" : Str)=none:=rfl
noncomputable def zDX (r:Str × Bool):List V:=[.str r.1,.bl r.2]
noncomputable def w6 (s:SS):List (Str × Bool):=(match s.hold with | some z=>[(z,false)] | none=>[]) ++ ((s.row.filter fun r=>decide (r.1=("asker" : Str))).map fun r=>(r.2,true))
theorem xX {l:List (Addr × Addr)} {i:Nat} {x:Addr × Addr} (h:l[i]?=some x):atI (l.map fun x=>V.ref x.1) (i:Int)=some (.ref x.1):=by
 have ol:i < l.length:=(zGJ.mp h).1
 obtain ⟨v,e1,e2⟩:=tX (xs:=l.map fun x=>V.ref x.1) (i:=(i:Int)) (by omega) (by rw [zGH];omega)
 rw [e1]
 rw [Int.toNat_natCast,zGN,h] at e2
 exact e2.symm
section
variable {P:Program} {w:World} {K:PySem.W.Frag} {mg:Str->Option Value} {base:Heap} {C CS:Addr}
theorem scWh:zN ["thing"] ["thing"] (zG sWh):=⟨rfl,rfl,rfl,by decide +kernel,rfl,by decide +kernel,by decide +kernel⟩
theorem scCk:zN ["right","many"] ["right","many"] (zG sCk):=⟨rfl,rfl,rfl,by decide +kernel,rfl,by decide +kernel,by decide +kernel⟩
theorem zEU:zN ["self","waiting"] ["self"] (zG sSA):=⟨rfl,rfl,rfl,by decide +kernel,rfl,by decide +kernel,by decide +kernel⟩
theorem zE5:zN ["self","right"] ["self","right"] (zG aF):=⟨rfl,rfl,rfl,by decide +kernel,rfl,by decide +kernel,by decide +kernel⟩
theorem zEZ:zN ["self","right"] ["self","right"] (zG aC):=⟨rfl,rfl,rfl,by decide +kernel,rfl,by decide +kernel,by decide +kernel⟩
theorem zE1:zN ["self","right"] ["self","right"] (zG aD):=⟨rfl,rfl,rfl,by decide +kernel,rfl,by decide +kernel,by decide +kernel⟩
theorem zE2:zN ["self","right"] ["self","right"] (zG aE):=⟨rfl,rfl,rfl,by decide +kernel,rfl,by decide +kernel,by decide +kernel⟩
theorem zE4:zN ["self"] ["self"] (zG fX):=⟨rfl,rfl,rfl,by decide +kernel,rfl,by decide +kernel,by decide +kernel⟩
def zEA:Sp:=fun vs H Q _=>∃ i:Int,vs=[.int i]/\Q (.bl true) H
theorem okWh (G:y0 K mg "is_whole" sWh ["thing"]) (b_isinstance:Blt mg "isinstance") (b_int:Blt mg "int") (b_bool:Blt mg "bool"):Cal P w K mg base CX0 1 "is_whole" ["thing"] zEA:=by
 refine G.ok scWh (fun vs H Q E h=>by obtain ⟨i,rfl,_⟩:=h;rfl) (fun f cdv A outer s H vs Q E hr h=>?_)
 obtain ⟨i,rfl,q⟩:=h
 refine ⟨_,(zF (zL (tR (yE y3 b_isinstance yM (zA (pv 0) (zA (v7 b_int kX) zC))) (tQ (zCU (yE y3 b_isinstance yM (zA (pv 0) (zA (v7 b_bool qC) zC)))))))),?_⟩
 have pt:y4 K H (.int i) "int":=.int i
 exact ⟨_,rfl,_,_,_,true,rfl,pt.ty,pt.kit.2.1,_,rfl,ifT rfl ⟨_,rfl,_,_,_,false,rfl,pt.ty,pt.kit.2.2.1,_,rfl,q⟩⟩
def lZ:Sp:=fun vs H Q _=>∃ i n:Int,vs=[.int i,.int n]/\0 <= i/\i < n/\Q .non H
theorem okCk (G:y0 K mg "check_right" sCk ["right","many"]) (CW:Cal P w K mg base CX0 1 "is_whole" ["thing"] zEA):Cal P w K mg base CX0 2 "check_right" ["right","many"] lZ:=by
 refine G.ok scCk (fun vs H Q E h=>by obtain ⟨i,n,rfl,_⟩:=h;rfl) (fun f cdv A outer s H vs Q E hr h=>?_)
 obtain ⟨i,n,rfl,h0,h1,q⟩:=h
 have hr1:yB 1 _:=hr
 refine ⟨_,(zF (yC (PW.pt (pL (wA (xV (zQ CW hr1 (zA (pv 0) zC)))) (sS (wA (eL eY zBO zI (pv 0) (pv 1)))))) (zF xA) zT)),?_⟩
 refine ⟨_,rfl,i,rfl,_,rfl,ifF rfl ?_⟩
 refine ⟨_,rfl,_,_,rfl,rfl,_,rfl,ifT (zGW h0) ⟨_,rfl,_,_,rfl,rfl,_,rfl,ifF ?_ q⟩⟩
 rw [zGW h1];rfl
def zBH (C CS:Addr):Sp:=fun vs H Q _=>∃ (B:Addr->Prop) (p:Addr) (i:Nat) (nm:Str) (nb:List Str) (xs:List (Addr × Addr)) (ss:List SS) (s:SS),vs=[.ref p,.int i]/\yA B C CS H p nm nb xs ss/\ss[i]?=some s/\Q (z4 s.ptr) H
theorem zFO (T:x3 K C) (TS:xY K CS) (G:y2 K C "arrow" "House.arrow" aF ["self","right"]) (CK:Cal P w K mg base CX0 2 "check_right" ["right","many"] lZ) (MA:yJ P w K mg base CX0 1 CS "arrow" ["self"] (rQ CS)) (b_len:Blt mg "len"):yJ P w K mg base CX0 3 C "arrow" ["self","right"] (zBH C CS):=by
 refine G.ok zE5 (fun vs H Q E h=>by obtain ⟨B,p,i,nm,nb,xs,ss,s,rfl,_⟩:=h;rfl) (fun f cdv A outer s0 H vs Q E hr h=>?_)
 obtain ⟨B,p,i,nm,nb,xs,ss,s,rfl,⟨dx,nl,sl,_,hp,hnl,hsl,hxs,hse⟩,es,q⟩:=h
 have hr2:yB 2 _:=hr
 have hr1:yB 1 _:=hr.mono (by decide)
 have il:i < xs.length:=by rw [hxs];exact (zGJ.mp es).1
 have ex:xs[i]?=some xs[i]:=zGI il
 generalize xs[i]=x at ex
 have S:=hse i x s ex es
 obtain ⟨dx2,hob⟩:=S.ob
 refine ⟨_,(zE (yO (zQ CK hr2 (zA (pv 1) (zA (yE yK b_len xB (zA (yG (pv 0) rfl) zC)) zC))))
   (zF (zL (yR MA TS.cl hr1 (zU zW (yG (pv 0) rfl) (pv 1) (fun _ _=>rfl)))))),?_⟩
 refine ⟨_,rfl,_,rfl,p,C,dx,_,_,rfl,hp,T.cl,T.nS,vA _ _ _,_,_,rfl,.inl ⟨_,.of hsl,rfl⟩,_,_,rfl,by omega,by rw [zGH];omega,?_⟩
 exact ⟨_,rfl,p,C,dx,_,_,rfl,hp,T.cl,T.nS,vA _ _ _,_,rfl,sl,_,i,_,rfl,rfl,hsl,xX ex,x.1,dx2,_,rfl,hob,cN _ _ _ _,x.1,x.2,s,rfl,S,q⟩
def zBE (C CS:Addr):Sp:=fun vs H Q _=>∃ (B:Addr->Prop) (p:Addr) (i:Nat) (nm:Str) (nb:List Str) (xs:List (Addr × Addr)) (ss:List SS) (s:SS),vs=[.ref p,.int i]/\yA B C CS H p nm nb xs ss/\ss[i]?=some s/\∀ (r:Addr) (H':Hp),H r=none->Rows H' r (s.row.map yT)->zD [] H H'->Q (.ref r) H'
theorem zFK (T:x3 K C) (TS:xY K CS) (G:y2 K C "row" "House.row" aC ["self","right"]) (CK:Cal P w K mg base CX0 2 "check_right" ["right","many"] lZ) (MR:yJ P w K mg base CX0 1 CS "row" ["self"] (jL CS)) (b_len:Blt mg "len"):yJ P w K mg base CX0 3 C "row" ["self","right"] (zBE C CS):=by
 refine G.ok zEZ (fun vs H Q E h=>by obtain ⟨B,p,i,nm,nb,xs,ss,s,rfl,_⟩:=h;rfl) (fun f cdv A outer s0 H vs Q E hr h=>?_)
 obtain ⟨B,p,i,nm,nb,xs,ss,s,rfl,⟨dx,nl,sl,_,hp,hnl,hsl,hxs,hse⟩,es,q⟩:=h
 have hr2:yB 2 _:=hr
 have hr1:yB 1 _:=hr.mono (by decide)
 have il:i < xs.length:=by rw [hxs];exact (zGJ.mp es).1
 have ex:xs[i]?=some xs[i]:=zGI il
 generalize xs[i]=x at ex
 have S:=hse i x s ex es
 obtain ⟨dx2,hob⟩:=S.ob
 refine ⟨_,(zE (yO (zQ CK hr2 (zA (pv 1) (zA (yE yK b_len xB (zA (yG (pv 0) rfl) zC)) zC))))
   (zF (zL (yR MR TS.cl hr1 (zU zW (yG (pv 0) rfl) (pv 1) (fun _ _=>rfl)))))),?_⟩
 refine ⟨_,rfl,_,rfl,p,C,dx,_,_,rfl,hp,T.cl,T.nS,vA _ _ _,_,_,rfl,.inl ⟨_,.of hsl,rfl⟩,_,_,rfl,by omega,by rw [zGH];omega,?_⟩
 exact ⟨_,rfl,p,C,dx,_,_,rfl,hp,T.cl,T.nS,vA _ _ _,_,rfl,sl,_,i,_,rfl,rfl,hsl,xX ex,x.1,dx2,_,rfl,hob,iI _ _ _ _,x.1,x.2,s,rfl,S,q⟩
def zBF (C CS:Addr):Sp:=fun vs H Q _=>∃ (B:Addr->Prop) (p:Addr) (i:Nat) (nm:Str) (nb:List Str) (xs:List (Addr × Addr)) (ss:List SS) (s:SS),vs=[.ref p,.int i]/\yA B C CS H p nm nb xs ss/\ss[i]?=some s/\Q (z4 s.hold) H
theorem zFL (T:x3 K C) (TS:xY K CS) (G:y2 K C "inside" "House.inside" aD ["self","right"]) (CK:Cal P w K mg base CX0 2 "check_right" ["right","many"] lZ) (MI:yJ P w K mg base CX0 1 CS "inside" ["self"] (t5 CS)) (b_len:Blt mg "len"):yJ P w K mg base CX0 3 C "inside" ["self","right"] (zBF C CS):=by
 refine G.ok zE1 (fun vs H Q E h=>by obtain ⟨B,p,i,nm,nb,xs,ss,s,rfl,_⟩:=h;rfl) (fun f cdv A outer s0 H vs Q E hr h=>?_)
 obtain ⟨B,p,i,nm,nb,xs,ss,s,rfl,⟨dx,nl,sl,_,hp,hnl,hsl,hxs,hse⟩,es,q⟩:=h
 have hr2:yB 2 _:=hr
 have hr1:yB 1 _:=hr.mono (by decide)
 have il:i < xs.length:=by rw [hxs];exact (zGJ.mp es).1
 have ex:xs[i]?=some xs[i]:=zGI il
 generalize xs[i]=x at ex
 have S:=hse i x s ex es
 obtain ⟨dx2,hob⟩:=S.ob
 refine ⟨_,(zE (yO (zQ CK hr2 (zA (pv 1) (zA (yE yK b_len xB (zA (yG (pv 0) rfl) zC)) zC))))
   (zF (zL (yR MI TS.cl hr1 (zU zW (yG (pv 0) rfl) (pv 1) (fun _ _=>rfl)))))),?_⟩
 refine ⟨_,rfl,_,rfl,p,C,dx,_,_,rfl,hp,T.cl,T.nS,vA _ _ _,_,_,rfl,.inl ⟨_,.of hsl,rfl⟩,_,_,rfl,by omega,by rw [zGH];omega,?_⟩
 exact ⟨_,rfl,p,C,dx,_,_,rfl,hp,T.cl,T.nS,vA _ _ _,_,rfl,sl,_,i,_,rfl,rfl,hsl,xX ex,x.1,dx2,_,rfl,hob,m8 _ _ _ _,x.1,x.2,s,rfl,S,q⟩
def zBG (C CS:Addr):Sp:=fun vs H Q _=>∃ (B:Addr->Prop) (p:Addr) (i:Nat) (nm:Str) (nb:List Str) (xs:List (Addr × Addr)) (ss:List SS) (s:SS),vs=[.ref p,.int i]/\yA B C CS H p nm nb xs ss/\ss[i]?=some s/\Q (.bl s.asked) H
theorem zFM (T:x3 K C) (TS:xY K CS) (G:y2 K C "has_asked" "House.has_asked" aE ["self","right"]) (CK:Cal P w K mg base CX0 2 "check_right" ["right","many"] lZ) (MHa:yJ P w K mg base CX0 1 CS "has_asked" ["self"] (fP CS)) (b_len:Blt mg "len"):yJ P w K mg base CX0 3 C "has_asked" ["self","right"] (zBG C CS):=by
 refine G.ok zE2 (fun vs H Q E h=>by obtain ⟨B,p,i,nm,nb,xs,ss,s,rfl,_⟩:=h;rfl) (fun f cdv A outer s0 H vs Q E hr h=>?_)
 obtain ⟨B,p,i,nm,nb,xs,ss,s,rfl,⟨dx,nl,sl,_,hp,hnl,hsl,hxs,hse⟩,es,q⟩:=h
 have hr2:yB 2 _:=hr
 have hr1:yB 1 _:=hr.mono (by decide)
 have il:i < xs.length:=by rw [hxs];exact (zGJ.mp es).1
 have ex:xs[i]?=some xs[i]:=zGI il
 generalize xs[i]=x at ex
 have S:=hse i x s ex es
 obtain ⟨dx2,hob⟩:=S.ob
 refine ⟨_,(zE (yO (zQ CK hr2 (zA (pv 1) (zA (yE yK b_len xB (zA (yG (pv 0) rfl) zC)) zC))))
   (zF (zL (yR MHa TS.cl hr1 (zU zW (yG (pv 0) rfl) (pv 1) (fun _ _=>rfl)))))),?_⟩
 refine ⟨_,rfl,_,rfl,p,C,dx,_,_,rfl,hp,T.cl,T.nS,vA _ _ _,_,_,rfl,.inl ⟨_,.of hsl,rfl⟩,_,_,rfl,by omega,by rw [zGH];omega,?_⟩
 exact ⟨_,rfl,p,C,dx,_,_,rfl,hp,T.cl,T.nS,vA _ _ _,_,rfl,sl,_,i,_,rfl,rfl,hsl,xX ex,x.1,dx2,_,rfl,hob,zBY _ _ _ _,x.1,x.2,s,rfl,S,q⟩
def zEC (CS:Addr):Sp:=fun vs H Q _=>∃ (p wl:Addr) (s:SS),vs=[.ref p]/\zZ CS H p wl s/\∀ (r:Addr) (H':Hp),Rows H' r ((w6 s).map zDX)->H r=none->zD [] H H'->Q (.ref r) H'
theorem okSA (TS:xY K CS) (G:y2 K CS "askers" "Seat.askers" sSA ["self"]):yJ P w K mg base CX0 1 CS "askers" ["self"] (zEC CS):=by
 refine G.ok zEU (fun vs H Q E h=>by obtain ⟨p,wl,s,rfl,_⟩:=h;rfl) (fun f cdv A outer s0 H vs Q E hr h=>?_)
 obtain ⟨p,wl,s,rfl,S,q⟩:=h
 obtain ⟨⟨dx,hob⟩,hrw,hlen⟩:=id S
 obtain ⟨qs,hwl,hqp⟩:=id hrw
 refine ⟨_,(zE (iZ (i:=1) zEU.nd rfl (Or.inl rfl) (N:=["self","waiting"]) (sc:=zG sSA) (ix:=[]) (by decide +kernel) (xN (yG (pv 0) rfl)) (fun _ _ _ _=>(oW (zS xO (pv 0) zO (zV _)))) (fun _ _ _ _=>(yD (zA (pv 1) (zA wT zC)))))
   (zF (zL (sB (zS vK (yG (pv 0) rfl) yY (zV _)) (pv 1) (yU tS (yZ (zA (yD (zA (yG (pv 0) rfl) (zA wT zC))) zC)) (pv 1)))))),?_⟩
 refine ⟨_,rfl,p,CS,dx,_,_,rfl,hob,TS.cl,TS.nW,rA _ _ _ _,wl,rfl,⟨_,.of hwl⟩,fun c1 hc1=>?_⟩
 refine r8 (ds:=s.row) yT (fun r=>[.str r.2,.bl true]) (fun r=>decide (r.1=("asker" : Str))) (fun r _=>[some (.str r.1),some (.str r.2)]) [] (by omega) hc1 hrw ⟨[none,none],rfl,rfl⟩ (fun _ _=>rfl) ?_ ?_ ?_ ?_
 ·intro r q vs H R _ hv hq h
  match vs,hv with
  | [v1,v2],_=>exact ⟨q,_,rfl,.of hq,rfl,_,_,rfl,_,_,rfl,rfl,h⟩
 ·intro r q H R _ _ _ h
  refine ⟨_,rfl,rfl,_,rfl,?_⟩
  rw [show decide (V.str r.1=V.str "asker")=decide (r.1=("asker" : Str)) by simp]
  exact h H (zD.refl _)
 ·intro r q H R _ _ h
  exact ⟨_,rfl,by show 2 <= sizeLine;decide,fun t ht=>h t _ (zD.new ht) zB⟩
 intro H2 hR k2
 obtain ⟨ts,hts,htp⟩:=hR
 have e1:((s.row.filter fun r=>decide (r.1=("asker" : Str))).map fun r=>[V.str r.2,.bl true])=((s.row.filter fun r=>decide (r.1=("asker" : Str))).map fun r=>(r.2,true)).map zDX:=by rw [zG1];rfl
 rw [e1] at htp
 have hob2:=k2 _ _ (by simp) hob
 refine ⟨_,rfl,p,CS,dx,_,_,rfl,hob2,TS.cl,TS.nH,kT _ _ _ _,rfl,_,rfl,?_⟩
 cases eh:s.hold with
 | none=>
  refine ifT rfl ⟨_,rfl,q c1 H2 ⟨ts,hts,?_⟩ hc1 k2⟩
  unfold w6
  rw [eh]
  exact htp
 | some z=>
  refine ifF rfl ?_
  rw [eh] at hob2
  refine ⟨_,rfl,p,CS,dx,_,_,rfl,hob2,TS.cl,TS.nH,kT _ _ _ _,by show 2 <= sizeLine;decide,fun t ht=>⟨by show 1 <= sizeLine;decide,fun l1 hl1=>?_⟩⟩
  have k3:zD [] H2 (upd H2 t (.tup [.str z,.bl false])):=zD.new ht
  have e3:upd H2 t (.tup [.str z,.bl false]) t=some (.tup [.str z,.bl false]):=zB
  have hl1':upd H2 t (.tup [.str z,.bl false]) l1=none:=hl1
  have k4:zD [] (upd H2 t (.tup [.str z,.bl false])) (upd (upd H2 t (.tup [.str z,.bl false])) l1 (.lst [.ref t])):=zD.new hl1'
  have e4:upd (upd H2 t (.tup [.str z,.bl false])) l1 (.lst [.ref t]) l1=some (.lst [.ref t]):=zB
  have e34:=k4 _ _ (by simp) e3
  have k24:=k3.trans k4
  have lt:=zP htp
  rw [zGH,zGH] at lt
  have lf:=zHF (fun r:Str × Str=>decide (r.1=("asker" : Str))) s.row
  refine ⟨_,rfl,l1,c1,_,_,rfl,rfl,e4,k24 _ _ (by simp) hts,by rw [zGH,sizeLine_eq];show 1 + _ <= _;omega,fun l2 hl2=>?_⟩
  have k5:zD [] (upd (upd H2 t (.tup [.str z,.bl false])) l1 (.lst [.ref t])) (upd (upd (upd H2 t (.tup [.str z,.bl false])) l1 (.lst [.ref t])) l2 (.lst ((t :: ts).map V.ref))):=zD.new hl2
  refine q l2 _ ⟨t :: ts,zB,?_⟩ (k2.none (by simp) (k24.none (by simp) hl2)) (k2.trans (k24.trans k5))
  unfold w6
  rw [eh]
  exact .cons (k5 _ _ (by simp) e34) (L2.Paired.mapP htp fun u r e=>(k24.trans k5) _ _ (by simp) e)
end
abbrev j3:Stmt:=top 18
abbrev aG:Stmt:=yL (top 19) 13
abbrev jZ:Stmt:=yL (top 19) 14
section
variable {P:Program} {w:World} {K:PySem.W.Frag} {mg:Str->Option Value} {base:Heap} {C:Addr}
theorem zCM:zN ["house"] ["house"] (zG j3):=⟨rfl,rfl,rfl,by decide +kernel,rfl,by decide +kernel,by decide +kernel⟩
theorem zDE (G:y0 K mg "check_house" j3 ["house"]) (CI:Cal P w K mg base CX0 1 "is_name" ["thing"] (tN K)):Cal P w K mg base CX0 2 "check_house" ["house"] t6:=by
 refine G.ok zCM (fun vs H Q E h=>by obtain ⟨z,rfl,_⟩:=h;rfl) (fun f cdv A outer s0 H vs Q E hr h=>?_)
 obtain ⟨z,rfl,h1,h2,q⟩:=h
 have hr1:yB 1 _:=hr.mono (by decide)
 refine ⟨_,(zF (yC (wA (xV (zQ CI hr1 (zA (pv 0) zC)))) (zF xA) zT)),?_⟩
 refine ⟨_,rfl,_,"str",rfl,.str z,(fun z' e=>by cases e;exact h2),fun H1 k1=>⟨_,rfl,?_⟩⟩
 exact ifF (by show (!vM z)=false;rw [h1];rfl) (q H1 k1)
theorem zE6:zN ["self","house"] ["self","house"] (zG aG):=⟨rfl,rfl,rfl,by decide +kernel,rfl,by decide +kernel,by decide +kernel⟩
abbrev hsR (z:Str):Str × Str:=(("house" : Str),z)
def fR (C:Addr):Sp:=fun vs H Q _=>∃ (p wl:Addr) (s:SS) (z:Str),vs=[.ref p,.str z]/\zZ C H p wl s/\vM z=true/\z.length <= 1000/\s.ptr ≠ some z/\(hsR z) ∉ s.row/\s.row.length < 1000 /\
 ∀ (r:Addr) (H':Hp),zZ C H' p wl (zX { s with row:=s.row ++ [(hsR z)] }).1->Rows H' r (zX { s with row:=s.row ++ [(hsR z)] }).2->H r=none->zD [p,wl] H H'->Q (.ref r) H'
theorem zFP (T:xY K C) (G:y2 K C "ask" "Seat.ask" aG ["self","house"]) (CC:Cal P w K mg base CX0 2 "check_house" ["house"] t6) (MM:yJ P w K mg base CX0 2 C "move_on" ["self"] (sP C)) :
  yJ P w K mg base CX0 3 C "ask" ["self","house"] (fR C):=by
 refine G.ok zE6 (fun vs H Q E h=>by obtain ⟨p,wl,s,z,rfl,_⟩:=h;rfl) (fun f cdv A outer s0 H vs Q E hr h=>?_)
 obtain ⟨p,wl,s,z,rfl,S0,hn,hl,hh,hi,hlen,q⟩:=h
 have hr2:yB 2 _:=hr.mono (by decide)
 have hu:=v9 hr
 refine ⟨_,(zE (yO (zQ CC hr2 (zA (pv 1) zC)))
   (zE (yC (zS xO (pv 1) (yG (pv 0) rfl) (zV _)) (zF xA) zT)
   (zE (yC (zS (oY hu) (yD (zA zO (zA (pv 1) zC))) (yG (pv 0) rfl) (by with_unfolding_all rfl)) (zF xA) zT)
   (zE (yO (vL PySem.F.plainAttrs_list PySem.F.slot_list_append PySem.F.type_list_append xF (yG (pv 0) rfl) (zA (yD (zA zO (zA (pv 1) zC))) zC)))
   (zF (zL (yR MM T.cl hr2 (pv 0)))))))),?_⟩
 refine ⟨_,rfl,z,rfl,hn,hl,fun H1 k1=>?_⟩
 have S:=S0.keep k1
 have npw:=S.ne
 obtain ⟨⟨dx,hob⟩,⟨ps,hwl,hpr⟩,_⟩:=id S
 refine ⟨_,rfl,_,rfl,p,C,dx,_,_,rfl,hob,T.cl,T.nP,cK _ _ _ _,jQ _ _,_,rfl,?_⟩
 refine ifF (by rw [zAX];exact zGX hh) ?_
 refine ⟨_,rfl,by show 2 <= sizeLine;decide,fun t ht=>?_⟩
 have k2:zD [] H1 (upd H1 t (.tup [.str "house",.str z])):=zD.new ht
 refine ⟨_,rfl,p,C,dx,_,_,rfl,(k2 _ _ (by simp) hob),T.cl,T.nW,rA _ _ _ _,wl,t,_,s.row.map yT,rfl,rfl,(Rows.keep ⟨ps,hwl,hpr⟩ k2),zB,rfl,vB _,_,rfl,?_⟩
 refine ifF (by show ((s.row.map yT).any fun r=>eqT r (yT (hsR z)))=false;rw [uT];exact zGX hi) ?_
 refine ⟨_,rfl,p,C,dx,_,_,rfl,(k2 _ _ (by simp) hob),T.cl,T.nW,rA _ _ _ _,.inl ⟨rfl,_,.of (k2 _ _ (by simp) hwl)⟩,_,rfl,by show 2 <= sizeLine;decide,fun t2 ht2=>?_⟩
 have k3:zD [] (upd H1 t (.tup [.str "house",.str z])) (upd (upd H1 t (.tup [.str "house",.str z])) t2 (.tup [.str "house",.str z])):=zD.new ht2
 have k13:=k2.trans k3
 have wt2:wl ≠ t2:=zH (k2 _ _ (by simp) hwl) ht2
 have lps:=zP hpr
 rw [zGH] at lps
 refine ⟨wl,_,_,rfl,rfl,k13 _ _ (by simp) hwl,by rw [zGH,sizeLine_eq];omega,?_⟩
 generalize hH3:upd (upd H1 t (.tup [.str "house",.str z])) t2 (.tup [.str "house",.str z])=H3 at k3 k13 ⊢
 have h3t:H3 t2=some (.tup (yT (hsR z))):=by rw [<- hH3];exact zB
 have k4:zD [p,wl] H1 (upd H3 wl (.lst (ps.map V.ref ++ [.ref t2]))):=(k13.mono (by simp)).trans (zD.at (by simp))
 have hob4:upd H3 wl (.lst (ps.map V.ref ++ [.ref t2])) p=some (.ins C dx (xC (z4 s.ptr) wl (z4 s.hold) s.asked)):=by rw [zJ npw];exact k13 _ _ (by simp) hob
 have S4:zZ C (upd H3 wl (.lst (ps.map V.ref ++ [.ref t2]))) p wl { s with row:=s.row ++ [(hsR z)] }:=
  zZ.more (H:=H) (H1:=H1) hob4 (zK k4 (vD hob hwl) hpr) zB (by rw [zJ (Ne.symm wt2)];exact h3t) hlen
 refine ⟨_,rfl,p,dx,_,rfl,hob4,pU _ _ _ _,p,wl,_,rfl,S4,fun r H5 S5 R5 hr5 k5=>?_⟩
 have hr4:=(zM hr5).1
 exact q r H5 S5 R5 (k1.none (by simp) (k13.none (by simp) hr4)) (((k1.mono (by simp)).trans k4).trans k5)
theorem zCL:zN ["self","house","back"] ["self","house","back"] (zG jZ):=⟨rfl,rfl,rfl,by decide +kernel,rfl,by decide +kernel,by decide +kernel⟩
noncomputable def iN (s:SS) (z:Str) (b:Bool):SS:={ s with ptr:=none,asked:=false,row:=if b then s.row ++ [hsR z] else s.row }
def lY (C:Addr):Sp:=fun vs H Q _=>∃ (p wl:Addr) (s:SS) (z:Str) (b:Bool),vs=[.ref p,.str z,.bl b]/\zZ C H p wl s/\vM z=true/\z.length <= 1000/\s.ptr=some z/\s.row.length < 1000 /\
 ∀ (r:Addr) (H':Hp),zZ C H' p wl (zX (iN s z b)).1->Rows H' r (zX (iN s z b)).2->H r=none->zD [p,wl] H H'->Q (.ref r) H'
theorem zDD (T:xY K C) (G:y2 K C "come" "Seat.come" jZ ["self","house","back"]) (CC:Cal P w K mg base CX0 2 "check_house" ["house"] t6) (MM:yJ P w K mg base CX0 2 C "move_on" ["self"] (sP C)) (b_isinstance:Blt mg "isinstance") (b_bool:Blt mg "bool") :
  yJ P w K mg base CX0 3 C "come" ["self","house","back"] (lY C):=by
 refine G.ok zCL (fun vs H Q E h=>by obtain ⟨p,wl,s,z,b,rfl,_⟩:=h;rfl) (fun f cdv A outer s0 H vs Q E hr h=>?_)
 obtain ⟨p,wl,s,z,b,rfl,S0,hn,hl,hh,hlen,q⟩:=h
 have hr2:yB 2 _:=hr.mono (by decide)
 refine ⟨_,(zE (yO (zQ CC hr2 (zA (pv 1) zC)))
   (zE (yC (zS mP (pv 1) (yG (pv 0) rfl) (zV _)) (zF xA) zT)
   (zE (yC (wA (xV (yE y3 b_isinstance yM (zA (pv 2) (zA (v7 b_bool qC) zC))))) (zF xA) zT)
   (zE (wW (pv 0) yY rfl)
   (zE (wW (pv 0) wT rfl)
   (zE (yC (xV (pv 2)) (zF (yO (vL PySem.F.plainAttrs_list PySem.F.slot_list_append PySem.F.type_list_append xF (yG (pv 0) rfl) (zA (yD (zA zO (zA (pv 1) zC))) zC)))) zT)
   (zF (zL (yR MM T.cl hr2 (pv 0)))))))))),?_⟩
 refine ⟨_,rfl,z,rfl,hn,hl,fun H1 k1=>?_⟩
 have S:=S0.keep k1
 have npw:=S.ne
 obtain ⟨⟨dx,hob⟩,⟨ps,hwl,hpr⟩,_⟩:=id S
 refine ⟨_,rfl,_,rfl,p,C,dx,_,_,rfl,hob,T.cl,T.nP,cK _ _ _ _,jQ _ _,_,rfl,?_⟩
 refine ifF (by rw [zAX,zGW hh];rfl) ?_
 refine ⟨_,rfl,_,_,_,_,rfl,(y4.bl (K:=K) (H:=H1) b).ty,(y4.bl (K:=K) (H:=H1) b).kit.2.2.1,_,rfl,?_⟩
 refine ifF rfl ?_
 refine ⟨_,rfl,p,C,dx,_,rfl,hob,T.cl,T.nP,by show 4 < 1000;decide,?_⟩
 rw [zBL]
 refine ⟨_,rfl,p,C,dx,_,rfl,zB,T.cl,T.nA,by show 4 < 1000;decide,?_⟩
 dsimp only
 rw [eF,vZ]
 have k2:zD [p,wl] H1 (upd H1 p (.ins C dx (xC .non wl (z4 s.hold) false))):=zD.at (by simp)
 have S2:zZ C (upd H1 p (.ins C dx (xC .non wl (z4 s.hold) false))) p wl { s with ptr:=none,asked:=false }:=S.stay (dx:=dx) { s with ptr:=none,asked:=false } zB (by rw [zJ (Ne.symm npw)]) rfl k2
 have hob2:upd H1 p (.ins C dx (xC .non wl (z4 s.hold) false)) p=some (.ins C dx (xC .non wl (z4 s.hold) false)):=zB
 have hwl2:upd H1 p (.ins C dx (xC .non wl (z4 s.hold) false)) wl=some (.lst (ps.map V.ref)):=by rw [zJ (Ne.symm npw)];exact hwl
 have hpr2:=zK k2 (vD hob hwl) hpr
 have n12:∀ r,upd H1 p (.ins C dx (xC .non wl (z4 s.hold) false)) r=none->H1 r=none:=fun r h=>(zM h).1
 generalize upd H1 p (.ins C dx (xC .non wl (z4 s.hold) false))=H2 at k2 S2 hob2 hwl2 hpr2 n12 ⊢
 refine ⟨_,rfl,_,rfl,?_⟩
 cases b with
 | false=>
  refine ifF rfl ?_
  refine ⟨_,rfl,p,dx,_,rfl,hob2,pU _ _ _ _,p,wl,_,rfl,S2,fun r H5 S5 R5 hr5 k5=>?_⟩
  exact q r H5 S5 R5 (k1.none (by simp) (n12 r hr5)) (((k1.mono (by simp)).trans k2).trans k5)
 | true=>
  refine ifT rfl ?_
  refine ⟨_,rfl,p,C,dx,_,_,rfl,hob2,T.cl,T.nW,rA _ _ _ _,.inl ⟨rfl,_,.of hwl2⟩,_,rfl,by show 2 <= sizeLine;decide,fun t2 ht2=>?_⟩
  have k3:zD [] H2 (upd H2 t2 (.tup [.str "house",.str z])):=zD.new ht2
  have wt2:wl ≠ t2:=zH hwl2 ht2
  have lps:=zP hpr
  rw [zGH] at lps
  refine ⟨wl,_,_,rfl,rfl,k3 _ _ (by simp) hwl2,by rw [zGH,sizeLine_eq];omega,?_⟩
  have n23:∀ r,upd H2 t2 (.tup [.str "house",.str z]) r=none->H2 r=none:=fun r h=>(zM h).1
  have h3t:upd H2 t2 (.tup [.str "house",.str z]) t2=some (.tup (yT (hsR z))):=zB
  generalize upd H2 t2 (.tup [.str "house",.str z])=H3 at k3 n23 h3t ⊢
  have k4:zD [p,wl] H2 (upd H3 wl (.lst (ps.map V.ref ++ [.ref t2]))):=(k3.mono (by simp)).trans (zD.at (by simp))
  have hob4:upd H3 wl (.lst (ps.map V.ref ++ [.ref t2])) p=some (.ins C dx (xC (z4 none) wl (z4 s.hold) false)):=by rw [zJ npw];exact k3 _ _ (by simp) hob2
  have S4:zZ C (upd H3 wl (.lst (ps.map V.ref ++ [.ref t2]))) p wl (iN s z true):=
   zZ.more (s:={ s with ptr:=none,asked:=false }) (H:=H) (H1:=H2) hob4 (zK k4 (vD hob2 hwl2) hpr2) zB (by rw [zJ (Ne.symm wt2)];exact h3t) hlen
  refine ⟨_,rfl,p,dx,_,rfl,hob4,pU _ _ _ _,p,wl,_,rfl,S4,fun r H5 S5 R5 hr5 k5=>?_⟩
  have hr4:=(zM hr5).1
  exact q r H5 S5 R5 (k1.none (by simp) (n12 r (n23 r hr4))) ((((k1.mono (by simp)).trans k2).trans k4).trans k5)
end
theorem iH (a:V) (wl:Addr) (h:V) (k:Bool):(xC a wl h k).lookup ("want" : Str)=none:=rfl
theorem zBV (a:V) (wl:Addr) (h:V) (k:Bool):(xC a wl h k).lookup ("leave" : Str)=none:=rfl
theorem zBW (a:V) (wl:Addr) (h:V) (k:Bool):(xC a wl h k).lookup ("done" : Str)=none:=rfl
theorem cM (a:V) (wl:Addr) (h:V) (k:Bool):(xC a wl h k).lookup ("ask" : Str)=none:=rfl
theorem zBX (a:V) (wl:Addr) (h:V) (k:Bool):(xC a wl h k).lookup ("come" : Str)=none:=rfl
theorem zF8 (a:V) (wl:Addr) (h:V) (k:Bool):(xC a wl h k).lookup ("crowd" : Str)=none:=rfl
inductive DD where
 | want (z:Str)
 | leave (z:Str)
 | done (z:Str)
 | ask (z:Str)
 | come (z:Str) (b:Bool)
noncomputable def deedV:DD->List V
 | .want z=>[.str "want",.str z]
 | .leave z=>[.str "leave",.str z]
 | .done z=>[.str "done",.str z]
 | .ask z=>[.str "ask",.str z]
 | .come z b=>[.str "come",.str z,.bl b]
noncomputable def sJ (row:List (Str × Str)):DD->List (Str × Str)
 | .want z=>row ++ [y9 z]
 | .leave z=>row.filter fun x=>decide (x ≠ y9 z)
 | .done _=>row
 | .ask z=>row ++ [hsR z]
 | .come z b=>if b then row ++ [hsR z] else row
noncomputable def yQ (s:SS):DD->SS
 | .want z=>{ s with row:=s.row ++ [y9 z] }
 | .leave z=>{ s with row:=s.row.filter fun x=>decide (x ≠ y9 z) }
 | .done _=>{ s with hold:=none }
 | .ask z=>{ s with row:=s.row ++ [hsR z] }
 | .come z b=>iN s z b
def jE (s:SS):DD->Prop
 | .want z=>s.hold ≠ some z/\y9 z ∉ s.row/\xE z
 | .leave z=>y9 z ∈ s.row
 | .done z=>s.hold=some z
 | .ask z=>s.ptr ≠ some z/\hsR z ∉ s.row/\xE z
 | .come z _=>s.ptr=some z
structure rE (s:SS):Prop where
 p:∀ z,s.ptr=some z->xE z
 h:∀ z,s.hold=some z->xE z
 r:∀ x ∈ s.row,(x.1="asker" \/ x.1="house")/\xE x.2
 u:∀ z,s.row.count (y9 z) <= 1
theorem gM (s:SS) (d:DD):(yQ s d).row=sJ s.row d:=by cases d <;> rfl
theorem iB (y z:Str):hsR y ≠ y9 z:=by
 intro e
 have e1:("house" : Str)="asker":=congrArg Prod.fst e
 exact absurd e1 (by decide +kernel)
theorem nK {l:List (Str × Str)} {x a:Str × Str} (h:x ≠ a):(l ++ [x]).count a=l.count a:=by
 rw [List.count_append,List.count_cons,List.count_nil]
 have:(x == a)=false:=by simpa using h
 rw [this];simp
theorem rE.more {s:SS} (I:rE s) {x:Str × Str} (hx:(x.1="asker" \/ x.1="house")/\xE x.2) (hn:∀ z,x=y9 z->x ∉ s.row):rE { s with row:=s.row ++ [x] }:=by
 refine ⟨I.p,I.h,fun y hy=>?_,fun z=>?_⟩
 ·rcases zGY.mp hy with q | q
  ·exact I.r y q
  ·rw [zGK.mp q];exact hx
 ·by_cases e:x=y9 z
  ·have h0:s.row.count (y9 z)=0:=List.count_eq_zero.mpr (by rw [<- e];exact hn z e)
   show (s.row ++ [x]).count (y9 z) <= 1
   rw [List.count_append,h0,e]
   simp
  ·show (s.row ++ [x]).count (y9 z) <= 1
   rw [nK e];exact I.u z
theorem rE.sub {s s':SS} (I:rE s) (hp:∀ z,s'.ptr=some z->xE z) (hh:∀ z,s'.hold=some z->xE z) (hs:List.Sublist s'.row s.row):rE s':=
 ⟨hp,hh,fun x hx=>I.r x (hs.subset hx),fun z=>zGS (hs.count_le _) (I.u z)⟩
theorem cU {s:SS} (I:rE s):∀ {d:DD},jE s d->rE (yQ s d)
 | .want z,h=>I.more ⟨.inl rfl,h.2.2⟩ fun _ _=>h.2.1
 | .leave z,_=>I.sub I.p I.h List.filter_sublist
 | .done z,_=>I.sub I.p (fun z e=>by cases e) (List.Sublist.refl _)
 | .ask z,h=>I.more ⟨.inr rfl,h.2.2⟩ fun y e=>absurd e (iB z y)
 | .come z b,h=>by
  have g:=I.p z h
  have I0:rE { s with ptr:=none,asked:=false }:=I.sub (fun z e=>by cases e) I.h (List.Sublist.refl _)
  cases b with
  | false=>exact I0
  | true=>exact I0.more (x:=hsR z) ⟨.inr rfl,g⟩ fun y e=>absurd e (iB z y)
theorem dI {s:SS} (I:rE s):rE (zX s).1:=by
 unfold zX
 split
 ·exact I
 ·split
  ·split
   ·rename_i hne _ _ hh
    unfold xU
    split
    ·exact I
    ·rename_i k n rest er
     have hm:(k,n) ∈ s.row:=by rw [er];simp
     have gn:=(I.r _ hm).2
     have hsub:List.Sublist rest s.row:=by rw [er];exact List.sublist_cons_self _ _
     split
     ·exact I.sub I.p (fun z e=>by cases e;exact gn) hsub
     ·exact I.sub (fun z e=>by cases e;exact gn) I.h hsub
   ·exact I
  ·split
   ·exact I
   ·exact I.sub I.p I.h (List.Sublist.refl _)
theorem kY (row:List (Str × Str)) (d:DD):(sJ row d).length <= row.length + 1:=by
 cases d with
 | want z=>simp [sJ]
 | leave z=>exact zGS (zHF _ _) (Nat.le_succ _)
 | done z=>exact Nat.le_succ _
 | ask z=>simp [sJ]
 | come z b=>cases b <;> simp [sJ]
theorem dH (s:SS):(zX s).1.row.length <= s.row.length:=by
 unfold zX
 split
 ·exact zGQ _
 ·split
  ·split
   ·unfold xU
    split
    ·exact zGQ _
    ·rename_i k n rest er
     split <;> (show rest.length <= s.row.length;rw [er];simp)
   ·exact zGQ _
  ·split <;> exact zGQ _
theorem dJ (s:SS):(∀ r ∈ (zX s).2,r.all y1=true/\r.length <= 2000)/\(zX s).2.length <= 2000:=by
 unfold zX
 split
 ·exact ⟨fun r hr=>absurd hr zHB,zGR _⟩
 ·split
  ·split
   ·unfold xU
    split
    ·exact ⟨fun r hr=>by rw [zGK.mp hr];exact ⟨rfl,zGR _⟩,by show 1 <= 2000;decide⟩
    ·split
     ·exact ⟨fun r hr=>by rw [zGK.mp hr];exact ⟨rfl,by show 2 <= 2000;decide⟩,by show 1 <= 2000;decide⟩
     ·exact ⟨fun r hr=>by rw [zGK.mp hr];exact ⟨rfl,by show 3 <= 2000;decide⟩,by show 1 <= 2000;decide⟩
   ·exact ⟨fun r hr=>absurd hr zHB,zGR _⟩
  ·split
   ·exact ⟨fun r hr=>absurd hr zHB,zGR _⟩
   ·exact ⟨fun r hr=>by rw [zGK.mp hr];exact ⟨rfl,by show 2 <= 2000;decide⟩,by show 1 <= 2000;decide⟩
theorem vP:∀ (l:List (Str × Str)) (a:Str × Str) (j:Nat),l[j]?=some a->(∀ m:Nat,m < j->l[m]? ≠ some a)->l.count a <= 1->l.filter (fun x=>decide (x ≠ a))=l.eraseIdx j
 | [],a,j,h,_,_=>by simp at h
 | y :: l,a,0,h,_,hc=>by
  have e:y=a:=by simpa using h
  subst e
  have h0:l.count y=0:=by
   rw [List.count_cons_self] at hc;omega
  have hn:y ∉ l:=List.count_eq_zero.mp h0
  rw [List.filter_cons]
  simp only [ne_eq,not_true_eq_false,decide_false,Bool.false_eq_true,if_false,List.eraseIdx_zero,List.tail_cons]
  exact List.filter_eq_self.mpr fun x hx=>zGW fun e=>hn (e ▸ hx)
 | y :: l,a,j + 1,h,hno,hc=>by
  have ne:y ≠ a:=fun e=>hno 0 (by omega) (by simp [e])
  have hc':l.count a <= 1:=zGS (List.Sublist.count_le _ (List.sublist_cons_self y l)) hc
  rw [List.filter_cons,if_pos (zGW ne),vP l a j (by simpa using h) (fun m hm e=>hno (m + 1) (by omega) (by simpa using e)) hc']
  rfl
noncomputable def uF (row:List (Str × Str)):List Str:=(row.filter fun r=>decide (r.1=("asker" : Str))).map (·.2)
noncomputable def wN (s:SS):List Str:=(w6 s).map (·.1)
theorem wI (s:SS):wN s=(match s.hold with | some z=>[z] | none=>[]) ++ uF s.row:=by
 unfold wN w6 uF
 rw [zGT,zG1]
 cases s.hold <;> rfl
theorem lP (row:List (Str × Str)) (z:Str):uF (row ++ [y9 z])=uF row ++ [z]:=by
 unfold uF
 rw [List.filter_append,zGT]
 simp
theorem iO (row:List (Str × Str)) (z:Str):uF (row ++ [hsR z])=uF row:=by
 unfold uF
 rw [List.filter_append,zGT]
 have:(("house" : Str)="asker")=False:=by simp;decide +kernel
 simp [this]
theorem dL {row:List (Str × Str)} {z:Str}:z ∈ uF row ↔ y9 z ∈ row:=by
 unfold uF
 rw [List.mem_map]
 constructor
 ·rintro ⟨⟨k,y⟩,h,rfl⟩
  obtain ⟨h1,h2⟩:=List.mem_filter.mp h
  have e:k=("asker" : Str):=of_decide_eq_true h2
  subst e;exact h1
 ·exact fun h=>⟨y9 z,List.mem_filter.mpr ⟨h,by simp⟩,rfl⟩
theorem xD {s:SS} {z:Str}:z ∈ wN s ↔ (s.hold=some z \/ y9 z ∈ s.row):=by
 rw [wI,zGY,dL]
 cases s.hold with
 | none=>simp
 | some y=>simp [eq_comm]
theorem qN (s:SS):wN (zX s).1=wN s:=by
 unfold zX
 split
 ·rfl
 ·split
  ·split
   ·rename_i hh
    unfold xU
    split
    ·rfl
    ·rename_i k n rest er
     by_cases hk:k=("asker" : Str)
     ·simp only [if_pos hk]
      rw [wI,wI,hh,er]
      show [n] ++ uF rest=[] ++ uF ((k,n) :: rest)
      unfold uF
      rw [List.filter_cons,if_pos (by rw [hk];simp)];rfl
     ·simp only [if_neg hk]
      rw [wI,wI,hh,er]
      show [] ++ uF rest=[] ++ uF ((k,n) :: rest)
      unfold uF
      rw [List.filter_cons,if_neg (by simpa using hk)]
   ·rfl
  ·split <;> rfl
noncomputable def y8 (ss:List SS):List Str:=ss.flatMap wN
noncomputable def wC:Nat->List SS->List (Str × List V)
 | _,[]=>[]
 | i,s :: ss=>(w6 s).map (fun a=>(a.1,[V.int (i:Int),V.bl a.2])) ++ wC (i + 1) ss
theorem yX:∀ (ss:List SS) (i:Nat),(wC i ss).map (·.1)=y8 ss
 | [],_=>rfl
 | s :: ss,i=>by
  unfold wC y8
  rw [zGT,yX ss,zG1];rfl
theorem rB:∀ (ss:List SS) (i:Nat) (s:SS),wC i (ss ++ [s])=wC i ss ++ (w6 s).map (fun a=>(a.1,[V.int ((i + ss.length:Nat):Int),V.bl a.2]))
 | [],i,s=>by simp [wC]
 | x :: ss,i,s=>by
  show _ ++ wC (i + 1) (ss ++ [s])=_
  rw [rB ss,<- zHC,zG2,show i + 1 + ss.length=i + (ss.length + 1) by omega];rfl
theorem wU:∀ {ss:List SS} {i:Nat} {r:Str × List V},r ∈ wC i ss ↔ ∃ (k:Nat) (s:SS) (b:Bool),ss[k]?=some s/\(r.1,b) ∈ w6 s/\r.2=[V.int ((i + k:Nat):Int),V.bl b]
 | [],i,r=>by simp [wC]
 | x :: ss,i,r=>by
  unfold wC
  rw [zGY,wU (ss:=ss),List.mem_map]
  constructor
  ·rintro (⟨a,ha,rfl⟩ | ⟨k,s,b,h1,h2,h3⟩)
   ·exact ⟨0,x,a.2,rfl,ha,rfl⟩
   ·exact ⟨k + 1,s,b,by simpa using h1,h2,by rw [h3,show i + 1 + k=i + (k + 1) by omega]⟩
  ·rintro ⟨k,s,b,h1,h2,h3⟩
   cases k with
   | zero=>
    have e:x=s:=by simpa using h1
    subst e
    exact .inl ⟨_,h2,Prod.ext rfl h3.symm⟩
   | succ k=>exact .inr ⟨k,s,b,by simpa using h1,h2,by rw [h3,show i + 1 + k=i + (k + 1) by omega]⟩
theorem wB {ss:List SS} {z:Str}:z ∈ y8 ss ↔ ∃ (i:Nat) (s:SS),ss[i]?=some s/\z ∈ wN s:=by
 unfold y8
 rw [List.mem_flatMap]
 constructor
 ·rintro ⟨s,hs,hz⟩
  obtain ⟨i,hi,e⟩:=List.getElem_of_mem hs
  exact ⟨i,s,by rw [zGI hi,e],hz⟩
 ·rintro ⟨i,s,h,hz⟩;exact ⟨s,zGL h,hz⟩
theorem u3:∀ {ss:List SS} {i j:Nat} {s s':SS} {z:Str},(y8 ss).Nodup->ss[i]?=some s->ss[j]?=some s'->z ∈ wN s->z ∈ wN s'->i=j
 | [],_,_,_,_,_,_,h,_,_,_=>by simp at h
 | x :: ss,i,j,s,s',z,nd,h1,h2,z1,z2=>by
  obtain ⟨_,nd2,dj⟩:=List.nodup_append.mp (show (wN x ++ y8 ss).Nodup from nd)
  cases i with
  | zero=>
   cases j with
   | zero=>rfl
   | succ j=>
    have e:x=s:=by simpa using h1
    subst e
    exact absurd rfl (dj z z1 z (wB.mpr ⟨j,s',by simpa using h2,z2⟩))
  | succ i=>
   cases j with
   | zero=>
    have e:x=s':=by simpa using h2
    subst e
    exact absurd rfl (dj z z2 z (wB.mpr ⟨i,s,by simpa using h1,z1⟩))
   | succ j=>exact congrArg Nat.succ (u3 (s:=s) (s':=s') (z:=z) nd2 (by simpa using h1) (by simpa using h2) z1 z2)
theorem mV:∀ {ss:List SS} {i:Nat} {s s':SS},ss[i]?=some s->(wN s').Sublist (wN s)->(y8 (ss.set i s')).Sublist (y8 ss)
 | [],_,_,_,h,_=>by simp at h
 | x :: ss,0,s,s',h,l=>by
  have e:x=s:=by simpa using h
  subst e
  exact List.Sublist.append l (List.Sublist.refl _)
 | x :: ss,i + 1,s,s',h,l=>List.Sublist.append (List.Sublist.refl (wN x)) (mV (ss:=ss) (i:=i) (by simpa using h) l)
theorem pP:∀ {ss:List SS} {i:Nat} {s s':SS} {z:Str},ss[i]?=some s->wN s'=wN s ++ [z]->(y8 (ss.set i s')).Perm (z :: y8 ss)
 | [],_,_,_,_,h,_=>by simp at h
 | x :: ss,0,s,s',z,h,l=>by
  have e:x=s:=by simpa using h
  subst e
  show (wN s' ++ y8 ss).Perm (z :: (wN x ++ y8 ss))
  rw [l,zHC]
  exact List.perm_middle
 | x :: ss,i + 1,s,s',z,h,l=>by
  show (wN x ++ y8 (ss.set i s')).Perm (z :: (wN x ++ y8 ss))
  exact (List.Perm.append_left _ (pP (ss:=ss) (by simpa using h) l)).trans List.perm_middle
structure vY (k:Nat) (ss:List SS):Prop where
 si:∀ s ∈ ss,rE s
 nd:(y8 ss).Nodup
 ln:(y8 ss).length <= k
 rl:∀ s ∈ ss,s.row.length <= k
noncomputable def pB (s:SS):Nat:=s.row.length + (if s.hold=none then 0 else 1)
noncomputable def uD (s:SS) (i:Nat):List V:=[.int (pB s:Int),.bl (decide (s.ptr ≠ none)),.int (i:Int)]
noncomputable def x9:Nat->List SS->List (List V)
 | _,[]=>[]
 | i,s :: ss=>uD s i :: x9 (i + 1) ss
theorem vS:∀ (ss:List SS) (i:Nat),(x9 i ss).length=ss.length
 | [],_=>rfl
 | _ :: ss,i=>by unfold x9;rw [zG2,vS ss];rfl
theorem uG:∀ {ss:List SS} {i k:Nat} {s:SS},ss[k]?=some s->(x9 i ss)[k]?=some (uD s (i + k))
 | [],_,_,_,h=>by simp at h
 | x :: ss,i,0,s,h=>by
  have e:x=s:=by simpa using h
  subst e;rfl
 | x :: ss,i,k + 1,s,h=>by
  show (x9 (i + 1) ss)[k]?=_
  rw [uG (i:=i + 1) (by simpa using h),show i + 1 + k=i + (k + 1) by omega]
theorem qI:∀ (ss:List SS) (i:Nat) (s:SS),x9 i (ss ++ [s])=x9 i ss ++ [uD s (i + ss.length)]
 | [],i,s=>rfl
 | x :: ss,i,s=>by
  show uD x i :: x9 (i + 1) (ss ++ [s])=_
  rw [qI ss,show i + 1 + ss.length=i + (ss.length + 1) by omega];rfl
theorem qJ:∀ {ss:List SS} {i:Nat},∀ r ∈ x9 i ss,∃ (a:Int) (b:Bool) (c:Int),r=[.int a,.bl b,.int c]
 | [],_,r,h=>by cases h
 | x :: ss,i,r,h=>by
  rcases List.mem_cons.mp h with rfl | h
  ·exact ⟨_,_,_,rfl⟩
  ·exact qJ r h
noncomputable def rN (ss:List SS):Nat:=pE (x9 0 ss)
theorem uS (bt:Nat->Nat->Bool):∀ k,argBest bt k <= k
 | 0=>zGQ _
 | k + 1=>by
  unfold argBest
  split
  ·exact zGQ _
  ·exact Nat.le_succ_of_le (uS bt k)
theorem lN {ss:List SS} (h:ss ≠ []):rN ss < ss.length:=by
 unfold rN pE
 rw [vS]
 have:=uS (fun i j=>uP ((x9 0 ss).getD i []) ((x9 0 ss).getD j [])) (ss.length - 1)
 have:0 < ss.length:=zG7.mpr h
 omega
noncomputable def vH (s:SS):List V:=[.int (pB s:Int),.int (if s.ptr=none then 0 else 1)]
noncomputable def bt2 (ss:List SS) (i j:Nat):Bool:=uP ((ss.map vH).getD i []) ((ss.map vH).getD j [])
theorem dR (s t:SS) {i j:Nat} (h:j <= i):uP (uD s i) (uD t j)=uP (vH s) (vH t):=by
 have hij:¬ ((i:Int) < j):=by omega
 unfold uD vH
 simp only [uP,eqV,ltF]
 cases s.ptr <;> cases t.ptr <;> simp [hij]
theorem lM (ss:List SS):∀ k,k < ss.length->argBest (fun i j=>uP ((x9 0 ss).getD i []) ((x9 0 ss).getD j [])) k=argBest (bt2 ss) k
 | 0,_=>rfl
 | k + 1,h=>by
  unfold argBest
  rw [lM ss k (by omega)]
  have l:=uS (bt2 ss) k
  generalize argBest (bt2 ss) k=b at l
  have hb:b < ss.length:=by omega
  have e1:uP ((x9 0 ss).getD (k + 1) []) ((x9 0 ss).getD b [])=bt2 ss (k + 1) b:=by
   unfold bt2
   rw [zGM,zGM,uG (zGI h),uG (zGI hb),zGM,zGM,zGN,zGN,zGI h,zGI hb]
   exact dR _ _ (by omega)
  rw [e1]
theorem zA5 {ss:List SS} (h:ss ≠ []):rN ss=argBest (bt2 ss) (ss.length - 1):=by
 have:0 < ss.length:=zG7.mpr h
 unfold rN pE
 rw [vS]
 exact lM ss _ (by omega)
inductive HD where
 | want (z:Str) (r:Option Nat)
 | leave (z:Str)
 | done (z:Str)
 | ask (z:Str) (r:Nat)
 | come (z:Str) (r:Nat) (b:Bool)
noncomputable def rV:Option Nat->V
 | none=>.non
 | some i=>.int (i:Int)
noncomputable def hdV:HD->List V
 | .want z r=>[.str "want",.str z,rV r]
 | .leave z=>[.str "leave",.str z]
 | .done z=>[.str "done",.str z]
 | .ask z r=>[.str "ask",.str z,.int (r:Int)]
 | .come z r b=>[.str "come",.str z,.int (r:Int),.bl b]
inductive AtR (nb:List Str) (ss:List SS):HD->Nat->SS->DD->Prop
 | any {z:Str} {i:Nat} {s:SS}:ss[i]?=some s->i=rN ss->xE z->z ∉ y8 ss->AtR nb ss (.want z none) i s (.want z)
 | want {z:Str} {i:Nat} {s:SS}:ss[i]?=some s->xE z->z ∉ y8 ss->AtR nb ss (.want z (some i)) i s (.want z)
 | leave {z:Str} {i:Nat} {s:SS}:ss[i]?=some s->y9 z ∈ s.row->AtR nb ss (.leave z) i s (.leave z)
 | done {z:Str} {i:Nat} {s:SS}:ss[i]?=some s->s.hold=some z->AtR nb ss (.done z) i s (.done z)
 | ask {z:Str} {i:Nat} {s:SS}:ss[i]?=some s->z ∈ nb->xE z->s.ptr ≠ some z->hsR z ∉ s.row->AtR nb ss (.ask z i) i s (.ask z)
 | come {z:Str} {i:Nat} {s:SS} {b:Bool}:ss[i]?=some s->z ∈ nb->s.ptr=some z->AtR nb ss (.come z i b) i s (.come z b)
theorem AtR.here {nb:List Str} {ss:List SS} {h:HD} {i:Nat} {s:SS} {d:DD} (a:AtR nb ss h i s d):ss[i]?=some s:=by cases a <;> assumption
theorem AtR.ok {nb:List Str} {ss:List SS} {h:HD} {i:Nat} {s:SS} {d:DD} (a:AtR nb ss h i s d):jE s d:=by
 have no:∀ {z:Str},ss[i]?=some s->z ∉ y8 ss->s.hold ≠ some z/\y9 z ∉ s.row:=fun hs hz=>by
  have:=fun q=>hz (wB.mpr ⟨i,s,hs,xD.mpr q⟩)
  exact ⟨fun e=>this (.inl e),fun e=>this (.inr e)⟩
 cases a with
 | any h _ g n=>exact ⟨(no h n).1,(no h n).2,g⟩
 | want h g n=>exact ⟨(no h n).1,(no h n).2,g⟩
 | leave h m=>exact m
 | done h m=>exact m
 | ask h m g a b=>exact ⟨a,b,g⟩
 | come h m a=>exact a
theorem vY.deed {nb:List Str} {k:Nat} {ss:List SS} {h:HD} {i:Nat} {s:SS} {d:DD} (I:vY k ss) (a:AtR nb ss h i s d):vY (k + 1) (ss.set i (zX (yQ s d)).1):=by
 have hs:=a.here
 have ms:=zGL hs
 have si:=I.si s ms
 have nm:=qN (yQ s d)
 have sub:∀ l:(wN (yQ s d)).Sublist (wN s),(y8 (ss.set i (zX (yQ s d)).1)).Nodup/\(y8 (ss.set i (zX (yQ s d)).1)).length <= k + 1:=fun l=>by
  have sl:=mV (s':=(zX (yQ s d)).1) hs (by rw [nm];exact l)
  exact ⟨I.nd.sublist sl,Nat.le_succ_of_le (zGS sl.length_le I.ln)⟩
 have more:∀ z,wN (yQ s d)=wN s ++ [z]->z ∉ y8 ss->(y8 (ss.set i (zX (yQ s d)).1)).Nodup/\(y8 (ss.set i (zX (yQ s d)).1)).length <= k + 1:=fun z e hz=>by
  have p:=pP (s':=(zX (yQ s d)).1) hs (by rw [nm];exact e)
  exact ⟨p.nodup_iff.mpr (List.nodup_cons.mpr ⟨hz,I.nd⟩),by rw [p.length_eq,zG2];exact Nat.succ_le_succ I.ln⟩
 have both:(y8 (ss.set i (zX (yQ s d)).1)).Nodup/\(y8 (ss.set i (zX (yQ s d)).1)).length <= k + 1:=by
  cases a with
  | @any z _ _ _ _ _ n=>exact more z (by rw [wI,wI];show _ ++ uF (s.row ++ [y9 z])=_;rw [lP,<- zHC];rfl) n
  | @want z _ _ _ _ n=>exact more z (by rw [wI,wI];show _ ++ uF (s.row ++ [y9 z])=_;rw [lP,<- zHC];rfl) n
  | leave _ _=>
   refine sub ?_
   rw [wI,wI]
   refine List.Sublist.append (List.Sublist.refl _) ?_
   exact (List.Sublist.filter _ List.filter_sublist).map _
  | done _ _=>
   refine sub ?_
   rw [wI,wI]
   exact List.sublist_append_right _ _
  | ask _ _ _ _ _=>
   refine sub ?_
   rw [wI,wI]
   show ((match s.hold with | some z=>[z] | none=>[]) ++ uF (s.row ++ [hsR _])).Sublist _
   rw [iO]
   exact List.Sublist.refl _
  | @come z _ _ b _ _ _=>
   refine sub ?_
   rw [wI,wI]
   cases b with
   | false=>exact List.Sublist.refl _
   | true=>
    show ((match s.hold with | some z=>[z] | none=>[]) ++ uF (s.row ++ [hsR z])).Sublist _
    rw [iO]
    exact List.Sublist.refl _
 refine ⟨fun t ht=>?_,both.1,both.2,fun t ht=>?_⟩
 ·rcases List.mem_or_eq_of_mem_set ht with h | rfl
  ·exact I.si t h
  ·exact dI (cU si a.ok)
 ·rcases List.mem_or_eq_of_mem_set ht with h | rfl
  ·exact Nat.le_succ_of_le (I.rl t h)
  ·refine zGS (dH _) ?_
   rw [gM]
   exact zGS (kY _ _) (Nat.succ_le_succ (I.rl s ms))
noncomputable def oZ (i:Nat):List V->List V
 | []=>[]
 | x :: l=>x :: .int (i:Int) :: l
abbrev sNu:Stmt:=top 24
abbrev sCr:Stmt:=yL (top 19) 6
abbrev sRW:Stmt:=yL (top 25) 15
abbrev sRO:Stmt:=yL (top 25) 16
abbrev sBR:Stmt:=yL (top 25) 17
abbrev sCL:Stmt:=yL (top 25) 18
theorem mQ {X:Cx} {K:PySem.W.Frag} (e:X.K=K:=by rfl):OpR X (binaryOp .Add) (eD K):=e ▸ j9
theorem n8 {X:Cx} {K:PySem.W.Frag} (e:X.K=K:=by rfl):SlR X (f8 K):=e ▸ rR
theorem at0 {α:Type} (x:α) (l:List α):atI (x :: l) 0=some x:=uR (j:=0) rfl
theorem at1 {α:Type} (x y:α) (l:List α):atI (x :: y :: l) 1=some y:=uR (j:=1) rfl
theorem at2 {α:Type} (x y z:α) (l:List α):atI (x :: y :: z :: l) 2=some z:=uR (j:=2) rfl
theorem at3 {α:Type} (x y z u:α) (l:List α):atI (x :: y :: z :: u :: l) 3=some u:=uR (j:=3) rfl
theorem gQ (x:V) (l:List V):uC (x :: l) (some 1) none=l:=by
 unfold uC
 rw [show (1:Int)=((1:Nat):Int) from rfl,HT.sIx_nat]
 simp only [zG2]
 rw [show min 1 (l.length + 1)=1 by omega]
 show l.take _=l
 rw [zG6]
 show l.length <= HT.sIx (l.length + 1) (l.length + 1) none - 1
 unfold HT.sIx
 simp
theorem dU {K:PySem.W.Frag} {a acc:Addr} {k:Int} {its:List V} {xs:List Str} {ix:List Nat} {g:TG} {te:TE} {σ:St} {H1:Hp} {Q:VK} (hn:its.length < sizeLine) (Pv:Nat->List V->St->Hp->Prop) (h0:Pv 0 [] (stC xs ix σ) (upd H1 acc (.lst []))) (hacc:∀ i ys τ H,Pv i ys τ H->H acc=some (.lst ys)/\ys.length <= i/\SqL K H a its)
  (hs:∀ i ys τ H x T,its[i]?=some x->Pv i ys τ H->H T=none->g (.ref T) τ (upd H T (.tup [.int (k + i),x])) fun τ2 H2=>te τ2 H2 fun y H4=>H4 acc=some (.lst ys)/\Pv (i + 1) (ys ++ [y]) τ2 (upd H4 acc (.lst (ys ++ [y])))) (hd:∀ ys τ H,Pv its.length ys τ H->Q (.ref acc) H):LCW (Ite K a k) xs ix g tM te σ H1 acc Q:=by
 refine ⟨fun i m ys τ H=>m=its.length - i/\i <= its.length/\Pv i ys τ H,⟨its.length,by simp,zGR _,h0⟩,?_⟩
 rintro i m ys τ H ⟨rfl,hi,p⟩
 obtain ⟨c1,c2,c3⟩:=hacc i ys τ H p
 refine ⟨c1,by omega,?_⟩
 by_cases hlt:i < its.length
 ·refine .inr ⟨⟨its,its[i],c3,by simp [hlt]⟩,Pv (i + 1),fun ys' τ' H' p'=>⟨its.length - (i + 1),by omega,rfl,hlt,p'⟩,fun x H' y=>?_⟩
  obtain ⟨T,v,rfl,nT,rfl,y⟩:=y
  exact qD (R:=fun τ2 _=>fun y H4=>H4 acc=some (.lst ys)/\Pv (i + 1) (ys ++ [y]) τ2 (upd H4 acc (.lst (ys ++ [y])))) (hs i ys τ _ v T (y its c3) p nT)
 ·have e:i=its.length:=by omega
  subst e
  exact .inl ⟨⟨its,c3,zGQ _⟩,hd ys τ H p⟩
theorem hE (ss:List SS) (i:Nat):(y8 (ss.take i)).length <= (y8 ss).length:=by
 have e:y8 ss=y8 (ss.take i) ++ y8 (ss.drop i):=by
  unfold y8
  rw [<- List.flatMap_append,List.take_append_drop]
 rw [e,zGZ];omega
theorem kZ (ss:List SS) (i:Nat):(wC 0 (ss.take i)).length <= (y8 ss).length:=by
 have:=hE ss i
 rw [<- yX _ 0,zGH] at this
 exact this
theorem xQ {α:Type} {l:List α} {i:Nat} {x:α} (h:l[i]?=some x):l.take (i + 1)=l.take i ++ [x]:=by rw [List.take_add_one,h];rfl
noncomputable def kvR (rs:List (Str × List V)):List (Key × V):=rs.map fun r=>((Sum.inr r.1:Key),r.2.headD .non)
theorem qU:∀ {rs:List (Str × List V)} {z:Str},z ∉ rs.map (·.1)->uW (kvR rs) (.inr z)=none
 | [],_,_=>rfl
 | r :: rs,z,h=>by
  rw [List.map_cons,List.mem_cons,not_or] at h
  show uW ((Sum.inr r.1,r.2.headD .non) :: kvR rs) _=none
  rw [uZ (by show ¬ ((Sum.inr r.1:Key)=.inr z);intro e;injection e with e;exact h.1 e.symm)]
  exact qU h.2
theorem m6:∀ {rs:List (Str × List V)} {r:Str × List V},(rs.map (·.1)).Nodup->r ∈ rs->uW (kvR rs) (.inr r.1)=some (r.2.headD .non)
 | [],_,_,h=>by cases h
 | x :: rs,r,nd,h=>by
  obtain ⟨n1,n2⟩:=List.nodup_cons.mp (show (x.1 :: rs.map (·.1)).Nodup from nd)
  show uW ((Sum.inr x.1,x.2.headD .non) :: kvR rs) _=_
  rcases List.mem_cons.mp h with rfl | h
  ·exact tZ rfl
  ·rw [uZ (by show ¬ ((Sum.inr x.1:Key)=.inr r.1);intro e;injection e with e;exact n1 (e ▸ List.mem_map_of_mem h))]
   exact m6 n2 h
theorem xJ {R:Addr->List V->Prop} {qs:List Addr} {rs:List (List V)} (h:Paired R qs rs):∀ (i:Nat) (q:Addr),qs[i]?=some q->∃ r,rs[i]?=some r/\R q r:=by
 induction h with
 | nil=>intro i q e;simp at e
 | @cons q r qs rs c _ ih=>
  intro i x e
  cases i with
  | zero=>simp at e;subst e;exact ⟨r,rfl,c⟩
  | succ i=>exact ih i x (by simpa using e)
theorem iG (nm:V) (nl sl:Addr):(hfl nm nl sl).lookup ("askers" : Str)=none:=rfl
theorem cD (nm:V) (nl sl:Addr):(hfl nm nl sl).lookup ("rights_wanted" : Str)=none:=rfl
theorem cE (nm:V) (nl sl:Addr):(hfl nm nl sl).lookup ("right_of" : Str)=none:=rfl
theorem zF1 (nm:V) (nl sl:Addr):(hfl nm nl sl).lookup ("best_right" : Str)=none:=rfl
theorem zBT (nm:V) (nl sl:Addr):(hfl nm nl sl).lookup ("check_letter" : Str)=none:=rfl
theorem zF4 (nm:V) (nl sl:Addr):(hfl nm nl sl).lookup ("nearby" : Str)=some (.ref nl):=rfl
section
variable {P:Program} {w:World} {K:PySem.W.Frag} {mg:Str->Option Value} {base:Heap} {C CS:Addr}
theorem scNu:zN ["right","told"] ["right","told"] (zG sNu):=⟨rfl,rfl,rfl,by decide +kernel,rfl,by decide +kernel,by decide +kernel⟩
theorem scCr:zN ["self"] ["self"] (zG sCr):=⟨rfl,rfl,rfl,by decide +kernel,rfl,by decide +kernel,by decide +kernel⟩
theorem scRW:zN ["self"] ["self"] (zG sRW):=⟨rfl,rfl,rfl,by decide +kernel,rfl,by decide +kernel,by decide +kernel⟩
theorem zEW:zN ["self","asker","wanted"] ["self","asker"] (zG sRO):=⟨rfl,rfl,rfl,by decide +kernel,rfl,by decide +kernel,by decide +kernel⟩
theorem scBR:zN ["self"] ["self"] (zG sBR):=⟨rfl,rfl,rfl,by decide +kernel,rfl,by decide +kernel,by decide +kernel⟩
theorem scCL:zN ["self","house","right"] ["self","house","right"] (zG sCL):=⟨rfl,rfl,rfl,by decide +kernel,rfl,by decide +kernel,by decide +kernel⟩
def lW:Sp:=fun vs H Q _=>∃ (i:Nat) (a:Addr) (ls:List (List V)),vs=[.int (i:Int),.ref a]/\Rows H a ls/\(∀ l ∈ ls,l ≠ []/\l.length <= 10)/\ls.length <= 100/\∀ (r:Addr) (H':Hp),Rows H' r (ls.map (oZ i))->H r=none->zD [] H H'->Q (.ref r) H'
theorem pO {K:PySem.W.Frag} {i:Nat} {q:Addr} {l:List V} {H:Hp} {R:VK} (n:l ≠ []/\l.length <= 10) (hq:H q=some (.tup l)) (h:∀ t H',zD [] H H'->H' t=some (.tup (oZ i l))->R (.ref t) H') :
  tOp (eD K) (zB4 (t3 (tOp f9 (uX 0) (tC (.int 0))) (t3 (uX 1) nV))) (tSl (f8 K) (uX 0) (fG (tC (.int 1))) oB) [some (.ref q),some (.int (i:Int))] H R:=by
 obtain ⟨n1,n2⟩:=n
 cases l with
 | nil=>exact absurd rfl n1
 | cons x l=>
 have l10:l.length <= 9:=by simpa using n2
 refine ⟨_,rfl,q,_,0,x,rfl,rfl,hq,at0 _ _,_,rfl,by show 2 <= sizeLine;decide,fun u hu=>?_⟩
 have k1:zD [] H (upd H u (.tup [x,.int (i:Int)])):=zD.new hu
 have e1:upd H u (.tup [x,.int (i:Int)]) u=some (.tup [x,.int (i:Int)]):=zB
 have hq1:=k1 _ _ (by simp) hq
 generalize upd H u (.tup [x,.int (i:Int)])=H1 at k1 e1 hq1 ⊢
 refine ⟨_,rfl,_,rfl,q,_,rfl,.of hq1,.inr ⟨?_,fun v hv=>?_⟩⟩
 ·rintro ⟨e,_⟩
  rw [show (1:Int)=((1:Nat):Int) from rfl,HT.sIx_nat] at e
  simp only [zG2] at e
  omega
 rw [gQ]
 have k2:zD [] H1 (upd H1 v (.tup l)):=zD.new hv
 have e2:=k2 _ _ (by simp) e1
 have e3:upd H1 v (.tup l) v=some (.tup l):=zB
 generalize upd H1 v (.tup l)=H2 at k2 e2 e3 ⊢
 refine ⟨u,v,[x,.int (i:Int)],l,rfl,rfl,.of e2,.of e3,by simp,by rw [sizeLine_eq];show 2 + _ <= _;omega,fun e=>?_,fun _ p hp=>?_⟩
 ·subst e
  exact h u H2 (k1.trans k2) e2
 ·exact h p _ ((k1.trans k2).trans (zD.new hp)) zB
theorem okNu (G:y0 K mg "numbered" sNu ["right","told"]):Cal P w K mg base CX0 1 "numbered" ["right","told"] lW:=by
 refine G.ok scNu (fun vs H Q E h=>by obtain ⟨i,a,ls,rfl,_⟩:=h;rfl) (fun f cdv A outer s0 H vs Q E hr h=>?_)
 obtain ⟨i,a,ls,rfl,R,hl,ll,q⟩:=h
 obtain ⟨ps,hps,hpp⟩:=id R
 refine ⟨_,(zF (zL (vT (N:=["right","told"]) (sc:=zG sNu) (ix:=[0]) (by decide +kernel) (xN (pv 1)) (fun _ _ _ _=>xM) (fun _ _ _ _=>(yU (mQ (K:=K)) (yD (zA (zU zY (pv 0) zI (fun _ _=>rfl)) (zA (pv 1) zC))) (wY (n8 (K:=K)) (pv 0) (wX zI) uJ)))))),?_⟩
 refine ⟨_,rfl,a,rfl,⟨_,.of hps⟩,fun acc hacc=>?_⟩
 refine r8 (ds:=ls) id (oZ i) (fun _=>true) (fun l q=>[some (.ref q)]) [some (.int (i:Int))] (by omega) hacc (by rw [List.map_id];exact R) ⟨[none],rfl,rfl⟩ (fun _ _=>rfl) ?_ ?_ ?_ ?_
 ·intro l q vs H R _ hv hq h
  match vs,hv with
  | [v],_=>exact h
 ·intro l q H R _ _ _ h
  exact h H (zD.refl _)
 ·intro l q H R hm hq h
  exact pO (hl l hm) hq h
 ·intro H' hR k
  rw [List.filter_eq_self.mpr (fun _ _=>rfl)] at hR
  exact q acc H' hR hacc k
def zEN (CS:Addr):Sp:=fun vs H Q _=>∃ (p wl:Addr) (s:SS),vs=[.ref p]/\zZ CS H p wl s/\Q (.int (pB s:Int)) H
theorem okCr (TS:xY K CS) (G:y2 K CS "crowd" "Seat.crowd" sCr ["self"]) (b_len:Blt mg "len"):yJ P w K mg base CX0 1 CS "crowd" ["self"] (zEN CS):=by
 refine G.ok scCr (fun vs H Q E h=>by obtain ⟨p,wl,s,rfl,_⟩:=h;rfl) (fun f cdv A outer s0 H vs Q E hr h=>?_)
 obtain ⟨p,wl,s,rfl,S,q⟩:=h
 obtain ⟨⟨dx,hob⟩,⟨qs,hwl,hqp⟩,hlen⟩:=id S
 have lq:=zP hqp
 rw [zGH] at lq
 refine ⟨_,(zF (zL (yU wZ (yE yK b_len xB (zA (yG (pv 0) rfl) zC)) (sB (zS vK (yG (pv 0) rfl) yY (zV _)) zI zI)))),?_⟩
 refine ⟨_,rfl,p,CS,dx,_,_,rfl,hob,TS.cl,TS.nW,rA _ _ _ _,_,_,rfl,.inl ⟨_,.of hwl,rfl⟩,_,rfl,p,CS,dx,_,_,rfl,hob,TS.cl,TS.nH,kT _ _ _ _,rfl,_,rfl,?_⟩
 unfold pB at q
 cases eh:s.hold with
 | none=>
  rw [eh,if_pos rfl] at q
  refine ifT rfl ⟨_,_,rfl,rfl,?_⟩
  rw [zGH,lq]
  exact q
 | some z=>
  rw [eh,if_neg (by simp)] at q
  refine ifF rfl ⟨_,_,rfl,rfl,?_⟩
  rw [zGH,lq]
  exact q
def jP (C CS:Addr):Sp:=fun vs H Q _=>∃ (B:Addr->Prop) (p:Addr) (nm:Str) (nb:List Str) (xs:List (Addr × Addr)) (ss:List SS),vs=[.ref p]/\yA B C CS H p nm nb xs ss/\(y8 ss).Nodup/\(y8 ss).length < 64 /\
 ∀ (l:Addr) (rs:List (Str × List V)) (H':Hp),rs.Perm (wC 0 ss)->Asc ltN rs->Rows H' l (rs.map nmV)->H l=none->zD [] H H'->Q (.ref l) H'
theorem zFN (T:x3 K C) (TS:xY K CS) (G:y2 K C "askers" "House.askers" fX ["self"]) (MAs:yJ P w K mg base CX0 1 CS "askers" ["self"] (zEC CS)) (b_sorted:Blt mg "sorted") (b_enumerate:Blt mg "enumerate"):yJ P w K mg base CX0 2 C "askers" ["self"] (jP C CS):=by
 refine G.ok zE4 (fun vs H Q E h=>by obtain ⟨B,p,nm,nb,xs,ss,rfl,_⟩:=h;rfl) (fun f cdv A outer s0 H vs Q E hr h=>?_)
 obtain ⟨B,p,nm,nb,xs,ss,rfl,⟨dx,nl,sl,_,hp,hnl,hsl,hxs,hse⟩,nd,l64,q⟩:=h
 have hr1:yB 1 _:=hr
 refine ⟨_,(zF (zL (yE sH b_sorted pX (zA (aR (N:=["self"]) (sc:=zG fX) (ix:=[]) (by decide +kernel) (mN rfl b_enumerate.no (yG (pv 0) rfl)) (fun _ _ _ _=>eQ (K:=K) (yR MAs TS.cl hr1 (pv 1))) (fun _ _ _ _=>xM) (fun _ _ _ _=>xM) (fun _ _ _ _=>(yD (zA (pv 2) (zA (pv 0) (zA (pv 3) zC)))))) zC)))),?_⟩
 refine ⟨_,rfl,p,C,dx,_,_,rfl,hp,T.cl,T.nS,vA _ _ _,sl,rfl,⟨_,.of hsl⟩,fun acc hacc=>?_⟩
 have sa:sl ≠ acc:=zH hsl hacc
 refine d6 (K:=K) (a:=sl) (k:=0) (its:=xs.map fun x=>V.ref x.1) (fun i ys τ H1=>∃ (v0 v1 v2 v3:Option V) (qs:List Addr),τ=[v0,v1,v2,v3]/\ys=qs.map V.ref/\Paired (fun q r=>H1 q=some (.tup r)) qs ((wC 0 (ss.take i)).map nmV)/\zD [acc] H H1/\H1 acc=some (.lst ys)) ⟨_,_,_,_,[],rfl,rfl,.nil,zD.at (by simp),zB⟩ (fun i ys τ H1 _ ⟨_,_,_,_,_,_,_,_,k,_⟩=>.of (k _ _ (by simp [sa]) hsl)) ?_ ?_
 ·rintro i ys τ H1 x TT hx ⟨v0,v1,v2,v3,qs,rfl,rfl,hqs,k1,h1⟩ hTT
  rw [zGN] at hx
  cases ex:xs[i]? with
  | none=>rw [ex] at hx;cases hx
  | some y=>
  rw [ex] at hx
  have ey:V.ref y.1=x:=zGO hx
  subst ey
  have il:i < ss.length:=by rw [<- hxs];exact (zGJ.mp ex).1
  have es:ss[i]?=some ss[i]:=zGI il
  generalize ss[i]=s at es
  have S:=hse i y _ ex es
  rw [show (0:Int) + (i:Int)=(i:Int) from Int.zero_add _]
  have k2:zD [] H1 (upd H1 TT (.tup [.int (i:Int),.ref y.1])):=zD.new hTT
  have e2:upd H1 TT (.tup [.int (i:Int),.ref y.1]) TT=some (.tup [.int (i:Int),.ref y.1]):=zB
  generalize upd H1 TT (.tup [.int (i:Int),.ref y.1])=H2 at k2 e2
  have S2:=(S.keep (k1.drop hacc)).keep k2
  obtain ⟨dy,hob⟩:=S2.ob
  refine ⟨TT,_,rfl,.of e2,rfl,_,_,rfl,_,_,rfl,rfl,?_⟩
  refine ⟨_,rfl,y.1,dy,_,rfl,hob,zF9 _ _ _ _,y.1,y.2,_,rfl,S2,fun r H3 hR hr k3=>⟨r,rfl,?_⟩⟩
  obtain ⟨rs,hrs,hrp⟩:=hR
  have lrs:=zP hrp
  rw [zGH] at lrs
  have k23:=k2.trans k3
  have h3:=k23 _ _ (by simp) h1
  have ra:r ≠ acc:=Ne.symm (zH (k2 _ _ (by simp) h1) hr)
  have hq3:=zK k23 (fun b hb=>by cases hb) hqs
  have et:(wC 0 (ss.take (i + 1))).map nmV=(wC 0 (ss.take i)).map nmV ++ (w6 s).map fun a=>[.str a.1,.int (i:Int),.bl a.2]:=by
   rw [xQ es,rB,zGT,zG1,zG0,Nat.zero_add,show min i ss.length=i by omega];rfl
  have lt:((wC 0 (ss.take i)).map nmV).length + (w6 s).length < 64:=by
   have a1:=congrArg List.length et
   have a2:=kZ ss (i + 1)
   simp only [zGZ,zGH] at a1 ⊢
   omega
  refine ⟨⟨_,.of hrs⟩,?_⟩
  refine cC (K:=K) (its:=rs.map V.ref) (fun j ys τ H4=>∃ (w2 w3:Option V) (qs':List Addr),τ=[some (.int (i:Int)),some (.ref y.1),w2,w3]/\ys=(qs ++ qs').map V.ref/\Paired (fun q r=>H4 q=some (.tup r)) (qs ++ qs') ((wC 0 (ss.take i)).map nmV ++ ((w6 s).take j).map fun a=>[.str a.1,.int (i:Int),.bl a.2])/\zD [acc] H3 H4/\H4 acc=some (.lst ys)) ?_ ?_ ?_ ?_
  ·exact ⟨v2,v3,[],rfl,by simp,by simpa using hq3,zD.refl _,h3⟩
  ·rintro j ys τ H4 ⟨w2,w3,qs',rfl,rfl,hpq,k4,h4⟩
   refine ⟨h4,?_,.of (k4 _ _ (by simp [ra]) hrs)⟩
   have:=zP hpq
   rw [zGZ,zGZ,zGH (as:=List.take j _),zG0] at this
   rw [zGH,zGZ,sizeLine_eq];omega
  ·rintro j ys τ H4 x hx ⟨w2,w3,qs',rfl,rfl,hpq,k4,h4⟩
   rw [zGN] at hx
   cases eu:rs[j]? with
   | none=>rw [eu] at hx;cases hx
   | some u=>
   rw [eu] at hx
   have ey:V.ref u=x:=zGO hx
   subst ey
   obtain ⟨r',er',hu⟩:=xJ hrp j u eu
   rw [zGN] at er'
   cases ea:(w6 s)[j]? with
   | none=>rw [ea] at er';cases er'
   | some a=>
   rw [ea] at er'
   have e':zDX a=r':=zGO er'
   subst e'
   have ua:u ≠ acc:=xR hu h3 (by intro z;cases z)
   have hu4:=k4 _ _ (by simp [ua]) hu
   refine ⟨u,_,rfl,.of hu4,rfl,_,_,rfl,_,_,rfl,rfl,?_⟩
   refine ⟨_,rfl,_,rfl,_,rfl,by show 3 <= sizeLine;decide,fun t ht=>?_⟩
   have k5:zD [] H4 (upd H4 t (.tup [.str a.1,.int (i:Int),.bl a.2])):=zD.new ht
   have e5:upd H4 t (.tup [.str a.1,.int (i:Int),.bl a.2]) t=some (.tup [.str a.1,.int (i:Int),.bl a.2]):=zB
   have h5:=k5 _ _ (by simp) h4
   have ta:t ≠ acc:=Ne.symm (zH h4 ht)
   refine ⟨h5,_,_,qs' ++ [t],rfl,by simp,?_,(k4.trans (k5.mono (by simp))).trans (zD.at (by simp)),zB⟩
   have k6:zD [acc] (upd H4 t (.tup [.str a.1,.int (i:Int),.bl a.2])) (upd (upd H4 t (.tup [.str a.1,.int (i:Int),.bl a.2])) acc (.lst ((qs ++ qs').map V.ref ++ [.ref t]))):=zD.at (by simp)
   have nt:∀ b ∈ [acc],∀ xs,upd H4 t (.tup [.str a.1,.int (i:Int),.bl a.2]) b ≠ some (.tup xs):=fun b hb xs z=>by rw [zGK.mp hb,h5] at z;cases z
   have er:((w6 s).take (j + 1)).map (fun a=>[V.str a.1,V.int (i:Int),V.bl a.2])=((w6 s).take j).map (fun a=>[V.str a.1,V.int (i:Int),V.bl a.2]) ++ [[V.str a.1,.int (i:Int),.bl a.2]]:=by rw [xQ ea,zGT];rfl
   rw [er,<- zHC qs,<- zHC (List.map nmV _)]
   exact x8 (zK k6 nt (zK k5 (fun b hb=>by cases hb) hpq)) (k6 _ _ (by simp [ta]) e5)
  ·rintro ys τ H4 ⟨w2,w3,qs',rfl,rfl,hpq,k4,h4⟩
   refine ⟨_,_,_,_,qs ++ qs',rfl,rfl,?_,k1.trans ((k23.mono (by simp)).trans k4),h4⟩
   rw [et]
   rw [zGH,lrs,zHH] at hpq
   exact hpq
 ·rintro ys τ H1 ⟨v0,v1,v2,v3,qs,rfl,rfl,hqs,k1,h1⟩
  have k01:=k1.drop hacc
  rw [zGH,hxs,zHH] at hqs
  refine ⟨acc,qs,wC 0 ss,rfl,h1,hqs,by rw [yX];exact nd,by rw [<- zGH (f:=(·.1)),yX];exact l64,fun l qs' rs' hl pm asc pr=>?_⟩
  exact q l rs' _ pm asc ⟨qs',zB,zK (zD.new (S:=[]) hl) (fun b hb=>by cases hb) pr⟩ (k01.none (by simp) hl) (k01.trans (zD.new hl))
def zB8 (C CS:Addr):Sp:=fun vs H Q _=>∃ (B:Addr->Prop) (p:Addr) (nm:Str) (nb:List Str) (xs:List (Addr × Addr)) (ss:List SS),vs=[.ref p]/\yA B C CS H p nm nb xs ss/\(y8 ss).Nodup/\(y8 ss).length < 64 /\
 ∀ (a:Addr) (kvs:List (Key × V)) (H':Hp),H' a=some (.dK kvs)->(∀ z,z ∉ y8 ss->uW kvs (.inr z)=none)->(∀ (z:Str) (i:Nat) (s:SS),ss[i]?=some s->z ∈ wN s->uW kvs (.inr z)=some (.int (i:Int)))->zD [] H H'->Q (.ref a) H'
theorem okRW (T:x3 K C) (G:y2 K C "rights_wanted" "House.rights_wanted" sRW ["self"]) (MHAs:yJ P w K mg base CX0 2 C "askers" ["self"] (jP C CS)):yJ P w K mg base CX0 3 C "rights_wanted" ["self"] (zB8 C CS):=by
 refine G.ok scRW (fun vs H Q E h=>by obtain ⟨B,p,nm,nb,xs,ss,rfl,_⟩:=h;rfl) (fun f cdv A outer s0 H vs Q E hr h=>?_)
 obtain ⟨B,p,nm,nb,xs,ss,rfl,hh,nd,l64,q⟩:=h
 have hr2:yB 2 _:=hr
 obtain ⟨dx,nl,sl,_,hp,_⟩:=id hh
 refine ⟨_,(zF (zL (zCW (N:=["self"]) (sc:=zG sRW) (ix:=[]) (by decide +kernel) (xN (yR MHAs T.cl hr2 (pv 0))) (fun _ _ _ _=>xM) (fun _ _ _ _=>(pv 0)) (fun _ _ _ _=>(pv 1))))),?_⟩
 refine ⟨_,rfl,p,dx,_,rfl,hp,iG _ _ _,B,p,nm,nb,xs,ss,rfl,hh,nd,l64,fun l rs H1 pm asc R hl k1=>⟨l,rfl,?_⟩⟩
 obtain ⟨qs,hqs,hqp⟩:=id R
 have lq:=zP hqp
 rw [zGH] at lq
 refine ⟨⟨_,.of hqs⟩,fun acc hacc=>?_⟩
 have la:l ≠ acc:=zH hqs hacc
 have ndr:(rs.map (·.1)).Nodup:=(pm.map (·.1)).nodup_iff.mpr (by rw [yX];exact nd)
 have lr:rs.length < 64:=by rw [pm.length_eq,<- zGH (f:=(·.1)),yX];exact l64
 refine cZ (K:=K) (a:=l) (its:=qs.map V.ref) (by rw [zGH,sizeLine_eq];omega) (fun i ys τ H2=>∃ (v0 v1 v2:Option V),τ=[v0,v1,v2]/\ys=kvR (rs.take i)/\zD [acc] H1 H2/\H2 acc=some (.dK ys)) ?_ ?_ ?_ ?_
 ·exact ⟨_,_,_,rfl,rfl,zD.at (by simp),zB⟩
 ·rintro i ys τ H2 ⟨v0,v1,v2,rfl,rfl,k2,h2⟩
  exact ⟨h2,by unfold kvR;rw [zGH,zG0];omega,.of (k2 _ _ (by simp [la]) hqs)⟩
 ·rintro i ys τ H2 x hx ⟨v0,v1,v2,rfl,rfl,k2,h2⟩
  rw [zGN] at hx
  cases eu:qs[i]? with
  | none=>rw [eu] at hx;cases hx
  | some u=>
  rw [eu] at hx
  have ey:V.ref u=x:=zGO hx
  subst ey
  obtain ⟨r',er',hu⟩:=xJ hqp i u eu
  rw [zGN] at er'
  cases er:rs[i]? with
  | none=>rw [er] at er';cases er'
  | some r=>
  rw [er] at er'
  have e':nmV r=r':=zGO er'
  subst e'
  obtain ⟨k,s,b,_,_,e2⟩:=wU.mp (pm.mem_iff.mp (zGL er))
  obtain ⟨z,r2⟩:=r
  have e2:r2=[V.int ((0 + k:Nat):Int),V.bl b]:=e2
  subst e2
  have ua:u ≠ acc:=zH hu hacc
  have hu2:=k2 _ _ (by simp [ua]) hu
  refine ⟨u,_,rfl,.of hu2,rfl,_,_,rfl,_,_,rfl,_,_,rfl,rfl,?_⟩
  refine ⟨_,rfl,_,rfl,.inr z,rfl,h2,_,_,_,rfl,?_,k2.trans (zD.at (by simp)),zB⟩
  have nz:z ∉ (rs.take i).map (·.1):=by
   have sb:((rs.take (i + 1)).map (·.1)).Nodup:=ndr.sublist ((List.take_sublist _ _).map _)
   rw [xQ er,zGT] at sb
   intro hm
   exact absurd rfl ((List.nodup_append.mp sb).2.2 z hm z (by simp))
  rw [eG _ (qU nz),xQ er]
  unfold kvR
  rw [zGT];rfl
 ·rintro ys τ H2 ⟨v0,v1,v2,rfl,rfl,k2,h2⟩
  rw [zGH,lq,zHH] at h2
  refine q acc (kvR rs) H2 h2 (fun z hz=>qU fun hm=>hz ?_) (fun z i s es hz=>?_) (k1.trans (k2.drop hacc))
  ·have:=(pm.map (·.1)).mem_iff.mp hm
   rwa [yX] at this
  ·obtain ⟨a,ha,rfl⟩:=List.mem_map.mp hz
   have m:(a.1,[V.int ((0 + i:Nat):Int),V.bl a.2]) ∈ rs:=pm.mem_iff.mpr (wU.mpr ⟨i,s,a.2,es,ha,rfl⟩)
   rw [m6 ndr m,Nat.zero_add];rfl
def zB9 (C CS:Addr):Sp:=fun vs H Q _=>∃ (B:Addr->Prop) (p:Addr) (nm:Str) (nb:List Str) (xs:List (Addr × Addr)) (ss:List SS) (z:Str) (i:Nat) (s:SS),vs=[.ref p,.str z]/\yA B C CS H p nm nb xs ss/\(y8 ss).Nodup/\(y8 ss).length < 64/\ss[i]?=some s/\z ∈ wN s/\xE z /\
 ∀ H',zD [] H H'->Q (.int (i:Int)) H'
theorem okRO (T:x3 K C) (G:y2 K C "right_of" "House.right_of" sRO ["self","asker"]) (CC:Cal P w K mg base CX0 2 "check_asker" ["asker"] t6) (MRW:yJ P w K mg base CX0 3 C "rights_wanted" ["self"] (zB8 C CS)):yJ P w K mg base CX0 4 C "right_of" ["self","asker"] (zB9 C CS):=by
 refine G.ok zEW (fun vs H Q E h=>by obtain ⟨B,p,nm,nb,xs,ss,z,i,s,rfl,_⟩:=h;rfl) (fun f cdv A outer s0 H vs Q E hr h=>?_)
 obtain ⟨B,p,nm,nb,xs,ss,z,i,s,rfl,hh,nd,l64,es,hz,gz,q⟩:=h
 have hr3:yB 3 _:=hr
 have hr2:yB 2 _:=hr.mono (by decide)
 have hu:=v9 hr
 refine ⟨_,(zE (yO (zQ CC hr2 (zA (pv 1) zC)))
   (zE (yF (i:=2) zEW.nd rfl (Or.inl rfl) (yR MRW T.cl hr3 (pv 0)))
   (zE (yC (eJ (i6 hu (pv 1) (pv 2))) (zF xA) zT)
   (zF (zL (y6 hu (pv 2) (pv 1) (fun _ _=>rfl))))))),?_⟩
 refine ⟨_,rfl,z,rfl,gz.1,zGS gz.2 (by decide),fun H1 k1=>?_⟩
 have hh1:=hh.on k1
 obtain ⟨dx,nl,sl,_,hp,_⟩:=id hh1
 refine ⟨_,rfl,p,dx,_,rfl,hp,cD _ _ _,B,p,nm,nb,xs,ss,rfl,hh1,nd,l64,fun a kvs H2 ha _ hv k2=>?_⟩
 have e:=hv z i s es hz
 have dg:u8 H2 a (.str z) (some (.int (i:Int))):=e ▸ u8.k (k:=Sum.inr z) ha
 refine ⟨_,rfl,_,rfl,a,_,rfl,dg,_,rfl,ifF rfl ?_⟩
 exact ⟨_,rfl,_,rfl,a,_,rfl,dg,q H2 (k1.trans k2)⟩
theorem dD (o:Option Str):(!decide (z4 o=V.non))=decide (o ≠ none):=by cases o <;> simp [z4]
def zEP (C CS:Addr):Sp:=fun vs H Q _=>∃ (B:Addr->Prop) (p:Addr) (nm:Str) (nb:List Str) (xs:List (Addr × Addr)) (ss:List SS),vs=[.ref p]/\yA B C CS H p nm nb xs ss/\ss ≠ []/\ss.length <= 100/\∀ H',zD [] H H'->Q (.int (rN ss:Int)) H'
theorem okBR (T:x3 K C) (TS:xY K CS) (G:y2 K C "best_right" "House.best_right" sBR ["self"]) (MCr:yJ P w K mg base CX0 1 CS "crowd" ["self"] (zEN CS)) (MA:yJ P w K mg base CX0 1 CS "arrow" ["self"] (rQ CS)) (b_min:Blt mg "min") (b_enumerate:Blt mg "enumerate"):yJ P w K mg base CX0 2 C "best_right" ["self"] (zEP C CS):=by
 refine G.ok scBR (fun vs H Q E h=>by obtain ⟨B,p,nm,nb,xs,ss,rfl,_⟩:=h;rfl) (fun f cdv A outer s0 H vs Q E hr h=>?_)
 obtain ⟨B,p,nm,nb,xs,ss,rfl,⟨dx,nl,sl,_,hp,hnl,hsl,hxs,hse⟩,ne,l100,q⟩:=h
 have hr1:yB 1 _:=hr
 have hu:=v9 hr
 refine ⟨_,(zF (zL (zU zY (yE (gT rfl (tF hu)) b_min zDT (zA (eU (N:=["self"]) (sc:=zG sBR) (ix:=[]) (by decide +kernel) (mN rfl b_enumerate.no (yG (pv 0) rfl)) (fun _ _ _ _=>xM) (fun _ _ _ _=>(yD (zA (yR MCr TS.cl hr1 (pv 1)) (zA (wD uL (yR MA TS.cl hr1 (pv 1)) yY (zV _)) (zA (pv 0) zC)))))) zC)) zI (fun _ _=>rfl)))),?_⟩
 refine ⟨_,rfl,p,C,dx,_,_,rfl,hp,T.cl,T.nS,vA _ _ _,sl,rfl,⟨_,.of hsl⟩,fun acc hacc=>?_⟩
 have sa:sl ≠ acc:=zH hsl hacc
 refine dU (K:=K) (a:=sl) (k:=0) (its:=xs.map fun x=>V.ref x.1) (by rw [zGH,hxs,sizeLine_eq];omega) (fun i ys τ H1=>∃ (v0 v1:Option V) (qs:List Addr),τ=[v0,v1]/\ys=qs.map V.ref/\i <= ss.length/\Paired (fun q r=>H1 q=some (.tup r)) qs (x9 0 (ss.take i))/\zD [acc] H H1/\H1 acc=some (.lst ys)) ⟨_,_,[],rfl,rfl,zGR _,.nil,zD.at (by simp),zB⟩ ?_ ?_ ?_
 ·rintro i ys τ H1 ⟨v0,v1,qs,rfl,rfl,il,hqs,k,h1⟩
  refine ⟨h1,?_,.of (k _ _ (by simp [sa]) hsl)⟩
  have:=zP hqs
  rw [vS,zG0] at this
  rw [zGH];omega
 ·rintro i ys τ H1 x TT hx ⟨v0,v1,qs,rfl,rfl,_,hqs,k1,h1⟩ hTT
  rw [zGN] at hx
  cases ex:xs[i]? with
  | none=>rw [ex] at hx;cases hx
  | some y=>
  rw [ex] at hx
  have ey:V.ref y.1=x:=zGO hx
  subst ey
  have il:i < ss.length:=by rw [<- hxs];exact (zGJ.mp ex).1
  have es:ss[i]?=some ss[i]:=zGI il
  generalize ss[i]=s at es
  have S:=hse i y _ ex es
  rw [show (0:Int) + (i:Int)=(i:Int) from Int.zero_add _]
  have k2:zD [] H1 (upd H1 TT (.tup [.int (i:Int),.ref y.1])):=zD.new hTT
  have e2:upd H1 TT (.tup [.int (i:Int),.ref y.1]) TT=some (.tup [.int (i:Int),.ref y.1]):=zB
  generalize upd H1 TT (.tup [.int (i:Int),.ref y.1])=H2 at k2 e2
  have S2:=(S.keep (k1.drop hacc)).keep k2
  obtain ⟨dy,hob⟩:=S2.ob
  refine ⟨TT,_,rfl,.of e2,rfl,_,_,rfl,_,_,rfl,rfl,?_⟩
  refine ⟨_,rfl,y.1,dy,_,rfl,hob,zF8 _ _ _ _,y.1,y.2,_,rfl,S2,?_⟩
  refine ⟨_,rfl,y.1,dy,_,rfl,hob,cN _ _ _ _,y.1,y.2,_,rfl,S2,rfl,?_⟩
  refine ⟨_,rfl,by show 3 <= sizeLine;decide,fun t ht=>?_⟩
  rw [dD]
  have k5:zD [] H2 (upd H2 t (.tup (uD s i))):=zD.new ht
  have e5:upd H2 t (.tup (uD s i)) t=some (.tup (uD s i)):=zB
  have h2:=k2 _ _ (by simp) h1
  have h5:=k5 _ _ (by simp) h2
  have ta:t ≠ acc:=Ne.symm (zH h2 ht)
  refine ⟨h5,_,_,qs ++ [t],rfl,by simp,il,?_,((k1.trans (k2.mono (by simp))).trans (k5.mono (by simp))).trans (zD.at (by simp)),zB⟩
  have k6:zD [acc] (upd H2 t (.tup (uD s i))) (upd (upd H2 t (.tup (uD s i))) acc (.lst (qs.map V.ref ++ [.ref t]))):=zD.at (by simp)
  have nt:∀ b ∈ [acc],∀ xs,upd H2 t (.tup (uD s i)) b ≠ some (.tup xs):=fun b hb xs z=>by rw [zGK.mp hb,h5] at z;cases z
  rw [xQ es,qI,zG0,Nat.zero_add,show min i ss.length=i by omega]
  exact x8 (zK k6 nt (zK (k2.trans k5) (fun b hb=>by cases hb) hqs)) (k6 _ _ (by simp [ta]) e5)
 ·rintro ys τ H1 ⟨v0,v1,qs,rfl,rfl,_,hqs,k1,h1⟩
  rw [zGH,hxs,zHH] at hqs
  have lq:=zP hqs
  rw [vS] at lq
  have pos:0 < ss.length:=zG7.mpr ne
  refine ⟨acc,qs,x9 0 ss,rfl,h1,hqs,fun r hr r' hr'=>?_,by omega,fun u eu=>?_⟩
  ·obtain ⟨a,b,c,rfl⟩:=qJ r hr
   obtain ⟨a',b',c',rfl⟩:=qJ r' hr'
   exact .int (.bl (.int .nil))
  ·obtain ⟨r,er,hu⟩:=xJ hqs _ u eu
   have lb:=lN ne
   have eb:=uG (i:=0) (zGI lb)
   have er':(x9 0 ss)[rN ss]?=some r:=er
   rw [eb] at er'
   have e':=zGO er'
   subst e'
   refine ⟨u,_,2,_,rfl,rfl,hu,at2 _ _ _ _,?_⟩
   rw [Nat.zero_add]
   exact q H1 (k1.drop hacc)
def zCB (C CS:Addr):Sp:=fun vs H Q _=>∃ (B:Addr->Prop) (p:Addr) (nm:Str) (nb:List Str) (xs:List (Addr × Addr)) (ss:List SS) (z:Str) (i:Nat),vs=[.ref p,.str z,.int (i:Int)]/\yA B C CS H p nm nb xs ss/\z ∈ nb/\xE z/\i < ss.length/\∀ H',zD [] H H'->Q .non H'
theorem okCL (T:x3 K C) (G:y2 K C "check_letter" "House.check_letter" sCL ["self","house","right"]) (CO:Cal P w K mg base CX0 2 "is_one_of" ["thing","houses"] (lV K)) (CK:Cal P w K mg base CX0 2 "check_right" ["right","many"] lZ) (b_len:Blt mg "len"):yJ P w K mg base CX0 3 C "check_letter" ["self","house","right"] (zCB C CS):=by
 refine G.ok scCL (fun vs H Q E h=>by obtain ⟨B,p,nm,nb,xs,ss,z,i,rfl,_⟩:=h;rfl) (fun f cdv A outer s0 H vs Q E hr h=>?_)
 obtain ⟨B,p,nm,nb,xs,ss,z,i,rfl,hh,hz,gz,il,q⟩:=h
 have hr2:yB 2 _:=hr
 obtain ⟨dx,nl,sl,_,hp,hnl,hsl,hxs,_⟩:=id hh
 refine ⟨_,(zE (yC (wA (xV (zQ CO hr2 (zA (pv 1) (zA (yG (pv 0) rfl) zC))))) (zF xA) zT)
   (zF (yO (zQ CK hr2 (zA (pv 2) (zA (yE yK b_len xB (zA (yG (pv 0) rfl) zC)) zC)))))),?_⟩
 refine ⟨_,rfl,_,rfl,p,C,dx,_,_,rfl,hp,T.cl,T.nB,zF4 _ _ _,.str z,"str",nl,nb,rfl,.str z,(fun y e=>by cases e;exact zGS gz.2 (by decide)),hnl,fun H1 k1=>⟨_,rfl,ifF ?_ ?_⟩⟩
 ·have e2:inV (.str z) (nb.map V.str)=true:=by
   unfold inV
   rw [List.any_map,List.any_eq_true]
   exact ⟨z,hz,by show (z == z)=true;simp⟩
  unfold mT
  rw [e2,show wJ (.str z)=true from gz.1];rfl
 ·have hp1:=k1 _ _ (by simp) hp
  have hsl1:=k1 _ _ (by simp) hsl
  exact ⟨_,rfl,_,rfl,p,C,dx,_,_,rfl,hp1,T.cl,T.nS,vA _ _ _,_,_,rfl,.inl ⟨_,.of hsl1,rfl⟩,_,_,rfl,by omega,by rw [zGH];omega,q H1 k1⟩
end
abbrev sHW:Stmt:=yL (top 25) 1
abbrev sHL:Stmt:=yL (top 25) 2
abbrev sHD:Stmt:=yL (top 25) 3
abbrev sHK:Stmt:=yL (top 25) 4
abbrev sHC:Stmt:=yL (top 25) 5
theorem eE {xs:List (Addr × Addr)} (h:xs.Pairwise fun a b=>a.1 ≠ b.1/\a.2 ≠ b.2) {i j:Nat} {x y:Addr × Addr} (hi:xs[i]?=some x) (hj:xs[j]?=some y) (n:i ≠ j):x.1 ≠ y.1/\x.2 ≠ y.2:=by
 obtain ⟨li,ei⟩:=zGJ.mp hi
 obtain ⟨lj,ej⟩:=zGJ.mp hj
 rcases Nat.lt_or_gt_of_ne n with l | l
 ·have:=List.pairwise_iff_getElem.mp h i j li lj l
  rw [ei,ej] at this
  exact this
 ·have:=List.pairwise_iff_getElem.mp h j i lj li l
  rw [ei,ej] at this
  exact ⟨Ne.symm this.1,Ne.symm this.2⟩
theorem yA.seat {B:Addr->Prop} {C CS:Addr} {H H':Hp} {p:Addr} {nm:Str} {nb:List Str} {xs:List (Addr × Addr)} {ss:List SS} {i:Nat} {x:Addr × Addr} {s':SS} (h:yA B C CS H p nm nb xs ss) (ex:xs[i]?=some x) (k:zD [x.1,x.2] H H') (S:zZ CS H' x.1 x.2 s'):yA B C CS H' p nm nb xs (ss.set i s'):=by
 obtain ⟨dx,nl,sl,⟨b1,b2,b3,b4⟩,h1,h2,h3,h4,h5⟩:=h
 have il:i < ss.length:=by rw [<- h4];exact (zGJ.mp ex).1
 obtain ⟨⟨dy,hob⟩,⟨ps,hwl,_⟩,_⟩:=h5 i x _ ex (zGI il)
 have mx:=zGL ex
 have px:p ≠ x.1:=fun e=>by
  rw [e,hob] at h1
  injection h1 with h1
  injection h1 with _ _ e
  unfold xC hfl at e
  injection e with e _
  injection e with e _
  exact absurd e (by decide +kernel)
 have pw:p ≠ x.2:=xR h1 hwl (by intro z;cases z)
 have n1:nl ≠ x.1:=xR h2 hob (by intro z;cases z)
 have n2:nl ≠ x.2:=Ne.symm (b4.1 x mx).1
 have s1:sl ≠ x.1:=xR h3 hob (by intro z;cases z)
 have s2:sl ≠ x.2:=Ne.symm (b4.1 x mx).2
 refine ⟨dx,nl,sl,⟨b1,b2,b3,b4⟩,k _ _ (by simp [px,pw]) h1,k _ _ (by simp [n1,n2]) h2,k _ _ (by simp [s1,s2]) h3,by rw [zHI];exact h4,fun j y t ey et=>?_⟩
 by_cases e:j=i
 ·subst e
  rw [ey] at ex
  cases ex
  rw [zHE il] at et
  cases et
  exact S
 ·rw [zHD (Ne.symm e)] at et
  have sj:=h5 j y t ey et
  obtain ⟨m1,m2⟩:=eE b4.2 ey ex e
  obtain ⟨⟨dz,oz⟩,⟨_,wz,_⟩,_⟩:=id sj
  exact sj.keepS k (by simp [m1,xR oz hwl (by intro z;cases z)]) (by simp [m2,xR wz hob (by intro z;cases z)]) (vD hob hwl)
theorem uN (s:SS):(∀ l ∈ (zX s).2,l ≠ []/\l.length <= 10)/\(zX s).2.length <= 100:=by
 unfold zX
 split
 ·exact ⟨fun l hl=>(by cases hl),zGR _⟩
 ·rename_i hne
  split
  ·split
   ·unfold xU
    split
    ·rename_i er;rw [er] at hne;exact absurd rfl hne
    ·split
     ·exact ⟨fun l hl=>by rw [zGK.mp hl];exact ⟨by simp,by show 2 <= 10;decide⟩,by show 1 <= 100;decide⟩
     ·exact ⟨fun l hl=>by rw [zGK.mp hl];exact ⟨by simp,by show 3 <= 10;decide⟩,by show 1 <= 100;decide⟩
   ·exact ⟨fun l hl=>(by cases hl),zGR _⟩
  ·split
   ·exact ⟨fun l hl=>(by cases hl),zGR _⟩
   ·exact ⟨fun l hl=>by rw [zGK.mp hl];exact ⟨by simp,by show 2 <= 10;decide⟩,by show 1 <= 100;decide⟩
def sO (B:Addr->Prop) (C CS:Addr) (H:Hp) (p:Addr) (nm:Str) (nb:List Str) (xs:List (Addr × Addr)) (ss:List SS) (i:Nat) (s:SS) (d:DD) (Q:VK):Prop:=∀ (r:Addr) (x:Addr × Addr) (H':Hp),xs[i]?=some x->yA B C CS H' p nm nb xs (ss.set i (zX (yQ s d)).1)->Rows H' r ((zX (yQ s d)).2.map (oZ i))->H r=none->zD [x.1,x.2] H H'->Q (.ref r) H'
theorem sO.num {B:Addr->Prop} {C CS:Addr} {H H1 H2:Hp} {p:Addr} {nm:Str} {nb:List Str} {xs:List (Addr × Addr)} {ss:List SS} {i:Nat} {s:SS} {d:DD} {Q:VK} {E:XK} {x:Addr × Addr} {r:Addr} (hh:yA B C CS H p nm nb xs ss) (ex:xs[i]?=some x) (q:sO B C CS H p nm nb xs ss i s d Q) (k01:zD [] H H1) (S:zZ CS H2 x.1 x.2 (zX (yQ s d)).1) (R:Rows H2 r (zX (yQ s d)).2) (nr:H1 r=none) (k2:zD [x.1,x.2] H1 H2):lW [.int (i:Int),.ref r] H2 Q E:=by
 obtain ⟨l1,l2⟩:=uN (yQ s d)
 refine ⟨i,r,_,rfl,R,l1,l2,fun r' H3 R3 n3 k3=>q r' x H3 ex (((hh.on k01).seat ex k2 S).on k3) R3 ?_ (((k01.mono (by simp)).trans k2).trans (k3.mono (by simp)))⟩
 obtain ⟨⟨dy,hob⟩,⟨ps,hwl,_⟩,_⟩:=id S
 refine k01.none (by simp) (k2.none ?_ n3)
 simp only [List.mem_cons,zHB,or_false]
 rintro (e | e)
 ·rw [e,hob] at n3;cases n3
 ·rw [e,hwl] at n3;cases n3
section
variable {P:Program} {w:World} {K:PySem.W.Frag} {mg:Str->Option Value} {base:Heap} {C CS:Addr}
theorem zEY:zN ["self","asker","right","number"] ["self","asker","right"] (zG sHW):=⟨rfl,rfl,rfl,by decide +kernel,rfl,by decide +kernel,by decide +kernel⟩
theorem zE0:zN ["self","asker","right"] ["self","asker"] (zG sHL):=⟨rfl,rfl,rfl,by decide +kernel,rfl,by decide +kernel,by decide +kernel⟩
theorem zE3:zN ["self","asker","right"] ["self","asker"] (zG sHD):=⟨rfl,rfl,rfl,by decide +kernel,rfl,by decide +kernel,by decide +kernel⟩
theorem scHK:zN ["self","house","right"] ["self","house","right"] (zG sHK):=⟨rfl,rfl,rfl,by decide +kernel,rfl,by decide +kernel,by decide +kernel⟩
theorem scHC:zN ["self","house","right","back"] ["self","house","right","back"] (zG sHC):=⟨rfl,rfl,rfl,by decide +kernel,rfl,by decide +kernel,by decide +kernel⟩
def zEG (C CS:Addr):Sp:=fun vs H Q _=>∃ (B:Addr->Prop) (p:Addr) (nm:Str) (nb:List Str) (xs:List (Addr × Addr)) (ss:List SS) (k:Nat) (z:Str) (r:Option Nat) (i:Nat) (s:SS),vs=[.ref p,.str z,rV r]/\yA B C CS H p nm nb xs ss/\vY k ss/\k <= 60/\ss.length <= 100/\AtR nb ss (.want z r) i s (.want z)/\sO B C CS H p nm nb xs ss i s (.want z) Q
theorem okHW (T:x3 K C) (TS:xY K CS) (G:y2 K C "want" "House.want" sHW ["self","asker","right"]) (CC:Cal P w K mg base CX0 2 "check_asker" ["asker"] t6) (CK:Cal P w K mg base CX0 2 "check_right" ["right","many"] lZ) (MRW:yJ P w K mg base CX0 3 C "rights_wanted" ["self"] (zB8 C CS)) (MBR:yJ P w K mg base CX0 2 C "best_right" ["self"] (zEP C CS)) (MW:yJ P w K mg base CX0 3 CS "want" ["self","asker"] (lU CS)) (CNu:Cal P w K mg base CX0 1 "numbered" ["right","told"] lW) (b_len:Blt mg "len"):yJ P w K mg base CX0 4 C "want" ["self","asker","right"] (zEG C CS):=by
 refine G.ok zEY (fun vs H Q E h=>by obtain ⟨B,p,nm,nb,xs,ss,k,z,r,i,s,rfl,_⟩:=h;rfl) (fun f cdv A outer s0 H vs Q E hr h=>?_)
 obtain ⟨B,p,nm,nb,xs,ss,k,z,r,i,s,rfl,hh,I,hk,l100,a,q⟩:=h
 have hr3:yB 3 _:=hr
 have hr2:yB 2 _:=hr.mono (by decide)
 have hr1:yB 1 _:=hr.mono (by decide)
 have hu:=v9 hr
 have es:=a.here
 have il:i < ss.length:=(zGJ.mp es).1
 obtain ⟨dx,nl,sl,_,hp,hnl,hsl,hxs,hse⟩:=id hh
 have ex:xs[i]?=some xs[i]:=zGI (by omega)
 generalize xs[i]=x at ex
 have si:=I.si s (zGL es)
 have lr:s.row.length < 1000:=by have:=I.rl s (zGL es);omega
 have ne:ss ≠ []:=fun e=>by rw [e] at il;simp at il
 have ok:=a.ok
 obtain ⟨ok1,ok2,gz⟩:=ok
 have l64:(y8 ss).length < 64:=by have:=I.ln;omega
 refine ⟨_,(zE (yO (zQ CC hr2 (zA (pv 1) zC)))
   (zE (yC (zS uL (pv 2) yY (zV _)) (zF (yO (zQ CK hr2 (zA (pv 2) (zA (yE yK b_len xB (zA (yG (pv 0) rfl) zC)) zC))))) zT)
   (zE (yC (eJ (zCX hu (pv 1) (yR MRW T.cl hr3 (pv 0)))) (zF xA) zT)
   (zE (yF (i:=3) zEY.nd rfl (Or.inl rfl) (sB (zS vK (pv 2) yY (zV _)) (yR MBR T.cl hr2 (pv 0)) (pv 2)))
   (zF (zL (zQ CNu hr1 (zA (pv 3) (zA (xI MW TS.cl hr3 (zU zW (yG (pv 0) rfl) (pv 3) (fun _ _=>rfl)) (zA (pv 1) zC)) zC))))))))),?_⟩
 refine ⟨_,rfl,z,rfl,gz.1,zGS gz.2 (by decide),fun H1 k1=>?_⟩
 have hp1:=k1 _ _ (by simp) hp
 have hsl1:=k1 _ _ (by simp) hsl
 cases a with
 | any _ eb _ nz=>
  refine ⟨_,rfl,rfl,_,rfl,ifF rfl ?_⟩
  refine ⟨_,rfl,_,rfl,p,dx,_,rfl,hp1,cD _ _ _,B,p,nm,nb,xs,ss,rfl,hh.on k1,I.nd,l64,fun a kvs H2 ha hv0 _ k2=>⟨a,_,rfl,u8.k (k:=Sum.inr z) ha,_,rfl,ifF (by rw [hv0 z nz];rfl) ?_⟩⟩
  have k02:=k1.trans k2
  refine ⟨_,rfl,rfl,_,rfl,ifT rfl ⟨_,rfl,p,dx,_,rfl,k02 _ _ (by simp) hp,zF1 _ _ _,B,p,nm,nb,xs,ss,rfl,hh.on k02,ne,l100,fun H3 k3=>?_⟩⟩
  have k03:=k02.trans k3
  rw [<- eb]
  have S:=(hse i x s ex es).keep k03
  obtain ⟨dy,hob⟩:=S.ob
  refine ⟨_,rfl,_,rfl,p,C,dx,_,_,rfl,k03 _ _ (by simp) hp,T.cl,T.nS,vA _ _ _,_,rfl,sl,_,i,_,rfl,rfl,k03 _ _ (by simp) hsl,xX ex,x.1,dy,_,rfl,hob,iH _ _ _ _,_,rfl,x.1,x.2,s,z,rfl,S,gz.1,zGS gz.2 (by decide),ok1,ok2,lr,?_⟩
  exact fun r H' S' R' n' k'=>sO.num (E:=E) hh ex q k03 S' R' n' k'
 | want _ _ nz=>
  refine ⟨_,rfl,rfl,_,rfl,ifT rfl ⟨_,rfl,_,rfl,p,C,dx,_,_,rfl,hp1,T.cl,T.nS,vA _ _ _,_,_,rfl,.inl ⟨_,.of hsl1,rfl⟩,_,_,rfl,by omega,by rw [zGH];omega,?_⟩⟩
  refine ⟨_,rfl,_,rfl,p,dx,_,rfl,hp1,cD _ _ _,B,p,nm,nb,xs,ss,rfl,hh.on k1,I.nd,l64,fun a kvs H2 ha hv0 _ k2=>⟨a,_,rfl,u8.k (k:=Sum.inr z) ha,_,rfl,ifF (by rw [hv0 z nz];rfl) ?_⟩⟩
  have k02:=k1.trans k2
  refine ⟨_,rfl,rfl,_,rfl,ifF rfl ⟨_,rfl,?_⟩⟩
  have S:=(hse i x s ex es).keep k02
  obtain ⟨dy,hob⟩:=S.ob
  refine ⟨_,rfl,_,rfl,p,C,dx,_,_,rfl,k02 _ _ (by simp) hp,T.cl,T.nS,vA _ _ _,_,rfl,sl,_,i,_,rfl,rfl,k02 _ _ (by simp) hsl,xX ex,x.1,dy,_,rfl,hob,iH _ _ _ _,_,rfl,x.1,x.2,s,z,rfl,S,gz.1,zGS gz.2 (by decide),ok1,ok2,lr,?_⟩
  exact fun r H' S' R' n' k'=>sO.num (E:=E) hh ex q k02 S' R' n' k'
def zEH (C CS:Addr):Sp:=fun vs H Q _=>∃ (B:Addr->Prop) (p:Addr) (nm:Str) (nb:List Str) (xs:List (Addr × Addr)) (ss:List SS) (k:Nat) (z:Str) (i:Nat) (s:SS),vs=[.ref p,.str z]/\yA B C CS H p nm nb xs ss/\vY k ss/\k <= 60/\ss.length <= 100/\AtR nb ss (.leave z) i s (.leave z)/\sO B C CS H p nm nb xs ss i s (.leave z) Q
theorem okHL (T:x3 K C) (TS:xY K CS) (G:y2 K C "leave" "House.leave" sHL ["self","asker"]) (MRO:yJ P w K mg base CX0 4 C "right_of" ["self","asker"] (zB9 C CS)) (ML:yJ P w K mg base CX0 3 CS "leave" ["self","asker"] (oG CS)) (CNu:Cal P w K mg base CX0 1 "numbered" ["right","told"] lW):yJ P w K mg base CX0 5 C "leave" ["self","asker"] (zEH C CS):=by
 refine G.ok zE0 (fun vs H Q E h=>by obtain ⟨B,p,nm,nb,xs,ss,k,z,i,s,rfl,_⟩:=h;rfl) (fun f cdv A outer s0 H vs Q E hr h=>?_)
 obtain ⟨B,p,nm,nb,xs,ss,k,z,i,s,rfl,hh,I,hk,l100,a,q⟩:=h
 have hr4:yB 4 _:=hr
 have hr3:yB 3 _:=hr.mono (by decide)
 have hr1:yB 1 _:=hr.mono (by decide)
 have es:=a.here
 have il:i < ss.length:=(zGJ.mp es).1
 obtain ⟨dx,nl,sl,_,hp,hnl,hsl,hxs,hse⟩:=id hh
 have ex:xs[i]?=some xs[i]:=zGI (by omega)
 generalize xs[i]=x at ex
 have si:=I.si s (zGL es)
 have lr:s.row.length < 1000:=by have:=I.rl s (zGL es);omega
 have ne:ss ≠ []:=fun e=>by rw [e] at il;simp at il
 have ok:y9 z ∈ s.row:=a.ok
 have gz:xE z:=(si.r _ ok).2
 have l64:(y8 ss).length < 64:=by have:=I.ln;omega
 obtain ⟨j,hj,hno⟩:=uQ s.row (y9 z) ok
 have ef:yQ s (.leave z) = { s with row:=s.row.eraseIdx j }:=by
  show { s with row:=s.row.filter fun x=>decide (x ≠ y9 z) }=_
  rw [vP s.row (y9 z) j hj hno (si.u z)]
 refine ⟨_,(zE (yF (i:=2) zE0.nd rfl (Or.inl rfl) (xI MRO T.cl hr4 (pv 0) (zA (pv 1) zC)))
   (zF (zL (zQ CNu hr1 (zA (pv 2) (zA (xI ML TS.cl hr3 (zU zW (yG (pv 0) rfl) (pv 2) (fun _ _=>rfl)) (zA (pv 1) zC)) zC)))))),?_⟩
 refine ⟨_,rfl,p,dx,_,rfl,hp,cE _ _ _,_,rfl,B,p,nm,nb,xs,ss,z,i,s,rfl,hh,I.nd,l64,es,xD.mpr (.inr ok),gz,fun H1 k1=>?_⟩
 have S:=(hse i x s ex es).keep k1
 obtain ⟨dy,hob⟩:=S.ob
 refine ⟨_,rfl,_,rfl,p,C,dx,_,_,rfl,k1 _ _ (by simp) hp,T.cl,T.nS,vA _ _ _,_,rfl,sl,_,i,_,rfl,rfl,k1 _ _ (by simp) hsl,xX ex,x.1,dy,_,rfl,hob,zBV _ _ _ _,_,rfl,x.1,x.2,s,z,j,rfl,S,gz.1,zGS gz.2 (by decide),hj,hno,?_⟩
 rw [<- ef]
 exact fun r H' S' R' n' k'=>sO.num (E:=E) hh ex q k1 S' R' n' k'
def zEJ (C CS:Addr):Sp:=fun vs H Q _=>∃ (B:Addr->Prop) (p:Addr) (nm:Str) (nb:List Str) (xs:List (Addr × Addr)) (ss:List SS) (k:Nat) (z:Str) (i:Nat) (s:SS),vs=[.ref p,.str z]/\yA B C CS H p nm nb xs ss/\vY k ss/\k <= 60/\ss.length <= 100/\AtR nb ss (.done z) i s (.done z)/\sO B C CS H p nm nb xs ss i s (.done z) Q
theorem okHD (T:x3 K C) (TS:xY K CS) (G:y2 K C "done" "House.done" sHD ["self","asker"]) (MRO:yJ P w K mg base CX0 4 C "right_of" ["self","asker"] (zB9 C CS)) (MD:yJ P w K mg base CX0 3 CS "done" ["self","asker"] (lX CS)) (CNu:Cal P w K mg base CX0 1 "numbered" ["right","told"] lW):yJ P w K mg base CX0 5 C "done" ["self","asker"] (zEJ C CS):=by
 refine G.ok zE3 (fun vs H Q E h=>by obtain ⟨B,p,nm,nb,xs,ss,k,z,i,s,rfl,_⟩:=h;rfl) (fun f cdv A outer s0 H vs Q E hr h=>?_)
 obtain ⟨B,p,nm,nb,xs,ss,k,z,i,s,rfl,hh,I,hk,l100,a,q⟩:=h
 have hr4:yB 4 _:=hr
 have hr3:yB 3 _:=hr.mono (by decide)
 have hr1:yB 1 _:=hr.mono (by decide)
 have es:=a.here
 have il:i < ss.length:=(zGJ.mp es).1
 obtain ⟨dx,nl,sl,_,hp,hnl,hsl,hxs,hse⟩:=id hh
 have ex:xs[i]?=some xs[i]:=zGI (by omega)
 generalize xs[i]=x at ex
 have si:=I.si s (zGL es)
 have lr:s.row.length < 1000:=by have:=I.rl s (zGL es);omega
 have ne:ss ≠ []:=fun e=>by rw [e] at il;simp at il
 have ok:s.hold=some z:=a.ok
 have gz:xE z:=si.h _ ok
 have l64:(y8 ss).length < 64:=by have:=I.ln;omega
 refine ⟨_,(zE (yF (i:=2) zE3.nd rfl (Or.inl rfl) (xI MRO T.cl hr4 (pv 0) (zA (pv 1) zC)))
   (zF (zL (zQ CNu hr1 (zA (pv 2) (zA (xI MD TS.cl hr3 (zU zW (yG (pv 0) rfl) (pv 2) (fun _ _=>rfl)) (zA (pv 1) zC)) zC)))))),?_⟩
 refine ⟨_,rfl,p,dx,_,rfl,hp,cE _ _ _,_,rfl,B,p,nm,nb,xs,ss,z,i,s,rfl,hh,I.nd,l64,es,xD.mpr (.inl ok),gz,fun H1 k1=>?_⟩
 have S:=(hse i x s ex es).keep k1
 obtain ⟨dy,hob⟩:=S.ob
 refine ⟨_,rfl,_,rfl,p,C,dx,_,_,rfl,k1 _ _ (by simp) hp,T.cl,T.nS,vA _ _ _,_,rfl,sl,_,i,_,rfl,rfl,k1 _ _ (by simp) hsl,xX ex,x.1,dy,_,rfl,hob,zBW _ _ _ _,_,rfl,x.1,x.2,s,z,rfl,S,gz.1,zGS gz.2 (by decide),ok,?_⟩
 exact fun r H' S' R' n' k'=>sO.num (E:=E) hh ex q k1 S' R' n' k'
def zEI (C CS:Addr):Sp:=fun vs H Q _=>∃ (B:Addr->Prop) (p:Addr) (nm:Str) (nb:List Str) (xs:List (Addr × Addr)) (ss:List SS) (k:Nat) (z:Str) (i:Nat) (s:SS),vs=[.ref p,.str z,.int (i:Int)]/\yA B C CS H p nm nb xs ss/\vY k ss/\k <= 60/\ss.length <= 100/\AtR nb ss (.ask z i) i s (.ask z)/\sO B C CS H p nm nb xs ss i s (.ask z) Q
theorem okHK (T:x3 K C) (TS:xY K CS) (G:y2 K C "ask" "House.ask" sHK ["self","house","right"]) (MCL:yJ P w K mg base CX0 3 C "check_letter" ["self","house","right"] (zCB C CS)) (MK:yJ P w K mg base CX0 3 CS "ask" ["self","house"] (fR CS)) (CNu:Cal P w K mg base CX0 1 "numbered" ["right","told"] lW):yJ P w K mg base CX0 4 C "ask" ["self","house","right"] (zEI C CS):=by
 refine G.ok scHK (fun vs H Q E h=>by obtain ⟨B,p,nm,nb,xs,ss,k,z,i,s,rfl,_⟩:=h;rfl) (fun f cdv A outer s0 H vs Q E hr h=>?_)
 obtain ⟨B,p,nm,nb,xs,ss,k,z,i,s,rfl,hh,I,hk,l100,a,q⟩:=h
 have hr3:yB 3 _:=hr
 have hr1:yB 1 _:=hr.mono (by decide)
 have es:=a.here
 have il:i < ss.length:=(zGJ.mp es).1
 obtain ⟨dx,nl,sl,_,hp,hnl,hsl,hxs,hse⟩:=id hh
 have ex:xs[i]?=some xs[i]:=zGI (by omega)
 generalize xs[i]=x at ex
 have si:=I.si s (zGL es)
 have lr:s.row.length < 1000:=by have:=I.rl s (zGL es);omega
 have ne:ss ≠ []:=fun e=>by rw [e] at il;simp at il
 obtain ⟨o1,o2,gz⟩:=a.ok
 have zn:z ∈ nb:=by cases a;assumption
 refine ⟨_,(zE (yO (xI MCL T.cl hr3 (pv 0) (zA (pv 1) (zA (pv 2) zC))))
   (zF (zL (zQ CNu hr1 (zA (pv 2) (zA (xI MK TS.cl hr3 (zU zW (yG (pv 0) rfl) (pv 2) (fun _ _=>rfl)) (zA (pv 1) zC)) zC)))))),?_⟩
 refine ⟨_,rfl,p,dx,_,rfl,hp,zBT _ _ _,_,rfl,_,rfl,B,p,nm,nb,xs,ss,z,i,rfl,hh,zn,gz,il,fun H1 k1=>?_⟩
 have S:=(hse i x s ex es).keep k1
 obtain ⟨dy,hob⟩:=S.ob
 refine ⟨_,rfl,_,rfl,p,C,dx,_,_,rfl,k1 _ _ (by simp) hp,T.cl,T.nS,vA _ _ _,_,rfl,sl,_,i,_,rfl,rfl,k1 _ _ (by simp) hsl,xX ex,x.1,dy,_,rfl,hob,cM _ _ _ _,_,rfl,x.1,x.2,s,z,rfl,S,gz.1,zGS gz.2 (by decide),o1,o2,lr,?_⟩
 exact fun r H' S' R' n' k'=>sO.num (E:=E) hh ex q k1 S' R' n' k'
def zEK (C CS:Addr):Sp:=fun vs H Q _=>∃ (B:Addr->Prop) (p:Addr) (nm:Str) (nb:List Str) (xs:List (Addr × Addr)) (ss:List SS) (k:Nat) (z:Str) (bb:Bool) (i:Nat) (s:SS),vs=[.ref p,.str z,.int (i:Int),.bl bb]/\yA B C CS H p nm nb xs ss/\vY k ss/\k <= 60/\ss.length <= 100/\AtR nb ss (.come z i bb) i s (.come z bb)/\sO B C CS H p nm nb xs ss i s (.come z bb) Q
theorem okHC (T:x3 K C) (TS:xY K CS) (G:y2 K C "come" "House.come" sHC ["self","house","right","back"]) (MCL:yJ P w K mg base CX0 3 C "check_letter" ["self","house","right"] (zCB C CS)) (MCo:yJ P w K mg base CX0 3 CS "come" ["self","house","back"] (lY CS)) (CNu:Cal P w K mg base CX0 1 "numbered" ["right","told"] lW):yJ P w K mg base CX0 4 C "come" ["self","house","right","back"] (zEK C CS):=by
 refine G.ok scHC (fun vs H Q E h=>by obtain ⟨B,p,nm,nb,xs,ss,k,z,bb,i,s,rfl,_⟩:=h;rfl) (fun f cdv A outer s0 H vs Q E hr h=>?_)
 obtain ⟨B,p,nm,nb,xs,ss,k,z,bb,i,s,rfl,hh,I,hk,l100,a,q⟩:=h
 have hr3:yB 3 _:=hr
 have hr1:yB 1 _:=hr.mono (by decide)
 have es:=a.here
 have il:i < ss.length:=(zGJ.mp es).1
 obtain ⟨dx,nl,sl,_,hp,hnl,hsl,hxs,hse⟩:=id hh
 have ex:xs[i]?=some xs[i]:=zGI (by omega)
 generalize xs[i]=x at ex
 have si:=I.si s (zGL es)
 have lr:s.row.length < 1000:=by have:=I.rl s (zGL es);omega
 have ne:ss ≠ []:=fun e=>by rw [e] at il;simp at il
 have ok:s.ptr=some z:=a.ok
 have gz:xE z:=si.p _ ok
 have zn:z ∈ nb:=by cases a;assumption
 refine ⟨_,(zE (yO (xI MCL T.cl hr3 (pv 0) (zA (pv 1) (zA (pv 2) zC))))
   (zF (zL (zQ CNu hr1 (zA (pv 2) (zA (xI MCo TS.cl hr3 (zU zW (yG (pv 0) rfl) (pv 2) (fun _ _=>rfl)) (zA (pv 1) (zA (pv 3) zC))) zC)))))),?_⟩
 refine ⟨_,rfl,p,dx,_,rfl,hp,zBT _ _ _,_,rfl,_,rfl,B,p,nm,nb,xs,ss,z,i,rfl,hh,zn,gz,il,fun H1 k1=>?_⟩
 have S:=(hse i x s ex es).keep k1
 obtain ⟨dy,hob⟩:=S.ob
 refine ⟨_,rfl,_,rfl,p,C,dx,_,_,rfl,k1 _ _ (by simp) hp,T.cl,T.nS,vA _ _ _,_,rfl,sl,_,i,_,rfl,rfl,k1 _ _ (by simp) hsl,xX ex,x.1,dy,_,rfl,hob,zBX _ _ _ _,_,rfl,_,rfl,x.1,x.2,s,z,bb,rfl,S,gz.1,zGS gz.2 (by decide),ok,lr,?_⟩
 exact fun r H' S' R' n' k'=>sO.num (E:=E) hh ex q k1 S' R' n' k'
end
abbrev oN:Stmt:=top 35
abbrev oQ:Stmt:=top 36
abbrev jU:Stmt:=top 37
inductive GD where
 | want (x:V)
 | leave (x:V)
 | done (x:V)
 | ask (x:V)
 | come (x y:V)
noncomputable def gdV:GD->List V
 | .want x=>[.str "want",x]
 | .leave x=>[.str "leave",x]
 | .done x=>[.str "done",x]
 | .ask x=>[.str "ask",x]
 | .come x y=>[.str "come",x,y]
noncomputable def GD.nm:GD->V
 | .want x=>x
 | .leave x=>x
 | .done x=>x
 | .ask x=>x
 | .come x _=>x
noncomputable def gI:DD->GD
 | .want z=>.want (.str z)
 | .leave z=>.leave (.str z)
 | .done z=>.done (.str z)
 | .ask z=>.ask (.str z)
 | .come z b=>.come (.str z) (.bl b)
noncomputable def mkD (a:V) (rl:Addr) (h:V) (k:Bool):List (Key × V):=[(.inr "arrow",a),(.inr "row",.ref rl),(.inr "inside",h),(.inr "asked",.bl k)]
structure DAt (H:Hp) (st rl:Addr) (s:SS):Prop where
 d:H st=some (.dK (mkD (z4 s.ptr) rl (z4 s.hold) s.asked))
 rw:Rows H rl (s.row.map yT)
 len:s.row.length <= 1000
section
variable {H:Hp} {st rl:Addr} {a h:V} {k:Bool}
theorem g_a (e:H st=some (.dK (mkD a rl h k))):u8 H st (.str "arrow") (some a):=.inl ⟨_,.inr "arrow",.inl e,rfl,rfl⟩
theorem g_r (e:H st=some (.dK (mkD a rl h k))):u8 H st (.str "row") (some (.ref rl)):=.inl ⟨_,.inr "row",.inl e,rfl,rfl⟩
theorem g_h (e:H st=some (.dK (mkD a rl h k))):u8 H st (.str "inside") (some h):=.inl ⟨_,.inr "inside",.inl e,rfl,rfl⟩
theorem g_k (e:H st=some (.dK (mkD a rl h k))):u8 H st (.str "asked") (some (.bl k)):=.inl ⟨_,.inr "asked",.inl e,rfl,rfl⟩
theorem p_a (e:H st=some (.dK (mkD a rl h k))) (v:V):bM H st (.str "arrow") v (upd H st (.dK (mkD v rl h k))):=.inl ⟨_,.inr "arrow",e,rfl,by show 4 < sizeLine;decide,rfl⟩
theorem p_h (e:H st=some (.dK (mkD a rl h k))) (v:V):bM H st (.str "inside") v (upd H st (.dK (mkD a rl v k))):=.inl ⟨_,.inr "inside",e,rfl,by show 4 < sizeLine;decide,rfl⟩
theorem p_k (e:H st=some (.dK (mkD a rl h k))) (j:Bool):bM H st (.str "asked") (.bl j) (upd H st (.dK (mkD a rl h j))):=.inl ⟨_,.inr "asked",e,rfl,by show 4 < sizeLine;decide,rfl⟩
theorem DAt.ne {s:SS} (D:DAt H st rl s):st ≠ rl:=by
 obtain ⟨ps,h2,_⟩:=D.rw
 exact xR D.d h2 (by intro z;cases z)
theorem DAt.keep {H':Hp} {s:SS} (D:DAt H st rl s) (k:zD [] H H'):DAt H' st rl s:=⟨k _ _ (by simp) D.d,D.rw.keep k,D.len⟩
theorem wQ {ys:List V} {kvs:List (Key × V)} (h1:H st=some (.dK kvs)) (h2:H rl=some (.lst ys)):∀ b ∈ [st,rl],∀ xs,H b ≠ some (.tup xs):=fun b hb xs z=>by
 simp only [List.mem_cons,zHB,or_false] at hb
 rcases hb with rfl | rfl
 ·rw [h1] at z;cases z
 ·rw [h2] at z;cases z
theorem DAt.fresh {s:SS} {u:Addr} (D:DAt H st rl s) (h:H u=none):u ∉ [st,rl]:=by
 obtain ⟨ps,hwl,_⟩:=D.rw
 simp only [List.mem_cons,zHB,or_false]
 rintro (rfl | rfl)
 ·rw [D.d] at h;cases h
 ·rw [hwl] at h;cases h
end
section
variable {P:Program} {w:World} {K:PySem.W.Frag} {mg:Str->Option Value} {base:Heap} {C:Addr}
theorem bY:zN ["_law_arrow"] ["_law_arrow"] (zG oN):=⟨rfl,rfl,rfl,by decide +kernel,rfl,by decide +kernel,by decide +kernel⟩
def jJ:Sp:=fun vs H Q _=>∃ (ar:Option Str),vs=[z4 ar]/\∀ (st rl:Addr) (H':Hp),H st=none->H rl=none->DAt H' st rl ⟨ar,[],none,false⟩->zD [] H H'->Q (.ref st) H'
theorem aY (G:y0 K mg "_law_state" oN ["_law_arrow"]):Cal P w K mg base CX0 1 "_law_state" ["_law_arrow"] jJ:=by
 refine G.ok bY (fun vs H Q E h=>by obtain ⟨ar,rfl,_⟩:=h;rfl) (fun f cdv A outer s0 H vs Q E hr h=>?_)
 obtain ⟨ar,rfl,q⟩:=h
 refine ⟨_,(zF (zL (aT (sA zO (pv 0) (sA zO (yZ zC) (sA zO yY (sA zO wT aO)))) rfl rfl (by simp) (by decide)))),?_⟩
 intro p hp
 refine ⟨_,rfl,zGR _,fun l hl=>?_⟩
 obtain ⟨hl1,lp⟩:=zM hl
 refine ⟨by rw [zJ (Ne.symm lp),zB],mkD (z4 ar) l .non false,rfl,by show 4 <= 15;decide,?_⟩
 have kk:zD [] H (upd (upd (upd H p (.dK [])) l (.lst [])) p (.dK (mkD (z4 ar) l .non false))):=((zD.new hp).trans (zD.new hl)).under (S:=[p]) (zD.at (by simp)) (by intro b hb;rw [zGK.mp hb];exact hp)
 exact q p l _ hp hl1 ⟨zB,⟨[],by rw [zJ lp,zB];rfl,.nil⟩,zGR _⟩ kk
theorem oK:zN ["_law_state_here","_law_word","_law_name"] ["_law_state_here"] (zG oQ):=⟨rfl,rfl,rfl,by decide +kernel,rfl,by decide +kernel,by decide +kernel⟩
def jN:Sp:=fun vs H Q _=>∃ (st rl:Addr) (s:SS),vs=[.ref st]/\DAt H st rl s/\∀ (r:Addr) (H':Hp),DAt H' st rl (zX s).1->Rows H' r (zX s).2->H r=none->zD [st,rl] H H'->Q (.ref r) H'
theorem zAB (G:y0 K mg "_law_moved" oQ ["_law_state_here"]):Cal P w K mg base CX0 1 "_law_moved" ["_law_state_here"] jN:=by
 refine G.ok oK (fun vs H Q E h=>by obtain ⟨st,rl,s,rfl,_⟩:=h;rfl) (fun f cdv A outer s0 H vs Q E hr h=>?_)
 obtain ⟨st,rl,s,rfl,D0,q⟩:=h
 have hu:=v9 hr
 refine ⟨_,(zE (yC (zS (zC3 (Nat.lt_of_succ_lt hu)) (y6 hu (pv 0) zO (fun _ _=>rfl)) (yZ zC) (zV _)) (zF (zL (yZ zC))) zT)
   (zE (yC (PW.pt (qK (zS vK (y6 hu (pv 0) zO (fun _ _=>rfl)) yY (zV _)) (t9 (zS vK (y6 hu (pv 0) zO (fun _ _=>rfl)) yY (zV _))))) (zE (tP (vL PySem.F.plainAttrs_list PySem.F.slot_list_pop PySem.F.type_list_pop mX (y6 hu (pv 0) zO (fun _ _=>rfl)) (zA zI zC)) (uB rfl (yS (yH (i:=1) oK.nd rfl (Or.inl rfl)) (yS (yH (i:=2) oK.nd rfl (Or.inl rfl)) vF))))
   (zE (yC (zS xO (pv 1) zO (zV _)) (zE (uI hu (pv 0) zO (pv 2) rfl)
   (zF (zL (yZ (zA (yD (zA zO (zA (pv 2) zC))) zC))))) zT)
   (zE (uI hu (pv 0) zO (pv 2) rfl)
   (zE (uI hu (pv 0) zO (wD (zC0 (Nat.lt_of_succ_lt hu)) (y6 hu (pv 0) zO (fun _ _=>rfl)) (yZ zC) (zV _)) rfl)
   (zF (zL (yZ (zA (yD (zA zO (zA (pv 2) (zA (y6 hu (pv 0) zO (fun _ _=>rfl)) zC)))) zC)))))))) zT)
   (zE (yC (PW.pt (qK (zS uL (y6 hu (pv 0) zO (fun _ _=>rfl)) yY (zV _)) (t9 (wA (xV (y6 hu (pv 0) zO (fun _ _=>rfl))))))) (zE (uI hu (pv 0) zO wT rfl)
   (zF (zL (yZ (zA (yD (zA zO (zA (y6 hu (pv 0) zO (fun _ _=>rfl)) zC))) zC))))) zT)
   (zF (zL (yZ zC)))))),?_⟩
 have none_:∀ H1,zD [] H H1->zX s=(s,[])->∀ r,H1 r=none->Q (.ref r) (upd H1 r (.lst [])):=fun H1 k1 e r hr=>by
  rw [e] at q
  exact q r _ (D0.keep (k1.trans (zD.new hr))) ⟨[],zB,.nil⟩ (k1.none (by simp) hr) ((k1.trans (zD.new hr)).mono (by simp))
 obtain ⟨ps0,hw0,hpr0⟩:=id D0.rw
 have lps:=zP hpr0
 rw [zGH] at lps
 have hps:(ps0.map V.ref).isEmpty=s.row.isEmpty:=by
  cases hps:ps0 <;> cases hrow:s.row <;> simp_all
 refine ⟨_,rfl,st,_,rfl,g_r D0.d,zGR _,fun e0 he0=>?_⟩
 have k0:zD [] H (upd H e0 (.lst [])):=zD.new he0
 refine ⟨rl,e0,_,rfl,rfl,k0 _ _ (by simp) hw0,zB,zH hw0 he0,_,rfl,?_⟩
 generalize upd H e0 (.lst [])=H1 at k0 ⊢
 have D:=D0.keep k0
 have nst:=D.ne
 obtain ⟨ps,hwl,hpr⟩:=id D.rw
 cases hem:s.row.isEmpty with
 | true=>
  refine ifT (by show (ps0.map V.ref).isEmpty=true;rw [hps];exact hem) ⟨zGR _,fun r hr=>none_ H1 k0 ?_ r hr⟩
  unfold zX;rw [hem];rfl
 | false=>
 refine ifF (by show (ps0.map V.ref).isEmpty=false;rw [hps];exact hem) ?_
 refine ⟨_,rfl,st,_,rfl,g_a D.d,rfl,_,rfl,?_⟩
 cases hp:s.ptr with
 | none=>
  refine ifT rfl ?_
  refine ⟨_,rfl,st,_,rfl,g_h D.d,rfl,_,rfl,?_⟩
  cases hh:s.hold with
  | none=>
   refine ifT rfl ?_
   have em:zX s=((xU s).1,[(xU s).2]):=by unfold zX;rw [hem,hp,hh];rfl
   rw [em] at q
   obtain ⟨ptr,row,hold,asked⟩:=s
   dsimp only at *
   subst hp hh
   cases row with
   | nil=>cases hem
   | cons kn rest=>
    obtain ⟨k,n⟩:=kn
    cases hpr with
    | @cons t _ ps' _ ht hpr=>
    have lps':=zP hpr
    rw [zGH] at lps'
    have hl1:rest.length + 1 <= 1000:=D.len
    refine ⟨_,rfl,st,_,rfl,g_r D.d,.inl ⟨rfl,_,.of hwl⟩,rl,_,0,0,.ref t,rfl,rfl,hwl,by decide,by decide,zER _,rfl,?_⟩
    rw [show (List.map V.ref (t :: ps')).eraseIdx 0=ps'.map V.ref from rfl]
    have ntw:t ≠ rl:=xR ht hwl (by intro z;cases z)
    have hd1:upd H1 rl (.lst (ps'.map V.ref)) st=some (.dK (mkD .non rl .non asked)):=by rw [zJ nst];exact D.d
    refine ⟨t,_,rfl,.of (by rw [zJ ntw];exact ht),rfl,_,_,rfl,_,_,rfl,rfl,?_⟩
    refine ⟨_,rfl,rfl,_,rfl,?_⟩
    refine gD (fun hk=>?_) (fun hk=>?_)
    ·have hk':k="asker":=by have:=of_decide_eq_true hk;injection this
     have es:xU { ptr:=none,row:=(k,n) :: rest,hold:=none,asked:=asked }=({ ptr:=none,row:=rest,hold:=some n,asked:=asked },[.str "given",.str n]):=by
      unfold xU;simp only [hk',if_true]
     rw [es] at q
     refine ⟨_,rfl,_,rfl,st,_,rfl,p_h hd1 _,?_⟩
     refine ⟨_,rfl,by show 2 <= sizeLine;decide,fun t1 ht1=>⟨by show 1 <= sizeLine;decide,fun r hr=>?_⟩⟩
     have kk:zD [st,rl] H1 (upd (upd (upd (upd H1 rl (.lst (ps'.map V.ref))) st (.dK (mkD .non rl (.str n) asked))) t1 (.tup [.str "given",.str n])) r (.lst [.ref t1])):=(((zD.at (by simp)).trans (zD.at (by simp))).trans (zD.new ht1)).trans (zD.new hr)
     obtain ⟨hr1,rt⟩:=zM hr
     obtain ⟨hr2,rs⟩:=zM hr1
     obtain ⟨hr3,rr⟩:=zM hr2
     obtain ⟨hs2,ts⟩:=zM ht1
     obtain ⟨hs3,tr⟩:=zM hs2
     refine q r _ ⟨?_,⟨ps',?_,zK kk (wQ D.d hwl) hpr⟩,?_⟩ ⟨[t1],zB,.cons ?_ .nil⟩ (k0.none (by simp) hr3) ((k0.mono (by simp)).trans kk)
     ·rw [zJ (Ne.symm rs),zJ (Ne.symm ts),zB];rfl
     ·rw [zJ (Ne.symm rr),zJ (Ne.symm tr),zJ (Ne.symm nst),zB]
     ·show rest.length <= 1000;omega
     ·rw [zJ (Ne.symm rt),zB]
    ·have hk':¬ k="asker":=fun z=>hk (by rw [z];exact zGW rfl)
     have es:xU { ptr:=none,row:=(k,n) :: rest,hold:=none,asked:=asked }=({ ptr:=some n,row:=rest,hold:=none,asked:=!rest.isEmpty },[.str "right",.str n,.bl (!rest.isEmpty)]):=by
      unfold xU;simp only [if_neg hk']
     rw [es] at q
     refine ⟨_,rfl,_,rfl,st,_,rfl,p_a hd1 _,?_⟩
     have hd2:upd (upd H1 rl (.lst (ps'.map V.ref))) st (.dK (mkD (.str n) rl .non asked)) st=some (.dK (mkD (.str n) rl .non asked)):=zB
     refine ⟨_,rfl,st,_,rfl,g_r hd2,zGR _,fun e1 he1=>?_⟩
     obtain ⟨he2,es1⟩:=zM he1
     obtain ⟨he3,er1⟩:=zM he2
     have hrl2:upd (upd (upd H1 rl (.lst (ps'.map V.ref))) st (.dK (mkD (.str n) rl .non asked))) e1 (.lst []) rl=some (.lst (ps'.map V.ref)):=by rw [zJ (Ne.symm er1),zJ (Ne.symm nst),zB]
     refine ⟨rl,e1,_,rfl,rfl,hrl2,zB,Ne.symm er1,?_⟩
     have eb:(!(ps'.map V.ref).isEmpty) = !rest.isEmpty:=by
      cases rest <;> cases ps' <;> first | rfl | (simp at lps')
     rw [if_pos rfl,eb]
     have hd3:upd (upd (upd H1 rl (.lst (ps'.map V.ref))) st (.dK (mkD (.str n) rl .non asked))) e1 (.lst []) st=some (.dK (mkD (.str n) rl .non asked)):=by rw [zJ (Ne.symm es1)];exact hd2
     refine ⟨_,rfl,st,_,rfl,p_k hd3 _,?_⟩
     refine ⟨_,rfl,_,rfl,st,_,rfl,g_k zB,by show 3 <= sizeLine;decide,fun t1 ht1=>⟨by show 1 <= sizeLine;decide,fun r hr=>?_⟩⟩
     have kk:zD [st,rl] H1 (upd (upd (upd (upd (upd (upd H1 rl (.lst (ps'.map V.ref))) st (.dK (mkD (.str n) rl .non asked))) e1 (.lst [])) st (.dK (mkD (.str n) rl .non (!rest.isEmpty)))) t1 (.tup [.str "right",.str n,.bl (!rest.isEmpty)])) r (.lst [.ref t1])):=
      (((((zD.at (by simp)).trans (zD.at (by simp))).trans (zD.new he1)).trans (zD.at (by simp))).trans (zD.new ht1)).trans (zD.new hr)
     obtain ⟨hr1,rt⟩:=zM hr
     obtain ⟨hr2,rs⟩:=zM hr1
     obtain ⟨hr3,re⟩:=zM hr2
     obtain ⟨hr4,_⟩:=zM hr3
     obtain ⟨hr5,rr⟩:=zM hr4
     obtain ⟨hs2,ts⟩:=zM ht1
     obtain ⟨hs3,te⟩:=zM hs2
     obtain ⟨hs4,_⟩:=zM hs3
     obtain ⟨hs5,tr⟩:=zM hs4
     refine q r _ ⟨?_,⟨ps',?_,zK kk (wQ D.d hwl) hpr⟩,?_⟩ ⟨[t1],zB,.cons ?_ .nil⟩ (k0.none (by simp) hr5) ((k0.mono (by simp)).trans kk)
     ·rw [zJ (Ne.symm rs),zJ (Ne.symm ts),zB];rfl
     ·rw [zJ (Ne.symm rr),zJ (Ne.symm tr),zJ (Ne.symm nst),zJ (Ne.symm er1),zJ (Ne.symm nst),zB]
     ·show rest.length <= 1000;omega
     ·rw [zJ (Ne.symm rt),zB]
  | some g=>
   refine ifF rfl ?_
   refine ⟨_,rfl,st,_,rfl,g_a D.d,rfl,_,rfl,?_⟩
   refine ifF (by rw [hp];rfl) (ifF rfl ⟨zGR _,fun r hr=>none_ H1 k0 ?_ r hr⟩)
   unfold zX;rw [hem,hp,hh];rfl
 | some g=>
  refine ifF rfl (ifF rfl ?_)
  refine ⟨_,rfl,st,_,rfl,g_a D.d,rfl,_,rfl,?_⟩
  refine ifT (by rw [hp];rfl) ?_
  refine ⟨_,rfl,st,_,rfl,g_k D.d,_,rfl,?_⟩
  cases hk:s.asked with
  | true=>
   refine ifF rfl ⟨zGR _,fun r hr=>none_ H1 k0 ?_ r hr⟩
   unfold zX;rw [hem,hp,hk];rfl
  | false=>
   refine ifT rfl ?_
   have em:zX s=({ s with asked:=true },[[.str "ask",.str g]]):=by unfold zX;rw [hem,hp,hk];rfl
   rw [em] at q
   refine ⟨_,rfl,st,_,rfl,p_k D.d true,?_⟩
   have hd2:upd H1 st (.dK (mkD (z4 s.ptr) rl (z4 s.hold) true)) st=some (.dK (mkD (z4 s.ptr) rl (z4 s.hold) true)):=zB
   refine ⟨_,rfl,st,_,rfl,g_a hd2,by show 2 <= sizeLine;decide,fun t1 ht1=>⟨by show 1 <= sizeLine;decide,fun r hr=>?_⟩⟩
   rw [hp] at ht1 hr ⊢
   have kk:zD [st,rl] H1 (upd (upd (upd H1 st (.dK (mkD (z4 (some g)) rl (z4 s.hold) true))) t1 (.tup [.str "ask",z4 (some g)])) r (.lst [.ref t1])):=((zD.at (by simp)).trans (zD.new ht1)).trans (zD.new hr)
   obtain ⟨hr1,rt⟩:=zM hr
   obtain ⟨hr2,rs⟩:=zM hr1
   obtain ⟨hs2,ts⟩:=zM ht1
   refine q r _ ⟨?_,⟨ps,?_,zK kk (wQ D.d hwl) hpr⟩,D.len⟩ ⟨[t1],zB,.cons ?_ .nil⟩ (k0.none (by simp) hr2) ((k0.mono (by simp)).trans kk)
   ·rw [zJ (Ne.symm rs),zJ (Ne.symm ts),zB,hp]
   ·rw [zJ (zH hwl hr2),zJ (zH hwl hs2),zJ (Ne.symm nst)];exact hwl
   ·rw [zJ (Ne.symm rt),zB];rfl
end
noncomputable def GD.wd:GD->Str
 | .want _=>"want"
 | .leave _=>"leave"
 | .done _=>"done"
 | .ask _=>"ask"
 | .come _ _=>"come"
theorem zDQ {K:PySem.W.Frag} {H:Hp} {t:Addr} {Q:VK}:∀ {g:GD},H t=some (.tup (gdV g))->(∀ (u:Addr) (H1:Hp),zD [] H H1->H1 u=some (.tup [.str g.wd,g.nm])->Q (.ref u) H1)->f8 K (.ref t) none (some 2) H Q
 | .want _,ht,h=>⟨t,_,rfl,.of ht,.inl ⟨rfl,rfl,h t H (zD.refl _) ht⟩⟩
 | .leave _,ht,h=>⟨t,_,rfl,.of ht,.inl ⟨rfl,rfl,h t H (zD.refl _) ht⟩⟩
 | .done _,ht,h=>⟨t,_,rfl,.of ht,.inl ⟨rfl,rfl,h t H (zD.refl _) ht⟩⟩
 | .ask _,ht,h=>⟨t,_,rfl,.of ht,.inl ⟨rfl,rfl,h t H (zD.refl _) ht⟩⟩
 | .come _ _,ht,h=>⟨t,_,rfl,.of ht,.inr ⟨by show ¬ ((0:Nat)=0/\(2:Nat)=3);decide,fun p hp=>h p _ (zD.new hp) zB⟩⟩
theorem DAt.more {H3:Hp} {st rl t:Addr} {s:SS} {ps:List Addr} {x:Str × Str} (hd:H3 st=some (.dK (mkD (z4 s.ptr) rl (z4 s.hold) s.asked)))
  (hpr:Paired (fun q r=>H3 q=some (.tup r)) ps (s.row.map yT)) (hw:H3 rl=some (.lst (ps.map V.ref ++ [.ref t]))) (ht:H3 t=some (.tup (yT x))) (hl:s.row.length < 1000):DAt H3 st rl { s with row:=s.row ++ [x] }:=by
 refine ⟨hd,⟨ps ++ [t],by rw [hw,zGT];rfl,?_⟩,by show (s.row ++ [x]).length <= 1000;simp;omega⟩
 show Paired _ _ ((s.row ++ [x]).map yT)
 rw [zGT]
 exact x8 hpr ht
theorem kD (z:Str) (o:Option Str):fT (z4 o) (.str z)=true:=by cases o <;> rfl
theorem cY (z:Str) (o:Option Str):decide (z4 o=V.str z)=decide (o=some z):=by
 cases o with
 | none=>simp [z4]
 | some y=>simp [z4]
theorem zDP {H:Hp} {Q:VK} {p t:Addr} {row:List (Str × Str)} {x:Str × Str} (R:Rows H p (row.map yT)) (ht:H t=some (.tup (yT x))) (q:Q (.bl (decide (x ∈ row))) H):aK false (.ref t) (.ref p) H Q:=
 ⟨p,t,_,row.map yT,rfl,rfl,R,ht,rfl,vB _,by
  show Q (.bl ((row.map yT).any fun r=>eqT r (yT x))) H
  rw [uT];exact q⟩
theorem i9 {H:Hp} {Q:VK} {p t:Addr} {row:List (Str × Str)} {x:Str × Str} (R:Rows H p (row.map yT)) (ht:H t=some (.tup (yT x))) (q:Q (.bl (!decide (x ∈ row))) H):aK true (.ref t) (.ref p) H Q:=
 ⟨p,t,_,row.map yT,rfl,rfl,R,ht,rfl,vB _,by
  show Q (.bl (!(row.map yT).any fun r=>eqT r (yT x))) H
  rw [uT];exact q⟩
section
variable {P:Program} {w:World} {K:PySem.W.Frag} {mg:Str->Option Value} {base:Heap} {C:Addr}
theorem kE:zN ["_law_state_here","_law_deed","_law_word","_law_name"] ["_law_state_here","_law_deed"] (zG jU):=⟨rfl,rfl,rfl,by decide +kernel,rfl,by decide +kernel,by decide +kernel⟩
def fO:Sp:=fun vs H Q _=>∃ (st rl t:Addr) (s:SS) (d:DD),vs=[.ref st,.ref t]/\DAt H st rl s/\H t=some (.tup (gdV (gI d)))/\rE s/\jE s d/\s.row.length < 900 /\
 ∀ (r:Addr) (H':Hp),DAt H' st rl (zX (yQ s d)).1->Rows H' r (zX (yQ s d)).2->H r=none->zD [st,rl] H H'->Q (.ref r) H'
theorem zDA (G:y0 K mg "_law_made_at" jU ["_law_state_here","_law_deed"]) (CM:Cal P w K mg base CX0 1 "_law_moved" ["_law_state_here"] jN):Cal P w K mg base CX0 2 "_law_made_at" ["_law_state_here","_law_deed"] fO:=by
 refine G.ok kE (fun vs H Q E h=>by obtain ⟨st,rl,t,s,d,rfl,_⟩:=h;rfl) (fun f cdv A outer s0 H vs Q E hr h=>?_)
 obtain ⟨st,rl,t,s,d,rfl,D0,ht,I,ok,hlen,q⟩:=h
 have hr1:yB 1 _:=hr
 have hu:=v9 hr
 have hlen':s.row.length < 1000:=by omega
 refine ⟨_,(zE (tP (wY rR (pv 1) uJ (wX zI)) (uB rfl (yS (yH (i:=2) kE.nd rfl (Or.inl rfl)) (yS (yH (i:=3) kE.nd rfl (Or.inl rfl)) vF))))
   (zE (yC (zS xO (pv 2) zO (zV _)) (zF (yO (vL PySem.F.plainAttrs_list PySem.F.slot_list_append PySem.F.type_list_append xF (y6 hu (pv 0) zO (fun _ _=>rfl)) (zA (yD (zA zO (zA (pv 3) zC))) zC)))) (zF (yC (zS xO (pv 2) zO (zV _)) (zF (yO (vL PySem.F.plainAttrs_list PySem.F.slot_list_remove PySem.F.type_list_remove (qP hu) (y6 hu (pv 0) zO (fun _ _=>rfl)) (zA (yD (zA zO (zA (pv 3) zC))) zC)))) (zF (yC (zS xO (pv 2) zO (zV _)) (zF (uI hu (pv 0) zO yY rfl)) (zF (yC (zS xO (pv 2) zO (zV _)) (zF (yO (vL PySem.F.plainAttrs_list PySem.F.slot_list_append PySem.F.type_list_append xF (y6 hu (pv 0) zO (fun _ _=>rfl)) (zA (yD (zA zO (zA (pv 3) zC))) zC)))) (zE (uI hu (pv 0) zO yY rfl)
   (zE (uI hu (pv 0) zO wT rfl)
   (zF (yC (xV (zU zY (pv 1) zI (fun _ _=>rfl))) (zF (yO (vL PySem.F.plainAttrs_list PySem.F.slot_list_append PySem.F.type_list_append xF (y6 hu (pv 0) zO (fun _ _=>rfl)) (zA (yD (zA zO (zA (pv 3) zC))) zC)))) zT)))))))))))
   (zF (zL (zQ CM hr1 (zA (pv 0) zC)))))),?_⟩
 refine ⟨_,rfl,_,rfl,zDQ ht fun u H1 k01 hu1=>?_⟩
 refine ⟨u,_,rfl,.of hu1,rfl,_,_,rfl,_,_,rfl,rfl,?_⟩
 have D:=D0.keep k01
 have ht1:=k01 _ _ (by simp) ht
 cases d with
 | want z=>
  dsimp only [gI,GD.wd,GD.nm]
  refine ⟨_,rfl,rfl,_,rfl,ifT (by decide +kernel) ?_⟩
  obtain ⟨ps,hwl,hpr⟩:=id D.rw
  have lps:=zP hpr
  rw [zGH] at lps
  refine ⟨_,rfl,st,_,rfl,g_r D.d,.inl ⟨rfl,_,.of hwl⟩,_,rfl,by show 2 <= sizeLine;decide,fun t2 ht2=>?_⟩
  have k3:zD [] H1 (upd H1 t2 (.tup [.str "asker",.str z])):=zD.new ht2
  have wt2:rl ≠ t2:=zH hwl ht2
  refine ⟨rl,_,_,rfl,rfl,k3 _ _ (by simp) hwl,by rw [zGH,sizeLine_eq];have:=D.len;omega,?_⟩
  have h3t:upd H1 t2 (.tup [.str "asker",.str z]) t2=some (.tup (yT (y9 z))):=zB
  have n3:∀ r,upd H1 t2 (.tup [.str "asker",.str z]) r=none->H1 r=none:=fun r h=>(zM h).1
  generalize upd H1 t2 (.tup [.str "asker",.str z])=H3 at k3 h3t n3 ⊢
  have k4:zD [st,rl] H1 (upd H3 rl (.lst (ps.map V.ref ++ [.ref t2]))):=(k3.mono (by simp)).trans (zD.at (by simp))
  have D4:=DAt.more (H3:=upd H3 rl (.lst (ps.map V.ref ++ [.ref t2]))) (x:=y9 z) (by rw [zJ D.ne];exact k3 _ _ (by simp) D.d) (zK k4 (wQ D.d hwl) hpr) zB (by rw [zJ (Ne.symm wt2)];exact h3t) hlen'
  refine ⟨_,rfl,st,rl,_,rfl,D4,fun r H5 D5 R5 hr5 k5=>?_⟩
  exact q r H5 D5 R5 (k01.none (by simp) (n3 r (zM hr5).1)) (((k01.mono (by simp)).trans k4).trans k5)
 | leave z=>
  dsimp only [gI,GD.wd,GD.nm]
  refine ⟨_,rfl,rfl,_,rfl,ifF (by decide +kernel) ?_⟩
  refine ⟨_,rfl,rfl,_,rfl,ifT (by decide +kernel) ?_⟩
  obtain ⟨ps,hwl,hpr⟩:=id D.rw
  obtain ⟨j,hj,hno⟩:=uQ s.row (y9 z) ok
  have ef:yQ s (.leave z) = { s with row:=s.row.eraseIdx j }:=by
   show ({ s with row:=s.row.filter fun x=>decide (x ≠ y9 z) }:SS)=_
   rw [vP s.row (y9 z) j hj hno (I.u z)]
  rw [ef] at q
  refine ⟨_,rfl,st,_,rfl,g_r D.d,.inl ⟨rfl,_,.of hwl⟩,_,rfl,by show 2 <= sizeLine;decide,fun t2 ht2=>?_⟩
  have k3:zD [] H1 (upd H1 t2 (.tup [.str "asker",.str z])):=zD.new ht2
  have hn13:∀ b ∈ ([]:List Addr),∀ xs,H1 b ≠ some (.tup xs):=fun b hb=>by cases hb
  refine ⟨rl,t2,_,s.row.map yT,j,ps,rfl,rfl,k3 _ _ (by simp) hwl,zK k3 hn13 hpr,zB,rfl,vB _,⟨yT (y9 z),by rw [zGN,hj];rfl,by
   show eqT (yT (y9 z)) (yT (y9 z))=true
   rw [sG];exact zGW rfl⟩,(fun m r hm e=>by
   rw [zGN] at e
   cases hx:s.row[m]? with
   | none=>rw [hx] at e;cases e
   | some y=>
    rw [hx] at e
    have e':yT y=r:=zGO e
    rw [<- e']
    show eqT (yT y) (yT (y9 z))=false
    rw [sG]
    exact zGX (fun w=>hno m hm (by rw [hx,w]))),?_⟩
  have n3:∀ r,upd H1 t2 (.tup [.str "asker",.str z]) r=none->H1 r=none:=fun r h=>(zM h).1
  generalize upd H1 t2 (.tup [.str "asker",.str z])=H3 at k3 n3 ⊢
  have k4:zD [st,rl] H1 (upd H3 rl (.lst ((ps.eraseIdx j).map V.ref))):=(k3.mono (by simp)).trans (zD.at (by simp))
  have D4:DAt (upd H3 rl (.lst ((ps.eraseIdx j).map V.ref))) st rl { s with row:=s.row.eraseIdx j }:=by
   refine ⟨by rw [zJ D.ne];exact k3 _ _ (by simp) D.d,⟨ps.eraseIdx j,zB,?_⟩,zGS (uE s.row j) D.len⟩
   show Paired _ _ ((s.row.eraseIdx j).map yT)
   rw [<- tD yT]
   exact uK j (zK k4 (wQ D.d hwl) hpr)
  refine ⟨_,rfl,st,rl,_,rfl,D4,fun r H5 D5 R5 hr5 k5=>?_⟩
  exact q r H5 D5 R5 (k01.none (by simp) (n3 r (zM hr5).1)) (((k01.mono (by simp)).trans k4).trans k5)
 | done z=>
  dsimp only [gI,GD.wd,GD.nm]
  refine ⟨_,rfl,rfl,_,rfl,ifF (by decide +kernel) ?_⟩
  refine ⟨_,rfl,rfl,_,rfl,ifF (by decide +kernel) ?_⟩
  refine ⟨_,rfl,rfl,_,rfl,ifT (by decide +kernel) ?_⟩
  refine ⟨_,rfl,st,_,rfl,p_h D.d .non,?_⟩
  have k4:zD [st,rl] H1 (upd H1 st (.dK (mkD (z4 s.ptr) rl .non s.asked))):=zD.at (by simp)
  obtain ⟨ps,hwl,hpr⟩:=id D.rw
  have D4:DAt (upd H1 st (.dK (mkD (z4 s.ptr) rl .non s.asked))) st rl { s with hold:=none }:=⟨zB,⟨ps,by rw [zJ (Ne.symm D.ne)];exact hwl,zK k4 (wQ D.d hwl) hpr⟩,D.len⟩
  refine ⟨_,rfl,st,rl,_,rfl,D4,fun r H5 D5 R5 hr5 k5=>?_⟩
  exact q r H5 D5 R5 (k01.none (by simp) (zM hr5).1) (((k01.mono (by simp)).trans k4).trans k5)
 | ask z=>
  dsimp only [gI,GD.wd,GD.nm]
  refine ⟨_,rfl,rfl,_,rfl,ifF (by decide +kernel) ?_⟩
  refine ⟨_,rfl,rfl,_,rfl,ifF (by decide +kernel) ?_⟩
  refine ⟨_,rfl,rfl,_,rfl,ifF (by decide +kernel) ?_⟩
  refine ⟨_,rfl,rfl,_,rfl,ifT (by decide +kernel) ?_⟩
  obtain ⟨ps,hwl,hpr⟩:=id D.rw
  have lps:=zP hpr
  rw [zGH] at lps
  refine ⟨_,rfl,st,_,rfl,g_r D.d,.inl ⟨rfl,_,.of hwl⟩,_,rfl,by show 2 <= sizeLine;decide,fun t2 ht2=>?_⟩
  have k3:zD [] H1 (upd H1 t2 (.tup [.str "house",.str z])):=zD.new ht2
  have wt2:rl ≠ t2:=zH hwl ht2
  refine ⟨rl,_,_,rfl,rfl,k3 _ _ (by simp) hwl,by rw [zGH,sizeLine_eq];have:=D.len;omega,?_⟩
  have h3t:upd H1 t2 (.tup [.str "house",.str z]) t2=some (.tup (yT (hsR z))):=zB
  have n3:∀ r,upd H1 t2 (.tup [.str "house",.str z]) r=none->H1 r=none:=fun r h=>(zM h).1
  generalize upd H1 t2 (.tup [.str "house",.str z])=H3 at k3 h3t n3 ⊢
  have k4:zD [st,rl] H1 (upd H3 rl (.lst (ps.map V.ref ++ [.ref t2]))):=(k3.mono (by simp)).trans (zD.at (by simp))
  have D4:=DAt.more (H3:=upd H3 rl (.lst (ps.map V.ref ++ [.ref t2]))) (x:=hsR z) (by rw [zJ D.ne];exact k3 _ _ (by simp) D.d) (zK k4 (wQ D.d hwl) hpr) zB (by rw [zJ (Ne.symm wt2)];exact h3t) hlen'
  refine ⟨_,rfl,st,rl,_,rfl,D4,fun r H5 D5 R5 hr5 k5=>?_⟩
  exact q r H5 D5 R5 (k01.none (by simp) (n3 r (zM hr5).1)) (((k01.mono (by simp)).trans k4).trans k5)
 | come z b=>
  dsimp only [gI,GD.wd,GD.nm]
  refine ⟨_,rfl,rfl,_,rfl,ifF (by decide +kernel) ?_⟩
  refine ⟨_,rfl,rfl,_,rfl,ifF (by decide +kernel) ?_⟩
  refine ⟨_,rfl,rfl,_,rfl,ifF (by decide +kernel) ?_⟩
  refine ⟨_,rfl,rfl,_,rfl,ifF (by decide +kernel) ?_⟩
  refine ⟨_,rfl,st,_,rfl,p_a D.d .non,?_⟩
  refine ⟨_,rfl,st,_,rfl,p_k zB false,?_⟩
  rw [vZ]
  obtain ⟨ps0,hwl0,hpr0⟩:=id D.rw
  have kc:zD [st,rl] H1 (upd H1 st (.dK (mkD .non rl (z4 s.hold) false))):=zD.at (by simp)
  have Dc:DAt (upd H1 st (.dK (mkD .non rl (z4 s.hold) false))) st rl { s with ptr:=none,asked:=false }:=⟨zB,⟨ps0,by rw [zJ (Ne.symm D.ne)];exact hwl0,zK kc (wQ D.d hwl0) hpr0⟩,D.len⟩
  have htc:upd H1 st (.dK (mkD .non rl (z4 s.hold) false)) t=some (.tup [.str "come",.str z,.bl b]):=by
   rw [zJ (xR ht1 D.d (by intro z;cases z))];exact ht1
  have nc:∀ r,upd H1 st (.dK (mkD .non rl (z4 s.hold) false)) r=none->H1 r=none:=fun r h=>(zM h).1
  clear D
  generalize upd H1 st (.dK (mkD .non rl (z4 s.hold) false))=H2 at kc Dc htc nc ⊢
  refine ⟨_,rfl,t,_,2,_,rfl,rfl,htc,at2 _ _ _ _,_,rfl,?_⟩
  have kk:zD [st,rl] H H2:=(k01.mono (by simp)).trans kc
  have nn:∀ r,H2 r=none->H r=none:=fun r h=>k01.none (by simp) (nc r h)
  cases b with
  | false=>
   refine ifF rfl ?_
   refine ⟨_,rfl,st,rl,_,rfl,Dc,fun r H5 D5 R5 hr5 k5=>?_⟩
   exact q r H5 D5 R5 (nn r hr5) (kk.trans k5)
  | true=>
   refine ifT rfl ?_
   obtain ⟨ps,hwl,hpr⟩:=id Dc.rw
   have lps:=zP hpr
   rw [zGH] at lps
   refine ⟨_,rfl,st,_,rfl,g_r Dc.d,.inl ⟨rfl,_,.of hwl⟩,_,rfl,by show 2 <= sizeLine;decide,fun t2 ht2=>?_⟩
   have k3:zD [] H2 (upd H2 t2 (.tup [.str "house",.str z])):=zD.new ht2
   have wt2:rl ≠ t2:=zH hwl ht2
   refine ⟨rl,_,_,rfl,rfl,k3 _ _ (by simp) hwl,by rw [zGH,sizeLine_eq];have:=Dc.len;omega,?_⟩
   have h3t:upd H2 t2 (.tup [.str "house",.str z]) t2=some (.tup (yT (hsR z))):=zB
   have n3:∀ r,upd H2 t2 (.tup [.str "house",.str z]) r=none->H2 r=none:=fun r h=>(zM h).1
   generalize upd H2 t2 (.tup [.str "house",.str z])=H3 at k3 h3t n3 ⊢
   have k4:zD [st,rl] H2 (upd H3 rl (.lst (ps.map V.ref ++ [.ref t2]))):=(k3.mono (by simp)).trans (zD.at (by simp))
   have D4:=DAt.more (s:={ s with ptr:=none,asked:=false }) (H3:=upd H3 rl (.lst (ps.map V.ref ++ [.ref t2]))) (x:=hsR z) (by rw [zJ Dc.ne];exact k3 _ _ (by simp) Dc.d) (zK k4 (wQ Dc.d hwl) hpr) zB (by rw [zJ (Ne.symm wt2)];exact h3t) hlen'
   refine ⟨_,rfl,st,rl,_,rfl,D4,fun r H5 D5 R5 hr5 k5=>?_⟩
   exact q r H5 D5 R5 (nn _ (n3 r (zM hr5).1)) ((kk.trans k4).trans k5)
end
abbrev sCh:Stmt:=top 38
abbrev sSO:Stmt:=top 39
abbrev sLN:Stmt:=top 40
def wP (Y:Addr->Prop) (H:Hp) (st:Addr) (ys:List (Addr × Addr)) (ss:List SS):Prop:=H st=some (.lst (ys.map fun y=>V.ref y.1))/\(Y st/\∀ y ∈ ys,Y y.1/\Y y.2)/\((∀ y ∈ ys,y.2 ≠ st)/\ys.Pairwise fun a b=>a.1 ≠ b.1/\a.2 ≠ b.2)/\ys.length=ss.length/\∀ (i:Nat) (y:Addr × Addr) (s:SS),ys[i]?=some y->ss[i]?=some s->DAt H y.1 y.2 s
theorem wP.on {Y:Addr->Prop} {H H':Hp} {st:Addr} {ys:List (Addr × Addr)} {ss:List SS} (h:wP Y H st ys ss) (k:zD [] H H'):wP Y H' st ys ss:=by
 obtain ⟨h1,h2,h3,h4,h5⟩:=h
 exact ⟨k _ _ (by simp) h1,h2,h3,h4,fun i y s e1 e2=>(h5 i y s e1 e2).keep k⟩
theorem DAt.keepS {S:List Addr} {H H':Hp} {st rl:Addr} {s:SS} (D:DAt H st rl s) (k:zD S H H') (h1:st ∉ S) (h2:rl ∉ S) (ht:∀ b ∈ S,∀ xs,H b ≠ some (.tup xs)):DAt H' st rl s:=by
 obtain ⟨ps,e,r⟩:=D.rw
 exact ⟨k _ _ h1 D.d,⟨ps,k _ _ h2 e,zK k ht r⟩,D.len⟩
theorem wP.keep {Y:Addr->Prop} {H H':Hp} {st:Addr} {ys:List (Addr × Addr)} {ss:List SS} {S:List Addr} (h:wP Y H st ys ss) (k:zD S H H') (hS:∀ b ∈ S,¬ Y b/\∀ xs,H b ≠ some (.tup xs)):wP Y H' st ys ss:=by
 obtain ⟨h1,h2,h3,h4,h5⟩:=h
 have far:∀ {u:Addr},Y u->u ∉ S:=fun hy hm=>(hS _ hm).1 hy
 exact ⟨k _ _ (far h2.1) h1,h2,h3,h4,fun i y s e1 e2=>(h5 i y s e1 e2).keepS k (far (h2.2 y (zGL e1)).1) (far (h2.2 y (zGL e1)).2) fun b hb=>(hS b hb).2⟩
theorem wP.seat {Y:Addr->Prop} {H H':Hp} {st:Addr} {ys:List (Addr × Addr)} {ss:List SS} {i:Nat} {y:Addr × Addr} {s':SS} (h:wP Y H st ys ss) (ey:ys[i]?=some y) (k:zD [y.1,y.2] H H') (D:DAt H' y.1 y.2 s'):wP Y H' st ys (ss.set i s'):=by
 obtain ⟨h1,h2,h3,h4,h5⟩:=h
 have il:i < ss.length:=by rw [<- h4];exact (zGJ.mp ey).1
 have D0:=h5 i y _ ey (zGI il)
 obtain ⟨ps,hwl,_⟩:=D0.rw
 have n1:st ≠ y.1:=xR h1 D0.d (by intro z;cases z)
 have n2:st ≠ y.2:=Ne.symm (h3.1 y (zGL ey))
 refine ⟨k _ _ (by simp [n1,n2]) h1,h2,h3,by rw [zHI];exact h4,fun j x t ex et=>?_⟩
 by_cases e:j=i
 ·subst e
  rw [ex] at ey
  cases ey
  rw [zHE il] at et
  cases et
  exact D
 ·rw [zHD (Ne.symm e)] at et
  have dj:=h5 j x t ex et
  obtain ⟨m1,m2⟩:=eE h3.2 ex ey e
  obtain ⟨_,wz,_⟩:=id dj.rw
  exact dj.keepS k (by simp [m1,xR dj.d hwl (by intro z;cases z)]) (by simp [m2,xR wz D0.d (by intro z;cases z)]) (wQ D0.d hwl)
section
variable {P:Program} {w:World} {K:PySem.W.Frag} {mg:Str->Option Value} {base:Heap} {C:Addr}
theorem scLN:zN ["_law_told_here","_law_right"] ["_law_told_here","_law_right"] (zG sLN):=⟨rfl,rfl,rfl,by decide +kernel,rfl,by decide +kernel,by decide +kernel⟩
theorem zET:zN ["_law_states","_law_asker","_law_right"] ["_law_states","_law_asker"] (zG sSO):=⟨rfl,rfl,rfl,by decide +kernel,rfl,by decide +kernel,by decide +kernel⟩
theorem kF:zN ["_law_states","_law_found","_law_right","_law_ranks","_law_k","_law_many"] ["_law_states"] (zG sCh):=⟨rfl,rfl,rfl,by decide +kernel,rfl,by decide +kernel,by decide +kernel⟩
def bR:Sp:=fun vs H Q _=>∃ (i:Nat) (a:Addr) (ls:List (List V)),vs=[.ref a,.int (i:Int)]/\Rows H a ls/\(∀ l ∈ ls,l ≠ []/\l.length <= 10)/\ls.length <= 100/\∀ (r:Addr) (H':Hp),Rows H' r (ls.map (oZ i))->H r=none->zD [] H H'->Q (.ref r) H'
theorem okLN (G:y0 K mg "_law_numbered" sLN ["_law_told_here","_law_right"]):Cal P w K mg base CX0 1 "_law_numbered" ["_law_told_here","_law_right"] bR:=by
 refine G.ok scLN (fun vs H Q E h=>by obtain ⟨i,a,ls,rfl,_⟩:=h;rfl) (fun f cdv A outer s0 H vs Q E hr h=>?_)
 obtain ⟨i,a,ls,rfl,R,hl,ll,q⟩:=h
 obtain ⟨ps,hps,hpp⟩:=id R
 refine ⟨_,(zF (zL (vT (N:=["_law_told_here","_law_right"]) (sc:=zG sLN) (ix:=[1]) (by decide +kernel) (xN (pv 0)) (fun _ _ _ _=>xM) (fun _ _ _ _=>(yU (mQ (K:=K)) (yD (zA (zU zY (pv 0) zI (fun _ _=>rfl)) (zA (pv 1) zC))) (wY (n8 (K:=K)) (pv 0) (wX zI) uJ)))))),?_⟩
 refine ⟨_,rfl,a,rfl,⟨_,.of hps⟩,fun acc hacc=>?_⟩
 refine r8 (ds:=ls) id (oZ i) (fun _=>true) (fun l q=>[some (.ref q)]) [some (.int (i:Int))] (by omega) hacc (by rw [List.map_id];exact R) ⟨[none],rfl,rfl⟩ (fun _ _=>rfl) ?_ ?_ ?_ ?_
 ·intro l q vs H R _ hv hq h
  match vs,hv with
  | [v],_=>exact h
 ·intro l q H R _ _ _ h
  exact h H (zD.refl _)
 ·intro l q H R hm hq h
  exact pO (hl l hm) hq h
 ·intro H' hR k
  rw [List.filter_eq_self.mpr (fun _ _=>rfl)] at hR
  exact q acc H' hR hacc k
def zB7:Sp:=fun vs H Q _=>∃ (Y:Addr->Prop) (st:Addr) (ys:List (Addr × Addr)) (ss:List SS) (z:Str),vs=[.ref st,.str z]/\wP Y H st ys ss/\ss.length <= 100 /\
 (∀ H',z ∉ y8 ss->zD [] H H'->Q .non H')/\(∀ (i:Nat) (s:SS) (H':Hp),ss[i]?=some s->z ∈ wN s->zD [] H H'->Q (.int (i:Int)) H')
theorem okSO (G:y0 K mg "_law_seat_of" sSO ["_law_states","_law_asker"]) (b_len:Blt mg "len") (b_range:Blt mg "range"):Cal P w K mg base CX0 1 "_law_seat_of" ["_law_states","_law_asker"] zB7:=by
 refine G.ok zET (fun vs H Q E h=>by obtain ⟨Y,st,ys,ss,z,rfl,_⟩:=h;rfl) (fun f cdv A outer s0 H vs Q E hr h=>?_)
 obtain ⟨Y,st,ys,ss,z,rfl,hS,l100,q0,q1⟩:=h
 have hu:=v9 hr
 refine ⟨_,(zE (uH PassesOwn.never rfl (wR rfl b_range.no (zA (yE yK b_len xB (zA (pv 0) zC)) zC)) (yH (i:=2) zET.nd rfl (Or.inl rfl)) (zF (yC (PW.pt (pL (zS xO (y6 hu (zU zW (pv 0) (pv 2) (fun _ _=>rfl)) zO (fun _ _=>rfl)) (pv 1) (zV _)) (sS (zS (oY hu) (yD (zA zO (zA (pv 1) zC))) (y6 hu (zU zW (pv 0) (pv 2) (fun _ _=>rfl)) zO (fun _ _=>rfl)) (by with_unfolding_all rfl))))) (zF (zL (pv 2))) zT)))
   (zF (zL yY))),?_⟩
 obtain ⟨hst,_,_,ly,_⟩:=id hS
 refine ⟨_,rfl,_,_,rfl,.inl ⟨_,.of hst,rfl⟩,_,rfl,by omega,by rw [zGH,ly];omega,vR (fun i σ H1=>∃ v2:Option V,σ=[some (.ref st),some (.str z),v2]/\(∀ (j:Nat) (s:SS),j < i->ss[j]?=some s->z ∉ wN s)/\zD [] H H1) ⟨_,rfl,fun j s hj=>absurd hj (Nat.not_lt_zero j),zD.refl _⟩ ?_ ?_⟩
 ·rintro i σ H1 hi ⟨v2,rfl,no,k1⟩
  rw [zGH,Int.toNat_natCast] at hi
  have il:i < ss.length:=by omega
  have es:ss[i]?=some ss[i]:=zGI il
  generalize ss[i]=s at es
  have ey:ys[i]?=some ys[i]:=zGI (by omega)
  generalize ys[i]=y at ey
  obtain ⟨hst1,_,_,_,hd⟩:=hS.on k1
  have D:=hd i y s ey es
  have ei:(0:Int) + (i:Int)=(i:Int):=Int.zero_add _
  have ix:atI (ys.map fun y=>V.ref y.1) (0 + (i:Int))=some (.ref y.1):=by rw [ei];exact xX ey
  refine ⟨_,rfl,_,rfl,st,_,_,_,rfl,rfl,hst1,ix,y.1,_,rfl,g_h D.d,_,rfl,kD _ _,_,rfl,?_⟩
  rw [cY]
  by_cases h1:s.hold=some z
  ·rw [zGW h1]
   refine ifT rfl (ifT rfl ⟨_,rfl,?_⟩)
   rw [ei]
   exact q1 i s H1 es (xD.mpr (.inl h1)) k1
  ·rw [zGX h1]
   refine ifF rfl ?_
   refine ⟨_,rfl,by show 2 <= sizeLine;decide,fun t2 ht2=>?_⟩
   have k2:zD [] H1 (upd H1 t2 (.tup [.str "asker",.str z])):=zD.new ht2
   have D3:=D.keep k2
   refine ⟨_,rfl,_,rfl,st,_,_,_,rfl,rfl,k2 _ _ (by simp) hst1,ix,y.1,_,rfl,g_r D3.d,zDP (x:=y9 z) D3.rw zB ⟨_,rfl,?_⟩⟩
   by_cases h2:y9 z ∈ s.row
   ·rw [zGW h2]
    refine ifT rfl ⟨_,rfl,?_⟩
    rw [ei]
    exact q1 i s _ es (xD.mpr (.inr h2)) (k1.trans k2)
   ·rw [zGX h2]
    refine ifF rfl ⟨_,rfl,fun j t hj et=>?_,k1.trans k2⟩
    by_cases e:j=i
    ·subst e
     rw [es] at et
     cases et
     exact fun hm=>(xD.mp hm).elim h1 h2
    ·exact no j t (by omega) et
 ·rintro σ H1 ⟨v2,rfl,no,k1⟩
  refine q0 H1 (fun hm=>?_) k1
  obtain ⟨i,s,es,hz⟩:=wB.mp hm
  have il:i < ss.length:=(zGJ.mp es).1
  exact no i s (by rw [zGH,Int.toNat_natCast];omega) es hz
end
abbrev sDn:Stmt:=top 42
abbrev sPu:Stmt:=top 43
theorem zA1 (x y:V) (l:List V):uC (x :: y :: l) none (some 2)=[x,y]:=by
 unfold uC
 rw [show (2:Int)=((2:Nat):Int) from rfl,HT.sIx_nat]
 simp only [zG2]
 rw [show min 2 (l.length + 1 + 1)=2 by omega]
 rfl
theorem pV (x y z:V) (l:List V):uC (x :: y :: z :: l) (some 3) none=l:=by
 unfold uC
 rw [show (3:Int)=((3:Nat):Int) from rfl,HT.sIx_nat]
 simp only [zG2]
 rw [show min 3 (l.length + 1 + 1 + 1)=3 by omega]
 show l.take _=l
 rw [zG6]
 show l.length <= HT.sIx (l.length + 1 + 1 + 1) (l.length + 1 + 1 + 1) none - 3
 unfold HT.sIx
 simp
theorem nI {K:PySem.W.Frag} {H:Hp} {t:Addr} {Q:VK} {a b:V} {l:List V} (ht:H t=some (.tup (a :: b :: l))) (h:∀ (u:Addr) (H1:Hp),zD [] H H1->H1 u=some (.tup [a,b])->Q (.ref u) H1):f8 K (.ref t) none (some 2) H Q:=by
 cases l with
 | nil=>exact ⟨t,_,rfl,.of ht,.inl ⟨rfl,rfl,h t H (zD.refl _) ht⟩⟩
 | cons c l=>
  refine ⟨t,_,rfl,.of ht,.inr ⟨?_,fun p hp=>?_⟩⟩
  ·rintro ⟨_,e⟩
   rw [show (2:Int)=((2:Nat):Int) from rfl,HT.sIx_nat] at e
   simp only [zG2] at e
   omega
  ·rw [zA1]
   exact h p _ (zD.new hp) zB
theorem nU {a b c:V} {l:List V} {p:Prop}:¬ (HT.sIx (a :: b :: c :: l).length 0 (some 3)=0/\p):=by
 rintro ⟨e,_⟩
 rw [show (3:Int)=((3:Nat):Int) from rfl,HT.sIx_nat] at e
 simp only [zG2] at e
 omega
theorem aJ (s:SS) {n:Nat} (h:n=s.row.length):[V.int ((n:Int) + (if (!decide (z4 s.hold=.non))=true then 1 else 0)),V.int (if (!decide (z4 s.ptr=V.non))=true then 1 else 0)]=vH s:=by
 unfold vH pB
 rw [h]
 cases s.hold <;> cases s.ptr <;> simp [z4]
def nR (Y:Addr->Prop) (H:Hp) (st:Addr) (ys:List (Addr × Addr)) (ss:List SS) (i:Nat) (s:SS) (d:DD) (Q:VK):Prop:=∀ (r:Addr) (y:Addr × Addr) (H':Hp),ys[i]?=some y->wP Y H' st ys (ss.set i (zX (yQ s d)).1)->Rows H' r ((zX (yQ s d)).2.map (oZ i))->H r=none->zD [y.1,y.2] H H'->Q (.ref r) H'
theorem nR.num {Y:Addr->Prop} {H H1 H2:Hp} {st:Addr} {ys:List (Addr × Addr)} {ss:List SS} {i:Nat} {s:SS} {d:DD} {Q:VK} {E:XK} {y:Addr × Addr} {r:Addr} (hh:wP Y H st ys ss) (ey:ys[i]?=some y) (q:nR Y H st ys ss i s d Q) (k01:zD [] H H1) (D:DAt H2 y.1 y.2 (zX (yQ s d)).1) (R:Rows H2 r (zX (yQ s d)).2) (nr:H1 r=none) (k2:zD [y.1,y.2] H1 H2):bR [.ref r,.int (i:Int)] H2 Q E:=by
 obtain ⟨l1,l2⟩:=uN (yQ s d)
 refine ⟨i,r,_,rfl,R,l1,l2,fun r' H3 R3 n3 k3=>q r' y H3 ey (((hh.on k01).seat ey k2 D).on k3) R3 ?_ (((k01.mono (by simp)).trans k2).trans (k3.mono (by simp)))⟩
 exact k01.none (by simp) (k2.none (D.fresh n3) n3)
theorem zBS (nm:V) (nl sl:Addr):(hfl nm nl sl).lookup ("want" : Str)=none:=rfl
theorem zFW (nm:V) (nl sl:Addr):(hfl nm nl sl).lookup ("leave" : Str)=none:=rfl
theorem zFZ (nm:V) (nl sl:Addr):(hfl nm nl sl).lookup ("done" : Str)=none:=rfl
theorem zF3 (nm:V) (nl sl:Addr):(hfl nm nl sl).lookup ("ask" : Str)=none:=rfl
theorem zF0 (nm:V) (nl sl:Addr):(hfl nm nl sl).lookup ("come" : Str)=none:=rfl
section
variable {P:Program} {w:World} {K:PySem.W.Frag} {mg:Str->Option Value} {base:Heap} {C CS:Addr}
theorem b6:zN ["_law_states","_law_deed","_law_right"] ["_law_states","_law_deed"] (zG sDn):=⟨rfl,rfl,rfl,by decide +kernel,rfl,by decide +kernel,by decide +kernel⟩
theorem scPu:zN ["_law_house","_law_deed"] ["_law_house","_law_deed"] (zG sPu):=⟨rfl,rfl,rfl,by decide +kernel,rfl,by decide +kernel,by decide +kernel⟩
def zEO:Sp:=fun vs H Q _=>∃ (Y:Addr->Prop) (st:Addr) (ys:List (Addr × Addr)) (ss:List SS),vs=[.ref st]/\wP Y H st ys ss/\ss ≠ []/\ss.length <= 100/\∀ H',zD [] H H'->Q (.int (rN ss:Int)) H'
theorem okCh (G:y0 K mg "_law_chosen" sCh ["_law_states"]) (b_len:Blt mg "len") (b_range:Blt mg "range") (b_int:Blt mg "int"):Cal P w K mg base CX0 1 "_law_chosen" ["_law_states"] zEO:=by
 refine G.ok kF (fun vs H Q E h=>by obtain ⟨Y,st,ys,ss,rfl,_⟩:=h;rfl) (fun f cdv A outer s0 H vs Q E hr h=>?_)
 obtain ⟨Y,st,ys,ss,rfl,hS,ne,l100,q⟩:=h
 have hu:=v9 hr
 have pos:0 < ss.length:=zG7.mpr ne
 refine ⟨_,(zE (yF (i:=1) kF.nd rfl (Or.inl rfl) zI)
   (zE (uH PassesOwn.never rfl (i5 rfl b_range.no (zA zI (zA (yE yK b_len xB (zA (pv 0) zC)) zC))) (yH (i:=2) kF.nd rfl (Or.inl rfl)) (zE (yF (i:=3) kF.nd rfl (Or.inl rfl) (yZ zC))
   (zE (uH PassesOwn.never rfl (xN (yZ (zA (pv 2) (zA (pv 1) zC)))) (yH (i:=4) kF.nd rfl (Or.inl rfl)) (zE (yF (i:=5) kF.nd rfl (Or.inl rfl) (yU wZ (yE yK b_len xB (zA (y6 hu (zU zW (pv 0) (pv 4) (fun _ _=>rfl)) zO (fun _ _=>rfl)) zC)) (wM pW rfl b_int.no kX (zA (wD uL (y6 hu (zU zW (pv 0) (pv 4) (fun _ _=>rfl)) zO (fun _ _=>rfl)) yY (zV _)) zC))))
   (zF (yO (vL PySem.F.plainAttrs_list PySem.F.slot_list_append PySem.F.type_list_append xF (pv 3) (zA (yD (zA (pv 5) (zA (wM pW rfl b_int.no kX (zA (wD uL (y6 hu (zU zW (pv 0) (pv 4) (fun _ _=>rfl)) zO (fun _ _=>rfl)) yY (zV _)) zC)) zC))) zC))))))
   (zF (yC (zS (zC1 (Nat.lt_of_succ_lt hu)) (zU zW (pv 3) zI (fun _ _=>rfl)) (zU zW (pv 3) zI (fun _ _=>rfl)) (zV _)) (zF (yF (i:=1) kF.nd rfl (Or.inl rfl) (pv 2))) zT)))))
   (zF (zL (pv 1))))),?_⟩
 obtain ⟨hst,_,_,ly,_⟩:=id hS
 have len:((List.map (fun y:Addr × Addr=>V.ref y.1) ys).length:Int)=(ss.length:Int):=by rw [zGH,ly]
 refine ⟨_,rfl,_,_,rfl,.inl ⟨_,.of hst,rfl⟩,_,_,rfl,⟨by omega,by omega,by rw [len];omega,by rw [len];omega⟩,?_⟩
 rw [len,show (((ss.length:Int)) - 1).toNat=ss.length - 1 by omega]
 refine vR (fun k σ H1=>∃ v2 v3 v4 v5:Option V,σ=[some (.ref st),some (.int (argBest (bt2 ss) k:Int)),v2,v3,v4,v5]/\zD [] H H1) ⟨_,_,_,_,rfl,zD.refl _⟩ ?_ ?_
 ·rintro k σ H1 hk ⟨v2,v3,v4,v5,rfl,k1⟩
  have bl:=uS (bt2 ss) k
  generalize eb:argBest (bt2 ss) k=b at bl
  have kl:k + 1 < ss.length:=by omega
  have bl':b < ss.length:=by omega
  rw [show (1:Int) + (k:Int)=((k + 1:Nat):Int) by omega]
  refine ⟨zGR _,fun rk hrk=>?_⟩
  have k2:zD [] H1 (upd H1 rk (.lst [])):=zD.new hrk
  have e2:upd H1 rk (.lst []) rk=some (.lst []):=zB
  generalize upd H1 rk (.lst [])=H2 at k2 e2 ⊢
  refine ⟨_,rfl,_,rfl,by show 2 <= sizeLine;decide,fun l2 hl2=>⟨l2,rfl,⟨_,.of zB⟩,?_⟩⟩
  have k3:zD [] H2 (upd H2 l2 (.lst [.int ((k + 1:Nat):Int),.int (b:Int)])):=zD.new hl2
  have e3:upd H2 l2 (.lst [.int ((k + 1:Nat):Int),.int (b:Int)]) l2=some (.lst ([k + 1,b].map fun n:Nat=>V.int (n:Int))):=zB
  have rl2:rk ≠ l2:=zH e2 hl2
  have e23:=k3 _ _ (by simp) e2
  generalize upd H2 l2 (.lst [.int ((k + 1:Nat):Int),.int (b:Int)])=H3 at k3 e3 e23 ⊢
  have k03:=(k1.trans k2).trans k3
  have rH:H rk=none:=k1.none (by simp) hrk
  refine sF (K:=K) (a:=l2) (xs:=[k + 1,b].map fun n:Nat=>V.int (n:Int)) (fun j σ H4=>∃ (v4 v5:Option V) (ps:List Addr),σ=[some (.ref st),some (.int (b:Int)),some (.int ((k + 1:Nat):Int)),some (.ref rk),v4,v5]/\H4 rk=some (.lst (ps.map V.ref))/\Paired (fun q r=>H4 q=some (.tup r)) ps (([k + 1,b].take j).map fun n=>(ss.map vH).getD n [])/\zD [rk] H3 H4) ⟨_,_,[],rfl,e23,.nil,zD.refl _⟩ ?_ ?_ ?_
  ·rintro j σ H4 _ ⟨v4,v5,ps,rfl,h4,hp,k4⟩
   exact .of (k4 _ _ (by simp [Ne.symm rl2]) e3)
  ·rintro j x σ H4 hx ⟨v4,v5,ps,rfl,h4,hp,k4⟩
   rw [zGN] at hx
   cases en:[k + 1,b][j]? with
   | none=>rw [en] at hx;cases hx
   | some n=>
   rw [en] at hx
   have ex:V.int (n:Int)=x:=zGO hx
   subst ex
   have nl:n < ss.length:=by
    have:=zGL en
    simp at this
    rcases this with rfl | rfl <;> assumption
   have es:ss[n]?=some ss[n]:=zGI nl
   generalize ss[n]=s at es
   have ey:ys[n]?=some ys[n]:=zGI (by omega)
   generalize ys[n]=y at ey
   have k04:zD [] H H4:=k03.under k4 (by intro c hc;rw [zGK.mp hc];exact rH)
   obtain ⟨hst4,_,_,_,hd⟩:=hS.on k04
   have D:=hd n y s ey es
   obtain ⟨rs,hrl,hrp⟩:=id D.rw
   have lrs:=zP hrp
   rw [zGH] at lrs
   have ix:=xX ey
   refine ⟨_,rfl,_,rfl,st,_,_,_,rfl,rfl,hst4,ix,y.1,_,rfl,g_r D.d,_,_,rfl,.inl ⟨_,.of hrl,rfl⟩,_,rfl,_,rfl,st,_,_,_,rfl,rfl,hst4,ix,y.1,_,rfl,g_h D.d,rfl,.inr ⟨_,rfl,_,_,rfl,rfl,?_⟩⟩
   refine ⟨_,rfl,.inl ⟨rfl,_,.of h4⟩,_,rfl,_,rfl,_,rfl,st,_,_,_,rfl,rfl,hst4,ix,y.1,_,rfl,g_a D.d,rfl,.inr ⟨_,rfl,by show 2 <= sizeLine;decide,fun t ht=>?_⟩⟩
   rw [aJ s (by rw [zGH];exact lrs)] at *
   have k5:zD [] H4 (upd H4 t (.tup (vH s))):=zD.new ht
   have e5:upd H4 t (.tup (vH s)) t=some (.tup (vH s)):=zB
   have h5:=k5 _ _ (by simp) h4
   have tr:t ≠ rk:=Ne.symm (zH h4 ht)
   have lp:=zP hp
   rw [zGH,zG0] at lp
   generalize upd H4 t (.tup (vH s))=H5 at k5 e5 h5 ⊢
   refine ⟨rk,_,_,rfl,rfl,h5,by rw [zGH,sizeLine_eq];simp at lp;omega,?_⟩
   have k6:zD [rk] H5 (upd H5 rk (.lst (ps.map V.ref ++ [.ref t]))):=zD.at (by simp)
   have nt:∀ c ∈ [rk],∀ xs,H5 c ≠ some (.tup xs):=fun c hc xs z=>by rw [zGK.mp hc,h5] at z;cases z
   refine ⟨_,_,ps ++ [t],rfl,by rw [zB,zGT];rfl,?_,(k4.trans (k5.mono (by simp))).trans k6⟩
   rw [xQ en,zGT]
   have eg:(ss.map vH).getD n []=vH s:=by rw [zGM,zGN,es];rfl
   refine x8 (zK k6 nt (zK k5 (fun c hc=>by cases hc) hp)) ?_
   show _=some (HO.tup ((ss.map vH).getD n []))
   rw [eg]
   exact k6 _ _ (by simp [tr]) e5
  ·rintro σ H4 ⟨v4,v5,ps,rfl,h4,hp,k4⟩
   have k04:zD [] H H4:=k03.under k4 (by intro c hc;rw [zGK.mp hc];exact rH)
   match ps,hp with
   | [t1,t2],.cons h1 (.cons h2 .nil)=>
    have kin:Kin ((ss.map vH).getD (k + 1) []) ((ss.map vH).getD b []):=by
     rw [zGM,zGM,zGN,zGN,zGI kl,zGI bl']
     exact .int (.int .nil)
    refine ⟨_,rfl,rk,_,0,_,rfl,rfl,h4,at0 _ _,_,rfl,rk,_,1,_,rfl,rfl,h4,at1 _ _ _,t1,t2,_,_,rfl,rfl,h1,h2,kin,_,rfl,?_⟩
    have ea:argBest (bt2 ss) (k + 1)=if bt2 ss (k + 1) b=true then k + 1 else b:=by
     show (if bt2 ss (k + 1) (argBest (bt2 ss) k)=true then k + 1 else argBest (bt2 ss) k)=_
     rw [eb]
    show if bt2 ss (k + 1) b=true then _ else _
    by_cases hb:bt2 ss (k + 1) b=true
    ·rw [if_pos hb]
     rw [if_pos hb] at ea
     exact ⟨_,rfl,_,_,_,_,by rw [ea];rfl,k04⟩
    ·rw [if_neg hb]
     rw [if_neg hb] at ea
     exact ⟨_,_,_,_,by rw [ea],k04⟩
 ·rintro σ H1 ⟨v2,v3,v4,v5,rfl,k1⟩
  refine ⟨_,rfl,?_⟩
  rw [<- zA5 ne]
  exact q H1 k1
def zEM:Sp:=fun vs H Q _=>∃ (Y:Addr->Prop) (st t:Addr) (ys:List (Addr × Addr)) (ss:List SS) (k:Nat) (nb:List Str) (h:HD) (i:Nat) (s:SS) (d:DD),vs=[.ref st,.ref t]/\wP Y H st ys ss/\vY k ss/\k <= 60/\ss.length <= 100/\H t=some (.tup (hdV h))/\AtR nb ss h i s d/\nR Y H st ys ss i s d Q
theorem okDn (G:y0 K mg "_law_done" sDn ["_law_states","_law_deed"]) (CSO:Cal P w K mg base CX0 1 "_law_seat_of" ["_law_states","_law_asker"] zB7) (CCh:Cal P w K mg base CX0 1 "_law_chosen" ["_law_states"] zEO) (CMa:Cal P w K mg base CX0 2 "_law_made_at" ["_law_state_here","_law_deed"] fO) (CLN:Cal P w K mg base CX0 1 "_law_numbered" ["_law_told_here","_law_right"] bR):Cal P w K mg base CX0 3 "_law_done" ["_law_states","_law_deed"] zEM:=by
 refine G.ok b6 (fun vs H Q E h=>by obtain ⟨Y,st,t,ys,ss,k,nb,hx,i,s,dd,rfl,_⟩:=h;rfl) (fun f cdv A outer s0 H vs Q E hr h=>?_)
 obtain ⟨Y,st,t,ys,ss,k,nb,hx,i,s,dd,rfl,hS,I,hk,l100,ht,a,q⟩:=h
 have hr2:yB 2 _:=hr
 have hr1:yB 1 _:=hr.mono (by decide)
 have es:=a.here
 have ok:=a.ok
 have il:i < ss.length:=(zGJ.mp es).1
 obtain ⟨hst,_,_,ly,hd⟩:=id hS
 have ey:ys[i]?=some ys[i]:=zGI (by omega)
 generalize ys[i]=y at ey
 have si:=I.si s (zGL es)
 have lr:s.row.length < 900:=by have:=I.rl s (zGL es);omega
 have ne:ss ≠ []:=fun e=>by rw [e] at il;simp at il
 have hD0:=(hd i y s ey es).d
 obtain ⟨_,hW0,_⟩:=id (hd i y s ey es).rw
 refine ⟨_,(zE (yC (zS pN (zU zY (pv 1) zI (fun _ _=>rfl)) (yD (zA zO (zA zO zC))) (by with_unfolding_all rfl)) (zF (zL (zQ CLN hr1 (zA (zQ CMa hr2 (zA (zU zW (pv 0) (zU zY (pv 1) zI (fun _ _=>rfl)) (fun _ _=>rfl)) (zA (yU j9 (yD (zA (zU zY (pv 1) zI (fun _ _=>rfl)) (zA (zU zY (pv 1) zI (fun _ _=>rfl)) zC))) (wY rR (pv 1) (wX zI) uJ)) zC))) (zA (zU zY (pv 1) zI (fun _ _=>rfl)) zC))))) zT)
   (zE (yF (i:=2) b6.nd rfl (Or.inl rfl) (zQ CSO hr1 (zA (pv 0) (zA (zU zY (pv 1) zI (fun _ _=>rfl)) zC))))
   (zE (yC (zS xO (zU zY (pv 1) zI (fun _ _=>rfl)) zO (zV _)) (zE (yF (i:=2) b6.nd rfl (Or.inl rfl) (zU zY (pv 1) zI (fun _ _=>rfl)))
   (zF (yC (zS vK (pv 2) yY (zV _)) (zF (yF (i:=2) b6.nd rfl (Or.inl rfl) (zQ CCh hr1 (zA (pv 0) zC)))) zT))) zT)
   (zF (zL (zQ CLN hr1 (zA (zQ CMa hr2 (zA (zU zW (pv 0) (pv 2) (fun _ _=>rfl)) (zA (wY rR (pv 1) uJ (wX zI)) zC))) (zA (pv 2) zC)))))))),?_⟩
 cases a with
 | @any z _ _ _ eb gz nz=>
  refine ⟨_,rfl,t,_,0,_,rfl,rfl,ht,at0 _ _ ,by show 2 <= sizeLine;decide,fun tp htp=>⟨tp,_,rfl,.inr (.of zB),rfl,rfl,_,rfl,ifF (by decide +kernel) ?_⟩⟩
  have k1:zD [] H (upd H tp (.tup [.str "ask",.str "come"])):=zD.new htp
  generalize upd H tp (.tup [.str "ask",.str "come"])=H1 at k1 ⊢
  have ht1:=k1 _ _ (by simp) ht
  refine ⟨_,rfl,_,rfl,t,_,1,_,rfl,rfl,ht1,at1 _ _ _,Y,st,ys,ss,z,rfl,hS.on k1,l100,fun H2 _ k2=>?_,fun i' s' H2 es' hz _=>absurd (wB.mpr ⟨i',s',es',hz⟩) nz⟩
  have k02:=k1.trans k2
  have ht2:=k02 _ _ (by simp) ht
  refine ⟨_,rfl,t,_,0,_,rfl,rfl,ht2,at0 _ _,rfl,_,rfl,ifT (by decide +kernel) ⟨_,rfl,t,_,2,_,rfl,rfl,ht2,at2 _ _ _ _,?_⟩⟩
  refine ⟨_,rfl,rfl,_,rfl,ifT rfl ⟨_,rfl,Y,st,ys,ss,rfl,hS.on k02,ne,l100,fun H3 k3=>?_⟩⟩
  have k03:=k02.trans k3
  rw [<- eb]
  refine ⟨_,rfl,_,rfl,st,_,_,_,rfl,rfl,k03 _ _ (by simp) hst,xX ey,_,rfl,_,rfl,nI (k03 _ _ (by simp) ht) fun u H4 k4 hu4=>?_⟩
  have k04:=k03.trans k4
  exact ⟨y.1,y.2,u,s,(.want z),rfl,(hd i y s ey es).keep k04,hu4,si,ok,lr,fun r H5 D5 R5 n5 k5=>⟨_,rfl,nR.num (E:=E) hS ey q k04 D5 R5 n5 k5⟩⟩
 | @want z _ _ _ gz nz=>
  refine ⟨_,rfl,t,_,0,_,rfl,rfl,ht,at0 _ _ ,by show 2 <= sizeLine;decide,fun tp htp=>⟨tp,_,rfl,.inr (.of zB),rfl,rfl,_,rfl,ifF (by decide +kernel) ?_⟩⟩
  have k1:zD [] H (upd H tp (.tup [.str "ask",.str "come"])):=zD.new htp
  generalize upd H tp (.tup [.str "ask",.str "come"])=H1 at k1 ⊢
  have ht1:=k1 _ _ (by simp) ht
  refine ⟨_,rfl,_,rfl,t,_,1,_,rfl,rfl,ht1,at1 _ _ _,Y,st,ys,ss,z,rfl,hS.on k1,l100,fun H2 _ k2=>?_,fun i' s' H2 es' hz _=>absurd (wB.mpr ⟨i',s',es',hz⟩) nz⟩
  have k02:=k1.trans k2
  have ht2:=k02 _ _ (by simp) ht
  refine ⟨_,rfl,t,_,0,_,rfl,rfl,ht2,at0 _ _,rfl,_,rfl,ifT (by decide +kernel) ⟨_,rfl,t,_,2,_,rfl,rfl,ht2,at2 _ _ _ _,?_⟩⟩
  refine ⟨_,rfl,rfl,_,rfl,ifF rfl ?_⟩
  refine ⟨_,rfl,_,rfl,st,_,_,_,rfl,rfl,k02 _ _ (by simp) hst,xX ey,_,rfl,_,rfl,nI ht2 fun u H4 k4 hu4=>?_⟩
  have k04:=k02.trans k4
  exact ⟨y.1,y.2,u,s,(.want z),rfl,(hd i y s ey es).keep k04,hu4,si,ok,lr,fun r H5 D5 R5 n5 k5=>⟨_,rfl,nR.num (E:=E) hS ey q k04 D5 R5 n5 k5⟩⟩
 | @leave z _ _ _ hm=>
  refine ⟨_,rfl,t,_,0,_,rfl,rfl,ht,at0 _ _ ,by show 2 <= sizeLine;decide,fun tp htp=>⟨tp,_,rfl,.inr (.of zB),rfl,rfl,_,rfl,ifF (by decide +kernel) ?_⟩⟩
  have k1:zD [] H (upd H tp (.tup [.str "ask",.str "come"])):=zD.new htp
  generalize upd H tp (.tup [.str "ask",.str "come"])=H1 at k1 ⊢
  have ht1:=k1 _ _ (by simp) ht
  have zn:z ∈ wN s:=xD.mpr (.inr hm)
  refine ⟨_,rfl,_,rfl,t,_,1,_,rfl,rfl,ht1,at1 _ _ _,Y,st,ys,ss,z,rfl,hS.on k1,l100,fun H2 no _=>absurd (wB.mpr ⟨i,s,es,zn⟩) no,fun i' s' H2 es' hz k2=>?_⟩
  obtain rfl:=u3 I.nd es es' zn hz
  have k02:=k1.trans k2
  have ht2:=k02 _ _ (by simp) ht
  refine ⟨_,rfl,t,_,0,_,rfl,rfl,ht2,at0 _ _,rfl,_,rfl,ifF (by decide +kernel) ?_⟩
  refine ⟨_,rfl,_,rfl,st,_,_,_,rfl,rfl,k02 _ _ (by simp) hst,xX ey,_,rfl,_,rfl,nI ht2 fun u H4 k4 hu4=>?_⟩
  have k04:=k02.trans k4
  exact ⟨y.1,y.2,u,s,(.leave z),rfl,(hd i y s ey es).keep k04,hu4,si,ok,lr,fun r H5 D5 R5 n5 k5=>⟨_,rfl,nR.num (E:=E) hS ey q k04 D5 R5 n5 k5⟩⟩
 | @done z _ _ _ hm=>
  refine ⟨_,rfl,t,_,0,_,rfl,rfl,ht,at0 _ _ ,by show 2 <= sizeLine;decide,fun tp htp=>⟨tp,_,rfl,.inr (.of zB),rfl,rfl,_,rfl,ifF (by decide +kernel) ?_⟩⟩
  have k1:zD [] H (upd H tp (.tup [.str "ask",.str "come"])):=zD.new htp
  generalize upd H tp (.tup [.str "ask",.str "come"])=H1 at k1 ⊢
  have ht1:=k1 _ _ (by simp) ht
  have zn:z ∈ wN s:=xD.mpr (.inl hm)
  refine ⟨_,rfl,_,rfl,t,_,1,_,rfl,rfl,ht1,at1 _ _ _,Y,st,ys,ss,z,rfl,hS.on k1,l100,fun H2 no _=>absurd (wB.mpr ⟨i,s,es,zn⟩) no,fun i' s' H2 es' hz k2=>?_⟩
  obtain rfl:=u3 I.nd es es' zn hz
  have k02:=k1.trans k2
  have ht2:=k02 _ _ (by simp) ht
  refine ⟨_,rfl,t,_,0,_,rfl,rfl,ht2,at0 _ _,rfl,_,rfl,ifF (by decide +kernel) ?_⟩
  refine ⟨_,rfl,_,rfl,st,_,_,_,rfl,rfl,k02 _ _ (by simp) hst,xX ey,_,rfl,_,rfl,nI ht2 fun u H4 k4 hu4=>?_⟩
  have k04:=k02.trans k4
  exact ⟨y.1,y.2,u,s,(.done z),rfl,(hd i y s ey es).keep k04,hu4,si,ok,lr,fun r H5 D5 R5 n5 k5=>⟨_,rfl,nR.num (E:=E) hS ey q k04 D5 R5 n5 k5⟩⟩
 | @ask z _ _ _ zn gz n1 n2=>
  have ht:H t=some (.tup [.str "ask",.str z,.int (i:Int)]):=ht
  refine ⟨_,rfl,t,_,0,_,rfl,rfl,ht,at0 _ _ ,by show 2 <= sizeLine;decide,fun tp htp=>⟨tp,_,rfl,.inr (.of zB),rfl,rfl,_,rfl,ifT (by decide +kernel) ?_⟩⟩
  have k1:zD [] H (upd H tp (.tup [.str "ask",.str "come"])):=zD.new htp
  generalize upd H tp (.tup [.str "ask",.str "come"])=H1 at k1 ⊢
  have ht1:=k1 _ _ (by simp) ht
  refine ⟨_,rfl,_,rfl,t,_,2,_,rfl,rfl,ht1,at2 _ _ _ _,st,_,_,_,rfl,rfl,k1 _ _ (by simp) hst,xX ey,_,rfl,t,_,0,_,rfl,rfl,ht1,at0 _ _,_,rfl,t,_,1,_,rfl,rfl,ht1,at1 _ _ _,by show 2 <= sizeLine;decide,fun u hu=>?_⟩
  have k2:zD [] H1 (upd H1 u (.tup [.str "ask",.str z])):=zD.new hu
  have e2:upd H1 u (.tup [.str "ask",.str z]) u=some (.tup [.str "ask",.str z]):=zB
  generalize upd H1 u (.tup [.str "ask",.str z])=H2 at k2 e2 ⊢
  refine ⟨_,rfl,_,rfl,t,_,rfl,.of (k2 _ _ (by simp) ht1),.inr ⟨nU,fun v hv=>?_⟩⟩
  rw [pV]
  have k3:zD [] H2 (upd H2 v (.tup [])):=zD.new hv
  refine ⟨u,v,_,_,rfl,rfl,.of (k3 _ _ (by simp) e2),.of zB,by simp,by show 2 + 0 <= sizeLine;decide,fun _=>?_,fun c=>absurd rfl c⟩
  have k03:=(k1.trans k2).trans k3
  exact ⟨y.1,y.2,u,s,.ask z,rfl,(hd i y s ey es).keep k03,k3 _ _ (by simp) e2,si,ok,lr,fun r H5 D5 R5 n5 k5=>⟨_,rfl,t,_,2,_,rfl,rfl,k5 _ _ (by simp [xR ht hD0 (by intro z;cases z),xR ht hW0 (by intro z;cases z)]) (k03 _ _ (by simp) ht),at2 _ _ _ _,nR.num (E:=E) hS ey q k03 D5 R5 n5 k5⟩⟩
 | @come z _ _ b zn hp=>
  have ht:H t=some (.tup [.str "come",.str z,.int (i:Int),.bl b]):=ht
  refine ⟨_,rfl,t,_,0,_,rfl,rfl,ht,at0 _ _ ,by show 2 <= sizeLine;decide,fun tp htp=>⟨tp,_,rfl,.inr (.of zB),rfl,rfl,_,rfl,ifT (by decide +kernel) ?_⟩⟩
  have k1:zD [] H (upd H tp (.tup [.str "ask",.str "come"])):=zD.new htp
  generalize upd H tp (.tup [.str "ask",.str "come"])=H1 at k1 ⊢
  have ht1:=k1 _ _ (by simp) ht
  refine ⟨_,rfl,_,rfl,t,_,2,_,rfl,rfl,ht1,at2 _ _ _ _,st,_,_,_,rfl,rfl,k1 _ _ (by simp) hst,xX ey,_,rfl,t,_,0,_,rfl,rfl,ht1,at0 _ _,_,rfl,t,_,1,_,rfl,rfl,ht1,at1 _ _ _,by show 2 <= sizeLine;decide,fun u hu=>?_⟩
  have k2:zD [] H1 (upd H1 u (.tup [.str "come",.str z])):=zD.new hu
  have e2:upd H1 u (.tup [.str "come",.str z]) u=some (.tup [.str "come",.str z]):=zB
  generalize upd H1 u (.tup [.str "come",.str z])=H2 at k2 e2 ⊢
  refine ⟨_,rfl,_,rfl,t,_,rfl,.of (k2 _ _ (by simp) ht1),.inr ⟨nU,fun v hv=>?_⟩⟩
  rw [pV]
  have k3:zD [] H2 (upd H2 v (.tup [.bl b])):=zD.new hv
  refine ⟨u,v,_,_,rfl,rfl,.of (k3 _ _ (by simp) e2),.of zB,by simp,by show 2 + 1 <= sizeLine;decide,fun c=>(by cases c),fun _ w hw=>?_⟩
  have k03:zD [] H (upd (upd H2 v (.tup [.bl b])) w (.tup [.str "come",.str z,.bl b])):=((k1.trans k2).trans k3).trans (zD.new hw)
  exact ⟨y.1,y.2,w,s,.come z b,rfl,(hd i y s ey es).keep k03,zB,si,ok,lr,fun r H5 D5 R5 n5 k5=>⟨_,rfl,t,_,2,_,rfl,rfl,k5 _ _ (by simp [xR ht hD0 (by intro z;cases z),xR ht hW0 (by intro z;cases z)]) (k03 _ _ (by simp) ht),at2 _ _ _ _,nR.num (E:=E) hS ey q k03 D5 R5 n5 k5⟩⟩
def zED (C CS:Addr):Sp:=fun vs H Q _=>∃ (B:Addr->Prop) (p t:Addr) (nm:Str) (nb:List Str) (xs:List (Addr × Addr)) (ss:List SS) (k:Nat) (h:HD) (i:Nat) (s:SS) (d:DD),vs=[.ref p,.ref t]/\yA B C CS H p nm nb xs ss/\vY k ss/\k <= 60/\ss.length <= 100/\H t=some (.tup (hdV h))/\AtR nb ss h i s d/\sO B C CS H p nm nb xs ss i s d Q
theorem okPu (T:x3 K C) (G:y0 K mg "_law_put" sPu ["_law_house","_law_deed"]) (MHW:yJ P w K mg base CX0 4 C "want" ["self","asker","right"] (zEG C CS)) (MHL:yJ P w K mg base CX0 5 C "leave" ["self","asker"] (zEH C CS)) (MHD:yJ P w K mg base CX0 5 C "done" ["self","asker"] (zEJ C CS)) (MHK:yJ P w K mg base CX0 4 C "ask" ["self","house","right"] (zEI C CS)) (MHC:yJ P w K mg base CX0 4 C "come" ["self","house","right","back"] (zEK C CS)):Cal P w K mg base CX0 6 "_law_put" ["_law_house","_law_deed"] (zED C CS):=by
 refine G.ok scPu (fun vs H Q E h=>by obtain ⟨B,p,t,nm,nb,xs,ss,k,hx,i,s,dd,rfl,_⟩:=h;rfl) (fun f cdv A outer s0 H vs Q E hr h=>?_)
 obtain ⟨B,p,t,nm,nb,xs,ss,k,hx,i,s,dd,rfl,hh,I,hk,l100,ht,a,q⟩:=h
 have hr5:yB 5 _:=hr
 have hr4:yB 4 _:=hr.mono (by decide)
 obtain ⟨dx,nl,sl,_,hp,_⟩:=id hh
 refine ⟨_,(zE (yC (zS xO (zU zY (pv 1) zI (fun _ _=>rfl)) zO (zV _)) (zF (zL (xI MHW T.cl hr4 (pv 0) (zA (zU zY (pv 1) zI (fun _ _=>rfl)) (zA (zU zY (pv 1) zI (fun _ _=>rfl)) zC))))) zT)
   (zE (yC (zS xO (zU zY (pv 1) zI (fun _ _=>rfl)) zO (zV _)) (zF (zL (xI MHL T.cl hr5 (pv 0) (zA (zU zY (pv 1) zI (fun _ _=>rfl)) zC)))) zT)
   (zE (yC (zS xO (zU zY (pv 1) zI (fun _ _=>rfl)) zO (zV _)) (zF (zL (xI MHD T.cl hr5 (pv 0) (zA (zU zY (pv 1) zI (fun _ _=>rfl)) zC)))) zT)
   (zE (yC (zS xO (zU zY (pv 1) zI (fun _ _=>rfl)) zO (zV _)) (zF (zL (xI MHK T.cl hr4 (pv 0) (zA (zU zY (pv 1) zI (fun _ _=>rfl)) (zA (zU zY (pv 1) zI (fun _ _=>rfl)) zC))))) zT)
   (zF (zL (xI MHC T.cl hr4 (pv 0) (zA (zU zY (pv 1) zI (fun _ _=>rfl)) (zA (zU zY (pv 1) zI (fun _ _=>rfl)) (zA (zU zY (pv 1) zI (fun _ _=>rfl)) zC)))))))))),?_⟩
 have a':=a
 cases a with
 | @any z _ _ _ eb gz nz=>
  refine ⟨_,rfl,t,_,0,_,rfl,rfl,ht,at0 _ _,rfl,_,rfl,ifT (by decide +kernel) ?_⟩
  exact ⟨_,rfl,p,dx,_,rfl,hp,zBS _ _ _,_,rfl,t,_,1,_,rfl,rfl,ht,at1 _ _ _,_,rfl,t,_,2,_,rfl,rfl,ht,at2 _ _ _ _,B,p,nm,nb,xs,ss,k,z,none,i,s,rfl,hh,I,hk,l100,a',q⟩
 | @want z _ _ _ gz nz=>
  refine ⟨_,rfl,t,_,0,_,rfl,rfl,ht,at0 _ _,rfl,_,rfl,ifT (by decide +kernel) ?_⟩
  exact ⟨_,rfl,p,dx,_,rfl,hp,zBS _ _ _,_,rfl,t,_,1,_,rfl,rfl,ht,at1 _ _ _,_,rfl,t,_,2,_,rfl,rfl,ht,at2 _ _ _ _,B,p,nm,nb,xs,ss,k,z,some i,i,s,rfl,hh,I,hk,l100,a',q⟩
 | @leave z _ _ _ hm=>
  refine ⟨_,rfl,t,_,0,_,rfl,rfl,ht,at0 _ _,rfl,_,rfl,ifF (by decide +kernel) ?_⟩
  refine ⟨_,rfl,t,_,0,_,rfl,rfl,ht,at0 _ _,rfl,_,rfl,ifT (by decide +kernel) ?_⟩
  exact ⟨_,rfl,p,dx,_,rfl,hp,zFW _ _ _,_,rfl,t,_,1,_,rfl,rfl,ht,at1 _ _ _,B,p,nm,nb,xs,ss,k,z,i,s,rfl,hh,I,hk,l100,a',q⟩
 | @done z _ _ _ hm=>
  refine ⟨_,rfl,t,_,0,_,rfl,rfl,ht,at0 _ _,rfl,_,rfl,ifF (by decide +kernel) ?_⟩
  refine ⟨_,rfl,t,_,0,_,rfl,rfl,ht,at0 _ _,rfl,_,rfl,ifF (by decide +kernel) ?_⟩
  refine ⟨_,rfl,t,_,0,_,rfl,rfl,ht,at0 _ _,rfl,_,rfl,ifT (by decide +kernel) ?_⟩
  exact ⟨_,rfl,p,dx,_,rfl,hp,zFZ _ _ _,_,rfl,t,_,1,_,rfl,rfl,ht,at1 _ _ _,B,p,nm,nb,xs,ss,k,z,i,s,rfl,hh,I,hk,l100,a',q⟩
 | @ask z _ _ _ zn gz n1 n2=>
  refine ⟨_,rfl,t,_,0,_,rfl,rfl,ht,at0 _ _,rfl,_,rfl,ifF (by decide +kernel) ?_⟩
  refine ⟨_,rfl,t,_,0,_,rfl,rfl,ht,at0 _ _,rfl,_,rfl,ifF (by decide +kernel) ?_⟩
  refine ⟨_,rfl,t,_,0,_,rfl,rfl,ht,at0 _ _,rfl,_,rfl,ifF (by decide +kernel) ?_⟩
  refine ⟨_,rfl,t,_,0,_,rfl,rfl,ht,at0 _ _,rfl,_,rfl,ifT (by decide +kernel) ?_⟩
  exact ⟨_,rfl,p,dx,_,rfl,hp,zF3 _ _ _,_,rfl,t,_,1,_,rfl,rfl,ht,at1 _ _ _,_,rfl,t,_,2,_,rfl,rfl,ht,at2 _ _ _ _,B,p,nm,nb,xs,ss,k,z,i,s,rfl,hh,I,hk,l100,a',q⟩
 | @come z _ _ b zn hq=>
  refine ⟨_,rfl,t,_,0,_,rfl,rfl,ht,at0 _ _,rfl,_,rfl,ifF (by decide +kernel) ?_⟩
  refine ⟨_,rfl,t,_,0,_,rfl,rfl,ht,at0 _ _,rfl,_,rfl,ifF (by decide +kernel) ?_⟩
  refine ⟨_,rfl,t,_,0,_,rfl,rfl,ht,at0 _ _,rfl,_,rfl,ifF (by decide +kernel) ?_⟩
  refine ⟨_,rfl,t,_,0,_,rfl,rfl,ht,at0 _ _,rfl,_,rfl,ifF (by decide +kernel) ?_⟩
  exact ⟨_,rfl,p,dx,_,rfl,hp,zF0 _ _ _,_,rfl,t,_,1,_,rfl,rfl,ht,at1 _ _ _,_,rfl,t,_,2,_,rfl,rfl,ht,at2 _ _ _ _,_,rfl,t,_,3,_,rfl,rfl,ht,at3 _ _ _ _ _,B,p,nm,nb,xs,ss,k,z,b,i,s,rfl,hh,I,hk,l100,a',q⟩
end
abbrev sGd:Stmt:=top 41
def tK (nb:List Str) (ss:List SS) (ds:List HD):Prop:=∀ d ∈ ds,∃ (i:Nat) (s:SS) (e:DD),AtR nb ss d i s e
theorem tK.app {nb:List Str} {ss:List SS} {ds es:List HD} (h:tK nb ss ds) (h':tK nb ss es):tK nb ss (ds ++ es):=fun d hd=>(zGY.mp hd).elim (h d) (h' d)
theorem tK.one {nb:List Str} {ss:List SS} {d:HD} {i:Nat} {s:SS} {e:DD} (h:AtR nb ss d i s e):tK nb ss [d]:=fun x hx=>by rw [zGK.mp hx];exact ⟨i,s,e,h⟩
theorem f7 {H:Hp} {d t:Addr} {ps:List Addr} {rows:List (List V)} {x:List V} (e:H d=some (.lst (ps.map V.ref ++ [.ref t]))) (r:Paired (fun q r=>H q=some (.tup r)) ps rows) (h:H t=some (.tup x)):Rows H d (rows ++ [x]):=⟨ps ++ [t],by rw [e,zGT];rfl,x8 r h⟩
theorem pA {H H1:Hp} {dl t:Addr} {ds:List HD} (d:HD) {ps:List Addr} (k1:zD [] H H1) (hd0:H dl=none) (e:H1 dl=some (.lst (ps.map V.ref))) (r:Paired (fun q r=>H1 q=some (.tup r)) ps (ds.map hdV)) (ht:H1 t=none) :
  Rows (upd (upd H1 t (.tup (hdV d))) dl (.lst (ps.map V.ref ++ [.ref t]))) dl ((ds ++ [d]).map hdV)/\zD [] H (upd (upd H1 t (.tup (hdV d))) dl (.lst (ps.map V.ref ++ [.ref t]))):=by
 have dt:dl ≠ t:=zH e ht
 have k2:zD [dl] H1 (upd (upd H1 t (.tup (hdV d))) dl (.lst (ps.map V.ref ++ [.ref t]))):=(zD.new ht).trans (zD.at (by simp))
 refine ⟨?_,k1.under k2 (by intro b hb;rw [zGK.mp hb];exact hd0)⟩
 rw [zGT]
 refine f7 zB (zK k2 (fun b hb xs z=>?_) r) (by rw [zJ (Ne.symm dt),zB])
 rw [zGK.mp hb,e] at z;cases z
noncomputable def sD (n:Nat):List (Option Nat):=none :: (List.range n).map some
theorem zCY (n:Nat):[V.non] ++ rP n=(sD n).map rV:=by
 unfold sD rP
 rw [List.map_cons,zG1];rfl
theorem sC (n:Nat):(sD n).length=n + 1:=by unfold sD;simp
section
variable {P:Program} {w:World} {K:PySem.W.Frag} {mg:Str->Option Value} {base:Heap} {C:Addr}
theorem mB:zN ["_law_states","_law_askers","_law_neighbours","_law_deeds","_law_asker","_law_right","_law_name"] ["_law_states","_law_askers","_law_neighbours"] (zG sGd):=⟨rfl,rfl,rfl,by decide +kernel,rfl,by decide +kernel,by decide +kernel⟩
def zEL:Sp:=fun vs H Q _=>∃ (Y:Addr->Prop) (st al nl:Addr) (ys:List (Addr × Addr)) (ss:List SS) (k:Nat) (as nb:List Str),vs=[.ref st,.ref al,.ref nl]/\wP Y H st ys ss/\vY k ss/\ss ≠ []/\ss.length <= 10/\H al=some (.lst (as.map V.str))/\H nl=some (.lst (nb.map V.str))/\(∀ z ∈ as,xE z)/\(∀ z ∈ nb,xE z)/\as.length <= 20/\nb.length <= 20 /\
 ∀ (r:Addr) (ds:List HD) (H':Hp),Rows H' r (ds.map hdV)->tK nb ss ds->ds.length <= 1000->(as ≠ []->ds ≠ [])->H r=none->zD [] H H'->Q (.ref r) H'
theorem okGd (G:y0 K mg "_law_good_deeds" sGd ["_law_states","_law_askers","_law_neighbours"]) (CSO:Cal P w K mg base CX0 1 "_law_seat_of" ["_law_states","_law_asker"] zB7) (b_len:Blt mg "len") (b_range:Blt mg "range") (b_list:Blt mg "list"):Cal P w K mg base CX0 2 "_law_good_deeds" ["_law_states","_law_askers","_law_neighbours"] zEL:=by
 refine G.ok mB (fun vs H Q E h=>by obtain ⟨Y,st,al,nl,ys,ss,k,as,nb,rfl,_⟩:=h;rfl) (fun f cdv A outer s0 H vs Q E hr h=>?_)
 obtain ⟨Y,st,al,nl,ys,ss,k,as,nb,rfl,hS,I,ne,l10,hal,hnl,gas,gnb,las,lnb,q⟩:=h
 have hr1:yB 1 _:=hr
 have hu:=v9 hr
 refine ⟨_,(zE (yF (i:=3) mB.nd rfl (Or.inl rfl) (yZ zC))
   (zE (uH PassesOwn.never rfl (xN (pv 1)) (yH (i:=4) mB.nd rfl (Or.inr rfl)) (zE (yF (i:=5) mB.nd rfl (Or.inl rfl) (zQ CSO hr1 (zA (pv 0) (zA (pv 4) zC))))
   (zF (yC (zS vK (pv 5) yY (zV _)) (zF (yF (i:=3) mB.nd rfl (Or.inl rfl) (yU tS (pv 3) (vT (N:=["_law_states","_law_askers","_law_neighbours","_law_deeds","_law_asker","_law_right","_law_name"]) (sc:=zG sGd) (ix:=[4]) (by decide +kernel) (xN (yU tS (yZ (zA yY zC)) (wM (kW rfl) rfl b_list.no vG (zA (wM lI rfl b_range.no bC (zA (yE yK b_len xB (zA (pv 0) zC)) zC)) zC)))) (fun _ _ _ _=>xM) (fun _ _ _ _=>(yD (zA zO (zA (pv 1) (zA (pv 0) zC))))))))) (zF (yC (zS xO (y6 hu (zU zW (pv 0) (pv 5) (fun _ _=>rfl)) zO (fun _ _=>rfl)) (pv 4) (zV _)) (zF (yO (vL PySem.F.plainAttrs_list PySem.F.slot_list_append PySem.F.type_list_append xF (pv 3) (zA (yD (zA zO (zA (pv 4) zC))) zC)))) (zF (yO (vL PySem.F.plainAttrs_list PySem.F.slot_list_append PySem.F.type_list_append xF (pv 3) (zA (yD (zA zO (zA (pv 4) zC))) zC))))))))))
   (zE (uH PassesOwn.never rfl (wR rfl b_range.no (zA (yE yK b_len xB (zA (pv 0) zC)) zC)) (yH (i:=5) mB.nd rfl (Or.inl rfl)) (zF (uH PassesOwn.never rfl (xN (pv 2)) (yH (i:=6) mB.nd rfl (Or.inl rfl)) (zF (yC (zS xO (y6 hu (zU zW (pv 0) (pv 5) (fun _ _=>rfl)) zO (fun _ _=>rfl)) (pv 6) (zV _)) (zF (yF (i:=3) mB.nd rfl (Or.inl rfl) (yU tS (pv 3) (yZ (zA (yD (zA zO (zA (pv 6) (zA (pv 5) (zA wT zC))))) (zA (yD (zA zO (zA (pv 6) (zA (pv 5) (zA wT zC))))) zC)))))) (zF (yC (zS (pM hu) (yD (zA zO (zA (pv 6) zC))) (y6 hu (zU zW (pv 0) (pv 5) (fun _ _=>rfl)) zO (fun _ _=>rfl)) (by with_unfolding_all rfl)) (zF (yO (vL PySem.F.plainAttrs_list PySem.F.slot_list_append PySem.F.type_list_append xF (pv 3) (zA (yD (zA zO (zA (pv 6) (zA (pv 5) zC)))) zC)))) zT)))))))
   (zF (zL (pv 3)))))),?_⟩
 obtain ⟨hst,_,_,ly,_⟩:=id hS
 have yl:(ys.map fun y=>V.ref y.1).length=ss.length:=by rw [zGH,ly]
 refine ⟨zGR _,fun d0 hd0=>?_⟩
 have k0:zD [] H (upd H d0 (.lst [])):=zD.new hd0
 have e0:upd H d0 (.lst []) d0=some (.lst []):=zB
 generalize upd H d0 (.lst [])=H0 at k0 e0 ⊢
 refine ⟨_,rfl,al,rfl,⟨_,.of (k0 _ _ (by simp) hal)⟩,sF (K:=K) (a:=al) (xs:=as.map V.str) (fun j σ H1=>∃ (dl:Addr) (ds:List HD) (v4 v5 v6:Option V),σ=[some (.ref st),some (.ref al),some (.ref nl),some (.ref dl),v4,v5,v6]/\Rows H1 dl (ds.map hdV)/\tK nb ss ds/\ds.length <= 11 * j/\(0 < j->ds ≠ [])/\H dl=none/\zD [] H H1) ⟨d0,[],_,_,_,rfl,⟨[],e0,.nil⟩,(fun d hd=>by cases hd),zGR _,(fun h=>absurd h (Nat.lt_irrefl 0)),hd0,k0⟩ ?_ ?_ ?_⟩
 ·rintro j σ H1 _ ⟨dl,ds,v4,v5,v6,rfl,_,_,_,_,_,k1⟩
  exact .of (k1 _ _ (by simp) hal)
 ·rintro j x σ H1 hx ⟨dl,ds,v4,v5,v6,rfl,R1,gd,ld,_,hdl,k1⟩
  rw [zGN] at hx
  cases ez:as[j]? with
  | none=>rw [ez] at hx;cases hx
  | some z=>
  rw [ez] at hx
  have ex:V.str z=x:=zGO hx
  subst ex
  have jl:j < as.length:=(zGJ.mp ez).1
  have gz:=gas z (zGL ez)
  refine ⟨_,rfl,_,rfl,Y,st,ys,ss,z,rfl,hS.on k1,by omega,fun H2 nz k2=>?_,fun i s H2 es hz k2=>?_⟩
  ·have k02:=k1.trans k2
   have hst2:=k02 _ _ (by simp) hst
   refine ⟨_,rfl,rfl,_,rfl,ifT rfl ?_⟩
   refine ⟨_,rfl,by show 1 <= sizeLine;decide,fun l1 hl1=>?_⟩
   have k3:zD [] H2 (upd H2 l1 (.lst [.non])):=zD.new hl1
   have e3:upd H2 l1 (.lst [.non]) l1=some (.lst [.non]):=zB
   generalize upd H2 l1 (.lst [.non])=H3 at k3 e3 ⊢
   refine ⟨_,rfl,_,_,rfl,.inl ⟨_,.of (k3 _ _ (by simp) hst2),rfl⟩,_,rfl,fun rp hrp=>?_⟩
   rw [yl]
   have k4:zD [] H3 (upd H3 rp (oU rp ss.length)):=zD.new hrp
   refine ⟨rp,_,rfl,zB,by omega,fun l2 hl2=>?_⟩
   have k5:zD [] (upd H3 rp (oU rp ss.length)) (upd (upd H3 rp (oU rp ss.length)) l2 (.lst (rP ss.length))):=zD.new hl2
   refine ⟨l1,l2,_,_,rfl,rfl,(k4.trans k5) _ _ (by simp) e3,zB,by rw [List.length_singleton,sizeLine_eq];unfold rP;rw [zGH,List.length_range];omega,fun l3 hl3=>?_⟩
   rw [zCY]
   have k25:zD [] H2 (upd (upd (upd H3 rp (oU rp ss.length)) l2 (.lst (rP ss.length))) l3 (.lst ((sD ss.length).map rV))):=((k3.trans k4).trans k5).trans (zD.new hl3)
   have e6:upd (upd (upd H3 rp (oU rp ss.length)) l2 (.lst (rP ss.length))) l3 (.lst ((sD ss.length).map rV)) l3=some (.lst ((sD ss.length).map rV)):=zB
   generalize upd (upd (upd H3 rp (oU rp ss.length)) l2 (.lst (rP ss.length))) l3 (.lst ((sD ss.length).map rV))=H6 at k25 e6 ⊢
   refine ⟨l3,rfl,⟨_,.of e6⟩,fun acc hacc=>?_⟩
   have la:l3 ≠ acc:=zH e6 hacc
   refine u5 (K:=K) (a:=l3) (its:=(sD ss.length).map rV) (by rw [zGH,sC,sizeLine_eq];omega) (fun i ws τ H7=>∃ (kk:Option V) (qs:List Addr),τ=[kk,some (.str z)]/\ws=qs.map V.ref/\i <= (sD ss.length).length/\Paired (fun q r=>H7 q=some (.tup r)) qs (((sD ss.length).take i).map fun r=>hdV (.want z r))/\zD [acc] H6 H7/\H7 acc=some (.lst ws)) ⟨_,[],rfl,rfl,zGR _,.nil,zD.at (by simp),zB⟩ ?_ ?_ ?_
   ·rintro i ws τ H7 ⟨kk,qs,rfl,rfl,il,hq,k7,h7⟩
    have lq:=zP hq
    rw [zGH,zG0] at lq
    exact ⟨h7,by rw [zGH];omega,.of (k7 _ _ (by simp [la]) e6)⟩
   ·rintro i ws τ H7 x hx ⟨kk,qs,rfl,rfl,il,hq,k7,h7⟩
    rw [zGN] at hx
    cases eo:(sD ss.length)[i]? with
    | none=>rw [eo] at hx;cases hx
    | some o=>
    rw [eo] at hx
    have ex:rV o=x:=zGO hx
    subst ex
    refine ⟨_,rfl,_,rfl,by show 3 <= sizeLine;decide,fun t ht=>?_⟩
    have k8:zD [] H7 (upd H7 t (.tup (hdV (.want z o)))):=zD.new ht
    have e8:upd H7 t (.tup (hdV (.want z o))) t=some (.tup (hdV (.want z o))):=zB
    have h8:=k8 _ _ (by simp) h7
    have ta:t ≠ acc:=Ne.symm (zH h7 ht)
    have k9:zD [acc] (upd H7 t (.tup (hdV (.want z o)))) (upd (upd H7 t (.tup (hdV (.want z o)))) acc (.lst (qs.map V.ref ++ [.ref t]))):=zD.at (by simp)
    have nt:∀ b ∈ [acc],∀ xs,upd H7 t (.tup (hdV (.want z o))) b ≠ some (.tup xs):=fun b hb xs z=>by rw [zGK.mp hb,h8] at z;cases z
    refine ⟨h8,_,qs ++ [t],rfl,by simp,(zGJ.mp eo).1,?_,(k7.trans (k8.mono (by simp))).trans k9,zB⟩
    rw [xQ eo,zGT]
    exact x8 (zK k9 nt (zK k8 (fun b hb=>by cases hb) hq)) (k9 _ _ (by simp [ta]) e8)
   ·rintro ws τ H7 ⟨kk,qs,rfl,rfl,_,hq,k7,h7⟩
    rw [zGH,zHH] at hq
    have k67:=k7.drop hacc
    have k27:=k25.trans k67
    obtain ⟨ps,hps,hpp⟩:=R1.keep (k2.trans k27)
    have lp:=zP hpp
    have lq:=zP hq
    rw [zGH] at lp
    rw [zGH,sC] at lq
    refine ⟨dl,acc,_,_,rfl,rfl,hps,h7,by rw [zGH,zGH,sizeLine_eq];omega,fun d4 hd4=>?_⟩
    have k9:zD [] H7 (upd H7 d4 (.lst (ps.map V.ref ++ qs.map V.ref))):=zD.new hd4
    have k09:=(k02.trans k27).trans k9
    refine ⟨d4,ds ++ (sD ss.length).map (HD.want z),_,_,_,rfl,⟨ps ++ qs,by rw [zB,zGT],?_⟩,gd.app fun d hd=>?_,by rw [zGZ,zGH,sC];omega,fun _ e=>?_,(k02.trans k27).none (by simp) hd4,k09⟩
    ·rw [zGT,zG1]
     exact vU (zK k9 (fun b hb=>by cases hb) hpp) (zK k9 (fun b hb=>by cases hb) hq)
    ·obtain ⟨o,ho,rfl⟩:=List.mem_map.mp hd
     unfold sD at ho
     rcases List.mem_cons.mp ho with rfl | ho
     ·exact ⟨_,_,_,.any (zGI (lN ne)) rfl gz nz⟩
     ·obtain ⟨n,hn,rfl⟩:=List.mem_map.mp ho
      exact ⟨_,_,_,.want (zGI (List.mem_range.mp hn)) gz nz⟩
    ·have:=congrArg List.length e
     rw [zGZ,zGH,sC] at this
     simp at this
  ·have k02:=k1.trans k2
   have il:i < ss.length:=(zGJ.mp es).1
   have ey:ys[i]?=some ys[i]:=zGI (by omega)
   generalize ys[i]=y at ey
   obtain ⟨hst2,_,_,_,hd⟩:=hS.on k02
   have D:=hd i y s ey es
   obtain ⟨ps,hps,hpp⟩:=R1.keep k2
   have lp:=zP hpp
   rw [zGH] at lp
   refine ⟨_,rfl,rfl,_,rfl,ifF rfl ?_⟩
   refine ⟨_,rfl,_,rfl,st,_,_,_,rfl,rfl,hst2,xX ey,y.1,_,rfl,g_h D.d,_,rfl,kD _ _,_,rfl,?_⟩
   rw [cY]
   by_cases h1:s.hold=some z
   ·rw [zGW h1]
    refine ifT rfl ?_
    refine ⟨_,rfl,.inl ⟨rfl,_,.of hps⟩,_,rfl,by show 2 <= sizeLine;decide,fun t ht=>⟨dl,_,_,rfl,rfl,(zD.new (S:=[]) ht) _ _ (by simp) hps,by rw [zGH,sizeLine_eq];omega,?_⟩⟩
    obtain ⟨R',k'⟩:=pA (.done z) k02 hdl hps hpp ht
    exact ⟨dl,ds ++ [HD.done z],_,_,_,rfl,R',gd.app (.one (.done es h1)),by simp;omega,fun _ e=>by simp at e,hdl,k'⟩
   ·rw [zGX h1]
    refine ifF rfl ?_
    have h2:y9 z ∈ s.row:=(xD.mp hz).elim (fun e=>absurd e h1) id
    refine ⟨_,rfl,.inl ⟨rfl,_,.of hps⟩,_,rfl,by show 2 <= sizeLine;decide,fun t ht=>⟨dl,_,_,rfl,rfl,(zD.new (S:=[]) ht) _ _ (by simp) hps,by rw [zGH,sizeLine_eq];omega,?_⟩⟩
    obtain ⟨R',k'⟩:=pA (.leave z) k02 hdl hps hpp ht
    exact ⟨dl,ds ++ [HD.leave z],_,_,_,rfl,R',gd.app (.one (.leave es h2)),by simp;omega,fun _ e=>by simp at e,hdl,k'⟩
 ·rintro σ H1 ⟨dl,ds,v4,v5,v6,rfl,R1,gd,ld,nd,hdl,k1⟩
  rw [zGH] at ld nd
  have nd':as ≠ []->ds ≠ []:=fun h=>nd (zG7.mpr h)
  have hst1:=k1 _ _ (by simp) hst
  refine ⟨_,rfl,_,_,rfl,.inl ⟨_,.of hst1,rfl⟩,_,rfl,by omega,by rw [yl];omega,?_⟩
  rw [yl,Int.toNat_natCast]
  refine vR (fun i σ H2=>∃ (dl:Addr) (ds:List HD) (v4 v5 v6:Option V),σ=[some (.ref st),some (.ref al),some (.ref nl),some (.ref dl),v4,v5,v6]/\Rows H2 dl (ds.map hdV)/\tK nb ss ds/\ds.length <= 220 + 40 * i/\(as ≠ []->ds ≠ [])/\H dl=none/\zD [] H H2) ⟨dl,ds,_,_,_,rfl,R1,gd,by omega,nd',hdl,k1⟩ ?_ ?_
  ·rintro i σ H2 il ⟨dl,ds,v4,v5,v6,rfl,R2,gd,ld,nd,hdl,k2⟩
   have es:ss[i]?=some ss[i]:=zGI il
   generalize ss[i]=s at es
   have ey:ys[i]?=some ys[i]:=zGI (by omega)
   generalize ys[i]=y at ey
   rw [show (0:Int) + (i:Int)=(i:Int) from Int.zero_add _]
   refine ⟨_,rfl,nl,rfl,⟨_,.of (k2 _ _ (by simp) hnl)⟩,sF (K:=K) (a:=nl) (xs:=nb.map V.str) (fun j σ H3=>∃ (dl:Addr) (ds:List HD) (v4 v6:Option V),σ=[some (.ref st),some (.ref al),some (.ref nl),some (.ref dl),v4,some (.int (i:Int)),v6]/\Rows H3 dl (ds.map hdV)/\tK nb ss ds/\ds.length <= 220 + 40 * i + 2 * j/\(as ≠ []->ds ≠ [])/\H dl=none/\zD [] H H3) ⟨dl,ds,_,_,rfl,R2,gd,by omega,nd,hdl,k2⟩ ?_ ?_ ?_⟩
   ·rintro j σ H3 _ ⟨dl,ds,v4,v6,rfl,_,_,_,_,_,k3⟩
    exact .of (k3 _ _ (by simp) hnl)
   ·rintro j x σ H3 hx ⟨dl,ds,v4,v6,rfl,R3,gd,ld,nd,hdl,k3⟩
    rw [zGN] at hx
    cases ez:nb[j]? with
    | none=>rw [ez] at hx;cases hx
    | some z=>
    rw [ez] at hx
    have ex:V.str z=x:=zGO hx
    subst ex
    have zn:=zGL ez
    obtain ⟨hst3,_,_,_,hd⟩:=hS.on k3
    have D:=hd i y s ey es
    obtain ⟨ps,hps,hpp⟩:=id R3
    have lp:=zP hpp
    rw [zGH] at lp
    have jl:j < nb.length:=(zGJ.mp ez).1
    refine ⟨_,rfl,_,rfl,st,_,_,_,rfl,rfl,hst3,xX ey,y.1,_,rfl,g_a D.d,_,rfl,kD _ _,_,rfl,?_⟩
    rw [cY]
    by_cases h1:s.ptr=some z
    ·rw [zGW h1]
     refine ifT rfl ⟨_,rfl,_,rfl,_,rfl,by show 4 <= sizeLine;decide,fun t1 ht1=>⟨_,rfl,_,rfl,by show 4 <= sizeLine;decide,fun t2 ht2=>⟨by show 2 <= sizeLine;decide,fun l2 hl2=>⟨dl,l2,_,_,rfl,rfl,(((zD.new (S:=[]) ht1).trans (zD.new ht2)).trans (zD.new hl2)) _ _ (by simp) hps,zB,by rw [zGH,sizeLine_eq];show _ + 2 <= _;omega,fun d5 hd5=>?_⟩⟩⟩⟩
     obtain ⟨_,t21⟩:=zM ht2
     obtain ⟨hl2a,l2t2⟩:=zM hl2
     obtain ⟨_,l2t1⟩:=zM hl2a
     obtain ⟨hd5a,d5l⟩:=zM hd5
     obtain ⟨hd5b,d5t2⟩:=zM hd5a
     obtain ⟨hd5c,d5t1⟩:=zM hd5b
     have k10:zD [] H3 (upd (upd (upd (upd H3 t1 (.tup (hdV (.come z i true)))) t2 (.tup (hdV (.come z i false)))) l2 (.lst [.ref t1,.ref t2])) d5 (.lst (ps.map V.ref ++ [.ref t1,.ref t2]))):=(((zD.new ht1).trans (zD.new ht2)).trans (zD.new hl2)).trans (zD.new hd5)
     refine ⟨d5,ds ++ [.come z i true,.come z i false],_,_,rfl,⟨ps ++ [t1,t2],by rw [zB,zGT];rfl,?_⟩,gd.app fun d hd=>?_,by simp;omega,fun h e=>nd h (List.append_eq_nil_iff.mp e).1,k3.none (by simp) hd5c,k3.trans k10⟩
     ·rw [zGT]
      refine vU (zK k10 (fun b hb=>by cases hb) hpp) (.cons ?_ (.cons ?_ .nil))
      ·show upd _ _ _ t1=_
       rw [zJ (Ne.symm d5t1),zJ (Ne.symm l2t1),zJ (Ne.symm t21),zB];rfl
      ·show upd _ _ _ t2=_
       rw [zJ (Ne.symm d5t2),zJ (Ne.symm l2t2),zB];rfl
     ·simp only [List.mem_cons,zHB,or_false] at hd
      rcases hd with rfl | rfl
      ·exact ⟨i,s,_,.come es zn h1⟩
      ·exact ⟨i,s,_,.come es zn h1⟩
    ·rw [zGX h1]
     refine ifF rfl ⟨_,rfl,by show 2 <= sizeLine;decide,fun t2 ht2=>?_⟩
     have k4:zD [] H3 (upd H3 t2 (.tup [.str "house",.str z])):=zD.new ht2
     have D4:=D.keep k4
     have hps4:=k4 _ _ (by simp) hps
     have hpp4:=zK k4 (fun b hb=>by cases hb) hpp
     refine ⟨_,rfl,_,rfl,st,_,_,_,rfl,rfl,k4 _ _ (by simp) hst3,xX ey,y.1,_,rfl,g_r D4.d,i9 (x:=hsR z) D4.rw zB ⟨_,rfl,?_⟩⟩
     have k04:=k3.trans k4
     generalize upd H3 t2 (.tup [.str "house",.str z])=H4 at k4 k04 hps4 hpp4 ⊢
     by_cases h2:hsR z ∈ s.row
     ·rw [zGW h2]
      exact ifF rfl ⟨dl,ds,_,_,rfl,⟨ps,hps4,hpp4⟩,gd,by omega,nd,hdl,k04⟩
     ·rw [zGX h2]
      refine ifT rfl ?_
      refine ⟨_,rfl,.inl ⟨rfl,_,.of hps4⟩,_,rfl,_,rfl,by show 3 <= sizeLine;decide,fun t ht=>⟨dl,_,_,rfl,rfl,(zD.new (S:=[]) ht) _ _ (by simp) hps4,by rw [zGH,sizeLine_eq];omega,?_⟩⟩
      obtain ⟨R',k'⟩:=pA (.ask z i) k04 hdl hps4 hpp4 ht
      exact ⟨dl,ds ++ [HD.ask z i],_,_,rfl,R',gd.app (.one (.ask es zn (gnb z zn) h1 h2)),by simp;omega,fun h e=>by simp at e,hdl,k'⟩
   ·rintro σ H3 ⟨dl,ds,v4,v6,rfl,R3,gd,ld,nd,hdl,k3⟩
    rw [zGH] at ld
    exact ⟨dl,ds,_,_,_,rfl,R3,gd,by omega,nd,hdl,k3⟩
  ·rintro σ H2 ⟨dl,ds,v4,v5,v6,rfl,R2,gd,ld,nd,hdl,k2⟩
   exact ⟨_,rfl,q dl ds H2 R2 gd (by omega) nd hdl k2⟩
end
abbrev sMd:Stmt:=top 34
theorem gU {X:Cx} {K:PySem.W.Frag} (e:X.K=K:=by rfl):vN X (.builtin "len") (fun xs H Q=>∃ x n,xs=[x]/\zBA K x H n/\Q (V.int (n:Int)) H):=e ▸ yK
theorem Src.on {H H':Hp} {p:Addr} (h:Src H p) (k:zD [] H H'):Src H' p:=let ⟨a,b,c,e⟩:=h;⟨a,b,c,k _ _ (by simp) e⟩
theorem Src.ne {H:Hp} {p q:Addr} (h:Src H p) (hq:H q=none):q ≠ p:=by
 obtain ⟨a,b,c,e⟩:=h
 exact Ne.symm (zH e hq)
theorem zBZ (nb:List Str) {v:Int} (h0:0 <= v) (h1:v < (nb.length:Int) + 1):∃ ar:Option Str,atI (nb.map V.str ++ [V.non]) v=some (z4 ar)/\∀ z,ar=some z->z ∈ nb:=by
 obtain ⟨u,a,b⟩:=tX (xs:=nb.map V.str ++ [V.non]) h0 (by rw [zGZ,zGH];simp;omega)
 by_cases hv:v.toNat < nb.length
 ·rw [zG5 (by rw [zGH];exact hv),zGN,zGI hv] at b
  exact ⟨some nb[v.toNat],by rw [a,<- b];rfl,fun z e=>by cases e;exact List.getElem_mem hv⟩
 ·have ev:v.toNat=nb.length:=by omega
  rw [ev,zG4 (by rw [zGH];exact zGQ _),zGH,Nat.sub_self] at b
  exact ⟨none,by rw [a,<- b];rfl,fun z e=>by cases e⟩
theorem iM (l:List V) (k:Nat):uC l (some 1) (some (1 + (k:Int)))=(l.drop 1).take k:=by
 unfold uC
 rw [show (1:Int)=((1:Nat):Int) from rfl,HT.sIx_nat,show ((1:Nat):Int) + (k:Int)=((1 + k:Nat):Int) by omega,HT.sIx_nat]
 cases l with
 | nil=>simp
 | cons x l=>
  simp only [zG2]
  rw [show min 1 (l.length + 1)=1 by omega]
  show l.take _=l.take k
  by_cases h:k <= l.length
  ·rw [show min (1 + k) (l.length + 1) - 1=k by omega]
  ·rw [zG6 (by omega),zG6 (by omega)]
theorem c6 (l:List Str) {k:Int} (hk:0 <= k):uC (l.map V.str) none (some k)=(l.take k.toNat).map V.str:=by
 unfold uC
 obtain ⟨n,rfl⟩:=Int.eq_ofNat_of_zero_le hk
 rw [HT.sIx_none,HT.sIx_nat,List.drop_zero,zGH,Nat.sub_zero,<- List.map_take]
 congr 1
 rcases Nat.le_total n l.length with h | h
 ·rw [Nat.min_eq_left h];rfl
 ·rw [Nat.min_eq_right h,zG6 (zGQ _)];exact (zG6 h).symm
theorem qM {H:Hp}:∀ {ps qs:List Addr} {rows:List (List V)},Paired (fun q r=>H q=some (.tup r)) ps rows->Paired (fun q r=>H q=some (.tup r)) qs rows->(∀ r ∈ rows,r.all y1=true/\r.length <= 2000)->Paired (Alk H 1) (ps.map V.ref) (qs.map V.ref)
 | _,_,_,.nil,.nil,_=>.nil
 | p :: _,q :: _,r :: _,.cons a s,.cons b t,h=>by
  refine .cons (.inr ⟨p,q,r,r,rfl,rfl,.inr ⟨a,b⟩,?_,(h r zHA).2⟩) (qM s t fun x hx=>h x (zGU _ hx))
  have f:=(h r zHA).1
  clear a b s t h
  induction r with
  | nil=>exact .nil
  | cons x r ih=>
   rw [List.all_cons,Bool.and_eq_true] at f
   exact .cons ⟨rfl,f.1⟩ (ih f.2)
theorem sL {H:Hp} {a b:Addr} {rows:List (List V)} (h1:Rows H a rows) (h2:Rows H b rows) (hf:∀ r ∈ rows,r.all y1=true/\r.length <= 2000) (hl:rows.length <= 2000):Alk H 2 (.ref a) (.ref b):=by
 obtain ⟨ps,e1,r1⟩:=h1
 obtain ⟨qs,e2,r2⟩:=h2
 exact .inr ⟨a,b,_,_,rfl,rfl,.inl ⟨e1,e2⟩,qM r1 r2 hf,by rw [zGH,zP r1];exact hl⟩
theorem Alk.succ {H:Hp}:∀ (n:Nat) {u v:V},Alk H n u v->Alk H (n + 1) u v
 | 0,_,_,h=>.inl h
 | n + 1,_,_,.inl h=>.inl h
 | n + 1,_,_,.inr ⟨a,b,us,vs,e1,e2,hh,hp,hl⟩=>.inr ⟨a,b,us,vs,e1,e2,hh,L2.Paired.mapP hp fun x y z=>Alk.succ n z,hl⟩
theorem tO {S:List Addr} {H H':Hp} {p:Addr} {rows:List (List V)} (A:Rows H p rows) (k:zD S H H') (hp:p ∉ S) (ht:∀ b ∈ S,∀ xs,H b ≠ some (.tup xs)):Rows H' p rows:=by
 obtain ⟨ps,e,r⟩:=A
 exact ⟨ps,k _ _ hp e,zK k ht r⟩
theorem sT (o:Option Str):y1 (z4 o)=true:=by cases o <;> rfl
theorem aH (l:List (Str × Str)) (h:l.length <= 2000):(∀ r ∈ l.map yT,r.all y1=true/\r.length <= 2000)/\(l.map yT).length <= 2000:=by
 refine ⟨fun r hr=>?_,by rw [zGH];exact h⟩
 obtain ⟨z,_,rfl⟩:=List.mem_map.mp hr
 exact ⟨rfl,by show 2 <= 2000;decide⟩
theorem zF2 (nm:V) (nl sl:Addr):(hfl nm nl sl).lookup ("arrow" : Str)=none:=rfl
theorem zFV (nm:V) (nl sl:Addr):(hfl nm nl sl).lookup ("row" : Str)=none:=rfl
theorem zFX (nm:V) (nl sl:Addr):(hfl nm nl sl).lookup ("inside" : Str)=none:=rfl
theorem zFY (nm:V) (nl sl:Addr):(hfl nm nl sl).lookup ("has_asked" : Str)=none:=rfl
theorem yA.parts {B:Addr->Prop} {C CS:Addr} {H:Hp} {p:Addr} {nm:Str} {nb:List Str} {xs:List (Addr × Addr)} {ss:List SS} (h:yA B C CS H p nm nb xs ss):∃ P1:List Addr,yA (· ∈ P1) C CS H p nm nb xs ss/\∀ u ∈ P1,B u/\H u ≠ none/\u ≠ p:=by
 obtain ⟨dx,nl,sl,⟨b1,b2,b3,b4⟩,h1,h2,h3,h4,h5⟩:=h
 have pr:∀ x ∈ xs,H x.1 ≠ none/\H x.2 ≠ none/\x.1 ≠ p/\x.2 ≠ p:=fun x hx=>by
  obtain ⟨i,hi,e⟩:=List.getElem_of_mem hx
  obtain ⟨⟨dy,hob⟩,⟨ps,hwl,_⟩,_⟩:=h5 i x _ (by rw [zGI hi,e]) (zGI (by rw [<- h4];exact hi))
  refine ⟨(by rw [hob];nofun),(by rw [hwl];nofun),fun e=>?_,xR hwl h1 (by intro z;cases z)⟩
  rw [e,h1] at hob
  injection hob with hob
  injection hob with _ _ e
  unfold xC hfl at e
  injection e with e _
  injection e with e _
  exact absurd e (by decide +kernel)
 refine ⟨nl :: sl :: (xs.map (·.1) ++ xs.map (·.2)),⟨dx,nl,sl,⟨by simp,by simp,fun x hx=>⟨?_,?_⟩,b4⟩,h1,h2,h3,h4,h5⟩,fun u hu=>?_⟩
 ·simp only [List.mem_cons,zGY,List.mem_map];exact .inr (.inr (.inl ⟨x,hx,rfl⟩))
 ·simp only [List.mem_cons,zGY,List.mem_map];exact .inr (.inr (.inr ⟨x,hx,rfl⟩))
 ·simp only [List.mem_cons,zGY,List.mem_map] at hu
  rcases hu with rfl | rfl | ⟨x,hx,rfl⟩ | ⟨x,hx,rfl⟩
  ·exact ⟨b1,(by rw [h2];nofun),xR h2 h1 (by intro z;cases z)⟩
  ·exact ⟨b2,(by rw [h3];nofun),xR h3 h1 (by intro z;cases z)⟩
  ·exact ⟨(b3 x hx).1,(pr x hx).1,(pr x hx).2.2.1⟩
  ·exact ⟨(b3 x hx).2,(pr x hx).2.1,(pr x hx).2.2.2⟩
theorem yA.at {B:Addr->Prop} {C CS:Addr} {H:Hp} {p:Addr} {nm:Str} {nb:List Str} {xs:List (Addr × Addr)} {ss:List SS} (h:yA B C CS H p nm nb xs ss) {i:Nat} {x:Addr × Addr} (ex:xs[i]?=some x):B x.1/\B x.2/\∃ s,ss[i]?=some s/\zZ CS H x.1 x.2 s:=by
 obtain ⟨dx,nl,sl,⟨b1,b2,b3,b4⟩,h1,h2,h3,h4,h5⟩:=h
 have il:i < ss.length:=by rw [<- h4];exact (zGJ.mp ex).1
 have:=b3 x (zGL ex)
 exact ⟨this.1,this.2,_,zGI il,h5 i x _ ex (zGI il)⟩
theorem yA.ob {B:Addr->Prop} {C CS:Addr} {H:Hp} {p:Addr} {nm:Str} {nb:List Str} {xs:List (Addr × Addr)} {ss:List SS} (h:yA B C CS H p nm nb xs ss):∃ dx nl sl,H p=some (.ins C dx (hfl (.str nm) nl sl)):=by
 obtain ⟨dx,nl,sl,_,h1,_⟩:=h
 exact ⟨dx,nl,sl,h1⟩
structure WB (Z:Hp) (P1 P2:List Addr) (p:Addr):Prop where
 ex:∀ u ∈ P1 ++ P2,Z u ≠ none
 dj:∀ u ∈ P1,u ∉ P2
 pz:Z p ≠ none
structure WK (Z:Hp) (P1 P2:List Addr) (C CS p st:Addr) (nm:Str) (nb:List Str) (xs ys:List (Addr × Addr)) (H:Hp) (a b:List SS):Prop where
 ho:yA (· ∈ P1) C CS H p nm nb xs a
 sa:wP (· ∈ P2) H st ys b
 kp:zD (P1 ++ P2) Z H
 dm:∀ u,H u=none->Z u=none
section
variable {Z:Hp} {P1 P2:List Addr} {C CS p st:Addr} {nm:Str} {nb:List Str} {xs ys:List (Addr × Addr)} {H H':Hp} {a b:List SS}
theorem WK.on (w:WK Z P1 P2 C CS p st nm nb xs ys H a b) (k:zD [] H H'):WK Z P1 P2 C CS p st nm nb xs ys H' a b:=
 ⟨w.ho.on k,w.sa.on k,w.kp.trans (k.mono (by simp)),fun u hu=>w.dm u (k.none (by simp) hu)⟩
theorem WK.new (B:WB Z P1 P2 p) (w:WK Z P1 P2 C CS p st nm nb xs ys H a b) {r:Addr} (k:zD [r] H H') (hr:Z r=none) (nt:∀ xs,H r ≠ some (.tup xs)):WK Z P1 P2 C CS p st nm nb xs ys H' a b:=by
 have nP:r ∉ P1 ++ P2:=fun h=>B.ex r h hr
 rw [zGY,not_or] at nP
 refine ⟨w.ho.keep k (fun c hc=>?_),w.sa.keep k (fun c hc=>?_),fun c o n h=>k c o (fun hc=>?_) (w.kp c o n h),fun u hu=>?_⟩
 ·rw [zGK.mp hc];exact ⟨(fun e=>B.pz (e ▸ hr)),nP.1,nt⟩
 ·rw [zGK.mp hc];exact ⟨nP.2,nt⟩
 ·rw [zGK.mp hc,hr] at h;cases h
 ·by_cases e:u=r
  ·rw [e];exact hr
  ·exact w.dm u (k.none (by simpa using e) hu)
theorem WK.sts (B:WB Z P1 P2 p) (w:WK Z P1 P2 C CS p st nm nb xs ys H a b) {i:Nat} {y:Addr × Addr} {b':List SS} (ey:ys[i]?=some y) (h:wP (· ∈ P2) H' st ys b') (k:zD [y.1,y.2] H H'):WK Z P1 P2 C CS p st nm nb xs ys H' a b':=by
 obtain ⟨_,h2,_,h4,h5⟩:=id h
 obtain ⟨_,g2,_,g4,g5⟩:=id w.sa
 have yl:=(zGJ.mp ey).1
 have D:=h5 i y _ ey (zGI (by omega))
 have D0:=g5 i y _ ey (zGI (by omega))
 obtain ⟨_,w0,_⟩:=D0.rw
 have my:=h2.2 y (zGL ey)
 refine ⟨w.ho.keep k (fun c hc=>?_),h,w.kp.trans (k.mono ?_),fun u hu=>w.dm u (k.none (D.fresh hu) hu)⟩
 ·obtain ⟨dx,nl,sl,hp⟩:=w.ho.ob
  refine ⟨?_,?_,wQ D0.d w0 c hc⟩
  ·simp only [List.mem_cons,zHB,or_false] at hc
   rcases hc with rfl | rfl
   ·exact xR D0.d hp (by intro z;cases z)
   ·exact xR w0 hp (by intro z;cases z)
  ·simp only [List.mem_cons,zHB,or_false] at hc
   rcases hc with rfl | rfl
   ·exact fun h=>B.dj _ h my.1
   ·exact fun h=>B.dj _ h my.2
 ·intro c hc
  simp only [List.mem_cons,zHB,or_false] at hc
  rcases hc with rfl | rfl
  ·exact zGY.mpr (.inr my.1)
  ·exact zGY.mpr (.inr my.2)
theorem WK.hou (B:WB Z P1 P2 p) (w:WK Z P1 P2 C CS p st nm nb xs ys H a b) {i:Nat} {x:Addr × Addr} {a':List SS} (ex:xs[i]?=some x) (h:yA (· ∈ P1) C CS H' p nm nb xs a') (k:zD [x.1,x.2] H H'):WK Z P1 P2 C CS p st nm nb xs ys H' a' b:=by
 obtain ⟨m1,m2,s',_,S'⟩:=h.at ex
 obtain ⟨_,_,s0,_,S0⟩:=w.ho.at ex
 obtain ⟨⟨dy,hob⟩,⟨ps,hwl,_⟩,_⟩:=S'
 obtain ⟨⟨dy0,hob0⟩,⟨ps0,hwl0,_⟩,_⟩:=S0
 refine ⟨h,w.sa.keep k (fun c hc=>⟨?_,vD hob0 hwl0 c hc⟩),w.kp.trans (k.mono ?_),fun u hu=>w.dm u (k.none ?_ hu)⟩
 ·simp only [List.mem_cons,zHB,or_false] at hc
  rcases hc with rfl | rfl
  ·exact B.dj _ m1
  ·exact B.dj _ m2
 ·intro c hc
  simp only [List.mem_cons,zHB,or_false] at hc
  rcases hc with rfl | rfl
  ·exact zGY.mpr (.inl m1)
  ·exact zGY.mpr (.inl m2)
 ·simp only [List.mem_cons,zHB,or_false]
  rintro (rfl | rfl)
  ·rw [hob] at hu;cases hu
  ·rw [hwl] at hu;cases hu
theorem WK.farX (B:WB Z P1 P2 p) (w:WK Z P1 P2 C CS p st nm nb xs ys H a b) {i:Nat} {x:Addr × Addr} {r:Addr} (ex:xs[i]?=some x) (hr:Z r=none):r ∉ [x.1,x.2]:=by
 obtain ⟨m1,m2,_⟩:=w.ho.at ex
 simp only [List.mem_cons,zHB,or_false]
 rintro (rfl | rfl)
 ·exact B.ex _ (zGY.mpr (.inl m1)) hr
 ·exact B.ex _ (zGY.mpr (.inl m2)) hr
theorem WK.farY (B:WB Z P1 P2 p) (w:WK Z P1 P2 C CS p st nm nb xs ys H a b) {i:Nat} {y:Addr × Addr} {r:Addr} (ey:ys[i]?=some y) (hr:Z r=none):r ∉ [y.1,y.2]:=by
 have m:=w.sa.2.1.2 y (zGL ey)
 simp only [List.mem_cons,zHB,or_false]
 rintro (rfl | rfl)
 ·exact B.ex _ (zGY.mpr (.inr m.1)) hr
 ·exact B.ex _ (zGY.mpr (.inr m.2)) hr
theorem WK.noX (w:WK Z P1 P2 C CS p st nm nb xs ys H a b) {i:Nat} {x:Addr × Addr} (ex:xs[i]?=some x):∀ c ∈ [x.1,x.2],∀ xs,H c ≠ some (.tup xs):=by
 obtain ⟨_,_,s0,_,S0⟩:=w.ho.at ex
 obtain ⟨⟨dy0,hob0⟩,⟨ps0,hwl0,_⟩,_⟩:=S0
 exact vD hob0 hwl0
theorem WK.noY (w:WK Z P1 P2 C CS p st nm nb xs ys H a b) {i:Nat} {y:Addr × Addr} (ey:ys[i]?=some y):∀ c ∈ [y.1,y.2],∀ xs,H c ≠ some (.tup xs):=by
 obtain ⟨_,_,_,g4,g5⟩:=id w.sa
 have D0:=g5 i y _ ey (zGI (by have:=(zGJ.mp ey).1;omega))
 obtain ⟨_,w0,_⟩:=D0.rw
 exact wQ D0.d w0
end
theorem m5 (s:SS) (i:Nat):(∀ r ∈ (zX s).2.map (oZ i),r.all y1=true/\r.length <= 2000)/\((zX s).2.map (oZ i)).length <= 2000:=by
 obtain ⟨a1,a2⟩:=dJ s
 obtain ⟨b1,b2⟩:=uN s
 refine ⟨fun r hr=>?_,by rw [zGH];omega⟩
 obtain ⟨l,hl,rfl⟩:=List.mem_map.mp hr
 have h1:=(a1 l hl).1
 have h2:=(b1 l hl).2
 cases l with
 | nil=>exact ⟨rfl,zGR _⟩
 | cons x l=>
  rw [List.all_cons,Bool.and_eq_true] at h1
  refine ⟨?_,?_⟩
  ·show (y1 x && (true && l.all y1))=true
   rw [h1.1,h1.2];rfl
  ·show l.length + 1 + 1 <= 2000
   simp only [zG2] at h2
   omega
section
variable {P:Program} {w:World} {K:PySem.W.Frag} {mg:Str->Option Value} {base:Heap} {C CS:Addr}
theorem oM:zN ["_law_cell","_law_source","_law_same","_law_many","_law_names_here","_law_neighbours","_law_ways","_law_askers"] ["_law_cell"] (zG sMd):=⟨rfl,rfl,rfl,by decide +kernel,rfl,by decide +kernel,by decide +kernel⟩
def zEF:Sp:=fun vs H Q _=>∃ c:Int,vs=[.int c]/\∀ (t nl wl al:Addr) (nm:Str) (nb:List Str) (ars:List (Option Str)) (H':Hp),H' t=some (.tup [.str nm,.ref nl,.ref wl,.ref al])->H' nl=some (.lst (nb.map V.str))->H' wl=some (.lst (ars.map z4))->H nl=none->H wl=none->nl ≠ wl->xE nm->(∀ z ∈ nb,xE z)->nb.Nodup->nm ∉ nb->nb.length <= 11->ars ≠ []->ars.length <= 4->(∀ z,some z ∈ ars->z ∈ nb)->(∃ as:List Str,H' al=some (.lst (as.map V.str))/\as ≠ []/\as.length <= 20/\∀ z ∈ as,xE z)->zD [] H H'->Q (.ref t) H'
theorem okMd (G:y0 K mg "_law_made" sMd ["_law_cell"]) (CD:Cal P w K mg base CX0 1 "_law_digits" ["_law_cell"] qF) (CN:Cal P w K mg base CX0 2 "_law_next" ["_law_source","_law_many"] oE) (CNa:Cal P w K mg base CX0 3 "_law_names" ["_law_source","_law_many"] jM) (b_len:Blt mg "len") (b_range:Blt mg "range"):Cal P w K mg base CX0 4 "_law_made" ["_law_cell"] zEF:=by
 refine G.ok oM (fun vs H Q E h=>by obtain ⟨c,rfl,_⟩:=h;rfl) (fun f cdv A outer s0 H vs Q E hr h=>?_)
 obtain ⟨c,rfl,q⟩:=h
 have hr3:yB 3 _:=hr
 have hr2:yB 2 _:=hr.mono (by decide)
 have hr1:yB 1 _:=hr.mono (by decide)
 refine ⟨_,(zE (yF (i:=1) oM.nd rfl (Or.inr rfl) (zQ CD hr1 (zA (pv 0) zC)))
   (zE (yF (i:=2) oM.nd rfl (Or.inl rfl) (wD xO (zQ CN hr2 (zA (pv 1) (zA zI zC))) zI (zV _)))
   (zE (yF (i:=3) oM.nd rfl (Or.inl rfl) (yZ (zA (zQ CN hr2 (zA (pv 1) (zA zI zC))) (zA (yU wZ zI (zQ CN hr2 (zA (pv 1) (zA zI zC)))) (zA (yU wZ zI (zQ CN hr2 (zA (pv 1) (zA zI zC)))) zC)))))
   (zE (yF (i:=4) oM.nd rfl (Or.inl rfl) (zQ CNa hr3 (zA (pv 1) (zA zI zC))))
   (zE (yF (i:=5) oM.nd rfl (Or.inr rfl) (wY oJ (pv 4) (wX zI) (wX (yU wZ zI (zU zW (pv 3) zI (fun _ _=>rfl))))))
   (zE (u9 (i:=6) oM.nd rfl (Or.inl rfl) (N:=["_law_cell","_law_source","_law_same","_law_many","_law_names_here","_law_neighbours","_law_ways","_law_askers"]) (sc:=zG sMd) (ix:=[5,1]) (by decide +kernel) (wR rfl b_range.no (zA (zU zW (pv 3) zI (fun _ _=>rfl)) zC)) (fun _ _ _ _=>xM) (fun _ _ _ _=>(zU zW (yU tS (pv 1) (yZ (zA yY zC))) (zQ CN hr2 (zA (pv 2) (zA (yU wZ (yE (gU (K:=K)) b_len xB (zA (pv 1) zC)) zI) zC))) (fun _ _=>rfl))))
   (zE (yF (i:=7) oM.nd rfl (Or.inl rfl) (pv 4))
   (zE (yC (wA (xV (pv 2))) (zF (yF (i:=7) oM.nd rfl (Or.inl rfl) (zQ CNa hr3 (zA (pv 1) (zA zI zC))))) zT)
   (zF (zL (yD (zA (zU zW (pv 4) zI (fun _ _=>rfl)) (zA (pv 5) (zA (pv 6) (zA (wY oJ (pv 7) uJ (wX (zU zW (pv 3) zI (fun _ _=>rfl)))) zC))))))))))))))),?_⟩
 refine ⟨_,rfl,c,rfl,fun s b1 c1 e1 hs=>?_⟩
 refine ⟨_,rfl,s,b1,c1,e1,2,rfl,zB,by decide,by decide,fun u a2 c2 u0 u1=>⟨rfl,?_⟩⟩
 refine ⟨_,rfl,s,a2,c1,c2,12,rfl,zB,by decide,by decide,fun k a3 c3 w0 w1=>?_⟩
 refine ⟨_,rfl,s,a3,c1,c3,4,rfl,zB,by decide,by decide,fun m a4 c4 m0 m1=>⟨_,_,rfl,rfl,?_⟩⟩
 refine ⟨_,rfl,s,a4,c1,c4,10,rfl,zB,by decide,by decide,fun n a5 c5 n0 n1=>⟨_,_,rfl,rfl,by show 3 <= sizeLine;decide,fun ml hml=>?_⟩⟩
 simp only [vZ] at hml ⊢
 have k1:zD [] H (upd H s (.lst [.int a5,.int c1,.int c5])):=zD.new hs
 generalize hH1:upd H s (.lst [.int a5,.int c1,.int c5])=H1 at k1 hml ⊢
 have s1:Src H1 s:=⟨a5,c1,c5,by rw [<- hH1];exact zB⟩
 have k2:zD [] H1 (upd H1 ml (.lst [.int k,.int (1 + m),.int (1 + n)])):=zD.new hml
 have e2:upd H1 ml (.lst [.int k,.int (1 + m),.int (1 + n)]) ml=some (.lst [.int k,.int (1 + m),.int (1 + n)]):=zB
 generalize upd H1 ml (.lst [.int k,.int (1 + m),.int (1 + n)])=H2 at k2 e2
 have s2:Src H2 s:=s1.on k2
 have sml:ml ≠ s:=s1.ne hml
 refine ⟨_,rfl,s,12,rfl,s2,by decide,by decide,fun nh zs H3 hnh enh lz gz nd k3 s3=>?_⟩
 have lz12:zs.length=12:=lz
 have e3:=k3 _ _ (by simp [sml]) e2
 have snh:nh ≠ s:=s2.ne hnh
 have k03:zD [s] H H3:=((k1.trans k2).mono (by simp)).trans k3
 refine ⟨_,rfl,1,rfl,_,rfl,ml,_,0,_,rfl,rfl,e3,rfl,_,_,rfl,rfl,_,rfl,nh,_,rfl,.of enh,fun nl hnl=>?_⟩
 have ek:(1:Int) + k=1 + ((k.toNat:Nat):Int):=by omega
 rw [ek,iM,<- List.map_drop,<- List.map_take]
 generalize hnb:(zs.drop 1).take k.toNat=nb
 have snl:nl ≠ s:=s3.ne hnl
 have k4:zD [] H3 (upd H3 nl (.lst (nb.map V.str))):=zD.new hnl
 have e4:upd H3 nl (.lst (nb.map V.str)) nl=some (.lst (nb.map V.str)):=zB
 generalize upd H3 nl (.lst (nb.map V.str))=H4 at k4 e4
 have s4:=s3.on k4
 have lnb:nb.length <= 11:=by rw [<- hnb,zG0,List.length_drop];omega
 have sub:∀ z ∈ nb,z ∈ zs.drop 1:=fun z hz=>by rw [<- hnb] at hz;exact List.mem_of_mem_take hz
 obtain ⟨nm,zt,ez⟩:∃ nm zt,zs=nm :: zt:=by
  cases zs with
  | nil=>simp at lz12
  | cons a b=>exact ⟨a,b,rfl⟩
 have ed:zs.drop 1=zt:=by rw [ez];rfl
 obtain ⟨nin,ndt⟩:=List.nodup_cons.mp (ez ▸ nd)
 have gnb:∀ z ∈ nb,xE z:=fun z hz=>gz z (by rw [ez];exact zGU _ (ed ▸ sub z hz))
 have ndn:nb.Nodup:=by rw [<- hnb,ed];exact ndt.sublist (List.take_sublist _ _)
 have nmn:nm ∉ nb:=fun h=>nin (ed ▸ sub nm h)
 refine ⟨_,rfl,ml,_,1,_,rfl,rfl,k4 _ _ (by simp) e3,rfl,_,rfl,by omega,by omega,fun acc hacc=>?_⟩
 have nla:nl ≠ acc:=zH e4 hacc
 have sa:acc ≠ s:=s4.ne hacc
 refine tE (by rw [sizeLine_eq];omega) (fun i ys τ H5=>∃ (ars:List (Option Str)) (kk:Option V),τ=kk :: [some (.ref nl),some (.ref s)]/\ys=ars.map z4/\ars.length=i/\(∀ z,some z ∈ ars->z ∈ nb)/\zD [acc,s] H4 H5/\Src H5 s/\H5 acc=some (.lst ys)) ?_ ?_ ?_ ?_
 ·exact ⟨[],none,rfl,rfl,rfl,(fun z hz=>by cases hz),zD.at (by simp),s4.on (zD.new hacc),zB⟩
 ·rintro i ys τ H5 ⟨ars,kk,rfl,rfl,hl,_,_,_,h5⟩
  exact ⟨h5,by rw [zGH];omega⟩
 ·rintro i ys τ H5 hi ⟨ars,kk,rfl,rfl,hl,hg,kp,⟨x5,y5,z5,hs5⟩,h5⟩
  have e5:=kp _ _ (by simp [nla,snl]) e4
  refine ⟨_,rfl,by show 1 <= sizeLine;decide,fun l1 h1=>⟨nl,l1,_,_,rfl,rfl,(zD.new (S:=[]) h1) _ _ (by simp) e5,zB,by rw [zGH,sizeLine_eq];show _ + 1 <= _;omega,fun l2 h2=>?_⟩⟩
  have k6:zD [] H5 (upd (upd H5 l1 (.lst [.non])) l2 (.lst (nb.map V.str ++ [V.non]))):=(zD.new h1).trans (zD.new h2)
  have e6:upd (upd H5 l1 (.lst [.non])) l2 (.lst (nb.map V.str ++ [V.non])) l2=some (.lst (nb.map V.str ++ [V.non])):=zB
  have n2:H5 l2=none:=(zM h2).1
  generalize upd (upd H5 l1 (.lst [.non])) l2 (.lst (nb.map V.str ++ [V.non]))=H6 at k6 e6 ⊢
  have hs6:=k6 _ _ (by simp) hs5
  have h56:=k6 _ _ (by simp) h5
  refine ⟨_,rfl,_,rfl,_,_,rfl,.inl ⟨_,.of (k6 _ _ (by simp) e5),rfl⟩,_,_,rfl,rfl,s,x5,y5,z5,_,rfl,hs6,by rw [zGH];omega,by rw [zGH];omega,fun v a7 c7 v0 v1=>?_⟩
  rw [zGH] at v1
  obtain ⟨ar,ea,za⟩:=zBZ nb v0 v1
  have l2s:l2 ≠ s:=Ne.symm (zH hs5 n2)
  refine ⟨l2,_,v,_,rfl,rfl,by rw [zJ l2s];exact e6,ea,?_⟩
  refine ⟨by rw [zJ sa];exact h56,ars ++ [ar],_,rfl,by simp,by simp [hl],?_,((kp.trans (k6.mono (by simp))).trans (zD.at (by simp))).trans (zD.at (by simp)),⟨a7,y5,c7,by rw [zJ sa.symm,zB]⟩,zB⟩
  intro z hz
  rcases zGY.mp hz with h | h
  ·exact hg z h
  ·exact za z (zGK.mp h).symm
 rintro ys τ H5 ⟨ars,kk,rfl,rfl,hl,hg,kp,s5,h5⟩
 have lars:ars.length=(1 + m).toNat:=hl
 have nars:ars ≠ []:=fun e=>by rw [e] at lars;simp at lars;omega
 have k45:zD [s] H4 H5:=fun b o hb ho=>kp b o (by
  simp only [List.mem_cons,zHB,or_false,not_or] at hb ⊢
  exact ⟨(fun e=>by rw [e,hacc] at ho;cases ho),hb⟩) ho
 have k05:zD [s] H H5:=(k03.trans (k4.mono (by simp))).trans k45
 have nlH:H nl=none:=k03.none (by simp [snl]) hnl
 have accH:H acc=none:=(k03.trans (k4.mono (by simp))).none (by simp [sa]) hacc
 have enh5:=k45 _ _ (by simp [snh]) (k4 _ _ (by simp) enh)
 have e5:=k45 _ _ (by simp [snl]) e4
 have ml5:=k45 _ _ (by simp [sml]) (k4 _ _ (by simp) e3)
 have fin:∀ (bb:Bool) (al:Addr) (as:List Str) (H6:Hp),H6 al=some (.lst (as.map V.str))->as ≠ []->as.length <= 12->(∀ z ∈ as,xE z)->zD [s] H5 H6->fF (zB4 (t3 (tOp eB (uX 4) (tC (.int 0))) (t3 (uX 5) (t3 (uX 6) (t3 (tSl (zE9 K) (uX 7) oB (fG (tOp eB (uX 3) (tC (.int 2))))) nV))))) { nx:=fun _ H'=>Q V.non H',rt:=Q } [some (.int c),some (.ref s),some (.bl bb),some (.ref ml),some (.ref nh),some (.ref nl),some (.ref acc),some (.ref al)] H6:=by
  intro bb al as H6 hal nas las gas k56
  have enh6:=k56 _ _ (by simp [snh]) enh5
  have nl6:=k56 _ _ (by simp [snl]) e5
  have ac6:=k56 _ _ (by simp [sa]) h5
  have ml6:=k56 _ _ (by simp [sml]) ml5
  have at0:atI (zs.map V.str) 0=some (.str nm):=uR (j:=0) (by rw [ez];rfl)
  refine ⟨_,rfl,nh,_,0,_,rfl,rfl,enh6,at0,_,rfl,_,rfl,_,rfl,_,rfl,ml,_,2,_,rfl,rfl,ml6,rfl,_,rfl,al,_,rfl,.of hal,fun sl hsl=>?_⟩
  refine ⟨by show 4 <= sizeLine;decide,fun t ht=>?_⟩
  obtain ⟨cs,ecu,ncu,lcu,gcu⟩:∃ cs:List Str,uC (as.map V.str) none (some (1 + n))=cs.map V.str/\cs ≠ []/\cs.length <= 20/\∀ z ∈ cs,xE z:=by
   refine ⟨as.take (1 + n).toNat,c6 as (by omega),?_,by rw [zG0];omega,fun z hz=>gas z (List.mem_of_mem_take hz)⟩
   intro e
   have l1:=congrArg List.length e
   rw [zG0,List.length_nil] at l1
   have l2:0 < as.length:=zG7.mpr nas
   omega
  rw [ecu] at ht ⊢
  generalize ecs:cs.map V.str=cu at ht ⊢
  have k6:zD [] H6 (upd H6 sl (.lst cu)):=zD.new hsl
  have k8:zD [] H6 (upd (upd H6 sl (.lst cu)) t (.tup [.str nm,.ref nl,.ref acc,.ref sl])):=k6.trans (zD.new ht)
  exact q t nl acc sl nm nb ars _ zB (k8 _ _ (by simp) nl6) (k8 _ _ (by simp) ac6) nlH accH nla (gz nm (by rw [ez];exact zHA ..)) gnb ndn nmn lnb nars (by omega) hg ⟨cs,by rw [ecs];exact (zD.new (S:=[]) ht) _ _ (by simp) zB,ncu,lcu,gcu⟩ (((k05.trans k56).trans (k8.mono (by simp))).drop hs)
 refine ⟨_,rfl,?_⟩
 refine ⟨_,rfl,?_⟩
 refine ⟨_,rfl,?_⟩
 cases decide (V.int u=V.int 1) with
 | true=>exact fin true nh zs H5 enh5 (fun e=>by rw [e] at lz12;simp at lz12) (by omega) gz (zD.refl _)
 | false=>
  refine ⟨_,rfl,s,10,rfl,s5,by decide,by decide,fun al as H6 _ e6 l6 g6 _ k6 _=>?_⟩
  have l10:as.length=10:=l6
  exact fin false al as H6 e6 (fun e=>by rw [e] at l10;simp at l10) (by omega) g6 k6
end
abbrev sAS:Stmt:=top 44
theorem tW {α β:Type} [DecidableEq β] (f:α->β):∀ {l:List α} {x:α},(l.map f).Nodup->x ∈ l->(l.filter fun r=>decide (f r=f x))=[x]
 | [],_,_,h=>nomatch h
 | a :: l,x,nd,h=>by
  rw [List.map_cons] at nd
  obtain ⟨n1,n2⟩:=List.nodup_cons.mp nd
  rcases List.mem_cons.mp h with q | q
  ·subst q
   rw [List.filter_cons,if_pos (by simp),List.filter_eq_nil_iff.mpr fun r hr e=>n1 (List.mem_map.mpr ⟨r,hr,of_decide_eq_true e⟩)]
  ·have:f a ≠ f x:=fun e=>n1 (List.mem_map.mpr ⟨x,q,e.symm⟩)
   rw [List.filter_cons,if_neg (by simpa using this),tW f n2 q]
def vI (Y:Addr->Prop) (CS:Addr) (H:Hp) (se:Addr) (us:List (Addr × Addr)) (ss:List SS):Prop:=H se=some (.lst (us.map fun y=>V.ref y.1))/\(Y se/\∀ y ∈ us,Y y.1/\Y y.2)/\((∀ y ∈ us,y.2 ≠ se)/\us.Pairwise fun a b=>a.1 ≠ b.1/\a.2 ≠ b.2)/\us.length=ss.length/\∀ (i:Nat) (y:Addr × Addr) (s:SS),us[i]?=some y->ss[i]?=some s->zZ CS H y.1 y.2 s
section
variable {Y:Addr->Prop} {CS:Addr} {H H':Hp} {se:Addr} {us:List (Addr × Addr)} {ss:List SS}
theorem vI.on (h:vI Y CS H se us ss) (k:zD [] H H'):vI Y CS H' se us ss:=by
 obtain ⟨h1,h2,h3,h4,h5⟩:=h
 exact ⟨k _ _ (by simp) h1,h2,h3,h4,fun i y s e1 e2=>(h5 i y s e1 e2).keep k⟩
theorem vI.keep {S:List Addr} (h:vI Y CS H se us ss) (k:zD S H H') (hS:∀ b ∈ S,¬ Y b/\∀ xs,H b ≠ some (.tup xs)):vI Y CS H' se us ss:=by
 obtain ⟨h1,h2,h3,h4,h5⟩:=h
 have far:∀ {u:Addr},Y u->u ∉ S:=fun hy hm=>(hS _ hm).1 hy
 exact ⟨k _ _ (far h2.1) h1,h2,h3,h4,fun i y s e1 e2=>(h5 i y s e1 e2).keepS k (far (h2.2 y (zGL e1)).1) (far (h2.2 y (zGL e1)).2) fun b hb=>(hS b hb).2⟩
theorem vI.seat {i:Nat} {y:Addr × Addr} {s':SS} (h:vI Y CS H se us ss) (ey:us[i]?=some y) (k:zD [y.1,y.2] H H') (D:zZ CS H' y.1 y.2 s'):vI Y CS H' se us (ss.set i s'):=by
 obtain ⟨h1,h2,h3,h4,h5⟩:=h
 have il:i < ss.length:=by rw [<- h4];exact (zGJ.mp ey).1
 obtain ⟨⟨dy,hob⟩,⟨ps,hwl,_⟩,_⟩:=h5 i y _ ey (zGI il)
 have n1:se ≠ y.1:=xR h1 hob (by intro z;cases z)
 have n2:se ≠ y.2:=Ne.symm (h3.1 y (zGL ey))
 refine ⟨k _ _ (by simp [n1,n2]) h1,h2,h3,by rw [zHI];exact h4,fun j x t ex et=>?_⟩
 by_cases e:j=i
 ·subst e
  rw [ex] at ey
  cases ey
  rw [zHE il] at et
  cases et
  exact D
 ·rw [zHD (Ne.symm e)] at et
  have dj:=h5 j x t ex et
  obtain ⟨m1,m2⟩:=eE h3.2 ex ey e
  obtain ⟨⟨dz,hoz⟩,⟨qs,hwz,_⟩,_⟩:=id dj
  exact dj.keepS k (by simp [m1,xR hoz hwl (by intro z;cases z)]) (by simp [m2,xR hwz hob (by intro z;cases z)]) (vD hob hwl)
theorem vI.at (h:vI Y CS H se us ss) {i:Nat} {s:SS} (es:ss[i]?=some s):∃ y,us[i]?=some y/\Y y.1/\Y y.2/\zZ CS H y.1 y.2 s:=by
 obtain ⟨h1,h2,h3,h4,h5⟩:=h
 have il:=(zGJ.mp es).1
 have e:us[i]?=some us[i]:=zGI (by omega)
 have m:=h2.2 _ (zGL e)
 exact ⟨_,e,m.1,m.2,h5 i _ s e es⟩
end
section
variable {P:Program} {w:World} {K:PySem.W.Frag} {mg:Str->Option Value} {base:Heap} {C CS:Addr}
theorem zCQ:zN ["_law_seats","_law_house","_law_deed","_law_right"] ["_law_seats","_law_house","_law_deed"] (zG sAS):=⟨rfl,rfl,rfl,by decide +kernel,rfl,by decide +kernel,by decide +kernel⟩
def zEQ (C CS:Addr):Sp:=fun vs H Q _=>∃ (Y B:Addr->Prop) (se p t:Addr) (us:List (Addr × Addr)) (nm:Str) (nb:List Str) (xs:List (Addr × Addr)) (ss:List SS) (k:Nat) (h:HD) (i:Nat) (s:SS) (d:DD),vs=[.ref se,.ref p,.ref t]/\vI Y CS H se us ss/\yA B C CS H p nm nb xs (ss.set i (zX (yQ s d)).1)/\vY k ss/\k < 60/\ss.length <= 100/\H t=some (.tup (hdV h))/\AtR nb ss h i s d /\
 ∀ (tp r:Addr) (y:Addr × Addr) (H':Hp),us[i]?=some y->vI Y CS H' se us (ss.set i (zX (yQ s d)).1)->Rows H' r (zX (yQ s d)).2->H' tp=some (.tup [.int (i:Int),.ref r])->H r=none->zD [y.1,y.2] H H'->Q (.ref tp) H'
theorem okAS (T:x3 K C) (TS:xY K CS) (G:y0 K mg "_law_at_seat" sAS ["_law_seats","_law_house","_law_deed"]) (MAs:yJ P w K mg base CX0 2 C "askers" ["self"] (jP C CS)) (MW:yJ P w K mg base CX0 3 CS "want" ["self","asker"] (lU CS)) (ML:yJ P w K mg base CX0 3 CS "leave" ["self","asker"] (oG CS)) (MD:yJ P w K mg base CX0 3 CS "done" ["self","asker"] (lX CS)) (MK:yJ P w K mg base CX0 3 CS "ask" ["self","house"] (fR CS)) (MCo:yJ P w K mg base CX0 3 CS "come" ["self","house","back"] (lY CS))
  (MR:yJ P w K mg base CX0 1 CS "row" ["self"] (jL CS)) (MI:yJ P w K mg base CX0 1 CS "inside" ["self"] (t5 CS)) (b_len:Blt mg "len") (b_range:Blt mg "range"):Cal P w K mg base CX0 4 "_law_at_seat" ["_law_seats","_law_house","_law_deed"] (zEQ C CS):=by
 refine G.ok zCQ (fun vs H Q E h=>by obtain ⟨Y,B,se,p,t,us,nm,nb,xs,ss,k,hx,i,s,dd,rfl,_⟩:=h;rfl) (fun f cdv A outer s0 H vs Q E hr h=>?_)
 obtain ⟨Y,B,se,p,t,us,nm,nb,xs,ss,k,hx,i,s,dd,rfl,hS,hh,I,hk,l100,ht,a,q⟩:=h
 have hr3:yB 3 _:=hr
 have hr2:yB 2 _:=hr.mono (by decide)
 have hr1:yB 1 _:=hr.mono (by decide)
 have hu:=v9 hr
 have J:=I.deed a
 have es:=a.here
 have il:=(zGJ.mp es).1
 have si:=I.si s (zGL es)
 have lr:s.row.length < 1000:=by have:=I.rl s (zGL es);omega
 obtain ⟨y,ey,_,_,S⟩:=hS.at es
 obtain ⟨dy,hob⟩:=S.ob
 have hse:=hS.1
 have fin:∀ {H1 H2:Hp} {r:Addr},zD [] H H1->zZ CS H2 y.1 y.2 (zX (yQ s dd)).1->Rows H2 r (zX (yQ s dd)).2->H1 r=none->zD [y.1,y.2] H1 H2->∀ tp,H2 tp=none->Q (.ref tp) (upd H2 tp (.tup [.int (i:Int),.ref r])):=fun {H1 H2 r} k1 S2 R2 n2 k2 tp htp=>by
  have k3:zD [] H2 (upd H2 tp (.tup [.int (i:Int),.ref r])):=zD.new htp
  exact q tp r y _ ey (((hS.on k1).seat ey k2 S2).on k3) (R2.keep k3) zB (k1.none (by simp) n2) (((k1.mono (by simp)).trans k2).trans (k3.mono (by simp)))
 refine ⟨_,(zE (yC (zS xO (zU zY (pv 2) zI (fun _ _=>rfl)) zO (zV _)) (zF (zL (yD (zA (zU zY (pv 2) zI (fun _ _=>rfl)) (zA (xI MK TS.cl hr3 (zU zW (pv 0) (zU zY (pv 2) zI (fun _ _=>rfl)) (fun _ _=>rfl)) (zA (zU zY (pv 2) zI (fun _ _=>rfl)) zC)) zC))))) zT)
   (zE (yC (zS xO (zU zY (pv 2) zI (fun _ _=>rfl)) zO (zV _)) (zF (zL (yD (zA (zU zY (pv 2) zI (fun _ _=>rfl)) (zA (xI MCo TS.cl hr3 (zU zW (pv 0) (zU zY (pv 2) zI (fun _ _=>rfl)) (fun _ _=>rfl)) (zA (zU zY (pv 2) zI (fun _ _=>rfl)) (zA (zU zY (pv 2) zI (fun _ _=>rfl)) zC))) zC))))) zT)
   (zE (yC (zS xO (zU zY (pv 2) zI (fun _ _=>rfl)) zO (zV _)) (zE (yF (i:=3) zCQ.nd rfl (Or.inl rfl) (zU zW (yU tS (vT (N:=["_law_seats","_law_house","_law_deed","_law_right"]) (sc:=zG sAS) (ix:=[2]) (by decide +kernel) (xN (yR MAs T.cl hr2 (pv 1))) (fun _ _ _ _=>(oW (zS xO (zU zY (pv 0) zI (fun _ _=>rfl)) (zU zY (pv 1) zI (fun _ _=>rfl)) (zV _)))) (fun _ _ _ _=>(zU zY (pv 0) zI (fun _ _=>rfl)))) (yZ (zA yY zC))) zI (fun _ _=>rfl)))
   (zE (yC (zS vK (pv 3) yY (zV _)) (zF (zL (yD (zA yY (zA (yZ zC) zC))))) zT)
   (zF (zL (yD (zA (pv 3) (zA (xI MW TS.cl hr3 (zU zW (pv 0) (pv 3) (fun _ _=>rfl)) (zA (zU zY (pv 2) zI (fun _ _=>rfl)) zC)) zC))))))) zT)
   (zE (uH PassesOwn.never rfl (wR rfl b_range.no (zA (yE yK b_len xB (zA (pv 0) zC)) zC)) (yH (i:=3) zCQ.nd rfl (Or.inl rfl)) (zE (yC (PW.pt (qK (zS xO (zU zY (pv 2) zI (fun _ _=>rfl)) zO (zV _)) (t9 (zS (oY hu) (yD (zA zO (zA (zU zY (pv 2) zI (fun _ _=>rfl)) zC))) (yR MR TS.cl hr1 (zU zW (pv 0) (pv 3) (fun _ _=>rfl))) (by with_unfolding_all rfl))))) (zF (zL (yD (zA (pv 3) (zA (xI ML TS.cl hr3 (zU zW (pv 0) (pv 3) (fun _ _=>rfl)) (zA (zU zY (pv 2) zI (fun _ _=>rfl)) zC)) zC))))) zT)
   (zF (yC (PW.pt (qK (zS xO (zU zY (pv 2) zI (fun _ _=>rfl)) zO (zV _)) (t9 (zS xO (yR MI TS.cl hr1 (zU zW (pv 0) (pv 3) (fun _ _=>rfl))) (zU zY (pv 2) zI (fun _ _=>rfl)) (zV _))))) (zF (zL (yD (zA (pv 3) (zA (xI MD TS.cl hr3 (zU zW (pv 0) (pv 3) (fun _ _=>rfl)) (zA (zU zY (pv 2) zI (fun _ _=>rfl)) zC)) zC))))) zT))))
   (zF (zL (yD (zA yY (zA (yZ zC) zC))))))))),?_⟩
 cases a with
 | @ask z _ _ _ hz gz n1 n2=>
  refine ⟨_,rfl,t,_,0,_,rfl,rfl,ht,at0 _ _,rfl,_,rfl,ifT (by decide +kernel) ?_⟩
  refine ⟨_,rfl,t,_,2,_,rfl,rfl,ht,at2 _ _ _ _,_,rfl,_,rfl,t,_,2,_,rfl,rfl,ht,at2 _ _ _ _,se,_,i,_,rfl,rfl,hse,xX ey,y.1,dy,_,rfl,hob,cM _ _ _ _,_,rfl,t,_,1,_,rfl,rfl,ht,at1 _ _ _,y.1,y.2,s,z,rfl,S,gz.1,zGS gz.2 (by decide),n1,n2,lr,fun r H2 S2 R2 nr k2=>⟨by show 2 <= sizeLine;decide,fin (zD.refl _) S2 R2 nr k2⟩⟩
 | @come z _ _ b _ hz hp=>
  refine ⟨_,rfl,t,_,0,_,rfl,rfl,ht,at0 _ _,rfl,_,rfl,ifF (by decide +kernel) ?_⟩
  refine ⟨_,rfl,t,_,0,_,rfl,rfl,ht,at0 _ _,rfl,_,rfl,ifT (by decide +kernel) ?_⟩
  have gz:=si.p _ hp
  refine ⟨_,rfl,t,_,2,_,rfl,rfl,ht,at2 _ _ _ _,_,rfl,_,rfl,t,_,2,_,rfl,rfl,ht,at2 _ _ _ _,se,_,i,_,rfl,rfl,hse,xX ey,y.1,dy,_,rfl,hob,zBX _ _ _ _,_,rfl,t,_,1,_,rfl,rfl,ht,at1 _ _ _,_,rfl,t,_,3,_,rfl,rfl,ht,at3 _ _ _ _ _,y.1,y.2,s,z,b,rfl,S,gz.1,zGS gz.2 (by decide),hp,lr,fun r H2 S2 R2 nr k2=>⟨by show 2 <= sizeLine;decide,fin (zD.refl _) S2 R2 nr k2⟩⟩
 | @any z _ _ _ eb gz nz=>
  refine ⟨_,rfl,t,_,0,_,rfl,rfl,ht,at0 _ _,rfl,_,rfl,ifF (by decide +kernel) ?_⟩
  refine ⟨_,rfl,t,_,0,_,rfl,rfl,ht,at0 _ _,rfl,_,rfl,ifF (by decide +kernel) ?_⟩
  refine ⟨_,rfl,t,_,0,_,rfl,rfl,ht,at0 _ _,rfl,_,rfl,ifT (by decide +kernel) ?_⟩
  have zn:(∃ b,(z,b) ∈ w6 (zX (yQ s (.want z))).1):=by
   have mem:z ∈ wN (zX (yQ s (.want z))).1:=by
    rw [qN]
    exact xD.mpr (.inr (zGY.mpr (.inr (zGK.mpr rfl))))
   obtain ⟨x,hx,e⟩:=List.mem_map.mp mem
   exact ⟨x.2,by have e2:x=(z,x.2):=Prod.ext e rfl;rw [<- e2];exact hx⟩
  obtain ⟨b0,hb0⟩:=zn
  have ei:(ss.set i (zX (yQ s (.want z))).1)[i]?=some (zX (yQ s (.want z))).1:=zHE il
  obtain ⟨dx,nl,sl,_,hp,_⟩:=id hh
  refine ⟨_,rfl,p,dx,_,rfl,hp,iG _ _ _,B,p,nm,nb,xs,_,rfl,hh,J.nd,(by have:=J.ln;omega),fun l rs H1 pm asc R hl k1=>?_⟩
  obtain ⟨ps,e1,pr⟩:=R
  have lp:=zP pr
  have lrs:rs.length=(y8 (ss.set i (zX (yQ s (.want z))).1)).length:=by rw [pm.length_eq,<- yX _ 0,zGH]
  have lJ:=J.ln
  rw [zGH] at lp
  have hr0:(z,[V.int (i:Int),V.bl b0]) ∈ rs:=pm.mem_iff.mpr (wU.mpr ⟨i,_,b0,ei,hb0,by rw [Nat.zero_add]⟩)
  have one:=tW (·.1) (by rw [(pm.map (·.1)).nodup_iff,yX];exact J.nd) hr0
  have ht1:=k1 _ _ (by simp) ht
  refine ⟨l,rfl,⟨_,.of e1⟩,fun acc hacc=>?_⟩
  have la:∀ {u:Addr} {o:HO},H1 u=some o->u ≠ acc:=fun hu=>zH hu hacc
  refine r9 (K:=K) (a:=l) (its:=ps.map V.ref) (by rw [zGH,sizeLine_eq];omega) (fun j zs τ H'=>∃ kk:Option V,τ=[kk,some (.ref t)]/\zs=((rs.take j).filter fun r=>decide (r.1=z)).map (fun r=>r.2.headD .non)/\j <= rs.length/\zD [acc] H1 H'/\H' acc=some (.lst zs)) ⟨_,rfl,rfl,zGR _,zD.at (by simp),zB⟩ ?_ ?_ ?_
  ·rintro j zs τ H' ⟨kk,rfl,rfl,jl,kp,h'⟩
   refine ⟨h',?_,.of (kp _ _ (by simp [la e1]) e1)⟩
   rw [zGH]
   exact zGS (zHF _ _) (by rw [zG0];omega)
  ·rintro j zs τ H' x hx ⟨kk,rfl,rfl,jl,kp,h'⟩
   rw [zGN] at hx
   cases ez:ps[j]? with
   | none=>rw [ez] at hx;cases hx
   | some v=>
   rw [ez] at hx
   have ex:V.ref v=x:=zGO hx
   subst ex
   obtain ⟨rr,er,hv⟩:=xJ pr _ v ez
   rw [zGN] at er
   cases e2:rs[j]? with
   | none=>rw [e2] at er;cases er
   | some r=>
   rw [e2] at er
   have er':nmV r=rr:=zGO er
   subst er'
   have jl2:=(zGJ.mp e2).1
   obtain ⟨k',_,b',_,_,e3⟩:=wU.mp (pm.mem_iff.mp (zGL e2))
   have hv':H' v=some (.tup [.str r.1,.int ((0 + k':Nat):Int),.bl b']):=by
    have:=kp _ _ (by simp [la hv]) hv
    unfold nmV at this
    rw [e3] at this
    exact this
   have ht':=kp _ _ (by simp [la ht1]) ht1
   refine ⟨_,rfl,v,_,0,_,rfl,rfl,hv',at0 _ _,_,rfl,t,_,1,_,rfl,rfl,ht',at1 _ _ _,rfl,_,rfl,?_⟩
   by_cases q1:r.1=z
   ·refine ifT (zGW (by rw [q1])) ⟨_,rfl,v,_,1,_,rfl,rfl,hv',at1 _ _ _,h',_,rfl,?_,jl2,kp.trans (zD.at (by simp)),zB⟩
    rw [xQ e2,List.filter_append,zGT]
    simp [q1,e3]
   ·refine ifF (zGX fun e=>q1 (by injection e)) ⟨_,rfl,?_,jl2,kp,h'⟩
    rw [xQ e2,List.filter_append,zGT]
    simp [q1]
  ·rintro zs τ H5 ⟨kk,rfl,rfl,_,kp,h5⟩
   rw [zGH,lp,zHH,one] at h5
   have k15:zD [] H1 H5:=kp.drop hacc
   refine ⟨by show 1 <= sizeLine;decide,fun em hem=>⟨acc,em,_,_,rfl,rfl,(zD.new (S:=[]) hem) _ _ (by simp) h5,zB,by show 1 + 1 <= sizeLine;decide,fun l2 hl2=>⟨l2,_,0,_,rfl,rfl,zB,rfl,?_⟩⟩⟩
   have k6:zD [] H5 (upd (upd H5 em (.lst [.non])) l2 (.lst ([V.int (i:Int)] ++ [.non]))):=(zD.new hem).trans (zD.new hl2)
   have k06:=k1.trans (k15.trans k6)
   refine ⟨_,rfl,rfl,_,rfl,ifF rfl ?_⟩
   have S6:=S.keep k06
   have ht6:=k06 _ _ (by simp) ht
   refine ⟨_,rfl,_,rfl,_,rfl,se,_,i,_,rfl,rfl,k06 _ _ (by simp) hse,xX ey,y.1,dy,_,rfl,k06 _ _ (by simp) hob,iH _ _ _ _,_,rfl,t,_,1,_,rfl,rfl,ht6,at1 _ _ _,y.1,y.2,s,z,rfl,S6,gz.1,zGS gz.2 (by decide),(fun e=>nz (wB.mpr ⟨i,s,es,xD.mpr (.inl e)⟩)),(fun e=>nz (wB.mpr ⟨i,s,es,xD.mpr (.inr e)⟩)),lr,fun r H2 S2 R2 nr k2=>⟨by show 2 <= sizeLine;decide,fin k06 S2 R2 nr k2⟩⟩
 | @want z _ _ _ gz nz=>
  refine ⟨_,rfl,t,_,0,_,rfl,rfl,ht,at0 _ _,rfl,_,rfl,ifF (by decide +kernel) ?_⟩
  refine ⟨_,rfl,t,_,0,_,rfl,rfl,ht,at0 _ _,rfl,_,rfl,ifF (by decide +kernel) ?_⟩
  refine ⟨_,rfl,t,_,0,_,rfl,rfl,ht,at0 _ _,rfl,_,rfl,ifT (by decide +kernel) ?_⟩
  have zn:(∃ b,(z,b) ∈ w6 (zX (yQ s (.want z))).1):=by
   have mem:z ∈ wN (zX (yQ s (.want z))).1:=by
    rw [qN]
    exact xD.mpr (.inr (zGY.mpr (.inr (zGK.mpr rfl))))
   obtain ⟨x,hx,e⟩:=List.mem_map.mp mem
   exact ⟨x.2,by have e2:x=(z,x.2):=Prod.ext e rfl;rw [<- e2];exact hx⟩
  obtain ⟨b0,hb0⟩:=zn
  have ei:(ss.set i (zX (yQ s (.want z))).1)[i]?=some (zX (yQ s (.want z))).1:=zHE il
  obtain ⟨dx,nl,sl,_,hp,_⟩:=id hh
  refine ⟨_,rfl,p,dx,_,rfl,hp,iG _ _ _,B,p,nm,nb,xs,_,rfl,hh,J.nd,(by have:=J.ln;omega),fun l rs H1 pm asc R hl k1=>?_⟩
  obtain ⟨ps,e1,pr⟩:=R
  have lp:=zP pr
  have lrs:rs.length=(y8 (ss.set i (zX (yQ s (.want z))).1)).length:=by rw [pm.length_eq,<- yX _ 0,zGH]
  have lJ:=J.ln
  rw [zGH] at lp
  have hr0:(z,[V.int (i:Int),V.bl b0]) ∈ rs:=pm.mem_iff.mpr (wU.mpr ⟨i,_,b0,ei,hb0,by rw [Nat.zero_add]⟩)
  have one:=tW (·.1) (by rw [(pm.map (·.1)).nodup_iff,yX];exact J.nd) hr0
  have ht1:=k1 _ _ (by simp) ht
  refine ⟨l,rfl,⟨_,.of e1⟩,fun acc hacc=>?_⟩
  have la:∀ {u:Addr} {o:HO},H1 u=some o->u ≠ acc:=fun hu=>zH hu hacc
  refine r9 (K:=K) (a:=l) (its:=ps.map V.ref) (by rw [zGH,sizeLine_eq];omega) (fun j zs τ H'=>∃ kk:Option V,τ=[kk,some (.ref t)]/\zs=((rs.take j).filter fun r=>decide (r.1=z)).map (fun r=>r.2.headD .non)/\j <= rs.length/\zD [acc] H1 H'/\H' acc=some (.lst zs)) ⟨_,rfl,rfl,zGR _,zD.at (by simp),zB⟩ ?_ ?_ ?_
  ·rintro j zs τ H' ⟨kk,rfl,rfl,jl,kp,h'⟩
   refine ⟨h',?_,.of (kp _ _ (by simp [la e1]) e1)⟩
   rw [zGH]
   exact zGS (zHF _ _) (by rw [zG0];omega)
  ·rintro j zs τ H' x hx ⟨kk,rfl,rfl,jl,kp,h'⟩
   rw [zGN] at hx
   cases ez:ps[j]? with
   | none=>rw [ez] at hx;cases hx
   | some v=>
   rw [ez] at hx
   have ex:V.ref v=x:=zGO hx
   subst ex
   obtain ⟨rr,er,hv⟩:=xJ pr _ v ez
   rw [zGN] at er
   cases e2:rs[j]? with
   | none=>rw [e2] at er;cases er
   | some r=>
   rw [e2] at er
   have er':nmV r=rr:=zGO er
   subst er'
   have jl2:=(zGJ.mp e2).1
   obtain ⟨k',_,b',_,_,e3⟩:=wU.mp (pm.mem_iff.mp (zGL e2))
   have hv':H' v=some (.tup [.str r.1,.int ((0 + k':Nat):Int),.bl b']):=by
    have:=kp _ _ (by simp [la hv]) hv
    unfold nmV at this
    rw [e3] at this
    exact this
   have ht':=kp _ _ (by simp [la ht1]) ht1
   refine ⟨_,rfl,v,_,0,_,rfl,rfl,hv',at0 _ _,_,rfl,t,_,1,_,rfl,rfl,ht',at1 _ _ _,rfl,_,rfl,?_⟩
   by_cases q1:r.1=z
   ·refine ifT (zGW (by rw [q1])) ⟨_,rfl,v,_,1,_,rfl,rfl,hv',at1 _ _ _,h',_,rfl,?_,jl2,kp.trans (zD.at (by simp)),zB⟩
    rw [xQ e2,List.filter_append,zGT]
    simp [q1,e3]
   ·refine ifF (zGX fun e=>q1 (by injection e)) ⟨_,rfl,?_,jl2,kp,h'⟩
    rw [xQ e2,List.filter_append,zGT]
    simp [q1]
  ·rintro zs τ H5 ⟨kk,rfl,rfl,_,kp,h5⟩
   rw [zGH,lp,zHH,one] at h5
   have k15:zD [] H1 H5:=kp.drop hacc
   refine ⟨by show 1 <= sizeLine;decide,fun em hem=>⟨acc,em,_,_,rfl,rfl,(zD.new (S:=[]) hem) _ _ (by simp) h5,zB,by show 1 + 1 <= sizeLine;decide,fun l2 hl2=>⟨l2,_,0,_,rfl,rfl,zB,rfl,?_⟩⟩⟩
   have k6:zD [] H5 (upd (upd H5 em (.lst [.non])) l2 (.lst ([V.int (i:Int)] ++ [.non]))):=(zD.new hem).trans (zD.new hl2)
   have k06:=k1.trans (k15.trans k6)
   refine ⟨_,rfl,rfl,_,rfl,ifF rfl ?_⟩
   have S6:=S.keep k06
   have ht6:=k06 _ _ (by simp) ht
   refine ⟨_,rfl,_,rfl,_,rfl,se,_,i,_,rfl,rfl,k06 _ _ (by simp) hse,xX ey,y.1,dy,_,rfl,k06 _ _ (by simp) hob,iH _ _ _ _,_,rfl,t,_,1,_,rfl,rfl,ht6,at1 _ _ _,y.1,y.2,s,z,rfl,S6,gz.1,zGS gz.2 (by decide),(fun e=>nz (wB.mpr ⟨i,s,es,xD.mpr (.inl e)⟩)),(fun e=>nz (wB.mpr ⟨i,s,es,xD.mpr (.inr e)⟩)),lr,fun r H2 S2 R2 nr k2=>⟨by show 2 <= sizeLine;decide,fin k06 S2 R2 nr k2⟩⟩
 | @leave z _ _ _ hm=>
  refine ⟨_,rfl,t,_,0,_,rfl,rfl,ht,at0 _ _,rfl,_,rfl,ifF (by decide +kernel) ?_⟩
  refine ⟨_,rfl,t,_,0,_,rfl,rfl,ht,at0 _ _,rfl,_,rfl,ifF (by decide +kernel) ?_⟩
  refine ⟨_,rfl,t,_,0,_,rfl,rfl,ht,at0 _ _,rfl,_,rfl,ifF (by decide +kernel) ?_⟩
  have zn:z ∈ wN s:=xD.mpr (.inr hm)
  refine ⟨_,rfl,_,_,rfl,.inl ⟨_,.of hse,rfl⟩,_,rfl,by rw [zGH,hS.2.2.2.1];omega,by rw [zGH,hS.2.2.2.1];omega,vR (fun j σ H'=>∃ v3:Option V,σ=[some (.ref se),some (.ref p),some (.ref t),v3]/\zD [] H H'/\j <= i) ⟨_,rfl,zD.refl _,zGR _⟩ ?_ ?_⟩
  ·rintro j σ H1 hj ⟨v3,rfl,k1,ji⟩
   have ej:(0:Int) + (j:Int)=(j:Int):=by omega
   have esj:ss[j]?=some ss[j]:=zGI (by omega)
   generalize ss[j]=sj at esj
   obtain ⟨yj,eyj,_,_,Sj⟩:=(hS.on k1).at esj
   obtain ⟨dj,hoj⟩:=Sj.ob
   have ht1:=k1 _ _ (by simp) ht
   have hse1:=k1 _ _ (by simp) hse
   have atj:atI (us.map fun x=>V.ref x.1) ((0:Int) + (j:Int))=some (.ref yj.1):=by rw [ej];exact xX eyj
   refine ⟨_,rfl,t,_,0,_,rfl,rfl,ht1,at0 _ _,rfl,_,rfl,ifT (by decide +kernel) ?_⟩
   refine ⟨_,rfl,t,_,1,_,rfl,rfl,ht1,at1 _ _ _,by show 2 <= sizeLine;decide,fun tp htp=>?_⟩
   have k2:zD [] H1 (upd H1 tp (.tup [.str "asker",.str z])):=zD.new htp
   have e2:upd H1 tp (.tup [.str "asker",.str z]) tp=some (.tup [.str "asker",.str z]):=zB
   generalize upd H1 tp (.tup [.str "asker",.str z])=H2 at k2 e2 ⊢
   refine ⟨_,rfl,_,rfl,se,_,_,_,rfl,rfl,k2 _ _ (by simp) hse1,atj,yj.1,dj,_,rfl,k2 _ _ (by simp) hoj,iI _ _ _ _,yj.1,yj.2,sj,rfl,Sj.keep k2,fun r H3 hr3' hR k3=>?_⟩
   refine ⟨r,tp,_,_,rfl,rfl,hR,k3 _ _ (by simp) e2,rfl,?_,_,rfl,?_⟩
   ·intro x hx
    obtain ⟨w',_,rfl⟩:=List.mem_map.mp hx
    rfl
   have k03:=k1.trans (k2.trans k3)
   have ht3:=k03 _ _ (by simp) ht
   by_cases e:j=i
   ·subst e
    rw [esj] at es
    cases es
    rw [eyj] at ey
    cases ey
    refine ifT (by show ((s.row.map yT).any fun r=>eqT r (yT (y9 z)))=true;rw [uT];exact zGW hm) ?_
    have gz:xE z:=(si.r _ hm).2
    obtain ⟨m,hm1,hno⟩:=uQ s.row (y9 z) hm
    have ef:yQ s (.leave z) = { s with row:=s.row.eraseIdx m }:=by
     show { s with row:=s.row.filter fun x=>decide (x ≠ y9 z) }=_
     rw [vP s.row (y9 z) m hm1 hno (si.u z)]
    refine ⟨_,rfl,_,rfl,_,rfl,se,_,_,_,rfl,rfl,k03 _ _ (by simp) hse,atj,y.1,dy,_,rfl,k03 _ _ (by simp) hob,zBV _ _ _ _,_,rfl,t,_,1,_,rfl,rfl,ht3,at1 _ _ _,y.1,y.2,s,z,m,rfl,S.keep k03,gz.1,zGS gz.2 (by decide),hm1,hno,?_⟩
    rw [<- ef,ej]
    exact fun r H2 S2 R2 nr k2=>⟨by show 2 <= sizeLine;decide,fin k03 S2 R2 nr k2⟩
   ·refine ifF (by
     show ((sj.row.map yT).any fun r=>eqT r (yT (y9 z)))=false
     rw [uT]
     exact zGX fun h=>e (u3 I.nd esj es (xD.mpr (.inr h)) zn)) ?_
    refine ⟨_,rfl,t,_,0,_,rfl,rfl,ht3,at0 _ _,rfl,_,rfl,ifF (by decide +kernel) (ifF rfl ?_)⟩
    exact ⟨_,rfl,k03,by omega⟩
  ·rintro σ H1 ⟨v3,rfl,_,ji⟩
   rw [zGH,Int.toNat_natCast,hS.2.2.2.1] at ji
   omega
 | @done z _ _ _ hm=>
  refine ⟨_,rfl,t,_,0,_,rfl,rfl,ht,at0 _ _,rfl,_,rfl,ifF (by decide +kernel) ?_⟩
  refine ⟨_,rfl,t,_,0,_,rfl,rfl,ht,at0 _ _,rfl,_,rfl,ifF (by decide +kernel) ?_⟩
  refine ⟨_,rfl,t,_,0,_,rfl,rfl,ht,at0 _ _,rfl,_,rfl,ifF (by decide +kernel) ?_⟩
  have zn:z ∈ wN s:=xD.mpr (.inl hm)
  refine ⟨_,rfl,_,_,rfl,.inl ⟨_,.of hse,rfl⟩,_,rfl,by rw [zGH,hS.2.2.2.1];omega,by rw [zGH,hS.2.2.2.1];omega,vR (fun j σ H'=>∃ v3:Option V,σ=[some (.ref se),some (.ref p),some (.ref t),v3]/\zD [] H H'/\j <= i) ⟨_,rfl,zD.refl _,zGR _⟩ ?_ ?_⟩
  ·rintro j σ H1 hj ⟨v3,rfl,k1,ji⟩
   have ej:(0:Int) + (j:Int)=(j:Int):=by omega
   have esj:ss[j]?=some ss[j]:=zGI (by omega)
   generalize ss[j]=sj at esj
   obtain ⟨yj,eyj,_,_,Sj⟩:=(hS.on k1).at esj
   obtain ⟨dj,hoj⟩:=Sj.ob
   have ht1:=k1 _ _ (by simp) ht
   have hse1:=k1 _ _ (by simp) hse
   have atj:atI (us.map fun x=>V.ref x.1) ((0:Int) + (j:Int))=some (.ref yj.1):=by rw [ej];exact xX eyj
   refine ⟨_,rfl,t,_,0,_,rfl,rfl,ht1,at0 _ _,rfl,_,rfl,ifF (by decide +kernel) (ifF rfl ?_)⟩
   refine ⟨_,rfl,t,_,0,_,rfl,rfl,ht1,at0 _ _,rfl,_,rfl,ifT (by decide +kernel) ?_⟩
   refine ⟨_,rfl,_,rfl,se,_,_,_,rfl,rfl,hse1,atj,yj.1,dj,_,rfl,hoj,m8 _ _ _ _,yj.1,yj.2,sj,rfl,Sj,_,rfl,t,_,1,_,rfl,rfl,ht1,at1 _ _ _,by cases sj.hold <;> rfl,_,rfl,?_⟩
   by_cases e:j=i
   ·subst e
    rw [esj] at es
    cases es
    rw [eyj] at ey
    cases ey
    refine ifT (zGW (by rw [hm];rfl)) ?_
    have gz:xE z:=si.h _ hm
    refine ⟨_,rfl,_,rfl,_,rfl,se,_,_,_,rfl,rfl,hse1,atj,y.1,dj,_,rfl,hoj,zBW _ _ _ _,_,rfl,t,_,1,_,rfl,rfl,ht1,at1 _ _ _,y.1,y.2,s,z,rfl,Sj,gz.1,zGS gz.2 (by decide),hm,?_⟩
    rw [ej]
    exact fun r H2 S2 R2 nr k2=>⟨by show 2 <= sizeLine;decide,fin k1 S2 R2 nr k2⟩
   ·refine ifF (zGX fun q1=>?_) ?_
    ·cases eh:sj.hold with
     | none=>rw [eh] at q1;cases q1
     | some v=>
      rw [eh] at q1
      have q1:V.str v=V.str z:=q1
      injection q1 with q1
      subst q1
      exact e (u3 I.nd esj es (xD.mpr (.inl eh)) zn)
    ·exact ⟨_,rfl,k1,by omega⟩
  ·rintro σ H1 ⟨v3,rfl,_,ji⟩
   rw [zGH,Int.toNat_natCast,hS.2.2.2.1] at ji
   omega
end
abbrev sSB:Stmt:=top 45
theorem gY (s:SS) (j:Nat):((w6 s).map (fun a=>(a.1,[V.int (j:Int),V.bl a.2]))).Perm ((((s.row.filter fun r=>decide (r.1=("asker" : Str))).map fun r=>(r.2,[V.int (j:Int),V.bl true])) ++ (match s.hold with | some z=>[(z,[V.int (j:Int),V.bl false])] | none=>[])):List (Str × List V)):=by
 unfold w6
 rw [zGT,zG1]
 refine List.perm_append_comm.trans (List.Perm.of_eq ?_)
 congr 1
 cases s.hold <;> rfl
theorem gX {ss:List SS} {j:Nat} {s:SS} (h:ss[j]?=some s):wC 0 (ss.take (j + 1))=wC 0 (ss.take j) ++ (w6 s).map (fun a=>(a.1,[V.int (j:Int),V.bl a.2])):=by
 have il:=(zGJ.mp h).1
 rw [xQ h,rB,zG0,Nat.min_eq_left (Nat.le_of_lt il),Nat.zero_add]
theorem gZ {ss:List SS} {rs:List (Str × List V)} (p:rs.Perm (wC 0 ss)):∀ r ∈ rs.map nmV,r.all y1=true/\r.length <= 2000:=fun r hr=>by
 obtain ⟨q,hq,rfl⟩:=List.mem_map.mp hr
 obtain ⟨k,s,b,_,_,e⟩:=wU.mp (p.mem_iff.mp hq)
 unfold nmV
 rw [e]
 exact ⟨rfl,by show 3 <= 2000;decide⟩
theorem lO {ss:List SS} {rs:List (Str × List V)} (p:rs.Perm (wC 0 ss)):rs.length=(y8 ss).length:=by
 rw [p.length_eq,<- yX ss 0,zGH]
theorem lQ:∀ {a b:List (Str × List V)},a.Perm b->(a.map (·.1)).Nodup->Asc ltN a->Asc ltN b->a=b
 | [],b,p,_,_,_=>List.Perm.nil_eq p
 | x :: a,[],p,_,_,_=>absurd p.length_eq (by simp)
 | x :: a,y :: b,p,nd,h,h'=>by
  obtain ⟨a1,a2⟩:=List.pairwise_cons.mp h
  obtain ⟨b1,b2⟩:=List.pairwise_cons.mp h'
  rw [List.map_cons] at nd
  obtain ⟨n1,n2⟩:=List.nodup_cons.mp nd
  have e:x=y:=by
   rcases List.mem_cons.mp (p.mem_iff.mp (zHA (a:=x) (l:=a))) with e | hx
   ·exact e
   ·rcases List.mem_cons.mp (p.mem_iff.mpr (zHA (a:=y) (l:=b))) with e | hy
    ·exact e.symm
    ·exact absurd (List.mem_map.mpr ⟨y,hy,(zAL (b1 x hx) (a1 y hy)).symm⟩) n1
  subst e
  rw [lQ (List.Perm.cons_inv p) n2 a2 b2]
theorem cJ {H:Hp} {t u r1 r2:Addr} {s:SS} (l:s.row.length <= 1000) (a1:H t=some (.lst [z4 s.ptr,.ref r1,z4 s.hold,.bl s.asked])) (a2:Rows H r1 (s.row.map yT)) (b1:H u=some (.lst [z4 s.ptr,.ref r2,z4 s.hold,.bl s.asked])) (b2:Rows H r2 (s.row.map yT)):Alk H 3 (.ref t) (.ref u):=by
 obtain ⟨c1,c2⟩:=aH s.row (by omega)
 exact .inr ⟨t,u,_,_,rfl,rfl,.inl ⟨a1,b1⟩,.cons (Alk.flat 2 (sT _)) (.cons (sL a2 b2 c1 c2) (.cons (Alk.flat 2 (sT _)) (.cons (Alk.flat 2 rfl) .nil))),by show 4 <= 2000;decide⟩
section
variable {P:Program} {w:World} {K:PySem.W.Frag} {mg:Str->Option Value} {base:Heap} {C CS:Addr}
theorem iV:zN ["_law_house","_law_seats","_law_askers","_law_right","_law_seat","_law_found"] ["_law_house","_law_seats"] (zG sSB):=⟨rfl,rfl,rfl,by decide +kernel,rfl,by decide +kernel,by decide +kernel⟩
def zEB (C CS:Addr):Sp:=fun vs H Q _=>∃ (Y B:Addr->Prop) (se p:Addr) (us:List (Addr × Addr)) (nm:Str) (nb:List Str) (xs:List (Addr × Addr)) (ss:List SS) (k:Nat),vs=[.ref p,.ref se]/\yA B C CS H p nm nb xs ss/\vI Y CS H se us ss/\vY k ss/\k <= 60/\ss.length <= 100/\∀ H',zD [] H H'->Q (.bl true) H'
theorem okSB (T:x3 K C) (TS:xY K CS) (G:y0 K mg "_law_side_by_side" sSB ["_law_house","_law_seats"]) (MAs:yJ P w K mg base CX0 2 C "askers" ["self"] (jP C CS)) (HA:yJ P w K mg base CX0 3 C "arrow" ["self","right"] (zBH C CS)) (HR:yJ P w K mg base CX0 3 C "row" ["self","right"] (zBE C CS)) (HI:yJ P w K mg base CX0 3 C "inside" ["self","right"] (zBF C CS)) (HHa:yJ P w K mg base CX0 3 C "has_asked" ["self","right"] (zBG C CS))
  (MA:yJ P w K mg base CX0 1 CS "arrow" ["self"] (rQ CS)) (MR:yJ P w K mg base CX0 1 CS "row" ["self"] (jL CS)) (MI:yJ P w K mg base CX0 1 CS "inside" ["self"] (t5 CS)) (MHa:yJ P w K mg base CX0 1 CS "has_asked" ["self"] (fP CS)) (CA:Cal P w K mg base CX0 5 "_law_alike" ["_law_found","_law_due"] (zCC 5)) (b_len:Blt mg "len") (b_range:Blt mg "range") (b_sorted:Blt mg "sorted"):Cal P w K mg base CX0 6 "_law_side_by_side" ["_law_house","_law_seats"] (zEB C CS):=by
 refine G.ok iV (fun vs H Q E h=>by obtain ⟨Y,B,se,p,us,nm,nb,xs,ss,k,rfl,_⟩:=h;rfl) (fun f cdv A outer s0 H vs Q E hr h=>?_)
 obtain ⟨Y,B,se,p,us,nm,nb,xs,ss,k,rfl,hh,hS,I,hk,l100,q⟩:=h
 have hr5:yB 5 _:=hr
 have hr3:yB 3 _:=hr.mono (by decide)
 have hr2:yB 2 _:=hr.mono (by decide)
 have hr1:yB 1 _:=hr.mono (by decide)
 have hu:=v9 hr
 have ln:=I.ln
 refine ⟨_,(zE (yF (i:=2) iV.nd rfl (Or.inl rfl) (yZ zC))
   (zE (uH PassesOwn.never rfl (wR rfl b_range.no (zA (yE yK b_len xB (zA (pv 1) zC)) zC)) (yH (i:=3) iV.nd rfl (Or.inr rfl)) (zE (yF (i:=4) iV.nd rfl (Or.inl rfl) (zU zW (pv 1) (pv 3) (fun _ _=>rfl)))
   (zE (yF (i:=5) iV.nd rfl (Or.inl rfl) (yZ (zA (xI HA T.cl hr3 (pv 0) (zA (pv 3) zC)) (zA (xI HR T.cl hr3 (pv 0) (zA (pv 3) zC)) (zA (xI HI T.cl hr3 (pv 0) (zA (pv 3) zC)) (zA (xI HHa T.cl hr3 (pv 0) (zA (pv 3) zC)) zC))))))
   (zE (yC (wA (xV (zQ CA hr5 (zA (pv 5) (zA (yZ (zA (yR MA TS.cl hr1 (pv 4)) (zA (yR MR TS.cl hr1 (pv 4)) (zA (yR MI TS.cl hr1 (pv 4)) (zA (yR MHa TS.cl hr1 (pv 4)) zC))))) zC))))) (zF (zL wT)) zT)
   (zE (yF (i:=2) iV.nd rfl (Or.inl rfl) (yU tS (pv 2) (eU (N:=["_law_house","_law_seats","_law_askers","_law_right","_law_seat","_law_found"]) (sc:=zG sSB) (ix:=[3]) (by decide +kernel) (xN (yR MR TS.cl hr1 (pv 4))) (fun _ _ _ _=>(oW (zS xO (pv 0) zO (zV _)))) (fun _ _ _ _=>(yD (zA (pv 1) (zA (pv 2) (zA wT zC))))))))
   (zF (yC (zS uL (yR MI TS.cl hr1 (pv 4)) yY (zV _)) (zF (yO (vL PySem.F.plainAttrs_list PySem.F.slot_list_append PySem.F.type_list_append xF (pv 2) (zA (yD (zA (yR MI TS.cl hr1 (pv 4)) (zA (pv 3) (zA wT zC)))) zC)))) zT)))))))
   (zF (zL (zQ CA hr5 (zA (yR MAs T.cl hr2 (pv 0)) (zA (yE sH b_sorted pX (zA (pv 2) zC)) zC))))))),?_⟩
 refine ⟨zGR _,fun a0 ha0=>?_⟩
 have k0:zD [] H (upd H a0 (.lst [])):=zD.new ha0
 have e0:upd H a0 (.lst []) a0=some (.lst []):=zB
 generalize upd H a0 (.lst [])=H0 at k0 e0 ⊢
 have hse0:=k0 _ _ (by simp) hS.1
 refine ⟨_,rfl,_,_,rfl,.inl ⟨_,.of hse0,rfl⟩,_,rfl,by rw [zGH,hS.2.2.2.1];omega,by rw [zGH,hS.2.2.2.1];omega,vR (fun j σ H'=>∃ (ak:Addr) (qs:List (Str × List V)) (v3 v4 v5:Option V),σ=[some (.ref p),some (.ref se),some (.ref ak),v3,v4,v5]/\Rows H' ak (qs.map nmV)/\qs.Perm (wC 0 (ss.take j))/\zD [] H H'/\H ak=none) ⟨a0,[],_,_,_,rfl,⟨[],e0,.nil⟩,.nil,k0,ha0⟩ ?_ ?_⟩
 ·rintro j σ H1 hj ⟨ak,qs,v3,v4,v5,rfl,RA,pq,k1,nak⟩
  rw [zGH,Int.toNat_natCast,hS.2.2.2.1] at hj
  have ej:(0:Int) + (j:Int)=(j:Int):=by omega
  have es:ss[j]?=some ss[j]:=zGI hj
  generalize ss[j]=s at es
  obtain ⟨y,ey,_,_,S⟩:=(hS.on k1).at es
  obtain ⟨dy,hob⟩:=S.ob
  have hse1:=k1 _ _ (by simp) hS.1
  have atj:atI (us.map fun x=>V.ref x.1) ((0:Int) + (j:Int))=some (.ref y.1):=by rw [ej];exact xX ey
  have hh1:=hh.on k1
  obtain ⟨dx,nl,sl,_,hp,_⟩:=id hh1
  have lrow:=I.rl s (zGL es)
  refine ⟨_,rfl,_,rfl,se,_,_,_,rfl,rfl,hse1,atj,?_⟩
  refine ⟨_,rfl,p,dx,_,rfl,hp,zF2 _ _ _,_,rfl,B,p,j,nm,nb,xs,_,_,congrArg (fun z=>[V.ref p,V.int z]) ej,hh1,es,?_⟩
  refine ⟨_,rfl,p,dx,_,rfl,hp,zFV _ _ _,_,rfl,B,p,j,nm,nb,xs,_,_,congrArg (fun z=>[V.ref p,V.int z]) ej,hh1,es,fun r1 H2 hr1' R1 k2=>?_⟩
  have hp2:=k2 _ _ (by simp) hp
  refine ⟨_,rfl,p,dx,_,rfl,hp2,zFX _ _ _,_,rfl,B,p,j,nm,nb,xs,_,_,congrArg (fun z=>[V.ref p,V.int z]) ej,hh1.on k2,es,?_⟩
  refine ⟨_,rfl,p,dx,_,rfl,hp2,zFY _ _ _,_,rfl,B,p,j,nm,nb,xs,_,_,congrArg (fun z=>[V.ref p,V.int z]) ej,hh1.on k2,es,?_⟩
  refine ⟨by show 4 <= sizeLine;decide,fun fo hfo=>?_⟩
  have k3:zD [] H2 (upd H2 fo (.lst [z4 s.ptr,.ref r1,z4 s.hold,.bl s.asked])):=zD.new hfo
  have e3:upd H2 fo (.lst [z4 s.ptr,.ref r1,z4 s.hold,.bl s.asked]) fo=some (.lst [z4 s.ptr,.ref r1,z4 s.hold,.bl s.asked]):=zB
  generalize upd H2 fo (.lst [z4 s.ptr,.ref r1,z4 s.hold,.bl s.asked])=H3 at k3 e3 ⊢
  have k13:=k2.trans k3
  have S3:=S.keep k13
  have hob3:=k13 _ _ (by simp) hob
  refine ⟨_,rfl,_,rfl,y.1,dy,_,rfl,hob3,cN _ _ _ _,y.1,y.2,s,rfl,S3,?_⟩
  refine ⟨_,rfl,y.1,dy,_,rfl,hob3,iI _ _ _ _,y.1,y.2,s,rfl,S3,fun r2 H4 hr2' R2 k4=>?_⟩
  have S4:=S3.keep k4
  have hob4:=k4 _ _ (by simp) hob3
  refine ⟨_,rfl,y.1,dy,_,rfl,hob4,m8 _ _ _ _,y.1,y.2,s,rfl,S4,?_⟩
  refine ⟨_,rfl,y.1,dy,_,rfl,hob4,zBY _ _ _ _,y.1,y.2,s,rfl,S4,?_⟩
  refine ⟨by show 4 <= sizeLine;decide,fun fe hfe=>?_⟩
  have k5:zD [] H4 (upd H4 fe (.lst [z4 s.ptr,.ref r2,z4 s.hold,.bl s.asked])):=zD.new hfe
  have e5:upd H4 fe (.lst [z4 s.ptr,.ref r2,z4 s.hold,.bl s.asked]) fe=some (.lst [z4 s.ptr,.ref r2,z4 s.hold,.bl s.asked]):=zB
  generalize upd H4 fe (.lst [z4 s.ptr,.ref r2,z4 s.hold,.bl s.asked])=H5 at k5 e5 ⊢
  have k35:=k4.trans k5
  refine ⟨.ref fo,.ref fe,rfl,(cJ (by omega) (k35 _ _ (by simp) e3) (R1.keep (k3.trans k35)) e5 (R2.keep k5)).succ,fun H6 k6=>⟨_,rfl,ifF rfl ?_⟩⟩
  have k16:=k13.trans (k35.trans k6)
  have S6:=S.keep k16
  have hob6:=k16 _ _ (by simp) hob
  refine ⟨_,rfl,_,rfl,y.1,dy,_,rfl,hob6,iI _ _ _ _,y.1,y.2,s,rfl,S6,fun r3 H7 hr3' R3 k7=>?_⟩
  obtain ⟨ps3,e7,pr3⟩:=id R3
  refine ⟨r3,rfl,⟨_,.of e7⟩,fun c1 hc1=>?_⟩
  refine r8 (ds:=s.row) yT (fun r=>[.str r.2,.int ((0:Int) + (j:Int)),.bl true]) (fun r=>decide (r.1=("asker" : Str))) (fun r _=>[some (.str r.1),some (.str r.2)]) [some (.int ((0:Int) + (j:Int)))] (by omega) hc1 R3 ⟨[none,none],rfl,rfl⟩ (fun _ _=>rfl) ?_ ?_ ?_ ?_
  ·intro r q vs H R _ hv hq h
   match vs,hv with
   | [v1,v2],_=>exact ⟨q,_,rfl,.of hq,rfl,_,_,rfl,_,_,rfl,rfl,h⟩
  ·intro r q H R _ _ _ h
   refine ⟨_,rfl,rfl,_,rfl,?_⟩
   rw [show decide (V.str r.1=V.str "asker")=decide (r.1=("asker" : Str)) by simp]
   exact h H (zD.refl _)
  ·intro r q H R _ _ h
   exact ⟨_,rfl,_,rfl,by show 3 <= sizeLine;decide,fun t ht=>h t _ (zD.new ht) zB⟩
  intro H8 hR k8
  have k18:=k16.trans (k7.trans k8)
  obtain ⟨ts,hts,htp⟩:=hR
  obtain ⟨pa,hpa,prA⟩:=RA.keep k18
  have lt:=zP htp
  have lA:=zP prA
  rw [zGH] at lt lA
  have lf:=zHF (fun r:Str × Str=>decide (r.1=("asker" : Str))) s.row
  have lq:=pq.length_eq
  have lsub:(wC 0 (ss.take j)).length <= k:=by
   rw [<- zGH (f:=(·.1)),yX]
   have e:=congrArg (fun l=>(y8 l).length) (List.take_append_drop j ss)
   have e2:y8 (ss.take j ++ ss.drop j)=y8 (ss.take j) ++ y8 (ss.drop j):=List.flatMap_append
   have e:(y8 (ss.take j ++ ss.drop j)).length=(y8 ss).length:=e
   rw [e2,zGZ] at e
   omega
  refine ⟨ak,c1,_,_,rfl,rfl,hpa,hts,by rw [zGH,zGH,sizeLine_eq];omega,fun l2 hl2=>?_⟩
  have eN:((s.row.filter fun r=>decide (r.1=("asker" : Str))).map fun r=>[V.str r.2,.int ((0:Int) + (j:Int)),.bl true])=((s.row.filter fun r=>decide (r.1=("asker" : Str))).map fun r=>(r.2,[V.int (j:Int),V.bl true])).map nmV:=by
   rw [zG1,ej];rfl
  rw [eN] at htp
  have k9:zD [] H8 (upd H8 l2 (.lst (pa.map V.ref ++ ts.map V.ref))):=zD.new hl2
  have e9:upd H8 l2 (.lst (pa.map V.ref ++ ts.map V.ref)) l2=some (.lst ((pa ++ ts).map V.ref)):=by rw [zB,zGT]
  have pr9:Paired (fun q r=>upd H8 l2 (.lst (pa.map V.ref ++ ts.map V.ref)) q=some (.tup r)) (pa ++ ts) ((qs ++ (s.row.filter fun r=>decide (r.1=("asker" : Str))).map fun r=>(r.2,[V.int (j:Int),V.bl true])).map nmV):=by
   rw [zGT]
   exact zK k9 (fun b hb=>by cases hb) (vU prA htp)
  generalize upd H8 l2 (.lst (pa.map V.ref ++ ts.map V.ref))=H9 at k9 e9 pr9 ⊢
  have k19:=k18.trans k9
  have S9:=S.keep k19
  have hob9:=k19 _ _ (by simp) hob
  have nl2:H l2=none:=(k1.trans k18).none (by simp) hl2
  refine ⟨_,rfl,y.1,dy,_,rfl,hob9,m8 _ _ _ _,y.1,y.2,s,rfl,S9,rfl,_,rfl,?_⟩
  have pm:(qs ++ ((s.row.filter fun r=>decide (r.1=("asker" : Str))).map fun r=>(r.2,[V.int (j:Int),V.bl true])) ++ (match s.hold with | some z=>[(z,[V.int (j:Int),V.bl false])] | none=>[])).Perm (wC 0 (ss.take (j + 1))):=by
   rw [gX es,zHC]
   exact pq.append (gY s j).symm
  cases eh:s.hold with
  | none=>
   rw [eh,List.append_nil] at pm
   exact ifF rfl ⟨l2,_,_,_,_,rfl,⟨_,e9,pr9⟩,pm,k1.trans k19,nl2⟩
  | some z=>
   rw [eh] at pm
   have lp9:=zP pr9
   have lpm:=pm.length_eq
   refine ifT rfl ⟨_,rfl,.inl ⟨rfl,_,.of e9⟩,_,rfl,y.1,dy,_,rfl,hob9,m8 _ _ _ _,y.1,y.2,s,rfl,S9,_,rfl,by show 3 <= sizeLine;decide,fun tg htg=>⟨l2,_,_,rfl,rfl,(zD.new (S:=[]) htg) _ _ (by simp) e9,by rw [zGH,lp9,zGH,zGZ,zGH,sizeLine_eq];omega,?_⟩⟩
   have kt:zD [] H9 (upd H9 tg (.tup [z4 s.hold,.int ((0:Int) + (j:Int)),.bl false])):=zD.new htg
   have et:upd H9 tg (.tup [z4 s.hold,.int ((0:Int) + (j:Int)),.bl false]) tg=some (.tup (nmV (z,[V.int (j:Int),V.bl false]))):=by rw [zB,eh,ej];rfl
   have et9:=kt _ _ (by simp) e9
   have prt:=zK kt (fun b hb=>by cases hb) pr9
   generalize upd H9 tg (.tup [z4 s.hold,.int ((0:Int) + (j:Int)),.bl false])=Ht at kt et et9 prt ⊢
   have kl:zD [l2] Ht (upd Ht l2 (.lst ((pa ++ ts).map V.ref ++ [.ref tg]))):=zD.at (by simp)
   have nt:∀ b ∈ [l2],∀ xs,Ht b ≠ some (.tup xs):=fun b hb xs z=>by rw [zGK.mp hb,et9] at z;cases z
   have tl:tg ≠ l2:=xR et et9 (by intro z;cases z)
   refine ⟨l2,_,_,_,_,rfl,⟨pa ++ ts ++ [tg],by rw [zB];simp,?_⟩,pm,?_,nl2⟩
   ·rw [zGT (f:=nmV)]
    exact vU (zK kl nt prt) (.cons (kl _ _ (by simp [tl]) et) .nil)
   ·exact ((k1.trans (k19.trans kt)).under kl (fun b hb=>by rw [zGK.mp hb];exact nl2))
 ·rintro σ H1 ⟨ak,qs,v3,v4,v5,rfl,RA,pq,k1,nak⟩
  rw [zGH,Int.toNat_natCast,hS.2.2.2.1,zHH] at pq
  have hh1:=hh.on k1
  obtain ⟨dx,nl,sl,_,hp,_⟩:=id hh1
  refine ⟨_,rfl,p,dx,_,rfl,hp,iG _ _ _,B,p,nm,nb,xs,ss,rfl,hh1,I.nd,by omega,fun l rs H2 pr ar R hl k2=>?_⟩
  obtain ⟨pa,hpa,prA⟩:=RA.keep k2
  have nq:(qs.map (·.1)).Nodup:=by rw [(pq.map (·.1)).nodup_iff,yX];exact I.nd
  refine ⟨_,rfl,ak,pa,qs,rfl,hpa,prA,nq,by rw [lO pq];omega,fun l3 qs' rs' hl3 p' a' pr'=>?_⟩
  have k3:zD [] H2 (upd H2 l3 (.lst (qs'.map V.ref))):=zD.new hl3
  have e:rs'=rs:=lQ (p'.trans (pq.trans pr.symm)) (by rw [(p'.map (·.1)).nodup_iff];exact nq) a' ar
  subst e
  exact ⟨.ref l,.ref l3,rfl,(sL (R.keep k3) ⟨qs',zB,zK k3 (fun b hb=>by cases hb) pr'⟩ (gZ pr) (by rw [zGH,lO pr];omega)).succ.succ,fun H4 k4=>q H4 (k1.trans (k2.trans (k3.trans k4)))⟩
end
theorem pS (ars:List (Option Str)):y8 (xL ars)=[]:=by
 unfold y8 xL
 rw [List.flatMap_map]
 induction ars with
 | nil=>rfl
 | cons o ars ih=>rw [List.flatMap_cons,ih];rfl
theorem vY.fresh {nb:List Str} {ars:List (Option Str)} (gnb:∀ z ∈ nb,xE z) (sub:∀ z,some z ∈ ars->z ∈ nb):vY 0 (xL ars):=by
 refine ⟨fun s hs=>?_,by rw [pS];exact List.nodup_nil,by rw [pS];exact zGQ _,fun s hs=>?_⟩
 ·unfold xL at hs
  obtain ⟨o,ho,rfl⟩:=List.mem_map.mp hs
  exact ⟨fun z e=>gnb z (sub z (by have e:o=some z:=e;rw [<- e];exact ho)),fun z e=>(by cases e),fun x hx=>absurd hx zHB,fun z=>zGR _⟩
 ·unfold xL at hs
  obtain ⟨o,ho,rfl⟩:=List.mem_map.mp hs
  exact zGQ _
theorem nD {A:Hp->Addr->Addr->SS->Prop} (stay:∀ {S:List Addr} {H H':Hp} {u v:Addr} {s:SS},A H u v s->zD S H H'->u ∉ S->v ∉ S->(∀ b ∈ S,∀ xs,H b ≠ some (.tup xs))->A H' u v s) (there:∀ {H:Hp} {u v:Addr} {s:SS},A H u v s->H u ≠ none/\H v ≠ none)
  {K:PySem.W.Frag} {Q:VK} {wl st:Addr} {ars:List (Option Str)} {H:Hp} {σ:St} {xs:List Str} {ix:List Nat} {te:TE} (hσ:∃ v,stC xs ix σ=[v]) (hwl:H wl=some (.lst (ars.map z4))) (la:ars.length <= 4) (hst:H st=none)
  (hte:∀ (ar:Option Str) (H':Hp) (Q':VK),ar ∈ ars->(∀ u v H2,H' u=none->H' v=none->A H2 u v ⟨ar,[],none,false⟩->zD [] H' H2->Q' (.ref u) H2)->te [some (z4 ar)] H' Q')
  (h:∀ (ys:List (Addr × Addr)) (P2:List Addr) (H':Hp),H' st=some (.lst (ys.map fun y=>V.ref y.1))->(st ∈ P2/\∀ y ∈ ys,y.1 ∈ P2/\y.2 ∈ P2)->((∀ y ∈ ys,y.2 ≠ st)/\ys.Pairwise fun a b=>a.1 ≠ b.1/\a.2 ≠ b.2)->ys.length=(xL ars).length->(∀ (i:Nat) (y:Addr × Addr) (s:SS),ys[i]?=some y->(xL ars)[i]?=some s->A H' y.1 y.2 s)->(∀ u ∈ P2,H u=none/\H' u ≠ none)->zD [] H H'->Q (.ref st) H'):LCW (Itl K wl) xs ix (wK 0) tM te σ H st Q:=by
 have wst:wl ≠ st:=zH hwl hst
 obtain ⟨v0,hσ⟩:=hσ
 refine u5 (K:=K) (a:=wl) (its:=ars.map z4) (by rw [zGH,sizeLine_eq];omega) (fun i zs τ H'=>∃ (us:List (Addr × Addr)) (kk:Option V),τ=[kk]/\zs=us.map (fun u=>V.ref u.1)/\us.length=i/\(∀ (j:Nat) (u:Addr × Addr),us[j]?=some u->A H' u.1 u.2 ⟨ars.getD j none,[],none,false⟩)/\(∀ u ∈ us,H u.1=none/\H u.2=none/\u.1 ≠ st/\u.2 ≠ st)/\(us.Pairwise fun a b=>a.1 ≠ b.1/\a.2 ≠ b.2)/\zD [st] H H'/\H' st=some (.lst zs)) ⟨[],_,hσ,rfl,rfl,(fun j u e=>by simp at e),(fun u hu=>by cases hu),.nil,zD.at (by simp),zB⟩ ?_ ?_ ?_
 ·rintro i zs τ H' ⟨us,kk,rfl,rfl,hl,_,_,_,kp,h⟩
  exact ⟨h,by rw [zGH];omega,.of (kp _ _ (by simp [wst]) hwl)⟩
 ·rintro i zs τ H' x hx ⟨us,kk,rfl,rfl,hl,hD,hfr,hpw,kp,h⟩
  rw [zGN] at hx
  cases ei:ars[i]? with
  | none=>rw [ei] at hx;cases hx
  | some ar=>
  rw [ei] at hx
  have ex:z4 ar=x:=zGO hx
  subst ex
  have eg:ars.getD i none=ar:=by rw [zGM,ei];rfl
  refine hte ar H' _ (zGL ei) fun u v H'' hu hv D k=>?_
  have h':=k _ _ (by simp) h
  have us':u ≠ st:=Ne.symm (zH h hu)
  have vs':v ≠ st:=Ne.symm (zH h hv)
  have nt:∀ b ∈ [st],∀ xs,H'' b ≠ some (.tup xs):=fun b hb xs z=>by rw [zGK.mp hb,h'] at z;cases z
  have kl:zD [st] H'' (upd H'' st (.lst (us.map (fun u=>V.ref u.1) ++ [.ref u]))):=zD.at (by simp)
  refine ⟨h',us ++ [(u,v)],_,rfl,by simp,by simp [hl],fun j z hj=>?_,fun z hz=>?_,?_,(kp.trans (k.mono (by simp))).trans kl,zB⟩
  ·by_cases jl:j < us.length
   ·rw [zG5 jl] at hj
    obtain ⟨_,_,f1,f2⟩:=hfr z (zGL hj)
    exact stay (stay (hD j z hj) k (by simp) (by simp) (fun b hb=>by cases hb)) kl (by simpa using f1) (by simpa using f2) nt
   ·rw [zG4 (by omega)] at hj
    have ej:j=i:=by
     have:=(zGJ.mp hj).1
     simp at this;omega
    subst ej
    rw [hl,Nat.sub_self] at hj
    cases hj
    rw [eg]
    exact stay D kl (by simpa using us') (by simpa using vs') nt
  ·rcases zGY.mp hz with hz | hz
   ·exact hfr z hz
   ·rw [zGK.mp hz]
    exact ⟨kp.none (by simpa using us') hu,kp.none (by simpa using vs') hv,us',vs'⟩
  ·refine List.pairwise_append.mpr ⟨hpw,List.pairwise_singleton _ _,fun z hz z' hz'=>?_⟩
   rw [zGK.mp hz']
   obtain ⟨j,hj,ej⟩:=List.getElem_of_mem hz
   obtain ⟨t1,t2⟩:=there (hD j z (by rw [zGI hj,ej]))
   exact ⟨fun e=>t1 (e ▸ hu),fun e=>t2 (e ▸ hv)⟩
 rintro zs τ H7 ⟨ys,kk,rfl,rfl,hl,hD,hfr,hpw,k67s,h7⟩
 rw [zGH] at hl
 refine h ys (st :: (ys.map (·.1) ++ ys.map (·.2))) H7 h7 ⟨by simp,fun y hy=>⟨?_,?_⟩⟩ ⟨fun y hy=>(hfr y hy).2.2.2,hpw⟩ (by unfold xL;rw [zGH];exact hl) (fun i y s e1 e2=>?_) (fun u hu=>?_) (k67s.drop hst)
 ·simp only [List.mem_cons,zGY,List.mem_map];exact .inr (.inl ⟨y,hy,rfl⟩)
 ·simp only [List.mem_cons,zGY,List.mem_map];exact .inr (.inr ⟨y,hy,rfl⟩)
 ·unfold xL at e2
  rw [zGN] at e2
  cases ei:ars[i]? with
  | none=>rw [ei] at e2;cases e2
  | some ar=>
  rw [ei] at e2
  have es:(⟨ar,[],none,false⟩:SS)=s:=zGO e2
  subst es
  have:=hD i y e1
  rw [zGM,ei] at this
  exact this
 ·simp only [List.mem_cons,zGY,List.mem_map] at hu
  have each:∀ y ∈ ys,H7 y.1 ≠ none/\H7 y.2 ≠ none:=fun y hy=>by
   obtain ⟨j,hj,ej⟩:=List.getElem_of_mem hy
   exact there (hD j y (by rw [zGI hj,ej]))
  rcases hu with rfl | ⟨y,hy,rfl⟩ | ⟨y,hy,rfl⟩
  ·exact ⟨hst,(by rw [h7];nofun)⟩
  ·exact ⟨(hfr y hy).1,(each y hy).1⟩
  ·exact ⟨(hfr y hy).2.1,(each y hy).2⟩
theorem DAt.there {H:Hp} {u v:Addr} {s:SS} (D:DAt H u v s):H u ≠ none/\H v ≠ none:=by
 obtain ⟨_,w,_⟩:=D.rw
 exact ⟨(by rw [D.d];nofun),(by rw [w];nofun)⟩
theorem zZ.there {CS:Addr} {H:Hp} {u v:Addr} {s:SS} (S:zZ CS H u v s):H u ≠ none/\H v ≠ none:=by
 obtain ⟨⟨_,a⟩,⟨_,b,_⟩,_⟩:=S
 exact ⟨(by rw [a];nofun),(by rw [b];nofun)⟩
theorem zZ.nt {CS:Addr} {H:Hp} {u v:Addr} {s:SS} (S:zZ CS H u v s):∀ c ∈ [u,v],∀ xs,H c ≠ some (.tup xs):=by
 obtain ⟨⟨_,a⟩,⟨_,b,_⟩,_⟩:=S
 exact vD a b
section
variable {Z:Hp} {P1 P2:List Addr} {C CS p st:Addr} {nm:Str} {nb:List Str} {xs ys:List (Addr × Addr)} {H H':Hp} {a b:List SS}
theorem WK.far (B:WB Z P1 P2 p) (w:WK Z P1 P2 C CS p st nm nb xs ys H a b) {S:List Addr} (k:zD S H H') (hS:∀ r ∈ S,Z r=none) (nt:∀ c ∈ S,∀ xs,H c ≠ some (.tup xs)):WK Z P1 P2 C CS p st nm nb xs ys H' a b:=by
 have nP:∀ r ∈ S,r ∉ P1 ++ P2:=fun r hr h=>B.ex r h (hS r hr)
 refine ⟨w.ho.keep k (fun c hc=>⟨fun e=>B.pz (e ▸ hS c hc),fun h=>nP c hc (zGY.mpr (.inl h)),nt c hc⟩),w.sa.keep k (fun c hc=>⟨fun h=>nP c hc (zGY.mpr (.inr h)),nt c hc⟩),fun c o n h=>k c o (fun hc=>?_) (w.kp c o n h),fun u hu=>?_⟩
 ·rw [hS c hc] at h;cases h
 ·by_cases e:u ∈ S
  ·exact hS u e
  ·exact w.dm u (k.none e hu)
end
structure SW (P3:List Addr) (CS:Addr) (H:Hp) (se:Addr) (us:List (Addr × Addr)) (ss:List SS):Prop where
 at':vI (· ∈ P3) CS H se us ss
 ex:∀ u ∈ P3,H u ≠ none
section
variable {P3:List Addr} {CS:Addr} {H H':Hp} {se:Addr} {us:List (Addr × Addr)} {ss:List SS}
theorem xH {S:List Addr} {u:Addr} (k:zD S H H') (h:H u ≠ none) (n:u ∉ S):H' u ≠ none:=fun e=>h (k.none n e)
theorem SW.keep {S:List Addr} (w:SW P3 CS H se us ss) (k:zD S H H') (hS:∀ c ∈ S,c ∉ P3) (nt:∀ c ∈ S,∀ xs,H c ≠ some (.tup xs)):SW P3 CS H' se us ss:=
 ⟨w.at'.keep k fun c hc=>⟨hS c hc,nt c hc⟩,fun u hu=>xH k (w.ex u hu) fun h=>hS u h hu⟩
theorem SW.on (w:SW P3 CS H se us ss) (k:zD [] H H'):SW P3 CS H' se us ss:=w.keep k (fun c hc=>by cases hc) (fun c hc=>by cases hc)
end
theorem vY.up {k:Nat} {ss:List SS} (I:vY k ss):vY (k + 1) ss:=⟨I.si,I.nd,Nat.le_succ_of_le I.ln,fun s hs=>Nat.le_succ_of_le (I.rl s hs)⟩
structure WS (Z1 Z2:Hp) (P1 P2 P3 P4 P5:List Addr) (p p4:Addr):Prop where
 b1:WB Z1 P1 P2 p
 b2:WB Z2 P4 P5 p4
 e1:∀ u,(u ∈ P3 \/ u ∈ P4 \/ u ∈ P5)->Z1 u=none
 e2:∀ u,(u ∈ P1 \/ u ∈ P2 \/ u ∈ P3)->Z2 u=none
 d3:∀ u ∈ P3,u ∉ P1/\u ∉ P2/\u ∉ P4/\u ∉ P5
structure W5 (Z1 Z2:Hp) (P1 P2 P3 P4 P5:List Addr) (C CS p p4 st sa se:Addr) (nm:Str) (nb:List Str) (xs ys xs4 ys5 us:List (Addr × Addr)) (H:Hp) (a b c:List SS) (d e:List SS):Prop where
 w1:WK Z1 P1 P2 C CS p st nm nb xs ys H a b
 w2:WK Z2 P4 P5 C CS p4 sa nm nb xs4 ys5 H d e
 w3:SW P3 CS H se us c
section
variable {Z1 Z2:Hp} {P1 P2 P3 P4 P5:List Addr} {C CS p p4 st sa se:Addr} {nm:Str} {nb:List Str} {xs ys xs4 ys5 us:List (Addr × Addr)} {H H' H0:Hp} {a b c d e:List SS} (B:WS Z1 Z2 P1 P2 P3 P4 P5 p p4)
theorem W5.on (w:W5 Z1 Z2 P1 P2 P3 P4 P5 C CS p p4 st sa se nm nb xs ys xs4 ys5 us H a b c d e) (k:zD [] H H'):W5 Z1 Z2 P1 P2 P3 P4 P5 C CS p p4 st sa se nm nb xs ys xs4 ys5 us H' a b c d e:=⟨w.w1.on k,w.w2.on k,w.w3.on k⟩
include B
theorem W5.new (w:W5 Z1 Z2 P1 P2 P3 P4 P5 C CS p p4 st sa se nm nb xs ys xs4 ys5 us H a b c d e) {r:Addr} (k:zD [r] H H') (h1:Z1 r=none) (h2:Z2 r=none) (h3:r ∉ P3) (nt:∀ xs,H r ≠ some (.tup xs)):W5 Z1 Z2 P1 P2 P3 P4 P5 C CS p p4 st sa se nm nb xs ys xs4 ys5 us H' a b c d e:=
 ⟨w.w1.new B.b1 k h1 nt,w.w2.new B.b2 k h2 nt,w.w3.keep k (fun c hc=>by rw [zGK.mp hc];exact h3) (fun c hc=>by rw [zGK.mp hc];exact nt)⟩
theorem wL {u v c:Addr} {Q:Addr->Prop} (h1:Q u) (h2:Q v) (hc:c ∈ [u,v]):Q c:=by
 simp only [List.mem_cons,zHB,or_false] at hc
 rcases hc with rfl | rfl
 ·exact h1
 ·exact h2
theorem W5.hou {a':List SS} (w:W5 Z1 Z2 P1 P2 P3 P4 P5 C CS p p4 st sa se nm nb xs ys xs4 ys5 us H a b c d e) {i:Nat} {x:Addr × Addr} (ex:xs[i]?=some x) (h:yA (· ∈ P1) C CS H' p nm nb xs a') (k:zD [x.1,x.2] H H'):W5 Z1 Z2 P1 P2 P3 P4 P5 C CS p p4 st sa se nm nb xs ys xs4 ys5 us H' a' b c d e:=by
 obtain ⟨m1,m2,_⟩:=w.w1.ho.at ex
 have nt:=w.w1.noX ex
 exact ⟨w.w1.hou B.b1 ex h k,w.w2.far B.b2 k (fun r hr=>wL B (Q:=fun r=>Z2 r=none) (B.e2 _ (.inl m1)) (B.e2 _ (.inl m2)) hr) nt,w.w3.keep k (fun r hr hm=>wL B (Q:=fun r=>r ∈ P3->False) (fun h=>(B.d3 _ h).1 m1) (fun h=>(B.d3 _ h).1 m2) hr hm) nt⟩
theorem W5.sts {b':List SS} (w:W5 Z1 Z2 P1 P2 P3 P4 P5 C CS p p4 st sa se nm nb xs ys xs4 ys5 us H a b c d e) {i:Nat} {y:Addr × Addr} (ey:ys[i]?=some y) (h:wP (· ∈ P2) H' st ys b') (k:zD [y.1,y.2] H H'):W5 Z1 Z2 P1 P2 P3 P4 P5 C CS p p4 st sa se nm nb xs ys xs4 ys5 us H' a b' c d e:=by
 obtain ⟨m1,m2⟩:=w.w1.sa.2.1.2 y (zGL ey)
 have nt:=w.w1.noY ey
 exact ⟨w.w1.sts B.b1 ey h k,w.w2.far B.b2 k (fun r hr=>wL B (Q:=fun r=>Z2 r=none) (B.e2 _ (.inr (.inl m1))) (B.e2 _ (.inr (.inl m2))) hr) nt,w.w3.keep k (fun r hr hm=>wL B (Q:=fun r=>r ∈ P3->False) (fun h=>(B.d3 _ h).2.1 m1) (fun h=>(B.d3 _ h).2.1 m2) hr hm) nt⟩
theorem W5.hou4 {d':List SS} (w:W5 Z1 Z2 P1 P2 P3 P4 P5 C CS p p4 st sa se nm nb xs ys xs4 ys5 us H a b c d e) {i:Nat} {x:Addr × Addr} (ex:xs4[i]?=some x) (h:yA (· ∈ P4) C CS H' p4 nm nb xs4 d') (k:zD [x.1,x.2] H H'):W5 Z1 Z2 P1 P2 P3 P4 P5 C CS p p4 st sa se nm nb xs ys xs4 ys5 us H' a b c d' e:=by
 obtain ⟨m1,m2,_⟩:=w.w2.ho.at ex
 have nt:=w.w2.noX ex
 exact ⟨w.w1.far B.b1 k (fun r hr=>wL B (Q:=fun r=>Z1 r=none) (B.e1 _ (.inr (.inl m1))) (B.e1 _ (.inr (.inl m2))) hr) nt,w.w2.hou B.b2 ex h k,w.w3.keep k (fun r hr hm=>wL B (Q:=fun r=>r ∈ P3->False) (fun h=>(B.d3 _ h).2.2.1 m1) (fun h=>(B.d3 _ h).2.2.1 m2) hr hm) nt⟩
theorem W5.sts5 {e':List SS} (w:W5 Z1 Z2 P1 P2 P3 P4 P5 C CS p p4 st sa se nm nb xs ys xs4 ys5 us H a b c d e) {i:Nat} {y:Addr × Addr} (ey:ys5[i]?=some y) (h:wP (· ∈ P5) H' sa ys5 e') (k:zD [y.1,y.2] H H'):W5 Z1 Z2 P1 P2 P3 P4 P5 C CS p p4 st sa se nm nb xs ys xs4 ys5 us H' a b c d e':=by
 obtain ⟨m1,m2⟩:=w.w2.sa.2.1.2 y (zGL ey)
 have nt:=w.w2.noY ey
 exact ⟨w.w1.far B.b1 k (fun r hr=>wL B (Q:=fun r=>Z1 r=none) (B.e1 _ (.inr (.inr m1))) (B.e1 _ (.inr (.inr m2))) hr) nt,w.w2.sts B.b2 ey h k,w.w3.keep k (fun r hr hm=>wL B (Q:=fun r=>r ∈ P3->False) (fun h=>(B.d3 _ h).2.2.2 m1) (fun h=>(B.d3 _ h).2.2.2 m2) hr hm) nt⟩
theorem W5.sea {c':List SS} (w:W5 Z1 Z2 P1 P2 P3 P4 P5 C CS p p4 st sa se nm nb xs ys xs4 ys5 us H a b c d e) {i:Nat} {y:Addr × Addr} {s s':SS} (es:c[i]?=some s) (es':c'[i]?=some s') (ey:us[i]?=some y) (h:vI (· ∈ P3) CS H' se us c') (k:zD [y.1,y.2] H H'):W5 Z1 Z2 P1 P2 P3 P4 P5 C CS p p4 st sa se nm nb xs ys xs4 ys5 us H' a b c' d e:=by
 obtain ⟨m1,m2⟩:=w.w3.at'.2.1.2 y (zGL ey)
 have S:=w.w3.at'.2.2.2.2 i y s ey es
 have S':=(h.2.2.2.2 i y s' ey es').there
 refine ⟨w.w1.far B.b1 k (fun r hr=>wL B (Q:=fun r=>Z1 r=none) (B.e1 _ (.inl m1)) (B.e1 _ (.inl m2)) hr) S.nt,w.w2.far B.b2 k (fun r hr=>wL B (Q:=fun r=>Z2 r=none) (B.e2 _ (.inr (.inr m1))) (B.e2 _ (.inr (.inr m2))) hr) S.nt,h,fun u hu=>?_⟩
 by_cases q:u ∈ [y.1,y.2]
 ·exact wL B (Q:=fun u=>H' u ≠ none) S'.1 S'.2 q
 ·exact xH k (w.w3.ex u hu) q
end
abbrev pH:Stmt:=top 46
theorem dE {a b:TS} {D:pI} {rt:VK} {bk ct:St->Hp->Prop} {σ:St} {H:Hp} (h:pF a b D σ H):fH ({ nx:=pF a b D,rt:=rt,bk:=bk,ct:=ct }:pI) σ H:=h
section
variable {P:Program} {w:World} {K:PySem.W.Frag} {mg:Str->Option Value} {base:Heap} {C CS:Addr}
theorem scL:zN ["_law_script","_law_name","_law_neighbours","_law_ways","_law_askers","_law_handed","_law_house","_law_other","_law_seats","_law_states","_law_aside","_law_cell","_law_source","_law_again","_law_deeds","_law_deed","_law_told_here","_law_right","_law_due"] ["_law_script"] (zG pH):=⟨rfl,rfl,rfl,by decide +kernel,rfl,by decide +kernel,by decide +kernel⟩
def jO (K:PySem.W.Frag):Sp:=fun vs H Q _=>∃ (a:Addr) (ns:List Int),vs=[.ref a]/\SqL K H a (ns.map V.int)/\ns.length <= 63/\∀ H',Q (.bl true) H'
theorem zFI {f:Addr} {fd:FuncData} (T:x3 K C) (G:Fun K "law" "law" pH f fd) (CC:Cal P w K mg base CX0 1 "_law_cell_at" ["_law_script","_law_k"] (fQ K)) (CD:Cal P w K mg base CX0 1 "_law_digits" ["_law_cell"] qF) (CN:Cal P w K mg base CX0 2 "_law_next" ["_law_source","_law_many"] oE) (CM:Cal P w K mg base CX0 4 "_law_made" ["_law_cell"] zEF) (MH:p8 P w K mg base CX0 4 C "House" ["self","name","neighbours","arrows"] (zCA K C CS)) (MKS:p8 P w K mg base CX0 2 CS "Seat" ["self","arrow"] (oH CS)) (CS0:Cal P w K mg base CX0 1 "_law_state" ["_law_arrow"] jJ)
  (CG:Cal P w K mg base CX0 2 "_law_good_deeds" ["_law_states","_law_askers","_law_neighbours"] zEL) (CDn:Cal P w K mg base CX0 3 "_law_done" ["_law_states","_law_deed"] zEM) (CPu:Cal P w K mg base CX0 6 "_law_put" ["_law_house","_law_deed"] (zED C CS)) (CAS:Cal P w K mg base CX0 4 "_law_at_seat" ["_law_seats","_law_house","_law_deed"] (zEQ C CS)) (CSB:Cal P w K mg base CX0 6 "_law_side_by_side" ["_law_house","_law_seats"] (zEB C CS)) (CLN:Cal P w K mg base CX0 1 "_law_numbered" ["_law_told_here","_law_right"] bR) (CA:Cal P w K mg base CX0 5 "_law_alike" ["_law_found","_law_due"] (zCC 5)) (b_len:Blt mg "len") (b_list:Blt mg "list"):uY P w K mg base CX0 7 f fd ["_law_script"] (jO K):=by
 refine G.ok scL (fun vs H Q E h=>by obtain ⟨a,ns,rfl,_⟩:=h;rfl) (fun cdv A outer s0 H vs Q E0 hr h=>?_)
 obtain ⟨a,ns,rfl,hS,hlen,fin⟩:=h
 have hr1:yB 1 _:=hr.mono (by decide)
 have hr2:yB 2 _:=hr.mono (by decide)
 have hr3:yB 3 _:=hr.mono (by decide)
 have hr4:yB 4 _:=hr.mono (by decide)
 have hr5:yB 5 _:=hr.mono (by decide)
 have hr6:yB 6 _:=hr
 have hu:=v9 hr
 refine ⟨_,(zE (tP (zQ CM hr4 (zA (zQ CC hr1 (zA (pv 0) (zA zI zC))) zC)) (uB rfl (yS (yH (i:=1) scL.nd rfl (Or.inl rfl)) (yS (yH (i:=2) scL.nd rfl (Or.inl rfl)) (yS (yH (i:=3) scL.nd rfl (Or.inl rfl)) (yS (yH (i:=4) scL.nd rfl (Or.inl rfl)) vF))))))
   (zE (yF (i:=5) scL.nd rfl (Or.inl rfl) (yZ (zA (wM vQ rfl b_list.no vG (zA (pv 2) zC)) (zA (wM vQ rfl b_list.no vG (zA (pv 3) zC)) zC))))
   (zE (yF (i:=6) scL.nd rfl (Or.inl rfl) (j7 MH hr5 (zA (pv 1) (zA (zU zW (pv 5) zI (fun _ _=>rfl)) (zA (zU zW (pv 5) zI (fun _ _=>rfl)) zC)))))
   (zE (yF (i:=7) scL.nd rfl (Or.inl rfl) (j7 MH hr5 (zA (pv 1) (zA (zU zW (pv 5) zI (fun _ _=>rfl)) (zA (zU zW (pv 5) zI (fun _ _=>rfl)) zC)))))
   (zE (u9 (i:=8) scL.nd rfl (Or.inl rfl) (N:=["_law_script","_law_name","_law_neighbours","_law_ways","_law_askers","_law_handed","_law_house","_law_other","_law_seats","_law_states","_law_aside","_law_cell","_law_source","_law_again","_law_deeds","_law_deed","_law_told_here","_law_right","_law_due"]) (sc:=zG pH) (ix:=[]) (by decide +kernel) (xN (pv 3)) (fun _ _ _ _=>xM) (fun _ _ _ _=>(j7 MKS hr3 (zA (pv 0) zC))))
   (zE (u9 (i:=9) scL.nd rfl (Or.inl rfl) (N:=["_law_script","_law_name","_law_neighbours","_law_ways","_law_askers","_law_handed","_law_house","_law_other","_law_seats","_law_states","_law_aside","_law_cell","_law_source","_law_again","_law_deeds","_law_deed","_law_told_here","_law_right","_law_due"]) (sc:=zG pH) (ix:=[]) (by decide +kernel) (xN (pv 3)) (fun _ _ _ _=>xM) (fun _ _ _ _=>(zQ CS0 hr1 (zA (pv 0) zC))))
   (zE (u9 (i:=10) scL.nd rfl (Or.inl rfl) (N:=["_law_script","_law_name","_law_neighbours","_law_ways","_law_askers","_law_handed","_law_house","_law_other","_law_seats","_law_states","_law_aside","_law_cell","_law_source","_law_again","_law_deeds","_law_deed","_law_told_here","_law_right","_law_due"]) (sc:=zG pH) (ix:=[]) (by decide +kernel) (xN (pv 3)) (fun _ _ _ _=>xM) (fun _ _ _ _=>(zQ CS0 hr1 (zA (pv 0) zC))))
   (zE (uH PassesOwn.never rfl (xN (wY oJ (pv 0) (wX zI) (wX zI))) (yH (i:=11) scL.nd rfl (Or.inl rfl)) (zE (yF (i:=12) scL.nd rfl (Or.inl rfl) (zQ CD hr1 (zA (pv 11) zC)))
   (zE (yF (i:=13) scL.nd rfl (Or.inl rfl) (zQ CN hr2 (zA (pv 12) (zA zI zC))))
   (zE (yF (i:=14) scL.nd rfl (Or.inl rfl) (zQ CG hr2 (zA (pv 9) (zA (pv 4) (zA (pv 2) zC)))))
   (zE (yF (i:=15) scL.nd rfl (Or.inl rfl) (zU zW (pv 14) (zQ CN hr2 (zA (pv 12) (zA (yE yK b_len xB (zA (pv 14) zC)) zC))) (fun _ _=>rfl)))
   (zE (yF (i:=16) scL.nd rfl (Or.inl rfl) (zQ CPu hr6 (zA (pv 6) (zA (pv 15) zC))))
   (zE (yO (zQ CDn hr3 (zA (pv 9) (zA (pv 15) zC))))
   (zE (tP (zQ CAS hr4 (zA (pv 8) (zA (pv 6) (zA (pv 15) zC)))) (uB rfl (yS (yH (i:=17) scL.nd rfl (Or.inl rfl)) (yS (yH (i:=18) scL.nd rfl (Or.inl rfl)) vF))))
   (zE (yC (PW.pt (pL (zS vK (pv 17) yY (zV _)) (sS (wA (xV (zQ CA hr5 (zA (pv 16) (zA (zQ CLN hr1 (zA (pv 18) (zA (pv 17) zC))) zC)))))))) (zF (zL wT)) zT)
   (zE (yC (zS eZ (pv 13) zI (zV _)) (zE (yF (i:=14) scL.nd rfl (Or.inl rfl) (zQ CG hr2 (zA (pv 10) (zA (pv 4) (zA (pv 2) zC)))))
   (zE (yF (i:=15) scL.nd rfl (Or.inl rfl) (zU zW (pv 14) (zQ CN hr2 (zA (pv 12) (zA (yE yK b_len xB (zA (pv 14) zC)) zC))) (fun _ _=>rfl)))
   (zF (yC (wA (xV (zQ CA hr5 (zA (zQ CPu hr6 (zA (pv 7) (zA (pv 15) zC))) (zA (zQ CDn hr3 (zA (pv 10) (zA (pv 15) zC))) zC))))) (zF (zL wT)) zT)))) zT)
   (zF (yC (wA (xV (zQ CSB hr6 (zA (pv 6) (zA (pv 8) zC))))) (zF (zL wT)) zT))))))))))))
   (zF (zL (wD (zC2 (hu4 hr)) (pv 5) (yZ (zA (pv 2) (zA (pv 3) zC))) (zV _)))))))))))),?_⟩
 refine ⟨_,rfl,a,ns,0,rfl,hS,by decide,fun v0=>⟨v0,rfl,fun t nl wl al nm nb ars H2 et en ew hnl hwl nlw gn gnb nd nin ln ne la sub has k2=>?_⟩⟩
 obtain ⟨as,hal,nas,las,gas⟩:=has
 have nb100:nb.length <= 100:=zGS ln (by decide)
 have nb20:nb.length <= 20:=zGS ln (by decide)
 have ar100:ars.length <= 100:=zGS la (by decide)
 have ar10:ars.length <= 10:=zGS la (by decide)
 refine ⟨t,_,rfl,.of et,rfl,_,_,rfl,_,_,rfl,_,_,rfl,_,_,rfl,rfl,?_⟩
 refine ⟨_,rfl,nl,_,rfl,.inl (.of en),fun h0 hh0=>?_⟩
 have k3:=zD.new (S:=[]) (o:=.lst (nb.map V.str)) hh0
 have e30:upd H2 h0 (.lst (nb.map V.str)) h0=some (.lst (nb.map V.str)):=zB
 generalize upd H2 h0 (.lst (nb.map V.str))=H3 at k3 e30 ⊢
 refine ⟨_,rfl,wl,_,rfl,.inl (.of (k3 _ _ (by simp) ew)),fun h1 hh1=>?_⟩
 have k4:=zD.new (S:=[]) (o:=.lst (ars.map z4)) hh1
 have e41:upd H3 h1 (.lst (ars.map z4)) h1=some (.lst (ars.map z4)):=zB
 have e40:=k4 _ _ (by simp) e30
 generalize upd H3 h1 (.lst (ars.map z4))=H4 at k4 e40 e41 ⊢
 refine ⟨by show 2 <= sizeLine;decide,fun hd hhd=>?_⟩
 have k5:=zD.new (S:=[]) (o:=.lst [.ref h0,.ref h1]) hhd
 have e5d:upd H4 hd (.lst [.ref h0,.ref h1]) hd=some (.lst [.ref h0,.ref h1]):=zB
 have e50:=k5 _ _ (by simp) e40
 have e51:=k5 _ _ (by simp) e41
 generalize upd H4 hd (.lst [.ref h0,.ref h1])=H5 at k5 e50 e51 e5d ⊢
 have k25:zD [] H2 H5:=k3.trans (k4.trans k5)
 refine ⟨_,rfl,_,rfl,hd,_,0,_,rfl,rfl,e5d,rfl,_,rfl,hd,_,1,_,rfl,rfl,e5d,rfl,fun p dx1 hp1 hdx1 npd1=>?_⟩
 have kB1:zD [] H5 (upd (upd H5 dx1 (.own p)) p (.ins C dx1 [])):=(zD.new hdx1).trans (zD.new (by rw [zJ npd1.symm];exact hp1))
 have eB1:(upd (upd H5 dx1 (.own p)) p (.ins C dx1 [])) p=some (.ins C dx1 []):=zB
 generalize upd (upd H5 dx1 (.own p)) p (.ins C dx1 [])=HB1 at kB1 eB1 ⊢
 refine ⟨p,dx1,h0,h1,nm,nb,ars,rfl,eB1,kB1 _ _ (by simp) e50,kB1 _ _ (by simp) e51,gn,gnb,nd,nin,nb100,ne,ar100,sub,fun xs1 H6 hh1 k1=>⟨rfl,?_⟩⟩
 have kk1:zD [] H5 H6:=kB1.under k1 (by intro b hb;rw [zGK.mp hb];exact hp1)
 obtain ⟨P1,hg1,hP1⟩:=hh1.parts
 have hQ1:∀ u ∈ P1,H5 u=none/\H6 u ≠ none:=fun u hu=>⟨kB1.none (by simp) (hP1 u hu).1,(hP1 u hu).2.1⟩
 have ob1:H6 p ≠ none:=by obtain ⟨_,_,_,e⟩:=hg1.ob;rw [e];nofun
 refine ⟨_,rfl,_,rfl,hd,_,0,_,rfl,rfl,(kk1 _ _ (by simp) e5d),rfl,_,rfl,hd,_,1,_,rfl,rfl,(kk1 _ _ (by simp) e5d),rfl,fun p4 dx4 hp4 hdx4 npd4=>?_⟩
 have kB4:zD [] H6 (upd (upd H6 dx4 (.own p4)) p4 (.ins C dx4 [])):=(zD.new hdx4).trans (zD.new (by rw [zJ npd4.symm];exact hp4))
 have eB4:(upd (upd H6 dx4 (.own p4)) p4 (.ins C dx4 [])) p4=some (.ins C dx4 []):=zB
 generalize upd (upd H6 dx4 (.own p4)) p4 (.ins C dx4 [])=HB4 at kB4 eB4 ⊢
 refine ⟨p4,dx4,h0,h1,nm,nb,ars,rfl,eB4,kB4 _ _ (by simp) (kk1 _ _ (by simp) e50),kB4 _ _ (by simp) (kk1 _ _ (by simp) e51),gn,gnb,nd,nin,nb100,ne,ar100,sub,fun xs4 H7 hh4 k4=>⟨rfl,?_⟩⟩
 have kk4:zD [] H6 H7:=kB4.under k4 (by intro b hb;rw [zGK.mp hb];exact hp4)
 obtain ⟨P4,hg4,hP4⟩:=hh4.parts
 have hQ4:∀ u ∈ P4,H6 u=none/\H7 u ≠ none:=fun u hu=>⟨kB4.none (by simp) (hP4 u hu).1,(hP4 u hu).2.1⟩
 have ob4:H7 p4 ≠ none:=by obtain ⟨_,_,_,e⟩:=hg4.ob;rw [e];nofun
 have ew7:=(k25.trans (kk1.trans kk4)) _ _ (by simp) ew
 refine ⟨_,rfl,wl,rfl,⟨_,.of ew7⟩,fun se hse=>nD (A:=zZ CS) (fun s k a b n=>s.keepS k a b n) zZ.there ⟨_,rfl⟩ ew7 la hse ?_ fun ys3 P3 H8 f1 f2 f3 f4 f5 hQ3 kk3=>?_⟩
 ·intro ar Hc Q' har hq
  refine ⟨_,rfl,fun u dx hu' hdx nud=>?_⟩
  have kC:zD [] Hc (upd (upd Hc dx (.own u)) u (.ins CS dx [])):=(zD.new hdx).trans (zD.new (by rw [zJ nud.symm];exact hu'))
  have eC:(upd (upd Hc dx (.own u)) u (.ins CS dx [])) u=some (.ins CS dx []):=zB
  generalize upd (upd Hc dx (.own u)) u (.ins CS dx [])=HC at kC eC ⊢
  exact ⟨u,dx,ar,rfl,eC,(fun z e=>⟨(gnb z (sub z (e ▸ har))).1,zGS (gnb z (sub z (e ▸ har))).2 (by decide)⟩),fun wl' H2' hwl' S' k'=>⟨rfl,hq u wl' H2' hu' (kC.none (by simp) hwl') S' (kC.under k' (by intro b hb;rw [zGK.mp hb];exact hu'))⟩⟩
 have A3:vI (· ∈ P3) CS H8 se ys3 (xL ars):=⟨f1,f2,f3,f4,f5⟩
 clear f1 f2 f3 f4 f5
 have ew8:=kk3 _ _ (by simp) ew7
 refine ⟨_,rfl,wl,rfl,⟨_,.of ew8⟩,fun st hst=>nD (A:=DAt) (fun s k a b n=>s.keepS k a b n) DAt.there ⟨_,rfl⟩ ew8 la hst ?_ fun ys2 P2 H9 f1 f2 f3 f4 f5 hQ2 kk2=>?_⟩
 ·intro ar Hc Q' har hq
  exact ⟨_,rfl,ar,rfl,fun u v H'' hu hv D k=>hq u v H'' hu hv D k⟩
 have A2:wP (· ∈ P2) H9 st ys2 (xL ars):=⟨f1,f2,f3,f4,f5⟩
 clear f1 f2 f3 f4 f5
 have ew9:=kk2 _ _ (by simp) ew8
 refine ⟨_,rfl,wl,rfl,⟨_,.of ew9⟩,fun sa hsa=>nD (A:=DAt) (fun s k a b n=>s.keepS k a b n) DAt.there ⟨_,rfl⟩ ew9 la hsa ?_ fun ys5 P5 H10 f1 f2 f3 f4 f5 hQ5 kk5=>?_⟩
 ·intro ar Hc Q' har hq
  exact ⟨_,rfl,ar,rfl,fun u v H'' hu hv D k=>hq u v H'' hu hv D k⟩
 have A5:wP (· ∈ P5) H10 sa ys5 (xL ars):=⟨f1,f2,f3,f4,f5⟩
 clear f1 f2 f3 f4 f5
 have k5X:=kk1.trans (kk4.trans (kk3.trans (kk2.trans kk5)))
 refine ⟨_,rfl,_,rfl,_,rfl,a,_,rfl,zD.seq (k2.trans (k25.trans k5X)) hS,fun p0 hp0=>?_⟩
 obtain ⟨ms,em,lm⟩:=c8 ns (some 1) (some 61)
 have lm60:ms.length <= 60:=by have e60:=congrArg List.length em;rw [zGH] at e60;rw [<- e60,show uC (ns.map V.int) (some 1) (some 61)=((ns.map V.int).drop 1).take 60 from iM _ 60,zG0];omega
 rw [em]
 have kX0:zD [] H10 (upd H10 p0 (.lst (ms.map V.int))):=zD.new hp0
 have e90:upd H10 p0 (.lst (ms.map V.int)) p0=some (.lst (ms.map V.int)):=zB
 generalize upd H10 p0 (.lst (ms.map V.int))=Z at kX0 e90 ⊢
 have z9:=kk5.trans kX0
 have z8:=kk2.trans z9
 have z7:=kk3.trans z8
 have z6:=kk4.trans z7
 have z5:=kk1.trans z6
 have N0:∀ {u:Addr},H5 u ≠ none->¬ u ∈ P1/\¬ u ∈ P2/\¬ u ∈ P3/\¬ u ∈ P4/\¬ u ∈ P5:=fun {u} h=>⟨fun m=>h (hQ1 u m).1,fun m=>h ((kk1.trans (kk4.trans kk3)).none (by simp) (hQ2 u m).1),fun m=>h ((kk1.trans kk4).none (by simp) (hQ3 u m).1),fun m=>h (kk1.none (by simp) (hQ4 u m).1),fun m=>h ((kk1.trans (kk4.trans (kk3.trans kk2))).none (by simp) (hQ5 u m).1)⟩
 have NX:∀ {u:Addr},H10 u=none->¬ u ∈ P1/\¬ u ∈ P2/\¬ u ∈ P3/\¬ u ∈ P4/\¬ u ∈ P5:=fun {u} h=>⟨fun m=>xH (kk4.trans (kk3.trans (kk2.trans kk5))) (hQ1 u m).2 (by simp) h,fun m=>xH kk5 (hQ2 u m).2 (by simp) h,fun m=>xH (kk2.trans kk5) (hQ3 u m).2 (by simp) h,fun m=>xH (kk3.trans (kk2.trans kk5)) (hQ4 u m).2 (by simp) h,fun m=>(hQ5 u m).2 h⟩
 have n14:∀ u ∈ P1,u ∉ P4:=fun u h m=>(hQ1 u h).2 (hQ4 u m).1
 have n13:∀ u ∈ P1,u ∉ P3:=fun u h m=>(hQ1 u h).2 (kk4.none (by simp) (hQ3 u m).1)
 have n12:∀ u ∈ P1,u ∉ P2:=fun u h m=>(hQ1 u h).2 ((kk4.trans kk3).none (by simp) (hQ2 u m).1)
 have n15:∀ u ∈ P1,u ∉ P5:=fun u h m=>(hQ1 u h).2 ((kk4.trans (kk3.trans kk2)).none (by simp) (hQ5 u m).1)
 have n43:∀ u ∈ P4,u ∉ P3:=fun u h m=>(hQ4 u h).2 (hQ3 u m).1
 have n42:∀ u ∈ P4,u ∉ P2:=fun u h m=>(hQ4 u h).2 (kk3.none (by simp) (hQ2 u m).1)
 have n45:∀ u ∈ P4,u ∉ P5:=fun u h m=>(hQ4 u h).2 ((kk3.trans kk2).none (by simp) (hQ5 u m).1)
 have n32:∀ u ∈ P3,u ∉ P2:=fun u h m=>(hQ3 u h).2 (hQ2 u m).1
 have n35:∀ u ∈ P3,u ∉ P5:=fun u h m=>(hQ3 u h).2 (kk2.none (by simp) (hQ5 u m).1)
 have n25:∀ u ∈ P2,u ∉ P5:=fun u h m=>(hQ2 u h).2 (hQ5 u m).1
 obtain ⟨Z1,z1a,z1b⟩:∃ Z1:Hp,(∀ u,(u ∈ P3 \/ u ∈ P4 \/ u ∈ P5)->Z1 u=none)/\∀ u,¬ (u ∈ P3 \/ u ∈ P4 \/ u ∈ P5)->Z1 u=Z u:=by
  classical exact ⟨fun u=>if (u ∈ P3 \/ u ∈ P4 \/ u ∈ P5) then none else Z u,fun u h=>if_pos h,fun u h=>if_neg h⟩
 obtain ⟨Z2,z2a,z2b⟩:∃ Z2:Hp,(∀ u,(u ∈ P1 \/ u ∈ P2 \/ u ∈ P3)->Z2 u=none)/\∀ u,¬ (u ∈ P1 \/ u ∈ P2 \/ u ∈ P3)->Z2 u=Z u:=by
  classical exact ⟨fun u=>if (u ∈ P1 \/ u ∈ P2 \/ u ∈ P3) then none else Z u,fun u h=>if_pos h,fun u h=>if_neg h⟩
 have B:WS Z1 Z2 P1 P2 P3 P4 P5 p p4:=by
  refine ⟨⟨fun u hu=>?_,n12,?_⟩,⟨fun u hu=>?_,n45,?_⟩,z1a,z2a,fun u hu=>⟨fun m=>n13 u m hu,n32 u hu,fun m=>n43 u m hu,n35 u hu⟩⟩
  ·rcases zGY.mp hu with h | h
   ·rw [z1b u (by rintro (m | m | m);exact n13 u h m;exact n14 u h m;exact n15 u h m)]
    exact xH z6 (hQ1 u h).2 (by simp)
   ·rw [z1b u (by rintro (m | m | m);exact n32 u m h;exact n42 u m h;exact n25 u h m)]
    exact xH z9 (hQ2 u h).2 (by simp)
  ·rw [z1b p (by rintro (m | m | m);exact ob1 (kk4.none (by simp) (hQ3 p m).1);exact ob1 (hQ4 p m).1;exact ob1 ((kk4.trans (kk3.trans kk2)).none (by simp) (hQ5 p m).1))]
   exact xH z6 ob1 (by simp)
  ·rcases zGY.mp hu with h | h
   ·rw [z2b u (by rintro (m | m | m);exact n14 u m h;exact n42 u h m;exact n43 u h m)]
    exact xH z7 (hQ4 u h).2 (by simp)
   ·rw [z2b u (by rintro (m | m | m);exact n15 u m h;exact n25 u m h;exact n35 u m h)]
    exact xH kX0 (hQ5 u h).2 (by simp)
  ·rw [z2b p4 (by rintro (m | m | m);exact (hQ1 p4 m).2 hp4;exact ob4 (kk3.none (by simp) (hQ2 p4 m).1);exact ob4 (hQ3 p4 m).1)]
   exact xH z7 ob4 (by simp)
 have w0:W5 Z1 Z2 P1 P2 P3 P4 P5 C CS p p4 st sa se nm nb xs1 ys2 xs4 ys5 ys3 Z (xL ars) (xL ars) (xL ars) (xL ars) (xL ars):=by
  refine ⟨⟨hg1.on z6,A2.on z9,fun u o _ h=>?_,fun u h=>?_⟩,⟨hg4.on z7,A5.on kX0,fun u o _ h=>?_,fun u h=>?_⟩,⟨A3.on z8,fun u h=>xH z8 (hQ3 u h).2 (by simp)⟩⟩
  ·by_cases q:(u ∈ P3 \/ u ∈ P4 \/ u ∈ P5)
   ·rw [z1a u q] at h;cases h
   ·rw [<- z1b u q];exact h
  ·by_cases q:(u ∈ P3 \/ u ∈ P4 \/ u ∈ P5)
   ·exact z1a u q
   ·rw [z1b u q];exact h
  ·by_cases q:(u ∈ P1 \/ u ∈ P2 \/ u ∈ P3)
   ·rw [z2a u q] at h;cases h
   ·rw [<- z2b u q];exact h
  ·by_cases q:(u ∈ P1 \/ u ∈ P2 \/ u ∈ P3)
   ·exact z2a u q
   ·rw [z2b u q];exact h
 have inZ0:∀ {H':Hp} {a b c d e:List SS},W5 Z1 Z2 P1 P2 P3 P4 P5 C CS p p4 st sa se nm nb xs1 ys2 xs4 ys5 ys3 H' a b c d e->∀ {u:Addr} {o:HO},(¬ u ∈ P1/\¬ u ∈ P2/\¬ u ∈ P3/\¬ u ∈ P4/\¬ u ∈ P5)->Z u=some o->H' u=some o:=fun w u o n h=>w.w1.kp u o (fun m=>(zGY.mp m).elim n.1 n.2.1) (by rw [z1b u (by rintro (m | m | m);exact n.2.2.1 m;exact n.2.2.2.1 m;exact n.2.2.2.2 m)];exact h)
 have inZ:∀ {H':Hp} {a b c d e:List SS},W5 Z1 Z2 P1 P2 P3 P4 P5 C CS p p4 st sa se nm nb xs1 ys2 xs4 ys5 ys3 H' a b c d e->∀ {u:Addr} {o:HO},H5 u=some o->H' u=some o:=fun w u o h=>inZ0 w (N0 (by rw [h];nofun)) (z5 _ _ (by simp) h)
 have al5:=k25 _ _ (by simp) hal
 have en5:=k25 _ _ (by simp) en
 have I0:vY 0 (xL ars):=vY.fresh gnb sub
 have lf:(xL ars).length=ars.length:=by unfold xL;rw [zGH]
 refine ⟨p0,rfl,⟨_,.of e90⟩,sF (K:=K) (a:=p0) (xs:=ms.map V.int) (fun i σ H'=>∃ (ss s2:List SS) (v11 v12 v13 v14 v15 v16 v17 v18:Option V),σ=[some (.ref a),some (.str nm),some (.ref nl),some (.ref wl),some (.ref al),some (.ref hd),some (.ref p),some (.ref p4),some (.ref se),some (.ref st),some (.ref sa),v11,v12,v13,v14,v15,v16,v17,v18]/\W5 Z1 Z2 P1 P2 P3 P4 P5 C CS p p4 st sa se nm nb xs1 ys2 xs4 ys5 ys3 H' ss ss ss s2 s2/\vY i ss/\vY i s2/\ss.length=ars.length/\s2.length=ars.length) ⟨_,_,_,_,_,_,_,_,_,_,rfl,w0,I0,I0,lf,lf⟩ ?_ ?_ ?_⟩
 ·rintro i σ H' _ ⟨ss,s2,v11,v12,v13,v14,v15,v16,v17,v18,rfl,w,_⟩
  exact .of (inZ0 w (NX hp0) e90)
 ·rintro i c σ H1 hc ⟨ss,s2,v11,v12,v13,v14,v15,v16,v17,v18,rfl,w,I,I2,ls,ls2⟩
  have il:i < ms.length:=by have:=(zGJ.mp hc).1;simpa using this
  obtain ⟨cell,rfl⟩:∃ z,c=V.int z:=by
   rw [zGN] at hc
   cases e:ms[i]? with
   | none=>rw [e] at hc;cases hc
   | some z=>rw [e] at hc;exact ⟨z,(zGO hc).symm⟩
  have i59:i < 60:=zG3 il lm60
  have i60:=Nat.le_of_lt i59
  have l10:ss.length <= 10:=by rw [ls];exact ar10
  have l100:ss.length <= 100:=by rw [ls];exact ar100
  have l102:s2.length <= 10:=by rw [ls2];exact ar10
  have l1002:s2.length <= 100:=by rw [ls2];exact ar100
  have nss:ss ≠ []:=fun e=>by rw [e] at ls;exact ne (List.length_eq_zero_iff.mp ls.symm)
  have ns2:s2 ≠ []:=fun e=>by rw [e] at ls2;exact ne (List.length_eq_zero_iff.mp ls2.symm)
  refine ⟨_,rfl,_,rfl,fun src b1 c1 e1 hsrc=>?_⟩
  have Zs1:Z1 src=none:=w.w1.dm src hsrc
  have Zs2:Z2 src=none:=w.w2.dm src hsrc
  have Zs3:src ∉ P3:=fun m=>w.w3.ex src m hsrc
  refine ⟨_,rfl,src,b1,c1,e1,3,rfl,zB,by decide,by decide,fun ag a2 c2 u0 u1=>?_⟩
  rw [vZ]
  have k12:zD [] H1 (upd H1 src (.lst [.int a2,.int c1,.int c2])):=zD.new hsrc
  have esrcX:upd H1 src (.lst [.int a2,.int c1,.int c2]) src=some (.lst [.int a2,.int c1,.int c2]):=zB
  generalize upd H1 src (.lst [.int a2,.int c1,.int c2])=HS at k12 esrcX ⊢
  have wS:=w.on k12
  refine ⟨_,rfl,_,rfl,_,rfl,(· ∈ P2),st,al,nl,ys2,ss,i,as,nb,rfl,wS.w1.sa,I,nss,l10,inZ wS al5,inZ wS en5,gas,gnb,las,nb20,fun dlX dsX HaX RX gdX ldX ndX hdlX kaX=>?_⟩
  have waX:=wS.on kaX
  obtain ⟨psX,eXd,rXd⟩:=id RX
  have lpsX:=zP rXd
  rw [zGH] at lpsX
  have dposX:0 < dsX.length:=zG7.mpr (ndX nas)
  have esX:=kaX _ _ (by simp) esrcX
  refine ⟨_,rfl,_,rfl,_,rfl,_,_,rfl,.inl ⟨_,.of eXd,rfl⟩,src,_,c1,_,_,rfl,esX,by rw [zGH];omega,by rw [zGH];omega,fun vX aX cX v0X v1X=>?_⟩
  have kbX:zD [src] HaX (upd HaX src (.lst [.int aX,.int c1,.int cX])):=zD.at (by simp)
  have ebX:upd HaX src (.lst [.int aX,.int c1,.int cX]) src=some (.lst [.int aX,.int c1,.int cX]):=zB
  have ntX:∀ c ∈ [src],∀ xs,HaX c ≠ some (.tup xs):=fun c hc xs z=>by rw [zGK.mp hc,esX] at z;cases z
  have dnX:dlX ≠ src:=Ne.symm (zH esrcX hdlX)
  have edX:=kbX _ _ (by simp [dnX]) eXd
  have rdX:=zK kbX ntX rXd
  have wbX:=waX.new B kbX Zs1 Zs2 Zs3 (fun xs=>ntX src (by simp) xs)
  generalize upd HaX src (.lst [.int aX,.int c1,.int cX])=HD at kbX edX rdX wbX ebX ⊢
  obtain ⟨uuX,hxX,hyX⟩:=tX (xs:=psX.map V.ref) v0X (by rw [zGH] at v1X ⊢;exact v1X)
  rw [zGN] at hyX
  cases etX:psX[vX.toNat]? with
  | none=>rw [etX] at hyX;cases hyX
  | some ttX=>
  rw [etX] at hyX
  have euX:V.ref ttX=uuX:=zGO hyX
  subst euX
  obtain ⟨rrX,erX,htX⟩:=xJ rdX _ ttX etX
  rw [zGN] at erX
  cases eeX:dsX[vX.toNat]? with
  | none=>rw [eeX] at erX;cases erX
  | some ddX=>
  rw [eeX] at erX
  have efX:hdV ddX=rrX:=zGO erX
  subst efX
  obtain ⟨jX,sX,dX,atX⟩:=gdX ddX (zGL eeX)
  refine ⟨dlX,_,vX,.ref ttX,rfl,rfl,edX,hxX,?_⟩
  refine ⟨_,rfl,_,rfl,(· ∈ P1),p,ttX,nm,nb,xs1,ss,i,ddX,jX,sX,dX,rfl,wbX.w1.ho,I,i60,l100,htX,atX,fun r x Hp ex hhp Rp np kp=>?_⟩
  have wp:=wbX.hou B ex hhp kp
  have htp:Hp ttX=some (.tup (hdV ddX)):=kp _ _ (fun hm=>wbX.w1.noX ex ttX hm _ htX) htX
  refine ⟨_,rfl,_,rfl,(· ∈ P2),st,ttX,ys2,ss,i,nb,ddX,jX,sX,dX,rfl,wp.w1.sa,I,i60,l100,htp,atX,fun r2 y Hm ey Sm _ _ km=>?_⟩
  have wm:=wp.sts B ey Sm km
  have htm:Hm ttX=some (.tup (hdV ddX)):=km _ _ (fun hm=>wp.w1.noY ey ttX hm _ htp) htp
  have Rm:=tO Rp km (wp.w1.farY B.b1 ey (wbX.w1.dm _ np)) (wp.w1.noY ey)
  refine ⟨_,rfl,_,rfl,_,rfl,(· ∈ P3),(· ∈ P1),se,p,ttX,ys3,nm,nb,xs1,ss,i,ddX,jX,sX,dX,rfl,wm.w3.at',wm.w1.ho,I,i59,l100,htm,atX,fun tp r3 u He eu hSe Re etp nr3 ke=>?_⟩
  have esX:=atX.here
  have wE:=wm.sea B esX (zHE (zGJ.mp esX).1) eu hSe ke
  have mu:=wm.w3.at'.2.1.2 u (zGL eu)
  have nr:r ∉ P3:=fun m=>wbX.w3.ex r m np
  have Rq:=tO Rm ke (fun hm=>wL B (Q:=fun c=>c=r->False) (fun q=>nr (q ▸ mu.1)) (fun q=>nr (q ▸ mu.2)) hm rfl) (wm.w3.at'.2.2.2.2 jX u sX eu esX).nt
  refine ⟨tp,_,rfl,.of etp,rfl,_,_,rfl,_,_,rfl,rfl,?_⟩
  obtain ⟨l1,l2⟩:=uN (yQ sX dX)
  obtain ⟨o1,o2⟩:=m5 (yQ sX dX) jX
  refine ⟨_,rfl,rfl,_,rfl,ifF rfl ?_⟩
  refine ⟨_,rfl,_,rfl,_,rfl,jX,r3,_,rfl,Re,l1,l2,fun r4 Hf Rf nf kf=>?_⟩
  refine ⟨.ref r,.ref r4,rfl,(sL (Rq.keep kf) Rf o1 o2).succ.succ,fun Hg kg=>⟨_,rfl,ifF rfl ?_⟩⟩
  have wG:=wE.on (kf.trans kg)
  have I':=I.deed atX
  have ls':(ss.set jX (zX (yQ sX dX)).1).length=ars.length:=by rw [zHI];exact ls
  generalize ss.set jX (zX (yQ sX dX)).1=ss' at wG I' ls'
  have esrcX2:Hg src=some (.lst [.int aX,.int c1,.int cX]):=by
   have h1:=kp _ _ (wbX.w1.farX B.b1 ex Zs1) ebX
   have h2:=km _ _ (wp.w1.farY B.b1 ey Zs1) h1
   have h3:=ke _ _ (fun hm=>wL B (Q:=fun c=>c=src->False) (fun q=>Zs3 (q ▸ mu.1)) (fun q=>Zs3 (q ▸ mu.2)) hm rfl) h2
   exact (kf.trans kg) _ _ (by simp) h3
  refine dE ?_
  refine zCF (fun σ' H'=>∃ (s2':List SS) (v14 v15:Option V),σ'=[some (.ref a),some (.str nm),some (.ref nl),some (.ref wl),some (.ref al),some (.ref hd),some (.ref p),some (.ref p4),some (.ref se),some (.ref st),some (.ref sa),some (.int cell),some (.ref src),some (.int ag),v14,v15,some (.ref r),some (.int (jX:Int)),some (.ref r3)]/\W5 Z1 Z2 P1 P2 P3 P4 P5 C CS p p4 st sa se nm nb xs1 ys2 xs4 ys5 ys3 H' ss' ss' ss' s2' s2'/\vY (i + 1) s2'/\s2'.length=ars.length) ?_ ?_
  ·rintro σ' H' ⟨s2',v14,v15,rfl,wH,IH,lH⟩
   refine ⟨_,rfl,_,rfl,(· ∈ P3),(· ∈ P1),se,p,ys3,nm,nb,xs1,ss',i + 1,rfl,wH.w1.ho,wH.w3.at',I',i59,zGS (Nat.le_of_eq ls') ar100,fun Hh kh=>⟨_,rfl,ifF rfl ?_⟩⟩
   exact ⟨ss',s2',_,_,_,_,_,_,_,_,rfl,wH.on kh,I',IH,ls',lH⟩
  intro nx' hM
  refine ⟨_,rfl,_,_,rfl,rfl,_,rfl,?_⟩
  cases decide ((0:Int) < ag) with
  | false=>exact ifF rfl (hM _ _ ⟨s2,_,_,rfl,wG,I2.up,ls2⟩)
  | true=>
   refine ifT rfl ?_
   refine ⟨_,rfl,_,rfl,_,rfl,(· ∈ P5),sa,al,nl,ys5,s2,i,as,nb,rfl,wG.w2.sa,I2,ns2,l102,inZ wG al5,inZ wG en5,gas,gnb,las,nb20,fun dlW dsW HaW RW gdW ldW ndW hdlW kaW=>?_⟩
   have waW:=wG.on kaW
   obtain ⟨psW,eWd,rWd⟩:=id RW
   have lpsW:=zP rWd
   rw [zGH] at lpsW
   have dposW:0 < dsW.length:=zG7.mpr (ndW nas)
   have esW:=kaW _ _ (by simp) esrcX2
   refine ⟨_,rfl,_,rfl,_,rfl,_,_,rfl,.inl ⟨_,.of eWd,rfl⟩,src,_,c1,_,_,rfl,esW,by rw [zGH];omega,by rw [zGH];omega,fun vW aW cW v0W v1W=>?_⟩
   have kbW:zD [src] HaW (upd HaW src (.lst [.int aW,.int c1,.int cW])):=zD.at (by simp)
   have ebW:upd HaW src (.lst [.int aW,.int c1,.int cW]) src=some (.lst [.int aW,.int c1,.int cW]):=zB
   have ntW:∀ c ∈ [src],∀ xs,HaW c ≠ some (.tup xs):=fun c hc xs z=>by rw [zGK.mp hc,esW] at z;cases z
   have dnW:dlW ≠ src:=Ne.symm (zH esrcX2 hdlW)
   have edW:=kbW _ _ (by simp [dnW]) eWd
   have rdW:=zK kbW ntW rWd
   have wbW:=waW.new B kbW Zs1 Zs2 Zs3 (fun xs=>ntW src (by simp) xs)
   generalize upd HaW src (.lst [.int aW,.int c1,.int cW])=HD at kbW edW rdW wbW ebW ⊢
   obtain ⟨uuW,hxW,hyW⟩:=tX (xs:=psW.map V.ref) v0W (by rw [zGH] at v1W ⊢;exact v1W)
   rw [zGN] at hyW
   cases etW:psW[vW.toNat]? with
   | none=>rw [etW] at hyW;cases hyW
   | some ttW=>
   rw [etW] at hyW
   have euW:V.ref ttW=uuW:=zGO hyW
   subst euW
   obtain ⟨rrW,erW,htW⟩:=xJ rdW _ ttW etW
   rw [zGN] at erW
   cases eeW:dsW[vW.toNat]? with
   | none=>rw [eeW] at erW;cases erW
   | some ddW=>
   rw [eeW] at erW
   have efW:hdV ddW=rrW:=zGO erW
   subst efW
   obtain ⟨jW,sW,dW,atW⟩:=gdW ddW (zGL eeW)
   refine ⟨dlW,_,vW,.ref ttW,rfl,rfl,edW,hxW,?_⟩
   refine ⟨_,rfl,_,rfl,(· ∈ P4),p4,ttW,nm,nb,xs4,s2,i,ddW,jW,sW,dW,rfl,wbW.w2.ho,I2,i60,l1002,htW,atW,fun rq x4 Hp4 ex4 hhp4 Rp4 np4 kp4=>?_⟩
   have wp4:=wbW.hou4 B ex4 hhp4 kp4
   have htp4:Hp4 ttW=some (.tup (hdV ddW)):=kp4 _ _ (fun hm=>wbW.w2.noX ex4 ttW hm _ htW) htW
   refine ⟨_,rfl,_,rfl,(· ∈ P5),sa,ttW,ys5,s2,i,nb,ddW,jW,sW,dW,rfl,wp4.w2.sa,I2,i60,l1002,htp4,atW,fun rw' y5 Hm5 ey5 Sm5 Rm5 _ km5=>?_⟩
   have wm5:=wp4.sts5 B ey5 Sm5 km5
   have Rm4:=tO Rp4 km5 (wp4.w2.farY B.b2 ey5 (wbW.w2.dm _ np4)) (wp4.w2.noY ey5)
   obtain ⟨o3,o4⟩:=m5 (yQ sW dW) jW
   refine ⟨.ref rq,.ref rw',rfl,(sL Rm4 Rm5 o3 o4).succ.succ,fun Hh kh=>⟨_,rfl,ifF rfl ?_⟩⟩
   exact hM _ _ ⟨_,_,_,rfl,wm5.on kh,I2.deed atW,by rw [zHI];exact ls2⟩
 ·rintro σ H1 ⟨ss,s2,v11,v12,v13,v14,v15,v16,v17,v18,rfl,w,_,_,_,_⟩
  have ew5:=k25 _ _ (by simp) ew
  refine ⟨_,rfl,_,rfl,_,rfl,by show 2 <= sizeLine;decide,fun l hl=>?_⟩
  have kl:zD [] H1 (upd H1 l (.lst [.ref nl,.ref wl])):=zD.new hl
  have wl':=w.on kl
  refine ⟨hd,l,_,_,rfl,rfl,inZ wl' e5d,zB,rfl,fun i u v e1 e2=>?_,fin _⟩
  have fl:∀ {H:Hp} {x y:V} {xs:List V} {j:Nat},(∀ z ∈ xs,y1 z=true)->xs[j]?=some x->xs[j]?=some y->zA9 H 2 x y:=fun hz h1 h2=>by
   rw [h1] at h2
   cases h2
   exact .inl ⟨rfl,.inl (hz _ (zGL h1))⟩
  match i,e1,e2 with
  | 0,e1,e2=>
   cases e1;cases e2
   exact .inr ⟨h0,nl,_,_,rfl,rfl,.inl ⟨inZ wl' e50,inZ wl' en5⟩,rfl,fun j x y h1 h2=>fl (fun z hz=>by obtain ⟨q,_,rfl⟩:=List.mem_map.mp hz;rfl) h1 h2⟩
  | 1,e1,e2=>
   cases e1;cases e2
   exact .inr ⟨h1,wl,_,_,rfl,rfl,.inl ⟨inZ wl' e51,inZ wl' ew5⟩,rfl,fun j x y h1 h2=>fl (fun z hz=>by obtain ⟨q,_,rfl⟩:=List.mem_map.mp hz;exact sT q) h1 h2⟩
  | n + 2,e1,e2=>simp at e1
end
end K26
section
open PySem PySem.W PyProof.Rows
set_option maxHeartbeats 0
noncomputable section
namespace HD
open PySem PySem.W L2
variable (P:Params)
def tp (i:Nat):Stmt:=PySem.Challenge.pw_treeright_k26_whole_seats_side_by_side.main.body.getD i (.Pass ⟨0,0,0,0⟩)
def ic (i j:Nat):Stmt:=yL (tp i) j
abbrev N:=@BT.node
abbrev L:=BT.nil
noncomputable def en (P:Params) (k:Str) (t:Nat) (v:Value):DictEntry:=⟨PyData.keyHash P k,.str k t,v⟩
noncomputable def h0 (a0:Str) (a1:Nat) (a2:Str) (a3:Nat):Obj:=⟨(.type "tuple"),none,(Data.seq #[(.str a0 a1),(.str a2 a3)] 0),#[]⟩
noncomputable def o0:Obj:=h0 "self" 452 "asker" 453
noncomputable def o7:Obj:=h0 "self" 365 "arrow" 366
noncomputable def o17:Obj:=h0 "self" 623 "right" 624
noncomputable def o30:Obj:=h0 "self" 615 "right" 616
noncomputable def o148:Obj:=h0 "_law_house" 842 "_law_deed" 843
noncomputable def o159:Obj:=h0 "self" 639 "right" 640
noncomputable def o164:Obj:=h0 "self" 428 "arrow" 429
noncomputable def o174:Obj:=h0 "self" 444 "asker" 445
noncomputable def o185:Obj:=h0 "self" 631 "right" 632
noncomputable def o202:Obj:=h0 "right" 522 "many" 523
noncomputable def o246:Obj:=h0 "thing" 508 "name" 509
noncomputable def o250:Obj:=h0 "self" 460 "house" 461
noncomputable def o252:Obj:=h0 "self" 607 "right" 608
noncomputable def o297:Obj:=h0 "_law_script" 713 "_law_k" 714
noncomputable def o320:Obj:=h0 "self" 436 "asker" 437
noncomputable def o356:Obj:=h0 "thing" 316 "houses" 317
noncomputable def h1 (a0:Str) (a1:Nat) (a2:Nat) (a3:Nat) (a4:Int) (a5:Nat) (a6:Nat) (a7:Int) (a8:Nat):Obj:=⟨(.type "code"),none,(Data.fields #[(.str a0 a1),(.str a0 a2),(.str "/claim/cut.py" a3),(.int a4 0),(.int 0 0),(.int 0 0),(.int 0 0),(.int 0 0),(.ref a5),(.bool false),(.int 181 0),(.ref a6),.none,.none,.none,.none,(.int a7 0),(.int a4 0),(.str "/claim/cut.py" a8)]),#[]⟩
noncomputable def o1:Obj:=h1 "Seat" 352 353 354 39 143 144 355 356
noncomputable def o135:Obj:=h1 "NoSeat" 232 233 234 9 50 51 235 236
noncomputable def o171:Obj:=h1 "NoHouse" 216 217 218 7 38 39 219 220
noncomputable def o187:Obj:=h1 "TreeError" 198 199 200 5 25 26 201 202
noncomputable def o210:Obj:=h1 "<module>" 182 183 184 1 11 12 185 186
noncomputable def o214:Obj:=h1 "House" 535 536 537 150 298 299 538 539
noncomputable def o217:Obj:=h1 "NoAsker" 248 249 250 11 62 63 251 252
noncomputable def o272:Obj:=h1 "NoRight" 280 281 282 15 86 87 283 284
noncomputable def o318:Obj:=h1 "NoLetter" 264 265 266 13 74 75 267 268
noncomputable def h2 (a0:Str) (a1:Str) (a2:Stmt) (a3:Str) (a4:Nat) (a5:Nat):Obj:=⟨(.type "function"),none,(Data.func ⟨a0,a1,(wF a2),(FuncBody.stmts (xT a2)),(zG a2),3,[],.none,.none,.none,(.str a3 a4),none,(.ref a5),.none,0⟩),#[]⟩
noncomputable def o2:Obj:=h2 "row" "Seat.row" (ic 19 2) "treeright.seats" 334 166
noncomputable def o3:Obj:=h2 "want" "Seat.want" (ic 19 10) "treeright.seats" 334 220
noncomputable def o6:Obj:=h2 "_law_state" "_law_state" (tp 35) "law_treeright_k26_whole_seats_side_by_side" 708 489
noncomputable def o29:Obj:=h2 "done" "Seat.done" (ic 19 12) "treeright.seats" 334 234
noncomputable def o31:Obj:=h2 "_law_mixed" "_law_mixed" (tp 28) "law_treeright_k26_whole_seats_side_by_side" 708 446
noncomputable def o32:Obj:=h2 "settle" "House.settle" (ic 25 14) "treeright.houses" 503 401
noncomputable def o33:Obj:=h2 "_law_names" "_law_names" (tp 31) "law_treeright_k26_whole_seats_side_by_side" 708 465
noncomputable def o37:Obj:=h2 "_law_moved" "_law_moved" (tp 36) "law_treeright_k26_whole_seats_side_by_side" 708 496
noncomputable def o42:Obj:=h2 "__init__" "Seat.__init__" (ic 19 0) "treeright.seats" 334 152
noncomputable def o45:Obj:=h2 "done" "House.done" (ic 25 3) "treeright.houses" 503 326
noncomputable def o47:Obj:=h2 "askers" "Seat.askers" (ic 19 5) "treeright.seats" 334 185
noncomputable def o50:Obj:=h2 "settle" "Seat.settle" (ic 19 9) "treeright.seats" 334 213
noncomputable def o51:Obj:=h2 "check_asker" "check_asker" (tp 17) "treeright.seats" 334 131
noncomputable def o61:Obj:=h2 "want" "House.want" (ic 25 1) "treeright.houses" 503 312
noncomputable def o63:Obj:=h2 "_law_next" "_law_next" (tp 30) "law_treeright_k26_whole_seats_side_by_side" 708 460
noncomputable def o70:Obj:=h2 "move_on" "House.move_on" (ic 25 11) "treeright.houses" 503 380
noncomputable def o77:Obj:=h2 "arrow" "Seat.arrow" (ic 19 1) "treeright.seats" 334 159
noncomputable def o78:Obj:=h2 "ask" "Seat.ask" (ic 19 13) "treeright.seats" 334 241
noncomputable def o80:Obj:=h2 "check_letter" "House.check_letter" (ic 25 18) "treeright.houses" 503 425
noncomputable def o82:Obj:=h2 "state" "House.state" (ic 25 13) "treeright.houses" 503 394
noncomputable def o98:Obj:=h2 "arrow" "House.arrow" (ic 25 7) "treeright.houses" 503 352
noncomputable def o101:Obj:=h2 "row" "House.row" (ic 25 8) "treeright.houses" 503 359
noncomputable def o108:Obj:=h2 "leave" "House.leave" (ic 25 2) "treeright.houses" 503 319
noncomputable def o109:Obj:=h2 "best_right" "House.best_right" (ic 25 17) "treeright.houses" 503 418
noncomputable def o110:Obj:=h2 "_law_good_deeds" "_law_good_deeds" (tp 41) "law_treeright_k26_whole_seats_side_by_side" 708 527
noncomputable def o121:Obj:=h2 "come" "Seat.come" (ic 19 14) "treeright.seats" 334 248
noncomputable def o139:Obj:=h2 "are_neighbours" "are_neighbours" (tp 21) "treeright.houses" 503 276
noncomputable def o141:Obj:=h2 "come" "House.come" (ic 25 5) "treeright.houses" 503 340
noncomputable def o169:Obj:=h2 "check_right" "check_right" (tp 23) "treeright.houses" 503 288
noncomputable def o173:Obj:=h2 "leave" "Seat.leave" (ic 19 11) "treeright.seats" 334 227
noncomputable def o186:Obj:=h2 "ask" "House.ask" (ic 25 4) "treeright.houses" 503 333
noncomputable def o188:Obj:=h2 "twin" "Seat.twin" (ic 19 7) "treeright.seats" 334 199
noncomputable def o197:Obj:=h2 "crowd" "Seat.crowd" (ic 19 6) "treeright.seats" 334 192
noncomputable def o198:Obj:=h2 "_law_side_by_side" "_law_side_by_side" (tp 45) "law_treeright_k26_whole_seats_side_by_side" 708 551
noncomputable def o201:Obj:=h2 "law" "law" (tp 46) "law_treeright_k26_whole_seats_side_by_side" 708 556
noncomputable def o205:Obj:=h2 "right_of" "House.right_of" (ic 25 16) "treeright.houses" 503 413
noncomputable def o211:Obj:=h2 "_law_put" "_law_put" (tp 43) "law_treeright_k26_whole_seats_side_by_side" 708 541
noncomputable def o212:Obj:=h2 "are_names" "are_names" (tp 14) "treeright.trees" 294 117
noncomputable def o215:Obj:=h2 "_law_at_seat" "_law_at_seat" (tp 44) "law_treeright_k26_whole_seats_side_by_side" 708 546
noncomputable def o219:Obj:=h2 "check_house" "check_house" (tp 18) "treeright.seats" 334 138
noncomputable def o220:Obj:=h2 "serve_first" "Seat.serve_first" (ic 19 16) "treeright.seats" 334 262
noncomputable def o224:Obj:=h2 "has_asked" "Seat.has_asked" (ic 19 4) "treeright.seats" 334 180
noncomputable def o226:Obj:=h2 "__init__" "House.__init__" (ic 25 0) "treeright.houses" 503 305
noncomputable def o245:Obj:=h2 "is_name" "is_name" (tp 11) "treeright.trees" 294 98
noncomputable def o257:Obj:=h2 "inside" "House.inside" (ic 25 9) "treeright.houses" 503 366
noncomputable def o268:Obj:=h2 "askers" "House.askers" (ic 25 6) "treeright.houses" 503 345
noncomputable def o271:Obj:=h2 "has_asked" "House.has_asked" (ic 25 10) "treeright.houses" 503 373
noncomputable def o275:Obj:=h2 "are_unlike" "are_unlike" (tp 15) "treeright.trees" 294 124
noncomputable def o277:Obj:=h2 "inside" "Seat.inside" (ic 19 3) "treeright.seats" 334 173
noncomputable def o285:Obj:=h2 "_law_chosen" "_law_chosen" (tp 38) "law_treeright_k26_whole_seats_side_by_side" 708 510
noncomputable def o290:Obj:=h2 "_law_digits" "_law_digits" (tp 29) "law_treeright_k26_whole_seats_side_by_side" 708 453
noncomputable def o292:Obj:=h2 "_law_told" "_law_told" (tp 33) "law_treeright_k26_whole_seats_side_by_side" 708 477
noncomputable def o296:Obj:=h2 "_law_cell_at" "_law_cell_at" (tp 27) "law_treeright_k26_whole_seats_side_by_side" 708 439
noncomputable def o299:Obj:=h2 "move_on" "Seat.move_on" (ic 19 15) "treeright.seats" 334 255
noncomputable def o302:Obj:=h2 "rights_wanted" "House.rights_wanted" (ic 25 15) "treeright.houses" 503 406
noncomputable def o308:Obj:=h2 "_law_numbered" "_law_numbered" (tp 40) "law_treeright_k26_whole_seats_side_by_side" 708 522
noncomputable def o311:Obj:=h2 "state" "Seat.state" (ic 19 8) "treeright.seats" 334 206
noncomputable def o312:Obj:=h2 "_law_made_at" "_law_made_at" (tp 37) "law_treeright_k26_whole_seats_side_by_side" 708 503
noncomputable def o315:Obj:=h2 "_wall" "_wall" (tp 0) "__main__" 164 20
noncomputable def o316:Obj:=h2 "twin" "House.twin" (ic 25 12) "treeright.houses" 503 387
noncomputable def o323:Obj:=h2 "_law_made" "_law_made" (tp 34) "law_treeright_k26_whole_seats_side_by_side" 708 482
noncomputable def o326:Obj:=h2 "_law_done" "_law_done" (tp 42) "law_treeright_k26_whole_seats_side_by_side" 708 534
noncomputable def o330:Obj:=h2 "_law_alike" "_law_alike" (tp 32) "law_treeright_k26_whole_seats_side_by_side" 708 470
noncomputable def o343:Obj:=h2 "_law_seat_of" "_law_seat_of" (tp 39) "law_treeright_k26_whole_seats_side_by_side" 708 517
noncomputable def o346:Obj:=h2 "is_one_of" "is_one_of" (tp 13) "treeright.trees" 294 112
noncomputable def o347:Obj:=h2 "is_whole" "is_whole" (tp 12) "treeright.trees" 294 105
noncomputable def o352:Obj:=h2 "numbered" "numbered" (tp 24) "treeright.houses" 503 293
noncomputable def o355:Obj:=h2 "are_arrows" "are_arrows" (tp 22) "treeright.houses" 503 281
noncomputable def h3 (a0:Str) (a1:Nat) (a2:Str) (a3:Nat) (a4:Nat) (a5:Int) (a6:Int) (a7:Nat) (a8:Nat) (a9:Nat) (a10:Int) (a11:Nat):Obj:=⟨(.type "code"),none,(Data.fields #[(.str a0 a1),(.str a2 a3),(.str "/claim/cut.py" a4),(.int a5 0),(.int a6 0),(.int 0 0),(.int 0 0),(.int 3 0),(.ref a7),(.bool true),(.int 181 0),(.ref a8),.none,.none,.none,(.ref a9),(.int a10 0),(.int a5 0),(.str "/claim/cut.py" a11)]),#[]⟩
noncomputable def o4:Obj:=h3 "_law_made" 765 "_law_made" 766 767 273 1 479 480 481 768 769
noncomputable def o16:Obj:=h3 "_law_alike" 749 "_law_alike" 750 751 260 2 467 468 469 752 753
noncomputable def o19:Obj:=h3 "_law_numbered" 818 "_law_numbered" 819 820 332 2 519 520 521 821 822
noncomputable def o24:Obj:=h3 "askers" 598 "House.askers" 599 600 188 1 342 343 344 601 602
noncomputable def o54:Obj:=h3 "askers" 398 "Seat.askers" 399 400 61 1 182 183 184 401 402
noncomputable def o92:Obj:=h3 "law" 859 "law" 860 861 397 1 553 554 555 862 863
noncomputable def o103:Obj:=h3 "rights_wanted" 667 "House.rights_wanted" 668 669 219 1 403 404 405 670 671
noncomputable def o163:Obj:=h3 "_law_good_deeds" 824 "_law_good_deeds" 825 826 334 3 524 525 526 827 828
noncomputable def o177:Obj:=h3 "__init__" 545 "House.__init__" 546 547 152 4 302 303 304 548 549
noncomputable def o189:Obj:=h3 "are_names" 321 "are_names" 322 323 28 1 114 115 116 324 325
noncomputable def o200:Obj:=h3 "is_name" 300 "is_name" 301 302 20 1 95 96 97 303 304
noncomputable def o231:Obj:=h3 "are_arrows" 513 "are_arrows" 514 515 141 2 278 279 280 516 517
noncomputable def o240:Obj:=h3 "_law_at_seat" 847 "_law_at_seat" 848 849 370 3 543 544 545 850 851
noncomputable def o241:Obj:=h3 "numbered" 527 "numbered" 528 529 148 2 290 291 292 530 531
noncomputable def o335:Obj:=h3 "_law_side_by_side" 853 "_law_side_by_side" 854 855 386 2 548 549 550 856 857
noncomputable def o345:Obj:=h3 "_law_names" 743 "_law_names" 744 745 255 2 462 463 464 746 747
noncomputable def o351:Obj:=h3 "best_right" 682 "House.best_right" 683 684 229 1 415 416 417 685 686
noncomputable def o5:Obj:=⟨(.type "tuple"),none,(Data.seq #[] 0),#[]⟩
noncomputable def o8:Obj:=⟨.none,none,(Data.fields #[(.int 1 0),(.int 0 0),(.ref 20),(.int 5 0),(.int 0 0),(.ref 27),(.int 7 0),(.int 0 0),(.ref 40)]),#[]⟩
noncomputable def h4 (a0:Str) (a1:Nat) (a2:Str) (a3:Nat) (a4:Nat) (a5:Int) (a6:Int) (a7:Nat) (a8:Nat) (a9:Nat) (a10:Nat) (a11:Nat) (a12:Int) (a13:Nat):Obj:=⟨(.type "code"),none,(Data.fields #[(.str a0 a1),(.str a2 a3),(.str "/claim/cut.py" a4),(.int a5 0),(.int a6 0),(.int 0 0),(.int 0 0),(.int 3 0),(.ref a7),(.bool true),(.int 181 0),(.ref a8),.none,(.ref a9),(.ref a10),(.ref a11),(.int a12 0),(.int a5 0),(.str "/claim/cut.py" a13)]),#[]⟩
noncomputable def o9:Obj:=h4 "ask" 579 "House.ask" 580 581 180 3 328 329 330 331 332 585 586
noncomputable def o15:Obj:=h4 "is_one_of" 313 "is_one_of" 314 315 26 2 107 108 109 110 111 318 319
noncomputable def o27:Obj:=h4 "has_asked" 628 "House.has_asked" 629 630 203 2 368 369 370 371 372 633 634
noncomputable def o34:Obj:=h4 "has_asked" 391 "Seat.has_asked" 392 393 58 1 175 176 177 178 179 395 396
noncomputable def o35:Obj:=h4 "done" 570 "House.done" 571 572 176 2 321 322 323 324 325 576 577
noncomputable def o43:Obj:=h4 "_law_digits" 727 "_law_digits" 728 729 246 1 448 449 450 451 452 731 732
noncomputable def o44:Obj:=h4 "come" 588 "House.come" 589 590 184 4 335 336 337 338 339 595 596
noncomputable def o52:Obj:=h4 "crowd" 404 "Seat.crowd" 405 406 65 1 187 188 189 190 191 408 409
noncomputable def o65:Obj:=h4 "ask" 457 "Seat.ask" 458 459 98 2 236 237 238 239 240 462 463
noncomputable def o75:Obj:=h4 "_law_told" 755 "_law_told" 756 757 268 2 472 473 474 475 476 762 763
noncomputable def o79:Obj:=h4 "leave" 441 "Seat.leave" 442 443 84 2 222 223 224 225 226 446 447
noncomputable def o81:Obj:=h4 "twin" 644 "House.twin" 645 646 210 1 382 383 384 385 386 648 649
noncomputable def o85:Obj:=h4 "come" 465 "Seat.come" 466 467 107 3 243 244 245 246 247 471 472
noncomputable def o88:Obj:=h4 "check_asker" 336 "check_asker" 337 338 33 1 126 127 128 129 130 340 341
noncomputable def o94:Obj:=h4 "__init__" 362 "Seat.__init__" 363 364 41 2 147 148 149 150 151 367 368
noncomputable def o95:Obj:=h4 "done" 449 "Seat.done" 450 451 91 2 229 230 231 232 233 454 455
noncomputable def o100:Obj:=h4 "_law_seat_of" 809 "_law_seat_of" 810 811 327 2 512 513 514 515 516 815 816
noncomputable def o104:Obj:=h4 "want" 433 "Seat.want" 434 435 77 2 215 216 217 218 219 438 439
noncomputable def o105:Obj:=h4 "serve_first" 481 "Seat.serve_first" 482 483 129 1 257 258 259 260 261 488 489
noncomputable def o107:Obj:=h4 "settle" 425 "Seat.settle" 426 427 74 2 208 209 210 211 212 430 431
noncomputable def o117:Obj:=h4 "state" 651 "House.state" 652 653 213 1 389 390 391 392 393 655 656
noncomputable def o118:Obj:=h4 "_law_chosen" 797 "_law_chosen" 798 799 317 1 505 506 507 508 509 806 807
noncomputable def o142:Obj:=h4 "arrow" 604 "House.arrow" 605 606 191 2 347 348 349 350 351 609 610
noncomputable def o144:Obj:=h4 "settle" 658 "House.settle" 659 660 216 3 396 397 398 399 400 664 665
noncomputable def o153:Obj:=h4 "arrow" 370 "Seat.arrow" 371 372 49 1 154 155 156 157 158 374 375
noncomputable def o161:Obj:=h4 "inside" 384 "Seat.inside" 385 386 55 1 168 169 170 171 172 388 389
noncomputable def o162:Obj:=h4 "are_unlike" 327 "are_unlike" 328 329 30 1 119 120 121 122 123 331 332
noncomputable def o178:Obj:=h4 "row" 377 "Seat.row" 378 379 52 1 161 162 163 164 165 381 382
noncomputable def o182:Obj:=h4 "right_of" 673 "House.right_of" 674 675 222 2 408 409 410 411 412 679 680
noncomputable def o184:Obj:=h4 "state" 418 "Seat.state" 419 420 71 1 201 202 203 204 205 422 423
noncomputable def o193:Obj:=h4 "leave" 561 "House.leave" 562 563 172 2 314 315 316 317 318 567 568
noncomputable def o194:Obj:=h4 "row" 612 "House.row" 613 614 195 2 354 355 356 357 358 617 618
noncomputable def o209:Obj:=h4 "_wall" 187 "_wall" 188 189 1 1 15 16 17 18 19 191 192
noncomputable def o216:Obj:=h4 "_law_made_at" 787 "_law_made_at" 788 789 301 2 498 499 500 501 502 794 795
noncomputable def o221:Obj:=h4 "_law_next" 734 "_law_next" 735 736 248 2 455 456 457 458 459 740 741
noncomputable def o227:Obj:=h4 "check_house" 343 "check_house" 344 345 36 1 133 134 135 136 137 347 348
noncomputable def o229:Obj:=h4 "inside" 620 "House.inside" 621 622 199 2 361 362 363 364 365 625 626
noncomputable def o230:Obj:=h4 "_law_moved" 778 "_law_moved" 779 780 286 1 491 492 493 494 495 784 785
noncomputable def o237:Obj:=h4 "want" 551 "House.want" 552 553 163 3 307 308 309 310 311 558 559
noncomputable def o243:Obj:=h4 "move_on" 474 "Seat.move_on" 475 476 119 1 250 251 252 253 254 478 479
noncomputable def o259:Obj:=h4 "_law_put" 839 "_law_put" 840 841 360 2 536 537 538 539 540 844 845
noncomputable def o260:Obj:=h4 "move_on" 636 "House.move_on" 637 638 207 2 375 376 377 378 379 641 642
noncomputable def o270:Obj:=h4 "check_letter" 688 "House.check_letter" 689 690 232 3 420 421 422 423 424 694 695
noncomputable def o273:Obj:=h4 "check_right" 519 "check_right" 520 521 145 2 283 284 285 286 287 524 525
noncomputable def o279:Obj:=h4 "twin" 411 "Seat.twin" 412 413 68 1 194 195 196 197 198 415 416
noncomputable def o319:Obj:=h4 "is_whole" 306 "is_whole" 307 308 24 1 100 101 102 103 104 310 311
noncomputable def o321:Obj:=h4 "are_neighbours" 505 "are_neighbours" 506 507 139 2 271 272 273 274 275 510 511
noncomputable def o336:Obj:=h4 "_law_done" 830 "_law_done" 831 832 351 2 529 530 531 532 533 836 837
noncomputable def o338:Obj:=h4 "_law_mixed" 718 "_law_mixed" 719 720 241 2 441 442 443 444 445 724 725
noncomputable def o344:Obj:=h4 "_law_state" 771 "_law_state" 772 773 284 1 484 485 486 487 488 775 776
noncomputable def o350:Obj:=h4 "_law_cell_at" 710 "_law_cell_at" 711 712 237 2 434 435 436 437 438 715 716
noncomputable def o10:Obj:=⟨.none,none,(Data.fields #[]),#[]⟩
noncomputable def o11:Obj:=⟨(.type "dict"),none,(Data.dict #[en P "__name__" 165 (.str "treeright.seats" 334),en P "__doc__" 166 .none,en P "__package__" 167 .none,en P "__loader__" 168 (.builtin "__main__.__loader__#opaque"),en P "__spec__" 169 .none,en P "__annotations__" 170 (.ref 6),en P "__builtins__" 171 (.ref 4),en P "__file__" 173 (.str "/claim/cut.py" 172),en P "__cached__" 174 .none,en P "_wall" 193 (.ref 21),en P "TreeError" 213 (.ref 31),en P "NoHouse" 229 (.ref 44),en P "NoSeat" 245 (.ref 56),en P "NoAsker" 261 (.ref 68),en P "NoLetter" 277 (.ref 80),en P "NoRight" 293 (.ref 92),en P "LETTERS" 297 (.str "abcdefghijklmnopqrstuvwxyz" 296),en P "LONGEST_NAME" 299 (.int 8 298),en P "is_name" 305 (.ref 99),en P "is_whole" 312 (.ref 106),en P "is_one_of" 320 (.ref 113),en P "are_names" 326 (.ref 118),en P "are_unlike" 333 (.ref 125)] 23),#[]⟩
noncomputable def h5 (a0:Str) (a1:Str) (a2:Stmt):Obj:=⟨.none,none,(Data.func ⟨a0,a1,(wF a2),(FuncBody.stmts (xT a2)),(zG a2),0,[],.none,.none,.none,.none,none,.none,.none,0⟩),#[]⟩
noncomputable def o12:Obj:=h5 "arrow" "Seat.arrow" (ic 19 1)
noncomputable def o13:Obj:=h5 "come" "House.come" (ic 25 5)
noncomputable def o14:Obj:=h5 "_law_moved" "_law_moved" (tp 36)
noncomputable def o21:Obj:=h5 "__init__" "House.__init__" (ic 25 0)
noncomputable def o23:Obj:=h5 "_law_cell_at" "_law_cell_at" (tp 27)
noncomputable def o25:Obj:=h5 "arrow" "House.arrow" (ic 25 7)
noncomputable def o26:Obj:=h5 "leave" "House.leave" (ic 25 2)
noncomputable def o36:Obj:=h5 "twin" "Seat.twin" (ic 19 7)
noncomputable def o46:Obj:=h5 "askers" "Seat.askers" (ic 19 5)
noncomputable def o49:Obj:=h5 "best_right" "House.best_right" (ic 25 17)
noncomputable def o59:Obj:=h5 "is_name" "is_name" (tp 11)
noncomputable def o60:Obj:=h5 "_law_state" "_law_state" (tp 35)
noncomputable def o62:Obj:=h5 "want" "House.want" (ic 25 1)
noncomputable def o68:Obj:=h5 "_law_done" "_law_done" (tp 42)
noncomputable def o69:Obj:=h5 "_law_told" "_law_told" (tp 33)
noncomputable def o73:Obj:=h5 "_law_made" "_law_made" (tp 34)
noncomputable def o87:Obj:=h5 "law" "law" (tp 46)
noncomputable def o90:Obj:=h5 "want" "Seat.want" (ic 19 10)
noncomputable def o91:Obj:=h5 "inside" "House.inside" (ic 25 9)
noncomputable def o93:Obj:=h5 "ask" "House.ask" (ic 25 4)
noncomputable def o97:Obj:=h5 "row" "House.row" (ic 25 8)
noncomputable def o102:Obj:=h5 "__init__" "Seat.__init__" (ic 19 0)
noncomputable def o114:Obj:=h5 "check_house" "check_house" (tp 18)
noncomputable def o115:Obj:=h5 "ask" "Seat.ask" (ic 19 13)
noncomputable def o122:Obj:=h5 "row" "Seat.row" (ic 19 2)
noncomputable def o128:Obj:=h5 "has_asked" "Seat.has_asked" (ic 19 4)
noncomputable def o134:Obj:=h5 "_law_next" "_law_next" (tp 30)
noncomputable def o136:Obj:=h5 "settle" "House.settle" (ic 25 14)
noncomputable def o145:Obj:=h5 "_law_numbered" "_law_numbered" (tp 40)
noncomputable def o146:Obj:=h5 "has_asked" "House.has_asked" (ic 25 10)
noncomputable def o147:Obj:=h5 "askers" "House.askers" (ic 25 6)
noncomputable def o150:Obj:=h5 "right_of" "House.right_of" (ic 25 16)
noncomputable def o152:Obj:=h5 "_law_side_by_side" "_law_side_by_side" (tp 45)
noncomputable def o155:Obj:=h5 "_law_made_at" "_law_made_at" (tp 37)
noncomputable def o157:Obj:=h5 "settle" "Seat.settle" (ic 19 9)
noncomputable def o158:Obj:=h5 "_law_alike" "_law_alike" (tp 32)
noncomputable def o175:Obj:=h5 "done" "House.done" (ic 25 3)
noncomputable def o180:Obj:=h5 "crowd" "Seat.crowd" (ic 19 6)
noncomputable def o181:Obj:=h5 "_law_seat_of" "_law_seat_of" (tp 39)
noncomputable def o190:Obj:=h5 "move_on" "House.move_on" (ic 25 11)
noncomputable def o191:Obj:=h5 "_law_mixed" "_law_mixed" (tp 28)
noncomputable def o192:Obj:=h5 "_law_chosen" "_law_chosen" (tp 38)
noncomputable def o195:Obj:=h5 "_law_names" "_law_names" (tp 31)
noncomputable def o196:Obj:=h5 "_law_digits" "_law_digits" (tp 29)
noncomputable def o203:Obj:=h5 "twin" "House.twin" (ic 25 12)
noncomputable def o223:Obj:=h5 "is_whole" "is_whole" (tp 12)
noncomputable def o225:Obj:=h5 "state" "Seat.state" (ic 19 8)
noncomputable def o234:Obj:=h5 "are_neighbours" "are_neighbours" (tp 21)
noncomputable def o238:Obj:=h5 "move_on" "Seat.move_on" (ic 19 15)
noncomputable def o263:Obj:=h5 "serve_first" "Seat.serve_first" (ic 19 16)
noncomputable def o264:Obj:=h5 "are_names" "are_names" (tp 14)
noncomputable def o266:Obj:=h5 "check_right" "check_right" (tp 23)
noncomputable def o274:Obj:=h5 "check_asker" "check_asker" (tp 17)
noncomputable def o282:Obj:=h5 "come" "Seat.come" (ic 19 14)
noncomputable def o286:Obj:=h5 "leave" "Seat.leave" (ic 19 11)
noncomputable def o287:Obj:=h5 "_law_good_deeds" "_law_good_deeds" (tp 41)
noncomputable def o294:Obj:=h5 "inside" "Seat.inside" (ic 19 3)
noncomputable def o298:Obj:=h5 "are_unlike" "are_unlike" (tp 15)
noncomputable def o303:Obj:=h5 "_law_put" "_law_put" (tp 43)
noncomputable def o305:Obj:=h5 "_law_at_seat" "_law_at_seat" (tp 44)
noncomputable def o306:Obj:=h5 "are_arrows" "are_arrows" (tp 22)
noncomputable def o307:Obj:=h5 "rights_wanted" "House.rights_wanted" (ic 25 15)
noncomputable def o310:Obj:=h5 "check_letter" "House.check_letter" (ic 25 18)
noncomputable def o325:Obj:=h5 "done" "Seat.done" (ic 19 12)
noncomputable def o337:Obj:=h5 "state" "House.state" (ic 25 13)
noncomputable def o341:Obj:=h5 "is_one_of" "is_one_of" (tp 13)
noncomputable def o349:Obj:=h5 "numbered" "numbered" (tp 24)
noncomputable def o359:Obj:=h5 "_wall" "_wall" (tp 0)
noncomputable def o18:Obj:=⟨.none,none,(Data.fields #[(.int 1 0),(.int 0 0),(.ref 20),(.int 5 0),(.int 0 0),(.ref 27)]),#[]⟩
noncomputable def h6 (a0:Str) (a1:Nat) (a2:Nat) (a3:Nat) (a4:Nat) (a5:Nat):Obj:=⟨(.type "type"),none,(Data.cls ⟨a0,[(.ref 31)],[(.ref a1),(.ref 31),(.type "ValueError"),(.type "Exception"),(.type "BaseException"),(.type "object")],a2,a0,true,[],[],false,none,false⟩),#[(some (.ref a3)),none,(some (.str a0 a4)),(some (.str a0 a5)),(some (.builtin "ValueError.__new__")),(some (.bool true))]⟩
noncomputable def o20:Obj:=h6 "NoHouse" 44 43 35 214 222
noncomputable def o269:Obj:=h6 "NoLetter" 80 79 71 262 270
noncomputable def o295:Obj:=h6 "NoRight" 92 91 83 278 286
noncomputable def o328:Obj:=h6 "NoSeat" 56 55 47 230 238
noncomputable def o331:Obj:=h6 "NoAsker" 68 67 59 246 254
noncomputable def h7 (a0:Nat) (a1:Nat) (a2:Str) (a3:Nat):Obj:=⟨(.type "frame"),none,Data.plain,#[(some (.ref a0)),(some (.ref 3)),(some (.ref a1)),none,(some (.str a2 a3)),none,(some (.ref 0))]⟩
noncomputable def o22:Obj:=h7 300 297 "treeright.houses" 503
noncomputable def o53:Obj:=h7 64 61 "treeright.errors" 194
noncomputable def o96:Obj:=h7 13 3 "__main__" 164
noncomputable def o132:Obj:=h7 88 85 "treeright.errors" 194
noncomputable def o165:Obj:=h7 27 24 "treeright.errors" 194
noncomputable def o168:Obj:=h7 52 49 "treeright.errors" 194
noncomputable def o199:Obj:=h7 76 73 "treeright.errors" 194
noncomputable def o247:Obj:=h7 40 37 "treeright.errors" 194
noncomputable def o314:Obj:=h7 145 142 "treeright.seats" 334
noncomputable def h8 (a0:Str) (a1:Nat):Obj:=⟨(.type "tuple"),none,(Data.seq #[(.str a0 a1)] 0),#[]⟩
noncomputable def o28:Obj:=h8 "self" 373
noncomputable def o40:Obj:=h8 "self" 380
noncomputable def o48:Obj:=h8 "self" 414
noncomputable def o58:Obj:=h8 "self" 477
noncomputable def o83:Obj:=h8 "self" 407
noncomputable def o123:Obj:=h8 "names" 330
noncomputable def o130:Obj:=h8 "asker" 339
noncomputable def o138:Obj:=h8 "thing" 309
noncomputable def o151:Obj:=h8 "self" 394
noncomputable def o167:Obj:=h8 "self" 647
noncomputable def o170:Obj:=h8 "self" 421
noncomputable def o176:Obj:=h8 "_law_cell" 730
noncomputable def o249:Obj:=h8 "self" 387
noncomputable def o254:Obj:=h8 "_law_arrow" 774
noncomputable def o255:Obj:=h8 "house" 346
noncomputable def o333:Obj:=h8 "k" 190
noncomputable def o342:Obj:=h8 "self" 654
noncomputable def o38:Obj:=⟨(.type "dict"),none,(Data.dict #[en P "__module__" 203 (.str "treeright.errors" 194),en P "__firstlineno__" 207 (.int 5 206),en P "__static_attributes__" 208 (.ref 29),en P "__weakref__" 210 (.ref 32),en P "__doc__" 211 .none] 3),#[]⟩
noncomputable def h9 (a0:Int) (a1:Nat) (a2:Int) (a3:Nat) (a4:Int) (a5:Nat) (a6:Int) (a7:Nat) (a8:Int) (a9:Nat) (a10:Int) (a11:Nat) (a12:Int) (a13:Nat) (a14:Int) (a15:Nat) (a16:Int) (a17:Nat) (a18:Int) (a19:Nat) (a20:Int) (a21:Nat):Obj:=⟨.none,none,(Data.fields #[(.int a0 0),(.int 4 0),(.ref a1),(.int a2 0),(.int 4 0),(.ref a3),(.int a4 0),(.int 4 0),(.ref a5),(.int a6 0),(.int 4 0),(.ref a7),(.int a8 0),(.int 4 0),(.ref a9),(.int a10 0),(.int 4 0),(.ref a11),(.int a12 0),(.int 4 0),(.ref a13),(.int a14 0),(.int 4 0),(.ref a15),(.int a16 0),(.int 4 0),(.ref a17),(.int a18 0),(.int 4 0),(.ref a19),(.int a20 0),(.int 4 0),(.ref a21)]),#[]⟩
noncomputable def o39:Obj:=h9 152 305 163 312 172 319 176 326 180 333 184 340 188 345 191 352 195 359 199 366 203 373
noncomputable def o89:Obj:=h9 41 152 49 159 52 166 55 173 58 180 61 185 65 192 68 199 71 206 74 213 77 220
noncomputable def h10 (a0:Str) (a1:Nat) (a2:Str) (a3:Nat) (a4:Str) (a5:Nat):Obj:=⟨(.type "tuple"),none,(Data.seq #[(.str a0 a1),(.str a2 a3),(.str a4 a5)] 0),#[]⟩
noncomputable def o41:Obj:=h10 "_law_states" 812 "_law_asker" 813 "_law_right" 814
noncomputable def o57:Obj:=h10 "self" 676 "asker" 677 "wanted" 678
noncomputable def o131:Obj:=h10 "_law_states" 833 "_law_deed" 834 "_law_right" 835
noncomputable def o133:Obj:=h10 "self" 582 "house" 583 "right" 584
noncomputable def o140:Obj:=h10 "self" 564 "asker" 565 "right" 566
noncomputable def o179:Obj:=h10 "self" 573 "asker" 574 "right" 575
noncomputable def o183:Obj:=h10 "self" 468 "house" 469 "back" 470
noncomputable def o213:Obj:=h10 "self" 661 "neighbours" 662 "arrows" 663
noncomputable def o236:Obj:=h10 "_law_source" 737 "_law_many" 738 "_law_found" 739
noncomputable def o261:Obj:=h10 "name" 697 "nearby" 698 "seats" 699
noncomputable def o262:Obj:=h10 "_law_state_here" 781 "_law_word" 782 "_law_name" 783
noncomputable def o267:Obj:=h10 "self" 691 "house" 692 "right" 693
noncomputable def o278:Obj:=h10 "_law_cell" 721 "_law_k" 722 "_law_number" 723
noncomputable def h11 (a0:Str) (a1:Nat) (a2:Str) (a3:Nat) (a4:Str) (a5:Nat) (a6:Str) (a7:Nat):Obj:=⟨(.type "tuple"),none,(Data.seq #[(.str a0 a1),(.str a2 a3),(.str a4 a5),(.str a6 a7)] 0),#[]⟩
noncomputable def o55:Obj:=h11 "asked" 491 "holder" 492 "pointer" 493 "waiting" 494
noncomputable def o72:Obj:=h11 "self" 591 "house" 592 "right" 593 "back" 594
noncomputable def o86:Obj:=h11 "_law_state_here" 790 "_law_deed" 791 "_law_word" 792 "_law_name" 793
noncomputable def o111:Obj:=h11 "self" 554 "asker" 555 "right" 556 "number" 557
noncomputable def o119:Obj:=h11 "_law_house" 758 "_law_many" 759 "_law_found" 760 "_law_right" 761
noncomputable def o244:Obj:=h11 "self" 484 "kind" 485 "name" 486 "back" 487
noncomputable def h12 (a0:Nat):Obj:=⟨(.type "builtin_function_or_method"),none,(Data.fields #[(.builtin "object.__init_subclass__"),(.ref a0)]),#[]⟩
noncomputable def o56:Obj:=h12 31
noncomputable def o84:Obj:=h12 56
noncomputable def o113:Obj:=h12 266
noncomputable def o124:Obj:=h12 429
noncomputable def o242:Obj:=h12 80
noncomputable def o280:Obj:=h12 44
noncomputable def o288:Obj:=h12 68
noncomputable def o289:Obj:=h12 92
noncomputable def o64:Obj:=⟨.none,none,(Data.fields #[(.int 1 0),(.int 0 0),(.ref 20),(.int 5 0),(.int 0 0),(.ref 27),(.int 7 0),(.int 0 0),(.ref 40),(.int 9 0),(.int 0 0),(.ref 52),(.int 11 0),(.int 0 0),(.ref 64),(.int 13 0),(.int 0 0),(.ref 76),(.int 15 0),(.int 0 0),(.ref 88),(.int 20 0),(.int 0 0),(.ref 98),(.int 24 0),(.int 0 0),(.ref 105),(.int 26 0),(.int 0 0),(.ref 112),(.int 28 0),(.int 0 0),(.ref 117),(.int 30 0),(.int 0 0),(.ref 124),(.int 33 0),(.int 0 0),(.ref 131),(.int 36 0),(.int 0 0),(.ref 138)]),#[]⟩
noncomputable def o66:Obj:=⟨(.type "type"),none,(Data.cls ⟨"TreeError",[(.type "ValueError")],[(.ref 31),(.type "ValueError"),(.type "Exception"),(.type "BaseException"),(.type "object")],30,"TreeError",true,[],[(.ref 44),(.ref 56),(.ref 68)],false,none,false⟩),#[(some (.ref 22)),none,(some (.str "TreeError" 196)),(some (.str "TreeError" 204)),(some (.builtin "ValueError.__new__")),(some (.bool true))]⟩
noncomputable def o67:Obj:=⟨(.type "dict"),none,(Data.dict #[en P "__name__" 165 (.str "treeright.houses" 503),en P "__doc__" 166 .none,en P "__package__" 167 .none,en P "__loader__" 168 (.builtin "__main__.__loader__#opaque"),en P "__spec__" 169 .none,en P "__annotations__" 170 (.ref 6),en P "__builtins__" 171 (.ref 4),en P "__file__" 173 (.str "/claim/cut.py" 172),en P "__cached__" 174 .none,en P "_wall" 193 (.ref 21),en P "TreeError" 213 (.ref 31),en P "NoHouse" 229 (.ref 44),en P "NoSeat" 245 (.ref 56),en P "NoAsker" 261 (.ref 68),en P "NoLetter" 277 (.ref 80),en P "NoRight" 293 (.ref 92),en P "LETTERS" 297 (.str "abcdefghijklmnopqrstuvwxyz" 296),en P "LONGEST_NAME" 299 (.int 8 298),en P "is_name" 305 (.ref 99),en P "is_whole" 312 (.ref 106),en P "is_one_of" 320 (.ref 113),en P "are_names" 326 (.ref 118),en P "are_unlike" 333 (.ref 125),en P "check_asker" 342 (.ref 132),en P "check_house" 349 (.ref 139),en P "Seat" 502 (.ref 266),en P "are_neighbours" 512 (.ref 277),en P "are_arrows" 518 (.ref 282),en P "check_right" 526 (.ref 289),en P "numbered" 532 (.ref 294)] 30),#[]⟩
noncomputable def o71:Obj:=⟨.none,none,(Data.fields #[(.int 1 0),(.int 0 0),(.ref 20),(.int 5 0),(.int 0 0),(.ref 27),(.int 7 0),(.int 0 0),(.ref 40),(.int 9 0),(.int 0 0),(.ref 52),(.int 11 0),(.int 0 0),(.ref 64),(.int 13 0),(.int 0 0),(.ref 76),(.int 15 0),(.int 0 0),(.ref 88),(.int 20 0),(.int 0 0),(.ref 98),(.int 24 0),(.int 0 0),(.ref 105),(.int 26 0),(.int 0 0),(.ref 112),(.int 28 0),(.int 0 0),(.ref 117),(.int 30 0),(.int 0 0),(.ref 124),(.int 33 0),(.int 0 0),(.ref 131),(.int 36 0),(.int 0 0),(.ref 138),(.int 39 0),(.int 0 0),(.ref 145),(.int 139 0),(.int 0 0),(.ref 276),(.int 141 0),(.int 0 0),(.ref 281),(.int 145 0),(.int 0 0),(.ref 288),(.int 148 0),(.int 0 0),(.ref 293),(.int 150 0),(.int 0 0),(.ref 300)]),#[]⟩
noncomputable def o74:Obj:=⟨(.type "dict"),none,(Data.dict #[en P "__module__" 540 (.str "treeright.houses" 503),en P "__qualname__" 542 (.str "House" 541),en P "__firstlineno__" 544 (.int 150 543),en P "__init__" 550 (.ref 306),en P "want" 560 (.ref 313),en P "leave" 569 (.ref 320),en P "done" 578 (.ref 327),en P "ask" 587 (.ref 334),en P "come" 597 (.ref 341),en P "askers" 603 (.ref 346),en P "arrow" 611 (.ref 353),en P "row" 619 (.ref 360),en P "inside" 627 (.ref 367),en P "has_asked" 635 (.ref 374),en P "move_on" 643 (.ref 381),en P "twin" 650 (.ref 388),en P "state" 657 (.ref 395),en P "settle" 666 (.ref 402),en P "rights_wanted" 672 (.ref 407),en P "right_of" 681 (.ref 414),en P "best_right" 687 (.ref 419),en P "check_letter" 696 (.ref 426),en P "__static_attributes__" 700 (.ref 427)] 23),#[]⟩
noncomputable def o76:Obj:=⟨(.type "tuple"),none,(Data.seq #[(.ref 31)] 0),#[]⟩
noncomputable def o99:Obj:=⟨.none,none,(Data.fields #[(.int 1 0),(.int 0 0),(.ref 20),(.int 5 0),(.int 0 0),(.ref 27),(.int 7 0),(.int 0 0),(.ref 40),(.int 9 0),(.int 0 0),(.ref 52),(.int 11 0),(.int 0 0),(.ref 64),(.int 13 0),(.int 0 0),(.ref 76),(.int 15 0),(.int 0 0),(.ref 88),(.int 20 0),(.int 0 0),(.ref 98),(.int 24 0),(.int 0 0),(.ref 105),(.int 26 0),(.int 0 0),(.ref 112),(.int 28 0),(.int 0 0),(.ref 117),(.int 30 0),(.int 0 0),(.ref 124),(.int 33 0),(.int 0 0),(.ref 131),(.int 36 0),(.int 0 0),(.ref 138),(.int 39 0),(.int 0 0),(.ref 145)]),#[]⟩
noncomputable def o106:Obj:=⟨(.type "tuple"),none,(Data.seq #[(.type "ValueError")] 0),#[]⟩
noncomputable def h13 (a0:Str) (a1:Nat) (a2:Nat) (a3:Nat) (a4:Nat):Obj:=⟨(.type "type"),none,(Data.cls ⟨a0,[(.type "object")],[(.ref a1),(.type "object")],a2,a0,true,[],[],false,none,false⟩),#[none,none,(some (.str a0 a3)),(some (.str a0 a4)),(some (.builtin "object.__new__")),(some (.bool true))]⟩
noncomputable def o112:Obj:=h13 "House" 429 428 533 541
noncomputable def o329:Obj:=h13 "Seat" 266 265 350 358
noncomputable def o116:Obj:=⟨(.type "dict"),none,(Data.dict #[en P "__name__" 165 (.str "law_treeright_k26_whole_seats_side_by_side" 708),en P "__doc__" 166 .none,en P "__package__" 167 .none,en P "__loader__" 168 (.builtin "__main__.__loader__#opaque"),en P "__spec__" 169 .none,en P "__annotations__" 170 (.ref 6),en P "__builtins__" 171 (.ref 4),en P "__file__" 173 (.str "/claim/cut.py" 172),en P "__cached__" 174 .none,en P "_wall" 193 (.ref 21),en P "TreeError" 213 (.ref 31),en P "NoHouse" 229 (.ref 44),en P "NoSeat" 245 (.ref 56),en P "NoAsker" 261 (.ref 68),en P "NoLetter" 277 (.ref 80),en P "NoRight" 293 (.ref 92),en P "LETTERS" 297 (.str "abcdefghijklmnopqrstuvwxyz" 296),en P "LONGEST_NAME" 299 (.int 8 298),en P "is_name" 305 (.ref 99),en P "is_whole" 312 (.ref 106),en P "is_one_of" 320 (.ref 113),en P "are_names" 326 (.ref 118),en P "are_unlike" 333 (.ref 125),en P "check_asker" 342 (.ref 132),en P "check_house" 349 (.ref 139),en P "Seat" 502 (.ref 266),en P "are_neighbours" 512 (.ref 277),en P "are_arrows" 518 (.ref 282),en P "check_right" 526 (.ref 289),en P "numbered" 532 (.ref 294),en P "House" 707 (.ref 429),en P "_law_cell_at" 717 (.ref 440),en P "_law_mixed" 726 (.ref 447),en P "_law_digits" 733 (.ref 454),en P "_law_next" 742 (.ref 461),en P "_law_names" 748 (.ref 466),en P "_law_alike" 754 (.ref 471),en P "_law_told" 764 (.ref 478),en P "_law_made" 770 (.ref 483),en P "_law_state" 777 (.ref 490),en P "_law_moved" 786 (.ref 497),en P "_law_made_at" 796 (.ref 504),en P "_law_chosen" 808 (.ref 511),en P "_law_seat_of" 817 (.ref 518),en P "_law_numbered" 823 (.ref 523),en P "_law_good_deeds" 829 (.ref 528),en P "_law_done" 838 (.ref 535),en P "_law_put" 846 (.ref 542),en P "_law_at_seat" 852 (.ref 547),en P "_law_side_by_side" 858 (.ref 552),en P "law" 864 (.ref 557)] 51),#[]⟩
noncomputable def o120:Obj:=⟨.none,none,(Data.fields #[(.int 1 0),(.int 0 0),(.ref 20),(.int 5 0),(.int 0 0),(.ref 27),(.int 7 0),(.int 0 0),(.ref 40),(.int 9 0),(.int 0 0),(.ref 52),(.int 11 0),(.int 0 0),(.ref 64),(.int 13 0),(.int 0 0),(.ref 76),(.int 15 0),(.int 0 0),(.ref 88),(.int 20 0),(.int 0 0),(.ref 98),(.int 24 0),(.int 0 0),(.ref 105),(.int 26 0),(.int 0 0),(.ref 112),(.int 28 0),(.int 0 0),(.ref 117),(.int 30 0),(.int 0 0),(.ref 124),(.int 33 0),(.int 0 0),(.ref 131),(.int 36 0),(.int 0 0),(.ref 138),(.int 39 0),(.int 0 0),(.ref 145),(.int 139 0),(.int 0 0),(.ref 276),(.int 141 0),(.int 0 0),(.ref 281),(.int 145 0),(.int 0 0),(.ref 288),(.int 148 0),(.int 0 0),(.ref 293),(.int 150 0),(.int 0 0),(.ref 300),(.int 237 0),(.int 0 0),(.ref 439),(.int 241 0),(.int 0 0),(.ref 446),(.int 246 0),(.int 0 0),(.ref 453),(.int 248 0),(.int 0 0),(.ref 460),(.int 255 0),(.int 0 0),(.ref 465),(.int 260 0),(.int 0 0),(.ref 470),(.int 268 0),(.int 0 0),(.ref 477),(.int 273 0),(.int 0 0),(.ref 482),(.int 284 0),(.int 0 0),(.ref 489),(.int 286 0),(.int 0 0),(.ref 496),(.int 301 0),(.int 0 0),(.ref 503),(.int 317 0),(.int 0 0),(.ref 510),(.int 327 0),(.int 0 0),(.ref 517),(.int 332 0),(.int 0 0),(.ref 522),(.int 334 0),(.int 0 0),(.ref 527),(.int 351 0),(.int 0 0),(.ref 534),(.int 360 0),(.int 0 0),(.ref 541),(.int 370 0),(.int 0 0),(.ref 546),(.int 386 0),(.int 0 0),(.ref 551),(.int 397 0),(.int 0 0),(.ref 556)]),#[]⟩
noncomputable def o125:Obj:=⟨.none,none,(Data.fields #[(.int 1 0),(.int 0 0),(.ref 20),(.int 5 0),(.int 0 0),(.ref 27),(.int 7 0),(.int 0 0),(.ref 40),(.int 9 0),(.int 0 0),(.ref 52),(.int 11 0),(.int 0 0),(.ref 64),(.int 13 0),(.int 0 0),(.ref 76)]),#[]⟩
noncomputable def o126:Obj:=⟨(.type "dict"),none,(Data.dict #[en P "__name__" 165 (.str "treeright.errors" 194),en P "__doc__" 166 .none,en P "__package__" 167 .none,en P "__loader__" 168 (.builtin "__main__.__loader__#opaque"),en P "__spec__" 169 .none,en P "__annotations__" 170 (.ref 6),en P "__builtins__" 171 (.ref 4),en P "__file__" 173 (.str "/claim/cut.py" 172),en P "__cached__" 174 .none,en P "_wall" 193 (.ref 21),en P "TreeError" 213 (.ref 31),en P "NoHouse" 229 (.ref 44),en P "NoSeat" 245 (.ref 56),en P "NoAsker" 261 (.ref 68)] 14),#[]⟩
noncomputable def o127:Obj:=⟨(.type "type"),none,(Data.cls ⟨"TreeError",[(.type "ValueError")],[(.ref 31),(.type "ValueError"),(.type "Exception"),(.type "BaseException"),(.type "object")],30,"TreeError",true,[],[(.ref 44),(.ref 56),(.ref 68),(.ref 80),(.ref 92)],false,none,false⟩),#[(some (.ref 22)),none,(some (.str "TreeError" 196)),(some (.str "TreeError" 204)),(some (.builtin "ValueError.__new__")),(some (.bool true))]⟩
noncomputable def h14 (a0:Nat) (a1:Nat):Obj:=⟨(.type "getset_descriptor"),none,(Data.fields #[(.str "__weakref__" a0),(.ref a1),(.builtin "ExceptionGroup.__weakref__"),.none]),#[]⟩
noncomputable def o129:Obj:=h14 209 31
noncomputable def o154:Obj:=h14 498 266
noncomputable def o218:Obj:=h14 703 429
noncomputable def o137:Obj:=⟨(.type "builtin_function_or_method"),none,(Data.fields #[(.builtin "type.__prepare__"),(.type "type")]),#[]⟩
noncomputable def h15 (a0:Nat) (a1:Nat) (a2:Int) (a3:Nat) (a4:Nat) (a5:Nat) (a6:Nat):Obj:=⟨(.type "dict"),none,(Data.dict #[en P "__module__" a0 (.str "treeright.errors" 194),en P "__firstlineno__" a1 (.int a2 a3),en P "__static_attributes__" a4 (.ref a5),en P "__doc__" a6 .none] 2),#[]⟩
noncomputable def o143:Obj:=h15 P 269 273 13 272 274 78 275
noncomputable def o258:Obj:=h15 P 253 257 11 256 258 66 259
noncomputable def o317:Obj:=h15 P 237 241 9 240 242 54 243
noncomputable def o340:Obj:=h15 P 221 225 7 224 226 42 227
noncomputable def o357:Obj:=h15 P 285 289 15 288 290 90 291
noncomputable def h16 (a0:Int) (a1:Int) (a2:Nat) (a3:Int) (a4:Nat) (a5:Int) (a6:Nat) (a7:Int) (a8:Nat) (a9:Int) (a10:Nat) (a11:Int) (a12:Nat) (a13:Int) (a14:Nat) (a15:Int) (a16:Nat) (a17:Int) (a18:Nat) (a19:Int) (a20:Nat) (a21:Int) (a22:Nat) (a23:Int) (a24:Nat) (a25:Int) (a26:Nat) (a27:Int) (a28:Nat) (a29:Int) (a30:Nat) (a31:Int) (a32:Nat) (a33:Int) (a34:Nat) (a35:Int) (a36:Nat) (a37:Int) (a38:Nat):Obj:=⟨.none,none,(Data.fields #[(.int a0 0),(.int a1 0),(.ref a2),(.int a3 0),(.int a1 0),(.ref a4),(.int a5 0),(.int a1 0),(.ref a6),(.int a7 0),(.int a1 0),(.ref a8),(.int a9 0),(.int a1 0),(.ref a10),(.int a11 0),(.int a1 0),(.ref a12),(.int a13 0),(.int a1 0),(.ref a14),(.int a15 0),(.int a1 0),(.ref a16),(.int a17 0),(.int a1 0),(.ref a18),(.int a19 0),(.int a1 0),(.ref a20),(.int a21 0),(.int a1 0),(.ref a22),(.int a23 0),(.int a1 0),(.ref a24),(.int a25 0),(.int a1 0),(.ref a26),(.int a27 0),(.int a1 0),(.ref a28),(.int a29 0),(.int a1 0),(.ref a30),(.int a31 0),(.int a1 0),(.ref a32),(.int a33 0),(.int a1 0),(.ref a34),(.int a35 0),(.int a1 0),(.ref a36),(.int a37 0),(.int a1 0),(.ref a38)]),#[]⟩
noncomputable def o149:Obj:=h16 152 4 305 163 312 172 319 176 326 180 333 184 340 188 345 191 352 195 359 199 366 203 373 207 380 210 387 213 394 216 401 219 406 222 413 229 418 232 425
noncomputable def o232:Obj:=h16 1 0 20 5 27 7 40 9 52 11 64 13 76 15 88 20 98 24 105 26 112 28 117 30 124 33 131 36 138 39 145 139 276 141 281 145 288 148 293
noncomputable def h17 (a0:Nat):Obj:=⟨(.type "super"),none,(Data.fields #[(.ref a0),(.ref a0),(.ref a0)]),#[]⟩
noncomputable def o156:Obj:=h17 68
noncomputable def o166:Obj:=h17 266
noncomputable def o206:Obj:=h17 92
noncomputable def o222:Obj:=h17 80
noncomputable def o291:Obj:=h17 56
noncomputable def o300:Obj:=h17 31
noncomputable def o339:Obj:=h17 429
noncomputable def o353:Obj:=h17 44
noncomputable def o160:Obj:=⟨(.type "dict"),none,(Data.dict #[en P "__name__" 165 (.str "treeright.errors" 194),en P "__doc__" 166 .none,en P "__package__" 167 .none,en P "__loader__" 168 (.builtin "__main__.__loader__#opaque"),en P "__spec__" 169 .none,en P "__annotations__" 170 (.ref 6),en P "__builtins__" 171 (.ref 4),en P "__file__" 173 (.str "/claim/cut.py" 172),en P "__cached__" 174 .none,en P "_wall" 193 (.ref 21),en P "TreeError" 213 (.ref 31)] 11),#[]⟩
noncomputable def h18 (a0:Nat) (a1:Nat):Obj:=⟨(.type "getset_descriptor"),none,(Data.fields #[(.str "__dict__" a0),(.ref a1),(.builtin "function.__dict__"),(.builtin "function.__dict__#set")]),#[]⟩
noncomputable def o172:Obj:=h18 496 266
noncomputable def o293:Obj:=h18 701 429
noncomputable def o204:Obj:=⟨(.type "dict"),none,(Data.dict #[en P "__module__" 357 (.str "treeright.seats" 334),en P "__qualname__" 359 (.str "Seat" 358),en P "__firstlineno__" 361 (.int 39 360),en P "__init__" 369 (.ref 153),en P "arrow" 376 (.ref 160),en P "row" 383 (.ref 167),en P "inside" 390 (.ref 174),en P "has_asked" 397 (.ref 181),en P "askers" 403 (.ref 186),en P "crowd" 410 (.ref 193),en P "twin" 417 (.ref 200),en P "state" 424 (.ref 207),en P "settle" 432 (.ref 214),en P "want" 440 (.ref 221),en P "leave" 448 (.ref 228),en P "done" 456 (.ref 235),en P "ask" 464 (.ref 242),en P "come" 473 (.ref 249),en P "move_on" 480 (.ref 256),en P "serve_first" 490 (.ref 263),en P "__static_attributes__" 495 (.ref 264)] 21),#[]⟩
noncomputable def o207:Obj:=⟨(.type "dict"),none,(Data.dict #[en P "__name__" 165 (.str "treeright.houses" 503),en P "__doc__" 166 .none,en P "__package__" 167 .none,en P "__loader__" 168 (.builtin "__main__.__loader__#opaque"),en P "__spec__" 169 .none,en P "__annotations__" 170 (.ref 6),en P "__builtins__" 171 (.ref 4),en P "__file__" 173 (.str "/claim/cut.py" 172),en P "__cached__" 174 .none,en P "_wall" 193 (.ref 21),en P "TreeError" 213 (.ref 31),en P "NoHouse" 229 (.ref 44),en P "NoSeat" 245 (.ref 56),en P "NoAsker" 261 (.ref 68),en P "NoLetter" 277 (.ref 80),en P "NoRight" 293 (.ref 92),en P "LETTERS" 297 (.str "abcdefghijklmnopqrstuvwxyz" 296),en P "LONGEST_NAME" 299 (.int 8 298),en P "is_name" 305 (.ref 99),en P "is_whole" 312 (.ref 106),en P "is_one_of" 320 (.ref 113),en P "are_names" 326 (.ref 118),en P "are_unlike" 333 (.ref 125),en P "check_asker" 342 (.ref 132),en P "check_house" 349 (.ref 139),en P "Seat" 502 (.ref 266),en P "are_neighbours" 512 (.ref 277),en P "are_arrows" 518 (.ref 282),en P "check_right" 526 (.ref 289),en P "numbered" 532 (.ref 294),en P "House" 707 (.ref 429)] 31),#[]⟩
noncomputable def o208:Obj:=⟨(.type "dict"),none,(Data.dict #[en P "__name__" 165 (.str "treeright.errors" 194),en P "__doc__" 166 .none,en P "__package__" 167 .none,en P "__loader__" 168 (.builtin "__main__.__loader__#opaque"),en P "__spec__" 169 .none,en P "__annotations__" 170 (.ref 6),en P "__builtins__" 171 (.ref 4),en P "__file__" 173 (.str "/claim/cut.py" 172),en P "__cached__" 174 .none,en P "_wall" 193 (.ref 21),en P "TreeError" 213 (.ref 31),en P "NoHouse" 229 (.ref 44),en P "NoSeat" 245 (.ref 56),en P "NoAsker" 261 (.ref 68),en P "NoLetter" 277 (.ref 80)] 15),#[]⟩
noncomputable def o228:Obj:=⟨(.type "dict"),none,(Data.dict #[en P "__name__" 165 (.str "treeright.errors" 194),en P "__doc__" 166 .none,en P "__package__" 167 .none,en P "__loader__" 168 (.builtin "__main__.__loader__#opaque"),en P "__spec__" 169 .none,en P "__annotations__" 170 (.ref 6),en P "__builtins__" 171 (.ref 4),en P "__file__" 173 (.str "/claim/cut.py" 172),en P "__cached__" 174 .none,en P "_wall" 193 (.ref 21),en P "TreeError" 213 (.ref 31),en P "NoHouse" 229 (.ref 44)] 12),#[]⟩
noncomputable def h19 (a0:Nat) (a1:Nat) (a2:Str) (a3:Nat) (a4:Nat) (a5:Int) (a6:Nat) (a7:Nat) (a8:Nat):Obj:=⟨(.type "dict"),none,(Data.dict #[en P "__module__" a0 (.str "treeright.errors" 194),en P "__qualname__" a1 (.str a2 a3),en P "__firstlineno__" a4 (.int a5 a6),en P "__static_attributes__" a7 (.ref a8)] 4),#[]⟩
noncomputable def o233:Obj:=h19 P 269 271 "NoLetter" 270 273 13 272 274 78
noncomputable def o239:Obj:=h19 P 285 287 "NoRight" 286 289 15 288 290 90
noncomputable def o251:Obj:=h19 P 237 239 "NoSeat" 238 241 9 240 242 54
noncomputable def o276:Obj:=h19 P 221 223 "NoHouse" 222 225 7 224 226 42
noncomputable def o281:Obj:=h19 P 253 255 "NoAsker" 254 257 11 256 258 66
noncomputable def o334:Obj:=h19 P 203 205 "TreeError" 204 207 5 206 208 29
noncomputable def o235:Obj:=⟨(.type "type"),none,(Data.cls ⟨"TreeError",[(.type "ValueError")],[(.ref 31),(.type "ValueError"),(.type "Exception"),(.type "BaseException"),(.type "object")],30,"TreeError",true,[],[(.ref 44),(.ref 56)],false,none,false⟩),#[(some (.ref 22)),none,(some (.str "TreeError" 196)),(some (.str "TreeError" 204)),(some (.builtin "ValueError.__new__")),(some (.bool true))]⟩
noncomputable def o248:Obj:=⟨(.type "tuple"),none,(Data.seq #[(.str "_law_states" 800),(.str "_law_found" 801),(.str "_law_right" 802),(.str "_law_ranks" 803),(.str "_law_k" 804),(.str "_law_many" 805)] 0),#[]⟩
noncomputable def o253:Obj:=⟨.none,none,(Data.fields #[(.int 1 0),(.int 0 0),(.ref 20),(.int 5 0),(.int 0 0),(.ref 27),(.int 7 0),(.int 0 0),(.ref 40),(.int 9 0),(.int 0 0),(.ref 52),(.int 11 0),(.int 0 0),(.ref 64)]),#[]⟩
noncomputable def o256:Obj:=⟨(.type "dict"),none,(Data.dict #[en P "__name__" 165 (.str "treeright.seats" 334),en P "__doc__" 166 .none,en P "__package__" 167 .none,en P "__loader__" 168 (.builtin "__main__.__loader__#opaque"),en P "__spec__" 169 .none,en P "__annotations__" 170 (.ref 6),en P "__builtins__" 171 (.ref 4),en P "__file__" 173 (.str "/claim/cut.py" 172),en P "__cached__" 174 .none,en P "_wall" 193 (.ref 21),en P "TreeError" 213 (.ref 31),en P "NoHouse" 229 (.ref 44),en P "NoSeat" 245 (.ref 56),en P "NoAsker" 261 (.ref 68),en P "NoLetter" 277 (.ref 80),en P "NoRight" 293 (.ref 92),en P "LETTERS" 297 (.str "abcdefghijklmnopqrstuvwxyz" 296),en P "LONGEST_NAME" 299 (.int 8 298),en P "is_name" 305 (.ref 99),en P "is_whole" 312 (.ref 106),en P "is_one_of" 320 (.ref 113),en P "are_names" 326 (.ref 118),en P "are_unlike" 333 (.ref 125),en P "check_asker" 342 (.ref 132),en P "check_house" 349 (.ref 139),en P "Seat" 502 (.ref 266)] 26),#[]⟩
noncomputable def o265:Obj:=⟨(.type "type"),none,(Data.cls ⟨"TreeError",[(.type "ValueError")],[(.ref 31),(.type "ValueError"),(.type "Exception"),(.type "BaseException"),(.type "object")],30,"TreeError",true,[],[(.ref 44)],false,none,false⟩),#[(some (.ref 22)),none,(some (.str "TreeError" 196)),(some (.str "TreeError" 204)),(some (.builtin "ValueError.__new__")),(some (.bool true))]⟩
noncomputable def o283:Obj:=⟨(.type "dict"),none,(Data.dict #[en P "__name__" 165 (.str "treeright.seats" 334),en P "__doc__" 166 .none,en P "__package__" 167 .none,en P "__loader__" 168 (.builtin "__main__.__loader__#opaque"),en P "__spec__" 169 .none,en P "__annotations__" 170 (.ref 6),en P "__builtins__" 171 (.ref 4),en P "__file__" 173 (.str "/claim/cut.py" 172),en P "__cached__" 174 .none,en P "_wall" 193 (.ref 21),en P "TreeError" 213 (.ref 31),en P "NoHouse" 229 (.ref 44),en P "NoSeat" 245 (.ref 56),en P "NoAsker" 261 (.ref 68),en P "NoLetter" 277 (.ref 80),en P "NoRight" 293 (.ref 92),en P "LETTERS" 297 (.str "abcdefghijklmnopqrstuvwxyz" 296),en P "LONGEST_NAME" 299 (.int 8 298),en P "is_name" 305 (.ref 99),en P "is_whole" 312 (.ref 106),en P "is_one_of" 320 (.ref 113),en P "are_names" 326 (.ref 118),en P "are_unlike" 333 (.ref 125),en P "check_asker" 342 (.ref 132),en P "check_house" 349 (.ref 139)] 25),#[]⟩
noncomputable def o284:Obj:=⟨.none,none,(Data.fields #[(.int 1 0),(.int 0 0),(.ref 20),(.int 5 0),(.int 0 0),(.ref 27),(.int 7 0),(.int 0 0),(.ref 40),(.int 9 0),(.int 0 0),(.ref 52),(.int 11 0),(.int 0 0),(.ref 64),(.int 13 0),(.int 0 0),(.ref 76),(.int 15 0),(.int 0 0),(.ref 88),(.int 20 0),(.int 0 0),(.ref 98),(.int 24 0),(.int 0 0),(.ref 105),(.int 26 0),(.int 0 0),(.ref 112),(.int 28 0),(.int 0 0),(.ref 117),(.int 30 0),(.int 0 0),(.ref 124)]),#[]⟩
noncomputable def o301:Obj:=⟨(.type "dict"),none,(Data.dict #[en P "__module__" 540 (.str "treeright.houses" 503),en P "__firstlineno__" 544 (.int 150 543),en P "__init__" 550 (.ref 306),en P "want" 560 (.ref 313),en P "leave" 569 (.ref 320),en P "done" 578 (.ref 327),en P "ask" 587 (.ref 334),en P "come" 597 (.ref 341),en P "askers" 603 (.ref 346),en P "arrow" 611 (.ref 353),en P "row" 619 (.ref 360),en P "inside" 627 (.ref 367),en P "has_asked" 635 (.ref 374),en P "move_on" 643 (.ref 381),en P "twin" 650 (.ref 388),en P "state" 657 (.ref 395),en P "settle" 666 (.ref 402),en P "rights_wanted" 672 (.ref 407),en P "right_of" 681 (.ref 414),en P "best_right" 687 (.ref 419),en P "check_letter" 696 (.ref 426),en P "__static_attributes__" 700 (.ref 427),en P "__dict__" 702 (.ref 430),en P "__weakref__" 704 (.ref 431),en P "__doc__" 705 .none] 4),#[]⟩
noncomputable def o304:Obj:=⟨.none,none,(Data.fields #[(.int 1 0),(.int 0 0),(.ref 20),(.int 5 0),(.int 0 0),(.ref 27),(.int 7 0),(.int 0 0),(.ref 40),(.int 9 0),(.int 0 0),(.ref 52),(.int 11 0),(.int 0 0),(.ref 64),(.int 13 0),(.int 0 0),(.ref 76),(.int 15 0),(.int 0 0),(.ref 88),(.int 20 0),(.int 0 0),(.ref 98),(.int 24 0),(.int 0 0),(.ref 105),(.int 26 0),(.int 0 0),(.ref 112),(.int 28 0),(.int 0 0),(.ref 117),(.int 30 0),(.int 0 0),(.ref 124),(.int 33 0),(.int 0 0),(.ref 131),(.int 36 0),(.int 0 0),(.ref 138),(.int 39 0),(.int 0 0),(.ref 145),(.int 139 0),(.int 0 0),(.ref 276),(.int 141 0),(.int 0 0),(.ref 281),(.int 145 0),(.int 0 0),(.ref 288),(.int 148 0),(.int 0 0),(.ref 293),(.int 150 0),(.int 0 0),(.ref 300),(.int 237 0),(.int 0 0),(.ref 439),(.int 241 0),(.int 0 0),(.ref 446),(.int 246 0),(.int 0 0),(.ref 453),(.int 248 0),(.int 0 0),(.ref 460),(.int 255 0),(.int 0 0),(.ref 465),(.int 260 0),(.int 0 0),(.ref 470),(.int 268 0),(.int 0 0),(.ref 477),(.int 273 0),(.int 0 0),(.ref 482),(.int 284 0),(.int 0 0),(.ref 489),(.int 286 0),(.int 0 0),(.ref 496),(.int 301 0),(.int 0 0),(.ref 503),(.int 317 0),(.int 0 0),(.ref 510),(.int 327 0),(.int 0 0),(.ref 517)]),#[]⟩
noncomputable def h20 (a0:Nat) (a1:Str) (a2:Nat) (a3:Nat) (a4:Str) (a5:Nat) (a6:Nat) (a7:Int) (a8:Nat) (a9:Nat) (a10:Nat) (a11:Str) (a12:Nat) (a13:Nat) (a14:Str) (a15:Nat) (a16:Nat) (a17:Str) (a18:Nat) (a19:Nat) (a20:Str) (a21:Nat) (a22:Nat) (a23:Str) (a24:Nat) (a25:Nat) (a26:Str) (a27:Nat) (a28:Nat) (a29:Str) (a30:Nat) (a31:Nat) (a32:Str) (a33:Nat) (a34:Nat) (a35:Str) (a36:Nat) (a37:Nat) (a38:Str) (a39:Nat) (a40:Nat):Obj:=⟨(.type "dict"),none,(Data.dict #[en P "__module__" a0 (.str a1 a2),en P "__qualname__" a3 (.str a4 a5),en P "__firstlineno__" a6 (.int a7 a8),en P "__init__" a9 (.ref a10),en P a11 a12 (.ref a13),en P a14 a15 (.ref a16),en P a17 a18 (.ref a19),en P a20 a21 (.ref a22),en P a23 a24 (.ref a25),en P a26 a27 (.ref a28),en P a29 a30 (.ref a31),en P a32 a33 (.ref a34),en P a35 a36 (.ref a37),en P a38 a39 (.ref a40)] 14),#[]⟩
noncomputable def o309:Obj:=h20 P 357 "treeright.seats" 334 359 "Seat" 358 361 39 360 369 153 "arrow" 376 160 "row" 383 167 "inside" 390 174 "has_asked" 397 181 "askers" 403 186 "crowd" 410 193 "twin" 417 200 "state" 424 207 "settle" 432 214 "want" 440 221
noncomputable def o348:Obj:=h20 P 540 "treeright.houses" 503 542 "House" 541 544 150 543 550 306 "want" 560 313 "leave" 569 320 "done" 578 327 "ask" 587 334 "come" 597 341 "askers" 603 346 "arrow" 611 353 "row" 619 360 "inside" 627 367 "has_asked" 635 374
noncomputable def o313:Obj:=⟨.none,none,(Data.fields #[(.int 1 0),(.int 0 0),(.ref 20),(.int 5 0),(.int 0 0),(.ref 27),(.int 7 0),(.int 0 0),(.ref 40),(.int 9 0),(.int 0 0),(.ref 52)]),#[]⟩
noncomputable def o322:Obj:=⟨(.type "dict"),none,(Data.dict #[en P "__name__" 165 (.str "law_treeright_k26_whole_seats_side_by_side" 708),en P "__doc__" 166 .none,en P "__package__" 167 .none,en P "__loader__" 168 (.builtin "__main__.__loader__#opaque"),en P "__spec__" 169 .none,en P "__annotations__" 170 (.ref 6),en P "__builtins__" 171 (.ref 4),en P "__file__" 173 (.str "/claim/cut.py" 172),en P "__cached__" 174 .none,en P "_wall" 193 (.ref 21),en P "TreeError" 213 (.ref 31),en P "NoHouse" 229 (.ref 44),en P "NoSeat" 245 (.ref 56),en P "NoAsker" 261 (.ref 68),en P "NoLetter" 277 (.ref 80),en P "NoRight" 293 (.ref 92),en P "LETTERS" 297 (.str "abcdefghijklmnopqrstuvwxyz" 296),en P "LONGEST_NAME" 299 (.int 8 298),en P "is_name" 305 (.ref 99),en P "is_whole" 312 (.ref 106),en P "is_one_of" 320 (.ref 113),en P "are_names" 326 (.ref 118),en P "are_unlike" 333 (.ref 125),en P "check_asker" 342 (.ref 132),en P "check_house" 349 (.ref 139),en P "Seat" 502 (.ref 266),en P "are_neighbours" 512 (.ref 277),en P "are_arrows" 518 (.ref 282),en P "check_right" 526 (.ref 289),en P "numbered" 532 (.ref 294),en P "House" 707 (.ref 429),en P "_law_cell_at" 717 (.ref 440),en P "_law_mixed" 726 (.ref 447),en P "_law_digits" 733 (.ref 454),en P "_law_next" 742 (.ref 461),en P "_law_names" 748 (.ref 466),en P "_law_alike" 754 (.ref 471),en P "_law_told" 764 (.ref 478),en P "_law_made" 770 (.ref 483),en P "_law_state" 777 (.ref 490),en P "_law_moved" 786 (.ref 497),en P "_law_made_at" 796 (.ref 504),en P "_law_chosen" 808 (.ref 511),en P "_law_seat_of" 817 (.ref 518)] 44),#[]⟩
noncomputable def o324:Obj:=⟨(.type "dict"),none,(Data.dict #[en P "__module__" 357 (.str "treeright.seats" 334),en P "__firstlineno__" 361 (.int 39 360),en P "__init__" 369 (.ref 153),en P "arrow" 376 (.ref 160),en P "row" 383 (.ref 167),en P "inside" 390 (.ref 174),en P "has_asked" 397 (.ref 181),en P "askers" 403 (.ref 186),en P "crowd" 410 (.ref 193),en P "twin" 417 (.ref 200),en P "state" 424 (.ref 207),en P "settle" 432 (.ref 214),en P "want" 440 (.ref 221),en P "leave" 448 (.ref 228),en P "done" 456 (.ref 235),en P "ask" 464 (.ref 242),en P "come" 473 (.ref 249),en P "move_on" 480 (.ref 256),en P "serve_first" 490 (.ref 263),en P "__static_attributes__" 495 (.ref 264),en P "__dict__" 497 (.ref 267),en P "__weakref__" 499 (.ref 268),en P "__doc__" 500 .none] 4),#[]⟩
noncomputable def o327:Obj:=⟨(.type "type"),none,(Data.cls ⟨"TreeError",[(.type "ValueError")],[(.ref 31),(.type "ValueError"),(.type "Exception"),(.type "BaseException"),(.type "object")],30,"TreeError",true,[],[],false,none,false⟩),#[(some (.ref 22)),none,(some (.str "TreeError" 196)),(some (.str "TreeError" 204)),(some (.builtin "ValueError.__new__")),(some (.bool true))]⟩
noncomputable def o332:Obj:=⟨(.type "dict"),none,(Data.dict #[en P "__name__" 165 (.str "treeright.errors" 194),en P "__doc__" 166 .none,en P "__package__" 167 .none,en P "__loader__" 168 (.builtin "__main__.__loader__#opaque"),en P "__spec__" 169 .none,en P "__annotations__" 170 (.ref 6),en P "__builtins__" 171 (.ref 4),en P "__file__" 173 (.str "/claim/cut.py" 172),en P "__cached__" 174 .none,en P "_wall" 193 (.ref 21),en P "TreeError" 213 (.ref 31),en P "NoHouse" 229 (.ref 44),en P "NoSeat" 245 (.ref 56)] 13),#[]⟩
noncomputable def o354:Obj:=⟨(.type "type"),none,(Data.cls ⟨"TreeError",[(.type "ValueError")],[(.ref 31),(.type "ValueError"),(.type "Exception"),(.type "BaseException"),(.type "object")],30,"TreeError",true,[],[(.ref 44),(.ref 56),(.ref 68),(.ref 80)],false,none,false⟩),#[(some (.ref 22)),none,(some (.str "TreeError" 196)),(some (.str "TreeError" 204)),(some (.builtin "ValueError.__new__")),(some (.bool true))]⟩
noncomputable def o358:Obj:=⟨.none,none,(Data.fields #[(.int 41 0),(.int 4 0),(.ref 152),(.int 49 0),(.int 4 0),(.ref 159),(.int 52 0),(.int 4 0),(.ref 166),(.int 55 0),(.int 4 0),(.ref 173),(.int 58 0),(.int 4 0),(.ref 180),(.int 61 0),(.int 4 0),(.ref 185),(.int 65 0),(.int 4 0),(.ref 192),(.int 68 0),(.int 4 0),(.ref 199),(.int 71 0),(.int 4 0),(.ref 206),(.int 74 0),(.int 4 0),(.ref 213),(.int 77 0),(.int 4 0),(.ref 220),(.int 84 0),(.int 4 0),(.ref 227),(.int 91 0),(.int 4 0),(.ref 234),(.int 98 0),(.int 4 0),(.ref 241),(.int 107 0),(.int 4 0),(.ref 248),(.int 119 0),(.int 4 0),(.ref 255),(.int 129 0),(.int 4 0),(.ref 262)]),#[]⟩
noncomputable def q0:BT:=N (o228 P) (N (boot_o_7 P) (N o5 (N o265 L L) L) (N o137 (N o10 L L) L)) (N o5 (N o359 (N o76 L L) L) (N o187 (N (o340 P) L L) L))
noncomputable def q1:BT:=N (boot_o_5 P) (N (boot_o_9 P) (N o333 (N o300 L L) L) (N o5 (N o247 L L) L)) (N o210 (N o315 (N (o276 P) L L) L) (N o5 (N o353 L L) L))
noncomputable def q2:BT:=N (boot_o_4 P) (N (boot_o_8 P) (N o10 (N o129 L L) L) (N (o334 P) (N o171 L L) L)) (N o8 (N o209 (N o137 L L) L) (N o165 (N o20 L L) L))
noncomputable def q3:BT:=N (boot_o_6 P) (N (boot_o_10 P) (N o5 (N o56 L L) L) (N o10 (N o5 L L) L)) (N o96 (N o106 (N o5 L L) L) (N (o38 P) (N o280 L L) L))
noncomputable def t85 (P:Params):BT:=(N (boot_o_0 P) (N (boot_o_1 P) (q0 P) (q1 P)) (N (boot_o_2 P) (q2 P) (q3 P)))
noncomputable def q4:BT:=N (boot_o_7 P) (N o5 (N o127 (N o10 (N o10 L L) L) (N o5 L L)) (N o76 (N (o143 P) L L) (N o341 L L))) (N o137 (N o10 (N o76 (N o255 L L) L) (N o5 L L)) (N (o317 P) (N o10 L L) (N o5 L L)))
noncomputable def q5:BT:=N o5 (N o359 (N o76 (N (o258 P) (N o88 L L) L) (N o245 L L)) (N o10 (N o76 L L) (N o10 L L))) (N o187 (N (o340 P) (N o10 (N o219 L L) L) (N o5 L L)) (N o76 (N (o357 P) L L) (N o298 L L)))
noncomputable def q6:BT:=N (boot_o_9 P) (N o333 (N o300 (N o53 (N o5 L L) L) (N o59 L L)) (N (o251 P) (N o222 L L) (N o346 L L))) (N o5 (N o247 (N (o233 P) (N o114 L L) L) (N o319 L L)) (N o291 (N o132 L L) (N o123 L L)))
noncomputable def q7:BT:=N o210 (N o315 (N (o276 P) (N o156 (N o5 L L) L) (N o10 L L)) (N o168 (N (o239 P) L L) (N o189 L L))) (N o5 (N o353 (N o199 L L) (N o356 L L)) (N (o281 P) (N o206 L L) (N o275 L L)))
noncomputable def q8:BT:=N (boot_o_8 P) (N o10 (N o129 (N o217 (N o130 L L) L) (N o10 L L)) (N o137 (N o269 L L) (N o15 L L))) (N (o334 P) (N o171 (N o137 (N o5 L L) L) (N o223 L L)) (N o328 (N o272 L L) (N o10 L L)))
noncomputable def q9:BT:=N o64 (N o209 (N o137 (N o331 (N o51 L L) L) (N o5 L L)) (N o135 (N o137 L L) (N o264 L L))) (N o165 (N o20 (N o318 L L) (N o10 L L)) (N o137 (N o295 L L) (N o162 L L)))
noncomputable def q10:BT:=N (boot_o_10 P) (N o5 (N o56 (N o5 (N o274 L L) L) (N o200 L L)) (N o5 (N o242 L L) (N o5 L L))) (N o10 (N o5 (N o5 (N o227 L L) L) (N o347 L L)) (N o84 (N o5 L L) (N o5 L L)))
noncomputable def q11:BT:=N o96 (N o106 (N o5 (N o288 (N o10 L L) L) (N o138 L L)) (N o5 (N o5 L L) (N o212 L L))) (N (o38 P) (N o280 (N o5 L L) (N o5 L L)) (N o5 (N o289 L L) (N o5 L L)))
noncomputable def q12:BT:=N (boot_o_0 P) (N (boot_o_1 P) (N (o283 P) (q4 P) (q5 P)) (N (boot_o_5 P) (q6 P) (q7 P))) (N (boot_o_2 P) (N (boot_o_4 P) (q8 P) q9) (N (boot_o_6 P) (q10 P) (q11 P)))
noncomputable def t192 (P:Params):BT:=(q12 P)
noncomputable def e794_0 (P:Params) (t:List Obj):List Obj:=(boot_o_0 P) :: (boot_o_1 P) :: (boot_o_2 P) :: (o116 P) :: (boot_o_4 P) :: (boot_o_5 P) :: (boot_o_6 P) :: (boot_o_7 P) :: (boot_o_8 P) :: (boot_o_9 P) :: (boot_o_10 P) :: o5 :: o120 :: o210 :: o96 :: t
noncomputable def e794_1 (P:Params) (t:List Obj):List Obj:=o5 :: o10 :: o333 :: o5 :: o359 :: o209 :: o315 :: o106 :: o137 :: (o334 P) :: o5 :: o10 :: o187 :: o165 :: o5 :: t
noncomputable def e794_2 (P:Params) (t:List Obj):List Obj:=(o38 P) :: o127 :: o129 :: o300 :: o56 :: o76 :: o137 :: (o276 P) :: o5 :: o10 :: o171 :: o247 :: o5 :: (o340 P) :: o20 :: t
noncomputable def e794_3 (P:Params) (t:List Obj):List Obj:=o353 :: o280 :: o76 :: o137 :: (o251 P) :: o5 :: o10 :: o135 :: o168 :: o5 :: (o317 P) :: o328 :: o291 :: o84 :: o76 :: t
noncomputable def e794_4 (P:Params) (t:List Obj):List Obj:=o137 :: (o281 P) :: o5 :: o10 :: o217 :: o53 :: o5 :: (o258 P) :: o331 :: o156 :: o288 :: o76 :: o137 :: (o233 P) :: o5 :: t
noncomputable def e794_5 (P:Params) (t:List Obj):List Obj:=o10 :: o318 :: o199 :: o5 :: (o143 P) :: o269 :: o222 :: o242 :: o76 :: o137 :: (o239 P) :: o5 :: o10 :: o272 :: o132 :: t
noncomputable def e794_6 (P:Params) (t:List Obj):List Obj:=o5 :: (o357 P) :: o295 :: o206 :: o289 :: o5 :: o10 :: o59 :: o200 :: o245 :: o5 :: o10 :: o138 :: o5 :: o223 :: t
noncomputable def e794_7 (P:Params) (t:List Obj):List Obj:=o319 :: o347 :: o5 :: o10 :: o356 :: o5 :: o341 :: o15 :: o346 :: o5 :: o10 :: o264 :: o189 :: o212 :: o5 :: t
noncomputable def e794_8 (P:Params) (t:List Obj):List Obj:=o10 :: o123 :: o5 :: o298 :: o162 :: o275 :: o5 :: o10 :: o130 :: o5 :: o274 :: o88 :: o51 :: o5 :: o10 :: t
noncomputable def e794_9 (P:Params) (t:List Obj):List Obj:=o255 :: o5 :: o114 :: o227 :: o219 :: o5 :: o137 :: (o204 P) :: o5 :: o358 :: o1 :: o314 :: o5 :: o10 :: o7 :: t
noncomputable def e794_10 (P:Params) (t:List Obj):List Obj:=o5 :: o102 :: o94 :: o42 :: o5 :: o10 :: o28 :: o5 :: o12 :: o153 :: o77 :: o5 :: o10 :: o40 :: o5 :: t
noncomputable def e794_11 (P:Params) (t:List Obj):List Obj:=o122 :: o178 :: o2 :: o5 :: o10 :: o249 :: o5 :: o294 :: o161 :: o277 :: o5 :: o10 :: o151 :: o5 :: o128 :: t
noncomputable def e794_12 (P:Params) (t:List Obj):List Obj:=o34 :: o224 :: o5 :: o10 :: o46 :: o54 :: o47 :: o5 :: o10 :: o83 :: o5 :: o180 :: o52 :: o197 :: o5 :: t
noncomputable def e794_13 (P:Params) (t:List Obj):List Obj:=o10 :: o48 :: o5 :: o36 :: o279 :: o188 :: o5 :: o10 :: o170 :: o5 :: o225 :: o184 :: o311 :: o5 :: o10 :: t
noncomputable def e794_14 (P:Params) (t:List Obj):List Obj:=o164 :: o5 :: o157 :: o107 :: o50 :: o5 :: o10 :: o320 :: o5 :: o90 :: o104 :: o3 :: o5 :: o10 :: o174 :: t
noncomputable def e794_15 (P:Params) (t:List Obj):List Obj:=o5 :: o286 :: o79 :: o173 :: o5 :: o10 :: o0 :: o5 :: o325 :: o95 :: o29 :: o5 :: o10 :: o250 :: o5 :: t
noncomputable def e794_16 (P:Params) (t:List Obj):List Obj:=o115 :: o65 :: o78 :: o5 :: o10 :: o183 :: o5 :: o282 :: o85 :: o121 :: o5 :: o10 :: o58 :: o5 :: o238 :: t
noncomputable def e794_17 (P:Params) (t:List Obj):List Obj:=o243 :: o299 :: o5 :: o10 :: o244 :: o5 :: o263 :: o105 :: o220 :: o55 :: (o324 P) :: o329 :: o172 :: o154 :: o166 :: t
noncomputable def e794_18 (P:Params) (t:List Obj):List Obj:=o113 :: o5 :: o10 :: o246 :: o5 :: o234 :: o321 :: o139 :: o5 :: o10 :: o306 :: o231 :: o355 :: o5 :: o10 :: t
noncomputable def e794_19 (P:Params) (t:List Obj):List Obj:=o202 :: o5 :: o266 :: o273 :: o169 :: o5 :: o10 :: o349 :: o241 :: o352 :: o5 :: o137 :: (o74 P) :: o5 :: o149 :: t
noncomputable def e794_20 (P:Params) (t:List Obj):List Obj:=o214 :: o22 :: o5 :: o10 :: o21 :: o177 :: o226 :: o5 :: o10 :: o111 :: o5 :: o62 :: o237 :: o61 :: o5 :: t
noncomputable def e794_21 (P:Params) (t:List Obj):List Obj:=o10 :: o140 :: o5 :: o26 :: o193 :: o108 :: o5 :: o10 :: o179 :: o5 :: o175 :: o35 :: o45 :: o5 :: o10 :: t
noncomputable def e794_22 (P:Params) (t:List Obj):List Obj:=o133 :: o5 :: o93 :: o9 :: o186 :: o5 :: o10 :: o72 :: o5 :: o13 :: o44 :: o141 :: o5 :: o10 :: o147 :: t
noncomputable def e794_23 (P:Params) (t:List Obj):List Obj:=o24 :: o268 :: o5 :: o10 :: o252 :: o5 :: o25 :: o142 :: o98 :: o5 :: o10 :: o30 :: o5 :: o97 :: o194 :: t
noncomputable def e794_24 (P:Params) (t:List Obj):List Obj:=o101 :: o5 :: o10 :: o17 :: o5 :: o91 :: o229 :: o257 :: o5 :: o10 :: o185 :: o5 :: o146 :: o27 :: o271 :: t
noncomputable def e794_25 (P:Params) (t:List Obj):List Obj:=o5 :: o10 :: o159 :: o5 :: o190 :: o260 :: o70 :: o5 :: o10 :: o167 :: o5 :: o203 :: o81 :: o316 :: o5 :: t
noncomputable def e794_26 (P:Params) (t:List Obj):List Obj:=o10 :: o342 :: o5 :: o337 :: o117 :: o82 :: o5 :: o10 :: o213 :: o5 :: o136 :: o144 :: o32 :: o5 :: o10 :: t
noncomputable def e794_27 (P:Params) (t:List Obj):List Obj:=o307 :: o103 :: o302 :: o5 :: o10 :: o57 :: o5 :: o150 :: o182 :: o205 :: o5 :: o10 :: o49 :: o351 :: o109 :: t
noncomputable def e794_28 (P:Params) (t:List Obj):List Obj:=o5 :: o10 :: o267 :: o5 :: o310 :: o270 :: o80 :: o261 :: (o301 P) :: o112 :: o293 :: o218 :: o339 :: o124 :: o5 :: t
noncomputable def e794_29 (P:Params) (t:List Obj):List Obj:=o10 :: o297 :: o5 :: o23 :: o350 :: o296 :: o5 :: o10 :: o278 :: o5 :: o191 :: o338 :: o31 :: o5 :: o10 :: t
noncomputable def e794_30 (P:Params) (t:List Obj):List Obj:=o176 :: o5 :: o196 :: o43 :: o290 :: o5 :: o10 :: o236 :: o5 :: o134 :: o221 :: o63 :: o5 :: o10 :: o195 :: t
noncomputable def e794_31 (P:Params) (t:List Obj):List Obj:=o345 :: o33 :: o5 :: o10 :: o158 :: o16 :: o330 :: o5 :: o10 :: o119 :: o5 :: o69 :: o75 :: o292 :: o5 :: t
noncomputable def e794_32 (P:Params) (t:List Obj):List Obj:=o10 :: o73 :: o4 :: o323 :: o5 :: o10 :: o254 :: o5 :: o60 :: o344 :: o6 :: o5 :: o10 :: o262 :: o5 :: t
noncomputable def e794_33 (P:Params) (t:List Obj):List Obj:=o14 :: o230 :: o37 :: o5 :: o10 :: o86 :: o5 :: o155 :: o216 :: o312 :: o5 :: o10 :: o248 :: o5 :: o192 :: t
noncomputable def e794_34 (P:Params) (t:List Obj):List Obj:=o118 :: o285 :: o5 :: o10 :: o41 :: o5 :: o181 :: o100 :: o343 :: o5 :: o10 :: o145 :: o19 :: o308 :: o5 :: t
noncomputable def e794_35 (P:Params) (t:List Obj):List Obj:=o10 :: o287 :: o163 :: o110 :: o5 :: o10 :: o131 :: o5 :: o68 :: o336 :: o326 :: o5 :: o10 :: o148 :: o5 :: t
noncomputable def e794_36 (P:Params) (t:List Obj):List Obj:=o303 :: o259 :: o211 :: o5 :: o10 :: o305 :: o240 :: o215 :: o5 :: o10 :: o152 :: o335 :: o198 :: o5 :: o10 :: t
noncomputable def e794_37 (P:Params) (t:List Obj):List Obj:=o87 :: o92 :: o201 :: t
noncomputable def e794 (P:Params):Heap:=⟨⟨(e794_0 P (e794_1 P (e794_2 P (e794_3 P (e794_4 P (e794_5 P (e794_6 P (e794_7 P (e794_8 P (e794_9 P (e794_10 P (e794_11 P (e794_12 P (e794_13 P (e794_14 P (e794_15 P (e794_16 P (e794_17 P (e794_18 P (e794_19 P (e794_20 P (e794_21 P (e794_22 P (e794_23 P (e794_24 P (e794_25 P (e794_26 P (e794_27 P (e794_28 P (e794_29 P (e794_30 P (e794_31 P (e794_32 P (e794_33 P (e794_34 P (e794_35 P (e794_36 P (e794_37 P []))))))))))))))))))))))))))))))))))))))⟩,⟨[],[],[],0,[],[],false,#[],[],0,false,false,false,0,[2000,10,10],false,0,true,[],[],0,false⟩⟩
noncomputable def q13:BT:=N (o332 P) (N (boot_o_7 P) (N o5 (N o235 L L) (N o76 L L)) (N o137 (N o10 L L) (N (o317 P) L L))) (N o5 (N o359 (N o76 L L) (N o10 L L)) (N o187 (N (o340 P) L L) L))
noncomputable def q14:BT:=N (boot_o_5 P) (N (boot_o_9 P) (N o333 (N o300 L L) (N (o251 P) L L)) (N o5 (N o247 L L) (N o291 L L))) (N o210 (N o315 (N (o276 P) L L) (N o168 L L)) (N o5 (N o353 L L) L))
noncomputable def q15:BT:=N (boot_o_4 P) (N (boot_o_8 P) (N o10 (N o129 L L) (N o137 L L)) (N (o334 P) (N o171 L L) (N o328 L L))) (N o313 (N o209 (N o137 L L) (N o135 L L)) (N o165 (N o20 L L) L))
noncomputable def q16:BT:=N (boot_o_6 P) (N (boot_o_10 P) (N o5 (N o56 L L) (N o5 L L)) (N o10 (N o5 L L) (N o84 L L))) (N o96 (N o106 (N o5 L L) (N o5 L L)) (N (o38 P) (N o280 L L) L))
noncomputable def t100 (P:Params):BT:=(N (boot_o_0 P) (N (boot_o_1 P) (q13 P) (q14 P)) (N (boot_o_2 P) (q15 P) (q16 P)))
noncomputable def q17:BT:=N (o126 P) (N (boot_o_7 P) (N o5 (N o66 (N o10 L L) L) (N o76 L L)) (N o137 (N o10 L L) (N (o317 P) L L))) (N o5 (N o359 (N o76 (N (o258 P) L L) L) (N o10 L L)) (N o187 (N (o340 P) L L) (N o76 L L)))
noncomputable def q18:BT:=N (boot_o_5 P) (N (boot_o_9 P) (N o333 (N o300 (N o53 L L) L) (N (o251 P) L L)) (N o5 (N o247 L L) (N o291 L L))) (N o210 (N o315 (N (o276 P) (N o156 L L) L) (N o168 L L)) (N o5 (N o353 L L) (N (o281 P) L L)))
noncomputable def q19:BT:=N (boot_o_4 P) (N (boot_o_8 P) (N o10 (N o129 (N o217 L L) L) (N o137 L L)) (N (o334 P) (N o171 L L) (N o328 L L))) (N o253 (N o209 (N o137 (N o331 L L) L) (N o135 L L)) (N o165 (N o20 L L) (N o137 L L)))
noncomputable def q20:BT:=N (boot_o_6 P) (N (boot_o_10 P) (N o5 (N o56 (N o5 L L) L) (N o5 L L)) (N o10 (N o5 L L) (N o84 L L))) (N o96 (N o106 (N o5 (N o288 L L) L) (N o5 L L)) (N (o38 P) (N o280 L L) (N o5 L L)))
noncomputable def t115 (P:Params):BT:=(N (boot_o_0 P) (N (boot_o_1 P) (q17 P) (q18 P)) (N (boot_o_2 P) (q19 P) (q20 P)))
noncomputable def e46_0 (P:Params) (t:List Obj):List Obj:=(boot_o_0 P) :: (boot_o_1 P) :: (boot_o_2 P) :: (boot_o_3 P) :: (boot_o_4 P) :: (boot_o_5 P) :: (boot_o_6 P) :: (boot_o_7 P) :: (boot_o_8 P) :: (boot_o_9 P) :: (boot_o_10 P) :: o5 :: o10 :: o210 :: o96 :: t
noncomputable def e46 (P:Params):Heap:=⟨⟨(e46_0 P [])⟩,⟨[],[],[],0,[],[],false,#[],[],0,false,false,false,0,[2000,10,10],false,0,true,[],[],0,false⟩⟩
noncomputable def q21:BT:=N (boot_o_7 P) (N o5 (N o127 (N o10 L L) (N o5 L L)) (N o76 (N (o143 P) L L) (N o341 L L))) (N o137 (N o10 (N o76 L L) (N o5 L L)) (N (o317 P) (N o10 L L) (N o5 L L)))
noncomputable def q22:BT:=N o5 (N o359 (N o76 (N (o258 P) L L) (N o245 L L)) (N o10 (N o76 L L) (N o10 L L))) (N o187 (N (o340 P) (N o10 L L) (N o5 L L)) (N o76 (N (o357 P) L L) (N o298 L L)))
noncomputable def q23:BT:=N (boot_o_9 P) (N o333 (N o300 (N o53 L L) (N o59 L L)) (N (o251 P) (N o222 L L) (N o346 L L))) (N o5 (N o247 (N (o233 P) L L) (N o319 L L)) (N o291 (N o132 L L) (N o123 L L)))
noncomputable def q24:BT:=N o210 (N o315 (N (o276 P) (N o156 L L) (N o10 L L)) (N o168 (N (o239 P) L L) (N o189 L L))) (N o5 (N o353 (N o199 L L) (N o356 L L)) (N (o281 P) (N o206 L L) (N o275 L L)))
noncomputable def q25:BT:=N (boot_o_8 P) (N o10 (N o129 (N o217 L L) (N o10 L L)) (N o137 (N o269 L L) (N o15 L L))) (N (o334 P) (N o171 (N o137 L L) (N o223 L L)) (N o328 (N o272 L L) (N o10 L L)))
noncomputable def q26:BT:=N o284 (N o209 (N o137 (N o331 L L) (N o5 L L)) (N o135 (N o137 L L) (N o264 L L))) (N o165 (N o20 (N o318 L L) (N o10 L L)) (N o137 (N o295 L L) (N o162 L L)))
noncomputable def q27:BT:=N (boot_o_10 P) (N o5 (N o56 (N o5 L L) (N o200 L L)) (N o5 (N o242 L L) (N o5 L L))) (N o10 (N o5 (N o5 L L) (N o347 L L)) (N o84 (N o5 L L) (N o5 L L)))
noncomputable def q28:BT:=N o96 (N o106 (N o5 (N o288 L L) (N o138 L L)) (N o5 (N o5 L L) (N o212 L L))) (N (o38 P) (N o280 (N o5 L L) (N o5 L L)) (N o5 (N o289 L L) L))
noncomputable def q29:BT:=N (boot_o_0 P) (N (boot_o_1 P) (N (o11 P) (q21 P) (q22 P)) (N (boot_o_5 P) (q23 P) (q24 P))) (N (boot_o_2 P) (N (boot_o_4 P) (q25 P) q26) (N (boot_o_6 P) (q27 P) (q28 P)))
noncomputable def t176 (P:Params):BT:=(q29 P)
noncomputable def q30:BT:=N o127 (N o10 (N o10 (N o243 (N o285 L L) L) (N o10 L L)) (N o180 (N o193 L L) (N o31 L L))) (N o5 (N o153 (N o266 L L) (N o5 L L)) (N o10 (N o25 L L) (N o5 L L)))
noncomputable def q31:BT:=N o76 (N (o143 P) (N o5 (N o5 L L) (N o5 L L)) (N o311 (N o5 L L) (N o10 L L))) (N o341 (N o5 (N o10 L L) (N o218 L L)) (N o5 (N o257 L L) (N o14 L L)))
noncomputable def q32:BT:=N o10 (N o76 (N o255 (N o220 L L) (N o342 L L)) (N o279 (N o45 L L) (N o5 L L))) (N o5 (N o2 (N o5 L L) (N o5 L L)) (N o0 (N o194 L L) (N o5 L L)))
noncomputable def q33:BT:=N (o317 P) (N o10 (N o102 (N o10 L L) (N o302 L L)) (N o5 (N o10 L L) (N o330 L L))) (N o5 (N o10 (N o62 L L) (N o350 L L)) (N o282 (N o5 L L) (N o216 L L)))
noncomputable def q34:BT:=N o76 (N (o258 P) (N o88 (N o244 (N o5 L L) L) (N o81 L L)) (N o10 (N o179 L L) (N o5 L L))) (N o245 (N o40 (N o10 L L) (N o109 L L)) (N o79 (N o10 L L) (N o323 L L)))
noncomputable def q35:BT:=N o10 (N o76 (N o5 (N o234 L L) (N o5 L L)) (N o5 (N o13 L L) (N o5 L L))) (N o10 (N o128 (N o5 L L) (N o10 L L)) (N o5 (N o5 L L) (N o10 L L)))
noncomputable def q36:BT:=N (o340 P) (N o10 (N o219 (N o172 L L) (N o82 L L)) (N o170 (N o5 L L) (N o134 L L))) (N o5 (N o5 (N o149 L L) (N o261 L L)) (N o29 (N o17 L L) (N o5 L L)))
noncomputable def q37:BT:=N o76 (N (o357 P) (N o10 (N o5 L L) (N o5 L L)) (N o90 (N o5 L L) (N o5 L L))) (N o298 (N o5 (N o10 L L) (N o278 L L)) (N o10 (N o190 L L) (N o248 L L)))
noncomputable def q38:BT:=N (o322 P) (N (boot_o_7 P) (N o5 q30 (q31 P)) (N o137 q32 (q33 P))) (N o5 (N o359 (q34 P) q35) (N o187 (q36 P) (q37 P)))
noncomputable def q39:BT:=N o300 (N o53 (N o5 (N o5 (N o10 L L) L) (N o5 L L)) (N o197 (N o5 L L) (N o10 L L))) (N o59 (N o5 (N o169 L L) (N o49 L L)) (N o5 (N o98 L L) (N o73 L L)))
noncomputable def q40:BT:=N (o251 P) (N o222 (N o1 (N o246 L L) (N o144 L L)) (N o10 (N o72 L L) (N o345 L L))) (N o346 (N o151 (N o177 L L) (N o124 L L)) (N o65 (N o10 L L) (N o37 L L)))
noncomputable def q41:BT:=N o247 (N (o233 P) (N o114 (N (o324 P) L L) (N o337 L L)) (N o5 (N o10 L L) (N o236 L L))) (N o319 (N o10 (N (o74 P) L L) (N o270 L L)) (N o325 (N o5 L L) (N o344 L L)))
noncomputable def q42:BT:=N o291 (N o132 (N o42 (N o231 L L) (N o10 L L)) (N o320 (N o24 L L) (N o10 L L))) (N o123 (N o54 (N o61 L L) (N o5 L L)) (N o121 (N o159 L L) (N o5 L L)))
noncomputable def q43:BT:=N (o276 P) (N o156 (N o5 (N o263 (N o100 L L) L) (N o5 L L)) (N o5 (N o175 L L) (N o43 L L))) (N o10 (N o122 (N o241 L L) (N o10 L L)) (N o5 (N o5 L L) (N o10 L L)))
noncomputable def q44:BT:=N o168 (N (o239 P) (N o7 (N o139 L L) (N o307 L L)) (N o107 (N o141 L L) (N o158 L L))) (N o189 (N o224 (N o111 L L) (N o5 L L)) (N o183 (N o27 L L) (N o5 L L)))
noncomputable def q45:BT:=N o353 (N o199 (N o137 (N o166 L L) (N o10 L L)) (N o225 (N o9 L L) (N o63 L L))) (N o356 (N o161 (N o22 L L) (N o112 L L)) (N o10 (N o91 L L) (N o262 L L)))
noncomputable def q46:BT:=N (o281 P) (N o206 (N o5 (N o202 L L) (N o182 L L)) (N o3 (N o252 L L) (N o75 L L))) (N o275 (N o83 (N o5 L L) (N o191 L L)) (N o5 (N o70 L L) (N o192 L L)))
noncomputable def q47:BT:=N (boot_o_5 P) (N (boot_o_9 P) (N o333 q39 (q40 P)) (N o5 (q41 P) q42)) (N o210 (N o315 (q43 P) (q44 P)) (N o5 q45 (q46 P)))
noncomputable def q48:BT:=N o129 (N o217 (N o130 (N o299 (N o5 L L) L) (N o167 L L)) (N o52 (N o108 L L) (N o5 L L))) (N o10 (N o77 (N o273 L L) (N o10 L L)) (N o174 (N o142 L L) (N o10 L L)))
noncomputable def q49:BT:=N o137 (N o269 (N o358 (N o10 L L) (N o136 L L)) (N o5 (N o10 L L) (N o195 L L))) (N o15 (N o10 (N o21 L L) (N o339 L L)) (N o115 (N o5 L L) (N o230 L L)))
noncomputable def q50:BT:=N o171 (N o137 (N o5 (N o55 L L) (N o5 L L)) (N o188 (N o5 L L) (N o10 L L))) (N o223 (N o5 (N o137 L L) (N o310 L L)) (N o5 (N o101 L L) (N o60 L L)))
noncomputable def q51:BT:=N o328 (N o272 (N o94 (N o306 L L) (N o5 L L)) (N o10 (N o147 L L) (N o5 L L))) (N o10 (N o46 (N o237 L L) (N o296 L L)) (N o85 (N o10 L L) (N o312 L L)))
noncomputable def q52:BT:=N o137 (N o331 (N o51 (N o5 (N o181 L L) L) (N o316 L L)) (N o48 (N o5 L L) (N o196 L L))) (N o5 (N o5 (N o349 L L) (N o5 L L)) (N o173 (N o30 L L) (N o5 L L)))
noncomputable def q53:BT:=N o135 (N o137 (N o10 (N o321 L L) (N o10 L L)) (N o157 (N o44 L L) (N o10 L L))) (N o264 (N o34 (N o10 L L) (N o297 L L)) (N o10 (N o146 L L) (N o86 L L)))
noncomputable def q54:BT:=N o20 (N o318 (N o5 (N o154 L L) (N o5 L L)) (N o5 (N o93 L L) (N o221 L L))) (N o10 (N o294 (N o214 L L) (N (o301 P) L L)) (N o5 (N o5 L L) (N o10 L L)))
noncomputable def q55:BT:=N o137 (N o295 (N o28 (N o10 L L) (N o150 L L)) (N o104 (N o10 L L) (N o69 L L))) (N o162 (N o10 (N o140 L L) (N o5 L L)) (N o58 (N o260 L L) (N o5 L L)))
noncomputable def q56:BT:=N (boot_o_4 P) (N (boot_o_8 P) (N o10 q48 q49) (N (o334 P) q50 q51)) (N o304 (N o209 q52 q53) (N o165 (q54 P) q55))
noncomputable def q57:BT:=N o56 (N o5 (N o274 (N o10 (N o41 L L) L) (N o203 L L)) (N o5 (N o10 L L) (N o176 L L))) (N o200 (N o10 (N o5 L L) (N o351 L L)) (N o286 (N o5 L L) (N o4 L L)))
noncomputable def q58:BT:=N o5 (N o242 (N o314 (N o5 L L) (N o32 L L)) (N o164 (N o5 L L) (N o33 L L))) (N o5 (N o5 (N o226 L L) (N o5 L L)) (N o78 (N o185 L L) (N o5 L L)))
noncomputable def q59:BT:=N o5 (N o5 (N o227 (N o329 L L) (N o117 L L)) (N o10 (N o133 L L) (N o5 L L))) (N o347 (N o249 (N o5 L L) (N o80 L L)) (N o95 (N o10 L L) (N o6 L L)))
noncomputable def q60:BT:=N o84 (N o5 (N o5 (N o355 L L) (N o57 L L)) (N o5 (N o268 L L) (N o119 L L))) (N o5 (N o47 (N o5 L L) (N o10 L L)) (N o5 (N o5 L L) (N o10 L L)))
noncomputable def q61:BT:=N o5 (N o288 (N o10 (N o105 (N o343 L L) L) (N o10 L L)) (N o36 (N o35 L L) (N o290 L L))) (N o138 (N o178 (N o352 L L) (N o267 L L)) (N o10 (N o97 L L) (N o254 L L)))
noncomputable def q62:BT:=N o5 (N o5 (N o5 (N o5 L L) (N o103 L L)) (N o50 (N o5 L L) (N o16 L L))) (N o212 (N o5 (N o5 L L) (N o23 L L)) (N o5 (N o271 L L) (N o155 L L)))
noncomputable def q63:BT:=N o280 (N o5 (N (o204 P) (N o113 L L) (N o213 L L)) (N o184 (N o186 L L) (N o5 L L))) (N o5 (N o277 (N o5 L L) (N o293 L L)) (N o250 (N o229 L L) (N o5 L L)))
noncomputable def q64:BT:=N o5 (N o289 (N o12 (N o5 L L) (N o205 L L)) (N o5 (N o5 L L) (N o292 L L))) (N o5 (N o5 (N o26 L L) (N o338 L L)) (N o238 (N o5 L L) (N o118 L L)))
noncomputable def q65:BT:=N (boot_o_6 P) (N (boot_o_10 P) (N o5 q57 q58) (N o10 q59 q60)) (N o96 (N o106 q61 q62) (N (o38 P) (q63 P) q64))
noncomputable def t752 (P:Params):BT:=(N (boot_o_0 P) (N (boot_o_1 P) (q38 P) (q47 P)) (N (boot_o_2 P) (q56 P) (q65 P)))
noncomputable def q66:BT:=N o127 (N o10 (N o10 (N o243 L L) (N o10 L L)) (N o180 (N o193 L L) L)) (N o5 (N o153 (N o266 L L) (N o5 L L)) (N o10 (N o25 L L) L))
noncomputable def q67:BT:=N o76 (N (o143 P) (N o5 (N o5 L L) (N o5 L L)) (N o311 (N o5 L L) L)) (N o341 (N o5 (N o10 L L) (N o218 L L)) (N o5 (N o257 L L) L))
noncomputable def q68:BT:=N o10 (N o76 (N o255 (N o220 L L) (N o342 L L)) (N o279 (N o45 L L) L)) (N o5 (N o2 (N o5 L L) (N o5 L L)) (N o0 (N o194 L L) L))
noncomputable def q69:BT:=N (o317 P) (N o10 (N o102 (N o10 L L) (N o302 L L)) (N o5 (N o10 L L) L)) (N o5 (N o10 (N o62 L L) L) (N o282 (N o5 L L) L))
noncomputable def q70:BT:=N o76 (N (o258 P) (N o88 (N o244 L L) (N o81 L L)) (N o10 (N o179 L L) L)) (N o245 (N o40 (N o10 L L) (N o109 L L)) (N o79 (N o10 L L) L))
noncomputable def q71:BT:=N o10 (N o76 (N o5 (N o234 L L) (N o5 L L)) (N o5 (N o13 L L) L)) (N o10 (N o128 (N o5 L L) L) (N o5 (N o5 L L) L))
noncomputable def q72:BT:=N (o340 P) (N o10 (N o219 (N o172 L L) (N o82 L L)) (N o170 (N o5 L L) L)) (N o5 (N o5 (N o149 L L) (N o261 L L)) (N o29 (N o17 L L) L))
noncomputable def q73:BT:=N o76 (N (o357 P) (N o10 (N o5 L L) (N o5 L L)) (N o90 (N o5 L L) L)) (N o298 (N o5 (N o10 L L) L) (N o10 (N o190 L L) L))
noncomputable def q74:BT:=N (o207 P) (N (boot_o_7 P) (N o5 q66 (q67 P)) (N o137 q68 (q69 P))) (N o5 (N o359 (q70 P) q71) (N o187 (q72 P) (q73 P)))
noncomputable def q75:BT:=N o300 (N o53 (N o5 (N o5 L L) (N o5 L L)) (N o197 (N o5 L L) L)) (N o59 (N o5 (N o169 L L) (N o49 L L)) (N o5 (N o98 L L) L))
noncomputable def q76:BT:=N (o251 P) (N o222 (N o1 (N o246 L L) (N o144 L L)) (N o10 (N o72 L L) L)) (N o346 (N o151 (N o177 L L) (N o124 L L)) (N o65 (N o10 L L) L))
noncomputable def q77:BT:=N o247 (N (o233 P) (N o114 (N (o324 P) L L) (N o337 L L)) (N o5 (N o10 L L) L)) (N o319 (N o10 (N (o74 P) L L) (N o270 L L)) (N o325 (N o5 L L) L))
noncomputable def q78:BT:=N o291 (N o132 (N o42 (N o231 L L) (N o10 L L)) (N o320 (N o24 L L) L)) (N o123 (N o54 (N o61 L L) L) (N o121 (N o159 L L) L))
noncomputable def q79:BT:=N (o276 P) (N o156 (N o5 (N o263 L L) (N o5 L L)) (N o5 (N o175 L L) L)) (N o10 (N o122 (N o241 L L) (N o10 L L)) (N o5 (N o5 L L) L))
noncomputable def q80:BT:=N o168 (N (o239 P) (N o7 (N o139 L L) (N o307 L L)) (N o107 (N o141 L L) L)) (N o189 (N o224 (N o111 L L) L) (N o183 (N o27 L L) L))
noncomputable def q81:BT:=N o353 (N o199 (N o137 (N o166 L L) (N o10 L L)) (N o225 (N o9 L L) L)) (N o356 (N o161 (N o22 L L) (N o112 L L)) (N o10 (N o91 L L) L))
noncomputable def q82:BT:=N (o281 P) (N o206 (N o5 (N o202 L L) (N o182 L L)) (N o3 (N o252 L L) L)) (N o275 (N o83 (N o5 L L) L) (N o5 (N o70 L L) L))
noncomputable def q83:BT:=N (boot_o_5 P) (N (boot_o_9 P) (N o333 q75 (q76 P)) (N o5 (q77 P) q78)) (N o210 (N o315 (q79 P) (q80 P)) (N o5 q81 (q82 P)))
noncomputable def q84:BT:=N o129 (N o217 (N o130 (N o299 L L) (N o167 L L)) (N o52 (N o108 L L) L)) (N o10 (N o77 (N o273 L L) (N o10 L L)) (N o174 (N o142 L L) L))
noncomputable def q85:BT:=N o137 (N o269 (N o358 (N o10 L L) (N o136 L L)) (N o5 (N o10 L L) L)) (N o15 (N o10 (N o21 L L) (N o339 L L)) (N o115 (N o5 L L) L))
noncomputable def q86:BT:=N o171 (N o137 (N o5 (N o55 L L) (N o5 L L)) (N o188 (N o5 L L) L)) (N o223 (N o5 (N o137 L L) (N o310 L L)) (N o5 (N o101 L L) L))
noncomputable def q87:BT:=N o328 (N o272 (N o94 (N o306 L L) (N o5 L L)) (N o10 (N o147 L L) L)) (N o10 (N o46 (N o237 L L) L) (N o85 (N o10 L L) L))
noncomputable def q88:BT:=N o137 (N o331 (N o51 (N o5 L L) (N o316 L L)) (N o48 (N o5 L L) L)) (N o5 (N o5 (N o349 L L) (N o5 L L)) (N o173 (N o30 L L) L))
noncomputable def q89:BT:=N o135 (N o137 (N o10 (N o321 L L) (N o10 L L)) (N o157 (N o44 L L) L)) (N o264 (N o34 (N o10 L L) L) (N o10 (N o146 L L) L))
noncomputable def q90:BT:=N o20 (N o318 (N o5 (N o154 L L) (N o5 L L)) (N o5 (N o93 L L) L)) (N o10 (N o294 (N o214 L L) (N (o301 P) L L)) (N o5 (N o5 L L) L))
noncomputable def q91:BT:=N o137 (N o295 (N o28 (N o10 L L) (N o150 L L)) (N o104 (N o10 L L) L)) (N o162 (N o10 (N o140 L L) L) (N o58 (N o260 L L) L))
noncomputable def q92:BT:=N (boot_o_4 P) (N (boot_o_8 P) (N o10 q84 q85) (N (o334 P) q86 q87)) (N o71 (N o209 q88 q89) (N o165 (q90 P) q91))
noncomputable def q93:BT:=N o56 (N o5 (N o274 (N o10 L L) (N o203 L L)) (N o5 (N o10 L L) L)) (N o200 (N o10 (N o5 L L) (N o351 L L)) (N o286 (N o5 L L) L))
noncomputable def q94:BT:=N o5 (N o242 (N o314 (N o5 L L) (N o32 L L)) (N o164 (N o5 L L) L)) (N o5 (N o5 (N o226 L L) L) (N o78 (N o185 L L) L))
noncomputable def q95:BT:=N o5 (N o5 (N o227 (N o329 L L) (N o117 L L)) (N o10 (N o133 L L) L)) (N o347 (N o249 (N o5 L L) (N o80 L L)) (N o95 (N o10 L L) L))
noncomputable def q96:BT:=N o84 (N o5 (N o5 (N o355 L L) (N o57 L L)) (N o5 (N o268 L L) L)) (N o5 (N o47 (N o5 L L) L) (N o5 (N o5 L L) L))
noncomputable def q97:BT:=N o5 (N o288 (N o10 (N o105 L L) (N o10 L L)) (N o36 (N o35 L L) L)) (N o138 (N o178 (N o352 L L) (N o267 L L)) (N o10 (N o97 L L) L))
noncomputable def q98:BT:=N o5 (N o5 (N o5 (N o5 L L) (N o103 L L)) (N o50 (N o5 L L) L)) (N o212 (N o5 (N o5 L L) L) (N o5 (N o271 L L) L))
noncomputable def q99:BT:=N o280 (N o5 (N (o204 P) (N o113 L L) (N o213 L L)) (N o184 (N o186 L L) L)) (N o5 (N o277 (N o5 L L) (N o293 L L)) (N o250 (N o229 L L) L))
noncomputable def q100:BT:=N o5 (N o289 (N o12 (N o5 L L) (N o205 L L)) (N o5 (N o5 L L) L)) (N o5 (N o5 (N o26 L L) L) (N o238 (N o5 L L) L))
noncomputable def q101:BT:=N (boot_o_6 P) (N (boot_o_10 P) (N o5 q93 q94) (N o10 q95 q96)) (N o96 (N o106 q97 q98) (N (o38 P) (q99 P) q100))
noncomputable def t581 (P:Params):BT:=(N (boot_o_0 P) (N (boot_o_1 P) (q74 P) (q83 P)) (N (boot_o_2 P) (q92 P) (q101 P)))
noncomputable def q102:BT:=N o127 (N o10 (N o10 (N o243 (N o285 L L) L) (N o10 L L)) (N o180 (N o193 L L) (N o31 L L))) (N o5 (N o153 (N o266 (N o5 L L) L) (N o5 L L)) (N o10 (N o25 L L) (N o5 L L)))
noncomputable def q103:BT:=N o76 (N (o143 P) (N o5 (N o5 (N o163 L L) L) (N o5 L L)) (N o311 (N o5 L L) (N o10 L L))) (N o341 (N o5 (N o10 L L) (N o218 L L)) (N o5 (N o257 L L) (N o14 L L)))
noncomputable def q104:BT:=N o10 (N o76 (N o255 (N o220 (N o5 L L) L) (N o342 L L)) (N o279 (N o45 L L) (N o5 L L))) (N o5 (N o2 (N o5 (N o335 L L) L) (N o5 L L)) (N o0 (N o194 L L) (N o5 L L)))
noncomputable def q105:BT:=N (o317 P) (N o10 (N o102 (N o10 (N o326 L L) L) (N o302 L L)) (N o5 (N o10 L L) (N o330 L L))) (N o5 (N o10 (N o62 L L) (N o350 L L)) (N o282 (N o5 L L) (N o216 L L)))
noncomputable def q106:BT:=N o76 (N (o258 P) (N o88 (N o244 (N o5 L L) L) (N o81 L L)) (N o10 (N o179 L L) (N o5 L L))) (N o245 (N o40 (N o10 (N o215 L L) L) (N o109 L L)) (N o79 (N o10 L L) (N o323 L L)))
noncomputable def q107:BT:=N o10 (N o76 (N o5 (N o234 (N o131 L L) L) (N o5 L L)) (N o5 (N o13 L L) (N o5 L L))) (N o10 (N o128 (N o5 L L) (N o10 L L)) (N o5 (N o5 L L) (N o10 L L)))
noncomputable def q108:BT:=N (o340 P) (N o10 (N o219 (N o172 (N o308 L L) L) (N o82 L L)) (N o170 (N o5 L L) (N o134 L L))) (N o5 (N o5 (N o149 (N o87 L L) L) (N o261 L L)) (N o29 (N o17 L L) (N o5 L L)))
noncomputable def q109:BT:=N o76 (N (o357 P) (N o10 (N o5 (N o5 L L) L) (N o5 L L)) (N o90 (N o5 L L) (N o5 L L))) (N o298 (N o5 (N o10 L L) (N o278 L L)) (N o10 (N o190 L L) (N o248 L L)))
noncomputable def q110:BT:=N (o116 P) (N (boot_o_7 P) (N o5 q102 (q103 P)) (N o137 q104 (q105 P))) (N o5 (N o359 (q106 P) q107) (N o187 (q108 P) (q109 P)))
noncomputable def q111:BT:=N o300 (N o53 (N o5 (N o5 (N o10 L L) L) (N o5 L L)) (N o197 (N o5 L L) (N o10 L L))) (N o59 (N o5 (N o169 (N o305 L L) L) (N o49 L L)) (N o5 (N o98 L L) (N o73 L L)))
noncomputable def q112:BT:=N (o251 P) (N o222 (N o1 (N o246 (N o5 L L) L) (N o144 L L)) (N o10 (N o72 L L) (N o345 L L))) (N o346 (N o151 (N o177 L L) (N o124 L L)) (N o65 (N o10 L L) (N o37 L L)))
noncomputable def q113:BT:=N o247 (N (o233 P) (N o114 (N (o324 P) (N o145 L L) L) (N o337 L L)) (N o5 (N o10 L L) (N o236 L L))) (N o319 (N o10 (N (o74 P) (N o5 L L) L) (N o270 L L)) (N o325 (N o5 L L) (N o344 L L)))
noncomputable def q114:BT:=N o291 (N o132 (N o42 (N o231 (N o10 L L) L) (N o10 L L)) (N o320 (N o24 L L) (N o10 L L))) (N o123 (N o54 (N o61 L L) (N o5 L L)) (N o121 (N o159 L L) (N o5 L L)))
noncomputable def q115:BT:=N (o276 P) (N o156 (N o5 (N o263 (N o100 L L) L) (N o5 L L)) (N o5 (N o175 L L) (N o43 L L))) (N o10 (N o122 (N o241 (N o10 L L) L) (N o10 L L)) (N o5 (N o5 L L) (N o10 L L)))
noncomputable def q116:BT:=N o168 (N (o239 P) (N o7 (N o139 (N o68 L L) L) (N o307 L L)) (N o107 (N o141 L L) (N o158 L L))) (N o189 (N o224 (N o111 L L) (N o5 L L)) (N o183 (N o27 L L) (N o5 L L)))
noncomputable def q117:BT:=N o353 (N o199 (N o137 (N o166 (N o10 L L) L) (N o10 L L)) (N o225 (N o9 L L) (N o63 L L))) (N o356 (N o161 (N o22 (N o201 L L) L) (N o112 L L)) (N o10 (N o91 L L) (N o262 L L)))
noncomputable def q118:BT:=N (o281 P) (N o206 (N o5 (N o202 (N o259 L L) L) (N o182 L L)) (N o3 (N o252 L L) (N o75 L L))) (N o275 (N o83 (N o5 L L) (N o191 L L)) (N o5 (N o70 L L) (N o192 L L)))
noncomputable def q119:BT:=N (boot_o_5 P) (N (boot_o_9 P) (N o333 q111 (q112 P)) (N o5 (q113 P) q114)) (N o210 (N o315 (q115 P) (q116 P)) (N o5 q117 (q118 P)))
noncomputable def q120:BT:=N o129 (N o217 (N o130 (N o299 (N o5 L L) L) (N o167 L L)) (N o52 (N o108 L L) (N o5 L L))) (N o10 (N o77 (N o273 (N o10 L L) L) (N o10 L L)) (N o174 (N o142 L L) (N o10 L L)))
noncomputable def q121:BT:=N o137 (N o269 (N o358 (N o10 (N o110 L L) L) (N o136 L L)) (N o5 (N o10 L L) (N o195 L L))) (N o15 (N o10 (N o21 L L) (N o339 L L)) (N o115 (N o5 L L) (N o230 L L)))
noncomputable def q122:BT:=N o171 (N o137 (N o5 (N o55 (N o10 L L) L) (N o5 L L)) (N o188 (N o5 L L) (N o10 L L))) (N o223 (N o5 (N o137 (N o198 L L) L) (N o310 L L)) (N o5 (N o101 L L) (N o60 L L)))
noncomputable def q123:BT:=N o328 (N o272 (N o94 (N o306 (N o5 L L) L) (N o5 L L)) (N o10 (N o147 L L) (N o5 L L))) (N o10 (N o46 (N o237 L L) (N o296 L L)) (N o85 (N o10 L L) (N o312 L L)))
noncomputable def q124:BT:=N o137 (N o331 (N o51 (N o5 (N o181 L L) L) (N o316 L L)) (N o48 (N o5 L L) (N o196 L L))) (N o5 (N o5 (N o349 (N o5 L L) L) (N o5 L L)) (N o173 (N o30 L L) (N o5 L L)))
noncomputable def q125:BT:=N o135 (N o137 (N o10 (N o321 (N o5 L L) L) (N o10 L L)) (N o157 (N o44 L L) (N o10 L L))) (N o264 (N o34 (N o10 L L) (N o297 L L)) (N o10 (N o146 L L) (N o86 L L)))
noncomputable def q126:BT:=N o20 (N o318 (N o5 (N o154 (N o5 L L) L) (N o5 L L)) (N o5 (N o93 L L) (N o221 L L))) (N o10 (N o294 (N o214 (N o92 L L) L) (N (o301 P) L L)) (N o5 (N o5 L L) (N o10 L L)))
noncomputable def q127:BT:=N o137 (N o295 (N o28 (N o10 (N o303 L L) L) (N o150 L L)) (N o104 (N o10 L L) (N o69 L L))) (N o162 (N o10 (N o140 L L) (N o5 L L)) (N o58 (N o260 L L) (N o5 L L)))
noncomputable def q128:BT:=N (boot_o_4 P) (N (boot_o_8 P) (N o10 q120 q121) (N (o334 P) q122 q123)) (N o120 (N o209 q124 q125) (N o165 (q126 P) q127))
noncomputable def q129:BT:=N o56 (N o5 (N o274 (N o10 (N o41 L L) L) (N o203 L L)) (N o5 (N o10 L L) (N o176 L L))) (N o200 (N o10 (N o5 (N o240 L L) L) (N o351 L L)) (N o286 (N o5 L L) (N o4 L L)))
noncomputable def q130:BT:=N o5 (N o242 (N o314 (N o5 (N o10 L L) L) (N o32 L L)) (N o164 (N o5 L L) (N o33 L L))) (N o5 (N o5 (N o226 L L) (N o5 L L)) (N o78 (N o185 L L) (N o5 L L)))
noncomputable def q131:BT:=N o5 (N o5 (N o227 (N o329 (N o19 L L) L) (N o117 L L)) (N o10 (N o133 L L) (N o5 L L))) (N o347 (N o249 (N o5 (N o10 L L) L) (N o80 L L)) (N o95 (N o10 L L) (N o6 L L)))
noncomputable def q132:BT:=N o84 (N o5 (N o5 (N o355 (N o148 L L) L) (N o57 L L)) (N o5 (N o268 L L) (N o119 L L))) (N o5 (N o47 (N o5 L L) (N o10 L L)) (N o5 (N o5 L L) (N o10 L L)))
noncomputable def q133:BT:=N o5 (N o288 (N o10 (N o105 (N o343 L L) L) (N o10 L L)) (N o36 (N o35 L L) (N o290 L L))) (N o138 (N o178 (N o352 (N o152 L L) L) (N o267 L L)) (N o10 (N o97 L L) (N o254 L L)))
noncomputable def q134:BT:=N o5 (N o5 (N o5 (N o5 (N o336 L L) L) (N o103 L L)) (N o50 (N o5 L L) (N o16 L L))) (N o212 (N o5 (N o5 L L) (N o23 L L)) (N o5 (N o271 L L) (N o155 L L)))
noncomputable def q135:BT:=N o280 (N o5 (N (o204 P) (N o113 (N o287 L L) L) (N o213 L L)) (N o184 (N o186 L L) (N o5 L L))) (N o5 (N o277 (N o5 L L) (N o293 L L)) (N o250 (N o229 L L) (N o5 L L)))
noncomputable def q136:BT:=N o5 (N o289 (N o12 (N o5 (N o211 L L) L) (N o205 L L)) (N o5 (N o5 L L) (N o292 L L))) (N o5 (N o5 (N o26 L L) (N o338 L L)) (N o238 (N o5 L L) (N o118 L L)))
noncomputable def q137:BT:=N (boot_o_6 P) (N (boot_o_10 P) (N o5 q129 q130) (N o10 q131 q132)) (N o96 (N o106 q133 q134) (N (o38 P) (q135 P) q136))
noncomputable def t793 (P:Params):BT:=(N (boot_o_0 P) (N (boot_o_1 P) (q110 P) (q119 P)) (N (boot_o_2 P) (q128 P) (q137 P)))
noncomputable def q138:BT:=N (boot_o_7 P) (N o5 (N o354 (N o10 L L) L) (N o76 (N (o143 P) L L) L)) (N o137 (N o10 (N o76 L L) L) (N (o317 P) L L))
noncomputable def q139:BT:=N (o208 P) (q138 P) (N o5 (N o359 (N o76 (N (o258 P) L L) L) (N o10 L L)) (N o187 (N (o340 P) (N o10 L L) L) (N o76 L L)))
noncomputable def q140:BT:=N (boot_o_9 P) (N o333 (N o300 (N o53 L L) L) (N (o251 P) (N o222 L L) L)) (N o5 (N o247 (N (o233 P) L L) L) (N o291 L L))
noncomputable def q141:BT:=N (boot_o_5 P) (q140 P) (N o210 (N o315 (N (o276 P) (N o156 L L) L) (N o168 L L)) (N o5 (N o353 (N o199 L L) L) (N (o281 P) L L)))
noncomputable def q142:BT:=N (boot_o_8 P) (N o10 (N o129 (N o217 L L) L) (N o137 (N o269 L L) L)) (N (o334 P) (N o171 (N o137 L L) L) (N o328 L L))
noncomputable def q143:BT:=N (boot_o_4 P) (q142 P) (N o125 (N o209 (N o137 (N o331 L L) L) (N o135 L L)) (N o165 (N o20 (N o318 L L) L) (N o137 L L)))
noncomputable def q144:BT:=N (boot_o_10 P) (N o5 (N o56 (N o5 L L) L) (N o5 (N o242 L L) L)) (N o10 (N o5 (N o5 L L) L) (N o84 L L))
noncomputable def q145:BT:=N (boot_o_6 P) (q144 P) (N o96 (N o106 (N o5 (N o288 L L) L) (N o5 L L)) (N (o38 P) (N o280 (N o5 L L) L) (N o5 L L)))
noncomputable def t130 (P:Params):BT:=(N (boot_o_0 P) (N (boot_o_1 P) (q139 P) (q141 P)) (N (boot_o_2 P) (q143 P) (q145 P)))
noncomputable def q146:BT:=N o5 (N o127 (N o10 (N o10 (N o243 L L) L) (N o180 L L)) (N o5 (N o153 L L) (N o10 L L))) (N o76 (N (o143 P) (N o5 L L) (N o311 L L)) (N o341 (N o5 L L) (N o5 L L)))
noncomputable def q147:BT:=N o137 (N o10 (N o76 (N o255 (N o220 L L) L) (N o279 L L)) (N o5 (N o2 L L) (N o0 L L))) (N (o317 P) (N o10 (N o102 L L) (N o5 L L)) (N o5 (N o10 L L) (N o282 L L)))
noncomputable def q148:BT:=N o359 (N o76 (N (o258 P) (N o88 (N o244 L L) L) (N o10 L L)) (N o245 (N o40 L L) (N o79 L L))) (N o10 (N o76 (N o5 L L) (N o5 L L)) (N o10 (N o128 L L) (N o5 L L)))
noncomputable def q149:BT:=N o187 (N (o340 P) (N o10 (N o219 (N o172 L L) L) (N o170 L L)) (N o5 (N o5 L L) (N o29 L L))) (N o76 (N (o357 P) (N o10 L L) (N o90 L L)) (N o298 (N o5 L L) (N o10 L L)))
noncomputable def q150:BT:=N o333 (N o300 (N o53 (N o5 (N o5 L L) L) (N o197 L L)) (N o59 (N o5 L L) (N o5 L L))) (N (o251 P) (N o222 (N o1 L L) (N o10 L L)) (N o346 (N o151 L L) (N o65 L L)))
noncomputable def q151:BT:=N o5 (N o247 (N (o233 P) (N o114 (N (o324 P) L L) L) (N o5 L L)) (N o319 (N o10 L L) (N o325 L L))) (N o291 (N o132 (N o42 L L) (N o320 L L)) (N o123 (N o54 L L) (N o121 L L)))
noncomputable def q152:BT:=N o315 (N (o276 P) (N o156 (N o5 (N o263 L L) L) (N o5 L L)) (N o10 (N o122 L L) (N o5 L L))) (N o168 (N (o239 P) (N o7 L L) (N o107 L L)) (N o189 (N o224 L L) (N o183 L L)))
noncomputable def q153:BT:=N o5 (N o353 (N o199 (N o137 (N o166 L L) L) (N o225 L L)) (N o356 (N o161 L L) (N o10 L L))) (N (o281 P) (N o206 (N o5 L L) (N o3 L L)) (N o275 (N o83 L L) (N o5 L L)))
noncomputable def q154:BT:=N (boot_o_1 P) (N (o256 P) (N (boot_o_7 P) (q146 P) (q147 P)) (N o5 (q148 P) (q149 P))) (N (boot_o_5 P) (N (boot_o_9 P) (q150 P) (q151 P)) (N o210 (q152 P) (q153 P)))
noncomputable def q155:BT:=N o10 (N o129 (N o217 (N o130 (N o299 L L) L) (N o52 L L)) (N o10 (N o77 L L) (N o174 L L))) (N o137 (N o269 (N o358 L L) (N o5 L L)) (N o15 (N o10 L L) (N o115 L L)))
noncomputable def q156:BT:=N (o334 P) (N o171 (N o137 (N o5 (N o55 L L) L) (N o188 L L)) (N o223 (N o5 L L) (N o5 L L))) (N o328 (N o272 (N o94 L L) (N o10 L L)) (N o10 (N o46 L L) (N o85 L L)))
noncomputable def q157:BT:=N o209 (N o137 (N o331 (N o51 (N o5 L L) L) (N o48 L L)) (N o5 (N o5 L L) (N o173 L L))) (N o135 (N o137 (N o10 L L) (N o157 L L)) (N o264 (N o34 L L) (N o10 L L)))
noncomputable def q158:BT:=N o165 (N o20 (N o318 (N o5 (N o154 L L) L) (N o5 L L)) (N o10 (N o294 L L) (N o5 L L))) (N o137 (N o295 (N o28 L L) (N o104 L L)) (N o162 (N o10 L L) (N o58 L L)))
noncomputable def q159:BT:=N o5 (N o56 (N o5 (N o274 (N o10 L L) L) (N o5 L L)) (N o200 (N o10 L L) (N o286 L L))) (N o5 (N o242 (N o314 L L) (N o164 L L)) (N o5 (N o5 L L) (N o78 L L)))
noncomputable def q160:BT:=N o10 (N o5 (N o5 (N o227 (N o329 L L) L) (N o10 L L)) (N o347 (N o249 L L) (N o95 L L))) (N o84 (N o5 (N o5 L L) (N o5 L L)) (N o5 (N o47 L L) (N o5 L L)))
noncomputable def q161:BT:=N o106 (N o5 (N o288 (N o10 (N o105 L L) L) (N o36 L L)) (N o138 (N o178 L L) (N o10 L L))) (N o5 (N o5 (N o5 L L) (N o50 L L)) (N o212 (N o5 L L) (N o5 L L)))
noncomputable def q162:BT:=N (o38 P) (N o280 (N o5 (N (o204 P) (N o113 L L) L) (N o184 L L)) (N o5 (N o277 L L) (N o250 L L))) (N o5 (N o289 (N o12 L L) (N o5 L L)) (N o5 (N o5 L L) (N o238 L L)))
noncomputable def q163:BT:=N (boot_o_2 P) (N (boot_o_4 P) (N (boot_o_8 P) q155 (q156 P)) (N o99 q157 q158)) (N (boot_o_6 P) (N (boot_o_10 P) q159 q160) (N o96 q161 (q162 P)))
noncomputable def t325 (P:Params):BT:=(N (boot_o_0 P) (q154 P) (q163 P))
noncomputable def q164:BT:=N o127 (N o10 (N o10 (N o243 L L) L) (N o180 (N o193 L L) L)) (N o5 (N o153 (N o266 L L) L) (N o10 (N o25 L L) L))
noncomputable def q165:BT:=N o76 (N (o143 P) (N o5 (N o5 L L) L) (N o311 (N o5 L L) L)) (N o341 (N o5 (N o10 L L) L) (N o5 (N o257 L L) L))
noncomputable def q166:BT:=N o10 (N o76 (N o255 (N o220 L L) L) (N o279 (N o45 L L) L)) (N o5 (N o2 (N o5 L L) L) (N o0 (N o194 L L) L))
noncomputable def q167:BT:=N (o317 P) (N o10 (N o102 (N o10 L L) L) (N o5 (N o10 L L) L)) (N o5 (N o10 (N o62 L L) L) (N o282 L L))
noncomputable def q168:BT:=N o76 (N (o258 P) (N o88 (N o244 L L) L) (N o10 (N o179 L L) L)) (N o245 (N o40 (N o10 L L) L) (N o79 (N o10 L L) L))
noncomputable def q169:BT:=N o10 (N o76 (N o5 (N o234 L L) L) (N o5 (N o13 L L) L)) (N o10 (N o128 (N o5 L L) L) (N o5 (N o5 L L) L))
noncomputable def q170:BT:=N (o340 P) (N o10 (N o219 (N o172 L L) L) (N o170 (N o5 L L) L)) (N o5 (N o5 (N o39 L L) L) (N o29 (N o17 L L) L))
noncomputable def q171:BT:=N o76 (N (o357 P) (N o10 (N o5 L L) L) (N o90 (N o5 L L) L)) (N o298 (N o5 (N o10 L L) L) (N o10 L L))
noncomputable def q172:BT:=N (o67 P) (N (boot_o_7 P) (N o5 q164 (q165 P)) (N o137 q166 (q167 P))) (N o5 (N o359 (q168 P) q169) (N o187 (q170 P) (q171 P)))
noncomputable def q173:BT:=N o300 (N o53 (N o5 (N o5 L L) L) (N o197 (N o5 L L) L)) (N o59 (N o5 (N o169 L L) L) (N o5 (N o98 L L) L))
noncomputable def q174:BT:=N (o251 P) (N o222 (N o1 (N o246 L L) L) (N o10 (N o72 L L) L)) (N o346 (N o151 (N o177 L L) L) (N o65 (N o10 L L) L))
noncomputable def q175:BT:=N o247 (N (o233 P) (N o114 (N (o324 P) L L) L) (N o5 (N o10 L L) L)) (N o319 (N o10 (N (o348 P) L L) L) (N o325 (N o5 L L) L))
noncomputable def q176:BT:=N o291 (N o132 (N o42 (N o231 L L) L) (N o320 (N o24 L L) L)) (N o123 (N o54 (N o61 L L) L) (N o121 L L))
noncomputable def q177:BT:=N (o276 P) (N o156 (N o5 (N o263 L L) L) (N o5 (N o175 L L) L)) (N o10 (N o122 (N o241 L L) L) (N o5 (N o5 L L) L))
noncomputable def q178:BT:=N o168 (N (o239 P) (N o7 (N o139 L L) L) (N o107 (N o141 L L) L)) (N o189 (N o224 (N o111 L L) L) (N o183 (N o27 L L) L))
noncomputable def q179:BT:=N o353 (N o199 (N o137 (N o166 L L) L) (N o225 (N o9 L L) L)) (N o356 (N o161 (N o22 L L) L) (N o10 (N o91 L L) L))
noncomputable def q180:BT:=N (o281 P) (N o206 (N o5 (N o202 L L) L) (N o3 (N o252 L L) L)) (N o275 (N o83 (N o5 L L) L) (N o5 L L))
noncomputable def q181:BT:=N (boot_o_5 P) (N (boot_o_9 P) (N o333 q173 (q174 P)) (N o5 (q175 P) q176)) (N o210 (N o315 (q177 P) (q178 P)) (N o5 q179 (q180 P)))
noncomputable def q182:BT:=N o129 (N o217 (N o130 (N o299 L L) L) (N o52 (N o108 L L) L)) (N o10 (N o77 (N o273 L L) L) (N o174 (N o142 L L) L))
noncomputable def q183:BT:=N o137 (N o269 (N o358 (N o10 L L) L) (N o5 (N o10 L L) L)) (N o15 (N o10 (N o21 L L) L) (N o115 (N o5 L L) L))
noncomputable def q184:BT:=N o171 (N o137 (N o5 (N o55 L L) L) (N o188 (N o5 L L) L)) (N o223 (N o5 (N o137 L L) L) (N o5 (N o101 L L) L))
noncomputable def q185:BT:=N o328 (N o272 (N o94 (N o306 L L) L) (N o10 (N o147 L L) L)) (N o10 (N o46 (N o237 L L) L) (N o85 L L))
noncomputable def q186:BT:=N o137 (N o331 (N o51 (N o5 L L) L) (N o48 (N o5 L L) L)) (N o5 (N o5 (N o349 L L) L) (N o173 (N o30 L L) L))
noncomputable def q187:BT:=N o135 (N o137 (N o10 (N o321 L L) L) (N o157 (N o44 L L) L)) (N o264 (N o34 (N o10 L L) L) (N o10 (N o146 L L) L))
noncomputable def q188:BT:=N o20 (N o318 (N o5 (N o154 L L) L) (N o5 (N o93 L L) L)) (N o10 (N o294 (N o214 L L) L) (N o5 (N o5 L L) L))
noncomputable def q189:BT:=N o137 (N o295 (N o28 (N o10 L L) L) (N o104 (N o10 L L) L)) (N o162 (N o10 (N o140 L L) L) (N o58 L L))
noncomputable def q190:BT:=N (boot_o_4 P) (N (boot_o_8 P) (N o10 q182 q183) (N (o334 P) q184 q185)) (N o71 (N o209 q186 q187) (N o165 q188 q189))
noncomputable def q191:BT:=N o56 (N o5 (N o274 (N o10 L L) L) (N o5 (N o10 L L) L)) (N o200 (N o10 (N o5 L L) L) (N o286 (N o5 L L) L))
noncomputable def q192:BT:=N o5 (N o242 (N o314 (N o5 L L) L) (N o164 (N o5 L L) L)) (N o5 (N o5 (N o226 L L) L) (N o78 (N o185 L L) L))
noncomputable def q193:BT:=N o5 (N o5 (N o227 (N o329 L L) L) (N o10 (N o133 L L) L)) (N o347 (N o249 (N o5 L L) L) (N o95 (N o10 L L) L))
noncomputable def q194:BT:=N o84 (N o5 (N o5 (N o355 L L) L) (N o5 (N o268 L L) L)) (N o5 (N o47 (N o5 L L) L) (N o5 L L))
noncomputable def q195:BT:=N o5 (N o288 (N o10 (N o105 L L) L) (N o36 (N o35 L L) L)) (N o138 (N o178 (N o352 L L) L) (N o10 (N o97 L L) L))
noncomputable def q196:BT:=N o5 (N o5 (N o5 (N o5 L L) L) (N o50 (N o5 L L) L)) (N o212 (N o5 (N o5 L L) L) (N o5 (N o271 L L) L))
noncomputable def q197:BT:=N o280 (N o5 (N (o204 P) (N o113 L L) L) (N o184 (N o186 L L) L)) (N o5 (N o277 (N o5 L L) L) (N o250 (N o229 L L) L))
noncomputable def q198:BT:=N o5 (N o289 (N o12 (N o5 L L) L) (N o5 (N o5 L L) L)) (N o5 (N o5 (N o26 L L) L) (N o238 L L))
noncomputable def q199:BT:=N (boot_o_6 P) (N (boot_o_10 P) (N o5 q191 q192) (N o10 q193 q194)) (N o96 (N o106 q195 q196) (N (o38 P) (q197 P) q198))
noncomputable def t662 (P:Params):BT:=(N (boot_o_0 P) (N (boot_o_1 P) (q172 P) (q181 P)) (N (boot_o_2 P) (q190 P) (q199 P)))
noncomputable def q200:BT:=N o5 (N o127 (N o10 (N o10 (N o243 L L) L) (N o180 L L)) (N o5 (N o153 (N o266 L L) L) (N o10 L L))) (N o76 (N (o143 P) (N o5 (N o5 L L) L) (N o311 L L)) (N o341 (N o5 L L) (N o5 L L)))
noncomputable def q201:BT:=N o137 (N o10 (N o76 (N o255 (N o220 L L) L) (N o279 L L)) (N o5 (N o2 L L) (N o0 L L))) (N (o317 P) (N o10 (N o102 (N o10 L L) L) (N o5 L L)) (N o5 (N o10 L L) (N o282 L L)))
noncomputable def q202:BT:=N o359 (N o76 (N (o258 P) (N o88 (N o244 L L) L) (N o10 L L)) (N o245 (N o40 (N o10 L L) L) (N o79 L L))) (N o10 (N o76 (N o5 (N o234 L L) L) (N o5 L L)) (N o10 (N o128 L L) (N o5 L L)))
noncomputable def q203:BT:=N o187 (N (o340 P) (N o10 (N o219 (N o172 L L) L) (N o170 L L)) (N o5 (N o5 L L) (N o29 L L))) (N o76 (N (o357 P) (N o10 (N o5 L L) L) (N o90 L L)) (N o298 (N o5 L L) (N o10 L L)))
noncomputable def q204:BT:=N o333 (N o300 (N o53 (N o5 (N o5 L L) L) (N o197 L L)) (N o59 (N o5 (N o169 L L) L) (N o5 L L))) (N (o251 P) (N o222 (N o1 (N o246 L L) L) (N o10 L L)) (N o346 (N o151 L L) (N o65 L L)))
noncomputable def q205:BT:=N o5 (N o247 (N (o233 P) (N o114 (N (o324 P) L L) L) (N o5 L L)) (N o319 (N o10 L L) (N o325 L L))) (N o291 (N o132 (N o42 (N o231 L L) L) (N o320 L L)) (N o123 (N o54 L L) (N o121 L L)))
noncomputable def q206:BT:=N o315 (N (o276 P) (N o156 (N o5 (N o263 L L) L) (N o5 L L)) (N o10 (N o122 (N o241 L L) L) (N o5 L L))) (N o168 (N (o239 P) (N o7 (N o139 L L) L) (N o107 L L)) (N o189 (N o224 L L) (N o183 L L)))
noncomputable def q207:BT:=N o5 (N o353 (N o199 (N o137 (N o166 L L) L) (N o225 L L)) (N o356 (N o161 L L) (N o10 L L))) (N (o281 P) (N o206 (N o5 (N o202 L L) L) (N o3 L L)) (N o275 (N o83 L L) (N o5 L L)))
noncomputable def q208:BT:=N (boot_o_1 P) (N (o67 P) (N (boot_o_7 P) (q200 P) (q201 P)) (N o5 (q202 P) (q203 P))) (N (boot_o_5 P) (N (boot_o_9 P) (q204 P) (q205 P)) (N o210 (q206 P) (q207 P)))
noncomputable def q209:BT:=N o10 (N o129 (N o217 (N o130 (N o299 L L) L) (N o52 L L)) (N o10 (N o77 (N o273 L L) L) (N o174 L L))) (N o137 (N o269 (N o358 (N o10 L L) L) (N o5 L L)) (N o15 (N o10 L L) (N o115 L L)))
noncomputable def q210:BT:=N (o334 P) (N o171 (N o137 (N o5 (N o55 L L) L) (N o188 L L)) (N o223 (N o5 L L) (N o5 L L))) (N o328 (N o272 (N o94 (N o306 L L) L) (N o10 L L)) (N o10 (N o46 L L) (N o85 L L)))
noncomputable def q211:BT:=N o209 (N o137 (N o331 (N o51 (N o5 L L) L) (N o48 L L)) (N o5 (N o5 (N o349 L L) L) (N o173 L L))) (N o135 (N o137 (N o10 (N o321 L L) L) (N o157 L L)) (N o264 (N o34 L L) (N o10 L L)))
noncomputable def q212:BT:=N o165 (N o20 (N o318 (N o5 (N o154 L L) L) (N o5 L L)) (N o10 (N o294 L L) (N o5 L L))) (N o137 (N o295 (N o28 (N o10 L L) L) (N o104 L L)) (N o162 (N o10 L L) (N o58 L L)))
noncomputable def q213:BT:=N o5 (N o56 (N o5 (N o274 (N o10 L L) L) (N o5 L L)) (N o200 (N o10 (N o5 L L) L) (N o286 L L))) (N o5 (N o242 (N o314 (N o5 L L) L) (N o164 L L)) (N o5 (N o5 L L) (N o78 L L)))
noncomputable def q214:BT:=N o10 (N o5 (N o5 (N o227 (N o329 L L) L) (N o10 L L)) (N o347 (N o249 L L) (N o95 L L))) (N o84 (N o5 (N o5 (N o355 L L) L) (N o5 L L)) (N o5 (N o47 L L) (N o5 L L)))
noncomputable def q215:BT:=N o106 (N o5 (N o288 (N o10 (N o105 L L) L) (N o36 L L)) (N o138 (N o178 (N o352 L L) L) (N o10 L L))) (N o5 (N o5 (N o5 (N o5 L L) L) (N o50 L L)) (N o212 (N o5 L L) (N o5 L L)))
noncomputable def q216:BT:=N (o38 P) (N o280 (N o5 (N (o204 P) (N o113 L L) L) (N o184 L L)) (N o5 (N o277 L L) (N o250 L L))) (N o5 (N o289 (N o12 (N o5 L L) L) (N o5 L L)) (N o5 (N o5 L L) (N o238 L L)))
noncomputable def q217:BT:=N (boot_o_2 P) (N (boot_o_4 P) (N (boot_o_8 P) q209 (q210 P)) (N o232 q211 q212)) (N (boot_o_6 P) (N (boot_o_10 P) q213 q214) (N o96 q215 (q216 P)))
noncomputable def t440 (P:Params):BT:=(N (boot_o_0 P) (q208 P) (q217 P))
noncomputable def q218:BT:=N (boot_o_1 P) (N (o160 P) (N (boot_o_7 P) (N o5 (N o327 L L) L) (N o137 L L)) (N o5 (N o359 L L) (N o187 L L))) (N (boot_o_5 P) (N (boot_o_9 P) (N o333 (N o300 L L) L) (N o5 L L)) (N o210 (N o315 L L) (N o5 L L)))
noncomputable def q219:BT:=N (boot_o_2 P) (N (boot_o_4 P) (N (boot_o_8 P) (N o10 (N o129 L L) L) (N (o334 P) L L)) (N o18 (N o209 L L) (N o165 L L))) (N (boot_o_6 P) (N (boot_o_10 P) (N o5 (N o56 L L) L) (N o10 L L)) (N o96 (N o106 L L) (N (o38 P) L L)))
noncomputable def t70 (P:Params):BT:=(N (boot_o_0 P) (q218 P) (q219 P))
noncomputable def q220:BT:=N o5 (N o127 (N o10 (N o10 L L) (N o180 L L)) (N o5 (N o153 L L) (N o10 L L))) (N o76 (N (o143 P) (N o5 L L) (N o311 L L)) (N o341 (N o5 L L) L))
noncomputable def q221:BT:=N o137 (N o10 (N o76 (N o255 L L) (N o279 L L)) (N o5 (N o2 L L) L)) (N (o317 P) (N o10 (N o102 L L) (N o5 L L)) (N o5 (N o10 L L) L))
noncomputable def q222:BT:=N o359 (N o76 (N (o258 P) (N o88 L L) (N o10 L L)) (N o245 (N o40 L L) L)) (N o10 (N o76 (N o5 L L) (N o5 L L)) (N o10 (N o128 L L) L))
noncomputable def q223:BT:=N o187 (N (o340 P) (N o10 (N o219 L L) (N o170 L L)) (N o5 (N o5 L L) L)) (N o76 (N (o357 P) (N o10 L L) (N o90 L L)) (N o298 (N o5 L L) L))
noncomputable def q224:BT:=N o333 (N o300 (N o53 (N o5 L L) (N o197 L L)) (N o59 (N o5 L L) L)) (N (o251 P) (N o222 (N o1 L L) (N o10 L L)) (N o346 (N o151 L L) L))
noncomputable def q225:BT:=N o5 (N o247 (N (o233 P) (N o114 L L) (N o5 L L)) (N o319 (N o10 L L) L)) (N o291 (N o132 (N o42 L L) (N o320 L L)) (N o123 (N o54 L L) L))
noncomputable def q226:BT:=N o315 (N (o276 P) (N o156 (N o5 L L) (N o5 L L)) (N o10 (N o122 L L) L)) (N o168 (N (o239 P) (N o7 L L) (N o107 L L)) (N o189 (N o224 L L) L))
noncomputable def q227:BT:=N o5 (N o353 (N o199 (N o137 L L) (N o225 L L)) (N o356 (N o161 L L) L)) (N (o281 P) (N o206 (N o5 L L) (N o3 L L)) (N o275 (N o83 L L) L))
noncomputable def q228:BT:=N (boot_o_1 P) (N (o283 P) (N (boot_o_7 P) (q220 P) (q221 P)) (N o5 (q222 P) (q223 P))) (N (boot_o_5 P) (N (boot_o_9 P) (q224 P) (q225 P)) (N o210 (q226 P) (q227 P)))
noncomputable def q229:BT:=N o10 (N o129 (N o217 (N o130 L L) (N o52 L L)) (N o10 (N o77 L L) (N o174 L L))) (N o137 (N o269 (N o89 L L) (N o5 L L)) (N o15 (N o10 L L) L))
noncomputable def q230:BT:=N (o334 P) (N o171 (N o137 (N o5 L L) (N o188 L L)) (N o223 (N o5 L L) L)) (N o328 (N o272 (N o94 L L) (N o10 L L)) (N o10 (N o46 L L) L))
noncomputable def q231:BT:=N o209 (N o137 (N o331 (N o51 L L) (N o48 L L)) (N o5 (N o5 L L) L)) (N o135 (N o137 (N o10 L L) (N o157 L L)) (N o264 (N o34 L L) L))
noncomputable def q232:BT:=N o165 (N o20 (N o318 (N o5 L L) (N o5 L L)) (N o10 (N o294 L L) L)) (N o137 (N o295 (N o28 L L) (N o104 L L)) (N o162 (N o10 L L) L))
noncomputable def q233:BT:=N o5 (N o56 (N o5 (N o274 L L) (N o5 L L)) (N o200 (N o10 L L) L)) (N o5 (N o242 (N o314 L L) (N o164 L L)) (N o5 (N o5 L L) L))
noncomputable def q234:BT:=N o10 (N o5 (N o5 (N o227 L L) (N o10 L L)) (N o347 (N o249 L L) L)) (N o84 (N o5 (N o5 L L) (N o5 L L)) (N o5 (N o47 L L) L))
noncomputable def q235:BT:=N o106 (N o5 (N o288 (N o10 L L) (N o36 L L)) (N o138 (N o178 L L) L)) (N o5 (N o5 (N o5 L L) (N o50 L L)) (N o212 (N o5 L L) L))
noncomputable def q236:BT:=N (o38 P) (N o280 (N o5 (N (o309 P) L L) (N o184 L L)) (N o5 (N o277 L L) L)) (N o5 (N o289 (N o12 L L) (N o5 L L)) (N o5 (N o5 L L) L))
noncomputable def q237:BT:=N (boot_o_2 P) (N (boot_o_4 P) (N (boot_o_8 P) q229 (q230 P)) (N o99 q231 q232)) (N (boot_o_6 P) (N (boot_o_10 P) q233 q234) (N o96 q235 (q236 P)))
noncomputable def t411 (P:Params):BT:=(N (boot_o_0 P) (q228 P) (q237 P))
noncomputable def q238:BT:=N (boot_o_0 P) (N (boot_o_1 P) (N (boot_o_3 P) (N (boot_o_7 P) L L) (N o5 L L)) (N (boot_o_5 P) (N (boot_o_9 P) L L) (N o210 L L))) (N (boot_o_2 P) (N (boot_o_4 P) (N (boot_o_8 P) L L) (N o10 L L)) (N (boot_o_6 P) (N (boot_o_10 P) L L) (N o96 L L)))
noncomputable def t47 (P:Params):BT:=(q238 P)
noncomputable def vw:Program:=PySem.W.view PySem.Challenge.pw_treeright_k26_whole_seats_side_by_side [0,2,3,4,5,6,7,9,10,11,12,13,14,15,17,18,19,21,22,23,24,25,27,28,29,30,31,32,33,34,35,36,37,38,39,40,41,42,43,44,45,46]
noncomputable def s49:List Stmt:=(PySem.Challenge.pw_treeright_k26_whole_seats_side_by_side.main.body.drop 0).take 3
noncomputable def s71:List Stmt:=(PySem.Challenge.pw_treeright_k26_whole_seats_side_by_side.main.body.drop 3).take 1
noncomputable def s86:List Stmt:=(PySem.Challenge.pw_treeright_k26_whole_seats_side_by_side.main.body.drop 4).take 1
noncomputable def s101:List Stmt:=(PySem.Challenge.pw_treeright_k26_whole_seats_side_by_side.main.body.drop 5).take 1
noncomputable def s116:List Stmt:=(PySem.Challenge.pw_treeright_k26_whole_seats_side_by_side.main.body.drop 6).take 1
noncomputable def s131:List Stmt:=(PySem.Challenge.pw_treeright_k26_whole_seats_side_by_side.main.body.drop 7).take 10
noncomputable def s177:List Stmt:=(PySem.Challenge.pw_treeright_k26_whole_seats_side_by_side.main.body.drop 17).take 2
noncomputable def s193:List Stmt:=(PySem.Challenge.pw_treeright_k26_whole_seats_side_by_side.main.body.drop 19).take 1
noncomputable def s415:List Stmt:=(PySem.Challenge.pw_treeright_k26_whole_seats_side_by_side.main.body.drop 20).take 5
noncomputable def s441:List Stmt:=(PySem.Challenge.pw_treeright_k26_whole_seats_side_by_side.main.body.drop 25).take 1
noncomputable def s666:List Stmt:=(PySem.Challenge.pw_treeright_k26_whole_seats_side_by_side.main.body.drop 26).take 14
noncomputable def s753:List Stmt:=(PySem.Challenge.pw_treeright_k26_whole_seats_side_by_side.main.body.drop 40).take 7
end HD
end
noncomputable def PySem.W.Fast.tw14598715356260435866:Unit:=()
noncomputable def PySem.W.Fast.tw12831946366807014121:Unit:=()
noncomputable def PySem.W.Fast.tw2505294214074580061:Unit:=()
noncomputable def PySem.W.Fast.tw1184825839854068080:Unit:=()
noncomputable def PySem.W.Fast.tw16963627058361203756:Unit:=()
noncomputable def PySem.W.Fast.tw4063309880790847132:Unit:=()
noncomputable def PySem.W.Fast.tw16335552587211677449:Unit:=()
noncomputable def PySem.W.Fast.tw1921148480499289173:Unit:=()
noncomputable def PySem.W.Fast.tw8219606844568596651:Unit:=()
noncomputable def PySem.W.Fast.tw1564543192828473526:Unit:=()
noncomputable def PySem.W.Fast.tw9434032782923581289:Unit:=()
noncomputable def PySem.W.Fast.tw3094701115853657799:Unit:=()
lay_quick PySem.Challenge.pw_treeright_k26_whole_seats_side_by_side
lay_quick HD.t85
lay_quick HD.t192
lay_quick HD.e794
lay_quick HD.t100
lay_quick HD.t115
lay_quick HD.e46
lay_quick HD.t176
lay_quick HD.t752
lay_quick HD.t581
lay_quick HD.t793
lay_quick HD.t130
lay_quick HD.t325
lay_quick HD.t662
lay_quick HD.t440
lay_quick HD.t70
lay_quick HD.t411
lay_quick HD.t47
noncomputable def PySem.W.Fast.tw2294854397974045510:PySem.Params->PySem.W.BT:=PySem.W.Fast.tw2036878166784380086
theorem PySem.W.Fast.te2294854397974045510:HD.t85=PySem.W.Fast.tw2294854397974045510:=PySem.W.Fast.te2036878166784380086
noncomputable def PySem.W.Fast.tw6140484524562760489:PySem.Params->PySem.W.BT:=PySem.W.Fast.tw7211603232809807215
theorem PySem.W.Fast.te6140484524562760489:HD.t192=PySem.W.Fast.tw6140484524562760489:=PySem.W.Fast.te7211603232809807215
noncomputable def PySem.W.Fast.tw12046464887231679821:PySem.Params->PySem.Heap:=PySem.W.Fast.tw1198591456381188817
theorem PySem.W.Fast.te12046464887231679821:HD.e794=PySem.W.Fast.tw12046464887231679821:=PySem.W.Fast.te1198591456381188817
noncomputable def PySem.W.Fast.tw17546005709695080877:PySem.Params->PySem.W.BT:=PySem.W.Fast.tw11108817263175320385
theorem PySem.W.Fast.te17546005709695080877:HD.t100=PySem.W.Fast.tw17546005709695080877:=PySem.W.Fast.te11108817263175320385
noncomputable def PySem.W.Fast.tw15632388027458123374:PySem.Params->PySem.W.BT:=PySem.W.Fast.tw13006058816851964647
theorem PySem.W.Fast.te15632388027458123374:HD.t115=PySem.W.Fast.tw15632388027458123374:=PySem.W.Fast.te13006058816851964647
noncomputable def PySem.W.Fast.tw2257529940240947247:PySem.Params->PySem.Heap:=PySem.W.Fast.tw12643942650068612825
theorem PySem.W.Fast.te2257529940240947247:HD.e46=PySem.W.Fast.tw2257529940240947247:=PySem.W.Fast.te12643942650068612825
noncomputable def PySem.W.Fast.tw6158393449932997776:PySem.Params->PySem.W.BT:=PySem.W.Fast.tw14843291937102528503
theorem PySem.W.Fast.te6158393449932997776:HD.t176=PySem.W.Fast.tw6158393449932997776:=PySem.W.Fast.te14843291937102528503
noncomputable def PySem.W.Fast.tw5746217002198019408:PySem.Params->PySem.W.BT:=PySem.W.Fast.tw12386183113426789900
theorem PySem.W.Fast.te5746217002198019408:HD.t752=PySem.W.Fast.tw5746217002198019408:=PySem.W.Fast.te12386183113426789900
noncomputable def PySem.W.Fast.tw9876927546715113685:PySem.Params->PySem.W.BT:=PySem.W.Fast.tw15972243646443434042
theorem PySem.W.Fast.te9876927546715113685:HD.t581=PySem.W.Fast.tw9876927546715113685:=PySem.W.Fast.te15972243646443434042
noncomputable def PySem.W.Fast.tw15773193831976420150:PySem.Params->PySem.W.BT:=PySem.W.Fast.tw3004467274000170601
theorem PySem.W.Fast.te15773193831976420150:HD.t793=PySem.W.Fast.tw15773193831976420150:=PySem.W.Fast.te3004467274000170601
noncomputable def PySem.W.Fast.tw1292346606274980823:PySem.Params->PySem.W.BT:=PySem.W.Fast.tw7778535457881203485
theorem PySem.W.Fast.te1292346606274980823:HD.t130=PySem.W.Fast.tw1292346606274980823:=PySem.W.Fast.te7778535457881203485
noncomputable def PySem.W.Fast.tw10235683861645269560:PySem.Params->PySem.W.BT:=PySem.W.Fast.tw1593671910893269908
theorem PySem.W.Fast.te10235683861645269560:HD.t325=PySem.W.Fast.tw10235683861645269560:=PySem.W.Fast.te1593671910893269908
noncomputable def PySem.W.Fast.tw12078630607825759000:PySem.Params->PySem.W.BT:=PySem.W.Fast.tw16491974478149445394
theorem PySem.W.Fast.te12078630607825759000:HD.t662=PySem.W.Fast.tw12078630607825759000:=PySem.W.Fast.te16491974478149445394
noncomputable def PySem.W.Fast.tw10032584988220244729:PySem.Params->PySem.W.BT:=PySem.W.Fast.tw1784066655393700321
theorem PySem.W.Fast.te10032584988220244729:HD.t440=PySem.W.Fast.tw10032584988220244729:=PySem.W.Fast.te1784066655393700321
noncomputable def PySem.W.Fast.tw877418901244307835:PySem.Params->PySem.W.BT:=PySem.W.Fast.tw4601978763475442059
theorem PySem.W.Fast.te877418901244307835:HD.t70=PySem.W.Fast.tw877418901244307835:=PySem.W.Fast.te4601978763475442059
noncomputable def PySem.W.Fast.tw6844873832779938523:PySem.Params->PySem.W.BT:=PySem.W.Fast.tw2767549746680024091
theorem PySem.W.Fast.te6844873832779938523:HD.t411=PySem.W.Fast.tw6844873832779938523:=PySem.W.Fast.te2767549746680024091
noncomputable def PySem.W.Fast.tw804092199982636349:PySem.Params->PySem.W.BT:=PySem.W.Fast.tw12288697002581643564
theorem PySem.W.Fast.te804092199982636349:HD.t47=PySem.W.Fast.tw804092199982636349:=PySem.W.Fast.te12288697002581643564
noncomputable def PySem.W.Fast.tw1647960591809683682:PySem.Program:=PySem.W.view PySem.W.Fast.tw1250647701992616561 [0,2,3,4,5,6,7,9,10,11,12,13,14,15,17,18,19,21,22,23,24,25,27,28,29,30,31,32,33,34,35,36,37,38,39,40,41,42,43,44,45,46]
theorem PySem.W.Fast.te1647960591809683682:HD.vw=PySem.W.Fast.tw1647960591809683682:=congrArg (fun p:PySem.Program=>PySem.W.view p [0,2,3,4,5,6,7,9,10,11,12,13,14,15,17,18,19,21,22,23,24,25,27,28,29,30,31,32,33,34,35,36,37,38,39,40,41,42,43,44,45,46]) PySem.W.Fast.te1250647701992616561
noncomputable def PySem.W.Fast.tw16970792351503237766:List PySem.Stmt:=(PySem.W.Fast.tw1250647701992616561.main.body.drop 0).take 3
theorem PySem.W.Fast.te16970792351503237766:HD.s49=PySem.W.Fast.tw16970792351503237766:=congrArg (fun p:PySem.Program=>(p.main.body.drop 0).take 3) PySem.W.Fast.te1250647701992616561
noncomputable def PySem.W.Fast.tw7766378276201275438:List PySem.Stmt:=(PySem.W.Fast.tw1250647701992616561.main.body.drop 3).take 1
theorem PySem.W.Fast.te7766378276201275438:HD.s71=PySem.W.Fast.tw7766378276201275438:=congrArg (fun p:PySem.Program=>(p.main.body.drop 3).take 1) PySem.W.Fast.te1250647701992616561
noncomputable def PySem.W.Fast.tw9305391788130653963:List PySem.Stmt:=(PySem.W.Fast.tw1250647701992616561.main.body.drop 4).take 1
theorem PySem.W.Fast.te9305391788130653963:HD.s86=PySem.W.Fast.tw9305391788130653963:=congrArg (fun p:PySem.Program=>(p.main.body.drop 4).take 1) PySem.W.Fast.te1250647701992616561
noncomputable def PySem.W.Fast.tw12673549619886724666:List PySem.Stmt:=(PySem.W.Fast.tw1250647701992616561.main.body.drop 5).take 1
theorem PySem.W.Fast.te12673549619886724666:HD.s101=PySem.W.Fast.tw12673549619886724666:=congrArg (fun p:PySem.Program=>(p.main.body.drop 5).take 1) PySem.W.Fast.te1250647701992616561
noncomputable def PySem.W.Fast.tw14763428746477059428:List PySem.Stmt:=(PySem.W.Fast.tw1250647701992616561.main.body.drop 6).take 1
theorem PySem.W.Fast.te14763428746477059428:HD.s116=PySem.W.Fast.tw14763428746477059428:=congrArg (fun p:PySem.Program=>(p.main.body.drop 6).take 1) PySem.W.Fast.te1250647701992616561
noncomputable def PySem.W.Fast.tw8079883169468671255:List PySem.Stmt:=(PySem.W.Fast.tw1250647701992616561.main.body.drop 7).take 10
theorem PySem.W.Fast.te8079883169468671255:HD.s131=PySem.W.Fast.tw8079883169468671255:=congrArg (fun p:PySem.Program=>(p.main.body.drop 7).take 10) PySem.W.Fast.te1250647701992616561
noncomputable def PySem.W.Fast.tw16324385692754382440:List PySem.Stmt:=(PySem.W.Fast.tw1250647701992616561.main.body.drop 17).take 2
theorem PySem.W.Fast.te16324385692754382440:HD.s177=PySem.W.Fast.tw16324385692754382440:=congrArg (fun p:PySem.Program=>(p.main.body.drop 17).take 2) PySem.W.Fast.te1250647701992616561
noncomputable def PySem.W.Fast.tw14336418159074274461:List PySem.Stmt:=(PySem.W.Fast.tw1250647701992616561.main.body.drop 19).take 1
theorem PySem.W.Fast.te14336418159074274461:HD.s193=PySem.W.Fast.tw14336418159074274461:=congrArg (fun p:PySem.Program=>(p.main.body.drop 19).take 1) PySem.W.Fast.te1250647701992616561
noncomputable def PySem.W.Fast.tw15603180158190640421:List PySem.Stmt:=(PySem.W.Fast.tw1250647701992616561.main.body.drop 20).take 5
theorem PySem.W.Fast.te15603180158190640421:HD.s415=PySem.W.Fast.tw15603180158190640421:=congrArg (fun p:PySem.Program=>(p.main.body.drop 20).take 5) PySem.W.Fast.te1250647701992616561
noncomputable def PySem.W.Fast.tw820454973774160373:List PySem.Stmt:=(PySem.W.Fast.tw1250647701992616561.main.body.drop 25).take 1
theorem PySem.W.Fast.te820454973774160373:HD.s441=PySem.W.Fast.tw820454973774160373:=congrArg (fun p:PySem.Program=>(p.main.body.drop 25).take 1) PySem.W.Fast.te1250647701992616561
noncomputable def PySem.W.Fast.tw13195872156826447142:List PySem.Stmt:=(PySem.W.Fast.tw1250647701992616561.main.body.drop 26).take 14
theorem PySem.W.Fast.te13195872156826447142:HD.s666=PySem.W.Fast.tw13195872156826447142:=congrArg (fun p:PySem.Program=>(p.main.body.drop 26).take 14) PySem.W.Fast.te1250647701992616561
noncomputable def PySem.W.Fast.tw15576827953442246130:List PySem.Stmt:=(PySem.W.Fast.tw1250647701992616561.main.body.drop 40).take 7
theorem PySem.W.Fast.te15576827953442246130:HD.s753=PySem.W.Fast.tw15576827953442246130:=congrArg (fun p:PySem.Program=>(p.main.body.drop 40).take 7) PySem.W.Fast.te1250647701992616561
open_top head for PySem.Challenge.rw_treeright_k26_whole_seats_side_by_side
end
namespace K26
open PySem L2
def FnK (K:PySem.W.Frag) (n q:Str) (st:Stmt) (f:Addr):Prop:=∃ (od an:Option Addr) (sl:Array (Option Value)) (oc kV dc pm cd ct:Value),K.lookup f=some ⟨oc,od,.func (PySem.W.fnOf n q (wF st) (xT st) (zG st) .none kV dc pm an cd ct),sl⟩/\PySem.W.codeIn K cd q=true/\PySem.W.keepIn K (.ref f)=true
def FgK (K:PySem.W.Frag) (n:Str) (st:Stmt):Prop:=∃ f,PySem.W.nsIn K mainGlobals n=some (some (.ref f))/\FnK K n n st f
def MtK (K:PySem.W.Frag) (C:Addr) (n q:Str) (st:Stmt):Prop:=∃ f,PySem.W.findIn K (.ref C) n=some (some (.ref f))/\PySem.W.isFn K (.ref f)=true/\FnK K n q st f
theorem yP {K:PySem.W.Frag} {h:Heap} {mg:Str->Option Value} {n:Str} {st:Stmt} {ps:List Str} (X:K.In h) (G:h.Ns mainGlobals mg) (l:FgK K n st)
  (hb:∀ (kV doc pm:Value) (an:Option Addr) (cdv ct:Value) (us:List Value),us.length=ps.length->bindArgs (PySem.W.fnOf n n (wF st) (xT st) (zG st) .none kV doc pm an cdv ct) ⟨us,[]⟩=pure (ps.zip us)):y0 K mg n st ps:=by
 obtain ⟨f,a,od,an,sl,oc,kV,dc,pm,cd,ct,l,c,k⟩:=l
 exact zAT X G a l c k hb
theorem yV {K:PySem.W.Frag} {C:Addr} {n q:Str} {st:Stmt} {ps:List Str} (l:MtK K C n q st)
  (hb:∀ (kV doc pm:Value) (an:Option Addr) (cdv ct:Value) (us:List Value),us.length=ps.length->bindArgs (PySem.W.fnOf n q (wF st) (xT st) (zG st) .none kV doc pm an cdv ct) ⟨us,[]⟩=pure (ps.zip us)):y2 K C n q st ps:=by
 obtain ⟨f,a,i,od,an,sl,oc,kV,dc,pm,cd,ct,l,c,k⟩:=l
 exact zAH a i l c k hb
structure ClK (K:PySem.W.Frag) (n:Str) (C:Addr):Prop where
 a:PySem.W.nsIn K mainGlobals n=some (some (.ref C))
 pg:PySem.W.plainGet K C Str.empty=true
 hd:PySem.W.hasDictIn K C=true
 po:PySem.W.plainOver K C=true
 sa:PySem.W.findIn K (.ref C) "__setattr__"=some (some (.builtin "object.__setattr__"))
 ms:PySem.W.makesIn K C=true
 kc:PySem.W.keepIn K (.ref C)=true
theorem all_mk {l:PySem.W.OpenLaw} {w:World} {K:PySem.W.Frag} {h:Heap} {mg:Str->Option Value} {fa:Addr} (X:K.In h) (G:h.Ns mainGlobals mg) (hfa:mg "law"=some (.ref fa))
  {fL:Addr} {CS:Addr} {C:Addr} {t_LETTERS:Tok} {t_LONGEST_NAME:Tok}
  (l0:FgK K "is_name" mE)
  (l1:FgK K "is_whole" sWh)
  (l2:FgK K "is_one_of" oP)
  (l3:FgK K "are_names" mF)
  (l4:FgK K "are_unlike" b9)
  (l5:FgK K "are_neighbours" sNb)
  (l6:FgK K "are_arrows" fZ)
  (l7:FgK K "check_right" sCk)
  (l8:FgK K "check_asker" j4)
  (l9:FgK K "check_house" j3)
  (l10:FgK K "numbered" sNu)
  (l11:FgK K "_law_cell_at" j5)
  (l12:FgK K "_law_mixed" oR)
  (l13:FgK K "_law_digits" rX)
  (l14:FgK K "_law_next" jS)
  (l15:FgK K "_law_names" sR)
  (l16:FgK K "_law_alike" qG)
  (l17:FgK K "_law_made" sMd)
  (l18:FgK K "_law_state" oN)
  (l19:FgK K "_law_moved" oQ)
  (l20:FgK K "_law_made_at" jU)
  (l21:FgK K "_law_chosen" sCh)
  (l22:FgK K "_law_seat_of" sSO)
  (l23:FgK K "_law_numbered" sLN)
  (l24:FgK K "_law_good_deeds" sGd)
  (l25:FgK K "_law_done" sDn)
  (l26:FgK K "_law_put" sPu)
  (l27:FgK K "_law_at_seat" sAS)
  (l28:FgK K "_law_side_by_side" sSB)
  (aL:PySem.W.nsIn K mainGlobals "law"=some (some (.ref fL))) (lL:FnK K "law" "law" pH fL)
  (k_CS:ClK K "Seat" CS)
  (mCS0:MtK K CS "__init__" "Seat.__init__" jV)
  (mCS1:MtK K CS "arrow" "Seat.arrow" oT)
  (mCS2:MtK K CS "row" "Seat.row" aA)
  (mCS3:MtK K CS "inside" "Seat.inside" rW)
  (mCS4:MtK K CS "has_asked" "Seat.has_asked" aB)
  (mCS5:MtK K CS "askers" "Seat.askers" sSA)
  (mCS6:MtK K CS "crowd" "Seat.crowd" sCr)
  (mCS7:MtK K CS "want" "Seat.want" jR)
  (mCS8:MtK K CS "leave" "Seat.leave" oS)
  (mCS9:MtK K CS "done" "Seat.done" jY)
  (mCS10:MtK K CS "ask" "Seat.ask" aG)
  (mCS11:MtK K CS "come" "Seat.come" jZ)
  (mCS12:MtK K CS "move_on" "Seat.move_on" jT)
  (mCS13:MtK K CS "serve_first" "Seat.serve_first" oO)
  (n_CS_pointer:PySem.W.findIn K (.ref CS) "pointer"=some none)
  (n_CS_waiting:PySem.W.findIn K (.ref CS) "waiting"=some none)
  (n_CS_holder:PySem.W.findIn K (.ref CS) "holder"=some none)
  (n_CS_asked:PySem.W.findIn K (.ref CS) "asked"=some none)
  (k_C:ClK K "House" C)
  (mC0:MtK K C "__init__" "House.__init__" sHI)
  (mC1:MtK K C "arrow" "House.arrow" aF)
  (mC2:MtK K C "row" "House.row" aC)
  (mC3:MtK K C "inside" "House.inside" aD)
  (mC4:MtK K C "has_asked" "House.has_asked" aE)
  (mC5:MtK K C "askers" "House.askers" fX)
  (mC6:MtK K C "rights_wanted" "House.rights_wanted" sRW)
  (mC7:MtK K C "right_of" "House.right_of" sRO)
  (mC8:MtK K C "best_right" "House.best_right" sBR)
  (mC9:MtK K C "check_letter" "House.check_letter" sCL)
  (mC10:MtK K C "want" "House.want" sHW)
  (mC11:MtK K C "leave" "House.leave" sHL)
  (mC12:MtK K C "done" "House.done" sHD)
  (mC13:MtK K C "ask" "House.ask" sHK)
  (mC14:MtK K C "come" "House.come" sHC)
  (n_C_name:PySem.W.findIn K (.ref C) "name"=some none)
  (n_C_nearby:PySem.W.findIn K (.ref C) "nearby"=some none)
  (n_C_seats:PySem.W.findIn K (.ref C) "seats"=some none)
  (z_isinstance:PySem.W.nsIn K mainGlobals "isinstance"=some none)
  (z_str:PySem.W.nsIn K mainGlobals "str"=some none)
  (z_int:PySem.W.nsIn K mainGlobals "int"=some none)
  (z_bool:PySem.W.nsIn K mainGlobals "bool"=some none)
  (z_len:PySem.W.nsIn K mainGlobals "len"=some none)
  (z_all:PySem.W.nsIn K mainGlobals "all"=some none)
  (z_range:PySem.W.nsIn K mainGlobals "range"=some none)
  (z_list:PySem.W.nsIn K mainGlobals "list"=some none)
  (z_tuple:PySem.W.nsIn K mainGlobals "tuple"=some none)
  (z_set:PySem.W.nsIn K mainGlobals "set"=some none)
  (z_sorted:PySem.W.nsIn K mainGlobals "sorted"=some none)
  (z_enumerate:PySem.W.nsIn K mainGlobals "enumerate"=some none)
  (z_min:PySem.W.nsIn K mainGlobals "min"=some none)
  (g_LETTERS:PySem.W.nsIn K mainGlobals "LETTERS"=some (some (.str "abcdefghijklmnopqrstuvwxyz" t_LETTERS)))
  (g_LONGEST_NAME:PySem.W.nsIn K mainGlobals "LONGEST_NAME"=some (some (.int 8 t_LONGEST_NAME))) :
  ∃ fd:FuncData,(∀ (s:Shared) (v:Value),BindsTo s fd ⟨[v],[]⟩ [("_law_script",v)])/\∀ base:Heap,K.In base->base.Ns mainGlobals mg->uY l.prog w K mg base CX0 7 fa fd ["_law_script"] (jO K):=by
 have e:=hfa.symm.trans (PySem.W.mg_of X G aL)
 cases e
 obtain ⟨od,an,sl,oc,kV,dc,pm,cd,ct,lL,cL,kL⟩:=lL
 have GI:y0 K mg "is_name" mE ["thing"]:=yP X G l0 (fun _ _ _ _ _ _ us hl=>match us,hl with | [_],_=>rfl)
 have GWh:y0 K mg "is_whole" sWh ["thing"]:=yP X G l1 (fun _ _ _ _ _ _ us hl=>match us,hl with | [_],_=>rfl)
 have GOO:y0 K mg "is_one_of" oP ["thing","houses"]:=yP X G l2 (fun _ _ _ _ _ _ us hl=>match us,hl with | [_,_],_=>rfl)
 have GAN:y0 K mg "are_names" mF ["thing"]:=yP X G l3 (fun _ _ _ _ _ _ us hl=>match us,hl with | [_],_=>rfl)
 have GAU:y0 K mg "are_unlike" b9 ["names"]:=yP X G l4 (fun _ _ _ _ _ _ us hl=>match us,hl with | [_],_=>rfl)
 have GNb:y0 K mg "are_neighbours" sNb ["thing","name"]:=yP X G l5 (fun _ _ _ _ _ _ us hl=>match us,hl with | [_,_],_=>rfl)
 have GAr:y0 K mg "are_arrows" fZ ["thing","neighbours"]:=yP X G l6 (fun _ _ _ _ _ _ us hl=>match us,hl with | [_,_],_=>rfl)
 have GCk:y0 K mg "check_right" sCk ["right","many"]:=yP X G l7 (fun _ _ _ _ _ _ us hl=>match us,hl with | [_,_],_=>rfl)
 have GCA:y0 K mg "check_asker" j4 ["asker"]:=yP X G l8 (fun _ _ _ _ _ _ us hl=>match us,hl with | [_],_=>rfl)
 have GCH:y0 K mg "check_house" j3 ["house"]:=yP X G l9 (fun _ _ _ _ _ _ us hl=>match us,hl with | [_],_=>rfl)
 have GNu:y0 K mg "numbered" sNu ["right","told"]:=yP X G l10 (fun _ _ _ _ _ _ us hl=>match us,hl with | [_,_],_=>rfl)
 have GC:y0 K mg "_law_cell_at" j5 ["_law_script","_law_k"]:=yP X G l11 (fun _ _ _ _ _ _ us hl=>match us,hl with | [_,_],_=>rfl)
 have GM:y0 K mg "_law_mixed" oR ["_law_cell","_law_k"]:=yP X G l12 (fun _ _ _ _ _ _ us hl=>match us,hl with | [_,_],_=>rfl)
 have GD:y0 K mg "_law_digits" rX ["_law_cell"]:=yP X G l13 (fun _ _ _ _ _ _ us hl=>match us,hl with | [_],_=>rfl)
 have GN:y0 K mg "_law_next" jS ["_law_source","_law_many"]:=yP X G l14 (fun _ _ _ _ _ _ us hl=>match us,hl with | [_,_],_=>rfl)
 have GNa:y0 K mg "_law_names" sR ["_law_source","_law_many"]:=yP X G l15 (fun _ _ _ _ _ _ us hl=>match us,hl with | [_,_],_=>rfl)
 have GAl:y0 K mg "_law_alike" qG ["_law_found","_law_due"]:=yP X G l16 (fun _ _ _ _ _ _ us hl=>match us,hl with | [_,_],_=>rfl)
 have GMd:y0 K mg "_law_made" sMd ["_law_cell"]:=yP X G l17 (fun _ _ _ _ _ _ us hl=>match us,hl with | [_],_=>rfl)
 have GSt:y0 K mg "_law_state" oN ["_law_arrow"]:=yP X G l18 (fun _ _ _ _ _ _ us hl=>match us,hl with | [_],_=>rfl)
 have GMo:y0 K mg "_law_moved" oQ ["_law_state_here"]:=yP X G l19 (fun _ _ _ _ _ _ us hl=>match us,hl with | [_],_=>rfl)
 have GMa:y0 K mg "_law_made_at" jU ["_law_state_here","_law_deed"]:=yP X G l20 (fun _ _ _ _ _ _ us hl=>match us,hl with | [_,_],_=>rfl)
 have GCh:y0 K mg "_law_chosen" sCh ["_law_states"]:=yP X G l21 (fun _ _ _ _ _ _ us hl=>match us,hl with | [_],_=>rfl)
 have GSO:y0 K mg "_law_seat_of" sSO ["_law_states","_law_asker"]:=yP X G l22 (fun _ _ _ _ _ _ us hl=>match us,hl with | [_,_],_=>rfl)
 have GLN:y0 K mg "_law_numbered" sLN ["_law_told_here","_law_right"]:=yP X G l23 (fun _ _ _ _ _ _ us hl=>match us,hl with | [_,_],_=>rfl)
 have GGd:y0 K mg "_law_good_deeds" sGd ["_law_states","_law_askers","_law_neighbours"]:=yP X G l24 (fun _ _ _ _ _ _ us hl=>match us,hl with | [_,_,_],_=>rfl)
 have GDn:y0 K mg "_law_done" sDn ["_law_states","_law_deed"]:=yP X G l25 (fun _ _ _ _ _ _ us hl=>match us,hl with | [_,_],_=>rfl)
 have GPu:y0 K mg "_law_put" sPu ["_law_house","_law_deed"]:=yP X G l26 (fun _ _ _ _ _ _ us hl=>match us,hl with | [_,_],_=>rfl)
 have GAS:y0 K mg "_law_at_seat" sAS ["_law_seats","_law_house","_law_deed"]:=yP X G l27 (fun _ _ _ _ _ _ us hl=>match us,hl with | [_,_,_],_=>rfl)
 have GSB:y0 K mg "_law_side_by_side" sSB ["_law_house","_law_seats"]:=yP X G l28 (fun _ _ _ _ _ _ us hl=>match us,hl with | [_,_],_=>rfl)
 have FL:=tV (st:=pH) lL cL kL
 have cl_CS:Cls K CS:=⟨k_CS.pg,k_CS.hd,k_CS.po,k_CS.sa⟩
 obtain ⟨fiCS,aiCS,iiCS,_,_,_,_,_,_,_,_,_,liCS,ciCS,kiCS⟩:=mCS0
 have mIF:=tV (st:=jV) liCS ciCS kiCS
 have mIB:=mIF.binds (ps:=["self","arrow"]) (fun _ _ _ _ _ _ us hl=>match us,hl with | [_,_],_=>rfl)
 have mIM:Mk K CS fiCS:=⟨k_CS.ms,aiCS,iiCS,k_CS.kc⟩
 have mA:y2 K CS "arrow" "Seat.arrow" oT ["self"]:=yV mCS1 (fun _ _ _ _ _ _ us hl=>match us,hl with | [_],_=>rfl)
 have mR:y2 K CS "row" "Seat.row" aA ["self"]:=yV mCS2 (fun _ _ _ _ _ _ us hl=>match us,hl with | [_],_=>rfl)
 have mIn:y2 K CS "inside" "Seat.inside" rW ["self"]:=yV mCS3 (fun _ _ _ _ _ _ us hl=>match us,hl with | [_],_=>rfl)
 have mH:y2 K CS "has_asked" "Seat.has_asked" aB ["self"]:=yV mCS4 (fun _ _ _ _ _ _ us hl=>match us,hl with | [_],_=>rfl)
 have mSA:y2 K CS "askers" "Seat.askers" sSA ["self"]:=yV mCS5 (fun _ _ _ _ _ _ us hl=>match us,hl with | [_],_=>rfl)
 have mCr:y2 K CS "crowd" "Seat.crowd" sCr ["self"]:=yV mCS6 (fun _ _ _ _ _ _ us hl=>match us,hl with | [_],_=>rfl)
 have mW:y2 K CS "want" "Seat.want" jR ["self","asker"]:=yV mCS7 (fun _ _ _ _ _ _ us hl=>match us,hl with | [_,_],_=>rfl)
 have mL:y2 K CS "leave" "Seat.leave" oS ["self","asker"]:=yV mCS8 (fun _ _ _ _ _ _ us hl=>match us,hl with | [_,_],_=>rfl)
 have mD:y2 K CS "done" "Seat.done" jY ["self","asker"]:=yV mCS9 (fun _ _ _ _ _ _ us hl=>match us,hl with | [_,_],_=>rfl)
 have mK:y2 K CS "ask" "Seat.ask" aG ["self","house"]:=yV mCS10 (fun _ _ _ _ _ _ us hl=>match us,hl with | [_,_],_=>rfl)
 have mC:y2 K CS "come" "Seat.come" jZ ["self","house","back"]:=yV mCS11 (fun _ _ _ _ _ _ us hl=>match us,hl with | [_,_,_],_=>rfl)
 have mM:y2 K CS "move_on" "Seat.move_on" jT ["self"]:=yV mCS12 (fun _ _ _ _ _ _ us hl=>match us,hl with | [_],_=>rfl)
 have mS:y2 K CS "serve_first" "Seat.serve_first" oO ["self"]:=yV mCS13 (fun _ _ _ _ _ _ us hl=>match us,hl with | [_],_=>rfl)
 have mg_CS:=PySem.W.mg_of X G k_CS.a
 have cl_C:Cls K C:=⟨k_C.pg,k_C.hd,k_C.po,k_C.sa⟩
 obtain ⟨fiC,aiC,iiC,_,_,_,_,_,_,_,_,_,liC,ciC,kiC⟩:=mC0
 have hIF:=tV (st:=sHI) liC ciC kiC
 have hIB:=hIF.binds (ps:=["self","name","neighbours","arrows"]) (fun _ _ _ _ _ _ us hl=>match us,hl with | [_,_,_,_],_=>rfl)
 have hIM:Mk K C fiC:=⟨k_C.ms,aiC,iiC,k_C.kc⟩
 have hA:y2 K C "arrow" "House.arrow" aF ["self","right"]:=yV mC1 (fun _ _ _ _ _ _ us hl=>match us,hl with | [_,_],_=>rfl)
 have hR:y2 K C "row" "House.row" aC ["self","right"]:=yV mC2 (fun _ _ _ _ _ _ us hl=>match us,hl with | [_,_],_=>rfl)
 have hIn:y2 K C "inside" "House.inside" aD ["self","right"]:=yV mC3 (fun _ _ _ _ _ _ us hl=>match us,hl with | [_,_],_=>rfl)
 have hH:y2 K C "has_asked" "House.has_asked" aE ["self","right"]:=yV mC4 (fun _ _ _ _ _ _ us hl=>match us,hl with | [_,_],_=>rfl)
 have hAs:y2 K C "askers" "House.askers" fX ["self"]:=yV mC5 (fun _ _ _ _ _ _ us hl=>match us,hl with | [_],_=>rfl)
 have hRW:y2 K C "rights_wanted" "House.rights_wanted" sRW ["self"]:=yV mC6 (fun _ _ _ _ _ _ us hl=>match us,hl with | [_],_=>rfl)
 have hRO:y2 K C "right_of" "House.right_of" sRO ["self","asker"]:=yV mC7 (fun _ _ _ _ _ _ us hl=>match us,hl with | [_,_],_=>rfl)
 have hBR:y2 K C "best_right" "House.best_right" sBR ["self"]:=yV mC8 (fun _ _ _ _ _ _ us hl=>match us,hl with | [_],_=>rfl)
 have hCL:y2 K C "check_letter" "House.check_letter" sCL ["self","house","right"]:=yV mC9 (fun _ _ _ _ _ _ us hl=>match us,hl with | [_,_,_],_=>rfl)
 have hW:y2 K C "want" "House.want" sHW ["self","asker","right"]:=yV mC10 (fun _ _ _ _ _ _ us hl=>match us,hl with | [_,_,_],_=>rfl)
 have hL:y2 K C "leave" "House.leave" sHL ["self","asker"]:=yV mC11 (fun _ _ _ _ _ _ us hl=>match us,hl with | [_,_],_=>rfl)
 have hD:y2 K C "done" "House.done" sHD ["self","asker"]:=yV mC12 (fun _ _ _ _ _ _ us hl=>match us,hl with | [_,_],_=>rfl)
 have hK:y2 K C "ask" "House.ask" sHK ["self","house","right"]:=yV mC13 (fun _ _ _ _ _ _ us hl=>match us,hl with | [_,_,_],_=>rfl)
 have hC:y2 K C "come" "House.come" sHC ["self","house","right","back"]:=yV mC14 (fun _ _ _ _ _ _ us hl=>match us,hl with | [_,_,_,_],_=>rfl)
 have mg_C:=PySem.W.mg_of X G k_C.a
 have b_isinstance:Blt mg "isinstance":=⟨PySem.W.mg_none_of X G z_isinstance⟩
 have b_str:Blt mg "str":=⟨PySem.W.mg_none_of X G z_str⟩
 have b_int:Blt mg "int":=⟨PySem.W.mg_none_of X G z_int⟩
 have b_bool:Blt mg "bool":=⟨PySem.W.mg_none_of X G z_bool⟩
 have b_len:Blt mg "len":=⟨PySem.W.mg_none_of X G z_len⟩
 have b_all:Blt mg "all":=⟨PySem.W.mg_none_of X G z_all⟩
 have b_range:Blt mg "range":=⟨PySem.W.mg_none_of X G z_range⟩
 have b_list:Blt mg "list":=⟨PySem.W.mg_none_of X G z_list⟩
 have b_tuple:Blt mg "tuple":=⟨PySem.W.mg_none_of X G z_tuple⟩
 have b_set:Blt mg "set":=⟨PySem.W.mg_none_of X G z_set⟩
 have b_sorted:Blt mg "sorted":=⟨PySem.W.mg_none_of X G z_sorted⟩
 have b_enumerate:Blt mg "enumerate":=⟨PySem.W.mg_none_of X G z_enumerate⟩
 have b_min:Blt mg "min":=⟨PySem.W.mg_none_of X G z_min⟩
 have gl_LETTERS:Glo mg "LETTERS" (.str abc):=⟨_,PySem.W.mg_of X G g_LETTERS,⟨_,rfl⟩⟩
 have gl_LONGEST_NAME:Glo mg "LONGEST_NAME" (.int 8):=⟨_,PySem.W.mg_of X G g_LONGEST_NAME,⟨_,rfl⟩⟩
 refine ⟨PySem.W.fnOf "law" "law" (wF pH) (xT pH) (zG pH) .none kV dc pm an cd ct,fun s v=>.of_eq rfl,fun base _ _=>?_⟩
 have TS:xY K CS:=⟨cl_CS,n_CS_pointer,n_CS_waiting,n_CS_holder,n_CS_asked⟩
 have T:x3 K C:=⟨cl_C,n_C_name,n_C_nearby,n_C_seats⟩
 have CI:=zC8 (P:=l.prog) (w:=w) (base:=base) GI b_isinstance b_str b_len b_all gl_LETTERS gl_LONGEST_NAME
 have CWh:=okWh (P:=l.prog) (w:=w) (base:=base) GWh b_isinstance b_int b_bool
 have CO2:=zC6 GOO CI
 have CAN:=zDH GAN CI b_isinstance b_list b_all
 have CAU:=zFG (P:=l.prog) (w:=w) (base:=base) GAU b_len b_set
 have CNb:=okNb GNb CAN CAU
 have CAr:=zFQ GAr CO2 b_isinstance b_list b_len b_all
 have CCk:=okCk GCk CWh
 have CCA:=zDF GCA CI
 have CCH:=zDE GCH CI
 have CNu:=okNu (P:=l.prog) (w:=w) (base:=base) GNu
 have MS:=aZ (P:=l.prog) (w:=w) (mg:=mg) (base:=base) TS mS b_len
 have MM:=zC9 TS mM MS
 have MA:=zAE (P:=l.prog) (w:=w) (mg:=mg) (base:=base) TS mA
 have MR:=zFH (P:=l.prog) (w:=w) (mg:=mg) (base:=base) TS mR b_list
 have MIn:=dB (P:=l.prog) (w:=w) (mg:=mg) (base:=base) TS mIn
 have MHs:=zFJ (P:=l.prog) (w:=w) (mg:=mg) (base:=base) TS mH
 have MSA:=okSA (P:=l.prog) (w:=w) (mg:=mg) (base:=base) TS mSA
 have MCr:=okCr (P:=l.prog) (w:=w) (mg:=mg) (base:=base) TS mCr b_len
 have MW:=zC5 TS mW CCA MM
 have ML:=zAD TS mL CCA MM
 have MD:=zDC TS mD CCA MM
 have MK:=zFP TS mK CCH MM
 have MC:=zDD TS mC CCH MM b_isinstance b_bool
 have MKS:p8 l.prog w K mg base CX0 2 CS "Seat" ["self","arrow"] (oH CS):=⟨_,_,zDB TS mIF CI,mIM,mg_CS,mIB⟩
 have MH:p8 l.prog w K mg base CX0 4 C "House" ["self","name","neighbours","arrows"] (zCA K C CS):=⟨_,_,okHI T hIF CI CNb CAr MKS b_list,hIM,mg_C,hIB⟩
 have HA:=zFO T TS hA CCk MA b_len
 have HR:=zFK T TS hR CCk MR b_len
 have HI:=zFL T TS hIn CCk MIn b_len
 have HH:=zFM T TS hH CCk MHs b_len
 have HAs:=zFN T TS hAs MSA b_sorted b_enumerate
 have HRW:=okRW T hRW HAs
 have HRO:=okRO T hRO CCA HRW
 have HBR:=okBR T TS hBR MCr MA b_min b_enumerate
 have HCL:=okCL (CS:=CS) T hCL CO2 CCk b_len
 have HW:=okHW T TS hW CCA CCk HRW HBR MW CNu b_len
 have HL:=okHL T TS hL HRO ML CNu
 have HD:=okHD T TS hD HRO MD CNu
 have HK:=okHK T TS hK HCL MK CNu
 have HC:=okHC T TS hC HCL MC CNu
 have CM:=zAC (P:=l.prog) (w:=w) (base:=base) GM
 have CD:=dC (P:=l.prog) (w:=w) (base:=base) GD
 have CN:=zC7 GN CM
 have CC:=zDG (P:=l.prog) (w:=w) (base:=base) GC b_len
 have CNa:=zAA GNa CN b_range
 have CA:=iA (P:=l.prog) (w:=w) (base:=base) GAl b_isinstance b_list b_tuple b_bool b_len b_all b_range 5
 have CMd:=okMd GMd CD CN CNa b_len b_range
 have CSt:=aY (P:=l.prog) (w:=w) (base:=base) GSt
 have CMo:=zAB (P:=l.prog) (w:=w) (base:=base) GMo
 have CMa:=zDA GMa CMo
 have CCh:=okCh (P:=l.prog) (w:=w) (base:=base) GCh b_len b_range b_int
 have CSO:=okSO (P:=l.prog) (w:=w) (base:=base) GSO b_len b_range
 have CLN:=okLN (P:=l.prog) (w:=w) (base:=base) GLN
 have CGd:=okGd GGd CSO b_len b_range b_list
 have CDn:=okDn GDn CSO CCh CMa CLN
 have CPu:=okPu T GPu HW HL HD HK HC
 have CAS:=okAS T TS GAS HAs MW ML MD MK MC MR MIn b_len b_range
 have CSB:=okSB T TS GSB HAs HA HR HI HH MA MR MIn MHs CA b_len b_range b_sorted
 exact zFI T FL CC CD CN CMd MH MKS CSt CGd CDn CPu CAS CSB CLN CA b_len b_list
theorem walk {l:PySem.W.OpenLaw} {q:Program} {loose:List Str} {XP:(Str->Option Value)->Heap->Prop} {YP:World->Heap->Prop} {d:DefRec} {K:Params->PySem.W.Frag} (hn:l.most=some 63) (hdf:d.params.defaults=[])
  (hY:∀ (w:World) (h:Heap),YP w h->(K w.params).In h)
  (F:∀ (w:World) (mg:Str->Option Value) (fa:Addr) (h:Heap),(K w.params).In h->h.Ns mainGlobals mg->mg d.name=some (.ref fa) ->
   ∃ fd:FuncData,(∀ (s:Shared) (u:Value),BindsTo s fd ⟨[u],[]⟩ [("_law_script",u)])/\∀ base:Heap,(K w.params).In base->base.Ns mainGlobals mg->uY l.prog w (K w.params) mg base CX0 7 fa fd ["_law_script"] (jO (K w.params))) :
  PySem.W.WalkO q loose XP YP l.row.toRowW d [] (fun f vs=>PySem.call f vs):=
 L2.walk_of (n:=63) (k:=7) (x:="_law_script") (CX:=fun _=>CX0) (sp:=fun w=>jO (K w.params)) hn (by decide) hdf ⟨rfl,by decide,by decide⟩ hY F (fun _ _ a ns hl _ hS=>⟨a,ns,rfl,hS,hl,fun _=>rfl⟩) fun _ _ _ _ _ z=>z
end K26
open PySem PySem.W PyProof.Rows
set_option maxRecDepth 100000 in
set_option maxHeartbeats 0 in
theorem PySem.Challenge.cw_treeright_k26_whole_seats_side_by_side_holds : PySem.Challenge.rw_treeright_k26_whole_seats_side_by_side.Holds := by
 refine head ?_
 k_fill
 refine K26.walk (l:=PySem.Challenge.rw_treeright_k26_whole_seats_side_by_side) rfl rfl (fun w h Y=>PySem.W.kIn_of Y) ?F
 case F=>
  intro w mg fa h KX G hmg
  refine' K26.all_mk KX G hmg ?l0 ?l1 ?l2 ?l3 ?l4 ?l5 ?l6 ?l7 ?l8 ?l9 ?l10 ?l11 ?l12 ?l13 ?l14 ?l15 ?l16 ?l17 ?l18 ?l19 ?l20 ?l21 ?l22 ?l23 ?l24 ?l25 ?l26 ?l27 ?l28 ?aL ?lL ?k_CS ?mCS0 ?mCS1 ?mCS2 ?mCS3 ?mCS4 ?mCS5 ?mCS6 ?mCS7 ?mCS8 ?mCS9 ?mCS10 ?mCS11 ?mCS12 ?mCS13 ?n_CS_pointer ?n_CS_waiting ?n_CS_holder ?n_CS_asked ?k_C ?mC0 ?mC1 ?mC2 ?mC3 ?mC4 ?mC5 ?mC6 ?mC7 ?mC8 ?mC9 ?mC10 ?mC11 ?mC12 ?mC13 ?mC14 ?n_C_name ?n_C_nearby ?n_C_seats ?z_isinstance ?z_str ?z_int ?z_bool ?z_len ?z_all ?z_range ?z_list ?z_tuple ?z_set ?z_sorted ?z_enumerate ?z_min ?g_LETTERS ?g_LONGEST_NAME
  (case aL=>k_is)
  (case lL=>exact ⟨_,_,_,_,_,_,_,_,_,by k_is,by k_is,by k_is⟩)
  (case l0 | l1 | l2 | l3 | l4 | l5 | l6 | l7 | l8 | l9 | l10 | l11 | l12 | l13 | l14 | l15 | l16 | l17 | l18 | l19 | l20 | l21 | l22 | l23 | l24 | l25 | l26 | l27 | l28=>exact ⟨_,by k_is,_,_,_,_,_,_,_,_,_,by k_is,by k_is,by k_is⟩)
  (case k_CS | k_C=>exact ⟨by k_is,by k_is,by k_is,by k_is,by k_is,by k_is,by k_is⟩)
  (case mCS0 | mCS1 | mCS2 | mCS3 | mCS4 | mCS5 | mCS6 | mCS7 | mCS8 | mCS9 | mCS10 | mCS11 | mCS12 | mCS13 | mC0 | mC1 | mC2 | mC3 | mC4 | mC5 | mC6 | mC7 | mC8 | mC9 | mC10 | mC11 | mC12 | mC13 | mC14=>exact ⟨_,by k_is,by k_is,_,_,_,_,_,_,_,_,_,by k_is,by k_is,by k_is⟩)
  (case n_CS_pointer | n_CS_waiting | n_CS_holder | n_CS_asked | n_C_name | n_C_nearby | n_C_seats | z_isinstance | z_str | z_int | z_bool | z_len | z_all | z_range | z_list | z_tuple | z_set | z_sorted | z_enumerate | z_min | g_LETTERS | g_LONGEST_NAME=>k_is)
