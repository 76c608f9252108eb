import PyProof.Rows.All
import Wide.All
import OpenK.AllK
import Wide.FinOn
import Lean
import PyProof.EqAt
import PyProof.EqKinds
import PyProof.TupleCall
import PySem.Challenge.RW_treeright_k16_whole_one_right_among_seat
noncomputable section
def zCO:=@List.length_map
def zCP:=@List.getElem?_eq_getElem
def zCQ:=@List.getElem?_eq_some_iff
def zCR:=@List.mem_singleton
def zCS:=@List.mem_of_getElem?
def zCT:=@List.getD_eq_getElem?_getD
def zCU:=@List.getElem?_map
def zCV:=@Option.some.inj
def zCW:=@List.size_toArray
def zCX:=@Nat.le_refl
def zCY:=@Nat.zero_le
def zCZ:=@Nat.le_trans
def zC0:=@List.map_append
def zC1:=@List.mem_cons_of_mem
def zC2:=@List.mem_append_right
def zC3:=@decide_eq_true
def zC4:=@decide_eq_false
def zC5:=@List.mem_append
def zC6:=@List.length_append
def zC7:=@List.length_take
def zC8:=@List.map_map
def zC9:=@List.length_cons
def zDA:=@Nat.lt_of_lt_of_le
def zDB:=@List.getElem?_append_right
def zDC:=@List.getElem?_append_left
def zDD:=@List.take_of_length_le
def zDE:=@List.length_pos_iff
def zDF:=@Nat.ne_of_lt
def zDG:=@Bool.false_ne_true
def zDH:=@List.mem_cons_self
def zDI:=@List.not_mem_nil
def zDJ:=@List.append_assoc
def zDM:=@List.length_filter_le
def zDN:=@Array.getD_eq_getD_getElem?
def zDO:=@List.take_length
set_option Elab.async false
set_option linter.all false
set_option maxRecDepth 100000
namespace L2
open PySem PySem.Spec PyProof.Rows
abbrev VSP:=Value->Shared->Prop
abbrev LAO:=List (Addr × Obj)
abbrev LSS:=List (Str × Str)
abbrev Key:=Sum Int Str
def uK:Key->Value->Bool
 | .inl k,v=>Value.isInt k v
 | .inr x,v=>Value.isStrOf x v
def keyH (w:World):Key->Int
 | .inl k=>hashInt k
 | .inr x=>hashStr w x
theorem yU:∀ {k:Key} {v:Value},uK k v=true->(∃ i t,k=Sum.inl i/\v=Value.int i t) \/ (∃ x t,k=Sum.inr x/\v=Value.str x t)
 | .inl i,v,h=>by
  obtain ⟨t,e⟩:=Value.isInt_shape (k:=i) (v:=v) h
  exact .inl ⟨i,t,rfl,e⟩
 | .inr x,v,h=>by
  obtain ⟨t,e⟩:=Value.isStrOf_shape (x:=x) (v:=v) h
  exact .inr ⟨x,t,rfl,e⟩
theorem jQ (i:Int) (t:Tok):uK (.inl i) (.int i t)=true:=by simp [uK,Value.isInt]
theorem jP (x:Str) (t:Tok):uK (.inr x) (.str x t)=true:=by simp [uK,Value.isStrOf]
theorem zAO (a b:Int):decide ((Sum.inl a:Key)=Sum.inl b)=(a == b):=by
 by_cases e:a=b
 ·subst e;simp
 ·have h:¬ (Sum.inl a:Key)=Sum.inl b:=fun q=>e (Sum.inl.inj q)
  rw [zC4 h]
  exact (beq_eq_false_iff_ne.mpr e).symm
theorem zAL (a b:Str):decide ((Sum.inr a:Key)=Sum.inr b)=decide (a=b):=by
 by_cases e:a=b
 ·subst e;simp
 ·have h:¬ (Sum.inr a:Key)=Sum.inr b:=fun q=>e (Sum.inr.inj q)
  rw [zC4 h,zC4 e]
theorem zAN (a:Int) (b:Str):decide ((Sum.inl a:Key)=Sum.inr b)=false:=zC4 (fun q=>nomatch q)
theorem zAM (a:Str) (b:Int):decide ((Sum.inr a:Key)=Sum.inl b)=false:=zC4 (fun q=>nomatch q)
def yP (prog:Program) (w:World):PySem.KeyKind prog w Key where
 is:=uK
 hash:=keyH w
 inj:=fun v a b ha hb=>by
  rcases yU ha with ⟨i,t,rfl,rfl⟩ | ⟨x,t,rfl,rfl⟩
  ·rcases yU hb with ⟨j,u,rfl,e⟩ | ⟨y,u,rfl,e⟩
   ·injection e with e1 _;rw [e1]
   ·exact nomatch e
  ·rcases yU hb with ⟨j,u,rfl,e⟩ | ⟨y,u,rfl,e⟩
   ·exact nomatch e
   ·injection e with e1 _;rw [e1]
 byValue:=fun k v h=>by
  rcases yU h with ⟨i,t,rfl,rfl⟩ | ⟨x,t,rfl,rfl⟩ <;> rfl
 pyHash:=fun hv h=>by
  rcases yU hv with ⟨i,t,rfl,rfl⟩ | ⟨x,t,rfl,rfl⟩
  ·exact wpAny_pyHash_int h
  ·exact wpAny_pyHash_str h
 eqBool:=fun hu hv h=>by
  rcases yU hu with ⟨i,t,rfl,rfl⟩ | ⟨x,t,rfl,rfl⟩
  ·rcases yU hv with ⟨j,u,rfl,rfl⟩ | ⟨y,u,rfl,rfl⟩
   ·rw [zAO] at h;exact wpAny_eqBool_int h
   ·rw [zAN] at h;exact SeqAt.EqAt.int_str i t y u _ _ _ _ h
  ·rcases yU hv with ⟨j,u,rfl,rfl⟩ | ⟨y,u,rfl,rfl⟩
   ·rw [zAM] at h;exact SeqAt.EqAt.str_int x t j u _ _ _ _ h
   ·rw [zAL] at h;exact wpAny_eqBool_str h
 «strs»:=fun k x t v h=>by
  rcases yU h with ⟨i,u,rfl,e⟩ | ⟨y,u,rfl,e⟩
  ·exact nomatch e
  ·injection e with e1 _
   subst e1
   cases v <;> rfl
theorem p8 (prog:Program) (w:World) (i:Int) (t:Tok):(yP prog w).is (.inl i) (.int i t)=true:=jQ i t
theorem p7 (prog:Program) (w:World) (x:Str) (t:Tok):(yP prog w).is (.inr x) (.str x t)=true:=jP x t
inductive V where
 | non | bl (b:Bool) | int (i:Int) | str (x:Str) | byt (b:Array UInt8) | flt (b:UInt64) | ref (a:Addr) | ty (n:String)
 deriving DecidableEq
def zX:V->Value->Prop
 | .non,u=>u=Value.none
 | .bl b,u=>u=Value.bool b
 | .int i,u=>∃ t,u=Value.int i t
 | .str x,u=>∃ t,u=Value.str x t
 | .byt b,u=>∃ t,u=Value.bytes b t
 | .flt b,u=>∃ t,u=Value.float b t
 | .ref a,u=>u=Value.ref a
 | .ty n,u=>u=Value.type n
abbrev zS:List V->List Value->Prop:=Paired zX
theorem zS.length {xs:List V} {us:List Value} (r:zS xs us):xs.length=us.length:=Paired.length r
theorem zS.get:∀ {xs:List V} {us:List Value} {i:Nat} {x:V},zS xs us->xs[i]?=some x->∃ u,us[i]?=some u/\zX x u
 | _,_,_,_,.nil,e=>by simp at e
 | _,_,0,_,.cons r _,e=>by simp at e;subst e;exact ⟨_,rfl,r⟩
 | _,_,i + 1,x,.cons _ t,e=>by
  obtain ⟨u,h1,h2⟩:=zS.get (i:=i) (x:=x) t (by simpa using e)
  exact ⟨u,by simpa using h1,h2⟩
theorem zS.set {x:V} {u:Value} (r:zX x u):∀ {xs:List V} {us:List Value} (i:Nat),zS xs us->zS (xs.set i x) (us.set i u)
 | _,_,_,.nil=>.nil
 | _,_,0,.cons _ t=>.cons r t
 | _,_,i + 1,.cons q t=>.cons q (zS.set r i t)
theorem zS.append {xs ys:List V} {us ws:List Value} (h:zS xs us) (s:zS ys ws):zS (xs ++ ys) (us ++ ws):=by
 induction h with
 | nil=>exact s
 | cons r _ ih=>exact .cons r ih
theorem zS.take:∀ {xs:List V} {us:List Value} (n:Nat),zS xs us->zS (xs.take n) (us.take n)
 | _,_,0,_=>.nil
 | _,_,_ + 1,.nil=>.nil
 | _,_,n + 1,.cons r t=>.cons r (zS.take n t)
theorem zS.drop:∀ {xs:List V} {us:List Value} (n:Nat),zS xs us->zS (xs.drop n) (us.drop n)
 | _,_,0,r=>r
 | _,_,_ + 1,.nil=>.nil
 | _,_,n + 1,.cons _ t=>zS.drop n t
def vQ:Option V->Option Value->Prop
 | some v,some u=>zX v u
 | none,none=>True
 | _,_=>False
def KV {κ:Type}:List (κ × V)->List (κ × Value)->Prop:=Paired fun (p:κ × V) (q:κ × Value)=>p.1=q.1/\zX p.2 q.2
def kV:Key->V
 | .inl i=>.int i
 | .inr x=>.str x
inductive HO where
 | lst (xs:List V)
 | tup (xs:List V)
 | dK (kvs:List (Key × V)) | dT (kvs:List (List Key × V))
 | set (S:Int->Bool) (n:Nat)
 | ins (C dx:Addr) (fs:List (Str × V))
 | own (x:Addr)
 | xd (fs:List (Str × V))
 | met (f x:Addr)
 | rng (lo hi:Int)
 | frz (o:Obj) (u:HO)
 | tbl (ps:Array Value)
 | ext (φ:Heap->Prop)
abbrev Hp:=Addr->Option HO
def upd (H:Hp) (a:Addr) (o:HO):Hp:=fun b=>if b=a then some o else H b
theorem zC {H:Hp} {a:Addr} {o:HO}:upd H a o a=some o:=by unfold upd;rw [if_pos rfl]
theorem zJ {H:Hp} {a b:Addr} {o:HO} (h:b ≠ a):upd H a o b=H b:=by unfold upd;rw [if_neg h]
theorem vZ {H:Hp} {a:Addr} {o u:HO}:upd (upd H a o) a u=upd H a u:=by
 funext b;unfold upd;split <;> rfl
theorem xA {H:Hp} {a b:Addr} {o u:HO} (h:H a=some o) (h':H b=some u) (d:o ≠ u):a ≠ b:=by
 intro e;subst e;rw [h] at h';exact d (zCV h')
theorem zF {H:Hp} {a b:Addr} {o:HO} (h:H a=some o) (h':H b=none):a ≠ b:=by
 intro e;subst e;rw [h] at h';cases h'
section
variable (P:Program) (w:World)
def yQ (H:Hp) (h:Heap) (a:Addr):HO->Prop
 | .lst xs=>xs.length <= sizeLine/\∃ (its:List Value) (n:Nat),zS xs its/\h.get? a=some { cls:=.type "list",data:=.seq its.toArray n }
 | .tup xs=>xs.length <= sizeLine/\∃ its:List Value,zS xs its/\IsTup h a its.toArray
 | .dK kvs=>kvs.length <= sizeLine/\(a == sysModules)=false/\∃ vs,KV kvs vs/\h.DictOf (yP P w) a vs
 | .dT kvs=>kvs.length <= sizeLine/\(a == sysModules)=false/\∃ xs:List (List Key × Addr × Value),
   Paired (fun (p:List Key × V) (q:List Key × Addr × Value)=>p.1=q.1/\H q.2.1=some (.tup (p.1.map kV))/\zX p.2 q.2.2) kvs xs /\
   ∃ o es ep,h.get? a=some o/\o.ExactDict/\o.data=.dict es ep/\es.toList=xs.map (entryOfKey (tupleKind (yP P w)))/\(xs.map (·.1)).Nodup
 | .set S n=>h.SetOf (intKind P w) a S n
 | .ins C dx fs=>H dx=some (.own a)/\fs.length <= 1000/\dx ≠ a/\h.get? a=some (W.instObj C dx) /\
   ∃ mA,h.Ns1 dx mA/\(∀ f,vQ (fs.lookup f) (mA f))/\PySem.Within mA (fs.map (·.1))
 | .own _=>∃ o,h.get? a=some o
 | .xd fs=>∃ mA,h.Ns1 a mA/\∀ f,vQ (fs.lookup f) (mA f)
 | .rng lo hi=>∃ t u v,h.get? a=some { cls:=.type "range",data:=.fields #[.int lo t,.int hi u,.int 1 v] }
 | .frz o u=>h.get? a=some o/\yQ H h a u
 | .tbl ps=>h.get? a=some { cls:=.none,data:=.fields ps }
 | .met f x=>h.get? a=some (W.methodObj (.ref f) (.ref x))
 | .ext φ=>φ h/\(∃ o,h.get? a=some o)/\∀ h1 h2:Heap,φ h1->(∀ o,h1.get? a=some o->h2.get? a=some o)->φ h2
def HOk (H:Hp) (h:Heap):Prop:=∀ a o,H a=some o->yQ P w H h a o
end
section
variable {P:Program} {w:World} {H H':Hp} {h h':Heap} {a:Addr} {o:HO}
theorem yQ.lt (x:yQ P w H h a o):a < h.objs.size:=by
 cases o with
 | lst xs=>obtain ⟨_,_,_,_,e⟩:=x;exact Heap.lt_size e
 | tup xs=>obtain ⟨_,_,_,p⟩:=x;exact p.lt
 | dK kvs=>obtain ⟨_,_,_,_,o,_,_,e,_⟩:=x;exact Heap.lt_size e
 | dT kvs=>obtain ⟨_,_,_,_,o,_,_,e,_⟩:=x;exact Heap.lt_size e
 | set S n=>obtain ⟨o,_,_,_,e,_⟩:=x;exact Heap.lt_size e
 | ins C dx fs=>obtain ⟨_,_,_,e,_⟩:=x;exact Heap.lt_size e
 | own y=>obtain ⟨_,e⟩:=x;exact Heap.lt_size e
 | xd fs=>obtain ⟨_,⟨_,_,_,e,_⟩,_⟩:=x;exact Heap.lt_size e
 | rng lo hi=>obtain ⟨_,_,_,e⟩:=x;exact Heap.lt_size e
 | frz ob u=>obtain ⟨e,_⟩:=x;exact Heap.lt_size e
 | tbl ps=>exact Heap.lt_size (show h.get? a=some _ from x)
 | met f y=>exact Heap.lt_size (show h.get? a=some _ from x)
 | ext φ=>obtain ⟨_,⟨_,e⟩,_⟩:=x;exact Heap.lt_size e
theorem Paired.mapP {α β:Type} {F G:α->β->Prop} {l₁:List α} {l₂:List β} (h:Paired F l₁ l₂) (f:∀ a b,F a b->G a b):Paired G l₁ l₂:=by
 induction h with
 | nil=>exact .nil
 | cons r _ ih=>exact .cons (f _ _ r) ih
theorem yQ.stay (x:yQ P w H h a o) (k:∀ b u,(b=a \/ H b=some (.own a))->h.get? b=some u->h'.get? b=some u)
  (ho:∀ b,H b=some (.own a)->H' b=some (.own a)) (ht:∀ b xs,H b=some (.tup xs)->H' b=some (.tup xs)):yQ P w H' h' a o:=by
 induction o with
 | lst xs=>obtain ⟨z,its,n,r,e⟩:=x;exact ⟨z,its,n,r,k _ _ (.inl rfl) e⟩
 | tup xs=>obtain ⟨z,its,r,ob,e,c⟩:=x;exact ⟨z,its,r,ob,k _ _ (.inl rfl) e,c⟩
 | dK kvs=>obtain ⟨z,y,vs,r,ob,es,ep,e,c⟩:=x;exact ⟨z,y,vs,r,ob,es,ep,k _ _ (.inl rfl) e,c⟩
 | dT kvs=>
  obtain ⟨z,y,xs,r,ob,es,ep,e,c⟩:=x
  exact ⟨z,y,xs,Paired.mapP r fun p q z=>⟨z.1,ht _ _ z.2.1,z.2.2⟩,ob,es,ep,k _ _ (.inl rfl) e,c⟩
 | set S n=>obtain ⟨ob,es,ep,t,e,c⟩:=x;exact ⟨ob,es,ep,t,k _ _ (.inl rfl) e,c⟩
 | ins C dx fs=>
  obtain ⟨d,z,ne,e,mA,⟨od,es,ep,e2,c⟩,r⟩:=x
  exact ⟨ho _ d,z,ne,k _ _ (.inl rfl) e,mA,⟨od,es,ep,k _ _ (.inr d) e2,c⟩,r⟩
 | own y=>obtain ⟨ob,e⟩:=x;exact ⟨ob,k _ _ (.inl rfl) e⟩
 | xd fs=>obtain ⟨mA,⟨od,es,ep,e,c⟩,r⟩:=x;exact ⟨mA,⟨od,es,ep,k _ _ (.inl rfl) e,c⟩,r⟩
 | rng lo hi=>obtain ⟨t,u,v,e⟩:=x;exact ⟨t,u,v,k _ _ (.inl rfl) e⟩
 | frz ob u ih=>obtain ⟨e,q⟩:=x;exact ⟨k _ _ (.inl rfl) e,ih q⟩
 | tbl ps=>
  have e:h.get? a=some { cls:=.none,data:=.fields ps }:=x
  show h'.get? a=some { cls:=.none,data:=.fields ps }
  exact k a _ (.inl rfl) e
 | met f y=>
  have e:h.get? a=some (W.methodObj (.ref f) (.ref y)):=x
  show h'.get? a=some (W.methodObj (.ref f) (.ref y))
  exact k a _ (.inl rfl) e
 | ext φ=>obtain ⟨p,⟨o,e⟩,st⟩:=x;exact ⟨st _ _ p fun o q=>k _ _ (.inl rfl) q,⟨o,k _ _ (.inl rfl) e⟩,st⟩
theorem HOk.lt (x:HOk P w H h) (e:H a=some o):a < h.objs.size:=(x a o e).lt
theorem HOk.fresh (x:HOk P w H h) (e:h.objs.size <= a):H a=none:=by
 cases q:H a with
 | none=>rfl
 | some u=>exact absurd (zDA (x.lt q) e) (Nat.lt_irrefl _)
theorem HOk.kept (x:HOk P w H h) (k:∀ b u,h.get? b=some u->h'.get? b=some u):HOk P w H h':=fun a o e=>
 (x a o e).stay (fun b u _ q=>k b u q) (fun _ q=>q) fun _ _ q=>q
theorem HOk.laid (x:HOk P w H h) (k:∀ b u,h.get? b=some u->h'.get? b=some u) (hp:h.objs.size <= a) (new:yQ P w (upd H a o) h' a o):HOk P w (upd H a o) h':=fun b u e=>by
 have hn:=x.fresh hp
 by_cases hb:b=a
 ·subst hb;rw [zC] at e;cases e;exact new
 ·rw [zJ hb] at e
  exact (x b u e).stay (fun c v _ q=>k c v q) (fun c q=>by rw [zJ (zF q hn)];exact q) fun c xs q=>by rw [zJ (zF q hn)];exact q
end
def Rd (H:Hp) (a:Addr) (u:HO):Prop:=H a=some u \/ ∃ o,H a=some (.frz o u)
theorem Rd.ok {P:Program} {w:World} {H:Hp} {h:Heap} {a:Addr} {u:HO} (r:Rd H a u) (x:HOk P w H h):yQ P w H h a u:=by
 rcases r with r | ⟨o,r⟩
 ·exact x a u r
 ·obtain ⟨_,q⟩:=x a _ r
  exact q
def Mut:Option HO->Prop
 | some (.lst _)=>True
 | some (.dK _)=>True
 | some (.dT _)=>True
 | some (.set _ _)=>True
 | some (.ins _ _ _)=>True
 | some (.ext _)=>True
 | _=>False
section
variable {P:Program} {w:World} {H:Hp} {h h':Heap} {x e:Addr} {o':HO}
theorem HOk.write (ok:HOk P w H h) (mu:Mut (H x)) (he:e=x \/ H e=some (.own x)) (k:∀ b u,b ≠ e->h.get? b=some u->h'.get? b=some u) (heo:∃ u,h'.get? e=some u)
  (new:yQ P w (upd H x o') h' x o'):HOk P w (upd H x o') h':=fun b u q=>by
 have nown:∀ c y,H c=some (.own y)->c ≠ x:=fun c y r z=>by subst z;rw [r] at mu;exact mu
 have ntup:∀ c xs,H c=some (.tup xs)->c ≠ x:=fun c xs r z=>by subst z;rw [r] at mu;exact mu
 by_cases hb:b=x
 ·subst hb;rw [zC] at q;cases q;exact new
 ·rw [zJ hb] at q
  by_cases hbe:b=e
  ·have q':H b=some (.own x):=by
    rcases he with z | z
    ·exact absurd (hbe.trans z) hb
    ·rw [hbe];exact z
   rw [q] at q';cases q'
   obtain ⟨v,hv⟩:=heo
   exact ⟨v,by rw [hbe];exact hv⟩
  ·refine (ok b u q).stay (fun c v hc r=>k c v ?_ r) (fun c r=>by rw [zJ (nown c b r)];exact r) fun c xs r=>by rw [zJ (ntup c xs r)];exact r
   rcases hc with rfl | hc
   ·exact hbe
   ·rintro rfl
    rcases he with z | z
    ·exact nown c b hc z
    ·rw [hc] at z;cases z;exact hb rfl
end
structure Un (fs ex:List Addr) (H H':Hp) (h h':Heap):Prop where
 keep:∀ b o,h.get? b=some o->H b=none->b ∉ fs->b ∉ ex->h'.get? b=some o
 slot:∀ b o,h.get? b=some o->H b=none->b ∈ fs->b ∉ ex->∃ sl,h'.get? b=some { o with slots:=sl }
 free:∀ b o,h.get? b=some o->H b=none->b ∉ ex->H' b=none
 there:∀ b o,h.get? b=some o->b ∉ ex->∃ o',h'.get? b=some o'
 tups:∀ b xs,H b=some (.tup xs)->H' b=some (.tup xs)
 frzs:∀ b o u,H b=some (.frz o u)->H' b=some (.frz o u)
 tbls:∀ b ps,H b=some (.tbl ps)->∃ more,H' b=some (.tbl (ps ++ more))
section
variable {fs fs' ex ex':List Addr} {H H1 H2:Hp} {h h1 h2 h':Heap} {a x e:Addr} {o:HO}
theorem Un.any (u:Un fs ex H H1 h h1) {b:Addr} {ob:Obj} (q:h.get? b=some ob) (n:H b=none) (hx:b ∉ ex):∃ sl,h1.get? b=some { ob with slots:=sl }:=by
 by_cases hb:b ∈ fs
 ·exact u.slot b ob q n hb hx
 ·exact ⟨ob.slots,u.keep b ob q n hb hx⟩
theorem Un.kept (k:∀ b u,h.get? b=some u->h'.get? b=some u):Un fs ex H H h h':=
 ⟨fun b ob q _ _ _=>k b ob q,fun b ob q _ _ _=>⟨ob.slots,k b ob q⟩,fun _ _ _ n _=>n,fun b ob q _=>⟨ob,k b ob q⟩,fun _ _ q=>q,fun _ _ _ q=>q,fun _ ps q=>⟨#[],by rw [q];simp⟩⟩
theorem Un.refl:Un fs ex H H h h:=Un.kept fun _ _ q=>q
theorem Un.laid (k:∀ b u,h.get? b=some u->h'.get? b=some u) (hp:h.objs.size <= a) (hn:H a=none):Un fs ex H (upd H a o) h h' where
 keep:=fun b u q _ _ _=>k b u q
 slot:=fun b u q _ _ _=>⟨u.slots,k b u q⟩
 free:=fun b u q n _=>by rw [zJ (zDF (zDA (Heap.lt_size q) hp))];exact n
 there:=fun b u q _=>⟨u,k b u q⟩
 tups:=fun b xs q=>by rw [zJ (zF q hn)];exact q
 frzs:=fun b u xs q=>by rw [zJ (zF q hn)];exact q
 tbls:=fun b ps q=>⟨#[],by rw [zJ (zF q hn),q];simp⟩
theorem Un.write (mu:Mut (H x)) (he:e=x \/ H e=some (.own x)) (k:∀ b u,b ≠ e->h.get? b=some u->h'.get? b=some u) (heo:∃ u,h'.get? e=some u):Un fs ex H (upd H x o) h h':=by
 have hx:∀ b,H b=none->b ≠ x:=fun b n z=>by subst z;rw [n] at mu;exact mu
 have hb:∀ b,H b=none->b ≠ e:=fun b n z=>by
  subst z
  rcases he with r | r
  ·exact hx b n r
  ·rw [n] at r;cases r
 have hm:∀ b u,H b=some u->¬ Mut (some u)->b ≠ x:=fun b u q nm z=>by subst z;rw [q] at mu;exact nm mu
 refine ⟨fun b u q n _ _=>k b u (hb b n) q,fun b u q n _ _=>⟨u.slots,k b u (hb b n) q⟩,fun b u q n _=>by rw [zJ (hx b n)];exact n,fun b u q _=>?_,
  fun b xs q=>by rw [zJ (hm b _ q fun z=>z)];exact q,fun b u xs q=>by rw [zJ (hm b _ q fun z=>z)];exact q,fun b ps q=>⟨#[],by rw [zJ (hm b _ q fun z=>z),q];simp⟩⟩
 by_cases hbe:b=e
 ·subst hbe;exact heo
 ·exact ⟨u,k b u hbe q⟩
end
def trk (h:Heap) (H:Hp):List Addr:=(List.range h.objs.size).filter fun a=>(H a).isSome
def qZ (h:Heap) (H:Hp):Heap:=W.hideAll h (trk h H)
theorem jT (h:Heap) (H:Hp):(qZ h H).objs.size=h.objs.size:=W.hideAll_size _ _
theorem gS {h:Heap} {H:Hp} {b:Addr} {o:Obj} (e:h.get? b=some o) (n:H b=none):(qZ h H).get? b=some o:=
 W.hideAll_get _ e fun hm=>by
  have q:(H b).isSome=true:=(List.mem_filter.mp hm).2
  rw [n] at q;simp at q
theorem dQ {h:Heap} {H:Hp} {b:Addr} {o:Obj} (e:(qZ h H).get? b=some o):h.get? b=some o/\H b=none:=by
 have e':h.get? b=some o:=W.of_hideAll (trk h H) e
 refine ⟨e',?_⟩
 cases q:H b with
 | none=>rfl
 | some x=>
  have hm:b ∈ trk h H:=List.mem_filter.mpr ⟨List.mem_range.mpr (Heap.lt_size e'),by simp [q]⟩
  have z:(qZ h H).get? b=none:=W.hideAll_none (trk h H) hm
  rw [z] at e;cases e
structure Mod (K:W.Frag) (mg:Str->Option Value) (base:Heap):Prop where
 kin:K.In base
 glob:base.Ns mainGlobals mg
 blt:∃ mb,base.Ns builtinsNs mb/\∀ x:Str,x ≠ "__name__"->mb x=bootBuiltins x
 nolimit:base.NoLimit
structure Cx where
 prog:Program
 w:World
 K:W.Frag
 mg:Str->Option Value
 base:Heap
 A:Around
 N:List Str
 s₀:Shared
 H₀:Hp
 env:Env
 outer:List Env
 stack:List Env
 ex:List Addr
 fn:Str->Bool
 calm:Bool
 pn:LAO
 xe:VSP
def frs (l:List Env):List Addr:=l.filterMap (·.frame)
abbrev Cx.fs (X:Cx):List Addr:=frs X.outer
def Vis (sc:Scope) (x:Str):Prop:=sc.names.lookup x=some .local \/ sc.names.lookup x=some .cell \/ sc.names.lookup x=some .free
def Loc (sc:Scope) (x:Str):Prop:=sc.names.lookup x=some .local \/ sc.names.lookup x=some .cell
def Look (env:Env) (h:Heap) (m:Str->Option Value) (x:Str) (u:Value):Prop:=
 (env.kindOf x=some .local/\m x=some u) \/ ((env.kindOf x=some .cell \/ env.kindOf x=some .free)/\∃ c,env.cells.lookup x=some c/\h.IsCell c (some u))
structure Cx.Ok (X:Cx):Prop where
 mod:Mod X.K X.mg X.base
 kind:X.env.scope.kind=.function
 glob:X.env.globals=mainGlobals
 blt:X.env.builtins=builtinsNs
 above:X.s₀.heap.objs.size <= X.env.locals
 inj:∀ x y c,X.env.cells.lookup x=some c->X.env.cells.lookup y=some c->x=y
 has:∀ x,(X.env.kindOf x=some .cell \/ X.env.kindOf x=some .free)->∃ c,X.env.cells.lookup x=some c
 cab:∀ x c,X.fn x=true->X.env.cells.lookup x=some c->X.s₀.heap.objs.size <= c
 hd:X.calm=true->X.A.handled=none
 frames:X.A.frames=some X.stack
 stk:X.stack=X.outer \/ (X.stack=X.env :: X.outer/\X.env.frame=some X.env.locals)
 exf:∀ b ∈ X.ex,b ≠ X.env.locals/\∀ x c,X.env.cells.lookup x=some c->c ≠ b
 bs:∀ b o,X.base.get? b=some o->X.s₀.heap.get? b=some o/\X.H₀ b=none
 bsz:X.base.objs.size <= X.s₀.heap.objs.size
 noex:∀ b o,X.base.get? b=some o->b ∉ X.ex
 exfs:∀ b ∈ X.ex,b ∉ X.fs
 funs:X.s₀.heap.FunFrames X.base X.outer
 frf:∀ b ∈ X.fs,X.H₀ b=none
structure Inv (X:Cx) (qp:LAO) (σ:List (Option V)) (H:Hp) (s:Shared):Prop where
 ok:X.Ok
 os:s.os=X.s₀.os
 bare:AllBare s.gens
 base:Un X.fs X.ex X.H₀ H X.s₀.heap s.heap
 loc:∃ m,s.heap.Ns X.env.locals m/\∀ (i:Nat) (x:Str) (v:V),X.N[i]?=some x->σ[i]?=some (some v)->Vis X.env.scope x->∃ u,zX v u/\Look X.env s.heap m x u
 cell:∀ x c,X.env.cells.lookup x=some c->∃ v,s.heap.IsCell c v
 free:H X.env.locals=none
 freeC:∀ x c,X.env.cells.lookup x=some c->H c=none
 pin:∀ p ∈ X.pn ++ qp,s.heap.get? p.1=some p.2/\H p.1=none/\p.1 ≠ X.env.locals/\p.1 ∉ X.fs/\∀ v,p.2.data ≠ .cell v
 hok:HOk X.prog X.w H s.heap
 len:σ.length=X.N.length
section
variable {X:Cx} {qp:LAO} {σ:List (Option V)} {H H':Hp} {s:Shared} {h':Heap}
theorem Cx.Ok.nofr (ok:X.Ok) {b:Addr} {o:Obj} (e:X.base.get? b=some o):b ∉ X.fs:=fun hb=>by
 have:=(ok.funs.mem hb).1
 rw [e] at this;cases this
theorem Inv.bs (I:Inv X qp σ H s):∀ b o,X.base.get? b=some o->s.heap.get? b=some o/\H b=none:=fun b o e=>
 ⟨I.base.keep b o (I.ok.bs b o e).1 (I.ok.bs b o e).2 (I.ok.nofr e) (I.ok.noex b o e),I.base.free b o (I.ok.bs b o e).1 (I.ok.bs b o e).2 (I.ok.noex b o e)⟩
theorem Inv.bk (I:Inv X qp σ H s):∀ b o,X.base.get? b=some o->s.heap.get? b=some o:=fun b o e=>(I.bs b o e).1
theorem Inv.mod (I:Inv X qp σ H s):Mod X.K X.mg X.base:=I.ok.mod
theorem Inv.kIn (I:Inv X qp σ H s):X.K.In s.heap:=I.ok.mod.kin.keeps I.bk
theorem Inv.lt (I:Inv X qp σ H s):X.env.locals < s.heap.objs.size:=let ⟨_,hn,_⟩:=I.loc;hn.lt
theorem Inv.sz (I:Inv X qp σ H s):X.s₀.heap.objs.size <= s.heap.objs.size:=zCZ I.ok.above (Nat.le_of_lt I.lt)
theorem Inv.nofs (I:Inv X qp σ H s) {a:Addr} (h:s.heap.objs.size <= a):a ∉ X.fs:=fun hb=>by
 obtain ⟨_,o,ho,_⟩:=I.ok.funs.mem hb
 exact absurd (zDA (Heap.lt_size ho) (zCZ I.sz h)) (Nat.lt_irrefl _)
theorem Inv.cne (I:Inv X qp σ H s):∀ x c,X.env.cells.lookup x=some c->c ≠ X.env.locals:=fun x c e z=>by
 obtain ⟨v,o,ho,hd⟩:=I.cell x c e
 obtain ⟨m,⟨o',es,ep,ho',hd',_⟩,_⟩:=I.loc
 rw [z,ho'] at ho;cases ho;rw [hd'] at hd;cases hd
theorem Inv.funs (I:Inv X qp σ H s):s.heap.FunFrames X.base X.outer:=by
 have all:∀ (l:List Env),(∀ b ∈ frs l,b ∈ X.fs)->X.s₀.heap.FunFrames X.base l->s.heap.FunFrames X.base l:=by
  intro l
  induction l with
  | nil=>intro _ _;trivial
  | cons env r ih=>
   intro hs hl
   obtain ⟨hk,⟨L,o,hf,hn,ho,hd⟩,hr⟩:=hl
   have hL:L ∈ X.fs:=hs L (by unfold frs;rw [List.filterMap_cons,hf];exact zDH)
   obtain ⟨sl,e⟩:=I.base.slot L o ho (I.ok.frf L hL) hL fun z=>I.ok.exfs L z hL
   exact ⟨hk,⟨L,_,hf,hn,e,hd⟩,ih (fun b hb=>hs b (by unfold frs;rw [List.filterMap_cons,hf];exact zC1 _ hb)) hr⟩
 exact all X.outer (fun _ hb=>hb) I.ok.funs
theorem Inv.stack (I:Inv X qp σ H s):s.heap.FunFrames X.base X.stack:=by
 rcases I.ok.stk with e | ⟨e,hf⟩
 ·rw [e];exact I.funs
 ·rw [e]
  obtain ⟨m,hn,_⟩:=I.loc
  refine .cons (by rw [I.ok.kind];decide) hf hn ?_ I.funs
  exact Heap.get?_none_of_le (zCZ I.ok.bsz I.ok.above)
theorem Inv.stkSub (I:Inv X qp σ H s):∀ b ∈ frs X.stack,b ∈ X.env.locals :: X.fs:=fun b hb=>by
 rcases I.ok.stk with e | ⟨e,hf⟩
 ·rw [e] at hb;exact zC1 _ hb
 ·rw [e] at hb
  unfold frs at hb
  rw [List.filterMap_cons,hf] at hb
  exact hb
theorem Inv.stkFree (I:Inv X qp σ H s):∀ b ∈ frs X.stack,H b=none:=fun b hb=>by
 rcases List.mem_cons.mp (I.stkSub b hb) with e | hb
 ·rw [e];exact I.free
 ·obtain ⟨_,o,ho,_⟩:=I.ok.funs.mem hb
  exact I.base.free b o ho (I.ok.frf b hb) fun z=>I.ok.exfs b z hb
theorem Inv.step {g':Array GenState} {t':Nat} {d':Drawn} {ch:List Addr} (I:Inv X qp σ H s)
  (hch:∀ b ∈ ch,(b ∈ X.ex \/ X.s₀.heap.objs.size <= b)/\b ≠ X.env.locals/\(∀ x c,X.env.cells.lookup x=some c->c ≠ b)/\∀ p ∈ X.pn ++ qp,p.1 ≠ b)
  (keep:∀ b o,b ≠ X.env.locals->b ∉ X.fs->b ∉ ch->s.heap.get? b=some o->H b=none->h'.get? b=some o)
  (slot:∀ b o,b ≠ X.env.locals->b ∈ X.fs->b ∉ ch->s.heap.get? b=some o->H b=none->∃ sl,h'.get? b=some { o with slots:=sl }) (free:∀ b o,b ∉ ch->s.heap.get? b=some o->H b=none->H' b=none)
  (there:∀ b o,b ∉ ch->s.heap.get? b=some o->∃ o',h'.get? b=some o')
  (tups:∀ b xs,H b=some (.tup xs)->H' b=some (.tup xs)) (frzs:∀ b o u,H b=some (.frz o u)->H' b=some (.frz o u)) (tbls:∀ b ps,H b=some (.tbl ps)->∃ more,H' b=some (.tbl (ps ++ more)))
  (ns:∀ m,s.heap.Ns X.env.locals m->h'.Ns X.env.locals m) (hok:HOk X.prog X.w H' h') (hg:AllBare g') :
  Inv X qp σ H' { s with heap:=h',gens:=g',drawn:=d',toks:=t' }:=by
 have neL:∀ b o,X.s₀.heap.get? b=some o->b ≠ X.env.locals:=fun b o e=>zDF (zDA (Heap.lt_size e) I.ok.above)
 have neC:∀ b o,X.s₀.heap.get? b=some o->b ∉ X.ex->b ∉ ch:=fun b o e hx hb=>by
  rcases (hch b hb).1 with z | z
  ·exact hx z
  ·exact absurd (zDA (Heap.lt_size e) z) (Nat.lt_irrefl _)
 have cellK:∀ x c,X.env.cells.lookup x=some c->∀ v,s.heap.IsCell c v->h'.IsCell c v:=fun x c e v ⟨o,ho,hd⟩=>by
  have nch:c ∉ ch:=fun z=>(hch c z).2.2.1 x c e rfl
  by_cases hc:c ∈ X.fs
  ·obtain ⟨sl,q⟩:=slot c o (I.cne x c e) hc nch ho (I.freeC x c e)
   exact ⟨_,q,hd⟩
  ·exact ⟨o,keep c o (I.cne x c e) hc nch ho (I.freeC x c e),hd⟩
 refine ⟨I.ok,I.os,hg,⟨fun b o e n hb hx=>?_,fun b o e n hb hx=>?_,fun b o e n hx=>?_,fun b o e hx=>?_,fun b xs e=>tups b xs (I.base.tups b xs e),fun b o xs e=>frzs b o xs (I.base.frzs b o xs e),fun b ps e=>?_⟩,?_,fun x c e=>?_,?_,fun x c e=>?_,fun p hp=>?_,hok,I.len⟩
 ·exact keep b o (neL b o e) hb (neC b o e hx) (I.base.keep b o e n hb hx) (I.base.free b o e n hx)
 ·obtain ⟨sl,e1⟩:=I.base.slot b o e n hb hx
  obtain ⟨sl',e2⟩:=slot b _ (neL b o e) hb (neC b o e hx) e1 (I.base.free b o e n hx)
  exact ⟨sl',e2⟩
 ·obtain ⟨o',e1⟩:=I.base.there b o e hx
  exact free b o' (neC b o e hx) e1 (I.base.free b o e n hx)
 ·obtain ⟨o',e1⟩:=I.base.there b o e hx
  exact there b o' (neC b o e hx) e1
 ·obtain ⟨m1,e1⟩:=I.base.tbls b ps e
  obtain ⟨m2,e2⟩:=tbls b _ e1
  exact ⟨m1 ++ m2,by rw [e2,Array.append_assoc]⟩
 ·obtain ⟨m,hn,hl⟩:=I.loc
  refine ⟨m,ns m hn,fun i x v e1 e2 e3=>?_⟩
  obtain ⟨u,r,l⟩:=hl i x v e1 e2 e3
  refine ⟨u,r,?_⟩
  rcases l with l | ⟨k,c,e,z⟩
  ·exact .inl l
  ·exact .inr ⟨k,c,e,cellK x c e _ z⟩
 ·obtain ⟨v,z⟩:=I.cell x c e
  exact ⟨v,cellK x c e v z⟩
 ·obtain ⟨m,⟨o,_,_,ho,_⟩,_⟩:=I.loc
  exact free _ o (fun z=>(hch _ z).2.1 rfl) ho I.free
 ·obtain ⟨v,o,ho,hd⟩:=I.cell x c e
  exact free c o (fun z=>(hch c z).2.2.1 x c e rfl) ho (I.freeC x c e)
 ·obtain ⟨e,n,ne,nf,d⟩:=I.pin p hp
  have nch:p.1 ∉ ch:=fun z=>(hch p.1 z).2.2.2 p hp rfl
  exact ⟨keep p.1 p.2 ne nf nch e n,free p.1 p.2 nch e n,ne,nf,d⟩
theorem Inv.un {t':Nat} (I:Inv X qp σ H s) (u:Un X.fs [] H H' s.heap h') (hok:HOk X.prog X.w H' h'):Inv X qp σ H' { s with heap:=h',toks:=t' }:=by
 obtain ⟨m,⟨o,es,ep,ho,r⟩,_⟩:=id I.loc
 obtain ⟨sl,hL⟩:=u.any ho I.free (by simp)
 exact I.step (g':=s.gens) (d':=s.drawn) (ch:=[]) (fun _ z=>nomatch z) (fun b o _ hb _ e n=>u.keep b o e n hb (by simp)) (fun b o _ hb _ e n=>u.slot b o e n hb (by simp)) (fun b o _ e n=>u.free b o e n (by simp)) (fun b o _ e=>u.there b o e (by simp)) u.tups u.frzs u.tbls (fun m' hm=>by
  obtain ⟨o',es',ep',ho',r'⟩:=hm
  rw [ho] at ho';cases ho'
  exact ⟨_,es',ep',hL,r'⟩) hok I.bare
theorem Inv.call {g':Array GenState} {t':Nat} {d':Drawn} {ch:List Addr} (I:Inv X qp σ H s) (u:Un (frs X.stack) ch H H' s.heap h') (hok:HOk X.prog X.w H' h') (hg:AllBare g')
  (hch:∀ b ∈ ch,(b ∈ X.ex \/ X.s₀.heap.objs.size <= b)/\b ≠ X.env.locals/\(∀ x c,X.env.cells.lookup x=some c->c ≠ b)/\∀ p ∈ X.pn ++ qp,p.1 ≠ b) :
  Inv X qp σ H' { s with heap:=h',gens:=g',drawn:=d',toks:=t' }:=by
 obtain ⟨m,⟨o,es,ep,ho,r⟩,_⟩:=id I.loc
 obtain ⟨sl,hL⟩:=u.any ho I.free fun z=>(hch _ z).2.1 rfl
 exact I.step (ch:=ch) hch (fun b o hL hb hc e n=>u.keep b o e n (fun z=>(List.mem_cons.mp (I.stkSub b z)).elim hL hb) hc) (fun b o _ _ hc e n=>u.any e n hc) (fun b o hc e n=>u.free b o e n hc) (fun b o hc e=>u.there b o e hc) u.tups u.frzs u.tbls (fun m' hm=>by
  obtain ⟨o',es',ep',ho',r'⟩:=hm
  rw [ho] at ho';cases ho'
  exact ⟨_,es',ep',hL,r'⟩) hok hg
theorem Inv.turned {t':Nat} {it:Addr} (I:Inv X qp σ H s) (k:∀ b o,b ≠ it->s.heap.get? b=some o->h'.get? b=some o) (hn:H it=none) (hL:it ≠ X.env.locals)
  (h1:it ∈ X.ex \/ X.s₀.heap.objs.size <= it) (h2:∀ x c,X.env.cells.lookup x=some c->c ≠ it) (h3:∀ p ∈ X.pn ++ qp,p.1 ≠ it):Inv X qp σ H { s with heap:=h',toks:=t' }:=by
 have nit:∀ b u,H b=some u->b ≠ it:=fun b u e z=>by rw [z,hn] at e;cases e
 refine I.step (g':=s.gens) (d':=s.drawn) (ch:=[it]) (fun b hb=>?_) (fun b o _ _ hc e _=>k b o (fun z=>hc (by simp [z])) e) (fun b o _ _ hc e _=>⟨o.slots,k b o (fun z=>hc (by simp [z])) e⟩) (fun _ _ _ _ n=>n)
  (fun b o hc e=>⟨o,k b o (fun z=>hc (by simp [z])) e⟩) (fun _ _ e=>e) (fun _ _ _ e=>e) (fun b ps e=>⟨#[],by rw [e];simp⟩) (fun m hm=>?_) (fun b u e=>?_) I.bare
 ·have e:b=it:=by simpa using hb
  subst e
  exact ⟨h1,hL,h2,h3⟩
 ·obtain ⟨o,es,ep,ho,r⟩:=hm
  exact ⟨o,es,ep,k _ o (Ne.symm hL) ho,r⟩
 ·refine (I.hok b u e).stay (fun c v hc q=>k c v ?_ q) (fun _ q=>q) fun _ _ q=>q
  rcases hc with z | z
  ·rw [z];exact nit b u e
  ·exact nit c _ z
theorem Inv.tok (I:Inv X qp σ H s) (t:Nat):Inv X qp σ H { s with toks:=t }:=I.un (h':=s.heap) (t':=t) Un.refl I.hok
theorem Inv.kept {t':Nat} (I:Inv X qp σ H s) (k:∀ b u,s.heap.get? b=some u->h'.get? b=some u):Inv X qp σ H { s with heap:=h',toks:=t' }:=I.un (Un.kept k) (I.hok.kept k)
theorem Inv.laid {a:Addr} {o:HO} {t':Nat} (I:Inv X qp σ H s) (k:∀ b u,s.heap.get? b=some u->h'.get? b=some u) (hp:s.heap.objs.size <= a) (new:yQ X.prog X.w (upd H a o) h' a o) :
  Inv X qp σ (upd H a o) { s with heap:=h',toks:=t' }:=I.un (Un.laid k hp (I.hok.fresh hp)) (I.hok.laid k hp new)
theorem Inv.write {x e:Addr} {o:HO} {t':Nat} (I:Inv X qp σ H s) (mu:Mut (H x)) (he:e=x \/ H e=some (.own x)) (k:∀ b u,b ≠ e->s.heap.get? b=some u->h'.get? b=some u) (heo:∃ u,h'.get? e=some u)
  (new:yQ X.prog X.w (upd H x o) h' x o):Inv X qp σ (upd H x o) { s with heap:=h',toks:=t' }:=I.un (Un.write mu he k heo) (I.hok.write mu he k heo new)
theorem Inv.pins_of {pins':LAO} (I:Inv X qp σ H s) (h:∀ p ∈ pins',s.heap.get? p.1=some p.2/\H p.1=none/\p.1 ≠ X.env.locals/\p.1 ∉ X.fs/\∀ v,p.2.data ≠ .cell v):Inv X pins' σ H s:=
 ⟨I.ok,I.os,I.bare,I.base,I.loc,I.cell,I.free,I.freeC,fun p hp=>(zC5.mp hp).elim (fun z=>I.pin p (List.mem_append_left _ z)) (h p),I.hok,I.len⟩
theorem p5 {N:List Str} (hN:N.Nodup) {i j:Nat} {x:Str} (a:N[i]?=some x) (b:N[j]?=some x):i=j:=by
 obtain ⟨h1,e1⟩:=zCQ.mp a
 obtain ⟨h2,e2⟩:=zCQ.mp b
 exact (List.getElem_inj hN).mp (e1.trans e2.symm)
theorem rF {M:Model} {A:Around} {E:VSP} {i:Nat} {x:Str} {v:V} {u:Value} {Q:Unit->Shared->Prop} (I:Inv X qp σ H s) (hN:X.N.Nodup) (hi:X.N[i]?=some x) (hx:Loc X.env.scope x) (r:zX v u)
  (h:∀ s',Inv X qp (σ.set i (some v)) H s'->(∃ a,Heap.SameBut a s.heap s'.heap/\(a=X.env.locals \/ X.env.cells.lookup x=some a))->Q () s') (hf:X.fn x=true \/ X.env.scope.names.lookup x=some .local:=by first | exact .inl rfl | exact .inr rfl | assumption):wpAny M A (storeName X.env x u) Q E s:=by
 obtain ⟨m,hn,hl⟩:=id I.loc
 have hcls:(X.env.scope.kind == .class || (X.env.scope.kind == .module && X.env.locals != X.env.globals))=false:=by rw [I.ok.kind];rfl
 have hiσ:i < σ.length:=by rw [I.len];exact (zCQ.mp hi).1
 have cne:=I.cne
 have tracked:∀ {a:Addr} {h':Heap},(∃ o,s.heap.get? a=some o/\H a=none)->Heap.SameBut a s.heap h'->HOk X.prog X.w H h':=fun {a h'} ha hs b ob e=>by
  obtain ⟨_,_,hfree⟩:=ha
  refine (I.hok b ob e).stay (fun c w' hc q=>(hs.2 c ?_).trans q) (fun _ q=>q) fun _ _ q=>q
  rintro rfl
  rcases hc with rfl | hc
  ·rw [hfree] at e;cases e
  ·rw [hfree] at hc;cases hc
 rcases hx with hk | hk
 ·refine wpAny_storeName_local hk hn (fun h' hn' hs=>?_) hcls
  obtain ⟨oL,_,_,hoL,_⟩:=id hn
  refine h _ ⟨I.ok,I.os,I.bare,⟨fun b o e n hb hx=>?_,fun b o e n hb hx=>?_,I.base.free,fun b o e hx=>?_,I.base.tups,I.base.frzs,I.base.tbls⟩,⟨_,hn',fun j y v' e1 e2 e3=>?_⟩,fun y c e=>?_,I.free,I.freeC,fun p hp=>?_,tracked ⟨oL,hoL,I.free⟩ hs,by simpa using I.len⟩ ⟨_,hs,.inl rfl⟩
  ·exact (hs.2 b (zDF (zDA (Heap.lt_size e) I.ok.above))).trans (I.base.keep b o e n hb hx)
  ·obtain ⟨sl,e1⟩:=I.base.slot b o e n hb hx
   exact ⟨sl,(hs.2 b (zDF (zDA (Heap.lt_size e) I.ok.above))).trans e1⟩
  ·obtain ⟨o',e1⟩:=I.base.there b o e hx
   exact ⟨o',(hs.2 b (zDF (zDA (Heap.lt_size e) I.ok.above))).trans e1⟩
  ·by_cases hj:j=i
   ·subst hj
    rw [hi] at e1;cases e1
    rw [List.getElem?_set_self hiσ] at e2
    cases e2
    exact ⟨u,r,.inl ⟨hk,by simp⟩⟩
   ·rw [List.getElem?_set_ne (Ne.symm hj)] at e2
    obtain ⟨u',r',q⟩:=hl j y v' e1 e2 e3
    refine ⟨u',r',?_⟩
    rcases q with ⟨k,e⟩ | ⟨k,c,e,z⟩
    ·refine .inl ⟨k,?_⟩
     have:y ≠ x:=fun e=>hj (p5 hN e1 (e ▸ hi))
     simp [this,e]
    ·exact .inr ⟨k,c,e,z.sameBut hs (cne y c e)⟩
  ·obtain ⟨w',z⟩:=I.cell y c e
   exact ⟨w',z.sameBut hs (cne y c e)⟩
  ·obtain ⟨e,n,ne,nf,d⟩:=I.pin p hp
   exact ⟨(hs.2 p.1 ne).trans e,n,ne,nf,d⟩
 ·have hfn:X.fn x=true:=by
   rcases hf with z | z
   ·exact z
   ·rw [z] at hk;cases hk
  obtain ⟨c,hc⟩:=I.ok.has x (.inl hk)
  obtain ⟨w',z⟩:=I.cell x c hc
  refine wpAny_storeName_cell I.ok.kind hk hc z (fun h' hc' hs=>?_)
  obtain ⟨oc,hoc,hocd⟩:=id z
  refine h { s with heap:=h' } ⟨I.ok,I.os,I.bare,⟨fun b o e n hb hx=>?_,fun b o e n hb hx=>?_,I.base.free,fun b o e hx=>?_,I.base.tups,I.base.frzs,I.base.tbls⟩,⟨m,hn.sameBut hs (Ne.symm (cne x c hc)),fun j y v' e1 e2 e3=>?_⟩,fun y c' e=>?_,I.free,I.freeC,fun p hp=>?_,tracked ⟨oc,hoc,I.freeC x c hc⟩ hs,by simpa using I.len⟩ ⟨c,hs,.inr hc⟩
  ·exact (hs.2 b (zDF (zDA (Heap.lt_size e) (I.ok.cab x c hfn hc)))).trans (I.base.keep b o e n hb hx)
  ·obtain ⟨sl,e1⟩:=I.base.slot b o e n hb hx
   exact ⟨sl,(hs.2 b (zDF (zDA (Heap.lt_size e) (I.ok.cab x c hfn hc)))).trans e1⟩
  ·obtain ⟨o',e1⟩:=I.base.there b o e hx
   exact ⟨o',(hs.2 b (zDF (zDA (Heap.lt_size e) (I.ok.cab x c hfn hc)))).trans e1⟩
  ·by_cases hj:j=i
   ·subst hj
    rw [hi] at e1;cases e1
    rw [List.getElem?_set_self hiσ] at e2
    cases e2
    exact ⟨u,r,.inr ⟨.inl hk,c,hc,hc'⟩⟩
   ·rw [List.getElem?_set_ne (Ne.symm hj)] at e2
    obtain ⟨u',r',q⟩:=hl j y v' e1 e2 e3
    refine ⟨u',r',?_⟩
    rcases q with q | ⟨k,c',e,z'⟩
    ·exact .inl q
    ·refine .inr ⟨k,c',e,z'.sameBut hs ?_⟩
     rintro rfl
     exact hj (p5 hN e1 (I.ok.inj _ _ _ e hc ▸ hi))
  ·by_cases hcc:c'=c
   ·subst hcc;exact ⟨_,hc'⟩
   ·obtain ⟨w2,z2⟩:=I.cell y c' e
    exact ⟨w2,z2.sameBut hs hcc⟩
  ·obtain ⟨e,n,ne,nf,d⟩:=I.pin p hp
   refine ⟨(hs.2 p.1 ?_).trans e,n,ne,nf,d⟩
   intro q
   rw [q,hoc] at e
   have q':oc=p.2:=zCV e
   exact d w' (by rw [<- q'];exact hocd)
theorem pN {M:Model} {A:Around} {E:VSP} {i:Nat} {x:Str} {v:V} {u:Value} {Q:Unit->Shared->Prop} (I:Inv X qp σ H s) (hN:X.N.Nodup) (hi:X.N[i]?=some x) (hx:Loc X.env.scope x) (r:zX v u)
  (h:∀ s',Inv X qp (σ.set i (some v)) H s'->Q () s') (hf:X.fn x=true \/ X.env.scope.names.lookup x=some .local:=by first | exact .inl rfl | exact .inr rfl | assumption):wpAny M A (storeName X.env x u) Q E s:=
 rF I hN hi hx r (fun s' I' _=>h s' I') hf
theorem Inv.call' {s':Shared} {ch:List Addr} (I:Inv X qp σ H s) (ho:s'.os=s.os) (u:Un (frs X.stack) ch H H' s.heap s'.heap) (hok:HOk X.prog X.w H' s'.heap) (hg:AllBare s'.gens)
  (hch:∀ b ∈ ch,(b ∈ X.ex \/ X.s₀.heap.objs.size <= b)/\b ≠ X.env.locals/\(∀ x c,X.env.cells.lookup x=some c->c ≠ b)/\∀ p ∈ X.pn ++ qp,p.1 ≠ b):Inv X qp σ H' s':=by
 obtain ⟨h',g',d',t',o'⟩:=s'
 have e:o'=s.os:=ho
 subst e
 exact I.call (g':=g') (t':=t') (d':=d') u hok hg hch
end
abbrev XK:=Value->Option Addr->Hp->Prop
abbrev St:=List (Option V)
abbrev VK:=V->Hp->Prop
abbrev TE:=St->Hp->VK->Prop
abbrev TT:=St->Hp->(Bool->Hp->Prop)->Prop
abbrev TA:=St->Hp->(List V->Hp->Prop)->Prop
structure tQ where
 nx:St->Hp->Prop
 rt:VK
 bk:St->Hp->Prop:=fun _ _=>False
 ct:St->Hp->Prop:=fun _ _=>False
abbrev TS:=tQ->St->Hp->Prop
def EP (X:Cx) (qp:LAO) (σ:St) (Q:VK) (u:Value) (s':Shared):Prop:=∃ v H',Inv X qp σ H' s'/\zX v u/\Q v H'
def TP (X:Cx) (qp:LAO) (σ:St) (Q:Bool->Hp->Prop) (b:Bool) (s':Shared):Prop:=∃ H',Inv X qp σ H' s'/\Q b H'
def AP (X:Cx) (qp:LAO) (σ:St) (Q:List V->Hp->Prop) (us:List Value) (s':Shared):Prop:=∃ vs H',Inv X qp σ H' s'/\zS vs us/\Q vs H'
def SP (X:Cx) (qp:LAO) (D:tQ) (f:Flow) (s':Shared):Prop:=
 match f with
 | .next=>∃ σ' H',Inv X qp σ' H' s'/\D.nx σ' H'
 | .brk=>∃ σ' H',Inv X qp σ' H' s'/\D.bk σ' H'
 | .cont=>∃ σ' H',Inv X qp σ' H' s'/\D.ct σ' H'
 | .ret u=>∃ v σ' H',Inv X qp σ' H' s'/\zX v u/\D.rt v H'
def PE (X:Cx) (e:Expr) (t:TE):Prop:=
 ∀ (qp:LAO) (s:Shared) (σ:St) (H:Hp) (Q:VK),Inv X qp σ H s->t σ H Q->wpAny (model X.prog X.w) X.A (eval e X.env) (EP X qp σ Q) X.xe s
def PT (X:Cx) (e:Expr) (t:TT):Prop:=
 ∀ (qp:LAO) (s:Shared) (σ:St) (H:Hp) (Q:Bool->Hp->Prop),Inv X qp σ H s->t σ H Q->wpAny (model X.prog X.w) X.A (isTrue e X.env (eval e X.env)) (TP X qp σ Q) X.xe s
def PW (X:Cx) (e:Expr) (t:TT):Prop:=
 ∀ (whole:Sem Value) (qp:LAO) (s:Shared) (σ:St) (H:Hp) (Q:Bool->Hp->Prop),Inv X qp σ H s->t σ H Q->wpAny (model X.prog X.w) X.A (isTrue e X.env whole) (TP X qp σ Q) X.xe s
theorem PW.pt {X:Cx} {e:Expr} {t:TT} (h:PW X e t):PT X e t:=h _
def PA (X:Cx) (es:List Expr) (t:TA):Prop:=
 ∀ (pos:Pos) (qp:LAO) (s:Shared) (σ:St) (H:Hp) (Q:List V->Hp->Prop),Inv X qp σ H s->t σ H Q->wpAny (model X.prog X.w) X.A (spliced (backTo pos (starEach es X.env))) (AP X qp σ Q) X.xe s
def PS (X:Cx) (st:Stmt) (t:TS):Prop:=
 ∀ (qp:LAO) (s:Shared) (σ:St) (H:Hp) (D:tQ),Inv X qp σ H s->t D σ H->wpAny (model X.prog X.w) X.A (exec st X.env) (SP X qp D) X.xe s
def PSs (X:Cx) (st:List Stmt) (t:TS):Prop:=
 ∀ (qp:LAO) (s:Shared) (σ:St) (H:Hp) (D:tQ),Inv X qp σ H s->t D σ H->wpAny (model X.prog X.w) X.A (execs st X.env) (SP X qp D) X.xe s
theorem thn {α:Type} {t:Sem α} {Q Q':α->Shared->Prop} {M:Model} {A:Around} {E:VSP} {s:Shared} (h:wpAny M A t Q E s) (hQ:∀ a s,Q a s->Q' a s):wpAny M A t Q' E s:=wpAny_mono h hQ fun _ _ x=>x
section
variable {X:Cx}
def sZ (i:Nat):TE:=fun σ H Q=>∃ v,σ[i]?=some (some v)/\Q v H
def tC (v:V):TE:=fun _ H Q=>Q v H
theorem aO {i:Nat} {x:Str} {pos:Pos} (hN:X.N[i]?=some x) (hv:Vis X.env.scope x) (hd:(x == ("__debug__" : Str))=false:=by decide) (hcd:(x == ("__classdict__" : Str))=false:=by decide):PE X (.Name x pos) (sZ i):=by
 intro qp s σ H Q I h
 obtain ⟨v,e,h⟩:=h
 obtain ⟨m,hn,hl⟩:=I.loc
 obtain ⟨u,r,l⟩:=hl i x v hN e hv
 have fin:EP X qp σ Q u s:=⟨v,H,I,r,h⟩
 rcases l with ⟨hk,hm⟩ | ⟨hk,c,hc,hcell⟩
 ·exact wpAny_Name (wpAny_loadName_local I.ok.kind hk hn hm fin) hd
 ·rcases hk with hk | hk
  ·exact wpAny_Name (wpAny_loadName_cell I.ok.kind hk hc hcell fin) hd
  ·exact wpAny_Name (wpAny_loadName_free I.ok.kind hk hc hcell fin hcd) hd
theorem zI {i j pos}:PE X (.Constant (.int i) j pos) (tC (.int i)):=fun _ _ _ H _ I h=>wpAny_Constant_int ⟨.int i,H,I.tok _,⟨_,rfl⟩,h⟩
theorem wG {b j pos}:PE X (.Constant (.bool b) j pos) (tC (.bl b)):=fun _ _ _ H _ I h=>Constant_bool ⟨.bl b,H,I,rfl,h⟩
theorem y9 {j pos}:PE X (.Constant .none j pos) (tC .non):=fun _ _ _ H _ I h=>Constant_none ⟨.non,H,I,rfl,h⟩
theorem z7 {x j pos}:PE X (.Constant (.str x) j pos) (tC (.str x)):=fun _ _ _ H _ I h=>Calls.Constant_str ⟨.str x,H,I.tok _,⟨_,rfl⟩,h⟩
def Gl (X:Cx) (x:Str):Prop:=X.env.kindOf x=some .globalImplicit
theorem qV {E:VSP} {qp:LAO} {s:Shared} {σ:St} {H:Hp} {x:Str} {u:Value} {pos:Pos} {Q:VSP} (I:Inv X qp σ H s) (hg:Gl X x) (hm:X.mg x=some u) (h:Q u s)
  (hd:(x == ("__debug__" : Str))=false:=by decide):wpAny (model X.prog X.w) X.A (eval (.Name x pos) X.env) Q E s:=
 Calls.Name_function_global I.ok.kind hg (Calls.loadGlobal_global (by rw [I.ok.glob];exact I.mod.glob.keeps I.bk) hm h) hd
theorem sM {E:VSP} {qp:LAO} {s:Shared} {σ:St} {H:Hp} {x:Str} {u:Value} {pos:Pos} {Q:VSP} (I:Inv X qp σ H s) (hg:Gl X x) (hm:X.mg x=none) (hv:bootBuiltins x=some u) (h:Q u s)
  (hn:x ≠ "__name__":=by decide) (hd:(x == ("__debug__" : Str))=false:=by decide):wpAny (model X.prog X.w) X.A (eval (.Name x pos) X.env) Q E s:=by
 obtain ⟨mb,h1,h2⟩:=I.mod.blt
 exact Calls.Name_function_global I.ok.kind hg (Calls.loadGlobal_builtin (by rw [I.ok.glob];exact I.mod.glob.keeps I.bk) hm (by rw [I.ok.blt];exact h1.keeps I.bk) ((h2 x hn).trans hv) h) hd
theorem dF {x:Str} {v:V} {u:Value} {pos:Pos} (hg:Gl X x) (hm:X.mg x=some u) (r:zX v u) (hd:(x == ("__debug__" : Str))=false:=by decide):PE X (.Name x pos) (tC v):=
 fun _ _ _ H _ I h=>qV I hg hm ⟨v,H,I,r,h⟩ hd
theorem dI {x:Str} {v:V} {u:Value} {pos:Pos} (hg:Gl X x) (hm:X.mg x=none) (hv:bootBuiltins x=some u) (r:zX v u) (hn:x ≠ "__name__":=by decide) (hd:(x == ("__debug__" : Str))=false:=by decide):PE X (.Name x pos) (tC v):=
 fun _ _ _ H _ I h=>sM I hg hm hv ⟨v,H,I,r,h⟩ hn hd
variable {a b:Expr} {ta tb:TE} {pos:Pos}
def PC (X:Cx) (op:CmpOp) (a b:Expr) (t:TE):Prop:=
 ∀ (qp:LAO) (s:Shared) (σ:St) (H:Hp) (Q:VK),Inv X qp σ H s->t σ H Q ->
  wpAny (model X.prog X.w) X.A (eval a X.env) (fun v s₁=>wpAny (model X.prog X.w) X.A (eval b X.env) (fun u s₂=>wpAny (model X.prog X.w) X.A (compareOp op v u) (EP X qp σ Q) X.xe s₂) X.xe s₁) X.xe s
def tB (t:TE):TT:=fun σ H Q=>t σ H fun x H1=>∃ c,x=.bl c/\Q c H1
theorem aK {op:CmpOp} {t:TE} (h:PC X op a b t) (h1:behindInMarks op b=false:=by first | exact nobehind _ (by decide) (by decide) | rfl):PT X (.Compare a [op] [b] pos) (tB t):=by
 intro qp s σ H Q I hw
 refine wpAny_isTrue_Compare1 (thn (h qp s σ H _ I hw) fun v s1 h1=>thn h1 fun u s2 h2=>thn h2 fun c s3 hz1=>?_) h1
 obtain ⟨x,H1,I1,r1,q1⟩:=hz1
 obtain ⟨d,rfl,q⟩:=q1
 cases r1
 exact wpAny_truthy_bool ⟨H1,I1,q⟩
theorem xQ {e:Expr} {t:TE} (h:PE X e t) (he:∀ whole,isTrue e X.env whole=(do let v <- whole;standAt e.pos;holding [v] (truthy v)):=by intro _;rfl):PT X e (tB t):=by
 intro qp s σ H Q I hw
 refine isTrue_plain (thn (h qp s σ H _ I hw) fun v s1 hz2=>?_) (he _)
 obtain ⟨x,H1,I1,r1,q1⟩:=hz2
 obtain ⟨d,rfl,q⟩:=q1
 cases r1
 exact wpAny_truthy_bool ⟨H1,I1,q⟩
variable {tA tB':TT} {rest:List Expr}
def tAnd (t u:TT):TT:=fun σ H Q=>t σ H fun c H1=>if c=true then u σ H1 Q else Q false H1
def tOr (t u:TT):TT:=fun σ H Q=>t σ H fun c H1=>if c=true then Q true H1 else u σ H1 Q
def tNot (t:TT):TT:=fun σ H Q=>t σ H fun c H1=>Q (!c) H1
theorem qK (ha:PT X a tA):PW X (.BoolOp .And [a] pos) tA:=by
 intro wh qp s σ H Q I h
 refine isTrue_and (thn (ha qp s σ H Q I h) fun c s1 e=>?_)
 cases c with
 | true=>exact isTrue_and_nil e
 | false=>exact e
theorem qJ (ha:PT X a tA):PW X (.BoolOp .Or [a] pos) tA:=by
 intro wh qp s σ H Q I h
 refine isTrue_or (thn (ha qp s σ H Q I h) fun c s1 e=>?_)
 cases c with
 | false=>exact isTrue_or_nil e
 | true=>exact e
theorem qL (ha:PT X a tA) (hb:PW X (.BoolOp .And (b :: rest) pos) tB'):PW X (.BoolOp .And (a :: b :: rest) pos) (tAnd tA tB'):=by
 intro wh qp s σ H Q I h
 refine isTrue_and (thn (ha qp s σ H _ I h) fun c s1 hz3=>?_)
 obtain ⟨H1,I1,q1⟩:=hz3
 cases c with
 | true=>exact hb wh qp s1 σ H1 Q I1 q1
 | false=>exact ⟨H1,I1,q1⟩
theorem lU (ha:PT X a tA) (hb:PW X (.BoolOp .Or (b :: rest) pos) tB'):PW X (.BoolOp .Or (a :: b :: rest) pos) (tOr tA tB'):=by
 intro wh qp s σ H Q I h
 refine isTrue_or (thn (ha qp s σ H _ I h) fun c s1 hz4=>?_)
 obtain ⟨H1,I1,q1⟩:=hz4
 cases c with
 | true=>exact ⟨H1,I1,q1⟩
 | false=>exact hb wh qp s1 σ H1 Q I1 q1
theorem wA (ha:PT X a tA):PT X (.UnaryOp .Not a pos) (tNot tA):=by
 intro qp s σ H Q I h
 exact isTrue_not (ha qp s σ H (fun c H1=>Q (!c) H1) I h)
def zBA (ta tb:TE):TE:=fun σ H Q=>ta σ H fun x H1=>∃ c,x=.bl c/\if c=true then tb σ H1 Q else Q (.bl false) H1
def zA6 (ta:TE):TE:=fun σ H Q=>ta σ H fun x H1=>∃ c,x=.bl c/\Q (.bl (!c)) H1
theorem nM {op} {t:TE} (h:PE X a t):PE X (.BoolOp op [a] pos) t:=fun qp s σ H Q I hw=>BoolOp_one (h qp s σ H Q I hw)
theorem nN (ha:PE X a ta) (hb:PE X (.BoolOp .And (b :: rest) pos) tb):PE X (.BoolOp .And (a :: b :: rest) pos) (zBA ta tb):=by
 intro qp s σ H Q I h
 refine BoolOp_and (thn (ha qp s σ H _ I h) fun v s1 hz5=>?_)
 obtain ⟨x,H1,I1,r1,q1⟩:=hz5
 obtain ⟨c,rfl,q1⟩:=q1
 cases r1
 refine wpAny_truthy_bool ?_
 cases c with
 | true=>exact hb qp s1 σ H1 Q I1 q1
 | false=>exact ⟨.bl false,H1,I1,rfl,q1⟩
theorem aP (ha:PE X a ta):PE X (.UnaryOp .Not a pos) (zA6 ta):=by
 intro qp s σ H Q I h
 refine UnaryOp_ (thn (ha qp s σ H _ I h) fun v s1 hz6=>?_)
 obtain ⟨x,H1,I1,r1,q1⟩:=hz6
 obtain ⟨c,rfl,q1⟩:=q1
 cases r1
 exact not_of (wpAny_truthy_bool ⟨.bl (!c),H1,I1,rfl,q1⟩)
def tIf (t:TT) (ta tb:TE):TE:=fun σ H Q=>t σ H fun c H1=>if c=true then ta σ H1 Q else tb σ H1 Q
theorem i5 {c:Expr} (hc:PT X c tA) (ha:PE X a ta) (hb:PE X b tb):PE X (.IfExp c a b pos) (tIf tA ta tb):=by
 intro qp s σ H Q I h
 refine wpAny_IfExp (thn (hc qp s σ H _ I h) fun d s1 hz7=>?_)
 obtain ⟨H1,I1,q1⟩:=hz7
 cases d with
 | true=>exact ha qp s1 σ H1 Q I1 q1
 | false=>exact hb qp s1 σ H1 Q I1 q1
end
def SqL (K:W.Frag) (H:Hp) (a:Addr) (xs:List V):Prop:=
 Rd H a (.lst xs) \/
  ∃ (o:Obj) (its:Array Value) (n:Nat),K.lookup a=some o/\o.cls=.type "list"/\o.dict=none/\o.data=.seq its n/\its.size <= sizeLine/\zS xs its.toList
def SqT (K:W.Frag) (H:Hp) (a:Addr) (xs:List V):Prop:=
 Rd H a (.tup xs) \/
  ∃ (o:Obj) (its:Array Value) (n:Nat),K.lookup a=some o/\o.cls=.type "tuple"/\o.data=.seq its n/\its.size <= sizeLine/\zS xs its.toList
def absV:Value->Option V
 | .none=>some .non
 | .bool b=>some (.bl b)
 | .int i _=>some (.int i)
 | .str x _=>some (.str x)
 | .bytes b _=>some (.byt b)
 | .float b _=>some (.flt b)
 | .ref a=>some (.ref a)
 | .type n=>some (.ty n)
 | _=>none
theorem zX.abs {x:V} {u:Value} (r:zX x u):absV u=some x:=by
 cases x with
 | non=>cases r;rfl
 | bl _=>cases r;rfl
 | int _=>obtain ⟨t,rfl⟩:=r;rfl
 | str _=>obtain ⟨t,rfl⟩:=r;rfl
 | byt _=>obtain ⟨t,rfl⟩:=r;rfl
 | flt _=>obtain ⟨t,rfl⟩:=r;rfl
 | ref _=>cases r;rfl
 | ty _=>cases r;rfl
theorem zX.inj {x y:V} {u:Value} (r:zX x u) (q:zX y u):x=y:=zCV (r.abs.symm.trans q.abs)
theorem zS.inj:∀ {xs ys:List V} {us:List Value},zS xs us->zS ys us->xs=ys
 | _,_,_,.nil,.nil=>rfl
 | _,_,_,.cons r t,.cons r' t'=>by rw [r.inj r',zS.inj t t']
section
variable {X:Cx} {qp:LAO} {σ:St} {H:Hp} {s:Shared} {a:Addr} {xs ys:List V}
theorem SqL.of {K:W.Frag} (h:H a=some (.lst xs)):SqL K H a xs:=.inl (.inl h)
theorem SqT.of {K:W.Frag} (h:H a=some (.tup xs)):SqT K H a xs:=.inl (.inl h)
theorem Inv.list (I:Inv X qp σ H s) (h:SqL X.K H a xs):∃ its:List Value,zS xs its/\PlainL s.heap a its.toArray/\xs.length <= sizeLine:=by
 rcases h with h | ⟨o,its,n,hk,hc,hd,hs,hz,r⟩
 ·obtain ⟨z,its,n,r,e⟩:=h.ok I.hok
  exact ⟨its,r,⟨_,n,e,rfl,rfl,rfl⟩,z⟩
 ·refine ⟨its.toList,r,⟨o,n,I.kIn a o hk,hc,hd,by simpa using hs⟩,?_⟩
  have e:=r.length
  simp only [Array.length_toList] at e
  omega
theorem Inv.tuple (I:Inv X qp σ H s) (h:SqT X.K H a xs):∃ its:List Value,zS xs its/\IsTup s.heap a its.toArray/\xs.length <= sizeLine:=by
 rcases h with h | ⟨o,its,n,hk,hc,hs,hz,r⟩
 ·obtain ⟨z,its,r,p⟩:=h.ok I.hok
  exact ⟨its,r,p,z⟩
 ·refine ⟨its.toList,r,⟨o,I.kIn a o hk,hc,n,by simpa using hs⟩,?_⟩
  have e:=r.length
  simp only [Array.length_toList] at e
  omega
theorem Inv.list_inj (I:Inv X qp σ H s) (h:SqL X.K H a xs) (h':SqL X.K H a ys):xs=ys:=by
 obtain ⟨its,r,⟨o,n,e,_,_,d⟩,_⟩:=I.list h
 obtain ⟨its',r',⟨o',n',e',_,_,d'⟩,_⟩:=I.list h'
 rw [e] at e';cases e'
 rw [d] at d'
 injection d' with d1 _
 have:its=its':=by simpa using congrArg Array.toList d1
 subst this
 exact r.inj r'
theorem Inv.tuple_inj (I:Inv X qp σ H s) (h:SqT X.K H a xs) (h':SqT X.K H a ys):xs=ys:=by
 obtain ⟨its,r,⟨o,e,_,n,d⟩,_⟩:=I.tuple h
 obtain ⟨its',r',⟨o',e',_,n',d'⟩,_⟩:=I.tuple h'
 rw [e] at e';cases e'
 rw [d] at d'
 injection d' with d1 _
 have:its=its':=by simpa using congrArg Array.toList d1
 subst this
 exact r.inj r'
end
abbrev Cx.wish (X:Cx) (E:VSP):Cx:={ X with xe:=E }
abbrev Cx.nox (X:Cx):Cx:=X.wish fun _ _=>False
theorem Cx.Ok.wish {X:Cx} (ok:X.Ok) (E:VSP):(X.wish E).Ok:=
 ⟨ok.mod,ok.kind,ok.glob,ok.blt,ok.above,ok.inj,ok.has,ok.cab,ok.hd,ok.frames,ok.stk,ok.exf,ok.bs,ok.bsz,ok.noex,ok.exfs,ok.funs,ok.frf⟩
theorem Cx.Ok.unwish {X:Cx} {E:VSP} (ok:(X.wish E).Ok):X.Ok:=
 ⟨ok.mod,ok.kind,ok.glob,ok.blt,ok.above,ok.inj,ok.has,ok.cab,ok.hd,ok.frames,ok.stk,ok.exf,ok.bs,ok.bsz,ok.noex,ok.exfs,ok.funs,ok.frf⟩
section
variable {X:Cx} {qp:LAO} {σ:St} {H:Hp} {s:Shared} {E:VSP}
theorem Inv.wish (I:Inv X qp σ H s) (E:VSP):Inv (X.wish E) qp σ H s:=⟨I.ok.wish E,I.os,I.bare,I.base,I.loc,I.cell,I.free,I.freeC,I.pin,I.hok,I.len⟩
theorem Inv.unwish (I:Inv (X.wish E) qp σ H s):Inv X qp σ H s:=⟨I.ok.unwish,I.os,I.bare,I.base,I.loc,I.cell,I.free,I.freeC,I.pin,I.hok,I.len⟩
theorem SP.unwish {D:tQ} {f:Flow} {s':Shared} (h:SP (X.wish E) qp D f s'):SP X qp D f s':=by
 cases f with
 | next=>obtain ⟨σ',H',I,q⟩:=h;exact ⟨σ',H',I.unwish,q⟩
 | brk=>obtain ⟨σ',H',I,q⟩:=h;exact ⟨σ',H',I.unwish,q⟩
 | cont=>obtain ⟨σ',H',I,q⟩:=h;exact ⟨σ',H',I.unwish,q⟩
 | ret u=>obtain ⟨v,σ',H',I,r,q⟩:=h;exact ⟨v,σ',H',I.unwish,r,q⟩
theorem PSs.nox {st:List Stmt} {t:TS} (h:PSs X.nox st t):PSs X st t:=fun qp s σ H D I hw=>
 wpAny_mono (h qp s σ H D (I.wish _) hw) (fun _ _ q=>q.unwish) fun _ _ z=>False.elim z
end
section
variable {X:Cx} {st:Stmt} {rest:List Stmt} {t u:TS} {e:Expr} {te:TE} {pos:Pos}
def cY:TS:=fun D σ H=>D.nx σ H
def rA (t u:TS):TS:=fun D σ H=>t { D with nx:=u D } σ H
theorem zP:PSs X [] cY:=fun _ _ σ H _ I h=>wpAny_execs_nil ⟨σ,H,I,h⟩
theorem zB (h1:PS X st t) (h2:PSs X rest u):PSs X (st :: rest) (rA t u):=by
 intro qp s σ H D I h
 refine wpAny_execs_cons (thn (h1 qp s σ H { D with nx:=u D } I h) fun f s1 q=>?_)
 cases f with
 | next=>
  obtain ⟨σ',H',I',q⟩:=q
  exact h2 qp s1 σ' H' D I' q
 | ret v=>exact q
 | brk=>exact q
 | cont=>exact q
theorem zH (h1:PS X st t):PSs X [st] t:=by
 intro qp s σ H D I h
 refine wpAny_execs_cons (thn (h1 qp s σ H D I h) fun f s1 q=>?_)
 cases f with
 | next=>exact wpAny_execs_nil q
 | ret v=>exact q
 | brk=>exact q
 | cont=>exact q
theorem Inv.quiet {qp:LAO} {σ:St} {H:Hp} {s:Shared} (I:Inv X qp σ H s):interactive X.env=false:=by simp [interactive,I.ok.kind]
def zA7 (te:TE):TS:=fun D σ H=>te σ H fun _ H1=>D.nx σ H1
theorem yT (he:PE X e te) (hs:swapsWith e none pos.line X.env=pure false:=by rfl):PS X (.Expr e pos) (zA7 te):=by
 intro qp s σ H D I h
 exact wpAny_Expr_any (thn (he qp s σ H _ I h) fun v s1 ⟨x,H1,I1,r1,q1⟩=>⟨σ,H1,I1,q1⟩) I.quiet hs
def eF (te:TE):TS:=fun D σ H=>te σ H D.rt
theorem zO (he:PE X e te):PS X (.Return (some e) pos) (eF te):=by
 intro qp s σ H D I h
 exact wpAny_Return_some (thn (he qp s σ H _ I h) fun v s1 ⟨x,H1,I1,r1,q1⟩=>⟨x,σ,H1,I1,r1,q1⟩)
def iD (c:TT) (t u:TS):TS:=fun D σ H=>c σ H fun b H1=>if b=true then t D σ H1 else u D σ H1
theorem yG {c:Expr} {a b:List Stmt} {tc:TT} (hc:PT X c tc) (ha:PSs X a t) (hb:PSs X b u):PS X (.If c a b pos) (iD tc t u):=by
 intro qp s σ H D I h
 refine wpAny_If (thn (hc qp s σ H _ I h) fun d s1 hz8=>?_)
 obtain ⟨H1,I1,q1⟩:=hz8
 cases d with
 | true=>exact ha qp s1 σ H1 D I1 q1
 | false=>exact hb qp s1 σ H1 D I1 q1
def bY:TS:=fun _ _ _=>False
theorem xI:PS X st bY:=fun _ _ _ _ _ _ h=>h.elim
end
abbrev TG:=V->St->Hp->(St->Hp->Prop)->Prop
abbrev TGs:=List V->St->Hp->(St->Hp->Prop)->Prop
def PG (X:Cx) (target:Expr) (t:TG):Prop:=
 ∀ (qp:LAO) (s:Shared) (σ:St) (H:Hp) (v:V) (u:Value) (Q:St->Hp->Prop),Inv X qp σ H s->zX v u->t v σ H Q ->
  wpAny (model X.prog X.w) X.A (assign target X.env u) (fun _ s'=>∃ σ' H',Inv X qp σ' H' s'/\Q σ' H') X.xe s
def PGs (X:Cx) (ts:List Expr) (t:TGs):Prop:=
 ∀ (qp:LAO) (s:Shared) (σ:St) (H:Hp) (vs:List V) (us:List Value) (Q:St->Hp->Prop),Inv X qp σ H s->zS vs us->t vs σ H Q ->
  wpAny (model X.prog X.w) X.A (assignInOrder ((assignEach ts X.env).map (·.2)) us) (fun _ s'=>∃ σ' H',Inv X qp σ' H' s'/\Q σ' H') X.xe s
abbrev zAY:=V->V->V->Hp->(Hp->Prop)->Prop
def zCM (X:Cx) (t:zAY):Prop:=
 ∀ (qp:LAO) (s:Shared) (σ:St) (H:Hp) (o i v:V) (ov iv u:Value) (Q:Hp->Prop),Inv X qp σ H s->zX o ov->zX i iv->zX v u->t o i v H Q ->
  wpAny (model X.prog X.w) X.A (setItem ov iv u) (fun _ s'=>∃ H',Inv X qp σ H' s'/\Q H') X.xe s
section
variable {X:Cx} {pos:Pos}
def vC (i:Nat):TG:=fun v σ H Q=>Q (σ.set i (some v)) H
theorem yD {i:Nat} {x:Str} (hN:X.N.Nodup) (hi:X.N[i]?=some x) (hx:Loc X.env.scope x) (hf:X.fn x=true \/ X.env.scope.names.lookup x=some .local:=by first | exact .inl rfl | exact .inr rfl | assumption):PG X (.Name x pos) (vC i):=by
 intro qp s σ H v u Q I r h
 exact wpAny_assign_Name (pN I hN hi hx r (fun s' I'=>⟨_,H,I',h⟩) hf)
def zCB:TGs:=fun vs σ H Q=>vs=[]/\Q σ H
def gY (t:TG) (u:TGs):TGs:=fun vs σ H Q=>∃ v r,vs=v :: r/\t v σ H fun σ' H'=>u r σ' H' Q
theorem uG:PGs X [] zCB:=by
 intro qp s σ H vs us Q I r h
 obtain ⟨e,h⟩:=h
 subst e
 cases r
 exact assignInOrder_nil ⟨σ,H,I,h⟩
theorem y8 {e:Expr} {es:List Expr} {t:TG} {u:TGs} (h1:PG X e t) (h2:PGs X es u)
  (hs:(assignEach (e :: es) X.env).map (·.2)=assign e X.env :: (assignEach es X.env).map (·.2):=by rfl):PGs X (e :: es) (gY t u):=by
 intro qp s σ H vs us Q I r h
 obtain ⟨v,vr,e1,h⟩:=h
 subst e1
 cases r with
 | cons r rr=>
  rw [hs]
  refine assignInOrder_cons (thn (h1 qp s σ H _ _ _ I r h) fun _ s1 hz9=>?_)
  obtain ⟨σ1,H1,I1,q1⟩:=hz9
  exact h2 qp s1 σ1 H1 _ _ Q I1 rr q1
def zB9 (K:W.Frag) (n:Nat) (t:TGs):TG:=fun v σ H Q=>∃ a xs,v=.ref a/\SqT K H a xs/\xs.length=n/\t xs σ H Q
theorem sH {es:List Expr} {k:Nat} {t:TGs} {n:Nat} (hc:X.calm=true) (h:PGs X es t)
  (hn:(assignEach es X.env).length=n:=by rfl) (hst:(assignEach es X.env).findIdx? (·.1)=none:=by rfl):PG X (.Tuple es k pos) (zB9 X.K n t):=by
 intro qp s σ H v u Q I r hw
 obtain ⟨a,xs,e1,hq,hl,hw⟩:=hw
 subst e1
 cases r
 obtain ⟨its,rv,ht,hz⟩:=I.tuple hq
 refine assign_Tuple_tuple (I.ok.hd hc) ht (by simp [hn,<- hl,rv.length]) hst fun h' hx=>?_
 have I1:Inv X qp σ H { s with heap:=h' }:=I.kept (t':=s.toks) fun b o e=>hx b o (zDF (Heap.lt_size e)) e
 exact h qp _ σ H xs _ Q I1 (by simpa using rv) hw
def zCA (to ti:TE) (t:zAY):TG:=fun v σ H Q=>to σ H fun o H1=>ti σ H1 fun i H2=>t o i v H2 fun H3=>Q σ H3
theorem i3 {o i:Expr} {to ti:TE} {t:zAY} (ho:PE X o to) (hi:PE X i ti) (hs:zCM X t)
  (ha:∀ v,assign (.Subscript o i pos) X.env v=(do
   let ov <- holding [v] (eval o X.env)
   let iv <- holding [v,ov] (eval i X.env)
   standAt pos
   holding [v,ov,iv] (setItem ov iv v)
   release [v,ov,iv] []):=by intro _;rfl):PG X (.Subscript o i pos) (zCA to ti t):=by
 intro qp s σ H v u Q I r h
 rw [ha]
 refine wpAny_bind (wpAny_holding (thn (ho qp s σ H _ I h) fun ov s1 hz10=>?_))
 obtain ⟨x,H1,I1,r1,q1⟩:=hz10
 refine wpAny_bind (wpAny_holding (thn (hi qp s1 σ H1 _ I1 q1) fun iv s2 hz11=>?_))
 obtain ⟨y,H2,I2,r2,q2⟩:=hz11
 refine wpAny_bind (wpAny_standAt (wpAny_bind (wpAny_holding (thn (hs qp s2 σ H2 x y v ov iv u _ I2 r1 r2 r q2) fun _ s3 hz12=>?_))))
 obtain ⟨H3,I3,q3⟩:=hz12
 exact wpAny_release ⟨σ,H3,I3,q3⟩
def oX (te:TE) (g:TG):TS:=fun D σ H=>te σ H fun x H1=>g x σ H1 D.nx
theorem uW {tg e:Expr} {te:TE} {g:TG} (he:PE X e te) (hg:PG X tg g) (hs:swapsWithSole [tg] e pos.line X.env=pure false:=by rfl) (hw:swappedStores [tg] e X.env=pure none:=by rfl)
  (h1:(assignEach [tg] X.env).map (·.2)=[assign tg X.env]:=by rfl):PS X (.Assign [tg] e pos) (oX te g):=by
 intro qp s σ H D I h
 refine wpAny_Assign_stores (thn (he qp s σ H _ I h) fun v s1 hz13=>?_) hs hw
 obtain ⟨x,H1,I1,r1,q1⟩:=hz13
 rw [h1]
 exact thn (hg qp s1 σ H1 x v _ I1 r1 q1) fun _ s2 q=>q
theorem zV {i:Nat} {x:Str} {e:Expr} {te:TE} {pos':Pos} (hN:X.N.Nodup) (hi:X.N[i]?=some x) (hx:Loc X.env.scope x) (he:PE X e te) (hs:swapsWith e (some (.Name x pos')) pos.line X.env=pure false:=by rfl) (hf:X.fn x=true \/ X.env.scope.names.lookup x=some .local:=by first | exact .inl rfl | exact .inr rfl | assumption) :
  PS X (.Assign [.Name x pos'] e pos) (oX te (vC i)):=by
 intro qp s σ H D I h
 refine wpAny_Assign_Name (thn (he qp s σ H _ I h) fun v s1 hz14=>?_) hs
 obtain ⟨y,H1,I1,r1,q1⟩:=hz14
 exact pN I1 hN hi hx r1 (fun s2 I2=>⟨_,H1,I2,q1⟩) hf
def bX (c:TT) (tb:TS):TS:=fun D σ H=>∃ W:Nat->St->Hp->Prop,(∃ m,W m σ H)/\∀ m σ H,W m σ H ->
 c σ H fun b H1=>if b=true then ∃ N:St->Hp->Prop,(∀ σ' H',N σ' H'->∃ m',m' < m/\W m' σ' H')/\tb { D with nx:=N,ct:=N,bk:=D.nx } σ H1 else D.nx σ H1
theorem pV {c:Expr} {body:List Stmt} {tc:TT} {tb:TS} (hp:PassesOwn (model X.prog X.w) X.A X.env X.xe) (hc:PT X c tc) (hb:PSs X body tb):PS X (.While c body [] pos) (bX tc tb):=by
 intro qp s σ H D I h
 obtain ⟨W,⟨m0,w0⟩,turn⟩:=h
 refine wpAny_While (codeAny_whileLoop (fun n s'=>∃ σ' H',Inv X qp σ' H' s'/\W n σ' H') ?_ m0 ⟨σ,H,I,w0⟩)
 rintro n s1 ⟨σ1,H1,I1,w1⟩
 refine wpAny_passesOwn hp (thn (hc qp s1 σ1 H1 _ I1 (turn n σ1 H1 w1)) fun b s2 hz15=>?_)
 obtain ⟨H2,I2,q2⟩:=hz15
 cases b with
 | true=>
  obtain ⟨N,hN,q2⟩:=q2
  rw [if_pos rfl]
  refine wpAny_passesOwn hp (thn (hb qp s2 σ1 H2 _ I2 q2) fun f s3 q3=>?_)
  cases f with
  | next=>
   obtain ⟨σ3,H3,I3,n3⟩:=q3
   obtain ⟨m',hm,w3⟩:=hN σ3 H3 n3
   exact ⟨m',hm,σ3,H3,I3,w3⟩
  | cont=>
   obtain ⟨σ3,H3,I3,n3⟩:=q3
   obtain ⟨m',hm,w3⟩:=hN σ3 H3 n3
   exact ⟨m',hm,σ3,H3,I3,w3⟩
  | brk=>exact q3
  | ret v=>exact q3
 | false=>
  rw [if_neg zDG]
  exact wpAny_execs_nil ⟨σ1,H2,I2,q2⟩
end
structure It where
 go:Nat->Hp->Prop
 yld:Nat->Hp->V->Hp->Prop
 stop:Nat->Hp->Prop
def tF (X:Cx) (qp:LAO) (H:Hp) (b:Addr):Prop:=
 H b=none/\b ≠ X.env.locals/\b ∉ X.fs/\(b ∈ X.ex \/ X.s₀.heap.objs.size <= b)/\(∀ x c,X.env.cells.lookup x=some c->c ≠ b)/\∀ p ∈ X.pn ++ qp,p.1 ≠ b
theorem Inv.fpOk {X:Cx} {qp:LAO} {σ:St} {H H':Hp} {s:Shared} {b:Addr} (I:Inv X qp σ H s) (hb:s.heap.objs.size <= b) (hn:H' b=none):tF X qp H' b:=by
 refine ⟨hn,Nat.ne_of_gt (zDA I.lt hb),I.nofs hb,.inr (zCZ I.sz hb),fun x c e z=>?_,fun p hp z=>?_⟩
 ·obtain ⟨v,q⟩:=I.cell x c e
  exact absurd (zDA q.lt (by rw [z];exact hb)) (Nat.lt_irrefl _)
 ·exact absurd (zDA (Heap.lt_size (I.pin p hp).1) (by rw [z];exact hb)) (Nat.lt_irrefl _)
structure fZ (P:Program) (w:World) (K:W.Frag) (tg:Expr) (J:It) (fp:List Addr) (it:Addr) (tn:Nat->Heap->Prop):Prop where
 mem:it ∈ fp
 obj:∀ i h,tn i h->∀ b ∈ fp,∃ o,h.get? b=some o/\∀ v,o.data ≠ .cell v
 keep:∀ i h h',tn i h->(∀ b ∈ fp,∀ o,h.get? b=some o->h'.get? b=some o)->tn i h'
 item:∀ (X:Cx),X.prog=P->X.w=w->X.K=K->X.calm=true->∀ (i:Nat) (qp:LAO) (s:Shared) (σ:St) (H:Hp) (E:VSP),Inv X qp σ H s->(∀ b ∈ fp,tF X qp H b)->tn i s.heap->J.go i H ->
  wpAny (model P w) X.A (pyNext (.ref it)) (fun r s1=>∃ u,r=some u /\
   wpAny (model P w) X.A (letOwnedTupleGo tg (.ref it) u) (fun _ s2=>∃ x H',Inv X qp σ H' s2/\zX x u/\J.yld i H x H'/\tn (i + 1) s2.heap/\∀ b ∈ fp,H' b=none) E s1) E s
 done:∀ (X:Cx),X.prog=P->X.w=w->X.K=K->X.calm=true->∀ (i:Nat) (qp:LAO) (s:Shared) (σ:St) (H:Hp) (E:VSP),Inv X qp σ H s->(∀ b ∈ fp,tF X qp H b)->tn i s.heap->J.stop i H ->
  wpAny (model P w) X.A (pyNext (.ref it)) (fun r s1=>r=none/\Inv X qp σ H s1) E s
 self:∀ (A:Around) (i:Nat) (s:Shared) (Q:VSP) (E:VSP),tn i s.heap->Q (.ref it) s->wpAny (model P w) A (pyIter (.ref it)) Q E s
abbrev TI:=St->Hp->(It->Hp->Prop)->Prop
def PIE (X:Cx) (qp:LAO) (σ:St) (tg:Expr) (R:It->Hp->Prop) (itv:Value) (s2:Shared):Prop:=
 ∃ (it:Addr) (fp:List Addr) (tn:Nat->Heap->Prop) (J:It) (H':Hp),itv=.ref it/\Inv X qp σ H' s2/\fZ X.prog X.w X.K tg J fp it tn/\tn 0 s2.heap/\(∀ b ∈ fp,tF X qp H' b)/\R J H'
def PI (X:Cx) (tg iter:Expr) (wi:TI):Prop:=
 ∀ (qp:LAO) (s:Shared) (σ:St) (H:Hp) (R:It->Hp->Prop),Inv X qp σ H s->wi σ H R ->
  wpAny (model X.prog X.w) X.A (eval iter X.env) (fun v s1=>wpAny (model X.prog X.w) X.A (pyIter v) (PIE X qp σ tg R) X.xe s1) X.xe s
theorem kE {M:Model} {A:Around} {E:VSP} {s:Shared} {tg:Expr} {it:Addr} {u:Value} {o:Obj} {n:String} {vs:Array Value} {Q:Unit->Shared->Prop} (ho:s.heap.get? it=some o) (hc:o.cls=.type n) (hd:o.data=.fields vs)
    (hn:["enumerate","zip","dict_itemiterator","dict_reverseitemiterator","odict_iterator","itertools.zip_longest","itertools.pairwise"].contains n=false) (hQ:Q () s):wpAny M A (letOwnedTupleGo tg (.ref it) u) Q E s:=by
  unfold letOwnedTupleGo
  cases tg <;> first
    | exact wpAny_pure hQ
    | (cases u <;> first
        | exact wpAny_pure hQ
        | (refine wpAny_bind (wpAny_load ho ?_)
           rw [hc,hd]
           show wpAny M A (if (["enumerate","zip","dict_itemiterator","dict_reverseitemiterator","odict_iterator","itertools.zip_longest","itertools.pairwise"].contains n && vs[0]? == some (rawInt _))=true then _ else _) Q E s
           rw [if_neg (by intro h;rw [hn,Bool.false_and] at h;cases h)]
           exact wpAny_pure hQ))
def Itl (K:W.Frag) (a:Addr):It:=
 ⟨fun i H=>∃ xs x,SqL K H a xs/\xs[i]?=some x,fun i H x H'=>H'=H/\∀ xs,SqL K H a xs->xs[i]?=some x,fun i H=>∃ xs,SqL K H a xs/\xs.length <= i⟩
def Itr (lo:Int) (n:Nat):It:=⟨fun i _=>i < n,fun i H x H'=>H'=H/\x=.int (lo + i),fun i _=>n <= i⟩
theorem kR {P:Program} {w:World} {K:W.Frag} {tg:Expr} (a it:Addr):fZ P w K tg (Itl K a) [it] it (fun i h=>h.IsListIter it a i) where
 mem:=by simp
 obj:=fun i h st b hb=>by
  have e:b=it:=by simpa using hb
  subst e
  obtain ⟨o,e,c,d⟩:=st
  exact ⟨o,e,fun v z=>by rw [d] at z;cases z⟩
 keep:=fun i h h' st k=>st.at fun o e=>k it (by simp) o e
 item:=by
  intro X hP hw hK hc i qp s σ H E I hf st hg
  subst hP hw hK
  obtain ⟨xs,x,hq,hx⟩:=hg
  obtain ⟨its,rv,p,hz⟩:=I.list hq
  obtain ⟨u,hu,ru⟩:=rv.get hx
  obtain ⟨f0,f1,f2,f3,f4,f5⟩:=hf it (by simp)
  refine wpAny_pyNext_list_item st p.isList (x:=u) (by simpa using hu) fun h' st' sb=>?_
  have I1:Inv X qp σ H { s with heap:=h' }:=I.turned (t':=s.toks) (fun b o hb e=>(sb.2 b hb).trans e) f0 f1 f3 f4 f5
  obtain ⟨o,e,c,d⟩:=id st'
  exact ⟨u,rfl,kE (s:={ s with heap:=h' }) e c d (by decide) ⟨x,H,I1,ru,⟨rfl,fun ys hy=>by rw [I.list_inj hy hq];exact hx⟩,st',fun b hb=>(hf b hb).1⟩⟩
 done:=by
  intro X hP hw hK hc i qp s σ H E I hf st hg
  subst hP hw hK
  obtain ⟨xs,hq,hx⟩:=hg
  obtain ⟨its,rv,p,hz⟩:=I.list hq
  obtain ⟨f0,f1,f2,f3,f4,f5⟩:=hf it (by simp)
  have hl:=rv.length
  exact wpAny_pyNext_list_end (I.ok.hd hc) st p.isList (by simp;omega) fun h' eb=>⟨rfl,I.turned (t':=s.toks) (fun b o hb e=>eb b o hb e) f0 f1 f3 f4 f5⟩
 self:=fun _ _ _ _ _ st h=>wpAny_pyIter_listiter st h
theorem oV {P:Program} {w:World} {K:PySem.W.Frag} {tg:Expr} (it:Addr) (lo:Int) (n:Nat):fZ P w K tg (Itr lo n) [it] it (fun i h=>IsRangeIter h it (lo + (i:Nat) * 1) ((n:Int) - (i:Nat)) 1) where
 mem:=by simp
 obj:=fun i h st b hb=>by
  have e:b=it:=by simpa using hb
  subst e
  exact ⟨_,st,fun v z=>by
   have z':Data.fields _=Data.cell v:=z
   cases z'⟩
 keep:=fun i h h' st k=>k it (by simp) _ st
 item:=by
  intro X hP hw hK hc i qp s σ H E I hf st hg
  subst hP hw hK
  obtain ⟨f0,f1,f2,f3,f4,f5⟩:=hf it (by simp)
  have W:=Walks.range (prog:=X.prog) (w:=X.w) (I.ok.hd hc) it lo 1 n
  refine W.item i s _ _ hg st fun v h' tk hv st' kk=>?_
  obtain ⟨t,rfl⟩:=hv
  have I1:Inv X qp σ H { s with heap:=h',toks:=tk }:=I.turned (fun b o hb e=>kk b o (by simpa using hb) e) f0 f1 f3 f4 f5
  refine ⟨_,rfl,kE (s:={ s with heap:=h',toks:=tk }) (n:="range_iterator") st' rfl rfl (by decide) ⟨.int (lo + i),H,I1,⟨t,?_⟩,⟨rfl,rfl⟩,st',fun b hb=>(hf b hb).1⟩⟩
  rw [Int.mul_one]
 done:=by
  intro X hP hw hK hc i qp s σ H E I hf st hg
  subst hP hw hK
  obtain ⟨f0,f1,f2,f3,f4,f5⟩:=hf it (by simp)
  exact wpAny_pyNext_range_end (I.ok.hd hc) st (by have:n <= i:=hg;omega) fun h' eb=>⟨rfl,I.turned (t':=s.toks) (fun b o hb e=>eb b o hb e) f0 f1 f3 f4 f5⟩
 self:=fun _ _ _ _ _ st h=>wpAny_pyIter_rangeiter st h
section
variable {X:Cx} {tg:Expr}
def zB7 (K:W.Frag) (tl:TE):TI:=fun σ H R=>tl σ H fun x H1=>∃ a,x=.ref a/\(∃ xs,SqL K H1 a xs)/\R (Itl K a) H1
theorem wF {l:Expr} {tl:TE} (hl:PE X l tl):PI X tg l (zB7 X.K tl):=by
 intro qp s σ H R I h
 refine thn (hl qp s σ H _ I h) fun v s1 hz16=>?_
 obtain ⟨x,H1,I1,r1,q1⟩:=hz16
 obtain ⟨a,e,⟨xs,hq⟩,q⟩:=q1
 subst e
 cases r1
 obtain ⟨its,rv,p,hz⟩:=I1.list hq
 refine wpAny_pyIter_list p.isList ?_
 refine ⟨s1.heap.objs.size,[s1.heap.objs.size],_,_,H1,rfl,I1.kept (t':=s1.toks) fun b o e=>Heap.get?_push_of_some _ e,kR a _,⟨_,Heap.get?_push_size _ rfl,rfl,rfl⟩,fun b hb=>?_,q⟩
 have e:b=s1.heap.objs.size:=by simpa using hb
 subst e
 exact I1.fpOk (zCX _) (I1.hok.fresh (zCX _))
theorem pU {qp:LAO} {σ:St} {H:Hp} {s:Shared} {R:It->Hp->Prop} {E:VSP} {lo hi:Int} {t u v:Tok} {tk:Nat} (I:Inv X qp σ H s) (h1:-(2 ^ 62) <= lo) (h2:lo < 2 ^ 62) (h3:-(2 ^ 62) <= hi) (h4:hi < 2 ^ 62)
  (q:R (Itr lo (hi - lo).toNat) H):wpAny (model X.prog X.w) X.A (pyIter (.ref s.heap.objs.size)) (PIE X qp σ tg R) E { s with heap:=s.heap.push { cls:=.type "range",data:=.fields #[.int lo t,.int hi u,.int 1 v] },toks:=tk }:=by
 refine wpAny_pyIter_range (IsRange.new ..) (small_one h1 h2 h3 h4) ?_
 have I1:Inv X qp σ H { s with heap:=s.heap.push { cls:=.type "range",data:=.fields #[.int lo t,.int hi u,.int 1 v] },toks:=tk }:=I.kept fun b o e=>Heap.get?_push_of_some _ e
 refine ⟨(s.heap.push { cls:=.type "range",data:=.fields #[.int lo t,.int hi u,.int 1 v] }).objs.size,[(s.heap.push { cls:=.type "range",data:=.fields #[.int lo t,.int hi u,.int 1 v] }).objs.size],_,_,H,rfl,
  I1.kept (t':=tk) fun b o e=>Heap.get?_push_of_some _ e,oV _ lo (hi - lo).toNat,?_,fun b hb=>?_,q⟩
 ·have e1:lo + ((0:Nat):Int) * 1=lo:=by simp
  have e2:(((hi - lo).toNat:Nat):Int) - ((0:Nat):Int)=Builtin.Range.rangeSize lo hi 1:=by rw [rangeSize_one];split <;> omega
  show IsRangeIter _ _ (lo + ((0:Nat):Int) * 1) ((((hi - lo).toNat:Nat):Int) - ((0:Nat):Int)) 1
  rw [e1,e2]
  exact Heap.get?_push_size _ rfl
 ·have e:b=(s.heap.push { cls:=.type "range",data:=.fields #[.int lo t,.int hi u,.int 1 v] }).objs.size:=by simpa using hb
  subst e
  exact I1.fpOk (zCX _) (I1.hok.fresh (zCX _))
def zB6 (ta:TA):TI:=fun σ H R=>ta σ H fun vs H1=>∃ j:Int,vs=[.int j]/\-(2 ^ 62) <= j/\j < 2 ^ 62/\R (Itr 0 j.toNat) H1
def zB5 (ta:TA):TI:=fun σ H R=>ta σ H fun vs H1=>∃ i j:Int,vs=[.int i,.int j]/\(-(2 ^ 62) <= i/\i < 2 ^ 62/\-(2 ^ 62) <= j/\j < 2 ^ 62)/\R (Itr i (j - i).toNat) H1
theorem uY {a:Expr} {ta:TA} {p pos:Pos} (hg:Gl X "range") (hm:X.mg "range"=none) (ha:PA X [a] ta) (hs:starEach [a] X.env=[(false,eval a X.env)]:=by rfl):PI X tg (.Call (.Name "range" p) [a] [] pos) (zB6 ta):=by
 intro qp s σ H R I h
 refine Call_ (sM I hg hm boot_range (PyProof.Rows.callWith_type1 (thn (ha pos qp s σ H _ I h) fun us s1 hz17=>?_) hs rfl))
 obtain ⟨vs,H1,I1,r1,q1⟩:=hz17
 obtain ⟨j,e,q1,q2,q⟩:=q1
 subst e
 cases r1 with
 | cons r rr=>
  cases rr
  obtain ⟨t,rfl⟩:=r
  exact call_range_1 (pU I1 (by omega) (by omega) q1 q2 (by simpa using q))
theorem uX {a b:Expr} {ta:TA} {p pos:Pos} (hg:Gl X "range") (hm:X.mg "range"=none) (ha:PA X [a,b] ta) (hs:starEach [a,b] X.env=[(false,eval a X.env),(false,eval b X.env)]:=by rfl) (hs2:starEach [b] X.env=[(false,eval b X.env)]:=by rfl) :
  PI X tg (.Call (.Name "range" p) [a,b] [] pos) (zB5 ta):=by
 intro qp s σ H R I h
 refine Call_ (sM I hg hm boot_range (PyProof.Rows.callWith_type1 (thn (ha pos qp s σ H _ I h) fun us s1 hz18=>?_) (by rw [hs,hs2]) (by rw [hs2];rfl)))
 obtain ⟨vs,H1,I1,r1,q1⟩:=hz18
 obtain ⟨i,j,e,⟨q1,q2,q3,q4⟩,q⟩:=q1
 subst e
 cases r1 with
 | cons r rr=>
  cases rr with
  | cons r' rr=>
   cases rr
   obtain ⟨t,rfl⟩:=r
   obtain ⟨t',rfl⟩:=r'
   exact call_range_2 (pU I1 q1 q2 q3 q4 q)
def tFor (wi:TI) (g:TG) (tb:TS):TS:=fun D σ H=>wi σ H fun J H1=>∃ W:Nat->Nat->St->Hp->Prop,(∃ m,W 0 m σ H1)/\∀ i m σ H,W i m σ H ->
 (J.stop i H/\D.nx σ H) \/ (J.go i H/\∃ N:St->Hp->Prop,(∀ σ' H',N σ' H'->∃ m',m' < m/\W (i + 1) m' σ' H')/\∀ x H',J.yld i H x H'->g x σ H' fun σ2 H2=>tb { D with nx:=N,ct:=N,bk:=D.nx } σ2 H2)
def sG (fp:List Addr) (h:Heap):LAO:=fp.filterMap fun b=>(h.get? b).map fun o=>(b,o)
theorem vA {fp:List Addr} {h:Heap} {b:Addr} {o:Obj} (hb:b ∈ fp) (e:h.get? b=some o):(b,o) ∈ sG fp h:=List.mem_filterMap.mpr ⟨b,hb,by rw [e];rfl⟩
theorem jK {fp:List Addr} {h:Heap} {p:Addr × Obj} (hp:p ∈ sG fp h):p.1 ∈ fp/\h.get? p.1=some p.2:=by
 obtain ⟨b,hb,e⟩:=List.mem_filterMap.mp hp
 cases q:h.get? b with
 | none=>rw [q] at e;cases e
 | some o=>
  rw [q] at e
  have e':(b,o)=p:=zCV e
  subst e'
  exact ⟨hb,q⟩
theorem Inv.pinned {qp:LAO} {σ:St} {H:Hp} {s:Shared} {fp:List Addr} (I:Inv X qp σ H s) (hf:∀ b ∈ fp,tF X qp H b) (ho:∀ b ∈ fp,∃ o,s.heap.get? b=some o/\∀ v,o.data ≠ .cell v):Inv X (qp ++ sG fp s.heap) σ H s:=
 I.pins_of fun p hp=>(zC5.mp hp).elim (fun z=>I.pin p (zC2 _ z)) fun z=>by
  obtain ⟨hb,e⟩:=jK z
  obtain ⟨f0,f1,f2,_⟩:=hf p.1 hb
  obtain ⟨o,e',d⟩:=ho p.1 hb
  rw [e] at e';cases e'
  exact ⟨e,f0,f1,f2,d⟩
theorem Inv.unpinned {qp pl:LAO} {σ:St} {H:Hp} {s:Shared} (I:Inv X (qp ++ pl) σ H s):Inv X qp σ H s:=I.pins_of fun p hp=>I.pin p (zC2 _ (List.mem_append_left _ hp))
theorem wM {iter:Expr} {body:List Stmt} {wi:TI} {g:TG} {tb:TS} {pos:Pos} (hp:PassesOwn (model X.prog X.w) X.A X.env X.xe) (hc:X.calm=true) (hi:PI X tg iter wi) (hg:PG X tg g) (hb:PSs X body tb)
  (hs:∀ x,foldedSetIterable iter X.env x=pure x:=by intro _;rfl):PS X (.For tg iter body [] pos) (tFor wi g tb):=by
 intro qp s σ H D I h
 refine wpAny_For (thn (hi qp s σ H _ I h) fun v s1 h1=>thn h1 fun itv s2 h2=>?_) hs
 obtain ⟨it,fp,tn,J,H2,e,I2,T,st2,f2,W,⟨m0,w0⟩,turn⟩:=h2
 subst e
 have stat:∀ {H':Hp},(∀ b ∈ fp,H' b=none)->∀ b ∈ fp,tF X qp H' b:=fun hn b hb=>⟨hn b hb,(f2 b hb).2⟩
 refine codeAny_forLoop_any (fun n s'=>∃ i σ' H',Inv X qp σ' H' s'/\tn i s'.heap/\(∀ b ∈ fp,H' b=none)/\W i n σ' H') ?_ m0 ⟨0,σ,H2,I2,st2,fun b hb=>(f2 b hb).1,w0⟩
 rintro n s3 ⟨i,σ3,H3,I3,st3,fr3,w3⟩
 rcases turn i n σ3 H3 w3 with ⟨stop,qn⟩ | ⟨go,N,hN,step⟩
 ·refine wpAny_passesOwn hp (thn (T.done X rfl rfl rfl hc i qp s3 σ3 H3 X.xe I3 (stat fr3) st3 stop) fun r s4 ⟨hr,I4⟩=>?_)
  subst hr
  exact wpAny_execs_nil ⟨σ3,H3,I4,qn⟩
 ·refine wpAny_passesOwn hp (thn (T.item X rfl rfl rfl hc i qp s3 σ3 H3 X.xe I3 (stat fr3) st3 go) fun r s4 ⟨u,hr,h4⟩=>?_)
  subst hr
  refine wpAny_passesOwn hp (thn h4 fun _ s5 hz19=>?_)
  obtain ⟨x,H5,I5,r5,y5,st5,fr5⟩:=hz19
  have I5':=I5.pinned (stat fr5) (T.obj _ _ st5)
  refine wpAny_passesOwn hp (thn (hg _ s5 σ3 H5 x u _ I5' r5 (step x H5 y5)) fun _ s6 hz20=>?_)
  obtain ⟨σ6,H6,I6,q6⟩:=hz20
  refine wpAny_passesOwn hp (thn (hb _ s6 σ6 H6 _ I6 q6) fun f s7 q7=>?_)
  have again:∀ {σ7:St} {H7:Hp},Inv X (qp ++ sG fp s5.heap) σ7 H7 s7->N σ7 H7->∃ m,m < n/\∃ i σ' H',Inv X qp σ' H' s7/\tn i s7.heap/\(∀ b ∈ fp,H' b=none)/\W i m σ' H':=fun {σ7 H7} I7 n7=>by
   obtain ⟨m',hm,w7⟩:=hN σ7 H7 n7
   refine ⟨m',hm,i + 1,σ7,H7,I7.unpinned,T.keep _ _ _ st5 fun b hb o e=>(I7.pin (b,o) (zC2 _ (zC2 _ (vA hb e)))).1,fun b hb=>?_,w7⟩
   obtain ⟨o,e,d⟩:=T.obj _ _ st5 b hb
   exact (I7.pin (b,o) (zC2 _ (zC2 _ (vA hb e)))).2.1
  cases f with
  | next=>obtain ⟨σ7,H7,I7,n7⟩:=q7;exact again I7 n7
  | cont=>obtain ⟨σ7,H7,I7,n7⟩:=q7;exact again I7 n7
  | brk=>obtain ⟨σ7,H7,I7,q7⟩:=q7;exact ⟨σ7,H7,I7.unpinned,q7⟩
  | ret v=>obtain ⟨x7,σ7,H7,I7,r7,q7⟩:=q7;exact ⟨x7,σ7,H7,I7.unpinned,r7,q7⟩
end
theorem uL {K:PySem.W.Frag} {a:Addr} {xs:List V} {g:TG} {tb:TS} {D:tQ} {σ:St} {H:Hp} (Pv:Nat->St->Hp->Prop) (h0:Pv 0 σ H) (hl:∀ i σ H,i <= xs.length->Pv i σ H->SqL K H a xs)
  (hs:∀ i x σ H,xs[i]?=some x->Pv i σ H->g x σ H fun σ2 H2=>tb { D with nx:=Pv (i + 1),ct:=Pv (i + 1),bk:=D.nx } σ2 H2) (hd:∀ σ H,Pv xs.length σ H->D.nx σ H) :
  ∃ W:Nat->Nat->St->Hp->Prop,(∃ m,W 0 m σ H)/\∀ i m σ H,W i m σ H ->
   ((Itl K a).stop i H/\D.nx σ H) \/ ((Itl K a).go i H/\∃ N:St->Hp->Prop,(∀ σ' H',N σ' H'->∃ m',m' < m/\W (i + 1) m' σ' H')/\∀ x H',(Itl K a).yld i H x H'->g x σ H' fun σ2 H2=>tb { D with nx:=N,ct:=N,bk:=D.nx } σ2 H2):=by
 refine ⟨fun i m σ H=>m=xs.length - i/\i <= xs.length/\Pv i σ H,⟨xs.length,by simp,zCY _,h0⟩,?_⟩
 rintro i m σ H ⟨rfl,hi,p⟩
 have q:=hl i σ H hi p
 by_cases hlt:i < xs.length
 ·refine .inr ⟨⟨xs,xs[i],q,by simp [hlt]⟩,Pv (i + 1),fun σ' H' p'=>⟨xs.length - (i + 1),by omega,rfl,hlt,p'⟩,fun x H' y=>?_⟩
  obtain ⟨e,y⟩:=y
  subst e
  exact hs i x σ _ (y xs q) p
 ·have e:i=xs.length:=by omega
  subst e
  exact .inl ⟨⟨xs,q,zCX _⟩,hd σ H p⟩
theorem rO {lo:Int} {n:Nat} {g:TG} {tb:TS} {D:tQ} {σ:St} {H:Hp} (Pv:Nat->St->Hp->Prop) (h0:Pv 0 σ H)
  (hs:∀ i σ H,i < n->Pv i σ H->g (.int (lo + i)) σ H fun σ2 H2=>tb { D with nx:=Pv (i + 1),ct:=Pv (i + 1),bk:=D.nx } σ2 H2) (hd:∀ σ H,Pv n σ H->D.nx σ H) :
  ∃ W:Nat->Nat->St->Hp->Prop,(∃ m,W 0 m σ H)/\∀ i m σ H,W i m σ H ->
   ((Itr lo n).stop i H/\D.nx σ H) \/ ((Itr lo n).go i H/\∃ N:St->Hp->Prop,(∀ σ' H',N σ' H'->∃ m',m' < m/\W (i + 1) m' σ' H')/\∀ x H',(Itr lo n).yld i H x H'->g x σ H' fun σ2 H2=>tb { D with nx:=N,ct:=N,bk:=D.nx } σ2 H2):=by
 refine ⟨fun i m σ H=>m=n - i/\i <= n/\Pv i σ H,⟨n,by simp,zCY _,h0⟩,?_⟩
 rintro i m σ H ⟨rfl,hi,p⟩
 by_cases hlt:i < n
 ·refine .inr ⟨hlt,Pv (i + 1),fun σ' H' p'=>⟨n - (i + 1),by omega,rfl,hlt,p'⟩,fun x H' y=>?_⟩
  obtain ⟨e,y⟩:=y
  subst e y
  exact hs i σ _ hlt p
 ·have e:i=n:=by omega
  subst e
  exact .inl ⟨zCX _,hd σ H p⟩
abbrev R2:=V->V->Hp->VK->Prop
def OpR (X:Cx) (f:Value->Value->Sem Value) (r:R2):Prop:=
 ∀ (qp:LAO) (s:Shared) (σ:St) (H:Hp) (x y:V) (v u:Value) (Q:VK),Inv X qp σ H s->zX x v->zX y u->r x y H Q ->
  wpAny (model X.prog X.w) X.A (f v u) (EP X qp σ Q) X.xe s
def UnR (X:Cx) (f:Value->Sem Value) (r:V->Hp->VK->Prop):Prop:=
 ∀ (qp:LAO) (s:Shared) (σ:St) (H:Hp) (x:V) (v:Value) (Q:VK),Inv X qp σ H s->zX x v->r x H Q ->
  wpAny (model X.prog X.w) X.A (f v) (EP X qp σ Q) X.xe s
def uS (X:Cx) (f:Value) (r:List V->Hp->VK->Prop):Prop:=
 ∀ (qp:LAO) (s:Shared) (σ:St) (H:Hp) (xs:List V) (us:List Value) (Q:VK),Inv X qp σ H s->zS xs us->r xs H Q ->
  wpAny (model X.prog X.w) X.A (call f us) (EP X qp σ Q) X.xe s
def TruR (X:Cx) (r:V->Hp->(Bool->Hp->Prop)->Prop):Prop:=
 ∀ (qp:LAO) (s:Shared) (σ:St) (H:Hp) (x:V) (v:Value) (Q:Bool->Hp->Prop),Inv X qp σ H s->zX x v->r x H Q ->
  wpAny (model X.prog X.w) X.A (truthy v) (TP X qp σ Q) X.xe s
def tOp (r:R2) (ta tb:TE):TE:=fun σ H Q=>ta σ H fun x H1=>tb σ H1 fun y H2=>r x y H2 Q
def tUn (r:V->Hp->VK->Prop) (ta:TE):TE:=fun σ H Q=>ta σ H fun x H1=>r x H1 Q
def rI (C:Int->Int->Prop) (g:Int->Int->V):R2:=fun x y H Q=>∃ i j,x=.int i/\y=.int j/\C i j/\Q (g i j) H
def rI0 (g:Int->Int->V):R2:=fun x y H Q=>∃ i j,x=.int i/\y=.int j/\Q (g i j) H
def rU (g:Int->V):V->Hp->VK->Prop:=fun x H Q=>∃ i,x=.int i/\Q (g i) H
section
variable {X:Cx} {a b c:Expr} {ta tb tc:TE} {pos:Pos}
theorem zAW (ha:PE X a ta) (hb:PE X b tb) {qp:LAO} {s:Shared} {σ:St} {H:Hp} {R:V->V->Hp->Prop} (I:Inv X qp σ H s)
  (h:ta σ H fun x H1=>tb σ H1 fun y H2=>R x y H2) {Q:VSP} {f:Value->Value->Sem Value}
  (hf:∀ v u s2 x y H2,Inv X qp σ H2 s2->zX x v->zX y u->R x y H2->wpAny (model X.prog X.w) X.A (f v u) Q X.xe s2) :
  wpAny (model X.prog X.w) X.A (eval a X.env) (fun v s₁=>wpAny (model X.prog X.w) X.A (eval b X.env) (fun u s₂=>wpAny (model X.prog X.w) X.A (f v u) Q X.xe s₂) X.xe s₁) X.xe s:=by
 refine thn (ha qp s σ H _ I h) fun v s1 hz21=>?_
 obtain ⟨x,H1,I1,r1,q1⟩:=hz21
 refine thn (hb qp s1 σ H1 _ I1 q1) fun u s2 hz22=>?_
 obtain ⟨y,H2,I2,r2,q2⟩:=hz22
 exact hf v u s2 x y H2 I2 r1 r2 q2
theorem z5 {op:Operator} {r:R2} (ho:OpR X (binaryOp op) r) (ha:PE X a ta) (hb:PE X b tb):PE X (.BinOp a op b pos) (tOp r ta tb):=by
 intro qp s σ H Q I h
 exact wpAny_BinOp (zAW ha hb I h fun v u s2 x y H2 I2 rx ry q=>ho qp s2 σ H2 x y v u Q I2 rx ry q)
theorem rK {op:UnaryOp} {r:V->Hp->VK->Prop} (ho:UnR X (unaryOp op) r) (ha:PE X a ta):PE X (.UnaryOp op a pos) (tUn r ta):=by
 intro qp s σ H Q I h
 exact UnaryOp_ (thn (ha qp s σ H _ I h) fun v s1 ⟨x,H1,I1,r1,q1⟩=>ho qp s1 σ H1 x v Q I1 r1 q1)
theorem opI {f:Value->Value->Sem Value} {C:Int->Int->Prop} {g:Int->Int->Int}
  (rule:∀ (i j:Int) (t u:Tok) (s:Shared) (Q:VSP) (E:VSP),C i j->Q (.int (g i j) s.toks) { s with toks:=s.toks + 1 }->wpAny (model X.prog X.w) X.A (f (.int i t) (.int j u)) Q E s) :
  OpR X f (rI C fun i j=>.int (g i j)):=by
 intro qp s σ H x y v u Q I rx ry h
 obtain ⟨i,j,rfl,rfl,hc,q⟩:=h
 obtain ⟨t,rfl⟩:=rx
 obtain ⟨t',rfl⟩:=ry
 exact rule i j t t' s _ _ hc ⟨.int (g i j),H,I.tok _,⟨_,rfl⟩,q⟩
theorem zBZ {f:Value->Value->Sem Value} {g:Int->Int->Int}
  (rule:∀ (i j:Int) (t u:Tok) (s:Shared) (Q:VSP) (E:VSP),Q (.int (g i j) s.toks) { s with toks:=s.toks + 1 }->wpAny (model X.prog X.w) X.A (f (.int i t) (.int j u)) Q E s) :
  OpR X f (rI0 fun i j=>.int (g i j)):=by
 intro qp s σ H x y v u Q I rx ry h
 obtain ⟨i,j,rfl,rfl,q⟩:=h
 obtain ⟨t,rfl⟩:=rx
 obtain ⟨t',rfl⟩:=ry
 exact rule i j t t' s _ _ ⟨.int (g i j),H,I.tok _,⟨_,rfl⟩,q⟩
theorem aW {f:Value->Value->Sem Value} {g:Int->Int->Bool}
  (rule:∀ (i j:Int) (t u:Tok) (s:Shared) (Q:VSP) (E:VSP),Q (.bool (g i j)) s->wpAny (model X.prog X.w) X.A (f (.int i t) (.int j u)) Q E s) :
  OpR X f (rI0 fun i j=>.bl (g i j)):=by
 intro qp s σ H x y v u Q I rx ry h
 obtain ⟨i,j,rfl,rfl,q⟩:=h
 obtain ⟨t,rfl⟩:=rx
 obtain ⟨t',rfl⟩:=ry
 exact rule i j t t' s _ _ ⟨.bl (g i j),H,I,rfl,q⟩
def cV (i j:Int):Prop:=0 < j/\j < 1073741824
def jY (i j:Int):Prop:=(-(2 ^ 64) < i/\i < 2 ^ 64) \/ (-(2 ^ 64) < j/\j < 2 ^ 64)
theorem jY.ok {i j:Int} (h:jY i j):IntMulOk i j:=by
 rcases h with ⟨h1,h2⟩ | ⟨h1,h2⟩
 ·exact .of_left (intBits_le_64 h1 h2)
 ·exact .of_right (intBits_le_64 h1 h2)
theorem xR:OpR X (binaryOp .Add) (rI0 fun i j=>.int (i + j)):=zBZ fun _ _ _ _ _ _ _ q=>add_int q
theorem aS:OpR X (binaryOp .Sub) (rI0 fun i j=>.int (i - j)):=zBZ fun _ _ _ _ _ _ _ q=>sub_int q
theorem uZ:OpR X (binaryOp .Mult) (rI jY fun i j=>.int (i * j)):=opI fun _ _ _ _ _ _ _ hc q=>mul_int q hc.ok
theorem t8:OpR X (binaryOp .FloorDiv) (rI cV fun i j=>.int (i / j)):=opI fun i j _ _ _ _ _ hc q=>by
 have h1:(0:Int) < j:=hc.1
 have h2:j < 1073741824:=hc.2
 exact floordiv_int (by omega) (by rw [Int.fdiv_eq_ediv_of_nonneg i (by omega)];exact q) (.inl (PyProof.noPylong_small (by omega)))
theorem wN:OpR X (binaryOp .Mod) (rI (fun _ j=>0 < j) fun i j=>.int (i % j)):=opI fun i j _ _ _ _ _ hc q=>by
 have h1:(0:Int) < j:=hc
 exact mod_int' (by omega) (by rw [Int.fmod_eq_emod_of_nonneg i (by omega)];exact q)
theorem unI {f:Value->Sem Value} {g:Int->Int}
  (rule:∀ (i:Int) (t:Tok) (s:Shared) (Q:VSP) (E:VSP),Q (.int (g i) s.toks) { s with toks:=s.toks + 1 }->wpAny (model X.prog X.w) X.A (f (.int i t)) Q E s) :
  UnR X f (rU fun i=>.int (g i)):=by
 intro qp s σ H x v Q I rx h
 obtain ⟨i,rfl,q⟩:=h
 obtain ⟨t,rfl⟩:=rx
 exact rule i t s _ _ ⟨.int (g i),H,I.tok _,⟨_,rfl⟩,q⟩
theorem uT:UnR X (unaryOp .USub) (rU fun i=>.int (-i)):=unI fun _ _ _ _ _ q=>neg_int q
end
def eS:V->V->Bool
 | .non,.non=>true | .non,.int _=>true | .int _,.non=>true | .non,.bl _=>true | .bl _,.non=>true | .non,.str _=>true | .str _,.non=>true
 | .int _,.int _=>true | .bl _,.bl _=>true | .str _,.str _=>true | .byt _,.byt _=>true
 | .int _,.str _=>true | .str _,.int _=>true | .bl _,.str _=>true | .str _,.bl _=>true
 | _,_=>false
def rEq:R2:=fun x y H Q=>eS x y=true/\Q (.bl (decide (x=y))) H
def rNe:R2:=fun x y H Q=>eS x y=true/\Q (.bl (!decide (x=y))) H
theorem kM {i j:Int}:decide (V.int i=V.int j)=(i == j):=by
 rw [Bool.eq_iff_iff]
 simp
theorem fH {i j:Bool}:decide (V.bl i=V.bl j)=(i == j):=by
 rw [Bool.eq_iff_iff]
 simp
theorem kK {i j:Str}:decide (V.str i=V.str j)=(i == j):=by
 rw [Bool.eq_iff_iff]
 simp
theorem kO {i j:Array UInt8}:decide (V.byt i=V.byt j)=(i.toList == j.toList):=by
 rw [Bool.eq_iff_iff]
 cases i
 cases j
 simp
section
variable {X:Cx} {a b c:Expr} {ta tb tc:TE} {pos:Pos}
theorem z4 {qp:LAO} {σ:St} {H:Hp} {s:Shared} {Q:VK} {k k':Bool} (I:Inv X qp σ H s) (q:Q (.bl k) H) (e:k=k'):EP X qp σ Q (.bool k') s:=by
 subst e
 exact ⟨.bl k,H,I,rfl,q⟩
theorem wY:OpR X (compareOp .Eq) rEq:=by
 intro qp s σ H x y v u Q I rx ry h
 obtain ⟨hs,q⟩:=h
 cases x with
 | non=>
  cases rx
  cases y with
  | non=>cases ry;exact PySem.EqNone.eq_none_none (z4 I q (by simp))
  | bl j=>cases ry;exact PySem.EqNone.eq_none_bool (z4 I q (by simp))
  | int j=>obtain ⟨t',rfl⟩:=ry;exact PySem.EqNone.eq_none_int (z4 I q (by simp))
  | str j=>obtain ⟨t',rfl⟩:=ry;exact PySem.EqNone.eq_none_str (z4 I q (by simp))
  | _=>exact absurd (show false=true from hs) zDG
 | bl i=>
  cases rx
  cases y with
  | non=>cases ry;exact PySem.EqNone.eq_bool_none (z4 I q (by simp))
  | bl j=>cases ry;exact eq_bool (z4 I q fH)
  | str j=>obtain ⟨t',rfl⟩:=ry;exact PySem.EqMixed.eq_bool_str (z4 I q (by simp))
  | _=>exact absurd (show false=true from hs) zDG
 | int i=>
  obtain ⟨t,rfl⟩:=rx
  cases y with
  | non=>cases ry;exact PySem.EqNone.eq_int_none (z4 I q (by simp))
  | int j=>obtain ⟨t',rfl⟩:=ry;exact eq_int (z4 I q kM)
  | str j=>obtain ⟨t',rfl⟩:=ry;exact PySem.EqMixed.eq_int_str (z4 I q (by simp))
  | _=>exact absurd (show false=true from hs) zDG
 | str i=>
  obtain ⟨t,rfl⟩:=rx
  cases y with
  | non=>cases ry;exact PySem.EqNone.eq_str_none (z4 I q (by simp))
  | bl j=>cases ry;exact PySem.EqMixed.eq_str_bool (z4 I q (by simp))
  | int j=>obtain ⟨t',rfl⟩:=ry;exact PySem.EqMixed.eq_str_int (z4 I q (by simp))
  | str j=>obtain ⟨t',rfl⟩:=ry;exact eq_str (z4 I q kK)
  | _=>exact absurd (show false=true from hs) zDG
 | byt i=>
  obtain ⟨t,rfl⟩:=rx
  cases y with
  | byt j=>obtain ⟨t',rfl⟩:=ry;exact W.eq_bytes (z4 I q kO)
  | _=>exact absurd (show false=true from hs) zDG
 | _=>cases y <;> exact absurd (show false=true from hs) zDG
theorem sK:OpR X (compareOp .NotEq) rNe:=by
 intro qp s σ H x y v u Q I rx ry h
 obtain ⟨hs,q⟩:=h
 cases x with
 | non=>
  cases rx
  cases y with
  | non=>cases ry;exact PySem.EqNone.ne_none_none (z4 I q (by simp))
  | bl j=>cases ry;exact PySem.EqNone.ne_none_bool (z4 I q (by simp))
  | int j=>obtain ⟨t',rfl⟩:=ry;exact PySem.EqNone.ne_none_int (z4 I q (by simp))
  | str j=>obtain ⟨t',rfl⟩:=ry;exact PySem.EqNone.ne_none_str (z4 I q (by simp))
  | _=>exact absurd (show false=true from hs) zDG
 | bl i=>
  cases rx
  cases y with
  | non=>cases ry;exact PySem.EqNone.ne_bool_none (z4 I q (by simp))
  | bl j=>cases ry;exact ne_bool (z4 I q (congrArg not fH))
  | str j=>obtain ⟨t',rfl⟩:=ry;exact PySem.EqMixed.ne_bool_str (z4 I q (by simp))
  | _=>exact absurd (show false=true from hs) zDG
 | int i=>
  obtain ⟨t,rfl⟩:=rx
  cases y with
  | non=>cases ry;exact PySem.EqNone.ne_int_none (z4 I q (by simp))
  | int j=>obtain ⟨t',rfl⟩:=ry;exact ne_int (z4 I q (congrArg not kM))
  | str j=>obtain ⟨t',rfl⟩:=ry;exact PySem.EqMixed.ne_int_str (z4 I q (by simp))
  | _=>exact absurd (show false=true from hs) zDG
 | str i=>
  obtain ⟨t,rfl⟩:=rx
  cases y with
  | non=>cases ry;exact PySem.EqNone.ne_str_none (z4 I q (by simp))
  | bl j=>cases ry;exact PySem.EqMixed.ne_str_bool (z4 I q (by simp))
  | int j=>obtain ⟨t',rfl⟩:=ry;exact PySem.EqMixed.ne_str_int (z4 I q (by simp))
  | str j=>obtain ⟨t',rfl⟩:=ry;exact ne_str (z4 I q (congrArg not kK))
  | _=>exact absurd (show false=true from hs) zDG
 | byt i=>
  obtain ⟨t,rfl⟩:=rx
  cases y with
  | byt j=>obtain ⟨t',rfl⟩:=ry;exact W.ne_bytes (z4 I q (congrArg not kO))
  | _=>exact absurd (show false=true from hs) zDG
 | _=>cases y <;> exact absurd (show false=true from hs) zDG
theorem zBY:OpR X (compareOp .Lt) (rI0 fun i j=>.bl (decide (i < j))):=aW fun _ _ _ _ _ _ _ q=>lt_int q
theorem bM:OpR X (compareOp .LtE) (rI0 fun i j=>.bl (decide (i <= j))):=aW fun _ _ _ _ _ _ _ q=>le_int q
theorem hR:OpR X (compareOp .Gt) (rI0 fun i j=>.bl (decide (j < i))):=aW fun _ _ _ _ _ _ _ q=>gt_int q
theorem jJ:OpR X (compareOp .In) (fun x y H Q=>∃ i j,x=.str i/\y=.str j/\Q (.bl (!(Builtin.Str.occurrences j i 0 j.length 1).isEmpty)) H):=by
 intro qp s σ H x y v u Q I rx ry h
 obtain ⟨i,j,rfl,rfl,q⟩:=h
 obtain ⟨t,rfl⟩:=rx
 obtain ⟨t',rfl⟩:=ry
 exact in_str (z4 I q rfl)
theorem u2:OpR X (compareOp .Is) (fun x y H Q=>y=.non/\Q (.bl (decide (x=.non))) H):=by
 intro qp s σ H x y v u Q I rx ry h
 obtain ⟨rfl,q⟩:=h
 cases ry
 refine is_none_gen (z4 I q ?_)
 cases x <;> first
  | (cases rx;rfl)
  | (obtain ⟨t,rfl⟩:=rx;rfl)
theorem vL:OpR X (compareOp .IsNot) (fun x y H Q=>y=.non/\Q (.bl (!decide (x=.non))) H):=by
 intro qp s σ H x y v u Q I rx ry h
 obtain ⟨rfl,q⟩:=h
 cases ry
 refine isnot_none_gen (z4 I q ?_)
 cases x <;> first
  | (cases rx;rfl)
  | (obtain ⟨t,rfl⟩:=rx;rfl)
theorem zR (b:Expr) {op:CmpOp} (h:op ≠ .In:=by decide) (h2:op ≠ .NotIn:=by decide):behindInMarks op b=false:=by
 have e1:(op == CmpOp.In)=false:=by cases op <;> first | rfl | exact absurd rfl h
 have e2:(op == CmpOp.NotIn)=false:=by cases op <;> first | rfl | exact absurd rfl h2
 cases b <;> simp [behindInMarks,e1,e2]
theorem xU {op:CmpOp} {r:R2} (ho:OpR X (compareOp op) r) (ha:PE X a ta) (hb:PE X b tb) (hm:behindInMarks op b=false):PE X (.Compare a [op] [b] pos) (tOp r ta tb):=by
 intro qp s σ H Q I h
 exact wpAny_Compare1 (zAW ha hb I h fun v u s2 x y H2 I2 rx ry q=>ho qp s2 σ H2 x y v u Q I2 rx ry q) hm
def cX (t:TE):TT:=fun σ H Q=>t σ H fun x H'=>∃ k,x=.bl k/\Q k H'
theorem zM {op:CmpOp} {r:R2} (ho:OpR X (compareOp op) r) (ha:PE X a ta) (hb:PE X b tb) (hm:behindInMarks op b=false):PT X (.Compare a [op] [b] pos) (cX (tOp r ta tb)):=by
 intro qp s σ H Q I h
 refine wpAny_isTrue_Compare1 (thn (ha qp s σ H _ I h) fun v s1 ⟨x,H1,I1,r1,q1⟩=>thn (hb qp s1 σ H1 _ I1 q1) fun u s2 ⟨y,H2,I2,r2,q2⟩=>
  thn (ho qp s2 σ H2 x y v u _ I2 r1 r2 q2) fun c s3 ⟨z,H3,I3,r3,k,e,q3⟩=>?_) hm
 subst e
 cases r3
 exact wpAny_truthy_bool ⟨H3,I3,q3⟩
def b6 (r r':R2) (ta tb tc:TE):TE:=fun σ H Q=>ta σ H fun x H1=>tb σ H1 fun y H2=>r x y H2 fun z H3=>∃ k,z=.bl k /\
 (if k=true then tc σ H3 fun w' H4=>r' y w' H4 Q else Q (.bl false) H3)
theorem hE {op op':CmpOp} {r r':R2} (ho:OpR X (compareOp op) r) (ho':OpR X (compareOp op') r') (ha:PE X a ta) (hb:PE X b tb) (hc:PE X c tc)
  (hm:lastMarks [op,op'] [b,c]=false:=by with_unfolding_all rfl):PE X (.Compare a [op,op'] [b,c] pos) (b6 r r' ta tb tc):=by
 intro qp s σ H Q I h
 refine Compare_chain (thn (ha qp s σ H _ I h) fun v s1 ⟨x,H1,I1,r1,q1⟩=>chain_link (thn (hb qp s1 σ H1 _ I1 q1) fun u s2 ⟨y,H2,I2,r2,q2⟩=>
  thn (ho qp s2 σ H2 x y v u _ I2 r1 r2 q2) fun d s3 ⟨z,H3,I3,r3,k,e,q3⟩=>?_)) hm
 subst e
 cases r3
 refine wpAny_truthy_bool ?_
 cases k with
 | false=>exact ite_ff ⟨.bl false,H3,I3,rfl,q3⟩
 | true=>exact ite_tt (chain_last (thn (hc qp s3 σ H3 _ I3 q3) fun w' s4 ⟨z',H4,I4,r4,q4⟩=>ho' qp s4 σ H4 y z' u w' Q I4 r2 r4 q4))
def zCL (K:W.Frag) (x:V) (H:Hp) (k:Bool):Prop:=
 match x with
 | .non=>k=false
 | .bl b=>k=b
 | .int i=>k=(i != 0)
 | .str y=>y.length <= sizeLine/\k=((y.length:Int) != 0)
 | .byt y=>y.size <= sizeLine/\k=((y.size:Int) != 0)
 | .ref p=>(∃ xs,SqL K H p xs/\k = !xs.isEmpty) \/ (∃ xs,SqT K H p xs/\k = !xs.isEmpty) \/ ∃ kvs,H p=some (.dK kvs)/\k = !kvs.isEmpty
 | _=>False
theorem n8 {κ:Type} {kvs:List (κ × V)} {vs:List (κ × Value)} (r:KV kvs vs):(!vs.isEmpty) = !kvs.isEmpty:=by
 cases r <;> rfl
theorem sO {xs:List V} {its:List Value} (r:zS xs its):(!its.toArray.isEmpty) = !xs.isEmpty:=by
 cases r <;> simp
theorem u5:(sizeLine:Nat) < 2 ^ 63:=by rw [sizeLine_eq];decide
theorem bW:TruR X (fun x H Q=>∃ k,zCL X.K x H k/\Q k H):=by
 intro qp s σ H x v Q I rx h
 obtain ⟨k,e,q⟩:=h
 have hl:=u5
 have hs:sizeLine=16777216:=sizeLine_eq
 cases x with
 | non=>
  cases rx
  have e':k=false:=e
  subst e'
  exact truthy_none ⟨H,I,q⟩
 | bl b=>
  cases rx
  have e':k=b:=e
  subst e'
  exact wpAny_truthy_bool ⟨H,I,q⟩
 | int i=>
  obtain ⟨t,rfl⟩:=rx
  have e':k=(i != 0):=e
  subst e'
  exact PySem.P.truthy_int ⟨H,I,q⟩
 | str y=>
  obtain ⟨t,rfl⟩:=rx
  obtain ⟨hy,e'⟩:y.length <= sizeLine/\k=((y.length:Int) != 0):=e
  subst e'
  exact PySem.P.truthy_str (by omega) ⟨H,I.tok _,q⟩
 | byt y=>
  obtain ⟨t,rfl⟩:=rx
  obtain ⟨hy,e'⟩:y.size <= sizeLine/\k=((y.size:Int) != 0):=e
  subst e'
  exact W.truthy_bytes (by omega) ⟨H,I.tok _,q⟩
 | ref p=>
  cases rx
  have e':(∃ xs,SqL X.K H p xs/\k = !xs.isEmpty) \/ (∃ xs,SqT X.K H p xs/\k = !xs.isEmpty) \/ ∃ kvs,H p=some (.dK kvs)/\k = !kvs.isEmpty:=e
  rcases e' with ⟨xs,hx,e'⟩ | ⟨xs,hx,e'⟩ | ⟨kvs,hx,e'⟩
  ·subst e'
   obtain ⟨its,r,pl,hz⟩:=I.list hx
   have hlen:=r.length
   exact wpAny_truthy_list pl.isList (by simp only [zCW];omega) ⟨H,I.tok _,by rw [sO r];exact q⟩
  ·subst e'
   obtain ⟨its,r,pl,hz⟩:=I.tuple hx
   have hlen:=r.length
   exact truthy_tuple pl (by simp only [zCW];omega) ⟨H,I.tok _,by rw [sO r];exact q⟩
  ·subst e'
   obtain ⟨hz,hS,vs,r,m⟩:kvs.length <= sizeLine/\(p == sysModules)=false/\∃ vs,KV kvs vs/\s.heap.DictOf (yP X.prog X.w) p vs:=I.hok p _ hx
   have hlen:kvs.length=vs.length:=Paired.length r
   exact wpAny_truthy_dict hS m (by omega) ⟨H,I.tok _,by rw [n8 r];exact q⟩
 | _=>exact (show False from e).elim
theorem iT (ha:PE X a ta) (he:∀ whole,isTrue a X.env whole=(do let v <- whole;standAt a.pos;holding [v] (truthy v))) :
  PT X a (fun σ H Q=>ta σ H fun x H'=>∃ k,zCL X.K x H' k/\Q k H'):=by
 intro qp s σ H Q I h
 exact isTrue_plain (thn (ha qp s σ H _ I h) fun v s1 ⟨x,H1,I1,r1,q1⟩=>bW qp s1 σ H1 x v Q I1 r1 q1) (he _)
theorem nO:OpR X (binaryOp .Add) (fun x y H Q=>∃ i j,x=.str i/\y=.str j/\i.length + j.length <= sizeLine/\Q (.str (i ++ j)) H):=by
 intro qp s σ H x y v u Q I rx ry h
 obtain ⟨i,j,rfl,rfl,hz,q⟩:=h
 obtain ⟨t,rfl⟩:=rx
 obtain ⟨t',rfl⟩:=ry
 exact add_str (fun t' tk=>⟨.str (i ++ j),H,I.tok _,⟨_,rfl⟩,q⟩) hz
theorem pK {x:V} {us:List Value} (r:zS [x] us):∃ u,us=[u]/\zX x u:=by
 cases r with
 | cons r1 r2=>cases r2;exact ⟨_,rfl,r1⟩
theorem vO:uS X (.type "int") (fun xs H Q=>(∃ i,xs=[.int i]/\Q (.int i) H) \/ ∃ k,xs=[.bl k]/\Q (.int (if k then 1 else 0)) H):=by
 intro qp s σ H xs us Q I r h
 rcases h with ⟨i,rfl,q⟩ | ⟨k,rfl,q⟩
 ·obtain ⟨u,rfl,t,rfl⟩:=pK r
  exact call_int_int ⟨.int i,H,I,⟨_,rfl⟩,q⟩
 ·obtain ⟨u,rfl,r1⟩:=pK r
  cases r1
  exact call_int_bool ⟨.int (if k then 1 else 0),H,I.tok _,⟨_,rfl⟩,q⟩
def LenV (K:W.Frag) (x:V) (H:Hp) (n:Nat):Prop:=
 match x with
 | .str y=>y.length <= sizeLine/\n=y.length
 | .byt y=>y.size <= sizeLine/\n=y.size
 | .ref p=>(∃ xs,SqL K H p xs/\n=xs.length) \/ ∃ xs,SqT K H p xs/\n=xs.length
 | _=>False
theorem wD:uS X (.builtin "len") (fun xs H Q=>∃ x n,xs=[x]/\LenV X.K x H n/\Q (.int n) H):=by
 intro qp s σ H xs us Q I r h
 obtain ⟨x,n,rfl,e,q⟩:=h
 obtain ⟨u,rfl,rx⟩:=pK r
 have hl:=u5
 have hs:sizeLine=16777216:=sizeLine_eq
 cases x with
 | str y=>
  obtain ⟨t,rfl⟩:=rx
  obtain ⟨hy,e'⟩:y.length <= sizeLine/\n=y.length:=e
  subst e'
  exact len_str (by omega) ⟨.int _,H,I.tok _,⟨_,rfl⟩,q⟩
 | byt y=>
  obtain ⟨t,rfl⟩:=rx
  obtain ⟨hy,e'⟩:y.size <= sizeLine/\n=y.size:=e
  subst e'
  exact W.len_bytes (by omega) ⟨.int _,H,I.tok _,⟨_,rfl⟩,q⟩
 | ref p=>
  cases rx
  have e':(∃ xs,SqL X.K H p xs/\n=xs.length) \/ ∃ xs,SqT X.K H p xs/\n=xs.length:=e
  rcases e' with ⟨xs,hx,e'⟩ | ⟨xs,hx,e'⟩
  ·subst e'
   obtain ⟨its,r',pl,hz⟩:=I.list hx
   have hlen:=r'.length
   exact Calls.call_len_list pl.isList (by simp only [zCW];omega) ⟨.int xs.length,H,I.tok _,⟨_,by simp only [zCW];rw [hlen]⟩,q⟩
  ·subst e'
   obtain ⟨its,r',pl,hz⟩:=I.tuple hx
   have hlen:=r'.length
   exact len_tuple pl (by simp only [zCW];omega) ⟨.int xs.length,H,I.tok _,⟨_,by simp only [zCW];rw [hlen]⟩,q⟩
 | _=>exact (show False from e).elim
end
structure mN (h:Heap) (x dx C:Addr) (mA:Str->Option Value):Prop where
 obj:h.get? x=some (W.instObj C dx)
 ns:h.Ns1 dx mA
 ne:dx ≠ x
theorem jN {h:Heap} {dx:Addr} {mA:Str->Option Value} (n:h.Ns1 dx mA):∃ od,h.get? dx=some od/\∀ name,W.lookIn name od=some (mA name):=by
 obtain ⟨o,es,ep,ho,hd,hk,_,hm⟩:=n
 refine ⟨o,ho,fun name=>?_⟩
 have e:=hm name
 unfold nsFind findBy at e
 rw [<- Array.find?_toList] at e
 unfold W.lookIn
 rw [hd]
 dsimp only
 split
 ·rename_i y q
  rw [q] at e
  exact congrArg some e
 ·rename_i q
  rw [q] at e
  have a:es.toList.any (·.refKey)=false:=by
   rw [List.any_eq_false]
   intro y hy
   obtain ⟨z,t,hkey⟩:=hk y (Array.mem_toList_iff.mp hy)
   simp [DictEntry.refKey,hkey]
  have a':¬ es.toList.any (·.refKey)=true:=by rw [a];exact zDG
  rw [if_neg a']
  exact congrArg some e
theorem mN.look {h:Heap} {x dx C:Addr} {mA:Str->Option Value} (I:mN h x dx C mA):∃ od,W.InstAt h x (W.instObj C dx) C (some od)/\∀ name,W.lookIn name od=some (mA name):=
 let ⟨od,ho,hl⟩:=jN I.ns
 ⟨od,⟨I.obj,rfl,rfl,ho⟩,hl⟩
section
variable {prog:Program} {w:World} {A:Around} {E:VSP} {s:Shared} {K:W.Frag} {x dx C f:Addr} {mA:Str->Option Value} {name:Str} {v:Value}
theorem cC {expr:Bool} {Q:VSP} (X:K.In s.heap) (I:mN s.heap x dx C mA) (hg:W.plainGet K C name=true) (hh:W.hasDictIn K C=true)
  (ha:W.findIn K (.ref C) name=some none) (hv:mA name=some v) (hv':W.handedIn v=true) (h:Q v { s with toks:=s.toks + 1 }) :
  wpAny (model prog w) A (getAttr (.ref x) name expr) Q E s:=by
 obtain ⟨od,J,hl⟩:=I.look
 exact W.get_value X J (W.plainGet_of hg).1 (W.findObj_own hh ha rfl (by rw [hl,hv])) hv' h
theorem gX {pl:Sem Bool} {Q:Value × List Value->Shared->Prop} (X:K.In s.heap) (I:mN s.heap x dx C mA) (hg:W.plainGet K C name=true)
  (hf:W.findIn K (.ref C) name=some (some (.ref f))) (ht:W.isFn K (.ref f)=true) (hv:mA name=none) (h:Q (.ref f,[.ref x]) s) :
  wpAny (model prog w) A (getMethod (.ref x) name pl) Q E s:=by
 obtain ⟨od,J,hl⟩:=I.look
 exact W.method_fn X J (W.plainGet_of hg).1 (W.plainGet_of hg).2 hf (beq_iff_eq.mp ht) (by show (W.lookIn name od).map (·.isSome)=some false;rw [hl,hv];rfl) h
theorem eR {ns:List Str} {Q:Unit->Shared->Prop} (X:K.In s.heap) (I:mN s.heap x dx C mA)
  (hs:W.findIn K (.ref C) "__setattr__"=some (some (.builtin "object.__setattr__"))) (hp:W.plainOver K C=true) (ht:W.takerIn K C name=some none) (hh:W.hasDictIn K C=true)
  (hw:PySem.Within mA ns) (hsz:ns.length <= sizeLine)
  (h:∀ h',mN h' x dx C (fun y=>if y=name then some v else mA y)->Heap.SameBut dx s.heap h'->Q () { s with heap:=h',toks:=s.toks + 2 }) :
  wpAny (model prog w) A (setAttr (.ref x) name v) Q E s:=by
 obtain ⟨od,J,hl⟩:=I.look
 refine W.set_plain X J hs (W.osa_open (s:={ s with toks:=s.toks + 1 }) (r:=none) X J hp ht fun b=>?_)
 obtain ⟨cd,hc,hd'⟩:=W.any_some hh
 have hx:s.heap.get? x=some ⟨.ref C,some dx,.plain,#[]⟩:=I.obj
 refine wpAny_bind (wpAny_pure (wpAny_bind (wpAny_bind (wpAny_loadPart hx (wpAny_bind (W.Looks.here (s:={ s with toks:=s.toks + 1 }) (W.looks_clsIn X hc) ?_))))))
 rw [hd']
 refine wpAny_pure (a:=some dx) (wpAny_bind (wpAny_pure (wpAny_bind ?_)))
 refine wpAny_nsSet1 (s:={ s with toks:=s.toks + 1 }) I.ns fun h' hn2 hs2=>?_
 obtain ⟨oD,esD,epD,hoD,hdD,hcD⟩:=hn2.count (PySem.Within.cons name v hw)
 refine wpAny_bind (wpAny_lookBehind hoD (by rw [hdD];exact pastItsLine_dict (zCZ hcD (by rw [zC9];omega))) ?_)
 exact wpAny_pure (h _ ⟨(hs2.2 _ (Ne.symm I.ne)).trans I.obj,hn2,I.ne⟩ hs2)
theorem gD {R:Result->Shared->Prop} {vs:List Value} {kw:List (Str × Value)} (X:K.In s.heap) (hm:W.makesIn K C=true)
  (hi:W.findIn K (.ref C) "__init__"=some (some (.ref f))) (hf:W.typeIn K (.ref f)=some (.type "function"))
  (h:codeAny (model prog w) (A.under (.builtin "type.__call__" ⟨.ref C :: vs,kw⟩)) (.call (.ref f) ⟨.ref (s.heap.objs.size + 1) :: vs,kw⟩) (W.InitBack (s.heap.objs.size + 1) R)
   { s with heap:=(s.heap.push W.emptyDict).push (W.instObj C s.heap.objs.size) }) :
  codeAny (model prog w) A (.call (.ref C) ⟨vs,kw⟩) R s:=by
 obtain ⟨hh,g,d,t,os⟩:=s
 exact W.make_core (W.makes_of X hm) (W.looks_findIn X hi) (fun self=>W.bind_fn X self hf) (.inl rfl) h
end
def xH (f:Str) (v:V):List (Str × V)->List (Str × V)
 | []=>[(f,v)]
 | (g,x) :: r=>if g=f then (g,v) :: r else (g,x) :: xH f v r
theorem tI (f g:Str) (v:V):∀ fs:List (Str × V),(xH f v fs).lookup g=if g=f then some v else fs.lookup g
 | []=>by
  show List.lookup g [(f,v)]=_
  by_cases h:g=f
  ·have hb:(g == f)=true:=beq_iff_eq.mpr h
   simp only [List.lookup,hb,if_pos h]
  ·have hb:(g == f)=false:=beq_eq_false_iff_ne.mpr h
   simp only [List.lookup,hb,if_neg h]
 | (k,x) :: r=>by
  have ih:=tI f g v r
  rw [show xH f v ((k,x) :: r)=(if k=f then (k,v) :: r else (k,x) :: xH f v r) from rfl]
  by_cases hk:k=f
  ·rw [if_pos hk]
   by_cases h:g=k
   ·have hb:(g == k)=true:=beq_iff_eq.mpr h
    simp only [List.lookup,hb,if_pos (h.trans hk)]
   ·have hb:(g == k)=false:=beq_eq_false_iff_ne.mpr h
    simp only [List.lookup,hb,if_neg (fun e:g=f=>h (e.trans hk.symm))]
  ·rw [if_neg hk]
   by_cases h:g=k
   ·have hb:(g == k)=true:=beq_iff_eq.mpr h
    simp only [List.lookup,hb,if_neg (fun e:g=f=>hk (h.symm.trans e))]
   ·have hb:(g == k)=false:=beq_eq_false_iff_ne.mpr h
    simp only [List.lookup,hb]
    exact ih
theorem u7 (f:Str) (v:V):∀ fs:List (Str × V),f ∈ (xH f v fs).map (·.1)/\∀ g,g ∈ fs.map (·.1)->g ∈ (xH f v fs).map (·.1)
 | []=>⟨by simp [xH],fun g h=>by simp at h⟩
 | (k,x) :: r=>by
  obtain ⟨i1,i2⟩:=u7 f v r
  rw [show xH f v ((k,x) :: r)=(if k=f then (k,v) :: r else (k,x) :: xH f v r) from rfl]
  by_cases hk:k=f
  ·rw [if_pos hk]
   subst hk
   exact ⟨by simp,fun g h=>by simpa using h⟩
  ·rw [if_neg hk]
   refine ⟨?_,fun g h=>?_⟩
   ·rw [List.map_cons]
    exact zC1 _ i1
   ·rw [List.map_cons] at h ⊢
    rcases List.mem_cons.mp h with e | e
    ·exact List.mem_cons.mpr (.inl e)
    ·exact zC1 _ (i2 g e)
theorem tJ (f:Str) (v:V):∀ fs:List (Str × V),(xH f v fs).length <= fs.length + 1
 | []=>by simp [xH]
 | (k,x) :: r=>by
  have ih:=tJ f v r
  rw [show xH f v ((k,x) :: r)=(if k=f then (k,v) :: r else (k,x) :: xH f v r) from rfl]
  by_cases hk:k=f
  ·rw [if_pos hk,zC9,zC9];omega
  ·rw [if_neg hk,zC9,zC9];omega
theorem vQ.some_of {v:V} {o:Option Value} (r:vQ (some v) o):∃ u,o=some u/\zX v u:=by
 cases o with
 | none=>exact (show False from r).elim
 | some u=>exact ⟨u,rfl,r⟩
theorem vQ.none_of {o:Option Value} (r:vQ none o):o=none:=by
 cases o with
 | none=>rfl
 | some u=>exact (show False from r).elim
theorem jU {v:V} {u:Value} (r:zX v u):W.handedIn u=true:=by
 cases v with
 | non=>cases (show u=Value.none from r);rfl
 | bl b=>cases (show u=Value.bool b from r);rfl
 | int i=>obtain ⟨t,e⟩:=(show ∃ t,u=Value.int i t from r);cases e;rfl
 | str x=>obtain ⟨t,e⟩:=(show ∃ t,u=Value.str x t from r);cases e;rfl
 | byt b=>obtain ⟨t,e⟩:=(show ∃ t,u=Value.bytes b t from r);cases e;rfl
 | flt b=>obtain ⟨t,e⟩:=(show ∃ t,u=Value.float b t from r);cases e;rfl
 | ref a=>cases (show u=Value.ref a from r);rfl
 | ty n=>cases (show u=Value.type n from r);rfl
section
variable {P:Program} {w:World} {H H':Hp} {h h':Heap} {a C dx:Addr} {fs fs':List (Str × V)}
theorem t9 (hok:HOk P w H h) (e:H a=some (.ins C dx fs)):∃ mA,mN h a dx C mA/\(∀ f,vQ (fs.lookup f) (mA f))/\PySem.Within mA (fs.map (·.1))/\fs.length <= 1000/\H dx=some (.own a):=by
 obtain ⟨d,z,ne,ob,mA,n,r,q⟩:=(show yQ P w H h a (.ins C dx fs) from hok a _ e)
 exact ⟨mA,⟨ob,n,ne⟩,r,q,z,d⟩
end
structure Cls (K:W.Frag) (C:Addr):Prop where
 pg:W.plainGet K C Str.empty=true
 hd:W.hasDictIn K C=true
 po:W.plainOver K C=true
 sa:W.findIn K (.ref C) "__setattr__"=some (some (.builtin "object.__setattr__"))
theorem Cls.get {K:W.Frag} {C:Addr} (c:Cls K C) (f:Str):W.plainGet K C f=true:=c.pg
def wO (K:W.Frag) (C:Addr) (f:Str):Prop:=W.findIn K (.ref C) f=some none
theorem wO.taker {K:W.Frag} {C:Addr} {f:Str} (n:wO K C f):W.takerIn K C f=some none:=by
 unfold W.takerIn
 rw [show W.findIn K (.ref C) f=some none from n]
 rfl
structure f8 (K:W.Frag) (C:Addr) (m:Str) (f:Addr):Prop where
 at_:W.findIn K (.ref C) m=some (some (.ref f))
 fn:W.isFn K (.ref f)=true
 kp:W.keepIn K (.ref f)=true
section
variable {X:Cx} {qp:LAO} {σ:St} {H:Hp} {s:Shared} {a C dx:Addr} {fs:List (Str × V)} {f:Str} {v:V} {A:Around} {E:VSP}
theorem mB {b:Bool} {Q:VSP} (I:Inv X qp σ H s) (e:H a=some (.ins C dx fs)) (c:Cls X.K C) (n:wO X.K C f) (l:fs.lookup f=some v)
  (h:∀ u s',Inv X qp σ H s'->zX v u->Q u s'):wpAny (model X.prog X.w) A (getAttr (.ref a) f b) Q E s:=by
 obtain ⟨mA,O,r,_,_,_⟩:=t9 I.hok e
 obtain ⟨u,hu,ru⟩:=vQ.some_of (v:=v) (o:=mA f) (by rw [<- l];exact r f)
 exact cC I.kIn O (c.get f) c.hd n hu (jU ru) (h u _ (I.tok _) ru)
theorem sQ {m:Str} {g:Addr} {pl:Sem Bool} {Q:Value × List Value->Shared->Prop} (I:Inv X qp σ H s) (e:H a=some (.ins C dx fs)) (c:Cls X.K C) (k:f8 X.K C m g) (l:fs.lookup m=none)
  (h:Q (.ref g,[.ref a]) s):wpAny (model X.prog X.w) A (getMethod (.ref a) m pl) Q E s:=by
 obtain ⟨mA,O,r,_,_,_⟩:=t9 I.hok e
 have hn:mA m=none:=vQ.none_of (by rw [<- l];exact r m)
 exact gX I.kIn O (c.get m) k.at_ k.fn hn h
theorem nI {y:V} {u:Value} {Q:Unit->Shared->Prop} (I:Inv X qp σ H s) (e:H a=some (.ins C dx fs)) (c:Cls X.K C) (n:wO X.K C f) (hl:fs.length < 1000) (ry:zX y u)
  (h:∀ s',Inv X qp σ (upd H a (.ins C dx (xH f y fs))) s'->Q () s'):wpAny (model X.prog X.w) A (setAttr (.ref a) f u) Q E s:=by
 obtain ⟨mA,O,r,wi,_,ho⟩:=t9 I.hok e
 have hz:(fs.map (·.1)).length <= sizeLine:=by rw [zCO,sizeLine_eq];omega
 refine eR I.kIn O c.sa c.po n.taker c.hd wi hz fun h' O' sb=>h _ ?_
 have hd:∃ o,h'.get? dx=some o:=let ⟨o,_,_,e',_⟩:=O'.ns;⟨o,e'⟩
 refine I.write (x:=a) (e:=dx) (by rw [e];exact True.intro) (.inr ho) (fun b q hb z=>(sb.2 b hb).trans z) hd ?_
 refine ⟨by rw [zJ O.ne];exact ho,?_,O.ne,O'.obj,_,O'.ns,fun g=>?_,fun g hg=>?_⟩
 ·have:=tJ f y fs;omega
 ·show vQ ((xH f y fs).lookup g) (if g=f then some u else mA g)
  rw [tI]
  by_cases q:g=f
  ·rw [if_pos q,if_pos q];exact ry
  ·rw [if_neg q,if_neg q];exact r g
 ·by_cases q:g=f
  ·rw [q];exact (u7 f y fs).1
  ·refine (u7 f y fs).2 g (wi g fun z=>hg ?_)
   show (if g=f then some u else mA g)=none
   rw [if_neg q];exact z
theorem Inv.made (I:Inv X qp σ H s):Inv X qp σ (upd (upd H s.heap.objs.size (.own (s.heap.objs.size + 1))) (s.heap.objs.size + 1) (.ins C s.heap.objs.size []))
  { s with heap:=(s.heap.push W.emptyDict).push (W.instObj C s.heap.objs.size) }:=by
 have e1:(s.heap.push W.emptyDict).get? s.heap.objs.size=some W.emptyDict:=Heap.get?_push_size s.heap rfl
 have e2:((s.heap.push W.emptyDict).push (W.instObj C s.heap.objs.size)).get? (s.heap.objs.size + 1)=some (W.instObj C s.heap.objs.size):=by
  have:=Heap.get?_push_size (s.heap.push W.emptyDict) (o:=W.instObj C s.heap.objs.size) rfl
  rwa [Heap.size_push] at this
 have e3:(s.heap.push W.emptyDict).Ns s.heap.objs.size (fun _=>none):=⟨W.emptyDict,#[],_,e1,rfl,(fun e he=>absurd he (by simp)),fun _=>rfl⟩
 have I1:=I.laid (a:=s.heap.objs.size) (o:=.own (s.heap.objs.size + 1)) (h':=s.heap.push W.emptyDict) (t':=s.toks) (fun b u q=>Heap.get?_push_of_some _ q) (zCX _) ⟨_,e1⟩
 refine I1.laid (a:=s.heap.objs.size + 1) (o:=.ins C s.heap.objs.size []) (t':=s.toks) (fun b u q=>Heap.get?_push_of_some _ q) (Nat.le_of_eq (Heap.size_push _ _)) ?_
 have ne:s.heap.objs.size ≠ s.heap.objs.size + 1:=zDF (Nat.lt_succ_self _)
 refine ⟨by rw [zJ ne,zC],zCY _,ne,e2,fun _=>none,(Heap.Ns1.of_empty e3).at fun o q=>Heap.get?_push_of_some _ q,fun _=>True.intro,fun y hy=>absurd rfl hy⟩
theorem cR {prog:Program} {w:World} {env:Env} {e:Expr} {f:Str} {pos:Pos} {s:Shared} {Q:VSP} (hb:attributeBase e f env (eval e env)=eval e env)
  (h:wpAny (model prog w) A (eval e env) (fun o s₁=>wpAny (model prog w) A (getAttr o f true) Q E s₁) E s):wpAny (model prog w) A (eval (.Attribute e f pos) env) Q E s:=
 Attribute_any_ h (by rw [arm_eval_Attribute,hb])
end
def tFld (K:W.Frag) (ta:TE) (f:Str):TE:=fun σ H Q=>ta σ H fun x H1=>∃ a C dx fs v,x=.ref a/\H1 a=some (.ins C dx fs)/\Cls K C/\wO K C f/\fs.lookup f=some v/\Q v H1
def iQ (K:W.Frag) (ta tv:TE) (f:Str):TS:=fun D σ H=>tv σ H fun y H1=>ta σ H1 fun x H2=>∃ a C dx fs,x=.ref a/\H2 a=some (.ins C dx fs)/\Cls K C/\wO K C f/\fs.length < 1000 /\
 D.nx σ (upd H2 a (.ins C dx (xH f y fs)))
section
variable {X:Cx} {o e value:Expr} {f:Str} {pos pos' tpos:Pos} {ta tv:TE}
theorem yR (he:PE X e ta) (hb:attributeBase e f X.env (eval e X.env)=eval e X.env):PE X (.Attribute e f pos) (tFld X.K ta f):=by
 intro qp s σ H Q I h
 refine cR hb (thn (he qp s σ H _ I h) fun u s1 hz23=>?_)
 obtain ⟨x,H1,I1,rx,a,C,dx,fs,v,ex,ea,c,n,l,q⟩:=hz23
 subst ex
 obtain rfl:u=Value.ref a:=rx
 exact mB I1 ea c n l fun u' s2 I2 ru=>⟨v,H1,I2,ru,q⟩
theorem wB (ha:PE X o ta) (hv:PE X value tv) (hs:swapsWith value (some (.Attribute o f pos')) pos.line X.env=pure false):PS X (.Assign [.Attribute o f pos'] value pos) (iQ X.K ta tv f):=by
 intro qp s σ H D I h
 refine plainObj_wpAny_Assign_Attribute (thn (hv qp s σ H _ I h) fun u s1 hz24=>?_) hs
 obtain ⟨y,H1,I1,ry,q⟩:=hz24
 refine thn (ha qp s1 σ H1 _ I1 q) fun ov s2 hz25=>?_
 obtain ⟨x,H2,I2,rx,a,C,dx,fs,ex,ea,c,n,l,q2⟩:=hz25
 subst ex
 obtain rfl:ov=Value.ref a:=rx
 exact nI I2 ea c n l ry fun s3 I3=>⟨σ,_,I3,q2⟩
end
section
variable {X:Cx} {qp:LAO} {σ:St} {H:Hp} {s:Shared} {A:Around} {E:VSP} {Q:VSP} {c:Value} {b:Bool}
inductive uQ (K:W.Frag) (H:Hp):V->Value->Prop where
 | non:uQ K H .non (.type "NoneType")
 | bl (x:Bool):uQ K H (.bl x) (.type "bool")
 | int (i:Int):uQ K H (.int i) (.type "int")
 | str (x:Str):uQ K H (.str x) (.type "str")
 | flt (x:UInt64):uQ K H (.flt x) (.type "float")
 | lst {a:Addr} {xs:List V} (e:H a=some (.lst xs)):uQ K H (.ref a) (.type "list")
 | frz {a:Addr} {o:Obj} {xs:List V} (e:H a=some (.frz o (.lst xs))):uQ K H (.ref a) (.type "list")
 | tup {a:Addr} {xs:List V} (e:H a=some (.tup xs)):uQ K H (.ref a) (.type "tuple")
 | dK {a:Addr} {kvs:List (Key × V)} (e:H a=some (.dK kvs)):uQ K H (.ref a) (.type "dict")
 | dT {a:Addr} {kvs:List (List Key × V)} (e:H a=some (.dT kvs)):uQ K H (.ref a) (.type "dict")
 | ins {a C dx:Addr} {fs:List (Str × V)} (e:H a=some (.ins C dx fs)) (cl:Cls K C) (ha:W.findIn K (.ref C) "__class__"=some (some (.builtin "object.__class__")))
   (hn:W.specialIn K (.builtin "object.__class__") "__get__"=some (some (.builtin "getset_descriptor.__get__"))) (htk:W.takesIn K (.builtin "object.__class__")=some true)
   (hm:W.mroIn K C (.type "object")=some true):uQ K H (.ref a) (.ref C)
theorem jR {x:V} {u t:Value} (I:Inv X qp σ H s) (rx:zX x u) (ty:uQ X.K H x t) (e:W.kitOne X.K t c=some b) (h:∀ tk,Q (.bool b) { s with toks:=tk }) :
  wpAny (model X.prog X.w) A (call (.builtin "isinstance") [u,c]) Q E s:=by
 cases ty with
 | non=>cases (show u=Value.none from rx);exact W.kia_one W.kitx_none I.kIn True.intro e (fun z=>nomatch z) h
 | bl y=>cases (show u=Value.bool y from rx);exact W.kia_one W.kitx_bool I.kIn True.intro e (fun z=>nomatch z) h
 | int i=>obtain ⟨t,q⟩:=(show ∃ t,u=Value.int i t from rx);cases q;exact W.kia_one W.kitx_int I.kIn True.intro e (fun z=>nomatch z) h
 | str y=>obtain ⟨t,q⟩:=(show ∃ t,u=Value.str y t from rx);cases q;exact W.kia_one W.kitx_str I.kIn True.intro e (fun z=>nomatch z) h
 | flt y=>obtain ⟨t,q⟩:=(show ∃ t,u=Value.float y t from rx);cases q;exact W.kia_one W.kitx_float I.kIn True.intro e (fun z=>nomatch z) h
 | @lst a xs ea=>
  cases (show u=Value.ref a from rx)
  obtain ⟨_,_,n,_,h1⟩:=(show yQ X.prog X.w H s.heap a (.lst xs) from I.hok a _ ea)
  exact W.kia_one W.kitx_list I.kIn ⟨_,h1,rfl⟩ e (fun z=>nomatch z) h
 | @frz a ob xs ea=>
  cases (show u=Value.ref a from rx)
  obtain ⟨_,_,_,n,_,h1⟩:=(show yQ X.prog X.w H s.heap a (.frz ob (.lst xs)) from I.hok a _ ea)
  exact W.kia_one W.kitx_list I.kIn ⟨_,h1,rfl⟩ e (fun z=>nomatch z) h
 | @tup a xs ea=>
  cases (show u=Value.ref a from rx)
  obtain ⟨_,_,_,p⟩:=(show yQ X.prog X.w H s.heap a (.tup xs) from I.hok a _ ea)
  obtain ⟨o,h1,h2,_⟩:=p
  exact W.kia_one W.kitx_tuple I.kIn ⟨o,h1,h2⟩ e (fun z=>nomatch z) h
 | @dK a kvs ea=>
  cases (show u=Value.ref a from rx)
  obtain ⟨_,_,vs,_,p⟩:=(show yQ X.prog X.w H s.heap a (.dK kvs) from I.hok a _ ea)
  obtain ⟨o,es,ep,h1,h2,_⟩:=p
  exact W.kia_one W.kitx_dict I.kIn ⟨o,h1,h2.1⟩ e (fun z=>nomatch z) h
 | @dT a kvs ea=>
  cases (show u=Value.ref a from rx)
  obtain ⟨_,_,xs,_,o,es,ep,h1,h2,_⟩:=(show yQ X.prog X.w H s.heap a (.dT kvs) from I.hok a _ ea)
  exact W.kia_one W.kitx_dict I.kIn ⟨o,h1,h2.1⟩ e (fun z=>nomatch z) h
 | @ins a C dx fs ea cl ha hn htk hm=>
  cases (show u=Value.ref a from rx)
  obtain ⟨mA,O,_⟩:=t9 I.hok ea
  obtain ⟨od,J,_⟩:=O.look
  exact W.kia_one (W.kitx_own (cl.get _) cl.hd ha hn htk hm) I.kIn J e (fun z=>nomatch z) h
end
structure z9 (k:Nat) (A:Around):Prop where
 hd:A.handled=none
 dp:A.depth + 3 * k + 5 < recursionLimit
 un:A.units + 16 * k + 200 < cLine
theorem z9.mono {j k:Nat} {A:Around} (r:z9 k A) (h:j <= k):z9 j A:=⟨r.hd,by have:=r.dp;omega,by have:=r.un;omega⟩
theorem z9.deeper {k:Nat} {A:Around} (r:z9 (k + 1) A) (env:Env):z9 k (A.deeper env):=
 ⟨r.hd,by have:=r.dp;show A.depth + 1 + 3 * k + 5 < _;omega,by have:=r.un;show A.units + 3 + 16 * k + 200 < _;omega⟩
theorem nV {A:Around} {C:Addr} {us:List Value} {kw:List (Str × Value)}:(A.under (.builtin "type.__call__" ⟨.ref C :: us,kw⟩)).depth=A.depth + 1:=by
 first | rfl | simp [Around.under,Code.weight,Code.isCreation,Code.isGuard,Code.isCaller,Code.frames,Code.isFrame,guardIds]
theorem nU {A:Around} {C:Addr} {us:List Value} {kw:List (Str × Value)}:(A.under (.builtin "type.__call__" ⟨.ref C :: us,kw⟩)).units=A.units + 1:=by
 first | rfl | simp [Around.under,Code.cUnits,Code.frames,Code.isFrame]
theorem z9.make {k:Nat} {A:Around} (r:z9 (k + 1) A) (C:Addr) (us:List Value) (kw:List (Str × Value)):z9 k (A.under (.builtin "type.__call__" ⟨.ref C :: us,kw⟩)):=
 ⟨r.hd,by have:=r.dp;rw [nV];omega,by have:=r.un;rw [nU];omega⟩
theorem z9.depth {k:Nat} {A:Around} (r:z9 k A):A.depth < recursionLimit:=by have:=r.dp;omega
theorem z9.units {k:Nat} {A:Around} (r:z9 k A):A.units + 64 < cLine:=by have:=r.un;omega
def kT:TA:=fun _ H Q=>Q [] H
def iE (ta:TE) (tr:TA):TA:=fun σ H Q=>ta σ H fun x H1=>tr σ H1 fun xs H2=>Q (x :: xs) H2
section
variable {X:Cx} {e:Expr} {es:List Expr} {te:TE} {t:TA} {pos:Pos}
theorem zE:PA X [] kT:=fun _ _ _ _ H Q I h=>Calls.spliced_nil ⟨[],H,I,.nil,h⟩
theorem zA (ha:PE X e te) (hr:PA X es t) (hs:starEach (e :: es) X.env=(false,eval e X.env) :: starEach es X.env:=by rfl):PA X (e :: es) (iE te t):=by
 intro pos qp s σ H Q I h
 rw [hs]
 show wpAny _ _ (spliced ((false,eval e X.env) :: backTo pos (starEach es X.env))) _ _ s
 refine Calls.spliced_cons (thn (ha qp s σ H _ I h) fun u s1 hz26=>?_)
 obtain ⟨x,H1,I1,r1,q1⟩:=hz26
 exact thn (hr pos qp s1 σ H1 _ I1 q1) fun us s2 ⟨xs,H2,I2,r2,q2⟩=>⟨x :: xs,H2,I2,.cons r1 r2,q2⟩
def tTup (t:TA):TE:=fun σ H Q=>t σ H fun xs H1=>xs.length <= sizeLine/\∀ p,H1 p=none->Q (.ref p) (upd H1 p (.tup xs))
def eI (t:TA):TE:=fun σ H Q=>t σ H fun xs H1=>xs.length <= sizeLine/\∀ p,H1 p=none->Q (.ref p) (upd H1 p (.lst xs))
theorem yC {x1} (h:PA X es t):PE X (.Tuple es x1 pos) (tTup t):=by
 intro qp s σ H Q I hq
 refine wpAny_Tuple_spliced (thn (h pos qp s σ H _ I hq) fun us s1 hz27=>?_)
 obtain ⟨xs,H1,I1,r,z,q⟩:=hz27
 refine ⟨by rw [<- r.length];exact z,?_⟩
 have hf:H1 s1.heap.objs.size=none:=I1.hok.fresh (zCX _)
 refine ⟨.ref s1.heap.objs.size,upd H1 s1.heap.objs.size (.tup xs),I1.laid (t':=s1.toks) (fun b u e=>Heap.get?_push_of_some _ e) (zCX _) ?_,rfl,q _ hf⟩
 exact ⟨z,us,r,⟨_,Heap.get?_push_size _ rfl,rfl,_,rfl⟩⟩
theorem yK (h:PA X es t):PE X (.List es pos) (eI t):=by
 intro qp s σ H Q I hq
 refine wpAny_List_spliced (thn (h pos qp s σ H _ I hq) fun us s1 hz28=>?_)
 obtain ⟨xs,H1,I1,r,z,q⟩:=hz28
 refine ⟨by rw [<- r.length];exact z,?_⟩
 have hf:H1 s1.heap.objs.size=none:=I1.hok.fresh (zCX _)
 refine ⟨.ref s1.heap.objs.size,upd H1 s1.heap.objs.size (.lst xs),I1.laid (t':=s1.toks) (fun b u e=>Heap.get?_push_of_some _ e) (zCX _) ?_,rfl,q _ hf⟩
 exact ⟨z,us,0,r,Heap.get?_push_size _ rfl⟩
end
abbrev Sp:=List V->Hp->VK->XK->Prop
abbrev CXT:=List Env->Hp->Shared->XK->VSP
structure mO (P:Program) (w:World) (K:W.Frag) (mg:Str->Option Value) (base:Heap) (A:Around) (outer:List Env) (s:Shared) (H:Hp):Prop where
 frames:A.frames=some outer
 mod:Mod K mg base
 bs:∀ b o,base.get? b=some o->s.heap.get? b=some o/\H b=none
 bsz:base.objs.size <= s.heap.objs.size
 funs:s.heap.FunFrames base outer
 frf:∀ b ∈ frs outer,H b=none
 hok:HOk P w H s.heap
 bare:AllBare s.gens
def CE (outer:List Env) (P:Program) (w:World) (H:Hp) (s:Shared) (Q:VK) (u:Value) (s':Shared):Prop:=
 ∃ v H',s'.os=s.os/\AllBare s'.gens/\Un (frs outer) [] H H' s.heap s'.heap/\HOk P w H' s'.heap/\zX v u/\Q v H'
def CR (CX:CXT) (outer:List Env) (P:Program) (w:World) (H:Hp) (s:Shared) (Q:VK) (E:XK) (r:Result) (s':Shared):Prop:=
 match r with
 | .ok (.ret u)=>CE outer P w H s Q u s'
 | .ok _=>False
 | .error e=>CX outer H s E e s'
structure vJ (P:Program) (w:World) (K:W.Frag) (mg:Str->Option Value) (base:Heap) (CX:CXT) (k:Nat) (f:Addr) (fd:FuncData) (ps:List Str) (sp:Sp):Prop where
 len:∀ vs H Q E,sp vs H Q E->vs.length=ps.length
 run:∀ (A:Around) (outer:List Env) (s:Shared) (H:Hp) (args:Args) (us:List Value) (vs:List V) (Q:VK) (E:XK),z9 k A->mO P w K mg base A outer s H->BindsTo s fd args (ps.zip us)->zS vs us->sp vs H Q E ->
  codeAny (model P w) A (.call (.ref f) args) (CR CX outer P w H s Q E) s
theorem mO.make {P:Program} {w:World} {K:W.Frag} {mg:Str->Option Value} {base:Heap} {A:Around} {outer:List Env} {s:Shared} {H:Hp} (e:mO P w K mg base A outer s H) (C:Addr) (us:List Value) (kw:List (Str × Value)) :
  mO P w K mg base (A.under (.builtin "type.__call__" ⟨.ref C :: us,kw⟩)) outer s H:=⟨by first | exact e.frames | (simpa [Around.under,Code.envs,Code.isFrame,pushEnvs] using e.frames),e.mod,e.bs,e.bsz,e.funs,e.frf,e.hok,e.bare⟩
section
variable {X:Cx} {qp:LAO} {σ:St} {H:Hp} {s s':Shared}
theorem Inv.env0 (I:Inv X qp σ H s):mO X.prog X.w X.K X.mg X.base X.A X.stack s H:=
 ⟨I.ok.frames,I.ok.mod,I.bs,zCZ I.ok.bsz I.sz,I.stack,I.stkFree,I.hok,I.bare⟩
theorem Inv.after {Q:VK} {u:Value} (I:Inv X qp σ H s) (h:CE X.stack X.prog X.w H s Q u s'):EP X qp σ Q u s':=by
 obtain ⟨v,H',os,bare,un,hok,r,q⟩:=h
 obtain ⟨hh,g,d,t,os'⟩:=s'
 obtain rfl:os'=s.os:=os
 exact ⟨v,H',I.call (h':=hh) (g':=g) (d':=d) (t':=t) (ch:=[]) un hok bare (fun b z=>absurd z (by simp)),r,q⟩
end
def iF (sp:Sp) (dvs:List V) (E:XK) (t:TA):TE:=fun σ H Q=>t σ H fun vs H1=>sp (vs ++ dvs) H1 Q E
def mY (C:Addr) (m:Str) (sp:Sp) (dvs:List V) (E:XK) (ta:TE) (t:TA):TE:=fun σ H Q=>ta σ H fun x H1=>∃ a dx fs,x=.ref a/\H1 a=some (.ins C dx fs)/\fs.lookup m=none /\
 t σ H1 fun vs H2=>sp (x :: (vs ++ dvs)) H2 Q E
def cZ (C:Addr) (sp:Sp) (dvs:List V) (E:XK) (t:TA):TE:=fun σ H Q=>t σ H fun vs H1=>∀ x dx,H1 x=none->H1 dx=none->dx ≠ x ->
 sp (.ref x :: (vs ++ dvs)) (upd (upd H1 dx (.own x)) x (.ins C dx [])) (fun v H2=>v=.non/\Q (.ref x) H2) E
def wK (K:W.Frag) (fd:FuncData) (ps:List Str) (ds:List Value):Prop:=
 ∀ (s:Shared) (us:List Value),K.In s.heap->(us ++ ds).length=ps.length->BindsTo s fd ⟨us,[]⟩ (ps.zip (us ++ ds))
theorem wK.all {K:W.Frag} {fd:FuncData} {ps:List Str} (h:∀ us:List Value,us.length=ps.length->bindArgs fd ⟨us,[]⟩=pure (ps.zip us)):wK K fd ps []:=fun s us _ hl=>by
 rw [List.append_nil] at hl ⊢
 exact .of_eq (h us hl)
def vY (CX:CXT) (X:Cx) (E:XK):Prop:=∀ (qp:LAO) (σ:St) (H:Hp) (s:Shared) (e:Value) (s':Shared),Inv X qp σ H s->CX X.stack H s E e s'->X.xe e s'
section
variable {X:Cx} {CX:CXT} {k:Nat} {f C:Addr} {fd:FuncData} {ps:List Str} {sp:Sp} {dvs:List V} {ds:List Value} {E:XK} {x m:Str} {p pos apos:Pos} {e o:Expr} {es:List Expr} {ta:TE} {t:TA}
theorem nK {qp:LAO} {σ:St} {H:Hp} {s:Shared} {Q:VK} {us:List Value} {vs:List V} (F:vJ X.prog X.w X.K X.mg X.base CX k f fd ps sp) (hr:z9 k X.A) (hb:wK X.K fd ps ds) (hd:zS dvs ds) (hx:vY CX X E)
  (I:Inv X qp σ H s) (r:zS vs us) (h:sp (vs ++ dvs) H Q E):wpAny (model X.prog X.w) X.A (call (.ref f) us) (EP X qp σ Q) X.xe s:=by
 have r2:zS (vs ++ dvs) (us ++ ds):=r.append hd
 have hl:(us ++ ds).length=ps.length:=by rw [<- r2.length];exact F.len _ _ _ _ h
 refine wpAny_call (codeAny_mono (F.run X.A X.stack s H ⟨us,[]⟩ (us ++ ds) (vs ++ dvs) Q E hr I.env0 (hb s us I.kIn hl) r2 h) fun r s' hq=>?_)
 cases r with
 | error e=>exact hx qp σ H s e s' I hq
 | ok fl=>
  cases fl with
  | ret u=>exact I.after hq
  | next=>exact False.elim hq
  | brk=>exact False.elim hq
  | cont=>exact False.elim hq
theorem dH (F:vJ X.prog X.w X.K X.mg X.base CX k f fd ps sp) (hr:z9 k X.A) (hg:Gl X x) (hm:X.mg x=some (.ref f)) (hk:W.keepIn X.K (.ref f)=true) (hb:wK X.K fd ps ds) (hd:zS dvs ds) (hx:vY CX X E)
  (ha:PA X (e :: es) t) (hdb:(x == ("__debug__" : Str))=false:=by decide) (he:starEach (e :: es) X.env=(false,eval e X.env) :: starEach es X.env:=by rfl) (hpl:(backTo pos (starEach es X.env)).any (·.1)=false:=by rfl) :
  PE X (.Call (.Name x p) (e :: es) [] pos) (iF sp dvs E t):=by
 intro qp s σ H Q I h
 refine wpAny_Call_Name_kw (qV I hg hm ?_ hdb)
 refine W.callWith_K (h₀:=X.base) I.ok.mod.kin hk (thn (ha pos qp s σ H _ I h) fun us s1 hz29=>?_) he hpl
 obtain ⟨vs,H1,I1,r,q⟩:=hz29
 refine ⟨I1.kIn,?_⟩
 exact nK F hr hb hd hx I1 r q
theorem dD {pl:Sem Bool} (he:PE X o ta) (c:Cls X.K C) (hm:f8 X.K C m f) (F:vJ X.prog X.w X.K X.mg X.base CX k f fd ps sp) (hr:z9 k X.A) (hb:wK X.K fd ps ds) (hd:zS dvs ds) (hx:vY CX X E) (ha:PA X (e :: es) t)
  (hst:starEach (e :: es) X.env=(false,eval e X.env) :: starEach es X.env:=by rfl) (hpl:(backTo pos (starEach es X.env)).any (·.1)=false:=by rfl)
  (ht:eval (.Call (.Attribute o m apos) (e :: es) [] pos) X.env=(do
   let ov <- eval o X.env
   standAt apos.atName
   let (f,first) <- holding [ov] (getMethod ov m pl)
   callWith pos f first (backTo pos (starEach (e :: es) X.env)) (backToKw pos (keywordEach [] X.env))):=by rfl) :
  PE X (.Call (.Attribute o m apos) (e :: es) [] pos) (mY C m sp dvs E ta t):=by
 intro qp s σ H Q I h
 refine W.methodCall_KW (pl:=pl) (thn (he qp s σ H _ I h) fun u s1 hz30=>?_) ht
 obtain ⟨x,H1,I1,rx,a,dx,fs,ex,ea,l,q⟩:=hz30
 subst ex
 obtain rfl:u=Value.ref a:=rx
 refine sQ I1 ea c hm l ?_
 refine W.callWith_K (first:=[.ref a]) (h₀:=X.base) I.ok.mod.kin hm.kp (thn (ha pos qp s1 σ H1 _ I1 q) fun us s2 hz31=>?_) hst hpl
 obtain ⟨vs,H2,I2,r,q2⟩:=hz31
 refine ⟨I2.kIn,?_⟩
 exact nK (us:=.ref a :: us) (vs:=.ref a :: vs) F hr hb hd hx I2 (.cons rfl r) q2
theorem i4 {pl:Sem Bool} (he:PE X o ta) (c:Cls X.K C) (hm:f8 X.K C m f) (F:vJ X.prog X.w X.K X.mg X.base CX k f fd ps sp) (hr:z9 k X.A) (hb:wK X.K fd ps ds) (hd:zS dvs ds) (hx:vY CX X E)
  (ht:eval (.Call (.Attribute o m apos) [] [] pos) X.env=(do
   let ov <- eval o X.env
   standAt apos.atName
   let (f,first) <- holding [ov] (getMethod ov m pl)
   callWith pos f first (backTo pos (starEach [] X.env)) (backToKw pos (keywordEach [] X.env))):=by rfl) :
  PE X (.Call (.Attribute o m apos) [] [] pos) (mY C m sp dvs E ta kT):=by
 intro qp s σ H Q I h
 refine W.methodCall_KW (pl:=pl) (thn (he qp s σ H _ I h) fun u s1 hz32=>?_) ht
 obtain ⟨x,H1,I1,rx,a,dx,fs,ex,ea,l,q⟩:=hz32
 subst ex
 obtain rfl:u=Value.ref a:=rx
 refine sQ I1 ea c hm l ?_
 exact W.callWith_K0 (first:=[.ref a]) I1.kIn hm.kp (nK (us:=[.ref a]) (vs:=[.ref a]) F hr hb hd hx I1 (.cons rfl .nil) q)
structure Mk (K:W.Frag) (C f:Addr):Prop where
 makes:W.makesIn K C=true
 init:W.findIn K (.ref C) "__init__"=some (some (.ref f))
 fn:W.isFn K (.ref f)=true
 kp:W.keepIn K (.ref C)=true
theorem iR {qp:LAO} {σ:St} {H:Hp} {s:Shared} {Q:VK} {us:List Value} {vs:List V} (M:Mk X.K C f) (F:vJ X.prog X.w X.K X.mg X.base CX k f fd ps sp) (hr:z9 (k + 1) X.A) (hb:wK X.K fd ps ds) (hd:zS dvs ds)
  (hx:vY CX X E) (I:Inv X qp σ H s) (r:zS vs us)
  (h:∀ x dx,H x=none->H dx=none->dx ≠ x->sp (.ref x :: (vs ++ dvs)) (upd (upd H dx (.own x)) x (.ins C dx [])) (fun v H2=>v=.non/\Q (.ref x) H2) E) :
  wpAny (model X.prog X.w) X.A (call (.ref C) us) (EP X qp σ Q) X.xe s:=by
 have hq:=h (s.heap.objs.size + 1) s.heap.objs.size (I.hok.fresh (Nat.le_succ _)) (I.hok.fresh (zCX _)) (zDF (Nat.lt_succ_self _))
 have I2:=Inv.made (C:=C) I
 have r2:zS (V.ref (s.heap.objs.size + 1) :: (vs ++ dvs)) (Value.ref (s.heap.objs.size + 1) :: (us ++ ds)):=.cons rfl (r.append hd)
 have hl:(Value.ref (s.heap.objs.size + 1) :: us ++ ds).length=ps.length:=by
  have e:=r2.length
  rw [F.len _ _ _ _ hq] at e
  exact e.symm
 refine wpAny_call (gD (f:=f) I.kIn M.makes M.init (beq_iff_eq.mp M.fn) (codeAny_mono (F.run _ X.stack _ _ ⟨Value.ref (s.heap.objs.size + 1) :: us,[]⟩ (Value.ref (s.heap.objs.size + 1) :: (us ++ ds)) _ _ E (hr.make C us [])
  (I2.env0.make C us []) (hb _ (Value.ref (s.heap.objs.size + 1) :: us) I2.kIn hl) r2 hq) fun r s' hq'=>?_))
 cases r with
 | error e=>exact hx qp σ _ _ e s' I2 hq'
 | ok fl=>
  cases fl with
  | ret u=>
   obtain ⟨v,H',I3,rv,ev,q3⟩:=I2.after hq'
   subst ev
   exact ⟨rv,⟨V.ref (s.heap.objs.size + 1),H',I3,rfl,q3⟩⟩
  | next=>exact False.elim hq'
  | brk=>exact False.elim hq'
  | cont=>exact False.elim hq'
theorem dE (M:Mk X.K C f) (F:vJ X.prog X.w X.K X.mg X.base CX k f fd ps sp) (hr:z9 (k + 1) X.A) (hg:Gl X x) (hm:X.mg x=some (.ref C)) (hb:wK X.K fd ps ds) (hd:zS dvs ds) (hx:vY CX X E)
  (ha:PA X (e :: es) t) (hdb:(x == ("__debug__" : Str))=false:=by decide) (he:starEach (e :: es) X.env=(false,eval e X.env) :: starEach es X.env:=by rfl) (hpl:(backTo pos (starEach es X.env)).any (·.1)=false:=by rfl) :
  PE X (.Call (.Name x p) (e :: es) [] pos) (cZ C sp dvs E t):=by
 intro qp s σ H Q I h
 refine wpAny_Call_Name_kw (qV I hg hm ?_ hdb)
 refine W.callWith_K (h₀:=X.base) I.ok.mod.kin M.kp (thn (ha pos qp s σ H _ I h) fun us s1 hz33=>?_) he hpl
 obtain ⟨vs,H1,I1,r,q⟩:=hz33
 refine ⟨I1.kIn,?_⟩
 exact iR M F hr hb hd hx I1 r q
end
section
variable {X:Cx} {CX:CXT} {k:Nat} {f C:Addr} {fd:FuncData} {ps ks:List Str} {sp:Sp} {E:XK} {x m:Str} {p pos apos kpos:Pos} {e o:Expr} {es:List Expr} {kws:List Keyword} {te ta:TE} {t tk:TA} {nm:Option Str}
variable {g:List Value->List Value->List Value} {gV:List V->List V->List V}
end
structure zQ (N P:List Str) (sc:Scope):Prop where
 kind:sc.kind=.function
 co:sc.isCoroutine=false
 gen:sc.isGenerator=false
 nd:N.Nodup
 pre:N.take P.length=P
 par:∀ x ∈ P,sc.names.lookup x=some .local \/ sc.names.lookup x=some .cell
 nofree:∀ y ∈ sc.names,y.2 ≠ .free
theorem scm {N P:List Str} {sc:Scope} (a:sc.kind=.function:=by rfl) (b:sc.isCoroutine=false:=by rfl) (c:sc.isGenerator=false:=by rfl) (d:N.Nodup:=by decide +kernel) (e:N.take P.length=P:=by rfl) (f:∀ x ∈ P,sc.names.lookup x=some .local \/ sc.names.lookup x=some .cell:=by decide +kernel)
  (g:∀ y ∈ sc.names,y.2 ≠ .free:=by decide +kernel):zQ N P sc:=⟨a,b,c,d,e,f,g⟩
theorem rV {kindOf:Str->Option NameKind} {x:Str}:∀ {binds:List (Str × Value)} {m:Str->Option Value},(∀ v,(x,v) ∉ binds)->bindL kindOf binds m x=m x
 | [],_,_=>rfl
 | (n,v) :: r,m,h=>by
  unfold bindL
  rw [rV fun w hw=>h w (zC1 _ hw)]
  split
  ·have:x ≠ n:=by rintro rfl;exact h v zDH
   simp [this]
  ·rfl
theorem rX {kindOf:Str->Option NameKind} {x:Str}:∀ {binds:List (Str × Value)} {m:Str->Option Value},(∀ v,(x,v) ∉ binds)->bindC kindOf binds m x=m x
 | [],_,_=>rfl
 | (n,v) :: r,m,h=>by
  unfold bindC
  rw [rX fun w hw=>h w (zC1 _ hw)]
  split
  ·rfl
  ·have:x ≠ n:=by rintro rfl;exact h v zDH
   simp [this]
theorem rW {kindOf:Str->Option NameKind} {x:Str} {v:Value}:∀ {P:List Str} {vs:List Value} {i:Nat} {m:Str->Option Value},P.Nodup->P[i]?=some x->vs[i]?=some v->kindOf x=some .local ->
  bindL kindOf (P.zip vs) m x=some v
 | [],_,_,_,_,h,_,_=>by simp at h
 | _ :: _,[],_,_,_,_,h,_=>by simp at h
 | p :: P,w :: vs,0,m,nd,h1,h2,hk=>by
  simp at h1 h2;subst h1;subst h2
  show bindL kindOf ((p,w) :: P.zip vs) m p=_
  unfold bindL
  rw [rV fun v hv=>(List.nodup_cons.mp nd).1 (List.of_mem_zip hv).1,if_pos hk]
  simp
 | p :: P,w :: vs,i + 1,m,nd,h1,h2,hk=>by
  show bindL kindOf ((p,w) :: P.zip vs) m x=_
  unfold bindL
  exact rW (i:=i) (List.nodup_cons.mp nd).2 (by simpa using h1) (by simpa using h2) hk
theorem rY {kindOf:Str->Option NameKind} {x:Str} {v:Value}:∀ {P:List Str} {vs:List Value} {i:Nat} {m:Str->Option Value},P.Nodup->P[i]?=some x->vs[i]?=some v->kindOf x ≠ some .local ->
  bindC kindOf (P.zip vs) m x=some v
 | [],_,_,_,_,h,_,_=>by simp at h
 | _ :: _,[],_,_,_,_,h,_=>by simp at h
 | p :: P,w :: vs,0,m,nd,h1,h2,hk=>by
  simp at h1 h2;subst h1;subst h2
  show bindC kindOf ((p,w) :: P.zip vs) m p=_
  unfold bindC
  rw [rX fun v hv=>(List.nodup_cons.mp nd).1 (List.of_mem_zip hv).1,if_neg hk]
  simp
 | p :: P,w :: vs,i + 1,m,nd,h1,h2,hk=>by
  show bindC kindOf ((p,w) :: P.zip vs) m x=_
  unfold bindC
  exact rY (i:=i) (List.nodup_cons.mp nd).2 (by simpa using h1) (by simpa using h2) hk
def start (N:List Str) (vs:List V):St:=vs.map some ++ List.replicate (N.length - vs.length) none
def oK (CX:CXT) (P:Program) (w:World) (K:W.Frag) (mg:Str->Option Value) (base:Heap) (N:List Str) (qual:Str) (scope:Scope) (f:Addr) (cd:Value) (A:Around) (outer:List Env) (s:Shared) (H:Hp) (E:XK):Cx where
 prog:=P
 w:=w
 K:=K
 mg:=mg
 base:=base
 A:=A.deeper (envOfC qual scope s.heap.objs.size f cd)
 N:=N
 s₀:=s
 H₀:=H
 env:=envOfC qual scope s.heap.objs.size f cd
 outer:=outer
 stack:=envOfC qual scope s.heap.objs.size f cd :: outer
 ex:=[]
 calm:=true
 fn:=fun _=>true
 pn:=[]
 xe:=fun e s'=>wpAny (model P w) (A.deeper (envOfC qual scope s.heap.objs.size f cd)) (leaving (envOfC qual scope s.heap.objs.size f cd) e) (fun _ s''=>CX outer H s E e s'') (fun e' s''=>CX outer H s E e' s'') s'
theorem oO {sc:Scope} {n:Nat} {x:Str} (h:sc.names.lookup x=some .cell):∃ c,(cellsFrom n sc.names []).lookup x=some c:=by
 have q:=W.cellsFrom_some sc.names n [] (.inl h)
 exact Option.isSome_iff_exists.mp q
theorem jS {CX:CXT} {P:Program} {w:World} {K:W.Frag} {mg:Str->Option Value} {base:Heap} {N ps:List Str} {qual:Str} {scope:Scope} {f:Addr} {cd:Value} {A:Around} {outer:List Env} {s s1:Shared} {H:Hp} {E:XK} {us:List Value} {vs:List V}
  (S:zQ N ps scope) (hd:A.handled=none) (e0:mO P w K mg base A outer s H) (hl:vs.length=ps.length) (r:zS vs us)
  (x:InCallC s s.heap.objs.size (bindL (envOfC qual scope s.heap.objs.size f cd).kindOf (ps.zip us) fun _=>none) (cellsFrom (s.heap.objs.size + 1) scope.names []) (bindC (envOfC qual scope s.heap.objs.size f cd).kindOf (ps.zip us) fun _=>none) s1) :
  Inv (oK CX P w K mg base N qual scope f cd A outer s H E) [] (start N vs) H s1:=by
 have hpl:ps.length <= N.length:=by have:=congrArg List.length S.pre;rw [zC7] at this;omega
 obtain ⟨h1,tk,rfl,hk⟩:=x.done
 have noA:∀ b:Addr,b ∉ (oK CX P w K mg base N qual scope f cd A outer s H E).ex:=fun b z=>absurd (show b ∈ ([]:List Addr) from z) (by simp)
 refine ⟨⟨e0.mod,S.kind,rfl,rfl,zCX _,fun y z c h1 h2=>?_,fun y hy=>?_,fun y c _ h=>?_,fun _=>hd,Around.frames_deeper e0.frames,.inr ⟨rfl,rfl⟩,fun b z=>absurd z (noA b),e0.bs,e0.bsz,fun b _ _=>noA b,fun b z=>absurd z (noA b),e0.funs,e0.frf⟩,
  rfl,e0.bare,Un.kept hk,⟨_,x.toInCall.ns,fun i y v h1 h2 h3=>?_⟩,fun y c h=>⟨_,x.cell y c h⟩,e0.hok.fresh (zCX _),fun y c h=>?_,fun p hp=>absurd (show p ∈ ([]:LAO) from hp) (by simp),e0.hok.kept hk,?_⟩
 ·exact name_of_addr x.apart (PySem.mem_of_lookup h1) (PySem.mem_of_lookup h2)
 ·have hy:scope.names.lookup y=some .cell \/ scope.names.lookup y=some .free:=hy
  rcases hy with hy | hy
  ·exact oO hy
  ·exact absurd rfl (S.nofree _ (PySem.mem_of_lookup hy))
 ·exact Nat.le_of_lt (x.above y c (PySem.mem_of_lookup h))
 ·have hi:i < vs.length:=by
   unfold start at h2
   by_cases hi:i < vs.length
   ·exact hi
   ·rw [zDB (by simpa using hi)] at h2
    rw [List.getElem?_replicate] at h2
    split at h2 <;> cases h2
  have ha:vs[i]?=some v:=by
   unfold start at h2
   rw [zDC (by simpa using hi),zCU] at h2
   cases e:vs[i]? with
   | none=>rw [e] at h2;cases h2
   | some a=>rw [e] at h2;cases h2;rfl
  obtain ⟨u,hu,rv⟩:=r.get ha
  have hp:ps[i]?=some y:=by
   rw [<- S.pre,List.getElem?_take_of_lt (by omega)];exact h1
  have ndP:ps.Nodup:=by rw [<- S.pre];exact S.nd.sublist (List.take_sublist _ _)
  refine ⟨u,rv,?_⟩
  rcases S.par y (zCS hp) with k | k
  ·exact .inl ⟨k,rW ndP hp hu k⟩
  ·obtain ⟨c,e⟩:=oO (n:=s.heap.objs.size + 1) k
   refine .inr ⟨.inl k,c,e,?_⟩
   have q:=x.cell y c e
   rw [rY ndP hp hu (by show scope.names.lookup y ≠ _;rw [k];decide)] at q
   exact q
 ·exact e0.hok.fresh (Nat.le_of_lt (x.above y c (PySem.mem_of_lookup h)))
 ·unfold start
  show _=N.length
  rw [zC6,zCO,List.length_replicate]
  omega
theorem zCC {CX:CXT} {P:Program} {w:World} {K:W.Frag} {mg:Str->Option Value} {base:Heap} {k:Nat} {f:Addr} {name qual:Str} {params:Arguments} {body:List Stmt} {scope:Scope} {dV kV doc pm cdv ct oc:Value} {an od:Option Addr}
  {osl:Array (Option Value)} {N ps:List Str} {sp:Sp} (lk:K.lookup f=some ⟨oc,od,.func (W.fnOf name qual params body scope dV kV doc pm an cdv ct),osl⟩) (hcd:W.codeIn K cdv qual=true) (S:zQ N ps scope)
  (len:∀ vs H Q E,sp vs H Q E->vs.length=ps.length)
  (hbody:∀ (A:Around) (outer:List Env) (s:Shared) (H:Hp) (vs:List V) (Q:VK) (E:XK),z9 k (A.deeper (envOfC qual scope s.heap.objs.size f cdv))->sp vs H Q E ->
   ∃ t,PSs (oK CX P w K mg base N qual scope f cdv A outer s H E) body t/\t { nx:=fun _ H'=>Q .non H',rt:=Q } (start N vs) H) :
  vJ P w K mg base CX (k + 1) f (W.fnOf name qual params body scope dV kV doc pm an cdv ct) ps sp:=by
 refine ⟨len,fun A outer s H args us vs Q E hr e0 hb r hsp=>?_⟩
 have hl:=len _ _ _ _ hsp
 have KX:K.In s.heap:=e0.mod.kin.keeps fun b o e=>(e0.bs b o e).1
 have lim:s.heap.NoLimit:=e0.mod.nolimit.keeps fun b o e=>(e0.bs b o e).1
 have hkind:∀ y ∈ ps.zip us,scope.names.lookup y.1=some .local \/ (scope.names.lookup y.1=some .cell/\((cellsFrom (s.heap.objs.size + 1) scope.names []).lookup y.1).isSome=true):=fun ⟨n,v⟩ hy=>by
  rcases S.par n (List.of_mem_zip hy).1 with q | q
  ·exact .inl q
  ·exact .inr ⟨q,W.cellsFrom_some _ _ _ (.inl q)⟩
 refine codeAny_call_function hr.depth (KX _ _ lk) rfl S.co S.gen rfl (W.codeRec_of KX hcd) (hb _ _ _ _ ?_)
 refine wpAny_newFunctionEnv_cells S.kind hkind fun env he s1 x=>?_
 subst he
 refine ⟨lim.keeps x.toInCall.keep,codeAny_func ?_⟩
 obtain ⟨t,ht,hq⟩:=hbody A outer s H vs Q E (hr.deeper _) hsp
 have I:Inv (oK CX P w K mg base N qual scope f cdv A outer s H E) [] (start N vs) H s1:=jS S hr.hd e0 hl r x
 refine wpAny_mono (ht [] s1 (start N vs) H _ I hq) (fun fl s' hs=>?_) fun e s' hs=>hs
 have fin:∀ {σ':St} {H':Hp} {v:V} {u:Value},Inv (oK CX P w K mg base N qual scope f cdv A outer s H E) [] σ' H' s'->zX v u->Q v H'->CE outer P w H s Q u s':=
  fun {σ' H' v u} J rv q=>⟨v,H',J.os,J.bare,J.base,J.hok,rv,q⟩
 cases fl with
 | ret u=>
  obtain ⟨v,σ',H',J,rv,q⟩:=hs
  exact fin J rv q
 | next=>
  obtain ⟨σ',H',J,q⟩:=hs
  exact fin (v:=V.non) (u:=Value.none) J rfl q
 | brk=>
  obtain ⟨_,_,_,q⟩:=hs
  exact False.elim q
 | cont=>
  obtain ⟨_,_,_,q⟩:=hs
  exact False.elim q
section
variable {X:Cx} {x:Str} {p pos:Pos} {e:Expr} {es:List Expr} {t:TA} {id T:String} {r:List V->Hp->VK->Prop}
def tCB (r:List V->Hp->VK->Prop) (t:TA):TE:=fun σ H Q=>t σ H fun vs H1=>r vs H1 Q
theorem hG (hc:uS X (.builtin id) r) (hg:Gl X x) (hm:X.mg x=none) (hv:bootBuiltins x=some (.builtin id)) (ha:PA X (e :: es) t) (hn:x ≠ "__name__":=by decide) (hdb:(x == ("__debug__" : Str))=false:=by decide)
  (he:starEach (e :: es) X.env=(false,eval e X.env) :: starEach es X.env:=by rfl) (hpl:(backTo pos (starEach es X.env)).any (·.1)=false:=by rfl):PE X (.Call (.Name x p) (e :: es) [] pos) (tCB r t):=by
 intro qp s σ H Q I h
 refine wpAny_Call_Name_kw (sM I hg hm hv ?_ hn hdb)
 exact PyProof.Rows.callWith_builtin1 (thn (ha pos qp s σ H _ I h) fun us s1 ⟨vs,H1,I1,r1,q1⟩=>hc qp s1 σ H1 vs us Q I1 r1 q1) he hpl
theorem wW (hc:uS X (.type T) r) (hg:Gl X x) (hm:X.mg x=none) (hv:bootBuiltins x=some (.type T)) (ha:PA X (e :: es) t) (hn:x ≠ "__name__":=by decide) (hdb:(x == ("__debug__" : Str))=false:=by decide)
  (he:starEach (e :: es) X.env=(false,eval e X.env) :: starEach es X.env:=by rfl) (hpl:(backTo pos (starEach es X.env)).any (·.1)=false:=by rfl):PE X (.Call (.Name x p) (e :: es) [] pos) (tCB r t):=by
 intro qp s σ H Q I h
 refine wpAny_Call_Name_kw (sM I hg hm hv ?_ hn hdb)
 exact PyProof.Rows.callWith_type1 (thn (ha pos qp s σ H _ I h) fun us s1 ⟨vs,H1,I1,r1,q1⟩=>hc qp s1 σ H1 vs us Q I1 r1 q1) he hpl
end
end L2
namespace HT
open PySem PyProof.Rows
section
open PySem.SeqAt
open PySem.AutoSeq1 (wpAny_loadPart')
open PySem.MeetsSeq PySem.MeetsSeq2 PySem.MeetsSeq3
end
section
variable {prog:Program} {w:World} {A:Around} {E:Value->Shared->Prop} {s:Shared}
def sIx (n d:Nat):Option Int->Nat
 | none=>d
 | some v=>if v < 0 then (v + (n:Int)).toNat else min v.toNat n
theorem sIx_none (n d:Nat):sIx n d none=d:=rfl
end
end HT
namespace L2
open PySem PySem.Spec PyProof.Rows
abbrev TO:=St->Hp->(Option Int->Hp->Prop)->Prop
def PO (X:Cx) (e:Option Expr) (t:TO):Prop:=
 ∀ (qp:LAO) (s:Shared) (σ:St) (H:Hp) (Q:Option Int->Hp->Prop),Inv X qp σ H s->t σ H Q ->
  wpAny (model X.prog X.w) X.A (evalPart e X.env) (fun u s'=>∃ o H',Inv X qp σ H' s'/\IsPart u o/\Q o H') X.xe s
def eG:TO:=fun _ H Q=>Q none H
def zA5 (t:TE):TO:=fun σ H Q=>t σ H fun x H1=>∃ i,x=.int i/\Q (some i) H1
section
variable {X:Cx} {e:Expr} {te:TE} {lo hi:Option Expr} {tl th:TO} {pos p2:Pos}
theorem qN:PO X none eG:=by
 intro qp s σ H Q I h
 rw [evalPart_none]
 exact wpAny_pure ⟨none,H,I,.none,h⟩
theorem uF (h:PE X e te):PO X (some e) (zA5 te):=by
 intro qp s σ H Q I hw
 rw [evalPart_some]
 refine thn (h qp s σ H _ I hw) fun u s1 hz34=>?_
 obtain ⟨x,H1,I1,r1,q1⟩:=hz34
 obtain ⟨i,rfl,q⟩:=q1
 obtain ⟨t,rfl⟩:=r1
 exact ⟨some i,H1,I1,.int i t,q⟩
def SlR (X:Cx) (r:V->Option Int->Option Int->Hp->VK->Prop):Prop:=
 ∀ (qp:LAO) (s:Shared) (σ:St) (H:Hp) (x:V) (v vl vu:Value) (lo hi:Option Int) (sl:Addr) (Q:VK),Inv X qp σ H s->zX x v->s.heap.IsSliceOf sl vl vu .none->IsPart vl lo->IsPart vu hi->r x lo hi H Q ->
  ∃ T id,typeLookup (.type T) "__getitem__"=pure (some (.builtin id))/\s.TypeIs v T/\wpAny (model X.prog X.w) X.A (getItem v (.ref sl)) (EP X qp σ Q) X.xe s
def tSl (r:V->Option Int->Option Int->Hp->VK->Prop) (te:TE) (tl th:TO):TE:=fun σ H Q=>te σ H fun x H1=>tl σ H1 fun l H2=>th σ H2 fun u H3=>r x l u H3 Q
theorem uH {r:V->Option Int->Option Int->Hp->VK->Prop} (hr:SlR X r) (he:PE X e te) (hl:PO X lo tl) (hu:PO X hi th):PE X (.Subscript e (.Slice lo hi none p2) pos) (tSl r te tl th):=by
 intro qp s σ H Q I h
 refine Subscript_ (thn (he qp s σ H _ I h) fun v s1 hz35=>?_)
 obtain ⟨x,H1,I1,r1,q1⟩:=hz35
 refine wpAny_Slice (thn (hl qp s1 σ H1 _ I1 q1) fun vl s2 hz36=>?_)
 obtain ⟨l,H2,I2,pl,q2⟩:=hz36
 refine thn (hu qp s2 σ H2 _ I2 q2) fun vu s3 hz37=>?_
 obtain ⟨u,H3,I3,pu,q3⟩:=hz37
 rw [evalPart_none]
 refine wpAny_pure ?_
 have I4:Inv X qp σ H3 { s3 with heap:=s3.heap.push { cls:=.type "slice",data:=.fields #[vl,vu,.none] } }:=I3.kept (t':=s3.toks) fun b ob q=>Heap.get?_push_of_some _ q
 obtain ⟨T,id,hT,ht,hg⟩:=hr qp { s3 with heap:=s3.heap.push { cls:=.type "slice",data:=.fields #[vl,vu,.none] } } σ H3 x v vl vu l u s3.heap.objs.size Q I4 r1 (Heap.IsSliceOf.new ..) pl pu q3
 show wpAny (model X.prog X.w) X.A (subscriptTail e (.Slice lo hi none p2) v (.ref s3.heap.objs.size)) (EP X qp σ Q) X.xe { s3 with heap:=s3.heap.push { cls:=.type "slice",data:=.fields #[vl,vu,.none] } }
 exact tail_any (ops:=[.ref s3.heap.objs.size,v]) ht hT hg (by with_unfolding_all rfl)
def tP (xs:List V) (lo hi:Option Int):List V:=(xs.drop (HT.sIx xs.length 0 lo)).take (HT.sIx xs.length xs.length hi - HT.sIx xs.length 0 lo)
theorem oM (xs:List V) (lo hi:Option Int):(tP xs lo hi).length <= xs.length:=by
 unfold tP
 rw [zC7,List.length_drop]
 omega
end
def ixN (n:Nat) (i:Int):Option Nat:=if 0 <= i then (if i < n then some i.toNat else none) else if -(n:Int) <= i then some (i + n).toNat else none
def atI {α:Type} (xs:List α) (i:Int):Option α:=(ixN xs.length i).bind fun j=>xs[j]?
theorem kD {n:Nat} {i:Int} {j:Nat} (h:ixN n i=some j):seqIndex? i n=some j/\j < n/\-(n:Int) <= i/\i < n:=by
 unfold ixN at h
 by_cases h0:0 <= i
 ·rw [if_pos h0] at h
  by_cases h1:i < n
  ·rw [if_pos h1] at h
   have e:i.toNat=j:=zCV h
   exact ⟨by rw [seqIndex_of h0 h1,e],by omega,by omega,h1⟩
  ·rw [if_neg h1] at h;cases h
 ·rw [if_neg h0] at h
  by_cases h1:-(n:Int) <= i
  ·rw [if_pos h1] at h
   have e:(i + n).toNat=j:=zCV h
   exact ⟨by rw [seqIndex_neg (by omega) h1,e],by omega,h1,by omega⟩
  ·rw [if_neg h1] at h;cases h
theorem pG {α:Type} {xs:List α} {i:Int} {v:α} (h:atI xs i=some v):∃ j,seqIndex? i xs.length=some j/\xs[j]?=some v/\j < xs.length/\-(xs.length:Int) <= i/\i < xs.length:=by
 unfold atI at h
 cases e:ixN xs.length i with
 | none=>rw [e] at h;cases h
 | some j=>
  rw [e] at h
  obtain ⟨h1,h2,h3,h4⟩:=kD e
  exact ⟨j,h1,h,h2,h3,h4⟩
theorem xN {α:Type} {xs:List α} {j:Nat} {v:α} (h:xs[j]?=some v):atI xs (j:Int)=some v:=by
 have hj:j < xs.length:=(zCQ.mp h).1
 have e:ixN xs.length (j:Int)=some j:=by
  unfold ixN
  rw [if_pos (by omega),if_pos (by omega)];simp
 unfold atI;rw [e];exact h
theorem fP {α:Type} (xs:List α) (v:α):atI (xs ++ [v]) (-1)=some v:=by
 have hl:(xs ++ [v]).length=xs.length + 1:=by simp
 have e:ixN (xs ++ [v]).length (-1)=some xs.length:=by
  unfold ixN
  rw [hl,if_neg (by decide),if_pos (by omega)]
  congr 1
  omega
 unfold atI
 rw [e]
 show (xs ++ [v])[xs.length]?=some v
 simp
def cU (b:Expr):Prop:=∀ o i,subscripted b false o i=operate [o,i] (getItem o i)
def IxR (X:Cx) (r:R2):Prop:=
 ∀ (value slice:Expr) (qp:LAO) (s:Shared) (σ:St) (H:Hp) (x y:V) (v u:Value) (Q:VK),Inv X qp σ H s->zX x v->zX y u->r x y H Q ->
  subscripted slice false v u=operate [v,u] (getItem v u)->wpAny (model X.prog X.w) X.A (subscriptTail value slice v u) (EP X qp σ Q) X.xe s
def MtR (X:Cx) (id:String) (r:V->List V->Hp->VK->Prop):Prop:=
 ∀ (qp:LAO) (s:Shared) (σ:St) (H:Hp) (x:V) (xs:List V) (v:Value) (us:List Value) (Q:VK),Inv X qp σ H s->zX x v->zS xs us->r x xs H Q ->
  wpAny (model X.prog X.w) X.A (call (.builtin id) (v :: us)) (EP X qp σ Q) X.xe s
section
variable {X:Cx} {a b:Expr} {ta tb:TE} {pos:Pos}
theorem zT {r:R2} (hr:IxR X r) (ha:PE X a ta) (hb:PE X b tb) (hs:cU b):PE X (.Subscript a b pos) (tOp r ta tb):=by
 intro qp s σ H Q I h
 exact Subscript_ (zAW ha hb I h fun v u s2 x y H2 I2 rx ry q=>hr a b qp s2 σ H2 x y v u Q I2 rx ry q (hs _ _))
def rIxL (K:W.Frag):R2:=fun x y H Q=>∃ p xs i v,x=.ref p/\y=.int i/\SqL K H p xs/\atI xs i=some v/\Q v H
def rIxT (K:W.Frag):R2:=fun x y H Q=>∃ p xs i v,x=.ref p/\y=.int i/\SqT K H p xs/\atI xs i=some v/\Q v H
def rIxS:R2:=fun x y H Q=>∃ z i c,x=.str z/\y=.int i/\z.length <= sizeLine/\atI z.cps.toList i=some c/\Q (.str ⟨#[c]⟩) H
theorem kC:IxR X (rIxL X.K):=by
 intro value slice qp s σ H x y v u Q I rx ry h hs
 obtain ⟨p,xs,i,z,rfl,rfl,hq,he,q⟩:=h
 cases rx
 obtain ⟨t,rfl⟩:=ry
 obtain ⟨its,r,pl,hz⟩:=I.list hq
 obtain ⟨j,h1,h2,h3,h4,h5⟩:=pG he
 obtain ⟨w,ew,rw'⟩:=r.get h2
 have hl:=r.length
 have hn:=u5
 have fin:EP X qp σ Q w s:=⟨z,H,I,rw',q⟩
 by_cases h0:0 <= i
 ·have hj:i.toNat=j:=by
   rw [seqIndex_of h0 h5] at h1
   exact zCV h1
  exact item_listR pl.isList h0 (by omega) (by rw [hj];simpa using ew) fin hs
 ·have hj:(i + (its.toArray.size:Int)).toNat=j:=by
   rw [seqIndex_neg (by omega) h4] at h1
   rw [zCW,<- hl]
   exact zCV h1
  exact subscriptTail_builtinR (x:=w) pl.isList.typeIs slot_list_getitem.lookup
   (wpAny_getItem_list_neg (Q:=fun r s'=>r=w/\EP X qp σ Q r s') pl.isList (by omega) (by rw [zCW] <;> omega) (by omega) (by rw [hj];simpa using ew) ⟨rfl,fin⟩) hs
theorem zAP:IxR X (rIxT X.K):=by
 intro value slice qp s σ H x y v u Q I rx ry h hs
 obtain ⟨p,xs,i,z,rfl,rfl,hq,he,q⟩:=h
 cases rx
 obtain ⟨t,rfl⟩:=ry
 obtain ⟨its,r,pl,hz⟩:=I.tuple hq
 obtain ⟨j,h1,h2,h3,h4,h5⟩:=pG he
 obtain ⟨w,ew,rw'⟩:=r.get h2
 have hl:=r.length
 have hn:=u5
 have fin:EP X qp σ Q w s:=⟨z,H,I,rw',q⟩
 exact subscriptTail_builtinR (x:=w) pl.typeIs slot_tuple_getitem.lookup
  (getItem_tuple (j:=j) (Q:=fun r s'=>r=w/\EP X qp σ Q r s') pl (by omega) (by omega) (by rw [zCW,<- hl];exact h1) (by simpa using ew) ⟨rfl,fin⟩) hs
theorem gQ:IxR X rIxS:=by
 intro value slice qp s σ H x y v u Q I rx ry h hs
 obtain ⟨z,i,c,rfl,rfl,hz,he,q⟩:=h
 obtain ⟨t,rfl⟩:=rx
 obtain ⟨t',rfl⟩:=ry
 obtain ⟨j,h1,h2,h3,h4,h5⟩:=pG he
 have hl:z.cps.toList.length=z.length:=by simp [Str.length]
 rw [hl] at h1 h4 h5
 have hn:=u5
 exact tail_any (typeIs_str s z t) slot_str_getitem.lookup (getItem_str (c:=c) (by
  have e1:decide (i < -(2 ^ 63:Int))=false:=zC4 (by omega)
  have e2:decide (i >= 2 ^ 63)=false:=zC4 (by omega)
  rw [e1,e2,Bool.or_false]) (by rw [h1];simpa using h2) ⟨.str ⟨#[c]⟩,H,I.tok _,⟨_,rfl⟩,q⟩) hs
theorem nT (its:List Value) (n j:Nat) (u:Value):Obj.mapSeq (·.setIfInBounds j u) { cls:=.type "list",data:=.seq its.toArray n } = { cls:=.type "list",data:=.seq (its.set j u).toArray n }:=by
 simp [Obj.mapSeq]
theorem Inv.lst {qp:LAO} {σ:St} {H:Hp} {s:Shared} {p:Addr} {xs:List V} (I:Inv X qp σ H s) (h:H p=some (.lst xs)) :
  ∃ (its:List Value) (n:Nat),zS xs its/\s.heap.get? p=some { cls:=.type "list",data:=.seq its.toArray n }/\xs.length <= sizeLine:=by
 obtain ⟨z,its,n,r,e⟩:=I.hok p _ h
 exact ⟨its,n,r,e,z⟩
theorem Inv.lstUpd {qp:LAO} {σ:St} {H:Hp} {s:Shared} {p:Addr} {xs ys:List V} {its its':List Value} {n n':Nat} {f:Obj->Obj} (I:Inv X qp σ H s) (h:H p=some (.lst xs))
  (ho:s.heap.get? p=some { cls:=.type "list",data:=.seq its.toArray n }) (hf:f { cls:=.type "list",data:=.seq its.toArray n } = { cls:=.type "list",data:=.seq its'.toArray n' }) (r:zS ys its') (hz:ys.length <= sizeLine) (t:Nat) :
  Inv X qp σ (upd H p (.lst ys)) { s with heap:=s.heap.update p f,toks:=t }:=by
 have e:(s.heap.update p f).get? p=some { cls:=.type "list",data:=.seq its'.toArray n' }:=by
  rw [Heap.get?_update_self f ho (by rw [hf] <;> rfl),hf]
 refine I.write (x:=p) (e:=p) (by rw [h];trivial) (.inl rfl) (fun b u hb q=>(Heap.get?_update_other _ _ (Ne.symm hb)).trans q) ⟨_,e⟩ ?_
 exact ⟨hz,its',n',r,e⟩
def bE:V->V->V->Hp->(Hp->Prop)->Prop:=fun o i v H Q=>∃ p xs k j,o=.ref p/\i=.int k/\H p=some (.lst xs)/\ixN xs.length k=some j/\Q (upd H p (.lst (xs.set j v)))
theorem pQ:zCM X bE:=by
 intro qp s σ H o i v ov iv u Q I ro ri rv h
 obtain ⟨p,xs,k,j,rfl,rfl,hp,hj,q⟩:=h
 cases ro
 obtain ⟨t,rfl⟩:=ri
 obtain ⟨its,n,r,ho,hz⟩:=I.lst hp
 obtain ⟨h1,h2,h3,h4⟩:=kD hj
 have hl:=r.length
 have hn:=u5
 have I':Inv X qp σ (upd H p (.lst (xs.set j v))) { s with heap:=s.heap.update p (Obj.mapSeq (·.setIfInBounds j u)) }:=
  I.lstUpd hp ho (nT its n j u) (r.set rv j) (by rw [List.length_set];exact hz) s.toks
 by_cases h0:0 <= k
 ·have hk:k.toNat=j:=by
   rw [seqIndex_of h0 h4] at h1
   exact zCV h1
  exact W.ki_setAt ho h0 (by omega) (by rw [zCW,<- hl];exact h4) (by rw [hk];exact ⟨_,I',q⟩)
 ·have hk:(k + (its.toArray.size:Int)).toNat=j:=by
   rw [seqIndex_neg (by omega) h3] at h1
   rw [zCW,<- hl]
   exact zCV h1
  exact W.ki_setBack ho (by omega) (by rw [zCW,<- hl];exact h3) (by omega) (by rw [hk];exact ⟨_,I',q⟩)
theorem qD (lo hi:Option Int) (n:Nat):(sliceBounds lo hi none n).1=((HT.sIx n 0 lo:Nat):Int)/\(sliceBounds lo hi none n).2.1=((HT.sIx n n hi:Nat):Int)/\(sliceBounds lo hi none n).2.2=1:=by
 refine ⟨?_,?_,rfl⟩
 ·cases lo with
  | none=>simp [sliceBounds,HT.sIx]
  | some i=>
   simp only [sliceBounds,HT.sIx,Option.getD_none,show (1:Int) > 0 by decide,if_true]
   by_cases h:i < 0
   ·simp only [h,if_true] <;> omega
   ·simp only [h,if_false] <;> omega
 ·cases hi with
  | none=>simp [sliceBounds,HT.sIx]
  | some i=>
   simp only [sliceBounds,HT.sIx,Option.getD_none,show (1:Int) > 0 by decide,if_true]
   by_cases h:i < 0
   ·simp only [h,if_true] <;> omega
   ·simp only [h,if_false] <;> omega
theorem rB (its:List Value) (lo hi:Option Int):slicePick its.toArray lo hi none=((its.drop (HT.sIx its.length 0 lo)).take (HT.sIx its.length its.length hi - HT.sIx its.length 0 lo)).toArray:=by
 obtain ⟨h1,h2,h3⟩:=qD lo hi its.toArray.size
 unfold slicePick
 rw [h1,h2,h3]
 simp only [sliceRange_one,pick_run,zCW] <;> rfl
def rSlL (K:W.Frag):V->Option Int->Option Int->Hp->VK->Prop:=fun x lo hi H Q=>∃ a xs,x=.ref a/\SqL K H a xs/\∀ p,H p=none->Q (.ref p) (upd H p (.lst (tP xs lo hi)))
theorem qE:SlR X (rSlL X.K):=by
 intro qp s σ H x v vl vu lo hi sl Q I rx hs pl pu h
 obtain ⟨a,xs,rfl,hx,q⟩:=h
 cases rx
 obtain ⟨its,r,ht,hz⟩:=I.list hx
 have hlen:=r.length
 refine ⟨"list",_,slot_list_getitem.lookup,ht.isList.typeIs,?_⟩
 refine wpAny_getItem_list_slice ht.isList hs pl pu .none (by simp) ?_ (by rw [zCW] <;> omega)
 rw [rB,<- hlen]
 refine ⟨.ref s.heap.objs.size,_,I.laid (t':=s.toks) (o:=.lst (tP xs lo hi)) (fun b ob q=>Heap.get?_push_of_some _ q) (zCX _) ?_,rfl,q _ (I.hok.fresh (zCX _))⟩
 exact ⟨zCZ (oM xs lo hi) hz,_,0,(r.drop (HT.sIx xs.length 0 lo)).take (HT.sIx xs.length xs.length hi - HT.sIx xs.length 0 lo),Heap.get?_push_size _ rfl⟩
def yY:V->Bool
 | .non=>true
 | .bl _=>true
 | .int _=>true
 | .str _=>true
 | _=>false
def eqV:V->V->Bool
 | .non,.non=>true
 | .bl a,.bl b=>a == b
 | .bl a,.int b=>(if a then 1 else 0) == b
 | .int a,.bl b=>a == (if b then 1 else 0)
 | .int a,.int b=>a == b
 | .str a,.str b=>a == b
 | _,_=>false
theorem pC {A:Around} {s:Shared} {y x:V} {u v:Value} (ry:zX y u) (rx:zX x v) (fy:yY y=true) (fx:yY x=true):SeqAt.EqAt A s u v (eqV y x):=by
 cases y with
 | non=>
  cases ry
  cases x with
  | non=>cases rx;exact SeqAt.EqAt.same _
  | bl b=>cases rx;exact SeqAt.EqAt.none_bool b
  | int b=>obtain ⟨t,rfl⟩:=rx;exact SeqAt.EqAt.none_int b t
  | str b=>obtain ⟨t,rfl⟩:=rx;exact SeqAt.EqAt.none_str b t
  | _=>exact absurd (show false=true from fx) zDG
 | bl a=>
  cases ry
  cases x with
  | non=>cases rx;exact SeqAt.EqAt.bool_none a
  | bl b=>cases rx;exact SeqAt.EqAt.bool_bool a b
  | int b=>obtain ⟨t,rfl⟩:=rx;exact SeqAt.EqAt.bool_int a b t
  | str b=>obtain ⟨t,rfl⟩:=rx;exact SeqAt.EqAt.bool_str a b t
  | _=>exact absurd (show false=true from fx) zDG
 | int a=>
  obtain ⟨t',rfl⟩:=ry
  cases x with
  | non=>cases rx;exact SeqAt.EqAt.int_none a t'
  | bl b=>cases rx;exact SeqAt.EqAt.int_bool a t' b
  | int b=>obtain ⟨t,rfl⟩:=rx;exact SeqAt.EqAt.int_int a t' b t
  | str b=>obtain ⟨t,rfl⟩:=rx;exact SeqAt.EqAt.int_str a t' b t
  | _=>exact absurd (show false=true from fx) zDG
 | str a=>
  obtain ⟨t',rfl⟩:=ry
  cases x with
  | non=>cases rx;exact SeqAt.EqAt.str_none a t'
  | bl b=>cases rx;exact SeqAt.EqAt.str_bool a t' b
  | int b=>obtain ⟨t,rfl⟩:=rx;exact SeqAt.EqAt.str_int a t' b t
  | str b=>obtain ⟨t,rfl⟩:=rx;exact SeqAt.EqAt.str_str a t' b t
  | _=>exact absurd (show false=true from fx) zDG
 | _=>exact absurd (show false=true from fy) zDG
def eqU (x:V) (u:Value):Bool:=match u with
 | .none=>eqV .non x
 | .bool b=>eqV (.bl b) x
 | .int i _=>eqV (.int i) x
 | .str z _=>eqV (.str z) x
 | _=>false
theorem fA {x y:V} {u:Value} (r:zX y u) (f:yY y=true):eqU x u=eqV y x:=by
 cases y with
 | non=>cases r;rfl
 | bl b=>cases r;rfl
 | int i=>obtain ⟨t,rfl⟩:=r;rfl
 | str z=>obtain ⟨t,rfl⟩:=r;rfl
 | _=>exact absurd (show false=true from f) zDG
theorem pH {x:V}:∀ {xs:List V} {us:List Value},zS xs us->xs.all yY=true->us.any (eqU x)=xs.any fun y=>eqV y x
 | _,_,.nil,_=>rfl
 | y :: xs,u :: us,.cons r t,f=>by
  rw [List.all_cons,Bool.and_eq_true] at f
  rw [List.any_cons,List.any_cons,fA r f.1,pH t f.2]
theorem sL {A:Around} {s:Shared} {x:V} {v:Value} (rx:zX x v) (fx:yY x=true):∀ {xs:List V} {us:List Value},zS xs us->xs.all yY=true->∀ u ∈ us,SeqAt.EqAt A s u v (eqU x u)
 | _,_,.nil,_=>fun u hu=>by cases hu
 | y :: xs,u :: us,.cons r t,f=>fun u' hu=>by
  rw [List.all_cons,Bool.and_eq_true] at f
  rcases List.mem_cons.mp hu with rfl | hu
  ·rw [fA r f.1];exact pC r rx f.1 fx
  ·exact sL rx fx t f.2 u' hu
def inV (x:V) (xs:List V):Bool:=xs.any fun y=>eqV y x
def rIn (K:W.Frag) (neg:Bool):R2:=fun x y H Q=>∃ p xs,y=.ref p/\(SqL K H p xs \/ SqT K H p xs)/\yY x=true/\xs.all yY=true/\Q (.bl (if neg then !inV x xs else inV x xs)) H
theorem u3:OpR X (compareOp .In) (rIn X.K false):=by
 intro qp s σ H x y v u Q I rx ry h
 obtain ⟨p,xs,rfl,hq,fx,fs,q⟩:=h
 cases ry
 rcases hq with hq | hq
 ·obtain ⟨its,r,pl,hz⟩:=I.list hq
  refine SeqAt.in_listAt (eqU x) pl.isList (fun w hw=>sL rx fx r fs w (by simpa using hw)) ⟨.bl _,H,I,rfl,?_⟩
  rw [show its.toArray.any (eqU x)=its.any (eqU x) by simp,pH r fs]
  exact q
 ·obtain ⟨its,r,pl,hz⟩:=I.tuple hq
  refine SeqAt.in_tupleAt (eqU x) pl (fun w hw=>sL rx fx r fs w (by simpa using hw)) ⟨.bl _,H,I,rfl,?_⟩
  rw [show its.toArray.any (eqU x)=its.any (eqU x) by simp,pH r fs]
  exact q
theorem pE:uS X (.type "list") (fun xs H Q=>∃ p ys,xs=[.ref p]/\(SqL X.K H p ys \/ SqT X.K H p ys)/\∀ l,H l=none->Q (.ref l) (upd H l (.lst ys))):=by
 intro qp s σ H xs us Q I r h
 obtain ⟨p,ys,rfl,hq,q⟩:=h
 obtain ⟨u,rfl,rx⟩:=pK r
 cases rx
 have fin:∀ (its:List Value),zS ys its->ys.length <= sizeLine->∀ (h':Heap) (c':Nat),(∀ b o',s.heap.get? b=some o'->h'.get? b=some o') ->
   h'.get? s.heap.objs.size=some { cls:=.type "list",dict:=none,data:=.seq its.toArray c',slots:=#[] }->EP X qp σ Q (.ref s.heap.objs.size) { s with heap:=h' }:=fun its r' hz h' c' kp e=>
  ⟨.ref s.heap.objs.size,_,I.laid (t':=s.toks) kp (zCX _) (show yQ X.prog X.w _ h' _ (.lst ys) from ⟨hz,its,c',r',e⟩),rfl,q _ (I.hok.fresh (zCX _))⟩
 rcases hq with hq | hq
 ·obtain ⟨its,r',pl,hz⟩:=I.list hq
  have hlen:=r'.length
  obtain ⟨o,ho,hc,n,hd⟩:=pl.isList
  exact call_list_seq p (.inl rfl) ho hc hd (fun h' c' kp e=>fin its r' hz h' c' kp e) (by simp only [zCW] <;> omega)
 ·obtain ⟨its,r',pl,hz⟩:=I.tuple hq
  have hlen:=r'.length
  obtain ⟨o,ho,hc,n,hd⟩:=pl
  exact call_list_seq p (.inr rfl) ho hc hd (fun h' c' kp e=>fin its r' hz h' c' kp e) (by simp only [zCW] <;> omega)
def tyV (K:W.Frag) (T:String) (x:V) (H:Hp):Prop:=match x with
 | .str _=>T="str"
 | .int _=>T="int"
 | .ref p=>(T="list"/\∃ xs,SqL K H p xs) \/ (T="tuple"/\∃ o,K.lookup p=some o/\o.cls=.type "tuple"/\o.dict=none) \/
   (T="dict"/\((∃ kvs,H p=some (.dK kvs)) \/ ∃ kvs,H p=some (.dT kvs))) \/ (T="set"/\∃ S n,H p=some (.set S n))
 | _=>False
theorem iA {qp:LAO} {σ:St} {H:Hp} {s:Shared} {T:String} {x:V} {v:Value} (I:Inv X qp σ H s) (r:zX x v) (ty:tyV X.K T x H) :
  s.TypeIs v T/\∀ a,v=.ref a->∃ ob,s.heap.get? a=some ob/\ob.dict=none:=by
 cases x with
 | str z=>
  obtain ⟨t,rfl⟩:=r
  cases (show T="str" from ty)
  exact ⟨typeIs_str s z t,fun _ e=>nomatch e⟩
 | int i=>
  obtain ⟨t,rfl⟩:=r
  cases (show T="int" from ty)
  exact ⟨typeIs_int s i t,fun _ e=>nomatch e⟩
 | ref p=>
  cases r
  rcases ty with ⟨rfl,xs,hq⟩ | ⟨rfl,o,hk,hc,hd⟩ | ⟨rfl,hk⟩ | ⟨rfl,S,n,hk⟩
  ·obtain ⟨its,_,pl,_⟩:=I.list hq
   refine ⟨pl.isList.typeIs,fun a e=>?_⟩
   cases e
   obtain ⟨o,n,e,c,hd,_⟩:=pl
   exact ⟨o,e,hd⟩
  ·refine ⟨⟨o,I.kIn p o hk,hc⟩,fun a e=>?_⟩
   cases e
   exact ⟨o,I.kIn _ o hk,hd⟩
  ·have z:∃ o,s.heap.get? p=some o/\o.ExactDict:=by
    rcases hk with ⟨kvs,hk⟩ | ⟨kvs,hk⟩
    ·obtain ⟨_,_,_,_,o,_,_,e,ex,_⟩:=I.hok p _ hk
     exact ⟨o,e,ex⟩
    ·obtain ⟨_,_,_,_,o,_,_,e,ex,_⟩:=I.hok p _ hk
     exact ⟨o,e,ex⟩
   obtain ⟨o,e,ex⟩:=z
   refine ⟨⟨o,e,ex.1⟩,fun a e2=>?_⟩
   cases e2
   exact ⟨o,e,ex.2.1⟩
  ·obtain ⟨o,_,_,_,e,ex,_⟩:=I.hok p _ hk
   refine ⟨⟨o,e,ex.1⟩,fun a e2=>?_⟩
   cases e2
   exact ⟨o,e,ex.2.1⟩
 | _=>exact False.elim ty
def tBM0 (K:W.Frag) (T:String) (r:V->List V->Hp->VK->Prop) (to:TE):TE:=fun σ H Q=>to σ H fun x H1=>tyV K T x H1/\r x [] H1 Q
def tBM (K:W.Frag) (T:String) (r:V->List V->Hp->VK->Prop) (to:TE) (t:TA):TE:=fun σ H Q=>to σ H fun x H1=>tyV K T x H1/\t σ H1 fun xs H2=>r x xs H2 Q
variable {o e:Expr} {es:List Expr} {to:TE} {t:TA} {name:Str} {apos cpos:Pos} {T id:String} {r:V->List V->Hp->VK->Prop}
theorem aR (pa:PlainAttrs T) (slot:Slot T name id) (hty:typeOf (.builtin id)=pure (.type "method_descriptor")) (hm:MtR X id r) (ho:PE X o to)
  (hbase:attributeBase o name X.env (eval o X.env)=eval o X.env:=by rfl) (hline:(apos.endLine == cpos.line)=true:=by rfl):PE X (.Call (.Attribute o name apos) [] [] cpos) (tBM0 X.K T r to):=by
 intro qp s σ H Q I h
 refine wpAny_Call_method0_late hbase hline (thn (ho qp s σ H _ I h) fun v s1 hz38=>?_)
 obtain ⟨x,H1,I1,r1,ty,q1⟩:=hz38
 obtain ⟨h1,h2⟩:=iA I1 r1 ty
 exact ⟨T,id,pa,slot,hty,h1,h2,Calls.callWith_builtin rfl (PySem.evalArgs_none (hm qp s1 σ H1 x [] v [] Q I1 r1 .nil q1))⟩
theorem wX (pa:PlainAttrs T) (slot:Slot T name id) (hty:typeOf (.builtin id)=pure (.type "method_descriptor")) (hm:MtR X id r) (ho:PE X o to) (ha:PA X (e :: es) t)
  (hbase:attributeBase o name X.env (eval o X.env)=eval o X.env:=by rfl)
  (hfew:((backTo cpos (starEach (e :: es) X.env)).all (fun x=>!x.1) && (backToKw cpos (keywordEach [] X.env)).all (fun x=>x.1.isSome)
   && decide ((e :: es).length + ([]:List Keyword).length + (if ([]:List Keyword).isEmpty then 0 else 1) < 30))=true:=by rfl)
  (hline:(apos.endLine == cpos.line)=true:=by rfl) (hs:starEach (e :: es) X.env=(false,eval e X.env) :: starEach es X.env:=by rfl) (hplain:(backTo cpos (starEach es X.env)).any (·.1)=false:=by rfl) :
  PE X (.Call (.Attribute o name apos) (e :: es) [] cpos) (tBM X.K T r to t):=by
 intro qp s σ H Q I h
 refine wpAny_Call_method_late hbase hfew hline rfl (thn (ho qp s σ H _ I h) fun v s1 hz39=>?_)
 obtain ⟨x,H1,I1,r1,ty,q1⟩:=hz39
 obtain ⟨h1,h2⟩:=iA I1 r1 ty
 refine ⟨T,id,pa,slot,hty,h1,h2,?_⟩
 have hA:=ha cpos qp s1 σ H1 _ I1 q1
 rw [hs] at hA ⊢
 refine Calls.callWith_builtin (by show (false || (backTo cpos (starEach es X.env)).any (·.1))=false;rw [hplain] <;> rfl) (Calls.evalArgs_plain ?_)
 exact thn hA fun us s2 ⟨vs,H2,I2,r2,q2⟩=>hm qp s2 σ H2 x vs v us Q I2 r1 r2 q2
end
def MtM (X:Cx) (id:String) (r:V->List V->Hp->VK->Prop):Prop:=
 ∀ (qp:LAO) (s:Shared) (σ:St) (H:Hp) (x:V) (xs:List V) (v:Value) (us:List Value) (Q:VK),Inv X qp σ H s->zX x v->zS xs us->r x xs H Q ->
  wpAny (model X.prog X.w) X.A (call (.builtin id) (v :: us)) (EP X qp σ Q) X.xe s
theorem zS.one {x:V} {us:List Value} (h:zS [x] us):∃ u,us=[u]/\zX x u:=by
 cases h with
 | cons r k=>cases k;exact ⟨_,rfl,r⟩
theorem zS.two {x y:V} {us:List Value} (h:zS [x,y] us):∃ u v,us=[u,v]/\zX x u/\zX y v:=by
 cases h with
 | cons r k=>cases k with
  | cons q m=>cases m;exact ⟨_,_,rfl,r,q⟩
theorem zS.zero:∀ {us:List Value},zS [] us->us=[]
 | _,.nil=>rfl
theorem zS.dropLast {xs:List V} {us:List Value} (h:zS xs us):zS xs.dropLast us.dropLast:=by
 induction h with
 | nil=>exact .nil
 | cons r t ih=>
  cases t with
  | nil=>exact .nil
  | cons q t'=>exact .cons r ih
theorem zS.eraseIdx:∀ {xs:List V} {us:List Value} (i:Nat),zS xs us->zS (xs.eraseIdx i) (us.eraseIdx i)
 | _,_,_,.nil=>.nil
 | _,_,0,.cons _ t=>t
 | _,_,i + 1,.cons r t=>.cons r (zS.eraseIdx i t)
theorem zS.rep {xs:List V} {us:List Value} (h:zS xs us):∀ k:Nat,zS (List.replicate k xs).flatten (List.replicate k us).flatten
 | 0=>.nil
 | k + 1=>by
  rw [List.replicate_succ,List.replicate_succ,List.flatten_cons,List.flatten_cons]
  exact zS.append h (zS.rep h k)
theorem mE {α:Type} (l:List α):l.eraseIdx (l.length - 1)=l.dropLast:=by
 induction l with
 | nil=>rfl
 | cons a r ih=>
  cases r with
  | nil=>rfl
  | cons b r=>
   have e:(a :: b :: r).length - 1=((b :: r).length - 1) + 1:=by
    have h1:(a :: b :: r).length=r.length + 2:=rfl
    have h2:(b :: r).length=r.length + 1:=rfl
    omega
   rw [e,List.eraseIdx_cons_succ,ih]
   all_goals rfl
theorem vN {α:Type}:∀ (l:List α) (i:Nat),(l.eraseIdx i).length <= l.length
 | [],_=>zCX _
 | _ :: _,0=>Nat.le_succ _
 | _ :: r,i + 1=>Nat.succ_le_succ (vN r i)
theorem rP (its:List Value):∀ (k:Nat) (acc:List Value),
  List.foldl (fun x1 x2=>x1 ++ x2) acc.toArray (List.replicate k its.toArray)=(acc ++ (List.replicate k its).flatten).toArray
 | 0,acc=>by simp
 | k + 1,acc=>by
  have e:acc.toArray ++ its.toArray=(acc ++ its).toArray:=by simp
  have e2:(acc ++ its) ++ (List.replicate k its).flatten=acc ++ (List.replicate (k + 1) its).flatten:=by
   rw [List.replicate_succ,List.flatten_cons,zDJ]
  rw [<- e2,<- rP its k (acc ++ its),<- e,List.replicate_succ,List.foldl_cons]
section
variable {X:Cx} {qp:LAO} {σ:St} {H:Hp} {s:Shared} {l b:Addr} {xs ys zs:List V}
theorem Inv.lset {its its':List Value} {n:Nat} {f:Array Value->Array Value} {t':Nat} (I:Inv X qp σ H s) (hH:H l=some (.lst xs))
  (e:s.heap.get? l=some { cls:=.type "list",data:=.seq its.toArray n }) (hf:f its.toArray=its'.toArray) (hv:zS ys its') (hz:ys.length <= sizeLine) :
  Inv X qp σ (upd H l (.lst ys)) { s with heap:=s.heap.update l (Obj.mapSeq f),toks:=t' }:=by
 have q:=PySem.IsL.update e f
 rw [hf] at q
 refine I.write (x:=l) (e:=l) (by rw [hH];exact trivial) (.inl rfl) (fun b' u hb hu=>(Heap.get?_update_other s.heap (Obj.mapSeq f) (Ne.symm hb)).trans hu) ⟨_,q⟩ ?_
 exact ⟨hz,its',_,hv,q⟩
theorem Inv.lnew {its:List Value} {t':Nat} (I:Inv X qp σ H s) (hv:zS ys its) (hz:ys.length <= sizeLine) :
  Inv X qp σ (upd H s.heap.objs.size (.lst ys)) { s with heap:=s.heap.push { cls:=.type "list",data:=.seq its.toArray },toks:=t' }:=
 I.laid (fun _ _ q=>Heap.get?_push_of_some _ q) (zCX _) ⟨hz,its,0,hv,Heap.get?_push_size _ rfl⟩
theorem Inv.fresh (I:Inv X qp σ H s):H s.heap.objs.size=none:=I.hok.fresh (zCX _)
theorem Inv.lstM (I:Inv X qp σ H s) (hH:H l=some (.lst xs)):xs.length <= sizeLine/\∃ (its:List Value) (n:Nat),zS xs its/\xs.length=its.length/\s.heap.get? l=some { cls:=.type "list",data:=.seq its.toArray n }:=by
 obtain ⟨z,its,n,r,e⟩:=I.hok l _ hH
 exact ⟨z,its,n,r,r.length,e⟩
theorem gB {n:Nat} (h:n <= sizeLine):Builtin.List.listTooLong n=false:=by
 unfold Builtin.List.listTooLong
 exact zC4 (by omega)
end
section
variable {X:Cx}
def dA:V->List V->Hp->VK->Prop:=fun x vs H Q=>∃ l xs y,x=.ref l/\vs=[y]/\H l=some (.lst xs)/\xs.length < sizeLine/\Q .non (upd H l (.lst (xs ++ [y])))
theorem y2:MtM X "list.append" dA:=by
 intro qp s σ H x vs v us Q I rx rv h
 obtain ⟨l,xs,y,rfl,rfl,hH,hz,q⟩:=h
 cases rx
 obtain ⟨u,rfl,ru⟩:=rv.one
 obtain ⟨z,its,n,r,hl,e⟩:=I.lstM hH
 refine call_meets F.slot_list_append ⟨_,e,rfl⟩ F.entry_list_append (F.args_list_append_2 _ _) (PySem.list_append l its.toArray n u (by rw [zCW];omega)) ⟨e,?_⟩
 refine ⟨.non,_,I.lset (its':=its ++ [u]) hH e (by simp) (r.append (.cons ru .nil)) ?_,rfl,q⟩
 rw [zC6,List.length_singleton]
 omega
def rPop:V->List V->Hp->VK->Prop:=fun x vs H Q=>∃ l xs y,x=.ref l/\vs=[]/\H l=some (.lst xs)/\xs[xs.length - 1]?=some y/\Q y (upd H l (.lst xs.dropLast))
theorem zAJ:MtM X "list.pop" rPop:=by
 intro qp s σ H x vs v us Q I rx rv h
 obtain ⟨l,xs,y,rfl,rfl,hH,hy,q⟩:=h
 cases rx
 have hus:=rv.zero
 subst hus
 obtain ⟨z,its,n,r,hl,e⟩:=I.lstM hH
 obtain ⟨u,hu,ru⟩:=r.get hy
 have hy':its.toArray[its.toArray.size - 1]?=some u:=by
  show its.toArray[its.length - 1]?=some u
  rw [<- Array.getElem?_toList,<- hl]
  exact hu
 refine call_meets F.slot_list_pop ⟨_,e,rfl⟩ F.entry_list_pop (F.args_list_pop_1 _) (MeetsSeq.list_pop_last l its.toArray n u hy' (by rw [zCW];omega)) ⟨e,?_⟩
 refine ⟨y,_,I.lset (its':=its.dropLast) hH e ?_ r.dropLast ?_,ru,q⟩
 ·show its.toArray.eraseIdxIfInBounds (its.toArray.size - 1)=its.dropLast.toArray
  rw [zCW,List.eraseIdxIfInBounds_toArray,mE]
 ·rw [List.length_dropLast]
  omega
def aJ:V->List V->Hp->VK->Prop:=fun x vs H Q=>∃ l xs i k y,x=.ref l/\vs=[.int i]/\H l=some (.lst xs)/\-(2 ^ 63) <= i/\i < 2 ^ 63/\seqIndex? i xs.length=some k/\xs[k]?=some y/\Q y (upd H l (.lst (xs.eraseIdx k)))
theorem p6:MtM X "list.pop" aJ:=by
 intro qp s σ H x vs v us Q I rx rv h
 obtain ⟨l,xs,i,k,y,rfl,rfl,hH,h1,h2,hk,hy,q⟩:=h
 cases rx
 obtain ⟨u,rfl,ru⟩:=rv.one
 obtain ⟨t,rfl⟩:=ru
 obtain ⟨z,its,n,r,hl,e⟩:=I.lstM hH
 obtain ⟨w,hw,rw'⟩:=r.get hy
 refine call_meets F.slot_list_pop ⟨_,e,rfl⟩ F.entry_list_pop (F.args_list_pop_2 _ _)
  (MeetsSeq.list_pop_at l its.toArray n i t k w (fitsIndex_both h1 h2) (by rw [zCW,<- hl];exact hk) (by rw [<- Array.getElem?_toList];exact hw) (by rw [zCW];omega)) ⟨e,?_⟩
 refine ⟨y,_,I.lset (its':=its.eraseIdx k) hH e ?_ (r.eraseIdx k) ?_,rw',q⟩
 ·show its.toArray.eraseIdxIfInBounds k=(its.eraseIdx k).toArray
  rw [List.eraseIdxIfInBounds_toArray]
 ·have:=vN xs k
  omega
def rCat:R2:=fun x y H Q=>∃ l b xs zs,x=.ref l/\y=.ref b/\H l=some (.lst xs)/\H b=some (.lst zs)/\xs.length + zs.length <= sizeLine/\∀ p,H p=none->Q (.ref p) (upd H p (.lst (xs ++ zs)))
theorem vU:OpR X (binaryOp .Add) rCat:=by
 intro qp s σ H x y v u Q I rx ry h
 obtain ⟨l,b,xs,zs,rfl,rfl,hH,hB,hz,q⟩:=h
 cases rx
 cases ry
 obtain ⟨z,its,n,r,hl,e⟩:=I.lstM hH
 obtain ⟨z2,its2,n2,r2,hl2,e2⟩:=I.lstM hB
 refine PySem.P.add_list e e2 ?_ (by rw [zCW,zCW];omega)
 have ea:its.toArray ++ its2.toArray=(its ++ its2).toArray:=by simp
 rw [ea]
 exact ⟨.ref _,_,I.lnew (t':=s.toks) (r.append r2) (by rw [zC6];omega),rfl,q _ I.fresh⟩
def rRep:R2:=fun x y H Q=>∃ l k xs,x=.ref l/\y=.int k/\H l=some (.lst xs)/\-(2 ^ 63) <= k/\k < 2 ^ 63/\xs.length * k.toNat <= sizeLine /\
 ∀ p,H p=none->Q (.ref p) (upd H p (.lst (List.replicate k.toNat xs).flatten))
theorem d4 {α:Type} (xs:List α) (k:Nat):(List.replicate k xs).flatten.length=k * xs.length:=by
 induction k with
 | zero=>simp
 | succ k ih=>rw [List.replicate_succ,List.flatten_cons,zC6,ih,Nat.succ_mul,Nat.add_comm]
theorem aT:OpR X (binaryOp .Mult) rRep:=by
 intro qp s σ H x y v u Q I rx ry h
 obtain ⟨l,k,xs,rfl,rfl,hH,h1,h2,hz,q⟩:=h
 cases rx
 obtain ⟨t,rfl⟩:=ry
 obtain ⟨z,its,n,r,hl,e⟩:=I.lstM hH
 have hlen:its.toArray.size * k.toNat <= sizeLine:=by rw [zCW,<- hl];exact hz
 have hcap:¬ its.toArray.size * k.toNat > (2 ^ 63 - 1) / 8:=by
  have:(sizeLine:Nat) <= (2 ^ 63 - 1) / 8:=by decide
  omega
 have hfit:¬ (!Builtin.List.listFitsIndex k)=true:=by
  rw [fitsIndex_both h1 h2]
  exact zDG
 have hlong:¬ Builtin.List.listTooLong (its.toArray.size * k.toNat)=true:=by
  rw [gB hlen]
  exact zDG
 have hnew:List.foldl (fun x1 x2=>x1 ++ x2) #[] (List.replicate (if its.toArray.isEmpty=true then 0 else k.toNat) its.toArray)=(List.replicate k.toNat its).flatten.toArray:=by
  have f0:∀ m:Nat,List.foldl (fun x1 x2=>x1 ++ x2) #[] (List.replicate m its.toArray)=(List.replicate m its).flatten.toArray:=fun m=>by
   have:=rP its m []
   rw [List.nil_append] at this
   exact this
  rw [f0]
  cases its with
  | nil=>simp
  | cons a r'=>rw [if_neg (by simp)]
 refine wpAny_binaryOp_repeat_ref (T:="list") (U:="int") (by decide) ⟨_,e,rfl⟩ (fun s'=>typeIs_int s' k t) noFill_list_mul F.fills_int_mul F.slot_int_rmul repeat_list F.slot_int_index.lookup
  (call_meets F.slot_int_rmul (typeIs_int s k t) F.entry_int_rmul (F.args_int_rmul_2 _ _) (int___rmul___int_list k t l its.toArray n)
   ⟨e,rfl,⟨_,e,rfl⟩,call_meets F.slot_list_mul ⟨_,e,rfl⟩ F.entry_list_mul (F.args_list_mul_2 _ _) (AutoListH.list___mul___list_int_3 l its.toArray n k t hfit hcap hlong) ⟨e,?_⟩⟩)
 rw [hnew]
 exact ⟨.ref _,_,I.lnew (t':=s.toks) (r.rep k.toNat) (by rw [d4,Nat.mul_comm];exact hz),rfl,q _ I.fresh⟩
end
section
variable {prog:Program} {w:World} {A:Around} {E:VSP} {s:Shared}
end
section
variable {X:Cx}
end
section
variable {κ:Type} [DecidableEq κ]
def wL (kvs:List (κ × V)) (k:κ):Option V:=(kvs.find? fun kv=>decide (kv.1=k)).map (·.2)
def wE (kvs:List (κ × V)) (k:κ) (v:V):List (κ × V):=
 if (kvs.any fun kv=>decide (kv.1=k))=true then kvs.map (fun kv=>if kv.1=k then (kv.1,v) else kv) else kvs ++ [(k,v)]
theorem wR {p:κ × V} {r:List (κ × V)} {k:κ} (e:p.1=k):wL (p :: r) k=some p.2:=by simp [wL,List.find?_cons,e]
theorem xV {p:κ × V} {r:List (κ × V)} {k:κ} (e:¬ p.1=k):wL (p :: r) k=wL r k:=by simp [wL,List.find?_cons,e]
theorem sB (k:κ):∀ kvs:List (κ × V),(kvs.any fun kv=>decide (kv.1=k))=(wL kvs k).isSome
 | []=>rfl
 | p :: r=>by
  rw [List.any_cons]
  by_cases e:p.1=k
  ·simp only [wR e,zC3 e,Bool.true_or,Option.isSome_some]
  ·rw [xV e,zC4 e,Bool.false_or];exact sB k r
theorem vF (kvs:List (κ × V)) (k:κ) (v:V):(wE kvs k v).length <= kvs.length + 1:=by
 unfold wE
 split
 ·rw [zCO];omega
 ·rw [zC6,zC9,List.length_nil];omega
theorem sF {kvs:List (κ × V)} {k:κ} (v:V) (h:wL kvs k=none):wE kvs k v=kvs ++ [(k,v)]:=by
 unfold wE
 rw [sB,h]
 exact if_neg (by decide)
theorem vQ.isSome_eq {o:Option V} {u:Option Value} (r:vQ o u):o.isSome=u.isSome:=by
 cases o with
 | none=>cases u with
  | none=>rfl
  | some _=>exact (show False from r).elim
 | some _=>cases u with
  | none=>exact (show False from r).elim
  | some _=>rfl
theorem KV.val {kvs:List (κ × V)} {vs:List (κ × Value)} (r:KV kvs vs) (k:κ):vQ (wL kvs k) (valueAt vs k):=by
 unfold KV at r
 induction r with
 | nil=>exact True.intro
 | @cons p q ps qs h t ih=>
  obtain ⟨h1,h2⟩:=h
  by_cases e:p.1=k
  ·have e':q.1=k:=h1.symm.trans e
   have b:valueAt (q :: qs) k=some q.2:=by simp [valueAt,List.find?_cons,e']
   rw [wR e,b];exact h2
  ·have e':¬ q.1=k:=fun z=>e (h1.trans z)
   have b:valueAt (q :: qs) k=valueAt qs k:=by simp [valueAt,List.find?_cons,e']
   rw [xV e,b];exact ih
theorem KV.any {kvs:List (κ × V)} {vs:List (κ × Value)} (r:KV kvs vs) (k:κ):(kvs.any fun kv=>decide (kv.1=k))=vs.any fun kv=>decide (kv.1=k):=by
 unfold KV at r
 induction r with
 | nil=>rfl
 | cons h t ih=>rw [List.any_cons,List.any_cons,ih,h.1]
theorem KV.repl {kvs:List (κ × V)} {vs:List (κ × Value)} (r:KV kvs vs) (k:κ) {y:V} {u:Value} (ry:zX y u) :
  KV (kvs.map fun kv=>if kv.1=k then (kv.1,y) else kv) (vs.map fun kv=>if kv.1=k then (kv.1,u) else kv):=by
 unfold KV at r ⊢
 induction r with
 | nil=>exact .nil
 | @cons p q ps qs h t ih=>
  rw [List.map_cons,List.map_cons]
  refine .cons ?_ ih
  obtain ⟨h1,h2⟩:=h
  by_cases e:p.1=k
  ·rw [if_pos e,if_pos (h1.symm.trans e)];exact ⟨h1,ry⟩
  ·rw [if_neg e,if_neg (fun z=>e (h1.trans z))];exact ⟨h1,h2⟩
theorem KV.put {kvs:List (κ × V)} {vs:List (κ × Value)} (r:KV kvs vs) (k:κ) {y:V} {u:Value} (ry:zX y u):KV (wE kvs k y) (stored vs k u):=by
 unfold wE stored
 rw [r.any k]
 by_cases e:(vs.any fun kv=>decide (kv.1=k))=true
 ·rw [if_pos e,if_pos e];exact r.repl k ry
 ·rw [if_neg e,if_neg e];exact Paired.snoc r ⟨rfl,ry⟩
theorem KV.length {kvs:List (κ × V)} {vs:List (κ × Value)} (r:KV kvs vs):kvs.length=vs.length:=Paired.length r
end
theorem oE {P:Program} {w:World} {k:Key} {u:Value} (r:zX (kV k) u):(yP P w).is k u=true:=by
 cases k with
 | inl i=>obtain ⟨t,e⟩:=(show ∃ t,u=Value.int i t from r);subst e;exact p8 P w i t
 | inr x=>obtain ⟨t,e⟩:=(show ∃ t,u=Value.str x t from r);subst e;exact p7 P w x t
theorem rN {P:Program} {w:World}:∀ {ks:List Key} {us:List Value},zS (ks.map kV) us->ItemsAre (yP P w) ks us
 | [],_,r=>by rw [List.map_nil] at r;cases r;exact .nil
 | k :: ks,_,r=>by
  rw [List.map_cons] at r
  cases r with
  | cons h t=>exact .cons (oE h) (rN t)
abbrev KT (H:Hp):List (List Key × V)->List (List Key × Addr × Value)->Prop:=Paired fun p q=>p.1=q.1/\H q.2.1=some (.tup (p.1.map kV))/\zX p.2 q.2.2
theorem KT.val {H:Hp} {kvs:List (List Key × V)} {xs:List (List Key × Addr × Value)} (r:KT H kvs xs) (k:List Key):vQ (wL kvs k) ((atKey xs k).map (·.2)):=by
 induction r with
 | nil=>exact True.intro
 | @cons p q ps qs h t ih=>
  obtain ⟨h1,_,h2⟩:=h
  by_cases e:p.1=k
  ·have e':q.1=k:=h1.symm.trans e
   have b:atKey (q :: qs) k=some q.2:=by simp [atKey,List.find?_cons,e']
   rw [wR e,b];exact h2
  ·have e':¬ q.1=k:=fun z=>e (h1.trans z)
   have b:atKey (q :: qs) k=atKey qs k:=by simp [atKey,List.find?_cons,e']
   rw [xV e,b];exact ih
theorem KT.repl {H:Hp} {kvs:List (List Key × V)} {xs:List (List Key × Addr × Value)} (r:KT H kvs xs) (k:List Key) {y:V} {u:Value} (ry:zX y u) :
  KT H (kvs.map fun kv=>if kv.1=k then (kv.1,y) else kv) (xs.map (putAt k u)):=by
 induction r with
 | nil=>exact .nil
 | @cons p q ps qs h t ih=>
  rw [List.map_cons,List.map_cons]
  refine .cons ?_ ih
  obtain ⟨h1,h2,h3⟩:=h
  unfold putAt
  by_cases e:p.1=k
  ·rw [if_pos e,if_pos (h1.symm.trans e)];exact ⟨h1,h2,ry⟩
  ·rw [if_neg e,if_neg (fun z=>e (h1.trans z))];exact ⟨h1,h2,h3⟩
theorem KT.put {H:Hp} {kvs:List (List Key × V)} {xs:List (List Key × Addr × Value)} (r:KT H kvs xs) (k:List Key) {b:Addr} {y:V} {u:Value} (hb:H b=some (.tup (k.map kV))) (ry:zX y u) :
  KT H (wE kvs k y) (storedH xs k b u):=by
 have e:(kvs.any fun kv=>decide (kv.1=k))=(atKey xs k).isSome:=by
  rw [sB,(r.val k).isSome_eq,Option.isSome_map]
 unfold wE storedH
 rw [e]
 by_cases q:(atKey xs k).isSome=true
 ·rw [if_pos q,if_pos q];exact r.repl k ry
 ·rw [if_neg q,if_neg q];exact Paired.snoc r ⟨rfl,hb,ry⟩
theorem KT.keeps {H H':Hp} {kvs:List (List Key × V)} {xs:List (List Key × Addr × Value)} (r:KT H kvs xs) (ht:∀ b ys,H b=some (.tup ys)->H' b=some (.tup ys)):KT H' kvs xs:=
 Paired.mapP r fun _ _ z=>⟨z.1,ht _ _ z.2.1,z.2.2⟩
section
variable {P:Program} {w:World} {H:Hp} {h:Heap} {a:Addr}
theorem bD {u:HO} (ok:HOk P w H h) (e:Rd H a u):yQ P w H h a u:=e.ok ok
theorem kJ {kvs:List (Key × V)} (ok:HOk P w H h) (e:Rd H a (.dK kvs)):kvs.length <= sizeLine/\(a == sysModules)=false/\∃ vs,KV kvs vs/\h.DictOf (yP P w) a vs:=
 show yQ P w H h a (.dK kvs) from bD ok e
theorem bU {kvs:List (Key × V)} (ok:HOk P w H h) (e:H a=some (.dK kvs)):kvs.length <= sizeLine/\(a == sysModules)=false/\∃ vs,KV kvs vs/\h.DictOf (yP P w) a vs:=kJ ok (.inl e)
theorem qX {ks:List Key} (ok:HOk P w H h) (e:H a=some (.tup (ks.map kV))):(tupleKind (yP P w)).is h ks a:=by
 obtain ⟨_,its,r,o,h1,h2,n,h3⟩:=(show yQ P w H h a (.tup (ks.map kV)) from ok a _ e)
 exact ⟨o,its.toArray,n,h1,h2,h3,by simpa using rN r⟩
theorem kI {kvs:List (List Key × V)} (ok:HOk P w H h) (e:Rd H a (.dT kvs)):kvs.length <= sizeLine/\(a == sysModules)=false /\
  ∃ xs,KT H kvs xs/\h.DictOfH (tupleKind (yP P w)) a xs:=by
 obtain ⟨z,y,xs,r,o,es,ep,h1,h2,h3,h4,h5⟩:=(show yQ P w H h a (.dT kvs) from bD ok e)
 refine ⟨z,y,xs,r,o,es,ep,h1,h2,h3,h4,fun x hx=>?_,h5⟩
 have all:∀ {l:List (List Key × V)} {m:List (List Key × Addr × Value)},KT H l m->∀ x ∈ m,(tupleKind (yP P w)).is h x.1 x.2.1:=by
  intro l m q
  induction q with
  | nil=>intro x hx;exact nomatch hx
  | @cons p q ps qs hq t ih=>
   intro x hx
   rcases List.mem_cons.mp hx with e | hx
   ·subst e
    exact qX ok (by rw [<- hq.1];exact hq.2.1)
   ·exact ih x hx
 exact all r x hx
theorem zCI {kvs:List (List Key × V)} (ok:HOk P w H h) (e:H a=some (.dT kvs)):kvs.length <= sizeLine/\(a == sysModules)=false /\
  ∃ xs,KT H kvs xs/\h.DictOfH (tupleKind (yP P w)) a xs:=kI ok (.inl e)
end
def tG (H:Hp) (a:Addr) (y:V) (r:Option V):Prop:=
 (∃ kvs k,Rd H a (.dK kvs)/\y=kV k/\r=wL kvs k) \/ ∃ kvs k b,Rd H a (.dT kvs)/\y=.ref b/\H b=some (.tup (k.map kV))/\r=wL kvs k
def rD (H:Hp) (a:Addr) (y v:V) (H':Hp):Prop:=
 (∃ kvs k,H a=some (.dK kvs)/\y=kV k/\kvs.length < sizeLine/\H'=upd H a (.dK (wE kvs k v))) \/
 ∃ kvs k b,H a=some (.dT kvs)/\y=.ref b/\H b=some (.tup (k.map kV))/\kvs.length < sizeLine/\H'=upd H a (.dT (wE kvs k v))
theorem tG.k {H:Hp} {a:Addr} {kvs:List (Key × V)} {k:Key} (e:H a=some (.dK kvs)):tG H a (kV k) (wL kvs k):=.inl ⟨kvs,k,.inl e,rfl,rfl⟩
theorem rD.k {H:Hp} {a:Addr} {kvs:List (Key × V)} {k:Key} {v:V} (e:H a=some (.dK kvs)) (hl:kvs.length < sizeLine):rD H a (kV k) v (upd H a (.dK (wE kvs k v))):=.inl ⟨kvs,k,e,rfl,hl,rfl⟩
theorem rD.t {H:Hp} {a b:Addr} {kvs:List (List Key × V)} {k:List Key} {v:V} (e:H a=some (.dT kvs)) (eb:H b=some (.tup (k.map kV))) (hl:kvs.length < sizeLine) :
  rD H a (.ref b) v (upd H a (.dT (wE kvs k v))):=.inr ⟨kvs,k,b,e,rfl,eb,hl,rfl⟩
section
variable {X:Cx} {qp:LAO} {σ:St} {H:Hp} {s:Shared} {a:Addr} {y v:V} {u r:Value} {o:Option V} {A:Around} {E:VSP}
theorem Inv.big (I:Inv X qp σ H s):sysModules < s.heap.objs.size:=by
 have h:mainGlobals < s.heap.objs.size:=(I.mod.glob.keeps I.bk).lt
 exact Nat.lt_trans (by decide) h
theorem jW {Q:VSP} (hu:A.units + 1 < cLine) (I:Inv X qp σ H s) (g:tG H a y (some v)) (ry:zX y u) (h:∀ w' s',Inv X qp σ H s'->zX v w'->Q w' s') :
  wpAny (model X.prog X.w) A (getItem (.ref a) u) Q E s:=by
 rcases g with ⟨kvs,k,e,ey,l⟩ | ⟨kvs,k,b,e,ey,eb,l⟩
 ·subst ey
  obtain ⟨z,hd,vs,rel,dd⟩:=kJ I.hok e
  obtain ⟨w',hw,rw'⟩:=vQ.some_of (v:=v) (o:=valueAt vs k) (by rw [l];exact rel.val k)
  exact wpAny_getItem_of (oE ry) dd.mapOf hw (h w' _ (I.tok _) rw')
 ·subst ey
  cases (show u=Value.ref b from ry)
  obtain ⟨z,hd,xs,rel,dd⟩:=kI I.hok e
  obtain ⟨w',hw,rw'⟩:=vQ.some_of (v:=v) (o:=(atKey xs k).map (·.2)) (by rw [l];exact rel.val k)
  obtain ⟨p,hp,hp2⟩:=Option.map_eq_some_iff.mp hw
  refine wpAny_getItem_heap (tupleKind_room_in1 hu) (qX I.hok eb) dd hp ?_
  rw [hp2]
  exact h w' _ (I.tok _) rw'
theorem cJ {Q:VSP} (hu:A.units + 1 < cLine) (I:Inv X qp σ H s) (g:tG H a y o) (ry:zX y u) (h:∀ s',Inv X qp σ H s'->Q (.bool (!o.isSome)) s') :
  wpAny (model X.prog X.w) A (compareOp .NotIn u (.ref a)) Q E s:=by
 rcases g with ⟨kvs,k,e,ey,l⟩ | ⟨kvs,k,b,e,ey,eb,l⟩
 ·subst ey
  obtain ⟨z,hd,vs,rel,dd⟩:=kJ I.hok e
  refine wpAny_notIn_of (oE ry) hd dd.mapOf ?_
  rw [<- (rel.val k).isSome_eq,<- l]
  exact h _ (I.tok _)
 ·subst ey
  cases (show u=Value.ref b from ry)
  obtain ⟨z,hd,xs,rel,dd⟩:=kI I.hok e
  refine wpAny_notIn_heap (tupleKind_room_in1 hu) (qX I.hok eb) hd dd ?_
  have q:=(rel.val k).isSome_eq
  rw [Option.isSome_map] at q
  rw [<- q,<- l]
  exact h _ (I.tok _)
theorem pD {h':Heap} {t':Nat} {ob:HO} (I:Inv X qp σ H s) (mu:Mut (H a)) (hs:Heap.SameBut a s.heap h') (he:∃ q,h'.get? a=some q) (new:yQ X.prog X.w (upd H a ob) h' a ob) :
  Inv X qp σ (upd H a ob) { s with heap:=h',toks:=t' }:=
 I.write (x:=a) (e:=a) mu (.inl rfl) (fun b q hb z=>(hs.2 b hb).trans z) he new
theorem fG {P:Program} {w:World} {H':Hp} {h':Heap} {kvs:List (Key × V)} {vs:List (Key × Value)} (z:kvs.length <= sizeLine) (hd:(a == sysModules)=false) (rel:KV kvs vs) (dd:h'.DictOf (yP P w) a vs) :
  yQ P w H' h' a (.dK kvs):=⟨z,hd,vs,rel,dd⟩
theorem jV {H':Hp} {Q:Unit->Shared->Prop} (hu:A.units + 1 < cLine) (I:Inv X qp σ H s) (g:rD H a y v H') (ry:zX y u) (rv:zX v r) (h:∀ s',Inv X qp σ H' s'->Q () s') :
  wpAny (model X.prog X.w) A (setItem (.ref a) u r) Q E s:=by
 rcases g with ⟨kvs,k,e,ey,l,eH⟩ | ⟨kvs,k,b,e,ey,eb,l,eH⟩
 ·subst ey eH
  obtain ⟨z,hd,vs,rel,dd⟩:=bU I.hok e
  have hz:vs.length <= sizeLine:=by rw [<- rel.length];exact z
  have hl:(wE kvs k v).length <= sizeLine:=by have:=vF kvs k v;omega
  refine wpAny_setItem_pairs (hsz:=hz) (oE ry) dd fun h' dd' hs=>h _ ?_
  have he:∃ q,h'.get? a=some q:=let ⟨q,_,_,hq,_⟩:=dd';⟨q,hq⟩
  exact pD I (by rw [e];exact True.intro) hs he (fG hl hd (rel.put k rv) dd')
 ·subst ey eH
  cases (show u=Value.ref b from ry)
  obtain ⟨z,hd,xs,rel,dd⟩:=zCI I.hok e
  have hz:xs.length <= sizeLine:=by rw [<- Paired.length rel];exact z
  have hl:(wE kvs k v).length <= sizeLine:=by have:=vF kvs k v;omega
  refine wpAny_setItem_heap (hsz:=hz) (tupleKind_room_in1 hu) (qX I.hok eb) dd fun h' dd' hs=>h _ ?_
  obtain ⟨q,es,ep,hq,h2,h3,h4,_,h5⟩:=dd'
  refine pD I (by rw [e];exact True.intro) hs ⟨q,hq⟩ ⟨hl,hd,_,(rel.put k eb rv).keeps fun c ys ec=>?_,q,es,ep,hq,h2,h3,h4,h5⟩
  rw [zJ (xA ec e (fun z=>nomatch z))]
  exact ec
end
section
variable {X:Cx} {qp:LAO} {σ:St} {H:Hp} {s:Shared} {a:Addr} {kvs:List (Key × V)} {k:Key} {u:Value} {A:Around} {E:VSP}
end
def zCN (i:Expr):Prop:=∀ ov iv,subscripted i false ov iv=operate [ov,iv] (getItem ov iv)
theorem eL {prog:Program} {w:World} {A:Around} {E:VSP} {s:Shared} {env:Env} {value slice:Expr} {pos:Pos} {T id:String} {Q:VSP}
  (hl:typeLookup (.type T) "__getitem__"=pure (some (.builtin id))) (hs:zCN slice)
  (h:wpAny (model prog w) A (eval value env) (fun o s₁=>wpAny (model prog w) A (eval slice env) (fun i s₂=>s₂.TypeIs o T/\wpAny (model prog w) A (getItem o i) Q E s₂) E s₁) E s) :
  wpAny (model prog w) A (eval (.Subscript value slice pos) env) Q E s:=by
 refine Subscript_ (wpAny_mono h (fun o s₁ h₁=>wpAny_mono h₁ (fun i s₂ h₂=>?_) fun _ _ x=>x) fun _ _ x=>x)
 obtain ⟨hT,h₂⟩:=h₂
 unfold subscriptTail
 refine wpAny_bind ?_
 rw [getitemInPython_of_ne hT.not_modules]
 refine wpAny_bind (wpAny_specialOf hT hl ?_)
 have fin:wpAny (model prog w) A (subscripted slice false o i) (fun r s₃=>wpAny (model prog w) A (letTemporaryGo value o r >>= fun _=>pure r) Q E s₃) E s₂:=by
  rw [hs o i]
  exact wpAny_operating (wpAny_mono h₂ (fun r s₃ h₃=>wpAny_bind (wpAny_letTemporaryGo (wpAny_pure h₃))) fun _ _ x=>x)
 first
  | exact wpAny_pure (wpAny_bind fin)
  | exact wpAny_bind (wpAny_pure (wpAny_bind fin))
  | exact wpAny_bind fin
theorem oJ {X:Cx} {qp:LAO} {σ:St} {H:Hp} {s:Shared} {a:Addr} {y:V} {o:Option V} (I:Inv X qp σ H s) (g:tG H a y o):s.TypeIs (.ref a) "dict":=by
 rcases g with ⟨kvs,k,e,_,_⟩ | ⟨kvs,k,b,e,_,_,_⟩
 ·obtain ⟨_,_,vs,_,dd⟩:=kJ I.hok e
  exact dd.typeIs
 ·obtain ⟨_,_,xs,_,dd⟩:=kI I.hok e
  exact dd.typeIs
def zA9 (td ty:TE):TE:=fun σ H Q=>td σ H fun x H1=>ty σ H1 fun y H2=>∃ a v,x=.ref a/\tG H2 a y (some v)/\Q v H2
def eJ (ty td:TE):TE:=fun σ H Q=>ty σ H fun y H1=>td σ H1 fun x H2=>∃ a o,x=.ref a/\tG H2 a y o/\Q (.bl (!o.isSome)) H2
def zBP (td ty tv:TE):TS:=fun D σ H=>tv σ H fun v H1=>td σ H1 fun x H2=>ty σ H2 fun y H3=>∃ a H4,x=.ref a/\rD H3 a y v H4/\D.nx σ H4
section
variable {X:Cx} {o i e value:Expr} {pos pos' tpos:Pos} {td ty tv:TE}
theorem yA (hu:X.A.units + 1 < cLine) (ho:PE X o td) (hi:PE X i ty) (hs:zCN i):PE X (.Subscript o i pos) (zA9 td ty):=by
 intro qp s σ H Q I h
 refine eL F.slot_dict_getitem.lookup hs (thn (ho qp s σ H _ I h) fun u s1 hz40=>?_)
 obtain ⟨x,H1,I1,rx,q1⟩:=hz40
 refine thn (hi qp s1 σ H1 _ I1 q1) fun iv s2 hz41=>?_
 obtain ⟨y,H2,I2,ry,a,v,ex,g,q2⟩:=hz41
 subst ex
 obtain rfl:u=Value.ref a:=rx
 exact ⟨oJ I2 g,jW hu I2 g ry fun w' s3 I3 rw'=>⟨v,H2,I3,rw',q2⟩⟩
theorem jH (hu:X.A.units + 1 < cLine) (hi:PE X i ty) (ho:PE X o td):PC X .NotIn i o (eJ ty td):=by
 intro qp s σ H Q I h
 refine thn (hi qp s σ H _ I h) fun iv s1 hz42=>?_
 obtain ⟨y,H1,I1,ry,q1⟩:=hz42
 refine thn (ho qp s1 σ H1 _ I1 q1) fun u s2 hz43=>?_
 obtain ⟨x,H2,I2,rx,a,ov,ex,g,q2⟩:=hz43
 subst ex
 obtain rfl:u=Value.ref a:=rx
 exact cJ hu I2 g ry fun s3 I3=>⟨.bl (!ov.isSome),H2,I3,rfl,q2⟩
theorem t7 (hu:X.A.units + 1 < cLine) (ho:PE X o td) (hi:PE X i ty) (hv:PE X value tv) (hs:swapsWith value (some (.Subscript o i pos')) pos.line X.env=pure false) :
  PS X (.Assign [.Subscript o i pos'] value pos) (zBP td ty tv):=by
 intro qp s σ H D I h
 refine wpAny_Assign_Subscript (thn (hv qp s σ H _ I h) fun r s1 hz44=>?_) hs
 obtain ⟨v,H1,I1,rv,q1⟩:=hz44
 refine thn (ho qp s1 σ H1 _ I1 q1) fun u s2 hz45=>?_
 obtain ⟨x,H2,I2,rx,q2⟩:=hz45
 refine thn (hi qp s2 σ H2 _ I2 q2) fun iv s3 hz46=>?_
 obtain ⟨y,H3,I3,ry,a,H4,ex,g,q3⟩:=hz46
 subst ex
 obtain rfl:u=Value.ref a:=rx
 exact jV hu I3 g ry rv fun s4 I4=>⟨σ,H4,I4,q3⟩
end
theorem oI {P:Program} {w:World} {H:Hp} (h:Heap) (hb:sysModules < h.objs.size):yQ P w H (h.push { cls:=.type "dict",data:=.dict #[] }) h.objs.size (.dK []):=
 ⟨zCY _,beq_eq_false_iff_ne.mpr (Ne.symm (zDF hb)),[],.nil,Heap.DictOf.new h⟩
theorem fE {P:Program} {w:World} {H:Hp} (h:Heap) (hb:sysModules < h.objs.size):yQ P w H (h.push { cls:=.type "dict",data:=.dict #[] }) h.objs.size (.dT []):=
 ⟨zCY _,beq_eq_false_iff_ne.mpr (Ne.symm (zDF hb)),[],.nil,_,#[],0,Heap.get?_push_size _ rfl,⟨rfl,rfl,rfl⟩,rfl,rfl,List.nodup_nil⟩
def b5:TE:=fun _ H Q=>∀ p,H p=none->Q (.ref p) (upd H p (.dK []))
def bZ:TE:=fun _ H Q=>∀ p,H p=none->Q (.ref p) (upd H p (.dT []))
section
variable {X:Cx} {pos:Pos}
theorem i9:PE X (.Dict [] [] pos) b5:=fun qp s σ H Q I h=>
 wpAny_Dict_empty ⟨.ref s.heap.objs.size,_,I.laid (a:=s.heap.objs.size) (o:=.dK []) (t':=s.toks) (fun _ _ q=>Heap.get?_push_of_some _ q) (zCX _) (oI s.heap I.big),rfl,h _ (I.hok.fresh (zCX _))⟩
theorem i8:PE X (.Dict [] [] pos) bZ:=fun qp s σ H Q I h=>
 wpAny_Dict_empty ⟨.ref s.heap.objs.size,_,I.laid (a:=s.heap.objs.size) (o:=.dT []) (t':=s.toks) (fun _ _ q=>Heap.get?_push_of_some _ q) (zCX _) (fE s.heap I.big),rfl,h _ (I.hok.fresh (zCX _))⟩
end
def oW:List (TE × TE)->St->Hp->(List (V × V)->Hp->Prop)->Prop
 | [],_,H,Q=>Q [] H
 | (tk,tv) :: r,σ,H,Q=>tk σ H fun x H1=>tv σ H1 fun y H2=>oW r σ H2 fun ps H3=>Q ((x,y) :: ps) H3
abbrev VV:List (V × V)->List (Value × Value)->Prop:=Paired fun p q=>zX p.1 q.1/\zX p.2 q.2
def PPs (X:Cx) (pos:Pos) (keys:List (Option Expr)) (values:List Expr) (trs:List (TE × TE)):Prop:=
 ∀ (qp:LAO) (s:Shared) (σ:St) (H:Hp) (Q:List (V × V)->Hp->Prop),Inv X qp σ H s->oW trs σ H Q ->
  wpAny (model X.prog X.w) X.A (evalPairs (pairTrees keys values X.env pos)) (fun vs s'=>∃ ps H',Inv X qp σ H' s'/\VV ps vs/\Q ps H') X.xe s
theorem dC {X:Cx} {pos:Pos}:PPs X pos [] [] []:=fun qp s σ H Q I h=>pairTrees_nil_walk ⟨[],H,I,.nil,h⟩
theorem iV {X:Cx} {pos:Pos} {k v:Expr} {ks:List (Option Expr)} {vs:List Expr} {tk tv:TE} {trs:List (TE × TE)} (hk:PE X k tk) (hv:PE X v tv) (hr:PPs X pos ks vs trs) :
  PPs X pos (some k :: ks) (v :: vs) ((tk,tv) :: trs):=fun qp s σ H Q I h=>
 pairTrees_cons_walk (thn (hk qp s σ H _ I h) fun u s1 ⟨x,H1,I1,rx,q1⟩=>thn (hv qp s1 σ H1 _ I1 q1) fun w2 s2 ⟨y,H2,I2,ry,q2⟩=>
  thn (hr qp s2 σ H2 _ I2 q2) fun ws s3 ⟨ps,H3,I3,rel,q3⟩=>⟨(x,y) :: ps,H3,I3,.cons ⟨rx,ry⟩ rel,q3⟩)
def vE (kvs more:List (Key × V)):List (Key × V):=more.foldl (fun acc kv=>wE acc kv.1 kv.2) kvs
theorem KV.merge:∀ {more:List (Key × V)} {rs:List (Key × Value)} {kvs:List (Key × V)} {vs:List (Key × Value)},KV more rs->KV kvs vs->KV (vE kvs more) (merged vs rs):=by
 intro more rs kvs vs r
 unfold KV at r
 induction r generalizing kvs vs with
 | nil=>intro q;exact q
 | @cons p q ps qs h t ih=>
  intro r0
  have e:KV (wE kvs p.1 p.2) (stored vs q.1 q.2):=by
   have:=r0.put p.1 h.2
   rw [<- h.1];exact this
  exact ih e
theorem vR:∀ (more kvs:List (Key × V)),(vE kvs more).length <= kvs.length + more.length
 | [],kvs=>by show kvs.length <= kvs.length + 0;omega
 | p :: r,kvs=>by
  have h1:=vR r (wE kvs p.1 p.2)
  have h2:=vF kvs p.1 p.2
  show (vE (wE kvs p.1 p.2) r).length <= _
  rw [zC9];omega
theorem sV {P:Program} {w:World}:∀ {kvs:List (Key × V)} {ws:List (Value × Value)},VV (kvs.map fun kv=>(kV kv.1,kv.2)) ws->∃ rs,Carries (yP P w) ws rs/\KV kvs rs
 | [],_,r=>by rw [List.map_nil] at r;cases r;exact ⟨[],True.intro,.nil⟩
 | p :: kvs,_,r=>by
  rw [List.map_cons] at r
  cases r with
  | @cons a b as bs h t=>
   obtain ⟨rs,c,q⟩:=sV (P:=P) (w:=w) t
   obtain ⟨b1,b2⟩:=b
   exact ⟨(p.1,b2) :: rs,⟨oE h.1,rfl,c⟩,.cons ⟨rfl,h.2⟩ q⟩
def zA8 (trs:List (TE × TE)):TE:=fun σ H Q=>∀ p,H p=none->oW trs σ (upd H p (.dK [])) fun ps H2=>H2 p=some (.dK [])/\∃ kvs:List (Key × V),ps=kvs.map (fun kv=>(kV kv.1,kv.2))/\kvs.length <= 15/\Q (.ref p) (upd H2 p (.dK (vE [] kvs)))
theorem dG {X:Cx} {pos:Pos} {keys:List (Option Expr)} {values:List Expr} {trs:List (TE × TE)} (h:PPs X pos keys values trs) (hall:keys.all (·.isSome)=true) (hl:keys.length=values.length) (h0:keys ≠ [])
  (h15:keys.length <= 15):PE X (.Dict keys values pos) (zA8 trs):=by
 intro qp s σ H Q I q
 have hn:=I.hok.fresh (zCX s.heap.objs.size)
 have I1:=I.laid (a:=s.heap.objs.size) (o:=.dK []) (h':=s.heap.push { cls:=.type "dict",data:=.dict #[] }) (t':=s.toks) (fun _ _ q=>Heap.get?_push_of_some _ q) (zCX _) (oI s.heap I.big)
 refine wpAny_Dict_walk (knd:=yP X.prog X.w) hall hl h0 h15 (thn (h qp _ σ _ _ I1 (q _ hn)) fun ws s2 hz47=>?_)
 obtain ⟨ps,H2,I2,rel,e,kvs,ep,lk,q2⟩:=hz47
 subst ep
 obtain ⟨rs,c,rk⟩:=sV (P:=X.prog) (w:=X.w) rel
 obtain ⟨z,hd,vs0,r0,dd⟩:=bU I2.hok e
 cases r0
 refine ⟨rs,c,dd,fun h' dd' hs=>⟨.ref s.heap.objs.size,_,?_,rfl,q2⟩⟩
 have hz:(vE [] kvs).length <= sizeLine:=by
  have h1:=vR kvs []
  rw [List.length_nil] at h1
  rw [sizeLine_eq];omega
 have he:∃ q,h'.get? s.heap.objs.size=some q:=let ⟨q,_,_,hq,_⟩:=dd';⟨q,hq⟩
 exact pD I2 (by rw [e];exact True.intro) hs he (fG hz hd (rk.merge .nil) dd')
section
variable {X:Cx} {qp:LAO} {σ:St} {H:Hp} {s:Shared} {a:Addr} {y d:V} {u r:Value} {o:Option V} {A:Around} {E:VSP}
end
section
variable {X:Cx} {o e f:Expr} {apos cpos:Pos} {td ty tx:TE}
end
section
variable {X:Cx} {qp:LAO} {σ:St} {H:Hp} {s:Shared} {a:Addr} {kvs:List (Key × V)} {A:Around} {E:VSP}
end
section
variable {X:Cx} {qp:LAO} {σ:St} {H:Hp} {s:Shared} {a:Addr} {y:V} {u:Value} {A:Around} {E:VSP}
end
end L2
namespace Att
open PySem PySem.W PySem.Calls PyProof.Rows
theorem ints_of_wellAll {P:Params} {h:Heap}:∀ (ns:List Int) (vs:List Value),WellAll P h vs (ns.map WData.int)->IntsAre vs ns:=by
 intro ns
 induction ns with
 | nil=>
  intro vs w
  rw [List.map_nil] at w
  cases w
  exact .nil
 | cons n ns ih=>
  intro vs w
  rw [List.map_cons] at w
  cases w with
  | cons a b=>
   cases a
   exact .cons _ _ (ih _ b)
theorem script_of {l:OpenLaw} {n:Nat} (hn:l.most=some n) {P:Params} {h:Heap} {args:List WData} {vals:List Value}
  (hpre:l.row.toRowW.claim.pre args=true) (hwl:WellAll P h vals args) :
  ∃ a vs ns,vals=[Value.ref a]/\args=[WData.list (ns.map WData.int)]/\h.get? a=some { cls:=.type "list",data:=.seq vs.toArray }/\IntsAre vs ns/\ns.length <= n:=by
 have hsh:WShape.hasAll [] args [.list .int]=true:=(pre_splitW hpre).1
 have hc:l.pre.holds [] { args:=args }=true:=(pre_splitW hpre).2
 obtain ⟨d,r,rfl,h1,h2⟩:=hasAllW_cons hsh
 obtain rfl:=hasAllW_nil h2
 obtain ⟨xs,rfl,h3⟩:=hasW_list h1
 obtain ⟨ns,rfl⟩:=items_int h3
 have hlen:ns.length <= n:=by
  unfold OpenLaw.pre at hc
  have h4:(WTm.not (.lt (.lit (.int (n:Int))) (.len (.arg 0)))).holds [] { args:=[.list (ns.map .int)] }=true:=by
   have h4:=(holds_andW hc).1
   rw [hn] at h4
   exact h4
  have h5:=condW_of h4 (w_not (w_lt w_lit (w_len_list (w_arg rfl))))
  rw [zCO] at h5
  refine Nat.le_of_not_lt fun q=>?_
  have q':(n:Int) < ((ns.length:Nat):Int):=by omega
  first
   | (rw [zC3 q'] at h5;exact absurd h5 (by decide))
   | (simp at h5;omega)
 cases hwl with
 | cons w1 w2=>
  cases w2
  cases w1 with
  | list ho hall=>exact ⟨_,_,ns,rfl,rfl,ho,ints_of_wellAll ns _ hall,hlen⟩
theorem post_true (l:OpenLaw) (args:List WData):l.row.toRowW.claim.post args (.bool true) args=true:=
 postW_of (r:=l.row.toRowW) (X:=(true == true))
  (show WShape.has [] (.bool true) .bool=true by first | rfl | decide | simp [WShape.has,WShape.arms,WShape.armsAll])
  (show (WTm.eq .res (.lit (.bool true))).value [] { args:=args,res:=some (.bool true),after:=args }=some (.bool (true == true)) from w_eq_bool (w_res rfl) w_lit) rfl
theorem attach_call {l:OpenLaw} {n:Nat} {q:Program} {loose:List Str} {XP:(Str->Option Value)->Heap->Prop} {YP:World->Heap->Prop} {d:DefRec}
  (hn:l.most=some n) (hdf:d.params.defaults=[])
  (call:∀ (w:World) (s₀ s₁:Shared) (mg mb:Str->Option Value) (fa:Addr) (o:Obj) (pm cd doc:Value) (a:Addr) (vs:List Value) (ns:List Int),
   Ground q loose [] XP w s₀ mg mb s₁.heap->YP w s₁.heap ->
   s₁.heap.get? fa=some o->o.data=.func (docDef d.name d.params d.body d.scope pm cd doc)->s₁.heap.CodeRec cd d.name->mg d.name=some (.ref fa) ->
   s₁.heap.get? a=some { cls:=.type "list",data:=.seq vs.toArray }->IntsAre vs ns->ns.length <= n->s₁.gens = #[] ->
   codeAny (model l.prog w) callerA (.call (.ref fa) ⟨[.ref a],[]⟩) (fun r s'=>r=.ok (.ret (.bool true))/\OldK s₁.heap s'.heap/\s'.os=s₁.os/\AllBare s'.gens) s₁) :
  WalkO q loose XP YP l.row.toRowW d [] (fun f vs=>PySem.call f vs):=by
 intro w s₀ s₁ mg mb G Y fa o pm cd doc dV kV ho hd hcd hD hmg hg args vals as hpre hlay hrd hwl hlo
 obtain rfl:dV=.none:=Dflts.none hD hdf
 obtain rfl:kV=.none:=Dflts.noKw hD
 obtain ⟨a,vs,ns,rfl,rfl,hobj,hints,hlen⟩:=script_of hn hpre hwl
 refine enter_call (codeAny_mono (call w s₀ s₁ mg mb fa o pm cd doc a vs ns G Y ho (fd_plain hd) hcd hmg hobj hints hlen hg) fun r s' hq=>?_)
 obtain ⟨rfl,h2,h3,h4⟩:=hq
 exact ⟨.inl ⟨.bool true,.bool true,[],rfl,fun _=>rfl,.bool true,post_true l _,fun _=>⟨List.Pairwise.nil,fun _ hm=>(nomatch hm)⟩⟩,h2,h3,h4⟩
section
variable {prog:Program} {w:World} {A:Around} {E:Value->Shared->Prop} {s:Shared} {K:Frag}
end
end Att
namespace L2
open PySem PySem.Spec PyProof.Rows
theorem kQ {vs:List Value} {ns:List Int} (h:IntsAre vs ns):zS (ns.map V.int) vs:=by
 induction h with
 | nil=>exact .nil
 | cons n t _ ih=>exact .cons ⟨t,rfl⟩ ih
def zA0 (H:Hp):Prop:=∀ b,H b=none \/ ∃ o xs,H b=some (.frz o (.lst xs))
theorem gN {P:Program} {w:World} {K:W.Frag} {mg mb:Str->Option Value} {CX:CXT} {k:Nat} {fa a:Addr} {fd:FuncData} {x:Str} {sp:Sp} {s₁:Shared} {vs:List Value} {ns:List Int}
  (KX:K.In s₁.heap) (hns:s₁.heap.Ns mainGlobals mg) (hb:s₁.heap.Ns builtinsNs mb) (hbb:∀ x:Str,x ≠ "__name__"->mb x=bootBuiltins x) (hlim:s₁.heap.NoLimit) (hg:s₁.gens = #[])
  (ha:s₁.heap.get? a=some { cls:=.type "list",data:=.seq vs.toArray }) (hi:IntsAre vs ns) (hl:ns.length <= sizeLine) (hr:z9 k callerA)
  (F:∀ base:Heap,K.In base->base.Ns mainGlobals mg->vJ P w K mg base CX k fa fd [x] sp) (hbind:∀ (s:Shared) (u:Value),BindsTo s fd ⟨[u],[]⟩ [(x,u)])
  (hsp:∀ H:Hp,zA0 H->SqL K H a (ns.map V.int)->sp [.ref a] H (fun v _=>v=.bl true) fun _ _ _=>False)
  (hCX:∀ H e s',CX [] H s₁ (fun _ _ _=>False) e s'->False) :
  codeAny (model P w) callerA (.call (.ref fa) ⟨[.ref a],[]⟩) (fun r s'=>r=.ok (.ret (.bool true))/\OldK s₁.heap s'.heap/\s'.os=s₁.os/\AllBare s'.gens) s₁:=by
 have rv:=kQ hi
 have lenV:=hi.length
 have core:∀ H:Hp,zA0 H->SqL K H a (ns.map V.int)->HOk P w H s₁.heap->(∀ b,H b ≠ none->b=a)->(H a ≠ none->K.lookup a=none) ->
   codeAny (model P w) callerA (.call (.ref fa) ⟨[.ref a],[]⟩) (fun r s'=>r=.ok (.ret (.bool true))/\OldK s₁.heap s'.heap/\s'.os=s₁.os/\AllBare s'.gens) s₁:=by
  intro H hO hS hok hA hK
  have base_of:∀ {b:Addr} {o:Obj},s₁.heap.get? b=some o->H b=none->(qZ s₁.heap H).get? b=some o:=fun e n=>gS e n
  have noA:∀ {b:Addr} {o:Obj} {es:Array DictEntry} {ep:Nat},s₁.heap.get? b=some o->o.data=.dict es ep->H b=none:=fun {b o es ep} e d=>by
   cases q:H b with
   | none=>rfl
   | some u=>
    have e':b=a:=hA b (by rw [q];simp)
    subst e'
    rw [ha] at e;cases e
    have d':Data.seq vs.toArray _=Data.dict es ep:=d
    cases d'
  have nsK:∀ {b:Addr} {m:Str->Option Value},s₁.heap.Ns b m->(qZ s₁.heap H).Ns b m:=fun {b m} ⟨o,es,ep,e,d,r⟩=>⟨o,es,ep,base_of e (noA e d),d,r⟩
  have hKb:K.In (qZ s₁.heap H):=fun b o e=>base_of (KX b o e) (by
   cases q:H b with
   | none=>rfl
   | some u=>
    have e':b=a:=hA b (by rw [q];simp)
    subst e'
    rw [hK (by rw [q];simp)] at e;cases e)
  have hM:Mod K mg (qZ s₁.heap H):=⟨hKb,nsK hns,⟨mb,nsK hb,hbb⟩,let ⟨mc,h1,h2⟩:=hlim;⟨mc,nsK h1,h2⟩⟩
  have e0:mO P w K mg (qZ s₁.heap H) callerA [] s₁ H:=⟨rfl,hM,fun b o e=>dQ e,Nat.le_of_eq (jT _ _),trivial,fun b hb=>absurd (show b ∈ ([]:List Addr) from hb) (by simp),hok,.of_eq hg⟩
  refine codeAny_mono ((F _ hKb (nsK hns)).run callerA [] s₁ H ⟨[.ref a],[]⟩ [.ref a] [.ref a] _ _ hr e0 (hbind s₁ (.ref a)) (.cons rfl .nil) (hsp H hO hS)) fun r s' h=>?_
  cases r with
  | error e=>exact (hCX H e s' h).elim
  | ok fl=>
   cases fl with
   | next=>exact False.elim h
   | brk=>exact False.elim h
   | cont=>exact False.elim h
   | ret u=>
    obtain ⟨v,H',os,bare,un,hok',r',q⟩:=h
    have q':v=.bl true:=q
    subst q'
    obtain rfl:u=Value.bool true:=r'
    refine ⟨rfl,OldK.of_keep fun b o e=>?_,os,bare⟩
    cases q:H b with
    | none=>exact un.keep b o e q (by intro z;exact absurd (show b ∈ ([]:List Addr) from z) (by simp)) (by simp)
    | some u=>
     rcases hO b with z | ⟨ob,xs,z⟩
     ·rw [q] at z;cases z
     ·have z2:=un.frzs b ob _ z
      obtain ⟨e1,_⟩:=hok b _ z
      obtain ⟨e2,_⟩:=hok' b _ z2
      rw [e] at e1;cases e1
      exact e2
 cases hk:K.lookup a with
 | some o=>
  have e:=KX a o hk
  rw [ha] at e
  cases e
  refine core (fun _=>none) (fun _=>.inl rfl) (.inr ⟨_,vs.toArray,_,hk,rfl,rfl,rfl,by rw [zCW,lenV];exact hl,by simpa using rv⟩) (fun b u z=>by have z':(none:Option HO)=some u:=z;cases z') (fun b z=>absurd rfl z) fun z=>absurd rfl z
 | none=>
  refine core (fun b=>if b=a then some (.frz { cls:=.type "list",data:=.seq vs.toArray } (.lst (ns.map V.int))) else none) (fun b=>?_) (.inl (.inr ⟨{ cls:=.type "list",data:=.seq vs.toArray },if_pos rfl⟩)) (fun b u z=>?_) (fun b z=>?_) fun _=>hk
  ·by_cases hb:b=a
   ·exact .inr ⟨_,_,if_pos hb⟩
   ·exact .inl (if_neg hb)
  ·by_cases hb:b=a
   ·have z':=(if_pos hb).symm.trans z
    cases z'
    subst hb
    exact ⟨ha,by rw [zCO];exact hl,vs,_,rv,ha⟩
   ·have z':=(if_neg hb).symm.trans z
    cases z'
  ·by_cases hb:b=a
   ·exact hb
   ·exact absurd (if_neg hb) z
theorem walk_of {l:W.OpenLaw} {n k:Nat} {q:Program} {loose:List Str} {XP:(Str->Option Value)->Heap->Prop} {YP:World->Heap->Prop} {d:DefRec} {K:Params->W.Frag} {CX:World->CXT} {sp:World->Sp} {x:Str}
  (hn:l.most=some n) (hn2:n <= sizeLine) (hdf:d.params.defaults=[]) (hr:z9 k callerA)
  (hY:∀ (w:World) (h:Heap),YP w h->(K w.params).In h)
  (F:∀ (w:World) (mg:Str->Option Value) (fa:Addr) (h:Heap),(K w.params).In h->h.Ns mainGlobals mg->mg d.name=some (.ref fa) ->
   ∃ fd:FuncData,(∀ (s:Shared) (u:Value),BindsTo s fd ⟨[u],[]⟩ [(x,u)]) /\
    ∀ base:Heap,(K w.params).In base->base.Ns mainGlobals mg->vJ l.prog w (K w.params) mg base (CX w) k fa fd [x] (sp w))
  (hsp:∀ (w:World) (H:Hp) (a:Addr) (ns:List Int),ns.length <= n->zA0 H->SqL (K w.params) H a (ns.map V.int)->sp w [.ref a] H (fun v _=>v=.bl true) fun _ _ _=>False)
  (hCX:∀ (w:World) (H:Hp) (s:Shared) (e:Value) (s':Shared),CX w [] H s (fun _ _ _=>False) e s'->False) :
  W.WalkO q loose XP YP l.row.toRowW d [] (fun f vs=>PySem.call f vs):=by
 refine Att.attach_call hn hdf fun w s₀ s₁ mg mb fa o pm cd doc a vs ns G Y ho hd hcd hmg hobj hints hlen hg=>?_
 have KX:=hY w _ Y
 obtain ⟨fd,hb,hF⟩:=F w mg fa _ KX G.T.g hmg
 exact gN KX G.T.g G.T.b G.T.builtins G.T.nolimit hg hobj hints (zCZ hlen hn2) hr hF hb (fun H hO hS=>hsp w H a ns hlen hO hS) fun H e s'=>hCX w H s₁ e s'
def xC (s:Stmt) (j:Nat):Stmt:=match s with
 | .ClassDef _ _ _ body _ _ _ _ _ _ _=>body.getD j (.Pass ⟨0,0,0,0⟩)
 | _=>.Pass ⟨0,0,0,0⟩
def y4 (s:Stmt):Arguments:=match s with
 | .FunctionDef _ a _ _ _ _ _ _ _ _=>a
 | _=>{ posonlyargs:=[],args:=[],vararg:=none,kwonlyargs:=[],kw_defaults:=[],kwarg:=none,defaults:=[] }
def yW (s:Stmt):List Stmt:=match s with
 | .FunctionDef _ _ b _ _ _ _ _ _ _=>b
 | _=>[]
def zG (s:Stmt):Scope:=match s with
 | .FunctionDef _ _ _ _ _ _ sc _ _ _=>sc
 | _=>{ kind:=.function,names:=[],isGenerator:=false,isCoroutine:=false }
abbrev CX0:CXT:=fun _ _ _ _ _ _=>False
abbrev E0:XK:=fun _ _ _=>False
theorem lV {X:Cx}:vY CX0 X E0:=fun _ _ _ _ _ _ _ h=>h.elim
structure Fun (K:W.Frag) (x qual:Str) (st:Stmt) (f:Addr) (fd:FuncData):Prop where
 ex:∃ (oc:Value) (od:Option Addr) (kV doc pm:Value) (an:Option Addr) (cdv ct:Value) (osl:Array (Option Value)),
  fd=W.fnOf x qual (y4 st) (yW st) (zG st) .none kV doc pm an cdv ct/\K.lookup f=some ⟨oc,od,.func fd,osl⟩/\W.codeIn K cdv qual=true
 kp:W.keepIn K (.ref f)=true
section
variable {P:Program} {w:World} {K:W.Frag} {mg:Str->Option Value} {base:Heap}
theorem Fun.ok {x qual:Str} {st:Stmt} {f:Addr} {fd:FuncData} {N ps:List Str} {k:Nat} {sp:Sp} (F:Fun K x qual st f fd) (S:zQ N ps (zG st)) (len:∀ vs H Q E,sp vs H Q E->vs.length=ps.length)
  (hbody:∀ (cdv:Value) (A:Around) (outer:List Env) (s:Shared) (H:Hp) (vs:List V) (Q:VK) (E:XK),z9 k (A.deeper (envOfC qual (zG st) s.heap.objs.size f cdv))->sp vs H Q E ->
   ∃ t,PSs (oK CX0 P w K mg base N qual (zG st) f cdv A outer s H E).nox (yW st) t/\t { nx:=fun _ H'=>Q .non H',rt:=Q } (start N vs) H):vJ P w K mg base CX0 (k + 1) f fd ps sp:=by
 obtain ⟨oc,od,kV,doc,pm,an,cdv,ct,osl,rfl,lk,hcd⟩:=F.ex
 refine zCC lk hcd S len fun A outer s H vs Q E hr hsp=>?_
 obtain ⟨t,h,q⟩:=hbody cdv A outer s H vs Q E hr hsp
 exact ⟨t,h.nox,q⟩
theorem Fun.binds {x qual:Str} {st:Stmt} {f:Addr} {fd:FuncData} {ps:List Str} (F:Fun K x qual st f fd)
  (h:∀ (kV doc pm:Value) (an:Option Addr) (cdv ct:Value) (us:List Value),us.length=ps.length->bindArgs (W.fnOf x qual (y4 st) (yW st) (zG st) .none kV doc pm an cdv ct) ⟨us,[]⟩=pure (ps.zip us)):wK K fd ps []:=by
 obtain ⟨oc,od,kV,doc,pm,an,cdv,ct,osl,rfl,lk,hcd⟩:=F.ex
 exact .all (h kV doc pm an cdv ct)
theorem tD {x qual:Str} {st:Stmt} {f:Addr} {oc:Value} {od an:Option Addr} {osl:Array (Option Value)} {kV doc pm cdv ct:Value} (l:K.lookup f=some ⟨oc,od,.func (W.fnOf x qual (y4 st) (yW st) (zG st) .none kV doc pm an cdv ct),osl⟩)
  (c:W.codeIn K cdv qual=true) (k:W.keepIn K (.ref f)=true):Fun K x qual st f (W.fnOf x qual (y4 st) (yW st) (zG st) .none kV doc pm an cdv ct):=⟨⟨oc,od,kV,doc,pm,an,cdv,ct,osl,rfl,l,c⟩,k⟩
end
theorem wZ {A:Around} {k:Nat} (hr:z9 k A):A.units + 1 < cLine:=Nat.lt_of_le_of_lt (Nat.add_le_add_left (by decide:1 <= 64) _) hr.units
theorem kY {n:Nat} (h:n <= 1000):n < sizeLine:=Nat.lt_of_le_of_lt h (by decide)
section
variable {X:Cx}
theorem pv (i:Nat) {x:Str} {pos:Pos} (hN:X.N[i]?=some x:=by rfl) (hv:Vis X.env.scope x:=by first | exact Or.inl rfl | exact Or.inr (Or.inl rfl) | exact Or.inr (Or.inr rfl)) (hd:(x == ("__debug__" : Str))=false:=by decide)
  (hcd:(x == ("__classdict__" : Str))=false:=by decide):PE X (.Name x pos) (sZ i):=aO hN hv hd hcd
end
theorem vW {A B:Prop} (h:B):if false=true then A else B:=by
 rw [if_neg zDG]
 exact h
theorem u8 {A B:Prop} (h:A):if true=true then A else B:=by
 rw [if_pos rfl]
 exact h
theorem gR {c A B:Prop} [Decidable c] (h1:c->A) (h2:¬ c->B):if c then A else B:=by
 by_cases h:c
 ·rw [if_pos h]
  exact h1 h
 ·rw [if_neg h]
  exact h2 h
def zAZ (H H':Hp):Prop:=∀ b o,H b=some o->H' b=some o
theorem zAZ.seq {K:W.Frag} {H H':Hp} {a:Addr} {xs:List V} (e:zAZ H H') (h:SqL K H a xs):SqL K H' a xs:=by
 rcases h with (h | ⟨o,h⟩) | h
 ·exact .inl (.inl (e _ _ h))
 ·exact .inl (.inr ⟨o,e _ _ h⟩)
 ·exact .inr h
end L2
set_option maxHeartbeats 4000000
namespace L2
open PySem PySem.Spec PyProof.Rows
def clF (env:Env):List (Str × NameKind)->List (Str × Addr)->List (Str × Addr)
 | [],cs=>cs
 | (n,k) :: r,cs=>clF env r (if k == NameKind.free then (n,(env.cells.lookup n).getD 0) :: cs else cs)
theorem cN (env:Env):∀ (l:List (Str × NameKind)) (cs:List (Str × Addr)),(∀ n,(n,NameKind.free) ∈ l->(env.cells.lookup n).isSome=true) ->
  (forIn l cs fun x r=>(match x with
   | (name,kind)=>if (kind == NameKind.free)=true then (do let c <- cellOf env name;pure (ForInStep.yield ((name,c) :: r))) else pure (ForInStep.yield r):Sem (ForInStep (List (Str × Addr)))))=pure (clF env l cs):=by
 intro l
 induction l with
 | nil=>intro cs _;rfl
 | cons x l ih=>
  intro cs h
  obtain ⟨n,k⟩:=x
  rw [List.forIn_cons]
  by_cases hk:k=NameKind.free
  ·subst hk
   have h1:=h n zDH
   obtain ⟨c,hc⟩:=Option.isSome_iff_exists.mp h1
   simp only [beq_self_eq_true,if_true,clF,hc,Option.getD_some,cellOf,pure_bind]
   exact ih _ fun m hm=>h m (zC1 _ hm)
  ·have hb:(k == NameKind.free)=false:=by simpa using hk
   simp only [hb,Bool.false_eq_true,if_false,clF,pure_bind]
   exact ih _ fun m hm=>h m (zC1 _ hm)
theorem vH {scope:Scope} {env:Env} (h:∀ n,(n,NameKind.free) ∈ scope.names->(env.cells.lookup n).isSome=true) :
  closureFor scope env=pure (clF env scope.names []):=by
 have e:=cN env scope.names [] h
 unfold closureFor
 simp only [bind_pure] at e ⊢
 exact e
theorem cM (env:Env):∀ (l:List (Str × NameKind)) (cs:List (Str × Addr)),(∀ n,(n,NameKind.free) ∈ l->(env.cells.lookup n).isSome=true) ->
  (∀ y c,cs.lookup y=some c->env.cells.lookup y=some c)->∀ y c,(clF env l cs).lookup y=some c->env.cells.lookup y=some c:=by
 intro l
 induction l with
 | nil=>intro cs _ h;exact h
 | cons x l ih=>
  intro cs h hc
  obtain ⟨n,k⟩:=x
  refine ih _ (fun m hm=>h m (zC1 _ hm)) ?_
  by_cases hk:k=NameKind.free
  ·subst hk
   obtain ⟨c,e⟩:=Option.isSome_iff_exists.mp (h n zDH)
   simp only [beq_self_eq_true,if_true,e,Option.getD_some]
   intro y c' q
   rw [List.lookup_cons] at q
   cases hy:y == n with
   | true=>
    rw [hy] at q
    have ey:y=n:=by simpa using hy
    cases q
    rw [ey];exact e
   | false=>
    rw [hy] at q
    exact hc y c' q
  ·have hb:(k == NameKind.free)=false:=by simpa using hk
   simp only [hb,Bool.false_eq_true,if_false]
   exact hc
theorem cO (env:Env):∀ (l:List (Str × NameKind)) (cs:List (Str × Addr)) (y:Str),((y,NameKind.free) ∈ l \/ (cs.lookup y).isSome=true)->((clF env l cs).lookup y).isSome=true:=by
 intro l
 induction l with
 | nil=>intro cs y h;exact h.elim (fun z=>by cases z) id
 | cons x l ih=>
  intro cs y h
  obtain ⟨n,k⟩:=x
  refine ih _ y ?_
  rcases h with h | h
  ·rcases List.mem_cons.mp h with e | e
   ·cases e
    right
    simp
   ·exact .inl e
  ·right
   by_cases hk:k=NameKind.free
   ·subst hk
    simp only [beq_self_eq_true,if_true,List.lookup_cons]
    cases hy:y == n <;> simp [h]
   ·have hb:(k == NameKind.free)=false:=by simpa using hk
    simp only [hb,Bool.false_eq_true,if_false]
    exact h
theorem uD {scope:Scope} {env:Env}:∀ (l:List (Str × NameKind)) (x:Str) (k:NameKind),
  (l.map fun (n,k)=>if (k == NameKind.free && env.scope.kind == .function && env.kindOf n == some .cell) then (n,NameKind.cell) else (n,k)).lookup x=some k->k=.cell \/ k=.free ->
  (∀ y ∈ l,y.2 ≠ .cell)->(x,NameKind.free) ∈ l
 | [],x,k,h,_,_=>by simp at h
 | (n,k') :: r,x,k,h,hk,hc=>by
  rw [List.map_cons,List.lookup_cons] at h
  have hn:(if (k' == NameKind.free && env.scope.kind == .function && env.kindOf n == some .cell)=true then (n,NameKind.cell) else (n,k')).1=n:=by split <;> rfl
  simp only [hn] at h
  cases hx:x == n with
  | true=>
   rw [hx] at h
   have ex:x=n:=by simpa using hx
   subst ex
   simp only [Option.some.injEq] at h
   split at h
   ·rename_i q
    simp only [Bool.and_eq_true,beq_iff_eq] at q
    rw [q.1.1];exact zDH
   ·have h':k'=k:=h
    rcases hk with z | z
    ·exact absurd (h'.trans z) (hc _ zDH)
    ·rw [h',z];exact zDH
  | false=>
   rw [hx] at h
   exact zC1 _ (uD (scope:=scope) r x k h hk fun y hy=>hc y (zC1 _ hy))
def cxC (X:Cx) (xs:List Str) (ix:List Nat) (scope:Scope) (C:Addr) (fp:List Addr) (s:Shared) (H:Hp):Cx:=
  { X with N:=xs ++ ix.map (fun i=>X.N.getD i ""),s₀:=s,H₀:=H,env:=compEnvC scope (clF X.env scope.names []) C X.env,
           outer:=X.stack,stack:=X.stack,ex:=fp,fn:=fun _=>false,pn:=[],xe:=fun _ _=>False }
def stC (xs:List Str) (ix:List Nat) (σ:St):St:=xs.map (fun _=>none) ++ ix.map (fun i=>(σ[i]?).join)
structure xS (X:Cx) (xs:List Str) (ix:List Nat) (scope:Scope):Prop where
 kind:scope.kind=.function
 nocell:∀ y ∈ scope.names,y.2 ≠ .cell
 loc:∀ y ∈ scope.names,y.2=.local->scope.names.lookup y.1=some .local
 fre:∀ n,(n,NameKind.free) ∈ scope.names->X.env.kindOf n=some .cell \/ X.env.kindOf n=some .free
 own:∀ x ∈ xs,scope.names.lookup x=some .local
 nd:(xs ++ ix.map (fun i=>X.N.getD i "")).Nodup
 inN:∀ i ∈ ix,i < X.N.length
 frx:∀ i ∈ ix,scope.names.lookup (X.N.getD i "")=some .free
theorem uE {scope:Scope} {env:Env}:∀ (l:List (Str × NameKind)) (x:Str),l.lookup x=some .free ->
  (l.map fun (n,k)=>if (k == NameKind.free && env.scope.kind == .function && env.kindOf n == some .cell) then (n,NameKind.cell) else (n,k)).lookup x=some .cell \/
  (l.map fun (n,k)=>if (k == NameKind.free && env.scope.kind == .function && env.kindOf n == some .cell) then (n,NameKind.cell) else (n,k)).lookup x=some .free
 | [],x,h=>by simp at h
 | (n,k') :: r,x,h=>by
  rw [List.lookup_cons] at h
  rw [List.map_cons,List.lookup_cons]
  have hn:(if (k' == NameKind.free && env.scope.kind == .function && env.kindOf n == some .cell)=true then (n,NameKind.cell) else (n,k')).1=n:=by split <;> rfl
  simp only [hn]
  cases hx:x == n with
  | true=>
   rw [hx] at h
   have h':k'=.free:=zCV h
   subst h'
   by_cases hc:(NameKind.free == NameKind.free && env.scope.kind == .function && env.kindOf n == some .cell)=true
   ·left;simp only [if_pos hc]
   ·right;simp only [if_neg hc]
  | false=>
   rw [hx] at h
   exact uE (scope:=scope) r x h
theorem oP {X:Cx} {xs:List Str} {ix:List Nat} {scope:Scope} {qp:LAO} {σ:St} {H:Hp} {s s1:Shared} {fp:List Addr} {h1:Heap} {tk:Nat}
  (S:xS X xs ix scope) (I:Inv X qp σ H s) (hf:∀ b ∈ fp,tF X qp H b) (hfo:∀ b ∈ fp,∃ o,s.heap.get? b=some o)
  (hns:h1.Ns s.heap.objs.size (fun _=>none)) (hk:∀ b o,s.heap.get? b=some o->h1.get? b=some o) (e1:s1 = { s with heap:=h1,toks:=tk }) :
  Inv (cxC X xs ix scope s.heap.objs.size fp s H) [] (stC xs ix σ) H s1:=by
 subst e1
 have hcl:∀ n,(n,NameKind.free) ∈ scope.names->(X.env.cells.lookup n).isSome=true:=fun n hn=>by
  obtain ⟨c,e⟩:=I.ok.has n (S.fre n hn)
  rw [e];rfl
 have sub:=cM X.env scope.names [] hcl (fun y c q=>by simp at q)
 have has:=fun y hy=>cO X.env scope.names [] y (.inl hy)
 have fpl:∀ b ∈ fp,b ∉ frs X.stack:=fun b hb z=>by
  obtain ⟨_,f1,f2,_⟩:=hf b hb
  rcases List.mem_cons.mp (I.stkSub b z) with q | q
  ·exact f1 q
  ·exact f2 q
 have kindR:∀ x k,(cxC X xs ix scope s.heap.objs.size fp s H).env.kindOf x=some k->k=.cell \/ k=.free->(x,NameKind.free) ∈ scope.names:=fun x k e hk'=>
  uD (scope:=scope) (env:=X.env) scope.names x k e hk' S.nocell
 refine ⟨⟨I.ok.mod,S.kind,I.ok.glob,I.ok.blt,zCX _,fun x y c a b=>?_,fun x hx=>?_,fun x c z=>(by cases z),I.ok.hd,I.ok.frames,.inl rfl,fun b hb=>?_,I.bs,zCZ I.ok.bsz I.sz,fun b o e hb=>?_,fpl,I.stack,I.stkFree⟩,
  rfl,I.bare,Un.kept hk,⟨_,hns,fun i x v e1 e2 e3=>?_⟩,fun x c e=>?_,I.hok.fresh (zCX _),fun x c e=>I.freeC x c (sub x c e),fun p hp=>absurd (show p ∈ ([]:LAO) from hp) (by simp),I.hok.kept hk,?_⟩
 ·exact I.ok.inj x y c (sub x c a) (sub y c b)
 ·have hm:(x,NameKind.free) ∈ scope.names:=hx.elim (fun z=>kindR x _ z (.inl rfl)) fun z=>kindR x _ z (.inr rfl)
  exact Option.isSome_iff_exists.mp (has x hm)
 ·obtain ⟨f0,f1,f2,f3,f4,f5⟩:=hf b hb
  obtain ⟨o,ho⟩:=hfo b hb
  exact ⟨fun z=>Nat.lt_irrefl _ (Nat.lt_of_lt_of_eq (Heap.lt_size ho) z.symm),fun x c e=>f4 x c (sub x c e)⟩
 ·obtain ⟨f0,f1,f2,f3,f4,f5⟩:=hf b hb
  rcases f3 with q | q
  ·exact I.ok.noex b o e q
  ·exact Nat.lt_irrefl _ (zDA (Heap.lt_size e) (zCZ I.ok.bsz q))
 ·have e2':(xs.map (fun _=>(none:Option V)) ++ ix.map (fun i=>(σ[i]?).join))[i]?=some (some v):=e2
  have e1':(xs ++ ix.map (fun i=>X.N.getD i ""))[i]?=some x:=e1
  by_cases hi:i < xs.length
  ·rw [zDC (by simpa using hi),zCU] at e2'
   cases q:xs[i]? with
   | none=>rw [q] at e2';cases e2'
   | some z=>rw [q] at e2';cases e2'
  ·have hi':xs.length <= i:=Nat.not_lt.mp hi
   rw [zDB (by simpa using hi'),zCO,zCU] at e2'
   rw [zDB hi',zCU] at e1'
   cases q:ix[i - xs.length]? with
   | none=>rw [q] at e2';cases e2'
   | some j=>
    rw [q] at e1' e2'
    have hj:j ∈ ix:=zCS q
    have ex:X.N.getD j ""=x:=zCV e1'
    have ev:(σ[j]?).join=some v:=zCV e2'
    have hjl:=S.inN j hj
    have eN:X.N[j]?=some x:=by
     rw [<- ex,zCT]
     rw [zCP hjl];rfl
    have eσ:σ[j]?=some (some v):=by
     cases z:σ[j]? with
     | none=>rw [z] at ev;cases ev
     | some y=>rw [z] at ev;simp at ev;rw [ev]
    have hfr:=S.frx j hj
    rw [ex] at hfr
    have hkin:=S.fre x (PySem.mem_of_lookup hfr)
    obtain ⟨m,hn,hl⟩:=I.loc
    obtain ⟨u,ru,lk⟩:=hl j x v eN eσ (hkin.elim (fun z=>.inr (.inl z)) fun z=>.inr (.inr z))
    refine ⟨u,ru,.inr ⟨uE (scope:=scope) (env:=X.env) scope.names x hfr,?_⟩⟩
    rcases lk with ⟨k1,_⟩ | ⟨_,c,ec,zc⟩
    ·rcases hkin with z | z <;> (rw [z] at k1;cases k1)
    ·obtain ⟨c',ec'⟩:=Option.isSome_iff_exists.mp (has x (PySem.mem_of_lookup hfr))
     have q2:=sub x c' ec'
     rw [ec] at q2;cases q2
     obtain ⟨oc,hoc,hd⟩:=zc
     exact ⟨c,ec',oc,hk c oc hoc,hd⟩
 ·obtain ⟨v,oc,hoc,hd⟩:=I.cell x c (sub x c e)
  exact ⟨v,oc,hk c oc hoc,hd⟩
 ·show (xs.map (fun _=>(none:Option V)) ++ ix.map (fun i=>(σ[i]?).join)).length=(xs ++ ix.map (fun i=>X.N.getD i "")).length
  simp
def cxX (X:Cx) (xs:List Str) (ix:List Nat) (scope:Scope) (C:Addr) (fp:List Addr) (s:Shared) (H:Hp) (xe':VSP):Cx:={ cxC X xs ix scope C fp s H with xe:=xe' }
theorem Inv.toX {X:Cx} {qp:LAO} {σ:St} {H:Hp} {s:Shared} (I:Inv X qp σ H s) (xe':VSP):Inv { X with xe:=xe' } qp σ H s:=
 ⟨⟨I.ok.mod,I.ok.kind,I.ok.glob,I.ok.blt,I.ok.above,I.ok.inj,I.ok.has,I.ok.cab,I.ok.hd,I.ok.frames,I.ok.stk,I.ok.exf,I.ok.bs,I.ok.bsz,I.ok.noex,I.ok.exfs,I.ok.funs,I.ok.frf⟩,
  I.os,I.bare,I.base,I.loc,I.cell,I.free,I.freeC,I.pin,I.hok,I.len⟩
theorem gI {prog:Program} {w:World} {A:Around} {R:Result->Shared->Prop} {s:Shared} {elt target iter:Expr} {ifs:List Expr} {scope:Scope} {pos:Pos} {it acc:Value} {env:Env} (J:Nat->Shared->Prop) {Eb:VSP} (nof:∀ (e:Value) (s':Shared),Eb e s'->notedBy (model prog w) A env (fun e s'=>R (.error e) s') e s')
  (turn:∀ n s,J n s->wpAny (model prog w) A (pyNext it) (fun r s1=>match r with
   | none=>R (.ok .next) s1
   | some v=>wpAny (model prog w) A (letOwnedTupleGo target it v) (fun _ s1'=>wpAny (model prog w) A (assign target env v) (fun _ s2=>
     wpAny (model prog w) A (forIn ifs true fun c r=>if r=true then do let ok <- isTrue c env (eval c env);pure (ForInStep.yield ok) else pure (ForInStep.yield r)) (fun ok s3=>
      if ok=true then wpAny (model prog w) A (eval elt env) (fun x s4=>
       wpAny (model prog w) A (call (.builtin "list.append") [acc,x]) (fun _ s5=>∃ m,m < n/\J m s5) Eb s4) Eb s3
      else ∃ m,m < n/\J m s3) Eb s2) Eb s1') Eb s1) Eb s)
  (n:Nat) (h:J n s):codeAny (model prog w) A (.compLoop (.ListComp elt [⟨target,iter,ifs,0⟩] scope pos) 0 it acc env) R s:=by
 refine codeAny_loop rfl J (fun n s hJ=>?_) n h
 show wpAny (model prog w) A ((compTurn (.ListComp elt [⟨target,iter,ifs,0⟩] scope pos) 0 it acc env).onRaise (fun x=>do noteFrame x env;theTreesLotGoes x)) _ _ s
 refine wpAny_noted ?_
 rw [compTurn_list]
 refine wpAny_bind (wpAny_standAt (wpAny_bind (wpAny_mono (turn n s hJ) (fun r s1 h1=>?_) nof)))
 cases r with
 | none=>exact wpAny_pure h1
 | some v=>
  refine wpAny_bind (wpAny_mono h1 (fun _ s1' h1'=>?_) nof)
  refine wpAny_bind (wpAny_mono h1' (fun _ s2 h2=>?_) nof)
  refine wpAny_bind (wpAny_mono h2 (fun ok s3 h3=>?_) nof)
  cases ok with
  | false=>exact wpAny_pure ⟨rfl,h3⟩
  | true=>
   refine wpAny_bind (wpAny_bind (wpAny_mono h3 (fun x s4 h4=>?_) nof))
   exact wpAny_bind (wpAny_mono h4 (fun _ s5 h5=>wpAny_pure (wpAny_pure ⟨rfl,h5⟩)) nof)
def PTs (X:Cx) (ifs:List Expr) (t:TT):Prop:=
 ∀ (qp:LAO) (s:Shared) (σ:St) (H:Hp) (Q:Bool->Hp->Prop),Inv X qp σ H s->t σ H Q ->
  wpAny (model X.prog X.w) X.A (forIn ifs true fun c r=>if r=true then do let ok <- isTrue c X.env (eval c X.env);pure (ForInStep.yield ok) else pure (ForInStep.yield r)) (TP X qp σ Q) X.xe s
def kS:TT:=fun _ H Q=>Q true H
theorem t6 {X:Cx}:PTs X [] kS:=fun _ _ _ H _ I h=>wpAny_tests_nil ⟨H,I,h⟩
theorem xT {X:Cx} {c:Expr} {t:TT} (h:PT X c t):PTs X [c] t:=fun qp s σ H Q I hw=>wpAny_tests_one (h qp s σ H Q I hw)
def LCW (J:It) (xs:List Str) (ix:List Nat) (g:TG) (tt:TT) (te:TE) (σ:St) (H1:Hp) (acc:Addr) (Q:VK):Prop:=
 ∃ W:Nat->Nat->List V->St->Hp->Prop,(∃ m,W 0 m [] (stC xs ix σ) (upd H1 acc (.lst []))) /\
  ∀ i m ys τ H,W i m ys τ H->H acc=some (.lst ys)/\ys.length < sizeLine /\
   ((J.stop i H/\Q (.ref acc) H) \/ (J.go i H/\∃ N:List V->St->Hp->Prop,(∀ ys' τ' H',N ys' τ' H'->∃ m',m' < m/\W (i + 1) m' ys' τ' H') /\
    ∀ x H',J.yld i H x H'->g x τ H' fun τ2 H2=>tt τ2 H2 fun b H3=>
    if b=true then te τ2 H3 fun y H4=>H4 acc=some (.lst ys)/\N (ys ++ [y]) τ2 (upd H4 acc (.lst (ys ++ [y]))) else N ys τ2 H3))
def tLC (xs:List Str) (ix:List Nat) (wi:TI) (g:TG) (tt:TT) (te:TE):TE:=fun σ H Q=>wi σ H fun J H1=>∀ acc,H1 acc=none->LCW J xs ix g tt te σ H1 acc Q
structure zCK (Reg:Cx->Prop) (P:Program) (w:World) (tg:Expr) (J:It) (fp:List Addr) (it:Addr) (tn:Nat->Heap->Prop):Prop where
 mem:it ∈ fp
 obj:∀ i h,tn i h->∀ b ∈ fp,∃ o,h.get? b=some o/\∀ v,o.data ≠ .cell v
 keep:∀ i h h',tn i h->(∀ b ∈ fp,∀ o,h.get? b=some o->h'.get? b=some o)->tn i h'
 item:∀ (X:Cx),X.prog=P->X.w=w->Reg X->∀ (i:Nat) (qp:LAO) (s:Shared) (σ:St) (H:Hp) (E:VSP),Inv X qp σ H s->(∀ b ∈ fp,tF X qp H b)->tn i s.heap->J.go i H ->
  wpAny (model P w) X.A (pyNext (.ref it)) (fun r s1=>∃ u,r=some u /\
   wpAny (model P w) X.A (letOwnedTupleGo tg (.ref it) u) (fun _ s2=>∃ x H',Inv X qp σ H' s2/\zX x u/\J.yld i H x H'/\tn (i + 1) s2.heap/\∀ b ∈ fp,H' b=none) E s1) E s
 done:∀ (X:Cx),X.prog=P->X.w=w->Reg X->∀ (i:Nat) (qp:LAO) (s:Shared) (σ:St) (H:Hp) (E:VSP),Inv X qp σ H s->(∀ b ∈ fp,tF X qp H b)->tn i s.heap->J.stop i H ->
  wpAny (model P w) X.A (pyNext (.ref it)) (fun r s1=>r=none/\Inv X qp σ H s1) E s
 self:∀ (A:Around) (i:Nat) (s:Shared) (Q:VSP) (E:VSP),tn i s.heap->Q (.ref it) s->wpAny (model P w) A (pyIter (.ref it)) Q E s
def PIEG (Reg:Cx->Prop) (X:Cx) (qp:LAO) (σ:St) (tg:Expr) (R:It->Hp->Prop) (itv:Value) (s2:Shared):Prop:=
 ∃ (it:Addr) (fp:List Addr) (tn:Nat->Heap->Prop) (J:It) (H':Hp),itv=.ref it/\Inv X qp σ H' s2/\zCK Reg X.prog X.w tg J fp it tn/\tn 0 s2.heap/\(∀ b ∈ fp,tF X qp H' b)/\R J H'
def PIG (Reg:Cx->Prop) (X:Cx) (tg iter:Expr) (wi:TI):Prop:=
 ∀ (qp:LAO) (s:Shared) (σ:St) (H:Hp) (R:It->Hp->Prop),Inv X qp σ H s->wi σ H R ->
  wpAny (model X.prog X.w) X.A (eval iter X.env) (fun v s1=>wpAny (model X.prog X.w) X.A (pyIter v) (PIEG Reg X qp σ tg R) X.xe s1) X.xe s
theorem gJ {Reg:Cx->Prop} {X:Cx} {xs:List Str} {ix:List Nat} {scope:Scope} {elt tg iter:Expr} {ifs:List Expr} {pos:Pos} {wi:TI} {g:TG} {tt:TT} {te:TE} (xf:Addr->List Addr->Shared->Hp->VSP)
  (S:xS X xs ix scope) (hreg:∀ Y:Cx,Y.K=X.K->Y.calm=X.calm->Y.A.handled=X.A.handled->Reg Y) (hi:PIG Reg X tg iter wi)
  (hg:∀ C fp s H,PG (cxX X xs ix scope C fp s H (xf C fp s H)) tg g) (ht:∀ C fp s H,PTs (cxX X xs ix scope C fp s H (xf C fp s H)) ifs tt) (he:∀ C fp s H,PE (cxX X xs ix scope C fp s H (xf C fp s H)) elt te)
  {qp:LAO} {s:Shared} {σ:St} {H:Hp} {Q:VK} (I:Inv X qp σ H s) (h:tLC xs ix wi g tt te σ H Q) {use:Option (Value->Sem Unit)} {R:VSP}
  (nf:∀ (fp:List Addr) (s3:Shared) (H3:Hp) (acc e:Value) (s':Shared),Inv X qp σ H3 s3->(∀ b ∈ fp,tF X qp H3 b)->xf s3.heap.objs.size fp s3 H3 e s'->notedBy (model X.prog X.w) X.A (compEnvC scope (clF X.env scope.names []) s3.heap.objs.size X.env) (fun e s'=>compPost (model X.prog X.w) X.A X.xe use R acc s3.heap.objs.size (.error e) s') e s')
  (fin:∀ (acc C:Addr) (H':Hp) (s':Shared) (m:Str->Option Value),Q (.ref acc) H'->s'.heap.Ns C m->(∀ h',Heap.SameBut C s'.heap h'->∀ tk,Inv X qp σ H' { s' with heap:=h',toks:=tk })->(X.s₀.heap.objs.size <= C/\C ≠ X.env.locals/\(∀ x c,X.env.cells.lookup x=some c->c ≠ C)/\(∀ p ∈ X.pn ++ qp,p.1 ≠ C)/\H' C=none)->compPost (model X.prog X.w) X.A X.xe use R (.ref acc) C (.ok .next) s') :
  wpAny (model X.prog X.w) X.A (eval iter X.env) (fun x s₁=>wpAny (model X.prog X.w) X.A (pyIter x) (fun it s₂=>wpAny (model X.prog X.w) X.A (newList []) (fun acc s₃=>
   wpAny (model X.prog X.w) X.A (newFunctionEnv scope X.env.globals (clF X.env scope.names []) [] X.env.qual none .none (some X.env)) (fun cenv s₄=>
    codeAny (model X.prog X.w) X.A (.compStart (.ListComp elt [⟨tg,iter,ifs,0⟩] scope pos) 0 it acc { cenv with scope:=relabel scope X.env }) (compPost (model X.prog X.w) X.A X.xe use R acc cenv.locals) s₄) X.xe s₃) X.xe s₂) X.xe s₁) X.xe s:=by
 refine thn (hi qp s σ H _ I h) fun v s1 h1=>thn h1 fun itv s2 h2=>?_
 obtain ⟨it,fp,tn,J,H2,rfl,I2,T,st2,f2,q⟩:=h2
 refine wpAny_newObj_type ?_
 have I3:Inv X qp σ (upd H2 s2.heap.objs.size (.lst [])) { s2 with heap:=s2.heap.push { cls:=.type "list",data:=.seq ([]:List Value).toArray },toks:=s2.toks }:=I2.lnew (ys:=[]) (its:=[]) .nil (zCY _)
 obtain ⟨W,⟨m0,w0⟩,turn⟩:=q s2.heap.objs.size I2.fresh
 have objs2:=T.obj 0 _ st2
 have neacc:∀ b ∈ fp,b ≠ s2.heap.objs.size:=fun b hb z=>by
  obtain ⟨o,ho,_⟩:=objs2 b hb
  exact Nat.lt_irrefl _ (Nat.lt_of_lt_of_eq (Heap.lt_size ho) z.symm)
 generalize hacc:s2.heap.objs.size=acc at *
 generalize hs3:({ s2 with heap:=s2.heap.push { cls:=.type "list",data:=.seq ([]:List Value).toArray } }:Shared)=s3
 have I3:Inv X qp σ (upd H2 acc (.lst [])) s3:=by rw [<- hs3];exact I3
 have k3:∀ b o,s2.heap.get? b=some o->s3.heap.get? b=some o:=fun b o e=>by rw [<- hs3];exact Heap.get?_push_of_some _ e
 have f3:∀ b ∈ fp,tF X qp (upd H2 acc (.lst [])) b:=fun b hb=>⟨by rw [zJ (neacc b hb)];exact (f2 b hb).1,(f2 b hb).2⟩
 have o3:∀ b ∈ fp,∃ o,s3.heap.get? b=some o:=fun b hb=>let ⟨o,ho,_⟩:=objs2 b hb;⟨o,k3 b o ho⟩
 have st3:tn 0 s3.heap:=T.keep _ _ _ st2 fun b _ o e=>k3 b o e
 refine wpAny_newFunctionEnv S.nocell (by intro y hy;simp at hy) (fun h1 hns1 hsb1=>?_) S.kind
 have keep1:∀ b o,s3.heap.get? b=some o->h1.get? b=some o:=fun b o e=>hsb1.extBut b o (zDF (Heap.lt_size e)) (Heap.get?_push_of_some _ e)
 generalize hs4:({ s3 with heap:=h1,toks:=s3.toks + ([]:List (Str × Value)).length }:Shared)=s4
 have I4:Inv (cxC X xs ix scope s3.heap.objs.size fp s3 (upd H2 acc (.lst []))) [] (stC xs ix σ) (upd H2 acc (.lst [])) s4:=oP S I3 f3 o3 hns1 keep1 hs4.symm
 have st4:tn 0 s4.heap:=T.keep _ _ _ st3 fun b _ o e=>by rw [<- hs4];exact keep1 b o e
 have nf:=fun av e s'=>nf fp s3 (upd H2 acc (.lst [])) av e s' I3 f3
 have hg:=hg s3.heap.objs.size fp s3 (upd H2 acc (.lst []))
 have ht:=ht s3.heap.objs.size fp s3 (upd H2 acc (.lst []))
 have he:=he s3.heap.objs.size fp s3 (upd H2 acc (.lst []))
 generalize xf s3.heap.objs.size fp s3 (upd H2 acc (.lst []))=xb at hg ht he nf
 have I4:Inv (cxX X xs ix scope s3.heap.objs.size fp s3 (upd H2 acc (.lst [])) xb) [] (stC xs ix σ) (upd H2 acc (.lst [])) s4:=I4.toX xb
 generalize hX':cxX X xs ix scope s3.heap.objs.size fp s3 (upd H2 acc (.lst [])) xb=X' at *
 have eP:X'.prog=X.prog:=by rw [<- hX'];rfl
 have ew:X'.w=X.w:=by rw [<- hX'];rfl
 have eK:X'.K=X.K:=by rw [<- hX'];rfl
 have eA:X'.A=X.A:=by rw [<- hX'];rfl
 have ec:Reg X':=hreg X' eK (by rw [<- hX'];rfl) (by rw [<- hX'];rfl)
 have ex:X'.xe=xb:=by rw [<- hX'];rfl
 have eenv:X'.env=compEnvC scope (clF X.env scope.names []) s3.heap.objs.size X.env:=by rw [<- hX'];rfl
 have eex:X'.ex=fp:=by rw [<- hX'];rfl
 have efs:X'.fs=frs X.stack:=by rw [<- hX'];rfl
 have epn:X'.pn=[]:=by rw [<- hX'];rfl
 have eH0:X'.H₀=upd H2 acc (.lst []):=by rw [<- hX'];rfl
 have es0:X'.s₀=s3:=by rw [<- hX'];rfl
 have eloc:X'.env.locals=s3.heap.objs.size:=by rw [eenv];rfl
 have stat:∀ {H':Hp},(∀ b ∈ fp,H' b=none)->∀ b ∈ fp,tF X' [] H' b:=fun {H'} hn b hb=>by
  refine ⟨hn b hb,?_,?_,.inl (by rw [eex];exact hb),?_,?_⟩
  ·rw [eloc]
   intro z
   obtain ⟨o,ho⟩:=o3 b hb
   exact Nat.lt_irrefl _ (Nat.lt_of_lt_of_eq (Heap.lt_size ho) z.symm)
  ·exact I4.ok.exfs b (by rw [eex];exact hb)
  ·exact (I4.ok.exf b (by rw [eex];exact hb)).2
  ·rw [epn];intro p hp;exact absurd hp (by simp)
 have loop:codeAny (model X.prog X.w) X.A (.compLoop (.ListComp elt [⟨tg,iter,ifs,0⟩] scope pos) 0 (.ref it) (.ref acc) X'.env) (compPost (model X.prog X.w) X.A X.xe use R (.ref acc) s3.heap.objs.size) s4:=by
  refine gI (Eb:=xb) (nof:=?nf) (J:=fun n s'=>∃ i ys τ H',Inv X' [] τ H' s'/\tn i s'.heap/\(∀ b ∈ fp,H' b=none)/\W i n ys τ H') ?tn m0 ⟨0,[],_,_,I4,st4,fun b hb=>(f3 b hb).1,w0⟩
  case nf=>
   rw [eenv]
   exact nf (.ref acc)
  rintro n s5 ⟨i,ys,τ,H5,I5,st5,fr5,w5⟩
  obtain ⟨ha5,hz5,way⟩:=turn i n ys τ H5 w5
  rcases way with ⟨stop,qn⟩ | ⟨go,N,hN,step⟩
  ·have d:=T.done X' eP ew ec i [] s5 τ H5 xb I5 (stat fr5) st5 stop
   rw [eA] at d
   refine thn d fun r s6 hz48=>?_
   obtain ⟨hr,I6⟩:=hz48
   subst hr
   obtain ⟨m,hn6,_⟩:=id I6.loc
   rw [eloc] at hn6
   refine fin acc s3.heap.objs.size H5 s6 m qn hn6 (fun h' hsb tk=>?_) ⟨I3.sz,Ne.symm (zDF I3.lt),fun x c e z=>by
    obtain ⟨v,oc,hoc,_⟩:=I3.cell x c e
    exact Nat.lt_irrefl _ (Nat.lt_of_lt_of_eq (Heap.lt_size hoc) z.symm),fun p hp z=>Nat.lt_irrefl _ (Nat.lt_of_lt_of_eq (Heap.lt_size (I3.pin p hp).1) z.symm),by have:=I6.free;rw [eloc] at this;exact this⟩
   have same:∀ b,b ≠ s3.heap.objs.size->h'.get? b=s6.heap.get? b:=fun b hb=>hsb.2 b hb
   have ub:=I6.base
   rw [efs,eex,eH0,es0] at ub
   have ne3:∀ b o,s3.heap.get? b=some o->b ≠ s3.heap.objs.size:=fun b o e=>zDF (Heap.lt_size e)
   have u:Un (frs X.stack) fp (upd H2 acc (.lst [])) H5 s3.heap h':=
    ⟨fun b o e n1 n2 n3=>(same b (ne3 b o e)).trans (ub.keep b o e n1 n2 n3),fun b o e n1 n2 n3=>by
      obtain ⟨sl,z⟩:=ub.slot b o e n1 n2 n3
      exact ⟨sl,(same b (ne3 b o e)).trans z⟩,ub.free,fun b o e n3=>by
      obtain ⟨o',z⟩:=ub.there b o e n3
      exact ⟨o',(same b (ne3 b o e)).trans z⟩,ub.tups,ub.frzs,ub.tbls⟩
   have fC:H5 s3.heap.objs.size=none:=by have:=I6.free;rw [eloc] at this;exact this
   have hok:HOk X.prog X.w H5 h':=fun b o e=>by
    have z:=I6.hok b o e
    rw [eP,ew] at z
    refine z.stay (fun c u hc q=>(same c ?_).trans q) (fun _ q=>q) fun _ _ q=>q
    intro zc
    rcases hc with q1 | q1
    ·rw [<- q1,zc,fC] at e;cases e
    ·rw [zc,fC] at q1;cases q1
   have hch:∀ b ∈ fp,(b ∈ X.ex \/ X.s₀.heap.objs.size <= b)/\b ≠ X.env.locals/\(∀ x c,X.env.cells.lookup x=some c->c ≠ b)/\∀ p ∈ X.pn ++ qp,p.1 ≠ b:=fun b hb=>by
    obtain ⟨_,f1,_,g3,g4,g5⟩:=f3 b hb
    exact ⟨g3,f1,g4,g5⟩
   have ho:s6.os=s3.os:=by have:=I6.os;rw [es0] at this;exact this
   exact I3.call' (s':={ s6 with heap:=h',toks:=tk }) (ch:=fp) ho u hok I6.bare hch
  ·have d:=T.item X' eP ew ec i [] s5 τ H5 xb I5 (stat fr5) st5 go
   rw [eA] at d
   refine thn d fun r s6 hz49=>?_
   obtain ⟨u,hr,h6⟩:=hz49
   subst hr
   refine thn h6 fun _ s7 hz50=>?_
   obtain ⟨x,H7,I7,r7,y7,st7,fr7⟩:=hz50
   have I7':=I7.pinned (stat fr7) (T.obj _ _ st7)
   have dg:=hg _ s7 τ H7 x u _ I7' r7 (step x H7 y7)
   rw [eP,ew,eA,ex] at dg
   refine thn dg fun _ s8 hz51=>?_
   obtain ⟨τ8,H8,I8,q8⟩:=hz51
   have dt:=ht _ s8 τ8 H8 _ I8 q8
   rw [eP,ew,eA,ex] at dt
   refine thn dt fun ok s9 hz52=>?_
   obtain ⟨H9,I9,q9⟩:=hz52
   have again:∀ {τ':St} {H':Hp} {s':Shared},Inv X' ([] ++ sG fp s7.heap) τ' H' s'->Inv X' [] τ' H' s'/\tn (i + 1) s'.heap/\∀ b ∈ fp,H' b=none:=fun {τ' H' s'} Ie=>by
    refine ⟨Ie.unpinned,T.keep _ _ _ st7 fun b hb o e=>(Ie.pin (b,o) (zC2 _ (zC2 _ (vA hb e)))).1,fun b hb=>?_⟩
    obtain ⟨o,e,_⟩:=T.obj _ _ st7 b hb
    exact (Ie.pin (b,o) (zC2 _ (zC2 _ (vA hb e)))).2.1
   cases ok with
   | false=>
    rw [if_neg zDG] at q9 ⊢
    obtain ⟨m',hm,w9⟩:=hN _ _ _ q9
    obtain ⟨z1,z2,z3⟩:=again I9
    exact ⟨m',hm,i + 1,ys,τ8,H9,z1,z2,z3,w9⟩
   | true=>
    rw [if_pos rfl] at q9 ⊢
    have de:=he _ s9 τ8 H9 _ I9 q9
    rw [eP,ew,eA,ex] at de
    refine thn de fun yv s10 hz53=>?_
    obtain ⟨y,H10,I10,r10,ha10,n10⟩:=hz53
    obtain ⟨m',hm,w10⟩:=hN _ _ _ n10
    have dm:=y2 (X:=X') _ s10 τ8 H10 (.ref acc) [y] (.ref acc) [yv] (fun v H'=>v=.non/\H'=upd H10 acc (.lst (ys ++ [y]))) I10 rfl (.cons r10 .nil) ⟨acc,ys,y,rfl,rfl,ha10,hz5,rfl,rfl⟩
    rw [eP,ew,eA,ex] at dm
    refine thn dm fun _ s11 hz54=>?_
    obtain ⟨_,H11,I11,_,_,e11⟩:=hz54
    subst e11
    obtain ⟨z1,z2,z3⟩:=again I11
    exact ⟨m',hm,i + 1,ys ++ [y],τ8,_,z1,z2,z3,w10⟩
 have e4:({ newEnv scope s3.heap.objs.size X.env.globals (clF X.env scope.names []) X.env.qual none .none (some X.env) builtinsNs with scope:=relabel scope X.env }:Env)=X'.env:=by rw [eenv];rfl
 rw [eenv] at loop
 have self:=T.self X.A 0 s4 (fun it' s'=>codeAny (model X.prog X.w) X.A (.compLoop (.ListComp elt [⟨tg,iter,ifs,0⟩] scope pos) 0 it' (.ref acc) (compEnvC scope (clF X.env scope.names []) s3.heap.objs.size X.env)) (compPost (model X.prog X.w) X.A X.xe use R (.ref acc) s3.heap.objs.size) s')
  (notedBy (model X.prog X.w) X.A (compEnvC scope (clF X.env scope.names []) s3.heap.objs.size X.env) fun x s'=>compPost (model X.prog X.w) X.A X.xe use R (.ref acc) s3.heap.objs.size (.error x) s') st4 loop
 exact codeAny_compStart_list loop self
theorem gK {Reg:Cx->Prop} {X:Cx} {xs:List Str} {ix:List Nat} {scope:Scope} {elt tg iter:Expr} {ifs:List Expr} {pos:Pos} {wi:TI} {g:TG} {tt:TT} {te:TE}
  (S:xS X xs ix scope) (hreg:∀ Y:Cx,Y.K=X.K->Y.calm=X.calm->Y.A.handled=X.A.handled->Reg Y) (hi:PIG Reg X tg iter wi)
  (hg:∀ C fp s H,PG (cxC X xs ix scope C fp s H) tg g) (ht:∀ C fp s H,PTs (cxC X xs ix scope C fp s H) ifs tt) (he:∀ C fp s H,PE (cxC X xs ix scope C fp s H) elt te)
  {qp:LAO} {s:Shared} {σ:St} {H:Hp} {Q:VK} (I:Inv X qp σ H s) (h:tLC xs ix wi g tt te σ H Q) {use:Option (Value->Sem Unit)} {R:VSP}
  (fin:∀ (acc C:Addr) (H':Hp) (s':Shared) (m:Str->Option Value),Q (.ref acc) H'->s'.heap.Ns C m->(∀ h',Heap.SameBut C s'.heap h'->∀ tk,Inv X qp σ H' { s' with heap:=h',toks:=tk })->(X.s₀.heap.objs.size <= C/\C ≠ X.env.locals/\(∀ x c,X.env.cells.lookup x=some c->c ≠ C)/\(∀ p ∈ X.pn ++ qp,p.1 ≠ C)/\H' C=none)->compPost (model X.prog X.w) X.A X.xe use R (.ref acc) C (.ok .next) s') :
  wpAny (model X.prog X.w) X.A (eval iter X.env) (fun x s₁=>wpAny (model X.prog X.w) X.A (pyIter x) (fun it s₂=>wpAny (model X.prog X.w) X.A (newList []) (fun acc s₃=>
   wpAny (model X.prog X.w) X.A (newFunctionEnv scope X.env.globals (clF X.env scope.names []) [] X.env.qual none .none (some X.env)) (fun cenv s₄=>
    codeAny (model X.prog X.w) X.A (.compStart (.ListComp elt [⟨tg,iter,ifs,0⟩] scope pos) 0 it acc { cenv with scope:=relabel scope X.env }) (compPost (model X.prog X.w) X.A X.xe use R acc cenv.locals) s₄) X.xe s₃) X.xe s₂) X.xe s₁) X.xe s:=
 gJ (fun _ _ _ _ _ _=>False) S hreg hi hg ht he I h (fun _ _ _ _ _ _ _ _ f=>f.elim) fin
theorem kB {X:Cx} {xs:List Str} {ix:List Nat} {scope:Scope} {elt tg iter:Expr} {ifs:List Expr} {pos:Pos} {wi:TI} {g:TG} {tt:TT} {te:TE}
  (S:xS X xs ix scope) (hc:X.calm=true) (hi:PI X tg iter wi)
  (hg:∀ C fp s H,PG (cxC X xs ix scope C fp s H) tg g) (ht:∀ C fp s H,PTs (cxC X xs ix scope C fp s H) ifs tt) (he:∀ C fp s H,PE (cxC X xs ix scope C fp s H) elt te)
  {qp:LAO} {s:Shared} {σ:St} {H:Hp} {Q:VK} (I:Inv X qp σ H s) (h:tLC xs ix wi g tt te σ H Q) {use:Option (Value->Sem Unit)} {R:VSP}
  (fin:∀ (acc C:Addr) (H':Hp) (s':Shared) (m:Str->Option Value),Q (.ref acc) H'->s'.heap.Ns C m->(∀ h',Heap.SameBut C s'.heap h'->∀ tk,Inv X qp σ H' { s' with heap:=h',toks:=tk })->(X.s₀.heap.objs.size <= C/\C ≠ X.env.locals/\(∀ x c,X.env.cells.lookup x=some c->c ≠ C)/\(∀ p ∈ X.pn ++ qp,p.1 ≠ C)/\H' C=none)->compPost (model X.prog X.w) X.A X.xe use R (.ref acc) C (.ok .next) s') :
  wpAny (model X.prog X.w) X.A (eval iter X.env) (fun x s₁=>wpAny (model X.prog X.w) X.A (pyIter x) (fun it s₂=>wpAny (model X.prog X.w) X.A (newList []) (fun acc s₃=>
   wpAny (model X.prog X.w) X.A (newFunctionEnv scope X.env.globals (clF X.env scope.names []) [] X.env.qual none .none (some X.env)) (fun cenv s₄=>
    codeAny (model X.prog X.w) X.A (.compStart (.ListComp elt [⟨tg,iter,ifs,0⟩] scope pos) 0 it acc { cenv with scope:=relabel scope X.env }) (compPost (model X.prog X.w) X.A X.xe use R acc cenv.locals) s₄) X.xe s₃) X.xe s₂) X.xe s₁) X.xe s:=
 gK (Reg:=fun Y=>Y.K=X.K/\Y.calm=true) S (fun Y k c _=>⟨k,c.trans hc⟩)
  (fun qp s σ H R I q=>thn (hi qp s σ H R I q) fun v s1 h1=>thn h1 fun itv s2 h2=>by
   obtain ⟨it,fp,tn,J,H',e,I',T,r⟩:=h2
   exact ⟨it,fp,tn,J,H',e,I',⟨T.mem,T.obj,T.keep,fun Y e1 e2 r=>T.item Y e1 e2 r.1 r.2,fun Y e1 e2 r=>T.done Y e1 e2 r.1 r.2,T.self⟩,r⟩) hg ht he I h fin
theorem bJ {X:Cx} {xs:List Str} {ix:List Nat} {scope:Scope} {elt tg iter:Expr} {ifs:List Expr} {pos:Pos} {wi:TI} {g:TG} {tt:TT} {te:TE}
  (S:xS X xs ix scope) (hc:X.calm=true) (hi:PI X tg iter wi)
  (hg:∀ C fp s H,PG (cxC X xs ix scope C fp s H) tg g) (ht:∀ C fp s H,PTs (cxC X xs ix scope C fp s H) ifs tt) (he:∀ C fp s H,PE (cxC X xs ix scope C fp s H) elt te)
  (hs:∀ x,foldedSetIterable iter X.env x=pure x:=by intro _;rfl) :
  PE X (.ListComp elt [⟨tg,iter,ifs,0⟩] scope pos) (tLC xs ix wi g tt te):=by
 intro qp s σ H Q I h
 have hcl:∀ n,(n,NameKind.free) ∈ scope.names->(X.env.cells.lookup n).isSome=true:=fun n hn=>by
  obtain ⟨c,e⟩:=I.ok.has n (S.fre n hn)
  rw [e];rfl
 rw [eval_ListComp]
 refine wpAny_comprehension_free (use:=none) rfl hs (vH hcl) S.kind S.loc ?_
 refine kB S hc hi hg ht he I h fun acc C H' s' m q hn k _=>?_
 exact ⟨m,hn,fun h' hsb=>⟨.ref acc,H',k h' hsb s'.toks,rfl,q⟩⟩
theorem Inv.letgo {X:Cx} {qp:LAO} {σ:St} {H:Hp} {s:Shared} {h':Heap} {C:Addr} (I:Inv X qp σ H s) (hs:Heap.SameBut C s.heap h')
  (hC:X.s₀.heap.objs.size <= C/\C ≠ X.env.locals/\(∀ x c,X.env.cells.lookup x=some c->c ≠ C)/\(∀ p ∈ X.pn ++ qp,p.1 ≠ C)/\H C=none):Inv X qp σ H { s with heap:=h' }:=by
 obtain ⟨c1,c2,c3,c4,c5⟩:=hC
 have same:∀ b,b ≠ C->h'.get? b=s.heap.get? b:=fun b hb=>hs.2 b hb
 have ne:∀ {b:Addr},b ∉ [C]->b ≠ C:=fun h e=>h (by simp [e])
 have u:Un (frs X.stack) [C] H H s.heap h':=
  ⟨fun b o e _ _ n=>(same b (ne n)).trans e,fun b o e _ _ n=>⟨o.slots,(same b (ne n)).trans e⟩,fun b o _ e _=>e,fun b o e n=>⟨o,(same b (ne n)).trans e⟩,fun _ _ e=>e,fun _ _ _ e=>e,fun b ps e=>⟨#[],by rw [Array.append_empty];exact e⟩⟩
 have hok:HOk X.prog X.w H h':=fun b o e=>by
  refine (I.hok b o e).stay (fun c u hc q=>(same c ?_).trans q) (fun _ q=>q) fun _ _ q=>q
  intro zc
  rcases hc with q1 | q1
  ·rw [<- q1,zc,c5] at e;cases e
  ·rw [zc,c5] at q1;cases q1
 refine I.call' (s':={ s with heap:=h' }) (ch:=[C]) rfl u hok I.bare fun b hb=>?_
 have eb:b=C:=by simpa using hb
 subst eb
 exact ⟨.inr c1,c2,c3,c4⟩
theorem iU {X:Cx} {xs:List Str} {ix:List Nat} {scope:Scope} {elt tg iter:Expr} {ifs:List Expr} {cpos pos pos':Pos} {wi:TI} {g:TG} {tt:TT} {te:TE} {i:Nat} {x:Str}
  (hN:X.N.Nodup) (hin:X.N[i]?=some x) (hx:Loc X.env.scope x)
  (S:xS X xs ix scope) (hc:X.calm=true) (hi:PI X tg iter wi)
  (hg:∀ C fp s H,PG (cxC X xs ix scope C fp s H) tg g) (ht:∀ C fp s H,PTs (cxC X xs ix scope C fp s H) ifs tt) (he:∀ C fp s H,PE (cxC X xs ix scope C fp s H) elt te)
  (hsw:swapsWith (.ListComp elt [⟨tg,iter,ifs,0⟩] scope cpos) (some (.Name x pos')) pos.line X.env=pure true)
  (hf:X.fn x=true \/ X.env.scope.names.lookup x=some .local:=by first | exact .inl rfl | exact .inr rfl | assumption)
  (hs:∀ x,foldedSetIterable iter X.env x=pure x:=by intro _;rfl) :
  PS X (.Assign [.Name x pos'] (.ListComp elt [⟨tg,iter,ifs,0⟩] scope cpos) pos) (oX (tLC xs ix wi g tt te) (vC i)):=by
 intro qp s σ H D I h
 have hcl:∀ n,(n,NameKind.free) ∈ scope.names->(X.env.cells.lookup n).isSome=true:=fun n hn=>by
  obtain ⟨c,e⟩:=I.ok.has n (S.fre n hn)
  rw [e];rfl
 rw [exec_Assign_Name_used _ _ _ _ hsw]
 refine wpAny_bind (wpAny_standAt (wpAny_bind ?_))
 rw [arm_evalThenUse_ListComp]
 refine wpAny_bind (thn (Q:=fun _ s'=>SP X qp D .next s') (wpAny_comprehension_free (g:=⟨tg,iter,ifs,0⟩) (gs:=[]) (use:=some (assign (.Name x pos') X.env)) rfl hs (vH hcl) S.kind S.loc ?_) fun _ s1 h1=>wpAny_pure (wpAny_pure h1))
 refine kB S hc hi hg ht he I h fun acc C H' s' m q hn k hC=>?_
 have I':Inv X qp σ H' s':=k s'.heap (Heap.SameBut.refl _ _) s'.toks
 show wpAny (model X.prog X.w) X.A (assign (.Name x pos') X.env (.ref acc)) (fun _ s''=>∃ m,s''.heap.Ns C m/\∀ h',Heap.SameBut C s''.heap h'->SP X qp D .next { s'' with heap:=h' }) X.xe s'
 refine wpAny_assign_Name (rF I' hN hin hx (v:=.ref acc) rfl (fun s'' I'' hz55=>?_) hf)
 obtain ⟨a,hsa,ha⟩:=hz55
 refine ⟨m,hn.sameBut hsa ?_,fun h' hsb=>⟨_,H',I''.letgo hsb hC,q⟩⟩
 rcases ha with rfl | ha
 ·exact hC.2.1
 ·exact fun z=>hC.2.2.1 x a ha z.symm
def Its (x:Str):It:=⟨fun i _=>i < x.cps.size,fun i H v H'=>H'=H/\∃ c,x.cps[i]?=some c/\v=.str ⟨#[c]⟩,fun i _=>i=x.cps.size⟩
theorem iB {P:Program} {w:World} {K:PySem.W.Frag} {tg:Expr} (it:Addr) (x:Str) (t:Tok) (ty:String)
  (hty:["enumerate","zip","dict_itemiterator","dict_reverseitemiterator","odict_iterator","itertools.zip_longest","itertools.pairwise"].contains ty=false)
  (W:∀ A:Around,A.handled=none->Walks P w A it [it] [it] x.cps.size (SignAt x) (fun i h=>h.IsStrIter it ty x t i))
  (self:∀ (A:Around) (i:Nat) (s:Shared) (Q:VSP) (E:VSP),s.heap.IsStrIter it ty x t i->Q (.ref it) s->wpAny (model P w) A (pyIter (.ref it)) Q E s) :
  fZ P w K tg (Its x) [it] it (fun i h=>h.IsStrIter it ty x t i) where
 mem:=by simp
 obj:=fun i h st b hb=>by
  have e:b=it:=by simpa using hb
  subst e
  obtain ⟨o,e,c,d⟩:=st
  exact ⟨o,e,fun v z=>by rw [d] at z;cases z⟩
 keep:=fun i h h' st k=>let ⟨o,e,r⟩:=st;⟨o,k it (by simp) o e,r⟩
 item:=by
  intro X hP hw hK hc i qp s σ H E I hf st hg
  subst hP hw hK
  obtain ⟨f0,f1,f2,f3,f4,f5⟩:=hf it (by simp)
  refine (W X.A (I.ok.hd hc)).item i s _ _ hg st fun v h' tk hv st' kk=>?_
  obtain ⟨c,u,hcx,rfl⟩:=hv
  have I1:Inv X qp σ H { s with heap:=h',toks:=tk }:=I.turned (fun b o hb e=>kk b o (by simpa using hb) e) f0 f1 f3 f4 f5
  obtain ⟨o,e,c',d⟩:=id st'
  exact ⟨_,rfl,kE (s:={ s with heap:=h',toks:=tk }) e c' d hty ⟨.str ⟨#[c]⟩,H,I1,⟨u,rfl⟩,⟨rfl,c,hcx,rfl⟩,st',fun b hb=>(hf b hb).1⟩⟩
 done:=by
  intro X hP hw hK hc i qp s σ H E I hf st hg
  subst hP hw hK
  obtain ⟨f0,f1,f2,f3,f4,f5⟩:=hf it (by simp)
  have hg':i=x.cps.size:=hg
  subst hg'
  exact (W X.A (I.ok.hd hc)).done s _ _ st fun h' tk kk=>⟨rfl,I.turned (fun b o hb e=>kk b o (by simpa using hb) e) f0 f1 f3 f4 f5⟩
 self:=self
section
variable {X:Cx} {tg:Expr}
def iStr (tl:TE):TI:=fun σ H R=>tl σ H fun x H1=>∃ z,x=.str z/\R (Its z) H1
theorem aM {l:Expr} {tl:TE} (hl:PE X l tl):PI X tg l (iStr tl):=by
 intro qp s σ H R I h
 refine thn (hl qp s σ H _ I h) fun v s1 hz56=>?_
 obtain ⟨x,H1,I1,r1,q1⟩:=hz56
 obtain ⟨z,e,q⟩:=q1
 subst e
 obtain ⟨t,rfl⟩:=(show ∃ t,v=Value.str z t from r1)
 have fin:∀ (o:Obj) (ty:String),o.cls=.type ty->o.data=.fields #[.str z t,.int 0 0] ->
   ["enumerate","zip","dict_itemiterator","dict_reverseitemiterator","odict_iterator","itertools.zip_longest","itertools.pairwise"].contains ty=false ->
   o.isFreed=false ->
   (∀ A:Around,A.handled=none->Walks X.prog X.w A s1.heap.objs.size [s1.heap.objs.size] [s1.heap.objs.size] z.cps.size (SignAt z) (fun i h=>h.IsStrIter s1.heap.objs.size ty z t i)) ->
   (∀ (A:Around) (i:Nat) (s:Shared) (Q:VSP) (E:VSP),s.heap.IsStrIter s1.heap.objs.size ty z t i->Q (.ref s1.heap.objs.size) s->wpAny (model X.prog X.w) A (pyIter (.ref s1.heap.objs.size)) Q E s) ->
   PIE X qp σ tg R (.ref s1.heap.objs.size) { s1 with heap:=s1.heap.push o }:=fun o ty h1 h2 h3 hfr W self=>by
  refine ⟨s1.heap.objs.size,[s1.heap.objs.size],_,_,H1,rfl,I1.kept (t':=s1.toks) fun b o e=>Heap.get?_push_of_some _ e,iB _ z t ty h3 W self,⟨o,Heap.get?_push_size _ hfr,h1,h2⟩,fun b hb=>?_,q⟩
  have e:b=s1.heap.objs.size:=by simpa using hb
  subst e
  exact I1.fpOk (zCX _) (I1.hok.fresh (zCX _))
 cases ha:z.cps.all (· < 128)
 ·exact wpAny_pyIter_wide ha (fin _ "str_iterator" rfl rfl (by decide) rfl (fun A hA=>Walks.strWide hA _ z t) fun _ _ _ _ _ st hQ=>wpAny_pyIter_striter_wide st hQ)
 ·exact wpAny_pyIter_ascii ha (fin _ "str_ascii_iterator" rfl rfl (by decide) rfl (fun A hA=>Walks.strAscii hA _ z t) fun _ _ _ _ _ st hQ=>wpAny_pyIter_striter_ascii st hQ)
theorem oF {A:Around} (h:A.handled=none):A.in1.handled=none:=h
theorem jX {ys:List Bool} {its:List Value} (r:zS (ys.map V.bl) its) {i:Nat} {v:Value} (h:its[i]?=some v):∃ b,ys[i]?=some b/\v=.bool b:=by
 have hl:=r.length
 rw [zCO] at hl
 have hi:i < its.length:=(zCQ.mp h).1
 obtain ⟨u,e1,e2⟩:=r.get (i:=i) (x:=V.bl (ys[i]'(by omega))) (by rw [zCU,zCP (by omega)];rfl)
 rw [h] at e1
 cases e1
 exact ⟨_,zCP (by omega),e2⟩
theorem jF (ys:List Bool):(List.range ys.length).all (fun i=>ys.getD i false)=ys.all id:=by
 have e:ys=(List.range ys.length).map (fun i=>ys.getD i false):=by
  apply List.ext_getElem (by simp)
  intro i h1 h2
  simp [zCT,zCP h1]
 conv=>rhs;rw [e]
 rw [List.all_map];rfl
theorem fO (hc:X.calm=true):uS X (.builtin "all") (fun xs H Q=>∃ (p:Addr) (ys:List Bool),xs=[.ref p]/\SqL X.K H p (ys.map V.bl)/\Q (.bl (ys.all id)) H):=by
 intro qp s σ H xs us Q I r h
 obtain ⟨p,ys,rfl,hq,q⟩:=h
 obtain ⟨u,rfl,ru⟩:=r.one
 cases ru
 obtain ⟨its,rv,pl,hz⟩:=I.list hq
 have hl:=rv.length
 rw [zCO] at hl
 refine call_all_walk (wpAny_pyIter_list pl.isList ?_)
 have hp:p < s.heap.objs.size:=by obtain ⟨o,ho,_⟩:=pl.isList;exact Heap.lt_size ho
 refine ⟨s.heap.objs.size,_,_,_,_,_,fun i=>ys.getD i false,rfl,Walks.list (oF (I.ok.hd hc)) _ p (zDF hp) its.toArray,⟨⟨_,Heap.get?_push_size _ rfl,rfl,rfl⟩,?_⟩,?_,fun h' tk kk=>?_⟩
 ·obtain ⟨o,ho,r⟩:=pl.isList
  exact ⟨o,Heap.get?_push_of_some _ ho,r⟩
 ·intro i v s' Q' E' hP hQ
  obtain ⟨b,e1,rfl⟩:=jX rv (by simpa using hP)
  refine wpAny_truthy_bool ?_
  have e2:ys.getD i false=b:=by rw [zCT,e1];rfl
  rw [<- e2];exact hQ
 ·refine ⟨.bl (ys.all id),H,I.kept fun b o e=>kk b o ?_ (Heap.get?_push_of_some _ e),?_,q⟩
  ·intro z;have z':b=s.heap.objs.size:=by simpa using z
   exact zDF (Heap.lt_size e) z'
  ·have e3:its.toArray.size=ys.length:=by simp;omega
   rw [e3,jF];rfl
theorem tM:uS X (.builtin "isinstance") (fun xs H Q=>∃ x t T b,xs=[x,.ty T]/\uQ X.K H x t/\W.kitOne X.K t (.type T)=some b/\Q (.bl b) H):=by
 intro qp s σ H xs us Q I r h
 obtain ⟨x,t,T,b,rfl,ty,e,q⟩:=h
 obtain ⟨u,v,rfl,ru,rv⟩:=r.two
 cases rv
 exact jR I ru ty e fun tk=>⟨.bl b,H,I.tok tk,rfl,q⟩
def rSlS:V->Option Int->Option Int->Hp->VK->Prop:=fun x lo hi H Q=>∃ z,x=.str z/\z.length <= sizeLine/\Q (.str (Txt.slice z lo hi)) H
theorem b9:SlR X rSlS:=by
 intro qp s σ H x v vl vu lo hi sl Q I rx hs pl pu h
 obtain ⟨z,rfl,hz,q⟩:=h
 obtain ⟨t,rfl⟩:=(show ∃ t,v=Value.str z t from rx)
 refine ⟨"str",_,F.slot_str_getitem.lookup,typeIs_str _ _ _,?_⟩
 have key:∀ (l u:Option (Int × Tok)),vl=partValue l->vu=partValue u->lo=l.map (·.1)->hi=u.map (·.1) ->
   wpAny (model X.prog X.w) X.A (getItem (.str z t) (.ref sl)) (EP X qp σ Q) X.xe s:=by
  intro l u e1 e2 e3 e4
  subst e1 e2
  refine wpAny_getItem_str_slice (l:=l) (u:=u) (st:=none) hs rfl ?_
  unfold sliceMade
  have ee:Txt.slice z lo hi=if (((none:Option (Int × Tok)).map (·.1)).getD 1 == 1 && (slicePicked z l u none).length == z.length)=true then z else ⟨((slicePicked z l u none).filterMap (z.cps[·]?)).toArray⟩:=by
   rw [e3,e4];rfl
  split
  ·rename_i c
   rw [if_pos c] at ee
   rw [ee] at q
   exact ⟨.str z,H,I,⟨t,rfl⟩,q⟩
  ·rename_i c
   rw [if_neg c] at ee
   rw [ee] at q
   have hle:=Txt.slice_le z lo hi
   rw [ee] at hle
   exact ⟨zCZ hle hz,.str _,H,I.tok _,⟨_,rfl⟩,q⟩
 cases pl with
 | none=>
  cases pu with
  | none=>exact key none none rfl rfl rfl rfl
  | int j tj=>exact key none (some (j,tj)) rfl rfl rfl rfl
 | int i ti=>
  cases pu with
  | none=>exact key (some (i,ti)) none rfl rfl rfl rfl
  | int j tj=>exact key (some (i,ti)) (some (j,tj)) rfl rfl rfl rfl
theorem m7:∀ {ys:List Str} {us:List Value},zS (ys.map V.str) us->StrsAre us ys
 | [],_,.nil=>.nil
 | y :: ys,_,.cons r t=>by
  obtain ⟨k,rfl⟩:=r
  exact .cons y k (m7 t)
theorem dU:MtR X "str.join" (fun x xs H Q=>∃ (z:Str) (p:Addr) (ys:List Str),x=.str z/\xs=[.ref p]/\SqL X.K H p (ys.map V.str)/\(ys.map (·.length)).sum + ys.length * z.length <= 16777216/\Q (.str (Txt.join z ys)) H):=by
 intro qp s σ H x xs v us Q I rx rs h
 obtain ⟨z,p,ys,rfl,rfl,hq,hz,q⟩:=h
 obtain ⟨t,rfl⟩:=(show ∃ t,v=Value.str z t from rx)
 obtain ⟨u,rfl,ru⟩:=rs.one
 cases ru
 obtain ⟨its,rv,pl,hl⟩:=I.list hq
 exact join_list pl.isList (m7 (by simpa using rv)) hz fun t' k=>⟨.str _,H,I.tok k,⟨t',rfl⟩,q⟩
theorem hU:OpR X (binaryOp .FloorDiv) (rI (fun _ j=>0 < j/\j < 2 ^ 62) fun i j=>.int (i / j)):=opI fun i j _ _ _ _ _ hc q=>by
 have hp:(0:Int) < j:=hc.1
 have hq:j < 2 ^ 62:=hc.2
 have hlog:j.natAbs.log2 < 9000:=by
  have h1:j.natAbs ≠ 0:=by omega
  have h2:j.natAbs.log2 < 62:=(Nat.log2_lt h1).mpr (by omega)
  omega
 exact floordiv_int (by omega) (by rw [Int.fdiv_eq_ediv_of_nonneg i (by omega)];exact q) (.inl (PyProof.noPylong_of_log2 hlog))
end
structure y1 (K:W.Frag) (mg:Str->Option Value) (x:Str) (st:Stmt) (ps:List Str):Prop where
 ex:∃ (f:Addr) (fd:FuncData),Fun K x x st f fd/\mg x=some (.ref f)/\wK K fd ps []
structure Cal (P:Program) (w:World) (K:W.Frag) (mg:Str->Option Value) (base:Heap) (CX:CXT) (k:Nat) (x:Str) (ps:List Str) (sp:Sp):Prop where
 ex:∃ (f:Addr) (fd:FuncData),vJ P w K mg base CX k f fd ps sp/\mg x=some (.ref f)/\W.keepIn K (.ref f)=true/\wK K fd ps []
section
variable {P:Program} {w:World} {K:W.Frag} {mg:Str->Option Value} {base:Heap}
theorem y1.ok {x:Str} {st:Stmt} {N ps:List Str} {k:Nat} {sp:Sp} (G:y1 K mg x st ps) (S:zQ N ps (zG st)) (len:∀ vs H Q E,sp vs H Q E->vs.length=ps.length)
  (hbody:∀ (f:Addr) (cdv:Value) (A:Around) (outer:List Env) (s:Shared) (H:Hp) (vs:List V) (Q:VK) (E:XK),z9 k (A.deeper (envOfC x (zG st) s.heap.objs.size f cdv))->sp vs H Q E ->
   ∃ t,PSs (oK CX0 P w K mg base N x (zG st) f cdv A outer s H E).nox (yW st) t/\t { nx:=fun _ H'=>Q .non H',rt:=Q } (start N vs) H):Cal P w K mg base CX0 (k + 1) x ps sp:=by
 obtain ⟨f,fd,F,hm,hb⟩:=G.ex
 exact ⟨f,fd,F.ok S len fun cdv A outer s H vs Q E hr h=>hbody f cdv A outer s H vs Q E hr h,hm,F.kp,hb⟩
theorem cD {h:Heap} {x:Str} {st:Stmt} {f:Addr} {oc:Value} {od an:Option Addr} {osl:Array (Option Value)} {kV doc pm cdv ct:Value} {ps:List Str} (X:K.In h) (G:h.Ns mainGlobals mg)
  (a:W.nsIn K mainGlobals x=some (some (.ref f)))
  (l:K.lookup f=some ⟨oc,od,.func (W.fnOf x x (y4 st) (yW st) (zG st) .none kV doc pm an cdv ct),osl⟩) (c:W.codeIn K cdv x=true) (k:W.keepIn K (.ref f)=true)
  (hb:∀ (kV doc pm:Value) (an:Option Addr) (cdv ct:Value) (us:List Value),us.length=ps.length->bindArgs (W.fnOf x x (y4 st) (yW st) (zG st) .none kV doc pm an cdv ct) ⟨us,[]⟩=pure (ps.zip us)):y1 K mg x st ps:=
 ⟨f,_,tD l c k,W.mg_of X G a,(tD l c k).binds hb⟩
end
section
variable {X:Cx} {CX:CXT} {k:Nat} {ps:List Str} {sp:Sp} {E:XK} {x:Str} {p pos:Pos} {e:Expr} {es:List Expr} {t:TA}
theorem zZ (C:Cal X.prog X.w X.K X.mg X.base CX0 k x ps sp) (hr:z9 k X.A) (ha:PA X (e :: es) t) (hg:Gl X x:=by rfl)
  (hdb:(x == ("__debug__" : Str))=false:=by decide) (he:starEach (e :: es) X.env=(false,eval e X.env) :: starEach es X.env:=by rfl) (hpl:(backTo pos (starEach es X.env)).any (·.1)=false:=by rfl) :
  PE X (.Call (.Name x p) (e :: es) [] pos) (iF sp [] E0 t):=
 let ⟨_,_,F,hm,hk,hb⟩:=C.ex
 dH F hr hg hm hk hb .nil lV ha hdb he hpl
structure Blt (mg:Str->Option Value) (x:Str):Prop where
 no:mg x=none
theorem xY {id:String} {r:List V->Hp->VK->Prop} (hc:uS X (.builtin id) r) (b:Blt X.mg x) (hv:bootBuiltins x=some (.builtin id)) (ha:PA X (e :: es) t) (hg:Gl X x:=by rfl) (hn:x ≠ "__name__":=by decide) (hdb:(x == ("__debug__" : Str))=false:=by decide)
  (he:starEach (e :: es) X.env=(false,eval e X.env) :: starEach es X.env:=by rfl) (hpl:(backTo pos (starEach es X.env)).any (·.1)=false:=by rfl) :
  PE X (.Call (.Name x p) (e :: es) [] pos) (tCB r t):=hG hc hg b.no hv ha hn hdb he hpl
theorem bH {T:String} (b:Blt X.mg x) (hv:bootBuiltins x=some (.type T)) (hg:Gl X x:=by rfl) (hn:x ≠ "__name__":=by decide) (hd:(x == ("__debug__" : Str))=false:=by decide):PE X (.Name x pos) (tC (.ty T)):=
 dI hg b.no hv rfl hn hd
end
def zD (S:List Addr) (H H':Hp):Prop:=∀ b o,b ∉ S->H b=some o->H' b=some o
theorem zD.refl {S:List Addr} (H:Hp):zD S H H:=fun _ _ _ h=>h
theorem zD.trans {S:List Addr} {H H1 H2:Hp} (a:zD S H H1) (b:zD S H1 H2):zD S H H2:=fun c o n h=>b c o n (a c o n h)
theorem zD.mono {S S':List Addr} {H H1:Hp} (a:zD S H H1) (h:∀ b ∈ S,b ∈ S'):zD S' H H1:=fun c o n q=>a c o (fun z=>n (h c z)) q
theorem zD.new {S:List Addr} {H:Hp} {p:Addr} {o:HO} (h:H p=none):zD S H (upd H p o):=fun b u _ q=>by rw [zJ (zF q h)];exact q
theorem zD.at {S:List Addr} {H:Hp} {p:Addr} {o:HO} (h:p ∈ S):zD S H (upd H p o):=fun b u n q=>by
 rw [zJ (fun z=>n (by rw [z];exact h))];exact q
theorem zD.none {S:List Addr} {H H':Hp} (k:zD S H H') {l:Addr} (n:l ∉ S) (h:H' l=Option.none):H l=Option.none:=by
 cases q:H l with
 | none=>rfl
 | some o=>rw [k l o n q] at h;cases h
theorem zD.same {H H':Hp} (k:zD [] H H'):zAZ H H':=fun b o h=>k b o (by simp) h
theorem zD.seq {K:W.Frag} {H H':Hp} {a:Addr} {xs:List V} (k:zD [] H H') (h:SqL K H a xs):SqL K H' a xs:=k.same.seq h
theorem gM {J:It} {xs:List Str} {ix:List Nat} {g:TG} {tt:TT} {te:TE} {n:Nat} {σ:St} {H1:Hp} {Q:VK} {acc:Addr} (hn:n < sizeLine) (item:Nat->V) (Pv:Nat->List V->St->Hp->Prop)
  (h0:Pv 0 [] (stC xs ix σ) (upd H1 acc (.lst [])))
  (hacc:∀ i ys τ H,Pv i ys τ H->H acc=some (.lst ys)/\ys.length <= i)
  (hgo:∀ i ys τ H,i < n->Pv i ys τ H->J.go i H) (hyl:∀ i ys τ H x H',i < n->Pv i ys τ H->J.yld i H x H'->H'=H/\x=item i) (hst:∀ ys τ H,Pv n ys τ H->J.stop n H)
  (hs:∀ i ys τ H,i < n->Pv i ys τ H->g (item i) τ H fun τ2 H2=>tt τ2 H2 fun b H3=>
   if b=true then te τ2 H3 fun y H4=>H4 acc=some (.lst ys)/\Pv (i + 1) (ys ++ [y]) τ2 (upd H4 acc (.lst (ys ++ [y]))) else Pv (i + 1) ys τ2 H3)
  (hd:∀ ys τ H,Pv n ys τ H->Q (.ref acc) H) :
  LCW J xs ix g tt te σ H1 acc Q:=by
 refine ⟨fun i m ys τ H=>m=n - i/\i <= n/\Pv i ys τ H,⟨n,by simp,zCY _,h0⟩,?_⟩
 rintro i m ys τ H ⟨rfl,hi,p⟩
 obtain ⟨a1,a2⟩:=hacc i ys τ H p
 refine ⟨a1,by omega,?_⟩
 by_cases hlt:i < n
 ·refine .inr ⟨hgo i ys τ H hlt p,Pv (i + 1),fun ys' τ' H' p'=>⟨n - (i + 1),by omega,rfl,hlt,p'⟩,fun x H' y=>?_⟩
  obtain ⟨rfl,rfl⟩:=hyl i ys τ H x H' hlt p y
  exact hs i ys τ _ hlt p
 ·have e:i=n:=by omega
  subst e
  exact .inl ⟨hst ys τ H p,hd ys τ H p⟩
theorem oB {xs:List Str} {ix:List Nat} {g:TG} {tt:TT} {te:TE} {lo:Int} {n:Nat} {σ:St} {H1:Hp} {Q:VK} {acc:Addr} (hn:n < sizeLine) (Pv:Nat->List V->St->Hp->Prop)
  (h0:Pv 0 [] (stC xs ix σ) (upd H1 acc (.lst [])))
  (hacc:∀ i ys τ H,Pv i ys τ H->H acc=some (.lst ys)/\ys.length <= i)
  (hs:∀ i ys τ H,i < n->Pv i ys τ H->g (.int (lo + i)) τ H fun τ2 H2=>tt τ2 H2 fun b H3=>
   if b=true then te τ2 H3 fun y H4=>H4 acc=some (.lst ys)/\Pv (i + 1) (ys ++ [y]) τ2 (upd H4 acc (.lst (ys ++ [y]))) else Pv (i + 1) ys τ2 H3)
  (hd:∀ ys τ H,Pv n ys τ H->Q (.ref acc) H) :
  LCW (Itr lo n) xs ix g tt te σ H1 acc Q:=
 gM hn (fun i=>.int (lo + i)) Pv h0 hacc (fun i _ _ _ h _=>h) (fun i _ _ _ _ _ _ _ h=>h) (fun _ _ _ _=>zCX n) hs hd
theorem zAK {xs:List Str} {ix:List Nat} {g:TG} {tt:TT} {te:TE} {z:Str} {σ:St} {H1:Hp} {Q:VK} {acc:Addr} (hn:z.cps.size < sizeLine) (Pv:Nat->List V->St->Hp->Prop)
  (h0:Pv 0 [] (stC xs ix σ) (upd H1 acc (.lst [])))
  (hacc:∀ i ys τ H,Pv i ys τ H->H acc=some (.lst ys)/\ys.length <= i)
  (hs:∀ i ys τ H,i < z.cps.size->Pv i ys τ H->g (.str ⟨#[z.cps.getD i 0]⟩) τ H fun τ2 H2=>tt τ2 H2 fun b H3=>
   if b=true then te τ2 H3 fun y H4=>H4 acc=some (.lst ys)/\Pv (i + 1) (ys ++ [y]) τ2 (upd H4 acc (.lst (ys ++ [y]))) else Pv (i + 1) ys τ2 H3)
  (hd:∀ ys τ H,Pv z.cps.size ys τ H->Q (.ref acc) H) :
  LCW (Its z) xs ix g tt te σ H1 acc Q:=
 gM hn (fun i=>.str ⟨#[z.cps.getD i 0]⟩) Pv h0 hacc (fun i _ _ _ h _=>h) (fun i _ _ _ x H' _ _ h=>⟨h.1,by
  obtain ⟨_,c,e,ex⟩:=h
  rw [ex,show z.cps.getD i 0=c by rw [zDN,e];rfl]⟩) (fun _ _ _ _=>rfl) hs hd
theorem qW {K:W.Frag} {a:Addr} {its:List V} {xs:List Str} {ix:List Nat} {g:TG} {tt:TT} {te:TE} {σ:St} {H1:Hp} {Q:VK} {acc:Addr} (hn:its.length < sizeLine) (Pv:Nat->List V->St->Hp->Prop)
  (h0:Pv 0 [] (stC xs ix σ) (upd H1 acc (.lst [])))
  (hacc:∀ i ys τ H,Pv i ys τ H->H acc=some (.lst ys)/\ys.length <= i/\SqL K H a its)
  (hs:∀ i ys τ H x,its[i]?=some x->Pv i ys τ H->g x τ H fun τ2 H2=>tt τ2 H2 fun b H3=>
   if b=true then te τ2 H3 fun y H4=>H4 acc=some (.lst ys)/\Pv (i + 1) (ys ++ [y]) τ2 (upd H4 acc (.lst (ys ++ [y]))) else Pv (i + 1) ys τ2 H3)
  (hd:∀ ys τ H,Pv its.length ys τ H->Q (.ref acc) H) :
  LCW (Itl K a) xs ix g tt te σ H1 acc Q:=by
 refine gM hn (fun i=>its.getD i .non) Pv h0 (fun i ys τ H p=>⟨(hacc i ys τ H p).1,(hacc i ys τ H p).2.1⟩) (fun i ys τ H h p=>⟨its,its[i],(hacc i ys τ H p).2.2,by simp [h]⟩)
  (fun i ys τ H x H' h p y=>⟨y.1,?_⟩) (fun ys τ H p=>⟨its,(hacc _ ys τ H p).2.2,zCX _⟩) (fun i ys τ H h p=>hs i ys τ H _ (by simp [zCT,h]) p) hd
 have e:=y.2 its (hacc i ys τ H p).2.2
 rw [zCT,e];rfl
theorem jZ {g:TG} {te:TE} {x:V} {τ:St} {H:Hp} {R:St->Hp->VK} {N:St->Hp->Prop} (h:g x τ H fun τ2 H2=>te τ2 H2 (R τ2 H2)) :
  g x τ H fun τ2 H2=>kS τ2 H2 fun b H3=>if b=true then te τ2 H3 (R τ2 H3) else N τ2 H3:=by
 have e:(fun τ2 H2=>kS τ2 H2 fun b H3=>if b=true then te τ2 H3 (R τ2 H3) else N τ2 H3)=fun τ2 H2=>te τ2 H2 (R τ2 H2):=by
  funext τ2 H2
  show (if true=true then te τ2 H2 (R τ2 H2) else N τ2 H2)=_
  rw [if_pos rfl]
 rw [e];exact h
theorem u6 {xs:List Str} {ix:List Nat} {g:TG} {te:TE} {lo:Int} {n:Nat} {σ:St} {H1:Hp} {Q:VK} {acc:Addr} (hn:n < sizeLine) (Pv:Nat->List V->St->Hp->Prop)
  (h0:Pv 0 [] (stC xs ix σ) (upd H1 acc (.lst [])))
  (hacc:∀ i ys τ H,Pv i ys τ H->H acc=some (.lst ys)/\ys.length <= i)
  (hs:∀ i ys τ H,i < n->Pv i ys τ H->g (.int (lo + i)) τ H fun τ2 H2=>te τ2 H2 fun y H4=>H4 acc=some (.lst ys)/\Pv (i + 1) (ys ++ [y]) τ2 (upd H4 acc (.lst (ys ++ [y]))))
  (hd:∀ ys τ H,Pv n ys τ H->Q (.ref acc) H):LCW (Itr lo n) xs ix g kS te σ H1 acc Q:=
 oB hn Pv h0 hacc (fun i ys τ H hi p=>jZ (R:=fun τ2 _=>fun y H4=>H4 acc=some (.lst ys)/\Pv (i + 1) (ys ++ [y]) τ2 (upd H4 acc (.lst (ys ++ [y])))) (hs i ys τ H hi p)) hd
theorem d6 {xs:List Str} {ix:List Nat} {g:TG} {te:TE} {z:Str} {σ:St} {H1:Hp} {Q:VK} {acc:Addr} (hn:z.cps.size < sizeLine) (Pv:Nat->List V->St->Hp->Prop)
  (h0:Pv 0 [] (stC xs ix σ) (upd H1 acc (.lst [])))
  (hacc:∀ i ys τ H,Pv i ys τ H->H acc=some (.lst ys)/\ys.length <= i)
  (hs:∀ i ys τ H,i < z.cps.size->Pv i ys τ H->g (.str ⟨#[z.cps.getD i 0]⟩) τ H fun τ2 H2=>te τ2 H2 fun y H4=>H4 acc=some (.lst ys)/\Pv (i + 1) (ys ++ [y]) τ2 (upd H4 acc (.lst (ys ++ [y]))))
  (hd:∀ ys τ H,Pv z.cps.size ys τ H->Q (.ref acc) H):LCW (Its z) xs ix g kS te σ H1 acc Q:=
 zAK hn Pv h0 hacc (fun i ys τ H hi p=>jZ (R:=fun τ2 _=>fun y H4=>H4 acc=some (.lst ys)/\Pv (i + 1) (ys ++ [y]) τ2 (upd H4 acc (.lst (ys ++ [y])))) (hs i ys τ H hi p)) hd
section
variable {X:Cx}
def zBU:R2:=fun x y H Q=>∃ p xs i v,x=.ref p/\y=.int i/\H p=some (.lst xs)/\atI xs i=some v/\Q v H
theorem yB:IxR X zBU:=fun value slice qp s σ H x y v u Q I rx ry hz hs=>by
 obtain ⟨p,xs,i,z,a,b,c,d,e⟩:=hz
 exact kC value slice qp s σ H x y v u Q I rx ry ⟨p,xs,i,z,a,b,.of c,d,e⟩ hs
def zBT:R2:=fun x y H Q=>∃ p xs i v,x=.ref p/\y=.int i/\H p=some (.tup xs)/\atI xs i=some v/\Q v H
theorem zW:IxR X zBT:=fun value slice qp s σ H x y v u Q I rx ry hz hs=>by
 obtain ⟨p,xs,i,z,a,b,c,d,e⟩:=hz
 exact zAP value slice qp s σ H x y v u Q I rx ry ⟨p,xs,i,z,a,b,.of c,d,e⟩ hs
end
@[elab_as_elim] theorem lay {H:Hp} {p:Addr} {o:HO} {motive:Hp->Prop} (hp:H p=none) (h:∀ H',zD [] H H'->H' p=some o->motive H'):motive (upd H p o):=h _ (zD.new hp) zC
def sY (N:List Str) (sc:Scope) (xs:List Str) (ix:List Nat) (scope:Scope):Prop:=
 scope.kind=.function/\(∀ y ∈ scope.names,y.2 ≠ .cell)/\(∀ y ∈ scope.names,y.2=.local->scope.names.lookup y.1=some .local) /\
 (∀ y ∈ scope.names,y.2=.free->sc.names.lookup y.1=some .cell \/ sc.names.lookup y.1=some .free)/\(∀ x ∈ xs,scope.names.lookup x=some .local) /\
 (xs ++ ix.map (fun i=>N.getD i "")).Nodup/\(∀ i ∈ ix,i < N.length)/\(∀ i ∈ ix,scope.names.lookup (N.getD i "")=some .free)
instance {N:List Str} {sc:Scope} {xs:List Str} {ix:List Nat} {scope:Scope}:Decidable (sY N sc xs ix scope):=by unfold sY;infer_instance
theorem sY.at {X:Cx} {N:List Str} {sc:Scope} {xs:List Str} {ix:List Nat} {scope:Scope} (S:sY N sc xs ix scope) (hN:X.N=N) (hsc:X.env.scope=sc):xS X xs ix scope:=by
 obtain ⟨a,b,c,d,e,f,g,h⟩:=S
 subst hN hsc
 exact ⟨a,b,c,fun n hn=>d (n,.free) hn rfl,e,f,g,h⟩
theorem vD {X:Cx} {N:List Str} {sc:Scope} {x:Str} {ix:List Nat} {scope:Scope} {elt iter:Expr} {ifs:List Expr} {px pos:Pos} {wi:TI} {tt:TT} {te:TE}
  (hS:sY N sc [x] ix scope) (hi:PI X (.Name x px) iter wi)
  (ht:∀ C fp s H,PTs (cxC X [x] ix scope C fp s H) ifs tt) (he:∀ C fp s H,PE (cxC X [x] ix scope C fp s H) elt te)
  (hN:X.N=N:=by rfl) (hsc:X.env.scope=sc:=by rfl) (hc:X.calm=true:=by rfl)
  (hs:∀ x,foldedSetIterable iter X.env x=pure x:=by intro _;rfl) :
  PE X (.ListComp elt [⟨.Name x px,iter,ifs,0⟩] scope pos) (tLC [x] ix wi (vC 0) tt te):=by
 have S:=hS.at (X:=X) hN hsc
 have hl:∀ C fp s H,(cxC X [x] ix scope C fp s H).env.scope.names.lookup x=some .local:=fun _ _ _ _=>lookup_relabel_local (S.own x (by simp))
 exact bJ S hc hi (fun C fp s H=>yD S.nd rfl (Or.inl (hl C fp s H)) (.inr (hl C fp s H))) ht he hs
theorem wU {X:Cx} {N:List Str} {sc:Scope} {x y:Str} {ix:List Nat} {scope:Scope} {elt iter:Expr} {ifs:List Expr} {px cpos pos pos':Pos} {wi:TI} {tt:TT} {te:TE} {i:Nat}
  (hN':X.N.Nodup) (hin:X.N[i]?=some y) (hx:Loc X.env.scope y)
  (hS:sY N sc [x] ix scope) (hi:PI X (.Name x px) iter wi)
  (ht:∀ C fp s H,PTs (cxC X [x] ix scope C fp s H) ifs tt) (he:∀ C fp s H,PE (cxC X [x] ix scope C fp s H) elt te)
  (hN:X.N=N:=by rfl) (hsc:X.env.scope=sc:=by rfl) (hc:X.calm=true:=by rfl)
  (hsw:swapsWith (.ListComp elt [⟨.Name x px,iter,ifs,0⟩] scope cpos) (some (.Name y pos')) pos.line X.env=pure true:=by rfl)
  (hf:X.fn y=true \/ X.env.scope.names.lookup y=some .local:=by first | exact .inl rfl | exact .inr rfl | assumption)
  (hs:∀ x,foldedSetIterable iter X.env x=pure x:=by intro _;rfl) :
  PS X (.Assign [.Name y pos'] (.ListComp elt [⟨.Name x px,iter,ifs,0⟩] scope cpos) pos) (oX (tLC [x] ix wi (vC 0) tt te) (vC i)):=by
 have S:=hS.at (X:=X) hN hsc
 have hl:∀ C fp s H,(cxC X [x] ix scope C fp s H).env.scope.names.lookup x=some .local:=fun _ _ _ _=>lookup_relabel_local (S.own x (by simp))
 exact iU hN' hin hx S hc hi (fun C fp s H=>yD S.nd rfl (Or.inl (hl C fp s H)) (.inr (hl C fp s H))) ht he hsw hf hs
theorem d5 (x y:Str):(x ++ y).length=x.length + y.length:=by
 show (x.cps ++ y.cps).size=_
 simp [Str.length]
theorem zD.drop {S:List Addr} {H H':Hp} {a:Addr} (k:zD (a :: S) H H') (h:H a=Option.none):zD S H H':=fun b o n q=>k b o (fun z=>(List.mem_cons.mp z).elim (fun e=>by rw [e,h] at q;cases q) n) q
theorem yM {H:Hp} {p a:Addr} {o:HO} (h:upd H p o a=Option.none):H a=Option.none/\a ≠ p:=by
 by_cases e:a=p
 ·rw [e,zC] at h;cases h
 ·rw [zJ e] at h;exact ⟨h,e⟩
theorem gP (ys:List Str):(Txt.join (Str.ofString "") ys).length=(ys.map (·.length)).sum:=by
 show (Builtin.Str.glued (Str.ofString "") ys).length=_
 rw [size_glued]
 show _ + (ys.length - 1) * 0=_
 omega
theorem pM:∀ (ys:List Str),(∀ z ∈ ys,z.length=1)->(ys.map (·.length)).sum=ys.length
 | [],_=>rfl
 | y :: ys,h=>by
  rw [List.map_cons,List.sum_cons,h y zDH,pM ys fun z hz=>h z (zC1 _ hz),zC9]
  omega
end L2
namespace L2
theorem mG {α:Type} {xs:List α} {i:Int} (h0:0 <= i) (h1:i < xs.length):∃ v,atI xs i=some v/\xs[i.toNat]?=some v:=by
 have hl:i.toNat < xs.length:=by omega
 refine ⟨xs[i.toNat],?_,zCP hl⟩
 have e:=xN (zCP hl)
 rwa [Int.toNat_of_nonneg h0] at e
end L2
namespace L2
open PySem PySem.Spec PyProof.Rows
structure Glo (mg:Str->Option Value) (x:Str) (v:V):Prop where
 ex:∃ u,mg x=some u/\zX v u
theorem i6 {X:Cx} {x:Str} {v:V} {pos:Pos} (g:Glo X.mg x v) (hg:Gl X x:=by rfl) (hd:(x == ("__debug__" : Str))=false:=by decide):PE X (.Name x pos) (tC v):=
 let ⟨_,hm,r⟩:=g.ex
 dF hg hm r hd
inductive xO (K:W.Frag) (H:Hp):V->String->Prop where
 | non:xO K H .non "NoneType"
 | bl (x:Bool):xO K H (.bl x) "bool"
 | int (i:Int):xO K H (.int i) "int"
 | str (x:Str):xO K H (.str x) "str"
 | lst {a:Addr} {xs:List V} (e:H a=some (.lst xs)):xO K H (.ref a) "list"
 | tup {a:Addr} {xs:List V} (e:H a=some (.tup xs)):xO K H (.ref a) "tuple"
 | dK {a:Addr} {kvs:List (Key × V)} (e:H a=some (.dK kvs)):xO K H (.ref a) "dict"
theorem xO.ty {K:W.Frag} {H:Hp} {x:V} {T:String} (h:xO K H x T):uQ K H x (.type T):=by
 cases h with
 | non=>exact .non
 | bl b=>exact .bl b
 | int i=>exact .int i
 | str z=>exact .str z
 | lst e=>exact .lst e
 | tup e=>exact .tup e
 | dK e=>exact .dK e
theorem xO.kit {K:W.Frag} {H:Hp} {x:V} {T:String} (h:xO K H x T):W.kitOne K (.type T) (.type "str")=some (T == "str")/\W.kitOne K (.type T) (.type "int")=some (T == "int" || T == "bool") /\
  W.kitOne K (.type T) (.type "bool")=some (T == "bool")/\W.kitOne K (.type T) (.type "list")=some (T == "list")/\W.kitOne K (.type T) (.type "tuple")=some (T == "tuple"):=by
 cases h <;> exact ⟨rfl,rfl,rfl,rfl,rfl⟩
abbrev abc:Str:="abcdefghijklmnopqrstuvwxyz"
def x5 (c:Nat):Bool:=!(Builtin.Str.occurrences abc ⟨#[c]⟩ 0 abc.length 1).isEmpty
def wJ (z:Str):Bool:=decide (1 <= z.length) && decide (z.length <= 8) && z.cps.toList.all x5
def lW:V->Bool
 | .str z=>wJ z
 | _=>false
theorem mJ {α:Type} (l:List α) (f:α->Bool):(l.map f).all id=l.all f:=by rw [List.all_map];rfl
end L2
namespace L2
open PySem
theorem vS:bootBuiltins "isinstance"=some (.builtin "isinstance"):=by decide +kernel
theorem vX:bootBuiltins "len"=some (.builtin "len"):=by decide +kernel
theorem zAT:bootBuiltins "all"=some (.builtin "all"):=by decide +kernel
theorem rT:bootBuiltins "sorted"=some (.builtin "sorted"):=by decide +kernel
theorem zAS:bootBuiltins "str"=some (.type "str"):=by decide +kernel
theorem pF:bootBuiltins "int"=some (.type "int"):=by decide +kernel
theorem cQ:bootBuiltins "bool"=some (.type "bool"):=by decide +kernel
theorem cP:bootBuiltins "list"=some (.type "list"):=by decide +kernel
end L2
namespace L2
theorem ifF {c:Bool} {A B:Prop} (h:c=false) (k:B):if c=true then A else B:=by rw [h];exact vW k
theorem ifT {c:Bool} {A B:Prop} (h:c=true) (k:A):if c=true then A else B:=by rw [h];exact u8 k
end L2
namespace L2
open PySem PySem.Spec PyProof.Rows
def eqT (xs ys:List V):Bool:=xs.length == ys.length && (List.zipWith eqV xs ys).all id
theorem oH {x:V} (f:yY x=true):eqV x x=true:=by
 cases x with
 | non=>rfl
 | bl b=>cases b <;> rfl
 | int i=>show (i == i)=true;simp
 | str z=>show (z == z)=true;simp
 | _=>exact absurd (show false=true from f) zDG
theorem tR:∀ (xs ys:List V),(List.zipWith eqV xs ys).all id=(List.range (min xs.length ys.length)).all fun j=>eqV (xs.getD j .non) (ys.getD j .non)
 | [],_=>by simp
 | _ :: _,[]=>by simp
 | x :: xs,y :: ys=>by
  have e:min (x :: xs).length (y :: ys).length=min xs.length ys.length + 1:=by simp [Nat.succ_min_succ]
  rw [e,List.range_succ_eq_map,List.all_cons,List.all_map,List.zipWith_cons_cons,List.all_cons,tR xs ys]
  rfl
theorem fB:∀ {xs:List V},xs.all yY=true->eqT xs xs=true:=fun {xs} f=>by
 unfold eqT
 rw [beq_self_eq_true,Bool.true_and,tR,List.all_eq_true]
 intro j hj
 have hl:j < xs.length:=by have:=List.mem_range.mp hj;omega
 rw [zCT,zCP hl]
 exact oH (List.all_eq_true.mp f _ (List.getElem_mem hl))
section
variable {X:Cx}
theorem fD {qp:LAO} {σ:St} {H:Hp} {s:Shared} {A:Around} {a b:Addr} {xs ys:List V} (I:Inv X qp σ H s) (h1:SqT X.K H a xs) (h2:SqT X.K H b ys) (f1:xs.all yY=true) (f2:ys.all yY=true)
  (hu:A.units < cLine):SeqAt.EqAt A s (.ref a) (.ref b) (eqT xs ys):=by
 by_cases e:a=b
 ·subst e
  have e2:=I.tuple_inj h1 h2
  subst e2
  rw [fB f1]
  exact SeqAt.EqAt.same _
 ·obtain ⟨i1,r1,t1,_⟩:=I.tuple h1
  obtain ⟨i2,r2,t2,_⟩:=I.tuple h2
  have l1:=r1.length
  have l2:=r2.length
  have key:=SeqAt.RcAt.tuples (A:=A) (s:=s) (l:=a) (b:=b) (e:=fun j=>eqV (xs.getD j .non) (ys.getD j .non)) (show s.heap.IsTuple a i1.toArray from t1) (show s.heap.IsTuple b i2.toArray from t2) hu (fun j g1 g2=>by
   have g1':j < i1.length:=by simpa using g1
   have g2':j < i2.length:=by simpa using g2
   obtain ⟨u,eu,ru⟩:=r1.get (i:=j) (zCP (by omega:j < xs.length))
   obtain ⟨v,ev,rv⟩:=r2.get (i:=j) (zCP (by omega:j < ys.length))
   have eu':i1.toArray[j]=u:=by
    rw [zCP g1'] at eu
    simpa using zCV eu
   have ev':i2.toArray[j]=v:=by
    rw [zCP g2'] at ev
    simpa using zCV ev
   rw [eu',ev']
   have q1:xs.getD j .non=xs[j]'(by omega):=by rw [zCT,zCP (by omega)];rfl
   have q2:ys.getD j .non=ys[j]'(by omega):=by rw [zCT,zCP (by omega)];rfl
   show SeqAt.EqAt _ _ _ _ (eqV (xs.getD j .non) (ys.getD j .non))
   rw [q1,q2]
   exact pC ru rv (List.all_eq_true.mp f1 _ (List.getElem_mem _)) (List.all_eq_true.mp f2 _ (List.getElem_mem _)))
  have ee:eqT xs ys=((List.range (min i1.toArray.size i2.toArray.size)).all (fun j=>eqV (xs.getD j .non) (ys.getD j .non)) && i1.toArray.size == i2.toArray.size):=by
   unfold eqT
   rw [tR,zCW,zCW,<- l1,<- l2,Bool.and_comm]
  rw [ee]
  exact SeqAt.EqAt.of_refs e key
def Rows (H:Hp) (p:Addr) (rows:List (List V)):Prop:=∃ ps:List Addr,H p=some (.lst (ps.map V.ref))/\Paired (fun q r=>H q=some (.tup r)) ps rows
theorem y0 {α β:Type} {F:α->β->Prop} {xs:List α} {ys:List β} (h:Paired F xs ys):∀ (i:Nat) (x:α),xs[i]?=some x->∃ y,ys[i]?=some y/\F x y:=by
 induction h with
 | nil=>intro i x h;simp at h
 | cons r _ ih=>
  intro i x h
  cases i with
  | zero=>simp at h;subst h;exact ⟨_,rfl,r⟩
  | succ i=>
   obtain ⟨y,h1,h2⟩:=ih i x (by simpa using h)
   exact ⟨y,by simpa using h1,h2⟩
theorem uI {α β:Type} {F:α->β->Prop}:∀ {xs:List α} {ys:List β} (i:Nat),Paired F xs ys->Paired F (xs.eraseIdx i) (ys.eraseIdx i)
 | _,_,_,.nil=>.nil
 | _,_,0,.cons _ t=>t
 | _,_,i + 1,.cons r t=>.cons r (uI i t)
theorem wH {α β:Type} {F:α->β->Prop} {a:α} {b:β} {xs:List α} {ys:List β} (h:Paired F xs ys) (r:F a b):Paired F (xs ++ [a]) (ys ++ [b]):=by
 induction h with
 | nil=>exact .cons r .nil
 | cons q _ ih=>exact .cons q ih
theorem zU {α β:Type} {F:α->β->Prop} {xs:List α} {ys:List β} (h:Paired F xs ys):xs.length=ys.length:=by
 induction h with
 | nil=>rfl
 | cons _ _ ih=>exact congrArg Nat.succ ih
theorem Rows.keep {H H':Hp} {p:Addr} {rows:List (List V)} (h:Rows H p rows) (k:zD [] H H'):Rows H' p rows:=by
 obtain ⟨ps,e,r⟩:=h
 exact ⟨ps,k _ _ (by simp) e,L2.Paired.mapP r fun q x z=>k _ _ (by simp) z⟩
theorem tZ:∀ {ps:List Addr} {us:List Value},zS (ps.map V.ref) us->us=ps.map Value.ref
 | [],_,.nil=>rfl
 | p :: ps,_,.cons r t=>by cases r;rw [List.map_cons,tZ t]
def wC (H:Hp) (xs:List V) (u:Value):Bool:=match u with
 | .ref q=>(match H q with | some (.tup r)=>eqT r xs | _=>false)
 | _=>false
theorem tE {H:Hp} {xs:List V}:∀ {ps:List Addr} {rows:List (List V)},Paired (fun q r=>H q=some (.tup r)) ps rows->(ps.map Value.ref).any (wC H xs)=rows.any fun r=>eqT r xs
 | _,_,.nil=>rfl
 | p :: ps,r :: rows,.cons e t=>by
  rw [List.map_cons,List.any_cons,List.any_cons,tE t]
  have e1:wC H xs (.ref p)=eqT r xs:=by unfold wC;simp only [e]
  rw [e1]
theorem w8 {qp:LAO} {σ:St} {H:Hp} {s:Shared} {A:Around} {t:Addr} {xs:List V} (I:Inv X qp σ H s) (ht:H t=some (.tup xs)) (fx:xs.all yY=true) (hu:A.units < cLine) :
  ∀ {ps:List Addr} {rows:List (List V)},Paired (fun q r=>H q=some (.tup r)) ps rows->(∀ r ∈ rows,r.all yY=true)->∀ u ∈ ps.map Value.ref,SeqAt.EqAt A s u (.ref t) (wC H xs u)
 | _,_,.nil,_=>fun u hu'=>by cases hu'
 | p :: ps,r :: rows,.cons e tl,f=>fun u hu'=>by
  rcases List.mem_cons.mp hu' with rfl | hu'
  ·have e1:wC H xs (.ref p)=eqT r xs:=by unfold wC;simp only [e]
   rw [e1]
   exact fD I (.of e) (.of ht) (f r zDH) fx hu
  ·exact w8 I ht fx hu tl (fun r' hr=>f r' (zC1 _ hr)) u hu'
def zBV (neg:Bool):R2:=fun x y H Q=>∃ p t xs rows,y=.ref p/\x=.ref t/\Rows H p rows/\H t=some (.tup xs)/\xs.all yY=true/\(∀ r ∈ rows,r.all yY=true)/\Q (.bl (if neg then !rows.any (fun r=>eqT r xs) else rows.any fun r=>eqT r xs)) H
theorem u9 {A:Around} (h:A.units + 1 < cLine):A.in1.units < cLine:=by
 have e:A.in1.units=A.units + 1:=rfl
 omega
theorem qQ (hu:X.A.units + 1 < cLine):OpR X (compareOp .In) (zBV false):=by
 intro qp s σ H x y v u Q I rx ry h
 obtain ⟨p,t,xs,rows,rfl,rfl,⟨ps,hp,hr⟩,ht,fx,fr,q⟩:=h
 cases ry;cases rx
 obtain ⟨its,r,pl,hz⟩:=I.list (.of hp)
 have e:=tZ r
 subst e
 refine SeqAt.in_listAt (wC H xs) pl.isList (fun w hw=>w8 I ht fx (u9 hu) hr fr w (by simpa using hw)) ⟨.bl _,H,I,rfl,?_⟩
 rw [show (ps.map Value.ref).toArray.any (wC H xs)=(ps.map Value.ref).any (wC H xs) by simp,tE hr]
 exact q
theorem jI (hu:X.A.units + 1 < cLine):OpR X (compareOp .NotIn) (zBV true):=by
 intro qp s σ H x y v u Q I rx ry h
 obtain ⟨p,t,xs,rows,rfl,rfl,⟨ps,hp,hr⟩,ht,fx,fr,q⟩:=h
 cases ry;cases rx
 obtain ⟨its,r,pl,hz⟩:=I.list (.of hp)
 have e:=tZ r
 subst e
 refine SeqAt.notIn_listAt (wC H xs) pl.isList (fun w hw=>w8 I ht fx (u9 hu) hr fr w (by simpa using hw)) ⟨.bl _,H,I,rfl,?_⟩
 rw [show (ps.map Value.ref).toArray.any (wC H xs)=(ps.map Value.ref).any (wC H xs) by simp,tE hr]
 exact q
theorem u4 {α β:Type} (f:α->β):∀ (l:List α) (j:Nat),(l.map f).eraseIdx j=(l.eraseIdx j).map f
 | [],_=>rfl
 | _ :: _,0=>rfl
 | x :: l,j + 1=>by simp [u4 f l j]
theorem tH:∀ ps:List Addr,zS (ps.map V.ref) (ps.map Value.ref)
 | []=>.nil
 | _ :: ps=>.cons rfl (tH ps)
open MeetsSeq in
open AutoSeq1 (wpAny_loadPart') in
theorem jE (l:Addr) (items:Array Value) (n:Nat) (x:Value) (e:Value->Bool) (j:Nat) (hj:j < items.size) (hit:e items[j]=true) (hs1:items.size <= sizeLine) (k:Nat) :
  ∀ i:Nat,j - i=k->i <= j->(∀ m (hm:m < items.size),i <= m->m < j->e items[m]=false)->Meets (Builtin.«list.remove.loop» ⟨[.ref l,x,rawInt i],[]⟩)
   (fun A R s=>s.heap.get? l=some { cls:=.type "list",dict:=none,data:=.seq items n,slots:=#[] }/\(∀ y,y ∈ items->SeqAt.EqAt A.in1 s y x (e y)) /\
    R (.ok (.ret .none)) { s with heap:=s.heap.update l (Obj.mapSeq fun xs=>xs.eraseIdxIfInBounds j) }):=by
 induction k with
 | zero=>
  intro i hk hij hno prog w A R s h
  obtain ⟨hp,g,d,tk,os⟩:=s
  obtain ⟨hl,he,h⟩:=h
  obtain rfl:i=j:=by omega
  wp_walk using wpAny_loadPart' hl
  have at_i:items[((i:Nat):Int).toNat]?=some items[i]:=by simp [hj]
  rw [at_i]
  refine wpAny_bind (he _ (Array.getElem_mem hj) prog w _ _ ?_)
  rw [hit]
  have fits:(items.eraseIdxIfInBounds i).size <= sizeLine + 1:=zCZ (size_erased items i) (Nat.le_succ_of_le hs1)
  wp_walk using (wpAny_updateSeq hl rfl (hz:=hs1) (_hz':=fits)),wpAny_loadPart' hl
  simpa using h
 | succ k ih=>
  intro i hk hij hno prog w A R s h
  obtain ⟨hp,g,d,tk,os⟩:=s
  obtain ⟨hl,he,h⟩:=h
  have less:i < items.size:=by omega
  wp_walk using wpAny_loadPart' hl
  have at_i:items[((i:Nat):Int).toNat]?=some items[i]:=by simp [less]
  have one:((i:Int) + 1)=((i + 1:Nat):Int):=by push_cast;rfl
  rw [at_i]
  refine wpAny_bind (he _ (Array.getElem_mem less) prog w _ _ ?_)
  rw [hno i less (zCX _) (by omega)]
  wp_walk
  rw [one]
  refine ⟨plainId_quiet plain_remove_loop _,codeAny_builtin entry_remove_loop ?_⟩
  rw [Around.under_plainId plain_remove_loop _]
  exact ih (i + 1) (by omega) (by omega) (fun m hm h1 h2=>hno m hm (by omega) h2) prog w A R _ ⟨hl,he,h⟩
open MeetsSeq in
open AutoSeq1 (wpAny_loadPart') in
theorem eZ (l:Addr) (items:Array Value) (n:Nat) (x:Value) (e:Value->Bool) (j:Nat) (hj:j < items.size) (hit:e items[j]=true) (hno:∀ m (hm:m < items.size),m < j->e items[m]=false) (hs1:items.size <= sizeLine) :
  Meets (Builtin.«list.remove» ⟨[.ref l,x],[]⟩)
   (fun A R s=>s.heap.get? l=some { cls:=.type "list",dict:=none,data:=.seq items n,slots:=#[] }/\(∀ y,y ∈ items->SeqAt.EqAt A.in1 s y x (e y)) /\
    R (.ok (.ret .none)) { s with heap:=s.heap.update l (Obj.mapSeq fun xs=>xs.eraseIdxIfInBounds j) }):=by
 intro prog w A R s h
 obtain ⟨hp,g,d,tk,os⟩:=s
 obtain ⟨hl,he,h⟩:=h
 wp_walk using wpAny_loadPart' hl
 refine ⟨plainId_quiet plain_remove_loop _,codeAny_builtin entry_remove_loop ?_⟩
 rw [Around.under_plainId plain_remove_loop _]
 exact jE l items n x e j hj hit hs1 _ 0 rfl (zCY _) (fun m hm _ h2=>hno m hm h2) prog w A R _ ⟨hl,he,h⟩
def zBQ:V->List V->Hp->VK->Prop:=fun x vs H Q=>∃ l t xs rows j ps,x=.ref l/\vs=[.ref t]/\H l=some (.lst (ps.map V.ref))/\Paired (fun q r=>H q=some (.tup r)) ps rows/\H t=some (.tup xs)/\xs.all yY=true/\(∀ r ∈ rows,r.all yY=true) /\
 (∃ r,rows[j]?=some r/\eqT r xs=true)/\(∀ m r,m < j->rows[m]?=some r->eqT r xs=false)/\Q .non (upd H l (.lst ((ps.eraseIdx j).map V.ref)))
theorem nQ (hu:X.A.units + 1 < cLine):MtR X "list.remove" zBQ:=by
 intro qp s σ H x vs v us Q I rx rv h
 obtain ⟨l,t,xs,rows,j,ps,rfl,rfl,hH,hp,ht,fx,fr,⟨r,hr,hit⟩,hno,q⟩:=h
 cases rx
 obtain ⟨u,rfl,ru⟩:=rv.one
 cases ru
 obtain ⟨z,its,n,rr,hl,e⟩:=I.lstM hH
 have ei:=tZ rr
 subst ei
 have lps:=zU hp
 have hj:j < ps.length:=by have:=(zCQ.mp hr).1;omega
 have eqj:∀ (m:Nat) (hm:m < (ps.map Value.ref).toArray.size),∃ r',rows[m]?=some r'/\wC H xs (ps.map Value.ref).toArray[m]=eqT r' xs:=fun m hm=>by
  have hm':m < ps.length:=by simpa using hm
  obtain ⟨r',e1,e2⟩:=y0 hp m ps[m] (zCP hm')
  refine ⟨r',e1,?_⟩
  have e3:(ps.map Value.ref).toArray[m]=Value.ref ps[m]:=by simp
  rw [e3];unfold wC;simp only [e2]
 have hz:(ps.map Value.ref).toArray.size <= sizeLine:=by rw [zCW,zCO];rw [zCO] at z;exact z
 refine call_meets F.slot_list_remove ⟨_,e,rfl⟩ F.entry_list_remove (F.args_list_remove_2 _ _) (eZ l (ps.map Value.ref).toArray n (.ref t) (wC H xs) j (by simpa using hj) ?_ ?_ hz) ⟨e,?_,?_⟩
 ·obtain ⟨r',e1,e2⟩:=eqj j (by simpa using hj)
  rw [hr] at e1;cases e1
  rw [e2];exact hit
 ·intro m hm hlt
  obtain ⟨r',e1,e2⟩:=eqj m hm
  rw [e2];exact hno m r' hlt e1
 ·intro y hy
  exact w8 I ht fx (u9 hu) hp fr y (by simpa using hy)
 ·refine ⟨.non,_,I.lset (its':=(ps.eraseIdx j).map Value.ref) (ys:=(ps.eraseIdx j).map V.ref) hH e ?_ ?_ ?_,rfl,q⟩
  ·simp [Array.eraseIdxIfInBounds,hj,u4]
  ·exact tH _
  ·rw [zCO] at z ⊢
   exact zCZ (vN ps j) z
def zBR (neg:Bool):R2:=fun x y H Q=>∃ a b xs,x=.ref a/\y=.ref b/\H a=some (.lst xs)/\H b=some (.lst [])/\a ≠ b/\Q (.bl (if neg then !xs.isEmpty else xs.isEmpty)) H
theorem hV (hu:X.A.units < cLine):OpR X (compareOp .Eq) (zBR false):=by
 intro qp s σ H x y v u Q I rx ry h
 obtain ⟨a,b,xs,rfl,rfl,ha,hb,hne,q⟩:=h
 cases rx;cases ry
 obtain ⟨i1,r1,p1,_⟩:=I.list (.of ha)
 obtain ⟨i2,r2,p2,_⟩:=I.list (.of hb)
 cases r2
 cases xs with
 | nil=>
  cases r1
  exact SeqAt.eq_listAt (e:=fun _=>true) p1.isList p2.isList rfl hu (fun j h1=>by simp at h1) ⟨.bl _,H,I,rfl,q⟩
 | cons x xs=>
  have l1:=r1.length
  refine SeqAt.eq_list_lengthsAt p1.isList p2.isList ?_ hu ⟨.bl false,H,I,rfl,q⟩
  rw [zCW,zCW,<- l1]
  rfl
end
structure xW (K:W.Frag) (C:Addr) (m qual:Str) (st:Stmt) (ps:List Str):Prop where
 ex:∃ (f:Addr) (fd:FuncData),Fun K m qual st f fd/\f8 K C m f/\wK K fd ps []
structure xB (P:Program) (w:World) (K:W.Frag) (mg:Str->Option Value) (base:Heap) (CX:CXT) (k:Nat) (C:Addr) (m:Str) (ps:List Str) (sp:Sp):Prop where
 ex:∃ (f:Addr) (fd:FuncData),vJ P w K mg base CX k f fd ps sp/\f8 K C m f/\wK K fd ps []
section
variable {P:Program} {w:World} {K:W.Frag} {mg:Str->Option Value} {base:Heap}
theorem xW.ok {C:Addr} {m qual:Str} {st:Stmt} {N ps:List Str} {k:Nat} {sp:Sp} (G:xW K C m qual st ps) (S:zQ N ps (zG st)) (len:∀ vs H Q E,sp vs H Q E->vs.length=ps.length)
  (hbody:∀ (f:Addr) (cdv:Value) (A:Around) (outer:List Env) (s:Shared) (H:Hp) (vs:List V) (Q:VK) (E:XK),z9 k (A.deeper (envOfC qual (zG st) s.heap.objs.size f cdv))->sp vs H Q E ->
   ∃ t,PSs (oK CX0 P w K mg base N qual (zG st) f cdv A outer s H E).nox (yW st) t/\t { nx:=fun _ H'=>Q .non H',rt:=Q } (start N vs) H):xB P w K mg base CX0 (k + 1) C m ps sp:=by
 obtain ⟨f,fd,F,hm,hb⟩:=G.ex
 exact ⟨f,fd,F.ok S len fun cdv A outer s H vs Q E hr h=>hbody f cdv A outer s H vs Q E hr h,hm,hb⟩
theorem dS {C:Addr} {x qual:Str} {st:Stmt} {f:Addr} {oc:Value} {od an:Option Addr} {osl:Array (Option Value)} {kV doc pm cdv ct:Value} {ps:List Str}
  (a:W.findIn K (.ref C) x=some (some (.ref f))) (i:W.isFn K (.ref f)=true)
  (l:K.lookup f=some ⟨oc,od,.func (W.fnOf x qual (y4 st) (yW st) (zG st) .none kV doc pm an cdv ct),osl⟩) (c:W.codeIn K cdv qual=true) (k:W.keepIn K (.ref f)=true)
  (hb:∀ (kV doc pm:Value) (an:Option Addr) (cdv ct:Value) (us:List Value),us.length=ps.length->bindArgs (W.fnOf x qual (y4 st) (yW st) (zG st) .none kV doc pm an cdv ct) ⟨us,[]⟩=pure (ps.zip us)):xW K C x qual st ps:=
 ⟨f,_,tD l c k,⟨a,i,k⟩,(tD l c k).binds hb⟩
end
section
variable {X:Cx} {k:Nat} {C:Addr} {ps:List Str} {sp:Sp} {m:Str} {apos pos:Pos} {o e:Expr} {es:List Expr} {ta:TE} {t:TA}
theorem sI {pl:Sem Bool} (M:xB X.prog X.w X.K X.mg X.base CX0 k C m ps sp) (c:Cls X.K C) (hr:z9 k X.A) (ho:PE X o ta) (ha:PA X (e :: es) t)
  (hst:starEach (e :: es) X.env=(false,eval e X.env) :: starEach es X.env:=by rfl) (hpl:(backTo pos (starEach es X.env)).any (·.1)=false:=by rfl)
  (ht:eval (.Call (.Attribute o m apos) (e :: es) [] pos) X.env=(do
   let ov <- eval o X.env
   standAt apos.atName
   let (f,first) <- holding [ov] (getMethod ov m pl)
   callWith pos f first (backTo pos (starEach (e :: es) X.env)) (backToKw pos (keywordEach [] X.env))):=by rfl) :
  PE X (.Call (.Attribute o m apos) (e :: es) [] pos) (mY C m sp [] E0 ta t):=
 let ⟨_,_,F,hm,hb⟩:=M.ex
 dD ho c hm F hr hb .nil lV ha hst hpl ht
theorem yE {pl:Sem Bool} (M:xB X.prog X.w X.K X.mg X.base CX0 k C m ps sp) (c:Cls X.K C) (hr:z9 k X.A) (ho:PE X o ta)
  (ht:eval (.Call (.Attribute o m apos) [] [] pos) X.env=(do
   let ov <- eval o X.env
   standAt apos.atName
   let (f,first) <- holding [ov] (getMethod ov m pl)
   callWith pos f first (backTo pos (starEach [] X.env)) (backToKw pos (keywordEach [] X.env))):=by rfl) :
  PE X (.Call (.Attribute o m apos) [] [] pos) (mY C m sp [] E0 ta kT):=
 let ⟨_,_,F,hm,hb⟩:=M.ex
 i4 ho c hm F hr hb .nil lV ht
end
section
variable {X:Cx}
theorem qP (hu:X.A.units < cLine):OpR X (compareOp .NotEq) (zBR true):=by
 intro qp s σ H x y v u Q I rx ry h
 obtain ⟨a,b,xs,rfl,rfl,ha,hb,hne,q⟩:=h
 cases rx;cases ry
 obtain ⟨i1,r1,p1,_⟩:=I.list (.of ha)
 obtain ⟨i2,r2,p2,_⟩:=I.list (.of hb)
 cases r2
 cases xs with
 | nil=>
  cases r1
  exact SeqAt.RcNeAt.lists (e:=fun _=>true) p1.isList p2.isList rfl hu (fun j h1=>by simp at h1) _ _ _ _ ⟨.bl _,H,I,rfl,q⟩
 | cons x xs=>
  have l1:=r1.length
  refine SeqAt.RcNeAt.lists_lengths p1.isList p2.isList ?_ hu _ _ _ _ ⟨.bl true,H,I,rfl,q⟩
  rw [zCW,zCW,<- l1]
  rfl
end
structure f7 (P:Program) (w:World) (K:W.Frag) (mg:Str->Option Value) (base:Heap) (CX:CXT) (k:Nat) (C:Addr) (x:Str) (ps:List Str) (sp:Sp):Prop where
 ex:∃ (f:Addr) (fd:FuncData),vJ P w K mg base CX k f fd ps sp/\Mk K C f/\mg x=some (.ref C)/\wK K fd ps []
section
variable {X:Cx} {k:Nat} {C:Addr} {ps:List Str} {sp:Sp} {x:Str} {p pos:Pos} {e:Expr} {es:List Expr} {t:TA}
theorem zBX (M:f7 X.prog X.w X.K X.mg X.base CX0 k C x ps sp) (hr:z9 (k + 1) X.A) (ha:PA X (e :: es) t) (hg:Gl X x:=by rfl)
  (hdb:(x == ("__debug__" : Str))=false:=by decide) (he:starEach (e :: es) X.env=(false,eval e X.env) :: starEach es X.env:=by rfl) (hpl:(backTo pos (starEach es X.env)).any (·.1)=false:=by rfl) :
  PE X (.Call (.Name x p) (e :: es) [] pos) (cZ C sp [] E0 t):=
 let ⟨_,_,F,M',hm,hb⟩:=M.ex
 dE M' F hr hg hm hb .nil lV ha hdb he hpl
end
section
variable {prog:Program} {w:World} {A:Around} {E:VSP} {s:Shared}
end
section
variable {X:Cx} {pos:Pos}
theorem mF {qp:LAO} {σ:St} {H:Hp} {s:Shared} {A:Around} {xs ys:List V} {i1 i2:List Value} (r1:zS xs i1) (r2:zS ys i2) (f1:xs.all yY=true) (f2:ys.all yY=true) (j:Nat) (g1:j < i1.toArray.size) (g2:j < i2.toArray.size) :
  SeqAt.EqAt A s i1.toArray[j] i2.toArray[j] (eqV (xs.getD j .non) (ys.getD j .non)):=by
 have l1:=r1.length
 have l2:=r2.length
 have g1':j < i1.length:=by simpa using g1
 have g2':j < i2.length:=by simpa using g2
 obtain ⟨u,eu,ru⟩:=r1.get (i:=j) (zCP (by omega:j < xs.length))
 obtain ⟨v,ev,rv⟩:=r2.get (i:=j) (zCP (by omega:j < ys.length))
 have eu':i1.toArray[j]=u:=by
  rw [zCP g1'] at eu
  simpa using zCV eu
 have ev':i2.toArray[j]=v:=by
  rw [zCP g2'] at ev
  simpa using zCV ev
 rw [eu',ev']
 have q1:xs.getD j .non=xs[j]'(by omega):=by rw [zCT,zCP (by omega)];rfl
 have q2:ys.getD j .non=ys[j]'(by omega):=by rw [zCT,zCP (by omega)];rfl
 show SeqAt.EqAt _ _ _ _ (eqV (xs.getD j .non) (ys.getD j .non))
 rw [q1,q2]
 exact pC ru rv (List.all_eq_true.mp f1 _ (List.getElem_mem _)) (List.all_eq_true.mp f2 _ (List.getElem_mem _))
end
theorem kA {K:W.Frag} {α:Type} {a acc:Addr} {xs:List Str} {ix:List Nat} {g:TG} {tt:TT} {te:TE} {σ:St} {H1:Hp} {Q:VK} {ds:List α} (f mk:α->List V) (b:α->Bool) (own:α->Addr->List (Option V)) (rest:List (Option V)) (hn:ds.length <= 2000) (ha:H1 acc=none) (hS:Rows H1 a (ds.map f))
  (hσ:∃ vs:List (Option V),stC xs ix σ=vs ++ rest/\vs.length=xs.length) (hown:∀ d q,(own d q).length=xs.length)
  (hg:∀ (d:α) (q:Addr) (vs:List (Option V)) (H:Hp) (R:St->Hp->Prop),d ∈ ds->vs.length=xs.length->H q=some (.tup (f d))->R (own d q ++ rest) H->g (.ref q) (vs ++ rest) H R)
  (htt:∀ (d:α) (q:Addr) (H:Hp) (R:Bool->Hp->Prop),d ∈ ds->zD [acc] H1 H->H q=some (.tup (f d))->(∀ H',zD [] H H'->R (b d) H')->tt (own d q ++ rest) H R)
  (hte:∀ (d:α) (q:Addr) (H:Hp) (R:VK),d ∈ ds->H q=some (.tup (f d))->(∀ t H',zD [] H H'->H' t=some (.tup (mk d))->R (.ref t) H')->te (own d q ++ rest) H R)
  (q:∀ H',Rows H' acc ((ds.filter b).map mk)->zD [] H1 H'->Q (.ref acc) H'):LCW (Itl K a) xs ix g tt te σ H1 acc Q:=by
 obtain ⟨ps0,e0,r0⟩:=hS
 have aa:a ≠ acc:=zF e0 ha
 have l0:=zU r0
 rw [zCO] at l0
 obtain ⟨vs0,hσ,hv0⟩:=hσ
 refine qW (K:=K) (a:=a) (its:=ps0.map V.ref) (by rw [zCO,sizeLine_eq];omega)
  (fun i ys τ H2=>∃ (ps:List Addr) (vs:List (Option V)),τ=vs ++ rest/\vs.length=xs.length/\ys=ps.map V.ref/\Paired (fun q r=>H2 q=some (.tup r)) ps (((ds.take i).filter b).map mk)/\zD [acc] H1 H2/\H2 acc=some (.lst ys)) ?_ ?_ ?_ ?_
 ·exact ⟨[],vs0,hσ,hv0,rfl,.nil,zD.at (by simp),zC⟩
 ·rintro i ys τ H2 ⟨ps,vs,rfl,hv,rfl,hp,kp,h2⟩
  refine ⟨h2,?_,.of (kp _ _ (by simp [aa]) e0)⟩
  have:=zU hp
  rw [zCO] at this
  have h3:=zDM b (ds.take i)
  rw [zCO,this]
  rw [zC7] at h3
  omega
 ·rintro i ys τ H2 x hx ⟨ps,vs,rfl,hv,rfl,hp,kp,h2⟩
  rw [zCU] at hx
  cases ez:ps0[i]? with
  | none=>rw [ez] at hx;cases hx
  | some qa=>
  rw [ez] at hx
  have ey:V.ref qa=x:=zCV hx
  subst ey
  obtain ⟨r,er,hr⟩:=y0 r0 i qa ez
  rw [zCU] at er
  cases ed:ds[i]? with
  | none=>rw [ed] at er;cases er
  | some d=>
  rw [ed] at er
  have er':f d=r:=zCV er
  subst er'
  have nqa:qa ≠ acc:=zF hr ha
  have hq2:=kp _ _ (by simp [nqa]) hr
  have hm:=zCS ed
  have eT:ds.take (i + 1)=ds.take i ++ [d]:=by rw [List.take_succ,ed];rfl
  refine hg d qa vs H2 _ hm hv hq2 (htt d qa H2 _ hm kp hq2 fun H4 k4=>?_)
  cases hb:b d with
  | false=>
   rw [if_neg zDG]
   refine ⟨ps,own d qa,rfl,hown d qa,rfl,?_,kp.trans (k4.mono (by simp)),k4 _ _ (by simp) h2⟩
   rw [eT,List.filter_append,List.filter_cons,hb]
   simpa using L2.Paired.mapP hp fun q r e=>k4 _ _ (by simp) e
  | true=>
   rw [if_pos rfl]
   refine hte d qa H4 _ hm (k4 _ _ (by simp) hq2) fun t H5 k45 h5t=>?_
   have k5:=k4.trans k45
   have h5:=k5 _ _ (by simp) h2
   have nt:acc ≠ t:=by intro z;rw [<- z,h5] at h5t;cases h5t
   refine ⟨h5,ps ++ [t],own d qa,rfl,hown d qa,by simp,?_,(kp.trans (k5.mono (by simp))).trans (zD.at (by simp)),zC⟩
   rw [eT,List.filter_append,List.filter_cons,hb]
   simp only [if_true,List.filter_nil,zC0,List.map_cons,List.map_nil]
   refine wH ?_ (by rw [zJ (Ne.symm nt)];exact h5t)
   exact L2.Paired.mapP hp fun q r e=>by
    have e5:=k5 _ _ (by simp) e
    have nq:q ≠ acc:=xA e5 h5 (by intro z;cases z)
    rw [zJ nq];exact e5
 ·rintro ys τ H2 ⟨ps,vs,rfl,hv,rfl,hp,kp,h2⟩
  rw [zCO,l0,zDO] at hp
  exact q H2 ⟨ps,h2,hp⟩ (kp.drop ha)
theorem aQ {X:Cx} {N:List Str} {sc:Scope} {x y:Str} {ix:List Nat} {scope:Scope} {elt iter:Expr} {ifs:List Expr} {px py tp pos:Pos} {tk:Nat} {wi:TI} {tt:TT} {te:TE}
  (hS:sY N sc [x,y] ix scope) (hi:PI X (.Tuple [.Name x px,.Name y py] tk tp) iter wi)
  (ht:∀ C fp s H,PTs (cxC X [x,y] ix scope C fp s H) ifs tt) (he:∀ C fp s H,PE (cxC X [x,y] ix scope C fp s H) elt te)
  (hN:X.N=N:=by rfl) (hsc:X.env.scope=sc:=by rfl) (hc:X.calm=true:=by rfl)
  (hs:∀ x,foldedSetIterable iter X.env x=pure x:=by intro _;rfl) :
  PE X (.ListComp elt [⟨.Tuple [.Name x px,.Name y py] tk tp,iter,ifs,0⟩] scope pos) (tLC [x,y] ix wi (zB9 X.K 2 (gY (vC 0) (gY (vC 1) zCB))) tt te):=by
 have S:=hS.at (X:=X) hN hsc
 have hl:∀ C fp s H,(cxC X [x,y] ix scope C fp s H).env.scope.names.lookup x=some .local:=fun _ _ _ _=>lookup_relabel_local (S.own x (by simp))
 have hl2:∀ C fp s H,(cxC X [x,y] ix scope C fp s H).env.scope.names.lookup y=some .local:=fun _ _ _ _=>lookup_relabel_local (S.own y (by simp))
 exact bJ S hc hi (fun C fp s H=>sH (X:=cxC X [x,y] ix scope C fp s H) hc (y8 (yD S.nd rfl (Or.inl (hl C fp s H)) (.inr (hl C fp s H))) (y8 (yD S.nd rfl (Or.inl (hl2 C fp s H)) (.inr (hl2 C fp s H))) uG))) ht he hs
theorem zAI {a b:TS} {D:tQ} {rt:VK} {bk ct:St->Hp->Prop} {σ:St} {H:Hp} (h:rA a b D σ H):({ nx:=rA a b D,rt:=rt,bk:=bk,ct:=ct }:tQ).nx σ H:=h
theorem zD.under {S:List Addr} {H0 H1 H2:Hp} (k0:zD [] H0 H1) (k:zD S H1 H2) (hS:∀ b ∈ S,H0 b=Option.none):zD [] H0 H2:=fun b o _ h=>k b o (fun hb=>by rw [hS b hb] at h;cases h) (k0 b o (by simp) h)
theorem w4 {α β:Type} {F:α->β->Prop}:∀ {a c:List α} {b d:List β},Paired F a b->Paired F c d->Paired F (a ++ c) (b ++ d)
 | _,_,_,_,.nil,h=>h
 | _,_,_,_,.cons r t,h=>.cons r (w4 t h)
theorem fK (ns:List Int) (lo hi:Option Int):∃ ms:List Int,tP (ns.map V.int) lo hi=ms.map V.int/\ms.length <= ns.length:=by
 unfold tP
 refine ⟨(ns.drop (HT.sIx (ns.map V.int).length 0 lo)).take (HT.sIx (ns.map V.int).length (ns.map V.int).length hi - HT.sIx (ns.map V.int).length 0 lo),by rw [List.map_take,List.map_drop],?_⟩
 rw [zC7,List.length_drop]
 omega
theorem sU {α:Type} [DecidableEq α]:∀ (l:List α) (x:α),x ∈ l->∃ j:Nat,l[j]?=some x/\∀ m:Nat,m < j->l[m]? ≠ some x
 | [],x,h=>by cases h
 | y :: l,x,h=>by
  by_cases e:y=x
  ·exact ⟨0,by rw [e];rfl,fun m hm=>absurd hm (Nat.not_lt_zero m)⟩
  ·obtain ⟨j,h1,h2⟩:=sU l x ((List.mem_cons.mp h).elim (fun z=>absurd z.symm e) id)
   refine ⟨j + 1,by simpa using h1,fun m hm=>?_⟩
   cases m with
   | zero=>intro z;exact e (zCV z)
   | succ m=>exact fun z=>h2 m (by omega) (by simpa using z)
end L2
namespace K16
open PySem L2
def top (i:Nat):Stmt:=PySem.Challenge.pw_treeright_k16_whole_one_right_among_seat.main.body.getD i (.Pass ⟨0,0,0,0⟩)
abbrev pR:Stmt:=top 10
abbrev lQ:Stmt:=top 12
abbrev lM:Stmt:=xC (top 14) 0
abbrev qI:Stmt:=xC (top 14) 1
abbrev eW:Stmt:=xC (top 14) 2
abbrev tX:Stmt:=xC (top 14) 3
abbrev eX:Stmt:=xC (top 14) 4
abbrev lH:Stmt:=xC (top 14) 10
abbrev qH:Stmt:=xC (top 14) 11
abbrev lN:Stmt:=xC (top 14) 12
abbrev lK:Stmt:=xC (top 14) 15
abbrev qF:Stmt:=xC (top 14) 16
def yO (a:V) (wl:Addr) (h:V) (k:Bool):List (Str × V):=[("pointer",a),("waiting",.ref wl),("holder",h),("asked",.bl k)]
theorem n1:¬ (("pointer" : Str)="holder"):=by decide +kernel
theorem n2:¬ (("waiting" : Str)="holder"):=by decide +kernel
theorem n3:¬ (("pointer" : Str)="asked"):=by decide +kernel
theorem n4:¬ (("waiting" : Str)="asked"):=by decide +kernel
theorem n5:¬ (("holder" : Str)="asked"):=by decide +kernel
theorem n6:¬ (("pointer" : Str)="waiting"):=by decide +kernel
theorem bF (a b:V) (wl:Addr) (h:V) (k:Bool):xH "pointer" b (yO a wl h k)=yO b wl h k:=by
 unfold yO;rw [xH,if_pos rfl]
theorem bG (a:V) (wl:Addr) (h g:V) (k:Bool):xH "holder" g (yO a wl h k)=yO a wl g k:=by
 unfold yO;rw [xH,if_neg n1,xH,if_neg n2,xH,if_pos rfl]
theorem iS (a:V) (wl:Addr) (h:V) (k j:Bool):xH "asked" (.bl j) (yO a wl h k)=yO a wl h j:=by
 unfold yO;rw [xH,if_neg n3,xH,if_neg n4,xH,if_neg n5,xH,if_pos rfl]
theorem g9 (a:V) (wl:Addr) (h:V) (k:Bool):(yO a wl h k).lookup ("pointer" : Str)=some a:=rfl
theorem sS (a:V) (wl:Addr) (h:V) (k:Bool):(yO a wl h k).lookup ("waiting" : Str)=some (.ref wl):=rfl
theorem cE (a:V) (wl:Addr) (h:V) (k:Bool):(yO a wl h k).lookup ("holder" : Str)=some h:=rfl
theorem zCF (a:V) (wl:Addr) (h:V) (k:Bool):(yO a wl h k).lookup ("asked" : Str)=some (.bl k):=rfl
def yH:Option Str->V
 | none=>.non
 | some z=>.str z
structure xE (K:W.Frag) (C:Addr):Prop where
 cl:Cls K C
 nP:wO K C "pointer"
 nW:wO K C "waiting"
 nH:wO K C "holder"
 nA:wO K C "asked"
structure SS where
 ptr:Option Str
 row:LSS
 hold:Option Str
 asked:Bool
def yX (r:Str × Str):List V:=[.str r.1,.str r.2]
structure zN (C:Addr) (H:Hp) (p wl:Addr) (s:SS):Prop where
 ob:∃ dx,H p=some (.ins C dx (yO (yH s.ptr) wl (yH s.hold) s.asked))
 rw:Rows H wl (s.row.map yX)
 len:s.row.length <= 1000
theorem x8 (l:LSS):∀ r ∈ l.map yX,r.all yY=true:=fun r hr=>by
 obtain ⟨x,_,rfl⟩:=List.mem_map.mp hr
 rfl
theorem zN.ne {C:Addr} {H:Hp} {p wl:Addr} {s:SS} (S:zN C H p wl s):p ≠ wl:=by
 obtain ⟨dx,h⟩:=S.ob
 obtain ⟨ps,h2,_⟩:=S.rw
 exact xA h h2 (by intro z;cases z)
theorem zN.keep {C:Addr} {H H':Hp} {p wl:Addr} {s:SS} (S:zN C H p wl s) (k:zD [] H H'):zN C H' p wl s:=by
 obtain ⟨⟨dx,h⟩,r,l⟩:=S
 exact ⟨⟨dx,k _ _ (by simp) h⟩,r.keep k,l⟩
def xX (s:SS):SS × List V:=match s.row with
 | []=>(s,[])
 | (k,n) :: rest=>if k="asker" then ({ s with row:=rest,hold:=some n },[.str "given",.str n])
  else ({ s with ptr:=some n,row:=rest,asked:=!rest.isEmpty },[.str "right",.str n,.bl (!rest.isEmpty)])
def zK (s:SS):SS × List (List V):=
 if s.row.isEmpty then (s,[]) else
 match s.ptr with
 | none=>match s.hold with
  | none=>((xX s).1,[(xX s).2])
  | some _=>(s,[])
 | some q=>if s.asked then (s,[]) else ({ s with asked:=true },[[.str "ask",.str q]])
theorem yF {S:List Addr} {H H':Hp} (k:zD S H H') (n:∀ b ∈ S,∀ xs,H b ≠ some (.tup xs)) {ps:List Addr} {rows:List (List V)} (h:Paired (fun q r=>H q=some (.tup r)) ps rows):Paired (fun q r=>H' q=some (.tup r)) ps rows:=by
 induction h with
 | nil=>exact .nil
 | cons e _ ih=>exact .cons (k _ _ (fun z=>n _ z _ e) e) ih
theorem w6 {C dx p wl:Addr} {H:Hp} {fs:List (Str × V)} {ys:List V} (h1:H p=some (.ins C dx fs)) (h2:H wl=some (.lst ys)):∀ b ∈ [p,wl],∀ xs,H b ≠ some (.tup xs):=fun b hb xs z=>by
 simp only [List.mem_cons,zDI,or_false] at hb
 rcases hb with rfl | rfl
 ·rw [h1] at z;cases z
 ·rw [h2] at z;cases z
theorem zBH (n:Nat):seqIndex? 0 (n + 1)=some 0:=by
 unfold seqIndex?
 simp
section
variable {P:Program} {w:World} {K:W.Frag} {mg:Str->Option Value} {base:Heap} {C:Addr}
theorem tU:zQ ["self","kind","name","back"] ["self"] (zG qF):=scm
def lB (C:Addr):Sp:=fun vs H Q _=>∃ (p wl:Addr) (s:SS),vs=[.ref p]/\zN C H p wl s/\s.row ≠ [] /\
 ∀ (r:Addr) (H':Hp),zN C H' p wl (xX s).1->H' r=some (.tup (xX s).2)->H r=none->zD [p,wl] H H'->Q (.ref r) H'
theorem dL (T:xE K C) (G:xW K C "serve_first" "Seat.serve_first" qF ["self"]) (bL:Blt mg "len"):xB P w K mg base CX0 1 C "serve_first" ["self"] (lB C):=by
 refine G.ok tU (fun vs H Q E h=>by obtain ⟨p,wl,s,rfl,_⟩:=h;rfl) (fun f cdv A outer s0 H vs Q E hr h=>?_)
 obtain ⟨p,wl,s,rfl,S,hne,q⟩:=h
 refine ⟨_,(zB (uW (wX F.plainAttrs_list F.slot_list_pop F.type_list_pop p6 (yR (pv 0) rfl) (zA zI zE)) (sH rfl (y8 (yD (i:=1) tU.nd rfl (Or.inl rfl)) (y8 (yD (i:=2) tU.nd rfl (Or.inl rfl)) uG))))
   (zB (yG (zM wY (pv 1) z7 (zR _)) (zB (wB (pv 0) (pv 2) rfl)
   (zH (zO (yC (zA z7 (zA (pv 2) zE)))))) zP)
   (zB (zV (i:=3) tU.nd rfl (Or.inl rfl) (xU hR (xY wD bL vX (zA (yR (pv 0) rfl) zE)) zI (zR _)))
   (zB (wB (pv 0) (pv 2) rfl)
   (zB (wB (pv 0) (pv 3) rfl)
   (zH (zO (yC (zA z7 (zA (pv 2) (zA (pv 3) zE))))))))))),?_⟩
 have npw:=S.ne
 obtain ⟨⟨dx,hob⟩,⟨ps,hwl,hpr⟩,hlen⟩:=S
 obtain ⟨ptr,row,hold,asked⟩:=s
 dsimp only at *
 cases row with
 | nil=>exact absurd rfl hne
 | cons kn rest=>
  obtain ⟨k,n⟩:=kn
  cases hpr with
  | @cons t _ ps' _ ht hpr=>
  refine ⟨_,rfl,p,C,dx,_,_,rfl,hob,T.cl,T.nW,sS _ _ _ _,.inl ⟨rfl,_,.of hwl⟩,wl,_,0,0,.ref t,rfl,rfl,hwl,by decide,by decide,zBH _,rfl,?_⟩
  rw [show (List.map V.ref (t :: ps')).eraseIdx 0=ps'.map V.ref from rfl]
  have ntw:t ≠ wl:=xA ht hwl (by intro z;cases z)
  have lps:=zU hpr
  rw [zCO] at lps
  have hl1:rest.length + 1 <= 1000:=hlen
  have hp1:∀ o,upd H wl o p=some (.ins C dx (yO (yH ptr) wl (yH hold) asked)):=fun o=>by rw [zJ npw];exact hob
  refine ⟨t,_,rfl,.of (by rw [zJ ntw];exact ht),rfl,_,_,rfl,_,_,rfl,rfl,?_⟩
  refine ⟨_,rfl,rfl,_,rfl,?_⟩
  refine gR (fun hk=>?_) (fun hk=>?_)
  ·have hk':k="asker":=by have:=of_decide_eq_true hk;injection this
   refine ⟨_,rfl,_,rfl,p,C,dx,_,rfl,hp1 _,T.cl,T.nH,by show 4 < 1000;decide,_,rfl,by show 2 <= sizeLine;decide,fun r hr=>?_⟩
   rw [bG] at hr ⊢
   obtain ⟨hr1,rp⟩:=yM hr
   obtain ⟨hr2,rw_⟩:=yM hr1
   have kk:zD [p,wl] H (upd (upd (upd H wl (.lst (ps'.map V.ref))) p (.ins C dx (yO (yH ptr) wl (.str n) asked))) r (.tup [.str "given",.str n])):=((zD.at (by simp)).trans (zD.at (by simp))).trans (zD.new hr)
   have es:xX { ptr:=ptr,row:=(k,n) :: rest,hold:=hold,asked:=asked }=({ ptr:=ptr,row:=rest,hold:=some n,asked:=asked },[.str "given",.str n]):=by
    unfold xX;simp only [hk',if_true]
   rw [es] at q
   refine q r _ ⟨⟨dx,?_⟩,⟨ps',?_,yF kk (w6 hob hwl) hpr⟩,?_⟩ zC hr2 kk
   ·rw [zJ (Ne.symm rp),zC];rfl
   ·rw [zJ (Ne.symm rw_),zJ (Ne.symm npw),zC]
   ·show rest.length <= 1000;omega
  ·have hk':¬ k="asker":=fun z=>hk (by rw [z];exact zC3 rfl)
   refine ⟨_,rfl,p,C,dx,_,_,rfl,hp1 _,T.cl,T.nW,sS _ _ _ _,_,_,rfl,.inl ⟨_,.of zC,rfl⟩,_,_,rfl,rfl,?_⟩
   have eb:decide ((0:Int) < (((ps'.map V.ref).length:Nat):Int)) = !rest.isEmpty:=by
    rw [zCO,lps]
    cases rest with
    | nil=>rfl
    | cons x y=>exact zC3 (by simp)
   refine ⟨_,rfl,_,rfl,p,C,dx,_,rfl,hp1 _,T.cl,T.nP,by show 4 < 1000;decide,?_⟩
   rw [bF]
   refine ⟨_,rfl,_,rfl,p,C,dx,_,rfl,zC,T.cl,T.nA,by show 4 < 1000;decide,?_⟩
   dsimp only
   rw [iS,vZ,eb]
   refine ⟨_,rfl,_,rfl,by show 3 <= sizeLine;decide,fun r hr=>?_⟩
   obtain ⟨hr1,rp⟩:=yM hr
   obtain ⟨hr2,rw_⟩:=yM hr1
   have kk:zD [p,wl] H (upd (upd (upd H wl (.lst (ps'.map V.ref))) p (.ins C dx (yO (.str n) wl (yH hold) (!rest.isEmpty)))) r (.tup [.str "right",.str n,.bl (!rest.isEmpty)])):=((zD.at (by simp)).trans (zD.at (by simp))).trans (zD.new hr)
   have es:xX { ptr:=ptr,row:=(k,n) :: rest,hold:=hold,asked:=asked }=({ ptr:=some n,row:=rest,hold:=hold,asked:=!rest.isEmpty },[.str "right",.str n,.bl (!rest.isEmpty)]):=by
    unfold xX;simp only [if_neg hk']
   rw [es] at q
   refine q r _ ⟨⟨dx,?_⟩,⟨ps',?_,yF kk (w6 hob hwl) hpr⟩,?_⟩ zC hr2 kk
   ·rw [zJ (Ne.symm rp),zC];rfl
   ·rw [zJ (Ne.symm rw_),zJ (Ne.symm npw),zC]
   ·show rest.length <= 1000;omega
theorem aC:zQ ["self"] ["self"] (zG lK):=scm
theorem bQ (a:V) (wl:Addr) (h:V) (k:Bool) {m:Str} (h1:¬ m="pointer") (h2:¬ m="waiting") (h3:¬ m="holder") (h4:¬ m="asked"):(yO a wl h k).lookup m=none:=by
 have e1:(m == ("pointer" : Str))=false:=by simpa using h1
 have e2:(m == ("waiting" : Str))=false:=by simpa using h2
 have e3:(m == ("holder" : Str))=false:=by simpa using h3
 have e4:(m == ("asked" : Str))=false:=by simpa using h4
 unfold yO
 simp only [List.lookup_cons,e1,e2,e3,e4,List.lookup_nil]
theorem zN.stay {H H':Hp} {p wl:Addr} {s:SS} {dx:Addr} (S:zN C H p wl s) (s':SS) (hob:H' p=some (.ins C dx (yO (yH s'.ptr) wl (yH s'.hold) s'.asked))) (hw:H' wl=H wl) (er:s'.row=s.row) (k:zD [p,wl] H H'):zN C H' p wl s':=by
 obtain ⟨⟨dx0,h0⟩,⟨ps,h1,h2⟩,hl⟩:=S
 refine ⟨⟨dx,hob⟩,⟨ps,by rw [hw];exact h1,?_⟩,by rw [er];exact hl⟩
 rw [er]
 exact yF k (w6 h0 h1) h2
def uU (C:Addr):Sp:=fun vs H Q _=>∃ (p wl:Addr) (s:SS),vs=[.ref p]/\zN C H p wl s /\
 ∀ (r:Addr) (H':Hp),zN C H' p wl (zK s).1->Rows H' r (zK s).2->H r=none->zD [p,wl] H H'->Q (.ref r) H'
theorem zAB (T:xE K C) (G:xW K C "move_on" "Seat.move_on" lK ["self"]) (MS:xB P w K mg base CX0 1 C "serve_first" ["self"] (lB C)):xB P w K mg base CX0 2 C "move_on" ["self"] (uU C):=by
 refine G.ok aC (fun vs H Q E h=>by obtain ⟨p,wl,s,rfl,_⟩:=h;rfl) (fun f cdv A outer s0 H vs Q E hr h=>?_)
 obtain ⟨p,wl,s,rfl,S,q⟩:=h
 have hr1:z9 1 _:=hr.mono (by decide)
 refine ⟨_,(zB (yG (wA (iT (yR (pv 0) rfl) (fun _=>rfl))) (zH (zO (yK zE))) zP)
   (zB (yG (zM u2 (yR (pv 0) rfl) y9 (zR _)) (zH (zO (i5 (zM u2 (yR (pv 0) rfl) y9 (zR _)) (yK (zA (yE MS T.cl hr1 (pv 0)) zE)) (yK zE)))) zP)
   (zB (yG (xQ (yR (pv 0) rfl)) (zH (zO (yK zE))) zP)
   (zB (wB (pv 0) wG rfl)
   (zH (zO (yK (zA (yC (zA z7 (zA (yR (pv 0) rfl) zE))) zE)))))))),?_⟩
 have npw:=S.ne
 obtain ⟨⟨dx,hob⟩,⟨ps,hwl,hpr⟩,hlen⟩:=id S
 have lps:=zU hpr
 rw [zCO] at lps
 have hps:(ps.map V.ref).isEmpty=s.row.isEmpty:=by
  cases hps:ps <;> cases hrow:s.row <;> simp_all
 have none_:zK s=(s,[])->∀ r,H r=none->Q (.ref r) (upd H r (.lst [])):=fun e r hr=>by
  rw [e] at q
  exact q r _ (S.keep (zD.new hr)) ⟨[],zC,.nil⟩ hr (zD.new hr)
 refine ⟨_,rfl,p,C,dx,_,_,rfl,hob,T.cl,T.nW,sS _ _ _ _,_,.inl ⟨_,.of hwl,rfl⟩,?_⟩
 dsimp only
 rw [hps]
 cases hem:s.row.isEmpty with
 | true=>
  refine u8 ⟨zCY _,fun r hr=>none_ ?_ r hr⟩
  unfold zK;rw [hem];rfl
 | false=>
 refine vW ?_
 have hne:s.row ≠ []:=fun z=>by rw [z] at hem;cases hem
 refine ⟨_,rfl,p,C,dx,_,_,rfl,hob,T.cl,T.nP,g9 _ _ _ _,rfl,_,rfl,?_⟩
 cases hp:s.ptr with
 | none=>
  refine u8 ?_
  refine ⟨_,rfl,p,C,dx,_,_,rfl,hob,T.cl,T.nH,cE _ _ _ _,rfl,_,rfl,?_⟩
  cases hh:s.hold with
  | none=>
   refine u8 ?_
   have em:zK s=((xX s).1,[(xX s).2]):=by unfold zK;rw [hem,hp,hh];rfl
   rw [em] at q
   refine ⟨_,rfl,p,dx,_,rfl,hob,bQ _ _ _ _ (by decide +kernel) (by decide +kernel) (by decide +kernel) (by decide +kernel),p,wl,s,rfl,S,hne,fun r H1 S1 h1 hr k1=>⟨by show 1 <= sizeLine;decide,fun l hl=>?_⟩⟩
   have nl:H l=none:=by
    cases e:H l with
    | none=>rfl
    | some o=>
     by_cases z:l ∈ [p,wl]
     ·obtain ⟨dx1,o1⟩:=S1.ob
      obtain ⟨ps1,o2,_⟩:=S1.rw
      simp only [List.mem_cons,zDI,or_false] at z
      rcases z with z | z
      ·rw [z,o1] at hl;cases hl
      ·rw [z,o2] at hl;cases hl
     ·rw [k1 l o z e] at hl;cases hl
   exact q l _ (S1.keep (zD.new hl)) ⟨[r],zC,.cons (by rw [zJ (zF h1 hl)];exact h1) .nil⟩ nl (k1.trans (zD.new hl))
  | some g=>
   refine vW ⟨zCY _,fun r hr=>none_ ?_ r hr⟩
   unfold zK;rw [hem,hp,hh];rfl
 | some g=>
  refine vW ?_
  refine ⟨_,rfl,p,C,dx,_,_,rfl,hob,T.cl,T.nA,zCF _ _ _ _,_,rfl,?_⟩
  cases ha:s.asked with
  | true=>
   refine u8 ⟨zCY _,fun r hr=>none_ ?_ r hr⟩
   unfold zK;rw [hem,hp,ha];rfl
  | false=>
   refine vW ?_
   have em:zK s=({ s with asked:=true },[[.str "ask",.str g]]):=by unfold zK;rw [hem,hp,ha];rfl
   rw [em] at q
   refine ⟨_,rfl,p,C,dx,_,rfl,hob,T.cl,T.nA,by show 4 < 1000;decide,?_⟩
   rw [iS]
   refine ⟨_,rfl,p,C,dx,_,_,rfl,zC,T.cl,T.nP,g9 _ _ _ _,by show 2 <= sizeLine;decide,fun t ht=>⟨by show 1 <= sizeLine;decide,fun l hl=>?_⟩⟩
   obtain ⟨ht1,tp⟩:=yM ht
   obtain ⟨hl1,lt⟩:=yM hl
   obtain ⟨hl2,lp⟩:=yM hl1
   have nwt:wl ≠ t:=zF hwl ht1
   have nwl:wl ≠ l:=zF hwl hl2
   have kk:zD [p,wl] H (upd (upd (upd H p (.ins C dx (yO (yH s.ptr) wl (yH s.hold) true))) t (.tup [.str "ask",yH s.ptr])) l (.lst [.ref t])):=((zD.at (by simp)).trans (zD.new ht)).trans (zD.new hl)
   refine q l _ (S.stay (dx:=dx) { s with asked:=true } ?_ ?_ rfl kk) ⟨[t],zC,.cons ?_ .nil⟩ hl2 kk
   ·rw [zJ (Ne.symm lp),zJ (Ne.symm tp),zC]
   ·rw [zJ nwl,zJ nwt,zJ (Ne.symm npw)]
   ·rw [zJ (Ne.symm lt),zC,hp];rfl
def qB (K:W.Frag):Sp:=fun vs H Q _=>∃ (x:V) (T:String),vs=[x]/\xO K H x T/\(∀ z,x=.str z->z.length <= 1000)/\∀ H',zD [] H H'->Q (.bl (lW x)) H'
theorem aB:zQ ["thing"] ["thing"] (zG pR):=scm
theorem zAA (G:y1 K mg "is_name" pR ["thing"]) (bI:Blt mg "isinstance") (bS:Blt mg "str") (bL:Blt mg "len") (bA:Blt mg "all") (gL:Glo mg "LETTERS" (.str abc)) (g8:Glo mg "LONGEST_NAME" (.int 8)) :
  Cal P w K mg base CX0 1 "is_name" ["thing"] (qB K):=by
 refine G.ok aB (fun vs H Q E h=>by obtain ⟨x,T,rfl,_⟩:=h;rfl) (fun f cdv A outer s H vs Q E hr h=>?_)
 obtain ⟨x,T,rfl,pt,hz,q⟩:=h
 refine ⟨_,zB (yG (wA (xQ (xY tM bI vS (zA (pv 0) (zA (bH bS zAS) zE))))) (zH (zO wG)) zP)
  (zH (zO (nN (hE bM bM zI (xY wD bL vX (zA (pv 0) zE)) (i6 g8))
   (nM (xY (fO rfl) bA zAT (zA (vD (N:=["thing"]) (sc:=zG pR) (ix:=[]) (by decide +kernel) (aM (pv 0)) (fun _ _ _ _=>t6)
    (fun C fp s H=>xU jJ (pv 0) (i6 gL) (by with_unfolding_all rfl))) zE)))))),?_⟩
 refine ⟨_,rfl,_,_,_,_,rfl,pt.ty,pt.kit.1,_,rfl,?_⟩
 cases pt with
 | str z=>
  have hz:=hz z rfl
  refine vW ?_
  refine ⟨_,rfl,_,z.length,rfl,⟨by rw [sizeLine_eq];omega,rfl⟩,_,_,rfl,rfl,_,rfl,?_⟩
  refine gR (fun h1=>?_) (fun h1=>?_)
  ·refine ⟨_,_,rfl,rfl,_,rfl,?_⟩
   refine gR (fun h2=>?_) (fun h2=>?_)
   ·refine ⟨_,rfl,z,rfl,fun acc ha=>?_⟩
    refine d6 (by rw [sizeLine_eq];show z.length < _;omega) (fun i ys τ H2=>∃ (k:Option V),τ=[k]/\ys=(z.cps.toList.take i).map (fun c=>V.bl (x5 c))/\i <= z.cps.size/\zD [acc] H H2/\H2 acc=some (.lst ys)) ?_ ?_ ?_ ?_
    ·exact ⟨_,rfl,rfl,zCY _,zD.at (by simp),zC⟩
    ·rintro i ys τ H2 ⟨k,rfl,rfl,hi,kp,h3⟩
     exact ⟨h3,by simp;omega⟩
    ·rintro i ys τ H2 hi ⟨k,rfl,rfl,_,kp,h3⟩
     refine ⟨_,rfl,_,_,rfl,rfl,h3,_,rfl,?_,hi,kp.trans (zD.at (by simp)),zC⟩
     rw [List.take_add_one,zC0]
     congr 1
     have e:z.cps.toList[i]?=some (z.cps.getD i 0):=by
      rw [Array.getElem?_toList,zDN,Array.getElem?_eq_getElem hi];rfl
     rw [e];rfl
    ·rintro ys τ H2 ⟨k,rfl,rfl,_,kp,h3⟩
     refine ⟨acc,z.cps.toList.map x5,rfl,.of ?_,?_⟩
     ·rw [h3,zDD (by simp),zC8];rfl
     ·rw [mJ]
      have e:lW (.str z)=z.cps.toList.all x5:=by
       show (decide (1 <= z.length) && decide (z.length <= 8) && _)=_
       have e1:1 <= z.length:=by have:=of_decide_eq_true h1;omega
       have e2:z.length <= 8:=by have:=of_decide_eq_true h2;omega
       rw [zC3 e1,zC3 e2];rfl
      rw [<- e]
      exact q _ (kp.drop ha)
   ·have e:lW (.str z)=false:=by
     show (decide (1 <= z.length) && decide (z.length <= 8) && _)=_
     have e2:¬ z.length <= 8:=fun z'=>h2 (zC3 (by omega))
     rw [zC4 e2];simp
    rw [<- e]
    exact q _ (zD.refl _)
  ·refine ⟨_,rfl,vW ?_⟩
   have e:lW (.str z)=false:=by
    show (decide (1 <= z.length) && decide (z.length <= 8) && _)=_
    have e2:¬ 1 <= z.length:=fun z'=>h1 (zC3 (by omega))
    rw [zC4 e2];simp
   rw [<- e]
   exact q _ (zD.refl _)
 | _=>exact u8 (q H (zD.refl _))
theorem aH:zQ ["asker"] ["asker"] (zG lQ):=scm
def sD:Sp:=fun vs H Q _=>∃ (z:Str),vs=[.str z]/\wJ z=true/\z.length <= 1000/\∀ H',zD [] H H'->Q .non H'
theorem zAG (G:y1 K mg "check_asker" lQ ["asker"]) (CI:Cal P w K mg base CX0 1 "is_name" ["thing"] (qB K)):Cal P w K mg base CX0 2 "check_asker" ["asker"] sD:=by
 refine G.ok aH (fun vs H Q E h=>by obtain ⟨z,rfl,_⟩:=h;rfl) (fun f cdv A outer s0 H vs Q E hr h=>?_)
 obtain ⟨z,rfl,hn,hl,q⟩:=h
 have hr1:z9 1 _:=hr.mono (by decide)
 refine ⟨_,(zH (yG (wA (xQ (zZ CI hr1 (zA (pv 0) zE)))) (zH xI) zP)),?_⟩
 refine ⟨_,rfl,_,"str",rfl,.str z,(fun z' e=>by cases e;exact hl),fun H1 k1=>⟨_,rfl,?_⟩⟩
 exact ifF (by show (!wJ z)=false;rw [hn];rfl) (q H1 k1)
theorem aA:zQ ["self","asker"] ["self","asker"] (zG lH):=scm
abbrev yJ (z:Str):Str × Str:=(("asker" : Str),z)
theorem pB (r x:Str × Str):eqT (yX r) (yX x)=decide (r=x):=by
 obtain ⟨a,b⟩:=r
 obtain ⟨c,e⟩:=x
 show ((2 == 2) && ((a == c) && ((b == e) && true)))=_
 by_cases h1:a=c <;> by_cases h2:b=e <;> simp [h1,h2]
theorem uP (row:LSS) (x:Str × Str):(row.map yX).any (fun r=>eqT r (yX x))=decide (x ∈ row):=by
 rw [List.any_map]
 induction row with
 | nil=>simp
 | cons r row ih=>
  rw [List.any_cons,ih]
  show (eqT (yX r) (yX x) || decide (x ∈ row))=_
  rw [pB]
  by_cases h1:r=x
  ·subst h1;simp
  ·have h2:¬ x=r:=fun z=>h1 z.symm
   simp [h1,h2]
theorem lG (z:Str) (o:Option Str):eS (.str z) (yH o)=true:=by cases o <;> rfl
theorem cI (z:Str) (o:Option Str):decide (V.str z=yH o)=decide (o=some z):=by
 cases o with
 | none=>simp [yH]
 | some y=>simp [yH,eq_comm]
theorem rQ (a:V) (wl:Addr) (h:V) (k:Bool):(yO a wl h k).lookup ("move_on" : Str)=none:=bQ a wl h k (by decide +kernel) (by decide +kernel) (by decide +kernel) (by decide +kernel)
theorem zN.more {H H1 H3:Hp} {p wl t dx:Addr} {s:SS} {ps:List Addr} {x:Str × Str} (hob:H3 p=some (.ins C dx (yO (yH s.ptr) wl (yH s.hold) s.asked)))
  (hpr:Paired (fun q r=>H3 q=some (.tup r)) ps (s.row.map yX)) (hw:H3 wl=some (.lst (ps.map V.ref ++ [.ref t]))) (ht:H3 t=some (.tup (yX x))) (hl:s.row.length < 1000):zN C H3 p wl { s with row:=s.row ++ [x] }:=by
 refine ⟨⟨dx,hob⟩,⟨ps ++ [t],by rw [hw,zC0];rfl,?_⟩,by show (s.row ++ [x]).length <= 1000;simp;omega⟩
 show Paired _ _ ((s.row ++ [x]).map yX)
 rw [zC0]
 exact wH hpr ht
def iJ (C:Addr):Sp:=fun vs H Q _=>∃ (p wl:Addr) (s:SS) (z:Str),vs=[.ref p,.str z]/\zN C H p wl s/\wJ z=true/\z.length <= 1000/\s.hold ≠ some z/\(yJ z) ∉ s.row/\s.row.length < 1000 /\
 ∀ (r:Addr) (H':Hp),zN C H' p wl (zK { s with row:=s.row ++ [(yJ z)] }).1->Rows H' r (zK { s with row:=s.row ++ [(yJ z)] }).2->H r=none->zD [p,wl] H H'->Q (.ref r) H'
theorem aX (T:xE K C) (G:xW K C "want" "Seat.want" lH ["self","asker"]) (CC:Cal P w K mg base CX0 2 "check_asker" ["asker"] sD) (MM:xB P w K mg base CX0 2 C "move_on" ["self"] (uU C)) :
  xB P w K mg base CX0 3 C "want" ["self","asker"] (iJ C):=by
 refine G.ok aA (fun vs H Q E h=>by obtain ⟨p,wl,s,z,rfl,_⟩:=h;rfl) (fun f cdv A outer s0 H vs Q E hr h=>?_)
 obtain ⟨p,wl,s,z,rfl,S0,hn,hl,hh,hi,hlen,q⟩:=h
 have hr2:z9 2 _:=hr.mono (by decide)
 have hu:=wZ hr
 refine ⟨_,(zB (yT (zZ CC hr2 (zA (pv 1) zE)))
   (zB (yG (PW.pt (lU (zM wY (pv 1) (yR (pv 0) rfl) (zR _)) (qJ (zM (qQ hu) (yC (zA z7 (zA (pv 1) zE))) (yR (pv 0) rfl) (by with_unfolding_all rfl))))) (zH xI) zP)
   (zB (yT (wX F.plainAttrs_list F.slot_list_append F.type_list_append y2 (yR (pv 0) rfl) (zA (yC (zA z7 (zA (pv 1) zE))) zE)))
   (zH (zO (yE MM T.cl hr2 (pv 0))))))),?_⟩
 refine ⟨_,rfl,z,rfl,hn,hl,fun H1 k1=>?_⟩
 have S:=S0.keep k1
 have npw:=S.ne
 obtain ⟨⟨dx,hob⟩,⟨ps,hwl,hpr⟩,_⟩:=id S
 refine ⟨_,rfl,_,rfl,p,C,dx,_,_,rfl,hob,T.cl,T.nH,cE _ _ _ _,lG _ _,_,rfl,?_⟩
 refine ifF (by rw [cI];exact zC4 hh) ?_
 refine ⟨_,rfl,by show 2 <= sizeLine;decide,fun t ht=>?_⟩
 have pt:p ≠ t:=zF hob ht
 have wt:wl ≠ t:=zF hwl ht
 have k2:zD [] H1 (upd H1 t (.tup [.str "asker",.str z])):=zD.new ht
 refine ⟨_,rfl,p,C,dx,_,_,rfl,(k2 _ _ (by simp) hob),T.cl,T.nW,sS _ _ _ _,wl,t,_,s.row.map yX,rfl,rfl,(Rows.keep ⟨ps,hwl,hpr⟩ k2),zC,rfl,x8 _,_,rfl,?_⟩
 refine ifF (by show ((s.row.map yX).any fun r=>eqT r (yX (yJ z)))=false;rw [uP];exact zC4 hi) ?_
 refine ⟨_,rfl,p,C,dx,_,_,rfl,(k2 _ _ (by simp) hob),T.cl,T.nW,sS _ _ _ _,.inl ⟨rfl,_,.of (k2 _ _ (by simp) hwl)⟩,_,rfl,by show 2 <= sizeLine;decide,fun t2 ht2=>?_⟩
 have k3:zD [] (upd H1 t (.tup [.str "asker",.str z])) (upd (upd H1 t (.tup [.str "asker",.str z])) t2 (.tup [.str "asker",.str z])):=zD.new ht2
 have k13:=k2.trans k3
 have wt2:wl ≠ t2:=zF (k2 _ _ (by simp) hwl) ht2
 have lps:=zU hpr
 rw [zCO] at lps
 refine ⟨wl,_,_,rfl,rfl,k13 _ _ (by simp) hwl,by rw [zCO,sizeLine_eq];omega,?_⟩
 generalize hH3:upd (upd H1 t (.tup [.str "asker",.str z])) t2 (.tup [.str "asker",.str z])=H3 at k3 k13 ⊢
 have h3t:H3 t2=some (.tup (yX (yJ z))):=by rw [<- hH3];exact zC
 have k4:zD [p,wl] H1 (upd H3 wl (.lst (ps.map V.ref ++ [.ref t2]))):=(k13.mono (by simp)).trans (zD.at (by simp))
 have hob4:upd H3 wl (.lst (ps.map V.ref ++ [.ref t2])) p=some (.ins C dx (yO (yH s.ptr) wl (yH s.hold) s.asked)):=by rw [zJ npw];exact k13 _ _ (by simp) hob
 have S4:zN C (upd H3 wl (.lst (ps.map V.ref ++ [.ref t2]))) p wl { s with row:=s.row ++ [(yJ z)] }:=
  zN.more (H:=H) (H1:=H1) hob4 (yF k4 (w6 hob hwl) hpr) zC (by rw [zJ (Ne.symm wt2)];exact h3t) hlen
 refine ⟨_,rfl,p,dx,_,rfl,hob4,rQ _ _ _ _,p,wl,_,rfl,S4,fun r H5 S5 R5 hr5 k5=>?_⟩
 have hr4:=(yM hr5).1
 exact q r H5 S5 R5 (k1.none (by simp) (k13.none (by simp) hr4)) (((k1.mono (by simp)).trans k4).trans k5)
theorem eU:zQ ["self","asker"] ["self","asker"] (zG qH):=scm
def lE (C:Addr):Sp:=fun vs H Q _=>∃ (p wl:Addr) (s:SS) (z:Str) (j:Nat),vs=[.ref p,.str z]/\zN C H p wl s/\wJ z=true/\z.length <= 1000/\s.row[j]?=some (yJ z)/\(∀ m,m < j->s.row[m]? ≠ some (yJ z)) /\
 ∀ (r:Addr) (H':Hp),zN C H' p wl (zK { s with row:=s.row.eraseIdx j }).1->Rows H' r (zK { s with row:=s.row.eraseIdx j }).2->H r=none->zD [p,wl] H H'->Q (.ref r) H'
theorem dO (T:xE K C) (G:xW K C "leave" "Seat.leave" qH ["self","asker"]) (CC:Cal P w K mg base CX0 2 "check_asker" ["asker"] sD) (MM:xB P w K mg base CX0 2 C "move_on" ["self"] (uU C)) :
  xB P w K mg base CX0 3 C "leave" ["self","asker"] (lE C):=by
 refine G.ok eU (fun vs H Q E h=>by obtain ⟨p,wl,s,z,j,rfl,_⟩:=h;rfl) (fun f cdv A outer s0 H vs Q E hr h=>?_)
 obtain ⟨p,wl,s,z,j,rfl,S0,hn,hl,hj,hno,q⟩:=h
 have hr2:z9 2 _:=hr.mono (by decide)
 have hu:=wZ hr
 refine ⟨_,(zB (yT (zZ CC hr2 (zA (pv 1) zE)))
   (zB (yG (zM (jI hu) (yC (zA z7 (zA (pv 1) zE))) (yR (pv 0) rfl) (by with_unfolding_all rfl)) (zH xI) zP)
   (zB (yT (wX F.plainAttrs_list F.slot_list_remove F.type_list_remove (nQ hu) (yR (pv 0) rfl) (zA (yC (zA z7 (zA (pv 1) zE))) zE)))
   (zH (zO (yE MM T.cl hr2 (pv 0))))))),?_⟩
 refine ⟨_,rfl,z,rfl,hn,hl,fun H1 k1=>?_⟩
 have S:=S0.keep k1
 have npw:=S.ne
 obtain ⟨⟨dx,hob⟩,⟨ps,hwl,hpr⟩,hlen⟩:=id S
 refine ⟨_,rfl,by show 2 <= sizeLine;decide,fun t ht=>?_⟩
 have k2:zD [] H1 (upd H1 t (.tup [.str "asker",.str z])):=zD.new ht
 refine ⟨_,rfl,p,C,dx,_,_,rfl,(k2 _ _ (by simp) hob),T.cl,T.nW,sS _ _ _ _,wl,t,_,s.row.map yX,rfl,rfl,(Rows.keep ⟨ps,hwl,hpr⟩ k2),zC,rfl,x8 _,_,rfl,?_⟩
 refine ifF (by show (!((s.row.map yX).any fun r=>eqT r (yX (yJ z))))=false;rw [uP,zC3 (zCS hj)];rfl) ?_
 refine ⟨_,rfl,p,C,dx,_,_,rfl,(k2 _ _ (by simp) hob),T.cl,T.nW,sS _ _ _ _,.inl ⟨rfl,_,.of (k2 _ _ (by simp) hwl)⟩,_,rfl,by show 2 <= sizeLine;decide,fun t2 ht2=>?_⟩
 have k3:zD [] (upd H1 t (.tup [.str "asker",.str z])) (upd (upd H1 t (.tup [.str "asker",.str z])) t2 (.tup [.str "asker",.str z])):=zD.new ht2
 have k13:=k2.trans k3
 have hn13:∀ b ∈ ([]:List Addr),∀ xs,H1 b ≠ some (.tup xs):=fun b hb=>by cases hb
 refine ⟨wl,t2,_,s.row.map yX,j,ps,rfl,rfl,k13 _ _ (by simp) hwl,yF k13 hn13 hpr,zC,rfl,x8 _,⟨yX (yJ z),by rw [zCU,hj];rfl,by
  show eqT (yX (yJ z)) (yX (yJ z))=true
  rw [pB];exact zC3 rfl⟩,(fun m r hm e=>by
  rw [zCU] at e
  cases hx:s.row[m]? with
  | none=>rw [hx] at e;cases e
  | some y=>
   rw [hx] at e
   have e':yX y=r:=zCV e
   rw [<- e']
   show eqT (yX y) (yX (yJ z))=false
   rw [pB]
   exact zC4 (fun w=>hno m hm (by rw [hx,w]))),?_⟩
 generalize hH3:upd (upd H1 t (.tup [.str "asker",.str z])) t2 (.tup [.str "asker",.str z])=H3 at k3 k13 ⊢
 have k4:zD [p,wl] H1 (upd H3 wl (.lst ((ps.eraseIdx j).map V.ref))):=(k13.mono (by simp)).trans (zD.at (by simp))
 have hob4:upd H3 wl (.lst ((ps.eraseIdx j).map V.ref)) p=some (.ins C dx (yO (yH s.ptr) wl (yH s.hold) s.asked)):=by rw [zJ npw];exact k13 _ _ (by simp) hob
 have S4:zN C (upd H3 wl (.lst ((ps.eraseIdx j).map V.ref))) p wl { s with row:=s.row.eraseIdx j }:=by
  refine ⟨⟨dx,hob4⟩,⟨ps.eraseIdx j,zC,?_⟩,zCZ (vN s.row j) hlen⟩
  show Paired _ _ ((s.row.eraseIdx j).map yX)
  rw [<- u4 yX]
  exact uI j (yF k4 (w6 hob hwl) hpr)
 refine ⟨_,rfl,p,dx,_,rfl,hob4,rQ _ _ _ _,p,wl,_,rfl,S4,fun r H5 S5 R5 hr5 k5=>?_⟩
 have hr4:=(yM hr5).1
 exact q r H5 S5 R5 (k1.none (by simp) (k13.none (by simp) hr4)) (((k1.mono (by simp)).trans k4).trans k5)
theorem aE:zQ ["self","asker"] ["self","asker"] (zG lN):=scm
def iK (C:Addr):Sp:=fun vs H Q _=>∃ (p wl:Addr) (s:SS) (z:Str),vs=[.ref p,.str z]/\zN C H p wl s/\wJ z=true/\z.length <= 1000/\s.hold=some z /\
 ∀ (r:Addr) (H':Hp),zN C H' p wl (zK { s with hold:=none }).1->Rows H' r (zK { s with hold:=none }).2->H r=none->zD [p,wl] H H'->Q (.ref r) H'
theorem zAD (T:xE K C) (G:xW K C "done" "Seat.done" lN ["self","asker"]) (CC:Cal P w K mg base CX0 2 "check_asker" ["asker"] sD) (MM:xB P w K mg base CX0 2 C "move_on" ["self"] (uU C)) :
  xB P w K mg base CX0 3 C "done" ["self","asker"] (iK C):=by
 refine G.ok aE (fun vs H Q E h=>by obtain ⟨p,wl,s,z,rfl,_⟩:=h;rfl) (fun f cdv A outer s0 H vs Q E hr h=>?_)
 obtain ⟨p,wl,s,z,rfl,S0,hn,hl,hh,q⟩:=h
 have hr2:z9 2 _:=hr.mono (by decide)
 refine ⟨_,(zB (yT (zZ CC hr2 (zA (pv 1) zE)))
   (zB (yG (zM sK (pv 1) (yR (pv 0) rfl) (zR _)) (zH xI) zP)
   (zB (wB (pv 0) y9 rfl)
   (zH (zO (yE MM T.cl hr2 (pv 0))))))),?_⟩
 refine ⟨_,rfl,z,rfl,hn,hl,fun H1 k1=>?_⟩
 have S:=S0.keep k1
 have npw:=S.ne
 obtain ⟨⟨dx,hob⟩,⟨ps,hwl,hpr⟩,hlen⟩:=id S
 refine ⟨_,rfl,_,rfl,p,C,dx,_,_,rfl,hob,T.cl,T.nH,cE _ _ _ _,lG _ _,_,rfl,?_⟩
 refine ifF (by rw [cI,zC3 hh];rfl) ?_
 refine ⟨_,rfl,p,C,dx,_,rfl,hob,T.cl,T.nH,by show 4 < 1000;decide,?_⟩
 rw [bG]
 have k4:zD [p,wl] H1 (upd H1 p (.ins C dx (yO (yH s.ptr) wl .non s.asked))):=zD.at (by simp)
 have S4:zN C (upd H1 p (.ins C dx (yO (yH s.ptr) wl .non s.asked))) p wl { s with hold:=none }:=S.stay (dx:=dx) { s with hold:=none } zC (by rw [zJ (Ne.symm npw)]) rfl k4
 refine ⟨_,rfl,p,dx,_,rfl,zC,rQ _ _ _ _,p,wl,_,rfl,S4,fun r H5 S5 R5 hr5 k5=>?_⟩
 have hr4:=(yM hr5).1
 exact q r H5 S5 R5 (k1.none (by simp) hr4) (((k1.mono (by simp)).trans k4).trans k5)
theorem eV:zQ ["self"] ["self"] (zG qI):=scm
def tT (C:Addr):Sp:=fun vs H Q _=>∃ (p wl:Addr) (s:SS),vs=[.ref p]/\zN C H p wl s/\Q (yH s.ptr) H
theorem dP (T:xE K C) (G:xW K C "arrow" "Seat.arrow" qI ["self"]):xB P w K mg base CX0 1 C "arrow" ["self"] (tT C):=by
 refine G.ok eV (fun vs H Q E h=>by obtain ⟨p,wl,s,rfl,_⟩:=h;rfl) (fun f cdv A outer s0 H vs Q E hr h=>?_)
 obtain ⟨p,wl,s,rfl,S,q⟩:=h
 obtain ⟨dx,hob⟩:=S.ob
 exact ⟨_,(zH (zO (yR (pv 0) rfl))),_,rfl,p,C,dx,_,_,rfl,hob,T.cl,T.nP,g9 _ _ _ _,q⟩
theorem iO:zQ ["self"] ["self"] (zG tX):=scm
def uB (C:Addr):Sp:=fun vs H Q _=>∃ (p wl:Addr) (s:SS),vs=[.ref p]/\zN C H p wl s/\Q (yH s.hold) H
theorem hW (T:xE K C) (G:xW K C "inside" "Seat.inside" tX ["self"]):xB P w K mg base CX0 1 C "inside" ["self"] (uB C):=by
 refine G.ok iO (fun vs H Q E h=>by obtain ⟨p,wl,s,rfl,_⟩:=h;rfl) (fun f cdv A outer s0 H vs Q E hr h=>?_)
 obtain ⟨p,wl,s,rfl,S,q⟩:=h
 obtain ⟨dx,hob⟩:=S.ob
 exact ⟨_,(zH (zO (yR (pv 0) rfl))),_,rfl,p,C,dx,_,_,rfl,hob,T.cl,T.nH,cE _ _ _ _,q⟩
theorem zBM:zQ ["self"] ["self"] (zG eX):=scm
def bB (C:Addr):Sp:=fun vs H Q _=>∃ (p wl:Addr) (s:SS),vs=[.ref p]/\zN C H p wl s/\Q (.bl s.asked) H
theorem zB2 (T:xE K C) (G:xW K C "has_asked" "Seat.has_asked" eX ["self"]):xB P w K mg base CX0 1 C "has_asked" ["self"] (bB C):=by
 refine G.ok zBM (fun vs H Q E h=>by obtain ⟨p,wl,s,rfl,_⟩:=h;rfl) (fun f cdv A outer s0 H vs Q E hr h=>?_)
 obtain ⟨p,wl,s,rfl,S,q⟩:=h
 obtain ⟨dx,hob⟩:=S.ob
 exact ⟨_,(zH (zO (yR (pv 0) rfl))),_,rfl,p,C,dx,_,_,rfl,hob,T.cl,T.nA,zCF _ _ _ _,q⟩
theorem zBJ:zQ ["self"] ["self"] (zG eW):=scm
def lC (C:Addr):Sp:=fun vs H Q _=>∃ (p wl:Addr) (s:SS),vs=[.ref p]/\zN C H p wl s/\∀ (r:Addr) (H':Hp),H r=none->Rows H' r (s.row.map yX)->zD [] H H'->Q (.ref r) H'
theorem zB0 (T:xE K C) (G:xW K C "row" "Seat.row" eW ["self"]) (bT:Blt mg "list"):xB P w K mg base CX0 1 C "row" ["self"] (lC C):=by
 refine G.ok zBJ (fun vs H Q E h=>by obtain ⟨p,wl,s,rfl,_⟩:=h;rfl) (fun f cdv A outer s0 H vs Q E hr h=>?_)
 obtain ⟨p,wl,s,rfl,S,q⟩:=h
 obtain ⟨⟨dx,hob⟩,⟨ps,hwl,hpr⟩,hlen⟩:=id S
 refine ⟨_,(zH (zO (wW pE rfl bT.no cP (zA (yR (pv 0) rfl) zE)))),_,rfl,p,C,dx,_,_,rfl,hob,T.cl,T.nW,sS _ _ _ _,wl,_,rfl,.inl (.of hwl),fun l hl=>?_⟩
 have k1:zD [] H (upd H l (.lst (ps.map V.ref))):=zD.new hl
 exact q l _ hl ⟨ps,zC,yF k1 (fun b hb=>by cases hb) hpr⟩ k1
theorem aD:zQ ["self","arrow"] ["self","arrow"] (zG lM):=scm
theorem dB (a:V) (wl:Addr):xH "asked" (.bl false) (xH "holder" .non (xH "waiting" (.ref wl) (xH "pointer" a [])))=yO a wl .non false:=by
 unfold yO
 simp only [xH,if_neg n1,if_neg n2,if_neg n3,if_neg n4,if_neg n5,if_neg n6]
def nC (C:Addr):Sp:=fun vs H Q _=>∃ (p dx:Addr) (ar:Option Str),vs=[.ref p,yH ar]/\H p=some (.ins C dx [])/\(∀ z,ar=some z->wJ z=true/\z.length <= 1000) /\
 ∀ (wl:Addr) (H':Hp),H wl=none->zN C H' p wl ⟨ar,[],none,false⟩->zD [p] H H'->Q .non H'
theorem zAC {fI:Addr} {fd:FuncData} (T:xE K C) (G:Fun K "__init__" "Seat.__init__" lM fI fd) (CI:Cal P w K mg base CX0 1 "is_name" ["thing"] (qB K)):vJ P w K mg base CX0 2 fI fd ["self","arrow"] (nC C):=by
 refine G.ok aD (fun vs H Q E h=>by obtain ⟨p,dx,ar,rfl,_⟩:=h;rfl) (fun cdv A outer s0 H vs Q E hr h=>?_)
 obtain ⟨p,dx,ar,rfl,hp,hz,q⟩:=h
 have hr1:z9 1 _:=hr.mono (by decide)
 refine ⟨_,(zB (yG (PW.pt (qL (zM vL (pv 1) y9 (zR _)) (qK (wA (xQ (zZ CI hr1 (zA (pv 1) zE))))))) (zH xI) zP)
   (zB (wB (pv 0) (pv 1) rfl)
   (zB (wB (pv 0) (yK zE) rfl)
   (zB (wB (pv 0) y9 rfl)
   (zH (wB (pv 0) wG rfl)))))),?_⟩
 have rest:∀ H1,zD [] H H1->(rA (iQ K (sZ 0) (sZ 1) "pointer") (rA (iQ K (sZ 0) (eI kT) "waiting") (rA (iQ K (sZ 0) (tC .non) "holder") (iQ K (sZ 0) (tC (.bl false)) "asked")))) { nx:=fun _ H'=>Q .non H',rt:=Q } (L2.start ["self","arrow"] [.ref p,yH ar]) H1:=fun H1 k1=>by
  have hp1:=k1 _ _ (by simp) hp
  refine ⟨_,rfl,_,rfl,p,C,dx,_,rfl,hp1,T.cl,T.nP,by show 0 < 1000;decide,zCY _,fun wl hw=>?_⟩
  obtain ⟨hw1,wp⟩:=yM hw
  refine ⟨_,rfl,p,C,dx,_,rfl,by rw [zJ (Ne.symm wp),zC],T.cl,T.nW,by show 1 < 1000;decide,?_⟩
  refine ⟨_,rfl,p,C,dx,_,rfl,zC,T.cl,T.nH,by show 2 < 1000;decide,?_⟩
  refine ⟨_,rfl,p,C,dx,_,rfl,zC,T.cl,T.nA,by show 3 < 1000;decide,?_⟩
  dsimp only
  rw [dB,vZ,vZ]
  refine q wl _ (k1.none (by simp) hw1) ⟨⟨dx,zC⟩,⟨[],by rw [zJ wp,zC];rfl,.nil⟩,zCY _⟩ ?_
  exact ((((k1.mono (by simp)).trans (zD.at (by simp))).trans (zD.new hw))).trans (zD.at (by simp))
 cases ar with
 | none=>exact ⟨_,rfl,rfl,_,rfl,ifF rfl (ifF rfl (rest H (zD.refl _)))⟩
 | some z=>
  obtain ⟨h1,h2⟩:=hz z rfl
  refine ⟨_,rfl,rfl,_,rfl,ifT rfl ?_⟩
  refine ⟨_,rfl,_,"str",rfl,.str z,(fun z' e=>by cases e;exact h2),fun H1 k1=>⟨_,rfl,?_⟩⟩
  exact ifF (by show (!wJ z)=false;rw [h1];rfl) (rest H1 k1)
end
abbrev lR:Stmt:=top 16
abbrev qG:Stmt:=top 17
abbrev tY:Stmt:=top 18
abbrev lJ:Stmt:=top 19
abbrev uV:Stmt:=top 20
def Src (H:Hp) (p:Addr):Prop:=∃ a b c:Int,H p=some (.lst [.int a,.int b,.int c])
def uR (z:Str):Prop:=∀ c ∈ z.cps.toList,x5 c=true
theorem cS:∀ c ∈ abc.cps.toList,x5 c=true:=by decide +kernel
theorem dZ {x y:Str} (h1:uR x) (h2:uR y):uR (x ++ y):=by
 intro c hc
 have e:(x ++ y).cps.toList=x.cps.toList ++ y.cps.toList:=by
  show (x.cps ++ y.cps).toList=_
  simp
 rw [e] at hc
 exact (zC5.mp hc).elim (h1 c) (h2 c)
theorem lZ {ch:Nat} (h:ch ∈ abc.cps.toList):uR ⟨#[ch]⟩:=fun c hc=>by
 have e:c=ch:=by simpa using hc
 rw [e];exact cS ch h
theorem jM {x:Str} (h:uR x) (lo hi:Option Int):uR (Txt.slice x lo hi):=by
 intro c hc
 unfold Txt.slice at hc
 split at hc
 ·exact h c hc
 ·simp only [List.mem_filterMap] at hc
  obtain ⟨i,_,e⟩:=hc
  exact h c (by
   rw [<- Array.getElem?_toList] at e
   exact zCS e)
theorem oA:∀ (zs:List Str) (acc:Array Nat),(∀ c ∈ acc.toList,x5 c=true)->(∀ z ∈ zs,uR z)->∀ c ∈ (zs.foldl (fun acc p=>acc ++ (Str.ofString "").cps ++ p.cps) acc).toList,x5 c=true
 | [],acc,h,_=>h
 | z :: zs,acc,h,hz=>by
  rw [List.foldl_cons]
  refine oA zs _ (fun c hc=>?_) fun y hy=>hz y (zC1 _ hy)
  have hc':c ∈ acc.toList ++ (Str.ofString "").cps.toList ++ z.cps.toList:=by simpa using hc
  rcases zC5.mp hc' with q | q
  ·rcases zC5.mp q with q | q
   ·exact h c q
   ·exact absurd q (by show ¬ c ∈ ([]:List Nat);simp)
  ·exact hz z zDH c q
theorem gH (zs:List Str) (h:∀ z ∈ zs,uR z):uR (Txt.join (Str.ofString "") zs):=by
 cases zs with
 | nil=>intro c hc;exact absurd hc (by show ¬ c ∈ ([]:List Nat);simp)
 | cons z zs=>
  show ∀ c ∈ ((zs.foldl (fun acc p=>acc ++ (Str.ofString "").cps ++ p.cps) z.cps)).toList,x5 c=true
  exact oA zs _ (h z zDH) fun y hy=>h y (zC1 _ hy)
theorem dR {z:Str} (h:uR z) (h1:1 <= z.length) (h2:z.length <= 8):wJ z=true:=by
 unfold wJ
 rw [zC3 h1,zC3 h2]
 simp only [Bool.true_and]
 exact List.all_eq_true.mpr h
section
variable {P:Program} {w:World} {K:W.Frag} {mg:Str->Option Value} {base:Heap} {C:Addr}
def qC:Sp:=fun vs H Q _=>∃ a k,vs=[.int a,.int k]/\∀ v:Int,0 <= v->v < 2147483629->Q (.int v) H
theorem tW:zQ ["_law_cell","_law_k","_law_number"] ["_law_cell","_law_k"] (zG qG):=scm
theorem dN (G:y1 K mg "_law_mixed" qG ["_law_cell","_law_k"]):Cal P w K mg base CX0 1 "_law_mixed" ["_law_cell","_law_k"] qC:=by
 refine G.ok tW (fun vs H Q E h=>by obtain ⟨a,k,rfl,_⟩:=h;rfl) (fun f cdv A outer s H vs Q E hr h=>?_)
 obtain ⟨a,k,rfl,q⟩:=h
 refine ⟨_,zB (zV (i:=2) tW.nd rfl (Or.inl rfl) (z5 wN (z5 uZ (z5 xR (z5 xR (z5 wN (pv 0) zI) (z5 uZ zI (pv 1))) zI) zI) zI))
  (zB (zV (i:=2) tW.nd rfl (Or.inl rfl) (z5 wN (z5 uZ (pv 2) (z5 xR (z5 t8 (pv 2) zI) zI)) zI))
  (zB (zV (i:=2) tW.nd rfl (Or.inl rfl) (z5 wN (z5 uZ (pv 2) (z5 xR (z5 xR (z5 t8 (pv 2) zI) zI) (pv 1))) zI))
  (zH (zO (z5 wN (z5 uZ (pv 2) (z5 xR (z5 t8 (pv 2) zI) zI)) zI))))),?_⟩
 simp [rA,oX,eF,tOp,rI,rI0,sZ,tC,vC,L2.start,jY,cV]
 refine ⟨by omega,by omega,by omega,q _ (by omega) (by omega)⟩
def sC:Sp:=fun vs H Q _=>∃ a,vs=[.int a]/\∀ (p:Addr) (b c d:Int),H p=none->Q (.ref p) (upd H p (.lst [.int b,.int c,.int d]))
theorem iP:zQ ["_law_cell"] ["_law_cell"] (zG tY):=scm
theorem hX (G:y1 K mg "_law_digits" tY ["_law_cell"]):Cal P w K mg base CX0 1 "_law_digits" ["_law_cell"] sC:=by
 refine G.ok iP (fun vs H Q E h=>by obtain ⟨a,rfl,_⟩:=h;rfl) (fun f cdv A outer s H vs Q E hr h=>?_)
 obtain ⟨a,rfl,q⟩:=h
 refine ⟨_,zH (zO (yK (zA (z5 uZ (z5 t8 (pv 0) zI) (z5 aS zI (z5 wN (pv 0) zI))) (zA (pv 0) (zA zI zE))))),?_⟩
 simp [rA,oX,eF,tOp,rI,rI0,sZ,tC,vC,L2.start,jY,cV,eI,iE,kT]
 refine ⟨by omega,kY (by decide) |> Nat.le_of_lt,fun p hp=>q p _ _ _ hp⟩
def qA:Sp:=fun vs H Q _=>∃ (p:Addr) (a b c m:Int),vs=[.ref p,.int m]/\H p=some (.lst [.int a,.int b,.int c])/\0 < m/\m < 4611686018427387904 /\
 ∀ v a' c':Int,0 <= v->v < m->Q (.int v) (upd H p (.lst [.int a',.int b,.int c']))
theorem iN:zQ ["_law_source","_law_many","_law_found"] ["_law_source","_law_many"] (zG lJ):=scm
theorem aZ (G:y1 K mg "_law_next" lJ ["_law_source","_law_many"]) (CM:Cal P w K mg base CX0 1 "_law_mixed" ["_law_cell","_law_k"] qC):Cal P w K mg base CX0 2 "_law_next" ["_law_source","_law_many"] qA:=by
 refine G.ok iN (fun vs H Q E h=>by obtain ⟨p,a,b,c,m,rfl,_⟩:=h;rfl) (fun f cdv A outer s H vs Q E hr h=>?_)
 obtain ⟨p,a,b,c,m,rfl,hp,m0,m1,q⟩:=h
 refine ⟨_,zB (yG (zM hR (zT yB (pv 0) zI (fun _ _=>rfl)) zI (zR _))
   (zB (zV (i:=2) iN.nd rfl (Or.inl rfl) (z5 wN (zT yB (pv 0) zI (fun _ _=>rfl)) (pv 1)))
   (zB (uW (z5 hU (zT yB (pv 0) zI (fun _ _=>rfl)) (pv 1)) (i3 (pv 0) zI pQ))
   (zH (zO (pv 2))))) zP)
  (zB (uW (z5 xR (zT yB (pv 0) zI (fun _ _=>rfl)) zI) (i3 (pv 0) zI pQ))
  (zH (zO (z5 wN (zZ CM hr (zA (zT yB (pv 0) zI (fun _ _=>rfl)) (zA (zT yB (pv 0) zI (fun _ _=>rfl)) zE))) (pv 1))))),?_⟩
 simp [rA,oX,eF,tOp,rI,rI0,sZ,tC,vC,L2.start,jY,cV,eI,iE,kT,iD,cX,cY,zCA,zBU,bE,iF,qC,hp,atI,ixN,zC,vZ]
 refine gR (fun h1=>⟨m0,⟨m0,m1⟩,q _ _ _ (Int.emod_nonneg _ (by omega)) (Int.emod_lt_of_pos _ m0)⟩) (fun h1 v v0 v1=>⟨m0,q _ _ _ (Int.emod_nonneg _ (by omega)) (Int.emod_lt_of_pos _ m0)⟩)
theorem aI:zQ ["_law_script","_law_k"] ["_law_script","_law_k"] (zG lR):=scm
def nD (K:W.Frag):Sp:=fun vs H Q _=>∃ (a:Addr) (ns:List Int) (k:Int),vs=[.ref a,.int k]/\SqL K H a (ns.map V.int)/\0 <= k/\∀ v:Int,Q (.int v) H
theorem zAH (G:y1 K mg "_law_cell_at" lR ["_law_script","_law_k"]) (b_len:Blt mg "len"):Cal P w K mg base CX0 1 "_law_cell_at" ["_law_script","_law_k"] (nD K):=by
 refine G.ok aI (fun vs H Q E h=>by obtain ⟨a,ns,k,rfl,_⟩:=h;rfl) (fun f cdv A outer s0 H vs Q E hr h=>?_)
 obtain ⟨a,ns,k,rfl,hS,k0,q⟩:=h
 refine ⟨_,(zB (yG (zM zBY (pv 1) (xY wD b_len vX (zA (pv 0) zE)) (zR _)) (zH (zO (zT kC (pv 0) (pv 1) (fun _ _=>rfl)))) zP)
   (zH (zO zI))),?_⟩
 refine ⟨_,rfl,_,rfl,_,_,rfl,.inl ⟨_,hS,rfl⟩,_,_,rfl,rfl,_,rfl,?_⟩
 refine gR (fun h1=>?_) (fun h1=>q 0)
 have h1':=of_decide_eq_true h1
 obtain ⟨v,e1,e2⟩:=mG k0 h1'
 rw [zCU] at e2
 cases hz:ns[k.toNat]? with
 | none=>rw [hz] at e2;cases e2
 | some z=>
  rw [hz] at e2
  have e3:V.int z=v:=zCV e2
  subst e3
  exact ⟨_,rfl,_,rfl,a,_,k,_,rfl,rfl,hS,e1,q z⟩
theorem tV:zQ ["_law_source","_law_many","_law_letters","_law_start","_law_stem"] ["_law_source","_law_many"] (zG uV):=scm
theorem oZ {xs:List Str} {te:TE} {n:Nat} {σ:St} {H1:Hp} {Q:VK} {acc p:Addr} {ix:List Nat} {rest:List (Option V)} (hn:n <= 100) (hs:Src H1 p) (ha:H1 acc=none)
  (hσ:stC xs ix σ=none :: rest)
  (ht:∀ (k:V) (H2:Hp) (R:VK),Src H2 p->(∀ (ch:Nat) (H3:Hp),ch ∈ abc.cps.toList->zD [p] H2 H3->Src H3 p->R (.str ⟨#[ch]⟩) H3)->te (some k :: rest) H2 R)
  (q:∀ (zs:List Str) (H2:Hp),zs.length=n->(∀ z ∈ zs,uR z/\z.length=1)->zD [p] H1 H2->Src H2 p->H2 acc=some (.lst (zs.map V.str))->Q (.ref acc) H2) :
  LCW (Itr 0 n) xs ix (vC 0) kS te σ H1 acc Q:=by
 have pa:acc ≠ p:=by
  obtain ⟨a,b,c,h⟩:=hs
  exact Ne.symm (zF h ha)
 refine u6 (by rw [sizeLine_eq];omega) (fun i ys τ H2=>∃ (zs:List Str) (k:Option V),τ=k :: rest/\ys=zs.map V.str/\zs.length=i/\(∀ z ∈ zs,uR z/\z.length=1)/\zD [acc,p] H1 H2/\Src H2 p/\H2 acc=some (.lst ys)) ?_ ?_ ?_ ?_
 ·obtain ⟨a,b,c,h⟩:=hs
  exact ⟨[],none,hσ,rfl,rfl,(fun z hz=>by cases hz),zD.at (by simp),⟨a,b,c,by rw [zJ (Ne.symm pa)];exact h⟩,zC⟩
 ·rintro i ys τ H2 ⟨zs,k,rfl,rfl,hl,_,_,_,h2⟩
  exact ⟨h2,by rw [zCO];omega⟩
 ·rintro i ys τ H2 hi ⟨zs,k,rfl,rfl,hl,h1,kp,hs2,h2⟩
  refine ht _ H2 _ hs2 fun ch H3 hc k3 hz57=>?_
  obtain ⟨a,b,c,hs3⟩:=hz57
  refine ⟨k3 _ _ (by simp [pa]) h2,zs ++ [⟨#[ch]⟩],_,rfl,by simp,by simp [hl],?_,(kp.trans (k3.mono (by simp))).trans (zD.at (by simp)),⟨a,b,c,by rw [zJ (Ne.symm pa)];exact hs3⟩,zC⟩
  intro z hz
  rcases zC5.mp hz with z1 | z1
  ·exact h1 z z1
  ·rw [zCR.mp z1];exact ⟨lZ hc,rfl⟩
 ·rintro ys τ H2 ⟨zs,k,rfl,rfl,hl,h1,kp,hs2,h2⟩
  exact q zs H2 hl h1 (kp.drop ha) hs2 h2
theorem m5 (zs:List Str) (h:∀ z ∈ zs,uR z/\z.length=1):(zs.map (·.length)).sum=zs.length:=pM zs fun z hz=>(h z hz).2
def vT (z:Str):Prop:=wJ z=true/\z.length <= 8
def r6 (st:Int) (ws:List Str):Prop:=∀ (j:Nat) (z:Str),ws[j]?=some z->z.cps.toList.getLast?=abc.cps.toList[((st + (0 + (j:Int))) % 26).toNat]?
theorem r6.snoc {st:Int} {ws:List Str} {x:Str} {ch:Nat} (h:r6 st ws) (e:abc.cps.toList[((st + (0 + (ws.length:Int))) % 26).toNat]?=some ch):r6 st (ws ++ [x ++ ⟨#[ch]⟩]):=by
 intro j z hj
 by_cases jl:j < ws.length
 ·rw [zDC jl] at hj
  exact h j z hj
 ·rw [zDB (by omega)] at hj
  have j0:j=ws.length:=by
   have:=(zCQ.mp hj).1
   simp at this;omega
  subst j0
  rw [Nat.sub_self] at hj
  have ez:x ++ (⟨#[ch]⟩:Str)=z:=zCV hj
  rw [<- ez,e]
  show (x.cps ++ #[ch]).toList.getLast?=_
  simp
theorem rZ:abc.cps.toList.Nodup/\abc.cps.toList.length=26:=by decide +kernel
theorem r6.nodup {st:Int} {ws:List Str} (h:r6 st ws) (hl:ws.length <= 26):ws.Nodup:=by
 rw [List.nodup_iff_pairwise_ne,List.pairwise_iff_getElem]
 intro i j hi hj hij e
 have a:=h i _ (zCP hi)
 have b:=h j _ (zCP hj)
 rw [e] at a
 have c:=a.symm.trans b
 have ri:((st + (0 + (i:Int))) % 26).toNat < abc.cps.toList.length:=by rw [rZ.2];omega
 have:=(List.getElem?_inj ri rZ.1).mp c
 omega
def lD:Sp:=fun vs H Q _=>∃ (p:Addr) (m:Int),vs=[.ref p,.int m]/\Src H p/\0 <= m/\m <= 26 /\
 ∀ (r:Addr) (zs:List Str) (H':Hp),H r=none->H' r=some (.lst (zs.map V.str))->zs.length=m.toNat->(∀ z ∈ zs,vT z)->zs.Nodup->zD [p] H H'->Src H' p->Q (.ref r) H'
theorem dM (G:y1 K mg "_law_names" uV ["_law_source","_law_many"]) (CN:Cal P w K mg base CX0 2 "_law_next" ["_law_source","_law_many"] qA) (b_range:Blt mg "range"):Cal P w K mg base CX0 3 "_law_names" ["_law_source","_law_many"] lD:=by
 refine G.ok tV (fun vs H Q E h=>by obtain ⟨p,m,rfl,_⟩:=h;rfl) (fun f cdv A outer s0 H vs Q E hr h=>?_)
 obtain ⟨p,m,rfl,⟨a,b,c,hp⟩,m0,m1,q⟩:=h
 have hr2:z9 2 _:=hr.mono (by decide)
 refine ⟨_,(zB (zV (i:=2) tV.nd rfl (Or.inr rfl) z7)
   (zB (zV (i:=3) tV.nd rfl (Or.inr rfl) (zZ CN hr2 (zA (pv 0) (zA zI zE))))
   (zB (zV (i:=4) tV.nd rfl (Or.inr rfl) (wX F.plainAttrs_str F.slot_str_join F.type_str_join dU z7 (zA (vD (N:=["_law_source","_law_many","_law_letters","_law_start","_law_stem"]) (sc:=zG uV) (ix:=[2,0]) (by decide +kernel) (uY rfl b_range.no (zA zI zE)) (fun _ _ _ _=>t6) (fun _ _ _ _=>(zT gQ (pv 1) (zZ CN hr2 (zA (pv 2) (zA zI zE))) (fun _ _=>rfl)))) zE)))
   (zH (zO (vD (N:=["_law_source","_law_many","_law_letters","_law_start","_law_stem"]) (sc:=zG uV) (ix:=[4,2,0,3]) (by decide +kernel) (uY rfl b_range.no (zA (pv 1) zE)) (fun _ _ _ _=>t6) (fun _ _ _ _=>(z5 nO (uH b9 (pv 1) qN (uF (zZ CN hr2 (zA (pv 3) (zA zI zE))))) (zT gQ (pv 2) (z5 wN (z5 xR (pv 4) (pv 0)) zI) (fun _ _=>rfl)))))))))),?_⟩
 refine ⟨_,rfl,p,a,b,c,26,rfl,hp,by decide,by decide,fun st a1 c1 st0 st1=>?_⟩
 have k1:zD [p] H (upd H p (.lst [.int a1,.int b,.int c1])):=zD.at (by simp)
 generalize hH1:upd H p (.lst [.int a1,.int b,.int c1])=H1 at k1 ⊢
 have s1:Src H1 p:=⟨a1,b,c1,by rw [<- hH1];exact zC⟩
 refine ⟨rfl,7,rfl,by decide,by decide,fun acc ha=>?_⟩
 refine oZ (p:=p) (by decide) s1 ha rfl (fun k H2 R ⟨a2,b2,c2,hs⟩ R'=>?_) ?_
 ·refine ⟨_,rfl,_,rfl,p,a2,b2,c2,26,rfl,hs,by decide,by decide,fun v2 a3 c3 w0 w1=>?_⟩
  obtain ⟨ch,hc1,hc2⟩:=mG (xs:=abc.cps.toList) w0 (show v2 < ((26:Nat):Int) from w1)
  exact ⟨_,v2,ch,rfl,rfl,by decide,hc1,R' ch _ (zCS hc2) (zD.at (by simp)) ⟨a3,b2,c3,zC⟩⟩
 intro zs H2 hzl hz k2 s2 h2
 refine ⟨"",acc,zs,rfl,rfl,.of h2,by rw [m5 zs hz,hzl];decide,?_⟩
 have hstem:uR (Txt.join (Str.ofString "") zs):=gH zs fun z h=>(hz z h).1
 have lstem:(Txt.join (Str.ofString "") zs).length=7:=by rw [gP,m5 zs hz,hzl];rfl
 generalize Txt.join (Str.ofString "") zs=stem at hstem lstem ⊢
 refine ⟨_,rfl,m,rfl,by omega,by omega,fun acc2 ha2=>?_⟩
 have pa:acc2 ≠ p:=by
  obtain ⟨x,y,z,h⟩:=s2
  exact Ne.symm (zF h ha2)
 have na:H acc2=none:=k1.none (by simp [pa]) (k2.none (by simp [pa]) ha2)
 refine u6 (by rw [sizeLine_eq];omega) (fun i ys τ H3=>∃ (ws:List Str) (k:Option V),τ=k :: [some (.str stem),some (.str abc),some (.ref p),some (.int st)]/\ys=ws.map V.str/\ws.length=i/\(∀ z ∈ ws,vT z)/\r6 st ws/\zD [acc2,p] H2 H3/\Src H3 p/\H3 acc2=some (.lst ys)) ?_ ?_ ?_ ?_
 ·obtain ⟨x,y,z,h⟩:=s2
  exact ⟨[],none,rfl,rfl,rfl,(fun z hz=>by cases hz),(fun j z e=>by simp at e),zD.at (by simp),⟨x,y,z,by rw [zJ (Ne.symm pa)];exact h⟩,zC⟩
 ·rintro i ys τ H3 ⟨ws,k,rfl,rfl,hl,_,_,_,_,h3⟩
  exact ⟨h3,by rw [zCO];omega⟩
 ·rintro i ys τ H3 hi ⟨ws,k,rfl,rfl,hl,h1,hla,kp,⟨a2,b2,c2,hs⟩,h3⟩
  refine ⟨_,rfl,_,rfl,p,a2,b2,c2,8,rfl,hs,by decide,by decide,fun v a3 c3 v0 v1=>⟨v,rfl,stem,rfl,by rw [lstem,sizeLine_eq];decide,?_⟩⟩
  refine ⟨_,rfl,_,rfl,_,rfl,_,_,rfl,rfl,_,_,rfl,rfl,(by show (0:Int) < 26;decide),?_⟩
  have g0:0 <= (st + (0 + (i:Int))) % 26:=Int.emod_nonneg _ (by decide)
  have g1:(st + (0 + (i:Int))) % 26 < 26:=Int.emod_lt_of_pos _ (by decide)
  obtain ⟨ch,hc1,hc2⟩:=mG (xs:=abc.cps.toList) g0 (show (st + (0 + (i:Int))) % 26 < ((26:Nat):Int) from g1)
  have e1:=Txt.slice_le stem none (some v)
  refine ⟨_,_,ch,rfl,rfl,by decide,hc1,_,_,rfl,rfl,by rw [sizeLine_eq];show _ + 1 <= _;omega,?_⟩
  refine ⟨by rw [zJ pa];exact h3,ws ++ [Txt.slice stem none (some v) ++ ⟨#[ch]⟩],_,rfl,by simp,by simp [hl],?_,hla.snoc (by rw [hl];exact hc2),(kp.trans (zD.at (by simp))).trans (zD.at (by simp)),⟨a3,b2,c3,by rw [zJ (Ne.symm pa),zC]⟩,zC⟩
  intro z hz
  rcases zC5.mp hz with z1 | z1
  ·exact h1 z z1
  ·rw [zCR.mp z1]
   have el:(Txt.slice stem none (some v) ++ (⟨#[ch]⟩:Str)).length=(Txt.slice stem none (some v)).length + 1:=by rw [d5];rfl
   exact ⟨dR (dZ (jM hstem _ _) (lZ (zCS hc2))) (by omega) (by omega),by omega⟩
 ·rintro ys τ H3 ⟨ws,k,rfl,rfl,hl,h1,hla,kp,hs3,h3⟩
  exact q acc2 ws H3 na h3 hl h1 (hla.nodup (by omega)) ((k1.trans k2).trans (kp.drop ha2)) hs3
end
abbrev lP:Stmt:=top 13
abbrev eY:Stmt:=xC (top 14) 13
abbrev lO:Stmt:=xC (top 14) 14
section
variable {P:Program} {w:World} {K:W.Frag} {mg:Str->Option Value} {base:Heap} {C:Addr}
theorem aG:zQ ["house"] ["house"] (zG lP):=scm
theorem zAF (G:y1 K mg "check_house" lP ["house"]) (CI:Cal P w K mg base CX0 1 "is_name" ["thing"] (qB K)):Cal P w K mg base CX0 2 "check_house" ["house"] sD:=by
 refine G.ok aG (fun vs H Q E h=>by obtain ⟨z,rfl,_⟩:=h;rfl) (fun f cdv A outer s0 H vs Q E hr h=>?_)
 obtain ⟨z,rfl,h1,h2,q⟩:=h
 have hr1:z9 1 _:=hr.mono (by decide)
 refine ⟨_,(zH (yG (wA (xQ (zZ CI hr1 (zA (pv 0) zE)))) (zH xI) zP)),?_⟩
 refine ⟨_,rfl,_,"str",rfl,.str z,(fun z' e=>by cases e;exact h2),fun H1 k1=>⟨_,rfl,?_⟩⟩
 exact ifF (by show (!wJ z)=false;rw [h1];rfl) (q H1 k1)
theorem zBO:zQ ["self","house"] ["self","house"] (zG eY):=scm
abbrev hsR (z:Str):Str × Str:=(("house" : Str),z)
def bC (C:Addr):Sp:=fun vs H Q _=>∃ (p wl:Addr) (s:SS) (z:Str),vs=[.ref p,.str z]/\zN C H p wl s/\wJ z=true/\z.length <= 1000/\s.ptr ≠ some z/\(hsR z) ∉ s.row/\s.row.length < 1000 /\
 ∀ (r:Addr) (H':Hp),zN C H' p wl (zK { s with row:=s.row ++ [(hsR z)] }).1->Rows H' r (zK { s with row:=s.row ++ [(hsR z)] }).2->H r=none->zD [p,wl] H H'->Q (.ref r) H'
theorem zB3 (T:xE K C) (G:xW K C "ask" "Seat.ask" eY ["self","house"]) (CC:Cal P w K mg base CX0 2 "check_house" ["house"] sD) (MM:xB P w K mg base CX0 2 C "move_on" ["self"] (uU C)) :
  xB P w K mg base CX0 3 C "ask" ["self","house"] (bC C):=by
 refine G.ok zBO (fun vs H Q E h=>by obtain ⟨p,wl,s,z,rfl,_⟩:=h;rfl) (fun f cdv A outer s0 H vs Q E hr h=>?_)
 obtain ⟨p,wl,s,z,rfl,S0,hn,hl,hh,hi,hlen,q⟩:=h
 have hr2:z9 2 _:=hr.mono (by decide)
 have hu:=wZ hr
 refine ⟨_,(zB (yT (zZ CC hr2 (zA (pv 1) zE)))
   (zB (yG (zM wY (pv 1) (yR (pv 0) rfl) (zR _)) (zH xI) zP)
   (zB (yG (zM (qQ hu) (yC (zA z7 (zA (pv 1) zE))) (yR (pv 0) rfl) (by with_unfolding_all rfl)) (zH xI) zP)
   (zB (yT (wX F.plainAttrs_list F.slot_list_append F.type_list_append y2 (yR (pv 0) rfl) (zA (yC (zA z7 (zA (pv 1) zE))) zE)))
   (zH (zO (yE MM T.cl hr2 (pv 0)))))))),?_⟩
 refine ⟨_,rfl,z,rfl,hn,hl,fun H1 k1=>?_⟩
 have S:=S0.keep k1
 have npw:=S.ne
 obtain ⟨⟨dx,hob⟩,⟨ps,hwl,hpr⟩,_⟩:=id S
 refine ⟨_,rfl,_,rfl,p,C,dx,_,_,rfl,hob,T.cl,T.nP,g9 _ _ _ _,lG _ _,_,rfl,?_⟩
 refine ifF (by rw [cI];exact zC4 hh) ?_
 refine ⟨_,rfl,by show 2 <= sizeLine;decide,fun t ht=>?_⟩
 have k2:zD [] H1 (upd H1 t (.tup [.str "house",.str z])):=zD.new ht
 refine ⟨_,rfl,p,C,dx,_,_,rfl,(k2 _ _ (by simp) hob),T.cl,T.nW,sS _ _ _ _,wl,t,_,s.row.map yX,rfl,rfl,(Rows.keep ⟨ps,hwl,hpr⟩ k2),zC,rfl,x8 _,_,rfl,?_⟩
 refine ifF (by show ((s.row.map yX).any fun r=>eqT r (yX (hsR z)))=false;rw [uP];exact zC4 hi) ?_
 refine ⟨_,rfl,p,C,dx,_,_,rfl,(k2 _ _ (by simp) hob),T.cl,T.nW,sS _ _ _ _,.inl ⟨rfl,_,.of (k2 _ _ (by simp) hwl)⟩,_,rfl,by show 2 <= sizeLine;decide,fun t2 ht2=>?_⟩
 have k3:zD [] (upd H1 t (.tup [.str "house",.str z])) (upd (upd H1 t (.tup [.str "house",.str z])) t2 (.tup [.str "house",.str z])):=zD.new ht2
 have k13:=k2.trans k3
 have wt2:wl ≠ t2:=zF (k2 _ _ (by simp) hwl) ht2
 have lps:=zU hpr
 rw [zCO] at lps
 refine ⟨wl,_,_,rfl,rfl,k13 _ _ (by simp) hwl,by rw [zCO,sizeLine_eq];omega,?_⟩
 generalize hH3:upd (upd H1 t (.tup [.str "house",.str z])) t2 (.tup [.str "house",.str z])=H3 at k3 k13 ⊢
 have h3t:H3 t2=some (.tup (yX (hsR z))):=by rw [<- hH3];exact zC
 have k4:zD [p,wl] H1 (upd H3 wl (.lst (ps.map V.ref ++ [.ref t2]))):=(k13.mono (by simp)).trans (zD.at (by simp))
 have hob4:upd H3 wl (.lst (ps.map V.ref ++ [.ref t2])) p=some (.ins C dx (yO (yH s.ptr) wl (yH s.hold) s.asked)):=by rw [zJ npw];exact k13 _ _ (by simp) hob
 have S4:zN C (upd H3 wl (.lst (ps.map V.ref ++ [.ref t2]))) p wl { s with row:=s.row ++ [(hsR z)] }:=
  zN.more (H:=H) (H1:=H1) hob4 (yF k4 (w6 hob hwl) hpr) zC (by rw [zJ (Ne.symm wt2)];exact h3t) hlen
 refine ⟨_,rfl,p,dx,_,rfl,hob4,rQ _ _ _ _,p,wl,_,rfl,S4,fun r H5 S5 R5 hr5 k5=>?_⟩
 have hr4:=(yM hr5).1
 exact q r H5 S5 R5 (k1.none (by simp) (k13.none (by simp) hr4)) (((k1.mono (by simp)).trans k4).trans k5)
theorem aF:zQ ["self","house","back"] ["self","house","back"] (zG lO):=scm
def yZ (s:SS) (z:Str) (b:Bool):SS:={ s with ptr:=none,asked:=false,row:=if b then s.row ++ [hsR z] else s.row }
def iL (C:Addr):Sp:=fun vs H Q _=>∃ (p wl:Addr) (s:SS) (z:Str) (b:Bool),vs=[.ref p,.str z,.bl b]/\zN C H p wl s/\wJ z=true/\z.length <= 1000/\s.ptr=some z/\s.row.length < 1000 /\
 ∀ (r:Addr) (H':Hp),zN C H' p wl (zK (yZ s z b)).1->Rows H' r (zK (yZ s z b)).2->H r=none->zD [p,wl] H H'->Q (.ref r) H'
theorem zAE (T:xE K C) (G:xW K C "come" "Seat.come" lO ["self","house","back"]) (CC:Cal P w K mg base CX0 2 "check_house" ["house"] sD) (MM:xB P w K mg base CX0 2 C "move_on" ["self"] (uU C)) (b_isinstance:Blt mg "isinstance") (b_bool:Blt mg "bool") :
  xB P w K mg base CX0 3 C "come" ["self","house","back"] (iL C):=by
 refine G.ok aF (fun vs H Q E h=>by obtain ⟨p,wl,s,z,b,rfl,_⟩:=h;rfl) (fun f cdv A outer s0 H vs Q E hr h=>?_)
 obtain ⟨p,wl,s,z,b,rfl,S0,hn,hl,hh,hlen,q⟩:=h
 have hr2:z9 2 _:=hr.mono (by decide)
 refine ⟨_,(zB (yT (zZ CC hr2 (zA (pv 1) zE)))
   (zB (yG (zM sK (pv 1) (yR (pv 0) rfl) (zR _)) (zH xI) zP)
   (zB (yG (wA (xQ (xY tM b_isinstance vS (zA (pv 2) (zA (bH b_bool cQ) zE))))) (zH xI) zP)
   (zB (wB (pv 0) y9 rfl)
   (zB (wB (pv 0) wG rfl)
   (zB (yG (xQ (pv 2)) (zH (yT (wX F.plainAttrs_list F.slot_list_append F.type_list_append y2 (yR (pv 0) rfl) (zA (yC (zA z7 (zA (pv 1) zE))) zE)))) zP)
   (zH (zO (yE MM T.cl hr2 (pv 0)))))))))),?_⟩
 refine ⟨_,rfl,z,rfl,hn,hl,fun H1 k1=>?_⟩
 have S:=S0.keep k1
 have npw:=S.ne
 obtain ⟨⟨dx,hob⟩,⟨ps,hwl,hpr⟩,_⟩:=id S
 refine ⟨_,rfl,_,rfl,p,C,dx,_,_,rfl,hob,T.cl,T.nP,g9 _ _ _ _,lG _ _,_,rfl,?_⟩
 refine ifF (by rw [cI,zC3 hh];rfl) ?_
 refine ⟨_,rfl,_,_,_,_,rfl,(xO.bl (K:=K) (H:=H1) b).ty,(xO.bl (K:=K) (H:=H1) b).kit.2.2.1,_,rfl,?_⟩
 refine ifF rfl ?_
 refine ⟨_,rfl,p,C,dx,_,rfl,hob,T.cl,T.nP,by show 4 < 1000;decide,?_⟩
 rw [bF]
 refine ⟨_,rfl,p,C,dx,_,rfl,zC,T.cl,T.nA,by show 4 < 1000;decide,?_⟩
 dsimp only
 rw [iS,vZ]
 have k2:zD [p,wl] H1 (upd H1 p (.ins C dx (yO .non wl (yH s.hold) false))):=zD.at (by simp)
 have S2:zN C (upd H1 p (.ins C dx (yO .non wl (yH s.hold) false))) p wl { s with ptr:=none,asked:=false }:=S.stay (dx:=dx) { s with ptr:=none,asked:=false } zC (by rw [zJ (Ne.symm npw)]) rfl k2
 have hob2:upd H1 p (.ins C dx (yO .non wl (yH s.hold) false)) p=some (.ins C dx (yO .non wl (yH s.hold) false)):=zC
 have hwl2:upd H1 p (.ins C dx (yO .non wl (yH s.hold) false)) wl=some (.lst (ps.map V.ref)):=by rw [zJ (Ne.symm npw)];exact hwl
 have hpr2:=yF k2 (w6 hob hwl) hpr
 have n12:∀ r,upd H1 p (.ins C dx (yO .non wl (yH s.hold) false)) r=none->H1 r=none:=fun r h=>(yM h).1
 generalize upd H1 p (.ins C dx (yO .non wl (yH s.hold) false))=H2 at k2 S2 hob2 hwl2 hpr2 n12 ⊢
 refine ⟨_,rfl,_,rfl,?_⟩
 cases b with
 | false=>
  refine ifF rfl ?_
  refine ⟨_,rfl,p,dx,_,rfl,hob2,rQ _ _ _ _,p,wl,_,rfl,S2,fun r H5 S5 R5 hr5 k5=>?_⟩
  exact q r H5 S5 R5 (k1.none (by simp) (n12 r hr5)) (((k1.mono (by simp)).trans k2).trans k5)
 | true=>
  refine ifT rfl ?_
  refine ⟨_,rfl,p,C,dx,_,_,rfl,hob2,T.cl,T.nW,sS _ _ _ _,.inl ⟨rfl,_,.of hwl2⟩,_,rfl,by show 2 <= sizeLine;decide,fun t2 ht2=>?_⟩
  have k3:zD [] H2 (upd H2 t2 (.tup [.str "house",.str z])):=zD.new ht2
  have wt2:wl ≠ t2:=zF hwl2 ht2
  have lps:=zU hpr
  rw [zCO] at lps
  refine ⟨wl,_,_,rfl,rfl,k3 _ _ (by simp) hwl2,by rw [zCO,sizeLine_eq];omega,?_⟩
  have n23:∀ r,upd H2 t2 (.tup [.str "house",.str z]) r=none->H2 r=none:=fun r h=>(yM h).1
  have h3t:upd H2 t2 (.tup [.str "house",.str z]) t2=some (.tup (yX (hsR z))):=zC
  generalize upd H2 t2 (.tup [.str "house",.str z])=H3 at k3 n23 h3t ⊢
  have k4:zD [p,wl] H2 (upd H3 wl (.lst (ps.map V.ref ++ [.ref t2]))):=(k3.mono (by simp)).trans (zD.at (by simp))
  have hob4:upd H3 wl (.lst (ps.map V.ref ++ [.ref t2])) p=some (.ins C dx (yO (yH none) wl (yH s.hold) false)):=by rw [zJ npw];exact k3 _ _ (by simp) hob2
  have S4:zN C (upd H3 wl (.lst (ps.map V.ref ++ [.ref t2]))) p wl (yZ s z true):=
   zN.more (s:={ s with ptr:=none,asked:=false }) (H:=H) (H1:=H2) hob4 (yF k4 (w6 hob2 hwl2) hpr2) zC (by rw [zJ (Ne.symm wt2)];exact h3t) hlen
  refine ⟨_,rfl,p,dx,_,rfl,hob4,rQ _ _ _ _,p,wl,_,rfl,S4,fun r H5 S5 R5 hr5 k5=>?_⟩
  have hr4:=(yM hr5).1
  exact q r H5 S5 R5 (k1.none (by simp) (n12 r (n23 r hr4))) ((((k1.mono (by simp)).trans k2).trans k4).trans k5)
end
theorem zCD (a:V) (wl:Addr) (h:V) (k:Bool):(yO a wl h k).lookup ("want" : Str)=none:=rfl
theorem zCE (a:V) (wl:Addr) (h:V) (k:Bool):(yO a wl h k).lookup ("leave" : Str)=none:=rfl
theorem zCG (a:V) (wl:Addr) (h:V) (k:Bool):(yO a wl h k).lookup ("done" : Str)=none:=rfl
theorem zAR (a:V) (wl:Addr) (h:V) (k:Bool):(yO a wl h k).lookup ("ask" : Str)=none:=rfl
theorem zCH (a:V) (wl:Addr) (h:V) (k:Bool):(yO a wl h k).lookup ("come" : Str)=none:=rfl
inductive DD where
 | want (z:Str)
 | leave (z:Str)
 | done (z:Str)
 | ask (z:Str)
 | come (z:Str) (b:Bool)
def deedV:DD->List V
 | .want z=>[.str "want",.str z]
 | .leave z=>[.str "leave",.str z]
 | .done z=>[.str "done",.str z]
 | .ask z=>[.str "ask",.str z]
 | .come z b=>[.str "come",.str z,.bl b]
def z8 (s:SS):DD->SS
 | .want z=>{ s with row:=s.row ++ [yJ z] }
 | .leave z=>{ s with row:=s.row.filter fun x=>decide (x ≠ yJ z) }
 | .done _=>{ s with hold:=none }
 | .ask z=>{ s with row:=s.row ++ [hsR z] }
 | .come z b=>yZ s z b
theorem x4 (y z:Str):hsR y ≠ yJ z:=by
 intro e
 have e1:("house" : Str)="asker":=congrArg Prod.fst e
 exact absurd e1 (by decide +kernel)
theorem x6 {l:LSS} {x a:Str × Str} (h:x ≠ a):(l ++ [x]).count a=l.count a:=by
 rw [List.count_append,List.count_cons,List.count_nil]
 have:(x == a)=false:=by simpa using h
 rw [this];simp
theorem uM:∀ (l:LSS) (a:Str × Str) (j:Nat),l[j]?=some a->(∀ m:Nat,m < j->l[m]? ≠ some a)->l.count a <= 1->l.filter (fun x=>decide (x ≠ a))=l.eraseIdx j
 | [],a,j,h,_,_=>by simp at h
 | y :: l,a,0,h,_,hc=>by
  have e:y=a:=by simpa using h
  subst e
  have h0:l.count y=0:=by
   rw [List.count_cons_self] at hc;omega
  have hn:y ∉ l:=List.count_eq_zero.mp h0
  rw [List.filter_cons]
  simp only [ne_eq,not_true_eq_false,decide_false,Bool.false_eq_true,if_false,List.eraseIdx_zero,List.tail_cons]
  exact List.filter_eq_self.mpr fun x hx=>zC3 fun e=>hn (e ▸ hx)
 | y :: l,a,j + 1,h,hno,hc=>by
  have ne:y ≠ a:=fun e=>hno 0 (by omega) (by simp [e])
  have hc':l.count a <= 1:=zCZ (List.Sublist.count_le _ (List.sublist_cons_self y l)) hc
  rw [List.filter_cons,if_pos (zC3 ne),uM l a j (by simpa using h) (fun m hm e=>hno (m + 1) (by omega) (by simpa using e)) hc']
  rfl
inductive Loc where
 | at (r:Str)
 | on (u v:Str)
def Loc.ex:Loc->Str->Prop
 | .at _,_=>False
 | .on u v,x=>x=u \/ x=v
def goB:Loc->Str->Str->Nat
 | .at _,_,_=>0
 | .on u v,x,y=>if u=x/\v=y then 1 else 0
abbrev Wy:=Str->Str->List (Option Bool)
def pdB:Option Bool->Bool
 | none=>true
 | some b=>b
def wV (st:Str->SS) (wy:Wy) (l:Loc) (x y:Str):Nat:=(wy x y).countP pdB + (st y).row.count (hsR x) + goB l y x
def zCJ (ns:List Str) (st:Str->SS) (wy:Wy):Loc->Prop
 | .at r=>r ∈ ns/\(∀ x ∈ ns,(st x).ptr=none ↔ x=r)/\∀ x y b,some b ∉ wy x y
 | .on u v=>u ∈ ns/\v ∈ ns/\u ≠ v/\(st u).ptr=some v/\(st v).ptr=some u/\(∀ x ∈ ns,(st x).ptr ≠ none)/\(∀ x y b,some b ∈ wy x y->x=u/\y=v)/\∃ b,some b ∈ wy u v
def f6 (l:List (Option Bool)):Prop:=l=[] \/ l=[none] \/ (∃ b,l=[some b]) \/ l=[some false,none]
structure kP (As:List Str) (s:SS):Prop where
 k:∀ x ∈ s.row,(∃ a,x=yJ a/\a ∈ As) \/ ∃ z,x=hsR z
 u:∀ a,s.row.count (yJ a) <= 1
 h:∀ a,s.hold=some a->a ∈ As/\yJ a ∉ s.row
def oS (s:SS):Prop:=s.row ≠ []->(s.ptr=none->s.hold ≠ none)/\(s.ptr ≠ none->s.asked=true)
structure xD (ns As:List Str) (T:Str->Str->Prop) (st:Str->SS) (wy:Wy) (l:Loc):Prop where
 b:∀ x ∈ ns,∀ y,(st x).ptr=some y->y ∈ ns/\T x y
 wh:zCJ ns st wy l
 rk:∃ d:Str->Nat,∀ x ∈ ns,∀ y,(st x).ptr=some y->¬ l.ex x->d y < d x
 w:∀ x y,wy x y ≠ []->x ∈ ns/\(st x).ptr=some y
 sh:∀ x y,f6 (wy x y)
 e:∀ x ∈ ns,∀ y,(st x).ptr=some y->wV st wy l x y=if (st x).asked then 1 else 0
 f:∀ y ∈ ns,∀ x,hsR x ∈ (st y).row->x ∈ ns/\(st x).ptr=some y
 g:∀ x ∈ ns,((st x).ptr=none->(st x).asked=false)/\((st x).ptr ≠ none->(st x).hold=none)
 i:∀ x ∈ ns,kP As (st x)
 j:∀ y ∈ ns,∀ x,hsR x ∈ (st y).row->l ≠ .on x y
def stU (st:Str->SS) (n:Str) (s:SS):Str->SS:=fun x=>if x=n then s else st x
theorem zL {st:Str->SS} {n:Str} {s:SS}:stU st n s n=s:=if_pos rfl
theorem zY {st:Str->SS} {n x:Str} {s:SS} (h:x ≠ n):stU st n s x=st x:=if_neg h
def wyU (wy:Wy) (a b:Str) (l:List (Option Bool)):Wy:=fun x y=>if x=a/\y=b then l else wy x y
theorem z6 {wy:Wy} {a b:Str} {l:List (Option Bool)}:wyU wy a b l a b=l:=if_pos ⟨rfl,rfl⟩
theorem yI {wy:Wy} {a b x y:Str} {l:List (Option Bool)} (h:¬ (x=a/\y=b)):wyU wy a b l x y=wy x y:=if_neg h
section
variable {ns As:List Str} {T:Str->Str->Prop} {st:Str->SS} {wy:Wy} {l:Loc}
theorem xD.same (c:xD ns As T st wy l) {n:Str} (hn:n ∈ ns) {s:SS} (hp:s.ptr=(st n).ptr) (ha:s.asked=(st n).asked) (hc:∀ x,s.row.count (hsR x)=(st n).row.count (hsR x)) (hh:s.ptr ≠ none->s.hold=none) (hr:kP As s):xD ns As T (stU st n s) wy l:=by
 have ptr:∀ x,(stU st n s x).ptr=(st x).ptr:=fun x=>by
  by_cases e:x=n
  ·rw [e,zL,hp]
  ·rw [zY e]
 have ask:∀ x,(stU st n s x).asked=(st x).asked:=fun x=>by
  by_cases e:x=n
  ·rw [e,zL,ha]
  ·rw [zY e]
 have cnt:∀ x y,(stU st n s y).row.count (hsR x)=(st y).row.count (hsR x):=fun x y=>by
  by_cases e:y=n
  ·rw [e,zL,hc]
  ·rw [zY e]
 refine ⟨fun x hx y h=>c.b x hx y (by rw [<- ptr];exact h),?_,?_,fun x y h=>by rw [ptr];exact c.w x y h,c.sh,fun x hx y h=>?_,fun y hy x h=>?_,fun x hx=>?_,fun x hx=>?_,fun y hy x h=>c.j y hy x (List.count_pos_iff.mp (by rw [<- cnt];exact List.count_pos_iff.mpr h))⟩
 ·cases l with
  | «at» r=>exact ⟨c.wh.1,fun x hx=>by rw [ptr];exact c.wh.2.1 x hx,c.wh.2.2⟩
  | on u v=>
   obtain ⟨h1,h2,h3,h4,h5,h6,h7⟩:=c.wh
   exact ⟨h1,h2,h3,by rw [ptr];exact h4,by rw [ptr];exact h5,fun x hx=>by rw [ptr];exact h6 x hx,h7⟩
 ·obtain ⟨d,hd⟩:=c.rk
  exact ⟨d,fun x hx y h=>hd x hx y (by rw [<- ptr];exact h)⟩
 ·rw [ptr] at h
  have:=c.e x hx y h
  unfold wV at this ⊢
  rw [cnt,ask]
  exact this
 ·have h1:0 < (st y).row.count (hsR x):=by rw [<- cnt];exact List.count_pos_iff.mpr h
  rw [ptr]
  exact c.f y hy x (List.count_pos_iff.mp h1)
 ·rw [ptr,ask]
  refine ⟨(c.g x hx).1,fun h=>?_⟩
  by_cases e:x=n
  ·rw [e,zL]
   exact hh (by rw [hp,<- e];exact h)
  ·rw [zY e]
   exact (c.g x hx).2 h
 ·by_cases e:x=n
  ·rw [e,zL];exact hr
  ·rw [zY e];exact c.i x hx
theorem jA {w:List (Option Bool)} (h:f6 (none :: w)):w=[]:=by
 rcases h with h | h | ⟨b,h⟩ | h <;> simp at h
 exact h
theorem pP {w:List (Option Bool)} {b:Bool} (h:f6 (some b :: w)):w=[] \/ (b=false/\w=[none]):=by
 rcases h with h | h | ⟨b',h⟩ | h <;> simp at h
 ·exact .inl h.2
 ·exact .inr h
theorem xD.asked (c:xD ns As T st wy l) {n x:Str} {w:List (Option Bool)} (hn:n ∈ ns) (hw:wy x n=none :: w) :
  w=[]/\(st n).ptr ≠ some x/\hsR x ∉ (st n).row/\xD ns As T (stU st n { st n with row:=(st n).row ++ [hsR x] }) (wyU wy x n w) l:=by
 have hw0:=jA (by rw [<- hw];exact c.sh x n)
 subst hw0
 obtain ⟨hx,px⟩:=c.w x n (by rw [hw];simp)
 have ex:=c.e x hx n px
 have one:(wy x n).countP pdB=1:=by rw [hw];rfl
 have le1:wV st wy l x n <= 1:=by rw [ex];split <;> omega
 have row0:(st n).row.count (hsR x)=0:=by unfold wV at le1;omega
 have go0:goB l n x=0:=by unfold wV at le1;omega
 have nin:hsR x ∉ (st n).row:=List.count_eq_zero.mp row0
 have xn:x ≠ n:=fun e=>by
  obtain ⟨d,hd⟩:=c.rk
  subst e
  cases l with
  | «at» r=>exact Nat.lt_irrefl _ (hd x hx x px (fun h=>h))
  | on u v=>
   by_cases hex:x=u \/ x=v
   ·obtain ⟨_,_,h3,h4,h5,_⟩:=c.wh
    rcases hex with rfl | rfl
    ·rw [px] at h4;exact h3 (zCV h4)
    ·rw [px] at h5;exact h3 (zCV h5).symm
   ·exact Nat.lt_irrefl _ (hd x hx x px hex)
 have pn:(st n).ptr ≠ some x:=fun e=>by
  obtain ⟨d,hd⟩:=c.rk
  cases l with
  | «at» r=>
   have a:=hd x hx n px (fun h=>h)
   have b:=hd n hn x e (fun h=>h)
   omega
  | on u v=>
   obtain ⟨h1,h2,h3,h4,h5,h6,h7,b0,h8⟩:=c.wh
   by_cases ex':x=u \/ x=v
   ·rcases ex' with rfl | rfl
    ·rw [px] at h4
     obtain rfl:=zCV h4
     rw [hw] at h8
     simp at h8
    ·rw [px] at h5
     obtain rfl:=zCV h5
     rw [show goB (.on n x) n x=1 from if_pos ⟨rfl,rfl⟩] at go0
     cases go0
   ·by_cases en':n=u \/ n=v
    ·rcases en' with rfl | rfl
     ·rw [e] at h4;exact ex' (.inr (zCV h4))
     ·rw [e] at h5;exact ex' (.inl (zCV h5))
    ·have a:=hd x hx n px ex'
     have b:=hd n hn x e en'
     omega
 refine ⟨rfl,pn,nin,?_⟩
 have ptr:∀ y,(stU st n { st n with row:=(st n).row ++ [hsR x] } y).ptr=(st y).ptr:=fun y=>by
  by_cases e:y=n
  ·rw [e,zL]
  ·rw [zY e]
 have oth:∀ y,(stU st n { st n with row:=(st n).row ++ [hsR x] } y).asked=(st y).asked/\(stU st n { st n with row:=(st n).row ++ [hsR x] } y).hold=(st y).hold:=fun y=>by
  by_cases e:y=n
  ·rw [e,zL];exact ⟨rfl,rfl⟩
  ·rw [zY e];exact ⟨rfl,rfl⟩
 have sub:∀ a b v,v ∈ wyU wy x n [] a b->v ∈ wy a b:=fun a b v h=>by
  by_cases e:a=x/\b=n
  ·obtain ⟨rfl,rfl⟩:=e
   rw [z6] at h;cases h
  ·rw [yI e] at h;exact h
 refine ⟨fun y hy z h=>c.b y hy z (by rw [<- ptr];exact h),?_,?_,fun a b h=>?_,fun a b=>?_,fun y hy z h=>?_,fun y hy z h=>?_,fun y hy=>?_,fun y hy=>?_,fun y hy z h=>?_⟩
 ·cases l with
  | «at» r=>exact ⟨c.wh.1,fun y hy=>by rw [ptr];exact c.wh.2.1 y hy,fun a b v h=>c.wh.2.2 a b v (sub a b _ h)⟩
  | on u v=>
   obtain ⟨h1,h2,h3,h4,h5,h6,h7,b0,h8⟩:=c.wh
   refine ⟨h1,h2,h3,by rw [ptr];exact h4,by rw [ptr];exact h5,fun y hy=>by rw [ptr];exact h6 y hy,fun a b v h=>h7 a b v (sub a b _ h),b0,?_⟩
   rw [yI]
   ·exact h8
   ·rintro ⟨rfl,rfl⟩
    rw [hw] at h8
    simp at h8
 ·obtain ⟨d,hd⟩:=c.rk
  exact ⟨d,fun y hy z h=>hd y hy z (by rw [<- ptr];exact h)⟩
 ·rw [ptr]
  by_cases e:a=x/\b=n
  ·obtain ⟨rfl,rfl⟩:=e
   rw [z6] at h;exact absurd rfl h
  ·rw [yI e] at h;exact c.w a b h
 ·by_cases e:a=x/\b=n
  ·obtain ⟨rfl,rfl⟩:=e
   rw [z6];exact .inl rfl
  ·rw [yI e];exact c.sh a b
 ·rw [ptr] at h
  have ey:=c.e y hy z h
  rw [(oth y).1,<- ey]
  unfold wV
  by_cases ez:z=n
  ·subst ez
   rw [zL]
   show _ + ((st z).row ++ [hsR x]).count (hsR y) + _=_
   rw [List.count_append]
   by_cases eyx:y=x
   ·subst eyx
    rw [z6,one]
    simp
    omega
   ·rw [yI (fun q=>eyx q.1)]
    have:[hsR x].count (hsR y)=0:=List.count_eq_zero.mpr (by simp;exact fun q=>eyx q)
    rw [this]
    rfl
  ·rw [zY ez,yI (fun q=>ez q.2)]
 ·rw [ptr]
  by_cases ey:y=n
  ·subst ey
   rw [zL] at h
   rcases zC5.mp (show hsR z ∈ (st y).row ++ [hsR x] from h) with q | q
   ·exact c.f y hy z q
   ·have e:z=x:=by simpa using q
    rw [e];exact ⟨hx,px⟩
  ·rw [zY ey] at h
   exact c.f y hy z h
 ·rw [ptr,(oth y).1,(oth y).2]
  exact c.g y hy
 ·by_cases ey:y=n
  ·subst ey
   rw [zL]
   have r:=c.i y hy
   refine ⟨fun q hq=>?_,fun a=>?_,fun a ha=>?_⟩
   ·rcases zC5.mp (show q ∈ (st y).row ++ [hsR x] from hq) with q | q
    ·exact r.k _ q
    ·exact .inr ⟨x,zCR.mp q⟩
   ·show ((st y).row ++ [hsR x]).count (yJ a) <= 1
    rw [x6 (x4 x a)]
    exact r.u a
   ·refine ⟨(r.h a ha).1,fun q=>?_⟩
    rcases zC5.mp (show yJ a ∈ (st y).row ++ [hsR x] from q) with q | q
    ·exact (r.h a ha).2 q
    ·exact x4 x a (zCR.mp q).symm
  ·rw [zY ey];exact c.i y hy
 ·by_cases ey:y=n
  ·subst ey
   rw [zL] at h
   rcases zC5.mp (show hsR z ∈ (st y).row ++ [hsR x] from h) with q | q
   ·exact c.j y hy z q
   ·have e:z=x:=by simpa using q
    rintro rfl
    obtain ⟨_,_,_,_,_,_,_,b0,h8⟩:=c.wh
    rw [e,hw] at h8
    simp at h8
  ·rw [zY ey] at h
   exact c.j y hy z h
theorem xD.le (c:xD ns As T st wy l) {x y:Str} (hx:x ∈ ns) (h:(st x).ptr=some y):wV st wy l x y <= 1:=by
 rw [c.e x hx y h]
 split <;> omega
theorem xD.come (c:xD ns As T st wy l) {n x:Str} {b:Bool} {w:List (Option Bool)} (hw:wy x n=some b :: w) :
  l=.on x n/\n ∈ ns/\x ∈ ns/\(st n).ptr=some x/\(st n).asked=true/\(st n).hold=none/\(st x).ptr=some n/\x ≠ n/\wy n x=[]/\(w=[] \/ (b=false/\w=[none]))/\xD ns As T (stU st n (yZ (st n) x b)) (wyU wy x n w) (.at n):=by
 obtain rfl:l=.on x n:=by
  cases l with
  | «at» r=>exact absurd (by rw [hw];simp) (c.wh.2.2 x n b)
  | on u v=>
   obtain ⟨_,_,_,_,_,_,h7,_⟩:=c.wh
   obtain ⟨rfl,rfl⟩:=h7 x n b (by rw [hw];simp)
   rfl
 obtain ⟨hx,hn,xn,px,pn,al,only,_⟩:=c.wh
 have sw:=pP (by rw [<- hw];exact c.sh x n)
 have go1:goB (.on x n) x n=1:=if_pos ⟨rfl,rfl⟩
 have len:=c.le hn pn
 have en:=c.e n hn x pn
 unfold wV at len en
 rw [go1] at len en
 have as:(st n).asked=true:=by
  cases h:(st n).asked with
  | true=>rfl
  | false=>rw [h] at en;simp at en
 have wn0:(wy n x).countP pdB=0:=by omega
 have rn0:(st x).row.count (hsR n)=0:=by omega
 have wn:wy n x=[]:=by
  rcases c.sh n x with h | h | ⟨b',h⟩ | h
  ·exact h
  ·rw [h] at wn0;cases wn0
  ·exact absurd (only n x b' (by rw [h];simp)).1.symm xn
  ·exact absurd (only n x false (by rw [h];simp)).1.symm xn
 have no:∀ b',some b' ∉ w:=fun b' hb=>by
  rcases sw with e | ⟨_,e⟩ <;> rw [e] at hb <;> simp at hb
 refine ⟨rfl,hn,hx,pn,as,(c.g n hn).2 (by rw [pn];simp),px,xn,wn,sw,?_⟩
 have ptn:(stU st n (yZ (st n) x b) n).ptr=none:=by rw [zL];rfl
 have pto:∀ y,y ≠ n->(stU st n (yZ (st n) x b) y)=st y:=fun y h=>zY h
 have rowc:∀ y,(yZ (st n) x b).row.count (hsR y)=(st n).row.count (hsR y) + (if b then [hsR x].count (hsR y) else 0):=fun y=>by
  show (if b then (st n).row ++ [hsR x] else (st n).row).count (hsR y)=_
  cases b with
  | true=>simp only [if_true];rw [List.count_append]
  | false=>rfl
 refine ⟨fun y hy z h=>?_,⟨hn,fun y hy=>?_,fun y z b' h=>?_⟩,?_,fun y z h=>?_,fun y z=>?_,fun y hy z h=>?_,fun y hy z h=>?_,fun y hy=>?_,fun y hy=>?_,fun _ _ _ _ q=>by cases q⟩
 ·by_cases e:y=n
  ·rw [e,ptn] at h;cases h
  ·rw [pto y e] at h;exact c.b y hy z h
 ·by_cases e:y=n
  ·rw [e,ptn];exact ⟨fun _=>rfl,fun _=>rfl⟩
  ·rw [pto y e];exact ⟨fun h=>absurd h (al y hy),fun h=>absurd h e⟩
 ·by_cases e:y=x/\z=n
  ·obtain ⟨rfl,rfl⟩:=e
   rw [z6] at h
   exact no b' h
  ·rw [yI e] at h
   exact e (only y z b' h)
 ·obtain ⟨d,hd⟩:=c.rk
  refine ⟨fun y=>if y=n then 0 else if y=x then 1 else d y + 2,fun y hy z h _=>?_⟩
  by_cases e:y=n
  ·rw [e,ptn] at h;cases h
  rw [pto y e] at h
  show (if z=n then 0 else if z=x then 1 else d z + 2) < (if y=n then 0 else if y=x then 1 else d y + 2)
  rw [if_neg e]
  by_cases e2:y=x
  ·subst e2
   rw [px] at h
   obtain rfl:=zCV h
   rw [if_pos rfl,if_pos rfl];omega
  ·rw [if_neg e2]
   have:=hd y hy z h (by rintro (q | q) <;> contradiction)
   by_cases z1:z=n
   ·rw [if_pos z1];omega
   ·rw [if_neg z1]
    by_cases z2:z=x
    ·rw [if_pos z2];omega
    ·rw [if_neg z2];omega
 ·by_cases e:y=x/\z=n
  ·obtain ⟨rfl,rfl⟩:=e
   rw [pto y xn]
   exact ⟨hx,px⟩
  ·rw [yI e] at h
   obtain ⟨hy,py⟩:=c.w y z h
   have ny:y ≠ n:=fun q=>by
    subst q
    rw [pn] at py
    obtain rfl:=zCV py
    exact h wn
   rw [pto y ny]
   exact ⟨hy,py⟩
 ·by_cases e:y=x/\z=n
  ·obtain ⟨rfl,rfl⟩:=e
   rw [z6]
   rcases sw with e | ⟨_,e⟩
   ·exact .inl e
   ·exact .inr (.inl e)
  ·rw [yI e];exact c.sh y z
 ·have ny:y ≠ n:=fun q=>by rw [q,ptn] at h;cases h
  rw [pto y ny] at h ⊢
  have ey:=c.e y hy z h
  rw [<- ey]
  unfold wV
  show _ + _ + 0=_
  by_cases ez:z=n
  ·subst ez
   rw [zL,rowc]
   have g0:goB (.on x z) z y=0:=if_neg fun q=>xn q.1
   rw [g0]
   by_cases eyx:y=x
   ·subst eyx
    rw [z6,hw,List.countP_cons]
    cases b <;> simp [pdB]
    omega
   ·rw [yI (fun q=>eyx q.1)]
    have:[hsR x].count (hsR y)=0:=List.count_eq_zero.mpr (by simp;exact fun q=>eyx q)
    rw [this]
    simp
  ·rw [pto z ez,yI (fun q=>ez q.2)]
   have g0:goB (.on x n) z y=0:=if_neg fun q=>ny q.2.symm
   rw [g0]
 ·by_cases ey:y=n
  ·subst ey
   rw [zL] at h
   have:0 < (yZ (st y) x b).row.count (hsR z):=List.count_pos_iff.mpr h
   rw [rowc] at this
   by_cases h1:hsR z ∈ (st y).row
   ·obtain ⟨hz,pz⟩:=c.f y hy z h1
    have nz:z ≠ y:=fun q=>by
     rw [q,pn] at pz
     exact xn (zCV pz)
    rw [pto z nz]
    exact ⟨hz,pz⟩
   ·rw [List.count_eq_zero.mpr h1] at this
    have e:z=x:=by
     cases b with
     | false=>simp at this
     | true=>
      have:0 < [hsR x].count (hsR z):=by simpa using this
      have:=List.count_pos_iff.mp this
      simpa using this
    rw [e,pto x xn]
    exact ⟨hx,px⟩
  ·rw [pto y ey] at h
   obtain ⟨hz,pz⟩:=c.f y hy z h
   have nz:z ≠ n:=fun q=>by
    subst q
    rw [pn] at pz
    obtain rfl:=zCV pz
    exact List.count_eq_zero.mp rn0 h
   rw [pto z nz]
   exact ⟨hz,pz⟩
 ·by_cases ey:y=n
  ·subst ey
   rw [zL]
   exact ⟨fun _=>rfl,fun h=>absurd rfl h⟩
  ·rw [pto y ey];exact c.g y hy
 ·by_cases ey:y=n
  ·subst ey
   rw [zL]
   have r:=c.i y hy
   have mem:∀ q,q ∈ (yZ (st y) x b).row->q ∈ (st y).row \/ q=hsR x:=fun q hq=>by
    cases b with
    | false=>exact .inl hq
    | true=>exact (zC5.mp (show q ∈ (st y).row ++ [hsR x] from hq)).imp id fun h=>zCR.mp h
   refine ⟨fun q hq=>?_,fun a=>?_,fun a ha=>⟨(r.h a ha).1,fun hq=>?_⟩⟩
   ·rcases mem q hq with h | h
    ·exact r.k q h
    ·exact .inr ⟨x,h⟩
   ·cases b with
    | false=>exact r.u a
    | true=>
     show ((st y).row ++ [hsR x]).count (yJ a) <= 1
     rw [x6 (x4 x a)]
     exact r.u a
   ·rcases mem _ hq with h | h
    ·exact (r.h a ha).2 h
    ·exact x4 x a h.symm
  ·rw [pto y ey];exact c.i y hy
theorem xD.send (sym:∀ a b,T a b->T b a) (c:xD ns As T st wy l) {n x:Str} {rest:LSS} (hn:n ∈ ns) (hp:(st n).ptr=none) (hh:(st n).hold=none) (hr:(st n).row=hsR x :: rest) :
  l=.at n/\x ∈ ns/\x ≠ n/\wy n x=[]/\(st x).ptr=some n/\xD ns As T (stU st n { st n with ptr:=some x,row:=rest,asked:=!rest.isEmpty }) (wyU wy n x (wy n x ++ [some (!rest.isEmpty)])) (.on n x):=by
 obtain rfl:l=.at n:=by
  cases l with
  | «at» r=>rw [(c.wh.2.1 n hn).mp hp]
  | on u v=>exact absurd hp (c.wh.2.2.2.2.2.1 n hn)
 obtain ⟨_,pa,nor⟩:=c.wh
 obtain ⟨hx,px⟩:=c.f n hn x (by rw [hr];simp)
 have xn:x ≠ n:=fun q=>by rw [q,hp] at px;cases px
 have wn:∀ y,wy n y=[]:=fun y=>by
  cases h:wy n y with
  | nil=>rfl
  | cons a r=>
   have:=(c.w n y (by rw [h];simp)).2
   rw [hp] at this;cases this
 have nof:∀ y ∈ ns,hsR n ∉ (st y).row:=fun y hy h=>by
  have:=(c.f y hy n h).2
  rw [hp] at this;cases this
 have one:=c.le hx px
 have rx:(st n).row.count (hsR x)=1/\rest.count (hsR x)=0:=by
  unfold wV at one
  rw [hr,List.count_cons_self] at one
  rw [hr,List.count_cons_self]
  omega
 have pos:=List.count_pos_iff.mpr (show hsR x ∈ (st n).row by rw [hr];simp)
 refine ⟨rfl,hx,xn,wn x,px,?_⟩
 have ptn:(stU st n { st n with ptr:=some x,row:=rest,asked:=!rest.isEmpty } n) = { st n with ptr:=some x,row:=rest,asked:=!rest.isEmpty }:=zL
 have pto:∀ y,y ≠ n->(stU st n { st n with ptr:=some x,row:=rest,asked:=!rest.isEmpty } y)=st y:=fun y h=>zY h
 have rowc:∀ y,y ≠ x->rest.count (hsR y)=(st n).row.count (hsR y):=fun y h=>by
  rw [hr,List.count_cons_of_ne]
  intro q
  exact h (congrArg Prod.snd q).symm
 refine ⟨fun y hy z h=>?_,⟨hn,hx,Ne.symm xn,by rw [ptn],by rw [pto x xn];exact px,fun y hy=>?_,fun y z b h=>?_,!rest.isEmpty,by rw [z6];simp⟩,?_,fun y z h=>?_,fun y z=>?_,fun y hy z h=>?_,fun y hy z h=>?_,fun y hy=>?_,fun y hy=>?_,fun y hy z h q=>?_⟩
 rotate_right
 ·injection q with q1 q2
  subst q1 q2
  rw [pto x xn] at h
  exact nof x hx h
 ·by_cases e:y=n
  ·rw [e,ptn] at h
   obtain rfl:x=z:=zCV h
   rw [e]
   exact ⟨hx,sym _ _ (c.b x hx n px).2⟩
  ·rw [pto y e] at h;exact c.b y hy z h
 ·by_cases e:y=n
  ·rw [e,ptn];simp
  ·rw [pto y e];exact fun q=>e ((pa y hy).mp q)
 ·by_cases e:y=n/\z=x
  ·exact e
  ·rw [yI e] at h;exact absurd h (nor y z b)
 ·obtain ⟨d,hd⟩:=c.rk
  refine ⟨d,fun y hy z h ne=>?_⟩
  have e:y ≠ n:=fun q=>ne (.inl q)
  rw [pto y e] at h
  exact hd y hy z h (fun q=>q)
 ·by_cases e:y=n/\z=x
  ·obtain ⟨rfl,rfl⟩:=e
   rw [ptn];exact ⟨hn,rfl⟩
  ·rw [yI e] at h
   obtain ⟨hy,py⟩:=c.w y z h
   have ny:y ≠ n:=fun q=>h (by rw [q];exact wn z)
   rw [pto y ny];exact ⟨hy,py⟩
 ·by_cases e:y=n/\z=x
  ·obtain ⟨rfl,rfl⟩:=e
   rw [z6,wn];exact .inr (.inr (.inl ⟨_,rfl⟩))
  ·rw [yI e];exact c.sh y z
 ·by_cases e:y=n
  ·subst e
   rw [ptn] at h ⊢
   obtain rfl:x=z:=zCV h
   unfold wV
   rw [z6,wn,pto x xn,List.count_eq_zero.mpr (nof x hx),show goB (.on y x) x y=0 from if_neg fun q=>xn q.1.symm]
   cases rest <;> rfl
  ·rw [pto y e] at h ⊢
   have ey:=c.e y hy z h
   rw [<- ey]
   unfold wV
   rw [yI (fun q=>e q.1)]
   by_cases ez:z=n
   ·subst ez
    rw [ptn]
    by_cases eyx:y=x
    ·subst eyx
     rw [show goB (.on z y) z y=1 from if_pos ⟨rfl,rfl⟩,show goB (.at z) z y=0 from rfl,rx.1]
     show _ + rest.count (hsR y) + 1=_
     rw [rx.2]
    ·rw [show goB (.on z x) z y=0 from if_neg fun q=>eyx q.2.symm]
     show _ + rest.count (hsR y) + 0=_
     rw [rowc y eyx];rfl
   ·rw [pto z ez,show goB (.on n x) z y=0 from if_neg fun q=>ez q.1.symm];rfl
 ·have sub:hsR z ∈ (st y).row:=by
   by_cases e:y=n
   ·subst e
    rw [ptn] at h
    rw [hr];exact zC1 _ h
   ·rw [pto y e] at h;exact h
  obtain ⟨hz,pz⟩:=c.f y hy z sub
  have nz:z ≠ n:=fun q=>by rw [q,hp] at pz;cases pz
  rw [pto z nz];exact ⟨hz,pz⟩
 ·by_cases e:y=n
  ·subst e
   rw [ptn];exact ⟨(fun q=>by cases q),fun _=>hh⟩
  ·rw [pto y e];exact c.g y hy
 ·by_cases e:y=n
  ·subst e
   rw [ptn]
   have r:=c.i y hy
   have sl:List.Sublist rest (st y).row:=by rw [hr];exact List.sublist_cons_self _ _
   exact ⟨fun q hq=>r.k q (sl.subset hq),fun a=>zCZ (sl.count_le _) (r.u a),fun a ha=>⟨(r.h a ha).1,fun hq=>(r.h a ha).2 (sl.subset hq)⟩⟩
  ·rw [pto y e];exact c.i y hy
theorem xD.asks (c:xD ns As T st wy l) {n y:Str} (hn:n ∈ ns) (hp:(st n).ptr=some y) (ha:(st n).asked=false) :
  (wy n y).count none=0/\xD ns As T (stU st n { st n with asked:=true }) (wyU wy n y (wy n y ++ [none])) l:=by
 have e0:=c.e n hn y hp
 rw [ha] at e0
 have e0:wV st wy l n y=0:=e0
 unfold wV at e0
 have w0:(wy n y).countP pdB=0:=by omega
 have wsh:wy n y=[] \/ wy n y=[some false]:=by
  rcases c.sh n y with h | h | ⟨b,h⟩ | h
  ·exact .inl h
  ·rw [h] at w0;cases w0
  ·cases b with
   | false=>exact .inr h
   | true=>rw [h] at w0;cases w0
  ·rw [h] at w0;cases w0
 refine ⟨by rcases wsh with h | h <;> rw [h] <;> rfl,?_⟩
 have ptr:∀ x,(stU st n { st n with asked:=true } x).ptr=(st x).ptr:=fun x=>by
  by_cases e:x=n
  ·rw [e,zL]
  ·rw [zY e]
 have row:∀ x,(stU st n { st n with asked:=true } x).row=(st x).row/\(stU st n { st n with asked:=true } x).hold=(st x).hold:=fun x=>by
  by_cases e:x=n
  ·rw [e,zL];exact ⟨rfl,rfl⟩
  ·rw [zY e];exact ⟨rfl,rfl⟩
 have some_in:∀ x z b,some b ∈ wyU wy n y (wy n y ++ [none]) x z ↔ some b ∈ wy x z:=fun x z b=>by
  by_cases e:x=n/\z=y
  ·obtain ⟨rfl,rfl⟩:=e
   rw [z6];simp
  ·rw [yI e]
 refine ⟨fun x hx z h=>c.b x hx z (by rw [<- ptr];exact h),?_,?_,fun x z h=>?_,fun x z=>?_,fun x hx z h=>?_,fun x hx z h=>?_,fun x hx=>?_,fun x hx=>?_,fun x hx z h=>c.j x hx z (by rw [(row x).1] at h;exact h)⟩
 ·cases l with
  | «at» r=>exact ⟨c.wh.1,fun x hx=>by rw [ptr];exact c.wh.2.1 x hx,fun x z b h=>c.wh.2.2 x z b ((some_in x z b).mp h)⟩
  | on u v=>
   obtain ⟨h1,h2,h3,h4,h5,h6,h7,b0,h8⟩:=c.wh
   exact ⟨h1,h2,h3,by rw [ptr];exact h4,by rw [ptr];exact h5,fun x hx=>by rw [ptr];exact h6 x hx,fun x z b h=>h7 x z b ((some_in x z b).mp h),b0,(some_in u v b0).mpr h8⟩
 ·obtain ⟨d,hd⟩:=c.rk
  exact ⟨d,fun x hx z h=>hd x hx z (by rw [<- ptr];exact h)⟩
 ·rw [ptr]
  by_cases e:x=n/\z=y
  ·obtain ⟨rfl,rfl⟩:=e
   exact ⟨hn,hp⟩
  ·rw [yI e] at h;exact c.w x z h
 ·by_cases e:x=n/\z=y
  ·obtain ⟨rfl,rfl⟩:=e
   rw [z6]
   rcases wsh with h | h <;> rw [h]
   ·exact .inr (.inl rfl)
   ·exact .inr (.inr (.inr rfl))
  ·rw [yI e];exact c.sh x z
 ·rw [ptr] at h
  have ex:=c.e x hx z h
  by_cases e:x=n
  ·subst e
   rw [hp] at h
   obtain rfl:y=z:=zCV h
   rw [zL]
   show wV _ _ _ _ _=1
   unfold wV
   rw [z6,(row y).1,List.countP_append]
   show _ + 1 + _ + _=1
   omega
  ·rw [zY e,<- ex]
   unfold wV
   rw [yI (fun q=>e q.1),(row z).1]
 ·rw [ptr]
  rw [(row x).1] at h
  exact c.f x hx z h
 ·rw [ptr,(row x).2]
  refine ⟨fun h=>?_,(c.g x hx).2⟩
  have e:x ≠ n:=fun q=>by rw [q,hp] at h;cases h
  rw [zY e]
  exact (c.g x hx).1 h
 ·have r:=c.i x hx
  obtain ⟨h1,h2⟩:=row x
  exact ⟨by rw [h1];exact r.k,by rw [h1];exact r.u,by rw [h1,h2];exact r.h⟩
end
inductive Tl where
 | no
 | given (a:Str)
 | ask (y:Str)
 | right (x:Str) (b:Bool)
def tlV:Tl->List (List V)
 | .no=>[]
 | .given a=>[[.str "given",.str a]]
 | .ask y=>[[.str "ask",.str y]]
 | .right x b=>[[.str "right",.str x,.bl b]]
def tlW (wy:Wy) (n:Str):Tl->Wy
 | .ask y=>wyU wy n y (wy n y ++ [none])
 | .right x b=>wyU wy n x (wy n x ++ [some b])
 | .no=>wy
 | .given _=>wy
def tlL (l:Loc) (n:Str):Tl->Loc
 | .right x _=>.on n x
 | .no=>l
 | .given _=>l
 | .ask _=>l
def gvL:Tl->List Str
 | .given a=>[a]
 | .no=>[]
 | .ask _=>[]
 | .right _ _=>[]
def sX (x:Str × Str):Option Str:=if x.1=("asker" : Str) then some x.2 else none
def wa (s:SS):List Str:=s.row.filterMap sX
theorem oG:¬ ("house" : Str)="asker":=by decide +kernel
theorem mI (a:Str):sX (yJ a)=some a:=if_pos rfl
theorem fR (z:Str):sX (hsR z)=none:=if_neg oG
theorem j7 (a:Str) (r:LSS):(yJ a :: r).filterMap sX=a :: r.filterMap sX:=by rw [List.filterMap_cons,mI]
theorem j6 (z:Str) (r:LSS):(hsR z :: r).filterMap sX=r.filterMap sX:=by rw [List.filterMap_cons,fR]
theorem oU {s:SS} {z:Str}:wa { s with row:=s.row ++ [hsR z] }=wa s:=by
 show (s.row ++ [hsR z]).filterMap _=_
 rw [List.filterMap_append,j6]
 exact List.append_nil _
theorem iI {a b:SS} (h1:a.ptr=b.ptr) (h2:a.row=b.row) (h3:a.hold=b.hold) (h4:a.asked=b.asked):a=b:=by
 cases a
 cases b
 simp only at h1 h2 h3 h4
 subst h1 h2 h3 h4
 rfl
theorem nS {s:SS} {a:Str} {rest:LSS} (hp:s.ptr=none) (hh:s.hold=none) (hr:s.row=yJ a :: rest):∃ s',zK s=(s',[[.str "given",.str a]])/\s'.ptr=s.ptr/\s'.row=rest/\s'.hold=some a/\s'.asked=s.asked:=by
 obtain ⟨p,r,h,k⟩:=s
 simp only at hp hh hr
 subst hp hh hr
 exact ⟨⟨none,rest,some a,k⟩,by simp [zK,xX],rfl,rfl,rfl,rfl⟩
theorem nR {s:SS} {x:Str} {rest:LSS} (hp:s.ptr=none) (hh:s.hold=none) (hr:s.row=hsR x :: rest):∃ s',zK s=(s',[[.str "right",.str x,.bl (!rest.isEmpty)]])/\s'.ptr=some x/\s'.row=rest/\s'.hold=s.hold/\s'.asked = !rest.isEmpty:=by
 obtain ⟨p,r,h,k⟩:=s
 simp only at hp hh hr
 subst hp hh hr
 exact ⟨⟨some x,rest,none,!rest.isEmpty⟩,by simp [zK,xX,oG],rfl,rfl,rfl,rfl⟩
theorem gC {s:SS} {y:Str} (hp:s.ptr=some y) (ha:s.asked=false) (hr:s.row.isEmpty=false):∃ s',zK s=(s',[[.str "ask",.str y]])/\s'.ptr=s.ptr/\s'.row=s.row/\s'.hold=s.hold/\s'.asked=true:=by
 obtain ⟨p,r,h,k⟩:=s
 simp only at hp ha hr
 subst hp ha
 exact ⟨⟨some y,r,h,true⟩,by simp [zK,hr],rfl,rfl,rfl,rfl⟩
inductive vI (st:Str->SS) (u v:Str):Str->Prop
 | here:vI st u v v
 | step {w y:Str} (h1:w ≠ u) (h2:w ≠ v) (hp:(st w).ptr=some y) (h:vI st u v y):vI st u v w
open Classical in
def tN (ns:List Str) (st:Str->SS) (u v:Str):Nat:=(ns.filter fun w=>decide (vI st u v w)).length
def rl (ns:List Str) (st:Str->SS):Loc->Nat
 | .at _=>0
 | .on u v=>2 * tN ns st u v + 1
def fS (s:SS):Nat:=match s.ptr with
 | none=>0
 | some _=>if s.asked then (if s.row.isEmpty then 13 else 0) else 1
def pS (s:SS):Nat:=27 * (wa s).length + (if s.hold.isSome then 13 else 0) + fS s
def lw (st:Str->SS) (wy:Wy) (x:Str):Nat:=match (st x).ptr with
 | none=>0
 | some y=>13 * (wy x y).count none
def phi (ns:List Str) (st:Str->SS) (wy:Wy) (l:Loc):Nat:=(ns.map fun x=>pS (st x) + lw st wy x).sum + rl ns st l
theorem tS {ns:List Str} {g g':Str->Nat} {n:Str} (nd:ns.Nodup) (hn:n ∈ ns) (h:∀ z ∈ ns,z ≠ n->g' z=g z):(ns.map g').sum + g n=(ns.map g).sum + g' n:=by
 induction ns with
 | nil=>cases hn
 | cons a r ih=>
  obtain ⟨na,ndr⟩:=List.nodup_cons.mp nd
  rw [List.map_cons,List.map_cons,List.sum_cons,List.sum_cons]
  rcases List.mem_cons.mp hn with e | e
  ·subst e
   have:r.map g'=r.map g:=List.map_congr_left fun z hz=>h z (zC1 _ hz) fun q=>na (q ▸ hz)
   rw [this];omega
  ·have:=ih ndr e fun z hz=>h z (zC1 _ hz)
   have ha:=h a zDH fun q=>na (q ▸ e)
   omega
theorem mZ {ns:List Str} {g g':Str->Nat} {n x:Str} (nd:ns.Nodup) (hn:n ∈ ns) (hx:x ∈ ns) (xn:x ≠ n) (h:∀ z ∈ ns,z ≠ n->z ≠ x->g' z=g z):(ns.map g').sum + (g n + g x)=(ns.map g).sum + (g' n + g' x):=by
 have a:=tS (g:=g) (g':=fun z=>if z=n then g' n else g z) nd hn fun z _ hz=>if_neg hz
 have b:=tS (g:=fun z=>if z=n then g' n else g z) (g':=g') nd hx fun z hz hzx=>by
  by_cases e:z=n
  ·rw [e];exact (if_pos rfl).symm
  ·rw [if_neg e];exact h z hz e hzx
 simp only [if_pos rfl,if_neg xn] at a b
 have a:(ns.map fun z=>if z=n then g' n else g z).sum + g n=(ns.map g).sum + g' n:=a
 omega
theorem vI.congr {st st':Str->SS} {u v:Str} (h:∀ w,(st' w).ptr=(st w).ptr):∀ {w:Str},vI st u v w->vI st' u v w:=fun l=>by
 induction l with
 | here=>exact .here
 | step h1 h2 hp _ ih=>exact .step h1 h2 (by rw [h];exact hp) ih
theorem nG {ns:List Str} {st st':Str->SS} {u v:Str} (h:∀ w,(st' w).ptr=(st w).ptr):tN ns st' u v=tN ns st u v:=by
 unfold tN
 have e:(fun w=>@decide (vI st' u v w) (Classical.propDecidable _))=fun w=>@decide (vI st u v w) (Classical.propDecidable _):=by
  funext w
  rw [show vI st' u v w=vI st u v w from propext ⟨vI.congr fun w=>(h w).symm,vI.congr h⟩]
 rw [e]
theorem pT {ns:List Str} {st st':Str->SS} {l:Loc} (h:∀ w,(st' w).ptr=(st w).ptr):rl ns st' l=rl ns st l:=by
 cases l with
 | «at» r=>rfl
 | on u v=>show 2 * tN ns st' u v + 1=2 * tN ns st u v + 1;rw [nG h]
theorem rR {p q:Str->Bool} {ns:List Str} {n:Str} (hn:n ∈ ns) (qn:q n=true) (pn:p n=false) (h:∀ z,p z=true->q z=true):(ns.filter p).length < (ns.filter q).length:=by
 have le:∀ r:List Str,(r.filter p).length <= (r.filter q).length:=fun r=>by
  induction r with
  | nil=>exact zCX _
  | cons a r ih=>
   rw [List.filter_cons,List.filter_cons]
   cases hp:p a with
   | true=>rw [h a hp];simpa using ih
   | false=>
    cases q a with
    | true=>simp only [Bool.false_eq_true,if_false,if_true,zC9];omega
    | false=>simpa using ih
 induction ns with
 | nil=>cases hn
 | cons a r ih=>
  rw [List.filter_cons,List.filter_cons]
  rcases List.mem_cons.mp hn with e | e
  ·subst e
   rw [qn,pn]
   have:=le r
   simp only [Bool.false_eq_true,if_false,if_true,zC9];omega
  ·have:=ih e
   cases hp:p a with
   | true=>rw [h a hp];simpa using this
   | false=>
    cases q a with
    | true=>simp only [Bool.false_eq_true,if_false,if_true,zC9];omega
    | false=>simpa using this
theorem nF {ns:List Str} {st:Str->SS} {u v:Str} (hu:u ∈ ns) (uv:u ≠ v):tN ns st u v < ns.length:=by
 have nl:¬ vI st u v u:=fun l=>by
  cases l with
  | here=>exact uv rfl
  | step h1=>exact h1 rfl
 have:=rR (p:=fun w=>@decide (vI st u v w) (Classical.propDecidable _)) (q:=fun _=>true) hu rfl (@zC4 _ (Classical.propDecidable _) nl) fun _ _=>rfl
 rw [List.filter_eq_self.mpr fun _ _=>rfl] at this
 exact this
theorem kZ {ns:List Str} {st st':Str->SS} {x n z:Str} (hn:n ∈ ns) (h:∀ w,w ≠ n->(st' w).ptr=(st w).ptr) (px:(st x).ptr=some n) (pz:(st z).ptr=some n) (zx:z ≠ x) (zn:z ≠ n):tN ns st' n z < tN ns st x n:=by
 have key:∀ {w},vI st' n z w->vI st x n w/\w ≠ n:=fun l=>by
  induction l with
  | here=>exact ⟨.step zx zn pz .here,zn⟩
  | @step w y h1 h2 hp _ ih=>
   rw [h w h1] at hp
   have wx:w ≠ x:=fun e=>by
    rw [e,px] at hp
    exact ih.2 (zCV hp).symm
   exact ⟨.step wx h1 hp ih.1,h1⟩
 refine rR (n:=n) hn (@zC3 _ (Classical.propDecidable _) .here) (@zC4 _ (Classical.propDecidable _) fun l=>(key l).2 rfl) fun w hw=>?_
 exact @zC3 _ (Classical.propDecidable _) (key (@of_decide_eq_true _ (Classical.propDecidable _) hw)).1
theorem eM {st:Str->SS} {n:Str} {s s':SS}:stU (stU st n s) n s'=stU st n s':=by
 funext x
 unfold stU
 by_cases e:x=n <;> simp [e]
theorem pO {st:Str->SS} {n:Str}:stU st n (st n)=st:=by
 funext x
 unfold stU
 by_cases e:x=n <;> simp [e]
section
variable {ns As:List Str} {T:Str->Str->Prop} {st:Str->SS} {wy:Wy} {l:Loc}
theorem lX {wy':Wy} {s:SS} {n z:Str} (hz:z ≠ n) (h:∀ y,wy' z y=wy z y):lw (stU st n s) wy' z=lw st wy z:=by
 unfold lw
 rw [zY hz]
 cases (st z).ptr with
 | none=>rfl
 | some y=>show 13 * _=13 * _;rw [h]
theorem qO {wy':Wy} {s:SS} {n:Str} (nd:ns.Nodup) (hn:n ∈ ns) (hw:∀ z y,z ≠ n->wy' z y=wy z y) (hp:s.ptr=(st n).ptr):phi ns (stU st n s) wy' l + (pS (st n) + lw st wy n)=phi ns st wy l + (pS s + lw (stU st n s) wy' n):=by
 have a:=tS (g:=fun x=>pS (st x) + lw st wy x) (g':=fun x=>pS (stU st n s x) + lw (stU st n s) wy' x) nd hn fun z _ hz=>by
  show pS (stU st n s z) + lw (stU st n s) wy' z=_
  rw [lX hz fun y=>hw z y hz,zY hz]
 have b:rl ns (stU st n s) l=rl ns st l:=pT fun w=>by
  by_cases e:w=n
  ·rw [e,zL,hp]
  ·rw [zY e]
 unfold phi
 simp only [zL] at a
 omega
def zA1 (st:Str->SS) (l:Loc) (n:Str) (p p':Nat) (ns:List Str) (st':Str->SS):Tl->Prop
 | .no=>p'=p
 | .given _=>p' + 14 <= p
 | .ask y=>(st n).ptr=some y/\p' <= p + 12
 | .right x _=>l=.at n/\(st n).ptr=none/\(st x).ptr=some n/\x ≠ n/\(∃ r,(st n).row=hsR x :: r)/\p' <= p + rl ns st' (.on n x) + 1
theorem jL (sym:∀ a b,T a b->T b a) (nd:ns.Nodup) (c:xD ns As T st wy l) {n:Str} (hn:n ∈ ns) (fr:∀ x ∈ ns,x ≠ n->oS (st x)) :
  ∃ tl:Tl,(zK (st n)).2=tlV tl/\xD ns As T (stU st n (zK (st n)).1) (tlW wy n tl) (tlL l n tl)/\(∀ x ∈ ns,oS (stU st n (zK (st n)).1 x))/\gvL tl ++ wa (zK (st n)).1=wa (st n)/\zA1 st l n (phi ns st wy l) (phi ns (stU st n (zK (st n)).1) (tlW wy n tl) (tlL l n tl)) ns (stU st n (zK (st n)).1) tl:=by
 have all:∀ {s:SS},oS s->∀ x ∈ ns,oS (stU st n s x):=fun {s} h x hx=>by
  by_cases e:x=n
  ·rw [e,zL];exact h
  ·rw [zY e];exact fr x hx e
 have stay:oS (st n)->zK (st n)=(st n,[])->∃ tl:Tl,(zK (st n)).2=tlV tl/\xD ns As T (stU st n (zK (st n)).1) (tlW wy n tl) (tlL l n tl)/\(∀ x ∈ ns,oS (stU st n (zK (st n)).1 x))/\gvL tl ++ wa (zK (st n)).1=wa (st n)/\zA1 st l n (phi ns st wy l) (phi ns (stU st n (zK (st n)).1) (tlW wy n tl) (tlL l n tl)) ns (stU st n (zK (st n)).1) tl:=fun hf e=>by
  rw [e]
  refine ⟨.no,rfl,by rw [pO];exact c,all hf,rfl,?_⟩
  show phi ns (stU st n (st n)) wy l=_
  rw [pO]
 by_cases re:(st n).row=[]
 ·exact stay (fun q=>absurd re q) (by unfold zK;rw [re];rfl)
 have ree:(st n).row.isEmpty=false:=by
  cases h:(st n).row with
  | nil=>exact absurd h re
  | cons=>rfl
 cases hp:(st n).ptr with
 | none=>
  cases hh:(st n).hold with
  | some a=>exact stay (fun _=>⟨fun _=>by rw [hh];simp,fun q=>absurd hp q⟩) (by unfold zK;rw [ree,hp,hh];rfl)
  | none=>
   obtain ⟨q,rest,hr⟩:=List.exists_cons_of_ne_nil re
   rcases (c.i n hn).k q (by rw [hr];simp) with ⟨a,rfl,ha⟩ | ⟨x,rfl⟩
   ·obtain ⟨s',e,f1,f2,f3,f4⟩:=nS hp hh hr
    rw [e]
    have sl:List.Sublist rest (st n).row:=by rw [hr];exact List.sublist_cons_self _ _
    have r:=c.i n hn
    have na:yJ a ∉ rest:=fun h=>by
     have:=r.u a
     rw [hr,List.count_cons_self] at this
     have:=List.count_pos_iff.mpr h
     omega
    have c':=c.same hn (s:=s') f1 f4 (fun x=>by
      rw [f2,hr,List.count_cons_of_ne]
      exact fun q=>x4 x a q.symm) (fun q=>absurd (f1.trans hp) q) ⟨fun x hx=>r.k x (sl.subset (by rw [<- f2];exact hx)),fun b=>by rw [f2];exact zCZ (sl.count_le _) (r.u b),fun b hb=>by rw [f3] at hb;cases hb;rw [f2];exact ⟨ha,na⟩⟩
    have wr:wa (st n)=a :: wa s':=by
     unfold wa
     rw [hr,j7,f2]
    refine ⟨.given a,rfl,c',all (fun _=>⟨fun _=>by rw [f3];simp,fun q=>absurd (f1.trans hp) q⟩),by rw [wr];rfl,?_⟩
    have ph:=qO (l:=l) (wy:=wy) (wy':=wy) (s:=s') nd hn (fun _ _ _=>rfl) f1
    have l0:lw st wy n=0:=by unfold lw;rw [hp]
    have l1:lw (stU st n s') wy n=0:=by unfold lw;rw [zL,f1,hp]
    have p0:pS (st n)=27 * (wa s').length + 27:=by
     unfold pS fS
     rw [wr,hp,hh,zC9];simp;omega
    have p1:pS s'=27 * (wa s').length + 13:=by
     unfold pS fS
     rw [f1,hp,f3];simp
    show phi ns (stU st n s') wy l + 14 <= phi ns st wy l
    omega
   ·obtain ⟨s',e,f1,f2,f3,f4⟩:=nR hp hh hr
    rw [e]
    obtain ⟨rfl,hx,xn,wn,px,c'⟩:=c.send sym hn hp hh hr
    have es:s' = { st n with ptr:=some x,row:=rest,asked:=!rest.isEmpty }:=iI f1 f2 f3 f4
    have c':xD ns As T (stU st n s') (wyU wy n x (wy n x ++ [some (!rest.isEmpty)])) (.on n x):=by rw [es];exact c'
    have wr:wa s'=wa (st n):=by
     unfold wa
     rw [hr,j6,f2]
    refine ⟨.right x (!rest.isEmpty),rfl,c',all (fun q=>⟨(fun z=>by rw [f1] at z;cases z),fun _=>?_⟩),by rw [wr];rfl,rfl,hp,px,xn,⟨rest,hr⟩,?_⟩
    ·rw [f4]
     rw [f2] at q
     cases rest with
     | nil=>exact absurd rfl q
     | cons=>rfl
    ·have a:=tS (g:=fun y=>pS (st y) + lw st wy y) (g':=fun y=>pS (stU st n s' y) + lw (stU st n s') (wyU wy n x (wy n x ++ [some (!rest.isEmpty)])) y) nd hn fun z _ hz=>by
      show pS (stU st n _ z) + lw (stU st n _) _ z=_
      rw [lX hz fun y=>yI fun q=>hz q.1,zY hz]
     simp only [zL] at a
     have l1:lw (stU st n s') (wyU wy n x (wy n x ++ [some (!rest.isEmpty)])) n=0:=by
      unfold lw
      rw [zL,f1]
      show 13 * (wyU wy n x (wy n x ++ [some (!rest.isEmpty)]) n x).count none=0
      rw [z6,wn];rfl
     have p0:pS (st n)=27 * (wa (st n)).length:=by
      unfold pS fS
      rw [hp,hh];simp
     have p1:pS s' <= 27 * (wa (st n)).length + 1:=by
      unfold pS fS
      rw [wr,f1,f2,f3,f4,hh]
      cases rest <;> simp
     show phi ns (stU st n s') (wyU wy n x (wy n x ++ [some (!rest.isEmpty)])) (.on n x) <= phi ns st wy (.at n) + rl ns (stU st n s') (.on n x) + 1
     unfold phi
     have:rl ns st (.at n)=0:=rfl
     omega
 | some y=>
  cases ha:(st n).asked with
  | true=>exact stay (fun _=>⟨(fun q=>by rw [hp] at q;cases q),fun _=>ha⟩) (by unfold zK;rw [ree,hp,ha];rfl)
  | false=>
   obtain ⟨s',e,f1,f2,f3,f4⟩:=gC hp ha ree
   rw [e]
   obtain ⟨c0,c'⟩:=c.asks hn hp ha
   have es:s' = { st n with asked:=true }:=iI f1 f2 f3 f4
   have c':xD ns As T (stU st n s') (wyU wy n y (wy n y ++ [none])) l:=by rw [es];exact c'
   refine ⟨.ask y,rfl,c',all (fun _=>⟨(fun q=>by rw [f1,hp] at q;cases q),fun _=>f4⟩),by unfold wa;rw [f2];rfl,hp,?_⟩
   have ph:=qO (l:=l) (wy:=wy) (wy':=wyU wy n y (wy n y ++ [none])) (s:=s') nd hn (fun z y' hz=>yI fun q=>hz q.1) f1
   have l0:lw st wy n=0:=by unfold lw;rw [hp];show 13 * _=0;rw [c0]
   have l1:lw (stU st n s') (wyU wy n y (wy n y ++ [none])) n=13:=by
    unfold lw
    rw [zL,f1,hp]
    show 13 * _=13
    rw [z6,List.count_append,c0];rfl
   have p0:pS (st n)=pS s' + 1:=by
    unfold pS fS wa
    rw [f1,f2,f3,f4,hp,ha,ree];simp
   show phi ns (stU st n s') (wyU wy n y (wy n y ++ [none])) l <= phi ns st wy l + 12
   omega
end
structure Sys (ns As:List Str) (T:Str->Str->Prop) (st:Str->SS) (wy:Wy) (l:Loc):Prop where
 c:xD ns As T st wy l
 fr:∀ x ∈ ns,oS (st x)
section
variable {ns As:List Str} {T:Str->Str->Prop} {st:Str->SS} {wy:Wy} {l:Loc}
theorem uA (sym:∀ a b,T a b->T b a) (nd:ns.Nodup) {n:Str} {s1:SS} {wy1:Wy} {l1:Loc} (hn:n ∈ ns) (c1:xD ns As T (stU st n s1) wy1 l1) (fr:∀ x ∈ ns,oS (st x)) :
  ∃ tl:Tl,(zK s1).2=tlV tl/\Sys ns As T (stU st n (zK s1).1) (tlW wy1 n tl) (tlL l1 n tl)/\gvL tl ++ wa (zK s1).1=wa s1/\zA1 (stU st n s1) l1 n (phi ns (stU st n s1) wy1 l1) (phi ns (stU st n (zK s1).1) (tlW wy1 n tl) (tlL l1 n tl)) ns (stU st n (zK s1).1) tl:=by
 obtain ⟨tl,h1,h2,h3,h4,h5⟩:=jL sym nd c1 hn fun x hx e=>by rw [zY e];exact fr x hx
 rw [zL] at h1 h2 h3 h4 h5
 rw [eM] at h2 h3 h5
 exact ⟨tl,h1,⟨h2,h3⟩,h4,h5⟩
theorem i0 {s:SS} {n:Str} (nd:ns.Nodup) (hn:n ∈ ns) (hp:s.ptr=(st n).ptr):phi ns (stU st n s) wy l + pS (st n)=phi ns st wy l + pS s:=by
 have h:=qO (l:=l) (wy:=wy) (wy':=wy) (s:=s) nd hn (fun _ _ _=>rfl) hp
 have e:lw (stU st n s) wy n=lw st wy n:=by unfold lw;rw [zL,hp]
 omega
theorem kU (sym:∀ a b,T a b->T b a) (nd:ns.Nodup) (S:Sys ns As T st wy l) {n a:Str} (hn:n ∈ ns) (ha:a ∈ As) (h1:(st n).hold ≠ some a) (h2:yJ a ∉ (st n).row) :
  ∃ tl l',(zK (z8 (st n) (.want a))).2=tlV tl/\Sys ns As T (stU st n (zK (z8 (st n) (.want a))).1) (tlW wy n tl) l':=by
 have r:=S.c.i n hn
 have c1:=S.c.same hn (s:=z8 (st n) (.want a)) rfl rfl (fun x=>by
   show ((st n).row ++ [yJ a]).count (hsR x)=_
   exact x6 (fun q=>x4 x a q.symm)) (fun q=>(S.c.g n hn).2 q) ⟨fun x hx=>?_,fun b=>?_,fun b hb=>?_⟩
 ·obtain ⟨tl,t1,t2,_⟩:=uA sym nd hn c1 S.fr
  exact ⟨tl,_,t1,t2⟩
 ·rcases zC5.mp (show x ∈ (st n).row ++ [yJ a] from hx) with q | q
  ·exact r.k x q
  ·exact .inl ⟨a,zCR.mp q,ha⟩
 ·show ((st n).row ++ [yJ a]).count (yJ b) <= 1
  by_cases e:a=b
  ·subst e
   rw [List.count_append,List.count_eq_zero.mpr h2]
   simp
  ·rw [x6 (fun q=>e (congrArg Prod.snd q))]
   exact r.u b
 ·obtain ⟨q1,q2⟩:=r.h b hb
  refine ⟨q1,fun q=>?_⟩
  rcases zC5.mp (show yJ b ∈ (st n).row ++ [yJ a] from q) with q | q
  ·exact q2 q
  ·have e:b=a:=congrArg Prod.snd (zCR.mp q)
   exact h1 (by rw [<- e];exact hb)
theorem oY (sym:∀ a b,T a b->T b a) (nd:ns.Nodup) (S:Sys ns As T st wy l) {n a:Str} (hn:n ∈ ns) :
  ∃ tl l',(zK (z8 (st n) (.leave a))).2=tlV tl/\Sys ns As T (stU st n (zK (z8 (st n) (.leave a))).1) (tlW wy n tl) l':=by
 have r:=S.c.i n hn
 have sl:List.Sublist ((st n).row.filter fun x=>decide (x ≠ yJ a)) (st n).row:=List.filter_sublist
 have c1:=S.c.same hn (s:=z8 (st n) (.leave a)) rfl rfl (fun x=>by
   show ((st n).row.filter fun x=>decide (x ≠ yJ a)).count (hsR x)=_
   rw [List.count_filter]
   exact zC3 (x4 x a)) (fun q=>(S.c.g n hn).2 q) ⟨fun x hx=>r.k x (sl.subset hx),fun b=>zCZ (sl.count_le _) (r.u b),fun b hb=>⟨(r.h b hb).1,fun q=>(r.h b hb).2 (sl.subset q)⟩⟩
 obtain ⟨tl,t1,t2,_⟩:=uA sym nd hn c1 S.fr
 exact ⟨tl,_,t1,t2⟩
theorem six {u v:Str} (n6:ns.length <= 6) (hu:u ∈ ns) (uv:u ≠ v):rl ns st (.on u v) <= 11:=by
 have:=nF (st:=st) hu uv
 show 2 * tN ns st u v + 1 <= 11
 omega
theorem kW (sym:∀ a b,T a b->T b a) (nd:ns.Nodup) (n6:ns.length <= 6) (S:Sys ns As T st wy l) {n a:Str} (hn:n ∈ ns) (hh:(st n).hold=some a) :
  ∃ tl l',(zK (z8 (st n) (.done a))).2=tlV tl/\Sys ns As T (stU st n (zK (z8 (st n) (.done a))).1) (tlW wy n tl) l'/\gvL tl ++ wa (zK (z8 (st n) (.done a))).1=wa (st n)/\phi ns (stU st n (zK (z8 (st n) (.done a))).1) (tlW wy n tl) l' + 1 <= phi ns st wy l:=by
 have r:=S.c.i n hn
 have hp:(st n).ptr=none:=by
  cases h:(st n).ptr with
  | none=>rfl
  | some y=>
   have:=(S.c.g n hn).2 (by rw [h];simp)
   rw [hh] at this;cases this
 have c1:=S.c.same hn (s:=z8 (st n) (.done a)) rfl rfl (fun x=>rfl) (fun _=>rfl) ⟨r.k,r.u,fun b hb=>by cases hb⟩
 obtain ⟨tl,t1,t2,t3,t4⟩:=uA sym nd hn c1 S.fr
 refine ⟨tl,_,t1,t2,t3,?_⟩
 have ph:=i0 (l:=l) (wy:=wy) (s:=z8 (st n) (.done a)) nd hn rfl
 have p0:pS (st n)=pS (z8 (st n) (.done a)) + 13:=by
  unfold pS fS
  rw [show (z8 (st n) (.done a)).ptr=(st n).ptr from rfl,hp,hh,show wa (z8 (st n) (.done a))=wa (st n) from rfl,show (z8 (st n) (.done a)).hold=none from rfl]
  simp
 cases tl with
 | no=>have:phi _ _ _ _=phi _ _ _ _:=t4;omega
 | given b=>have:phi _ _ _ _ + 14 <= phi _ _ _ _:=t4;omega
 | ask y=>
  have:=t4.1
  rw [zL,show (z8 (st n) (.done a)).ptr=(st n).ptr from rfl,hp] at this
  cases this
 | right x b=>
  obtain ⟨_,_,_,xn,_,q⟩:=t4
  have:=six (st:=stU st n (zK (z8 (st n) (.done a))).1) n6 hn (Ne.symm xn)
  have q:phi _ _ _ _ <= phi _ _ _ _ + rl _ _ _ + 1:=q
  omega
theorem iH (sym:∀ a b,T a b->T b a) (nd:ns.Nodup) (n6:ns.length <= 6) (S:Sys ns As T st wy l) {n x:Str} {w:List (Option Bool)} (hn:n ∈ ns) (hw:wy x n=none :: w) :
  (st n).ptr ≠ some x/\hsR x ∉ (st n).row/\x ∈ ns/\∃ tl l',(zK (z8 (st n) (.ask x))).2=tlV tl/\Sys ns As T (stU st n (zK (z8 (st n) (.ask x))).1) (tlW (wyU wy x n w) n tl) l'/\gvL tl ++ wa (zK (z8 (st n) (.ask x))).1=wa (st n)/\phi ns (stU st n (zK (z8 (st n) (.ask x))).1) (tlW (wyU wy x n w) n tl) l' + 1 <= phi ns st wy l:=by
 obtain ⟨rfl,h1,h2,c1⟩:=S.c.asked hn hw
 have c1:xD ns As T (stU st n (z8 (st n) (.ask x))) (wyU wy x n []) l:=c1
 obtain ⟨hx,px⟩:=S.c.w x n (by rw [hw];simp)
 have xn:x ≠ n:=fun e=>by subst e;exact h1 px
 obtain ⟨tl,t1,t2,t3,t4⟩:=uA sym nd hn c1 S.fr
 refine ⟨h1,h2,hx,tl,_,t1,t2,by rw [t3];exact oU,?_⟩
 have two:=mZ (g:=fun y=>pS (st y) + lw st wy y) (g':=fun y=>pS (stU st n (z8 (st n) (.ask x)) y) + lw (stU st n (z8 (st n) (.ask x))) (wyU wy x n []) y) nd hn hx xn fun z _ zn zx=>by
  show pS (stU st n _ z) + lw (stU st n _) _ z=_
  rw [lX zn fun y=>yI fun q=>zx q.1,zY zn]
 simp only [zL,zY xn] at two
 have rlc:rl ns (stU st n (z8 (st n) (.ask x))) l=rl ns st l:=pT fun w=>by
  by_cases e:w=n
  ·rw [e,zL];rfl
  ·rw [zY e]
 have ln:lw (stU st n (z8 (st n) (.ask x))) (wyU wy x n []) n=lw st wy n:=by
  unfold lw
  rw [zL,show (z8 (st n) (.ask x)).ptr=(st n).ptr from rfl]
  cases (st n).ptr with
  | none=>rfl
  | some y=>show 13 * _=13 * _;rw [yI fun q=>xn q.1.symm]
 have lx0:lw st wy x=13:=by unfold lw;rw [px];show 13 * _=13;rw [hw];rfl
 have lx1:lw (stU st n (z8 (st n) (.ask x))) (wyU wy x n []) x=0:=by
  unfold lw
  rw [zY xn,px]
  show 13 * _=0
  rw [z6];rfl
 have pn:pS (z8 (st n) (.ask x)) <= pS (st n):=by
  unfold pS fS
  rw [show wa (z8 (st n) (.ask x))=wa (st n) from oU,show (z8 (st n) (.ask x)).ptr=(st n).ptr from rfl,show (z8 (st n) (.ask x)).hold=(st n).hold from rfl,show (z8 (st n) (.ask x)).asked=(st n).asked from rfl,show (z8 (st n) (.ask x)).row=(st n).row ++ [hsR x] from rfl]
  cases (st n).ptr with
  | none=>exact zCX _
  | some y=>
   have e:((st n).row ++ [hsR x]).isEmpty=false:=by cases (st n).row <;> rfl
   simp only [e]
   cases (st n).asked <;> simp
 have ph:phi ns (stU st n (z8 (st n) (.ask x))) (wyU wy x n []) l + 13 <= phi ns st wy l:=by
  unfold phi
  omega
 cases tl with
 | no=>have:phi _ _ _ _=phi _ _ _ _:=t4;show phi _ _ _ _ + 1 <= _;omega
 | given b=>have:phi _ _ _ _ + 14 <= phi _ _ _ _:=t4;show phi _ _ _ _ + 1 <= _;omega
 | ask y=>have:phi _ _ _ _ <= phi _ _ _ _ + 12:=t4.2;show phi _ _ _ _ + 1 <= _;omega
 | right z b=>
  obtain ⟨_,_,_,zn,_,q⟩:=t4
  have:=six (st:=stU st n (zK (z8 (st n) (.ask x))).1) n6 hn (Ne.symm zn)
  have q:phi _ _ _ _ <= phi _ _ _ _ + rl _ _ _ + 1:=q
  show phi _ _ _ _ + 1 <= _
  omega
theorem kX (sym:∀ a b,T a b->T b a) (nd:ns.Nodup) (n6:ns.length <= 6) (S:Sys ns As T st wy l) {n x:Str} {b:Bool} {w:List (Option Bool)} (hw:wy x n=some b :: w) :
  (st n).ptr=some x/\x ∈ ns/\n ∈ ns/\∃ tl l',(zK (z8 (st n) (.come x b))).2=tlV tl/\Sys ns As T (stU st n (zK (z8 (st n) (.come x b))).1) (tlW (wyU wy x n w) n tl) l'/\gvL tl ++ wa (zK (z8 (st n) (.come x b))).1=wa (st n)/\phi ns (stU st n (zK (z8 (st n) (.come x b))).1) (tlW (wyU wy x n w) n tl) l' + 1 <= phi ns st wy l:=by
 have dd:z8 (st n) (.come x b)=yZ (st n) x b:=rfl
 rw [dd]
 obtain ⟨rfl,hn,hx,pn,as,hh,px,xn,wn,sw,c1⟩:=S.c.come hw
 obtain ⟨tl,t1,t2,t3,t4⟩:=uA sym nd hn c1 S.fr
 have wac:wa (yZ (st n) x b)=wa (st n):=by
  cases b with
  | false=>rfl
  | true=>exact oU
 refine ⟨pn,hx,hn,tl,_,t1,t2,by rw [t3];exact wac,?_⟩
 have two:=mZ (g:=fun y=>pS (st y) + lw st wy y) (g':=fun y=>pS (stU st n (yZ (st n) x b) y) + lw (stU st n (yZ (st n) x b)) (wyU wy x n w) y) nd hn hx xn fun z _ zn zx=>by
  show pS (stU st n _ z) + lw (stU st n _) _ z=_
  rw [lX zn fun y=>yI fun q=>zx q.1,zY zn]
 simp only [zL,zY xn] at two
 have ln0:lw st wy n=0:=by unfold lw;rw [pn];show 13 * _=0;rw [wn];rfl
 have ln1:lw (stU st n (yZ (st n) x b)) (wyU wy x n w) n=0:=by unfold lw;rw [zL];rfl
 have lx:lw (stU st n (yZ (st n) x b)) (wyU wy x n w) x=lw st wy x:=by
  unfold lw
  rw [zY xn,px]
  show 13 * _=13 * _
  rw [z6,hw,List.count_cons_of_ne (by simp)]
 have p0:pS (st n)=pS (yZ (st n) x b) + fS (st n):=by
  unfold pS
  rw [wac,show (yZ (st n) x b).hold=(st n).hold from rfl,show fS (yZ (st n) x b)=0 from rfl]
  omega
 have ph:phi ns (stU st n (yZ (st n) x b)) (wyU wy x n w) (.at n) + fS (st n) + rl ns st (.on x n)=phi ns st wy (.on x n):=by
  unfold phi
  show _ + 0 + _ + _=_
  omega
 have big:1 <= rl ns st (.on x n):=by show 1 <= 2 * _ + 1;omega
 cases tl with
 | no=>have:phi _ _ _ _=phi _ _ _ _:=t4;show phi _ _ _ _ + 1 <= _;omega
 | given b=>have:phi _ _ _ _ + 14 <= phi _ _ _ _:=t4;show phi _ _ _ _ + 1 <= _;omega
 | ask y=>
  have:=t4.1
  rw [zL] at this
  cases this
 | right z b'=>
  obtain ⟨_,_,pz,zn,⟨r,hr⟩,q⟩:=t4
  rw [zY zn] at pz
  rw [zL] at hr
  have q:phi _ _ _ _ <= phi _ _ _ _ + rl ns (stU st n (zK (yZ (st n) x b)).1) (.on n z) + 1:=q
  show phi _ _ _ _ + 1 <= _
  by_cases re:(st n).row=[]
  ·have f13:fS (st n)=13:=by unfold fS;rw [pn,as,re];rfl
   have:=six (st:=stU st n (zK (yZ (st n) x b)).1) n6 hn (Ne.symm zn)
   omega
  ·have zr:hsR z ∈ (st n).row:=by
    obtain ⟨q0,r0,h0⟩:=List.exists_cons_of_ne_nil re
    have:(yZ (st n) x b).row=q0 :: (if b then r0 ++ [hsR x] else r0):=by
     show (if b then (st n).row ++ [hsR x] else (st n).row)=_
     rw [h0]
     cases b <;> rfl
    rw [this] at hr
    injection hr with e _
    rw [h0,e];simp
   have zx:z ≠ x:=fun e=>S.c.j n hn z zr (by rw [e])
   have:=kZ (ns:=ns) (st':=stU st n (zK (yZ (st n) x b)).1) hn (fun w hw=>by rw [zY hw]) px pz zx zn
   have e1:rl ns (stU st n (zK (yZ (st n) x b)).1) (.on n z)=2 * tN ns (stU st n (zK (yZ (st n) x b)).1) n z + 1:=rfl
   have e2:rl ns st (.on x n)=2 * tN ns st x n + 1:=rfl
   omega
theorem Sys.rest (S:Sys ns As T st wy l) (nw:∀ x y,wy x y=[]) (nh:∀ x ∈ ns,(st x).hold=none):∀ x ∈ ns,(st x).row=[]:=by
 obtain ⟨r,rfl⟩:∃ r,l=.at r:=by
  cases l with
  | «at» r=>exact ⟨r,rfl⟩
  | on u v=>
   obtain ⟨_,_,_,_,_,_,_,b,h⟩:=S.c.wh
   rw [nw] at h;cases h
 obtain ⟨d,hd⟩:=S.c.rk
 have key:∀ k x,d x < k->x ∈ ns->(st x).row=[]:=fun k=>by
  induction k with
  | zero=>intro x h;omega
  | succ k ih=>
   intro x hk hx
   refine Classical.byContradiction fun ne=>?_
   obtain ⟨f1,f2⟩:=S.fr x hx ne
   cases hp:(st x).ptr with
   | none=>exact f1 hp (nh x hx)
   | some y=>
    have e:=S.c.e x hx y hp
    rw [f2 (by rw [hp];simp)] at e
    unfold wV at e
    rw [nw,show goB (.at r) y x=0 from rfl] at e
    have pos:0 < (st y).row.count (hsR x):=by
     have:0 + (st y).row.count (hsR x) + 0=1:=e
     omega
    have hy:=(S.c.b x hx y hp).1
    have:=hd x hx y hp (fun q=>q)
    rw [ih y (by omega) hy] at pos
    cases pos
 exact fun x hx=>key (d x + 1) x (Nat.lt_succ_self _) hx
theorem uJ:∀ {zs ys:List Str},zs.Nodup->(∀ z ∈ zs,z ∈ ys)->zs.length <= ys.length
 | [],_,_,_=>zCY _
 | z :: zs,ys,nd,sub=>by
  have hz:=sub z zDH
  have nd':=List.nodup_cons.mp nd
  have ih:=uJ (zs:=zs) (ys:=ys.erase z) nd'.2 fun y hy=>(List.mem_erase_of_ne fun e=>nd'.1 (by rw [<- e];exact hy)).mpr (sub y (zC1 _ hy))
  rw [List.length_erase_of_mem hz] at ih
  have:=List.length_pos_of_mem hz
  rw [zC9];omega
theorem j5 {s:SS} {a:Str} (k:∀ x ∈ s.row,(∃ a,x=yJ a/\a ∈ As) \/ ∃ z,x=hsR z):a ∈ wa s ↔ yJ a ∈ s.row:=by
 unfold wa
 rw [List.mem_filterMap]
 constructor
 ·rintro ⟨x,hx,e⟩
  rcases k x hx with ⟨b,rfl,_⟩ | ⟨z,rfl⟩
  ·rw [mI] at e
   cases e
   exact hx
  ·rw [fR] at e;cases e
 ·intro h
  exact ⟨_,h,mI a⟩
theorem oN:∀ (r:LSS) (a:Str),(∀ x ∈ r,(∃ a,x=yJ a) \/ ∃ z,x=hsR z)->(r.filterMap sX).count a=r.count (yJ a)
 | [],_,_=>rfl
 | x :: r,a,k=>by
  have ih:=oN r a fun y hy=>k y (zC1 _ hy)
  rcases k x zDH with ⟨b,rfl⟩ | ⟨z,rfl⟩
  ·rw [j7,List.count_cons,List.count_cons,ih]
   have:(b == a)=(yJ b == yJ a):=by
    by_cases e:b=a
    ·rw [e];simp
    ·have:¬ yJ b=yJ a:=fun q=>e (congrArg Prod.snd q)
     rw [beq_eq_false_iff_ne.mpr e,beq_eq_false_iff_ne.mpr this]
   rw [this]
  ·rw [j6,List.count_cons_of_ne (x4 z a),ih]
theorem bK (a2:As.length <= 2) {s:SS} (r:kP As s):pS s <= 67:=by
 have nd:(wa s).Nodup:=List.nodup_iff_count.mpr fun a=>by
  unfold wa
  rw [oN s.row a fun x hx=>(r.k x hx).imp (fun ⟨b,e,_⟩=>⟨b,e⟩) id]
  exact r.u a
 have sub:∀ a ∈ wa s,a ∈ As:=fun a h=>by
  have:=(j5 r.k).mp h
  rcases r.k _ this with ⟨b,e,hb⟩ | ⟨z,e⟩
  ·rw [show a=b from congrArg Prod.snd e];exact hb
  ·exact absurd e.symm (x4 z a)
 have f13:fS s <= 13:=by
  unfold fS
  split
  ·omega
  ·split
   ·split <;> omega
   ·omega
 unfold pS
 cases hh:s.hold with
 | none=>
  have:=uJ nd sub
  simp only [Option.isSome_none,Bool.false_eq_true,if_false]
  omega
 | some a=>
  obtain ⟨ha,na⟩:=r.h a hh
  have:=uJ (zs:=a :: wa s) (ys:=As) (List.nodup_cons.mpr ⟨fun h=>na ((j5 r.k).mp h),nd⟩) fun z hz=>by
   rcases List.mem_cons.mp hz with e | e
   ·rw [e];exact ha
   ·exact sub z e
  rw [zC9] at this
  simp only [Option.isSome_some,if_true]
  omega
theorem zB4 (c:xD ns As T st wy l) (x:Str):lw st wy x <= 13:=by
 unfold lw
 cases (st x).ptr with
 | none=>exact zCY _
 | some y=>
  show 13 * (wy x y).count none <= 13
  rcases c.sh x y with h | h | ⟨b,h⟩ | h <;> rw [h]
  ·exact zCY _
  ·exact zCX _
  ·show 13 * [some b].count none <= 13
   simp
  ·exact zCX _
theorem iG {g:Str->Nat} {k:Nat}:∀ {ns:List Str},(∀ x ∈ ns,g x <= k)->(ns.map g).sum <= k * ns.length
 | [],_=>zCX _
 | a :: r,h=>by
  have:=iG (ns:=r) fun x hx=>h x (zC1 _ hx)
  have:=h a zDH
  rw [List.map_cons,List.sum_cons,zC9,Nat.mul_add];omega
theorem aN (n6:ns.length <= 6) (a2:As.length <= 2) (S:Sys ns As T st wy l):phi ns st wy l <= 491:=by
 have a:=iG (ns:=ns) (g:=fun x=>pS (st x) + lw st wy x) (k:=80) fun x hx=>by
  have:=bK a2 (S.c.i x hx)
  have:=zB4 S.c x
  omega
 have b:rl ns st l <= 11:=by
  cases l with
  | «at» r=>exact zCY _
  | on u v=>exact six n6 S.c.wh.1 S.c.wh.2.2.1
 unfold phi
 omega
end
end K16
namespace L2
open PySem PySem.Spec PyProof.Rows
section
variable {prog:Program} {w:World} {A:Around} {E:VSP} {s:Shared}
end
section
variable {X:Cx} {pos:Pos}
end
section
variable {X:Cx}
end
section
variable {dc:Option Addr} {M:Model} {A:Around} {E:VSP} {s:Shared} {B:Heap} {env:Env} {outer:List Env} {L e C:Addr} {Q:Unit->Shared->Prop}
end
section
variable {P:Program} {w:World} {H H':Hp} {h h' B:Heap} {a:Addr} {o:HO}
end
section
variable {P:Program} {w:World} {K:W.Frag} {mg:Str->Option Value} {base:Heap} {N:List Str} {qual:Str} {scope:Scope} {f:Addr} {cd:Value} {A:Around} {outer:List Env} {s0:Shared} {H0:Hp} {E:XK}
end
section
variable {X:Cx} {E:XK} {x:Str} {C:Addr}
end
section
variable {P:Program} {w:World} {K:W.Frag} {mg:Str->Option Value} {base:Heap}
end
section
variable {X:Cx} {k:Nat} {C:Addr} {ps:List Str} {sp:Sp} {E:XK} {x m:Str} {p pos apos:Pos} {o e:Expr} {es:List Expr} {ta:TE} {t:TA}
end
section
variable {X:Cx} {qp:LAO} {σ:St} {H:Hp} {s:Shared}
end
end L2
namespace L2
open PySem PySem.Spec PyProof.Rows PySem.W
section
variable {prog:Program} {w:World} {A:Around} {E:VSP} {K:Frag} {x C:Addr} {ox:Obj} {od:Option Obj} {h:Heap} {g:Array GenState} {d:Drawn} {t:Nat} {os:OsState}
end
section
variable {X:Cx}
end
end L2
namespace L2
open PySem PySem.Spec PyProof.Rows
section
variable {prog:Program} {w:World} {A:Around} {E:VSP} {s:Shared}
end
section
variable {X:Cx} {tg:Expr} {hx:Addr}
end
section
variable {X:Cx} {es es1:List Expr} {t t1:TA}
end
section
variable {X:Cx}
end
end L2
namespace L2
open PySem PySem.Spec PyProof.Rows PySem.Builtin.Str
end L2
namespace PySem.SeqAt
open AutoSeq1 (wpAny_loadPart')
open MeetsSeq
end PySem.SeqAt
namespace L2
open PySem PySem.Spec PyProof.Rows
section
variable {X:Cx}
end
end L2
namespace HT
open PySem PySem.Spec PyProof.Rows L2
section
variable {prog:Program} {w:World} {A:Around} {E:Value->Shared->Prop} {s:Shared}
end
end HT
namespace L2
open PySem PySem.Spec PyProof.Rows
section
variable {X:Cx} {e:Expr} {te:TE} {pos p1 p2 p3:Pos} {j1:Nat}
end
end L2
namespace L2
open PySem PySem.Spec PyProof.Rows PySem.W
def evK {α:Type} (lt:Nat->Nat->Bool):KasT α->α
 | .ret a=>a
 | .ask i j k=>evK lt (k (lt i j))
theorem vG {α β:Type} (lt:Nat->Nat->Bool) (f:α->KasT β) (t:KasT α):evK lt (t.bind f)=evK lt (f (evK lt t)):=by
 induction t with
 | ret a=>rfl
 | ask i j k ih=>exact ih (lt i j)
structure LtO (lt:Nat->Nat->Bool):Prop where
 asym:∀ i j,lt i j=true->lt j i=false
 trn:∀ i j k,lt j i=false->lt k j=false->lt k i=false
section
variable {lt:Nat->Nat->Bool}
abbrev gA (p:Array Nat) (i:Nat):Nat:=p.getD i 0
def leK (lt:Nat->Nat->Bool) (i j:Nat):Prop:=lt j i=false
def Up (lt:Nat->Nat->Bool) (p:Array Nat) (k:Nat):Prop:=∀ i j,i <= j->j < k->leK lt (gA p i) (gA p j)
def Dn (lt:Nat->Nat->Bool) (p:Array Nat) (k:Nat):Prop:=∀ i j,i <= j->j < k->leK lt (gA p j) (gA p i)
theorem yN (O:LtO lt) (i:Nat):leK lt i i:=by
 unfold leK
 cases e:lt i i with
 | false=>rfl
 | true=>exact absurd (O.asym i i e) (by rw [e];simp)
theorem yL (O:LtO lt) {i j k:Nat} (a:leK lt i j) (b:leK lt j k):leK lt i k:=O.trn i j k a b
theorem qT (O:LtO lt) {i j:Nat} (h:lt i j=true):leK lt i j:=O.asym i j h
theorem sR {p:Array Nat} {i j:Nat} (hj:j <= p.size) (k:Nat):gA (kas_rev p i j) k=if i <= k/\k < j then gA p (i + j - 1 - k) else gA p k:=by
 unfold gA kas_rev
 rw [zDN,zDN,zDN,getElem?_mirror_all hj]
 split <;> rfl
theorem gZ {p:Array Nat} {k l:Nat} (hk:k < p.size) (hl:l <= k) (x:Nat):gA (bubble p k (k - l)) x=if x=l then gA p k else if l < x/\x <= k then gA p (x - 1) else gA p x:=by
 unfold gA
 rw [zDN,zDN,zDN,zDN,getElem?_bubble hk (k - l) (by omega)]
 rw [show k - (k - l)=l by omega]
 repeat' split
 all_goals first | rfl | omega
theorem sE (p:Array Nat) (i j:Nat):(kas_rev p i j).size=p.size:=mirror_size _ _ _ _
theorem xL (p:Array Nat) (i j:Nat):(kas_rev p i j).Perm p:=mirror_perm _ _ _ _
theorem bV (O:LtO lt) (p:Array Nat):Up lt p 1:=fun i j h1 h2=>by
 have:i=j:=by omega
 rw [this];exact yN O _
theorem Up.more (O:LtO lt) {p:Array Nat} {n:Nat} (h:Up lt p n) (h1:1 <= n) (e:leK lt (gA p (n - 1)) (gA p n)):Up lt p (n + 1):=fun i j hij hj=>by
 by_cases hn:j < n
 ·exact h i j hij hn
 ·have ej:j=n:=by omega
  subst ej
  by_cases hi:i < j
  ·exact yL O (h i (j - 1) (by omega) (by omega)) e
  ·have:i=j:=by omega
   rw [this];exact yN O _
theorem Dn.more (O:LtO lt) {p:Array Nat} {n:Nat} (h:Dn lt p n) (h1:1 <= n) (e:leK lt (gA p n) (gA p (n - 1))):Dn lt p (n + 1):=fun i j hij hj=>by
 by_cases hn:j < n
 ·exact h i j hij hn
 ·have ej:j=n:=by omega
  subst ej
  by_cases hi:i < j
  ·exact yL O e (h i (j - 1) (by omega) (by omega))
  ·have:i=j:=by omega
   rw [this];exact yN O _
theorem fW (O:LtO lt) (p:Array Nat):∀ (f n:Nat),1 <= n->Up lt p n->n <= evK lt (kas_asc p f n)/\evK lt (kas_asc p f n) <= n + f/\Up lt p (evK lt (kas_asc p f n)) /\
  (evK lt (kas_asc p f n) < n + f->lt (gA p (evK lt (kas_asc p f n))) (gA p (evK lt (kas_asc p f n) - 1))=true):=by
 intro f
 induction f with
 | zero=>exact fun n h1 h=>⟨zCX _,zCX _,h,fun z=>absurd z (Nat.lt_irrefl _)⟩
 | succ f ih=>
  intro n h1 h
  have e:evK lt (kas_asc p (f + 1) n)=evK lt (if lt (gA p n) (gA p (n - 1))=true then .ret n else kas_asc p f (n + 1)):=rfl
  rw [e]
  cases c:lt (gA p n) (gA p (n - 1)) with
  | true=>
   rw [if_pos rfl]
   exact ⟨zCX _,Nat.le_add_right _ _,h,fun _=>c⟩
  | false=>
   rw [if_neg (by simp)]
   obtain ⟨a1,a2,a3,a4⟩:=ih (n + 1) (by omega) (h.more O h1 c)
   exact ⟨by omega,by omega,a3,fun z=>a4 (by omega)⟩
def EqS (lt:Nat->Nat->Bool) (p:Array Nat) (n q:Nat):Prop:=∀ i,n - (q + 1) <= i->i < n->leK lt (gA p i) (gA p (n - 1))/\leK lt (gA p (n - 1)) (gA p i)
theorem lS (O:LtO lt) {p:Array Nat} {n q:Nat} (hn:n <= p.size) (hq:q + 1 <= n) (h:EqS lt p n q) (x:Nat):leK lt (gA (kas_rev p (n - (q + 1)) n) x) (gA p x)/\leK lt (gA p x) (gA (kas_rev p (n - (q + 1)) n) x):=by
 rw [sR hn]
 split
 ·next hx=>
  obtain ⟨a1,a2⟩:=h x hx.1 hx.2
  obtain ⟨b1,b2⟩:=h (n - (q + 1) + n - 1 - x) (by omega) (by omega)
  exact ⟨yL O b1 a2,yL O a1 b2⟩
 ·exact ⟨yN O _,yN O _⟩
theorem fF (O:LtO lt) {p:Array Nat} {n q k:Nat} (hn:n <= p.size) (hq:q + 1 <= n) (h:EqS lt p n q) (d:Dn lt p k):Dn lt (kas_rev p (n - (q + 1)) n) k:=fun i j hij hj=>
 yL O (lS O hn hq h j).1 (yL O (d i j hij hj) (lS O hn hq h i).2)
theorem cH (O:LtO lt):∀ (f:Nat) (p:Array Nat) (n q:Nat),q + 1 <= n->n + f <= p.size->Dn lt p n->EqS lt p n q ->
  (evK lt (kas_desc f p n q)).1.Perm p/\n <= (evK lt (kas_desc f p n q)).2.1/\(evK lt (kas_desc f p n q)).2.1 <= n + f/\Dn lt (evK lt (kas_desc f p n q)).1 (evK lt (kas_desc f p n q)).2.1 /\
  (evK lt (kas_desc f p n q)).2.2 + 1 <= (evK lt (kas_desc f p n q)).2.1/\EqS lt (evK lt (kas_desc f p n q)).1 (evK lt (kas_desc f p n q)).2.1 (evK lt (kas_desc f p n q)).2.2:=by
 intro f
 induction f with
 | zero=>exact fun p n q h1 h2 h3 h4=>⟨.refl _,zCX _,zCX _,h3,h1,h4⟩
 | succ f ih=>
  intro p n q h1 h2 h3 h4
  have e:evK lt (kas_desc (f + 1) p n q)=evK lt (if lt (gA p n) (gA p (n - 1))=true then (if q > 0 then kas_desc f (kas_rev p (n - (q + 1)) n) (n + 1) 0 else kas_desc f p (n + 1) 0)
   else .ask (gA p (n - 1)) (gA p n) fun d=>if d=true then .ret (p,n,q) else kas_desc f p (n + 1) (q + 1)):=rfl
  rw [e]
  have one:∀ p:Array Nat,EqS lt p (n + 1) 0:=fun p i h1 h2=>by
   have:i=n + 1 - 1:=by omega
   rw [this];exact ⟨yN O _,yN O _⟩
  cases c:lt (gA p n) (gA p (n - 1)) with
  | true=>
   rw [if_pos rfl]
   have d1:=h3.more O (by omega) (qT O c)
   by_cases hq:q > 0
   ·rw [if_pos hq]
    obtain ⟨a1,a2,a3,a4,a5,a6⟩:=ih (kas_rev p (n - (q + 1)) n) (n + 1) 0 (by omega) (by rw [sE];omega) (fF O (by omega) h1 h4 d1) (one _)
    exact ⟨a1.trans (xL _ _ _),by omega,by omega,a4,a5,a6⟩
   ·rw [if_neg hq]
    obtain ⟨a1,a2,a3,a4,a5,a6⟩:=ih p (n + 1) 0 (by omega) (by omega) d1 (one _)
    exact ⟨a1,by omega,by omega,a4,a5,a6⟩
  | false=>
   rw [if_neg (by simp)]
   show (evK lt (if lt (gA p (n - 1)) (gA p n)=true then .ret (p,n,q) else kas_desc f p (n + 1) (q + 1))).1.Perm p/\_
   show _/\n <= (evK lt (if lt (gA p (n - 1)) (gA p n)=true then .ret (p,n,q) else kas_desc f p (n + 1) (q + 1))).2.1/\(evK lt (if lt (gA p (n - 1)) (gA p n)=true then .ret (p,n,q) else kas_desc f p (n + 1) (q + 1))).2.1 <= _/\Dn lt (evK lt (if lt (gA p (n - 1)) (gA p n)=true then .ret (p,n,q) else kas_desc f p (n + 1) (q + 1))).1 (evK lt (if lt (gA p (n - 1)) (gA p n)=true then .ret (p,n,q) else kas_desc f p (n + 1) (q + 1))).2.1/\(evK lt (if lt (gA p (n - 1)) (gA p n)=true then .ret (p,n,q) else kas_desc f p (n + 1) (q + 1))).2.2 + 1 <= (evK lt (if lt (gA p (n - 1)) (gA p n)=true then .ret (p,n,q) else kas_desc f p (n + 1) (q + 1))).2.1/\EqS lt (evK lt (if lt (gA p (n - 1)) (gA p n)=true then .ret (p,n,q) else kas_desc f p (n + 1) (q + 1))).1 (evK lt (if lt (gA p (n - 1)) (gA p n)=true then .ret (p,n,q) else kas_desc f p (n + 1) (q + 1))).2.1 (evK lt (if lt (gA p (n - 1)) (gA p n)=true then .ret (p,n,q) else kas_desc f p (n + 1) (q + 1))).2.2
   cases d:lt (gA p (n - 1)) (gA p n) with
   | true=>
    rw [if_pos rfl]
    exact ⟨.refl _,zCX _,Nat.le_add_right _ _,h3,h1,h4⟩
   | false=>
    rw [if_neg (by simp)]
    have es:EqS lt p (n + 1) (q + 1):=fun i g1 g2=>by
     rw [Nat.add_sub_cancel]
     by_cases hi:i=n
     ·rw [hi];exact ⟨yN O _,yN O _⟩
     ·obtain ⟨b1,b2⟩:=h4 i (by omega) (by omega)
      exact ⟨yL O b1 c,yL O d b2⟩
    obtain ⟨a1,a2,a3,a4,a5,a6⟩:=ih p (n + 1) (q + 1) (by omega) (by omega) (h3.more O (by omega) d) es
    exact ⟨a1,by omega,by omega,a4,a5,a6⟩
theorem j9 {p:Array Nat} {n:Nat} (hn:n <= p.size) (d:Dn lt p n):Up lt (kas_rev p 0 n) n:=fun i j hij hj=>by
 rw [sR hn,sR hn,if_pos ⟨zCY _,by omega⟩,if_pos ⟨zCY _,hj⟩]
 exact d _ _ (by omega) (by omega)
theorem mX (O:LtO lt) {p:Array Nat} {n nrem:Nat} (h1:1 <= n) (hn:n <= nrem) (hz:nrem <= p.size) (d:Dn lt p n) :
  (evK lt (kas_tail3 n nrem p)).2.Perm p/\1 <= (evK lt (kas_tail3 n nrem p)).1/\(evK lt (kas_tail3 n nrem p)).1 <= nrem/\Up lt (evK lt (kas_tail3 n nrem p)).2 (evK lt (kas_tail3 n nrem p)).1:=by
 unfold kas_tail3
 rw [vG]
 obtain ⟨a1,a2,a3,_⟩:=fW O (kas_rev p 0 n) (nrem - n) n h1 (j9 (by omega) d)
 exact ⟨xL _ _ _,zCZ h1 a1,zCZ a2 (by omega),a3⟩
theorem tL (O:LtO lt) {p:Array Nat} {n nrem:Nat} (h1:1 <= n) (hn:n + 1 <= nrem) (hz:nrem <= p.size) (d:Dn lt p (n + 1)) :
  (evK lt (kas_descPart n nrem p)).2.Perm p/\1 <= (evK lt (kas_descPart n nrem p)).1/\(evK lt (kas_descPart n nrem p)).1 <= nrem/\Up lt (evK lt (kas_descPart n nrem p)).2 (evK lt (kas_descPart n nrem p)).1:=by
 unfold kas_descPart
 rw [vG]
 obtain ⟨a1,a2,a3,a4,a5,a6⟩:=cH O (nrem - (n + 1)) p (n + 1) 0 (by omega) (by omega) d (fun i g1 g2=>by
  have:i=n + 1 - 1:=by omega
  rw [this];exact ⟨yN O _,yN O _⟩)
 generalize evK lt (kas_desc (nrem - (n + 1)) p (n + 1) 0)=r at a1 a2 a3 a4 a5 a6 ⊢
 have hs:=a1.size_eq
 by_cases hq:r.2.2 > 0
 ·rw [if_pos hq]
  obtain ⟨b1,b2,b3,b4⟩:=mX O (p:=kas_rev r.1 (r.2.1 - (r.2.2 + 1)) r.2.1) (n:=r.2.1) (nrem:=nrem) (by omega) (by omega) (by rw [sE];omega) (fF O (by omega) a5 a6 a4)
  exact ⟨(b1.trans (xL _ _ _)).trans a1,b2,b3,b4⟩
 ·rw [if_neg hq]
  obtain ⟨b1,b2,b3,b4⟩:=mX O (p:=r.1) (n:=r.2.1) (nrem:=nrem) (by omega) (by omega) (by omega) a4
  exact ⟨b1.trans a1,b2,b3,b4⟩
theorem fN (O:LtO lt) {p:Array Nat} {nrem:Nat} (h1:1 <= nrem) (hz:nrem <= p.size) :
  (evK lt (kas_count nrem p)).2.Perm p/\1 <= (evK lt (kas_count nrem p)).1/\(evK lt (kas_count nrem p)).1 <= nrem/\Up lt (evK lt (kas_count nrem p)).2 (evK lt (kas_count nrem p)).1:=by
 unfold kas_count
 rw [vG]
 obtain ⟨a1,a2,a3,a4⟩:=fW O p (nrem - 1) 1 (zCX _) (bV O p)
 generalize evK lt (kas_asc p (nrem - 1) 1)=m at a1 a2 a3 a4 ⊢
 by_cases hm:m=nrem
 ·rw [if_pos (by simpa using hm)]
  exact ⟨.refl _,a1,by show m <= nrem;omega,a3⟩
 ·rw [if_neg (by simpa using hm)]
  have c:=a4 (by omega)
  by_cases h2:m > 1
  ·rw [if_pos h2]
   have e:evK lt (KasT.ask (gA p 0) (gA p (m - 1)) fun c=>if c=true then .ret (m,p) else kas_descPart m nrem (kas_rev p 0 m))=evK lt (if lt (gA p 0) (gA p (m - 1))=true then .ret (m,p) else kas_descPart m nrem (kas_rev p 0 m)):=rfl
   rw [e]
   cases d:lt (gA p 0) (gA p (m - 1)) with
   | true=>rw [if_pos rfl];exact ⟨.refl _,a1,by show m <= nrem;omega,a3⟩
   | false=>
    rw [if_neg (by simp)]
    have all:∀ x y,x < m->y < m->leK lt (gA p x) (gA p y):=fun x y hx hy=>yL O (a3 x (m - 1) (by omega) (by omega)) (yL O d (a3 0 y (zCY _) hy))
    obtain ⟨b1,b2,b3,b4⟩:=tL O (p:=kas_rev p 0 m) (n:=m) (nrem:=nrem) a1 (by omega) (by rw [sE];omega) (by
     intro i j hij hj
     rw [sR (by omega),sR (by omega)]
     by_cases hjm:j < m
     ·rw [if_pos ⟨zCY j,hjm⟩,if_pos ⟨zCY i,by omega⟩]
      exact all _ _ (by omega) (by omega)
     ·rw [if_neg (fun z=>hjm z.2)]
      have ej:j=m:=by omega
      subst ej
      by_cases hi:i < j
      ·rw [if_pos ⟨zCY _,hi⟩]
       exact yL O (qT O c) (all _ _ (by omega) (by omega))
      ·have:i=j:=by omega
       subst this
       rw [if_neg (fun z=>hi z.2)]
       exact yN O _)
    exact ⟨b1.trans (xL _ _ _),b2,b3,b4⟩
  ·rw [if_neg h2]
   have em:m=1:=by omega
   subst em
   refine tL O (zCX _) (by omega) hz fun i j hij hj=>?_
   by_cases hj0:j=0
   ·have:i=j:=by omega
    rw [this];exact yN O _
   ·have ej:j=1:=by omega
    by_cases hi:i=0
    ·rw [hi,ej];exact qT O c
    ·have:i=j:=by omega
     rw [this];exact yN O _
theorem iX (O:LtO lt) {p:Array Nat} {k:Nat} (hs:Up lt p k):∀ (f l r:Nat),l <= r->r <= k->r - l <= f->(∀ i,i < l->leK lt (gA p i) (gA p k))->(∀ i,r <= i->i < k->leK lt (gA p k) (gA p i)) ->
  evK lt (kas_place p k f l r) <= k/\(∀ i,i < evK lt (kas_place p k f l r)->leK lt (gA p i) (gA p k))/\(∀ i,evK lt (kas_place p k f l r) <= i->i < k->leK lt (gA p k) (gA p i)):=by
 intro f
 induction f with
 | zero=>
  intro l r h1 h2 h3 h4 h5
  have e:l=r:=by omega
  subst e
  exact ⟨h2,h4,h5⟩
 | succ f ih=>
  intro l r h1 h2 h3 h4 h5
  have e:kas_place p k (f + 1) l r=if l >= r then .ret l else .ask (gA p k) (gA p ((l + r) / 2)) fun c=>if c=true then kas_place p k f l ((l + r) / 2) else kas_place p k f ((l + r) / 2 + 1) r:=rfl
  rw [e]
  by_cases hlr:l >= r
  ·rw [if_pos hlr]
   have e:l=r:=by omega
   subst e
   exact ⟨h2,h4,h5⟩
  ·rw [if_neg hlr]
   have e2:evK lt (KasT.ask (gA p k) (gA p ((l + r) / 2)) fun c=>if c=true then kas_place p k f l ((l + r) / 2) else kas_place p k f ((l + r) / 2 + 1) r)=evK lt (if lt (gA p k) (gA p ((l + r) / 2))=true then kas_place p k f l ((l + r) / 2) else kas_place p k f ((l + r) / 2 + 1) r):=rfl
   rw [e2]
   cases c:lt (gA p k) (gA p ((l + r) / 2)) with
   | true=>
    rw [if_pos rfl]
    exact ih l ((l + r) / 2) (by omega) (by omega) (by omega) h4 fun i g1 g2=>yL O (qT O c) (hs _ _ g1 g2)
   | false=>
    rw [if_neg (by simp)]
    exact ih ((l + r) / 2 + 1) r (by omega) h2 (by omega) (fun i g=>yL O (hs i ((l + r) / 2) (by omega) (by omega)) c) h5
theorem zAV (O:LtO lt):∀ (f:Nat) (p:Array Nat) (k:Nat),k + f <= p.size->Up lt p k->(evK lt (kas_bin f p k)).Perm p/\Up lt (evK lt (kas_bin f p k)) (k + f):=by
 intro f
 induction f with
 | zero=>exact fun p k _ h=>⟨.refl _,h⟩
 | succ f ih=>
  intro p k hz h
  have e:kas_bin (f + 1) p k=(kas_place p k k 0 k).bind fun l=>kas_bin f (bubble p k (k - l)) (k + 1):=rfl
  rw [e,vG]
  obtain ⟨a1,a2,a3⟩:=iX O h k 0 k (zCY _) (zCX _) (by omega) (fun i g=>absurd g (Nat.not_lt_zero _)) (fun i g1 g2=>absurd g2 (by omega))
  generalize evK lt (kas_place p k k 0 k)=l at a1 a2 a3 ⊢
  have up:Up lt (bubble p k (k - l)) (k + 1):=fun i j hij hj=>by
   rw [gZ (by omega) a1,gZ (by omega) a1]
   by_cases i1:i=l
   ·rw [if_pos i1]
    by_cases j1:j=l
    ·rw [if_pos j1];exact yN O _
    ·rw [if_neg j1,if_pos ⟨by omega,by omega⟩]
     exact a3 _ (by omega) (by omega)
   ·rw [if_neg i1]
    by_cases i2:l < i/\i <= k
    ·rw [if_pos i2,if_neg (by omega),if_pos ⟨by omega,by omega⟩]
     exact h _ _ (by omega) (by omega)
    ·rw [if_neg i2]
     by_cases j1:j=l
     ·rw [if_pos j1];exact a2 _ (by omega)
     ·rw [if_neg j1]
      by_cases j2:l < j/\j <= k
      ·rw [if_pos j2];exact h _ _ (by omega) (by omega)
      ·rw [if_neg j2];exact h _ _ hij (by omega)
  obtain ⟨b1,b2⟩:=ih (bubble p k (k - l)) (k + 1) (by rw [bubble_size];omega) up
  exact ⟨b1.trans (bubble_perm _ _ _),by rw [show k + (f + 1)=k + 1 + f by omega];exact b2⟩
theorem eQ (O:LtO lt) {n:Nat} (h1:1 <= n):(evK lt (kas_sort n)).Perm (List.range n).toArray/\Up lt (evK lt (kas_sort n)) n:=by
 unfold kas_sort
 rw [vG]
 have hsz:(List.range n).toArray.size=n:=by simp
 obtain ⟨a1,a2,a3,a4⟩:=fN O (p:=(List.range n).toArray) h1 (by omega)
 generalize evK lt (kas_count n (List.range n).toArray)=r at a1 a2 a3 a4 ⊢
 have hs:=a1.size_eq
 by_cases h:r.1 < n
 ·rw [if_pos h]
  have em:max r.1 1=r.1:=by omega
  rw [em]
  obtain ⟨b1,b2⟩:=zAV O (n - r.1) r.2 r.1 (by omega) a4
  exact ⟨b1.trans a1,by rw [show n=r.1 + (n - r.1) by omega];exact (by rw [show r.1 + (n - r.1) - r.1=n - r.1 by omega];exact b2)⟩
 ·rw [if_neg h]
  have e:r.1=n:=by omega
  exact ⟨a1,by rw [<- e];exact a4⟩
def vP {α:Type} (n:Nat) (R:α->Prop):KasT α->Prop
 | .ret a=>R a
 | .ask i j k=>i < n/\j < n/\∀ b,vP n R (k b)
theorem vP.bind {α β:Type} {n:Nat} {R:α->Prop} {R':β->Prop} {f:α->KasT β} (t:KasT α) (h:vP n R t) (hf:∀ a,R a->vP n R' (f a)):vP n R' (t.bind f):=by
 induction t with
 | ret a=>exact hf a h
 | ask i j k ih=>exact ⟨h.1,h.2.1,fun b=>ih b (h.2.2 b)⟩
theorem zA2 {α:Type} {n:Nat} {R:α->Prop} {lt:Nat->Nat->Bool} {cmp:Nat->Nat->(Bool->Shared->Prop)->Shared->Prop} {Pq:Shared->Prop} (hc:∀ i j C s,i < n->j < n->Pq s->(∀ s',Pq s'->C (lt i j) s')->cmp i j C s) (t:KasT α) (ht:vP n R t) {Q:α->Shared->Prop} :
  ∀ s,Pq s->(∀ s',Pq s'->Q (evK lt t) s')->t.kasWp cmp Q s:=by
 induction t with
 | ret a=>exact fun s h q=>q s h
 | ask i j k ih=>exact fun s h q=>hc i j _ s ht.1 ht.2.1 h fun s' h'=>ih (lt i j) (ht.2.2 _) s' h' q
def In_ (n:Nat) (p:Array Nat):Prop:=∀ v ∈ p.toList,v < n
theorem In_.gA {n:Nat} {p:Array Nat} (h:In_ n p) (h1:1 <= n) (x:Nat):gA p x < n:=by
 unfold L2.gA
 rw [zDN]
 cases e:p[x]? with
 | none=>exact h1
 | some v=>exact h v (by rw [Array.mem_toList_iff];exact Array.mem_of_getElem? e)
theorem In_.perm {n:Nat} {p q:Array Nat} (h:In_ n p) (e:q.Perm p):In_ n q:=fun v hv=>h v ((Array.perm_iff_toList_perm.mp e).mem_iff.mp hv)
section
variable {n:Nat} (h1:1 <= n)
include h1
theorem fV {p:Array Nat} (h:In_ n p):∀ f m,vP n (fun _=>True) (kas_asc p f m):=by
 intro f
 induction f with
 | zero=>exact fun _=>trivial
 | succ f ih=>
  intro m
  refine ⟨h.gA h1 _,h.gA h1 _,fun b=>?_⟩
  cases b with
  | true=>exact trivial
  | false=>exact ih _
theorem cG:∀ f (p:Array Nat) m q,In_ n p->vP n (fun r=>In_ n r.1) (kas_desc f p m q):=by
 intro f
 induction f with
 | zero=>exact fun p m q h=>h
 | succ f ih=>
  intro p m q h
  refine ⟨h.gA h1 _,h.gA h1 _,fun b=>?_⟩
  cases b with
  | true=>
   show vP n _ (if q > 0 then kas_desc f (kas_rev p (m - (q + 1)) m) (m + 1) 0 else kas_desc f p (m + 1) 0)
   by_cases hq:q > 0
   ·rw [if_pos hq];exact ih _ _ _ (h.perm (xL _ _ _))
   ·rw [if_neg hq];exact ih _ _ _ h
  | false=>
   refine ⟨h.gA h1 _,h.gA h1 _,fun c=>?_⟩
   cases c with
   | true=>exact h
   | false=>exact ih _ _ _ h
theorem mV {p:Array Nat} (h:In_ n p) (m nr:Nat):vP n (fun r=>In_ n r.2) (kas_tail3 m nr p):=
 (fV h1 (h.perm (xL _ _ _)) _ _).bind _ fun _ _=>h.perm (xL _ _ _)
theorem tK {p:Array Nat} (h:In_ n p) (m nr:Nat):vP n (fun r=>In_ n r.2) (kas_descPart m nr p):=by
 refine (cG h1 _ p _ _ h).bind _ fun r hr=>?_
 by_cases hq:r.2.2 > 0
 ·rw [if_pos hq];exact mV h1 (hr.perm (xL _ _ _)) _ _
 ·rw [if_neg hq];exact mV h1 hr _ _
theorem fM {p:Array Nat} (h:In_ n p) (nr:Nat):vP n (fun r=>In_ n r.2) (kas_count nr p):=by
 refine (fV h1 h _ _).bind _ fun m _=>?_
 by_cases hm:(m == nr)=true
 ·rw [if_pos hm];exact h
 ·rw [if_neg hm]
  by_cases h2:m > 1
  ·rw [if_pos h2]
   refine ⟨h.gA h1 _,h.gA h1 _,fun b=>?_⟩
   cases b with
   | true=>exact h
   | false=>exact tK h1 (h.perm (xL _ _ _)) _ _
  ·rw [if_neg h2];exact tK h1 h _ _
theorem iW {p:Array Nat} (h:In_ n p) (k:Nat):∀ f l r,vP n (fun _=>True) (kas_place p k f l r):=by
 intro f
 induction f with
 | zero=>exact fun _ _=>trivial
 | succ f ih=>
  intro l r
  show vP n _ (if l >= r then .ret l else .ask (gA p k) (gA p ((l + r) / 2)) fun c=>if c=true then kas_place p k f l ((l + r) / 2) else kas_place p k f ((l + r) / 2 + 1) r)
  by_cases hlr:l >= r
  ·rw [if_pos hlr];exact trivial
  ·rw [if_neg hlr]
   refine ⟨h.gA h1 _,h.gA h1 _,fun b=>?_⟩
   cases b with
   | true=>exact ih _ _
   | false=>exact ih _ _
theorem zAU:∀ f (p:Array Nat) k,In_ n p->vP n (In_ n) (kas_bin f p k):=by
 intro f
 induction f with
 | zero=>exact fun p k h=>h
 | succ f ih=>exact fun p k h=>(iW h1 h k _ _ _).bind _ fun l _=>ih _ _ (h.perm (bubble_perm _ _ _))
theorem eO:vP n (In_ n) (kas_sort n):=by
 refine (fM h1 (p:=(List.range n).toArray) (fun v hv=>by simpa using hv) n).bind _ fun r hr=>?_
 by_cases h:r.1 < n
 ·rw [if_pos h];exact zAU h1 _ _ _ hr
 ·rw [if_neg h];exact hr
end
end
def ltS (a b:Str):Bool:=decide (a.cps.toList < b.cps.toList)
theorem p9 {a b:Str} (h:ltS a b=true):ltS b a=false:=KeyOrd.klt_asymm (O:=strKind.toKeyOrd) h
theorem lY {a b c:Str} (h1:ltS b a=false) (h2:ltS c b=false):ltS c a=false:=KeyOrd.kle_trans (O:=strKind.toKeyOrd) (a:=a.cps.toList) (b:=b.cps.toList) (c:=c.cps.toList) h1 h2
theorem qS {a b:Str} (h1:ltS a b=false) (h2:ltS b a=false):a=b:=by
 have e:a.cps.toList=b.cps.toList:=strKind.total _ _ h1 h2
 cases a;cases b
 simp only [Str.mk.injEq]
 exact Array.toList_inj.mp e
theorem gF (a:Str):ltS a a=false:=strKind.irrefl _
def ltP (a b:Str × Str):Bool:=if a.1=b.1 then ltS a.2 b.2 else ltS a.1 b.1
theorem gG {a b:Str × Str} (h:ltP a b=true):ltP b a=false:=by
 unfold ltP at h ⊢
 by_cases e:a.1=b.1
 ·rw [if_pos e] at h;rw [if_pos e.symm];exact p9 h
 ·rw [if_neg e] at h;rw [if_neg (Ne.symm e)];exact p9 h
theorem dX {a b c:Str × Str} (h1:ltP b a=false) (h2:ltP c b=false):ltP c a=false:=by
 unfold ltP at h1 h2 ⊢
 by_cases e1:b.1=a.1 <;> by_cases e2:c.1=b.1
 ·rw [if_pos e1] at h1;rw [if_pos e2] at h2;rw [if_pos (e2.trans e1)];exact lY h1 h2
 ·rw [if_neg e2] at h2;rw [if_neg (fun z=>e2 (z.trans e1.symm)),<- e1];exact h2
 ·rw [if_neg e1] at h1;rw [if_neg (fun z=>e1 (e2.symm.trans z)),e2];exact h1
 ·rw [if_neg e1] at h1;rw [if_neg e2] at h2
  by_cases e3:c.1=a.1
  ·exact absurd (qS (a:=b.1) (b:=a.1) h1 (by rw [<- e3];exact h2)) e1
  ·rw [if_neg e3];exact lY h1 h2
theorem dY {a b:Str × Str} (h1:ltP a b=false) (h2:ltP b a=false):a=b:=by
 unfold ltP at h1 h2
 by_cases e:a.1=b.1
 ·rw [if_pos e] at h1;rw [if_pos e.symm] at h2
  exact Prod.ext e (qS h1 h2)
 ·rw [if_neg e] at h1;rw [if_neg (Ne.symm e)] at h2
  exact absurd (qS h1 h2) e
def Asc {α:Type} (lt:α->α->Bool) (l:List α):Prop:=l.Pairwise fun a b=>lt b a=false
theorem fT {α:Type} {lt:α->α->Bool} (tot:∀ a b,lt a b=false->lt b a=false->a=b):∀ {l l':List α},l.Perm l'->Asc lt l->Asc lt l'->l=l':=by
 intro l
 induction l with
 | nil=>intro l' p _ _;exact (List.Perm.nil_eq p)
 | cons x l ih=>
  intro l' p h h'
  cases l' with
  | nil=>exact absurd p.length_eq (by simp)
  | cons y l'=>
   obtain ⟨a1,a2⟩:=List.pairwise_cons.mp h
   obtain ⟨b1,b2⟩:=List.pairwise_cons.mp h'
   have e:x=y:=by
    have hx:x ∈ y :: l':=p.mem_iff.mp zDH
    have hy:y ∈ x :: l:=p.mem_iff.mpr zDH
    rcases List.mem_cons.mp hx with e | hx
    ·exact e
    ·rcases List.mem_cons.mp hy with e | hy
     ·exact e.symm
     ·exact tot x y (b1 x hx) (a1 y hy)
   subst e
   rw [ih (List.Perm.cons_inv p) a2 b2]
section
variable {X:Cx}
end
def cT (h:Heap) (v:Value) (p:Str × Str):Prop:=∃ (t:Addr) (o:Obj) (k:Nat) (t1 t2:Tok),v=.ref t/\h.get? t=some o/\o.cls=.type "tuple"/\o.data=.seq #[.str p.1 t1,.str p.2 t2] k
inductive xP (h:Heap):List Value->LSS->Prop
 | nil:xP h [] []
 | cons {v:Value} {p:Str × Str} {vs:List Value} {ps:LSS} (a:cT h v p) (r:xP h vs ps):xP h (v :: vs) (p :: ps)
theorem xP.len {h:Heap} {vs:List Value} {ps:LSS} (x:xP h vs ps):vs.length=ps.length:=by
 induction x with
 | nil=>rfl
 | cons _ _ ih=>rw [zC9,zC9,ih]
theorem xP.get {h:Heap} {vs:List Value} {ps:LSS} (x:xP h vs ps):∀ (i:Nat),i < vs.length->cT h (vs.getD i .none) (ps.getD i (Str.empty,Str.empty)):=by
 induction x with
 | nil=>exact fun i hi=>absurd hi (Nat.not_lt_zero _)
 | cons a r ih=>
  intro i hi
  cases i with
  | zero=>exact a
  | succ i=>exact ih i (by simpa using hi)
theorem xP.keep {h h':Heap} {a:Addr} {u:Array Value} {n:Nat} (ha:h.get? a=some (seqObj "list" u n)) (k:∀ b o,b ≠ a->h.get? b=some o->h'.get? b=some o) {vs:List Value} {ps:LSS} (x:xP h vs ps):xP h' vs ps:=by
 induction x with
 | nil=>exact .nil
 | cons c r ih=>
  obtain ⟨t,o,j,t1,t2,e1,e2,e3,e4⟩:=c
  refine .cons ⟨t,o,j,t1,t2,e1,k t o (fun z=>?_) e2,e3,e4⟩ ih
  rw [z,ha] at e2
  cases e2
  exact absurd e3 (by show ¬ (Value.type "list"=Value.type "tuple");decide)
section
variable {prog:Program} {w:World} {A:Around} {E:VSP} {s:Shared}
theorem fQ {x y:Value} {p q:Str × Str} {C:Bool->Shared->Prop} (hx:cT s.heap x p) (hy:cT s.heap y q) (h:C (ltP p q) s):wpAny (model prog w) A (keyLt' (tuples' true) x y) C E s:=by
 obtain ⟨t,o,j,t1,t2,rfl,e2,_,e4⟩:=hx
 obtain ⟨t',o',j',t3,t4,rfl,f2,_,f4⟩:=hy
 refine kat_lt e2 e4 f2 f4 ?_
 show KatLex prog w A true _ C [(.str p.1 t1,.str q.1 t3),(.str p.2 t2,.str q.2 t4)] 0 s
 refine kat_cons (eqBool_str ?_)
 unfold ltP at h
 by_cases e:p.1=q.1
 ·rw [show (p.1 == q.1)=true by simpa using e]
  rw [if_pos e] at h
  refine kat_yes (kat_cons (eqBool_str ?_))
  by_cases e':p.2=q.2
  ·rw [show (p.2 == q.2)=true by simpa using e']
   rw [e',gF] at h
   exact kat_yes (kat_nil h)
  ·rw [show (p.2 == q.2)=false by simpa using e']
   exact kat_no (kat_one _ _ (PyProof.Rows.lt_str h))
 ·rw [show (p.1 == q.1)=false by simpa using e]
  rw [if_neg e] at h
  exact kat_no (oneLt_str h)
theorem n0 {vs:List Value} {ps:LSS} {C:SortKind->Shared->Prop} (x:xP s.heap vs ps) (hne:0 < vs.length) (h:C (tuples' true) s):wpAny (model prog w) A (keyKind' vs.toArray) C E s:=by
 have key:∀ {vs:List Value} {ps:LSS},xP s.heap vs ps->∃ fs,KatTups s.heap vs fs/\fs.length=vs.length/\∀ v ∈ fs,∃ z t,v=.str z t:=by
  intro vs ps x
  induction x with
  | nil=>exact ⟨[],KatTups.nil,rfl,fun v hv=>by cases hv⟩
  | cons c r ih=>
   obtain ⟨fs,a1,a2,a3⟩:=ih
   obtain ⟨t,o,j,t1,t2,rfl,e2,e3,e4⟩:=c
   refine ⟨_ :: fs,KatTups.cons e2 e3 e4 rfl a1,by rw [zC9,zC9,a2],fun v hv=>?_⟩
   rcases List.mem_cons.mp hv with rfl | hv
   ·exact ⟨_,_,rfl⟩
   ·exact a3 v hv
 obtain ⟨fs,a1,a2,a3⟩:=key x
 refine kat_kind (T:=.type "str") a1 (by omega) (fun v hv=>?_) rfl h
 obtain ⟨z,t,rfl⟩:=a3 v hv
 exact Looks.of_pure rfl
def xJ {α:Type} (p:Array Nat) (l:List α) (d:α):List α:=p.toList.map fun i=>l.getD i d
theorem jG {α:Type} {p:Array Nat} {l:List α} (d:α) (h:p.Perm (List.range l.length).toArray):(xJ p l d).Perm l:=by
 have h1:(xJ p l d).Perm ((List.range l.length).map fun i=>l.getD i d):=(Array.perm_iff_toList_perm.mp h).map _
 have e:(List.range l.length).map (fun i=>l.getD i d)=l:=by
  apply List.ext_getElem
  ·simp
  ·intro i g1 g2
   simp [zCT,zCP g2]
 rwa [e] at h1
theorem iY {p:Array Nat} {ps:LSS} {n:Nat} (hp:p.size=n) (u:Up (fun i j=>ltP (ps.getD i (Str.empty,Str.empty)) (ps.getD j (Str.empty,Str.empty))) p n):Asc ltP (xJ p ps (Str.empty,Str.empty)):=by
 refine List.pairwise_iff_getElem.mpr fun i j hi hj hij=>?_
 unfold xJ at hi hj ⊢
 rw [zCO,Array.length_toList] at hi hj
 have z:=u i j (Nat.le_of_lt hij) (by omega)
 unfold leK gA at z
 simp only [zDN,Array.getElem?_eq_getElem hi,Array.getElem?_eq_getElem hj,Option.getD_some] at z
 simpa using z
theorem nE {a:Addr} {vs:List Value} {ps:LSS} {n:Nat} {P:PySem.Fin->Shared->Prop} (hA:s.heap.get? a=some (seqObj "list" vs.toArray n)) (hT:xP s.heap vs ps) (h64:vs.length < 64)
  (h:∀ (p:Array Nat) (g:Heap) (c:Nat),p.Perm (List.range vs.length).toArray->Asc ltP (xJ p ps (Str.empty,Str.empty))->(∀ b o,b ≠ a->s.heap.get? b=some o->g.get? b=some o)->g.get? a=some (seqObj "list" (xJ p vs .none).toArray c) ->
   P (.done (.ret .none)) { s with heap:=g }):wpAny (model prog w) A (Builtin.«list.sort» ⟨[.ref a],[]⟩) P E s:=by
 have lsz:vs.length <= sizeLine:=by rw [sizeLine_eq];omega
 obtain ⟨e1,hA1⟩:∃ e1,(s.heap.update a (Obj.mapSeq fun _=>(#[]:Array Value))).get? a=some (seqObj "list" #[] e1):=⟨_,get?_update_seq hA fun _=>#[]⟩
 rw [list_sort_plain]
 refine wpAny_bind (listItems_at hA rfl (wpAny_bind (listUpdate_at hA rfl (wpAny_bind (seqEpoch_at hA1 rfl (wpAny_bind (wpAny_newTuple (wpAny_bind (wpAny_newList (wpAny_holding ?_) (zCY _))) lsz)))) (by rw [zCW];exact lsz) (zCY _))))
 obtain ⟨g0,eg⟩:∃ g0,g0=((s.heap.update a (Obj.mapSeq fun _=>(#[]:Array Value))).push (seqObj "tuple" vs.toArray 0)).push (seqObj "list" #[] 0):=⟨_,rfl⟩
 have hA2:g0.get? a=some (seqObj "list" #[] e1):=by rw [eg];exact Heap.get?_push_of_some _ (Heap.get?_push_of_some _ hA1)
 have kp:∀ b o,b ≠ a->s.heap.get? b=some o->g0.get? b=some o:=fun b o hb z=>by
  rw [eg];exact Heap.get?_push_of_some _ (Heap.get?_push_of_some _ ((Heap.get?_update_ne _ _ _ _ hb).trans z))
 show wpAny (model prog w) A _ P E { s with heap:=((s.heap.update a (Obj.mapSeq fun _=>(#[]:Array Value))).push (seqObj "tuple" vs.toArray 0)).push (seqObj "list" #[] 0) }
 rw [<- eg]
 dsimp only
 have hT0:xP g0 vs ps:=hT.keep hA kp
 have fin:∀ (st:SortSt) (p:Array Nat),p.Perm (List.range vs.length).toArray->Asc ltP (xJ p ps (Str.empty,Str.empty))->(arrOf st).map (·.2)=(xJ p vs .none).toArray->failedOf st=none ->
   P (.done (.ret .none)) { s with heap:=g0.update a (Obj.mapSeq fun _=>(arrOf st).map (·.2)) }:=fun st p hp ha ho _=>by
  rw [ho]
  exact h p _ _ hp ha (fun b o hb z=>(Heap.get?_update_ne _ _ _ _ hb).trans (kp b o hb z)) (get?_update_seq hA2 fun _=>(xJ p vs .none).toArray)
 by_cases h2:vs.toArray.size < 2
 ·rw [if_pos h2,if_pos h2]
  refine wpAny_bind (wpAny_pure ?_)
  rw [StateT.run_pure]
  refine wpAny_bind (wpAny_pure ?_)
  dsimp only
  have l2:vs.length < 2:=by simpa using h2
  have eo:(arrOf (SortSt.mk' general' (vs.toArray.zip vs.toArray) #[] 7 none)).map (·.2)=(xJ (List.range vs.length).toArray vs .none).toArray:=by
   show (vs.toArray.zip vs.toArray).map (·.2)=_
   have lv:vs=[] \/ ∃ v,vs=[v]:=by
    cases vs with
    | nil=>exact .inl rfl
    | cons v r=>cases r with
     | nil=>exact .inr ⟨v,rfl⟩
     | cons _ _=>exact absurd l2 (by simp)
   apply Array.toList_inj.mp
   rcases lv with rfl | ⟨v,rfl⟩
   ·simp [xJ]
   ·simp [xJ,List.range_succ]
  have z:=fin (SortSt.mk' general' (vs.toArray.zip vs.toArray) #[] 7 none) (List.range vs.length).toArray (.refl _) (by
   have lp:=hT.len
   unfold xJ
   refine List.pairwise_iff_getElem.mpr fun i j hi hj hij=>?_
   simp at hi hj
   omega) eo rfl
  have sz:((arrOf (SortSt.mk' general' (vs.toArray.zip vs.toArray) #[] 7 none)).map (·.2)).size <= sizeLine:=by
   rw [eo];show (xJ _ _ _).length <= _;unfold xJ;simp;exact lsz
  refine wpAny_bind (seqEpoch_at hA2 rfl (wpAny_bind (listUpdate_at hA2 rfl ?_ (zCY _) (Nat.le_succ_of_le sz))))
  simp only [bne_self_eq_false,Bool.false_eq_true,if_false]
  exact wpAny_pure z
 ·rw [if_neg h2,if_neg h2]
  have l2:2 <= vs.length:=by simpa using h2
  let lt:Nat->Nat->Bool:=fun i j=>ltP (ps.getD i (Str.empty,Str.empty)) (ps.getD j (Str.empty,Str.empty))
  have O:LtO lt:=⟨fun i j q=>gG q,fun i j k q1 q2=>dX q1 q2⟩
  obtain ⟨pp,up⟩:=eQ O (n:=vs.length) (by omega)
  have psz:(evK lt (kas_sort vs.length)).size=vs.length:=by rw [pp.size_eq];simp
  refine wpAny_bind (n0 (s:={ s with heap:=g0 }) hT0 (by omega) ?_)
  refine wpAny_bind (wpAny_mono (kat_run (κ:=tuples' true) (ks:=vs) (vs:=vs) (G:=fun p s'=>p=evK lt (kas_sort vs.length)/\s' = { s with heap:=g0 })
   (Q:=fun st s'=>(arrOf st).map (·.2)=(xJ (evK lt (kas_sort vs.length)) vs .none).toArray/\failedOf st=none/\s' = { s with heap:=g0 }) rfl l2 h64 (fun p st s' _ b2 b3 b4=>⟨by rw [<- b4.1];exact kat_snds rfl b2,b3,b4.2⟩) ?_) ?_ fun _ _ z=>z)
  ·
   refine zA2 (lt:=lt) (Pq:=fun s'=>s' = { s with heap:=g0 }) (fun i j C s' hi hj hs hC=>?_) _ (eO (by omega)) _ rfl fun s' hs=>⟨rfl,hs⟩
   subst hs
   exact fQ (hT0.get i hi) (hT0.get j hj) (hC _ rfl)
  ·rintro ⟨⟨⟩,st⟩ s' ⟨b1,b2,rfl⟩
   dsimp only
   have sz:((arrOf st).map (·.2)).size <= sizeLine:=by
    rw [b1];show (xJ _ _ _).length <= _;unfold xJ;rw [zCO,Array.length_toList,psz];exact lsz
   refine wpAny_bind (seqEpoch_at hA2 rfl (wpAny_bind (listUpdate_at hA2 rfl ?_ (zCY _) (Nat.le_succ_of_le sz))))
   rw [b2]
   simp only [bne_self_eq_false,Bool.false_eq_true,if_false]
   exact wpAny_pure (fin st _ pp (iY psz up) b1 b2)
end
def xZ (p:Str × Str):List V:=[.str p.1,.str p.2]
theorem lT:∀ {qs:List Addr} {us:List Value},zS (qs.map V.ref) us->us=qs.map Value.ref
 | [],_,.nil=>rfl
 | q :: qs,_,.cons r h=>by
  rw [List.map_cons,<- lT h]
  exact congrArg (· :: _) r
theorem rE:∀ (qs:List Addr),zS (qs.map V.ref) (qs.map Value.ref)
 | []=>.nil
 | _ :: qs=>.cons rfl (rE qs)
section
variable {X:Cx} {qp:LAO} {σ:St} {H:Hp} {s:Shared}
theorem hI (I:Inv X qp σ H s):∀ {qs:List Addr} {ps:LSS},Paired (fun q r=>H q=some (.tup r)) qs (ps.map xZ)->xP s.heap (qs.map Value.ref) ps:=by
 intro qs
 induction qs with
 | nil=>
  intro ps h
  cases ps with
  | nil=>exact .nil
  | cons _ _=>cases h
 | cons q qs ih=>
  intro ps h
  cases ps with
  | nil=>cases h
  | cons p ps=>
   cases h with
   | cons h1 h2=>
   obtain ⟨its,r,pl,_⟩:=I.tuple (.of h1)
   obtain ⟨o,ho,hc,n,hd⟩:=pl
   cases r with
   | cons r1 r=>
   cases r with
   | cons r2 r=>
   cases r
   obtain ⟨t1,rfl⟩:=r1
   obtain ⟨t2,rfl⟩:=r2
   exact .cons ⟨q,o,n,t1,t2,rfl,ho,hc,hd⟩ (ih h2)
theorem xP.more {h h':Heap} (k:∀ b o,h.get? b=some o->h'.get? b=some o) {vs:List Value} {ps:LSS} (x:xP h vs ps):xP h' vs ps:=by
 induction x with
 | nil=>exact .nil
 | cons c r ih=>
  obtain ⟨t,o,j,t1,t2,e1,e2,e3,e4⟩:=c
  exact .cons ⟨t,o,j,t1,t2,e1,k t o e2,e3,e4⟩ ih
theorem pW {α β:Type} (f:α->β) (p:Array Nat) (l:List α) (d:α) (e:β) (hp:∀ i ∈ p.toList,i < l.length):xJ p (l.map f) e=(xJ p l d).map f:=by
 unfold xJ
 rw [zC8]
 refine List.map_congr_left fun i hi=>?_
 have:=hp i hi
 simp [zCT,zCP this]
theorem pX {R:Addr->List V->Prop} {qs:List Addr} {rs:List (List V)} (h:Paired R qs rs) (p:Array Nat) (hp:∀ i ∈ p.toList,i < qs.length):Paired R (xJ p qs 0) (xJ p rs []):=by
 unfold xJ
 have get:∀ i,i < qs.length->R (qs.getD i 0) (rs.getD i []):=by
  clear hp
  induction h with
  | nil=>exact fun i hi=>absurd hi (Nat.not_lt_zero _)
  | cons a r ih=>
   intro i hi
   cases i with
   | zero=>exact a
   | succ i=>exact ih i (by simpa using hi)
 generalize p.toList=l at hp
 induction l with
 | nil=>exact .nil
 | cons i l ih=>exact .cons (get i (hp i zDH)) (ih fun j hj=>hp j (zC1 _ hj))
theorem uN:uS X (.builtin "sorted") (fun xs H Q=>∃ (a:Addr) (qs:List Addr) (ps:LSS),xs=[.ref a]/\H a=some (.lst (qs.map V.ref))/\Paired (fun q r=>H q=some (.tup r)) qs (ps.map xZ)/\ps.length < 64 /\
  ∀ (l:Addr) (qs':List Addr) (ps':LSS),H l=none->ps'.Perm ps->Asc ltP ps'->Paired (fun q r=>H q=some (.tup r)) qs' (ps'.map xZ)->Q (.ref l) (upd H l (.lst (qs'.map V.ref)))):=by
 intro qp s σ H xs us Q I r h
 obtain ⟨a,qs,ps,rfl,hA,hP,hz,q⟩:=h
 obtain ⟨u,rfl,rx⟩:=pK r
 cases rx
 obtain ⟨its,r',pl,hzl⟩:=I.list (.of hA)
 have ei:=lT r'
 subst ei
 have hpr:=hI I hP
 have lq:qs.length=ps.length:=by have:=hpr.len;rwa [zCO] at this
 have lv:(qs.map Value.ref).length < 64:=by rw [zCO];omega
 refine Calls.call_function_entry kind_sorted plain_sorted entry_sorted (args_sorted1 _) ?_
 unfold Builtin.«sorted»
 refine wpAny_bind (m:=checkCount "sorted" 1 1 _) (wpAny_pure (wpAny_bind (collect_list pl.isList (wpAny_bind (wpAny_newList ?_ (by rw [sizeLine_eq];omega))) (by rw [sizeLine_eq];omega))))
 obtain ⟨g0,eg⟩:∃ g0,g0=(s.heap.push (seqObj "list" #[] 0)).update s.heap.objs.size (Obj.mapSeq (· ++ (qs.map Value.ref).toArray)):=⟨_,rfl⟩
 have gs:g0.objs.size=s.heap.objs.size + 1:=by rw [eg,Heap.size_update,size_push']
 have k0:∀ b o,s.heap.get? b=some o->(g0.push (seqObj "list" (qs.map Value.ref).toArray 0)).get? b=some o:=fun b o z=>by
  have hlt:b < s.heap.objs.size:=Heap.lt_size z
  refine Heap.get?_push_of_some _ ?_
  rw [eg,Heap.get?_update_ne _ _ _ _ (zDF hlt)]
  exact Heap.get?_push_of_some _ z
 have hN:(g0.push (seqObj "list" (qs.map Value.ref).toArray 0)).get? (s.heap.objs.size + 1)=some (seqObj "list" (qs.map Value.ref).toArray 0):=by
  rw [<- gs];exact Heap.get?_push_size _ rfl
 show wpAny _ _ _ _ _ { s with heap:=((s.heap.push (seqObj "list" #[] 0)).update s.heap.objs.size (Obj.mapSeq (· ++ (qs.map Value.ref).toArray))).push (seqObj "list" (qs.map Value.ref).toArray 0) }
 rw [<- eg,gs]
 refine wpAny_bind (wpAny_holding (wpAny_call_entry slot_list_sort ⟨_,hN,rfl⟩ entry_list_sort (nE hN (hpr.more k0) lv fun p g c b1 b2 b3 b4=>⟨_,rfl,?_⟩) (args_list_sort _)))
 refine wpAny_pure ⟨_,rfl,?_⟩
 rw [zCO] at b1
 have hin:∀ i ∈ p.toList,i < qs.length:=fun i hi=>by
  have:=(Array.perm_iff_toList_perm.mp b1).mem_iff.mp hi
  simpa using this
 have pq:=pX hP p hin
 have er:xJ p (ps.map xZ) []=(xJ p ps (Str.empty,Str.empty)).map xZ:=pW xZ p ps _ _ (fun i hi=>by rw [<- lq];exact hin i hi)
 rw [er] at pq
 have ev:xJ p (qs.map Value.ref) .none=(xJ p qs 0).map Value.ref:=pW Value.ref p qs _ _ hin
 rw [ev] at b4
 have old:∀ b o,s.heap.get? b=some o->g.get? b=some o:=fun b o z=>b3 b o (zDF (Nat.lt_succ_of_lt (Heap.lt_size z))) (k0 b o z)
 refine ⟨.ref (s.heap.objs.size + 1),_,I.laid (t':=s.toks) (h':=g) (o:=.lst ((xJ p qs 0).map V.ref)) old (Nat.le_succ _) ?_,rfl,q _ _ _ (I.hok.fresh (Nat.le_succ _)) (jG _ (by rw [<- lq];exact b1)) b2 pq⟩
 refine ⟨?_,_,c,rE _,b4⟩
 unfold xJ
 rw [zCO,zCO,Array.length_toList,b1.size_eq]
 simp
 rw [sizeLine_eq];omega
end
end L2
namespace L2
open PySem PySem.Spec PyProof.Rows
section
variable {prog:Program} {w:World} {A:Around} {E:VSP} {s:Shared}
open Builtin.Str in
end
section
variable {X:Cx} {pos:Pos}
end
section
variable {X:Cx}
end
section
open PySem.SeqAt
open PySem.AutoSeq1 (wpAny_loadPart')
open PySem.MeetsSeq PySem.MeetsSeq2 PySem.MeetsSeq3
end
section
variable {X:Cx}
end
end L2
namespace L2
open PySem PySem.Spec PyProof.Rows
open PySem.AutoSeq1 (wpAny_loadPart')
section
variable {prog:Program} {w:World} {A:Around} {E:VSP} {s:Shared}
end
section
variable {X:Cx}
end
end L2
namespace L2
open PySem PySem.Spec PyProof.Rows
section
variable {prog:Program} {w:World} {A:Around} {R:Result->Shared->Prop} {s:Shared} {elt target iter tg2 iter2:Expr} {ifs ifs2:List Expr} {scope:Scope} {pos:Pos} {it acc:Value} {env:Env}
end
section
variable {X:Cx}
end
end L2
namespace L2
open PySem PySem.Spec PyProof.Rows PySem.W
section
variable {prog:Program} {w:World} {A:Around} {R:Result->Shared->Prop} {I:Addr} {fp wr:List Addr} {G:Array GenState->Array GenState->Prop} {n:Nat} {P:Nat->Value->Prop} {St:Nat->Shared->Prop}
end
section
variable {prog:Program} {w:World} {A:Around} {E:VSP} {s:Shared}
end
section
variable {X:Cx}
section
variable {prog:Program} {w:World} {A:Around} {E:VSP} {s:Shared}
end
end
section
open PySem.SeqAt
open PySem.AutoSeq1 (wpAny_loadPart')
open PySem.MeetsSeq PySem.MeetsSeq2 PySem.MeetsSeq3
end
section
variable {X:Cx}
end
section
variable {prog:Program} {w:World} {A:Around} {R:Result->Shared->Prop} {I:Addr} {fp wr:List Addr} {n:Nat} {P:Nat->Value->Prop} {St:Nat->Heap->Prop} {G:Heap->Prop} {bt:Nat->Nat->Bool} {S:Addr}
end
section
variable {X:Cx}
end
section
variable {prog:Program} {w:World} {A:Around} {E:VSP} {s:Shared}
end
section
variable {X:Cx} {qp:LAO} {σ:St} {H:Hp} {s:Shared}
end
end L2
namespace L2
open PySem PySem.Spec PyProof.Rows
section
variable {X:Cx}
def oQ (H:Hp):Nat->V->V->Prop
 | 0,x,y=>x=y/\(yY x=true \/ ∃ a,x=.ref a)
 | n + 1,x,y=>(x=y/\(yY x=true \/ ∃ a,x=.ref a)) \/ ∃ a b xs ys,x=.ref a/\y=.ref b/\((H a=some (.lst xs)/\H b=some (.lst ys)) \/ (H a=some (.tup xs)/\H b=some (.tup ys)))/\xs.length=ys.length /\
   ∀ (i:Nat) (u v:V),xs[i]?=some u->ys[i]?=some v->oQ H n u v
theorem hu4 {A:Around} {k:Nat} (hr:z9 k A):A.units + 4 < cLine:=Nat.lt_of_le_of_lt (Nat.add_le_add_left (by decide:4 <= 64) _) hr.units
theorem bN {qp:LAO} {σ:St} {H:Hp} {s:Shared} {A:Around} {x:V} {v u:Value} (rx:zX x v) (ry:zX x u) (h:yY x=true \/ ∃ a,x=.ref a):SeqAt.EqAt A s v u true:=by
 rcases h with f | ⟨a,rfl⟩
 ·have:=pC (A:=A) (s:=s) rx ry f f
  rw [oH f] at this
  exact this
 ·cases rx;cases ry
  exact SeqAt.EqAt.same _
theorem vV {xs ys:List V} {i1 i2:List Value} (r1:zS xs i1) (r2:zS ys i2) (hl:xs.length=ys.length) (j:Nat) (g1:j < i1.toArray.size) (g2:j < i2.toArray.size) :
  ∃ x y,xs[j]?=some x/\ys[j]?=some y/\zX x i1.toArray[j]/\zX y i2.toArray[j]:=by
 have l1:=r1.length
 have l2:=r2.length
 have g1':j < i1.length:=by simpa using g1
 have g2':j < i2.length:=by simpa using g2
 obtain ⟨u,eu,ru⟩:=r1.get (i:=j) (zCP (by omega:j < xs.length))
 obtain ⟨v,ev,rv⟩:=r2.get (i:=j) (zCP (by omega:j < ys.length))
 have eu':i1.toArray[j]=u:=by
  rw [zCP g1'] at eu
  simpa using zCV eu
 have ev':i2.toArray[j]=v:=by
  rw [zCP g2'] at ev
  simpa using zCV ev
 rw [eu',ev']
 exact ⟨_,_,zCP (by omega),zCP (by omega),ru,rv⟩
theorem d0 {qp:LAO} {σ:St} {H:Hp} {s:Shared} (I:Inv X qp σ H s):∀ (n:Nat) {A:Around} {x y:V} {v u:Value},zX x v->zX y u->oQ H n x y->A.units + n < cLine->SeqAt.EqAt A s v u true:=by
 intro n
 induction n with
 | zero=>
  intro A x y v u rx ry h _
  obtain ⟨rfl,h⟩:=h
  exact bN (qp:=qp) (σ:=σ) (H:=H) rx ry h
 | succ n ih=>
  intro A x y v u rx ry h hu
  rcases h with ⟨rfl,h⟩ | ⟨a,b,xs,ys,rfl,rfl,h,hl,each⟩
  ·exact bN (qp:=qp) (σ:=σ) (H:=H) rx ry h
  cases rx;cases ry
  by_cases e:a=b
  ·subst e;exact SeqAt.EqAt.same _
  have hu1:A.in1.units + n < cLine:=by
   have e:A.in1.units=A.units + 1:=rfl
   omega
  refine SeqAt.EqAt.of_refs e ?_
  have hu0:A.units < cLine:=by omega
  rcases h with ⟨ha,hb⟩ | ⟨ha,hb⟩
  ·obtain ⟨i1,r1,p1,_⟩:=I.list (.of ha)
   obtain ⟨i2,r2,p2,_⟩:=I.list (.of hb)
   have l1:=r1.length
   have l2:=r2.length
   have key:=SeqAt.RcAt.lists (A:=A) (e:=fun _=>true) p1.isList p2.isList (by rw [zCW,zCW,<- l1,<- l2,hl]) hu0 (fun j g1 g2=>by
    obtain ⟨x,y,ex,ey,rx,ry⟩:=vV r1 r2 hl j g1 g2
    exact ih rx ry (each j x y ex ey) hu1)
   rw [show (List.range i1.toArray.size).all (fun _=>true)=true by simp] at key
   exact key
  ·obtain ⟨i1,r1,t1,_⟩:=I.tuple (.of ha)
   obtain ⟨i2,r2,t2,_⟩:=I.tuple (.of hb)
   have l1:=r1.length
   have l2:=r2.length
   have key:=SeqAt.RcAt.tuples (A:=A) (s:=s) (l:=a) (b:=b) (e:=fun _=>true) (show s.heap.IsTuple a i1.toArray from t1) (show s.heap.IsTuple b i2.toArray from t2) hu0 (fun j g1 g2=>by
    obtain ⟨x,y,ex,ey,rx,ry⟩:=vV r1 r2 hl j g1 g2
    exact ih rx ry (each j x y ex ey) hu1)
   rw [show ((List.range (min i1.toArray.size i2.toArray.size)).all (fun _=>true) && i1.toArray.size == i2.toArray.size)=true by
    rw [zCW,zCW,<- l1,<- l2,hl];simp] at key
   exact key
def zBS (b:Bool):R2:=fun x y H Q=>∃ p q xs ys,x=.ref p/\y=.ref q/\H p=some (.lst xs)/\H q=some (.lst ys)/\xs.length=ys.length/\(∀ (i:Nat) (u v:V),xs[i]?=some u->ys[i]?=some v->oQ H 3 u v)/\Q (.bl b) H
theorem aU (hu:X.A.units + 4 < cLine):OpR X (compareOp .Eq) (zBS true):=by
 intro qp s σ H x y v u Q I rx ry h
 obtain ⟨a,b,xs,ys,rfl,rfl,ha,hb,hl,each,q⟩:=h
 cases rx;cases ry
 obtain ⟨i1,r1,p1,_⟩:=I.list (.of ha)
 obtain ⟨i2,r2,p2,_⟩:=I.list (.of hb)
 have l1:=r1.length
 have l2:=r2.length
 have key:=SeqAt.RcAt.lists (A:=X.A) (e:=fun _=>true) p1.isList p2.isList (by rw [zCW,zCW,<- l1,<- l2,hl]) (by omega) (fun j g1 g2=>by
  obtain ⟨x,y,ex,ey,rx,ry⟩:=vV r1 r2 hl j g1 g2
  exact d0 I 3 rx ry (each j x y ex ey) (by have e:X.A.in1.units=X.A.units + 1:=rfl;omega))
 rw [show (List.range i1.toArray.size).all (fun _=>true)=true by simp] at key
 exact key _ _ _ _ ⟨.bl true,H,I,rfl,q⟩
theorem oQ.str {H:Hp} {n:Nat} (z:Str):oQ H n (.str z) (.str z):=by
 cases n with
 | zero=>exact ⟨rfl,.inl rfl⟩
 | succ n=>exact .inl ⟨rfl,.inl rfl⟩
theorem nX {H:Hp} {n:Nat} (zs:List Str):∀ (i:Nat) (u v:V),(zs.map V.str)[i]?=some u->(zs.map V.str)[i]?=some v->oQ H n u v:=fun i u v e1 e2=>by
 rw [e1] at e2
 cases e2
 rw [zCU] at e1
 cases h:zs[i]? with
 | none=>rw [h] at e1;cases e1
 | some z=>rw [h] at e1;cases e1;exact oQ.str z
theorem nY {H:Hp} {qs rs:List Addr} {ps:LSS} (h1:Paired (fun q r=>H q=some (.tup r)) qs (ps.map xZ)) (h2:Paired (fun q r=>H q=some (.tup r)) rs (ps.map xZ)) :
  ∀ (i:Nat) (u v:V),(qs.map V.ref)[i]?=some u->(rs.map V.ref)[i]?=some v->oQ H 3 u v:=fun i u v e1 e2=>by
 rw [zCU] at e1 e2
 cases a1:qs[i]? with
 | none=>rw [a1] at e1;cases e1
 | some a=>
 cases a2:rs[i]? with
 | none=>rw [a2] at e2;cases e2
 | some b=>
 rw [a1] at e1;rw [a2] at e2
 cases e1;cases e2
 obtain ⟨r,er,ha⟩:=y0 h1 i a a1
 obtain ⟨r',er',hb⟩:=y0 h2 i b a2
 rw [er] at er';cases er'
 rw [zCU] at er
 cases ep:ps[i]? with
 | none=>rw [ep] at er;cases er
 | some p=>
 rw [ep] at er;cases er
 refine .inr ⟨a,b,_,_,rfl,rfl,.inr ⟨ha,hb⟩,rfl,fun j x y ex ey=>?_⟩
 exact nX [p.1,p.2] j x y ex ey
end
section
variable {prog:Program} {w:World} {A:Around} {E:VSP} {s:Shared}
end
section
variable {X:Cx} {e:Expr} {te:TE} {pos p1 p2 p3:Pos} {j1:Nat}
end
end L2
namespace L2
open PySem PySem.Spec PyProof.Rows PySem.W
section
variable {X:Cx}
end
def y6 (tb:List (Str × V)):List (Key × V):=tb.map fun p=>(Sum.inr p.1,p.2)
theorem jO {x:Str} {v:Value} (h:uK (.inr x) v=true):∃ t,v=.str x t:=by
 cases v <;> first | (simp [uK,Value.isStrOf] at h;done) | (simp [uK,Value.isStrOf] at h;subst h;exact ⟨_,rfl⟩)
theorem eE {tb:List (Str × V)} {vs:List (Key × Value)} (r:KV (y6 tb) vs) {j:Nat} {k:Key} {x:Value} (h:vs[j]?=some (k,x)):∃ z,(tb.map (·.1))[j]?=some z/\k=.inr z:=by
 unfold KV y6 at r
 revert j
 generalize e:tb.map (fun p=>((Sum.inr p.1:Key),p.2))=l at r
 induction r generalizing tb with
 | nil=>intro j h;simp at h
 | cons a b ih=>
  intro j h
  cases tb with
  | nil=>cases e
  | cons p tb=>
   rw [List.map_cons] at e
   cases e
   cases j with
   | zero=>cases h;exact ⟨_,rfl,a.1.symm⟩
   | succ j=>exact ih rfl (by simpa using h)
section
variable {X:Cx}
end
end L2
namespace L2
open PySem PySem.Spec PyProof.Rows
section
variable {prog:Program} {w:World} {A:Around} {E:VSP} {s:Shared} {it d:Addr} {i ep:Nat} {od:Obj} {es:Array DictEntry}
theorem gO {Q:Option Value->Shared->Prop} (hit:s.heap.IsKeyIter it d i es.size ep) (hod:s.heap.get? d=some od) (hdd:od.data=.dict es ep) (hi:i < es.size)
  (hQ:∀ h',h'.IsKeyIter it d (i + 1) es.size ep->Heap.SameBut it s.heap h'->Q (some es[i].key) { s with heap:=h' }):wpAny (model prog w) A (pyNext (.ref it)) Q E s:=by
 have hT:=hit.typeIs
 obtain ⟨io,hio,hic,hid⟩:=id hit
 have own:Builtin.Dict_items.ownsTuple "dict_keyiterator"=false:=by decide
 have neg:¬ ((i:Int) < 0):=by omega
 have step:(s.heap.update it (Obj.mapFields (·.setIfInBounds 1 (rawInt ((i:Int) + 1))))).IsKeyIter it d (i + 1) es.size ep:=by
  refine ⟨_,Heap.get?_update_self _ hio (Obj.isFreed_of_fields (Obj.data_mapFields hid _)),(Obj.cls_mapFields ..).trans hic,?_⟩
  rw [Obj.data_mapFields hid]
  simp [rawInt]
 unfold pyNext
 apply wpAny_bind;apply wpAny_attempt
 apply wpAny_callSpecial?_slot (name:=Str.ofString "__next__") hT F.slot_dict_keyiterator_next
 apply wpAny_call_entry F.slot_dict_keyiterator_next hT F.entry_dict_keyiterator_next _ (F.args_dict_keyiterator_next_1 _)
 apply wpAny_bind;apply wpAny_pure
 apply wpAny_bind;apply wpAny_bind
 apply wpAny_bind;apply wpAny_typeNameOfWhole_keyiter hT;apply wpAny_pure
 apply wpAny_bind;apply wpAny_fieldsOf hio hid
 simp only [own,Bool.false_eq_true,if_false]
 show wpAny _ _ (if (Value.ref d == Value.none)=true then _ else _) _ _ s
 rw [if_neg (fun q=>by cases q)]
 apply wpAny_bind;apply wpAny_pure
 apply wpAny_bind;apply wpAny_dictEntries hod hdd
 rw [if_neg (by simp)]
 apply wpAny_bind;apply wpAny_pure
 apply wpAny_bind;apply wpAny_dictEpoch hod hdd
 rw [if_neg (by simp)]
 apply wpAny_pure
 simp only [neg,if_false,Int.toNat_natCast,Array.getElem?_eq_getElem hi]
 apply wpAny_bind
 apply wpAny_bind;apply wpAny_typeNameOfWhole_keyiter hT;apply wpAny_pure
 apply wpAny_bind;apply wpAny_isOneOf_keyiter hT
 show wpAny _ _ (setField (.ref it) 1 (rawInt ((i:Int) + 1)) >>= _) _ _ s
 apply wpAny_bind;apply wpAny_setField hio hid (by simp)
 apply wpAny_bind;apply wpAny_holding
 apply wpAny_bind;apply wpAny_isOneOf_keyiter (s:={ s with heap:=s.heap.update it (Obj.mapFields (·.setIfInBounds 1 (rawInt ((i:Int) + 1)))) }) step.typeIs
 show wpAny _ _ (pure es[i].key) _ _ _
 exact wpAny_pure (wpAny_pure ⟨_,rfl,wpAny_pure (hQ _ step (Heap.SameBut.update ..))⟩)
theorem d7 {Q:Option Value->Shared->Prop} (hh:A.handled=none) (hit:s.heap.IsKeyIter it d i es.size ep) (hod:s.heap.get? d=some od) (hdd:od.data=.dict es ep) (hi:es.size <= i)
  (hQ:∀ h',Heap.ExtBut it s.heap h'->Q none { s with heap:=h' }):wpAny (model prog w) A (pyNext (.ref it)) Q E s:=by
 have hT:=hit.typeIs
 obtain ⟨io,hio,hic,hid⟩:=id hit
 have own:Builtin.Dict_items.ownsTuple "dict_keyiterator"=false:=by decide
 have neg:¬ ((i:Int) < 0):=by omega
 have h0:A.in1.handled=none:=hh
 unfold pyNext
 apply wpAny_bind;apply wpAny_attempt
 apply wpAny_callSpecial?_slot (name:=Str.ofString "__next__") hT F.slot_dict_keyiterator_next
 apply wpAny_call_entry F.slot_dict_keyiterator_next hT F.entry_dict_keyiterator_next _ (F.args_dict_keyiterator_next_1 _)
 apply wpAny_bind;apply wpAny_pure
 apply wpAny_bind;apply wpAny_bind
 apply wpAny_bind;apply wpAny_typeNameOfWhole_keyiter hT;apply wpAny_pure
 apply wpAny_bind;apply wpAny_fieldsOf hio hid
 simp only [own,Bool.false_eq_true,if_false]
 show wpAny _ _ (if (Value.ref d == Value.none)=true then _ else _) _ _ s
 rw [if_neg (fun q=>by cases q)]
 apply wpAny_bind;apply wpAny_pure
 apply wpAny_bind;apply wpAny_dictEntries hod hdd
 rw [if_neg (by simp)]
 apply wpAny_bind;apply wpAny_pure
 apply wpAny_bind;apply wpAny_dictEpoch hod hdd
 rw [if_neg (by simp)]
 apply wpAny_pure
 simp only [neg,if_false,Int.toNat_natCast,Array.getElem?_eq_none hi]
 apply wpAny_bind
 apply wpAny_bind;apply wpAny_typeNameOfWhole_keyiter hT;apply wpAny_pure
 show wpAny _ _ (setField (.ref it) 0 .none >>= _) _ _ s
 apply wpAny_bind;apply wpAny_setField hio hid (by simp)
 show wpAny _ _ (newExc (.type "StopIteration") [] >>= _) _ _ _
 apply wpAny_bind
 simp only [newExc,newTuple]
 apply wpAny_bind;refine wpAny_newObj_type ?_ (by size_fits)
 refine wpAny_bind (m:=firstArgMember _ _) (wpAny_of_eq (a:=Value.none) rfl ?_)
 refine wpAny_newObj_type ?_ (by size_fits)
 simp only [raiseNew]
 apply wpAny_bind;apply wpAny_handled
 rw [h0]
 refine wpAny_bind (wpAny_pure (wpAny_throw ?_));apply wpAny_bind
 refine wpAny_isInstance (T:="StopIteration") (b:=true) ⟨_,Heap.get?_push_size _ rfl,rfl⟩ isSubtype_stop ?_
 exact wpAny_pure (hQ _ (((Heap.SameBut.update ..).extBut.push _).push _))
theorem oC {Q:VSP} (lo:(d == sysModules)=false) (hod:s.heap.get? d=some od) (hex:od.ExactDict) (hdd:od.data=.dict es ep)
  (hQ:∀ h',h'.IsKeyIter s.heap.objs.size d 0 es.size ep->(∀ b o,s.heap.get? b=some o->h'.get? b=some o)->Q (.ref s.heap.objs.size) { s with heap:=h' }):wpAny (model prog w) A (pyIter (.ref d)) Q E s:=by
 have hT:s.TypeIs (.ref d) "dict":=⟨od,hod,hex.1⟩
 apply wpAny_pyIter_slot hT F.slot_dict_iter
 apply wpAny_call_entry F.slot_dict_iter hT F.entry_dict_iter _ (F.args_dict_iter_1 _)
 unfold Builtin.«dict.__iter__»
 apply wpAny_bind
 unfold Builtin.Dict.dictSlotNone
 apply wpAny_bind;apply wpAny_notOrdered_dict hT
 show wpAny _ _ (pure (Value.ref d)) _ _ s
 apply wpAny_pure
 show wpAny _ _ (Builtin.Dict.showsAll d >>= _) _ _ s
 unfold Builtin.Dict.showsAll
 rw [if_neg (by rw [lo];exact zDG)]
 apply wpAny_bind;apply wpAny_pure
 apply wpAny_bind;apply wpAny_dictEntries hod hdd
 apply wpAny_bind;apply wpAny_dictEpoch hod hdd
 refine wpAny_bind (wpAny_newObj_type (wpAny_pure ⟨_,rfl,"dict_keyiterator",_,⟨_,Heap.get?_push_size _ rfl,rfl⟩,F.slot_dict_keyiterator_next.lookup,?_⟩))
 exact hQ _ ⟨_,Heap.get?_push_size _ rfl,rfl,by simp [rawInt]⟩ fun b o e=>Heap.get?_push_of_some _ e
end
def Itg (a:Addr) (o:Obj) (u:HO) (n:Nat) (Y:Nat->Hp->V->Prop):It:=
 ⟨fun i H=>H a=some (.frz o u)/\i < n,fun i H x H'=>H'=H/\Y i H x,fun i H=>H a=some (.frz o u)/\n <= i⟩
theorem pL {P:Program} {w:World} {K:W.Frag} {tg:Expr} {a it:Addr} {o:Obj} {u:HO} {Y:Nat->Hp->V->Prop} {es:Array DictEntry} {ep:Nat} (hdd:o.data=.dict es ep)
  (ky:∀ (X:Cx),X.prog=P->X.w=w->∀ (qp:LAO) (s:Shared) (σ:St) (H:Hp),Inv X qp σ H s->H a=some (.frz o u)->∀ (i:Nat) (hi:i < es.size),∃ x,zX x es[i].key/\Y i H x) :
  fZ P w K tg (Itg a o u es.size Y) [it] it (fun i h=>h.IsKeyIter it a i es.size ep) where
 mem:=by simp
 obj:=fun i h st b hb=>by
  obtain rfl:b=it:=by simpa using hb
  obtain ⟨io,e,c,d⟩:=st
  exact ⟨io,e,fun v z=>by rw [d] at z;cases z⟩
 keep:=fun i h h' st k=>by
  obtain ⟨io,e,r⟩:=st
  exact ⟨io,k it (by simp) io e,r⟩
 item:=by
  intro X hP hw hK hc i qp s σ H E I hf st hg
  obtain ⟨x,rx,hy⟩:=ky X hP hw qp s σ H I hg.1 i hg.2
  subst hP hw hK
  obtain ⟨f0,f1,f2,f3,f4,f5⟩:=hf it (by simp)
  refine gO st (show s.heap.get? a=some o from (I.hok a _ hg.1).1) hdd hg.2 fun h' st' sb=>?_
  have I1:Inv X qp σ H { s with heap:=h' }:=I.turned (t':=s.toks) (fun b ob hb e=>(sb.2 b hb).trans e) f0 f1 f3 f4 f5
  obtain ⟨io,e,c,d⟩:=id st'
  exact ⟨_,rfl,kE (s:={ s with heap:=h' }) e c d (by decide) ⟨x,H,I1,rx,⟨rfl,hy⟩,st',fun b hb=>(hf b hb).1⟩⟩
 done:=by
  intro X hP hw hK hc i qp s σ H E I hf st hg
  subst hP hw hK
  obtain ⟨f0,f1,f2,f3,f4,f5⟩:=hf it (by simp)
  exact d7 (I.ok.hd hc) st (show s.heap.get? a=some o from (I.hok a _ hg.1).1) hdd hg.2 fun h' eb=>⟨rfl,I.turned (t':=s.toks) (fun b ob hb e=>eb b ob hb e) f0 f1 f3 f4 f5⟩
 self:=fun _ _ _ _ _ st h=>wpAny_pyIter_keyiter st h
section
variable {X:Cx} {tg:Expr}
def ItdK (a:Addr) (o:Obj) (tb:List (Str × V)):It:=Itg a o (.dK (y6 tb)) tb.length fun i _ x=>∃ z,(tb.map (·.1))[i]?=some z/\x=.str z
def ItdT (a:Addr) (o:Obj) (kvs:List (List Key × V)):It:=Itg a o (.dT kvs) kvs.length fun i H x=>∃ k q,(kvs.map (·.1))[i]?=some k/\x=.ref q/\H q=some (.tup (k.map kV))
def iDk (tl:TE):TI:=fun σ H R=>tl σ H fun x H1=>∃ a o tb,x=.ref a/\H1 a=some (.frz o (.dK (y6 tb)))/\R (ItdK a o tb) H1
def iDt (tl:TE):TI:=fun σ H R=>tl σ H fun x H1=>∃ a o kvs,x=.ref a/\H1 a=some (.frz o (.dT kvs))/\R (ItdT a o kvs) H1
theorem rJ {l:Expr} {tl:TE} (hl:PE X l tl):PI X tg l (iDk tl):=by
 intro qp s σ H R I h
 refine thn (hl qp s σ H _ I h) fun v s1 hz58=>?_
 obtain ⟨x,H1,I1,r1,q1⟩:=hz58
 obtain ⟨a,o,tb,e,hq,q⟩:=q1
 subst e
 cases r1
 have facts:∀ {Y:Cx} {qp:LAO} {σ:St} {H:Hp} {s:Shared},Inv Y qp σ H s->H a=some (.frz o (.dK (y6 tb)))->(a == sysModules)=false/\s.heap.get? a=some o/\o.ExactDict/\∃ es ep vs,o.data=.dict es ep/\KV (y6 tb) vs/\es.size=vs.length/\∀ (i:Nat) (hi:i < es.size),∃ k v,vs[i]?=some (k,v)/\(yP Y.prog Y.w).is k es[i].key=true:=fun {Y qp σ H s} J hj=>by
  obtain ⟨g1,_,lo,vs,rel,o',es,ep,g2,ex,dd,ko,pr,nd⟩:=(show yQ Y.prog Y.w H s.heap a (.frz o (.dK (y6 tb))) from J.hok a _ hj)
  rw [g1] at g2
  obtain rfl:=zCV g2
  have sz:es.size=vs.length:=by rw [<- pr.length];simp
  refine ⟨lo,g1,ex,es,ep,vs,dd,rel,sz,fun i hi=>?_⟩
  obtain ⟨⟨k,v⟩,hkv⟩:∃ p,vs[i]?=some p:=⟨vs[i]'(by omega),zCP _⟩
  exact ⟨k,v,hkv,(pr.get? (e:=es[i]) (by simp [hi]) hkv).1⟩
 obtain ⟨lo,g1,ex,es,ep,vs,dd,rel,sz,_⟩:=facts I1 hq
 have lt:es.size=tb.length:=by rw [sz,<- rel.length];unfold y6;exact zCO _
 refine oC lo g1 ex dd fun h' st kk=>?_
 refine ⟨s1.heap.objs.size,[s1.heap.objs.size],_,_,H1,rfl,I1.kept (t':=s1.toks) kk,pL (a:=a) (u:=.dK (y6 tb)) (Y:=fun i _ x=>∃ z,(tb.map (·.1))[i]?=some z/\x=.str z) dd ?_,st,fun b hb=>?_,by rw [lt];exact q⟩
 ·intro Y hP hw qp s σ H J hj i hi
  obtain ⟨_,_,_,es',ep',vs',dd',rel',_,each⟩:=facts J hj
  rw [dd] at dd'
  injection dd' with d1 d2
  subst d1
  obtain ⟨k,v,h1,h2⟩:=each i hi
  obtain ⟨z,h3,rfl⟩:=eE rel' h1
  obtain ⟨t,h4⟩:=jO h2
  exact ⟨.str z,⟨t,h4⟩,z,h3,rfl⟩
 ·obtain rfl:b=s1.heap.objs.size:=by simpa using hb
  exact I1.fpOk (zCX _) (I1.hok.fresh (zCX _))
theorem iZ {l:Expr} {tl:TE} (hl:PE X l tl):PI X tg l (iDt tl):=by
 intro qp s σ H R I h
 refine thn (hl qp s σ H _ I h) fun v s1 hz59=>?_
 obtain ⟨x,H1,I1,r1,q1⟩:=hz59
 obtain ⟨a,o,kvs,e,hq,q⟩:=q1
 subst e
 cases r1
 have facts:∀ {Y:Cx} {qp:LAO} {σ:St} {H:Hp} {s:Shared},Inv Y qp σ H s->H a=some (.frz o (.dT kvs))->(a == sysModules)=false/\s.heap.get? a=some o/\o.ExactDict/\∃ es ep,o.data=.dict es ep/\es.size=kvs.length/\∀ (i:Nat) (hi:i < es.size),∃ k q,(kvs.map (·.1))[i]?=some k/\es[i].key=.ref q/\H q=some (.tup (k.map kV)):=fun {Y qp σ H s} J hj=>by
  obtain ⟨g1,_,lo,xs,rel,o',es,ep,g2,ex,dd,el,nd⟩:=(show yQ Y.prog Y.w H s.heap a (.frz o (.dT kvs)) from J.hok a _ hj)
  rw [g1] at g2
  obtain rfl:=zCV g2
  have l1:=rel.length
  have sz:es.size=xs.length:=by rw [<- Array.length_toList,el,zCO]
  refine ⟨lo,g1,ex,es,ep,dd,by omega,fun i hi=>?_⟩
  obtain ⟨p,hp⟩:∃ p,kvs[i]?=some p:=⟨kvs[i]'(by omega),zCP _⟩
  obtain ⟨q,eq,h1,h2,_⟩:=y0 rel i p hp
  refine ⟨p.1,q.2.1,by rw [zCU,hp];rfl,?_,h2⟩
  have:es.toList[i]?=some (entryOfKey (tupleKind (yP Y.prog Y.w)) q):=by rw [el,zCU,eq];rfl
  rw [Array.getElem?_toList,Array.getElem?_eq_getElem hi] at this
  rw [zCV this]
  rfl
 obtain ⟨lo,g1,ex,es,ep,dd,sz,_⟩:=facts I1 hq
 refine oC lo g1 ex dd fun h' st kk=>?_
 refine ⟨s1.heap.objs.size,[s1.heap.objs.size],_,_,H1,rfl,I1.kept (t':=s1.toks) kk,pL (a:=a) (u:=.dT kvs) (Y:=fun i H x=>∃ k q,(kvs.map (·.1))[i]?=some k/\x=.ref q/\H q=some (.tup (k.map kV))) dd ?_,st,fun b hb=>?_,by rw [sz];exact q⟩
 ·intro Y hP hw qp s σ H J hj i hi
  obtain ⟨_,_,_,es',ep',dd',_,each⟩:=facts J hj
  rw [dd] at dd'
  injection dd' with d1 d2
  subst d1
  obtain ⟨k,q,h1,h2,h3⟩:=each i hi
  exact ⟨.ref q,h2,k,q,h1,rfl,h3⟩
 ·obtain rfl:b=s1.heap.objs.size:=by simpa using hb
  exact I1.fpOk (zCX _) (I1.hok.fresh (zCX _))
def isD:HO->Bool
 | .dK _=>true
 | .dT _=>true
 | _=>false
theorem Inv.freeze {qp:LAO} {σ:St} {H:Hp} {s:Shared} {a:Addr} {u:HO} (I:Inv X qp σ H s) (hu:isD u=true) (h:H a=some u):∃ o,Inv X qp σ (upd H a (.frz o u)) s:=by
 have ok:=I.hok a _ h
 have mu:Mut (H a):=by
  rw [h]
  cases u <;> first | exact True.intro | cases hu
 have nt:∀ b xs,H b=some (.tup xs)->b ≠ a:=fun b xs q z=>by
  rw [z,h] at q
  cases q
  cases hu
 obtain ⟨o,ho⟩:∃ o,s.heap.get? a=some o:=by
  cases u with
  | dK kvs=>
   obtain ⟨_,_,vs,_,o,_,_,e,_⟩:=ok
   exact ⟨o,e⟩
  | dT kvs=>
   obtain ⟨_,_,xs,_,o,_,_,e,_⟩:=ok
   exact ⟨o,e⟩
  | _=>cases hu
 have st:yQ X.prog X.w (upd H a (.frz o u)) s.heap a u:=ok.stay (fun _ _ _ e=>e) (fun b q=>by
   rw [zJ (fun z=>by rw [z,h] at q;cases q;cases hu)]
   exact q) fun b xs q=>by rw [zJ (nt b xs q)];exact q
 exact ⟨o,I.write (e:=a) (h':=s.heap) (t':=s.toks) mu (.inl rfl) (fun _ _ _ e=>e) ⟨o,ho⟩ ⟨ho,st⟩⟩
def tFrz (te:TE):TE:=fun σ H Q=>te σ H fun x H1=>∃ a u,x=.ref a/\H1 a=some u/\isD u=true/\∀ o,Q x (upd H1 a (.frz o u))
theorem i7 {e:Expr} {te:TE} (h:PE X e te):PE X e (tFrz te):=by
 intro qp s σ H Q I q
 refine thn (h qp s σ H _ I q) fun v s1 hz60=>?_
 obtain ⟨x,H1,I1,r1,q1⟩:=hz60
 obtain ⟨a,u,rfl,ha,hu,k⟩:=q1
 obtain ⟨o,I2⟩:=I1.freeze hu ha
 exact ⟨_,_,I2,r1,k o⟩
end
theorem sA {a:Addr} {o:Obj} {u:HO} {n:Nat} {Y:Nat->Hp->V->Prop} {g:TG} {tb:TS} {D:tQ} {σ:St} {H:Hp} (Pv:Nat->St->Hp->Prop) (h0:Pv 0 σ H) (hl:∀ i σ H,i <= n->Pv i σ H->H a=some (.frz o u))
  (hs:∀ i x σ H,i < n->Y i H x->Pv i σ H->g x σ H fun σ2 H2=>tb { D with nx:=Pv (i + 1),ct:=Pv (i + 1),bk:=D.nx } σ2 H2) (hd:∀ σ H,Pv n σ H->D.nx σ H) :
  ∃ W:Nat->Nat->St->Hp->Prop,(∃ m,W 0 m σ H)/\∀ i m σ H,W i m σ H ->
   ((Itg a o u n Y).stop i H/\D.nx σ H) \/ ((Itg a o u n Y).go i H/\∃ N:St->Hp->Prop,(∀ σ' H',N σ' H'->∃ m',m' < m/\W (i + 1) m' σ' H')/\∀ x H',(Itg a o u n Y).yld i H x H'->g x σ H' fun σ2 H2=>tb { D with nx:=N,ct:=N,bk:=D.nx } σ2 H2):=by
 refine ⟨fun i m σ H=>m=n - i/\i <= n/\Pv i σ H,⟨n,by simp,zCY _,h0⟩,?_⟩
 rintro i m σ H ⟨rfl,hi,p⟩
 have q:=hl i σ H hi p
 rcases Nat.lt_or_ge i n with lt | ge
 ·refine .inr ⟨⟨q,lt⟩,Pv (i + 1),fun σ' H' p'=>⟨n - (i + 1),by omega,rfl,lt,p'⟩,fun x H' y=>?_⟩
  obtain ⟨rfl,y⟩:=y
  exact hs i x σ _ lt y p
 ·obtain rfl:i=n:=by omega
  exact .inl ⟨⟨q,ge⟩,hd σ H p⟩
theorem sN {a:Addr} {o:Obj} {u:HO} {n:Nat} {Y:Nat->Hp->V->Prop} {xs:List Str} {ix:List Nat} {g:TG} {tt:TT} {te:TE} {σ:St} {H1:Hp} {Q:VK} {acc:Addr} (hn:n < sizeLine) (Pv:Nat->List V->St->Hp->Prop)
  (h0:Pv 0 [] (stC xs ix σ) (upd H1 acc (.lst [])))
  (hacc:∀ i ys τ H,Pv i ys τ H->H acc=some (.lst ys)/\ys.length <= i/\H a=some (.frz o u))
  (hs:∀ i ys τ H x,i < n->Y i H x->Pv i ys τ H->g x τ H fun τ2 H2=>tt τ2 H2 fun b H3=>
   if b=true then te τ2 H3 fun y H4=>H4 acc=some (.lst ys)/\Pv (i + 1) (ys ++ [y]) τ2 (upd H4 acc (.lst (ys ++ [y]))) else Pv (i + 1) ys τ2 H3)
  (hd:∀ ys τ H,Pv n ys τ H->Q (.ref acc) H):LCW (Itg a o u n Y) xs ix g tt te σ H1 acc Q:=by
 refine ⟨fun i m ys τ H=>m=n - i/\i <= n/\Pv i ys τ H,⟨n,by simp,zCY _,h0⟩,?_⟩
 rintro i m ys τ H ⟨rfl,hi,p⟩
 obtain ⟨a1,a2,a3⟩:=hacc i ys τ H p
 refine ⟨a1,by omega,?_⟩
 rcases Nat.lt_or_ge i n with lt | ge
 ·refine .inr ⟨⟨a3,lt⟩,Pv (i + 1),fun ys' τ' H' p'=>⟨n - (i + 1),by omega,rfl,lt,p'⟩,fun x H' y=>?_⟩
  obtain ⟨rfl,y⟩:=y
  exact hs i ys τ _ x lt y p
 ·obtain rfl:i=n:=by omega
  exact .inl ⟨⟨a3,ge⟩,hd ys τ H p⟩
end L2
namespace K16
open PySem L2
def nZ:Option Bool->Str->List V
 | none,y=>[.str "ask",.str y]
 | some b,y=>[.str "right",.str y,.bl b]
def yS (ns:List Str) (p:Str->Addr):List (Str × V):=ns.map fun n=>(n,V.ref (p n))
def xG (pr:LSS) (q:Str × Str->Addr):List (List Key × V):=pr.map fun e=>([Sum.inr e.1,Sum.inr e.2],V.ref (q e))
structure WAt (C:Addr) (H:Hp) (sd wd:Addr) (ns:List Str) (pr:LSS) (p wl:Str->Addr) (q:Str × Str->Addr) (st:Str->SS) (wy:Wy):Prop where
 sd:∃ o,H sd=some (.frz o (.dK (y6 (yS ns p))))
 wd:∃ o,H wd=some (.frz o (.dT (xG pr q)))
 se:∀ n ∈ ns,zN C H (p n) (wl n) (st n)
 le:∀ e ∈ pr,Rows H (q e) ((wy e.1 e.2).map fun b=>nZ b e.2)
 d1:∀ n ∈ ns,∀ m ∈ ns,n ≠ m->p n ≠ p m/\wl n ≠ wl m
 d2:∀ n ∈ ns,∀ e ∈ pr,q e ≠ wl n
 d3:∀ e ∈ pr,∀ f ∈ pr,e ≠ f->q e ≠ q f
theorem zN.off {C:Addr} {H H':Hp} {p wl:Addr} {s:SS} {S:List Addr} (h:zN C H p wl s) (k:zD S H H') (nt:∀ b ∈ S,∀ xs,H b ≠ some (.tup xs)) (h1:p ∉ S) (h2:wl ∉ S):zN C H' p wl s:=by
 obtain ⟨⟨dx,ho⟩,⟨ps,hw,pr⟩,l⟩:=h
 exact ⟨⟨dx,k _ _ h1 ho⟩,⟨ps,k _ _ h2 hw,yF k nt pr⟩,l⟩
theorem wT {H H':Hp} {l:Addr} {rows:List (List V)} {S:List Addr} (h:Rows H l rows) (k:zD S H H') (nt:∀ b ∈ S,∀ xs,H b ≠ some (.tup xs)) (h1:l ∉ S):Rows H' l rows:=by
 obtain ⟨ps,hw,pr⟩:=h
 exact ⟨ps,k _ _ h1 hw,yF k nt pr⟩
section
variable {C:Addr} {H H':Hp} {sd wd:Addr} {ns:List Str} {pr:LSS} {p wl:Str->Addr} {q:Str × Str->Addr} {st:Str->SS} {wy:Wy}
theorem WAt.keep (h:WAt C H sd wd ns pr p wl q st wy) (k:zD [] H H'):WAt C H' sd wd ns pr p wl q st wy:=by
 obtain ⟨o1,h1⟩:=h.sd
 obtain ⟨o2,h2⟩:=h.wd
 exact ⟨⟨o1,k _ _ (by simp) h1⟩,⟨o2,k _ _ (by simp) h2⟩,fun n hn=>(h.se n hn).keep k,fun e he=>(h.le e he).keep k,h.d1,h.d2,h.d3⟩
theorem WAt.seat (h:WAt C H sd wd ns pr p wl q st wy) {n:Str} {s':SS} (hn:n ∈ ns) (S':zN C H' (p n) (wl n) s') (k:zD [p n,wl n] H H'):WAt C H' sd wd ns pr p wl q (stU st n s') wy:=by
 obtain ⟨⟨dx,ho⟩,⟨ps,hw,hp⟩,_⟩:=h.se n hn
 have nt:=w6 ho hw
 have ins:∀ {b:Addr} {u:HO},H b=some u->(∀ fs,u ≠ .ins C dx fs)->b ≠ p n:=fun {b u} e nu z=>by rw [z,ho] at e;cases e;exact nu _ rfl
 have lst:∀ {b:Addr} {u:HO},H b=some u->(∀ xs,u ≠ .lst xs)->b ≠ wl n:=fun {b u} e nu z=>by rw [z,hw] at e;cases e;exact nu _ rfl
 obtain ⟨o1,h1⟩:=h.sd
 obtain ⟨o2,h2⟩:=h.wd
 have out:∀ {b:Addr},b ≠ p n->b ≠ wl n->b ∉ [p n,wl n]:=fun {b} a c hb=>by
  rcases List.mem_cons.mp hb with e | e
  ·exact a e
  ·exact c (zCR.mp e)
 refine ⟨⟨o1,k _ _ (out (ins h1 fun _ z=>by cases z) (lst h1 fun _ z=>by cases z)) h1⟩,⟨o2,k _ _ (out (ins h2 fun _ z=>by cases z) (lst h2 fun _ z=>by cases z)) h2⟩,fun m hm=>?_,fun e he=>?_,h.d1,h.d2,h.d3⟩
 ·by_cases e:m=n
  ·subst e
   rw [zL];exact S'
  ·rw [zY e]
   obtain ⟨a1,a2⟩:=h.d1 m hm n hn e
   have Sm:=h.se m hm
   obtain ⟨⟨dm,om⟩,⟨pm,wm,_⟩,_⟩:=id Sm
   exact Sm.off k nt (out a1 (lst om fun _ z=>by cases z)) (out (ins wm fun _ z=>by cases z) a2)
 ·have R:=h.le e he
  obtain ⟨qs,hq,_⟩:=id R
  exact wT R k nt (out (ins hq fun _ z=>by cases z) (h.d2 n hn e he))
theorem WAt.way (h:WAt C H sd wd ns pr p wl q st wy) {e:Str × Str} {l:List (Option Bool)} (he:e ∈ pr) (R':Rows H' (q e) (l.map fun b=>nZ b e.2)) (k:zD [q e] H H'):WAt C H' sd wd ns pr p wl q st (wyU wy e.1 e.2 l):=by
 obtain ⟨qs,hq,_⟩:=h.le e he
 have nt:∀ b ∈ [q e],∀ xs,H b ≠ some (.tup xs):=fun b hb xs z=>by
  rw [zCR.mp hb,hq] at z;cases z
 have ne:∀ {b:Addr} {u:HO},H b=some u->(∀ xs,u ≠ .lst xs)->b ∉ [q e]:=fun {b u} e' nu z=>by
  rw [zCR.mp z,hq] at e';cases e';exact nu _ rfl
 obtain ⟨o1,h1⟩:=h.sd
 obtain ⟨o2,h2⟩:=h.wd
 refine ⟨⟨o1,k _ _ (ne h1 fun _ z=>by cases z) h1⟩,⟨o2,k _ _ (ne h2 fun _ z=>by cases z) h2⟩,fun m hm=>?_,fun f hf=>?_,h.d1,h.d2,h.d3⟩
 ·have Sm:=h.se m hm
  obtain ⟨⟨dm,om⟩,_,_⟩:=id Sm
  exact Sm.off k nt (ne om fun _ z=>by cases z) fun z=>h.d2 m hm e he (zCR.mp z).symm
 ·by_cases ef:f=e
  ·subst ef
   rw [z6];exact R'
  ·rw [yI (fun z=>ef (Prod.ext z.1 z.2))]
   exact wT (h.le f hf) k nt fun z=>h.d3 f hf e he ef (zCR.mp z)
theorem eC {tb:List (Str × V)} {z:Str} {v:V} (nd:(tb.map (·.1)).Nodup) (h:(z,v) ∈ tb):wL (y6 tb) (Sum.inr z)=some v:=by
 unfold y6
 induction tb with
 | nil=>cases h
 | cons a r ih=>
  rw [List.map_cons] at nd
  obtain ⟨na,ndr⟩:=List.nodup_cons.mp nd
  rw [List.map_cons]
  rcases List.mem_cons.mp h with e | e
  ·subst e
   exact wR rfl
  ·rw [xV]
   ·exact ih ndr e
   ·intro q
    have q:a.1=z:=Sum.inr.inj q
    exact na (q ▸ List.mem_map_of_mem (f:=fun p:Str × V=>p.1) e)
theorem WAt.gs (h:WAt C H sd wd ns pr p wl q st wy) (nd:ns.Nodup) {n:Str} (hn:n ∈ ns):tG H sd (.str n) (some (.ref (p n))):=by
 obtain ⟨o,e⟩:=h.sd
 have v:wL (y6 (yS ns p)) (Sum.inr n)=some (.ref (p n)):=eC (by unfold yS;rw [zC8];show (ns.map id).Nodup;rw [List.map_id];exact nd) (by unfold yS;exact List.mem_map.mpr ⟨n,hn,rfl⟩)
 exact .inl ⟨_,Sum.inr n,.inr ⟨o,e⟩,rfl,v.symm⟩
theorem j8:∀ {pr:LSS} {e:Str × Str},pr.Nodup->e ∈ pr->wL (xG pr q) [Sum.inr e.1,Sum.inr e.2]=some (.ref (q e))
 | [],_,_,h=>by cases h
 | a :: r,e,nd,h=>by
  obtain ⟨na,ndr⟩:=List.nodup_cons.mp nd
  unfold xG
  rw [List.map_cons]
  rcases List.mem_cons.mp h with q | q
  ·subst q
   exact wR rfl
  ·rw [xV]
   ·exact j8 ndr q
   ·intro z
    injection z with z1 z
    injection z with z2 _
    exact na (by rw [show a=e from Prod.ext (Sum.inr.inj z1) (Sum.inr.inj z2)];exact q)
theorem WAt.gw (h:WAt C H sd wd ns pr p wl q st wy) (nd:pr.Nodup) {e:Str × Str} {t:Addr} (he:e ∈ pr) (ht:H t=some (.tup [.str e.1,.str e.2])):tG H wd (.ref t) (some (.ref (q e))):=by
 obtain ⟨o,ho⟩:=h.wd
 exact .inr ⟨_,[Sum.inr e.1,Sum.inr e.2],t,.inr ⟨o,ho⟩,rfl,ht,(j8 nd he).symm⟩
end
section
variable {ns As:List Str} {T:Str->Str->Prop} {st:Str->SS} {wy:Wy} {l:Loc}
theorem rL:∀ {zs ys:LSS},zs.Nodup->(∀ z ∈ zs,z ∈ ys)->zs.length <= ys.length
 | [],_,_,_=>zCY _
 | z :: zs,ys,nd,sub=>by
  have hz:=sub z zDH
  have nd':=List.nodup_cons.mp nd
  have ih:=rL (zs:=zs) (ys:=ys.erase z) nd'.2 fun y hy=>(List.mem_erase_of_ne fun e=>nd'.1 (by rw [<- e];exact hy)).mpr (sub y (zC1 _ hy))
  rw [List.length_erase_of_mem hz] at ih
  have:=List.length_pos_of_mem hz
  rw [zC9];omega
theorem xD.rows (c:xD ns As T st wy l) (n6:ns.length <= 6) (a2:As.length <= 2) {n:Str} (hn:n ∈ ns):(st n).row.length <= 8:=by
 have r:=c.i n hn
 have nd:(st n).row.Nodup:=List.nodup_iff_count.mpr fun x=>by
  by_cases hx:x ∈ (st n).row
  ·rcases r.k x hx with ⟨a,rfl,_⟩ | ⟨z,rfl⟩
   ·exact r.u a
   ·obtain ⟨hz,pz⟩:=c.f n hn z hx
    have:=c.le hz pz
    unfold wV at this
    omega
  ·rw [List.count_eq_zero.mpr hx];omega
 have:=rL (ys:=As.map yJ ++ ns.map hsR) nd fun x hx=>by
  rcases r.k x hx with ⟨a,rfl,ha⟩ | ⟨z,rfl⟩
  ·exact List.mem_append_left _ (List.mem_map_of_mem ha)
  ·exact zC2 _ (List.mem_map_of_mem (c.f n hn z hx).1)
 rw [zC6,zCO,zCO] at this
 omega
end
abbrev lI:Stmt:=top 22
def wS (ns:List Str) (pr:LSS) (p wl:Str->Addr) (q:Str × Str->Addr):List Addr:=ns.map p ++ ns.map wl ++ pr.map q
section
variable {C:Addr} {H H':Hp} {sd wd:Addr} {ns:List Str} {pr:LSS} {p wl:Str->Addr} {q:Str × Str->Addr} {st:Str->SS} {wy:Wy}
theorem zA4 {n:Str} (hn:n ∈ ns):∀ b ∈ [p n,wl n],b ∈ wS ns pr p wl q:=fun b hb=>by
 unfold wS
 rcases List.mem_cons.mp hb with e | e
 ·rw [e];exact List.mem_append_left _ (List.mem_append_left _ (List.mem_map_of_mem hn))
 ·rw [zCR.mp e];exact List.mem_append_left _ (zC2 _ (List.mem_map_of_mem hn))
theorem zA3 {e:Str × Str} (he:e ∈ pr):∀ b ∈ [q e],b ∈ wS ns pr p wl q:=fun b hb=>by
 rw [zCR.mp hb];exact zC2 _ (List.mem_map_of_mem he)
theorem WAt.new (h:WAt C H sd wd ns pr p wl q st wy) {b:Addr} (hb:H b=none):b ∉ wS ns pr p wl q:=fun hm=>by
 rcases zC5.mp hm with hm | hm
 ·rcases zC5.mp hm with hm | hm
  ·obtain ⟨n,hn,rfl⟩:=List.mem_map.mp hm
   obtain ⟨⟨dx,e⟩,_⟩:=h.se n hn
   rw [hb] at e;cases e
  ·obtain ⟨n,hn,rfl⟩:=List.mem_map.mp hm
   obtain ⟨_,⟨ps,e,_⟩,_⟩:=h.se n hn
   rw [hb] at e;cases e
 ·obtain ⟨x,hx,rfl⟩:=List.mem_map.mp hm
  obtain ⟨ps,e,_⟩:=h.le x hx
  rw [hb] at e;cases e
theorem WAt.post (h:WAt C H sd wd ns pr p wl q st wy) {e:Str × Str} (he:e ∈ pr) {t:Addr} {b:Option Bool} (ht:H t=some (.tup (nZ b e.2))) {qs:List Addr} (hq:H (q e)=some (.lst (qs.map V.ref))):WAt C (upd H (q e) (.lst (qs.map V.ref ++ [.ref t]))) sd wd ns pr p wl q st (wyU wy e.1 e.2 (wy e.1 e.2 ++ [b]))/\zD [q e] H (upd H (q e) (.lst (qs.map V.ref ++ [.ref t]))):=by
 have k:zD [q e] H (upd H (q e) (.lst (qs.map V.ref ++ [.ref t]))):=zD.at (by simp)
 obtain ⟨qs',hq',hp⟩:=h.le e he
 rw [hq] at hq'
 have eq:qs=qs':=(List.map_inj_right (f:=V.ref) (fun _ _ z=>by injection z)).mp (by have z:=zCV hq';injection z)
 subst eq
 have far:∀ {x:Addr} {xs:List V},H x=some (.tup xs)->upd H (q e) (.lst (qs.map V.ref ++ [.ref t])) x=some (.tup xs):=fun {x xs} z=>by
  rw [zJ (fun w=>by rw [w,hq] at z;cases z)];exact z
 refine ⟨h.way he ⟨qs ++ [t],by rw [zC,zC0];rfl,?_⟩ k,k⟩
 rw [zC0]
 exact wH (L2.Paired.mapP hp fun _ _ z=>far z) (far ht)
theorem WAt.pop (h:WAt C H sd wd ns pr p wl q st wy) {e:Str × Str} (he:e ∈ pr) {b:Option Bool} {w:List (Option Bool)} (hw:wy e.1 e.2=b :: w):∃ (t:Addr) (qs:List Addr),H (q e)=some (.lst ((t :: qs).map V.ref))/\H t=some (.tup (nZ b e.2))/\WAt C (upd H (q e) (.lst (qs.map V.ref))) sd wd ns pr p wl q st (wyU wy e.1 e.2 w)/\zD [q e] H (upd H (q e) (.lst (qs.map V.ref))):=by
 obtain ⟨qs,hq,hp⟩:=h.le e he
 rw [hw,List.map_cons] at hp
 cases hp with
 | @cons t _ ts _ ht hp=>
 have k:zD [q e] H (upd H (q e) (.lst (ts.map V.ref))):=zD.at (by simp)
 have far:∀ {x:Addr} {xs:List V},H x=some (.tup xs)->upd H (q e) (.lst (ts.map V.ref)) x=some (.tup xs):=fun {x xs} z=>by
  rw [zJ (fun w=>by rw [w,hq] at z;cases z)];exact z
 exact ⟨t,ts,hq,ht,h.way he ⟨ts,zC,L2.Paired.mapP hp fun _ _ z=>far z⟩ k,k⟩
end
section
variable {P:Program} {w:World} {K:W.Frag} {mg:Str->Option Value} {base:Heap} {C:Addr}
theorem iM:zQ ["_law_ways","_law_name","_law_told","_law_line"] ["_law_ways","_law_name","_law_told"] (zG lI):=scm
def zAX (pr:LSS) (n:Str):Tl->Prop
 | .ask y=>(n,y) ∈ pr
 | .right x _=>(n,x) ∈ pr
 | .no=>True
 | .given _=>True
def nB (C:Addr):Sp:=fun vs H Q _=>∃ (sd wd tl:Addr) (n:Str) (ns:List Str) (pr:LSS) (p wl:Str->Addr) (q:Str × Str->Addr) (st:Str->SS) (wy:Wy) (t:Tl),vs=[.ref wd,.str n,.ref tl]/\WAt C H sd wd ns pr p wl q st wy/\pr.Nodup/\Rows H tl (tlV t)/\tl ∉ wS ns pr p wl q/\zAX pr n t/\(∀ x y,(wy x y).length <= 2) /\
 ∀ H',WAt C H' sd wd ns pr p wl q st (tlW wy n t)->zD (wS ns pr p wl q) H H'->Q .non H'
theorem aY (G:y1 K mg "_law_sent" lI ["_law_ways","_law_name","_law_told"]):Cal P w K mg base CX0 1 "_law_sent" ["_law_ways","_law_name","_law_told"] (nB C):=by
 refine G.ok iM (fun vs H Q E h=>by obtain ⟨_,_,_,_,_,_,_,_,_,_,_,_,rfl,_⟩:=h;rfl) (fun f cdv A outer s0 H vs Q E hr h=>?_)
 obtain ⟨sd,wd,tl,n,ns,pr,p,wl,q,st,wy,t,rfl,W,nd,⟨ps,hl,hp⟩,nt,ti,l2,k⟩:=h
 have hu:=wZ hr
 refine ⟨_,(zH (wM PassesOwn.never rfl (wF (pv 2)) (yD (i:=3) iM.nd rfl (Or.inl rfl)) (zH (yG (zM sK (zT zW (pv 3) zI (fun _ _=>rfl)) z7 (zR _)) (zH (yT (wX F.plainAttrs_list F.slot_list_append F.type_list_append y2 (yA hu (pv 0) (yC (zA (pv 1) (zA (zT zW (pv 3) zI (fun _ _=>rfl)) zE))) (fun _ _=>rfl)) (zA (pv 3) zE)))) zP)))),?_⟩
 have lp:=zU hp
 have post:∀ {y:Str} {b:Option Bool} {t0:Addr},(n,y) ∈ pr->H t0=some (.tup (nZ b y))->∀ {R:St->Hp->Prop} {kt:Addr},H kt=none->(∀ H',WAt C H' sd wd ns pr p wl q st (wyU wy n y (wy n y ++ [b]))->zD (wS ns pr p wl q) H H'->R [some (.ref wd),some (.str n),some (.ref tl),some (.ref t0)] H') ->
   ∃ a v,V.ref wd=.ref a/\tG (upd H kt (.tup [.str n,.str y])) a (.ref kt) (some v)/\tyV K "list" v (upd H kt (.tup [.str n,.str y]))/\∃ l xs z,v=.ref l/\[V.ref t0]=[z]/\(upd H kt (.tup [.str n,.str y])) l=some (.lst xs)/\xs.length < sizeLine/\R [some (.ref wd),some (.str n),some (.ref tl),some (.ref t0)] (upd (upd H kt (.tup [.str n,.str y])) l (.lst (xs ++ [z]))):=fun {y b t0} he ht {R kt} hk fin=>by
  have k1:zD [] H (upd H kt (.tup [.str n,.str y])):=zD.new hk
  have ek:upd H kt (.tup [.str n,.str y]) kt=some (.tup [.str n,.str y]):=zC
  generalize upd H kt (.tup [.str n,.str y])=H1 at k1 ek
  have W1:=W.keep k1
  obtain ⟨qs,hq,hpq⟩:=W1.le (n,y) he
  have lq:=zU hpq
  rw [zCO] at lq
  obtain ⟨W2,k2⟩:=W1.post he (b:=b) (k1 _ _ (by simp) ht) hq
  refine ⟨wd,_,rfl,W1.gw nd he ek,.inl ⟨rfl,_,.of hq⟩,_,_,_,rfl,rfl,hq,?_,fin _ W2 (fun c o hc hh=>k2 c o (fun z=>hc (zA3 he c z)) (k1 c o (by simp) hh))⟩
  have:=l2 n y
  rw [zCO,sizeLine_eq,lq]
  show (wy n y).length < _
  omega
 have one:(tlV t).length <= 1:=by cases t <;> simp [tlV]
 refine ⟨_,rfl,tl,rfl,⟨_,.of hl⟩,uL (K:=K) (a:=tl) (xs:=ps.map V.ref) (fun i σ H1=>∃ v:Option V,σ=[some (.ref wd),some (.str n),some (.ref tl),v]/\((i=0/\H1=H) \/ (i=1/\WAt C H1 sd wd ns pr p wl q st (tlW wy n t)/\zD (wS ns pr p wl q) H H1))) ⟨_,rfl,.inl ⟨rfl,rfl⟩⟩ (fun i σ H1 _ ⟨_,_,h⟩=>?_) ?_ ?_⟩
 ·rcases h with ⟨_,e⟩ | ⟨_,_,k1⟩
  ·rw [e];exact .of hl
  ·exact .of (k1 _ _ nt hl)
 ·rintro i x σ H1 hx ⟨v,rfl,h⟩
  rw [zCU] at hx
  cases et:ps[i]? with
  | none=>rw [et] at hx;cases hx
  | some t0=>
  rw [et] at hx
  obtain rfl:V.ref t0=x:=zCV hx
  obtain ⟨row,er,ht0⟩:=y0 hp i t0 et
  obtain rfl:i=0:=by
   have:=(zCQ.mp er).1
   omega
  obtain rfl:H1=H:=by
   rcases h with ⟨_,e⟩ | ⟨e,_⟩
   ·exact e
   ·cases e
  cases t with
  | no=>cases er
  | given a=>
   cases er
   exact ⟨_,rfl,t0,_,0,_,rfl,rfl,ht0,rfl,rfl,_,rfl,ifF (by decide +kernel) ⟨_,rfl,.inr ⟨rfl,W,fun _ _ _ z=>z⟩⟩⟩
  | ask y=>
   cases er
   refine ⟨_,rfl,t0,_,0,_,rfl,rfl,ht0,rfl,rfl,_,rfl,ifT (by decide +kernel) ?_⟩
   refine ⟨_,rfl,_,rfl,_,rfl,t0,_,1,_,rfl,rfl,ht0,rfl,by show 2 <= sizeLine;decide,fun kt hkt=>?_⟩
   obtain ⟨a,v',e1,e2,e3,l',xs',z',e4,e5,e6,e7,e8⟩:=post ti (b:=none) ht0 (R:=fun σ H2=>∃ v:Option V,σ=[some (.ref wd),some (.str n),some (.ref tl),v]/\((0 + 1=0/\H2=H1) \/ (0 + 1=1/\WAt C H2 sd wd ns pr p wl q st (tlW wy n (.ask y))/\zD (wS ns pr p wl q) H1 H2))) hkt fun H' W' k'=>⟨_,rfl,.inr ⟨rfl,W',k'⟩⟩
   exact ⟨a,v',e1,e2,e3,_,rfl,l',xs',z',e4,e5,e6,e7,e8⟩
  | right y b=>
   cases er
   refine ⟨_,rfl,t0,_,0,_,rfl,rfl,ht0,rfl,rfl,_,rfl,ifT (by decide +kernel) ?_⟩
   refine ⟨_,rfl,_,rfl,_,rfl,t0,_,1,_,rfl,rfl,ht0,rfl,by show 2 <= sizeLine;decide,fun kt hkt=>?_⟩
   obtain ⟨a,v',e1,e2,e3,l',xs',z',e4,e5,e6,e7,e8⟩:=post ti (b:=some b) ht0 (R:=fun σ H2=>∃ v:Option V,σ=[some (.ref wd),some (.str n),some (.ref tl),v]/\((0 + 1=0/\H2=H1) \/ (0 + 1=1/\WAt C H2 sd wd ns pr p wl q st (tlW wy n (.right y b))/\zD (wS ns pr p wl q) H1 H2))) hkt fun H' W' k'=>⟨_,rfl,.inr ⟨rfl,W',k'⟩⟩
   exact ⟨a,v',e1,e2,e3,_,rfl,l',xs',z',e4,e5,e6,e7,e8⟩
 ·rintro σ H1 ⟨v,rfl,h⟩
  rw [zCO,lp] at h
  rcases h with ⟨e0,rfl⟩ | ⟨_,W1,k1⟩
  ·cases t with
   | no=>exact k _ W (fun _ _ _ z=>z)
   | _=>cases e0
  ·exact k _ W1 k1
end
abbrev sCm:Stmt:=top 23
abbrev sPu:Stmt:=top 25
structure Fx (ns As:List Str) (pr:LSS):Prop where
 nd:ns.Nodup
 np:pr.Nodup
 sym:∀ a b,(a,b) ∈ pr->(b,a) ∈ pr
 inn:∀ e ∈ pr,e.1 ∈ ns/\e.2 ∈ ns
 n6:ns.length <= 6
 a2:As.length <= 2
 gn:∀ n ∈ ns,vT n
 ga:∀ a ∈ As,vT a
 pl:pr.length <= 100
def Aft (C:Addr) (H':Hp) (sd wd:Addr) (ns As:List Str) (pr:LSS) (p wl:Str->Addr) (q:Str × Str->Addr) (st:Str->SS) (wy:Wy) (l:Loc) (cd:Bool) (n:Str) (r:Addr):Prop:=
 ∃ (tl:Tl) (s':SS) (wy1:Wy) (l':Loc),Rows H' r (tlV tl)/\r ∉ wS ns pr p wl q/\WAt C H' sd wd ns pr p wl q (stU st n s') wy1/\(∀ x y,(wy1 x y).length <= 2)/\zAX pr n tl/\Sys ns As (fun a b=>(a,b) ∈ pr) (stU st n s') (tlW wy1 n tl) l' /\
  (cd=true->gvL tl ++ wa s'=wa (st n)/\phi ns (stU st n s') (tlW wy1 n tl) l' + 1 <= phi ns st wy l)
theorem cW {ns As:List Str} {pr:LSS} {st:Str->SS} {wy:Wy} {l:Loc} {n:Str} {tl:Tl} (S:Sys ns As (fun a b=>(a,b) ∈ pr) st (tlW wy n tl) l):zAX pr n tl:=by
 cases tl with
 | no=>exact True.intro
 | given a=>exact True.intro
 | ask y=>
  obtain ⟨hn,hp⟩:=S.c.w n y (by show wyU wy n y (wy n y ++ [none]) n y ≠ [];rw [z6];simp)
  exact (S.c.b n hn y hp).2
 | right x b=>
  obtain ⟨hn,hp⟩:=S.c.w n x (by show wyU wy n x (wy n x ++ [some b]) n x ≠ [];rw [z6];simp)
  exact (S.c.b n hn x hp).2
theorem xD.len2 {ns As:List Str} {T:Str->Str->Prop} {st:Str->SS} {wy:Wy} {l:Loc} (c:xD ns As T st wy l) (x y:Str):(wy x y).length <= 2:=by
 rcases c.sh x y with h | h | ⟨b,h⟩ | h <;> rw [h] <;> simp
section
variable {P:Program} {w:World} {K:W.Frag} {mg:Str->Option Value} {base:Heap} {C:Addr}
theorem zBN:zQ ["_law_seats","_law_ways","_law_way","_law_letter"] ["_law_seats","_law_ways","_law_way"] (zG sCm):=scm
theorem zBK:zQ ["_law_seats","_law_ways","_law_deed","_law_seat"] ["_law_seats","_law_ways","_law_deed"] (zG sPu):=scm
def zBE (C:Addr):Sp:=fun vs H Q _=>∃ (sd wd wt:Addr) (e:Str × Str) (ns As:List Str) (pr:LSS) (p wl:Str->Addr) (q:Str × Str->Addr) (st:Str->SS) (wy:Wy) (l:Loc),vs=[.ref sd,.ref wd,.ref wt]/\Fx ns As pr/\WAt C H sd wd ns pr p wl q st wy/\Sys ns As (fun a b=>(a,b) ∈ pr) st wy l/\e ∈ pr/\H wt=some (.tup [.str e.1,.str e.2])/\wy e.1 e.2 ≠ [] /\
 ∀ (r:Addr) (H':Hp),Aft C H' sd wd ns As pr p wl q st wy l true e.2 r->H r=none->zD (wS ns pr p wl q) H H'->Q (.ref r) H'
theorem okCm (T:xE K C) (G:y1 K mg "_law_come" sCm ["_law_seats","_law_ways","_law_way"]) (MA:xB P w K mg base CX0 3 C "ask" ["self","house"] (bC C)) (MC:xB P w K mg base CX0 3 C "come" ["self","house","back"] (iL C)):Cal P w K mg base CX0 4 "_law_come" ["_law_seats","_law_ways","_law_way"] (zBE C):=by
 refine G.ok zBN (fun vs H Q E h=>by obtain ⟨_,_,_,_,_,_,_,_,_,_,_,_,_,rfl,_⟩:=h;rfl) (fun f cdv A outer s0 H vs Q E hr h=>?_)
 obtain ⟨sd,wd,wt,⟨x,n⟩,ns,As,pr,p,wl,q,st,wy,l,rfl,F,W,S,he,hwt,ne,k⟩:=h
 have hr3:z9 3 _:=hr
 have hu:=wZ hr
 refine ⟨_,(zB (zV (i:=3) zBN.nd rfl (Or.inl rfl) (wX PySem.F.plainAttrs_list PySem.F.slot_list_pop PySem.F.type_list_pop p6 (yA hu (pv 1) (pv 2) (fun _ _=>rfl)) (zA zI zE)))
   (zB (yG (zM wY (zT zW (pv 3) zI (fun _ _=>rfl)) z7 (zR _)) (zH (zO (sI MA T.cl hr3 (yA hu (pv 0) (zT zW (pv 2) zI (fun _ _=>rfl)) (fun _ _=>rfl)) (zA (zT zW (pv 2) zI (fun _ _=>rfl)) zE)))) zP)
   (zH (zO (sI MC T.cl hr3 (yA hu (pv 0) (zT zW (pv 2) zI (fun _ _=>rfl)) (fun _ _=>rfl)) (zA (zT zW (pv 2) zI (fun _ _=>rfl)) (zA (zT zW (pv 3) zI (fun _ _=>rfl)) zE))))))),?_⟩
 obtain ⟨hx,hn⟩:x ∈ ns/\n ∈ ns:=F.inn _ he
 have hwt:H wt=some (.tup [.str x,.str n]):=hwt
 obtain ⟨b,ws,hw⟩:=List.exists_cons_of_ne_nil ne
 have hw:wy x n=b :: ws:=hw
 obtain ⟨t,qs,hq,ht,W1,k1⟩:=W.pop he hw
 have nwt:wt ∉ [q (x,n)]:=fun z=>by rw [zCR.mp z,hq] at hwt;cases hwt
 have ntt:t ∉ [q (x,n)]:=fun z=>by rw [zCR.mp z,hq] at ht;cases ht
 refine ⟨_,rfl,_,rfl,wd,_,rfl,W.gw F.np he hwt,.inl ⟨rfl,_,.of hq⟩,q (x,n),_,0,0,.ref t,rfl,rfl,hq,by decide,by decide,by rw [zCO,zC9];exact zBH _,rfl,?_⟩
 show _
 have er:((t :: qs).map V.ref).eraseIdx 0=qs.map V.ref:=rfl
 rw [er]
 have hwt1:=k1 _ _ nwt hwt
 have ht1:=k1 _ _ ntt ht
 generalize upd H (q (x,n)) (.lst (qs.map V.ref))=H1 at W1 k1 hwt1 ht1
 have low:∀ {r:Addr},H1 r=none->H r=none:=fun {r} h=>by
  by_cases e:r=q (x,n)
  ·obtain ⟨qs',e',_⟩:=W1.le _ he
   rw [e,e'] at h;cases h
  ·exact k1.none (by simpa using e) h
 have Sn:=W1.se n hn
 obtain ⟨⟨dx,hob⟩,_,_⟩:=id Sn
 have g:=F.gn x hx
 have l8:=S.c.rows F.n6 F.a2 hn
 have len2:∀ a c,(wyU wy x n ws a c).length <= 2:=fun a c=>by
  by_cases e:a=x/\c=n
  ·obtain ⟨rfl,rfl⟩:=e
   have:=S.c.len2 a c
   rw [hw,zC9] at this
   rw [z6];omega
  ·rw [yI e];exact S.c.len2 a c
 have fin:∀ {s1:SS} {r:Addr} {H2:Hp},zN C H2 (p n) (wl n) (zK s1).1->Rows H2 r (zK s1).2->H1 r=none->zD [p n,wl n] H1 H2->(∃ tl l',(zK s1).2=tlV tl/\Sys ns As (fun a b=>(a,b) ∈ pr) (stU st n (zK s1).1) (tlW (wyU wy x n ws) n tl) l'/\gvL tl ++ wa (zK s1).1=wa (st n)/\phi ns (stU st n (zK s1).1) (tlW (wyU wy x n ws) n tl) l' + 1 <= phi ns st wy l)->Q (.ref r) H2:=fun {s1 r H2} S2 R2 hr2 k2 ⟨tl,l',e1,S',e3,e4⟩=>by
  rw [e1] at R2
  exact k r H2 ⟨tl,_,_,l',R2,W1.new hr2,W1.seat hn S2 k2,len2,cW S',S',fun _=>⟨e3,e4⟩⟩ (low hr2) (fun c o hc hh=>k2 c o (fun z=>hc (zA4 hn c z)) (k1 c o (fun z=>hc (zA3 he c z)) hh))
 cases b with
 | none=>
  refine ⟨_,rfl,t,_,0,_,rfl,rfl,ht1,rfl,rfl,_,rfl,ifT (by decide +kernel) ?_⟩
  obtain ⟨a1,a2,_,st'⟩:=iH F.sym F.nd F.n6 S hn hw
  exact ⟨_,rfl,_,rfl,wt,_,1,_,rfl,rfl,hwt1,rfl,sd,_,rfl,W1.gs F.nd hn,p n,dx,_,rfl,hob,zAR _ _ _ _,_,rfl,wt,_,0,_,rfl,rfl,hwt1,rfl,p n,wl n,st n,x,rfl,Sn,g.1,by have:=g.2;omega,a1,a2,by omega,fun r H2 S2 R2 hr2 k2=>fin S2 R2 hr2 k2 st'⟩
 | some c=>
  refine ⟨_,rfl,t,_,0,_,rfl,rfl,ht1,rfl,rfl,_,rfl,ifF (by decide +kernel) ?_⟩
  obtain ⟨a1,_,_,st'⟩:=kX F.sym F.nd F.n6 S hw
  exact ⟨_,rfl,_,rfl,wt,_,1,_,rfl,rfl,hwt1,rfl,sd,_,rfl,W1.gs F.nd hn,p n,dx,_,rfl,hob,zCH _ _ _ _,_,rfl,wt,_,0,_,rfl,rfl,hwt1,rfl,_,rfl,t,_,2,_,rfl,rfl,ht1,rfl,p n,wl n,st n,x,c,rfl,Sn,g.1,by have:=g.2;omega,a1,by omega,fun r H2 S2 R2 hr2 k2=>fin S2 R2 hr2 k2 st'⟩
inductive De where
 | come (e:Str × Str) (t:Addr)
 | want (n a:Str)
 | leave (n a:Str)
 | done (n a:Str)
def deV:De->List V
 | .come _ t=>[.str "come",.ref t]
 | .want n a=>[.str "want",.str n,.str a]
 | .leave n a=>[.str "leave",.str n,.str a]
 | .done n a=>[.str "done",.str n,.str a]
def deN:De->Str
 | .come e _=>e.2
 | .want n _=>n
 | .leave n _=>n
 | .done n _=>n
def deC:De->Bool
 | .come _ _=>true
 | .done _ _=>true
 | .want _ _=>false
 | .leave _ _=>false
def pI (H:Hp) (ns As:List Str) (pr:LSS) (st:Str->SS) (wy:Wy):De->Prop
 | .come e t=>e ∈ pr/\H t=some (.tup [.str e.1,.str e.2])/\wy e.1 e.2 ≠ []
 | .want n a=>n ∈ ns/\a ∈ As/\(st n).hold ≠ some a/\yJ a ∉ (st n).row
 | .leave n a=>n ∈ ns/\a ∈ As/\yJ a ∈ (st n).row
 | .done n a=>n ∈ ns/\(st n).hold=some a
def b8 (C:Addr):Sp:=fun vs H Q _=>∃ (sd wd dt:Addr) (d:De) (ns As:List Str) (pr:LSS) (p wl:Str->Addr) (q:Str × Str->Addr) (st:Str->SS) (wy:Wy) (l:Loc),vs=[.ref sd,.ref wd,.ref dt]/\Fx ns As pr/\WAt C H sd wd ns pr p wl q st wy/\Sys ns As (fun a b=>(a,b) ∈ pr) st wy l/\H dt=some (.tup (deV d))/\pI H ns As pr st wy d /\
 ∀ (t r:Addr) (H':Hp),H' t=some (.tup [.str (deN d),.ref r])->Aft C H' sd wd ns As pr p wl q st wy l (deC d) (deN d) r->H t=none->H r=none->zD (wS ns pr p wl q) H H'->Q (.ref t) H'
theorem okPu (T:xE K C) (G:y1 K mg "_law_put" sPu ["_law_seats","_law_ways","_law_deed"]) (CCo:Cal P w K mg base CX0 4 "_law_come" ["_law_seats","_law_ways","_law_way"] (zBE C)) (MW:xB P w K mg base CX0 3 C "want" ["self","asker"] (iJ C)) (ML:xB P w K mg base CX0 3 C "leave" ["self","asker"] (lE C)) (MD:xB P w K mg base CX0 3 C "done" ["self","asker"] (iK C)):Cal P w K mg base CX0 5 "_law_put" ["_law_seats","_law_ways","_law_deed"] (b8 C):=by
 refine G.ok zBK (fun vs H Q E h=>by obtain ⟨_,_,_,_,_,_,_,_,_,_,_,_,_,rfl,_⟩:=h;rfl) (fun f cdv A outer s0 H vs Q E hr h=>?_)
 obtain ⟨sd,wd,dt,d,ns,As,pr,p,wl,q,st,wy,l,rfl,F,W,S,hdt,ok,k⟩:=h
 have hr4:z9 4 _:=hr
 have hr3:z9 3 _:=hr.mono (by decide)
 have hu:=wZ hr
 refine ⟨_,(zB (yG (zM wY (zT zW (pv 2) zI (fun _ _=>rfl)) z7 (zR _)) (zH (zO (yC (zA (zT zW (zT zW (pv 2) zI (fun _ _=>rfl)) zI (fun _ _=>rfl)) (zA (zZ CCo hr4 (zA (pv 0) (zA (pv 1) (zA (zT zW (pv 2) zI (fun _ _=>rfl)) zE)))) zE))))) zP)
   (zB (zV (i:=3) zBK.nd rfl (Or.inl rfl) (yA hu (pv 0) (zT zW (pv 2) zI (fun _ _=>rfl)) (fun _ _=>rfl)))
   (zB (yG (zM wY (zT zW (pv 2) zI (fun _ _=>rfl)) z7 (zR _)) (zH (zO (yC (zA (zT zW (pv 2) zI (fun _ _=>rfl)) (zA (sI MW T.cl hr3 (pv 3) (zA (zT zW (pv 2) zI (fun _ _=>rfl)) zE)) zE))))) zP)
   (zB (yG (zM wY (zT zW (pv 2) zI (fun _ _=>rfl)) z7 (zR _)) (zH (zO (yC (zA (zT zW (pv 2) zI (fun _ _=>rfl)) (zA (sI ML T.cl hr3 (pv 3) (zA (zT zW (pv 2) zI (fun _ _=>rfl)) zE)) zE))))) zP)
   (zH (zO (yC (zA (zT zW (pv 2) zI (fun _ _=>rfl)) (zA (sI MD T.cl hr3 (pv 3) (zA (zT zW (pv 2) zI (fun _ _=>rfl)) zE)) zE))))))))),?_⟩
 have tupl:∀ {r:Addr} {H2:Hp},Aft C H2 sd wd ns As pr p wl q st wy l (deC d) (deN d) r->H r=none->zD (wS ns pr p wl q) H H2->∀ t,H2 t=none->Q (.ref t) (upd H2 t (.tup [.str (deN d),.ref r])):=fun {r H2} ⟨tl,s',wy1,l',a1,a2,a3,a4,a5,a6,a7⟩ hr2 k2 t ht=>by
  have k3:zD [] H2 (upd H2 t (.tup [.str (deN d),.ref r])):=zD.new ht
  have nt:H t=none:=k2.none (a3.new ht) ht
  exact k t r _ zC ⟨tl,s',wy1,l',a1.keep k3,a2,a3.keep k3,a4,a5,a6,a7⟩ nt hr2 (fun c o hc hh=>k3 c o (by simp) (k2 c o hc hh))
 have fin:∀ {n:Str} {s1:SS} {r:Addr} {H2:Hp},n ∈ ns->deN d=n->zN C H2 (p n) (wl n) (zK s1).1->Rows H2 r (zK s1).2->H r=none->zD [p n,wl n] H H2->(∃ tl l',(zK s1).2=tlV tl/\Sys ns As (fun a b=>(a,b) ∈ pr) (stU st n (zK s1).1) (tlW wy n tl) l'/\(deC d=true->gvL tl ++ wa (zK s1).1=wa (st n)/\phi ns (stU st n (zK s1).1) (tlW wy n tl) l' + 1 <= phi ns st wy l))->∀ t,H2 t=none->Q (.ref t) (upd H2 t (.tup [.str n,.ref r])):=fun {n s1 r H2} hn en S2 R2 hr2 k2 ⟨tl,l',e1,S',e3⟩ t ht=>by
  rw [e1] at R2
  subst en
  exact tupl ⟨tl,_,_,l',R2,W.new hr2,W.seat hn S2 k2,fun a b=>S.c.len2 a b,cW S',S',e3⟩ hr2 (fun c o hc hh=>k2 c o (fun z=>hc (zA4 hn c z)) hh) t ht
 have two:2 <= sizeLine:=by decide
 cases d with
 | come e t=>
  obtain ⟨he,ht,ne⟩:=ok
  refine ⟨_,rfl,dt,_,0,_,rfl,rfl,hdt,rfl,rfl,_,rfl,ifT (by decide +kernel) ?_⟩
  exact ⟨_,rfl,dt,_,1,_,rfl,rfl,hdt,rfl,t,_,1,_,rfl,rfl,ht,rfl,_,rfl,_,rfl,_,rfl,dt,_,1,_,rfl,rfl,hdt,rfl,sd,wd,t,e,ns,As,pr,p,wl,q,st,wy,l,rfl,F,W,S,he,ht,ne,fun r H2 a hr2 k2=>⟨two,fun t' ht'=>tupl a hr2 k2 t' ht'⟩⟩
 | want n a=>
  obtain ⟨hn,ha,h1,h2⟩:=ok
  have Sn:=W.se n hn
  obtain ⟨⟨dx,hob⟩,_,_⟩:=id Sn
  have g:=F.ga a ha
  have l8:=S.c.rows F.n6 F.a2 hn
  obtain ⟨tl,l',e1,e2⟩:=kU F.sym F.nd S hn ha h1 h2
  refine ⟨_,rfl,dt,_,0,_,rfl,rfl,hdt,rfl,rfl,_,rfl,ifF (by decide +kernel) ?_⟩
  refine ⟨_,rfl,_,rfl,dt,_,1,_,rfl,rfl,hdt,rfl,sd,_,rfl,W.gs F.nd hn,?_⟩
  refine ⟨_,rfl,dt,_,0,_,rfl,rfl,hdt,rfl,rfl,_,rfl,ifT (by decide +kernel) ?_⟩
  exact ⟨_,rfl,dt,_,1,_,rfl,rfl,hdt,rfl,_,rfl,p n,dx,_,rfl,hob,zCD _ _ _ _,_,rfl,dt,_,2,_,rfl,rfl,hdt,rfl,p n,wl n,st n,a,rfl,Sn,g.1,by have:=g.2;omega,h1,h2,by omega,fun r H2 S2 R2 hr2 k2=>⟨two,fun t' ht'=>fin hn rfl S2 R2 hr2 k2 ⟨tl,l',e1,e2,fun z=>by cases z⟩ t' ht'⟩⟩
 | leave n a=>
  obtain ⟨hn,ha,hm⟩:=ok
  have Sn:=W.se n hn
  obtain ⟨⟨dx,hob⟩,_,_⟩:=id Sn
  have g:=F.ga a ha
  obtain ⟨tl,l',e1,e2⟩:=oY F.sym F.nd S (a:=a) hn
  obtain ⟨j,hj,hno⟩:=sU (st n).row (yJ a) hm
  have fe:=uM (st n).row (yJ a) j hj hno ((S.c.i n hn).u a)
  have ed:({ st n with row:=(st n).row.eraseIdx j }:SS)=z8 (st n) (.leave a):=by
   show _=({ st n with row:=(st n).row.filter fun x=>decide (x ≠ yJ a) }:SS)
   rw [fe]
  refine ⟨_,rfl,dt,_,0,_,rfl,rfl,hdt,rfl,rfl,_,rfl,ifF (by decide +kernel) ?_⟩
  refine ⟨_,rfl,_,rfl,dt,_,1,_,rfl,rfl,hdt,rfl,sd,_,rfl,W.gs F.nd hn,?_⟩
  refine ⟨_,rfl,dt,_,0,_,rfl,rfl,hdt,rfl,rfl,_,rfl,ifF (by decide +kernel) ?_⟩
  refine ⟨_,rfl,dt,_,0,_,rfl,rfl,hdt,rfl,rfl,_,rfl,ifT (by decide +kernel) ?_⟩
  exact ⟨_,rfl,dt,_,1,_,rfl,rfl,hdt,rfl,_,rfl,p n,dx,_,rfl,hob,zCE _ _ _ _,_,rfl,dt,_,2,_,rfl,rfl,hdt,rfl,p n,wl n,st n,a,j,rfl,Sn,g.1,by have:=g.2;omega,hj,hno,fun r H2 S2 R2 hr2 k2=>⟨two,fun t' ht'=>by
   rw [ed] at S2 R2
   exact fin hn rfl S2 R2 hr2 k2 ⟨tl,l',e1,e2,fun z=>by cases z⟩ t' ht'⟩⟩
 | done n a=>
  obtain ⟨hn,hh⟩:=ok
  have Sn:=W.se n hn
  obtain ⟨⟨dx,hob⟩,_,_⟩:=id Sn
  have g:=F.ga a ((S.c.i n hn).h a hh).1
  obtain ⟨tl,l',e1,e2,e3,e4⟩:=kW F.sym F.nd F.n6 S hn hh
  refine ⟨_,rfl,dt,_,0,_,rfl,rfl,hdt,rfl,rfl,_,rfl,ifF (by decide +kernel) ?_⟩
  refine ⟨_,rfl,_,rfl,dt,_,1,_,rfl,rfl,hdt,rfl,sd,_,rfl,W.gs F.nd hn,?_⟩
  refine ⟨_,rfl,dt,_,0,_,rfl,rfl,hdt,rfl,rfl,_,rfl,ifF (by decide +kernel) ?_⟩
  refine ⟨_,rfl,dt,_,0,_,rfl,rfl,hdt,rfl,rfl,_,rfl,ifF (by decide +kernel) ?_⟩
  exact ⟨_,rfl,dt,_,1,_,rfl,rfl,hdt,rfl,_,rfl,p n,dx,_,rfl,hob,zCG _ _ _ _,_,rfl,dt,_,2,_,rfl,rfl,hdt,rfl,p n,wl n,st n,a,rfl,Sn,g.1,by have:=g.2;omega,hh,fun r H2 S2 R2 hr2 k2=>⟨two,fun t' ht'=>fin hn rfl S2 R2 hr2 k2 ⟨tl,l',e1,e2,fun _=>⟨e3,e4⟩⟩ t' ht'⟩⟩
end
abbrev sAR:Stmt:=top 26
theorem sT (a:V) (wl:Addr) (h:V) (k:Bool):(yO a wl h k).lookup ("arrow" : Str)=none:=rfl
theorem bR (a:V) (wl:Addr) (h:V) (k:Bool):(yO a wl h k).lookup ("has_asked" : Str)=none:=rfl
theorem kG (a:V) (wl:Addr) (h:V) (k:Bool):(yO a wl h k).lookup ("row" : Str)=none:=rfl
theorem kH (a:V) (wl:Addr) (h:V) (k:Bool):(yO a wl h k).lookup ("inside" : Str)=none:=rfl
def zBW:R2:=fun x y H Q=>(∃ b ys,x=.non/\y=.ref b/\H b=some (.tup ys)/\Q (.bl false) H) \/ ∃ a b xs ys,x=.ref a/\y=.ref b/\H a=some (.tup xs)/\H b=some (.tup ys)/\xs.all yY=true/\ys.all yY=true/\Q (.bl (eqT xs ys)) H
theorem aV {X:Cx} (hu:X.A.units < cLine):OpR X (compareOp .Eq) zBW:=by
 intro qp s σ H x y v u Q I rx ry h
 rcases h with ⟨b,ys,rfl,rfl,hb,q⟩ | ⟨a,b,xs,ys,rfl,rfl,ha,hb,f1,f2,q⟩
 ·cases rx;cases ry
  obtain ⟨i2,r2,t2,_⟩:=I.tuple (.of hb)
  exact SeqAt.RcAt.none_tuple (show s.heap.IsTuple b i2.toArray from t2) hu _ _ _ _ ⟨.bl false,H,I,rfl,q⟩
 ·cases rx;cases ry
  obtain ⟨i1,r1,t1,_⟩:=I.tuple (.of ha)
  obtain ⟨i2,r2,t2,_⟩:=I.tuple (.of hb)
  have l1:=r1.length
  have l2:=r2.length
  have key:=SeqAt.RcAt.tuples (A:=X.A) (s:=s) (l:=a) (b:=b) (e:=fun j=>eqV (xs.getD j .non) (ys.getD j .non)) (show s.heap.IsTuple a i1.toArray from t1) (show s.heap.IsTuple b i2.toArray from t2) hu
   (fun j g1 g2=>mF (qp:=qp) (σ:=σ) (H:=H) r1 r2 f1 f2 j g1 g2)
  have ee:eqT xs ys=((List.range (min i1.toArray.size i2.toArray.size)).all (fun j=>eqV (xs.getD j .non) (ys.getD j .non)) && i1.toArray.size == i2.toArray.size):=by
   unfold eqT
   rw [tR,zCW,zCW,<- l1,<- l2,Bool.and_comm]
  rw [<- ee] at key
  exact key _ _ _ _ ⟨.bl (eqT xs ys),H,I,rfl,q⟩
def oR (H:Hp):Loc->V->Prop
 | .at _,v=>v=.non
 | .on u y,v=>∃ g,v=.ref g/\H g=some (.tup [.str u,.str y])
theorem cF (a b c d:Str):eqT [.str a,.str b] [.str c,.str d]=decide (a=c/\b=d):=by
 unfold eqT
 simp [eqV]
 by_cases e1:a=c <;> by_cases e2:b=d <;> simp [e1,e2]
section
variable {P:Program} {w:World} {K:W.Frag} {mg:Str->Option Value} {base:Heap} {C:Addr}
theorem jD:zQ ["_law_seats","_law_ways","_law_name","_law_going","_law_seat","_law_arrow","_law_letters","_law_waits","_law_many"] ["_law_seats","_law_ways","_law_name","_law_going"] (zG sAR):=scm
def zBF (C:Addr):Sp:=fun vs H Q _=>∃ (sd wd:Addr) (n:Str) (g:V) (ns As:List Str) (pr:LSS) (p wl:Str->Addr) (q:Str × Str->Addr) (st:Str->SS) (wy:Wy) (l:Loc),vs=[.ref sd,.ref wd,.str n,g]/\Fx ns As pr/\WAt C H sd wd ns pr p wl q st wy/\Sys ns As (fun a b=>(a,b) ∈ pr) st wy l/\n ∈ ns/\oR H l g/\∀ H',zD [] H H'->Q (.bl true) H'
theorem okAR (T:xE K C) (G:y1 K mg "_law_asked_rightly" sAR ["_law_seats","_law_ways","_law_name","_law_going"]) (MAr:xB P w K mg base CX0 1 C "arrow" ["self"] (tT C)) (MHa:xB P w K mg base CX0 1 C "has_asked" ["self"] (bB C)) (MRo:xB P w K mg base CX0 1 C "row" ["self"] (lC C)) (MIn:xB P w K mg base CX0 1 C "inside" ["self"] (uB C)) (b_len:Blt mg "len") (b_int:Blt mg "int"):Cal P w K mg base CX0 2 "_law_asked_rightly" ["_law_seats","_law_ways","_law_name","_law_going"] (zBF C):=by
 refine G.ok jD (fun vs H Q E h=>by obtain ⟨_,_,_,_,_,_,_,_,_,_,_,_,_,rfl,_⟩:=h;rfl) (fun f cdv A outer s0 H vs Q E hr h=>?_)
 obtain ⟨sd,wd,n,g,ns,As,pr,p,wl,q,st,wy,l,rfl,F,W,S,hn,hg,k⟩:=h
 have hr1:z9 1 _:=hr
 have hu:=wZ hr
 have hu0:=Nat.lt_of_succ_lt hu
 refine ⟨_,(zB (zV (i:=4) jD.nd rfl (Or.inl rfl) (yA hu (pv 0) (pv 2) (fun _ _=>rfl)))
   (zB (zV (i:=5) jD.nd rfl (Or.inl rfl) (yE MAr T.cl hr1 (pv 4)))
   (zB (yG (zM u2 (pv 5) y9 (zR _)) (zH (zO (aP (yE MHa T.cl hr1 (pv 4))))) zP)
   (zB (wU (i:=6) jD.nd rfl (Or.inl rfl) (N:=["_law_seats","_law_ways","_law_name","_law_going","_law_seat","_law_arrow","_law_letters","_law_waits","_law_many"]) (sc:=zG sAR) (ix:=[]) (by decide +kernel) (wF (yA hu (pv 1) (yC (zA (pv 2) (zA (pv 5) zE))) (fun _ _=>rfl))) (fun _ _ _ _=>(xT (PW.pt (lU (zM wY (zT zW (pv 0) zI (fun _ _=>rfl)) z7 (zR _)) (qJ (xQ (zT zW (pv 0) zI (fun _ _=>rfl)))))))) (fun _ _ _ _=>(pv 0)))
   (zB (zV (i:=7) jD.nd rfl (Or.inl rfl) (xU (qQ hu) (yC (zA z7 (zA (pv 2) zE))) (yE MRo T.cl hr1 (yA hu (pv 0) (pv 5) (fun _ _=>rfl))) (by with_unfolding_all rfl)))
   (zB (zV (i:=8) jD.nd rfl (Or.inl rfl) (z5 xR (z5 xR (xY wD b_len vX (zA (pv 6) zE)) (wW vO rfl b_int.no pF (zA (pv 7) zE))) (wW vO rfl b_int.no pF (zA (xU (aV hu0) (pv 3) (yC (zA (pv 5) (zA (pv 2) zE))) (zR _)) zE))))
   (zH (zO (nN (xU wY (pv 8) (wW vO rfl b_int.no pF (zA (yE MHa T.cl hr1 (pv 4)) zE)) (zR _)) (nM (xU u2 (yE MIn T.cl hr1 (pv 4)) y9 (zR _)))))))))))),?_⟩
 have Sn:=W.se n hn
 obtain ⟨⟨dx,hob⟩,_,_⟩:=id Sn
 refine ⟨_,rfl,_,rfl,sd,_,rfl,W.gs F.nd hn,?_⟩
 refine ⟨_,rfl,p n,dx,_,rfl,hob,(sT _ _ _ _),p n,wl n,_,rfl,Sn,?_⟩
 refine ⟨_,rfl,rfl,_,rfl,?_⟩
 cases hp:(st n).ptr with
 | none=>
  refine ifT rfl ?_
  refine ⟨_,rfl,p n,dx,_,rfl,hob,(bR _ _ _ _),p n,wl n,_,rfl,Sn,_,rfl,?_⟩
  rw [(S.c.g n hn).1 hp]
  exact k _ (zD.refl _)
 | some y=>
  refine ifF rfl ?_
  obtain ⟨hy,he⟩:=S.c.b n hn y hp
  have Sy:=W.se y hy
  obtain ⟨⟨dy,hoy⟩,_,_⟩:=id Sy
  refine ⟨_,rfl,_,rfl,_,rfl,by show 2 <= sizeLine;decide,fun kt hkt=>?_⟩
  refine lay hkt fun H1 k1 ek=>?_
  have W1:=W.keep k1
  obtain ⟨ts,hq,hpq⟩:=W1.le (n,y) he
  have lt:=zU hpq
  rw [zCO] at lt
  have w2:=S.c.len2 n y
  refine ⟨wd,_,rfl,W1.gw F.np he ek,q (n,y),rfl,⟨_,.of hq⟩,fun acc hacc=>?_⟩
  have qa:q (n,y) ≠ acc:=zF hq hacc
  refine qW (K:=K) (a:=q (n,y)) (its:=ts.map V.ref) (by rw [zCO,sizeLine_eq,lt];show (wy n y).length < _;omega) (fun i ys τ H2=>∃ kk:Option V,τ=[kk]/\ys.length=((wy n y).take i).countP pdB/\i <= (wy n y).length/\zD [acc] H1 H2/\H2 acc=some (.lst ys)) ?_ ?_ ?_ ?_
  ·exact ⟨_,rfl,rfl,zCY _,zD.at (by simp),zC⟩
  ·rintro i ys τ H2 ⟨kk,rfl,ly,_,kp,h2⟩
   refine ⟨h2,?_,.of (kp _ _ (by simp [qa]) hq)⟩
   have:=List.countP_le_length (p:=pdB) (l:=(wy n y).take i)
   rw [zC7] at this
   omega
  ·rintro i ys τ H2 x hx ⟨kk,rfl,ly,il,kp,h2⟩
   rw [zCU] at hx
   cases et:ts[i]? with
   | none=>rw [et] at hx;cases hx
   | some t0=>
   rw [et] at hx
   obtain rfl:V.ref t0=x:=zCV hx
   obtain ⟨row,er,ht0⟩:=y0 hpq i t0 et
   rw [zCU] at er
   cases ew:(wy n y)[i]? with
   | none=>rw [show ((wy (n,y).1 (n,y).2)[i]?)=none from ew] at er;cases er
   | some b=>
   rw [show ((wy (n,y).1 (n,y).2)[i]?)=some b from ew] at er
   obtain rfl:nZ b y=row:=zCV er
   have il':=(zCQ.mp ew).1
   have ht2:=kp _ _ (by simp [zF ht0 hacc]) ht0
   have tk:((wy n y).take (i + 1)).countP pdB=((wy n y).take i).countP pdB + (if pdB b then 1 else 0):=by
    rw [List.take_add_one,ew,List.countP_append]
    cases hb:pdB b <;> simp [hb]
   have more:pdB b=true->H2 acc=some (.lst ys)/\∃ kk:Option V,[some (V.ref t0)]=[kk]/\(ys ++ [V.ref t0]).length=((wy n y).take (i + 1)).countP pdB/\i + 1 <= (wy n y).length/\zD [acc] H1 (upd H2 acc (.lst (ys ++ [V.ref t0])))/\upd H2 acc (.lst (ys ++ [V.ref t0])) acc=some (.lst (ys ++ [V.ref t0])):=fun hb=>⟨h2,_,rfl,by rw [tk,hb,zC6,ly];rfl,il',kp.trans (zD.at (by simp)),zC⟩
   cases b with
   | none=>
    refine ⟨_,rfl,t0,_,0,_,rfl,rfl,ht2,rfl,rfl,_,rfl,ifT (by decide +kernel) ?_⟩
    exact u8 ⟨_,rfl,more rfl⟩
   | some c=>
    refine ⟨_,rfl,t0,_,0,_,rfl,rfl,ht2,rfl,rfl,_,rfl,ifF (by decide +kernel) ?_⟩
    refine ⟨_,rfl,t0,_,2,_,rfl,rfl,ht2,rfl,_,rfl,?_⟩
    cases c with
    | true=>exact u8 ⟨_,rfl,more rfl⟩
    | false=>exact vW ⟨_,rfl,by rw [tk,ly];rfl,il',kp,h2⟩
  rintro ys τ H2 ⟨kk,rfl,ly,_,kp,h2⟩
  rw [zCO,lt,zDD (zCX _)] at ly
  have k02:=k1.trans (kp.drop hacc)
  have W2:=W.keep k02
  have hg2:oR H2 l g:=by
   cases l with
   | «at» r=>exact hg
   | on u v=>obtain ⟨gg,e1,e2⟩:=hg;exact ⟨gg,e1,k02 _ _ (by simp) e2⟩
  refine ⟨_,rfl,by show 2 <= sizeLine;decide,fun t2 ht2=>?_⟩
  refine lay ht2 fun H3 k3 e3=>?_
  have W3:=W2.keep k3
  have Sy3:=W3.se y hy
  obtain ⟨⟨dy3,hoy3⟩,_,_⟩:=id Sy3
  refine ⟨_,rfl,_,rfl,sd,_,rfl,W3.gs F.nd hy,p y,dy3,_,rfl,hoy3,(kG _ _ _ _),p y,wl y,_,rfl,Sy3,fun rr H4 hrr R4 k4=>?_⟩
  refine ⟨rr,t2,_,(st y).row.map yX,rfl,rfl,R4,k4 _ _ (by simp) e3,rfl,x8 _,?_⟩
  rw [show (if false=true then !(((st y).row.map yX).any fun r=>eqT r [.str "house",.str n]) else ((st y).row.map yX).any fun r=>eqT r [.str "house",.str n])=decide (hsR n ∈ (st y).row) from by rw [if_neg zDG];exact uP (st y).row (hsR n)]
  have h24:=(k3.trans k4) _ _ (by simp) h2
  have k24:=k3.trans k4
  have hg4:oR H4 l g:=by
   cases l with
   | «at» r=>exact hg2
   | on u v=>obtain ⟨gg,e1,e2⟩:=hg2;exact ⟨gg,e1,k24 _ _ (by simp) e2⟩
  have W4:=W2.keep k24
  have Sn4:=W4.se n hn
  obtain ⟨⟨dn4,hon4⟩,_,_⟩:=id Sn4
  refine ⟨_,rfl,_,_,rfl,.inl ⟨_,.of h24,rfl⟩,_,rfl,.inr ⟨_,rfl,_,_,rfl,rfl,?_⟩⟩
  refine ⟨_,rfl,_,rfl,_,rfl,by show 2 <= sizeLine;decide,fun t5 ht5=>?_⟩
  refine lay ht5 fun H5 k5 e5=>?_
  have W5:=W4.keep k5
  have Sn5:=W5.se n hn
  obtain ⟨⟨dn5,hon5⟩,_,_⟩:=id Sn5
  obtain ⟨gb,hgb,eqv⟩:∃ gb:Bool,(if gb=true then 1 else 0)=goB l y n/\∀ Q':VK,Q' (.bl gb) H5->zBW g (.ref t5) H5 Q':=by
   cases l with
   | «at» r=>
    obtain rfl:g=.non:=hg4
    exact ⟨false,rfl,fun Q' hq=>.inl ⟨t5,_,rfl,rfl,e5,hq⟩⟩
   | on u v=>
    obtain ⟨gg,rfl,eg⟩:=hg4
    refine ⟨decide (u=y/\v=n),?_,fun Q' hq=>.inr ⟨gg,t5,_,_,rfl,rfl,k5 _ _ (by simp) eg,e5,rfl,rfl,?_⟩⟩
    ·show _=if u=y/\v=n then 1 else 0
     by_cases e:u=y/\v=n <;> simp [e]
    ·show Q' (V.bl (eqT [.str u,.str v] [.str y,.str n])) H5
     rw [cF];exact hq
  refine eqv _ (.inr ⟨gb,rfl,_,_,rfl,rfl,?_⟩)
  have pe:=S.c.e n hn y hp
  have p1:=S.c.le hn hp
  unfold wV at pe p1
  have cw:(if decide (hsR n ∈ (st y).row)=true then 1 else 0)=(st y).row.count (hsR n):=by
   by_cases hm:hsR n ∈ (st y).row
   ·have:=List.count_pos_iff.mpr hm
    rw [zC3 hm,if_pos rfl];omega
   ·rw [zC4 hm,if_neg zDG,List.count_eq_zero.mpr hm]
  refine ⟨_,rfl,_,rfl,p n,dn5,_,rfl,hon5,(bR _ _ _ _),p n,wl n,_,rfl,Sn5,.inr ⟨_,rfl,rfl,_,rfl,ifT ?_ ?_⟩⟩
  ·refine zC3 ?_
   refine congrArg V.int ?_
   have e1:(if decide (hsR n ∈ (st y).row)=true then (1:Int) else 0)=(((st y).row.count (hsR n):Nat):Int):=by rw [<- cw];split <;> rfl
   have e2:(if gb=true then (1:Int) else 0)=((goB l y n:Nat):Int):=by rw [<- hgb];split <;> rfl
   have e3:(if (st n).asked=true then (1:Int) else 0)=(((if (st n).asked=true then 1 else 0):Nat):Int):=by split <;> rfl
   have ly:ys.length=(wy n y).countP pdB:=ly
   show (ys.length:Int) + (if decide (hsR n ∈ (st y).row)=true then (1:Int) else 0) + (if gb=true then (1:Int) else 0)=(if (st n).asked=true then (1:Int) else 0)
   rw [e1,e2,e3,<- pe,ly]
   omega
  ·refine ⟨_,rfl,p n,dn5,_,rfl,hon5,(kH _ _ _ _),p n,wl n,_,rfl,Sn5,rfl,?_⟩
   rw [(S.c.g n hn).2 (by rw [hp];simp)]
   exact k _ (k02.trans (k24.trans k5))
end
abbrev sLe:Stmt:=top 27
theorem fJ {α:Type} (f:α->V) (l:List α) (a:α):tP ((l ++ [a]).map f) none (some (-1))=l.map f:=by
 unfold tP
 have e:HT.sIx ((l ++ [a]).map f).length ((l ++ [a]).map f).length (some (-1))=l.length:=by
  unfold HT.sIx
  simp only
  rw [if_pos (by decide),zCO,zC6]
  show ((-1:Int) + ((l.length + 1:Nat):Int)).toNat=_
  omega
 rw [e,HT.sIx_none,List.drop_zero,zC0,Nat.sub_zero,List.take_append_of_le_length (by rw [zCO];exact zCX _),zDD (by rw [zCO];exact zCX _)]
theorem n9 (z:Str) (zs:List Str):inV (.str z) (zs.map V.str)=decide (z ∈ zs):=by
 unfold inV
 rw [List.any_map]
 by_cases h:z ∈ zs
 ·rw [zC3 h,List.any_eq_true]
  exact ⟨z,h,by simp [eqV]⟩
 ·rw [zC4 h,List.any_eq_false]
  intro y hy
  simp [eqV]
  rintro rfl
  exact h hy
theorem g6 (zs:List Str):(zs.map V.str).all yY=true:=by
 rw [List.all_map,List.all_eq_true];exact fun _ _=>rfl
theorem bP {t:TT} {a b:TS} {D:tQ} {σ:St} {H:Hp} (P1 P2:Hp->Prop) (h:∀ R:Bool->Hp->Prop,(∀ H',P1 H'->R true H')->(∀ H',P2 H'->R false H')->t σ H R) (ha:∀ H',P1 H'->a D σ H') (hb:∀ H',P2 H'->b D σ H'):iD t a b D σ H:=
 h _ (fun H' p=>ifT rfl (ha H' p)) (fun H' p=>ifF rfl (hb H' p))
theorem hZ {t:TT} {a b r:TS} {D:tQ} {σ:St} {H:Hp} (h:iD t a b { D with nx:=r D } σ H):rA (iD t a b) r D σ H:=h
section
variable {P:Program} {w:World} {K:W.Frag} {mg:Str->Option Value} {base:Heap} {C:Addr}
theorem zBL:zQ ["_law_seats","_law_name","_law_going","_law_met"] ["_law_seats","_law_name","_law_going"] (zG sLe):=scm
def zBC (C:Addr):Sp:=fun vs H Q _=>∃ (sd wd:Addr) (n:Str) (g:V) (ns As:List Str) (pr:LSS) (p wl:Str->Addr) (q:Str × Str->Addr) (st:Str->SS) (wy:Wy) (l:Loc),vs=[.ref sd,.str n,g]/\Fx ns As pr/\WAt C H sd wd ns pr p wl q st wy/\Sys ns As (fun a b=>(a,b) ∈ pr) st wy l/\n ∈ ns/\oR H l g/\∀ H',zD [] H H'->Q (.bl true) H'
theorem okLe (T:xE K C) (G:y1 K mg "_law_leads" sLe ["_law_seats","_law_name","_law_going"]) (MAr:xB P w K mg base CX0 1 C "arrow" ["self"] (tT C)):Cal P w K mg base CX0 2 "_law_leads" ["_law_seats","_law_name","_law_going"] (zBC C):=by
 refine G.ok zBL (fun vs H Q E h=>by obtain ⟨_,_,_,_,_,_,_,_,_,_,_,_,_,rfl,_⟩:=h;rfl) (fun f cdv A outer s0 H vs Q E hr h=>?_)
 obtain ⟨sd,wd,n,g,ns,As,pr,p,wl,q,st,wy,l,rfl,F,W,S,hn,hg,k⟩:=h
 have hr1:z9 1 _:=hr
 have hu:=wZ hr
 refine ⟨_,(zB (zV (i:=3) zBL.nd rfl (Or.inl rfl) (yK (zA (pv 1) zE)))
   (zB (pV PassesOwn.never (zM vL (yE MAr T.cl hr1 (yA hu (pv 0) (zT yB (pv 3) (rK uT zI) (fun _ _=>rfl)) (fun _ _=>rfl))) y9 (zR _)) (zB (yG (PW.pt (qL (zM vL (pv 2) y9 (zR _)) (qL (zM u3 (zT yB (pv 3) (rK uT zI) (fun _ _=>rfl)) (pv 2) (by with_unfolding_all rfl)) (qK (zM u3 (yE MAr T.cl hr1 (yA hu (pv 0) (zT yB (pv 3) (rK uT zI) (fun _ _=>rfl)) (fun _ _=>rfl))) (pv 2) (by with_unfolding_all rfl)))))) (zH (zO wG)) zP)
   (zB (yT (wX PySem.F.plainAttrs_list PySem.F.slot_list_append PySem.F.type_list_append y2 (pv 3) (zA (yE MAr T.cl hr1 (yA hu (pv 0) (zT yB (pv 3) (rK uT zI) (fun _ _=>rfl)) (fun _ _=>rfl))) zE)))
   (zH (yG (zM u3 (zT yB (pv 3) (rK uT zI) (fun _ _=>rfl)) (uH qE (pv 3) qN (uF (rK uT zI))) (by with_unfolding_all rfl)) (zH (zO wG)) zP)))))
   (zH (zO (xU u2 (pv 2) y9 (zR _)))))),?_⟩
 obtain ⟨d,hd⟩:=S.c.rk
 refine ⟨_,rfl,by show 1 <= sizeLine;decide,fun ml hml=>?_⟩
 refine lay hml fun H0 k0 e0=>?_
 refine ⟨fun m σ H1=>∃ (xs:List Str) (c:Str),σ=[some (.ref sd),some (.str n),some g,some (.ref ml)]/\m=d c/\c ∈ ns/\(∀ x ∈ xs,x ∈ ns)/\xs.Nodup/\(∀ x ∈ xs,d c < d x)/\H1 ml=some (.lst ((xs ++ [c]).map V.str))/\zD [ml] H H1,⟨_,[],n,rfl,rfl,hn,(fun x hx=>by cases hx),.nil,(fun x hx=>by cases hx),e0,k0.mono (by simp)⟩,?_⟩
 rintro m σ H1 ⟨xs,c,rfl,rfl,hc,xn,xd,dx,h1,kp⟩
 have k1:=kp.drop hml
 have W1:=W.keep k1
 have Sc:=W1.se c hc
 obtain ⟨⟨dc,hoc⟩,_,_⟩:=id Sc
 have last:∀ (ys:List Str) (z:Str),atI ((ys ++ [z]).map V.str) (-1)=some (.str z):=fun ys z=>by rw [zC0];exact fP _ _
 have cx:c ∉ xs:=fun h=>Nat.lt_irrefl _ (dx c h)
 have l6:=uJ xd xn
 have n6:=F.n6
 refine ⟨_,rfl,_,rfl,1,rfl,ml,_,-1,_,rfl,rfl,h1,last xs c,sd,_,rfl,W1.gs F.nd hc,p c,dc,_,rfl,hoc,sT _ _ _ _,p c,wl c,_,rfl,Sc,rfl,_,rfl,?_⟩
 cases hp:(st c).ptr with
 | none=>
  refine ifF rfl ?_
  refine ⟨_,rfl,rfl,?_⟩
  have gn:g=.non:=by
   cases l with
   | «at» r=>exact hg
   | on u v=>exact absurd hp (S.c.wh.2.2.2.2.2.1 c hc)
  rw [gn,zC3 rfl]
  exact k _ k1
 | some y=>
 refine ifT rfl ?_
 obtain ⟨hy,_⟩:=S.c.b c hc y hp
 refine ⟨fun σ' H'=>∃ m',m' < d c/\∃ (xs:List Str) (c:Str),σ'=[some (.ref sd),some (.str n),some g,some (.ref ml)]/\m'=d c/\c ∈ ns/\(∀ x ∈ xs,x ∈ ns)/\xs.Nodup/\(∀ x ∈ xs,d c < d x)/\H' ml=some (.lst ((xs ++ [c]).map V.str))/\zD [ml] H H',fun _ _ h=>h,?_⟩
 refine hZ (bP (fun H2=>zD [] H1 H2) (fun H2=>zD [] H1 H2/\¬ l.ex c) ?_ ?_ ?_)
 ·intro R r1 r2
  cases l with
  | «at» r=>
   obtain rfl:g=.non:=hg
   exact ⟨_,rfl,rfl,_,rfl,ifF rfl (r2 _ ⟨zD.refl _,fun h=>h⟩)⟩
  | on u v=>
   obtain ⟨gg,rfl,eg⟩:=hg
   have eg1:=k1 _ _ (by simp) eg
   have two:([.str u,.str v]:List V)=([u,v]:List Str).map V.str:=rfl
   refine ⟨_,rfl,rfl,_,rfl,ifT rfl ?_⟩
   refine ⟨_,rfl,1,rfl,ml,_,-1,_,rfl,rfl,h1,last xs c,_,rfl,gg,_,rfl,.inr (.of eg1),rfl,rfl,_,rfl,?_⟩
   rw [show (if false=true then !inV (.str c) [.str u,.str v] else inV (.str c) [.str u,.str v])=decide (c ∈ [u,v]) from by rw [if_neg zDG,two];exact n9 c [u,v]]
   by_cases hm:c ∈ [u,v]
   ·refine ifT (zC3 hm) ?_
    obtain ⟨_,_,_,pu,pv',_⟩:=S.c.wh
    have hy2:y ∈ [u,v]:=by
     rcases List.mem_cons.mp hm with e | e
     ·rw [e,pu] at hp
      rw [<- zCV hp];simp
     ·rw [zCR.mp e,pv'] at hp
      rw [<- zCV hp];simp
    refine ⟨_,rfl,_,rfl,1,rfl,ml,_,-1,_,rfl,rfl,h1,last xs c,sd,_,rfl,W1.gs F.nd hc,p c,dc,_,rfl,hoc,sT _ _ _ _,p c,wl c,_,rfl,Sc,_,rfl,gg,_,rfl,.inr (.of eg1),?_,rfl,_,rfl,?_⟩
    ·rw [hp];rfl
    ·rw [hp]
     rw [show (if false=true then !inV (yH (some y)) [.str u,.str v] else inV (yH (some y)) [.str u,.str v])=true from by rw [if_neg zDG,two];exact (n9 y [u,v]).trans (zC3 hy2)]
     exact r1 _ (zD.refl _)
   ·refine ifF (zC4 hm) (r2 _ ⟨zD.refl _,fun h=>hm ?_⟩)
    rcases h with e | e <;> rw [e] <;> simp
 ·intro H2 k2
  exact k _ (k1.trans k2)
 rintro H2 ⟨k2,nex⟩
 have dy:=hd c hc y hp nex
 have W2:=W1.keep k2
 have h12:=k2 _ _ (by simp) h1
 have Sc2:=W2.se c hc
 obtain ⟨⟨dc2,hoc2⟩,_,_⟩:=id Sc2
 refine ⟨_,rfl,Or.inl ⟨rfl,_,.of h12⟩,_,rfl,_,rfl,1,rfl,ml,_,-1,_,rfl,rfl,h12,last xs c,sd,_,rfl,W2.gs F.nd hc,p c,dc2,_,rfl,hoc2,sT _ _ _ _,p c,wl c,_,rfl,Sc2,ml,_,_,rfl,rfl,h12,?_,?_⟩
 ·rw [zCO,zC6,sizeLine_eq]
  show xs.length + 1 < _
  omega
 rw [hp]
 have e3:upd H2 ml (.lst ((xs ++ [c]).map V.str ++ [yH (some y)])) ml=some (.lst (((xs ++ [c]) ++ [y]).map V.str)):=by rw [zC,zC0 (l₁:=xs ++ [c])];rfl
 have k3:zD [ml] H2 (upd H2 ml (.lst ((xs ++ [c]).map V.str ++ [yH (some y)]))):=zD.at (by simp)
 generalize upd H2 ml (.lst ((xs ++ [c]).map V.str ++ [yH (some y)]))=H3 at e3 k3
 refine ⟨_,rfl,1,rfl,ml,_,-1,_,rfl,rfl,e3,last (xs ++ [c]) y,_,rfl,1,rfl,_,rfl,ml,_,rfl,.of e3,fun sl hsl=>?_⟩
 rw [fJ]
 refine lay hsl fun H4 k4 e4=>?_
 have ny:y ∉ xs ++ [c]:=fun h=>by
  rcases zC5.mp h with h | h
  ·have:=dx y h;omega
  ·rw [zCR.mp h] at dy;exact Nat.lt_irrefl _ dy
 refine ⟨sl,_,rfl,.inl (.of e4),rfl,g6 _,_,rfl,ifF ?_ ?_⟩
 ·rw [if_neg zDG,n9]
  exact zC4 ny
 ·refine ⟨d y,dy,xs ++ [c],y,rfl,rfl,hy,fun x hx=>?_,?_,fun x hx=>?_,k4 _ _ (by simp) e3,(kp.trans (k2.mono (by simp))).trans (k3.trans (k4.mono (by simp)))⟩
  ·rcases zC5.mp hx with h | h
   ·exact xn x h
   ·rw [zCR.mp h];exact hc
  ·refine List.nodup_append.mpr ⟨xd,by simp,fun a ha b hb e=>?_⟩
   rw [e,zCR.mp hb] at ha
   exact cx ha
  ·rcases zC5.mp hx with h | h
   ·have:=dx x h;omega
   ·rw [zCR.mp h];exact dy
end
abbrev sSt:Stmt:=top 28
theorem x9 (ns:List Str) (p:Str->Addr):(yS ns p).map (·.1)=ns:=by
 unfold yS
 rw [zC8]
 exact List.map_id ns
theorem xK (ns:List Str) (p:Str->Addr):(yS ns p).length=ns.length:=zCO _
theorem j3 (pr:LSS) (q:Str × Str->Addr):(xG pr q).map (·.1)=pr.map fun e=>[Sum.inr e.1,Sum.inr e.2]:=by
 unfold xG
 rw [zC8];rfl
theorem wP (pr:LSS) (q:Str × Str->Addr):(xG pr q).length=pr.length:=zCO _
theorem oT {pr:LSS} {q:Str × Str->Addr} {i:Nat} {k:List Key} (h:((xG pr q).map (·.1))[i]?=some k):∃ e,pr[i]?=some e/\k.map kV=[.str e.1,.str e.2]:=by
 rw [j3,zCU] at h
 cases e:pr[i]? with
 | none=>rw [e] at h;cases h
 | some x=>rw [e] at h;cases h;exact ⟨x,rfl,rfl⟩
def goL (wy:Wy) (pr:LSS):LSS:=pr.flatMap fun e=>List.replicate ((wy e.1 e.2).countP Option.isSome) e
theorem gU (wy:Wy) (pr:LSS) (e:Str × Str):goL wy (pr ++ [e])=goL wy pr ++ List.replicate ((wy e.1 e.2).countP Option.isSome) e:=by
 unfold goL
 rw [List.flatMap_append];simp
theorem gW {wy:Wy} (h2:∀ x y,(wy x y).length <= 2):∀ pr:LSS,(goL wy pr).length <= 2 * pr.length
 | []=>zCX _
 | e :: r=>by
  have ih:=gW h2 r
  have e1:goL wy (e :: r)=List.replicate ((wy e.1 e.2).countP Option.isSome) e ++ goL wy r:=by unfold goL;rw [List.flatMap_cons]
  have:=List.countP_le_length (p:=Option.isSome) (l:=wy e.1 e.2)
  have:=h2 e.1 e.2
  rw [e1,zC6,List.length_replicate,zC9];omega
theorem sP {wy:Wy}:∀ {pr:LSS},(∀ e ∈ pr,∀ b,some b ∉ wy e.1 e.2)->goL wy pr=[]
 | [],_=>rfl
 | e :: r,h=>by
  have e1:goL wy (e :: r)=List.replicate ((wy e.1 e.2).countP Option.isSome) e ++ goL wy r:=by unfold goL;rw [List.flatMap_cons]
  have c0:(wy e.1 e.2).countP Option.isSome=0:=List.countP_eq_zero.mpr fun b hb=>by
   cases b with
   | none=>simp
   | some c=>exact absurd hb (h e zDH c)
  rw [e1,c0,sP fun f hf=>h f (zC1 _ hf)];rfl
theorem kF {wy:Wy} {u v:Str} (only:∀ x y b,some b ∈ wy x y->x=u/\y=v) (one:(wy u v).countP Option.isSome=1):∀ {pr:LSS},pr.Nodup->(u,v) ∈ pr->goL wy pr=[(u,v)]
 | [],_,h=>by cases h
 | e :: r,nd,h=>by
  have e1:goL wy (e :: r)=List.replicate ((wy e.1 e.2).countP Option.isSome) e ++ goL wy r:=by unfold goL;rw [List.flatMap_cons]
  obtain ⟨ne,ndr⟩:=List.nodup_cons.mp nd
  rw [e1]
  rcases List.mem_cons.mp h with q | q
  ·subst q
   rw [one,sP fun f hf b hb=>?_]
   ·rfl
   ·obtain ⟨a1,a2⟩:=only f.1 f.2 b hb
    exact ne (by rw [<- show f=(u,v) from Prod.ext a1 a2];exact hf)
  ·have c0:(wy e.1 e.2).countP Option.isSome=0:=List.countP_eq_zero.mpr fun b hb=>by
    cases b with
    | none=>simp
    | some c=>
     obtain ⟨a1,a2⟩:=only e.1 e.2 c hb
     exact absurd q (by rw [<- show e=(u,v) from Prod.ext a1 a2];exact ne)
   rw [c0,kF only one ndr q];rfl
theorem sJ {α β:Type} {R:α->β->Prop} {a:α} {b:β} (h:R a b):∀ m:Nat,Paired R (List.replicate m a) (List.replicate m b)
 | 0=>.nil
 | m + 1=>.cons h (sJ h m)
theorem oR.keep {H H':Hp} {l:Loc} {v:V} (h:oR H l v) (k:zD [] H H'):oR H' l v:=by
 cases l with
 | «at» r=>exact h
 | on u y=>
  obtain ⟨g,e1,e2⟩:=h
  exact ⟨g,e1,k _ _ (by simp) e2⟩
def goS:Loc->LSS
 | .at _=>[]
 | .on u v=>[(u,v)]
theorem xD.going {ns As:List Str} {pr:LSS} {st:Str->SS} {wy:Wy} {l:Loc} (c:xD ns As (fun a b=>(a,b) ∈ pr) st wy l) (np:pr.Nodup):goL wy pr=goS l:=by
 cases l with
 | «at» r=>exact sP fun e _ b=>c.wh.2.2 e.1 e.2 b
 | on u v=>
  obtain ⟨hu,_,_,pu,_,_,only,b,hb⟩:=c.wh
  refine kF only ?_ np (c.b u hu v pu).2
  rcases c.sh u v with h | h | ⟨b',h⟩ | h <;> rw [h] at hb ⊢
  ·cases hb
  ·simp at hb
  ·rfl
  ·rfl
def zB8:Loc->Nat
 | .at _=>1
 | .on _ _=>0
theorem rS:∀ {ns:List Str} {r:Str},ns.Nodup->r ∈ ns->∀ f:Str->Bool,(∀ x ∈ ns,f x=true ↔ x=r)->(ns.filter f).length=1
 | [],_,_,h,_,_=>by cases h
 | a :: s,r,nd,h,f,hf=>by
  obtain ⟨na,nds⟩:=List.nodup_cons.mp nd
  rw [List.filter_cons]
  rcases List.mem_cons.mp h with e | e
  ·subst e
   have none:s.filter f=[]:=List.filter_eq_nil_iff.mpr fun x hx q=>na (by rw [<- (hf x (zC1 _ hx)).mp q];exact hx)
   rw [(hf r zDH).mpr rfl,if_pos rfl,none];rfl
  ·have fa:¬ f a=true:=fun q=>na (by rw [(hf a zDH).mp q];exact e)
   rw [if_neg fa]
   exact rS nds e f fun x hx=>hf x (zC1 _ hx)
theorem xD.heres {ns As:List Str} {T:Str->Str->Prop} {st:Str->SS} {wy:Wy} {l:Loc} (c:xD ns As T st wy l) (nd:ns.Nodup):(ns.filter fun x=>(st x).ptr.isNone).length=zB8 l:=by
 cases l with
 | «at» r=>exact rS nd c.wh.1 _ fun x hx=>by rw [Option.isNone_iff_eq_none];exact c.wh.2.1 x hx
 | on u v=>
  rw [List.filter_eq_nil_iff.mpr fun x hx q=>c.wh.2.2.2.2.2.1 x hx (by simpa using q)];rfl
section
variable {P:Program} {w:World} {K:W.Frag} {mg:Str->Option Value} {base:Heap} {C:Addr}
theorem nJ:zQ ["_law_seats","_law_ways","_law_here","_law_going","_law_way","_law_name"] ["_law_seats","_law_ways"] (zG sSt):=scm
def b7 (C:Addr):Sp:=fun vs H Q _=>∃ (sd wd:Addr) (ns As:List Str) (pr:LSS) (p wl:Str->Addr) (q:Str × Str->Addr) (st:Str->SS) (wy:Wy) (l:Loc),vs=[.ref sd,.ref wd]/\Fx ns As pr/\WAt C H sd wd ns pr p wl q st wy/\Sys ns As (fun a b=>(a,b) ∈ pr) st wy l/\∀ H',zD [] H H'->Q (.bl true) H'
theorem okSt (T:xE K C) (G:y1 K mg "_law_stands" sSt ["_law_seats","_law_ways"]) (MAr:xB P w K mg base CX0 1 C "arrow" ["self"] (tT C)) (CAR:Cal P w K mg base CX0 2 "_law_asked_rightly" ["_law_seats","_law_ways","_law_name","_law_going"] (zBF C)) (CLe:Cal P w K mg base CX0 2 "_law_leads" ["_law_seats","_law_name","_law_going"] (zBC C)) (b_len:Blt mg "len"):Cal P w K mg base CX0 3 "_law_stands" ["_law_seats","_law_ways"] (b7 C):=by
 refine G.ok nJ (fun vs H Q E h=>by obtain ⟨_,_,_,_,_,_,_,_,_,_,_,rfl,_⟩:=h;rfl) (fun f cdv A outer s0 H vs Q E hr h=>?_)
 obtain ⟨sd,wd,ns,As,pr,p,wl,q,st,wy,l,rfl,F,W,S,k⟩:=h
 have hr2:z9 2 _:=hr
 have hr1:z9 1 _:=hr.mono (by decide)
 have hu:=wZ hr
 refine ⟨_,(zB (wU (i:=2) nJ.nd rfl (Or.inl rfl) (N:=["_law_seats","_law_ways","_law_here","_law_going","_law_way","_law_name"]) (sc:=zG sSt) (ix:=[0]) (by decide +kernel) (rJ (pv 0)) (fun _ _ _ _=>(xT (zM u2 (yE MAr T.cl hr1 (yA hu (pv 1) (pv 0) (fun _ _=>rfl))) y9 (zR _)))) (fun _ _ _ _=>(pv 0)))
   (zB (zV (i:=3) nJ.nd rfl (Or.inl rfl) (yK zE))
   (zB (wM PassesOwn.never rfl (iZ (pv 1)) (yD (i:=4) nJ.nd rfl (Or.inr rfl)) (zH (zV (i:=3) nJ.nd rfl (Or.inl rfl) (z5 vU (pv 3) (vD (N:=["_law_seats","_law_ways","_law_here","_law_going","_law_way","_law_name"]) (sc:=zG sSt) (ix:=[4]) (by decide +kernel) (wF (yA hu (pv 1) (pv 4) (fun _ _=>rfl))) (fun _ _ _ _=>(xT (zM wY (zT zW (pv 0) zI (fun _ _=>rfl)) z7 (zR _)))) (fun _ _ _ _=>(pv 1)))))))
   (zB (yG (zM sK (z5 xR (xY wD b_len vX (zA (pv 2) zE)) (xY wD b_len vX (zA (pv 3) zE))) zI (zR _)) (zH (zO wG)) zP)
   (zB (zV (i:=4) nJ.nd rfl (Or.inr rfl) (zT yB (z5 vU (pv 3) (yK (zA y9 zE))) zI (fun _ _=>rfl)))
   (zB (yG (PW.pt (qL (zM vL (pv 4) y9 (zR _)) (qK (PW.pt (lU (zM sK (yE MAr T.cl hr1 (yA hu (pv 0) (zT zW (pv 4) zI (fun _ _=>rfl)) (fun _ _=>rfl))) (zT zW (pv 4) zI (fun _ _=>rfl)) (zR _)) (qJ (zM sK (yE MAr T.cl hr1 (yA hu (pv 0) (zT zW (pv 4) zI (fun _ _=>rfl)) (fun _ _=>rfl))) (zT zW (pv 4) zI (fun _ _=>rfl)) (zR _)))))))) (zH (zO wG)) zP)
   (zB (wM PassesOwn.never rfl (rJ (pv 0)) (yD (i:=5) nJ.nd rfl (Or.inl rfl)) (zH (yG (PW.pt (lU (wA (xQ (zZ CAR hr2 (zA (pv 0) (zA (pv 1) (zA (pv 5) (zA (pv 4) zE))))))) (qJ (wA (xQ (zZ CLe hr2 (zA (pv 0) (zA (pv 5) (zA (pv 4) zE))))))))) (zH (zO wG)) zP)))
   (zH (zO wG))))))))),?_⟩
 have n6:=F.n6
 have pl:=F.pl
 obtain ⟨os,hos⟩:=W.sd
 refine ⟨_,rfl,sd,os,yS ns p,rfl,hos,fun acc hacc=>?_⟩
 have sa:sd ≠ acc:=zF hos hacc
 refine sN (a:=sd) (o:=os) (u:=.dK (y6 (yS ns p))) (n:=(yS ns p).length) (Y:=fun i _ x=>∃ z,((yS ns p).map (·.1))[i]?=some z/\x=.str z) (by rw [xK,sizeLine_eq];omega) (fun i ys τ H1=>∃ kk:Option V,τ=[kk,some (.ref sd)]/\ys=((ns.take i).filter fun x=>(st x).ptr.isNone).map V.str/\zD [acc] H H1/\H1 acc=some (.lst ys)) ?_ ?_ ?_ ?_
 ·exact ⟨_,rfl,rfl,zD.at (by simp),zC⟩
 ·rintro i ys τ H1 ⟨kk,rfl,rfl,kp,h1⟩
  refine ⟨h1,?_,kp _ _ (by simp [sa]) hos⟩
  have:=zDM (fun x=>(st x).ptr.isNone) (ns.take i)
  rw [zC7] at this
  rw [zCO];omega
 ·rintro i ys τ H1 x hi ⟨z,hz,rfl⟩ ⟨kk,rfl,rfl,kp,h1⟩
  rw [x9] at hz
  have mz:=zCS hz
  have W1:=W.keep (kp.drop hacc)
  have Sz:=W1.se z mz
  obtain ⟨⟨dz,hoz⟩,_,_⟩:=id Sz
  refine ⟨_,rfl,_,rfl,sd,_,rfl,W1.gs F.nd mz,p z,dz,_,rfl,hoz,sT _ _ _ _,p z,wl z,_,rfl,Sz,rfl,_,rfl,?_⟩
  have tk:ns.take (i + 1)=ns.take i ++ [z]:=by rw [List.take_add_one,hz];rfl
  cases hp:(st z).ptr with
  | none=>
   refine u8 ⟨_,rfl,h1,_,rfl,?_,kp.trans (zD.at (by simp)),zC⟩
   rw [tk,List.filter_append,zC0]
   simp [hp]
  | some y=>
   refine vW ⟨_,rfl,?_,kp,h1⟩
   rw [tk,List.filter_append]
   simp [hp]
 rintro ys τ H1 ⟨kk,rfl,rfl,kp,h1⟩
 rw [xK,zDO] at h1
 have k1:=kp.drop hacc
 clear kp
 have W1:=W.keep k1
 refine ⟨by show 0 <= sizeLine;decide,fun gl hgl=>?_⟩
 refine lay hgl fun H2 k2 e2=>?_
 have W2:=W1.keep k2
 have h12:=k2 _ _ (by simp) h1
 obtain ⟨ow,how⟩:=W2.wd
 refine ⟨_,rfl,wd,ow,xG pr q,rfl,how,sA (a:=wd) (o:=ow) (u:=.dT (xG pr q)) (n:=(xG pr q).length) (Y:=fun i H x=>∃ k t,((xG pr q).map (·.1))[i]?=some k/\x=.ref t/\H t=some (.tup (k.map kV))) (fun i σ H3=>∃ (gl:Addr) (gs:List Addr) (v4 v5:Option V),σ=[some (.ref sd),some (.ref wd),some (.ref acc),some (.ref gl),v4,v5]/\H3 gl=some (.lst (gs.map V.ref))/\Paired (fun g (e:Str × Str)=>H3 g=some (.tup [.str e.1,.str e.2])) gs (goL wy (pr.take i))/\zD [] H2 H3) ⟨gl,[],_,_,rfl,e2,.nil,zD.refl _⟩ (fun i σ H3 _ ⟨_,_,_,_,_,_,_,k3⟩=>k3 _ _ (by simp) how) ?_ ?_⟩
 ·rintro i x σ H3 hi ⟨ky,t,hk,rfl,ht⟩ ⟨gl,gs,v4,v5,rfl,h3,pr3,k3⟩
  obtain ⟨e,he,ek⟩:=oT hk
  rw [ek] at ht
  have me:=zCS he
  have W3:=W2.keep k3
  obtain ⟨ts,hq,hpq⟩:=W3.le e me
  have lt:=zU hpq
  rw [zCO] at lt
  have w2:=S.c.len2 e.1 e.2
  have lg:=zU pr3
  have gle:=gW S.c.len2 (pr.take i)
  rw [zC7] at gle
  refine ⟨_,rfl,_,rfl,_,rfl,wd,_,rfl,W3.gw F.np me ht,q e,rfl,⟨_,.of hq⟩,fun ac hac=>?_⟩
  have qa:q e ≠ ac:=zF hq hac
  refine qW (K:=K) (a:=q e) (its:=ts.map V.ref) (by rw [zCO,sizeLine_eq,lt];omega) (fun j ys τ H4=>∃ kk:Option V,τ=[kk,some (.ref t)]/\ys=List.replicate (((wy e.1 e.2).take j).countP Option.isSome) (V.ref t)/\j <= (wy e.1 e.2).length/\zD [ac] H3 H4/\H4 ac=some (.lst ys)) ?_ ?_ ?_ ?_
  ·exact ⟨_,rfl,rfl,zCY _,zD.at (by simp),zC⟩
  ·rintro j ys τ H4 ⟨kk,rfl,rfl,_,kp,h4⟩
   refine ⟨h4,?_,.of (kp _ _ (by simp [qa]) hq)⟩
   have:=List.countP_le_length (p:=Option.isSome) (l:=(wy e.1 e.2).take j)
   rw [zC7] at this
   rw [List.length_replicate];omega
  ·rintro j ys τ H4 x hx ⟨kk,rfl,rfl,jl,kp,h4⟩
   rw [zCU] at hx
   cases et:ts[j]? with
   | none=>rw [et] at hx;cases hx
   | some t0=>
   rw [et] at hx
   obtain rfl:V.ref t0=x:=zCV hx
   obtain ⟨row,er,ht0⟩:=y0 hpq j t0 et
   rw [zCU] at er
   cases ew:(wy e.1 e.2)[j]? with
   | none=>rw [ew] at er;cases er
   | some b=>
   rw [ew] at er
   obtain rfl:nZ b e.2=row:=zCV er
   have jl':=(zCQ.mp ew).1
   have ht4:=kp _ _ (by simp [zF ht0 hac]) ht0
   have tk:((wy e.1 e.2).take (j + 1)).countP Option.isSome=((wy e.1 e.2).take j).countP Option.isSome + (if b.isSome then 1 else 0):=by
    rw [List.take_add_one,ew,List.countP_append]
    cases b <;> rfl
   cases b with
   | none=>
    exact ⟨_,rfl,t0,_,0,_,rfl,rfl,ht4,rfl,rfl,_,rfl,ifF (by decide +kernel) ⟨_,rfl,by rw [tk];rfl,jl',kp,h4⟩⟩
   | some c=>
    exact ⟨_,rfl,t0,_,0,_,rfl,rfl,ht4,rfl,rfl,_,rfl,ifT (by decide +kernel) ⟨_,rfl,h4,_,rfl,by rw [tk];exact List.replicate_succ'.symm,jl',kp.trans (zD.at (by simp)),zC⟩⟩
  rintro ys τ H4 ⟨kk,rfl,rfl,_,kp,h4⟩
  rw [zCO,lt,zDD (zCX _)] at h4
  have k4:=kp.drop hac
  have cl:=List.countP_le_length (p:=Option.isSome) (l:=wy e.1 e.2)
  refine ⟨gl,ac,_,_,rfl,rfl,k4 _ _ (by simp) h3,h4,by rw [zCO,List.length_replicate,sizeLine_eq];omega,fun g2 hg2=>?_⟩
  have k5:zD [] H4 (upd H4 g2 (.lst (gs.map V.ref ++ List.replicate ((wy e.1 e.2).countP Option.isSome) (V.ref t)))):=zD.new hg2
  refine ⟨g2,gs ++ List.replicate ((wy e.1 e.2).countP Option.isSome) t,_,_,rfl,by rw [zC,zC0,List.map_replicate],?_,k3.trans (k4.trans k5)⟩
  rw [List.take_add_one,he]
  show Paired _ _ (goL wy (pr.take i ++ [e]))
  rw [gU]
  refine w4 (L2.Paired.mapP pr3 fun _ _ z=>(k4.trans k5) _ _ (by simp) z) ?_
  have ht5:=(k4.trans k5) _ _ (by simp) ht
  exact sJ (b:=e) ht5 _
 rintro σ H3 ⟨gl,gs,v4,v5,rfl,h3,pr3,k3⟩
 rw [wP,zDO,S.c.going F.np] at pr3
 have W3:=W2.keep k3
 have h13:=k3 _ _ (by simp) h12
 have lh:=S.c.heres F.nd
 have lg:=zU pr3
 refine ⟨_,rfl,_,_,rfl,.inl ⟨_,.of h13,rfl⟩,_,rfl,_,_,rfl,.inl ⟨_,.of h3,rfl⟩,_,_,rfl,rfl,rfl,_,rfl,ifF ?_ ?_⟩
 ·rw [zCO,zCO,lh,lg]
  cases l <;> rfl
 have l2:gs.length <= 1:=by rw [lg];cases l <;> simp [goS]
 refine ⟨_,rfl,by show 1 <= sizeLine;decide,fun nl hnl=>?_⟩
 refine lay hnl fun H4 k4 e4=>?_
 refine ⟨gl,nl,_,_,rfl,rfl,k4 _ _ (by simp) h3,e4,by rw [zCO,sizeLine_eq];show gs.length + 1 <= _;omega,fun cl hcl=>?_⟩
 refine lay hcl fun H5 k5 e5=>?_
 have k45:=k4.trans k5
 obtain ⟨gv,hat,hgo⟩:∃ gv,atI (gs.map V.ref ++ [V.non]) 0=some gv/\oR H3 l gv:=by
  cases l with
  | «at» r=>
   have:gs=[]:=List.length_eq_zero_iff.mp lg
   rw [this]
   exact ⟨.non,xN (j:=0) rfl,rfl⟩
  | on u v=>
   cases pr3 with
   | cons hg rest=>
    cases rest
    exact ⟨.ref _,xN (j:=0) rfl,_,rfl,hg⟩
 refine ⟨cl,_,0,gv,rfl,rfl,e5,hat,?_⟩
 have W5:=W3.keep k45
 have hgo5:=hgo.keep k45
 have k05:=k1.trans (k2.trans (k3.trans k45))
 refine zAI (hZ (bP (fun _=>False) (fun H6=>zD [] H5 H6) ?_ (fun _ h=>h.elim) ?_))
 ·intro R _ r2
  cases l with
  | «at» r=>
   obtain rfl:gv=.non:=hgo
   exact ⟨_,rfl,rfl,_,rfl,ifF rfl (r2 _ (zD.refl _))⟩
  | on u v=>
   obtain ⟨g,rfl,hg⟩:=hgo5
   obtain ⟨mu,mv,uv,pu,pv',_⟩:=S.c.wh
   have Su:=W5.se u mu
   have Sv:=W5.se v mv
   obtain ⟨⟨du,hou⟩,_,_⟩:=id Su
   obtain ⟨⟨dv,hov⟩,_,_⟩:=id Sv
   refine ⟨_,rfl,rfl,_,rfl,ifT rfl ?_⟩
   refine ⟨_,rfl,_,rfl,g,_,0,_,rfl,rfl,hg,rfl,sd,_,rfl,W5.gs F.nd mu,p u,du,_,rfl,hou,sT _ _ _ _,p u,wl u,_,rfl,Su,_,rfl,g,_,1,_,rfl,rfl,hg,rfl,?_,_,rfl,?_⟩
   ·rw [pu];rfl
   rw [pu]
   refine ifF (by show (!decide (V.str v=V.str v))=false;simp) ?_
   refine ⟨_,rfl,_,rfl,g,_,1,_,rfl,rfl,hg,rfl,sd,_,rfl,W5.gs F.nd mv,p v,dv,_,rfl,hov,sT _ _ _ _,p v,wl v,_,rfl,Sv,_,rfl,g,_,0,_,rfl,rfl,hg,rfl,?_,_,rfl,?_⟩
   ·rw [pv'];rfl
   rw [pv',show (!decide (yH (some u)=V.str u))=false by show (!decide (V.str u=V.str u))=false;simp]
   exact r2 _ (zD.refl _)
 intro H6 k6
 have W6:=W5.keep k6
 obtain ⟨os6,hos6⟩:=W6.sd
 refine ⟨_,rfl,sd,os6,yS ns p,rfl,hos6,sA (a:=sd) (o:=os6) (u:=.dK (y6 (yS ns p))) (n:=(yS ns p).length) (Y:=fun i _ x=>∃ z,((yS ns p).map (·.1))[i]?=some z/\x=.str z) (fun i σ H7=>∃ v5:Option V,σ=[some (.ref sd),some (.ref wd),some (.ref acc),some (.ref gl),some gv,v5]/\zD [] H6 H7) ⟨_,rfl,zD.refl _⟩ (fun i σ H7 _ ⟨_,_,k7⟩=>k7 _ _ (by simp) hos6) ?_ ?_⟩
 ·rintro i x σ H7 hi ⟨z,hz,rfl⟩ ⟨v5,rfl,k7⟩
  rw [x9] at hz
  have mz:=zCS hz
  have g7:=hgo5.keep (k6.trans k7)
  refine ⟨_,rfl,_,rfl,_,rfl,_,rfl,sd,wd,z,gv,ns,As,pr,p,wl,q,st,wy,l,rfl,F,W6.keep k7,S,mz,g7,fun H8 k8=>⟨_,rfl,ifF rfl ?_⟩⟩
  exact ⟨_,rfl,_,rfl,_,rfl,sd,wd,z,gv,ns,As,pr,p,wl,q,st,wy,l,rfl,F,W6.keep (k7.trans k8),S,mz,g7.keep k8,fun H9 k9=>⟨_,rfl,ifF rfl ⟨_,rfl,k7.trans (k8.trans k9)⟩⟩⟩
 ·rintro σ H7 ⟨v5,rfl,k7⟩
  exact k _ (k05.trans (k6.trans k7))
end
abbrev sDs:Stmt:=top 24
theorem zBI (o:Option Str) (z:Str):eS (yH o) (.str z)=true:=by cases o <;> rfl
theorem dJ (o:Option Str) (z:Str):(!decide (yH o=V.str z))=decide (o ≠ some z):=by
 cases o with
 | none=>simp [yH]
 | some y=>
  show (!decide (V.str y=V.str z))=_
  by_cases e:y=z
  ·rw [e];simp
  ·rw [zC4 (fun q=>e (V.str.inj q))]
   show (!false)=_
   simp [e]
structure DL (H:Hp) (ns As:List Str) (pr:LSS) (st:Str->SS) (wy:Wy) (dl:Addr) (ts:List Addr) (des:List De):Prop where
 l:H dl=some (.lst (ts.map V.ref))
 p:Paired (fun t d=>H t=some (.tup (deV d))) ts des
 o:∀ d ∈ des,pI H ns As pr st wy d
section
variable {H H':Hp} {ns As:List Str} {pr:LSS} {st:Str->SS} {wy:Wy} {dl:Addr} {ts:List Addr} {des:List De}
theorem pI.tup {d:De} (h:pI H ns As pr st wy d) (k:∀ t xs,H t=some (.tup xs)->H' t=some (.tup xs)):pI H' ns As pr st wy d:=by
 cases d with
 | come e t=>exact ⟨h.1,k _ _ h.2.1,h.2.2⟩
 | want n a=>exact h
 | leave n a=>exact h
 | done n a=>exact h
theorem DL.keep (h:DL H ns As pr st wy dl ts des) (k:zD [] H H'):DL H' ns As pr st wy dl ts des:=
 ⟨k _ _ (by simp) h.l,L2.Paired.mapP h.p fun _ _ e=>k _ _ (by simp) e,fun d hd=>(h.o d hd).tup fun _ _ e=>k _ _ (by simp) e⟩
theorem DL.push (h:DL H ns As pr st wy dl ts des) {t:Addr} {d:De} (ht:H t=some (.tup (deV d))) (ok:pI H ns As pr st wy d):DL (upd H dl (.lst (ts.map V.ref ++ [.ref t]))) ns As pr st wy dl (ts ++ [t]) (des ++ [d]):=by
 have far:∀ (x:Addr) (xs:List V),H x=some (.tup xs)->upd H dl (.lst (ts.map V.ref ++ [.ref t])) x=some (.tup xs):=fun x xs z=>by
  rw [zJ (fun w=>by rw [w,h.l] at z;cases z)];exact z
 refine ⟨by rw [zC,zC0];rfl,wH (L2.Paired.mapP h.p fun _ _ e=>far _ _ e) (far _ _ ht),fun x hx=>?_⟩
 rcases zC5.mp hx with q | q
 ·exact (h.o x q).tup far
 ·rw [zCR.mp q];exact ok.tup far
end
section
variable {P:Program} {w:World} {K:W.Frag} {mg:Str->Option Value} {base:Heap} {C:Addr}
theorem jC:zQ ["_law_seats","_law_ways","_law_askers","_law_deeds_here","_law_name","_law_row","_law_inside","_law_asker"] ["_law_seats","_law_ways","_law_askers"] (zG sDs):=scm
def zBD (C:Addr):Sp:=fun vs H Q _=>∃ (sd wd al:Addr) (ns As:List Str) (pr:LSS) (p wl:Str->Addr) (q:Str × Str->Addr) (st:Str->SS) (wy:Wy) (l:Loc),vs=[.ref sd,.ref wd,.ref al]/\Fx ns As pr/\WAt C H sd wd ns pr p wl q st wy/\Sys ns As (fun a b=>(a,b) ∈ pr) st wy l/\H al=some (.lst (As.map V.str))/\ns ≠ []/\As ≠ [] /\
 ∀ (dl:Addr) (ts:List Addr) (des:List De) (H':Hp),DL H' ns As pr st wy dl ts des->ts ≠ []->ts.length <= 1000->H dl=none->zD [] H H'->Q (.ref dl) H'
theorem okDs (T:xE K C) (G:y1 K mg "_law_deeds" sDs ["_law_seats","_law_ways","_law_askers"]) (MRo:xB P w K mg base CX0 1 C "row" ["self"] (lC C)) (MIn:xB P w K mg base CX0 1 C "inside" ["self"] (uB C)):Cal P w K mg base CX0 2 "_law_deeds" ["_law_seats","_law_ways","_law_askers"] (zBD C):=by
 refine G.ok jC (fun vs H Q E h=>by obtain ⟨_,_,_,_,_,_,_,_,_,_,_,_,rfl,_⟩:=h;rfl) (fun f cdv A outer s0 H vs Q E hr h=>?_)
 obtain ⟨sd,wd,al,ns,As,pr,p,wl,q,st,wy,l,rfl,F,W,S,hal,nn,na,k⟩:=h
 have hr1:z9 1 _:=hr
 have hu:=wZ hr
 have hu0:=Nat.lt_of_succ_lt hu
 refine ⟨_,(zB (wU (i:=3) jC.nd rfl (Or.inl rfl) (N:=["_law_seats","_law_ways","_law_askers","_law_deeds_here","_law_name","_law_row","_law_inside","_law_asker"]) (sc:=zG sDs) (ix:=[1]) (by decide +kernel) (iZ (pv 1)) (fun _ _ _ _=>(xT (zM (qP hu0) (yA hu (pv 1) (pv 0) (fun _ _=>rfl)) (yK zE) (zR _)))) (fun _ _ _ _=>(yC (zA z7 (zA (pv 0) zE)))))
   (zB (wM PassesOwn.never rfl (rJ (pv 0)) (yD (i:=4) jC.nd rfl (Or.inl rfl)) (zB (zV (i:=5) jC.nd rfl (Or.inl rfl) (yE MRo T.cl hr1 (yA hu (pv 0) (pv 4) (fun _ _=>rfl))))
   (zB (zV (i:=6) jC.nd rfl (Or.inl rfl) (yE MIn T.cl hr1 (yA hu (pv 0) (pv 4) (fun _ _=>rfl))))
   (zB (wM PassesOwn.never rfl (wF (pv 2)) (yD (i:=7) jC.nd rfl (Or.inl rfl)) (zH (yG (zM (qQ hu) (yC (zA z7 (zA (pv 7) zE))) (pv 5) (by with_unfolding_all rfl)) (zH (yT (wX PySem.F.plainAttrs_list PySem.F.slot_list_append PySem.F.type_list_append y2 (pv 3) (zA (yC (zA z7 (zA (pv 4) (zA (pv 7) zE)))) zE)))) (zH (yG (zM sK (pv 6) (pv 7) (zR _)) (zH (yT (wX PySem.F.plainAttrs_list PySem.F.slot_list_append PySem.F.type_list_append y2 (pv 3) (zA (yC (zA z7 (zA (pv 4) (zA (pv 7) zE)))) zE)))) zP)))))
   (zH (yG (zM vL (pv 6) y9 (zR _)) (zH (yT (wX PySem.F.plainAttrs_list PySem.F.slot_list_append PySem.F.type_list_append y2 (pv 3) (zA (yC (zA z7 (zA (pv 4) (zA (pv 6) zE)))) zE)))) zP))))))
   (zH (zO (pv 3))))),?_⟩
 have n6:=F.n6
 have pl:=F.pl
 obtain ⟨ow,how⟩:=W.wd
 refine ⟨_,rfl,wd,ow,xG pr q,rfl,how,fun acc hacc=>?_⟩
 have wa':wd ≠ acc:=zF how hacc
 refine sN (a:=wd) (o:=ow) (u:=.dT (xG pr q)) (n:=(xG pr q).length) (Y:=fun i H x=>∃ k t,((xG pr q).map (·.1))[i]?=some k/\x=.ref t/\H t=some (.tup (k.map kV))) (by rw [wP,sizeLine_eq];omega) (fun i ys τ H1=>∃ (kk:Option V) (ts:List Addr) (des:List De),τ=[kk,some (.ref wd)]/\ys=ts.map V.ref/\ts.length <= i/\DL H1 ns As pr st wy acc ts des/\zD [acc] H H1) ?_ ?_ ?_ ?_
 ·exact ⟨_,[],[],rfl,rfl,zCX _,⟨zC,.nil,fun d hd=>by cases hd⟩,zD.at (by simp)⟩
 ·rintro i ys τ H1 ⟨kk,ts,des,rfl,rfl,lt,D,kp⟩
  exact ⟨D.l,by rw [zCO];exact lt,kp _ _ (by simp [wa']) how⟩
 ·rintro i ys τ H1 x hi ⟨ky,t,hk,rfl,ht⟩ ⟨kk,ts,des,rfl,rfl,lt,D,kp⟩
  obtain ⟨e,he,ek⟩:=oT hk
  rw [ek] at ht
  have me:=zCS he
  have W1:=W.keep (kp.drop hacc)
  obtain ⟨qs,hq,hpq⟩:=W1.le e me
  have lq:=zU hpq
  rw [zCO] at lq
  refine ⟨_,rfl,_,rfl,wd,_,rfl,W1.gw F.np me ht,by show 0 <= sizeLine;decide,fun nl hnl=>?_⟩
  refine lay hnl fun H2 k2 e2=>?_
  refine ⟨q e,nl,_,rfl,rfl,k2 _ _ (by simp) hq,e2,zF hq hnl,_,rfl,?_⟩
  have kp2:=kp.trans (k2.mono (S':=[acc]) (by simp))
  have D2:=D.keep k2
  cases qs with
  | nil=>exact vW ⟨_,ts,des,rfl,rfl,by omega,D2,kp2⟩
  | cons q0 qs=>
   refine u8 ⟨_,rfl,by show 2 <= sizeLine;decide,fun tq htq=>?_⟩
   have k3:zD [] H2 (upd H2 tq (.tup (deV (.come e t)))):=zD.new htq
   have e3:upd H2 tq (.tup (deV (.come e t))) tq=some (.tup (deV (.come e t))):=zC
   have D3:=D2.keep k3
   have ok:pI (upd H2 tq (.tup (deV (.come e t)))) ns As pr st wy (.come e t):=⟨me,(k2.trans k3) _ _ (by simp) ht,fun z=>by rw [z] at lq;cases lq⟩
   refine ⟨D3.l,_,ts ++ [tq],des ++ [.come e t],rfl,by rw [zC0];rfl,by rw [zC6];show ts.length + 1 <= _;omega,D3.push e3 ok,(kp2.trans (k3.mono (by simp))).trans (zD.at (by simp))⟩
 rintro ys τ H1 ⟨kk,ts,des,rfl,rfl,lt,D,kp⟩
 rw [wP] at lt
 have k1:=kp.drop hacc
 clear kp
 have W1:=W.keep k1
 obtain ⟨os,hos⟩:=W1.sd
 have sa:sd ≠ acc:=xA hos D.l (by intro z;cases z)
 have hal1:=k1 _ _ (by simp) hal
 have aa:al ≠ acc:=fun z=>by rw [z,hacc] at hal;cases hal
 have old:∀ {H2:Hp},zD [acc] H1 H2->zD [] H H2:=fun {H2} k2 b o _ hb=>k2 b o (by simp;intro z;rw [z,hacc] at hb;cases hb) (k1 b o (by simp) hb)
 have a2:=F.a2
 refine ⟨_,rfl,sd,os,yS ns p,rfl,hos,sA (a:=sd) (o:=os) (u:=.dK (y6 (yS ns p))) (n:=(yS ns p).length) (Y:=fun i _ x=>∃ z,((yS ns p).map (·.1))[i]?=some z/\x=.str z) (fun i σ H2=>∃ (ts:List Addr) (des:List De) (v4 v5 v6 v7:Option V),σ=[some (.ref sd),some (.ref wd),some (.ref al),some (.ref acc),v4,v5,v6,v7]/\i <= ns.length/\ts.length <= 100 + 3 * i/\(0 < i->ts ≠ [])/\DL H2 ns As pr st wy acc ts des/\zD [acc] H1 H2) ⟨ts,des,_,_,_,_,rfl,zCY _,by omega,fun z=>absurd z (Nat.lt_irrefl _),D,zD.refl _⟩ (fun i σ H2 _ ⟨_,_,_,_,_,_,_,_,_,_,_,k2⟩=>k2 _ _ (by simp [sa]) hos) ?_ ?_⟩
 rotate_left
 ·rintro σ H2 ⟨ts,des,v4,v5,v6,v7,rfl,il,lt2,ne,D2,k2⟩
  rw [xK] at lt2 ne
  exact ⟨_,rfl,k acc ts des H2 D2 (ne (zDE.mpr nn)) (by omega) hacc (old k2)⟩
 rintro i x σ H2 hi ⟨z,hz,rfl⟩ ⟨ts,des,v4,v5,v6,v7,rfl,il,lt2,_,D2,k2⟩
 rw [x9] at hz
 rw [xK] at hi
 have mz:=zCS hz
 have W2:=W.keep (old k2)
 have Sz:=W2.se z mz
 obtain ⟨⟨dz,hoz⟩,_,_⟩:=id Sz
 refine ⟨_,rfl,_,rfl,sd,_,rfl,W2.gs F.nd mz,p z,dz,_,rfl,hoz,kG _ _ _ _,p z,wl z,_,rfl,Sz,fun rl H3 hrl R3 k3=>?_⟩
 have W3:=W2.keep k3
 have Sz3:=W3.se z mz
 obtain ⟨⟨dz3,hoz3⟩,_,_⟩:=id Sz3
 refine ⟨_,rfl,_,rfl,sd,_,rfl,W3.gs F.nd mz,p z,dz3,_,rfl,hoz3,kH _ _ _ _,p z,wl z,_,rfl,Sz3,?_⟩
 have ra:rl ≠ acc:=fun w=>by rw [w,D2.l] at hrl;cases hrl
 have k23:=k2.trans (k3.mono (S':=[acc]) (by simp))
 have hal3:=k23 _ _ (by simp [aa]) hal1
 have R3':=R3
 refine ⟨_,rfl,al,rfl,⟨_,.of hal3⟩,uL (K:=K) (a:=al) (xs:=As.map V.str) (fun j σ H4=>∃ (ts':List Addr) (des':List De) (v7:Option V),σ=[some (.ref sd),some (.ref wd),some (.ref al),some (.ref acc),some (.str z),some (.ref rl),some (yH (st z).hold),v7]/\ts'.length <= ts.length + j/\(0 < j->(st z).hold=none->ts' ≠ [])/\DL H4 ns As pr st wy acc ts' des'/\zD [acc] H3 H4) ⟨ts,des,_,rfl,zCX _,fun w=>absurd w (Nat.lt_irrefl _),D2.keep k3,zD.refl _⟩ (fun j σ H4 _ ⟨_,_,_,_,_,_,_,k4⟩=>.of (k4 _ _ (by simp [aa]) hal3)) ?_ ?_⟩
 ·rintro j y σ H4 hy ⟨ts',des',v7',rfl,lt4,ne4,D4,k4⟩
  rw [zCU] at hy
  cases ea:As[j]? with
  | none=>rw [ea] at hy;cases hy
  | some a=>
  rw [ea] at hy
  obtain rfl:V.str a=y:=zCV hy
  have ma:=zCS ea
  have j2:=(zCQ.mp ea).1
  refine ⟨_,rfl,by show 2 <= sizeLine;decide,fun tq htq=>?_⟩
  refine lay htq fun H5 k5 e5=>?_
  have D5:=D4.keep k5
  have k45:=k4.trans (k5.mono (S':=[acc]) (by simp))
  obtain ⟨rs,hrs,hpr⟩:=R3
  have R5:Rows H5 rl ((st z).row.map yX):=⟨rs,k45 _ _ (by simp [ra]) hrs,L2.Paired.mapP hpr fun x _ e=>k45 _ _ (by simp;intro w;rw [w,(D2.keep k3).l] at e;cases e) e⟩
  refine ⟨_,rfl,rl,tq,_,(st z).row.map yX,rfl,rfl,R5,e5,rfl,x8 _,_,rfl,?_⟩
  rw [show (if false=true then !(((st z).row.map yX).any fun r=>eqT r [.str "asker",.str a]) else ((st z).row.map yX).any fun r=>eqT r [.str "asker",.str a])=decide (yJ a ∈ (st z).row) from by rw [if_neg zDG];exact uP (st z).row (yJ a)]
  have app:∀ (d:De),deV d=deV d->pI H5 ns As pr st wy d->∀ tn,H5 tn=none->∃ (ts'':List Addr) (des'':List De) (v7:Option V),[some (V.ref sd),some (.ref wd),some (.ref al),some (.ref acc),some (.str z),some (.ref rl),some (yH (st z).hold),some (.str a)]=[some (.ref sd),some (.ref wd),some (.ref al),some (.ref acc),some (.str z),some (.ref rl),some (yH (st z).hold),v7]/\ts''.length <= ts.length + (j + 1)/\(0 < j + 1->(st z).hold=none->ts'' ≠ [])/\DL (upd (upd H5 tn (.tup (deV d))) acc (.lst (ts'.map V.ref ++ [.ref tn]))) ns As pr st wy acc ts'' des''/\zD [acc] H3 (upd (upd H5 tn (.tup (deV d))) acc (.lst (ts'.map V.ref ++ [.ref tn]))):=fun d _ ok tn htn=>by
   have k6:zD [] H5 (upd H5 tn (.tup (deV d))):=zD.new htn
   exact ⟨ts' ++ [tn],des' ++ [d],_,rfl,by rw [zC6];show ts'.length + 1 <= _;omega,fun _ _=>by simp,(D5.keep k6).push zC (ok.tup fun _ _ e=>k6 _ _ (by simp) e),(k45.trans (k6.mono (by simp))).trans (zD.at (by simp))⟩
  have size:ts'.length < sizeLine:=by rw [sizeLine_eq];omega
  by_cases hm:yJ a ∈ (st z).row
  ·refine ifT (zC3 hm) ?_
   refine ⟨_,rfl,Or.inl ⟨rfl,_,.of D5.l⟩,_,rfl,_,rfl,by show 3 <= sizeLine;decide,fun tn htn=>?_⟩
   refine ⟨acc,_,_,rfl,rfl,by rw [zJ (zF D5.l htn)];exact D5.l,by rw [zCO];exact size,app (.leave z a) rfl ⟨mz,ma,hm⟩ tn htn⟩
  ·refine ifF (zC4 hm) ?_
   refine ⟨_,rfl,_,rfl,zBI _ _,_,rfl,?_⟩
   rw [dJ]
   by_cases hh:(st z).hold=some a
   ·refine ifF (by simp [hh]) ⟨ts',des',_,rfl,by omega,(fun _ w=>by rw [hh] at w;cases w),D5,k45⟩
   ·refine ifT (by simp [hh]) ?_
    refine ⟨_,rfl,Or.inl ⟨rfl,_,.of D5.l⟩,_,rfl,_,rfl,by show 3 <= sizeLine;decide,fun tn htn=>?_⟩
    refine ⟨acc,_,_,rfl,rfl,by rw [zJ (zF D5.l htn)];exact D5.l,by rw [zCO];exact size,app (.want z a) rfl ⟨mz,ma,hh,hm⟩ tn htn⟩
 rintro σ H4 ⟨ts',des',v7',rfl,lt4,ne4,D4,k4⟩
 rw [zCO] at lt4 ne4
 have lA:=zDE.mpr na
 refine ⟨_,rfl,rfl,_,rfl,?_⟩
 cases hh:(st z).hold with
 | none=>exact ifF rfl ⟨ts',des',_,_,_,_,rfl,hi,by omega,fun _=>ne4 lA hh,D4,k23.trans k4⟩
 | some a=>
  refine ifT rfl ?_
  refine ⟨_,rfl,Or.inl ⟨rfl,_,.of D4.l⟩,_,rfl,_,rfl,by show 3 <= sizeLine;decide,fun tn htn=>?_⟩
  have k6:zD [] H4 (upd H4 tn (.tup (deV (.done z a)))):=zD.new htn
  exact ⟨acc,_,_,rfl,rfl,k6 _ _ (by simp) D4.l,by rw [zCO,sizeLine_eq];omega,ts' ++ [tn],des' ++ [De.done z a],_,_,_,_,rfl,hi,by rw [zC6];show ts'.length + 1 <= _;omega,fun _=>by simp,(D4.keep k6).push (d:=.done z a) zC ⟨mz,hh⟩,((k23.trans k4).trans (k6.mono (by simp))).trans (zD.at (by simp))⟩
end
abbrev sAG:Stmt:=top 29
def wtL (ns:List Str) (st:Str->SS):LSS:=ns.flatMap fun n=>(wa (st n)).map fun a=>(n,a)
theorem wQ (n:Str) (ns:List Str) (st:Str->SS):wtL (n :: ns) st=((wa (st n)).map fun a=>(n,a)) ++ wtL ns st:=List.flatMap_cons
theorem pJ (n:Str) (ns:List Str) (st:Str->SS):wtL (ns ++ [n]) st=wtL ns st ++ (wa (st n)).map fun a=>(n,a):=by
 unfold wtL
 rw [List.flatMap_append];simp
theorem mQ {n:Str} {s:SS} {st:Str->SS}:∀ {ns:List Str},n ∉ ns->wtL ns (stU st n s)=wtL ns st
 | [],_=>rfl
 | m :: r,h=>by
  rw [wQ,wQ,zY (fun e=>h (by rw [e];exact zDH)),mQ fun q=>h (zC1 _ q)]
theorem mP {n:Str} {s:SS} {st:Str->SS} {gv:List Str} (e:gv ++ wa s=wa (st n)):∀ {ns:List Str},ns.Nodup->n ∈ ns->((gv.map fun a=>(n,a)) ++ wtL ns (stU st n s)).Perm (wtL ns st)
 | [],_,h=>by cases h
 | m :: r,nd,h=>by
  obtain ⟨nm,ndr⟩:=List.nodup_cons.mp nd
  rw [wQ,wQ]
  by_cases em:m=n
  ·subst em
   rw [zL,mQ nm,<- zDJ,<- zC0,e]
  ·rw [zY em]
   rcases List.mem_cons.mp h with q | q
   ·exact absurd q.symm em
   ·refine List.Perm.trans ?_ ((mP e ndr q).append_left _)
    rw [<- zDJ,<- zDJ]
    exact (List.perm_append_comm).append_right _
theorem r8 {k:Nat} {st:Str->SS}:∀ {ns:List Str},(∀ n ∈ ns,(wa (st n)).length <= k)->(wtL ns st).length <= k * ns.length
 | [],_=>zCY _
 | m :: r,h=>by
  have h1:=h m zDH
  have h2:=r8 fun n hn=>h n (zC1 _ hn)
  rw [wQ,zC6,zCO,zC9,Nat.mul_succ];omega
theorem mT {st:Str->SS}:∀ {ns:List Str},(∀ n ∈ ns,(st n).row=[])->wtL ns st=[]
 | [],_=>rfl
 | m :: r,h=>by
  rw [wQ,mT fun n hn=>h n (zC1 _ hn)]
  unfold wa
  rw [h m zDH];rfl
theorem j4 {As:List Str} (a2:As.length <= 2) {s:SS} (r:kP As s):(wa s).length <= 2:=by
 have:=bK a2 r
 unfold pS at this
 omega
theorem WAt.nt {C:Addr} {H:Hp} {sd wd:Addr} {ns:List Str} {pr:LSS} {p wl:Str->Addr} {q:Str × Str->Addr} {st:Str->SS} {wy:Wy} (h:WAt C H sd wd ns pr p wl q st wy):∀ b ∈ wS ns pr p wl q,∀ xs,H b ≠ some (.tup xs):=fun b hm xs hb=>by
 rcases zC5.mp hm with hm | hm
 ·rcases zC5.mp hm with hm | hm
  ·obtain ⟨n,hn,rfl⟩:=List.mem_map.mp hm
   obtain ⟨⟨dx,e⟩,_⟩:=h.se n hn
   rw [hb] at e;cases e
  ·obtain ⟨n,hn,rfl⟩:=List.mem_map.mp hm
   obtain ⟨_,⟨ps,e,_⟩,_⟩:=h.se n hn
   rw [hb] at e;cases e
 ·obtain ⟨x,hx,rfl⟩:=List.mem_map.mp hm
  obtain ⟨ps,e,_⟩:=h.le x hx
  rw [hb] at e;cases e
theorem sW (z:Str):∀ r:LSS,(r.filter fun x=>decide (x.1=("asker" : Str))).map (fun x=>[V.str z,.str x.2])=((r.filterMap sX).map fun a=>(z,a)).map xZ
 | []=>rfl
 | x :: r=>by
  have ih:=sW z r
  rw [List.filter_cons,List.filterMap_cons]
  unfold sX
  by_cases e:x.1=("asker" : Str)
  ·rw [if_pos (zC3 e),if_pos e,List.map_cons,ih];rfl
  ·rw [if_neg (by simp [e]),if_neg e,ih];rfl
theorem decS (a b:Str):decide (V.str a=V.str b)=decide (a=b):=by
 by_cases h:a=b
 ·rw [h];simp
 ·rw [zC4 h];exact zC4 fun e=>h (by injection e)
def gvB (r:List V):Bool:=decide (r[0]?=some (.str ("given" : Str)))
theorem pA (z:Str) (tl:Tl):((tlV tl).filter gvB).map (fun r=>[V.str z,r.getD 1 .non])=((gvL tl).map fun a=>(z,a)).map xZ:=by
 cases tl with
 | no=>rfl
 | given a=>
  have:gvB [.str ("given" : Str),.str a]=true:=by unfold gvB;simp
  show ([[V.str ("given" : Str),V.str a]].filter gvB).map _=_
  rw [List.filter_cons,if_pos this];rfl
 | ask y=>
  have:gvB [.str ("ask" : Str),.str y]=false:=by unfold gvB;simp;decide +kernel
  show ([[V.str ("ask" : Str),V.str y]].filter gvB).map _=_
  rw [List.filter_cons,this];rfl
 | right x b=>
  have:gvB [.str ("right" : Str),.str x,.bl b]=false:=by unfold gvB;simp;decide +kernel
  show ([[V.str ("right" : Str),V.str x,.bl b]].filter gvB).map _=_
  rw [List.filter_cons,this];rfl
theorem mU {tl:Tl} {x:List V} (h:x ∈ tlV tl):∃ (w:Str) (y:V) (r:List V),x=.str w :: y :: r:=by
 cases tl with
 | no=>cases h
 | given a=>rw [zCR.mp h];exact ⟨_,_,_,rfl⟩
 | ask y=>rw [zCR.mp h];exact ⟨_,_,_,rfl⟩
 | right x b=>rw [zCR.mp h];exact ⟨_,_,_,rfl⟩
theorem eD (tl:Tl):(tlV tl).length <= 1:=by cases tl <;> simp [tlV,gvL]
theorem d9 (tl:Tl):(gvL tl).length <= 1:=by cases tl <;> simp [tlV,gvL]
theorem cA (w:Str) (y:V) (r:List V):gvB (.str w :: y :: r)=decide (V.str w=V.str ("given" : Str)):=by
 unfold gvB
 simp
theorem DL.join {H:Hp} {ns As:List Str} {pr:LSS} {st:Str->SS} {wy:Wy} {d1 d2:Addr} {t1 t2:List Addr} {e1 e2:List De} (h1:DL H ns As pr st wy d1 t1 e1) (h2:DL H ns As pr st wy d2 t2 e2) {l:Addr} (hl:H l=none):DL (upd H l (.lst (t1.map V.ref ++ t2.map V.ref))) ns As pr st wy l (t1 ++ t2) (e1 ++ e2):=by
 have far:∀ (x:Addr) (xs:List V),H x=some (.tup xs)->upd H l (.lst (t1.map V.ref ++ t2.map V.ref)) x=some (.tup xs):=fun x xs z=>by
  rw [zJ (fun w=>by rw [w,hl] at z;cases z)];exact z
 refine ⟨by rw [zC,zC0],w4 (L2.Paired.mapP h1.p fun _ _ e=>far _ _ e) (L2.Paired.mapP h2.p fun _ _ e=>far _ _ e),fun x hx=>?_⟩
 rcases zC5.mp hx with q | q
 ·exact (h1.o x q).tup far
 ·exact (h2.o x q).tup far
theorem rG {H:Hp} {a b:Addr} {r1 r2:List (List V)} (h1:Rows H a r1) (h2:Rows H b r2):∃ (x y:List Addr),H a=some (.lst (x.map V.ref))/\H b=some (.lst (y.map V.ref))/\x.length=r1.length/\y.length=r2.length/\∀ l,H l=none->Rows (upd H l (.lst (x.map V.ref ++ y.map V.ref))) l (r1 ++ r2):=by
 obtain ⟨x,hx,px⟩:=h1
 obtain ⟨y,hy,py⟩:=h2
 refine ⟨x,y,hx,hy,zU px,zU py,fun l hl=>⟨x ++ y,by rw [zC,zC0],?_⟩⟩
 have far:∀ (z:Addr) (xs:List V),H z=some (.tup xs)->upd H l (.lst (x.map V.ref ++ y.map V.ref)) z=some (.tup xs):=fun z xs e=>by
  rw [zJ (fun w=>by rw [w,hl] at e;cases e)];exact e
 exact w4 (L2.Paired.mapP px fun _ _ e=>far _ _ e) (L2.Paired.mapP py fun _ _ e=>far _ _ e)
section
variable {P:Program} {w:World} {K:W.Frag} {mg:Str->Option Value} {base:Heap} {C:Addr}
theorem tO:zQ ["_law_seats","_law_ways","_law_waiting","_law_name","_law_given","_law_turn","_law_deeds_here","_law_rows","_law_told"] ["_law_seats","_law_ways"] (zG sAG):=scm
def zBG (C:Addr):Sp:=fun vs H Q _=>∃ (sd wd:Addr) (ns As:List Str) (pr:LSS) (p wl:Str->Addr) (q:Str × Str->Addr) (st:Str->SS) (wy:Wy) (l:Loc),vs=[.ref sd,.ref wd]/\Fx ns As pr/\WAt C H sd wd ns pr p wl q st wy/\Sys ns As (fun a b=>(a,b) ∈ pr) st wy l/\∀ H',Q (.bl true) H'
theorem okAG (T:xE K C) (G:y1 K mg "_law_all_given" sAG ["_law_seats","_law_ways"]) (MRo:xB P w K mg base CX0 1 C "row" ["self"] (lC C)) (MIn:xB P w K mg base CX0 1 C "inside" ["self"] (uB C)) (CPu:Cal P w K mg base CX0 5 "_law_put" ["_law_seats","_law_ways","_law_deed"] (b8 C)) (CSe:Cal P w K mg base CX0 1 "_law_sent" ["_law_ways","_law_name","_law_told"] (nB C)) (CSt:Cal P w K mg base CX0 3 "_law_stands" ["_law_seats","_law_ways"] (b7 C)) (b_sorted:Blt mg "sorted") (b_range:Blt mg "range"):Cal P w K mg base CX0 6 "_law_all_given" ["_law_seats","_law_ways"] (zBG C):=by
 refine G.ok tO (fun vs H Q E h=>by obtain ⟨_,_,_,_,_,_,_,_,_,_,_,rfl,_⟩:=h;rfl) (fun f cdv A outer s0 H vs Q E hr h=>?_)
 obtain ⟨sd,wd,ns,As,pr,p,wl,q,st,wy,l,rfl,F,W,S,k⟩:=h
 have hr5:z9 5 _:=hr
 have hr3:z9 3 _:=hr.mono (by decide)
 have hr1:z9 1 _:=hr.mono (by decide)
 have hu:=wZ hr
 have hu0:=Nat.lt_of_succ_lt hu
 have hu4':=hu4 hr
 refine ⟨_,(zB (zV (i:=2) tO.nd rfl (Or.inl rfl) (yK zE))
   (zB (wM PassesOwn.never rfl (rJ (pv 0)) (yD (i:=3) tO.nd rfl (Or.inr rfl)) (zH (zV (i:=2) tO.nd rfl (Or.inl rfl) (z5 vU (pv 2) (aQ (N:=["_law_seats","_law_ways","_law_waiting","_law_name","_law_given","_law_turn","_law_deeds_here","_law_rows","_law_told"]) (sc:=zG sAG) (ix:=[3]) (by decide +kernel) (wF (yE MRo T.cl hr1 (yA hu (pv 0) (pv 3) (fun _ _=>rfl)))) (fun _ _ _ _=>(xT (zM wY (pv 0) z7 (zR _)))) (fun _ _ _ _=>(yC (zA (pv 2) (zA (pv 1) zE)))))))))
   (zB (zV (i:=4) tO.nd rfl (Or.inl rfl) (yK zE))
   (zB (wM PassesOwn.never rfl (uY rfl b_range.no (zA zI zE)) (yD (i:=5) tO.nd rfl (Or.inl rfl)) (zB (wU (i:=6) tO.nd rfl (Or.inl rfl) (N:=["_law_seats","_law_ways","_law_waiting","_law_name","_law_given","_law_turn","_law_deeds_here","_law_rows","_law_told"]) (sc:=zG sAG) (ix:=[1]) (by decide +kernel) (iZ (pv 1)) (fun _ _ _ _=>(xT (zM (qP hu0) (yA hu (pv 1) (pv 0) (fun _ _=>rfl)) (yK zE) (zR _)))) (fun _ _ _ _=>(yC (zA z7 (zA (pv 0) zE)))))
   (zB (zV (i:=6) tO.nd rfl (Or.inl rfl) (z5 vU (pv 6) (vD (N:=["_law_seats","_law_ways","_law_waiting","_law_name","_law_given","_law_turn","_law_deeds_here","_law_rows","_law_told"]) (sc:=zG sAG) (ix:=[0]) (by decide +kernel) (rJ (pv 0)) (fun _ _ _ _=>(xT (zM vL (yE MIn T.cl hr1 (yA hu (pv 1) (pv 0) (fun _ _=>rfl))) y9 (zR _)))) (fun _ _ _ _=>(yC (zA z7 (zA (pv 0) (zA (yE MIn T.cl hr1 (yA hu (pv 1) (pv 0) (fun _ _=>rfl))) zE))))))))
   (zB (yG (zM (hV hu0) (pv 6) (yK zE) (zR _)) (zB (wU (i:=7) tO.nd rfl (Or.inl rfl) (N:=["_law_seats","_law_ways","_law_waiting","_law_name","_law_given","_law_turn","_law_deeds_here","_law_rows","_law_told"]) (sc:=zG sAG) (ix:=[0]) (by decide +kernel) (rJ (pv 0)) (fun _ _ _ _=>(xT (zM (qP hu0) (yE MRo T.cl hr1 (yA hu (pv 1) (pv 0) (fun _ _=>rfl))) (yK zE) (zR _)))) (fun _ _ _ _=>(pv 0)))
   (zH (zO (nN (xU (aU hu4') (xY uN b_sorted rT (zA (pv 4) zE)) (xY uN b_sorted rT (zA (pv 2) zE)) (zR _)) (nM (xU (hV hu0) (pv 7) (yK zE) (zR _))))))) zP)
   (zB (uW (zZ CPu hr5 (zA (pv 0) (zA (pv 1) (zA (zT yB (pv 6) zI (fun _ _=>rfl)) zE)))) (sH rfl (y8 (yD (i:=3) tO.nd rfl (Or.inr rfl)) (y8 (yD (i:=8) tO.nd rfl (Or.inl rfl)) uG))))
   (zB (zV (i:=4) tO.nd rfl (Or.inl rfl) (z5 vU (pv 4) (vD (N:=["_law_seats","_law_ways","_law_waiting","_law_name","_law_given","_law_turn","_law_deeds_here","_law_rows","_law_told"]) (sc:=zG sAG) (ix:=[3]) (by decide +kernel) (wF (pv 8)) (fun _ _ _ _=>(xT (zM wY (zT zW (pv 0) zI (fun _ _=>rfl)) z7 (zR _)))) (fun _ _ _ _=>(yC (zA (pv 1) (zA (zT zW (pv 0) zI (fun _ _=>rfl)) zE)))))))
   (zB (yT (zZ CSe hr1 (zA (pv 1) (zA (pv 3) (zA (pv 8) zE)))))
   (zH (yG (wA (xQ (zZ CSt hr3 (zA (pv 0) (zA (pv 1) zE))))) (zH (zO wG)) zP)))))))))
   (zH (zO wG)))))),?_⟩
 have n6:=F.n6
 have pl:=F.pl
 have w12:=r8 (k:=2) (st:=st) (ns:=ns) fun n hn=>j4 F.a2 (S.c.i n hn)
 refine ⟨by show 0 <= sizeLine;decide,fun wt0 hwt0=>?_⟩
 refine lay hwt0 fun H1 k1 e1=>?_
 have W1:=W.keep k1
 obtain ⟨os,hos⟩:=W1.sd
 refine ⟨_,rfl,sd,os,yS ns p,rfl,hos,sA (a:=sd) (o:=os) (u:=.dK (y6 (yS ns p))) (n:=(yS ns p).length) (Y:=fun i _ x=>∃ z,((yS ns p).map (·.1))[i]?=some z/\x=.str z) (fun i σ H2=>∃ (wt:Addr) (v3:Option V),σ=[some (.ref sd),some (.ref wd),some (.ref wt),v3,none,none,none,none,none]/\Rows H2 wt ((wtL (ns.take i) st).map xZ)/\wt ∉ wS ns pr p wl q/\zD [] H1 H2) ⟨wt0,_,rfl,⟨[],e1,.nil⟩,W.new hwt0,zD.refl _⟩ (fun i σ H2 _ ⟨_,_,_,_,_,k2⟩=>k2 _ _ (by simp) hos) ?_ ?_⟩
 ·rintro i x σ H2 hi ⟨z,hz,rfl⟩ ⟨wt,v3,rfl,R2,nw,k2⟩
  rw [x9] at hz
  have mz:=zCS hz
  have W2:=W1.keep k2
  have Sz:=W2.se z mz
  obtain ⟨⟨dz,hoz⟩,_,_⟩:=id Sz
  have tk:ns.take (i + 1)=ns.take i ++ [z]:=by rw [List.take_add_one,hz];rfl
  have l8:=S.c.rows F.n6 F.a2 mz
  refine ⟨_,rfl,_,rfl,_,rfl,sd,_,rfl,W2.gs F.nd mz,p z,dz,_,rfl,hoz,kG _ _ _ _,p z,wl z,_,rfl,Sz,fun rl H3 hrl R3 k3=>?_⟩
  obtain ⟨rs,hrs,hprs⟩:=id R3
  refine ⟨rl,rfl,⟨_,.of hrs⟩,fun ac hac=>kA (ds:=(st z).row) yX (fun x=>[.str z,.str x.2]) (fun x=>decide (x.1=("asker" : Str))) (fun x _=>[some (.str x.1),some (.str x.2)]) [some (.str z)] (by omega) hac R3 ⟨[none,none],rfl,rfl⟩ (fun _ _=>rfl) ?_ ?_ ?_ ?_⟩
  ·intro x qa vs H R hm hv hq h
   match vs,hv with
   | [v,v'],_=>exact ⟨qa,_,rfl,.of hq,rfl,_,_,rfl,_,_,rfl,rfl,h⟩
  ·intro x qa H2 R2 hm kk hq h
   refine ⟨_,rfl,rfl,_,rfl,?_⟩
   have h':=h H2 (zD.refl _)
   rw [<- decS] at h'
   exact h'
  ·exact fun x qa H R hm hq h=>⟨_,rfl,_,rfl,by show 2 <= sizeLine;decide,fun t ht=>h t _ (zD.new ht) zC⟩
  intro H4 R4 k4
  rw [sW] at R4
  have k34:=k3.trans k4
  obtain ⟨xs,ys,hx,hy,lx,ly,jn⟩:=rG (R2.keep k34) R4
  rw [zCO] at lx ly
  have t12:=r8 (k:=2) (st:=st) (ns:=ns.take (i + 1)) fun n hn=>j4 F.a2 (S.c.i n (List.mem_of_mem_take hn))
  rw [tk,pJ,zC6] at t12
  have tl:=(List.take_sublist i ns).length_le
  rw [zC6] at t12
  refine ⟨wt,ac,_,_,rfl,rfl,hx,hy,by rw [zCO,zCO,lx,ly,sizeLine_eq];show _ + (((st z).row.filterMap sX).map _).length <= _;unfold wa at t12;simp only [zC9,List.length_nil] at t12;omega,fun g hg=>?_⟩
  have k5:zD [] H4 (upd H4 g (.lst (xs.map V.ref ++ ys.map V.ref))):=zD.new hg
  refine ⟨g,_,rfl,?_,(W2.keep k34).new hg,k2.trans (k34.trans k5)⟩
  rw [tk,pJ,zC0]
  exact jn g hg
 rintro σ H2 ⟨wt,v3,rfl,R2,nw,k2⟩
 rw [xK,zDO] at R2
 have W2:=W1.keep k2
 refine ⟨by show 0 <= sizeLine;decide,fun gl0 hgl0=>?_⟩
 refine lay hgl0 fun H3 k3 e3=>?_
 have W3:=W2.keep k3
 have R3:=R2.keep k3
 clear R2 e1 hos
 refine ⟨600,rfl,by decide,by decide,rO (fun i σ H4=>∃ (gl:Addr) (gs:LSS) (st':Str->SS) (wy':Wy) (l':Loc) (v3 v5 v6 v7 v8:Option V),σ=[some (.ref sd),some (.ref wd),some (.ref wt),v3,some (.ref gl),v5,v6,v7,v8]/\WAt C H4 sd wd ns pr p wl q st' wy'/\Sys ns As (fun a b=>(a,b) ∈ pr) st' wy' l'/\Rows H4 wt ((wtL ns st).map xZ)/\Rows H4 gl (gs.map xZ)/\gl ∉ wS ns pr p wl q/\(gs ++ wtL ns st').Perm (wtL ns st)/\phi ns st' wy' l' + i <= 491) ?_ ?_ ?_⟩
 ·exact ⟨gl0,[],st,wy,l,_,_,_,_,_,rfl,W3,S,R3,⟨[],e3,.nil⟩,W2.new hgl0,.refl _,aN F.n6 F.a2 S⟩
 rotate_left
 ·rintro σ H4 ⟨gl,gs,st1,wy1,l1,v3,v5,v6,v7,v8,rfl,W4,S4,R4,G4,ng,pm,ph⟩
  have e:(600:Int).toNat=600:=rfl
  rw [e] at ph
  exact absurd ph (by omega)
 clear W3 R3 W2 e3 k3 hgl0 k2 W1 k1 hwt0
 rintro i σ H4 hi ⟨gl,gs,st1,wy1,l1,v3,v5,v6,v7,v8,rfl,W4,S4,R4,G4,ng,pm,ph⟩
 obtain ⟨ow,how⟩:=W4.wd
 refine ⟨_,rfl,wd,ow,xG pr q,rfl,how,fun acc hacc=>?_⟩
 have wa':wd ≠ acc:=zF how hacc
 refine sN (a:=wd) (o:=ow) (u:=.dT (xG pr q)) (n:=(xG pr q).length) (Y:=fun i H x=>∃ k t,((xG pr q).map (·.1))[i]?=some k/\x=.ref t/\H t=some (.tup (k.map kV))) (by rw [wP,sizeLine_eq];omega) (fun i ys τ H1=>∃ (kk:Option V) (ts:List Addr) (des:List De),τ=[kk,some (.ref wd)]/\ys=ts.map V.ref/\ts.length <= i/\DL H1 ns As pr st1 wy1 acc ts des/\(∀ d ∈ des,deC d=true)/\(ts=[]->∀ e ∈ pr.take i,wy1 e.1 e.2=[])/\zD [acc] H4 H1) ?_ ?_ ?_ ?_
 ·exact ⟨_,[],[],rfl,rfl,zCX _,⟨zC,.nil,fun d hd=>by cases hd⟩,(fun d hd=>by cases hd),(fun _ e he=>by cases he),zD.at (by simp)⟩
 ·rintro i ys τ H1 ⟨kk,ts,des,rfl,rfl,lt,D,_,_,kp⟩
  exact ⟨D.l,by rw [zCO];exact lt,kp _ _ (by simp [wa']) how⟩
 ·rintro i ys τ H1 x hi ⟨ky,t,hk,rfl,ht⟩ ⟨kk,ts,des,rfl,rfl,lt,D,dc,dn,kp⟩
  obtain ⟨e,he,ek⟩:=oT hk
  rw [ek] at ht
  have me:=zCS he
  have W1:=W4.keep (kp.drop hacc)
  have tk:pr.take (i + 1)=pr.take i ++ [e]:=by rw [List.take_add_one,he];rfl
  obtain ⟨qs,hq,hpq⟩:=W1.le e me
  have lq:=zU hpq
  rw [zCO] at lq
  refine ⟨_,rfl,_,rfl,wd,_,rfl,W1.gw F.np me ht,by show 0 <= sizeLine;decide,fun nl hnl=>?_⟩
  refine lay hnl fun H2 k2 e2=>?_
  refine ⟨q e,nl,_,rfl,rfl,k2 _ _ (by simp) hq,e2,zF hq hnl,_,rfl,?_⟩
  have kp2:=kp.trans (k2.mono (S':=[acc]) (by simp))
  have D2:=D.keep k2
  cases qs with
  | nil=>
   refine vW ⟨_,ts,des,rfl,rfl,by omega,D2,dc,fun z f hf=>?_,kp2⟩
   rw [tk] at hf
   rcases zC5.mp hf with a | a
   ·exact dn z f a
   ·rw [zCR.mp a]
    exact List.length_eq_zero_iff.mp lq.symm
  | cons q0 qs=>
   refine u8 ⟨_,rfl,by show 2 <= sizeLine;decide,fun tq htq=>?_⟩
   have k3:zD [] H2 (upd H2 tq (.tup (deV (.come e t)))):=zD.new htq
   have e3:upd H2 tq (.tup (deV (.come e t))) tq=some (.tup (deV (.come e t))):=zC
   have D3:=D2.keep k3
   have ok:pI (upd H2 tq (.tup (deV (.come e t)))) ns As pr st1 wy1 (.come e t):=⟨me,(k2.trans k3) _ _ (by simp) ht,fun z=>by rw [z] at lq;cases lq⟩
   refine ⟨D3.l,_,ts ++ [tq],des ++ [De.come e t],rfl,by rw [zC0];rfl,by rw [zC6];show ts.length + 1 <= _;omega,D3.push e3 ok,fun d hd=>?_,fun z=>absurd z (by simp),(kp2.trans (k3.mono (by simp))).trans (zD.at (by simp))⟩
   rcases zC5.mp hd with a | a
   ·exact dc d a
   ·rw [zCR.mp a];rfl
 rintro ys τ H5 ⟨kk,ts,des,rfl,rfl,lt,D,dc,dn,kp⟩
 rw [wP] at lt dn
 rw [zDO] at dn
 have k5:=kp.drop hacc
 clear kp
 have W5:=W4.keep k5
 have R5:=R4.keep k5
 have G5:=G4.keep k5
 clear W4 R4 G4 k5 how hacc wa'
 obtain ⟨os,hos⟩:=W5.sd
 refine ⟨_,rfl,_,rfl,sd,os,yS ns p,rfl,hos,fun ac2 hac2=>?_⟩
 have sa:sd ≠ ac2:=zF hos hac2
 refine sN (a:=sd) (o:=os) (u:=.dK (y6 (yS ns p))) (n:=(yS ns p).length) (Y:=fun i _ x=>∃ z,((yS ns p).map (·.1))[i]?=some z/\x=.str z) (by rw [xK,sizeLine_eq];omega) (fun i ys τ H1=>∃ (kk:Option V) (ts:List Addr) (des:List De),τ=[kk,some (.ref sd)]/\ys=ts.map V.ref/\ts.length <= i/\DL H1 ns As pr st1 wy1 ac2 ts des/\(∀ d ∈ des,deC d=true)/\(ts=[]->∀ n ∈ ns.take i,(st1 n).hold=none)/\zD [ac2] H5 H1) ?_ ?_ ?_ ?_
 ·exact ⟨_,[],[],rfl,rfl,zCX _,⟨zC,.nil,fun d hd=>by cases hd⟩,(fun d hd=>by cases hd),(fun _ e he=>by cases he),zD.at (by simp)⟩
 ·rintro i ys τ H1 ⟨kk,ts,des,rfl,rfl,lt,D,_,_,kp⟩
  exact ⟨D.l,by rw [zCO];exact lt,kp _ _ (by simp [sa]) hos⟩
 ·rintro i ys τ H1 x hi ⟨z,hz,rfl⟩ ⟨kk,ts,des,rfl,rfl,lt,D,dc,dn,kp⟩
  rw [x9] at hz
  have mz:=zCS hz
  have W1:=W5.keep (kp.drop hac2)
  have tk:ns.take (i + 1)=ns.take i ++ [z]:=by rw [List.take_add_one,hz];rfl
  have Sz:=W1.se z mz
  obtain ⟨⟨dz,hoz⟩,_,_⟩:=id Sz
  refine ⟨_,rfl,_,rfl,sd,_,rfl,W1.gs F.nd mz,p z,dz,_,rfl,hoz,kH _ _ _ _,p z,wl z,_,rfl,Sz,rfl,_,rfl,?_⟩
  cases hh:(st1 z).hold with
  | none=>
   refine vW ⟨_,ts,des,rfl,rfl,by omega,D,dc,fun w n hn=>?_,kp⟩
   rw [tk] at hn
   rcases zC5.mp hn with a | a
   ·exact dn w n a
   ·rw [zCR.mp a];exact hh
  | some a=>
   refine u8 ⟨_,rfl,_,rfl,_,rfl,sd,_,rfl,W1.gs F.nd mz,p z,dz,_,rfl,hoz,kH _ _ _ _,p z,wl z,_,rfl,Sz,by show 3 <= sizeLine;decide,fun tq htq=>?_⟩
   rw [hh]
   have k3:zD [] H1 (upd H1 tq (.tup (deV (.done z a)))):=zD.new htq
   have e3:upd H1 tq (.tup (deV (.done z a))) tq=some (.tup (deV (.done z a))):=zC
   have D3:=D.keep k3
   refine ⟨D3.l,_,ts ++ [tq],des ++ [De.done z a],rfl,by rw [zC0];rfl,by rw [zC6];show ts.length + 1 <= _;omega,D3.push (d:=.done z a) e3 ⟨mz,hh⟩,fun d hd=>?_,fun z=>absurd z (by simp),(kp.trans (k3.mono (by simp))).trans (zD.at (by simp))⟩
   rcases zC5.mp hd with b | b
   ·exact dc d b
   ·rw [zCR.mp b];rfl
 rintro ys τ H6 ⟨kk,ts2,des2,rfl,rfl,lt2,D2,dc2,dn2,kp⟩
 rw [xK] at lt2 dn2
 rw [zDO] at dn2
 have k6:=kp.drop hac2
 clear kp
 have W6:=W5.keep k6
 have R6:=R5.keep k6
 have G6:=G5.keep k6
 have D6:=D.keep k6
 clear W5 R5 G5 k6 hos hac2 sa D
 refine ⟨acc,ac2,_,_,rfl,rfl,D6.l,D2.l,by rw [zCO,zCO,sizeLine_eq];omega,fun dl hdl=>?_⟩
 have kd:zD [] H6 (upd H6 dl (.lst (ts.map V.ref ++ ts2.map V.ref))):=zD.new hdl
 have D7:=D6.join D2 hdl
 have W7:=W6.keep kd
 have R7:=R6.keep kd
 have G7:=G6.keep kd
 have nd7:=W6.new hdl
 generalize upd H6 dl (.lst (ts.map V.ref ++ ts2.map V.ref))=H7 at D7 W7 R7 G7 kd
 clear W6 R6 G6 D6 D2 hdl kd
 refine ⟨_,rfl,by show 0 <= sizeLine;decide,fun nl hnl=>?_⟩
 refine lay hnl fun H8 k8 e8=>?_
 have D8:=D7.keep k8
 have W8:=W7.keep k8
 have R8:=R7.keep k8
 have G8:=G7.keep k8
 refine ⟨dl,nl,_,rfl,rfl,D8.l,e8,zF D7.l hnl,_,rfl,?_⟩
 clear D7 W7 R7 G7 k8 e8 hnl
 have g12:=pm.length_eq
 rw [zC6] at g12
 cases et:ts ++ ts2 with
 | nil=>
  obtain ⟨t1,t2⟩:=List.append_eq_nil_iff.mp et
  refine ifT rfl ?_
  have nw':∀ x y,wy1 x y=[]:=fun x y=>by
   by_cases e:wy1 x y=[]
   ·exact e
   ·obtain ⟨hx,hp⟩:=S4.c.w x y e
    exact dn t1 (x,y) (S4.c.b x hx y hp).2
  have rest:=S4.rest nw' (dn2 t2)
  obtain ⟨os,hos⟩:=W8.sd
  refine ⟨_,rfl,sd,os,yS ns p,rfl,hos,fun ac hac=>?_⟩
  have sa:sd ≠ ac:=zF hos hac
  refine sN (a:=sd) (o:=os) (u:=.dK (y6 (yS ns p))) (n:=(yS ns p).length) (Y:=fun i _ x=>∃ z,((yS ns p).map (·.1))[i]?=some z/\x=.str z) (by rw [xK,sizeLine_eq];omega) (fun i ys τ H1=>∃ (kk:Option V),τ=[kk,some (.ref sd)]/\ys=[]/\H1 ac=some (.lst [])/\zD [ac] H8 H1) ?_ ?_ ?_ ?_
  ·exact ⟨_,rfl,rfl,zC,zD.at (by simp)⟩
  ·rintro i ys τ H1 ⟨kk,rfl,rfl,h1,kp⟩
   exact ⟨h1,zCY _,kp _ _ (by simp [sa]) hos⟩
  ·rintro i ys τ H1 x hi ⟨z,hz,rfl⟩ ⟨kk,rfl,rfl,h1,kp⟩
   rw [x9] at hz
   have mz:=zCS hz
   have W1:=W8.keep (kp.drop hac)
   have Sz:=W1.se z mz
   obtain ⟨⟨dz,hoz⟩,_,_⟩:=id Sz
   refine ⟨_,rfl,_,rfl,sd,_,rfl,W1.gs F.nd mz,p z,dz,_,rfl,hoz,kG _ _ _ _,p z,wl z,_,rfl,Sz,fun rl H3 hrl R3 k3=>?_⟩
   rw [rest z mz] at R3
   obtain ⟨rs,hrs,hprs⟩:=R3
   cases hprs
   refine ⟨by show 0 <= sizeLine;decide,fun nl hnl=>?_⟩
   refine lay hnl fun H2 k2 e2=>?_
   refine ⟨rl,nl,_,rfl,rfl,k2 _ _ (by simp) hrs,e2,zF hrs hnl,_,rfl,?_⟩
   exact vW ⟨_,rfl,rfl,(k3.trans k2) _ _ (by simp) h1,kp.trans ((k3.trans k2).mono (by simp))⟩
  rintro ys τ H9 ⟨kk,rfl,rfl,h9,kp⟩
  have k9:=kp.drop hac
  have R9:=R8.keep k9
  have G9:=G8.keep k9
  rw [mT rest,List.append_nil] at pm
  obtain ⟨qg,hqg,pqg⟩:=G9
  refine ⟨_,rfl,gl,qg,gs,rfl,hqg,pqg,by have:=pm.length_eq;omega,fun l3 q3 p3 hl3 pm3 as3 pd3=>?_⟩
  have k10:zD [] H9 (upd H9 l3 (.lst (q3.map V.ref))):=zD.new hl3
  have e10:upd H9 l3 (.lst (q3.map V.ref)) l3=some (.lst (q3.map V.ref)):=zC
  have pd10:Paired (fun q r=>upd H9 l3 (.lst (q3.map V.ref)) q=some (.tup r)) q3 (p3.map xZ):=L2.Paired.mapP pd3 fun _ _ e=>k10 _ _ (by simp) e
  obtain ⟨qw,hqw,pqw⟩:=R9.keep k10
  have h10:=k10 _ _ (by simp) h9
  generalize upd H9 l3 (.lst (q3.map V.ref))=H10 at k10 e10 pd10 hqw pqw h10
  refine ⟨_,rfl,wt,qw,wtL ns st,rfl,hqw,pqw,by omega,fun l4 q4 p4 hl4 pm4 as4 pd4=>?_⟩
  obtain rfl:p3=p4:=fT (fun a b x y=>dY x y) (pm3.trans (pm.trans pm4.symm)) as3 as4
  have k11:zD [] H10 (upd H10 l4 (.lst (q4.map V.ref))):=zD.new hl4
  have e11:upd H10 l4 (.lst (q4.map V.ref)) l4=some (.lst (q4.map V.ref)):=zC
  have pd11:Paired (fun q r=>upd H10 l4 (.lst (q4.map V.ref)) q=some (.tup r)) q4 (p3.map xZ):=L2.Paired.mapP pd4 fun _ _ e=>k11 _ _ (by simp) e
  have pd12:Paired (fun q r=>upd H10 l4 (.lst (q4.map V.ref)) q=some (.tup r)) q3 (p3.map xZ):=L2.Paired.mapP pd10 fun _ _ e=>k11 _ _ (by simp) e
  have lq:q3.length=q4.length:=(zU pd12).trans (zU pd11).symm
  refine ⟨l3,l4,_,_,rfl,rfl,k11 _ _ (by simp) e10,e11,by rw [zCO,zCO];exact lq,nY pd12 pd11,true,rfl,u8 ?_⟩
  have h11:=k11 _ _ (by simp) h10
  refine ⟨_,rfl,by show 0 <= sizeLine;decide,fun n2 hn2=>?_⟩
  refine lay hn2 fun H12 k12 e12=>?_
  exact ⟨ac,n2,_,rfl,rfl,k12 _ _ (by simp) h11,e12,zF h11 hn2,k _⟩
 | cons t0 tr=>
  refine ifF rfl ?_
  have ed:=D8.p
  rw [et] at ed
  have dcs:∀ d ∈ des ++ des2,deC d=true:=fun d hd=>(zC5.mp hd).elim (dc d) (dc2 d)
  have doo:=D8.o
  have hdl:=D8.l
  rw [et] at hdl
  generalize des ++ des2=ds at ed dcs doo
  cases ed with
  | cons ht hrest=>
  rename_i d drest
  have okd:=doo d zDH
  have cd:=dcs d zDH
  refine ⟨_,rfl,_,rfl,_,rfl,dl,_,0,_,rfl,rfl,hdl,xN (j:=0) rfl,sd,wd,t0,d,ns,As,pr,p,wl,q,st1,wy1,l1,rfl,F,W8,S4,ht,okd,fun t r H9 h9 af ht9 hr9 k9=>?_⟩
  obtain ⟨tl,s',wy2,l2,Rr,nr,W9,len2,tin,S9,cdd⟩:=af
  obtain ⟨eg,ep⟩:=cdd cd
  refine ⟨t,_,rfl,.of h9,rfl,_,_,rfl,_,_,rfl,rfl,?_⟩
  have R9:=wT R8 k9 W8.nt nw
  have G9:=wT G8 k9 W8.nt ng
  have tl1:=eD tl
  have gl1:=d9 tl
  obtain ⟨rs,hrs,_⟩:=id Rr
  refine ⟨_,rfl,_,rfl,r,rfl,⟨_,.of hrs⟩,fun ac hac=>kA (ds:=tlV tl) id (fun x=>[.str (deN d),x.getD 1 .non]) gvB (fun _ qa=>[some (.ref qa)]) [some (.str (deN d))] (by omega) hac (by rw [List.map_id];exact Rr) ⟨[none],rfl,rfl⟩ (fun _ _=>rfl) ?_ ?_ ?_ ?_⟩
  ·intro x qa vs H R hm hv hq h
   match vs,hv with
   | [v],_=>exact h
  ·intro x qa H2 R2 hm kk hq h
   obtain ⟨w,y,re,rfl⟩:=mU hm
   refine ⟨_,rfl,qa,_,0,_,rfl,rfl,hq,xN (j:=0) rfl,rfl,_,rfl,?_⟩
   have h':=h H2 (zD.refl _)
   rw [cA] at h'
   exact h'
  ·intro x qa H R hm hq h
   obtain ⟨w,y,re,rfl⟩:=mU hm
   exact ⟨_,rfl,_,rfl,qa,_,1,_,rfl,rfl,hq,xN (j:=1) rfl,by show 2 <= sizeLine;decide,fun t ht=>h t _ (zD.new ht) zC⟩
  intro H10 R10 k10
  rw [pA] at R10
  obtain ⟨xs,ys,hx,hy,lx,ly,jn⟩:=rG (G9.keep k10) R10
  rw [zCO] at lx ly
  rw [zCO] at ly
  refine ⟨gl,ac,_,_,rfl,rfl,hx,hy,by rw [zCO,zCO,lx,ly,sizeLine_eq];omega,fun g hg=>?_⟩
  have k11:zD [] H10 (upd H10 g (.lst (xs.map V.ref ++ ys.map V.ref))):=zD.new hg
  have G11:=jn g hg
  have W10:=W9.keep k10
  have ng':=W10.new hg
  have W11:=W10.keep k11
  have R11:=(R9.keep k10).keep k11
  have Rr11:=(Rr.keep k10).keep k11
  generalize upd H10 g (.lst (xs.map V.ref ++ ys.map V.ref))=H11 at k11 G11 W11 R11 Rr11
  refine ⟨_,rfl,_,rfl,_,rfl,sd,wd,r,deN d,ns,pr,p,wl,q,_,_,tl,rfl,W11,F.np,Rr11,nr,tin,len2,fun H12 W12 k12=>?_⟩
  have R12:=wT R11 k12 W11.nt nw
  have G12:=wT G11 k12 W11.nt ng'
  refine ⟨_,rfl,_,rfl,sd,wd,ns,As,pr,p,wl,q,_,_,l2,rfl,F,W12,S9,fun H13 k13=>⟨_,rfl,ifF rfl ?_⟩⟩
  have nn:deN d ∈ ns:=by
   cases d with
   | come e t=>exact (F.inn e okd.1).2
   | want n a=>cases cd
   | leave n a=>cases cd
   | done n a=>exact okd.1
  refine ⟨g,gs ++ (gvL tl).map fun a=>(deN d,a),_,_,l2,_,_,_,_,_,rfl,W12.keep k13,S9,R12.keep k13,by rw [zC0];exact G12.keep k13,ng',?_,by omega⟩
  rw [zDJ]
  exact ((mP eg F.nd nn).append_left gs).trans pm
end
def Tie (hv:Nat->Nat) (a b:Nat):Prop:=(1 <= a/\hv a=b) \/ (1 <= b/\hv b=a)
def arU (ar:Nat->Option Nat) (k:Nat) (v:Option Nat):Nat->Option Nat:=fun i=>if i=k then v else ar i
structure Wlk (m:Nat) (hv:Nat->Nat) (b:Nat) (vs td ks:List Nat) (ar:Nat->Option Nat) (c:Nat) (rem:List Nat):Prop where
 nd:(vs ++ td).Nodup
 mem:∀ k,k ∈ ks ↔ k ∈ vs \/ k ∈ td
 len:ks.length=vs.length + td.length
 lt:∀ k ∈ ks,k < m
 b1:b ∈ ks
 b2:ar b=none
 ay:∀ k ∈ ks,k ≠ b->∃ y ∈ vs,ar k=some y/\Tie hv k y
 rk:∀ k ∈ vs,∀ y,ar k=some y->vs.idxOf y < vs.idxOf k
 cl:∀ y ∈ vs,∀ k,k < m->Tie hv k y->k ∈ ks \/ (y=c/\k ∈ rem)
section
variable {m:Nat} {hv:Nat->Nat} {b c k x:Nat} {vs td ks rem nr:List Nat} {ar:Nat->Option Nat}
theorem Wlk.start (hb:b < m):Wlk m hv b [] [b] [b] (fun _=>none) c []:=
 ⟨by simp,by simp,rfl,by simpa using hb,by simp,rfl,fun k hk ne=>absurd (by simpa using hk) ne,(fun k hk=>by cases hk),fun y hy=>by cases hy⟩
theorem Wlk.pop (h:Wlk m hv b vs (td ++ [x]) ks ar c []) (hn:∀ k,k < m->Tie hv k x->k ∈ nr):Wlk m hv b (vs ++ [x]) td ks ar x nr:=by
 have pm:(vs ++ (td ++ [x])).Perm ((vs ++ [x]) ++ td):=by
  rw [zDJ]
  exact List.Perm.append_left _ List.perm_append_comm
 have nd:=pm.nodup_iff.mp h.nd
 have xv:x ∉ vs:=fun q=>by
  have:=(List.nodup_append.mp (List.nodup_append.mp nd).1).2.2 x q x (by simp)
  exact this rfl
 have xk:x ∈ ks:=(h.mem x).mpr (Or.inr (by simp))
 refine ⟨nd,fun k=>?_,?_,h.lt,h.b1,h.b2,fun k hk ne=>?_,fun k hk y hy=>?_,fun y hy k hk ht=>?_⟩
 ·rw [h.mem k]
  simp only [zC5,zCR]
  constructor
  ·rintro (a | a | a)
   ·exact .inl (.inl a)
   ·exact .inr a
   ·exact .inl (.inr a)
  ·rintro ((a | a) | a)
   ·exact .inl a
   ·exact .inr (.inr a)
   ·exact .inr (.inl a)
 ·rw [h.len,zC6,zC6];omega
 ·obtain ⟨y,hy,e⟩:=h.ay k hk ne
  exact ⟨y,List.mem_append_left _ hy,e⟩
 ·have yv:∀ k,k ∈ ks->∀ y,ar k=some y->y ∈ vs:=fun k hk y hy=>by
   by_cases e:k=b
   ·rw [e,h.b2] at hy;cases hy
   ·obtain ⟨y',hy',e',_⟩:=h.ay k hk e
    rw [hy] at e'
    rw [zCV e'];exact hy'
  rcases zC5.mp hk with q | q
  ·have:=yv k ((h.mem k).mpr (Or.inl q)) y hy
   rw [List.idxOf_append,if_pos this,List.idxOf_append,if_pos q]
   exact h.rk k q y hy
  ·obtain rfl:=zCR.mp q
   have my:=yv k xk y hy
   rw [List.idxOf_append,if_pos my,List.idxOf_append,if_neg xv]
   have:=List.idxOf_lt_length_of_mem my
   omega
 ·rcases zC5.mp hy with q | q
  ·rcases h.cl y q k hk ht with a | ⟨_,a⟩
   ·exact .inl a
   ·cases a
  ·obtain rfl:=zCR.mp q
   exact .inr ⟨rfl,hn k hk ht⟩
theorem Wlk.skip (h:Wlk m hv b vs td ks ar c (k :: rem)) (hk:k ∈ ks):Wlk m hv b vs td ks ar c rem:=
 { h with cl:=fun y hy z hz ht=>(h.cl y hy z hz ht).elim .inl fun ⟨e,q⟩=>(List.mem_cons.mp q).elim (fun w=>.inl (w ▸ hk)) fun w=>.inr ⟨e,w⟩ }
theorem Wlk.push (h:Wlk m hv b vs td ks ar c (k :: rem)) (hk:k ∉ ks) (km:k < m) (ht:Tie hv k c) (hc:c ∈ vs):Wlk m hv b vs (td ++ [k]) (ks ++ [k]) (arU ar k (some c)) c rem:=by
 have kb:b ≠ k:=fun e=>hk (e ▸ h.b1)
 have kv:k ∉ vs:=fun q=>hk ((h.mem k).mpr (Or.inl q))
 have kt:k ∉ td:=fun q=>hk ((h.mem k).mpr (Or.inr q))
 refine ⟨?_,fun z=>?_,?_,fun z hz=>?_,List.mem_append_left _ h.b1,(if_neg kb).trans h.b2,fun z hz ne=>?_,fun z hz y hy=>?_,fun y hy z hz t=>?_⟩
 ·rw [<- zDJ,List.nodup_append]
  refine ⟨h.nd,by simp,fun a ha z hz e=>?_⟩
  rw [e,zCR.mp hz] at ha
  exact (zC5.mp ha).elim kv kt
 ·simp only [zC5,zCR,h.mem z]
  constructor
  ·rintro ((a | a) | a)
   ·exact .inl a
   ·exact .inr (.inl a)
   ·exact .inr (.inr a)
  ·rintro (a | a | a)
   ·exact .inl (.inl a)
   ·exact .inl (.inr a)
   ·exact .inr a
 ·rw [zC6,zC6,h.len];rfl
 ·rcases zC5.mp hz with q | q
  ·exact h.lt z q
  ·rw [zCR.mp q];exact km
 ·rcases zC5.mp hz with q | q
  ·obtain ⟨y,hy,e,t⟩:=h.ay z q ne
   exact ⟨y,hy,(if_neg (fun w:z=k=>hk (w ▸ q))).trans e,t⟩
  ·rw [zCR.mp q]
   exact ⟨c,hc,if_pos rfl,ht⟩
 ·have:arU ar k (some c) z=ar z:=if_neg (fun w:z=k=>kv (w ▸ hz))
  rw [this] at hy
  exact h.rk z hz y hy
 ·rcases h.cl y hy z hz t with q | ⟨e,q⟩
  ·exact .inl (List.mem_append_left _ q)
  ·rcases List.mem_cons.mp q with w | w
   ·exact .inl (by rw [w];simp)
   ·exact .inr ⟨e,w⟩
theorem Wlk.all (h:Wlk m hv b vs [] ks ar c []) (dn:∀ k,1 <= k->k < m->hv k < k):∀ k,k < m->k ∈ vs:=by
 have kv:∀ k,k ∈ ks->k ∈ vs:=fun k hk=>((h.mem k).mp hk).elim id fun q=>by cases q
 have cl:∀ y ∈ vs,∀ k,k < m->Tie hv k y->k ∈ vs:=fun y hy k hk t=>(h.cl y hy k hk t).elim (kv k) fun ⟨_,q⟩=>by cases q
 have z0:∀ k,k ∈ vs->0 ∈ vs:=fun k=>by
  induction k using Nat.strongRecOn with
  | ind k ih=>
   intro hk
   by_cases e:k=0
   ·rw [<- e];exact hk
   ·have km:=h.lt k ((h.mem k).mpr (Or.inl hk))
    have d:=dn k (by omega) km
    exact ih _ d (cl k hk _ (by omega) (.inr ⟨by omega,rfl⟩))
 have h0:=z0 b (kv b h.b1)
 intro k
 induction k using Nat.strongRecOn with
 | ind k ih=>
  intro hk
  by_cases e:k=0
  ·rw [e];exact h0
  ·have d:=dn k (by omega) hk
   exact cl _ (ih _ d (by omega)) k hk (.inl ⟨by omega,rfl⟩)
theorem pZ:∀ {n:Nat} {l:List Nat},l.Nodup->(∀ k ∈ l,k < n)->l.length <= n
 | 0,[],_,_=>zCX _
 | 0,a :: l,_,h=>absurd (h a zDH) (Nat.not_lt_zero _)
 | n + 1,l,nd,h=>by
  have e:=pZ (n:=n) (nd.erase n) fun k hk=>by
   have k1:=h k (List.mem_of_mem_erase hk)
   have k2:k ≠ n:=fun w=>by rw [w] at hk;exact List.Nodup.not_mem_erase nd hk
   omega
  have:=List.length_erase (a:=n) (l:=l)
  split at this <;> omega
theorem Wlk.small (h:Wlk m hv b vs td ks ar c rem):vs.length + td.length <= m:=by
 have:=pZ h.nd fun k hk=>h.lt k ((h.mem k).mpr (zC5.mp hk))
 rwa [zC6] at this
end
def prN (hv:Nat->Nat):Nat->List (Nat × Nat)
 | 0=>[]
 | n + 1=>prN hv n ++ [(n + 1,hv (n + 1)),(hv (n + 1),n + 1)]
section
variable {m:Nat} {hv:Nat->Nat}
theorem vK {n a b:Nat}:(a,b) ∈ prN hv n ↔ (1 <= a/\a <= n/\hv a=b) \/ (1 <= b/\b <= n/\hv b=a):=by
 induction n with
 | zero=>simp [prN];omega
 | succ n ih=>
  simp only [prN,zC5,ih,List.mem_cons,Prod.mk.injEq,zDI,or_false]
  constructor
  ·rintro ((⟨a1,a2,a3⟩ | ⟨a1,a2,a3⟩) | ⟨rfl,rfl⟩ | ⟨rfl,rfl⟩)
   ·exact .inl ⟨a1,by omega,a3⟩
   ·exact .inr ⟨a1,by omega,a3⟩
   ·exact .inl ⟨by omega,by omega,rfl⟩
   ·exact .inr ⟨by omega,by omega,rfl⟩
  ·rintro (⟨a1,a2,a3⟩ | ⟨a1,a2,a3⟩)
   ·by_cases e:a=n + 1
    ·subst e;exact .inr (.inl ⟨rfl,a3.symm⟩)
    ·exact .inl (.inl ⟨a1,by omega,a3⟩)
   ·by_cases e:b=n + 1
    ·subst e;exact .inr (.inr ⟨a3.symm,rfl⟩)
    ·exact .inl (.inr ⟨a1,by omega,a3⟩)
theorem rH (dn:∀ k,1 <= k->k < m->hv k < k):∀ {n:Nat},n < m->(prN hv n).Nodup
 | 0,_=>List.nodup_nil
 | n + 1,h=>by
  have d:=dn (n + 1) (by omega) h
  rw [prN,List.nodup_append]
  refine ⟨rH dn (by omega),?_,fun e he f hf w=>?_⟩
  ·simp;omega
  ·subst w
   obtain ⟨a,b⟩:=e
   rcases vK.mp he with ⟨a1,a2,a3⟩ | ⟨a1,a2,a3⟩ <;> simp at hf
   ·have:=dn a a1 (by omega)
    rcases hf with ⟨f1,f2⟩ | ⟨f1,f2⟩ <;> omega
   ·have:=dn b a1 (by omega)
    rcases hf with ⟨f1,f2⟩ | ⟨f1,f2⟩ <;> omega
theorem qM:∀ n:Nat,(prN hv n).length=2 * n
 | 0=>rfl
 | n + 1=>by rw [prN,zC6,qM n];rfl
end
def nmK (zs:List Str) (k:Nat):Str:=zs.getD k Str.empty
def nsK (zs:List Str) (vs:List Nat):List Str:=vs.map (nmK zs)
def prK (zs:List Str) (l:List (Nat × Nat)):LSS:=l.map fun e=>(nmK zs e.1,nmK zs e.2)
def stK (zs:List Str) (ar:Nat->Option Nat) (x:Str):SS:=⟨(ar (zs.idxOf x)).map (nmK zs),[],none,false⟩
theorem pY {α β:Type} {f:α->β} {l:List α} (nd:l.Nodup) (inj:∀ a ∈ l,∀ b ∈ l,f a=f b->a=b):(l.map f).Nodup:=by
 unfold List.Nodup
 rw [List.pairwise_map]
 exact List.Pairwise.imp_of_mem (fun {a b} ha hb h e=>h (inj a ha b hb e)) nd
section
variable {zs:List Str} {m:Nat} {hv:Nat->Nat} {b c:Nat} {vs td ks:List Nat} {ar:Nat->Option Nat}
theorem vM {k:Nat} (h:k < zs.length):zs[k]?=some (nmK zs k):=by
 unfold nmK
 rw [zCT,zCP h];rfl
theorem qR {k:Nat} (h:k < zs.length):nmK zs k ∈ zs:=zCS (vM h)
theorem wI (nd:zs.Nodup) {a b:Nat} (ha:a < zs.length) (hb:b < zs.length) (e:nmK zs a=nmK zs b):a=b:=
 (List.getElem?_inj ha nd).mp ((vM ha).trans ((congrArg some e).trans (vM hb).symm))
theorem d8 (nd:zs.Nodup) {k:Nat} (h:k < zs.length):zs.idxOf (nmK zs k)=k:=by
 have l:=List.idxOf_lt_length_of_mem (qR h)
 refine wI nd l h ?_
 have e:zs[zs.idxOf (nmK zs k)]?=some (nmK zs k):=by rw [zCP l,List.getElem_idxOf]
 rw [vM l] at e
 exact zCV e
theorem r9 (nd:zs.Nodup) {k:Nat} (h:k < zs.length):stK zs ar (nmK zs k)=⟨(ar k).map (nmK zs),[],none,false⟩:=by
 unfold stK
 rw [d8 nd h]
theorem qY (nd:zs.Nodup):∀ {l:List Nat} {k:Nat},(∀ x ∈ l,x < zs.length)->k < zs.length->(l.map (nmK zs)).idxOf (nmK zs k)=l.idxOf k
 | [],_,_,_=>rfl
 | a :: l,k,h,hk=>by
  rw [List.map_cons,List.idxOf_cons,List.idxOf_cons,qY nd (fun x hx=>h x (zC1 _ hx)) hk]
  by_cases e:a=k
  ·subst e;rw [beq_self_eq_true,beq_self_eq_true]
  ·have:¬ nmK zs a=nmK zs k:=fun q=>e (wI nd (h a zDH) hk q)
   rw [beq_eq_false_iff_ne.mpr e,beq_eq_false_iff_ne.mpr this]
variable (zl:zs.length=m) (nd:zs.Nodup) (dn:∀ k,1 <= k->k < m->hv k < k)
include zl nd dn
theorem nL {a b:Nat} (h:(a,b) ∈ prN hv (m - 1)):a < m/\b < m:=by
 rcases vK.mp h with ⟨a1,a2,a3⟩ | ⟨a1,a2,a3⟩
 ·have:=dn a a1 (by omega);omega
 ·have:=dn b a1 (by omega);omega
theorem dW (m6:m <= 6) {As:List Str} (a2:As.length <= 2) (gz:∀ z ∈ zs,vT z) (ga:∀ a ∈ As,vT a) (h:Wlk m hv b vs [] ks ar c []):Fx (nsK zs vs) As (prK zs (prN hv (m - 1))):=by
 have al:=h.all dn
 have lt:∀ k ∈ vs,k < m:=fun k hk=>h.lt k ((h.mem k).mpr (Or.inl hk))
 have sm:=h.small
 refine ⟨?_,?_,fun a b hm=>?_,fun e he=>?_,?_,a2,fun n hn=>?_,ga,?_⟩
 ·have nv:vs.Nodup:=by have:=h.nd;rwa [List.append_nil] at this
  exact pY nv fun a ha b hb e=>wI nd (by rw [zl];exact lt a ha) (by rw [zl];exact lt b hb) e
 ·by_cases m0:m=0
  ·subst m0;exact List.nodup_nil
  ·refine pY (rH dn (by omega)) fun e he f hf w=>?_
   have l1:=nL zl nd dn he
   have l2:=nL zl nd dn hf
   have w1:=congrArg Prod.fst w
   have w2:=congrArg Prod.snd w
   exact Prod.ext (wI nd (by omega) (by omega) w1) (wI nd (by omega) (by omega) w2)
 ·obtain ⟨⟨x,y⟩,hx,e⟩:=List.mem_map.mp hm
  cases e
  exact List.mem_map.mpr ⟨(y,x),vK.mpr ((vK.mp hx).elim .inr .inl),rfl⟩
 ·obtain ⟨⟨x,y⟩,hx,rfl⟩:=List.mem_map.mp he
  have l:=nL zl nd dn hx
  exact ⟨List.mem_map.mpr ⟨x,al x l.1,rfl⟩,List.mem_map.mpr ⟨y,al y l.2,rfl⟩⟩
 ·unfold nsK;rw [zCO];omega
 ·obtain ⟨k,hk,rfl⟩:=List.mem_map.mp hn
  exact gz _ (qR (by rw [zl];exact lt k hk))
 ·unfold prK;rw [zCO,qM];omega
theorem gE {As:List Str} (h:Wlk m hv b vs [] ks ar c []):Sys (nsK zs vs) As (fun x y=>(x,y) ∈ prK zs (prN hv (m - 1))) (stK zs ar) (fun _ _=>[]) (.at (nmK zs b)):=by
 have al:=h.all dn
 have lt:∀ k ∈ vs,k < m:=fun k hk=>h.lt k ((h.mem k).mpr (Or.inl hk))
 have bv:b ∈ vs:=((h.mem b).mp h.b1).elim id fun q=>by cases q
 have at':∀ x ∈ nsK zs vs,∃ k ∈ vs,x=nmK zs k/\stK zs ar x=⟨(ar k).map (nmK zs),[],none,false⟩:=fun x hx=>by
  obtain ⟨k,hk,rfl⟩:=List.mem_map.mp hx
  exact ⟨k,hk,rfl,r9 nd (by rw [zl];exact lt k hk)⟩
 have ptr:∀ x ∈ nsK zs vs,∀ y,(stK zs ar x).ptr=some y->∃ k ∈ vs,∃ j ∈ vs,x=nmK zs k/\y=nmK zs j/\ar k=some j/\Tie hv k j:=fun x hx y hy=>by
  obtain ⟨k,hk,e,es⟩:=at' x hx
  rw [es] at hy
  have hk':=(h.mem k).mpr (Or.inl hk)
  have kb:k ≠ b:=fun w=>by rw [w,h.b2] at hy;cases hy
  obtain ⟨j,hj,ej,t⟩:=h.ay k hk' kb
  rw [ej] at hy
  exact ⟨k,hk,j,hj,e,(zCV hy).symm,ej,t⟩
 refine ⟨⟨fun x hx y hy=>?_,⟨List.mem_map.mpr ⟨b,bv,rfl⟩,fun x hx=>?_,fun _ _ _ q=>by cases q⟩,⟨fun x=>(nsK zs vs).idxOf x,fun x hx y hy _=>?_⟩,fun x y q=>absurd rfl q,fun _ _=>.inl rfl,fun x hx y hy=>?_,fun y hy x hx=>?_,fun x hx=>?_,fun x hx=>?_,fun y hy x hx=>?_⟩,fun x hx q=>absurd rfl q⟩
 ·obtain ⟨k,hk,j,hj,rfl,rfl,e,t⟩:=ptr x hx y hy
  refine ⟨List.mem_map.mpr ⟨j,hj,rfl⟩,List.mem_map.mpr ⟨(k,j),vK.mpr ?_,rfl⟩⟩
  have:=lt k hk
  have:=lt j hj
  rcases t with ⟨t1,t2⟩ | ⟨t1,t2⟩
  ·exact .inl ⟨t1,by omega,t2⟩
  ·exact .inr ⟨t1,by omega,t2⟩
 ·obtain ⟨k,hk,rfl,es⟩:=at' x hx
  rw [es]
  constructor
  ·intro q
   by_cases kb:k=b
   ·rw [kb]
   ·obtain ⟨j,_,ej,_⟩:=h.ay k ((h.mem k).mpr (Or.inl hk)) kb
    rw [ej] at q;cases q
  ·intro q
   have kb:=wI nd (by rw [zl];exact lt k hk) (by rw [zl];exact lt b bv) q
   rw [kb,h.b2];rfl
 ·obtain ⟨k,hk,j,hj,rfl,rfl,e,t⟩:=ptr x hx y hy
  have lv:∀ x ∈ vs,x < zs.length:=fun x hx=>by rw [zl];exact lt x hx
  show (vs.map (nmK zs)).idxOf _ < (vs.map (nmK zs)).idxOf _
  rw [qY nd lv (lv j hj),qY nd lv (lv k hk)]
  exact h.rk k hk j e
 ·rfl
 ·cases hx
 ·exact ⟨fun _=>rfl,fun _=>rfl⟩
 ·exact ⟨(fun q hq=>by cases hq),(fun a=>zCY _),fun a q=>by cases q⟩
 ·cases hx
end
abbrev sMd:Stmt:=top 21
def xF (k:Nat):V:=.int (k:Int)
def arT (zs:List Str) (ks:List Nat) (ar:Nat->Option Nat):List (Key × V):=ks.map fun k:Nat=>(Sum.inl (k:Int),yH ((ar k).map (nmK zs)))
theorem uO {zs:List Str} {ar:Nat->Option Nat} {k:Nat}:∀ {ks:List Nat},wL (arT zs ks ar) (Sum.inl (k:Int))=if k ∈ ks then some (yH ((ar k).map (nmK zs))) else none
 | []=>by rw [if_neg (by simp)];rfl
 | a :: ks=>by
  show wL ((Sum.inl (a:Int),yH ((ar a).map (nmK zs))) :: arT zs ks ar) _=_
  by_cases e:a=k
  ·subst e
   rw [wR rfl,if_pos zDH]
  ·rw [xV (fun q=>e (by have:=Sum.inl.inj q;omega)),uO]
   by_cases hk:k ∈ ks
   ·rw [if_pos hk,if_pos (zC1 _ hk)]
   ·rw [if_neg hk,if_neg (fun q=>(List.mem_cons.mp q).elim (fun w=>e w.symm) hk)]
theorem fX {zs:List Str} {ar:Nat->Option Nat} {k c:Nat} {ks:List Nat} (h:k ∉ ks):wE (arT zs ks ar) (Sum.inl (k:Int)) (.str (nmK zs c))=arT zs (ks ++ [k]) (arU ar k (some c)):=by
 rw [sF _ (by rw [uO,if_neg h])]
 unfold arT
 rw [zC0]
 congr 1
 ·refine List.map_congr_left fun a ha=>?_
  rw [show arU ar k (some c) a=ar a from if_neg (fun w:a=k=>h (w ▸ ha))]
 ·show _=[(_,yH (((arU ar k (some c)) k).map _))]
  rw [show arU ar k (some c) k=some c from if_pos rfl];rfl
theorem iC {tb:List (Str × V)} {z:Str} (h:z ∉ tb.map (·.1)):wL (y6 tb) (Sum.inr z)=none:=by
 induction tb with
 | nil=>rfl
 | cons a r ih=>
  show wL ((Sum.inr a.1,a.2) :: y6 r) _=none
  rw [xV (fun q=>h (by rw [<- Sum.inr.inj q];exact List.mem_map.mpr ⟨a,zDH,rfl⟩))]
  exact ih fun q=>h (by obtain ⟨x,hx,e⟩:=List.mem_map.mp q;exact List.mem_map.mpr ⟨x,zC1 _ hx,e⟩)
def fU {β:Type} (f:Str->β) (n:Str) (v:β):Str->β:=fun x=>if x=n then v else f x
theorem jB {ns:List Str} {p:Str->Addr} {n:Str} {a:Addr} (h:n ∉ ns):wE (y6 (yS ns p)) (Sum.inr n) (.ref a)=y6 (yS (ns ++ [n]) (fU p n a)):=by
 rw [sF _ (iC (by rw [x9];exact h))]
 unfold y6 yS
 rw [zC0,zC0]
 congr 1
 ·rw [zC8,zC8]
  refine List.map_congr_left fun x hx=>?_
  show (Sum.inr x,V.ref (p x))=(Sum.inr x,V.ref (fU p n a x))
  rw [show fU p n a x=p x from if_neg (fun w:x=n=>h (w ▸ hx))]
 ·show _=[(Sum.inr n,V.ref (fU p n a n))]
  rw [show fU p n a n=a from if_pos rfl]
structure MAt (C:Addr) (H:Hp) (sd tl da:Addr) (zs:List Str) (vs td ks:List Nat) (ar:Nat->Option Nat) (p wl:Str->Addr):Prop where
 s:H sd=some (.dK (y6 (yS (nsK zs vs) p)))
 t:H tl=some (.lst (td.map xF))
 a:H da=some (.dK (arT zs ks ar))
 x:sd ≠ da
 se:∀ n ∈ nsK zs vs,zN C H (p n) (wl n) (stK zs ar n)
 d:∀ n ∈ nsK zs vs,∀ k ∈ nsK zs vs,n ≠ k->p n ≠ p k/\wl n ≠ wl k
 o:∀ n ∈ nsK zs vs,wl n ≠ tl
section
variable {C:Addr} {H H':Hp} {sd tl da:Addr} {zs:List Str} {vs td td' ks:List Nat} {ar:Nat->Option Nat} {p wl:Str->Addr}
theorem MAt.keep (h:MAt C H sd tl da zs vs td ks ar p wl) (k:zD [] H H'):MAt C H' sd tl da zs vs td ks ar p wl:=
 ⟨k _ _ (by simp) h.s,k _ _ (by simp) h.t,k _ _ (by simp) h.a,h.x,fun n hn=>(h.se n hn).off k (by simp) (by simp) (by simp),h.d,h.o⟩
theorem MAt.todo (h:MAt C H sd tl da zs vs td ks ar p wl):MAt C (upd H tl (.lst (td'.map xF))) sd tl da zs vs td' ks ar p wl:=by
 refine ⟨by rw [zJ (xA h.s h.t (by intro z;cases z))];exact h.s,zC,by rw [zJ (xA h.a h.t (by intro z;cases z))];exact h.a,h.x,fun n hn=>?_,h.d,h.o⟩
 obtain ⟨⟨dx,e⟩,_,_⟩:=id (h.se n hn)
 refine (h.se n hn).off (S:=[tl]) (zD.at (by simp)) (fun b hb xs q=>?_) (by simp;exact xA e h.t (by intro z;cases z)) (by simp;exact h.o n hn)
 rw [zCR.mp hb,h.t] at q;cases q
theorem MAt.arrow (h:MAt C H sd tl da zs vs td ks ar p wl) (nd:zs.Nodup) {k c:Nat} (hk:k ∉ ks) (hv:∀ j ∈ vs,j < zs.length/\j ∈ ks):MAt C (upd H da (.dK (arT zs (ks ++ [k]) (arU ar k (some c))))) sd tl da zs vs td (ks ++ [k]) (arU ar k (some c)) p wl:=by
 refine ⟨by rw [zJ h.x];exact h.s,by rw [zJ (xA h.t h.a (by intro z;cases z))];exact h.t,zC,h.x,fun n hn=>?_,h.d,h.o⟩
 obtain ⟨j,hj,rfl⟩:=List.mem_map.mp hn
 have e1:stK zs (arU ar k (some c)) (nmK zs j)=stK zs ar (nmK zs j):=by
  rw [r9 nd (hv j hj).1,r9 nd (hv j hj).1,show arU ar k (some c) j=ar j from if_neg (fun w:j=k=>hk (w ▸ (hv j hj).2))]
 rw [e1]
 obtain ⟨⟨dx,e⟩,⟨rs,er,_⟩,_⟩:=id (h.se _ hn)
 refine (h.se _ hn).off (S:=[da]) (zD.at (by simp)) (fun b hb xs q=>?_) (by simp;exact xA e h.a (by intro z;cases z)) (by simp;exact xA er h.a (by intro z;cases z))
 rw [zCR.mp hb,h.a] at q;cases q
theorem MAt.seat (h:MAt C H sd tl da zs vs td ks ar p wl) (nd:zs.Nodup) (hv:∀ j ∈ vs,j < zs.length) {x:Nat} (hx:x < zs.length) (nx:x ∉ vs) {a w:Addr} (S:zN C H a w (stK zs ar (nmK zs x))) (na:∀ n ∈ nsK zs vs,p n ≠ a/\wl n ≠ w) (wt:w ≠ tl) :
  nmK zs x ∉ nsK zs vs/\MAt C (upd H sd (.dK (y6 (yS (nsK zs (vs ++ [x])) (fU p (nmK zs x) a))))) sd tl da zs (vs ++ [x]) td ks ar (fU p (nmK zs x) a) (fU wl (nmK zs x) w):=by
 have nn:nmK zs x ∉ nsK zs vs:=fun q=>by
  obtain ⟨j,hj,e⟩:=List.mem_map.mp q
  exact nx (by rw [<- wI nd (hv j hj) hx e];exact hj)
 have en:nsK zs (vs ++ [x])=nsK zs vs ++ [nmK zs x]:=zC0
 have off:∀ {q r:Addr} {s:SS},zN C H q r s->zN C (upd H sd (.dK (y6 (yS (nsK zs (vs ++ [x])) (fU p (nmK zs x) a))))) q r s:=fun {q r s} T=>by
  obtain ⟨⟨dx,e⟩,⟨rs,er,_⟩,_⟩:=id T
  refine T.off (S:=[sd]) (zD.at (by simp)) (fun b hb xs z=>?_) (by simp;exact xA e h.s (by intro z;cases z)) (by simp;exact xA er h.s (by intro z;cases z))
  rw [zCR.mp hb,h.s] at z;cases z
 have old:∀ n ∈ nsK zs vs,fU p (nmK zs x) a n=p n/\fU wl (nmK zs x) w n=wl n:=fun n hn=>⟨if_neg (fun e:n=nmK zs x=>nn (e ▸ hn)),if_neg (fun e:n=nmK zs x=>nn (e ▸ hn))⟩
 have new:fU p (nmK zs x) a (nmK zs x)=a/\fU wl (nmK zs x) w (nmK zs x)=w:=⟨if_pos rfl,if_pos rfl⟩
 refine ⟨nn,zC,by rw [zJ (xA h.t h.s (by intro z;cases z))];exact h.t,by rw [zJ (fun e=>h.x e.symm)];exact h.a,h.x,fun n hn=>?_,fun n hn k hk ne=>?_,fun n hn=>?_⟩
 ·rw [en] at hn
  rcases zC5.mp hn with q | q
  ·rw [(old n q).1,(old n q).2];exact off (h.se n q)
  ·rw [zCR.mp q,new.1,new.2];exact off S
 ·rw [en] at hn hk
  rcases zC5.mp hn with q | q <;> rcases zC5.mp hk with r | r
  ·rw [(old n q).1,(old n q).2,(old k r).1,(old k r).2];exact h.d n q k r ne
  ·rw [(old n q).1,(old n q).2,zCR.mp r,new.1,new.2];exact na n q
  ·rw [(old k r).1,(old k r).2,zCR.mp q,new.1,new.2];exact ⟨fun e=>(na k r).1 e.symm,fun e=>(na k r).2 e.symm⟩
  ·exact absurd ((zCR.mp q).trans (zCR.mp r).symm) ne
 ·rw [en] at hn
  rcases zC5.mp hn with q | q
  ·rw [(old n q).2];exact h.o n q
  ·rw [zCR.mp q,new.2];exact wt
end
structure fY (H0 H:Hp) (wd:Addr) (pr:LSS) (q:Str × Str->Addr):Prop where
 d:H wd=some (.dT (xG pr q))
 l:∀ e ∈ pr,H (q e)=some (.lst [])
 x:∀ e ∈ pr,∀ f ∈ pr,e ≠ f->q e ≠ q f
 f:∀ e ∈ pr,H0 (q e)=none
 k:zD [] H0 H
def qU (q:Str × Str->Addr) (e:Str × Str) (a:Addr):Str × Str->Addr:=fun f=>if f=e then a else q f
theorem eB {pr:LSS} {q:Str × Str->Addr} {a b:Str} (h:(a,b) ∉ pr):wL (xG pr q) [Sum.inr a,Sum.inr b]=none:=by
 induction pr with
 | nil=>rfl
 | cons e r ih=>
  show wL (([Sum.inr e.1,Sum.inr e.2],V.ref (q e)) :: xG r q) _=none
  rw [xV (fun z=>h (by
   have e1:=Sum.inr.inj (List.cons.inj z).1
   have e2:=Sum.inr.inj (List.cons.inj (List.cons.inj z).2).1
   rw [<- e1,<- e2];exact zDH))]
  exact ih fun z=>h (zC1 _ z)
theorem f9 {pr:LSS} {q:Str × Str->Addr} {a b:Str} {l:Addr} (h:(a,b) ∉ pr):wE (xG pr q) [Sum.inr a,Sum.inr b] (.ref l)=xG (pr ++ [(a,b)]) (qU q (a,b) l):=by
 rw [sF _ (eB h)]
 unfold xG
 rw [zC0]
 congr 1
 ·refine List.map_congr_left fun e he=>?_
  rw [show qU q (a,b) l e=q e from if_neg (fun w:e=(a,b)=>h (w ▸ he))]
 ·show _=[([Sum.inr a,Sum.inr b],V.ref (qU q (a,b) l (a,b)))]
  rw [show qU q (a,b) l (a,b)=l from if_pos rfl]
theorem fY.put {H0 H H2:Hp} {wd l:Addr} {pr:LSS} {q:Str × Str->Addr} {a b:Str} (h:fY H0 H wd pr q) (hw:H0 wd=none) (he:(a,b) ∉ pr) (hl:H l=none) (k:zD [] H H2) (h2:H2 l=some (.lst [])):fY H0 (upd H2 wd (.dT (wE (xG pr q) [Sum.inr a,Sum.inr b] (.ref l)))) wd (pr ++ [(a,b)]) (qU q (a,b) l):=by
 rw [f9 he]
 have old:∀ e ∈ pr,qU q (a,b) l e=q e:=fun e hm=>if_neg (fun w:e=(a,b)=>he (w ▸ hm))
 have new:qU q (a,b) l (a,b)=l:=if_pos rfl
 have hd:=k _ _ (by simp) h.d
 have far:∀ e ∈ pr,q e ≠ l:=fun e hm=>zF (h.l e hm) hl
 refine ⟨zC,fun e hm=>?_,fun e hm f hf ne=>?_,fun e hm=>?_,(h.k.trans k).under (S:=[wd]) (zD.at (by simp)) (by intro z hz;rw [zCR.mp hz];exact hw)⟩
 ·rcases zC5.mp hm with z | z
  ·rw [old e z,zJ (xA (h.l e z) h.d (by intro w;cases w))];exact k _ _ (by simp) (h.l e z)
  ·rw [zCR.mp z,new,zJ (xA h2 hd (by intro w;cases w))];exact h2
 ·rcases zC5.mp hm with z | z <;> rcases zC5.mp hf with y | y
  ·rw [old e z,old f y];exact h.x e z f y ne
  ·rw [old e z,zCR.mp y,new];exact far e z
  ·rw [old f y,zCR.mp z,new];exact fun w=>far f y w.symm
  ·exact absurd ((zCR.mp z).trans (zCR.mp y).symm) ne
 ·rcases zC5.mp hm with z | z
  ·rw [old e z];exact h.f e z
  ·rw [zCR.mp z,new];exact h.k.none (by simp) hl
theorem zAQ {A B:Prop} {c:Bool} (h:c=false) (b:B):if c=true then A else B:=by rw [h];exact vW b
theorem bO {A B:Prop} {c:Bool} (h:c=true) (a:A):if c=true then A else B:=by rw [if_pos h];exact a
def vB (m:Nat) (hv:Nat->Nat) (x:Nat):List Nat:=((List.range (m - 1)).filter fun j=>hv (j + 1) == x).map (· + 1) ++ if 0 < x then [hv x] else []
theorem rM {m:Nat} {hv:Nat->Nat} {x k:Nat} (dn:∀ k,1 <= k->k < m->hv k < k) (hx:x < m):k ∈ vB m hv x ↔ k < m/\Tie hv k x:=by
 unfold vB Tie
 simp only [zC5,List.mem_map,List.mem_filter,List.mem_range,beq_iff_eq]
 constructor
 ·rintro (⟨j,⟨j1,j2⟩,rfl⟩ | h)
  ·exact ⟨by omega,.inl ⟨by omega,j2⟩⟩
  ·by_cases x0:0 < x
   ·rw [if_pos x0] at h
    have e:=zCR.mp h
    have:=dn x x0 hx
    exact ⟨by omega,.inr ⟨x0,e.symm⟩⟩
   ·rw [if_neg x0] at h;cases h
 ·rintro ⟨km,⟨k1,e⟩ | ⟨x1,e⟩⟩
  ·exact .inl ⟨k - 1,⟨by omega,by rw [Nat.sub_add_cancel k1];exact e⟩,by omega⟩
  ·exact .inr (by rw [if_pos (show 0 < x from x1),e];simp)
section
variable {P:Program} {w:World} {K:W.Frag} {mg:Str->Option Value} {base:Heap} {C:Addr}
theorem uC:zQ ["_law_script","_law_source","_law_many","_law_begin","_law_hung","_law_names_here","_law_seats","_law_todo","_law_arrow","_law_here","_law_near","_law_other","_law_ways","_law_k"] ["_law_script"] (zG sMd):=scm
def zBB (K:W.Frag) (C:Addr):Sp:=fun vs H Q _=>∃ (a:Addr) (xs:List Int),vs=[.ref a]/\SqL K H a (xs.map V.int) /\
 ∀ (t sd wd nl:Addr) (ns:List Str) (pr:LSS) (p wl:Str->Addr) (q:Str × Str->Addr) (st:Str->SS) (l:Loc) (H':Hp),H' t=some (.tup [.ref sd,.ref wd,.ref nl])->(∀ As:List Str,As.length <= 2->(∀ a ∈ As,vT a)->Fx ns As pr/\Sys ns As (fun a b=>(a,b) ∈ pr) st (fun _ _=>[]) l)->WAt C H' sd wd ns pr p wl q st (fun _ _=>[])->ns ≠ []->zD [] H H'->Q (.ref t) H'
theorem okMd (T:xE K C) (G:y1 K mg "_law_made" sMd ["_law_script"]) (CDi:Cal P w K mg base CX0 1 "_law_digits" ["_law_cell"] sC) (CCe:Cal P w K mg base CX0 1 "_law_cell_at" ["_law_script","_law_k"] (nD K)) (CNx:Cal P w K mg base CX0 2 "_law_next" ["_law_source","_law_many"] qA) (CNa:Cal P w K mg base CX0 3 "_law_names" ["_law_source","_law_many"] lD) (MK:f7 P w K mg base CX0 2 C "Seat" ["self","arrow"] (nC C)) (b_range:Blt mg "range") (b_int:Blt mg "int"):Cal P w K mg base CX0 4 "_law_made" ["_law_script"] (zBB K C):=by
 refine G.ok uC (fun vs H Q E h=>by obtain ⟨_,_,rfl,_⟩:=h;rfl) (fun f cdv A outer s0 H vs Q E hr h=>?_)
 obtain ⟨a,xs,rfl,hs,k⟩:=h
 have hr3:z9 3 _:=hr
 have hr2:z9 2 _:=hr.mono (by decide)
 have hr1:z9 1 _:=hr.mono (by decide)
 have hu:=wZ hr
 have hu0:=Nat.lt_of_succ_lt hu
 refine ⟨_,(zB (zV (i:=1) uC.nd rfl (Or.inr rfl) (zZ CDi hr1 (zA (zZ CCe hr1 (zA (pv 0) (zA zI zE))) zE)))
   (zB (zV (i:=2) uC.nd rfl (Or.inl rfl) (z5 xR zI (zZ CNx hr2 (zA (pv 1) (zA zI zE)))))
   (zB (zV (i:=3) uC.nd rfl (Or.inl rfl) (zZ CNx hr2 (zA (pv 1) (zA (pv 2) zE))))
   (zB (zV (i:=4) uC.nd rfl (Or.inr rfl) (z5 vU (yK (zA zI zE)) (vD (N:=["_law_script","_law_source","_law_many","_law_begin","_law_hung","_law_names_here","_law_seats","_law_todo","_law_arrow","_law_here","_law_near","_law_other","_law_ways","_law_k"]) (sc:=zG sMd) (ix:=[1]) (by decide +kernel) (uX rfl b_range.no (zA zI (zA (pv 2) zE))) (fun _ _ _ _=>t6) (fun _ _ _ _=>(zZ CNx hr2 (zA (pv 1) (zA (pv 0) zE)))))))
   (zB (zV (i:=5) uC.nd rfl (Or.inl rfl) (zZ CNa hr3 (zA (pv 1) (zA (pv 2) zE))))
   (zB (zV (i:=6) uC.nd rfl (Or.inl rfl) i9)
   (zB (zV (i:=7) uC.nd rfl (Or.inl rfl) (yK (zA (pv 3) zE)))
   (zB (zV (i:=8) uC.nd rfl (Or.inl rfl) (dG (iV (pv 3) y9 dC) rfl rfl (by simp) (by decide)))
   (zB (pV PassesOwn.never (zM (qP hu0) (pv 7) (yK zE) (zR _)) (zB (zV (i:=9) uC.nd rfl (Or.inr rfl) (aR F.plainAttrs_list F.slot_list_pop F.type_list_pop zAJ (pv 7)))
   (zB (t7 hu (pv 6) (zT yB (pv 5) (pv 9) (fun _ _=>rfl)) (zBX MK hr3 (zA (yA hu (pv 8) (pv 9) (fun _ _=>rfl)) zE)) rfl)
   (zB (zV (i:=10) uC.nd rfl (Or.inl rfl) (z5 vU (vD (N:=["_law_script","_law_source","_law_many","_law_begin","_law_hung","_law_names_here","_law_seats","_law_todo","_law_arrow","_law_here","_law_near","_law_other","_law_ways","_law_k"]) (sc:=zG sMd) (ix:=[9,4]) (by decide +kernel) (uX rfl b_range.no (zA zI (zA (pv 2) zE))) (fun _ _ _ _=>(xT (zM wY (zT yB (pv 2) (pv 0) (fun _ _=>rfl)) (pv 1) (zR _)))) (fun _ _ _ _=>(pv 0))) (z5 aT (yK (zA (zT yB (pv 4) (pv 9) (fun _ _=>rfl)) zE)) (wW vO rfl b_int.no pF (zA (xU hR (pv 9) zI (zR _)) zE)))))
   (zH (wM PassesOwn.never rfl (wF (pv 10)) (yD (i:=11) uC.nd rfl (Or.inl rfl)) (zH (yG (aK (jH hu (pv 11) (pv 8))) (zB (t7 hu (pv 8) (pv 11) (zT yB (pv 5) (pv 9) (fun _ _=>rfl)) rfl)
   (zH (yT (wX F.plainAttrs_list F.slot_list_append F.type_list_append y2 (pv 7) (zA (pv 11) zE))))) zP))))))))
   (zB (zV (i:=12) uC.nd rfl (Or.inl rfl) i8)
   (zB (wM PassesOwn.never rfl (uX rfl b_range.no (zA zI (zA (pv 2) zE))) (yD (i:=13) uC.nd rfl (Or.inl rfl)) (zB (t7 hu (pv 12) (yC (zA (zT yB (pv 5) (pv 13) (fun _ _=>rfl)) (zA (zT yB (pv 5) (zT yB (pv 4) (pv 13) (fun _ _=>rfl)) (fun _ _=>rfl)) zE))) (yK zE) rfl)
   (zH (t7 hu (pv 12) (yC (zA (zT yB (pv 5) (zT yB (pv 4) (pv 13) (fun _ _=>rfl)) (fun _ _=>rfl)) (zA (zT yB (pv 5) (pv 13) (fun _ _=>rfl)) zE))) (yK zE) rfl))))
   (zH (zO (yC (zA (i7 (pv 6)) (zA (i7 (pv 12)) (zA (pv 5) zE))))))))))))))))),?_⟩
 refine ⟨_,rfl,a,xs,0,rfl,hs,by decide,fun v0=>⟨_,rfl,fun src c1 c2 c3 hsrc=>?_⟩⟩
 refine lay hsrc fun H1 k1 e1=>?_
 refine ⟨_,rfl,src,_,_,_,6,rfl,e1,by decide,by decide,fun v c4 c5 v1 v2=>?_⟩
 have k2:zD [] H (upd H1 src (.lst [.int c4,.int c2,.int c5])):=k1.under (S:=[src]) (zD.at (by simp)) (by intro b hb;rw [zCR.mp hb];exact hsrc)
 have s2:upd H1 src (.lst [.int c4,.int c2,.int c5]) src=some (.lst [.int c4,.int c2,.int c5]):=zC
 generalize upd H1 src (.lst [.int c4,.int c2,.int c5])=H2 at k2 s2
 clear k1 e1
 obtain ⟨m,em⟩:∃ m:Nat,1 + v=(m:Int):=⟨(1 + v).toNat,by omega⟩
 refine ⟨1,v,rfl,rfl,?_⟩
 refine ⟨_,rfl,_,rfl,src,_,_,_,1 + v,rfl,s2,by omega,by omega,fun vb c6 c7 v3 v4=>?_⟩
 have k3:zD [] H (upd H2 src (.lst [.int c6,.int c2,.int c7])):=k2.under (S:=[src]) (zD.at (by simp)) (by intro b hb;rw [zCR.mp hb];exact hsrc)
 have s3:Src (upd H2 src (.lst [.int c6,.int c2,.int c7])) src:=⟨_,_,_,zC⟩
 generalize upd H2 src (.lst [.int c6,.int c2,.int c7])=H3 at k3 s3
 clear k2 s2
 obtain ⟨b,rfl⟩:∃ b:Nat,vb=(b:Int):=⟨vb.toNat,by omega⟩
 have bm:b < m:=by omega
 have m6:m <= 6:=by omega
 refine ⟨by show 1 <= sizeLine;decide,fun h0 hh0=>?_⟩
 have k4:zD [] H3 (upd H3 h0 (.lst [.int 0])):=zD.new hh0
 have e4:upd H3 h0 (.lst [.int 0]) h0=some (.lst [.int 0]):=zC
 have s4:Src (upd H3 h0 (.lst [.int 0])) src:=by
  obtain ⟨x,y,z,e⟩:=s3
  exact ⟨x,y,z,k4 _ _ (by simp) e⟩
 generalize upd H3 h0 (.lst [.int 0])=H4 at k4 e4 s4
 refine ⟨_,rfl,1,1 + v,rfl,⟨by omega,by omega,by omega,by omega⟩,fun ac hac=>?_⟩
 have sa:src ≠ ac:=by
  obtain ⟨x,y,z,e⟩:=s4
  exact zF e hac
 refine u6 (n:=(1 + v - 1).toNat) (by rw [sizeLine_eq];omega) (fun i ys τ H5=>∃ (kk:Option V) (hs:List Nat),τ=[kk,some (.ref src)]/\ys=hs.map xF/\hs.length=i/\(∀ j z,hs[j]?=some z->z < j + 1)/\Src H5 src/\H5 ac=some (.lst ys)/\zD [ac,src] H4 H5) ?_ ?_ ?_ ?_
 ·refine ⟨_,[],rfl,rfl,rfl,(fun j z hz=>by cases hz),?_,zC,zD.at (by simp)⟩
  obtain ⟨x,y,z,e⟩:=s4
  exact ⟨x,y,z,by rw [zJ sa];exact e⟩
 ·rintro i ys τ H5 ⟨kk,hs,rfl,rfl,rfl,_,_,h5,_⟩
  exact ⟨h5,by rw [zCO];exact zCX _⟩
 ·rintro i ys τ H5 hi ⟨kk,hs,rfl,rfl,rfl,hz,⟨x,y,z,e⟩,h5,k5⟩
  refine ⟨_,rfl,_,rfl,src,_,_,_,_,rfl,e,by omega,by omega,fun u c8 c9 u0 u1=>?_⟩
  obtain ⟨u,rfl⟩:∃ u':Nat,u=(u':Int):=⟨u.toNat,by omega⟩
  refine ⟨by rw [zJ (fun w=>sa w.symm)];exact h5,_,hs ++ [u],rfl,by rw [zC0];rfl,by rw [zC6];rfl,fun j z hj=>?_,⟨_,_,_,by rw [zJ sa];exact zC⟩,zC,(k5.trans (zD.at (by simp))).trans (zD.at (by simp))⟩
  rcases Nat.lt_or_ge j hs.length with l | l
  ·rw [zDC l] at hj
   exact hz j z hj
  ·have jl:=(zCQ.mp hj).1
   rw [zC6,List.length_singleton] at jl
   obtain rfl:j=hs.length:=by omega
   rw [zDB (zCX _),Nat.sub_self] at hj
   obtain rfl:u=z:=zCV hj
   omega
 rintro ys τ H5 ⟨kk,hs,rfl,rfl,hl,hz,s5,h5,k5⟩
 have hl':hs.length=m - 1:=by omega
 obtain ⟨x3,y3,z3,es3⟩:=s3
 have h0s:h0 ≠ src:=fun w=>by rw [w,es3] at hh0;cases hh0
 have h0a:h0 ≠ ac:=zF e4 hac
 have k5':zD [] H H5:=(k3.trans k4).under k5 (by
  intro b hb
  rcases List.mem_cons.mp hb with e | e
  ·rw [e];exact (k3.trans k4).none (by simp) hac
  ·rw [zCR.mp e];exact hsrc)
 refine ⟨h0,ac,_,_,rfl,rfl,k5 _ _ (by simp [h0s,h0a]) e4,h5,by rw [zCO,sizeLine_eq];show 1 + _ <= _;omega,fun hd hhd=>?_⟩
 have e6:upd H5 hd (.lst ([.int 0] ++ hs.map xF)) hd=some (.lst ((0 :: hs).map xF)):=zC
 have k6:zD [] H5 (upd H5 hd (.lst ([.int 0] ++ hs.map xF))):=zD.new hhd
 generalize upd H5 hd (.lst ([.int 0] ++ hs.map xF))=H6 at e6 k6
 have s6:Src H6 src:=by
  obtain ⟨x,y,z,e⟩:=s5
  exact ⟨x,y,z,k6 _ _ (by simp) e⟩
 have hds:hd ≠ src:=fun w=>by
  obtain ⟨x,y,z,e⟩:=s5
  rw [w,e] at hhd;cases hhd
 obtain ⟨hvl,ehv⟩:∃ l:List Nat,l=0 :: hs:=⟨_,rfl⟩
 rw [<- ehv] at e6
 have lhv:hvl.length=m:=by rw [ehv,zC9];omega
 obtain ⟨hv,dhv⟩:∃ f:Nat->Nat,f=fun k=>hvl.getD k 0:=⟨_,rfl⟩
 have ghv:∀ k,k < m->hvl[k]?=some (hv k):=fun k hk=>by
  rw [dhv]
  show _=some (hvl.getD k 0)
  rw [zCT,zCP (by omega)];rfl
 have dn:∀ k,1 <= k->k < m->hv k < k:=fun k k1 km=>by
  have g:=ghv k km
  obtain ⟨j,rfl⟩:∃ j,k=j + 1:=⟨k - 1,by omega⟩
  rw [ehv,List.getElem?_cons_succ] at g
  exact hz j _ g
 refine ⟨_,rfl,_,rfl,src,1 + v,rfl,s6,by omega,by omega,fun nl zs H7 hnl0 hnl zl gz nd k7 s7=>?_⟩
 have zl:zs.length=m:=by omega
 have hhd7:=k7 _ _ (by simp [hds]) e6
 have k7':zD [] H H7:=(k5'.trans k6).under k7 (by intro b hb;rw [zCR.mp hb];exact hsrc)
 clear k7 s7 s6 k6 k5' hds e6 h0a h0s es3 k5 h5 s5 hz hl hl' k4 k3 e4 s4 hnl0 hhd sa hac hh0 ehv
 intro sd hsd
 refine lay hsd fun H8 k8 e8=>?_
 refine ⟨_,rfl,by show 1 <= sizeLine;decide,fun tl htl=>?_⟩
 refine lay htl fun H9 k9 e9=>?_
 intro da hda
 refine ⟨_,rfl,zC,[(Sum.inl (b:Int),V.non)],rfl,by show 1 <= 15;decide,?_⟩
 have ma:MAt C (upd (upd H9 da (.dK [])) da (.dK (vE [] [(Sum.inl (b:Int),V.non)]))) sd tl da zs [] [b] [b] (fun _=>none) (fun _=>0) (fun _=>0):=
  ⟨by rw [zJ (zF (k9 _ _ (by simp) e8) hda),zJ (zF (k9 _ _ (by simp) e8) hda)];exact k9 _ _ (by simp) e8,by rw [zJ (zF e9 hda),zJ (zF e9 hda)];exact e9,zC,zF (k9 _ _ (by simp) e8) hda,(fun n hn=>by cases hn),(fun n hn=>by cases hn),(fun n hn=>by cases hn)⟩
 have k10:zD [] H7 (upd (upd H9 da (.dK [])) da (.dK (vE [] [(Sum.inl (b:Int),V.non)]))):=(k8.trans k9).under (S:=[da]) ((zD.at (by simp)).trans (zD.at (by simp))) (by intro z hz;rw [zCR.mp hz];exact (k8.trans k9).none (by simp) hda)
 have nda:H7 da=none:=(k8.trans k9).none (by simp) hda
 have ntl:H7 tl=none:=k8.none (by simp) htl
 generalize upd (upd H9 da (.dK [])) da (.dK (vE [] [(Sum.inl (b:Int),V.non)]))=H10 at ma k10
 clear hda e9 k9 e8 k8 htl
 refine ⟨fun mm σ Hx=>∃ (vs td ks:List Nat) (ar:Nat->Option Nat) (p wl:Str->Addr) (c:Nat) (v9 v10 v11:Option V),σ=[some (.ref a),some (.ref src),some (.int (1 + v)),some (.int (b:Int)),some (.ref hd),some (.ref nl),some (.ref sd),some (.ref tl),some (.ref da),v9,v10,v11,none,none]/\mm=m - vs.length/\Wlk m hv b vs td ks ar c []/\MAt C Hx sd tl da zs vs td ks ar p wl/\zD [] H7 Hx,⟨_,[],[b],[b],_,_,_,0,_,_,_,rfl,rfl,Wlk.start bm,ma,k10⟩,?_⟩
 clear ma k10
 rintro mm σ Hx ⟨vs,td,ks,ar,p,wl,c,v9,v10,v11,rfl,rfl,wk,ma,kx⟩
 refine ⟨_,rfl,by show 0 <= sizeLine;decide,fun el hel=>?_⟩
 refine lay hel fun Hy ky ey=>?_
 have may:=ma.keep ky
 refine ⟨tl,el,_,rfl,rfl,may.t,ey,zF ma.t hel,_,rfl,?_⟩
 have kxy:=kx.trans ky
 clear ma kx ky ey hel
 rcases List.eq_nil_or_concat td with e | ⟨td,x,e⟩
 ·subst e
  refine vW ?_
  have al:=wk.all dn
  have lt:∀ k ∈ vs,k < m:=fun k hk=>wk.lt k ((wk.mem k).mpr (Or.inl hk))
  have hnlY:=kxy _ _ (by simp) hnl
  have hhdY:=kxy _ _ (by simp) hhd7
  intro wd hwd
  have wy0:fY Hy (upd Hy wd (.dT [])) wd (prK zs (prN hv 0)) (fun _=>0):=⟨zC,(fun e he=>by cases he),(fun e he=>by cases he),(fun e he=>by cases he),zD.new hwd⟩
  generalize upd Hy wd (.dT [])=Hz at wy0
  have nmA:∀ {H:Hp} {k:Nat},k < m->atI (zs.map V.str) (k:Int)=some (.str (nmK zs k)):=fun {H k} hk=>xN (by rw [zCU,vM (by omega)];rfl)
  have hvA:∀ {k:Nat},k < m->atI (hvl.map xF) (k:Int)=some (xF (hv k)):=fun {k} hk=>xN (by rw [zCU,ghv k hk];rfl)
  refine ⟨_,rfl,1,1 + v,rfl,⟨by omega,by omega,by omega,by omega⟩,rO (fun i σ Hq=>∃ (q:Str × Str->Addr) (v13:Option V),σ=[some (.ref a),some (.ref src),some (.int (1 + v)),some (.int (b:Int)),some (.ref hd),some (.ref nl),some (.ref sd),some (.ref tl),some (.ref da),v9,v10,v11,some (.ref wd),v13]/\fY Hy Hq wd (prK zs (prN hv i)) q) ⟨_,_,rfl,wy0⟩ ?_ ?_⟩
  ·rintro i σ Hq hi ⟨q,v13,rfl,wy⟩
   have ik:(1:Int) + i=((i + 1:Nat):Int):=by omega
   rw [ik]
   have im:i + 1 < m:=by omega
   have di:=dn (i + 1) (by omega) im
   refine ⟨by show 0 <= sizeLine;decide,fun l1 hl1=>?_⟩
   refine lay hl1 fun Ha ka ea=>?_
   have hnlA:=(wy.k.trans ka) _ _ (by simp) hnlY
   have hhdA:=(wy.k.trans ka) _ _ (by simp) hhdY
   refine ⟨_,rfl,_,rfl,_,rfl,nl,_,((i + 1:Nat):Int),_,rfl,rfl,hnlA,nmA (H:=Ha) im,_,rfl,_,rfl,_,rfl,hd,_,((i + 1:Nat):Int),_,rfl,rfl,hhdA,hvA im,nl,_,(hv (i + 1):Int),_,rfl,rfl,hnlA,nmA (H:=Ha) (by omega),by show 2 <= sizeLine;decide,fun t1 ht1=>?_⟩
   have inj:∀ {x y:Nat},x < m->y < m->nmK zs x=nmK zs y->x=y:=fun hx hy e=>wI nd (by omega) (by omega) e
   have low:∀ {x y:Nat},(x,y) ∈ prN hv i->x <= i/\y <= i:=fun {x y} h=>by
    rcases vK.mp h with ⟨a1,a2,a3⟩ | ⟨a1,a2,a3⟩
    ·have:=dn x a1 (by omega);omega
    ·have:=dn y a1 (by omega);omega
   have no1:(nmK zs (i + 1),nmK zs (hv (i + 1))) ∉ prK zs (prN hv i):=fun h=>by
    obtain ⟨⟨x,y⟩,hx,e⟩:=List.mem_map.mp h
    have l:=low hx
    have:=inj (x:=x) (y:=i + 1) (by omega) im (congrArg Prod.fst e)
    omega
   have no2:(nmK zs (hv (i + 1)),nmK zs (i + 1)) ∉ prK zs (prN hv i) ++ [(nmK zs (i + 1),nmK zs (hv (i + 1)))]:=fun h=>by
    rcases zC5.mp h with h | h
    ·obtain ⟨⟨x,y⟩,hx,e⟩:=List.mem_map.mp h
     have l:=low hx
     have:=inj (x:=y) (y:=i + 1) (by omega) im (congrArg Prod.snd e)
     omega
    ·have:=inj (by omega) im (congrArg Prod.fst (zCR.mp h))
     omega
   have sz:∀ (l:LSS) (q:Str × Str->Addr),l.length <= 100->(xG l q).length < sizeLine:=fun l q h=>by rw [wP,sizeLine_eq];omega
   have pl:(prK zs (prN hv i)).length <= 10:=by unfold prK;rw [zCO,qM];omega
   refine lay ht1 fun Hb kb eb=>?_
   have kab:=ka.trans kb
   refine ⟨wd,_,rfl,rD.t (k:=[Sum.inr (nmK zs (i + 1)),Sum.inr (nmK zs (hv (i + 1)))]) (kab _ _ (by simp) wy.d) eb (sz _ _ (by omega)),?_⟩
   have wy1:=wy.put hwd no1 hl1 kab (kb _ _ (by simp) ea)
   generalize upd Hb wd _=Hc at wy1
   refine ⟨by show 0 <= sizeLine;decide,fun l2 hl2=>?_⟩
   refine lay hl2 fun Hd kd ed=>?_
   have hnlD:=(wy1.k.trans kd) _ _ (by simp) hnlY
   have hhdD:=(wy1.k.trans kd) _ _ (by simp) hhdY
   refine ⟨_,rfl,_,rfl,_,rfl,_,rfl,hd,_,((i + 1:Nat):Int),_,rfl,rfl,hhdD,hvA im,nl,_,(hv (i + 1):Int),_,rfl,rfl,hnlD,nmA (H:=Hd) (by omega),_,rfl,_,rfl,nl,_,((i + 1:Nat):Int),_,rfl,rfl,hnlD,nmA (H:=Hd) im,by show 2 <= sizeLine;decide,fun t2 ht2=>?_⟩
   refine lay ht2 fun He ke ee=>?_
   have kde:=kd.trans ke
   refine ⟨wd,_,rfl,rD.t (k:=[Sum.inr (nmK zs (hv (i + 1))),Sum.inr (nmK zs (i + 1))]) (kde _ _ (by simp) wy1.d) ee (sz _ _ (by rw [zC6];show _ + 1 <= _;omega)),?_⟩
   have wy2:=wy1.put hwd no2 hl2 kde (ke _ _ (by simp) ed)
   have ep:prK zs (prN hv (i + 1))=prK zs (prN hv i) ++ [(nmK zs (i + 1),nmK zs (hv (i + 1)))] ++ [(nmK zs (hv (i + 1)),nmK zs (i + 1))]:=by
    unfold prK
    rw [prN,zC0,zDJ];rfl
   rw [<- ep] at wy2
   exact ⟨_,_,rfl,wy2⟩
  rintro σ Hq ⟨q,v13,rfl,wy⟩
  have en:(1 + v - 1).toNat=m - 1:=by omega
  rw [en] at wy
  have mq:=may.keep wy.k
  have nsd:Hy sd ≠ none:=by rw [may.s];simp
  have sw:sd ≠ wd:=fun e=>nsd (by rw [e];exact hwd)
  have kHy:=k7'.trans kxy
  refine ⟨_,rfl,sd,_,rfl,mq.s,rfl,fun o1=>⟨_,rfl,wd,_,rfl,by rw [zJ (fun e=>sw e.symm)];exact wy.d,rfl,fun o2=>⟨_,rfl,by show 3 <= sizeLine;decide,fun t ht=>?_⟩⟩⟩
  have kf:zD [sd,wd] Hq (upd (upd Hq sd (.frz o1 (.dK (y6 (yS (nsK zs vs) p))))) wd (.frz o2 (.dT (xG (prK zs (prN hv (m - 1))) q)))):=(zD.at (by simp)).trans (zD.at (by simp))
  have f1:upd (upd Hq sd (.frz o1 (.dK (y6 (yS (nsK zs vs) p))))) wd (.frz o2 (.dT (xG (prK zs (prN hv (m - 1))) q))) sd=some (.frz o1 (.dK (y6 (yS (nsK zs vs) p)))):=by rw [zJ sw];exact zC
  have f2:upd (upd Hq sd (.frz o1 (.dK (y6 (yS (nsK zs vs) p))))) wd (.frz o2 (.dT (xG (prK zs (prN hv (m - 1))) q))) wd=some (.frz o2 (.dT (xG (prK zs (prN hv (m - 1))) q))):=zC
  generalize upd (upd Hq sd (.frz o1 (.dK (y6 (yS (nsK zs vs) p))))) wd (.frz o2 (.dT (xG (prK zs (prN hv (m - 1))) q)))=Hf at kf f1 f2 ht
  have kt:zD [] Hf (upd Hf t (.tup [.ref sd,.ref wd,.ref nl])):=zD.new ht
  have ntp:∀ z ∈ [sd,wd],∀ xs,Hq z ≠ some (.tup xs):=fun z hz xs e=>by
   rcases List.mem_cons.mp hz with w | w
   ·rw [w,mq.s] at e;cases e
   ·rw [zCR.mp w,wy.d] at e;cases e
  have wat:WAt C Hf sd wd (nsK zs vs) (prK zs (prN hv (m - 1))) p wl q (stK zs ar) (fun _ _=>[]):=by
   refine ⟨⟨o1,f1⟩,⟨o2,f2⟩,fun n hn=>?_,fun e he=>?_,mq.d,fun n hn e he=>?_,wy.x⟩
   ·obtain ⟨⟨dx,e⟩,⟨rs,er,_⟩,_⟩:=id (mq.se n hn)
    exact (mq.se n hn).off kf ntp (by simp;exact ⟨xA e mq.s (by intro z;cases z),xA e wy.d (by intro z;cases z)⟩) (by simp;exact ⟨xA er mq.s (by intro z;cases z),xA er wy.d (by intro z;cases z)⟩)
   ·have e1:=wy.l e he
    exact ⟨[],kf _ _ (by simp;exact ⟨xA e1 mq.s (by intro z;cases z),xA e1 wy.d (by intro z;cases z)⟩) e1,.nil⟩
   ·obtain ⟨_,⟨rs,er,_⟩,_⟩:=id (may.se n hn)
    intro w
    have:=wy.f e he
    rw [w,er] at this;cases this
  refine k t sd wd nl (nsK zs vs) _ p wl q (stK zs ar) (.at (nmK zs b)) _ zC (fun As a2 ga=>⟨dW zl nd dn m6 a2 gz ga wk,gE zl nd dn wk⟩) (wat.keep kt) (fun e=>?_) ?_
  ·have:=al b bm
   have:nmK zs b ∈ vs.map (nmK zs):=List.mem_map.mpr ⟨b,this,rfl⟩
   rw [show vs.map (nmK zs)=[] from e] at this;cases this
  ·refine zD.trans ((kHy.trans wy.k).under kf fun z hz=>?_) kt
   rcases List.mem_cons.mp hz with w | w
   ·rw [w];exact k7'.none (by simp) hsd
   ·rw [zCR.mp w];exact kHy.none (by simp) hwd
 rw [List.concat_eq_append] at e
 subst e
 refine bO (by simp) ?_
 refine ⟨_,fun σ' H' h=>h,?_⟩
 have xk:x ∈ ks:=(wk.mem x).mpr (Or.inr (by simp))
 have xm:=wk.lt x xk
 have lt:∀ k ∈ vs,k < m:=fun k hk=>wk.lt k ((wk.mem k).mpr (Or.inl hk))
 have xv:x ∉ vs:=fun q=>(List.nodup_append.mp wk.nd).2.2 x q x (by simp) rfl
 have wk2:=wk.pop (nr:=vB m hv x) fun k hk t=>(rM dn xm).mpr ⟨hk,t⟩
 have nmA:∀ {k:Nat},k < m->atI (zs.map V.str) (k:Int)=some (.str (nmK zs k)):=fun {k} hk=>xN (by rw [zCU,vM (by omega)];rfl)
 have hvA:∀ {k:Nat},k < m->atI (hvl.map xF) (k:Int)=some (xF (hv k)):=fun {k} hk=>xN (by rw [zCU,ghv k hk];rfl)
 have dl:((td ++ [x]).map xF).dropLast=td.map xF:=by rw [zC0];exact List.dropLast_concat
 refine ⟨_,rfl,Or.inl ⟨rfl,_,.of may.t⟩,tl,_,.int (x:Int),rfl,rfl,may.t,by rw [zC0,zC6];show (td.map xF ++ [xF x])[_]?=_;rw [zDB (by simp)];simp;rfl,?_⟩
 rw [dl]
 have m2:=may.todo (td':=td)
 have k2:zD [] H7 (upd Hy tl (.lst (td.map xF))):=kxy.under (S:=[tl]) (zD.at (by simp)) (by intro z hz;rw [zCR.mp hz];exact ntl)
 generalize upd Hy tl (.lst (td.map xF))=H2 at m2 k2
 have dg:tG H2 da (.int (x:Int)) (some (yH ((ar x).map (nmK zs)))):=by
  have:=tG.k (k:=Sum.inl (x:Int)) m2.a
  rw [uO,if_pos xk] at this
  exact this
 refine ⟨_,rfl,_,rfl,da,_,rfl,dg,fun a2 dx ha hdx ne=>⟨a2,dx,(ar x).map (nmK zs),rfl,zC,fun z hz=>?_,fun w3 H3 hw3 S3 k3=>⟨rfl,?_⟩⟩⟩
 ·by_cases xb:x=b
  ·rw [xb,wk.b2] at hz;cases hz
  ·obtain ⟨y,hy,e,_⟩:=wk.ay x xk xb
   rw [e] at hz
   obtain rfl:=zCV hz
   have g:=gz _ (qR (k:=y) (by rw [zl];exact lt y hy))
   exact ⟨g.1,by have:=g.2;omega⟩
 have k23:zD [] H2 H3:=fun z o _ hz=>by
  have za:z ≠ a2:=zF hz ha
  have zd:z ≠ dx:=zF hz hdx
  exact k3 z o (by simp [za]) (by rw [zJ za,zJ zd];exact hz)
 have hw2:∀ {z:Addr} {o:HO},H2 z=some o->z ≠ w3:=fun {z o} hz=>by
  refine zF (H:=upd (upd H2 dx (.own a2)) a2 (.ins C dx [])) (o:=o) ?_ hw3
  rw [zJ (zF hz ha),zJ (zF hz hdx)];exact hz
 have m3:=m2.keep k23
 have S3':zN C H3 a2 w3 (stK zs ar (nmK zs x)):=by rw [r9 nd (by omega)];exact S3
 obtain ⟨nn,m4⟩:=m3.seat nd (fun j hj=>by rw [zl];exact lt j hj) (by rw [zl];exact xm) xv S3' (fun n hn=>by
  obtain ⟨⟨d1,e1⟩,⟨rs,er,_⟩,_⟩:=id (m2.se n hn)
  exact ⟨zF e1 ha,hw2 er⟩) (fun e=>hw2 m2.t e.symm)
 have hnl3:=(k2.trans k23) _ _ (by simp) hnl
 refine ⟨_,rfl,_,rfl,_,rfl,nl,_,(x:Int),_,rfl,rfl,hnl3,nmA xm,sd,_,rfl,rD.k (k:=Sum.inr (nmK zs x)) m3.s ?_,?_⟩
 ·have:=wk.small
  unfold y6
  rw [zCO,xK,sizeLine_eq];unfold nsK;rw [zCO];omega
 rw [jB nn,show nsK zs vs ++ [nmK zs x]=nsK zs (vs ++ [x]) from by unfold nsK;rw [zC0];rfl]
 have k4:zD [] H7 (upd H3 sd (.dK (y6 (yS (nsK zs (vs ++ [x])) (fU p (nmK zs x) a2))))):=(k2.trans k23).under (S:=[sd]) (zD.at (by simp)) (by intro z hz;rw [zCR.mp hz];exact hsd)
 generalize upd H3 sd (.dK (y6 (yS (nsK zs (vs ++ [x])) (fU p (nmK zs x) a2))))=H4 at m4 k4
 clear hw2 S3' S3 k3 hw3 m3 k23 dg m2 k2 ha hdx ne may kxy
 have hhd4:=k4 _ _ (by simp) hhd7
 have en:(1 + v - 1).toNat=m - 1:=by omega
 refine ⟨_,rfl,1,1 + v,rfl,⟨by omega,by omega,by omega,by omega⟩,fun ac hac=>?_⟩
 have hda:hd ≠ ac:=zF hhd4 hac
 refine oB (n:=(1 + v - 1).toNat) (by rw [sizeLine_eq];omega) (fun i ys τ H5=>∃ (kk:Option V),τ=[kk,some (.int (x:Int)),some (.ref hd)]/\ys=(((List.range i).filter fun j=>hv (j + 1) == x).map (· + 1)).map xF/\H5 ac=some (.lst ys)/\zD [ac] H4 H5) ?_ ?_ ?_ ?_
 ·exact ⟨_,rfl,rfl,zC,zD.at (by simp)⟩
 ·rintro i ys τ H5 ⟨kk,rfl,rfl,h5,_⟩
  refine ⟨h5,?_⟩
  rw [zCO,zCO]
  have:=zDM (fun j=>hv (j + 1) == x) (List.range i)
  rwa [List.length_range] at this
 ·rintro i ys τ H5 hi ⟨kk,rfl,rfl,h5,k5⟩
  have ik:(1:Int) + i=((i + 1:Nat):Int):=by omega
  rw [ik]
  have im:i + 1 < m:=by omega
  have tk:(List.range (i + 1)).filter (fun j=>hv (j + 1) == x)=(List.range i).filter (fun j=>hv (j + 1) == x) ++ if hv (i + 1)=x then [i] else []:=by
   rw [List.range_succ,List.filter_append]
   by_cases e:hv (i + 1)=x <;> simp [e]
  refine ⟨_,rfl,_,rfl,hd,_,((i + 1:Nat):Int),_,rfl,rfl,k5 _ _ (by simp [hda]) hhd4,hvA im,_,rfl,rfl,_,rfl,?_⟩
  by_cases e:hv (i + 1)=x
  ·refine bO (by show decide (V.int (hv (i + 1):Int)=V.int (x:Int))=true;rw [e];simp) ⟨_,rfl,h5,_,rfl,?_,zC,k5.trans (zD.at (by simp))⟩
   rw [tk,if_pos e,zC0,zC0];rfl
  ·refine zAQ (by show decide (V.int (hv (i + 1):Int)=V.int (x:Int))=false;exact zC4 fun q=>e (by have:=V.int.inj q;omega)) ⟨_,rfl,?_,h5,k5⟩
   rw [tk,if_neg e,List.append_nil]
 rintro ys τ H5 ⟨kk,rfl,rfl,h5,k5⟩
 rw [en] at h5
 have k5:=k5.drop hac
 have lf:((List.range (m - 1)).filter fun j=>hv (j + 1) == x).length <= 5:=by
  have:=zDM (fun j=>hv (j + 1) == x) (List.range (m - 1))
  rw [List.length_range] at this;omega
 refine ⟨_,rfl,_,rfl,hd,_,(x:Int),_,rfl,rfl,k5 _ _ (by simp) hhd4,hvA xm,by show 1 <= sizeLine;decide,fun l5 hl5=>?_⟩
 refine lay hl5 fun H6 k6 e6=>?_
 have h6:=k6 _ _ (by simp) h5
 refine ⟨_,rfl,(x:Int),0,rfl,rfl,Or.inr ⟨_,rfl,l5,_,_,rfl,rfl,e6,?_,?_,?_,fun l6 hl6=>?_⟩⟩
 ·split <;> decide
 ·split <;> decide
 ·split
  ·show 1 <= sizeLine;decide
  ·show 0 <= sizeLine;decide
 have er:(List.replicate (if decide ((0:Int) < (x:Int))=true then (1:Int) else 0).toNat [xF (hv x)]).flatten=(if 0 < x then [hv x] else []).map xF:=by
  by_cases x0:0 < x
  ·rw [if_pos x0,if_pos (zC3 (by omega))];rfl
  ·rw [if_neg x0,if_neg (by simp;omega)];rfl
 refine lay hl6 fun H8 k8 e8=>?_
 have e8:H8 l6=some (.lst ((if 0 < x then [hv x] else []).map xF)):=by rw [<- er];exact e8
 refine ⟨ac,l6,_,_,rfl,rfl,k8 _ _ (by simp) h6,e8,?_,fun nr hnr=>?_⟩
 ·rw [zCO,zCO,zCO,sizeLine_eq]
  split <;> simp <;> omega
 have k48:=k5.trans (k6.trans k8)
 have m8:=m4.keep k48
 have k78:=k4.trans k48
 have eN:upd H8 nr (.lst ((((List.range (m - 1)).filter fun j=>hv (j + 1) == x).map (· + 1)).map xF ++ (if 0 < x then [hv x] else []).map xF)) nr=some (.lst ((vB m hv x).map xF)):=by
  rw [zC];unfold vB;rw [zC0]
 have kN:zD [] H8 (upd H8 nr (.lst ((((List.range (m - 1)).filter fun j=>hv (j + 1) == x).map (· + 1)).map xF ++ (if 0 < x then [hv x] else []).map xF))):=zD.new hnr
 generalize upd H8 nr _=H9 at eN kN
 have m9:=m8.keep kN
 have k79:=k78.trans kN
 have nt:nr ≠ tl:=fun e=>by rw [e,m8.t] at hnr;cases hnr
 clear m8 k78 kN hnr k48 e8 k8 h6 e6 k6 h5 k5 hl6 hl5 hac hhd4 k4 m4 hda
 refine ⟨_,rfl,nr,rfl,⟨_,.of eN⟩,uL (K:=K) (a:=nr) (xs:=(vB m hv x).map xF) (fun j σ Ha=>∃ (td ks:List Nat) (ar:Nat->Option Nat) (v11:Option V),σ=[some (.ref a),some (.ref src),some (.int (1 + v)),some (.int (b:Int)),some (.ref hd),some (.ref nl),some (.ref sd),some (.ref tl),some (.ref da),some (.int (x:Int)),some (.ref nr),v11,none,none]/\Wlk m hv b (vs ++ [x]) td ks ar x ((vB m hv x).drop j)/\MAt C Ha sd tl da zs (vs ++ [x]) td ks ar (fU p (nmK zs x) a2) (fU wl (nmK zs x) w3)/\Ha nr=some (.lst ((vB m hv x).map xF))/\zD [] H7 Ha) ⟨td,ks,ar,_,rfl,wk2,m9,eN,k79⟩ (fun j σ Ha _ ⟨_,_,_,_,_,_,_,e,_⟩=>.of e) ?_ ?_⟩
 ·rintro j y σ Ha hy ⟨td,ks,ar,v11,rfl,wj,mj,ej,kj⟩
  rw [zCU] at hy
  cases ek:(vB m hv x)[j]? with
  | none=>rw [ek] at hy;cases hy
  | some k'=>
  rw [ek] at hy
  obtain rfl:xF k'=y:=zCV hy
  have dj:(vB m hv x).drop j=k' :: (vB m hv x).drop (j + 1):=by
   obtain ⟨lj,ge⟩:=zCQ.mp ek
   rw [List.drop_eq_getElem_cons lj,ge]
  rw [dj] at wj
  obtain ⟨km,tie⟩:=(rM dn xm).mp (zCS ek)
  refine ⟨_,rfl,_,rfl,da,_,rfl,tG.k (k:=Sum.inl (k':Int)) mj.a,_,rfl,?_⟩
  by_cases hk:k' ∈ ks
  ·exact ifF (by rw [uO,if_pos hk];rfl) ⟨td,ks,ar,_,rfl,wj.skip hk,mj,ej,kj⟩
  ·refine ifT (by rw [uO,if_neg hk];rfl) ?_
   have sm:=wj.small
   have ln:=wj.len
   refine ⟨_,rfl,_,rfl,nl,_,(x:Int),_,rfl,rfl,kj _ _ (by simp) hnl,nmA xm,_,rfl,_,rfl,da,_,rfl,rD.k (k:=Sum.inl (k':Int)) mj.a (by unfold arT;rw [zCO,sizeLine_eq];omega),?_⟩
   rw [fX hk]
   have mk:=mj.arrow (c:=x) nd hk fun i hi=>⟨by rw [zl];exact wj.lt i ((wj.mem i).mpr (Or.inl hi)),(wj.mem i).mpr (Or.inl hi)⟩
   have kk:zD [] H7 (upd Ha da (.dK (arT zs (ks ++ [k']) (arU ar k' (some x))))):=kj.under (S:=[da]) (zD.at (by simp)) (by intro z hz;rw [zCR.mp hz];exact nda)
   have ek':upd Ha da (.dK (arT zs (ks ++ [k']) (arU ar k' (some x)))) nr=some (.lst ((vB m hv x).map xF)):=by rw [zJ (xA ej mj.a (by intro z;cases z))];exact ej
   generalize upd Ha da (.dK (arT zs (ks ++ [k']) (arU ar k' (some x))))=Hb at mk kk ek'
   refine ⟨_,rfl,Or.inl ⟨rfl,_,.of mk.t⟩,_,rfl,tl,_,_,rfl,rfl,mk.t,by rw [zCO,sizeLine_eq];omega,?_⟩
   have ml:=mk.todo (td':=td ++ [k'])
   have et:(td ++ [k']).map xF=td.map xF ++ [xF k']:=by rw [zC0];rfl
   rw [et] at ml
   exact ⟨td ++ [k'],ks ++ [k'],_,_,rfl,wj.push hk km tie (by simp),ml,by rw [zJ nt];exact ek',kk.under (S:=[tl]) (zD.at (by simp)) (by intro z hz;rw [zCR.mp hz];exact ntl)⟩
 ·rintro σ Ha ⟨td,ks,ar,v11,rfl,wj,mj,ej,kj⟩
  rw [zCO,List.drop_length] at wj
  have sm:=wj.small
  rw [zC6,List.length_singleton] at sm
  exact ⟨m - (vs ++ [x]).length,by rw [zC6,List.length_singleton];omega,vs ++ [x],td,ks,ar,_,_,x,_,_,_,rfl,rfl,wj,mj,kj⟩
end
abbrev sLw:Stmt:=top 30
theorem gT:vT ("a" : Str):=⟨by decide +kernel,by decide +kernel⟩
theorem cB:vT ("ab" : Str):=⟨by decide +kernel,by decide +kernel⟩
theorem cK (c:Int):∃ As:List Str,tP [V.str "a",V.str "ab"] none (some (1 + c % 2))=As.map V.str/\As.length <= 2/\As ≠ []/\∀ a ∈ As,vT a:=by
 have h:c % 2=0 \/ c % 2=1:=by omega
 rcases h with h | h
 ·rw [h]
  exact ⟨["a"],rfl,by decide,by simp,fun a ha=>by rw [zCR.mp ha];exact gT⟩
 ·rw [h]
  refine ⟨["a","ab"],rfl,by decide,by simp,fun a ha=>?_⟩
  rcases List.mem_cons.mp ha with e | e
  ·rw [e];exact gT
  ·rw [zCR.mp e];exact cB
section
variable {P:Program} {w:World} {K:W.Frag} {mg:Str->Option Value} {base:Heap} {C:Addr}
theorem rC:zQ ["_law_script","_law_seats","_law_ways","_law_names_here","_law_askers","_law_cell","_law_deeds_here","_law_deed","_law_name","_law_told"] ["_law_script"] (zG sLw):=scm
def lF (K:W.Frag):Sp:=fun vs H Q _=>∃ (a:Addr) (ns:List Int),vs=[.ref a]/\SqL K H a (ns.map V.int)/\ns.length <= 63/\∀ H',Q (.bl true) H'
theorem zB1 {f:Addr} {fd:FuncData} (T:xE K C) (G:Fun K "law" "law" sLw f fd) (CDi:Cal P w K mg base CX0 1 "_law_digits" ["_law_cell"] sC) (CCe:Cal P w K mg base CX0 1 "_law_cell_at" ["_law_script","_law_k"] (nD K)) (CNx:Cal P w K mg base CX0 2 "_law_next" ["_law_source","_law_many"] qA) (CMd:Cal P w K mg base CX0 4 "_law_made" ["_law_script"] (zBB K C)) (CSt:Cal P w K mg base CX0 3 "_law_stands" ["_law_seats","_law_ways"] (b7 C)) (CDs:Cal P w K mg base CX0 2 "_law_deeds" ["_law_seats","_law_ways","_law_askers"] (zBD C)) (CPu:Cal P w K mg base CX0 5 "_law_put" ["_law_seats","_law_ways","_law_deed"] (b8 C)) (CSe:Cal P w K mg base CX0 1 "_law_sent" ["_law_ways","_law_name","_law_told"] (nB C)) (CAG:Cal P w K mg base CX0 6 "_law_all_given" ["_law_seats","_law_ways"] (zBG C)) (b_len:Blt mg "len"):vJ P w K mg base CX0 7 f fd ["_law_script"] (lF K):=by
 refine G.ok rC (fun vs H Q E h=>by obtain ⟨a,ns,rfl,_⟩:=h;rfl) (fun cdv A outer s0 H vs Q E hr h=>?_)
 obtain ⟨a,xs,rfl,hS,hlen,fin⟩:=h
 have hr6:z9 6 _:=hr
 have hr5:z9 5 _:=hr.mono (by decide)
 have hr4:z9 4 _:=hr.mono (by decide)
 have hr3:z9 3 _:=hr.mono (by decide)
 have hr2:z9 2 _:=hr.mono (by decide)
 have hr1:z9 1 _:=hr.mono (by decide)
 have hu:=wZ hr
 refine ⟨_,(zB (uW (zZ CMd hr4 (zA (pv 0) zE)) (sH rfl (y8 (yD (i:=1) rC.nd rfl (Or.inl rfl)) (y8 (yD (i:=2) rC.nd rfl (Or.inl rfl)) (y8 (yD (i:=3) rC.nd rfl (Or.inl rfl)) uG)))))
   (zB (zV (i:=4) rC.nd rfl (Or.inl rfl) (uH qE (yK (zA z7 (zA z7 zE))) qN (uF (z5 xR zI (z5 wN (zZ CCe hr1 (zA (pv 0) (zA zI zE))) zI)))))
   (zB (yG (wA (xQ (zZ CSt hr3 (zA (pv 1) (zA (pv 2) zE))))) (zH (zO wG)) zP)
   (zB (wM PassesOwn.never rfl (wF (uH qE (pv 0) (uF zI) (uF zI))) (yD (i:=5) rC.nd rfl (Or.inl rfl)) (zB (zV (i:=6) rC.nd rfl (Or.inl rfl) (zZ CDs hr2 (zA (pv 1) (zA (pv 2) (zA (pv 4) zE)))))
   (zB (zV (i:=7) rC.nd rfl (Or.inl rfl) (zT yB (pv 6) (zZ CNx hr2 (zA (zZ CDi hr1 (zA (pv 5) zE)) (zA (xY wD b_len vX (zA (pv 6) zE)) zE))) (fun _ _=>rfl)))
   (zB (uW (zZ CPu hr5 (zA (pv 1) (zA (pv 2) (zA (pv 7) zE)))) (sH rfl (y8 (yD (i:=8) rC.nd rfl (Or.inl rfl)) (y8 (yD (i:=9) rC.nd rfl (Or.inl rfl)) uG))))
   (zB (yT (zZ CSe hr1 (zA (pv 2) (zA (pv 8) (zA (pv 9) zE)))))
   (zH (yG (wA (xQ (zZ CSt hr3 (zA (pv 1) (zA (pv 2) zE))))) (zH (zO wG)) zP)))))))
   (zH (zO (zZ CAG hr6 (zA (pv 1) (zA (pv 2) zE))))))))),?_⟩
 refine ⟨_,rfl,a,xs,rfl,hS,fun t sd wd nl ns pr p wl q st l H1 ht fs W1 nn k1=>?_⟩
 refine ⟨t,_,rfl,.of ht,rfl,_,_,rfl,_,_,rfl,_,_,rfl,rfl,?_⟩
 refine ⟨by show 2 <= sizeLine;decide,fun l1 hl1=>?_⟩
 refine lay hl1 fun H2 k2 e2=>?_
 refine ⟨_,rfl,a,xs,1,rfl,zD.seq (k1.trans k2) hS,by decide,fun c=>⟨c,2,rfl,rfl,by show (0:Int) < 2;decide,1,c % 2,rfl,rfl,1 + c % 2,rfl,l1,_,rfl,.of e2,fun al hal=>?_⟩⟩
 obtain ⟨As,eAs,a2,na,ga⟩:=cK c
 obtain ⟨F,S⟩:=fs As a2 ga
 have e3:upd H2 al (.lst (tP [V.str "a",V.str "ab"] none (some (1 + c % 2)))) al=some (.lst (As.map V.str)):=by rw [zC,eAs]
 have k3:zD [] H2 (upd H2 al (.lst (tP [V.str "a",V.str "ab"] none (some (1 + c % 2))))):=zD.new hal
 have W2:=W1.keep k2
 have nal:=W2.new hal
 generalize upd H2 al (.lst (tP [V.str "a",V.str "ab"] none (some (1 + c % 2))))=H3 at e3 k3
 have W3:=W2.keep k3
 have k13:=k1.trans (k2.trans k3)
 refine ⟨_,rfl,_,rfl,sd,wd,ns,As,pr,p,wl,q,_,_,l,rfl,F,W3,S,fun H4 k4=>⟨_,rfl,ifF rfl ?_⟩⟩
 have W4:=W3.keep k4
 have e4:=k4 _ _ (by simp) e3
 refine ⟨_,rfl,2,rfl,52,rfl,a,_,rfl,zD.seq (k13.trans k4) hS,fun sl hsl=>?_⟩
 have nsl:=W4.new hsl
 refine lay hsl fun H5 k5 e5=>?_
 have W5:=W4.keep k5
 have h5:=k5 _ _ (by simp) e4
 obtain ⟨ms,em,lm⟩:=fK xs (some 2) (some 52)
 rw [em] at e5
 refine ⟨sl,rfl,⟨_,.of e5⟩,uL (K:=K) (a:=sl) (xs:=ms.map V.int) (fun i σ Hx=>∃ (st:Str->SS) (wy:Wy) (l:Loc) (v5 v6 v7 v8 v9:Option V),σ=[some (.ref a),some (.ref sd),some (.ref wd),some (.ref nl),some (.ref al),v5,v6,v7,v8,v9]/\WAt C Hx sd wd ns pr p wl q st wy/\Sys ns As (fun a b=>(a,b) ∈ pr) st wy l/\Hx al=some (.lst (As.map V.str))/\Hx sl=some (.lst (ms.map V.int))) ⟨st,_,l,_,_,_,_,_,rfl,W5,S,h5,e5⟩ (fun i σ Hx _ ⟨_,_,_,_,_,_,_,_,_,_,_,_,e⟩=>.of e) ?_ ?_⟩
 rotate_left
 ·rintro σ Hx ⟨st,wy,l,v5,v6,v7,v8,v9,rfl,W,S,_,_⟩
  exact ⟨_,rfl,_,rfl,sd,wd,ns,As,pr,p,wl,q,st,wy,l,rfl,F,W,S,fin⟩
 rintro i y σ Hx hy ⟨st,wy,l,v5,v6,v7,v8,v9,rfl,W,S,hax,hsx⟩
 rw [zCU] at hy
 cases ec:ms[i]? with
 | none=>rw [ec] at hy;cases hy
 | some cell=>
 rw [ec] at hy
 obtain rfl:V.int cell=y:=zCV hy
 refine ⟨_,rfl,_,rfl,_,rfl,sd,wd,al,ns,As,pr,p,wl,q,st,wy,l,rfl,F,W,S,hax,nn,na,fun dl ts des Ha D ne len hdl ka=>?_⟩
 have Wa:=W.keep ka
 refine ⟨_,rfl,_,rfl,cell,rfl,fun src c1 c2 c3 hsrc=>?_⟩
 have kb:zD [] Ha (upd Ha src (.lst [.int c1,.int c2,.int c3])):=zD.new hsrc
 have eb:upd Ha src (.lst [.int c1,.int c2,.int c3]) src=some (.lst [.int c1,.int c2,.int c3]):=zC
 generalize upd Ha src (.lst [.int c1,.int c2,.int c3])=Hb at kb eb
 have Db:=D.keep kb
 have tl0:0 < ts.length:=zDE.mpr ne
 refine ⟨_,rfl,_,ts.length,rfl,Or.inl ⟨_,.of Db.l,by rw [zCO]⟩,src,_,_,_,(ts.length:Int),rfl,eb,by omega,by omega,fun v d1 d2 v0 v1=>?_⟩
 have kc:zD [] Ha (upd Hb src (.lst [.int d1,.int c2,.int d2])):=kb.under (S:=[src]) (zD.at (by simp)) (by intro z hz;rw [zCR.mp hz];exact hsrc)
 generalize upd Hb src (.lst [.int d1,.int c2,.int d2])=Hc at kc
 have Dc:=D.keep kc
 have Wc:=Wa.keep kc
 obtain ⟨v,rfl⟩:∃ u:Nat,v=(u:Int):=⟨v.toNat,by omega⟩
 have vl:v < ts.length:=by omega
 obtain ⟨d,ed,hd⟩:=y0 Dc.p v ts[v] (zCP vl)
 refine ⟨dl,_,(v:Int),.ref ts[v],rfl,rfl,Dc.l,xN (by rw [zCU,zCP vl];rfl),?_⟩
 have okd:=Dc.o d (zCS ed)
 refine ⟨_,rfl,_,rfl,_,rfl,sd,wd,_,d,ns,As,pr,p,wl,q,st,wy,l,rfl,F,Wc,S,hd,okd,fun t r Hd ht af ht0 hr0 kd=>?_⟩
 obtain ⟨tl,s',wy2,l2,Rr,nr,Wd,len2,tin,Sd,_⟩:=af
 refine ⟨t,_,rfl,.of ht,rfl,_,_,rfl,_,_,rfl,rfl,?_⟩
 refine ⟨_,rfl,_,rfl,_,rfl,sd,wd,r,deN d,ns,pr,p,wl,q,_,_,tl,rfl,Wd,F.np,Rr,nr,tin,len2,fun He We ke=>?_⟩
 refine ⟨_,rfl,_,rfl,sd,wd,ns,As,pr,p,wl,q,_,_,l2,rfl,F,We,Sd,fun Hf kf=>⟨_,rfl,ifF rfl ?_⟩⟩
 exact ⟨_,_,l2,_,_,_,_,_,rfl,We.keep kf,Sd,kf _ _ (by simp) (ke _ _ nal (kd _ _ nal (kc _ _ (by simp) (ka _ _ (by simp) hax)))),kf _ _ (by simp) (ke _ _ nsl (kd _ _ nsl (kc _ _ (by simp) (ka _ _ (by simp) hsx))))⟩
end
end K16
section
open PySem PySem.W PyProof.Rows
set_option maxHeartbeats 0
noncomputable section
namespace HD
open PySem PySem.W L2
variable (P:Params)
def tp (i:Nat):Stmt:=PySem.Challenge.pw_treeright_k16_whole_one_right_among_seat.main.body.getD i (.Pass ⟨0,0,0,0⟩)
def ic (i j:Nat):Stmt:=xC (tp i) j
abbrev N:=@BT.node
abbrev L:=BT.nil
abbrev M (o:Obj):BT:=N o L L
abbrev J (o:Obj) (a:BT):BT:=N o a L
def en (P:Params) (k:Str) (t:Nat) (v:Value):DictEntry:=⟨PyData.keyHash P k,.str k t,v⟩
noncomputable def o0:Obj:=⟨(.type "tuple"),none,(Data.seq #[] 0),#[]⟩
noncomputable def h0 (a0:Str) (a1:Str) (a2:Stmt):Obj:=⟨.none,none,(Data.func ⟨a0,a1,(y4 a2),(FuncBody.stmts (yW a2)),(zG a2),0,[],.none,.none,.none,.none,none,.none,.none,0⟩),#[]⟩
def o1:Obj:=h0 "askers" "Seat.askers" (ic 14 5)
def o7:Obj:=h0 "__init__" "Seat.__init__" (ic 14 0)
def o14:Obj:=h0 "want" "Seat.want" (ic 14 10)
def o21:Obj:=h0 "_law_leads" "_law_leads" (tp 27)
def o37:Obj:=h0 "leave" "Seat.leave" (ic 14 11)
def o39:Obj:=h0 "done" "Seat.done" (ic 14 12)
def o43:Obj:=h0 "arrow" "Seat.arrow" (ic 14 1)
def o46:Obj:=h0 "_law_digits" "_law_digits" (tp 18)
def o47:Obj:=h0 "_law_stands" "_law_stands" (tp 28)
def o51:Obj:=h0 "inside" "Seat.inside" (ic 14 3)
def o52:Obj:=h0 "settle" "Seat.settle" (ic 14 9)
def o53:Obj:=h0 "crowd" "Seat.crowd" (ic 14 6)
def o56:Obj:=h0 "_law_names" "_law_names" (tp 20)
def o59:Obj:=h0 "_law_cell_at" "_law_cell_at" (tp 16)
def o62:Obj:=h0 "has_asked" "Seat.has_asked" (ic 14 4)
def o67:Obj:=h0 "is_name" "is_name" (tp 10)
def o71:Obj:=h0 "check_asker" "check_asker" (tp 12)
def o78:Obj:=h0 "twin" "Seat.twin" (ic 14 7)
def o94:Obj:=h0 "move_on" "Seat.move_on" (ic 14 15)
def o101:Obj:=h0 "check_house" "check_house" (tp 13)
def o104:Obj:=h0 "_law_all_given" "_law_all_given" (tp 29)
def o105:Obj:=h0 "_law_deeds" "_law_deeds" (tp 24)
def o117:Obj:=h0 "come" "Seat.come" (ic 14 14)
def o133:Obj:=h0 "_law_sent" "_law_sent" (tp 22)
def o136:Obj:=h0 "serve_first" "Seat.serve_first" (ic 14 16)
def o154:Obj:=h0 "_law_next" "_law_next" (tp 19)
def o161:Obj:=h0 "law" "law" (tp 30)
def o162:Obj:=h0 "row" "Seat.row" (ic 14 2)
def o172:Obj:=h0 "state" "Seat.state" (ic 14 8)
def o173:Obj:=h0 "_law_made" "_law_made" (tp 21)
def o176:Obj:=h0 "_law_asked_rightly" "_law_asked_rightly" (tp 26)
def o177:Obj:=h0 "_law_come" "_law_come" (tp 23)
def o200:Obj:=h0 "_law_mixed" "_law_mixed" (tp 17)
def o203:Obj:=h0 "_law_put" "_law_put" (tp 25)
def o208:Obj:=h0 "ask" "Seat.ask" (ic 14 13)
def o212:Obj:=h0 "_wall" "_wall" (tp 0)
noncomputable def h1 (a0:Str) (a1:Nat) (a2:Str) (a3:Nat) (a4:Nat) (a5:Int) (a6:Int) (a7:Nat) (a8:Nat) (a9:Nat) (a10:Nat) (a11:Nat) (a12:Int) (a13:Nat):Obj:=⟨(.type "code"),none,(Data.fields #[(.str a0 a1),(.str a2 a3),(.str "/claim/cut.py" a4),(.int a5 0),(.int a6 0),(.int 0 0),(.int 0 0),(.int 3 0),(.ref a7),(.bool true),(.int 181 0),(.ref a8),.none,(.ref a9),(.ref a10),(.ref a11),(.int a12 0),(.int a5 0),(.str "/claim/cut.py" a13)]),#[]⟩
def o2:Obj:=h1 "state" 375 "Seat.state" 376 377 60 1 165 166 167 168 169 379 380
def o3:Obj:=h1 "serve_first" 438 "Seat.serve_first" 439 440 118 1 221 222 223 224 225 445 446
def o6:Obj:=h1 "twin" 368 "Seat.twin" 369 370 57 1 158 159 160 161 162 372 373
def o12:Obj:=h1 "arrow" 326 "Seat.arrow" 327 328 39 1 116 117 118 119 120 330 331
def o20:Obj:=h1 "crowd" 361 "Seat.crowd" 362 363 54 1 151 152 153 154 155 365 366
def o23:Obj:=h1 "leave" 398 "Seat.leave" 399 400 73 2 186 187 188 189 190 403 404
def o24:Obj:=h1 "move_on" 431 "Seat.move_on" 432 433 108 1 214 215 216 217 218 435 436
def o25:Obj:=h1 "inside" 340 "Seat.inside" 341 342 45 1 130 131 132 133 134 344 345
def o30:Obj:=h1 "check_house" 299 "check_house" 300 301 26 1 95 96 97 98 99 303 304
def o32:Obj:=h1 "row" 333 "Seat.row" 334 335 42 1 123 124 125 126 127 337 338
def o35:Obj:=h1 "_law_cell_at" 462 "_law_cell_at" 463 464 128 2 235 236 237 238 239 467 468
def o68:Obj:=h1 "want" 390 "Seat.want" 391 392 66 2 179 180 181 182 183 395 396
def o83:Obj:=h1 "has_asked" 347 "Seat.has_asked" 348 349 48 1 137 138 139 140 141 351 352
def o106:Obj:=h1 "_law_next" 486 "_law_next" 487 488 139 2 256 257 258 259 260 492 493
def o109:Obj:=h1 "_wall" 187 "_wall" 188 189 1 1 15 16 17 18 19 191 192
def o115:Obj:=h1 "_law_mixed" 470 "_law_mixed" 471 472 132 2 242 243 244 245 246 476 477
def o119:Obj:=h1 "done" 406 "Seat.done" 407 408 80 2 193 194 195 196 197 411 412
def o121:Obj:=h1 "_law_come" 517 "_law_come" 518 519 177 3 280 281 282 283 284 524 525
def o123:Obj:=h1 "ask" 414 "Seat.ask" 415 416 87 2 200 201 202 203 204 419 420
def o128:Obj:=h1 "_law_put" 533 "_law_put" 534 535 195 3 292 293 294 295 296 540 541
def o143:Obj:=h1 "_law_digits" 479 "_law_digits" 480 481 137 1 249 250 251 252 253 483 484
def o151:Obj:=h1 "_law_leads" 549 "_law_leads" 550 551 213 3 304 305 306 307 308 556 557
def o156:Obj:=h1 "settle" 382 "Seat.settle" 383 384 63 2 172 173 174 175 176 387 388
def o166:Obj:=h1 "law" 571 "law" 572 573 253 1 321 322 323 324 325 584 585
def o170:Obj:=h1 "check_asker" 292 "check_asker" 293 294 23 1 88 89 90 91 92 296 297
def o179:Obj:=h1 "come" 422 "Seat.come" 423 424 96 3 207 208 209 210 211 428 429
def o197:Obj:=h1 "askers" 354 "Seat.askers" 355 356 51 1 144 145 146 147 148 358 359
def o201:Obj:=h1 "__init__" 318 "Seat.__init__" 319 320 31 2 109 110 111 112 113 323 324
def o205:Obj:=h1 "_law_sent" 507 "_law_sent" 508 509 173 3 273 274 275 276 277 514 515
noncomputable def o4:Obj:=⟨.none,none,(Data.fields #[(.int 1 0),(.int 0 0),(.ref 20),(.int 5 0),(.int 0 0),(.ref 27),(.int 7 0),(.int 0 0),(.ref 40)]),#[]⟩
noncomputable def o5:Obj:=⟨.none,none,(Data.fields #[]),#[]⟩
noncomputable def o8:Obj:=⟨.none,none,(Data.fields #[(.int 1 0),(.int 0 0),(.ref 20),(.int 5 0),(.int 0 0),(.ref 27)]),#[]⟩
noncomputable def h2 (a0:Nat) (a1:Nat) (a2:Str) (a3:Nat):Obj:=⟨(.type "frame"),none,Data.plain,#[(some (.ref a0)),(some (.ref 3)),(some (.ref a1)),none,(some (.str a2 a3)),none,(some (.ref 0))]⟩
def o9:Obj:=h2 107 104 "treeright.seats" 290
def o27:Obj:=h2 64 61 "treeright.errors" 194
def o54:Obj:=h2 13 3 "__main__" 164
def o86:Obj:=h2 27 24 "treeright.errors" 194
def o88:Obj:=h2 52 49 "treeright.errors" 194
def o102:Obj:=h2 76 73 "treeright.errors" 194
def o134:Obj:=h2 40 37 "treeright.errors" 194
noncomputable def h3 (a0:Str) (a1:Nat) (a2:Nat) (a3:Nat) (a4:Nat) (a5:Nat):Obj:=⟨(.type "type"),none,(Data.cls ⟨a0,[(.ref 31)],[(.ref a1),(.ref 31),(.type "ValueError"),(.type "Exception"),(.type "BaseException"),(.type "object")],a2,a0,true,[],[],false,none,false⟩),#[(some (.ref a3)),none,(some (.str a0 a4)),(some (.str a0 a5)),(some (.builtin "ValueError.__new__")),(some (.bool true))]⟩
def o10:Obj:=h3 "NoHouse" 44 43 35 214 222
def o148:Obj:=h3 "NoLetter" 80 79 71 262 270
def o193:Obj:=h3 "NoSeat" 56 55 47 230 238
def o194:Obj:=h3 "NoAsker" 68 67 59 246 254
noncomputable def h4 (a0:Str) (a1:Str) (a2:Stmt) (a3:Str) (a4:Nat) (a5:Nat):Obj:=⟨(.type "function"),none,(Data.func ⟨a0,a1,(y4 a2),(FuncBody.stmts (yW a2)),(zG a2),3,[],.none,.none,.none,(.str a3 a4),none,(.ref a5),.none,0⟩),#[]⟩
def o11:Obj:=h4 "_law_leads" "_law_leads" (tp 27) "law_treeright_k16_whole_one_right_among_seat" 460 309
def o22:Obj:=h4 "crowd" "Seat.crowd" (ic 14 6) "treeright.seats" 290 156
def o31:Obj:=h4 "row" "Seat.row" (ic 14 2) "treeright.seats" 290 128
def o34:Obj:=h4 "settle" "Seat.settle" (ic 14 9) "treeright.seats" 290 177
def o40:Obj:=h4 "_law_asked_rightly" "_law_asked_rightly" (tp 26) "law_treeright_k16_whole_one_right_among_seat" 460 302
def o42:Obj:=h4 "has_asked" "Seat.has_asked" (ic 14 4) "treeright.seats" 290 142
def o44:Obj:=h4 "askers" "Seat.askers" (ic 14 5) "treeright.seats" 290 149
def o64:Obj:=h4 "arrow" "Seat.arrow" (ic 14 1) "treeright.seats" 290 121
def o76:Obj:=h4 "state" "Seat.state" (ic 14 8) "treeright.seats" 290 170
def o82:Obj:=h4 "__init__" "Seat.__init__" (ic 14 0) "treeright.seats" 290 114
def o85:Obj:=h4 "_law_digits" "_law_digits" (tp 18) "law_treeright_k16_whole_one_right_among_seat" 460 254
def o87:Obj:=h4 "ask" "Seat.ask" (ic 14 13) "treeright.seats" 290 205
def o89:Obj:=h4 "_law_mixed" "_law_mixed" (tp 17) "law_treeright_k16_whole_one_right_among_seat" 460 247
def o96:Obj:=h4 "done" "Seat.done" (ic 14 12) "treeright.seats" 290 198
def o103:Obj:=h4 "check_house" "check_house" (tp 13) "treeright.seats" 290 100
def o110:Obj:=h4 "leave" "Seat.leave" (ic 14 11) "treeright.seats" 290 191
def o111:Obj:=h4 "twin" "Seat.twin" (ic 14 7) "treeright.seats" 290 163
def o116:Obj:=h4 "_law_all_given" "_law_all_given" (tp 29) "law_treeright_k16_whole_one_right_among_seat" 460 319
def o120:Obj:=h4 "_law_names" "_law_names" (tp 20) "law_treeright_k16_whole_one_right_among_seat" 460 266
def o124:Obj:=h4 "_law_sent" "_law_sent" (tp 22) "law_treeright_k16_whole_one_right_among_seat" 460 278
def o132:Obj:=h4 "serve_first" "Seat.serve_first" (ic 14 16) "treeright.seats" 290 226
def o145:Obj:=h4 "_law_deeds" "_law_deeds" (tp 24) "law_treeright_k16_whole_one_right_among_seat" 460 290
def o147:Obj:=h4 "_law_stands" "_law_stands" (tp 28) "law_treeright_k16_whole_one_right_among_seat" 460 314
def o159:Obj:=h4 "is_name" "is_name" (tp 10) "treeright.trees" 278 86
def o165:Obj:=h4 "law" "law" (tp 30) "law_treeright_k16_whole_one_right_among_seat" 460 326
def o171:Obj:=h4 "want" "Seat.want" (ic 14 10) "treeright.seats" 290 184
def o182:Obj:=h4 "_wall" "_wall" (tp 0) "__main__" 164 20
def o186:Obj:=h4 "_law_made" "_law_made" (tp 21) "law_treeright_k16_whole_one_right_among_seat" 460 271
def o188:Obj:=h4 "_law_next" "_law_next" (tp 19) "law_treeright_k16_whole_one_right_among_seat" 460 261
def o189:Obj:=h4 "inside" "Seat.inside" (ic 14 3) "treeright.seats" 290 135
def o192:Obj:=h4 "move_on" "Seat.move_on" (ic 14 15) "treeright.seats" 290 219
def o202:Obj:=h4 "come" "Seat.come" (ic 14 14) "treeright.seats" 290 212
def o204:Obj:=h4 "_law_put" "_law_put" (tp 25) "law_treeright_k16_whole_one_right_among_seat" 460 297
def o207:Obj:=h4 "_law_cell_at" "_law_cell_at" (tp 16) "law_treeright_k16_whole_one_right_among_seat" 460 240
def o210:Obj:=h4 "_law_come" "_law_come" (tp 23) "law_treeright_k16_whole_one_right_among_seat" 460 285
def o211:Obj:=h4 "check_asker" "check_asker" (tp 12) "treeright.seats" 290 93
noncomputable def o13:Obj:=⟨.none,none,(Data.fields #[(.int 31 0),(.int 4 0),(.ref 114),(.int 39 0),(.int 4 0),(.ref 121),(.int 42 0),(.int 4 0),(.ref 128),(.int 45 0),(.int 4 0),(.ref 135),(.int 48 0),(.int 4 0),(.ref 142),(.int 51 0),(.int 4 0),(.ref 149),(.int 54 0),(.int 4 0),(.ref 156),(.int 57 0),(.int 4 0),(.ref 163),(.int 60 0),(.int 4 0),(.ref 170),(.int 63 0),(.int 4 0),(.ref 177),(.int 66 0),(.int 4 0),(.ref 184)]),#[]⟩
noncomputable def o15:Obj:=⟨.none,none,(Data.fields #[(.int 1 0),(.int 0 0),(.ref 20),(.int 5 0),(.int 0 0),(.ref 27),(.int 7 0),(.int 0 0),(.ref 40),(.int 9 0),(.int 0 0),(.ref 52),(.int 11 0),(.int 0 0),(.ref 64),(.int 13 0),(.int 0 0),(.ref 76),(.int 18 0),(.int 0 0),(.ref 86),(.int 23 0),(.int 0 0),(.ref 93),(.int 26 0),(.int 0 0),(.ref 100),(.int 29 0),(.int 0 0),(.ref 107)]),#[]⟩
noncomputable def o16:Obj:=⟨(.type "dict"),none,(Data.dict #[en P "__name__" 165 (.str "law_treeright_k16_whole_one_right_among_seat" 460),en P "__doc__" 166 .none,en P "__package__" 167 .none,en P "__loader__" 168 (.builtin "__main__.__loader__#opaque"),en P "__spec__" 169 .none,en P "__annotations__" 170 (.ref 6),en P "__builtins__" 171 (.ref 4),en P "__file__" 173 (.str "/claim/cut.py" 172),en P "__cached__" 174 .none,en P "_wall" 193 (.ref 21),en P "TreeError" 213 (.ref 31),en P "NoHouse" 229 (.ref 44),en P "NoSeat" 245 (.ref 56),en P "NoAsker" 261 (.ref 68),en P "NoLetter" 277 (.ref 80),en P "LETTERS" 281 (.str "abcdefghijklmnopqrstuvwxyz" 280),en P "LONGEST_NAME" 283 (.int 8 282),en P "is_name" 289 (.ref 87),en P "check_asker" 298 (.ref 94),en P "check_house" 305 (.ref 101),en P "Seat" 459 (.ref 230),en P "_law_cell_at" 469 (.ref 241),en P "_law_mixed" 478 (.ref 248),en P "_law_digits" 485 (.ref 255),en P "_law_next" 494 (.ref 262),en P "_law_names" 500 (.ref 267),en P "_law_made" 506 (.ref 272),en P "_law_sent" 516 (.ref 279),en P "_law_come" 526 (.ref 286),en P "_law_deeds" 532 (.ref 291),en P "_law_put" 542 (.ref 298),en P "_law_asked_rightly" 548 (.ref 303),en P "_law_leads" 558 (.ref 310),en P "_law_stands" 564 (.ref 315),en P "_law_all_given" 570 (.ref 320),en P "law" 586 (.ref 327)] 36),#[]⟩
noncomputable def o17:Obj:=⟨(.type "dict"),none,(Data.dict #[en P "__module__" 203 (.str "treeright.errors" 194),en P "__firstlineno__" 207 (.int 5 206),en P "__static_attributes__" 208 (.ref 29),en P "__weakref__" 210 (.ref 32),en P "__doc__" 211 .none] 3),#[]⟩
noncomputable def h5 (a0:Str) (a1:Nat) (a2:Str) (a3:Nat) (a4:Str) (a5:Nat) (a6:Str) (a7:Nat):Obj:=⟨(.type "tuple"),none,(Data.seq #[(.str a0 a1),(.str a2 a3),(.str a4 a5),(.str a6 a7)] 0),#[]⟩
def o18:Obj:=h5 "_law_seats" 520 "_law_ways" 521 "_law_way" 522 "_law_letter" 523
def o61:Obj:=h5 "asked" 448 "holder" 449 "pointer" 450 "waiting" 451
def o130:Obj:=h5 "_law_seats" 536 "_law_ways" 537 "_law_deed" 538 "_law_seat" 539
def o135:Obj:=h5 "self" 441 "kind" 442 "name" 443 "back" 444
def o149:Obj:=h5 "_law_seats" 552 "_law_name" 553 "_law_going" 554 "_law_met" 555
def o180:Obj:=h5 "_law_ways" 510 "_law_name" 511 "_law_told" 512 "_law_line" 513
noncomputable def h6 (a0:Str) (a1:Nat) (a2:Nat) (a3:Nat) (a4:Int) (a5:Int) (a6:Nat) (a7:Nat) (a8:Nat) (a9:Int) (a10:Nat):Obj:=⟨(.type "code"),none,(Data.fields #[(.str a0 a1),(.str a0 a2),(.str "/claim/cut.py" a3),(.int a4 0),(.int a5 0),(.int 0 0),(.int 0 0),(.int 3 0),(.ref a6),(.bool true),(.int 181 0),(.ref a7),.none,.none,.none,(.ref a8),(.int a9 0),(.int a4 0),(.str "/claim/cut.py" a10)]),#[]⟩
def o19:Obj:=h6 "_law_all_given" 565 566 567 236 2 316 317 318 568 569
def o55:Obj:=h6 "_law_stands" 559 560 561 222 2 311 312 313 562 563
def o74:Obj:=h6 "is_name" 284 285 286 18 1 83 84 85 287 288
def o146:Obj:=h6 "_law_made" 501 502 503 151 1 268 269 270 504 505
def o152:Obj:=h6 "_law_deeds" 527 528 529 182 3 287 288 289 530 531
def o175:Obj:=h6 "_law_asked_rightly" 543 544 545 204 4 299 300 301 546 547
def o184:Obj:=h6 "_law_names" 495 496 497 146 2 263 264 265 498 499
noncomputable def h7 (a0:Str) (a1:Nat) (a2:Str) (a3:Nat):Obj:=⟨(.type "tuple"),none,(Data.seq #[(.str a0 a1),(.str a2 a3)] 0),#[]⟩
def o26:Obj:=h7 "_law_script" 465 "_law_k" 466
def o28:Obj:=h7 "self" 409 "asker" 410
def o63:Obj:=h7 "self" 321 "arrow" 322
def o113:Obj:=h7 "self" 393 "asker" 394
def o126:Obj:=h7 "self" 385 "arrow" 386
def o127:Obj:=h7 "self" 401 "asker" 402
def o178:Obj:=h7 "self" 417 "house" 418
noncomputable def h8 (a0:Nat):Obj:=⟨(.type "builtin_function_or_method"),none,(Data.fields #[(.builtin "object.__init_subclass__"),(.ref a0)]),#[]⟩
def o29:Obj:=h8 31
def o49:Obj:=h8 56
def o77:Obj:=h8 230
def o129:Obj:=h8 80
def o158:Obj:=h8 44
def o167:Obj:=h8 68
noncomputable def o33:Obj:=⟨(.type "type"),none,(Data.cls ⟨"TreeError",[(.type "ValueError")],[(.ref 31),(.type "ValueError"),(.type "Exception"),(.type "BaseException"),(.type "object")],30,"TreeError",true,[],[(.ref 44),(.ref 56),(.ref 68)],false,none,false⟩),#[(some (.ref 22)),none,(some (.str "TreeError" 196)),(some (.str "TreeError" 204)),(some (.builtin "ValueError.__new__")),(some (.bool true))]⟩
noncomputable def h9 (a0:Str) (a1:Nat):Obj:=⟨(.type "tuple"),none,(Data.seq #[(.str a0 a1)] 0),#[]⟩
def o36:Obj:=h9 "asker" 295
def o38:Obj:=h9 "self" 343
def o60:Obj:=h9 "self" 364
def o70:Obj:=h9 "self" 434
def o72:Obj:=h9 "self" 371
def o79:Obj:=h9 "self" 350
def o84:Obj:=h9 "self" 336
def o93:Obj:=h9 "self" 378
def o97:Obj:=h9 "_law_cell" 482
def o99:Obj:=h9 "self" 329
def o164:Obj:=h9 "self" 357
def o168:Obj:=h9 "house" 302
def o196:Obj:=h9 "k" 190
noncomputable def o41:Obj:=⟨(.type "tuple"),none,(Data.seq #[(.ref 31)] 0),#[]⟩
noncomputable def h10 (a0:Nat) (a1:Nat):Obj:=⟨(.type "getset_descriptor"),none,(Data.fields #[(.str "__weakref__" a0),(.ref a1),(.builtin "ExceptionGroup.__weakref__"),.none]),#[]⟩
def o45:Obj:=h10 455 230
def o69:Obj:=h10 209 31
noncomputable def o48:Obj:=⟨.none,none,(Data.fields #[(.int 1 0),(.int 0 0),(.ref 20),(.int 5 0),(.int 0 0),(.ref 27),(.int 7 0),(.int 0 0),(.ref 40),(.int 9 0),(.int 0 0),(.ref 52),(.int 11 0),(.int 0 0),(.ref 64),(.int 13 0),(.int 0 0),(.ref 76),(.int 18 0),(.int 0 0),(.ref 86),(.int 23 0),(.int 0 0),(.ref 93),(.int 26 0),(.int 0 0),(.ref 100),(.int 29 0),(.int 0 0),(.ref 107),(.int 128 0),(.int 0 0),(.ref 240),(.int 132 0),(.int 0 0),(.ref 247),(.int 137 0),(.int 0 0),(.ref 254),(.int 139 0),(.int 0 0),(.ref 261),(.int 146 0),(.int 0 0),(.ref 266),(.int 151 0),(.int 0 0),(.ref 271),(.int 173 0),(.int 0 0),(.ref 278),(.int 177 0),(.int 0 0),(.ref 285),(.int 182 0),(.int 0 0),(.ref 290),(.int 195 0),(.int 0 0),(.ref 297),(.int 204 0),(.int 0 0),(.ref 302),(.int 213 0),(.int 0 0),(.ref 309),(.int 222 0),(.int 0 0),(.ref 314)]),#[]⟩
noncomputable def o50:Obj:=⟨(.type "builtin_function_or_method"),none,(Data.fields #[(.builtin "type.__prepare__"),(.type "type")]),#[]⟩
noncomputable def o57:Obj:=⟨(.type "tuple"),none,(Data.seq #[(.type "ValueError")] 0),#[]⟩
noncomputable def h11 (a0:Str) (a1:Nat) (a2:Str) (a3:Nat) (a4:Str) (a5:Nat):Obj:=⟨(.type "tuple"),none,(Data.seq #[(.str a0 a1),(.str a2 a3),(.str a4 a5)] 0),#[]⟩
def o58:Obj:=h11 "_law_source" 489 "_law_many" 490 "_law_found" 491
def o153:Obj:=h11 "self" 425 "house" 426 "back" 427
def o157:Obj:=h11 "_law_cell" 473 "_law_k" 474 "_law_number" 475
noncomputable def o65:Obj:=⟨.none,none,(Data.fields #[(.int 1 0),(.int 0 0),(.ref 20),(.int 5 0),(.int 0 0),(.ref 27),(.int 7 0),(.int 0 0),(.ref 40),(.int 9 0),(.int 0 0),(.ref 52),(.int 11 0),(.int 0 0),(.ref 64),(.int 13 0),(.int 0 0),(.ref 76),(.int 18 0),(.int 0 0),(.ref 86),(.int 23 0),(.int 0 0),(.ref 93),(.int 26 0),(.int 0 0),(.ref 100)]),#[]⟩
noncomputable def o66:Obj:=⟨(.type "dict"),none,(Data.dict #[en P "__name__" 165 (.str "treeright.errors" 194),en P "__doc__" 166 .none,en P "__package__" 167 .none,en P "__loader__" 168 (.builtin "__main__.__loader__#opaque"),en P "__spec__" 169 .none,en P "__annotations__" 170 (.ref 6),en P "__builtins__" 171 (.ref 4),en P "__file__" 173 (.str "/claim/cut.py" 172),en P "__cached__" 174 .none,en P "_wall" 193 (.ref 21),en P "TreeError" 213 (.ref 31),en P "NoHouse" 229 (.ref 44),en P "NoSeat" 245 (.ref 56),en P "NoAsker" 261 (.ref 68)] 14),#[]⟩
noncomputable def h12 (a0:Str) (a1:Nat) (a2:Nat) (a3:Nat) (a4:Int) (a5:Nat) (a6:Nat) (a7:Int) (a8:Nat):Obj:=⟨(.type "code"),none,(Data.fields #[(.str a0 a1),(.str a0 a2),(.str "/claim/cut.py" a3),(.int a4 0),(.int 0 0),(.int 0 0),(.int 0 0),(.int 0 0),(.ref a5),(.bool false),(.int 181 0),(.ref a6),.none,.none,.none,.none,(.int a7 0),(.int a4 0),(.str "/claim/cut.py" a8)]),#[]⟩
def o73:Obj:=h12 "NoSeat" 232 233 234 9 50 51 235 236
def o90:Obj:=h12 "NoHouse" 216 217 218 7 38 39 219 220
def o98:Obj:=h12 "TreeError" 198 199 200 5 25 26 201 202
def o100:Obj:=h12 "Seat" 308 309 310 29 105 106 311 312
def o108:Obj:=h12 "<module>" 182 183 184 1 11 12 185 186
def o112:Obj:=h12 "NoAsker" 248 249 250 11 62 63 251 252
def o185:Obj:=h12 "NoLetter" 264 265 266 13 74 75 267 268
noncomputable def h13 (a0:Nat) (a1:Nat) (a2:Int) (a3:Nat) (a4:Nat) (a5:Nat) (a6:Nat):Obj:=⟨(.type "dict"),none,(Data.dict #[en P "__module__" a0 (.str "treeright.errors" 194),en P "__firstlineno__" a1 (.int a2 a3),en P "__static_attributes__" a4 (.ref a5),en P "__doc__" a6 .none] 2),#[]⟩
def o75:Obj:=h13 P 269 273 13 272 274 78 275
def o142:Obj:=h13 P 253 257 11 256 258 66 259
def o183:Obj:=h13 P 237 241 9 240 242 54 243
def o199:Obj:=h13 P 221 225 7 224 226 42 227
noncomputable def h14 (a0:Nat):Obj:=⟨(.type "super"),none,(Data.fields #[(.ref a0),(.ref a0),(.ref a0)]),#[]⟩
def o80:Obj:=h14 68
def o91:Obj:=h14 230
def o114:Obj:=h14 80
def o169:Obj:=h14 56
def o174:Obj:=h14 31
def o206:Obj:=h14 44
noncomputable def o81:Obj:=⟨(.type "dict"),none,(Data.dict #[en P "__name__" 165 (.str "treeright.errors" 194),en P "__doc__" 166 .none,en P "__package__" 167 .none,en P "__loader__" 168 (.builtin "__main__.__loader__#opaque"),en P "__spec__" 169 .none,en P "__annotations__" 170 (.ref 6),en P "__builtins__" 171 (.ref 4),en P "__file__" 173 (.str "/claim/cut.py" 172),en P "__cached__" 174 .none,en P "_wall" 193 (.ref 21),en P "TreeError" 213 (.ref 31)] 11),#[]⟩
noncomputable def o92:Obj:=⟨(.type "dict"),none,(Data.dict #[en P "__module__" 313 (.str "treeright.seats" 290),en P "__firstlineno__" 317 (.int 29 316),en P "__init__" 325 (.ref 115),en P "arrow" 332 (.ref 122),en P "row" 339 (.ref 129),en P "inside" 346 (.ref 136),en P "has_asked" 353 (.ref 143),en P "askers" 360 (.ref 150),en P "crowd" 367 (.ref 157),en P "twin" 374 (.ref 164),en P "state" 381 (.ref 171),en P "settle" 389 (.ref 178),en P "want" 397 (.ref 185),en P "leave" 405 (.ref 192),en P "done" 413 (.ref 199),en P "ask" 421 (.ref 206),en P "come" 430 (.ref 213),en P "move_on" 437 (.ref 220),en P "serve_first" 447 (.ref 227),en P "__static_attributes__" 452 (.ref 228),en P "__dict__" 454 (.ref 231),en P "__weakref__" 456 (.ref 232),en P "__doc__" 457 .none] 4),#[]⟩
noncomputable def o95:Obj:=⟨(.type "dict"),none,(Data.dict #[en P "__name__" 165 (.str "law_treeright_k16_whole_one_right_among_seat" 460),en P "__doc__" 166 .none,en P "__package__" 167 .none,en P "__loader__" 168 (.builtin "__main__.__loader__#opaque"),en P "__spec__" 169 .none,en P "__annotations__" 170 (.ref 6),en P "__builtins__" 171 (.ref 4),en P "__file__" 173 (.str "/claim/cut.py" 172),en P "__cached__" 174 .none,en P "_wall" 193 (.ref 21),en P "TreeError" 213 (.ref 31),en P "NoHouse" 229 (.ref 44),en P "NoSeat" 245 (.ref 56),en P "NoAsker" 261 (.ref 68),en P "NoLetter" 277 (.ref 80),en P "LETTERS" 281 (.str "abcdefghijklmnopqrstuvwxyz" 280),en P "LONGEST_NAME" 283 (.int 8 282),en P "is_name" 289 (.ref 87),en P "check_asker" 298 (.ref 94),en P "check_house" 305 (.ref 101),en P "Seat" 459 (.ref 230),en P "_law_cell_at" 469 (.ref 241),en P "_law_mixed" 478 (.ref 248),en P "_law_digits" 485 (.ref 255),en P "_law_next" 494 (.ref 262),en P "_law_names" 500 (.ref 267),en P "_law_made" 506 (.ref 272),en P "_law_sent" 516 (.ref 279),en P "_law_come" 526 (.ref 286),en P "_law_deeds" 532 (.ref 291),en P "_law_put" 542 (.ref 298),en P "_law_asked_rightly" 548 (.ref 303),en P "_law_leads" 558 (.ref 310),en P "_law_stands" 564 (.ref 315)] 34),#[]⟩
noncomputable def o107:Obj:=⟨(.type "dict"),none,(Data.dict #[en P "__name__" 165 (.str "treeright.seats" 290),en P "__doc__" 166 .none,en P "__package__" 167 .none,en P "__loader__" 168 (.builtin "__main__.__loader__#opaque"),en P "__spec__" 169 .none,en P "__annotations__" 170 (.ref 6),en P "__builtins__" 171 (.ref 4),en P "__file__" 173 (.str "/claim/cut.py" 172),en P "__cached__" 174 .none,en P "_wall" 193 (.ref 21),en P "TreeError" 213 (.ref 31),en P "NoHouse" 229 (.ref 44),en P "NoSeat" 245 (.ref 56),en P "NoAsker" 261 (.ref 68),en P "NoLetter" 277 (.ref 80),en P "LETTERS" 281 (.str "abcdefghijklmnopqrstuvwxyz" 280),en P "LONGEST_NAME" 283 (.int 8 282),en P "is_name" 289 (.ref 87),en P "check_asker" 298 (.ref 94),en P "check_house" 305 (.ref 101)] 20),#[]⟩
noncomputable def o118:Obj:=⟨(.type "dict"),none,(Data.dict #[en P "__name__" 165 (.str "treeright.errors" 194),en P "__doc__" 166 .none,en P "__package__" 167 .none,en P "__loader__" 168 (.builtin "__main__.__loader__#opaque"),en P "__spec__" 169 .none,en P "__annotations__" 170 (.ref 6),en P "__builtins__" 171 (.ref 4),en P "__file__" 173 (.str "/claim/cut.py" 172),en P "__cached__" 174 .none,en P "_wall" 193 (.ref 21),en P "TreeError" 213 (.ref 31),en P "NoHouse" 229 (.ref 44)] 12),#[]⟩
noncomputable def h15 (a0:Nat) (a1:Nat) (a2:Str) (a3:Nat) (a4:Nat) (a5:Int) (a6:Nat) (a7:Nat) (a8:Nat):Obj:=⟨(.type "dict"),none,(Data.dict #[en P "__module__" a0 (.str "treeright.errors" 194),en P "__qualname__" a1 (.str a2 a3),en P "__firstlineno__" a4 (.int a5 a6),en P "__static_attributes__" a7 (.ref a8)] 4),#[]⟩
def o122:Obj:=h15 P 269 271 "NoLetter" 270 273 13 272 274 78
def o137:Obj:=h15 P 237 239 "NoSeat" 238 241 9 240 242 54
def o155:Obj:=h15 P 221 223 "NoHouse" 222 225 7 224 226 42
def o160:Obj:=h15 P 253 255 "NoAsker" 254 257 11 256 258 66
def o198:Obj:=h15 P 203 205 "TreeError" 204 207 5 206 208 29
noncomputable def o125:Obj:=⟨(.type "type"),none,(Data.cls ⟨"TreeError",[(.type "ValueError")],[(.ref 31),(.type "ValueError"),(.type "Exception"),(.type "BaseException"),(.type "object")],30,"TreeError",true,[],[(.ref 44),(.ref 56)],false,none,false⟩),#[(some (.ref 22)),none,(some (.str "TreeError" 196)),(some (.str "TreeError" 204)),(some (.builtin "ValueError.__new__")),(some (.bool true))]⟩
noncomputable def o131:Obj:=⟨(.type "dict"),none,(Data.dict #[en P "__name__" 165 (.str "treeright.seats" 290),en P "__doc__" 166 .none,en P "__package__" 167 .none,en P "__loader__" 168 (.builtin "__main__.__loader__#opaque"),en P "__spec__" 169 .none,en P "__annotations__" 170 (.ref 6),en P "__builtins__" 171 (.ref 4),en P "__file__" 173 (.str "/claim/cut.py" 172),en P "__cached__" 174 .none,en P "_wall" 193 (.ref 21),en P "TreeError" 213 (.ref 31),en P "NoHouse" 229 (.ref 44),en P "NoSeat" 245 (.ref 56),en P "NoAsker" 261 (.ref 68),en P "NoLetter" 277 (.ref 80),en P "LETTERS" 281 (.str "abcdefghijklmnopqrstuvwxyz" 280),en P "LONGEST_NAME" 283 (.int 8 282),en P "is_name" 289 (.ref 87),en P "check_asker" 298 (.ref 94),en P "check_house" 305 (.ref 101),en P "Seat" 459 (.ref 230)] 21),#[]⟩
noncomputable def o138:Obj:=⟨.none,none,(Data.fields #[(.int 1 0),(.int 0 0),(.ref 20),(.int 5 0),(.int 0 0),(.ref 27),(.int 7 0),(.int 0 0),(.ref 40),(.int 9 0),(.int 0 0),(.ref 52),(.int 11 0),(.int 0 0),(.ref 64),(.int 13 0),(.int 0 0),(.ref 76),(.int 18 0),(.int 0 0),(.ref 86),(.int 23 0),(.int 0 0),(.ref 93),(.int 26 0),(.int 0 0),(.ref 100),(.int 29 0),(.int 0 0),(.ref 107),(.int 128 0),(.int 0 0),(.ref 240),(.int 132 0),(.int 0 0),(.ref 247),(.int 137 0),(.int 0 0),(.ref 254),(.int 139 0),(.int 0 0),(.ref 261),(.int 146 0),(.int 0 0),(.ref 266),(.int 151 0),(.int 0 0),(.ref 271),(.int 173 0),(.int 0 0),(.ref 278),(.int 177 0),(.int 0 0),(.ref 285),(.int 182 0),(.int 0 0),(.ref 290),(.int 195 0),(.int 0 0),(.ref 297),(.int 204 0),(.int 0 0),(.ref 302),(.int 213 0),(.int 0 0),(.ref 309),(.int 222 0),(.int 0 0),(.ref 314),(.int 236 0),(.int 0 0),(.ref 319),(.int 253 0),(.int 0 0),(.ref 326)]),#[]⟩
noncomputable def o139:Obj:=⟨(.type "type"),none,(Data.cls ⟨"Seat",[(.type "object")],[(.ref 230),(.type "object")],229,"Seat",true,[],[],false,none,false⟩),#[none,none,(some (.str "Seat" 306)),(some (.str "Seat" 314)),(some (.builtin "object.__new__")),(some (.bool true))]⟩
noncomputable def o140:Obj:=⟨.none,none,(Data.fields #[(.int 1 0),(.int 0 0),(.ref 20),(.int 5 0),(.int 0 0),(.ref 27),(.int 7 0),(.int 0 0),(.ref 40),(.int 9 0),(.int 0 0),(.ref 52),(.int 11 0),(.int 0 0),(.ref 64)]),#[]⟩
noncomputable def o141:Obj:=⟨(.type "tuple"),none,(Data.seq #[(.str "_law_script" 574),(.str "_law_seats" 575),(.str "_law_ways" 576),(.str "_law_names_here" 577),(.str "_law_askers" 578),(.str "_law_cell" 579),(.str "_law_deeds_here" 580),(.str "_law_deed" 581),(.str "_law_name" 582),(.str "_law_told" 583)] 0),#[]⟩
noncomputable def o144:Obj:=⟨(.type "type"),none,(Data.cls ⟨"TreeError",[(.type "ValueError")],[(.ref 31),(.type "ValueError"),(.type "Exception"),(.type "BaseException"),(.type "object")],30,"TreeError",true,[],[(.ref 44)],false,none,false⟩),#[(some (.ref 22)),none,(some (.str "TreeError" 196)),(some (.str "TreeError" 204)),(some (.builtin "ValueError.__new__")),(some (.bool true))]⟩
noncomputable def o150:Obj:=⟨(.type "dict"),none,(Data.dict #[en P "__module__" 313 (.str "treeright.seats" 290),en P "__qualname__" 315 (.str "Seat" 314),en P "__firstlineno__" 317 (.int 29 316),en P "__init__" 325 (.ref 115),en P "arrow" 332 (.ref 122),en P "row" 339 (.ref 129),en P "inside" 346 (.ref 136),en P "has_asked" 353 (.ref 143),en P "askers" 360 (.ref 150),en P "crowd" 367 (.ref 157),en P "twin" 374 (.ref 164),en P "state" 381 (.ref 171),en P "settle" 389 (.ref 178),en P "want" 397 (.ref 185),en P "leave" 405 (.ref 192),en P "done" 413 (.ref 199),en P "ask" 421 (.ref 206),en P "come" 430 (.ref 213),en P "move_on" 437 (.ref 220),en P "serve_first" 447 (.ref 227),en P "__static_attributes__" 452 (.ref 228)] 21),#[]⟩
noncomputable def o163:Obj:=⟨(.type "getset_descriptor"),none,(Data.fields #[(.str "__dict__" 453),(.ref 230),(.builtin "function.__dict__"),(.builtin "function.__dict__#set")]),#[]⟩
noncomputable def o181:Obj:=⟨.none,none,(Data.fields #[(.int 1 0),(.int 0 0),(.ref 20),(.int 5 0),(.int 0 0),(.ref 27),(.int 7 0),(.int 0 0),(.ref 40),(.int 9 0),(.int 0 0),(.ref 52)]),#[]⟩
noncomputable def o187:Obj:=⟨.none,none,(Data.fields #[(.int 31 0),(.int 4 0),(.ref 114),(.int 39 0),(.int 4 0),(.ref 121),(.int 42 0),(.int 4 0),(.ref 128),(.int 45 0),(.int 4 0),(.ref 135),(.int 48 0),(.int 4 0),(.ref 142),(.int 51 0),(.int 4 0),(.ref 149),(.int 54 0),(.int 4 0),(.ref 156),(.int 57 0),(.int 4 0),(.ref 163),(.int 60 0),(.int 4 0),(.ref 170),(.int 63 0),(.int 4 0),(.ref 177),(.int 66 0),(.int 4 0),(.ref 184),(.int 73 0),(.int 4 0),(.ref 191),(.int 80 0),(.int 4 0),(.ref 198),(.int 87 0),(.int 4 0),(.ref 205),(.int 96 0),(.int 4 0),(.ref 212),(.int 108 0),(.int 4 0),(.ref 219),(.int 118 0),(.int 4 0),(.ref 226)]),#[]⟩
noncomputable def o190:Obj:=⟨(.type "dict"),none,(Data.dict #[en P "__module__" 313 (.str "treeright.seats" 290),en P "__qualname__" 315 (.str "Seat" 314),en P "__firstlineno__" 317 (.int 29 316),en P "__init__" 325 (.ref 115),en P "arrow" 332 (.ref 122),en P "row" 339 (.ref 129),en P "inside" 346 (.ref 136),en P "has_asked" 353 (.ref 143),en P "askers" 360 (.ref 150),en P "crowd" 367 (.ref 157),en P "twin" 374 (.ref 164),en P "state" 381 (.ref 171),en P "settle" 389 (.ref 178),en P "want" 397 (.ref 185)] 14),#[]⟩
noncomputable def o191:Obj:=⟨(.type "type"),none,(Data.cls ⟨"TreeError",[(.type "ValueError")],[(.ref 31),(.type "ValueError"),(.type "Exception"),(.type "BaseException"),(.type "object")],30,"TreeError",true,[],[],false,none,false⟩),#[(some (.ref 22)),none,(some (.str "TreeError" 196)),(some (.str "TreeError" 204)),(some (.builtin "ValueError.__new__")),(some (.bool true))]⟩
noncomputable def o195:Obj:=⟨(.type "dict"),none,(Data.dict #[en P "__name__" 165 (.str "treeright.errors" 194),en P "__doc__" 166 .none,en P "__package__" 167 .none,en P "__loader__" 168 (.builtin "__main__.__loader__#opaque"),en P "__spec__" 169 .none,en P "__annotations__" 170 (.ref 6),en P "__builtins__" 171 (.ref 4),en P "__file__" 173 (.str "/claim/cut.py" 172),en P "__cached__" 174 .none,en P "_wall" 193 (.ref 21),en P "TreeError" 213 (.ref 31),en P "NoHouse" 229 (.ref 44),en P "NoSeat" 245 (.ref 56)] 13),#[]⟩
noncomputable def o209:Obj:=⟨(.type "type"),none,(Data.cls ⟨"TreeError",[(.type "ValueError")],[(.ref 31),(.type "ValueError"),(.type "Exception"),(.type "BaseException"),(.type "object")],30,"TreeError",true,[],[(.ref 44),(.ref 56),(.ref 68),(.ref 80)],false,none,false⟩),#[(some (.ref 22)),none,(some (.str "TreeError" 196)),(some (.str "TreeError" 204)),(some (.builtin "ValueError.__new__")),(some (.bool true))]⟩
def q0:BT:=N o0 (N o209 (N o5 (J o162 (M o85)) (M o23)) (N o0 (J o5 (M o0)) (M o135))) (N o41 (N (o75 P) (J o42 (M o146)) (M o0)) (N o63 (J o0 (M o40)) (M o59)))
def q1:BT:=N o50 (N o5 (N o41 (J o25 (M o0)) (M o96)) (N o50 (J o93 (M o0)) (M o163))) (N (o183 P) (N o159 (J o0 (M o124)) (M o5)) (N o0 (J o14 (M o0)) (M o115)))
def q2:BT:=N o212 (N o41 (N (o142 P) (J o5 (M o0)) (M o28)) (N o101 (J o6 (M o145)) (M o132))) (N o5 (N o0 (J o0 (M o180)) (M o117)) (N o82 (J o0 (M o0)) (M o5)))
def q3:BT:=N o98 (N (o199 P) (N o5 (J o79 (M o120)) (M o0)) (N o100 (J o76 (M o0)) (M o0))) (N o41 (N o0 (J o53 (M o0)) (M o24)) (N o0 (J o5 (M o147)) (M o97)))
def q4:BT:=N o196 (N o174 (N o27 (J o31 (M o5)) (M o0)) (N o168 (J o0 (M o105)) (M o136))) (N (o137 P) (N o114 (J o5 (M o0)) (M o153)) (N o7 (J o156 (M o5)) (M o207)))
def q5:BT:=N o0 (N o134 (N (o122 P) (J o0 (M o56)) (M o5)) (N o0 (J o172 (M o128)) (M o91))) (N o169 (N o5 (J o60 (M o5)) (M o0)) (N o12 (J o171 (M o47)) (M o0)))
def q6:BT:=N o182 (N (o155 P) (N o80 (J o0 (M o106)) (M o39)) (N o103 (J o0 (M o5)) (M (o92 P)))) (N o88 (N o67 (J o197 (M o133)) (M o202)) (N o5 (J o113 (M o151)) (M o0)))
def q7:BT:=N o0 (N o206 (N o102 (J o62 (M o5)) (M o123)) (N o0 (J o5 (M o176)) (M o26))) (N (o160 P) (N o170 (J o22 (M o121)) (M o0)) (N o84 (M o0) (M o46)))
def q8:BT:=N (boot_o_1 P) (N (o95 P) (N (boot_o_7 P) (q0 P) (q1 P)) (N o0 (q2 P) (q3 P))) (N (boot_o_5 P) (N (boot_o_9 P) (q4 P) (q5 P)) (N o108 (q6 P) (q7 P)))
def q9:BT:=N o5 (N o69 (N o112 (J o32 (M o0)) (M o110)) (N o5 (J o72 (M o5)) (M o0))) (N o50 (N o148 (J o0 (M o186)) (M o5)) (N o0 (J o52 (M o0)) (M o35)))
def q10:BT:=N (o198 P) (N o90 (N o50 (J o189 (M o5)) (M o0)) (N (o150 P) (J o0 (M o203)) (M o45))) (N o193 (N o0 (J o5 (M o0)) (M o70)) (N o43 (J o68 (M o5)) (M o89)))
def q11:BT:=N o109 (N o50 (N o194 (J o38 (M o154)) (M o0)) (N o30 (J o111 (M o0)) (M o61))) (N o73 (N o5 (J o1 (M o0)) (M o179)) (N o0 (J o5 (M o21)) (M o157)))
def q12:BT:=N o86 (N o10 (N o185 (J o0 (M o0)) (M o208)) (N o9 (J o0 (M o5)) (M o5))) (N o50 (N o71 (J o20 (M o177)) (M o192)) (N o5 (M o127) (M o0)))
def q13:BT:=N o0 (N o29 (N o0 (J o0 (M o58)) (M o5)) (N o0 (J o78 (M o152)) (M o3))) (N o0 (N o129 (J o164 (M o5)) (M o0)) (N o201 (J o34 (M o149)) (M o0)))
def q14:BT:=N o5 (N o0 (N o0 (J o5 (M o184)) (M o178)) (N o187 (J o2 (M o204)) (M o77))) (N o49 (N o36 (J o0 (M o18)) (M o94)) (N o64 (J o0 (M o55)) (M o5)))
def q15:BT:=N o57 (N o0 (N o167 (J o51 (M o188)) (M o119)) (N o0 (J o5 (M o130)) (M o139))) (N o0 (N o74 (J o44 (M o205)) (M o0)) (N o99 (J o0 (M o11)) (M o200)))
def q16:BT:=N (o17 P) (N o158 (N o0 (J o83 (M o173)) (M o87)) (N o5 (J o126 (M o175)) (M o0))) (N o0 (N o211 (J o0 (M o210)) (M o5)) (N o0 (M o37) (M o143)))
def q17:BT:=N (boot_o_2 P) (N (boot_o_4 P) (N (boot_o_8 P) q9 (q10 P)) (N o48 q11 q12)) (N (boot_o_6 P) (N (boot_o_10 P) q13 q14) (N o54 q15 (q16 P)))
def t457 (P:Params):BT:=(N (boot_o_0 P) (q8 P) (q17 P))
def q18:BT:=N (o118 P) (N (boot_o_7 P) (J o0 (M o144)) (J o50 (M o5))) (N o0 (J o212 (M o41)) (J o98 (M (o199 P))))
def q19:BT:=N (boot_o_5 P) (N (boot_o_9 P) (J o196 (M o174)) (J o0 (M o134))) (N o108 (J o182 (M (o155 P))) (J o0 (M o206)))
def q20:BT:=N (boot_o_4 P) (N (boot_o_8 P) (J o5 (M o69)) (J (o198 P) (M o90))) (N o4 (J o109 (M o50)) (J o86 (M o10)))
def q21:BT:=N (boot_o_6 P) (N (boot_o_10 P) (J o0 (M o29)) (J o5 (M o0))) (N o54 (J o57 (M o0)) (J (o17 P) (M o158)))
def t85 (P:Params):BT:=(N (boot_o_0 P) (N (boot_o_1 P) (q18 P) (q19 P)) (N (boot_o_2 P) (q20 P) (q21 P)))
def q22:BT:=N (o195 P) (N (boot_o_7 P) (N o0 (M o125) (M o41)) (N o50 (M o5) (M (o183 P)))) (N o0 (N o212 (M o41) (M o5)) (J o98 (M (o199 P))))
def q23:BT:=N (boot_o_5 P) (N (boot_o_9 P) (N o196 (M o174) (M (o137 P))) (N o0 (M o134) (M o169))) (N o108 (N o182 (M (o155 P)) (M o88)) (J o0 (M o206)))
def q24:BT:=N (boot_o_4 P) (N (boot_o_8 P) (N o5 (M o69) (M o50)) (N (o198 P) (M o90) (M o193))) (N o181 (N o109 (M o50) (M o73)) (J o86 (M o10)))
def q25:BT:=N (boot_o_6 P) (N (boot_o_10 P) (N o0 (M o29) (M o0)) (N o5 (M o0) (M o49))) (N o54 (N o57 (M o0) (M o0)) (J (o17 P) (M o158)))
def t100 (P:Params):BT:=(N (boot_o_0 P) (N (boot_o_1 P) (q22 P) (q23 P)) (N (boot_o_2 P) (q24 P) (q25 P)))
def q26:BT:=N (o66 P) (N (boot_o_7 P) (N o0 (J o33 (M o5)) (M o41)) (N o50 (M o5) (M (o183 P)))) (N o0 (N o212 (J o41 (M (o142 P))) (M o5)) (N o98 (M (o199 P)) (M o41)))
def q27:BT:=N (boot_o_5 P) (N (boot_o_9 P) (N o196 (J o174 (M o27)) (M (o137 P))) (N o0 (M o134) (M o169))) (N o108 (N o182 (J (o155 P) (M o80)) (M o88)) (N o0 (M o206) (M (o160 P))))
def q28:BT:=N (boot_o_4 P) (N (boot_o_8 P) (N o5 (J o69 (M o112)) (M o50)) (N (o198 P) (M o90) (M o193))) (N o140 (N o109 (J o50 (M o194)) (M o73)) (N o86 (M o10) (M o50)))
def q29:BT:=N (boot_o_6 P) (N (boot_o_10 P) (N o0 (J o29 (M o0)) (M o0)) (N o5 (M o0) (M o49))) (N o54 (N o57 (J o0 (M o167)) (M o0)) (N (o17 P) (M o158) (M o0)))
def t115 (P:Params):BT:=(N (boot_o_0 P) (N (boot_o_1 P) (q26 P) (q27 P)) (N (boot_o_2 P) (q28 P) (q29 P)))
def e46_0 (P:Params) (t:List Obj):List Obj:=(boot_o_0 P) :: (boot_o_1 P) :: (boot_o_2 P) :: (boot_o_3 P) :: (boot_o_4 P) :: (boot_o_5 P) :: (boot_o_6 P) :: (boot_o_7 P) :: (boot_o_8 P) :: (boot_o_9 P) :: (boot_o_10 P) :: o0 :: o5 :: o108 :: o54 :: t
noncomputable def e46 (P:Params):Heap:=⟨⟨(e46_0 P [])⟩,⟨[],[],[],0,[],[],false,#[],[],0,false,false,false,0,[2000,10,10],false,0,true,[],[],0,false⟩⟩
def e472_0 (P:Params) (t:List Obj):List Obj:=(boot_o_0 P) :: (boot_o_1 P) :: (boot_o_2 P) :: (o16 P) :: (boot_o_4 P) :: (boot_o_5 P) :: (boot_o_6 P) :: (boot_o_7 P) :: (boot_o_8 P) :: (boot_o_9 P) :: (boot_o_10 P) :: o0 :: o138 :: o108 :: o54 :: t
def e472_1 (P:Params) (t:List Obj):List Obj:=o0 :: o5 :: o196 :: o0 :: o212 :: o109 :: o182 :: o57 :: o50 :: (o198 P) :: o0 :: o5 :: o98 :: o86 :: o0 :: t
def e472_2 (P:Params) (t:List Obj):List Obj:=(o17 P) :: o209 :: o69 :: o174 :: o29 :: o41 :: o50 :: (o155 P) :: o0 :: o5 :: o90 :: o134 :: o0 :: (o199 P) :: o10 :: t
def e472_3 (P:Params) (t:List Obj):List Obj:=o206 :: o158 :: o41 :: o50 :: (o137 P) :: o0 :: o5 :: o73 :: o88 :: o0 :: (o183 P) :: o193 :: o169 :: o49 :: o41 :: t
def e472_4 (P:Params) (t:List Obj):List Obj:=o50 :: (o160 P) :: o0 :: o5 :: o112 :: o27 :: o0 :: (o142 P) :: o194 :: o80 :: o167 :: o41 :: o50 :: (o122 P) :: o0 :: t
def e472_5 (P:Params) (t:List Obj):List Obj:=o5 :: o185 :: o102 :: o0 :: (o75 P) :: o148 :: o114 :: o129 :: o0 :: o5 :: o67 :: o74 :: o159 :: o0 :: o5 :: t
def e472_6 (P:Params) (t:List Obj):List Obj:=o36 :: o0 :: o71 :: o170 :: o211 :: o0 :: o5 :: o168 :: o0 :: o101 :: o30 :: o103 :: o0 :: o50 :: (o150 P) :: t
def e472_7 (P:Params) (t:List Obj):List Obj:=o0 :: o187 :: o100 :: o9 :: o0 :: o5 :: o63 :: o0 :: o7 :: o201 :: o82 :: o0 :: o5 :: o99 :: o0 :: t
def e472_8 (P:Params) (t:List Obj):List Obj:=o43 :: o12 :: o64 :: o0 :: o5 :: o84 :: o0 :: o162 :: o32 :: o31 :: o0 :: o5 :: o38 :: o0 :: o51 :: t
def e472_9 (P:Params) (t:List Obj):List Obj:=o25 :: o189 :: o0 :: o5 :: o79 :: o0 :: o62 :: o83 :: o42 :: o0 :: o5 :: o164 :: o0 :: o1 :: o197 :: t
def e472_10 (P:Params) (t:List Obj):List Obj:=o44 :: o0 :: o5 :: o60 :: o0 :: o53 :: o20 :: o22 :: o0 :: o5 :: o72 :: o0 :: o78 :: o6 :: o111 :: t
def e472_11 (P:Params) (t:List Obj):List Obj:=o0 :: o5 :: o93 :: o0 :: o172 :: o2 :: o76 :: o0 :: o5 :: o126 :: o0 :: o52 :: o156 :: o34 :: o0 :: t
def e472_12 (P:Params) (t:List Obj):List Obj:=o5 :: o113 :: o0 :: o14 :: o68 :: o171 :: o0 :: o5 :: o127 :: o0 :: o37 :: o23 :: o110 :: o0 :: o5 :: t
def e472_13 (P:Params) (t:List Obj):List Obj:=o28 :: o0 :: o39 :: o119 :: o96 :: o0 :: o5 :: o178 :: o0 :: o208 :: o123 :: o87 :: o0 :: o5 :: o153 :: t
def e472_14 (P:Params) (t:List Obj):List Obj:=o0 :: o117 :: o179 :: o202 :: o0 :: o5 :: o70 :: o0 :: o94 :: o24 :: o192 :: o0 :: o5 :: o135 :: o0 :: t
def e472_15 (P:Params) (t:List Obj):List Obj:=o136 :: o3 :: o132 :: o61 :: (o92 P) :: o139 :: o163 :: o45 :: o91 :: o77 :: o0 :: o5 :: o26 :: o0 :: o59 :: t
def e472_16 (P:Params) (t:List Obj):List Obj:=o35 :: o207 :: o0 :: o5 :: o157 :: o0 :: o200 :: o115 :: o89 :: o0 :: o5 :: o97 :: o0 :: o46 :: o143 :: t
def e472_17 (P:Params) (t:List Obj):List Obj:=o85 :: o0 :: o5 :: o58 :: o0 :: o154 :: o106 :: o188 :: o0 :: o5 :: o56 :: o184 :: o120 :: o0 :: o5 :: t
def e472_18 (P:Params) (t:List Obj):List Obj:=o173 :: o146 :: o186 :: o0 :: o5 :: o180 :: o0 :: o133 :: o205 :: o124 :: o0 :: o5 :: o18 :: o0 :: o177 :: t
def e472_19 (P:Params) (t:List Obj):List Obj:=o121 :: o210 :: o0 :: o5 :: o105 :: o152 :: o145 :: o0 :: o5 :: o130 :: o0 :: o203 :: o128 :: o204 :: o0 :: t
def e472_20 (P:Params) (t:List Obj):List Obj:=o5 :: o176 :: o175 :: o40 :: o0 :: o5 :: o149 :: o0 :: o21 :: o151 :: o11 :: o0 :: o5 :: o47 :: o55 :: t
def e472_21 (P:Params) (t:List Obj):List Obj:=o147 :: o0 :: o5 :: o104 :: o19 :: o116 :: o0 :: o5 :: o141 :: o0 :: o161 :: o166 :: o165 :: t
noncomputable def e472 (P:Params):Heap:=⟨⟨(e472_0 P (e472_1 P (e472_2 P (e472_3 P (e472_4 P (e472_5 P (e472_6 P (e472_7 P (e472_8 P (e472_9 P (e472_10 P (e472_11 P (e472_12 P (e472_13 P (e472_14 P (e472_15 P (e472_16 P (e472_17 P (e472_18 P (e472_19 P (e472_20 P (e472_21 P []))))))))))))))))))))))⟩,⟨[],[],[],0,[],[],false,#[],[],0,false,false,false,0,[2000,10,10],false,0,true,[],[],0,false⟩⟩
def q30:BT:=N (boot_o_7 P) (N o0 (N o209 (M o5) (M o0)) (J o41 (M (o75 P)))) (N o50 (J o5 (M o41)) (J (o183 P) (M o159)))
def q31:BT:=N o0 (N o212 (N o41 (M (o142 P)) (M o101)) (J o5 (M o0))) (N o98 (J (o199 P) (M o5)) (J o41 (M o0)))
def q32:BT:=N (boot_o_9 P) (N o196 (N o174 (M o27) (M o168)) (J (o137 P) (M o114))) (N o0 (J o134 (M (o122 P))) (J o169 (M o5)))
def q33:BT:=N o108 (N o182 (N (o155 P) (M o80) (M o103)) (J o88 (M o67))) (N o0 (J o206 (M o102)) (J (o160 P) (M o170)))
def q34:BT:=N (boot_o_8 P) (N o5 (N o69 (M o112) (M o5)) (J o50 (M o148))) (N (o198 P) (J o90 (M o50)) (J o193 (M o0)))
def q35:BT:=N o65 (N o109 (N o50 (M o194) (M o30)) (J o73 (M o5))) (N o86 (J o10 (M o185)) (J o50 (M o71)))
def q36:BT:=N (boot_o_10 P) (N o0 (N o29 (M o0) (M o0)) (J o0 (M o129))) (N o5 (J o0 (M o0)) (J o49 (M o36)))
def q37:BT:=N o54 (N o57 (J o0 (M o167)) (J o0 (M o74))) (N (o17 P) (J o158 (M o0)) (J o0 (M o211)))
def q38:BT:=N (boot_o_0 P) (N (boot_o_1 P) (N (o107 P) (q30 P) (q31 P)) (N (boot_o_5 P) (q32 P) (q33 P))) (N (boot_o_2 P) (N (boot_o_4 P) (q34 P) q35) (N (boot_o_6 P) (q36 P) (q37 P)))
def t149 (P:Params):BT:=(q38 P)
def q39:BT:=N o0 (N o209 (N o5 (M o162) (M o23)) (N o0 (M o5) (M o135))) (N o41 (N (o75 P) (M o42) (M o0)) (J o63 (M o0)))
def q40:BT:=N o50 (N o5 (N o41 (M o25) (M o96)) (N o50 (M o93) (M o163))) (N (o183 P) (N o159 (M o0) (M o5)) (J o0 (M o14)))
def q41:BT:=N o212 (N o41 (N (o142 P) (M o5) (M o28)) (N o101 (M o6) (M o132))) (N o5 (N o0 (M o0) (M o117)) (J o82 (M o0)))
def q42:BT:=N o98 (N (o199 P) (N o5 (M o79) (M o0)) (J o100 (M o76))) (N o41 (N o0 (M o53) (M o24)) (J o0 (M o5)))
def q43:BT:=N o196 (N o174 (N o27 (M o31) (M o0)) (N o168 (M o0) (M o136))) (N (o137 P) (N o114 (M o5) (M o153)) (J o7 (M o156)))
def q44:BT:=N o0 (N o134 (N (o122 P) (M o0) (M o5)) (N o0 (M o172) (M o91))) (N o169 (N o5 (M o60) (M o0)) (J o12 (M o171)))
def q45:BT:=N o182 (N (o155 P) (N o80 (M o0) (M o39)) (N o103 (M o0) (M (o92 P)))) (N o88 (N o67 (M o197) (M o202)) (J o5 (M o113)))
def q46:BT:=N o0 (N o206 (N o102 (M o62) (M o123)) (J o0 (M o5))) (N (o160 P) (N o170 (M o22) (M o0)) (J o84 (M o0)))
def q47:BT:=N (boot_o_1 P) (N (o131 P) (N (boot_o_7 P) (q39 P) (q40 P)) (N o0 (q41 P) (q42 P))) (N (boot_o_5 P) (N (boot_o_9 P) (q43 P) (q44 P)) (N o108 (q45 P) (q46 P)))
def q48:BT:=N o5 (N o69 (N o112 (M o32) (M o110)) (N o5 (M o72) (M o0))) (N o50 (N o148 (M o0) (M o5)) (J o0 (M o52)))
def q49:BT:=N (o198 P) (N o90 (N o50 (M o189) (M o0)) (N (o150 P) (M o0) (M o45))) (N o193 (N o0 (M o5) (M o70)) (J o43 (M o68)))
def q50:BT:=N o109 (N o50 (N o194 (M o38) (M o0)) (N o30 (M o111) (M o61))) (N o73 (N o5 (M o1) (M o179)) (J o0 (M o5)))
def q51:BT:=N o86 (N o10 (N o185 (M o0) (M o208)) (J o9 (M o0))) (N o50 (N o71 (M o20) (M o192)) (J o5 (M o127)))
def q52:BT:=N o0 (N o29 (N o0 (M o0) (M o5)) (N o0 (M o78) (M o3))) (N o0 (N o129 (M o164) (M o0)) (J o201 (M o34)))
def q53:BT:=N o5 (N o0 (N o0 (M o5) (M o178)) (N o187 (M o2) (M o77))) (N o49 (N o36 (M o0) (M o94)) (J o64 (M o0)))
def q54:BT:=N o57 (N o0 (N o167 (M o51) (M o119)) (N o0 (M o5) (M o139))) (N o0 (N o74 (M o44) (M o0)) (J o99 (M o0)))
def q55:BT:=N (o17 P) (N o158 (N o0 (M o83) (M o87)) (J o5 (M o126))) (N o0 (N o211 (M o0) (M o5)) (J o0 (M o37)))
def q56:BT:=N (boot_o_2 P) (N (boot_o_4 P) (N (boot_o_8 P) q48 (q49 P)) (N o15 q50 q51)) (N (boot_o_6 P) (N (boot_o_10 P) q52 q53) (N o54 q54 (q55 P)))
def t284 (P:Params):BT:=(N (boot_o_0 P) (q47 P) (q56 P))
def q57:BT:=N o209 (N o5 (J o162 (M o85)) (J o23 (M o19))) (N o0 (J o5 (M o0)) (M o135))
def q58:BT:=N o0 q57 (N o41 (N (o75 P) (J o42 (M o146)) (M o0)) (N o63 (J o0 (M o40)) (M o59)))
def q59:BT:=N o5 (N o41 (J o25 (M o0)) (J o96 (M o165))) (N o50 (J o93 (M o0)) (M o163))
def q60:BT:=N o50 q59 (N (o183 P) (N o159 (J o0 (M o124)) (M o5)) (N o0 (J o14 (M o0)) (M o115)))
def q61:BT:=N o41 (N (o142 P) (J o5 (M o0)) (J o28 (M o141))) (N o101 (J o6 (M o145)) (M o132))
def q62:BT:=N o212 (q61 P) (N o5 (N o0 (J o0 (M o180)) (M o117)) (N o82 (J o0 (M o0)) (M o5)))
def q63:BT:=N o174 (N o27 (J o31 (M o5)) (J o0 (M o0))) (N o168 (J o0 (M o105)) (M o136))
def q64:BT:=N o196 q63 (N (o137 P) (N o114 (J o5 (M o0)) (M o153)) (N o7 (J o156 (M o5)) (M o207)))
def q65:BT:=N (o155 P) (N o80 (J o0 (M o106)) (J o39 (M o161))) (N o103 (J o0 (M o5)) (M (o92 P)))
def q66:BT:=N o182 (q65 P) (N o88 (N o67 (J o197 (M o133)) (M o202)) (N o5 (J o113 (M o151)) (M o0)))
def q67:BT:=N o0 (N o206 (N o102 (J o62 (M o5)) (M o123)) (N o0 (J o5 (M o176)) (M o26))) (N (o160 P) (N o170 (J o22 (M o121)) (M o0)) (N o84 (J o0 (M o5)) (M o46)))
def q68:BT:=N (boot_o_1 P) (N (o16 P) (N (boot_o_7 P) (q58 P) (q60 P)) (N o0 (q62 P) (q3 P))) (N (boot_o_5 P) (N (boot_o_9 P) (q64 P) (q5 P)) (N o108 (q66 P) (q67 P)))
def q69:BT:=N o69 (N o112 (J o32 (M o0)) (J o110 (M o116))) (N o5 (J o72 (M o5)) (M o0))
def q70:BT:=N o5 q69 (N o50 (N o148 (J o0 (M o186)) (M o5)) (N o0 (J o52 (M o0)) (M o35)))
def q71:BT:=N o50 (N o194 (J o38 (M o154)) (J o0 (M o0))) (N o30 (J o111 (M o0)) (M o61))
def q72:BT:=N o109 q71 (N o73 (N o5 (J o1 (M o0)) (M o179)) (N o0 (J o5 (M o21)) (M o157)))
def q73:BT:=N o86 (N o10 (N o185 (J o0 (M o0)) (M o208)) (N o9 (J o0 (M o5)) (M o5))) (N o50 (N o71 (J o20 (M o177)) (M o192)) (N o5 (J o127 (M o0)) (M o0)))
def q74:BT:=N o29 (N o0 (J o0 (M o58)) (J o5 (M o5))) (N o0 (J o78 (M o152)) (M o3))
def q75:BT:=N o0 q74 (N o0 (N o129 (J o164 (M o5)) (M o0)) (N o201 (J o34 (M o149)) (M o0)))
def q76:BT:=N o0 (N o167 (J o51 (M o188)) (J o119 (M o166))) (N o0 (J o5 (M o130)) (M o139))
def q77:BT:=N o57 q76 (N o0 (N o74 (J o44 (M o205)) (M o0)) (N o99 (J o0 (M o11)) (M o200)))
def q78:BT:=N (o17 P) (N o158 (N o0 (J o83 (M o173)) (M o87)) (N o5 (J o126 (M o175)) (M o0))) (N o0 (N o211 (J o0 (M o210)) (M o5)) (N o0 (J o37 (M o104)) (M o143)))
def q79:BT:=N (boot_o_2 P) (N (boot_o_4 P) (N (boot_o_8 P) q70 (q10 P)) (N o138 q72 q73)) (N (boot_o_6 P) (N (boot_o_10 P) q75 q14) (N o54 q77 (q78 P)))
def t471 (P:Params):BT:=(N (boot_o_0 P) (q68 P) (q79 P))
def q80:BT:=N (boot_o_1 P) (N (o81 P) (N (boot_o_7 P) (J o0 (M o191)) (M o50)) (N o0 (M o212) (M o98))) (N (boot_o_5 P) (N (boot_o_9 P) (J o196 (M o174)) (M o0)) (N o108 (M o182) (M o0)))
def q81:BT:=N (boot_o_2 P) (N (boot_o_4 P) (N (boot_o_8 P) (J o5 (M o69)) (M (o198 P))) (N o8 (M o109) (M o86))) (N (boot_o_6 P) (N (boot_o_10 P) (J o0 (M o29)) (M o5)) (N o54 (M o57) (M (o17 P))))
def t70 (P:Params):BT:=(N (boot_o_0 P) (q80 P) (q81 P))
def q82:BT:=N (boot_o_0 P) (N (boot_o_1 P) (N (boot_o_3 P) (M (boot_o_7 P)) (M o0)) (N (boot_o_5 P) (M (boot_o_9 P)) (M o108))) (N (boot_o_2 P) (N (boot_o_4 P) (M (boot_o_8 P)) (M o5)) (N (boot_o_6 P) (M (boot_o_10 P)) (M o54)))
def t47 (P:Params):BT:=(q82 P)
def q83:BT:=N o0 (N o209 (J o5 (M o162)) (J o0 (M o5))) (N o41 (J (o75 P) (M o42)) (J o63 (M o0)))
def q84:BT:=N o50 (N o5 (J o41 (M o25)) (J o50 (M o93))) (N (o183 P) (J o159 (M o0)) (J o0 (M o14)))
def q85:BT:=N o212 (N o41 (J (o142 P) (M o5)) (J o101 (M o6))) (N o5 (J o0 (M o0)) (J o82 (M o0)))
def q86:BT:=N o98 (N (o199 P) (J o5 (M o79)) (J o100 (M o76))) (N o41 (J o0 (M o53)) (J o0 (M o5)))
def q87:BT:=N o196 (N o174 (J o27 (M o31)) (J o168 (M o0))) (N (o137 P) (J o114 (M o5)) (J o7 (M o156)))
def q88:BT:=N o0 (N o134 (J (o122 P) (M o0)) (J o0 (M o172))) (N o169 (J o5 (M o60)) (J o12 (M o171)))
def q89:BT:=N o182 (N (o155 P) (J o80 (M o0)) (J o103 (M o0))) (N o88 (J o67 (M o197)) (J o5 (M o113)))
def q90:BT:=N o0 (N o206 (J o102 (M o62)) (J o0 (M o5))) (N (o160 P) (J o170 (M o22)) (M o84))
def q91:BT:=N (boot_o_1 P) (N (o107 P) (N (boot_o_7 P) (q83 P) (q84 P)) (N o0 (q85 P) (q86 P))) (N (boot_o_5 P) (N (boot_o_9 P) (q87 P) (q88 P)) (N o108 (q89 P) (q90 P)))
def q92:BT:=N o5 (N o69 (J o112 (M o32)) (J o5 (M o72))) (N o50 (J o148 (M o0)) (J o0 (M o52)))
def q93:BT:=N (o198 P) (N o90 (J o50 (M o189)) (J (o190 P) (M o0))) (N o193 (J o0 (M o5)) (J o43 (M o68)))
def q94:BT:=N o109 (N o50 (J o194 (M o38)) (J o30 (M o111))) (N o73 (J o5 (M o1)) (J o0 (M o5)))
def q95:BT:=N o86 (N o10 (J o185 (M o0)) (J o9 (M o0))) (N o50 (J o71 (M o20)) (M o5))
def q96:BT:=N o0 (N o29 (J o0 (M o0)) (J o0 (M o78))) (N o0 (J o129 (M o164)) (J o201 (M o34)))
def q97:BT:=N o5 (N o0 (J o0 (M o5)) (J o13 (M o2))) (N o49 (J o36 (M o0)) (J o64 (M o0)))
def q98:BT:=N o57 (N o0 (J o167 (M o51)) (J o0 (M o5))) (N o0 (J o74 (M o44)) (J o99 (M o0)))
def q99:BT:=N (o17 P) (N o158 (J o0 (M o83)) (J o5 (M o126))) (N o0 (J o211 (M o0)) (M o0))
def q100:BT:=N (boot_o_2 P) (N (boot_o_4 P) (N (boot_o_8 P) q92 (q93 P)) (N o15 q94 q95)) (N (boot_o_6 P) (N (boot_o_10 P) q96 q97) (N o54 q98 (q99 P)))
def t371 (P:Params):BT:=(N (boot_o_0 P) (q91 P) (q100 P))
def vw:Program:=PySem.W.view PySem.Challenge.pw_treeright_k16_whole_one_right_among_seat [0,2,3,4,5,6,8,9,10,12,13,14,16,17,18,19,20,21,22,23,24,25,26,27,28,29,30]
noncomputable def s49:List Stmt:=(PySem.Challenge.pw_treeright_k16_whole_one_right_among_seat.main.body.drop 0).take 3
noncomputable def s71:List Stmt:=(PySem.Challenge.pw_treeright_k16_whole_one_right_among_seat.main.body.drop 3).take 1
noncomputable def s86:List Stmt:=(PySem.Challenge.pw_treeright_k16_whole_one_right_among_seat.main.body.drop 4).take 1
noncomputable def s101:List Stmt:=(PySem.Challenge.pw_treeright_k16_whole_one_right_among_seat.main.body.drop 5).take 1
noncomputable def s116:List Stmt:=(PySem.Challenge.pw_treeright_k16_whole_one_right_among_seat.main.body.drop 6).take 8
noncomputable def s150:List Stmt:=(PySem.Challenge.pw_treeright_k16_whole_one_right_among_seat.main.body.drop 14).take 1
noncomputable def s375:List Stmt:=(PySem.Challenge.pw_treeright_k16_whole_one_right_among_seat.main.body.drop 15).take 14
noncomputable def s458:List Stmt:=(PySem.Challenge.pw_treeright_k16_whole_one_right_among_seat.main.body.drop 29).take 2
end HD
end
namespace PySem.W.Fast
noncomputable def tw14598715356260435866:Unit:=()
noncomputable def tw12831946366807014121:Unit:=()
noncomputable def tw2505294214074580061:Unit:=()
noncomputable def tw1184825839854068080:Unit:=()
noncomputable def tw16963627058361203756:Unit:=()
noncomputable def tw4063309880790847132:Unit:=()
noncomputable def tw16335552587211677449:Unit:=()
noncomputable def tw1921148480499289173:Unit:=()
noncomputable def tw8219606844568596651:Unit:=()
noncomputable def tw1564543192828473526:Unit:=()
noncomputable def tw9434032782923581289:Unit:=()
noncomputable def tw3094701115853657799:Unit:=()
end PySem.W.Fast
lay_quick PySem.Challenge.pw_treeright_k16_whole_one_right_among_seat
lay_quick HD.t457
lay_quick HD.t85
lay_quick HD.t100
lay_quick HD.t115
lay_quick HD.e46
lay_quick HD.e472
lay_quick HD.t149
lay_quick HD.t284
lay_quick HD.t471
lay_quick HD.t70
lay_quick HD.t47
lay_quick HD.t371
namespace PySem.W.Fast
noncomputable def tw12948808024399915586:Params->BT:=tw16711115352406522209
theorem te12948808024399915586:HD.t457=tw12948808024399915586:=te16711115352406522209
noncomputable def tw2294854397974045510:Params->BT:=tw2036878166784380086
theorem te2294854397974045510:HD.t85=tw2294854397974045510:=te2036878166784380086
noncomputable def tw17546005709695080877:Params->BT:=tw11108817263175320385
theorem te17546005709695080877:HD.t100=tw17546005709695080877:=te11108817263175320385
noncomputable def tw15632388027458123374:Params->BT:=tw13006058816851964647
theorem te15632388027458123374:HD.t115=tw15632388027458123374:=te13006058816851964647
noncomputable def tw2257529940240947247:Params->Heap:=tw12643942650068612825
theorem te2257529940240947247:HD.e46=tw2257529940240947247:=te12643942650068612825
noncomputable def tw10688114361080839663:Params->Heap:=tw17096475164428201682
theorem te10688114361080839663:HD.e472=tw10688114361080839663:=te17096475164428201682
noncomputable def tw6513688561603925361:Params->BT:=tw7428816178349392936
theorem te6513688561603925361:HD.t149=tw6513688561603925361:=te7428816178349392936
noncomputable def tw11856200265167463893:Params->BT:=tw14671856185471697601
theorem te11856200265167463893:HD.t284=tw11856200265167463893:=te14671856185471697601
noncomputable def tw3999982370998549496:Params->BT:=tw780447593515189172
theorem te3999982370998549496:HD.t471=tw3999982370998549496:=te780447593515189172
noncomputable def tw877418901244307835:Params->BT:=tw4601978763475442059
theorem te877418901244307835:HD.t70=tw877418901244307835:=te4601978763475442059
noncomputable def tw804092199982636349:Params->BT:=tw12288697002581643564
theorem te804092199982636349:HD.t47=tw804092199982636349:=te12288697002581643564
noncomputable def tw9650526208049796511:Params->BT:=tw12787198850547477117
theorem te9650526208049796511:HD.t371=tw9650526208049796511:=te12787198850547477117
noncomputable def tw1647960591809683682:PySem.Program:=PySem.W.view tw11810108078197976970 [0,2,3,4,5,6,8,9,10,12,13,14,16,17,18,19,20,21,22,23,24,25,26,27,28,29,30]
theorem te1647960591809683682:HD.vw=tw1647960591809683682:=congrArg (fun p:PySem.Program=>PySem.W.view p [0,2,3,4,5,6,8,9,10,12,13,14,16,17,18,19,20,21,22,23,24,25,26,27,28,29,30]) te11810108078197976970
noncomputable def tw16970792351503237766:List PySem.Stmt:=(tw11810108078197976970.main.body.drop 0).take 3
theorem te16970792351503237766:HD.s49=tw16970792351503237766:=congrArg (fun p:PySem.Program=>(p.main.body.drop 0).take 3) te11810108078197976970
noncomputable def tw7766378276201275438:List PySem.Stmt:=(tw11810108078197976970.main.body.drop 3).take 1
theorem te7766378276201275438:HD.s71=tw7766378276201275438:=congrArg (fun p:PySem.Program=>(p.main.body.drop 3).take 1) te11810108078197976970
noncomputable def tw9305391788130653963:List PySem.Stmt:=(tw11810108078197976970.main.body.drop 4).take 1
theorem te9305391788130653963:HD.s86=tw9305391788130653963:=congrArg (fun p:PySem.Program=>(p.main.body.drop 4).take 1) te11810108078197976970
noncomputable def tw12673549619886724666:List PySem.Stmt:=(tw11810108078197976970.main.body.drop 5).take 1
theorem te12673549619886724666:HD.s101=tw12673549619886724666:=congrArg (fun p:PySem.Program=>(p.main.body.drop 5).take 1) te11810108078197976970
noncomputable def tw14763428746477059428:List PySem.Stmt:=(tw11810108078197976970.main.body.drop 6).take 8
theorem te14763428746477059428:HD.s116=tw14763428746477059428:=congrArg (fun p:PySem.Program=>(p.main.body.drop 6).take 8) te11810108078197976970
noncomputable def tw8281889942082941396:List PySem.Stmt:=(tw11810108078197976970.main.body.drop 14).take 1
theorem te8281889942082941396:HD.s150=tw8281889942082941396:=congrArg (fun p:PySem.Program=>(p.main.body.drop 14).take 1) te11810108078197976970
noncomputable def tw2459229049435363726:List PySem.Stmt:=(tw11810108078197976970.main.body.drop 15).take 14
theorem te2459229049435363726:HD.s375=tw2459229049435363726:=congrArg (fun p:PySem.Program=>(p.main.body.drop 15).take 14) te11810108078197976970
noncomputable def tw14766125268987752941:List PySem.Stmt:=(tw11810108078197976970.main.body.drop 29).take 2
theorem te14766125268987752941:HD.s458=tw14766125268987752941:=congrArg (fun p:PySem.Program=>(p.main.body.drop 29).take 2) te11810108078197976970
end PySem.W.Fast
open_top head for PySem.Challenge.rw_treeright_k16_whole_one_right_among_seat
end
namespace K16
open PySem L2
def FnK (K:PySem.W.Frag) (n q:Str) (st:Stmt) (f:Addr):Prop:=∃ (od an:Option Addr) (sl:Array (Option Value)) (oc kV dc pm cd ct:Value),K.lookup f=some ⟨oc,od,.func (PySem.W.fnOf n q (y4 st) (yW st) (zG st) .none kV dc pm an cd ct),sl⟩/\PySem.W.codeIn K cd q=true/\PySem.W.keepIn K (.ref f)=true
def FgK (K:PySem.W.Frag) (n:Str) (st:Stmt):Prop:=∃ f,PySem.W.nsIn K mainGlobals n=some (some (.ref f))/\FnK K n n st f
def MtK (K:PySem.W.Frag) (C:Addr) (n q:Str) (st:Stmt):Prop:=∃ f,PySem.W.findIn K (.ref C) n=some (some (.ref f))/\PySem.W.isFn K (.ref f)=true/\FnK K n q st f
theorem yV {K:PySem.W.Frag} {h:Heap} {mg:Str->Option Value} {n:Str} {st:Stmt} {ps:List Str} (X:K.In h) (G:h.Ns mainGlobals mg) (l:FgK K n st)
  (hb:∀ (kV doc pm:Value) (an:Option Addr) (cdv ct:Value) (us:List Value),us.length=ps.length->bindArgs (PySem.W.fnOf n n (y4 st) (yW st) (zG st) .none kV doc pm an cdv ct) ⟨us,[]⟩=pure (ps.zip us)):y1 K mg n st ps:=by
 obtain ⟨f,a,od,an,sl,oc,kV,dc,pm,cd,ct,l,c,k⟩:=l
 exact cD X G a l c k hb
theorem xM {K:PySem.W.Frag} {C:Addr} {n q:Str} {st:Stmt} {ps:List Str} (l:MtK K C n q st)
  (hb:∀ (kV doc pm:Value) (an:Option Addr) (cdv ct:Value) (us:List Value),us.length=ps.length->bindArgs (PySem.W.fnOf n q (y4 st) (yW st) (zG st) .none kV doc pm an cdv ct) ⟨us,[]⟩=pure (ps.zip us)):xW K C n q st ps:=by
 obtain ⟨f,a,i,od,an,sl,oc,kV,dc,pm,cd,ct,l,c,k⟩:=l
 exact dS a i l c k hb
structure ClK (K:PySem.W.Frag) (n:Str) (C:Addr):Prop where
 a:PySem.W.nsIn K mainGlobals n=some (some (.ref C))
 pg:PySem.W.plainGet K C Str.empty=true
 hd:PySem.W.hasDictIn K C=true
 po:PySem.W.plainOver K C=true
 sa:PySem.W.findIn K (.ref C) "__setattr__"=some (some (.builtin "object.__setattr__"))
 ms:PySem.W.makesIn K C=true
 kc:PySem.W.keepIn K (.ref C)=true
theorem all_mk {l:PySem.W.OpenLaw} {w:World} {K:PySem.W.Frag} {h:Heap} {mg:Str->Option Value} {fa:Addr} (X:K.In h) (G:h.Ns mainGlobals mg) (hfa:mg "law"=some (.ref fa))
  {fL:Addr} {C:Addr} {t_LETTERS:Tok} {t_LONGEST_NAME:Tok}
  (l0:FgK K "is_name" pR)
  (l1:FgK K "check_asker" lQ)
  (l2:FgK K "check_house" lP)
  (l3:FgK K "_law_cell_at" lR)
  (l4:FgK K "_law_mixed" qG)
  (l5:FgK K "_law_digits" tY)
  (l6:FgK K "_law_next" lJ)
  (l7:FgK K "_law_names" uV)
  (l8:FgK K "_law_made" sMd)
  (l9:FgK K "_law_sent" lI)
  (l10:FgK K "_law_come" sCm)
  (l11:FgK K "_law_deeds" sDs)
  (l12:FgK K "_law_put" sPu)
  (l13:FgK K "_law_asked_rightly" sAR)
  (l14:FgK K "_law_leads" sLe)
  (l15:FgK K "_law_stands" sSt)
  (l16:FgK K "_law_all_given" sAG)
  (aL:PySem.W.nsIn K mainGlobals "law"=some (some (.ref fL))) (lL:FnK K "law" "law" sLw fL)
  (k_C:ClK K "Seat" C)
  (mC0:MtK K C "__init__" "Seat.__init__" lM)
  (mC1:MtK K C "arrow" "Seat.arrow" qI)
  (mC2:MtK K C "row" "Seat.row" eW)
  (mC3:MtK K C "inside" "Seat.inside" tX)
  (mC4:MtK K C "has_asked" "Seat.has_asked" eX)
  (mC5:MtK K C "want" "Seat.want" lH)
  (mC6:MtK K C "leave" "Seat.leave" qH)
  (mC7:MtK K C "done" "Seat.done" lN)
  (mC8:MtK K C "ask" "Seat.ask" eY)
  (mC9:MtK K C "come" "Seat.come" lO)
  (mC10:MtK K C "move_on" "Seat.move_on" lK)
  (mC11:MtK K C "serve_first" "Seat.serve_first" qF)
  (n_C_pointer:PySem.W.findIn K (.ref C) "pointer"=some none)
  (n_C_waiting:PySem.W.findIn K (.ref C) "waiting"=some none)
  (n_C_holder:PySem.W.findIn K (.ref C) "holder"=some none)
  (n_C_asked:PySem.W.findIn K (.ref C) "asked"=some none)
  (z_isinstance:PySem.W.nsIn K mainGlobals "isinstance"=some none)
  (z_str:PySem.W.nsIn K mainGlobals "str"=some none)
  (z_int:PySem.W.nsIn K mainGlobals "int"=some none)
  (z_bool:PySem.W.nsIn K mainGlobals "bool"=some none)
  (z_len:PySem.W.nsIn K mainGlobals "len"=some none)
  (z_all:PySem.W.nsIn K mainGlobals "all"=some none)
  (z_range:PySem.W.nsIn K mainGlobals "range"=some none)
  (z_list:PySem.W.nsIn K mainGlobals "list"=some none)
  (z_sorted:PySem.W.nsIn K mainGlobals "sorted"=some none)
  (g_LETTERS:PySem.W.nsIn K mainGlobals "LETTERS"=some (some (.str "abcdefghijklmnopqrstuvwxyz" t_LETTERS)))
  (g_LONGEST_NAME:PySem.W.nsIn K mainGlobals "LONGEST_NAME"=some (some (.int 8 t_LONGEST_NAME))) :
  ∃ fd:FuncData,(∀ (s:Shared) (v:Value),BindsTo s fd ⟨[v],[]⟩ [("_law_script",v)])/\∀ base:Heap,K.In base->base.Ns mainGlobals mg->vJ l.prog w K mg base CX0 7 fa fd ["_law_script"] (lF K):=by
 have e:=hfa.symm.trans (PySem.W.mg_of X G aL)
 cases e
 obtain ⟨od,an,sl,oc,kV,dc,pm,cd,ct,lL,cL,kL⟩:=lL
 have GI:y1 K mg "is_name" pR ["thing"]:=yV X G l0 (fun _ _ _ _ _ _ us hl=>match us,hl with | [_],_=>rfl)
 have GCA:y1 K mg "check_asker" lQ ["asker"]:=yV X G l1 (fun _ _ _ _ _ _ us hl=>match us,hl with | [_],_=>rfl)
 have GCH:y1 K mg "check_house" lP ["house"]:=yV X G l2 (fun _ _ _ _ _ _ us hl=>match us,hl with | [_],_=>rfl)
 have GC:y1 K mg "_law_cell_at" lR ["_law_script","_law_k"]:=yV X G l3 (fun _ _ _ _ _ _ us hl=>match us,hl with | [_,_],_=>rfl)
 have GM:y1 K mg "_law_mixed" qG ["_law_cell","_law_k"]:=yV X G l4 (fun _ _ _ _ _ _ us hl=>match us,hl with | [_,_],_=>rfl)
 have GD:y1 K mg "_law_digits" tY ["_law_cell"]:=yV X G l5 (fun _ _ _ _ _ _ us hl=>match us,hl with | [_],_=>rfl)
 have GN:y1 K mg "_law_next" lJ ["_law_source","_law_many"]:=yV X G l6 (fun _ _ _ _ _ _ us hl=>match us,hl with | [_,_],_=>rfl)
 have GNa:y1 K mg "_law_names" uV ["_law_source","_law_many"]:=yV X G l7 (fun _ _ _ _ _ _ us hl=>match us,hl with | [_,_],_=>rfl)
 have GMd:y1 K mg "_law_made" sMd ["_law_script"]:=yV X G l8 (fun _ _ _ _ _ _ us hl=>match us,hl with | [_],_=>rfl)
 have GSe:y1 K mg "_law_sent" lI ["_law_ways","_law_name","_law_told"]:=yV X G l9 (fun _ _ _ _ _ _ us hl=>match us,hl with | [_,_,_],_=>rfl)
 have GCm:y1 K mg "_law_come" sCm ["_law_seats","_law_ways","_law_way"]:=yV X G l10 (fun _ _ _ _ _ _ us hl=>match us,hl with | [_,_,_],_=>rfl)
 have GDs:y1 K mg "_law_deeds" sDs ["_law_seats","_law_ways","_law_askers"]:=yV X G l11 (fun _ _ _ _ _ _ us hl=>match us,hl with | [_,_,_],_=>rfl)
 have GPu:y1 K mg "_law_put" sPu ["_law_seats","_law_ways","_law_deed"]:=yV X G l12 (fun _ _ _ _ _ _ us hl=>match us,hl with | [_,_,_],_=>rfl)
 have GAR:y1 K mg "_law_asked_rightly" sAR ["_law_seats","_law_ways","_law_name","_law_going"]:=yV X G l13 (fun _ _ _ _ _ _ us hl=>match us,hl with | [_,_,_,_],_=>rfl)
 have GLe:y1 K mg "_law_leads" sLe ["_law_seats","_law_name","_law_going"]:=yV X G l14 (fun _ _ _ _ _ _ us hl=>match us,hl with | [_,_,_],_=>rfl)
 have GSt:y1 K mg "_law_stands" sSt ["_law_seats","_law_ways"]:=yV X G l15 (fun _ _ _ _ _ _ us hl=>match us,hl with | [_,_],_=>rfl)
 have GAG:y1 K mg "_law_all_given" sAG ["_law_seats","_law_ways"]:=yV X G l16 (fun _ _ _ _ _ _ us hl=>match us,hl with | [_,_],_=>rfl)
 have FL:=tD (st:=sLw) lL cL kL
 have cl_C:Cls K C:=⟨k_C.pg,k_C.hd,k_C.po,k_C.sa⟩
 obtain ⟨fiC,aiC,iiC,_,_,_,_,_,_,_,_,_,liC,ciC,kiC⟩:=mC0
 have mIF:=tD (st:=lM) liC ciC kiC
 have mIB:=mIF.binds (ps:=["self","arrow"]) (fun _ _ _ _ _ _ us hl=>match us,hl with | [_,_],_=>rfl)
 have mIM:Mk K C fiC:=⟨k_C.ms,aiC,iiC,k_C.kc⟩
 have mA:xW K C "arrow" "Seat.arrow" qI ["self"]:=xM mC1 (fun _ _ _ _ _ _ us hl=>match us,hl with | [_],_=>rfl)
 have mR:xW K C "row" "Seat.row" eW ["self"]:=xM mC2 (fun _ _ _ _ _ _ us hl=>match us,hl with | [_],_=>rfl)
 have mIn:xW K C "inside" "Seat.inside" tX ["self"]:=xM mC3 (fun _ _ _ _ _ _ us hl=>match us,hl with | [_],_=>rfl)
 have mH:xW K C "has_asked" "Seat.has_asked" eX ["self"]:=xM mC4 (fun _ _ _ _ _ _ us hl=>match us,hl with | [_],_=>rfl)
 have mW:xW K C "want" "Seat.want" lH ["self","asker"]:=xM mC5 (fun _ _ _ _ _ _ us hl=>match us,hl with | [_,_],_=>rfl)
 have mL:xW K C "leave" "Seat.leave" qH ["self","asker"]:=xM mC6 (fun _ _ _ _ _ _ us hl=>match us,hl with | [_,_],_=>rfl)
 have mD:xW K C "done" "Seat.done" lN ["self","asker"]:=xM mC7 (fun _ _ _ _ _ _ us hl=>match us,hl with | [_,_],_=>rfl)
 have mK:xW K C "ask" "Seat.ask" eY ["self","house"]:=xM mC8 (fun _ _ _ _ _ _ us hl=>match us,hl with | [_,_],_=>rfl)
 have mC:xW K C "come" "Seat.come" lO ["self","house","back"]:=xM mC9 (fun _ _ _ _ _ _ us hl=>match us,hl with | [_,_,_],_=>rfl)
 have mM:xW K C "move_on" "Seat.move_on" lK ["self"]:=xM mC10 (fun _ _ _ _ _ _ us hl=>match us,hl with | [_],_=>rfl)
 have mS:xW K C "serve_first" "Seat.serve_first" qF ["self"]:=xM mC11 (fun _ _ _ _ _ _ us hl=>match us,hl with | [_],_=>rfl)
 have mg_C:=PySem.W.mg_of X G k_C.a
 have b_isinstance:Blt mg "isinstance":=⟨PySem.W.mg_none_of X G z_isinstance⟩
 have b_str:Blt mg "str":=⟨PySem.W.mg_none_of X G z_str⟩
 have b_int:Blt mg "int":=⟨PySem.W.mg_none_of X G z_int⟩
 have b_bool:Blt mg "bool":=⟨PySem.W.mg_none_of X G z_bool⟩
 have b_len:Blt mg "len":=⟨PySem.W.mg_none_of X G z_len⟩
 have b_all:Blt mg "all":=⟨PySem.W.mg_none_of X G z_all⟩
 have b_range:Blt mg "range":=⟨PySem.W.mg_none_of X G z_range⟩
 have b_list:Blt mg "list":=⟨PySem.W.mg_none_of X G z_list⟩
 have b_sorted:Blt mg "sorted":=⟨PySem.W.mg_none_of X G z_sorted⟩
 have gl_LETTERS:Glo mg "LETTERS" (.str abc):=⟨_,PySem.W.mg_of X G g_LETTERS,⟨_,rfl⟩⟩
 have gl_LONGEST_NAME:Glo mg "LONGEST_NAME" (.int 8):=⟨_,PySem.W.mg_of X G g_LONGEST_NAME,⟨_,rfl⟩⟩
 refine ⟨PySem.W.fnOf "law" "law" (y4 sLw) (yW sLw) (zG sLw) .none kV dc pm an cd ct,fun s v=>.of_eq rfl,fun base _ _=>?_⟩
 have T:xE K C:=⟨cl_C,n_C_pointer,n_C_waiting,n_C_holder,n_C_asked⟩
 have CI:=zAA (P:=l.prog) (w:=w) (base:=base) GI b_isinstance b_str b_len b_all gl_LETTERS gl_LONGEST_NAME
 have CCA:=zAG GCA CI
 have CCH:=zAF GCH CI
 have MS:=dL (P:=l.prog) (w:=w) (mg:=mg) (base:=base) T mS b_len
 have MM:=zAB T mM MS
 have MA:=dP (P:=l.prog) (w:=w) (mg:=mg) (base:=base) T mA
 have MR:=zB0 (P:=l.prog) (w:=w) (mg:=mg) (base:=base) T mR b_list
 have MIn:=hW (P:=l.prog) (w:=w) (mg:=mg) (base:=base) T mIn
 have MHs:=zB2 (P:=l.prog) (w:=w) (mg:=mg) (base:=base) T mH
 have MW:=aX T mW CCA MM
 have ML:=dO T mL CCA MM
 have MD:=zAD T mD CCA MM
 have MK:=zB3 T mK CCH MM
 have MC:=zAE T mC CCH MM b_isinstance b_bool
 have MKS:f7 l.prog w K mg base CX0 2 C "Seat" ["self","arrow"] (nC C):=⟨_,_,zAC T mIF CI,mIM,mg_C,mIB⟩
 have CM:=dN (P:=l.prog) (w:=w) (base:=base) GM
 have CD:=hX (P:=l.prog) (w:=w) (base:=base) GD
 have CN:=aZ GN CM
 have CC:=zAH (P:=l.prog) (w:=w) (base:=base) GC b_len
 have CNa:=dM GNa CN b_range
 have CSe:=aY (P:=l.prog) (w:=w) (base:=base) (C:=C) GSe
 have CCm:=okCm T GCm MK MC
 have CPu:=okPu T GPu CCm MW ML MD
 have CAR:=okAR T GAR MA MHs MR MIn b_len b_int
 have CLe:=okLe T GLe MA
 have CSt:=okSt T GSt MA CAR CLe b_len
 have CDs:=okDs T GDs MR MIn
 have CAG:=okAG T GAG MR MIn CPu CSe CSt b_sorted b_range
 have CMd:=okMd T GMd CD CC CN CNa MKS b_range b_int
 exact zB1 T FL CD CC CN CMd CSt CDs CPu CSe CAG b_len
theorem walk {l:PySem.W.OpenLaw} {q:Program} {loose:List Str} {XP:(Str->Option Value)->Heap->Prop} {YP:World->Heap->Prop} {d:DefRec} {K:Params->PySem.W.Frag} (hn:l.most=some 63) (hdf:d.params.defaults=[])
  (hY:∀ (w:World) (h:Heap),YP w h->(K w.params).In h)
  (F:∀ (w:World) (mg:Str->Option Value) (fa:Addr) (h:Heap),(K w.params).In h->h.Ns mainGlobals mg->mg d.name=some (.ref fa) ->
   ∃ fd:FuncData,(∀ (s:Shared) (u:Value),BindsTo s fd ⟨[u],[]⟩ [("_law_script",u)])/\∀ base:Heap,(K w.params).In base->base.Ns mainGlobals mg->vJ l.prog w (K w.params) mg base CX0 7 fa fd ["_law_script"] (lF (K w.params))) :
  PySem.W.WalkO q loose XP YP l.row.toRowW d [] (fun f vs=>PySem.call f vs):=
 L2.walk_of (n:=63) (k:=7) (x:="_law_script") (CX:=fun _=>CX0) (sp:=fun w=>lF (K w.params)) hn (by decide) hdf ⟨rfl,by decide,by decide⟩ hY F (fun _ _ a ns hl _ hS=>⟨a,ns,rfl,hS,hl,fun _=>rfl⟩) fun _ _ _ _ _ z=>z
end K16
open PySem PySem.W PyProof.Rows
set_option maxRecDepth 100000 in
set_option maxHeartbeats 0 in
theorem PySem.Challenge.cw_treeright_k16_whole_one_right_among_seat_holds : PySem.Challenge.rw_treeright_k16_whole_one_right_among_seat.Holds := by
 refine head ?_
 k_fill
 refine K16.walk (l:=PySem.Challenge.rw_treeright_k16_whole_one_right_among_seat) rfl rfl (fun w h Y=>PySem.W.kIn_of Y) ?F
 case F=>
  intro w mg fa h KX G hmg
  refine' K16.all_mk KX G hmg ?l0 ?l1 ?l2 ?l3 ?l4 ?l5 ?l6 ?l7 ?l8 ?l9 ?l10 ?l11 ?l12 ?l13 ?l14 ?l15 ?l16 ?aL ?lL ?k_C ?mC0 ?mC1 ?mC2 ?mC3 ?mC4 ?mC5 ?mC6 ?mC7 ?mC8 ?mC9 ?mC10 ?mC11 ?n_C_pointer ?n_C_waiting ?n_C_holder ?n_C_asked ?z_isinstance ?z_str ?z_int ?z_bool ?z_len ?z_all ?z_range ?z_list ?z_sorted ?g_LETTERS ?g_LONGEST_NAME
  (case aL=>k_is)
  (case lL=>exact ⟨_,_,_,_,_,_,_,_,_,by k_is,by k_is,by k_is⟩)
  (case l0 | l1 | l2 | l3 | l4 | l5 | l6 | l7 | l8 | l9 | l10 | l11 | l12 | l13 | l14 | l15 | l16=>exact ⟨_,by k_is,_,_,_,_,_,_,_,_,_,by k_is,by k_is,by k_is⟩)
  (case k_C=>exact ⟨by k_is,by k_is,by k_is,by k_is,by k_is,by k_is,by k_is⟩)
  (case mC0 | mC1 | mC2 | mC3 | mC4 | mC5 | mC6 | mC7 | mC8 | mC9 | mC10 | mC11=>exact ⟨_,by k_is,by k_is,_,_,_,_,_,_,_,_,_,by k_is,by k_is,by k_is⟩)
  (case n_C_pointer | n_C_waiting | n_C_holder | n_C_asked | z_isinstance | z_str | z_int | z_bool | z_len | z_all | z_range | z_list | z_sorted | g_LETTERS | g_LONGEST_NAME=>k_is)
