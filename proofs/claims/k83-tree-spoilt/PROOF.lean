import PyProof.Rows.All
import Wide.All
import OpenK.AllK
import Wide.FinOn
import Lean
import PyProof.EqAt
import PyProof.EqKinds
import PyProof.TupleCall
import PySem.Challenge.RW_treeright_k83_tree_texts_spoilt
noncomputable section
def zJ3:=@List.length_map
def zJ4:=@List.getElem?_eq_getElem
def zJ5:=@List.getElem?_eq_some_iff
def zJ6:=@List.mem_singleton
def zJ7:=@List.mem_of_getElem?
def zJ8:=@List.getD_eq_getElem?_getD
def zJ9:=@List.getElem?_map
def zKA:=@Option.some.inj
def zKB:=@List.size_toArray
def zKC:=@Nat.le_refl
def zKD:=@Nat.zero_le
def zKE:=@Nat.le_trans
def zKF:=@List.map_append
def zKG:=@List.mem_cons_of_mem
def zKH:=@List.mem_append_right
def zKI:=@decide_eq_true
def zKJ:=@decide_eq_false
def zKK:=@List.mem_append
def zKL:=@List.length_append
def zKM:=@List.length_take
def zKN:=@List.map_map
def zKO:=@List.length_cons
def zKP:=@Nat.lt_of_lt_of_le
def zKQ:=@List.getElem?_append_right
def zKR:=@List.getElem?_append_left
def zKS:=@List.take_of_length_le
def zKT:=@List.length_pos_iff
def zKU:=@Nat.ne_of_lt
def zKV:=@Bool.false_ne_true
def zKW:=@List.mem_cons_self
def zKX:=@List.not_mem_nil
def zKY:=@List.append_assoc
def zKZ:=@List.getElem?_set_ne
def zK0:=@List.getElem?_set_self
def zK2:=@Array.getD_eq_getD_getElem?
def zK3:=@List.take_length
def zK4:=@List.length_set
set_option Elab.async false
set_option linter.all false
set_option maxRecDepth 100000
namespace L2
open PySem PySem.Spec PyProof.Rows
abbrev VSP:=Value->Shared->Prop
abbrev LAO:=List (Addr × Obj)
abbrev LSS:=List (Str × Str)
abbrev Key:=Sum Int Str
def nG:Key->Value->Bool
 | .inl k,v=>Value.isInt k v
 | .inr x,v=>Value.isStrOf x v
def keyH (w:World):Key->Int
 | .inl k=>hashInt k
 | .inr x=>hashStr w x
theorem yU:∀ {k:Key} {v:Value},nG k v=true->(∃ i t,k=Sum.inl i/\v=Value.int i t) \/ (∃ x t,k=Sum.inr x/\v=Value.str x t)
 | .inl i,v,h=>by
  obtain ⟨t,e⟩:=Value.isInt_shape (k:=i) (v:=v) h
  exact .inl ⟨i,t,rfl,e⟩
 | .inr x,v,h=>by
  obtain ⟨t,e⟩:=Value.isStrOf_shape (x:=x) (v:=v) h
  exact .inr ⟨x,t,rfl,e⟩
theorem c8 (i:Int) (t:Tok):nG (.inl i) (.int i t)=true:=by simp [nG,Value.isInt]
theorem c7 (x:Str) (t:Tok):nG (.inr x) (.str x t)=true:=by simp [nG,Value.isStrOf]
theorem zHY (a b:Int):decide ((Sum.inl a:Key)=Sum.inl b)=(a == b):=by
 by_cases e:a=b
 ·subst e;simp
 ·have h:¬ (Sum.inl a:Key)=Sum.inl b:=fun q=>e (Sum.inl.inj q)
  rw [zKJ h]
  exact (beq_eq_false_iff_ne.mpr e).symm
theorem zHV (a b:Str):decide ((Sum.inr a:Key)=Sum.inr b)=decide (a=b):=by
 by_cases e:a=b
 ·subst e;simp
 ·have h:¬ (Sum.inr a:Key)=Sum.inr b:=fun q=>e (Sum.inr.inj q)
  rw [zKJ h,zKJ e]
theorem zHX (a:Int) (b:Str):decide ((Sum.inl a:Key)=Sum.inr b)=false:=zKJ (fun q=>nomatch q)
theorem zHW (a:Str) (b:Int):decide ((Sum.inr a:Key)=Sum.inl b)=false:=zKJ (fun q=>nomatch q)
def yC (prog:Program) (w:World):PySem.KeyKind prog w Key where
 is:=nG
 hash:=keyH w
 inj:=fun v a b ha hb=>by
  rcases yU ha with ⟨i,t,rfl,rfl⟩ | ⟨x,t,rfl,rfl⟩
  ·rcases yU hb with ⟨j,u,rfl,e⟩ | ⟨y,u,rfl,e⟩
   ·injection e with e1 _;rw [e1]
   ·exact nomatch e
  ·rcases yU hb with ⟨j,u,rfl,e⟩ | ⟨y,u,rfl,e⟩
   ·exact nomatch e
   ·injection e with e1 _;rw [e1]
 byValue:=fun k v h=>by
  rcases yU h with ⟨i,t,rfl,rfl⟩ | ⟨x,t,rfl,rfl⟩ <;> rfl
 pyHash:=fun hv h=>by
  rcases yU hv with ⟨i,t,rfl,rfl⟩ | ⟨x,t,rfl,rfl⟩
  ·exact wpAny_pyHash_int h
  ·exact wpAny_pyHash_str h
 eqBool:=fun hu hv h=>by
  rcases yU hu with ⟨i,t,rfl,rfl⟩ | ⟨x,t,rfl,rfl⟩
  ·rcases yU hv with ⟨j,u,rfl,rfl⟩ | ⟨y,u,rfl,rfl⟩
   ·rw [zHY] at h;exact wpAny_eqBool_int h
   ·rw [zHX] at h;exact SeqAt.EqAt.int_str i t y u _ _ _ _ h
  ·rcases yU hv with ⟨j,u,rfl,rfl⟩ | ⟨y,u,rfl,rfl⟩
   ·rw [zHW] at h;exact SeqAt.EqAt.str_int x t j u _ _ _ _ h
   ·rw [zHV] at h;exact wpAny_eqBool_str h
 «strs»:=fun k x t v h=>by
  rcases yU h with ⟨i,u,rfl,e⟩ | ⟨y,u,rfl,e⟩
  ·exact nomatch e
  ·injection e with e1 _
   subst e1
   cases v <;> rfl
theorem jP (prog:Program) (w:World) (i:Int) (t:Tok):(yC prog w).is (.inl i) (.int i t)=true:=c8 i t
theorem jO (prog:Program) (w:World) (x:Str) (t:Tok):(yC prog w).is (.inr x) (.str x t)=true:=c7 x t
inductive V where
 | non | bl (b:Bool) | int (i:Int) | str (x:Str) | byt (b:Array UInt8) | flt (b:UInt64) | ref (a:Addr) | ty (n:String)
 deriving DecidableEq
def zV:V->Value->Prop
 | .non,u=>u=Value.none
 | .bl b,u=>u=Value.bool b
 | .int i,u=>∃ t,u=Value.int i t
 | .str x,u=>∃ t,u=Value.str x t
 | .byt b,u=>∃ t,u=Value.bytes b t
 | .flt b,u=>∃ t,u=Value.float b t
 | .ref a,u=>u=Value.ref a
 | .ty n,u=>u=Value.type n
abbrev zP:List V->List Value->Prop:=Paired zV
theorem zP.length {xs:List V} {us:List Value} (r:zP xs us):xs.length=us.length:=Paired.length r
theorem zP.get:∀ {xs:List V} {us:List Value} {i:Nat} {x:V},zP xs us->xs[i]?=some x->∃ u,us[i]?=some u/\zV x u
 | _,_,_,_,.nil,e=>by simp at e
 | _,_,0,_,.cons r _,e=>by simp at e;subst e;exact ⟨_,rfl,r⟩
 | _,_,i + 1,x,.cons _ t,e=>by
  obtain ⟨u,h1,h2⟩:=zP.get (i:=i) (x:=x) t (by simpa using e)
  exact ⟨u,by simpa using h1,h2⟩
theorem zP.set {x:V} {u:Value} (r:zV x u):∀ {xs:List V} {us:List Value} (i:Nat),zP xs us->zP (xs.set i x) (us.set i u)
 | _,_,_,.nil=>.nil
 | _,_,0,.cons _ t=>.cons r t
 | _,_,i + 1,.cons q t=>.cons q (zP.set r i t)
theorem zP.append {xs ys:List V} {us ws:List Value} (h:zP xs us) (s:zP ys ws):zP (xs ++ ys) (us ++ ws):=by
 induction h with
 | nil=>exact s
 | cons r _ ih=>exact .cons r ih
theorem zP.take:∀ {xs:List V} {us:List Value} (n:Nat),zP xs us->zP (xs.take n) (us.take n)
 | _,_,0,_=>.nil
 | _,_,_ + 1,.nil=>.nil
 | _,_,n + 1,.cons r t=>.cons r (zP.take n t)
theorem zP.drop:∀ {xs:List V} {us:List Value} (n:Nat),zP xs us->zP (xs.drop n) (us.drop n)
 | _,_,0,r=>r
 | _,_,_ + 1,.nil=>.nil
 | _,_,n + 1,.cons _ t=>zP.drop n t
def uI:Option V->Option Value->Prop
 | some v,some u=>zV v u
 | none,none=>True
 | _,_=>False
def KV {κ:Type}:List (κ × V)->List (κ × Value)->Prop:=Paired fun (p:κ × V) (q:κ × Value)=>p.1=q.1/\zV p.2 q.2
def kV:Key->V
 | .inl i=>.int i
 | .inr x=>.str x
inductive HO where
 | lst (xs:List V)
 | tup (xs:List V)
 | dK (kvs:List (Key × V)) | dT (kvs:List (List Key × V))
 | set (S:Int->Bool) (n:Nat)
 | ins (C dx:Addr) (fs:List (Str × V))
 | own (x:Addr)
 | xd (fs:List (Str × V))
 | met (f x:Addr)
 | rng (lo hi:Int)
 | frz (o:Obj) (u:HO)
 | tbl (ps:Array Value)
 | ext (φ:Heap->Prop)
abbrev Hp:=Addr->Option HO
def upd (H:Hp) (a:Addr) (o:HO):Hp:=fun b=>if b=a then some o else H b
theorem zC {H:Hp} {a:Addr} {o:HO}:upd H a o a=some o:=by unfold upd;rw [if_pos rfl]
theorem zI {H:Hp} {a b:Addr} {o:HO} (h:b ≠ a):upd H a o b=H b:=by unfold upd;rw [if_neg h]
theorem sB {H:Hp} {a:Addr} {o u:HO}:upd (upd H a o) a u=upd H a u:=by
 funext b;unfold upd;split <;> rfl
theorem zFY {H:Hp} {a b:Addr} {o u:HO} (h:H a=some o) (h':H b=some u) (d:o ≠ u):a ≠ b:=by
 intro e;subst e;rw [h] at h';exact d (zKA h')
theorem zH {H:Hp} {a b:Addr} {o:HO} (h:H a=some o) (h':H b=none):a ≠ b:=by
 intro e;subst e;rw [h] at h';cases h'
section
variable (P:Program) (w:World)
def yG (H:Hp) (h:Heap) (a:Addr):HO->Prop
 | .lst xs=>xs.length <= sizeLine/\∃ (its:List Value) (n:Nat),zP xs its/\h.get? a=some { cls:=.type "list",data:=.seq its.toArray n }
 | .tup xs=>xs.length <= sizeLine/\∃ its:List Value,zP xs its/\IsTup h a its.toArray
 | .dK kvs=>kvs.length <= sizeLine/\(a == sysModules)=false/\∃ vs,KV kvs vs/\h.DictOf (yC P w) a vs
 | .dT kvs=>kvs.length <= sizeLine/\(a == sysModules)=false/\∃ xs:List (List Key × Addr × Value),
   Paired (fun (p:List Key × V) (q:List Key × Addr × Value)=>p.1=q.1/\H q.2.1=some (.tup (p.1.map kV))/\zV p.2 q.2.2) kvs xs /\
   ∃ o es ep,h.get? a=some o/\o.ExactDict/\o.data=.dict es ep/\es.toList=xs.map (entryOfKey (tupleKind (yC P w)))/\(xs.map (·.1)).Nodup
 | .set S n=>h.SetOf (intKind P w) a S n
 | .ins C dx fs=>H dx=some (.own a)/\fs.length <= 1000/\dx ≠ a/\h.get? a=some (W.instObj C dx) /\
   ∃ mA,h.Ns1 dx mA/\(∀ f,uI (fs.lookup f) (mA f))/\PySem.Within mA (fs.map (·.1))
 | .own _=>∃ o,h.get? a=some o
 | .xd fs=>∃ mA,h.Ns1 a mA/\∀ f,uI (fs.lookup f) (mA f)
 | .rng lo hi=>∃ t u v,h.get? a=some { cls:=.type "range",data:=.fields #[.int lo t,.int hi u,.int 1 v] }
 | .frz o u=>h.get? a=some o/\yG H h a u
 | .tbl ps=>h.get? a=some { cls:=.none,data:=.fields ps }
 | .met f x=>h.get? a=some (W.methodObj (.ref f) (.ref x))
 | .ext φ=>φ h/\(∃ o,h.get? a=some o)/\∀ h1 h2:Heap,φ h1->(∀ o,h1.get? a=some o->h2.get? a=some o)->φ h2
def HOk (H:Hp) (h:Heap):Prop:=∀ a o,H a=some o->yG P w H h a o
end
section
variable {P:Program} {w:World} {H H':Hp} {h h':Heap} {a:Addr} {o:HO}
theorem yG.lt (x:yG P w H h a o):a < h.objs.size:=by
 cases o with
 | lst xs=>obtain ⟨_,_,_,_,e⟩:=x;exact Heap.lt_size e
 | tup xs=>obtain ⟨_,_,_,p⟩:=x;exact p.lt
 | dK kvs=>obtain ⟨_,_,_,_,o,_,_,e,_⟩:=x;exact Heap.lt_size e
 | dT kvs=>obtain ⟨_,_,_,_,o,_,_,e,_⟩:=x;exact Heap.lt_size e
 | set S n=>obtain ⟨o,_,_,_,e,_⟩:=x;exact Heap.lt_size e
 | ins C dx fs=>obtain ⟨_,_,_,e,_⟩:=x;exact Heap.lt_size e
 | own y=>obtain ⟨_,e⟩:=x;exact Heap.lt_size e
 | xd fs=>obtain ⟨_,⟨_,_,_,e,_⟩,_⟩:=x;exact Heap.lt_size e
 | rng lo hi=>obtain ⟨_,_,_,e⟩:=x;exact Heap.lt_size e
 | frz ob u=>obtain ⟨e,_⟩:=x;exact Heap.lt_size e
 | tbl ps=>exact Heap.lt_size (show h.get? a=some _ from x)
 | met f y=>exact Heap.lt_size (show h.get? a=some _ from x)
 | ext φ=>obtain ⟨_,⟨_,e⟩,_⟩:=x;exact Heap.lt_size e
theorem Paired.mapP {α β:Type} {F G:α->β->Prop} {l₁:List α} {l₂:List β} (h:Paired F l₁ l₂) (f:∀ a b,F a b->G a b):Paired G l₁ l₂:=by
 induction h with
 | nil=>exact .nil
 | cons r _ ih=>exact .cons (f _ _ r) ih
theorem yG.stay (x:yG P w H h a o) (k:∀ b u,(b=a \/ H b=some (.own a))->h.get? b=some u->h'.get? b=some u)
  (ho:∀ b,H b=some (.own a)->H' b=some (.own a)) (ht:∀ b xs,H b=some (.tup xs)->H' b=some (.tup xs)):yG P w H' h' a o:=by
 induction o with
 | lst xs=>obtain ⟨z,its,n,r,e⟩:=x;exact ⟨z,its,n,r,k _ _ (.inl rfl) e⟩
 | tup xs=>obtain ⟨z,its,r,ob,e,c⟩:=x;exact ⟨z,its,r,ob,k _ _ (.inl rfl) e,c⟩
 | dK kvs=>obtain ⟨z,y,vs,r,ob,es,ep,e,c⟩:=x;exact ⟨z,y,vs,r,ob,es,ep,k _ _ (.inl rfl) e,c⟩
 | dT kvs=>
  obtain ⟨z,y,xs,r,ob,es,ep,e,c⟩:=x
  exact ⟨z,y,xs,Paired.mapP r fun p q z=>⟨z.1,ht _ _ z.2.1,z.2.2⟩,ob,es,ep,k _ _ (.inl rfl) e,c⟩
 | set S n=>obtain ⟨ob,es,ep,t,e,c⟩:=x;exact ⟨ob,es,ep,t,k _ _ (.inl rfl) e,c⟩
 | ins C dx fs=>
  obtain ⟨d,z,ne,e,mA,⟨od,es,ep,e2,c⟩,r⟩:=x
  exact ⟨ho _ d,z,ne,k _ _ (.inl rfl) e,mA,⟨od,es,ep,k _ _ (.inr d) e2,c⟩,r⟩
 | own y=>obtain ⟨ob,e⟩:=x;exact ⟨ob,k _ _ (.inl rfl) e⟩
 | xd fs=>obtain ⟨mA,⟨od,es,ep,e,c⟩,r⟩:=x;exact ⟨mA,⟨od,es,ep,k _ _ (.inl rfl) e,c⟩,r⟩
 | rng lo hi=>obtain ⟨t,u,v,e⟩:=x;exact ⟨t,u,v,k _ _ (.inl rfl) e⟩
 | frz ob u ih=>obtain ⟨e,q⟩:=x;exact ⟨k _ _ (.inl rfl) e,ih q⟩
 | tbl ps=>
  have e:h.get? a=some { cls:=.none,data:=.fields ps }:=x
  show h'.get? a=some { cls:=.none,data:=.fields ps }
  exact k a _ (.inl rfl) e
 | met f y=>
  have e:h.get? a=some (W.methodObj (.ref f) (.ref y)):=x
  show h'.get? a=some (W.methodObj (.ref f) (.ref y))
  exact k a _ (.inl rfl) e
 | ext φ=>obtain ⟨p,⟨o,e⟩,st⟩:=x;exact ⟨st _ _ p fun o q=>k _ _ (.inl rfl) q,⟨o,k _ _ (.inl rfl) e⟩,st⟩
theorem HOk.lt (x:HOk P w H h) (e:H a=some o):a < h.objs.size:=(x a o e).lt
theorem HOk.fresh (x:HOk P w H h) (e:h.objs.size <= a):H a=none:=by
 cases q:H a with
 | none=>rfl
 | some u=>exact absurd (zKP (x.lt q) e) (Nat.lt_irrefl _)
theorem HOk.kept (x:HOk P w H h) (k:∀ b u,h.get? b=some u->h'.get? b=some u):HOk P w H h':=fun a o e=>
 (x a o e).stay (fun b u _ q=>k b u q) (fun _ q=>q) fun _ _ q=>q
theorem HOk.laid (x:HOk P w H h) (k:∀ b u,h.get? b=some u->h'.get? b=some u) (hp:h.objs.size <= a) (new:yG P w (upd H a o) h' a o):HOk P w (upd H a o) h':=fun b u e=>by
 have hn:=x.fresh hp
 by_cases hb:b=a
 ·subst hb;rw [zC] at e;cases e;exact new
 ·rw [zI hb] at e
  exact (x b u e).stay (fun c v _ q=>k c v q) (fun c q=>by rw [zI (zH q hn)];exact q) fun c xs q=>by rw [zI (zH q hn)];exact q
end
def Rd (H:Hp) (a:Addr) (u:HO):Prop:=H a=some u \/ ∃ o,H a=some (.frz o u)
theorem Rd.ok {P:Program} {w:World} {H:Hp} {h:Heap} {a:Addr} {u:HO} (r:Rd H a u) (x:HOk P w H h):yG P w H h a u:=by
 rcases r with r | ⟨o,r⟩
 ·exact x a u r
 ·obtain ⟨_,q⟩:=x a _ r
  exact q
def Mut:Option HO->Prop
 | some (.lst _)=>True
 | some (.dK _)=>True
 | some (.dT _)=>True
 | some (.set _ _)=>True
 | some (.ins _ _ _)=>True
 | some (.ext _)=>True
 | _=>False
section
variable {P:Program} {w:World} {H:Hp} {h h':Heap} {x e:Addr} {o':HO}
theorem HOk.write (ok:HOk P w H h) (mu:Mut (H x)) (he:e=x \/ H e=some (.own x)) (k:∀ b u,b ≠ e->h.get? b=some u->h'.get? b=some u) (heo:∃ u,h'.get? e=some u)
  (new:yG P w (upd H x o') h' x o'):HOk P w (upd H x o') h':=fun b u q=>by
 have nown:∀ c y,H c=some (.own y)->c ≠ x:=fun c y r z=>by subst z;rw [r] at mu;exact mu
 have ntup:∀ c xs,H c=some (.tup xs)->c ≠ x:=fun c xs r z=>by subst z;rw [r] at mu;exact mu
 by_cases hb:b=x
 ·subst hb;rw [zC] at q;cases q;exact new
 ·rw [zI hb] at q
  by_cases hbe:b=e
  ·have q':H b=some (.own x):=by
    rcases he with z | z
    ·exact absurd (hbe.trans z) hb
    ·rw [hbe];exact z
   rw [q] at q';cases q'
   obtain ⟨v,hv⟩:=heo
   exact ⟨v,by rw [hbe];exact hv⟩
  ·refine (ok b u q).stay (fun c v hc r=>k c v ?_ r) (fun c r=>by rw [zI (nown c b r)];exact r) fun c xs r=>by rw [zI (ntup c xs r)];exact r
   rcases hc with rfl | hc
   ·exact hbe
   ·rintro rfl
    rcases he with z | z
    ·exact nown c b hc z
    ·rw [hc] at z;cases z;exact hb rfl
end
structure Un (fs ex:List Addr) (H H':Hp) (h h':Heap):Prop where
 keep:∀ b o,h.get? b=some o->H b=none->b ∉ fs->b ∉ ex->h'.get? b=some o
 slot:∀ b o,h.get? b=some o->H b=none->b ∈ fs->b ∉ ex->∃ sl,h'.get? b=some { o with slots:=sl }
 free:∀ b o,h.get? b=some o->H b=none->b ∉ ex->H' b=none
 there:∀ b o,h.get? b=some o->b ∉ ex->∃ o',h'.get? b=some o'
 tups:∀ b xs,H b=some (.tup xs)->H' b=some (.tup xs)
 frzs:∀ b o u,H b=some (.frz o u)->H' b=some (.frz o u)
 tbls:∀ b ps,H b=some (.tbl ps)->∃ more,H' b=some (.tbl (ps ++ more))
section
variable {fs fs' ex ex':List Addr} {H H1 H2:Hp} {h h1 h2 h':Heap} {a x e:Addr} {o:HO}
theorem Un.any (u:Un fs ex H H1 h h1) {b:Addr} {ob:Obj} (q:h.get? b=some ob) (n:H b=none) (hx:b ∉ ex):∃ sl,h1.get? b=some { ob with slots:=sl }:=by
 by_cases hb:b ∈ fs
 ·exact u.slot b ob q n hb hx
 ·exact ⟨ob.slots,u.keep b ob q n hb hx⟩
theorem Un.kept (k:∀ b u,h.get? b=some u->h'.get? b=some u):Un fs ex H H h h':=
 ⟨fun b ob q _ _ _=>k b ob q,fun b ob q _ _ _=>⟨ob.slots,k b ob q⟩,fun _ _ _ n _=>n,fun b ob q _=>⟨ob,k b ob q⟩,fun _ _ q=>q,fun _ _ _ q=>q,fun _ ps q=>⟨#[],by rw [q];simp⟩⟩
theorem Un.refl:Un fs ex H H h h:=Un.kept fun _ _ q=>q
theorem Un.laid (k:∀ b u,h.get? b=some u->h'.get? b=some u) (hp:h.objs.size <= a) (hn:H a=none):Un fs ex H (upd H a o) h h' where
 keep:=fun b u q _ _ _=>k b u q
 slot:=fun b u q _ _ _=>⟨u.slots,k b u q⟩
 free:=fun b u q n _=>by rw [zI (zKU (zKP (Heap.lt_size q) hp))];exact n
 there:=fun b u q _=>⟨u,k b u q⟩
 tups:=fun b xs q=>by rw [zI (zH q hn)];exact q
 frzs:=fun b u xs q=>by rw [zI (zH q hn)];exact q
 tbls:=fun b ps q=>⟨#[],by rw [zI (zH q hn),q];simp⟩
theorem Un.write (mu:Mut (H x)) (he:e=x \/ H e=some (.own x)) (k:∀ b u,b ≠ e->h.get? b=some u->h'.get? b=some u) (heo:∃ u,h'.get? e=some u):Un fs ex H (upd H x o) h h':=by
 have hx:∀ b,H b=none->b ≠ x:=fun b n z=>by subst z;rw [n] at mu;exact mu
 have hb:∀ b,H b=none->b ≠ e:=fun b n z=>by
  subst z
  rcases he with r | r
  ·exact hx b n r
  ·rw [n] at r;cases r
 have hm:∀ b u,H b=some u->¬ Mut (some u)->b ≠ x:=fun b u q nm z=>by subst z;rw [q] at mu;exact nm mu
 refine ⟨fun b u q n _ _=>k b u (hb b n) q,fun b u q n _ _=>⟨u.slots,k b u (hb b n) q⟩,fun b u q n _=>by rw [zI (hx b n)];exact n,fun b u q _=>?_,
  fun b xs q=>by rw [zI (hm b _ q fun z=>z)];exact q,fun b u xs q=>by rw [zI (hm b _ q fun z=>z)];exact q,fun b ps q=>⟨#[],by rw [zI (hm b _ q fun z=>z),q];simp⟩⟩
 by_cases hbe:b=e
 ·subst hbe;exact heo
 ·exact ⟨u,k b u hbe q⟩
end
def trk (h:Heap) (H:Hp):List Addr:=(List.range h.objs.size).filter fun a=>(H a).isSome
def lJ (h:Heap) (H:Hp):Heap:=W.hideAll h (trk h H)
theorem bC (h:Heap) (H:Hp):(lJ h H).objs.size=h.objs.size:=W.hideAll_size _ _
theorem zBI {h:Heap} {H:Hp} {b:Addr} {o:Obj} (e:h.get? b=some o) (n:H b=none):(lJ h H).get? b=some o:=
 W.hideAll_get _ e fun hm=>by
  have q:(H b).isSome=true:=(List.mem_filter.mp hm).2
  rw [n] at q;simp at q
theorem zDZ {h:Heap} {H:Hp} {b:Addr} {o:Obj} (e:(lJ h H).get? b=some o):h.get? b=some o/\H b=none:=by
 have e':h.get? b=some o:=W.of_hideAll (trk h H) e
 refine ⟨e',?_⟩
 cases q:H b with
 | none=>rfl
 | some x=>
  have hm:b ∈ trk h H:=List.mem_filter.mpr ⟨List.mem_range.mpr (Heap.lt_size e'),by simp [q]⟩
  have z:(lJ h H).get? b=none:=W.hideAll_none (trk h H) hm
  rw [z] at e;cases e
structure Mod (K:W.Frag) (mg:Str->Option Value) (base:Heap):Prop where
 kin:K.In base
 glob:base.Ns mainGlobals mg
 blt:∃ mb,base.Ns builtinsNs mb/\∀ x:Str,x ≠ "__name__"->mb x=bootBuiltins x
 nolimit:base.NoLimit
structure Cx where
 prog:Program
 w:World
 K:W.Frag
 mg:Str->Option Value
 base:Heap
 A:Around
 N:List Str
 s₀:Shared
 H₀:Hp
 env:Env
 outer:List Env
 stack:List Env
 ex:List Addr
 fn:Str->Bool
 calm:Bool
 pn:LAO
 xe:VSP
def frs (l:List Env):List Addr:=l.filterMap (·.frame)
abbrev Cx.fs (X:Cx):List Addr:=frs X.outer
def Vis (sc:Scope) (x:Str):Prop:=sc.names.lookup x=some .local \/ sc.names.lookup x=some .cell \/ sc.names.lookup x=some .free
def Loc (sc:Scope) (x:Str):Prop:=sc.names.lookup x=some .local \/ sc.names.lookup x=some .cell
def zJ1 (env:Env) (h:Heap) (m:Str->Option Value) (x:Str) (u:Value):Prop:=
 (env.kindOf x=some .local/\m x=some u) \/ ((env.kindOf x=some .cell \/ env.kindOf x=some .free)/\∃ c,env.cells.lookup x=some c/\h.IsCell c (some u))
structure Cx.Ok (X:Cx):Prop where
 mod:Mod X.K X.mg X.base
 kind:X.env.scope.kind=.function
 glob:X.env.globals=mainGlobals
 blt:X.env.builtins=builtinsNs
 above:X.s₀.heap.objs.size <= X.env.locals
 inj:∀ x y c,X.env.cells.lookup x=some c->X.env.cells.lookup y=some c->x=y
 has:∀ x,(X.env.kindOf x=some .cell \/ X.env.kindOf x=some .free)->∃ c,X.env.cells.lookup x=some c
 cab:∀ x c,X.fn x=true->X.env.cells.lookup x=some c->X.s₀.heap.objs.size <= c
 hd:X.calm=true->X.A.handled=none
 frames:X.A.frames=some X.stack
 stk:X.stack=X.outer \/ (X.stack=X.env :: X.outer/\X.env.frame=some X.env.locals)
 exf:∀ b ∈ X.ex,b ≠ X.env.locals/\∀ x c,X.env.cells.lookup x=some c->c ≠ b
 bs:∀ b o,X.base.get? b=some o->X.s₀.heap.get? b=some o/\X.H₀ b=none
 bsz:X.base.objs.size <= X.s₀.heap.objs.size
 noex:∀ b o,X.base.get? b=some o->b ∉ X.ex
 exfs:∀ b ∈ X.ex,b ∉ X.fs
 funs:X.s₀.heap.FunFrames X.base X.outer
 frf:∀ b ∈ X.fs,X.H₀ b=none
structure Inv (X:Cx) (qp:LAO) (σ:List (Option V)) (H:Hp) (s:Shared):Prop where
 ok:X.Ok
 os:s.os=X.s₀.os
 bare:AllBare s.gens
 base:Un X.fs X.ex X.H₀ H X.s₀.heap s.heap
 loc:∃ m,s.heap.Ns X.env.locals m/\∀ (i:Nat) (x:Str) (v:V),X.N[i]?=some x->σ[i]?=some (some v)->Vis X.env.scope x->∃ u,zV v u/\zJ1 X.env s.heap m x u
 cell:∀ x c,X.env.cells.lookup x=some c->∃ v,s.heap.IsCell c v
 free:H X.env.locals=none
 freeC:∀ x c,X.env.cells.lookup x=some c->H c=none
 pin:∀ p ∈ X.pn ++ qp,s.heap.get? p.1=some p.2/\H p.1=none/\p.1 ≠ X.env.locals/\p.1 ∉ X.fs/\∀ v,p.2.data ≠ .cell v
 hok:HOk X.prog X.w H s.heap
 len:σ.length=X.N.length
section
variable {X:Cx} {qp:LAO} {σ:List (Option V)} {H H':Hp} {s:Shared} {h':Heap}
theorem Cx.Ok.nofr (ok:X.Ok) {b:Addr} {o:Obj} (e:X.base.get? b=some o):b ∉ X.fs:=fun hb=>by
 have:=(ok.funs.mem hb).1
 rw [e] at this;cases this
theorem Inv.bs (I:Inv X qp σ H s):∀ b o,X.base.get? b=some o->s.heap.get? b=some o/\H b=none:=fun b o e=>
 ⟨I.base.keep b o (I.ok.bs b o e).1 (I.ok.bs b o e).2 (I.ok.nofr e) (I.ok.noex b o e),I.base.free b o (I.ok.bs b o e).1 (I.ok.bs b o e).2 (I.ok.noex b o e)⟩
theorem Inv.bk (I:Inv X qp σ H s):∀ b o,X.base.get? b=some o->s.heap.get? b=some o:=fun b o e=>(I.bs b o e).1
theorem Inv.mod (I:Inv X qp σ H s):Mod X.K X.mg X.base:=I.ok.mod
theorem Inv.kIn (I:Inv X qp σ H s):X.K.In s.heap:=I.ok.mod.kin.keeps I.bk
theorem Inv.lt (I:Inv X qp σ H s):X.env.locals < s.heap.objs.size:=let ⟨_,hn,_⟩:=I.loc;hn.lt
theorem Inv.sz (I:Inv X qp σ H s):X.s₀.heap.objs.size <= s.heap.objs.size:=zKE I.ok.above (Nat.le_of_lt I.lt)
theorem Inv.nofs (I:Inv X qp σ H s) {a:Addr} (h:s.heap.objs.size <= a):a ∉ X.fs:=fun hb=>by
 obtain ⟨_,o,ho,_⟩:=I.ok.funs.mem hb
 exact absurd (zKP (Heap.lt_size ho) (zKE I.sz h)) (Nat.lt_irrefl _)
theorem Inv.cne (I:Inv X qp σ H s):∀ x c,X.env.cells.lookup x=some c->c ≠ X.env.locals:=fun x c e z=>by
 obtain ⟨v,o,ho,hd⟩:=I.cell x c e
 obtain ⟨m,⟨o',es,ep,ho',hd',_⟩,_⟩:=I.loc
 rw [z,ho'] at ho;cases ho;rw [hd'] at hd;cases hd
theorem Inv.funs (I:Inv X qp σ H s):s.heap.FunFrames X.base X.outer:=by
 have all:∀ (l:List Env),(∀ b ∈ frs l,b ∈ X.fs)->X.s₀.heap.FunFrames X.base l->s.heap.FunFrames X.base l:=by
  intro l
  induction l with
  | nil=>intro _ _;trivial
  | cons env r ih=>
   intro hs hl
   obtain ⟨hk,⟨L,o,hf,hn,ho,hd⟩,hr⟩:=hl
   have hL:L ∈ X.fs:=hs L (by unfold frs;rw [List.filterMap_cons,hf];exact zKW)
   obtain ⟨sl,e⟩:=I.base.slot L o ho (I.ok.frf L hL) hL fun z=>I.ok.exfs L z hL
   exact ⟨hk,⟨L,_,hf,hn,e,hd⟩,ih (fun b hb=>hs b (by unfold frs;rw [List.filterMap_cons,hf];exact zKG _ hb)) hr⟩
 exact all X.outer (fun _ hb=>hb) I.ok.funs
theorem Inv.stack (I:Inv X qp σ H s):s.heap.FunFrames X.base X.stack:=by
 rcases I.ok.stk with e | ⟨e,hf⟩
 ·rw [e];exact I.funs
 ·rw [e]
  obtain ⟨m,hn,_⟩:=I.loc
  refine .cons (by rw [I.ok.kind];decide) hf hn ?_ I.funs
  exact Heap.get?_none_of_le (zKE I.ok.bsz I.ok.above)
theorem Inv.stkSub (I:Inv X qp σ H s):∀ b ∈ frs X.stack,b ∈ X.env.locals :: X.fs:=fun b hb=>by
 rcases I.ok.stk with e | ⟨e,hf⟩
 ·rw [e] at hb;exact zKG _ hb
 ·rw [e] at hb
  unfold frs at hb
  rw [List.filterMap_cons,hf] at hb
  exact hb
theorem Inv.stkFree (I:Inv X qp σ H s):∀ b ∈ frs X.stack,H b=none:=fun b hb=>by
 rcases List.mem_cons.mp (I.stkSub b hb) with e | hb
 ·rw [e];exact I.free
 ·obtain ⟨_,o,ho,_⟩:=I.ok.funs.mem hb
  exact I.base.free b o ho (I.ok.frf b hb) fun z=>I.ok.exfs b z hb
theorem Inv.step {g':Array GenState} {t':Nat} {d':Drawn} {ch:List Addr} (I:Inv X qp σ H s)
  (hch:∀ b ∈ ch,(b ∈ X.ex \/ X.s₀.heap.objs.size <= b)/\b ≠ X.env.locals/\(∀ x c,X.env.cells.lookup x=some c->c ≠ b)/\∀ p ∈ X.pn ++ qp,p.1 ≠ b)
  (keep:∀ b o,b ≠ X.env.locals->b ∉ X.fs->b ∉ ch->s.heap.get? b=some o->H b=none->h'.get? b=some o)
  (slot:∀ b o,b ≠ X.env.locals->b ∈ X.fs->b ∉ ch->s.heap.get? b=some o->H b=none->∃ sl,h'.get? b=some { o with slots:=sl }) (free:∀ b o,b ∉ ch->s.heap.get? b=some o->H b=none->H' b=none)
  (there:∀ b o,b ∉ ch->s.heap.get? b=some o->∃ o',h'.get? b=some o')
  (tups:∀ b xs,H b=some (.tup xs)->H' b=some (.tup xs)) (frzs:∀ b o u,H b=some (.frz o u)->H' b=some (.frz o u)) (tbls:∀ b ps,H b=some (.tbl ps)->∃ more,H' b=some (.tbl (ps ++ more)))
  (ns:∀ m,s.heap.Ns X.env.locals m->h'.Ns X.env.locals m) (hok:HOk X.prog X.w H' h') (hg:AllBare g') :
  Inv X qp σ H' { s with heap:=h',gens:=g',drawn:=d',toks:=t' }:=by
 have neL:∀ b o,X.s₀.heap.get? b=some o->b ≠ X.env.locals:=fun b o e=>zKU (zKP (Heap.lt_size e) I.ok.above)
 have neC:∀ b o,X.s₀.heap.get? b=some o->b ∉ X.ex->b ∉ ch:=fun b o e hx hb=>by
  rcases (hch b hb).1 with z | z
  ·exact hx z
  ·exact absurd (zKP (Heap.lt_size e) z) (Nat.lt_irrefl _)
 have cellK:∀ x c,X.env.cells.lookup x=some c->∀ v,s.heap.IsCell c v->h'.IsCell c v:=fun x c e v ⟨o,ho,hd⟩=>by
  have nch:c ∉ ch:=fun z=>(hch c z).2.2.1 x c e rfl
  by_cases hc:c ∈ X.fs
  ·obtain ⟨sl,q⟩:=slot c o (I.cne x c e) hc nch ho (I.freeC x c e)
   exact ⟨_,q,hd⟩
  ·exact ⟨o,keep c o (I.cne x c e) hc nch ho (I.freeC x c e),hd⟩
 refine ⟨I.ok,I.os,hg,⟨fun b o e n hb hx=>?_,fun b o e n hb hx=>?_,fun b o e n hx=>?_,fun b o e hx=>?_,fun b xs e=>tups b xs (I.base.tups b xs e),fun b o xs e=>frzs b o xs (I.base.frzs b o xs e),fun b ps e=>?_⟩,?_,fun x c e=>?_,?_,fun x c e=>?_,fun p hp=>?_,hok,I.len⟩
 ·exact keep b o (neL b o e) hb (neC b o e hx) (I.base.keep b o e n hb hx) (I.base.free b o e n hx)
 ·obtain ⟨sl,e1⟩:=I.base.slot b o e n hb hx
  obtain ⟨sl',e2⟩:=slot b _ (neL b o e) hb (neC b o e hx) e1 (I.base.free b o e n hx)
  exact ⟨sl',e2⟩
 ·obtain ⟨o',e1⟩:=I.base.there b o e hx
  exact free b o' (neC b o e hx) e1 (I.base.free b o e n hx)
 ·obtain ⟨o',e1⟩:=I.base.there b o e hx
  exact there b o' (neC b o e hx) e1
 ·obtain ⟨m1,e1⟩:=I.base.tbls b ps e
  obtain ⟨m2,e2⟩:=tbls b _ e1
  exact ⟨m1 ++ m2,by rw [e2,Array.append_assoc]⟩
 ·obtain ⟨m,hn,hl⟩:=I.loc
  refine ⟨m,ns m hn,fun i x v e1 e2 e3=>?_⟩
  obtain ⟨u,r,l⟩:=hl i x v e1 e2 e3
  refine ⟨u,r,?_⟩
  rcases l with l | ⟨k,c,e,z⟩
  ·exact .inl l
  ·exact .inr ⟨k,c,e,cellK x c e _ z⟩
 ·obtain ⟨v,z⟩:=I.cell x c e
  exact ⟨v,cellK x c e v z⟩
 ·obtain ⟨m,⟨o,_,_,ho,_⟩,_⟩:=I.loc
  exact free _ o (fun z=>(hch _ z).2.1 rfl) ho I.free
 ·obtain ⟨v,o,ho,hd⟩:=I.cell x c e
  exact free c o (fun z=>(hch c z).2.2.1 x c e rfl) ho (I.freeC x c e)
 ·obtain ⟨e,n,ne,nf,d⟩:=I.pin p hp
  have nch:p.1 ∉ ch:=fun z=>(hch p.1 z).2.2.2 p hp rfl
  exact ⟨keep p.1 p.2 ne nf nch e n,free p.1 p.2 nch e n,ne,nf,d⟩
theorem Inv.un {t':Nat} (I:Inv X qp σ H s) (u:Un X.fs [] H H' s.heap h') (hok:HOk X.prog X.w H' h'):Inv X qp σ H' { s with heap:=h',toks:=t' }:=by
 obtain ⟨m,⟨o,es,ep,ho,r⟩,_⟩:=id I.loc
 obtain ⟨sl,hL⟩:=u.any ho I.free (by simp)
 exact I.step (g':=s.gens) (d':=s.drawn) (ch:=[]) (fun _ z=>nomatch z) (fun b o _ hb _ e n=>u.keep b o e n hb (by simp)) (fun b o _ hb _ e n=>u.slot b o e n hb (by simp)) (fun b o _ e n=>u.free b o e n (by simp)) (fun b o _ e=>u.there b o e (by simp)) u.tups u.frzs u.tbls (fun m' hm=>by
  obtain ⟨o',es',ep',ho',r'⟩:=hm
  rw [ho] at ho';cases ho'
  exact ⟨_,es',ep',hL,r'⟩) hok I.bare
theorem Inv.call {g':Array GenState} {t':Nat} {d':Drawn} {ch:List Addr} (I:Inv X qp σ H s) (u:Un (frs X.stack) ch H H' s.heap h') (hok:HOk X.prog X.w H' h') (hg:AllBare g')
  (hch:∀ b ∈ ch,(b ∈ X.ex \/ X.s₀.heap.objs.size <= b)/\b ≠ X.env.locals/\(∀ x c,X.env.cells.lookup x=some c->c ≠ b)/\∀ p ∈ X.pn ++ qp,p.1 ≠ b) :
  Inv X qp σ H' { s with heap:=h',gens:=g',drawn:=d',toks:=t' }:=by
 obtain ⟨m,⟨o,es,ep,ho,r⟩,_⟩:=id I.loc
 obtain ⟨sl,hL⟩:=u.any ho I.free fun z=>(hch _ z).2.1 rfl
 exact I.step (ch:=ch) hch (fun b o hL hb hc e n=>u.keep b o e n (fun z=>(List.mem_cons.mp (I.stkSub b z)).elim hL hb) hc) (fun b o _ _ hc e n=>u.any e n hc) (fun b o hc e n=>u.free b o e n hc) (fun b o hc e=>u.there b o e hc) u.tups u.frzs u.tbls (fun m' hm=>by
  obtain ⟨o',es',ep',ho',r'⟩:=hm
  rw [ho] at ho';cases ho'
  exact ⟨_,es',ep',hL,r'⟩) hok hg
theorem Inv.turned {t':Nat} {it:Addr} (I:Inv X qp σ H s) (k:∀ b o,b ≠ it->s.heap.get? b=some o->h'.get? b=some o) (hn:H it=none) (hL:it ≠ X.env.locals)
  (h1:it ∈ X.ex \/ X.s₀.heap.objs.size <= it) (h2:∀ x c,X.env.cells.lookup x=some c->c ≠ it) (h3:∀ p ∈ X.pn ++ qp,p.1 ≠ it):Inv X qp σ H { s with heap:=h',toks:=t' }:=by
 have nit:∀ b u,H b=some u->b ≠ it:=fun b u e z=>by rw [z,hn] at e;cases e
 refine I.step (g':=s.gens) (d':=s.drawn) (ch:=[it]) (fun b hb=>?_) (fun b o _ _ hc e _=>k b o (fun z=>hc (by simp [z])) e) (fun b o _ _ hc e _=>⟨o.slots,k b o (fun z=>hc (by simp [z])) e⟩) (fun _ _ _ _ n=>n)
  (fun b o hc e=>⟨o,k b o (fun z=>hc (by simp [z])) e⟩) (fun _ _ e=>e) (fun _ _ _ e=>e) (fun b ps e=>⟨#[],by rw [e];simp⟩) (fun m hm=>?_) (fun b u e=>?_) I.bare
 ·have e:b=it:=by simpa using hb
  subst e
  exact ⟨h1,hL,h2,h3⟩
 ·obtain ⟨o,es,ep,ho,r⟩:=hm
  exact ⟨o,es,ep,k _ o (Ne.symm hL) ho,r⟩
 ·refine (I.hok b u e).stay (fun c v hc q=>k c v ?_ q) (fun _ q=>q) fun _ _ q=>q
  rcases hc with z | z
  ·rw [z];exact nit b u e
  ·exact nit c _ z
theorem Inv.tok (I:Inv X qp σ H s) (t:Nat):Inv X qp σ H { s with toks:=t }:=I.un (h':=s.heap) (t':=t) Un.refl I.hok
theorem Inv.kept {t':Nat} (I:Inv X qp σ H s) (k:∀ b u,s.heap.get? b=some u->h'.get? b=some u):Inv X qp σ H { s with heap:=h',toks:=t' }:=I.un (Un.kept k) (I.hok.kept k)
theorem Inv.laid {a:Addr} {o:HO} {t':Nat} (I:Inv X qp σ H s) (k:∀ b u,s.heap.get? b=some u->h'.get? b=some u) (hp:s.heap.objs.size <= a) (new:yG X.prog X.w (upd H a o) h' a o) :
  Inv X qp σ (upd H a o) { s with heap:=h',toks:=t' }:=I.un (Un.laid k hp (I.hok.fresh hp)) (I.hok.laid k hp new)
theorem Inv.write {x e:Addr} {o:HO} {t':Nat} (I:Inv X qp σ H s) (mu:Mut (H x)) (he:e=x \/ H e=some (.own x)) (k:∀ b u,b ≠ e->s.heap.get? b=some u->h'.get? b=some u) (heo:∃ u,h'.get? e=some u)
  (new:yG X.prog X.w (upd H x o) h' x o):Inv X qp σ (upd H x o) { s with heap:=h',toks:=t' }:=I.un (Un.write mu he k heo) (I.hok.write mu he k heo new)
theorem Inv.pins_of {pins':LAO} (I:Inv X qp σ H s) (h:∀ p ∈ pins',s.heap.get? p.1=some p.2/\H p.1=none/\p.1 ≠ X.env.locals/\p.1 ∉ X.fs/\∀ v,p.2.data ≠ .cell v):Inv X pins' σ H s:=
 ⟨I.ok,I.os,I.bare,I.base,I.loc,I.cell,I.free,I.freeC,fun p hp=>(zKK.mp hp).elim (fun z=>I.pin p (List.mem_append_left _ z)) (h p),I.hok,I.len⟩
theorem jK {N:List Str} (hN:N.Nodup) {i j:Nat} {x:Str} (a:N[i]?=some x) (b:N[j]?=some x):i=j:=by
 obtain ⟨h1,e1⟩:=zJ5.mp a
 obtain ⟨h2,e2⟩:=zJ5.mp b
 exact (List.getElem_inj hN).mp (e1.trans e2.symm)
theorem cD {M:Model} {A:Around} {E:VSP} {i:Nat} {x:Str} {v:V} {u:Value} {Q:Unit->Shared->Prop} (I:Inv X qp σ H s) (hN:X.N.Nodup) (hi:X.N[i]?=some x) (hx:Loc X.env.scope x) (r:zV v u)
  (h:∀ s',Inv X qp (σ.set i (some v)) H s'->(∃ a,Heap.SameBut a s.heap s'.heap/\(a=X.env.locals \/ X.env.cells.lookup x=some a))->Q () s') (hf:X.fn x=true \/ X.env.scope.names.lookup x=some .local:=by first | exact .inl rfl | exact .inr rfl | assumption):wpAny M A (storeName X.env x u) Q E s:=by
 obtain ⟨m,hn,hl⟩:=id I.loc
 have hcls:(X.env.scope.kind == .class || (X.env.scope.kind == .module && X.env.locals != X.env.globals))=false:=by rw [I.ok.kind];rfl
 have hiσ:i < σ.length:=by rw [I.len];exact (zJ5.mp hi).1
 have cne:=I.cne
 have tracked:∀ {a:Addr} {h':Heap},(∃ o,s.heap.get? a=some o/\H a=none)->Heap.SameBut a s.heap h'->HOk X.prog X.w H h':=fun {a h'} ha hs b ob e=>by
  obtain ⟨_,_,hfree⟩:=ha
  refine (I.hok b ob e).stay (fun c w' hc q=>(hs.2 c ?_).trans q) (fun _ q=>q) fun _ _ q=>q
  rintro rfl
  rcases hc with rfl | hc
  ·rw [hfree] at e;cases e
  ·rw [hfree] at hc;cases hc
 rcases hx with hk | hk
 ·refine wpAny_storeName_local hk hn (fun h' hn' hs=>?_) hcls
  obtain ⟨oL,_,_,hoL,_⟩:=id hn
  refine h _ ⟨I.ok,I.os,I.bare,⟨fun b o e n hb hx=>?_,fun b o e n hb hx=>?_,I.base.free,fun b o e hx=>?_,I.base.tups,I.base.frzs,I.base.tbls⟩,⟨_,hn',fun j y v' e1 e2 e3=>?_⟩,fun y c e=>?_,I.free,I.freeC,fun p hp=>?_,tracked ⟨oL,hoL,I.free⟩ hs,by simpa using I.len⟩ ⟨_,hs,.inl rfl⟩
  ·exact (hs.2 b (zKU (zKP (Heap.lt_size e) I.ok.above))).trans (I.base.keep b o e n hb hx)
  ·obtain ⟨sl,e1⟩:=I.base.slot b o e n hb hx
   exact ⟨sl,(hs.2 b (zKU (zKP (Heap.lt_size e) I.ok.above))).trans e1⟩
  ·obtain ⟨o',e1⟩:=I.base.there b o e hx
   exact ⟨o',(hs.2 b (zKU (zKP (Heap.lt_size e) I.ok.above))).trans e1⟩
  ·by_cases hj:j=i
   ·subst hj
    rw [hi] at e1;cases e1
    rw [zK0 hiσ] at e2
    cases e2
    exact ⟨u,r,.inl ⟨hk,by simp⟩⟩
   ·rw [zKZ (Ne.symm hj)] at e2
    obtain ⟨u',r',q⟩:=hl j y v' e1 e2 e3
    refine ⟨u',r',?_⟩
    rcases q with ⟨k,e⟩ | ⟨k,c,e,z⟩
    ·refine .inl ⟨k,?_⟩
     have:y ≠ x:=fun e=>hj (jK hN e1 (e ▸ hi))
     simp [this,e]
    ·exact .inr ⟨k,c,e,z.sameBut hs (cne y c e)⟩
  ·obtain ⟨w',z⟩:=I.cell y c e
   exact ⟨w',z.sameBut hs (cne y c e)⟩
  ·obtain ⟨e,n,ne,nf,d⟩:=I.pin p hp
   exact ⟨(hs.2 p.1 ne).trans e,n,ne,nf,d⟩
 ·have hfn:X.fn x=true:=by
   rcases hf with z | z
   ·exact z
   ·rw [z] at hk;cases hk
  obtain ⟨c,hc⟩:=I.ok.has x (.inl hk)
  obtain ⟨w',z⟩:=I.cell x c hc
  refine wpAny_storeName_cell I.ok.kind hk hc z (fun h' hc' hs=>?_)
  obtain ⟨oc,hoc,hocd⟩:=id z
  refine h { s with heap:=h' } ⟨I.ok,I.os,I.bare,⟨fun b o e n hb hx=>?_,fun b o e n hb hx=>?_,I.base.free,fun b o e hx=>?_,I.base.tups,I.base.frzs,I.base.tbls⟩,⟨m,hn.sameBut hs (Ne.symm (cne x c hc)),fun j y v' e1 e2 e3=>?_⟩,fun y c' e=>?_,I.free,I.freeC,fun p hp=>?_,tracked ⟨oc,hoc,I.freeC x c hc⟩ hs,by simpa using I.len⟩ ⟨c,hs,.inr hc⟩
  ·exact (hs.2 b (zKU (zKP (Heap.lt_size e) (I.ok.cab x c hfn hc)))).trans (I.base.keep b o e n hb hx)
  ·obtain ⟨sl,e1⟩:=I.base.slot b o e n hb hx
   exact ⟨sl,(hs.2 b (zKU (zKP (Heap.lt_size e) (I.ok.cab x c hfn hc)))).trans e1⟩
  ·obtain ⟨o',e1⟩:=I.base.there b o e hx
   exact ⟨o',(hs.2 b (zKU (zKP (Heap.lt_size e) (I.ok.cab x c hfn hc)))).trans e1⟩
  ·by_cases hj:j=i
   ·subst hj
    rw [hi] at e1;cases e1
    rw [zK0 hiσ] at e2
    cases e2
    exact ⟨u,r,.inr ⟨.inl hk,c,hc,hc'⟩⟩
   ·rw [zKZ (Ne.symm hj)] at e2
    obtain ⟨u',r',q⟩:=hl j y v' e1 e2 e3
    refine ⟨u',r',?_⟩
    rcases q with q | ⟨k,c',e,z'⟩
    ·exact .inl q
    ·refine .inr ⟨k,c',e,z'.sameBut hs ?_⟩
     rintro rfl
     exact hj (jK hN e1 (I.ok.inj _ _ _ e hc ▸ hi))
  ·by_cases hcc:c'=c
   ·subst hcc;exact ⟨_,hc'⟩
   ·obtain ⟨w2,z2⟩:=I.cell y c' e
    exact ⟨w2,z2.sameBut hs hcc⟩
  ·obtain ⟨e,n,ne,nf,d⟩:=I.pin p hp
   refine ⟨(hs.2 p.1 ?_).trans e,n,ne,nf,d⟩
   intro q
   rw [q,hoc] at e
   have q':oc=p.2:=zKA e
   exact d w' (by rw [<- q'];exact hocd)
theorem uL {M:Model} {A:Around} {E:VSP} {i:Nat} {x:Str} {v:V} {u:Value} {Q:Unit->Shared->Prop} (I:Inv X qp σ H s) (hN:X.N.Nodup) (hi:X.N[i]?=some x) (hx:Loc X.env.scope x) (r:zV v u)
  (h:∀ s',Inv X qp (σ.set i (some v)) H s'->Q () s') (hf:X.fn x=true \/ X.env.scope.names.lookup x=some .local:=by first | exact .inl rfl | exact .inr rfl | assumption):wpAny M A (storeName X.env x u) Q E s:=
 cD I hN hi hx r (fun s' I' _=>h s' I') hf
theorem Inv.call' {s':Shared} {ch:List Addr} (I:Inv X qp σ H s) (ho:s'.os=s.os) (u:Un (frs X.stack) ch H H' s.heap s'.heap) (hok:HOk X.prog X.w H' s'.heap) (hg:AllBare s'.gens)
  (hch:∀ b ∈ ch,(b ∈ X.ex \/ X.s₀.heap.objs.size <= b)/\b ≠ X.env.locals/\(∀ x c,X.env.cells.lookup x=some c->c ≠ b)/\∀ p ∈ X.pn ++ qp,p.1 ≠ b):Inv X qp σ H' s':=by
 obtain ⟨h',g',d',t',o'⟩:=s'
 have e:o'=s.os:=ho
 subst e
 exact I.call (g':=g') (t':=t') (d':=d') u hok hg hch
end
abbrev XK:=Value->Option Addr->Hp->Prop
abbrev St:=List (Option V)
abbrev VK:=V->Hp->Prop
abbrev TE:=St->Hp->VK->Prop
abbrev TT:=St->Hp->(Bool->Hp->Prop)->Prop
abbrev TA:=St->Hp->(List V->Hp->Prop)->Prop
structure sU where
 nx:St->Hp->Prop
 rt:VK
 bk:St->Hp->Prop:=fun _ _=>False
 ct:St->Hp->Prop:=fun _ _=>False
abbrev TS:=sU->St->Hp->Prop
def EP (X:Cx) (qp:LAO) (σ:St) (Q:VK) (u:Value) (s':Shared):Prop:=∃ v H',Inv X qp σ H' s'/\zV v u/\Q v H'
def TP (X:Cx) (qp:LAO) (σ:St) (Q:Bool->Hp->Prop) (b:Bool) (s':Shared):Prop:=∃ H',Inv X qp σ H' s'/\Q b H'
def AP (X:Cx) (qp:LAO) (σ:St) (Q:List V->Hp->Prop) (us:List Value) (s':Shared):Prop:=∃ vs H',Inv X qp σ H' s'/\zP vs us/\Q vs H'
def SP (X:Cx) (qp:LAO) (D:sU) (f:Flow) (s':Shared):Prop:=
 match f with
 | .next=>∃ σ' H',Inv X qp σ' H' s'/\D.nx σ' H'
 | .brk=>∃ σ' H',Inv X qp σ' H' s'/\D.bk σ' H'
 | .cont=>∃ σ' H',Inv X qp σ' H' s'/\D.ct σ' H'
 | .ret u=>∃ v σ' H',Inv X qp σ' H' s'/\zV v u/\D.rt v H'
def PE (X:Cx) (e:Expr) (t:TE):Prop:=
 ∀ (qp:LAO) (s:Shared) (σ:St) (H:Hp) (Q:VK),Inv X qp σ H s->t σ H Q->wpAny (model X.prog X.w) X.A (eval e X.env) (EP X qp σ Q) X.xe s
def PT (X:Cx) (e:Expr) (t:TT):Prop:=
 ∀ (qp:LAO) (s:Shared) (σ:St) (H:Hp) (Q:Bool->Hp->Prop),Inv X qp σ H s->t σ H Q->wpAny (model X.prog X.w) X.A (isTrue e X.env (eval e X.env)) (TP X qp σ Q) X.xe s
def PW (X:Cx) (e:Expr) (t:TT):Prop:=
 ∀ (whole:Sem Value) (qp:LAO) (s:Shared) (σ:St) (H:Hp) (Q:Bool->Hp->Prop),Inv X qp σ H s->t σ H Q->wpAny (model X.prog X.w) X.A (isTrue e X.env whole) (TP X qp σ Q) X.xe s
theorem PW.pt {X:Cx} {e:Expr} {t:TT} (h:PW X e t):PT X e t:=h _
def PA (X:Cx) (es:List Expr) (t:TA):Prop:=
 ∀ (pos:Pos) (qp:LAO) (s:Shared) (σ:St) (H:Hp) (Q:List V->Hp->Prop),Inv X qp σ H s->t σ H Q->wpAny (model X.prog X.w) X.A (spliced (backTo pos (starEach es X.env))) (AP X qp σ Q) X.xe s
def PS (X:Cx) (st:Stmt) (t:TS):Prop:=
 ∀ (qp:LAO) (s:Shared) (σ:St) (H:Hp) (D:sU),Inv X qp σ H s->t D σ H->wpAny (model X.prog X.w) X.A (exec st X.env) (SP X qp D) X.xe s
def PSs (X:Cx) (st:List Stmt) (t:TS):Prop:=
 ∀ (qp:LAO) (s:Shared) (σ:St) (H:Hp) (D:sU),Inv X qp σ H s->t D σ H->wpAny (model X.prog X.w) X.A (execs st X.env) (SP X qp D) X.xe s
theorem thn {α:Type} {t:Sem α} {Q Q':α->Shared->Prop} {M:Model} {A:Around} {E:VSP} {s:Shared} (h:wpAny M A t Q E s) (hQ:∀ a s,Q a s->Q' a s):wpAny M A t Q' E s:=wpAny_mono h hQ fun _ _ x=>x
section
variable {X:Cx}
def vS (i:Nat):TE:=fun σ H Q=>∃ v,σ[i]?=some (some v)/\Q v H
def tC (v:V):TE:=fun _ H Q=>Q v H
theorem zG0 {i:Nat} {x:Str} {pos:Pos} (hN:X.N[i]?=some x) (hv:Vis X.env.scope x) (hd:(x == ("__debug__" : Str))=false:=by decide) (hcd:(x == ("__classdict__" : Str))=false:=by decide):PE X (.Name x pos) (vS i):=by
 intro qp s σ H Q I h
 obtain ⟨v,e,h⟩:=h
 obtain ⟨m,hn,hl⟩:=I.loc
 obtain ⟨u,r,l⟩:=hl i x v hN e hv
 have fin:EP X qp σ Q u s:=⟨v,H,I,r,h⟩
 rcases l with ⟨hk,hm⟩ | ⟨hk,c,hc,hcell⟩
 ·exact wpAny_Name (wpAny_loadName_local I.ok.kind hk hn hm fin) hd
 ·rcases hk with hk | hk
  ·exact wpAny_Name (wpAny_loadName_cell I.ok.kind hk hc hcell fin) hd
  ·exact wpAny_Name (wpAny_loadName_free I.ok.kind hk hc hcell fin hcd) hd
theorem zG {i j pos}:PE X (.Constant (.int i) j pos) (tC (.int i)):=fun _ _ _ H _ I h=>wpAny_Constant_int ⟨.int i,H,I.tok _,⟨_,rfl⟩,h⟩
theorem pG {b j pos}:PE X (.Constant (.bool b) j pos) (tC (.bl b)):=fun _ _ _ H _ I h=>Constant_bool ⟨.bl b,H,I,rfl,h⟩
theorem hV {j pos}:PE X (.Constant .none j pos) (tC .non):=fun _ _ _ H _ I h=>Constant_none ⟨.non,H,I,rfl,h⟩
theorem zS {x j pos}:PE X (.Constant (.str x) j pos) (tC (.str x)):=fun _ _ _ H _ I h=>Calls.Constant_str ⟨.str x,H,I.tok _,⟨_,rfl⟩,h⟩
def Gl (X:Cx) (x:Str):Prop:=X.env.kindOf x=some .globalImplicit
theorem tD {E:VSP} {qp:LAO} {s:Shared} {σ:St} {H:Hp} {x:Str} {u:Value} {pos:Pos} {Q:VSP} (I:Inv X qp σ H s) (hg:Gl X x) (hm:X.mg x=some u) (h:Q u s)
  (hd:(x == ("__debug__" : Str))=false:=by decide):wpAny (model X.prog X.w) X.A (eval (.Name x pos) X.env) Q E s:=
 Calls.Name_function_global I.ok.kind hg (Calls.loadGlobal_global (by rw [I.ok.glob];exact I.mod.glob.keeps I.bk) hm h) hd
theorem tW {E:VSP} {qp:LAO} {s:Shared} {σ:St} {H:Hp} {x:Str} {u:Value} {pos:Pos} {Q:VSP} (I:Inv X qp σ H s) (hg:Gl X x) (hm:X.mg x=none) (hv:bootBuiltins x=some u) (h:Q u s)
  (hn:x ≠ "__name__":=by decide) (hd:(x == ("__debug__" : Str))=false:=by decide):wpAny (model X.prog X.w) X.A (eval (.Name x pos) X.env) Q E s:=by
 obtain ⟨mb,h1,h2⟩:=I.mod.blt
 exact Calls.Name_function_global I.ok.kind hg (Calls.loadGlobal_builtin (by rw [I.ok.glob];exact I.mod.glob.keeps I.bk) hm (by rw [I.ok.blt];exact h1.keeps I.bk) ((h2 x hn).trans hv) h) hd
theorem zDM {x:Str} {v:V} {u:Value} {pos:Pos} (hg:Gl X x) (hm:X.mg x=some u) (r:zV v u) (hd:(x == ("__debug__" : Str))=false:=by decide):PE X (.Name x pos) (tC v):=
 fun _ _ _ H _ I h=>tD I hg hm ⟨v,H,I,r,h⟩ hd
theorem zDP {x:Str} {v:V} {u:Value} {pos:Pos} (hg:Gl X x) (hm:X.mg x=none) (hv:bootBuiltins x=some u) (r:zV v u) (hn:x ≠ "__name__":=by decide) (hd:(x == ("__debug__" : Str))=false:=by decide):PE X (.Name x pos) (tC v):=
 fun _ _ _ H _ I h=>tW I hg hm hv ⟨v,H,I,r,h⟩ hn hd
variable {a b:Expr} {ta tb:TE} {pos:Pos}
def PC (X:Cx) (op:CmpOp) (a b:Expr) (t:TE):Prop:=
 ∀ (qp:LAO) (s:Shared) (σ:St) (H:Hp) (Q:VK),Inv X qp σ H s->t σ H Q ->
  wpAny (model X.prog X.w) X.A (eval a X.env) (fun v s₁=>wpAny (model X.prog X.w) X.A (eval b X.env) (fun u s₂=>wpAny (model X.prog X.w) X.A (compareOp op v u) (EP X qp σ Q) X.xe s₂) X.xe s₁) X.xe s
def tB (t:TE):TT:=fun σ H Q=>t σ H fun x H1=>∃ c,x=.bl c/\Q c H1
theorem zG3 {op:CmpOp} {t:TE} (h:PC X op a b t) (h1:behindInMarks op b=false:=by first | exact nobehind _ (by decide) (by decide) | rfl):PE X (.Compare a [op] [b] pos) t:=fun qp s σ H Q I hw=>wpAny_Compare1 (h qp s σ H Q I hw) h1
theorem hG {op:CmpOp} {t:TE} (h:PC X op a b t) (h1:behindInMarks op b=false:=by first | exact nobehind _ (by decide) (by decide) | rfl):PT X (.Compare a [op] [b] pos) (tB t):=by
 intro qp s σ H Q I hw
 refine wpAny_isTrue_Compare1 (thn (h qp s σ H _ I hw) fun v s1 h1=>thn h1 fun u s2 h2=>thn h2 fun c s3 hz1=>?_) h1
 obtain ⟨x,H1,I1,r1,q1⟩:=hz1
 obtain ⟨d,rfl,q⟩:=q1
 cases r1
 exact wpAny_truthy_bool ⟨H1,I1,q⟩
theorem xF {e:Expr} {t:TE} (h:PE X e t) (he:∀ whole,isTrue e X.env whole=(do let v <- whole;standAt e.pos;holding [v] (truthy v)):=by intro _;rfl):PT X e (tB t):=by
 intro qp s σ H Q I hw
 refine isTrue_plain (thn (h qp s σ H _ I hw) fun v s1 hz2=>?_) (he _)
 obtain ⟨x,H1,I1,r1,q1⟩:=hz2
 obtain ⟨d,rfl,q⟩:=q1
 cases r1
 exact wpAny_truthy_bool ⟨H1,I1,q⟩
variable {tA tB':TT} {rest:List Expr}
def bX (t u:TT):TT:=fun σ H Q=>t σ H fun c H1=>if c=true then u σ H1 Q else Q false H1
def tOr (t u:TT):TT:=fun σ H Q=>t σ H fun c H1=>if c=true then Q true H1 else u σ H1 Q
def zGI (t:TT):TT:=fun σ H Q=>t σ H fun c H1=>Q (!c) H1
theorem eS (ha:PT X a tA):PW X (.BoolOp .And [a] pos) tA:=by
 intro wh qp s σ H Q I h
 refine isTrue_and (thn (ha qp s σ H Q I h) fun c s1 e=>?_)
 cases c with
 | true=>exact isTrue_and_nil e
 | false=>exact e
theorem uO (ha:PT X a tA):PW X (.BoolOp .Or [a] pos) tA:=by
 intro wh qp s σ H Q I h
 refine isTrue_or (thn (ha qp s σ H Q I h) fun c s1 e=>?_)
 cases c with
 | false=>exact isTrue_or_nil e
 | true=>exact e
theorem i8 (ha:PT X a tA) (hb:PW X (.BoolOp .And (b :: rest) pos) tB'):PW X (.BoolOp .And (a :: b :: rest) pos) (bX tA tB'):=by
 intro wh qp s σ H Q I h
 refine isTrue_and (thn (ha qp s σ H _ I h) fun c s1 hz3=>?_)
 obtain ⟨H1,I1,q1⟩:=hz3
 cases c with
 | true=>exact hb wh qp s1 σ H1 Q I1 q1
 | false=>exact ⟨H1,I1,q1⟩
theorem vB (ha:PT X a tA) (hb:PW X (.BoolOp .Or (b :: rest) pos) tB'):PW X (.BoolOp .Or (a :: b :: rest) pos) (tOr tA tB'):=by
 intro wh qp s σ H Q I h
 refine isTrue_or (thn (ha qp s σ H _ I h) fun c s1 hz4=>?_)
 obtain ⟨H1,I1,q1⟩:=hz4
 cases c with
 | true=>exact ⟨H1,I1,q1⟩
 | false=>exact hb wh qp s1 σ H1 Q I1 q1
theorem xT (ha:PT X a tA):PT X (.UnaryOp .Not a pos) (zGI tA):=by
 intro qp s σ H Q I h
 exact isTrue_not (ha qp s σ H (fun c H1=>Q (!c) H1) I h)
def zIN (ta tb:TE):TE:=fun σ H Q=>ta σ H fun x H1=>∃ c,x=.bl c/\if c=true then tb σ H1 Q else Q (.bl false) H1
def zGH (ta tb:TE):TE:=fun σ H Q=>ta σ H fun x H1=>∃ c,x=.bl c/\if c=true then Q (.bl true) H1 else tb σ H1 Q
def zIG (ta:TE):TE:=fun σ H Q=>ta σ H fun x H1=>∃ c,x=.bl c/\Q (.bl (!c)) H1
theorem vP {op} {t:TE} (h:PE X a t):PE X (.BoolOp op [a] pos) t:=fun qp s σ H Q I hw=>BoolOp_one (h qp s σ H Q I hw)
theorem vQ (ha:PE X a ta) (hb:PE X (.BoolOp .And (b :: rest) pos) tb):PE X (.BoolOp .And (a :: b :: rest) pos) (zIN ta tb):=by
 intro qp s σ H Q I h
 refine BoolOp_and (thn (ha qp s σ H _ I h) fun v s1 hz5=>?_)
 obtain ⟨x,H1,I1,r1,q1⟩:=hz5
 obtain ⟨c,rfl,q1⟩:=q1
 cases r1
 refine wpAny_truthy_bool ?_
 cases c with
 | true=>exact hb qp s1 σ H1 Q I1 q1
 | false=>exact ⟨.bl false,H1,I1,rfl,q1⟩
theorem zFX (ha:PE X a ta) (hb:PE X (.BoolOp .Or (b :: rest) pos) tb):PE X (.BoolOp .Or (a :: b :: rest) pos) (zGH ta tb):=by
 intro qp s σ H Q I h
 refine BoolOp_or (thn (ha qp s σ H _ I h) fun v s1 hz6=>?_)
 obtain ⟨x,H1,I1,r1,q1⟩:=hz6
 obtain ⟨c,rfl,q1⟩:=q1
 cases r1
 refine wpAny_truthy_bool ?_
 cases c with
 | false=>exact hb qp s1 σ H1 Q I1 q1
 | true=>exact ⟨.bl true,H1,I1,rfl,q1⟩
theorem zG1 (ha:PE X a ta):PE X (.UnaryOp .Not a pos) (zIG ta):=by
 intro qp s σ H Q I h
 refine UnaryOp_ (thn (ha qp s σ H _ I h) fun v s1 hz7=>?_)
 obtain ⟨x,H1,I1,r1,q1⟩:=hz7
 obtain ⟨c,rfl,q1⟩:=q1
 cases r1
 exact not_of (wpAny_truthy_bool ⟨.bl (!c),H1,I1,rfl,q1⟩)
end
def SqL (K:W.Frag) (H:Hp) (a:Addr) (xs:List V):Prop:=
 Rd H a (.lst xs) \/
  ∃ (o:Obj) (its:Array Value) (n:Nat),K.lookup a=some o/\o.cls=.type "list"/\o.dict=none/\o.data=.seq its n/\its.size <= sizeLine/\zP xs its.toList
def SqT (K:W.Frag) (H:Hp) (a:Addr) (xs:List V):Prop:=
 Rd H a (.tup xs) \/
  ∃ (o:Obj) (its:Array Value) (n:Nat),K.lookup a=some o/\o.cls=.type "tuple"/\o.data=.seq its n/\its.size <= sizeLine/\zP xs its.toList
def absV:Value->Option V
 | .none=>some .non
 | .bool b=>some (.bl b)
 | .int i _=>some (.int i)
 | .str x _=>some (.str x)
 | .bytes b _=>some (.byt b)
 | .float b _=>some (.flt b)
 | .ref a=>some (.ref a)
 | .type n=>some (.ty n)
 | _=>none
theorem zV.abs {x:V} {u:Value} (r:zV x u):absV u=some x:=by
 cases x with
 | non=>cases r;rfl
 | bl _=>cases r;rfl
 | int _=>obtain ⟨t,rfl⟩:=r;rfl
 | str _=>obtain ⟨t,rfl⟩:=r;rfl
 | byt _=>obtain ⟨t,rfl⟩:=r;rfl
 | flt _=>obtain ⟨t,rfl⟩:=r;rfl
 | ref _=>cases r;rfl
 | ty _=>cases r;rfl
theorem zV.inj {x y:V} {u:Value} (r:zV x u) (q:zV y u):x=y:=zKA (r.abs.symm.trans q.abs)
theorem zP.inj:∀ {xs ys:List V} {us:List Value},zP xs us->zP ys us->xs=ys
 | _,_,_,.nil,.nil=>rfl
 | _,_,_,.cons r t,.cons r' t'=>by rw [r.inj r',zP.inj t t']
section
variable {X:Cx} {qp:LAO} {σ:St} {H:Hp} {s:Shared} {a:Addr} {xs ys:List V}
theorem SqL.of {K:W.Frag} (h:H a=some (.lst xs)):SqL K H a xs:=.inl (.inl h)
theorem SqT.of {K:W.Frag} (h:H a=some (.tup xs)):SqT K H a xs:=.inl (.inl h)
theorem Inv.list (I:Inv X qp σ H s) (h:SqL X.K H a xs):∃ its:List Value,zP xs its/\PlainL s.heap a its.toArray/\xs.length <= sizeLine:=by
 rcases h with h | ⟨o,its,n,hk,hc,hd,hs,hz,r⟩
 ·obtain ⟨z,its,n,r,e⟩:=h.ok I.hok
  exact ⟨its,r,⟨_,n,e,rfl,rfl,rfl⟩,z⟩
 ·refine ⟨its.toList,r,⟨o,n,I.kIn a o hk,hc,hd,by simpa using hs⟩,?_⟩
  have e:=r.length
  simp only [Array.length_toList] at e
  omega
theorem Inv.tuple (I:Inv X qp σ H s) (h:SqT X.K H a xs):∃ its:List Value,zP xs its/\IsTup s.heap a its.toArray/\xs.length <= sizeLine:=by
 rcases h with h | ⟨o,its,n,hk,hc,hs,hz,r⟩
 ·obtain ⟨z,its,r,p⟩:=h.ok I.hok
  exact ⟨its,r,p,z⟩
 ·refine ⟨its.toList,r,⟨o,I.kIn a o hk,hc,n,by simpa using hs⟩,?_⟩
  have e:=r.length
  simp only [Array.length_toList] at e
  omega
theorem Inv.list_inj (I:Inv X qp σ H s) (h:SqL X.K H a xs) (h':SqL X.K H a ys):xs=ys:=by
 obtain ⟨its,r,⟨o,n,e,_,_,d⟩,_⟩:=I.list h
 obtain ⟨its',r',⟨o',n',e',_,_,d'⟩,_⟩:=I.list h'
 rw [e] at e';cases e'
 rw [d] at d'
 injection d' with d1 _
 have:its=its':=by simpa using congrArg Array.toList d1
 subst this
 exact r.inj r'
end
abbrev Cx.wish (X:Cx) (E:VSP):Cx:={ X with xe:=E }
abbrev Cx.nox (X:Cx):Cx:=X.wish fun _ _=>False
theorem Cx.Ok.wish {X:Cx} (ok:X.Ok) (E:VSP):(X.wish E).Ok:=
 ⟨ok.mod,ok.kind,ok.glob,ok.blt,ok.above,ok.inj,ok.has,ok.cab,ok.hd,ok.frames,ok.stk,ok.exf,ok.bs,ok.bsz,ok.noex,ok.exfs,ok.funs,ok.frf⟩
theorem Cx.Ok.unwish {X:Cx} {E:VSP} (ok:(X.wish E).Ok):X.Ok:=
 ⟨ok.mod,ok.kind,ok.glob,ok.blt,ok.above,ok.inj,ok.has,ok.cab,ok.hd,ok.frames,ok.stk,ok.exf,ok.bs,ok.bsz,ok.noex,ok.exfs,ok.funs,ok.frf⟩
section
variable {X:Cx} {qp:LAO} {σ:St} {H:Hp} {s:Shared} {E:VSP}
theorem Inv.wish (I:Inv X qp σ H s) (E:VSP):Inv (X.wish E) qp σ H s:=⟨I.ok.wish E,I.os,I.bare,I.base,I.loc,I.cell,I.free,I.freeC,I.pin,I.hok,I.len⟩
theorem Inv.unwish (I:Inv (X.wish E) qp σ H s):Inv X qp σ H s:=⟨I.ok.unwish,I.os,I.bare,I.base,I.loc,I.cell,I.free,I.freeC,I.pin,I.hok,I.len⟩
theorem SP.unwish {D:sU} {f:Flow} {s':Shared} (h:SP (X.wish E) qp D f s'):SP X qp D f s':=by
 cases f with
 | next=>obtain ⟨σ',H',I,q⟩:=h;exact ⟨σ',H',I.unwish,q⟩
 | brk=>obtain ⟨σ',H',I,q⟩:=h;exact ⟨σ',H',I.unwish,q⟩
 | cont=>obtain ⟨σ',H',I,q⟩:=h;exact ⟨σ',H',I.unwish,q⟩
 | ret u=>obtain ⟨v,σ',H',I,r,q⟩:=h;exact ⟨v,σ',H',I.unwish,r,q⟩
theorem PSs.nox {st:List Stmt} {t:TS} (h:PSs X.nox st t):PSs X st t:=fun qp s σ H D I hw=>
 wpAny_mono (h qp s σ H D (I.wish _) hw) (fun _ _ q=>q.unwish) fun _ _ z=>False.elim z
end
section
variable {X:Cx} {st:Stmt} {rest:List Stmt} {t u:TS} {e:Expr} {te:TE} {pos:Pos}
def fR:TS:=fun D σ H=>D.nx σ H
def rZ (t u:TS):TS:=fun D σ H=>t { D with nx:=u D } σ H
theorem yE:PSs X [] fR:=fun _ _ σ H _ I h=>wpAny_execs_nil ⟨σ,H,I,h⟩
theorem zE (h1:PS X st t) (h2:PSs X rest u):PSs X (st :: rest) (rZ t u):=by
 intro qp s σ H D I h
 refine wpAny_execs_cons (thn (h1 qp s σ H { D with nx:=u D } I h) fun f s1 q=>?_)
 cases f with
 | next=>
  obtain ⟨σ',H',I',q⟩:=q
  exact h2 qp s1 σ' H' D I' q
 | ret v=>exact q
 | brk=>exact q
 | cont=>exact q
theorem zJ (h1:PS X st t):PSs X [st] t:=by
 intro qp s σ H D I h
 refine wpAny_execs_cons (thn (h1 qp s σ H D I h) fun f s1 q=>?_)
 cases f with
 | next=>exact wpAny_execs_nil q
 | ret v=>exact q
 | brk=>exact q
 | cont=>exact q
theorem Inv.quiet {qp:LAO} {σ:St} {H:Hp} {s:Shared} (I:Inv X qp σ H s):interactive X.env=false:=by simp [interactive,I.ok.kind]
def zIJ (te:TE):TS:=fun D σ H=>te σ H fun _ H1=>D.nx σ H1
theorem xC (he:PE X e te) (hs:swapsWith e none pos.line X.env=pure false:=by rfl):PS X (.Expr e pos) (zIJ te):=by
 intro qp s σ H D I h
 exact wpAny_Expr_any (thn (he qp s σ H _ I h) fun v s1 ⟨x,H1,I1,r1,q1⟩=>⟨σ,H1,I1,q1⟩) I.quiet hs
def zCN (te:TE):TS:=fun D σ H=>te σ H D.rt
theorem zT (he:PE X e te):PS X (.Return (some e) pos) (zCN te):=by
 intro qp s σ H D I h
 exact wpAny_Return_some (thn (he qp s σ H _ I h) fun v s1 ⟨x,H1,I1,r1,q1⟩=>⟨x,σ,H1,I1,r1,q1⟩)
def iR (c:TT) (t u:TS):TS:=fun D σ H=>c σ H fun b H1=>if b=true then t D σ H1 else u D σ H1
theorem yW {c:Expr} {a b:List Stmt} {tc:TT} (hc:PT X c tc) (ha:PSs X a t) (hb:PSs X b u):PS X (.If c a b pos) (iR tc t u):=by
 intro qp s σ H D I h
 refine wpAny_If (thn (hc qp s σ H _ I h) fun d s1 hz8=>?_)
 obtain ⟨H1,I1,q1⟩:=hz8
 cases d with
 | true=>exact ha qp s1 σ H1 D I1 q1
 | false=>exact hb qp s1 σ H1 D I1 q1
def zGJ:TS:=fun _ _ _=>False
theorem pC:PS X st zGJ:=fun _ _ _ _ _ _ h=>h.elim
end
abbrev TG:=V->St->Hp->(St->Hp->Prop)->Prop
abbrev TGs:=List V->St->Hp->(St->Hp->Prop)->Prop
def PG (X:Cx) (target:Expr) (t:TG):Prop:=
 ∀ (qp:LAO) (s:Shared) (σ:St) (H:Hp) (v:V) (u:Value) (Q:St->Hp->Prop),Inv X qp σ H s->zV v u->t v σ H Q ->
  wpAny (model X.prog X.w) X.A (assign target X.env u) (fun _ s'=>∃ σ' H',Inv X qp σ' H' s'/\Q σ' H') X.xe s
def PGs (X:Cx) (ts:List Expr) (t:TGs):Prop:=
 ∀ (qp:LAO) (s:Shared) (σ:St) (H:Hp) (vs:List V) (us:List Value) (Q:St->Hp->Prop),Inv X qp σ H s->zP vs us->t vs σ H Q ->
  wpAny (model X.prog X.w) X.A (assignInOrder ((assignEach ts X.env).map (·.2)) us) (fun _ s'=>∃ σ' H',Inv X qp σ' H' s'/\Q σ' H') X.xe s
abbrev zH6:=V->V->V->Hp->(Hp->Prop)->Prop
def zJZ (X:Cx) (t:zH6):Prop:=
 ∀ (qp:LAO) (s:Shared) (σ:St) (H:Hp) (o i v:V) (ov iv u:Value) (Q:Hp->Prop),Inv X qp σ H s->zV o ov->zV i iv->zV v u->t o i v H Q ->
  wpAny (model X.prog X.w) X.A (setItem ov iv u) (fun _ s'=>∃ H',Inv X qp σ H' s'/\Q H') X.xe s
section
variable {X:Cx} {pos:Pos}
def wL (i:Nat):TG:=fun v σ H Q=>Q (σ.set i (some v)) H
theorem z4 {i:Nat} {x:Str} (hN:X.N.Nodup) (hi:X.N[i]?=some x) (hx:Loc X.env.scope x) (hf:X.fn x=true \/ X.env.scope.names.lookup x=some .local:=by first | exact .inl rfl | exact .inr rfl | assumption):PG X (.Name x pos) (wL i):=by
 intro qp s σ H v u Q I r h
 exact wpAny_assign_Name (uL I hN hi hx r (fun s' I'=>⟨_,H,I',h⟩) hf)
def gNil:TGs:=fun vs σ H Q=>vs=[]/\Q σ H
def zF3 (t:TG) (u:TGs):TGs:=fun vs σ H Q=>∃ v r,vs=v :: r/\t v σ H fun σ' H'=>u r σ' H' Q
theorem wR:PGs X [] gNil:=by
 intro qp s σ H vs us Q I r h
 obtain ⟨e,h⟩:=h
 subst e
 cases r
 exact assignInOrder_nil ⟨σ,H,I,h⟩
theorem yO {e:Expr} {es:List Expr} {t:TG} {u:TGs} (h1:PG X e t) (h2:PGs X es u)
  (hs:(assignEach (e :: es) X.env).map (·.2)=assign e X.env :: (assignEach es X.env).map (·.2):=by rfl):PGs X (e :: es) (zF3 t u):=by
 intro qp s σ H vs us Q I r h
 obtain ⟨v,vr,e1,h⟩:=h
 subst e1
 cases r with
 | cons r rr=>
  rw [hs]
  refine assignInOrder_cons (thn (h1 qp s σ H _ _ _ I r h) fun _ s1 hz9=>?_)
  obtain ⟨σ1,H1,I1,q1⟩:=hz9
  exact h2 qp s1 σ1 H1 _ _ Q I1 rr q1
def gTup (K:W.Frag) (n:Nat) (t:TGs):TG:=fun v σ H Q=>∃ a xs,v=.ref a/\SqT K H a xs/\xs.length=n/\t xs σ H Q
theorem pE {es:List Expr} {k:Nat} {t:TGs} {n:Nat} (hc:X.calm=true) (h:PGs X es t)
  (hn:(assignEach es X.env).length=n:=by rfl) (hst:(assignEach es X.env).findIdx? (·.1)=none:=by rfl):PG X (.Tuple es k pos) (gTup X.K n t):=by
 intro qp s σ H v u Q I r hw
 obtain ⟨a,xs,e1,hq,hl,hw⟩:=hw
 subst e1
 cases r
 obtain ⟨its,rv,ht,hz⟩:=I.tuple hq
 refine assign_Tuple_tuple (I.ok.hd hc) ht (by simp [hn,<- hl,rv.length]) hst fun h' hx=>?_
 have I1:Inv X qp σ H { s with heap:=h' }:=I.kept (t':=s.toks) fun b o e=>hx b o (zKU (Heap.lt_size e)) e
 exact h qp _ σ H xs _ Q I1 (by simpa using rv) hw
def zJR (to ti:TE) (t:zH6):TG:=fun v σ H Q=>to σ H fun o H1=>ti σ H1 fun i H2=>t o i v H2 fun H3=>Q σ H3
theorem mY {o i:Expr} {to ti:TE} {t:zH6} (ho:PE X o to) (hi:PE X i ti) (hs:zJZ X t)
  (ha:∀ v,assign (.Subscript o i pos) X.env v=(do
   let ov <- holding [v] (eval o X.env)
   let iv <- holding [v,ov] (eval i X.env)
   standAt pos
   holding [v,ov,iv] (setItem ov iv v)
   release [v,ov,iv] []):=by intro _;rfl):PG X (.Subscript o i pos) (zJR to ti t):=by
 intro qp s σ H v u Q I r h
 rw [ha]
 refine wpAny_bind (wpAny_holding (thn (ho qp s σ H _ I h) fun ov s1 hz10=>?_))
 obtain ⟨x,H1,I1,r1,q1⟩:=hz10
 refine wpAny_bind (wpAny_holding (thn (hi qp s1 σ H1 _ I1 q1) fun iv s2 hz11=>?_))
 obtain ⟨y,H2,I2,r2,q2⟩:=hz11
 refine wpAny_bind (wpAny_standAt (wpAny_bind (wpAny_holding (thn (hs qp s2 σ H2 x y v ov iv u _ I2 r1 r2 r q2) fun _ s3 hz12=>?_))))
 obtain ⟨H3,I3,q3⟩:=hz12
 exact wpAny_release ⟨σ,H3,I3,q3⟩
def r8 (te:TE) (g:TG):TS:=fun D σ H=>te σ H fun x H1=>g x σ H1 D.nx
theorem vO {tg e:Expr} {te:TE} {g:TG} (he:PE X e te) (hg:PG X tg g) (hs:swapsWithSole [tg] e pos.line X.env=pure false:=by rfl) (hw:swappedStores [tg] e X.env=pure none:=by rfl)
  (h1:(assignEach [tg] X.env).map (·.2)=[assign tg X.env]:=by rfl):PS X (.Assign [tg] e pos) (r8 te g):=by
 intro qp s σ H D I h
 refine wpAny_Assign_stores (thn (he qp s σ H _ I h) fun v s1 hz13=>?_) hs hw
 obtain ⟨x,H1,I1,r1,q1⟩:=hz13
 rw [h1]
 exact thn (hg qp s1 σ H1 x v _ I1 r1 q1) fun _ s2 q=>q
theorem zL {i:Nat} {x:Str} {e:Expr} {te:TE} {pos':Pos} (hN:X.N.Nodup) (hi:X.N[i]?=some x) (hx:Loc X.env.scope x) (he:PE X e te) (hs:swapsWith e (some (.Name x pos')) pos.line X.env=pure false:=by rfl) (hf:X.fn x=true \/ X.env.scope.names.lookup x=some .local:=by first | exact .inl rfl | exact .inr rfl | assumption) :
  PS X (.Assign [.Name x pos'] e pos) (r8 te (wL i)):=by
 intro qp s σ H D I h
 refine wpAny_Assign_Name (thn (he qp s σ H _ I h) fun v s1 hz14=>?_) hs
 obtain ⟨y,H1,I1,r1,q1⟩:=hz14
 exact uL I1 hN hi hx r1 (fun s2 I2=>⟨_,H1,I2,q1⟩) hf
def zGG (c:TT) (tb:TS):TS:=fun D σ H=>∃ W:Nat->St->Hp->Prop,(∃ m,W m σ H)/\∀ m σ H,W m σ H ->
 c σ H fun b H1=>if b=true then ∃ N:St->Hp->Prop,(∀ σ' H',N σ' H'->∃ m',m' < m/\W m' σ' H')/\tb { D with nx:=N,ct:=N,bk:=D.nx } σ H1 else D.nx σ H1
theorem jE {c:Expr} {body:List Stmt} {tc:TT} {tb:TS} (hp:PassesOwn (model X.prog X.w) X.A X.env X.xe) (hc:PT X c tc) (hb:PSs X body tb):PS X (.While c body [] pos) (zGG tc tb):=by
 intro qp s σ H D I h
 obtain ⟨W,⟨m0,w0⟩,turn⟩:=h
 refine wpAny_While (codeAny_whileLoop (fun n s'=>∃ σ' H',Inv X qp σ' H' s'/\W n σ' H') ?_ m0 ⟨σ,H,I,w0⟩)
 rintro n s1 ⟨σ1,H1,I1,w1⟩
 refine wpAny_passesOwn hp (thn (hc qp s1 σ1 H1 _ I1 (turn n σ1 H1 w1)) fun b s2 hz15=>?_)
 obtain ⟨H2,I2,q2⟩:=hz15
 cases b with
 | true=>
  obtain ⟨N,hN,q2⟩:=q2
  rw [if_pos rfl]
  refine wpAny_passesOwn hp (thn (hb qp s2 σ1 H2 _ I2 q2) fun f s3 q3=>?_)
  cases f with
  | next=>
   obtain ⟨σ3,H3,I3,n3⟩:=q3
   obtain ⟨m',hm,w3⟩:=hN σ3 H3 n3
   exact ⟨m',hm,σ3,H3,I3,w3⟩
  | cont=>
   obtain ⟨σ3,H3,I3,n3⟩:=q3
   obtain ⟨m',hm,w3⟩:=hN σ3 H3 n3
   exact ⟨m',hm,σ3,H3,I3,w3⟩
  | brk=>exact q3
  | ret v=>exact q3
 | false=>
  rw [if_neg zKV]
  exact wpAny_execs_nil ⟨σ1,H2,I2,q2⟩
end
structure It where
 go:Nat->Hp->Prop
 yld:Nat->Hp->V->Hp->Prop
 stop:Nat->Hp->Prop
def uV (X:Cx) (qp:LAO) (H:Hp) (b:Addr):Prop:=
 H b=none/\b ≠ X.env.locals/\b ∉ X.fs/\(b ∈ X.ex \/ X.s₀.heap.objs.size <= b)/\(∀ x c,X.env.cells.lookup x=some c->c ≠ b)/\∀ p ∈ X.pn ++ qp,p.1 ≠ b
theorem Inv.fpOk {X:Cx} {qp:LAO} {σ:St} {H H':Hp} {s:Shared} {b:Addr} (I:Inv X qp σ H s) (hb:s.heap.objs.size <= b) (hn:H' b=none):uV X qp H' b:=by
 refine ⟨hn,Nat.ne_of_gt (zKP I.lt hb),I.nofs hb,.inr (zKE I.sz hb),fun x c e z=>?_,fun p hp z=>?_⟩
 ·obtain ⟨v,q⟩:=I.cell x c e
  exact absurd (zKP q.lt (by rw [z];exact hb)) (Nat.lt_irrefl _)
 ·exact absurd (zKP (Heap.lt_size (I.pin p hp).1) (by rw [z];exact hb)) (Nat.lt_irrefl _)
structure zCI (P:Program) (w:World) (K:W.Frag) (tg:Expr) (J:It) (fp:List Addr) (it:Addr) (tn:Nat->Heap->Prop):Prop where
 mem:it ∈ fp
 obj:∀ i h,tn i h->∀ b ∈ fp,∃ o,h.get? b=some o/\∀ v,o.data ≠ .cell v
 keep:∀ i h h',tn i h->(∀ b ∈ fp,∀ o,h.get? b=some o->h'.get? b=some o)->tn i h'
 item:∀ (X:Cx),X.prog=P->X.w=w->X.K=K->X.calm=true->∀ (i:Nat) (qp:LAO) (s:Shared) (σ:St) (H:Hp) (E:VSP),Inv X qp σ H s->(∀ b ∈ fp,uV X qp H b)->tn i s.heap->J.go i H ->
  wpAny (model P w) X.A (pyNext (.ref it)) (fun r s1=>∃ u,r=some u /\
   wpAny (model P w) X.A (letOwnedTupleGo tg (.ref it) u) (fun _ s2=>∃ x H',Inv X qp σ H' s2/\zV x u/\J.yld i H x H'/\tn (i + 1) s2.heap/\∀ b ∈ fp,H' b=none) E s1) E s
 done:∀ (X:Cx),X.prog=P->X.w=w->X.K=K->X.calm=true->∀ (i:Nat) (qp:LAO) (s:Shared) (σ:St) (H:Hp) (E:VSP),Inv X qp σ H s->(∀ b ∈ fp,uV X qp H b)->tn i s.heap->J.stop i H ->
  wpAny (model P w) X.A (pyNext (.ref it)) (fun r s1=>r=none/\Inv X qp σ H s1) E s
 self:∀ (A:Around) (i:Nat) (s:Shared) (Q:VSP) (E:VSP),tn i s.heap->Q (.ref it) s->wpAny (model P w) A (pyIter (.ref it)) Q E s
abbrev TI:=St->Hp->(It->Hp->Prop)->Prop
def PIE (X:Cx) (qp:LAO) (σ:St) (tg:Expr) (R:It->Hp->Prop) (itv:Value) (s2:Shared):Prop:=
 ∃ (it:Addr) (fp:List Addr) (tn:Nat->Heap->Prop) (J:It) (H':Hp),itv=.ref it/\Inv X qp σ H' s2/\zCI X.prog X.w X.K tg J fp it tn/\tn 0 s2.heap/\(∀ b ∈ fp,uV X qp H' b)/\R J H'
def PI (X:Cx) (tg iter:Expr) (wi:TI):Prop:=
 ∀ (qp:LAO) (s:Shared) (σ:St) (H:Hp) (R:It->Hp->Prop),Inv X qp σ H s->wi σ H R ->
  wpAny (model X.prog X.w) X.A (eval iter X.env) (fun v s1=>wpAny (model X.prog X.w) X.A (pyIter v) (PIE X qp σ tg R) X.xe s1) X.xe s
theorem zBK {M:Model} {A:Around} {E:VSP} {s:Shared} {tg:Expr} {it:Addr} {u:Value} {o:Obj} {n:String} {vs:Array Value} {Q:Unit->Shared->Prop} (ho:s.heap.get? it=some o) (hc:o.cls=.type n) (hd:o.data=.fields vs)
    (hn:["enumerate","zip","dict_itemiterator","dict_reverseitemiterator","odict_iterator","itertools.zip_longest","itertools.pairwise"].contains n=false) (hQ:Q () s):wpAny M A (letOwnedTupleGo tg (.ref it) u) Q E s:=by
  unfold letOwnedTupleGo
  cases tg <;> first
    | exact wpAny_pure hQ
    | (cases u <;> first
        | exact wpAny_pure hQ
        | (refine wpAny_bind (wpAny_load ho ?_)
           rw [hc,hd]
           show wpAny M A (if (["enumerate","zip","dict_itemiterator","dict_reverseitemiterator","odict_iterator","itertools.zip_longest","itertools.pairwise"].contains n && vs[0]? == some (rawInt _))=true then _ else _) Q E s
           rw [if_neg (by intro h;rw [hn,Bool.false_and] at h;cases h)]
           exact wpAny_pure hQ))
def Itl (K:W.Frag) (a:Addr):It:=
 ⟨fun i H=>∃ xs x,SqL K H a xs/\xs[i]?=some x,fun i H x H'=>H'=H/\∀ xs,SqL K H a xs->xs[i]?=some x,fun i H=>∃ xs,SqL K H a xs/\xs.length <= i⟩
def Itr (lo:Int) (n:Nat):It:=⟨fun i _=>i < n,fun i H x H'=>H'=H/\x=.int (lo + i),fun i _=>n <= i⟩
theorem cB {P:Program} {w:World} {K:W.Frag} {tg:Expr} (a it:Addr):zCI P w K tg (Itl K a) [it] it (fun i h=>h.IsListIter it a i) where
 mem:=by simp
 obj:=fun i h st b hb=>by
  have e:b=it:=by simpa using hb
  subst e
  obtain ⟨o,e,c,d⟩:=st
  exact ⟨o,e,fun v z=>by rw [d] at z;cases z⟩
 keep:=fun i h h' st k=>st.at fun o e=>k it (by simp) o e
 item:=by
  intro X hP hw hK hc i qp s σ H E I hf st hg
  subst hP hw hK
  obtain ⟨xs,x,hq,hx⟩:=hg
  obtain ⟨its,rv,p,hz⟩:=I.list hq
  obtain ⟨u,hu,ru⟩:=rv.get hx
  obtain ⟨f0,f1,f2,f3,f4,f5⟩:=hf it (by simp)
  refine wpAny_pyNext_list_item st p.isList (x:=u) (by simpa using hu) fun h' st' sb=>?_
  have I1:Inv X qp σ H { s with heap:=h' }:=I.turned (t':=s.toks) (fun b o hb e=>(sb.2 b hb).trans e) f0 f1 f3 f4 f5
  obtain ⟨o,e,c,d⟩:=id st'
  exact ⟨u,rfl,zBK (s:={ s with heap:=h' }) e c d (by decide) ⟨x,H,I1,ru,⟨rfl,fun ys hy=>by rw [I.list_inj hy hq];exact hx⟩,st',fun b hb=>(hf b hb).1⟩⟩
 done:=by
  intro X hP hw hK hc i qp s σ H E I hf st hg
  subst hP hw hK
  obtain ⟨xs,hq,hx⟩:=hg
  obtain ⟨its,rv,p,hz⟩:=I.list hq
  obtain ⟨f0,f1,f2,f3,f4,f5⟩:=hf it (by simp)
  have hl:=rv.length
  exact wpAny_pyNext_list_end (I.ok.hd hc) st p.isList (by simp;omega) fun h' eb=>⟨rfl,I.turned (t':=s.toks) (fun b o hb e=>eb b o hb e) f0 f1 f3 f4 f5⟩
 self:=fun _ _ _ _ _ st h=>wpAny_pyIter_listiter st h
theorem iO {P:Program} {w:World} {K:PySem.W.Frag} {tg:Expr} (it:Addr) (lo:Int) (n:Nat):zCI P w K tg (Itr lo n) [it] it (fun i h=>IsRangeIter h it (lo + (i:Nat) * 1) ((n:Int) - (i:Nat)) 1) where
 mem:=by simp
 obj:=fun i h st b hb=>by
  have e:b=it:=by simpa using hb
  subst e
  exact ⟨_,st,fun v z=>by
   have z':Data.fields _=Data.cell v:=z
   cases z'⟩
 keep:=fun i h h' st k=>k it (by simp) _ st
 item:=by
  intro X hP hw hK hc i qp s σ H E I hf st hg
  subst hP hw hK
  obtain ⟨f0,f1,f2,f3,f4,f5⟩:=hf it (by simp)
  have W:=Walks.range (prog:=X.prog) (w:=X.w) (I.ok.hd hc) it lo 1 n
  refine W.item i s _ _ hg st fun v h' tk hv st' kk=>?_
  obtain ⟨t,rfl⟩:=hv
  have I1:Inv X qp σ H { s with heap:=h',toks:=tk }:=I.turned (fun b o hb e=>kk b o (by simpa using hb) e) f0 f1 f3 f4 f5
  refine ⟨_,rfl,zBK (s:={ s with heap:=h',toks:=tk }) (n:="range_iterator") st' rfl rfl (by decide) ⟨.int (lo + i),H,I1,⟨t,?_⟩,⟨rfl,rfl⟩,st',fun b hb=>(hf b hb).1⟩⟩
  rw [Int.mul_one]
 done:=by
  intro X hP hw hK hc i qp s σ H E I hf st hg
  subst hP hw hK
  obtain ⟨f0,f1,f2,f3,f4,f5⟩:=hf it (by simp)
  exact wpAny_pyNext_range_end (I.ok.hd hc) st (by have:n <= i:=hg;omega) fun h' eb=>⟨rfl,I.turned (t':=s.toks) (fun b o hb e=>eb b o hb e) f0 f1 f3 f4 f5⟩
 self:=fun _ _ _ _ _ st h=>wpAny_pyIter_rangeiter st h
section
variable {X:Cx} {tg:Expr}
def zJQ (K:W.Frag) (tl:TE):TI:=fun σ H R=>tl σ H fun x H1=>∃ a,x=.ref a/\(∃ xs,SqL K H1 a xs)/\R (Itl K a) H1
theorem yY {l:Expr} {tl:TE} (hl:PE X l tl):PI X tg l (zJQ X.K tl):=by
 intro qp s σ H R I h
 refine thn (hl qp s σ H _ I h) fun v s1 hz16=>?_
 obtain ⟨x,H1,I1,r1,q1⟩:=hz16
 obtain ⟨a,e,⟨xs,hq⟩,q⟩:=q1
 subst e
 cases r1
 obtain ⟨its,rv,p,hz⟩:=I1.list hq
 refine wpAny_pyIter_list p.isList ?_
 refine ⟨s1.heap.objs.size,[s1.heap.objs.size],_,_,H1,rfl,I1.kept (t':=s1.toks) fun b o e=>Heap.get?_push_of_some _ e,cB a _,⟨_,Heap.get?_push_size _ rfl,rfl,rfl⟩,fun b hb=>?_,q⟩
 have e:b=s1.heap.objs.size:=by simpa using hb
 subst e
 exact I1.fpOk (zKC _) (I1.hok.fresh (zKC _))
theorem jC {qp:LAO} {σ:St} {H:Hp} {s:Shared} {R:It->Hp->Prop} {E:VSP} {lo hi:Int} {t u v:Tok} {tk:Nat} (I:Inv X qp σ H s) (h1:-(2 ^ 62) <= lo) (h2:lo < 2 ^ 62) (h3:-(2 ^ 62) <= hi) (h4:hi < 2 ^ 62)
  (q:R (Itr lo (hi - lo).toNat) H):wpAny (model X.prog X.w) X.A (pyIter (.ref s.heap.objs.size)) (PIE X qp σ tg R) E { s with heap:=s.heap.push { cls:=.type "range",data:=.fields #[.int lo t,.int hi u,.int 1 v] },toks:=tk }:=by
 refine wpAny_pyIter_range (IsRange.new ..) (small_one h1 h2 h3 h4) ?_
 have I1:Inv X qp σ H { s with heap:=s.heap.push { cls:=.type "range",data:=.fields #[.int lo t,.int hi u,.int 1 v] },toks:=tk }:=I.kept fun b o e=>Heap.get?_push_of_some _ e
 refine ⟨(s.heap.push { cls:=.type "range",data:=.fields #[.int lo t,.int hi u,.int 1 v] }).objs.size,[(s.heap.push { cls:=.type "range",data:=.fields #[.int lo t,.int hi u,.int 1 v] }).objs.size],_,_,H,rfl,
  I1.kept (t':=tk) fun b o e=>Heap.get?_push_of_some _ e,iO _ lo (hi - lo).toNat,?_,fun b hb=>?_,q⟩
 ·have e1:lo + ((0:Nat):Int) * 1=lo:=by simp
  have e2:(((hi - lo).toNat:Nat):Int) - ((0:Nat):Int)=Builtin.Range.rangeSize lo hi 1:=by rw [rangeSize_one];split <;> omega
  show IsRangeIter _ _ (lo + ((0:Nat):Int) * 1) ((((hi - lo).toNat:Nat):Int) - ((0:Nat):Int)) 1
  rw [e1,e2]
  exact Heap.get?_push_size _ rfl
 ·have e:b=(s.heap.push { cls:=.type "range",data:=.fields #[.int lo t,.int hi u,.int 1 v] }).objs.size:=by simpa using hb
  subst e
  exact I1.fpOk (zKC _) (I1.hok.fresh (zKC _))
def zJP (ta:TA):TI:=fun σ H R=>ta σ H fun vs H1=>∃ j:Int,vs=[.int j]/\-(2 ^ 62) <= j/\j < 2 ^ 62/\R (Itr 0 j.toNat) H1
def zJO (ta:TA):TI:=fun σ H R=>ta σ H fun vs H1=>∃ i j:Int,vs=[.int i,.int j]/\(-(2 ^ 62) <= i/\i < 2 ^ 62/\-(2 ^ 62) <= j/\j < 2 ^ 62)/\R (Itr i (j - i).toNat) H1
theorem u6 {a:Expr} {ta:TA} {p pos:Pos} (hg:Gl X "range") (hm:X.mg "range"=none) (ha:PA X [a] ta) (hs:starEach [a] X.env=[(false,eval a X.env)]:=by rfl):PI X tg (.Call (.Name "range" p) [a] [] pos) (zJP ta):=by
 intro qp s σ H R I h
 refine Call_ (tW I hg hm boot_range (PyProof.Rows.callWith_type1 (thn (ha pos qp s σ H _ I h) fun us s1 hz17=>?_) hs rfl))
 obtain ⟨vs,H1,I1,r1,q1⟩:=hz17
 obtain ⟨j,e,q1,q2,q⟩:=q1
 subst e
 cases r1 with
 | cons r rr=>
  cases rr
  obtain ⟨t,rfl⟩:=r
  exact call_range_1 (jC I1 (by omega) (by omega) q1 q2 (by simpa using q))
theorem cR {a b:Expr} {ta:TA} {p pos:Pos} (hg:Gl X "range") (hm:X.mg "range"=none) (ha:PA X [a,b] ta) (hs:starEach [a,b] X.env=[(false,eval a X.env),(false,eval b X.env)]:=by rfl) (hs2:starEach [b] X.env=[(false,eval b X.env)]:=by rfl) :
  PI X tg (.Call (.Name "range" p) [a,b] [] pos) (zJO ta):=by
 intro qp s σ H R I h
 refine Call_ (tW I hg hm boot_range (PyProof.Rows.callWith_type1 (thn (ha pos qp s σ H _ I h) fun us s1 hz18=>?_) (by rw [hs,hs2]) (by rw [hs2];rfl)))
 obtain ⟨vs,H1,I1,r1,q1⟩:=hz18
 obtain ⟨i,j,e,⟨q1,q2,q3,q4⟩,q⟩:=q1
 subst e
 cases r1 with
 | cons r rr=>
  cases rr with
  | cons r' rr=>
   cases rr
   obtain ⟨t,rfl⟩:=r
   obtain ⟨t',rfl⟩:=r'
   exact call_range_2 (jC I1 q1 q2 q3 q4 q)
def tFor (wi:TI) (g:TG) (tb:TS):TS:=fun D σ H=>wi σ H fun J H1=>∃ W:Nat->Nat->St->Hp->Prop,(∃ m,W 0 m σ H1)/\∀ i m σ H,W i m σ H ->
 (J.stop i H/\D.nx σ H) \/ (J.go i H/\∃ N:St->Hp->Prop,(∀ σ' H',N σ' H'->∃ m',m' < m/\W (i + 1) m' σ' H')/\∀ x H',J.yld i H x H'->g x σ H' fun σ2 H2=>tb { D with nx:=N,ct:=N,bk:=D.nx } σ2 H2)
def rF (fp:List Addr) (h:Heap):LAO:=fp.filterMap fun b=>(h.get? b).map fun o=>(b,o)
theorem wB {fp:List Addr} {h:Heap} {b:Addr} {o:Obj} (hb:b ∈ fp) (e:h.get? b=some o):(b,o) ∈ rF fp h:=List.mem_filterMap.mpr ⟨b,hb,by rw [e];rfl⟩
theorem cW {fp:List Addr} {h:Heap} {p:Addr × Obj} (hp:p ∈ rF fp h):p.1 ∈ fp/\h.get? p.1=some p.2:=by
 obtain ⟨b,hb,e⟩:=List.mem_filterMap.mp hp
 cases q:h.get? b with
 | none=>rw [q] at e;cases e
 | some o=>
  rw [q] at e
  have e':(b,o)=p:=zKA e
  subst e'
  exact ⟨hb,q⟩
theorem Inv.pinned {qp:LAO} {σ:St} {H:Hp} {s:Shared} {fp:List Addr} (I:Inv X qp σ H s) (hf:∀ b ∈ fp,uV X qp H b) (ho:∀ b ∈ fp,∃ o,s.heap.get? b=some o/\∀ v,o.data ≠ .cell v):Inv X (qp ++ rF fp s.heap) σ H s:=
 I.pins_of fun p hp=>(zKK.mp hp).elim (fun z=>I.pin p (zKH _ z)) fun z=>by
  obtain ⟨hb,e⟩:=cW z
  obtain ⟨f0,f1,f2,_⟩:=hf p.1 hb
  obtain ⟨o,e',d⟩:=ho p.1 hb
  rw [e] at e';cases e'
  exact ⟨e,f0,f1,f2,d⟩
theorem Inv.unpinned {qp pl:LAO} {σ:St} {H:Hp} {s:Shared} (I:Inv X (qp ++ pl) σ H s):Inv X qp σ H s:=I.pins_of fun p hp=>I.pin p (zKH _ (List.mem_append_left _ hp))
theorem vN {iter:Expr} {body:List Stmt} {wi:TI} {g:TG} {tb:TS} {pos:Pos} (hp:PassesOwn (model X.prog X.w) X.A X.env X.xe) (hc:X.calm=true) (hi:PI X tg iter wi) (hg:PG X tg g) (hb:PSs X body tb)
  (hs:∀ x,foldedSetIterable iter X.env x=pure x:=by intro _;rfl):PS X (.For tg iter body [] pos) (tFor wi g tb):=by
 intro qp s σ H D I h
 refine wpAny_For (thn (hi qp s σ H _ I h) fun v s1 h1=>thn h1 fun itv s2 h2=>?_) hs
 obtain ⟨it,fp,tn,J,H2,e,I2,T,st2,f2,W,⟨m0,w0⟩,turn⟩:=h2
 subst e
 have stat:∀ {H':Hp},(∀ b ∈ fp,H' b=none)->∀ b ∈ fp,uV X qp H' b:=fun hn b hb=>⟨hn b hb,(f2 b hb).2⟩
 refine codeAny_forLoop_any (fun n s'=>∃ i σ' H',Inv X qp σ' H' s'/\tn i s'.heap/\(∀ b ∈ fp,H' b=none)/\W i n σ' H') ?_ m0 ⟨0,σ,H2,I2,st2,fun b hb=>(f2 b hb).1,w0⟩
 rintro n s3 ⟨i,σ3,H3,I3,st3,fr3,w3⟩
 rcases turn i n σ3 H3 w3 with ⟨stop,qn⟩ | ⟨go,N,hN,step⟩
 ·refine wpAny_passesOwn hp (thn (T.done X rfl rfl rfl hc i qp s3 σ3 H3 X.xe I3 (stat fr3) st3 stop) fun r s4 ⟨hr,I4⟩=>?_)
  subst hr
  exact wpAny_execs_nil ⟨σ3,H3,I4,qn⟩
 ·refine wpAny_passesOwn hp (thn (T.item X rfl rfl rfl hc i qp s3 σ3 H3 X.xe I3 (stat fr3) st3 go) fun r s4 ⟨u,hr,h4⟩=>?_)
  subst hr
  refine wpAny_passesOwn hp (thn h4 fun _ s5 hz19=>?_)
  obtain ⟨x,H5,I5,r5,y5,st5,fr5⟩:=hz19
  have I5':=I5.pinned (stat fr5) (T.obj _ _ st5)
  refine wpAny_passesOwn hp (thn (hg _ s5 σ3 H5 x u _ I5' r5 (step x H5 y5)) fun _ s6 hz20=>?_)
  obtain ⟨σ6,H6,I6,q6⟩:=hz20
  refine wpAny_passesOwn hp (thn (hb _ s6 σ6 H6 _ I6 q6) fun f s7 q7=>?_)
  have again:∀ {σ7:St} {H7:Hp},Inv X (qp ++ rF fp s5.heap) σ7 H7 s7->N σ7 H7->∃ m,m < n/\∃ i σ' H',Inv X qp σ' H' s7/\tn i s7.heap/\(∀ b ∈ fp,H' b=none)/\W i m σ' H':=fun {σ7 H7} I7 n7=>by
   obtain ⟨m',hm,w7⟩:=hN σ7 H7 n7
   refine ⟨m',hm,i + 1,σ7,H7,I7.unpinned,T.keep _ _ _ st5 fun b hb o e=>(I7.pin (b,o) (zKH _ (zKH _ (wB hb e)))).1,fun b hb=>?_,w7⟩
   obtain ⟨o,e,d⟩:=T.obj _ _ st5 b hb
   exact (I7.pin (b,o) (zKH _ (zKH _ (wB hb e)))).2.1
  cases f with
  | next=>obtain ⟨σ7,H7,I7,n7⟩:=q7;exact again I7 n7
  | cont=>obtain ⟨σ7,H7,I7,n7⟩:=q7;exact again I7 n7
  | brk=>obtain ⟨σ7,H7,I7,q7⟩:=q7;exact ⟨σ7,H7,I7.unpinned,q7⟩
  | ret v=>obtain ⟨x7,σ7,H7,I7,r7,q7⟩:=q7;exact ⟨x7,σ7,H7,I7.unpinned,r7,q7⟩
end
theorem vW {K:PySem.W.Frag} {a:Addr} {xs:List V} {g:TG} {tb:TS} {D:sU} {σ:St} {H:Hp} (Pv:Nat->St->Hp->Prop) (h0:Pv 0 σ H) (hl:∀ i σ H,i <= xs.length->Pv i σ H->SqL K H a xs)
  (hs:∀ i x σ H,xs[i]?=some x->Pv i σ H->g x σ H fun σ2 H2=>tb { D with nx:=Pv (i + 1),ct:=Pv (i + 1),bk:=D.nx } σ2 H2) (hd:∀ σ H,Pv xs.length σ H->D.nx σ H) :
  ∃ W:Nat->Nat->St->Hp->Prop,(∃ m,W 0 m σ H)/\∀ i m σ H,W i m σ H ->
   ((Itl K a).stop i H/\D.nx σ H) \/ ((Itl K a).go i H/\∃ N:St->Hp->Prop,(∀ σ' H',N σ' H'->∃ m',m' < m/\W (i + 1) m' σ' H')/\∀ x H',(Itl K a).yld i H x H'->g x σ H' fun σ2 H2=>tb { D with nx:=N,ct:=N,bk:=D.nx } σ2 H2):=by
 refine ⟨fun i m σ H=>m=xs.length - i/\i <= xs.length/\Pv i σ H,⟨xs.length,by simp,zKD _,h0⟩,?_⟩
 rintro i m σ H ⟨rfl,hi,p⟩
 have q:=hl i σ H hi p
 by_cases hlt:i < xs.length
 ·refine .inr ⟨⟨xs,xs[i],q,by simp [hlt]⟩,Pv (i + 1),fun σ' H' p'=>⟨xs.length - (i + 1),by omega,rfl,hlt,p'⟩,fun x H' y=>?_⟩
  obtain ⟨e,y⟩:=y
  subst e
  exact hs i x σ _ (y xs q) p
 ·have e:i=xs.length:=by omega
  subst e
  exact .inl ⟨⟨xs,q,zKC _⟩,hd σ H p⟩
theorem nL {lo:Int} {n:Nat} {g:TG} {tb:TS} {D:sU} {σ:St} {H:Hp} (Pv:Nat->St->Hp->Prop) (h0:Pv 0 σ H)
  (hs:∀ i σ H,i < n->Pv i σ H->g (.int (lo + i)) σ H fun σ2 H2=>tb { D with nx:=Pv (i + 1),ct:=Pv (i + 1),bk:=D.nx } σ2 H2) (hd:∀ σ H,Pv n σ H->D.nx σ H) :
  ∃ W:Nat->Nat->St->Hp->Prop,(∃ m,W 0 m σ H)/\∀ i m σ H,W i m σ H ->
   ((Itr lo n).stop i H/\D.nx σ H) \/ ((Itr lo n).go i H/\∃ N:St->Hp->Prop,(∀ σ' H',N σ' H'->∃ m',m' < m/\W (i + 1) m' σ' H')/\∀ x H',(Itr lo n).yld i H x H'->g x σ H' fun σ2 H2=>tb { D with nx:=N,ct:=N,bk:=D.nx } σ2 H2):=by
 refine ⟨fun i m σ H=>m=n - i/\i <= n/\Pv i σ H,⟨n,by simp,zKD _,h0⟩,?_⟩
 rintro i m σ H ⟨rfl,hi,p⟩
 by_cases hlt:i < n
 ·refine .inr ⟨hlt,Pv (i + 1),fun σ' H' p'=>⟨n - (i + 1),by omega,rfl,hlt,p'⟩,fun x H' y=>?_⟩
  obtain ⟨e,y⟩:=y
  subst e y
  exact hs i σ _ hlt p
 ·have e:i=n:=by omega
  subst e
  exact .inl ⟨zKC _,hd σ H p⟩
abbrev R2:=V->V->Hp->VK->Prop
def OpR (X:Cx) (f:Value->Value->Sem Value) (r:R2):Prop:=
 ∀ (qp:LAO) (s:Shared) (σ:St) (H:Hp) (x y:V) (v u:Value) (Q:VK),Inv X qp σ H s->zV x v->zV y u->r x y H Q ->
  wpAny (model X.prog X.w) X.A (f v u) (EP X qp σ Q) X.xe s
def UnR (X:Cx) (f:Value->Sem Value) (r:V->Hp->VK->Prop):Prop:=
 ∀ (qp:LAO) (s:Shared) (σ:St) (H:Hp) (x:V) (v:Value) (Q:VK),Inv X qp σ H s->zV x v->r x H Q ->
  wpAny (model X.prog X.w) X.A (f v) (EP X qp σ Q) X.xe s
def xK (X:Cx) (f:Value) (r:List V->Hp->VK->Prop):Prop:=
 ∀ (qp:LAO) (s:Shared) (σ:St) (H:Hp) (xs:List V) (us:List Value) (Q:VK),Inv X qp σ H s->zP xs us->r xs H Q ->
  wpAny (model X.prog X.w) X.A (call f us) (EP X qp σ Q) X.xe s
def TruR (X:Cx) (r:V->Hp->(Bool->Hp->Prop)->Prop):Prop:=
 ∀ (qp:LAO) (s:Shared) (σ:St) (H:Hp) (x:V) (v:Value) (Q:Bool->Hp->Prop),Inv X qp σ H s->zV x v->r x H Q ->
  wpAny (model X.prog X.w) X.A (truthy v) (TP X qp σ Q) X.xe s
def tOp (r:R2) (ta tb:TE):TE:=fun σ H Q=>ta σ H fun x H1=>tb σ H1 fun y H2=>r x y H2 Q
def tUn (r:V->Hp->VK->Prop) (ta:TE):TE:=fun σ H Q=>ta σ H fun x H1=>r x H1 Q
def rI (C:Int->Int->Prop) (g:Int->Int->V):R2:=fun x y H Q=>∃ i j,x=.int i/\y=.int j/\C i j/\Q (g i j) H
def rI0 (g:Int->Int->V):R2:=fun x y H Q=>∃ i j,x=.int i/\y=.int j/\Q (g i j) H
def rU (g:Int->V):V->Hp->VK->Prop:=fun x H Q=>∃ i,x=.int i/\Q (g i) H
section
variable {X:Cx} {a b c:Expr} {ta tb tc:TE} {pos:Pos}
theorem zH4 (ha:PE X a ta) (hb:PE X b tb) {qp:LAO} {s:Shared} {σ:St} {H:Hp} {R:V->V->Hp->Prop} (I:Inv X qp σ H s)
  (h:ta σ H fun x H1=>tb σ H1 fun y H2=>R x y H2) {Q:VSP} {f:Value->Value->Sem Value}
  (hf:∀ v u s2 x y H2,Inv X qp σ H2 s2->zV x v->zV y u->R x y H2->wpAny (model X.prog X.w) X.A (f v u) Q X.xe s2) :
  wpAny (model X.prog X.w) X.A (eval a X.env) (fun v s₁=>wpAny (model X.prog X.w) X.A (eval b X.env) (fun u s₂=>wpAny (model X.prog X.w) X.A (f v u) Q X.xe s₂) X.xe s₁) X.xe s:=by
 refine thn (ha qp s σ H _ I h) fun v s1 hz21=>?_
 obtain ⟨x,H1,I1,r1,q1⟩:=hz21
 refine thn (hb qp s1 σ H1 _ I1 q1) fun u s2 hz22=>?_
 obtain ⟨y,H2,I2,r2,q2⟩:=hz22
 exact hf v u s2 x y H2 I2 r1 r2 q2
theorem zN {op:Operator} {r:R2} (ho:OpR X (binaryOp op) r) (ha:PE X a ta) (hb:PE X b tb):PE X (.BinOp a op b pos) (tOp r ta tb):=by
 intro qp s σ H Q I h
 exact wpAny_BinOp (zH4 ha hb I h fun v u s2 x y H2 I2 rx ry q=>ho qp s2 σ H2 x y v u Q I2 rx ry q)
theorem zAF {op:UnaryOp} {r:V->Hp->VK->Prop} (ho:UnR X (unaryOp op) r) (ha:PE X a ta):PE X (.UnaryOp op a pos) (tUn r ta):=by
 intro qp s σ H Q I h
 exact UnaryOp_ (thn (ha qp s σ H _ I h) fun v s1 ⟨x,H1,I1,r1,q1⟩=>ho qp s1 σ H1 x v Q I1 r1 q1)
theorem opI {f:Value->Value->Sem Value} {C:Int->Int->Prop} {g:Int->Int->Int}
  (rule:∀ (i j:Int) (t u:Tok) (s:Shared) (Q:VSP) (E:VSP),C i j->Q (.int (g i j) s.toks) { s with toks:=s.toks + 1 }->wpAny (model X.prog X.w) X.A (f (.int i t) (.int j u)) Q E s) :
  OpR X f (rI C fun i j=>.int (g i j)):=by
 intro qp s σ H x y v u Q I rx ry h
 obtain ⟨i,j,rfl,rfl,hc,q⟩:=h
 obtain ⟨t,rfl⟩:=rx
 obtain ⟨t',rfl⟩:=ry
 exact rule i j t t' s _ _ hc ⟨.int (g i j),H,I.tok _,⟨_,rfl⟩,q⟩
theorem zI9 {f:Value->Value->Sem Value} {g:Int->Int->Int}
  (rule:∀ (i j:Int) (t u:Tok) (s:Shared) (Q:VSP) (E:VSP),Q (.int (g i j) s.toks) { s with toks:=s.toks + 1 }->wpAny (model X.prog X.w) X.A (f (.int i t) (.int j u)) Q E s) :
  OpR X f (rI0 fun i j=>.int (g i j)):=by
 intro qp s σ H x y v u Q I rx ry h
 obtain ⟨i,j,rfl,rfl,q⟩:=h
 obtain ⟨t,rfl⟩:=rx
 obtain ⟨t',rfl⟩:=ry
 exact rule i j t t' s _ _ ⟨.int (g i j),H,I.tok _,⟨_,rfl⟩,q⟩
theorem zDT {f:Value->Value->Sem Value} {g:Int->Int->Bool}
  (rule:∀ (i j:Int) (t u:Tok) (s:Shared) (Q:VSP) (E:VSP),Q (.bool (g i j)) s->wpAny (model X.prog X.w) X.A (f (.int i t) (.int j u)) Q E s) :
  OpR X f (rI0 fun i j=>.bl (g i j)):=by
 intro qp s σ H x y v u Q I rx ry h
 obtain ⟨i,j,rfl,rfl,q⟩:=h
 obtain ⟨t,rfl⟩:=rx
 obtain ⟨t',rfl⟩:=ry
 exact rule i j t t' s _ _ ⟨.bl (g i j),H,I,rfl,q⟩
def zFE (i j:Int):Prop:=0 < j/\j < 1073741824
def bQ (i j:Int):Prop:=(-(2 ^ 64) < i/\i < 2 ^ 64) \/ (-(2 ^ 64) < j/\j < 2 ^ 64)
theorem bQ.ok {i j:Int} (h:bQ i j):IntMulOk i j:=by
 rcases h with ⟨h1,h2⟩ | ⟨h1,h2⟩
 ·exact .of_left (intBits_le_64 h1 h2)
 ·exact .of_right (intBits_le_64 h1 h2)
theorem yT:OpR X (binaryOp .Add) (rI0 fun i j=>.int (i + j)):=zI9 fun _ _ _ _ _ _ _ q=>add_int q
theorem rH:OpR X (binaryOp .Sub) (rI0 fun i j=>.int (i - j)):=zI9 fun _ _ _ _ _ _ _ q=>sub_int q
theorem uP:OpR X (binaryOp .Mult) (rI bQ fun i j=>.int (i * j)):=opI fun _ _ _ _ _ _ _ hc q=>mul_int q hc.ok
theorem qK:OpR X (binaryOp .FloorDiv) (rI zFE fun i j=>.int (i / j)):=opI fun i j _ _ _ _ _ hc q=>by
 have h1:(0:Int) < j:=hc.1
 have h2:j < 1073741824:=hc.2
 exact floordiv_int (by omega) (by rw [Int.fdiv_eq_ediv_of_nonneg i (by omega)];exact q) (.inl (PyProof.noPylong_small (by omega)))
theorem wN:OpR X (binaryOp .Mod) (rI (fun _ j=>0 < j) fun i j=>.int (i % j)):=opI fun i j _ _ _ _ _ hc q=>by
 have h1:(0:Int) < j:=hc
 exact mod_int' (by omega) (by rw [Int.fmod_eq_emod_of_nonneg i (by omega)];exact q)
theorem unI {f:Value->Sem Value} {g:Int->Int}
  (rule:∀ (i:Int) (t:Tok) (s:Shared) (Q:VSP) (E:VSP),Q (.int (g i) s.toks) { s with toks:=s.toks + 1 }->wpAny (model X.prog X.w) X.A (f (.int i t)) Q E s) :
  UnR X f (rU fun i=>.int (g i)):=by
 intro qp s σ H x v Q I rx h
 obtain ⟨i,rfl,q⟩:=h
 obtain ⟨t,rfl⟩:=rx
 exact rule i t s _ _ ⟨.int (g i),H,I.tok _,⟨_,rfl⟩,q⟩
theorem iN:UnR X (unaryOp .USub) (rU fun i=>.int (-i)):=unI fun _ _ _ _ _ q=>neg_int q
end
def zGO:V->V->Bool
 | .non,.non=>true | .non,.int _=>true | .int _,.non=>true | .non,.bl _=>true | .bl _,.non=>true | .non,.str _=>true | .str _,.non=>true
 | .int _,.int _=>true | .bl _,.bl _=>true | .str _,.str _=>true | .byt _,.byt _=>true
 | .int _,.str _=>true | .str _,.int _=>true | .bl _,.str _=>true | .str _,.bl _=>true
 | _,_=>false
def rEq:R2:=fun x y H Q=>zGO x y=true/\Q (.bl (decide (x=y))) H
def rNe:R2:=fun x y H Q=>zGO x y=true/\Q (.bl (!decide (x=y))) H
theorem dX {i j:Int}:decide (V.int i=V.int j)=(i == j):=by
 rw [Bool.eq_iff_iff]
 simp
theorem zBX {i j:Bool}:decide (V.bl i=V.bl j)=(i == j):=by
 rw [Bool.eq_iff_iff]
 simp
theorem dW {i j:Str}:decide (V.str i=V.str j)=(i == j):=by
 rw [Bool.eq_iff_iff]
 simp
theorem dY {i j:Array UInt8}:decide (V.byt i=V.byt j)=(i.toList == j.toList):=by
 rw [Bool.eq_iff_iff]
 cases i
 cases j
 simp
section
variable {X:Cx} {a b c:Expr} {ta tb tc:TE} {pos:Pos}
theorem z8 {qp:LAO} {σ:St} {H:Hp} {s:Shared} {Q:VK} {k k':Bool} (I:Inv X qp σ H s) (q:Q (.bl k) H) (e:k=k'):EP X qp σ Q (.bool k') s:=by
 subst e
 exact ⟨.bl k,H,I,rfl,q⟩
theorem tJ:OpR X (compareOp .Eq) rEq:=by
 intro qp s σ H x y v u Q I rx ry h
 obtain ⟨hs,q⟩:=h
 cases x with
 | non=>
  cases rx
  cases y with
  | non=>cases ry;exact PySem.EqNone.eq_none_none (z8 I q (by simp))
  | bl j=>cases ry;exact PySem.EqNone.eq_none_bool (z8 I q (by simp))
  | int j=>obtain ⟨t',rfl⟩:=ry;exact PySem.EqNone.eq_none_int (z8 I q (by simp))
  | str j=>obtain ⟨t',rfl⟩:=ry;exact PySem.EqNone.eq_none_str (z8 I q (by simp))
  | _=>exact absurd (show false=true from hs) zKV
 | bl i=>
  cases rx
  cases y with
  | non=>cases ry;exact PySem.EqNone.eq_bool_none (z8 I q (by simp))
  | bl j=>cases ry;exact eq_bool (z8 I q zBX)
  | str j=>obtain ⟨t',rfl⟩:=ry;exact PySem.EqMixed.eq_bool_str (z8 I q (by simp))
  | _=>exact absurd (show false=true from hs) zKV
 | int i=>
  obtain ⟨t,rfl⟩:=rx
  cases y with
  | non=>cases ry;exact PySem.EqNone.eq_int_none (z8 I q (by simp))
  | int j=>obtain ⟨t',rfl⟩:=ry;exact eq_int (z8 I q dX)
  | str j=>obtain ⟨t',rfl⟩:=ry;exact PySem.EqMixed.eq_int_str (z8 I q (by simp))
  | _=>exact absurd (show false=true from hs) zKV
 | str i=>
  obtain ⟨t,rfl⟩:=rx
  cases y with
  | non=>cases ry;exact PySem.EqNone.eq_str_none (z8 I q (by simp))
  | bl j=>cases ry;exact PySem.EqMixed.eq_str_bool (z8 I q (by simp))
  | int j=>obtain ⟨t',rfl⟩:=ry;exact PySem.EqMixed.eq_str_int (z8 I q (by simp))
  | str j=>obtain ⟨t',rfl⟩:=ry;exact eq_str (z8 I q dW)
  | _=>exact absurd (show false=true from hs) zKV
 | byt i=>
  obtain ⟨t,rfl⟩:=rx
  cases y with
  | byt j=>obtain ⟨t',rfl⟩:=ry;exact W.eq_bytes (z8 I q dY)
  | _=>exact absurd (show false=true from hs) zKV
 | _=>cases y <;> exact absurd (show false=true from hs) zKV
theorem tI:OpR X (compareOp .NotEq) rNe:=by
 intro qp s σ H x y v u Q I rx ry h
 obtain ⟨hs,q⟩:=h
 cases x with
 | non=>
  cases rx
  cases y with
  | non=>cases ry;exact PySem.EqNone.ne_none_none (z8 I q (by simp))
  | bl j=>cases ry;exact PySem.EqNone.ne_none_bool (z8 I q (by simp))
  | int j=>obtain ⟨t',rfl⟩:=ry;exact PySem.EqNone.ne_none_int (z8 I q (by simp))
  | str j=>obtain ⟨t',rfl⟩:=ry;exact PySem.EqNone.ne_none_str (z8 I q (by simp))
  | _=>exact absurd (show false=true from hs) zKV
 | bl i=>
  cases rx
  cases y with
  | non=>cases ry;exact PySem.EqNone.ne_bool_none (z8 I q (by simp))
  | bl j=>cases ry;exact ne_bool (z8 I q (congrArg not zBX))
  | str j=>obtain ⟨t',rfl⟩:=ry;exact PySem.EqMixed.ne_bool_str (z8 I q (by simp))
  | _=>exact absurd (show false=true from hs) zKV
 | int i=>
  obtain ⟨t,rfl⟩:=rx
  cases y with
  | non=>cases ry;exact PySem.EqNone.ne_int_none (z8 I q (by simp))
  | int j=>obtain ⟨t',rfl⟩:=ry;exact ne_int (z8 I q (congrArg not dX))
  | str j=>obtain ⟨t',rfl⟩:=ry;exact PySem.EqMixed.ne_int_str (z8 I q (by simp))
  | _=>exact absurd (show false=true from hs) zKV
 | str i=>
  obtain ⟨t,rfl⟩:=rx
  cases y with
  | non=>cases ry;exact PySem.EqNone.ne_str_none (z8 I q (by simp))
  | bl j=>cases ry;exact PySem.EqMixed.ne_str_bool (z8 I q (by simp))
  | int j=>obtain ⟨t',rfl⟩:=ry;exact PySem.EqMixed.ne_str_int (z8 I q (by simp))
  | str j=>obtain ⟨t',rfl⟩:=ry;exact ne_str (z8 I q (congrArg not dW))
  | _=>exact absurd (show false=true from hs) zKV
 | byt i=>
  obtain ⟨t,rfl⟩:=rx
  cases y with
  | byt j=>obtain ⟨t',rfl⟩:=ry;exact W.ne_bytes (z8 I q (congrArg not dY))
  | _=>exact absurd (show false=true from hs) zKV
 | _=>cases y <;> exact absurd (show false=true from hs) zKV
theorem zAR:OpR X (compareOp .Lt) (rI0 fun i j=>.bl (decide (i < j))):=zDT fun _ _ _ _ _ _ _ q=>lt_int q
theorem dD:OpR X (compareOp .LtE) (rI0 fun i j=>.bl (decide (i <= j))):=zDT fun _ _ _ _ _ _ _ q=>le_int q
theorem zI7:OpR X (compareOp .Gt) (rI0 fun i j=>.bl (decide (j < i))):=zDT fun _ _ _ _ _ _ _ q=>gt_int q
theorem zI8:OpR X (compareOp .GtE) (rI0 fun i j=>.bl (decide (j <= i))):=zDT fun _ _ _ _ _ _ _ q=>ge_int q
theorem cS:OpR X (compareOp .Lt) (fun x y H Q=>∃ i j,x=.str i/\y=.str j/\Q (.bl (decide (i.cps.toList < j.cps.toList))) H):=by
 intro qp s σ H x y v u Q I rx ry h
 obtain ⟨i,j,rfl,rfl,q⟩:=h
 obtain ⟨t,rfl⟩:=rx
 obtain ⟨t',rfl⟩:=ry
 exact lt_str (z8 I q rfl)
theorem oX:OpR X (compareOp .In) (fun x y H Q=>∃ i j,x=.str i/\y=.str j/\Q (.bl (!(Builtin.Str.occurrences j i 0 j.length 1).isEmpty)) H):=by
 intro qp s σ H x y v u Q I rx ry h
 obtain ⟨i,j,rfl,rfl,q⟩:=h
 obtain ⟨t,rfl⟩:=rx
 obtain ⟨t',rfl⟩:=ry
 exact in_str (z8 I q rfl)
theorem z6 (b:Expr) {op:CmpOp} (h:op ≠ .In:=by decide) (h2:op ≠ .NotIn:=by decide):behindInMarks op b=false:=by
 have e1:(op == CmpOp.In)=false:=by cases op <;> first | rfl | exact absurd rfl h
 have e2:(op == CmpOp.NotIn)=false:=by cases op <;> first | rfl | exact absurd rfl h2
 cases b <;> simp [behindInMarks,e1,e2]
theorem wF {op:CmpOp} {r:R2} (ho:OpR X (compareOp op) r) (ha:PE X a ta) (hb:PE X b tb) (hm:behindInMarks op b=false):PE X (.Compare a [op] [b] pos) (tOp r ta tb):=by
 intro qp s σ H Q I h
 exact wpAny_Compare1 (zH4 ha hb I h fun v u s2 x y H2 I2 rx ry q=>ho qp s2 σ H2 x y v u Q I2 rx ry q) hm
def zFH (t:TE):TT:=fun σ H Q=>t σ H fun x H'=>∃ k,x=.bl k/\Q k H'
theorem zZ {op:CmpOp} {r:R2} (ho:OpR X (compareOp op) r) (ha:PE X a ta) (hb:PE X b tb) (hm:behindInMarks op b=false):PT X (.Compare a [op] [b] pos) (zFH (tOp r ta tb)):=by
 intro qp s σ H Q I h
 refine wpAny_isTrue_Compare1 (thn (ha qp s σ H _ I h) fun v s1 ⟨x,H1,I1,r1,q1⟩=>thn (hb qp s1 σ H1 _ I1 q1) fun u s2 ⟨y,H2,I2,r2,q2⟩=>
  thn (ho qp s2 σ H2 x y v u _ I2 r1 r2 q2) fun c s3 ⟨z,H3,I3,r3,k,e,q3⟩=>?_) hm
 subst e
 cases r3
 exact wpAny_truthy_bool ⟨H3,I3,q3⟩
def zGK (r r':R2) (ta tb tc:TE):TE:=fun σ H Q=>ta σ H fun x H1=>tb σ H1 fun y H2=>r x y H2 fun z H3=>∃ k,z=.bl k /\
 (if k=true then tc σ H3 fun w' H4=>r' y w' H4 Q else Q (.bl false) H3)
theorem jH {op op':CmpOp} {r r':R2} (ho:OpR X (compareOp op) r) (ho':OpR X (compareOp op') r') (ha:PE X a ta) (hb:PE X b tb) (hc:PE X c tc)
  (hm:lastMarks [op,op'] [b,c]=false:=by with_unfolding_all rfl):PE X (.Compare a [op,op'] [b,c] pos) (zGK r r' ta tb tc):=by
 intro qp s σ H Q I h
 refine Compare_chain (thn (ha qp s σ H _ I h) fun v s1 ⟨x,H1,I1,r1,q1⟩=>chain_link (thn (hb qp s1 σ H1 _ I1 q1) fun u s2 ⟨y,H2,I2,r2,q2⟩=>
  thn (ho qp s2 σ H2 x y v u _ I2 r1 r2 q2) fun d s3 ⟨z,H3,I3,r3,k,e,q3⟩=>?_)) hm
 subst e
 cases r3
 refine wpAny_truthy_bool ?_
 cases k with
 | false=>exact ite_ff ⟨.bl false,H3,I3,rfl,q3⟩
 | true=>exact ite_tt (chain_last (thn (hc qp s3 σ H3 _ I3 q3) fun w' s4 ⟨z',H4,I4,r4,q4⟩=>ho' qp s4 σ H4 y z' u w' Q I4 r2 r4 q4))
def zJY (K:W.Frag) (x:V) (H:Hp) (k:Bool):Prop:=
 match x with
 | .non=>k=false
 | .bl b=>k=b
 | .int i=>k=(i != 0)
 | .str y=>y.length <= sizeLine/\k=((y.length:Int) != 0)
 | .byt y=>y.size <= sizeLine/\k=((y.size:Int) != 0)
 | .ref p=>(∃ xs,SqL K H p xs/\k = !xs.isEmpty) \/ (∃ xs,SqT K H p xs/\k = !xs.isEmpty) \/ ∃ kvs,H p=some (.dK kvs)/\k = !kvs.isEmpty
 | _=>False
theorem gI {κ:Type} {kvs:List (κ × V)} {vs:List (κ × Value)} (r:KV kvs vs):(!vs.isEmpty) = !kvs.isEmpty:=by
 cases r <;> rfl
theorem pU {xs:List V} {its:List Value} (r:zP xs its):(!its.toArray.isEmpty) = !xs.isEmpty:=by
 cases r <;> simp
theorem tU:(sizeLine:Nat) < 2 ^ 63:=by rw [sizeLine_eq];decide
theorem zGB:TruR X (fun x H Q=>∃ k,zJY X.K x H k/\Q k H):=by
 intro qp s σ H x v Q I rx h
 obtain ⟨k,e,q⟩:=h
 have hl:=tU
 have hs:sizeLine=16777216:=sizeLine_eq
 cases x with
 | non=>
  cases rx
  have e':k=false:=e
  subst e'
  exact truthy_none ⟨H,I,q⟩
 | bl b=>
  cases rx
  have e':k=b:=e
  subst e'
  exact wpAny_truthy_bool ⟨H,I,q⟩
 | int i=>
  obtain ⟨t,rfl⟩:=rx
  have e':k=(i != 0):=e
  subst e'
  exact PySem.P.truthy_int ⟨H,I,q⟩
 | str y=>
  obtain ⟨t,rfl⟩:=rx
  obtain ⟨hy,e'⟩:y.length <= sizeLine/\k=((y.length:Int) != 0):=e
  subst e'
  exact PySem.P.truthy_str (by omega) ⟨H,I.tok _,q⟩
 | byt y=>
  obtain ⟨t,rfl⟩:=rx
  obtain ⟨hy,e'⟩:y.size <= sizeLine/\k=((y.size:Int) != 0):=e
  subst e'
  exact W.truthy_bytes (by omega) ⟨H,I.tok _,q⟩
 | ref p=>
  cases rx
  have e':(∃ xs,SqL X.K H p xs/\k = !xs.isEmpty) \/ (∃ xs,SqT X.K H p xs/\k = !xs.isEmpty) \/ ∃ kvs,H p=some (.dK kvs)/\k = !kvs.isEmpty:=e
  rcases e' with ⟨xs,hx,e'⟩ | ⟨xs,hx,e'⟩ | ⟨kvs,hx,e'⟩
  ·subst e'
   obtain ⟨its,r,pl,hz⟩:=I.list hx
   have hlen:=r.length
   exact wpAny_truthy_list pl.isList (by simp only [zKB];omega) ⟨H,I.tok _,by rw [pU r];exact q⟩
  ·subst e'
   obtain ⟨its,r,pl,hz⟩:=I.tuple hx
   have hlen:=r.length
   exact truthy_tuple pl (by simp only [zKB];omega) ⟨H,I.tok _,by rw [pU r];exact q⟩
  ·subst e'
   obtain ⟨hz,hS,vs,r,m⟩:kvs.length <= sizeLine/\(p == sysModules)=false/\∃ vs,KV kvs vs/\s.heap.DictOf (yC X.prog X.w) p vs:=I.hok p _ hx
   have hlen:kvs.length=vs.length:=Paired.length r
   exact wpAny_truthy_dict hS m (by omega) ⟨H,I.tok _,by rw [gI r];exact q⟩
 | _=>exact (show False from e).elim
theorem aW (ha:PE X a ta) (he:∀ whole,isTrue a X.env whole=(do let v <- whole;standAt a.pos;holding [v] (truthy v))) :
  PT X a (fun σ H Q=>ta σ H fun x H'=>∃ k,zJY X.K x H' k/\Q k H'):=by
 intro qp s σ H Q I h
 exact isTrue_plain (thn (ha qp s σ H _ I h) fun v s1 ⟨x,H1,I1,r1,q1⟩=>zGB qp s1 σ H1 x v Q I1 r1 q1) (he _)
theorem yZ:OpR X (binaryOp .Add) (fun x y H Q=>∃ i j,x=.str i/\y=.str j/\i.length + j.length <= sizeLine/\Q (.str (i ++ j)) H):=by
 intro qp s σ H x y v u Q I rx ry h
 obtain ⟨i,j,rfl,rfl,hz,q⟩:=h
 obtain ⟨t,rfl⟩:=rx
 obtain ⟨t',rfl⟩:=ry
 exact add_str (fun t' tk=>⟨.str (i ++ j),H,I.tok _,⟨_,rfl⟩,q⟩) hz
theorem uH {x:V} {us:List Value} (r:zP [x] us):∃ u,us=[u]/\zV x u:=by
 cases r with
 | cons r1 r2=>cases r2;exact ⟨_,rfl,r1⟩
theorem zFF {x y:V} {us:List Value} (r:zP [x,y] us):∃ u w',us=[u,w']/\zV x u/\zV y w':=by
 cases r with
 | cons r1 r2=>
  cases r2 with
  | cons r3 r4=>cases r4;exact ⟨_,_,rfl,r1,r3⟩
theorem bJ (hc:X.calm=true):xK X (.builtin "min") (fun xs H Q=>∃ i j,xs=[.int i,.int j]/\Q (.int (if j < i then j else i)) H):=by
 intro qp s σ H xs us Q I r h
 obtain ⟨i,j,rfl,q⟩:=h
 obtain ⟨u,w',rfl,⟨t,rfl⟩,⟨t',rfl⟩⟩:=zFF r
 refine min_two_ints (I.ok.hd hc) fun h' tk k=>⟨_,H,I.kept k,?_,q⟩
 by_cases hj:j < i
 ·rw [if_pos hj,if_pos hj];exact ⟨_,rfl⟩
 ·rw [if_neg hj,if_neg hj];exact ⟨_,rfl⟩
def LenV (K:W.Frag) (x:V) (H:Hp) (n:Nat):Prop:=
 match x with
 | .str y=>y.length <= sizeLine/\n=y.length
 | .byt y=>y.size <= sizeLine/\n=y.size
 | .ref p=>(∃ xs,SqL K H p xs/\n=xs.length) \/ ∃ xs,SqT K H p xs/\n=xs.length
 | _=>False
theorem zU:xK X (.builtin "len") (fun xs H Q=>∃ x n,xs=[x]/\LenV X.K x H n/\Q (.int n) H):=by
 intro qp s σ H xs us Q I r h
 obtain ⟨x,n,rfl,e,q⟩:=h
 obtain ⟨u,rfl,rx⟩:=uH r
 have hl:=tU
 have hs:sizeLine=16777216:=sizeLine_eq
 cases x with
 | str y=>
  obtain ⟨t,rfl⟩:=rx
  obtain ⟨hy,e'⟩:y.length <= sizeLine/\n=y.length:=e
  subst e'
  exact len_str (by omega) ⟨.int _,H,I.tok _,⟨_,rfl⟩,q⟩
 | byt y=>
  obtain ⟨t,rfl⟩:=rx
  obtain ⟨hy,e'⟩:y.size <= sizeLine/\n=y.size:=e
  subst e'
  exact W.len_bytes (by omega) ⟨.int _,H,I.tok _,⟨_,rfl⟩,q⟩
 | ref p=>
  cases rx
  have e':(∃ xs,SqL X.K H p xs/\n=xs.length) \/ ∃ xs,SqT X.K H p xs/\n=xs.length:=e
  rcases e' with ⟨xs,hx,e'⟩ | ⟨xs,hx,e'⟩
  ·subst e'
   obtain ⟨its,r',pl,hz⟩:=I.list hx
   have hlen:=r'.length
   exact Calls.call_len_list pl.isList (by simp only [zKB];omega) ⟨.int xs.length,H,I.tok _,⟨_,by simp only [zKB];rw [hlen]⟩,q⟩
  ·subst e'
   obtain ⟨its,r',pl,hz⟩:=I.tuple hx
   have hlen:=r'.length
   exact len_tuple pl (by simp only [zKB];omega) ⟨.int xs.length,H,I.tok _,⟨_,by simp only [zKB];rw [hlen]⟩,q⟩
 | _=>exact (show False from e).elim
end
structure fM (h:Heap) (x dx C:Addr) (mA:Str->Option Value):Prop where
 obj:h.get? x=some (W.instObj C dx)
 ns:h.Ns1 dx mA
 ne:dx ≠ x
theorem nC {h:Heap} {dx:Addr} {mA:Str->Option Value} (n:h.Ns1 dx mA):∃ od,h.get? dx=some od/\∀ name,W.lookIn name od=some (mA name):=by
 obtain ⟨o,es,ep,ho,hd,hk,_,hm⟩:=n
 refine ⟨o,ho,fun name=>?_⟩
 have e:=hm name
 unfold nsFind findBy at e
 rw [<- Array.find?_toList] at e
 unfold W.lookIn
 rw [hd]
 dsimp only
 split
 ·rename_i y q
  rw [q] at e
  exact congrArg some e
 ·rename_i q
  rw [q] at e
  have a:es.toList.any (·.refKey)=false:=by
   rw [List.any_eq_false]
   intro y hy
   obtain ⟨z,t,hkey⟩:=hk y (Array.mem_toList_iff.mp hy)
   simp [DictEntry.refKey,hkey]
  have a':¬ es.toList.any (·.refKey)=true:=by rw [a];exact zKV
  rw [if_neg a']
  exact congrArg some e
theorem fM.look {h:Heap} {x dx C:Addr} {mA:Str->Option Value} (I:fM h x dx C mA):∃ od,W.InstAt h x (W.instObj C dx) C (some od)/\∀ name,W.lookIn name od=some (mA name):=
 let ⟨od,ho,hl⟩:=nC I.ns
 ⟨od,⟨I.obj,rfl,rfl,ho⟩,hl⟩
section
variable {prog:Program} {w:World} {A:Around} {E:VSP} {s:Shared} {K:W.Frag} {x dx C f:Addr} {mA:Str->Option Value} {name:Str} {v:Value}
theorem zEO {expr:Bool} {Q:VSP} (X:K.In s.heap) (I:fM s.heap x dx C mA) (hg:W.plainGet K C name=true) (hh:W.hasDictIn K C=true)
  (ha:W.findIn K (.ref C) name=some none) (hv:mA name=some v) (hv':W.handedIn v=true) (h:Q v { s with toks:=s.toks + 1 }) :
  wpAny (model prog w) A (getAttr (.ref x) name expr) Q E s:=by
 obtain ⟨od,J,hl⟩:=I.look
 exact W.get_value X J (W.plainGet_of hg).1 (W.findObj_own hh ha rfl (by rw [hl,hv])) hv' h
theorem zBL {pl:Sem Bool} {Q:Value × List Value->Shared->Prop} (X:K.In s.heap) (I:fM s.heap x dx C mA) (hg:W.plainGet K C name=true)
  (hf:W.findIn K (.ref C) name=some (some (.ref f))) (ht:W.isFn K (.ref f)=true) (hv:mA name=none) (h:Q (.ref f,[.ref x]) s) :
  wpAny (model prog w) A (getMethod (.ref x) name pl) Q E s:=by
 obtain ⟨od,J,hl⟩:=I.look
 exact W.method_fn X J (W.plainGet_of hg).1 (W.plainGet_of hg).2 hf (beq_iff_eq.mp ht) (by show (W.lookIn name od).map (·.isSome)=some false;rw [hl,hv];rfl) h
theorem zCZ {ns:List Str} {Q:Unit->Shared->Prop} (X:K.In s.heap) (I:fM s.heap x dx C mA)
  (hs:W.findIn K (.ref C) "__setattr__"=some (some (.builtin "object.__setattr__"))) (hp:W.plainOver K C=true) (ht:W.takerIn K C name=some none) (hh:W.hasDictIn K C=true)
  (hw:PySem.Within mA ns) (hsz:ns.length <= sizeLine)
  (h:∀ h',fM h' x dx C (fun y=>if y=name then some v else mA y)->Heap.SameBut dx s.heap h'->Q () { s with heap:=h',toks:=s.toks + 2 }) :
  wpAny (model prog w) A (setAttr (.ref x) name v) Q E s:=by
 obtain ⟨od,J,hl⟩:=I.look
 refine W.set_plain X J hs (W.osa_open (s:={ s with toks:=s.toks + 1 }) (r:=none) X J hp ht fun b=>?_)
 obtain ⟨cd,hc,hd'⟩:=W.any_some hh
 have hx:s.heap.get? x=some ⟨.ref C,some dx,.plain,#[]⟩:=I.obj
 refine wpAny_bind (wpAny_pure (wpAny_bind (wpAny_bind (wpAny_loadPart hx (wpAny_bind (W.Looks.here (s:={ s with toks:=s.toks + 1 }) (W.looks_clsIn X hc) ?_))))))
 rw [hd']
 refine wpAny_pure (a:=some dx) (wpAny_bind (wpAny_pure (wpAny_bind ?_)))
 refine wpAny_nsSet1 (s:={ s with toks:=s.toks + 1 }) I.ns fun h' hn2 hs2=>?_
 obtain ⟨oD,esD,epD,hoD,hdD,hcD⟩:=hn2.count (PySem.Within.cons name v hw)
 refine wpAny_bind (wpAny_lookBehind hoD (by rw [hdD];exact pastItsLine_dict (zKE hcD (by rw [zKO];omega))) ?_)
 exact wpAny_pure (h _ ⟨(hs2.2 _ (Ne.symm I.ne)).trans I.obj,hn2,I.ne⟩ hs2)
theorem zA3 {R:Result->Shared->Prop} {vs:List Value} {kw:List (Str × Value)} (X:K.In s.heap) (hm:W.makesIn K C=true)
  (hi:W.findIn K (.ref C) "__init__"=some (some (.ref f))) (hf:W.typeIn K (.ref f)=some (.type "function"))
  (h:codeAny (model prog w) (A.under (.builtin "type.__call__" ⟨.ref C :: vs,kw⟩)) (.call (.ref f) ⟨.ref (s.heap.objs.size + 1) :: vs,kw⟩) (W.InitBack (s.heap.objs.size + 1) R)
   { s with heap:=(s.heap.push W.emptyDict).push (W.instObj C s.heap.objs.size) }) :
  codeAny (model prog w) A (.call (.ref C) ⟨vs,kw⟩) R s:=by
 obtain ⟨hh,g,d,t,os⟩:=s
 exact W.make_core (W.makes_of X hm) (W.looks_findIn X hi) (fun self=>W.bind_fn X self hf) (.inl rfl) h
end
def wJ (f:Str) (v:V):List (Str × V)->List (Str × V)
 | []=>[(f,v)]
 | (g,x) :: r=>if g=f then (g,v) :: r else (g,x) :: wJ f v r
theorem rS (f g:Str) (v:V):∀ fs:List (Str × V),(wJ f v fs).lookup g=if g=f then some v else fs.lookup g
 | []=>by
  show List.lookup g [(f,v)]=_
  by_cases h:g=f
  ·have hb:(g == f)=true:=beq_iff_eq.mpr h
   simp only [List.lookup,hb,if_pos h]
  ·have hb:(g == f)=false:=beq_eq_false_iff_ne.mpr h
   simp only [List.lookup,hb,if_neg h]
 | (k,x) :: r=>by
  have ih:=rS f g v r
  rw [show wJ f v ((k,x) :: r)=(if k=f then (k,v) :: r else (k,x) :: wJ f v r) from rfl]
  by_cases hk:k=f
  ·rw [if_pos hk]
   by_cases h:g=k
   ·have hb:(g == k)=true:=beq_iff_eq.mpr h
    simp only [List.lookup,hb,if_pos (h.trans hk)]
   ·have hb:(g == k)=false:=beq_eq_false_iff_ne.mpr h
    simp only [List.lookup,hb,if_neg (fun e:g=f=>h (e.trans hk.symm))]
  ·rw [if_neg hk]
   by_cases h:g=k
   ·have hb:(g == k)=true:=beq_iff_eq.mpr h
    simp only [List.lookup,hb,if_neg (fun e:g=f=>hk (h.symm.trans e))]
   ·have hb:(g == k)=false:=beq_eq_false_iff_ne.mpr h
    simp only [List.lookup,hb]
    exact ih
theorem rL (f:Str) (v:V):∀ fs:List (Str × V),f ∈ (wJ f v fs).map (·.1)/\∀ g,g ∈ fs.map (·.1)->g ∈ (wJ f v fs).map (·.1)
 | []=>⟨by simp [wJ],fun g h=>by simp at h⟩
 | (k,x) :: r=>by
  obtain ⟨i1,i2⟩:=rL f v r
  rw [show wJ f v ((k,x) :: r)=(if k=f then (k,v) :: r else (k,x) :: wJ f v r) from rfl]
  by_cases hk:k=f
  ·rw [if_pos hk]
   subst hk
   exact ⟨by simp,fun g h=>by simpa using h⟩
  ·rw [if_neg hk]
   refine ⟨?_,fun g h=>?_⟩
   ·rw [List.map_cons]
    exact zKG _ i1
   ·rw [List.map_cons] at h ⊢
    rcases List.mem_cons.mp h with e | e
    ·exact List.mem_cons.mpr (.inl e)
    ·exact zKG _ (i2 g e)
theorem rT (f:Str) (v:V):∀ fs:List (Str × V),(wJ f v fs).length <= fs.length + 1
 | []=>by simp [wJ]
 | (k,x) :: r=>by
  have ih:=rT f v r
  rw [show wJ f v ((k,x) :: r)=(if k=f then (k,v) :: r else (k,x) :: wJ f v r) from rfl]
  by_cases hk:k=f
  ·rw [if_pos hk,zKO,zKO];omega
  ·rw [if_neg hk,zKO,zKO];omega
theorem uI.some_of {v:V} {o:Option Value} (r:uI (some v) o):∃ u,o=some u/\zV v u:=by
 cases o with
 | none=>exact (show False from r).elim
 | some u=>exact ⟨u,rfl,r⟩
theorem uI.none_of {o:Option Value} (r:uI none o):o=none:=by
 cases o with
 | none=>rfl
 | some u=>exact (show False from r).elim
theorem nK {v:V} {u:Value} (r:zV v u):W.handedIn u=true:=by
 cases v with
 | non=>cases (show u=Value.none from r);rfl
 | bl b=>cases (show u=Value.bool b from r);rfl
 | int i=>obtain ⟨t,e⟩:=(show ∃ t,u=Value.int i t from r);cases e;rfl
 | str x=>obtain ⟨t,e⟩:=(show ∃ t,u=Value.str x t from r);cases e;rfl
 | byt b=>obtain ⟨t,e⟩:=(show ∃ t,u=Value.bytes b t from r);cases e;rfl
 | flt b=>obtain ⟨t,e⟩:=(show ∃ t,u=Value.float b t from r);cases e;rfl
 | ref a=>cases (show u=Value.ref a from r);rfl
 | ty n=>cases (show u=Value.type n from r);rfl
section
variable {P:Program} {w:World} {H H':Hp} {h h':Heap} {a C dx:Addr} {fs fs':List (Str × V)}
theorem qP (hok:HOk P w H h) (e:H a=some (.ins C dx fs)):∃ mA,fM h a dx C mA/\(∀ f,uI (fs.lookup f) (mA f))/\PySem.Within mA (fs.map (·.1))/\fs.length <= 1000/\H dx=some (.own a):=by
 obtain ⟨d,z,ne,ob,mA,n,r,q⟩:=(show yG P w H h a (.ins C dx fs) from hok a _ e)
 exact ⟨mA,⟨ob,n,ne⟩,r,q,z,d⟩
end
structure Cls (K:W.Frag) (C:Addr):Prop where
 pg:W.plainGet K C Str.empty=true
 hd:W.hasDictIn K C=true
 po:W.plainOver K C=true
 sa:W.findIn K (.ref C) "__setattr__"=some (some (.builtin "object.__setattr__"))
theorem Cls.get {K:W.Frag} {C:Addr} (c:Cls K C) (f:Str):W.plainGet K C f=true:=c.pg
def uG (K:W.Frag) (C:Addr) (f:Str):Prop:=W.findIn K (.ref C) f=some none
theorem uG.taker {K:W.Frag} {C:Addr} {f:Str} (n:uG K C f):W.takerIn K C f=some none:=by
 unfold W.takerIn
 rw [show W.findIn K (.ref C) f=some none from n]
 rfl
structure zFC (K:W.Frag) (C:Addr) (m:Str) (f:Addr):Prop where
 at_:W.findIn K (.ref C) m=some (some (.ref f))
 fn:W.isFn K (.ref f)=true
 kp:W.keepIn K (.ref f)=true
section
variable {X:Cx} {qp:LAO} {σ:St} {H:Hp} {s:Shared} {a C dx:Addr} {fs:List (Str × V)} {f:Str} {v:V} {A:Around} {E:VSP}
theorem gO {b:Bool} {Q:VSP} (I:Inv X qp σ H s) (e:H a=some (.ins C dx fs)) (c:Cls X.K C) (n:uG X.K C f) (l:fs.lookup f=some v)
  (h:∀ u s',Inv X qp σ H s'->zV v u->Q u s'):wpAny (model X.prog X.w) A (getAttr (.ref a) f b) Q E s:=by
 obtain ⟨mA,O,r,_,_,_⟩:=qP I.hok e
 obtain ⟨u,hu,ru⟩:=uI.some_of (v:=v) (o:=mA f) (by rw [<- l];exact r f)
 exact zEO I.kIn O (c.get f) c.hd n hu (nK ru) (h u _ (I.tok _) ru)
theorem gN {m:Str} {g:Addr} {pl:Sem Bool} {Q:Value × List Value->Shared->Prop} (I:Inv X qp σ H s) (e:H a=some (.ins C dx fs)) (c:Cls X.K C) (k:zFC X.K C m g) (l:fs.lookup m=none)
  (h:Q (.ref g,[.ref a]) s):wpAny (model X.prog X.w) A (getMethod (.ref a) m pl) Q E s:=by
 obtain ⟨mA,O,r,_,_,_⟩:=qP I.hok e
 have hn:mA m=none:=uI.none_of (by rw [<- l];exact r m)
 exact zBL I.kIn O (c.get m) k.at_ k.fn hn h
theorem iZ {y:V} {u:Value} {Q:Unit->Shared->Prop} (I:Inv X qp σ H s) (e:H a=some (.ins C dx fs)) (c:Cls X.K C) (n:uG X.K C f) (hl:fs.length < 1000) (ry:zV y u)
  (h:∀ s',Inv X qp σ (upd H a (.ins C dx (wJ f y fs))) s'->Q () s'):wpAny (model X.prog X.w) A (setAttr (.ref a) f u) Q E s:=by
 obtain ⟨mA,O,r,wi,_,ho⟩:=qP I.hok e
 have hz:(fs.map (·.1)).length <= sizeLine:=by rw [zJ3,sizeLine_eq];omega
 refine zCZ I.kIn O c.sa c.po n.taker c.hd wi hz fun h' O' sb=>h _ ?_
 have hd:∃ o,h'.get? dx=some o:=let ⟨o,_,_,e',_⟩:=O'.ns;⟨o,e'⟩
 refine I.write (x:=a) (e:=dx) (by rw [e];exact True.intro) (.inr ho) (fun b q hb z=>(sb.2 b hb).trans z) hd ?_
 refine ⟨by rw [zI O.ne];exact ho,?_,O.ne,O'.obj,_,O'.ns,fun g=>?_,fun g hg=>?_⟩
 ·have:=rT f y fs;omega
 ·show uI ((wJ f y fs).lookup g) (if g=f then some u else mA g)
  rw [rS]
  by_cases q:g=f
  ·rw [if_pos q,if_pos q];exact ry
  ·rw [if_neg q,if_neg q];exact r g
 ·by_cases q:g=f
  ·rw [q];exact (rL f y fs).1
  ·refine (rL f y fs).2 g (wi g fun z=>hg ?_)
   show (if g=f then some u else mA g)=none
   rw [if_neg q];exact z
theorem Inv.made (I:Inv X qp σ H s):Inv X qp σ (upd (upd H s.heap.objs.size (.own (s.heap.objs.size + 1))) (s.heap.objs.size + 1) (.ins C s.heap.objs.size []))
  { s with heap:=(s.heap.push W.emptyDict).push (W.instObj C s.heap.objs.size) }:=by
 have e1:(s.heap.push W.emptyDict).get? s.heap.objs.size=some W.emptyDict:=Heap.get?_push_size s.heap rfl
 have e2:((s.heap.push W.emptyDict).push (W.instObj C s.heap.objs.size)).get? (s.heap.objs.size + 1)=some (W.instObj C s.heap.objs.size):=by
  have:=Heap.get?_push_size (s.heap.push W.emptyDict) (o:=W.instObj C s.heap.objs.size) rfl
  rwa [Heap.size_push] at this
 have e3:(s.heap.push W.emptyDict).Ns s.heap.objs.size (fun _=>none):=⟨W.emptyDict,#[],_,e1,rfl,(fun e he=>absurd he (by simp)),fun _=>rfl⟩
 have I1:=I.laid (a:=s.heap.objs.size) (o:=.own (s.heap.objs.size + 1)) (h':=s.heap.push W.emptyDict) (t':=s.toks) (fun b u q=>Heap.get?_push_of_some _ q) (zKC _) ⟨_,e1⟩
 refine I1.laid (a:=s.heap.objs.size + 1) (o:=.ins C s.heap.objs.size []) (t':=s.toks) (fun b u q=>Heap.get?_push_of_some _ q) (Nat.le_of_eq (Heap.size_push _ _)) ?_
 have ne:s.heap.objs.size ≠ s.heap.objs.size + 1:=zKU (Nat.lt_succ_self _)
 refine ⟨by rw [zI ne,zC],zKD _,ne,e2,fun _=>none,(Heap.Ns1.of_empty e3).at fun o q=>Heap.get?_push_of_some _ q,fun _=>True.intro,fun y hy=>absurd rfl hy⟩
theorem d6 {prog:Program} {w:World} {env:Env} {e:Expr} {f:Str} {pos:Pos} {s:Shared} {Q:VSP} (hb:attributeBase e f env (eval e env)=eval e env)
  (h:wpAny (model prog w) A (eval e env) (fun o s₁=>wpAny (model prog w) A (getAttr o f true) Q E s₁) E s):wpAny (model prog w) A (eval (.Attribute e f pos) env) Q E s:=
 Attribute_any_ h (by rw [arm_eval_Attribute,hb])
end
def tFld (K:W.Frag) (ta:TE) (f:Str):TE:=fun σ H Q=>ta σ H fun x H1=>∃ a C dx fs v,x=.ref a/\H1 a=some (.ins C dx fs)/\Cls K C/\uG K C f/\fs.lookup f=some v/\Q v H1
def sFld (K:W.Frag) (ta tv:TE) (f:Str):TS:=fun D σ H=>tv σ H fun y H1=>ta σ H1 fun x H2=>∃ a C dx fs,x=.ref a/\H2 a=some (.ins C dx fs)/\Cls K C/\uG K C f/\fs.length < 1000 /\
 D.nx σ (upd H2 a (.ins C dx (wJ f y fs)))
section
variable {X:Cx} {o e value:Expr} {f:Str} {pos pos' tpos:Pos} {ta tv:TE}
theorem tS (he:PE X e ta) (hb:attributeBase e f X.env (eval e X.env)=eval e X.env):PE X (.Attribute e f pos) (tFld X.K ta f):=by
 intro qp s σ H Q I h
 refine d6 hb (thn (he qp s σ H _ I h) fun u s1 hz23=>?_)
 obtain ⟨x,H1,I1,rx,a,C,dx,fs,v,ex,ea,c,n,l,q⟩:=hz23
 subst ex
 obtain rfl:u=Value.ref a:=rx
 exact gO I1 ea c n l fun u' s2 I2 ru=>⟨v,H1,I2,ru,q⟩
theorem hI (ha:PE X o ta) (hv:PE X value tv) (hs:swapsWith value (some (.Attribute o f pos')) pos.line X.env=pure false):PS X (.Assign [.Attribute o f pos'] value pos) (sFld X.K ta tv f):=by
 intro qp s σ H D I h
 refine plainObj_wpAny_Assign_Attribute (thn (hv qp s σ H _ I h) fun u s1 hz24=>?_) hs
 obtain ⟨y,H1,I1,ry,q⟩:=hz24
 refine thn (ha qp s1 σ H1 _ I1 q) fun ov s2 hz25=>?_
 obtain ⟨x,H2,I2,rx,a,C,dx,fs,ex,ea,c,n,l,q2⟩:=hz25
 subst ex
 obtain rfl:ov=Value.ref a:=rx
 exact iZ I2 ea c n l ry fun s3 I3=>⟨σ,_,I3,q2⟩
end
section
variable {X:Cx} {qp:LAO} {σ:St} {H:Hp} {s:Shared} {A:Around} {E:VSP} {Q:VSP} {c:Value} {b:Bool}
inductive sR (K:W.Frag) (H:Hp):V->Value->Prop where
 | non:sR K H .non (.type "NoneType")
 | bl (x:Bool):sR K H (.bl x) (.type "bool")
 | int (i:Int):sR K H (.int i) (.type "int")
 | str (x:Str):sR K H (.str x) (.type "str")
 | flt (x:UInt64):sR K H (.flt x) (.type "float")
 | lst {a:Addr} {xs:List V} (e:H a=some (.lst xs)):sR K H (.ref a) (.type "list")
 | frz {a:Addr} {o:Obj} {xs:List V} (e:H a=some (.frz o (.lst xs))):sR K H (.ref a) (.type "list")
 | tup {a:Addr} {xs:List V} (e:H a=some (.tup xs)):sR K H (.ref a) (.type "tuple")
 | dK {a:Addr} {kvs:List (Key × V)} (e:H a=some (.dK kvs)):sR K H (.ref a) (.type "dict")
 | dT {a:Addr} {kvs:List (List Key × V)} (e:H a=some (.dT kvs)):sR K H (.ref a) (.type "dict")
 | ins {a C dx:Addr} {fs:List (Str × V)} (e:H a=some (.ins C dx fs)) (cl:Cls K C) (ha:W.findIn K (.ref C) "__class__"=some (some (.builtin "object.__class__")))
   (hn:W.specialIn K (.builtin "object.__class__") "__get__"=some (some (.builtin "getset_descriptor.__get__"))) (htk:W.takesIn K (.builtin "object.__class__")=some true)
   (hm:W.mroIn K C (.type "object")=some true):sR K H (.ref a) (.ref C)
theorem c9 {x:V} {u t:Value} (I:Inv X qp σ H s) (rx:zV x u) (ty:sR X.K H x t) (e:W.kitOne X.K t c=some b) (h:∀ tk,Q (.bool b) { s with toks:=tk }) :
  wpAny (model X.prog X.w) A (call (.builtin "isinstance") [u,c]) Q E s:=by
 cases ty with
 | non=>cases (show u=Value.none from rx);exact W.kia_one W.kitx_none I.kIn True.intro e (fun z=>nomatch z) h
 | bl y=>cases (show u=Value.bool y from rx);exact W.kia_one W.kitx_bool I.kIn True.intro e (fun z=>nomatch z) h
 | int i=>obtain ⟨t,q⟩:=(show ∃ t,u=Value.int i t from rx);cases q;exact W.kia_one W.kitx_int I.kIn True.intro e (fun z=>nomatch z) h
 | str y=>obtain ⟨t,q⟩:=(show ∃ t,u=Value.str y t from rx);cases q;exact W.kia_one W.kitx_str I.kIn True.intro e (fun z=>nomatch z) h
 | flt y=>obtain ⟨t,q⟩:=(show ∃ t,u=Value.float y t from rx);cases q;exact W.kia_one W.kitx_float I.kIn True.intro e (fun z=>nomatch z) h
 | @lst a xs ea=>
  cases (show u=Value.ref a from rx)
  obtain ⟨_,_,n,_,h1⟩:=(show yG X.prog X.w H s.heap a (.lst xs) from I.hok a _ ea)
  exact W.kia_one W.kitx_list I.kIn ⟨_,h1,rfl⟩ e (fun z=>nomatch z) h
 | @frz a ob xs ea=>
  cases (show u=Value.ref a from rx)
  obtain ⟨_,_,_,n,_,h1⟩:=(show yG X.prog X.w H s.heap a (.frz ob (.lst xs)) from I.hok a _ ea)
  exact W.kia_one W.kitx_list I.kIn ⟨_,h1,rfl⟩ e (fun z=>nomatch z) h
 | @tup a xs ea=>
  cases (show u=Value.ref a from rx)
  obtain ⟨_,_,_,p⟩:=(show yG X.prog X.w H s.heap a (.tup xs) from I.hok a _ ea)
  obtain ⟨o,h1,h2,_⟩:=p
  exact W.kia_one W.kitx_tuple I.kIn ⟨o,h1,h2⟩ e (fun z=>nomatch z) h
 | @dK a kvs ea=>
  cases (show u=Value.ref a from rx)
  obtain ⟨_,_,vs,_,p⟩:=(show yG X.prog X.w H s.heap a (.dK kvs) from I.hok a _ ea)
  obtain ⟨o,es,ep,h1,h2,_⟩:=p
  exact W.kia_one W.kitx_dict I.kIn ⟨o,h1,h2.1⟩ e (fun z=>nomatch z) h
 | @dT a kvs ea=>
  cases (show u=Value.ref a from rx)
  obtain ⟨_,_,xs,_,o,es,ep,h1,h2,_⟩:=(show yG X.prog X.w H s.heap a (.dT kvs) from I.hok a _ ea)
  exact W.kia_one W.kitx_dict I.kIn ⟨o,h1,h2.1⟩ e (fun z=>nomatch z) h
 | @ins a C dx fs ea cl ha hn htk hm=>
  cases (show u=Value.ref a from rx)
  obtain ⟨mA,O,_⟩:=qP I.hok ea
  obtain ⟨od,J,_⟩:=O.look
  exact W.kia_one (W.kitx_own (cl.get _) cl.hd ha hn htk hm) I.kIn J e (fun z=>nomatch z) h
end
structure zX (k:Nat) (A:Around):Prop where
 hd:A.handled=none
 dp:A.depth + 3 * k + 5 < recursionLimit
 un:A.units + 16 * k + 200 < cLine
theorem zX.mono {j k:Nat} {A:Around} (r:zX k A) (h:j <= k):zX j A:=⟨r.hd,by have:=r.dp;omega,by have:=r.un;omega⟩
theorem zX.deeper {k:Nat} {A:Around} (r:zX (k + 1) A) (env:Env):zX k (A.deeper env):=
 ⟨r.hd,by have:=r.dp;show A.depth + 1 + 3 * k + 5 < _;omega,by have:=r.un;show A.units + 3 + 16 * k + 200 < _;omega⟩
theorem gC {A:Around} {C:Addr} {us:List Value} {kw:List (Str × Value)}:(A.under (.builtin "type.__call__" ⟨.ref C :: us,kw⟩)).depth=A.depth + 1:=by
 first | rfl | simp [Around.under,Code.weight,Code.isCreation,Code.isGuard,Code.isCaller,Code.frames,Code.isFrame,guardIds]
theorem gB {A:Around} {C:Addr} {us:List Value} {kw:List (Str × Value)}:(A.under (.builtin "type.__call__" ⟨.ref C :: us,kw⟩)).units=A.units + 1:=by
 first | rfl | simp [Around.under,Code.cUnits,Code.frames,Code.isFrame]
theorem zX.make {k:Nat} {A:Around} (r:zX (k + 1) A) (C:Addr) (us:List Value) (kw:List (Str × Value)):zX k (A.under (.builtin "type.__call__" ⟨.ref C :: us,kw⟩)):=
 ⟨r.hd,by have:=r.dp;rw [gC];omega,by have:=r.un;rw [gB];omega⟩
theorem zX.depth {k:Nat} {A:Around} (r:zX k A):A.depth < recursionLimit:=by have:=r.dp;omega
theorem zX.units {k:Nat} {A:Around} (r:zX k A):A.units + 64 < cLine:=by have:=r.un;omega
def vF:TA:=fun _ H Q=>Q [] H
def z7 (ta:TE) (tr:TA):TA:=fun σ H Q=>ta σ H fun x H1=>tr σ H1 fun xs H2=>Q (x :: xs) H2
section
variable {X:Cx} {e:Expr} {es:List Expr} {te:TE} {t:TA} {pos:Pos}
theorem zB:PA X [] vF:=fun _ _ _ _ H Q I h=>Calls.spliced_nil ⟨[],H,I,.nil,h⟩
theorem zA (ha:PE X e te) (hr:PA X es t) (hs:starEach (e :: es) X.env=(false,eval e X.env) :: starEach es X.env:=by rfl):PA X (e :: es) (z7 te t):=by
 intro pos qp s σ H Q I h
 rw [hs]
 show wpAny _ _ (spliced ((false,eval e X.env) :: backTo pos (starEach es X.env))) _ _ s
 refine Calls.spliced_cons (thn (ha qp s σ H _ I h) fun u s1 hz26=>?_)
 obtain ⟨x,H1,I1,r1,q1⟩:=hz26
 exact thn (hr pos qp s1 σ H1 _ I1 q1) fun us s2 ⟨xs,H2,I2,r2,q2⟩=>⟨x :: xs,H2,I2,.cons r1 r2,q2⟩
def bW (t:TA):TE:=fun σ H Q=>t σ H fun xs H1=>xs.length <= sizeLine/\∀ p,H1 p=none->Q (.ref p) (upd H1 p (.tup xs))
def cC (t:TA):TE:=fun σ H Q=>t σ H fun xs H1=>xs.length <= sizeLine/\∀ p,H1 p=none->Q (.ref p) (upd H1 p (.lst xs))
theorem xZ {x1} (h:PA X es t):PE X (.Tuple es x1 pos) (bW t):=by
 intro qp s σ H Q I hq
 refine wpAny_Tuple_spliced (thn (h pos qp s σ H _ I hq) fun us s1 hz27=>?_)
 obtain ⟨xs,H1,I1,r,z,q⟩:=hz27
 refine ⟨by rw [<- r.length];exact z,?_⟩
 have hf:H1 s1.heap.objs.size=none:=I1.hok.fresh (zKC _)
 refine ⟨.ref s1.heap.objs.size,upd H1 s1.heap.objs.size (.tup xs),I1.laid (t':=s1.toks) (fun b u e=>Heap.get?_push_of_some _ e) (zKC _) ?_,rfl,q _ hf⟩
 exact ⟨z,us,r,⟨_,Heap.get?_push_size _ rfl,rfl,_,rfl⟩⟩
theorem yP (h:PA X es t):PE X (.List es pos) (cC t):=by
 intro qp s σ H Q I hq
 refine wpAny_List_spliced (thn (h pos qp s σ H _ I hq) fun us s1 hz28=>?_)
 obtain ⟨xs,H1,I1,r,z,q⟩:=hz28
 refine ⟨by rw [<- r.length];exact z,?_⟩
 have hf:H1 s1.heap.objs.size=none:=I1.hok.fresh (zKC _)
 refine ⟨.ref s1.heap.objs.size,upd H1 s1.heap.objs.size (.lst xs),I1.laid (t':=s1.toks) (fun b u e=>Heap.get?_push_of_some _ e) (zKC _) ?_,rfl,q _ hf⟩
 exact ⟨z,us,0,r,Heap.get?_push_size _ rfl⟩
end
abbrev Sp:=List V->Hp->VK->XK->Prop
abbrev CXT:=List Env->Hp->Shared->XK->VSP
structure fN (P:Program) (w:World) (K:W.Frag) (mg:Str->Option Value) (base:Heap) (A:Around) (outer:List Env) (s:Shared) (H:Hp):Prop where
 frames:A.frames=some outer
 mod:Mod K mg base
 bs:∀ b o,base.get? b=some o->s.heap.get? b=some o/\H b=none
 bsz:base.objs.size <= s.heap.objs.size
 funs:s.heap.FunFrames base outer
 frf:∀ b ∈ frs outer,H b=none
 hok:HOk P w H s.heap
 bare:AllBare s.gens
def CE (outer:List Env) (P:Program) (w:World) (H:Hp) (s:Shared) (Q:VK) (u:Value) (s':Shared):Prop:=
 ∃ v H',s'.os=s.os/\AllBare s'.gens/\Un (frs outer) [] H H' s.heap s'.heap/\HOk P w H' s'.heap/\zV v u/\Q v H'
def CR (CX:CXT) (outer:List Env) (P:Program) (w:World) (H:Hp) (s:Shared) (Q:VK) (E:XK) (r:Result) (s':Shared):Prop:=
 match r with
 | .ok (.ret u)=>CE outer P w H s Q u s'
 | .ok _=>False
 | .error e=>CX outer H s E e s'
structure wW (P:Program) (w:World) (K:W.Frag) (mg:Str->Option Value) (base:Heap) (CX:CXT) (k:Nat) (f:Addr) (fd:FuncData) (ps:List Str) (sp:Sp):Prop where
 len:∀ vs H Q E,sp vs H Q E->vs.length=ps.length
 run:∀ (A:Around) (outer:List Env) (s:Shared) (H:Hp) (args:Args) (us:List Value) (vs:List V) (Q:VK) (E:XK),zX k A->fN P w K mg base A outer s H->BindsTo s fd args (ps.zip us)->zP vs us->sp vs H Q E ->
  codeAny (model P w) A (.call (.ref f) args) (CR CX outer P w H s Q E) s
theorem wW.imp {P:Program} {w:World} {K:W.Frag} {mg:Str->Option Value} {base:Heap} {CX:CXT} {k:Nat} {f:Addr} {fd:FuncData} {ps:List Str} {sp sp':Sp} (F:wW P w K mg base CX k f fd ps sp)
  (h:∀ vs H Q E,sp' vs H Q E->sp vs H Q E):wW P w K mg base CX k f fd ps sp':=
 ⟨fun vs H Q E q=>F.len vs H Q E (h _ _ _ _ q),fun A outer s H args us vs Q E hr he hb hv hs=>F.run A outer s H args us vs Q E hr he hb hv (h _ _ _ _ hs)⟩
theorem fN.make {P:Program} {w:World} {K:W.Frag} {mg:Str->Option Value} {base:Heap} {A:Around} {outer:List Env} {s:Shared} {H:Hp} (e:fN P w K mg base A outer s H) (C:Addr) (us:List Value) (kw:List (Str × Value)) :
  fN P w K mg base (A.under (.builtin "type.__call__" ⟨.ref C :: us,kw⟩)) outer s H:=⟨by first | exact e.frames | (simpa [Around.under,Code.envs,Code.isFrame,pushEnvs] using e.frames),e.mod,e.bs,e.bsz,e.funs,e.frf,e.hok,e.bare⟩
section
variable {X:Cx} {qp:LAO} {σ:St} {H:Hp} {s s':Shared}
theorem Inv.env0 (I:Inv X qp σ H s):fN X.prog X.w X.K X.mg X.base X.A X.stack s H:=
 ⟨I.ok.frames,I.ok.mod,I.bs,zKE I.ok.bsz I.sz,I.stack,I.stkFree,I.hok,I.bare⟩
theorem Inv.after {Q:VK} {u:Value} (I:Inv X qp σ H s) (h:CE X.stack X.prog X.w H s Q u s'):EP X qp σ Q u s':=by
 obtain ⟨v,H',os,bare,un,hok,r,q⟩:=h
 obtain ⟨hh,g,d,t,os'⟩:=s'
 obtain rfl:os'=s.os:=os
 exact ⟨v,H',I.call (h':=hh) (g':=g) (d':=d) (t':=t) (ch:=[]) un hok bare (fun b z=>absurd z (by simp)),r,q⟩
end
def fS (sp:Sp) (dvs:List V) (E:XK) (t:TA):TE:=fun σ H Q=>t σ H fun vs H1=>sp (vs ++ dvs) H1 Q E
def zFI (C:Addr) (m:Str) (sp:Sp) (dvs:List V) (E:XK) (ta:TE) (t:TA):TE:=fun σ H Q=>ta σ H fun x H1=>∃ a dx fs,x=.ref a/\H1 a=some (.ins C dx fs)/\fs.lookup m=none /\
 t σ H1 fun vs H2=>sp (x :: (vs ++ dvs)) H2 Q E
def zFJ (C:Addr) (sp:Sp) (dvs:List V) (E:XK) (t:TA):TE:=fun σ H Q=>t σ H fun vs H1=>∀ x dx,H1 x=none->H1 dx=none->dx ≠ x ->
 sp (.ref x :: (vs ++ dvs)) (upd (upd H1 dx (.own x)) x (.ins C dx [])) (fun v H2=>v=.non/\Q (.ref x) H2) E
def wQ (K:W.Frag) (fd:FuncData) (ps:List Str) (ds:List Value):Prop:=
 ∀ (s:Shared) (us:List Value),K.In s.heap->(us ++ ds).length=ps.length->BindsTo s fd ⟨us,[]⟩ (ps.zip (us ++ ds))
theorem wQ.all {K:W.Frag} {fd:FuncData} {ps:List Str} (h:∀ us:List Value,us.length=ps.length->bindArgs fd ⟨us,[]⟩=pure (ps.zip us)):wQ K fd ps []:=fun s us _ hl=>by
 rw [List.append_nil] at hl ⊢
 exact .of_eq (h us hl)
def vE (CX:CXT) (X:Cx) (E:XK):Prop:=∀ (qp:LAO) (σ:St) (H:Hp) (s:Shared) (e:Value) (s':Shared),Inv X qp σ H s->CX X.stack H s E e s'->X.xe e s'
section
variable {X:Cx} {CX:CXT} {k:Nat} {f C:Addr} {fd:FuncData} {ps:List Str} {sp:Sp} {dvs:List V} {ds:List Value} {E:XK} {x m:Str} {p pos apos:Pos} {e o:Expr} {es:List Expr} {ta:TE} {t:TA}
theorem aQ {qp:LAO} {σ:St} {H:Hp} {s:Shared} {Q:VK} {us:List Value} {vs:List V} (F:wW X.prog X.w X.K X.mg X.base CX k f fd ps sp) (hr:zX k X.A) (hb:wQ X.K fd ps ds) (hd:zP dvs ds) (hx:vE CX X E)
  (I:Inv X qp σ H s) (r:zP vs us) (h:sp (vs ++ dvs) H Q E):wpAny (model X.prog X.w) X.A (call (.ref f) us) (EP X qp σ Q) X.xe s:=by
 have r2:zP (vs ++ dvs) (us ++ ds):=r.append hd
 have hl:(us ++ ds).length=ps.length:=by rw [<- r2.length];exact F.len _ _ _ _ h
 refine wpAny_call (codeAny_mono (F.run X.A X.stack s H ⟨us,[]⟩ (us ++ ds) (vs ++ dvs) Q E hr I.env0 (hb s us I.kIn hl) r2 h) fun r s' hq=>?_)
 cases r with
 | error e=>exact hx qp σ H s e s' I hq
 | ok fl=>
  cases fl with
  | ret u=>exact I.after hq
  | next=>exact False.elim hq
  | brk=>exact False.elim hq
  | cont=>exact False.elim hq
theorem dA (F:wW X.prog X.w X.K X.mg X.base CX k f fd ps sp) (hr:zX k X.A) (hg:Gl X x) (hm:X.mg x=some (.ref f)) (hk:W.keepIn X.K (.ref f)=true) (hb:wQ X.K fd ps ds) (hd:zP dvs ds) (hx:vE CX X E)
  (ha:PA X (e :: es) t) (hdb:(x == ("__debug__" : Str))=false:=by decide) (he:starEach (e :: es) X.env=(false,eval e X.env) :: starEach es X.env:=by rfl) (hpl:(backTo pos (starEach es X.env)).any (·.1)=false:=by rfl) :
  PE X (.Call (.Name x p) (e :: es) [] pos) (fS sp dvs E t):=by
 intro qp s σ H Q I h
 refine wpAny_Call_Name_kw (tD I hg hm ?_ hdb)
 refine W.callWith_K (h₀:=X.base) I.ok.mod.kin hk (thn (ha pos qp s σ H _ I h) fun us s1 hz29=>?_) he hpl
 obtain ⟨vs,H1,I1,r,q⟩:=hz29
 refine ⟨I1.kIn,?_⟩
 exact aQ F hr hb hd hx I1 r q
theorem zAG {pl:Sem Bool} (he:PE X o ta) (c:Cls X.K C) (hm:zFC X.K C m f) (F:wW X.prog X.w X.K X.mg X.base CX k f fd ps sp) (hr:zX k X.A) (hb:wQ X.K fd ps ds) (hd:zP dvs ds) (hx:vE CX X E)
  (ht:eval (.Call (.Attribute o m apos) [] [] pos) X.env=(do
   let ov <- eval o X.env
   standAt apos.atName
   let (f,first) <- holding [ov] (getMethod ov m pl)
   callWith pos f first (backTo pos (starEach [] X.env)) (backToKw pos (keywordEach [] X.env))):=by rfl) :
  PE X (.Call (.Attribute o m apos) [] [] pos) (zFI C m sp dvs E ta vF):=by
 intro qp s σ H Q I h
 refine W.methodCall_KW (pl:=pl) (thn (he qp s σ H _ I h) fun u s1 hz30=>?_) ht
 obtain ⟨x,H1,I1,rx,a,dx,fs,ex,ea,l,q⟩:=hz30
 subst ex
 obtain rfl:u=Value.ref a:=rx
 refine gN I1 ea c hm l ?_
 exact W.callWith_K0 (first:=[.ref a]) I1.kIn hm.kp (aQ (us:=[.ref a]) (vs:=[.ref a]) F hr hb hd hx I1 (.cons rfl .nil) q)
structure Mk (K:W.Frag) (C f:Addr):Prop where
 makes:W.makesIn K C=true
 init:W.findIn K (.ref C) "__init__"=some (some (.ref f))
 fn:W.isFn K (.ref f)=true
 kp:W.keepIn K (.ref C)=true
theorem aP {qp:LAO} {σ:St} {H:Hp} {s:Shared} {Q:VK} {us:List Value} {vs:List V} (M:Mk X.K C f) (F:wW X.prog X.w X.K X.mg X.base CX k f fd ps sp) (hr:zX (k + 1) X.A) (hb:wQ X.K fd ps ds) (hd:zP dvs ds)
  (hx:vE CX X E) (I:Inv X qp σ H s) (r:zP vs us)
  (h:∀ x dx,H x=none->H dx=none->dx ≠ x->sp (.ref x :: (vs ++ dvs)) (upd (upd H dx (.own x)) x (.ins C dx [])) (fun v H2=>v=.non/\Q (.ref x) H2) E) :
  wpAny (model X.prog X.w) X.A (call (.ref C) us) (EP X qp σ Q) X.xe s:=by
 have hq:=h (s.heap.objs.size + 1) s.heap.objs.size (I.hok.fresh (Nat.le_succ _)) (I.hok.fresh (zKC _)) (zKU (Nat.lt_succ_self _))
 have I2:=Inv.made (C:=C) I
 have r2:zP (V.ref (s.heap.objs.size + 1) :: (vs ++ dvs)) (Value.ref (s.heap.objs.size + 1) :: (us ++ ds)):=.cons rfl (r.append hd)
 have hl:(Value.ref (s.heap.objs.size + 1) :: us ++ ds).length=ps.length:=by
  have e:=r2.length
  rw [F.len _ _ _ _ hq] at e
  exact e.symm
 refine wpAny_call (zA3 (f:=f) I.kIn M.makes M.init (beq_iff_eq.mp M.fn) (codeAny_mono (F.run _ X.stack _ _ ⟨Value.ref (s.heap.objs.size + 1) :: us,[]⟩ (Value.ref (s.heap.objs.size + 1) :: (us ++ ds)) _ _ E (hr.make C us [])
  (I2.env0.make C us []) (hb _ (Value.ref (s.heap.objs.size + 1) :: us) I2.kIn hl) r2 hq) fun r s' hq'=>?_))
 cases r with
 | error e=>exact hx qp σ _ _ e s' I2 hq'
 | ok fl=>
  cases fl with
  | ret u=>
   obtain ⟨v,H',I3,rv,ev,q3⟩:=I2.after hq'
   subst ev
   exact ⟨rv,⟨V.ref (s.heap.objs.size + 1),H',I3,rfl,q3⟩⟩
  | next=>exact False.elim hq'
  | brk=>exact False.elim hq'
  | cont=>exact False.elim hq'
theorem zDL (M:Mk X.K C f) (F:wW X.prog X.w X.K X.mg X.base CX k f fd ps sp) (hr:zX (k + 1) X.A) (hg:Gl X x) (hm:X.mg x=some (.ref C)) (hb:wQ X.K fd ps ds) (hd:zP dvs ds) (hx:vE CX X E)
  (ha:PA X (e :: es) t) (hdb:(x == ("__debug__" : Str))=false:=by decide) (he:starEach (e :: es) X.env=(false,eval e X.env) :: starEach es X.env:=by rfl) (hpl:(backTo pos (starEach es X.env)).any (·.1)=false:=by rfl) :
  PE X (.Call (.Name x p) (e :: es) [] pos) (zFJ C sp dvs E t):=by
 intro qp s σ H Q I h
 refine wpAny_Call_Name_kw (tD I hg hm ?_ hdb)
 refine W.callWith_K (h₀:=X.base) I.ok.mod.kin M.kp (thn (ha pos qp s σ H _ I h) fun us s1 hz31=>?_) he hpl
 obtain ⟨vs,H1,I1,r,q⟩:=hz31
 refine ⟨I1.kIn,?_⟩
 exact aP M F hr hb hd hx I1 r q
end
section
variable {X:Cx} {CX:CXT} {k:Nat} {f C:Addr} {fd:FuncData} {ps ks:List Str} {sp:Sp} {E:XK} {x m:Str} {p pos apos kpos:Pos} {e o:Expr} {es:List Expr} {kws:List Keyword} {te ta:TE} {t tk:TA} {nm:Option Str}
variable {g:List Value->List Value->List Value} {gV:List V->List V->List V}
end
structure zO (N P:List Str) (sc:Scope):Prop where
 kind:sc.kind=.function
 co:sc.isCoroutine=false
 gen:sc.isGenerator=false
 nd:N.Nodup
 pre:N.take P.length=P
 par:∀ x ∈ P,sc.names.lookup x=some .local \/ sc.names.lookup x=some .cell
 nofree:∀ y ∈ sc.names,y.2 ≠ .free
theorem scm {N P:List Str} {sc:Scope} (a:sc.kind=.function:=by rfl) (b:sc.isCoroutine=false:=by rfl) (c:sc.isGenerator=false:=by rfl) (d:N.Nodup:=by decide +kernel) (e:N.take P.length=P:=by rfl) (f:∀ x ∈ P,sc.names.lookup x=some .local \/ sc.names.lookup x=some .cell:=by decide +kernel)
  (g:∀ y ∈ sc.names,y.2 ≠ .free:=by decide +kernel):zO N P sc:=⟨a,b,c,d,e,f,g⟩
theorem n0 {kindOf:Str->Option NameKind} {x:Str}:∀ {binds:List (Str × Value)} {m:Str->Option Value},(∀ v,(x,v) ∉ binds)->bindL kindOf binds m x=m x
 | [],_,_=>rfl
 | (n,v) :: r,m,h=>by
  unfold bindL
  rw [n0 fun w hw=>h w (zKG _ hw)]
  split
  ·have:x ≠ n:=by rintro rfl;exact h v zKW
   simp [this]
  ·rfl
theorem n5 {kindOf:Str->Option NameKind} {x:Str}:∀ {binds:List (Str × Value)} {m:Str->Option Value},(∀ v,(x,v) ∉ binds)->bindC kindOf binds m x=m x
 | [],_,_=>rfl
 | (n,v) :: r,m,h=>by
  unfold bindC
  rw [n5 fun w hw=>h w (zKG _ hw)]
  split
  ·rfl
  ·have:x ≠ n:=by rintro rfl;exact h v zKW
   simp [this]
theorem n4 {kindOf:Str->Option NameKind} {x:Str} {v:Value}:∀ {P:List Str} {vs:List Value} {i:Nat} {m:Str->Option Value},P.Nodup->P[i]?=some x->vs[i]?=some v->kindOf x=some .local ->
  bindL kindOf (P.zip vs) m x=some v
 | [],_,_,_,_,h,_,_=>by simp at h
 | _ :: _,[],_,_,_,_,h,_=>by simp at h
 | p :: P,w :: vs,0,m,nd,h1,h2,hk=>by
  simp at h1 h2;subst h1;subst h2
  show bindL kindOf ((p,w) :: P.zip vs) m p=_
  unfold bindL
  rw [n0 fun v hv=>(List.nodup_cons.mp nd).1 (List.of_mem_zip hv).1,if_pos hk]
  simp
 | p :: P,w :: vs,i + 1,m,nd,h1,h2,hk=>by
  show bindL kindOf ((p,w) :: P.zip vs) m x=_
  unfold bindL
  exact n4 (i:=i) (List.nodup_cons.mp nd).2 (by simpa using h1) (by simpa using h2) hk
theorem n6 {kindOf:Str->Option NameKind} {x:Str} {v:Value}:∀ {P:List Str} {vs:List Value} {i:Nat} {m:Str->Option Value},P.Nodup->P[i]?=some x->vs[i]?=some v->kindOf x ≠ some .local ->
  bindC kindOf (P.zip vs) m x=some v
 | [],_,_,_,_,h,_,_=>by simp at h
 | _ :: _,[],_,_,_,_,h,_=>by simp at h
 | p :: P,w :: vs,0,m,nd,h1,h2,hk=>by
  simp at h1 h2;subst h1;subst h2
  show bindC kindOf ((p,w) :: P.zip vs) m p=_
  unfold bindC
  rw [n5 fun v hv=>(List.nodup_cons.mp nd).1 (List.of_mem_zip hv).1,if_neg hk]
  simp
 | p :: P,w :: vs,i + 1,m,nd,h1,h2,hk=>by
  show bindC kindOf ((p,w) :: P.zip vs) m x=_
  unfold bindC
  exact n6 (i:=i) (List.nodup_cons.mp nd).2 (by simpa using h1) (by simpa using h2) hk
def start (N:List Str) (vs:List V):St:=vs.map some ++ List.replicate (N.length - vs.length) none
def tG (CX:CXT) (P:Program) (w:World) (K:W.Frag) (mg:Str->Option Value) (base:Heap) (N:List Str) (qual:Str) (scope:Scope) (f:Addr) (cd:Value) (A:Around) (outer:List Env) (s:Shared) (H:Hp) (E:XK):Cx where
 prog:=P
 w:=w
 K:=K
 mg:=mg
 base:=base
 A:=A.deeper (envOfC qual scope s.heap.objs.size f cd)
 N:=N
 s₀:=s
 H₀:=H
 env:=envOfC qual scope s.heap.objs.size f cd
 outer:=outer
 stack:=envOfC qual scope s.heap.objs.size f cd :: outer
 ex:=[]
 calm:=true
 fn:=fun _=>true
 pn:=[]
 xe:=fun e s'=>wpAny (model P w) (A.deeper (envOfC qual scope s.heap.objs.size f cd)) (leaving (envOfC qual scope s.heap.objs.size f cd) e) (fun _ s''=>CX outer H s E e s'') (fun e' s''=>CX outer H s E e' s'') s'
theorem j9 {sc:Scope} {n:Nat} {x:Str} (h:sc.names.lookup x=some .cell):∃ c,(cellsFrom n sc.names []).lookup x=some c:=by
 have q:=W.cellsFrom_some sc.names n [] (.inl h)
 exact Option.isSome_iff_exists.mp q
theorem bB {CX:CXT} {P:Program} {w:World} {K:W.Frag} {mg:Str->Option Value} {base:Heap} {N ps:List Str} {qual:Str} {scope:Scope} {f:Addr} {cd:Value} {A:Around} {outer:List Env} {s s1:Shared} {H:Hp} {E:XK} {us:List Value} {vs:List V}
  (S:zO N ps scope) (hd:A.handled=none) (e0:fN P w K mg base A outer s H) (hl:vs.length=ps.length) (r:zP vs us)
  (x:InCallC s s.heap.objs.size (bindL (envOfC qual scope s.heap.objs.size f cd).kindOf (ps.zip us) fun _=>none) (cellsFrom (s.heap.objs.size + 1) scope.names []) (bindC (envOfC qual scope s.heap.objs.size f cd).kindOf (ps.zip us) fun _=>none) s1) :
  Inv (tG CX P w K mg base N qual scope f cd A outer s H E) [] (start N vs) H s1:=by
 have hpl:ps.length <= N.length:=by have:=congrArg List.length S.pre;rw [zKM] at this;omega
 obtain ⟨h1,tk,rfl,hk⟩:=x.done
 have noA:∀ b:Addr,b ∉ (tG CX P w K mg base N qual scope f cd A outer s H E).ex:=fun b z=>absurd (show b ∈ ([]:List Addr) from z) (by simp)
 refine ⟨⟨e0.mod,S.kind,rfl,rfl,zKC _,fun y z c h1 h2=>?_,fun y hy=>?_,fun y c _ h=>?_,fun _=>hd,Around.frames_deeper e0.frames,.inr ⟨rfl,rfl⟩,fun b z=>absurd z (noA b),e0.bs,e0.bsz,fun b _ _=>noA b,fun b z=>absurd z (noA b),e0.funs,e0.frf⟩,
  rfl,e0.bare,Un.kept hk,⟨_,x.toInCall.ns,fun i y v h1 h2 h3=>?_⟩,fun y c h=>⟨_,x.cell y c h⟩,e0.hok.fresh (zKC _),fun y c h=>?_,fun p hp=>absurd (show p ∈ ([]:LAO) from hp) (by simp),e0.hok.kept hk,?_⟩
 ·exact name_of_addr x.apart (PySem.mem_of_lookup h1) (PySem.mem_of_lookup h2)
 ·have hy:scope.names.lookup y=some .cell \/ scope.names.lookup y=some .free:=hy
  rcases hy with hy | hy
  ·exact j9 hy
  ·exact absurd rfl (S.nofree _ (PySem.mem_of_lookup hy))
 ·exact Nat.le_of_lt (x.above y c (PySem.mem_of_lookup h))
 ·have hi:i < vs.length:=by
   unfold start at h2
   by_cases hi:i < vs.length
   ·exact hi
   ·rw [zKQ (by simpa using hi)] at h2
    rw [List.getElem?_replicate] at h2
    split at h2 <;> cases h2
  have ha:vs[i]?=some v:=by
   unfold start at h2
   rw [zKR (by simpa using hi),zJ9] at h2
   cases e:vs[i]? with
   | none=>rw [e] at h2;cases h2
   | some a=>rw [e] at h2;cases h2;rfl
  obtain ⟨u,hu,rv⟩:=r.get ha
  have hp:ps[i]?=some y:=by
   rw [<- S.pre,List.getElem?_take_of_lt (by omega)];exact h1
  have ndP:ps.Nodup:=by rw [<- S.pre];exact S.nd.sublist (List.take_sublist _ _)
  refine ⟨u,rv,?_⟩
  rcases S.par y (zJ7 hp) with k | k
  ·exact .inl ⟨k,n4 ndP hp hu k⟩
  ·obtain ⟨c,e⟩:=j9 (n:=s.heap.objs.size + 1) k
   refine .inr ⟨.inl k,c,e,?_⟩
   have q:=x.cell y c e
   rw [n6 ndP hp hu (by show scope.names.lookup y ≠ _;rw [k];decide)] at q
   exact q
 ·exact e0.hok.fresh (Nat.le_of_lt (x.above y c (PySem.mem_of_lookup h)))
 ·unfold start
  show _=N.length
  rw [zKL,zJ3,List.length_replicate]
  omega
theorem zF4 {CX:CXT} {P:Program} {w:World} {K:W.Frag} {mg:Str->Option Value} {base:Heap} {k:Nat} {f:Addr} {name qual:Str} {params:Arguments} {body:List Stmt} {scope:Scope} {dV kV doc pm cdv ct oc:Value} {an od:Option Addr}
  {osl:Array (Option Value)} {N ps:List Str} {sp:Sp} (lk:K.lookup f=some ⟨oc,od,.func (W.fnOf name qual params body scope dV kV doc pm an cdv ct),osl⟩) (hcd:W.codeIn K cdv qual=true) (S:zO N ps scope)
  (len:∀ vs H Q E,sp vs H Q E->vs.length=ps.length)
  (hbody:∀ (A:Around) (outer:List Env) (s:Shared) (H:Hp) (vs:List V) (Q:VK) (E:XK),zX k (A.deeper (envOfC qual scope s.heap.objs.size f cdv))->sp vs H Q E ->
   ∃ t,PSs (tG CX P w K mg base N qual scope f cdv A outer s H E) body t/\t { nx:=fun _ H'=>Q .non H',rt:=Q } (start N vs) H) :
  wW P w K mg base CX (k + 1) f (W.fnOf name qual params body scope dV kV doc pm an cdv ct) ps sp:=by
 refine ⟨len,fun A outer s H args us vs Q E hr e0 hb r hsp=>?_⟩
 have hl:=len _ _ _ _ hsp
 have KX:K.In s.heap:=e0.mod.kin.keeps fun b o e=>(e0.bs b o e).1
 have lim:s.heap.NoLimit:=e0.mod.nolimit.keeps fun b o e=>(e0.bs b o e).1
 have hkind:∀ y ∈ ps.zip us,scope.names.lookup y.1=some .local \/ (scope.names.lookup y.1=some .cell/\((cellsFrom (s.heap.objs.size + 1) scope.names []).lookup y.1).isSome=true):=fun ⟨n,v⟩ hy=>by
  rcases S.par n (List.of_mem_zip hy).1 with q | q
  ·exact .inl q
  ·exact .inr ⟨q,W.cellsFrom_some _ _ _ (.inl q)⟩
 refine codeAny_call_function hr.depth (KX _ _ lk) rfl S.co S.gen rfl (W.codeRec_of KX hcd) (hb _ _ _ _ ?_)
 refine wpAny_newFunctionEnv_cells S.kind hkind fun env he s1 x=>?_
 subst he
 refine ⟨lim.keeps x.toInCall.keep,codeAny_func ?_⟩
 obtain ⟨t,ht,hq⟩:=hbody A outer s H vs Q E (hr.deeper _) hsp
 have I:Inv (tG CX P w K mg base N qual scope f cdv A outer s H E) [] (start N vs) H s1:=bB S hr.hd e0 hl r x
 refine wpAny_mono (ht [] s1 (start N vs) H _ I hq) (fun fl s' hs=>?_) fun e s' hs=>hs
 have fin:∀ {σ':St} {H':Hp} {v:V} {u:Value},Inv (tG CX P w K mg base N qual scope f cdv A outer s H E) [] σ' H' s'->zV v u->Q v H'->CE outer P w H s Q u s':=
  fun {σ' H' v u} J rv q=>⟨v,H',J.os,J.bare,J.base,J.hok,rv,q⟩
 cases fl with
 | ret u=>
  obtain ⟨v,σ',H',J,rv,q⟩:=hs
  exact fin J rv q
 | next=>
  obtain ⟨σ',H',J,q⟩:=hs
  exact fin (v:=V.non) (u:=Value.none) J rfl q
 | brk=>
  obtain ⟨_,_,_,q⟩:=hs
  exact False.elim q
 | cont=>
  obtain ⟨_,_,_,q⟩:=hs
  exact False.elim q
section
variable {X:Cx} {x:Str} {p pos:Pos} {e:Expr} {es:List Expr} {t:TA} {id T:String} {r:List V->Hp->VK->Prop}
def tCB (r:List V->Hp->VK->Prop) (t:TA):TE:=fun σ H Q=>t σ H fun vs H1=>r vs H1 Q
theorem zAJ (hc:xK X (.builtin id) r) (hg:Gl X x) (hm:X.mg x=none) (hv:bootBuiltins x=some (.builtin id)) (ha:PA X (e :: es) t) (hn:x ≠ "__name__":=by decide) (hdb:(x == ("__debug__" : Str))=false:=by decide)
  (he:starEach (e :: es) X.env=(false,eval e X.env) :: starEach es X.env:=by rfl) (hpl:(backTo pos (starEach es X.env)).any (·.1)=false:=by rfl):PE X (.Call (.Name x p) (e :: es) [] pos) (tCB r t):=by
 intro qp s σ H Q I h
 refine wpAny_Call_Name_kw (tW I hg hm hv ?_ hn hdb)
 exact PyProof.Rows.callWith_builtin1 (thn (ha pos qp s σ H _ I h) fun us s1 ⟨vs,H1,I1,r1,q1⟩=>hc qp s1 σ H1 vs us Q I1 r1 q1) he hpl
theorem wA (hc:xK X (.type T) r) (hg:Gl X x) (hm:X.mg x=none) (hv:bootBuiltins x=some (.type T)) (ha:PA X (e :: es) t) (hn:x ≠ "__name__":=by decide) (hdb:(x == ("__debug__" : Str))=false:=by decide)
  (he:starEach (e :: es) X.env=(false,eval e X.env) :: starEach es X.env:=by rfl) (hpl:(backTo pos (starEach es X.env)).any (·.1)=false:=by rfl):PE X (.Call (.Name x p) (e :: es) [] pos) (tCB r t):=by
 intro qp s σ H Q I h
 refine wpAny_Call_Name_kw (tW I hg hm hv ?_ hn hdb)
 exact PyProof.Rows.callWith_type1 (thn (ha pos qp s σ H _ I h) fun us s1 ⟨vs,H1,I1,r1,q1⟩=>hc qp s1 σ H1 vs us Q I1 r1 q1) he hpl
end
end L2
namespace HT
open PySem PyProof.Rows
section
open PySem.SeqAt
open PySem.AutoSeq1 (wpAny_loadPart')
open PySem.MeetsSeq PySem.MeetsSeq2 PySem.MeetsSeq3
end
section
variable {prog:Program} {w:World} {A:Around} {E:Value->Shared->Prop} {s:Shared}
def sIx (n d:Nat):Option Int->Nat
 | none=>d
 | some v=>if v < 0 then (v + (n:Int)).toNat else min v.toNat n
theorem sIx_none (n d:Nat):sIx n d none=d:=rfl
theorem sIx_nat (n d k:Nat):sIx n d (some (k:Int))=min k n:=by
 show (if (k:Int) < 0 then ((k:Int) + (n:Int)).toNat else min (k:Int).toNat n)=min k n
 rw [if_neg (by omega),Int.toNat_natCast]
end
end HT
namespace L2
open PySem PySem.Spec PyProof.Rows
abbrev TO:=St->Hp->(Option Int->Hp->Prop)->Prop
def PO (X:Cx) (e:Option Expr) (t:TO):Prop:=
 ∀ (qp:LAO) (s:Shared) (σ:St) (H:Hp) (Q:Option Int->Hp->Prop),Inv X qp σ H s->t σ H Q ->
  wpAny (model X.prog X.w) X.A (evalPart e X.env) (fun u s'=>∃ o H',Inv X qp σ H' s'/\IsPart u o/\Q o H') X.xe s
def zCP:TO:=fun _ H Q=>Q none H
def zIF (t:TE):TO:=fun σ H Q=>t σ H fun x H1=>∃ i,x=.int i/\Q (some i) H1
section
variable {X:Cx} {e:Expr} {te:TE} {lo hi:Option Expr} {tl th:TO} {pos p2:Pos}
theorem yX:PO X none zCP:=by
 intro qp s σ H Q I h
 rw [evalPart_none]
 exact wpAny_pure ⟨none,H,I,.none,h⟩
theorem yL (h:PE X e te):PO X (some e) (zIF te):=by
 intro qp s σ H Q I hw
 rw [evalPart_some]
 refine thn (h qp s σ H _ I hw) fun u s1 hz32=>?_
 obtain ⟨x,H1,I1,r1,q1⟩:=hz32
 obtain ⟨i,rfl,q⟩:=q1
 obtain ⟨t,rfl⟩:=r1
 exact ⟨some i,H1,I1,.int i t,q⟩
def SlR (X:Cx) (r:V->Option Int->Option Int->Hp->VK->Prop):Prop:=
 ∀ (qp:LAO) (s:Shared) (σ:St) (H:Hp) (x:V) (v vl vu:Value) (lo hi:Option Int) (sl:Addr) (Q:VK),Inv X qp σ H s->zV x v->s.heap.IsSliceOf sl vl vu .none->IsPart vl lo->IsPart vu hi->r x lo hi H Q ->
  ∃ T id,typeLookup (.type T) "__getitem__"=pure (some (.builtin id))/\s.TypeIs v T/\wpAny (model X.prog X.w) X.A (getItem v (.ref sl)) (EP X qp σ Q) X.xe s
def tSl (r:V->Option Int->Option Int->Hp->VK->Prop) (te:TE) (tl th:TO):TE:=fun σ H Q=>te σ H fun x H1=>tl σ H1 fun l H2=>th σ H2 fun u H3=>r x l u H3 Q
theorem yJ {r:V->Option Int->Option Int->Hp->VK->Prop} (hr:SlR X r) (he:PE X e te) (hl:PO X lo tl) (hu:PO X hi th):PE X (.Subscript e (.Slice lo hi none p2) pos) (tSl r te tl th):=by
 intro qp s σ H Q I h
 refine Subscript_ (thn (he qp s σ H _ I h) fun v s1 hz33=>?_)
 obtain ⟨x,H1,I1,r1,q1⟩:=hz33
 refine wpAny_Slice (thn (hl qp s1 σ H1 _ I1 q1) fun vl s2 hz34=>?_)
 obtain ⟨l,H2,I2,pl,q2⟩:=hz34
 refine thn (hu qp s2 σ H2 _ I2 q2) fun vu s3 hz35=>?_
 obtain ⟨u,H3,I3,pu,q3⟩:=hz35
 rw [evalPart_none]
 refine wpAny_pure ?_
 have I4:Inv X qp σ H3 { s3 with heap:=s3.heap.push { cls:=.type "slice",data:=.fields #[vl,vu,.none] } }:=I3.kept (t':=s3.toks) fun b ob q=>Heap.get?_push_of_some _ q
 obtain ⟨T,id,hT,ht,hg⟩:=hr qp { s3 with heap:=s3.heap.push { cls:=.type "slice",data:=.fields #[vl,vu,.none] } } σ H3 x v vl vu l u s3.heap.objs.size Q I4 r1 (Heap.IsSliceOf.new ..) pl pu q3
 show wpAny (model X.prog X.w) X.A (subscriptTail e (.Slice lo hi none p2) v (.ref s3.heap.objs.size)) (EP X qp σ Q) X.xe { s3 with heap:=s3.heap.push { cls:=.type "slice",data:=.fields #[vl,vu,.none] } }
 exact tail_any (ops:=[.ref s3.heap.objs.size,v]) ht hT hg (by with_unfolding_all rfl)
def rM (xs:List V) (lo hi:Option Int):List V:=(xs.drop (HT.sIx xs.length 0 lo)).take (HT.sIx xs.length xs.length hi - HT.sIx xs.length 0 lo)
theorem j7 (xs:List V) (lo hi:Option Int):(rM xs lo hi).length <= xs.length:=by
 unfold rM
 rw [zKM,List.length_drop]
 omega
end
def ixN (n:Nat) (i:Int):Option Nat:=if 0 <= i then (if i < n then some i.toNat else none) else if -(n:Int) <= i then some (i + n).toNat else none
def atI {α:Type} (xs:List α) (i:Int):Option α:=(ixN xs.length i).bind fun j=>xs[j]?
theorem qO {n:Nat} {i:Int} {j:Nat} (h:ixN n i=some j):seqIndex? i n=some j/\j < n/\-(n:Int) <= i/\i < n:=by
 unfold ixN at h
 by_cases h0:0 <= i
 ·rw [if_pos h0] at h
  by_cases h1:i < n
  ·rw [if_pos h1] at h
   have e:i.toNat=j:=zKA h
   exact ⟨by rw [seqIndex_of h0 h1,e],by omega,by omega,h1⟩
  ·rw [if_neg h1] at h;cases h
 ·rw [if_neg h0] at h
  by_cases h1:-(n:Int) <= i
  ·rw [if_pos h1] at h
   have e:(i + n).toNat=j:=zKA h
   exact ⟨by rw [seqIndex_neg (by omega) h1,e],by omega,h1,by omega⟩
  ·rw [if_neg h1] at h;cases h
theorem lQ {α:Type} {xs:List α} {i:Int} {v:α} (h:atI xs i=some v):∃ j,seqIndex? i xs.length=some j/\xs[j]?=some v/\j < xs.length/\-(xs.length:Int) <= i/\i < xs.length:=by
 unfold atI at h
 cases e:ixN xs.length i with
 | none=>rw [e] at h;cases h
 | some j=>
  rw [e] at h
  obtain ⟨h1,h2,h3,h4⟩:=qO e
  exact ⟨j,h1,h,h2,h3,h4⟩
theorem wV {α:Type} {xs:List α} {j:Nat} {v:α} (h:xs[j]?=some v):atI xs (j:Int)=some v:=by
 have hj:j < xs.length:=(zJ5.mp h).1
 have e:ixN xs.length (j:Int)=some j:=by
  unfold ixN
  rw [if_pos (by omega),if_pos (by omega)];simp
 unfold atI;rw [e];exact h
theorem iB {α:Type} (xs:List α) (v:α):atI (xs ++ [v]) (-1)=some v:=by
 have hl:(xs ++ [v]).length=xs.length + 1:=by simp
 have e:ixN (xs ++ [v]).length (-1)=some xs.length:=by
  unfold ixN
  rw [hl,if_neg (by decide),if_pos (by omega)]
  congr 1
  omega
 unfold atI
 rw [e]
 show (xs ++ [v])[xs.length]?=some v
 simp
def zFB (b:Expr):Prop:=∀ o i,subscripted b false o i=operate [o,i] (getItem o i)
def IxR (X:Cx) (r:R2):Prop:=
 ∀ (value slice:Expr) (qp:LAO) (s:Shared) (σ:St) (H:Hp) (x y:V) (v u:Value) (Q:VK),Inv X qp σ H s->zV x v->zV y u->r x y H Q ->
  subscripted slice false v u=operate [v,u] (getItem v u)->wpAny (model X.prog X.w) X.A (subscriptTail value slice v u) (EP X qp σ Q) X.xe s
def MtR (X:Cx) (id:String) (r:V->List V->Hp->VK->Prop):Prop:=
 ∀ (qp:LAO) (s:Shared) (σ:St) (H:Hp) (x:V) (xs:List V) (v:Value) (us:List Value) (Q:VK),Inv X qp σ H s->zV x v->zP xs us->r x xs H Q ->
  wpAny (model X.prog X.w) X.A (call (.builtin id) (v :: us)) (EP X qp σ Q) X.xe s
section
variable {X:Cx} {a b:Expr} {ta tb:TE} {pos:Pos}
theorem yI {r:R2} (hr:IxR X r) (ha:PE X a ta) (hb:PE X b tb) (hs:zFB b):PE X (.Subscript a b pos) (tOp r ta tb):=by
 intro qp s σ H Q I h
 exact Subscript_ (zH4 ha hb I h fun v u s2 x y H2 I2 rx ry q=>hr a b qp s2 σ H2 x y v u Q I2 rx ry q (hs _ _))
def rIxL (K:W.Frag):R2:=fun x y H Q=>∃ p xs i v,x=.ref p/\y=.int i/\SqL K H p xs/\atI xs i=some v/\Q v H
def rIxT (K:W.Frag):R2:=fun x y H Q=>∃ p xs i v,x=.ref p/\y=.int i/\SqT K H p xs/\atI xs i=some v/\Q v H
def rIxS:R2:=fun x y H Q=>∃ z i c,x=.str z/\y=.int i/\z.length <= sizeLine/\atI z.cps.toList i=some c/\Q (.str ⟨#[c]⟩) H
theorem zEM:IxR X (rIxL X.K):=by
 intro value slice qp s σ H x y v u Q I rx ry h hs
 obtain ⟨p,xs,i,z,rfl,rfl,hq,he,q⟩:=h
 cases rx
 obtain ⟨t,rfl⟩:=ry
 obtain ⟨its,r,pl,hz⟩:=I.list hq
 obtain ⟨j,h1,h2,h3,h4,h5⟩:=lQ he
 obtain ⟨w,ew,rw'⟩:=r.get h2
 have hl:=r.length
 have hn:=tU
 have fin:EP X qp σ Q w s:=⟨z,H,I,rw',q⟩
 by_cases h0:0 <= i
 ·have hj:i.toNat=j:=by
   rw [seqIndex_of h0 h5] at h1
   exact zKA h1
  exact item_listR pl.isList h0 (by omega) (by rw [hj];simpa using ew) fin hs
 ·have hj:(i + (its.toArray.size:Int)).toNat=j:=by
   rw [seqIndex_neg (by omega) h4] at h1
   rw [zKB,<- hl]
   exact zKA h1
  exact subscriptTail_builtinR (x:=w) pl.isList.typeIs slot_list_getitem.lookup
   (wpAny_getItem_list_neg (Q:=fun r s'=>r=w/\EP X qp σ Q r s') pl.isList (by omega) (by rw [zKB] <;> omega) (by omega) (by rw [hj];simpa using ew) ⟨rfl,fin⟩) hs
theorem zHZ:IxR X (rIxT X.K):=by
 intro value slice qp s σ H x y v u Q I rx ry h hs
 obtain ⟨p,xs,i,z,rfl,rfl,hq,he,q⟩:=h
 cases rx
 obtain ⟨t,rfl⟩:=ry
 obtain ⟨its,r,pl,hz⟩:=I.tuple hq
 obtain ⟨j,h1,h2,h3,h4,h5⟩:=lQ he
 obtain ⟨w,ew,rw'⟩:=r.get h2
 have hl:=r.length
 have hn:=tU
 have fin:EP X qp σ Q w s:=⟨z,H,I,rw',q⟩
 exact subscriptTail_builtinR (x:=w) pl.typeIs slot_tuple_getitem.lookup
  (getItem_tuple (j:=j) (Q:=fun r s'=>r=w/\EP X qp σ Q r s') pl (by omega) (by omega) (by rw [zKB,<- hl];exact h1) (by simpa using ew) ⟨rfl,fin⟩) hs
theorem lH:IxR X rIxS:=by
 intro value slice qp s σ H x y v u Q I rx ry h hs
 obtain ⟨z,i,c,rfl,rfl,hz,he,q⟩:=h
 obtain ⟨t,rfl⟩:=rx
 obtain ⟨t',rfl⟩:=ry
 obtain ⟨j,h1,h2,h3,h4,h5⟩:=lQ he
 have hl:z.cps.toList.length=z.length:=by simp [Str.length]
 rw [hl] at h1 h4 h5
 have hn:=tU
 exact tail_any (typeIs_str s z t) slot_str_getitem.lookup (getItem_str (c:=c) (by
  have e1:decide (i < -(2 ^ 63:Int))=false:=zKJ (by omega)
  have e2:decide (i >= 2 ^ 63)=false:=zKJ (by omega)
  rw [e1,e2,Bool.or_false]) (by rw [h1];simpa using h2) ⟨.str ⟨#[c]⟩,H,I.tok _,⟨_,rfl⟩,q⟩) hs
theorem hZ (its:List Value) (n j:Nat) (u:Value):Obj.mapSeq (·.setIfInBounds j u) { cls:=.type "list",data:=.seq its.toArray n } = { cls:=.type "list",data:=.seq (its.set j u).toArray n }:=by
 simp [Obj.mapSeq]
theorem Inv.lst {qp:LAO} {σ:St} {H:Hp} {s:Shared} {p:Addr} {xs:List V} (I:Inv X qp σ H s) (h:H p=some (.lst xs)) :
  ∃ (its:List Value) (n:Nat),zP xs its/\s.heap.get? p=some { cls:=.type "list",data:=.seq its.toArray n }/\xs.length <= sizeLine:=by
 obtain ⟨z,its,n,r,e⟩:=I.hok p _ h
 exact ⟨its,n,r,e,z⟩
theorem Inv.lstUpd {qp:LAO} {σ:St} {H:Hp} {s:Shared} {p:Addr} {xs ys:List V} {its its':List Value} {n n':Nat} {f:Obj->Obj} (I:Inv X qp σ H s) (h:H p=some (.lst xs))
  (ho:s.heap.get? p=some { cls:=.type "list",data:=.seq its.toArray n }) (hf:f { cls:=.type "list",data:=.seq its.toArray n } = { cls:=.type "list",data:=.seq its'.toArray n' }) (r:zP ys its') (hz:ys.length <= sizeLine) (t:Nat) :
  Inv X qp σ (upd H p (.lst ys)) { s with heap:=s.heap.update p f,toks:=t }:=by
 have e:(s.heap.update p f).get? p=some { cls:=.type "list",data:=.seq its'.toArray n' }:=by
  rw [Heap.get?_update_self f ho (by rw [hf] <;> rfl),hf]
 refine I.write (x:=p) (e:=p) (by rw [h];trivial) (.inl rfl) (fun b u hb q=>(Heap.get?_update_other _ _ (Ne.symm hb)).trans q) ⟨_,e⟩ ?_
 exact ⟨hz,its',n',r,e⟩
def zFW:V->V->V->Hp->(Hp->Prop)->Prop:=fun o i v H Q=>∃ p xs k j,o=.ref p/\i=.int k/\H p=some (.lst xs)/\ixN xs.length k=some j/\Q (upd H p (.lst (xs.set j v)))
theorem sF:zJZ X zFW:=by
 intro qp s σ H o i v ov iv u Q I ro ri rv h
 obtain ⟨p,xs,k,j,rfl,rfl,hp,hj,q⟩:=h
 cases ro
 obtain ⟨t,rfl⟩:=ri
 obtain ⟨its,n,r,ho,hz⟩:=I.lst hp
 obtain ⟨h1,h2,h3,h4⟩:=qO hj
 have hl:=r.length
 have hn:=tU
 have I':Inv X qp σ (upd H p (.lst (xs.set j v))) { s with heap:=s.heap.update p (Obj.mapSeq (·.setIfInBounds j u)) }:=
  I.lstUpd hp ho (hZ its n j u) (r.set rv j) (by rw [zK4];exact hz) s.toks
 by_cases h0:0 <= k
 ·have hk:k.toNat=j:=by
   rw [seqIndex_of h0 h4] at h1
   exact zKA h1
  exact W.ki_setAt ho h0 (by omega) (by rw [zKB,<- hl];exact h4) (by rw [hk];exact ⟨_,I',q⟩)
 ·have hk:(k + (its.toArray.size:Int)).toNat=j:=by
   rw [seqIndex_neg (by omega) h3] at h1
   rw [zKB,<- hl]
   exact zKA h1
  exact W.ki_setBack ho (by omega) (by rw [zKB,<- hl];exact h3) (by omega) (by rw [hk];exact ⟨_,I',q⟩)
theorem mM (lo hi:Option Int) (n:Nat):(sliceBounds lo hi none n).1=((HT.sIx n 0 lo:Nat):Int)/\(sliceBounds lo hi none n).2.1=((HT.sIx n n hi:Nat):Int)/\(sliceBounds lo hi none n).2.2=1:=by
 refine ⟨?_,?_,rfl⟩
 ·cases lo with
  | none=>simp [sliceBounds,HT.sIx]
  | some i=>
   simp only [sliceBounds,HT.sIx,Option.getD_none,show (1:Int) > 0 by decide,if_true]
   by_cases h:i < 0
   ·simp only [h,if_true] <;> omega
   ·simp only [h,if_false] <;> omega
 ·cases hi with
  | none=>simp [sliceBounds,HT.sIx]
  | some i=>
   simp only [sliceBounds,HT.sIx,Option.getD_none,show (1:Int) > 0 by decide,if_true]
   by_cases h:i < 0
   ·simp only [h,if_true] <;> omega
   ·simp only [h,if_false] <;> omega
theorem oG (its:List Value) (lo hi:Option Int):slicePick its.toArray lo hi none=((its.drop (HT.sIx its.length 0 lo)).take (HT.sIx its.length its.length hi - HT.sIx its.length 0 lo)).toArray:=by
 obtain ⟨h1,h2,h3⟩:=mM lo hi its.toArray.size
 unfold slicePick
 rw [h1,h2,h3]
 simp only [sliceRange_one,pick_run,zKB] <;> rfl
def rSlL (K:W.Frag):V->Option Int->Option Int->Hp->VK->Prop:=fun x lo hi H Q=>∃ a xs,x=.ref a/\SqL K H a xs/\∀ p,H p=none->Q (.ref p) (upd H p (.lst (rM xs lo hi)))
theorem xH:SlR X (rSlL X.K):=by
 intro qp s σ H x v vl vu lo hi sl Q I rx hs pl pu h
 obtain ⟨a,xs,rfl,hx,q⟩:=h
 cases rx
 obtain ⟨its,r,ht,hz⟩:=I.list hx
 have hlen:=r.length
 refine ⟨"list",_,slot_list_getitem.lookup,ht.isList.typeIs,?_⟩
 refine wpAny_getItem_list_slice ht.isList hs pl pu .none (by simp) ?_ (by rw [zKB] <;> omega)
 rw [oG,<- hlen]
 refine ⟨.ref s.heap.objs.size,_,I.laid (t':=s.toks) (o:=.lst (rM xs lo hi)) (fun b ob q=>Heap.get?_push_of_some _ q) (zKC _) ?_,rfl,q _ (I.hok.fresh (zKC _))⟩
 exact ⟨zKE (j7 xs lo hi) hz,_,0,(r.drop (HT.sIx xs.length 0 lo)).take (HT.sIx xs.length xs.length hi - HT.sIx xs.length 0 lo),Heap.get?_push_size _ rfl⟩
def wP:V->Bool
 | .non=>true
 | .bl _=>true
 | .int _=>true
 | .str _=>true
 | _=>false
def eqV:V->V->Bool
 | .non,.non=>true
 | .bl a,.bl b=>a == b
 | .bl a,.int b=>(if a then 1 else 0) == b
 | .int a,.bl b=>a == (if b then 1 else 0)
 | .int a,.int b=>a == b
 | .str a,.str b=>a == b
 | _,_=>false
theorem gT {A:Around} {s:Shared} {y x:V} {u v:Value} (ry:zV y u) (rx:zV x v) (fy:wP y=true) (fx:wP x=true):SeqAt.EqAt A s u v (eqV y x):=by
 cases y with
 | non=>
  cases ry
  cases x with
  | non=>cases rx;exact SeqAt.EqAt.same _
  | bl b=>cases rx;exact SeqAt.EqAt.none_bool b
  | int b=>obtain ⟨t,rfl⟩:=rx;exact SeqAt.EqAt.none_int b t
  | str b=>obtain ⟨t,rfl⟩:=rx;exact SeqAt.EqAt.none_str b t
  | _=>exact absurd (show false=true from fx) zKV
 | bl a=>
  cases ry
  cases x with
  | non=>cases rx;exact SeqAt.EqAt.bool_none a
  | bl b=>cases rx;exact SeqAt.EqAt.bool_bool a b
  | int b=>obtain ⟨t,rfl⟩:=rx;exact SeqAt.EqAt.bool_int a b t
  | str b=>obtain ⟨t,rfl⟩:=rx;exact SeqAt.EqAt.bool_str a b t
  | _=>exact absurd (show false=true from fx) zKV
 | int a=>
  obtain ⟨t',rfl⟩:=ry
  cases x with
  | non=>cases rx;exact SeqAt.EqAt.int_none a t'
  | bl b=>cases rx;exact SeqAt.EqAt.int_bool a t' b
  | int b=>obtain ⟨t,rfl⟩:=rx;exact SeqAt.EqAt.int_int a t' b t
  | str b=>obtain ⟨t,rfl⟩:=rx;exact SeqAt.EqAt.int_str a t' b t
  | _=>exact absurd (show false=true from fx) zKV
 | str a=>
  obtain ⟨t',rfl⟩:=ry
  cases x with
  | non=>cases rx;exact SeqAt.EqAt.str_none a t'
  | bl b=>cases rx;exact SeqAt.EqAt.str_bool a t' b
  | int b=>obtain ⟨t,rfl⟩:=rx;exact SeqAt.EqAt.str_int a t' b t
  | str b=>obtain ⟨t,rfl⟩:=rx;exact SeqAt.EqAt.str_str a t' b t
  | _=>exact absurd (show false=true from fx) zKV
 | _=>exact absurd (show false=true from fy) zKV
def eqU (x:V) (u:Value):Bool:=match u with
 | .none=>eqV .non x
 | .bool b=>eqV (.bl b) x
 | .int i _=>eqV (.int i) x
 | .str z _=>eqV (.str z) x
 | _=>false
theorem zBQ {x y:V} {u:Value} (r:zV y u) (f:wP y=true):eqU x u=eqV y x:=by
 cases y with
 | non=>cases r;rfl
 | bl b=>cases r;rfl
 | int i=>obtain ⟨t,rfl⟩:=r;rfl
 | str z=>obtain ⟨t,rfl⟩:=r;rfl
 | _=>exact absurd (show false=true from f) zKV
theorem lR {x:V}:∀ {xs:List V} {us:List Value},zP xs us->xs.all wP=true->us.any (eqU x)=xs.any fun y=>eqV y x
 | _,_,.nil,_=>rfl
 | y :: xs,u :: us,.cons r t,f=>by
  rw [List.all_cons,Bool.and_eq_true] at f
  rw [List.any_cons,List.any_cons,zBQ r f.1,lR t f.2]
theorem pN {A:Around} {s:Shared} {x:V} {v:Value} (rx:zV x v) (fx:wP x=true):∀ {xs:List V} {us:List Value},zP xs us->xs.all wP=true->∀ u ∈ us,SeqAt.EqAt A s u v (eqU x u)
 | _,_,.nil,_=>fun u hu=>by cases hu
 | y :: xs,u :: us,.cons r t,f=>fun u' hu=>by
  rw [List.all_cons,Bool.and_eq_true] at f
  rcases List.mem_cons.mp hu with rfl | hu
  ·rw [zBQ r f.1];exact gT r rx f.1 fx
  ·exact pN rx fx t f.2 u' hu
def inV (x:V) (xs:List V):Bool:=xs.any fun y=>eqV y x
def rIn (K:W.Frag) (neg:Bool):R2:=fun x y H Q=>∃ p xs,y=.ref p/\(SqL K H p xs \/ SqT K H p xs)/\wP x=true/\xs.all wP=true/\Q (.bl (if neg then !inV x xs else inV x xs)) H
theorem cU:OpR X (compareOp .In) (rIn X.K false):=by
 intro qp s σ H x y v u Q I rx ry h
 obtain ⟨p,xs,rfl,hq,fx,fs,q⟩:=h
 cases ry
 rcases hq with hq | hq
 ·obtain ⟨its,r,pl,hz⟩:=I.list hq
  refine SeqAt.in_listAt (eqU x) pl.isList (fun w hw=>pN rx fx r fs w (by simpa using hw)) ⟨.bl _,H,I,rfl,?_⟩
  rw [show its.toArray.any (eqU x)=its.any (eqU x) by simp,lR r fs]
  exact q
 ·obtain ⟨its,r,pl,hz⟩:=I.tuple hq
  refine SeqAt.in_tupleAt (eqU x) pl (fun w hw=>pN rx fx r fs w (by simpa using hw)) ⟨.bl _,H,I,rfl,?_⟩
  rw [show its.toArray.any (eqU x)=its.any (eqU x) by simp,lR r fs]
  exact q
theorem uE:xK X (.type "list") (fun xs H Q=>∃ p ys,xs=[.ref p]/\(SqL X.K H p ys \/ SqT X.K H p ys)/\∀ l,H l=none->Q (.ref l) (upd H l (.lst ys))):=by
 intro qp s σ H xs us Q I r h
 obtain ⟨p,ys,rfl,hq,q⟩:=h
 obtain ⟨u,rfl,rx⟩:=uH r
 cases rx
 have fin:∀ (its:List Value),zP ys its->ys.length <= sizeLine->∀ (h':Heap) (c':Nat),(∀ b o',s.heap.get? b=some o'->h'.get? b=some o') ->
   h'.get? s.heap.objs.size=some { cls:=.type "list",dict:=none,data:=.seq its.toArray c',slots:=#[] }->EP X qp σ Q (.ref s.heap.objs.size) { s with heap:=h' }:=fun its r' hz h' c' kp e=>
  ⟨.ref s.heap.objs.size,_,I.laid (t':=s.toks) kp (zKC _) (show yG X.prog X.w _ h' _ (.lst ys) from ⟨hz,its,c',r',e⟩),rfl,q _ (I.hok.fresh (zKC _))⟩
 rcases hq with hq | hq
 ·obtain ⟨its,r',pl,hz⟩:=I.list hq
  have hlen:=r'.length
  obtain ⟨o,ho,hc,n,hd⟩:=pl.isList
  exact call_list_seq p (.inl rfl) ho hc hd (fun h' c' kp e=>fin its r' hz h' c' kp e) (by simp only [zKB] <;> omega)
 ·obtain ⟨its,r',pl,hz⟩:=I.tuple hq
  have hlen:=r'.length
  obtain ⟨o,ho,hc,n,hd⟩:=pl
  exact call_list_seq p (.inr rfl) ho hc hd (fun h' c' kp e=>fin its r' hz h' c' kp e) (by simp only [zKB] <;> omega)
theorem oJ:xK X (.type "tuple") (fun xs H Q=>∃ p ys,xs=[.ref p]/\((SqL X.K H p ys/\∀ l,H l=none->Q (.ref l) (upd H l (.tup ys))) \/ (SqT X.K H p ys/\Q (.ref p) H))):=by
 intro qp s σ H xs us Q I r h
 obtain ⟨p,ys,rfl,h⟩:=h
 obtain ⟨u,rfl,rx⟩:=uH r
 cases rx
 rcases h with ⟨hq,q⟩ | ⟨hq,q⟩
 ·obtain ⟨its,r',pl,hz⟩:=I.list hq
  have hlen:=r'.length
  refine call_tuple_list pl.isList (fun h' kp=>?_) (by simp only [zKB] <;> omega)
  have I1:Inv X qp σ H { s with heap:=h' }:=I.kept (t':=s.toks) kp
  have I2:Inv X qp σ (upd H h'.objs.size (.tup ys)) { s with heap:=h'.push { cls:=.type "tuple",data:=.seq its.toArray } }:=
   I1.laid (t':=s.toks) (fun b o e=>Heap.get?_push_of_some _ e) (zKC _) (show yG X.prog X.w _ _ _ (.tup ys) from ⟨hz,its,r',IsTup.new _ _⟩)
  exact ⟨.ref h'.objs.size,_,I2,rfl,q _ (I1.hok.fresh (zKC _))⟩
 ·obtain ⟨its,r',pl,hz⟩:=I.tuple hq
  exact call_tuple_same pl ⟨.ref p,H,I,rfl,q⟩
def tyV (K:W.Frag) (T:String) (x:V) (H:Hp):Prop:=match x with
 | .str _=>T="str"
 | .int _=>T="int"
 | .ref p=>(T="list"/\∃ xs,SqL K H p xs) \/ (T="tuple"/\∃ o,K.lookup p=some o/\o.cls=.type "tuple"/\o.dict=none) \/
   (T="dict"/\((∃ kvs,H p=some (.dK kvs)) \/ ∃ kvs,H p=some (.dT kvs))) \/ (T="set"/\∃ S n,H p=some (.set S n))
 | _=>False
theorem bU {qp:LAO} {σ:St} {H:Hp} {s:Shared} {T:String} {x:V} {v:Value} (I:Inv X qp σ H s) (r:zV x v) (ty:tyV X.K T x H) :
  s.TypeIs v T/\∀ a,v=.ref a->∃ ob,s.heap.get? a=some ob/\ob.dict=none:=by
 cases x with
 | str z=>
  obtain ⟨t,rfl⟩:=r
  cases (show T="str" from ty)
  exact ⟨typeIs_str s z t,fun _ e=>nomatch e⟩
 | int i=>
  obtain ⟨t,rfl⟩:=r
  cases (show T="int" from ty)
  exact ⟨typeIs_int s i t,fun _ e=>nomatch e⟩
 | ref p=>
  cases r
  rcases ty with ⟨rfl,xs,hq⟩ | ⟨rfl,o,hk,hc,hd⟩ | ⟨rfl,hk⟩ | ⟨rfl,S,n,hk⟩
  ·obtain ⟨its,_,pl,_⟩:=I.list hq
   refine ⟨pl.isList.typeIs,fun a e=>?_⟩
   cases e
   obtain ⟨o,n,e,c,hd,_⟩:=pl
   exact ⟨o,e,hd⟩
  ·refine ⟨⟨o,I.kIn p o hk,hc⟩,fun a e=>?_⟩
   cases e
   exact ⟨o,I.kIn _ o hk,hd⟩
  ·have z:∃ o,s.heap.get? p=some o/\o.ExactDict:=by
    rcases hk with ⟨kvs,hk⟩ | ⟨kvs,hk⟩
    ·obtain ⟨_,_,_,_,o,_,_,e,ex,_⟩:=I.hok p _ hk
     exact ⟨o,e,ex⟩
    ·obtain ⟨_,_,_,_,o,_,_,e,ex,_⟩:=I.hok p _ hk
     exact ⟨o,e,ex⟩
   obtain ⟨o,e,ex⟩:=z
   refine ⟨⟨o,e,ex.1⟩,fun a e2=>?_⟩
   cases e2
   exact ⟨o,e,ex.2.1⟩
  ·obtain ⟨o,_,_,_,e,ex,_⟩:=I.hok p _ hk
   refine ⟨⟨o,e,ex.1⟩,fun a e2=>?_⟩
   cases e2
   exact ⟨o,e,ex.2.1⟩
 | _=>exact False.elim ty
def tBM0 (K:W.Frag) (T:String) (r:V->List V->Hp->VK->Prop) (to:TE):TE:=fun σ H Q=>to σ H fun x H1=>tyV K T x H1/\r x [] H1 Q
def tBM (K:W.Frag) (T:String) (r:V->List V->Hp->VK->Prop) (to:TE) (t:TA):TE:=fun σ H Q=>to σ H fun x H1=>tyV K T x H1/\t σ H1 fun xs H2=>r x xs H2 Q
variable {o e:Expr} {es:List Expr} {to:TE} {t:TA} {name:Str} {apos cpos:Pos} {T id:String} {r:V->List V->Hp->VK->Prop}
theorem zG4 (pa:PlainAttrs T) (slot:Slot T name id) (hty:typeOf (.builtin id)=pure (.type "method_descriptor")) (hm:MtR X id r) (ho:PE X o to)
  (hbase:attributeBase o name X.env (eval o X.env)=eval o X.env:=by rfl) (hline:(apos.endLine == cpos.line)=true:=by rfl):PE X (.Call (.Attribute o name apos) [] [] cpos) (tBM0 X.K T r to):=by
 intro qp s σ H Q I h
 refine wpAny_Call_method0_late hbase hline (thn (ho qp s σ H _ I h) fun v s1 hz36=>?_)
 obtain ⟨x,H1,I1,r1,ty,q1⟩:=hz36
 obtain ⟨h1,h2⟩:=bU I1 r1 ty
 exact ⟨T,id,pa,slot,hty,h1,h2,Calls.callWith_builtin rfl (PySem.evalArgs_none (hm qp s1 σ H1 x [] v [] Q I1 r1 .nil q1))⟩
theorem yS (pa:PlainAttrs T) (slot:Slot T name id) (hty:typeOf (.builtin id)=pure (.type "method_descriptor")) (hm:MtR X id r) (ho:PE X o to) (ha:PA X (e :: es) t)
  (hbase:attributeBase o name X.env (eval o X.env)=eval o X.env:=by rfl)
  (hfew:((backTo cpos (starEach (e :: es) X.env)).all (fun x=>!x.1) && (backToKw cpos (keywordEach [] X.env)).all (fun x=>x.1.isSome)
   && decide ((e :: es).length + ([]:List Keyword).length + (if ([]:List Keyword).isEmpty then 0 else 1) < 30))=true:=by rfl)
  (hline:(apos.endLine == cpos.line)=true:=by rfl) (hs:starEach (e :: es) X.env=(false,eval e X.env) :: starEach es X.env:=by rfl) (hplain:(backTo cpos (starEach es X.env)).any (·.1)=false:=by rfl) :
  PE X (.Call (.Attribute o name apos) (e :: es) [] cpos) (tBM X.K T r to t):=by
 intro qp s σ H Q I h
 refine wpAny_Call_method_late hbase hfew hline rfl (thn (ho qp s σ H _ I h) fun v s1 hz37=>?_)
 obtain ⟨x,H1,I1,r1,ty,q1⟩:=hz37
 obtain ⟨h1,h2⟩:=bU I1 r1 ty
 refine ⟨T,id,pa,slot,hty,h1,h2,?_⟩
 have hA:=ha cpos qp s1 σ H1 _ I1 q1
 rw [hs] at hA ⊢
 refine Calls.callWith_builtin (by show (false || (backTo cpos (starEach es X.env)).any (·.1))=false;rw [hplain] <;> rfl) (Calls.evalArgs_plain ?_)
 exact thn hA fun us s2 ⟨vs,H2,I2,r2,q2⟩=>hm qp s2 σ H2 x vs v us Q I2 r1 r2 q2
end
def MtM (X:Cx) (id:String) (r:V->List V->Hp->VK->Prop):Prop:=
 ∀ (qp:LAO) (s:Shared) (σ:St) (H:Hp) (x:V) (xs:List V) (v:Value) (us:List Value) (Q:VK),Inv X qp σ H s->zV x v->zP xs us->r x xs H Q ->
  wpAny (model X.prog X.w) X.A (call (.builtin id) (v :: us)) (EP X qp σ Q) X.xe s
theorem zP.one {x:V} {us:List Value} (h:zP [x] us):∃ u,us=[u]/\zV x u:=by
 cases h with
 | cons r k=>cases k;exact ⟨_,rfl,r⟩
theorem zP.two {x y:V} {us:List Value} (h:zP [x,y] us):∃ u v,us=[u,v]/\zV x u/\zV y v:=by
 cases h with
 | cons r k=>cases k with
  | cons q m=>cases m;exact ⟨_,_,rfl,r,q⟩
theorem zP.zero:∀ {us:List Value},zP [] us->us=[]
 | _,.nil=>rfl
theorem zP.dropLast {xs:List V} {us:List Value} (h:zP xs us):zP xs.dropLast us.dropLast:=by
 induction h with
 | nil=>exact .nil
 | cons r t ih=>
  cases t with
  | nil=>exact .nil
  | cons q t'=>exact .cons r ih
theorem zP.eraseIdx:∀ {xs:List V} {us:List Value} (i:Nat),zP xs us->zP (xs.eraseIdx i) (us.eraseIdx i)
 | _,_,_,.nil=>.nil
 | _,_,0,.cons _ t=>t
 | _,_,i + 1,.cons r t=>.cons r (zP.eraseIdx i t)
theorem zP.rep {xs:List V} {us:List Value} (h:zP xs us):∀ k:Nat,zP (List.replicate k xs).flatten (List.replicate k us).flatten
 | 0=>.nil
 | k + 1=>by
  rw [List.replicate_succ,List.replicate_succ,List.flatten_cons,List.flatten_cons]
  exact zP.append h (zP.rep h k)
theorem gR {α:Type} (l:List α):l.eraseIdx (l.length - 1)=l.dropLast:=by
 induction l with
 | nil=>rfl
 | cons a r ih=>
  cases r with
  | nil=>rfl
  | cons b r=>
   have e:(a :: b :: r).length - 1=((b :: r).length - 1) + 1:=by
    have h1:(a :: b :: r).length=r.length + 2:=rfl
    have h2:(b :: r).length=r.length + 1:=rfl
    omega
   rw [e,List.eraseIdx_cons_succ,ih]
   all_goals rfl
theorem nF {α:Type}:∀ (l:List α) (i:Nat),(l.eraseIdx i).length <= l.length
 | [],_=>zKC _
 | _ :: _,0=>Nat.le_succ _
 | _ :: r,i + 1=>Nat.succ_le_succ (nF r i)
theorem nM (its:List Value):∀ (k:Nat) (acc:List Value),
  List.foldl (fun x1 x2=>x1 ++ x2) acc.toArray (List.replicate k its.toArray)=(acc ++ (List.replicate k its).flatten).toArray
 | 0,acc=>by simp
 | k + 1,acc=>by
  have e:acc.toArray ++ its.toArray=(acc ++ its).toArray:=by simp
  have e2:(acc ++ its) ++ (List.replicate k its).flatten=acc ++ (List.replicate (k + 1) its).flatten:=by
   rw [List.replicate_succ,List.flatten_cons,zKY]
  rw [<- e2,<- nM its k (acc ++ its),<- e,List.replicate_succ,List.foldl_cons]
section
variable {X:Cx} {qp:LAO} {σ:St} {H:Hp} {s:Shared} {l b:Addr} {xs ys zs:List V}
theorem Inv.lset {its its':List Value} {n:Nat} {f:Array Value->Array Value} {t':Nat} (I:Inv X qp σ H s) (hH:H l=some (.lst xs))
  (e:s.heap.get? l=some { cls:=.type "list",data:=.seq its.toArray n }) (hf:f its.toArray=its'.toArray) (hv:zP ys its') (hz:ys.length <= sizeLine) :
  Inv X qp σ (upd H l (.lst ys)) { s with heap:=s.heap.update l (Obj.mapSeq f),toks:=t' }:=by
 have q:=PySem.IsL.update e f
 rw [hf] at q
 refine I.write (x:=l) (e:=l) (by rw [hH];exact trivial) (.inl rfl) (fun b' u hb hu=>(Heap.get?_update_other s.heap (Obj.mapSeq f) (Ne.symm hb)).trans hu) ⟨_,q⟩ ?_
 exact ⟨hz,its',_,hv,q⟩
theorem Inv.lnew {its:List Value} {t':Nat} (I:Inv X qp σ H s) (hv:zP ys its) (hz:ys.length <= sizeLine) :
  Inv X qp σ (upd H s.heap.objs.size (.lst ys)) { s with heap:=s.heap.push { cls:=.type "list",data:=.seq its.toArray },toks:=t' }:=
 I.laid (fun _ _ q=>Heap.get?_push_of_some _ q) (zKC _) ⟨hz,its,0,hv,Heap.get?_push_size _ rfl⟩
theorem Inv.fresh (I:Inv X qp σ H s):H s.heap.objs.size=none:=I.hok.fresh (zKC _)
theorem Inv.lstM (I:Inv X qp σ H s) (hH:H l=some (.lst xs)):xs.length <= sizeLine/\∃ (its:List Value) (n:Nat),zP xs its/\xs.length=its.length/\s.heap.get? l=some { cls:=.type "list",data:=.seq its.toArray n }:=by
 obtain ⟨z,its,n,r,e⟩:=I.hok l _ hH
 exact ⟨z,its,n,r,r.length,e⟩
theorem zAY {n:Nat} (h:n <= sizeLine):Builtin.List.listTooLong n=false:=by
 unfold Builtin.List.listTooLong
 exact zKJ (by omega)
end
section
variable {X:Cx}
def zDE:V->List V->Hp->VK->Prop:=fun x vs H Q=>∃ l xs y,x=.ref l/\vs=[y]/\H l=some (.lst xs)/\xs.length < sizeLine/\Q .non (upd H l (.lst (xs ++ [y])))
theorem y6:MtM X "list.append" zDE:=by
 intro qp s σ H x vs v us Q I rx rv h
 obtain ⟨l,xs,y,rfl,rfl,hH,hz,q⟩:=h
 cases rx
 obtain ⟨u,rfl,ru⟩:=rv.one
 obtain ⟨z,its,n,r,hl,e⟩:=I.lstM hH
 refine call_meets F.slot_list_append ⟨_,e,rfl⟩ F.entry_list_append (F.args_list_append_2 _ _) (PySem.list_append l its.toArray n u (by rw [zKB];omega)) ⟨e,?_⟩
 refine ⟨.non,_,I.lset (its':=its ++ [u]) hH e (by simp) (r.append (.cons ru .nil)) ?_,rfl,q⟩
 rw [zKL,List.length_singleton]
 omega
def rPop:V->List V->Hp->VK->Prop:=fun x vs H Q=>∃ l xs y,x=.ref l/\vs=[]/\H l=some (.lst xs)/\xs[xs.length - 1]?=some y/\Q y (upd H l (.lst xs.dropLast))
theorem zHS:MtM X "list.pop" rPop:=by
 intro qp s σ H x vs v us Q I rx rv h
 obtain ⟨l,xs,y,rfl,rfl,hH,hy,q⟩:=h
 cases rx
 have hus:=rv.zero
 subst hus
 obtain ⟨z,its,n,r,hl,e⟩:=I.lstM hH
 obtain ⟨u,hu,ru⟩:=r.get hy
 have hy':its.toArray[its.toArray.size - 1]?=some u:=by
  show its.toArray[its.length - 1]?=some u
  rw [<- Array.getElem?_toList,<- hl]
  exact hu
 refine call_meets F.slot_list_pop ⟨_,e,rfl⟩ F.entry_list_pop (F.args_list_pop_1 _) (MeetsSeq.list_pop_last l its.toArray n u hy' (by rw [zKB];omega)) ⟨e,?_⟩
 refine ⟨y,_,I.lset (its':=its.dropLast) hH e ?_ r.dropLast ?_,ru,q⟩
 ·show its.toArray.eraseIdxIfInBounds (its.toArray.size - 1)=its.dropLast.toArray
  rw [zKB,List.eraseIdxIfInBounds_toArray,gR]
 ·rw [List.length_dropLast]
  omega
def zGW:V->List V->Hp->VK->Prop:=fun x vs H Q=>∃ l xs i k y,x=.ref l/\vs=[.int i]/\H l=some (.lst xs)/\-(2 ^ 63) <= i/\i < 2 ^ 63/\seqIndex? i xs.length=some k/\xs[k]?=some y/\Q y (upd H l (.lst (xs.eraseIdx k)))
theorem pJ:MtM X "list.pop" zGW:=by
 intro qp s σ H x vs v us Q I rx rv h
 obtain ⟨l,xs,i,k,y,rfl,rfl,hH,h1,h2,hk,hy,q⟩:=h
 cases rx
 obtain ⟨u,rfl,ru⟩:=rv.one
 obtain ⟨t,rfl⟩:=ru
 obtain ⟨z,its,n,r,hl,e⟩:=I.lstM hH
 obtain ⟨w,hw,rw'⟩:=r.get hy
 refine call_meets F.slot_list_pop ⟨_,e,rfl⟩ F.entry_list_pop (F.args_list_pop_2 _ _)
  (MeetsSeq.list_pop_at l its.toArray n i t k w (fitsIndex_both h1 h2) (by rw [zKB,<- hl];exact hk) (by rw [<- Array.getElem?_toList];exact hw) (by rw [zKB];omega)) ⟨e,?_⟩
 refine ⟨y,_,I.lset (its':=its.eraseIdx k) hH e ?_ (r.eraseIdx k) ?_,rw',q⟩
 ·show its.toArray.eraseIdxIfInBounds k=(its.eraseIdx k).toArray
  rw [List.eraseIdxIfInBounds_toArray]
 ·have:=nF xs k
  omega
def zGX:R2:=fun x y H Q=>∃ l b xs zs,x=.ref l/\y=.ref b/\H l=some (.lst xs)/\H b=some (.lst zs)/\xs.length + zs.length <= sizeLine/\∀ p,H p=none->Q (.ref p) (upd H p (.lst (xs ++ zs)))
theorem tT:OpR X (binaryOp .Add) zGX:=by
 intro qp s σ H x y v u Q I rx ry h
 obtain ⟨l,b,xs,zs,rfl,rfl,hH,hB,hz,q⟩:=h
 cases rx
 cases ry
 obtain ⟨z,its,n,r,hl,e⟩:=I.lstM hH
 obtain ⟨z2,its2,n2,r2,hl2,e2⟩:=I.lstM hB
 refine PySem.P.add_list e e2 ?_ (by rw [zKB,zKB];omega)
 have ea:its.toArray ++ its2.toArray=(its ++ its2).toArray:=by simp
 rw [ea]
 exact ⟨.ref _,_,I.lnew (t':=s.toks) (r.append r2) (by rw [zKL];omega),rfl,q _ I.fresh⟩
def rRep:R2:=fun x y H Q=>∃ l k xs,x=.ref l/\y=.int k/\H l=some (.lst xs)/\-(2 ^ 63) <= k/\k < 2 ^ 63/\xs.length * k.toNat <= sizeLine /\
 ∀ p,H p=none->Q (.ref p) (upd H p (.lst (List.replicate k.toNat xs).flatten))
theorem zEF {α:Type} (xs:List α) (k:Nat):(List.replicate k xs).flatten.length=k * xs.length:=by
 induction k with
 | zero=>simp
 | succ k ih=>rw [List.replicate_succ,List.flatten_cons,zKL,ih,Nat.succ_mul,Nat.add_comm]
theorem zG6:OpR X (binaryOp .Mult) rRep:=by
 intro qp s σ H x y v u Q I rx ry h
 obtain ⟨l,k,xs,rfl,rfl,hH,h1,h2,hz,q⟩:=h
 cases rx
 obtain ⟨t,rfl⟩:=ry
 obtain ⟨z,its,n,r,hl,e⟩:=I.lstM hH
 have hlen:its.toArray.size * k.toNat <= sizeLine:=by rw [zKB,<- hl];exact hz
 have hcap:¬ its.toArray.size * k.toNat > (2 ^ 63 - 1) / 8:=by
  have:(sizeLine:Nat) <= (2 ^ 63 - 1) / 8:=by decide
  omega
 have hfit:¬ (!Builtin.List.listFitsIndex k)=true:=by
  rw [fitsIndex_both h1 h2]
  exact zKV
 have hlong:¬ Builtin.List.listTooLong (its.toArray.size * k.toNat)=true:=by
  rw [zAY hlen]
  exact zKV
 have hnew:List.foldl (fun x1 x2=>x1 ++ x2) #[] (List.replicate (if its.toArray.isEmpty=true then 0 else k.toNat) its.toArray)=(List.replicate k.toNat its).flatten.toArray:=by
  have f0:∀ m:Nat,List.foldl (fun x1 x2=>x1 ++ x2) #[] (List.replicate m its.toArray)=(List.replicate m its).flatten.toArray:=fun m=>by
   have:=nM its m []
   rw [List.nil_append] at this
   exact this
  rw [f0]
  cases its with
  | nil=>simp
  | cons a r'=>rw [if_neg (by simp)]
 refine wpAny_binaryOp_repeat_ref (T:="list") (U:="int") (by decide) ⟨_,e,rfl⟩ (fun s'=>typeIs_int s' k t) noFill_list_mul F.fills_int_mul F.slot_int_rmul repeat_list F.slot_int_index.lookup
  (call_meets F.slot_int_rmul (typeIs_int s k t) F.entry_int_rmul (F.args_int_rmul_2 _ _) (int___rmul___int_list k t l its.toArray n)
   ⟨e,rfl,⟨_,e,rfl⟩,call_meets F.slot_list_mul ⟨_,e,rfl⟩ F.entry_list_mul (F.args_list_mul_2 _ _) (AutoListH.list___mul___list_int_3 l its.toArray n k t hfit hcap hlong) ⟨e,?_⟩⟩)
 rw [hnew]
 exact ⟨.ref _,_,I.lnew (t':=s.toks) (r.rep k.toNat) (by rw [zEF,Nat.mul_comm];exact hz),rfl,q _ I.fresh⟩
end
section
variable {prog:Program} {w:World} {A:Around} {E:VSP} {s:Shared}
end
section
variable {X:Cx}
end
section
variable {κ:Type} [DecidableEq κ]
def sX (kvs:List (κ × V)) (k:κ):Option V:=(kvs.find? fun kv=>decide (kv.1=k)).map (·.2)
def y8 (kvs:List (κ × V)) (k:κ) (v:V):List (κ × V):=
 if (kvs.any fun kv=>decide (kv.1=k))=true then kvs.map (fun kv=>if kv.1=k then (kv.1,v) else kv) else kvs ++ [(k,v)]
theorem t9 {p:κ × V} {r:List (κ × V)} {k:κ} (e:p.1=k):sX (p :: r) k=some p.2:=by simp [sX,List.find?_cons,e]
theorem uK {p:κ × V} {r:List (κ × V)} {k:κ} (e:¬ p.1=k):sX (p :: r) k=sX r k:=by simp [sX,List.find?_cons,e]
theorem lZ (k:κ):∀ kvs:List (κ × V),(kvs.any fun kv=>decide (kv.1=k))=(sX kvs k).isSome
 | []=>rfl
 | p :: r=>by
  rw [List.any_cons]
  by_cases e:p.1=k
  ·simp only [t9 e,zKI e,Bool.true_or,Option.isSome_some]
  ·rw [uK e,zKJ e,Bool.false_or];exact lZ k r
theorem wK (kvs:List (κ × V)) (k:κ) (v:V):(y8 kvs k v).length <= kvs.length + 1:=by
 unfold y8
 split
 ·rw [zJ3];omega
 ·rw [zKL,zKO,List.length_nil];omega
theorem uI.isSome_eq {o:Option V} {u:Option Value} (r:uI o u):o.isSome=u.isSome:=by
 cases o with
 | none=>cases u with
  | none=>rfl
  | some _=>exact (show False from r).elim
 | some _=>cases u with
  | none=>exact (show False from r).elim
  | some _=>rfl
theorem KV.val {kvs:List (κ × V)} {vs:List (κ × Value)} (r:KV kvs vs) (k:κ):uI (sX kvs k) (valueAt vs k):=by
 unfold KV at r
 induction r with
 | nil=>exact True.intro
 | @cons p q ps qs h t ih=>
  obtain ⟨h1,h2⟩:=h
  by_cases e:p.1=k
  ·have e':q.1=k:=h1.symm.trans e
   have b:valueAt (q :: qs) k=some q.2:=by simp [valueAt,List.find?_cons,e']
   rw [t9 e,b];exact h2
  ·have e':¬ q.1=k:=fun z=>e (h1.trans z)
   have b:valueAt (q :: qs) k=valueAt qs k:=by simp [valueAt,List.find?_cons,e']
   rw [uK e,b];exact ih
theorem KV.any {kvs:List (κ × V)} {vs:List (κ × Value)} (r:KV kvs vs) (k:κ):(kvs.any fun kv=>decide (kv.1=k))=vs.any fun kv=>decide (kv.1=k):=by
 unfold KV at r
 induction r with
 | nil=>rfl
 | cons h t ih=>rw [List.any_cons,List.any_cons,ih,h.1]
theorem KV.repl {kvs:List (κ × V)} {vs:List (κ × Value)} (r:KV kvs vs) (k:κ) {y:V} {u:Value} (ry:zV y u) :
  KV (kvs.map fun kv=>if kv.1=k then (kv.1,y) else kv) (vs.map fun kv=>if kv.1=k then (kv.1,u) else kv):=by
 unfold KV at r ⊢
 induction r with
 | nil=>exact .nil
 | @cons p q ps qs h t ih=>
  rw [List.map_cons,List.map_cons]
  refine .cons ?_ ih
  obtain ⟨h1,h2⟩:=h
  by_cases e:p.1=k
  ·rw [if_pos e,if_pos (h1.symm.trans e)];exact ⟨h1,ry⟩
  ·rw [if_neg e,if_neg (fun z=>e (h1.trans z))];exact ⟨h1,h2⟩
theorem KV.put {kvs:List (κ × V)} {vs:List (κ × Value)} (r:KV kvs vs) (k:κ) {y:V} {u:Value} (ry:zV y u):KV (y8 kvs k y) (stored vs k u):=by
 unfold y8 stored
 rw [r.any k]
 by_cases e:(vs.any fun kv=>decide (kv.1=k))=true
 ·rw [if_pos e,if_pos e];exact r.repl k ry
 ·rw [if_neg e,if_neg e];exact Paired.snoc r ⟨rfl,ry⟩
theorem KV.length {kvs:List (κ × V)} {vs:List (κ × Value)} (r:KV kvs vs):kvs.length=vs.length:=Paired.length r
end
theorem rV {P:Program} {w:World} {k:Key} {u:Value} (r:zV (kV k) u):(yC P w).is k u=true:=by
 cases k with
 | inl i=>obtain ⟨t,e⟩:=(show ∃ t,u=Value.int i t from r);subst e;exact jP P w i t
 | inr x=>obtain ⟨t,e⟩:=(show ∃ t,u=Value.str x t from r);subst e;exact jO P w x t
theorem nI {P:Program} {w:World}:∀ {ks:List Key} {us:List Value},zP (ks.map kV) us->ItemsAre (yC P w) ks us
 | [],_,r=>by rw [List.map_nil] at r;cases r;exact .nil
 | k :: ks,_,r=>by
  rw [List.map_cons] at r
  cases r with
  | cons h t=>exact .cons (rV h) (nI t)
abbrev KT (H:Hp):List (List Key × V)->List (List Key × Addr × Value)->Prop:=Paired fun p q=>p.1=q.1/\H q.2.1=some (.tup (p.1.map kV))/\zV p.2 q.2.2
theorem KT.val {H:Hp} {kvs:List (List Key × V)} {xs:List (List Key × Addr × Value)} (r:KT H kvs xs) (k:List Key):uI (sX kvs k) ((atKey xs k).map (·.2)):=by
 induction r with
 | nil=>exact True.intro
 | @cons p q ps qs h t ih=>
  obtain ⟨h1,_,h2⟩:=h
  by_cases e:p.1=k
  ·have e':q.1=k:=h1.symm.trans e
   have b:atKey (q :: qs) k=some q.2:=by simp [atKey,List.find?_cons,e']
   rw [t9 e,b];exact h2
  ·have e':¬ q.1=k:=fun z=>e (h1.trans z)
   have b:atKey (q :: qs) k=atKey qs k:=by simp [atKey,List.find?_cons,e']
   rw [uK e,b];exact ih
theorem KT.repl {H:Hp} {kvs:List (List Key × V)} {xs:List (List Key × Addr × Value)} (r:KT H kvs xs) (k:List Key) {y:V} {u:Value} (ry:zV y u) :
  KT H (kvs.map fun kv=>if kv.1=k then (kv.1,y) else kv) (xs.map (putAt k u)):=by
 induction r with
 | nil=>exact .nil
 | @cons p q ps qs h t ih=>
  rw [List.map_cons,List.map_cons]
  refine .cons ?_ ih
  obtain ⟨h1,h2,h3⟩:=h
  unfold putAt
  by_cases e:p.1=k
  ·rw [if_pos e,if_pos (h1.symm.trans e)];exact ⟨h1,h2,ry⟩
  ·rw [if_neg e,if_neg (fun z=>e (h1.trans z))];exact ⟨h1,h2,h3⟩
theorem KT.put {H:Hp} {kvs:List (List Key × V)} {xs:List (List Key × Addr × Value)} (r:KT H kvs xs) (k:List Key) {b:Addr} {y:V} {u:Value} (hb:H b=some (.tup (k.map kV))) (ry:zV y u) :
  KT H (y8 kvs k y) (storedH xs k b u):=by
 have e:(kvs.any fun kv=>decide (kv.1=k))=(atKey xs k).isSome:=by
  rw [lZ,(r.val k).isSome_eq,Option.isSome_map]
 unfold y8 storedH
 rw [e]
 by_cases q:(atKey xs k).isSome=true
 ·rw [if_pos q,if_pos q];exact r.repl k ry
 ·rw [if_neg q,if_neg q];exact Paired.snoc r ⟨rfl,hb,ry⟩
theorem KT.keeps {H H':Hp} {kvs:List (List Key × V)} {xs:List (List Key × Addr × Value)} (r:KT H kvs xs) (ht:∀ b ys,H b=some (.tup ys)->H' b=some (.tup ys)):KT H' kvs xs:=
 Paired.mapP r fun _ _ z=>⟨z.1,ht _ _ z.2.1,z.2.2⟩
section
variable {P:Program} {w:World} {H:Hp} {h:Heap} {a:Addr}
theorem zFT {u:HO} (ok:HOk P w H h) (e:Rd H a u):yG P w H h a u:=e.ok ok
theorem jZ {kvs:List (Key × V)} (ok:HOk P w H h) (e:Rd H a (.dK kvs)):kvs.length <= sizeLine/\(a == sysModules)=false/\∃ vs,KV kvs vs/\h.DictOf (yC P w) a vs:=
 show yG P w H h a (.dK kvs) from zFT ok e
theorem zBV {kvs:List (Key × V)} (ok:HOk P w H h) (e:H a=some (.dK kvs)):kvs.length <= sizeLine/\(a == sysModules)=false/\∃ vs,KV kvs vs/\h.DictOf (yC P w) a vs:=jZ ok (.inl e)
theorem pS {ks:List Key} (ok:HOk P w H h) (e:H a=some (.tup (ks.map kV))):(tupleKind (yC P w)).is h ks a:=by
 obtain ⟨_,its,r,o,h1,h2,n,h3⟩:=(show yG P w H h a (.tup (ks.map kV)) from ok a _ e)
 exact ⟨o,its.toArray,n,h1,h2,h3,by simpa using nI r⟩
theorem jY {kvs:List (List Key × V)} (ok:HOk P w H h) (e:Rd H a (.dT kvs)):kvs.length <= sizeLine/\(a == sysModules)=false /\
  ∃ xs,KT H kvs xs/\h.DictOfH (tupleKind (yC P w)) a xs:=by
 obtain ⟨z,y,xs,r,o,es,ep,h1,h2,h3,h4,h5⟩:=(show yG P w H h a (.dT kvs) from zFT ok e)
 refine ⟨z,y,xs,r,o,es,ep,h1,h2,h3,h4,fun x hx=>?_,h5⟩
 have all:∀ {l:List (List Key × V)} {m:List (List Key × Addr × Value)},KT H l m->∀ x ∈ m,(tupleKind (yC P w)).is h x.1 x.2.1:=by
  intro l m q
  induction q with
  | nil=>intro x hx;exact nomatch hx
  | @cons p q ps qs hq t ih=>
   intro x hx
   rcases List.mem_cons.mp hx with e | hx
   ·subst e
    exact pS ok (by rw [<- hq.1];exact hq.2.1)
   ·exact ih x hx
 exact all r x hx
theorem zJT {kvs:List (List Key × V)} (ok:HOk P w H h) (e:H a=some (.dT kvs)):kvs.length <= sizeLine/\(a == sysModules)=false /\
  ∃ xs,KT H kvs xs/\h.DictOfH (tupleKind (yC P w)) a xs:=jY ok (.inl e)
end
def wX (H:Hp) (a:Addr) (y:V) (r:Option V):Prop:=
 (∃ kvs k,Rd H a (.dK kvs)/\y=kV k/\r=sX kvs k) \/ ∃ kvs k b,Rd H a (.dT kvs)/\y=.ref b/\H b=some (.tup (k.map kV))/\r=sX kvs k
def bP (H:Hp) (a:Addr) (y v:V) (H':Hp):Prop:=
 (∃ kvs k,H a=some (.dK kvs)/\y=kV k/\kvs.length < sizeLine/\H'=upd H a (.dK (y8 kvs k v))) \/
 ∃ kvs k b,H a=some (.dT kvs)/\y=.ref b/\H b=some (.tup (k.map kV))/\kvs.length < sizeLine/\H'=upd H a (.dT (y8 kvs k v))
theorem wX.k {H:Hp} {a:Addr} {kvs:List (Key × V)} {k:Key} (e:H a=some (.dK kvs)):wX H a (kV k) (sX kvs k):=.inl ⟨kvs,k,.inl e,rfl,rfl⟩
theorem bP.k {H:Hp} {a:Addr} {kvs:List (Key × V)} {k:Key} {v:V} (e:H a=some (.dK kvs)) (hl:kvs.length < sizeLine):bP H a (kV k) v (upd H a (.dK (y8 kvs k v))):=.inl ⟨kvs,k,e,rfl,hl,rfl⟩
section
variable {X:Cx} {qp:LAO} {σ:St} {H:Hp} {s:Shared} {a:Addr} {y v:V} {u r:Value} {o:Option V} {A:Around} {E:VSP}
theorem Inv.big (I:Inv X qp σ H s):sysModules < s.heap.objs.size:=by
 have h:mainGlobals < s.heap.objs.size:=(I.mod.glob.keeps I.bk).lt
 exact Nat.lt_trans (by decide) h
theorem bG {Q:VSP} (hu:A.units + 1 < cLine) (I:Inv X qp σ H s) (g:wX H a y (some v)) (ry:zV y u) (h:∀ w' s',Inv X qp σ H s'->zV v w'->Q w' s') :
  wpAny (model X.prog X.w) A (getItem (.ref a) u) Q E s:=by
 rcases g with ⟨kvs,k,e,ey,l⟩ | ⟨kvs,k,b,e,ey,eb,l⟩
 ·subst ey
  obtain ⟨z,hd,vs,rel,dd⟩:=jZ I.hok e
  obtain ⟨w',hw,rw'⟩:=uI.some_of (v:=v) (o:=valueAt vs k) (by rw [l];exact rel.val k)
  exact wpAny_getItem_of (rV ry) dd.mapOf hw (h w' _ (I.tok _) rw')
 ·subst ey
  cases (show u=Value.ref b from ry)
  obtain ⟨z,hd,xs,rel,dd⟩:=jY I.hok e
  obtain ⟨w',hw,rw'⟩:=uI.some_of (v:=v) (o:=(atKey xs k).map (·.2)) (by rw [l];exact rel.val k)
  obtain ⟨p,hp,hp2⟩:=Option.map_eq_some_iff.mp hw
  refine wpAny_getItem_heap (tupleKind_room_in1 hu) (pS I.hok eb) dd hp ?_
  rw [hp2]
  exact h w' _ (I.tok _) rw'
theorem d_in {Q:VSP} (hu:A.units + 1 < cLine) (I:Inv X qp σ H s) (g:wX H a y o) (ry:zV y u) (h:∀ s',Inv X qp σ H s'->Q (.bool o.isSome) s') :
  wpAny (model X.prog X.w) A (compareOp .In u (.ref a)) Q E s:=by
 rcases g with ⟨kvs,k,e,ey,l⟩ | ⟨kvs,k,b,e,ey,eb,l⟩
 ·subst ey
  obtain ⟨z,hd,vs,rel,dd⟩:=jZ I.hok e
  refine wpAny_in_of (rV ry) hd dd.mapOf ?_
  rw [<- (rel.val k).isSome_eq,<- l]
  exact h _ (I.tok _)
 ·subst ey
  cases (show u=Value.ref b from ry)
  obtain ⟨z,hd,xs,rel,dd⟩:=jY I.hok e
  refine wpAny_in_heap (tupleKind_room_in1 hu) (pS I.hok eb) hd dd ?_
  have q:=(rel.val k).isSome_eq
  rw [Option.isSome_map] at q
  rw [<- q,<- l]
  exact h _ (I.tok _)
theorem zE1 {Q:VSP} (hu:A.units + 1 < cLine) (I:Inv X qp σ H s) (g:wX H a y o) (ry:zV y u) (h:∀ s',Inv X qp σ H s'->Q (.bool (!o.isSome)) s') :
  wpAny (model X.prog X.w) A (compareOp .NotIn u (.ref a)) Q E s:=by
 rcases g with ⟨kvs,k,e,ey,l⟩ | ⟨kvs,k,b,e,ey,eb,l⟩
 ·subst ey
  obtain ⟨z,hd,vs,rel,dd⟩:=jZ I.hok e
  refine wpAny_notIn_of (rV ry) hd dd.mapOf ?_
  rw [<- (rel.val k).isSome_eq,<- l]
  exact h _ (I.tok _)
 ·subst ey
  cases (show u=Value.ref b from ry)
  obtain ⟨z,hd,xs,rel,dd⟩:=jY I.hok e
  refine wpAny_notIn_heap (tupleKind_room_in1 hu) (pS I.hok eb) hd dd ?_
  have q:=(rel.val k).isSome_eq
  rw [Option.isSome_map] at q
  rw [<- q,<- l]
  exact h _ (I.tok _)
theorem qQ {h':Heap} {t':Nat} {ob:HO} (I:Inv X qp σ H s) (mu:Mut (H a)) (hs:Heap.SameBut a s.heap h') (he:∃ q,h'.get? a=some q) (new:yG X.prog X.w (upd H a ob) h' a ob) :
  Inv X qp σ (upd H a ob) { s with heap:=h',toks:=t' }:=
 I.write (x:=a) (e:=a) mu (.inl rfl) (fun b q hb z=>(hs.2 b hb).trans z) he new
theorem gX {P:Program} {w:World} {H':Hp} {h':Heap} {kvs:List (Key × V)} {vs:List (Key × Value)} (z:kvs.length <= sizeLine) (hd:(a == sysModules)=false) (rel:KV kvs vs) (dd:h'.DictOf (yC P w) a vs) :
  yG P w H' h' a (.dK kvs):=⟨z,hd,vs,rel,dd⟩
theorem bF {H':Hp} {Q:Unit->Shared->Prop} (hu:A.units + 1 < cLine) (I:Inv X qp σ H s) (g:bP H a y v H') (ry:zV y u) (rv:zV v r) (h:∀ s',Inv X qp σ H' s'->Q () s') :
  wpAny (model X.prog X.w) A (setItem (.ref a) u r) Q E s:=by
 rcases g with ⟨kvs,k,e,ey,l,eH⟩ | ⟨kvs,k,b,e,ey,eb,l,eH⟩
 ·subst ey eH
  obtain ⟨z,hd,vs,rel,dd⟩:=zBV I.hok e
  have hz:vs.length <= sizeLine:=by rw [<- rel.length];exact z
  have hl:(y8 kvs k v).length <= sizeLine:=by have:=wK kvs k v;omega
  refine wpAny_setItem_pairs (hsz:=hz) (rV ry) dd fun h' dd' hs=>h _ ?_
  have he:∃ q,h'.get? a=some q:=let ⟨q,_,_,hq,_⟩:=dd';⟨q,hq⟩
  exact qQ I (by rw [e];exact True.intro) hs he (gX hl hd (rel.put k rv) dd')
 ·subst ey eH
  cases (show u=Value.ref b from ry)
  obtain ⟨z,hd,xs,rel,dd⟩:=zJT I.hok e
  have hz:xs.length <= sizeLine:=by rw [<- Paired.length rel];exact z
  have hl:(y8 kvs k v).length <= sizeLine:=by have:=wK kvs k v;omega
  refine wpAny_setItem_heap (hsz:=hz) (tupleKind_room_in1 hu) (pS I.hok eb) dd fun h' dd' hs=>h _ ?_
  obtain ⟨q,es,ep,hq,h2,h3,h4,_,h5⟩:=dd'
  refine qQ I (by rw [e];exact True.intro) hs ⟨q,hq⟩ ⟨hl,hd,_,(rel.put k eb rv).keeps fun c ys ec=>?_,q,es,ep,hq,h2,h3,h4,h5⟩
  rw [zI (zFY ec e (fun z=>nomatch z))]
  exact ec
end
section
variable {X:Cx} {qp:LAO} {σ:St} {H:Hp} {s:Shared} {a:Addr} {kvs:List (Key × V)} {k:Key} {u:Value} {A:Around} {E:VSP}
end
def zJ0 (i:Expr):Prop:=∀ ov iv,subscripted i false ov iv=operate [ov,iv] (getItem ov iv)
theorem zCR {prog:Program} {w:World} {A:Around} {E:VSP} {s:Shared} {env:Env} {value slice:Expr} {pos:Pos} {T id:String} {Q:VSP}
  (hl:typeLookup (.type T) "__getitem__"=pure (some (.builtin id))) (hs:zJ0 slice)
  (h:wpAny (model prog w) A (eval value env) (fun o s₁=>wpAny (model prog w) A (eval slice env) (fun i s₂=>s₂.TypeIs o T/\wpAny (model prog w) A (getItem o i) Q E s₂) E s₁) E s) :
  wpAny (model prog w) A (eval (.Subscript value slice pos) env) Q E s:=by
 refine Subscript_ (wpAny_mono h (fun o s₁ h₁=>wpAny_mono h₁ (fun i s₂ h₂=>?_) fun _ _ x=>x) fun _ _ x=>x)
 obtain ⟨hT,h₂⟩:=h₂
 unfold subscriptTail
 refine wpAny_bind ?_
 rw [getitemInPython_of_ne hT.not_modules]
 refine wpAny_bind (wpAny_specialOf hT hl ?_)
 have fin:wpAny (model prog w) A (subscripted slice false o i) (fun r s₃=>wpAny (model prog w) A (letTemporaryGo value o r >>= fun _=>pure r) Q E s₃) E s₂:=by
  rw [hs o i]
  exact wpAny_operating (wpAny_mono h₂ (fun r s₃ h₃=>wpAny_bind (wpAny_letTemporaryGo (wpAny_pure h₃))) fun _ _ x=>x)
 first
  | exact wpAny_pure (wpAny_bind fin)
  | exact wpAny_bind (wpAny_pure (wpAny_bind fin))
  | exact wpAny_bind fin
theorem j4 {X:Cx} {qp:LAO} {σ:St} {H:Hp} {s:Shared} {a:Addr} {y:V} {o:Option V} (I:Inv X qp σ H s) (g:wX H a y o):s.TypeIs (.ref a) "dict":=by
 rcases g with ⟨kvs,k,e,_,_⟩ | ⟨kvs,k,b,e,_,_,_⟩
 ·obtain ⟨_,_,vs,_,dd⟩:=jZ I.hok e
  exact dd.typeIs
 ·obtain ⟨_,_,xs,_,dd⟩:=jY I.hok e
  exact dd.typeIs
def zIL (td ty:TE):TE:=fun σ H Q=>td σ H fun x H1=>ty σ H1 fun y H2=>∃ a v,x=.ref a/\wX H2 a y (some v)/\Q v H2
def tDIn (ty td:TE):TE:=fun σ H Q=>ty σ H fun y H1=>td σ H1 fun x H2=>∃ a o,x=.ref a/\wX H2 a y o/\Q (.bl o.isSome) H2
def zCQ (ty td:TE):TE:=fun σ H Q=>ty σ H fun y H1=>td σ H1 fun x H2=>∃ a o,x=.ref a/\wX H2 a y o/\Q (.bl (!o.isSome)) H2
def zIX (td ty tv:TE):TS:=fun D σ H=>tv σ H fun v H1=>td σ H1 fun x H2=>ty σ H2 fun y H3=>∃ a H4,x=.ref a/\bP H3 a y v H4/\D.nx σ H4
section
variable {X:Cx} {o i e value:Expr} {pos pos' tpos:Pos} {td ty tv:TE}
theorem wT (hu:X.A.units + 1 < cLine) (ho:PE X o td) (hi:PE X i ty) (hs:zJ0 i):PE X (.Subscript o i pos) (zIL td ty):=by
 intro qp s σ H Q I h
 refine zCR F.slot_dict_getitem.lookup hs (thn (ho qp s σ H _ I h) fun u s1 hz38=>?_)
 obtain ⟨x,H1,I1,rx,q1⟩:=hz38
 refine thn (hi qp s1 σ H1 _ I1 q1) fun iv s2 hz39=>?_
 obtain ⟨y,H2,I2,ry,a,v,ex,g,q2⟩:=hz39
 subst ex
 obtain rfl:u=Value.ref a:=rx
 exact ⟨j4 I2 g,bG hu I2 g ry fun w' s3 I3 rw'=>⟨v,H2,I3,rw',q2⟩⟩
theorem zG5 (hu:X.A.units + 1 < cLine) (hi:PE X i ty) (ho:PE X o td):PC X .In i o (tDIn ty td):=by
 intro qp s σ H Q I h
 refine thn (hi qp s σ H _ I h) fun iv s1 hz40=>?_
 obtain ⟨y,H1,I1,ry,q1⟩:=hz40
 refine thn (ho qp s1 σ H1 _ I1 q1) fun u s2 hz41=>?_
 obtain ⟨x,H2,I2,rx,a,ov,ex,g,q2⟩:=hz41
 subst ex
 obtain rfl:u=Value.ref a:=rx
 exact d_in hu I2 g ry fun s3 I3=>⟨.bl ov.isSome,H2,I3,rfl,q2⟩
theorem rG (hu:X.A.units + 1 < cLine) (hi:PE X i ty) (ho:PE X o td):PC X .NotIn i o (zCQ ty td):=by
 intro qp s σ H Q I h
 refine thn (hi qp s σ H _ I h) fun iv s1 hz42=>?_
 obtain ⟨y,H1,I1,ry,q1⟩:=hz42
 refine thn (ho qp s1 σ H1 _ I1 q1) fun u s2 hz43=>?_
 obtain ⟨x,H2,I2,rx,a,ov,ex,g,q2⟩:=hz43
 subst ex
 obtain rfl:u=Value.ref a:=rx
 exact zE1 hu I2 g ry fun s3 I3=>⟨.bl (!ov.isSome),H2,I3,rfl,q2⟩
theorem eX (hu:X.A.units + 1 < cLine) (ho:PE X o td) (hi:PE X i ty) (hv:PE X value tv) (hs:swapsWith value (some (.Subscript o i pos')) pos.line X.env=pure false) :
  PS X (.Assign [.Subscript o i pos'] value pos) (zIX td ty tv):=by
 intro qp s σ H D I h
 refine wpAny_Assign_Subscript (thn (hv qp s σ H _ I h) fun r s1 hz44=>?_) hs
 obtain ⟨v,H1,I1,rv,q1⟩:=hz44
 refine thn (ho qp s1 σ H1 _ I1 q1) fun u s2 hz45=>?_
 obtain ⟨x,H2,I2,rx,q2⟩:=hz45
 refine thn (hi qp s2 σ H2 _ I2 q2) fun iv s3 hz46=>?_
 obtain ⟨y,H3,I3,ry,a,H4,ex,g,q3⟩:=hz46
 subst ex
 obtain rfl:u=Value.ref a:=rx
 exact bF hu I3 g ry rv fun s4 I4=>⟨σ,H4,I4,q3⟩
end
theorem j3 {P:Program} {w:World} {H:Hp} (h:Heap) (hb:sysModules < h.objs.size):yG P w H (h.push { cls:=.type "dict",data:=.dict #[] }) h.objs.size (.dK []):=
 ⟨zKD _,beq_eq_false_iff_ne.mpr (Ne.symm (zKU hb)),[],.nil,Heap.DictOf.new h⟩
section
variable {X:Cx} {pos:Pos}
end
def iQ:List (TE × TE)->St->Hp->(List (V × V)->Hp->Prop)->Prop
 | [],_,H,Q=>Q [] H
 | (tk,tv) :: r,σ,H,Q=>tk σ H fun x H1=>tv σ H1 fun y H2=>iQ r σ H2 fun ps H3=>Q ((x,y) :: ps) H3
abbrev VV:List (V × V)->List (Value × Value)->Prop:=Paired fun p q=>zV p.1 q.1/\zV p.2 q.2
def PPs (X:Cx) (pos:Pos) (keys:List (Option Expr)) (values:List Expr) (trs:List (TE × TE)):Prop:=
 ∀ (qp:LAO) (s:Shared) (σ:St) (H:Hp) (Q:List (V × V)->Hp->Prop),Inv X qp σ H s->iQ trs σ H Q ->
  wpAny (model X.prog X.w) X.A (evalPairs (pairTrees keys values X.env pos)) (fun vs s'=>∃ ps H',Inv X qp σ H' s'/\VV ps vs/\Q ps H') X.xe s
theorem zDI {X:Cx} {pos:Pos}:PPs X pos [] [] []:=fun qp s σ H Q I h=>pairTrees_nil_walk ⟨[],H,I,.nil,h⟩
theorem aX {X:Cx} {pos:Pos} {k v:Expr} {ks:List (Option Expr)} {vs:List Expr} {tk tv:TE} {trs:List (TE × TE)} (hk:PE X k tk) (hv:PE X v tv) (hr:PPs X pos ks vs trs) :
  PPs X pos (some k :: ks) (v :: vs) ((tk,tv) :: trs):=fun qp s σ H Q I h=>
 pairTrees_cons_walk (thn (hk qp s σ H _ I h) fun u s1 ⟨x,H1,I1,rx,q1⟩=>thn (hv qp s1 σ H1 _ I1 q1) fun w2 s2 ⟨y,H2,I2,ry,q2⟩=>
  thn (hr qp s2 σ H2 _ I2 q2) fun ws s3 ⟨ps,H3,I3,rel,q3⟩=>⟨(x,y) :: ps,H3,I3,.cons ⟨rx,ry⟩ rel,q3⟩)
def pM (kvs more:List (Key × V)):List (Key × V):=more.foldl (fun acc kv=>y8 acc kv.1 kv.2) kvs
theorem KV.merge:∀ {more:List (Key × V)} {rs:List (Key × Value)} {kvs:List (Key × V)} {vs:List (Key × Value)},KV more rs->KV kvs vs->KV (pM kvs more) (merged vs rs):=by
 intro more rs kvs vs r
 unfold KV at r
 induction r generalizing kvs vs with
 | nil=>intro q;exact q
 | @cons p q ps qs h t ih=>
  intro r0
  have e:KV (y8 kvs p.1 p.2) (stored vs q.1 q.2):=by
   have:=r0.put p.1 h.2
   rw [<- h.1];exact this
  exact ih e
theorem tN:∀ (more kvs:List (Key × V)),(pM kvs more).length <= kvs.length + more.length
 | [],kvs=>by show kvs.length <= kvs.length + 0;omega
 | p :: r,kvs=>by
  have h1:=tN r (y8 kvs p.1 p.2)
  have h2:=wK kvs p.1 p.2
  show (pM (y8 kvs p.1 p.2) r).length <= _
  rw [zKO];omega
theorem oA {P:Program} {w:World}:∀ {kvs:List (Key × V)} {ws:List (Value × Value)},VV (kvs.map fun kv=>(kV kv.1,kv.2)) ws->∃ rs,Carries (yC P w) ws rs/\KV kvs rs
 | [],_,r=>by rw [List.map_nil] at r;cases r;exact ⟨[],True.intro,.nil⟩
 | p :: kvs,_,r=>by
  rw [List.map_cons] at r
  cases r with
  | @cons a b as bs h t=>
   obtain ⟨rs,c,q⟩:=oA (P:=P) (w:=w) t
   obtain ⟨b1,b2⟩:=b
   exact ⟨(p.1,b2) :: rs,⟨rV h.1,rfl,c⟩,.cons ⟨rfl,h.2⟩ q⟩
def zIK (trs:List (TE × TE)):TE:=fun σ H Q=>∀ p,H p=none->iQ trs σ (upd H p (.dK [])) fun ps H2=>H2 p=some (.dK [])/\∃ kvs:List (Key × V),ps=kvs.map (fun kv=>(kV kv.1,kv.2))/\kvs.length <= 15/\Q (.ref p) (upd H2 p (.dK (pM [] kvs)))
theorem zDO {X:Cx} {pos:Pos} {keys:List (Option Expr)} {values:List Expr} {trs:List (TE × TE)} (h:PPs X pos keys values trs) (hall:keys.all (·.isSome)=true) (hl:keys.length=values.length) (h0:keys ≠ [])
  (h15:keys.length <= 15):PE X (.Dict keys values pos) (zIK trs):=by
 intro qp s σ H Q I q
 have hn:=I.hok.fresh (zKC s.heap.objs.size)
 have I1:=I.laid (a:=s.heap.objs.size) (o:=.dK []) (h':=s.heap.push { cls:=.type "dict",data:=.dict #[] }) (t':=s.toks) (fun _ _ q=>Heap.get?_push_of_some _ q) (zKC _) (j3 s.heap I.big)
 refine wpAny_Dict_walk (knd:=yC X.prog X.w) hall hl h0 h15 (thn (h qp _ σ _ _ I1 (q _ hn)) fun ws s2 hz47=>?_)
 obtain ⟨ps,H2,I2,rel,e,kvs,ep,lk,q2⟩:=hz47
 subst ep
 obtain ⟨rs,c,rk⟩:=oA (P:=X.prog) (w:=X.w) rel
 obtain ⟨z,hd,vs0,r0,dd⟩:=zBV I2.hok e
 cases r0
 refine ⟨rs,c,dd,fun h' dd' hs=>⟨.ref s.heap.objs.size,_,?_,rfl,q2⟩⟩
 have hz:(pM [] kvs).length <= sizeLine:=by
  have h1:=tN kvs []
  rw [List.length_nil] at h1
  rw [sizeLine_eq];omega
 have he:∃ q,h'.get? s.heap.objs.size=some q:=let ⟨q,_,_,hq,_⟩:=dd';⟨q,hq⟩
 exact qQ I2 (by rw [e];exact True.intro) hs he (gX hz hd (rk.merge .nil) dd')
section
variable {X:Cx} {qp:LAO} {σ:St} {H:Hp} {s:Shared} {a:Addr} {y d:V} {u r:Value} {o:Option V} {A:Around} {E:VSP}
end
section
variable {X:Cx} {o e f:Expr} {apos cpos:Pos} {td ty tx:TE}
end
section
variable {X:Cx} {qp:LAO} {σ:St} {H:Hp} {s:Shared} {a:Addr} {kvs:List (Key × V)} {A:Around} {E:VSP}
end
section
variable {X:Cx} {qp:LAO} {σ:St} {H:Hp} {s:Shared} {a:Addr} {y:V} {u:Value} {A:Around} {E:VSP}
end
end L2
namespace Att
open PySem PySem.W PySem.Calls PyProof.Rows
theorem ints_of_wellAll {P:Params} {h:Heap}:∀ (ns:List Int) (vs:List Value),WellAll P h vs (ns.map WData.int)->IntsAre vs ns:=by
 intro ns
 induction ns with
 | nil=>
  intro vs w
  rw [List.map_nil] at w
  cases w
  exact .nil
 | cons n ns ih=>
  intro vs w
  rw [List.map_cons] at w
  cases w with
  | cons a b=>
   cases a
   exact .cons _ _ (ih _ b)
theorem script_of {l:OpenLaw} {n:Nat} (hn:l.most=some n) {P:Params} {h:Heap} {args:List WData} {vals:List Value}
  (hpre:l.row.toRowW.claim.pre args=true) (hwl:WellAll P h vals args) :
  ∃ a vs ns,vals=[Value.ref a]/\args=[WData.list (ns.map WData.int)]/\h.get? a=some { cls:=.type "list",data:=.seq vs.toArray }/\IntsAre vs ns/\ns.length <= n:=by
 have hsh:WShape.hasAll [] args [.list .int]=true:=(pre_splitW hpre).1
 have hc:l.pre.holds [] { args:=args }=true:=(pre_splitW hpre).2
 obtain ⟨d,r,rfl,h1,h2⟩:=hasAllW_cons hsh
 obtain rfl:=hasAllW_nil h2
 obtain ⟨xs,rfl,h3⟩:=hasW_list h1
 obtain ⟨ns,rfl⟩:=items_int h3
 have hlen:ns.length <= n:=by
  unfold OpenLaw.pre at hc
  have h4:(WTm.not (.lt (.lit (.int (n:Int))) (.len (.arg 0)))).holds [] { args:=[.list (ns.map .int)] }=true:=by
   have h4:=(holds_andW hc).1
   rw [hn] at h4
   exact h4
  have h5:=condW_of h4 (w_not (w_lt w_lit (w_len_list (w_arg rfl))))
  rw [zJ3] at h5
  refine Nat.le_of_not_lt fun q=>?_
  have q':(n:Int) < ((ns.length:Nat):Int):=by omega
  first
   | (rw [zKI q'] at h5;exact absurd h5 (by decide))
   | (simp at h5;omega)
 cases hwl with
 | cons w1 w2=>
  cases w2
  cases w1 with
  | list ho hall=>exact ⟨_,_,ns,rfl,rfl,ho,ints_of_wellAll ns _ hall,hlen⟩
theorem post_true (l:OpenLaw) (args:List WData):l.row.toRowW.claim.post args (.bool true) args=true:=
 postW_of (r:=l.row.toRowW) (X:=(true == true))
  (show WShape.has [] (.bool true) .bool=true by first | rfl | decide | simp [WShape.has,WShape.arms,WShape.armsAll])
  (show (WTm.eq .res (.lit (.bool true))).value [] { args:=args,res:=some (.bool true),after:=args }=some (.bool (true == true)) from w_eq_bool (w_res rfl) w_lit) rfl
theorem attach_call {l:OpenLaw} {n:Nat} {q:Program} {loose:List Str} {XP:(Str->Option Value)->Heap->Prop} {YP:World->Heap->Prop} {d:DefRec}
  (hn:l.most=some n) (hdf:d.params.defaults=[])
  (call:∀ (w:World) (s₀ s₁:Shared) (mg mb:Str->Option Value) (fa:Addr) (o:Obj) (pm cd doc:Value) (a:Addr) (vs:List Value) (ns:List Int),
   Ground q loose [] XP w s₀ mg mb s₁.heap->YP w s₁.heap ->
   s₁.heap.get? fa=some o->o.data=.func (docDef d.name d.params d.body d.scope pm cd doc)->s₁.heap.CodeRec cd d.name->mg d.name=some (.ref fa) ->
   s₁.heap.get? a=some { cls:=.type "list",data:=.seq vs.toArray }->IntsAre vs ns->ns.length <= n->s₁.gens = #[] ->
   codeAny (model l.prog w) callerA (.call (.ref fa) ⟨[.ref a],[]⟩) (fun r s'=>r=.ok (.ret (.bool true))/\OldK s₁.heap s'.heap/\s'.os=s₁.os/\AllBare s'.gens) s₁) :
  WalkO q loose XP YP l.row.toRowW d [] (fun f vs=>PySem.call f vs):=by
 intro w s₀ s₁ mg mb G Y fa o pm cd doc dV kV ho hd hcd hD hmg hg args vals as hpre hlay hrd hwl hlo
 obtain rfl:dV=.none:=Dflts.none hD hdf
 obtain rfl:kV=.none:=Dflts.noKw hD
 obtain ⟨a,vs,ns,rfl,rfl,hobj,hints,hlen⟩:=script_of hn hpre hwl
 refine enter_call (codeAny_mono (call w s₀ s₁ mg mb fa o pm cd doc a vs ns G Y ho (fd_plain hd) hcd hmg hobj hints hlen hg) fun r s' hq=>?_)
 obtain ⟨rfl,h2,h3,h4⟩:=hq
 exact ⟨.inl ⟨.bool true,.bool true,[],rfl,fun _=>rfl,.bool true,post_true l _,fun _=>⟨List.Pairwise.nil,fun _ hm=>(nomatch hm)⟩⟩,h2,h3,h4⟩
section
variable {prog:Program} {w:World} {A:Around} {E:Value->Shared->Prop} {s:Shared} {K:Frag}
end
end Att
namespace L2
open PySem PySem.Spec PyProof.Rows
theorem cA {vs:List Value} {ns:List Int} (h:IntsAre vs ns):zP (ns.map V.int) vs:=by
 induction h with
 | nil=>exact .nil
 | cons n t _ ih=>exact .cons ⟨t,rfl⟩ ih
def zH8 (H:Hp):Prop:=∀ b,H b=none \/ ∃ o xs,H b=some (.frz o (.lst xs))
theorem zBB {P:Program} {w:World} {K:W.Frag} {mg mb:Str->Option Value} {CX:CXT} {k:Nat} {fa a:Addr} {fd:FuncData} {x:Str} {sp:Sp} {s₁:Shared} {vs:List Value} {ns:List Int}
  (KX:K.In s₁.heap) (hns:s₁.heap.Ns mainGlobals mg) (hb:s₁.heap.Ns builtinsNs mb) (hbb:∀ x:Str,x ≠ "__name__"->mb x=bootBuiltins x) (hlim:s₁.heap.NoLimit) (hg:s₁.gens = #[])
  (ha:s₁.heap.get? a=some { cls:=.type "list",data:=.seq vs.toArray }) (hi:IntsAre vs ns) (hl:ns.length <= sizeLine) (hr:zX k callerA)
  (F:∀ base:Heap,K.In base->base.Ns mainGlobals mg->wW P w K mg base CX k fa fd [x] sp) (hbind:∀ (s:Shared) (u:Value),BindsTo s fd ⟨[u],[]⟩ [(x,u)])
  (hsp:∀ H:Hp,zH8 H->SqL K H a (ns.map V.int)->sp [.ref a] H (fun v _=>v=.bl true) fun _ _ _=>False)
  (hCX:∀ H e s',CX [] H s₁ (fun _ _ _=>False) e s'->False) :
  codeAny (model P w) callerA (.call (.ref fa) ⟨[.ref a],[]⟩) (fun r s'=>r=.ok (.ret (.bool true))/\OldK s₁.heap s'.heap/\s'.os=s₁.os/\AllBare s'.gens) s₁:=by
 have rv:=cA hi
 have lenV:=hi.length
 have core:∀ H:Hp,zH8 H->SqL K H a (ns.map V.int)->HOk P w H s₁.heap->(∀ b,H b ≠ none->b=a)->(H a ≠ none->K.lookup a=none) ->
   codeAny (model P w) callerA (.call (.ref fa) ⟨[.ref a],[]⟩) (fun r s'=>r=.ok (.ret (.bool true))/\OldK s₁.heap s'.heap/\s'.os=s₁.os/\AllBare s'.gens) s₁:=by
  intro H hO hS hok hA hK
  have base_of:∀ {b:Addr} {o:Obj},s₁.heap.get? b=some o->H b=none->(lJ s₁.heap H).get? b=some o:=fun e n=>zBI e n
  have noA:∀ {b:Addr} {o:Obj} {es:Array DictEntry} {ep:Nat},s₁.heap.get? b=some o->o.data=.dict es ep->H b=none:=fun {b o es ep} e d=>by
   cases q:H b with
   | none=>rfl
   | some u=>
    have e':b=a:=hA b (by rw [q];simp)
    subst e'
    rw [ha] at e;cases e
    have d':Data.seq vs.toArray _=Data.dict es ep:=d
    cases d'
  have nsK:∀ {b:Addr} {m:Str->Option Value},s₁.heap.Ns b m->(lJ s₁.heap H).Ns b m:=fun {b m} ⟨o,es,ep,e,d,r⟩=>⟨o,es,ep,base_of e (noA e d),d,r⟩
  have hKb:K.In (lJ s₁.heap H):=fun b o e=>base_of (KX b o e) (by
   cases q:H b with
   | none=>rfl
   | some u=>
    have e':b=a:=hA b (by rw [q];simp)
    subst e'
    rw [hK (by rw [q];simp)] at e;cases e)
  have hM:Mod K mg (lJ s₁.heap H):=⟨hKb,nsK hns,⟨mb,nsK hb,hbb⟩,let ⟨mc,h1,h2⟩:=hlim;⟨mc,nsK h1,h2⟩⟩
  have e0:fN P w K mg (lJ s₁.heap H) callerA [] s₁ H:=⟨rfl,hM,fun b o e=>zDZ e,Nat.le_of_eq (bC _ _),trivial,fun b hb=>absurd (show b ∈ ([]:List Addr) from hb) (by simp),hok,.of_eq hg⟩
  refine codeAny_mono ((F _ hKb (nsK hns)).run callerA [] s₁ H ⟨[.ref a],[]⟩ [.ref a] [.ref a] _ _ hr e0 (hbind s₁ (.ref a)) (.cons rfl .nil) (hsp H hO hS)) fun r s' h=>?_
  cases r with
  | error e=>exact (hCX H e s' h).elim
  | ok fl=>
   cases fl with
   | next=>exact False.elim h
   | brk=>exact False.elim h
   | cont=>exact False.elim h
   | ret u=>
    obtain ⟨v,H',os,bare,un,hok',r',q⟩:=h
    have q':v=.bl true:=q
    subst q'
    obtain rfl:u=Value.bool true:=r'
    refine ⟨rfl,OldK.of_keep fun b o e=>?_,os,bare⟩
    cases q:H b with
    | none=>exact un.keep b o e q (by intro z;exact absurd (show b ∈ ([]:List Addr) from z) (by simp)) (by simp)
    | some u=>
     rcases hO b with z | ⟨ob,xs,z⟩
     ·rw [q] at z;cases z
     ·have z2:=un.frzs b ob _ z
      obtain ⟨e1,_⟩:=hok b _ z
      obtain ⟨e2,_⟩:=hok' b _ z2
      rw [e] at e1;cases e1
      exact e2
 cases hk:K.lookup a with
 | some o=>
  have e:=KX a o hk
  rw [ha] at e
  cases e
  refine core (fun _=>none) (fun _=>.inl rfl) (.inr ⟨_,vs.toArray,_,hk,rfl,rfl,rfl,by rw [zKB,lenV];exact hl,by simpa using rv⟩) (fun b u z=>by have z':(none:Option HO)=some u:=z;cases z') (fun b z=>absurd rfl z) fun z=>absurd rfl z
 | none=>
  refine core (fun b=>if b=a then some (.frz { cls:=.type "list",data:=.seq vs.toArray } (.lst (ns.map V.int))) else none) (fun b=>?_) (.inl (.inr ⟨{ cls:=.type "list",data:=.seq vs.toArray },if_pos rfl⟩)) (fun b u z=>?_) (fun b z=>?_) fun _=>hk
  ·by_cases hb:b=a
   ·exact .inr ⟨_,_,if_pos hb⟩
   ·exact .inl (if_neg hb)
  ·by_cases hb:b=a
   ·have z':=(if_pos hb).symm.trans z
    cases z'
    subst hb
    exact ⟨ha,by rw [zJ3];exact hl,vs,_,rv,ha⟩
   ·have z':=(if_neg hb).symm.trans z
    cases z'
  ·by_cases hb:b=a
   ·exact hb
   ·exact absurd (if_neg hb) z
theorem walk_of {l:W.OpenLaw} {n k:Nat} {q:Program} {loose:List Str} {XP:(Str->Option Value)->Heap->Prop} {YP:World->Heap->Prop} {d:DefRec} {K:Params->W.Frag} {CX:World->CXT} {sp:World->Sp} {x:Str}
  (hn:l.most=some n) (hn2:n <= sizeLine) (hdf:d.params.defaults=[]) (hr:zX k callerA)
  (hY:∀ (w:World) (h:Heap),YP w h->(K w.params).In h)
  (F:∀ (w:World) (mg:Str->Option Value) (fa:Addr) (h:Heap),(K w.params).In h->h.Ns mainGlobals mg->mg d.name=some (.ref fa) ->
   ∃ fd:FuncData,(∀ (s:Shared) (u:Value),BindsTo s fd ⟨[u],[]⟩ [(x,u)]) /\
    ∀ base:Heap,(K w.params).In base->base.Ns mainGlobals mg->wW l.prog w (K w.params) mg base (CX w) k fa fd [x] (sp w))
  (hsp:∀ (w:World) (H:Hp) (a:Addr) (ns:List Int),ns.length <= n->zH8 H->SqL (K w.params) H a (ns.map V.int)->sp w [.ref a] H (fun v _=>v=.bl true) fun _ _ _=>False)
  (hCX:∀ (w:World) (H:Hp) (s:Shared) (e:Value) (s':Shared),CX w [] H s (fun _ _ _=>False) e s'->False) :
  W.WalkO q loose XP YP l.row.toRowW d [] (fun f vs=>PySem.call f vs):=by
 refine Att.attach_call hn hdf fun w s₀ s₁ mg mb fa o pm cd doc a vs ns G Y ho hd hcd hmg hobj hints hlen hg=>?_
 have KX:=hY w _ Y
 obtain ⟨fd,hb,hF⟩:=F w mg fa _ KX G.T.g hmg
 exact zBB KX G.T.g G.T.b G.T.builtins G.T.nolimit hg hobj hints (zKE hlen hn2) hr hF hb (fun H hO hS=>hsp w H a ns hlen hO hS) fun H e s'=>hCX w H s₁ e s'
def sM (s:Stmt) (j:Nat):Stmt:=match s with
 | .ClassDef _ _ _ body _ _ _ _ _ _ _=>body.getD j (.Pass ⟨0,0,0,0⟩)
 | _=>.Pass ⟨0,0,0,0⟩
def xE (s:Stmt):Arguments:=match s with
 | .FunctionDef _ a _ _ _ _ _ _ _ _=>a
 | _=>{ posonlyargs:=[],args:=[],vararg:=none,kwonlyargs:=[],kw_defaults:=[],kwarg:=none,defaults:=[] }
def yM (s:Stmt):List Stmt:=match s with
 | .FunctionDef _ _ b _ _ _ _ _ _ _=>b
 | _=>[]
def zF (s:Stmt):Scope:=match s with
 | .FunctionDef _ _ _ _ _ _ sc _ _ _=>sc
 | _=>{ kind:=.function,names:=[],isGenerator:=false,isCoroutine:=false }
abbrev CX0:CXT:=fun _ _ _ _ _ _=>False
abbrev E0:XK:=fun _ _ _=>False
theorem pH {X:Cx}:vE CX0 X E0:=fun _ _ _ _ _ _ _ h=>h.elim
structure Fun (K:W.Frag) (x qual:Str) (st:Stmt) (f:Addr) (fd:FuncData):Prop where
 ex:∃ (oc:Value) (od:Option Addr) (kV doc pm:Value) (an:Option Addr) (cdv ct:Value) (osl:Array (Option Value)),
  fd=W.fnOf x qual (xE st) (yM st) (zF st) .none kV doc pm an cdv ct/\K.lookup f=some ⟨oc,od,.func fd,osl⟩/\W.codeIn K cdv qual=true
 kp:W.keepIn K (.ref f)=true
section
variable {P:Program} {w:World} {K:W.Frag} {mg:Str->Option Value} {base:Heap}
theorem Fun.ok {x qual:Str} {st:Stmt} {f:Addr} {fd:FuncData} {N ps:List Str} {k:Nat} {sp:Sp} (F:Fun K x qual st f fd) (S:zO N ps (zF st)) (len:∀ vs H Q E,sp vs H Q E->vs.length=ps.length)
  (hbody:∀ (cdv:Value) (A:Around) (outer:List Env) (s:Shared) (H:Hp) (vs:List V) (Q:VK) (E:XK),zX k (A.deeper (envOfC qual (zF st) s.heap.objs.size f cdv))->sp vs H Q E ->
   ∃ t,PSs (tG CX0 P w K mg base N qual (zF st) f cdv A outer s H E).nox (yM st) t/\t { nx:=fun _ H'=>Q .non H',rt:=Q } (start N vs) H):wW P w K mg base CX0 (k + 1) f fd ps sp:=by
 obtain ⟨oc,od,kV,doc,pm,an,cdv,ct,osl,rfl,lk,hcd⟩:=F.ex
 refine zF4 lk hcd S len fun A outer s H vs Q E hr hsp=>?_
 obtain ⟨t,h,q⟩:=hbody cdv A outer s H vs Q E hr hsp
 exact ⟨t,h.nox,q⟩
theorem Fun.binds {x qual:Str} {st:Stmt} {f:Addr} {fd:FuncData} {ps:List Str} (F:Fun K x qual st f fd)
  (h:∀ (kV doc pm:Value) (an:Option Addr) (cdv ct:Value) (us:List Value),us.length=ps.length->bindArgs (W.fnOf x qual (xE st) (yM st) (zF st) .none kV doc pm an cdv ct) ⟨us,[]⟩=pure (ps.zip us)):wQ K fd ps []:=by
 obtain ⟨oc,od,kV,doc,pm,an,cdv,ct,osl,rfl,lk,hcd⟩:=F.ex
 exact .all (h kV doc pm an cdv ct)
theorem tX {x qual:Str} {st:Stmt} {f:Addr} {oc:Value} {od an:Option Addr} {osl:Array (Option Value)} {kV doc pm cdv ct:Value} (l:K.lookup f=some ⟨oc,od,.func (W.fnOf x qual (xE st) (yM st) (zF st) .none kV doc pm an cdv ct),osl⟩)
  (c:W.codeIn K cdv qual=true) (k:W.keepIn K (.ref f)=true):Fun K x qual st f (W.fnOf x qual (xE st) (yM st) (zF st) .none kV doc pm an cdv ct):=⟨⟨oc,od,kV,doc,pm,an,cdv,ct,osl,rfl,l,c⟩,k⟩
end
theorem nJ {A:Around} {k:Nat} (hr:zX k A):A.units + 1 < cLine:=Nat.lt_of_le_of_lt (Nat.add_le_add_left (by decide:1 <= 64) _) hr.units
theorem cI {n:Nat} (h:n <= 1000):n < sizeLine:=Nat.lt_of_le_of_lt h (by decide)
section
variable {X:Cx}
theorem pv (i:Nat) {x:Str} {pos:Pos} (hN:X.N[i]?=some x:=by rfl) (hv:Vis X.env.scope x:=by first | exact Or.inl rfl | exact Or.inr (Or.inl rfl) | exact Or.inr (Or.inr rfl)) (hd:(x == ("__debug__" : Str))=false:=by decide)
  (hcd:(x == ("__classdict__" : Str))=false:=by decide):PE X (.Name x pos) (vS i):=zG0 hN hv hd hcd
end
theorem zEN {A B:Prop} (h:B):if false=true then A else B:=by
 rw [if_neg zKV]
 exact h
theorem zJM {A B:Prop} (h:A):if true=true then A else B:=by
 rw [if_pos rfl]
 exact h
theorem qA {c A B:Prop} [Decidable c] (h1:c->A) (h2:¬ c->B):if c then A else B:=by
 by_cases h:c
 ·rw [if_pos h]
  exact h1 h
 ·rw [if_neg h]
  exact h2 h
end L2
set_option maxHeartbeats 4000000
namespace L2
open PySem PySem.Spec PyProof.Rows
def clF (env:Env):List (Str × NameKind)->List (Str × Addr)->List (Str × Addr)
 | [],cs=>cs
 | (n,k) :: r,cs=>clF env r (if k == NameKind.free then (n,(env.cells.lookup n).getD 0) :: cs else cs)
theorem zE3 (env:Env):∀ (l:List (Str × NameKind)) (cs:List (Str × Addr)),(∀ n,(n,NameKind.free) ∈ l->(env.cells.lookup n).isSome=true) ->
  (forIn l cs fun x r=>(match x with
   | (name,kind)=>if (kind == NameKind.free)=true then (do let c <- cellOf env name;pure (ForInStep.yield ((name,c) :: r))) else pure (ForInStep.yield r):Sem (ForInStep (List (Str × Addr)))))=pure (clF env l cs):=by
 intro l
 induction l with
 | nil=>intro cs _;rfl
 | cons x l ih=>
  intro cs h
  obtain ⟨n,k⟩:=x
  rw [List.forIn_cons]
  by_cases hk:k=NameKind.free
  ·subst hk
   have h1:=h n zKW
   obtain ⟨c,hc⟩:=Option.isSome_iff_exists.mp h1
   simp only [beq_self_eq_true,if_true,clF,hc,Option.getD_some,cellOf,pure_bind]
   exact ih _ fun m hm=>h m (zKG _ hm)
  ·have hb:(k == NameKind.free)=false:=by simpa using hk
   simp only [hb,Bool.false_eq_true,if_false,clF,pure_bind]
   exact ih _ fun m hm=>h m (zKG _ hm)
theorem uU {scope:Scope} {env:Env} (h:∀ n,(n,NameKind.free) ∈ scope.names->(env.cells.lookup n).isSome=true) :
  closureFor scope env=pure (clF env scope.names []):=by
 have e:=zE3 env scope.names [] h
 unfold closureFor
 simp only [bind_pure] at e ⊢
 exact e
theorem zE2 (env:Env):∀ (l:List (Str × NameKind)) (cs:List (Str × Addr)),(∀ n,(n,NameKind.free) ∈ l->(env.cells.lookup n).isSome=true) ->
  (∀ y c,cs.lookup y=some c->env.cells.lookup y=some c)->∀ y c,(clF env l cs).lookup y=some c->env.cells.lookup y=some c:=by
 intro l
 induction l with
 | nil=>intro cs _ h;exact h
 | cons x l ih=>
  intro cs h hc
  obtain ⟨n,k⟩:=x
  refine ih _ (fun m hm=>h m (zKG _ hm)) ?_
  by_cases hk:k=NameKind.free
  ·subst hk
   obtain ⟨c,e⟩:=Option.isSome_iff_exists.mp (h n zKW)
   simp only [beq_self_eq_true,if_true,e,Option.getD_some]
   intro y c' q
   rw [List.lookup_cons] at q
   cases hy:y == n with
   | true=>
    rw [hy] at q
    have ey:y=n:=by simpa using hy
    cases q
    rw [ey];exact e
   | false=>
    rw [hy] at q
    exact hc y c' q
  ·have hb:(k == NameKind.free)=false:=by simpa using hk
   simp only [hb,Bool.false_eq_true,if_false]
   exact hc
theorem zE4 (env:Env):∀ (l:List (Str × NameKind)) (cs:List (Str × Addr)) (y:Str),((y,NameKind.free) ∈ l \/ (cs.lookup y).isSome=true)->((clF env l cs).lookup y).isSome=true:=by
 intro l
 induction l with
 | nil=>intro cs y h;exact h.elim (fun z=>by cases z) id
 | cons x l ih=>
  intro cs y h
  obtain ⟨n,k⟩:=x
  refine ih _ y ?_
  rcases h with h | h
  ·rcases List.mem_cons.mp h with e | e
   ·cases e
    right
    simp
   ·exact .inl e
  ·right
   by_cases hk:k=NameKind.free
   ·subst hk
    simp only [beq_self_eq_true,if_true,List.lookup_cons]
    cases hy:y == n <;> simp [h]
   ·have hb:(k == NameKind.free)=false:=by simpa using hk
    simp only [hb,Bool.false_eq_true,if_false]
    exact h
theorem sH {scope:Scope} {env:Env}:∀ (l:List (Str × NameKind)) (x:Str) (k:NameKind),
  (l.map fun (n,k)=>if (k == NameKind.free && env.scope.kind == .function && env.kindOf n == some .cell) then (n,NameKind.cell) else (n,k)).lookup x=some k->k=.cell \/ k=.free ->
  (∀ y ∈ l,y.2 ≠ .cell)->(x,NameKind.free) ∈ l
 | [],x,k,h,_,_=>by simp at h
 | (n,k') :: r,x,k,h,hk,hc=>by
  rw [List.map_cons,List.lookup_cons] at h
  have hn:(if (k' == NameKind.free && env.scope.kind == .function && env.kindOf n == some .cell)=true then (n,NameKind.cell) else (n,k')).1=n:=by split <;> rfl
  simp only [hn] at h
  cases hx:x == n with
  | true=>
   rw [hx] at h
   have ex:x=n:=by simpa using hx
   subst ex
   simp only [Option.some.injEq] at h
   split at h
   ·rename_i q
    simp only [Bool.and_eq_true,beq_iff_eq] at q
    rw [q.1.1];exact zKW
   ·have h':k'=k:=h
    rcases hk with z | z
    ·exact absurd (h'.trans z) (hc _ zKW)
    ·rw [h',z];exact zKW
  | false=>
   rw [hx] at h
   exact zKG _ (sH (scope:=scope) r x k h hk fun y hy=>hc y (zKG _ hy))
def cxC (X:Cx) (xs:List Str) (ix:List Nat) (scope:Scope) (C:Addr) (fp:List Addr) (s:Shared) (H:Hp):Cx:=
  { X with N:=xs ++ ix.map (fun i=>X.N.getD i ""),s₀:=s,H₀:=H,env:=compEnvC scope (clF X.env scope.names []) C X.env,
           outer:=X.stack,stack:=X.stack,ex:=fp,fn:=fun _=>false,pn:=[],xe:=fun _ _=>False }
def stC (xs:List Str) (ix:List Nat) (σ:St):St:=xs.map (fun _=>none) ++ ix.map (fun i=>(σ[i]?).join)
structure xJ (X:Cx) (xs:List Str) (ix:List Nat) (scope:Scope):Prop where
 kind:scope.kind=.function
 nocell:∀ y ∈ scope.names,y.2 ≠ .cell
 loc:∀ y ∈ scope.names,y.2=.local->scope.names.lookup y.1=some .local
 fre:∀ n,(n,NameKind.free) ∈ scope.names->X.env.kindOf n=some .cell \/ X.env.kindOf n=some .free
 own:∀ x ∈ xs,scope.names.lookup x=some .local
 nd:(xs ++ ix.map (fun i=>X.N.getD i "")).Nodup
 inN:∀ i ∈ ix,i < X.N.length
 frx:∀ i ∈ ix,scope.names.lookup (X.N.getD i "")=some .free
theorem sI {scope:Scope} {env:Env}:∀ (l:List (Str × NameKind)) (x:Str),l.lookup x=some .free ->
  (l.map fun (n,k)=>if (k == NameKind.free && env.scope.kind == .function && env.kindOf n == some .cell) then (n,NameKind.cell) else (n,k)).lookup x=some .cell \/
  (l.map fun (n,k)=>if (k == NameKind.free && env.scope.kind == .function && env.kindOf n == some .cell) then (n,NameKind.cell) else (n,k)).lookup x=some .free
 | [],x,h=>by simp at h
 | (n,k') :: r,x,h=>by
  rw [List.lookup_cons] at h
  rw [List.map_cons,List.lookup_cons]
  have hn:(if (k' == NameKind.free && env.scope.kind == .function && env.kindOf n == some .cell)=true then (n,NameKind.cell) else (n,k')).1=n:=by split <;> rfl
  simp only [hn]
  cases hx:x == n with
  | true=>
   rw [hx] at h
   have h':k'=.free:=zKA h
   subst h'
   by_cases hc:(NameKind.free == NameKind.free && env.scope.kind == .function && env.kindOf n == some .cell)=true
   ·left;simp only [if_pos hc]
   ·right;simp only [if_neg hc]
  | false=>
   rw [hx] at h
   exact sI (scope:=scope) r x h
theorem rY {X:Cx} {xs:List Str} {ix:List Nat} {scope:Scope} {qp:LAO} {σ:St} {H:Hp} {s s1:Shared} {fp:List Addr} {h1:Heap} {tk:Nat}
  (S:xJ X xs ix scope) (I:Inv X qp σ H s) (hf:∀ b ∈ fp,uV X qp H b) (hfo:∀ b ∈ fp,∃ o,s.heap.get? b=some o)
  (hns:h1.Ns s.heap.objs.size (fun _=>none)) (hk:∀ b o,s.heap.get? b=some o->h1.get? b=some o) (e1:s1 = { s with heap:=h1,toks:=tk }) :
  Inv (cxC X xs ix scope s.heap.objs.size fp s H) [] (stC xs ix σ) H s1:=by
 subst e1
 have hcl:∀ n,(n,NameKind.free) ∈ scope.names->(X.env.cells.lookup n).isSome=true:=fun n hn=>by
  obtain ⟨c,e⟩:=I.ok.has n (S.fre n hn)
  rw [e];rfl
 have sub:=zE2 X.env scope.names [] hcl (fun y c q=>by simp at q)
 have has:=fun y hy=>zE4 X.env scope.names [] y (.inl hy)
 have fpl:∀ b ∈ fp,b ∉ frs X.stack:=fun b hb z=>by
  obtain ⟨_,f1,f2,_⟩:=hf b hb
  rcases List.mem_cons.mp (I.stkSub b z) with q | q
  ·exact f1 q
  ·exact f2 q
 have kindR:∀ x k,(cxC X xs ix scope s.heap.objs.size fp s H).env.kindOf x=some k->k=.cell \/ k=.free->(x,NameKind.free) ∈ scope.names:=fun x k e hk'=>
  sH (scope:=scope) (env:=X.env) scope.names x k e hk' S.nocell
 refine ⟨⟨I.ok.mod,S.kind,I.ok.glob,I.ok.blt,zKC _,fun x y c a b=>?_,fun x hx=>?_,fun x c z=>(by cases z),I.ok.hd,I.ok.frames,.inl rfl,fun b hb=>?_,I.bs,zKE I.ok.bsz I.sz,fun b o e hb=>?_,fpl,I.stack,I.stkFree⟩,
  rfl,I.bare,Un.kept hk,⟨_,hns,fun i x v e1 e2 e3=>?_⟩,fun x c e=>?_,I.hok.fresh (zKC _),fun x c e=>I.freeC x c (sub x c e),fun p hp=>absurd (show p ∈ ([]:LAO) from hp) (by simp),I.hok.kept hk,?_⟩
 ·exact I.ok.inj x y c (sub x c a) (sub y c b)
 ·have hm:(x,NameKind.free) ∈ scope.names:=hx.elim (fun z=>kindR x _ z (.inl rfl)) fun z=>kindR x _ z (.inr rfl)
  exact Option.isSome_iff_exists.mp (has x hm)
 ·obtain ⟨f0,f1,f2,f3,f4,f5⟩:=hf b hb
  obtain ⟨o,ho⟩:=hfo b hb
  exact ⟨fun z=>Nat.lt_irrefl _ (Nat.lt_of_lt_of_eq (Heap.lt_size ho) z.symm),fun x c e=>f4 x c (sub x c e)⟩
 ·obtain ⟨f0,f1,f2,f3,f4,f5⟩:=hf b hb
  rcases f3 with q | q
  ·exact I.ok.noex b o e q
  ·exact Nat.lt_irrefl _ (zKP (Heap.lt_size e) (zKE I.ok.bsz q))
 ·have e2':(xs.map (fun _=>(none:Option V)) ++ ix.map (fun i=>(σ[i]?).join))[i]?=some (some v):=e2
  have e1':(xs ++ ix.map (fun i=>X.N.getD i ""))[i]?=some x:=e1
  by_cases hi:i < xs.length
  ·rw [zKR (by simpa using hi),zJ9] at e2'
   cases q:xs[i]? with
   | none=>rw [q] at e2';cases e2'
   | some z=>rw [q] at e2';cases e2'
  ·have hi':xs.length <= i:=Nat.not_lt.mp hi
   rw [zKQ (by simpa using hi'),zJ3,zJ9] at e2'
   rw [zKQ hi',zJ9] at e1'
   cases q:ix[i - xs.length]? with
   | none=>rw [q] at e2';cases e2'
   | some j=>
    rw [q] at e1' e2'
    have hj:j ∈ ix:=zJ7 q
    have ex:X.N.getD j ""=x:=zKA e1'
    have ev:(σ[j]?).join=some v:=zKA e2'
    have hjl:=S.inN j hj
    have eN:X.N[j]?=some x:=by
     rw [<- ex,zJ8]
     rw [zJ4 hjl];rfl
    have eσ:σ[j]?=some (some v):=by
     cases z:σ[j]? with
     | none=>rw [z] at ev;cases ev
     | some y=>rw [z] at ev;simp at ev;rw [ev]
    have hfr:=S.frx j hj
    rw [ex] at hfr
    have hkin:=S.fre x (PySem.mem_of_lookup hfr)
    obtain ⟨m,hn,hl⟩:=I.loc
    obtain ⟨u,ru,lk⟩:=hl j x v eN eσ (hkin.elim (fun z=>.inr (.inl z)) fun z=>.inr (.inr z))
    refine ⟨u,ru,.inr ⟨sI (scope:=scope) (env:=X.env) scope.names x hfr,?_⟩⟩
    rcases lk with ⟨k1,_⟩ | ⟨_,c,ec,zc⟩
    ·rcases hkin with z | z <;> (rw [z] at k1;cases k1)
    ·obtain ⟨c',ec'⟩:=Option.isSome_iff_exists.mp (has x (PySem.mem_of_lookup hfr))
     have q2:=sub x c' ec'
     rw [ec] at q2;cases q2
     obtain ⟨oc,hoc,hd⟩:=zc
     exact ⟨c,ec',oc,hk c oc hoc,hd⟩
 ·obtain ⟨v,oc,hoc,hd⟩:=I.cell x c (sub x c e)
  exact ⟨v,oc,hk c oc hoc,hd⟩
 ·show (xs.map (fun _=>(none:Option V)) ++ ix.map (fun i=>(σ[i]?).join)).length=(xs ++ ix.map (fun i=>X.N.getD i "")).length
  simp
def cxX (X:Cx) (xs:List Str) (ix:List Nat) (scope:Scope) (C:Addr) (fp:List Addr) (s:Shared) (H:Hp) (xe':VSP):Cx:={ cxC X xs ix scope C fp s H with xe:=xe' }
theorem Inv.toX {X:Cx} {qp:LAO} {σ:St} {H:Hp} {s:Shared} (I:Inv X qp σ H s) (xe':VSP):Inv { X with xe:=xe' } qp σ H s:=
 ⟨⟨I.ok.mod,I.ok.kind,I.ok.glob,I.ok.blt,I.ok.above,I.ok.inj,I.ok.has,I.ok.cab,I.ok.hd,I.ok.frames,I.ok.stk,I.ok.exf,I.ok.bs,I.ok.bsz,I.ok.noex,I.ok.exfs,I.ok.funs,I.ok.frf⟩,
  I.os,I.bare,I.base,I.loc,I.cell,I.free,I.freeC,I.pin,I.hok,I.len⟩
theorem zA7 {prog:Program} {w:World} {A:Around} {R:Result->Shared->Prop} {s:Shared} {elt target iter:Expr} {ifs:List Expr} {scope:Scope} {pos:Pos} {it acc:Value} {env:Env} (J:Nat->Shared->Prop) {Eb:VSP} (nof:∀ (e:Value) (s':Shared),Eb e s'->notedBy (model prog w) A env (fun e s'=>R (.error e) s') e s')
  (turn:∀ n s,J n s->wpAny (model prog w) A (pyNext it) (fun r s1=>match r with
   | none=>R (.ok .next) s1
   | some v=>wpAny (model prog w) A (letOwnedTupleGo target it v) (fun _ s1'=>wpAny (model prog w) A (assign target env v) (fun _ s2=>
     wpAny (model prog w) A (forIn ifs true fun c r=>if r=true then do let ok <- isTrue c env (eval c env);pure (ForInStep.yield ok) else pure (ForInStep.yield r)) (fun ok s3=>
      if ok=true then wpAny (model prog w) A (eval elt env) (fun x s4=>
       wpAny (model prog w) A (call (.builtin "list.append") [acc,x]) (fun _ s5=>∃ m,m < n/\J m s5) Eb s4) Eb s3
      else ∃ m,m < n/\J m s3) Eb s2) Eb s1') Eb s1) Eb s)
  (n:Nat) (h:J n s):codeAny (model prog w) A (.compLoop (.ListComp elt [⟨target,iter,ifs,0⟩] scope pos) 0 it acc env) R s:=by
 refine codeAny_loop rfl J (fun n s hJ=>?_) n h
 show wpAny (model prog w) A ((compTurn (.ListComp elt [⟨target,iter,ifs,0⟩] scope pos) 0 it acc env).onRaise (fun x=>do noteFrame x env;theTreesLotGoes x)) _ _ s
 refine wpAny_noted ?_
 rw [compTurn_list]
 refine wpAny_bind (wpAny_standAt (wpAny_bind (wpAny_mono (turn n s hJ) (fun r s1 h1=>?_) nof)))
 cases r with
 | none=>exact wpAny_pure h1
 | some v=>
  refine wpAny_bind (wpAny_mono h1 (fun _ s1' h1'=>?_) nof)
  refine wpAny_bind (wpAny_mono h1' (fun _ s2 h2=>?_) nof)
  refine wpAny_bind (wpAny_mono h2 (fun ok s3 h3=>?_) nof)
  cases ok with
  | false=>exact wpAny_pure ⟨rfl,h3⟩
  | true=>
   refine wpAny_bind (wpAny_bind (wpAny_mono h3 (fun x s4 h4=>?_) nof))
   exact wpAny_bind (wpAny_mono h4 (fun _ s5 h5=>wpAny_pure (wpAny_pure ⟨rfl,h5⟩)) nof)
def PTs (X:Cx) (ifs:List Expr) (t:TT):Prop:=
 ∀ (qp:LAO) (s:Shared) (σ:St) (H:Hp) (Q:Bool->Hp->Prop),Inv X qp σ H s->t σ H Q ->
  wpAny (model X.prog X.w) X.A (forIn ifs true fun c r=>if r=true then do let ok <- isTrue c X.env (eval c X.env);pure (ForInStep.yield ok) else pure (ForInStep.yield r)) (TP X qp σ Q) X.xe s
def qU:TT:=fun _ H Q=>Q true H
theorem xB {X:Cx}:PTs X [] qU:=fun _ _ _ H _ I h=>wpAny_tests_nil ⟨H,I,h⟩
def LCW (J:It) (xs:List Str) (ix:List Nat) (g:TG) (tt:TT) (te:TE) (σ:St) (H1:Hp) (acc:Addr) (Q:VK):Prop:=
 ∃ W:Nat->Nat->List V->St->Hp->Prop,(∃ m,W 0 m [] (stC xs ix σ) (upd H1 acc (.lst []))) /\
  ∀ i m ys τ H,W i m ys τ H->H acc=some (.lst ys)/\ys.length < sizeLine /\
   ((J.stop i H/\Q (.ref acc) H) \/ (J.go i H/\∃ N:List V->St->Hp->Prop,(∀ ys' τ' H',N ys' τ' H'->∃ m',m' < m/\W (i + 1) m' ys' τ' H') /\
    ∀ x H',J.yld i H x H'->g x τ H' fun τ2 H2=>tt τ2 H2 fun b H3=>
    if b=true then te τ2 H3 fun y H4=>H4 acc=some (.lst ys)/\N (ys ++ [y]) τ2 (upd H4 acc (.lst (ys ++ [y]))) else N ys τ2 H3))
def tLC (xs:List Str) (ix:List Nat) (wi:TI) (g:TG) (tt:TT) (te:TE):TE:=fun σ H Q=>wi σ H fun J H1=>∀ acc,H1 acc=none->LCW J xs ix g tt te σ H1 acc Q
structure zJX (Reg:Cx->Prop) (P:Program) (w:World) (tg:Expr) (J:It) (fp:List Addr) (it:Addr) (tn:Nat->Heap->Prop):Prop where
 mem:it ∈ fp
 obj:∀ i h,tn i h->∀ b ∈ fp,∃ o,h.get? b=some o/\∀ v,o.data ≠ .cell v
 keep:∀ i h h',tn i h->(∀ b ∈ fp,∀ o,h.get? b=some o->h'.get? b=some o)->tn i h'
 item:∀ (X:Cx),X.prog=P->X.w=w->Reg X->∀ (i:Nat) (qp:LAO) (s:Shared) (σ:St) (H:Hp) (E:VSP),Inv X qp σ H s->(∀ b ∈ fp,uV X qp H b)->tn i s.heap->J.go i H ->
  wpAny (model P w) X.A (pyNext (.ref it)) (fun r s1=>∃ u,r=some u /\
   wpAny (model P w) X.A (letOwnedTupleGo tg (.ref it) u) (fun _ s2=>∃ x H',Inv X qp σ H' s2/\zV x u/\J.yld i H x H'/\tn (i + 1) s2.heap/\∀ b ∈ fp,H' b=none) E s1) E s
 done:∀ (X:Cx),X.prog=P->X.w=w->Reg X->∀ (i:Nat) (qp:LAO) (s:Shared) (σ:St) (H:Hp) (E:VSP),Inv X qp σ H s->(∀ b ∈ fp,uV X qp H b)->tn i s.heap->J.stop i H ->
  wpAny (model P w) X.A (pyNext (.ref it)) (fun r s1=>r=none/\Inv X qp σ H s1) E s
 self:∀ (A:Around) (i:Nat) (s:Shared) (Q:VSP) (E:VSP),tn i s.heap->Q (.ref it) s->wpAny (model P w) A (pyIter (.ref it)) Q E s
def PIEG (Reg:Cx->Prop) (X:Cx) (qp:LAO) (σ:St) (tg:Expr) (R:It->Hp->Prop) (itv:Value) (s2:Shared):Prop:=
 ∃ (it:Addr) (fp:List Addr) (tn:Nat->Heap->Prop) (J:It) (H':Hp),itv=.ref it/\Inv X qp σ H' s2/\zJX Reg X.prog X.w tg J fp it tn/\tn 0 s2.heap/\(∀ b ∈ fp,uV X qp H' b)/\R J H'
def PIG (Reg:Cx->Prop) (X:Cx) (tg iter:Expr) (wi:TI):Prop:=
 ∀ (qp:LAO) (s:Shared) (σ:St) (H:Hp) (R:It->Hp->Prop),Inv X qp σ H s->wi σ H R ->
  wpAny (model X.prog X.w) X.A (eval iter X.env) (fun v s1=>wpAny (model X.prog X.w) X.A (pyIter v) (PIEG Reg X qp σ tg R) X.xe s1) X.xe s
theorem zA8 {Reg:Cx->Prop} {X:Cx} {xs:List Str} {ix:List Nat} {scope:Scope} {elt tg iter:Expr} {ifs:List Expr} {pos:Pos} {wi:TI} {g:TG} {tt:TT} {te:TE} (xf:Addr->List Addr->Shared->Hp->VSP)
  (S:xJ X xs ix scope) (hreg:∀ Y:Cx,Y.K=X.K->Y.calm=X.calm->Y.A.handled=X.A.handled->Reg Y) (hi:PIG Reg X tg iter wi)
  (hg:∀ C fp s H,PG (cxX X xs ix scope C fp s H (xf C fp s H)) tg g) (ht:∀ C fp s H,PTs (cxX X xs ix scope C fp s H (xf C fp s H)) ifs tt) (he:∀ C fp s H,PE (cxX X xs ix scope C fp s H (xf C fp s H)) elt te)
  {qp:LAO} {s:Shared} {σ:St} {H:Hp} {Q:VK} (I:Inv X qp σ H s) (h:tLC xs ix wi g tt te σ H Q) {use:Option (Value->Sem Unit)} {R:VSP}
  (nf:∀ (fp:List Addr) (s3:Shared) (H3:Hp) (acc e:Value) (s':Shared),Inv X qp σ H3 s3->(∀ b ∈ fp,uV X qp H3 b)->xf s3.heap.objs.size fp s3 H3 e s'->notedBy (model X.prog X.w) X.A (compEnvC scope (clF X.env scope.names []) s3.heap.objs.size X.env) (fun e s'=>compPost (model X.prog X.w) X.A X.xe use R acc s3.heap.objs.size (.error e) s') e s')
  (fin:∀ (acc C:Addr) (H':Hp) (s':Shared) (m:Str->Option Value),Q (.ref acc) H'->s'.heap.Ns C m->(∀ h',Heap.SameBut C s'.heap h'->∀ tk,Inv X qp σ H' { s' with heap:=h',toks:=tk })->(X.s₀.heap.objs.size <= C/\C ≠ X.env.locals/\(∀ x c,X.env.cells.lookup x=some c->c ≠ C)/\(∀ p ∈ X.pn ++ qp,p.1 ≠ C)/\H' C=none)->compPost (model X.prog X.w) X.A X.xe use R (.ref acc) C (.ok .next) s') :
  wpAny (model X.prog X.w) X.A (eval iter X.env) (fun x s₁=>wpAny (model X.prog X.w) X.A (pyIter x) (fun it s₂=>wpAny (model X.prog X.w) X.A (newList []) (fun acc s₃=>
   wpAny (model X.prog X.w) X.A (newFunctionEnv scope X.env.globals (clF X.env scope.names []) [] X.env.qual none .none (some X.env)) (fun cenv s₄=>
    codeAny (model X.prog X.w) X.A (.compStart (.ListComp elt [⟨tg,iter,ifs,0⟩] scope pos) 0 it acc { cenv with scope:=relabel scope X.env }) (compPost (model X.prog X.w) X.A X.xe use R acc cenv.locals) s₄) X.xe s₃) X.xe s₂) X.xe s₁) X.xe s:=by
 refine thn (hi qp s σ H _ I h) fun v s1 h1=>thn h1 fun itv s2 h2=>?_
 obtain ⟨it,fp,tn,J,H2,rfl,I2,T,st2,f2,q⟩:=h2
 refine wpAny_newObj_type ?_
 have I3:Inv X qp σ (upd H2 s2.heap.objs.size (.lst [])) { s2 with heap:=s2.heap.push { cls:=.type "list",data:=.seq ([]:List Value).toArray },toks:=s2.toks }:=I2.lnew (ys:=[]) (its:=[]) .nil (zKD _)
 obtain ⟨W,⟨m0,w0⟩,turn⟩:=q s2.heap.objs.size I2.fresh
 have objs2:=T.obj 0 _ st2
 have neacc:∀ b ∈ fp,b ≠ s2.heap.objs.size:=fun b hb z=>by
  obtain ⟨o,ho,_⟩:=objs2 b hb
  exact Nat.lt_irrefl _ (Nat.lt_of_lt_of_eq (Heap.lt_size ho) z.symm)
 generalize hacc:s2.heap.objs.size=acc at *
 generalize hs3:({ s2 with heap:=s2.heap.push { cls:=.type "list",data:=.seq ([]:List Value).toArray } }:Shared)=s3
 have I3:Inv X qp σ (upd H2 acc (.lst [])) s3:=by rw [<- hs3];exact I3
 have k3:∀ b o,s2.heap.get? b=some o->s3.heap.get? b=some o:=fun b o e=>by rw [<- hs3];exact Heap.get?_push_of_some _ e
 have f3:∀ b ∈ fp,uV X qp (upd H2 acc (.lst [])) b:=fun b hb=>⟨by rw [zI (neacc b hb)];exact (f2 b hb).1,(f2 b hb).2⟩
 have o3:∀ b ∈ fp,∃ o,s3.heap.get? b=some o:=fun b hb=>let ⟨o,ho,_⟩:=objs2 b hb;⟨o,k3 b o ho⟩
 have st3:tn 0 s3.heap:=T.keep _ _ _ st2 fun b _ o e=>k3 b o e
 refine wpAny_newFunctionEnv S.nocell (by intro y hy;simp at hy) (fun h1 hns1 hsb1=>?_) S.kind
 have keep1:∀ b o,s3.heap.get? b=some o->h1.get? b=some o:=fun b o e=>hsb1.extBut b o (zKU (Heap.lt_size e)) (Heap.get?_push_of_some _ e)
 generalize hs4:({ s3 with heap:=h1,toks:=s3.toks + ([]:List (Str × Value)).length }:Shared)=s4
 have I4:Inv (cxC X xs ix scope s3.heap.objs.size fp s3 (upd H2 acc (.lst []))) [] (stC xs ix σ) (upd H2 acc (.lst [])) s4:=rY S I3 f3 o3 hns1 keep1 hs4.symm
 have st4:tn 0 s4.heap:=T.keep _ _ _ st3 fun b _ o e=>by rw [<- hs4];exact keep1 b o e
 have nf:=fun av e s'=>nf fp s3 (upd H2 acc (.lst [])) av e s' I3 f3
 have hg:=hg s3.heap.objs.size fp s3 (upd H2 acc (.lst []))
 have ht:=ht s3.heap.objs.size fp s3 (upd H2 acc (.lst []))
 have he:=he s3.heap.objs.size fp s3 (upd H2 acc (.lst []))
 generalize xf s3.heap.objs.size fp s3 (upd H2 acc (.lst []))=xb at hg ht he nf
 have I4:Inv (cxX X xs ix scope s3.heap.objs.size fp s3 (upd H2 acc (.lst [])) xb) [] (stC xs ix σ) (upd H2 acc (.lst [])) s4:=I4.toX xb
 generalize hX':cxX X xs ix scope s3.heap.objs.size fp s3 (upd H2 acc (.lst [])) xb=X' at *
 have eP:X'.prog=X.prog:=by rw [<- hX'];rfl
 have ew:X'.w=X.w:=by rw [<- hX'];rfl
 have eK:X'.K=X.K:=by rw [<- hX'];rfl
 have eA:X'.A=X.A:=by rw [<- hX'];rfl
 have ec:Reg X':=hreg X' eK (by rw [<- hX'];rfl) (by rw [<- hX'];rfl)
 have ex:X'.xe=xb:=by rw [<- hX'];rfl
 have eenv:X'.env=compEnvC scope (clF X.env scope.names []) s3.heap.objs.size X.env:=by rw [<- hX'];rfl
 have eex:X'.ex=fp:=by rw [<- hX'];rfl
 have efs:X'.fs=frs X.stack:=by rw [<- hX'];rfl
 have epn:X'.pn=[]:=by rw [<- hX'];rfl
 have eH0:X'.H₀=upd H2 acc (.lst []):=by rw [<- hX'];rfl
 have es0:X'.s₀=s3:=by rw [<- hX'];rfl
 have eloc:X'.env.locals=s3.heap.objs.size:=by rw [eenv];rfl
 have stat:∀ {H':Hp},(∀ b ∈ fp,H' b=none)->∀ b ∈ fp,uV X' [] H' b:=fun {H'} hn b hb=>by
  refine ⟨hn b hb,?_,?_,.inl (by rw [eex];exact hb),?_,?_⟩
  ·rw [eloc]
   intro z
   obtain ⟨o,ho⟩:=o3 b hb
   exact Nat.lt_irrefl _ (Nat.lt_of_lt_of_eq (Heap.lt_size ho) z.symm)
  ·exact I4.ok.exfs b (by rw [eex];exact hb)
  ·exact (I4.ok.exf b (by rw [eex];exact hb)).2
  ·rw [epn];intro p hp;exact absurd hp (by simp)
 have loop:codeAny (model X.prog X.w) X.A (.compLoop (.ListComp elt [⟨tg,iter,ifs,0⟩] scope pos) 0 (.ref it) (.ref acc) X'.env) (compPost (model X.prog X.w) X.A X.xe use R (.ref acc) s3.heap.objs.size) s4:=by
  refine zA7 (Eb:=xb) (nof:=?nf) (J:=fun n s'=>∃ i ys τ H',Inv X' [] τ H' s'/\tn i s'.heap/\(∀ b ∈ fp,H' b=none)/\W i n ys τ H') ?tn m0 ⟨0,[],_,_,I4,st4,fun b hb=>(f3 b hb).1,w0⟩
  case nf=>
   rw [eenv]
   exact nf (.ref acc)
  rintro n s5 ⟨i,ys,τ,H5,I5,st5,fr5,w5⟩
  obtain ⟨ha5,hz5,way⟩:=turn i n ys τ H5 w5
  rcases way with ⟨stop,qn⟩ | ⟨go,N,hN,step⟩
  ·have d:=T.done X' eP ew ec i [] s5 τ H5 xb I5 (stat fr5) st5 stop
   rw [eA] at d
   refine thn d fun r s6 hz48=>?_
   obtain ⟨hr,I6⟩:=hz48
   subst hr
   obtain ⟨m,hn6,_⟩:=id I6.loc
   rw [eloc] at hn6
   refine fin acc s3.heap.objs.size H5 s6 m qn hn6 (fun h' hsb tk=>?_) ⟨I3.sz,Ne.symm (zKU I3.lt),fun x c e z=>by
    obtain ⟨v,oc,hoc,_⟩:=I3.cell x c e
    exact Nat.lt_irrefl _ (Nat.lt_of_lt_of_eq (Heap.lt_size hoc) z.symm),fun p hp z=>Nat.lt_irrefl _ (Nat.lt_of_lt_of_eq (Heap.lt_size (I3.pin p hp).1) z.symm),by have:=I6.free;rw [eloc] at this;exact this⟩
   have same:∀ b,b ≠ s3.heap.objs.size->h'.get? b=s6.heap.get? b:=fun b hb=>hsb.2 b hb
   have ub:=I6.base
   rw [efs,eex,eH0,es0] at ub
   have ne3:∀ b o,s3.heap.get? b=some o->b ≠ s3.heap.objs.size:=fun b o e=>zKU (Heap.lt_size e)
   have u:Un (frs X.stack) fp (upd H2 acc (.lst [])) H5 s3.heap h':=
    ⟨fun b o e n1 n2 n3=>(same b (ne3 b o e)).trans (ub.keep b o e n1 n2 n3),fun b o e n1 n2 n3=>by
      obtain ⟨sl,z⟩:=ub.slot b o e n1 n2 n3
      exact ⟨sl,(same b (ne3 b o e)).trans z⟩,ub.free,fun b o e n3=>by
      obtain ⟨o',z⟩:=ub.there b o e n3
      exact ⟨o',(same b (ne3 b o e)).trans z⟩,ub.tups,ub.frzs,ub.tbls⟩
   have fC:H5 s3.heap.objs.size=none:=by have:=I6.free;rw [eloc] at this;exact this
   have hok:HOk X.prog X.w H5 h':=fun b o e=>by
    have z:=I6.hok b o e
    rw [eP,ew] at z
    refine z.stay (fun c u hc q=>(same c ?_).trans q) (fun _ q=>q) fun _ _ q=>q
    intro zc
    rcases hc with q1 | q1
    ·rw [<- q1,zc,fC] at e;cases e
    ·rw [zc,fC] at q1;cases q1
   have hch:∀ b ∈ fp,(b ∈ X.ex \/ X.s₀.heap.objs.size <= b)/\b ≠ X.env.locals/\(∀ x c,X.env.cells.lookup x=some c->c ≠ b)/\∀ p ∈ X.pn ++ qp,p.1 ≠ b:=fun b hb=>by
    obtain ⟨_,f1,_,g3,g4,g5⟩:=f3 b hb
    exact ⟨g3,f1,g4,g5⟩
   have ho:s6.os=s3.os:=by have:=I6.os;rw [es0] at this;exact this
   exact I3.call' (s':={ s6 with heap:=h',toks:=tk }) (ch:=fp) ho u hok I6.bare hch
  ·have d:=T.item X' eP ew ec i [] s5 τ H5 xb I5 (stat fr5) st5 go
   rw [eA] at d
   refine thn d fun r s6 hz49=>?_
   obtain ⟨u,hr,h6⟩:=hz49
   subst hr
   refine thn h6 fun _ s7 hz50=>?_
   obtain ⟨x,H7,I7,r7,y7,st7,fr7⟩:=hz50
   have I7':=I7.pinned (stat fr7) (T.obj _ _ st7)
   have dg:=hg _ s7 τ H7 x u _ I7' r7 (step x H7 y7)
   rw [eP,ew,eA,ex] at dg
   refine thn dg fun _ s8 hz51=>?_
   obtain ⟨τ8,H8,I8,q8⟩:=hz51
   have dt:=ht _ s8 τ8 H8 _ I8 q8
   rw [eP,ew,eA,ex] at dt
   refine thn dt fun ok s9 hz52=>?_
   obtain ⟨H9,I9,q9⟩:=hz52
   have again:∀ {τ':St} {H':Hp} {s':Shared},Inv X' ([] ++ rF fp s7.heap) τ' H' s'->Inv X' [] τ' H' s'/\tn (i + 1) s'.heap/\∀ b ∈ fp,H' b=none:=fun {τ' H' s'} Ie=>by
    refine ⟨Ie.unpinned,T.keep _ _ _ st7 fun b hb o e=>(Ie.pin (b,o) (zKH _ (zKH _ (wB hb e)))).1,fun b hb=>?_⟩
    obtain ⟨o,e,_⟩:=T.obj _ _ st7 b hb
    exact (Ie.pin (b,o) (zKH _ (zKH _ (wB hb e)))).2.1
   cases ok with
   | false=>
    rw [if_neg zKV] at q9 ⊢
    obtain ⟨m',hm,w9⟩:=hN _ _ _ q9
    obtain ⟨z1,z2,z3⟩:=again I9
    exact ⟨m',hm,i + 1,ys,τ8,H9,z1,z2,z3,w9⟩
   | true=>
    rw [if_pos rfl] at q9 ⊢
    have de:=he _ s9 τ8 H9 _ I9 q9
    rw [eP,ew,eA,ex] at de
    refine thn de fun yv s10 hz53=>?_
    obtain ⟨y,H10,I10,r10,ha10,n10⟩:=hz53
    obtain ⟨m',hm,w10⟩:=hN _ _ _ n10
    have dm:=y6 (X:=X') _ s10 τ8 H10 (.ref acc) [y] (.ref acc) [yv] (fun v H'=>v=.non/\H'=upd H10 acc (.lst (ys ++ [y]))) I10 rfl (.cons r10 .nil) ⟨acc,ys,y,rfl,rfl,ha10,hz5,rfl,rfl⟩
    rw [eP,ew,eA,ex] at dm
    refine thn dm fun _ s11 hz54=>?_
    obtain ⟨_,H11,I11,_,_,e11⟩:=hz54
    subst e11
    obtain ⟨z1,z2,z3⟩:=again I11
    exact ⟨m',hm,i + 1,ys ++ [y],τ8,_,z1,z2,z3,w10⟩
 have e4:({ newEnv scope s3.heap.objs.size X.env.globals (clF X.env scope.names []) X.env.qual none .none (some X.env) builtinsNs with scope:=relabel scope X.env }:Env)=X'.env:=by rw [eenv];rfl
 rw [eenv] at loop
 have self:=T.self X.A 0 s4 (fun it' s'=>codeAny (model X.prog X.w) X.A (.compLoop (.ListComp elt [⟨tg,iter,ifs,0⟩] scope pos) 0 it' (.ref acc) (compEnvC scope (clF X.env scope.names []) s3.heap.objs.size X.env)) (compPost (model X.prog X.w) X.A X.xe use R (.ref acc) s3.heap.objs.size) s')
  (notedBy (model X.prog X.w) X.A (compEnvC scope (clF X.env scope.names []) s3.heap.objs.size X.env) fun x s'=>compPost (model X.prog X.w) X.A X.xe use R (.ref acc) s3.heap.objs.size (.error x) s') st4 loop
 exact codeAny_compStart_list loop self
theorem zA9 {Reg:Cx->Prop} {X:Cx} {xs:List Str} {ix:List Nat} {scope:Scope} {elt tg iter:Expr} {ifs:List Expr} {pos:Pos} {wi:TI} {g:TG} {tt:TT} {te:TE}
  (S:xJ X xs ix scope) (hreg:∀ Y:Cx,Y.K=X.K->Y.calm=X.calm->Y.A.handled=X.A.handled->Reg Y) (hi:PIG Reg X tg iter wi)
  (hg:∀ C fp s H,PG (cxC X xs ix scope C fp s H) tg g) (ht:∀ C fp s H,PTs (cxC X xs ix scope C fp s H) ifs tt) (he:∀ C fp s H,PE (cxC X xs ix scope C fp s H) elt te)
  {qp:LAO} {s:Shared} {σ:St} {H:Hp} {Q:VK} (I:Inv X qp σ H s) (h:tLC xs ix wi g tt te σ H Q) {use:Option (Value->Sem Unit)} {R:VSP}
  (fin:∀ (acc C:Addr) (H':Hp) (s':Shared) (m:Str->Option Value),Q (.ref acc) H'->s'.heap.Ns C m->(∀ h',Heap.SameBut C s'.heap h'->∀ tk,Inv X qp σ H' { s' with heap:=h',toks:=tk })->(X.s₀.heap.objs.size <= C/\C ≠ X.env.locals/\(∀ x c,X.env.cells.lookup x=some c->c ≠ C)/\(∀ p ∈ X.pn ++ qp,p.1 ≠ C)/\H' C=none)->compPost (model X.prog X.w) X.A X.xe use R (.ref acc) C (.ok .next) s') :
  wpAny (model X.prog X.w) X.A (eval iter X.env) (fun x s₁=>wpAny (model X.prog X.w) X.A (pyIter x) (fun it s₂=>wpAny (model X.prog X.w) X.A (newList []) (fun acc s₃=>
   wpAny (model X.prog X.w) X.A (newFunctionEnv scope X.env.globals (clF X.env scope.names []) [] X.env.qual none .none (some X.env)) (fun cenv s₄=>
    codeAny (model X.prog X.w) X.A (.compStart (.ListComp elt [⟨tg,iter,ifs,0⟩] scope pos) 0 it acc { cenv with scope:=relabel scope X.env }) (compPost (model X.prog X.w) X.A X.xe use R acc cenv.locals) s₄) X.xe s₃) X.xe s₂) X.xe s₁) X.xe s:=
 zA8 (fun _ _ _ _ _ _=>False) S hreg hi hg ht he I h (fun _ _ _ _ _ _ _ _ f=>f.elim) fin
theorem zEJ {X:Cx} {xs:List Str} {ix:List Nat} {scope:Scope} {elt tg iter:Expr} {ifs:List Expr} {pos:Pos} {wi:TI} {g:TG} {tt:TT} {te:TE}
  (S:xJ X xs ix scope) (hc:X.calm=true) (hi:PI X tg iter wi)
  (hg:∀ C fp s H,PG (cxC X xs ix scope C fp s H) tg g) (ht:∀ C fp s H,PTs (cxC X xs ix scope C fp s H) ifs tt) (he:∀ C fp s H,PE (cxC X xs ix scope C fp s H) elt te)
  {qp:LAO} {s:Shared} {σ:St} {H:Hp} {Q:VK} (I:Inv X qp σ H s) (h:tLC xs ix wi g tt te σ H Q) {use:Option (Value->Sem Unit)} {R:VSP}
  (fin:∀ (acc C:Addr) (H':Hp) (s':Shared) (m:Str->Option Value),Q (.ref acc) H'->s'.heap.Ns C m->(∀ h',Heap.SameBut C s'.heap h'->∀ tk,Inv X qp σ H' { s' with heap:=h',toks:=tk })->(X.s₀.heap.objs.size <= C/\C ≠ X.env.locals/\(∀ x c,X.env.cells.lookup x=some c->c ≠ C)/\(∀ p ∈ X.pn ++ qp,p.1 ≠ C)/\H' C=none)->compPost (model X.prog X.w) X.A X.xe use R (.ref acc) C (.ok .next) s') :
  wpAny (model X.prog X.w) X.A (eval iter X.env) (fun x s₁=>wpAny (model X.prog X.w) X.A (pyIter x) (fun it s₂=>wpAny (model X.prog X.w) X.A (newList []) (fun acc s₃=>
   wpAny (model X.prog X.w) X.A (newFunctionEnv scope X.env.globals (clF X.env scope.names []) [] X.env.qual none .none (some X.env)) (fun cenv s₄=>
    codeAny (model X.prog X.w) X.A (.compStart (.ListComp elt [⟨tg,iter,ifs,0⟩] scope pos) 0 it acc { cenv with scope:=relabel scope X.env }) (compPost (model X.prog X.w) X.A X.xe use R acc cenv.locals) s₄) X.xe s₃) X.xe s₂) X.xe s₁) X.xe s:=
 zA9 (Reg:=fun Y=>Y.K=X.K/\Y.calm=true) S (fun Y k c _=>⟨k,c.trans hc⟩)
  (fun qp s σ H R I q=>thn (hi qp s σ H R I q) fun v s1 h1=>thn h1 fun itv s2 h2=>by
   obtain ⟨it,fp,tn,J,H',e,I',T,r⟩:=h2
   exact ⟨it,fp,tn,J,H',e,I',⟨T.mem,T.obj,T.keep,fun Y e1 e2 r=>T.item Y e1 e2 r.1 r.2,fun Y e1 e2 r=>T.done Y e1 e2 r.1 r.2,T.self⟩,r⟩) hg ht he I h fin
theorem zI3 {X:Cx} {xs:List Str} {ix:List Nat} {scope:Scope} {elt tg iter:Expr} {ifs:List Expr} {pos:Pos} {wi:TI} {g:TG} {tt:TT} {te:TE}
  (S:xJ X xs ix scope) (hc:X.calm=true) (hi:PI X tg iter wi)
  (hg:∀ C fp s H,PG (cxC X xs ix scope C fp s H) tg g) (ht:∀ C fp s H,PTs (cxC X xs ix scope C fp s H) ifs tt) (he:∀ C fp s H,PE (cxC X xs ix scope C fp s H) elt te)
  (hs:∀ x,foldedSetIterable iter X.env x=pure x:=by intro _;rfl) :
  PE X (.ListComp elt [⟨tg,iter,ifs,0⟩] scope pos) (tLC xs ix wi g tt te):=by
 intro qp s σ H Q I h
 have hcl:∀ n,(n,NameKind.free) ∈ scope.names->(X.env.cells.lookup n).isSome=true:=fun n hn=>by
  obtain ⟨c,e⟩:=I.ok.has n (S.fre n hn)
  rw [e];rfl
 rw [eval_ListComp]
 refine wpAny_comprehension_free (use:=none) rfl hs (uU hcl) S.kind S.loc ?_
 refine zEJ S hc hi hg ht he I h fun acc C H' s' m q hn k _=>?_
 exact ⟨m,hn,fun h' hsb=>⟨.ref acc,H',k h' hsb s'.toks,rfl,q⟩⟩
def Its (x:Str):It:=⟨fun i _=>i < x.cps.size,fun i H v H'=>H'=H/\∃ c,x.cps[i]?=some c/\v=.str ⟨#[c]⟩,fun i _=>i=x.cps.size⟩
theorem bV {P:Program} {w:World} {K:PySem.W.Frag} {tg:Expr} (it:Addr) (x:Str) (t:Tok) (ty:String)
  (hty:["enumerate","zip","dict_itemiterator","dict_reverseitemiterator","odict_iterator","itertools.zip_longest","itertools.pairwise"].contains ty=false)
  (W:∀ A:Around,A.handled=none->Walks P w A it [it] [it] x.cps.size (SignAt x) (fun i h=>h.IsStrIter it ty x t i))
  (self:∀ (A:Around) (i:Nat) (s:Shared) (Q:VSP) (E:VSP),s.heap.IsStrIter it ty x t i->Q (.ref it) s->wpAny (model P w) A (pyIter (.ref it)) Q E s) :
  zCI P w K tg (Its x) [it] it (fun i h=>h.IsStrIter it ty x t i) where
 mem:=by simp
 obj:=fun i h st b hb=>by
  have e:b=it:=by simpa using hb
  subst e
  obtain ⟨o,e,c,d⟩:=st
  exact ⟨o,e,fun v z=>by rw [d] at z;cases z⟩
 keep:=fun i h h' st k=>let ⟨o,e,r⟩:=st;⟨o,k it (by simp) o e,r⟩
 item:=by
  intro X hP hw hK hc i qp s σ H E I hf st hg
  subst hP hw hK
  obtain ⟨f0,f1,f2,f3,f4,f5⟩:=hf it (by simp)
  refine (W X.A (I.ok.hd hc)).item i s _ _ hg st fun v h' tk hv st' kk=>?_
  obtain ⟨c,u,hcx,rfl⟩:=hv
  have I1:Inv X qp σ H { s with heap:=h',toks:=tk }:=I.turned (fun b o hb e=>kk b o (by simpa using hb) e) f0 f1 f3 f4 f5
  obtain ⟨o,e,c',d⟩:=id st'
  exact ⟨_,rfl,zBK (s:={ s with heap:=h',toks:=tk }) e c' d hty ⟨.str ⟨#[c]⟩,H,I1,⟨u,rfl⟩,⟨rfl,c,hcx,rfl⟩,st',fun b hb=>(hf b hb).1⟩⟩
 done:=by
  intro X hP hw hK hc i qp s σ H E I hf st hg
  subst hP hw hK
  obtain ⟨f0,f1,f2,f3,f4,f5⟩:=hf it (by simp)
  have hg':i=x.cps.size:=hg
  subst hg'
  exact (W X.A (I.ok.hd hc)).done s _ _ st fun h' tk kk=>⟨rfl,I.turned (fun b o hb e=>kk b o (by simpa using hb) e) f0 f1 f3 f4 f5⟩
 self:=self
section
variable {X:Cx} {tg:Expr}
def iStr (tl:TE):TI:=fun σ H R=>tl σ H fun x H1=>∃ z,x=.str z/\R (Its z) H1
theorem zAC {l:Expr} {tl:TE} (hl:PE X l tl):PI X tg l (iStr tl):=by
 intro qp s σ H R I h
 refine thn (hl qp s σ H _ I h) fun v s1 hz55=>?_
 obtain ⟨x,H1,I1,r1,q1⟩:=hz55
 obtain ⟨z,e,q⟩:=q1
 subst e
 obtain ⟨t,rfl⟩:=(show ∃ t,v=Value.str z t from r1)
 have fin:∀ (o:Obj) (ty:String),o.cls=.type ty->o.data=.fields #[.str z t,.int 0 0] ->
   ["enumerate","zip","dict_itemiterator","dict_reverseitemiterator","odict_iterator","itertools.zip_longest","itertools.pairwise"].contains ty=false ->
   o.isFreed=false ->
   (∀ A:Around,A.handled=none->Walks X.prog X.w A s1.heap.objs.size [s1.heap.objs.size] [s1.heap.objs.size] z.cps.size (SignAt z) (fun i h=>h.IsStrIter s1.heap.objs.size ty z t i)) ->
   (∀ (A:Around) (i:Nat) (s:Shared) (Q:VSP) (E:VSP),s.heap.IsStrIter s1.heap.objs.size ty z t i->Q (.ref s1.heap.objs.size) s->wpAny (model X.prog X.w) A (pyIter (.ref s1.heap.objs.size)) Q E s) ->
   PIE X qp σ tg R (.ref s1.heap.objs.size) { s1 with heap:=s1.heap.push o }:=fun o ty h1 h2 h3 hfr W self=>by
  refine ⟨s1.heap.objs.size,[s1.heap.objs.size],_,_,H1,rfl,I1.kept (t':=s1.toks) fun b o e=>Heap.get?_push_of_some _ e,bV _ z t ty h3 W self,⟨o,Heap.get?_push_size _ hfr,h1,h2⟩,fun b hb=>?_,q⟩
  have e:b=s1.heap.objs.size:=by simpa using hb
  subst e
  exact I1.fpOk (zKC _) (I1.hok.fresh (zKC _))
 cases ha:z.cps.all (· < 128)
 ·exact wpAny_pyIter_wide ha (fin _ "str_iterator" rfl rfl (by decide) rfl (fun A hA=>Walks.strWide hA _ z t) fun _ _ _ _ _ st hQ=>wpAny_pyIter_striter_wide st hQ)
 ·exact wpAny_pyIter_ascii ha (fin _ "str_ascii_iterator" rfl rfl (by decide) rfl (fun A hA=>Walks.strAscii hA _ z t) fun _ _ _ _ _ st hQ=>wpAny_pyIter_striter_ascii st hQ)
theorem jU {A:Around} (h:A.handled=none):A.in1.handled=none:=h
theorem bN {ys:List Bool} {its:List Value} (r:zP (ys.map V.bl) its) {i:Nat} {v:Value} (h:its[i]?=some v):∃ b,ys[i]?=some b/\v=.bool b:=by
 have hl:=r.length
 rw [zJ3] at hl
 have hi:i < its.length:=(zJ5.mp h).1
 obtain ⟨u,e1,e2⟩:=r.get (i:=i) (x:=V.bl (ys[i]'(by omega))) (by rw [zJ9,zJ4 (by omega)];rfl)
 rw [h] at e1
 cases e1
 exact ⟨_,zJ4 (by omega),e2⟩
theorem cO (ys:List Bool):(List.range ys.length).all (fun i=>ys.getD i false)=ys.all id:=by
 have e:ys=(List.range ys.length).map (fun i=>ys.getD i false):=by
  apply List.ext_getElem (by simp)
  intro i h1 h2
  simp [zJ8,zJ4 h1]
 conv=>rhs;rw [e]
 rw [List.all_map];rfl
theorem vY (hc:X.calm=true):xK X (.builtin "all") (fun xs H Q=>∃ (p:Addr) (ys:List Bool),xs=[.ref p]/\SqL X.K H p (ys.map V.bl)/\Q (.bl (ys.all id)) H):=by
 intro qp s σ H xs us Q I r h
 obtain ⟨p,ys,rfl,hq,q⟩:=h
 obtain ⟨u,rfl,ru⟩:=r.one
 cases ru
 obtain ⟨its,rv,pl,hz⟩:=I.list hq
 have hl:=rv.length
 rw [zJ3] at hl
 refine call_all_walk (wpAny_pyIter_list pl.isList ?_)
 have hp:p < s.heap.objs.size:=by obtain ⟨o,ho,_⟩:=pl.isList;exact Heap.lt_size ho
 refine ⟨s.heap.objs.size,_,_,_,_,_,fun i=>ys.getD i false,rfl,Walks.list (jU (I.ok.hd hc)) _ p (zKU hp) its.toArray,⟨⟨_,Heap.get?_push_size _ rfl,rfl,rfl⟩,?_⟩,?_,fun h' tk kk=>?_⟩
 ·obtain ⟨o,ho,r⟩:=pl.isList
  exact ⟨o,Heap.get?_push_of_some _ ho,r⟩
 ·intro i v s' Q' E' hP hQ
  obtain ⟨b,e1,rfl⟩:=bN rv (by simpa using hP)
  refine wpAny_truthy_bool ?_
  have e2:ys.getD i false=b:=by rw [zJ8,e1];rfl
  rw [<- e2];exact hQ
 ·refine ⟨.bl (ys.all id),H,I.kept fun b o e=>kk b o ?_ (Heap.get?_push_of_some _ e),?_,q⟩
  ·intro z;have z':b=s.heap.objs.size:=by simpa using z
   exact zKU (Heap.lt_size e) z'
  ·have e3:its.toArray.size=ys.length:=by simp;omega
   rw [e3,cO];rfl
theorem xO:xK X (.builtin "isinstance") (fun xs H Q=>∃ x t T b,xs=[x,.ty T]/\sR X.K H x t/\W.kitOne X.K t (.type T)=some b/\Q (.bl b) H):=by
 intro qp s σ H xs us Q I r h
 obtain ⟨x,t,T,b,rfl,ty,e,q⟩:=h
 obtain ⟨u,v,rfl,ru,rv⟩:=r.two
 cases rv
 exact c9 I ru ty e fun tk=>⟨.bl b,H,I.tok tk,rfl,q⟩
def rSlS:V->Option Int->Option Int->Hp->VK->Prop:=fun x lo hi H Q=>∃ z,x=.str z/\z.length <= sizeLine/\Q (.str (Txt.slice z lo hi)) H
theorem mO:SlR X rSlS:=by
 intro qp s σ H x v vl vu lo hi sl Q I rx hs pl pu h
 obtain ⟨z,rfl,hz,q⟩:=h
 obtain ⟨t,rfl⟩:=(show ∃ t,v=Value.str z t from rx)
 refine ⟨"str",_,F.slot_str_getitem.lookup,typeIs_str _ _ _,?_⟩
 have key:∀ (l u:Option (Int × Tok)),vl=partValue l->vu=partValue u->lo=l.map (·.1)->hi=u.map (·.1) ->
   wpAny (model X.prog X.w) X.A (getItem (.str z t) (.ref sl)) (EP X qp σ Q) X.xe s:=by
  intro l u e1 e2 e3 e4
  subst e1 e2
  refine wpAny_getItem_str_slice (l:=l) (u:=u) (st:=none) hs rfl ?_
  unfold sliceMade
  have ee:Txt.slice z lo hi=if (((none:Option (Int × Tok)).map (·.1)).getD 1 == 1 && (slicePicked z l u none).length == z.length)=true then z else ⟨((slicePicked z l u none).filterMap (z.cps[·]?)).toArray⟩:=by
   rw [e3,e4];rfl
  split
  ·rename_i c
   rw [if_pos c] at ee
   rw [ee] at q
   exact ⟨.str z,H,I,⟨t,rfl⟩,q⟩
  ·rename_i c
   rw [if_neg c] at ee
   rw [ee] at q
   have hle:=Txt.slice_le z lo hi
   rw [ee] at hle
   exact ⟨zKE hle hz,.str _,H,I.tok _,⟨_,rfl⟩,q⟩
 cases pl with
 | none=>
  cases pu with
  | none=>exact key none none rfl rfl rfl rfl
  | int j tj=>exact key none (some (j,tj)) rfl rfl rfl rfl
 | int i ti=>
  cases pu with
  | none=>exact key (some (i,ti)) none rfl rfl rfl rfl
  | int j tj=>exact key (some (i,ti)) (some (j,tj)) rfl rfl rfl rfl
theorem vH:∀ {ys:List Str} {us:List Value},zP (ys.map V.str) us->StrsAre us ys
 | [],_,.nil=>.nil
 | y :: ys,_,.cons r t=>by
  obtain ⟨k,rfl⟩:=r
  exact .cons y k (vH t)
theorem u8:MtR X "str.join" (fun x xs H Q=>∃ (z:Str) (p:Addr) (ys:List Str),x=.str z/\xs=[.ref p]/\SqL X.K H p (ys.map V.str)/\(ys.map (·.length)).sum + ys.length * z.length <= 16777216/\Q (.str (Txt.join z ys)) H):=by
 intro qp s σ H x xs v us Q I rx rs h
 obtain ⟨z,p,ys,rfl,rfl,hq,hz,q⟩:=h
 obtain ⟨t,rfl⟩:=(show ∃ t,v=Value.str z t from rx)
 obtain ⟨u,rfl,ru⟩:=rs.one
 cases ru
 obtain ⟨its,rv,pl,hl⟩:=I.list hq
 exact join_list pl.isList (vH (by simpa using rv)) hz fun t' k=>⟨.str _,H,I.tok k,⟨t',rfl⟩,q⟩
theorem zAS:OpR X (binaryOp .FloorDiv) (rI (fun _ j=>0 < j/\j < 2 ^ 62) fun i j=>.int (i / j)):=opI fun i j _ _ _ _ _ hc q=>by
 have hp:(0:Int) < j:=hc.1
 have hq:j < 2 ^ 62:=hc.2
 have hlog:j.natAbs.log2 < 9000:=by
  have h1:j.natAbs ≠ 0:=by omega
  have h2:j.natAbs.log2 < 62:=(Nat.log2_lt h1).mpr (by omega)
  omega
 exact floordiv_int (by omega) (by rw [Int.fdiv_eq_ediv_of_nonneg i (by omega)];exact q) (.inl (PyProof.noPylong_of_log2 hlog))
end
structure yD (K:W.Frag) (mg:Str->Option Value) (x:Str) (st:Stmt) (ps:List Str):Prop where
 ex:∃ (f:Addr) (fd:FuncData),Fun K x x st f fd/\mg x=some (.ref f)/\wQ K fd ps []
structure Cal (P:Program) (w:World) (K:W.Frag) (mg:Str->Option Value) (base:Heap) (CX:CXT) (k:Nat) (x:Str) (ps:List Str) (sp:Sp):Prop where
 ex:∃ (f:Addr) (fd:FuncData),wW P w K mg base CX k f fd ps sp/\mg x=some (.ref f)/\W.keepIn K (.ref f)=true/\wQ K fd ps []
section
variable {P:Program} {w:World} {K:W.Frag} {mg:Str->Option Value} {base:Heap}
theorem yD.ok {x:Str} {st:Stmt} {N ps:List Str} {k:Nat} {sp:Sp} (G:yD K mg x st ps) (S:zO N ps (zF st)) (len:∀ vs H Q E,sp vs H Q E->vs.length=ps.length)
  (hbody:∀ (f:Addr) (cdv:Value) (A:Around) (outer:List Env) (s:Shared) (H:Hp) (vs:List V) (Q:VK) (E:XK),zX k (A.deeper (envOfC x (zF st) s.heap.objs.size f cdv))->sp vs H Q E ->
   ∃ t,PSs (tG CX0 P w K mg base N x (zF st) f cdv A outer s H E).nox (yM st) t/\t { nx:=fun _ H'=>Q .non H',rt:=Q } (start N vs) H):Cal P w K mg base CX0 (k + 1) x ps sp:=by
 obtain ⟨f,fd,F,hm,hb⟩:=G.ex
 exact ⟨f,fd,F.ok S len fun cdv A outer s H vs Q E hr h=>hbody f cdv A outer s H vs Q E hr h,hm,F.kp,hb⟩
theorem zER {h:Heap} {x:Str} {st:Stmt} {f:Addr} {oc:Value} {od an:Option Addr} {osl:Array (Option Value)} {kV doc pm cdv ct:Value} {ps:List Str} (X:K.In h) (G:h.Ns mainGlobals mg)
  (a:W.nsIn K mainGlobals x=some (some (.ref f)))
  (l:K.lookup f=some ⟨oc,od,.func (W.fnOf x x (xE st) (yM st) (zF st) .none kV doc pm an cdv ct),osl⟩) (c:W.codeIn K cdv x=true) (k:W.keepIn K (.ref f)=true)
  (hb:∀ (kV doc pm:Value) (an:Option Addr) (cdv ct:Value) (us:List Value),us.length=ps.length->bindArgs (W.fnOf x x (xE st) (yM st) (zF st) .none kV doc pm an cdv ct) ⟨us,[]⟩=pure (ps.zip us)):yD K mg x st ps:=
 ⟨f,_,tX l c k,W.mg_of X G a,(tX l c k).binds hb⟩
end
section
variable {X:Cx} {CX:CXT} {k:Nat} {ps:List Str} {sp:Sp} {E:XK} {x:Str} {p pos:Pos} {e:Expr} {es:List Expr} {t:TA}
theorem zK (C:Cal X.prog X.w X.K X.mg X.base CX0 k x ps sp) (hr:zX k X.A) (ha:PA X (e :: es) t) (hg:Gl X x:=by rfl)
  (hdb:(x == ("__debug__" : Str))=false:=by decide) (he:starEach (e :: es) X.env=(false,eval e X.env) :: starEach es X.env:=by rfl) (hpl:(backTo pos (starEach es X.env)).any (·.1)=false:=by rfl) :
  PE X (.Call (.Name x p) (e :: es) [] pos) (fS sp [] E0 t):=
 let ⟨_,_,F,hm,hk,hb⟩:=C.ex
 dA F hr hg hm hk hb .nil pH ha hdb he hpl
structure Blt (mg:Str->Option Value) (x:Str):Prop where
 no:mg x=none
theorem zM {id:String} {r:List V->Hp->VK->Prop} (hc:xK X (.builtin id) r) (b:Blt X.mg x) (hv:bootBuiltins x=some (.builtin id)) (ha:PA X (e :: es) t) (hg:Gl X x:=by rfl) (hn:x ≠ "__name__":=by decide) (hdb:(x == ("__debug__" : Str))=false:=by decide)
  (he:starEach (e :: es) X.env=(false,eval e X.env) :: starEach es X.env:=by rfl) (hpl:(backTo pos (starEach es X.env)).any (·.1)=false:=by rfl) :
  PE X (.Call (.Name x p) (e :: es) [] pos) (tCB r t):=zAJ hc hg b.no hv ha hn hdb he hpl
theorem pF {T:String} (b:Blt X.mg x) (hv:bootBuiltins x=some (.type T)) (hg:Gl X x:=by rfl) (hn:x ≠ "__name__":=by decide) (hd:(x == ("__debug__" : Str))=false:=by decide):PE X (.Name x pos) (tC (.ty T)):=
 zDP hg b.no hv rfl hn hd
end
def zD (S:List Addr) (H H':Hp):Prop:=∀ b o,b ∉ S->H b=some o->H' b=some o
theorem zD.refl {S:List Addr} (H:Hp):zD S H H:=fun _ _ _ h=>h
theorem zD.trans {S:List Addr} {H H1 H2:Hp} (a:zD S H H1) (b:zD S H1 H2):zD S H H2:=fun c o n h=>b c o n (a c o n h)
theorem zD.mono {S S':List Addr} {H H1:Hp} (a:zD S H H1) (h:∀ b ∈ S,b ∈ S'):zD S' H H1:=fun c o n q=>a c o (fun z=>n (h c z)) q
theorem zD.new {S:List Addr} {H:Hp} {p:Addr} {o:HO} (h:H p=none):zD S H (upd H p o):=fun b u _ q=>by rw [zI (zH q h)];exact q
theorem zD.at {S:List Addr} {H:Hp} {p:Addr} {o:HO} (h:p ∈ S):zD S H (upd H p o):=fun b u n q=>by
 rw [zI (fun z=>n (by rw [z];exact h))];exact q
theorem zD.none {S:List Addr} {H H':Hp} (k:zD S H H') {l:Addr} (n:l ∉ S) (h:H' l=Option.none):H l=Option.none:=by
 cases q:H l with
 | none=>rfl
 | some o=>rw [k l o n q] at h;cases h
theorem zBA {J:It} {xs:List Str} {ix:List Nat} {g:TG} {tt:TT} {te:TE} {n:Nat} {σ:St} {H1:Hp} {Q:VK} {acc:Addr} (hn:n < sizeLine) (item:Nat->V) (Pv:Nat->List V->St->Hp->Prop)
  (h0:Pv 0 [] (stC xs ix σ) (upd H1 acc (.lst [])))
  (hacc:∀ i ys τ H,Pv i ys τ H->H acc=some (.lst ys)/\ys.length <= i)
  (hgo:∀ i ys τ H,i < n->Pv i ys τ H->J.go i H) (hyl:∀ i ys τ H x H',i < n->Pv i ys τ H->J.yld i H x H'->H'=H/\x=item i) (hst:∀ ys τ H,Pv n ys τ H->J.stop n H)
  (hs:∀ i ys τ H,i < n->Pv i ys τ H->g (item i) τ H fun τ2 H2=>tt τ2 H2 fun b H3=>
   if b=true then te τ2 H3 fun y H4=>H4 acc=some (.lst ys)/\Pv (i + 1) (ys ++ [y]) τ2 (upd H4 acc (.lst (ys ++ [y]))) else Pv (i + 1) ys τ2 H3)
  (hd:∀ ys τ H,Pv n ys τ H->Q (.ref acc) H) :
  LCW J xs ix g tt te σ H1 acc Q:=by
 refine ⟨fun i m ys τ H=>m=n - i/\i <= n/\Pv i ys τ H,⟨n,by simp,zKD _,h0⟩,?_⟩
 rintro i m ys τ H ⟨rfl,hi,p⟩
 obtain ⟨a1,a2⟩:=hacc i ys τ H p
 refine ⟨a1,by omega,?_⟩
 by_cases hlt:i < n
 ·refine .inr ⟨hgo i ys τ H hlt p,Pv (i + 1),fun ys' τ' H' p'=>⟨n - (i + 1),by omega,rfl,hlt,p'⟩,fun x H' y=>?_⟩
  obtain ⟨rfl,rfl⟩:=hyl i ys τ H x H' hlt p y
  exact hs i ys τ _ hlt p
 ·have e:i=n:=by omega
  subst e
  exact .inl ⟨hst ys τ H p,hd ys τ H p⟩
theorem zA6 {xs:List Str} {ix:List Nat} {g:TG} {tt:TT} {te:TE} {lo:Int} {n:Nat} {σ:St} {H1:Hp} {Q:VK} {acc:Addr} (hn:n < sizeLine) (Pv:Nat->List V->St->Hp->Prop)
  (h0:Pv 0 [] (stC xs ix σ) (upd H1 acc (.lst [])))
  (hacc:∀ i ys τ H,Pv i ys τ H->H acc=some (.lst ys)/\ys.length <= i)
  (hs:∀ i ys τ H,i < n->Pv i ys τ H->g (.int (lo + i)) τ H fun τ2 H2=>tt τ2 H2 fun b H3=>
   if b=true then te τ2 H3 fun y H4=>H4 acc=some (.lst ys)/\Pv (i + 1) (ys ++ [y]) τ2 (upd H4 acc (.lst (ys ++ [y]))) else Pv (i + 1) ys τ2 H3)
  (hd:∀ ys τ H,Pv n ys τ H->Q (.ref acc) H) :
  LCW (Itr lo n) xs ix g tt te σ H1 acc Q:=
 zBA hn (fun i=>.int (lo + i)) Pv h0 hacc (fun i _ _ _ h _=>h) (fun i _ _ _ _ _ _ _ h=>h) (fun _ _ _ _=>zKC n) hs hd
theorem zHU {xs:List Str} {ix:List Nat} {g:TG} {tt:TT} {te:TE} {z:Str} {σ:St} {H1:Hp} {Q:VK} {acc:Addr} (hn:z.cps.size < sizeLine) (Pv:Nat->List V->St->Hp->Prop)
  (h0:Pv 0 [] (stC xs ix σ) (upd H1 acc (.lst [])))
  (hacc:∀ i ys τ H,Pv i ys τ H->H acc=some (.lst ys)/\ys.length <= i)
  (hs:∀ i ys τ H,i < z.cps.size->Pv i ys τ H->g (.str ⟨#[z.cps.getD i 0]⟩) τ H fun τ2 H2=>tt τ2 H2 fun b H3=>
   if b=true then te τ2 H3 fun y H4=>H4 acc=some (.lst ys)/\Pv (i + 1) (ys ++ [y]) τ2 (upd H4 acc (.lst (ys ++ [y]))) else Pv (i + 1) ys τ2 H3)
  (hd:∀ ys τ H,Pv z.cps.size ys τ H->Q (.ref acc) H) :
  LCW (Its z) xs ix g tt te σ H1 acc Q:=
 zBA hn (fun i=>.str ⟨#[z.cps.getD i 0]⟩) Pv h0 hacc (fun i _ _ _ h _=>h) (fun i _ _ _ x H' _ _ h=>⟨h.1,by
  obtain ⟨_,c,e,ex⟩:=h
  rw [ex,show z.cps.getD i 0=c by rw [zK2,e];rfl]⟩) (fun _ _ _ _=>rfl) hs hd
theorem dN {K:W.Frag} {a:Addr} {its:List V} {xs:List Str} {ix:List Nat} {g:TG} {tt:TT} {te:TE} {σ:St} {H1:Hp} {Q:VK} {acc:Addr} (hn:its.length < sizeLine) (Pv:Nat->List V->St->Hp->Prop)
  (h0:Pv 0 [] (stC xs ix σ) (upd H1 acc (.lst [])))
  (hacc:∀ i ys τ H,Pv i ys τ H->H acc=some (.lst ys)/\ys.length <= i/\SqL K H a its)
  (hs:∀ i ys τ H x,its[i]?=some x->Pv i ys τ H->g x τ H fun τ2 H2=>tt τ2 H2 fun b H3=>
   if b=true then te τ2 H3 fun y H4=>H4 acc=some (.lst ys)/\Pv (i + 1) (ys ++ [y]) τ2 (upd H4 acc (.lst (ys ++ [y]))) else Pv (i + 1) ys τ2 H3)
  (hd:∀ ys τ H,Pv its.length ys τ H->Q (.ref acc) H) :
  LCW (Itl K a) xs ix g tt te σ H1 acc Q:=by
 refine zBA hn (fun i=>its.getD i .non) Pv h0 (fun i ys τ H p=>⟨(hacc i ys τ H p).1,(hacc i ys τ H p).2.1⟩) (fun i ys τ H h p=>⟨its,its[i],(hacc i ys τ H p).2.2,by simp [h]⟩)
  (fun i ys τ H x H' h p y=>⟨y.1,?_⟩) (fun ys τ H p=>⟨its,(hacc _ ys τ H p).2.2,zKC _⟩) (fun i ys τ H h p=>hs i ys τ H _ (by simp [zJ8,h]) p) hd
 have e:=y.2 its (hacc i ys τ H p).2.2
 rw [zJ8,e];rfl
theorem iK {g:TG} {te:TE} {x:V} {τ:St} {H:Hp} {R:St->Hp->VK} {N:St->Hp->Prop} (h:g x τ H fun τ2 H2=>te τ2 H2 (R τ2 H2)) :
  g x τ H fun τ2 H2=>qU τ2 H2 fun b H3=>if b=true then te τ2 H3 (R τ2 H3) else N τ2 H3:=by
 have e:(fun τ2 H2=>qU τ2 H2 fun b H3=>if b=true then te τ2 H3 (R τ2 H3) else N τ2 H3)=fun τ2 H2=>te τ2 H2 (R τ2 H2):=by
  funext τ2 H2
  show (if true=true then te τ2 H2 (R τ2 H2) else N τ2 H2)=_
  rw [if_pos rfl]
 rw [e];exact h
theorem rK {xs:List Str} {ix:List Nat} {g:TG} {te:TE} {lo:Int} {n:Nat} {σ:St} {H1:Hp} {Q:VK} {acc:Addr} (hn:n < sizeLine) (Pv:Nat->List V->St->Hp->Prop)
  (h0:Pv 0 [] (stC xs ix σ) (upd H1 acc (.lst [])))
  (hacc:∀ i ys τ H,Pv i ys τ H->H acc=some (.lst ys)/\ys.length <= i)
  (hs:∀ i ys τ H,i < n->Pv i ys τ H->g (.int (lo + i)) τ H fun τ2 H2=>te τ2 H2 fun y H4=>H4 acc=some (.lst ys)/\Pv (i + 1) (ys ++ [y]) τ2 (upd H4 acc (.lst (ys ++ [y]))))
  (hd:∀ ys τ H,Pv n ys τ H->Q (.ref acc) H):LCW (Itr lo n) xs ix g qU te σ H1 acc Q:=
 zA6 hn Pv h0 hacc (fun i ys τ H hi p=>iK (R:=fun τ2 _=>fun y H4=>H4 acc=some (.lst ys)/\Pv (i + 1) (ys ++ [y]) τ2 (upd H4 acc (.lst (ys ++ [y])))) (hs i ys τ H hi p)) hd
theorem dM {xs:List Str} {ix:List Nat} {g:TG} {te:TE} {z:Str} {σ:St} {H1:Hp} {Q:VK} {acc:Addr} (hn:z.cps.size < sizeLine) (Pv:Nat->List V->St->Hp->Prop)
  (h0:Pv 0 [] (stC xs ix σ) (upd H1 acc (.lst [])))
  (hacc:∀ i ys τ H,Pv i ys τ H->H acc=some (.lst ys)/\ys.length <= i)
  (hs:∀ i ys τ H,i < z.cps.size->Pv i ys τ H->g (.str ⟨#[z.cps.getD i 0]⟩) τ H fun τ2 H2=>te τ2 H2 fun y H4=>H4 acc=some (.lst ys)/\Pv (i + 1) (ys ++ [y]) τ2 (upd H4 acc (.lst (ys ++ [y]))))
  (hd:∀ ys τ H,Pv z.cps.size ys τ H->Q (.ref acc) H):LCW (Its z) xs ix g qU te σ H1 acc Q:=
 zHU hn Pv h0 hacc (fun i ys τ H hi p=>iK (R:=fun τ2 _=>fun y H4=>H4 acc=some (.lst ys)/\Pv (i + 1) (ys ++ [y]) τ2 (upd H4 acc (.lst (ys ++ [y])))) (hs i ys τ H hi p)) hd
theorem vV {K:W.Frag} {a:Addr} {its:List V} {xs:List Str} {ix:List Nat} {g:TG} {te:TE} {σ:St} {H1:Hp} {Q:VK} {acc:Addr} (hn:its.length < sizeLine) (Pv:Nat->List V->St->Hp->Prop)
  (h0:Pv 0 [] (stC xs ix σ) (upd H1 acc (.lst [])))
  (hacc:∀ i ys τ H,Pv i ys τ H->H acc=some (.lst ys)/\ys.length <= i/\SqL K H a its)
  (hs:∀ i ys τ H x,its[i]?=some x->Pv i ys τ H->g x τ H fun τ2 H2=>te τ2 H2 fun y H4=>H4 acc=some (.lst ys)/\Pv (i + 1) (ys ++ [y]) τ2 (upd H4 acc (.lst (ys ++ [y]))))
  (hd:∀ ys τ H,Pv its.length ys τ H->Q (.ref acc) H):LCW (Itl K a) xs ix g qU te σ H1 acc Q:=
 dN hn Pv h0 hacc (fun i ys τ H x hi p=>iK (R:=fun τ2 _=>fun y H4=>H4 acc=some (.lst ys)/\Pv (i + 1) (ys ++ [y]) τ2 (upd H4 acc (.lst (ys ++ [y])))) (hs i ys τ H x hi p)) hd
section
variable {X:Cx}
def zI0:R2:=fun x y H Q=>∃ p xs i v,x=.ref p/\y=.int i/\H p=some (.lst xs)/\atI xs i=some v/\Q v H
theorem yA:IxR X zI0:=fun value slice qp s σ H x y v u Q I rx ry hz hs=>by
 obtain ⟨p,xs,i,z,a,b,c,d,e⟩:=hz
 exact zEM value slice qp s σ H x y v u Q I rx ry ⟨p,xs,i,z,a,b,.of c,d,e⟩ hs
def zIZ:R2:=fun x y H Q=>∃ p xs i v,x=.ref p/\y=.int i/\H p=some (.tup xs)/\atI xs i=some v/\Q v H
theorem tE:IxR X zIZ:=fun value slice qp s σ H x y v u Q I rx ry hz hs=>by
 obtain ⟨p,xs,i,z,a,b,c,d,e⟩:=hz
 exact zHZ value slice qp s σ H x y v u Q I rx ry ⟨p,xs,i,z,a,b,.of c,d,e⟩ hs
end
@[elab_as_elim] theorem lay {H:Hp} {p:Addr} {o:HO} {motive:Hp->Prop} (hp:H p=none) (h:∀ H',zD [] H H'->H' p=some o->motive H'):motive (upd H p o):=h _ (zD.new hp) zC
def mC (N:List Str) (sc:Scope) (xs:List Str) (ix:List Nat) (scope:Scope):Prop:=
 scope.kind=.function/\(∀ y ∈ scope.names,y.2 ≠ .cell)/\(∀ y ∈ scope.names,y.2=.local->scope.names.lookup y.1=some .local) /\
 (∀ y ∈ scope.names,y.2=.free->sc.names.lookup y.1=some .cell \/ sc.names.lookup y.1=some .free)/\(∀ x ∈ xs,scope.names.lookup x=some .local) /\
 (xs ++ ix.map (fun i=>N.getD i "")).Nodup/\(∀ i ∈ ix,i < N.length)/\(∀ i ∈ ix,scope.names.lookup (N.getD i "")=some .free)
instance {N:List Str} {sc:Scope} {xs:List Str} {ix:List Nat} {scope:Scope}:Decidable (mC N sc xs ix scope):=by unfold mC;infer_instance
theorem mC.at {X:Cx} {N:List Str} {sc:Scope} {xs:List Str} {ix:List Nat} {scope:Scope} (S:mC N sc xs ix scope) (hN:X.N=N) (hsc:X.env.scope=sc):xJ X xs ix scope:=by
 obtain ⟨a,b,c,d,e,f,g,h⟩:=S
 subst hN hsc
 exact ⟨a,b,c,fun n hn=>d (n,.free) hn rfl,e,f,g,h⟩
theorem wM {X:Cx} {N:List Str} {sc:Scope} {x:Str} {ix:List Nat} {scope:Scope} {elt iter:Expr} {ifs:List Expr} {px pos:Pos} {wi:TI} {tt:TT} {te:TE}
  (hS:mC N sc [x] ix scope) (hi:PI X (.Name x px) iter wi)
  (ht:∀ C fp s H,PTs (cxC X [x] ix scope C fp s H) ifs tt) (he:∀ C fp s H,PE (cxC X [x] ix scope C fp s H) elt te)
  (hN:X.N=N:=by rfl) (hsc:X.env.scope=sc:=by rfl) (hc:X.calm=true:=by rfl)
  (hs:∀ x,foldedSetIterable iter X.env x=pure x:=by intro _;rfl) :
  PE X (.ListComp elt [⟨.Name x px,iter,ifs,0⟩] scope pos) (tLC [x] ix wi (wL 0) tt te):=by
 have S:=hS.at (X:=X) hN hsc
 have hl:∀ C fp s H,(cxC X [x] ix scope C fp s H).env.scope.names.lookup x=some .local:=fun _ _ _ _=>lookup_relabel_local (S.own x (by simp))
 exact zI3 S hc hi (fun C fp s H=>z4 S.nd rfl (Or.inl (hl C fp s H)) (.inr (hl C fp s H))) ht he hs
theorem qM (x y:Str):(x ++ y).length=x.length + y.length:=by
 show (x.cps ++ y.cps).size=_
 simp [Str.length]
theorem zD.drop {S:List Addr} {H H':Hp} {a:Addr} (k:zD (a :: S) H H') (h:H a=Option.none):zD S H H':=fun b o n q=>k b o (fun z=>(List.mem_cons.mp z).elim (fun e=>by rw [e,h] at q;cases q) n) q
theorem kI {H:Hp} {p a:Addr} {o:HO} (h:upd H p o a=Option.none):H a=Option.none/\a ≠ p:=by
 by_cases e:a=p
 ·rw [e,zC] at h;cases h
 ·rw [zI e] at h;exact ⟨h,e⟩
theorem uR (ys:List Str):(Txt.join (Str.ofString "") ys).length=(ys.map (·.length)).sum:=by
 show (Builtin.Str.glued (Str.ofString "") ys).length=_
 rw [size_glued]
 show _ + (ys.length - 1) * 0=_
 omega
theorem kK:∀ (ys:List Str),(∀ z ∈ ys,z.length=1)->(ys.map (·.length)).sum=ys.length
 | [],_=>rfl
 | y :: ys,h=>by
  rw [List.map_cons,List.sum_cons,h y zKW,kK ys fun z hz=>h z (zKG _ hz),zKO]
  omega
end L2
namespace L2
theorem fK {α:Type} {xs:List α} {i:Int} (h0:0 <= i) (h1:i < xs.length):∃ v,atI xs i=some v/\xs[i.toNat]?=some v:=by
 have hl:i.toNat < xs.length:=by omega
 refine ⟨xs[i.toNat],?_,zJ4 hl⟩
 have e:=wV (zJ4 hl)
 rwa [Int.toNat_of_nonneg h0] at e
end L2
namespace L2
open PySem PySem.Spec PyProof.Rows
structure Glo (mg:Str->Option Value) (x:Str) (v:V):Prop where
 ex:∃ u,mg x=some u/\zV v u
theorem xU {X:Cx} {x:Str} {v:V} {pos:Pos} (g:Glo X.mg x v) (hg:Gl X x:=by rfl) (hd:(x == ("__debug__" : Str))=false:=by decide):PE X (.Name x pos) (tC v):=
 let ⟨_,hm,r⟩:=g.ex
 zDM hg hm r hd
inductive yK (K:W.Frag) (H:Hp):V->String->Prop where
 | non:yK K H .non "NoneType"
 | bl (x:Bool):yK K H (.bl x) "bool"
 | int (i:Int):yK K H (.int i) "int"
 | str (x:Str):yK K H (.str x) "str"
 | lst {a:Addr} {xs:List V} (e:H a=some (.lst xs)):yK K H (.ref a) "list"
 | tup {a:Addr} {xs:List V} (e:H a=some (.tup xs)):yK K H (.ref a) "tuple"
 | dK {a:Addr} {kvs:List (Key × V)} (e:H a=some (.dK kvs)):yK K H (.ref a) "dict"
theorem yK.ty {K:W.Frag} {H:Hp} {x:V} {T:String} (h:yK K H x T):sR K H x (.type T):=by
 cases h with
 | non=>exact .non
 | bl b=>exact .bl b
 | int i=>exact .int i
 | str z=>exact .str z
 | lst e=>exact .lst e
 | tup e=>exact .tup e
 | dK e=>exact .dK e
theorem yK.kit {K:W.Frag} {H:Hp} {x:V} {T:String} (h:yK K H x T):W.kitOne K (.type T) (.type "str")=some (T == "str")/\W.kitOne K (.type T) (.type "int")=some (T == "int" || T == "bool") /\
  W.kitOne K (.type T) (.type "bool")=some (T == "bool")/\W.kitOne K (.type T) (.type "list")=some (T == "list")/\W.kitOne K (.type T) (.type "tuple")=some (T == "tuple"):=by
 cases h <;> exact ⟨rfl,rfl,rfl,rfl,rfl⟩
theorem yK.keep {K:W.Frag} {H H':Hp} {x:V} {T:String} (h:yK K H x T) (k:zD [] H H'):yK K H' x T:=by
 cases h with
 | non=>exact .non
 | bl b=>exact .bl b
 | int i=>exact .int i
 | str z=>exact .str z
 | lst e=>exact .lst (k _ _ (by simp) e)
 | tup e=>exact .tup (k _ _ (by simp) e)
 | dK e=>exact .dK (k _ _ (by simp) e)
abbrev abc:Str:="abcdefghijklmnopqrstuvwxyz"
def xD (c:Nat):Bool:=!(Builtin.Str.occurrences abc ⟨#[c]⟩ 0 abc.length 1).isEmpty
def xV (z:Str):Bool:=decide (1 <= z.length) && decide (z.length <= 8) && z.cps.toList.all xD
def vJ:V->Bool
 | .str z=>xV z
 | _=>false
theorem uF {α:Type} (l:List α) (f:α->Bool):(l.map f).all id=l.all f:=by rw [List.all_map];rfl
end L2
namespace L2
open PySem
theorem yF:bootBuiltins "isinstance"=some (.builtin "isinstance"):=by decide +kernel
theorem yH:bootBuiltins "len"=some (.builtin "len"):=by decide +kernel
theorem rN:bootBuiltins "all"=some (.builtin "all"):=by decide +kernel
theorem wC:bootBuiltins "sorted"=some (.builtin "sorted"):=by decide +kernel
theorem fG:bootBuiltins "min"=some (.builtin "min"):=by decide +kernel
theorem zB6:bootBuiltins "max"=some (.builtin "max"):=by decide +kernel
theorem zB4:bootBuiltins "str"=some (.type "str"):=by decide +kernel
theorem zE6:bootBuiltins "bool"=some (.type "bool"):=by decide +kernel
theorem sP:bootBuiltins "list"=some (.type "list"):=by decide +kernel
theorem iA:bootBuiltins "tuple"=some (.type "tuple"):=by decide +kernel
theorem zE5:bootBuiltins "dict"=some (.type "dict"):=by decide +kernel
theorem zB5:bootBuiltins "set"=some (.type "set"):=by decide +kernel
theorem oM:bootBuiltins "ValueError"=some (.type "ValueError"):=by decide +kernel
end L2
namespace L2
theorem ifF {c:Bool} {A B:Prop} (h:c=false) (k:B):if c=true then A else B:=by rw [h];exact zEN k
theorem ifT {c:Bool} {A B:Prop} (h:c=true) (k:A):if c=true then A else B:=by rw [h];exact zJM k
end L2
namespace L2
open PySem PySem.Spec PyProof.Rows
theorem jW {x:V} (f:wP x=true):eqV x x=true:=by
 cases x with
 | non=>rfl
 | bl b=>cases b <;> rfl
 | int i=>show (i == i)=true;simp
 | str z=>show (z == z)=true;simp
 | _=>exact absurd (show false=true from f) zKV
section
variable {X:Cx}
def Rows (H:Hp) (p:Addr) (rows:List (List V)):Prop:=∃ ps:List Addr,H p=some (.lst (ps.map V.ref))/\Paired (fun q r=>H q=some (.tup r)) ps rows
theorem yQ {α β:Type} {F:α->β->Prop} {xs:List α} {ys:List β} (h:Paired F xs ys):∀ (i:Nat) (x:α),xs[i]?=some x->∃ y,ys[i]?=some y/\F x y:=by
 induction h with
 | nil=>intro i x h;simp at h
 | cons r _ ih=>
  intro i x h
  cases i with
  | zero=>simp at h;subst h;exact ⟨_,rfl,r⟩
  | succ i=>
   obtain ⟨y,h1,h2⟩:=ih i x (by simpa using h)
   exact ⟨y,by simpa using h1,h2⟩
theorem vI {α β:Type} {F:α->β->Prop} {a:α} {b:β} {xs:List α} {ys:List β} (h:Paired F xs ys) (r:F a b):Paired F (xs ++ [a]) (ys ++ [b]):=by
 induction h with
 | nil=>exact .cons r .nil
 | cons q _ ih=>exact .cons q ih
theorem zW {α β:Type} {F:α->β->Prop} {xs:List α} {ys:List β} (h:Paired F xs ys):xs.length=ys.length:=by
 induction h with
 | nil=>rfl
 | cons _ _ ih=>exact congrArg Nat.succ ih
theorem Rows.keep {H H':Hp} {p:Addr} {rows:List (List V)} (h:Rows H p rows) (k:zD [] H H'):Rows H' p rows:=by
 obtain ⟨ps,e,r⟩:=h
 exact ⟨ps,k _ _ (by simp) e,L2.Paired.mapP r fun q x z=>k _ _ (by simp) z⟩
theorem eQ:∀ {ps:List Addr} {us:List Value},zP (ps.map V.ref) us->us=ps.map Value.ref
 | [],_,.nil=>rfl
 | p :: ps,_,.cons r t=>by cases r;rw [List.map_cons,eQ t]
open MeetsSeq in
open AutoSeq1 (wpAny_loadPart') in
open MeetsSeq in
open AutoSeq1 (wpAny_loadPart') in
def rNeE (neg:Bool):R2:=fun x y H Q=>∃ a b xs,x=.ref a/\y=.ref b/\H a=some (.lst xs)/\H b=some (.lst [])/\a ≠ b/\Q (.bl (if neg then !xs.isEmpty else xs.isEmpty)) H
end
structure iF (K:W.Frag) (C:Addr) (m qual:Str) (st:Stmt) (ps:List Str):Prop where
 ex:∃ (f:Addr) (fd:FuncData),Fun K m qual st f fd/\zFC K C m f/\wQ K fd ps []
structure bO (P:Program) (w:World) (K:W.Frag) (mg:Str->Option Value) (base:Heap) (CX:CXT) (k:Nat) (C:Addr) (m:Str) (ps:List Str) (sp:Sp):Prop where
 ex:∃ (f:Addr) (fd:FuncData),wW P w K mg base CX k f fd ps sp/\zFC K C m f/\wQ K fd ps []
section
variable {P:Program} {w:World} {K:W.Frag} {mg:Str->Option Value} {base:Heap}
theorem iF.ok {C:Addr} {m qual:Str} {st:Stmt} {N ps:List Str} {k:Nat} {sp:Sp} (G:iF K C m qual st ps) (S:zO N ps (zF st)) (len:∀ vs H Q E,sp vs H Q E->vs.length=ps.length)
  (hbody:∀ (f:Addr) (cdv:Value) (A:Around) (outer:List Env) (s:Shared) (H:Hp) (vs:List V) (Q:VK) (E:XK),zX k (A.deeper (envOfC qual (zF st) s.heap.objs.size f cdv))->sp vs H Q E ->
   ∃ t,PSs (tG CX0 P w K mg base N qual (zF st) f cdv A outer s H E).nox (yM st) t/\t { nx:=fun _ H'=>Q .non H',rt:=Q } (start N vs) H):bO P w K mg base CX0 (k + 1) C m ps sp:=by
 obtain ⟨f,fd,F,hm,hb⟩:=G.ex
 exact ⟨f,fd,F.ok S len fun cdv A outer s H vs Q E hr h=>hbody f cdv A outer s H vs Q E hr h,hm,hb⟩
theorem zD8 {C:Addr} {x qual:Str} {st:Stmt} {f:Addr} {oc:Value} {od an:Option Addr} {osl:Array (Option Value)} {kV doc pm cdv ct:Value} {ps:List Str}
  (a:W.findIn K (.ref C) x=some (some (.ref f))) (i:W.isFn K (.ref f)=true)
  (l:K.lookup f=some ⟨oc,od,.func (W.fnOf x qual (xE st) (yM st) (zF st) .none kV doc pm an cdv ct),osl⟩) (c:W.codeIn K cdv qual=true) (k:W.keepIn K (.ref f)=true)
  (hb:∀ (kV doc pm:Value) (an:Option Addr) (cdv ct:Value) (us:List Value),us.length=ps.length->bindArgs (W.fnOf x qual (xE st) (yM st) (zF st) .none kV doc pm an cdv ct) ⟨us,[]⟩=pure (ps.zip us)):iF K C x qual st ps:=
 ⟨f,_,tX l c k,⟨a,i,k⟩,(tX l c k).binds hb⟩
end
section
variable {X:Cx} {k:Nat} {C:Addr} {ps:List Str} {sp:Sp} {m:Str} {apos pos:Pos} {o e:Expr} {es:List Expr} {ta:TE} {t:TA}
theorem eZ {pl:Sem Bool} (M:bO X.prog X.w X.K X.mg X.base CX0 k C m ps sp) (c:Cls X.K C) (hr:zX k X.A) (ho:PE X o ta)
  (ht:eval (.Call (.Attribute o m apos) [] [] pos) X.env=(do
   let ov <- eval o X.env
   standAt apos.atName
   let (f,first) <- holding [ov] (getMethod ov m pl)
   callWith pos f first (backTo pos (starEach [] X.env)) (backToKw pos (keywordEach [] X.env))):=by rfl) :
  PE X (.Call (.Attribute o m apos) [] [] pos) (zFI C m sp [] E0 ta vF):=
 let ⟨_,_,F,hm,hb⟩:=M.ex
 zAG ho c hm F hr hb .nil pH ht
end
section
variable {X:Cx}
theorem zAQ (hu:X.A.units < cLine):OpR X (compareOp .NotEq) (rNeE true):=by
 intro qp s σ H x y v u Q I rx ry h
 obtain ⟨a,b,xs,rfl,rfl,ha,hb,hne,q⟩:=h
 cases rx;cases ry
 obtain ⟨i1,r1,p1,_⟩:=I.list (.of ha)
 obtain ⟨i2,r2,p2,_⟩:=I.list (.of hb)
 cases r2
 cases xs with
 | nil=>
  cases r1
  exact SeqAt.RcNeAt.lists (e:=fun _=>true) p1.isList p2.isList rfl hu (fun j h1=>by simp at h1) _ _ _ _ ⟨.bl _,H,I,rfl,q⟩
 | cons x xs=>
  have l1:=r1.length
  refine SeqAt.RcNeAt.lists_lengths p1.isList p2.isList ?_ hu _ _ _ _ ⟨.bl true,H,I,rfl,q⟩
  rw [zKB,zKB,<- l1]
  rfl
end
structure zCL (P:Program) (w:World) (K:W.Frag) (mg:Str->Option Value) (base:Heap) (CX:CXT) (k:Nat) (C:Addr) (x:Str) (ps:List Str) (sp:Sp):Prop where
 ex:∃ (f:Addr) (fd:FuncData),wW P w K mg base CX k f fd ps sp/\Mk K C f/\mg x=some (.ref C)/\wQ K fd ps []
section
variable {X:Cx} {k:Nat} {C:Addr} {ps:List Str} {sp:Sp} {x:Str} {p pos:Pos} {e:Expr} {es:List Expr} {t:TA}
theorem zI1 (M:zCL X.prog X.w X.K X.mg X.base CX0 k C x ps sp) (hr:zX (k + 1) X.A) (ha:PA X (e :: es) t) (hg:Gl X x:=by rfl)
  (hdb:(x == ("__debug__" : Str))=false:=by decide) (he:starEach (e :: es) X.env=(false,eval e X.env) :: starEach es X.env:=by rfl) (hpl:(backTo pos (starEach es X.env)).any (·.1)=false:=by rfl) :
  PE X (.Call (.Name x p) (e :: es) [] pos) (zFJ C sp [] E0 t):=
 let ⟨_,_,F,M',hm,hb⟩:=M.ex
 zDL M' F hr hg hm hb .nil pH ha hdb he hpl
end
section
variable {prog:Program} {w:World} {A:Around} {E:VSP} {s:Shared}
theorem tZ {it t:Addr} {items:Array Value} (hne:t ≠ it):∀ (n i:Nat) (s:Shared) (Q:List Value->Shared->Prop),s.heap.IsListIter it t i->s.heap.IsList t items->i + n <= items.size ->
  (∀ h',h'.IsListIter it t (i + n)->Heap.SameBut it s.heap h'->Q ((items.toList.drop i).take n) { s with heap:=h' })->wpAny (model prog w) A (draw (.ref it) n) Q E s
 | 0,i,s,Q,hit,_,_,hQ=>by
  show wpAny _ _ (pure []) Q E s
  exact wpAny_pure (by simpa using hQ s.heap hit (Heap.SameBut.refl ..))
 | n + 1,i,s,Q,hit,ht,hle,hQ=>by
  have hlt:i < items.size:=by omega
  show wpAny _ _ (pyNext (.ref it) >>= _) Q E s
  refine wpAny_bind (wpAny_pyNext_list_item hit ht (x:=items[i]) (by simp [hlt]) fun h1 hit1 hs1=>?_)
  refine wpAny_bind (wpAny_holding (tZ hne n (i + 1) _ _ hit1 (ht.extBut hs1.extBut hne) (by omega) fun h2 hit2 hs2=>wpAny_pure ?_))
  have hd:items.toList.drop i=items[i] :: items.toList.drop (i + 1):=by simp [List.drop_eq_getElem_cons,hlt]
  have:=hQ h2 (by rw [show i + (n + 1)=i + 1 + n by omega];exact hit2) (hs1.trans hs2)
  rw [hd,List.take_succ_cons] at this
  exact this
theorem sC {t:Addr} {items:Array Value} {Q:List Value->Shared->Prop} (hh:A.handled=none) (ht:s.heap.IsList t items)
  (hQ:∀ h',Heap.ExtBut s.heap.objs.size s.heap h'->Q items.toList { s with heap:=h' }):wpAny (model prog w) A (unpackItems (.ref t) items.size none) Q E s:=by
 have hlt:t ≠ s.heap.objs.size:=by obtain ⟨o,ho,_⟩:=ht;exact zKU (Heap.lt_size ho)
 unfold unpackItems
 refine wpAny_bind ?_
 ·unfold notIterableAtAll
  refine wpAny_bind (wpAny_specialOf ht.typeIs slot_list_iter.lookup ?_)
  refine wpAny_pure ?_
  simp only [Bool.false_eq_true,if_false]
  refine wpAny_bind (wpAny_holding (wpAny_pyIter_list ht ?_))
  refine wpAny_bind (wpAny_holding (tZ hlt items.size 0 _ _ ⟨_,Heap.get?_push_size _ rfl,rfl,rfl⟩ (ht.push _) (by omega) fun h1 hit1 hs1=>?_))
  have hall:List.take items.size (List.drop 0 items.toList)=items.toList:=by
   rw [List.drop_zero];exact zKS (by simp)
  rw [hall]
  rw [if_neg (by simp)]
  have ht1:h1.IsList t items:=(ht.push _).extBut hs1.extBut hlt
  refine wpAny_bind (wpAny_holding (wpAny_pyNext_list_end hh hit1 ht1 (by simp) fun h2 he2=>?_))
  simp only [Option.isSome_none,Bool.false_eq_true,if_false]
  refine wpAny_pure (hQ h2 fun b o hb e=>he2 b o hb (hs1.extBut b o hb (Heap.get?_push_of_some _ e)))
theorem mE {t:Addr} {items:Array Value} {targets:List (Bool × (Value->Sem Unit))} {Q:Unit->Shared->Prop} (hh:A.handled=none) (ht:s.heap.IsList t items)
  (hn:targets.length=items.size) (hstar:targets.findIdx? (·.1)=none)
  (h:∀ h',Heap.ExtBut s.heap.objs.size s.heap h'->wpAny (model prog w) A (assignInOrder (targets.map (·.2)) items.toList) Q E { s with heap:=h' }) :
  wpAny (model prog w) A (unpack (.ref t) targets) Q E s:=by
 unfold unpack
 rw [hn,hstar]
 exact wpAny_bind (wpAny_holding (sC hh ht h))
end
section
variable {X:Cx} {pos:Pos}
def gLst (K:W.Frag) (n:Nat) (t:TGs):TG:=fun v σ H Q=>∃ a xs,v=.ref a/\SqL K H a xs/\xs.length=n/\t xs σ H Q
theorem zGZ {es:List Expr} {k:Nat} {t:TGs} {n:Nat} (hc:X.calm=true) (h:PGs X es t)
  (hn:(assignEach es X.env).length=n:=by rfl) (hst:(assignEach es X.env).findIdx? (·.1)=none:=by rfl):PG X (.Tuple es k pos) (gLst X.K n t):=by
 intro qp s σ H v u Q I r hw
 obtain ⟨a,xs,e1,hq,hl,hw⟩:=hw
 subst e1
 cases r
 obtain ⟨its,rv,ht,hz⟩:=I.list hq
 rw [assign_Tuple]
 refine wpAny_bind (wpAny_standAt (mE (I.ok.hd hc) ht.isList (by simp [hn,<- hl,rv.length]) hst fun h' hx=>?_))
 have I1:Inv X qp σ H { s with heap:=h' }:=I.kept (t':=s.toks) fun b o e=>hx b o (zKU (Heap.lt_size e)) e
 exact h qp _ σ H xs _ Q I1 (by simpa using rv) hw
theorem pZ {qp:LAO} {σ:St} {H:Hp} {s:Shared} {A:Around} {xs ys:List V} {i1 i2:List Value} (r1:zP xs i1) (r2:zP ys i2) (f1:xs.all wP=true) (f2:ys.all wP=true) (j:Nat) (g1:j < i1.toArray.size) (g2:j < i2.toArray.size) :
  SeqAt.EqAt A s i1.toArray[j] i2.toArray[j] (eqV (xs.getD j .non) (ys.getD j .non)):=by
 have l1:=r1.length
 have l2:=r2.length
 have g1':j < i1.length:=by simpa using g1
 have g2':j < i2.length:=by simpa using g2
 obtain ⟨u,eu,ru⟩:=r1.get (i:=j) (zJ4 (by omega:j < xs.length))
 obtain ⟨v,ev,rv⟩:=r2.get (i:=j) (zJ4 (by omega:j < ys.length))
 have eu':i1.toArray[j]=u:=by
  rw [zJ4 g1'] at eu
  simpa using zKA eu
 have ev':i2.toArray[j]=v:=by
  rw [zJ4 g2'] at ev
  simpa using zKA ev
 rw [eu',ev']
 have q1:xs.getD j .non=xs[j]'(by omega):=by rw [zJ8,zJ4 (by omega)];rfl
 have q2:ys.getD j .non=ys[j]'(by omega):=by rw [zJ8,zJ4 (by omega)];rfl
 show SeqAt.EqAt _ _ _ _ (eqV (xs.getD j .non) (ys.getD j .non))
 rw [q1,q2]
 exact gT ru rv (List.all_eq_true.mp f1 _ (List.getElem_mem _)) (List.all_eq_true.mp f2 _ (List.getElem_mem _))
end
theorem zEI {K:W.Frag} {α:Type} {a acc:Addr} {xs:List Str} {ix:List Nat} {g:TG} {tt:TT} {te:TE} {σ:St} {H1:Hp} {Q:VK} {ds:List α} (f mk:α->List V) (b:α->Bool) (own:α->Addr->List (Option V)) (rest:List (Option V)) (hn:ds.length <= 2000) (ha:H1 acc=none) (hS:Rows H1 a (ds.map f))
  (hσ:∃ vs:List (Option V),stC xs ix σ=vs ++ rest/\vs.length=xs.length) (hown:∀ d q,(own d q).length=xs.length)
  (hg:∀ (d:α) (q:Addr) (vs:List (Option V)) (H:Hp) (R:St->Hp->Prop),d ∈ ds->vs.length=xs.length->H q=some (.tup (f d))->R (own d q ++ rest) H->g (.ref q) (vs ++ rest) H R)
  (htt:∀ (d:α) (q:Addr) (H:Hp) (R:Bool->Hp->Prop),d ∈ ds->zD [acc] H1 H->H q=some (.tup (f d))->(∀ H',zD [] H H'->R (b d) H')->tt (own d q ++ rest) H R)
  (hte:∀ (d:α) (q:Addr) (H:Hp) (R:VK),d ∈ ds->H q=some (.tup (f d))->(∀ t H',zD [] H H'->H' t=some (.tup (mk d))->R (.ref t) H')->te (own d q ++ rest) H R)
  (q:∀ H',Rows H' acc ((ds.filter b).map mk)->zD [] H1 H'->Q (.ref acc) H'):LCW (Itl K a) xs ix g tt te σ H1 acc Q:=by
 obtain ⟨ps0,e0,r0⟩:=hS
 have aa:a ≠ acc:=zH e0 ha
 have l0:=zW r0
 rw [zJ3] at l0
 obtain ⟨vs0,hσ,hv0⟩:=hσ
 refine dN (K:=K) (a:=a) (its:=ps0.map V.ref) (by rw [zJ3,sizeLine_eq];omega)
  (fun i ys τ H2=>∃ (ps:List Addr) (vs:List (Option V)),τ=vs ++ rest/\vs.length=xs.length/\ys=ps.map V.ref/\Paired (fun q r=>H2 q=some (.tup r)) ps (((ds.take i).filter b).map mk)/\zD [acc] H1 H2/\H2 acc=some (.lst ys)) ?_ ?_ ?_ ?_
 ·exact ⟨[],vs0,hσ,hv0,rfl,.nil,zD.at (by simp),zC⟩
 ·rintro i ys τ H2 ⟨ps,vs,rfl,hv,rfl,hp,kp,h2⟩
  refine ⟨h2,?_,.of (kp _ _ (by simp [aa]) e0)⟩
  have:=zW hp
  rw [zJ3] at this
  have h3:=List.length_filter_le b (ds.take i)
  rw [zJ3,this]
  rw [zKM] at h3
  omega
 ·rintro i ys τ H2 x hx ⟨ps,vs,rfl,hv,rfl,hp,kp,h2⟩
  rw [zJ9] at hx
  cases ez:ps0[i]? with
  | none=>rw [ez] at hx;cases hx
  | some qa=>
  rw [ez] at hx
  have ey:V.ref qa=x:=zKA hx
  subst ey
  obtain ⟨r,er,hr⟩:=yQ r0 i qa ez
  rw [zJ9] at er
  cases ed:ds[i]? with
  | none=>rw [ed] at er;cases er
  | some d=>
  rw [ed] at er
  have er':f d=r:=zKA er
  subst er'
  have nqa:qa ≠ acc:=zH hr ha
  have hq2:=kp _ _ (by simp [nqa]) hr
  have hm:=zJ7 ed
  have eT:ds.take (i + 1)=ds.take i ++ [d]:=by rw [List.take_succ,ed];rfl
  refine hg d qa vs H2 _ hm hv hq2 (htt d qa H2 _ hm kp hq2 fun H4 k4=>?_)
  cases hb:b d with
  | false=>
   rw [if_neg zKV]
   refine ⟨ps,own d qa,rfl,hown d qa,rfl,?_,kp.trans (k4.mono (by simp)),k4 _ _ (by simp) h2⟩
   rw [eT,List.filter_append,List.filter_cons,hb]
   simpa using L2.Paired.mapP hp fun q r e=>k4 _ _ (by simp) e
  | true=>
   rw [if_pos rfl]
   refine hte d qa H4 _ hm (k4 _ _ (by simp) hq2) fun t H5 k45 h5t=>?_
   have k5:=k4.trans k45
   have h5:=k5 _ _ (by simp) h2
   have nt:acc ≠ t:=by intro z;rw [<- z,h5] at h5t;cases h5t
   refine ⟨h5,ps ++ [t],own d qa,rfl,hown d qa,by simp,?_,(kp.trans (k5.mono (by simp))).trans (zD.at (by simp)),zC⟩
   rw [eT,List.filter_append,List.filter_cons,hb]
   simp only [if_true,List.filter_nil,zKF,List.map_cons,List.map_nil]
   refine vI ?_ (by rw [zI (Ne.symm nt)];exact h5t)
   exact L2.Paired.mapP hp fun q r e=>by
    have e5:=k5 _ _ (by simp) e
    have nq:q ≠ acc:=zFY e5 h5 (by intro z;cases z)
    rw [zI nq];exact e5
 ·rintro ys τ H2 ⟨ps,vs,rfl,hv,rfl,hp,kp,h2⟩
  rw [zJ3,l0,zK3] at hp
  exact q H2 ⟨ps,h2,hp⟩ (kp.drop ha)
theorem zGN {a b:TS} {D:sU} {σ:St} {H:Hp} (M:St->Hp->Prop) (h2:∀ σ' H',M σ' H'->b D σ' H') (h1:∀ nx':St->Hp->Prop,(∀ σ' H',M σ' H'->nx' σ' H')->a { D with nx:=nx' } σ H):rZ a b D σ H:=h1 (b D) h2
theorem zD5 {i:Nat} {v:V} {σ:St} {H:Hp} {Q:St->Hp->Prop} (h:Q (σ.set i (some v)) H):wL i v σ H Q:=h
theorem zAV {a b:TS} {D:sU} {rt:VK} {bk ct:St->Hp->Prop} {σ:St} {H:Hp} (h:rZ a b D σ H):({ nx:=rZ a b D,rt:=rt,bk:=bk,ct:=ct }:sU).nx σ H:=h
theorem zD.under {S:List Addr} {H0 H1 H2:Hp} (k0:zD [] H0 H1) (k:zD S H1 H2) (hS:∀ b ∈ S,H0 b=Option.none):zD [] H0 H2:=fun b o _ h=>k b o (fun hb=>by rw [hS b hb] at h;cases h) (k0 b o (by simp) h)
def iJ (ob:Obj) (C:Addr) (dc:Option Addr):Prop:=ob.cls=.ref C/\ob.dict=dc
theorem nV (f:Array Value->Array Value) (o:Obj):(Obj.mapFields f o).dict=o.dict:=by
 unfold Obj.mapFields
 split <;> rfl
def Rec (h B:Heap) (e C:Addr) (dc:Option Addr) (fl:Value):Prop:=
 ∃ (ob:Obj) (cells:Array Value) (tb:Addr) (ot:Obj) (tcs:Array Value),h.get? e=some ob/\iJ ob C dc/\ob.data=.fields cells/\cells[2]?=some .none/\cells[1]?=some (.ref tb) /\
  B.get? tb=none/\tb ≠ e/\h.get? tb=some ot/\ot.data=.fields tcs/\tcs[3]?=some fl
def Fly (B:Heap) (l:List Env) (e C:Addr) (dc:Option Addr) (fl:Value) (h:Heap):Prop:=B.StaysIn h/\B.get? e=none/\h.FunFrames B l/\Rec h B e C dc fl
section
variable {dc:Option Addr} {M:Model} {A:Around} {E:VSP} {s:Shared} {B:Heap} {env:Env} {outer:List Env} {L e C:Addr} {Q:Unit->Shared->Prop}
theorem jJ {head:Value} {hadNext:Bool} {ob:Obj} {cells:Array Value} (fr:A.frames=some (env :: outer)) (ff:s.heap.FunFrames B (env :: outer)) (ef:env.frame=some L)
  (ge:s.heap.get? e=some ob) (gc:iJ ob C dc) (st:B.StaysIn s.heap) (ne:B.get? e=none) (gd:ob.data=.fields cells) (g2:cells[2]?=some .none)
  (k:∀ h',Fly B (env :: outer) e C dc (rawInt L) h'->s.heap.UpToSlots h'->Q () { s with heap:=h' }) :
  wpAny M A (do let a <- frameOf env;let pl <- entryPlaceOf L hadNext;let b <- EntryCells.newEntry head a .none (rawInt L) .none pl;setField (.ref e) 1 b) Q E s:=by
 have z2:2 < cells.size:=(Array.getElem?_eq_some_iff.mp g2).1
 have z1:1 < cells.size:=by omega
 have nfe:e ∉ (env :: outer).filterMap (·.frame):=fun hm=>by
  obtain ⟨_,o,ho,hnf⟩:=ff.mem hm
  rw [ge] at ho;cases ho;exact hnf cells gd
 refine wpAny_bind (wpAny_frameOf_fun fr ff ef fun g hg=>?_)
 refine wpAny_bind (wpAny_entryPlaceOf fun pl hpl=>?_)
 unfold EntryCells.newEntry newFields
 refine wpAny_bind (wpAny_newObj_type ?_ (hpl.sizeOk5 _ _ _ _ _))
 have e1:g.get? e=some ob:=(hg.2.1 e nfe).trans ge
 have st1:B.StaysIn g:=fun b o hb=>(hg.2.1 b fun hm=>by rw [(ff.mem hm).1] at hb;cases hb).trans (st b o hb)
 generalize htb:({ cls:=.type "traceback",dict:=none,data:=.fields ([head,.ref L,.none,rawInt L,.none] ++ (if pl.isEmpty then List.replicate 6 Value.none else pl)).toArray }:Obj)=tbo
 have tbd:∃ tcs:Array Value,tbo.data=.fields tcs/\tcs[3]?=some (rawInt L):=⟨_,by rw [<- htb],by first | (simp;done) | (rcases hpl with rfl | ⟨_,_,_,_,_,_,_,rfl⟩ <;> simp)⟩
 obtain ⟨tcs,td,t3⟩:=tbd
 have e2:=Heap.get?_push_of_some (h:=g) tbo e1
 have nte:g.objs.size ≠ e:=Nat.ne_of_gt (Heap.lt_size e1)
 have d3:=Obj.data_mapFields gd (·.setIfInBounds 1 (Value.ref g.objs.size))
 have e3:=Heap.get?_update_self (Obj.mapFields (·.setIfInBounds 1 (Value.ref g.objs.size))) e2 (Obj.isFreed_of_fields d3)
 have oth:∀ b o,b ≠ e->g.get? b=some o->((g.push tbo).update e (Obj.mapFields (·.setIfInBounds 1 (Value.ref g.objs.size)))).get? b=some o:=fun b o nb hb=>by
  rw [Heap.get?_update_other _ _ (Ne.symm nb)];exact Heap.get?_push_of_some _ hb
 have nrec:∀ b o,s.heap.get? b=some o->(∀ vs,o.data ≠ .fields vs)->b ≠ e:=fun b o hb hnf z=>by
  rw [z,ge] at hb;cases hb;exact hnf cells gd
 have up:s.heap.UpToSlots ((g.push tbo).update e (Obj.mapFields (·.setIfInBounds 1 (Value.ref g.objs.size)))):=fun b o hb hnf=>by
  obtain ⟨sl,q⟩:=hg.2.2 b o hb
  exact ⟨sl,oth b _ (nrec b o hb hnf) q⟩
 have tbg:((g.push tbo).update e (Obj.mapFields (·.setIfInBounds 1 (Value.ref g.objs.size)))).get? g.objs.size=some tbo:=by
  rw [Heap.get?_update_other _ _ (Ne.symm nte)]
  exact Heap.get?_push_size g (Obj.isFreed_of_fields td)
 refine wpAny_setField e2 gd z1 (k _ ⟨fun b o hb=>oth b o (fun z=>by rw [z,ne] at hb;cases hb) (st1 b o hb),ne,ff.of_keeps fun b o hb hnf=>?_,?_⟩ up)
 ·obtain ⟨sl,q⟩:=up b o hb hnf
  exact ⟨_,q,rfl⟩
 ·exact ⟨_,_,g.objs.size,tbo,tcs,e3,⟨(Obj.cls_mapFields _ _).trans gc.1,(nV _ _).trans gc.2⟩,d3,by rw [Array.getElem?_setIfInBounds_ne (by decide)];exact g2,by simp [z1],st1.fresh,nte,tbg,td,t3⟩
theorem zAX {ob:Obj} {cells:Array Value} (fr:A.frames=some (env :: outer)) (ff:s.heap.FunFrames B (env :: outer)) (ef:env.frame=some L)
  (ge:s.heap.get? e=some ob) (gc:iJ ob C dc) (st:B.StaysIn s.heap) (ne:B.get? e=none) (gd:ob.data=.fields cells) (g1:cells[1]?=some .none) (g2:cells[2]?=some .none)
  (k:∀ h',Fly B (env :: outer) e C dc (rawInt L) h'->s.heap.UpToSlots h'->Q () { s with heap:=h' }):wpAny M A (noteFrame (.ref e) env) Q E s:=by
 unfold noteFrame
 simp only [ef]
 refine wpAny_bind (wpAny_field ge gd g1 ?_)
 rw [if_neg (by decide)]
 exact jJ fr ff ef ge gc st ne gd g2 k
theorem dE (fr:A.frames=some (env :: outer)) (ef:env.frame=some L) (F:Fly B (env :: outer) e C dc .none s.heap)
  (k:∀ h',Fly B (env :: outer) e C dc (rawInt L) h'->s.heap.UpToSlots h'->Q () { s with heap:=h' }):wpAny M A (noteFrame (.ref e) env) Q E s:=by
 obtain ⟨st,ne,ff,ob,cells,tb,ot,tcs,ge,gc,gd,g2,g1,nb,nte,gt,td,t3⟩:=F
 unfold noteFrame
 simp only [ef]
 refine wpAny_bind (wpAny_field ge gd g1 ?_)
 rw [if_pos (by simp:(Value.ref tb != Value.none)=true)]
 refine wpAny_bind (wpAny_field gt td t3 ?_)
 rw [if_neg (by simp [rawInt]:¬ ((Value.none == rawInt L)=true))]
 refine wpAny_bind (wpAny_setField gt td (Array.getElem?_eq_some_iff.mp t3).1 ?_)
 have oth:∀ b,b ≠ tb->(s.heap.update tb (Obj.mapFields (·.setIfInBounds 3 Value.none))).get? b=s.heap.get? b:=fun b hb=>Heap.get?_update_other _ _ (Ne.symm hb)
 have nrec:∀ b o,s.heap.get? b=some o->(∀ vs,o.data ≠ .fields vs)->b ≠ tb:=fun b o hb hnf z=>by
  rw [z,gt] at hb;cases hb;exact hnf tcs td
 exact jJ fr (ff.of_keeps fun b o hb hnf=>⟨o,(oth b (nrec b o hb hnf)).trans hb,rfl⟩) ef ((oth e (Ne.symm nte)).trans ge) gc (fun b o hb=>(oth b fun z=>by rw [z,nb] at hb;cases hb).trans (st b o hb)) ne gd g2
  fun h' F' up=>k h' F' fun b o hb hnf=>up b o ((oth b (nrec b o hb hnf)).trans hb) hnf
theorem qN {l:List Env} {fl:Value} (F:Fly B l e C dc fl s.heap) (k:∀ h',Fly B l e C dc .none h'->s.heap.UpToSlots h'->Q () { s with heap:=h' }):wpAny M A (setFlight (.ref e) none) Q E s:=by
 obtain ⟨st,ne,ff,ob,cells,tb,ot,tcs,ge,gc,gd,g2,g1,nb,nte,gt,td,t3⟩:=F
 have z3:3 < tcs.size:=(Array.getElem?_eq_some_iff.mp t3).1
 have oth:∀ b,b ≠ tb->(s.heap.update tb (Obj.mapFields (·.setIfInBounds 3 ((none:Option Addr).elim Value.none fun f=>rawInt f)))).get? b=s.heap.get? b:=fun b hb=>Heap.get?_update_other _ _ (Ne.symm hb)
 have nrec:∀ b o,s.heap.get? b=some o->(∀ vs,o.data ≠ .fields vs)->b ≠ tb:=fun b o hb hnf z=>by
  rw [z,gt] at hb;cases hb;exact hnf tcs td
 unfold setFlight
 refine wpAny_bind (wpAny_field ge gd g1 ?_)
 rw [if_pos (by simp:(Value.ref tb != Value.none)=true)]
 refine wpAny_setField gt td z3 (k _ ⟨fun b o hb=>(oth b fun z=>by rw [z,nb] at hb;cases hb).trans (st b o hb),ne,ff.of_keeps fun b o hb hnf=>⟨o,(oth b (nrec b o hb hnf)).trans hb,rfl⟩,?_⟩ fun b o hb hnf=>⟨o.slots,(oth b (nrec b o hb hnf)).trans hb⟩)
 exact ⟨ob,cells,tb,_,_,(oth e (Ne.symm nte)).trans ge,gc,gd,g2,g1,nb,nte,Heap.get?_update_self _ gt (Obj.isFreed_of_fields (Obj.data_mapFields td _)),Obj.data_mapFields td _,by simp [z3]⟩
theorem Fly.down {l:List Env} {fl:Value} {h:Heap} (F:Fly B (env :: l) e C dc fl h):Fly B l e C dc fl h:=⟨F.1,F.2.1,F.2.2.1.2.2,F.2.2.2⟩
theorem zA5 (fr:A.frames=some (env :: outer)) (ef:env.frame=some L) (F:Fly B (env :: outer) e C dc .none s.heap)
  (k:∀ h',Fly B outer e C dc .none h'->s.heap.UpToSlots h'->Q () { s with heap:=h' }):wpAny M A (leaving env (.ref e)) Q E s:=by
 unfold leaving
 exact wpAny_bind (dE fr ef F fun g F1 u1=>qN F1 fun h' F2 u2=>k h' F2.down (u1.trans u2))
end
section
variable {P:Program} {w:World} {H H':Hp} {h h' B:Heap} {a:Addr} {o:HO}
theorem yG.there (x:yG P w H h a o):∃ u,h.get? a=some u:=by
 cases o with
 | lst xs=>obtain ⟨_,_,_,_,q⟩:=x;exact ⟨_,q⟩
 | tup xs=>obtain ⟨_,_,_,⟨u,q,_⟩⟩:=x;exact ⟨u,q⟩
 | dK kvs=>obtain ⟨_,_,_,_,u,_,_,q,_⟩:=x;exact ⟨u,q⟩
 | dT kvs=>obtain ⟨_,_,_,_,u,_,_,q,_⟩:=x;exact ⟨u,q⟩
 | set S n=>obtain ⟨u,_,_,_,q,_⟩:=x;exact ⟨u,q⟩
 | ins C dx fs=>obtain ⟨_,_,_,q,_⟩:=x;exact ⟨_,q⟩
 | own y=>exact x
 | xd fs=>obtain ⟨_,⟨u,_,_,q,_⟩,_⟩:=x;exact ⟨u,q⟩
 | rng lo hi=>obtain ⟨_,_,_,q⟩:=x;exact ⟨_,q⟩
 | frz ob u=>obtain ⟨q,_⟩:=x;exact ⟨_,q⟩
 | tbl ps=>exact ⟨_,(show h.get? a=some _ from x)⟩
 | met f y=>exact ⟨_,(show h.get? a=some _ from x)⟩
 | ext φ=>obtain ⟨_,q,_⟩:=x;exact q
theorem HOk.air (ok:HOk P w H h) (st:B.StaysIn h) (st':B.StaysIn h') (cov:∀ c,H c ≠ none->∃ u,B.get? c=some u):HOk P w H h':=fun b o e=>
 (ok b o e).stay (fun c u hc q=>by
  have hn:H c ≠ none:=by
   rcases hc with z | z
   ·rw [z,e];intro y;cases y
   ·rw [z];intro y;cases y
  obtain ⟨u',qB⟩:=cov c hn
  have:=st c u' qB
  rw [q] at this;cases this
  exact st' c u qB) (fun _ z=>z) fun _ _ z=>z
end
def CXE (P:Program) (w:World):CXT:=fun outer H s E e s'=>∃ (a C:Addr) (dc:Option Addr) (B:Heap) (H':Hp),e=.ref a/\s'.os=s.os/\AllBare s'.gens/\Un (frs outer) [] H H' s.heap s'.heap/\HOk P w H' s'.heap/\Fly B outer a C dc .none s'.heap /\
 (∀ c,H' c ≠ none->∃ u,B.get? c=some u)/\(∀ b o,s.heap.get? b=some o->H b=none->b ∉ frs outer->B.get? b=some o)/\(∀ b o,s.heap.get? b=some o->b ∉ frs outer->∃ o',B.get? b=some o')/\E (.ref C) dc H'
section
variable {P:Program} {w:World} {K:W.Frag} {mg:Str->Option Value} {base:Heap} {N:List Str} {qual:Str} {scope:Scope} {f:Addr} {cd:Value} {A:Around} {outer:List Env} {s0:Shared} {H0:Hp} {E:XK}
theorem zD3 {h:Heap} {bb:Heap} {l:List Env} {b:Addr} {o:Obj} (ff:h.FunFrames bb l) (hb:b ∈ frs l) (q:h.get? b=some o):∀ vs,o.data ≠ .fields vs:=by
 obtain ⟨_,o',q',n⟩:=ff.mem hb
 rw [q] at q';cases q'
 exact n
theorem m6:vE (CXE P w) (tG (CXE P w) P w K mg base N qual scope f cd A outer s0 H0 E) E:=by
 rintro qp σ H s e s' I ⟨a,C,dc,B,H',rfl,os,bare,u,hok,F,cov,cov2,cov3,hE⟩
 have old:∀ b o,s0.heap.get? b=some o->b ∉ frs outer->b ∉ frs (envOfC qual scope s0.heap.objs.size f cd :: outer):=fun b o q n z=>by
  rcases List.mem_cons.mp (show b ∈ s0.heap.objs.size :: frs outer from z) with y | y
  ·exact Nat.lt_irrefl _ (Nat.lt_of_lt_of_eq (Heap.lt_size q) y.symm)
  ·exact n y
 have nex:∀ b:Addr,b ∉ (tG (CXE P w) P w K mg base N qual scope f cd A outer s0 H0 E).ex:=fun b=>(show b ∉ ([]:List Addr) by simp)
 refine zA5 (C:=C) (B:=B) I.ok.frames rfl F fun h2 F2 up=>?_
 have cov2':∀ b o,s0.heap.get? b=some o->H0 b=none->b ∉ frs outer->B.get? b=some o:=fun b o q n nb=>
  cov2 b o (I.base.keep b o q n nb (nex b)) (I.base.free b o q n (nex b)) (old b o q nb)
 have cov3':∀ b o,s0.heap.get? b=some o->b ∉ frs outer->∃ o',B.get? b=some o':=fun b o q nb=>by
  obtain ⟨o',q'⟩:=I.base.there b o q (nex b)
  exact cov3 b o' q' (old b o q nb)
 have upf:∀ b o,b ∈ frs outer->s'.heap.get? b=some o->∃ sl,h2.get? b=some { o with slots:=sl }:=fun b o hb q=>up b o q (zD3 F.2.2.1 (zKG _ hb) q)
 refine ⟨a,C,dc,B,H',rfl,os.trans I.os,bare,⟨fun b o q n nb _=>F2.1 b o (cov2' b o q n nb),fun b o q n hb nx=>?_,fun b o q n nx=>?_,fun b o q nx=>?_,fun b xs q=>u.tups b xs (I.base.tups b xs q),fun b o v q=>u.frzs b o v (I.base.frzs b o v q),fun b ps q=>?_⟩,hok.air F.1 F2.1 cov,F2,cov,cov2',cov3',hE⟩
 ·obtain ⟨sl,q1⟩:=I.base.slot b o q n hb (nex b)
  obtain ⟨sl1,q2⟩:=u.slot b _ q1 (I.base.free b o q n (nex b)) (zKG _ hb) (by simp)
  obtain ⟨sl2,q3⟩:=upf b _ hb q2
  exact ⟨sl2,q3⟩
 ·obtain ⟨o',q1⟩:=I.base.there b o q (nex b)
  exact u.free b o' q1 (I.base.free b o q n (nex b)) (by simp)
 ·by_cases hb:b ∈ frs outer
  ·obtain ⟨o',q1⟩:=I.base.there b o q (nex b)
   obtain ⟨o2,q2⟩:=u.there b o' q1 (by simp)
   obtain ⟨sl2,q3⟩:=upf b _ hb q2
   exact ⟨_,q3⟩
  ·obtain ⟨o',q1⟩:=cov3' b o q hb
   exact ⟨o',F2.1 b o' q1⟩
 ·obtain ⟨m1,q1⟩:=I.base.tbls b ps q
  obtain ⟨m2,q2⟩:=u.tbls b _ q1
  exact ⟨m1 ++ m2,by rw [q2,Array.append_assoc]⟩
end
abbrev fH:List Value:=[.type "ValueError",.type "Exception",.type "BaseException",.type "object"]
section
variable {X:Cx} {E:XK} {x:Str} {C:Addr}
end
section
variable {P:Program} {w:World} {K:W.Frag} {mg:Str->Option Value} {base:Heap}
theorem Fun.okX {x qual:Str} {st:Stmt} {f:Addr} {fd:FuncData} {N ps:List Str} {k:Nat} {sp:Sp} (F:Fun K x qual st f fd) (S:zO N ps (zF st)) (len:∀ vs H Q E,sp vs H Q E->vs.length=ps.length)
  (hbody:∀ (cdv:Value) (A:Around) (outer:List Env) (s:Shared) (H:Hp) (vs:List V) (Q:VK) (E:XK),zX k (A.deeper (envOfC qual (zF st) s.heap.objs.size f cdv))->sp vs H Q E ->
   ∃ t,PSs (tG (CXE P w) P w K mg base N qual (zF st) f cdv A outer s H E) (yM st) t/\t { nx:=fun _ H'=>Q .non H',rt:=Q } (start N vs) H):wW P w K mg base (CXE P w) (k + 1) f fd ps sp:=by
 obtain ⟨oc,od,kV,doc,pm,an,cdv,ct,osl,rfl,lk,hcd⟩:=F.ex
 exact zF4 lk hcd S len fun A outer s H vs Q E hr hsp=>hbody cdv A outer s H vs Q E hr hsp
theorem yD.okX {x:Str} {st:Stmt} {N ps:List Str} {k:Nat} {sp:Sp} (G:yD K mg x st ps) (S:zO N ps (zF st)) (len:∀ vs H Q E,sp vs H Q E->vs.length=ps.length)
  (hbody:∀ (f:Addr) (cdv:Value) (A:Around) (outer:List Env) (s:Shared) (H:Hp) (vs:List V) (Q:VK) (E:XK),zX k (A.deeper (envOfC x (zF st) s.heap.objs.size f cdv))->sp vs H Q E ->
   ∃ t,PSs (tG (CXE P w) P w K mg base N x (zF st) f cdv A outer s H E) (yM st) t/\t { nx:=fun _ H'=>Q .non H',rt:=Q } (start N vs) H):Cal P w K mg base (CXE P w) (k + 1) x ps sp:=by
 obtain ⟨f,fd,F,hm,hb⟩:=G.ex
 exact ⟨f,fd,F.okX S len fun cdv A outer s H vs Q E hr h=>hbody f cdv A outer s H vs Q E hr h,hm,F.kp,hb⟩
end
section
variable {X:Cx} {k:Nat} {C:Addr} {ps:List Str} {sp:Sp} {E:XK} {x m:Str} {p pos apos:Pos} {o e:Expr} {es:List Expr} {ta:TE} {t:TA}
theorem qJ (D:Cal X.prog X.w X.K X.mg X.base (CXE X.prog X.w) k x ps sp) (hx:vE (CXE X.prog X.w) X E) (hr:zX k X.A) (ha:PA X (e :: es) t) (hg:Gl X x:=by rfl)
  (hdb:(x == ("__debug__" : Str))=false:=by decide) (he:starEach (e :: es) X.env=(false,eval e X.env) :: starEach es X.env:=by rfl) (hpl:(backTo pos (starEach es X.env)).any (·.1)=false:=by rfl) :
  PE X (.Call (.Name x p) (e :: es) [] pos) (fS sp [] E t):=
 let ⟨_,_,F,hm,hk,hb⟩:=D.ex
 dA F hr hg hm hk hb .nil hx ha hdb he hpl
end
def zF5 (C a:Addr) (dc:Option Addr):Heap->Prop:=fun h=>∃ (ob:Obj) (cells:Array Value),h.get? a=some ob/\iJ ob C dc/\ob.data=.fields cells/\cells[2]?=some .none
abbrev tY (C a:Addr) (dc:Option Addr):HO:=.ext (zF5 C a dc)
abbrev XB (X:Cx) (pn':LAO) (xe':VSP):Cx:={ X with pn:=pn',xe:=xe' }
abbrev XH (X:Cx) (pn':LAO) (a:Addr):Cx:={ X with pn:=pn',A:=X.A.mark (some (.ref a)),calm:=false,xe:=fun _ _=>False }
section
variable {X:Cx} {qp:LAO} {σ:St} {H:Hp} {s:Shared}
theorem Inv.toB (I:Inv X qp σ H s) (xe':VSP):Inv (XB X (X.pn ++ qp) xe') [] σ H s:=
 ⟨⟨I.ok.mod,I.ok.kind,I.ok.glob,I.ok.blt,I.ok.above,I.ok.inj,I.ok.has,I.ok.cab,I.ok.hd,I.ok.frames,I.ok.stk,I.ok.exf,I.ok.bs,I.ok.bsz,I.ok.noex,I.ok.exfs,I.ok.funs,I.ok.frf⟩,
  I.os,I.bare,I.base,I.loc,I.cell,I.free,I.freeC,fun p hp=>I.pin p (by simpa using hp),I.hok,I.len⟩
theorem Inv.ofB {pins':LAO} {xe':VSP} (I:Inv (XB X (X.pn ++ qp) xe') pins' σ H s):Inv X qp σ H s:=
 ⟨⟨I.ok.mod,I.ok.kind,I.ok.glob,I.ok.blt,I.ok.above,I.ok.inj,I.ok.has,I.ok.cab,I.ok.hd,I.ok.frames,I.ok.stk,I.ok.exf,I.ok.bs,I.ok.bsz,I.ok.noex,I.ok.exfs,I.ok.funs,I.ok.frf⟩,
  I.os,I.bare,I.base,I.loc,I.cell,I.free,I.freeC,fun p hp=>I.pin p (List.mem_append_left _ hp),I.hok,I.len⟩
theorem Inv.toH (I:Inv X qp σ H s) (a:Addr):Inv (XH X (X.pn ++ qp) a) [] σ H s:=
 ⟨⟨I.ok.mod,I.ok.kind,I.ok.glob,I.ok.blt,I.ok.above,I.ok.inj,I.ok.has,I.ok.cab,(fun z=>by cases z),I.ok.frames,I.ok.stk,I.ok.exf,I.ok.bs,I.ok.bsz,I.ok.noex,I.ok.exfs,I.ok.funs,I.ok.frf⟩,
  I.os,I.bare,I.base,I.loc,I.cell,I.free,I.freeC,fun p hp=>I.pin p (by simpa using hp),I.hok,I.len⟩
theorem Inv.ofH {a:Addr} {pins':LAO} {σ0:St} {H0:Hp} {s0:Shared} (I0:Inv X qp σ0 H0 s0) (I:Inv (XH X (X.pn ++ qp) a) pins' σ H s):Inv X qp σ H s:=
 ⟨I0.ok,I.os,I.bare,I.base,I.loc,I.cell,I.free,I.freeC,fun p hp=>I.pin p (List.mem_append_left _ hp),I.hok,I.len⟩
theorem Inv.lose {h':Heap} {m':Str->Option Value} (I:Inv X qp σ H s) (sb:Heap.SameBut X.env.locals s.heap h') (hn:h'.Ns X.env.locals m'):Inv X qp (List.replicate X.N.length none) H { s with heap:=h' }:=by
 have same:∀ b,b ≠ X.env.locals->h'.get? b=s.heap.get? b:=fun b hb=>sb.2 b hb
 have neL:∀ b o,X.s₀.heap.get? b=some o->b ≠ X.env.locals:=fun b o q=>zKU (zKP (Heap.lt_size q) I.ok.above)
 refine ⟨I.ok,I.os,I.bare,⟨fun b o q n nb nx=>(same b (neL b o q)).trans (I.base.keep b o q n nb nx),fun b o q n hb nx=>?_,I.base.free,fun b o q nx=>?_,I.base.tups,I.base.frzs,I.base.tbls⟩,⟨m',hn,fun i x v e1 e2 _=>?_⟩,fun x c e=>?_,I.free,I.freeC,fun p hp=>?_,fun b o q=>?_,by simp⟩
 ·obtain ⟨sl,z⟩:=I.base.slot b o q n hb nx
  exact ⟨sl,(same b (neL b o q)).trans z⟩
 ·obtain ⟨o',z⟩:=I.base.there b o q nx
  exact ⟨o',(same b (neL b o q)).trans z⟩
 ·rw [List.getElem?_replicate] at e2
  split at e2 <;> cases e2
 ·obtain ⟨v,o,q,d⟩:=I.cell x c e
  exact ⟨v,o,(same c (I.cne x c e)).trans q,d⟩
 ·obtain ⟨e,n,ne,nf,d⟩:=I.pin p hp
  exact ⟨(same _ ne).trans e,n,ne,nf,d⟩
 ·refine (I.hok b o q).stay (fun c u hc z=>(same c fun y=>?_).trans z) (fun _ z=>z) fun _ _ z=>z
  have f0:=I.free
  rcases hc with r | r
  ·rw [<- r,y,f0] at q;cases q
  ·rw [y,f0] at r;cases r
end
theorem Inv.caught {X:Cx} {qp:LAO} {σ:St} {H H':Hp} {s s1:Shared} {a C:Addr} {dc:Option Addr} {B h4:Heap} (I:Inv X qp σ H s) (os:s1.os=s.os) (bare:AllBare s1.gens) (u:Un (frs X.stack) [] H H' s.heap s1.heap)
  (hok:HOk X.prog X.w H' s1.heap) (F:Fly B X.stack a C dc .none s1.heap) (cov:∀ c,H' c ≠ none->∃ v,B.get? c=some v) (cov2:∀ b o,s.heap.get? b=some o->H b=none->b ∉ frs X.stack->B.get? b=some o)
  (cov3:∀ b o,s.heap.get? b=some o->b ∉ frs X.stack->∃ o',B.get? b=some o') (F4:Fly B X.stack a C dc .none h4) (up:s1.heap.UpToSlots h4) :
  H' a=none/\Inv X qp σ (upd H' a (tY C a dc)) { s1 with heap:=h4 }:=by
 have ha:H' a=none:=by
  cases q:H' a with
  | none=>rfl
  | some o=>
   obtain ⟨v,hv⟩:=cov a (by rw [q];intro z;cases z)
   rw [F.2.1] at hv;cases hv
 have nfr:a ∉ frs X.stack:=fun z=>by
  obtain ⟨ob,cells,tb,ot,tcs,q1,_,q2,_⟩:=F.2.2.2
  exact zD3 F.2.2.1 z q1 cells q2
 have new:∀ b o,s.heap.get? b=some o->b ≠ a:=fun b o q z=>by
  subst z
  obtain ⟨o',q'⟩:=cov3 b o q nfr
  rw [F.2.1] at q';cases q'
 have ne:∀ b o,H' b=some o->b ≠ a:=fun b o q z=>by rw [z,ha] at q;cases q
 have upf:∀ b o,b ∈ frs X.stack->s1.heap.get? b=some o->∃ sl,h4.get? b=some { o with slots:=sl }:=fun b o hb q=>up b o q (zD3 F.2.2.1 hb q)
 refine ⟨ha,I.call' (s':={ s1 with heap:=h4 }) (ch:=[]) os ⟨fun b o q n nb _=>F4.1 b o (cov2 b o q n nb),fun b o q n hb nx=>?_,fun b o q n nx=>?_,fun b o q nx=>?_,fun b xs q=>?_,fun b o v q=>?_,fun b ps q=>?_⟩ (fun b o q=>?_) bare fun b hb=>absurd hb zKX⟩
 ·obtain ⟨sl,q1⟩:=u.slot b o q n hb nx
  obtain ⟨sl2,q2⟩:=upf b _ hb q1
  exact ⟨sl2,q2⟩
 ·rw [zI (new b o q)];exact u.free b o q n nx
 ·by_cases hb:b ∈ frs X.stack
  ·obtain ⟨o',q1⟩:=u.there b o q nx
   obtain ⟨sl2,q2⟩:=upf b _ hb q1
   exact ⟨_,q2⟩
  ·obtain ⟨o',q1⟩:=cov3 b o q hb
   exact ⟨o',F4.1 b o' q1⟩
 ·have q1:=u.tups b xs q
  rw [zI (ne b _ q1)];exact q1
 ·have q1:=u.frzs b o v q
  rw [zI (ne b _ q1)];exact q1
 ·obtain ⟨more,q1⟩:=u.tbls b ps q
  exact ⟨more,by rw [zI (ne b _ q1)];exact q1⟩
 ·by_cases hb:b=a
  ·subst hb
   rw [zC] at q
   cases q
   obtain ⟨ob,cells,tb,ot,tcs,q1,q2,q3,q4,_⟩:=F4.2.2.2
   refine ⟨⟨ob,cells,q1,q2,q3,q4⟩,⟨ob,q1⟩,fun h1 h2 ⟨o1,c1,r1,r2,r3,r4⟩ k=>⟨o1,c1,k o1 r1,r2,r3,r4⟩⟩
  ·rw [zI hb] at q
   have z:=(hok.air F.1 F4.1 cov) b o q
   exact z.stay (fun c v _ z=>z) (fun c z=>by rw [zI (ne c _ z)];exact z) fun c xs z=>by rw [zI (ne c _ z)];exact z
end L2
namespace L2
open PySem PySem.Spec PyProof.Rows PySem.W
structure sT (K:Frag) (C:Addr):Prop where
 ga:findIn K (.ref C) "__getattribute__"=some (some (.builtin "BaseException.__getattribute__"))
 gt:findIn K (.ref C) "__getattr__"=some none
 ca:findIn K (.ref C) "__class__"=some (some (.builtin "object.__class__"))
 sg:specialIn K (.builtin "object.__class__") "__get__"=some (some (.builtin "getset_descriptor.__get__"))
 tk:takesIn K (.builtin "object.__class__")=some true
 mo:mroIn K C (.type "object")=some true
 hd:hasDictIn K C=true
 be:subIn K (.ref C) (.type "BaseException")=some true
section
variable {prog:Program} {w:World} {A:Around} {E:VSP} {K:Frag} {x C:Addr} {ox:Obj} {od:Option Obj} {h:Heap} {g:Array GenState} {d:Drawn} {t:Nat} {os:OsState}
theorem zBO (k:sT K C):findObj K C od "__class__"=some (.bind (.builtin "getset_descriptor.__get__") (.builtin "object.__class__")):=by
 obtain ⟨cd,hc,_⟩:=any_some k.hd
 unfold findObj
 rw [hc,Option.bind_some,k.ca,Option.bind_some]
 simp [k.sg,k.tk]
theorem qC {tok:Tok} {Q:Fin->Shared->Prop} (k:sT K C) (X:K.In h) (I:InstAt h x ox C od) (hq:Q (.done (.ret (.ref C))) ⟨h,g,d,t,os⟩) :
  wpAny (model prog w) A (Builtin.«object.__getattribute__» ⟨[.ref x,.str "__class__" tok],[]⟩) Q E ⟨h,g,d,t,os⟩:=by
 have L0:=I.type (M:=model prog w)
 have L1:=looks_find (M:=model prog w) X I (zBO k)
 unfold Builtin.«object.__getattribute__»
 repeat (any_goals (first | assumption | with_reducible refine L0.at ?_ | with_reducible refine L1.at ?_ | wp_step))
 exact class_get (s:=⟨h,g,d,t,os⟩) X I k.mo (wpAny_pure hq)
theorem sN {M:Model} {vJ:Value} {Q:Unit->Shared->Prop} (k:sT K C) (X:K.In h) (I:InstAt h x ox C od) (hq:Q () ⟨h,g,d,t,os⟩) :
  wpAny M A (checkBuiltinCall "BaseException.__getattribute__" ⟨[.ref x,vJ],[]⟩) Q E ⟨h,g,d,t,os⟩:=by
 have kd:builtinKind "BaseException.__getattribute__"=some .slot:=by decide +kernel
 have sp:splitId "BaseException.__getattribute__"=some ("BaseException","__getattribute__"):=by decide +kernel
 have LI:Looks M h (isInstance (.ref x) (.type "BaseException")) true:=(I.type (M:=M)).andThen (looks_subIn X k.be)
 have ar:=F.args_bexc_ga (.ref x) vJ
 simp only [checkBuiltinCall,kd,sp]
 refine wpAny_bind (LI.at ?_)
 repeat (any_goals (first | assumption | wp_step))
theorem p8 {tok:Tok} {R:Result->Shared->Prop} (k:sT K C) (X:K.In h) (I:InstAt h x ox C od) (hq:R (.ok (.ret (.ref C))) ⟨h,g,d,t,os⟩) :
  codeAny (model prog w) A (.call (.builtin "BaseException.__getattribute__") ⟨[.ref x,.str "__class__" tok],[]⟩) R ⟨h,g,d,t,os⟩:=
 codeAny_call_builtin F.attrBase_ValueError.ga.plain F.entry_bexc_ga (sN k X I (qC k X I hq))
theorem lN {tok:Tok} {Q:VSP} (k:sT K C) (X:K.In h) (I:InstAt h x ox C od) (hq:Q (.ref C) ⟨h,g,d,t,os⟩) :
  wpAny (model prog w) A (getAttrBy (.ref x) (.str "__class__" tok) false) Q E ⟨h,g,d,t,os⟩:=by
 have f3:=F.attrBase_ValueError.ga.bind (.ref x)
 have x2:(Value.builtin "BaseException.__getattribute__" == Value.builtin "object.__getattribute__")=false:=by decide +kernel
 have x1:(onTheHeap (Value.ref C) && Value.builtin "BaseException.__getattribute__" == Value.builtin "object.__getattribute__")=false:=by rw [x2];rfl
 have L0:=I.type (M:=model prog w)
 have L1:=looks_findIn (M:=model prog w) X k.ga
 have L2:=looks_findIn (M:=model prog w) X k.gt
 repeat (any_goals (first | assumption | with_reducible refine L0.at ?_ | with_reducible refine L1.at ?_ | with_reducible refine L2.at ?_ | wp_step))
 refine p8 k X I ?_
 repeat (any_goals (first | assumption | wp_step))
theorem p9 {Q:Option Value->Shared->Prop} (k:sT K C) (X:K.In h) (I:InstAt h x ox C od) (hq:Q (some (.ref C)) ⟨h,g,d,t + 1,os⟩) :
  wpAny (model prog w) A (getAttr? (.ref x) "__class__") Q E ⟨h,g,d,t,os⟩:=by
 unfold getAttr? getAttrBy?
 repeat (any_goals (first | assumption | with_reducible apply lN k X I | wp_step))
theorem pR (k:sT K C):KitX K (.ref x) (.ref C) (fun h=>∃ ox od,InstAt h x ox C od) where
 ty:=fun _ _ _ ⟨_,_,I⟩=>I.type
 it:=fun _ _ X _=>by
  obtain ⟨cd,hc,_⟩:=any_some k.hd
  unfold clsIn at hc
  split at hc
  ·rename_i c1 d1 cd1 sl1 hk
   intro A' Q' E' s' kk q
   unfold isType loadHead
   exact wpAny_bind (wpAny_loadPart (kk _ _ (X _ _ hk)) (wpAny_pure q))
  ·cases hc
 ne:=fun h tp dd its n sl X htp=>by
  obtain ⟨cd,hc,_⟩:=any_some k.hd
  refine Bool.eq_false_iff.mpr fun q=>?_
  have e1:C=tp:=Value.ref.inj (beq_iff_eq.mp q)
  subst e1
  unfold clsIn at hc
  split at hc
  ·rename_i c1 d1 cd1 sl1 hk
   cases ((X _ _ hk).symm.trans htp)
  ·cases hc
 ca:=fun {_ _ _ _ _ s} X ⟨ox,od,I⟩ hq=>by
  obtain ⟨h,g,d,t,os⟩:=s
  exact p9 k X I hq
end
section
variable {X:Cx}
def zFD (H:Hp):Option Addr->Prop
 | none=>True
 | some dx=>H dx ≠ none
theorem pX {C a:Addr} {h:Heap} {dc:Option Addr} (p:zF5 C a dc h) (hd:∀ dx,dc=some dx->∃ o,h.get? dx=some o):∃ ox od,InstAt h a ox C od:=by
 obtain ⟨ob,cells,q1,⟨q2,q3⟩,q4,_⟩:=p
 have nc:notCls ob=true:=by unfold notCls;rw [q4]
 cases dc with
 | none=>exact ⟨ob,none,q1,q2,nc,by rw [q3];trivial⟩
 | some dx=>
  obtain ⟨o,ho⟩:=hd dx rfl
  exact ⟨ob,some o,q1,q2,nc,by rw [q3];exact ho⟩
theorem Inv.dcIn {qp:LAO} {σ:St} {H:Hp} {s:Shared} {dc:Option Addr} (I:Inv X qp σ H s) (h:zFD H dc):∀ dx,dc=some dx->∃ o,s.heap.get? dx=some o:=by
 rintro dx rfl
 cases q:H dx with
 | none=>exact absurd q h
 | some o=>exact (I.hok dx o q).there
def oU (K:Frag) (c:V) (cv:Value):List V->Hp->VK->Prop:=fun xs H Q=>∃ a C dc b,xs=[.ref a,c]/\H a=some (tY C a dc)/\zFD H dc/\sT K C/\kitOne K (.ref C) cv=some b/\Q (.bl b) H
theorem bM {D:Addr}:xK X (.builtin "isinstance") (oU X.K (.ref D) (.ref D)):=by
 intro qp s σ H xs us Q I r h
 obtain ⟨a,C,dc,b,rfl,ha,hd,k,e,q⟩:=h
 obtain ⟨u,v,rfl,ru,rv⟩:=r.two
 cases ru;cases rv
 obtain ⟨p,_,_⟩:=(show yG X.prog X.w H s.heap a (tY C a dc) from I.hok a _ ha)
 exact kia_one (pR k) I.kIn (pX p (I.dcIn hd)) e (fun z=>nomatch z) fun tk=>⟨.bl b,H,I.tok tk,rfl,q⟩
theorem fD {T:String}:xK X (.builtin "isinstance") (oU X.K (.ty T) (.type T)):=by
 intro qp s σ H xs us Q I r h
 obtain ⟨a,C,dc,b,rfl,ha,hd,k,e,q⟩:=h
 obtain ⟨u,v,rfl,ru,rv⟩:=r.two
 cases ru;cases rv
 obtain ⟨p,_,_⟩:=(show yG X.prog X.w H s.heap a (tY C a dc) from I.hok a _ ha)
 exact kia_one (pR k) I.kIn (pX p (I.dcIn hd)) e (fun z=>nomatch z) fun tk=>⟨.bl b,H,I.tok tk,rfl,q⟩
end
end L2
namespace L2
open PySem PySem.Spec PyProof.Rows
section
variable {prog:Program} {w:World} {A:Around} {E:VSP} {s:Shared}
end
section
variable {X:Cx} {tg:Expr} {hx:Addr}
end
section
variable {X:Cx} {es es1:List Expr} {t t1:TA}
theorem swL {es:List Expr} {p:Pos} {t:Option Expr} {n:Nat} {env:Env}:swapsWith (.List es p) t n env=pure false:=rfl
inductive CV:Expr->V->Prop
 | str {z:Str} {j p}:CV (.Constant (.str z) j p) (.str z)
 | int {z:Int} {j p}:CV (.Constant (.int z) j p) (.int z)
 | bl {z:Bool} {j p}:CV (.Constant (.bool z) j p) (.bl z)
 | non {j p}:CV (.Constant .none j p) .non
inductive CVs:List Expr->List V->Prop
 | nil:CVs [] []
 | cons {e:Expr} {v:V} {es:List Expr} {vs:List V} (h:CV e v) (t:CVs es vs):CVs (e :: es) (v :: vs)
def zIE (vs:List V) (t:TA):TA:=fun σ H Q=>t σ H (fun xs H1=>Q (vs ++ xs) H1)
theorem zDR (h:PA X es t) {cs:List Expr} {vs:List V} (h0:CVs cs vs):PA X (cs ++ es) (zIE vs t):=by
 induction h0 with
 | nil=>exact h
 | cons c _ ih=>
  cases c with
  | str=>exact zA zS ih
  | int=>exact zA zG ih
  | bl=>exact zA pG ih
  | non=>exact zA hV ih
theorem eW {i:Nat} {x:Str} {pos pos' lp:Pos} (hN:X.N.Nodup) (hi:X.N[i]?=some x) (hx:Loc X.env.scope x) (hf:X.fn x=true \/ X.env.scope.names.lookup x=some .local) (h:PA X es t) :
  PS X (.Assign [.Name x pos'] (.List es lp) pos) (r8 (cC t) (wL i)):=zL hN hi hx (yP h) swL hf
def zIO (vs:List V):TA:=fun _ H Q=>Q vs H
theorem zAN {vs:List V} (h:CVs es vs):PA X es (zIO vs):=by
 have z:=zDR (X:=X) zB h
 have e:zIE vs vF=zIO vs:=by
  funext σ H Q
  show Q (vs ++ []) H=Q vs H
  rw [List.append_nil]
 rwa [List.append_nil,e] at z
end
section
variable {X:Cx}
end
end L2
namespace L2
open PySem PySem.Spec PyProof.Rows PySem.Builtin.Str
end L2
namespace PySem.SeqAt
open AutoSeq1 (wpAny_loadPart')
open MeetsSeq
end PySem.SeqAt
namespace L2
open PySem PySem.Spec PyProof.Rows
section
variable {X:Cx}
end
end L2
namespace HT
open PySem PySem.Spec PyProof.Rows L2
section
variable {prog:Program} {w:World} {A:Around} {E:Value->Shared->Prop} {s:Shared}
end
end HT
namespace L2
open PySem PySem.Spec PyProof.Rows
section
variable {X:Cx} {e:Expr} {te:TE} {pos p1 p2 p3:Pos} {j1:Nat}
def zIM (K:W.Frag) (te:TE):TE:=fun σ H Q=>te σ H fun x H1=>∃ a xs,x=.ref a/\SqL K H1 a xs/\∀ p,H1 p=none->Q (.ref p) (upd H1 p (.lst xs.reverse))
theorem zGV {xs:List V} {us:List Value} (r:zP xs us):zP xs.reverse us.reverse:=by
 induction r with
 | nil=>exact .nil
 | cons r _ ih=>rw [List.reverse_cons,List.reverse_cons];exact ih.append (.cons r .nil)
theorem zI2:PE X (.UnaryOp .USub (.Constant (.int 1) j1 p1) p3) (fun _ H Q=>Q (.int (-1)) H):=by
 intro qp s σ H Q I h
 exact (zAF iN zG) qp s σ H Q I ⟨1,rfl,h⟩
theorem zDQ (he:PE X e te):PE X (.Subscript e (.Slice none none (some (.UnaryOp .USub (.Constant (.int 1) j1 p1) p3)) p2) pos) (zIM X.K te):=by
 intro qp s σ H Q I h
 refine Subscript_ (thn (he qp s σ H _ I h) fun v s1 hz56=>?_)
 obtain ⟨x,H1,I1,r1,q1⟩:=hz56
 refine wpAny_Slice ?_
 rw [evalPart_none]
 refine wpAny_pure (wpAny_pure ?_)
 refine thn ((yL (zI2 (X:=X) (j1:=j1) (p1:=p1) (p3:=p3))) qp s1 σ H1 (fun o H2=>o=some (-1)/\H2=H1) I1 ⟨-1,rfl,rfl,rfl⟩) fun vs s3 hz57=>?_
 obtain ⟨o,H3,I3,ps,e1,e2⟩:=hz57
 subst e1 e2
 obtain ⟨a,xs,rfl,hx,q⟩:=q1
 cases r1
 have I4:Inv X qp σ H3 { s3 with heap:=s3.heap.push { cls:=.type "slice",data:=.fields #[.none,.none,vs] } }:=I3.kept (t':=s3.toks) fun b ob q=>Heap.get?_push_of_some _ q
 obtain ⟨its,r,ht,hz⟩:=I4.list hx
 have hlen:=r.length
 show wpAny (model X.prog X.w) X.A (subscriptTail e (.Slice none none (some (.UnaryOp .USub (.Constant (.int 1) j1 p1) p3)) p2) (.ref a) (.ref s3.heap.objs.size)) (EP X qp σ Q) X.xe { s3 with heap:=s3.heap.push { cls:=.type "slice",data:=.fields #[.none,.none,vs] } }
 refine tail_any (ops:=[.ref a,.ref s3.heap.objs.size]) ht.isList.typeIs slot_list_getitem.lookup ?_ (by with_unfolding_all rfl)
 refine wpAny_getItem_list_slice ht.isList (Heap.IsSliceOf.new ..) .none .none ps (by simp) ?_ (by rw [zKB] <;> omega)
 rw [W.krv_pick]
 have I5:=I4.laid (t':=s3.toks) (o:=.lst xs.reverse) (fun b ob q=>Heap.get?_push_of_some { cls:=.type "list",data:=.seq its.reverse.toArray } q) (zKC _) ?_
 ·exact ⟨.ref _,_,I5,rfl,q _ (I4.hok.fresh (zKC _))⟩
 ·exact ⟨by rw [List.length_reverse];exact hz,_,0,zGV r,Heap.get?_push_size _ rfl⟩
end
end L2
namespace L2
open PySem PySem.Spec PyProof.Rows PySem.W
def evK {α:Type} (lt:Nat->Nat->Bool):KasT α->α
 | .ret a=>a
 | .ask i j k=>evK lt (k (lt i j))
theorem uT {α β:Type} (lt:Nat->Nat->Bool) (f:α->KasT β) (t:KasT α):evK lt (t.bind f)=evK lt (f (evK lt t)):=by
 induction t with
 | ret a=>rfl
 | ask i j k ih=>exact ih (lt i j)
structure LtO (lt:Nat->Nat->Bool):Prop where
 asym:∀ i j,lt i j=true->lt j i=false
 trn:∀ i j k,lt j i=false->lt k j=false->lt k i=false
section
variable {lt:Nat->Nat->Bool}
abbrev gA (p:Array Nat) (i:Nat):Nat:=p.getD i 0
def leK (lt:Nat->Nat->Bool) (i j:Nat):Prop:=lt j i=false
def Up (lt:Nat->Nat->Bool) (p:Array Nat) (k:Nat):Prop:=∀ i j,i <= j->j < k->leK lt (gA p i) (gA p j)
def Dn (lt:Nat->Nat->Bool) (p:Array Nat) (k:Nat):Prop:=∀ i j,i <= j->j < k->leK lt (gA p j) (gA p i)
theorem yR (O:LtO lt) (i:Nat):leK lt i i:=by
 unfold leK
 cases e:lt i i with
 | false=>rfl
 | true=>exact absurd (O.asym i i e) (by rw [e];simp)
theorem yN (O:LtO lt) {i j k:Nat} (a:leK lt i j) (b:leK lt j k):leK lt i k:=O.trn i j k a b
theorem lG (O:LtO lt) {i j:Nat} (h:lt i j=true):leK lt i j:=O.asym i j h
theorem pV {p:Array Nat} {i j:Nat} (hj:j <= p.size) (k:Nat):gA (kas_rev p i j) k=if i <= k/\k < j then gA p (i + j - 1 - k) else gA p k:=by
 unfold gA kas_rev
 rw [zK2,zK2,zK2,getElem?_mirror_all hj]
 split <;> rfl
theorem zBN {p:Array Nat} {k l:Nat} (hk:k < p.size) (hl:l <= k) (x:Nat):gA (bubble p k (k - l)) x=if x=l then gA p k else if l < x/\x <= k then gA p (x - 1) else gA p x:=by
 unfold gA
 rw [zK2,zK2,zK2,zK2,getElem?_bubble hk (k - l) (by omega)]
 rw [show k - (k - l)=l by omega]
 repeat' split
 all_goals first | rfl | omega
theorem pA (p:Array Nat) (i j:Nat):(kas_rev p i j).size=p.size:=mirror_size _ _ _ _
theorem xR (p:Array Nat) (i j:Nat):(kas_rev p i j).Perm p:=mirror_perm _ _ _ _
theorem zGA (O:LtO lt) (p:Array Nat):Up lt p 1:=fun i j h1 h2=>by
 have:i=j:=by omega
 rw [this];exact yR O _
theorem Up.more (O:LtO lt) {p:Array Nat} {n:Nat} (h:Up lt p n) (h1:1 <= n) (e:leK lt (gA p (n - 1)) (gA p n)):Up lt p (n + 1):=fun i j hij hj=>by
 by_cases hn:j < n
 ·exact h i j hij hn
 ·have ej:j=n:=by omega
  subst ej
  by_cases hi:i < j
  ·exact yN O (h i (j - 1) (by omega) (by omega)) e
  ·have:i=j:=by omega
   rw [this];exact yR O _
theorem Dn.more (O:LtO lt) {p:Array Nat} {n:Nat} (h:Dn lt p n) (h1:1 <= n) (e:leK lt (gA p n) (gA p (n - 1))):Dn lt p (n + 1):=fun i j hij hj=>by
 by_cases hn:j < n
 ·exact h i j hij hn
 ·have ej:j=n:=by omega
  subst ej
  by_cases hi:i < j
  ·exact yN O e (h i (j - 1) (by omega) (by omega))
  ·have:i=j:=by omega
   rw [this];exact yR O _
theorem zCC (O:LtO lt) (p:Array Nat):∀ (f n:Nat),1 <= n->Up lt p n->n <= evK lt (kas_asc p f n)/\evK lt (kas_asc p f n) <= n + f/\Up lt p (evK lt (kas_asc p f n)) /\
  (evK lt (kas_asc p f n) < n + f->lt (gA p (evK lt (kas_asc p f n))) (gA p (evK lt (kas_asc p f n) - 1))=true):=by
 intro f
 induction f with
 | zero=>exact fun n h1 h=>⟨zKC _,zKC _,h,fun z=>absurd z (Nat.lt_irrefl _)⟩
 | succ f ih=>
  intro n h1 h
  have e:evK lt (kas_asc p (f + 1) n)=evK lt (if lt (gA p n) (gA p (n - 1))=true then .ret n else kas_asc p f (n + 1)):=rfl
  rw [e]
  cases c:lt (gA p n) (gA p (n - 1)) with
  | true=>
   rw [if_pos rfl]
   exact ⟨zKC _,Nat.le_add_right _ _,h,fun _=>c⟩
  | false=>
   rw [if_neg (by simp)]
   obtain ⟨a1,a2,a3,a4⟩:=ih (n + 1) (by omega) (h.more O h1 c)
   exact ⟨by omega,by omega,a3,fun z=>a4 (by omega)⟩
def EqS (lt:Nat->Nat->Bool) (p:Array Nat) (n q:Nat):Prop:=∀ i,n - (q + 1) <= i->i < n->leK lt (gA p i) (gA p (n - 1))/\leK lt (gA p (n - 1)) (gA p i)
theorem eM (O:LtO lt) {p:Array Nat} {n q:Nat} (hn:n <= p.size) (hq:q + 1 <= n) (h:EqS lt p n q) (x:Nat):leK lt (gA (kas_rev p (n - (q + 1)) n) x) (gA p x)/\leK lt (gA p x) (gA (kas_rev p (n - (q + 1)) n) x):=by
 rw [pV hn]
 split
 ·next hx=>
  obtain ⟨a1,a2⟩:=h x hx.1 hx.2
  obtain ⟨b1,b2⟩:=h (n - (q + 1) + n - 1 - x) (by omega) (by omega)
  exact ⟨yN O b1 a2,yN O a1 b2⟩
 ·exact ⟨yR O _,yR O _⟩
theorem zBU (O:LtO lt) {p:Array Nat} {n q k:Nat} (hn:n <= p.size) (hq:q + 1 <= n) (h:EqS lt p n q) (d:Dn lt p k):Dn lt (kas_rev p (n - (q + 1)) n) k:=fun i j hij hj=>
 yN O (eM O hn hq h j).1 (yN O (d i j hij hj) (eM O hn hq h i).2)
theorem zEY (O:LtO lt):∀ (f:Nat) (p:Array Nat) (n q:Nat),q + 1 <= n->n + f <= p.size->Dn lt p n->EqS lt p n q ->
  (evK lt (kas_desc f p n q)).1.Perm p/\n <= (evK lt (kas_desc f p n q)).2.1/\(evK lt (kas_desc f p n q)).2.1 <= n + f/\Dn lt (evK lt (kas_desc f p n q)).1 (evK lt (kas_desc f p n q)).2.1 /\
  (evK lt (kas_desc f p n q)).2.2 + 1 <= (evK lt (kas_desc f p n q)).2.1/\EqS lt (evK lt (kas_desc f p n q)).1 (evK lt (kas_desc f p n q)).2.1 (evK lt (kas_desc f p n q)).2.2:=by
 intro f
 induction f with
 | zero=>exact fun p n q h1 h2 h3 h4=>⟨.refl _,zKC _,zKC _,h3,h1,h4⟩
 | succ f ih=>
  intro p n q h1 h2 h3 h4
  have e:evK lt (kas_desc (f + 1) p n q)=evK lt (if lt (gA p n) (gA p (n - 1))=true then (if q > 0 then kas_desc f (kas_rev p (n - (q + 1)) n) (n + 1) 0 else kas_desc f p (n + 1) 0)
   else .ask (gA p (n - 1)) (gA p n) fun d=>if d=true then .ret (p,n,q) else kas_desc f p (n + 1) (q + 1)):=rfl
  rw [e]
  have one:∀ p:Array Nat,EqS lt p (n + 1) 0:=fun p i h1 h2=>by
   have:i=n + 1 - 1:=by omega
   rw [this];exact ⟨yR O _,yR O _⟩
  cases c:lt (gA p n) (gA p (n - 1)) with
  | true=>
   rw [if_pos rfl]
   have d1:=h3.more O (by omega) (lG O c)
   by_cases hq:q > 0
   ·rw [if_pos hq]
    obtain ⟨a1,a2,a3,a4,a5,a6⟩:=ih (kas_rev p (n - (q + 1)) n) (n + 1) 0 (by omega) (by rw [pA];omega) (zBU O (by omega) h1 h4 d1) (one _)
    exact ⟨a1.trans (xR _ _ _),by omega,by omega,a4,a5,a6⟩
   ·rw [if_neg hq]
    obtain ⟨a1,a2,a3,a4,a5,a6⟩:=ih p (n + 1) 0 (by omega) (by omega) d1 (one _)
    exact ⟨a1,by omega,by omega,a4,a5,a6⟩
  | false=>
   rw [if_neg (by simp)]
   show (evK lt (if lt (gA p (n - 1)) (gA p n)=true then .ret (p,n,q) else kas_desc f p (n + 1) (q + 1))).1.Perm p/\_
   show _/\n <= (evK lt (if lt (gA p (n - 1)) (gA p n)=true then .ret (p,n,q) else kas_desc f p (n + 1) (q + 1))).2.1/\(evK lt (if lt (gA p (n - 1)) (gA p n)=true then .ret (p,n,q) else kas_desc f p (n + 1) (q + 1))).2.1 <= _/\Dn lt (evK lt (if lt (gA p (n - 1)) (gA p n)=true then .ret (p,n,q) else kas_desc f p (n + 1) (q + 1))).1 (evK lt (if lt (gA p (n - 1)) (gA p n)=true then .ret (p,n,q) else kas_desc f p (n + 1) (q + 1))).2.1/\(evK lt (if lt (gA p (n - 1)) (gA p n)=true then .ret (p,n,q) else kas_desc f p (n + 1) (q + 1))).2.2 + 1 <= (evK lt (if lt (gA p (n - 1)) (gA p n)=true then .ret (p,n,q) else kas_desc f p (n + 1) (q + 1))).2.1/\EqS lt (evK lt (if lt (gA p (n - 1)) (gA p n)=true then .ret (p,n,q) else kas_desc f p (n + 1) (q + 1))).1 (evK lt (if lt (gA p (n - 1)) (gA p n)=true then .ret (p,n,q) else kas_desc f p (n + 1) (q + 1))).2.1 (evK lt (if lt (gA p (n - 1)) (gA p n)=true then .ret (p,n,q) else kas_desc f p (n + 1) (q + 1))).2.2
   cases d:lt (gA p (n - 1)) (gA p n) with
   | true=>
    rw [if_pos rfl]
    exact ⟨.refl _,zKC _,Nat.le_add_right _ _,h3,h1,h4⟩
   | false=>
    rw [if_neg (by simp)]
    have es:EqS lt p (n + 1) (q + 1):=fun i g1 g2=>by
     rw [Nat.add_sub_cancel]
     by_cases hi:i=n
     ·rw [hi];exact ⟨yR O _,yR O _⟩
     ·obtain ⟨b1,b2⟩:=h4 i (by omega) (by omega)
      exact ⟨yN O b1 c,yN O d b2⟩
    obtain ⟨a1,a2,a3,a4,a5,a6⟩:=ih p (n + 1) (q + 1) (by omega) (by omega) (h3.more O (by omega) d) es
    exact ⟨a1,by omega,by omega,a4,a5,a6⟩
theorem bT {p:Array Nat} {n:Nat} (hn:n <= p.size) (d:Dn lt p n):Up lt (kas_rev p 0 n) n:=fun i j hij hj=>by
 rw [pV hn,pV hn,if_pos ⟨zKD _,by omega⟩,if_pos ⟨zKD _,hj⟩]
 exact d _ _ (by omega) (by omega)
theorem fQ (O:LtO lt) {p:Array Nat} {n nrem:Nat} (h1:1 <= n) (hn:n <= nrem) (hz:nrem <= p.size) (d:Dn lt p n) :
  (evK lt (kas_tail3 n nrem p)).2.Perm p/\1 <= (evK lt (kas_tail3 n nrem p)).1/\(evK lt (kas_tail3 n nrem p)).1 <= nrem/\Up lt (evK lt (kas_tail3 n nrem p)).2 (evK lt (kas_tail3 n nrem p)).1:=by
 unfold kas_tail3
 rw [uT]
 obtain ⟨a1,a2,a3,_⟩:=zCC O (kas_rev p 0 n) (nrem - n) n h1 (bT (by omega) d)
 exact ⟨xR _ _ _,zKE h1 a1,zKE a2 (by omega),a3⟩
theorem rX (O:LtO lt) {p:Array Nat} {n nrem:Nat} (h1:1 <= n) (hn:n + 1 <= nrem) (hz:nrem <= p.size) (d:Dn lt p (n + 1)) :
  (evK lt (kas_descPart n nrem p)).2.Perm p/\1 <= (evK lt (kas_descPart n nrem p)).1/\(evK lt (kas_descPart n nrem p)).1 <= nrem/\Up lt (evK lt (kas_descPart n nrem p)).2 (evK lt (kas_descPart n nrem p)).1:=by
 unfold kas_descPart
 rw [uT]
 obtain ⟨a1,a2,a3,a4,a5,a6⟩:=zEY O (nrem - (n + 1)) p (n + 1) 0 (by omega) (by omega) d (fun i g1 g2=>by
  have:i=n + 1 - 1:=by omega
  rw [this];exact ⟨yR O _,yR O _⟩)
 generalize evK lt (kas_desc (nrem - (n + 1)) p (n + 1) 0)=r at a1 a2 a3 a4 a5 a6 ⊢
 have hs:=a1.size_eq
 by_cases hq:r.2.2 > 0
 ·rw [if_pos hq]
  obtain ⟨b1,b2,b3,b4⟩:=fQ O (p:=kas_rev r.1 (r.2.1 - (r.2.2 + 1)) r.2.1) (n:=r.2.1) (nrem:=nrem) (by omega) (by omega) (by rw [pA];omega) (zBU O (by omega) a5 a6 a4)
  exact ⟨(b1.trans (xR _ _ _)).trans a1,b2,b3,b4⟩
 ·rw [if_neg hq]
  obtain ⟨b1,b2,b3,b4⟩:=fQ O (p:=r.1) (n:=r.2.1) (nrem:=nrem) (by omega) (by omega) (by omega) a4
  exact ⟨b1.trans a1,b2,b3,b4⟩
theorem zB1 (O:LtO lt) {p:Array Nat} {nrem:Nat} (h1:1 <= nrem) (hz:nrem <= p.size) :
  (evK lt (kas_count nrem p)).2.Perm p/\1 <= (evK lt (kas_count nrem p)).1/\(evK lt (kas_count nrem p)).1 <= nrem/\Up lt (evK lt (kas_count nrem p)).2 (evK lt (kas_count nrem p)).1:=by
 unfold kas_count
 rw [uT]
 obtain ⟨a1,a2,a3,a4⟩:=zCC O p (nrem - 1) 1 (zKC _) (zGA O p)
 generalize evK lt (kas_asc p (nrem - 1) 1)=m at a1 a2 a3 a4 ⊢
 by_cases hm:m=nrem
 ·rw [if_pos (by simpa using hm)]
  exact ⟨.refl _,a1,by show m <= nrem;omega,a3⟩
 ·rw [if_neg (by simpa using hm)]
  have c:=a4 (by omega)
  by_cases h2:m > 1
  ·rw [if_pos h2]
   have e:evK lt (KasT.ask (gA p 0) (gA p (m - 1)) fun c=>if c=true then .ret (m,p) else kas_descPart m nrem (kas_rev p 0 m))=evK lt (if lt (gA p 0) (gA p (m - 1))=true then .ret (m,p) else kas_descPart m nrem (kas_rev p 0 m)):=rfl
   rw [e]
   cases d:lt (gA p 0) (gA p (m - 1)) with
   | true=>rw [if_pos rfl];exact ⟨.refl _,a1,by show m <= nrem;omega,a3⟩
   | false=>
    rw [if_neg (by simp)]
    have all:∀ x y,x < m->y < m->leK lt (gA p x) (gA p y):=fun x y hx hy=>yN O (a3 x (m - 1) (by omega) (by omega)) (yN O d (a3 0 y (zKD _) hy))
    obtain ⟨b1,b2,b3,b4⟩:=rX O (p:=kas_rev p 0 m) (n:=m) (nrem:=nrem) a1 (by omega) (by rw [pA];omega) (by
     intro i j hij hj
     rw [pV (by omega),pV (by omega)]
     by_cases hjm:j < m
     ·rw [if_pos ⟨zKD j,hjm⟩,if_pos ⟨zKD i,by omega⟩]
      exact all _ _ (by omega) (by omega)
     ·rw [if_neg (fun z=>hjm z.2)]
      have ej:j=m:=by omega
      subst ej
      by_cases hi:i < j
      ·rw [if_pos ⟨zKD _,hi⟩]
       exact yN O (lG O c) (all _ _ (by omega) (by omega))
      ·have:i=j:=by omega
       subst this
       rw [if_neg (fun z=>hi z.2)]
       exact yR O _)
    exact ⟨b1.trans (xR _ _ _),b2,b3,b4⟩
  ·rw [if_neg h2]
   have em:m=1:=by omega
   subst em
   refine rX O (zKC _) (by omega) hz fun i j hij hj=>?_
   by_cases hj0:j=0
   ·have:i=j:=by omega
    rw [this];exact yR O _
   ·have ej:j=1:=by omega
    by_cases hi:i=0
    ·rw [hi,ej];exact lG O c
    ·have:i=j:=by omega
     rw [this];exact yR O _
theorem zAA (O:LtO lt) {p:Array Nat} {k:Nat} (hs:Up lt p k):∀ (f l r:Nat),l <= r->r <= k->r - l <= f->(∀ i,i < l->leK lt (gA p i) (gA p k))->(∀ i,r <= i->i < k->leK lt (gA p k) (gA p i)) ->
  evK lt (kas_place p k f l r) <= k/\(∀ i,i < evK lt (kas_place p k f l r)->leK lt (gA p i) (gA p k))/\(∀ i,evK lt (kas_place p k f l r) <= i->i < k->leK lt (gA p k) (gA p i)):=by
 intro f
 induction f with
 | zero=>
  intro l r h1 h2 h3 h4 h5
  have e:l=r:=by omega
  subst e
  exact ⟨h2,h4,h5⟩
 | succ f ih=>
  intro l r h1 h2 h3 h4 h5
  have e:kas_place p k (f + 1) l r=if l >= r then .ret l else .ask (gA p k) (gA p ((l + r) / 2)) fun c=>if c=true then kas_place p k f l ((l + r) / 2) else kas_place p k f ((l + r) / 2 + 1) r:=rfl
  rw [e]
  by_cases hlr:l >= r
  ·rw [if_pos hlr]
   have e:l=r:=by omega
   subst e
   exact ⟨h2,h4,h5⟩
  ·rw [if_neg hlr]
   have e2:evK lt (KasT.ask (gA p k) (gA p ((l + r) / 2)) fun c=>if c=true then kas_place p k f l ((l + r) / 2) else kas_place p k f ((l + r) / 2 + 1) r)=evK lt (if lt (gA p k) (gA p ((l + r) / 2))=true then kas_place p k f l ((l + r) / 2) else kas_place p k f ((l + r) / 2 + 1) r):=rfl
   rw [e2]
   cases c:lt (gA p k) (gA p ((l + r) / 2)) with
   | true=>
    rw [if_pos rfl]
    exact ih l ((l + r) / 2) (by omega) (by omega) (by omega) h4 fun i g1 g2=>yN O (lG O c) (hs _ _ g1 g2)
   | false=>
    rw [if_neg (by simp)]
    exact ih ((l + r) / 2 + 1) r (by omega) h2 (by omega) (fun i g=>yN O (hs i ((l + r) / 2) (by omega) (by omega)) c) h5
theorem zH3 (O:LtO lt):∀ (f:Nat) (p:Array Nat) (k:Nat),k + f <= p.size->Up lt p k->(evK lt (kas_bin f p k)).Perm p/\Up lt (evK lt (kas_bin f p k)) (k + f):=by
 intro f
 induction f with
 | zero=>exact fun p k _ h=>⟨.refl _,h⟩
 | succ f ih=>
  intro p k hz h
  have e:kas_bin (f + 1) p k=(kas_place p k k 0 k).bind fun l=>kas_bin f (bubble p k (k - l)) (k + 1):=rfl
  rw [e,uT]
  obtain ⟨a1,a2,a3⟩:=zAA O h k 0 k (zKD _) (zKC _) (by omega) (fun i g=>absurd g (Nat.not_lt_zero _)) (fun i g1 g2=>absurd g2 (by omega))
  generalize evK lt (kas_place p k k 0 k)=l at a1 a2 a3 ⊢
  have up:Up lt (bubble p k (k - l)) (k + 1):=fun i j hij hj=>by
   rw [zBN (by omega) a1,zBN (by omega) a1]
   by_cases i1:i=l
   ·rw [if_pos i1]
    by_cases j1:j=l
    ·rw [if_pos j1];exact yR O _
    ·rw [if_neg j1,if_pos ⟨by omega,by omega⟩]
     exact a3 _ (by omega) (by omega)
   ·rw [if_neg i1]
    by_cases i2:l < i/\i <= k
    ·rw [if_pos i2,if_neg (by omega),if_pos ⟨by omega,by omega⟩]
     exact h _ _ (by omega) (by omega)
    ·rw [if_neg i2]
     by_cases j1:j=l
     ·rw [if_pos j1];exact a2 _ (by omega)
     ·rw [if_neg j1]
      by_cases j2:l < j/\j <= k
      ·rw [if_pos j2];exact h _ _ (by omega) (by omega)
      ·rw [if_neg j2];exact h _ _ hij (by omega)
  obtain ⟨b1,b2⟩:=ih (bubble p k (k - l)) (k + 1) (by rw [bubble_size];omega) up
  exact ⟨b1.trans (bubble_perm _ _ _),by rw [show k + (f + 1)=k + 1 + f by omega];exact b2⟩
theorem zCW (O:LtO lt) {n:Nat} (h1:1 <= n):(evK lt (kas_sort n)).Perm (List.range n).toArray/\Up lt (evK lt (kas_sort n)) n:=by
 unfold kas_sort
 rw [uT]
 have hsz:(List.range n).toArray.size=n:=by simp
 obtain ⟨a1,a2,a3,a4⟩:=zB1 O (p:=(List.range n).toArray) h1 (by omega)
 generalize evK lt (kas_count n (List.range n).toArray)=r at a1 a2 a3 a4 ⊢
 have hs:=a1.size_eq
 by_cases h:r.1 < n
 ·rw [if_pos h]
  have em:max r.1 1=r.1:=by omega
  rw [em]
  obtain ⟨b1,b2⟩:=zH3 O (n - r.1) r.2 r.1 (by omega) a4
  exact ⟨b1.trans a1,by rw [show n=r.1 + (n - r.1) by omega];exact (by rw [show r.1 + (n - r.1) - r.1=n - r.1 by omega];exact b2)⟩
 ·rw [if_neg h]
  have e:r.1=n:=by omega
  exact ⟨a1,by rw [<- e];exact a4⟩
def tH {α:Type} (n:Nat) (R:α->Prop):KasT α->Prop
 | .ret a=>R a
 | .ask i j k=>i < n/\j < n/\∀ b,tH n R (k b)
theorem tH.bind {α β:Type} {n:Nat} {R:α->Prop} {R':β->Prop} {f:α->KasT β} (t:KasT α) (h:tH n R t) (hf:∀ a,R a->tH n R' (f a)):tH n R' (t.bind f):=by
 induction t with
 | ret a=>exact hf a h
 | ask i j k ih=>exact ⟨h.1,h.2.1,fun b=>ih b (h.2.2 b)⟩
theorem zIB {α:Type} {n:Nat} {R:α->Prop} {lt:Nat->Nat->Bool} {cmp:Nat->Nat->(Bool->Shared->Prop)->Shared->Prop} {Pq:Shared->Prop} (hc:∀ i j C s,i < n->j < n->Pq s->(∀ s',Pq s'->C (lt i j) s')->cmp i j C s) (t:KasT α) (ht:tH n R t) {Q:α->Shared->Prop} :
  ∀ s,Pq s->(∀ s',Pq s'->Q (evK lt t) s')->t.kasWp cmp Q s:=by
 induction t with
 | ret a=>exact fun s h q=>q s h
 | ask i j k ih=>exact fun s h q=>hc i j _ s ht.1 ht.2.1 h fun s' h'=>ih (lt i j) (ht.2.2 _) s' h' q
def In_ (n:Nat) (p:Array Nat):Prop:=∀ v ∈ p.toList,v < n
theorem In_.gA {n:Nat} {p:Array Nat} (h:In_ n p) (h1:1 <= n) (x:Nat):gA p x < n:=by
 unfold L2.gA
 rw [zK2]
 cases e:p[x]? with
 | none=>exact h1
 | some v=>exact h v (by rw [Array.mem_toList_iff];exact Array.mem_of_getElem? e)
theorem In_.perm {n:Nat} {p q:Array Nat} (h:In_ n p) (e:q.Perm p):In_ n q:=fun v hv=>h v ((Array.perm_iff_toList_perm.mp e).mem_iff.mp hv)
section
variable {n:Nat} (h1:1 <= n)
include h1
theorem zCB {p:Array Nat} (h:In_ n p):∀ f m,tH n (fun _=>True) (kas_asc p f m):=by
 intro f
 induction f with
 | zero=>exact fun _=>trivial
 | succ f ih=>
  intro m
  refine ⟨h.gA h1 _,h.gA h1 _,fun b=>?_⟩
  cases b with
  | true=>exact trivial
  | false=>exact ih _
theorem zEX:∀ f (p:Array Nat) m q,In_ n p->tH n (fun r=>In_ n r.1) (kas_desc f p m q):=by
 intro f
 induction f with
 | zero=>exact fun p m q h=>h
 | succ f ih=>
  intro p m q h
  refine ⟨h.gA h1 _,h.gA h1 _,fun b=>?_⟩
  cases b with
  | true=>
   show tH n _ (if q > 0 then kas_desc f (kas_rev p (m - (q + 1)) m) (m + 1) 0 else kas_desc f p (m + 1) 0)
   by_cases hq:q > 0
   ·rw [if_pos hq];exact ih _ _ _ (h.perm (xR _ _ _))
   ·rw [if_neg hq];exact ih _ _ _ h
  | false=>
   refine ⟨h.gA h1 _,h.gA h1 _,fun c=>?_⟩
   cases c with
   | true=>exact h
   | false=>exact ih _ _ _ h
theorem fP {p:Array Nat} (h:In_ n p) (m nr:Nat):tH n (fun r=>In_ n r.2) (kas_tail3 m nr p):=
 (zCB h1 (h.perm (xR _ _ _)) _ _).bind _ fun _ _=>h.perm (xR _ _ _)
theorem rW {p:Array Nat} (h:In_ n p) (m nr:Nat):tH n (fun r=>In_ n r.2) (kas_descPart m nr p):=by
 refine (zEX h1 _ p _ _ h).bind _ fun r hr=>?_
 by_cases hq:r.2.2 > 0
 ·rw [if_pos hq];exact fP h1 (hr.perm (xR _ _ _)) _ _
 ·rw [if_neg hq];exact fP h1 hr _ _
theorem zB0 {p:Array Nat} (h:In_ n p) (nr:Nat):tH n (fun r=>In_ n r.2) (kas_count nr p):=by
 refine (zCB h1 h _ _).bind _ fun m _=>?_
 by_cases hm:(m == nr)=true
 ·rw [if_pos hm];exact h
 ·rw [if_neg hm]
  by_cases h2:m > 1
  ·rw [if_pos h2]
   refine ⟨h.gA h1 _,h.gA h1 _,fun b=>?_⟩
   cases b with
   | true=>exact h
   | false=>exact rW h1 (h.perm (xR _ _ _)) _ _
  ·rw [if_neg h2];exact rW h1 h _ _
theorem aZ {p:Array Nat} (h:In_ n p) (k:Nat):∀ f l r,tH n (fun _=>True) (kas_place p k f l r):=by
 intro f
 induction f with
 | zero=>exact fun _ _=>trivial
 | succ f ih=>
  intro l r
  show tH n _ (if l >= r then .ret l else .ask (gA p k) (gA p ((l + r) / 2)) fun c=>if c=true then kas_place p k f l ((l + r) / 2) else kas_place p k f ((l + r) / 2 + 1) r)
  by_cases hlr:l >= r
  ·rw [if_pos hlr];exact trivial
  ·rw [if_neg hlr]
   refine ⟨h.gA h1 _,h.gA h1 _,fun b=>?_⟩
   cases b with
   | true=>exact ih _ _
   | false=>exact ih _ _
theorem zH2:∀ f (p:Array Nat) k,In_ n p->tH n (In_ n) (kas_bin f p k):=by
 intro f
 induction f with
 | zero=>exact fun p k h=>h
 | succ f ih=>exact fun p k h=>(aZ h1 h k _ _ _).bind _ fun l _=>ih _ _ (h.perm (bubble_perm _ _ _))
theorem zCV:tH n (In_ n) (kas_sort n):=by
 refine (zB0 h1 (p:=(List.range n).toArray) (fun v hv=>by simpa using hv) n).bind _ fun r hr=>?_
 by_cases h:r.1 < n
 ·rw [if_pos h];exact zH2 h1 _ _ _ hr
 ·rw [if_neg h];exact hr
end
end
def ltS (a b:Str):Bool:=decide (a.cps.toList < b.cps.toList)
theorem sL {a b:Str} (h:ltS a b=true):ltS b a=false:=KeyOrd.klt_asymm (O:=strKind.toKeyOrd) h
theorem lD {a b c:Str} (h1:ltS b a=false) (h2:ltS c b=false):ltS c a=false:=KeyOrd.kle_trans (O:=strKind.toKeyOrd) (a:=a.cps.toList) (b:=b.cps.toList) (c:=c.cps.toList) h1 h2
theorem uC {a b:Str} (h1:ltS a b=false) (h2:ltS b a=false):a=b:=by
 have e:a.cps.toList=b.cps.toList:=strKind.total _ _ h1 h2
 cases a;cases b
 simp only [Str.mk.injEq]
 exact Array.toList_inj.mp e
theorem pP (a:Str):ltS a a=false:=strKind.irrefl _
def ltP (a b:Str × Str):Bool:=if a.1=b.1 then ltS a.2 b.2 else ltS a.1 b.1
theorem jS {a b:Str × Str} (h:ltP a b=true):ltP b a=false:=by
 unfold ltP at h ⊢
 by_cases e:a.1=b.1
 ·rw [if_pos e] at h;rw [if_pos e.symm];exact sL h
 ·rw [if_neg e] at h;rw [if_neg (Ne.symm e)];exact sL h
theorem dJ {a b c:Str × Str} (h1:ltP b a=false) (h2:ltP c b=false):ltP c a=false:=by
 unfold ltP at h1 h2 ⊢
 by_cases e1:b.1=a.1 <;> by_cases e2:c.1=b.1
 ·rw [if_pos e1] at h1;rw [if_pos e2] at h2;rw [if_pos (e2.trans e1)];exact lD h1 h2
 ·rw [if_neg e2] at h2;rw [if_neg (fun z=>e2 (z.trans e1.symm)),<- e1];exact h2
 ·rw [if_neg e1] at h1;rw [if_neg (fun z=>e1 (e2.symm.trans z)),e2];exact h1
 ·rw [if_neg e1] at h1;rw [if_neg e2] at h2
  by_cases e3:c.1=a.1
  ·exact absurd (uC (a:=b.1) (b:=a.1) h1 (by rw [<- e3];exact h2)) e1
  ·rw [if_neg e3];exact lD h1 h2
theorem zEA {a b:Str × Str} (h1:ltP a b=false) (h2:ltP b a=false):a=b:=by
 unfold ltP at h1 h2
 by_cases e:a.1=b.1
 ·rw [if_pos e] at h1;rw [if_pos e.symm] at h2
  exact Prod.ext e (uC h1 h2)
 ·rw [if_neg e] at h1;rw [if_neg (Ne.symm e)] at h2
  exact absurd (uC h1 h2) e
def Asc {α:Type} (lt:α->α->Bool) (l:List α):Prop:=l.Pairwise fun a b=>lt b a=false
theorem sQ {α:Type} {lt:α->α->Bool} (tot:∀ a b,lt a b=false->lt b a=false->a=b):∀ {l l':List α},l.Perm l'->Asc lt l->Asc lt l'->l=l':=by
 intro l
 induction l with
 | nil=>intro l' p _ _;exact (List.Perm.nil_eq p)
 | cons x l ih=>
  intro l' p h h'
  cases l' with
  | nil=>exact absurd p.length_eq (by simp)
  | cons y l'=>
   obtain ⟨a1,a2⟩:=List.pairwise_cons.mp h
   obtain ⟨b1,b2⟩:=List.pairwise_cons.mp h'
   have e:x=y:=by
    have hx:x ∈ y :: l':=p.mem_iff.mp zKW
    have hy:y ∈ x :: l:=p.mem_iff.mpr zKW
    rcases List.mem_cons.mp hx with e | hx
    ·exact e
    ·rcases List.mem_cons.mp hy with e | hy
     ·exact e.symm
     ·exact tot x y (b1 x hx) (a1 y hy)
   subst e
   rw [ih (List.Perm.cons_inv p) a2 b2]
theorem qZ:∀ (l:List Str) (p:Str),risingS p l=true->Asc ltS (p :: l)
 | [],p,_=>List.pairwise_singleton _ _
 | x :: r,p,h=>by
  unfold risingS at h
  obtain ⟨h1,h2⟩:=Bool.and_eq_true_iff.mp h
  have ih:=qZ r x h2
  have hpx:ltS x p=false:=by
   rw [ltCps_eq] at h1
   simpa [ltS] using h1
  refine List.pairwise_cons.mpr ⟨fun y hy=>?_,ih⟩
  rcases List.mem_cons.mp hy with rfl | hy
  ·exact hpx
  ·exact lD hpx ((List.pairwise_cons.mp ih).1 y hy)
theorem qW (l:List Str) (h:sortedS l=true):Asc ltS l:=by
 cases l with
 | nil=>exact .nil
 | cons x r=>exact qZ r x h
theorem sV:∀ {us:List Value} {ys:List Str},StrsAre us ys->zP (ys.map V.str) us
 | _,_,.nil=>.nil
 | _,_,.cons _ _ h=>.cons ⟨_,rfl⟩ (sV h)
section
variable {X:Cx}
theorem wU:xK X (.builtin "sorted") (fun xs H Q=>∃ (a:Addr) (zs:List Str),xs=[.ref a]/\H a=some (.lst (zs.map V.str))/\zs.length < 64 /\
  ∀ (l:Addr) (ys:List Str),H l=none->ys.Perm zs->Asc ltS ys->Q (.ref l) (upd H l (.lst (ys.map V.str)))):=by
 intro qp s σ H xs us Q I r h
 obtain ⟨a,zs,rfl,hS,hz,q⟩:=h
 obtain ⟨u,rfl,rx⟩:=uH r
 cases rx
 obtain ⟨its,r',pl,hzl⟩:=I.list (.of hS)
 have hst:=vH r'
 have hl:its.length=zs.length:=by have:=r'.length;rw [zJ3] at this;exact this.symm
 refine sorted_strs pl.isList hst (by omega) fun out ss a1 a2 a3=>?_
 obtain ⟨e,he⟩:=sortedAll_at s.heap its out
 have le:ss.length=zs.length:=a2.length_eq
 refine ⟨.ref (s.heap.objs.size + 1),_,I.laid (t':=s.toks) (h':=sortedAll s.heap its out) (o:=.lst (ss.map V.str)) (fun b o z=>sortedAll_old z) (Nat.le_succ _) ?_,rfl,q _ ss (I.hok.fresh (Nat.le_succ _)) a2 (qW _ a3)⟩
 exact ⟨by rw [zJ3,sizeLine_eq];omega,out.toList,e,sV a1,by rw [Array.toArray_toList];exact he⟩
end
def zFA (h:Heap) (v:Value) (p:Str × Str):Prop:=∃ (t:Addr) (o:Obj) (k:Nat) (t1 t2:Tok),v=.ref t/\h.get? t=some o/\o.cls=.type "tuple"/\o.data=.seq #[.str p.1 t1,.str p.2 t2] k
inductive xX (h:Heap):List Value->LSS->Prop
 | nil:xX h [] []
 | cons {v:Value} {p:Str × Str} {vs:List Value} {ps:LSS} (a:zFA h v p) (r:xX h vs ps):xX h (v :: vs) (p :: ps)
theorem xX.len {h:Heap} {vs:List Value} {ps:LSS} (x:xX h vs ps):vs.length=ps.length:=by
 induction x with
 | nil=>rfl
 | cons _ _ ih=>rw [zKO,zKO,ih]
theorem xX.get {h:Heap} {vs:List Value} {ps:LSS} (x:xX h vs ps):∀ (i:Nat),i < vs.length->zFA h (vs.getD i .none) (ps.getD i (Str.empty,Str.empty)):=by
 induction x with
 | nil=>exact fun i hi=>absurd hi (Nat.not_lt_zero _)
 | cons a r ih=>
  intro i hi
  cases i with
  | zero=>exact a
  | succ i=>exact ih i (by simpa using hi)
theorem xX.keep {h h':Heap} {a:Addr} {u:Array Value} {n:Nat} (ha:h.get? a=some (seqObj "list" u n)) (k:∀ b o,b ≠ a->h.get? b=some o->h'.get? b=some o) {vs:List Value} {ps:LSS} (x:xX h vs ps):xX h' vs ps:=by
 induction x with
 | nil=>exact .nil
 | cons c r ih=>
  obtain ⟨t,o,j,t1,t2,e1,e2,e3,e4⟩:=c
  refine .cons ⟨t,o,j,t1,t2,e1,k t o (fun z=>?_) e2,e3,e4⟩ ih
  rw [z,ha] at e2
  cases e2
  exact absurd e3 (by show ¬ (Value.type "list"=Value.type "tuple");decide)
section
variable {prog:Program} {w:World} {A:Around} {E:VSP} {s:Shared}
theorem zCA {x y:Value} {p q:Str × Str} {C:Bool->Shared->Prop} (hx:zFA s.heap x p) (hy:zFA s.heap y q) (h:C (ltP p q) s):wpAny (model prog w) A (keyLt' (tuples' true) x y) C E s:=by
 obtain ⟨t,o,j,t1,t2,rfl,e2,_,e4⟩:=hx
 obtain ⟨t',o',j',t3,t4,rfl,f2,_,f4⟩:=hy
 refine kat_lt e2 e4 f2 f4 ?_
 show KatLex prog w A true _ C [(.str p.1 t1,.str q.1 t3),(.str p.2 t2,.str q.2 t4)] 0 s
 refine kat_cons (eqBool_str ?_)
 unfold ltP at h
 by_cases e:p.1=q.1
 ·rw [show (p.1 == q.1)=true by simpa using e]
  rw [if_pos e] at h
  refine kat_yes (kat_cons (eqBool_str ?_))
  by_cases e':p.2=q.2
  ·rw [show (p.2 == q.2)=true by simpa using e']
   rw [e',pP] at h
   exact kat_yes (kat_nil h)
  ·rw [show (p.2 == q.2)=false by simpa using e']
   exact kat_no (kat_one _ _ (PyProof.Rows.lt_str h))
 ·rw [show (p.1 == q.1)=false by simpa using e]
  rw [if_neg e] at h
  exact kat_no (oneLt_str h)
theorem gG {vs:List Value} {ps:LSS} {C:SortKind->Shared->Prop} (x:xX s.heap vs ps) (hne:0 < vs.length) (h:C (tuples' true) s):wpAny (model prog w) A (keyKind' vs.toArray) C E s:=by
 have key:∀ {vs:List Value} {ps:LSS},xX s.heap vs ps->∃ fs,KatTups s.heap vs fs/\fs.length=vs.length/\∀ v ∈ fs,∃ z t,v=.str z t:=by
  intro vs ps x
  induction x with
  | nil=>exact ⟨[],KatTups.nil,rfl,fun v hv=>by cases hv⟩
  | cons c r ih=>
   obtain ⟨fs,a1,a2,a3⟩:=ih
   obtain ⟨t,o,j,t1,t2,rfl,e2,e3,e4⟩:=c
   refine ⟨_ :: fs,KatTups.cons e2 e3 e4 rfl a1,by rw [zKO,zKO,a2],fun v hv=>?_⟩
   rcases List.mem_cons.mp hv with rfl | hv
   ·exact ⟨_,_,rfl⟩
   ·exact a3 v hv
 obtain ⟨fs,a1,a2,a3⟩:=key x
 refine kat_kind (T:=.type "str") a1 (by omega) (fun v hv=>?_) rfl h
 obtain ⟨z,t,rfl⟩:=a3 v hv
 exact Looks.of_pure rfl
def xP {α:Type} (p:Array Nat) (l:List α) (d:α):List α:=p.toList.map fun i=>l.getD i d
theorem cQ {α:Type} {p:Array Nat} {l:List α} (d:α) (h:p.Perm (List.range l.length).toArray):(xP p l d).Perm l:=by
 have h1:(xP p l d).Perm ((List.range l.length).map fun i=>l.getD i d):=(Array.perm_iff_toList_perm.mp h).map _
 have e:(List.range l.length).map (fun i=>l.getD i d)=l:=by
  apply List.ext_getElem
  ·simp
  ·intro i g1 g2
   simp [zJ8,zJ4 g2]
 rwa [e] at h1
theorem zAB {p:Array Nat} {ps:LSS} {n:Nat} (hp:p.size=n) (u:Up (fun i j=>ltP (ps.getD i (Str.empty,Str.empty)) (ps.getD j (Str.empty,Str.empty))) p n):Asc ltP (xP p ps (Str.empty,Str.empty)):=by
 refine List.pairwise_iff_getElem.mpr fun i j hi hj hij=>?_
 unfold xP at hi hj ⊢
 rw [zJ3,Array.length_toList] at hi hj
 have z:=u i j (Nat.le_of_lt hij) (by omega)
 unfold leK gA at z
 simp only [zK2,Array.getElem?_eq_getElem hi,Array.getElem?_eq_getElem hj,Option.getD_some] at z
 simpa using z
theorem iY {a:Addr} {vs:List Value} {ps:LSS} {n:Nat} {P:PySem.Fin->Shared->Prop} (hA:s.heap.get? a=some (seqObj "list" vs.toArray n)) (hT:xX s.heap vs ps) (h64:vs.length < 64)
  (h:∀ (p:Array Nat) (g:Heap) (c:Nat),p.Perm (List.range vs.length).toArray->Asc ltP (xP p ps (Str.empty,Str.empty))->(∀ b o,b ≠ a->s.heap.get? b=some o->g.get? b=some o)->g.get? a=some (seqObj "list" (xP p vs .none).toArray c) ->
   P (.done (.ret .none)) { s with heap:=g }):wpAny (model prog w) A (Builtin.«list.sort» ⟨[.ref a],[]⟩) P E s:=by
 have lsz:vs.length <= sizeLine:=by rw [sizeLine_eq];omega
 obtain ⟨e1,hA1⟩:∃ e1,(s.heap.update a (Obj.mapSeq fun _=>(#[]:Array Value))).get? a=some (seqObj "list" #[] e1):=⟨_,get?_update_seq hA fun _=>#[]⟩
 rw [list_sort_plain]
 refine wpAny_bind (listItems_at hA rfl (wpAny_bind (listUpdate_at hA rfl (wpAny_bind (seqEpoch_at hA1 rfl (wpAny_bind (wpAny_newTuple (wpAny_bind (wpAny_newList (wpAny_holding ?_) (zKD _))) lsz)))) (by rw [zKB];exact lsz) (zKD _))))
 obtain ⟨g0,eg⟩:∃ g0,g0=((s.heap.update a (Obj.mapSeq fun _=>(#[]:Array Value))).push (seqObj "tuple" vs.toArray 0)).push (seqObj "list" #[] 0):=⟨_,rfl⟩
 have hA2:g0.get? a=some (seqObj "list" #[] e1):=by rw [eg];exact Heap.get?_push_of_some _ (Heap.get?_push_of_some _ hA1)
 have kp:∀ b o,b ≠ a->s.heap.get? b=some o->g0.get? b=some o:=fun b o hb z=>by
  rw [eg];exact Heap.get?_push_of_some _ (Heap.get?_push_of_some _ ((Heap.get?_update_ne _ _ _ _ hb).trans z))
 show wpAny (model prog w) A _ P E { s with heap:=((s.heap.update a (Obj.mapSeq fun _=>(#[]:Array Value))).push (seqObj "tuple" vs.toArray 0)).push (seqObj "list" #[] 0) }
 rw [<- eg]
 dsimp only
 have hT0:xX g0 vs ps:=hT.keep hA kp
 have fin:∀ (st:SortSt) (p:Array Nat),p.Perm (List.range vs.length).toArray->Asc ltP (xP p ps (Str.empty,Str.empty))->(arrOf st).map (·.2)=(xP p vs .none).toArray->failedOf st=none ->
   P (.done (.ret .none)) { s with heap:=g0.update a (Obj.mapSeq fun _=>(arrOf st).map (·.2)) }:=fun st p hp ha ho _=>by
  rw [ho]
  exact h p _ _ hp ha (fun b o hb z=>(Heap.get?_update_ne _ _ _ _ hb).trans (kp b o hb z)) (get?_update_seq hA2 fun _=>(xP p vs .none).toArray)
 by_cases h2:vs.toArray.size < 2
 ·rw [if_pos h2,if_pos h2]
  refine wpAny_bind (wpAny_pure ?_)
  rw [StateT.run_pure]
  refine wpAny_bind (wpAny_pure ?_)
  dsimp only
  have l2:vs.length < 2:=by simpa using h2
  have eo:(arrOf (SortSt.mk' general' (vs.toArray.zip vs.toArray) #[] 7 none)).map (·.2)=(xP (List.range vs.length).toArray vs .none).toArray:=by
   show (vs.toArray.zip vs.toArray).map (·.2)=_
   have lv:vs=[] \/ ∃ v,vs=[v]:=by
    cases vs with
    | nil=>exact .inl rfl
    | cons v r=>cases r with
     | nil=>exact .inr ⟨v,rfl⟩
     | cons _ _=>exact absurd l2 (by simp)
   apply Array.toList_inj.mp
   rcases lv with rfl | ⟨v,rfl⟩
   ·simp [xP]
   ·simp [xP,List.range_succ]
  have z:=fin (SortSt.mk' general' (vs.toArray.zip vs.toArray) #[] 7 none) (List.range vs.length).toArray (.refl _) (by
   have lp:=hT.len
   unfold xP
   refine List.pairwise_iff_getElem.mpr fun i j hi hj hij=>?_
   simp at hi hj
   omega) eo rfl
  have sz:((arrOf (SortSt.mk' general' (vs.toArray.zip vs.toArray) #[] 7 none)).map (·.2)).size <= sizeLine:=by
   rw [eo];show (xP _ _ _).length <= _;unfold xP;simp;exact lsz
  refine wpAny_bind (seqEpoch_at hA2 rfl (wpAny_bind (listUpdate_at hA2 rfl ?_ (zKD _) (Nat.le_succ_of_le sz))))
  simp only [bne_self_eq_false,Bool.false_eq_true,if_false]
  exact wpAny_pure z
 ·rw [if_neg h2,if_neg h2]
  have l2:2 <= vs.length:=by simpa using h2
  let lt:Nat->Nat->Bool:=fun i j=>ltP (ps.getD i (Str.empty,Str.empty)) (ps.getD j (Str.empty,Str.empty))
  have O:LtO lt:=⟨fun i j q=>jS q,fun i j k q1 q2=>dJ q1 q2⟩
  obtain ⟨pp,up⟩:=zCW O (n:=vs.length) (by omega)
  have psz:(evK lt (kas_sort vs.length)).size=vs.length:=by rw [pp.size_eq];simp
  refine wpAny_bind (gG (s:={ s with heap:=g0 }) hT0 (by omega) ?_)
  refine wpAny_bind (wpAny_mono (kat_run (κ:=tuples' true) (ks:=vs) (vs:=vs) (G:=fun p s'=>p=evK lt (kas_sort vs.length)/\s' = { s with heap:=g0 })
   (Q:=fun st s'=>(arrOf st).map (·.2)=(xP (evK lt (kas_sort vs.length)) vs .none).toArray/\failedOf st=none/\s' = { s with heap:=g0 }) rfl l2 h64 (fun p st s' _ b2 b3 b4=>⟨by rw [<- b4.1];exact kat_snds rfl b2,b3,b4.2⟩) ?_) ?_ fun _ _ z=>z)
  ·
   refine zIB (lt:=lt) (Pq:=fun s'=>s' = { s with heap:=g0 }) (fun i j C s' hi hj hs hC=>?_) _ (zCV (by omega)) _ rfl fun s' hs=>⟨rfl,hs⟩
   subst hs
   exact zCA (hT0.get i hi) (hT0.get j hj) (hC _ rfl)
  ·rintro ⟨⟨⟩,st⟩ s' ⟨b1,b2,rfl⟩
   dsimp only
   have sz:((arrOf st).map (·.2)).size <= sizeLine:=by
    rw [b1];show (xP _ _ _).length <= _;unfold xP;rw [zJ3,Array.length_toList,psz];exact lsz
   refine wpAny_bind (seqEpoch_at hA2 rfl (wpAny_bind (listUpdate_at hA2 rfl ?_ (zKD _) (Nat.le_succ_of_le sz))))
   rw [b2]
   simp only [bne_self_eq_false,Bool.false_eq_true,if_false]
   exact wpAny_pure (fin st _ pp (zAB psz up) b1 b2)
end
def zQ (p:Str × Str):List V:=[.str p.1,.str p.2]
theorem eR:∀ {qs:List Addr} {us:List Value},zP (qs.map V.ref) us->us=qs.map Value.ref
 | [],_,.nil=>rfl
 | q :: qs,_,.cons r h=>by
  rw [List.map_cons,<- eR h]
  exact congrArg (· :: _) r
theorem oQ:∀ (qs:List Addr),zP (qs.map V.ref) (qs.map Value.ref)
 | []=>.nil
 | _ :: qs=>.cons rfl (oQ qs)
section
variable {X:Cx} {qp:LAO} {σ:St} {H:Hp} {s:Shared}
theorem zAK (I:Inv X qp σ H s):∀ {qs:List Addr} {ps:LSS},Paired (fun q r=>H q=some (.tup r)) qs (ps.map zQ)->xX s.heap (qs.map Value.ref) ps:=by
 intro qs
 induction qs with
 | nil=>
  intro ps h
  cases ps with
  | nil=>exact .nil
  | cons _ _=>cases h
 | cons q qs ih=>
  intro ps h
  cases ps with
  | nil=>cases h
  | cons p ps=>
   cases h with
   | cons h1 h2=>
   obtain ⟨its,r,pl,_⟩:=I.tuple (.of h1)
   obtain ⟨o,ho,hc,n,hd⟩:=pl
   cases r with
   | cons r1 r=>
   cases r with
   | cons r2 r=>
   cases r
   obtain ⟨t1,rfl⟩:=r1
   obtain ⟨t2,rfl⟩:=r2
   exact .cons ⟨q,o,n,t1,t2,rfl,ho,hc,hd⟩ (ih h2)
theorem xX.more {h h':Heap} (k:∀ b o,h.get? b=some o->h'.get? b=some o) {vs:List Value} {ps:LSS} (x:xX h vs ps):xX h' vs ps:=by
 induction x with
 | nil=>exact .nil
 | cons c r ih=>
  obtain ⟨t,o,j,t1,t2,e1,e2,e3,e4⟩:=c
  exact .cons ⟨t,o,j,t1,t2,e1,k t o e2,e3,e4⟩ ih
theorem jF {α β:Type} (f:α->β) (p:Array Nat) (l:List α) (d:α) (e:β) (hp:∀ i ∈ p.toList,i < l.length):xP p (l.map f) e=(xP p l d).map f:=by
 unfold xP
 rw [zKN]
 refine List.map_congr_left fun i hi=>?_
 have:=hp i hi
 simp [zJ8,zJ4 this]
theorem jI {R:Addr->List V->Prop} {qs:List Addr} {rs:List (List V)} (h:Paired R qs rs) (p:Array Nat) (hp:∀ i ∈ p.toList,i < qs.length):Paired R (xP p qs 0) (xP p rs []):=by
 unfold xP
 have get:∀ i,i < qs.length->R (qs.getD i 0) (rs.getD i []):=by
  clear hp
  induction h with
  | nil=>exact fun i hi=>absurd hi (Nat.not_lt_zero _)
  | cons a r ih=>
   intro i hi
   cases i with
   | zero=>exact a
   | succ i=>exact ih i (by simpa using hi)
 generalize p.toList=l at hp
 induction l with
 | nil=>exact .nil
 | cons i l ih=>exact .cons (get i (hp i zKW)) (ih fun j hj=>hp j (zKG _ hj))
theorem sO:xK X (.builtin "sorted") (fun xs H Q=>∃ (a:Addr) (qs:List Addr) (ps:LSS),xs=[.ref a]/\H a=some (.lst (qs.map V.ref))/\Paired (fun q r=>H q=some (.tup r)) qs (ps.map zQ)/\ps.length < 64 /\
  ∀ (l:Addr) (qs':List Addr) (ps':LSS),H l=none->ps'.Perm ps->Asc ltP ps'->Paired (fun q r=>H q=some (.tup r)) qs' (ps'.map zQ)->Q (.ref l) (upd H l (.lst (qs'.map V.ref)))):=by
 intro qp s σ H xs us Q I r h
 obtain ⟨a,qs,ps,rfl,hA,hP,hz,q⟩:=h
 obtain ⟨u,rfl,rx⟩:=uH r
 cases rx
 obtain ⟨its,r',pl,hzl⟩:=I.list (.of hA)
 have ei:=eR r'
 subst ei
 have hpr:=zAK I hP
 have lq:qs.length=ps.length:=by have:=hpr.len;rwa [zJ3] at this
 have lv:(qs.map Value.ref).length < 64:=by rw [zJ3];omega
 refine Calls.call_function_entry kind_sorted plain_sorted entry_sorted (args_sorted1 _) ?_
 unfold Builtin.«sorted»
 refine wpAny_bind (m:=checkCount "sorted" 1 1 _) (wpAny_pure (wpAny_bind (collect_list pl.isList (wpAny_bind (wpAny_newList ?_ (by rw [sizeLine_eq];omega))) (by rw [sizeLine_eq];omega))))
 obtain ⟨g0,eg⟩:∃ g0,g0=(s.heap.push (seqObj "list" #[] 0)).update s.heap.objs.size (Obj.mapSeq (· ++ (qs.map Value.ref).toArray)):=⟨_,rfl⟩
 have gs:g0.objs.size=s.heap.objs.size + 1:=by rw [eg,Heap.size_update,size_push']
 have k0:∀ b o,s.heap.get? b=some o->(g0.push (seqObj "list" (qs.map Value.ref).toArray 0)).get? b=some o:=fun b o z=>by
  have hlt:b < s.heap.objs.size:=Heap.lt_size z
  refine Heap.get?_push_of_some _ ?_
  rw [eg,Heap.get?_update_ne _ _ _ _ (zKU hlt)]
  exact Heap.get?_push_of_some _ z
 have hN:(g0.push (seqObj "list" (qs.map Value.ref).toArray 0)).get? (s.heap.objs.size + 1)=some (seqObj "list" (qs.map Value.ref).toArray 0):=by
  rw [<- gs];exact Heap.get?_push_size _ rfl
 show wpAny _ _ _ _ _ { s with heap:=((s.heap.push (seqObj "list" #[] 0)).update s.heap.objs.size (Obj.mapSeq (· ++ (qs.map Value.ref).toArray))).push (seqObj "list" (qs.map Value.ref).toArray 0) }
 rw [<- eg,gs]
 refine wpAny_bind (wpAny_holding (wpAny_call_entry slot_list_sort ⟨_,hN,rfl⟩ entry_list_sort (iY hN (hpr.more k0) lv fun p g c b1 b2 b3 b4=>⟨_,rfl,?_⟩) (args_list_sort _)))
 refine wpAny_pure ⟨_,rfl,?_⟩
 rw [zJ3] at b1
 have hin:∀ i ∈ p.toList,i < qs.length:=fun i hi=>by
  have:=(Array.perm_iff_toList_perm.mp b1).mem_iff.mp hi
  simpa using this
 have pq:=jI hP p hin
 have er:xP p (ps.map zQ) []=(xP p ps (Str.empty,Str.empty)).map zQ:=jF zQ p ps _ _ (fun i hi=>by rw [<- lq];exact hin i hi)
 rw [er] at pq
 have ev:xP p (qs.map Value.ref) .none=(xP p qs 0).map Value.ref:=jF Value.ref p qs _ _ hin
 rw [ev] at b4
 have old:∀ b o,s.heap.get? b=some o->g.get? b=some o:=fun b o z=>b3 b o (zKU (Nat.lt_succ_of_lt (Heap.lt_size z))) (k0 b o z)
 refine ⟨.ref (s.heap.objs.size + 1),_,I.laid (t':=s.toks) (h':=g) (o:=.lst ((xP p qs 0).map V.ref)) old (Nat.le_succ _) ?_,rfl,q _ _ _ (I.hok.fresh (Nat.le_succ _)) (cQ _ (by rw [<- lq];exact b1)) b2 pq⟩
 refine ⟨?_,_,c,oQ _,b4⟩
 unfold xP
 rw [zJ3,zJ3,Array.length_toList,b1.size_eq]
 simp
 rw [sizeLine_eq];omega
end
def xM (val:Nat->Str):Nat->List Str
 | 0=>[]
 | i + 1=>if (xM val i).any (· == val i) then xM val i else xM val i ++ [val i]
theorem sK (val:Nat->Str) (i:Nat) (k:Str):(xM val (i + 1)).any (· == k)=((xM val i).any (· == k) || k == val i):=by
 show (if (xM val i).any (· == val i) then xM val i else xM val i ++ [val i]).any (· == k)=_
 by_cases h:(xM val i).any (· == val i)=true
 ·rw [if_pos h]
  by_cases hk:k=val i
  ·subst hk;rw [h];simp
  ·rw [show (k == val i)=false by simpa using hk,Bool.or_false]
 ·rw [if_neg h,List.any_append]
  simp only [List.any_cons,List.any_nil,Bool.or_false]
  rw [Bool.beq_comm (a:=k)]
theorem vU (val:Nat->Str) (i:Nat):(xM val (i + 1)).length=if (xM val i).any (· == val i) then (xM val i).length else (xM val i).length + 1:=by
 show (if (xM val i).any (· == val i) then xM val i else xM val i ++ [val i]).length=_
 split <;> simp
theorem sJ (val:Nat->Str):∀ i,(xM val i).length <= i
 | 0=>zKC _
 | i + 1=>by
  rw [vU]
  have:=sJ val i
  split <;> omega
theorem pK {val:Nat->Str}:∀ n,(∀ i j,i < n->j < n->val i=val j->i=j)->(xM val n).length=n/\∀ k,(xM val n).any (· == k)=true->∃ i,i < n/\val i=k
 | 0,_=>⟨rfl,fun k h=>by simp [xM] at h⟩
 | n + 1,h=>by
  obtain ⟨a1,a2⟩:=pK n fun i j hi hj e=>h i j (by omega) (by omega) e
  have no:(xM val n).any (· == val n)=false:=by
   cases c:(xM val n).any (· == val n) with
   | false=>rfl
   | true=>
    obtain ⟨i,hi,e⟩:=a2 _ c
    have:=h i n (by omega) (by omega) e
    omega
  refine ⟨by rw [vU,no,a1];rfl,fun k hk=>?_⟩
  rw [sK] at hk
  rcases Bool.or_eq_true_iff.mp hk with q | q
  ·obtain ⟨i,hi,e⟩:=a2 k q
   exact ⟨i,by omega,e⟩
  ·exact ⟨n,by omega,by simpa using (beq_iff_eq.mp q).symm⟩
section
variable {prog:Program} {w:World} {A:Around} {R:Result->Shared->Prop} {I:Addr} {fp wr:List Addr} {G:Array GenState->Array GenState->Prop} {n:Nat} {P:Nat->Value->Prop} {St:Nat->Shared->Prop}
end
section
variable {prog:Program} {w:World} {A:Around} {E:VSP} {s:Shared}
abbrev jN (led:Bool):Obj:={ cls:=.type "set",dict:=none,data:=.set #[] 0 (.fresh 0 0 led) }
end
def tK (zs:List Str):Nat:=(xM (fun i=>zs.getD i Str.empty) zs.length).length
theorem rR {zs:List Str} (h:zs.Nodup):tK zs=zs.length:=by
 refine (pK zs.length fun i j hi hj q=>?_).1
 simp only [zJ8,zJ4 hi,zJ4 hj,Option.getD_some] at q
 exact (List.getElem_inj h).mp q
section
variable {X:Cx}
theorem bY {zs:List Str} {its:List Value} (r:StrsAre its zs):∀ (i:Nat) (v:Value),its.toArray[i]?=some v->∃ t,v=.str (zs.getD i Str.empty) t:=by
 induction r with
 | nil=>intro i v h;simp at h
 | cons x t r ih=>
  intro i v h
  cases i with
  | zero=>simp at h;exact ⟨t,h.symm⟩
  | succ i=>simp at h;exact ih i v (by simpa using h)
def jQ (a b:Str):Str:=if ltS b a then b else a
def jR (a b:Str):Str:=if ltS a b then b else a
theorem mF {a b:Str} {t u:Tok} (i:Nat) (v:Value) (h:#[Value.str a t,.str b u][i]?=some v):(i=0/\v=.str a t) \/ (i=1/\v=.str b u):=by
 cases i with
 | zero=>simp at h;exact .inl ⟨rfl,h.symm⟩
 | succ i=>cases i with
  | zero=>simp at h;exact .inr ⟨rfl,h.symm⟩
  | succ i=>simp at h
section
variable {prog:Program} {w:World} {A:Around} {E:VSP} {s:Shared}
abbrev wS (a b:Str) (i:Nat):Str:=if i=0 then a else b
theorem zH0 {a b:Str} {t u:Tok}:CmpOf prog w A .Lt (fun i v=>#[Value.str a t,.str b u][i]?=some v) (fun i j=>ltS (wS a b i) (wS a b j)):=fun i j vi vj s Q E hi hj q=>by
 rcases mF i vi hi with ⟨rfl,rfl⟩ | ⟨rfl,rfl⟩ <;> rcases mF j vj hj with ⟨rfl,rfl⟩ | ⟨rfl,rfl⟩ <;> exact PyProof.Rows.lt_str q
theorem zH1 {a b:Str} {t u:Tok}:CmpOf prog w A .Gt (fun i v=>#[Value.str a t,.str b u][i]?=some v) (fun i j=>ltS (wS a b j) (wS a b i)):=fun i j vi vj s Q E hi hj q=>by
 rcases mF i vi hi with ⟨rfl,rfl⟩ | ⟨rfl,rfl⟩ <;> rcases mF j vj hj with ⟨rfl,rfl⟩ | ⟨rfl,rfl⟩ <;> exact PySem.P.gt_str q
theorem lX {op:CmpOp} {bt:Nat->Nat->Bool} {x:Addr} {a b z:Str} {t u:Tok} {Q:VSP} (hh:A.handled=none) (hT:s.heap.IsTuple x #[.str a t,.str b u]) (hc:CmpOf prog w A op (fun i v=>#[Value.str a t,.str b u][i]?=some v) bt)
  (hz:∀ v,#[Value.str a t,.str b u][argBest bt 1]?=some v->∃ t,v=.str z t) (h:∀ h' tk t,(∀ c o,s.heap.get? c=some o->h'.get? c=some o)->Q (.str z t) { s with heap:=h',toks:=tk }) :
  wpAny (model prog w) A (pyIter (.ref x)) (fun it s2=>∃ I fp wr n P St bt,it=.ref I/\Walks prog w A I fp wr n P St/\St 0 s2.heap/\(∀ b ∈ fp,b < s2.heap.objs.size)/\0 < n/\CmpOf prog w A op P bt /\
   ∀ v h' tk,P (argBest bt (n - 1)) v->(∀ b o,b ∉ wr->s2.heap.get? b=some o->h'.get? b=some o)->Q v { s2 with heap:=h',toks:=tk }) E s:=by
 have hx:x < s.heap.objs.size:=by obtain ⟨o,ho,_⟩:=hT;exact Heap.lt_size ho
 refine wpAny_pyIter_tuple hT ⟨_,[_,x],[_],_,_,_,bt,rfl,Walks.tuple hh _ x (zKU hx) #[.str a t,.str b u],⟨⟨_,Heap.get?_push_size _ rfl,rfl,rfl⟩,hT.push _⟩,fun c hc=>?_,Nat.zero_lt_succ _,hc,fun v h' tk hP hk=>?_⟩
 ·show c < (s.heap.push _).objs.size
  rw [Heap.size_push]
  simp only [List.mem_cons,zKX,or_false] at hc
  rcases hc with rfl | rfl
  ·exact Nat.lt_succ_self _
  ·exact Nat.lt_succ_of_lt hx
 ·obtain ⟨t',rfl⟩:=hz v hP
  refine h h' tk t' fun c o e=>hk c o (fun hm=>?_) (Heap.get?_push_of_some _ e)
  simp only [List.mem_cons,zKX,or_false] at hm
  exact absurd (Heap.lt_size e) (by rw [hm];exact Nat.lt_irrefl _)
end
theorem zB7 {a b:Str} {t u:Tok} (v:Value) (h:#[Value.str a t,.str b u][argBest (fun i j=>ltS (wS a b i) (wS a b j)) 1]?=some v):∃ t,v=.str (jQ a b) t:=by
 have e:argBest (fun i j=>ltS (wS a b i) (wS a b j)) 1=if ltS b a then 1 else 0:=rfl
 rw [e] at h
 unfold jQ
 cases c:ltS b a with
 | true=>rw [c] at h;simp at h;exact ⟨u,by simp [<- h]⟩
 | false=>rw [c] at h;simp at h;exact ⟨t,by simp [<- h]⟩
theorem zB8 {a b:Str} {t u:Tok} (v:Value) (h:#[Value.str a t,.str b u][argBest (fun i j=>ltS (wS a b j) (wS a b i)) 1]?=some v):∃ t,v=.str (jR a b) t:=by
 have e:argBest (fun i j=>ltS (wS a b j) (wS a b i)) 1=if ltS a b then 1 else 0:=rfl
 rw [e] at h
 unfold jR
 cases c:ltS a b with
 | true=>rw [c] at h;simp at h;exact ⟨u,by simp [<- h]⟩
 | false=>rw [c] at h;simp at h;exact ⟨t,by simp [<- h]⟩
theorem fO {qp:LAO} {σ:St} {H:Hp} {s:Shared} (I:Inv X qp σ H s) {x:Addr} {a b:Str} (h:H x=some (.tup [.str a,.str b])):∃ t u,s.heap.IsTuple x #[.str a t,.str b u]:=by
 obtain ⟨its,r,pl,_⟩:=I.tuple (.of h)
 cases r with
 | cons r1 r=>
 cases r with
 | cons r2 r=>
 cases r
 obtain ⟨t1,rfl⟩:=r1
 obtain ⟨t2,rfl⟩:=r2
 exact ⟨t1,t2,pl⟩
theorem nY (hc:X.calm=true):xK X (.builtin "min") (fun xs H Q=>∃ (x:Addr) (a b:Str),xs=[.ref x]/\H x=some (.tup [.str a,.str b])/\Q (.str (jQ a b)) H):=by
 intro qp s σ H xs us Q I r h
 obtain ⟨x,a,b,rfl,hx,q⟩:=h
 obtain ⟨u,rfl,rx⟩:=uH r
 cases rx
 obtain ⟨t,u,hT⟩:=fO I hx
 exact call_min_walk (lX (I.ok.hd hc) hT zH0 zB7 fun h' tk t' k=>⟨.str (jQ a b),H,I.kept k,⟨t',rfl⟩,q⟩)
theorem nZ (hc:X.calm=true):xK X (.builtin "max") (fun xs H Q=>∃ (x:Addr) (a b:Str),xs=[.ref x]/\H x=some (.tup [.str a,.str b])/\Q (.str (jR a b)) H):=by
 intro qp s σ H xs us Q I r h
 obtain ⟨x,a,b,rfl,hx,q⟩:=h
 obtain ⟨u,rfl,rx⟩:=uH r
 cases rx
 obtain ⟨t,u,hT⟩:=fO I hx
 exact call_max_walk (lX (I.ok.hd hc) hT zH1 zB8 fun h' tk t' k=>⟨.str (jR a b),H,I.kept k,⟨t',rfl⟩,q⟩)
end
end L2
namespace L2
open PySem PySem.Spec PyProof.Rows
theorem zEZ {prog:Program} {w:World} {A:Around} {R:Result->Shared->Prop} {s:Shared} {kx vx target iter:Expr} {ifs:List Expr} {scope:Scope} {pos:Pos} {it:Value} {D:Addr} {env:Env} (J:Nat->Shared->Prop)
  (turn:∀ n s,J n s->wpAny (model prog w) A (pyNext it) (fun r s1=>match r with
   | none=>R (.ok .next) s1
   | some v=>wpAny (model prog w) A (letOwnedTupleGo target it v) (fun _ s1'=>wpAny (model prog w) A (assign target env v) (fun _ s2=>
     wpAny (model prog w) A (forIn ifs true fun c r=>if r=true then do let ok <- isTrue c env (eval c env);pure (ForInStep.yield ok) else pure (ForInStep.yield r)) (fun ok s3=>
      if ok=true then wpAny (model prog w) A (eval kx env) (fun y s4=>wpAny (model prog w) A (eval vx env) (fun x s5=>
       wpAny (model prog w) A (dictSet D y x) (fun _ s6=>∃ m,m < n/\J m s6) (fun _ _=>False) s5) (fun _ _=>False) s4) (fun _ _=>False) s3
      else ∃ m,m < n/\J m s3) (fun _ _=>False) s2) (fun _ _=>False) s1') (fun _ _=>False) s1) (fun _ _=>False) s)
  (n:Nat) (h:J n s):codeAny (model prog w) A (.compLoop (.DictComp kx vx [⟨target,iter,ifs,0⟩] scope pos) 0 it (.ref D) env) R s:=by
 refine codeAny_loop rfl J (fun n s hJ=>?_) n h
 have nof:∀ (e:Value) (s':Shared),False->notedBy (model prog w) A env (fun e s'=>R (.error e) s') e s':=fun _ _ f=>f.elim
 show wpAny (model prog w) A ((compTurn (.DictComp kx vx [⟨target,iter,ifs,0⟩] scope pos) 0 it (.ref D) env).onRaise (fun x=>do noteFrame x env;theTreesLotGoes x)) _ _ s
 refine wpAny_noted ?_
 rw [compTurn_dict]
 refine wpAny_bind (wpAny_standAt (wpAny_bind (wpAny_mono (turn n s hJ) (fun r s1 h1=>?_) nof)))
 cases r with
 | none=>exact wpAny_pure h1
 | some v=>
  refine wpAny_bind (wpAny_mono h1 (fun _ s1' h1'=>?_) nof)
  refine wpAny_bind (wpAny_mono h1' (fun _ s2 h2=>?_) nof)
  refine wpAny_bind (wpAny_mono h2 (fun ok s3 h3=>?_) nof)
  cases ok with
  | false=>exact wpAny_pure ⟨rfl,h3⟩
  | true=>
   refine wpAny_bind (wpAny_bind (wpAny_mono h3 (fun y s4 h4=>?_) nof))
   refine wpAny_bind (wpAny_holding (wpAny_mono h4 (fun x s5 h5=>?_) nof))
   exact wpAny_bind (wpAny_standAt (wpAny_holding (wpAny_mono h5 (fun _ s6 h6=>wpAny_pure ⟨rfl,h6⟩) nof)))
def DCW (J:It) (xs:List Str) (ix:List Nat) (g:TG) (tt:TT) (ty te:TE) (σ:St) (H1:Hp) (acc:Addr) (Q:VK):Prop:=
 ∃ W:Nat->Nat->List (Key × V)->St->Hp->Prop,(∃ m,W 0 m [] (stC xs ix σ) (upd H1 acc (.dK []))) /\
  ∀ i m ys τ H,W i m ys τ H->H acc=some (.dK ys)/\ys.length < sizeLine /\
   ((J.stop i H/\Q (.ref acc) H) \/ (J.go i H/\∃ N:List (Key × V)->St->Hp->Prop,(∀ ys' τ' H',N ys' τ' H'->∃ m',m' < m/\W (i + 1) m' ys' τ' H') /\
    ∀ x H',J.yld i H x H'->g x τ H' fun τ2 H2=>tt τ2 H2 fun b H3=>
    if b=true then ty τ2 H3 fun z H4=>te τ2 H4 fun y H5=>∃ k,z=kV k/\H5 acc=some (.dK ys)/\N (y8 ys k y) τ2 (upd H5 acc (.dK (y8 ys k y))) else N ys τ2 H3))
def tDC (xs:List Str) (ix:List Nat) (wi:TI) (g:TG) (tt:TT) (ty te:TE):TE:=fun σ H Q=>wi σ H fun J H1=>∀ acc,H1 acc=none->DCW J xs ix g tt ty te σ H1 acc Q
theorem bH {X:Cx} {qp:LAO} {σ:St} {H:Hp} {s:Shared} {A:Around} {E:VSP} {a:Addr} {k:Key} {v:V} {u r:Value} {kvs:List (Key × V)} {Q:Unit->Shared->Prop} (I:Inv X qp σ H s) (e:H a=some (.dK kvs)) (l:kvs.length < sizeLine) (ry:zV (kV k) u) (rv:zV v r)
  (h:∀ s',Inv X qp σ (upd H a (.dK (y8 kvs k v))) s'->Q () s'):wpAny (model X.prog X.w) A (dictSet a u r) Q E s:=by
 obtain ⟨z,hd,vs,rel,dd⟩:=zBV I.hok e
 have hz:vs.length <= sizeLine:=by rw [<- rel.length];exact z
 have hl:(y8 kvs k v).length <= sizeLine:=by have:=wK kvs k v;omega
 refine wpAny_dictSet_pairs (hsz:=hz) (rV ry) dd fun h' dd' hs=>h _ (qQ I (by rw [e];exact True.intro) hs ?_ (gX hl hd (rel.put k rv) dd'))
 obtain ⟨q,_,_,hq,_⟩:=dd'
 exact ⟨q,hq⟩
theorem zBY {Reg:Cx->Prop} {X:Cx} {xs:List Str} {ix:List Nat} {scope:Scope} {kx vx tg iter:Expr} {ifs:List Expr} {pos:Pos} {wi:TI} {g:TG} {tt:TT} {ty te:TE}
  (S:xJ X xs ix scope) (hreg:∀ Y:Cx,Y.K=X.K->Y.calm=X.calm->Y.A.handled=X.A.handled->Reg Y) (hi:PIG Reg X tg iter wi)
  (hg:∀ C fp s H,PG (cxC X xs ix scope C fp s H) tg g) (ht:∀ C fp s H,PTs (cxC X xs ix scope C fp s H) ifs tt) (hy:∀ C fp s H,PE (cxC X xs ix scope C fp s H) kx ty) (he:∀ C fp s H,PE (cxC X xs ix scope C fp s H) vx te)
  {qp:LAO} {s:Shared} {σ:St} {H:Hp} {Q:VK} (I:Inv X qp σ H s) (h:tDC xs ix wi g tt ty te σ H Q) {use:Option (Value->Sem Unit)} {R:VSP}
  (fin:∀ (acc C:Addr) (H':Hp) (s':Shared) (m:Str->Option Value),Q (.ref acc) H'->s'.heap.Ns C m->(∀ h',Heap.SameBut C s'.heap h'->∀ tk,Inv X qp σ H' { s' with heap:=h',toks:=tk })->(X.s₀.heap.objs.size <= C/\C ≠ X.env.locals/\(∀ x c,X.env.cells.lookup x=some c->c ≠ C)/\(∀ p ∈ X.pn ++ qp,p.1 ≠ C)/\H' C=none)->compPost (model X.prog X.w) X.A X.xe use R (.ref acc) C (.ok .next) s') :
  wpAny (model X.prog X.w) X.A (eval iter X.env) (fun x s₁=>wpAny (model X.prog X.w) X.A (pyIter x) (fun it s₂=>wpAny (model X.prog X.w) X.A newDict (fun acc s₃=>
   wpAny (model X.prog X.w) X.A (newFunctionEnv scope X.env.globals (clF X.env scope.names []) [] X.env.qual none .none (some X.env)) (fun cenv s₄=>
    codeAny (model X.prog X.w) X.A (.compStart (.DictComp kx vx [⟨tg,iter,ifs,0⟩] scope pos) 0 it acc { cenv with scope:=relabel scope X.env }) (compPost (model X.prog X.w) X.A X.xe use R acc cenv.locals) s₄) X.xe s₃) X.xe s₂) X.xe s₁) X.xe s:=by
 refine thn (hi qp s σ H _ I h) fun v s1 h1=>thn h1 fun itv s2 h2=>?_
 obtain ⟨it,fp,tn,J,H2,rfl,I2,T,st2,f2,q⟩:=h2
 refine wpAny_newObj_type ?_
 have I3:Inv X qp σ (upd H2 s2.heap.objs.size (.dK [])) { s2 with heap:=s2.heap.push { cls:=.type "dict",data:=.dict #[] },toks:=s2.toks }:=I2.laid (a:=s2.heap.objs.size) (o:=.dK []) (t':=s2.toks) (fun _ _ q=>Heap.get?_push_of_some _ q) (zKC _) (j3 s2.heap I2.big)
 obtain ⟨W,⟨m0,w0⟩,turn⟩:=q s2.heap.objs.size I2.fresh
 have objs2:=T.obj 0 _ st2
 have neacc:∀ b ∈ fp,b ≠ s2.heap.objs.size:=fun b hb z=>by
  obtain ⟨o,ho,_⟩:=objs2 b hb
  exact Nat.lt_irrefl _ (Nat.lt_of_lt_of_eq (Heap.lt_size ho) z.symm)
 generalize hacc:s2.heap.objs.size=acc at *
 generalize hs3:({ s2 with heap:=s2.heap.push { cls:=.type "dict",data:=.dict #[] } }:Shared)=s3
 have I3:Inv X qp σ (upd H2 acc (.dK [])) s3:=by rw [<- hs3];exact I3
 have k3:∀ b o,s2.heap.get? b=some o->s3.heap.get? b=some o:=fun b o e=>by rw [<- hs3];exact Heap.get?_push_of_some _ e
 have f3:∀ b ∈ fp,uV X qp (upd H2 acc (.dK [])) b:=fun b hb=>⟨by rw [zI (neacc b hb)];exact (f2 b hb).1,(f2 b hb).2⟩
 have o3:∀ b ∈ fp,∃ o,s3.heap.get? b=some o:=fun b hb=>let ⟨o,ho,_⟩:=objs2 b hb;⟨o,k3 b o ho⟩
 have st3:tn 0 s3.heap:=T.keep _ _ _ st2 fun b _ o e=>k3 b o e
 refine wpAny_newFunctionEnv S.nocell (by intro y hy;simp at hy) (fun h1 hns1 hsb1=>?_) S.kind
 have keep1:∀ b o,s3.heap.get? b=some o->h1.get? b=some o:=fun b o e=>hsb1.extBut b o (zKU (Heap.lt_size e)) (Heap.get?_push_of_some _ e)
 generalize hs4:({ s3 with heap:=h1,toks:=s3.toks + ([]:List (Str × Value)).length }:Shared)=s4
 have I4:Inv (cxC X xs ix scope s3.heap.objs.size fp s3 (upd H2 acc (.dK []))) [] (stC xs ix σ) (upd H2 acc (.dK [])) s4:=rY S I3 f3 o3 hns1 keep1 hs4.symm
 have st4:tn 0 s4.heap:=T.keep _ _ _ st3 fun b _ o e=>by rw [<- hs4];exact keep1 b o e
 generalize hX':cxC X xs ix scope s3.heap.objs.size fp s3 (upd H2 acc (.dK []))=X' at *
 have hg:=hg s3.heap.objs.size fp s3 (upd H2 acc (.dK []))
 have ht:=ht s3.heap.objs.size fp s3 (upd H2 acc (.dK []))
 have he:=he s3.heap.objs.size fp s3 (upd H2 acc (.dK []))
 have hy:=hy s3.heap.objs.size fp s3 (upd H2 acc (.dK []))
 rw [hX'] at hg ht he hy
 have eP:X'.prog=X.prog:=by rw [<- hX'];rfl
 have ew:X'.w=X.w:=by rw [<- hX'];rfl
 have eK:X'.K=X.K:=by rw [<- hX'];rfl
 have eA:X'.A=X.A:=by rw [<- hX'];rfl
 have ec:Reg X':=hreg X' eK (by rw [<- hX'];rfl) (by rw [<- hX'];rfl)
 have ex:X'.xe=fun _ _=>False:=by rw [<- hX'];rfl
 have eenv:X'.env=compEnvC scope (clF X.env scope.names []) s3.heap.objs.size X.env:=by rw [<- hX'];rfl
 have eex:X'.ex=fp:=by rw [<- hX'];rfl
 have efs:X'.fs=frs X.stack:=by rw [<- hX'];rfl
 have epn:X'.pn=[]:=by rw [<- hX'];rfl
 have eH0:X'.H₀=upd H2 acc (.dK []):=by rw [<- hX'];rfl
 have es0:X'.s₀=s3:=by rw [<- hX'];rfl
 have eloc:X'.env.locals=s3.heap.objs.size:=by rw [eenv];rfl
 have stat:∀ {H':Hp},(∀ b ∈ fp,H' b=none)->∀ b ∈ fp,uV X' [] H' b:=fun {H'} hn b hb=>by
  refine ⟨hn b hb,?_,?_,.inl (by rw [eex];exact hb),?_,?_⟩
  ·rw [eloc]
   intro z
   obtain ⟨o,ho⟩:=o3 b hb
   exact Nat.lt_irrefl _ (Nat.lt_of_lt_of_eq (Heap.lt_size ho) z.symm)
  ·exact I4.ok.exfs b (by rw [eex];exact hb)
  ·exact (I4.ok.exf b (by rw [eex];exact hb)).2
  ·rw [epn];intro p hp;exact absurd hp (by simp)
 have loop:codeAny (model X.prog X.w) X.A (.compLoop (.DictComp kx vx [⟨tg,iter,ifs,0⟩] scope pos) 0 (.ref it) (.ref acc) X'.env) (compPost (model X.prog X.w) X.A X.xe use R (.ref acc) s3.heap.objs.size) s4:=by
  refine zEZ (fun n s'=>∃ i ys τ H',Inv X' [] τ H' s'/\tn i s'.heap/\(∀ b ∈ fp,H' b=none)/\W i n ys τ H') ?_ m0 ⟨0,[],_,_,I4,st4,fun b hb=>(f3 b hb).1,w0⟩
  rintro n s5 ⟨i,ys,τ,H5,I5,st5,fr5,w5⟩
  obtain ⟨ha5,hz5,way⟩:=turn i n ys τ H5 w5
  rcases way with ⟨stop,qn⟩ | ⟨go,N,hN,step⟩
  ·have d:=T.done X' eP ew ec i [] s5 τ H5 (fun _ _=>False) I5 (stat fr5) st5 stop
   rw [eA] at d
   refine thn d fun r s6 hz58=>?_
   obtain ⟨hr,I6⟩:=hz58
   subst hr
   obtain ⟨m,hn6,_⟩:=id I6.loc
   rw [eloc] at hn6
   refine fin acc s3.heap.objs.size H5 s6 m qn hn6 (fun h' hsb tk=>?_) ⟨I3.sz,Ne.symm (zKU I3.lt),fun x c e z=>by
    obtain ⟨v,oc,hoc,_⟩:=I3.cell x c e
    exact Nat.lt_irrefl _ (Nat.lt_of_lt_of_eq (Heap.lt_size hoc) z.symm),fun p hp z=>Nat.lt_irrefl _ (Nat.lt_of_lt_of_eq (Heap.lt_size (I3.pin p hp).1) z.symm),by have:=I6.free;rw [eloc] at this;exact this⟩
   have same:∀ b,b ≠ s3.heap.objs.size->h'.get? b=s6.heap.get? b:=fun b hb=>hsb.2 b hb
   have ub:=I6.base
   rw [efs,eex,eH0,es0] at ub
   have ne3:∀ b o,s3.heap.get? b=some o->b ≠ s3.heap.objs.size:=fun b o e=>zKU (Heap.lt_size e)
   have u:Un (frs X.stack) fp (upd H2 acc (.dK [])) H5 s3.heap h':=
    ⟨fun b o e n1 n2 n3=>(same b (ne3 b o e)).trans (ub.keep b o e n1 n2 n3),fun b o e n1 n2 n3=>by
      obtain ⟨sl,z⟩:=ub.slot b o e n1 n2 n3
      exact ⟨sl,(same b (ne3 b o e)).trans z⟩,ub.free,fun b o e n3=>by
      obtain ⟨o',z⟩:=ub.there b o e n3
      exact ⟨o',(same b (ne3 b o e)).trans z⟩,ub.tups,ub.frzs,ub.tbls⟩
   have fC:H5 s3.heap.objs.size=none:=by have:=I6.free;rw [eloc] at this;exact this
   have hok:HOk X.prog X.w H5 h':=fun b o e=>by
    have z:=I6.hok b o e
    rw [eP,ew] at z
    refine z.stay (fun c u hc q=>(same c ?_).trans q) (fun _ q=>q) fun _ _ q=>q
    intro zc
    rcases hc with q1 | q1
    ·rw [<- q1,zc,fC] at e;cases e
    ·rw [zc,fC] at q1;cases q1
   have hch:∀ b ∈ fp,(b ∈ X.ex \/ X.s₀.heap.objs.size <= b)/\b ≠ X.env.locals/\(∀ x c,X.env.cells.lookup x=some c->c ≠ b)/\∀ p ∈ X.pn ++ qp,p.1 ≠ b:=fun b hb=>by
    obtain ⟨_,f1,_,g3,g4,g5⟩:=f3 b hb
    exact ⟨g3,f1,g4,g5⟩
   have ho:s6.os=s3.os:=by have:=I6.os;rw [es0] at this;exact this
   exact I3.call' (s':={ s6 with heap:=h',toks:=tk }) (ch:=fp) ho u hok I6.bare hch
  ·have d:=T.item X' eP ew ec i [] s5 τ H5 (fun _ _=>False) I5 (stat fr5) st5 go
   rw [eA] at d
   refine thn d fun r s6 hz59=>?_
   obtain ⟨u,hr,h6⟩:=hz59
   subst hr
   refine thn h6 fun _ s7 hz60=>?_
   obtain ⟨x,H7,I7,r7,y7,st7,fr7⟩:=hz60
   have I7':=I7.pinned (stat fr7) (T.obj _ _ st7)
   have dg:=hg _ s7 τ H7 x u _ I7' r7 (step x H7 y7)
   rw [eP,ew,eA,ex] at dg
   refine thn dg fun _ s8 hz61=>?_
   obtain ⟨τ8,H8,I8,q8⟩:=hz61
   have dt:=ht _ s8 τ8 H8 _ I8 q8
   rw [eP,ew,eA,ex] at dt
   refine thn dt fun ok s9 hz62=>?_
   obtain ⟨H9,I9,q9⟩:=hz62
   have again:∀ {τ':St} {H':Hp} {s':Shared},Inv X' ([] ++ rF fp s7.heap) τ' H' s'->Inv X' [] τ' H' s'/\tn (i + 1) s'.heap/\∀ b ∈ fp,H' b=none:=fun {τ' H' s'} Ie=>by
    refine ⟨Ie.unpinned,T.keep _ _ _ st7 fun b hb o e=>(Ie.pin (b,o) (zKH _ (zKH _ (wB hb e)))).1,fun b hb=>?_⟩
    obtain ⟨o,e,_⟩:=T.obj _ _ st7 b hb
    exact (Ie.pin (b,o) (zKH _ (zKH _ (wB hb e)))).2.1
   cases ok with
   | false=>
    rw [if_neg zKV] at q9 ⊢
    obtain ⟨m',hm,w9⟩:=hN _ _ _ q9
    obtain ⟨z1,z2,z3⟩:=again I9
    exact ⟨m',hm,i + 1,ys,τ8,H9,z1,z2,z3,w9⟩
   | true=>
    rw [if_pos rfl] at q9 ⊢
    have dy:=hy _ s9 τ8 H9 _ I9 q9
    rw [eP,ew,eA,ex] at dy
    refine thn dy fun kv s10 hz63=>?_
    obtain ⟨z,H10,I10,r10,q10⟩:=hz63
    have de:=he _ s10 τ8 H10 _ I10 q10
    rw [eP,ew,eA,ex] at de
    refine thn de fun yv s11 hz64=>?_
    obtain ⟨y,H11,I11,r11,k,ek,ha11,n11⟩:=hz64
    subst ek
    obtain ⟨m',hm,w11⟩:=hN _ _ _ n11
    have dm:=bH (X:=X') (A:=X.A) (E:=fun _ _=>False) (Q:=fun _ s'=>∃ m,m < n/\∃ i ys τ H',Inv X' [] τ H' s'/\tn i s'.heap/\(∀ b ∈ fp,H' b=none)/\W i m ys τ H') I11 ha11 hz5 r10 r11 fun s12 I12=>by
     obtain ⟨z1,z2,z3⟩:=again I12
     exact ⟨m',hm,i + 1,y8 ys k y,τ8,_,z1,z2,z3,w11⟩
    rw [eP,ew] at dm
    exact dm
 have e4:({ newEnv scope s3.heap.objs.size X.env.globals (clF X.env scope.names []) X.env.qual none .none (some X.env) builtinsNs with scope:=relabel scope X.env }:Env)=X'.env:=by rw [eenv];rfl
 rw [eenv] at loop
 have self:=T.self X.A 0 s4 (fun it' s'=>codeAny (model X.prog X.w) X.A (.compLoop (.DictComp kx vx [⟨tg,iter,ifs,0⟩] scope pos) 0 it' (.ref acc) (compEnvC scope (clF X.env scope.names []) s3.heap.objs.size X.env)) (compPost (model X.prog X.w) X.A X.xe use R (.ref acc) s3.heap.objs.size) s')
  (notedBy (model X.prog X.w) X.A (compEnvC scope (clF X.env scope.names []) s3.heap.objs.size X.env) fun x s'=>compPost (model X.prog X.w) X.A X.xe use R (.ref acc) s3.heap.objs.size (.error x) s') st4 loop
 exact codeAny_compStart_dict loop self
theorem zE0 {X:Cx} {xs:List Str} {ix:List Nat} {scope:Scope} {kx vx tg iter:Expr} {ifs:List Expr} {pos:Pos} {wi:TI} {g:TG} {tt:TT} {ty te:TE}
  (S:xJ X xs ix scope) (hc:X.calm=true) (hi:PI X tg iter wi)
  (hg:∀ C fp s H,PG (cxC X xs ix scope C fp s H) tg g) (ht:∀ C fp s H,PTs (cxC X xs ix scope C fp s H) ifs tt) (hy:∀ C fp s H,PE (cxC X xs ix scope C fp s H) kx ty) (he:∀ C fp s H,PE (cxC X xs ix scope C fp s H) vx te)
  {qp:LAO} {s:Shared} {σ:St} {H:Hp} {Q:VK} (I:Inv X qp σ H s) (h:tDC xs ix wi g tt ty te σ H Q) {use:Option (Value->Sem Unit)} {R:VSP}
  (fin:∀ (acc C:Addr) (H':Hp) (s':Shared) (m:Str->Option Value),Q (.ref acc) H'->s'.heap.Ns C m->(∀ h',Heap.SameBut C s'.heap h'->∀ tk,Inv X qp σ H' { s' with heap:=h',toks:=tk })->(X.s₀.heap.objs.size <= C/\C ≠ X.env.locals/\(∀ x c,X.env.cells.lookup x=some c->c ≠ C)/\(∀ p ∈ X.pn ++ qp,p.1 ≠ C)/\H' C=none)->compPost (model X.prog X.w) X.A X.xe use R (.ref acc) C (.ok .next) s') :
  wpAny (model X.prog X.w) X.A (eval iter X.env) (fun x s₁=>wpAny (model X.prog X.w) X.A (pyIter x) (fun it s₂=>wpAny (model X.prog X.w) X.A newDict (fun acc s₃=>
   wpAny (model X.prog X.w) X.A (newFunctionEnv scope X.env.globals (clF X.env scope.names []) [] X.env.qual none .none (some X.env)) (fun cenv s₄=>
    codeAny (model X.prog X.w) X.A (.compStart (.DictComp kx vx [⟨tg,iter,ifs,0⟩] scope pos) 0 it acc { cenv with scope:=relabel scope X.env }) (compPost (model X.prog X.w) X.A X.xe use R acc cenv.locals) s₄) X.xe s₃) X.xe s₂) X.xe s₁) X.xe s:=
 zBY (Reg:=fun Y=>Y.K=X.K/\Y.calm=true) S (fun Y k c _=>⟨k,c.trans hc⟩)
  (fun qp s σ H R I q=>thn (hi qp s σ H R I q) fun v s1 h1=>thn h1 fun itv s2 h2=>by
   obtain ⟨it,fp,tn,J,H',e,I',T,r⟩:=h2
   exact ⟨it,fp,tn,J,H',e,I',⟨T.mem,T.obj,T.keep,fun Y e1 e2 r=>T.item Y e1 e2 r.1 r.2,fun Y e1 e2 r=>T.done Y e1 e2 r.1 r.2,T.self⟩,r⟩) hg ht hy he I h fin
theorem zI5 {X:Cx} {xs:List Str} {ix:List Nat} {scope:Scope} {kx vx tg iter:Expr} {ifs:List Expr} {pos:Pos} {wi:TI} {g:TG} {tt:TT} {ty te:TE}
  (S:xJ X xs ix scope) (hc:X.calm=true) (hi:PI X tg iter wi)
  (hg:∀ C fp s H,PG (cxC X xs ix scope C fp s H) tg g) (ht:∀ C fp s H,PTs (cxC X xs ix scope C fp s H) ifs tt) (hy:∀ C fp s H,PE (cxC X xs ix scope C fp s H) kx ty) (he:∀ C fp s H,PE (cxC X xs ix scope C fp s H) vx te)
  (hs:∀ x,foldedSetIterable iter X.env x=pure x:=by intro _;rfl) :
  PE X (.DictComp kx vx [⟨tg,iter,ifs,0⟩] scope pos) (tDC xs ix wi g tt ty te):=by
 intro qp s σ H Q I h
 have hcl:∀ n,(n,NameKind.free) ∈ scope.names->(X.env.cells.lookup n).isSome=true:=fun n hn=>by
  obtain ⟨c,e⟩:=I.ok.has n (S.fre n hn)
  rw [e];rfl
 rw [arm_eval_DictComp]
 refine wpAny_comprehension_free (use:=none) rfl hs (uU hcl) S.kind S.loc ?_
 refine zE0 S hc hi hg ht hy he I h fun acc C H' s' m q hn k _=>?_
 exact ⟨m,hn,fun h' hsb=>⟨.ref acc,H',k h' hsb s'.toks,rfl,q⟩⟩
theorem zAI {X:Cx} {N:List Str} {sc:Scope} {x:Str} {ix:List Nat} {scope:Scope} {kx vx iter:Expr} {ifs:List Expr} {px pos:Pos} {wi:TI} {tt:TT} {ty te:TE}
  (hS:mC N sc [x] ix scope) (hi:PI X (.Name x px) iter wi)
  (ht:∀ C fp s H,PTs (cxC X [x] ix scope C fp s H) ifs tt) (hy:∀ C fp s H,PE (cxC X [x] ix scope C fp s H) kx ty) (he:∀ C fp s H,PE (cxC X [x] ix scope C fp s H) vx te)
  (hN:X.N=N:=by rfl) (hsc:X.env.scope=sc:=by rfl) (hc:X.calm=true:=by rfl)
  (hs:∀ x,foldedSetIterable iter X.env x=pure x:=by intro _;rfl) :
  PE X (.DictComp kx vx [⟨.Name x px,iter,ifs,0⟩] scope pos) (tDC [x] ix wi (wL 0) tt ty te):=by
 have S:=hS.at (X:=X) hN hsc
 have hl:∀ C fp s H,(cxC X [x] ix scope C fp s H).env.scope.names.lookup x=some .local:=fun _ _ _ _=>lookup_relabel_local (S.own x (by simp))
 exact zI5 S hc hi (fun C fp s H=>z4 S.nd rfl (Or.inl (hl C fp s H)) (.inr (hl C fp s H))) ht hy he hs
theorem j6 {K:W.Frag} {a:Addr} {its:List V} {xs:List Str} {ix:List Nat} {g:TG} {ty te:TE} {σ:St} {H1:Hp} {Q:VK} {acc:Addr} (hn:its.length < sizeLine) (Pv:Nat->List (Key × V)->St->Hp->Prop)
  (h0:Pv 0 [] (stC xs ix σ) (upd H1 acc (.dK []))) (hacc:∀ i ys τ H,Pv i ys τ H->H acc=some (.dK ys)/\ys.length <= i/\SqL K H a its)
  (hs:∀ i ys τ H x,its[i]?=some x->Pv i ys τ H->g x τ H fun τ2 H2=>ty τ2 H2 fun z H4=>te τ2 H4 fun y H5=>∃ k,z=kV k/\H5 acc=some (.dK ys)/\Pv (i + 1) (y8 ys k y) τ2 (upd H5 acc (.dK (y8 ys k y))))
  (hd:∀ ys τ H,Pv its.length ys τ H->Q (.ref acc) H):DCW (Itl K a) xs ix g qU ty te σ H1 acc Q:=by
 refine ⟨fun i m ys τ H=>m=its.length - i/\i <= its.length/\Pv i ys τ H,⟨its.length,by simp,zKD _,h0⟩,?_⟩
 rintro i m ys τ H ⟨rfl,hi,p⟩
 obtain ⟨a1,a2,a3⟩:=hacc i ys τ H p
 refine ⟨a1,by omega,?_⟩
 by_cases hlt:i < its.length
 ·refine .inr ⟨⟨its,its[i],a3,by simp [hlt]⟩,fun ys' τ' H'=>Pv (i + 1) ys' τ' H',fun ys' τ' H' p'=>⟨its.length - (i + 1),by omega,rfl,hlt,p'⟩,fun x H' y=>?_⟩
  obtain ⟨e,y⟩:=y
  subst e
  have ex:=y its a3
  have st:=hs i ys τ H' x ex p
  have e:(fun τ2 H2=>qU τ2 H2 fun b H3=>if b=true then ty τ2 H3 fun z H4=>te τ2 H4 fun y H5=>∃ k,z=kV k/\H5 acc=some (.dK ys)/\Pv (i + 1) (y8 ys k y) τ2 (upd H5 acc (.dK (y8 ys k y))) else Pv (i + 1) ys τ2 H3) =
    fun τ2 H2=>ty τ2 H2 fun z H4=>te τ2 H4 fun y H5=>∃ k,z=kV k/\H5 acc=some (.dK ys)/\Pv (i + 1) (y8 ys k y) τ2 (upd H5 acc (.dK (y8 ys k y))):=by
   funext τ2 H2
   simp only [qU,if_true]
  rw [e];exact st
 ·have ei:i=its.length:=by omega
  subst ei
  exact .inl ⟨⟨its,a3,zKC _⟩,hd ys τ H p⟩
section
variable {X:Cx}
def oO (H:Hp):Nat->V->V->Prop
 | 0,x,y=>x=y/\(wP x=true \/ ∃ a,x=.ref a)
 | n + 1,x,y=>(x=y/\(wP x=true \/ ∃ a,x=.ref a)) \/ ∃ a b xs ys,x=.ref a/\y=.ref b/\((H a=some (.lst xs)/\H b=some (.lst ys)) \/ (H a=some (.tup xs)/\H b=some (.tup ys)))/\xs.length=ys.length /\
   ∀ (i:Nat) (u v:V),xs[i]?=some u->ys[i]?=some v->oO H n u v
theorem hu4 {A:Around} {k:Nat} (hr:zX k A):A.units + 4 < cLine:=Nat.lt_of_le_of_lt (Nat.add_le_add_left (by decide:4 <= 64) _) hr.units
theorem zFZ {qp:LAO} {σ:St} {H:Hp} {s:Shared} {A:Around} {x:V} {v u:Value} (rx:zV x v) (ry:zV x u) (h:wP x=true \/ ∃ a,x=.ref a):SeqAt.EqAt A s v u true:=by
 rcases h with f | ⟨a,rfl⟩
 ·have:=gT (A:=A) (s:=s) rx ry f f
  rw [jW f] at this
  exact this
 ·cases rx;cases ry
  exact SeqAt.EqAt.same _
theorem tV {xs ys:List V} {i1 i2:List Value} (r1:zP xs i1) (r2:zP ys i2) (hl:xs.length=ys.length) (j:Nat) (g1:j < i1.toArray.size) (g2:j < i2.toArray.size) :
  ∃ x y,xs[j]?=some x/\ys[j]?=some y/\zV x i1.toArray[j]/\zV y i2.toArray[j]:=by
 have l1:=r1.length
 have l2:=r2.length
 have g1':j < i1.length:=by simpa using g1
 have g2':j < i2.length:=by simpa using g2
 obtain ⟨u,eu,ru⟩:=r1.get (i:=j) (zJ4 (by omega:j < xs.length))
 obtain ⟨v,ev,rv⟩:=r2.get (i:=j) (zJ4 (by omega:j < ys.length))
 have eu':i1.toArray[j]=u:=by
  rw [zJ4 g1'] at eu
  simpa using zKA eu
 have ev':i2.toArray[j]=v:=by
  rw [zJ4 g2'] at ev
  simpa using zKA ev
 rw [eu',ev']
 exact ⟨_,_,zJ4 (by omega),zJ4 (by omega),ru,rv⟩
theorem zEE {qp:LAO} {σ:St} {H:Hp} {s:Shared} (I:Inv X qp σ H s):∀ (n:Nat) {A:Around} {x y:V} {v u:Value},zV x v->zV y u->oO H n x y->A.units + n < cLine->SeqAt.EqAt A s v u true:=by
 intro n
 induction n with
 | zero=>
  intro A x y v u rx ry h _
  obtain ⟨rfl,h⟩:=h
  exact zFZ (qp:=qp) (σ:=σ) (H:=H) rx ry h
 | succ n ih=>
  intro A x y v u rx ry h hu
  rcases h with ⟨rfl,h⟩ | ⟨a,b,xs,ys,rfl,rfl,h,hl,each⟩
  ·exact zFZ (qp:=qp) (σ:=σ) (H:=H) rx ry h
  cases rx;cases ry
  by_cases e:a=b
  ·subst e;exact SeqAt.EqAt.same _
  have hu1:A.in1.units + n < cLine:=by
   have e:A.in1.units=A.units + 1:=rfl
   omega
  refine SeqAt.EqAt.of_refs e ?_
  have hu0:A.units < cLine:=by omega
  rcases h with ⟨ha,hb⟩ | ⟨ha,hb⟩
  ·obtain ⟨i1,r1,p1,_⟩:=I.list (.of ha)
   obtain ⟨i2,r2,p2,_⟩:=I.list (.of hb)
   have l1:=r1.length
   have l2:=r2.length
   have key:=SeqAt.RcAt.lists (A:=A) (e:=fun _=>true) p1.isList p2.isList (by rw [zKB,zKB,<- l1,<- l2,hl]) hu0 (fun j g1 g2=>by
    obtain ⟨x,y,ex,ey,rx,ry⟩:=tV r1 r2 hl j g1 g2
    exact ih rx ry (each j x y ex ey) hu1)
   rw [show (List.range i1.toArray.size).all (fun _=>true)=true by simp] at key
   exact key
  ·obtain ⟨i1,r1,t1,_⟩:=I.tuple (.of ha)
   obtain ⟨i2,r2,t2,_⟩:=I.tuple (.of hb)
   have l1:=r1.length
   have l2:=r2.length
   have key:=SeqAt.RcAt.tuples (A:=A) (s:=s) (l:=a) (b:=b) (e:=fun _=>true) (show s.heap.IsTuple a i1.toArray from t1) (show s.heap.IsTuple b i2.toArray from t2) hu0 (fun j g1 g2=>by
    obtain ⟨x,y,ex,ey,rx,ry⟩:=tV r1 r2 hl j g1 g2
    exact ih rx ry (each j x y ex ey) hu1)
   rw [show ((List.range (min i1.toArray.size i2.toArray.size)).all (fun _=>true) && i1.toArray.size == i2.toArray.size)=true by
    rw [zKB,zKB,<- l1,<- l2,hl];simp] at key
   exact key
theorem oO.str {H:Hp} {n:Nat} (z:Str):oO H n (.str z) (.str z):=by
 cases n with
 | zero=>exact ⟨rfl,.inl rfl⟩
 | succ n=>exact .inl ⟨rfl,.inl rfl⟩
theorem pQ {H:Hp} {n:Nat} (zs:List Str):∀ (i:Nat) (u v:V),(zs.map V.str)[i]?=some u->(zs.map V.str)[i]?=some v->oO H n u v:=fun i u v e1 e2=>by
 rw [e1] at e2
 cases e2
 rw [zJ9] at e1
 cases h:zs[i]? with
 | none=>rw [h] at e1;cases e1
 | some z=>rw [h] at e1;cases e1;exact oO.str z
theorem bK:xK X (.builtin "len") (fun xs H Q=>∃ (p:Addr) (kvs:List (Key × V)),xs=[.ref p]/\H p=some (.dK kvs)/\Q (.int kvs.length) H):=by
 intro qp s σ H xs us Q I r h
 obtain ⟨p,kvs,rfl,hP,q⟩:=h
 obtain ⟨u,rfl,rx⟩:=uH r
 cases rx
 obtain ⟨hz,hS,vs,rv,m⟩:kvs.length <= sizeLine/\(p == sysModules)=false/\∃ vs,KV kvs vs/\s.heap.DictOf (yC X.prog X.w) p vs:=I.hok p _ hP
 have hlen:kvs.length=vs.length:=Paired.length rv
 have hl:=tU
 exact call_len_dict hS m (by omega) ⟨.int kvs.length,H,I.tok _,⟨_,by rw [hlen]⟩,q⟩
end
end L2
namespace K83
open PySem L2
def top (i:Nat):Stmt:=PySem.Challenge.pw_treeright_k83_tree_texts_spoilt.main.body.getD i (.Pass ⟨0,0,0,0⟩)
abbrev kW:Stmt:=top 18
abbrev mU:Stmt:=top 36
abbrev qI:Stmt:=top 37
abbrev eJ:Stmt:=top 38
def Src (H:Hp) (p:Addr):Prop:=∃ a b c:Int,H p=some (.lst [.int a,.int b,.int c])
def sS (z:Str):Prop:=∀ c ∈ z.cps.toList,xD c=true
theorem zE7:∀ c ∈ abc.cps.toList,xD c=true:=by decide +kernel
theorem lF {x y:Str} (h1:sS x) (h2:sS y):sS (x ++ y):=by
 intro c hc
 have e:(x ++ y).cps.toList=x.cps.toList ++ y.cps.toList:=by
  show (x.cps ++ y.cps).toList=_
  simp
 rw [e] at hc
 exact (zKK.mp hc).elim (h1 c) (h2 c)
theorem lE {ch:Nat} (h:ch ∈ abc.cps.toList):sS ⟨#[ch]⟩:=fun c hc=>by
 have e:c=ch:=by simpa using hc
 rw [e];exact zE7 ch h
theorem nA {x:Str} (h:sS x) (lo hi:Option Int):sS (Txt.slice x lo hi):=by
 intro c hc
 unfold Txt.slice at hc
 split at hc
 ·exact h c hc
 ·simp only [List.mem_filterMap] at hc
  obtain ⟨i,_,e⟩:=hc
  exact h c (by
   rw [<- Array.getElem?_toList] at e
   exact zJ7 e)
theorem jT:∀ (zs:List Str) (acc:Array Nat),(∀ c ∈ acc.toList,xD c=true)->(∀ z ∈ zs,sS z)->∀ c ∈ (zs.foldl (fun acc p=>acc ++ (Str.ofString "").cps ++ p.cps) acc).toList,xD c=true
 | [],acc,h,_=>h
 | z :: zs,acc,h,hz=>by
  rw [List.foldl_cons]
  refine jT zs _ (fun c hc=>?_) fun y hy=>hz y (zKG _ hy)
  have hc':c ∈ acc.toList ++ (Str.ofString "").cps.toList ++ z.cps.toList:=by simpa using hc
  rcases zKK.mp hc' with q | q
  ·rcases zKK.mp q with q | q
   ·exact h c q
   ·exact absurd q (by show ¬ c ∈ ([]:List Nat);simp)
  ·exact hz z zKW c q
theorem zA4 (zs:List Str) (h:∀ z ∈ zs,sS z):sS (Txt.join (Str.ofString "") zs):=by
 cases zs with
 | nil=>intro c hc;exact absurd hc (by show ¬ c ∈ ([]:List Nat);simp)
 | cons z zs=>
  show ∀ c ∈ ((zs.foldl (fun acc p=>acc ++ (Str.ofString "").cps ++ p.cps) z.cps)).toList,xD c=true
  exact jT zs _ (h z zKW) fun y hy=>h y (zKG _ hy)
theorem dH {z:Str} (h:sS z) (h1:1 <= z.length) (h2:z.length <= 8):xV z=true:=by
 unfold xV
 rw [zKI h1,zKI h2]
 simp only [Bool.true_and]
 exact List.all_eq_true.mpr h
section
variable {P:Program} {w:World} {K:W.Frag} {mg:Str->Option Value} {base:Heap} {C:Addr}
def mK:Sp:=fun vs H Q _=>∃ a k,vs=[.int a,.int k]/\∀ v:Int,0 <= v->v < 2147483629->Q (.int v) H
theorem qG:zO ["_law_cell","_law_k","_law_number"] ["_law_cell","_law_k"] (zF mU):=scm
theorem zDW (G:yD K mg "_law_mixed" mU ["_law_cell","_law_k"]):Cal P w K mg base CX0 1 "_law_mixed" ["_law_cell","_law_k"] mK:=by
 refine G.ok qG (fun vs H Q E h=>by obtain ⟨a,k,rfl,_⟩:=h;rfl) (fun f cdv A outer s H vs Q E hr h=>?_)
 obtain ⟨a,k,rfl,q⟩:=h
 refine ⟨_,zE (zL (i:=2) qG.nd rfl (Or.inl rfl) (zN wN (zN uP (zN yT (zN yT (zN wN (pv 0) zG) (zN uP zG (pv 1))) zG) zG) zG))
  (zE (zL (i:=2) qG.nd rfl (Or.inl rfl) (zN wN (zN uP (pv 2) (zN yT (zN qK (pv 2) zG) zG)) zG))
  (zE (zL (i:=2) qG.nd rfl (Or.inl rfl) (zN wN (zN uP (pv 2) (zN yT (zN yT (zN qK (pv 2) zG) zG) (pv 1))) zG))
  (zJ (zT (zN wN (zN uP (pv 2) (zN yT (zN qK (pv 2) zG) zG)) zG))))),?_⟩
 simp [rZ,r8,zCN,tOp,rI,rI0,vS,tC,wL,L2.start,bQ,zFE]
 refine ⟨by omega,by omega,by omega,q _ (by omega) (by omega)⟩
def kP:Sp:=fun vs H Q _=>∃ a,vs=[.int a]/\∀ (p:Addr) (b c d:Int),H p=none->Q (.ref p) (upd H p (.lst [.int b,.int c,.int d]))
theorem aM:zO ["_law_cell"] ["_law_cell"] (zF qI):=scm
theorem zAU (G:yD K mg "_law_digits" qI ["_law_cell"]):Cal P w K mg base CX0 1 "_law_digits" ["_law_cell"] kP:=by
 refine G.ok aM (fun vs H Q E h=>by obtain ⟨a,rfl,_⟩:=h;rfl) (fun f cdv A outer s H vs Q E hr h=>?_)
 obtain ⟨a,rfl,q⟩:=h
 refine ⟨_,zJ (zT (yP (zA (zN uP (zN qK (pv 0) zG) (zN rH zG (zN wN (pv 0) zG))) (zA (pv 0) (zA zG zB))))),?_⟩
 simp [rZ,r8,zCN,tOp,rI,rI0,vS,tC,wL,L2.start,bQ,zFE,cC,z7,vF]
 refine ⟨by omega,cI (by decide) |> Nat.le_of_lt,fun p hp=>q p _ _ _ hp⟩
def tQ:Sp:=fun vs H Q _=>∃ (p:Addr) (a b c m:Int),vs=[.ref p,.int m]/\H p=some (.lst [.int a,.int b,.int c])/\0 < m/\m < 4611686018427387904 /\
 ∀ v a' c':Int,0 <= v->v < m->Q (.int v) (upd H p (.lst [.int a',.int b,.int c']))
theorem aJ:zO ["_law_source","_law_many","_law_found"] ["_law_source","_law_many"] (zF eJ):=scm
theorem zHK (G:yD K mg "_law_next" eJ ["_law_source","_law_many"]) (CM:Cal P w K mg base CX0 1 "_law_mixed" ["_law_cell","_law_k"] mK):Cal P w K mg base CX0 2 "_law_next" ["_law_source","_law_many"] tQ:=by
 refine G.ok aJ (fun vs H Q E h=>by obtain ⟨p,a,b,c,m,rfl,_⟩:=h;rfl) (fun f cdv A outer s H vs Q E hr h=>?_)
 obtain ⟨p,a,b,c,m,rfl,hp,m0,m1,q⟩:=h
 refine ⟨_,zE (yW (zZ zI7 (yI yA (pv 0) zG (fun _ _=>rfl)) zG (z6 _))
   (zE (zL (i:=2) aJ.nd rfl (Or.inl rfl) (zN wN (yI yA (pv 0) zG (fun _ _=>rfl)) (pv 1)))
   (zE (vO (zN zAS (yI yA (pv 0) zG (fun _ _=>rfl)) (pv 1)) (mY (pv 0) zG sF))
   (zJ (zT (pv 2))))) yE)
  (zE (vO (zN yT (yI yA (pv 0) zG (fun _ _=>rfl)) zG) (mY (pv 0) zG sF))
  (zJ (zT (zN wN (zK CM hr (zA (yI yA (pv 0) zG (fun _ _=>rfl)) (zA (yI yA (pv 0) zG (fun _ _=>rfl)) zB))) (pv 1))))),?_⟩
 simp [rZ,r8,zCN,tOp,rI,rI0,vS,tC,wL,L2.start,bQ,zFE,cC,z7,vF,iR,zFH,fR,zJR,zI0,zFW,fS,mK,hp,atI,ixN,zC,sB]
 refine qA (fun h1=>⟨m0,⟨m0,m1⟩,q _ _ _ (Int.emod_nonneg _ (by omega)) (Int.emod_lt_of_pos _ m0)⟩) (fun h1 v v0 v1=>⟨m0,q _ _ _ (Int.emod_nonneg _ (by omega)) (Int.emod_lt_of_pos _ m0)⟩)
def yB (z:Str):Prop:=xV z=true/\z.length <= 8
def iV (K:W.Frag):Sp:=fun vs H Q _=>∃ (x:V) (T:String),vs=[x]/\yK K H x T/\(∀ z,x=.str z->z.length <= 100000)/\∀ H',zD [] H H'->Q (.bl (vJ x)) H'
theorem zGQ:zO ["thing"] ["thing"] (zF kW):=scm
theorem zHL (G:yD K mg "is_name" kW ["thing"]) (bI:Blt mg "isinstance") (bS:Blt mg "str") (bL:Blt mg "len") (bA:Blt mg "all") (gL:Glo mg "LETTERS" (.str abc)) (g8:Glo mg "LONGEST_NAME" (.int 8)) :
  Cal P w K mg base CX0 1 "is_name" ["thing"] (iV K):=by
 refine G.ok zGQ (fun vs H Q E h=>by obtain ⟨x,T,rfl,_⟩:=h;rfl) (fun f cdv A outer s H vs Q E hr h=>?_)
 obtain ⟨x,T,rfl,pt,hz,q⟩:=h
 refine ⟨_,zE (yW (xT (xF (zM xO bI yF (zA (pv 0) (zA (pF bS zB4) zB))))) (zJ (zT pG)) yE)
  (zJ (zT (vQ (jH dD dD zG (zM zU bL yH (zA (pv 0) zB)) (xU g8))
   (vP (zM (vY rfl) bA rN (zA (wM (N:=["thing"]) (sc:=zF kW) (ix:=[]) (by decide +kernel) (zAC (pv 0)) (fun _ _ _ _=>xB)
    (fun C fp s H=>wF oX (pv 0) (xU gL) (by with_unfolding_all rfl))) zB)))))),?_⟩
 refine ⟨_,rfl,_,_,_,_,rfl,pt.ty,pt.kit.1,_,rfl,?_⟩
 cases pt with
 | str z=>
  have hz:=hz z rfl
  refine zEN ?_
  refine ⟨_,rfl,_,z.length,rfl,⟨by rw [sizeLine_eq];omega,rfl⟩,_,_,rfl,rfl,_,rfl,?_⟩
  refine qA (fun h1=>?_) (fun h1=>?_)
  ·refine ⟨_,_,rfl,rfl,_,rfl,?_⟩
   refine qA (fun h2=>?_) (fun h2=>?_)
   ·refine ⟨_,rfl,z,rfl,fun acc ha=>?_⟩
    refine dM (by rw [sizeLine_eq];show z.length < _;omega) (fun i ys τ H2=>∃ (k:Option V),τ=[k]/\ys=(z.cps.toList.take i).map (fun c=>V.bl (xD c))/\i <= z.cps.size/\zD [acc] H H2/\H2 acc=some (.lst ys)) ?_ ?_ ?_ ?_
    ·exact ⟨_,rfl,rfl,zKD _,zD.at (by simp),zC⟩
    ·rintro i ys τ H2 ⟨k,rfl,rfl,hi,kp,h3⟩
     exact ⟨h3,by simp;omega⟩
    ·rintro i ys τ H2 hi ⟨k,rfl,rfl,_,kp,h3⟩
     refine ⟨_,rfl,_,_,rfl,rfl,h3,_,rfl,?_,hi,kp.trans (zD.at (by simp)),zC⟩
     rw [List.take_add_one,zKF]
     congr 1
     have e:z.cps.toList[i]?=some (z.cps.getD i 0):=by
      rw [Array.getElem?_toList,zK2,Array.getElem?_eq_getElem hi];rfl
     rw [e];rfl
    ·rintro ys τ H2 ⟨k,rfl,rfl,_,kp,h3⟩
     refine ⟨acc,z.cps.toList.map xD,rfl,.of ?_,?_⟩
     ·rw [h3,zKS (by simp),zKN];rfl
     ·rw [uF]
      have e:vJ (.str z)=z.cps.toList.all xD:=by
       show (decide (1 <= z.length) && decide (z.length <= 8) && _)=_
       have e1:1 <= z.length:=by have:=of_decide_eq_true h1;omega
       have e2:z.length <= 8:=by have:=of_decide_eq_true h2;omega
       rw [zKI e1,zKI e2];rfl
      rw [<- e]
      exact q _ (kp.drop ha)
   ·have e:vJ (.str z)=false:=by
     show (decide (1 <= z.length) && decide (z.length <= 8) && _)=_
     have e2:¬ z.length <= 8:=fun z'=>h2 (zKI (by omega))
     rw [zKJ e2];simp
    rw [<- e]
    exact q _ (zD.refl _)
  ·refine ⟨_,rfl,zEN ?_⟩
   have e:vJ (.str z)=false:=by
    show (decide (1 <= z.length) && decide (z.length <= 8) && _)=_
    have e2:¬ 1 <= z.length:=fun z'=>h1 (zKI (by omega))
    rw [zKJ e2];simp
   rw [<- e]
   exact q _ (zD.refl _)
 | _=>exact zJM (q H (zD.refl _))
theorem iS {xs:List Str} {te:TE} {n:Nat} {σ:St} {H1:Hp} {Q:VK} {acc p:Addr} {ix:List Nat} {rest:List (Option V)} (hn:n <= 100) (hs:Src H1 p) (ha:H1 acc=none)
  (hσ:stC xs ix σ=none :: rest)
  (ht:∀ (k:V) (H2:Hp) (R:VK),Src H2 p->(∀ (ch:Nat) (H3:Hp),ch ∈ abc.cps.toList->zD [p] H2 H3->Src H3 p->R (.str ⟨#[ch]⟩) H3)->te (some k :: rest) H2 R)
  (q:∀ (zs:List Str) (H2:Hp),zs.length=n->(∀ z ∈ zs,sS z/\z.length=1)->zD [p] H1 H2->Src H2 p->H2 acc=some (.lst (zs.map V.str))->Q (.ref acc) H2) :
  LCW (Itr 0 n) xs ix (wL 0) qU te σ H1 acc Q:=by
 have pa:acc ≠ p:=by
  obtain ⟨a,b,c,h⟩:=hs
  exact Ne.symm (zH h ha)
 refine rK (by rw [sizeLine_eq];omega) (fun i ys τ H2=>∃ (zs:List Str) (k:Option V),τ=k :: rest/\ys=zs.map V.str/\zs.length=i/\(∀ z ∈ zs,sS z/\z.length=1)/\zD [acc,p] H1 H2/\Src H2 p/\H2 acc=some (.lst ys)) ?_ ?_ ?_ ?_
 ·obtain ⟨a,b,c,h⟩:=hs
  exact ⟨[],none,hσ,rfl,rfl,(fun z hz=>by cases hz),zD.at (by simp),⟨a,b,c,by rw [zI (Ne.symm pa)];exact h⟩,zC⟩
 ·rintro i ys τ H2 ⟨zs,k,rfl,rfl,hl,_,_,_,h2⟩
  exact ⟨h2,by rw [zJ3];omega⟩
 ·rintro i ys τ H2 hi ⟨zs,k,rfl,rfl,hl,h1,kp,hs2,h2⟩
  refine ht _ H2 _ hs2 fun ch H3 hc k3 hz65=>?_
  obtain ⟨a,b,c,hs3⟩:=hz65
  refine ⟨k3 _ _ (by simp [pa]) h2,zs ++ [⟨#[ch]⟩],_,rfl,by simp,by simp [hl],?_,(kp.trans (k3.mono (by simp))).trans (zD.at (by simp)),⟨a,b,c,by rw [zI (Ne.symm pa)];exact hs3⟩,zC⟩
  intro z hz
  rcases zKK.mp hz with z1 | z1
  ·exact h1 z z1
  ·rw [zJ6.mp z1];exact ⟨lE hc,rfl⟩
 ·rintro ys τ H2 ⟨zs,k,rfl,rfl,hl,h1,kp,hs2,h2⟩
  exact q zs H2 hl h1 (kp.drop ha) hs2 h2
theorem fT (zs:List Str) (h:∀ z ∈ zs,sS z/\z.length=1):(zs.map (·.length)).sum=zs.length:=kK zs fun z hz=>(h z hz).2
end
abbrev mS:Stmt:=top 19
abbrev jA:Stmt:=top 20
abbrev zC3:Stmt:=top 21
abbrev eL:Stmt:=top 22
abbrev zC4:Stmt:=top 23
abbrev kZ:Stmt:=top 24
section
variable {P:Program} {w:World} {K:W.Frag} {mg:Str->Option Value} {base:Heap} {C:Addr}
theorem zC2:zO ["thing","houses"] ["thing","houses"] (zF mS):=scm
theorem bD (zs:List Str):(zs.map V.str).all wP=true:=by
 rw [List.all_map,List.all_eq_true];exact fun _ _=>rfl
theorem zGT:zO ["thing"] ["thing"] (zF jA):=scm
theorem zIS:zO ["names"] ["names"] (zF zC3):=scm
theorem zGU:zO ["thing"] ["thing"] (zF eL):=scm
def aE:Sp:=fun vs H Q _=>∃ (a:Addr) (zs:List Str),vs=[.ref a]/\H a=some (.lst (zs.map V.str))/\(∀ z ∈ zs,yB z)/\zs.Nodup/\1 <= zs.length/\zs.length < 60/\∀ H',zD [] H H'->Q (.bl true) H'
theorem aH:zO ["thing","houses","one","other"] ["thing","houses"] (zF zC4):=scm
def zFM:Sp:=fun vs H Q _=>∃ (t a:Addr) (p:Str × Str) (zs:List Str),vs=[.ref t,.ref a]/\H t=some (.tup (zQ p))/\H a=some (.lst (zs.map V.str))/\(∀ z ∈ zs,yB z)/\p.1 ∈ zs/\p.2 ∈ zs/\p.1 ≠ p.2/\∀ H',zD [] H H'->Q (.bl true) H'
theorem zGS:zO ["thing","houses"] ["thing","houses"] (zF kZ):=scm
def xN (zs:List Str) (p:Str × Str):Prop:=p.1 ∈ zs/\p.2 ∈ zs/\p.1 ≠ p.2
def aD:Sp:=fun vs H Q _=>∃ (b a:Addr) (ps:LSS) (zs:List Str),vs=[.ref b,.ref a]/\Rows H b (ps.map zQ)/\H a=some (.lst (zs.map V.str))/\(∀ z ∈ zs,yB z)/\(∀ p ∈ ps,xN zs p)/\ps.length + 1=zs.length/\zs.length <= 1000/\∀ H',zD [] H H'->Q (.bl true) H'
theorem zHO (G:yD K mg "are_ties" kZ ["thing","houses"]) (CT:Cal P w K mg base CX0 3 "is_tie" ["thing","houses"] zFM) (b_isinstance:Blt mg "isinstance") (b_list:Blt mg "list") (b_len:Blt mg "len") (b_all:Blt mg "all"):Cal P w K mg base CX0 4 "are_ties" ["thing","houses"] aD:=by
 refine G.ok zGS (fun vs H Q E h=>by obtain ⟨b,a,ps,zs,rfl,_⟩:=h;rfl) (fun f cdv A outer s H vs Q E hr h=>?_)
 obtain ⟨b,a,ps,zs,rfl,⟨qs,hb,hq⟩,ha,gz,tz,lp,lz,q⟩:=h
 have hr3:zX 3 _:=hr
 have lq:=zW hq
 rw [zJ3] at lq
 refine ⟨_,(zE (yW (PW.pt (vB (xT (xF (zM xO b_isinstance yF (zA (pv 0) (zA (pF b_list sP) zB))))) (uO (zZ tI (zM zU b_len yH (zA (pv 0) zB)) (zN rH (zM zU b_len yH (zA (pv 1) zB)) zG) (z6 _))))) (zJ (zT pG)) yE)
   (zJ (zT (zM (vY rfl) b_all rN (zA (wM (N:=["thing","houses"]) (sc:=zF kZ) (ix:=[1]) (by decide +kernel) (yY (pv 0)) (fun _ _ _ _=>xB) (fun _ _ _ _=>(zK CT hr3 (zA (pv 0) (zA (pv 1) zB))))) zB))))),?_⟩
 have pt:yK K H (.ref b) "list":=.lst hb
 refine ⟨_,rfl,_,_,_,_,rfl,pt.ty,pt.kit.2.2.2.1,_,rfl,ifF rfl ?_⟩
 refine ⟨_,rfl,_,_,rfl,.inl ⟨_,.of hb,rfl⟩,_,rfl,_,_,rfl,.inl ⟨_,.of ha,rfl⟩,_,_,rfl,rfl,rfl,_,rfl,ifF ?_ ?_⟩
 ·rw [zJ3,zJ3]
  simp;omega
 refine ⟨_,rfl,b,rfl,⟨_,.of hb⟩,fun acc hacc=>?_⟩
 have ba:b ≠ acc:=zH hb hacc
 have aa:a ≠ acc:=zH ha hacc
 refine vV (K:=K) (a:=b) (its:=qs.map V.ref) (by rw [zJ3,sizeLine_eq];omega) (fun i ys τ H1=>∃ k:Option V,τ=[k,some (.ref a)]/\ys=(List.replicate i true).map V.bl/\zD [acc] H H1/\H1 acc=some (.lst ys)) ?_ ?_ ?_ ?_
 ·exact ⟨_,rfl,rfl,zD.at (by simp),zC⟩
 ·rintro i ys τ H1 ⟨k,rfl,rfl,kp,h1⟩
  exact ⟨h1,by simp,.of (kp _ _ (by simp [ba]) hb)⟩
 ·rintro i ys τ H1 x hx ⟨k,rfl,rfl,kp,h1⟩
  rw [zJ9] at hx
  cases et:qs[i]? with
  | none=>rw [et] at hx;cases hx
  | some t=>
  rw [et] at hx
  have ex:V.ref t=x:=zKA hx
  subst ex
  obtain ⟨r,er,ht⟩:=yQ hq i t et
  rw [zJ9] at er
  cases ep:ps[i]? with
  | none=>rw [ep] at er;cases er
  | some p=>
  rw [ep] at er
  have er':zQ p=r:=zKA er
  subst er'
  obtain ⟨m1,m2,ne⟩:=tz p (zJ7 ep)
  have ta:t ≠ acc:=zH ht hacc
  refine ⟨_,rfl,_,rfl,t,a,p,zs,rfl,kp _ _ (by simp [ta]) ht,kp _ _ (by simp [aa]) ha,gz,m1,m2,ne,fun H2 k2=>⟨k2 _ _ (by simp) h1,_,rfl,?_,(kp.trans (k2.mono (by simp))).trans (zD.at (by simp)),zC⟩⟩
  rw [List.replicate_succ',zKF];rfl
 ·rintro ys τ H1 ⟨k,rfl,rfl,kp,h1⟩
  refine ⟨acc,List.replicate _ true,rfl,.of h1,?_⟩
  rw [show (List.replicate (qs.map V.ref).length true).all id=true by simp]
  exact q _ (kp.drop hacc)
end
def dz (zs:List Str) (f:Str->V):List (Key × V):=zs.map fun z=>(Sum.inr z,f z)
theorem w6 {zs:List Str} {f:Str->V} {z:Str} (h:z ∈ zs):sX (dz zs f) (Sum.inr z)=some (f z):=by
 unfold dz
 induction zs with
 | nil=>cases h
 | cons y zs ih=>
  rw [List.map_cons]
  by_cases e:y=z
  ·subst e;exact t9 rfl
  ·have hz:z ∈ zs:=by rcases List.mem_cons.mp h with q | q;exact absurd q.symm e;exact q
   rw [uK (by simpa using e)]
   exact ih hz
theorem uX {zs:List Str} {f:Str->V} {z:Str} (h:z ∉ zs):sX (dz zs f) (Sum.inr z)=none:=by
 unfold dz
 induction zs with
 | nil=>rfl
 | cons y zs ih=>
  have e:y ≠ z:=fun e=>h (by simp [e])
  rw [List.map_cons,uK (by simpa using e)]
  exact ih fun q=>h (zKG _ q)
theorem mV {zs:List Str} {f:Str->V} {z:Str} {v:V} (h:z ∉ zs):y8 (dz zs f) (Sum.inr z) v=dz (zs ++ [z]) (fun y=>if y=z then v else f y):=by
 have no:((dz zs f).any fun kv=>decide (kv.1=Sum.inr z))=false:=by
  unfold dz
  rw [List.any_map,List.any_eq_false]
  intro y hy
  simp only [Function.comp]
  simp
  rintro rfl;exact h hy
 unfold y8
 rw [no,if_neg (by simp)]
 unfold dz
 rw [zKF]
 congr 1
 ·refine List.map_congr_left fun y hy=>?_
  have e:y ≠ z:=fun e=>h (e ▸ hy)
  show _=(Sum.inr y,if y=z then v else f y)
  rw [if_neg e]
 ·simp
theorem vC {zs:List Str} {f g:Str->V} (h:∀ z ∈ zs,f z=g z):dz zs f=dz zs g:=List.map_congr_left fun z hz=>by rw [h z hz]
def wI (ps:LSS) (z:Str):List Str:=ps.flatMap fun p=>if p.1=z then [p.2] else if p.2=z then [p.1] else []
theorem cN (ps:LSS) (p:Str × Str) (z:Str):wI (ps ++ [p]) z=wI ps z ++ (if p.1=z then [p.2] else if p.2=z then [p.1] else []):=by
 unfold wI;rw [List.flatMap_append];simp
theorem jB (ps:LSS) (z:Str):(wI ps z).length <= ps.length:=by
 induction ps with
 | nil=>exact zKC _
 | cons p ps ih=>
  have e:wI (p :: ps) z=(if p.1=z then [p.2] else if p.2=z then [p.1] else []) ++ wI ps z:=by unfold wI;rw [List.flatMap_cons]
  rw [e,zKL,zKO]
  have:(if p.1=z then [p.2] else if p.2=z then [p.1] else []:List Str).length <= 1:=by split <;> (try split) <;> simp
  omega
structure lT (H:Hp) (nd:Addr) (zs:List Str) (ps:LSS) (L:Str->Addr) (N:Str->List Str):Prop where
 d:H nd=some (.dK (dz zs fun z=>.ref (L z)))
 l:∀ z ∈ zs,H (L z)=some (.lst ((N z).map V.str))
 p:∀ z ∈ zs,(N z).Perm (wI ps z)
 s:∀ z ∈ zs,Asc ltS (N z)
abbrev oS:Stmt:=top 25
section
variable {P:Program} {w:World} {K:W.Frag} {mg:Str->Option Value} {base:Heap} {C:Addr}
theorem mP:zO ["houses","ties","near","one","other"] ["houses","ties"] (zF oS):=scm
def iT:Sp:=fun vs H Q _=>∃ (a b:Addr) (ps:LSS) (zs:List Str),vs=[.ref a,.ref b]/\H a=some (.lst (zs.map V.str))/\Rows H b (ps.map zQ)/\zs.Nodup/\(∀ p ∈ ps,xN zs p)/\ps.length < 60/\zs.length < 60 /\
 ∀ (nd:Addr) (L:Str->Addr) (N:Str->List Str) (H':Hp),H nd=none->(∀ z ∈ zs,H (L z)=none)->lT H' nd zs ps L N->zD [] H H'->Q (.ref nd) H'
theorem zHF (G:yD K mg "tied_to_each" oS ["houses","ties"]) (b_sorted:Blt mg "sorted"):Cal P w K mg base CX0 1 "tied_to_each" ["houses","ties"] iT:=by
 refine G.ok mP (fun vs H Q E h=>by obtain ⟨a,b,ps,zs,rfl,_⟩:=h;rfl) (fun f cdv A outer s H vs Q E hr h=>?_)
 obtain ⟨a,b,ps,zs,rfl,ha,⟨qs,hb,hq⟩,nd0,tz,lp,lz,q⟩:=h
 have hu:=nJ hr
 have lq:=zW hq
 rw [zJ3] at lq
 refine ⟨_,(zE (zL (i:=2) mP.nd rfl (Or.inr rfl) (zAI (N:=["houses","ties","near","one","other"]) (sc:=zF oS) (ix:=[]) (by decide +kernel) (yY (pv 0)) (fun _ _ _ _=>xB) (fun _ _ _ _=>(pv 0)) (fun _ _ _ _=>(yP zB))))
   (zE (vN PassesOwn.never rfl (yY (pv 1)) (pE rfl (yO (z4 (i:=3) mP.nd rfl (Or.inl rfl)) (yO (z4 (i:=4) mP.nd rfl (Or.inl rfl)) wR))) (zE (xC (yS F.plainAttrs_list F.slot_list_append F.type_list_append y6 (wT hu (pv 2) (pv 3) (fun _ _=>rfl)) (zA (pv 4) zB)))
   (zJ (xC (yS F.plainAttrs_list F.slot_list_append F.type_list_append y6 (wT hu (pv 2) (pv 4) (fun _ _=>rfl)) (zA (pv 3) zB))))))
   (zJ (zT (zAI (N:=["houses","ties","near","one","other"]) (sc:=zF oS) (ix:=[2]) (by decide +kernel) (yY (pv 0)) (fun _ _ _ _=>xB) (fun _ _ _ _=>(pv 0)) (fun _ _ _ _=>(zM wU b_sorted wC (zA (wT hu (pv 1) (pv 0) (fun _ _=>rfl)) zB)))))))),?_⟩
 refine ⟨_,rfl,a,rfl,⟨_,.of ha⟩,fun d0 hd0=>?_⟩
 have ad:a ≠ d0:=zH ha hd0
 refine j6 (K:=K) (a:=a) (its:=zs.map V.str) (by rw [zJ3,sizeLine_eq];omega) (fun i ys τ H1=>i <= zs.length/\∃ (L:Str->Addr) (k:Option V),τ=[k]/\ys=dz (zs.take i) (fun z=>.ref (L z))/\(∀ z ∈ zs.take i,H1 (L z)=some (.lst [])/\H (L z)=none/\L z ≠ d0) /\
  (∀ y ∈ zs.take i,∀ z ∈ zs.take i,L y=L z->y=z)/\zD [d0] H H1/\H1 d0=some (.dK ys)) ?_ ?_ ?_ ?_
 ·exact ⟨zKD _,fun _=>0,_,rfl,rfl,(fun z hz=>by cases hz),(fun y hy=>by cases hy),zD.at (by simp),zC⟩
 ·rintro i ys τ H1 ⟨hi,L,k,rfl,rfl,_,_,kp,h1⟩
  exact ⟨h1,by unfold dz;rw [zJ3,zKM];omega,.of (kp _ _ (by simp [ad]) ha)⟩
 ·rintro i ys τ H1 x hx ⟨hi,L,k,rfl,rfl,hl,inj,kp,h1⟩
  rw [zJ9] at hx
  cases ez:zs[i]? with
  | none=>rw [ez] at hx;cases hx
  | some z=>
  rw [ez] at hx
  have ex:V.str z=x:=zKA hx
  subst ex
  have il:i < zs.length:=(zJ5.mp ez).1
  have tk:zs.take (i + 1)=zs.take i ++ [z]:=by rw [List.take_add_one,ez];rfl
  have nin:z ∉ zs.take i:=fun hm=>by
   have:=nd0.sublist (List.take_sublist (i + 1) zs)
   rw [tk] at this
   exact (List.nodup_append.mp this).2.2 z hm z (by simp) rfl
  refine ⟨_,rfl,zKD _,fun l hln=>⟨Sum.inr z,rfl,?_,?_⟩⟩
  ·exact (zD.new (S:=[]) hln) _ _ (by simp) h1
  have ld:l ≠ d0:=Ne.symm (zH h1 hln)
  rw [mV nin]
  refine ⟨il,fun y=>if y=z then l else L y,_,rfl,?_,?_,?_,(kp.trans (zD.new hln)).trans (zD.at (by simp)),zC⟩
  ·rw [tk]
   refine vC fun y _=>?_
   dsimp only
   by_cases e:y=z
   ·rw [if_pos e,if_pos e]
   ·rw [if_neg e,if_neg e]
  ·intro y hy
   rw [tk] at hy
   dsimp only
   by_cases e:y=z
   ·rw [if_pos e]
    exact ⟨by rw [zI ld,zC],kp.none (by simp [ld]) hln,ld⟩
   ·rw [if_neg e]
    have hy':y ∈ zs.take i:=by rcases zKK.mp hy with q | q;exact q;exact absurd (zJ6.mp q) e
    obtain ⟨g1,g2,g3⟩:=hl y hy'
    exact ⟨by rw [zI g3,zI (zH g1 hln)];exact g1,g2,g3⟩
  ·intro x hx y hy exy
   rw [tk] at hx hy
   dsimp only at exy
   have alt:∀ u ∈ zs.take i ++ [z],u=z \/ u ∈ zs.take i:=fun u hu=>by
    rcases zKK.mp hu with q | q
    ·exact .inr q
    ·exact .inl (zJ6.mp q)
   rcases alt x hx with rfl | hx' <;> rcases alt y hy with rfl | hy'
   ·rfl
   ·have ny:y ≠ x:=fun e=>nin (e ▸ hy')
    rw [if_pos rfl,if_neg ny] at exy
    rw [exy] at hln;rw [(hl y hy').1] at hln;cases hln
   ·have nx:x ≠ y:=fun e=>nin (e ▸ hx')
    rw [if_neg nx,if_pos rfl] at exy
    rw [<- exy] at hln;rw [(hl x hx').1] at hln;cases hln
   ·have nx:x ≠ z:=fun e=>nin (e ▸ hx')
    have ny:y ≠ z:=fun e=>nin (e ▸ hy')
    rw [if_neg nx,if_neg ny] at exy
    exact inj x hx' y hy' exy
 rintro ys τ H1 ⟨_,L,kk,rfl,rfl,hl,inj,kp,h1⟩
 rw [zJ3,zK3] at hl inj h1
 have k1:zD [] H H1:=kp.drop hd0
 have ha1:=k1 _ _ (by simp) ha
 have hb1:=k1 _ _ (by simp) hb
 have out:∀ {u:Addr} {o:HO},H u=some o->u ∉ zs.map L:=fun {u o} hu hm=>by
  obtain ⟨z,hz,rfl⟩:=List.mem_map.mp hm
  rw [(hl z hz).2.1] at hu;cases hu
 have dout:d0 ∉ zs.map L:=fun hm=>by
  obtain ⟨z,hz,e⟩:=List.mem_map.mp hm
  exact (hl z hz).2.2 e
 refine ⟨_,rfl,b,rfl,⟨_,.of hb1⟩,vW (K:=K) (a:=b) (xs:=qs.map V.ref) (fun i σ H2=>i <= ps.length/\∃ (v3 v4:Option V),σ=[some (.ref a),some (.ref b),some (.ref d0),v3,v4]/\(∀ z ∈ zs,H2 (L z)=some (.lst ((wI (ps.take i) z).map V.str)))/\zD (zs.map L) H1 H2)
  ⟨zKD _,_,_,rfl,(fun z hz=>(hl z hz).1),zD.refl _⟩ (fun i σ H2 _ ⟨_,_,_,_,_,k2⟩=>.of (k2 _ _ (out hb) hb1)) ?_ ?_⟩
 ·rintro i y σ H2 hi ⟨hip,v3,v4,rfl,hn,k2⟩
  rw [zJ9] at hi
  cases et:qs[i]? with
  | none=>rw [et] at hi;cases hi
  | some t=>
  rw [et] at hi
  have ex:V.ref t=y:=zKA hi
  subst ex
  obtain ⟨r,er,ht⟩:=yQ hq i t et
  rw [zJ9] at er
  cases ep:ps[i]? with
  | none=>rw [ep] at er;cases er
  | some p=>
  rw [ep] at er
  have er':zQ p=r:=zKA er
  subst er'
  obtain ⟨p1,p2⟩:=p
  obtain ⟨m1,m2,ne⟩:=tz _ (zJ7 ep)
  dsimp only at m1 m2 ne
  have il:i < ps.length:=(zJ5.mp ep).1
  have ht2:H2 t=some (.tup [.str p1,.str p2]):=k2 _ _ (out ht) (k1 _ _ (by simp) ht)
  have tk:ps.take (i + 1)=ps.take i ++ [(p1,p2)]:=by rw [List.take_add_one,ep];rfl
  have hd2:=k2 _ _ dout h1
  have len:∀ z,((wI (ps.take i) z).map V.str).length < sizeLine:=fun z=>by
   have:=jB (ps.take i) z
   rw [zJ3,sizeLine_eq];rw [zKM] at this;omega
  have l12:L p1 ≠ L p2:=fun e=>ne (inj p1 m1 p2 m2 e)
  refine ⟨t,_,rfl,.of ht2,rfl,_,_,rfl,_,_,rfl,rfl,?_⟩
  refine ⟨_,rfl,_,rfl,d0,_,rfl,by have z:=wX.k (k:=Sum.inr p1) hd2;rw [w6 m1] at z;exact z,(show tyV _ "list" (.ref (L p1)) _ from Or.inl ⟨rfl,_,.of (hn p1 m1)⟩),_,rfl,L p1,_,_,rfl,rfl,hn p1 m1,len p1,?_⟩
  have hd3:upd H2 (L p1) (.lst ((wI (ps.take i) p1).map V.str ++ [.str p2])) d0=some (.dK (dz zs fun z=>.ref (L z))):=by
   rw [zI (hl p1 m1).2.2.symm];exact hd2
  have hn3:upd H2 (L p1) (.lst ((wI (ps.take i) p1).map V.str ++ [.str p2])) (L p2)=some (.lst ((wI (ps.take i) p2).map V.str)):=by
   rw [zI l12.symm];exact hn p2 m2
  refine ⟨_,rfl,_,rfl,d0,_,rfl,by have z:=wX.k (k:=Sum.inr p2) hd3;rw [w6 m2] at z;exact z,(show tyV _ "list" (.ref (L p2)) _ from Or.inl ⟨rfl,_,.of hn3⟩),_,rfl,L p2,_,_,rfl,rfl,hn3,len p2,?_⟩
  refine ⟨il,_,_,rfl,fun z hz=>?_,k2.trans ((zD.at (List.mem_map.mpr ⟨p1,m1,rfl⟩)).trans (zD.at (List.mem_map.mpr ⟨p2,m2,rfl⟩)))⟩
  rw [tk,cN]
  dsimp only
  by_cases e2:p2=z
  ·subst e2
   rw [zC,if_neg ne,if_pos rfl,zKF];rfl
  ·have n2:L z ≠ L p2:=fun e=>e2 (inj z hz p2 m2 e).symm
   rw [zI n2]
   by_cases e1:p1=z
   ·subst e1
    rw [zC,if_pos rfl,zKF];rfl
   ·have n1:L z ≠ L p1:=fun e=>e1 (inj z hz p1 m1 e).symm
    rw [zI n1,if_neg e1,if_neg e2,List.append_nil]
    exact hn z hz
 rintro σ H2 ⟨_,v3,v4,rfl,hn,k2⟩
 rw [zJ3,lq,zK3] at hn
 have ha2:=k2 _ _ (out ha) ha1
 have hd2:=k2 _ _ dout h1
 have k02:zD [] H H2:=k1.under k2 (fun u hm=>by
  obtain ⟨z,hz,rfl⟩:=List.mem_map.mp hm
  exact (hl z hz).2.1)
 refine ⟨_,rfl,a,rfl,⟨_,.of ha2⟩,fun nd hnd=>?_⟩
 have an:a ≠ nd:=zH ha2 hnd
 have dn:d0 ≠ nd:=zH hd2 hnd
 refine j6 (K:=K) (a:=a) (its:=zs.map V.str) (by rw [zJ3,sizeLine_eq];omega) (fun i ys τ H3=>i <= zs.length/\∃ (M:Str->Addr) (N:Str->List Str) (k:Option V),τ=[k,some (.ref d0)]/\ys=dz (zs.take i) (fun z=>.ref (M z))/\(∀ z ∈ zs.take i,H3 (M z)=some (.lst ((N z).map V.str))/\H2 (M z)=none/\M z ≠ nd/\(N z).Perm (wI ps z)/\Asc ltS (N z)) /\
  zD [nd] H2 H3/\H3 nd=some (.dK ys)) ?_ ?_ ?_ ?_
 ·exact ⟨zKD _,fun _=>0,fun _=>[],_,rfl,rfl,(fun z hz=>by cases hz),zD.at (by simp),zC⟩
 ·rintro i ys τ H3 ⟨hi,M,N,k,rfl,rfl,_,kp3,h3⟩
  exact ⟨h3,by unfold dz;rw [zJ3,zKM];omega,.of (kp3 _ _ (by simp [an]) ha2)⟩
 ·rintro i ys τ H3 x hx ⟨hi,M,N,k,rfl,rfl,hm,kp3,h3⟩
  rw [zJ9] at hx
  cases ez:zs[i]? with
  | none=>rw [ez] at hx;cases hx
  | some z=>
  rw [ez] at hx
  have ex:V.str z=x:=zKA hx
  subst ex
  have il:i < zs.length:=(zJ5.mp ez).1
  have hz:z ∈ zs:=zJ7 ez
  have tk:zs.take (i + 1)=zs.take i ++ [z]:=by rw [List.take_add_one,ez];rfl
  have nin:z ∉ zs.take i:=fun hm=>by
   have:=nd0.sublist (List.take_sublist (i + 1) zs)
   rw [tk] at this
   exact (List.nodup_append.mp this).2.2 z hm z (by simp) rfl
  have hd3:=kp3 _ _ (by simp [dn]) hd2
  have lzn:L z ≠ nd:=zH (hn z hz) hnd
  have hl3:=kp3 _ _ (by simp [lzn]) (hn z hz)
  refine ⟨_,rfl,_,rfl,_,rfl,d0,_,rfl,by have y:=wX.k (k:=Sum.inr z) hd3;rw [w6 hz] at y;exact y,L z,wI ps z,rfl,hl3,by have:=jB ps z;omega,fun l ys' hln hp hs=>⟨Sum.inr z,rfl,?_,?_⟩⟩
  ·exact (zD.new (S:=[]) hln) _ _ (by simp) h3
  have ld:l ≠ nd:=Ne.symm (zH h3 hln)
  rw [mV nin]
  refine ⟨il,fun y=>if y=z then l else M y,fun y=>if y=z then ys' else N y,_,rfl,?_,?_,(kp3.trans (zD.new hln)).trans (zD.at (by simp)),zC⟩
  ·rw [tk]
   refine vC fun y _=>?_
   dsimp only
   by_cases e:y=z
   ·rw [if_pos e,if_pos e]
   ·rw [if_neg e,if_neg e]
  ·intro y hy
   rw [tk] at hy
   dsimp only
   by_cases e:y=z
   ·subst e
    rw [if_pos rfl,if_pos rfl]
    exact ⟨by rw [zI ld,zC],kp3.none (by simp [ld]) hln,ld,hp,hs⟩
   ·rw [if_neg e,if_neg e]
    have hy':y ∈ zs.take i:=by rcases zKK.mp hy with q | q;exact q;exact absurd (zJ6.mp q) e
    obtain ⟨g1,g2,g3,g4,g5⟩:=hm y hy'
    exact ⟨by rw [zI g3,zI (zH g1 hln)];exact g1,g2,g3,g4,g5⟩
 rintro ys τ H3 ⟨_,M,N,k,rfl,rfl,hm,kp3,h3⟩
 rw [zJ3,zK3] at hm h3
 have k23:zD [] H2 H3:=kp3.drop hnd
 exact q nd M N H3 (k02.none (by simp) hnd) (fun z hz=>k02.none (by simp) (hm z hz).2.1) ⟨h3,fun z hz=>(hm z hz).1,fun z hz=>(hm z hz).2.2.2.1,fun z hz=>(hm z hz).2.2.2.2⟩ (k02.trans k23)
end
theorem pI:∀ {ks zs:List Str},ks.Nodup->(∀ y ∈ ks,y ∈ zs)->ks.length <= zs.length:=by
 intro ks
 induction ks with
 | nil=>intro zs _ _;exact zKD _
 | cons k ks ih=>
  intro zs nd h
  have nk:=(List.nodup_cons.mp nd).1
  have hk:=h k zKW
  have:=ih (zs:=zs.erase k) (List.nodup_cons.mp nd).2 (fun y hy=>by
   have ne:y ≠ k:=fun e=>nk (e ▸ hy)
   exact (List.mem_erase_of_ne ne).mpr (h y (zKG _ hy)))
  rw [List.length_erase_of_mem hk] at this
  have l0:=List.length_pos_of_mem hk
  rw [zKO];omega
structure Led (zs:List Str) (N:Str->List Str) (goal:Str) (ks:List Str) (nx:Str->Str):Prop where
 nd:ks.Nodup
 g:goal ∈ ks
 z:∀ y ∈ ks,y ∈ zs
 o:∀ i y,ks[i]?=some y->y ≠ goal->nx y ∈ ks.take i/\y ∈ N (nx y)
theorem Led.snoc {zs:List Str} {N:Str->List Str} {goal:Str} {ks:List Str} {nx:Str->Str} (h:Led zs N goal ks nx) {o here:Str} (no:o ∉ ks) (oz:o ∈ zs) (hh:here ∈ ks) (on:o ∈ N here) :
  Led zs N goal (ks ++ [o]) (fun y=>if y=o then here else nx y):=by
 refine ⟨?_,List.mem_append_left _ h.g,?_,?_⟩
 ·refine List.nodup_append.mpr ⟨h.nd,List.nodup_cons.mpr ⟨by simp,List.nodup_nil⟩,?_⟩
  intro a ha b hb e
  exact no (zJ6.mp hb ▸ e ▸ ha)
 ·intro y hy
  rcases zKK.mp hy with q | q
  ·exact h.z y q
  ·rw [zJ6.mp q];exact oz
 ·intro i y hy ng
  by_cases il:i < ks.length
  ·rw [zKR il] at hy
   have ne:y ≠ o:=fun e=>no (e ▸ zJ7 hy)
   rw [if_neg ne,List.take_append_of_le_length (by omega)]
   exact h.o i y hy ng
  ·rw [zKQ (by omega)] at hy
   have i0:i - ks.length=0:=by
    cases e:i - ks.length with
    | zero=>rfl
    | succ k=>rw [e] at hy;simp at hy
   rw [i0] at hy
   have e:o=y:=by simpa using hy
   subst e
   have il':i=ks.length:=by omega
   subst il'
   rw [if_pos rfl,List.take_append_of_le_length (zKC _),zK3]
   exact ⟨hh,on⟩
def stp (goal:Str) (nx:Str->Str) (y:Str):V:=if y=goal then .non else .str (nx y)
theorem zDF {goal:Str} {nx:Str->Str} {ks:List Str} {o here:Str} (no:o ∉ ks) (g:goal ∈ ks):y8 (dz ks (stp goal nx)) (Sum.inr o) (.str here)=dz (ks ++ [o]) (stp goal (fun y=>if y=o then here else nx y)):=by
 rw [mV no]
 refine vC fun y _=>?_
 unfold stp
 have og:o ≠ goal:=fun e=>no (e ▸ g)
 by_cases e:y=o
 ·subst e;rw [if_pos rfl,if_neg og];dsimp only;rw [if_pos rfl]
 ·rw [if_neg e];dsimp only;rw [if_neg e]
theorem gW (ks:List Str) (f:Str->V):(dz ks f).length=ks.length:=zJ3 _
abbrev mR:Stmt:=top 26
section
variable {P:Program} {w:World} {K:W.Frag} {mg:Str->Option Value} {base:Heap} {C:Addr}
theorem sG:zO ["near","goal","steps","fresh","here","other"] ["near","goal"] (zF mR):=scm
def zF6 (H:Hp) (nd sd fl:Addr) (goal:Str) (zs:List Str) (N:Str->List Str) (m:Nat) (σ:St) (H1:Hp):Prop:=∃ (ks fs:List Str) (nx:Str->Str) (v4 v5:Option V),σ=[some (.ref nd),some (.str goal),some (.ref sd),some (.ref fl),v4,v5]/\m=2 * (zs.length - ks.length) + fs.length/\Led zs N goal ks nx/\(∀ y ∈ fs,y ∈ ks)/\fs.length <= ks.length /\
  (∀ z ∈ ks,z ∉ fs->∀ y ∈ N z,y ∈ ks)/\zD [sd,fl] H H1/\H1 sd=some (.dK (dz ks (stp goal nx)))/\H1 fl=some (.lst (fs.map V.str))
def mJ:Sp:=fun vs H Q _=>∃ (nd:Addr) (zs:List Str) (ps:LSS) (L:Str->Addr) (N:Str->List Str) (goal:Str),vs=[.ref nd,.str goal]/\lT H nd zs ps L N/\zs.length < 60/\goal ∈ zs/\(∀ z ∈ zs,∀ y ∈ N z,y ∈ zs) /\
 ∀ (sd:Addr) (ks:List Str) (nx:Str->Str) (H':Hp),H sd=none->Led zs N goal ks nx->(∀ z ∈ ks,∀ y ∈ N z,y ∈ ks)->H' sd=some (.dK (dz ks (stp goal nx)))->zD [] H H'->Q (.ref sd) H'
theorem zDU (G:yD K mg "steps_toward" mR ["near","goal"]):Cal P w K mg base CX0 1 "steps_toward" ["near","goal"] mJ:=by
 refine G.ok sG (fun vs H Q E h=>by obtain ⟨nd,zs,ps,L,N,goal,rfl,_⟩:=h;rfl) (fun f cdv A outer s H vs Q E hr h=>?_)
 obtain ⟨nd,zs,ps,L,N,goal,rfl,na,lz,gz,nz,q⟩:=h
 have hu:=nJ hr
 refine ⟨_,(zE (zL (i:=2) sG.nd rfl (Or.inl rfl) (zDO (aX (pv 1) hV zDI) rfl rfl (by simp) (by decide)))
   (zE (zL (i:=3) sG.nd rfl (Or.inl rfl) (yP (zA (pv 1) zB)))
   (zE (jE PassesOwn.never (aW (pv 3) (fun _=>rfl)) (zE (zL (i:=4) sG.nd rfl (Or.inl rfl) (zG4 F.plainAttrs_list F.slot_list_pop F.type_list_pop zHS (pv 3)))
   (zJ (vN PassesOwn.never rfl (yY (wT hu (pv 0) (pv 4) (fun _ _=>rfl))) (z4 (i:=5) sG.nd rfl (Or.inl rfl)) (zJ (yW (hG (rG hu (pv 5) (pv 2))) (zE (eX hu (pv 2) (pv 5) (pv 4) rfl)
   (zJ (xC (yS F.plainAttrs_list F.slot_list_append F.type_list_append y6 (pv 3) (zA (pv 5) zB))))) yE))))))
   (zJ (zT (pv 2)))))),?_⟩
 intro sd hsd
 refine ⟨_,rfl,zC,[(Sum.inr goal,.non)],rfl,by simp,?_⟩
 rw [sB]
 refine ⟨_,rfl,by simp [sizeLine_eq],fun fl hfl=>?_⟩
 have fs0:fl ≠ sd:=fun e=>by rw [e,zC] at hfl;cases hfl
 have hfl0:H fl=none:=by rw [zI fs0] at hfl;exact hfl
 refine ⟨zF6 H nd sd fl goal zs N,⟨_,[goal],[goal],fun _=>goal,_,_,rfl,rfl,⟨by simp,by simp,(fun y hy=>by rw [zJ6.mp hy];exact gz),?_⟩,(fun y hy=>hy),zKC _,(fun z hz nz=>absurd hz nz),?_,?_,zC⟩,?_⟩
 ·intro i y hy ng
  exact absurd (zJ6.mp (zJ7 hy)) ng
 ·exact (zD.at (by simp)).trans (zD.at (by simp))
 ·rw [zI fs0.symm,zC]
  show some (HO.dK [(Sum.inr goal,V.non)])=some (HO.dK [(Sum.inr goal,if goal=goal then .non else .str goal)])
  rw [if_pos rfl]
 rintro m σ H1 ⟨ks,fs,nx,v4,v5,rfl,rfl,led,fk,fle,cl,kp,h1,hf⟩
 have sf:sd ≠ fl:=fs0.symm
 rcases List.eq_nil_or_concat fs with rfl | ⟨fs,here,e⟩
 ·refine ⟨_,rfl,_,.inl ⟨_,.of hf,rfl⟩,ifF rfl ?_⟩
  refine ⟨_,rfl,?_⟩
  refine q sd ks nx H1 hsd led (fun z hz=>cl z hz (by simp)) h1 ?_
  intro u o hu ho
  refine kp u o ?_ ho
  have n1:u ≠ sd:=fun e=>by rw [e,hsd] at ho;cases ho
  have n2:u ≠ fl:=fun e=>by rw [e,hfl0] at ho;cases ho
  simp [n1,n2]
 rw [List.concat_eq_append] at e
 subst e
 refine ⟨_,rfl,_,.inl ⟨_,.of hf,rfl⟩,ifT (by simp) ?_⟩
 have hk:here ∈ ks:=fk here (by simp)
 have hz:here ∈ zs:=led.z _ hk
 have ef:(fs ++ [here]).map V.str=fs.map V.str ++ [.str here]:=by rw [zKF];rfl
 rw [ef] at hf
 rw [zKL] at fle
 have fle':fs.length + 1 <= ks.length:=fle
 have out:∀ {u:Addr} {o:HO},H u=some o->u ∉ [sd,fl]:=fun {u o} ho=>by
  have n1:u ≠ sd:=fun e=>by rw [e,hsd] at ho;cases ho
  have n2:u ≠ fl:=fun e=>by rw [e,hfl0] at ho;cases ho
  simp [n1,n2]
 refine ⟨fun σ' H'=>∃ m',m' < 2 * (zs.length - ks.length) + (fs ++ [here]).length/\zF6 H nd sd fl goal zs N m' σ' H',fun _ _ h=>h,?_⟩
 refine ⟨_,rfl,Or.inl ⟨rfl,_,.of hf⟩,fl,_,.str here,rfl,rfl,hf,by simp,?_⟩
 rw [show (fs.map V.str ++ [V.str here]).dropLast=fs.map V.str from List.dropLast_concat]
 have kp1:zD [sd,fl] H (upd H1 fl (.lst (fs.map V.str))):=kp.trans (zD.at (by simp))
 refine ⟨_,rfl,_,rfl,nd,_,rfl,by have z:=wX.k (k:=Sum.inr here) (kp1 _ _ (out na.d) na.d);rw [w6 hz] at z;exact z,L here,rfl,⟨_,.of (kp1 _ _ (out (na.l here hz)) (na.l here hz))⟩,?_⟩
 refine vW (K:=K) (a:=L here) (xs:=(N here).map V.str) (fun i σ H2=>∃ (ks2 fs2:List Str) (nx2:Str->Str) (v5:Option V),σ=[some (.ref nd),some (.str goal),some (.ref sd),some (.ref fl),some (.str here),v5] /\
  2 * (zs.length - ks2.length) + fs2.length < 2 * (zs.length - ks.length) + (fs ++ [here]).length/\Led zs N goal ks2 nx2/\here ∈ ks2/\(∀ y ∈ fs2,y ∈ ks2)/\fs2.length <= ks2.length/\(∀ z ∈ ks2,z ∉ fs2->z ≠ here->∀ y ∈ N z,y ∈ ks2)/\(∀ y ∈ (N here).take i,y ∈ ks2) /\
  zD [sd,fl] H H2/\H2 sd=some (.dK (dz ks2 (stp goal nx2)))/\H2 fl=some (.lst (fs2.map V.str))) ?_ (fun i σ H2 _ ⟨_,_,_,_,_,_,_,_,_,_,_,_,k2,_⟩=>.of (k2 _ _ (out (na.l here hz)) (na.l here hz))) ?_ ?_
 ·refine ⟨ks,fs,nx,_,rfl,by simp,led,hk,(fun y hy=>fk y (List.mem_append_left _ hy)),by omega,?_,(fun y hy=>by simp at hy),kp1,?_,zC⟩
  ·intro z hz' nf ne
   refine cl z hz' fun hm=>?_
   rcases zKK.mp hm with a | a
   ·exact nf a
   ·exact ne (zJ6.mp a)
  ·rw [zI sf];exact h1
 ·rintro i y σ H2 hi ⟨ks2,fs2,nx2,v5,rfl,ml,led2,hk2,fk2,fl2,cl2,tk2,kp2,h2,hf2⟩
  rw [zJ9] at hi
  cases eo:(N here)[i]? with
  | none=>rw [eo] at hi;cases hi
  | some o=>
  rw [eo] at hi
  have ex:V.str o=y:=zKA hi
  subst ex
  have on:o ∈ N here:=zJ7 eo
  have oz:o ∈ zs:=nz here hz o on
  have tk:(N here).take (i + 1)=(N here).take i ++ [o]:=by rw [List.take_add_one,eo];rfl
  by_cases ok:o ∈ ks2
  ·refine ⟨_,rfl,_,rfl,sd,_,rfl,wX.k (k:=Sum.inr o) h2,_,rfl,?_⟩
   rw [w6 ok]
   refine ifF rfl ?_
   refine ⟨ks2,fs2,nx2,_,rfl,ml,led2,hk2,fk2,fl2,cl2,?_,kp2,h2,hf2⟩
   intro y hy
   rw [tk] at hy
   rcases zKK.mp hy with a | a
   ·exact tk2 y a
   ·rw [zJ6.mp a];exact ok
  ·refine ⟨_,rfl,_,rfl,sd,_,rfl,wX.k (k:=Sum.inr o) h2,_,rfl,?_⟩
   rw [uX ok]
   refine ifT rfl ?_
   have led3:=led2.snoc ok oz hk2 on
   have l3:=pI led3.nd led3.z
   rw [zKL] at l3
   have l3':ks2.length + 1 <= zs.length:=l3
   refine ⟨_,rfl,_,rfl,_,rfl,sd,_,rfl,bP.k (k:=Sum.inr o) h2 (by rw [gW,sizeLine_eq];omega),?_⟩
   rw [zDF ok led2.g]
   have hf3:upd H2 sd (.dK (dz (ks2 ++ [o]) (stp goal (fun y=>if y=o then here else nx2 y)))) fl=some (.lst (fs2.map V.str)):=by rw [zI sf.symm];exact hf2
   refine ⟨_,rfl,Or.inl ⟨rfl,_,.of hf3⟩,_,rfl,fl,_,_,rfl,rfl,hf3,by rw [zJ3,sizeLine_eq];omega,?_⟩
   refine ⟨ks2 ++ [o],fs2 ++ [o],_,_,rfl,?_,led3,List.mem_append_left _ hk2,?_,by rw [zKL,zKL];omega,?_,?_,(kp2.trans (zD.at (by simp))).trans (zD.at (by simp)),by rw [zI sf,zC],by rw [zC,zKF];rfl⟩
   ·have e1:(ks2 ++ [o]).length=ks2.length + 1:=by simp
    have e2:(fs2 ++ [o]).length=fs2.length + 1:=by simp
    rw [e1,e2]
    omega
   ·intro y hy
    rcases zKK.mp hy with a | a
    ·exact List.mem_append_left _ (fk2 y a)
    ·exact zKH _ a
   ·intro z hz' nf ne y hy
    rcases zKK.mp hz' with a | a
    ·exact List.mem_append_left _ (cl2 z a (fun b=>nf (List.mem_append_left _ b)) ne y hy)
    ·exact absurd (zKH _ a) nf
   ·intro y hy
    rw [tk] at hy
    rcases zKK.mp hy with a | a
    ·exact List.mem_append_left _ (tk2 y a)
    ·exact zKH _ a
 ·rintro σ H2 ⟨ks2,fs2,nx2,v5,rfl,ml,led2,hk2,fk2,fl2,cl2,tk2,kp2,h2,hf2⟩
  rw [zJ3,zK3] at tk2
  refine ⟨_,ml,ks2,fs2,nx2,_,_,rfl,rfl,led2,fk2,fl2,?_,kp2,h2,hf2⟩
  intro z hz' nf
  by_cases e:z=here
  ·subst e;exact tk2
  ·exact cl2 z hz' nf e
end
def xW (p:Str × Str):Str × Str:=(jQ p.1 p.2,jR p.1 p.2)
theorem dF (p:Str × Str):xW p=p \/ xW p=(p.2,p.1):=by
 obtain ⟨a,b⟩:=p
 unfold xW jQ jR
 cases h1:ltS b a with
 | true=>
  have h2:ltS a b=false:=sL h1
  right;simp [h1,h2]
 | false=>
  cases h2:ltS a b with
  | true=>left;simp [h1,h2]
  | false=>
   have e:=uC h1 h2
   subst e
   left;simp [h1]
theorem kJ {zs:List Str} {p:Str × Str} (h:xN zs p):xN zs (xW p):=by
 obtain ⟨a,b,c⟩:=h
 rcases dF p with e | e <;> rw [e]
 ·exact ⟨a,b,c⟩
 ·exact ⟨b,a,fun e=>c e.symm⟩
def iI (zs:List Str) (ps:LSS):Prop:=∀ (P:Str->Prop) (z0:Str),z0 ∈ zs->P z0->(∀ t ∈ ps,P t.1 ↔ P t.2)->∀ z ∈ zs,P z
theorem nW {zs zs':List Str} {ps ps':LSS} (h:iI zs ps) (pz:zs'.Perm zs) (pp:ps'.Perm (ps.map xW)):iI zs' ps':=by
 intro P z0 hz p0 each z hz'
 refine h P z0 (pz.mem_iff.mp hz) p0 (fun t ht=>?_) z (pz.mem_iff.mp hz')
 have:=each (xW t) (pp.mem_iff.mpr (List.mem_map.mpr ⟨t,ht,rfl⟩))
 rcases dF t with e | e
 ·rw [e] at this;exact this
 ·rw [e] at this;exact this.symm
theorem zFV {ps:LSS} {t:Str × Str} (h:t ∈ ps):t.2 ∈ wI ps t.1:=by
 unfold wI
 exact List.mem_flatMap.mpr ⟨t,h,by rw [if_pos rfl];exact zJ6.mpr rfl⟩
theorem zFU {ps:LSS} {t:Str × Str} (h:t ∈ ps) (n:t.1 ≠ t.2):t.1 ∈ wI ps t.2:=by
 unfold wI
 exact List.mem_flatMap.mpr ⟨t,h,by rw [if_neg n,if_pos rfl];exact zJ6.mpr rfl⟩
theorem aU {zs:List Str} {ps:LSS} (tz:∀ p ∈ ps,xN zs p) {z y:Str} (h:y ∈ wI ps z):y ∈ zs:=by
 unfold wI at h
 obtain ⟨t,ht,hy⟩:=List.mem_flatMap.mp h
 obtain ⟨a,b,_⟩:=tz t ht
 by_cases e1:t.1=z
 ·rw [if_pos e1] at hy;rw [zJ6.mp hy];exact b
 ·rw [if_neg e1] at hy
  by_cases e2:t.2=z
  ·rw [if_pos e2] at hy;rw [zJ6.mp hy];exact a
  ·rw [if_neg e2] at hy;cases hy
theorem zEH {zs:List Str} {ps:LSS} {N:Str->List Str} {goal:Str} {ks:List Str} {nx:Str->Str} (cn:iI zs ps) (tz:∀ p ∈ ps,xN zs p) (nd:zs.Nodup) (pn:∀ z ∈ zs,(N z).Perm (wI ps z)) (led:Led zs N goal ks nx) (cl:∀ z ∈ ks,∀ y ∈ N z,y ∈ ks) :
  (∀ z ∈ zs,z ∈ ks)/\ks.length=zs.length:=by
 have all:∀ z ∈ zs,z ∈ ks:=cn (· ∈ ks) goal (led.z _ led.g) led.g fun t ht=>by
  obtain ⟨a,b,c⟩:=tz t ht
  exact ⟨fun h=>cl t.1 h t.2 ((pn t.1 a).mem_iff.mpr (zFV ht)),fun h=>cl t.2 h t.1 ((pn t.2 b).mem_iff.mpr (zFU ht c))⟩
 exact ⟨all,Nat.le_antisymm (pI led.nd led.z) (pI nd all)⟩
def tfl (nl pl nd:Addr):List (Str × V):=[("names",.ref nl),("pairs",.ref pl),("near",.ref nd)]
theorem tn1:¬ (("names" : Str)="pairs"):=by decide +kernel
theorem tn2:¬ (("names" : Str)="near"):=by decide +kernel
theorem tn3:¬ (("pairs" : Str)="near"):=by decide +kernel
theorem tput (nl pl nd:Addr):wJ "near" (.ref nd) (wJ "pairs" (.ref pl) (wJ "names" (.ref nl) []))=tfl nl pl nd:=by
 unfold tfl
 simp only [wJ,if_neg tn1,if_neg tn2,if_neg tn3]
def tf2 (nl pl:Addr):List (Str × V):=[("names",.ref nl),("pairs",.ref pl)]
theorem zFG (nl pl:Addr):wJ "pairs" (.ref pl) (wJ "names" (.ref nl) [])=tf2 nl pl:=by
 unfold tf2
 simp only [wJ,if_neg tn1]
structure iE (K:W.Frag) (C:Addr):Prop where
 cl:Cls K C
 nN:uG K C "names"
 nP:uG K C "pairs"
 nR:uG K C "near"
def vD (B:Hp) (C:Addr) (H:Hp) (p:Addr) (zs:List Str) (ps:LSS):Prop:=∃ (dx nl pl nd:Addr) (L:Str->Addr) (N:Str->List Str),(B nl=none/\B pl=none/\B nd=none/\∀ z ∈ zs,B (L z)=none) /\
 H p=some (.ins C dx (tfl nl pl nd))/\H nl=some (.lst (zs.map V.str))/\Rows H pl (ps.map zQ)/\lT H nd zs ps L N
theorem yV {S:List Addr} {H H':Hp} (k:zD S H H') (n:∀ b ∈ S,∀ xs,H b ≠ some (.tup xs)) {qs:List Addr} {rows:List (List V)} (h:Paired (fun q r=>H q=some (.tup r)) qs rows):Paired (fun q r=>H' q=some (.tup r)) qs rows:=by
 induction h with
 | nil=>exact .nil
 | cons e _ ih=>exact .cons (k _ _ (fun z=>n _ z _ e) e) ih
theorem vD.keep {B:Hp} {C:Addr} {H H':Hp} {p:Addr} {zs:List Str} {ps:LSS} {S:List Addr} (h:vD B C H p zs ps) (k:zD S H H') (hS:∀ b ∈ S,b ≠ p/\B b ≠ none/\∀ xs,H b ≠ some (.tup xs)):vD B C H' p zs ps:=by
 obtain ⟨dx,nl,pl,nd,L,N,⟨b1,b2,b3,b4⟩,h1,h2,⟨qs,h3,h4⟩,h5⟩:=h
 have far:∀ {u:Addr},B u=none->u ∉ S:=fun {u} hb hm=>(hS u hm).2.1 hb
 exact ⟨dx,nl,pl,nd,L,N,⟨b1,b2,b3,b4⟩,k _ _ (fun hm=>(hS p hm).1 rfl) h1,k _ _ (far b1) h2,⟨qs,k _ _ (far b2) h3,yV k (fun b hb=>(hS b hb).2.2) h4⟩,
  ⟨k _ _ (far b3) h5.d,fun z hz=>k _ _ (far (b4 z hz)) (h5.l z hz),h5.p,h5.s⟩⟩
theorem vD.on {B:Hp} {C:Addr} {H H':Hp} {p:Addr} {zs:List Str} {ps:LSS} (h:vD B C H p zs ps) (k:zD [] H H'):vD B C H' p zs ps:=h.keep k fun b hb=>by cases hb
abbrev kY:Stmt:=sM (top 27) 0
abbrev qH:Stmt:=sM (top 27) 1
abbrev f8:Stmt:=sM (top 27) 2
section
variable {P:Program} {w:World} {K:W.Frag} {mg:Str->Option Value} {base:Heap} {C:Addr}
theorem zGR:zO ["self","houses","ties"] ["self","houses","ties"] (zF kY):=scm
theorem aK:zO ["self"] ["self"] (zF qH):=scm
theorem zGP:zO ["self"] ["self"] (zF f8):=scm
def iW (C:Addr):Sp:=fun vs H Q _=>∃ (p dx a b:Addr) (zs:List Str) (ps:LSS),vs=[.ref p,.ref a,.ref b]/\H p=some (.ins C dx [])/\H a=some (.lst (zs.map V.str))/\Rows H b (ps.map zQ)/\(∀ z ∈ zs,yB z)/\zs.Nodup/\1 <= zs.length/\zs.length < 60/\ps.length + 1=zs.length/\(∀ p ∈ ps,xN zs p)/\iI zs ps /\
 ∀ (zs':List Str) (ps':LSS) (H':Hp),zs'.Perm zs->Asc ltS zs'->ps'.Perm (ps.map xW)->Asc ltP ps'->vD H C H' p zs' ps'->zD [p] H H'->Q .non H'
theorem zHM {fI:Addr} {fd:FuncData} (T:iE K C) (G:Fun K "__init__" "Tree.__init__" kY fI fd) (CAH:Cal P w K mg base CX0 3 "are_houses" ["thing"] aE) (CAT:Cal P w K mg base CX0 4 "are_ties" ["thing","houses"] aD)
  (CTE:Cal P w K mg base CX0 1 "tied_to_each" ["houses","ties"] iT) (CST:Cal P w K mg base CX0 1 "steps_toward" ["near","goal"] mJ) (b_sorted:Blt mg "sorted") (b_min:Blt mg "min") (b_max:Blt mg "max") (b_len:Blt mg "len") :
  wW P w K mg base CX0 5 fI fd ["self","houses","ties"] (iW C):=by
 refine G.ok zGR (fun vs H Q E h=>by obtain ⟨p,dx,a,b,zs,ps,rfl,_⟩:=h;rfl) (fun cdv A outer s0 H vs Q E hr h=>?_)
 obtain ⟨p,dx,a,b,zs,ps,rfl,hp,ha,hb,gz,nd,l1,lz,lp,tz,cn,q⟩:=h
 have hr4:zX 4 _:=hr
 have hr3:zX 3 _:=hr.mono (by decide)
 have hr1:zX 1 _:=hr.mono (by decide)
 refine ⟨_,(zE (yW (xT (xF (zK CAH hr3 (zA (pv 1) zB)))) (zJ pC) yE)
   (zE (yW (xT (xF (zK CAT hr4 (zA (pv 2) (zA (pv 1) zB))))) (zJ pC) yE)
   (zE (hI (pv 0) (zM wU b_sorted wC (zA (pv 1) zB)) rfl)
   (zE (hI (pv 0) (zM sO b_sorted wC (zA (wM (N:=["self","houses","ties"]) (sc:=zF kY) (ix:=[]) (by decide +kernel) (yY (pv 2)) (fun _ _ _ _=>xB) (fun _ _ _ _=>(xZ (zA (zM (nY rfl) b_min fG (zA (pv 0) zB)) (zA (zM (nZ rfl) b_max zB6 (zA (pv 0) zB)) zB))))) zB)) rfl)
   (zE (hI (pv 0) (zK CTE hr1 (zA (tS (pv 0) rfl) (zA (tS (pv 0) rfl) zB))) rfl)
   (zJ (yW (zZ tI (zM bK b_len yH (zA (zK CST hr1 (zA (tS (pv 0) rfl) (zA (yI yA (tS (pv 0) rfl) zG (fun _ _=>rfl)) zB))) zB)) (zM zU b_len yH (zA (tS (pv 0) rfl) zB)) (z6 _)) (zJ pC) yE))))))),?_⟩
 refine ⟨_,rfl,a,zs,rfl,ha,gz,nd,l1,by omega,fun H1 k1=>⟨_,rfl,ifF rfl ?_⟩⟩
 refine ⟨_,rfl,_,rfl,b,a,ps,zs,rfl,hb.keep k1,k1 _ _ (by simp) ha,gz,tz,lp,by omega,fun H2 k2=>⟨_,rfl,ifF rfl ?_⟩⟩
 have k02:=k1.trans k2
 have hp2:=k02 _ _ (by simp) hp
 have ha2:=k02 _ _ (by simp) ha
 have hb2:=hb.keep k02
 refine ⟨_,rfl,a,zs,rfl,ha2,by omega,fun nl zs' hnl pz sz=>?_⟩
 have pnl:p ≠ nl:=zH hp2 hnl
 refine ⟨_,rfl,p,C,dx,_,rfl,by rw [zI pnl];exact hp2,T.cl,T.nN,by show 0 < 1000;decide,?_⟩
 generalize hH3:upd (upd H2 nl (.lst (zs'.map V.str))) p (.ins C dx (wJ "names" (.ref nl) []))=H3
 have k3:zD [p] H H3:=by rw [<- hH3];exact ((k02.mono (by simp)).trans (zD.new hnl)).trans (zD.at (by simp))
 have hp3:H3 p=some (.ins C dx (wJ "names" (.ref nl) [])):=by rw [<- hH3];exact zC
 have hn3:H3 nl=some (.lst (zs'.map V.str)):=by rw [<- hH3,zI pnl.symm];exact zC
 have bnl:H nl=none:=k02.none (by simp) hnl
 obtain ⟨qs,hbl,hbq⟩:=hb
 have bp:b ≠ p:=fun e=>by rw [e,hp] at hbl;cases hbl
 have hbl3:=k3 _ _ (by simp [bp]) hbl
 have npT:∀ u ∈ [p],∀ xs,H u ≠ some (.tup xs):=fun u hu xs e=>by rw [zJ6.mp hu,hp] at e;cases e
 have hbq3:=yV k3 npT hbq
 have lq:=zW hbq
 rw [zJ3] at lq
 refine ⟨_,rfl,b,rfl,⟨_,.of hbl3⟩,fun acc hacc=>?_⟩
 have ba:b ≠ acc:=zH hbl3 hacc
 have pa:p ≠ acc:=zH hp3 hacc
 refine vV (K:=K) (a:=b) (its:=qs.map V.ref) (by rw [zJ3,sizeLine_eq];omega) (fun i ys τ H4=>∃ (k:Option V) (ts:List Addr),τ=[k]/\ys=ts.map V.ref/\Paired (fun q r=>H4 q=some (.tup r)) ts (((ps.take i).map xW).map zQ)/\zD [acc] H3 H4/\H4 acc=some (.lst ys)) ?_ ?_ ?_ ?_
 ·exact ⟨_,[],rfl,rfl,.nil,zD.at (by simp),zC⟩
 ·rintro i ys τ H4 ⟨k,ts,rfl,rfl,pt,kp,h4⟩
  refine ⟨h4,?_,.of (kp _ _ (by simp [ba]) hbl3)⟩
  have:=zW pt
  rw [zJ3] at *
  rw [this,zJ3,zKM];omega
 ·rintro i ys τ H4 x hx ⟨k,ts,rfl,rfl,pt,kp,h4⟩
  rw [zJ9] at hx
  cases et:qs[i]? with
  | none=>rw [et] at hx;cases hx
  | some t=>
  rw [et] at hx
  have ex:V.ref t=x:=zKA hx
  subst ex
  obtain ⟨r,er,ht⟩:=yQ hbq3 i t et
  rw [zJ9] at er
  cases ep:ps[i]? with
  | none=>rw [ep] at er;cases er
  | some pr=>
  rw [ep] at er
  have er':zQ pr=r:=zKA er
  subst er'
  have ta:t ≠ acc:=zH ht hacc
  have ht4:=kp _ _ (by simp [ta]) ht
  have tk:ps.take (i + 1)=ps.take i ++ [pr]:=by rw [List.take_add_one,ep];rfl
  refine ⟨_,rfl,t,pr.1,pr.2,rfl,ht4,_,rfl,t,pr.1,pr.2,rfl,ht4,by show 2 <= sizeLine;decide,fun t2 ht2=>?_⟩
  have k5:zD [] H4 (upd H4 t2 (.tup [.str (jQ pr.1 pr.2),.str (jR pr.1 pr.2)])):=zD.new ht2
  refine ⟨k5 _ _ (by simp) h4,_,ts ++ [t2],rfl,by rw [zKF];rfl,?_,(kp.trans (k5.mono (by simp))).trans (zD.at (by simp)),zC⟩
  rw [tk,zKF,zKF]
  have a2:acc ≠ t2:=zH h4 ht2
  refine vI (yV (S:=[acc]) ((k5.mono (by simp)).trans (zD.at (by simp))) (fun u hu xs e=>by rw [zJ6.mp hu,h4] at e;cases e) pt) ?_
  rw [zI a2.symm]
  exact zC
 rintro ys τ H4 ⟨k,ts,rfl,rfl,pt,kp4,h4⟩
 rw [zJ3,lq,zK3] at pt
 have k34:zD [] H3 H4:=kp4.drop hacc
 refine ⟨acc,ts,ps.map xW,rfl,h4,pt,by rw [zJ3];omega,fun pl qs' ps' hpl pp sp hpr=>?_⟩
 have hp4:=k34 _ _ (by simp) hp3
 have ppl:p ≠ pl:=zH hp4 hpl
 refine ⟨_,rfl,p,C,dx,_,rfl,by rw [zI ppl];exact hp4,T.cl,T.nP,by show 1 < 1000;decide,?_⟩
 rw [zFG]
 generalize hH5:upd (upd H4 pl (.lst (qs'.map V.ref))) p (.ins C dx (tf2 nl pl))=H5
 have k5:zD [p] H4 H5:=by rw [<- hH5];exact (zD.new hpl).trans (zD.at (by simp))
 have hp5:H5 p=some (.ins C dx (tf2 nl pl)):=by rw [<- hH5];exact zC
 have hn5:H5 nl=some (.lst (zs'.map V.str)):=k5 _ _ (by simp [pnl.symm]) (k34 _ _ (by simp) hn3)
 have hl5:H5 pl=some (.lst (qs'.map V.ref)):=by rw [<- hH5,zI ppl.symm];exact zC
 have hq5:Paired (fun q r=>H5 q=some (.tup r)) qs' (ps'.map zQ):=yV k5 (fun u hu xs e=>by rw [zJ6.mp hu,hp4] at e;cases e) hpr
 have k05:zD [p] H H5:=(k3.trans (k34.mono (by simp))).trans k5
 have bpl:H pl=none:=(k3.trans (k34.mono (by simp))).none (by simp [ppl.symm]) hpl
 have tz':∀ t ∈ ps',xN zs' t:=fun t ht=>by
  obtain ⟨u,hu,e⟩:=List.mem_map.mp (pp.mem_iff.mp ht)
  rw [<- e]
  obtain ⟨a,b,c⟩:=kJ (tz u hu)
  exact ⟨pz.mem_iff.mpr a,pz.mem_iff.mpr b,c⟩
 have lps':ps'.length < 60:=by rw [pp.length_eq,zJ3];omega
 have lzs':zs'.length=zs.length:=pz.length_eq
 have nd':zs'.Nodup:=pz.nodup_iff.mpr nd
 refine ⟨_,rfl,p,C,dx,_,_,rfl,hp5,T.cl,T.nN,rfl,_,rfl,p,C,dx,_,_,rfl,hp5,T.cl,T.nP,rfl,nl,pl,ps',zs',rfl,hn5,⟨qs',hl5,hq5⟩,nd',tz',lps',by omega,fun ndr L N H6 hnd hL na k6=>?_⟩
 have hp6:=k6 _ _ (by simp) hp5
 refine ⟨_,rfl,p,C,dx,_,rfl,hp6,T.cl,T.nR,by show 2 < 1000;decide,?_⟩
 rw [show wJ "near" (.ref ndr) (tf2 nl pl)=tfl nl pl ndr from by rw [<- zFG,tput]]
 generalize hH7:upd H6 p (.ins C dx (tfl nl pl ndr))=H7
 have k7:zD [p] H6 H7:=by rw [<- hH7];exact zD.at (by simp)
 have hp7:H7 p=some (.ins C dx (tfl nl pl ndr)):=by rw [<- hH7];exact zC
 have k57:zD [p] H5 H7:=(k6.mono (by simp)).trans k7
 have k07:zD [p] H H7:=k05.trans k57
 have pnd:ndr ≠ p:=fun e=>by rw [e,hp5] at hnd;cases hnd
 have bnd:H ndr=none:=k05.none (by simp [pnd]) hnd
 have pL:∀ z ∈ zs',L z ≠ p:=fun z hz e=>by have:=hL z hz;rw [e,hp5] at this;cases this
 have bL:∀ z ∈ zs',H (L z)=none:=fun z hz=>k05.none (by simp [pL z hz]) (hL z hz)
 have na7:lT H7 ndr zs' ps' L N:=⟨k7 _ _ (by simp [pnd]) na.d,fun z hz=>k7 _ _ (by simp [pL z hz]) (na.l z hz),na.p,na.s⟩
 have hn7:=k57 _ _ (by simp [pnl.symm]) hn5
 have hl7:=k57 _ _ (by simp [ppl.symm]) hl5
 have hq7:Paired (fun q r=>H7 q=some (.tup r)) qs' (ps'.map zQ):=yV k57 (fun u hu xs e=>by rw [zJ6.mp hu,hp5] at e;cases e) hq5
 obtain ⟨g,zs1,ez⟩:∃ g zs1,zs'=g :: zs1:=by
  cases e:zs' with
  | nil=>rw [e] at lzs';simp at lzs';omega
  | cons g zs1=>exact ⟨g,zs1,rfl⟩
 have hg:g ∈ zs':=by rw [ez];exact zKW
 refine ⟨_,rfl,p,C,dx,_,_,rfl,hp7,T.cl,T.nR,rfl,_,rfl,p,C,dx,_,_,rfl,hp7,T.cl,T.nN,rfl,nl,_,_,.str g,rfl,rfl,hn7,?_,ndr,zs',ps',L,N,g,rfl,na7,by omega,hg,(fun z hz y hy=>aU tz' ((na.p z hz).mem_iff.mp hy)),fun sd ks nx H8 hsd led cl h8 k8=>?_⟩
 ·rw [ez];simp [atI,ixN]
 obtain ⟨_,ek⟩:=zEH (nW cn pz pp) tz' nd' na.p led cl
 refine ⟨sd,_,rfl,h8,_,rfl,p,C,dx,_,_,rfl,k8 _ _ (by simp) hp7,T.cl,T.nN,rfl,_,_,rfl,.inl ⟨_,.of (k8 _ _ (by simp) hn7),rfl⟩,rfl,_,rfl,ifF ?_ ?_⟩
 ·rw [gW,zJ3,ek];simp
 refine q zs' ps' H8 pz sz pp sp ?_ (k07.trans (k8.mono (by simp)))
 exact vD.on ⟨dx,nl,pl,ndr,L,N,⟨bnl,bpl,bnd,bL⟩,hp7,hn7,⟨qs',hl7,hq7⟩,na7⟩ k8
def kO (C:Addr):Sp:=fun vs H Q _=>∃ (p:Addr) (B:Hp) (zs:List Str) (ps:LSS),vs=[.ref p]/\vD B C H p zs ps/\∀ l,H l=none->Q (.ref l) (upd H l (.lst (zs.map V.str)))
theorem zAT (T:iE K C) (G:iF K C "houses" "Tree.houses" qH ["self"]) (b_list:Blt mg "list"):bO P w K mg base CX0 1 C "houses" ["self"] (kO C):=by
 refine G.ok aK (fun vs H Q E h=>by obtain ⟨p,B,zs,ps,rfl,_⟩:=h;rfl) (fun f cdv A outer s0 H vs Q E hr h=>?_)
 obtain ⟨p,B,zs,ps,rfl,⟨dx,nl,pl,nd,L,N,_,h1,h2,h3,h4⟩,q⟩:=h
 refine ⟨_,(zJ (zT (wA uE rfl b_list.no sP (zA (tS (pv 0) rfl) zB)))),?_⟩
 exact ⟨_,rfl,p,C,dx,_,_,rfl,h1,T.cl,T.nN,rfl,nl,_,rfl,.inl (.of h2),fun l hl=>q l hl⟩
def b8 (C:Addr):Sp:=fun vs H Q _=>∃ (p:Addr) (B:Hp) (zs:List Str) (ps:LSS),vs=[.ref p]/\vD B C H p zs ps/\∀ l H',H l=none->Rows H' l (ps.map zQ)->zD [] H H'->Q (.ref l) H'
theorem zHE (T:iE K C) (G:iF K C "ties" "Tree.ties" f8 ["self"]) (b_list:Blt mg "list"):bO P w K mg base CX0 1 C "ties" ["self"] (b8 C):=by
 refine G.ok zGP (fun vs H Q E h=>by obtain ⟨p,B,zs,ps,rfl,_⟩:=h;rfl) (fun f cdv A outer s0 H vs Q E hr h=>?_)
 obtain ⟨p,B,zs,ps,rfl,⟨dx,nl,pl,nd,L,N,_,h1,h2,⟨qs,h3,h3'⟩,h4⟩,q⟩:=h
 refine ⟨_,(zJ (zT (wA uE rfl b_list.no sP (zA (tS (pv 0) rfl) zB)))),?_⟩
 refine ⟨_,rfl,p,C,dx,_,_,rfl,h1,T.cl,T.nP,rfl,pl,_,rfl,.inl (.of h3),fun l hl=>q l _ hl ⟨qs,zC,?_⟩ (zD.new hl)⟩
 exact yV (S:=[]) (zD.new hl) (fun b hb=>by cases hb) h3'
end
theorem p7 {α:Type} (f:α->V) (l:List α) {k:Int} (hk:0 <= k):rM (l.map f) none (some k)=(l.take k.toNat).map f:=by
 unfold rM
 obtain ⟨n,rfl⟩:=Int.eq_ofNat_of_zero_le hk
 rw [HT.sIx_none,HT.sIx_nat,List.drop_zero,zJ3,Nat.sub_zero,<- List.map_take]
 congr 1
 rcases Nat.le_total n l.length with h | h
 ·rw [Nat.min_eq_left h];rfl
 ·rw [Nat.min_eq_right h,zKS (zKC _)];exact (zKS h).symm
theorem vX {α:Type} (f:α->V) (l:List α) {k:Int} (hk:0 <= k):rM (l.map f) (some k) none=(l.drop k.toNat).map f:=by
 unfold rM
 obtain ⟨n,rfl⟩:=Int.eq_ofNat_of_zero_le hk
 rw [HT.sIx_none,HT.sIx_nat,zJ3,<- List.map_drop,<- List.map_take]
 congr 1
 show (l.drop (min n l.length)).take (l.length - min n l.length)=l.drop n
 rcases Nat.le_total n l.length with h | h
 ·rw [Nat.min_eq_left h,zKS (by rw [List.length_drop];omega)]
 ·rw [Nat.min_eq_right h,List.drop_of_length_le (zKC _),List.drop_of_length_le h];simp
theorem qY {α:Type} (k:Nat) (xs:List α):(xs.drop k ++ xs.take k).Perm xs:=by
 have:=@List.perm_append_comm _ (xs.drop k) (xs.take k)
 rw [List.take_append_drop] at this
 exact this
theorem hX:∀ (ws:List Str) (k:Nat),(ws.map V.str).eraseIdx k=(ws.eraseIdx k).map V.str:=by
 intro ws
 induction ws with
 | nil=>intro k;rfl
 | cons w ws ih=>
  intro k
  cases k with
  | zero=>rfl
  | succ k=>show V.str w :: (ws.map V.str).eraseIdx k=V.str w :: (ws.eraseIdx k).map V.str;rw [ih]
theorem gQ {α:Type}:∀ (ws:List α) (k:Nat) (h:k < ws.length),(ws[k] :: ws.eraseIdx k).Perm ws:=by
 intro ws
 induction ws with
 | nil=>intro k h;exact absurd h (Nat.not_lt_zero _)
 | cons w ws ih=>
  intro k h
  cases k with
  | zero=>exact .refl _
  | succ k=>
   have h':k < ws.length:=Nat.lt_of_succ_lt_succ h
   exact (List.Perm.swap _ _ _).trans ((ih k h').cons w)
theorem Src.on {H H':Hp} {p:Addr} (h:Src H p) (k:zD [] H H'):Src H' p:=by
 obtain ⟨a,b,c,e⟩:=h
 exact ⟨a,b,c,k _ _ (by simp) e⟩
theorem Src.ne {H:Hp} {p l:Addr} (h:Src H p) (hl:H l=none):l ≠ p:=by
 obtain ⟨a,b,c,e⟩:=h
 exact Ne.symm (zH e hl)
abbrev kU:Stmt:=top 39
abbrev f9:Stmt:=top 41
section
variable {P:Program} {w:World} {K:W.Frag} {mg:Str->Option Value} {base:Heap} {C:Addr}
theorem aF:zO ["_law_source","_law_most","_law_letters"] ["_law_source","_law_most"] (zF kU):=scm
theorem i6:zO ["_law_source","_law_names_here","_law_left","_law_found"] ["_law_source","_law_names_here"] (zF f9):=scm
def b5:Sp:=fun vs H Q _=>∃ (p:Addr) (m:Int),vs=[.ref p,.int m]/\Src H p/\0 <= m/\m <= 90 /\
 ∀ (z:Str) (H':Hp),sS z->(z.length:Int) <= m->zD [p] H H'->Src H' p->Q (.str z) H'
theorem zHB (G:yD K mg "_law_word" kU ["_law_source","_law_most"]) (CN:Cal P w K mg base CX0 2 "_law_next" ["_law_source","_law_many"] tQ) (b_range:Blt mg "range") :
  Cal P w K mg base CX0 3 "_law_word" ["_law_source","_law_most"] b5:=by
 refine G.ok aF (fun vs H Q E h=>by obtain ⟨p,m,rfl,_⟩:=h;rfl) (fun f cdv A outer s H vs Q E hr h=>?_)
 obtain ⟨p,m,rfl,⟨a,b,c,hp⟩,m0,m1,q⟩:=h
 have hr2:zX 2 _:=hr
 refine ⟨_,(zE (zL (i:=2) aF.nd rfl (Or.inr rfl) zS)
   (zJ (zT (yS F.plainAttrs_str F.slot_str_join F.type_str_join u8 zS (zA (wM (N:=["_law_source","_law_most","_law_letters"]) (sc:=zF kU) (ix:=[2,0]) (by decide +kernel) (u6 rfl b_range.no (zA (zK CN hr2 (zA (pv 0) (zA (zN yT (pv 1) zG) zB))) zB)) (fun _ _ _ _=>xB) (fun _ _ _ _=>(yI lH (pv 1) (zK CN hr2 (zA (pv 2) (zA zG zB))) (fun _ _=>rfl)))) zB))))),?_⟩
 refine ⟨rfl,_,rfl,_,rfl,_,_,rfl,rfl,p,a,b,c,_,rfl,hp,by omega,by omega,fun v a' c' v0 v1=>⟨_,rfl,by omega,by omega,fun acc ha=>?_⟩⟩
 have k1:zD [p] H (upd H p (.lst [.int a',.int b,.int c'])):=zD.at (by simp)
 refine iS (p:=p) (n:=v.toNat) (by omega) ⟨a',b,c',zC⟩ ha rfl (fun k H2 R ⟨a2,b2,c2,hs⟩ R'=>?_) ?_
 ·refine ⟨_,rfl,_,rfl,p,a2,b2,c2,26,rfl,hs,by decide,by decide,fun v2 a3 c3 w0 w1=>?_⟩
  obtain ⟨ch,hc1,hc2⟩:=fK (xs:=abc.cps.toList) w0 (show v2 < ((26:Nat):Int) from w1)
  exact ⟨_,v2,ch,rfl,rfl,by decide,hc1,R' ch _ (zJ7 hc2) (zD.at (by simp)) ⟨a3,b2,c3,zC⟩⟩
 intro zs H2 hzl hz k2 s2 h2
 refine ⟨"",acc,zs,rfl,rfl,.of h2,by rw [fT zs hz,hzl];show _ + _ * 0 <= _;omega,?_⟩
 exact q _ _ (zA4 zs fun z h=>(hz z h).1) (by rw [uR,fT zs hz,hzl];omega) (k1.trans k2) s2
def b9:Sp:=fun vs H Q _=>∃ (p a:Addr) (zs:List Str),vs=[.ref p,.ref a]/\Src H p/\H a=some (.lst (zs.map V.str))/\zs.length <= 1000 /\
 ∀ (r:Addr) (zs':List Str) (H':Hp),H r=none->zs'.Perm zs->H' r=some (.lst (zs'.map V.str))->zD [p] H H'->Src H' p->Q (.ref r) H'
theorem zHH (G:yD K mg "_law_shuffled" f9 ["_law_source","_law_names_here"]) (CN:Cal P w K mg base CX0 2 "_law_next" ["_law_source","_law_many"] tQ) (b_len:Blt mg "len") (b_list:Blt mg "list") :
  Cal P w K mg base CX0 3 "_law_shuffled" ["_law_source","_law_names_here"] b9:=by
 refine G.ok i6 (fun vs H Q E h=>by obtain ⟨p,a,zs,rfl,_⟩:=h;rfl) (fun f cdv A outer s H vs Q E hr h=>?_)
 obtain ⟨p,a,zs,rfl,sr,ha,lx,q⟩:=h
 have hr2:zX 2 _:=hr
 have hu0:=Nat.lt_of_succ_lt (nJ hr)
 refine ⟨_,(zE (zL (i:=2) i6.nd rfl (Or.inl rfl) (wA uE rfl b_list.no sP (zA (pv 1) zB)))
   (zE (zL (i:=3) i6.nd rfl (Or.inl rfl) (yP zB))
   (zE (jE PassesOwn.never (zZ (zAQ hu0) (pv 2) (yP zB) (z6 _)) (zJ (xC (yS F.plainAttrs_list F.slot_list_append F.type_list_append y6 (pv 3) (zA (yS F.plainAttrs_list F.slot_list_pop F.type_list_pop pJ (pv 2) (zA (zK CN hr2 (zA (pv 0) (zA (zM zU b_len yH (zA (pv 2) zB)) zB))) zB)) zB)))))
   (zJ (zT (pv 3)))))),?_⟩
 refine ⟨_,rfl,a,_,rfl,.inl (.of ha),fun l hl=>⟨zKD _,fun fo hfo=>?_⟩⟩
 obtain ⟨nfo,fl⟩:=kI hfo
 have lp:l ≠ p:=sr.ne hl
 have fp:fo ≠ p:=sr.ne nfo
 refine ⟨fun m σ H1=>∃ (zs1 zs2:List Str),σ=[some (.ref p),some (.ref a),some (.ref l),some (.ref fo)]/\m=zs1.length/\(zs2 ++ zs1).Perm zs/\Src H1 p/\H1 l=some (.lst (zs1.map V.str))/\H1 fo=some (.lst (zs2.map V.str))/\zD [l,fo,p] H H1,⟨_,zs,[],rfl,rfl,.refl _,(sr.on (zD.new hl)).on (zD.new hfo),by rw [zI fl.symm,zC],zC,(zD.new hl).trans (zD.new hfo)⟩,?_⟩
 rintro m σ H1 ⟨zs1,zs2,rfl,rfl,pm,s1,h1,h2,k1⟩
 refine ⟨_,rfl,zKD _,fun e he=>?_⟩
 have k2:zD [] H1 (upd H1 e (.lst [])):=zD.new he
 have le:l ≠ e:=zH h1 he
 refine ⟨l,e,_,rfl,rfl,k2 _ _ (by simp) h1,zC,le,_,rfl,?_⟩
 generalize upd H1 e (.lst [])=H2 at k2
 have s2:=s1.on k2
 have h12:=k2 _ _ (by simp) h1
 have h22:=k2 _ _ (by simp) h2
 have k02:=k1.trans (k2.mono (S':=[l,fo,p]) (by simp))
 cases zs1 with
 | nil=>
  refine ifF rfl ⟨_,rfl,q fo zs2 H2 nfo (by rw [List.append_nil] at pm;exact pm) h22 ?_ s2⟩
  exact (k02.drop hl).drop nfo
 | cons z0 zs1=>
 refine ifT rfl ?_
 obtain ⟨x,y,z,hp⟩:=id s2
 have ln:=pm.length_eq
 rw [zKL] at ln
 have l1:((z0 :: zs1).map V.str).length <= 1000:=by rw [zJ3];omega
 have l0:0 < ((z0 :: zs1).map V.str).length:=by simp
 generalize z0 :: zs1=ws at *
 refine ⟨fun σ' H'=>∃ m',m' < ws.length/\∃ (zs1 zs2:List Str),σ'=[some (.ref p),some (.ref a),some (.ref l),some (.ref fo)]/\m'=zs1.length/\(zs2 ++ zs1).Perm zs/\Src H' p/\H' l=some (.lst (zs1.map V.str))/\H' fo=some (.lst (zs2.map V.str))/\zD [l,fo,p] H H',fun _ _ h=>h,?_⟩
 refine ⟨_,rfl,Or.inl ⟨rfl,_,.of h22⟩,_,rfl,Or.inl ⟨rfl,_,.of h12⟩,_,rfl,_,rfl,_,_,rfl,.inl ⟨_,.of h12,rfl⟩,p,x,y,z,_,rfl,hp,by omega,by omega,fun v x' z' v0 v1=>?_⟩
 have vl:v.toNat < ws.length:=by rw [zJ3] at v1;omega
 have ex:(ws.map V.str)[v.toNat]?=some (.str ws[v.toNat]):=by rw [zJ9,zJ4 vl];rfl
 have ei:seqIndex? v (ws.map V.str).length=some v.toNat:=(qO (by unfold ixN;rw [if_pos v0,if_pos (by omega)])).1
 refine ⟨l,_,v,v.toNat,.str ws[v.toNat],rfl,rfl,by rw [zI lp];exact h12,by omega,by omega,ei,ex,?_⟩
 refine ⟨fo,_,_,rfl,rfl,by rw [zI fl,zI fp];exact h22,by rw [zJ3,sizeLine_eq];omega,?_⟩
 have em:(ws.map V.str).eraseIdx v.toNat=(ws.eraseIdx v.toNat).map V.str:=hX ws v.toNat
 refine ⟨_,?_,ws.eraseIdx v.toNat,zs2 ++ [ws[v.toNat]],rfl,rfl,?_,?_,?_,?_,?_⟩
 ·rw [List.length_eraseIdx_of_lt vl];omega
 ·rw [zKY]
  exact ((gQ ws v.toNat vl).append_left zs2).trans pm
 ·exact ⟨x',y,z',by rw [zI fp.symm,zI lp.symm,zC]⟩
 ·rw [zI fl.symm,zC,em]
 ·rw [zC,zKF];rfl
 ·exact ((k02.trans (zD.at (by simp))).trans (zD.at (by simp))).trans (zD.at (by simp))
end
def vA:List Str:=["tree","tie","any","a","ab","aba","b","mend","zzzzzzzz","ask","house","asker"]
theorem zCX:vA.Nodup:=by decide +kernel
theorem cH:∀ z ∈ vA,yB z:=by
 unfold yB
 decide +kernel
def chN (sh:Int) (k:Nat):Nat:=abc.cps.toList.getD ((sh + 2 * (0 + (k:Int))) % 26).toNat 0
theorem zE8:abc.cps.toList.length=26:=by decide +kernel
theorem zB2 (sh:Int) (k:Nat):atI abc.cps.toList ((sh + 2 * (0 + (k:Int))) % 26)=some (chN sh k)/\chN sh k ∈ abc.cps.toList:=by
 have g0:0 <= (sh + 2 * (0 + (k:Int))) % 26:=Int.emod_nonneg _ (by decide)
 have g1:(sh + 2 * (0 + (k:Int))) % 26 < 26:=Int.emod_lt_of_pos _ (by decide)
 obtain ⟨v,e1,e2⟩:=fK (xs:=abc.cps.toList) g0 (by rw [zE8];exact g1)
 have e:chN sh k=v:=by unfold chN;rw [zJ8,e2];rfl
 rw [e]
 exact ⟨e1,zJ7 e2⟩
theorem zE9:∀ i j:Fin 26,abc.cps.toList.getD i.val 0=abc.cps.toList.getD j.val 0->i=j:=by decide +kernel
theorem d5 {sh:Int} {j k:Nat} (hj:j < 13) (hk:k < 13) (h:chN sh j=chN sh k):j=k:=by
 have g0:∀ k:Nat,0 <= (sh + 2 * (0 + (k:Int))) % 26:=fun k=>Int.emod_nonneg _ (by decide)
 have g1:∀ k:Nat,(sh + 2 * (0 + (k:Int))) % 26 < 26:=fun k=>Int.emod_lt_of_pos _ (by decide)
 have e:=zE9 ⟨((sh + 2 * (0 + (j:Int))) % 26).toNat,by have:=g0 j;have:=g1 j;omega⟩ ⟨((sh + 2 * (0 + (k:Int))) % 26).toNat,by have:=g0 k;have:=g1 k;omega⟩ h
 have e':((sh + 2 * (0 + (j:Int))) % 26).toNat=((sh + 2 * (0 + (k:Int))) % 26).toNat:=congrArg Fin.val e
 have:=g0 j;have:=g0 k
 omega
theorem iC (x y:Str):(x ++ y).cps.toList=x.cps.toList ++ y.cps.toList:=by
 show (x.cps ++ y.cps).toList=_
 simp
theorem zD9 {a b:Str} {c d:Nat} (h:a ++ (⟨#[c]⟩:Str) ++ b=a ++ (⟨#[d]⟩:Str) ++ b):c=d:=by
 have:=congrArg (fun z:Str=>z.cps.toList) h
 simp only [iC] at this
 simpa using this
theorem zET {a b:Str} {c d:Nat} (h:a ++ (⟨#[c]⟩:Str)=b ++ (⟨#[d]⟩:Str)):c=d:=by
 have:=congrArg (fun z:Str=>z.cps.toList.getLast?) h
 simp only [iC] at this
 simpa using this
theorem zBZ {x:Str} {i:Int} (h0:0 <= i) (h1:i <= x.length):(Txt.slice x none (some i)).length + (Txt.slice x (some i) none).length=x.length:=by
 have e0:x.cps.toList.length=x.length:=by show x.cps.toList.length=x.cps.size;simp
 have a:=eq_of_beq (PyProof.Rows.slice_closes_to (x:=x) (j:=i) ⟨h0,by rw [e0];exact h1⟩)
 have b:=PyProof.Rows.slice_from_eq (x:=x) (i:=i) (b:=x.length) h0 h1 rfl
 rw [a,b]
 show ((x.cps.toList.drop (0:Int).toNat).take (i - 0).toNat).toArray.size + ((x.cps.toList.drop i.toNat).take ((x.length:Int) - i).toNat).toArray.size=_
 rw [zKB,zKB,zKM,zKM,List.length_drop,List.length_drop,e0]
 omega
theorem fY {α:Type} {ws:List α} {w:α} (h:ws.Nodup) (n:w ∉ ws):(ws ++ [w]).Nodup:=by
 refine List.nodup_append.mpr ⟨h,List.nodup_cons.mpr ⟨by simp,List.nodup_nil⟩,?_⟩
 intro a ha b hb e
 exact n (zJ6.mp hb ▸ e ▸ ha)
abbrev rD:Stmt:=top 40
section
variable {P:Program} {w:World} {K:W.Frag} {mg:Str->Option Value} {base:Heap} {C:Addr}
theorem uA:zO ["_law_source","_law_many","_law_letters","_law_way","_law_shift","_law_some","_law_stem","_law_at"] ["_law_source","_law_many"] (zF rD):=scm
def fV:Sp:=fun vs H Q _=>∃ (p:Addr) (m:Int),vs=[.ref p,.int m]/\Src H p/\0 <= m/\m <= 12 /\
 ∀ (r:Addr) (zs:List Str) (H':Hp),H r=none->H' r=some (.lst (zs.map V.str))->zs.length=m.toNat->(∀ z ∈ zs,yB z)->zs.Nodup->zD [p] H H'->Src H' p->Q (.ref r) H'
theorem zDV (G:yD K mg "_law_names" rD ["_law_source","_law_many"]) (CN:Cal P w K mg base CX0 2 "_law_next" ["_law_source","_law_many"] tQ) (CW:Cal P w K mg base CX0 3 "_law_word" ["_law_source","_law_most"] b5) (b_range:Blt mg "range") (b_len:Blt mg "len") :
  Cal P w K mg base CX0 4 "_law_names" ["_law_source","_law_many"] fV:=by
 refine G.ok uA (fun vs H Q E h=>by obtain ⟨p,m,rfl,_⟩:=h;rfl) (fun f cdv A outer s0 H vs Q E hr h=>?_)
 obtain ⟨p,m,rfl,⟨a,b,c,hp⟩,m0,m1,q⟩:=h
 have hr3:zX 3 _:=hr
 have hr2:zX 2 _:=hr.mono (by decide)
 refine ⟨_,(zE (zL (i:=2) uA.nd rfl (Or.inr rfl) zS)
   (zE (zL (i:=3) uA.nd rfl (Or.inl rfl) (zK CN hr2 (zA (pv 0) (zA zG zB))))
   (zE (zL (i:=4) uA.nd rfl (Or.inr rfl) (zK CN hr2 (zA (pv 0) (zA zG zB))))
   (zE (yW (zZ tJ (pv 3) zG (z6 _)) (@zE _ _ _ _ _ (@eW _ _ _ 5 _ _ _ _ uA.nd rfl (Or.inl rfl) (Or.inl rfl) (@zAN _ _ (vA.map V.str) (.cons .str (.cons .str (.cons .str (.cons .str (.cons .str (.cons .str (.cons .str (.cons .str (.cons .str (.cons .str (.cons .str (.cons .str .nil))))))))))))))
   (zJ (zT (yJ xH (zN tT (yJ xH (pv 5) (yL (zN wN (pv 4) zG)) yX) (yJ xH (pv 5) yX (yL (zN wN (pv 4) zG)))) yX (yL (pv 1)))))) yE)
   (zE (zL (i:=6) uA.nd rfl (Or.inr rfl) (zK CW hr3 (zA (pv 0) (zA zG zB))))
   (zE (zL (i:=7) uA.nd rfl (Or.inr rfl) (zK CN hr2 (zA (pv 0) (zA (zN yT (zM zU b_len yH (zA (pv 6) zB)) zG) zB))))
   (zE (yW (zZ tJ (pv 3) zG (z6 _)) (zJ (zT (wM (N:=["_law_source","_law_many","_law_letters","_law_way","_law_shift","_law_some","_law_stem","_law_at"]) (sc:=zF rD) (ix:=[6,2,7,4]) (by decide +kernel) (u6 rfl b_range.no (zA (pv 1) zB)) (fun _ _ _ _=>xB) (fun _ _ _ _=>(zN yZ (zN yZ (yJ mO (pv 1) yX (yL (pv 3))) (yI lH (pv 2) (zN wN (zN yT (pv 4) (zN uP zG (pv 0))) zG) (fun _ _=>rfl))) (yJ mO (pv 1) (yL (pv 3)) yX)))))) yE)
   (zJ (zT (wM (N:=["_law_source","_law_many","_law_letters","_law_way","_law_shift","_law_some","_law_stem","_law_at"]) (sc:=zF rD) (ix:=[0,2,4]) (by decide +kernel) (u6 rfl b_range.no (zA (pv 1) zB)) (fun _ _ _ _=>xB) (fun _ _ _ _=>(zN yZ (zK CW hr3 (zA (pv 1) (zA zG zB))) (yI lH (pv 2) (zN wN (zN yT (pv 3) (zN uP zG (pv 0))) zG) (fun _ _=>rfl)))))))))))))),?_⟩
 refine ⟨_,rfl,p,a,b,c,3,rfl,hp,by decide,by decide,fun wy a1 c1 w0 w1=>?_⟩
 refine ⟨_,rfl,p,a1,b,c1,26,rfl,zC,by decide,by decide,fun sh a2 c2 h0 h1=>?_⟩
 rw [sB]
 have k1:zD [p] H (upd H p (.lst [.int a2,.int b,.int c2])):=zD.at (by simp)
 generalize hH1:upd H p (.lst [.int a2,.int b,.int c2])=H1 at k1
 have s1:Src H1 p:=⟨a2,b,c2,by rw [<- hH1];exact zC⟩
 refine ⟨_,rfl,rfl,_,rfl,qA (fun e0=>?_) (fun e0=>?_)⟩
 ·
  refine ⟨by show 12 <= sizeLine;decide,fun l hl=>?_⟩
  have k2:zD [] H1 (upd H1 l (.lst (vA.map V.str))):=zD.new hl
  generalize hH2:upd H1 l (.lst (vA.map V.str))=H2 at k2
  have h2:H2 l=some (.lst (vA.map V.str)):=by rw [<- hH2];exact zC
  have g0:0 <= sh % 12:=Int.emod_nonneg _ (by decide)
  refine ⟨_,rfl,_,rfl,_,_,rfl,rfl,by show (0:Int) < 12;decide,_,rfl,l,_,rfl,.of h2,fun u hu=>?_⟩
  rw [vX V.str vA g0]
  have k3:zD [] H2 (upd H2 u (.lst ((vA.drop (sh % 12).toNat).map V.str))):=zD.new hu
  refine ⟨_,rfl,_,rfl,_,_,rfl,rfl,by show (0:Int) < 12;decide,_,rfl,l,_,rfl,.of (k3 _ _ (by simp) h2),fun u2 hu2=>?_⟩
  rw [p7 V.str vA g0]
  obtain ⟨_,u12⟩:=kI hu2
  refine ⟨u,u2,_,_,rfl,rfl,by rw [zI u12.symm,zC],zC,by rw [zJ3,zJ3,List.length_drop,zKM,sizeLine_eq];have:vA.length=12:=rfl;omega,fun u3 hu3=>?_⟩
  rw [<- zKF]
  refine ⟨_,rfl,m,rfl,u3,_,rfl,.of zC,fun r hr'=>?_⟩
  rw [p7 V.str _ m0]
  have k4:zD [] H1 (upd (upd (upd H2 u (.lst ((vA.drop (sh % 12).toNat).map V.str))) u2 (.lst ((vA.take (sh % 12).toNat).map V.str))) u3 (.lst ((vA.drop (sh % 12).toNat ++ vA.take (sh % 12).toNat).map V.str))):=(k2.trans k3).trans ((zD.new hu2).trans (zD.new hu3))
  have n1:H1 r=none:=k4.none (by simp) hr'
  have pr:r ≠ p:=s1.ne n1
  refine q r _ _ (k1.none (by simp [pr]) n1) zC ?_ ?_ ?_ (k1.trans ((k4.trans (zD.new hr')).mono (by simp))) ((s1.on k4).on (zD.new hr'))
  ·rw [zKM,(qY _ _).length_eq]
   have:vA.length=12:=rfl
   omega
  ·intro z hz
   exact cH z ((qY _ _).mem_iff.mp (List.mem_of_mem_take hz))
  ·exact ((qY _ _).nodup_iff.mpr zCX).sublist (List.take_sublist _ _)
 refine ⟨_,rfl,p,7,rfl,s1,by decide,by decide,fun stem H2 lows lens k2 s2=>?_⟩
 obtain ⟨x,y,z,hp2⟩:=s2
 have ls:stem.length <= 7:=by omega
 refine ⟨_,rfl,_,rfl,_,_,rfl,⟨by rw [sizeLine_eq];omega,rfl⟩,_,_,rfl,rfl,p,x,y,z,_,rfl,hp2,by omega,by omega,fun at' x1 z1 t0 t1=>?_⟩
 have k3:zD [p] H2 (upd H2 p (.lst [.int x1,.int y,.int z1])):=zD.at (by simp)
 generalize hH3:upd H2 p (.lst [.int x1,.int y,.int z1])=H3 at k3
 have s3:Src H3 p:=⟨x1,y,z1,by rw [<- hH3];exact zC⟩
 have k03:=(k1.trans k2).trans k3
 refine ⟨_,rfl,rfl,_,rfl,qA (fun e1=>?_) (fun e1=>?_)⟩
 ·
  refine ⟨_,rfl,m,rfl,by omega,by omega,fun acc ha=>?_⟩
  have pa:acc ≠ p:=s3.ne ha
  have na:H acc=none:=k03.none (by simp [pa]) ha
  have cl:=zBZ (x:=stem) t0 (by omega)
  refine rK (by rw [sizeLine_eq];omega) (fun i ys τ H4=>∃ (ws:List Str) (k:Option V),τ=k :: [some (.str stem),some (.str abc),some (.int at'),some (.int sh)]/\ys=ws.map V.str/\ws.length=i/\(∀ z ∈ ws,yB z)/\ws.Nodup/\(∀ z ∈ ws,∃ k,k < i/\z=Txt.slice stem none (some at') ++ (⟨#[chN sh k]⟩:Str) ++ Txt.slice stem (some at') none)/\zD [acc] H3 H4/\H4 acc=some (.lst ys)) ?_ ?_ ?_ ?_
  ·exact ⟨[],none,rfl,rfl,rfl,(fun z hz=>by cases hz),List.nodup_nil,(fun z hz=>by cases hz),zD.at (by simp),zC⟩
  ·rintro i ys τ H4 ⟨ws,k,rfl,rfl,hl,_,_,_,_,h4⟩
   exact ⟨h4,by rw [zJ3];omega⟩
  ·rintro i ys τ H4 hi ⟨ws,k,rfl,rfl,hl,gw,nw,tw,kp,h4⟩
   obtain ⟨ec,mc⟩:=zB2 sh i
   refine ⟨_,rfl,_,rfl,at',rfl,stem,rfl,by rw [sizeLine_eq];omega,_,rfl,_,rfl,_,rfl,_,_,rfl,rfl,?_,_,_,rfl,rfl,_,_,rfl,rfl,by show (0:Int) < 26;decide,_,_,chN sh i,rfl,rfl,by decide,ec,_,_,rfl,rfl,?_,_,rfl,_,rfl,at',rfl,stem,rfl,by rw [sizeLine_eq];omega,_,_,rfl,rfl,?_,h4,ws ++ [Txt.slice stem none (some at') ++ (⟨#[chN sh i]⟩:Str) ++ Txt.slice stem (some at') none],_,rfl,by simp,by simp [hl],?_,?_,?_,kp.trans (zD.at (by simp)),zC⟩
   ·exact .inl ⟨by decide,by decide⟩
   ·have:=Txt.slice_le stem none (some at')
    rw [sizeLine_eq];show _ + 1 <= _;omega
   ·rw [qM,sizeLine_eq];show _ + 1 + _ <= _;omega
   ·intro z hz
    rcases zKK.mp hz with z1 | z1
    ·exact gw z z1
    ·rw [zJ6.mp z1]
     have el:(Txt.slice stem none (some at') ++ (⟨#[chN sh i]⟩:Str) ++ Txt.slice stem (some at') none).length=stem.length + 1:=by rw [qM,qM];show _ + 1 + _=_;omega
     exact ⟨dH (lF (lF (nA lows _ _) (lE mc)) (nA lows _ _)) (by omega) (by omega),by omega⟩
   ·refine fY nw fun hm=>?_
    obtain ⟨k',hk,e⟩:=tw _ hm
    have:=d5 (by omega) (by omega) (zD9 e)
    omega
   ·intro z hz
    rcases zKK.mp hz with z1 | z1
    ·obtain ⟨k',hk,e⟩:=tw z z1
     exact ⟨k',by omega,e⟩
    ·exact ⟨i,by omega,zJ6.mp z1⟩
  ·rintro ys τ H4 ⟨ws,k,rfl,rfl,hl,gw,nw,tw,kp,h4⟩
   obtain ⟨x3,y3,z3,e3⟩:=id s3
   exact q acc ws H4 na h4 hl gw nw (k03.trans ((kp.drop ha).mono (by simp))) ⟨x3,y3,z3,kp _ _ (by simp [Ne.symm pa]) e3⟩
 ·
  refine ⟨_,rfl,m,rfl,by omega,by omega,fun acc ha=>?_⟩
  have pa:acc ≠ p:=s3.ne ha
  have na:H acc=none:=k03.none (by simp [pa]) ha
  refine rK (by rw [sizeLine_eq];omega) (fun i ys τ H4=>∃ (ws:List Str) (k:Option V),τ=k :: [some (.ref p),some (.str abc),some (.int sh)]/\ys=ws.map V.str/\ws.length=i/\(∀ z ∈ ws,yB z)/\ws.Nodup/\(∀ z ∈ ws,∃ k,k < i/\∃ u:Str,z=u ++ (⟨#[chN sh k]⟩:Str))/\zD [acc,p] H3 H4/\Src H4 p/\H4 acc=some (.lst ys)) ?_ ?_ ?_ ?_
  ·exact ⟨[],none,rfl,rfl,rfl,(fun z hz=>by cases hz),List.nodup_nil,(fun z hz=>by cases hz),zD.at (by simp),s3.on (zD.new ha),zC⟩
  ·rintro i ys τ H4 ⟨ws,k,rfl,rfl,hl,_,_,_,_,_,h4⟩
   exact ⟨h4,by rw [zJ3];omega⟩
  ·rintro i ys τ H4 hi ⟨ws,k,rfl,rfl,hl,gw,nw,tw,kp,s4,h4⟩
   obtain ⟨ec,mc⟩:=zB2 sh i
   refine ⟨_,rfl,p,7,rfl,s4,by decide,by decide,fun u H5 lo le k5 s5=>?_⟩
   have h5:=k5 _ _ (by simp [pa]) h4
   refine ⟨_,rfl,_,rfl,_,rfl,_,_,rfl,rfl,?_,_,_,rfl,rfl,_,_,rfl,rfl,by show (0:Int) < 26;decide,_,_,chN sh i,rfl,rfl,by decide,ec,_,_,rfl,rfl,?_,h5,ws ++ [u ++ (⟨#[chN sh i]⟩:Str)],_,rfl,by simp,by simp [hl],?_,?_,?_,(kp.trans (k5.mono (by simp))).trans (zD.at (by simp)),?_,zC⟩
   ·exact .inl ⟨by decide,by decide⟩
   ·rw [sizeLine_eq];show _ + 1 <= _;omega
   ·intro z hz
    rcases zKK.mp hz with z1 | z1
    ·exact gw z z1
    ·rw [zJ6.mp z1]
     have el:(u ++ (⟨#[chN sh i]⟩:Str)).length=u.length + 1:=by rw [qM];rfl
     exact ⟨dH (lF lo (lE mc)) (by omega) (by omega),by omega⟩
   ·refine fY nw fun hm=>?_
    obtain ⟨k',hk,u',e⟩:=tw _ hm
    have:=d5 (by omega) (by omega) (zET e)
    omega
   ·intro z hz
    rcases zKK.mp hz with z1 | z1
    ·obtain ⟨k',hk,e⟩:=tw z z1
     exact ⟨k',by omega,e⟩
    ·exact ⟨i,by omega,u,zJ6.mp z1⟩
   ·obtain ⟨x5,y5,z5,e5⟩:=s5
    exact ⟨x5,y5,z5,by rw [zI (Ne.symm pa)];exact e5⟩
  ·rintro ys τ H4 ⟨ws,k,rfl,rfl,hl,gw,nw,tw,kp,s4,h4⟩
   exact q acc ws H4 na h4 hl gw nw (k03.trans (kp.drop ha)) s4
end
def oF (zs:List Str) (ps:LSS):Prop:=∀ (j:Nat) (t:Str × Str),ps[j]?=some t->∃ (o:Nat) (a b:Str),o <= j/\zs[j + 1]?=some a/\zs[o]?=some b/\(t=(a,b) \/ t=(b,a))
theorem gM {zs:List Str} {ps:LSS} (h:oF zs ps) (hl:ps.length + 1=zs.length):iI zs ps:=by
 intro P z0 hz p0 each
 obtain ⟨c,hc⟩:∃ c,zs[0]?=some c:=⟨zs[0],zJ4 (by omega)⟩
 have all:∀ (n j:Nat) (a:Str),j <= n->zs[j]?=some a->(P a ↔ P c):=by
  intro n
  induction n with
  | zero=>
   intro j a hj ha
   have:j=0:=by omega
   subst this
   rw [ha] at hc;cases hc;exact Iff.rfl
  | succ n ih=>
   intro j a hj ha
   cases j with
   | zero=>exact ih 0 a (zKD _) ha
   | succ j=>
    have jl:j + 1 < zs.length:=(zJ5.mp ha).1
    have jp:j < ps.length:=by omega
    obtain ⟨o,a',b,ho,e1,e2,e3⟩:=h j _ (zJ4 jp)
    rw [ha] at e1;cases e1
    have eb:=ih o b (by omega) e2
    have et:=each _ (List.getElem_mem jp)
    rcases e3 with e3 | e3 <;> rw [e3] at et
    ·exact et.trans eb
    ·exact et.symm.trans eb
 intro z hz'
 obtain ⟨i,hi⟩:=List.getElem?_of_mem hz
 obtain ⟨j,hj⟩:=List.getElem?_of_mem hz'
 exact (all j j z (zKC _) hj).mpr ((all i i z0 (zKC _) hi).mp p0)
theorem gJ {zs:List Str} {ps:LSS} (h:oF zs ps) (nd:zs.Nodup):∀ t ∈ ps,xN zs t:=by
 intro t ht
 obtain ⟨j,hj⟩:=List.getElem?_of_mem ht
 obtain ⟨o,a,b,ho,e1,e2,e3⟩:=h j t hj
 have ne:a ≠ b:=fun e=>by
  subst e
  have:=(List.getElem?_inj (zJ5.mp e1).1 nd).mp (e1.trans e2.symm)
  omega
 have ma:=zJ7 e1
 have mb:=zJ7 e2
 rcases e3 with rfl | rfl
 ·exact ⟨ma,mb,ne⟩
 ·exact ⟨mb,ma,ne.symm⟩
theorem gK {zs:List Str} {ps:LSS} (h:oF zs ps) {t:Str × Str} {o:Nat} {a b:Str} (ho:o <= ps.length) (e1:zs[ps.length + 1]?=some a) (e2:zs[o]?=some b) (e3:t=(a,b) \/ t=(b,a)):oF zs (ps ++ [t]):=by
 intro j u hu
 by_cases jl:j < ps.length
 ·rw [zKR jl] at hu
  exact h j u hu
 ·rw [zKQ (by omega)] at hu
  have j0:j - ps.length=0:=by
   cases e:j - ps.length with
   | zero=>rfl
   | succ k=>rw [e] at hu;simp at hu
  rw [j0] at hu
  have e:t=u:=by simpa using hu
  subst e
  have j':j=ps.length:=by omega
  subst j'
  exact ⟨o,a,b,ho,e1,e2,e3⟩
theorem zB9 {zs:List Str} {o:Nat} {b:Str} (h:zs[o]?=some b):atI (zs.map V.str) (o:Int)=some (.str b):=by
 have ol:o < zs.length:=(zJ5.mp h).1
 obtain ⟨v,e1,e2⟩:=fK (xs:=zs.map V.str) (i:=(o:Int)) (by omega) (by rw [zJ3];omega)
 rw [e1]
 rw [Int.toNat_natCast,zJ9,h] at e2
 exact e2.symm
abbrev f7:Stmt:=top 42
section
variable {P:Program} {w:World} {K:W.Frag} {mg:Str->Option Value} {base:Heap} {C:Addr}
theorem rC:zO ["_law_source","_law_most","_law_way","_law_names_here","_law_ties","_law_k","_law_other"] ["_law_source","_law_most"] (zF f7):=scm
def b7:Sp:=fun vs H Q _=>∃ (p:Addr) (m:Int),vs=[.ref p,.int m]/\Src H p/\1 <= m/\m <= 12 /\
 ∀ (t nh th:Addr) (zs:List Str) (ps:LSS) (H':Hp),H t=none->H nh=none->H th=none->H' t=some (.tup [.ref nh,.ref th])->H' nh=some (.lst (zs.map V.str))->Rows H' th (ps.map zQ)->(∀ z ∈ zs,yB z)->zs.Nodup->1 <= zs.length->zs.length <= 12->ps.length + 1=zs.length->(∀ p ∈ ps,xN zs p)->iI zs ps->oF zs ps->zD [p] H H'->Src H' p->Q (.ref t) H'
theorem zHD (G:yD K mg "_law_tree" f7 ["_law_source","_law_most"]) (CN:Cal P w K mg base CX0 2 "_law_next" ["_law_source","_law_many"] tQ) (CNM:Cal P w K mg base CX0 4 "_law_names" ["_law_source","_law_many"] fV) (CSH:Cal P w K mg base CX0 3 "_law_shuffled" ["_law_source","_law_names_here"] b9) (b_range:Blt mg "range") (b_len:Blt mg "len") :
  Cal P w K mg base CX0 5 "_law_tree" ["_law_source","_law_most"] b7:=by
 refine G.ok rC (fun vs H Q E h=>by obtain ⟨p,m,rfl,_⟩:=h;rfl) (fun f cdv A outer s0 H vs Q E hr h=>?_)
 obtain ⟨p,m,rfl,⟨a,b,c,hp⟩,m0,m1,q⟩:=h
 have hr4:zX 4 _:=hr
 have hr3:zX 3 _:=hr.mono (by decide)
 have hr2:zX 2 _:=hr.mono (by decide)
 refine ⟨_,(zE (zL (i:=2) rC.nd rfl (Or.inl rfl) (zK CN hr2 (zA (pv 0) (zA zG zB))))
   (zE (zL (i:=3) rC.nd rfl (Or.inl rfl) (zK CSH hr3 (zA (pv 0) (zA (zK CNM hr4 (zA (pv 0) (zA (zN yT zG (zK CN hr2 (zA (pv 0) (zA (pv 1) zB)))) zB))) zB))))
   (zE (zL (i:=4) rC.nd rfl (Or.inl rfl) (yP zB))
   (zE (vN PassesOwn.never rfl (cR rfl b_range.no (zA zG (zA (zM zU b_len yH (zA (pv 3) zB)) zB))) (z4 (i:=5) rC.nd rfl (Or.inl rfl)) (zE (zL (i:=6) rC.nd rfl (Or.inl rfl) (yI yA (pv 3) (yI yA (yP (zA (zN rH (pv 5) zG) (zA zG (zA (zK CN hr2 (zA (pv 0) (zA (pv 5) zB))) (zA (zK CN hr2 (zA (pv 0) (zA (pv 5) zB))) zB))))) (pv 2) (fun _ _=>rfl)) (fun _ _=>rfl)))
   (zJ (xC (yS F.plainAttrs_list F.slot_list_append F.type_list_append y6 (pv 4) (zA (yI yA (yP (zA (xZ (zA (yI yA (pv 3) (pv 5) (fun _ _=>rfl)) (zA (pv 6) zB))) (zA (xZ (zA (pv 6) (zA (yI yA (pv 3) (pv 5) (fun _ _=>rfl)) zB))) zB))) (zK CN hr2 (zA (pv 0) (zA zG zB))) (fun _ _=>rfl)) zB))))))
   (zJ (zT (xZ (zA (pv 3) (zA (pv 4) zB))))))))),?_⟩
 refine ⟨_,rfl,p,a,b,c,4,rfl,hp,by decide,by decide,fun wy a1 c1 w0 w1=>?_⟩
 refine ⟨_,rfl,_,rfl,_,rfl,_,rfl,p,a1,b,c1,m,rfl,zC,by omega,by omega,fun v a2 c2 v0 v1=>?_⟩
 rw [sB]
 have k1:zD [p] H (upd H p (.lst [.int a2,.int b,.int c2])):=zD.at (by simp)
 generalize hH1:upd H p (.lst [.int a2,.int b,.int c2])=H1 at k1
 have s1:Src H1 p:=⟨a2,b,c2,by rw [<- hH1];exact zC⟩
 refine ⟨_,_,rfl,rfl,p,_,rfl,s1,by omega,by omega,fun r zs0 H2 hr0 h2 l2 g2 n2 k2 s2=>?_⟩
 refine ⟨p,r,zs0,rfl,s2,h2,by omega,fun nh zs H3 hnh pz h3 k3 s3=>?_⟩
 have lz:zs.length=zs0.length:=pz.length_eq
 have gz:∀ z ∈ zs,yB z:=fun z hz=>g2 z (pz.mem_iff.mp hz)
 have nd:zs.Nodup:=pz.nodup_iff.mpr n2
 have k03:zD [p] H H3:=(k1.trans k2).trans k3
 have pn:nh ≠ p:=s2.ne hnh
 have nnh:H nh=none:=(k1.trans k2).none (by simp [pn]) hnh
 refine ⟨zKD _,fun th hth=>?_⟩
 have pth:th ≠ p:=s3.ne hth
 have nth:H th=none:=k03.none (by simp [pth]) hth
 have hn:nh ≠ th:=zH h3 hth
 have k4:zD [] H3 (upd H3 th (.lst [])):=zD.new hth
 have h44:=k4 _ _ (by simp) h3
 refine ⟨_,rfl,_,_,rfl,.inl ⟨_,.of h44,rfl⟩,1,_,rfl,by rw [zJ3];omega,?_⟩
 refine nL (fun i σ H4=>∃ (ps:LSS) (qs:List Addr) (v5 v6:Option V),σ=[some (.ref p),some (.int m),some (.int wy),some (.ref nh),some (.ref th),v5,v6]/\ps.length=i/\oF zs ps/\H4 th=some (.lst (qs.map V.ref))/\Paired (fun q r=>H4 q=some (.tup r)) qs (ps.map zQ)/\Src H4 p/\zD [th,p] H3 H4) ?_ ?_ ?_
 ·exact ⟨[],[],_,_,rfl,rfl,(fun j t e=>by simp at e),zC,.nil,s3.on k4,zD.at (by simp)⟩
 ·rintro i σ H4 hi ⟨ps,qs,v5,v6,rfl,hl,gr,ht,pq,⟨x,y,z,hs⟩,kp⟩
  rw [zJ3] at hi
  have h4:=kp _ _ (by simp [hn,pn]) h3
  have il:i + 1 < zs.length:=by omega
  refine ⟨_,rfl,_,rfl,_,_,rfl,rfl,_,rfl,_,rfl,p,x,y,z,_,rfl,hs,by omega,by omega,fun u1 x1 z1 u10 u11=>?_⟩
  refine ⟨_,rfl,_,rfl,p,x1,y,z1,_,rfl,zC,by omega,by omega,fun u2 x2 z2 u20 u21=>⟨by show 4 <= sizeLine;decide,fun dl hdl=>?_⟩⟩
  rw [sB] at hdl ⊢
  have k5:zD [p] H4 (upd H4 p (.lst [.int x2,.int y,.int z2])):=zD.at (by simp)
  generalize hH5:upd H4 p (.lst [.int x2,.int y,.int z2])=H5 at k5 hdl ⊢
  have s5:Src H5 p:=⟨x2,y,z2,by rw [<- hH5];exact zC⟩
  obtain ⟨o,oi,eo⟩:∃ o:Nat,o <= i/\atI [V.int (1 + (i:Int) - 1),.int 0,.int u1,.int u2] wy=some (.int (o:Int)):=by
   rcases (show wy=0 \/ wy=1 \/ wy=2 \/ wy=3 by omega) with rfl | rfl | rfl | rfl
   ·exact ⟨i,zKC _,by show some (V.int (1 + (i:Int) - 1))=_;rw [show 1 + (i:Int) - 1=i by omega]⟩
   ·exact ⟨0,zKD _,rfl⟩
   ·exact ⟨u1.toNat,by omega,by show some (V.int u1)=_;rw [show ((u1.toNat:Nat):Int)=u1 by omega]⟩
   ·exact ⟨u2.toNat,by omega,by show some (V.int u2)=_;rw [show ((u2.toNat:Nat):Int)=u2 by omega]⟩
  have eb:zs[o]?=some (zs[o]'(by omega)):=zJ4 (by omega)
  have ea:zs[i + 1]?=some (zs[i + 1]'il):=zJ4 il
  generalize zs[o]'(by omega)=zb at eb
  generalize zs[i + 1]'il=za at ea
  have k6:zD [] H5 (upd H5 dl (.lst [.int (1 + (i:Int) - 1),.int 0,.int u1,.int u2])):=zD.new hdl
  refine ⟨_,rfl,dl,_,wy,_,rfl,rfl,zC,eo,nh,_,o,.str zb,rfl,rfl,?_,zB9 eb,?_⟩
  ·exact k6 _ _ (by simp) (k5 _ _ (by simp [pn]) h4)
  generalize upd H5 dl (.lst [.int (1 + (i:Int) - 1),.int 0,.int u1,.int u2])=H6 at k6
  have k46:zD [p] H4 H6:=k5.trans (k6.mono (by simp))
  have h6:=k46 _ _ (by simp [pn]) h4
  have s6:=s5.on k6
  have ht6:=k46 _ _ (by simp [pth]) ht
  have ek:atI (zs.map V.str) (1 + (i:Int))=some (.str za):=by rw [show 1 + (i:Int)=((i + 1:Nat):Int) by omega];exact zB9 ea
  refine ⟨_,rfl,Or.inl ⟨rfl,_,.of ht6⟩,_,rfl,_,rfl,nh,_,_,.str za,rfl,rfl,h6,ek,_,rfl,by show 2 <= sizeLine;decide,fun t1 ht1=>?_⟩
  have k7:zD [] H6 (upd H6 t1 (.tup [.str za,.str zb])):=zD.new ht1
  generalize hH7:upd H6 t1 (.tup [.str za,.str zb])=H7 at k7
  have e7:H7 t1=some (.tup [.str za,.str zb]):=by rw [<- hH7];exact zC
  refine ⟨_,rfl,_,rfl,_,rfl,nh,_,_,.str za,rfl,rfl,k7 _ _ (by simp) h6,ek,by show 2 <= sizeLine;decide,fun t2 ht2=>⟨by show 2 <= sizeLine;decide,fun dl2 hdl2=>?_⟩⟩
  have k8:zD [] H7 (upd H7 t2 (.tup [.str zb,.str za])):=zD.new ht2
  generalize hH8:upd H7 t2 (.tup [.str zb,.str za])=H8 at k8 hdl2 ⊢
  have e8:H8 t2=some (.tup [.str zb,.str za]):=by rw [<- hH8];exact zC
  have k9:zD [] H8 (upd H8 dl2 (.lst [.ref t1,.ref t2])):=zD.new hdl2
  generalize hH9:upd H8 dl2 (.lst [.ref t1,.ref t2])=H9 at k9 ⊢
  have e9:H9 dl2=some (.lst [.ref t1,.ref t2]):=by rw [<- hH9];exact zC
  have k69:=k7.trans (k8.trans k9)
  obtain ⟨x9,y9,z9,hs9⟩:=s6.on k69
  refine ⟨_,rfl,p,x9,y9,z9,2,rfl,hs9,by decide,by decide,fun v x10 z10 v0 v1=>?_⟩
  have k10:zD [p] H9 (upd H9 p (.lst [.int x10,.int y9,.int z10])):=zD.at (by simp)
  generalize hH10:upd H9 p (.lst [.int x10,.int y9,.int z10])=H10 at k10
  have s10:H10 p=some (.lst [.int x10,.int y9,.int z10]):=by rw [<- hH10];exact zC
  have pd:dl2 ≠ p:=((s6.on k7).on k8).ne hdl2
  have pt1:t1 ≠ p:=s6.ne ht1
  have pt2:t2 ≠ p:=(s6.on k7).ne ht2
  have k4A:zD [p] H4 H10:=(k46.trans (k69.mono (by simp))).trans k10
  have htA:=k4A _ _ (by simp [pth]) ht
  have notT:∀ u ∈ [p],∀ xs,H4 u ≠ some (.tup xs):=fun u hu xs e=>by rw [zJ6.mp hu,hs] at e;cases e
  have pqA:=yV k4A notT pq
  have lq:=zW pq
  rw [zJ3] at lq
  have fin:∀ (t:Addr) (pr:Str × Str),H10 t=some (.tup (zQ pr))->(pr=(za,zb) \/ pr=(zb,za))->∃ (ps':LSS) (qs':List Addr) (v5 v6:Option V),[some (.ref p),some (.int m),some (.int wy),some (.ref nh),some (.ref th),some (.int (1 + (i:Int))),some (.str zb)]=[some (.ref p),some (.int m),some (.int wy),some (.ref nh),some (.ref th),v5,v6]/\ps'.length=i + 1/\oF zs ps'/\upd H10 th (.lst (qs.map V.ref ++ [.ref t])) th=some (.lst (qs'.map V.ref))/\Paired (fun q r=>upd H10 th (.lst (qs.map V.ref ++ [.ref t])) q=some (.tup r)) qs' (ps'.map zQ)/\Src (upd H10 th (.lst (qs.map V.ref ++ [.ref t]))) p/\zD [th,p] H3 (upd H10 th (.lst (qs.map V.ref ++ [.ref t]))):=by
   intro t pr et ep
   have kf:zD [th] H10 (upd H10 th (.lst (qs.map V.ref ++ [.ref t]))):=zD.at (by simp)
   have tt:t ≠ th:=fun e=>by rw [e,htA] at et;cases et
   refine ⟨ps ++ [pr],qs ++ [t],_,_,rfl,by simp [hl],gK gr (by omega) (by rw [hl];exact ea) eb ep,by rw [zC,zKF];rfl,?_,⟨x10,y9,z10,by rw [zI pth.symm];exact s10⟩,?_⟩
   ·rw [zKF]
    refine vI (yV kf (fun u hu xs e=>by rw [zJ6.mp hu,htA] at e;cases e) pqA) ?_
    exact kf _ _ (by simp [tt]) et
   ·exact (kp.trans (k4A.mono (by simp))).trans (kf.mono (by simp))
  rcases (show v=0 \/ v=1 by omega) with rfl | rfl
  ·refine ⟨dl2,_,0,_,rfl,rfl,k10 _ _ (by simp [pd]) e9,rfl,th,_,_,rfl,rfl,htA,by rw [zJ3,sizeLine_eq];omega,?_⟩
   exact fin t1 (za,zb) (k10 _ _ (by simp [pt1]) ((k8.trans k9) _ _ (by simp) e7)) (.inl rfl)
  ·refine ⟨dl2,_,1,_,rfl,rfl,k10 _ _ (by simp [pd]) e9,rfl,th,_,_,rfl,rfl,htA,by rw [zJ3,sizeLine_eq];omega,?_⟩
   exact fin t2 (zb,za) (k10 _ _ (by simp [pt2]) (k9 _ _ (by simp) e8)) (.inr rfl)
 ·rintro σ H4 ⟨ps,qs,v5,v6,rfl,hl,gr,ht,pq,s4,kp⟩
  rw [zJ3] at hl
  have h4:=kp _ _ (by simp [hn,pn]) h3
  refine ⟨_,rfl,_,rfl,by show 2 <= sizeLine;decide,fun t htn=>?_⟩
  have kt:zD [] H4 (upd H4 t (.tup [.ref nh,.ref th])):=zD.new htn
  have pt:t ≠ p:=s4.ne htn
  have tth:t ≠ th:=fun e=>by rw [e,ht] at htn;cases htn
  have k04:zD [th,p] H H4:=(k03.mono (by simp)).trans kp
  have lp:ps.length + 1=zs.length:=by omega
  refine q t nh th zs ps _ (k04.none (by simp [pt,tth]) htn) nnh nth zC (kt _ _ (by simp) h4) ⟨qs,kt _ _ (by simp) ht,yV kt (fun u hu=>by cases hu) pq⟩ gz nd (by omega) (by omega) lp (gJ gr nd) (gM gr lp) gr ?_ (s4.on kt)
  exact (k04.drop nth).trans (kt.mono (by simp))
end
end K83
namespace L2
open PySem PySem.Spec PyProof.Rows
section
variable {X:Cx} {qp:LAO} {σ:List (Option V)} {H:Hp} {s:Shared}
theorem Inv.lose1 {h':Heap} {m:Str->Option Value} {u0:Option Value} {i:Nat} {n:Str} (I:Inv X qp σ H s) (hN:X.N.Nodup) (hi:X.N[i]?=some n) (hlk:∀ (i:Nat) (x:Str) (v:V),X.N[i]?=some x->σ[i]?=some (some v)->Vis X.env.scope x->∃ u,zV v u/\zJ1 X.env s.heap m x u)
  (sb:Heap.SameBut X.env.locals s.heap h') (hn:h'.Ns X.env.locals (fun x=>if x=n then u0 else m x)):Inv X qp (σ.set i none) H { s with heap:=h' }:=by
 have same:∀ b,b ≠ X.env.locals->h'.get? b=s.heap.get? b:=fun b hb=>sb.2 b hb
 have neL:∀ b o,X.s₀.heap.get? b=some o->b ≠ X.env.locals:=fun b o q=>zKU (zKP (Heap.lt_size q) I.ok.above)
 refine ⟨I.ok,I.os,I.bare,⟨fun b o q n nb nx=>(same b (neL b o q)).trans (I.base.keep b o q n nb nx),fun b o q n hb nx=>?_,I.base.free,fun b o q nx=>?_,I.base.tups,I.base.frzs,I.base.tbls⟩,⟨_,hn,fun j x v e1 e2 vis=>?_⟩,fun x c e=>?_,I.free,I.freeC,fun p hp=>?_,fun b o q=>?_,by rw [zK4];exact I.len⟩
 ·obtain ⟨sl,z⟩:=I.base.slot b o q n hb nx
  exact ⟨sl,(same b (neL b o q)).trans z⟩
 ·obtain ⟨o',z⟩:=I.base.there b o q nx
  exact ⟨o',(same b (neL b o q)).trans z⟩
 ·by_cases ji:i=j
  ·subst ji
   rw [List.getElem?_set] at e2
   simp only [if_true] at e2
   split at e2 <;> cases e2
  ·rw [zKZ ji] at e2
   have xn:x ≠ n:=fun e=>by
    subst e
    have:=(List.getElem?_inj (zJ5.mp hi).1 hN).mp (hi.trans e1.symm)
    exact ji this
   obtain ⟨u,r,lk⟩:=hlk j x v e1 e2 vis
   refine ⟨u,r,?_⟩
   rcases lk with ⟨k1,k2⟩ | ⟨k1,c,k2,k3⟩
   ·exact .inl ⟨k1,by show (if x=n then u0 else m x)=some u;rw [if_neg xn];exact k2⟩
   ·obtain ⟨o,q,d⟩:=k3
    exact .inr ⟨k1,c,k2,o,(same c (I.cne x c k2)).trans q,d⟩
 ·obtain ⟨v,o,q,d⟩:=I.cell x c e
  exact ⟨v,o,(same c (I.cne x c e)).trans q,d⟩
 ·obtain ⟨e,n,ne,nf,d⟩:=I.pin p hp
  exact ⟨(same _ ne).trans e,n,ne,nf,d⟩
 ·refine (I.hok b o q).stay (fun c u hc z=>(same c fun y=>?_).trans z) (fun _ z=>z) fun _ _ z=>z
  have f0:=I.free
  rcases hc with r | r
  ·rw [<- r,y,f0] at q;cases q
  ·rw [y,f0] at r;cases r
end
def zID (Nn:Nat) (ci:Addr->Prop) (n:Nat) (tb:XK->TS) (th:Addr->TS):TS:=fun D σ H=>
 tb (fun cls dc H'=>∃ C,cls=.ref C/\ci C/\∀ (a:Addr) (σ':St),σ'.length=Nn->H' a=none->th a { nx:=fun σ' H'=>D.nx ((σ'.set n (some .non)).set n none) H',rt:=D.rt } (σ'.set n (some (.ref a))) (upd H' a (tY C a dc))) D σ H
theorem zDH {X:Cx} {body:List Stmt} {b0:Stmt} {suite:List Stmt} {T n:Str} {tp hp pos:Pos} {i:Nat} {DC:Addr} {tb:XK->TS} {th:Addr->TS}
  (hm:X.mg T=some (.ref DC)) (hN:X.N.Nodup) (hi:X.N[i]?=some n) (hl:X.env.kindOf n=some .local)
  (hb:∀ (pn':LAO) (xe':VSP) (E1:XK),vE (CXE X.prog X.w) (XB X pn' xe') E1->PSs (XB X pn' xe') body (tb E1))
  (hh:∀ (pn':LAO) (a:Addr),PSs (XH X pn' a) (b0 :: suite) (th a)) (hg:Gl X T:=by rfl) (hstk:X.stack=X.env :: X.outer:=by rfl) (hfr:X.env.frame=some X.env.locals:=by rfl) (hk:X.env.scope.kind=.function:=by rfl) (hd:(T == ("__debug__" : Str))=false:=by decide) :
  PS X (.Try body [.ExceptHandler (some (.Name T tp)) (some n) (b0 :: suite) hp] [] [] pos) (zID X.N.length (fun C=>W.exmOne X.K (.ref C) (.ref DC)=some true) i tb th):=by
 intro qp s0 σ0 H0 D I0 h0
 refine wpAny_Try_except ?_
 have I1:=I0.toB (fun e s1=>∃ σ H s,Inv X qp σ H s/\CXE X.prog X.w X.stack H s (fun cls dc H'=>∃ C,cls=.ref C/\W.exmOne X.K (.ref C) (.ref DC)=some true/\∀ (a:Addr) (σ':St),σ'.length=X.N.length->H' a=none->th a { nx:=fun σ' H'=>D.nx ((σ'.set i (some .non)).set i none) H',rt:=D.rt } (σ'.set i (some (.ref a))) (upd H' a (tY C a dc))) e s1)
 have run:=hb _ _ _ (fun pins' σ H s e s' I z=>⟨σ,H,s,I.ofB,z⟩) [] s0 σ0 H0 D I1 h0
 refine wpAny_mono run (fun f s1 hs=>?_) fun e s1 hs=>?_
 ·cases f with
  | next=>
   obtain ⟨σ',H',I',q⟩:=hs
   exact wpAny_execs_nil ⟨σ',H',I'.ofB,q⟩
  | brk=>obtain ⟨σ',H',I',q⟩:=hs;exact ⟨σ',H',I'.ofB,q⟩
  | cont=>obtain ⟨σ',H',I',q⟩:=hs;exact ⟨σ',H',I'.ofB,q⟩
  | ret v=>obtain ⟨x,σ',H',I',r,q⟩:=hs;exact ⟨x,σ',H',I'.ofB,r,q⟩
 ·obtain ⟨σ,H,s,I,a,C,dc,B,H',rfl,os,bare,u,hok,F,cov,cov2,cov3,C',eC,hex,hth⟩:=hs
  cases eC
  have Fs:=F
  rw [hstk] at Fs
  refine dE (by rw [I.ok.frames,hstk]) hfr Fs fun h2 F2 u2=>?_
  refine qN F2 fun h3 F3 u3=>?_
  have F3':Fly B X.stack a C dc .none h3:=by rw [hstk];exact F3
  obtain ⟨ha,I3⟩:=I.caught os bare u hok F cov cov2 cov3 F3' (u2.trans u3)
  obtain ⟨ob,cells,tb',ot,tcs,ge,gc,_⟩:=id F3.2.2.2
  have LT:W.Looks (model X.prog X.w) h3 (typeOf (.ref a)) (.ref C):=by
   have z:W.Looks (model X.prog X.w) h3 (typeOf (.ref a)) ob.cls:=(W.Looks.ld ge).andThen .now
   rw [gc.1] at z;exact z
  refine wpAny_handleBy_cons (codeAny_handlers_test ?_) (by intro z;cases z)
  refine tD (I3.toH a) (show Gl (XH X (X.pn ++ qp) a) T from hg) hm ?_ hd
  refine W.exm_one (M:=model X.prog X.w) I3.kIn LT hex _ _ _ _ (fun _ _ z=>z) ?_
  refine codeAny_handlers_suite_as ?_
  refine qN F3 fun h4 F4 u4=>?_
  have F4':Fly B X.stack a C dc .none h4:=by rw [hstk];exact F4
  obtain ⟨_,I4⟩:=I.caught os bare u hok F cov cov2 cov3 F4' ((u2.trans u3).trans u4)
  refine uL I4 hN hi (.inl hl) (v:=.ref a) rfl (fun s5 I5=>?_) (.inr hl)
  refine wpAny_mono (hh (X.pn ++ qp) a [] s5 _ _ _ (I5.toH a) (hth a σ I.len ha)) (fun f s6 hs6=>?_) fun _ _ z=>z.elim
  cases f with
  | next=>
   obtain ⟨σ6,H6,I6,q6⟩:=hs6
   have I6':Inv X qp σ6 H6 s6:=I4.ofH I6
   refine wpAny_bind (wpAny_bindName (uL I6' hN hi (.inl hl) (v:=.non) rfl (fun s7 I7=>?_) (.inr hl)))
   unfold unbindBehindTheSuite
   obtain ⟨m,hn,hlk⟩:=id I7.loc
   have hi':(σ6.set i (some V.non))[i]?=some (some V.non):=by
    rw [zK0]
    rw [I6'.len];exact (zJ5.mp hi).1
   obtain ⟨v7,_,lk⟩:=hlk i n .non hi hi' (.inl hl)
   have hv:m n=some v7:=by
    rcases lk with ⟨_,z⟩ | ⟨z,_⟩
    ·exact z
    ·rcases z with z | z <;> (rw [hl] at z;cases z)
   refine wpAny_onRaise (wpAny_unbindName_local hl hn hv (by rw [hk];rfl) fun h8 w8 hn8 sb8=>?_)
   exact ⟨_,H6,I7.lose1 hN hi hlk sb8 hn8,q6⟩
  | brk=>obtain ⟨_,_,_,z⟩:=hs6;exact z.elim
  | cont=>obtain ⟨_,_,_,z⟩:=hs6;exact z.elim
  | ret v=>
   obtain ⟨x6,σ6,H6,I6,r6,q6⟩:=hs6
   have I6':Inv X qp σ6 H6 s6:=I4.ofH I6
   refine wpAny_bind (wpAny_bindName (uL I6' hN hi (.inl hl) (v:=.non) rfl (fun s7 I7=>?_) (.inr hl)))
   unfold unbindBehindTheSuite
   obtain ⟨m,hn,hlk⟩:=id I7.loc
   have hi':(σ6.set i (some V.non))[i]?=some (some V.non):=by
    rw [zK0]
    rw [I6'.len];exact (zJ5.mp hi).1
   obtain ⟨v7,_,lk⟩:=hlk i n .non hi hi' (.inl hl)
   have hv:m n=some v7:=by
    rcases lk with ⟨_,z⟩ | ⟨z,_⟩
    ·exact z
    ·rcases z with z | z <;> (rw [hl] at z;cases z)
   refine wpAny_onRaise (wpAny_unbindName_local hl hn hv (by rw [hk];rfl) fun h8 w8 hn8 sb8=>?_)
   exact ⟨x6,_,H6,I7.lose sb8 hn8,r6,q6⟩
section
variable {X:Cx}
def pB (K:W.Frag):List V->Hp->VK->Prop:=fun xs H Q=>∃ (a C p:Addr) (dc:Option Addr) (Ds:List Addr) (b:Bool),xs=[.ref a,.ref p]/\H a=some (tY C a dc)/\zFD H dc/\sT K C/\H p=some (.tup (Ds.map V.ref))/\W.kitAny K (.ref C) (Ds.map Value.ref)=some b/\Q (.bl b) H
theorem oB:xK X (.builtin "isinstance") (pB X.K):=by
 intro qp s σ H xs us Q I r h
 obtain ⟨a,C,p,dc,Ds,b,rfl,ha,hdc,k,hp,e,q⟩:=h
 obtain ⟨u,v,rfl,ru,rv⟩:=r.two
 cases ru;cases rv
 obtain ⟨its,rt,it,_⟩:=I.tuple (.of hp)
 have ei:=eQ rt
 subst ei
 obtain ⟨⟨cls,dd,data,sl⟩,ho,hc,n,hd⟩:=id it
 simp only at hc hd
 subst hc hd
 obtain ⟨p',_,_⟩:=(show yG X.prog X.w H s.heap a (tY C a dc) from I.hok a _ ha)
 exact W.kia_tup (pR k) I.kIn (pX p' (I.dcIn hdc)) ho e (fun z=>nomatch z) fun tk=>⟨.bl b,H,I.tok tk,rfl,q⟩
end
end L2
namespace L2
open PySem PySem.W
def pY (K:Frag) (cs:List Addr) (cT:Addr):Bool:=(List.range 12).all fun i=>
 ((List.range 12).all fun j=>kitOne K (.ref (cs.getD i 0)) (.ref (cs.getD j 0)) == some (decide (i=j))) && (kitOne K (.ref (cs.getD i 0)) (.type "ValueError") == some true) && (kitOne K (.ref (cs.getD i 0)) (.ref cT) == some true) &&
  (exmOne K (.ref (cs.getD i 0)) (.ref cT) == some true) && (i == 10 || excIn K (cs.getD i 0) fH "ValueError.__new__")
def zBP (K:Frag) (c:Addr):Bool:=(findIn K (.ref c) "__getattribute__" == some (some (.builtin "BaseException.__getattribute__"))) && (findIn K (.ref c) "__getattr__" == some none) && (findIn K (.ref c) "__class__" == some (some (.builtin "object.__class__"))) &&
 (mroIn K c (.type "object") == some true) && hasDictIn K c && (subIn K (.ref c) (.type "BaseException") == some true)
def gP (K:Frag) (cs:List Addr):Bool:=(specialIn K (.builtin "object.__class__") "__get__" == some (some (.builtin "getset_descriptor.__get__"))) && (takesIn K (.builtin "object.__class__") == some true) && (List.range 12).all fun i=>zBP K (cs.getD i 0)
section
variable {K:Frag} {cs:List Addr} {cT:Addr}
theorem iP (h:pY K cs cT=true) {i:Nat} (hi:i < 12):((((∀ j,j < 12->kitOne K (.ref (cs.getD i 0)) (.ref (cs.getD j 0))=some (decide (i=j)))/\kitOne K (.ref (cs.getD i 0)) (.type "ValueError")=some true)/\kitOne K (.ref (cs.getD i 0)) (.ref cT)=some true) /\
  exmOne K (.ref (cs.getD i 0)) (.ref cT)=some true)/\(i=10 \/ excIn K (cs.getD i 0) fH "ValueError.__new__"=true):=by
 have q:=List.all_eq_true.mp h i (List.mem_range.mpr hi)
 simp only [Bool.and_eq_true,Bool.or_eq_true,beq_iff_eq] at q
 refine ⟨⟨⟨⟨fun j hj=>?_,q.1.1.1.2⟩,q.1.1.2⟩,q.1.2⟩,q.2⟩
 exact beq_iff_eq.mp (List.all_eq_true.mp q.1.1.1.1 j (List.mem_range.mpr hj))
theorem zGE (h:pY K cs cT=true) {i j:Nat} (hi:i < 12) (hj:j < 12):kitOne K (.ref (cs.getD i 0)) (.ref (cs.getD j 0))=some (decide (i=j)):=(iP h hi).1.1.1.1 j hj
theorem zGD (h:pY K cs cT=true) {i:Nat} (hi:i < 12):kitOne K (.ref (cs.getD i 0)) (.type "ValueError")=some true:=(iP h hi).1.1.1.2
theorem zGF (h:pY K cs cT=true) {i:Nat} (hi:i < 12):exmOne K (.ref (cs.getD i 0)) (.ref cT)=some true:=(iP h hi).1.2
theorem zCF (h:gP K cs=true) {i:Nat} (hi:i < 12):sT K (cs.getD i 0):=by
 unfold gP at h
 simp only [Bool.and_eq_true,beq_iff_eq] at h
 have q:=List.all_eq_true.mp h.2 i (List.mem_range.mpr hi)
 unfold zBP at q
 simp only [Bool.and_eq_true,beq_iff_eq] at q
 exact ⟨q.1.1.1.1.1,q.1.1.1.1.2,q.1.1.1.2,h.1.1,h.1.2,q.1.1.2,q.1.2,q.2⟩
end
end L2
namespace L2
open PySem PySem.Spec PyProof.Rows
section
variable {prog:Program} {w:World} {A:Around} {E:VSP} {s:Shared}
theorem sY {t:Addr} {items:Array Value} {n i:Nat} {Q:List Value->Shared->Prop} (hh:A.handled=none) (ht:s.heap.IsList t items) (hi:i < n) (hn:n <= items.size + 1) (hz:items.size <= 16384)
  (h:∀ h2 tk,Heap.ExtBut s.heap.objs.size s.heap h2->Q (items.toList.take i ++ [.ref h2.objs.size] ++ (items.toList.drop i).drop (items.size + 1 - n))
   { s with heap:=h2.push { cls:=.type "list",data:=.seq ((items.toList.drop i).take (items.size + 1 - n)).toArray },toks:=tk }) :
  wpAny (model prog w) A (unpackItems (.ref t) n (some i)) Q E s:=by
 have hne:t ≠ s.heap.objs.size:=by obtain ⟨o,ho,_⟩:=ht;exact zKU (Heap.lt_size ho)
 unfold unpackItems
 refine wpAny_bind ?_
 unfold notIterableAtAll
 refine wpAny_bind (wpAny_specialOf ht.typeIs slot_list_iter.lookup ?_)
 refine wpAny_pure ?_
 simp only [Bool.false_eq_true,if_false]
 refine wpAny_bind (wpAny_holding (wpAny_pyIter_list ht ?_))
 refine wpAny_bind (wpAny_holding (tZ hne i 0 _ _ ⟨_,Heap.get?_push_size _ rfl,rfl,rfl⟩ (ht.push _) (by omega) fun h1 hit1 hs1=>?_))
 have ht1:h1.IsList t items:=(ht.push _).extBut hs1.extBut hne
 rw [Nat.zero_add] at hit1
 obtain ⟨oi,hoi,_⟩:=id hit1
 obtain ⟨ol,hol,_⟩:=id ht1
 rw [List.drop_zero]
 have l1:(items.toList.take i).length=i:=by
  rw [zKM,Array.length_toList];omega
 rw [if_neg (by rw [l1];omega)]
 refine wpAny_bind (wpAny_holding (W.kun_collect (s:={ s with heap:=h1 }) (T:="list_iterator") (.inr (.inr (.inl rfl)))
  (Walks.list (A:=A.in1) hh s.heap.objs.size t hne items) (fun j u st=>st.1.typeIs) (k:=i) (by omega) ⟨hit1,ht1⟩ (Heap.lt_size hoi) (Heap.lt_size hol) (fun h2 tk hk=>?_)
  (by rw [sizeLine_eq];omega)))
 have l2:(items.toList.drop i).length=items.size - i:=by
  rw [List.length_drop,Array.length_toList]
 have l3:(items.toList.drop i).length - (n - 1 - i)=items.size + 1 - n:=by
  rw [l2];omega
 dsimp only
 rw [if_neg (by rw [l2];omega),l3]
 have he:Heap.ExtBut s.heap.objs.size s.heap h2:=fun b o hb e=>
  hk b o hb (hs1.extBut b o hb (Heap.get?_push_of_some _ e))
 exact wpAny_bind (wpAny_newList (s:={ s with heap:=h2,toks:=tk }) (wpAny_pure (h h2 tk he)) (by
  rw [zKM,l2,sizeLine_eq];omega))
end
section
variable {X:Cx} {pos:Pos}
def zJS (K:W.Frag) (i n:Nat) (t:TGs):TG:=fun v σ H Q=>∃ a xs,v=.ref a/\SqL K H a xs/\n <= xs.length + 1/\xs.length <= 16384 /\
 ∀ D,H D=none->t (xs.take i ++ [.ref D] ++ (xs.drop i).drop (xs.length + 1 - n)) σ (upd H D (.lst ((xs.drop i).take (xs.length + 1 - n)))) Q
theorem oP {xs:List V} {us:List Value} (h:zP xs us) (k:Nat):zP (xs.take k) (us.take k):=by
 induction h generalizing k with
 | nil=>rw [List.take_nil,List.take_nil];exact .nil
 | cons r _ ih=>
  cases k with
  | zero=>exact .nil
  | succ k=>exact .cons r (ih k)
theorem sW {xs:List V} {us:List Value} (h:zP xs us) (k:Nat):zP (xs.drop k) (us.drop k):=by
 induction h generalizing k with
 | nil=>rw [List.drop_nil,List.drop_nil];exact .nil
 | cons r rr ih=>
  cases k with
  | zero=>exact .cons r rr
  | succ k=>exact ih k
theorem lY {xs ys:List V} {us vs:List Value} (h:zP xs us) (g:zP ys vs):zP (xs ++ ys) (us ++ vs):=by
 induction h with
 | nil=>exact g
 | cons r _ ih=>exact .cons r ih
theorem mZ {es:List Expr} {k:Nat} {t:TGs} {n i:Nat} (hc:X.calm=true) (h:PGs X es t)
  (hn:(assignEach es X.env).length=n:=by rfl) (hst:(assignEach es X.env).findIdx? (·.1)=some i:=by rfl) (hi:i < n:=by decide):PG X (.Tuple es k pos) (zJS X.K i n t):=by
 intro qp s σ H v u Q I r hw
 obtain ⟨a,xs,e1,hq,hl,hz,hw⟩:=hw
 subst e1
 cases r
 obtain ⟨its,rv,ht,_⟩:=I.list hq
 have le:=rv.length
 rw [assign_Tuple]
 refine wpAny_bind (wpAny_standAt ?_)
 unfold unpack
 rw [hn,hst]
 refine wpAny_bind (wpAny_holding (sY (I.ok.hd hc) ht.isList hi (by simp;omega) (by simp;omega) fun h2 tk hx=>?_))
 have I1:Inv X qp σ H { s with heap:=h2,toks:=tk }:=I.kept (t':=tk) fun b o e=>hx b o (zKU (Heap.lt_size e)) e
 have q:=hw _ I1.fresh
 have e2:its.toArray.size=xs.length:=by simp [le]
 have I2:=I1.lnew (t':=tk) (oP (sW rv i) (xs.length + 1 - n)) (by rw [zKM,List.length_drop,sizeLine_eq];omega)
 rw [e2]
 refine h qp _ σ _ _ _ Q I2 ?_ q
 exact lY (lY (oP rv i) (.cons rfl .nil)) (sW (sW rv i) _)
theorem pD {e:Expr} {es:List Expr} {t:TG} {u:TGs} {p:Pos} (h1:PG X e t) (h2:PGs X es u):PGs X (.Starred e p :: es) (zF3 t u):=by
 intro qp s σ H vs us Q I r h
 obtain ⟨v,vr,e1,h⟩:=h
 subst e1
 cases r with
 | cons r rr=>
  show wpAny _ _ (assignInOrder (assign e X.env :: (assignEach es X.env).map (·.2)) _) _ _ _
  refine assignInOrder_cons (thn (h1 qp s σ H _ _ _ I r h) fun _ s1 hz66=>?_)
  obtain ⟨σ1,H1,I1,q1⟩:=hz66
  exact h2 qp s1 σ1 H1 _ _ Q I1 rr q1
end
theorem vT (x:V) (r:List V) (D:Addr):(x :: r).take 1 ++ [V.ref D] ++ ((x :: r).drop 1).drop ((x :: r).length + 1 - 2)=[x,.ref D]/\((x :: r).drop 1).take ((x :: r).length + 1 - 2)=r:=by
 simp
section
variable {X:Cx}
end
def jn (c:Nat):List (List Nat)->List Nat
 | []=>[]
 | [x]=>x
 | x :: y :: r=>x ++ c :: jn c (y :: r)
theorem zBF {c:Nat}:∀ {a b x y:List Nat},c ∉ a->c ∉ b->a ++ c :: x=b ++ c :: y->a=b/\x=y
 | [],[],_,_,_,_,e=>⟨rfl,(List.cons.inj e).2⟩
 | [],b :: bs,_,_,_,hb,e=>absurd (List.cons.inj e).1 (fun z=>hb (by rw [z];exact zKW))
 | a :: as,[],_,_,ha,_,e=>absurd (List.cons.inj e).1 (fun z=>ha (by rw [<- z];exact zKW))
 | a :: as,b :: bs,_,_,ha,hb,e=>by
  obtain ⟨e1,e2⟩:=List.cons.inj e
  obtain ⟨r1,r2⟩:=zBF (fun z=>ha (zKG _ z)) (fun z=>hb (zKG _ z)) e2
  exact ⟨by rw [e1,r1],r2⟩
theorem zBE {c:Nat}:∀ {xs ys:List (List Nat)},xs ≠ []->ys ≠ []->(∀ x ∈ xs,c ∉ x)->(∀ y ∈ ys,c ∉ y)->jn c xs=jn c ys->xs=ys
 | [],_,h,_,_,_,_=>absurd rfl h
 | _,[],_,h,_,_,_=>absurd rfl h
 | [x],[y],_,_,_,_,e=>by rw [show x=y from e]
 | [x],y :: z :: ys,_,_,hx,_,e=>absurd (show x=y ++ c :: jn c (z :: ys) from e) (fun q=>hx x zKW (by rw [q];simp))
 | x :: z :: xs,[y],_,_,_,hy,e=>absurd (show x ++ c :: jn c (z :: xs)=y from e) (fun q=>hy y zKW (by rw [<- q];simp))
 | x :: a :: xs,y :: b :: ys,_,_,hx,hy,e=>by
  obtain ⟨r1,r2⟩:=zBF (hx x zKW) (hy y zKW) (show x ++ c :: jn c (a :: xs)=y ++ c :: jn c (b :: ys) from e)
  rw [r1,zBE (List.cons_ne_nil _ _) (List.cons_ne_nil _ _) (fun z hz=>hx z (zKG _ hz)) (fun z hz=>hy z (zKG _ hz)) r2]
theorem lM (a b:Str):(a ++ b).cps.toList=a.cps.toList ++ b.cps.toList:=by
 show (a.cps ++ b.cps).toList=_
 simp
theorem xG (c:Nat):∀ ys:List Str,(Str.join ⟨#[c]⟩ ys).cps.toList=jn c (ys.map fun y=>y.cps.toList)
 | []=>rfl
 | [x]=>rfl
 | x :: y :: r=>by
  show (x ++ ⟨#[c]⟩ ++ Str.join ⟨#[c]⟩ (y :: r)).cps.toList=_
  rw [lM,lM,xG c (y :: r)]
  show x.cps.toList ++ [c] ++ _=x.cps.toList ++ c :: _
  rw [zKY];rfl
theorem wD {a b:Str} (h:a.cps.toList=b.cps.toList):a=b:=by
 cases a;cases b
 simp only [Str.mk.injEq]
 exact Array.toList_inj.mp h
theorem kN:∀ {xs ys:List Str},xs.map (fun y=>y.cps.toList)=ys.map (fun y=>y.cps.toList)->xs=ys
 | [],[],_=>rfl
 | [],_ :: _,e=>by cases e
 | _ :: _,[],e=>by cases e
 | x :: xs,y :: ys,e=>by
  obtain ⟨e1,e2⟩:=List.cons.inj e
  rw [wD e1,kN e2]
theorem y4 (x y:Str):Txt.split x y ≠ []:=by
 unfold Txt.split
 split
 ·simp
 ·split
  ·simp
  ·rw [StrLaws.partsBetween_eq]
   obtain ⟨p,r,e⟩:=StrLaws.partsFrom_ne x y.length 0 (Builtin.Str.occurrences x y 0 x.length (x.length + 1))
   rw [e];simp
theorem xY {c:Nat} {ys:List Str} (ne:ys ≠ []) (free:∀ y ∈ ys,c ∉ y.cps.toList):Txt.split (Str.join ⟨#[c]⟩ ys) ⟨#[c]⟩=ys:=by
 have e:=StrLaws.join_split (Str.join ⟨#[c]⟩ ys) ⟨#[c]⟩
 have e2:=congrArg (fun z:Str=>z.cps.toList) e
 rw [xG,xG] at e2
 refine kN (zBE (c:=c) ?_ ?_ ?_ ?_ e2)
 ·intro h;exact y4 _ _ (List.map_eq_nil_iff.mp h)
 ·intro h;exact ne (List.map_eq_nil_iff.mp h)
 ·intro x hx
  obtain ⟨p,hp,rfl⟩:=List.mem_map.mp hx
  exact StrLaws.split_free _ c p hp
 ·intro x hx
  obtain ⟨p,hp,rfl⟩:=List.mem_map.mp hx
  exact free p hp
theorem dQ (g:Str):∀ (ps:List Str) (a:Array Nat),(ps.foldl (fun acc p=>acc ++ g.cps ++ p.cps) a).toList=a.toList ++ (ps.map fun p=>g.cps.toList ++ p.cps.toList).flatten
 | [],a=>by simp
 | p :: ps,a=>by
  rw [List.foldl_cons,dQ g ps]
  simp
theorem dO (c:Nat):∀ (x:List Nat) (r:List (List Nat)),jn c (x :: r)=x ++ (r.map fun p=>[c] ++ p).flatten
 | x,[]=>by simp [jn]
 | x,y :: r=>by
  show x ++ c :: jn c (y :: r)=_
  rw [dO c y r]
  simp
theorem vR (c:Nat) (ys:List Str):Txt.join ⟨#[c]⟩ ys=Str.join ⟨#[c]⟩ ys:=by
 refine wD ?_
 rw [xG]
 show ((ys.drop 1).foldl (fun acc p=>acc ++ (⟨#[c]⟩:Str).cps ++ p.cps) (ys.headD Str.empty).cps).toList=_
 rw [dQ]
 cases ys with
 | nil=>rfl
 | cons y r=>
  rw [List.map_cons,dO,zKN]
  rfl
theorem qX (c:Nat):∀ ys:List Str,(Str.join ⟨#[c]⟩ ys).length <= (ys.map (·.length)).sum + ys.length
 | []=>zKC _
 | [x]=>by show x.length <= _;simp
 | x :: y :: r=>by
  have:=qX c (y :: r)
  have e:(Str.join ⟨#[c]⟩ (x :: y :: r)).length=x.length + 1 + (Str.join ⟨#[c]⟩ (y :: r)).length:=by
   show (x.cps ++ #[c] ++ (Str.join ⟨#[c]⟩ (y :: r)).cps).size=_
   simp [Str.length]
  rw [e]
  simp only [List.map_cons,List.sum_cons,zKO] at this ⊢
  omega
section
variable {prog:Program} {w:World} {A:Around} {E:VSP} {s:Shared}
open Builtin.Str in
theorem cG {x:Str} {c:Nat} {t u:Tok} {Q:VSP} (hz:x.length <= 10000)
  (h:∀ (its:List Value) (tk:Nat),zP ((Txt.split x ⟨#[c]⟩).map V.str) its->Q (.ref s.heap.objs.size) { s with heap:=s.heap.push { cls:=.type "list",data:=.seq its.toArray },toks:=tk }) :
  wpAny (model prog w) A (call (.builtin "str.split") [.str x t,.str ⟨#[c]⟩ u]) Q E s:=by
 have one:∀ a:Str,zP ([a].map V.str) [Value.str a t]:=fun a=>.cons ⟨t,rfl⟩ .nil
 have num:∀ (l:List Str) (k:Nat),zP (l.map V.str) (strValues (numbered k l)):=by
  intro l
  induction l with
  | nil=>intro k;exact .nil
  | cons a l ih=>intro k;exact .cons ⟨_,rfl⟩ (ih _)
 have hsz:x.length <= sizeLine:=by rw [sizeLine_eq];omega
 have cuts:(partsBetween x (occurrences x ⟨#[c]⟩ 0 x.length (x.length + 1)) (⟨#[c]⟩:Str).length).length <= sizeLine:=by
  have b:=StrLaws.occ_length_le x ⟨#[c]⟩ 0 x.length (x.length + 1)
  unfold partsBetween
  rw [zJ3,List.length_zip,sizeLine_eq]
  simp only [zKO,zJ3,zKL]
  omega
 cases h1:(decide (x.length < (⟨#[c]⟩:Str).length) || decide (Builtin.Str.strKind x < Builtin.Str.strKind ⟨#[c]⟩)) with
 | true=>
  have e:Txt.split x ⟨#[c]⟩=[x]:=if_pos h1
  rw [e] at h
  exact call_meets F.slot_str_split (typeIs_str _ _ _) F.entry_str_split (F.args_str_split_2 _ _) (meets_str_split_cannot_occur x ⟨#[c]⟩ t u h1) (h [.str x t] s.toks (one x))
 | false=>
  cases hf:(occurrences x ⟨#[c]⟩ 0 x.length (x.length + 1)).isEmpty with
  | true=>
   have e:Txt.split x ⟨#[c]⟩=[x]:=(if_neg (ne_true_of_eq_false h1)).trans (if_pos hf)
   rw [e] at h
   exact call_meets F.slot_str_split (typeIs_str _ _ _) F.entry_str_split (F.args_str_split_2 _ _) (meets_str_split_not_found x ⟨#[c]⟩ t u h1 rfl hf) (h [.str x t] s.toks (one x))
  | false=>
   have e:Txt.split x ⟨#[c]⟩=partsBetween x (occurrences x ⟨#[c]⟩ 0 x.length (x.length + 1)) (⟨#[c]⟩:Str).length:=(if_neg (ne_true_of_eq_false h1)).trans (if_neg (ne_true_of_eq_false hf))
   rw [e] at h
   refine call_meets F.slot_str_split (typeIs_str _ _ _) F.entry_str_split (F.args_str_split_2 _ _) (meets_str_split_sep x ⟨#[c]⟩ t u h1 rfl hf hsz cuts) ?_
   have q:=fun tk=>h (strValues (numbered s.toks (partsBetween x (occurrences x ⟨#[c]⟩ 0 x.length (x.length + 1)) (⟨#[c]⟩:Str).length))) tk (num _ _)
   rw [<- strsFrom_eq] at q
   exact q _
end
theorem tP (x:Str) (c:Nat):(Txt.split x ⟨#[c]⟩).length <= x.length + 2:=by
 unfold Txt.split
 split
 ·simp
 ·split
  ·simp
  ·have b:=StrLaws.occ_length_le x ⟨#[c]⟩ 0 x.length (x.length + 1)
   unfold Builtin.Str.partsBetween
   rw [zJ3,List.length_zip]
   simp only [zKO,zJ3,zKL]
   omega
section
variable {X:Cx} {pos:Pos}
theorem xL:MtR X "str.split" (fun x xs H Q=>∃ (z:Str) (c:Nat),x=.str z/\xs=[.str ⟨#[c]⟩]/\z.length <= 10000/\∀ l,H l=none->Q (.ref l) (upd H l (.lst ((Txt.split z ⟨#[c]⟩).map V.str)))):=by
 intro qp s σ H x xs v us Q I rx rs h
 obtain ⟨z,c,rfl,rfl,hz,q⟩:=h
 obtain ⟨t,rfl⟩:=(show ∃ t,v=Value.str z t from rx)
 obtain ⟨u,rfl,ru⟩:=rs.one
 obtain ⟨t2,rfl⟩:=(show ∃ t,u=Value.str ⟨#[c]⟩ t from ru)
 refine cG hz fun its tk hv=>?_
 have lz:((Txt.split z ⟨#[c]⟩).map V.str).length <= sizeLine:=by
  have:=tP z c
  rw [zJ3,sizeLine_eq];omega
 exact ⟨.ref s.heap.objs.size,_,I.lnew (t':=tk) hv lz,rfl,q _ I.fresh⟩
abbrev TJ:=St->Hp->Str->VK->Prop
def jNil:TJ:=fun _ H out Q=>out.length <= sizeLine/\Q (.str out) H
def zJL (t:TE) (u:TJ):TJ:=fun σ H out Q=>t σ H fun x H1=>∃ z,x=.str z/\(out ++ z).length <= sizeLine/\u σ H1 (out ++ z) Q
def PJ (X:Cx) (es:List Expr) (t:TJ):Prop:=∀ (qp:LAO) (s:Shared) (σ:St) (H:Hp) (out:Str) (Q:VK),Inv X qp σ H s->t σ H out Q->wpAny (model X.prog X.w) X.A (joinParts out (evalEach es X.env)) (EP X qp σ Q) X.xe s
theorem zGY:PJ X [] jNil:=fun qp s σ H out Q I h=>joinParts_nil ⟨.str out,H,I.tok _,⟨_,rfl⟩,h.2⟩ h.1
theorem mX {e:Expr} {es:List Expr} {t:TE} {u:TJ} (h1:PE X e t) (h2:PJ X es u):PJ X (e :: es) (zJL t u):=by
 intro qp s σ H out Q I h
 refine joinParts_cons (thn (h1 qp s σ H _ I h) fun v s1 hz67=>?_)
 obtain ⟨x,H1,I1,r1,q1⟩:=hz67
 obtain ⟨z,rfl,hz,q⟩:=q1
 obtain ⟨k,rfl⟩:=(show ∃ k,v=Value.str z k from r1)
 exact ⟨hz,h2 qp s1 σ H1 _ Q I1 q⟩
theorem zI4 {a b:Expr} {es:List Expr} {t:TJ} (h:PJ X (a :: b :: es) t):PE X (.JoinedStr (a :: b :: es) pos) (fun σ H Q=>t σ H Str.empty Q):=fun qp s σ H Q I hw=>JoinedStr_many (h qp s σ H Str.empty Q I hw)
end
section
variable {X:Cx}
def rJn (K:W.Frag):V->List V->Hp->VK->Prop:=fun x xs H Q=>∃ (z:Str) (p:Addr) (ys:List Str),x=.str z/\xs=[.ref p]/\SqL K H p (ys.map V.str)/\(ys.map (·.length)).sum + ys.length * z.length <= 16777216/\Q (.str (Txt.join z ys)) H
theorem hW {sep word:Str} {k1 k2:Nat} {p1 p2 p3 p4 p5 p6:Pos} {ex:Expr} {tx:TE} (hl:PE X ex tx) (hline:(p2.endLine == p6.line)=true:=by rfl) :
  PE X (.Call (.Attribute (.Constant (.str sep) k1 p1) "join" p2) [.BinOp (.List [.Constant (.str word) k2 p3] p4) .Add ex p5] [] p6) (tBM X.K "str" (rJn X.K) (tC (.str sep)) (z7 (tOp zGX (cC (z7 (tC (.str word)) vF)) tx) vF)):=
 yS (cpos:=p6) (apos:=p2) F.plainAttrs_str F.slot_str_join F.type_str_join u8 zS (zA (zN tT (yP (zA zS zB)) hl) zB) rfl rfl hline
theorem zAH {E:Expr} {sep word:Str} {k1 k2:Nat} {p1 p2 p3 p4 p5 p6:Pos} {ex:Expr} {tx:TE} (hE:E=.Call (.Attribute (.Constant (.str sep) k1 p1) "join" p2) [.BinOp (.List [.Constant (.str word) k2 p3] p4) .Add ex p5] [] p6) (hl:PE X ex tx) (hline:(p2.endLine == p6.line)=true:=by rfl) :
  PE X E (tBM X.K "str" (rJn X.K) (tC (.str sep)) (z7 (tOp zGX (cC (z7 (tC (.str word)) vF)) tx) vF)):=by
 subst hE
 exact hW hl hline
end
section
open PySem.SeqAt
open PySem.AutoSeq1 (wpAny_loadPart')
open PySem.MeetsSeq PySem.MeetsSeq2 PySem.MeetsSeq3
theorem aS (A:Around) (s:Shared) (a:Str) (t:Tok) (c:Str) (u:Tok) (prog:Program) (w:World) (E:VSP) (Q:VSP) (h:Q (.bool (ltS a c)) s) :
  wpAny (model prog w) A (richCompare .Lt (.str a t) (.str c u)) Q E s:=(PyProof.Rows.lt_str h:wpAny (model prog w) A (compareOp .Lt (.str a t) (.str c u)) Q E s)
def rJ:List Str->List Str->Bool
 | [],[]=>false
 | [],_ :: _=>true
 | _ :: _,[]=>false
 | a :: as,c :: cs=>if a=c then rJ as cs else ltS a c
theorem uD:rJ [] []=false:=rfl
theorem tL (c:Str) (cs:List Str):rJ [] (c :: cs)=true:=rfl
theorem tM (a:Str) (as:List Str):rJ (a :: as) []=false:=rfl
theorem u9 (a c:Str) (as cs:List Str):rJ (a :: as) (c :: cs)=if a=c then rJ as cs else ltS a c:=rfl
theorem nD (p q:Str × Str):rJ [p.1,p.2] [q.1,q.2]=ltP p q:=by
 unfold ltP
 rw [u9,u9,uD]
 by_cases e:p.2=q.2
 ·rw [if_pos e,e,pP]
 ·rw [if_neg e]
theorem nS (A:Around) (s:Shared) (a:Str) (t:Tok) (c:Str) (u:Tok):∃ e,SeqAt.EqAt A s (.str a t) (.str c u) e/\(e=true ↔ a=c):=⟨(a == c),SeqAt.EqAt.str_str a t c u,by simp⟩
theorem qS (l b:Addr) (items items2:Array Value) (n n2:Nat) (dd dd2:Option Addr) (sl sl2:Array (Option Value)) (ns ms:List Str) (hi:StrsAre items.toList ns) (hj:StrsAre items2.toList ms) :
  Meets (Builtin.«tuple.__lt__» ⟨[.ref l,.ref b],[]⟩)
   (fun _ R s=>s.heap.get? l=some { cls:=.type "tuple",dict:=dd,data:=.seq items n,slots:=sl }/\s.heap.get? b=some { cls:=.type "tuple",dict:=dd2,data:=.seq items2 n2,slots:=sl2 } /\
    R (.ok (.ret (.bool (rJ ns ms)))) s):=
 .of_wp fun prog w A R s h=>by
  obtain ⟨hp,g,d,tk,os⟩:=s;obtain ⟨hl,hb,h⟩:=h
  have f2:=AutoSeq1.sub_tuple_tuple
  have z1:items.size=ns.length:=by rw [<- hi.length];simp
  have z2:items2.size=ms.length:=by rw [<- hj.length];simp
  wp_walk using wpAny_loadPart' hl,wpAny_loadPart' hb,wpAny_forIn_list _ (fun rest b s'=>b.1=none/\s'=⟨hp,g,d,tk,os⟩/\∃ (vs ws:List Value) (ns' ms':List Str),rest=vs.zip ws /\
   StrsAre vs ns'/\StrsAre ws ms'/\ns'.length + items2.size=ms'.length + items.size/\R (.ok (.ret (.bool (rJ ns' ms')))) ⟨hp,g,d,tk,os⟩) _
  case turn=>
   rintro ⟨y,x⟩ rest b s' ⟨hb',rfl,vs,ws,ns',ms',hz,hvi,hwi,hlen,hR⟩
   cases hvi with
   | nil=>rw [List.zip_nil_left] at hz;cases hz
   | cons a t hvi'=>
    cases hwi with
    | nil=>rw [List.zip_nil_right] at hz;cases hz
    | cons c u hwi'=>
     rw [List.zip_cons_cons] at hz
     injection hz with hyx hrest
     injection hyx with hy hx
     subst hy hx
     rw [u9] at hR
     simp only [zKO] at hlen
     obtain ⟨e,he,hiff⟩:=nS A.in1 ⟨hp,g,d,tk,os⟩ a t c u
     refine wpAny_bind (he prog w _ _ ?_)
     cases e with
     | true=>
      rw [if_pos (hiff.mp rfl)] at hR
      wp_walk
      exact ⟨rfl,rfl,_,_,_,_,hrest,hvi',hwi',by omega,hR⟩
     | false=>
      rw [if_neg (fun q=>absurd (hiff.mpr q) zKV)] at hR
      have hri:=aS A.in1 ⟨hp,g,d,tk,os⟩ a t c u prog w
      wp_walk using hri
      exact ⟨_,rfl,by simpa using hR⟩
  case fin=>
   rintro ⟨b1,b2⟩ s' ⟨hb',rfl,vs,ws,ns',ms',hz,hvi,hwi,hlen,hR⟩
   simp only at hb'
   subst hb'
   have hv:rJ ns' ms'=decide (items.size < items2.size):=by
    cases hvi with
    | nil=>
     cases hwi with
     | nil=>
      simp only [List.length_nil] at hlen
      rw [uD]
      exact (zKJ (by omega)).symm
     | cons c u hw=>
      simp only [List.length_nil,zKO] at hlen
      rw [tL]
      exact (zKI (by omega)).symm
    | cons a t hv=>
     cases hwi with
     | nil=>
      simp only [List.length_nil,zKO] at hlen
      rw [tM]
      exact (zKJ (by omega)).symm
     | cons c u hw=>
      rw [List.zip_cons_cons] at hz
      cases hz
   rw [hv] at hR
   wp_walk
   exact ⟨_,rfl,by simpa [Builtin.Tuple.tupleCompareSizes] using hR⟩
  case h=>
   exact ⟨rfl,rfl,items.toList,items2.toList,ns,ms,rfl,hi,hj,by omega,h⟩
end
section
variable {X:Cx}
def rLtP:R2:=fun x y H Q=>∃ a b p q,x=.ref a/\y=.ref b/\H a=some (.tup (zQ p))/\H b=some (.tup (zQ q))/\Q (.bl (ltP p q)) H
theorem zG7 (hu:X.A.units < cLine):OpR X (compareOp .Lt) rLtP:=by
 intro qp s σ H x y v u Q I rx ry h
 obtain ⟨a,b,p,q,rfl,rfl,ha,hb,k⟩:=h
 cases rx
 cases ry
 obtain ⟨its,r1,p1,_⟩:=I.tuple (.of ha)
 obtain ⟨its2,r2,p2,_⟩:=I.tuple (.of hb)
 obtain ⟨⟨cls,dd,data,sl⟩,ho,hc,n,hd⟩:=id p1
 obtain ⟨⟨cls2,dd2,data2,sl2⟩,ho2,hc2,n2,hd2⟩:=id p2
 simp only at hc hd hc2 hd2
 subst hc hd hc2 hd2
 have i1:StrsAre its.toArray.toList [p.1,p.2]:=vH (by simpa [zQ] using r1)
 have i2:StrsAre its2.toArray.toList [q.1,q.2]:=vH (by simpa [zQ] using r2)
 exact richCompare_meets_room (op:=.Lt) ⟨_,ho,rfl⟩ ⟨_,ho2,rfl⟩ F.slot_tuple_lt F.entry_tuple_lt (F.args_tuple_lt_2 _ _) (qS a b its.toArray its2.toArray n n2 dd dd2 sl sl2 _ _ i1 i2)
  ⟨ho,ho2,by rw [nD];exact (⟨(fun x=>nomatch x),⟨.bl (ltP p q),H,I,rfl,k⟩⟩:Value.bool (ltP p q) ≠ Value.notImplemented/\EP X qp σ Q (.bool (ltP p q)) s)⟩ hu
end
end L2
namespace L2
open PySem PySem.Spec PyProof.Rows
open PySem.AutoSeq1 (wpAny_loadPart')
theorem zEV (a v:Value):checkBuiltinCall "enumerate.__new__" ⟨[.type "enumerate",a],[("start",v)]⟩=pure ():=by kernel_rfl
theorem zBT (o a v:Value):argsOk "object.__init__" ⟨[o,a],[("start",v)]⟩:=by
 unfold argsOk
 rw [signature?_of (id:="object.__init__") (n:=['_','_','t','i','n','i','_','_']) (o:=['t','c','e','j','b','o']) (by kernel_rfl) F.owner_object]
 kernel_rfl
theorem zBS (l:Addr) (its:Array Value) (n:Nat) (dc:Option Addr) (sl:Array (Option Value)) (k:Int) (t:Tok) (hk:Builtin.SmallTypes.fitsIndex k=true) :
  Meets (Builtin.«enumerate.__new__» ⟨[.type "enumerate",.ref l],[("start",.int k t)]⟩) (fun _ R u=>u.heap.get? l=some { cls:=.type "list",dict:=dc,data:=.seq its n,slots:=sl } /\
   R (.ok (.ret (.ref (u.heap.push { cls:=.type "list_iterator",data:=.fields #[.ref l,.int 0 0] }).objs.size)))
    { u with heap:=(u.heap.push { cls:=.type "list_iterator",data:=.fields #[.ref l,.int 0 0] }).push { cls:=.type "enumerate",data:=.fields #[.none,.bool false,.ref u.heap.objs.size,rawInt k,.none,.none] } }):=
 .of_wp fun prog w A R u h=>by
  obtain ⟨hh,ge,dr,tk,so⟩:=u
  obtain ⟨hl,hR⟩:=h
  have hsb:=sub_enumerate
  have hL:Heap.IsList (Shared.heap ⟨hh,ge,dr,tk,so⟩) l its:=⟨_,hl,rfl,n,rfl⟩
  wp_walk using wpAny_loadPart' hl
  refine wpAny_stack_any fun st=>wpAny_pure ?_
  split
  ·rename_i c _ _ _ _ _
   cases (c == Value.type "enumerate")
   ·wp_walk using wpAny_loadPart' hl,wpAny_pyIter_list hL
    exact ⟨_,rfl,hR⟩
   ·wp_walk using wpAny_loadPart' hl,wpAny_pyIter_list hL
    exact ⟨_,rfl,hR⟩
  ·wp_walk using wpAny_loadPart' hl,wpAny_pyIter_list hL
   exact ⟨_,rfl,hR⟩
section
variable {prog:Program} {w:World} {A:Around} {E:VSP} {s:Shared}
theorem zEU {self:Value} {rest:List Value} {kw:List (Str × Value)}:Meets (Builtin.«object.__init__» ⟨self :: rest,kw⟩) (fun _ R u=>u.TypeIs self "enumerate"/\R (.ok (.ret .none)) u):=by
 have hlk:=F.called_enumerate.init.lookup
 have hmd:=F.called_enumerate.made
 have hnx:(some "enumerate.__new__" != some "object.__new__")=true:=by decide
 refine Meets.of_wp fun prog w A R u hs=>?_
 obtain ⟨hT,hq⟩:=hs
 cases rest with
 | nil=>
  cases kw with
  | nil=>exact wpAny_pure ⟨_,rfl,hq⟩
  | cons a r=>
   repeat (any_goals (first | assumption | wp_step))
   exact ⟨_,rfl,hq⟩
 | cons a r=>
  repeat (any_goals (first | assumption | wp_step))
  exact ⟨_,rfl,hq⟩
theorem zB3 {l:Addr} {its:Array Value} {k:Int} {t:Tok} {Q:VSP} (hL:s.heap.IsList l its) (hk:Builtin.SmallTypes.fitsIndex k=true)
  (h:∀ h',IsEnum h' (s.heap.objs.size + 1) s.heap.objs.size k .none->h'.IsListIter s.heap.objs.size l 0->(∀ b o,s.heap.get? b=some o->h'.get? b=some o)->Q (.ref (s.heap.objs.size + 1)) { s with heap:=h' }) :
  wpAny (model prog w) A (call (.type "enumerate") [.ref l] [("start",.int k t)]) Q E s:=by
 obtain ⟨⟨cc,dc,da,sl⟩,hl,hc,n,hd⟩:=hL
 replace hc:cc=.type "list":=hc
 replace hd:da=.seq its n:=hd
 subst hc hd
 have ft:=F.called_enumerate
 obtain ⟨c,tl,hmro⟩:=ft.mro
 have hmd:=ft.made
 have hsb:=ft.sub
 refine wpAny_call (codeAny_of_tree ?_)
 show wpAny _ _ (callAny (.type "enumerate") _) _ _ _
 refine wpAny_pure ⟨Code.quiet_builtin _ (by decide +kernel),codeAny_builtin F.entry_type_call ?_⟩
 rw [Around.under_plain (weight_type_call_type "enumerate" _ _) (units_type_call_type "enumerate" _ _)]
 have h1:=ft.notType
 have h2:=ft.canCreate
 have hz:(s.heap.push { cls:=.type "list_iterator",data:=.fields #[.ref l,.int 0 0] }).objs.size=s.heap.objs.size + 1:=Heap.size_push ..
 have he:IsEnum ((s.heap.push { cls:=.type "list_iterator",data:=.fields #[.ref l,.int 0 0] }).push { cls:=.type "enumerate",data:=.fields #[.none,.bool false,.ref s.heap.objs.size,rawInt k,.none,.none] }) (s.heap.objs.size + 1) s.heap.objs.size k .none:=by
  have z:=Heap.get?_push_size (s.heap.push { cls:=.type "list_iterator",data:=.fields #[.ref l,.int 0 0] }) (o:={ cls:=.type "enumerate",data:=.fields #[.none,.bool false,.ref s.heap.objs.size,rawInt k,.none,.none] }) rfl
  rw [hz] at z;exact z
 have hq:=h _ he ⟨_,Heap.get?_push_of_some _ (Heap.get?_push_size _ rfl),rfl,rfl⟩ (fun b o x=>Heap.get?_push_of_some _ (Heap.get?_push_of_some _ x))
 repeat (any_goals (first | assumption | wp_step))
 refine codeAny_mono (codeAny_call_builtin ft.plain F.entry_enumerate_new (wpAny_of_eq (zEV _ _) ((zBS l its n dc sl k t hk) prog w A.in1 (wants (fun obj u=>u.TypeIs obj "enumerate"/\Q obj u) E) s ⟨hl,?_⟩))) fun r u hr=>?_
 ·rw [hz]
  exact ⟨⟨_,he,rfl⟩,hq⟩
 cases r with
 | error e=>exact hr
 | ok fl=>
  cases fl with
  | ret obj=>
   obtain ⟨hT,hq2⟩:=hr
   have hli:=ft.init.lookup
   have hbi:=ft.init.bind obj
   repeat (any_goals (first | assumption | wp_step))
   refine codeAny_mono (codeAny_call_builtin ft.init.plain F.entry_object_init (ft.init.check _ _ _ _ _ _ _ _ hT (zBT _ _ _) (zEU prog w A.in1 (wants (fun r u2=>r=.none/\Q obj u2) E) u ⟨hT,rfl,hq2⟩))) fun r2 u2 hr2=>?_
   cases r2 with
   | error e=>exact hr2
   | ok f2=>
    cases f2 with
    | ret r=>
     obtain ⟨rfl,hq3⟩:=hr2
     repeat (any_goals (first | assumption | wp_step))
    | _=>exact hr2.elim
  | _=>exact hr.elim
theorem zBR {e it l:Addr} {i:Nat} {c:Int} {its:Array Value} {x old:Value} {Q:Option Value->Shared->Prop}
  (he:IsEnum s.heap e it c old) (hit:s.heap.IsListIter it l i) (hl:s.heap.IsList l its) (hx:its[i]?=some x) (hne:e ≠ it)
  (hQ:∀ h',IsEnumOut h' e it (c + 1) x s.heap.objs.size->h'.IsListIter it l (i + 1)->h'.get? s.heap.objs.size=some { cls:=.type "tuple",data:=.seq #[.int c s.toks,x] } ->
   (∀ b o,b ≠ e->b ≠ it->s.heap.get? b=some o->h'.get? b=some o)->Q (some (.ref s.heap.objs.size)) { s with heap:=h',toks:=s.toks + 1 }) :
  wpAny (model prog w) A (pyNext (.ref e)) Q E s:=by
 have hT:s.TypeIs (.ref e) "enumerate":=⟨_,he,rfl⟩
 unfold pyNext
 refine wpAny_bind (wpAny_attempt (wpAny_callSpecial?_slot (name:=Str.ofString "__next__") hT F.slot_enumerate_next (wpAny_call_entry F.slot_enumerate_next hT F.entry_enumerate_next ?_ (F.args_enumerate_next_1 _))))
 obtain ⟨h0,ge,dr,tk,so⟩:=s
 show wpAny _ _ (field (.ref e) 2 >>= _) _ _ _
 refine wpAny_bind (wpAny_field he rfl (x:=.ref it) rfl (wpAny_bind (wpAny_nextOf_list_item hit hl hx fun h1 i1 s1=>?_)))
 replace s1:Heap.SameBut it h0 h1:=s1
 have e1:IsEnum h1 e it c old:=(s1.2 e hne).trans he
 show wpAny _ _ (field (.ref e) 3 >>= _) _ _ ⟨h1,ge,dr,tk,so⟩
 refine wpAny_bind (wpAny_field e1 rfl (x:=rawInt c) rfl ?_)
 show wpAny _ _ (field (.ref e) 4 >>= _) _ _ ⟨h1,ge,dr,tk,so⟩
 refine wpAny_bind (wpAny_field e1 rfl (x:=.none) rfl ?_)
 show wpAny _ _ (mkInt c >>= _) _ _ ⟨h1,ge,dr,tk,so⟩
 refine wpAny_bind (wpAny_mkInt ?_)
 show wpAny _ _ (setField (.ref e) 3 (rawInt (c + 1)) >>= _) _ _ ⟨h1,ge,dr,tk + 1,so⟩
 refine wpAny_bind (wpAny_setField_rec e1 (by simp) fun h2 e2 s2=>?_)
 replace s2:Heap.SameBut e h1 h2:=s2
 replace e2:IsEnum h2 e it (c + 1) old:=e2
 show wpAny _ _ (setField (.ref e) 4 .none >>= _) _ _ ⟨h2,ge,dr,tk + 1,so⟩
 refine wpAny_bind (wpAny_setField_rec e2 (by simp) fun h3 e3 s3=>?_)
 replace s3:Heap.SameBut e h2 h3:=s3
 replace e3:IsEnum h3 e it (c + 1) old:=e3
 show wpAny _ _ (newTuple [.int c tk,x] >>= _) _ _ ⟨h3,ge,dr,tk + 1,so⟩
 refine wpAny_bind (wpAny_newTuple ?_)
 have e4:IsEnum (h3.push { cls:=.type "tuple",data:=.seq #[.int c tk,x] }) e it (c + 1) old:=Heap.get?_push_of_some _ e3
 generalize hh4:h3.push { cls:=.type "tuple",data:=.seq #[.int c tk,x] }=h4 at e4
 have zz:h3.objs.size=h0.objs.size:=by rw [s3.1,s2.1,s1.1]
 have lt:e < h0.objs.size:=Heap.lt_size he
 have t4:h4.get? h0.objs.size=some { cls:=.type "tuple",data:=.seq #[.int c tk,x] }:=by
  rw [<- hh4,<- zz];exact Heap.get?_push_size _ rfl
 have k4:∀ b o,b ≠ e->b ≠ it->h0.get? b=some o->h4.get? b=some o:=fun b o n1 n2 hb=>by
  rw [<- hh4]
  exact Heap.get?_push_of_some _ (s3.extBut b o n1 (s2.extBut b o n1 (s1.extBut b o n2 hb)))
 have i4:h4.IsListIter it l (i + 1):=by
  rw [<- hh4]
  obtain ⟨o,ho,r⟩:=(i1.extBut s2.extBut (Ne.symm hne)).extBut s3.extBut (Ne.symm hne)
  exact ⟨o,Heap.get?_push_of_some _ ho,r⟩
 show wpAny _ _ (Builtin.SmallTypes.ownedTupleIsFree (.ref e) >>= _) _ _ ⟨h4,ge,dr,tk + 1,so⟩
 rw [zz]
 refine wpAny_bind ?_
 unfold Builtin.SmallTypes.ownedTupleIsFree
 refine wpAny_bind (wpAny_field e4 rfl (x:=.none) rfl (wpAny_pure ?_))
 simp only [if_true]
 refine wpAny_bind (wpAny_rule (wpAny_bind (wpAny_field e4 rfl (x:=old) rfl ?_)))
 refine wpAny_bind (wpAny_setField_rec e4 (by simp) fun h5 e5 s5=>?_)
 replace s5:Heap.SameBut e h4 h5:=s5
 replace e5:IsEnum h5 e it (c + 1) x:=e5
 show wpAny _ _ (Builtin.SmallTypes.ownedTupleHandOut (.ref e) (.ref h0.objs.size) >>= _) _ _ ⟨h5,ge,dr,tk + 1,so⟩
 refine wpAny_bind ?_
 unfold Builtin.SmallTypes.ownedTupleHandOut
 refine wpAny_bind (wpAny_setField_rec e5 (by simp) fun h6 e6 s6=>?_)
 replace s6:Heap.SameBut e h5 h6:=s6
 replace e6:IsEnumOut h6 e it (c + 1) x h0.objs.size:=e6
 refine wpAny_setField_rec e6 (by simp) fun h7 e7 s7=>?_
 replace s7:Heap.SameBut e h6 h7:=s7
 replace e7:IsEnumOut h7 e it (c + 1) x h0.objs.size:=e7
 refine wpAny_bind (wpAny_letGo (wpAny_pure ⟨_,rfl,wpAny_pure (hQ h7 e7 ?_ ?_ ?_)⟩))
 ·exact ((i4.extBut s5.extBut (Ne.symm hne)).extBut s6.extBut (Ne.symm hne)).extBut s7.extBut (Ne.symm hne)
 ·exact s7.extBut _ _ (Nat.ne_of_gt lt) (s6.extBut _ _ (Nat.ne_of_gt lt) (s5.extBut _ _ (Nat.ne_of_gt lt) t4))
 ·exact fun b o n1 n2 hb=>s7.extBut b o n1 (s6.extBut b o n1 (s5.extBut b o n1 (k4 b o n1 n2 hb)))
theorem zEW {e it l:Addr} {i:Nat} {c:Int} {its:Array Value} {old:Value} {Q:Option Value->Shared->Prop} (hh:A.handled=none) (he:IsEnum s.heap e it c old) (hit:s.heap.IsListIter it l i) (hl:s.heap.IsList l its) (hx:its[i]?=none)
  (hQ:∀ h',Heap.ExtBut it s.heap h'->Q none { s with heap:=h' }):wpAny (model prog w) A (pyNext (.ref e)) Q E s:=by
 have hT:s.TypeIs (.ref e) "enumerate":=⟨_,he,rfl⟩
 unfold pyNext
 refine wpAny_bind (wpAny_attempt (wpAny_callSpecial?_slot (name:=Str.ofString "__next__") hT F.slot_enumerate_next (wpAny_call_entry F.slot_enumerate_next hT F.entry_enumerate_next ?_ (F.args_enumerate_next_1 _))))
 show wpAny _ _ (field (.ref e) 2 >>= _) _ _ _
 refine wpAny_bind (wpAny_field he rfl (x:=.ref it) rfl (wpAny_bind (wpAny_nextOf_list_end hh hit hl hx fun h' x he' hx'=>?_)))
 obtain ⟨o,ho,hc⟩:=hx'
 exact wpAny_bind (wpAny_isInstance (T:="StopIteration") (b:=true) ⟨o,ho,hc⟩ isSubtype_stop (wpAny_pure (hQ _ he')))
end
theorem Inv.turnedT {X:Cx} {qp:LAO} {σ:St} {H:Hp} {s:Shared} {h':Heap} {t':Nat} {a b T:Addr} {xs:List V} (I:Inv X qp σ H s) (k:∀ c o,c ≠ a->c ≠ b->s.heap.get? c=some o->h'.get? c=some o)
  (fa:uV X qp H a) (fb:uV X qp H b) (hT:s.heap.objs.size <= T) (new:yG X.prog X.w (upd H T (.tup xs)) h' T (.tup xs)):Inv X qp σ (upd H T (.tup xs)) { s with heap:=h',toks:=t' }:=by
 have nT:H T=none:=I.hok.fresh hT
 have na:∀ c u,H c=some u->c ≠ a:=fun c u e z=>by rw [z,fa.1] at e;cases e
 have nb:∀ c u,H c=some u->c ≠ b:=fun c u e z=>by rw [z,fb.1] at e;cases e
 have kk:∀ c o,c ∉ [a,b]->s.heap.get? c=some o->h'.get? c=some o:=fun c o hc e=>k c o (fun z=>hc (by simp [z])) (fun z=>hc (by simp [z])) e
 refine I.step (g':=s.gens) (d':=s.drawn) (ch:=[a,b]) (fun c hc=>?_) (fun c o _ _ hc e _=>kk c o hc e) (fun c o _ _ hc e _=>⟨o.slots,kk c o hc e⟩) (fun c o _ e n=>by rw [zI (zKU (zKP (Heap.lt_size e) hT))];exact n)
  (fun c o hc e=>⟨o,kk c o hc e⟩) (fun c ys e=>by rw [zI (zH e nT)];exact e) (fun c o u e=>by rw [zI (zH e nT)];exact e) (fun c ps e=>⟨#[],by rw [zI (zH e nT),e];simp⟩) (fun m hm=>?_) (fun c u e=>?_) I.bare
 ·rcases List.mem_cons.mp hc with rfl | hc
  ·exact ⟨fa.2.2.2.1,fa.2.1,fa.2.2.2.2.1,fa.2.2.2.2.2⟩
  ·rw [zJ6.mp hc]
   exact ⟨fb.2.2.2.1,fb.2.1,fb.2.2.2.2.1,fb.2.2.2.2.2⟩
 ·obtain ⟨o,es,ep,ho,r⟩:=hm
  exact ⟨o,es,ep,k _ o (Ne.symm fa.2.1) (Ne.symm fb.2.1) ho,r⟩
 ·by_cases hc:c=T
  ·subst hc;rw [zC] at e;cases e;exact new
  ·rw [zI hc] at e
   refine (I.hok c u e).stay (fun d v hd q=>?_) (fun d q=>by rw [zI (zH q nT)];exact q) fun d ys q=>by rw [zI (zH q nT)];exact q
   rcases hd with z | z
   ·rw [z] at q ⊢;exact k c v (na c u e) (nb c u e) q
   ·exact k d v (na d _ z) (nb d _ z) q
def Ite (K:W.Frag) (a:Addr) (k:Int):It:=
 ⟨fun i H=>∃ xs x,SqL K H a xs/\xs[i]?=some x,fun i H x H'=>∃ T v,x=.ref T/\H T=none/\H'=upd H T (.tup [.int (k + i),v])/\∀ xs,SqL K H a xs->xs[i]?=some v,fun i H=>∃ xs,SqL K H a xs/\xs.length <= i⟩
theorem oR {P:Program} {w:World} {K:W.Frag} {elts:List Expr} {n:Nat} {tp:Pos} (a e it:Addr) (k:Int) (hne:e ≠ it):zCI P w K (.Tuple elts n tp) (Ite K a k) [e,it] e (fun i h=>(∃ old,IsEnum h e it (k + i) old)/\h.IsListIter it a i) where
 mem:=by simp
 obj:=fun i h st b hb=>by
  obtain ⟨⟨old,he⟩,o,ho,c,d⟩:=st
  rcases List.mem_cons.mp hb with rfl | hb
  ·exact ⟨_,he,fun v z=>by cases z⟩
  ·rw [zJ6.mp hb]
   exact ⟨o,ho,fun v z=>by rw [d] at z;cases z⟩
 keep:=fun i h h' st kk=>⟨let ⟨old,he⟩:=st.1;⟨old,kk e (by simp) _ he⟩,st.2.at fun o z=>kk it (by simp) o z⟩
 item:=by
  intro X hP hw hK hc i qp s σ H E I hf st hg
  subst hP hw hK
  obtain ⟨xs,x,hq,hx⟩:=hg
  obtain ⟨⟨old,he⟩,hit⟩:=st
  obtain ⟨its,rv,p,hz⟩:=I.list hq
  obtain ⟨u,hu,ru⟩:=rv.get hx
  refine zBR he hit p.isList (x:=u) (by simpa using hu) hne fun h' eo it' tt kp=>?_
  refine ⟨_,rfl,wpAny_letOwnedTupleGo_enum eo fun h2 e2 s2=>?_⟩
  have el:e < s.heap.objs.size:=Heap.lt_size he
  have il:it < s.heap.objs.size:=by obtain ⟨o,ho,_⟩:=hit;exact Heap.lt_size ho
  have tt2:h2.get? s.heap.objs.size=some { cls:=.type "tuple",data:=.seq #[.int (k + i) s.toks,u] }:=(s2.2 _ (Nat.ne_of_gt el)).trans tt
  have I1:Inv X qp σ (upd H s.heap.objs.size (.tup [.int (k + i),x])) { s with heap:=h2,toks:=s.toks + 1 }:=I.turnedT (fun c o n1 n2 z=>(s2.2 c n1).trans (kp c o n1 n2 z)) (hf e (by simp)) (hf it (by simp)) (zKC _)
   ⟨by show 2 <= sizeLine;decide,[.int (k + i) s.toks,u],.cons ⟨_,rfl⟩ (.cons ru .nil),_,tt2,rfl,_,rfl⟩
  refine ⟨.ref s.heap.objs.size,_,I1,rfl,⟨s.heap.objs.size,x,rfl,I.hok.fresh (zKC _),rfl,fun ys hy=>by rw [I.list_inj hy hq];exact hx⟩,⟨⟨u,by have z:=e2;rw [show k + (i:Int) + 1=k + ((i + 1:Nat):Int) by omega] at z;exact z⟩,it'.at fun o z=>(s2.2 it (Ne.symm hne)).trans z⟩,fun b hb=>?_⟩
  have bl:b ≠ s.heap.objs.size:=by
   rcases List.mem_cons.mp hb with rfl | hb
   ·exact zKU el
   ·rw [zJ6.mp hb];exact zKU il
  rw [zI bl]
  exact (hf b hb).1
 done:=by
  intro X hP hw hK hc i qp s σ H E I hf st hg
  subst hP hw hK
  obtain ⟨xs,hq,hx⟩:=hg
  obtain ⟨⟨old,he⟩,hit⟩:=st
  obtain ⟨its,rv,p,hz⟩:=I.list hq
  obtain ⟨f0,f1,f2,f3,f4,f5⟩:=hf it (by simp)
  have hl:=rv.length
  exact zEW (I.ok.hd hc) he hit p.isList (by simp;omega) fun h' eb=>⟨rfl,I.turned (t':=s.toks) (fun b o hb z=>eb b o hb z) f0 f1 f3 f4 f5⟩
 self:=fun _ _ _ _ _ st h=>by
  obtain ⟨⟨old,he⟩,_⟩:=st
  exact wpAny_pyIter_enum he h
section
variable {X:Cx}
def zF2 (K:W.Frag) (k:Int) (tl:TE):TI:=fun σ H R=>tl σ H fun x H1=>∃ a,x=.ref a/\(∃ xs,SqL K H1 a xs)/\R (Ite K a k) H1
theorem oK {pos kp cp:Pos} {k:Int} {l:Expr} {tl:TE} {kd:Nat} {qp:LAO} {s:Shared} {σ:St} {H:Hp} {R:VSP} (hl:PE X l tl) (I:Inv X qp σ H s)
  {Pq:VK} (h:tl σ H Pq) (hq:∀ (x:V) (H1:Hp),Pq x H1->∀ (v:Value) (s1:Shared) (t:Tok),zV x v->Inv X qp σ H1 s1->wpAny (model X.prog X.w) X.A (call (.type "enumerate") [v] [("start",.int k t)]) R X.xe s1)
  (he:starEach [l] X.env=[(false,eval l X.env)]:=by rfl) :
  wpAny (model X.prog X.w) X.A (callWith pos (.type "enumerate") [] (backTo pos (starEach [l] X.env)) (backToKw pos (keywordEach [⟨some "start",.Constant (.int k) kd cp,kp⟩] X.env))) R X.xe s:=by
 rw [he]
 unfold callWith
 refine wpAny_bind (wpAny_holding (wpAny_mono (evalArgs_kw (Q:=fun a s1=>∃ v t,a=⟨[v],[("start",.int k t)]⟩/\wpAny (model X.prog X.w) X.A (call (.type "enumerate") [v] [("start",.int k t)]) R X.xe s1) rfl ?_) (fun a s1 h1=>wpAny_bind (wpAny_standAt ?_)) fun _ _ x=>x))
 ·refine Calls.spliced_cons (thn (hl qp s σ H _ I h) fun v s1 ⟨x,H1,I1,r1,q1⟩=>Calls.spliced_nil ?_)
  refine wpAny_evalAll_cons (wpAny_bind (thn (zG qp s1 σ H1 (fun y H2=>y=.int k/\H2=H1) I1 ⟨rfl,rfl⟩) fun u s2 hz68=>?_))
  obtain ⟨y,H2,I2,r2,q2⟩:=hz68
  refine wpAny_bind (wpAny_standAt (wpAny_pure (wpAny_evalAll_nil ?_)))
  obtain ⟨rfl,rfl⟩:=q2
  obtain ⟨t,rfl⟩:=(show ∃ t,u=Value.int k t from r2)
  exact ⟨v,t,rfl,hq x _ q1 v s2 t r1 I2⟩
 ·obtain ⟨v,t,rfl,hw⟩:=h1
  refine wpAny_bind (wpAny_pure ?_)
  exact wpAny_bind (wpAny_mono hw (fun r s2 hr=>wpAny_bind (wpAny_holding (wpAny_point (wpAny_pure hr)))) fun _ _ x=>x)
theorem zDJ {elts:List Expr} {n:Nat} {tp:Pos} {p pos kp cp:Pos} {k:Int} {l:Expr} {tl:TE} {kd:Nat} (hk:Builtin.SmallTypes.fitsIndex k=true) (hg:Gl X "enumerate") (hm:X.mg "enumerate"=none) (hl:PE X l tl) (he:starEach [l] X.env=[(false,eval l X.env)]:=by rfl) :
  PI X (.Tuple elts n tp) (.Call (.Name "enumerate" p) [l] [⟨some "start",.Constant (.int k) kd cp,kp⟩] pos) (zF2 X.K k tl):=by
 intro qp s σ H R I h
 refine wpAny_Call_Name_kw (tW I hg hm (u:=.type "enumerate") rfl ?_)
 refine oK hl I h (fun x H1 q1 v s1 t r1 I1=>?_) he
 obtain ⟨a,rfl,⟨xs,hq⟩,q⟩:=q1
 cases r1
 obtain ⟨its,rv,pl,hz⟩:=I1.list hq
 refine zB3 pl.isList hk fun h' ie il kp'=>?_
 refine wpAny_pyIter_enum ie ?_
 refine ⟨s1.heap.objs.size + 1,[s1.heap.objs.size + 1,s1.heap.objs.size],_,_,H1,rfl,I1.kept (t':=s1.toks) kp',oR a (s1.heap.objs.size + 1) s1.heap.objs.size k (Nat.succ_ne_self _),⟨⟨.none,by simpa using ie⟩,il⟩,fun b hb=>?_,q⟩
 have hb':s1.heap.objs.size <= b:=by
  rcases List.mem_cons.mp hb with rfl | hb
  ·exact Nat.le_succ _
  ·rw [zJ6.mp hb];exact zKC _
 exact I1.fpOk hb' (I1.hok.fresh hb')
theorem jV {K:PySem.W.Frag} {a:Addr} {k:Int} {xs:List V} {g:TG} {tb:TS} {D:sU} {σ:St} {H:Hp} (Pv:Nat->St->Hp->Prop) (h0:Pv 0 σ H) (hl:∀ i σ H,i <= xs.length->Pv i σ H->SqL K H a xs)
  (hs:∀ i x σ H T,xs[i]?=some x->Pv i σ H->H T=none->g (.ref T) σ (upd H T (.tup [.int (k + i),x])) fun σ2 H2=>tb { D with nx:=Pv (i + 1),ct:=Pv (i + 1),bk:=D.nx } σ2 H2) (hd:∀ σ H,Pv xs.length σ H->D.nx σ H) :
  ∃ W:Nat->Nat->St->Hp->Prop,(∃ m,W 0 m σ H)/\∀ i m σ H,W i m σ H ->
   ((Ite K a k).stop i H/\D.nx σ H) \/ ((Ite K a k).go i H/\∃ N:St->Hp->Prop,(∀ σ' H',N σ' H'->∃ m',m' < m/\W (i + 1) m' σ' H')/\∀ x H',(Ite K a k).yld i H x H'->g x σ H' fun σ2 H2=>tb { D with nx:=N,ct:=N,bk:=D.nx } σ2 H2):=by
 refine ⟨fun i m σ H=>m=xs.length - i/\i <= xs.length/\Pv i σ H,⟨xs.length,by simp,zKD _,h0⟩,?_⟩
 rintro i m σ H ⟨rfl,hi,p⟩
 have q:=hl i σ H hi p
 by_cases hlt:i < xs.length
 ·refine .inr ⟨⟨xs,xs[i],q,by simp [hlt]⟩,Pv (i + 1),fun σ' H' p'=>⟨xs.length - (i + 1),by omega,rfl,hlt,p'⟩,fun x H' y=>?_⟩
  obtain ⟨T,v,rfl,nT,rfl,y⟩:=y
  exact hs i v σ _ T (y xs q) p nT
 ·have e:i=xs.length:=by omega
  subst e
  exact .inl ⟨⟨xs,q,zKC _⟩,hd σ H p⟩
end
end L2
namespace L2
open PySem PySem.Spec PyProof.Rows
section
variable {prog:Program} {w:World} {A:Around} {R:Result->Shared->Prop} {s:Shared} {elt target iter tg2 iter2:Expr} {ifs ifs2:List Expr} {scope:Scope} {pos:Pos} {it acc:Value} {env:Env}
end
section
variable {X:Cx}
theorem zAD {elts:List Expr} {n:Nat} {tp:Pos} {p pos:Pos} {l:Expr} {tl:TE} (hg:Gl X "enumerate") (hm:X.mg "enumerate"=none) (hl:PE X l tl) (he:starEach [l] X.env=[(false,eval l X.env)]:=by rfl) :
  PI X (.Tuple elts n tp) (.Call (.Name "enumerate" p) [l] [] pos) (zF2 X.K 0 tl):=by
 intro qp s σ H R I h
 refine wpAny_Call_Name_kw (tW I hg hm (u:=.type "enumerate") rfl ?_)
 rw [he]
 refine PySem.callWith_type rfl (Calls.evalArgs_plain (Calls.spliced_cons (thn (hl qp s σ H _ I h) fun v s1 hz69=>?_)))
 obtain ⟨x,H1,I1,r1,q1⟩:=hz69
 refine Calls.spliced_nil ?_
 obtain ⟨a,rfl,⟨xs,hq⟩,q⟩:=q1
 cases r1
 obtain ⟨its,rv,pl,hz⟩:=I1.list hq
 refine call_enumerate_list pl.isList fun h' ie il _ kp'=>?_
 refine wpAny_pyIter_enum ie ?_
 refine ⟨s1.heap.objs.size + 1,[s1.heap.objs.size + 1,s1.heap.objs.size],_,_,H1,rfl,I1.kept (t':=s1.toks) kp',oR a (s1.heap.objs.size + 1) s1.heap.objs.size 0 (Nat.succ_ne_self _),⟨⟨.none,by simpa using ie⟩,il⟩,fun b hb=>?_,q⟩
 have hb':s1.heap.objs.size <= b:=by
  rcases List.mem_cons.mp hb with rfl | hb
  ·exact Nat.le_succ _
  ·rw [zJ6.mp hb];exact zKC _
 exact I1.fpOk hb' (I1.hok.fresh hb')
end
section
variable {prog:Program} {w:World} {A:Around} {E:VSP} {s:Shared}
end
section
variable {X:Cx}
end
section
variable {prog:Program} {w:World} {A:Around} {E:VSP} {s:Shared}
end
section
variable {prog:Program} {w:World} {A:Around} {s:Shared} {R:Result->Shared->Prop}
end
section
variable {prog:Program} {w:World} {A:Around} {s:Shared} {R:Result->Shared->Prop}
end
section
variable {X:Cx}
end
section
variable {X:Cx} {e:Expr} {te:TE} {pos p1 p2 p3:Pos} {j1 j2:Nat} {lo:Int}
end
def cZ (n:Nat):Str:=Str.ofString (toString (n:Int))
section
variable {X:Cx}
end
theorem zAW (n:Nat):(cZ n).cps.toList=(Nat.toDigits 10 n).map Char.toNat:=W.KIN.signs_num n
section
variable {X:Cx} {o i:Expr} {pos:Pos} {td ty:TE}
end
section
variable {X:Cx} {k:Nat} {f C:Addr} {fd:FuncData} {ps:List Str} {sp:Sp} {dvs:List V} {ds:List Value} {E:XK} {x m:Str} {p pos apos:Pos} {e o:Expr} {es:List Expr} {ta:TE} {t:TA}
end
end L2
namespace L2
open PySem PySem.Spec PyProof.Rows PySem.W
def uQ (w:World):Bool:=!(w.params.followText "set-order")
section
variable {prog:Program} {w:World} {A:Around} {E:VSP} {s:Shared}
def oN (prog:Program) (w:World) (h:Heap) (S:Addr) (val:Nat->Str) (i:Nat) (led:Bool):Prop:=
 ∃ (o:Obj) (es:Array (Int × Value)) (ep:Nat) (t:SetTable),h.get? S=some o/\o.ExactSet/\o.data=.set es ep t/\ElemsOf (PySem.strKind prog w) es.toList/\(∀ k,(xM val i).any (· == k)=true ↔ ∃ e ∈ es.toList,(PySem.strKind prog w).is k e.2=true)
  /\ es.size < scanBound/\t.fits es.size=true/\es.size=(xM val i).length/\t.led=led/\(es.size=0 \/ t.plain=false)
theorem rB {h h':Heap} {S:Addr} {val:Nat->Str} {i:Nat} {led:Bool} (x:oN prog w h S val i led) (k:∀ o,h.get? S=some o->h'.get? S=some o):oN prog w h' S val i led:=by
 obtain ⟨o,es,ep,tb,ho,q⟩:=x
 exact ⟨o,es,ep,tb,k o ho,q⟩
theorem zEK (t:SetTable) (es:Array (Int × Value)) (h:Int) (x:Value):(layNew t es h x).2.1.led=t.led:=by
 unfold layNew
 split
 ·simp only [SetTable.orStandIn]
  split <;> rfl
 ·rfl
theorem cM (t:SetTable) (es:Array (Int × Value)) (n:Nat):(relayAll t es n).2.1.led=t.led/\(t.plain=false->(relayAll t es n).2.1.plain=false):=by
 unfold relayAll
 split
 ·rename_i t' order hr
  unfold SetTable.relaid SetTable.laid at hr
  cases ho:SetTable.layClean (SetTable.sizeAbove n - 1) (es.map (·.1)) with
  | none=>rw [ho] at hr;cases hr
  | some ow=>
   rw [ho] at hr
   have e:=zKA hr
   have e1:=congrArg Prod.fst e
   have l1:t'.led=t.led:=by rw [show t'=_ from e1.symm]
   have l2:t'.plain=t.plain:=by rw [show t'=_ from e1.symm]
   clear hr e e1
   dsimp only
   by_cases hc:(coversAll order es.size && t'.fits (order.filterMap (es[·]?)).size)=true
   ·rw [if_pos hc];exact ⟨l1,fun hp=>l2.trans hp⟩
   ·rw [if_neg hc];exact ⟨rfl,fun _=>rfl⟩
 ·exact ⟨rfl,fun _=>rfl⟩
theorem aV {h:Heap} {a:Addr} {o:Obj} {es:Array (Int × Value)} {ep:Nat} {t:SetTable} (ho:h.get? a=some o) (hd:o.data=.set es ep t) (es':Array (Int × Value)) (t':SetTable):(h.update a (Obj.putSet es' t')).get? a=some { o with data:=.set es' (ep + 1) t' }:=by
 have:=Heap.get?_update_self (Obj.putSet es' t') ho (by rw [putSet_of es' t' hd];rfl)
 rw [putSet_of es' t' hd] at this
 exact this
theorem mB {g:Bool->Sem Unit} (hg:∀ (b:Bool) (s₁:Shared) (Q':Unit->Shared->Prop),Q' () s₁->wpAny (model prog w) A (g b) Q' E s₁) {a:Addr} {o:Obj} {es:Array (Int × Value)} {ep:Nat} {t:SetTable} (ho:s.heap.get? a=some o) (hd:o.data=.set es ep t)
  {es1:Array (Int × Value)} {t2:SetTable} (hb1:es1.size < scanBound) (hf2:t2.fits es1.size=true) (hp2:t2.plain=false) {wasDummy:Bool} {R:Option Bool->Shared->Prop}
  (h:∀ (h':Heap) (es2:Array (Int × Value)) (ep2:Nat) (t3:SetTable),Heap.SameBut a s.heap h'->h'.get? a=some { o with data:=.set es2 ep2 t3 }->List.Perm es2.toList es1.toList->t3.fits es2.size=true->t3.led=t2.led->t3.plain=false->R (some true) { s with heap:=h' }) :
  wpAny (model prog w) A (do
    storeSet a es1 t2
    if (!wasDummy && t2.tooFull)=true then do
      g (relayAll t2 es1 (SetTable.grown es1.size)).2.2
      storeSet a (relayAll t2 es1 (SetTable.grown es1.size)).1 (relayAll t2 es1 (SetTable.grown es1.size)).2.1
      pure (some true)
     else pure (some true)) R E s:=by
 refine wpAny_bind (wpAny_storeSet_of ho hd ?_ (fits_of_scanBound hb1))
 have ho1:=aV ho hd es1 t2
 have sb1:=Heap.SameBut.update s.heap a (Obj.putSet es1 t2)
 split
 ·have hp:=relayAll_perm t2 es1 (SetTable.grown es1.size)
  have hfr:=relayAll_fits t2 es1 (SetTable.grown es1.size)
  have hld:=cM t2 es1 (SetTable.grown es1.size)
  generalize relayAll t2 es1 (SetTable.grown es1.size)=Rl at hp hfr hld ⊢
  obtain ⟨es2,t3,gave2⟩:=Rl
  dsimp only at hp hfr hld ⊢
  have hsz:es2.size=es1.size:=by rw [<- Array.length_toList,hp.length_eq,Array.length_toList]
  refine wpAny_bind (hg _ _ _ ?_)
  refine wpAny_bind (wpAny_storeSet_of ho1 rfl ?_ (fits_of_scanBound (by rw [hsz];exact hb1)))
  exact wpAny_pure (h _ es2 _ t3 (sb1.trans (Heap.SameBut.update _ a _)) (aV ho1 rfl es2 t3) hp hfr hld.1 (hld.2 hp2))
 ·exact wpAny_pure (h _ es1 _ t2 sb1 ho1 (List.Perm.refl _) hf2 rfl hp2)
theorem addX {a:Addr} {val:Nat->Str} {i:Nat} {led:Bool} {tk:Tok} {Q:Bool->Shared->Prop} (hS:oN prog w s.heap a val i led) (hroom:(xM val i).length + 1 < scanBound)
  (h:∀ (h':Heap) (b:Bool),Heap.SameBut a s.heap h'->oN prog w h' a val (i + 1) led->Q b { s with heap:=h' }) :
  wpAny (model prog w) A (setAddHashed a (.str (val i) tk) ((PySem.strKind prog w).hash (val i))) Q E s:=by
 obtain ⟨o,es,ep,t,ho,hex,hd,hel,hmem,hb,hf,hn,hled,hpl⟩:=hS
 have hkey:(PySem.strKind prog w).is (val i) (.str (val i) tk)=true:=strKind_is _ _ _ _
 have hsc:(Value.str (val i) tk).scannable=true:=rfl
 unfold setAddHashed setAddHashedIn
 refine wpAny_holding (wpAny_bind (wpAny_setState_of ho hd hf ?_))
 dsimp only
 rw [byScan_of hsc hb hel]
 simp only [↓reduceIte]
 unfold setAddByScan
 refine wpAny_bind ?_
 refine wpAny_bind (wpAny_rule (wpAny_bind (wpAny_setScan_of hkey ho hd hf hel ?_)))
 cases hr:List.findIdx? (fun e=>(PySem.strKind prog w).is (val i) e.2) es.toList with
 | some j=>
  dsimp only
  obtain ⟨hj,hpj,_⟩:=List.findIdx?_eq_some_iff_getElem.mp hr
  have hSk:(xM val i).any (· == val i)=true:=(hmem _).mpr ⟨es.toList[j],List.getElem_mem hj,hpj⟩
  refine wpAny_pure (wpAny_pure ?_)
  have:=h s.heap false (Heap.SameBut.refl a s.heap) ⟨o,es,ep,t,ho,hex,hd,hel,fun k'=>?_,hb,hf,by rw [vU,if_pos hSk];exact hn,hled,hpl⟩
  ·exact this
  ·rw [sK,Bool.or_eq_true,<- hmem k']
   refine ⟨fun hk=>hk.elim id fun e=>?_,.inl⟩
   rw [beq_iff_eq] at e
   rw [e];exact hSk
 | none=>
  dsimp only
  have hSk:(xM val i).any (· == val i)=false:=by
   cases hk:(xM val i).any (· == val i) with
   | false=>rfl
   | true=>
    obtain ⟨e,he,hp⟩:=(hmem (val i)).mp hk
    have:=List.findIdx?_eq_none_iff.mp hr e he
    rw [hp] at this;cases this
  have hgw:∀ (b:Bool) {s₁:Shared} {Q':Unit->Shared->Prop},Q' () s₁->wpAny (model prog w) A (match b with | true=>rule "set.scan.the-table-gave-way" | false=>pure ()) Q' E s₁:=fun b s₁ Q' hq=>by
   cases b <;> first | exact wpAny_pure hq | exact wpAny_rule hq
  have hperm:=layNew_perm t es ((PySem.strKind prog w).hash (val i)) (.str (val i) tk)
  have hfits:=layNew_fits t es ((PySem.strKind prog w).hash (val i)) (.str (val i) tk)
  have hlled:=zEK t es ((PySem.strKind prog w).hash (val i)) (.str (val i) tk)
  generalize layNew t es ((PySem.strKind prog w).hash (val i)) (.str (val i) tk)=Ly at hperm hfits hlled ⊢
  obtain ⟨es1,t1,wasDummy,gave⟩:=Ly
  dsimp only at hperm hfits hlled ⊢
  rw [Array.toList_push] at hperm
  have hsz1:es1.size=es.size + 1:=by rw [<- Array.length_toList,hperm.length_eq,zKL,Array.length_toList];rfl
  have hb1:es1.size < scanBound:=by rw [hsz1,hn];exact hroom
  refine wpAny_bind (hgw _ ?_)
  have fin:∀ (t2:SetTable),t2.led=t1.led->∀ (h':Heap) (es2:Array (Int × Value)) (ep2:Nat) (t3:SetTable),Heap.SameBut a s.heap h'->h'.get? a=some { o with data:=.set es2 ep2 t3 }->List.Perm es2.toList es1.toList->t3.fits es2.size=true->t3.led=t2.led->t3.plain=false->Q true { s with heap:=h' }:=by
   intro t2 l2 h' es2 ep2 t3 sb g2 p2 f3 l3 p3
   have pall:=p2.trans hperm
   have sz2:es2.size=es1.size:=by rw [<- Array.length_toList,p2.length_eq,Array.length_toList]
   exact h h' true sb ⟨_,es2,ep2,t3,g2,hex,rfl,(hel.push hkey hsc).perm pall,fun k'=>by
    rw [sK]
    have:=mem_push_iff hkey hmem pall k'
    rw [<- this]
    have e:(k' == val i)=decide (k'=val i):=rfl
    rw [show (k' == val i)=decide (k'=val i) by by_cases q:k'=val i <;> simp [q]],by rw [sz2];exact hb1,f3,by rw [vU,if_neg (by rw [hSk];simp),sz2,hsz1,hn],by rw [l3,l2,hlled,hled],.inr p3⟩
  split
  ·refine wpAny_bind ?_
   rw [hashByValue_scannable 8 hsc]
   refine wpAny_pure ?_
   refine mB (t2:={ t1 with plain:=false }) ?_ ho hd hb1 (SetTable.fits_plain_off hfits) rfl ?_
   ·intro b s₁ Q' hq;cases b <;> first | exact wpAny_pure hq | exact wpAny_rule hq
   ·intro h' es2 ep2 t3 a1 a2 a3 a4 a5 a6;dsimp only;exact wpAny_pure (fin _ rfl h' es2 ep2 t3 a1 a2 a3 a4 a5 a6)
  ·rename_i hnp
   refine wpAny_bind (wpAny_pure ?_)
   simp only [↓reduceIte]
   refine mB ?_ ho hd hb1 hfits (by simpa using hnp) ?_
   ·intro b s₁ Q' hq;cases b <;> first | exact wpAny_pure hq | exact wpAny_rule hq
   ·intro h' es2 ep2 t3 a1 a2 a3 a4 a5 a6;dsimp only;exact wpAny_pure (fin _ rfl h' es2 ep2 t3 a1 a2 a3 a4 a5 a6)
end
theorem zAO:Manifest.owners.lookup (String.ofList ['r','o','t','a','r','e','t','i','_','t','e','s'].reverse)=some Manifest.sig_set_iterator:=by kernel_rfl
theorem uZ:Slot "set_iterator" "__next__" "set_iterator.__next__":=
 .of (owner:="set_iterator") (n:="__next__") (by rw [typeLookup_type,builtinLookup_eq_fast];kernel_rfl) (by decide +kernel) (by decide +kernel) (by decide +kernel) (by first | exact .inl (by decide +kernel) | exact .inr (by decide +kernel)) (by rw [isSubtype_type];kernel_rfl)
theorem jX:entryFor table "set_iterator.__next__"=some Builtin.«set_iterator.__next__»:=entryFor_of_tree (by kernel_rfl)
theorem d7 (a:Value):argsOk "set_iterator.__next__" ⟨[a],[]⟩:=by
 unfold argsOk;rw [signature?_of (id:="set_iterator.__next__") (n:=['_','_','t','x','e','n','_','_']) (o:=['r','o','t','a','r','e','t','i','_','t','e','s']) (by kernel_rfl) zAO];kernel_rfl
theorem gU:entryFor table "set.__iter__"=some Builtin.«frozenset.__iter__»:=
 entryFor_alias (id':="frozenset.__iter__") (by kernel_rfl) (by first | rfl | decide +kernel | (unfold String.splitOn;simp +decide [String.splitOnAux])) (by decide +kernel) (by kernel_rfl)
theorem nQ {α:Type}:∀ (ws:List α) (k:Nat) (h:k < ws.length),List.Perm (ws[k] :: ws.eraseIdx k) ws:=by
 intro ws
 induction ws with
 | nil=>intro k h;exact absurd h (Nat.not_lt_zero _)
 | cons x ws ih=>
  intro k h
  cases k with
  | zero=>exact .refl _
  | succ k=>exact (List.Perm.swap _ _ _).trans ((ih k (Nat.lt_of_succ_lt_succ h)).cons x)
section
variable {prog:Program} {w:World} {A:Around} {E:VSP} {s:Shared}
theorem wp_choose {src:Source} {n:Nat} {Q:Nat->Shared->Prop} (hn:n ≠ 0) (h:∀ i,i < n->Q i { s with drawn:=s.drawn.bump src }):wpAny (model prog w) A (choose src n) Q E s:=fun Γ p _=>by
 show Sem.wp _ _ (.choose src n .pure) _ _ _ _
 rw [Sem.wp_choose]
 exact ⟨hn,by simpa using h _ (Nat.mod_lt _ (Nat.pos_of_ne_zero hn))⟩
theorem t8:∀ (n:Nat) (xs:List Nat) (s:Shared) (Q:List Nat->Shared->Prop),xs.length=n->(∀ ys d,List.Perm ys xs->Q ys { s with drawn:=d })->wpAny (model prog w) A (drawOrder n xs) Q E s
 | 0,xs,s,Q,hl,h=>by
  have:xs=[]:=List.length_eq_zero_iff.mp hl
  subst this
  exact wpAny_pure (h [] s.drawn (List.Perm.refl _))
 | n + 1,xs,s,Q,hl,h=>by
  cases xs with
  | nil=>cases hl
  | cons x xs=>
   show wpAny _ _ (choose .order (x :: xs).length >>= _) _ _ s
   refine wpAny_bind (wp_choose (by simp) fun i hi=>?_)
   have e:(x :: xs)[i]?=some ((x :: xs)[i]):=zJ4 hi
   simp only [e]
   refine wpAny_bind (t8 n ((x :: xs).eraseIdx i) _ _ (by rw [List.length_eraseIdx_of_lt hi,hl];rfl) fun ys d p=>wpAny_pure ?_)
   refine h _ d ((List.Perm.cons _ p).trans ?_)
   exact nQ _ _ hi
end
theorem eY {α:Type} (next:Nat->Nat):∀ (fuel k:Nat) (left:List α) (out:Array α),left.length=fuel->List.Perm (pickOrder.go next fuel k left out).toList (out.toList ++ left)
 | 0,k,left,out,hl=>by
  have:left=[]:=List.length_eq_zero_iff.mp hl
  subst this
  simp [pickOrder.go]
 | fuel + 1,k,left,out,hl=>by
  have lt:next k % left.length < left.length:=Nat.mod_lt _ (by omega)
  unfold pickOrder.go
  rw [zJ4 lt]
  simp only []
  refine (eY next fuel (k + 1) _ _ (by rw [List.length_eraseIdx_of_lt lt,hl];rfl)).trans ?_
  rw [Array.toList_push,zKY]
  exact List.Perm.append_left _ (nQ _ _ lt)
theorem hU {α:Type} (next:Nat->Nat) (xs:Array α):List.Perm (pickOrder next xs).toList xs.toList:=by
 have:=eY next xs.size 0 xs.toList #[] (by simp)
 simpa [pickOrder] using this
abbrev iG (h:Heap) (it:Addr) (first:Value) (i:Nat) (S:Addr) (n ep:Nat):Prop:=h.get? it=some { cls:=.type "set_iterator",dict:=none,data:=.fields #[first,rawInt (i:Nat),.ref S,rawInt (n:Nat),rawInt (ep:Nat)],slots:=#[] }
abbrev IsPl (h:Heap) (tp:Addr) (pl:List Nat):Prop:=h.get? tp=some { cls:=.type "tuple",data:=.seq (pl.map fun (k:Nat)=>rawInt (k:Int)).toArray }
def zCJ (w:World) (h:Heap) (S tp:Addr) (es:Array (Int × Value)) (ep:Nat) (t:SetTable) (i:Nat) (first:Value) (ord:List Value):Prop:=
 (w.params.followText "set-order"=true/\first=rawInt 0/\ord=(pickOrder (w.params.setOrder S ep) es).toList.map (·.2)) \/
 (w.params.followText "set-order"=false/\t.plain=false/\1 < es.size/\∃ pl:List Nat,first=.ref tp/\IsPl h tp pl/\(∀ p ∈ pl,p < es.size)/\ord=pl.map fun p=>(es.getD p (0,.none)).2) \/
 (w.params.followText "set-order"=false/\t.led=true/\es.size <= 1/\((i=0/\first=rawInt 0) \/ (i=1/\∃ j,t.place[0]?=some j/\first=rawInt ((j + 1:Nat):Int)))/\ord=es.toList.map (·.2))
def SI (w:World) (h:Heap) (it S tp:Addr) (ord:List Value) (i:Nat):Prop:=
 ∃ (o:Obj) (es:Array (Int × Value)) (ep:Nat) (t:SetTable) (first:Value),h.get? S=some o/\o.data=.set es ep t/\t.fits es.size=true/\iG h it first i S es.size ep/\zCJ w h S tp es ep t i first ord/\ord.length=es.size
theorem SI.at {w:World} {h h':Heap} {it S tp:Addr} {ord:List Value} {i:Nat} (x:SI w h it S tp ord i) (k:∀ b ∈ [it,S,tp],∀ o,h.get? b=some o->h'.get? b=some o):SI w h' it S tp ord i:=by
 obtain ⟨o,es,ep,t,first,hS,hd,hf,hi,md,hl⟩:=x
 refine ⟨o,es,ep,t,first,k S (by simp) _ hS,hd,hf,k it (by simp) _ hi,?_,hl⟩
 rcases md with q | ⟨a,b,c,pl,e1,e2,e3,e4⟩ | q
 ·exact .inl q
 ·exact .inr (.inl ⟨a,b,c,pl,e1,k tp (by simp) _ e2,e3,e4⟩)
 ·exact .inr (.inr q)
section
variable {prog:Program} {w:World} {A:Around} {E:VSP} {s:Shared}
theorem uW {Q:Bool->Shared->Prop} (h:Q (w.params.followText "set-order") s):wpAny (model prog w) A setsByText Q E s:=by
 unfold setsByText
 exact wpAny_bind (wpAny_askSetting (wpAny_pure h))
theorem rO {S:Addr} {o:Obj} {es:Array (Int × Value)} {ep:Nat} {t:SetTable} {i:Nat} {Q:Option (Value × Nat)->Shared->Prop} (hb:w.params.followText "set-order"=true) (ho:s.heap.get? S=some o) (hd:o.data=.set es ep t) (hf:t.fits es.size=true)
  (h:Q (((pickOrder (w.params.setOrder S ep) es)[i]?).map fun e=>(e.2,0)) s):wpAny (model prog w) A (setNext S 0 i ep) Q E s:=by
 unfold setNext
 refine wpAny_bind (wpAny_setState_of ho hd hf ?_)
 dsimp only
 refine wpAny_bind (uW ?_)
 rw [if_pos hb]
 simp only [bne_self_eq_false,Bool.false_eq_true,if_false]
 refine wpAny_bind ?_
 unfold setWalk
 refine wpAny_bind (wpAny_setState_of ho hd hf ?_)
 dsimp only
 refine wpAny_bind (uW ?_)
 rw [if_pos hb]
 exact wpAny_bind (wpAny_askSetting (wpAny_pure (wpAny_pure h)))
theorem rP {S:Addr} {o:Obj} {es:Array (Int × Value)} {ep:Nat} {t:SetTable} {sl i:Nat} {Q:Option (Value × Nat)->Shared->Prop} (hb:w.params.followText "set-order"=false) (ho:s.heap.get? S=some o) (hd:o.data=.set es ep t) (hf:t.fits es.size=true) (hl:t.led=true) (h1:es.size <= 1)
  (h:Q (match es[SetTable.below t.place sl]?,t.place[SetTable.below t.place sl]? with | some (_,x),some j=>some (x,j + 1) | _,_=>none) s):wpAny (model prog w) A (setNext S sl i ep) Q E s:=by
 unfold setNext
 refine wpAny_bind (wpAny_setState_of ho hd hf ?_)
 dsimp only
 refine wpAny_bind (uW ?_)
 rw [if_neg (by rw [hb];simp)]
 refine wpAny_ite_split (fun hab=>absurd (show (!t.plain && decide (es.size > 1))=true from hab) (by rw [zKJ (show ¬ es.size > 1 by omega)];simp)) (fun _=>?_)
 refine wpAny_bind ?_
 show wpAny _ _ (if (!t.led && !es.isEmpty)=true then _ else _) _ _ s
 rw [if_neg (by rw [hl];simp)]
 exact wpAny_pure (wpAny_pure h)
end
section
variable {prog:Program} {w:World} {A:Around} {E:VSP} {s:Shared}
theorem vM {S:Addr} {o:Obj} {es:Array (Int × Value)} {ep:Nat} {t:SetTable} {Q:Array (Int × Value)->Shared->Prop} (ho:s.heap.get? S=some o) (hd:o.data=.set es ep t) (hf:t.fits es.size=true) (h:Q es s):wpAny (model prog w) A (setEntries S) Q E s:=by
 unfold setEntries
 exact wpAny_bind (wpAny_setState_of ho hd hf (wpAny_pure h))
theorem lU {S:Addr} {o:Obj} {es:Array (Int × Value)} {ep:Nat} {t:SetTable} {p:Nat} {Q:VSP} (ho:s.heap.get? S=some o) (hd:o.data=.set es ep t) (hf:t.fits es.size=true) (hp:p < es.size) (h:Q (es.getD p (0,.none)).2 s):wpAny (model prog w) A (setNextDrawn S p ep) Q E s:=by
 unfold setNextDrawn
 refine wpAny_bind (wpAny_setState_of ho hd hf ?_)
 dsimp only
 simp only [bne_self_eq_false,Bool.false_eq_true,if_false]
 have e:es[p]?=some (es.getD p (0,.none)):=by rw [zK2,Array.getElem?_eq_getElem hp];rfl
 rw [e]
 exact wpAny_pure h
theorem oC (xs:Array Nat) (h:xs.size <= 1):SetTable.below xs 0=0:=by
 unfold SetTable.below
 rcases (show xs.size=0 \/ xs.size=1 by omega) with e | e
 ·rw [e];rfl
 ·rw [e];simp [SetTable.below.go]
theorem fJ (xs:Array Nat) {j:Nat} (h:xs.size=1) (hj:xs[0]?=some j):SetTable.below xs (j + 1)=1:=by
 unfold SetTable.below
 rw [h]
 have e:xs.getD 0 (j + 1)=j:=by rw [zK2,hj];rfl
 simp [SetTable.below.go,e]
theorem zCY {it S tp:Addr} {ord:List Value} {i:Nat} {x:Value} {Q:Option Value->Shared->Prop} (X:SI w s.heap it S tp ord i) (hx:ord[i]?=some x) (ne:S ≠ it) (net:tp ≠ it)
  (q:∀ h',SI w h' it S tp ord (i + 1)->Heap.SameBut it s.heap h'->Q (some x) { s with heap:=h' }):wpAny (model prog w) A (pyNext (.ref it)) Q E s:=by
 obtain ⟨o,es,ep,t,first,hS,hd,hf,hi,md,hl⟩:=X
 have hT:s.TypeIs (.ref it) "set_iterator":=⟨_,hi,rfl⟩
 unfold pyNext
 refine wpAny_bind (wpAny_attempt (wpAny_callSpecial?_slot (name:=Str.ofString "__next__") hT uZ (wpAny_call_entry uZ hT jX ?_ (d7 _))))
 show wpAny _ _ (fieldsOf (.ref it) >>= _) _ _ s
 refine wpAny_bind (wpAny_fieldsOf hi rfl ?_)
 show wpAny _ _ (setEntries S >>= _) _ _ s
 refine wpAny_bind (vM hS hd hf ?_)
 simp only [bne_self_eq_false,Bool.false_eq_true,if_false]
 have il:i < ord.length:=(zJ5.mp hx).1
 have fin:∀ (nf:Value) (h':Heap),iG h' it nf (i + 1) S es.size ep->Heap.SameBut it s.heap h'->zCJ w h' S tp es ep t (i + 1) nf ord->Q (some x) { s with heap:=h' }:=fun nf h' h1 sb m=>q h' ⟨o,es,ep,t,nf,sb.extBut _ _ ne hS,hd,hf,h1,m,hl⟩ sb
 rcases md with ⟨b,rfl,e⟩ | ⟨b,hp,h1,pl,rfl,hpl,hlt,e⟩ | ⟨b,hld,h1,hc,e⟩
 ·show wpAny _ _ (setNext S 0 (Int.toNat (i:Int)) (Int.toNat (ep:Int)) >>= _) _ _ s
  rw [Int.toNat_natCast,Int.toNat_natCast]
  have ex:((pickOrder (w.params.setOrder S ep) es)[i]?).map (fun e:Int × Value=>(e.2,0))=some (x,0):=by
   rw [e,zJ9] at hx
   rw [<- Array.getElem?_toList]
   cases he:(pickOrder (w.params.setOrder S ep) es).toList[i]? with
   | none=>rw [he] at hx;cases hx
   | some y=>
    rw [he] at hx
    have ey:y.2=x:=zKA hx
    show some (y.2,0)=_
    rw [ey]
  refine wpAny_bind (rO b hS hd hf ?_)
  rw [ex]
  refine wpAny_bind (wpAny_setField_rec hi (by simp) fun g1 h1 s1=>?_)
  replace h1:iG g1 it (rawInt 0) i S es.size ep:=h1
  refine wpAny_bind (wpAny_setField_rec h1 (by simp) fun g2 h2 s2=>?_)
  replace h2:iG g2 it (rawInt 0) (i + 1) S es.size ep:=h2
  exact wpAny_pure ⟨x,rfl,wpAny_pure (fin _ g2 h2 (s1.trans s2) (.inl ⟨b,rfl,e⟩))⟩
 ·show wpAny _ _ (seqItems? (.ref tp) >>= _) _ _ s
  refine wpAny_bind (wpAny_seqItems hpl rfl ?_)
  rw [e,zJ9] at hx
  cases ep0:pl[i]? with
  | none=>rw [ep0] at hx;cases hx
  | some p=>
   rw [ep0] at hx
   have ex:(es.getD p (0,.none)).2=x:=zKA hx
   have hpp:=hlt p (zJ7 ep0)
   have ea:(pl.map fun (k:Nat)=>rawInt (k:Int)).toArray[Int.toNat (i:Int)]?=some (rawInt (p:Int)):=by
    rw [Int.toNat_natCast,List.getElem?_toArray,zJ9,ep0];rfl
   simp only [ea]
   show wpAny _ _ (setNextDrawn S (Int.toNat (p:Int)) (Int.toNat (ep:Int)) >>= _) _ _ s
   rw [Int.toNat_natCast,Int.toNat_natCast]
   refine wpAny_bind (lU hS hd hf hpp ?_)
   rw [ex]
   refine wpAny_bind (wpAny_setField_rec hi (by simp) fun g2 h2 s2=>?_)
   replace h2:iG g2 it (.ref tp) (i + 1) S es.size ep:=h2
   exact wpAny_pure ⟨x,rfl,wpAny_pure (fin _ g2 h2 s2 (.inr (.inl ⟨b,hp,h1,pl,rfl,s2.extBut _ _ net hpl,hlt,e⟩)))⟩
 ·rcases hc with ⟨rfl,rfl⟩ | ⟨rfl,_⟩
  ·have sz:es.size=1:=by omega
   have psz:t.place.size=es.size:=by
    simp only [SetTable.fits,Bool.and_eq_true,beq_iff_eq] at hf
    exact hf.1
   have p0:t.place[0]?=some (t.place.getD 0 0):=by rw [zK2,Array.getElem?_eq_getElem (by omega)];rfl
   have e0:es[0]?=some (es.getD 0 (0,.none)):=by rw [zK2,Array.getElem?_eq_getElem (by omega)];rfl
   have ex:(es.getD 0 (0,.none)).2=x:=by
    rw [e,zJ9,Array.getElem?_toList,e0] at hx
    exact zKA hx
   show wpAny _ _ (setNext S 0 (Int.toNat ((0:Nat):Int)) (Int.toNat (ep:Int)) >>= _) _ _ s
   rw [Int.toNat_natCast,Int.toNat_natCast]
   refine wpAny_bind (rP b hS hd hf hld h1 ?_)
   rw [oC _ (by omega),e0,p0]
   generalize hy:es.getD 0 (0,.none)=y at ex
   obtain ⟨y1,y2⟩:=y
   have ex':y2=x:=ex
   subst ex'
   refine wpAny_bind (wpAny_setField_rec hi (by simp) fun g1 h1' s1=>?_)
   replace h1':iG g1 it (rawInt ((t.place.getD 0 0 + 1:Nat):Int)) 0 S es.size ep:=h1'
   refine wpAny_bind (wpAny_setField_rec h1' (by simp) fun g2 h2 s2=>?_)
   replace h2:iG g2 it (rawInt ((t.place.getD 0 0 + 1:Nat):Int)) (0 + 1) S es.size ep:=h2
   exact wpAny_pure ⟨_,rfl,wpAny_pure (fin _ g2 h2 (s1.trans s2) (.inr (.inr ⟨b,hld,h1,.inr ⟨rfl,_,p0,rfl⟩,e⟩)))⟩
  ·omega
theorem tO {Qf:Fin->Shared->Prop} (hh:A.handled=none) (q:∀ h' e,(∀ b o,s.heap.get? b=some o->h'.get? b=some o)->(∃ o,h'.get? e=some o/\o.cls=.type "StopIteration")->E (.ref e) { s with heap:=h' }) :
  wpAny (model prog w) A (newExc (.type "StopIteration") [] >>= fun e=>raiseNew e) Qf E s:=by
 refine wpAny_bind ?_;simp only [newExc,newTuple]
 refine wpAny_bind (wpAny_newObj_type ?_ (by size_fits));refine wpAny_bind (m:=firstArgMember _ _) (wpAny_of_eq (a:=Value.none) (by first | rfl | (simp only [firstArgMember];rfl)) ?_)
 refine wpAny_newObj_type ?_ (by size_fits);simp only [raiseNew];refine wpAny_bind (wpAny_handled ?_)
 first | rw [show A.in1.handled=none from hh];refine wpAny_bind (wpAny_pure (wpAny_throw ?_)) | rw [hh];refine wpAny_bind (wpAny_pure (wpAny_throw ?_))
 exact q _ _ (fun b o e=>Heap.get?_push_of_some _ (Heap.get?_push_of_some _ e)) ⟨_,Heap.get?_push_size _ rfl,rfl⟩
theorem zGM {it S tp:Addr} {ord:List Value} {Q:Option Value->Shared->Prop} (hh:A.handled=none) (X:SI w s.heap it S tp ord ord.length) (q:∀ h',Heap.ExtBut it s.heap h'->Q none { s with heap:=h' }):wpAny (model prog w) A (pyNext (.ref it)) Q E s:=by
 obtain ⟨o,es,ep,t,first,hS,hd,hf,hi,md,hl⟩:=X
 have hT:s.TypeIs (.ref it) "set_iterator":=⟨_,hi,rfl⟩
 unfold pyNext
 refine wpAny_bind (wpAny_attempt (wpAny_callSpecial?_slot (name:=Str.ofString "__next__") hT uZ (wpAny_call_entry uZ hT jX ?_ (d7 _))))
 show wpAny _ _ (fieldsOf (.ref it) >>= _) _ _ s
 refine wpAny_bind (wpAny_fieldsOf hi rfl ?_)
 show wpAny _ _ (setEntries S >>= _) _ _ s
 refine wpAny_bind (vM hS hd hf ?_)
 simp only [bne_self_eq_false,Bool.false_eq_true,if_false]
 have fin:∀ (h1 h':Heap) (x:Addr),Heap.SameBut it s.heap h1->(∀ b o,h1.get? b=some o->h'.get? b=some o)->(∃ o,h'.get? x=some o/\o.cls=.type "StopIteration")->wpAny (model prog w) A (isInstance (.ref x) (.type "StopIteration") >>= fun b=>if b=true then pure none else throw (Value.ref x)) Q E { s with heap:=h' }:=by
  rintro h1 h' x sb kp ⟨ox,hx,hc⟩
  exact wpAny_bind (wpAny_isInstance (T:="StopIteration") (b:=true) ⟨ox,hx,hc⟩ isSubtype_stop (wpAny_pure (q _ fun b o hb e=>kp b o (sb.extBut b o hb e))))
 rcases md with ⟨b,rfl,e⟩ | ⟨b,hp,h1,pl,rfl,hpl,hlt,e⟩ | ⟨b,hld,h1,hc,e⟩
 ·show wpAny _ _ (setNext S 0 (Int.toNat (ord.length:Int)) (Int.toNat (ep:Int)) >>= _) _ _ s
  rw [Int.toNat_natCast,Int.toNat_natCast]
  have ex:((pickOrder (w.params.setOrder S ep) es)[ord.length]?).map (fun e:Int × Value=>(e.2,0))=none:=by
   rw [<- Array.getElem?_toList,List.getElem?_eq_none]
   ·rfl
   ·rw [e,zJ3];exact zKC _
  refine wpAny_bind (rO b hS hd hf ?_)
  rw [ex]
  refine wpAny_bind (wpAny_setField_rec hi (by simp) fun g1 h1 s1=>?_)
  exact tO hh fun h' x kp hx=>fin g1 h' x s1 kp hx
 ·show wpAny _ _ (seqItems? (.ref tp) >>= _) _ _ s
  refine wpAny_bind (wpAny_seqItems hpl rfl ?_)
  have ea:(pl.map fun (k:Nat)=>rawInt (k:Int)).toArray[Int.toNat (ord.length:Int)]?=none:=by
   rw [Int.toNat_natCast,List.getElem?_toArray,List.getElem?_eq_none]
   rw [e,zJ3,zJ3];exact zKC _
  simp only [ea]
  refine wpAny_bind (wpAny_setField_rec hi (by simp) fun g1 h1' s1=>?_)
  replace h1':iG g1 it (rawInt 0) ord.length S es.size ep:=h1'
  refine wpAny_bind (wpAny_setField_rec h1' (by simp) fun g2 h2 s2=>?_)
  exact tO hh fun h' x kp hx=>fin g2 h' x (s1.trans s2) kp hx
 ·have psz:t.place.size=es.size:=by
   simp only [SetTable.fits,Bool.and_eq_true,beq_iff_eq] at hf
   exact hf.1
  have key:∃ sl:Nat,first=rawInt (sl:Int)/\es[SetTable.below t.place sl]?=none:=by
   rcases hc with ⟨h0,rfl⟩ | ⟨h0,j,hj,rfl⟩
   ·exact ⟨0,rfl,by rw [oC _ (by omega)];exact Array.getElem?_eq_none (by omega)⟩
   ·refine ⟨j + 1,rfl,?_⟩
    rw [fJ _ (by omega) hj]
    exact Array.getElem?_eq_none (by omega)
  obtain ⟨sl,rfl,hn⟩:=key
  show wpAny _ _ (setNext S (Int.toNat (sl:Int)) (Int.toNat (ord.length:Int)) (Int.toNat (ep:Int)) >>= _) _ _ s
  rw [Int.toNat_natCast,Int.toNat_natCast,Int.toNat_natCast]
  refine wpAny_bind (rP b hS hd hf hld h1 ?_)
  rw [hn]
  refine wpAny_bind (wpAny_setField_rec hi (by simp) fun g1 h1 s1=>?_)
  exact tO hh fun h' x kp hx=>fin g1 h' x s1 kp hx
end
section
variable {prog:Program} {w:World} {A:Around} {R:Result->Shared->Prop} {I:Addr} {fp wr:List Addr} {G:Array GenState->Array GenState->Prop} {n:Nat} {P:Nat->Value->Prop} {St:Nat->Shared->Prop}
theorem i3 {led:Bool} (W:WalksS prog w A.in1 I fp wr G n P St) (S:Addr) (hSf:S ∉ fp) (val:Nat->Str) (hval:∀ i v,P i v->∃ t,v=.str (val i) t) (hb:n + 1 < scanBound):∀ (k i:Nat) (s:Shared),n - i=k->i <= n->St i s->oN prog w s.heap S val i led ->
  (∀ s',Moved (S :: wr) G s s'->oN prog w s'.heap S val n led->R (.ok (.ret .none)) s')->codeAny (model prog w) A (.builtin "set.update.loop" ⟨[.ref S,.ref I],[]⟩) R s:=by
 have nw:S ∉ wr:=fun z=>hSf (W.sub _ z)
 have more:∀ b ∈ wr,b ∈ S :: wr:=fun b z=>zKG _ z
 intro k
 induction k with
 | zero=>
  intro i s hk hi st hS hR
  obtain rfl:i=n:=by omega
  refine codeAny_builtin F.entry_set_update_loop ?_
  rw [Around.under_plainId F.plain_set_update_loop _]
  show wpAny _ A.in1 (pyNext (.ref I) >>= _) _ _ s
  exact wpAny_bind (W.done s _ _ st fun s' hm=>wpAny_pure (hR s' (hm.mono more) (rB hS fun o z=>hm.heap S _ nw z)))
 | succ k ih=>
  intro i s hk hi st hS hR
  have lt:i < n:=by omega
  refine codeAny_builtin F.entry_set_update_loop ?_
  rw [Around.under_plainId F.plain_set_update_loop _]
  show wpAny _ A.in1 (pyNext (.ref I) >>= _) _ _ s
  refine wpAny_bind (W.item i s _ _ lt st fun v s' hP st' hm=>?_)
  obtain ⟨t,rfl⟩:=hval i v hP
  have hS1:oN prog w s'.heap S val i led:=rB hS fun o z=>hm.heap S _ nw z
  have room:=sJ val i
  show wpAny _ A.in1 (holding [Value.str (val i) t] (setAdd S (.str (val i) t)) >>= _) _ _ s'
  refine wpAny_bind (wpAny_holding ?_)
  unfold setAdd
  refine wpAny_holding (wpAny_bind ((PySem.strKind prog w).pyHash (k:=val i) (strKind_is _ _ _ _) (addX (s:={ s' with toks:=s'.toks + 1 }) hS1 (by omega) fun h' bb hsb hS3=>?_)))
  refine wpAny_pure ⟨plainId_quiet F.plain_set_update_loop _,ih (i + 1) _ (by omega) lt (W.frame _ s' _ _ st' (Nat.le_succ _) fun b hb o e=>?_) hS3 fun s2 hm2 hS4=>hR s2 (Moved.trans W.gtrans ((hm.mono more).then_heap (Nat.le_succ _) fun b o hb e=>?_) hm2) hS4⟩
  ·rw [hsb.2 b (fun z:b=S=>hSf (by rw [<- z];exact hb))];exact e
  ·rw [hsb.2 b (fun z:b=S=>hb (by rw [z];exact zKW))];exact e
end
section
variable {prog:Program} {w:World} {A:Around} {E:VSP} {s:Shared}
theorem oH (a:Value) {Q₁:VSP} (h:Q₁ (.ref s.heap.objs.size) { s with heap:=s.heap.push (jN (uQ w)) }):codeAny (model prog w) A (.call (.builtin "set.__new__") ⟨[.type "set",a],[]⟩) (wants Q₁ E) s:=by
 refine codeAny_of_tree ?_
 show wpAny _ A.in1 (do checkBuiltinCall "set.__new__" ⟨[.type "set",a],[]⟩;again (.builtin "set.__new__" ⟨[.type "set",a],[]⟩)) _ _ s
 refine wpAny_bind (wpAny_of_eq (F.newCall_set_1 a) (wpAny_pure ⟨plainId_quiet F.plain_set_new _,codeAny_builtin F.entry_set_new ?_⟩));rw [Around.under_plainId F.plain_set_new _]
 unfold Builtin.«set.__new__» Builtin.Frozenset.newClass
 have hsub:=sub_set_self
 obtain ⟨hp,g,d,tk,os⟩:=s
 dsimp only
 wp_walk
 refine wpAny_askSetting (wpAny_pure ?_)
 dsimp only
 simp only [newObj]
 refine wpAny_bind (wpAny_alloc (wpAny_pure ?_))
 exact wpAny_pure h
theorem i5 {l:Addr} {items:Array Value} {val:Nat->Str} {Q:VSP} (hh:A.handled=none) (hl:s.heap.IsList l items) (hv:∀ (i:Nat) (v:Value),items[i]?=some v->∃ t,v=.str (val i) t) (hb:items.size + 1 < scanBound)
  (h:∀ (g:Heap) (tk:Nat),oN prog w g s.heap.objs.size val items.size (uQ w)->(∀ b o,b < s.heap.objs.size->s.heap.get? b=some o->g.get? b=some o)->Q (.ref s.heap.objs.size) { s with heap:=g,toks:=tk }) :
  wpAny (model prog w) A (call (.type "set") [.ref l]) Q E s:=by
 obtain ⟨c,tl,hmro⟩:=F.called_set.mro
 have hmade:=F.called_set.made
 have hsub:=F.called_set.sub
 refine wpAny_call (codeAny_of_tree ?_)
 show wpAny _ _ (callAny (.type "set") _) _ _ _
 refine wpAny_pure ⟨Code.quiet_builtin _ (by decide +kernel),codeAny_builtin F.entry_type_call ?_⟩
 rw [Around.under_plain (weight_type_call_type "set" [.ref l] []) rfl]
 have h1:=F.called_set.notType
 have h2:=F.called_set.canCreate
 have hct:=F.typeCall_set_1 (.ref l)
 repeat (any_goals (first | assumption | wp_step))
 refine codeAny_mono (oH (.ref l) (E:=E) (Q₁:=fun obj s1=>obj=.ref s.heap.objs.size/\s1 = { s with heap:=s.heap.push (jN (uQ w)) }) ⟨rfl,rfl⟩) fun r s1 hr=>?_
 cases r with
 | error e=>exact hr
 | ok fl=>
  cases fl with
  | ret obj=>
   obtain ⟨rfl,rfl⟩:=hr
   have gS:(s.heap.push (jN (uQ w))).get? s.heap.objs.size=some (jN (uQ w)):=Heap.get?_push_size _ rfl
   have hT:Shared.TypeIs { s with heap:=s.heap.push (jN (uQ w)) } (.ref s.heap.objs.size) "set":=⟨_,gS,rfl⟩
   have hli:=F.called_set.init.lookup
   have hbi:=F.called_set.init.bind (.ref s.heap.objs.size)
   repeat (any_goals (first | assumption | wp_step))
   refine codeAny_mono (codeAny_call_builtin (R:=wants (fun r s2=>r=.none/\∃ g tk,s2 = { s with heap:=g,toks:=tk }/\oN prog w g s.heap.objs.size val items.size (uQ w)/\(∀ b o,b < s.heap.objs.size->s.heap.get? b=some o->g.get? b=some o)) E)
    F.called_set.init.plain F.entry_set_init (check_set_init_1 hT ?_)) fun r2 s2 hr2=>?_
   ·obtain ⟨⟨ocls,odict,odata,oslots⟩,hol,hcl,nl,hdl⟩:=hl
    simp only at hcl hdl
    subst hcl;subst hdl
    have hol':(s.heap.push (jN (uQ w))).get? l=some { cls:=.type "list",dict:=odict,data:=.seq items nl,slots:=oslots }:=Heap.get?_push_of_some _ hol
    have hsls:=F.sub_list_set
    have hslf:=F.sub_list_frozenset
    have hne:(Value.type "list" == Value.type "dict")=false:=by decide
    have hl1:(s.heap.push (jN (uQ w))).IsList l items:=⟨_,hol',rfl,nl,rfl⟩
    unfold Builtin.«set.__init__» noKeywords Builtin.Frozenset.updateFrom
    generalize hPI:pyIter=PI
    wp_walk
    subst hPI
    refine wpAny_pyIter_list hl1 (wpAny_bind (wpAny_runValue ?_))
    have hlS:l < s.heap.objs.size:=Heap.lt_size hol
    have sz:(s.heap.push (jN (uQ w))).objs.size=s.heap.objs.size + 1:=Heap.size_push _ _
    refine i3 (led:=uQ w) ((Walks.list (A:=A.in1.in1.in1) (by simp [hh]) _ l (by rw [sz];exact zKU (Nat.lt_succ_of_lt hlS)) items).toS) s.heap.objs.size (by rw [sz];simp;exact Nat.ne_of_gt hlS) val hv hb (items.size - 0) 0 _ (by omega) (zKD _) ⟨⟨_,Heap.get?_push_size _ rfl,rfl,rfl⟩,(hl1.push _)⟩ ?z0 ?zR
    case z0=>
     exact ⟨_,#[],0,.fresh 0 0 (uQ w),Heap.get?_push_of_some _ gS,⟨rfl,rfl,rfl⟩,rfl,(fun e he=>by simp at he),(fun k=>by simp [xM]),by decide,rfl,rfl,rfl,.inl rfl⟩
    case zR=>
     intro s' hm hS'
     obtain ⟨g,g',d',tk',os'⟩:=s'
     have eg:g'=s.gens:=hm.gens
     have ed:d'=s.drawn:=hm.drawn
     have eo:os'=s.os:=hm.os
     subst eg;subst ed;subst eo
     show wpAny _ _ _ _ _ _
     refine wpAny_pure ?_
     show wpAny _ _ (ret Value.none) _ _ _
     refine wpAny_pure ⟨rfl,g,tk',rfl,hS',fun b o hb e=>hm.heap b o ?_ (Heap.get?_push_of_some _ (Heap.get?_push_of_some _ e))⟩
     rw [sz];simp;exact ⟨zKU hb,zKU (Nat.lt_succ_of_lt hb)⟩
   ·cases r2 with
    | error e=>exact hr2
    | ok fl2=>
     cases fl2 with
     | ret r=>
      obtain ⟨rfl,g,tk,rfl,hS',hk'⟩:=hr2
      repeat (any_goals (first | assumption | wp_step))
      exact h _ _ hS' hk'
     | _=>exact hr2.elim
  | _=>exact hr.elim
end
theorem kQ:Slot "set_iterator" "__iter__" "set_iterator.__iter__":=
 .of (owner:="set_iterator") (n:="__iter__") (by rw [typeLookup_type,builtinLookup_eq_fast];kernel_rfl) (by decide +kernel) (by decide +kernel) (by decide +kernel) (by first | exact .inl (by decide +kernel) | exact .inr (by decide +kernel)) (by rw [isSubtype_type];kernel_rfl)
theorem zCD (a:Value):argsOk "set_iterator.__iter__" ⟨[a],[]⟩:=by
 unfold argsOk;rw [signature?_of (id:="set_iterator.__iter__") (n:=['_','_','r','e','t','i','_','_']) (o:=['r','o','t','a','r','e','t','i','_','t','e','s']) (by kernel_rfl) zAO];kernel_rfl
theorem bE:entryFor table "set_iterator.__iter__"=some Builtin.«dict_keyiterator.__iter__»:=
 entryFor_alias (id':="dict_keyiterator.__iter__") (by kernel_rfl) (by first | rfl | decide +kernel | (unfold String.splitOn;simp +decide [String.splitOnAux])) (by decide +kernel) (by kernel_rfl)
theorem mG:splitId "set.__len__"=some ("set","__len__"):=by decide +kernel
section
variable {prog:Program} {w:World} {A:Around} {E:VSP} {s:Shared}
theorem d9 (hh:A.handled=none) (it S tp:Addr) (ne:S ≠ it) (net:tp ≠ it) (ord:List Value):WalksS prog w A it [it,S,tp] [it] (fun a b=>b=a) ord.length (fun i v=>ord[i]?=some v) (fun i s=>SI w s.heap it S tp ord i) where
 sub:=fun b hb=>by rw [zJ6.mp hb];simp
 grefl:=fun _=>rfl
 gtrans:=fun a b c h1 h2=>by rw [h2,h1]
 frame:=fun i s h' tk st _ k=>SI.at st k
 item:=fun i s Q E hi st q=>by
  refine zCY st (x:=ord[i]) (zJ4 hi) ne net fun h' st' sb=>q _ _ (zJ4 hi) st' ⟨fun b o hb e=>sb.extBut b o (fun z=>hb (by rw [z];simp)) e,rfl,rfl,rfl,zKC _⟩
 done:=fun s Q E st q=>zGM hh st fun h' eb=>q _ ⟨fun b o hb e=>eb b o (fun z=>hb (by rw [z];simp)) e,rfl,rfl,rfl,zKC _⟩
 self:=fun i s Q E st h=>by
  obtain ⟨o,es,ep,t,first,hS,hd,hf,hi,md,hl⟩:=st
  have hT:s.TypeIs (.ref it) "set_iterator":=⟨_,hi,rfl⟩
  refine wpAny_pyIter_slot hT kQ (wpAny_call_entry kQ hT bE ?_ (zCD _))
  show wpAny _ _ (ret (.ref it)) _ _ s
  exact wpAny_pure ⟨_,rfl,"set_iterator",_,hT,uZ.lookup,h⟩
theorem iM {S:Addr} {o:Obj} {es:Array (Int × Value)} {ep:Nat} {t:SetTable} {Q:VSP} (ho:s.heap.get? S=some o) (hex:o.ExactSet) (hd:o.data=.set es ep t) (hf:t.fits es.size=true) (hled:t.led=uQ w) (hpl:es.size=0 \/ t.plain=false) (hz:es.size <= sizeLine)
  (q:∀ (h':Heap) (d:Drawn) (it tp:Addr) (ord:List Value),(∀ b o,s.heap.get? b=some o->h'.get? b=some o)->s.heap.objs.size <= it->it < h'.objs.size->tp ≠ it->(tp=S \/ s.heap.objs.size <= tp)->SI w h' it S tp ord 0->List.Perm ord (es.toList.map (·.2))->Q (.ref it) { s with heap:=h',drawn:=d }) :
  wpAny (model prog w) A (pyIter (.ref S)) Q E s:=by
 have hT:s.TypeIs (.ref S) "set":=⟨_,ho,hex.1⟩
 have Sl:S < s.heap.objs.size:=Heap.lt_size ho
 refine wpAny_pyIter_slot hT F.slot_set_iter (wpAny_call_entry F.slot_set_iter hT gU ?_ (F.args_set_iter_1 _))
 show wpAny _ _ (Builtin.Frozenset.sizeOf S >>= _) _ _ s
 unfold Builtin.Frozenset.sizeOf
 refine wpAny_bind (wpAny_bind (vM ho hd hf (wpAny_pure ?_)))
 refine wpAny_bind ?_
 unfold setDrawn
 refine wpAny_bind (wpAny_setState_of ho hd hf ?_)
 dsimp only
 refine wpAny_bind (uW (wpAny_pure ?_))
 have fin:∀ (g:Heap) (d:Drawn) (first:Value) (tp:Addr) (ord:List Value),(∀ b o,s.heap.get? b=some o->g.get? b=some o)->s.heap.objs.size <= g.objs.size->tp < g.objs.size->(tp=S \/ s.heap.objs.size <= tp)->zCJ w (g.push { cls:=.type "set_iterator",data:=.fields #[first,rawInt ((0:Nat):Int),.ref S,rawInt (es.size:Int),rawInt (ep:Int)] }) S tp es ep t 0 first ord->ord.length=es.size->List.Perm ord (es.toList.map (·.2)) ->
   wpAny (model prog w) A.in1 (setEpoch S >>= fun e=>newFields "set_iterator" [first,rawInt 0,.ref S,rawInt (es.size:Int),rawInt (e:Int)] >>= fun r=>ret r) (fun fin s'=>∃ v,fin=.done (.ret v)/\∃ T' r,s'.TypeIs v T'/\typeLookup (.type T') "__next__"=pure (some r)/\Q v s') E { s with heap:=g,drawn:=d }:=by
  intro g d first tp ord kp sz htp hor md hl pm
  refine wpAny_bind (wpAny_setEpoch_of (s:={ s with heap:=g,drawn:=d }) (kp _ _ ho) hd hf ?_)
  refine wpAny_bind (wpAny_newObj_type (wpAny_pure ⟨_,rfl,"set_iterator",_,⟨_,Heap.get?_push_size _ rfl,rfl⟩,uZ.lookup,?_⟩))
  refine q _ d _ tp ord (fun b o e=>Heap.get?_push_of_some _ (kp b o e)) sz (by rw [Heap.size_push];exact Nat.lt_succ_self _) (zKU htp) hor ⟨o,es,ep,t,first,Heap.get?_push_of_some _ (kp _ _ ho),hd,hf,Heap.get?_push_size _ rfl,md,hl⟩ pm
 refine wpAny_ite_split (fun hab=>?_) (fun hab=>?_)
 ·replace hab:(!(w.params.followText "set-order") && (!t.plain && decide (es.size > 1)))=true:=hab
  simp only [Bool.and_eq_true,Bool.not_eq_true',decide_eq_true_eq] at hab
  obtain ⟨hb,hp,h1⟩:=hab
  refine wpAny_bind (t8 es.size (List.range es.size) _ _ (List.length_range) fun pl d pm=>?_)
  refine wpAny_bind (wpAny_newTuple (hsz:=by rw [zJ3,pm.length_eq,List.length_range];exact hz) ?_)
  have lt:∀ p ∈ pl,p < es.size:=fun p hp=>List.mem_range.mp (pm.mem_iff.mp hp)
  have mp:List.Perm (pl.map fun p=>(es.getD p (0,.none)).2) (es.toList.map (·.2)):=by
   have e:(List.range es.size).map (fun p=>(es.getD p (0,.none)).2)=es.toList.map (·.2):=by
    refine List.ext_getElem? fun k=>?_
    rw [zJ9,zJ9,show es.toList[k]?=es[k]? from Array.getElem?_toList]
    by_cases hk:k < es.size
    ·rw [List.getElem?_range hk,Array.getElem?_eq_getElem hk,Option.map_some,Option.map_some,zK2,Array.getElem?_eq_getElem hk];rfl
    ·rw [List.getElem?_eq_none (by rw [List.length_range];omega),Array.getElem?_eq_none (by omega)];rfl
   rw [<- e]
   exact pm.map _
  refine fin (s.heap.push { cls:=.type "tuple",data:=.seq (pl.map fun (k:Nat)=>rawInt (k:Int)).toArray }) d (.ref s.heap.objs.size) s.heap.objs.size (pl.map fun p=>(es.getD p (0,.none)).2) (fun b o e=>Heap.get?_push_of_some _ e) (by rw [Heap.size_push];exact Nat.le_succ _) (by rw [Heap.size_push];exact Nat.lt_succ_self _) (.inr (zKC _)) (.inr (.inl ⟨hb,hp,h1,pl,rfl,Heap.get?_push_of_some _ (Heap.get?_push_size _ rfl),lt,rfl⟩)) (by rw [mp.length_eq,zJ3,Array.length_toList]) mp
 ·refine wpAny_bind (wpAny_pure ?_)
  cases hb:w.params.followText "set-order" with
  | true=>
   have pm:=(hU (w.params.setOrder S ep) es).map (fun x:Int × Value=>x.2)
   exact fin s.heap s.drawn (rawInt 0) S _ (fun b o e=>e) (zKC _) Sl (.inl rfl) (.inl ⟨hb,rfl,rfl⟩) (by rw [pm.length_eq,zJ3,Array.length_toList]) pm
  | false=>
   have h1:es.size <= 1:=by
    apply Nat.le_of_not_lt
    intro h1
    refine hab ?_
    show (!(w.params.followText "set-order") && (!t.plain && decide (es.size > 1)))=true
    rw [hb,hpl.resolve_left (by omega),zKI h1];rfl
   exact fin s.heap s.drawn (rawInt 0) S _ (fun b o e=>e) (zKC _) Sl (.inl rfl) (.inr (.inr ⟨hb,by rw [hled];unfold uQ;rw [hb];rfl,h1,.inl ⟨rfl,rfl⟩,rfl⟩)) (by rw [zJ3,Array.length_toList]) (List.Perm.refl _)
end
section
variable {prog:Program} {w:World} {A:Around} {E:VSP} {s:Shared}
theorem zBH {S:Addr} {Q:Bool->Shared->Prop} (hT:s.TypeIs (.ref S) "set") (h:Q false s):wpAny (model prog w) A (Builtin.List.listLengthHint (.ref S)) Q E s:=by
 unfold Builtin.List.listLengthHint
 refine wpAny_bind (wpAny_specialOf hT F.slot_set_len.lookup ?_)
 generalize hid:("set.__len__" : String)=id0
 wp_delta
 rw [show splitId id0=some ("set","__len__") from by subst hid;exact mG]
 subst hid
 refine wpAny_bind (wpAny_isInstance (T:="set") (b:=true) hT (by rw [isSubtype_type];kernel_rfl) ?_)
 refine wpAny_ite_split (fun hab=>absurd hab (by decide)) (fun _=>?_)
 refine wpAny_ite_split (fun _=>?_) (fun hab=>absurd (by decide +kernel) hab)
 exact wpAny_bind (wpAny_typeOf hT (wpAny_pure h))
theorem j8 (hh:A.handled=none) {S:Addr} {o:Obj} {es:Array (Int × Value)} {ep:Nat} {t:SetTable} {Q:List Value->Shared->Prop} (ho:s.heap.get? S=some o) (hex:o.ExactSet) (hd:o.data=.set es ep t) (hf:t.fits es.size=true) (hled:t.led=uQ w) (hpl:es.size=0 \/ t.plain=false) (hz:es.size < 1000)
  (q:∀ (s':Shared) (ord:List Value),(∀ b o,s.heap.get? b=some o->s'.heap.get? b=some o)->s'.gens=s.gens->s'.os=s.os->s.toks <= s'.toks->s.heap.objs.size <= s'.heap.objs.size->List.Perm ord (es.toList.map (·.2))->Q ord s'):wpAny (model prog w) A (collect (.ref S)) Q E s:=by
 have Sl:S < s.heap.objs.size:=Heap.lt_size ho
 unfold collect
 refine wpAny_bind (wpAny_runValue (codeAny_builtin F.entry_proto_collect ?_));rw [Around.under_plainId F.plain_proto_collect _]
 show wpAny _ A.in1 (newList [] >>= fun l=>again (.builtin "list.__iadd__" ⟨[l,.ref S],[]⟩)) _ _ s
 refine wpAny_bind (wpAny_newObj_type (wpAny_pure ⟨plainId_quiet F.plain_list_iadd _,codeAny_builtin F.entry_list_iadd ?_⟩));rw [Around.under_plainId F.plain_list_iadd _]
 show wpAny _ A.in1 (Builtin.List.listExtendWith (.ref s.heap.objs.size) (.ref S) (.ref s.heap.objs.size)) _ _ _
 generalize hL:s.heap.objs.size=L
 have hS1:(s.heap.push { cls:=.type "list",data:=.seq ([]:List Value).toArray }).get? L=some { cls:=.type "list",data:=.seq ([]:List Value).toArray }:=by rw [<- hL];exact Heap.get?_push_size _ rfl
 have ho1:(s.heap.push { cls:=.type "list",data:=.seq ([]:List Value).toArray }).get? S=some o:=Heap.get?_push_of_some _ ho
 have up:∀ b o,s.heap.get? b=some o->(s.heap.push { cls:=.type "list",data:=.seq ([]:List Value).toArray }).get? b=some o:=fun b o e=>Heap.get?_push_of_some _ e
 have sz1:(s.heap.push { cls:=.type "list",data:=.seq ([]:List Value).toArray }).objs.size=L + 1:=by rw [Heap.size_push,hL]
 generalize s.heap.push { cls:=.type "list",data:=.seq ([]:List Value).toArray }=g at hS1 ho1 up sz1
 have SL:L ≠ S:=by rw [<- hL];exact Nat.ne_of_gt Sl
 have hT:Shared.TypeIs { s with heap:=g } (.ref S) "set":=⟨_,ho1,hex.1⟩
 unfold Builtin.List.listExtendWith
 refine wpAny_bind (wpAny_typeOf hT ?_)
 have e1:Builtin.List.listSameRef (.ref L) (.ref S)=false:=by simp [Builtin.List.listSameRef,SL]
 have e2:(Value.type "set" == Value.type "list")=false:=by decide
 have e3:(Value.type "set" == Value.type "tuple")=false:=by decide
 simp only [e1,e2,e3,Bool.or_false,Bool.false_eq_true,if_false]
 refine wpAny_bind (iM (s:={ s with heap:=g }) ho1 hex hd hf hled hpl (by rw [sizeLine_eq];omega) fun h' d it tp ord kp it1 it2 tpi tp2 si pm=>?_)
 have hT':Shared.TypeIs { s with heap:=h',drawn:=d } (.ref S) "set":=⟨_,kp _ _ ho1,hex.1⟩
 refine wpAny_bind (wpAny_holding (zBH hT' ?_))
 refine wpAny_ite_split (fun _=>?_) (fun hab=>absurd (by decide +kernel) hab)
 refine wpAny_bind (wpAny_rule (wpAny_bind ?_))
 have hS2:h'.get? L=some { cls:=.type "list",data:=.seq ([]:List Value).toArray }:=kp _ _ hS1
 show wpAny _ A.in1 (updateSeq L (·.push .none) >>= fun _=>updateSeq L (·.pop)) _ _ { s with heap:=h',drawn:=d }
 refine wpAny_bind (wpAny_updateSeq hS2 rfl ?_)
 have hS3:=Heap.get?_update_self (Obj.mapSeq (·.push Value.none)) hS2 rfl
 refine wpAny_updateSeq (hz:=by seq_fits) hS3 rfl ?_
 have hS4:=Heap.get?_update_self (Obj.mapSeq (·.pop)) hS3 rfl
 have oth:∀ b o,b ≠ L->h'.get? b=some o->((h'.update L (Obj.mapSeq (·.push Value.none))).update L (Obj.mapSeq (·.pop))).get? b=some o:=fun b o hb e=>(Heap.get?_update_other _ _ (Ne.symm hb)).trans ((Heap.get?_update_other _ _ (Ne.symm hb)).trans e)
 have itL:it ≠ L:=by
  have:(s.heap.objs.size:Nat) + 1 <= it:=by rw [hL,<- sz1];exact it1
  rw [<- hL];exact Nat.ne_of_gt this
 have itS:S ≠ it:=zKU (zKP (Heap.lt_size ho1) it1)
 have ln:ord.length=es.size:=by rw [pm.length_eq,zJ3,Array.length_toList]
 have tpL:tp ≠ L:=by
  rcases tp2 with z | z
  ·rw [z];exact Ne.symm SL
  ·intro e;rw [e] at z;rw [show ({ s with heap:=g }:Shared).heap.objs.size=L + 1 from sz1] at z;exact Nat.not_succ_le_self _ z
 have hSf:L ∉ [it,S,tp]:=by simp [Ne.symm itL,SL,Ne.symm tpL]
 have W:=d9 (prog:=prog) (w:=w) (A:=A.in1) hh it S tp itS tpi ord
 refine wpAny_pure ⟨plainId_quiet F.plain_extend_loop _,codeAny_extend_loopS W (by rw [ln,sizeLine_eq];omega) L hSf _ ord.length 0 _ _ _ rfl (zKD _) (si.at fun b hb o e=>oth b o (fun z=>hSf (z ▸ hb)) e) hS4 (ItemsOf.nil _) fun s' acc' c' hm hS' hacc=>?_⟩
 show wpAny _ A (load L >>= _) _ _ s'
 refine wpAny_bind (wpAny_load hS' ?_)
 have ea:acc'.toList=ord:=by
  refine List.ext_getElem? fun k=>?_
  rw [Array.getElem?_toList]
  by_cases hk:k < acc'.size
  ·rw [Array.getElem?_eq_getElem hk]
   exact (hacc.2 k _ (Array.getElem?_eq_getElem hk)).symm
  ·rw [Array.getElem?_eq_none (Nat.le_of_not_lt hk),List.getElem?_eq_none (by rw [<- hacc.1];exact Nat.le_of_not_lt hk)]
 refine wpAny_pure ?_
 show Q acc'.toList s'
 rw [ea]
 refine q s' ord (fun b o e=>?_) hm.gens hm.os hm.toks (by rw [hL];exact Nat.le_of_lt (Heap.lt_size hS')) pm
 have bl:b < L:=by rw [<- hL];exact Heap.lt_size e
 refine hm.heap b o (fun z=>?_) (oth b o (zKU bl) (kp b o (up b o e)))
 have:L + 1 <= it:=by rw [<- sz1];exact it1
 rcases List.mem_cons.mp z with z | z
 ·exact absurd bl (by rw [z];exact Nat.lt_irrefl _)
 ·rw [zJ6.mp z] at bl
  exact absurd (zKP bl (Nat.le_of_succ_le this)) (Nat.lt_irrefl _)
end
section
variable {prog:Program} {w:World} {A:Around} {E:VSP} {s:Shared}
theorem iX (hh:A.handled=none) {S:Addr} {o:Obj} {es:Array (Int × Value)} {ep:Nat} {t:SetTable} {ss:List Str} {Q:VSP} (ho:s.heap.get? S=some o) (hex:o.ExactSet) (hd:o.data=.set es ep t) (hf:t.fits es.size=true) (hled:t.led=uQ w) (hpl:es.size=0 \/ t.plain=false) (hz:es.size < 64) (hS:StrsAre (es.toList.map (·.2)) ss)
  (q:∀ (h':Heap) (d:Drawn) (tk:Nat) (p:Addr) (e:Nat) (out:List Value) (ss':List Str),(∀ b o,s.heap.get? b=some o->h'.get? b=some o)->s.heap.objs.size <= p->h'.get? p=some (seqObj "list" out.toArray e)->StrsAre out ss'->ss'.Perm ss->sortedS ss'=true->Q (.ref p) { s with heap:=h',drawn:=d,toks:=tk }) :
  wpAny (model prog w) A (call (.builtin "sorted") [.ref S]) Q E s:=by
 refine Calls.call_function_entry kind_sorted plain_sorted entry_sorted (args_sorted1 _) ?_
 unfold Builtin.«sorted»
 refine wpAny_bind (m:=checkCount "sorted" 1 1 _) (wpAny_pure ?_)
 refine wpAny_bind (j8 (A:=A.in1) hh ho hex hd hf hled hpl (by omega) fun s' ord k hg hos htk hsz pm=>?_)
 have hl:ord.length=es.size:=by rw [pm.length_eq,zJ3,Array.length_toList]
 obtain ⟨sy,hy,py⟩:∃ sy,StrsAre ord sy/\sy.Perm ss:=by
  refine ⟨ord.map strOf,strsAre_map ord (fun v hv=>hS.all v (pm.mem_iff.mp hv)),?_⟩
  have:=pm.map strOf
  rwa [hS.strs] at this
 refine wpAny_bind (wpAny_newList (hsz:=by rw [hl,sizeLine_eq];omega) ?_)
 have hoL:(s'.heap.push (seqObj "list" ord.toArray 0)).get? s'.heap.objs.size=some (seqObj "list" ord.toArray 0):=Heap.get?_push_size _ rfl
 show wpAny _ _ _ _ _ { s' with heap:=s'.heap.push (seqObj "list" ord.toArray 0) }
 refine wpAny_bind (wpAny_holding (wpAny_call_entry slot_list_sort ⟨_,hoL,rfl⟩ entry_list_sort (list_sort_treeK strKind_oneLt hoL hy.keysOf (fun v₁ v₂ rest e=>keyKind_strs (by rw [<- e];exact hy)) (by omega) fun st' a1 a2=>⟨_,rfl,?_⟩) (args_list_sort _)))
 obtain ⟨ss',h1,h2,h3⟩:=sorted_out_str hy a1 a2
 refine wpAny_pure ⟨_,rfl,?_⟩
 obtain ⟨e,he⟩:=sortedHeap_at (vs:=ord) (out:=(arrOf st').map (·.2)) hoL
 have:=q (sortedHeap (s'.heap.push (seqObj "list" ord.toArray 0)) s'.heap.objs.size ord ((arrOf st').map (·.2))) s'.drawn s'.toks s'.heap.objs.size e ((arrOf st').map (·.2)).toList ss' (fun b o z=>?_) hsz (by rw [Array.toArray_toList];exact he) h1 (h2.trans py) h3
 ·rw [<- hg,<- hos] at this
  exact this
 ·have hb:=k b o z
  have hlt:b < s'.heap.objs.size:=Heap.lt_size hb
  rw [sortedHeap_old (zKU hlt) (by rw [size_push'];exact Nat.lt_succ_of_lt hlt),Heap.get?_push_ne _ _ _ (zKU hlt)]
  exact hb
end
theorem Inv.anyDrawn {X:Cx} {qp:LAO} {σ:List (Option V)} {H:Hp} {s:Shared} (d:Drawn) (I:Inv X qp σ H s):Inv X qp σ H { s with drawn:=d }:=
 ⟨I.ok,I.os,I.bare,I.base,I.loc,I.cell,I.free,I.freeC,I.pin,I.hok,I.len⟩
theorem lC (val:Nat->Str) (k:Str):∀ i,(xM val i).any (· == k)=true ↔ ∃ j,j < i/\val j=k
 | 0=>⟨fun h=>(by cases h),fun ⟨j,h,_⟩=>absurd h (Nat.not_lt_zero _)⟩
 | i + 1=>by
  rw [sK,Bool.or_eq_true,lC val k i]
  constructor
  ·rintro (⟨j,h,e⟩ | h)
   ·exact ⟨j,Nat.lt_succ_of_lt h,e⟩
   ·exact ⟨i,Nat.lt_succ_self _,(eq_of_beq h).symm⟩
  ·rintro ⟨j,h,e⟩
   rcases Nat.lt_or_ge j i with hj | hj
   ·exact .inl ⟨j,hj,e⟩
   ·have:j=i:=Nat.le_antisymm (Nat.le_of_lt_succ h) hj
    subst this
    exact .inr (by rw [e];exact beq_self_eq_true k)
def kS (P:Program) (w:World) (a:Addr) (zs:List Str):HO:=.ext fun h=>oN P w h a (fun i=>zs.getD i Str.empty) zs.length (uQ w)
section
variable {X:Cx}
theorem nX (hc:X.calm=true):xK X (.type "set") (fun xs H Q=>∃ (a:Addr) (zs:List Str),xs=[.ref a]/\H a=some (.lst (zs.map V.str))/\zs.length < 1000/\∀ p,H p=none->Q (.ref p) (upd H p (kS X.prog X.w p zs))):=by
 intro qp s σ H xs us Q I r h
 obtain ⟨a,zs,rfl,hA,hz,q⟩:=h
 obtain ⟨u,rfl,rx⟩:=uH r
 cases rx
 obtain ⟨its,r',pl,hzl⟩:=I.list (.of hA)
 have hst:=vH r'
 have hl:its.length=zs.length:=by have:=r'.length;rw [zJ3] at this;exact this.symm
 have hsz:its.toArray.size=zs.length:=by rw [zKB];exact hl
 refine i5 (I.ok.hd hc) pl.isList (bY hst) (by rw [hsz];unfold scanBound;omega) fun g tk hS old=>?_
 rw [hsz] at hS
 have k:∀ b o,s.heap.get? b=some o->g.get? b=some o:=fun b o z=>old b o (Heap.lt_size z) z
 refine ⟨.ref s.heap.objs.size,_,I.laid (t':=tk) (h':=g) (o:=kS X.prog X.w s.heap.objs.size zs) k (zKC _) ⟨hS,?_,fun h1 h2 x st=>rB x st⟩,rfl,q _ (I.hok.fresh (zKC _))⟩
 obtain ⟨o,_,_,_,ho,_⟩:=hS
 exact ⟨o,ho⟩
theorem lO (hc:X.calm=true):xK X (.builtin "sorted") (fun xs H Q=>∃ (p:Addr) (zs:List Str),xs=[.ref p]/\H p=some (kS X.prog X.w p zs)/\zs.length < 64 /\
  ∀ (l:Addr) (ys:List Str),H l=none->(∀ y,y ∈ ys ↔ y ∈ zs)->ys.length=tK zs->Asc ltS ys->Q (.ref l) (upd H l (.lst (ys.map V.str)))):=by
 intro qp s σ H xs us Q I r h
 obtain ⟨p,zs,rfl,hP,hz,q⟩:=h
 obtain ⟨u,rfl,rx⟩:=uH r
 cases rx
 obtain ⟨hS,_,_⟩:=I.hok p _ hP
 obtain ⟨o,es,ep,t,ho,hex,hd,hel,hmem,hb,hf,hn,hled,hpl⟩:=hS
 have le:=sJ (fun i=>zs.getD i Str.empty) zs.length
 have en:es.size=tK zs:=hn
 have hsh:∀ v ∈ es.toList.map (·.2),∃ x t,v=.str x t:=by
  intro v hv
  obtain ⟨e,he,rfl⟩:=List.mem_map.mp hv
  obtain ⟨⟨k,hk,_⟩,_⟩:=hel e he
  obtain ⟨t,q⟩:=Value.isStrOf_shape hk
  exact ⟨k,t,q⟩
 have hst:=strsAre_map (es.toList.map (·.2)) hsh
 refine iX (I.ok.hd hc) ho hex hd hf hled hpl (by rw [hn];omega) hst fun h' d tk l e out ss k hl hat hss pm so=>?_
 have ls:ss.length=es.size:=by rw [pm.length_eq,zJ3,zJ3,Array.length_toList]
 have J:=(I.laid (a:=l) (t':=tk) (h':=h') (o:=.lst (ss.map V.str)) k hl ⟨by rw [zJ3,ls,sizeLine_eq];omega,out,e,sV hss,hat⟩).anyDrawn d
 refine ⟨.ref l,_,J,rfl,q l ss (I.hok.fresh hl) (fun y=>?_) (ls.trans en) (qW _ so)⟩
 have h1:y ∈ ss ↔ ∃ e ∈ es.toList,(PySem.strKind X.prog X.w).is y e.2=true:=by
  rw [pm.mem_iff,zKN,List.mem_map]
  constructor
  ·rintro ⟨e,he,q⟩
   obtain ⟨x,t,ex⟩:=hsh e.2 (List.mem_map.mpr ⟨e,he,rfl⟩)
   refine ⟨e,he,?_⟩
   show Value.isStrOf y e.2=true
   have:strOf e.2=y:=q
   rw [ex] at this ⊢
   rw [show x=y from this]
   exact beq_self_eq_true y
  ·rintro ⟨e,he,q⟩
   obtain ⟨t,ex⟩:=Value.isStrOf_shape q
   exact ⟨e,he,by show strOf e.2=y;rw [ex];rfl⟩
 rw [h1,<- hmem y,lC]
 constructor
 ·rintro ⟨j,hj,q⟩
  rw [<- q,zJ8,zJ4 hj]
  exact List.getElem_mem hj
 ·intro hy
  obtain ⟨j,hj,q⟩:=List.getElem_of_mem hy
  exact ⟨j,hj,by rw [zJ8,zJ4 hj];exact q⟩
end
section
variable {X:Cx}
theorem lP:xK X (.builtin "len") (fun xs H Q=>∃ (p:Addr) (zs:List Str),xs=[.ref p]/\H p=some (kS X.prog X.w p zs)/\zs.length < 1000/\Q (.int (tK zs)) H):=by
 intro qp s σ H xs us Q I r h
 obtain ⟨p,zs,rfl,hP,hz,q⟩:=h
 obtain ⟨u,rfl,rx⟩:=uH r
 cases rx
 obtain ⟨hS,_,_⟩:=I.hok p _ hP
 obtain ⟨o,es,ep,t,ho,hex,hd,hel,hmem,hb,hf,hn,_⟩:=hS
 have le:=sJ (fun i=>zs.getD i Str.empty) zs.length
 have en:es.size=tK zs:=hn
 have lm:tK zs <= zs.length:=le
 refine call_len_set ho hex hd hf (by rw [en];omega) ⟨.int (tK zs),H,I.tok _,⟨s.toks + 1,by rw [en]⟩,q⟩
end
end L2
namespace K83
open PySem L2
section
variable {P:Program} {w:World} {K:W.Frag} {mg:Str->Option Value} {base:Heap} {C:Addr}
structure Pl (K:W.Frag) (H:Hp) (v:V):Prop where
 pt:∃ T,yK K H v T
 sz:∀ z,v=.str z->z.length <= 100000
def Dp (K:W.Frag) (H:Hp):Nat->V->Prop
 | 0,v=>Pl K H v
 | n + 1,v=>Pl K H v/\∀ a,v=.ref a->∀ us,H a=some (.lst us) \/ H a=some (.tup us)->us.length < 60/\∀ u ∈ us,Dp K H n u
theorem Dp.pl {K:W.Frag} {H:Hp}:∀ {n:Nat} {v:V},Dp K H n v->Pl K H v
 | 0,_,h=>h
 | _ + 1,_,h=>h.1
theorem Pl.keep {K:W.Frag} {H H':Hp} {v:V} (p:Pl K H v) (k:zD [] H H'):Pl K H' v:=
 let ⟨T,h⟩:=p.pt
 ⟨⟨T,h.keep k⟩,p.sz⟩
def zCM (H:Hp) (v:V) (zs:List Str):Prop:=∃ a,v=.ref a/\H a=some (.lst (zs.map V.str))/\∀ z ∈ zs,yB z
theorem dP {z:Str} (h:xV z=true):yB z:=by
 refine ⟨h,?_⟩
 unfold xV at h
 simp only [Bool.and_eq_true,decide_eq_true_eq] at h
 exact h.1.2
theorem n9:∀ (us:List V),us.all vJ=true->∃ zs,us=List.map V.str zs/\∀ z ∈ zs,yB z
 | [],_=>⟨[],rfl,fun z h=>absurd h zKX⟩
 | u :: us,h=>by
  rw [List.all_cons,Bool.and_eq_true] at h
  obtain ⟨zs,rfl,g⟩:=n9 us h.2
  cases u with
  | str z=>
   refine ⟨z :: zs,rfl,fun y hy=>?_⟩
   rcases List.mem_cons.mp hy with rfl | hy
   ·exact dP h.1
   ·exact g y hy
  | _=>exact absurd h.1 (by show ¬ (false=true);decide)
theorem c6 {zs:List Str} (g:∀ z ∈ zs,yB z):(zs.map V.str).all vJ=true:=by
 rw [List.all_map,List.all_eq_true]
 exact fun z hz=>(g z hz).1
def fX (K:W.Frag):Sp:=fun vs H Q _=>∃ v,vs=[v]/\Dp K H 1 v/\∀ (b:Bool) (H':Hp),(b=true ↔ ∃ zs,zCM H v zs)->zD [] H H'->Q (.bl b) H'
theorem zDX (G:yD K mg "are_names" jA ["thing"]) (CI:Cal P w K mg base CX0 1 "is_name" ["thing"] (iV K)) (b_isinstance:Blt mg "isinstance") (b_list:Blt mg "list") (b_all:Blt mg "all"):Cal P w K mg base CX0 2 "are_names" ["thing"] (fX K):=by
 refine G.ok zGT (fun vs H Q E h=>by obtain ⟨v,rfl,_⟩:=h;rfl) (fun f cdv A outer s H vs Q E hr h=>?_)
 obtain ⟨v,rfl,dp,q⟩:=h
 have hr1:zX 1 _:=hr
 refine ⟨_,(zJ (zT (vQ (zM xO b_isinstance yF (zA (pv 0) (zA (pF b_list sP) zB))) (vP (zM (vY rfl) b_all rN (zA (wM (N:=["thing"]) (sc:=zF jA) (ix:=[]) (by decide +kernel) (yY (pv 0)) (fun _ _ _ _=>xB) (fun _ _ _ _=>(zK CI hr1 (zA (pv 0) zB)))) zB)))))),?_⟩
 obtain ⟨T,pt⟩:=dp.pl.pt
 refine ⟨_,rfl,_,_,_,_,rfl,pt.ty,pt.kit.2.2.2.1,_,rfl,?_⟩
 have no:(∀ a us,v=.ref a->H a ≠ some (.lst us))->Q (.bl false) H:=fun h=>q false H (iff_of_false (by decide) (fun ⟨zs,a,e1,e2,_⟩=>h a _ e1 e2)) (zD.refl _)
 cases pt with
 | @lst a us ha=>
  obtain ⟨lu,du⟩:=dp.2 a rfl us (.inl ha)
  refine ifT rfl ?_
  refine ⟨_,rfl,a,rfl,⟨_,.of ha⟩,fun acc hacc=>?_⟩
  have aa:a ≠ acc:=zH ha hacc
  refine vV (K:=K) (a:=a) (its:=us) (by rw [sizeLine_eq];omega) (fun i ys τ H1=>∃ k:Option V,τ=[k]/\ys=((us.take i).map vJ).map V.bl/\zD [acc] H H1/\H1 acc=some (.lst ys)) ?_ ?_ ?_ ?_
  ·exact ⟨_,rfl,rfl,zD.at (by simp),zC⟩
  ·rintro i ys τ H1 ⟨k,rfl,rfl,kp,h1⟩
   exact ⟨h1,by simp;omega,.of (kp _ _ (by simp [aa]) ha)⟩
  ·rintro i ys τ H1 x hx ⟨k,rfl,rfl,kp,h1⟩
   have px:=du x (zJ7 hx)
   obtain ⟨Tx,ptx⟩:=Pl.pt px
   have ptx':yK K H1 x Tx:=by
    cases ptx with
    | non=>exact .non
    | bl b=>exact .bl b
    | int i=>exact .int i
    | str z=>exact .str z
    | lst e=>exact .lst (kp _ _ (by simp [zH e hacc]) e)
    | tup e=>exact .tup (kp _ _ (by simp [zH e hacc]) e)
    | dK e=>exact .dK (kp _ _ (by simp [zH e hacc]) e)
   refine ⟨_,rfl,x,Tx,rfl,ptx',Pl.sz px,fun H2 k2=>⟨k2 _ _ (by simp) h1,_,rfl,?_,(kp.trans (k2.mono (by simp))).trans (zD.at (by simp)),zC⟩⟩
   rw [List.take_add_one,hx,zKF,zKF];rfl
  ·rintro ys τ H1 ⟨k,rfl,rfl,kp,h1⟩
   rw [zKS (zKC _)] at h1
   refine ⟨acc,us.map vJ,rfl,.of h1,?_⟩
   rw [uF]
   refine q _ _ ⟨fun h=>?_,fun ⟨zs,a',e1,e2,g⟩=>?_⟩ (kp.drop hacc)
   ·obtain ⟨zs,rfl,g⟩:=n9 us h
    exact ⟨zs,a,rfl,ha,g⟩
   ·cases e1
    rw [ha] at e2;cases e2
    exact c6 g
 | tup e=>exact ifF rfl (no fun a us h1 h2=>by cases h1;rw [e] at h2;cases h2)
 | dK e=>exact ifF rfl (no fun a us h1 h2=>by cases h1;rw [e] at h2;cases h2)
 | _=>exact ifF rfl (no fun a us h1 h2=>by cases h1)
theorem zA1 {val:Nat->Str} {n i j:Nat} (hi:i < j) (hj:j < n) (e:val i=val j):(xM val n).length < n:=by
 induction n with
 | zero=>exact absurd hj (Nat.not_lt_zero _)
 | succ n ih=>
  rcases Nat.lt_or_ge j n with h | h
  ·have:=ih h
   rw [vU]
   split <;> omega
  ·have:j=n:=by omega
   subst this
   rw [vU,if_pos ((lC val (val j) j).mpr ⟨i,hi,e⟩)]
   have:=sJ val j
   omega
theorem pO {zs:List Str} (h:tK zs=zs.length):zs.Nodup:=by
 rw [List.nodup_iff_pairwise_ne,List.pairwise_iff_getElem]
 intro i j hi hj hij e
 have:=zA1 (val:=fun i=>zs.getD i Str.empty) hij hj (by
  show zs.getD i Str.empty=zs.getD j Str.empty
  rw [zJ8,zJ8,zJ4 hi,zJ4 hj,e])
 unfold tK at h
 omega
def b6:Sp:=fun vs H Q _=>∃ (a:Addr) (zs:List Str),vs=[.ref a]/\H a=some (.lst (zs.map V.str))/\zs.length < 1000/\∀ (b:Bool) (H':Hp),(b=true ↔ zs.Nodup)->zD [] H H'->Q (.bl b) H'
theorem zHC (G:yD K mg "are_unlike" zC3 ["names"]) (b_len:Blt mg "len") (b_set:Blt mg "set"):Cal P w K mg base CX0 1 "are_unlike" ["names"] b6:=by
 refine G.ok zIS (fun vs H Q E h=>by obtain ⟨a,zs,rfl,_⟩:=h;rfl) (fun f cdv A outer s H vs Q E hr h=>?_)
 obtain ⟨a,zs,rfl,ha,lz,q⟩:=h
 refine ⟨_,(zJ (zT (wF tJ (zM lP b_len yH (zA (wA (nX rfl) rfl b_set.no zB5 (zA (pv 0) zB)) zB)) (zM zU b_len yH (zA (pv 0) zB)) (z6 _)))),?_⟩
 refine ⟨_,rfl,a,zs,rfl,ha,lz,fun p hp=>⟨p,zs,rfl,zC,lz,?_⟩⟩
 have k1:zD [] H (upd H p (kS P w p zs)):=zD.new hp
 refine ⟨_,rfl,_,_,rfl,.inl ⟨_,.of (k1 _ _ (by simp) ha),rfl⟩,rfl,?_⟩
 rw [zJ3]
 refine q _ _ ⟨fun h=>pO ?_,fun h=>zKI (by rw [rR h])⟩ k1
 have h1:=of_decide_eq_true h
 injection h1 with h1
 exact Int.ofNat.inj h1
def IsHs (H:Hp) (v:V) (zs:List Str):Prop:=zCM H v zs/\zs.Nodup/\1 <= zs.length
theorem zCM.inj {H:Hp} {v:V} {ys zs:List Str} (h:zCM H v ys) (g:zCM H v zs):ys=zs:=by
 obtain ⟨a,rfl,e1,_⟩:=h
 obtain ⟨b,e,e2,_⟩:=g
 cases e
 rw [e1] at e2
 injection e2 with e2
 injection e2 with e2
 exact (List.map_inj_right (fun x y e=>by injection e)).mp e2
def mL (K:W.Frag):Sp:=fun vs H Q _=>∃ v,vs=[v]/\Dp K H 1 v/\∀ (b:Bool) (H':Hp),(b=true ↔ ∃ zs,IsHs H v zs)->zD [] H H'->Q (.bl b) H'
theorem zDY (G:yD K mg "are_houses" eL ["thing"]) (CAN:Cal P w K mg base CX0 2 "are_names" ["thing"] (fX K)) (CAU:Cal P w K mg base CX0 1 "are_unlike" ["names"] b6) (b_len:Blt mg "len"):Cal P w K mg base CX0 3 "are_houses" ["thing"] (mL K):=by
 refine G.ok zGU (fun vs H Q E h=>by obtain ⟨v,rfl,_⟩:=h;rfl) (fun f cdv A outer s H vs Q E hr h=>?_)
 obtain ⟨v,rfl,dp,q⟩:=h
 have hr1:zX 1 _:=hr.mono (by decide)
 have hr2:zX 2 _:=hr
 refine ⟨_,(zJ (zT (vQ (zK CAN hr2 (zA (pv 0) zB)) (vQ (zK CAU hr1 (zA (pv 0) zB)) (vP (wF zI8 (zM zU b_len yH (zA (pv 0) zB)) zG (z6 _))))))),?_⟩
 refine ⟨_,rfl,v,rfl,dp,fun b1 H1 hb1 k1=>⟨_,rfl,?_⟩⟩
 cases b1 with
 | false=>exact ifF rfl (q false H1 (iff_of_false (by decide) (fun ⟨zs,h,_⟩=>by cases hb1.mpr ⟨zs,h⟩)) k1)
 | true=>
  refine ifT rfl ?_
  obtain ⟨zs,hz⟩:=hb1.mp rfl
  obtain ⟨a,rfl,ha,g⟩:=id hz
  have lz:=(dp.2 a rfl _ (.inl ha)).1
  rw [zJ3] at lz
  refine ⟨_,rfl,a,zs,rfl,k1 _ _ (by simp) ha,by omega,fun b2 H2 hb2 k2=>⟨_,rfl,?_⟩⟩
  have k12:=k1.trans k2
  cases b2 with
  | false=>exact ifF rfl (q false H2 (iff_of_false (by decide) (fun ⟨ys,h,nd,_⟩=>by rw [h.inj hz] at nd;cases hb2.mpr nd)) k12)
  | true=>
   refine ifT rfl ⟨_,rfl,_,_,rfl,.inl ⟨_,.of (k12 _ _ (by simp) ha),rfl⟩,_,_,rfl,rfl,?_⟩
   rw [zJ3]
   refine q _ _ ⟨fun h=>⟨zs,hz,hb2.mp rfl,?_⟩,fun ⟨ys,h,_,l⟩=>?_⟩ k12
   ·have:=of_decide_eq_true h
    omega
   ·rw [h.inj hz] at l
    exact zKI (by omega)
def zH9 (H:Hp) (zs:List Str) (u:V) (p:Str × Str):Prop:=∃ t,u=.ref t/\H t=some (.tup (zQ p))/\xN zs p
def m8 (x:V) (zs:List Str):Bool:=vJ x && inV x (zs.map V.str)
theorem qL {x:V} {zs:List Str} (g:∀ z ∈ zs,yB z):m8 x zs=true ↔ ∃ z,x=.str z/\z ∈ zs:=by
 unfold m8
 constructor
 ·intro h
  rw [Bool.and_eq_true] at h
  cases x with
  | str z=>
   refine ⟨z,rfl,?_⟩
   have h2:=h.2
   unfold inV at h2
   rw [List.any_map,List.any_eq_true] at h2
   obtain ⟨y,hy,e⟩:=h2
   have:(y == z)=true:=e
   rw [<- eq_of_beq this];exact hy
  | _=>exact absurd h.1 (by show ¬ (false=true);decide)
 ·rintro ⟨z,rfl,hz⟩
  rw [show vJ (.str z)=true from (g z hz).1,Bool.true_and]
  unfold inV
  rw [List.any_map,List.any_eq_true]
  exact ⟨z,hz,beq_self_eq_true z⟩
def aB (K:W.Frag):Sp:=fun vs H Q _=>∃ (x:V) (a:Addr) (zs:List Str),vs=[x,.ref a]/\Pl K H x/\H a=some (.lst (zs.map V.str))/\∀ H',zD [] H H'->Q (.bl (m8 x zs)) H'
theorem zHJ (G:yD K mg "is_one_of" mS ["thing","houses"]) (CI:Cal P w K mg base CX0 1 "is_name" ["thing"] (iV K)):Cal P w K mg base CX0 2 "is_one_of" ["thing","houses"] (aB K):=by
 refine G.ok zC2 (fun vs H Q E h=>by obtain ⟨x,a,zs,rfl,_⟩:=h;rfl) (fun f cdv A outer s H vs Q E hr h=>?_)
 obtain ⟨x,a,zs,rfl,⟨⟨T,pt⟩,sz⟩,ha,q⟩:=h
 have hr1:zX 1 _:=hr
 refine ⟨_,(zJ (zT (vQ (zK CI hr1 (zA (pv 0) zB)) (vP (wF cU (pv 0) (pv 1) (by with_unfolding_all rfl)))))),?_⟩
 refine ⟨_,rfl,x,T,rfl,pt,sz,fun H1 k1=>⟨_,rfl,?_⟩⟩
 cases e:vJ x with
 | false=>
  have:m8 x zs=false:=by unfold m8;rw [e];rfl
  rw [this] at q
  exact ifF rfl (q H1 k1)
 | true=>
  cases x with
  | str z=>
   have:m8 (.str z) zs=inV (.str z) (zs.map V.str):=by unfold m8;rw [e,Bool.true_and]
   rw [this] at q
   exact ifT rfl ⟨_,rfl,_,rfl,a,_,rfl,.inl (.of (k1 _ _ (by simp) ha)),rfl,bD zs,q H1 k1⟩
  | _=>cases e
def iU (K:W.Frag):Sp:=fun vs H Q _=>∃ (u:V) (a:Addr) (zs:List Str),vs=[u,.ref a]/\Dp K H 1 u/\H a=some (.lst (zs.map V.str))/\(∀ z ∈ zs,yB z)/\∀ (b:Bool) (H':Hp),(b=true ↔ ∃ p,zH9 H zs u p)->zD [] H H'->Q (.bl b) H'
theorem zHG (G:yD K mg "is_tie" zC4 ["thing","houses"]) (CO:Cal P w K mg base CX0 2 "is_one_of" ["thing","houses"] (aB K)) (b_isinstance:Blt mg "isinstance") (b_tuple:Blt mg "tuple") (b_len:Blt mg "len"):Cal P w K mg base CX0 3 "is_tie" ["thing","houses"] (iU K):=by
 refine G.ok aH (fun vs H Q E h=>by obtain ⟨u,a,zs,rfl,_⟩:=h;rfl) (fun f cdv A outer s H vs Q E hr h=>?_)
 obtain ⟨u,a,zs,rfl,dp,ha,gz,q⟩:=h
 have hr2:zX 2 _:=hr
 refine ⟨_,(zE (yW (PW.pt (vB (xT (xF (zM xO b_isinstance yF (zA (pv 0) (zA (pF b_tuple iA) zB))))) (uO (zZ tI (zM zU b_len yH (zA (pv 0) zB)) zG (z6 _))))) (zJ (zT pG)) yE)
   (zE (vO (pv 0) (pE rfl (yO (z4 (i:=2) aH.nd rfl (Or.inl rfl)) (yO (z4 (i:=3) aH.nd rfl (Or.inl rfl)) wR))))
   (zJ (zT (vQ (zK CO hr2 (zA (pv 2) (zA (pv 1) zB))) (vQ (zK CO hr2 (zA (pv 3) (zA (pv 1) zB))) (vP (wF tI (pv 2) (pv 3) (z6 _))))))))),?_⟩
 obtain ⟨T,pt⟩:=dp.pl.pt
 refine ⟨_,rfl,_,_,_,_,rfl,pt.ty,pt.kit.2.2.2.2,_,rfl,?_⟩
 have no:∀ H',zD [] H H'->(∀ t p,u=.ref t->H t ≠ some (.tup (zQ p)))->Q (.bl false) H':=fun H' k h=>q false H' (iff_of_false (by decide) (fun ⟨p,t,e1,e2,_⟩=>h t p e1 e2)) k
 cases pt with
 | @tup t xs ht=>
  refine ifF rfl ?_
  obtain ⟨lx,dx⟩:=dp.2 t rfl xs (.inr ht)
  refine ⟨_,rfl,_,_,rfl,.inr ⟨_,.of ht,rfl⟩,rfl,_,rfl,?_⟩
  by_cases l2:xs.length=2
  ·obtain ⟨x,y,rfl⟩:∃ x y,xs=[x,y]:=by
    match xs,l2 with
    | [x,y],_=>exact ⟨x,y,rfl⟩
   refine ifF (by show (!decide (V.int ((2:Nat):Int)=V.int 2))=false;decide) ?_
   refine ⟨_,rfl,t,_,rfl,.of ht,rfl,_,_,rfl,_,_,rfl,rfl,?_⟩
   have px:Pl K H x:=dx x (by simp)
   have py:Pl K H y:=dx y (by simp)
   have un:∀ p,zH9 H zs (.ref t) p->x=.str p.1/\y=.str p.2:=fun p ⟨t',e1,e2,_⟩=>by
    cases e1
    rw [ht] at e2
    injection e2 with e2;injection e2 with e2;injection e2 with e3 e4;injection e4 with e4 _
    exact ⟨e3,e4⟩
   refine ⟨_,rfl,_,rfl,x,a,zs,rfl,px,ha,fun H1 k1=>⟨_,rfl,?_⟩⟩
   cases e1:m8 x zs with
   | false=>exact ifF rfl (q false H1 (iff_of_false (by decide) (fun ⟨p,h⟩=>by
     have:=(qL gz).mpr ⟨p.1,(un p h).1,h.choose_spec.2.2.1⟩
     rw [e1] at this;cases this)) k1)
   | true=>
    refine ifT rfl ⟨_,rfl,_,rfl,y,a,zs,rfl,py.keep k1,k1 _ _ (by simp) ha,fun H2 k2=>⟨_,rfl,?_⟩⟩
    cases e2:m8 y zs with
    | false=>exact ifF rfl (q false H2 (iff_of_false (by decide) (fun ⟨p,h⟩=>by
      have:=(qL gz).mpr ⟨p.2,(un p h).2,h.choose_spec.2.2.2.1⟩
      rw [e2] at this;cases this)) (k1.trans k2))
    | true=>
     obtain ⟨z1,rfl,m1⟩:=(qL gz).mp e1
     obtain ⟨z2,rfl,m2⟩:=(qL gz).mp e2
     refine ifT rfl ⟨_,rfl,_,rfl,rfl,q _ H2 ⟨fun h=>⟨(z1,z2),t,rfl,ht,m1,m2,fun e=>?_⟩,fun ⟨p,h⟩=>?_⟩ (k1.trans k2)⟩
     ·have e':z1=z2:=e
      subst e'
      exact absurd h (by simp)
     ·obtain ⟨f1,f2⟩:=un p h
      obtain ⟨t',_,_,_,_,ne⟩:=h
      injection f1 with f1;injection f2 with f2
      show (!decide (V.str z1=V.str z2))=true
      rw [f1,f2]
      simpa using ne
  ·refine ifT (by show (!decide (V.int (xs.length:Int)=V.int 2))=true;rw [zKJ (fun e=>l2 (by injection e with e;exact Int.ofNat.inj e))];rfl) (no H (zD.refl _) fun t' p e1 e2=>?_)
   cases e1
   rw [ht] at e2
   injection e2 with e2;injection e2 with e2
   exact l2 (by rw [e2];rfl)
 | lst e=>exact ifT rfl (no H (zD.refl _) fun a p h1 h2=>by cases h1;rw [e] at h2;cases h2)
 | dK e=>exact ifT rfl (no H (zD.refl _) fun a p h1 h2=>by cases h1;rw [e] at h2;cases h2)
 | _=>exact ifT rfl (no H (zD.refl _) fun a p h1 h2=>by cases h1)
end
def Rch (ps:LSS) (a b:Str):Prop:=∀ P:Str->Prop,P a->(∀ t ∈ ps,P t.1 ↔ P t.2)->P b
theorem Rch.refl {ps:LSS} (a:Str):Rch ps a a:=fun _ h _=>h
theorem Rch.trans {ps:LSS} {a b c:Str} (h:Rch ps a b) (h':Rch ps b c):Rch ps a c:=fun P pa e=>h' P (h P pa e) e
theorem Rch.symm {ps:LSS} {a b:Str} (h:Rch ps a b):Rch ps b a:=fun P pb e=>(h (fun x=>P x ↔ P a) Iff.rfl fun t ht=>by rw [e t ht]).mp pb
theorem Rch.tie {ps:LSS} {t:Str × Str} (h:t ∈ ps):Rch ps t.1 t.2:=fun P p e=>(e t h).mp p
theorem Rch.mono {ps qs:LSS} {a b:Str} (h:Rch ps a b) (s:∀ t ∈ ps,t ∈ qs):Rch qs a b:=fun P p e=>h P p fun t ht=>e t (s t ht)
theorem Rch.nil {a b:Str} (h:Rch [] a b):a=b:=h (fun x=>a=x) rfl fun t ht=>by cases ht
structure Lab (zs:List Str) (ps:LSS) (part:Str->Str) (R:List Str):Prop where
 e:∀ x ∈ zs,∀ y ∈ zs,(part x=part y ↔ Rch ps x y)
 nd:R.Nodup
 r:∀ x ∈ zs,part x ∈ R
 l:R.length + ps.length=zs.length
theorem Lab.nil {zs:List Str} (nd:zs.Nodup):Lab zs [] id zs:=
 ⟨fun x _ y _=>⟨fun (h:x=y)=>h ▸ Rch.refl x,fun h=>h.nil⟩,nd,fun x hx=>hx,rfl⟩
def tF (part:Str->Str) (a b:Str):Str->Str:=fun x=>if part x=part a then part b else part x
theorem Lab.step {zs:List Str} {ps:LSS} {part:Str->Str} {R:List Str} (h:Lab zs ps part R) (ti:∀ t ∈ ps,t.1 ∈ zs/\t.2 ∈ zs) {a b:Str} (ha:a ∈ zs) (hb:b ∈ zs) (no:¬ Rch ps a b):Lab zs (ps ++ [(a,b)]) (tF part a b) (R.erase (part a)):=by
 have nab:part a ≠ part b:=fun e=>no ((h.e a ha b hb).mp e)
 have sub:∀ t ∈ ps,t ∈ ps ++ [(a,b)]:=fun t ht=>List.mem_append_left _ ht
 have tab:Rch (ps ++ [(a,b)]) a b:=Rch.tie (t:=(a,b)) (by simp)
 refine ⟨fun x hx y hy=>⟨fun e=>?_,fun hr=>?_⟩,h.nd.erase _,fun x hx=>?_,?_⟩
 ·unfold tF at e
  by_cases ex:part x=part a <;> by_cases ey:part y=part a
  ·exact ((h.e x hx y hy).mp (ex.trans ey.symm)).mono sub
  ·rw [if_pos ex,if_neg ey] at e
   exact (((h.e x hx a ha).mp ex).mono sub).trans (tab.trans (((h.e b hb y hy).mp e).mono sub))
  ·rw [if_neg ex,if_pos ey] at e
   exact (((h.e x hx b hb).mp e).mono sub).trans (tab.symm.trans (((h.e a ha y hy).mp ey.symm).mono sub))
  ·rw [if_neg ex,if_neg ey] at e
   exact ((h.e x hx y hy).mp e).mono sub
 ·refine hr (fun z=>tF part a b x=tF part a b z) rfl fun t ht=>?_
  rcases zKK.mp ht with q | q
  ·obtain ⟨t1,t2⟩:=ti t q
   have e:part t.1=part t.2:=(h.e _ t1 _ t2).mpr (Rch.tie q)
   unfold tF
   rw [e]
  ·rw [zJ6.mp q]
   show tF part a b x=tF part a b a ↔ tF part a b x=tF part a b b
   have e1:tF part a b a=part b:=if_pos rfl
   have e2:tF part a b b=part b:=if_neg (Ne.symm nab)
   rw [e1,e2]
 ·unfold tF
  by_cases ex:part x=part a
  ·rw [if_pos ex]
   exact (List.mem_erase_of_ne (Ne.symm nab)).mpr (h.r b hb)
  ·rw [if_neg ex]
   exact (List.mem_erase_of_ne ex).mpr (h.r x hx)
 ·have h1:=List.length_erase_of_mem (h.r a ha)
  have h2:=List.length_pos_of_mem (h.r a ha)
  have h3:=h.l
  rw [zKL,h1]
  show R.length - 1 + (ps.length + 1)=_
  omega
theorem Lab.few {zs:List Str} {ps:LSS} {part:Str->Str} {R:List Str} (h:Lab zs ps part R) (ne:zs ≠ []):ps.length + 1 <= zs.length:=by
 obtain ⟨x,hx⟩:=List.exists_mem_of_ne_nil zs ne
 have h2:=List.length_pos_of_mem (h.r x hx)
 have h3:=h.l
 omega
theorem Lab.conn {zs:List Str} {ps:LSS} {part:Str->Str} {R:List Str} (h:Lab zs ps part R) (e:ps.length + 1=zs.length):iI zs ps:=by
 have l1:R.length=1:=by have:=h.l;omega
 obtain ⟨r,rfl⟩:=List.length_eq_one_iff.mp l1
 intro P z0 hz p0 each z hz'
 have e1:=zJ6.mp (h.r z0 hz)
 have e2:=zJ6.mp (h.r z hz')
 exact (h.e z0 hz z hz').mp (e1.trans e2.symm) P p0 each
def spW:Str->List Str:=fun z=>Txt.split z ⟨#[32]⟩
def xA (zs:List Str) (ps:LSS) (line:Str) (p:Str × Str):Prop:=spW line=[("tie" : Str),p.1,p.2]/\xN zs p/\ltS p.1 p.2=true/\(∀ q,ps.getLast?=some q->ltP q p=true)/\¬ Rch ps p.1 p.2
def xI (zs ts:List Str) (ps:LSS):Prop:=ps.length=ts.length/\∀ (i:Nat) (t:Str) (p:Str × Str),ts[i]?=some t->ps[i]?=some p->xA zs (ps.take i) t p
def t7 (line:Str) (zs:List Str):Prop:=spW line=("tree" : Str) :: zs/\(∀ z ∈ zs,yB z)/\zs.Nodup/\zs ≠ []/\Asc ltS zs
theorem xI.nil {zs:List Str}:xI zs [] []:=⟨rfl,fun i t p h=>by simp at h⟩
theorem xI.snoc {zs ts:List Str} {ps:LSS} {t:Str} {p:Str × Str} (h:xI zs ts ps) (s:xA zs ps t p):xI zs (ts ++ [t]) (ps ++ [p]):=by
 refine ⟨by rw [zKL,zKL,h.1];rfl,fun i u q hu hq=>?_⟩
 rcases Nat.lt_trichotomy i ps.length with il | il | il
 ·rw [zKR (by rw [<- h.1];exact il)] at hu
  rw [zKR il] at hq
  rw [List.take_append_of_le_length (Nat.le_of_lt il)]
  exact h.2 i u q hu hq
 ·subst il
  rw [zKQ (zKC _),Nat.sub_self] at hq
  rw [h.1,zKQ (zKC _),Nat.sub_self] at hu
  obtain rfl:t=u:=zKA hu
  obtain rfl:p=q:=zKA hq
  rw [List.take_append_of_le_length (zKC _),zK3]
  exact s
 ·have:=(zJ5.mp hq).1
  rw [zKL] at this
  simp at this
  omega
theorem xI.ties {zs ts:List Str} {ps:LSS} (h:xI zs ts ps):∀ p ∈ ps,xN zs p:=fun p hp=>by
 obtain ⟨i,hi⟩:=List.getElem?_of_mem hp
 have il:i < ts.length:=by rw [<- h.1];exact (zJ5.mp hi).1
 exact (h.2 i ts[i] p (zJ4 il) hi).2.1
theorem xI.lab {zs:List Str} (nd:zs.Nodup):∀ (n:Nat) {ts:List Str} {ps:LSS},ps.length=n->xI zs ts ps->∃ part R,Lab zs ps part R
 | 0,ts,ps,hn,h=>by
  obtain rfl:=List.length_eq_zero_iff.mp hn
  exact ⟨_,_,Lab.nil nd⟩
 | n + 1,ts,ps,hn,h=>by
  obtain ⟨qs,q,rfl⟩:∃ qs q,ps=qs ++ [q]:=by
   rcases List.eq_nil_or_concat ps with e | ⟨l,b,e⟩
   ·rw [e] at hn;simp at hn
   ·exact ⟨l,b,by rw [e];simp⟩
  have hl:qs.length=n:=by rw [zKL] at hn;simpa using hn
  have h':xI zs (ts.take n) qs:=by
   refine ⟨by rw [zKM,<- h.1,zKL,hl];simp,fun i t p ht hp=>?_⟩
   have il:=(zJ5.mp hp).1
   rw [List.getElem?_take_of_lt (by omega)] at ht
   have:=h.2 i t p ht (by rw [zKR il];exact hp)
   rw [List.take_append_of_le_length (Nat.le_of_lt il)] at this
   exact this
  obtain ⟨part,R,lb⟩:=xI.lab nd n hl h'
  have nt:n < ts.length:=by rw [<- h.1,zKL,hl];simp
  have s:=h.2 n ts[n] q (zJ4 nt) (by rw [<- hl,zKQ (zKC _),Nat.sub_self];rfl)
  rw [show (qs ++ [q]).take n=qs by rw [<- hl,List.take_append_of_le_length (zKC _),zK3]] at s
  exact ⟨_,_,lb.step (fun t ht=>⟨(h'.ties t ht).1,(h'.ties t ht).2.1⟩) s.2.1.1 s.2.1.2.1 s.2.2.2.2⟩
theorem bZ {zs:List Str} {ps qs:LSS} {t:Str} {p q:Str × Str} (h:xA zs ps t p) (h':xA zs qs t q):p=q:=by
 have e:=h.1.symm.trans h'.1
 injection e with _ e
 injection e with e1 e
 injection e with e2 _
 exact Prod.ext e1 e2
theorem aR {zs rest:List Str} {i j:Nat} {ps qs:LSS} (h:xI zs (rest.take i) ps) (h':xI zs (rest.take j) qs) (hi:i <= rest.length) (hj:j <= rest.length) (ij:i <= j):ps=qs.take i:=by
 have l1:=h.1
 have l2:=h'.1
 rw [zKM] at l1 l2
 refine List.ext_getElem? fun k=>?_
 by_cases hk:k < i
 ·rw [List.getElem?_take_of_lt hk]
  have kl:k < rest.length:=by omega
  have a:=h.2 k rest[k] (ps[k]'(by omega)) (by rw [List.getElem?_take_of_lt hk,zJ4 kl]) (zJ4 (by omega))
  have b:=h'.2 k rest[k] (qs[k]'(by omega)) (by rw [List.getElem?_take_of_lt (by omega),zJ4 kl]) (zJ4 (by omega))
  rw [zJ4 (by omega),zJ4 (by omega),bZ a b]
 ·rw [List.getElem?_eq_none (by omega),List.getElem?_eq_none (by rw [zKM];omega)]
inductive Res where
 | num (n:Nat)
 | tree (zs:List Str) (ps:LSS)
inductive Out (ts:List Str):Res->Prop
 | first {l:Str} {rest:List Str} (e:ts=l :: rest) (no:¬ ∃ zs,t7 l zs):Out ts (.num 0)
 | line {l t:Str} {rest zs:List Str} {ps:LSS} {i:Nat} (e:ts=l :: rest) (hs:t7 l zs) (rd:xI zs (rest.take i) ps) (ht:rest[i]?=some t) (no:¬ ∃ p,xA zs ps t p):Out ts (.num (i + 1))
 | few {l:Str} {rest zs:List Str} {ps:LSS} (e:ts=l :: rest) (hs:t7 l zs) (rd:xI zs rest ps) (ne:ps.length + 1 ≠ zs.length):Out ts (.num ts.length)
 | tree {l:Str} {rest zs:List Str} {ps:LSS} (e:ts=l :: rest) (hs:t7 l zs) (rd:xI zs rest ps) (eq:ps.length + 1=zs.length):Out ts (.tree zs ps)
theorem uS {l:Str} {zs zs':List Str} (h:t7 l zs) (h':t7 l zs'):zs=zs':=by
 have e:=h.1.symm.trans h'.1
 injection e
theorem rE {zs rest:List Str} {i j:Nat} {t:Str} {ps qs:LSS} (h:xI zs (rest.take i) ps) (ht:rest[i]?=some t) (no:¬ ∃ p,xA zs ps t p) (h':xI zs (rest.take j) qs) (hj:j <= rest.length):j <= i:=by
 refine Nat.le_of_not_lt fun ij=>no ?_
 have il:=(zJ5.mp ht).1
 have e:=aR h h' (by omega) hj (by omega)
 have l2:=h'.1
 rw [zKM] at l2
 have s:=h'.2 i t (qs[i]'(by omega)) (by rw [List.getElem?_take_of_lt ij];exact ht) (zJ4 (by omega))
 rw [<- e] at s
 exact ⟨_,s⟩
theorem u7 {ts:List Str} {r r':Res} (h:Out ts r) (h':Out ts r'):r=r':=by
 have all:∀ rest:List Str,rest=rest.take rest.length:=fun rest=>(zK3).symm
 cases h with
 | first e no=>
  subst e
  cases h' with
  | first=>rfl
  | line e' hs=>injection e' with e1 _;exact absurd ⟨_,e1 ▸ hs⟩ no
  | few e' hs=>injection e' with e1 _;exact absurd ⟨_,e1 ▸ hs⟩ no
  | tree e' hs=>injection e' with e1 _;exact absurd ⟨_,e1 ▸ hs⟩ no
 | @line l t rest zs ps i e hs rd ht no=>
  subst e
  have il:=(zJ5.mp ht).1
  cases h' with
  | first e' no'=>injection e' with e1 _;exact absurd ⟨_,e1 ▸ hs⟩ no'
  | line e' hs' rd' ht' no'=>
   injection e' with e1 e2
   subst e1 e2
   obtain rfl:=uS hs hs'
   have il':=(zJ5.mp ht').1
   have a:=rE rd ht no rd' (by omega)
   have b:=rE rd' ht' no' rd (by omega)
   rw [Nat.le_antisymm a b]
  | few e' hs' rd'=>
   injection e' with e1 e2
   subst e1 e2
   obtain rfl:=uS hs hs'
   rw [all rest] at rd'
   have:=rE rd ht no rd' (zKC _)
   omega
  | tree e' hs' rd'=>
   injection e' with e1 e2
   subst e1 e2
   obtain rfl:=uS hs hs'
   rw [all rest] at rd'
   have:=rE rd ht no rd' (zKC _)
   omega
 | @few l rest zs ps e hs rd ne=>
  have e0:=e
  subst e
  rw [all rest] at rd
  cases h' with
  | first e' no'=>injection e' with e1 _;exact absurd ⟨_,e1 ▸ hs⟩ no'
  | line e' hs' rd' ht' no'=>
   injection e' with e1 e2
   subst e1 e2
   obtain rfl:=uS hs hs'
   have il':=(zJ5.mp ht').1
   have:=rE rd' ht' no' rd (zKC _)
   omega
  | few=>rfl
  | tree e' hs' rd' eq=>
   injection e' with e1 e2
   subst e1 e2
   obtain rfl:=uS hs hs'
   have l1:=rd.1
   rw [<- all rest] at l1
   have l2:=rd'.1
   omega
 | @tree l rest zs ps e hs rd eq=>
  subst e
  rw [all rest] at rd
  cases h' with
  | first e' no'=>injection e' with e1 _;exact absurd ⟨_,e1 ▸ hs⟩ no'
  | line e' hs' rd' ht' no'=>
   injection e' with e1 e2
   subst e1 e2
   obtain rfl:=uS hs hs'
   have il':=(zJ5.mp ht').1
   have:=rE rd' ht' no' rd (zKC _)
   omega
  | few e' hs' rd' ne=>
   injection e' with e1 e2
   subst e1 e2
   obtain rfl:=uS hs hs'
   have l1:=rd.1
   rw [<- all rest] at l1
   have l2:=rd'.1
   omega
  | tree e' hs' rd' eq'=>
   injection e' with e1 e2
   subst e1 e2
   obtain rfl:=uS hs hs'
   rw [all rest] at rd'
   have e:=aR rd rd' (zKC _) (zKC _) (zKC _)
   have l2:=rd'.1
   rw [<- all rest] at l2
   rw [<- l2,zK3] at e
   rw [e]
end K83
namespace L2
open PySem PySem.Spec PyProof.Rows PySem.W
def lK (K:Frag) (C:Addr) (bmB:List Value) (newId:String) (fI:Addr):Bool:=
 match K.lookup C with
 | some ⟨.type "type",_,.cls cd,sl⟩=>
  (match cd.mro,sl.toList with
   | .ref C' :: bm,[_,_,_,_,some (.builtin n),_]=>
    C' == C && n == newId && !cd.hasDel && tailIn K bmB bm && nsOkIn K cd.ns && nsIn K cd.ns "__init__" == some (some (.ref fI)) && typeIn K (.ref fI) == some (.type "function")
   | _,_=>false)
 | _=>false
theorem zD1 {K:Frag} {h:Heap} {N:Addr} {m:Str->Option Value} {x:Str} {v:Value} (X:K.In h) (G:h.Ns N m) (e:nsIn K N x=some (some v)):m x=some v:=by
 obtain ⟨o,es,ep,ho,hd,_,hf⟩:=G
 unfold nsIn at e
 split at e
 ·rename_i q
  cases (X _ _ q).symm.trans ho
  cases hd
  split at e
  ·rename_i z
   cases e
   exact (hf x).symm.trans (by show nsFind _ _=_;unfold nsFind findBy;rw [<- Array.find?_toList,z];rfl)
  ·split at e <;> cases e
 ·cases e
theorem pW {K:Frag} {h:Heap} {C fI:Addr} {bmB:List Value} {newId:String} (X:K.In h) (q:lK K C bmB newId fI=true) :
  ∃ bm N nm qn bs hdct sn sub ab col dd k0 k1 k2 k3 k5,∃ mN:Str->Option Value,h.get? C=some (excClassObj nm qn C N bs bm hdct sn sub ab col dd k0 k1 k2 k3 k5 newId)/\h.Ns N mN/\mN "__init__"=some (.ref fI)/\OwnTail h bmB bm/\∃ oI,h.get? fI=some oI/\oI.cls=.type "function":=by
 unfold lK at q
 split at q
 ·rename_i dd cd sl hk
  split at q
  ·rename_i C' bm k0 k1 k2 k3 n k5 e1 e2
   simp only [Bool.and_eq_true,beq_iff_eq,Bool.not_eq_true'] at q
   obtain ⟨⟨⟨⟨⟨⟨r1,r2⟩,r3⟩,r4⟩,r5⟩,r6⟩,r7⟩:=q
   subst r1 r2
   cases cd with
   | mk nm bs mro ns qn hdc sn sub ab col del=>
    dsimp only at e1 r3 r5 r6
    subst e1 r3
    have esl:sl = #[k0,k1,k2,k3,some (.builtin n),k5]:=by
     cases sl with
     | mk l=>
      dsimp only at e2
      rw [e2]
    subst esl
    have N0:h.Ns ns (h.nsMap ns):=.of_isNs (isNs_of_in X r5)
    refine ⟨bm,ns,nm,qn,bs,hdc,sn,sub,ab,col,dd,k0,k1,k2,k3,k5,_,X _ _ hk,N0,zD1 X N0 r6,tail_of_in X r4,?_⟩
    obtain ⟨o,ho,e⟩:=Option.map_eq_some_iff.mp (show (K.lookup fI).map (·.cls)=some (.type "function") from r7)
    exact ⟨o,X _ _ ho,e⟩
  ·cases q
 ·cases q
section
variable {prog:Program} {w:World} {A:Around} {E:VSP} {h:Heap} {g:Array GenState} {d:Drawn} {t:Nat} {os:OsState}
variable {nm qn:Str} {C N:Addr} {bs bm bmB:List Value} {hdct:Bool} {sn:List Str} {sub:List Value} {ab:Bool} {col:Option Bool} {dd:Option Addr} {k0 k1 k2 k3 k5:Option Value} {B newId initId:String}
theorem gD (F:ExcBaseFacts B newId initId bmB) (T:OwnTail h bmB bm) {mN:Str->Option Value} {rest:List Value} {fI:Addr} {oI:Obj} {Q:Fin->Shared->Prop}
  (hC:h.get? C=some (excClassObj nm qn C N bs bm hdct sn sub ab col dd k0 k1 k2 k3 k5 newId)) (hn:h.Ns N mN) (hi:mN "__init__"=some (.ref fI)) (hfI:h.get? fI=some oI) (hfc:oI.cls=.type "function") (hrest:rest.length <= sizeLine)
  (hq:∀ h' e,Heap.MadeExcOf h h' e (.ref C) rest->wpAny (model prog w) A (call (.ref fI) (.ref e :: rest)) (fun r s'=>r=.none/\Q (.done (.ret (.ref e))) s') E ⟨h',g,d,t,os⟩) :
  wpAny (model prog w) A (Builtin.«type.__call__» ⟨.ref C :: rest,[]⟩) Q E ⟨h,g,d,t,os⟩:=by
 repeat (first
  | with_reducible refine wpAny_loadPart_at hC ?_
  | with_reducible refine wpAny_madeBy_exc hC ?_
  | wp_step)
 refine codeAny_call_builtin_code (Code.quiet_builtin _ F.quiet) (wpAny_check_new_subT F T hC (codeAny_exc_new_subT F T hC ?_ hrest))
 show wpAny _ _ _ _ _ _
 generalize eT:({ cls:=.type "tuple",data:=.seq rest.toArray }:Obj)=oT
 generalize eO:({ cls:=.ref C,data:=.fields #[.ref h.objs.size,.none,.none,.none,.bool false,.none] }:Obj)=oE
 have up:∀ b o,h.get? b=some o->((h.push oT).push oE).get? b=some o:=fun b o e=>Heap.get?_push_of_some _ (Heap.get?_push_of_some _ e)
 have gE:((h.push oT).push oE).get? (h.objs.size + 1)=some oE:=by
  rw [<- eO,<- eT];heap_get
 have cE:oE.cls=.ref C:=by rw [<- eO]
 have cc:(Value.ref C :: bm).contains (.ref C)=true:=by simp
 unfold isInstance
 repeat (first
  | (with_reducible refine wpAny_loadPart_at gE ?_;rw [cE])
  | (with_reducible refine wpAny_isSubtype_exc (up _ _ hC) ?_;rw [cc])
  | wp_step)
 show wpAny _ _ (typeLookup (.ref C) _) _ _ _
 refine wpAny_typeLookup_tail (up _ _ hC) (hn.keeps up) (T.keeps up) F.mroIs F.init.lookup ?_
 rw [hi]
 refine wpAny_holding (wpAny_bind ?_)
 unfold bindSpecial
 refine wpAny_bind (wpAny_typeOf (T:="function") ⟨_,up _ _ hfI,hfc⟩ ?_)
 rw [if_pos (by decide)]
 have mk:Heap.MadeExcOf h ((h.push oT).push oE) (h.objs.size + 1) (.ref C) rest:=by
  refine ⟨up,Heap.get?_none_of_le (Nat.le_succ _),h.objs.size,by rw [gE,<- eO],Heap.get?_none_of_le (zKC _),?_⟩
  rw [<- eT]
  exact Heap.get?_push_of_some _ (Heap.get?_push_at rfl rfl)
 refine wpAny_pure (wpAny_bind (wpAny_mono (hq _ _ mk) (fun r s' hr=>?_) fun _ _ x=>x))
 obtain ⟨rfl,hQ⟩:=hr
 wp_walk
 exact hQ
theorem fE (F:ExcBaseFacts B newId initId bmB) (T:OwnTail h bmB bm) {mN:Str->Option Value} {rest:List Value} {fI:Addr} {oI:Obj} {Q:VSP}
  (hC:h.get? C=some (excClassObj nm qn C N bs bm hdct sn sub ab col dd k0 k1 k2 k3 k5 newId)) (hn:h.Ns N mN) (hi:mN "__init__"=some (.ref fI)) (hfI:h.get? fI=some oI) (hfc:oI.cls=.type "function") (hrest:rest.length <= sizeLine)
  (hq:∀ h' e,Heap.MadeExcOf h h' e (.ref C) rest->wpAny (model prog w) (A.under (.builtin "type.__call__" ⟨.ref C :: rest,[]⟩)) (call (.ref fI) (.ref e :: rest)) (fun r s'=>r=.none/\Q (.ref e) s') E ⟨h',g,d,t,os⟩) :
  wpAny (model prog w) A (call (.ref C) rest) Q E ⟨h,g,d,t,os⟩:=by
 have f1:=tc_lookup
 have f2:=tc_bind (.ref C)
 have hT:(⟨h,g,d,t,os⟩:Shared).TypeIs (.ref C) "type":=⟨_,hC,rfl⟩
 refine wpAny_call (codeAny_of_tree ?_)
 show wpAny _ _ (callAny (.ref C) _) _ _ _
 repeat (any_goals (first
  | assumption
  | with_reducible refine wpAny_loadPart_at hC ?_
  | wp_step))
 refine ⟨rfl,codeAny_call_builtin_at (Code.quiet_builtin _ (by decide +kernel)) entry_typeCall (wpAny_check_type_call_sub hC (gD F T hC hn hi hfI hfc hrest fun h' e hm=>?_))⟩
 exact hq h' e hm
end
def jM (C a:Addr) (dc:Option Addr):Heap->Prop:=fun h=>∃ (ob:Obj) (t:Addr),h.get? a=some ob/\iJ ob C dc/\ob.data=.fields #[.ref t,.none,.none,.none,.bool false,.none]
abbrev vG (C a:Addr) (dc:Option Addr):HO:=.ext (jM C a dc)
theorem jM.ok {P:Program} {w:World} {H:Hp} {h:Heap} {C a:Addr} {dc:Option Addr} (p:jM C a dc h):yG P w H h a (vG C a dc):=by
 obtain ⟨ob,t,q,r⟩:=id p
 exact ⟨p,⟨ob,q⟩,fun h1 h2 ⟨o1,t1,q1,r1⟩ k=>⟨o1,t1,k o1 q1,r1⟩⟩
structure iH (K:Frag) (mg:Str->Option Value) (x:Str) (C fI:Addr):Prop where
 at_:mg x=some (.ref C)
 ok:lK K C fH "ValueError.__new__" fI=true
 kp:keepIn K (.ref C)=true
theorem Inv.madeX {X:Cx} {qp:LAO} {σ:St} {H:Hp} {s:Shared} {h':Heap} {e C:Addr} {args:List Value} (I:Inv X qp σ H s) (mk:Heap.MadeExcOf s.heap h' e (.ref C) args):H e=none/\Inv X qp σ (upd H e (vG C e none)) { s with heap:=h' }:=by
 obtain ⟨t,ht,_,_⟩:=mk.there
 have he:H e=none:=by
  cases q:H e with
  | none=>rfl
  | some o=>
   obtain ⟨v,hv⟩:=(I.hok e o q).there
   rw [mk.new] at hv;cases hv
 have old:∀ b o,s.heap.get? b=some o->b ≠ e:=fun b o q z=>by rw [z,mk.new] at q;cases q
 have ne:∀ b o,H b=some o->b ≠ e:=fun b o q z=>by rw [z,he] at q;cases q
 refine ⟨he,I.call' (s':={ s with heap:=h' }) (ch:=[]) rfl ⟨fun b o q _ _ _=>mk.keeps b o q,fun b o q _ _ _=>⟨o.slots,mk.keeps b o q⟩,fun b o q n _=>by rw [zI (old b o q)];exact n,fun b o q _=>⟨o,mk.keeps b o q⟩,
   fun b xs q=>by rw [zI (ne b _ q)];exact q,fun b o v q=>by rw [zI (ne b _ q)];exact q,fun b ps q=>⟨#[],by rw [zI (ne b _ q),Array.append_empty];exact q⟩⟩ (fun b o q=>?_) I.bare (fun b hb=>absurd hb zKX)⟩
 by_cases hb:b=e
 ·subst hb
  rw [zC] at q
  cases q
  exact jM.ok ⟨_,t,ht,⟨rfl,rfl⟩,rfl⟩
 ·rw [zI hb] at q
  exact (I.hok b o q).stay (fun c v _ z=>mk.keeps c v z) (fun c z=>by rw [zI (ne c _ z)];exact z) fun c xs z=>by rw [zI (ne c _ z)];exact z
def zIH (C:Addr) (S:Addr->Prop) (sp:Sp) (E:XK) (t:TA):TE:=fun σ H Q=>t σ H fun vs H1=>vs.length <= 1000/\∀ e,H1 e=none->S e->sp (.ref e :: vs) (upd H1 e (vG C e none)) (fun v H2=>v=.non/\Q (.ref e) H2) E
theorem zG2 {X:Cx} {x:Str} {C fI:Addr} {np cpos:Pos} {CX:CXT} {k:Nat} {fd:FuncData} {ps:List Str} {sp:Sp} {E:XK} {a:Expr} {es:List Expr} {t:TA} (c:iH X.K X.mg x C fI) (F:wW X.prog X.w X.K X.mg X.base CX k fI fd ps sp) (hr:zX (k + 1) X.A) (hb:wQ X.K fd ps []) (hx:vE CX X E) (ha:PA X (a :: es) t) (hg:Gl X x:=by rfl) (hd:(x == ("__debug__" : Str))=false:=by decide)
  (hse:starEach (a :: es) X.env=(false,eval a X.env) :: starEach es X.env:=by rfl) (hpl:(backTo cpos (starEach es X.env)).any (·.1)=false:=by rfl):PE X (.Call (.Name x np) (a :: es) [] cpos) (zIH C (fun e=>e ∉ X.ex->X.s₀.heap.get? e=none) sp E t):=by
 intro qp s σ H Q I h
 obtain ⟨bm,N,nm,qn,bs,hdct,sn,sub,ab,col,dd,k0,k1,k2,k3,k5,mN,hC,hN,hni,T,oI,hfI,hfc⟩:=pW I.ok.mod.kin c.ok
 refine wpAny_Call_Name_kw (tD I hg c.at_ ?_ hd)
 refine callWith_K (h₀:=X.base) I.ok.mod.kin c.kp (thn (ha cpos qp s σ H _ I h) fun us s1 hz70=>?_) hse hpl
 obtain ⟨vs,H1,I1,r,lv,q⟩:=hz70
 refine ⟨I1.kIn,?_⟩
 obtain ⟨hp,g,d,tk,os⟩:=s1
 have hC1:=I1.bk _ _ hC
 have lu:us.length <= sizeLine:=by rw [<- r.length,sizeLine_eq];omega
 refine fE PySem.F.excBase_ValueError (T.keeps I1.bk) hC1 (hN.keeps I1.bk) hni (I1.bk _ _ hfI) hfc lu fun h' e hm=>?_
 obtain ⟨he,I2⟩:=I1.madeX hm
 have new:e ∉ X.ex->X.s₀.heap.get? e=none:=fun nx=>by
  cases z:X.s₀.heap.get? e with
  | none=>rfl
  | some o=>
   obtain ⟨o',z'⟩:=I1.base.there e o z nx
   have z2:hp.get? e=some o':=z'
   rw [hm.new] at z2;cases z2
 have hq:=q e he new
 have r2:zP (V.ref e :: vs) (Value.ref e :: us):=.cons rfl r
 have hl:((Value.ref e :: us) ++ []).length=ps.length:=by
  rw [List.append_nil,<- r2.length];exact F.len _ _ _ _ hq
 refine wpAny_call (codeAny_mono (F.run _ X.stack _ _ ⟨Value.ref e :: us,[]⟩ (Value.ref e :: us) _ _ E (hr.make C us []) (I2.env0.make C us []) (by have z:=hb _ (Value.ref e :: us) I2.kIn hl;rwa [List.append_nil] at z) r2 hq) fun rr s' hq'=>?_)
 cases rr with
 | error e'=>exact hx qp σ _ _ e' s' I2 hq'
 | ok fl=>
  cases fl with
  | ret u=>
   obtain ⟨v,H',I3,rv,ev,q3⟩:=I2.after hq'
   subst ev
   exact ⟨rv,⟨V.ref e,H',I3,rfl,q3⟩⟩
  | next=>exact False.elim hq'
  | brk=>exact False.elim hq'
  | cont=>exact False.elim hq'
def del (H:Hp) (a:Addr):Hp:=fun b=>if b=a then none else H b
theorem zBW {H:Hp} {a:Addr}:del H a a=none:=by unfold del;rw [if_pos rfl]
theorem t6 {H:Hp} {a b:Addr} (h:b ≠ a):del H a b=H b:=by unfold del;rw [if_neg h]
theorem j5 {H:Hp} {a b:Addr} {o:HO} (h:del H a b=some o):b ≠ a/\H b=some o:=by
 by_cases q:b=a
 ·rw [q,zBW] at h;cases h
 ·rw [t6 q] at h;exact ⟨q,h⟩
section
variable {M:Model} {A:Around} {E:VSP} {s:Shared} {B:Heap} {env:Env} {outer:List Env} {L e C:Addr} {dc:Option Addr} {Q:Unit->Shared->Prop}
theorem gF (fr:A.frames=some (env :: outer)) (ff:s.heap.FunFrames B (env :: outer)) (ef:env.frame=some L) (st:B.StaysIn s.heap) (p:jM C e dc s.heap) (ne:B.get? e=none)
  (k:∀ h',Fly B outer e C dc .none h'->s.heap.UpToSlots h'->Q () { s with heap:=h' }):wpAny M A (leaving env (.ref e)) Q E s:=by
 obtain ⟨ob,t,ge,gc,gd⟩:=p
 unfold leaving
 exact wpAny_bind (zAX fr ff ef ge gc st ne gd rfl rfl fun g F1 u1=>qN F1 fun h' F2 u2=>k h' F2.down (u1.trans u2))
end
section
variable {P:Program} {w:World} {K:W.Frag} {mg:Str->Option Value} {base:Heap} {N:List Str} {qual:Str} {scope:Scope} {f:Addr} {cd:Value} {A:Around} {outer:List Env} {s0:Shared} {H0:Hp} {E:XK}
theorem HOk.del {H:Hp} {h:Heap} {a:Addr} {φ:Heap->Prop} (ok:HOk P w H h) (ha:H a=some (.ext φ)):HOk P w (del H a) h:=fun b o e=>by
 obtain ⟨nb,e'⟩:=j5 e
 refine (ok b o e').stay (fun _ _ _ q=>q) (fun c q=>?_) fun c xs q=>?_
 ·rw [t6 (fun z=>by rw [z,ha] at q;cases q)];exact q
 ·rw [t6 (fun z=>by rw [z,ha] at q;cases q)];exact q
theorem i7 {qp:LAO} {σ:St} {H:Hp} {s:Shared} {a C:Addr} {dc:Option Addr} (I:Inv (tG (CXE P w) P w K mg base N qual scope f cd A outer s0 H0 E) qp σ H s)
  (ha:H a=some (vG C a dc)) (new:s0.heap.get? a=none) (hE:E (.ref C) dc (del H a)):(tG (CXE P w) P w K mg base N qual scope f cd A outer s0 H0 E).xe (.ref a) s:=by
 have nfree:∀ b ∈ frs (envOfC qual scope s0.heap.objs.size f cd :: outer),H b=none:=I.stkFree
 have ff:s.heap.FunFrames base (envOfC qual scope s0.heap.objs.size f cd :: outer):=I.stack
 obtain ⟨B,eB⟩:∃ B,B=hideAll s.heap (a :: frs (envOfC qual scope s0.heap.objs.size f cd :: outer)):=⟨_,rfl⟩
 have inB:∀ b o,s.heap.get? b=some o->b ≠ a->b ∉ frs (envOfC qual scope s0.heap.objs.size f cd :: outer)->B.get? b=some o:=fun b o q na n=>by
  rw [eB];exact hideAll_get _ q (fun z=>(List.mem_cons.mp z).elim na n)
 have st:B.StaysIn s.heap:=fun b o q=>of_hideAll _ (by rw [<- eB];exact q)
 have nB:B.get? a=none:=by rw [eB];exact hideAll_none _ zKW
 have cov:∀ c,del H a c ≠ none->∃ u,B.get? c=some u:=fun c hc=>by
  cases q:del H a c with
  | none=>exact absurd q hc
  | some o=>
   obtain ⟨nc,q'⟩:=j5 q
   obtain ⟨u,hu⟩:=(I.hok c o q').there
   exact ⟨u,inB c u hu nc fun z=>by rw [nfree c z] at q';cases q'⟩
 have na:∀ b o,s0.heap.get? b=some o->b ≠ a:=fun b o q z=>by rw [z,new] at q;cases q
 have old:∀ b o,s0.heap.get? b=some o->b ∉ frs outer->b ∉ frs (envOfC qual scope s0.heap.objs.size f cd :: outer):=fun b o q n z=>by
  rcases List.mem_cons.mp (show b ∈ s0.heap.objs.size :: frs outer from z) with y | y
  ·exact Nat.lt_irrefl _ (Nat.lt_of_lt_of_eq (Heap.lt_size q) y.symm)
  ·exact n y
 have nx:∀ b:Addr,b ∉ (tG (CXE P w) P w K mg base N qual scope f cd A outer s0 H0 E).ex:=fun b=>(show b ∉ ([]:List Addr) by simp)
 have p:jM C a dc s.heap:=(I.hok a _ ha).1
 have ffB:s.heap.FunFrames B (envOfC qual scope s0.heap.objs.size f cd :: outer):=by
  rw [eB]
  exact funFrames_hide ff fun env he x hx=>zKG _ (List.mem_filterMap.mpr ⟨env,he,hx⟩)
 refine gF (B:=B) I.ok.frames ffB rfl st p nB fun h2 F up=>?_
 have cov2:∀ b o,s0.heap.get? b=some o->H0 b=none->b ∉ frs outer->B.get? b=some o:=fun b o q n nb=>inB b o (I.base.keep b o q n nb (nx b)) (na b o q) (old b o q nb)
 have cov3:∀ b o,s0.heap.get? b=some o->b ∉ frs outer->∃ o',B.get? b=some o':=fun b o q nb=>by
  obtain ⟨o',q'⟩:=I.base.there b o q (nx b)
  exact ⟨o',inB b o' q' (na b o q) (old b o q nb)⟩
 have upf:∀ b o,b ∈ frs outer->s.heap.get? b=some o->∃ sl,h2.get? b=some { o with slots:=sl }:=fun b o hb q=>up b o q (zD3 ff (zKG _ hb) q)
 have hne:∀ b o,H b=some o->(∀ φ,o ≠ .ext φ)->del H a b=some o:=fun b o q n=>by
  rw [t6 (fun z=>by rw [z,ha] at q;cases q;exact n _ rfl)];exact q
 refine ⟨a,C,dc,B,del H a,rfl,I.os,I.bare,⟨fun b o q n nb _=>F.1 b o (cov2 b o q n nb),fun b o q n hb z=>?_,fun b o q n z=>?_,fun b o q z=>?_,fun b xs q=>hne b _ (I.base.tups b xs q) nofun,fun b o v q=>hne b _ (I.base.frzs b o v q) nofun,fun b ps q=>?_⟩,(I.hok.del ha).air st F.1 cov,F,cov,cov2,cov3,hE⟩
 ·obtain ⟨sl,q1⟩:=I.base.slot b o q n hb (nx b)
  obtain ⟨sl2,q2⟩:=upf b _ hb q1
  exact ⟨sl2,q2⟩
 ·rw [t6 (na b o q)];exact I.base.free b o q n (nx b)
 ·by_cases hb:b ∈ frs outer
  ·obtain ⟨o',q1⟩:=I.base.there b o q (nx b)
   obtain ⟨sl2,q2⟩:=upf b _ hb q1
   exact ⟨_,q2⟩
  ·obtain ⟨o',q1⟩:=cov3 b o q hb
   exact ⟨o',F.1 b o' q1⟩
 ·obtain ⟨more,q1⟩:=I.base.tbls b ps q
  exact ⟨more,hne b _ q1 nofun⟩
structure lS (X:Cx) (E:XK):Prop where
 hd:X.A.handled=none
 ex:X.ex=[]
 out:∀ (qp:LAO) (σ:St) (H:Hp) (s:Shared) (a C:Addr) (dc:Option Addr),Inv X qp σ H s->H a=some (vG C a dc)->X.s₀.heap.get? a=none->E (.ref C) dc (del H a)->X.xe (.ref a) s
theorem uB {k:Nat} (hr:zX k (A.deeper (envOfC qual scope s0.heap.objs.size f cd))):lS (tG (CXE P w) P w K mg base N qual scope f cd A outer s0 H0 E) E:=
 ⟨hr.hd,rfl,fun _ _ _ _ _ _ _ I ha n hE=>i7 I ha n hE⟩
end
section
variable {X:Cx} {E:XK}
theorem cF {nx:Str} {C fI:Addr} {Q:Flow->Shared->Prop} {x:Sem Value} {s1:Shared} (R:lS X E) (c:iH X.K X.mg nx C fI) (be:subIn X.K (.ref C) (.type "BaseException")=some true)
  (h:wpAny (model X.prog X.w) X.A x (fun v s=>∃ a,v=.ref a/\∃ qp σ H dc,Inv X qp σ H s/\H a=some (vG C a dc)/\X.s₀.heap.get? a=none/\E (.ref C) dc (del H a)) X.xe s1) :
  wpAny (model X.prog X.w) X.A (raiseStmt X.env (some x) none) Q X.xe s1:=by
 unfold raiseStmt
 refine wpAny_bind (thn h fun v s hz71=>?_)
 obtain ⟨a,e,qp,σ,H,dc,I,ha,n,hE⟩:=hz71
 subst e
 obtain ⟨p,_,_⟩:=(show yG X.prog X.w H s.heap a (vG C a dc) from I.hok a _ ha)
 obtain ⟨ob,t,ge,gc,gd⟩:=p
 obtain ⟨oc,od,odt,osl⟩:=ob
 obtain ⟨g1,g2⟩:=gc
 simp only at g1 g2 gd
 subst g1;subst g2;subst gd
 have fin:=R.out qp σ H s a C _ I ha n hE
 obtain ⟨bm,N,nm,qn,bs,hdct,sn,sub,ab,col,dd,k0,k1,k2,k3,k5,mN,hC0,_⟩:=pW I.ok.mod.kin c.ok
 have hC:=I.bk _ _ hC0
 have hh:=R.hd
 obtain ⟨hp,g,d,tk,os⟩:=s
 have LS:=looks_subIn (M:=model X.prog X.w) I.kIn be
 repeat (first | with_reducible refine wpAny_loadPart_at ge ?_ | with_reducible refine wpAny_loadPart_at hC ?_ | with_reducible refine LS.at ?_ | wp_step)
 exact wpAny_raiseNew_none hh fin
def zCO (C:Addr) (S:Addr->Prop) (sp:Sp) (E1 E:XK) (t:TA):TS:=fun _ σ H=>zIH C S sp E1 t σ H fun y H2=>∃ e dc,y=.ref e/\S e/\H2 e=some (vG C e dc)/\E (.ref C) dc (del H2 e)
theorem u5 {x:Str} {C fI:Addr} {np cpos pos:Pos} {CX:CXT} {k:Nat} {fd:FuncData} {ps:List Str} {sp:Sp} {E1:XK} {a:Expr} {es:List Expr} {t:TA} (R:lS X E) (c:iH X.K X.mg x C fI) (be:subIn X.K (.ref C) (.type "BaseException")=some true) (F:wW X.prog X.w X.K X.mg X.base CX k fI fd ps sp) (hr:zX (k + 1) X.A) (hb:wQ X.K fd ps []) (hx:vE CX X E1) (ha:PA X (a :: es) t)
  (hg:Gl X x:=by rfl) (hd:(x == ("__debug__" : Str))=false:=by decide) (hse:starEach (a :: es) X.env=(false,eval a X.env) :: starEach es X.env:=by rfl) (hpl:(backTo cpos (starEach es X.env)).any (·.1)=false:=by rfl) :
  PS X (.Raise (some (.Call (.Name x np) (a :: es) [] cpos)) none pos) (zCO C (fun e=>e ∉ X.ex->X.s₀.heap.get? e=none) sp E1 E t):=by
 intro qp s σ H D I h
 rw [arm_exec_Raise]
 refine wpAny_bind (wpAny_standAt ?_)
 show wpAny _ _ (raiseStmt X.env (some (do let v <- eval (.Call (.Name x np) (a :: es) [] cpos) X.env;standAt pos;pure v)) none) _ _ _
 refine cF R c be (wpAny_bind (thn (zG2 c F hr hb hx ha hg hd hse hpl qp s σ H _ I h) fun v s1 hz72=>?_))
 obtain ⟨y,H1,I1,r,e,dc,ey,n,h1,h2⟩:=hz72
 refine wpAny_bind (wpAny_standAt (wpAny_pure ?_))
 subst ey
 cases r
 exact ⟨e,rfl,qp,σ,H1,dc,I1,h1,n (by rw [R.ex];simp),h2⟩
end
section
variable {dc:Option Addr} {M:Model} {A:Around} {E:VSP} {s:Shared} {B:Heap} {env:Env} {outer:List Env} {L e C:Addr} {Q:Unit->Shared->Prop}
end
end L2
namespace L2
open PySem PySem.Spec PyProof.Rows
section
variable {X:Cx}
theorem n8 {zs ws:List Str} (l:zs.length=ws.length) {n:Nat} (hn:n=zs.length):(List.range n).all (fun j=>eqV ((zs.map V.str).getD j .non) ((ws.map V.str).getD j .non))=decide (zs=ws):=by
 subst hn
 by_cases e:zs=ws
 ·subst e
  rw [zKI rfl,List.all_eq_true]
  intro j hj
  have hl:j < zs.length:=List.mem_range.mp hj
  rw [zJ8,zJ9,zJ4 hl]
  exact jW rfl
 ·rw [zKJ e]
  refine Bool.eq_false_iff.mpr fun h=>e ?_
  rw [List.all_eq_true] at h
  refine List.ext_getElem l fun j h1 h2=>?_
  have:=h j (List.mem_range.mpr h1)
  rw [zJ8,zJ9,zJ4 h1,zJ8,zJ9,zJ4 h2] at this
  have q:eqV (V.str zs[j]) (V.str ws[j])=true:=this
  simpa [eqV] using q
def zIY (eq:Bool):R2:=fun x y H Q=>∃ (a b:Addr) (zs ws:List Str),x=.ref a/\y=.ref b/\H a=some (.lst (zs.map V.str))/\H b=some (.lst (ws.map V.str))/\Q (.bl (if eq then decide (zs=ws) else !decide (zs=ws))) H
theorem dS (zs:List Str):(zs.map V.str).all wP=true:=by
 rw [List.all_eq_true]
 intro x hx
 obtain ⟨z,_,rfl⟩:=List.mem_map.mp hx
 rfl
theorem zAP (hu:X.A.units < cLine):OpR X (compareOp .NotEq) (zIY false):=by
 intro qp s σ H x y v u Q I rx ry h
 obtain ⟨a,b,zs,ws,rfl,rfl,ha,hb,q⟩:=h
 cases rx;cases ry
 obtain ⟨i1,r1,p1,_⟩:=I.list (.of ha)
 obtain ⟨i2,r2,p2,_⟩:=I.list (.of hb)
 have l1:=r1.length
 have l2:=r2.length
 rw [zJ3] at l1 l2
 by_cases le:zs.length=ws.length
 ·have key:=SeqAt.RcNeAt.lists (A:=X.A) (e:=fun j=>eqV ((zs.map V.str).getD j .non) ((ws.map V.str).getD j .non)) p1.isList p2.isList (by rw [zKB,zKB,<- l1,<- l2,le]) hu
   (fun j g1 g2=>pZ (qp:=qp) (σ:=σ) (H:=H) r1 r2 (dS _) (dS _) j g1 g2)
  rw [n8 le (by rw [zKB,l1])] at key
  exact key _ _ _ _ ⟨.bl (!decide (zs=ws)),H,I,rfl,q⟩
 ·have ne:decide (zs=ws)=false:=zKJ fun e=>le (by rw [e])
  have key:=SeqAt.RcNeAt.lists_lengths (A:=X.A) p1.isList p2.isList (by rw [zKB,zKB,<- l1,<- l2];simpa using le) hu
  rw [ne] at q
  exact key _ _ _ _ ⟨.bl true,H,I,rfl,q⟩
theorem zG9 (hu:X.A.units < cLine):OpR X (compareOp .Eq) (zIY true):=by
 intro qp s σ H x y v u Q I rx ry h
 obtain ⟨a,b,zs,ws,rfl,rfl,ha,hb,q⟩:=h
 cases rx;cases ry
 obtain ⟨i1,r1,p1,_⟩:=I.list (.of ha)
 obtain ⟨i2,r2,p2,_⟩:=I.list (.of hb)
 have l1:=r1.length
 have l2:=r2.length
 rw [zJ3] at l1 l2
 by_cases le:zs.length=ws.length
 ·have key:=SeqAt.RcAt.lists (A:=X.A) (e:=fun j=>eqV ((zs.map V.str).getD j .non) ((ws.map V.str).getD j .non)) p1.isList p2.isList (by rw [zKB,zKB,<- l1,<- l2,le]) hu
   (fun j g1 g2=>pZ (qp:=qp) (σ:=σ) (H:=H) r1 r2 (dS _) (dS _) j g1 g2)
  rw [n8 le (by rw [zKB,l1])] at key
  exact key _ _ _ _ ⟨.bl (decide (zs=ws)),H,I,rfl,q⟩
 ·have ne:decide (zs=ws)=false:=zKJ fun e=>le (by rw [e])
  have key:=SeqAt.RcAt.lists_lengths (A:=X.A) p1.isList p2.isList (by rw [zKB,zKB,<- l1,<- l2];simpa using le) hu
  rw [ne] at q
  exact key _ _ _ _ ⟨.bl false,H,I,rfl,q⟩
end
end L2
namespace L2
open PySem PySem.Spec PyProof.Rows PySem.W
section
variable {X:Cx}
theorem fA {nx:Str} {C fI:Addr} (c:iH X.K X.mg nx C fI):xK X (.builtin "ValueError.__init__") (fun xs H Q=>∃ e dc z,xs=[.ref e,.str z]/\H e=some (vG C e dc)/\Q .non (upd H e (vG C e dc))):=by
 intro qp s σ H xs us Q I r h
 obtain ⟨e,dc,z,rfl,he,q⟩:=h
 obtain ⟨u,v,rfl,ru,rv⟩:=r.two
 cases ru
 obtain ⟨p,_,_⟩:=(show yG X.prog X.w H s.heap e (vG C e dc) from I.hok e _ he)
 obtain ⟨ob,t,ge,gc,gd⟩:=p
 obtain ⟨bm,N,nm,qn,bs,hdct,sn,sub,ab,col,dd,k0,k1,k2,k3,k5,mN,hC0,_,_,T,_⟩:=pW I.ok.mod.kin c.ok
 have hC:=I.bk _ _ hC0
 have T1:=T.keeps I.bk
 obtain ⟨hp,g,d,tk,os⟩:=s
 have F:=PySem.F.excBase_ValueError
 refine wpAny_call (codeAny_call_builtin F.init.plain F.initEntry (wpAny_check_init_subT F T1 hC ge gc.1 ?_))
 unfold Builtin.«BaseException.__init__»
 dsimp only
 rw [if_neg (by simp)]
 unfold newTuple Builtin.BaseException.bexcPut
 have g1:=Heap.get?_push_of_some { cls:=.type "tuple",data:=.seq [v].toArray } ge
 refine wpAny_bind (wpAny_newObj_type (wpAny_bind (wpAny_bind (wpAny_field g1 gd rfl (wpAny_bind (wpAny_setField g1 gd (by show 0 < 6;decide) ?_))))) (by show 1 <= sizeLine;decide))
 refine wpAny_letGo (wpAny_pure ?_)
 refine ⟨.non,_,I.write (x:=e) (e:=e) (by rw [he];exact True.intro) (.inl rfl) (fun b o nb z=>?_) ⟨_,Heap.get?_update_self _ g1 (Obj.isFreed_of_fields (Obj.data_mapFields gd _))⟩ (jM.ok ⟨_,hp.objs.size,Heap.get?_update_self _ g1 (Obj.isFreed_of_fields (Obj.data_mapFields gd _)),⟨(Obj.cls_mapFields _ _).trans gc.1,(nV _ _).trans gc.2⟩,?_⟩),rfl,q⟩
 ·rw [Heap.get?_update_other _ _ (Ne.symm nb)];exact Heap.get?_push_of_some _ z
 ·rw [Obj.data_mapFields gd];rfl
structure zCH (K:Frag) (mg:Str->Option Value) (y:Str) (D:Addr):Prop where
 at_:mg y=some (.ref D)
 ga:specialIn K (.ref D) "__getattribute__"=some (some (.builtin "type.__getattribute__"))
 rd:readsIn K D (.type "type")=true
 fc:findCls K (.ref D) (.type "type") "__init__"=some (.val (.builtin "ValueError.__init__"))
def tXi (C:Addr) (t:TA):TE:=fun σ H Q=>t σ H fun xs H1=>∃ e dc z,xs=[.ref e,.str z]/\H1 e=some (vG C e dc)/\Q .non (upd H1 e (vG C e dc))
theorem zAE {nx y:Str} {C D fI:Addr} {e:Expr} {es:List Expr} {t:TA} {np apos cpos:Pos} {pl:Sem Bool} (c:iH X.K X.mg nx C fI) (y0:zCH X.K X.mg y D) (ha:PA X (e :: es) t) (hg:Gl X y:=by rfl) (hd:(y == ("__debug__" : Str))=false:=by decide)
  (hs:starEach (e :: es) X.env=(false,eval e X.env) :: starEach es X.env:=by rfl) (hplain:(backTo cpos (starEach es X.env)).any (·.1)=false:=by rfl)
  (ht:eval (.Call (.Attribute (.Name y np) "__init__" apos) (e :: es) [] cpos) X.env=(do
   let ov <- eval (.Name y np) X.env
   standAt apos.atName
   let (f,first) <- holding [ov] (getMethod ov "__init__" pl)
   callWith cpos f first (backTo cpos (starEach (e :: es) X.env)) (backToKw cpos (keywordEach [] X.env))):=by rfl) :
  PE X (.Call (.Attribute (.Name y np) "__init__" apos) (e :: es) [] cpos) (tXi C t):=by
 intro qp s σ H Q I h
 rw [ht]
 refine wpAny_bind (tD I hg y0.at_ ?_ hd)
 refine wpAny_bind (wpAny_standAt (wpAny_bind (wpAny_holding (method_cls I.kIn y0.ga (cls_value I.kIn y0.rd y0.fc rfl ?_)))))
 have I1:=I.tok (s.toks + 1)
 have hA:=ha cpos qp _ σ H _ I1 h
 rw [hs] at hA ⊢
 refine Calls.callWith_builtin (by show (false || (backTo cpos (starEach es X.env)).any (·.1))=false;rw [hplain] <;> rfl) (Calls.evalArgs_plain ?_)
 exact thn hA fun us s2 ⟨vs,H2,I2,r2,q2⟩=>fA c qp s2 σ H2 vs us Q I2 r2 q2
end
structure iD (K:Frag) (C D:Addr) (f:Str):Prop where
 sa:findIn K (.ref C) "__setattr__"=some (some (.builtin "object.__setattr__"))
 mro:(clsIn K C).map (·.mro)=some (.ref C :: .ref D :: fH)
 hd:(clsIn K C).any (·.hasDict)=true
 no:findIn K (.ref C) f=some none
section
variable {prog:Program} {w:World} {A:Around} {E:VSP} {K:Frag} {x C D:Addr} {f:Str} {v:Value}
theorem zDS {s:Shared} {ox:Obj} {od:Option Obj} {tk:Tok} {R:Result->Shared->Prop} (X:K.In s.heap) (I:InstAt s.heap x ox C od) (a:iD K C D f)
  (h:∀ b,wpAny (model prog w) A.in1 (Builtin.ObjectAttr.storeInOwnDict (.ref x) (.ref C) (.str f tk) f v b)
   (fun fin s'=>match fin with | .done f=>R (.ok f) s' | .again c'=>c'.quiet=true/\codeAny (model prog w) A c' R s') (fun e s'=>R (.error e) s') s) :
  codeAny (model prog w) A (.call (.builtin "object.__setattr__") ⟨[.ref x,.str f tk,v],[]⟩) R s:=by
 have SF:=F.store_ValueError
 obtain ⟨cd,hc,hm⟩:=Option.map_eq_some_iff.mp a.mro
 have sub:Looks (model prog w) s.heap (isInstance (.ref x) (.type "object")) true:=I.type.andThen (looks_mroIn X (by unfold mroIn;rw [hc,Option.bind_some,hm];rfl))
 have LM:Looks (model prog w) s.heap (mroOf (.ref C)) (.ref C :: .ref D :: fH):=by
  rw [<- hm];exact (looks_clsIn X hc).andThen .now
 refine codeAny_call_builtin SF.slot.plain SF.entry (@check_slot (model prog w) _ _ s "object.__setattr__" "object" "__setattr__" (.ref x) [.str f tk,v] [] _ SF.kind SF.split sub (SF.args (.ref x) (.str f tk) v) ?_)
 rw [osa_eq,refuse_eq]
 refine wpAny_bind (wpAny_bind (I.type.here (wpAny_bind (LM.here ?_))))
 rw [refuseLoop_ref,refuseLoop_ref,SF.passes]
 exact wpAny_pure (wpAny_bind (I.type.here (wpAny_bind ((looks_findIn X a.no).here (wpAny_bind (wpAny_pure (h _)))))))
theorem zC0 {h:Heap} {g:Array GenState} {d:Drawn} {t:Nat} {os:OsState} {cells:Array Value} {osl:Array (Option Value)} {Q:Unit->Shared->Prop} (X:K.In h) (a:iD K C D f) (hx:h.get? x=some ⟨.ref C,none,.fields cells,osl⟩)
  (q:∀ h' tk,h'.get? x=some ⟨.ref C,some h.objs.size,.fields cells,osl⟩->h'.Ns1 h.objs.size (fun y=>if y=f then some v else none)->(∀ b o,b ≠ x->h.get? b=some o->h'.get? b=some o)->Q () ⟨h',g,d,tk,os⟩) :
  wpAny (model prog w) A (setAttr (.ref x) f v) Q E ⟨h,g,d,t,os⟩:=by
 have I:InstAt h x ⟨.ref C,none,.fields cells,osl⟩ C none:=⟨hx,rfl,rfl,trivial⟩
 refine set_plain (s:=⟨h,g,d,t,os⟩) X I a.sa (zDS (s:=⟨h,g,d,t + 1,os⟩) X I a fun b=>?_)
 obtain ⟨cd,hc,hd⟩:=any_some a.hd
 refine wpAny_bind (wpAny_pure (wpAny_bind (wpAny_bind (wpAny_loadPart hx (wpAny_bind (Looks.here (s:=⟨h,g,d,t + 1,os⟩) (looks_clsIn X hc) ?_))))))
 rw [hd]
 show wpAny _ _ (do
  let d <- alloc { cls:=.type "dict",data:=.dict #[] }
  update x fun o=>{ o with dict:=some d }
  dictMade (.ref C) x d) _ _ _
 have hx1:(h.push { cls:=.type "dict",data:=.dict #[] }).get? x=some ⟨.ref C,none,.fields cells,osl⟩:=Heap.get?_push_of_some _ hx
 have xs:x ≠ h.objs.size:=zKU (Heap.lt_size hx)
 refine wpAny_bind (wpAny_alloc' (wpAny_bind (wpAny_update' hx1 (wpAny_pure ?_))))
 generalize eh:((h.push { cls:=.type "dict",data:=.dict #[] }).update x fun o=>{ cls:=o.cls,dict:=some h.objs.size,data:=o.data,slots:=o.slots })=h1
 have g1:h1.get? h.objs.size=some { cls:=.type "dict",data:=.dict #[] }:=by
  rw [<- eh,Heap.get?_update_ne _ _ _ _ xs.symm];exact Heap.get?_push_at rfl rfl
 have g2:h1.get? x=some ⟨.ref C,some h.objs.size,.fields cells,osl⟩:=by
  rw [<- eh];exact Heap.get?_update_self _ hx1 rfl
 have nd:h1.Ns h.objs.size (fun _=>none):=⟨_,#[],_,g1,rfl,fun e he=>absurd he (by simp),fun _=>rfl⟩
 have g3:∀ b o,b ≠ x->h.get? b=some o->h1.get? b=some o:=fun b o nb z=>by
  rw [<- eh,Heap.get?_update_ne _ _ _ _ nb];exact Heap.get?_push_of_some _ z
 show wpAny _ _ (Builtin.ObjectAttr.storeInDict h.objs.size (.str f t) f v) _ _ _
 unfold Builtin.ObjectAttr.storeInDict Builtin.ObjectAttr.newKeyGuard
 refine wpAny_bind (wpAny_pure (wpAny_bind (wpAny_nsSet1 (Heap.Ns1.of_empty nd) fun h' n' sb=>?_)))
 obtain ⟨oD,esD,epD,hoD,hdD,hcD⟩:=n'.count (Within.cons f v Within.nil)
 refine wpAny_bind (wpAny_lookBehind hoD (by rw [hdD];exact pastItsLine_dict (zKE hcD (by show 1 <= sizeLine + 1;omega))) ?_)
 refine wpAny_pure (q h' _ ((sb.2 x xs).trans g2) n' fun b o nb z=>(sb.2 b (zKU (Heap.lt_size z))).trans (g3 b o nb z))
end
section
variable {X:Cx}
def sXf (C:Addr) (ta tv:TE) (f:Str):TS:=fun D σ H=>tv σ H fun y H1=>ta σ H1 fun z H2=>∃ e,z=.ref e/\H2 e=some (vG C e none)/\∀ dx,H2 dx=none->dx ≠ e->D.nx σ (upd (upd H2 e (vG C e (some dx))) dx (.xd [(f,y)]))
theorem zDG {C D:Addr} {o value:Expr} {f:Str} {ta tv:TE} {pos pos':Pos} (a:iD X.K C D f) (ha:PE X o ta) (hv:PE X value tv) (hs:swapsWith value (some (.Attribute o f pos')) pos.line X.env=pure false):PS X (.Assign [.Attribute o f pos'] value pos) (sXf C ta tv f):=by
 intro qp s σ H D I h
 refine plainObj_wpAny_Assign_Attribute (thn (hv qp s σ H _ I h) fun u s1 hz73=>?_) hs
 obtain ⟨y,H1,I1,ry,q⟩:=hz73
 refine thn (ha qp s1 σ H1 _ I1 q) fun ov s2 hz74=>?_
 obtain ⟨z,H2,I2,rx,e,ez,he,q2⟩:=hz74
 subst ez
 obtain rfl:ov=Value.ref e:=rx
 obtain ⟨p,_,_⟩:=(show yG X.prog X.w H2 s2.heap e (vG C e none) from I2.hok e _ he)
 obtain ⟨⟨oc,od,odt,osl⟩,t,ge,gc,gd⟩:=p
 obtain ⟨g1,g2⟩:=gc
 simp only at g1 g2 gd
 subst g1;subst g2;subst gd
 obtain ⟨hp,g,d,tk,os⟩:=s2
 refine zC0 I2.kIn a ge fun h' tk' n1 n2 n3=>?_
 have fr:H2 hp.objs.size=none:=I2.hok.fresh (zKC _)
 have ne:hp.objs.size ≠ e:=fun z=>by rw [z,he] at fr;cases fr
 refine ⟨σ,_,I2.call' (s':=⟨h',g,d,tk',os⟩) (H':=upd (upd H2 e (vG C e (some hp.objs.size))) hp.objs.size (.xd [(f,y)])) (ch:=[]) rfl ?_ (fun b ob qb=>?_) I2.bare (fun b hb=>absurd hb zKX),q2 _ fr ne⟩
 ·have nb:∀ b o,hp.get? b=some o->b ≠ hp.objs.size:=fun b o z=>zKU (Heap.lt_size z)
  have up:∀ b o,b ≠ hp.objs.size->b ≠ e->H2 b=o->upd (upd H2 e (vG C e (some hp.objs.size))) hp.objs.size (.xd [(f,y)]) b=o:=fun b o n1 n2 z=>by rw [zI n1,zI n2];exact z
  have old:∀ b o,H2 b=some o->b ≠ hp.objs.size:=fun b o z w=>by rw [w,fr] at z;cases z
  refine ⟨fun b o z n _ _=>n3 b o (fun w=>by rw [w,he] at n;cases n) z,fun b o z n _ _=>⟨o.slots,n3 b o (fun w=>by rw [w,he] at n;cases n) z⟩,fun b o z n _=>up b _ (nb b o z) (fun w=>by rw [w,he] at n;cases n) n,fun b o z _=>?_,fun b xs z=>up b _ (old b _ z) (fun w=>by rw [w,he] at z;cases z) z,fun b o v z=>up b _ (old b _ z) (fun w=>by rw [w,he] at z;cases z) z,fun b ps z=>⟨#[],by rw [Array.append_empty];exact up b _ (old b _ z) (fun w=>by rw [w,he] at z;cases z) z⟩⟩
  by_cases w:b=e
  ·rw [w];exact ⟨_,n1⟩
  ·exact ⟨o,n3 b o w z⟩
 ·by_cases w1:b=hp.objs.size
  ·subst w1
   rw [zC] at qb
   cases qb
   refine ⟨_,n2,fun fx=>?_⟩
   show uI (List.lookup fx [(f,y)]) (if fx=f then some u else none)
   by_cases z:fx=f
   ·subst z
    rw [if_pos rfl]
    simp only [List.lookup_cons,beq_self_eq_true]
    exact ry
   ·rw [if_neg z]
    have:(fx == f)=false:=by simpa using z
    simp only [List.lookup_cons,this]
    exact True.intro
  ·rw [zI w1] at qb
   by_cases w2:b=e
   ·subst w2
    rw [zC] at qb
    cases qb
    exact jM.ok ⟨_,t,n1,⟨rfl,rfl⟩,rfl⟩
   ·rw [zI w2] at qb
    refine (I2.hok b ob qb).stay (fun c u hc z=>n3 c u (fun w=>?_) z) (fun c z=>?_) fun c xs z=>?_
    ·rcases hc with hc | hc
     ·exact w2 (hc.symm.trans w)
     ·rw [w,he] at hc;cases hc
    ·rw [zI (fun w=>by rw [w,fr] at z;cases z),zI (fun w=>by rw [w,he] at z;cases z)];exact z
    ·rw [zI (fun w=>by rw [w,fr] at z;cases z),zI (fun w=>by rw [w,he] at z;cases z)];exact z
end
section
variable {prog:Program} {w:World} {A:Around} {E:VSP} {K:Frag} {x C:Addr} {ox:Obj} {od:Option Obj} {h:Heap} {g:Array GenState} {d:Drawn} {t:Nat} {os:OsState} {f:Str} {v:Value}
theorem zBM {tok:Tok} {R:Result->Shared->Prop} (k:sT K C) (X:K.In h) (I:InstAt h x ox C od) (hf:findObj K C od f=some (.value v)) (hq:R (.ok (.ret v)) ⟨h,g,d,t,os⟩) :
  codeAny (model prog w) A (.call (.builtin "BaseException.__getattribute__") ⟨[.ref x,.str f tok],[]⟩) R ⟨h,g,d,t,os⟩:=by
 refine codeAny_call_builtin F.attrBase_ValueError.ga.plain F.entry_bexc_ga (sN k X I ?_)
 have L0:=I.type (M:=model prog w)
 have L1:=looks_find (M:=model prog w) X I hf
 unfold Builtin.«object.__getattribute__»
 repeat (any_goals (first | assumption | with_reducible refine L0.at ?_ | with_reducible refine L1.at ?_ | wp_step))
theorem zEP {expr:Bool} {Q:VSP} (k:sT K C) (X:K.In h) (I:InstAt h x ox C od) (hf:findObj K C od f=some (.value v)) (hh:handedIn v=true) (hq:Q v ⟨h,g,d,t + 1,os⟩) :
  wpAny (model prog w) A (getAttr (.ref x) f expr) Q E ⟨h,g,d,t,os⟩:=by
 have f3:=F.attrBase_ValueError.ga.bind (.ref x)
 have x2:(Value.builtin "BaseException.__getattribute__" == Value.builtin "object.__getattribute__")=false:=by decide +kernel
 have x1:(onTheHeap (Value.ref C) && Value.builtin "BaseException.__getattribute__" == Value.builtin "object.__getattribute__")=false:=by rw [x2];rfl
 have x3:(expr && onTheHeap (Value.builtin "BaseException.__getattribute__"))=false:=Bool.and_false _
 have L0:=I.type (M:=model prog w)
 have L1:=looks_findIn (M:=model prog w) X k.ga
 have L2:=looks_findIn (M:=model prog w) X k.gt
 unfold getAttr getAttrBy getAttrByItsOwn
 refine wpAny_bind (wpAny_mkText (wpAny_holding (wpAny_bind (L0.at (wpAny_bind (L1.at ?_))))))
 dsimp only
 rw [x1,if_neg (by decide)]
 unfold hookBefore
 refine wpAny_bind (L2.at (wpAny_bind (wpAny_attempt (wpAny_holding ?_))))
 unfold callGetattribute
 rw [x3,if_neg (by decide)]
 unfold boundAndCalled
 rw [f3]
 refine wpAny_bind (wpAny_pure (wpAny_call (zBM k X I hf ?_)))
 show wpAny _ _ (handedOut v) _ _ _
 rw [handedOut_of hh]
 exact wpAny_pure hq
end
section
variable {X:Cx}
def tXg (K:Frag) (te:TE) (f:Str):TE:=fun σ H Q=>te σ H fun x H1=>∃ a C dx fs v,x=.ref a/\H1 a=some (tY C a (some dx))/\H1 dx=some (.xd fs)/\fs.lookup f=some v/\sT K C/\findIn K (.ref C) f=some none/\Q v H1
theorem zDK {e:Expr} {te:TE} {f:Str} {pos:Pos} (he:PE X e te) (hb:attributeBase e f X.env (eval e X.env)=eval e X.env):PE X (.Attribute e f pos) (tXg X.K te f):=by
 intro qp s σ H Q I h
 refine d6 hb (thn (he qp s σ H _ I h) fun u s1 hz75=>?_)
 obtain ⟨x,H1,I1,rx,a,C,dx,fs,v,ex,ha,hd,hl,k,hn,q⟩:=hz75
 subst ex
 obtain rfl:u=Value.ref a:=rx
 obtain ⟨p,_,_⟩:=(show yG X.prog X.w H1 s1.heap a (tY C a (some dx)) from I1.hok a _ ha)
 obtain ⟨mA,hn1,r⟩:=(show yG X.prog X.w H1 s1.heap dx (.xd fs) from I1.hok dx _ hd)
 obtain ⟨od,ho,lk⟩:=nC hn1
 obtain ⟨u,hu,ru⟩:=uI.some_of (v:=v) (o:=mA f) (by rw [<- hl];exact r f)
 obtain ⟨ob,cells,q1,⟨q2,q3⟩,q4,_⟩:=p
 have J:InstAt s1.heap a ob C (some od):=⟨q1,q2,by unfold notCls;rw [q4],by rw [q3];exact ho⟩
 obtain ⟨hp,g,d,tk,os⟩:=s1
 exact zEP k I1.kIn J (findObj_own k.hd hn rfl (by rw [lk,hu])) (nK ru) ⟨v,H1,I1.tok _,ru,q⟩
end
section
variable {X:Cx} {pos:Pos}
def zII (t:TE):TE:=fun σ H Q=>t σ H fun x H1=>∃ n:Nat,x=.int n/\n < 10 ^ 10/\Q (.str (cZ n)) H1
theorem zDN {e:Expr} {t:TE} (h:PE X e t):PE X (.FormattedValue e (-1) none pos) (zII t):=by
 intro qp s σ H Q I hw
 refine FormattedValue_plain (thn (h qp s σ H _ I hw) fun v s1 hz76=>?_)
 obtain ⟨x,H1,I1,r1,q1⟩:=hz76
 obtain ⟨n,rfl,hn,q⟩:=q1
 obtain ⟨k,rfl⟩:=(show ∃ k,v=Value.int n k from r1)
 refine PyProof.Rows.formatField_int_small ?_ ⟨.str (cZ n),H1,I1.tok _,⟨_,rfl⟩,q⟩
 by_cases h0:n=0
 ·subst h0;decide
 ·have:(n:Int).natAbs=n:=rfl
  rw [this,Nat.log2_lt h0]
  exact zKP hn (by decide +kernel)
end
section
variable {X:Cx}
def zDD:V->List V->Hp->VK->Prop:=fun x vs H Q=>∃ (l:Addr) (xs:List V) (i:Int) (y:V),x=.ref l/\vs=[.int i,y]/\H l=some (.lst xs)/\0 <= i/\i <= xs.length/\xs.length < sizeLine/\Q .non (upd H l (.lst (xs.take i.toNat ++ y :: xs.drop i.toNat)))
theorem oY:MtM X "list.insert" zDD:=by
 intro qp s σ H x vs v us Q I rx rv h
 obtain ⟨l,xs,i,y,rfl,rfl,hH,h1,h2,hz,q⟩:=h
 cases rx
 obtain ⟨a,b,rfl,ra,rb⟩:=rv.two
 obtain ⟨t,rfl⟩:=ra
 obtain ⟨z,its,n,r,hl,e⟩:=I.lstM hH
 have s63:(sizeLine:Int) < 2 ^ 63:=by rw [sizeLine_eq];decide
 have hfit:¬ (!Builtin.List.listFitsIndex i)=true:=by
  rw [fitsIndex_both (by omega) (by omega)]
  exact zKV
 refine call_meets F.slot_list_insert ⟨_,e,rfl⟩ F.entry_list_insert (F.args_list_insert_3 _ _ _) (AutoSeq1.list_insert_list_int_val_1 l its.toArray n i t b hfit (by rw [zKB];omega)) ⟨e,?_⟩
 refine ⟨.non,_,I.lset (its':=its.take i.toNat ++ b :: its.drop i.toNat) hH e ?_ ((r.take _).append (.cons rb (r.drop _))) ?_,rfl,q⟩
 ·have c:¬ i < 0:=by omega
  have m:min i.toNat its.length=i.toNat:=Nat.min_eq_left (by omega)
  show (have k:=if i < 0 then (i + ((its.toArray).size:Int)).toNat else min i.toNat its.toArray.size;(its.toArray.extract 0 k).push b ++ its.toArray.extract k)=_
  simp only [if_neg c,zKB,m]
  refine Array.ext' ?_
  simp
  exact zKS (by rw [List.length_drop];exact zKC _)
 ·rw [zKL,zKO,zKM,List.length_drop]
  omega
end
end L2
namespace L2
open PySem PySem.Spec PyProof.Rows
theorem zBG (c:Nat):∀ (xs:List (List Nat)) (u v:List Nat) (ys:List (List Nat)),jn c (xs ++ [u]) ++ jn c (v :: ys)=jn c (xs ++ (u ++ v) :: ys)
 | [],u,v,[]=>by simp [jn]
 | [],u,v,y :: ys=>by
  show u ++ (v ++ c :: jn c (y :: ys))=(u ++ v) ++ c :: jn c (y :: ys)
  rw [zKY]
 | x :: xs,u,v,ys=>by
  have h:=zBG c xs u v ys
  have e1:jn c (x :: xs ++ [u])=x ++ c :: jn c (xs ++ [u]):=by
   cases xs <;> rfl
  have e2:jn c (x :: xs ++ (u ++ v) :: ys)=x ++ c :: jn c (xs ++ (u ++ v) :: ys):=by
   cases xs <;> rfl
  rw [e1,e2,<- h]
  simp
theorem pT (c:Nat):∀ (x:List Nat) (r:List (List Nat)),(∀ y ∈ x :: r,c ∉ y)->(jn c (x :: r)).count c=r.length
 | x,[],h=>by
  show x.count c=0
  exact List.count_eq_zero.mpr (h x zKW)
 | x,y :: r,h=>by
  show (x ++ c :: jn c (y :: r)).count c=r.length + 1
  rw [List.count_append,List.count_cons_self,pT c y r fun z hz=>h z (zKG _ hz),List.count_eq_zero.mpr (h x zKW)]
  omega
def wdL (l:Str):Nat:=l.cps.toList.count 32 + 1
theorem mI (c:Nat) (z:Str):jn c ((Txt.split z ⟨#[c]⟩).map fun y=>y.cps.toList)=z.cps.toList:=by
 have e:=congrArg (fun z:Str=>z.cps.toList) (StrLaws.join_split z ⟨#[c]⟩)
 rw [xG] at e
 exact e
theorem wY (l:Str):(Txt.split l ⟨#[32]⟩).length=wdL l:=by
 have e:=mI 32 l
 have fr:=StrLaws.split_free l 32
 have ne:=y4 l ⟨#[32]⟩
 unfold wdL
 cases h:Txt.split l ⟨#[32]⟩ with
 | nil=>exact absurd h ne
 | cons x r=>
  rw [h] at e fr
  rw [<- e,List.map_cons,pT,zJ3]
  ·rfl
  ·intro y hy
   rw [<- List.map_cons (f:=fun y:Str=>y.cps.toList)] at hy
   obtain ⟨p,hp,rfl⟩:=List.mem_map.mp hy
   exact fr p hp
theorem wE (x y:Str):(x ++ y).cps.toList=x.cps.toList ++ y.cps.toList:=by
 show (x.cps ++ y.cps).toList=_
 rw [Array.toList_append]
theorem uY {c:Nat} {x y u v:Str} {xs ys:List Str} (hx:Txt.split x ⟨#[c]⟩=xs ++ [u]) (hy:Txt.split y ⟨#[c]⟩=v :: ys):Txt.split (x ++ y) ⟨#[c]⟩=xs ++ (u ++ v) :: ys:=by
 have ex:=mI c x
 have ey:=mI c y
 have fx:=StrLaws.split_free x c
 have fy:=StrLaws.split_free y c
 rw [hx] at ex fx
 rw [hy] at ey fy
 have e:x ++ y=Str.join ⟨#[c]⟩ (xs ++ (u ++ v) :: ys):=by
  refine wD ?_
  rw [wE,xG,<- ex,<- ey,zKF,zKF,List.map_cons,List.map_cons,List.map_nil,List.map_cons,wE,zBG]
 rw [e]
 refine xY (by simp) fun z hz=>?_
 rcases zKK.mp hz with h | h
 ·exact fx z (List.mem_append_left _ h)
 ·rcases List.mem_cons.mp h with rfl | h
  ·rw [wE]
   intro hm
   rcases zKK.mp hm with h | h
   ·exact fx u (by simp) h
   ·exact fy v (by simp) h
  ·exact fy z (zKG _ h)
def PAB (A B:Nat) (ls:List Str):Prop:=(∀ l ∈ ls,wdL l <= A)/\∀ (i j:Nat) (l m:Str),i ≠ j->ls[i]?=some l->ls[j]?=some m->wdL l <= B \/ wdL m <= B
theorem m7 {A B C:Nat} {ls ls':List Str} (h:PAB A B ls) (hc:A <= C) (sub:∀ l ∈ ls',l ∈ ls):PAB C A ls':=
 ⟨fun l hl=>zKE (h.1 l (sub l hl)) hc,fun i j l m _ hl _=>.inl (h.1 l (sub l (zJ7 hl)))⟩
theorem dC {A B C:Nat} {ls pre suf:List Str} {y:Str} (h:PAB A B ls) (hc:A <= C) (sub:∀ l ∈ pre ++ suf,l ∈ ls) (hy:wdL y <= C):PAB C A (pre ++ y :: suf):=by
 have old:∀ (i:Nat) (l:Str),i ≠ pre.length->(pre ++ y :: suf)[i]?=some l->l ∈ ls:=fun i l hi hl=>by
  rcases Nat.lt_or_ge i pre.length with h1 | h1
  ·rw [zKR h1] at hl
   exact sub l (List.mem_append_left _ (zJ7 hl))
  ·rw [zKQ h1] at hl
   cases e:i - pre.length with
   | zero=>omega
   | succ k=>
    rw [e,List.getElem?_cons_succ] at hl
    exact sub l (zKH _ (zJ7 hl))
 refine ⟨fun l hl=>?_,fun i j l m ij hl hm=>?_⟩
 ·rcases zKK.mp hl with h1 | h1
  ·exact zKE (h.1 l (sub l (List.mem_append_left _ h1))) hc
  ·rcases List.mem_cons.mp h1 with rfl | h1
   ·exact hy
   ·exact zKE (h.1 l (sub l (zKH _ h1))) hc
 ·by_cases hi:i=pre.length
  ·exact .inr (h.1 m (old j m (fun e=>ij (hi.trans e.symm)) hm))
  ·exact .inl (h.1 l (old i l hi hl))
theorem qF (x y:Str):wdL (x ++ y) + 1=wdL x + wdL y:=by
 unfold wdL
 rw [wE,List.count_append];omega
theorem d8 {c:Str} (h:c.length <= 1):wdL c <= 2:=by
 unfold wdL
 have:=List.count_le_length (l:=c.cps.toList) (a:=32)
 have e:c.cps.toList.length=c.length:=Array.length_toList
 omega
theorem vZ (x:Str):1 <= wdL x:=by unfold wdL;omega
theorem oZ {x y c u v:Str} {xs ys:List Str} (hx:Txt.split x ⟨#[10]⟩=xs ++ [u]) (hy:Txt.split y ⟨#[10]⟩=v :: ys) (hc:c.length <= 1) :
  Txt.split (x ++ c ++ y) ⟨#[10]⟩=xs ++ (u ++ c ++ v) :: ys \/ Txt.split (x ++ c ++ y) ⟨#[10]⟩=xs ++ u :: v :: ys:=by
 by_cases h:10 ∈ c.cps.toList
 ·right
  have ec:c=⟨#[10]⟩:=by
   refine wD ?_
   have e:c.cps.toList.length=c.length:=Array.length_toList
   cases q:c.cps.toList with
   | nil=>rw [q] at h;cases h
   | cons a r=>
    rw [q] at h e
    have:r=[]:=List.length_eq_zero_iff.mp (by rw [zKO] at e;omega)
    subst this
    rw [<- zJ6.mp h]
  subst ec
  have e1:Txt.split (⟨#[10]⟩:Str) ⟨#[10]⟩=[Str.empty,Str.empty]:=by decide +kernel
  have h1:=uY hx e1
  have h2:Txt.split (x ++ ⟨#[10]⟩) ⟨#[10]⟩=(xs ++ [u]) ++ [Str.empty]:=by
   rw [h1,show u ++ Str.empty=u from by refine wD ?_;rw [wE];simp [Str.empty]]
   simp
  have h3:=uY h2 hy
  rw [h3,show Str.empty ++ v=v from by refine wD ?_;rw [wE];simp [Str.empty]]
  simp
 ·left
  have e1:Txt.split c ⟨#[10]⟩=[c]:=by
   have e:Str.join ⟨#[10]⟩ [c]=c:=by
    refine wD ?_
    rw [xG];rfl
   have:=xY (c:=10) (ys:=[c]) (by simp) (fun y hy=>by rw [zJ6.mp hy];exact h)
   rw [e] at this
   exact this
  exact uY (uY hx e1) hy
theorem zAL {A B:Nat} {x y c d:Str} (hc:c.length <= 1) (hd:d.length <= 1) (ba:B <= A) (h:PAB A B (Txt.split (x ++ d ++ y) ⟨#[10]⟩)):PAB (A + B + 1) A (Txt.split (x ++ c ++ y) ⟨#[10]⟩):=by
 obtain ⟨xs,u,hx⟩:∃ xs u,Txt.split x ⟨#[10]⟩=xs ++ [u]:=by
  rcases List.eq_nil_or_concat (Txt.split x ⟨#[10]⟩) with e | ⟨l,b,e⟩
  ·exact absurd e (y4 _ _)
  ·exact ⟨l,b,by rw [e];simp⟩
 obtain ⟨v,ys,hy⟩:∃ v ys,Txt.split y ⟨#[10]⟩=v :: ys:=by
  cases e:Txt.split y ⟨#[10]⟩ with
  | nil=>exact absurd e (y4 _ _)
  | cons a r=>exact ⟨a,r,rfl⟩
 have c2:=d8 hc
 have cc:=vZ c
 have dd:=vZ d
 have w1:=qF u c
 have w2:=qF (u ++ c) v
 have w3:=qF u d
 have w4:=qF (u ++ d) v
 have pu:=vZ u
 have pv:=vZ v
 have fin:wdL u + wdL v <= A + B + 1->(∀ l ∈ xs ++ ys,l ∈ Txt.split (x ++ d ++ y) ⟨#[10]⟩)->wdL u <= A->wdL v <= A->PAB (A + B + 1) A (Txt.split (x ++ c ++ y) ⟨#[10]⟩):=fun hs sub hu hv=>by
  rcases oZ hx hy hc with e | e
  ·rw [e]
   exact dC h (by omega) sub (by omega)
  ·rw [e]
   have old:∀ l ∈ xs ++ u :: v :: ys,wdL l <= A:=fun l hl=>by
    rcases zKK.mp hl with h1 | h1
    ·exact h.1 l (sub l (List.mem_append_left _ h1))
    ·rcases List.mem_cons.mp h1 with rfl | h1
     ·exact hu
     ·rcases List.mem_cons.mp h1 with rfl | h1
      ·exact hv
      ·exact h.1 l (sub l (zKH _ h1))
   exact ⟨fun l hl=>zKE (old l hl) (by omega),fun i j l m _ hl _=>.inl (old l (zJ7 hl))⟩
 rcases oZ hx hy hd with e | e
 ·have h1:=h.1 (u ++ d ++ v) (by rw [e];simp)
  refine fin (by omega) (fun l hl=>?_) (by omega) (by omega)
  rw [e]
  rcases zKK.mp hl with q | q
  ·exact List.mem_append_left _ q
  ·exact zKH _ (zKG _ q)
 ·have h1:=h.1 u (by rw [e];simp)
  have h2:=h.1 v (by rw [e];simp)
  have h3:=h.2 xs.length (xs.length + 1) u v (by omega) (by rw [e,zKQ (zKC _)];simp) (by rw [e,zKQ (by omega)];simp)
  refine fin (by omega) (fun l hl=>?_) h1 h2
  rw [e]
  rcases zKK.mp hl with q | q
  ·exact List.mem_append_left _ q
  ·exact zKH _ (zKG _ (zKG _ q))
theorem kR {z:Str} {a k:Int} (a0:0 <= a) (a1:a <= z.length) (hk:k=0 \/ k=1):∃ d:Str,d.length <= 1/\z=Txt.slice z none (some a) ++ d ++ Txt.slice z (some (a + k)) none:=by
 have e0:z.cps.toList.length=z.length:=Array.length_toList
 have ea:=eq_of_beq (PyProof.Rows.slice_closes_to (x:=z) (j:=a) ⟨a0,by rw [e0];exact a1⟩)
 have ec:(Txt.slice z none (some a)).cps.toList=z.cps.toList.take a.toNat:=by
  rw [ea]
  show (z.cps.toList.drop 0).take (a - 0).toNat=_
  rw [List.drop_zero,Int.sub_zero]
 by_cases hb:a + k <= z.length
 ·have eb:=PyProof.Rows.slice_from_eq (x:=z) (i:=a + k) (b:=z.length) (by omega) hb rfl
  have ed:(Txt.slice z (some (a + k)) none).cps.toList=z.cps.toList.drop (a + k).toNat:=by
   rw [eb]
   show (z.cps.toList.drop (a + k).toNat).take ((z.length:Int) - (a + k)).toNat=_
   exact zKS (by rw [List.length_drop,e0];omega)
  refine ⟨⟨((z.cps.toList.drop a.toNat).take k.toNat).toArray⟩,?_,?_⟩
  ·show (List.toArray _).size <= 1
   rw [zKB,zKM];omega
  ·refine wD ?_
   rw [wE,wE,ec,ed]
   show _=_ ++ (z.cps.toList.drop a.toNat).take k.toNat ++ _
   rw [show (a + k).toNat=a.toNat + k.toNat by omega,<- List.drop_drop,zKY,List.take_append_drop,List.take_append_drop]
 ·have ib:=PyProof.Rows.indices_beyond (n:=z.length) (i:=a + k) (by omega)
  have es:Txt.slice z (some (a + k)) none=Txt.slice z (some (z.length:Int)) none:=by
   unfold Txt.slice
   rw [ib]
  have eb:=PyProof.Rows.slice_from_eq (x:=z) (i:=z.length) (b:=z.length) (by omega) (Int.le_refl _) rfl
  refine ⟨Str.empty,by show 0 <= 1;decide,?_⟩
  refine wD ?_
  rw [wE,wE,ec,es,eb]
  show _=_ ++ [] ++ (z.cps.toList.drop (z.length:Int).toNat).take ((z.length:Int) - z.length).toNat
  rw [List.append_nil,show ((z.length:Int) - z.length).toNat=0 by omega,List.take_zero,List.append_nil]
  exact (zKS (by rw [e0];omega)).symm
theorem zF1 {c d:Nat} (n:c ≠ d):∀ {xs:List (List Nat)},(∀ x ∈ xs,c ∉ x)->c ∉ jn d xs
 | [],_=>by simp [jn]
 | [x],h=>by
  show c ∉ x
  exact h x zKW
 | x :: y :: r,h=>by
  show c ∉ x ++ d :: jn d (y :: r)
  intro hm
  rcases zKK.mp hm with q | q
  ·exact h x zKW q
  ·rcases List.mem_cons.mp q with q | q
   ·exact n q
   ·exact zF1 n (fun z hz=>h z (zKG _ hz)) q
theorem lW {js:List Str} (f32:∀ z ∈ js,32 ∉ z.cps.toList):wdL (Txt.join ⟨#[32]⟩ js) <= max js.length 1:=by
 rw [vR]
 unfold wdL
 rw [xG]
 cases js with
 | nil=>simp [jn]
 | cons x r=>
  rw [List.map_cons,pT,zJ3,zKO]
  ·omega
  ·intro y hy
   rw [<- List.map_cons (f:=fun y:Str=>y.cps.toList)] at hy
   obtain ⟨p,hp,rfl⟩:=List.mem_map.mp hy
   exact f32 p hp
theorem dG {js:List Str} (f10:∀ z ∈ js,10 ∉ z.cps.toList):10 ∉ (Txt.join ⟨#[32]⟩ js).cps.toList:=by
 rw [vR,xG]
 refine zF1 (by decide) fun x hx=>?_
 obtain ⟨p,hp,rfl⟩:=List.mem_map.mp hx
 exact f10 p hp
theorem zAM {A B:Nat} {ls ls':List Str} (ne:ls ≠ []) (h:PAB A B ls) (f10:∀ z ∈ ls',10 ∉ z.cps.toList) (h':PAB (A + B + 1) A ls'):PAB (A + B + 1) A (Txt.split (Txt.join ⟨#[10]⟩ ls') ⟨#[10]⟩):=by
 rw [vR]
 by_cases e:ls'=[]
 ·subst e
  rw [show Txt.split (Str.join (⟨#[10]⟩:Str) []) ⟨#[10]⟩=[Str.empty] by decide +kernel]
  obtain ⟨l,hl⟩:=List.exists_mem_of_ne_nil ls ne
  have p1:=h.1 l hl
  have p2:=vZ l
  have p3:wdL Str.empty=1:=by decide +kernel
  refine ⟨fun l hl=>by rw [zJ6.mp hl,p3];omega,fun i j l m ij hl hm=>?_⟩
  have i0:=(zJ5.mp hl).1
  have j0:=(zJ5.mp hm).1
  simp at i0 j0
  omega
 ·rw [xY e f10]
  exact h'
end L2
namespace K83
open PySem L2
abbrev zC5:Stmt:=top 44
theorem uM:(" " : Str)=⟨#[32]⟩:=by decide +kernel
theorem jL:("\n" : Str)=⟨#[10]⟩:=by decide +kernel
@[irreducible] def spNx:Sp:=tQ
theorem fU:spNx=tQ:=by unfold spNx;rfl
theorem wG {H:Hp} {p:Addr} {m:Int} {Q:VK} {E:XK} (s:Src H p) (m0:0 < m) (m1:m < 4611686018427387904) (h:∀ (v:Int) (H':Hp),0 <= v->v < m->zD [p] H H'->Src H' p->Q (.int v) H'):spNx [.ref p,.int m] H Q E:=by
 obtain ⟨a,b,c,hp⟩:=s
 rw [fU]
 exact ⟨p,a,b,c,m,rfl,hp,m0,m1,fun v a' c' v0 v1=>h v _ v0 v1 (zD.at (by simp)) ⟨a',b,c',zC⟩⟩
def wt (ws:List Str):Nat:=(ws.map (·.length)).sum + ws.length
theorem uJ (a b:List Str):wt (a ++ b)=wt a + wt b:=by
 unfold wt
 rw [zKF,List.sum_append,zKL];omega
theorem xQ (x:Str) (a:List Str):wt (x :: a)=x.length + 1 + wt a:=by
 unfold wt
 rw [List.map_cons,List.sum_cons,zKO];omega
theorem iL (ws:List Str) (n:Nat):wt (ws.take n) + wt (ws.drop n)=wt ws:=by
 rw [<- uJ,List.take_append_drop]
theorem zF9 (ws:List Str):wt ws.reverse=wt ws:=by
 induction ws with
 | nil=>rfl
 | cons x r ih=>rw [List.reverse_cons,uJ,ih,xQ,xQ];show _ + (_ + 1 + 0)=_;omega
theorem mD:∀ {ws:List Str} {i:Nat} {x:Str} (y:Str),ws[i]?=some x->wt (ws.set i y) + x.length=wt ws + y.length
 | [],i,x,y,h=>by simp at h
 | a :: r,0,x,y,h=>by
  obtain rfl:a=x:=zKA h
  rw [List.set_cons_zero,xQ,xQ];omega
 | a :: r,i + 1,x,y,h=>by
  have:=mD (ws:=r) (i:=i) y (by simpa using h)
  rw [List.set_cons_succ,xQ,xQ];omega
theorem zF8 {a b:List Str} (h:a.Sublist b):wt a <= wt b:=by
 induction h with
 | slnil=>exact zKC _
 | cons x _ ih=>rw [xQ];omega
 | cons_cons x _ ih=>rw [xQ,xQ];omega
theorem zIA {ws:List Str} {i:Nat} {x:Str} (h:ws[i]?=some x):x.length + 1 <= wt ws:=by
 have:=mD Str.empty h
 have hl:1 <= wt (ws.set i Str.empty):=by
  unfold wt
  rw [zK4]
  have:=(zJ5.mp h).1
  omega
 have e:Str.empty.length=0:=rfl
 omega
theorem bR (ws:List Str) (n:Nat) (y:Str):wt (ws.take n ++ y :: ws.drop n)=wt ws + y.length + 1:=by
 rw [uJ,xQ,<- iL ws n];omega
theorem vL (ws:List Str):ws.length <= wt ws:=by unfold wt;omega
theorem dZ (l:List Str) {a b:Int} (a0:0 <= a) (h:a <= l.length) (hb:a <= b):∃ m:List Str,rM (l.map V.str) (some a) (some b)=m.map V.str/\wt (l.take a.toNat) + wt m + wt (l.drop b.toNat) <= wt l/\(∀ z ∈ m,z ∈ l)/\(l.take a.toNat).length + m.length + (l.drop b.toNat).length <= l.length/\m.length <= (b - a).toNat:=by
 obtain ⟨n,rfl⟩:=Int.eq_ofNat_of_zero_le a0
 obtain ⟨k,rfl⟩:=Int.eq_ofNat_of_zero_le (Int.le_trans a0 hb)
 unfold rM
 rw [HT.sIx_nat,HT.sIx_nat,zJ3]
 have hn:n <= l.length:=by omega
 have hk:n <= k:=by omega
 refine ⟨(l.drop (min n l.length)).take (min k l.length - min n l.length),by rw [List.map_take,List.map_drop],?_,fun z hz=>List.mem_of_mem_drop (List.mem_of_mem_take hz),?_,?_⟩
 rotate_left
 ·rw [zKM,zKM,List.length_drop,List.length_drop]
  show min n l.length + _ + (l.length - k) <= _
  omega
 ·rw [zKM,List.length_drop];omega
 rw [Nat.min_eq_left hn]
 show wt (l.take n) + _ + wt (l.drop k) <= _
 have c1:=iL l n
 have c2:=iL (l.drop n) (min k l.length - n)
 rw [List.drop_drop] at c2
 have e:l.drop k=l.drop (n + (min k l.length - n)):=by
  rcases Nat.le_total k l.length with h | h
  ·rw [Nat.min_eq_left h];congr 1;omega
  ·rw [List.drop_of_length_le h,List.drop_of_length_le (by rw [Nat.min_eq_right h];omega)]
 rw [e];omega
theorem qV (z:Str) (c:Nat):wt (Txt.split z ⟨#[c]⟩) <= z.length + 1:=PyProof.Rows.split_weight z ⟨#[c]⟩ (by show 1 <= 1;decide)
theorem uR (c:Nat) (ws:List Str):(Txt.join ⟨#[c]⟩ ws).length <= wt ws:=by rw [vR];exact qX c ws
def cY:List Str:=["","any","a","0","01","7","1234567","tie","tree","+","-"]
def cX:List Str:=["ask","back","A","house","mend"]
theorem zD0:∀ z ∈ cY ++ cX,z.length <= 8:=by decide +kernel
theorem zHP:∀ z ∈ cY ++ cX,32 ∉ z.cps.toList/\10 ∉ z.cps.toList:=by decide +kernel
def rA:Str:=" !\"#$&'()*+,-./0123456789:;<=>?@"
def sZ:Str:="ABCDEFGHIJKLMNOPQRSTUVWXYZ[\\]^_`abcdefghijklmnopqrstuvwxyz{|}~\n"
theorem cJ:(rA ++ sZ).length <= 200/\0 < (rA ++ sZ).length/\rA.length + sZ.length <= 200:=by decide +kernel
theorem qR {α:Type} {l:List α} {i:Int} (h0:0 <= i) (h1:i < l.length):∃ x,l[i.toNat]?=some x/\atI l i=some x:=by
 have hl:i.toNat < l.length:=by omega
 refine ⟨l[i.toNat],by simp [hl],?_⟩
 obtain ⟨n,rfl⟩:=Int.eq_ofNat_of_zero_le h0
 exact wV (j:=n) (by simp at hl ⊢)
theorem gH {n:Nat} {i:Int} (h0:0 <= i) (h1:i < n):ixN n i=some i.toNat:=by
 unfold ixN
 simp only [h0,h1,if_true,and_self]
theorem nO:∀ (l:List Str) (i:Nat),(l.map V.str).eraseIdx i=(l.eraseIdx i).map V.str
 | [],i=>rfl
 | a :: r,0=>rfl
 | a :: r,i + 1=>by
  show V.str a :: (r.map V.str).eraseIdx i=V.str a :: (r.eraseIdx i).map V.str
  rw [nO r i]
theorem Src.put {H:Hp} {p c:Addr} {o:HO} (h:Src H p) (n:p ≠ c):Src (upd H c o) p:=by
 obtain ⟨x,y,z,e⟩:=h
 exact ⟨x,y,z,by rw [zI n];exact e⟩
def nlW:Str->List Str:=fun z=>Txt.split z ⟨#[10]⟩
theorem zBD {c d:Nat}:∀ {xs:List (List Nat)} {x:List Nat},x ∈ xs->c ∈ x->c ∈ jn d xs
 | [],_,h,_=>by cases h
 | [y],x,h,hc=>by
  show c ∈ y
  rw [<- zJ6.mp h];exact hc
 | y :: z :: r,x,h,hc=>by
  show c ∈ y ++ d :: jn d (z :: r)
  rcases List.mem_cons.mp h with rfl | h
  ·exact List.mem_append_left _ hc
  ·exact zKH _ (zKG _ (zBD h hc))
theorem lV {t:Str} (h:10 ∉ t.cps.toList):∀ z ∈ Txt.split t ⟨#[32]⟩,32 ∉ z.cps.toList/\10 ∉ z.cps.toList:=fun z hz=>by
 refine ⟨StrLaws.split_free t 32 z hz,fun hm=>h ?_⟩
 rw [<- mI 32 t]
 exact zBD (List.mem_map.mpr ⟨z,hz,rfl⟩) hm
theorem dB {A B:Nat} {ls:List Str} {i:Nat} {t y:Str} (h:PAB A B ls) (hi:ls[i]?=some t) (hy:wdL y <= wdL t + 1):PAB (A + B + 1) A (ls.set i y):=by
 have hl:=(zJ5.mp hi).1
 have ht:=h.1 t (zJ7 hi)
 rw [List.set_eq_take_append_cons_drop,if_pos hl]
 refine dC h (by omega) (fun l hm=>?_) (by omega)
 rcases zKK.mp hm with q | q
 ·exact List.mem_of_mem_take q
 ·exact List.mem_of_mem_drop q
theorem zAZ {ls:List Str} {i:Nat} {y:Str} (h:∀ l ∈ ls,10 ∉ l.cps.toList) (hy:10 ∉ y.cps.toList):∀ l ∈ ls.set i y,10 ∉ l.cps.toList:=fun l hl=>by
 rcases List.mem_or_eq_of_mem_set hl with q | q
 ·exact h l q
 ·rw [q];exact hy
theorem lI {ls es:List Str} {i n:Nat} {t l:Str} (ht:ls[i]?=some t) (sub:∀ {x:Str},x ∈ es->x ∈ ls) (hl:l ∈ es.take n ++ t :: es.drop n):l ∈ ls:=by
 rcases zKK.mp hl with q | q
 ·exact sub (List.mem_of_mem_take q)
 ·rcases List.mem_cons.mp q with rfl | q
  ·exact zJ7 ht
  ·exact sub (List.mem_of_mem_drop q)
section
variable {P:Program} {w:World} {K:W.Frag} {mg:Str->Option Value} {base:Heap} {C:Addr}
theorem wH:zO ["_law_source","_law_text","_law_way","_law_at","_law_signs","_law_sign","_law_lines","_law_here","_law_words","_law_spot","_law_some","_law_odd","_law_more","_law_pair"] ["_law_source","_law_text"] (zF zC5):=scm
def zFN:Sp:=fun vs H Q _=>∃ (p:Addr) (z:Str),vs=[.ref p,.str z]/\Src H p/\z.length <= 10000/\∀ (y:Str) (H':Hp),y.length <= 2 * z.length + 20->(∀ A B:Nat,B <= A->PAB A B (nlW z)->PAB (A + B + 1) A (nlW y))->zD [p] H H'->Src H' p->Q (.str y) H'
set_option maxHeartbeats 0 in
theorem zJB (G:yD K mg "_law_spoilt" zC5 ["_law_source","_law_text"]) (CN:Cal P w K mg base CX0 2 "_law_next" ["_law_source","_law_many"] spNx) (b_len:Blt mg "len") (b_min:Blt mg "min"):Cal P w K mg base CX0 3 "_law_spoilt" ["_law_source","_law_text"] zFN:=by
 refine G.ok wH (fun vs H Q E h=>by obtain ⟨p,z,rfl,_⟩:=h;rfl) (fun f cdv A outer s H vs Q E hr h=>?_)
 obtain ⟨p,z,rfl,sr,lz,q⟩:=h
 have hr2:zX 2 _:=hr
 refine ⟨_,(zE (zL (i:=2) wH.nd rfl (Or.inl rfl) (zK CN hr2 (zA (pv 0) (zA zG zB))))
   (zE (zL (i:=3) wH.nd rfl (Or.inl rfl) (zK CN hr2 (zA (pv 0) (zA (zN yT (zM zU b_len yH (zA (pv 1) zB)) zG) zB))))
   (zE (zL (i:=4) wH.nd rfl (Or.inl rfl) zS)
   (zE (zL (i:=4) wH.nd rfl (Or.inl rfl) (zN yZ (pv 4) zS))
   (zE (zL (i:=5) wH.nd rfl (Or.inl rfl) (yI lH (pv 4) (zK CN hr2 (zA (pv 0) (zA (zM zU b_len yH (zA (pv 4) zB)) zB))) (fun _ _=>rfl)))
   (zE (yW (zZ zAR (pv 2) zG (z6 _)) (zJ (zT (zN yZ (zN yZ (yJ mO (pv 1) yX (yL (pv 3))) (yI yA (yP (zA (pv 5) (zA zS (zA (pv 5) zB)))) (pv 2) (fun _ _=>rfl))) (yJ mO (pv 1) (yL (zN yT (pv 3) (zM (bJ rfl) b_min fG (zA zG (zA (pv 2) zB))))) yX)))) yE)
   (zE (zL (i:=6) wH.nd rfl (Or.inl rfl) (yS F.plainAttrs_str F.slot_str_split F.type_str_split xL (pv 1) (zA zS zB)))
   (zE (zL (i:=7) wH.nd rfl (Or.inl rfl) (zK CN hr2 (zA (pv 0) (zA (zM zU b_len yH (zA (pv 6) zB)) zB))))
   (zE (yW (zZ zAR (pv 2) zG (z6 _)) (zE (zL (i:=8) wH.nd rfl (Or.inl rfl) (yS F.plainAttrs_str F.slot_str_split F.type_str_split xL (yI yA (pv 6) (pv 7) (fun _ _=>rfl)) (zA zS zB)))
   (zE (zL (i:=9) wH.nd rfl (Or.inl rfl) (zK CN hr2 (zA (pv 0) (zA (zM zU b_len yH (zA (pv 8) zB)) zB))))
   (@zE _ _ _ _ _ (@eW _ _ _ 10 _ _ _ _ wH.nd rfl (Or.inl rfl) (Or.inl rfl) (@zAN _ _ (cY.map V.str) (.cons .str (.cons .str (.cons .str (.cons .str (.cons .str (.cons .str (.cons .str (.cons .str (.cons .str (.cons .str (.cons .str .nil)))))))))))))
   (zE (zL (i:=10) wH.nd rfl (Or.inl rfl) (zN tT (pv 10) (yP (zA zS (zA zS (zA zS (zA zS (zA zS zB))))))))
   (zE (zL (i:=11) wH.nd rfl (Or.inl rfl) (yI yA (pv 10) (zK CN hr2 (zA (pv 0) (zA zG zB))) (fun _ _=>rfl)))
   (zE (zL (i:=12) wH.nd rfl (Or.inl rfl) (yI yA (yP (zA (zN zG6 (yJ xH (pv 8) (yL (pv 9)) (yL (zN yT (pv 9) zG))) zG) (zA (yP zB) (zA (yP (zA (pv 11) zB)) zB)))) (zN rH (pv 2) zG) (fun _ _=>rfl)))
   (zJ (vO (yS F.plainAttrs_str F.slot_str_join F.type_str_join u8 zS (zA (zN tT (zN tT (yJ xH (pv 8) yX (yL (pv 9))) (pv 12)) (yJ xH (pv 8) (yL (zN yT (pv 9) zG)) yX)) zB)) (mY (pv 6) (pv 7) sF))))))))) (zJ (yW (zZ tJ (pv 2) zG (z6 _)) (zJ (xC (yS F.plainAttrs_list F.slot_list_insert F.type_list_insert oY (pv 6) (zA (zK CN hr2 (zA (pv 0) (zA (zN yT (zM zU b_len yH (zA (pv 6) zB)) zG) zB))) (zA (yI yA (pv 6) (pv 7) (fun _ _=>rfl)) zB))))) (zJ (yW (zZ tJ (pv 2) zG (z6 _)) (zJ (xC (yS F.plainAttrs_list F.slot_list_pop F.type_list_pop pJ (pv 6) (zA (pv 7) zB)))) (zJ (yW (zZ tJ (pv 2) zG (z6 _)) (zJ (xC (yS F.plainAttrs_list F.slot_list_insert F.type_list_insert oY (pv 6) (zA (zK CN hr2 (zA (pv 0) (zA (zM zU b_len yH (zA (pv 6) zB)) zB))) (zA (yS F.plainAttrs_list F.slot_list_pop F.type_list_pop pJ (pv 6) (zA (pv 7) zB)) zB))))) (zE (zL (i:=8) wH.nd rfl (Or.inl rfl) (yS F.plainAttrs_str F.slot_str_split F.type_str_split xL (yI yA (pv 6) (pv 7) (fun _ _=>rfl)) (zA zS zB)))
   (zE (zL (i:=9) wH.nd rfl (Or.inl rfl) (zK CN hr2 (zA (pv 0) (zA (zM zU b_len yH (zA (pv 8) zB)) zB))))
   (zE (zL (i:=13) wH.nd rfl (Or.inl rfl) (zDQ (yJ xH (pv 8) (yL (pv 9)) (yL (zN yT (pv 9) zG)))))
   (zJ (vO (yS F.plainAttrs_str F.slot_str_join F.type_str_join u8 zS (zA (zN tT (zN tT (yJ xH (pv 8) yX (yL (pv 9))) (pv 13)) (yJ xH (pv 8) (yL (zN yT (pv 9) zG)) yX)) zB)) (mY (pv 6) (pv 7) sF)))))))))))))
   (zJ (zT (yS F.plainAttrs_str F.slot_str_join F.type_str_join u8 zS (zA (pv 6) zB))))))))))))),?_⟩
 refine ⟨_,rfl,?_⟩
 refine wG (m:=10) sr (by decide) (by decide) fun way H1 w0 w1 k1 s1=>?_
 refine ⟨_,rfl,_,rfl,_,_,rfl,⟨by rw [sizeLine_eq];omega,rfl⟩,_,_,rfl,rfl,?_⟩
 refine wG (m:=z.length + 1) s1 (by omega) (by omega) fun at' H2 a0 a1 k2 s2=>?_
 have sl:=cJ
 refine ⟨_,rfl,rA,sZ,rfl,rfl,by rw [sizeLine_eq];omega,?_⟩
 refine ⟨_,rfl,_,rfl,_,rfl,_,_,rfl,⟨by rw [sizeLine_eq];omega,rfl⟩,?_⟩
 refine wG (m:=(rA ++ sZ).length) s2 (by omega) (by omega) fun si H3 i0 i1 k3 s3=>?_
 obtain ⟨sg,_,es⟩:=qR (l:=(rA ++ sZ).cps.toList) i0 (by rw [Array.length_toList];exact i1)
 refine ⟨_,_,sg,rfl,rfl,by rw [sizeLine_eq];omega,es,?_⟩
 have k03:=k1.trans (k2.trans k3)
 have lsg:(⟨#[sg]⟩:Str).length=1:=rfl
 generalize (⟨#[sg]⟩:Str)=sgn at lsg
 refine ⟨_,rfl,_,_,rfl,rfl,_,rfl,qA (fun c1=>?_) (fun c1=>?_)⟩
 ·have c1:way < 3:=of_decide_eq_true c1
  refine ⟨_,rfl,_,rfl,_,rfl,z,rfl,by rw [sizeLine_eq];omega,_,rfl,_,rfl,by show 3 <= sizeLine;decide,fun l hl=>?_⟩
  have k4:zD [] H3 (upd H3 l (.lst [.str sgn,.str "",.str sgn])):=zD.new hl
  obtain ⟨x,hx,ex⟩:=qR (l:=[V.str sgn,V.str "",V.str sgn]) w0 (by simpa using c1)
  obtain ⟨y,rfl,ly⟩:∃ y,x=.str y/\y.length <= 1:=by
   have hm:=zJ7 hx
   simp only [List.mem_cons,zKX,or_false] at hm
   rcases hm with rfl | rfl | rfl
   ·exact ⟨_,rfl,by omega⟩
   ·exact ⟨_,rfl,by decide +kernel⟩
   ·exact ⟨_,rfl,by omega⟩
  have lA:=Txt.slice_le z none (some at')
  refine ⟨_,rfl,l,_,_,_,rfl,rfl,zC,ex,_,_,rfl,rfl,by rw [sizeLine_eq];omega,?_⟩
  refine ⟨_,rfl,_,rfl,_,rfl,_,_,rfl,_,_,rfl,rfl,_,rfl,z,rfl,by rw [sizeLine_eq];omega,?_⟩
  have sgn:∀ A B:Nat,B <= A->PAB A B (nlW z)->PAB (A + B + 1) A (nlW (Txt.slice z none (some at') ++ y ++ Txt.slice z (some (at' + (if way < 1 then way else 1))) none)):=fun A B ba h=>by
   obtain ⟨dd,ld,ez⟩:=kR (z:=z) (a:=at') (k:=if way < 1 then way else 1) a0 (by omega) (by split <;> omega)
   refine zAL ly ld ba ?_
   rw [<- ez]
   exact h
  have lB:=Txt.slice_le z (some (at' + (if way < 1 then way else 1))) none
  refine ⟨_,_,rfl,rfl,by rw [strLen_append,sizeLine_eq];omega,q _ _ (by rw [strLen_append,strLen_append];omega) sgn (k03.trans (k4.mono (by simp))) (s3.on k4)⟩
 have c1:¬ way < 3:=of_decide_eq_false (by simpa using c1)
 refine ⟨_,rfl,rfl,_,10,rfl,by rw [jL],lz,fun ln hln=>?_⟩
 have wl:=qV z 10
 have nel:=y4 z ⟨#[10]⟩
 have hfr:∀ l ∈ Txt.split z ⟨#[10]⟩,10 ∉ l.cps.toList:=StrLaws.split_free z 10
 change ∀ (y:Str) (H':Hp),y.length <= 2 * z.length + 20->(∀ A B:Nat,B <= A->PAB A B (Txt.split z ⟨#[10]⟩)->PAB (A + B + 1) A (nlW y))->zD [p] H H'->Src H' p->Q (.str y) H' at q
 generalize Txt.split z ⟨#[10]⟩=ls at wl nel hfr q
 refine lay hln fun H4 k4 e4=>?_
 have s4:=s3.on k4
 have lp:ln ≠ p:=s3.ne hln
 have ll:=vL ls
 have l1:1 <= ls.length:=Nat.pos_of_ne_zero fun e=>nel (List.length_eq_zero_iff.mp e)
 refine ⟨_,rfl,_,rfl,_,_,rfl,.inl ⟨_,.of e4,rfl⟩,?_⟩
 refine wG (m:=(ls.map V.str).length) s4 (by rw [zJ3];omega) (by rw [zJ3];omega) fun hi H5 h0 h1 k5 s5=>?_
 rw [zJ3] at h1
 have e5:=k5 _ _ (by simp [lp]) e4
 have nln:H ln=none:=k03.none (by simp [lp]) hln
 have k05:zD [p] H H5:=k03.trans ((k4.mono (by simp)).trans k5)
 obtain ⟨t,ht,_⟩:=qR (l:=ls) h0 h1
 have et:atI (ls.map V.str) hi=some (.str t):=by
  obtain ⟨n,rfl⟩:=Int.eq_ofNat_of_zero_le h0
  refine wV (j:=n) ?_
  rw [zJ9,show ls[n]?=some t from ht];rfl
 have wtt:=zIA ht
 refine zD5 ?_
 refine zAV ?_
 refine zGN (fun σ' H'=>∃ ls':List Str,σ'[6]?=some (some (.ref ln))/\H' ln=some (.lst (ls'.map V.str))/\wt ls' <= 2 * z.length + 20/\zD [ln,p] H5 H'/\Src H' p/\(∀ l ∈ ls',10 ∉ l.cps.toList)/\∀ A B:Nat,B <= A->PAB A B ls->PAB (A + B + 1) A ls') ?_ ?_
 ·rintro σ' H' ⟨ls',e6,hl,w,k6,s6,f6,p6⟩
  refine ⟨rfl,_,e6,"\n",ln,ls',rfl,rfl,.of hl,?_,?_⟩
  ·rw [show ("\n" : Str).length=1 from by decide +kernel]
   have:wt ls'=(ls'.map (·.length)).sum + ls'.length:=rfl
   omega
  rw [jL]
  exact q _ _ (zKE (uR 10 ls') w) (fun A B ba h=>zAM nel h f6 (p6 A B ba h)) (fun b o hb hh=>k6 b o (by simp at hb ⊢;exact ⟨fun e=>(by rw [e,nln] at hh;cases hh),hb⟩) (k05 b o hb hh)) s6
 intro nx' hn
 refine ⟨_,rfl,_,_,rfl,rfl,_,rfl,qA (fun c2=>?_) (fun c2=>?_)⟩
 ·have c2:way < 6:=of_decide_eq_true c2
  refine ⟨_,rfl,_,rfl,ln,_,_,_,rfl,rfl,e5,et,rfl,t,32,rfl,by rw [uM],by omega,fun wa hwa=>?_⟩
  have ww:=qV t 32
  have new:=y4 t ⟨#[32]⟩
  have wno:=lV (hfr t (zJ7 ht))
  have wln:=wY t
  generalize Txt.split t ⟨#[32]⟩=ws at ww new wno wln
  refine lay hwa fun H6 k6 e6=>?_
  have s6:=s5.on k6
  have wp:wa ≠ p:=s5.ne hwa
  have lw:=vL ws
  have lw1:1 <= ws.length:=Nat.pos_of_ne_zero fun e=>new (List.length_eq_zero_iff.mp e)
  refine ⟨_,rfl,_,rfl,_,_,rfl,.inl ⟨_,.of e6,rfl⟩,?_⟩
  refine wG (m:=(ws.map V.str).length) s6 (by rw [zJ3];omega) (by rw [zJ3];omega) fun sp H7 p0 p1 k7 s7=>?_
  rw [zJ3] at p1
  have e7:=k7 _ _ (by simp [wp]) e6
  have e7l:=k7 _ _ (by simp [lp]) (k6 _ _ (by simp) e5)
  have k57:zD [ln,p] H5 H7:=(k6.mono (by simp)).trans (k7.mono (by simp))
  refine ⟨by show 11 <= sizeLine;decide,fun o1 ho1=>?_⟩
  refine lay ho1 fun H8 r1 f1=>?_
  refine ⟨_,rfl,by show 5 <= sizeLine;decide,fun o2 ho2=>?_⟩
  refine lay ho2 fun H9 r2 f2=>?_
  have f2:H9 o2=some (.lst (cX.map V.str)):=f2
  refine ⟨o1,o2,_,_,rfl,rfl,r2 _ _ (by simp) f1,f2,by show 11 + 5 <= sizeLine;decide,fun o3 ho3=>?_⟩
  rw [<- zKF]
  refine lay ho3 fun H10 r3 f3=>?_
  have r13:=r1.trans (r2.trans r3)
  have s10:=s7.on r13
  have o3p:o3 ≠ p:=fun e=>by
   have:=(s7.on (r1.trans r2)).ne ho3
   exact this e
  refine ⟨_,rfl,_,rfl,?_⟩
  refine wG (m:=16) s10 (by decide) (by decide) fun oi H11 oi0 oi1 k11 s11=>?_
  obtain ⟨od,hod,_⟩:=qR (l:=cY ++ cX) oi0 (by show oi < 16;exact oi1)
  have lod:=zD0 od (zJ7 hod)
  have eod:atI ((cY ++ cX).map V.str) oi=some (.str od):=by
   obtain ⟨n,rfl⟩:=Int.eq_ofNat_of_zero_le oi0
   refine wV (j:=n) ?_
   rw [zJ9,show (cY ++ cX)[n]?=some od from hod];rfl
  refine ⟨o3,_,_,_,rfl,rfl,k11 _ _ (by simp [o3p]) f3,eod,?_⟩
  have e11:=k11 _ _ (by simp [wp]) (r13 _ _ (by simp) e7)
  have e11l:=k11 _ _ (by simp [lp]) (r13 _ _ (by simp) e7l)
  have k511:zD [ln,p] H5 H11:=k57.trans ((r13.mono (by simp)).trans (k11.mono (by simp)))
  obtain ⟨mid,em,wm,min',mlen,mone⟩:=dZ ws p0 (Int.le_of_lt p1) (b:=sp + 1) (by omega)
  refine ⟨_,rfl,_,rfl,_,rfl,_,rfl,_,_,rfl,rfl,_,rfl,wa,_,rfl,.of e11,fun m1 hm1=>?_⟩
  rw [em]
  refine lay hm1 fun H12 t1 g1=>?_
  have lm:=vL mid
  refine ⟨m1,2,_,rfl,rfl,g1,by decide,by decide,by rw [zJ3,sizeLine_eq];show mid.length * 2 <= _;omega,fun m2 hm2=>?_⟩
  have e2x:(List.replicate (2:Int).toNat (mid.map V.str)).flatten=(mid ++ mid).map V.str:=by
   show (mid.map V.str) ++ ((mid.map V.str) ++ [])=_
   rw [List.append_nil,zKF]
  rw [e2x]
  refine lay hm2 fun H13 t2 g2=>?_
  refine ⟨by show 0 <= sizeLine;decide,fun m3 hm3=>?_⟩
  refine lay hm3 fun H14 t3 g3=>?_
  refine ⟨_,rfl,by show 1 <= sizeLine;decide,fun m4 hm4=>?_⟩
  refine lay hm4 fun H15 t4 g4=>?_
  refine ⟨by show 3 <= sizeLine;decide,fun m5 hm5=>?_⟩
  refine lay hm5 fun HB t5 g5=>?_
  obtain ⟨mx,ms,emx,hmx,wms,hms,lms2⟩:∃ (mx:Addr) (ms:List Str),atI [V.ref m2,.ref m3,.ref m4] (way - 3)=some (.ref mx)/\HB mx=some (.lst (ms.map V.str))/\wt ms <= 2 * wt mid + 9/\(∀ z ∈ ms,32 ∉ z.cps.toList/\10 ∉ z.cps.toList)/\ms.length <= mid.length + 1:=by
   rcases (show way=3 \/ way=4 \/ way=5 by omega) with rfl | rfl | rfl
   ·exact ⟨m2,mid ++ mid,rfl,(t3.trans (t4.trans t5)) _ _ (by simp) g2,by rw [uJ];omega,(fun z hz=>wno z (min' z ((zKK.mp hz).elim id id))),by rw [zKL];omega⟩
   ·exact ⟨m3,[],rfl,(t4.trans t5) _ _ (by simp) g3,by show 0 <= _;omega,(fun z hz=>by cases hz),by simp⟩
   ·exact ⟨m4,[od],rfl,t5 _ _ (by simp) g4,by rw [xQ];show _ + 1 + 0 <= _;omega,(fun z hz=>by rw [zJ6.mp hz];exact zHP od (zJ7 hod)),by simp⟩
  refine ⟨_,rfl,_,_,rfl,rfl,m5,_,_,_,rfl,rfl,g5,emx,?_⟩
  have kB:zD [] H11 HB:=t1.trans (t2.trans (t3.trans (t4.trans t5)))
  have ewB:=kB _ _ (by simp) e11
  have e7l:=e11l
  have k57:=k511
  have s7:=s11
  have lms:=vL ms
  refine ⟨rfl,_,rfl,_,rfl,_,rfl,wa,_,rfl,.of ewB,fun c1 hc1=>?_⟩
  rw [p7 V.str ws p0]
  refine lay hc1 fun HC q1 d1=>?_
  refine ⟨_,rfl,c1,mx,_,_,rfl,rfl,d1,q1 _ _ (by simp) hmx,by rw [zJ3,zJ3,zKM,sizeLine_eq];have:=vL ms;omega,fun c2 hc2=>?_⟩
  rw [<- zKF]
  refine lay hc2 fun HD q2 d2=>?_
  refine ⟨_,rfl,_,rfl,_,_,rfl,rfl,_,rfl,wa,_,rfl,.of ((q1.trans q2) _ _ (by simp) ewB),fun c3 hc3=>?_⟩
  rw [vX V.str ws (k:=sp + 1) (by omega)]
  refine lay hc3 fun HE q3 d3=>?_
  refine ⟨c2,c3,_,_,rfl,rfl,q3 _ _ (by simp) d2,d3,by rw [zJ3,zJ3,zKL,zKM,List.length_drop,sizeLine_eq];have:=vL ms;omega,fun c4 hc4=>?_⟩
  rw [<- zKF]
  refine lay hc4 fun HF q4 d4=>?_
  have wj:wt (ws.take sp.toNat ++ ms ++ ws.drop (sp + 1).toNat) <= 2 * t.length + 11:=by rw [uJ,uJ];omega
  have jno:∀ z ∈ ws.take sp.toNat ++ ms ++ ws.drop (sp + 1).toNat,32 ∉ z.cps.toList/\10 ∉ z.cps.toList:=fun z hz=>by
   rcases zKK.mp hz with h | h
   ·exact (zKK.mp h).elim (fun h=>wno z (List.mem_of_mem_take h)) (hms z)
   ·exact wno z (List.mem_of_mem_drop h)
  have jln:(ws.take sp.toNat ++ ms ++ ws.drop (sp + 1).toNat).length <= wdL t + 1:=by rw [zKL,zKL];omega
  generalize ws.take sp.toNat ++ ms ++ ws.drop (sp + 1).toNat=js at wj d4 jno jln
  refine ⟨" ",c4,js,rfl,rfl,.of d4,?_,?_⟩
  ·rw [show (" " : Str).length=1 from by decide +kernel]
   have:wt js=(js.map (·.length)).sum + js.length:=rfl
   omega
  have jl:=uR 32 js
  rw [uM]
  have yw:wdL (Txt.join ⟨#[32]⟩ js) <= wdL t + 1:=by
   have:=lW fun z hz=>(jno z hz).1
   have:=vZ t
   omega
  have yn:10 ∉ (Txt.join ⟨#[32]⟩ js).cps.toList:=dG fun z hz=>(jno z hz).2
  generalize Txt.join ⟨#[32]⟩ js=y at jl yw yn
  have kF:=kB.trans (q1.trans (q2.trans (q3.trans q4)))
  have eF:=kF _ _ (by simp) e7l
  refine ⟨_,rfl,_,rfl,ln,_,_,hi.toNat,rfl,rfl,eF,?_,hn _ _ ⟨ls.set hi.toNat y,rfl,?_,?_,?_,?_,zAZ hfr yn,fun A B ba h=>dB h ht yw⟩⟩
  ·rw [zJ3]
   exact gH h0 h1
  ·rw [zC,List.map_set]
  ·have:=mD y ht
   omega
  ·exact (k57.trans (kF.mono (by simp))).trans (zD.at (by simp))
  ·exact ((s7.on kF).put lp.symm)
 have c2:¬ way < 6:=of_decide_eq_false (by simpa using c2)
 have t63:hi < 2 ^ 63:=by omega
 have pop:=(qO (gH (n:=(ls.map V.str).length) h0 (by rw [zJ3];exact h1))).1
 have getp:(ls.map V.str)[hi.toNat]?=some (.str t):=by rw [zJ9,ht];rfl
 have er:(ls.map V.str).eraseIdx hi.toNat=(ls.eraseIdx hi.toNat).map V.str:=nO ls hi.toNat
 have we:=zF8 (List.eraseIdx_sublist ls hi.toNat)
 refine ⟨_,rfl,rfl,_,rfl,qA (fun c3=>?_) (fun c3=>?_)⟩
 ·refine ⟨_,rfl,Or.inl ⟨rfl,_,.of e5⟩,_,rfl,_,rfl,_,_,rfl,.inl ⟨_,.of e5,rfl⟩,_,_,rfl,rfl,?_⟩
  refine wG (m:=(ls.map V.str).length + 1) s5 (by omega) (by rw [zJ3];omega) fun ii H6 j0 j1 k6 s6=>?_
  have e6:=k6 _ _ (by simp [lp]) e5
  refine ⟨_,rfl,_,rfl,ln,_,_,_,rfl,rfl,e6,et,ln,_,ii,_,rfl,rfl,e6,j0,by omega,by rw [zJ3,sizeLine_eq];omega,hn _ _ ⟨ls.take ii.toNat ++ t :: ls.drop ii.toNat,rfl,?_,?_,?_,?_,(fun l hl=>hfr l (lI ht id hl)),fun A B ba h=>m7 h (by omega) fun l hl=>lI ht id hl⟩⟩
  ·rw [zC,zKF,List.map_cons,List.map_take,List.map_drop]
  ·rw [bR];omega
  ·exact (k6.mono (by simp)).trans (zD.at (by simp))
  ·exact s6.put lp.symm
 refine ⟨_,rfl,rfl,_,rfl,qA (fun c4=>?_) (fun c4=>?_)⟩
 ·refine ⟨_,rfl,Or.inl ⟨rfl,_,.of e5⟩,_,rfl,ln,_,hi,hi.toNat,_,rfl,rfl,e5,by omega,t63,pop,getp,hn _ _ ⟨ls.eraseIdx hi.toNat,rfl,?_,?_,?_,?_,(fun l hl=>hfr l (List.mem_of_mem_eraseIdx hl)),fun A B ba h=>m7 h (by omega) fun l hl=>List.mem_of_mem_eraseIdx hl⟩⟩
  ·rw [zC,er]
  ·omega
  ·exact zD.at (by simp)
  ·exact s5.put lp.symm
 refine ⟨_,rfl,rfl,_,rfl,qA (fun c5=>?_) (fun c5=>?_)⟩
 ·refine ⟨_,rfl,Or.inl ⟨rfl,_,.of e5⟩,_,rfl,_,rfl,_,_,rfl,.inl ⟨_,.of e5,rfl⟩,?_⟩
  refine wG (m:=(ls.map V.str).length) s5 (by rw [zJ3];omega) (by rw [zJ3];omega) fun ii H6 j0 j1 k6 s6=>?_
  rw [zJ3] at j1
  have e6:=k6 _ _ (by simp [lp]) e5
  have le:=List.length_eraseIdx_of_lt (l:=ls) (i:=hi.toNat) (by omega)
  refine ⟨_,rfl,Or.inl ⟨rfl,_,.of e6⟩,_,rfl,ln,_,hi,hi.toNat,_,rfl,rfl,e6,by omega,t63,pop,getp,?_⟩
  rw [er]
  refine ⟨ln,_,ii,_,rfl,rfl,zC,j0,by rw [zJ3,le];omega,by rw [zJ3,le,sizeLine_eq];omega,hn _ _ ⟨(ls.eraseIdx hi.toNat).take ii.toNat ++ t :: (ls.eraseIdx hi.toNat).drop ii.toNat,rfl,?_,?_,?_,?_,(fun l hl=>hfr l (lI ht List.mem_of_mem_eraseIdx hl)),fun A B ba h=>m7 h (by omega) fun l hl=>lI ht List.mem_of_mem_eraseIdx hl⟩⟩
  ·rw [zC,zKF,List.map_cons,List.map_take,List.map_drop]
  ·rw [bR];omega
  ·exact (k6.mono (by simp)).trans ((zD.at (by simp)).trans (zD.at (by simp)))
  ·exact (s6.put lp.symm).put lp.symm
 refine ⟨_,rfl,_,rfl,ln,_,_,_,rfl,rfl,e5,et,rfl,t,32,rfl,by rw [uM],by omega,fun wa hwa=>?_⟩
 have ww:=qV t 32
 have new:=y4 t ⟨#[32]⟩
 have wno:=lV (hfr t (zJ7 ht))
 have wln:=wY t
 generalize Txt.split t ⟨#[32]⟩=ws at ww new wno wln
 refine lay hwa fun H6 k6 e6=>?_
 have s6:=s5.on k6
 have wp:wa ≠ p:=s5.ne hwa
 have lw:=vL ws
 have lw1:1 <= ws.length:=Nat.pos_of_ne_zero fun e=>new (List.length_eq_zero_iff.mp e)
 refine ⟨_,rfl,_,rfl,_,_,rfl,.inl ⟨_,.of e6,rfl⟩,?_⟩
 refine wG (m:=(ws.map V.str).length) s6 (by rw [zJ3];omega) (by rw [zJ3];omega) fun sp H7 p0 p1 k7 s7=>?_
 rw [zJ3] at p1
 have e7:=k7 _ _ (by simp [wp]) e6
 have e7l:=k7 _ _ (by simp [lp]) (k6 _ _ (by simp) e5)
 have k57:zD [ln,p] H5 H7:=(k6.mono (by simp)).trans (k7.mono (by simp))
 obtain ⟨mid,em,wm,min',mlen,mone⟩:=dZ ws p0 (Int.le_of_lt p1) (b:=sp + 2) (by omega)
 refine ⟨_,rfl,_,rfl,_,rfl,_,rfl,_,_,rfl,rfl,_,rfl,wa,_,rfl,.of e7,fun m1 hm1=>?_⟩
 rw [em]
 refine lay hm1 fun H8 t1 g1=>?_
 refine ⟨m1,_,rfl,.of g1,fun mx hm2=>?_⟩
 rw [<- List.map_reverse]
 refine lay hm2 fun HB t2 hmx=>?_
 have kB:zD [] H7 HB:=t1.trans t2
 have ewB:=kB _ _ (by simp) e7
 have wms:=zF9 mid
 have hms:∀ z ∈ mid.reverse,32 ∉ z.cps.toList/\10 ∉ z.cps.toList:=fun z hz=>wno z (min' z (List.mem_reverse.mp hz))
 have lms2:mid.reverse.length <= mid.length + 1:=by rw [List.length_reverse];omega
 generalize mid.reverse=ms at hmx wms hms lms2
 have lms:=vL ms
 refine ⟨rfl,_,rfl,_,rfl,_,rfl,wa,_,rfl,.of ewB,fun c1 hc1=>?_⟩
 rw [p7 V.str ws p0]
 refine lay hc1 fun HC q1 d1=>?_
 refine ⟨_,rfl,c1,mx,_,_,rfl,rfl,d1,q1 _ _ (by simp) hmx,by rw [zJ3,zJ3,zKM,sizeLine_eq];have:=vL ms;omega,fun c2 hc2=>?_⟩
 rw [<- zKF]
 refine lay hc2 fun HD q2 d2=>?_
 refine ⟨_,rfl,_,rfl,_,_,rfl,rfl,_,rfl,wa,_,rfl,.of ((q1.trans q2) _ _ (by simp) ewB),fun c3 hc3=>?_⟩
 rw [vX V.str ws (k:=sp + 2) (by omega)]
 refine lay hc3 fun HE q3 d3=>?_
 refine ⟨c2,c3,_,_,rfl,rfl,q3 _ _ (by simp) d2,d3,by rw [zJ3,zJ3,zKL,zKM,List.length_drop,sizeLine_eq];have:=vL ms;omega,fun c4 hc4=>?_⟩
 rw [<- zKF]
 refine lay hc4 fun HF q4 d4=>?_
 have wj:wt (ws.take sp.toNat ++ ms ++ ws.drop (sp + 2).toNat) <= 2 * t.length + 11:=by rw [uJ,uJ];omega
 have jno:∀ z ∈ ws.take sp.toNat ++ ms ++ ws.drop (sp + 2).toNat,32 ∉ z.cps.toList/\10 ∉ z.cps.toList:=fun z hz=>by
  rcases zKK.mp hz with h | h
  ·exact (zKK.mp h).elim (fun h=>wno z (List.mem_of_mem_take h)) (hms z)
  ·exact wno z (List.mem_of_mem_drop h)
 have jln:(ws.take sp.toNat ++ ms ++ ws.drop (sp + 2).toNat).length <= wdL t + 1:=by rw [zKL,zKL];omega
 generalize ws.take sp.toNat ++ ms ++ ws.drop (sp + 2).toNat=js at wj d4 jno jln
 refine ⟨" ",c4,js,rfl,rfl,.of d4,?_,?_⟩
 ·rw [show (" " : Str).length=1 from by decide +kernel]
  have:wt js=(js.map (·.length)).sum + js.length:=rfl
  omega
 have jl:=uR 32 js
 rw [uM]
 have yw:wdL (Txt.join ⟨#[32]⟩ js) <= wdL t + 1:=by
  have:=lW fun z hz=>(jno z hz).1
  have:=vZ t
  omega
 have yn:10 ∉ (Txt.join ⟨#[32]⟩ js).cps.toList:=dG fun z hz=>(jno z hz).2
 generalize Txt.join ⟨#[32]⟩ js=y at jl yw yn
 have kF:=kB.trans (q1.trans (q2.trans (q3.trans q4)))
 have eF:=kF _ _ (by simp) e7l
 refine ⟨_,rfl,_,rfl,ln,_,_,hi.toNat,rfl,rfl,eF,?_,hn _ _ ⟨ls.set hi.toNat y,rfl,?_,?_,?_,?_,zAZ hfr yn,fun A B ba h=>dB h ht yw⟩⟩
 ·rw [zJ3]
  exact gH h0 h1
 ·rw [zC,List.map_set]
 ·have:=mD y ht
  omega
 ·exact (k57.trans (kF.mono (by simp))).trans (zD.at (by simp))
 ·exact ((s7.on kF).put lp.symm)
end
abbrev zDA:Stmt:=top 29
abbrev sNI:Stmt:=sM (top 13) 0
abbrev zC6:Stmt:=top 33
abbrev zC9:Stmt:=top 34
abbrev zC8:Stmt:=top 31
def zGL (CT:Addr):Sp:=fun vs H Q _=>∃ (e:Addr) (n:Nat),vs=[.ref e,.int n]/\n < 10 ^ 10/\H e=some (vG CT e none)/\∀ (dx:Addr) (H':Hp),H dx=none->dx ≠ e->H' e=some (vG CT e (some dx))->H' dx=some (.xd [("line",.int n)])->zD [e] H H'->Q .non H'
structure zCK (P:Program) (w:World) (K:W.Frag) (mg:Str->Option Value) (base:Heap) (CT fI:Addr) (fd:FuncData):Prop where
 ex:iH K mg "NoText" CT fI
 be:W.subIn K (.ref CT) (.type "BaseException")=some true
 ok:wW P w K mg base CX0 1 fI fd ["self","line"] (zGL CT)
 hb:wQ K fd ["self","line"] []
theorem xS {CT:Addr} {S:Addr->Prop} {E1 E:XK} {H:Hp} {n:Nat} (hn:n < 10 ^ 10) (h:∀ (dx:Addr) (H':Hp),H dx=none->H' dx=some (.xd [("line",.int n)])->zD [] H H'->E (.ref CT) (some dx) H') :
  [V.int n].length <= 1000/\∀ e,H e=none->S e->zGL CT (.ref e :: [V.int n]) (upd H e (vG CT e none)) (fun v H2=>v=.non/\∃ e' dc,V.ref e=.ref e'/\S e'/\H2 e'=some (vG CT e' dc)/\E (.ref CT) dc (del H2 e')) E1:=by
 refine ⟨by simp,fun e he hs=>⟨e,n,rfl,hn,zC,fun dx H' hd ne h1 h2 k=>⟨rfl,e,some dx,rfl,hs,h1,h dx _ ?_ ?_ fun b o _ hb=>?_⟩⟩⟩
 ·rw [zI ne] at hd;exact hd
 ·rw [t6 ne];exact h2
 ·have nb:b ≠ e:=fun z=>by rw [z,he] at hb;cases hb
  rw [t6 nb]
  exact k b o (by simp [nb]) (by rw [zI nb];exact hb)
theorem cP {K:W.Frag} {H:Hp} {x:V} {T:String} (pt:yK K H x T) (e:T="str"):∃ z,x=.str z:=by
 cases pt with
 | str z=>exact ⟨z,rfl⟩
 | _=>exact absurd e (by decide)
theorem aY {K:W.Frag} {H:Hp} {x:V} {T:String} (pt:yK K H x T) (h:T ≠ "str"):∀ z,x ≠ .str z:=by
 intro z e
 subst e
 cases pt with
 | str z=>exact h rfl
def cK (ps:LSS) (p:Str × Str):Bool:=ltS p.1 p.2 && (match ps.getLast? with | none=>true | some q=>ltP q p)
theorem zDB {ps:LSS} {p:Str × Str}:cK ps p=true ↔ ltS p.1 p.2=true/\∀ q,ps.getLast?=some q->ltP q p=true:=by
 unfold cK
 rw [Bool.and_eq_true]
 cases h:ps.getLast? with
 | none=>exact ⟨fun x=>⟨x.1,fun q e=>by cases e⟩,fun x=>⟨x.1,rfl⟩⟩
 | some a=>exact ⟨fun x=>⟨x.1,fun q e=>by cases e;exact x.2⟩,fun x=>⟨x.1,x.2 a rfl⟩⟩
theorem zDC {ps:LSS} {z y:Str} (h:y ∈ wI ps z):Rch ps z y:=by
 unfold wI at h
 obtain ⟨t,ht,hy⟩:=List.mem_flatMap.mp h
 by_cases e1:t.1=z
 ·rw [if_pos e1] at hy
  rw [zJ6.mp hy,<- e1]
  exact Rch.tie ht
 ·rw [if_neg e1] at hy
  by_cases e2:t.2=z
  ·rw [if_pos e2] at hy
   rw [zJ6.mp hy,<- e2]
   exact (Rch.tie ht).symm
  ·rw [if_neg e2] at hy;cases hy
theorem dL {zs ks:List Str} {ps:LSS} {N:Str->List Str} {goal:Str} {nx:Str->Str} (np:∀ z ∈ zs,(N z).Perm (wI ps z)) (led:Led zs N goal ks nx):∀ (n:Nat) (i:Nat) (y:Str),i < n->ks[i]?=some y->Rch ps goal y
 | 0,_,_,h,_=>by omega
 | n + 1,i,y,h,hy=>by
  by_cases e:y=goal
  ·rw [e];exact Rch.refl _
  ·obtain ⟨h1,h2⟩:=led.o i y hy e
   obtain ⟨j,hj⟩:=List.getElem?_of_mem h1
   have jl:=(zJ5.mp hj).1
   rw [zKM] at jl
   rw [List.getElem?_take_of_lt (by omega)] at hj
   have ih:=dL np led n j (nx y) (by omega) hj
   exact ih.trans (zDC ((np _ (led.z _ (zJ7 hj))).mem_iff.mp h2))
theorem zEG {zs ks:List Str} {ps:LSS} {N:Str->List Str} {a b:Str} {nx:Str->Str} (np:∀ z ∈ zs,(N z).Perm (wI ps z)) (tz:∀ q ∈ ps,xN zs q) (led:Led zs N a ks nx) (cl:∀ z ∈ ks,∀ y ∈ N z,y ∈ ks):b ∈ ks ↔ Rch ps a b:=by
 constructor
 ·intro h
  obtain ⟨i,hi⟩:=List.getElem?_of_mem h
  exact dL np led (i + 1) i b (by omega) hi
 ·intro h
  refine h (fun x=>x ∈ ks) led.g fun t ht=>?_
  obtain ⟨t1,t2,t3⟩:=tz t ht
  exact ⟨fun hk=>cl _ hk _ ((np _ t1).mem_iff.mpr (zFV ht)),fun hk=>cl _ hk _ ((np _ t2).mem_iff.mpr (zFU ht t3))⟩
section
variable {P:Program} {w:World} {K:W.Frag} {mg:Str->Option Value} {base:Heap} {C:Addr}
theorem zIW:zO ["thing"] ["thing"] (zF zDA):=scm
theorem scNI:zO ["self","line"] ["self","line"] (zF sNI):=scm
theorem zIT:zO ["tie","ties"] ["tie","ties"] (zF zC6):=scm
theorem zIV:zO ["tie","houses","ties"] ["tie","houses","ties"] (zF zC9):=scm
theorem aI:zO ["line","word","houses"] ["line"] (zF zC8):=scm
theorem okNI {CT CB fI:Addr} {fd:FuncData} (G:Fun K "__init__" "NoText.__init__" sNI fI fd) (ex:iH K mg "NoText" CT fI) (xi:zCH K mg "TreeError" CB) (xa:iD K CT CB "line"):wW P w K mg base CX0 1 fI fd ["self","line"] (zGL CT):=by
 refine G.ok scNI (fun vs H Q E h=>by obtain ⟨e,n,rfl,_⟩:=h;rfl) (fun cdv A outer s0 H vs Q E hr h=>?_)
 obtain ⟨e,n,rfl,hn,he,q⟩:=h
 refine ⟨_,zE (xC (zAE ex xi (zA (pv 0) (zA (zI4 (mX zS (mX (zDN (pv 1)) (mX zS zGY)))) zB)))) (zJ (zDG xa (pv 0) (pv 1) rfl)),?_⟩
 have hn6:(cZ n).length <= 20:=by
  have:(cZ n).length=(Nat.toDigits 10 n).length:=by
   show (cZ n).cps.size=_
   rw [<- Array.length_toList,zAW,zJ3]
  rw [this]
  exact (Nat.length_toDigits_le_iff (by decide) (by decide)).mpr (zKP hn (by decide))
 have l1:(Str.empty ++ Str.ofString "line ").length <= 10:=by decide +kernel
 have l2:(Str.ofString " can't be read").length <= 20:=by decide +kernel
 refine ⟨_,rfl,_,rfl,by rw [sizeLine_eq];omega,_,rfl,n,rfl,hn,_,rfl,by rw [strLen_append,sizeLine_eq];omega,_,rfl,by rw [strLen_append,strLen_append,sizeLine_eq];omega,by rw [strLen_append,strLen_append,sizeLine_eq];omega,?_⟩
 refine ⟨e,none,_,rfl,he,?_⟩
 refine ⟨_,rfl,_,rfl,e,rfl,zC,fun dx hd ne=>?_⟩
 have ne':e ≠ dx:=Ne.symm ne
 refine q dx _ ?_ ne ?_ zC ?_
 ·rw [zI ne] at hd;exact hd
 ·rw [zI ne',zC]
 ·intro b o hb hh
  have nb:b ≠ e:=by simpa using hb
  have nd:b ≠ dx:=fun z=>by rw [zI ne] at hd;rw [z,hd] at hh;cases hh
  rw [zI nd,zI nb,zI nb];exact hh
def aC (K:W.Frag) (CT:Addr):Sp:=fun vs H Q E=>∃ (x:V) (T:String),vs=[x]/\yK K H x T/\(T="str"->Q .non H)/\(T ≠ "str"->∀ (dx:Addr) (H':Hp),H dx=none->H' dx=some (.xd [("line",.int (0:Nat))])->zD [] H H'->E (.ref CT) (some dx) H')
theorem zHN {CT fI:Addr} {fd:FuncData} (N:zCK P w K mg base CT fI fd) (G:yD K mg "check_text" zDA ["thing"]) (b_isinstance:Blt mg "isinstance") (b_str:Blt mg "str"):Cal P w K mg base (CXE P w) 3 "check_text" ["thing"] (aC K CT):=by
 refine G.okX zIW (fun vs H Q E h=>by obtain ⟨x,T,rfl,_⟩:=h;rfl) (fun f cdv A outer s0 H vs Q E hr h=>?_)
 obtain ⟨x,T,rfl,pt,q,qe⟩:=h
 have hr2:zX 2 _:=hr
 refine ⟨_,(zJ (yW (xT (xF (zM xO b_isinstance yF (zA (pv 0) (zA (pF b_str zB4) zB))))) (zJ (u5 (uB hr) N.ex N.be N.ok hr2 N.hb pH (zA zG zB))) yE)),?_⟩
 refine ⟨_,rfl,_,_,_,_,rfl,pt.ty,pt.kit.1,_,rfl,?_⟩
 by_cases e:T="str"
 ·exact ifF (by rw [e];rfl) (q e)
 ·refine ifT (by simp [e]) ?_
  exact xS (by decide) (qe e)
def zFO:Sp:=fun vs H Q _=>∃ (t l:Addr) (p:Str × Str) (ps:LSS),vs=[.ref t,.ref l]/\H t=some (.tup (zQ p))/\Rows H l (ps.map zQ)/\Q (.bl (cK ps p)) H
theorem zJC (G:yD K mg "rises" zC6 ["tie","ties"]) (b_len:Blt mg "len"):Cal P w K mg base CX0 1 "rises" ["tie","ties"] zFO:=by
 refine G.ok zIT (fun vs H Q E h=>by obtain ⟨t,l,p,ps,rfl,_⟩:=h;rfl) (fun f cdv A outer s0 H vs Q E hr h=>?_)
 obtain ⟨t,l,p,ps,rfl,ht,⟨qs,hl,hq⟩,q⟩:=h
 have hu0:=Nat.lt_of_succ_lt (nJ hr)
 refine ⟨_,(zJ (zT (vQ (wF cS (yI tE (pv 0) zG (fun _ _=>rfl)) (yI tE (pv 0) zG (fun _ _=>rfl)) (z6 _)) (vP (zFX (wF tJ (zM zU b_len yH (zA (pv 1) zB)) zG (z6 _)) (vP (wF (zG7 hu0) (yI yA (pv 1) (zAF iN zG) (fun _ _=>rfl)) (pv 0) (z6 _)))))))),?_⟩
 refine ⟨_,rfl,t,_,0,_,rfl,rfl,ht,rfl,_,rfl,t,_,1,_,rfl,rfl,ht,rfl,_,_,rfl,rfl,_,rfl,?_⟩
 unfold cK at q
 cases lo:ltS p.1 p.2 with
 | false=>
  rw [lo,Bool.false_and] at q
  exact ifF lo q
 | true=>
 rw [lo,Bool.true_and] at q
 refine ifT lo ?_
 have lq:=zW hq
 rw [zJ3] at lq
 refine ⟨_,rfl,_,_,rfl,.inl ⟨_,.of hl,rfl⟩,rfl,_,rfl,?_⟩
 rcases List.eq_nil_or_concat ps with e | ⟨ps0,pl,e⟩
 ·have e0:qs=[]:=List.length_eq_zero_iff.mp (by rw [lq,e];rfl)
  subst e0 e
  exact ifT rfl q
 ·rw [List.concat_eq_append] at e
  subst e
  have lq1:qs.length=ps0.length + 1:=by rw [lq];simp
  obtain ⟨qs0,qa,e0⟩:∃ qs0 qa,qs=qs0 ++ [qa]:=by
   rcases List.eq_nil_or_concat qs with z | ⟨a,b,z⟩
   ·rw [z] at lq1;simp at lq1
   ·exact ⟨a,b,by rw [z];simp⟩
  subst e0
  refine ifF (by rw [zJ3];simp;omega) ?_
  have hqa:H qa=some (.tup (zQ pl)):=by
   obtain ⟨r,er,hu⟩:=yQ hq qs0.length qa (by simp)
   have l0:qs0.length=ps0.length:=by simpa using lq1
   rw [l0] at er
   simp at er
   rw [<- er] at hu
   exact hu
  refine ⟨_,rfl,1,rfl,l,_,-1,.ref qa,rfl,rfl,hl,by rw [zKF];exact iB _ _,_,rfl,qa,t,pl,p,rfl,rfl,hqa,ht,?_⟩
  rw [List.getLast?_concat] at q
  exact q
def zFS:Sp:=fun vs H Q _=>∃ (t nl l:Addr) (p:Str × Str) (zs:List Str) (ps:LSS),vs=[.ref t,.ref nl,.ref l]/\H t=some (.tup (zQ p))/\H nl=some (.lst (zs.map V.str))/\Rows H l (ps.map zQ)/\zs.Nodup/\(∀ q ∈ ps,xN zs q)/\ps.length < 60/\zs.length < 60/\p.1 ∈ zs/\∀ (b:Bool) (H':Hp),(b=true ↔ Rch ps p.1 p.2)->zD [] H H'->Q (.bl b) H'
theorem zJH (G:yD K mg "closes_ring" zC9 ["tie","houses","ties"]) (CTE:Cal P w K mg base CX0 1 "tied_to_each" ["houses","ties"] iT) (CST:Cal P w K mg base CX0 1 "steps_toward" ["near","goal"] mJ):Cal P w K mg base CX0 2 "closes_ring" ["tie","houses","ties"] zFS:=by
 refine G.ok zIV (fun vs H Q E h=>by obtain ⟨t,nl,l,p,zs,ps,rfl,_⟩:=h;rfl) (fun f cdv A outer s0 H vs Q E hr h=>?_)
 obtain ⟨t,nl,l,p,zs,ps,rfl,ht,hnl,hl,nd,tz,lp,lz,pz,q⟩:=h
 have hr1:zX 1 _:=hr
 have hu:=nJ hr
 refine ⟨_,(zJ (zT (zG3 (zG5 hu (yI tE (pv 0) zG (fun _ _=>rfl)) (zK CST hr1 (zA (zK CTE hr1 (zA (pv 1) (zA (pv 2) zB))) (zA (yI tE (pv 0) zG (fun _ _=>rfl)) zB))))))),?_⟩
 refine ⟨_,rfl,t,_,1,_,rfl,rfl,ht,rfl,_,rfl,_,rfl,nl,l,ps,zs,rfl,hnl,hl,nd,tz,lp,lz,fun ndr L N H1 hnd hL na k1=>?_⟩
 refine ⟨_,rfl,t,_,0,_,rfl,rfl,k1 _ _ (by simp) ht,rfl,ndr,zs,ps,L,N,p.1,rfl,na,lz,pz,(fun z hz y hy=>aU tz ((na.p z hz).mem_iff.mp hy)),fun sd ks nx H2 hsd led cl h2 k2=>?_⟩
 refine ⟨sd,_,rfl,wX.k (k:=Sum.inr p.2) h2,?_⟩
 have li:=zEG (b:=p.2) na.p tz led cl
 by_cases hk:p.2 ∈ ks
 ·rw [w6 hk]
  exact q true H2 ⟨fun _=>li.mp hk,fun _=>rfl⟩ (k1.trans k2)
 ·rw [uX hk]
  exact q false H2 ⟨(fun h=>by cases h),fun h=>absurd (li.mpr h) hk⟩ (k1.trans k2)
theorem sE {H:Hp} {a:Addr} {zs:List Str} (h:H a=some (.lst (zs.map V.str)) \/ H a=some (.tup (zs.map V.str))) (l:zs.length < 60) (s:∀ z ∈ zs,z.length <= 100000):Dp K H 1 (.ref a):=by
 refine ⟨⟨h.elim (fun e=>⟨_,.lst e⟩) (fun e=>⟨_,.tup e⟩),fun z e=>by cases e⟩,fun b e us hu=>?_⟩
 cases e
 have eu:us=zs.map V.str:=by
  rcases h with h | h <;> rcases hu with hu | hu <;> rw [h] at hu <;> cases hu <;> rfl
 subst eu
 refine ⟨by rw [zJ3];exact l,fun u hu=>?_⟩
 obtain ⟨z,hz,rfl⟩:=List.mem_map.mp hu
 exact ⟨⟨_,.str z⟩,fun y e=>by cases e;exact s z hz⟩
theorem kM {a b:List Str} (h:a.map V.str=b.map V.str):a=b:=(List.map_inj_right (fun _ _ e=>V.str.inj e)).mp h
def zFQ (CT:Addr):Sp:=fun vs H Q E=>∃ z:Str,vs=[.str z]/\z.length <= 10000/\(spW z).length < 60/\(∀ (zs:List Str) (l:Addr) (H':Hp),t7 z zs->H l=none->H' l=some (.lst (zs.map V.str))->zD [] H H'->Q (.ref l) H') /\
 ((¬ ∃ zs,t7 z zs)->∀ (dx:Addr) (H':Hp),H dx=none->H' dx=some (.xd [("line",.int (0:Nat))])->zD [] H H'->E (.ref CT) (some dx) H')
theorem zJE {CT fI:Addr} {fd:FuncData} (N:zCK P w K mg base CT fI fd) (G:yD K mg "read_houses" zC8 ["line"]) (CAH:Cal P w K mg base CX0 3 "are_houses" ["thing"] (mL K)) (b_sorted:Blt mg "sorted"):Cal P w K mg base (CXE P w) 4 "read_houses" ["line"] (zFQ CT):=by
 refine G.okX aI (fun vs H Q E h=>by obtain ⟨z,rfl,_⟩:=h;rfl) (fun f cdv A outer s0 H vs Q E hr h=>?_)
 obtain ⟨z,rfl,lz,lw,q,qe⟩:=h
 have hr3:zX 3 _:=hr
 have hr2:zX 2 _:=hr.mono (by decide)
 have hu':=Nat.lt_of_le_of_lt (Nat.le_add_right _ 4) (hu4 hr)
 refine ⟨_,(zE (vO (yS F.plainAttrs_str F.slot_str_split F.type_str_split xL (pv 0) (zA zS zB)) (mZ (n:=2) (i:=1) rfl (yO (z4 (i:=1) aI.nd rfl (Or.inl rfl)) (pD (z4 (i:=2) aI.nd rfl (Or.inl rfl)) wR))))
   (zE (yW (PW.pt (vB (zZ tI (pv 1) zS (z6 _)) (vB (xT (xF (zK CAH hr3 (zA (pv 2) zB)))) (uO (zZ (zAP hu') (pv 2) (zM wU b_sorted wC (zA (pv 2) zB)) (z6 _)))))) (zJ (u5 (uB hr) N.ex N.be N.ok hr2 N.hb pH (zA zG zB))) yE)
   (zJ (zT (pv 2))))),?_⟩
 refine ⟨_,rfl,rfl,_,32,rfl,by rw [uM],lz,fun sl hsl=>?_⟩
 have short:=fun a (h:a ∈ Txt.split z ⟨#[32]⟩)=>PyProof.Rows.part_short h
 obtain ⟨wd,zs,ez⟩:∃ w ws,spW z=w :: ws:=by
  cases h:spW z with
  | nil=>exact absurd h (y4 _ _)
  | cons w ws=>exact ⟨w,ws,rfl⟩
 rw [show Txt.split z ⟨#[32]⟩=wd :: zs from ez] at short ⊢
 have ln:zs.length < 59:=by rw [ez,zKO] at lw;omega
 have ok:∀ ys,t7 z ys ↔ (wd="tree"/\ys=zs)/\(∀ z ∈ zs,yB z)/\zs.Nodup/\zs ≠ []/\Asc ltS zs:=fun ys=>by
  unfold t7
  rw [ez]
  constructor
  ·rintro ⟨e,r⟩
   injection e with e1 e2
   subst e2
   exact ⟨⟨e1,rfl⟩,r⟩
  ·rintro ⟨⟨rfl,rfl⟩,r⟩
   exact ⟨rfl,r⟩
 refine lay hsl fun H1 k1 e1=>?_
 refine ⟨sl,_,rfl,.of e1,by simp,by rw [zJ3,zKO];omega,fun D hD=>?_⟩
 rw [List.map_cons,(vT _ _ D).1,(vT _ _ D).2]
 refine lay hD fun H2 k2 e2=>?_
 have k02:=k1.trans k2
 have low:∀ x,H2 x=none->H x=none:=fun x hx=>k02.none (by simp) hx
 have bad:(¬ ∃ ys,t7 z ys)->∀ {H3:Hp},zD [] H2 H3->∀ (dx:Addr) (H':Hp),H3 dx=none->H' dx=some (.xd [("line",.int (0:Nat))])->zD [] H3 H'->E (.ref CT) (some dx) H':=fun no {H3} k3 dx H' hd h1 k4=>qe no dx H' (low dx (k3.none (by simp) hd)) h1 (k02.trans (k3.trans k4))
 refine ⟨_,_,rfl,_,_,rfl,rfl,?_⟩
 refine ⟨_,rfl,rfl,_,rfl,?_⟩
 by_cases ew:wd="tree"
 rotate_left
 ·have:¬ V.str wd=V.str "tree":=fun e=>ew (V.str.inj e)
  exact ifT (by rw [zKJ this];rfl) (xS (by decide) (bad (fun ⟨ys,h⟩=>ew ((ok ys).mp h).1.1) (zD.refl _)))
 refine ifF (by rw [ew];simp) ?_
 refine ⟨_,rfl,.ref D,rfl,sE (.inl e2) (by omega) (fun a ha=>zKE (short a (zKG _ ha)) (zKE lz (by decide))),fun b H3 hb k3=>⟨_,rfl,?_⟩⟩
 cases b with
 | false=>
  refine ifT rfl (xS (by decide) (bad (fun ⟨ys,h⟩=>?_) k3))
  obtain ⟨_,g,nd,ne,_⟩:=(ok ys).mp h
  have:=hb.mpr ⟨zs,⟨D,rfl,e2,g⟩,nd,zKT.mpr ne⟩
  cases this
 | true=>
 obtain ⟨ys,⟨D',eD,e2',g⟩,nd,l1⟩:=hb.mp rfl
 cases eD
 rw [e2] at e2'
 obtain rfl:zs=ys:=kM (by have e:=zKA e2';injection e)
 refine ifF rfl ?_
 have e3:=k3 _ _ (by simp) e2
 refine ⟨_,rfl,_,rfl,D,zs,rfl,e3,by omega,fun l3 ys hl3 py sy=>?_⟩
 have k4:zD [] H3 (upd H3 l3 (.lst (ys.map V.str))):=zD.new hl3
 refine ⟨D,l3,_,_,rfl,rfl,k4 _ _ (by simp) e3,zC,_,rfl,?_⟩
 by_cases ey:zs=ys
 ·refine ifF (by rw [zKI ey];rfl) ?_
  refine ⟨_,rfl,q zs D _ ((ok zs).mpr ⟨⟨ew,rfl⟩,g,nd,zKT.mp l1,by rw [ey];exact sy⟩) (k1.none (by simp) hD) (k4 _ _ (by simp) e3) (k02.trans (k3.trans k4))⟩
 ·refine ifT (by rw [zKJ ey];rfl) (xS (by decide) (bad (fun ⟨xs,h⟩=>ey ?_) (k3.trans k4)))
  exact (sQ (fun a b=>uC) py sy ((ok xs).mp h).2.2.2.2).symm
end
abbrev zC7:Stmt:=top 32
section
variable {P:Program} {w:World} {K:W.Frag} {mg:Str->Option Value} {base:Heap} {C:Addr}
theorem fZ:zO ["line","number","houses","ties","word","names","tie"] ["line","number","houses","ties"] (zF zC7):=scm
def zFP (CT:Addr):Sp:=fun vs H Q E=>∃ (z:Str) (n:Nat) (nl l:Addr) (zs:List Str) (ps:LSS),vs=[.str z,.int n,.ref nl,.ref l]/\z.length <= 10000/\(spW z).length < 60/\n < 10 ^ 10/\H nl=some (.lst (zs.map V.str))/\Rows H l (ps.map zQ)/\(∀ z ∈ zs,yB z)/\zs.Nodup/\(∀ q ∈ ps,xN zs q)/\ps.length < 60/\zs.length < 60 /\
 (∀ (p:Str × Str) (t:Addr) (H':Hp),xA zs ps z p->H t=none->H' t=some (.tup (zQ p))->zD [] H H'->Q (.ref t) H') /\
 ((¬ ∃ p,xA zs ps z p)->∀ (dx:Addr) (H':Hp),H dx=none->H' dx=some (.xd [("line",.int n)])->zD [] H H'->E (.ref CT) (some dx) H')
theorem zJD {CT fI:Addr} {fd:FuncData} (N:zCK P w K mg base CT fI fd) (G:yD K mg "read_tie" zC7 ["line","number","houses","ties"]) (CIT:Cal P w K mg base CX0 3 "is_tie" ["thing","houses"] (iU K)) (CRi:Cal P w K mg base CX0 1 "rises" ["tie","ties"] zFO) (CCl:Cal P w K mg base CX0 2 "closes_ring" ["tie","houses","ties"] zFS) (b_tuple:Blt mg "tuple"):Cal P w K mg base (CXE P w) 4 "read_tie" ["line","number","houses","ties"] (zFP CT):=by
 refine G.okX fZ (fun vs H Q E h=>by obtain ⟨z,n,nl,l,zs,ps,rfl,_⟩:=h;rfl) (fun f cdv A outer s0 H vs Q E hr h=>?_)
 obtain ⟨z,n,nl,l,zs,ps,rfl,lz,lw,hn,hnl,hl,gz,nd,tz,lp,lzs,q,qe⟩:=h
 have hr3:zX 3 _:=hr
 have hr2:zX 2 _:=hr.mono (by decide)
 have hr1:zX 1 _:=hr.mono (by decide)
 refine ⟨_,(zE (vO (yS F.plainAttrs_str F.slot_str_split F.type_str_split xL (pv 0) (zA zS zB)) (mZ (n:=2) (i:=1) rfl (yO (z4 (i:=4) fZ.nd rfl (Or.inl rfl)) (pD (z4 (i:=5) fZ.nd rfl (Or.inl rfl)) wR))))
   (zE (zL (i:=6) fZ.nd rfl (Or.inl rfl) (wA oJ rfl b_tuple.no iA (zA (pv 5) zB)))
   (zE (yW (PW.pt (vB (zZ tI (pv 4) zS (z6 _)) (vB (xT (xF (zK CIT hr3 (zA (pv 6) (zA (pv 2) zB))))) (vB (xT (xF (zK CRi hr1 (zA (pv 6) (zA (pv 3) zB))))) (uO (xF (zK CCl hr2 (zA (pv 6) (zA (pv 2) (zA (pv 3) zB)))))))))) (zJ (u5 (uB hr) N.ex N.be N.ok hr2 N.hb pH (zA (pv 1) zB))) yE)
   (zJ (zT (pv 6)))))),?_⟩
 refine ⟨_,rfl,rfl,_,32,rfl,by rw [uM],lz,fun sl hsl=>?_⟩
 have short:=fun a (h:a ∈ Txt.split z ⟨#[32]⟩)=>PyProof.Rows.part_short h
 obtain ⟨wd,ws,ez⟩:∃ w ws,spW z=w :: ws:=by
  cases h:spW z with
  | nil=>exact absurd h (y4 _ _)
  | cons w ws=>exact ⟨w,ws,rfl⟩
 rw [show Txt.split z ⟨#[32]⟩=wd :: ws from ez] at short ⊢
 have ln:ws.length < 59:=by rw [ez,zKO] at lw;omega
 have ok:∀ p,xA zs ps z p ↔ (wd="tie"/\ws=[p.1,p.2])/\xN zs p/\cK ps p=true/\¬ Rch ps p.1 p.2:=fun p=>by
  unfold xA
  rw [ez,zDB]
  constructor
  ·rintro ⟨e,r1,r2,r3,r4⟩
   injection e with e1 e2
   exact ⟨⟨e1,e2⟩,r1,⟨r2,r3⟩,r4⟩
  ·rintro ⟨⟨rfl,rfl⟩,r1,⟨r2,r3⟩,r4⟩
   exact ⟨rfl,r1,r2,r3,r4⟩
 refine lay hsl fun H1 k1 e1=>?_
 refine ⟨sl,_,rfl,.of e1,by simp,by rw [zJ3,zKO];omega,fun D hD=>?_⟩
 rw [List.map_cons,(vT _ _ D).1,(vT _ _ D).2]
 refine lay hD fun H2 k2 e2=>?_
 refine ⟨_,_,rfl,_,_,rfl,rfl,?_⟩
 refine ⟨_,rfl,D,_,rfl,.inl ⟨.of e2,fun t ht=>?_⟩⟩
 have nt:H t=none:=(k1.trans k2).none (by simp) ht
 refine lay ht fun H3 k3 e3=>?_
 have k03:=k1.trans (k2.trans k3)
 have low:∀ x,H3 x=none->H x=none:=fun x hx=>k03.none (by simp) hx
 have bad:(¬ ∃ p,xA zs ps z p)->∀ {H4:Hp},zD [] H3 H4->∀ (dx:Addr) (H':Hp),H4 dx=none->H' dx=some (.xd [("line",.int n)])->zD [] H4 H'->E (.ref CT) (some dx) H':=fun no {H4} k4 dx H' hd h1 k5=>qe no dx H' (low dx (k4.none (by simp) hd)) h1 (k03.trans (k4.trans k5))
 refine ⟨_,rfl,rfl,_,rfl,?_⟩
 by_cases ew:wd="tie"
 rotate_left
 ·have:¬ V.str wd=V.str "tie":=fun e=>ew (V.str.inj e)
  exact ifT (by rw [zKJ this];rfl) ⟨_,rfl,xS hn (bad (fun ⟨p,h⟩=>ew ((ok p).mp h).1.1) (zD.refl _))⟩
 refine ifF (by rw [ew];simp) ?_
 refine ⟨_,rfl,_,rfl,.ref t,nl,zs,rfl,sE (.inr e3) (by omega) (fun a ha=>zKE (short a (zKG _ ha)) (zKE lz (by decide))),k03 _ _ (by simp) hnl,gz,fun b H4 hb k4=>⟨_,rfl,?_⟩⟩
 have isT:∀ p,zH9 H3 zs (.ref t) p ↔ ws=[p.1,p.2]/\xN zs p:=fun p=>by
  constructor
  ·rintro ⟨t',et,e,tk⟩
   cases et
   rw [e3] at e
   have e:=zKA e
   injection e with e
   exact ⟨kM (e.trans rfl),tk⟩
  ·rintro ⟨e,tk⟩
   exact ⟨t,rfl,by rw [e3,e];rfl,tk⟩
 cases b with
 | false=>
  refine ifT rfl ⟨_,rfl,xS hn (bad (fun ⟨p,h⟩=>?_) k4)⟩
  obtain ⟨⟨_,e⟩,tk,_⟩:=(ok p).mp h
  have:=hb.mpr ⟨p,(isT p).mpr ⟨e,tk⟩⟩
  cases this
 | true=>
 obtain ⟨p,hp⟩:=hb.mp rfl
 obtain ⟨ep,tk⟩:=(isT p).mp hp
 have one:∀ p',xA zs ps z p'->p'=p:=fun p' h=>by
  have e:=((ok p').mp h).1.2
  rw [ep] at e
  injection e with e1 e
  injection e with e2 _
  exact Prod.ext e1.symm e2.symm
 have e3:H3 t=some (.tup (zQ p)):=by rw [e3,ep];rfl
 have e4:=k4 _ _ (by simp) e3
 have k04:=k03.trans k4
 refine ifF rfl ?_
 refine ⟨_,rfl,_,rfl,t,l,p,ps,rfl,e4,hl.keep k04,_,rfl,?_⟩
 cases hri:cK ps p with
 | false=>
  refine ifT rfl ⟨_,rfl,xS hn (bad (fun ⟨p',h⟩=>?_) k4)⟩
  have:=((ok p').mp h).2.2.1
  rw [one p' h,hri] at this
  cases this
 | true=>
 refine ifF rfl ?_
 refine ⟨_,rfl,_,rfl,_,rfl,t,nl,l,p,zs,ps,rfl,e4,k04 _ _ (by simp) hnl,hl.keep k04,nd,tz,lp,lzs,tk.1,fun b H5 hb5 k5=>⟨_,rfl,?_⟩⟩
 cases b with
 | true=>
  refine ifT rfl ⟨_,rfl,xS hn (bad (fun ⟨p',h⟩=>?_) (k4.trans k5))⟩
  have:=((ok p').mp h).2.2.2
  rw [one p' h] at this
  exact this (hb5.mp rfl)
 | false=>
  refine ifF rfl ⟨_,rfl,q p t H5 ((ok p).mpr ⟨⟨ew,ep⟩,tk,hri,fun h=>by cases hb5.mpr h⟩) nt (k5 _ _ (by simp) e4) (k04.trans k5)⟩
end
abbrev eI:Stmt:=top 30
theorem xI.ind {zs:List Str} {M:LSS->Prop} (m0:M []) (ms:∀ qs q t,M qs->xA zs qs t q->M (qs ++ [q])):∀ (n:Nat) {ts:List Str} {ps:LSS},ps.length=n->xI zs ts ps->M ps
 | 0,ts,ps,hn,h=>by
  obtain rfl:=List.length_eq_zero_iff.mp hn
  exact m0
 | n + 1,ts,ps,hn,h=>by
  obtain ⟨qs,q,rfl⟩:∃ qs q,ps=qs ++ [q]:=by
   rcases List.eq_nil_or_concat ps with e | ⟨l,b,e⟩
   ·rw [e] at hn;simp at hn
   ·exact ⟨l,b,by rw [e];simp⟩
  have hl:qs.length=n:=by rw [zKL] at hn;simpa using hn
  have h':xI zs (ts.take n) qs:=by
   refine ⟨by rw [zKM,<- h.1,zKL,hl];simp,fun i t p ht hp=>?_⟩
   have il:=(zJ5.mp hp).1
   rw [List.getElem?_take_of_lt (by omega)] at ht
   have:=h.2 i t p ht (by rw [zKR il];exact hp)
   rw [List.take_append_of_le_length (Nat.le_of_lt il)] at this
   exact this
  have nt:n < ts.length:=by rw [<- h.1,zKL,hl];simp
  have s:=h.2 n ts[n] q (zJ4 nt) (by rw [<- hl,zKQ (zKC _),Nat.sub_self];rfl)
  rw [show (qs ++ [q]).take n=qs by rw [<- hl,List.take_append_of_le_length (zKC _),zK3]] at s
  exact ms qs q _ (xI.ind m0 ms n hl h') s
theorem xI.asc {zs ts:List Str} {ps:LSS} (h:xI zs ts ps):Asc ltP ps:=by
 refine xI.ind (M:=fun ps=>Asc ltP ps) List.Pairwise.nil (fun qs q t ih s=>?_) _ rfl h
 refine List.pairwise_append.mpr ⟨ih,List.pairwise_singleton _ _,fun a ha b hb=>?_⟩
 rw [zJ6.mp hb]
 rcases List.eq_nil_or_concat qs with e | ⟨l,z,e⟩
 ·rw [e] at ha;cases ha
 ·rw [List.concat_eq_append] at e
  subst e
  have hz:=jS (s.2.2.2.1 z (by rw [List.getLast?_concat]))
  rcases zKK.mp ha with h1 | h1
  ·exact dJ ((List.pairwise_append.mp ih).2.2 a h1 z (by simp)) hz
  ·rw [zJ6.mp h1];exact hz
theorem zD2 {p:Str × Str} (h:ltS p.1 p.2=true):xW p=p:=by
 have h2:=sL h
 unfold xW jQ jR
 rw [h,h2]
 simp
theorem xI.norm {zs ts:List Str} {ps:LSS} (h:xI zs ts ps):ps.map xW=ps:=by
 refine xI.ind (M:=fun ps=>ps.map xW=ps) rfl (fun qs q t ih s=>?_) _ rfl h
 rw [zKF,ih]
 show qs ++ [xW q]=_
 rw [zD2 s.2.2.1]
theorem Rows.push {H H':Hp} {l t:Addr} {rows:List (List V)} {r:List V} {qs:List Addr} (h:H l=some (.lst (qs.map V.ref))) (pr:Paired (fun q r=>H q=some (.tup r)) qs rows) (k:zD [] H H') (ht:H' t=some (.tup r)):Paired (fun q r=>upd H' l (.lst ((qs ++ [t]).map V.ref)) q=some (.tup r)) (qs ++ [t]) (rows ++ [r]):=by
 have hl:=k _ _ (by simp) h
 have far:∀ {q:Addr} {x:List V},H' q=some (.tup x)->upd H' l (.lst ((qs ++ [t]).map V.ref)) q=some (.tup x):=fun {q x} e=>by
  rw [zI (fun z=>by rw [z,hl] at e;cases e)]
  exact e
 exact vI (L2.Paired.mapP pr fun _ _ e=>far (k _ _ (by simp) e)) (far ht)
section
variable {P:Program} {w:World} {K:W.Frag} {mg:Str->Option Value} {base:Heap} {C:Addr}
theorem tR:zO ["text","first","others","houses","ties","number","line"] ["text"] (zF eI):=scm
def aA (K:W.Frag) (C CT:Addr):Sp:=fun vs H Q E=>∃ (x:V) (T:String),vs=[x]/\yK K H x T/\(∀ z,x=.str z->z.length <= 10000/\∀ l ∈ nlW z,wdL l < 60) /\
 (∀ (z:Str) (zs:List Str) (ps:LSS) (r:Addr) (B H':Hp),x=.str z->Out (nlW z) (.tree zs ps)->vD B C H' r zs ps->zD [] H H'->Q (.ref r) H') /\
 (∀ n:Nat,(((∀ z,x ≠ .str z)/\n=0) \/ ∃ z,x=.str z/\Out (nlW z) (.num n))->∀ (dx:Addr) (H':Hp),H dx=none->H' dx=some (.xd [("line",.int n)])->zD [] H H'->E (.ref CT) (some dx) H')
theorem zHI {CT fI:Addr} {fd:FuncData} (N:zCK P w K mg base CT fI fd) (G:yD K mg "read_tree" eI ["text"]) (CCT:Cal P w K mg base (CXE P w) 3 "check_text" ["thing"] (aC K CT)) (CRH:Cal P w K mg base (CXE P w) 4 "read_houses" ["line"] (zFQ CT)) (CRT:Cal P w K mg base (CXE P w) 4 "read_tie" ["line","number","houses","ties"] (zFP CT))
  (MK:zCL P w K mg base CX0 5 C "Tree" ["self","houses","ties"] (iW C)) (b_enumerate:Blt mg "enumerate") (b_len:Blt mg "len"):Cal P w K mg base (CXE P w) 7 "read_tree" ["text"] (aA K C CT):=by
 refine G.okX tR (fun vs H Q E h=>by obtain ⟨x,T,rfl,_⟩:=h;rfl) (fun f cdv A outer s0 H vs Q E hr h=>?_)
 obtain ⟨x,T,rfl,pt,lx,q,qe⟩:=h
 have hr6:zX 6 _:=hr
 have hr4:zX 4 _:=hr.mono (by decide)
 have hr3:zX 3 _:=hr.mono (by decide)
 have hr2:zX 2 _:=hr.mono (by decide)
 refine ⟨_,(zE (xC (qJ CCT m6 hr3 (zA (pv 0) zB)))
   (zE (vO (yS F.plainAttrs_str F.slot_str_split F.type_str_split xL (pv 0) (zA zS zB)) (mZ (n:=2) (i:=1) rfl (yO (z4 (i:=1) tR.nd rfl (Or.inl rfl)) (pD (z4 (i:=2) tR.nd rfl (Or.inl rfl)) wR))))
   (zE (zL (i:=3) tR.nd rfl (Or.inl rfl) (qJ CRH m6 hr4 (zA (pv 1) zB)))
   (zE (zL (i:=4) tR.nd rfl (Or.inl rfl) (yP zB))
   (zE (vN PassesOwn.leaving rfl (zDJ (by decide) rfl b_enumerate.no (pv 2)) (pE rfl (yO (z4 (i:=5) tR.nd rfl (Or.inl rfl)) (yO (z4 (i:=6) tR.nd rfl (Or.inl rfl)) wR))) (zJ (xC (yS F.plainAttrs_list F.slot_list_append F.type_list_append y6 (pv 4) (zA (qJ CRT m6 hr4 (zA (pv 6) (zA (pv 5) (zA (pv 3) (zA (pv 4) zB))))) zB)))))
   (zE (yW (zZ tI (zM zU b_len yH (zA (pv 4) zB)) (zN rH (zM zU b_len yH (zA (pv 3) zB)) zG) (z6 _)) (zJ (u5 (uB hr) N.ex N.be N.ok hr2 N.hb pH (zA (zN yT zG (zM zU b_len yH (zA (pv 2) zB))) zB))) yE)
   (zJ (zT (zI1 MK hr6 (zA (pv 3) (zA (pv 4) zB))))))))))),?_⟩
 refine ⟨_,rfl,x,T,rfl,pt,fun e=>?_,fun e dx H' hd h1 k=>qe 0 (.inl ⟨aY pt e,rfl⟩) dx H' hd h1 k⟩
 obtain ⟨z,rfl⟩:=cP pt e
 obtain ⟨lz,lw⟩:=lx z rfl
 have q:=fun zs ps r B H'=>q z zs ps r B H' rfl
 have qe:=fun n h=>qe n (.inr ⟨z,rfl,h⟩)
 refine ⟨_,rfl,rfl,_,10,rfl,by rw [jL],lz,fun sl hsl=>?_⟩
 have many:=tP z 10
 have short:=fun a (h:a ∈ Txt.split z ⟨#[10]⟩)=>PyProof.Rows.part_short h
 obtain ⟨first,rest,ez⟩:∃ w ws,nlW z=w :: ws:=by
  cases h:nlW z with
  | nil=>exact absurd h (y4 _ _)
  | cons w ws=>exact ⟨w,ws,rfl⟩
 rw [show Txt.split z ⟨#[10]⟩=first :: rest from ez] at short many ⊢
 rw [ez] at q qe lw
 have ln:rest.length <= 10001:=by rw [zKO] at many;omega
 have wln:∀ l ∈ first :: rest,(spW l).length < 60:=fun l hl=>by
  have:=wY l
  have:=lw l hl
  show (Txt.split l ⟨#[32]⟩).length < 60
  omega
 refine lay hsl fun H1 k1 e1=>?_
 refine ⟨sl,_,rfl,.of e1,by simp,by rw [zJ3,zKO];omega,fun D hD=>?_⟩
 rw [List.map_cons,(vT _ _ D).1,(vT _ _ D).2]
 refine lay hD fun H2 k2 e2=>?_
 have k02:=k1.trans k2
 refine ⟨_,_,rfl,_,_,rfl,rfl,?_⟩
 refine ⟨_,rfl,first,rfl,zKE (short first (by simp)) lz,wln first (by simp),fun zs hl H3 hs nhl ehl k3=>?_,fun no dx H' hd h1 k=>qe 0 (.first rfl no) dx H' (k02.none (by simp) hd) h1 (k02.trans k)⟩
 have k03:=k02.trans k3
 have gz:=hs.2.1
 have nd:=hs.2.2.1
 have ne:=hs.2.2.2.1
 have az:=hs.2.2.2.2
 have lzs:zs.length < 60:=by
  have:=wln first (by simp)
  rw [hs.1,zKO] at this
  omega
 refine ⟨by show 0 <= sizeLine;decide,fun tl htl=>?_⟩
 have thl:hl ≠ tl:=zH ehl htl
 have nDt:D ≠ tl:=zH (k3 _ _ (by simp) e2) htl
 have ntl:H tl=none:=k03.none (by simp) htl
 refine lay htl fun H4 k4 e4=>?_
 have k04:=k03.trans k4
 have eD:=(k3.trans k4) _ _ (by simp) e2
 have eh4:=k4 _ _ (by simp) ehl
 refine ⟨_,rfl,D,rfl,⟨_,.of eD⟩,jV (K:=K) (a:=D) (k:=1) (xs:=rest.map V.str) (fun i σ' H'=>∃ (ps:LSS) (qs:List Addr) (v5 v6:Option V),σ'=[some (.str z),some (.str first),some (.ref D),some (.ref hl),some (.ref tl),v5,v6]/\xI zs (rest.take i) ps/\H' tl=some (.lst (qs.map V.ref))/\Paired (fun q r=>H' q=some (.tup r)) qs (ps.map zQ)/\zD [tl] H4 H') ⟨[],[],_,_,rfl,xI.nil,e4,.nil,zD.refl _⟩ (fun i σ' H' _ ⟨_,_,_,_,_,_,_,_,k⟩=>.of (k _ _ (by simp [nDt]) eD)) ?_ ?_⟩
 ·rintro i x σ' H' Tt hx ⟨ps,qs,v5,v6,rfl,rd,htl',pr,kp⟩ hT
  rw [zJ9] at hx
  cases et:rest[i]? with
  | none=>rw [et] at hx;cases hx
  | some t=>
  rw [et] at hx
  obtain rfl:V.str t=x:=zKA hx
  have il:=(zJ5.mp et).1
  obtain ⟨part,R,lb⟩:=xI.lab nd _ rfl rd
  have few:=lb.few ne
  have lps:=rd.1
  refine ⟨Tt,_,rfl,.of zC,rfl,_,_,rfl,_,_,rfl,rfl,?_⟩
  refine lay hT fun H5 k5 e5=>?_
  have htl5:=k5 _ _ (by simp) htl'
  have pr5:Paired (fun q r=>H5 q=some (.tup r)) qs (ps.map zQ):=L2.Paired.mapP pr fun _ _ e=>k5 _ _ (by simp) e
  have kd:∀ {H6:Hp},zD [] H5 H6->zD [] H H6:=fun {H6} k6 b o hb hh=>(k5.trans k6) b o hb (kp b o (by simp;intro e;rw [e,ntl] at hh;cases hh) (k04 b o hb hh))
  have mt:t ∈ first :: rest:=zKG _ (zJ7 et)
  refine ⟨_,rfl,Or.inl ⟨rfl,_,.of htl5⟩,_,rfl,_,rfl,_,rfl,_,rfl,t,i + 1,hl,tl,zs,ps,by rw [Int.add_comm];rfl,zKE (short t mt) lz,wln t mt,by omega,k5 _ _ (by simp) (kp _ _ (by simp [thl]) eh4),⟨qs,htl5,pr5⟩,gz,nd,rd.ties,by omega,lzs,fun p tt H6 st ntt ett k6=>?_,fun no dx H6 hd h1 k6=>qe (i + 1) (.line rfl hs rd et no) dx H6 ((kd (zD.refl _)).none (by simp) hd) h1 (kd k6)⟩
  refine ⟨tl,_,_,rfl,rfl,k6 _ _ (by simp) htl5,?_,ps ++ [p],qs ++ [tt],_,_,rfl,?_,?_,?_,?_⟩
  ·have:=zW pr5
   rw [zJ3] at this
   rw [zJ3,sizeLine_eq];omega
  ·rw [List.take_add_one,et]
   exact rd.snoc st
  ·rw [zC,zKF];rfl
  ·rw [zKF]
   have:=Rows.push htl5 pr5 k6 ett
   rw [zKF] at this
   exact this
  ·exact (kp.trans ((k5.trans k6).mono (by simp))).trans (zD.at (by simp))
 rintro σ' H' ⟨ps,qs,v5,v6,rfl,rd,htl',pr,kp⟩
 rw [zJ3,zK3] at rd
 obtain ⟨part,R,lb⟩:=xI.lab nd _ rfl rd
 have few:=lb.few ne
 have lq:=zW pr
 rw [zJ3] at lq
 have kd:∀ {H6:Hp},zD [] H' H6->zD [] H H6:=fun {H6} k6 b o hb hh=>k6 b o hb (kp b o (by simp;intro e;rw [e,ntl] at hh;cases hh) (k04 b o hb hh))
 have eh':=kp _ _ (by simp [thl]) eh4
 have eD':=kp _ _ (by simp [nDt]) eD
 refine ⟨_,rfl,_,_,rfl,.inl ⟨_,.of htl',rfl⟩,_,rfl,_,_,rfl,.inl ⟨_,.of eh',rfl⟩,_,_,rfl,rfl,rfl,_,rfl,?_⟩
 by_cases eq:ps.length + 1=zs.length
 ·refine ifF ?_ ?_
  ·have:V.int ((qs.map V.ref).length:Int)=V.int (((zs.map V.str).length:Int) - 1):=by
    rw [zJ3,zJ3]
    congr 1
    omega
   rw [zKI this];rfl
  refine ⟨_,rfl,_,rfl,fun r dx hr' hdx ndx=>?_⟩
  have k0:zD [] H' (upd (upd H' dx (.own r)) r (.ins C dx [])):=(zD.new hdx).trans (zD.new (by rw [zI (Ne.symm ndx)];exact hr'))
  refine ⟨r,dx,hl,tl,zs,ps,rfl,zC,k0 _ _ (by simp) eh',(show Rows H' tl (ps.map zQ) from ⟨qs,htl',pr⟩).keep k0,gz,nd,zKT.mpr ne,lzs,eq,rd.ties,lb.conn eq,fun zs' ps' H6 pz sz pp sp tr k6=>⟨rfl,?_⟩⟩
  have ezs:zs'=zs:=sQ (fun a b=>uC) pz sz az
  rw [rd.norm] at pp
  have eps:ps'=ps:=sQ (fun a b=>zEA) pp sp rd.asc
  subst ezs eps
  exact q zs' ps' r _ H6 (.tree rfl hs rd eq) tr (kd (k0.under k6 (by intro b hb;rw [zJ6.mp hb];exact hr')))
 ·refine ifT ?_ ?_
  ·have:¬ V.int ((qs.map V.ref).length:Int)=V.int (((zs.map V.str).length:Int) - 1):=fun e=>eq (by
    injection e with e
    rw [zJ3,zJ3] at e
    omega)
   rw [zKJ this];rfl
  refine ⟨_,rfl,_,_,rfl,.inl ⟨_,.of eD',rfl⟩,_,_,rfl,rfl,?_⟩
  have en:(1 + ((rest.map V.str).length:Int))=(((first :: rest).length:Nat):Int):=by rw [zJ3,zKO];omega
  rw [show ((fun i j:Int=>V.int (i + j)) 1 ((rest.map V.str).length:Int))=V.int (((first :: rest).length:Nat):Int) from congrArg V.int en]
  exact xS (by rw [zKO];omega) fun dx H6 hd h1 k6=>qe _ (.few rfl hs rd eq) dx H6 ((kd (zD.refl _)).none (by simp) hd) h1 (kd k6)
end
structure Kn (K:W.Frag) (mg:Str->Option Value) (cs:Nat->Addr):Prop where
 g0:Glo mg "NoTree" (.ref (cs 0))
 g1:Glo mg "NoHouse" (.ref (cs 1))
 g2:Glo mg "NoSeat" (.ref (cs 2))
 g3:Glo mg "NoAsker" (.ref (cs 3))
 g4:Glo mg "NoLetter" (.ref (cs 4))
 g5:Glo mg "NoRight" (.ref (cs 5))
 g6:Glo mg "NoRow" (.ref (cs 6))
 g7:Glo mg "NoTie" (.ref (cs 7))
 g8:Glo mg "Down" (.ref (cs 8))
 g9:Glo mg "NoMend" (.ref (cs 9))
 g10:Glo mg "NoText" (.ref (cs 10))
 g11:Glo mg "NoLine" (.ref (cs 11))
 kd:∀ i j,i < 12->j < 12->W.kitOne K (.ref (cs i)) (.ref (cs j))=some (decide (i=j))
 kv:∀ i,i < 12->W.kitOne K (.ref (cs i)) (.type "ValueError")=some true
 ke:∀ i,i < 12->sT K (cs i)
abbrev sRe:Stmt:=top 47
section
variable {P:Program} {w:World} {K:W.Frag} {mg:Str->Option Value} {base:Heap} {C:Addr}
theorem kT:zO ["_law_thing","_law_found","_law_tree_here","e","_law_others"] ["_law_thing"] (zF sRe):=scm
theorem zBC {cs:Nat->Addr} (kn:Kn K mg cs):∀ (l:List Nat),(∀ j ∈ l,j < 12/\j ≠ 10)->W.kitAny K (.ref (cs 10)) ((l.map cs).map Value.ref)=some false:=by
 intro l
 induction l with
 | nil=>intro _;rfl
 | cons j l ih=>
  intro h
  obtain ⟨h1,h2⟩:=h j zKW
  show (match W.kitOne K (.ref (cs 10)) (.ref (cs j)) with | some true=>some true | some false=>W.kitAny K (.ref (cs 10)) ((l.map cs).map Value.ref) | none=>none)=_
  rw [kn.kd 10 j (by decide) h1,zKJ (fun e=>h2 e.symm)]
  exact ih fun i hi=>h i (zKG _ hi)
def zH7 (H':Hp) (x r:V):Prop:=(∃ n:Nat,(((∀ z,x ≠ .str z)/\n=0) \/ ∃ z,x=.str z/\Out (nlW z) (.num n))/\r=.int n) \/
 ∃ (z:Str) (zs:List Str) (ps:LSS) (t hl tl:Addr),x=.str z/\Out (nlW z) (.tree zs ps)/\r=.ref t/\H' t=some (.tup [.ref hl,.ref tl])/\H' hl=some (.lst (zs.map V.str))/\Rows H' tl (ps.map zQ)
def zIP (K:W.Frag):Sp:=fun vs H Q _=>∃ (x:V) (T:String),vs=[x]/\yK K H x T/\(∀ z,x=.str z->z.length <= 10000/\∀ l ∈ nlW z,wdL l < 60)/\∀ (r:V) (H':Hp),zH7 H' x r->zD [] H H'->Q r H'
theorem okRe {cs:Nat->Addr} {DC:Addr} (kn:Kn K mg cs) (T:iE K C) (G:yD K mg "_law_read" sRe ["_law_thing"]) (CRd:Cal P w K mg base (CXE P w) 7 "read_tree" ["text"] (aA K C (cs 10))) (MH:bO P w K mg base CX0 1 C "houses" ["self"] (kO C)) (MT:bO P w K mg base CX0 1 C "ties" ["self"] (b8 C))
  (hm:mg "TreeError"=some (.ref DC)) (hx:W.exmOne K (.ref (cs 10)) (.ref DC)=some true) (hfl:W.findIn K (.ref (cs 10)) "line"=some none) (b_isinstance:Blt mg "isinstance") (b_ValueError:Blt mg "ValueError"):Cal P w K mg base CX0 8 "_law_read" ["_law_thing"] (zIP K):=by
 refine G.ok kT (fun vs H Q E h=>by obtain ⟨x,T,rfl,_⟩:=h;rfl) (fun f cdv A outer s0 H vs Q E hr h=>?_)
 obtain ⟨x,Ty,rfl,pt,lx,q⟩:=h
 have hr7:zX 7 _:=hr
 have hr1:zX 1 _:=hr.mono (by decide)
 refine ⟨_,(zE (zL (i:=1) kT.nd rfl (Or.inl rfl) zS) (zE (zDH (i:=3) (th:=(fun (_:Addr)=>rZ (r8 (tCB (pB K) (z7 (vS 3) (z7 (bW (z7 (tC (.ref (cs 8))) (z7 (tC (.ref (cs 3))) (z7 (tC (.ref (cs 1))) (z7 (tC (.ref (cs 4))) (z7 (tC (.ref (cs 11))) (z7 (tC (.ref (cs 9))) vF))))))) vF))) (wL 4)) (rZ (r8 (zGH (vS 4) (tCB (pB K) (z7 (vS 3) (z7 (bW (z7 (tC (.ref (cs 5))) (z7 (tC (.ref (cs 6))) (z7 (tC (.ref (cs 2))) (z7 (tC (.ref (cs 7))) (z7 (tC (.ref (cs 0))) vF)))))) vF)))) (wL 4)) (iR (bX (tB (tCB (oU K (.ref (cs 10)) (.ref (cs 10))) (z7 (vS 3) (z7 (tC (.ref (cs 10))) vF)))) (bX (tB (tCB (oU K (.ty "ValueError") (.type "ValueError")) (z7 (vS 3) (z7 (tC (.ty "ValueError")) vF)))) (zGI (tB (vS 4))))) (r8 (tXg K (vS 3) "line") (wL 1)) fR)))) hm kT.nd rfl rfl (fun pn' xe' E1 hp=>(zE (zL (i:=2) kT.nd rfl (Or.inl rfl) (qJ CRd hp hr7 (zA (pv 0) zB))) (zJ (zL (i:=1) kT.nd rfl (Or.inl rfl) (xZ (zA (eZ MH T.cl hr1 (pv 2)) (zA (eZ MT T.cl hr1 (pv 2)) zB))))))) (fun pn' a=>(zE (zL (i:=4) kT.nd rfl (Or.inl rfl) (zM oB b_isinstance yF (zA (pv 3) (zA (xZ (zA (xU kn.g8) (zA (xU kn.g3) (zA (xU kn.g1) (zA (xU kn.g4) (zA (xU kn.g11) (zA (xU kn.g9) zB))))))) zB)))) (zE (zL (i:=4) kT.nd rfl (Or.inl rfl) (zFX (pv 4) (vP (zM oB b_isinstance yF (zA (pv 3) (zA (xZ (zA (xU kn.g5) (zA (xU kn.g6) (zA (xU kn.g2) (zA (xU kn.g7) (zA (xU kn.g0) zB)))))) zB)))))) (zJ (yW (PW.pt (i8 (xF (zM (bM (D:=cs 10)) b_isinstance yF (zA (pv 3) (zA (xU kn.g10) zB)))) (i8 (xF (zM (fD (T:="ValueError")) b_isinstance yF (zA (pv 3) (zA (pF b_ValueError oM) zB)))) (eS (xT (xF (pv 4))))))) (zJ (zL (i:=1) kT.nd rfl (Or.inl rfl) (zDK (pv 3) rfl))) yE)))))) (zJ (zT (pv 1))))),?_⟩
 have ke:=kn.ke 10 (by decide)
 have hand:∀ (i:Nat) (dx:Addr) (H1:Hp) (D:sU) ,H1 dx=some (.xd [("line",.int i)])->(∀ (a b c:Option V) (H2:Hp),zD [] H1 H2->D.nx [a,some (.int i),b,none,c] H2)->∃ C,Value.ref (cs 10)=.ref C/\W.exmOne K (.ref C) (.ref DC)=some true/\∀ (a:Addr) (σ':St),σ'.length=5->H1 a=none->(fun (_:Addr)=>rZ (r8 (tCB (pB K) (z7 (vS 3) (z7 (bW (z7 (tC (.ref (cs 8))) (z7 (tC (.ref (cs 3))) (z7 (tC (.ref (cs 1))) (z7 (tC (.ref (cs 4))) (z7 (tC (.ref (cs 11))) (z7 (tC (.ref (cs 9))) vF))))))) vF))) (wL 4)) (rZ (r8 (zGH (vS 4) (tCB (pB K) (z7 (vS 3) (z7 (bW (z7 (tC (.ref (cs 5))) (z7 (tC (.ref (cs 6))) (z7 (tC (.ref (cs 2))) (z7 (tC (.ref (cs 7))) (z7 (tC (.ref (cs 0))) vF)))))) vF)))) (wL 4)) (iR (bX (tB (tCB (oU K (.ref (cs 10)) (.ref (cs 10))) (z7 (vS 3) (z7 (tC (.ref (cs 10))) vF)))) (bX (tB (tCB (oU K (.ty "ValueError") (.type "ValueError")) (z7 (vS 3) (z7 (tC (.ty "ValueError")) vF)))) (zGI (tB (vS 4))))) (r8 (tXg K (vS 3) "line") (wL 1)) fR))) a { nx:=fun σ' H'=>D.nx ((σ'.set 3 (some .non)).set 3 none) H',rt:=D.rt } (σ'.set 3 (some (.ref a))) (upd H1 a (tY C a (some dx))):=by
  intro i dx H1 D hd fin
  refine ⟨cs 10,rfl,hx,fun a σ' hl ha=>?_⟩
  match σ',hl with
  | [s0,s1,s2,s3,s4],_=>
  have k2:zD [] H1 (upd H1 a (tY (cs 10) a (some dx))):=zD.new ha
  have ha2:upd H1 a (tY (cs 10) a (some dx)) a=some (tY (cs 10) a (some dx)):=zC
  generalize upd H1 a (tY (cs 10) a (some dx))=H2 at k2 ha2
  have dci:∀ {H3:Hp},zD [] H2 H3->zFD H3 (some dx):=fun {H3} k e=>by
   rw [(k2.trans k) _ _ (by simp) hd] at e;cases e
  refine ⟨_,rfl,by show 6 <= sizeLine;decide,fun t ht=>?_⟩
  have k3:zD [] H2 (upd H2 t (.tup [.ref (cs 8),.ref (cs 3),.ref (cs 1),.ref (cs 4),.ref (cs 11),.ref (cs 9)])):=zD.new ht
  refine ⟨a,cs 10,t,some dx,[8,3,1,4,11,9].map cs,false,rfl,k3 _ _ (by simp) ha2,dci k3,ke,zC,zBC kn _ (by decide),?_⟩
  have ha3:=k3 _ _ (by simp) ha2
  generalize upd H2 t (.tup [.ref (cs 8),.ref (cs 3),.ref (cs 1),.ref (cs 4),.ref (cs 11),.ref (cs 9)])=H3 at k3 ha3
  refine ⟨_,rfl,_,rfl,ifF rfl ?_⟩
  refine ⟨_,rfl,by show 5 <= sizeLine;decide,fun t2 ht2=>?_⟩
  have k4:zD [] H3 (upd H3 t2 (.tup [.ref (cs 5),.ref (cs 6),.ref (cs 2),.ref (cs 7),.ref (cs 0)])):=zD.new ht2
  have k24:=k3.trans k4
  refine ⟨a,cs 10,t2,some dx,[5,6,2,7,0].map cs,false,rfl,k4 _ _ (by simp) ha3,dci k24,ke,zC,zBC kn _ (by decide),?_⟩
  have ha4:=k4 _ _ (by simp) ha3
  generalize upd H3 t2 (.tup [.ref (cs 5),.ref (cs 6),.ref (cs 2),.ref (cs 7),.ref (cs 0)])=H4 at k24 ha4
  refine ⟨_,rfl,a,cs 10,some dx,true,rfl,ha4,dci k24,ke,by rw [kn.kd 10 10 (by decide) (by decide)];rfl,_,rfl,ifT rfl ?_⟩
  refine ⟨_,rfl,a,cs 10,some dx,true,rfl,ha4,dci k24,ke,kn.kv 10 (by decide),_,rfl,ifT rfl ?_⟩
  refine ⟨_,rfl,_,rfl,ifT rfl ?_⟩
  refine ⟨_,rfl,a,cs 10,dx,_,.int i,rfl,ha4,(k2.trans k24) _ _ (by simp) hd,rfl,ke,hfl,?_⟩
  exact fin _ _ _ _ (k2.trans k24)
 refine ⟨_,rfl,x,Ty,rfl,pt,lx,fun z zs ps r B H1 ex out tr k1=>?_,fun n hn dx H1 hd h1 k1=>?_⟩
 ·obtain ⟨dx',nl,pl,nd,L,N,bb,t1,t2⟩:=id tr
  refine ⟨_,rfl,r,dx',_,rfl,t1,rfl,r,_,zs,ps,rfl,tr,fun hl hhl=>?_⟩
  refine lay hhl fun H2 k2 e2=>?_
  have tr2:=tr.on k2
  refine ⟨_,rfl,r,dx',_,rfl,k2 _ _ (by simp) t1,rfl,r,_,zs,ps,rfl,tr2,fun tl H3 htl R3 k3=>⟨by show 2 <= sizeLine;decide,fun t ht=>?_⟩⟩
  have k4:zD [] H3 (upd H3 t (.tup [.ref hl,.ref tl])):=zD.new ht
  exact ⟨_,rfl,q (.ref t) _ (.inr ⟨z,zs,ps,t,hl,tl,ex,out,rfl,zC,(k3.trans k4) _ _ (by simp) e2,R3.keep k4⟩) (((k1.trans k2).trans k3).trans k4)⟩
 ·refine hand n dx H1 _ h1 ?_
  exact fun a b c H2 k2=>⟨_,rfl,q (.int n) H2 (.inl ⟨n,hn,rfl⟩) (k1.trans k2)⟩
end
abbrev aN:Stmt:=top 43
abbrev aO:Stmt:=top 45
structure GT (zs:List Str) (ps:LSS):Prop where
 g:∀ z ∈ zs,yB z
 nd:zs.Nodup
 l1:1 <= zs.length
 l2:zs.length <= 12
 lp:ps.length + 1=zs.length
 t:∀ p ∈ ps,xN zs p
 c:iI zs ps
theorem GT.norm {zs zs':List Str} {ps ps':LSS} (h:GT zs ps) (pz:zs'.Perm zs) (pp:ps'.Perm (ps.map xW)):GT zs' ps':=by
 refine ⟨fun z hz=>h.g z (pz.mem_iff.mp hz),pz.nodup_iff.mpr h.nd,by rw [pz.length_eq];exact h.l1,by rw [pz.length_eq];exact h.l2,by rw [pz.length_eq,pp.length_eq,zJ3];exact h.lp,fun t ht=>?_,nW h.c pz pp⟩
 obtain ⟨u,hu,e⟩:=List.mem_map.mp (pp.mem_iff.mp ht)
 rw [<- e]
 obtain ⟨a,b,c⟩:=kJ (h.t u hu)
 exact ⟨pz.mem_iff.mpr a,pz.mem_iff.mpr b,c⟩
theorem zCG:(10:Nat) ∉ abc.cps.toList/\(32:Nat) ∉ abc.cps.toList:=by decide +kernel
theorem nE {c:Nat} (h:xD c=true):c ∈ abc.cps.toList:=by
 unfold xD at h
 rw [StrLaws.found_one] at h
 exact of_decide_eq_true h
theorem wZ {z:Str} (h:yB z):10 ∉ z.cps.toList/\32 ∉ z.cps.toList:=by
 have h1:=h.1
 unfold xV at h1
 simp only [Bool.and_eq_true] at h1
 have h2:=List.all_eq_true.mp h1.2
 exact ⟨fun m=>zCG.1 (nE (h2 _ m)),fun m=>zCG.2 (nE (h2 _ m))⟩
theorem zA2 {c d:Nat}:∀ {xs:List (List Nat)},c ∈ jn d xs->c=d \/ ∃ x ∈ xs,c ∈ x
 | [],h=>by cases h
 | [x],h=>.inr ⟨x,zKW,h⟩
 | x :: y :: r,h=>by
  rcases zKK.mp (show c ∈ x ++ d :: jn d (y :: r) from h) with q | q
  ·exact .inr ⟨x,zKW,q⟩
  ·rcases List.mem_cons.mp q with q | q
   ·exact .inl q
   ·rcases zA2 q with q | ⟨z,hz,q⟩
    ·exact .inl q
    ·exact .inr ⟨z,zKG _ hz,q⟩
theorem nH {c d:Nat} {ys:List Str} (n:c ≠ d) (h:∀ y ∈ ys,c ∉ y.cps.toList):c ∉ (Str.join ⟨#[d]⟩ ys).cps.toList:=by
 rw [xG]
 intro m
 rcases zA2 m with q | ⟨x,hx,q⟩
 ·exact n q
 ·obtain ⟨y,hy,rfl⟩:=List.mem_map.mp hx
  exact h y hy q
def wO (zs:List Str):Str:=Str.join ⟨#[32]⟩ ("tree" :: zs)
def vK (p:Str × Str):Str:=Str.join ⟨#[32]⟩ ["tie",p.1,p.2]
def rQ (zs:List Str) (ps:LSS):Str:=Str.join ⟨#[10]⟩ (wO zs :: ps.map vK)
theorem qE:(∀ c ∈ [10,32],c ∉ ("tree" : Str).cps.toList)/\(∀ c ∈ [10,32],c ∉ ("tie" : Str).cps.toList):=by decide +kernel
theorem zCU {zs:List Str} (g:∀ z ∈ zs,yB z):Txt.split (wO zs) ⟨#[32]⟩=("tree" : Str) :: zs:=by
 unfold wO
 refine xY (List.cons_ne_nil _ _) fun y hy=>?_
 rcases List.mem_cons.mp hy with rfl | hy
 ·exact qE.1 32 (by simp)
 ·exact (wZ (g y hy)).2
theorem zCT {p:Str × Str} (g1:yB p.1) (g2:yB p.2):Txt.split (vK p) ⟨#[32]⟩=[("tie" : Str),p.1,p.2]:=by
 unfold vK
 refine xY (List.cons_ne_nil _ _) fun y hy=>?_
 rcases List.mem_cons.mp hy with rfl | hy
 ·exact qE.2 32 (by simp)
 ·rcases List.mem_cons.mp hy with rfl | hy
  ·exact (wZ g1).2
  ·rw [zJ6.mp hy];exact (wZ g2).2
theorem zCS {zs:List Str} {ps:LSS} (g:∀ z ∈ zs,yB z) (gp:∀ p ∈ ps,yB p.1/\yB p.2):Txt.split (rQ zs ps) ⟨#[10]⟩=wO zs :: ps.map vK:=by
 unfold rQ
 refine xY (List.cons_ne_nil _ _) fun y hy=>?_
 rcases List.mem_cons.mp hy with rfl | hy
 ·refine nH (by decide) fun z hz=>?_
  rcases List.mem_cons.mp hz with rfl | hz
  ·exact qE.1 10 (by simp)
  ·exact (wZ (g z hz)).1
 ·obtain ⟨p,hp,rfl⟩:=List.mem_map.mp hy
  refine nH (by decide) fun z hz=>?_
  rcases List.mem_cons.mp hz with rfl | hz
  ·exact qE.2 10 (by simp)
  ·rcases List.mem_cons.mp hz with rfl | hz
   ·exact (wZ (gp p hp).1).1
   ·rw [zJ6.mp hz];exact (wZ (gp p hp).2).1
theorem zJK {zs:List Str} (g:∀ z ∈ zs,yB z) (l:zs.length <= 12):(wO zs).length <= 200:=by
 have a:=qX 32 ("tree" :: zs)
 have b:=StrLaws.sumLen_le (B:=8) ("tree" :: zs) (fun y hy=>by
  rcases List.mem_cons.mp hy with rfl | hy
  ·decide +kernel
  ·exact (g y hy).2)
 rw [zKO] at a b
 unfold wO
 omega
theorem zJJ {p:Str × Str} (g1:yB p.1) (g2:yB p.2):(vK p).length <= 30:=by
 have a:=qX 32 ["tie",p.1,p.2]
 have b:=StrLaws.sumLen_le (B:=8) ["tie",p.1,p.2] (fun y hy=>by
  rcases List.mem_cons.mp hy with rfl | hy
  ·decide +kernel
  ·rcases List.mem_cons.mp hy with rfl | hy
   ·exact g1.2
   ·rw [zJ6.mp hy];exact g2.2)
 simp only [zKO,List.length_nil] at a b
 unfold vK
 omega
theorem zFK {zs:List Str} {ps:LSS} (g:∀ z ∈ zs,yB z) (gp:∀ p ∈ ps,yB p.1/\yB p.2) (l:zs.length <= 12) (lp:ps.length <= 12):((wO zs :: ps.map vK).map (·.length)).sum + (wO zs :: ps.map vK).length <= 600:=by
 have b:=StrLaws.sumLen_le (B:=30) (ps.map vK) (fun y hy=>by
  obtain ⟨p,hp,rfl⟩:=List.mem_map.mp hy
  exact zJJ (gp p hp).1 (gp p hp).2)
 have h:=zJK g l
 rw [zJ3] at b
 rw [List.map_cons,List.sum_cons,zKO,zJ3]
 omega
theorem zJI {zs:List Str} {ps:LSS} (g:∀ z ∈ zs,yB z) (gp:∀ p ∈ ps,yB p.1/\yB p.2) (l:zs.length <= 12) (lp:ps.length <= 12):(rQ zs ps).length <= 600:=by
 unfold rQ
 exact zKE (qX 10 _) (zFK g gp l lp)
theorem GT.gp {zs:List Str} {ps:LSS} (g:GT zs ps):∀ p ∈ ps,yB p.1/\yB p.2:=fun p hp=>⟨g.g _ (g.t p hp).1,g.g _ (g.t p hp).2.1⟩
theorem zGC:("tie " : Str)="tie" ++ ⟨#[32]⟩:=by decide +kernel
theorem zEB (p:Str × Str):vK p=("tie " : Str) ++ p.1 ++ " " ++ p.2:=by
 unfold vK
 rw [zGC,uM]
 refine wD ?_
 rw [xG]
 simp only [lM,List.map_cons,List.map_nil,jn]
 simp
theorem zI6 {zs:List Str} {ps:LSS} (g:GT zs ps):PAB 13 3 (nlW (rQ zs ps)):=by
 have e:nlW (rQ zs ps)=wO zs :: ps.map vK:=zCS g.g g.gp
 rw [e]
 have h1:wdL (wO zs) <= 13:=by
  rw [<- wY,zCU g.g,zKO]
  have:=g.l2
  omega
 have h2:∀ l ∈ ps.map vK,wdL l <= 3:=fun l hl=>by
  obtain ⟨p,hp,rfl⟩:=List.mem_map.mp hl
  rw [<- wY,zCT (g.gp p hp).1 (g.gp p hp).2]
  exact zKC _
 refine ⟨fun l hl=>?_,fun i j l m ij hl hm=>?_⟩
 ·rcases List.mem_cons.mp hl with rfl | hl
  ·exact h1
  ·exact zKE (h2 l hl) (by decide)
 ·cases i with
  | succ i=>exact .inl (h2 l (zJ7 (by simpa using hl)))
  | zero=>
   cases j with
   | zero=>exact absurd rfl ij
   | succ j=>exact .inr (h2 m (zJ7 (by simpa using hm)))
section
variable {P:Program} {w:World} {K:W.Frag} {mg:Str->Option Value} {base:Heap} {C:Addr}
theorem aG:zO ["_law_names_here","_law_ties","_law_lines","_law_tie"] ["_law_names_here","_law_ties"] (zF aN):=scm
theorem zIU:zO ["_law_word_here"] ["_law_word_here"] (zF aO):=scm
def zFL:Sp:=fun vs H Q _=>∃ (nh th:Addr) (zs:List Str) (ps:LSS),vs=[.ref nh,.ref th]/\H nh=some (.lst (zs.map V.str))/\Rows H th (ps.map zQ)/\GT zs ps /\
 ∀ (zs':List Str) (ps':LSS) (H':Hp),zs'.Perm zs->Asc ltS zs'->ps'.Perm (ps.map xW)->Asc ltP ps'->zD [] H H'->Q (.str (rQ zs' ps')) H'
theorem zJA (G:yD K mg "_law_tree_text" aN ["_law_names_here","_law_ties"]) (b_sorted:Blt mg "sorted") (b_min:Blt mg "min") (b_max:Blt mg "max"):Cal P w K mg base CX0 1 "_law_tree_text" ["_law_names_here","_law_ties"] zFL:=by
 refine G.ok aG (fun vs H Q E h=>by obtain ⟨nh,th,zs,ps,rfl,_⟩:=h;rfl) (fun f cdv A outer s0 H vs Q E hr h=>?_)
 obtain ⟨nh,th,zs,ps,rfl,hnh,hth,gt,q⟩:=h
 have l12:=gt.l2
 have lps:=gt.lp
 refine ⟨_,(zE (zL (i:=2) aG.nd rfl (Or.inl rfl) (yP (zA (@zAH _ _ _ _ _ _ _ _ _ _ _ _ _ _ rfl (zM wU b_sorted wC (zA (pv 0) zB)) rfl) zB)))
   (zE (vN PassesOwn.never rfl (yY (zM sO b_sorted wC (zA (wM (N:=["_law_names_here","_law_ties","_law_lines","_law_tie"]) (sc:=zF aN) (ix:=[]) (by decide +kernel) (yY (pv 1)) (fun _ _ _ _=>xB) (fun _ _ _ _=>(xZ (zA (zM (nY rfl) b_min fG (zA (pv 0) zB)) (zA (zM (nZ rfl) b_max zB6 (zA (pv 0) zB)) zB))))) zB))) (z4 (i:=3) aG.nd rfl (Or.inl rfl)) (zJ (xC (yS F.plainAttrs_list F.slot_list_append F.type_list_append y6 (pv 2) (zA (zN yZ (zN yZ (zN yZ zS (yI tE (pv 3) zG (fun _ _=>rfl))) zS) (yI tE (pv 3) zG (fun _ _=>rfl))) zB)))))
   (zJ (zT (yS F.plainAttrs_str F.slot_str_join F.type_str_join u8 zS (zA (pv 2) zB)))))),?_⟩
 refine ⟨rfl,by show 1 <= sizeLine;decide,fun l1 hl1=>?_⟩
 have k1:zD [] H (upd H l1 (.lst [.str "tree"])):=zD.new hl1
 have e1:upd H l1 (.lst [.str "tree"]) l1=some (.lst [.str "tree"]):=zC
 generalize upd H l1 (.lst [.str "tree"])=H1 at k1 e1
 refine ⟨_,rfl,nh,zs,rfl,k1 _ _ (by simp) hnh,by omega,fun l2 zs' hl2 pz sz=>?_⟩
 have k2:zD [] H1 (upd H1 l2 (.lst (zs'.map V.str))):=zD.new hl2
 have e2:upd H1 l2 (.lst (zs'.map V.str)) l2=some (.lst (zs'.map V.str)):=zC
 generalize upd H1 l2 (.lst (zs'.map V.str))=H2 at k2 e2
 have lz':zs'.length=zs.length:=pz.length_eq
 have gz':∀ z ∈ zs',yB z:=fun z hz=>gt.g z (pz.mem_iff.mp hz)
 refine ⟨l1,l2,_,_,rfl,rfl,k2 _ _ (by simp) e1,e2,by rw [zJ3,sizeLine_eq];show 1 + _ <= _;omega,fun l3 hl3=>?_⟩
 rw [show [V.str "tree"] ++ zs'.map V.str=(("tree" : Str) :: zs').map V.str from rfl]
 have k3:zD [] H2 (upd H2 l3 (.lst ((("tree" : Str) :: zs').map V.str))):=zD.new hl3
 have e3:upd H2 l3 (.lst ((("tree" : Str) :: zs').map V.str)) l3=some (.lst ((("tree" : Str) :: zs').map V.str)):=zC
 generalize upd H2 l3 (.lst ((("tree" : Str) :: zs').map V.str))=H3 at k3 e3
 refine ⟨" ",l3,_,rfl,rfl,.of e3,?_,?_⟩
 ·have b:=StrLaws.sumLen_le (B:=8) (("tree" : Str) :: zs') (fun y hy=>by
   rcases List.mem_cons.mp hy with rfl | hy
   ·decide +kernel
   ·exact (gz' y hy).2)
  rw [zKO] at b
  rw [zKO,show (" " : Str).length=1 from by decide +kernel]
  omega
 have ej:Txt.join (" " : Str) (("tree" : Str) :: zs')=wO zs':=by rw [uM,vR];rfl
 rw [ej]
 refine ⟨by show 1 <= sizeLine;decide,fun ll hll=>?_⟩
 have k4:zD [] H3 (upd H3 ll (.lst [.str (wO zs')])):=zD.new hll
 have e4:upd H3 ll (.lst [.str (wO zs')]) ll=some (.lst [.str (wO zs')]):=zC
 generalize upd H3 ll (.lst [.str (wO zs')])=H4 at k4 e4
 have k04:=k1.trans (k2.trans (k3.trans k4))
 obtain ⟨qs,hq,hqp⟩:=hth.keep k04
 refine ⟨_,rfl,th,rfl,⟨_,.of hq⟩,fun c1 hc1=>?_⟩
 refine zEI (ds:=ps) zQ (fun t=>zQ (xW t)) (fun _=>true) (fun _ q=>[some (.ref q)]) [] (by omega) hc1 ⟨qs,hq,hqp⟩ ⟨[none],rfl,rfl⟩ (fun _ _=>rfl) ?_ (fun t q H R _ _ _ h=>h H (zD.refl _)) ?_ ?_
 ·intro t q vs H R _ hv _ h
  match vs,hv with
  | [v],_=>exact h
 ·intro t q H R _ hq h
  refine ⟨_,rfl,q,t.1,t.2,rfl,hq,_,rfl,q,t.1,t.2,rfl,hq,by show 2 <= sizeLine;decide,fun t2 ht2=>?_⟩
  exact h t2 _ (zD.new ht2) zC
 intro H5 hR5 k5
 obtain ⟨ts,hts,htp⟩:=hR5
 rw [List.filter_eq_self.mpr (by simp)] at htp
 refine ⟨c1,ts,ps.map xW,rfl,hts,by rw [zKN];exact htp,by rw [zJ3];omega,fun sl qs2 ps' hsl pp sp hpr=>?_⟩
 have k6:zD [] H5 (upd H5 sl (.lst (qs2.map V.ref))):=zD.new hsl
 have e6:upd H5 sl (.lst (qs2.map V.ref)) sl=some (.lst (qs2.map V.ref)):=zC
 have hpr6:=yV k6 (fun u hu=>by cases hu) hpr
 generalize upd H5 sl (.lst (qs2.map V.ref))=H6 at k6 e6 hpr6
 have e46:=(k5.trans k6) _ _ (by simp) e4
 have k06:=k04.trans (k5.trans k6)
 have sl_ll:sl ≠ ll:=fun e=>by
  have:=k5 _ _ (by simp) e4
  rw [e,this] at hsl;cases hsl
 have gt':=gt.norm pz pp
 have gp':=gt'.gp
 have lp':ps'.length + 1=zs'.length:=gt'.lp
 have lq:=zW hpr6
 rw [zJ3] at lq
 refine ⟨sl,rfl,⟨_,.of e6⟩,vW (K:=K) (a:=sl) (xs:=qs2.map V.ref) (fun i σ H7=>∃ v3:Option V,σ=[some (.ref nh),some (.ref th),some (.ref ll),v3]/\H7 ll=some (.lst ((wO zs' :: (ps'.take i).map vK).map V.str))/\zD [ll] H6 H7) ⟨_,rfl,e46,zD.refl _⟩ (fun _ _ _ _ ⟨_,_,_,k⟩=>.of (k _ _ (by simp [sl_ll]) e6)) ?_ ?_⟩
 ·rintro i y σ H7 hy ⟨v3,rfl,h7,k7⟩
  rw [zJ9] at hy
  cases et:qs2[i]? with
  | none=>rw [et] at hy;cases hy
  | some u=>
  rw [et] at hy
  have ey:V.ref u=y:=zKA hy
  subst ey
  obtain ⟨r,er,hu⟩:=yQ hpr6 i u et
  rw [zJ9] at er
  cases ep:ps'[i]? with
  | none=>rw [ep] at er;cases er
  | some p=>
  rw [ep] at er
  have er':=zKA er
  subst er'
  have ul:u ≠ ll:=fun e=>by rw [e,e46] at hu;cases hu
  have hu7:=k7 _ _ (by simp [ul]) hu
  have il:i < ps'.length:=(zJ5.mp ep).1
  have g:=gp' p (zJ7 ep)
  have g1:p.1.length <= 8:=g.1.2
  have g2:p.2.length <= 8:=g.2.2
  have len:∀ a b:Str,(a ++ b).length=a.length + b.length:=fun a b=>by show (a.cps ++ b.cps).size=_;simp [Str.length]
  have l1:("tie " : Str).length=4:=by decide +kernel
  have l2:(" " : Str).length=1:=by decide +kernel
  refine ⟨_,rfl,Or.inl ⟨rfl,_,.of h7⟩,_,rfl,u,_,0,_,rfl,rfl,hu7,rfl,_,_,rfl,rfl,by rw [l1,sizeLine_eq];omega,_,_,rfl,rfl,by rw [len,l1,l2,sizeLine_eq];omega,_,rfl,u,_,1,_,rfl,rfl,hu7,rfl,_,_,rfl,rfl,by rw [len,len,l1,l2,sizeLine_eq];omega,?_⟩
  rw [<- zEB]
  refine ⟨ll,_,_,rfl,rfl,h7,by rw [zJ3,zKO,zJ3,zKM,sizeLine_eq];omega,?_⟩
  refine ⟨_,rfl,?_,k7.trans (zD.at (by simp))⟩
  rw [zC,show ps'.take (i + 1)=ps'.take i ++ [p] by rw [List.take_add_one,ep];rfl]
  simp
 ·rintro σ H7 ⟨v3,rfl,h7,k7⟩
  rw [zJ3,lq,zK3] at h7
  have bll:H ll=none:=(k1.trans (k2.trans k3)).none (by simp) hll
  refine ⟨rfl,_,rfl,"
",ll,_,rfl,rfl,.of h7,?_,?_⟩
  ·have b:=zFK gz' gp' (by omega) (by omega)
   rw [show ("
" : Str).length=1 from by decide +kernel]
   omega
  rw [jL,vR]
  exact q zs' ps' H7 pz sz pp sp (k06.under k7 fun u hu=>by rw [zJ6.mp hu];exact bll)
def zFR:Sp:=fun vs H Q _=>∃ z:Str,vs=[.str z]/\z.length <= 100000/\∀ H',zD [] H H'->Q (.bl (xV z)) H'
theorem zH5 {K:W.Frag} {z c0:Str} {fB:Nat->Bool} {σ:St} {H:Hp} {acc:Addr} {Q:VK} (hz:z.length <= 100000) (ha:H acc=none) (hf:∀ c,fB c = !(Builtin.Str.occurrences c0 ⟨#[c]⟩ 0 c0.length 1).isEmpty)
  (hd:∀ H',zD [] H H'->H' acc=some (.lst ((z.cps.toList.map fB).map V.bl))->Q (.ref acc) H') :
  LCW (Its z) ["_law_sign"] [] (wL 0) qU (tOp (fun x y H Q=>∃ i j,x=V.str i/\y=V.str j/\Q (V.bl (!(Builtin.Str.occurrences j i 0 j.length 1).isEmpty)) H) (vS 0) (tC (V.str c0))) σ H acc Q:=by
 refine dM (by rw [sizeLine_eq];show z.length < _;omega) (fun i ys τ H2=>∃ (k:Option V),τ=[k]/\ys=(z.cps.toList.take i).map (fun c=>V.bl (fB c))/\i <= z.cps.size/\zD [acc] H H2/\H2 acc=some (.lst ys)) ?_ ?_ ?_ ?_
 ·exact ⟨_,rfl,rfl,zKD _,zD.at (by simp),zC⟩
 ·rintro i ys τ H2 ⟨k,rfl,rfl,hi,kp,h3⟩
  exact ⟨h3,by simp;omega⟩
 ·rintro i ys τ H2 hi ⟨k,rfl,rfl,_,kp,h3⟩
  refine ⟨_,rfl,_,_,rfl,rfl,h3,_,rfl,?_,hi,kp.trans (zD.at (by simp)),zC⟩
  rw [List.take_add_one,zKF]
  congr 1
  have e:z.cps.toList[i]?=some (z.cps.getD i 0):=by
   rw [Array.getElem?_toList,zK2,Array.getElem?_eq_getElem hi];rfl
  rw [e]
  show [_]=[V.bl (fB _)]
  rw [hf]
 ·rintro ys τ H2 ⟨k,rfl,rfl,_,kp,h3⟩
  refine hd H2 (kp.drop ha) ?_
  rw [h3,zKS (by simp),zKN];rfl
theorem zJG (G:yD K mg "_law_is_name" aO ["_law_word_here"]) (b_len:Blt mg "len") (b_all:Blt mg "all"):Cal P w K mg base CX0 1 "_law_is_name" ["_law_word_here"] zFR:=by
 refine G.ok zIU (fun vs H Q E h=>by obtain ⟨z,rfl,_⟩:=h;rfl) (fun f cdv A outer s H vs Q E hr h=>?_)
 obtain ⟨z,rfl,lz,q⟩:=h
 refine ⟨_,(zJ (zT (vQ (jH dD dD zG (zM zU b_len yH (zA (pv 0) zB)) zG) (vP (zM (vY rfl) b_all rN (zA (wM (N:=["_law_word_here"]) (sc:=zF aO) (ix:=[]) (by decide +kernel) (zAC (pv 0)) (fun _ _ _ _=>xB) (fun _ _ _ _=>(wF oX (pv 0) zS (by with_unfolding_all rfl)))) zB)))))),?_⟩
 refine ⟨_,rfl,_,z.length,rfl,⟨by rw [sizeLine_eq];omega,rfl⟩,_,_,rfl,rfl,_,rfl,qA (fun h1=>?_) (fun h1=>?_)⟩
 rotate_left
 ·refine ⟨_,rfl,zEN ?_⟩
  have e2:¬ 1 <= z.length:=fun z'=>h1 (zKI (by omega))
  have e:xV z=false:=by unfold xV;rw [zKJ e2];rfl
  rw [<- e]
  exact q _ (zD.refl _)
 have h1:1 <= z.length:=by have:=of_decide_eq_true h1;omega
 refine ⟨_,_,rfl,rfl,_,rfl,qA (fun h2=>?_) (fun h2=>?_)⟩
 rotate_left
 ·have e2:¬ z.length <= 8:=fun z'=>h2 (zKI (by omega))
  have e:xV z=false:=by unfold xV;rw [zKJ e2];simp
  rw [<- e]
  exact q _ (zD.refl _)
 have h2:z.length <= 8:=by have:=of_decide_eq_true h2;omega
 refine ⟨_,rfl,z,rfl,fun acc ha=>?_⟩
 refine zH5 (K:=K) (fB:=xD) (c0:=abc) lz ha (fun c=>rfl) fun H' k h'=>?_
 refine ⟨acc,z.cps.toList.map xD,rfl,.of h',?_⟩
 rw [uF]
 have e:xV z=z.cps.toList.all xD:=by unfold xV;rw [zKI h1,zKI h2];rfl
 rw [<- e]
 exact q _ k
end
end K83
namespace L2
open PySem PySem.Spec PyProof.Rows
section
open PySem.SeqAt
open PySem.AutoSeq1 (wpAny_loadPart')
open PySem.MeetsSeq PySem.MeetsSeq2 PySem.MeetsSeq3
theorem aT (A:Around) (s:Shared) (a:Str) (t:Tok) (c:Str) (u:Tok) (prog:Program) (w:World) (E:VSP) (Q:VSP) (h:Q (.bool (!ltS c a)) s) :
  wpAny (model prog w) A (richCompare .LtE (.str a t) (.str c u)) Q E s:=(PySem.P.le_str h:wpAny (model prog w) A (compareOp .LtE (.str a t) (.str c u)) Q E s)
theorem qT (l b:Addr) (items items2:Array Value) (n n2:Nat) (dd dd2:Option Addr) (sl sl2:Array (Option Value)) (ns ms:List Str) (hi:StrsAre items.toList ns) (hj:StrsAre items2.toList ms) :
  Meets (Builtin.«tuple.__le__» ⟨[.ref l,.ref b],[]⟩)
   (fun _ R s=>s.heap.get? l=some { cls:=.type "tuple",dict:=dd,data:=.seq items n,slots:=sl }/\s.heap.get? b=some { cls:=.type "tuple",dict:=dd2,data:=.seq items2 n2,slots:=sl2 } /\
    R (.ok (.ret (.bool (!rJ ms ns)))) s):=
 .of_wp fun prog w A R s h=>by
  obtain ⟨hp,g,d,tk,os⟩:=s;obtain ⟨hl,hb,h⟩:=h
  have f2:=AutoSeq1.sub_tuple_tuple
  have z1:items.size=ns.length:=by rw [<- hi.length];simp
  have z2:items2.size=ms.length:=by rw [<- hj.length];simp
  wp_walk using wpAny_loadPart' hl,wpAny_loadPart' hb,wpAny_forIn_list _ (fun rest b s'=>b.1=none/\s'=⟨hp,g,d,tk,os⟩/\∃ (vs ws:List Value) (ns' ms':List Str),rest=vs.zip ws /\
   StrsAre vs ns'/\StrsAre ws ms'/\ns'.length + items2.size=ms'.length + items.size/\R (.ok (.ret (.bool (!rJ ms' ns')))) ⟨hp,g,d,tk,os⟩) _
  case turn=>
   rintro ⟨y,x⟩ rest b s' ⟨hb',rfl,vs,ws,ns',ms',hz,hvi,hwi,hlen,hR⟩
   cases hvi with
   | nil=>rw [List.zip_nil_left] at hz;cases hz
   | cons a t hvi'=>
    cases hwi with
    | nil=>rw [List.zip_nil_right] at hz;cases hz
    | cons c u hwi'=>
     rw [List.zip_cons_cons] at hz
     injection hz with hyx hrest
     injection hyx with hy hx
     subst hy hx
     rw [u9] at hR
     simp only [zKO] at hlen
     obtain ⟨e,he,hiff⟩:=nS A.in1 ⟨hp,g,d,tk,os⟩ a t c u
     refine wpAny_bind (he prog w _ _ ?_)
     cases e with
     | true=>
      rw [if_pos (hiff.mp rfl).symm] at hR
      wp_walk
      exact ⟨rfl,rfl,_,_,_,_,hrest,hvi',hwi',by omega,hR⟩
     | false=>
      rw [if_neg (fun q=>absurd (hiff.mpr q.symm) zKV)] at hR
      have hri:=aT A.in1 ⟨hp,g,d,tk,os⟩ a t c u prog w
      wp_walk using hri
      exact ⟨_,rfl,by simpa using hR⟩
  case fin=>
   rintro ⟨b1,b2⟩ s' ⟨hb',rfl,vs,ws,ns',ms',hz,hvi,hwi,hlen,hR⟩
   simp only at hb'
   subst hb'
   have hv:(!rJ ms' ns')=decide (items.size <= items2.size):=by
    cases hvi with
    | nil=>
     cases hwi with
     | nil=>
      simp only [List.length_nil] at hlen
      rw [uD]
      exact (zKI (by omega)).symm
     | cons c u hw=>
      simp only [List.length_nil,zKO] at hlen
      rw [tM]
      exact (zKI (by omega)).symm
    | cons a t hv=>
     cases hwi with
     | nil=>
      simp only [List.length_nil,zKO] at hlen
      rw [tL]
      exact (zKJ (by omega)).symm
     | cons c u hw=>
      rw [List.zip_cons_cons] at hz
      cases hz
   rw [hv] at hR
   wp_walk
   exact ⟨_,rfl,by simpa [Builtin.Tuple.tupleCompareSizes] using hR⟩
  case h=>
   exact ⟨rfl,rfl,items.toList,items2.toList,ns,ms,rfl,hi,hj,by omega,h⟩
end
section
variable {X:Cx}
def rLeP:R2:=fun x y H Q=>∃ a b p q,x=.ref a/\y=.ref b/\H a=some (.tup (zQ p))/\H b=some (.tup (zQ q))/\Q (.bl (!ltP q p)) H
theorem zG8 (hu:X.A.units < cLine):OpR X (compareOp .LtE) rLeP:=by
 intro qp s σ H x y v u Q I rx ry h
 obtain ⟨a,b,p,q,rfl,rfl,ha,hb,k⟩:=h
 cases rx
 cases ry
 obtain ⟨its,r1,p1,_⟩:=I.tuple (.of ha)
 obtain ⟨its2,r2,p2,_⟩:=I.tuple (.of hb)
 obtain ⟨⟨cls,dd,data,sl⟩,ho,hc,n,hd⟩:=id p1
 obtain ⟨⟨cls2,dd2,data2,sl2⟩,ho2,hc2,n2,hd2⟩:=id p2
 simp only at hc hd hc2 hd2
 subst hc hd hc2 hd2
 have i1:StrsAre its.toArray.toList [p.1,p.2]:=vH (by simpa [zQ] using r1)
 have i2:StrsAre its2.toArray.toList [q.1,q.2]:=vH (by simpa [zQ] using r2)
 exact richCompare_meets_room (op:=.LtE) ⟨_,ho,rfl⟩ ⟨_,ho2,rfl⟩ F.slot_tuple_le F.entry_tuple_le (F.args_tuple_le_2 _ _) (qT a b its.toArray its2.toArray n n2 dd dd2 sl sl2 _ _ i1 i2)
  ⟨ho,ho2,by rw [nD];exact (⟨(fun x=>nomatch x),⟨.bl (!ltP q p),H,I,rfl,k⟩⟩:Value.bool (!ltP q p) ≠ Value.notImplemented/\EP X qp σ Q (.bool (!ltP q p)) s)⟩ hu
theorem cV:OpR X (compareOp .GtE) (fun x y H Q=>∃ i j,x=.str i/\y=.str j/\Q (.bl (!ltS i j)) H):=by
 intro qp s σ H x y v u Q I rx ry h
 obtain ⟨i,j,rfl,rfl,q⟩:=h
 obtain ⟨t,rfl⟩:=rx
 obtain ⟨t',rfl⟩:=ry
 exact PySem.P.ge_str (z8 I q rfl)
end
end L2
namespace L2
open PySem PySem.Spec PyProof.Rows PySem.W
theorem zD6:typeLookup (.type "list") "keys"=pure none:=by rw [typeLookup_type,builtinLookup_eq_fast];kernel_rfl
theorem zD7:typeLookup (.type "list") "__getattr__"=pure none:=by rw [typeLookup_type,builtinLookup_eq_fast];kernel_rfl
section
variable {prog:Program} {w:World} {A:Around} {E:VSP} {h:Heap} {g:Array GenState} {d:Drawn} {t:Nat} {os:OsState} {a:Addr} {o:Obj}
theorem zEQ {its:Array Value} {n:Nat} {tk:Tok} {Q:Fin->Shared->Prop} (hA:A.handled=none) (hx:h.get? a=some o) (hc:o.cls=.type "list") (hdc:o.dict=none) (hd:o.data=.seq its n)
  (hq:∀ h' t' e,Heap.NewAttrErr h h' e (.ref a) "keys"->E (.ref e) ⟨h',g,d,t',os⟩):wpAny (model prog w) A (Builtin.«object.__getattribute__» ⟨[.ref a,.str "keys" tk],[]⟩) Q E ⟨h,g,d,t,os⟩:=by
 obtain ⟨ocls,odict,odata,oslots⟩:=o
 simp only at hc hdc hd
 subst hc;subst hdc;subst hd
 have hT:(⟨h,g,d,t,os⟩:Shared).TypeIs (.ref a) "list":=⟨_,hx,rfl⟩
 have f4:=zD6
 unfold Builtin.«object.__getattribute__»
 repeat (any_goals (first | assumption | wp_step))
 exact wpAny_raiseAttrError hA hq (attrMsg_fits (by decide +kernel) (by rw [sizeLine_eq];decide +kernel))
theorem zD4 {its:Array Value} {n:Nat} {Q:Option Value->Shared->Prop} (hA:A.handled=none) (hx:h.get? a=some o) (hc:o.cls=.type "list") (hdc:o.dict=none) (hd:o.data=.seq its n)
  (hq:∀ h' t',(∀ b ob,h.get? b=some ob->h'.get? b=some ob)->Q none ⟨h',g,d,t',os⟩):wpAny (model prog w) A (getAttr? (.ref a) "keys") Q E ⟨h,g,d,t,os⟩:=by
 obtain ⟨ocls,odict,odata,oslots⟩:=o
 simp only at hc hdc hd
 subst hc;subst hdc;subst hd
 have hT:∀ tk,(⟨h,g,d,tk,os⟩:Shared).TypeIs (.ref a) "list":=fun _=>⟨_,hx,rfl⟩
 have f1:=sub_AttributeError
 have f3:=F.slot_list_getattribute.lookup
 have f4:=F.slot_list_getattribute.bind (.ref a)
 have f5:=zD7
 unfold getAttr? getAttrBy? getAttrBy
 repeat (any_goals (first | assumption | ((with_reducible show wpAny _ _ (call (Value.builtin "list.__getattribute__") _ _) _ _ _);refine wpAny_call (codeAny_call_builtin F.slot_list_getattribute.plain F.entry_list_ga (F.slot_list_getattribute.check _ _ _ _ _ _ _ _ (hT _) (F.args_list_getattribute_2 _ _) (zEQ (A:=_) hA hx rfl rfl rfl fun h' t' e hx=>?_)))) | wp_step))
 obtain ⟨t1,u1,he⟩:=hx.there
 repeat (any_goals (first | assumption | wp_step))
 exact hq _ _ hx.keeps
end
theorem nU:entryFor table "dict.update.loop"=some Builtin.«dict.update.loop»:=entryFor_of_tree (by kernel_rfl)
def mW (p:Nat->Key × Value):Nat->List (Key × Value)
 | 0=>[]
 | i + 1=>stored (mW p i) (p i).1 (p i).2
theorem eV (p:Nat->Key × Value):∀ i,(mW p i).length <= i
 | 0=>zKC _
 | i + 1=>by
  have:=eV p i
  show (stored (mW p i) (p i).1 (p i).2).length <= _
  unfold stored
  split
  ·rw [zJ3];omega
  ·rw [zKL];show _ + 1 <= _;omega
section
variable {prog:Program} {w:World} {A:Around} {R:Result->Shared->Prop} {I:Addr} {fp wr:List Addr} {G:Array GenState->Array GenState->Prop} {n:Nat} {P:Nat->Value->Prop} {St:Nat->Shared->Prop}
theorem gY (W:WalksS prog w A.in1 I fp wr G n P St) (D:Addr) (hDf:D ∉ fp) (h0:Heap) (p:Nat->Key × Value)
  (hval:∀ i v,P i v->∃ (q:Addr) (o:Obj) (m:Nat) (k:Value),v=.ref q/\q ≠ D/\q ∉ wr/\h0.get? q=some o/\o.cls=.type "tuple"/\o.data=.seq #[k,(p i).2] m/\(yC prog w).is (p i).1 k=true) (hb:n <= sizeLine) :
  ∀ (k i:Nat) (s:Shared) (j:Int),n - i=k->i <= n->St i s->(∀ b o,b ≠ D->b ∉ wr->h0.get? b=some o->s.heap.get? b=some o)->s.heap.DictOf (yC prog w) D (mW p i) ->
  (∀ s',Moved (D :: wr) G s s'->s'.heap.DictOf (yC prog w) D (mW p n)->R (.ok (.ret .none)) s')->codeAny (model prog w) A (.builtin "dict.update.loop" ⟨[.ref D,.ref I,rawInt j,.none],[]⟩) R s:=by
 have nw:D ∉ wr:=fun z=>hDf (W.sub _ z)
 have more:∀ b ∈ wr,b ∈ D :: wr:=fun b z=>zKG _ z
 intro k
 induction k with
 | zero=>
  intro i s j hk hi st kp hD hR
  obtain rfl:i=n:=by omega
  refine codeAny_builtin nU ?_
  rw [Around.under_plainId (by decide +kernel) _]
  show wpAny _ A.in1 (pyNext (.ref I) >>= _) _ _ s
  refine wpAny_bind (W.done s _ _ st fun s' hm=>?_)
  refine wpAny_bind (wpAny_pure (wpAny_pure (hR s' (hm.mono more) ?_)))
  obtain ⟨o,es,ep,ho,r⟩:=hD
  exact ⟨o,es,ep,hm.heap D _ nw ho,r⟩
 | succ k ih=>
  intro i s j hk hi st kp hD hR
  have lt:i < n:=by omega
  refine codeAny_builtin nU ?_
  rw [Around.under_plainId (by decide +kernel) _]
  show wpAny _ A.in1 (pyNext (.ref I) >>= _) _ _ s
  refine wpAny_bind (W.item i s _ _ lt st fun v s' hP st' hm=>?_)
  obtain ⟨q,o,m,kk,rfl,qD,qw,hq,hc,hd,hkk⟩:=hval i v hP
  have hq':=hm.heap q _ qw (kp q _ qD qw hq)
  obtain ⟨ocls,odict,odata,oslots⟩:=o
  simp only at hc hd
  subst hc;subst hd
  have hD1:s'.heap.DictOf (yC prog w) D (mW p i):=by
   obtain ⟨o,es,ep,ho,r⟩:=hD
   exact ⟨o,es,ep,hm.heap D _ nw ho,r⟩
  have room:=eV p i
  have hT:s'.TypeIs (.ref q) "tuple":=⟨_,hq',rfl⟩
  have fin:wpAny (model prog w) A.in1 (dictSet D kk (p i).2) (fun _ s2=>codeAny (model prog w) A (.builtin "dict.update.loop" ⟨[.ref D,.ref I,rawInt (j + 1),.none],[]⟩) R s2) (fun e s2=>R (.error e) s2) s':=by
   refine wpAny_dictSet_pairs (hsz:=by omega) hkk hD1 fun h' hD2 hsb=>?_
   have hs:∀ b o,b ≠ D->s'.heap.get? b=some o->h'.get? b=some o:=fun b o ne e=>by rw [hsb.2 b ne];exact e
   refine ih (i + 1) _ (j + 1) (by omega) lt (W.frame _ s' _ _ st' (Nat.le_succ _) fun b hb o e=>hs b o (fun z=>hDf (by rw [<- z];exact hb)) e) (fun b o ne nb e=>hs b o ne (hm.heap b _ nb (kp b o ne nb e))) hD2 fun s2 hm2 hD4=>hR s2 (Moved.trans W.gtrans ((hm.mono more).then_heap (Nat.le_succ _) fun b o hb e=>hs b o (fun z=>hb (by rw [z];exact zKW)) e) hm2) hD4
  obtain ⟨g0,g1,g2,g3,g4⟩:=s'
  refine wpAny_bind ?_
  have ef:∀ s2,codeAny (model prog w) A (.builtin "dict.update.loop" ⟨[.ref D,.ref I,rawInt (j + 1),.none],[]⟩) R s2->wpAny (model prog w) A.in1 (again (.builtin "dict.update.loop" ⟨[.ref D,.ref I,rawInt (j + 1),.none],[]⟩)) (fun fin s'=>match fin with | .done f=>R (.ok f) s' | .again c'=>c'.quiet=true/\codeAny (model prog w) A c' R s') (fun e s'=>R (.error e) s') s2:=fun s2 h=>wpAny_pure ⟨plainId_quiet (by decide +kernel) _,h⟩
  refine wpAny_holding (wpAny_bind (wpAny_tryCatch ?_))
  unfold Builtin.Dict.pairItems
  refine wpAny_bind (wpAny_typeOf hT ?_)
  rw [if_pos (by decide)]
  have go:wpAny (model prog w) A.in1 (holding [kk,(p i).2] (dictSet D kk (p i).2)) (fun _ s2=>wpAny (model prog w) A.in1 (again (.builtin "dict.update.loop" ⟨[.ref D,.ref I,rawInt (j + 1),.none],[]⟩)) (fun fin s'=>match fin with | .done f=>R (.ok f) s' | .again c'=>c'.quiet=true/\codeAny (model prog w) A c' R s') (fun e s'=>R (.error e) s') s2) (fun e s2=>R (.error e) s2) ⟨g0,g1,g2,g3,g4⟩:=wpAny_holding (wpAny_mono fin (fun _ s2 h=>ef s2 h) fun _ _ h=>h)
  repeat (any_goals (first | exact go | wp_step))
end
section
variable {prog:Program} {w:World} {A:Around} {E:VSP} {s:Shared}
theorem gZ {l:Addr} {items:Array Value} {nl:Nat} {ol:Obj} {p:Nat->Key × Value} {Q:VSP} (hh:A.handled=none) (hl:s.heap.get? l=some ol) (hc:ol.cls=.type "list") (hdc:ol.dict=none) (hd:ol.data=.seq items nl)
  (hv:∀ (i:Nat) (v:Value),items[i]?=some v->∃ (q:Addr) (o:Obj) (m:Nat) (k:Value),v=.ref q/\s.heap.get? q=some o/\o.cls=.type "tuple"/\o.data=.seq #[k,(p i).2] m/\(yC prog w).is (p i).1 k=true) (hb:items.size <= sizeLine)
  (h:∀ (g:Heap) (tk:Nat),g.DictOf (yC prog w) s.heap.objs.size (mW p items.size)->(∀ b o,s.heap.get? b=some o->g.get? b=some o)->Q (.ref s.heap.objs.size) { s with heap:=g,toks:=tk }) :
  wpAny (model prog w) A (call (.type "dict") [.ref l]) Q E s:=by
 refine callType_codes (Q₁:=fun obj s₁=>obj=.ref s.heap.objs.size/\s₁ = { s with heap:=s.heap.push { cls:=.type "dict",data:=.dict #[] } }) F.kt_called_dict (F.kt_typeCall_dict_1 _) F.entry_dict_init (kt_code_dict_new _ ⟨rfl,rfl⟩) ?_
 rintro obj s₁ ⟨rfl,rfl⟩
 have hnew:(s.heap.push { cls:=.type "dict",data:=.dict #[] }).DictOf (yC prog w) s.heap.objs.size []:=Heap.DictOf.new s.heap
 have hl1:(s.heap.push { cls:=.type "dict",data:=.dict #[] }).get? l=some ol:=Heap.get?_push_of_some _ hl
 refine ⟨hnew.typeIs,F.args_dict_init_2 _ _,?_⟩
 unfold Builtin.«dict.__init__»
 refine wpAny_bind ?_
 unfold Builtin.Dict.selfAndRest
 refine wpAny_bind (wpAny_notOrdered_dict hnew.typeIs ?_)
 show wpAny _ _ (pure (s.heap.objs.size,[Value.ref l])) _ _ _
 refine wpAny_pure ?_
 show wpAny _ _ (Builtin.Dict.updateFrom "dict.__init__" s.heap.objs.size (.ref l) [] .none) _ _ _
 unfold Builtin.Dict.updateFrom
 refine wpAny_bind (wpAny_typeOf (T:="list") ⟨ol,hl1,hc⟩ ?_)
 rw [if_pos (by decide)]
 refine wpAny_bind (zD4 (A:=A.in1.in1) hh hl1 hc hdc hd fun h' t' kp=>?_)
 rw [if_pos (show (none:Option Value).isNone=true from rfl)]
 have hl2:=kp _ _ hl1
 have hlL:h'.IsList l items:=⟨_,hl2,hc,nl,hd⟩
 refine wpAny_bind (wpAny_rule (wpAny_bind (wpAny_pyIter_list hlL (wpAny_pure ⟨plainId_quiet (by decide +kernel) _,?_⟩))))
 have sD:(s.heap.push { cls:=.type "dict",data:=.dict #[] }).objs.size=s.heap.objs.size + 1:=Heap.size_push _ _
 have hDn:(s.heap.push { cls:=.type "dict",data:=.dict #[] }).get? s.heap.objs.size=some { cls:=.type "dict",data:=.dict #[] }:=Heap.get?_push_size _ rfl
 have ltl:l < s.heap.objs.size:=Heap.lt_size hl
 have ltD:s.heap.objs.size < h'.objs.size:=Heap.lt_size (kp _ _ hDn)
 have gi:(h'.push { cls:=.type "list_iterator",data:=.fields #[.ref l,.int 0 0] }).get? h'.objs.size=some { cls:=.type "list_iterator",data:=.fields #[.ref l,.int 0 0] }:=Heap.get?_push_size _ rfl
 have old:∀ b o,s.heap.get? b=some o->h'.get? b=some o:=fun b o e=>kp _ _ (Heap.get?_push_of_some _ e)
 refine gY (A:=A.in1) ((Walks.list (A:=A.in1.in1) (by simp [hh]) _ l (zKU (Nat.lt_trans ltl ltD)) items).toS) s.heap.objs.size (by simp;exact ⟨zKU ltD,Nat.ne_of_gt ltl⟩) h' p (fun i v hi=>?hv) hb (items.size - 0) 0 _ 0 (by omega) (zKD _) ⟨⟨_,gi,rfl,rfl⟩,hlL.push _⟩ (fun b o _ _ e=>Heap.get?_push_of_some _ e) ?z0 ?zR
 case hv=>
  obtain ⟨q,o,m,k,e,hq,r⟩:=hv i v hi
  have lq:q < s.heap.objs.size:=Heap.lt_size hq
  exact ⟨q,o,m,k,e,zKU lq,by simp;exact zKU (Nat.lt_trans lq ltD),old _ _ hq,r⟩
 case z0=>
  obtain ⟨o,es,ep,ho,r⟩:=hnew
  exact ⟨o,es,ep,Heap.get?_push_of_some _ (kp _ _ ho),r⟩
 case zR=>
  intro s' hm hS'
  obtain ⟨g,g',d',tk',os'⟩:=s'
  have eg:g'=s.gens:=hm.gens
  have ed:d'=s.drawn:=hm.drawn
  have eo:os'=s.os:=hm.os
  subst eg;subst ed;subst eo
  refine ⟨rfl,h g tk' hS' fun b o e=>hm.heap b o ?_ (Heap.get?_push_of_some _ (old b o e))⟩
  have lb:b < s.heap.objs.size:=Heap.lt_size e
  simp
  exact ⟨zKU lb,zKU (Nat.lt_trans lb ltD)⟩
end
def oV (kvs:List (Key × V)):List (Key × V):=kvs.foldl (fun acc kv=>y8 acc kv.1 kv.2) []
theorem oW {ps:List (Key × Value)} {d:Key × Value}:∀ n,n <= ps.length->mW (fun i=>ps.getD i d) n=(ps.take n).foldl (fun acc kv=>stored acc kv.1 kv.2) []
 | 0,_=>rfl
 | n + 1,h=>by
  have hn:n < ps.length:=h
  show stored (mW (fun i=>ps.getD i d) n) (ps.getD n d).1 (ps.getD n d).2=_
  rw [oW n (Nat.le_of_lt hn),List.take_succ,zJ4 hn,List.foldl_append,zJ8,zJ4 hn]
  rfl
theorem zEL:∀ {kvs:List (Key × V)} {ps:List (Key × Value)} {a:List (Key × V)} {b:List (Key × Value)},KV kvs ps->KV a b->KV (kvs.foldl (fun acc kv=>y8 acc kv.1 kv.2) a) (ps.foldl (fun acc kv=>stored acc kv.1 kv.2) b):=by
 intro kvs ps a b r
 unfold KV at r
 induction r generalizing a b with
 | nil=>intro h;exact h
 | @cons p q _ _ h _ ih=>
  intro hab
  rw [List.foldl_cons,List.foldl_cons]
  refine ih ?_
  rw [<- h.1]
  exact hab.put p.1 h.2
theorem jD:∀ {kvs a:List (Key × V)},(kvs.foldl (fun acc kv=>y8 acc kv.1 kv.2) a).length <= a.length + kvs.length
 | [],_=>zKC _
 | x :: kvs,a=>by
  rw [List.foldl_cons]
  have h1:=jD (kvs:=kvs) (a:=y8 a x.1 x.2)
  have h2:=wK a x.1 x.2
  rw [zKO];omega
section
variable {X:Cx}
theorem fF (hc:X.calm=true):xK X (.type "dict") (fun xs H Q=>∃ (a:Addr) (qs:List Addr) (kvs:List (Key × V)),xs=[.ref a]/\H a=some (.lst (qs.map V.ref))/\Paired (fun q (kv:Key × V)=>H q=some (.tup [kV kv.1,kv.2])) qs kvs/\qs.length < 1000/\∀ p,H p=none->Q (.ref p) (upd H p (.dK (oV kvs)))):=by
 intro qp s σ H xs us Q I r h
 obtain ⟨a,qs,kvs,rfl,hA,pr,hz,q⟩:=h
 obtain ⟨u,rfl,rx⟩:=uH r
 cases rx
 obtain ⟨its,r',⟨ol,nl,hl,hcl,hdl,hdt⟩,hzl⟩:=I.list (.of hA)
 obtain ⟨ps,rel,hps⟩:∃ ps:List (Key × Value),KV kvs ps/\Paired (fun q (x:Key × Value)=>∃ (o:Obj) (m:Nat) (k:Value),s.heap.get? q=some o/\o.cls=.type "tuple"/\o.data=.seq #[k,x.2] m/\(yC X.prog X.w).is x.1 k=true) qs ps:=by
  clear hA r' hz q hzl
  induction pr with
  | nil=>exact ⟨[],.nil,.nil⟩
  | @cons b kv _ _ hb _ ih=>
   obtain ⟨ps,a1,a2⟩:=ih
   obtain ⟨ti,tr,⟨o,ho,hoc,m,hod⟩,_⟩:=I.tuple (.of hb)
   obtain ⟨u1,u2,rfl,r1,r2⟩:=zFF tr
   exact ⟨(kv.1,u2) :: ps,.cons ⟨rfl,r2⟩ a1,.cons ⟨o,m,u1,ho,hoc,hod,rV r1⟩ a2⟩
 have lq:ps.length=qs.length:=(zW hps).symm
 have hsz:its.toArray.size=ps.length:=by
  have:=r'.length
  rw [zJ3] at this
  rw [zKB,lq];exact this.symm
 refine gZ (p:=fun i=>ps.getD i (.inl 0,.none)) (I.ok.hd hc) hl hcl hdl hdt (fun i v hi=>?_) (by rw [hsz,lq,sizeLine_eq];omega) fun g tk hD old=>?_
 ·have hv:its[i]?=some v:=by rw [<- List.getElem?_toArray];exact hi
  have li:i < qs.length:=by
   have h1:=(zJ5.mp hv).1
   have h2:=r'.length
   rw [zJ3] at h2
   omega
  obtain ⟨y,hy,ry⟩:=yQ r' i (.ref (qs[i])) (by rw [zJ9,zJ4 li];rfl)
  rw [hv] at hy
  cases hy
  cases ry
  obtain ⟨x,hx,o,m,k,h1,h2,h3,h4⟩:=yQ hps i qs[i] (zJ4 li)
  have ex:ps.getD i (.inl 0,.none)=x:=by rw [zJ8,hx];rfl
  exact ⟨_,o,m,k,rfl,h1,h2,by rw [ex];exact h3,by rw [ex];exact h4⟩
 ·rw [hsz,oW _ (zKC _),zK3] at hD
  have rl:KV (oV kvs) _:=zEL rel (.nil:KV [] [])
  have ln:(oV kvs).length <= sizeLine:=by
   have h1:=jD (kvs:=kvs) (a:=[])
   have h2:=rel.length
   rw [sizeLine_eq]
   have h3:(oV kvs).length <= 0 + kvs.length:=h1
   omega
  have nm:(s.heap.objs.size == sysModules)=false:=by
   have h1:=I.big
   exact beq_eq_false_iff_ne.mpr (Nat.ne_of_gt h1)
  refine ⟨.ref s.heap.objs.size,_,I.laid (t':=tk) (h':=g) (o:=.dK (oV kvs)) old (zKC _) ⟨ln,nm,_,rl,hD⟩,rfl,q _ (I.hok.fresh (zKC _))⟩
end
end L2
namespace K83
open PySem L2
abbrev sDu:Stmt:=top 46
theorem i9 {zs:List Str} {f:Str->V} {z:Str} {v:V} (h:z ∈ zs):y8 (dz zs f) (Sum.inr z) v=dz zs (fun y=>if y=z then v else f y):=by
 have yes:((dz zs f).any fun kv=>decide (kv.1=Sum.inr z))=true:=by
  unfold dz
  rw [List.any_map,List.any_eq_true]
  exact ⟨z,h,by simp⟩
 unfold y8
 rw [yes,if_pos rfl]
 unfold dz
 rw [zKN]
 refine List.map_congr_left fun y hy=>?_
 show (if (Sum.inr y:Key)=Sum.inr z then ((Sum.inr y:Key),v) else (Sum.inr y,f y))=(Sum.inr y,if y=z then v else f y)
 by_cases e:y=z
 ·rw [if_pos (congrArg Sum.inr e),if_pos e]
 ·rw [if_neg (fun x=>e (Sum.inr.inj x)),if_neg e]
theorem eU {f:Str->V}:∀ (zs as:List Str),(as ++ zs).Nodup->(zs.map fun z=>((Sum.inr z:Key),f z)).foldl (fun acc kv=>y8 acc kv.1 kv.2) (dz as f)=dz (as ++ zs) f
 | [],as,_=>by rw [List.append_nil];rfl
 | z :: zs,as,h=>by
  have nz:z ∉ as:=fun hz=>(List.nodup_append.mp h).2.2 z hz z (by simp) rfl
  rw [List.map_cons,List.foldl_cons]
  show (zs.map fun z=>((Sum.inr z:Key),f z)).foldl _ (y8 (dz as f) (Sum.inr z) (f z))=_
  rw [mV nz,vC (g:=f) (fun y _=>by by_cases e:y=z <;> simp [e]),eU zs (as ++ [z]) (by rw [zKY];exact h),zKY]
  rfl
theorem jG:∀ {zs ys:List Str},zs.Nodup->(∀ z ∈ zs,z ∈ ys)->ys.length=zs.length->zs.Perm ys
 | [],ys,_,_,l=>by rw [List.length_eq_zero_iff.mp l]
 | z :: zs,ys,nd,sub,l=>by
  have hz:=sub z (by simp)
  have nd':=List.nodup_cons.mp nd
  have ih:=jG (zs:=zs) (ys:=ys.erase z) nd'.2 (fun y hy=>(List.mem_erase_of_ne (fun e=>nd'.1 (by rw [<- e];exact hy))).mpr (sub y (zKG _ hy))) (by rw [List.length_erase_of_mem hz,l];rfl)
  exact (ih.cons z).trans (List.perm_cons_erase hz).symm
theorem zC1 {zs ys:List Str} (mem:∀ y,y ∈ ys ↔ y ∈ zs) (l:ys.length=tK zs) (s:Asc ltS ys):zs=ys ↔ zs.Nodup/\Asc ltS zs:=by
 constructor
 ·intro e
  subst e
  exact ⟨pO l.symm,s⟩
 ·rintro ⟨nd,sz⟩
  rw [rR nd] at l
  exact sQ (fun a b=>uC) (jG nd (fun z hz=>(mem z).mpr hz) l) sz s
theorem zCE {zs:List Str} (h:zs.all xV=true):∀ z ∈ zs,yB z:=fun z hz=>dP (List.all_eq_true.mp h z hz)
theorem zBJ {zs:List Str} (h:∀ z ∈ zs,yB z):zs.all xV=true:=List.all_eq_true.mpr fun z hz=>(h z hz).1
theorem zJN {t:TT} {a b:TS} {D:sU} {σ:St} {H:Hp} (P1 P2:Hp->Prop) (h:∀ R:Bool->Hp->Prop,(∀ H',P1 H'->R true H')->(∀ H',P2 H'->R false H')->t σ H R) (ha:∀ H',P1 H'->a D σ H') (hb:∀ H',P2 H'->b D σ H'):iR t a b D σ H:=
 h _ (fun H' p=>ifT rfl (ha H' p)) (fun H' p=>ifF rfl (hb H' p))
theorem zHQ {t:TT} {a b r:TS} {D:sU} {σ:St} {H:Hp} (h:iR t a b { D with nx:=r D } σ H):rZ (iR t a b) r D σ H:=h
theorem zIC {ws:List Str} (h:ws.length=3):∃ a b c,ws=[a,b,c]:=by
 match ws,h with
 | [a,b,c],_=>exact ⟨a,b,c,rfl⟩
section
variable {P:Program} {w:World} {K:W.Frag} {mg:Str->Option Value} {base:Heap} {C:Addr}
theorem r9:zO ["_law_text","_law_lines","_law_houses","_law_part","_law_ties","_law_number","_law_line","_law_words","_law_one","_law_other","_law_elder","_law_name"] ["_law_text"] (zF sDu):=scm
def zJ2 (H':Hp) (ls:List Str) (r:V):Prop:=(∃ n:Nat,Out ls (.num n)/\r=.int n) \/
 ∃ (zs:List Str) (ps:LSS) (t hl tl:Addr),Out ls (.tree zs ps)/\r=.ref t/\H' t=some (.tup [.ref hl,.ref tl])/\H' hl=some (.lst (zs.map V.str))/\Rows H' tl (ps.map zQ)
def zIR:Sp:=fun vs H Q _=>∃ z:Str,vs=[.str z]/\z.length <= 10000/\(∀ l ∈ nlW z,wdL l < 60)/\∀ (r:V) (H':Hp),zJ2 H' (nlW z) r->zD [] H H'->Q r H'
theorem okDu (G:yD K mg "_law_due" sDu ["_law_text"]) (CIN:Cal P w K mg base CX0 1 "_law_is_name" ["_law_word_here"] zFR) (b_all:Blt mg "all") (b_sorted:Blt mg "sorted") (b_set:Blt mg "set") (b_dict:Blt mg "dict") (b_enumerate:Blt mg "enumerate") (b_len:Blt mg "len"):Cal P w K mg base CX0 2 "_law_due" ["_law_text"] zIR:=by
 refine G.ok r9 (fun vs H Q E h=>by obtain ⟨z,rfl,_⟩:=h;rfl) (fun f cdv A outer s0 H vs Q E hr h=>?_)
 obtain ⟨z,rfl,lz,lw,q⟩:=h
 have hr1:zX 1 _:=hr
 have hu:=nJ hr
 have hu0:=Nat.lt_of_succ_lt hu
 refine ⟨_,(zE (zL (i:=1) r9.nd rfl (Or.inl rfl) (yS F.plainAttrs_str F.slot_str_split F.type_str_split xL (pv 0) (zA zS zB)))
   (zE (zL (i:=2) r9.nd rfl (Or.inl rfl) (yJ xH (yS F.plainAttrs_str F.slot_str_split F.type_str_split xL (yI yA (pv 1) zG (fun _ _=>rfl)) (zA zS zB)) (yL zG) yX))
   (zE (yW (PW.pt (vB (zZ tI (yI yA (yS F.plainAttrs_str F.slot_str_split F.type_str_split xL (yI yA (pv 1) zG (fun _ _=>rfl)) (zA zS zB)) zG (fun _ _=>rfl)) zS (z6 _)) (vB (zZ (zG9 hu0) (pv 2) (yP zB) (z6 _)) (uO (xT (xF (zM (vY rfl) b_all rN (zA (wM (N:=["_law_text","_law_lines","_law_houses","_law_part","_law_ties","_law_number","_law_line","_law_words","_law_one","_law_other","_law_elder","_law_name"]) (sc:=zF sDu) (ix:=[]) (by decide +kernel) (yY (pv 2)) (fun _ _ _ _=>xB) (fun _ _ _ _=>(zK CIN hr1 (zA (pv 0) zB)))) zB)))))))) (zJ (zT zG)) yE)
   (zE (yW (zZ (zAP hu0) (pv 2) (zM (lO rfl) b_sorted wC (zA (wA (nX rfl) rfl b_set.no zB5 (zA (pv 2) zB)) zB)) (z6 _)) (zJ (zT zG)) yE)
   (zE (zL (i:=3) r9.nd rfl (Or.inl rfl) (wA (fF rfl) rfl b_dict.no zE5 (zA (wM (N:=["_law_text","_law_lines","_law_houses","_law_part","_law_ties","_law_number","_law_line","_law_words","_law_one","_law_other","_law_elder","_law_name"]) (sc:=zF sDu) (ix:=[]) (by decide +kernel) (yY (pv 2)) (fun _ _ _ _=>xB) (fun _ _ _ _=>(xZ (zA (pv 0) (zA (pv 0) zB))))) zB)))
   (zE (zL (i:=4) r9.nd rfl (Or.inl rfl) (yP zB))
   (zE (vN PassesOwn.never rfl (zAD rfl b_enumerate.no (yJ xH (pv 1) (yL zG) yX)) (pE rfl (yO (z4 (i:=5) r9.nd rfl (Or.inl rfl)) (yO (z4 (i:=6) r9.nd rfl (Or.inl rfl)) wR))) (zE (zL (i:=7) r9.nd rfl (Or.inl rfl) (yS F.plainAttrs_str F.slot_str_split F.type_str_split xL (pv 6) (zA zS zB)))
   (zE (yW (PW.pt (vB (zZ tI (zM zU b_len yH (zA (pv 7) zB)) zG (z6 _)) (vB (zZ tI (yI yA (pv 7) zG (fun _ _=>rfl)) zS (z6 _)) (vB (hG (rG hu (yI yA (pv 7) zG (fun _ _=>rfl)) (pv 3))) (uO (hG (rG hu (yI yA (pv 7) zG (fun _ _=>rfl)) (pv 3)))))))) (zJ (zT (zN yT (pv 5) zG))) yE)
   (zE (vO (yJ xH (pv 7) (yL zG) yX) (zGZ rfl (yO (z4 (i:=8) r9.nd rfl (Or.inl rfl)) (yO (z4 (i:=9) r9.nd rfl (Or.inl rfl)) wR))))
   (zE (yW (PW.pt (vB (zZ cV (pv 8) (pv 9) (z6 _)) (vB (PW.pt (i8 (zZ (zAQ hu0) (pv 4) (yP zB) (z6 _)) (eS (zZ (zG8 hu0) (xZ (zA (pv 8) (zA (pv 9) zB))) (yI yA (pv 4) (zAF iN zG) (fun _ _=>rfl)) (z6 _))))) (uO (zZ tJ (wT hu (pv 3) (pv 8) (fun _ _=>rfl)) (wT hu (pv 3) (pv 9) (fun _ _=>rfl)) (z6 _)))))) (zJ (zT (zN yT (pv 5) zG))) yE)
   (zE (zL (i:=10) r9.nd rfl (Or.inl rfl) (wT hu (pv 3) (pv 8) (fun _ _=>rfl)))
   (zE (vN PassesOwn.never rfl (yY (pv 2)) (z4 (i:=11) r9.nd rfl (Or.inl rfl)) (zJ (yW (zZ tJ (wT hu (pv 3) (pv 11) (fun _ _=>rfl)) (pv 10) (z6 _)) (zJ (eX hu (pv 3) (pv 11) (wT hu (pv 3) (pv 9) (fun _ _=>rfl)) rfl)) yE)))
   (zJ (xC (yS F.plainAttrs_list F.slot_list_append F.type_list_append y6 (pv 4) (zA (xZ (zA (pv 8) (zA (pv 9) zB))) zB)))))))))))
   (zE (yW (zZ zAR (zM zU b_len yH (zA (pv 4) zB)) (zN rH (zM zU b_len yH (zA (pv 2) zB)) zG) (z6 _)) (zJ (zT (zM zU b_len yH (zA (pv 1) zB)))) yE)
   (zJ (zT (xZ (zA (pv 2) (zA (pv 4) zB))))))))))))),?_⟩
 refine ⟨_,rfl,rfl,_,10,rfl,by rw [jL],lz,fun sl hsl=>?_⟩
 have many:=tP z 10
 have short:=fun a (h:a ∈ Txt.split z ⟨#[10]⟩)=>PyProof.Rows.part_short h
 obtain ⟨first,rest,ez⟩:∃ w ws,nlW z=w :: ws:=by
  cases h:nlW z with
  | nil=>exact absurd h (y4 _ _)
  | cons w ws=>exact ⟨w,ws,rfl⟩
 rw [show Txt.split z ⟨#[10]⟩=first :: rest from ez] at short many ⊢
 rw [ez] at lw q
 have ln:rest.length <= 10001:=by rw [zKO] at many;omega
 have wln:∀ l ∈ first :: rest,(spW l).length < 60:=fun l hl=>by
  have:=wY l
  have:=lw l hl
  show (Txt.split l ⟨#[32]⟩).length < 60
  omega
 have sh:∀ l ∈ first :: rest,l.length <= 10000:=fun l hl=>zKE (short l hl) lz
 refine lay hsl fun H1 k1 e1=>?_
 have a0:atI ((first :: rest).map V.str) 0=some (.str first):=wV (j:=0) rfl
 obtain ⟨wd,zs,ew⟩:∃ w ws,spW first=w :: ws:=by
  cases h:spW first with
  | nil=>exact absurd h (y4 _ _)
  | cons w ws=>exact ⟨w,ws,rfl⟩
 have swf:=fun a (h:a ∈ Txt.split first ⟨#[32]⟩)=>PyProof.Rows.part_short h
 have es:Txt.split first ⟨#[32]⟩=wd :: zs:=ew
 have lzs:zs.length < 59:=by
  have:=wln first (by simp)
  rw [ew,zKO] at this
  omega
 rw [es] at swf
 refine ⟨_,rfl,sl,_,_,_,rfl,rfl,e1,a0,rfl,_,32,rfl,by rw [uM],sh first (by simp),fun w1 hw1=>?_⟩
 rw [es]
 refine lay hw1 fun H2 k2 e2=>?_
 refine ⟨_,rfl,w1,_,rfl,.of e2,fun hl hhl=>?_⟩
 rw [show rM ((wd :: zs).map V.str) (some 1) none=zs.map V.str by rw [vX V.str _ (by decide)];rfl]
 refine lay hhl fun H3 k3 e3=>?_
 have k03:=k1.trans (k2.trans k3)
 refine ⟨_,rfl,sl,_,_,_,rfl,rfl,(k2.trans k3) _ _ (by simp) e1,a0,rfl,_,32,rfl,by rw [uM],sh first (by simp),fun w2 hw2=>?_⟩
 rw [es]
 refine lay hw2 fun H4 k4 e4=>?_
 have b0:atI ((wd :: zs).map V.str) 0=some (.str wd):=wV (j:=0) rfl
 refine ⟨w2,_,_,_,rfl,rfl,e4,b0,rfl,_,rfl,?_⟩
 have k04:=k03.trans k4
 have hsI:∀ ys,t7 first ys ↔ (wd="tree"/\ys=zs)/\(∀ z ∈ zs,yB z)/\zs.Nodup/\zs ≠ []/\Asc ltS zs:=fun ys=>by
  unfold t7
  rw [ew]
  constructor
  ·rintro ⟨e,r⟩
   injection e with e1 e2
   subst e2
   exact ⟨⟨e1,rfl⟩,r⟩
  ·rintro ⟨⟨rfl,rfl⟩,r⟩
   exact ⟨rfl,r⟩
 have bad:(¬ ∃ ys,t7 first ys)->∀ H',zD [] H4 H'->Q (.int 0) H':=fun no H' k=>q (.int ((0:Nat):Int)) H' (.inl ⟨0,.first rfl no,rfl⟩) (k04.trans k)
 by_cases et:wd="tree"
 rotate_left
 ·have:¬ V.str wd=V.str "tree":=fun e=>et (V.str.inj e)
  exact ifT (by rw [zKJ this];rfl) (bad (fun ⟨ys,h⟩=>et ((hsI ys).mp h).1.1) _ (zD.refl _))
 refine ifF (by rw [et];simp) ?_
 have e34:=k4 _ _ (by simp) e3
 refine ⟨_,rfl,by show 0 <= sizeLine;decide,fun nl hnl=>?_⟩
 refine lay hnl fun H5 k5 e5=>?_
 have e35:=k5 _ _ (by simp) e34
 refine ⟨hl,nl,zs,[],rfl,rfl,e35,e5,_,rfl,?_⟩
 by_cases ne:zs=[]
 ·exact ifT (by simp [ne]) (bad (fun ⟨ys,h⟩=>((hsI ys).mp h).2.2.2.1 ne) _ k5)
 refine ifF (by simp [ne]) ?_
 refine ⟨_,rfl,hl,rfl,⟨_,.of e35⟩,fun acc hacc=>?_⟩
 have aa:hl ≠ acc:=zH e35 hacc
 refine vV (K:=K) (a:=hl) (its:=zs.map V.str) (by rw [zJ3,sizeLine_eq];omega) (fun i ys τ H6=>∃ k:Option V,τ=[k]/\ys=((zs.take i).map xV).map V.bl/\zD [acc] H5 H6/\H6 acc=some (.lst ys)) ?_ ?_ ?_ ?_
 ·exact ⟨_,rfl,rfl,zD.at (by simp),zC⟩
 ·rintro i ys τ H6 ⟨k,rfl,rfl,kp,h6⟩
  exact ⟨h6,by simp;omega,.of (kp _ _ (by simp [aa]) e35)⟩
 ·rintro i ys τ H6 x hx ⟨k,rfl,rfl,kp,h6⟩
  rw [zJ9] at hx
  cases ey:zs[i]? with
  | none=>rw [ey] at hx;cases hx
  | some y=>
  rw [ey] at hx
  obtain rfl:V.str y=x:=zKA hx
  refine ⟨_,rfl,y,rfl,zKE (swf y (zKG _ (zJ7 ey))) (zKE (sh first (by simp)) (by decide)),fun H7 k7=>⟨k7 _ _ (by simp) h6,_,rfl,?_,(kp.trans (k7.mono (by simp))).trans (zD.at (by simp)),zC⟩⟩
  rw [List.take_add_one,ey,zKF,zKF];rfl
 rintro ys τ H6 ⟨k,rfl,rfl,kp,h6⟩
 rw [zJ3,zK3] at h6
 refine ⟨acc,zs.map xV,rfl,.of h6,?_⟩
 rw [uF]
 have k46:=k5.trans (kp.drop hacc)
 refine ⟨_,rfl,?_⟩
 cases hg:zs.all xV with
 | false=>
  refine ifT rfl (bad (fun ⟨ys,h⟩=>?_) _ k46)
  rw [zBJ ((hsI ys).mp h).2.1] at hg
  cases hg
 | true=>
 refine ifF rfl ?_
 have gz:=zCE hg
 have e36:=k46 _ _ (by simp) e34
 refine ⟨_,rfl,_,rfl,hl,zs,rfl,e36,by omega,fun p hp=>?_⟩
 refine lay hp fun H7 k7 e7=>?_
 refine ⟨p,zs,rfl,e7,by omega,fun l ys hl7 mem ly asc=>?_⟩
 refine lay hl7 fun H8 k8 e8=>?_
 have k48:=k46.trans (k7.trans k8)
 have e38:=k48 _ _ (by simp) e34
 refine ⟨hl,l,_,_,rfl,rfl,e38,e8,_,rfl,?_⟩
 have sa:=zC1 mem ly asc
 by_cases ey:zs=ys
 rotate_left
 ·refine ifT (by rw [zKJ ey];rfl) (bad (fun ⟨xs,h⟩=>ey (sa.mpr ⟨((hsI xs).mp h).2.2.1,((hsI xs).mp h).2.2.2.2⟩)) _ k48)
 refine ifF (by rw [zKI ey];rfl) ?_
 obtain ⟨nd,az⟩:=sa.mp ey
 have hs:t7 first zs:=(hsI zs).mpr ⟨⟨et,rfl⟩,gz,nd,ne,az⟩
 clear sa ey bad
 refine ⟨_,rfl,hl,rfl,⟨_,.of e38⟩,fun ac2 hac2=>?_⟩
 have aa2:hl ≠ ac2:=zH e38 hac2
 refine vV (K:=K) (a:=hl) (its:=zs.map V.str) (by rw [zJ3,sizeLine_eq];omega) (fun i ys τ H9=>∃ (k:Option V) (ts:List Addr),τ=[k]/\ys=ts.map V.ref/\ts.length=(zs.take i).length/\Paired (fun q (kv:Key × V)=>H9 q=some (.tup [kV kv.1,kv.2])) ts ((zs.take i).map fun z=>(Sum.inr z,V.str z))/\zD [ac2] H8 H9/\H9 ac2=some (.lst ys)) ?_ ?_ ?_ ?_
 ·exact ⟨_,[],rfl,rfl,rfl,.nil,zD.at (by simp),zC⟩
 ·rintro i ys τ H9 ⟨k,ts,rfl,rfl,tl,pr,kp9,h9⟩
  exact ⟨h9,by rw [zJ3,tl,zKM];omega,.of (kp9 _ _ (by simp [aa2]) e38)⟩
 ·rintro i ys τ H9 x hx ⟨k,ts,rfl,rfl,tl,pr,kp9,h9⟩
  rw [zJ9] at hx
  cases ey:zs[i]? with
  | none=>rw [ey] at hx;cases hx
  | some y=>
  rw [ey] at hx
  obtain rfl:V.str y=x:=zKA hx
  refine ⟨_,rfl,_,rfl,by show 2 <= sizeLine;decide,fun tq hq=>?_⟩
  have kq:∀ o,zD [] H9 (upd H9 tq o):=fun o=>zD.new hq
  have ne:tq ≠ ac2:=Ne.symm (zH h9 hq)
  refine ⟨kq _ _ _ (by simp) h9,_,ts ++ [tq],rfl,by rw [zKF];rfl,?_,?_,(kp9.trans ((kq _).mono (by simp))).trans (zD.at (by simp)),zC⟩
  ·rw [List.take_add_one,ey,zKL,zKL,tl];rfl
  rw [show zs.take (i + 1)=zs.take i ++ [y] by rw [List.take_add_one,ey];rfl,zKF]
  refine Paired.snoc ?_ (by rw [zI ne];exact zC)
  have kx:zD [ac2] H9 (upd (upd H9 tq (.tup [.str y,.str y])) ac2 (.lst (ts.map V.ref ++ [.ref tq]))):=((kq _).mono (by simp)).trans (zD.at (by simp))
  clear hx
  generalize (zs.take i).map (fun z=>((Sum.inr z:Key),V.str z))=kvs at pr
  exact L2.Paired.mapP pr fun q kv h=>kx _ _ (by simp;intro e;rw [e,h9] at h;cases h) h
 rintro ys τ H9 ⟨k,ts,rfl,rfl,lts,pr,kp9,h9⟩
 rw [zJ3,zK3] at lts pr
 have k49:=k48.trans (kp9.drop hac2)
 refine ⟨ac2,ts,_,rfl,h9,pr,by omega,fun dd hdd=>?_⟩
 rw [show oV (zs.map fun z=>((Sum.inr z:Key),V.str z))=dz zs (fun z=>V.str (id z)) from eU (f:=V.str) zs [] nd]
 refine lay hdd fun HA kA eA=>?_
 have k4A:=k49.trans kA
 have nddH:H dd=none:=(k04.trans k49).none (by simp) hdd
 refine ⟨by show 0 <= sizeLine;decide,fun tl htl=>?_⟩
 have dt:dd ≠ tl:=zH eA htl
 have ntlH:H tl=none:=(k04.trans k4A).none (by simp) htl
 refine lay htl fun HB kB eB=>?_
 have k4B:=k4A.trans kB
 have eAB:=kB _ _ (by simp) eA
 have e1B:=(k2.trans (k3.trans (k4.trans k4B))) _ _ (by simp) e1
 refine ⟨_,rfl,_,rfl,sl,_,rfl,.of e1B,fun D hD=>?_⟩
 rw [show rM ((first :: rest).map V.str) (some 1) none=rest.map V.str by rw [vX V.str _ (by decide)];rfl]
 have Dd:D ≠ dd:=(zH eAB hD).symm
 have Dt:D ≠ tl:=(zH eB hD).symm
 refine lay hD fun HC kC eC=>?_
 have k4C:=k4B.trans kC
 have k0C:=k04.trans k4C
 have e3C:=k4C _ _ (by simp) e34
 have eAC:=kC _ _ (by simp) eAB
 have eBC:=kC _ _ (by simp) eB
 have e1C:=kC _ _ (by simp) e1B
 have hd:hl ≠ dd:=zH ((k49) _ _ (by simp) e34) hdd
 have ht:hl ≠ tl:=zH ((k4A) _ _ (by simp) e34) htl
 have sd:sl ≠ dd:=zH ((k2.trans (k3.trans (k4.trans k49))) _ _ (by simp) e1) hdd
 have st:sl ≠ tl:=zH ((k2.trans (k3.trans (k4.trans k4A))) _ _ (by simp) e1) htl
 have kd:∀ {H6:Hp},zD [tl,dd] HC H6->zD [] H H6:=fun {H6} k6 b o hb hh=>k6 b o (by
  intro hb'
  rcases List.mem_cons.mp hb' with e | hb'
  ·rw [e,ntlH] at hh;cases hh
  ·rw [zJ6.mp hb',nddH] at hh;cases hh) (k0C b o hb hh)
 clear e4 e2 e5 e7 e8 h6 h9 pr
 refine ⟨D,rfl,⟨_,.of eC⟩,jV (K:=K) (a:=D) (k:=0) (xs:=rest.map V.str) (fun i σ' H'=>∃ (ps:LSS) (qs:List Addr) (part:Str->Str) (R:List Str) (v5 v6 v7 v8 v9 va vb:Option V),σ'=[some (.str z),some (.ref sl),some (.ref hl),some (.ref dd),some (.ref tl),v5,v6,v7,v8,v9,va,vb]/\xI zs (rest.take i) ps/\Lab zs ps part R/\H' tl=some (.lst (qs.map V.ref))/\Paired (fun q r=>H' q=some (.tup r)) qs (ps.map zQ)/\H' dd=some (.dK (dz zs fun z=>V.str (part z)))/\zD [tl,dd] HC H')
  ⟨[],[],id,zs,_,_,_,_,_,_,_,rfl,xI.nil,Lab.nil nd,eBC,.nil,eAC,zD.refl _⟩ (fun i σ' H' _ ⟨_,_,_,_,_,_,_,_,_,_,_,_,_,_,_,_,_,k⟩=>.of (k _ _ (by simp [Dd,Dt]) eC)) ?_ ?_⟩
 rotate_left
 ·rintro σ' H' ⟨ps,qs,part,R,v5,v6,v7,v8,v9,va,vb,rfl,rd,lb,htl',pr,hdd',kp⟩
  rw [zJ3,zK3] at rd
  have few:=lb.few ne
  have lq:=zW pr
  rw [zJ3] at lq
  have eh':=kp _ _ (by simp [hd,ht]) e3C
  have el':=kp _ _ (by simp [sd,st]) e1C
  refine ⟨_,rfl,_,_,rfl,.inl ⟨_,.of htl',rfl⟩,_,rfl,_,_,rfl,.inl ⟨_,.of eh',rfl⟩,_,_,rfl,rfl,_,_,rfl,rfl,_,rfl,?_⟩
  rw [zJ3,zJ3]
  by_cases eq:ps.length + 1=zs.length
  ·refine ifF (zKJ (by omega)) ?_
   refine ⟨_,rfl,_,rfl,by show 2 <= sizeLine;decide,fun t ht'=>?_⟩
   have kt:zD [] H' (upd H' t (.tup [.ref hl,.ref tl])):=zD.new ht'
   exact q (.ref t) _ (.inr ⟨zs,ps,t,hl,tl,.tree rfl hs rd eq,rfl,zC,kt _ _ (by simp) eh',(show Rows H' tl (ps.map zQ) from ⟨qs,htl',pr⟩).keep kt⟩) ((kd kp).trans kt)
  ·refine ifT (zKI (by omega)) ?_
   refine ⟨_,rfl,_,_,rfl,.inl ⟨_,.of el',rfl⟩,?_⟩
   rw [zJ3]
   exact q (.int (((first :: rest).length:Nat):Int)) H' (.inl ⟨_,.few rfl hs rd eq,rfl⟩) (kd kp)
 rintro i x σ' H' Tt hx ⟨ps,qs,part,R,v5,v6,v7,v8,v9,va,vb,rfl,rd,lb,htl',pr,hdd',kp⟩ hT
 rw [zJ9] at hx
 cases et':rest[i]? with
 | none=>rw [et'] at hx;cases hx
 | some t=>
 rw [et'] at hx
 obtain rfl:V.str t=x:=zKA hx
 have mt:t ∈ first :: rest:=zKG _ (zJ7 et')
 refine ⟨Tt,_,rfl,.of zC,rfl,_,_,rfl,_,_,rfl,rfl,?_⟩
 refine lay hT fun HD kD eD=>?_
 refine ⟨_,rfl,rfl,_,32,rfl,by rw [uM],sh t mt,fun wl hwl=>?_⟩
 refine lay hwl fun HE kE eE=>?_
 have kDE:=kD.trans kE
 have bad:(¬ ∃ p,xA zs ps t p)->∀ H6,zD [] HE H6->Q (.int (0 + (i:Int) + 1)) H6:=fun no H6 k=>by
  have e:(0 + (i:Int) + 1)=((i + 1:Nat):Int):=by omega
  rw [e]
  exact q _ H6 (.inl ⟨i + 1,.line rfl hs rd et' no,rfl⟩) ((kd kp).trans (kDE.trans k))
 have hddE:=kDE _ _ (by simp) hdd'
 have htlE:=kDE _ _ (by simp) htl'
 have prE:Paired (fun q r=>HE q=some (.tup r)) qs (ps.map zQ):=L2.Paired.mapP pr fun _ _ e=>kDE _ _ (by simp) e
 generalize hws:Txt.split t ⟨#[32]⟩=ws at eE
 have ews:spW t=ws:=hws
 refine ⟨_,rfl,_,_,rfl,.inl ⟨_,.of eE,rfl⟩,rfl,_,rfl,?_⟩
 by_cases l3:ws.length=3
 rotate_left
 ·refine ifT ?_ ⟨_,rfl,_,_,rfl,rfl,bad (fun ⟨p,h⟩=>l3 (by rw [<- ews,h.1];rfl)) _ (zD.refl _)⟩
  have:¬ V.int ((ws.map V.str).length:Int)=V.int 3:=fun e=>l3 (by
   injection e with e
   rw [zJ3] at e
   omega)
  rw [zKJ this];rfl
 obtain ⟨w0,a,b,rfl⟩:=zIC l3
 refine ifF (by rfl) ?_
 have i0:atI (([w0,a,b]:List Str).map V.str) 0=some (.str w0):=wV (j:=0) rfl
 have i1:atI (([w0,a,b]:List Str).map V.str) 1=some (.str a):=wV (j:=1) rfl
 have i2:atI (([w0,a,b]:List Str).map V.str) 2=some (.str b):=wV (j:=2) rfl
 have isS:∀ p,xA zs ps t p ↔ (w0="tie"/\p=(a,b))/\xN zs (a,b)/\ltS a b=true/\(∀ q,ps.getLast?=some q->ltP q (a,b)=true)/\¬ Rch ps a b:=fun p=>by
  unfold xA
  rw [ews]
  constructor
  ·rintro ⟨e,r⟩
   injection e with e1 e
   injection e with e2 e
   injection e with e3 _
   obtain rfl:p=(a,b):=Prod.ext e2.symm e3.symm
   exact ⟨⟨e1,rfl⟩,r⟩
  ·rintro ⟨⟨rfl,rfl⟩,r⟩
   exact ⟨rfl,r⟩
 refine ⟨_,rfl,wl,_,_,_,rfl,rfl,eE,i0,rfl,_,rfl,?_⟩
 by_cases e0:w0="tie"
 rotate_left
 ·have:¬ V.str w0=V.str "tie":=fun e=>e0 (V.str.inj e)
  exact ifT (by rw [zKJ this];rfl) ⟨_,rfl,_,_,rfl,rfl,bad (fun ⟨p,h⟩=>e0 ((isS p).mp h).1.1) _ (zD.refl _)⟩
 refine ifF (by rw [e0];simp) ?_
 refine ⟨_,rfl,wl,_,_,_,rfl,rfl,eE,i1,_,rfl,dd,_,rfl,wX.k (k:=Sum.inr a) hddE,_,rfl,?_⟩
 by_cases ma:a ∈ zs
 rotate_left
 ·exact ifT (by rw [uX ma];rfl) ⟨_,rfl,_,_,rfl,rfl,bad (fun ⟨p,h⟩=>ma ((isS p).mp h).2.1.1) _ (zD.refl _)⟩
 refine ifF (by rw [w6 ma];rfl) ?_
 refine ⟨_,rfl,wl,_,_,_,rfl,rfl,eE,i2,_,rfl,dd,_,rfl,wX.k (k:=Sum.inr b) hddE,_,rfl,?_⟩
 by_cases mb:b ∈ zs
 rotate_left
 ·exact ifT (by rw [uX mb];rfl) ⟨_,rfl,_,_,rfl,rfl,bad (fun ⟨p,h⟩=>mb ((isS p).mp h).2.1.2.1) _ (zD.refl _)⟩
 refine ifF (by rw [w6 mb];rfl) ?_
 refine ⟨_,rfl,_,rfl,wl,_,rfl,.of eE,fun x2 hx2=>?_⟩
 rw [show rM (([w0,a,b]:List Str).map V.str) (some 1) none=[V.str a,V.str b] by rw [vX V.str _ (by decide)];rfl]
 refine lay hx2 fun HF kF eF=>?_
 refine ⟨x2,_,rfl,.of eF,rfl,_,_,rfl,_,_,rfl,rfl,?_⟩
 have hddF:=kF _ _ (by simp) hddE
 have htlF:=kF _ _ (by simp) htlE
 have prF:Paired (fun q r=>HF q=some (.tup r)) qs (ps.map zQ):=L2.Paired.mapP prE fun _ _ e=>kF _ _ (by simp) e
 have dgt:∀ {H6:Hp} {y:Str},zD [] HF H6->y ∈ zs->wX H6 dd (kV (Sum.inr y)) (some (V.str (part y))):=fun {H6 y} k m=>by
  have z:=wX.k (k:=Sum.inr y) (k _ _ (by simp) hddF)
  rw [w6 m] at z
  exact z
 refine zAV (zHQ ?_)
 refine zJN (fun H6=>zD [] HF H6/\¬ ∃ p,xA zs ps t p) (fun H6=>zD [] HF H6/\ltS a b=true/\(∀ q,ps.getLast?=some q->ltP q (a,b)=true)/\part a ≠ part b) ?_ ?_ ?_
 ·intro RR r1 r2
  refine ⟨_,rfl,_,rfl,_,_,rfl,rfl,_,rfl,?_⟩
  cases lo:ltS a b with
  | false=>
   refine ifT rfl (r1 _ ⟨zD.refl _,fun ⟨p,h⟩=>?_⟩)
   have:=((isS p).mp h).2.2.1
   rw [lo] at this
   cases this
  | true=>
  refine ifF rfl ?_
  have fin:∀ H6,zD [] HF H6->(∀ q,ps.getLast?=some q->ltP q (a,b)=true)->∀ c:Bool,c=decide (V.str (part a)=V.str (part b))->RR c H6:=fun H6 k6 la c ec=>by
   by_cases ep:part a=part b
   ·rw [ec,ep,zKI rfl]
    exact r1 _ ⟨k6,fun ⟨p,h⟩=>((isS p).mp h).2.2.2.2 ((lb.e a ma b mb).mp ep)⟩
   ·rw [ec,zKJ (fun e=>ep (V.str.inj e))]
    exact r2 _ ⟨k6,lo,la,ep⟩
  refine ⟨_,rfl,by show 0 <= sizeLine;decide,fun el hel=>?_⟩
  have te:tl ≠ el:=zH htlF hel
  refine lay hel fun HG kG eG=>?_
  refine ⟨tl,el,_,rfl,rfl,kG _ _ (by simp) htlF,eG,te,_,rfl,?_⟩
  rcases List.eq_nil_or_concat ps with e | ⟨ps0,pl,e⟩
  ·subst e
   have:qs=[]:=by
    have:=zW prF
    exact List.length_eq_zero_iff.mp this
   subst this
   refine ifF rfl (ifF rfl ?_)
   exact ⟨_,rfl,_,rfl,dd,_,rfl,dgt kG ma,_,rfl,_,rfl,dd,_,rfl,dgt kG mb,rfl,_,rfl,fin _ kG (fun q h=>by cases h) _ rfl⟩
  ·rw [List.concat_eq_append] at e
   subst e
   have lq1:=zW prF
   rw [zJ3,zKL] at lq1
   obtain ⟨qs0,qa,eq0⟩:∃ qs0 qa,qs=qs0 ++ [qa]:=by
    rcases List.eq_nil_or_concat qs with z | ⟨a,b,z⟩
    ·rw [z] at lq1;simp at lq1
    ·exact ⟨a,b,by rw [z];simp⟩
   subst eq0
   refine ifT (by simp) ?_
   have hqa:HF qa=some (.tup (zQ pl)):=by
    obtain ⟨r,er,hr'⟩:=yQ prF qs0.length qa (by simp)
    have l0:qs0.length=ps0.length:=by simpa using lq1
    rw [l0] at er
    simp at er
    rw [<- er] at hr'
    exact hr'
   refine ⟨_,rfl,_,rfl,by show 2 <= sizeLine;decide,fun tp htp=>?_⟩
   refine lay htp fun HH kH eH=>?_
   have kGH:=kG.trans kH
   refine ⟨_,rfl,1,rfl,tl,_,-1,.ref qa,rfl,rfl,kGH _ _ (by simp) htlF,by rw [zKF];exact iB _ _,tp,qa,(a,b),pl,rfl,rfl,eH,kGH _ _ (by simp) hqa,_,rfl,?_⟩
   have gl:(ps0 ++ [pl]).getLast?=some pl:=by rw [List.getLast?_concat]
   cases hlt:ltP pl (a,b) with
   | false=>
    refine ifT rfl (r1 _ ⟨kGH,fun ⟨p,h⟩=>?_⟩)
    have:=((isS p).mp h).2.2.2.1 pl gl
    rw [hlt] at this
    cases this
   | true=>
    refine ifF rfl ?_
    exact ⟨_,rfl,_,rfl,dd,_,rfl,dgt kGH ma,_,rfl,_,rfl,dd,_,rfl,dgt kGH mb,rfl,_,rfl,fin _ kGH (fun q h=>by rw [gl] at h;cases h;exact hlt) _ rfl⟩
 ·rintro H6 ⟨k6,no⟩
  exact ⟨_,rfl,_,_,rfl,rfl,bad no _ (kF.trans k6)⟩
 rintro HG ⟨kG,lo,la,np⟩
 have hddG:=kG _ _ (by simp) hddF
 have htlG:=kG _ _ (by simp) htlF
 have k0G:=kDE.trans (kF.trans kG)
 have ehG:=k0G _ _ (by simp) (kp _ _ (by simp [hd,ht]) e3C)
 have prG:Paired (fun q r=>HG q=some (.tup r)) qs (ps.map zQ):=L2.Paired.mapP prF fun _ _ e=>kG _ _ (by simp) e
 have relB:tF part a b b=part b:=if_neg (Ne.symm np)
 refine ⟨_,rfl,_,rfl,dd,_,rfl,dgt kG ma,?_⟩
 refine ⟨_,rfl,hl,rfl,⟨_,.of ehG⟩,vW (K:=K) (a:=hl) (xs:=zs.map V.str) (fun j σ' H6=>∃ (vb:Option V),σ'=[some (.str z),some (.ref sl),some (.ref hl),some (.ref dd),some (.ref tl),some (.int (0 + (i:Int))),some (.str t),some (.ref wl),some (.str a),some (.str b),some (.str (part a)),vb]/\H6 dd=some (.dK (dz zs fun z=>V.str (if z ∈ zs.take j then tF part a b z else part z)))/\zD [dd] HG H6)
  ⟨_,rfl,by rw [hddG];simp,zD.refl _⟩ (fun _ _ _ _ ⟨_,_,_,k⟩=>.of (k _ _ (by simp [hd]) ehG)) ?_ ?_⟩
 ·rintro j y σ' H6 hy ⟨vb',rfl,h6,k6⟩
  rw [zJ9] at hy
  cases ey:zs[j]? with
  | none=>rw [ey] at hy;cases hy
  | some n=>
  rw [ey] at hy
  obtain rfl:V.str n=y:=zKA hy
  have mn:n ∈ zs:=zJ7 ey
  have jl:=(zJ5.mp ey).1
  have nt:n ∉ zs.take j:=fun hm=>by
   obtain ⟨m,hm⟩:=List.getElem?_of_mem hm
   have ml:=(zJ5.mp hm).1
   rw [zKM] at ml
   rw [List.getElem?_take_of_lt (by omega)] at hm
   have:=(List.getElem?_inj (by omega) nd).mp (hm.trans ey.symm)
   omega
  have tk:∀ y,y ∈ zs.take (j + 1) ↔ y ∈ zs.take j \/ y=n:=fun y=>by
   rw [List.take_add_one,ey,zKK]
   exact or_congr_right zJ6
  have d1:wX H6 dd (kV (Sum.inr n)) (some (V.str (part n))):=by
   have z:=wX.k (k:=Sum.inr n) h6
   rw [w6 mn,if_neg nt] at z
   exact z
  have d2:wX H6 dd (kV (Sum.inr b)) (some (V.str (part b))):=by
   have z:=wX.k (k:=Sum.inr b) h6
   rw [w6 mb,relB,ite_self] at z
   exact z
  refine ⟨_,rfl,_,rfl,dd,_,rfl,d1,_,rfl,rfl,_,rfl,?_⟩
  by_cases ep:part n=part a
  ·refine ifT (by rw [ep];simp) ?_
   refine ⟨_,rfl,_,rfl,dd,_,rfl,d2,_,rfl,_,rfl,dd,_,rfl,bP.k (k:=Sum.inr n) h6 (by rw [gW,sizeLine_eq];omega),_,rfl,?_,k6.trans (zD.at (by simp))⟩
   rw [zC,i9 mn]
   congr 2
   refine vC fun y _=>?_
   by_cases e:y=n
   ·rw [if_pos e,e,if_pos ((tk n).mpr (.inr rfl))]
    show _=V.str (if part n=part a then part b else part n)
    rw [if_pos ep]
   ·rw [if_neg e]
    by_cases my:y ∈ zs.take j
    ·rw [if_pos my,if_pos ((tk y).mpr (.inl my))]
    ·rw [if_neg my,if_neg (fun h=>((tk y).mp h).elim my e)]
  ·refine ifF (zKJ fun e=>ep (V.str.inj e)) ?_
   refine ⟨_,rfl,?_,k6⟩
   rw [h6]
   congr 2
   refine vC fun y _=>?_
   by_cases e:y=n
   ·rw [e,if_neg nt,if_pos ((tk n).mpr (.inr rfl))]
    show _=V.str (if part n=part a then part b else part n)
    rw [if_neg ep]
   ·by_cases my:y ∈ zs.take j
    ·rw [if_pos my,if_pos ((tk y).mpr (.inl my))]
    ·rw [if_neg my,if_neg (fun h=>((tk y).mp h).elim my e)]
 rintro σ' H6 ⟨vb',rfl,h6,k6⟩
 rw [zJ3,zK3] at h6
 have h6:H6 dd=some (.dK (dz zs fun z=>V.str (tF part a b z))):=by
  rw [h6]
  congr 2
  exact vC fun y hy=>by rw [if_pos hy]
 have htl6:=k6 _ _ (by simp [Ne.symm dt]) htlG
 have pr6:Paired (fun q r=>H6 q=some (.tup r)) qs (ps.map zQ):=L2.Paired.mapP prG fun q _ e=>k6 _ _ (by simp;intro z;rw [z,hddG] at e;cases e) e
 refine ⟨_,rfl,Or.inl ⟨rfl,_,.of htl6⟩,_,rfl,_,rfl,by show 2 <= sizeLine;decide,fun tt htt=>?_⟩
 have tok:xN zs (a,b):=⟨ma,mb,fun e=>by
  have e:a=b:=e
  rw [e,pP] at lo;cases lo⟩
 have no:¬ Rch ps a b:=fun h=>np ((lb.e a ma b mb).mpr h)
 have so:xA zs ps t (a,b):=(isS (a,b)).mpr ⟨⟨e0,rfl⟩,tok,lo,la,no⟩
 have kt:zD [] H6 (upd H6 tt (.tup [.str a,.str b])):=zD.new htt
 have ett:upd H6 tt (.tup [.str a,.str b]) tt=some (.tup (zQ (a,b))):=zC
 generalize upd H6 tt (.tup [.str a,.str b])=H7 at kt ett
 have few:=lb.few ne
 refine ⟨tl,_,_,rfl,rfl,kt _ _ (by simp) htl6,?_,ps ++ [(a,b)],qs ++ [tt],tF part a b,_,_,_,_,_,_,_,_,rfl,?_,lb.step (fun u hu'=>⟨(rd.ties u hu').1,(rd.ties u hu').2.1⟩) ma mb no,?_,?_,?_,?_⟩
 ·have:=zW pr6
  rw [zJ3] at this
  rw [zJ3,sizeLine_eq];omega
 ·rw [List.take_add_one,et']
  exact rd.snoc so
 ·rw [zC,zKF];rfl
 ·rw [zKF]
  have:=Rows.push htl6 pr6 kt ett
  rw [zKF] at this
  exact this
 ·rw [zI dt]
  exact kt _ _ (by simp) h6
 ·refine kp.trans ((k0G.mono (by simp)).trans ((k6.mono (by simp)).trans ((kt.mono (by simp)).trans (zD.at (by simp)))))
end
abbrev sIs:Stmt:=top 48
abbrev kX:Stmt:=top 49
def rEqA:R2:=fun x y H Q=>(zGO x y=true/\Q (.bl (decide (x=y))) H) \/ ∃ p q xs ys,x=.ref p/\y=.ref q/\H p=some (.tup xs)/\H q=some (.tup ys)/\xs.length=ys.length/\(∀ (i:Nat) (u v:V),xs[i]?=some u->ys[i]?=some v->oO H 3 u v)/\Q (.bl true) H
theorem zHA {X:Cx} (hu:X.A.units + 4 < cLine):OpR X (compareOp .Eq) rEqA:=by
 intro qp s σ H x y v u Q I rx ry h
 rcases h with h | ⟨a,b,xs,ys,rfl,rfl,ha,hb,hl,each,q⟩
 ·exact tJ qp s σ H x y v u Q I rx ry h
 cases rx;cases ry
 obtain ⟨i1,r1,t1,_⟩:=I.tuple (.of ha)
 obtain ⟨i2,r2,t2,_⟩:=I.tuple (.of hb)
 have l1:=r1.length
 have l2:=r2.length
 have key:=SeqAt.RcAt.tuples (A:=X.A) (s:=s) (l:=a) (b:=b) (e:=fun _=>true) (show s.heap.IsTuple a i1.toArray from t1) (show s.heap.IsTuple b i2.toArray from t2) (by omega) (fun j g1 g2=>by
  obtain ⟨x,y,ex,ey,rx,ry⟩:=tV r1 r2 hl j g1 g2
  exact zEE I 3 rx ry (each j x y ex ey) (by have e:X.A.in1.units=X.A.units + 1:=rfl;omega))
 rw [show ((List.range (min i1.toArray.size i2.toArray.size)).all (fun _=>true) && i1.toArray.size == i2.toArray.size)=true by
  rw [zKB,zKB,<- l1,<- l2,hl];simp] at key
 exact key _ _ _ _ ⟨.bl true,H,I,rfl,q⟩
def zJW (H:Hp) (t:Addr) (zs:List Str) (ps:LSS):Prop:=∃ hl tl,H t=some (.tup [.ref hl,.ref tl])/\H hl=some (.lst (zs.map V.str))/\Rows H tl (ps.map zQ)
def zF7 (H:Hp) (r d:V):Prop:=(∃ n:Nat,r=.int n/\d=.int n) \/ ∃ (t t':Addr) (zs:List Str) (ps:LSS),r=.ref t/\d=.ref t'/\zJW H t zs ps/\zJW H t' zs ps
theorem zED {H:Hp} {a b:Addr} {zs:List Str} (ha:H a=some (.lst (zs.map V.str))) (hb:H b=some (.lst (zs.map V.str))):oO H 3 (.ref a) (.ref b):=.inr ⟨a,b,_,_,rfl,rfl,.inl ⟨ha,hb⟩,rfl,pQ zs⟩
theorem zHT {H:Hp} {qs rs:List Addr} {ps:LSS} (h1:Paired (fun q r=>H q=some (.tup r)) qs (ps.map zQ)) (h2:Paired (fun q r=>H q=some (.tup r)) rs (ps.map zQ)) :
  ∀ (i:Nat) (u v:V),(qs.map V.ref)[i]?=some u->(rs.map V.ref)[i]?=some v->oO H 2 u v:=fun i u v e1 e2=>by
 rw [zJ9] at e1 e2
 cases a1:qs[i]? with
 | none=>rw [a1] at e1;cases e1
 | some a=>
 cases a2:rs[i]? with
 | none=>rw [a2] at e2;cases e2
 | some b=>
 rw [a1] at e1;rw [a2] at e2
 cases e1;cases e2
 obtain ⟨r,er,ha⟩:=yQ h1 i a a1
 obtain ⟨r',er',hb⟩:=yQ h2 i b a2
 rw [er] at er'
 cases er'
 rw [zJ9] at er
 cases ep:ps[i]? with
 | none=>rw [ep] at er;cases er
 | some p=>
 rw [ep] at er
 obtain rfl:zQ p=r:=zKA er
 exact .inr ⟨a,b,_,_,rfl,rfl,.inr ⟨ha,hb⟩,rfl,pQ [p.1,p.2]⟩
theorem zEC {H:Hp} {a b:Addr} {ps:LSS} (ha:Rows H a (ps.map zQ)) (hb:Rows H b (ps.map zQ)):oO H 3 (.ref a) (.ref b):=by
 obtain ⟨qs,e1,p1⟩:=ha
 obtain ⟨rs,e2,p2⟩:=hb
 refine .inr ⟨a,b,_,_,rfl,rfl,.inl ⟨e1,e2⟩,?_,zHT p1 p2⟩
 rw [zJ3,zJ3,zW p1,zW p2]
theorem mQ {H8 H9:Hp} {y:Str} {r d:V} (ro:zH7 H8 (.str y) r) (k:zD [] H8 H9) (du:zJ2 H9 (nlW y) d):zF7 H9 r d:=by
 rcases ro with ⟨n,hn,rfl⟩ | ⟨z,zs,ps,t,hl,tl,ex,out,rfl,e1,e2,e3⟩
 ·have hn:Out (nlW y) (.num n):=by
   rcases hn with ⟨no,_⟩ | ⟨z,ex,h⟩
   ·exact absurd rfl (no y)
   ·cases ex;exact h
  rcases du with ⟨m,hm,rfl⟩ | ⟨zs,ps,t,hl,tl,out,_⟩
  ·have e:=u7 hn hm
   injection e with e
   exact .inl ⟨n,rfl,by rw [e]⟩
  ·cases u7 hn out
 ·cases ex
  rcases du with ⟨m,hm,rfl⟩ | ⟨zs',ps',t',hl',tl',out',rfl,f1,f2,f3⟩
  ·cases u7 out hm
  ·have e:=u7 out out'
   injection e with e1' e2'
   subst e1' e2'
   exact .inr ⟨t,t',zs,ps,rfl,rfl,⟨hl,tl,k _ _ (by simp) e1,k _ _ (by simp) e2,e3.keep k⟩,⟨hl',tl',f1,f2,f3⟩⟩
def LB:Nat->Nat × Nat × Nat
 | 0=>(600,13,3)
 | j + 1=>(2 * (LB j).1 + 20,(LB j).2.1 + (LB j).2.2 + 1,(LB j).2.1)
theorem zF0:∀ j,j < 4->(LB j).1 <= 10000/\(LB j).2.1 < 60/\(LB j).2.2 <= (LB j).2.1:=by decide
def dR:List Str:=["tree a b c\ntie a b","tree a b","tree a b c d\ntie a b\ntie a c\ntie b c","tree a b c\ntie b c\ntie a b"]
theorem zES:∀ z ∈ dR,z.length <= 10000/\∀ l ∈ nlW z,wdL l < 60:=by decide +kernel
theorem m9:nlW ""=([""]:List Str)/\spW ""=([""]:List Str):=by decide +kernel
theorem dU:Out (nlW "") (.num 0):=by
 refine .first m9.1 fun ⟨zs,h⟩=>?_
 have e:=h.1
 rw [m9.2] at e
 injection e with e _
 exact absurd e (by decide +kernel)
theorem re_0 {H:Hp} {x r:V} (h:zH7 H x r) (hx:(∀ z,x ≠ .str z) \/ x=.str ""):r=.int ((0:Nat):Int):=by
 rcases h with ⟨n,hn,rfl⟩ | ⟨z,zs,ps,t,hl,tl,ex,out,_⟩
 ·rcases hn with ⟨_,rfl⟩ | ⟨z,ex,ho⟩
  ·rfl
  ·rcases hx with no | rfl
   ·exact absurd ex (no z)
   ·cases ex
    have e:=u7 ho dU
    injection e with e
    rw [e]
 ·rcases hx with no | rfl
  ·exact absurd ex (no z)
  ·cases ex
   cases u7 out dU
section
variable {P:Program} {w:World} {K:W.Frag} {mg:Str->Option Value} {base:Heap} {C:Addr}
theorem scIs:zO ["_law_found","_law_due_here"] ["_law_found","_law_due_here"] (zF sIs):=scm
theorem uN:zO ["_law_script","_law_cell","_law_source","_law_many","_law_names_here","_law_ties","_law_text","_law_turn","_law_thing","_law_some"] ["_law_script"] (zF kX):=scm
def zIQ:Sp:=fun vs H Q _=>∃ r d,vs=[r,d]/\zF7 H r d/\Q (.bl true) H
theorem okIs (G:yD K mg "_law_is" sIs ["_law_found","_law_due_here"]) (b_isinstance:Blt mg "isinstance") (b_bool:Blt mg "bool"):Cal P w K mg base CX0 1 "_law_is" ["_law_found","_law_due_here"] zIQ:=by
 refine G.ok scIs (fun vs H Q E h=>by obtain ⟨r,d,rfl,_⟩:=h;rfl) (fun f cdv A outer s0 H vs Q E hr h=>?_)
 obtain ⟨r,d,rfl,same,q⟩:=h
 have hu4':=hu4 hr
 refine ⟨_,(zJ (zT (vQ (zG1 (zM xO b_isinstance yF (zA (pv 0) (zA (pF b_bool zE6) zB)))) (vP (wF (zHA hu4') (pv 0) (pv 1) (z6 _)))))),?_⟩
 rcases same with ⟨n,rfl,rfl⟩ | ⟨t,t',zs,ps,rfl,rfl,⟨hl,tl,e1,e2,e3⟩,⟨hl',tl',f1,f2,f3⟩⟩
 ·have pt:yK K H (.int n) "int":=.int n
  refine ⟨_,rfl,_,_,_,_,rfl,pt.ty,pt.kit.2.2.1,_,rfl,_,rfl,ifT rfl ?_⟩
  refine ⟨_,rfl,_,rfl,.inl ⟨rfl,?_⟩⟩
  rw [zKI rfl]
  exact q
 ·have pt:yK K H (.ref t) "tuple":=.tup e1
  refine ⟨_,rfl,_,_,_,_,rfl,pt.ty,pt.kit.2.2.1,_,rfl,_,rfl,ifT rfl ?_⟩
  refine ⟨_,rfl,_,rfl,.inr ⟨t,t',_,_,rfl,rfl,e1,f1,rfl,fun i u v hi hv=>?_,q⟩⟩
  match i,hi,hv with
  | 0,hi,hv=>cases hi;cases hv;exact zED e2 f2
  | 1,hi,hv=>cases hi;cases hv;exact zEC e3 f3
theorem Cal.imp {k:Nat} {x:Str} {ps:List Str} {sp sp':Sp} (D:Cal P w K mg base CX0 k x ps sp) (h:∀ vs H Q E,sp' vs H Q E->sp vs H Q E):Cal P w K mg base CX0 k x ps sp':=by
 obtain ⟨f,fd,F,r⟩:=D.ex
 exact ⟨f,fd,F.imp h,r⟩
theorem zJV (D:Cal P w K mg base CX0 3 "are_houses" ["thing"] (mL K)):Cal P w K mg base CX0 3 "are_houses" ["thing"] aE:=by
 refine Cal.imp D fun vs H Q E h=>?_
 obtain ⟨a,zs,e,ha,gz,nd,l1,l6,q⟩:=h
 refine ⟨.ref a,e,sE (.inl ha) l6 (fun z hz=>zKE (gz z hz).2 (by decide)),fun b H' hb k=>?_⟩
 rw [hb.mpr ⟨zs,⟨a,rfl,ha,gz⟩,nd,l1⟩]
 exact q H' k
theorem zJU (D:Cal P w K mg base CX0 3 "is_tie" ["thing","houses"] (iU K)):Cal P w K mg base CX0 3 "is_tie" ["thing","houses"] zFM:=by
 refine Cal.imp D fun vs H Q E h=>?_
 obtain ⟨t,a,p,zs,e,ht,ha,gz,m1,m2,ne,q⟩:=h
 refine ⟨.ref t,a,zs,e,sE (zs:=[p.1,p.2]) (.inr ht) (by show 2 < 60;decide) (fun z hz=>?_),ha,gz,fun b H' hb k=>?_⟩
 ·rcases List.mem_cons.mp hz with rfl | hz
  ·exact zKE (gz _ m1).2 (by decide)
  ·rw [zJ6.mp hz]
   exact zKE (gz _ m2).2 (by decide)
 ·rw [hb.mpr ⟨p,t,rfl,ht,m1,m2,ne⟩]
  exact q H' k
def fW (K:W.Frag):Sp:=fun vs H Q _=>∃ (a:Addr) (ns:List Int),vs=[.ref a]/\SqL K H a (ns.map V.int)/\ns.length <= 63/\∀ H',Q (.bl true) H'
theorem zJF {f:Addr} {fd:FuncData} (G:Fun K "law" "law" kX f fd) (CD:Cal P w K mg base CX0 1 "_law_digits" ["_law_cell"] kP) (CN:Cal P w K mg base CX0 2 "_law_next" ["_law_source","_law_many"] spNx) (CTR:Cal P w K mg base CX0 5 "_law_tree" ["_law_source","_law_most"] b7) (CTX:Cal P w K mg base CX0 1 "_law_tree_text" ["_law_names_here","_law_ties"] zFL)
  (CSp:Cal P w K mg base CX0 3 "_law_spoilt" ["_law_source","_law_text"] zFN) (CIs:Cal P w K mg base CX0 1 "_law_is" ["_law_found","_law_due_here"] zIQ) (CRe:Cal P w K mg base CX0 8 "_law_read" ["_law_thing"] (zIP K)) (CDu:Cal P w K mg base CX0 2 "_law_due" ["_law_text"] zIR) (b_range:Blt mg "range") (b_all:Blt mg "all"):wW P w K mg base CX0 9 f fd ["_law_script"] (fW K):=by
 refine G.ok uN (fun vs H Q E h=>by obtain ⟨a,ns,rfl,_⟩:=h;rfl) (fun cdv A outer s0 H vs Q E hr h=>?_)
 obtain ⟨a,ns,rfl,hS,hlen,fin⟩:=h
 have hr1:zX 1 _:=hr.mono (by decide)
 have hr2:zX 2 _:=hr.mono (by decide)
 have hr3:zX 3 _:=hr.mono (by decide)
 have hr5:zX 5 _:=hr.mono (by decide)
 have hr8:zX 8 _:=hr
 refine ⟨_,(zE (vN PassesOwn.never rfl (yY (yJ xH (pv 0) yX (yL zG))) (z4 (i:=1) uN.nd rfl (Or.inl rfl)) (zE (zL (i:=2) uN.nd rfl (Or.inl rfl) (zK CD hr1 (zA (pv 1) zB)))
   (zE (zL (i:=3) uN.nd rfl (Or.inl rfl) (zK CN hr2 (zA (pv 2) (zA zG zB))))
   (zE (vO (zK CTR hr5 (zA (pv 2) (zA zG zB))) (pE rfl (yO (z4 (i:=4) uN.nd rfl (Or.inl rfl)) (yO (z4 (i:=5) uN.nd rfl (Or.inl rfl)) wR))))
   (zE (zL (i:=6) uN.nd rfl (Or.inl rfl) (zK CTX hr1 (zA (pv 4) (zA (pv 5) zB))))
   (zE (vN PassesOwn.never rfl (u6 rfl b_range.no (zA (pv 3) zB)) (z4 (i:=7) uN.nd rfl (Or.inl rfl)) (zJ (zL (i:=6) uN.nd rfl (Or.inl rfl) (zK CSp hr3 (zA (pv 2) (zA (pv 6) zB))))))
   (zJ (yW (PW.pt (vB (xT (xF (zK CIs hr1 (zA (zK CRe hr8 (zA (pv 6) zB)) (zA (zK CDu hr2 (zA (pv 6) zB)) zB))))) (uO (xT (xF (zK CIs hr1 (zA (zK CRe hr8 (zA (pv 6) zB)) (zA (zK CDu hr2 (zA (pv 6) zB)) zB)))))))) (zJ (zT pG)) yE))))))))
   (zE (vN PassesOwn.never rfl (yY (yP (zA hV (zA zG (zA pG (zA (yP (zA zS zB)) (zA (xZ (zA zS (zA zS zB))) (zA zS zB)))))))) (z4 (i:=8) uN.nd rfl (Or.inl rfl)) (zJ (yW (xT (xF (zK CIs hr1 (zA (zK CRe hr8 (zA (pv 8) zB)) (zA zG zB))))) (zJ (zT pG)) yE)))
   (zE (zL (i:=9) uN.nd rfl (Or.inl rfl) (yP (zA zS (zA zS (zA zS zB)))))
   (zE (xC (yS F.plainAttrs_list F.slot_list_append F.type_list_append y6 (pv 9) (zA zS zB)))
   (zJ (zT (zM (vY rfl) b_all rN (zA (wM (N:=["_law_script","_law_cell","_law_source","_law_many","_law_names_here","_law_ties","_law_text","_law_turn","_law_thing","_law_some"]) (sc:=zF kX) (ix:=[]) (by decide +kernel) (yY (pv 9)) (fun _ _ _ _=>xB) (fun _ _ _ _=>(zK CIs hr1 (zA (zK CRe hr8 (zA (pv 0) zB)) (zA (zK CDu hr2 (zA (pv 0) zB)) zB))))) zB)))))))),?_⟩
 refine ⟨_,rfl,16,rfl,a,_,rfl,hS,fun sl hsl=>?_⟩
 rw [p7 V.int ns (k:=16) (by decide)]
 refine lay hsl fun H1 kl el=>?_
 generalize ns.take (16:Int).toNat=ms at el
 refine ⟨sl,rfl,⟨_,.of el⟩,vW (K:=K) (a:=sl) (xs:=ms.map V.int) (fun i σ H2=>∃ (v1 v2 v3 v4 v5 v6 v7 v8 v9:Option V),σ=[some (.ref a),v1,v2,v3,v4,v5,v6,v7,v8,v9]/\zD [] H1 H2) ⟨_,_,_,_,_,_,_,_,_,rfl,zD.refl _⟩ (fun _ _ _ _ ⟨_,_,_,_,_,_,_,_,_,_,k⟩=>.of (k _ _ (by simp) el)) ?_ ?_⟩
 ·rintro i y σ H2 hi ⟨v1,v2,v3,v4,v5,v6,v7,v8,v9,rfl,kp⟩
  rw [zJ9] at hi
  cases en:ms[i]? with
  | none=>rw [en] at hi;cases hi
  | some cell=>
  rw [en] at hi
  obtain rfl:V.int cell=y:=zKA hi
  refine ⟨_,rfl,cell,rfl,fun s b1 c1 d1 hs=>?_⟩
  have nsH:H2 s=none:=hs
  have k3:zD [] H2 (upd H2 s (.lst [.int b1,.int c1,.int d1])):=zD.new hs
  have s3:Src (upd H2 s (.lst [.int b1,.int c1,.int d1])) s:=⟨b1,c1,d1,zC⟩
  generalize upd H2 s (.lst [.int b1,.int c1,.int d1])=H3 at k3 s3
  refine ⟨_,rfl,?_⟩
  refine wG (m:=4) s3 (by decide) (by decide) fun mny H4 m0 m1 k4 s4=>?_
  refine ⟨_,rfl,s,9,rfl,s4,by decide,by decide,fun t nh th zs ps H5 ht hnh hth et enh eth gz nd l1 l2 lp tz cn gr k5 s5=>?_⟩
  refine ⟨t,_,rfl,.of et,rfl,_,_,rfl,_,_,rfl,rfl,?_⟩
  have gt:GT zs ps:=⟨gz,nd,l1,l2,lp,tz,cn⟩
  refine ⟨_,rfl,_,rfl,nh,th,zs,ps,rfl,enh,eth,gt,fun zs' ps' H6 pz sz pp sp k6=>?_⟩
  have gt':=gt.norm pz pp
  have lt':=zJI gt'.g gt'.gp gt'.l2 (by have:=gt'.lp;have:=gt'.l2;omega)
  have pab':=zI6 gt'
  generalize rQ zs' ps'=tx at lt' pab' ⊢
  have k26:zD [s] H2 H6:=(k3.mono (by simp)).trans (k4.trans (k5.trans (k6.mono (by simp))))
  have s6:Src H6 s:=s5.on k6
  refine ⟨_,rfl,mny,rfl,by omega,by omega,nL (n:=mny.toNat) (fun i σ H9=>∃ (y:Str) (w7:Option V),σ=[some (.ref a),some (.int cell),some (.ref s),some (.int mny),some (.ref nh),some (.ref th),some (.str y),w7,v8,v9]/\y.length <= (LB i).1/\PAB (LB i).2.1 (LB i).2.2 (nlW y)/\zD [s] H2 H9/\Src H9 s) ⟨tx,_,rfl,lt',pab',k26,s6⟩ ?_ ?_⟩
  ·rintro j σ H9 hj ⟨y,w7,rfl,ly,pab,k9,s9⟩
   have lb:=zF0 j (by omega)
   refine ⟨_,rfl,_,rfl,s,y,rfl,s9,by omega,fun y' HA ly' pab'' kA sA=>⟨y',_,rfl,?_,pab'' _ _ lb.2.2 pab,k9.trans kA,sA⟩⟩
   show _ <= 2 * (LB j).1 + 20
   omega
  rintro σ H9 ⟨y,w7,rfl,ly,pab,k9,s9⟩
  have lb:=zF0 mny.toNat (by omega)
  have ly1:y.length <= 10000:=zKE ly lb.1
  have wy:∀ l ∈ nlW y,wdL l < 60:=fun l hl=>Nat.lt_of_le_of_lt (pab.1 l hl) lb.2.1
  refine ⟨_,rfl,.str y,"str",rfl,.str y,(fun z e=>by cases e;exact ⟨ly1,wy⟩),fun r HA ro kA=>?_⟩
  refine ⟨_,rfl,y,rfl,ly1,wy,fun d HB du kB=>?_⟩
  refine ⟨r,d,rfl,mQ ro kB du,_,rfl,ifF rfl ?_⟩
  refine ⟨_,rfl,.str y,"str",rfl,.str y,(fun z e=>by cases e;exact ⟨ly1,wy⟩),fun r2 HC ro2 kC=>?_⟩
  refine ⟨_,rfl,y,rfl,ly1,wy,fun d2 HD du2 kD=>?_⟩
  refine ⟨r2,d2,rfl,mQ ro2 kD du2,_,rfl,ifF rfl ?_⟩
  refine ⟨_,_,_,_,_,_,_,_,_,rfl,?_⟩
  have k2D:zD [s] H2 HD:=k9.trans ((kA.trans (kB.trans (kC.trans kD))).mono (by simp))
  exact kp.trans (k2D.drop nsH)
 rintro σ H2 ⟨v1,v2,v3,v4,v5,v6,v7,v8,v9,rfl,kp⟩
 refine ⟨by show 1 <= sizeLine;decide,fun q1 hq1=>?_⟩
 refine lay hq1 fun H3 k3 e3=>?_
 refine ⟨by show 2 <= sizeLine;decide,fun q2 hq2=>?_⟩
 refine lay hq2 fun H4 k4 e4=>?_
 refine ⟨by show 6 <= sizeLine;decide,fun q3 hq3=>?_⟩
 refine lay hq3 fun H5 k5 e5=>?_
 have e35:=(k4.trans k5) _ _ (by simp) e3
 have e45:=k5 _ _ (by simp) e4
 have each:∀ x ∈ [V.non,.int 7,.bl true,.ref q1,.ref q2,.str ""],((∀ z,x ≠ .str z) \/ x=.str "")/\∀ H6,zD [] H5 H6->∃ T,yK K H6 x T:=by
  intro x hx
  simp only [List.mem_cons,zKX,or_false] at hx
  rcases hx with rfl | rfl | rfl | rfl | rfl | rfl
  ·exact ⟨.inl (fun z e=>by cases e),fun H6 k=>⟨_,.non⟩⟩
  ·exact ⟨.inl (fun z e=>by cases e),fun H6 k=>⟨_,.int 7⟩⟩
  ·exact ⟨.inl (fun z e=>by cases e),fun H6 k=>⟨_,.bl true⟩⟩
  ·exact ⟨.inl (fun z e=>by cases e),fun H6 k=>⟨_,.lst (k _ _ (by simp) e35)⟩⟩
  ·exact ⟨.inl (fun z e=>by cases e),fun H6 k=>⟨_,.tup (k _ _ (by simp) e45)⟩⟩
  ·exact ⟨.inr rfl,fun H6 k=>⟨_,.str _⟩⟩
 have ne4:=zES
 generalize hxs:[V.non,.int 7,.bl true,.ref q1,.ref q2,.str ""]=xs at e5 each
 refine ⟨q3,rfl,⟨_,.of e5⟩,vW (K:=K) (a:=q3) (xs:=xs) (fun i σ H6=>∃ (w8:Option V),σ=[some (.ref a),v1,v2,v3,v4,v5,v6,v7,w8,v9]/\zD [] H5 H6) ⟨_,rfl,zD.refl _⟩ (fun _ _ _ _ ⟨_,_,k⟩=>.of (k _ _ (by simp) e5)) ?_ ?_⟩
 ·rintro i x σ H6 hx ⟨w8,rfl,k6⟩
  obtain ⟨ex,pl⟩:=each x (zJ7 hx)
  obtain ⟨T,pt⟩:=pl H6 k6
  refine ⟨_,rfl,x,T,rfl,pt,(fun z e=>?_),fun r H7 ro k7=>?_⟩
  ·rcases ex with no | e'
   ·exact absurd e (no z)
   ·rw [e'] at e
    cases e
    rw [m9.1]
    exact ⟨by decide +kernel,by decide +kernel⟩
  ·rw [re_0 ro ex]
   exact ⟨_,_,rfl,.inl ⟨0,rfl,rfl⟩,_,rfl,ifF rfl ⟨_,rfl,k6.trans k7⟩⟩
 rintro σ H6 ⟨w8,rfl,k6⟩
 clear e3 e4 e5 each e35 e45
 refine ⟨by show 3 <= sizeLine;decide,fun q4 hq4=>?_⟩
 refine lay hq4 fun H7 k7 e7=>?_
 refine ⟨_,rfl,Or.inl ⟨rfl,_,.of e7⟩,q4,_,_,rfl,rfl,e7,by show 4 <= sizeLine;decide,?_⟩
 have e8:upd H7 q4 (.lst (([V.str "tree a b c\ntie a b",.str "tree a b",.str "tree a b c d\ntie a b\ntie a c\ntie b c"]:List V) ++ [.str "tree a b c\ntie b c\ntie a b"])) q4=some (.lst (dR.map V.str)):=zC
 generalize upd H7 q4 _=H8 at e8 ⊢
 have l4:dR.length < 1000:=by decide
 generalize dR=fs at e8 ne4 l4
 refine ⟨_,rfl,q4,rfl,⟨_,.of e8⟩,fun acc hacc=>?_⟩
 have aa:q4 ≠ acc:=zH e8 hacc
 refine vV (K:=K) (a:=q4) (its:=fs.map V.str) (by rw [zJ3,sizeLine_eq];omega) (fun i ys τ H9=>∃ k:Option V,τ=[k]/\ys=((fs.take i).map fun _=>true).map V.bl/\zD [acc] H8 H9/\H9 acc=some (.lst ys)) ?_ ?_ ?_ ?_
 ·exact ⟨_,rfl,rfl,zD.at (by simp),zC⟩
 ·rintro i ys τ H9 ⟨k,rfl,rfl,kp9,h9⟩
  exact ⟨h9,by simp;omega,.of (kp9 _ _ (by simp [aa]) e8)⟩
 ·rintro i ys τ H9 x hx ⟨k,rfl,rfl,kp9,h9⟩
  rw [zJ9] at hx
  cases ey:fs[i]? with
  | none=>rw [ey] at hx;cases hx
  | some y=>
  rw [ey] at hx
  obtain rfl:V.str y=x:=zKA hx
  obtain ⟨ly1,wy⟩:=ne4 y (zJ7 ey)
  refine ⟨_,rfl,.str y,"str",rfl,.str y,(fun z e=>by cases e;exact ⟨ly1,wy⟩),fun r HA ro kA=>?_⟩
  refine ⟨_,rfl,y,rfl,ly1,wy,fun d HB du kB=>?_⟩
  refine ⟨r,d,rfl,mQ ro kB du,(kA.trans kB) _ _ (by simp) h9,_,rfl,?_,(kp9.trans ((kA.trans kB).mono (by simp))).trans (zD.at (by simp)),zC⟩
  rw [List.take_add_one,ey,zKF,zKF];rfl
 rintro ys τ H9 ⟨k,rfl,rfl,kp9,h9⟩
 rw [zJ3,zK3] at h9
 refine ⟨acc,fs.map fun _=>true,rfl,.of h9,?_⟩
 rw [show (fs.map fun _=>true).all id=true by simp]
 exact fin _
end
end K83
section
open PySem PySem.W PyProof.Rows
set_option maxHeartbeats 0
noncomputable section
namespace HD
open PySem PySem.W L2
variable (P:Params)
def tp (i:Nat):Stmt:=PySem.Challenge.pw_treeright_k83_tree_texts_spoilt.main.body.getD i (.Pass ⟨0,0,0,0⟩)
def ic (i j:Nat):Stmt:=sM (tp i) j
abbrev N:=@BT.node
abbrev L:=BT.nil
abbrev M (o:Obj):BT:=N o L L
abbrev J (o:Obj) (a:BT):BT:=N o a L
def en (P:Params) (k:Str) (t:Nat) (v:Value):DictEntry:=⟨PyData.keyHash P k,.str k t,v⟩
noncomputable def h0 (a0:Str) (a1:Str) (a2:Stmt):Obj:=⟨.none,none,(Data.func ⟨a0,a1,(xE a2),(FuncBody.stmts (yM a2)),(zF a2),0,[],.none,.none,.none,.none,none,.none,.none,0⟩),#[]⟩
def o0:Obj:=h0 "are_houses" "are_houses" (tp 22)
def o2:Obj:=h0 "road" "Tree.road" (ic 27 4)
def o15:Obj:=h0 "tied_to_each" "tied_to_each" (tp 25)
def o26:Obj:=h0 "ties" "Tree.ties" (ic 27 2)
def o27:Obj:=h0 "_law_names" "_law_names" (tp 40)
def o28:Obj:=h0 "_law_due" "_law_due" (tp 46)
def o45:Obj:=h0 "steps_toward" "steps_toward" (tp 26)
def o55:Obj:=h0 "_law_word" "_law_word" (tp 39)
def o59:Obj:=h0 "_law_read" "_law_read" (tp 47)
def o63:Obj:=h0 "neighbours" "Tree.neighbours" (ic 27 3)
def o90:Obj:=h0 "is_tie" "is_tie" (tp 23)
def o99:Obj:=h0 "_law_tree" "_law_tree" (tp 42)
def o101:Obj:=h0 "_law_spoilt" "_law_spoilt" (tp 44)
def o118:Obj:=h0 "__init__" "Tree.__init__" (ic 27 0)
def o126:Obj:=h0 "are_unlike" "are_unlike" (tp 21)
def o132:Obj:=h0 "are_ties" "are_ties" (tp 24)
def o141:Obj:=h0 "read_tree" "read_tree" (tp 30)
def o144:Obj:=h0 "check_text" "check_text" (tp 29)
def o155:Obj:=h0 "is_one_of" "is_one_of" (tp 19)
def o167:Obj:=h0 "check_house" "Tree.check_house" (ic 27 6)
def o168:Obj:=h0 "is_name" "is_name" (tp 18)
def o191:Obj:=h0 "closes_ring" "closes_ring" (tp 34)
def o201:Obj:=h0 "_law_is" "_law_is" (tp 48)
def o212:Obj:=h0 "_law_digits" "_law_digits" (tp 37)
def o214:Obj:=h0 "_law_shuffled" "_law_shuffled" (tp 41)
def o222:Obj:=h0 "without" "Tree.without" (ic 27 5)
def o232:Obj:=h0 "_law_tree_text" "_law_tree_text" (tp 43)
def o237:Obj:=h0 "_law_is_name" "_law_is_name" (tp 45)
def o239:Obj:=h0 "__init__" "NoText.__init__" (ic 13 0)
def o242:Obj:=h0 "rises" "rises" (tp 33)
def o246:Obj:=h0 "_law_mixed" "_law_mixed" (tp 36)
def o259:Obj:=h0 "law" "law" (tp 49)
def o270:Obj:=h0 "houses" "Tree.houses" (ic 27 1)
def o274:Obj:=h0 "read_tie" "read_tie" (tp 32)
def o281:Obj:=h0 "are_names" "are_names" (tp 20)
def o287:Obj:=h0 "read_houses" "read_houses" (tp 31)
def o288:Obj:=h0 "_law_next" "_law_next" (tp 38)
def o298:Obj:=h0 "_wall" "_wall" (tp 0)
noncomputable def o1:Obj:=⟨(.type "tuple"),none,(Data.seq #[] 0),#[]⟩
noncomputable def o3:Obj:=⟨.none,none,(Data.fields #[]),#[]⟩
noncomputable def o4:Obj:=⟨.none,none,(Data.fields #[(.int 1 0),(.int 0 0),(.ref 20),(.int 5 0),(.int 0 0),(.ref 27),(.int 7 0),(.int 0 0),(.ref 40)]),#[]⟩
noncomputable def h1 (a0:Nat):Obj:=⟨(.type "super"),none,(Data.fields #[(.ref a0),(.ref a0),(.ref a0)]),#[]⟩
def o5:Obj:=h1 140
def o31:Obj:=h1 171
def o67:Obj:=h1 297
def o112:Obj:=h1 68
def o121:Obj:=h1 183
def o149:Obj:=h1 92
def o164:Obj:=h1 80
def o236:Obj:=h1 56
def o240:Obj:=h1 116
def o244:Obj:=h1 31
def o255:Obj:=h1 104
def o278:Obj:=h1 152
def o279:Obj:=h1 128
def o290:Obj:=h1 44
noncomputable def o6:Obj:=⟨(.type "dict"),none,(Data.dict #[en P "__name__" 165 (.str "treeright.trees" 415),en P "__doc__" 166 .none,en P "__package__" 167 .none,en P "__loader__" 168 (.builtin "__main__.__loader__#opaque"),en P "__spec__" 169 .none,en P "__annotations__" 170 (.ref 6),en P "__builtins__" 171 (.ref 4),en P "__file__" 173 (.str "/claim/cut.py" 172),en P "__cached__" 174 .none,en P "_wall" 193 (.ref 21),en P "TreeError" 213 (.ref 31),en P "NoTree" 229 (.ref 44),en P "NoHouse" 245 (.ref 56),en P "NoSeat" 261 (.ref 68),en P "NoAsker" 277 (.ref 80),en P "NoLetter" 293 (.ref 92),en P "NoRight" 309 (.ref 104),en P "NoRow" 325 (.ref 116),en P "NoTie" 341 (.ref 128),en P "Down" 357 (.ref 140),en P "NoMend" 373 (.ref 152),en P "NoText" 398 (.ref 171),en P "NoLine" 414 (.ref 183),en P "LETTERS" 418 (.str "abcdefghijklmnopqrstuvwxyz" 417),en P "LONGEST_NAME" 420 (.int 8 419),en P "is_name" 426 (.ref 190),en P "is_one_of" 434 (.ref 197),en P "are_names" 440 (.ref 202),en P "are_unlike" 447 (.ref 209),en P "are_houses" 454 (.ref 216)] 30),#[]⟩
noncomputable def o7:Obj:=⟨(.type "dict"),none,(Data.dict #[en P "__name__" 165 (.str "treeright.errors" 194),en P "__doc__" 166 .none,en P "__package__" 167 .none,en P "__loader__" 168 (.builtin "__main__.__loader__#opaque"),en P "__spec__" 169 .none,en P "__annotations__" 170 (.ref 6),en P "__builtins__" 171 (.ref 4),en P "__file__" 173 (.str "/claim/cut.py" 172),en P "__cached__" 174 .none,en P "_wall" 193 (.ref 21),en P "TreeError" 213 (.ref 31),en P "NoTree" 229 (.ref 44),en P "NoHouse" 245 (.ref 56),en P "NoSeat" 261 (.ref 68),en P "NoAsker" 277 (.ref 80),en P "NoLetter" 293 (.ref 92)] 16),#[]⟩
noncomputable def h2 (a0:Str) (a1:Str) (a2:Stmt) (a3:Str) (a4:Nat) (a5:Nat):Obj:=⟨(.type "function"),none,(Data.func ⟨a0,a1,(xE a2),(FuncBody.stmts (yM a2)),(zF a2),3,[],.none,.none,.none,(.str a3 a4),none,(.ref a5),.none,0⟩),#[]⟩
def o8:Obj:=h2 "_law_due" "_law_due" (tp 46) "law_treeright_k83_tree_texts_spoilt" 628 409
def o14:Obj:=h2 "_law_names" "_law_names" (tp 40) "law_treeright_k83_tree_texts_spoilt" 628 373
def o17:Obj:=h2 "_law_is" "_law_is" (tp 48) "law_treeright_k83_tree_texts_spoilt" 628 423
def o24:Obj:=h2 "road" "Tree.road" (ic 27 4) "treeright.trees" 415 279
def o33:Obj:=h2 "is_one_of" "is_one_of" (tp 19) "treeright.trees" 415 196
def o41:Obj:=h2 "tied_to_each" "tied_to_each" (tp 25) "treeright.trees" 415 232
def o52:Obj:=h2 "check_house" "Tree.check_house" (ic 27 6) "treeright.trees" 415 293
def o61:Obj:=h2 "is_tie" "is_tie" (tp 23) "treeright.trees" 415 222
def o65:Obj:=h2 "houses" "Tree.houses" (ic 27 1) "treeright.trees" 415 258
def o80:Obj:=h2 "_law_next" "_law_next" (tp 38) "law_treeright_k83_tree_texts_spoilt" 628 363
def o82:Obj:=h2 "read_tie" "read_tie" (tp 32) "treeright.texts" 567 328
def o84:Obj:=h2 "read_houses" "read_houses" (tp 31) "treeright.texts" 567 321
def o85:Obj:=h2 "_law_tree" "_law_tree" (tp 42) "law_treeright_k83_tree_texts_spoilt" 628 387
def o110:Obj:=h2 "_law_word" "_law_word" (tp 39) "law_treeright_k83_tree_texts_spoilt" 628 368
def o116:Obj:=h2 "neighbours" "Tree.neighbours" (ic 27 3) "treeright.trees" 415 272
def o123:Obj:=h2 "_law_digits" "_law_digits" (tp 37) "law_treeright_k83_tree_texts_spoilt" 628 356
def o134:Obj:=h2 "read_tree" "read_tree" (tp 30) "treeright.texts" 567 314
def o143:Obj:=h2 "_law_tree_text" "_law_tree_text" (tp 43) "law_treeright_k83_tree_texts_spoilt" 628 392
def o157:Obj:=h2 "ties" "Tree.ties" (ic 27 2) "treeright.trees" 415 265
def o161:Obj:=h2 "are_names" "are_names" (tp 20) "treeright.trees" 415 201
def o180:Obj:=h2 "closes_ring" "closes_ring" (tp 34) "treeright.texts" 567 342
def o188:Obj:=h2 "steps_toward" "steps_toward" (tp 26) "treeright.trees" 415 239
def o190:Obj:=h2 "_law_is_name" "_law_is_name" (tp 45) "law_treeright_k83_tree_texts_spoilt" 628 404
def o197:Obj:=h2 "_law_shuffled" "_law_shuffled" (tp 41) "law_treeright_k83_tree_texts_spoilt" 628 380
def o199:Obj:=h2 "_law_read" "_law_read" (tp 47) "law_treeright_k83_tree_texts_spoilt" 628 416
def o223:Obj:=h2 "check_text" "check_text" (tp 29) "treeright.texts" 567 307
def o225:Obj:=h2 "__init__" "NoText.__init__" (ic 13 0) "treeright.errors" 194 167
def o227:Obj:=h2 "are_ties" "are_ties" (tp 24) "treeright.trees" 415 227
def o231:Obj:=h2 "are_unlike" "are_unlike" (tp 21) "treeright.trees" 415 208
def o249:Obj:=h2 "is_name" "is_name" (tp 18) "treeright.trees" 415 189
def o252:Obj:=h2 "__init__" "Tree.__init__" (ic 27 0) "treeright.trees" 415 251
def o254:Obj:=h2 "_wall" "_wall" (tp 0) "__main__" 164 20
def o258:Obj:=h2 "rises" "rises" (tp 33) "treeright.texts" 567 335
def o260:Obj:=h2 "are_houses" "are_houses" (tp 22) "treeright.trees" 415 215
def o262:Obj:=h2 "without" "Tree.without" (ic 27 5) "treeright.trees" 415 286
def o266:Obj:=h2 "law" "law" (tp 49) "law_treeright_k83_tree_texts_spoilt" 628 428
def o282:Obj:=h2 "_law_spoilt" "_law_spoilt" (tp 44) "law_treeright_k83_tree_texts_spoilt" 628 399
def o293:Obj:=h2 "_law_mixed" "_law_mixed" (tp 36) "law_treeright_k83_tree_texts_spoilt" 628 349
noncomputable def o9:Obj:=⟨(.type "type"),none,(Data.cls ⟨"TreeError",[(.type "ValueError")],[(.ref 31),(.type "ValueError"),(.type "Exception"),(.type "BaseException"),(.type "object")],30,"TreeError",true,[],[(.ref 44),(.ref 56),(.ref 68),(.ref 80),(.ref 92),(.ref 104),(.ref 116)],false,none,false⟩),#[(some (.ref 22)),none,(some (.str "TreeError" 196)),(some (.str "TreeError" 204)),(some (.builtin "ValueError.__new__")),(some (.bool true))]⟩
noncomputable def h3 (a0:Str) (a1:Nat) (a2:Str) (a3:Nat) (a4:Nat) (a5:Int) (a6:Int) (a7:Nat) (a8:Nat) (a9:Nat) (a10:Nat) (a11:Nat) (a12:Int) (a13:Nat):Obj:=⟨(.type "code"),none,(Data.fields #[(.str a0 a1),(.str a2 a3),(.str "/claim/cut.py" a4),(.int a5 0),(.int a6 0),(.int 0 0),(.int 0 0),(.int 3 0),(.ref a7),(.bool true),(.int 181 0),(.ref a8),.none,(.ref a9),(.ref a10),(.ref a11),(.int a12 0),(.int a5 0),(.str "/claim/cut.py" a13)]),#[]⟩
def o10:Obj:=h3 "_law_spoilt" 696 "_law_spoilt" 697 698 189 2 394 395 396 397 398 713 714
def o20:Obj:=h3 "_law_shuffled" 667 "_law_shuffled" 668 669 170 2 375 376 377 378 379 674 675
def o21:Obj:=h3 "check_text" 569 "check_text" 570 571 112 1 302 303 304 305 306 573 574
def o29:Obj:=h3 "ties" 514 "Tree.ties" 515 516 90 1 260 261 262 263 264 518 519
def o43:Obj:=h3 "steps_toward" 477 "steps_toward" 478 479 64 2 234 235 236 237 238 486 487
def o48:Obj:=h3 "is_tie" 455 "is_tie" 456 457 49 2 217 218 219 220 221 462 463
def o50:Obj:=h3 "without" 540 "Tree.without" 541 542 105 2 281 282 283 284 285 545 546
def o69:Obj:=h3 "are_houses" 448 "are_houses" 449 450 47 1 210 211 212 213 214 452 453
def o75:Obj:=h3 "read_tie" 598 "read_tie" 599 600 130 4 323 324 325 326 327 608 609
def o89:Obj:=h3 "_law_is" 739 "_law_is" 740 741 256 2 418 419 420 421 422 744 745
def o107:Obj:=h3 "road" 529 "Tree.road" 530 531 96 3 274 275 276 277 278 537 538
def o113:Obj:=h3 "read_houses" 589 "read_houses" 590 591 125 1 316 317 318 319 320 595 596
def o127:Obj:=h3 "is_one_of" 427 "is_one_of" 428 429 41 2 191 192 193 194 195 432 433
def o150:Obj:=h3 "_law_next" 646 "_law_next" 647 648 148 2 358 359 360 361 362 652 653
def o152:Obj:=h3 "_wall" 187 "_wall" 188 189 1 1 15 16 17 18 19 191 192
def o159:Obj:=h3 "neighbours" 521 "Tree.neighbours" 522 523 93 2 267 268 269 270 271 526 527
def o163:Obj:=h3 "houses" 507 "Tree.houses" 508 509 87 1 253 254 255 256 257 511 512
def o173:Obj:=h3 "__init__" 386 "NoText.__init__" 387 388 29 2 162 163 164 165 166 391 392
def o177:Obj:=h3 "_law_mixed" 630 "_law_mixed" 631 632 141 2 344 345 346 347 348 636 637
def o198:Obj:=h3 "are_unlike" 441 "are_unlike" 442 443 45 1 203 204 205 206 207 445 446
def o205:Obj:=h3 "_law_tree" 677 "_law_tree" 678 679 176 2 382 383 384 385 386 687 688
def o213:Obj:=h3 "rises" 611 "rises" 612 613 136 2 330 331 332 333 334 616 617
def o219:Obj:=h3 "_law_digits" 639 "_law_digits" 640 641 146 1 351 352 353 354 355 643 644
def o245:Obj:=h3 "_law_read" 728 "_law_read" 729 730 245 1 411 412 413 414 415 736 737
def o251:Obj:=h3 "check_house" 548 "Tree.check_house" 549 550 108 2 288 289 290 291 292 553 554
def o286:Obj:=h3 "read_tree" 576 "read_tree" 577 578 115 1 309 310 311 312 313 586 587
def o289:Obj:=h3 "closes_ring" 619 "closes_ring" 620 621 138 3 337 338 339 340 341 625 626
noncomputable def o11:Obj:=⟨.none,none,(Data.fields #[(.int 1 0),(.int 0 0),(.ref 20),(.int 5 0),(.int 0 0),(.ref 27)]),#[]⟩
noncomputable def h4 (a0:Str) (a1:Nat) (a2:Nat) (a3:Nat) (a4:Nat) (a5:Nat):Obj:=⟨(.type "type"),none,(Data.cls ⟨a0,[(.ref 31)],[(.ref a1),(.ref 31),(.type "ValueError"),(.type "Exception"),(.type "BaseException"),(.type "object")],a2,a0,true,[],[],false,none,false⟩),#[(some (.ref a3)),none,(some (.str a0 a4)),(some (.str a0 a5)),(some (.builtin "ValueError.__new__")),(some (.bool true))]⟩
def o12:Obj:=h4 "NoRight" 104 103 95 294 302
def o13:Obj:=h4 "NoTree" 44 43 35 214 222
def o25:Obj:=h4 "NoMend" 152 151 143 358 366
def o44:Obj:=h4 "NoRow" 116 115 107 310 318
def o53:Obj:=h4 "NoText" 171 170 155 374 382
def o87:Obj:=h4 "Down" 140 139 131 342 350
def o179:Obj:=h4 "NoLine" 183 182 174 399 407
def o203:Obj:=h4 "NoTie" 128 127 119 326 334
def o215:Obj:=h4 "NoAsker" 80 79 71 262 270
def o238:Obj:=h4 "NoLetter" 92 91 83 278 286
def o263:Obj:=h4 "NoHouse" 56 55 47 230 238
def o267:Obj:=h4 "NoSeat" 68 67 59 246 254
noncomputable def o16:Obj:=⟨.none,none,(Data.fields #[(.int 1 0),(.int 0 0),(.ref 20),(.int 5 0),(.int 0 0),(.ref 27),(.int 7 0),(.int 0 0),(.ref 40),(.int 9 0),(.int 0 0),(.ref 52),(.int 11 0),(.int 0 0),(.ref 64),(.int 13 0),(.int 0 0),(.ref 76),(.int 15 0),(.int 0 0),(.ref 88),(.int 17 0),(.int 0 0),(.ref 100),(.int 19 0),(.int 0 0),(.ref 112),(.int 21 0),(.int 0 0),(.ref 124),(.int 23 0),(.int 0 0),(.ref 136),(.int 25 0),(.int 0 0),(.ref 148),(.int 27 0),(.int 0 0),(.ref 160),(.int 32 0),(.int 0 0),(.ref 179),(.int 37 0),(.int 0 0),(.ref 189),(.int 41 0),(.int 0 0),(.ref 196),(.int 43 0),(.int 0 0),(.ref 201),(.int 45 0),(.int 0 0),(.ref 208),(.int 47 0),(.int 0 0),(.ref 215),(.int 49 0),(.int 0 0),(.ref 222),(.int 54 0),(.int 0 0),(.ref 227),(.int 58 0),(.int 0 0),(.ref 232),(.int 64 0),(.int 0 0),(.ref 239)]),#[]⟩
noncomputable def h5 (a0:Nat) (a1:Nat) (a2:Str) (a3:Nat) (a4:Nat) (a5:Int) (a6:Nat) (a7:Nat) (a8:Nat):Obj:=⟨(.type "dict"),none,(Data.dict #[en P "__module__" a0 (.str "treeright.errors" 194),en P "__qualname__" a1 (.str a2 a3),en P "__firstlineno__" a4 (.int a5 a6),en P "__static_attributes__" a7 (.ref a8)] 4),#[]⟩
def o18:Obj:=h5 P 317 319 "NoRow" 318 321 19 320 322 114
def o19:Obj:=h5 P 301 303 "NoRight" 302 305 17 304 306 102
def o76:Obj:=h5 P 365 367 "NoMend" 366 369 25 368 370 150
def o98:Obj:=h5 P 333 335 "NoTie" 334 337 21 336 338 126
def o176:Obj:=h5 P 406 408 "NoLine" 407 410 32 409 411 181
def o178:Obj:=h5 P 269 271 "NoAsker" 270 273 13 272 274 78
def o183:Obj:=h5 P 285 287 "NoLetter" 286 289 15 288 290 90
def o196:Obj:=h5 P 237 239 "NoHouse" 238 241 9 240 242 54
def o221:Obj:=h5 P 221 223 "NoTree" 222 225 7 224 226 42
def o226:Obj:=h5 P 253 255 "NoSeat" 254 257 11 256 258 66
def o272:Obj:=h5 P 203 205 "TreeError" 204 207 5 206 208 29
def o280:Obj:=h5 P 349 351 "Down" 350 353 23 352 354 138
noncomputable def h6 (a0:Nat) (a1:Nat) (a2:Int) (a3:Nat) (a4:Str) (a5:Nat) (a6:Nat) (a7:Str) (a8:Nat) (a9:Nat) (a10:Nat) (a11:Nat):Obj:=⟨(.type "dict"),none,(Data.dict #[en P "__module__" a0 (.str "treeright.errors" 194),en P "__firstlineno__" a1 (.int a2 a3),en P a4 a5 (.ref a6),en P a7 a8 (.ref a9),en P "__doc__" a10 .none] a11),#[]⟩
def o22:Obj:=h6 P 203 207 5 206 "__static_attributes__" 208 29 "__weakref__" 210 32 211 3
def o182:Obj:=h6 P 381 385 27 384 "__init__" 393 168 "__static_attributes__" 395 169 396 2
noncomputable def h7 (a0:Str) (a1:Nat) (a2:Str) (a3:Nat) (a4:Str) (a5:Nat):Obj:=⟨(.type "tuple"),none,(Data.seq #[(.str a0 a1),(.str a2 a3),(.str a4 a5)] 0),#[]⟩
def o23:Obj:=h7 "_law_cell" 633 "_law_k" 634 "_law_number" 635
def o30:Obj:=h7 "names" 556 "near" 557 "pairs" 558
def o210:Obj:=h7 "line" 592 "word" 593 "houses" 594
def o250:Obj:=h7 "tie" 622 "houses" 623 "ties" 624
def o285:Obj:=h7 "_law_source" 649 "_law_many" 650 "_law_found" 651
noncomputable def h8 (a0:Str) (a1:Nat) (a2:Nat) (a3:Nat) (a4:Int) (a5:Nat) (a6:Nat) (a7:Int) (a8:Nat):Obj:=⟨(.type "code"),none,(Data.fields #[(.str a0 a1),(.str a0 a2),(.str "/claim/cut.py" a3),(.int a4 0),(.int 0 0),(.int 0 0),(.int 0 0),(.int 0 0),(.ref a5),(.bool false),(.int 181 0),(.ref a6),.none,.none,.none,.none,(.int a7 0),(.int a4 0),(.str "/claim/cut.py" a8)]),#[]⟩
def o32:Obj:=h8 "NoLine" 401 402 403 32 177 178 404 405
def o70:Obj:=h8 "NoTie" 328 329 330 21 122 123 331 332
def o102:Obj:=h8 "NoHouse" 232 233 234 9 50 51 235 236
def o124:Obj:=h8 "NoTree" 216 217 218 7 38 39 219 220
def o125:Obj:=h8 "Tree" 491 492 493 74 244 245 494 495
def o136:Obj:=h8 "TreeError" 198 199 200 5 25 26 201 202
def o153:Obj:=h8 "<module>" 182 183 184 1 11 12 185 186
def o154:Obj:=h8 "NoRow" 312 313 314 19 110 111 315 316
def o160:Obj:=h8 "NoSeat" 248 249 250 11 62 63 251 252
def o216:Obj:=h8 "NoRight" 296 297 298 17 98 99 299 300
def o217:Obj:=h8 "NoLetter" 280 281 282 15 86 87 283 284
def o228:Obj:=h8 "NoText" 376 377 378 27 158 159 379 380
def o257:Obj:=h8 "NoAsker" 264 265 266 13 74 75 267 268
def o275:Obj:=h8 "NoMend" 360 361 362 25 146 147 363 364
def o296:Obj:=h8 "Down" 344 345 346 23 134 135 347 348
noncomputable def h9 (a0:Nat) (a1:Nat) (a2:Str) (a3:Nat):Obj:=⟨(.type "frame"),none,Data.plain,#[(some (.ref a0)),(some (.ref 3)),(some (.ref a1)),none,(some (.str a2 a3)),none,(some (.ref 0))]⟩
def o34:Obj:=h9 124 121 "treeright.errors" 194
def o36:Obj:=h9 64 61 "treeright.errors" 194
def o58:Obj:=h9 148 145 "treeright.errors" 194
def o60:Obj:=h9 112 109 "treeright.errors" 194
def o62:Obj:=h9 136 133 "treeright.errors" 194
def o78:Obj:=h9 13 3 "__main__" 164
def o100:Obj:=h9 88 85 "treeright.errors" 194
def o111:Obj:=h9 246 243 "treeright.trees" 415
def o120:Obj:=h9 27 24 "treeright.errors" 194
def o122:Obj:=h9 52 49 "treeright.errors" 194
def o140:Obj:=h9 76 73 "treeright.errors" 194
def o165:Obj:=h9 100 97 "treeright.errors" 194
def o193:Obj:=h9 40 37 "treeright.errors" 194
def o235:Obj:=h9 160 157 "treeright.errors" 194
def o248:Obj:=h9 179 176 "treeright.errors" 194
noncomputable def o35:Obj:=⟨.none,none,(Data.fields #[(.int 1 0),(.int 0 0),(.ref 20),(.int 5 0),(.int 0 0),(.ref 27),(.int 7 0),(.int 0 0),(.ref 40),(.int 9 0),(.int 0 0),(.ref 52),(.int 11 0),(.int 0 0),(.ref 64),(.int 13 0),(.int 0 0),(.ref 76),(.int 15 0),(.int 0 0),(.ref 88),(.int 17 0),(.int 0 0),(.ref 100),(.int 19 0),(.int 0 0),(.ref 112),(.int 21 0),(.int 0 0),(.ref 124),(.int 23 0),(.int 0 0),(.ref 136),(.int 25 0),(.int 0 0),(.ref 148),(.int 27 0),(.int 0 0),(.ref 160),(.int 32 0),(.int 0 0),(.ref 179),(.int 37 0),(.int 0 0),(.ref 189),(.int 41 0),(.int 0 0),(.ref 196),(.int 43 0),(.int 0 0),(.ref 201),(.int 45 0),(.int 0 0),(.ref 208),(.int 47 0),(.int 0 0),(.ref 215),(.int 49 0),(.int 0 0),(.ref 222),(.int 54 0),(.int 0 0),(.ref 227),(.int 58 0),(.int 0 0),(.ref 232),(.int 64 0),(.int 0 0),(.ref 239),(.int 74 0),(.int 0 0),(.ref 246),(.int 112 0),(.int 0 0),(.ref 307),(.int 115 0),(.int 0 0),(.ref 314),(.int 125 0),(.int 0 0),(.ref 321),(.int 130 0),(.int 0 0),(.ref 328),(.int 136 0),(.int 0 0),(.ref 335),(.int 138 0),(.int 0 0),(.ref 342),(.int 141 0),(.int 0 0),(.ref 349),(.int 146 0),(.int 0 0),(.ref 356),(.int 148 0),(.int 0 0),(.ref 363),(.int 155 0),(.int 0 0),(.ref 368),(.int 158 0),(.int 0 0),(.ref 373),(.int 170 0),(.int 0 0),(.ref 380)]),#[]⟩
noncomputable def o37:Obj:=⟨(.type "type"),none,(Data.cls ⟨"TreeError",[(.type "ValueError")],[(.ref 31),(.type "ValueError"),(.type "Exception"),(.type "BaseException"),(.type "object")],30,"TreeError",true,[],[(.ref 44),(.ref 56),(.ref 68),(.ref 80),(.ref 92),(.ref 104),(.ref 116),(.ref 128),(.ref 140),(.ref 152),(.ref 171),(.ref 183)],false,none,false⟩),#[(some (.ref 22)),none,(some (.str "TreeError" 196)),(some (.str "TreeError" 204)),(some (.builtin "ValueError.__new__")),(some (.bool true))]⟩
noncomputable def o38:Obj:=⟨(.type "dict"),none,(Data.dict #[en P "__module__" 496 (.str "treeright.trees" 415),en P "__firstlineno__" 500 (.int 74 499),en P "__init__" 506 (.ref 252),en P "houses" 513 (.ref 259),en P "ties" 520 (.ref 266),en P "neighbours" 528 (.ref 273),en P "road" 539 (.ref 280),en P "without" 547 (.ref 287),en P "check_house" 555 (.ref 294),en P "__static_attributes__" 559 (.ref 295),en P "__dict__" 561 (.ref 298),en P "__weakref__" 563 (.ref 299),en P "__doc__" 564 .none] 4),#[]⟩
noncomputable def o39:Obj:=⟨(.type "dict"),none,(Data.dict #[en P "__module__" 496 (.str "treeright.trees" 415),en P "__qualname__" 498 (.str "Tree" 497),en P "__firstlineno__" 500 (.int 74 499),en P "__init__" 506 (.ref 252),en P "houses" 513 (.ref 259),en P "ties" 520 (.ref 266),en P "neighbours" 528 (.ref 273),en P "road" 539 (.ref 280),en P "without" 547 (.ref 287),en P "check_house" 555 (.ref 294),en P "__static_attributes__" 559 (.ref 295)] 11),#[]⟩
noncomputable def h10 (a0:Nat):Obj:=⟨(.type "builtin_function_or_method"),none,(Data.fields #[(.builtin "object.__init_subclass__"),(.ref a0)]),#[]⟩
def o40:Obj:=h10 31
def o66:Obj:=h10 183
def o68:Obj:=h10 56
def o88:Obj:=h10 128
def o119:Obj:=h10 116
def o147:Obj:=h10 152
def o156:Obj:=h10 171
def o158:Obj:=h10 297
def o169:Obj:=h10 140
def o186:Obj:=h10 80
def o224:Obj:=h10 44
def o233:Obj:=h10 68
def o234:Obj:=h10 92
def o294:Obj:=h10 104
noncomputable def o42:Obj:=⟨(.type "type"),none,(Data.cls ⟨"TreeError",[(.type "ValueError")],[(.ref 31),(.type "ValueError"),(.type "Exception"),(.type "BaseException"),(.type "object")],30,"TreeError",true,[],[(.ref 44),(.ref 56),(.ref 68),(.ref 80),(.ref 92),(.ref 104)],false,none,false⟩),#[(some (.ref 22)),none,(some (.str "TreeError" 196)),(some (.str "TreeError" 204)),(some (.builtin "ValueError.__new__")),(some (.bool true))]⟩
noncomputable def o46:Obj:=⟨(.type "type"),none,(Data.cls ⟨"TreeError",[(.type "ValueError")],[(.ref 31),(.type "ValueError"),(.type "Exception"),(.type "BaseException"),(.type "object")],30,"TreeError",true,[],[(.ref 44),(.ref 56),(.ref 68),(.ref 80),(.ref 92),(.ref 104),(.ref 116),(.ref 128)],false,none,false⟩),#[(some (.ref 22)),none,(some (.str "TreeError" 196)),(some (.str "TreeError" 204)),(some (.builtin "ValueError.__new__")),(some (.bool true))]⟩
noncomputable def o47:Obj:=⟨.none,none,(Data.fields #[(.int 1 0),(.int 0 0),(.ref 20),(.int 5 0),(.int 0 0),(.ref 27),(.int 7 0),(.int 0 0),(.ref 40),(.int 9 0),(.int 0 0),(.ref 52),(.int 11 0),(.int 0 0),(.ref 64),(.int 13 0),(.int 0 0),(.ref 76),(.int 15 0),(.int 0 0),(.ref 88),(.int 17 0),(.int 0 0),(.ref 100),(.int 19 0),(.int 0 0),(.ref 112),(.int 21 0),(.int 0 0),(.ref 124),(.int 23 0),(.int 0 0),(.ref 136),(.int 25 0),(.int 0 0),(.ref 148),(.int 27 0),(.int 0 0),(.ref 160),(.int 32 0),(.int 0 0),(.ref 179),(.int 37 0),(.int 0 0),(.ref 189),(.int 41 0),(.int 0 0),(.ref 196),(.int 43 0),(.int 0 0),(.ref 201),(.int 45 0),(.int 0 0),(.ref 208),(.int 47 0),(.int 0 0),(.ref 215),(.int 49 0),(.int 0 0),(.ref 222),(.int 54 0),(.int 0 0),(.ref 227),(.int 58 0),(.int 0 0),(.ref 232),(.int 64 0),(.int 0 0),(.ref 239),(.int 74 0),(.int 0 0),(.ref 246),(.int 112 0),(.int 0 0),(.ref 307),(.int 115 0),(.int 0 0),(.ref 314),(.int 125 0),(.int 0 0),(.ref 321),(.int 130 0),(.int 0 0),(.ref 328),(.int 136 0),(.int 0 0),(.ref 335),(.int 138 0),(.int 0 0),(.ref 342),(.int 141 0),(.int 0 0),(.ref 349),(.int 146 0),(.int 0 0),(.ref 356),(.int 148 0),(.int 0 0),(.ref 363),(.int 155 0),(.int 0 0),(.ref 368),(.int 158 0),(.int 0 0),(.ref 373),(.int 170 0),(.int 0 0),(.ref 380),(.int 176 0),(.int 0 0),(.ref 387),(.int 184 0),(.int 0 0),(.ref 392),(.int 189 0),(.int 0 0),(.ref 399),(.int 219 0),(.int 0 0),(.ref 404),(.int 221 0),(.int 0 0),(.ref 409),(.int 245 0),(.int 0 0),(.ref 416),(.int 256 0),(.int 0 0),(.ref 423),(.int 258 0),(.int 0 0),(.ref 428)]),#[]⟩
noncomputable def o49:Obj:=⟨(.type "type"),none,(Data.cls ⟨"TreeError",[(.type "ValueError")],[(.ref 31),(.type "ValueError"),(.type "Exception"),(.type "BaseException"),(.type "object")],30,"TreeError",true,[],[(.ref 44),(.ref 56),(.ref 68)],false,none,false⟩),#[(some (.ref 22)),none,(some (.str "TreeError" 196)),(some (.str "TreeError" 204)),(some (.builtin "ValueError.__new__")),(some (.bool true))]⟩
noncomputable def h11 (a0:Str) (a1:Nat):Obj:=⟨(.type "tuple"),none,(Data.seq #[(.str a0 a1)] 0),#[]⟩
def o51:Obj:=h11 "thing" 572
def o73:Obj:=h11 "self" 510
def o81:Obj:=h11 "self" 517
def o109:Obj:=h11 "thing" 451
def o145:Obj:=h11 "_law_cell" 642
def o184:Obj:=h11 "line" 394
def o189:Obj:=h11 "names" 444
def o269:Obj:=h11 "k" 190
noncomputable def o54:Obj:=⟨(.type "builtin_function_or_method"),none,(Data.fields #[(.builtin "type.__prepare__"),(.type "type")]),#[]⟩
noncomputable def o56:Obj:=⟨(.type "tuple"),none,(Data.seq #[(.ref 31)] 0),#[]⟩
noncomputable def h12 (a0:Str) (a1:Nat) (a2:Str) (a3:Nat) (a4:Nat) (a5:Int) (a6:Int) (a7:Nat) (a8:Nat) (a9:Nat) (a10:Int) (a11:Nat):Obj:=⟨(.type "code"),none,(Data.fields #[(.str a0 a1),(.str a2 a3),(.str "/claim/cut.py" a4),(.int a5 0),(.int a6 0),(.int 0 0),(.int 0 0),(.int 3 0),(.ref a7),(.bool true),(.int 181 0),(.ref a8),.none,.none,.none,(.ref a9),(.int a10 0),(.int a5 0),(.str "/claim/cut.py" a11)]),#[]⟩
def o57:Obj:=h12 "__init__" 501 "Tree.__init__" 502 503 76 3 248 249 250 504 505
def o103:Obj:=h12 "_law_due" 722 "_law_due" 723 724 221 1 406 407 408 725 726
def o114:Obj:=h12 "_law_word" 655 "_law_word" 656 657 155 2 365 366 367 658 659
def o115:Obj:=h12 "law" 747 "law" 748 749 258 1 425 426 427 750 751
def o133:Obj:=h12 "_law_is_name" 716 "_law_is_name" 717 718 219 1 401 402 403 719 720
def o139:Obj:=h12 "tied_to_each" 471 "tied_to_each" 472 473 58 2 229 230 231 474 475
def o142:Obj:=h12 "_law_tree_text" 690 "_law_tree_text" 691 692 184 2 389 390 391 693 694
def o174:Obj:=h12 "is_name" 421 "is_name" 422 423 37 1 186 187 188 424 425
def o194:Obj:=h12 "are_names" 435 "are_names" 436 437 43 1 198 199 200 438 439
def o218:Obj:=h12 "_law_names" 661 "_law_names" 662 663 158 2 370 371 372 664 665
def o243:Obj:=h12 "are_ties" 465 "are_ties" 466 467 54 2 224 225 226 468 469
noncomputable def h13 (a0:Str) (a1:Nat) (a2:Str) (a3:Nat) (a4:Str) (a5:Nat) (a6:Str) (a7:Nat):Obj:=⟨(.type "tuple"),none,(Data.seq #[(.str a0 a1),(.str a2 a3),(.str a4 a5),(.str a6 a7)] 0),#[]⟩
def o64:Obj:=h13 "_law_source" 670 "_law_names_here" 671 "_law_left" 672 "_law_found" 673
def o195:Obj:=h13 "thing" 458 "houses" 459 "one" 460 "other" 461
noncomputable def h14 (a0:Nat) (a1:Nat) (a2:Int) (a3:Nat) (a4:Nat) (a5:Nat) (a6:Nat):Obj:=⟨(.type "dict"),none,(Data.dict #[en P "__module__" a0 (.str "treeright.errors" 194),en P "__firstlineno__" a1 (.int a2 a3),en P "__static_attributes__" a4 (.ref a5),en P "__doc__" a6 .none] 2),#[]⟩
def o71:Obj:=h14 P 349 353 23 352 354 138 355
def o72:Obj:=h14 P 333 337 21 336 338 126 339
def o92:Obj:=h14 P 317 321 19 320 322 114 323
def o105:Obj:=h14 P 269 273 13 272 274 78 275
def o206:Obj:=h14 P 253 257 11 256 258 66 259
def o207:Obj:=h14 P 365 369 25 368 370 150 371
def o256:Obj:=h14 P 237 241 9 240 242 54 243
def o276:Obj:=h14 P 221 225 7 224 226 42 227
def o284:Obj:=h14 P 301 305 17 304 306 102 307
def o291:Obj:=h14 P 406 410 32 409 411 181 412
def o295:Obj:=h14 P 285 289 15 288 290 90 291
noncomputable def o74:Obj:=⟨(.type "dict"),none,(Data.dict #[en P "__module__" 381 (.str "treeright.errors" 194),en P "__qualname__" 383 (.str "NoText" 382),en P "__firstlineno__" 385 (.int 27 384),en P "__init__" 393 (.ref 168),en P "__static_attributes__" 395 (.ref 169)] 5),#[]⟩
noncomputable def o77:Obj:=⟨(.type "dict"),none,(Data.dict #[en P "__name__" 165 (.str "treeright.trees" 415),en P "__doc__" 166 .none,en P "__package__" 167 .none,en P "__loader__" 168 (.builtin "__main__.__loader__#opaque"),en P "__spec__" 169 .none,en P "__annotations__" 170 (.ref 6),en P "__builtins__" 171 (.ref 4),en P "__file__" 173 (.str "/claim/cut.py" 172),en P "__cached__" 174 .none,en P "_wall" 193 (.ref 21),en P "TreeError" 213 (.ref 31),en P "NoTree" 229 (.ref 44),en P "NoHouse" 245 (.ref 56),en P "NoSeat" 261 (.ref 68),en P "NoAsker" 277 (.ref 80),en P "NoLetter" 293 (.ref 92),en P "NoRight" 309 (.ref 104),en P "NoRow" 325 (.ref 116),en P "NoTie" 341 (.ref 128),en P "Down" 357 (.ref 140),en P "NoMend" 373 (.ref 152),en P "NoText" 398 (.ref 171),en P "NoLine" 414 (.ref 183),en P "LETTERS" 418 (.str "abcdefghijklmnopqrstuvwxyz" 417),en P "LONGEST_NAME" 420 (.int 8 419),en P "is_name" 426 (.ref 190),en P "is_one_of" 434 (.ref 197),en P "are_names" 440 (.ref 202),en P "are_unlike" 447 (.ref 209),en P "are_houses" 454 (.ref 216),en P "is_tie" 464 (.ref 223),en P "are_ties" 470 (.ref 228),en P "tied_to_each" 476 (.ref 233),en P "steps_toward" 488 (.ref 240)] 34),#[]⟩
noncomputable def h15 (a0:Str) (a1:Nat) (a2:Str) (a3:Nat) (a4:Str) (a5:Nat) (a6:Str) (a7:Nat) (a8:Str) (a9:Nat):Obj:=⟨(.type "tuple"),none,(Data.seq #[(.str a0 a1),(.str a2 a3),(.str a4 a5),(.str a6 a7),(.str a8 a9)] 0),#[]⟩
def o79:Obj:=h15 "_law_thing" 731 "_law_found" 732 "_law_tree_here" 733 "e" 734 "_law_others" 735
def o91:Obj:=h15 "self" 532 "one" 533 "other" 534 "steps" 535 "passed" 536
noncomputable def o83:Obj:=⟨(.type "tuple"),none,(Data.seq #[(.type "ValueError")] 0),#[]⟩
noncomputable def o86:Obj:=⟨(.type "tuple"),none,(Data.seq #[(.str "_law_source" 699),(.str "_law_text" 700),(.str "_law_way" 701),(.str "_law_at" 702),(.str "_law_signs" 703),(.str "_law_sign" 704),(.str "_law_lines" 705),(.str "_law_here" 706),(.str "_law_words" 707),(.str "_law_spot" 708),(.str "_law_some" 709),(.str "_law_odd" 710),(.str "_law_more" 711),(.str "_law_pair" 712)] 0),#[]⟩
noncomputable def o93:Obj:=⟨.none,none,(Data.fields #[(.int 1 0),(.int 0 0),(.ref 20),(.int 5 0),(.int 0 0),(.ref 27),(.int 7 0),(.int 0 0),(.ref 40),(.int 9 0),(.int 0 0),(.ref 52),(.int 11 0),(.int 0 0),(.ref 64),(.int 13 0),(.int 0 0),(.ref 76)]),#[]⟩
noncomputable def o94:Obj:=⟨(.type "dict"),none,(Data.dict #[en P "__name__" 165 (.str "treeright.errors" 194),en P "__doc__" 166 .none,en P "__package__" 167 .none,en P "__loader__" 168 (.builtin "__main__.__loader__#opaque"),en P "__spec__" 169 .none,en P "__annotations__" 170 (.ref 6),en P "__builtins__" 171 (.ref 4),en P "__file__" 173 (.str "/claim/cut.py" 172),en P "__cached__" 174 .none,en P "_wall" 193 (.ref 21),en P "TreeError" 213 (.ref 31),en P "NoTree" 229 (.ref 44),en P "NoHouse" 245 (.ref 56),en P "NoSeat" 261 (.ref 68)] 14),#[]⟩
noncomputable def o95:Obj:=⟨(.type "type"),none,(Data.cls ⟨"TreeError",[(.type "ValueError")],[(.ref 31),(.type "ValueError"),(.type "Exception"),(.type "BaseException"),(.type "object")],30,"TreeError",true,[],[(.ref 44),(.ref 56),(.ref 68),(.ref 80),(.ref 92)],false,none,false⟩),#[(some (.ref 22)),none,(some (.str "TreeError" 196)),(some (.str "TreeError" 204)),(some (.builtin "ValueError.__new__")),(some (.bool true))]⟩
noncomputable def o96:Obj:=⟨(.type "dict"),none,(Data.dict #[en P "__name__" 165 (.str "treeright.errors" 194),en P "__doc__" 166 .none,en P "__package__" 167 .none,en P "__loader__" 168 (.builtin "__main__.__loader__#opaque"),en P "__spec__" 169 .none,en P "__annotations__" 170 (.ref 6),en P "__builtins__" 171 (.ref 4),en P "__file__" 173 (.str "/claim/cut.py" 172),en P "__cached__" 174 .none,en P "_wall" 193 (.ref 21),en P "TreeError" 213 (.ref 31),en P "NoTree" 229 (.ref 44),en P "NoHouse" 245 (.ref 56),en P "NoSeat" 261 (.ref 68),en P "NoAsker" 277 (.ref 80),en P "NoLetter" 293 (.ref 92),en P "NoRight" 309 (.ref 104),en P "NoRow" 325 (.ref 116),en P "NoTie" 341 (.ref 128),en P "Down" 357 (.ref 140),en P "NoMend" 373 (.ref 152)] 21),#[]⟩
noncomputable def h16 (a0:Nat) (a1:Nat):Obj:=⟨(.type "getset_descriptor"),none,(Data.fields #[(.str "__weakref__" a0),(.ref a1),(.builtin "ExceptionGroup.__weakref__"),.none]),#[]⟩
def o97:Obj:=h16 209 31
def o130:Obj:=h16 562 297
noncomputable def h17 (a0:Str) (a1:Nat) (a2:Str) (a3:Nat):Obj:=⟨(.type "tuple"),none,(Data.seq #[(.str a0 a1),(.str a2 a3)] 0),#[]⟩
def o104:Obj:=h17 "_law_found" 742 "_law_due_here" 743
def o131:Obj:=h17 "tie" 614 "ties" 615
def o185:Obj:=h17 "thing" 430 "houses" 431
def o192:Obj:=h17 "self" 524 "house" 525
def o241:Obj:=h17 "self" 389 "line" 390
def o247:Obj:=h17 "self" 543 "house" 544
def o273:Obj:=h17 "self" 551 "house" 552
noncomputable def o106:Obj:=⟨.none,none,(Data.fields #[(.int 1 0),(.int 0 0),(.ref 20),(.int 5 0),(.int 0 0),(.ref 27),(.int 7 0),(.int 0 0),(.ref 40),(.int 9 0),(.int 0 0),(.ref 52),(.int 11 0),(.int 0 0),(.ref 64),(.int 13 0),(.int 0 0),(.ref 76),(.int 15 0),(.int 0 0),(.ref 88),(.int 17 0),(.int 0 0),(.ref 100),(.int 19 0),(.int 0 0),(.ref 112),(.int 21 0),(.int 0 0),(.ref 124),(.int 23 0),(.int 0 0),(.ref 136),(.int 25 0),(.int 0 0),(.ref 148),(.int 27 0),(.int 0 0),(.ref 160)]),#[]⟩
noncomputable def o108:Obj:=⟨(.type "type"),none,(Data.cls ⟨"Tree",[(.type "object")],[(.ref 297),(.type "object")],296,"Tree",true,[],[],false,none,false⟩),#[none,none,(some (.str "Tree" 489)),(some (.str "Tree" 497)),(some (.builtin "object.__new__")),(some (.bool true))]⟩
noncomputable def o117:Obj:=⟨(.type "dict"),none,(Data.dict #[en P "__name__" 165 (.str "treeright.errors" 194),en P "__doc__" 166 .none,en P "__package__" 167 .none,en P "__loader__" 168 (.builtin "__main__.__loader__#opaque"),en P "__spec__" 169 .none,en P "__annotations__" 170 (.ref 6),en P "__builtins__" 171 (.ref 4),en P "__file__" 173 (.str "/claim/cut.py" 172),en P "__cached__" 174 .none,en P "_wall" 193 (.ref 21),en P "TreeError" 213 (.ref 31)] 11),#[]⟩
noncomputable def o128:Obj:=⟨(.type "dict"),none,(Data.dict #[en P "__name__" 165 (.str "treeright.errors" 194),en P "__doc__" 166 .none,en P "__package__" 167 .none,en P "__loader__" 168 (.builtin "__main__.__loader__#opaque"),en P "__spec__" 169 .none,en P "__annotations__" 170 (.ref 6),en P "__builtins__" 171 (.ref 4),en P "__file__" 173 (.str "/claim/cut.py" 172),en P "__cached__" 174 .none,en P "_wall" 193 (.ref 21),en P "TreeError" 213 (.ref 31),en P "NoTree" 229 (.ref 44),en P "NoHouse" 245 (.ref 56),en P "NoSeat" 261 (.ref 68),en P "NoAsker" 277 (.ref 80),en P "NoLetter" 293 (.ref 92),en P "NoRight" 309 (.ref 104),en P "NoRow" 325 (.ref 116),en P "NoTie" 341 (.ref 128),en P "Down" 357 (.ref 140),en P "NoMend" 373 (.ref 152),en P "NoText" 398 (.ref 171)] 22),#[]⟩
noncomputable def o129:Obj:=⟨(.type "dict"),none,(Data.dict #[en P "__name__" 165 (.str "law_treeright_k83_tree_texts_spoilt" 628),en P "__doc__" 166 .none,en P "__package__" 167 .none,en P "__loader__" 168 (.builtin "__main__.__loader__#opaque"),en P "__spec__" 169 .none,en P "__annotations__" 170 (.ref 6),en P "__builtins__" 171 (.ref 4),en P "__file__" 173 (.str "/claim/cut.py" 172),en P "__cached__" 174 .none,en P "_wall" 193 (.ref 21),en P "TreeError" 213 (.ref 31),en P "NoTree" 229 (.ref 44),en P "NoHouse" 245 (.ref 56),en P "NoSeat" 261 (.ref 68),en P "NoAsker" 277 (.ref 80),en P "NoLetter" 293 (.ref 92),en P "NoRight" 309 (.ref 104),en P "NoRow" 325 (.ref 116),en P "NoTie" 341 (.ref 128),en P "Down" 357 (.ref 140),en P "NoMend" 373 (.ref 152),en P "NoText" 398 (.ref 171),en P "NoLine" 414 (.ref 183),en P "LETTERS" 418 (.str "abcdefghijklmnopqrstuvwxyz" 417),en P "LONGEST_NAME" 420 (.int 8 419),en P "is_name" 426 (.ref 190),en P "is_one_of" 434 (.ref 197),en P "are_names" 440 (.ref 202),en P "are_unlike" 447 (.ref 209),en P "are_houses" 454 (.ref 216),en P "is_tie" 464 (.ref 223),en P "are_ties" 470 (.ref 228),en P "tied_to_each" 476 (.ref 233),en P "steps_toward" 488 (.ref 240),en P "Tree" 566 (.ref 297),en P "check_text" 575 (.ref 308),en P "read_tree" 588 (.ref 315),en P "read_houses" 597 (.ref 322),en P "read_tie" 610 (.ref 329),en P "rises" 618 (.ref 336),en P "closes_ring" 627 (.ref 343),en P "_law_mixed" 638 (.ref 350),en P "_law_digits" 645 (.ref 357),en P "_law_next" 654 (.ref 364),en P "_law_word" 660 (.ref 369),en P "_law_names" 666 (.ref 374),en P "_law_shuffled" 676 (.ref 381)] 47),#[]⟩
noncomputable def o135:Obj:=⟨(.type "type"),none,(Data.cls ⟨"TreeError",[(.type "ValueError")],[(.ref 31),(.type "ValueError"),(.type "Exception"),(.type "BaseException"),(.type "object")],30,"TreeError",true,[],[(.ref 44),(.ref 56),(.ref 68),(.ref 80),(.ref 92),(.ref 104),(.ref 116),(.ref 128),(.ref 140),(.ref 152),(.ref 171)],false,none,false⟩),#[(some (.ref 22)),none,(some (.str "TreeError" 196)),(some (.str "TreeError" 204)),(some (.builtin "ValueError.__new__")),(some (.bool true))]⟩
noncomputable def o137:Obj:=⟨(.type "dict"),none,(Data.dict #[en P "__name__" 165 (.str "treeright.trees" 415),en P "__doc__" 166 .none,en P "__package__" 167 .none,en P "__loader__" 168 (.builtin "__main__.__loader__#opaque"),en P "__spec__" 169 .none,en P "__annotations__" 170 (.ref 6),en P "__builtins__" 171 (.ref 4),en P "__file__" 173 (.str "/claim/cut.py" 172),en P "__cached__" 174 .none,en P "_wall" 193 (.ref 21),en P "TreeError" 213 (.ref 31),en P "NoTree" 229 (.ref 44),en P "NoHouse" 245 (.ref 56),en P "NoSeat" 261 (.ref 68),en P "NoAsker" 277 (.ref 80),en P "NoLetter" 293 (.ref 92),en P "NoRight" 309 (.ref 104),en P "NoRow" 325 (.ref 116),en P "NoTie" 341 (.ref 128),en P "Down" 357 (.ref 140),en P "NoMend" 373 (.ref 152),en P "NoText" 398 (.ref 171),en P "NoLine" 414 (.ref 183),en P "LETTERS" 418 (.str "abcdefghijklmnopqrstuvwxyz" 417),en P "LONGEST_NAME" 420 (.int 8 419),en P "is_name" 426 (.ref 190),en P "is_one_of" 434 (.ref 197),en P "are_names" 440 (.ref 202),en P "are_unlike" 447 (.ref 209),en P "are_houses" 454 (.ref 216),en P "is_tie" 464 (.ref 223),en P "are_ties" 470 (.ref 228),en P "tied_to_each" 476 (.ref 233),en P "steps_toward" 488 (.ref 240),en P "Tree" 566 (.ref 297)] 35),#[]⟩
noncomputable def o138:Obj:=⟨.none,none,(Data.fields #[(.int 1 0),(.int 0 0),(.ref 20),(.int 5 0),(.int 0 0),(.ref 27),(.int 7 0),(.int 0 0),(.ref 40),(.int 9 0),(.int 0 0),(.ref 52),(.int 11 0),(.int 0 0),(.ref 64),(.int 13 0),(.int 0 0),(.ref 76),(.int 15 0),(.int 0 0),(.ref 88),(.int 17 0),(.int 0 0),(.ref 100)]),#[]⟩
noncomputable def h18 (a0:Str) (a1:Nat) (a2:Str) (a3:Nat) (a4:Str) (a5:Nat) (a6:Str) (a7:Nat) (a8:Str) (a9:Nat) (a10:Str) (a11:Nat) (a12:Str) (a13:Nat):Obj:=⟨(.type "tuple"),none,(Data.seq #[(.str a0 a1),(.str a2 a3),(.str a4 a5),(.str a6 a7),(.str a8 a9),(.str a10 a11),(.str a12 a13)] 0),#[]⟩
def o146:Obj:=h18 "line" 601 "number" 602 "houses" 603 "ties" 604 "word" 605 "names" 606 "tie" 607
def o166:Obj:=h18 "text" 579 "first" 580 "others" 581 "houses" 582 "ties" 583 "number" 584 "line" 585
def o170:Obj:=h18 "_law_source" 680 "_law_most" 681 "_law_way" 682 "_law_names_here" 683 "_law_ties" 684 "_law_k" 685 "_law_other" 686
noncomputable def o148:Obj:=⟨.none,none,(Data.fields #[(.int 29 0),(.int 4 0),(.ref 167)]),#[]⟩
noncomputable def o151:Obj:=⟨(.type "dict"),none,(Data.dict #[en P "__name__" 165 (.str "treeright.errors" 194),en P "__doc__" 166 .none,en P "__package__" 167 .none,en P "__loader__" 168 (.builtin "__main__.__loader__#opaque"),en P "__spec__" 169 .none,en P "__annotations__" 170 (.ref 6),en P "__builtins__" 171 (.ref 4),en P "__file__" 173 (.str "/claim/cut.py" 172),en P "__cached__" 174 .none,en P "_wall" 193 (.ref 21),en P "TreeError" 213 (.ref 31),en P "NoTree" 229 (.ref 44),en P "NoHouse" 245 (.ref 56),en P "NoSeat" 261 (.ref 68),en P "NoAsker" 277 (.ref 80)] 15),#[]⟩
noncomputable def o162:Obj:=⟨.none,none,(Data.fields #[(.int 1 0),(.int 0 0),(.ref 20),(.int 5 0),(.int 0 0),(.ref 27),(.int 7 0),(.int 0 0),(.ref 40),(.int 9 0),(.int 0 0),(.ref 52),(.int 11 0),(.int 0 0),(.ref 64),(.int 13 0),(.int 0 0),(.ref 76),(.int 15 0),(.int 0 0),(.ref 88),(.int 17 0),(.int 0 0),(.ref 100),(.int 19 0),(.int 0 0),(.ref 112),(.int 21 0),(.int 0 0),(.ref 124),(.int 23 0),(.int 0 0),(.ref 136)]),#[]⟩
noncomputable def o171:Obj:=⟨(.type "dict"),none,(Data.dict #[en P "__name__" 165 (.str "treeright.errors" 194),en P "__doc__" 166 .none,en P "__package__" 167 .none,en P "__loader__" 168 (.builtin "__main__.__loader__#opaque"),en P "__spec__" 169 .none,en P "__annotations__" 170 (.ref 6),en P "__builtins__" 171 (.ref 4),en P "__file__" 173 (.str "/claim/cut.py" 172),en P "__cached__" 174 .none,en P "_wall" 193 (.ref 21),en P "TreeError" 213 (.ref 31),en P "NoTree" 229 (.ref 44),en P "NoHouse" 245 (.ref 56),en P "NoSeat" 261 (.ref 68),en P "NoAsker" 277 (.ref 80),en P "NoLetter" 293 (.ref 92),en P "NoRight" 309 (.ref 104),en P "NoRow" 325 (.ref 116),en P "NoTie" 341 (.ref 128),en P "Down" 357 (.ref 140)] 20),#[]⟩
noncomputable def o172:Obj:=⟨.none,none,(Data.fields #[(.int 1 0),(.int 0 0),(.ref 20),(.int 5 0),(.int 0 0),(.ref 27),(.int 7 0),(.int 0 0),(.ref 40),(.int 9 0),(.int 0 0),(.ref 52),(.int 11 0),(.int 0 0),(.ref 64),(.int 13 0),(.int 0 0),(.ref 76),(.int 15 0),(.int 0 0),(.ref 88),(.int 17 0),(.int 0 0),(.ref 100),(.int 19 0),(.int 0 0),(.ref 112),(.int 21 0),(.int 0 0),(.ref 124),(.int 23 0),(.int 0 0),(.ref 136),(.int 25 0),(.int 0 0),(.ref 148)]),#[]⟩
noncomputable def o175:Obj:=⟨(.type "dict"),none,(Data.dict #[en P "__name__" 165 (.str "treeright.errors" 194),en P "__doc__" 166 .none,en P "__package__" 167 .none,en P "__loader__" 168 (.builtin "__main__.__loader__#opaque"),en P "__spec__" 169 .none,en P "__annotations__" 170 (.ref 6),en P "__builtins__" 171 (.ref 4),en P "__file__" 173 (.str "/claim/cut.py" 172),en P "__cached__" 174 .none,en P "_wall" 193 (.ref 21),en P "TreeError" 213 (.ref 31),en P "NoTree" 229 (.ref 44)] 12),#[]⟩
noncomputable def o181:Obj:=⟨(.type "type"),none,(Data.cls ⟨"TreeError",[(.type "ValueError")],[(.ref 31),(.type "ValueError"),(.type "Exception"),(.type "BaseException"),(.type "object")],30,"TreeError",true,[],[(.ref 44),(.ref 56)],false,none,false⟩),#[(some (.ref 22)),none,(some (.str "TreeError" 196)),(some (.str "TreeError" 204)),(some (.builtin "ValueError.__new__")),(some (.bool true))]⟩
noncomputable def o187:Obj:=⟨(.type "tuple"),none,(Data.seq #[(.str "near" 480),(.str "goal" 481),(.str "steps" 482),(.str "fresh" 483),(.str "here" 484),(.str "other" 485)] 0),#[]⟩
noncomputable def o200:Obj:=⟨.none,none,(Data.fields #[(.int 1 0),(.int 0 0),(.ref 20),(.int 5 0),(.int 0 0),(.ref 27),(.int 7 0),(.int 0 0),(.ref 40),(.int 9 0),(.int 0 0),(.ref 52),(.int 11 0),(.int 0 0),(.ref 64)]),#[]⟩
noncomputable def o202:Obj:=⟨(.type "dict"),none,(Data.dict #[en P "__name__" 165 (.str "treeright.errors" 194),en P "__doc__" 166 .none,en P "__package__" 167 .none,en P "__loader__" 168 (.builtin "__main__.__loader__#opaque"),en P "__spec__" 169 .none,en P "__annotations__" 170 (.ref 6),en P "__builtins__" 171 (.ref 4),en P "__file__" 173 (.str "/claim/cut.py" 172),en P "__cached__" 174 .none,en P "_wall" 193 (.ref 21),en P "TreeError" 213 (.ref 31),en P "NoTree" 229 (.ref 44),en P "NoHouse" 245 (.ref 56),en P "NoSeat" 261 (.ref 68),en P "NoAsker" 277 (.ref 80),en P "NoLetter" 293 (.ref 92),en P "NoRight" 309 (.ref 104),en P "NoRow" 325 (.ref 116)] 18),#[]⟩
noncomputable def o204:Obj:=⟨(.type "type"),none,(Data.cls ⟨"TreeError",[(.type "ValueError")],[(.ref 31),(.type "ValueError"),(.type "Exception"),(.type "BaseException"),(.type "object")],30,"TreeError",true,[],[(.ref 44),(.ref 56),(.ref 68),(.ref 80),(.ref 92),(.ref 104),(.ref 116),(.ref 128),(.ref 140)],false,none,false⟩),#[(some (.ref 22)),none,(some (.str "TreeError" 196)),(some (.str "TreeError" 204)),(some (.builtin "ValueError.__new__")),(some (.bool true))]⟩
noncomputable def o208:Obj:=⟨(.type "type"),none,(Data.cls ⟨"TreeError",[(.type "ValueError")],[(.ref 31),(.type "ValueError"),(.type "Exception"),(.type "BaseException"),(.type "object")],30,"TreeError",true,[],[(.ref 44),(.ref 56),(.ref 68),(.ref 80),(.ref 92),(.ref 104),(.ref 116),(.ref 128),(.ref 140),(.ref 152)],false,none,false⟩),#[(some (.ref 22)),none,(some (.str "TreeError" 196)),(some (.str "TreeError" 204)),(some (.builtin "ValueError.__new__")),(some (.bool true))]⟩
noncomputable def o209:Obj:=⟨.none,none,(Data.fields #[(.int 1 0),(.int 0 0),(.ref 20),(.int 5 0),(.int 0 0),(.ref 27),(.int 7 0),(.int 0 0),(.ref 40),(.int 9 0),(.int 0 0),(.ref 52),(.int 11 0),(.int 0 0),(.ref 64),(.int 13 0),(.int 0 0),(.ref 76),(.int 15 0),(.int 0 0),(.ref 88),(.int 17 0),(.int 0 0),(.ref 100),(.int 19 0),(.int 0 0),(.ref 112),(.int 21 0),(.int 0 0),(.ref 124),(.int 23 0),(.int 0 0),(.ref 136),(.int 25 0),(.int 0 0),(.ref 148),(.int 27 0),(.int 0 0),(.ref 160),(.int 32 0),(.int 0 0),(.ref 179),(.int 37 0),(.int 0 0),(.ref 189),(.int 41 0),(.int 0 0),(.ref 196),(.int 43 0),(.int 0 0),(.ref 201),(.int 45 0),(.int 0 0),(.ref 208),(.int 47 0),(.int 0 0),(.ref 215),(.int 49 0),(.int 0 0),(.ref 222),(.int 54 0),(.int 0 0),(.ref 227),(.int 58 0),(.int 0 0),(.ref 232),(.int 64 0),(.int 0 0),(.ref 239),(.int 74 0),(.int 0 0),(.ref 246)]),#[]⟩
noncomputable def o211:Obj:=⟨(.type "type"),none,(Data.cls ⟨"TreeError",[(.type "ValueError")],[(.ref 31),(.type "ValueError"),(.type "Exception"),(.type "BaseException"),(.type "object")],30,"TreeError",true,[],[(.ref 44)],false,none,false⟩),#[(some (.ref 22)),none,(some (.str "TreeError" 196)),(some (.str "TreeError" 204)),(some (.builtin "ValueError.__new__")),(some (.bool true))]⟩
noncomputable def o220:Obj:=⟨(.type "dict"),none,(Data.dict #[en P "__name__" 165 (.str "treeright.errors" 194),en P "__doc__" 166 .none,en P "__package__" 167 .none,en P "__loader__" 168 (.builtin "__main__.__loader__#opaque"),en P "__spec__" 169 .none,en P "__annotations__" 170 (.ref 6),en P "__builtins__" 171 (.ref 4),en P "__file__" 173 (.str "/claim/cut.py" 172),en P "__cached__" 174 .none,en P "_wall" 193 (.ref 21),en P "TreeError" 213 (.ref 31),en P "NoTree" 229 (.ref 44),en P "NoHouse" 245 (.ref 56),en P "NoSeat" 261 (.ref 68),en P "NoAsker" 277 (.ref 80),en P "NoLetter" 293 (.ref 92),en P "NoRight" 309 (.ref 104),en P "NoRow" 325 (.ref 116),en P "NoTie" 341 (.ref 128)] 19),#[]⟩
noncomputable def o229:Obj:=⟨.none,none,(Data.fields #[(.int 1 0),(.int 0 0),(.ref 20),(.int 5 0),(.int 0 0),(.ref 27),(.int 7 0),(.int 0 0),(.ref 40),(.int 9 0),(.int 0 0),(.ref 52),(.int 11 0),(.int 0 0),(.ref 64),(.int 13 0),(.int 0 0),(.ref 76),(.int 15 0),(.int 0 0),(.ref 88),(.int 17 0),(.int 0 0),(.ref 100),(.int 19 0),(.int 0 0),(.ref 112),(.int 21 0),(.int 0 0),(.ref 124)]),#[]⟩
noncomputable def h19 (a0:Int) (a1:Int) (a2:Nat) (a3:Int) (a4:Nat) (a5:Int) (a6:Nat) (a7:Int) (a8:Nat) (a9:Int) (a10:Nat) (a11:Int) (a12:Nat) (a13:Int) (a14:Nat):Obj:=⟨.none,none,(Data.fields #[(.int a0 0),(.int a1 0),(.ref a2),(.int a3 0),(.int a1 0),(.ref a4),(.int a5 0),(.int a1 0),(.ref a6),(.int a7 0),(.int a1 0),(.ref a8),(.int a9 0),(.int a1 0),(.ref a10),(.int a11 0),(.int a1 0),(.ref a12),(.int a13 0),(.int a1 0),(.ref a14)]),#[]⟩
def o230:Obj:=h19 1 0 20 5 27 7 40 9 52 11 64 13 76 15 88
def o264:Obj:=h19 76 4 251 87 258 90 265 93 272 96 279 105 286 108 293
noncomputable def o253:Obj:=⟨.none,none,(Data.fields #[(.int 1 0),(.int 0 0),(.ref 20),(.int 5 0),(.int 0 0),(.ref 27),(.int 7 0),(.int 0 0),(.ref 40),(.int 9 0),(.int 0 0),(.ref 52)]),#[]⟩
noncomputable def o261:Obj:=⟨(.type "type"),none,(Data.cls ⟨"TreeError",[(.type "ValueError")],[(.ref 31),(.type "ValueError"),(.type "Exception"),(.type "BaseException"),(.type "object")],30,"TreeError",true,[],[],false,none,false⟩),#[(some (.ref 22)),none,(some (.str "TreeError" 196)),(some (.str "TreeError" 204)),(some (.builtin "ValueError.__new__")),(some (.bool true))]⟩
noncomputable def o265:Obj:=⟨(.type "getset_descriptor"),none,(Data.fields #[(.str "__dict__" 560),(.ref 297),(.builtin "function.__dict__"),(.builtin "function.__dict__#set")]),#[]⟩
noncomputable def o268:Obj:=⟨(.type "dict"),none,(Data.dict #[en P "__name__" 165 (.str "treeright.errors" 194),en P "__doc__" 166 .none,en P "__package__" 167 .none,en P "__loader__" 168 (.builtin "__main__.__loader__#opaque"),en P "__spec__" 169 .none,en P "__annotations__" 170 (.ref 6),en P "__builtins__" 171 (.ref 4),en P "__file__" 173 (.str "/claim/cut.py" 172),en P "__cached__" 174 .none,en P "_wall" 193 (.ref 21),en P "TreeError" 213 (.ref 31),en P "NoTree" 229 (.ref 44),en P "NoHouse" 245 (.ref 56)] 13),#[]⟩
noncomputable def o271:Obj:=⟨.none,none,(Data.fields #[(.int 1 0),(.int 0 0),(.ref 20),(.int 5 0),(.int 0 0),(.ref 27),(.int 7 0),(.int 0 0),(.ref 40),(.int 9 0),(.int 0 0),(.ref 52),(.int 11 0),(.int 0 0),(.ref 64),(.int 13 0),(.int 0 0),(.ref 76),(.int 15 0),(.int 0 0),(.ref 88),(.int 17 0),(.int 0 0),(.ref 100),(.int 19 0),(.int 0 0),(.ref 112),(.int 21 0),(.int 0 0),(.ref 124),(.int 23 0),(.int 0 0),(.ref 136),(.int 25 0),(.int 0 0),(.ref 148),(.int 27 0),(.int 0 0),(.ref 160),(.int 32 0),(.int 0 0),(.ref 179),(.int 37 0),(.int 0 0),(.ref 189),(.int 41 0),(.int 0 0),(.ref 196),(.int 43 0),(.int 0 0),(.ref 201),(.int 45 0),(.int 0 0),(.ref 208),(.int 47 0),(.int 0 0),(.ref 215)]),#[]⟩
noncomputable def o277:Obj:=⟨.none,none,(Data.fields #[(.int 1 0),(.int 0 0),(.ref 20),(.int 5 0),(.int 0 0),(.ref 27),(.int 7 0),(.int 0 0),(.ref 40),(.int 9 0),(.int 0 0),(.ref 52),(.int 11 0),(.int 0 0),(.ref 64),(.int 13 0),(.int 0 0),(.ref 76),(.int 15 0),(.int 0 0),(.ref 88),(.int 17 0),(.int 0 0),(.ref 100),(.int 19 0),(.int 0 0),(.ref 112)]),#[]⟩
noncomputable def o283:Obj:=⟨(.type "dict"),none,(Data.dict #[en P "__name__" 165 (.str "law_treeright_k83_tree_texts_spoilt" 628),en P "__doc__" 166 .none,en P "__package__" 167 .none,en P "__loader__" 168 (.builtin "__main__.__loader__#opaque"),en P "__spec__" 169 .none,en P "__annotations__" 170 (.ref 6),en P "__builtins__" 171 (.ref 4),en P "__file__" 173 (.str "/claim/cut.py" 172),en P "__cached__" 174 .none,en P "_wall" 193 (.ref 21),en P "TreeError" 213 (.ref 31),en P "NoTree" 229 (.ref 44),en P "NoHouse" 245 (.ref 56),en P "NoSeat" 261 (.ref 68),en P "NoAsker" 277 (.ref 80),en P "NoLetter" 293 (.ref 92),en P "NoRight" 309 (.ref 104),en P "NoRow" 325 (.ref 116),en P "NoTie" 341 (.ref 128),en P "Down" 357 (.ref 140),en P "NoMend" 373 (.ref 152),en P "NoText" 398 (.ref 171),en P "NoLine" 414 (.ref 183),en P "LETTERS" 418 (.str "abcdefghijklmnopqrstuvwxyz" 417),en P "LONGEST_NAME" 420 (.int 8 419),en P "is_name" 426 (.ref 190),en P "is_one_of" 434 (.ref 197),en P "are_names" 440 (.ref 202),en P "are_unlike" 447 (.ref 209),en P "are_houses" 454 (.ref 216),en P "is_tie" 464 (.ref 223),en P "are_ties" 470 (.ref 228),en P "tied_to_each" 476 (.ref 233),en P "steps_toward" 488 (.ref 240),en P "Tree" 566 (.ref 297),en P "check_text" 575 (.ref 308),en P "read_tree" 588 (.ref 315),en P "read_houses" 597 (.ref 322),en P "read_tie" 610 (.ref 329),en P "rises" 618 (.ref 336),en P "closes_ring" 627 (.ref 343),en P "_law_mixed" 638 (.ref 350),en P "_law_digits" 645 (.ref 357),en P "_law_next" 654 (.ref 364),en P "_law_word" 660 (.ref 369),en P "_law_names" 666 (.ref 374),en P "_law_shuffled" 676 (.ref 381),en P "_law_tree" 689 (.ref 388),en P "_law_tree_text" 695 (.ref 393),en P "_law_spoilt" 715 (.ref 400),en P "_law_is_name" 721 (.ref 405),en P "_law_due" 727 (.ref 410),en P "_law_read" 738 (.ref 417),en P "_law_is" 746 (.ref 424),en P "law" 752 (.ref 429)] 55),#[]⟩
noncomputable def o292:Obj:=⟨(.type "type"),none,(Data.cls ⟨"TreeError",[(.type "ValueError")],[(.ref 31),(.type "ValueError"),(.type "Exception"),(.type "BaseException"),(.type "object")],30,"TreeError",true,[],[(.ref 44),(.ref 56),(.ref 68),(.ref 80)],false,none,false⟩),#[(some (.ref 22)),none,(some (.str "TreeError" 196)),(some (.str "TreeError" 204)),(some (.builtin "ValueError.__new__")),(some (.bool true))]⟩
noncomputable def o297:Obj:=⟨(.type "dict"),none,(Data.dict #[en P "__name__" 165 (.str "treeright.errors" 194),en P "__doc__" 166 .none,en P "__package__" 167 .none,en P "__loader__" 168 (.builtin "__main__.__loader__#opaque"),en P "__spec__" 169 .none,en P "__annotations__" 170 (.ref 6),en P "__builtins__" 171 (.ref 4),en P "__file__" 173 (.str "/claim/cut.py" 172),en P "__cached__" 174 .none,en P "_wall" 193 (.ref 21),en P "TreeError" 213 (.ref 31),en P "NoTree" 229 (.ref 44),en P "NoHouse" 245 (.ref 56),en P "NoSeat" 261 (.ref 68),en P "NoAsker" 277 (.ref 80),en P "NoLetter" 293 (.ref 92),en P "NoRight" 309 (.ref 104)] 17),#[]⟩
def q0:BT:=N (boot_o_7 P) (N o1 (N o46 (J o3 (M (o72 P))) (M o56)) (N o56 (M (o105 P)) (M o3))) (N o54 (N o3 (M o56) (M (o284 P))) (N (o256 P) (M o3) (M o56)))
def q1:BT:=N o1 (N o298 (N o56 (M (o206 P)) (M o3)) (N o3 (M o56) (M (o92 P)))) (N o136 (N (o276 P) (M o3) (M o56)) (N o56 (M (o295 P)) (M o3)))
def q2:BT:=N (boot_o_9 P) (N o269 (N o244 (J o36 (M o279)) (M (o19 P))) (N (o196 P) (M o164) (M o60))) (N o1 (N o193 (M (o178 P)) (M o255)) (N o236 (M o100) (M (o98 P))))
def q3:BT:=N o153 (N o254 (N (o221 P) (M o112) (M o165)) (N o122 (M (o183 P)) (M o240))) (N o1 (N o290 (M o140) (M (o18 P))) (N (o226 P) (M o149) (M o34)))
def q4:BT:=N (boot_o_8 P) (N o3 (N o97 (J o160 (M o203)) (M o54)) (N o54 (M o215) (M o154))) (N (o272 P) (N o124 (M o54) (M o12)) (N o263 (M o217) (M o54)))
def q5:BT:=N o229 (N o152 (N o54 (M o267) (M o216)) (N o102 (M o54) (M o44))) (N o120 (N o13 (M o257) (M o54)) (N o54 (M o238) (M o70)))
def q6:BT:=N (boot_o_10 P) (N o1 (N o40 (J o1 (M o88)) (M o1)) (N o1 (M o186) (M o1))) (N o3 (N o1 (M o1) (M o294)) (N o68 (M o1) (M o1)))
def q7:BT:=N o78 (N o83 (N o1 (M o233) (M o1)) (N o1 (M o1) (M o119))) (N (o22 P) (N o224 (M o1) (M o1)) (N o1 (M o234) (M o1)))
def q8:BT:=N (boot_o_0 P) (N (boot_o_1 P) (N (o220 P) (q0 P) (q1 P)) (N (boot_o_5 P) (q2 P) (q3 P))) (N (boot_o_2 P) (N (boot_o_4 P) (q4 P) q5) (N (boot_o_6 P) (q6 P) (q7 P)))
def t190 (P:Params):BT:=(q8 P)
def q9:BT:=N o1 (N o37 (N o3 (J (o72 P) (M o73)) (M o1)) (N o56 (J o148 (M o262)) (M o61))) (N o56 (N (o105 P) (J o56 (M o63)) (M o126)) (N o3 (M o54) (M o43)))
def q10:BT:=N o54 (N o3 (N o56 (J o3 (M o1)) (M o3)) (N (o284 P) (J o173 (M o30)) (M o15))) (N (o256 P) (N o3 (J (o207 P) (M o107)) (M o69)) (N o56 (M o179) (M o111)))
def q11:BT:=N o298 (N o56 (N (o206 P) (J o56 (M o65)) (M o155)) (N o3 (J o3 (M o1)) (M o243))) (N o3 (N o56 (J o3 (M o3)) (M o3)) (N (o92 P) (M o32) (M (o39 P))))
def q12:BT:=N o136 (N (o276 P) (N o3 (J (o71 P) (M o1)) (M o1)) (N o56 (J o53 (M o130)) (M o3))) (N o56 (N (o295 P) (J o56 (M o247)) (M o195)) (N o3 (M o3) (M o57)))
def q13:BT:=N o269 (N o244 (N o36 (J o279 (M o270)) (M o185)) (N (o19 P) (J o235 (M o3)) (M o3))) (N (o196 P) (N o164 (J (o76 P) (M o116)) (M o231)) (N o60 (M o1) (M o1)))
def q14:BT:=N o1 (N o193 (N (o178 P) (J o62 (M o29)) (M o194)) (N o255 (J o184 (M o108)) (M o41))) (N o236 (N o100 (J o278 (M o1)) (M o1)) (N (o98 P) (M o66) (M o3)))
def q15:BT:=N o254 (N (o221 P) (N o112 (J (o280 P) (M o3)) (M o33)) (N o165 (J o1 (M o251)) (M o1))) (N o122 (N (o183 P) (J o58 (M o1)) (M o1)) (N o240 (M o1) (M o264)))
def q16:BT:=N o1 (N o290 (N o140 (J o5 (M o192)) (M o189)) (N (o18 P) (J o156 (M o158)) (M o1))) (N (o226 P) (N o149 (J (o74 P) (M o222)) (M o90)) (N o34 (M o174) (M o1)))
def q17:BT:=N (boot_o_1 P) (N (o137 P) (N (boot_o_7 P) (q9 P) (q10 P)) (N o1 (q11 P) (q12 P))) (N (boot_o_5 P) (N (boot_o_9 P) (q13 P) (q14 P)) (N o153 (q15 P) (q16 P)))
def q18:BT:=N o3 (N o97 (N o160 (J o203 (M o1)) (M o3)) (N o54 (J o228 (M o1)) (M o1))) (N o54 (N o215 (J o54 (M o159)) (M o198)) (N o154 (M (o176 P)) (M o188)))
def q19:BT:=N (o272 P) (N o124 (N o54 (J o296 (M o26)) (M o281)) (N o12 (J o225 (M (o38 P))) (M o139))) (N o263 (N o217 (J o25 (M o24)) (M o260)) (N o54 (M o121) (M o1)))
def q20:BT:=N o152 (N o54 (N o267 (J o54 (M o1)) (M o127)) (N o216 (J o241 (M o167)) (M o227))) (N o102 (N o54 (J o275 (M o91)) (M o109)) (N o44 (M o248) (M o1)))
def q21:BT:=N o120 (N o13 (N o257 (J o87 (M o3)) (M o3)) (N o54 (J o31 (M o67)) (M o187))) (N o54 (N o238 (J o54 (M o1)) (M o1)) (N o70 (M o168) (M o252)))
def q22:BT:=N o1 (N o40 (N o1 (J o88 (M o163)) (M o1)) (N o1 (J o1 (M o273)) (M o132))) (N o1 (N o186 (J o1 (M o1)) (M o1)) (N o1 (M o3) (M o54)))
def q23:BT:=N o3 (N o1 (N o1 (J o1 (M o157)) (M o161)) (N o294 (J (o182 P) (M o265)) (M o1))) (N o68 (N o1 (J o147 (M o3)) (M o3)) (N o1 (M o1) (M o118)))
def q24:BT:=N o83 (N o1 (N o233 (J o1 (M o81)) (M o1)) (N o1 (J o239 (M o52)) (M o3))) (N o1 (N o1 (J o1 (M o2)) (M o0)) (N o119 (M (o291 P)) (M o125)))
def q25:BT:=N (o22 P) (N o224 (N o1 (J o169 (M o1)) (M o1)) (N o1 (M o56) (M o45))) (N o1 (N o234 (J o1 (M o50)) (M o48)) (N o1 (M o249) (M o3)))
def q26:BT:=N (boot_o_2 P) (N (boot_o_4 P) (N (boot_o_8 P) (q18 P) (q19 P)) (N o209 q20 q21)) (N (boot_o_6 P) (N (boot_o_10 P) q22 (q23 P)) (N o78 (q24 P) (q25 P)))
def t377 (P:Params):BT:=(N (boot_o_0 P) (q17 P) (q26 P))
def q27:BT:=N (o175 P) (N (boot_o_7 P) (J o1 (M o211)) (J o54 (M o3))) (N o1 (J o298 (M o56)) (J o136 (M (o276 P))))
def q28:BT:=N (boot_o_5 P) (N (boot_o_9 P) (J o269 (M o244)) (J o1 (M o193))) (N o153 (J o254 (M (o221 P))) (J o1 (M o290)))
def q29:BT:=N (boot_o_4 P) (N (boot_o_8 P) (J o3 (M o97)) (J (o272 P) (M o124))) (N o4 (J o152 (M o54)) (J o120 (M o13)))
def q30:BT:=N (boot_o_6 P) (N (boot_o_10 P) (J o1 (M o40)) (J o3 (M o1))) (N o78 (J o83 (M o1)) (J (o22 P) (M o224)))
def t85 (P:Params):BT:=(N (boot_o_0 P) (N (boot_o_1 P) (q27 P) (q28 P)) (N (boot_o_2 P) (q29 P) (q30 P)))
def q31:BT:=N (boot_o_7 P) (N o1 (N o208 (J o3 (M (o72 P))) (M o56)) (N o56 (J (o105 P) (M o56)) (M o3))) (N o54 (N o3 (J o56 (M o3)) (M (o284 P))) (N (o256 P) (J o3 (M (o207 P))) (M o56)))
def q32:BT:=N o1 (N o298 (N o56 (J (o206 P) (M o56)) (M o3)) (N o3 (J o56 (M o3)) (M (o92 P)))) (N o136 (N (o276 P) (J o3 (M (o71 P))) (M o56)) (N o56 (M (o295 P)) (M o3)))
def q33:BT:=N (boot_o_9 P) (N o269 (N o244 (J o36 (M o279)) (M (o19 P))) (N (o196 P) (J o164 (M (o76 P))) (M o60))) (N o1 (N o193 (J (o178 P) (M o62)) (M o255)) (N o236 (J o100 (M o278)) (M (o98 P))))
def q34:BT:=N o153 (N o254 (N (o221 P) (J o112 (M (o280 P))) (M o165)) (N o122 (J (o183 P) (M o58)) (M o240))) (N o1 (N o290 (J o140 (M o5)) (M (o18 P))) (N (o226 P) (M o149) (M o34)))
def q35:BT:=N (boot_o_8 P) (N o3 (N o97 (J o160 (M o203)) (M o54)) (N o54 (J o215 (M o54)) (M o154))) (N (o272 P) (N o124 (J o54 (M o296)) (M o12)) (N o263 (J o217 (M o25)) (M o54)))
def q36:BT:=N o172 (N o152 (N o54 (J o267 (M o54)) (M o216)) (N o102 (J o54 (M o275)) (M o44))) (N o120 (N o13 (J o257 (M o87)) (M o54)) (N o54 (M o238) (M o70)))
def q37:BT:=N (boot_o_10 P) (N o1 (N o40 (J o1 (M o88)) (M o1)) (N o1 (J o186 (M o1)) (M o1))) (N o3 (N o1 (J o1 (M o1)) (M o294)) (N o68 (J o1 (M o147)) (M o1)))
def q38:BT:=N o78 (N o83 (N o1 (J o233 (M o1)) (M o1)) (N o1 (J o1 (M o1)) (M o119))) (N (o22 P) (N o224 (J o1 (M o169)) (M o1)) (N o1 (M o234) (M o1)))
def q39:BT:=N (boot_o_0 P) (N (boot_o_1 P) (N (o96 P) (q31 P) (q32 P)) (N (boot_o_5 P) (q33 P) (q34 P))) (N (boot_o_2 P) (N (boot_o_4 P) (q35 P) q36) (N (boot_o_6 P) (q37 P) (q38 P)))
def t220 (P:Params):BT:=(q39 P)
def q40:BT:=N o1 (N o135 (J o3 (M (o72 P))) (J o56 (M o148))) (N o56 (J (o105 P) (M o56)) (M o3))
def q41:BT:=N o54 (N o3 (J o56 (M o3)) (J (o284 P) (M o173))) (N (o256 P) (J o3 (M (o207 P))) (M o56))
def q42:BT:=N o298 (N o56 (J (o206 P) (M o56)) (J o3 (M o3))) (N o3 (J o56 (M o3)) (M (o92 P)))
def q43:BT:=N o136 (N (o276 P) (J o3 (M (o71 P))) (J o56 (M o53))) (N o56 (J (o295 P) (M o56)) (M o3))
def q44:BT:=N o269 (N o244 (J o36 (M o279)) (J (o19 P) (M o235))) (N (o196 P) (J o164 (M (o76 P))) (M o60))
def q45:BT:=N o1 (N o193 (J (o178 P) (M o62)) (J o255 (M o184))) (N o236 (J o100 (M o278)) (M (o98 P)))
def q46:BT:=N o254 (N (o221 P) (J o112 (M (o280 P))) (J o165 (M o1))) (N o122 (J (o183 P) (M o58)) (M o240))
def q47:BT:=N o1 (N o290 (J o140 (M o5)) (J (o18 P) (M o156))) (N (o226 P) (J o149 (M (o74 P))) (M o34))
def q48:BT:=N (boot_o_1 P) (N (o128 P) (N (boot_o_7 P) (q40 P) (q41 P)) (N o1 (q42 P) (q43 P))) (N (boot_o_5 P) (N (boot_o_9 P) (q44 P) (q45 P)) (N o153 (q46 P) (q47 P)))
def q49:BT:=N o3 (N o97 (J o160 (M o203)) (J o54 (M o228))) (N o54 (J o215 (M o54)) (M o154))
def q50:BT:=N (o272 P) (N o124 (J o54 (M o296)) (J o12 (M o225))) (N o263 (J o217 (M o25)) (M o54))
def q51:BT:=N o152 (N o54 (J o267 (M o54)) (J o216 (M o241))) (N o102 (J o54 (M o275)) (M o44))
def q52:BT:=N o120 (N o13 (J o257 (M o87)) (J o54 (M o31))) (N o54 (J o238 (M o54)) (M o70))
def q53:BT:=N o1 (N o40 (J o1 (M o88)) (J o1 (M o1))) (N o1 (J o186 (M o1)) (M o1))
def q54:BT:=N o3 (N o1 (J o1 (M o1)) (J o294 (M (o182 P)))) (N o68 (J o1 (M o147)) (M o1))
def q55:BT:=N o83 (N o1 (J o233 (M o1)) (J o1 (M o239))) (N o1 (J o1 (M o1)) (M o119))
def q56:BT:=N o78 q55 (N (o22 P) (N o224 (J o1 (M o169)) (M o1)) (N o1 (J o234 (M o1)) (M o1)))
def q57:BT:=N (boot_o_2 P) (N (boot_o_4 P) (N (boot_o_8 P) q49 (q50 P)) (N o106 q51 q52)) (N (boot_o_6 P) (N (boot_o_10 P) q53 (q54 P)) (q56 P))
def t242 (P:Params):BT:=(N (boot_o_0 P) (q48 P) (q57 P))
def q58:BT:=N (boot_o_7 P) (N o1 (N o9 (M o3) (M o56)) (N o56 (M (o105 P)) (M o3))) (N o54 (N o3 (M o56) (M (o284 P))) (J (o256 P) (M o3)))
def q59:BT:=N o1 (N o298 (N o56 (M (o206 P)) (M o3)) (N o3 (M o56) (M (o92 P)))) (N o136 (N (o276 P) (M o3) (M o56)) (J o56 (M (o295 P))))
def q60:BT:=N (boot_o_9 P) (N o269 (N o244 (M o36) (M (o19 P))) (N (o196 P) (M o164) (M o60))) (N o1 (N o193 (M (o178 P)) (M o255)) (J o236 (M o100)))
def q61:BT:=N o153 (N o254 (N (o221 P) (M o112) (M o165)) (N o122 (M (o183 P)) (M o240))) (N o1 (N o290 (M o140) (M (o18 P))) (J (o226 P) (M o149)))
def q62:BT:=N (boot_o_8 P) (N o3 (N o97 (M o160) (M o54)) (N o54 (M o215) (M o154))) (N (o272 P) (N o124 (M o54) (M o12)) (J o263 (M o217)))
def q63:BT:=N o277 (N o152 (N o54 (M o267) (M o216)) (N o102 (M o54) (M o44))) (N o120 (N o13 (M o257) (M o54)) (J o54 (M o238)))
def q64:BT:=N (boot_o_10 P) (N o1 (N o40 (M o1) (M o1)) (N o1 (M o186) (M o1))) (N o3 (N o1 (M o1) (M o294)) (J o68 (M o1)))
def q65:BT:=N o78 (N o83 (N o1 (M o233) (M o1)) (N o1 (M o1) (M o119))) (N (o22 P) (N o224 (M o1) (M o1)) (J o1 (M o234)))
def q66:BT:=N (boot_o_0 P) (N (boot_o_1 P) (N (o202 P) (q58 P) (q59 P)) (N (boot_o_5 P) (q60 P) (q61 P))) (N (boot_o_2 P) (N (boot_o_4 P) (q62 P) q63) (N (boot_o_6 P) (q64 P) (q65 P)))
def t175 (P:Params):BT:=(q66 P)
def q67:BT:=N o1 (N o37 (N o3 (M (o72 P)) (M o1)) (J o56 (M o148))) (N o56 (N (o105 P) (M o56) (M o126)) (J o3 (M o54)))
def q68:BT:=N o54 (N o3 (N o56 (M o3) (M o3)) (J (o284 P) (M o173))) (N (o256 P) (N o3 (M (o207 P)) (M o69)) (J o56 (M o179)))
def q69:BT:=N o298 (N o56 (N (o206 P) (M o56) (M o155)) (J o3 (M o3))) (N o3 (N o56 (M o3) (M o3)) (J (o92 P) (M o32)))
def q70:BT:=N o136 (N (o276 P) (N o3 (M (o71 P)) (M o1)) (J o56 (M o53))) (N o56 (J (o295 P) (M o56)) (J o3 (M o3)))
def q71:BT:=N o269 (N o244 (N o36 (M o279) (M o185)) (J (o19 P) (M o235))) (N (o196 P) (N o164 (M (o76 P)) (M o231)) (J o60 (M o1)))
def q72:BT:=N o1 (N o193 (N (o178 P) (M o62) (M o194)) (J o255 (M o184))) (N o236 (J o100 (M o278)) (J (o98 P) (M o66)))
def q73:BT:=N o254 (N (o221 P) (N o112 (M (o280 P)) (M o33)) (J o165 (M o1))) (N o122 (N (o183 P) (M o58) (M o1)) (J o240 (M o1)))
def q74:BT:=N o1 (N o290 (N o140 (M o5) (M o189)) (J (o18 P) (M o156))) (N (o226 P) (J o149 (M (o74 P))) (J o34 (M o174)))
def q75:BT:=N (boot_o_1 P) (N (o6 P) (N (boot_o_7 P) (q67 P) (q68 P)) (N o1 (q69 P) (q70 P))) (N (boot_o_5 P) (N (boot_o_9 P) (q71 P) (q72 P)) (N o153 (q73 P) (q74 P)))
def q76:BT:=N o3 (N o97 (N o160 (M o203) (M o3)) (J o54 (M o228))) (N o54 (N o215 (M o54) (M o198)) (J o154 (M (o176 P))))
def q77:BT:=N (o272 P) (N o124 (N o54 (M o296) (M o281)) (J o12 (M o225))) (N o263 (N o217 (M o25) (M o260)) (J o54 (M o121)))
def q78:BT:=N o152 (N o54 (N o267 (M o54) (M o127)) (J o216 (M o241))) (N o102 (N o54 (M o275) (M o109)) (J o44 (M o248)))
def q79:BT:=N o120 (N o13 (N o257 (M o87) (M o3)) (J o54 (M o31))) (N o54 (J o238 (M o54)) (J o70 (M o168)))
def q80:BT:=N o1 (N o40 (N o1 (M o88) (M o1)) (J o1 (M o1))) (N o1 (N o186 (M o1) (M o1)) (J o1 (M o3)))
def q81:BT:=N o3 (N o1 (N o1 (M o1) (M o161)) (J o294 (M (o182 P)))) (N o68 (J o1 (M o147)) (J o1 (M o1)))
def q82:BT:=N o83 (N o1 (N o233 (M o1) (M o1)) (J o1 (M o239))) (N o1 (N o1 (M o1) (M o0)) (J o119 (M (o291 P))))
def q83:BT:=N (o22 P) (N o224 (N o1 (M o169) (M o1)) (J o1 (M o56))) (N o1 (J o234 (M o1)) (J o1 (M o249)))
def q84:BT:=N (boot_o_2 P) (N (boot_o_4 P) (N (boot_o_8 P) (q76 P) (q77 P)) (N o271 q78 q79)) (N (boot_o_6 P) (N (boot_o_10 P) q80 (q81 P)) (N o78 (q82 P) (q83 P)))
def t288 (P:Params):BT:=(N (boot_o_0 P) (q75 P) (q84 P))
def q85:BT:=N (boot_o_7 P) (N o1 (N o204 (J o3 (M (o72 P))) (M o56)) (N o56 (M (o105 P)) (M o3))) (N o54 (N o3 (J o56 (M o3)) (M (o284 P))) (N (o256 P) (M o3) (M o56)))
def q86:BT:=N o1 (N o298 (N o56 (J (o206 P) (M o56)) (M o3)) (N o3 (M o56) (M (o92 P)))) (N o136 (N (o276 P) (J o3 (M (o71 P))) (M o56)) (N o56 (M (o295 P)) (M o3)))
def q87:BT:=N (boot_o_9 P) (N o269 (N o244 (J o36 (M o279)) (M (o19 P))) (N (o196 P) (M o164) (M o60))) (N o1 (N o193 (J (o178 P) (M o62)) (M o255)) (N o236 (M o100) (M (o98 P))))
def q88:BT:=N o153 (N o254 (N (o221 P) (J o112 (M (o280 P))) (M o165)) (N o122 (M (o183 P)) (M o240))) (N o1 (N o290 (J o140 (M o5)) (M (o18 P))) (N (o226 P) (M o149) (M o34)))
def q89:BT:=N (boot_o_8 P) (N o3 (N o97 (J o160 (M o203)) (M o54)) (N o54 (M o215) (M o154))) (N (o272 P) (N o124 (J o54 (M o296)) (M o12)) (N o263 (M o217) (M o54)))
def q90:BT:=N o162 (N o152 (N o54 (J o267 (M o54)) (M o216)) (N o102 (M o54) (M o44))) (N o120 (N o13 (J o257 (M o87)) (M o54)) (N o54 (M o238) (M o70)))
def q91:BT:=N (boot_o_10 P) (N o1 (N o40 (J o1 (M o88)) (M o1)) (N o1 (M o186) (M o1))) (N o3 (N o1 (J o1 (M o1)) (M o294)) (N o68 (M o1) (M o1)))
def q92:BT:=N o78 (N o83 (N o1 (J o233 (M o1)) (M o1)) (N o1 (M o1) (M o119))) (N (o22 P) (N o224 (J o1 (M o169)) (M o1)) (N o1 (M o234) (M o1)))
def q93:BT:=N (boot_o_0 P) (N (boot_o_1 P) (N (o171 P) (q85 P) (q86 P)) (N (boot_o_5 P) (q87 P) (q88 P))) (N (boot_o_2 P) (N (boot_o_4 P) (q89 P) q90) (N (boot_o_6 P) (q91 P) (q92 P)))
def t205 (P:Params):BT:=(q93 P)
def q94:BT:=N o37 (N o3 (J (o72 P) (M o73)) (J o1 (M o1))) (N o56 (J o148 (M o262)) (J o61 (M o1)))
def q95:BT:=N o56 (N (o105 P) (J o56 (M o63)) (J o126 (M o213))) (N o3 (J o54 (M o3)) (J o43 (M o55)))
def q96:BT:=N o3 (N o56 (J o3 (M o1)) (J o3 (M o274))) (N (o284 P) (J o173 (M o30)) (J o15 (M o3)))
def q97:BT:=N (o256 P) (N o3 (J (o207 P) (M o107)) (J o69 (M o180))) (N o56 (J o179 (M o166)) (J o111 (M o1)))
def q98:BT:=N o56 (N (o206 P) (J o56 (M o65)) (J o155 (M o1))) (N o3 (J o3 (M o1)) (J o243 (M o212)))
def q99:BT:=N o3 (N o56 (J o3 (M o3)) (J o3 (M o250))) (N (o92 P) (J o32 (M o21)) (J (o39 P) (M o3)))
def q100:BT:=N (o276 P) (N o3 (J (o71 P) (M o1)) (J o1 (M o3))) (N o56 (J o53 (M o130)) (J o3 (M o150)))
def q101:BT:=N o56 (N (o295 P) (J o56 (M o247)) (J o195 (M o1))) (N o3 (J o3 (M o134)) (J o57 (M o214)))
def q102:BT:=N (o129 P) (N (boot_o_7 P) (N o1 (q94 P) (q95 P)) (N o54 (q96 P) (q97 P))) (N o1 (N o298 (q98 P) (q99 P)) (N o136 (q100 P) (q101 P)))
def q103:BT:=N o244 (N o36 (J o279 (M o270)) (J o185 (M o113))) (N (o19 P) (J o235 (M o3)) (J o3 (M o145)))
def q104:BT:=N (o196 P) (N o164 (J (o76 P) (M o116)) (J o231 (M o1))) (N o60 (J o1 (M o1)) (J o1 (M o110)))
def q105:BT:=N o193 (N (o178 P) (J o62 (M o29)) (J o194 (M o82))) (N o255 (J o184 (M o108)) (J o41 (M o1)))
def q106:BT:=N o236 (N o100 (J o278 (M o1)) (J o1 (M o3))) (N (o98 P) (J o66 (M o141)) (J o3 (M o64)))
def q107:BT:=N (o221 P) (N o112 (J (o280 P) (M o3)) (J o33 (M o146))) (N o165 (J o1 (M o251)) (J o1 (M o123)))
def q108:BT:=N o122 (N (o183 P) (J o58 (M o1)) (J o1 (M o191))) (N o240 (J o1 (M o1)) (J o264 (M o218)))
def q109:BT:=N o290 (N o140 (J o5 (M o192)) (J o189 (M o1))) (N (o18 P) (J o156 (M o158)) (J o1 (M o1)))
def q110:BT:=N (o226 P) (N o149 (J (o74 P) (M o222)) (J o90 (M o177))) (N o34 (J o174 (M o3)) (J o1 (M o197)))
def q111:BT:=N (boot_o_5 P) (N (boot_o_9 P) (N o269 (q103 P) (q104 P)) (N o1 (q105 P) (q106 P))) (N o153 (N o254 (q107 P) (q108 P)) (N o1 (q109 P) (q110 P)))
def q112:BT:=N o97 (N o160 (J o203 (M o1)) (J o3 (M o287))) (N o54 (J o228 (M o1)) (J o1 (M o3)))
def q113:BT:=N o54 (N o215 (J o54 (M o159)) (J o198 (M o258))) (N o154 (J (o176 P) (M o51)) (J o188 (M o114)))
def q114:BT:=N o124 (N o54 (J o296 (M o26)) (J o281 (M o75))) (N o12 (J o225 (M (o38 P))) (J o139 (M o285)))
def q115:BT:=N o263 (N o217 (J o25 (M o24)) (J o260 (M o1))) (N o54 (J o121 (M o1)) (J o1 (M o3)))
def q116:BT:=N o54 (N o267 (J o54 (M o1)) (J o127 (M o3))) (N o216 (J o241 (M o167)) (J o227 (M o219)))
def q117:BT:=N o102 (N o54 (J o275 (M o91)) (J o109 (M o1))) (N o44 (J o248 (M o223)) (J o1 (M o27)))
def q118:BT:=N o13 (N o257 (J o87 (M o3)) (J o3 (M o131))) (N o54 (J o31 (M o67)) (J o187 (M o80)))
def q119:BT:=N o54 (N o238 (J o54 (M o1)) (J o1 (M o246))) (N o70 (J o168 (M o1)) (J o252 (M o20)))
def q120:BT:=N (boot_o_4 P) (N (boot_o_8 P) (N o3 q112 (q113 P)) (N (o272 P) (q114 P) q115)) (N o35 (N o152 q116 q117) (N o120 q118 q119))
def q121:BT:=N o40 (N o1 (J o88 (M o163)) (J o1 (M o84))) (N o1 (J o1 (M o273)) (J o132 (M o1)))
def q122:BT:=N o1 (N o186 (J o1 (M o1)) (J o1 (M o3))) (N o1 (J o3 (M o144)) (J o54 (M o1)))
def q123:BT:=N o1 (N o1 (J o1 (M o157)) (J o161 (M o1))) (N o294 (J (o182 P) (M o265)) (J o1 (M o288)))
def q124:BT:=N o68 (N o1 (J o147 (M o3)) (J o3 (M o23))) (N o1 (J o1 (M o286)) (J o118 (M o1)))
def q125:BT:=N o1 (N o233 (J o1 (M o81)) (J o1 (M o1))) (N o1 (J o239 (M o52)) (J o3 (M o1)))
def q126:BT:=N o1 (N o1 (J o1 (M o2)) (J o0 (M o289))) (N o119 (J (o291 P) (M o3)) (J o125 (M o14)))
def q127:BT:=N o224 (N o1 (J o169 (M o1)) (J o1 (M o242))) (N o1 (J o56 (M o1)) (J o45 (M o3)))
def q128:BT:=N o1 (N o234 (J o1 (M o50)) (J o48 (M o293))) (N o1 (J o249 (M o210)) (M o3))
def q129:BT:=N (boot_o_6 P) (N (boot_o_10 P) (N o1 q121 q122) (N o3 (q123 P) q124)) (N o78 (N o83 q125 (q126 P)) (N (o22 P) q127 q128))
def t459 (P:Params):BT:=(N (boot_o_0 P) (N (boot_o_1 P) (q102 P) (q111 P)) (N (boot_o_2 P) (q120 P) (q129 P)))
def q130:BT:=N o1 (N o37 (N o3 (M (o72 P)) (M o1)) (N o56 (M o148) (M o61))) (N o56 (N (o105 P) (M o56) (M o126)) (N o3 (M o54) (M o43)))
def q131:BT:=N o54 (N o3 (N o56 (M o3) (M o3)) (N (o284 P) (M o173) (M o15))) (N (o256 P) (N o3 (M (o207 P)) (M o69)) (J o56 (M o179)))
def q132:BT:=N o298 (N o56 (N (o206 P) (M o56) (M o155)) (N o3 (M o3) (M o243))) (N o3 (N o56 (M o3) (M o3)) (J (o92 P) (M o32)))
def q133:BT:=N o136 (N (o276 P) (N o3 (M (o71 P)) (M o1)) (N o56 (M o53) (M o3))) (N o56 (N (o295 P) (M o56) (M o195)) (J o3 (M o3)))
def q134:BT:=N o269 (N o244 (N o36 (M o279) (M o185)) (N (o19 P) (M o235) (M o3))) (N (o196 P) (N o164 (M (o76 P)) (M o231)) (J o60 (M o1)))
def q135:BT:=N o1 (N o193 (N (o178 P) (M o62) (M o194)) (N o255 (M o184) (M o41))) (N o236 (N o100 (M o278) (M o1)) (J (o98 P) (M o66)))
def q136:BT:=N o254 (N (o221 P) (N o112 (M (o280 P)) (M o33)) (N o165 (M o1) (M o1))) (N o122 (N (o183 P) (M o58) (M o1)) (J o240 (M o1)))
def q137:BT:=N o1 (N o290 (N o140 (M o5) (M o189)) (N (o18 P) (M o156) (M o1))) (N (o226 P) (N o149 (M (o74 P)) (M o90)) (J o34 (M o174)))
def q138:BT:=N (boot_o_1 P) (N (o77 P) (N (boot_o_7 P) (q130 P) (q131 P)) (N o1 (q132 P) (q133 P))) (N (boot_o_5 P) (N (boot_o_9 P) (q134 P) (q135 P)) (N o153 (q136 P) (q137 P)))
def q139:BT:=N o3 (N o97 (N o160 (M o203) (M o3)) (N o54 (M o228) (M o1))) (N o54 (N o215 (M o54) (M o198)) (N o154 (M (o176 P)) (M o188)))
def q140:BT:=N (o272 P) (N o124 (N o54 (M o296) (M o281)) (N o12 (M o225) (M o139))) (N o263 (N o217 (M o25) (M o260)) (J o54 (M o121)))
def q141:BT:=N o152 (N o54 (N o267 (M o54) (M o127)) (N o216 (M o241) (M o227))) (N o102 (N o54 (M o275) (M o109)) (J o44 (M o248)))
def q142:BT:=N o120 (N o13 (N o257 (M o87) (M o3)) (N o54 (M o31) (M o187))) (N o54 (N o238 (M o54) (M o1)) (J o70 (M o168)))
def q143:BT:=N o1 (N o40 (N o1 (M o88) (M o1)) (N o1 (M o1) (M o132))) (N o1 (N o186 (M o1) (M o1)) (J o1 (M o3)))
def q144:BT:=N o3 (N o1 (N o1 (M o1) (M o161)) (N o294 (M (o182 P)) (M o1))) (N o68 (N o1 (M o147) (M o3)) (J o1 (M o1)))
def q145:BT:=N o83 (N o1 (N o233 (M o1) (M o1)) (N o1 (M o239) (M o3))) (N o1 (N o1 (M o1) (M o0)) (J o119 (M (o291 P))))
def q146:BT:=N (o22 P) (N o224 (N o1 (M o169) (M o1)) (N o1 (M o56) (M o45))) (N o1 (N o234 (M o1) (M o48)) (J o1 (M o249)))
def q147:BT:=N (boot_o_2 P) (N (boot_o_4 P) (N (boot_o_8 P) (q139 P) (q140 P)) (N o16 q141 q142)) (N (boot_o_6 P) (N (boot_o_10 P) q143 (q144 P)) (N o78 (q145 P) (q146 P)))
def t314 (P:Params):BT:=(N (boot_o_0 P) (q138 P) (q147 P))
def q148:BT:=N (o268 P) (N (boot_o_7 P) (N o1 (M o181) (M o56)) (N o54 (M o3) (M (o256 P)))) (N o1 (N o298 (M o56) (M o3)) (J o136 (M (o276 P))))
def q149:BT:=N (boot_o_5 P) (N (boot_o_9 P) (N o269 (M o244) (M (o196 P))) (N o1 (M o193) (M o236))) (N o153 (N o254 (M (o221 P)) (M o122)) (J o1 (M o290)))
def q150:BT:=N (boot_o_4 P) (N (boot_o_8 P) (N o3 (M o97) (M o54)) (N (o272 P) (M o124) (M o263))) (N o253 (N o152 (M o54) (M o102)) (J o120 (M o13)))
def q151:BT:=N (boot_o_6 P) (N (boot_o_10 P) (N o1 (M o40) (M o1)) (N o3 (M o1) (M o68))) (N o78 (N o83 (M o1) (M o1)) (J (o22 P) (M o224)))
def t100 (P:Params):BT:=(N (boot_o_0 P) (N (boot_o_1 P) (q148 P) (q149 P)) (N (boot_o_2 P) (q150 P) (q151 P)))
def e510_0 (P:Params) (t:List Obj):List Obj:=(boot_o_0 P) :: (boot_o_1 P) :: (boot_o_2 P) :: (o283 P) :: (boot_o_4 P) :: (boot_o_5 P) :: (boot_o_6 P) :: (boot_o_7 P) :: (boot_o_8 P) :: (boot_o_9 P) :: (boot_o_10 P) :: o1 :: o47 :: o153 :: o78 :: t
def e510_1 (P:Params) (t:List Obj):List Obj:=o1 :: o3 :: o269 :: o1 :: o298 :: o152 :: o254 :: o83 :: o54 :: (o272 P) :: o1 :: o3 :: o136 :: o120 :: o1 :: t
def e510_2 (P:Params) (t:List Obj):List Obj:=(o22 P) :: o37 :: o97 :: o244 :: o40 :: o56 :: o54 :: (o221 P) :: o1 :: o3 :: o124 :: o193 :: o1 :: (o276 P) :: o13 :: t
def e510_3 (P:Params) (t:List Obj):List Obj:=o290 :: o224 :: o56 :: o54 :: (o196 P) :: o1 :: o3 :: o102 :: o122 :: o1 :: (o256 P) :: o263 :: o236 :: o68 :: o56 :: t
def e510_4 (P:Params) (t:List Obj):List Obj:=o54 :: (o226 P) :: o1 :: o3 :: o160 :: o36 :: o1 :: (o206 P) :: o267 :: o112 :: o233 :: o56 :: o54 :: (o178 P) :: o1 :: t
def e510_5 (P:Params) (t:List Obj):List Obj:=o3 :: o257 :: o140 :: o1 :: (o105 P) :: o215 :: o164 :: o186 :: o56 :: o54 :: (o183 P) :: o1 :: o3 :: o217 :: o100 :: t
def e510_6 (P:Params) (t:List Obj):List Obj:=o1 :: (o295 P) :: o238 :: o149 :: o234 :: o56 :: o54 :: (o19 P) :: o1 :: o3 :: o216 :: o165 :: o1 :: (o284 P) :: o12 :: t
def e510_7 (P:Params) (t:List Obj):List Obj:=o255 :: o294 :: o56 :: o54 :: (o18 P) :: o1 :: o3 :: o154 :: o60 :: o1 :: (o92 P) :: o44 :: o240 :: o119 :: o56 :: t
def e510_8 (P:Params) (t:List Obj):List Obj:=o54 :: (o98 P) :: o1 :: o3 :: o70 :: o34 :: o1 :: (o72 P) :: o203 :: o279 :: o88 :: o56 :: o54 :: (o280 P) :: o1 :: t
def e510_9 (P:Params) (t:List Obj):List Obj:=o3 :: o296 :: o62 :: o1 :: (o71 P) :: o87 :: o5 :: o169 :: o56 :: o54 :: (o76 P) :: o1 :: o3 :: o275 :: o58 :: t
def e510_10 (P:Params) (t:List Obj):List Obj:=o1 :: (o207 P) :: o25 :: o278 :: o147 :: o56 :: o54 :: (o74 P) :: o1 :: o148 :: o228 :: o235 :: o1 :: o3 :: o241 :: t
def e510_11 (P:Params) (t:List Obj):List Obj:=o1 :: o239 :: o173 :: o225 :: o184 :: (o182 P) :: o53 :: o31 :: o156 :: o56 :: o54 :: (o176 P) :: o1 :: o3 :: o32 :: t
def e510_12 (P:Params) (t:List Obj):List Obj:=o248 :: o1 :: (o291 P) :: o179 :: o121 :: o66 :: o1 :: o3 :: o168 :: o174 :: o249 :: o1 :: o3 :: o185 :: o1 :: t
def e510_13 (P:Params) (t:List Obj):List Obj:=o155 :: o127 :: o33 :: o1 :: o3 :: o281 :: o194 :: o161 :: o1 :: o3 :: o189 :: o1 :: o126 :: o198 :: o231 :: t
def e510_14 (P:Params) (t:List Obj):List Obj:=o1 :: o3 :: o109 :: o1 :: o0 :: o69 :: o260 :: o1 :: o3 :: o195 :: o1 :: o90 :: o48 :: o61 :: o1 :: t
def e510_15 (P:Params) (t:List Obj):List Obj:=o3 :: o132 :: o243 :: o227 :: o1 :: o3 :: o15 :: o139 :: o41 :: o1 :: o3 :: o187 :: o1 :: o45 :: o43 :: t
def e510_16 (P:Params) (t:List Obj):List Obj:=o188 :: o1 :: o54 :: (o39 P) :: o1 :: o264 :: o125 :: o111 :: o1 :: o3 :: o118 :: o57 :: o252 :: o1 :: o3 :: t
def e510_17 (P:Params) (t:List Obj):List Obj:=o73 :: o1 :: o270 :: o163 :: o65 :: o1 :: o3 :: o81 :: o1 :: o26 :: o29 :: o157 :: o1 :: o3 :: o192 :: t
def e510_18 (P:Params) (t:List Obj):List Obj:=o1 :: o63 :: o159 :: o116 :: o1 :: o3 :: o91 :: o1 :: o2 :: o107 :: o24 :: o1 :: o3 :: o247 :: o1 :: t
def e510_19 (P:Params) (t:List Obj):List Obj:=o222 :: o50 :: o262 :: o1 :: o3 :: o273 :: o1 :: o167 :: o251 :: o52 :: o30 :: (o38 P) :: o108 :: o265 :: o130 :: t
def e510_20 (P:Params) (t:List Obj):List Obj:=o67 :: o158 :: o1 :: o3 :: o51 :: o1 :: o144 :: o21 :: o223 :: o1 :: o3 :: o166 :: o1 :: o141 :: o286 :: t
def e510_21 (P:Params) (t:List Obj):List Obj:=o134 :: o1 :: o3 :: o210 :: o1 :: o287 :: o113 :: o84 :: o1 :: o3 :: o146 :: o1 :: o274 :: o75 :: o82 :: t
def e510_22 (P:Params) (t:List Obj):List Obj:=o1 :: o3 :: o131 :: o1 :: o242 :: o213 :: o258 :: o1 :: o3 :: o250 :: o1 :: o191 :: o289 :: o180 :: o1 :: t
def e510_23 (P:Params) (t:List Obj):List Obj:=o3 :: o23 :: o1 :: o246 :: o177 :: o293 :: o1 :: o3 :: o145 :: o1 :: o212 :: o219 :: o123 :: o1 :: o3 :: t
def e510_24 (P:Params) (t:List Obj):List Obj:=o285 :: o1 :: o288 :: o150 :: o80 :: o1 :: o3 :: o55 :: o114 :: o110 :: o1 :: o3 :: o27 :: o218 :: o14 :: t
def e510_25 (P:Params) (t:List Obj):List Obj:=o1 :: o3 :: o64 :: o1 :: o214 :: o20 :: o197 :: o1 :: o3 :: o170 :: o1 :: o99 :: o205 :: o85 :: o1 :: t
def e510_26 (P:Params) (t:List Obj):List Obj:=o3 :: o232 :: o142 :: o143 :: o1 :: o3 :: o86 :: o1 :: o101 :: o10 :: o282 :: o1 :: o3 :: o237 :: o133 :: t
def e510_27 (P:Params) (t:List Obj):List Obj:=o190 :: o1 :: o3 :: o28 :: o103 :: o8 :: o1 :: o3 :: o79 :: o1 :: o59 :: o245 :: o199 :: o1 :: o3 :: t
def e510_28 (P:Params) (t:List Obj):List Obj:=o104 :: o1 :: o201 :: o89 :: o17 :: o1 :: o3 :: o259 :: o115 :: o266 :: t
noncomputable def e510 (P:Params):Heap:=⟨⟨(e510_0 P (e510_1 P (e510_2 P (e510_3 P (e510_4 P (e510_5 P (e510_6 P (e510_7 P (e510_8 P (e510_9 P (e510_10 P (e510_11 P (e510_12 P (e510_13 P (e510_14 P (e510_15 P (e510_16 P (e510_17 P (e510_18 P (e510_19 P (e510_20 P (e510_21 P (e510_22 P (e510_23 P (e510_24 P (e510_25 P (e510_26 P (e510_27 P (e510_28 P [])))))))))))))))))))))))))))))⟩,⟨[],[],[],0,[],[],false,#[],[],0,false,false,false,0,[2000,10,10],false,0,true,[],[],0,false⟩⟩
def q152:BT:=N (o94 P) (N (boot_o_7 P) (N o1 (J o49 (M o3)) (M o56)) (N o54 (M o3) (M (o256 P)))) (N o1 (N o298 (J o56 (M (o206 P))) (M o3)) (N o136 (M (o276 P)) (M o56)))
def q153:BT:=N (boot_o_5 P) (N (boot_o_9 P) (N o269 (J o244 (M o36)) (M (o196 P))) (N o1 (M o193) (M o236))) (N o153 (N o254 (J (o221 P) (M o112)) (M o122)) (N o1 (M o290) (M (o226 P))))
def q154:BT:=N (boot_o_4 P) (N (boot_o_8 P) (N o3 (J o97 (M o160)) (M o54)) (N (o272 P) (M o124) (M o263))) (N o200 (N o152 (J o54 (M o267)) (M o102)) (N o120 (M o13) (M o54)))
def q155:BT:=N (boot_o_6 P) (N (boot_o_10 P) (N o1 (J o40 (M o1)) (M o1)) (N o3 (M o1) (M o68))) (N o78 (N o83 (J o1 (M o233)) (M o1)) (N (o22 P) (M o224) (M o1)))
def t115 (P:Params):BT:=(N (boot_o_0 P) (N (boot_o_1 P) (q152 P) (q153 P)) (N (boot_o_2 P) (q154 P) (q155 P)))
def e46_0 (P:Params) (t:List Obj):List Obj:=(boot_o_0 P) :: (boot_o_1 P) :: (boot_o_2 P) :: (boot_o_3 P) :: (boot_o_4 P) :: (boot_o_5 P) :: (boot_o_6 P) :: (boot_o_7 P) :: (boot_o_8 P) :: (boot_o_9 P) :: (boot_o_10 P) :: o1 :: o3 :: o153 :: o78 :: t
noncomputable def e46 (P:Params):Heap:=⟨⟨(e46_0 P [])⟩,⟨[],[],[],0,[],[],false,#[],[],0,false,false,false,0,[2000,10,10],false,0,true,[],[],0,false⟩⟩
def q156:BT:=N o37 (N o3 (N (o72 P) (M o73) (M o3)) (J o1 (M o1))) (N o56 (N o148 (M o262) (M o59)) (J o61 (M o1)))
def q157:BT:=N o56 (N (o105 P) (N o56 (M o63) (M o10)) (J o126 (M o213))) (N o3 (J o54 (M o3)) (J o43 (M o55)))
def q158:BT:=N o3 (N o56 (N o3 (M o1) (M o232)) (J o3 (M o274))) (N (o284 P) (N o173 (M o30) (M o89)) (J o15 (M o3)))
def q159:BT:=N (o256 P) (N o3 (N (o207 P) (M o107) (M o3)) (J o69 (M o180))) (N o56 (J o179 (M o166)) (J o111 (M o1)))
def q160:BT:=N o56 (N (o206 P) (N o56 (M o65) (M o205)) (J o155 (M o1))) (N o3 (N o3 (M o1) (M o3)) (J o243 (M o212)))
def q161:BT:=N o3 (N o56 (N o3 (M o3) (M o237)) (J o3 (M o250))) (N (o92 P) (J o32 (M o21)) (J (o39 P) (M o3)))
def q162:BT:=N (o276 P) (N o3 (N (o71 P) (M o1) (M o3)) (J o1 (M o3))) (N o56 (N o53 (M o130) (M o259)) (J o3 (M o150)))
def q163:BT:=N o56 (N (o295 P) (N o56 (M o247) (M o1)) (J o195 (M o1))) (N o3 (J o3 (M o134)) (J o57 (M o214)))
def q164:BT:=N (o283 P) (N (boot_o_7 P) (N o1 (q156 P) (q157 P)) (N o54 (q158 P) (q159 P))) (N o1 (N o298 (q160 P) (q161 P)) (N o136 (q162 P) (q163 P)))
def q165:BT:=N o244 (N o36 (N o279 (M o270) (M o1)) (J o185 (M o113))) (N (o19 P) (N o235 (M o3) (M o199)) (J o3 (M o145)))
def q166:BT:=N (o196 P) (N o164 (N (o76 P) (M o116) (M o1)) (J o231 (M o1))) (N o60 (J o1 (M o1)) (J o1 (M o110)))
def q167:BT:=N o193 (N (o178 P) (N o62 (M o29) (M o143)) (J o194 (M o82))) (N o255 (N o184 (M o108) (M o1)) (J o41 (M o1)))
def q168:BT:=N o236 (N o100 (N o278 (M o1) (M o103)) (J o1 (M o3))) (N (o98 P) (J o66 (M o141)) (J o3 (M o64)))
def q169:BT:=N (o221 P) (N o112 (N (o280 P) (M o3) (M o1)) (J o33 (M o146))) (N o165 (N o1 (M o251) (M o1)) (J o1 (M o123)))
def q170:BT:=N o122 (N (o183 P) (N o58 (M o1) (M o190)) (J o1 (M o191))) (N o240 (J o1 (M o1)) (J o264 (M o218)))
def q171:BT:=N o290 (N o140 (N o5 (M o192) (M o1)) (J o189 (M o1))) (N (o18 P) (N o156 (M o158) (M o266)) (J o1 (M o1)))
def q172:BT:=N (o226 P) (N o149 (N (o74 P) (M o222) (M o79)) (J o90 (M o177))) (N o34 (J o174 (M o3)) (J o1 (M o197)))
def q173:BT:=N (boot_o_5 P) (N (boot_o_9 P) (N o269 (q165 P) (q166 P)) (N o1 (q167 P) (q168 P))) (N o153 (N o254 (q169 P) (q170 P)) (N o1 (q171 P) (q172 P)))
def q174:BT:=N o97 (N o160 (N o203 (M o1) (M o170)) (J o3 (M o287))) (N o54 (N o228 (M o1) (M o245)) (J o1 (M o3)))
def q175:BT:=N o54 (N o215 (N o54 (M o159) (M o282)) (J o198 (M o258))) (N o154 (J (o176 P) (M o51)) (J o188 (M o114)))
def q176:BT:=N o124 (N o54 (N o296 (M o26) (M o142)) (J o281 (M o75))) (N o12 (N o225 (M (o38 P)) (M o17)) (J o139 (M o285)))
def q177:BT:=N o263 (N o217 (N o25 (M o24) (M o28)) (J o260 (M o1))) (N o54 (J o121 (M o1)) (J o1 (M o3)))
def q178:BT:=N o54 (N o267 (N o54 (M o1) (M o85)) (J o127 (M o3))) (N o216 (N o241 (M o167) (M o104)) (J o227 (M o219)))
def q179:BT:=N o102 (N o54 (N o275 (M o91) (M o133)) (J o109 (M o1))) (N o44 (J o248 (M o223)) (J o1 (M o27)))
def q180:BT:=N o13 (N o257 (N o87 (M o3) (M o86)) (J o3 (M o131))) (N o54 (N o31 (M o67) (M o115)) (J o187 (M o80)))
def q181:BT:=N o54 (N o238 (N o54 (M o1) (M o3)) (J o1 (M o246))) (N o70 (J o168 (M o1)) (J o252 (M o20)))
def q182:BT:=N (boot_o_4 P) (N (boot_o_8 P) (N o3 q174 (q175 P)) (N (o272 P) (q176 P) q177)) (N o47 (N o152 q178 q179) (N o120 q180 q181))
def q183:BT:=N o40 (N o1 (N o88 (M o163) (M o99)) (J o1 (M o84))) (N o1 (N o1 (M o273) (M o1)) (J o132 (M o1)))
def q184:BT:=N o1 (N o186 (N o1 (M o1) (M o3)) (J o1 (M o3))) (N o1 (J o3 (M o144)) (J o54 (M o1)))
def q185:BT:=N o1 (N o1 (N o1 (M o157) (M o1)) (J o161 (M o1))) (N o294 (N (o182 P) (M o265) (M o3)) (J o1 (M o288)))
def q186:BT:=N o68 (N o1 (N o147 (M o3) (M o8)) (J o3 (M o23))) (N o1 (J o1 (M o286)) (J o118 (M o1)))
def q187:BT:=N o1 (N o233 (N o1 (M o81) (M o3)) (J o1 (M o1))) (N o1 (N o239 (M o52) (M o201)) (J o3 (M o1)))
def q188:BT:=N o1 (N o1 (N o1 (M o2) (M o1)) (J o0 (M o289))) (N o119 (J (o291 P) (M o3)) (J o125 (M o14)))
def q189:BT:=N o224 (N o1 (N o169 (M o1) (M o101)) (J o1 (M o242))) (N o1 (J o56 (M o1)) (J o45 (M o3)))
def q190:BT:=N o1 (N o234 (N o1 (M o50) (M o1)) (J o48 (M o293))) (N o1 (J o249 (M o210)) (J o3 (M o1)))
def q191:BT:=N (boot_o_6 P) (N (boot_o_10 P) (N o1 q183 q184) (N o3 (q185 P) q186)) (N o78 (N o83 q187 (q188 P)) (N (o22 P) q189 q190))
def t509 (P:Params):BT:=(N (boot_o_0 P) (N (boot_o_1 P) (q164 P) (q173 P)) (N (boot_o_2 P) (q182 P) (q191 P)))
def q192:BT:=N (boot_o_7 P) (N o1 (J o95 (M o3)) (J o56 (M (o105 P)))) (N o54 (J o3 (M o56)) (J (o256 P) (M o3)))
def q193:BT:=N o1 (N o298 (J o56 (M (o206 P))) (J o3 (M o56))) (N o136 (J (o276 P) (M o3)) (J o56 (M (o295 P))))
def q194:BT:=N (boot_o_9 P) (N o269 (J o244 (M o36)) (J (o196 P) (M o164))) (N o1 (J o193 (M (o178 P))) (J o236 (M o100)))
def q195:BT:=N o153 (N o254 (J (o221 P) (M o112)) (J o122 (M (o183 P)))) (N o1 (J o290 (M o140)) (J (o226 P) (M o149)))
def q196:BT:=N (boot_o_8 P) (N o3 (J o97 (M o160)) (J o54 (M o215))) (N (o272 P) (J o124 (M o54)) (J o263 (M o217)))
def q197:BT:=N o230 (N o152 (J o54 (M o267)) (J o102 (M o54))) (N o120 (J o13 (M o257)) (J o54 (M o238)))
def q198:BT:=N (boot_o_10 P) (N o1 (J o40 (M o1)) (J o1 (M o186))) (N o3 (J o1 (M o1)) (J o68 (M o1)))
def q199:BT:=N o78 (N o83 (J o1 (M o233)) (J o1 (M o1))) (N (o22 P) (J o224 (M o1)) (J o1 (M o234)))
def q200:BT:=N (boot_o_0 P) (N (boot_o_1 P) (N (o7 P) (q192 P) (q193 P)) (N (boot_o_5 P) (q194 P) (q195 P))) (N (boot_o_2 P) (N (boot_o_4 P) (q196 P) q197) (N (boot_o_6 P) (q198 P) (q199 P)))
def t145 (P:Params):BT:=(q200 P)
def q201:BT:=N (boot_o_7 P) (N o1 (N o42 (M o3) (M o56)) (J o56 (M (o105 P)))) (N o54 (N o3 (M o56) (M (o284 P))) (J (o256 P) (M o3)))
def q202:BT:=N o1 (N o298 (N o56 (M (o206 P)) (M o3)) (J o3 (M o56))) (N o136 (J (o276 P) (M o3)) (J o56 (M (o295 P))))
def q203:BT:=N (boot_o_9 P) (N o269 (N o244 (M o36) (M (o19 P))) (J (o196 P) (M o164))) (N o1 (N o193 (M (o178 P)) (M o255)) (J o236 (M o100)))
def q204:BT:=N o153 (N o254 (N (o221 P) (M o112) (M o165)) (J o122 (M (o183 P)))) (N o1 (J o290 (M o140)) (J (o226 P) (M o149)))
def q205:BT:=N (boot_o_8 P) (N o3 (N o97 (M o160) (M o54)) (J o54 (M o215))) (N (o272 P) (N o124 (M o54) (M o12)) (J o263 (M o217)))
def q206:BT:=N o138 (N o152 (N o54 (M o267) (M o216)) (J o102 (M o54))) (N o120 (J o13 (M o257)) (J o54 (M o238)))
def q207:BT:=N (boot_o_10 P) (N o1 (N o40 (M o1) (M o1)) (J o1 (M o186))) (N o3 (N o1 (M o1) (M o294)) (J o68 (M o1)))
def q208:BT:=N o78 (N o83 (N o1 (M o233) (M o1)) (J o1 (M o1))) (N (o22 P) (J o224 (M o1)) (J o1 (M o234)))
def q209:BT:=N (boot_o_0 P) (N (boot_o_1 P) (N (o297 P) (q201 P) (q202 P)) (N (boot_o_5 P) (q203 P) (q204 P))) (N (boot_o_2 P) (N (boot_o_4 P) (q205 P) q206) (N (boot_o_6 P) (q207 P) (q208 P)))
def t160 (P:Params):BT:=(q209 P)
def q210:BT:=N (boot_o_7 P) (N o1 (J o292 (M o3)) (J o56 (M (o105 P)))) (N o54 (J o3 (M o56)) (M (o256 P)))
def q211:BT:=N (o151 P) (q210 P) (N o1 (N o298 (J o56 (M (o206 P))) (M o3)) (N o136 (J (o276 P) (M o3)) (M o56)))
def q212:BT:=N (boot_o_9 P) (N o269 (J o244 (M o36)) (J (o196 P) (M o164))) (N o1 (J o193 (M (o178 P))) (M o236))
def q213:BT:=N (boot_o_5 P) (q212 P) (N o153 (N o254 (J (o221 P) (M o112)) (M o122)) (N o1 (J o290 (M o140)) (M (o226 P))))
def q214:BT:=N (boot_o_8 P) (N o3 (J o97 (M o160)) (J o54 (M o215))) (N (o272 P) (J o124 (M o54)) (M o263))
def q215:BT:=N (boot_o_4 P) (q214 P) (N o93 (N o152 (J o54 (M o267)) (M o102)) (N o120 (J o13 (M o257)) (M o54)))
def q216:BT:=N (boot_o_10 P) (N o1 (J o40 (M o1)) (J o1 (M o186))) (N o3 (J o1 (M o1)) (M o68))
def q217:BT:=N (boot_o_6 P) (q216 P) (N o78 (N o83 (J o1 (M o233)) (M o1)) (N (o22 P) (J o224 (M o1)) (M o1)))
def t130 (P:Params):BT:=(N (boot_o_0 P) (N (boot_o_1 P) (q211 P) (q213 P)) (N (boot_o_2 P) (q215 P) (q217 P)))
def q218:BT:=N (boot_o_1 P) (N (o117 P) (N (boot_o_7 P) (J o1 (M o261)) (M o54)) (N o1 (M o298) (M o136))) (N (boot_o_5 P) (N (boot_o_9 P) (J o269 (M o244)) (M o1)) (N o153 (M o254) (M o1)))
def q219:BT:=N (boot_o_2 P) (N (boot_o_4 P) (N (boot_o_8 P) (J o3 (M o97)) (M (o272 P))) (N o11 (M o152) (M o120))) (N (boot_o_6 P) (N (boot_o_10 P) (J o1 (M o40)) (M o3)) (N o78 (M o83) (M (o22 P))))
def t70 (P:Params):BT:=(N (boot_o_0 P) (q218 P) (q219 P))
def q220:BT:=N (boot_o_0 P) (N (boot_o_1 P) (N (boot_o_3 P) (M (boot_o_7 P)) (M o1)) (N (boot_o_5 P) (M (boot_o_9 P)) (M o153))) (N (boot_o_2 P) (N (boot_o_4 P) (M (boot_o_8 P)) (M o3)) (N (boot_o_6 P) (M (boot_o_10 P)) (M o78)))
def t47 (P:Params):BT:=(q220 P)
def vw:Program:=PySem.W.view PySem.Challenge.pw_treeright_k83_tree_texts_spoilt [0,2,3,4,5,6,7,8,9,10,11,12,13,14,16,17,18,19,20,21,22,23,24,25,26,27,29,30,31,32,33,34,36,37,38,39,40,41,42,43,44,45,46,47,48,49]
noncomputable def s49:List Stmt:=(PySem.Challenge.pw_treeright_k83_tree_texts_spoilt.main.body.drop 0).take 3
noncomputable def s71:List Stmt:=(PySem.Challenge.pw_treeright_k83_tree_texts_spoilt.main.body.drop 3).take 1
noncomputable def s86:List Stmt:=(PySem.Challenge.pw_treeright_k83_tree_texts_spoilt.main.body.drop 4).take 1
noncomputable def s101:List Stmt:=(PySem.Challenge.pw_treeright_k83_tree_texts_spoilt.main.body.drop 5).take 1
noncomputable def s116:List Stmt:=(PySem.Challenge.pw_treeright_k83_tree_texts_spoilt.main.body.drop 6).take 1
noncomputable def s131:List Stmt:=(PySem.Challenge.pw_treeright_k83_tree_texts_spoilt.main.body.drop 7).take 1
noncomputable def s146:List Stmt:=(PySem.Challenge.pw_treeright_k83_tree_texts_spoilt.main.body.drop 8).take 1
noncomputable def s161:List Stmt:=(PySem.Challenge.pw_treeright_k83_tree_texts_spoilt.main.body.drop 9).take 1
noncomputable def s176:List Stmt:=(PySem.Challenge.pw_treeright_k83_tree_texts_spoilt.main.body.drop 10).take 1
noncomputable def s191:List Stmt:=(PySem.Challenge.pw_treeright_k83_tree_texts_spoilt.main.body.drop 11).take 1
noncomputable def s206:List Stmt:=(PySem.Challenge.pw_treeright_k83_tree_texts_spoilt.main.body.drop 12).take 1
noncomputable def s221:List Stmt:=(PySem.Challenge.pw_treeright_k83_tree_texts_spoilt.main.body.drop 13).take 1
noncomputable def s243:List Stmt:=(PySem.Challenge.pw_treeright_k83_tree_texts_spoilt.main.body.drop 14).take 9
noncomputable def s289:List Stmt:=(PySem.Challenge.pw_treeright_k83_tree_texts_spoilt.main.body.drop 23).take 4
noncomputable def s315:List Stmt:=(PySem.Challenge.pw_treeright_k83_tree_texts_spoilt.main.body.drop 27).take 1
noncomputable def s378:List Stmt:=(PySem.Challenge.pw_treeright_k83_tree_texts_spoilt.main.body.drop 28).take 14
noncomputable def s460:List Stmt:=(PySem.Challenge.pw_treeright_k83_tree_texts_spoilt.main.body.drop 42).take 8
end HD
end
namespace PySem.W.Fast
noncomputable def tw14598715356260435866:Unit:=()
noncomputable def tw12831946366807014121:Unit:=()
noncomputable def tw2505294214074580061:Unit:=()
noncomputable def tw1184825839854068080:Unit:=()
noncomputable def tw16963627058361203756:Unit:=()
noncomputable def tw4063309880790847132:Unit:=()
noncomputable def tw16335552587211677449:Unit:=()
noncomputable def tw1921148480499289173:Unit:=()
noncomputable def tw8219606844568596651:Unit:=()
noncomputable def tw1564543192828473526:Unit:=()
noncomputable def tw9434032782923581289:Unit:=()
noncomputable def tw3094701115853657799:Unit:=()
end PySem.W.Fast
lay_quick PySem.Challenge.pw_treeright_k83_tree_texts_spoilt
lay_quick HD.t190
lay_quick HD.t377
lay_quick HD.t85
lay_quick HD.t220
lay_quick HD.t242
lay_quick HD.t175
lay_quick HD.t288
lay_quick HD.t205
lay_quick HD.t459
lay_quick HD.t314
lay_quick HD.t100
lay_quick HD.e510
lay_quick HD.t115
lay_quick HD.e46
lay_quick HD.t509
lay_quick HD.t145
lay_quick HD.t160
lay_quick HD.t130
lay_quick HD.t70
lay_quick HD.t47
namespace PySem.W.Fast
noncomputable def tw11224283036561675971:Params->BT:=tw2067825850252802259
theorem te11224283036561675971:HD.t190=tw11224283036561675971:=te2067825850252802259
noncomputable def tw6553995611121072902:Params->BT:=tw638310350545466884
theorem te6553995611121072902:HD.t377=tw6553995611121072902:=te638310350545466884
noncomputable def tw2294854397974045510:Params->BT:=tw2036878166784380086
theorem te2294854397974045510:HD.t85=tw2294854397974045510:=te2036878166784380086
noncomputable def tw6364832225403335943:Params->BT:=tw17152881445362334774
theorem te6364832225403335943:HD.t220=tw6364832225403335943:=te17152881445362334774
noncomputable def tw16029188298635462215:Params->BT:=tw9221785693231611341
theorem te16029188298635462215:HD.t242=tw16029188298635462215:=te9221785693231611341
noncomputable def tw4631843929112630505:Params->BT:=tw920612414741421765
theorem te4631843929112630505:HD.t175=tw4631843929112630505:=te920612414741421765
noncomputable def tw16798657068305975370:Params->BT:=tw14302309412702635825
theorem te16798657068305975370:HD.t288=tw16798657068305975370:=te14302309412702635825
noncomputable def tw11268533821286410027:Params->BT:=tw14164315333175427251
theorem te11268533821286410027:HD.t205=tw11268533821286410027:=te14164315333175427251
noncomputable def tw578428293655381803:Params->BT:=tw13952461720577371332
theorem te578428293655381803:HD.t459=tw578428293655381803:=te13952461720577371332
noncomputable def tw15536353622773388428:Params->BT:=tw4566607602155527527
theorem te15536353622773388428:HD.t314=tw15536353622773388428:=te4566607602155527527
noncomputable def tw17546005709695080877:Params->BT:=tw11108817263175320385
theorem te17546005709695080877:HD.t100=tw17546005709695080877:=te11108817263175320385
noncomputable def tw17864714344178228398:Params->Heap:=tw17272884052516470162
theorem te17864714344178228398:HD.e510=tw17864714344178228398:=te17272884052516470162
noncomputable def tw15632388027458123374:Params->BT:=tw13006058816851964647
theorem te15632388027458123374:HD.t115=tw15632388027458123374:=te13006058816851964647
noncomputable def tw2257529940240947247:Params->Heap:=tw12643942650068612825
theorem te2257529940240947247:HD.e46=tw2257529940240947247:=te12643942650068612825
noncomputable def tw605771808569418449:Params->BT:=tw8223705843812965403
theorem te605771808569418449:HD.t509=tw605771808569418449:=te8223705843812965403
noncomputable def tw17888565902029391346:Params->BT:=tw14662557133790047758
theorem te17888565902029391346:HD.t145=tw17888565902029391346:=te14662557133790047758
noncomputable def tw2810533944269268182:Params->BT:=tw452476676235954211
theorem te2810533944269268182:HD.t160=tw2810533944269268182:=te452476676235954211
noncomputable def tw1292346606274980823:Params->BT:=tw7778535457881203485
theorem te1292346606274980823:HD.t130=tw1292346606274980823:=te7778535457881203485
noncomputable def tw877418901244307835:Params->BT:=tw4601978763475442059
theorem te877418901244307835:HD.t70=tw877418901244307835:=te4601978763475442059
noncomputable def tw804092199982636349:Params->BT:=tw12288697002581643564
theorem te804092199982636349:HD.t47=tw804092199982636349:=te12288697002581643564
noncomputable def tw1647960591809683682:PySem.Program:=PySem.W.view tw17809892555438485063 [0,2,3,4,5,6,7,8,9,10,11,12,13,14,16,17,18,19,20,21,22,23,24,25,26,27,29,30,31,32,33,34,36,37,38,39,40,41,42,43,44,45,46,47,48,49]
theorem te1647960591809683682:HD.vw=tw1647960591809683682:=congrArg (fun p:PySem.Program=>PySem.W.view p [0,2,3,4,5,6,7,8,9,10,11,12,13,14,16,17,18,19,20,21,22,23,24,25,26,27,29,30,31,32,33,34,36,37,38,39,40,41,42,43,44,45,46,47,48,49]) te17809892555438485063
noncomputable def tw16970792351503237766:List PySem.Stmt:=(tw17809892555438485063.main.body.drop 0).take 3
theorem te16970792351503237766:HD.s49=tw16970792351503237766:=congrArg (fun p:PySem.Program=>(p.main.body.drop 0).take 3) te17809892555438485063
noncomputable def tw7766378276201275438:List PySem.Stmt:=(tw17809892555438485063.main.body.drop 3).take 1
theorem te7766378276201275438:HD.s71=tw7766378276201275438:=congrArg (fun p:PySem.Program=>(p.main.body.drop 3).take 1) te17809892555438485063
noncomputable def tw9305391788130653963:List PySem.Stmt:=(tw17809892555438485063.main.body.drop 4).take 1
theorem te9305391788130653963:HD.s86=tw9305391788130653963:=congrArg (fun p:PySem.Program=>(p.main.body.drop 4).take 1) te17809892555438485063
noncomputable def tw12673549619886724666:List PySem.Stmt:=(tw17809892555438485063.main.body.drop 5).take 1
theorem te12673549619886724666:HD.s101=tw12673549619886724666:=congrArg (fun p:PySem.Program=>(p.main.body.drop 5).take 1) te17809892555438485063
noncomputable def tw14763428746477059428:List PySem.Stmt:=(tw17809892555438485063.main.body.drop 6).take 1
theorem te14763428746477059428:HD.s116=tw14763428746477059428:=congrArg (fun p:PySem.Program=>(p.main.body.drop 6).take 1) te17809892555438485063
noncomputable def tw8079883169468671255:List PySem.Stmt:=(tw17809892555438485063.main.body.drop 7).take 1
theorem te8079883169468671255:HD.s131=tw8079883169468671255:=congrArg (fun p:PySem.Program=>(p.main.body.drop 7).take 1) te17809892555438485063
noncomputable def tw15416708228241726627:List PySem.Stmt:=(tw17809892555438485063.main.body.drop 8).take 1
theorem te15416708228241726627:HD.s146=tw15416708228241726627:=congrArg (fun p:PySem.Program=>(p.main.body.drop 8).take 1) te17809892555438485063
noncomputable def tw14889595167817102546:List PySem.Stmt:=(tw17809892555438485063.main.body.drop 9).take 1
theorem te14889595167817102546:HD.s161=tw14889595167817102546:=congrArg (fun p:PySem.Program=>(p.main.body.drop 9).take 1) te17809892555438485063
noncomputable def tw9741163907969138060:List PySem.Stmt:=(tw17809892555438485063.main.body.drop 10).take 1
theorem te9741163907969138060:HD.s176=tw9741163907969138060:=congrArg (fun p:PySem.Program=>(p.main.body.drop 10).take 1) te17809892555438485063
noncomputable def tw3985506009949057970:List PySem.Stmt:=(tw17809892555438485063.main.body.drop 11).take 1
theorem te3985506009949057970:HD.s191=tw3985506009949057970:=congrArg (fun p:PySem.Program=>(p.main.body.drop 11).take 1) te17809892555438485063
noncomputable def tw17233677561841584812:List PySem.Stmt:=(tw17809892555438485063.main.body.drop 12).take 1
theorem te17233677561841584812:HD.s206=tw17233677561841584812:=congrArg (fun p:PySem.Program=>(p.main.body.drop 12).take 1) te17809892555438485063
noncomputable def tw959750476839503417:List PySem.Stmt:=(tw17809892555438485063.main.body.drop 13).take 1
theorem te959750476839503417:HD.s221=tw959750476839503417:=congrArg (fun p:PySem.Program=>(p.main.body.drop 13).take 1) te17809892555438485063
noncomputable def tw6692257562035669867:List PySem.Stmt:=(tw17809892555438485063.main.body.drop 14).take 9
theorem te6692257562035669867:HD.s243=tw6692257562035669867:=congrArg (fun p:PySem.Program=>(p.main.body.drop 14).take 9) te17809892555438485063
noncomputable def tw12336147652794031108:List PySem.Stmt:=(tw17809892555438485063.main.body.drop 23).take 4
theorem te12336147652794031108:HD.s289=tw12336147652794031108:=congrArg (fun p:PySem.Program=>(p.main.body.drop 23).take 4) te17809892555438485063
noncomputable def tw413777450799348740:List PySem.Stmt:=(tw17809892555438485063.main.body.drop 27).take 1
theorem te413777450799348740:HD.s315=tw413777450799348740:=congrArg (fun p:PySem.Program=>(p.main.body.drop 27).take 1) te17809892555438485063
noncomputable def tw1633059447890184522:List PySem.Stmt:=(tw17809892555438485063.main.body.drop 28).take 14
theorem te1633059447890184522:HD.s378=tw1633059447890184522:=congrArg (fun p:PySem.Program=>(p.main.body.drop 28).take 14) te17809892555438485063
noncomputable def tw16091438966089669509:List PySem.Stmt:=(tw17809892555438485063.main.body.drop 42).take 8
theorem te16091438966089669509:HD.s460=tw16091438966089669509:=congrArg (fun p:PySem.Program=>(p.main.body.drop 42).take 8) te17809892555438485063
end PySem.W.Fast
open_top head for PySem.Challenge.rw_treeright_k83_tree_texts_spoilt
end
namespace K83
open PySem L2
def FnK (K:PySem.W.Frag) (n q:Str) (st:Stmt) (f:Addr):Prop:=∃ (od an:Option Addr) (sl:Array (Option Value)) (oc kV dc pm cd ct:Value),K.lookup f=some ⟨oc,od,.func (PySem.W.fnOf n q (xE st) (yM st) (zF st) .none kV dc pm an cd ct),sl⟩/\PySem.W.codeIn K cd q=true/\PySem.W.keepIn K (.ref f)=true
def FgK (K:PySem.W.Frag) (n:Str) (st:Stmt):Prop:=∃ f,PySem.W.nsIn K mainGlobals n=some (some (.ref f))/\FnK K n n st f
def MtK (K:PySem.W.Frag) (C:Addr) (n q:Str) (st:Stmt):Prop:=∃ f,PySem.W.findIn K (.ref C) n=some (some (.ref f))/\PySem.W.isFn K (.ref f)=true/\FnK K n q st f
theorem zY {K:PySem.W.Frag} {h:Heap} {mg:Str->Option Value} {n:Str} {st:Stmt} {ps:List Str} (X:K.In h) (G:h.Ns mainGlobals mg) (l:FgK K n st)
  (hb:∀ (kV doc pm:Value) (an:Option Addr) (cdv ct:Value) (us:List Value),us.length=ps.length->bindArgs (PySem.W.fnOf n n (xE st) (yM st) (zF st) .none kV doc pm an cdv ct) ⟨us,[]⟩=pure (ps.zip us)):yD K mg n st ps:=by
 obtain ⟨f,a,od,an,sl,oc,kV,dc,pm,cd,ct,l,c,k⟩:=l
 exact zER X G a l c k hb
theorem dI {K:PySem.W.Frag} {C:Addr} {n q:Str} {st:Stmt} {ps:List Str} (l:MtK K C n q st)
  (hb:∀ (kV doc pm:Value) (an:Option Addr) (cdv ct:Value) (us:List Value),us.length=ps.length->bindArgs (PySem.W.fnOf n q (xE st) (yM st) (zF st) .none kV doc pm an cdv ct) ⟨us,[]⟩=pure (ps.zip us)):iF K C n q st ps:=by
 obtain ⟨f,a,i,od,an,sl,oc,kV,dc,pm,cd,ct,l,c,k⟩:=l
 exact zD8 a i l c k hb
structure ClK (K:PySem.W.Frag) (n:Str) (C:Addr):Prop where
 a:PySem.W.nsIn K mainGlobals n=some (some (.ref C))
 pg:PySem.W.plainGet K C Str.empty=true
 hd:PySem.W.hasDictIn K C=true
 po:PySem.W.plainOver K C=true
 sa:PySem.W.findIn K (.ref C) "__setattr__"=some (some (.builtin "object.__setattr__"))
 ms:PySem.W.makesIn K C=true
 kc:PySem.W.keepIn K (.ref C)=true
open PySem.W in
def zA0 (K:PySem.W.Frag) (C D fI:Addr):Bool:=lK K C fH "ValueError.__new__" fI && keepIn K (.ref C) && (specialIn K (.ref D) "__getattribute__" == some (some (.builtin "type.__getattribute__"))) && readsIn K D (.type "type") &&
 (findIn K (.ref C) "__setattr__" == some (some (.builtin "object.__setattr__"))) && ((clsIn K C).map (·.mro) == some (.ref C :: .ref D :: fH)) && (clsIn K C).any (·.hasDict) && (findIn K (.ref C) "line" == some none)
open PySem.W in
theorem zHR {K:PySem.W.Frag} {mg:Str->Option Value} {C D fI:Addr} (h:zA0 K C D fI=true) (hf:findCls K (.ref D) (.type "type") "__init__"=some (.val (.builtin "ValueError.__init__"))) (m1:mg "NoText"=some (.ref C)) (m2:mg "TreeError"=some (.ref D)):iH K mg "NoText" C fI/\zCH K mg "TreeError" D/\iD K C D "line":=by
 unfold zA0 at h
 simp only [Bool.and_eq_true,beq_iff_eq] at h
 obtain ⟨⟨⟨⟨⟨⟨⟨h1,h2⟩,h3⟩,h4⟩,h5⟩,h6⟩,h7⟩,h8⟩:=h
 exact ⟨⟨m1,h1,h2⟩,⟨m2,h3,h4,hf⟩,⟨h5,h6,h7,h8⟩⟩
theorem all_mk {l:PySem.W.OpenLaw} {w:World} {K:PySem.W.Frag} {h:Heap} {mg:Str->Option Value} {fa:Addr} (X:K.In h) (G:h.Ns mainGlobals mg) (hfa:mg "law"=some (.ref fa))
  {fL:Addr} {C:Addr} {t_LETTERS:Tok} {t_LONGEST_NAME:Tok} {x0:Addr} {x1:Addr} {x2:Addr} {x3:Addr} {x4:Addr} {x5:Addr} {x6:Addr} {x7:Addr} {x8:Addr} {x9:Addr} {x10:Addr} {x11:Addr} {x12:Addr} {fI:Addr}
  (l0:FgK K "is_name" kW)
  (l1:FgK K "is_one_of" mS)
  (l2:FgK K "are_names" jA)
  (l3:FgK K "are_unlike" zC3)
  (l4:FgK K "are_houses" eL)
  (l5:FgK K "is_tie" zC4)
  (l6:FgK K "are_ties" kZ)
  (l7:FgK K "tied_to_each" oS)
  (l8:FgK K "steps_toward" mR)
  (l9:FgK K "check_text" zDA)
  (l10:FgK K "rises" zC6)
  (l11:FgK K "closes_ring" zC9)
  (l12:FgK K "read_houses" zC8)
  (l13:FgK K "read_tie" zC7)
  (l14:FgK K "read_tree" eI)
  (l15:FgK K "_law_mixed" mU)
  (l16:FgK K "_law_digits" qI)
  (l17:FgK K "_law_next" eJ)
  (l18:FgK K "_law_word" kU)
  (l19:FgK K "_law_names" rD)
  (l20:FgK K "_law_shuffled" f9)
  (l21:FgK K "_law_tree" f7)
  (l22:FgK K "_law_tree_text" aN)
  (l23:FgK K "_law_spoilt" zC5)
  (l24:FgK K "_law_is_name" aO)
  (l25:FgK K "_law_due" sDu)
  (l26:FgK K "_law_read" sRe)
  (l27:FgK K "_law_is" sIs)
  (aL:PySem.W.nsIn K mainGlobals "law"=some (some (.ref fL))) (lL:FnK K "law" "law" kX fL)
  (k_C:ClK K "Tree" C)
  (mC0:MtK K C "__init__" "Tree.__init__" kY)
  (mC1:MtK K C "houses" "Tree.houses" qH)
  (mC2:MtK K C "ties" "Tree.ties" f8)
  (n_C_names:PySem.W.findIn K (.ref C) "names"=some none)
  (n_C_pairs:PySem.W.findIn K (.ref C) "pairs"=some none)
  (n_C_near:PySem.W.findIn K (.ref C) "near"=some none)
  (z_isinstance:PySem.W.nsIn K mainGlobals "isinstance"=some none)
  (z_str:PySem.W.nsIn K mainGlobals "str"=some none)
  (z_bool:PySem.W.nsIn K mainGlobals "bool"=some none)
  (z_len:PySem.W.nsIn K mainGlobals "len"=some none)
  (z_all:PySem.W.nsIn K mainGlobals "all"=some none)
  (z_list:PySem.W.nsIn K mainGlobals "list"=some none)
  (z_tuple:PySem.W.nsIn K mainGlobals "tuple"=some none)
  (z_set:PySem.W.nsIn K mainGlobals "set"=some none)
  (z_dict:PySem.W.nsIn K mainGlobals "dict"=some none)
  (z_sorted:PySem.W.nsIn K mainGlobals "sorted"=some none)
  (z_range:PySem.W.nsIn K mainGlobals "range"=some none)
  (z_enumerate:PySem.W.nsIn K mainGlobals "enumerate"=some none)
  (z_min:PySem.W.nsIn K mainGlobals "min"=some none)
  (z_max:PySem.W.nsIn K mainGlobals "max"=some none)
  (z_ValueError:PySem.W.nsIn K mainGlobals "ValueError"=some none)
  (g_LETTERS:PySem.W.nsIn K mainGlobals "LETTERS"=some (some (.str "abcdefghijklmnopqrstuvwxyz" t_LETTERS)))
  (g_LONGEST_NAME:PySem.W.nsIn K mainGlobals "LONGEST_NAME"=some (some (.int 8 t_LONGEST_NAME)))
  (aX_0:PySem.W.nsIn K mainGlobals "NoTree"=some (some (.ref x0)))
  (aX_1:PySem.W.nsIn K mainGlobals "NoHouse"=some (some (.ref x1)))
  (aX_2:PySem.W.nsIn K mainGlobals "NoSeat"=some (some (.ref x2)))
  (aX_3:PySem.W.nsIn K mainGlobals "NoAsker"=some (some (.ref x3)))
  (aX_4:PySem.W.nsIn K mainGlobals "NoLetter"=some (some (.ref x4)))
  (aX_5:PySem.W.nsIn K mainGlobals "NoRight"=some (some (.ref x5)))
  (aX_6:PySem.W.nsIn K mainGlobals "NoRow"=some (some (.ref x6)))
  (aX_7:PySem.W.nsIn K mainGlobals "NoTie"=some (some (.ref x7)))
  (aX_8:PySem.W.nsIn K mainGlobals "Down"=some (some (.ref x8)))
  (aX_9:PySem.W.nsIn K mainGlobals "NoMend"=some (some (.ref x9)))
  (aX_10:PySem.W.nsIn K mainGlobals "NoText"=some (some (.ref x10)))
  (aX_11:PySem.W.nsIn K mainGlobals "NoLine"=some (some (.ref x11)))
  (aX_12:PySem.W.nsIn K mainGlobals "TreeError"=some (some (.ref x12)))
  (xtab:pY K [x0,x1,x2,x3,x4,x5,x6,x7,x8,x9,x10,x11] x12=true)
  (xall:gP K [x0,x1,x2,x3,x4,x5,x6,x7,x8,x9,x10,x11]=true)
  (a_fI:PySem.W.findIn K (.ref x10) "__init__"=some (some (.ref fI)))
  (l_fI:FnK K "__init__" "NoText.__init__" sNI fI)
  (x_fc:PySem.W.findCls K (.ref x12) (.type "type") "__init__"=some (.val (.builtin "ValueError.__init__")))
  (x_fI:zA0 K x10 x12 fI=true) :
  ∃ fd:FuncData,(∀ (s:Shared) (v:Value),BindsTo s fd ⟨[v],[]⟩ [("_law_script",v)])/\∀ base:Heap,K.In base->base.Ns mainGlobals mg->wW l.prog w K mg base CX0 9 fa fd ["_law_script"] (fW K):=by
 have e:=hfa.symm.trans (PySem.W.mg_of X G aL)
 cases e
 obtain ⟨od,an,sl,oc,kV,dc,pm,cd,ct,lL,cL,kL⟩:=lL
 have GI:yD K mg "is_name" kW ["thing"]:=zY X G l0 (fun _ _ _ _ _ _ us hl=>match us,hl with | [_],_=>rfl)
 have GOO:yD K mg "is_one_of" mS ["thing","houses"]:=zY X G l1 (fun _ _ _ _ _ _ us hl=>match us,hl with | [_,_],_=>rfl)
 have GAN:yD K mg "are_names" jA ["thing"]:=zY X G l2 (fun _ _ _ _ _ _ us hl=>match us,hl with | [_],_=>rfl)
 have GAU:yD K mg "are_unlike" zC3 ["names"]:=zY X G l3 (fun _ _ _ _ _ _ us hl=>match us,hl with | [_],_=>rfl)
 have GAH:yD K mg "are_houses" eL ["thing"]:=zY X G l4 (fun _ _ _ _ _ _ us hl=>match us,hl with | [_],_=>rfl)
 have GIT:yD K mg "is_tie" zC4 ["thing","houses"]:=zY X G l5 (fun _ _ _ _ _ _ us hl=>match us,hl with | [_,_],_=>rfl)
 have GAT:yD K mg "are_ties" kZ ["thing","houses"]:=zY X G l6 (fun _ _ _ _ _ _ us hl=>match us,hl with | [_,_],_=>rfl)
 have GTE:yD K mg "tied_to_each" oS ["houses","ties"]:=zY X G l7 (fun _ _ _ _ _ _ us hl=>match us,hl with | [_,_],_=>rfl)
 have GST:yD K mg "steps_toward" mR ["near","goal"]:=zY X G l8 (fun _ _ _ _ _ _ us hl=>match us,hl with | [_,_],_=>rfl)
 have GCT:yD K mg "check_text" zDA ["thing"]:=zY X G l9 (fun _ _ _ _ _ _ us hl=>match us,hl with | [_],_=>rfl)
 have GRi:yD K mg "rises" zC6 ["tie","ties"]:=zY X G l10 (fun _ _ _ _ _ _ us hl=>match us,hl with | [_,_],_=>rfl)
 have GCl:yD K mg "closes_ring" zC9 ["tie","houses","ties"]:=zY X G l11 (fun _ _ _ _ _ _ us hl=>match us,hl with | [_,_,_],_=>rfl)
 have GRH:yD K mg "read_houses" zC8 ["line"]:=zY X G l12 (fun _ _ _ _ _ _ us hl=>match us,hl with | [_],_=>rfl)
 have GRT:yD K mg "read_tie" zC7 ["line","number","houses","ties"]:=zY X G l13 (fun _ _ _ _ _ _ us hl=>match us,hl with | [_,_,_,_],_=>rfl)
 have GRX:yD K mg "read_tree" eI ["text"]:=zY X G l14 (fun _ _ _ _ _ _ us hl=>match us,hl with | [_],_=>rfl)
 have GM:yD K mg "_law_mixed" mU ["_law_cell","_law_k"]:=zY X G l15 (fun _ _ _ _ _ _ us hl=>match us,hl with | [_,_],_=>rfl)
 have GD:yD K mg "_law_digits" qI ["_law_cell"]:=zY X G l16 (fun _ _ _ _ _ _ us hl=>match us,hl with | [_],_=>rfl)
 have GN:yD K mg "_law_next" eJ ["_law_source","_law_many"]:=zY X G l17 (fun _ _ _ _ _ _ us hl=>match us,hl with | [_,_],_=>rfl)
 have GW:yD K mg "_law_word" kU ["_law_source","_law_most"]:=zY X G l18 (fun _ _ _ _ _ _ us hl=>match us,hl with | [_,_],_=>rfl)
 have GNa:yD K mg "_law_names" rD ["_law_source","_law_many"]:=zY X G l19 (fun _ _ _ _ _ _ us hl=>match us,hl with | [_,_],_=>rfl)
 have GSh:yD K mg "_law_shuffled" f9 ["_law_source","_law_names_here"]:=zY X G l20 (fun _ _ _ _ _ _ us hl=>match us,hl with | [_,_],_=>rfl)
 have GTr:yD K mg "_law_tree" f7 ["_law_source","_law_most"]:=zY X G l21 (fun _ _ _ _ _ _ us hl=>match us,hl with | [_,_],_=>rfl)
 have GTx:yD K mg "_law_tree_text" aN ["_law_names_here","_law_ties"]:=zY X G l22 (fun _ _ _ _ _ _ us hl=>match us,hl with | [_,_],_=>rfl)
 have GSp:yD K mg "_law_spoilt" zC5 ["_law_source","_law_text"]:=zY X G l23 (fun _ _ _ _ _ _ us hl=>match us,hl with | [_,_],_=>rfl)
 have GIN:yD K mg "_law_is_name" aO ["_law_word_here"]:=zY X G l24 (fun _ _ _ _ _ _ us hl=>match us,hl with | [_],_=>rfl)
 have GDu:yD K mg "_law_due" sDu ["_law_text"]:=zY X G l25 (fun _ _ _ _ _ _ us hl=>match us,hl with | [_],_=>rfl)
 have GRe:yD K mg "_law_read" sRe ["_law_thing"]:=zY X G l26 (fun _ _ _ _ _ _ us hl=>match us,hl with | [_],_=>rfl)
 have GIs:yD K mg "_law_is" sIs ["_law_found","_law_due_here"]:=zY X G l27 (fun _ _ _ _ _ _ us hl=>match us,hl with | [_,_],_=>rfl)
 have FL:=tX (st:=kX) lL cL kL
 have cl_C:Cls K C:=⟨k_C.pg,k_C.hd,k_C.po,k_C.sa⟩
 obtain ⟨fiC,aiC,iiC,_,_,_,_,_,_,_,_,_,liC,ciC,kiC⟩:=mC0
 have mIF:=tX (st:=kY) liC ciC kiC
 have mIB:=mIF.binds (ps:=["self","houses","ties"]) (fun _ _ _ _ _ _ us hl=>match us,hl with | [_,_,_],_=>rfl)
 have mIM:Mk K C fiC:=⟨k_C.ms,aiC,iiC,k_C.kc⟩
 have mH:iF K C "houses" "Tree.houses" qH ["self"]:=dI mC1 (fun _ _ _ _ _ _ us hl=>match us,hl with | [_],_=>rfl)
 have mT:iF K C "ties" "Tree.ties" f8 ["self"]:=dI mC2 (fun _ _ _ _ _ _ us hl=>match us,hl with | [_],_=>rfl)
 have mg_C:=PySem.W.mg_of X G k_C.a
 have b_isinstance:Blt mg "isinstance":=⟨PySem.W.mg_none_of X G z_isinstance⟩
 have b_str:Blt mg "str":=⟨PySem.W.mg_none_of X G z_str⟩
 have b_bool:Blt mg "bool":=⟨PySem.W.mg_none_of X G z_bool⟩
 have b_len:Blt mg "len":=⟨PySem.W.mg_none_of X G z_len⟩
 have b_all:Blt mg "all":=⟨PySem.W.mg_none_of X G z_all⟩
 have b_list:Blt mg "list":=⟨PySem.W.mg_none_of X G z_list⟩
 have b_tuple:Blt mg "tuple":=⟨PySem.W.mg_none_of X G z_tuple⟩
 have b_set:Blt mg "set":=⟨PySem.W.mg_none_of X G z_set⟩
 have b_dict:Blt mg "dict":=⟨PySem.W.mg_none_of X G z_dict⟩
 have b_sorted:Blt mg "sorted":=⟨PySem.W.mg_none_of X G z_sorted⟩
 have b_range:Blt mg "range":=⟨PySem.W.mg_none_of X G z_range⟩
 have b_enumerate:Blt mg "enumerate":=⟨PySem.W.mg_none_of X G z_enumerate⟩
 have b_min:Blt mg "min":=⟨PySem.W.mg_none_of X G z_min⟩
 have b_max:Blt mg "max":=⟨PySem.W.mg_none_of X G z_max⟩
 have b_ValueError:Blt mg "ValueError":=⟨PySem.W.mg_none_of X G z_ValueError⟩
 have gl_LETTERS:Glo mg "LETTERS" (.str abc):=⟨_,PySem.W.mg_of X G g_LETTERS,⟨_,rfl⟩⟩
 have gl_LONGEST_NAME:Glo mg "LONGEST_NAME" (.int 8):=⟨_,PySem.W.mg_of X G g_LONGEST_NAME,⟨_,rfl⟩⟩
 refine ⟨PySem.W.fnOf "law" "law" (xE kX) (yM kX) (zF kX) .none kV dc pm an cd ct,fun s v=>.of_eq rfl,fun base _ _=>?_⟩
 have T:iE K C:=⟨cl_C,n_C_names,n_C_pairs,n_C_near⟩
 obtain ⟨cs,hcs⟩:∃ cs:Nat->Addr,cs=fun i=>[x0,x1,x2,x3,x4,x5,x6,x7,x8,x9,x10,x11].getD i 0:=⟨_,rfl⟩
 have kn:Kn K mg cs:=by
  subst hcs
  exact ⟨⟨_,PySem.W.mg_of X G aX_0,rfl⟩,⟨_,PySem.W.mg_of X G aX_1,rfl⟩,⟨_,PySem.W.mg_of X G aX_2,rfl⟩,⟨_,PySem.W.mg_of X G aX_3,rfl⟩,⟨_,PySem.W.mg_of X G aX_4,rfl⟩,⟨_,PySem.W.mg_of X G aX_5,rfl⟩,⟨_,PySem.W.mg_of X G aX_6,rfl⟩,⟨_,PySem.W.mg_of X G aX_7,rfl⟩,⟨_,PySem.W.mg_of X G aX_8,rfl⟩,⟨_,PySem.W.mg_of X G aX_9,rfl⟩,⟨_,PySem.W.mg_of X G aX_10,rfl⟩,⟨_,PySem.W.mg_of X G aX_11,rfl⟩,fun i j hi hj=>zGE xtab hi hj,fun i hi=>zGD xtab hi,fun i hi=>zCF xall hi⟩
 have hex:PySem.W.exmOne K (.ref (cs 10)) (.ref x12)=some true:=by
  subst hcs
  exact zGF xtab (i:=10) (by decide)
 have mgT:=PySem.W.mg_of X G aX_12
 have c10:cs 10=x10:=by rw [hcs];rfl
 have NT:=zHR x_fI x_fc (PySem.W.mg_of X G aX_10) mgT
 obtain ⟨_,_,_,_,_,_,_,_,_,li,ci,ki⟩:=l_fI
 have FI:=tX (st:=sNI) li ci ki
 obtain ⟨fdI,N⟩:∃ fdI,zCK l.prog w K mg base (cs 10) fI fdI:=by
  rw [c10]
  exact ⟨_,NT.1,(zCF xall (i:=10) (by decide)).be,okNI FI NT.1 NT.2.1 NT.2.2,FI.binds (ps:=["self","line"]) (fun _ _ _ _ _ _ us hl=>match us,hl with | [_,_],_=>rfl)⟩
 have hfl:PySem.W.findIn K (.ref (cs 10)) "line"=some none:=by rw [c10];exact NT.2.2.no
 have CI:=zHL (P:=l.prog) (w:=w) (base:=base) GI b_isinstance b_str b_len b_all gl_LETTERS gl_LONGEST_NAME
 have CANX:=zDX GAN CI b_isinstance b_list b_all
 have CAUX:=zHC (P:=l.prog) (w:=w) (base:=base) GAU b_len b_set
 have CAHX:=zDY GAH CANX CAUX b_len
 have CO2:=zHJ GOO CI
 have CITX:=zHG GIT CO2 b_isinstance b_tuple b_len
 have CAH:=zJV CAHX
 have CIT:=zJU CITX
 have CAT:=zHO GAT CIT b_isinstance b_list b_len b_all
 have CTE:=zHF (P:=l.prog) (w:=w) (base:=base) GTE b_sorted
 have CST:=zDU (P:=l.prog) (w:=w) (base:=base) GST
 have MK:zCL l.prog w K mg base CX0 5 C "Tree" ["self","houses","ties"] (iW C):=⟨_,_,zHM T mIF CAH CAT CTE CST b_sorted b_min b_max b_len,mIM,mg_C,mIB⟩
 have MH:=zAT (P:=l.prog) (w:=w) (mg:=mg) (base:=base) T mH b_list
 have MT:=zHE (P:=l.prog) (w:=w) (mg:=mg) (base:=base) T mT b_list
 have CCT:=zHN N GCT b_isinstance b_str
 have CRi:=zJC (P:=l.prog) (w:=w) (base:=base) GRi b_len
 have CCl:=zJH GCl CTE CST
 have CRH:=zJE N GRH CAHX b_sorted
 have CRT:=zJD N GRT CITX CRi CCl b_tuple
 have CRX:=zHI N GRX CCT CRH CRT MK b_enumerate b_len
 have CM:=zDW (P:=l.prog) (w:=w) (base:=base) GM
 have CD:=zAU (P:=l.prog) (w:=w) (base:=base) GD
 have CN:=zHK GN CM
 have CNx:Cal l.prog w K mg base CX0 2 "_law_next" ["_law_source","_law_many"] spNx:=by rw [fU];exact CN
 have CW:=zHB GW CN b_range
 have CNM:=zDV GNa CN CW b_range b_len
 have CSH:=zHH GSh CN b_len b_list
 have CTR:=zHD GTr CN CNM CSH b_range b_len
 have CTX:=zJA (P:=l.prog) (w:=w) (base:=base) GTx b_sorted b_min b_max
 have CSp:=zJB GSp CNx b_len b_min
 have CIN:=zJG (P:=l.prog) (w:=w) (base:=base) GIN b_len b_all
 have CDu:=okDu GDu CIN b_all b_sorted b_set b_dict b_enumerate b_len
 have CRe:=okRe kn T GRe CRX MH MT mgT hex hfl b_isinstance b_ValueError
 have CIs:=okIs (P:=l.prog) (w:=w) (base:=base) GIs b_isinstance b_bool
 exact zJF FL CD CNx CTR CTX CSp CIs CRe CDu b_range b_all
theorem walk {l:PySem.W.OpenLaw} {q:Program} {loose:List Str} {XP:(Str->Option Value)->Heap->Prop} {YP:World->Heap->Prop} {d:DefRec} {K:Params->PySem.W.Frag} (hn:l.most=some 63) (hdf:d.params.defaults=[])
  (hY:∀ (w:World) (h:Heap),YP w h->(K w.params).In h)
  (F:∀ (w:World) (mg:Str->Option Value) (fa:Addr) (h:Heap),(K w.params).In h->h.Ns mainGlobals mg->mg d.name=some (.ref fa) ->
   ∃ fd:FuncData,(∀ (s:Shared) (u:Value),BindsTo s fd ⟨[u],[]⟩ [("_law_script",u)])/\∀ base:Heap,(K w.params).In base->base.Ns mainGlobals mg->wW l.prog w (K w.params) mg base CX0 9 fa fd ["_law_script"] (fW (K w.params))) :
  PySem.W.WalkO q loose XP YP l.row.toRowW d [] (fun f vs=>PySem.call f vs):=
 L2.walk_of (n:=63) (k:=9) (x:="_law_script") (CX:=fun _=>CX0) (sp:=fun w=>fW (K w.params)) hn (by decide) hdf ⟨rfl,by decide,by decide⟩ hY F (fun _ _ a ns hl _ hS=>⟨a,ns,rfl,hS,hl,fun _=>rfl⟩) fun _ _ _ _ _ z=>z
end K83
open PySem PySem.W PyProof.Rows
set_option maxRecDepth 100000 in
set_option maxHeartbeats 0 in
theorem PySem.Challenge.cw_treeright_k83_tree_texts_spoilt_holds : PySem.Challenge.rw_treeright_k83_tree_texts_spoilt.Holds := by
 refine head ?_
 k_fill
 refine K83.walk (l:=PySem.Challenge.rw_treeright_k83_tree_texts_spoilt) rfl rfl (fun w h Y=>PySem.W.kIn_of Y) ?F
 case F=>
  intro w mg fa h KX G hmg
  refine' K83.all_mk KX G hmg ?l0 ?l1 ?l2 ?l3 ?l4 ?l5 ?l6 ?l7 ?l8 ?l9 ?l10 ?l11 ?l12 ?l13 ?l14 ?l15 ?l16 ?l17 ?l18 ?l19 ?l20 ?l21 ?l22 ?l23 ?l24 ?l25 ?l26 ?l27 ?aL ?lL ?k_C ?mC0 ?mC1 ?mC2 ?n_C_names ?n_C_pairs ?n_C_near ?z_isinstance ?z_str ?z_bool ?z_len ?z_all ?z_list ?z_tuple ?z_set ?z_dict ?z_sorted ?z_range ?z_enumerate ?z_min ?z_max ?z_ValueError ?g_LETTERS ?g_LONGEST_NAME ?aX_0 ?aX_1 ?aX_2 ?aX_3 ?aX_4 ?aX_5 ?aX_6 ?aX_7 ?aX_8 ?aX_9 ?aX_10 ?aX_11 ?aX_12 ?xtab ?xall ?a_fI ?l_fI ?x_fc ?x_fI
  (case aL=>k_is)
  (case lL=>exact ⟨_,_,_,_,_,_,_,_,_,by k_is,by k_is,by k_is⟩)
  (case l0 | l1 | l2 | l3 | l4 | l5 | l6 | l7 | l8 | l9 | l10 | l11 | l12 | l13 | l14 | l15 | l16 | l17 | l18 | l19 | l20 | l21 | l22 | l23 | l24 | l25 | l26 | l27=>exact ⟨_,by k_is,_,_,_,_,_,_,_,_,_,by k_is,by k_is,by k_is⟩)
  (case k_C=>exact ⟨by k_is,by k_is,by k_is,by k_is,by k_is,by k_is,by k_is⟩)
  (case mC0 | mC1 | mC2=>exact ⟨_,by k_is,by k_is,_,_,_,_,_,_,_,_,_,by k_is,by k_is,by k_is⟩)
  (case n_C_names | n_C_pairs | n_C_near | z_isinstance | z_str | z_bool | z_len | z_all | z_list | z_tuple | z_set | z_dict | z_sorted | z_range | z_enumerate | z_min | z_max | z_ValueError | g_LETTERS | g_LONGEST_NAME=>k_is)
  (case aX_0=>k_is)
  (case aX_1=>k_is)
  (case aX_2=>k_is)
  (case aX_3=>k_is)
  (case aX_4=>k_is)
  (case aX_5=>k_is)
  (case aX_6=>k_is)
  (case aX_7=>k_is)
  (case aX_8=>k_is)
  (case aX_9=>k_is)
  (case aX_10=>k_is)
  (case aX_11=>k_is)
  (case aX_12=>k_is)
  (case xtab=>kernel_rfl)
  (case xall=>kernel_rfl)
  (case a_fI=>k_is)
  (case l_fI=>exact ⟨_,_,_,_,_,_,_,_,_,by k_is,by k_is,by k_is⟩)
  (case x_fc=>kernel_rfl)
  (case x_fI=>kernel_rfl)
