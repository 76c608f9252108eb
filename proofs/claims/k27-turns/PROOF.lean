import PyProof.Rows.All
import Wide.All
import OpenK.AllK
import Wide.FinOn
import Lean
import PyProof.EqAt
import PyProof.EqKinds
import PyProof.TupleCall
import PySem.Challenge.RW_treeright_k27_whole_houses_by_turns
noncomputable section
def zMJ:=@List.length_map
def zMK:=@List.getElem?_eq_getElem
def zML:=@List.getElem?_eq_some_iff
def zMM:=@List.mem_singleton
def zMN:=@List.mem_of_getElem?
def zMO:=@List.getD_eq_getElem?_getD
def zMP:=@List.getElem?_map
def zMQ:=@Option.some.inj
def zMR:=@List.size_toArray
def zMS:=@Nat.le_refl
def zMT:=@Nat.zero_le
def zMU:=@Nat.le_trans
def zMV:=@List.map_append
def zMW:=@List.mem_cons_of_mem
def zMX:=@List.mem_append_right
def zMY:=@decide_eq_true
def zMZ:=@decide_eq_false
def zM0:=@List.mem_append
def zM1:=@List.length_append
def zM2:=@List.length_take
def zM3:=@List.map_map
def zM4:=@List.length_cons
def zM5:=@Nat.lt_of_lt_of_le
def zM6:=@List.getElem?_append_right
def zM7:=@List.getElem?_append_left
def zM8:=@List.take_of_length_le
def zM9:=@List.length_pos_iff
def zNA:=@Nat.ne_of_lt
def zNB:=@Bool.false_ne_true
def zNC:=@List.mem_cons_self
def zND:=@List.not_mem_nil
def zNE:=@List.append_assoc
def zNF:=@List.getElem?_set_ne
def zNG:=@List.getElem?_set_self
def zNH:=@List.length_filter_le
def zNI:=@Array.getD_eq_getD_getElem?
def zNJ:=@List.take_length
def zNK:=@List.length_set
set_option compiler.extract_closed false
set_option Elab.async false
set_option linter.all false
set_option maxRecDepth 100000
namespace L2
open PySem PySem.Spec PyProof.Rows
noncomputable abbrev VSP:=Value->Shared->Prop
noncomputable abbrev LAO:=List (Addr × Obj)
noncomputable abbrev LSS:=List (Str × Str)
noncomputable abbrev Key:=Sum Int Str
noncomputable def m8:Key->Value->Bool
 | .inl k,v=>Value.isInt k v
 | .inr x,v=>Value.isStrOf x v
noncomputable def keyH (w:World):Key->Int
 | .inl k=>hashInt k
 | .inr x=>hashStr w x
theorem wD:∀ {k:Key} {v:Value},m8 k v=true->(∃ i t,k=Sum.inl i/\v=Value.int i t) \/ (∃ x t,k=Sum.inr x/\v=Value.str x t)
 | .inl i,v,h=>by
  obtain ⟨t,e⟩:=Value.isInt_shape (k:=i) (v:=v) h
  exact .inl ⟨i,t,rfl,e⟩
 | .inr x,v,h=>by
  obtain ⟨t,e⟩:=Value.isStrOf_shape (x:=x) (v:=v) h
  exact .inr ⟨x,t,rfl,e⟩
theorem bG (i:Int) (t:Tok):m8 (.inl i) (.int i t)=true:=by simp [m8,Value.isInt]
theorem bF (x:Str) (t:Tok):m8 (.inr x) (.str x t)=true:=by simp [m8,Value.isStrOf]
theorem zIH (a b:Int):decide ((Sum.inl a:Key)=Sum.inl b)=(a == b):=by
 by_cases e:a=b
 ·subst e;simp
 ·have h:¬ (Sum.inl a:Key)=Sum.inl b:=λq=>e (Sum.inl.inj q)
  rw [zMZ h]
  exact (beq_eq_false_iff_ne.mpr e).symm
theorem zIE (a b:Str):decide ((Sum.inr a:Key)=Sum.inr b)=decide (a=b):=by
 by_cases e:a=b
 ·subst e;simp
 ·have h:¬ (Sum.inr a:Key)=Sum.inr b:=λq=>e (Sum.inr.inj q)
  rw [zMZ h,zMZ e]
theorem zIG (a:Int) (b:Str):decide ((Sum.inl a:Key)=Sum.inr b)=false:=zMZ (λq=>nomatch q)
theorem zIF (a:Str) (b:Int):decide ((Sum.inr a:Key)=Sum.inl b)=false:=zMZ (λq=>nomatch q)
noncomputable def wK (prog:Program) (w:World):PySem.KeyKind prog w Key where
 is:=m8
 hash:=keyH w
 inj:=λv a b ha hb=>by
  rcases wD ha with ⟨i,t,rfl,rfl⟩ | ⟨x,t,rfl,rfl⟩
  ·rcases wD hb with ⟨j,u,rfl,e⟩ | ⟨y,u,rfl,e⟩
   ·injection e with e1 _;rw [e1]
   ·exact nomatch e
  ·rcases wD hb with ⟨j,u,rfl,e⟩ | ⟨y,u,rfl,e⟩
   ·exact nomatch e
   ·injection e with e1 _;rw [e1]
 byValue:=λk v h=>by
  rcases wD h with ⟨i,t,rfl,rfl⟩ | ⟨x,t,rfl,rfl⟩ <;> rfl
 pyHash:=λhv h=>by
  rcases wD hv with ⟨i,t,rfl,rfl⟩ | ⟨x,t,rfl,rfl⟩
  ·exact wpAny_pyHash_int h
  ·exact wpAny_pyHash_str h
 eqBool:=λhu hv h=>by
  rcases wD hu with ⟨i,t,rfl,rfl⟩ | ⟨x,t,rfl,rfl⟩
  ·rcases wD hv with ⟨j,u,rfl,rfl⟩ | ⟨y,u,rfl,rfl⟩
   ·rw [zIH] at h;exact wpAny_eqBool_int h
   ·rw [zIG] at h;exact SeqAt.EqAt.int_str i t y u _ _ _ _ h
  ·rcases wD hv with ⟨j,u,rfl,rfl⟩ | ⟨y,u,rfl,rfl⟩
   ·rw [zIF] at h;exact SeqAt.EqAt.str_int x t j u _ _ _ _ h
   ·rw [zIE] at h;exact wpAny_eqBool_str h
 «strs»:=λk x t v h=>by
  rcases wD h with ⟨i,u,rfl,e⟩ | ⟨y,u,rfl,e⟩
  ·exact nomatch e
  ·injection e with e1 _
   subst e1
   cases v <;> rfl
theorem iP (prog:Program) (w:World) (i:Int) (t:Tok):(wK prog w).is (.inl i) (.int i t)=true:=bG i t
theorem iO (prog:Program) (w:World) (x:Str) (t:Tok):(wK prog w).is (.inr x) (.str x t)=true:=bF x t
inductive V where
 | non | bl (b:Bool) | int (i:Int) | str (x:Str) | byt (b:Array UInt8) | flt (b:UInt64) | ref (a:Addr) | ty (n:String)
 deriving DecidableEq
def yU:V->Value->Prop
 | .non,u=>u=Value.none
 | .bl b,u=>u=Value.bool b
 | .int i,u=>∃ t,u=Value.int i t
 | .str x,u=>∃ t,u=Value.str x t
 | .byt b,u=>∃ t,u=Value.bytes b t
 | .flt b,u=>∃ t,u=Value.float b t
 | .ref a,u=>u=Value.ref a
 | .ty n,u=>u=Value.type n
noncomputable abbrev yH:List V->List Value->Prop:=Paired yU
theorem yH.length {xs:List V} {us:List Value} (r:yH xs us):xs.length=us.length:=Paired.length r
theorem yH.get:∀ {xs:List V} {us:List Value} {i:Nat} {x:V},yH xs us->xs[i]?=some x->∃ u,us[i]?=some u/\yU x u
 | _,_,_,_,.nil,e=>by simp at e
 | _,_,0,_,.cons r _,e=>by simp at e;subst e;exact ⟨_,rfl,r⟩
 | _,_,i + 1,x,.cons _ t,e=>by
  obtain ⟨u,a,b⟩:=yH.get (i:=i) (x:=x) t (by simpa using e)
  exact ⟨u,by simpa using a,b⟩
theorem yH.set {x:V} {u:Value} (r:yU x u):∀ {xs:List V} {us:List Value} (i:Nat),yH xs us->yH (xs.set i x) (us.set i u)
 | _,_,_,.nil=>.nil
 | _,_,0,.cons _ t=>.cons r t
 | _,_,i + 1,.cons q t=>.cons q (yH.set r i t)
theorem yH.append {xs ys:List V} {us a:List Value} (h:yH xs us) (s:yH ys a):yH (xs ++ ys) (us ++ a):=by
 induction h with
 | nil=>exact s
 | cons r _ b=>exact .cons r b
theorem yH.take:∀ {xs:List V} {us:List Value} (n:Nat),yH xs us->yH (xs.take n) (us.take n)
 | _,_,0,_=>.nil
 | _,_,_ + 1,.nil=>.nil
 | _,_,n + 1,.cons r t=>.cons r (yH.take n t)
theorem yH.drop:∀ {xs:List V} {us:List Value} (n:Nat),yH xs us->yH (xs.drop n) (us.drop n)
 | _,_,0,r=>r
 | _,_,_ + 1,.nil=>.nil
 | _,_,n + 1,.cons _ t=>yH.drop n t
noncomputable def sT:Option V->Option Value->Prop
 | some v,some u=>yU v u
 | none,none=>True
 | _,_=>False
noncomputable def KV {κ:Type}:List (κ × V)->List (κ × Value)->Prop:=Paired λ(p:κ × V) (q:κ × Value)=>p.1=q.1/\yU p.2 q.2
noncomputable def kV:Key->V
 | .inl i=>.int i
 | .inr x=>.str x
inductive HO where
 | lst (xs:List V)
 | tup (xs:List V)
 | dK (kvs:List (Key × V)) | dT (kvs:List (List Key × V))
 | set (S:Int->Bool) (n:Nat)
 | ins (C dx:Addr) (fs:List (Str × V))
 | own (x:Addr)
 | xd (fs:List (Str × V))
 | met (f x:Addr)
 | rng (lo hi:Int)
 | frz (o:Obj) (u:HO)
 | tbl (ps:Array Value)
 | ext (φ:Heap->Prop)
noncomputable abbrev Hp:=Addr->Option HO
noncomputable def upd (H:Hp) (a:Addr) (o:HO):Hp:=λb=>if b=a then some o else H b
theorem zC {H:Hp} {a:Addr} {o:HO}:upd H a o a=some o:=by unfold upd;rw [if_pos rfl]
theorem zK {H:Hp} {a b:Addr} {o:HO} (h:b ≠ a):upd H a o b=H b:=by unfold upd;rw [if_neg h]
theorem tL {H:Hp} {a:Addr} {o u:HO}:upd (upd H a o) a u=upd H a u:=by
 funext b;unfold upd;split <;> rfl
theorem wY {H:Hp} {a b:Addr} {o u:HO} (h:H a=some o) (h':H b=some u) (d:o ≠ u):a ≠ b:=by
 intro e;subst e;rw [h] at h';exact d (zMQ h')
theorem zI {H:Hp} {a b:Addr} {o:HO} (h:H a=some o) (h':H b=none):a ≠ b:=by
 intro e;subst e;rw [h] at h';cases h'
section
variable (P:Program) (w:World)
noncomputable def xJ (H:Hp) (h:Heap) (a:Addr):HO->Prop
 | .lst d=>d.length <= sizeLine/\∃ (b:List Value) (n:Nat),yH d b/\h.get? a=some { cls:=.type "list",data:=.seq b.toArray n }
 | .tup d=>d.length <= sizeLine/\∃ b:List Value,yH d b/\IsTup h a b.toArray
 | .dK c=>c.length <= sizeLine/\(a == sysModules)=false/\∃ k,KV c k/\h.DictOf (wK P w) a k
 | .dT c=>c.length <= sizeLine/\(a == sysModules)=false/\∃ d:List (List Key × Addr × Value),
   Paired (λ(p:List Key × V) (q:List Key × Addr × Value)=>p.1=q.1/\H q.2.1=some (.tup (p.1.map kV))/\yU p.2 q.2.2) c d /\
   ∃ o l s,h.get? a=some o/\o.ExactDict/\o.data=.dict l s/\l.toList=d.map (entryOfKey (tupleKind (wK P w)))/\(d.map (·.1)).Nodup
 | .set S n=>h.SetOf (intKind P w) a S n
 | .ins C i g=>H i=some (.own a)/\g.length <= 1000/\i ≠ a/\h.get? a=some (W.instObj C i) /\
   ∃ e,h.Ns1 i e/\(∀ f,sT (g.lookup f) (e f))/\PySem.Within e (g.map (·.1))
 | .own _=>∃ o,h.get? a=some o
 | .xd g=>∃ e,h.Ns1 a e/\∀ f,sT (g.lookup f) (e f)
 | .rng lo y=>∃ t u v,h.get? a=some { cls:=.type "range",data:=.fields #[.int lo t,.int y u,.int 1 v] }
 | .frz o u=>h.get? a=some o/\xJ H h a u
 | .tbl z=>h.get? a=some { cls:=.none,data:=.fields z }
 | .met f x=>h.get? a=some (W.methodObj (.ref f) (.ref x))
 | .ext j=>j h/\(∃ o,h.get? a=some o)/\∀ m r:Heap,j m->(∀ o,m.get? a=some o->r.get? a=some o)->j r
noncomputable def HOk (H:Hp) (h:Heap):Prop:=∀ a o,H a=some o->xJ P w H h a o
end
section
variable {P:Program} {w:World} {H H':Hp} {h h':Heap} {a:Addr} {o:HO}
theorem xJ.lt (x:xJ P w H h a o):a < h.objs.size:=by
 cases o with
 | lst c=>obtain ⟨_,_,_,_,e⟩:=x;exact Heap.lt_size e
 | tup c=>obtain ⟨_,_,_,p⟩:=x;exact p.lt
 | dK b=>obtain ⟨_,_,_,_,o,_,_,e,_⟩:=x;exact Heap.lt_size e
 | dT b=>obtain ⟨_,_,_,_,o,_,_,e,_⟩:=x;exact Heap.lt_size e
 | set S n=>obtain ⟨o,_,_,_,e,_⟩:=x;exact Heap.lt_size e
 | ins C g d=>obtain ⟨_,_,_,e,_⟩:=x;exact Heap.lt_size e
 | own y=>obtain ⟨_,e⟩:=x;exact Heap.lt_size e
 | xd d=>obtain ⟨_,⟨_,_,_,e,_⟩,_⟩:=x;exact Heap.lt_size e
 | rng lo i=>obtain ⟨_,_,_,e⟩:=x;exact Heap.lt_size e
 | frz j u=>obtain ⟨e,_⟩:=x;exact Heap.lt_size e
 | tbl k=>exact Heap.lt_size (show h.get? a=some _ from x)
 | met f y=>exact Heap.lt_size (show h.get? a=some _ from x)
 | ext l=>obtain ⟨_,⟨_,e⟩,_⟩:=x;exact Heap.lt_size e
theorem Paired.mapP {e g:Type} {F G:e->g->Prop} {c:List e} {d:List g} (h:Paired F c d) (f:∀ a b,F a b->G a b):Paired G c d:=by
 induction h with
 | nil=>exact .nil
 | cons r _ i=>exact .cons (f _ _ r) i
theorem xJ.stay (x:xJ P w H h a o) (k:∀ b u,(b=a \/ H b=some (.own a))->h.get? b=some u->h'.get? b=some u)
  (D:∀ b,H b=some (.own a)->H' b=some (.own a)) (E:∀ b xs,H b=some (.tup xs)->H' b=some (.tup xs)):xJ P w H' h' a o:=by
 induction o with
 | lst xs=>obtain ⟨z,l,n,r,e⟩:=x;exact ⟨z,l,n,r,k _ _ (.inl rfl) e⟩
 | tup xs=>obtain ⟨z,l,r,g,e,c⟩:=x;exact ⟨z,l,r,g,k _ _ (.inl rfl) e,c⟩
 | dK m=>obtain ⟨z,y,G,r,g,i,j,e,c⟩:=x;exact ⟨z,y,G,r,g,i,j,k _ _ (.inl rfl) e,c⟩
 | dT m=>
  obtain ⟨z,y,xs,r,g,i,j,e,c⟩:=x
  exact ⟨z,y,xs,Paired.mapP r λp q z=>⟨z.1,E _ _ z.2.1,z.2.2⟩,g,i,j,k _ _ (.inl rfl) e,c⟩
 | set S n=>obtain ⟨g,i,j,t,e,c⟩:=x;exact ⟨g,i,j,t,k _ _ (.inl rfl) e,c⟩
 | ins C M I=>
  obtain ⟨d,z,ne,e,s,⟨A,i,j,J,c⟩,r⟩:=x
  exact ⟨D _ d,z,ne,k _ _ (.inl rfl) e,s,⟨A,i,j,k _ _ (.inr d) J,c⟩,r⟩
 | own y=>obtain ⟨g,e⟩:=x;exact ⟨g,k _ _ (.inl rfl) e⟩
 | xd I=>obtain ⟨s,⟨A,i,j,e,c⟩,r⟩:=x;exact ⟨s,⟨A,i,j,k _ _ (.inl rfl) e,c⟩,r⟩
 | rng lo N=>obtain ⟨t,u,v,e⟩:=x;exact ⟨t,u,v,k _ _ (.inl rfl) e⟩
 | frz g u L=>obtain ⟨e,q⟩:=x;exact ⟨k _ _ (.inl rfl) e,L q⟩
 | tbl B=>
  have e:h.get? a=some { cls:=.none,data:=.fields B }:=x
  show h'.get? a=some { cls:=.none,data:=.fields B }
  exact k a _ (.inl rfl) e
 | met f y=>
  have e:h.get? a=some (W.methodObj (.ref f) (.ref y)):=x
  show h'.get? a=some (W.methodObj (.ref f) (.ref y))
  exact k a _ (.inl rfl) e
 | ext O=>obtain ⟨p,⟨o,e⟩,st⟩:=x;exact ⟨st _ _ p λo q=>k _ _ (.inl rfl) q,⟨o,k _ _ (.inl rfl) e⟩,st⟩
theorem HOk.lt (x:HOk P w H h) (e:H a=some o):a < h.objs.size:=(x a o e).lt
theorem HOk.fresh (x:HOk P w H h) (e:h.objs.size <= a):H a=none:=by
 cases q:H a with
 | none=>rfl
 | some u=>exact absurd (zM5 (x.lt q) e) (Nat.lt_irrefl _)
theorem HOk.kept (x:HOk P w H h) (k:∀ b u,h.get? b=some u->h'.get? b=some u):HOk P w H h':=λa o e=>
 (x a o e).stay (λb u _ q=>k b u q) (λ_ q=>q) λ_ _ q=>q
theorem HOk.laid (x:HOk P w H h) (k:∀ b u,h.get? b=some u->h'.get? b=some u) (g:h.objs.size <= a) (new:xJ P w (upd H a o) h' a o):HOk P w (upd H a o) h':=λb u e=>by
 have d:=x.fresh g
 by_cases f:b=a
 ·subst f;rw [zC] at e;cases e;exact new
 ·rw [zK f] at e
  exact (x b u e).stay (λc v _ q=>k c v q) (λc q=>by rw [zK (zI q d)];exact q) λc i q=>by rw [zK (zI q d)];exact q
end
noncomputable def Rd (H:Hp) (a:Addr) (u:HO):Prop:=H a=some u \/ ∃ o,H a=some (.frz o u)
theorem Rd.ok {P:Program} {w:World} {H:Hp} {h:Heap} {a:Addr} {u:HO} (r:Rd H a u) (x:HOk P w H h):xJ P w H h a u:=by
 rcases r with r | ⟨o,r⟩
 ·exact x a u r
 ·obtain ⟨_,q⟩:=x a _ r
  exact q
noncomputable def Mut:Option HO->Prop
 | some (.lst _)=>True
 | some (.dK _)=>True
 | some (.dT _)=>True
 | some (.set _ _)=>True
 | some (.ins _ _ _)=>True
 | some (.ext _)=>True
 | _=>False
section
variable {P:Program} {w:World} {H:Hp} {h h':Heap} {x e:Addr} {o':HO}
theorem HOk.write (ok:HOk P w H h) (g:Mut (H x)) (n:e=x \/ H e=some (.own x)) (k:∀ b u,b ≠ e->h.get? b=some u->h'.get? b=some u) (m:∃ u,h'.get? e=some u)
  (new:xJ P w (upd H x o') h' x o'):HOk P w (upd H x o') h':=λb u q=>by
 have d:∀ c y,H c=some (.own y)->c ≠ x:=λc y r z=>by subst z;rw [r] at g;exact g
 have f:∀ c i,H c=some (.tup i)->c ≠ x:=λc i r z=>by subst z;rw [r] at g;exact g
 by_cases j:b=x
 ·subst j;rw [zC] at q;cases q;exact new
 ·rw [zK j] at q
  by_cases a:b=e
  ·have o:H b=some (.own x):=by
    rcases n with z | z
    ·exact absurd (a.trans z) j
    ·rw [a];exact z
   rw [q] at o;cases o
   obtain ⟨v,p⟩:=m
   exact ⟨v,by rw [a];exact p⟩
  ·refine (ok b u q).stay (λc v l r=>k c v ?_ r) (λc r=>by rw [zK (d c b r)];exact r) λc i r=>by rw [zK (f c i r)];exact r
   rcases l with rfl | l
   ·exact a
   ·rintro rfl
    rcases n with z | z
    ·exact d c b l z
    ·rw [l] at z;cases z;exact j rfl
end
structure Un (fs ex:List Addr) (H H':Hp) (h h':Heap):Prop where
 keep:∀ b o,h.get? b=some o->H b=none->b ∉ fs->b ∉ ex->h'.get? b=some o
 slot:∀ b o,h.get? b=some o->H b=none->b ∈ fs->b ∉ ex->∃ sl,h'.get? b=some { o with slots:=sl }
 free:∀ b o,h.get? b=some o->H b=none->b ∉ ex->H' b=none
 there:∀ b o,h.get? b=some o->b ∉ ex->∃ o',h'.get? b=some o'
 tups:∀ b xs,H b=some (.tup xs)->H' b=some (.tup xs)
 frzs:∀ b o u,H b=some (.frz o u)->H' b=some (.frz o u)
 tbls:∀ b ps,H b=some (.tbl ps)->∃ more,H' b=some (.tbl (ps ++ more))
section
variable {fs fs' ex ex':List Addr} {H H1 H2:Hp} {h h1 h2 h':Heap} {a x e:Addr} {o:HO}
theorem Un.any (u:Un fs ex H H1 h h1) {b:Addr} {c:Obj} (q:h.get? b=some c) (n:H b=none) (hx:b ∉ ex):∃ f,h1.get? b=some { c with slots:=f }:=by
 by_cases d:b ∈ fs
 ·exact u.slot b c q n d hx
 ·exact ⟨c.slots,u.keep b c q n d hx⟩
theorem Un.kept (k:∀ b u,h.get? b=some u->h'.get? b=some u):Un fs ex H H h h':=
 ⟨λb c q _ _ _=>k b c q,λb c q _ _ _=>⟨c.slots,k b c q⟩,λ_ _ _ n _=>n,λb c q _=>⟨c,k b c q⟩,λ_ _ q=>q,λ_ _ _ q=>q,λ_ d q=>⟨#[],by rw [q];simp⟩⟩
theorem Un.refl:Un fs ex H H h h:=Un.kept λ_ _ q=>q
theorem Un.laid (k:∀ b u,h.get? b=some u->h'.get? b=some u) (hp:h.objs.size <= a) (hn:H a=none):Un fs ex H (upd H a o) h h' where
 keep:=λb u q _ _ _=>k b u q
 slot:=λb u q _ _ _=>⟨u.slots,k b u q⟩
 free:=λb u q n _=>by rw [zK (zNA (zM5 (Heap.lt_size q) hp))];exact n
 there:=λb u q _=>⟨u,k b u q⟩
 tups:=λb xs q=>by rw [zK (zI q hn)];exact q
 frzs:=λb u xs q=>by rw [zK (zI q hn)];exact q
 tbls:=λb ps q=>⟨#[],by rw [zK (zI q hn),q];simp⟩
theorem Un.write (d:Mut (H x)) (l:e=x \/ H e=some (.own x)) (k:∀ b u,b ≠ e->h.get? b=some u->h'.get? b=some u) (f:∃ u,h'.get? e=some u):Un fs ex H (upd H x o) h h':=by
 have i:∀ b,H b=none->b ≠ x:=λb n z=>by subst z;rw [n] at d;exact d
 have j:∀ b,H b=none->b ≠ e:=λb n z=>by
  subst z
  rcases l with r | r
  ·exact i b n r
  ·rw [n] at r;cases r
 have g:∀ b u,H b=some u->¬ Mut (some u)->b ≠ x:=λb u q nm z=>by subst z;rw [q] at d;exact nm d
 refine ⟨λb u q n _ _=>k b u (j b n) q,λb u q n _ _=>⟨u.slots,k b u (j b n) q⟩,λb u q n _=>by rw [zK (i b n)];exact n,λb u q _=>?_,
  λb m q=>by rw [zK (g b _ q λz=>z)];exact q,λb u m q=>by rw [zK (g b _ q λz=>z)];exact q,λb p q=>⟨#[],by rw [zK (g b _ q λz=>z),q];simp⟩⟩
 by_cases c:b=e
 ·subst c;exact f
 ·exact ⟨u,k b u c q⟩
end
noncomputable def trk (h:Heap) (H:Hp):List Addr:=(List.range h.objs.size).filter λa=>(H a).isSome
noncomputable def jA (h:Heap) (H:Hp):Heap:=W.hideAll h (trk h H)
theorem bJ (h:Heap) (H:Hp):(jA h H).objs.size=h.objs.size:=W.hideAll_size _ _
theorem zB3 {h:Heap} {H:Hp} {b:Addr} {o:Obj} (e:h.get? b=some o) (n:H b=none):(jA h H).get? b=some o:=
 W.hideAll_get _ e λa=>by
  have q:(H b).isSome=true:=(List.mem_filter.mp a).2
  rw [n] at q;simp at q
theorem zEE {h:Heap} {H:Hp} {b:Addr} {o:Obj} (e:(jA h H).get? b=some o):h.get? b=some o/\H b=none:=by
 have a:h.get? b=some o:=W.of_hideAll (trk h H) e
 refine ⟨a,?_⟩
 cases q:H b with
 | none=>rfl
 | some x=>
  have c:b ∈ trk h H:=List.mem_filter.mpr ⟨List.mem_range.mpr (Heap.lt_size a),by simp [q]⟩
  have z:(jA h H).get? b=none:=W.hideAll_none (trk h H) c
  rw [z] at e;cases e
structure Mod (K:W.Frag) (mg:Str->Option Value) (base:Heap):Prop where
 kin:K.In base
 glob:base.Ns mainGlobals mg
 blt:∃ mb,base.Ns builtinsNs mb/\∀ x:Str,x ≠ "__name__"->mb x=bootBuiltins x
 nolimit:base.NoLimit
structure Cx where
 prog:Program
 w:World
 K:W.Frag
 mg:Str->Option Value
 base:Heap
 A:Around
 N:List Str
 s₀:Shared
 H₀:Hp
 env:Env
 outer:List Env
 stack:List Env
 ex:List Addr
 fn:Str->Bool
 calm:Bool
 pn:LAO
 xe:VSP
noncomputable def frs (l:List Env):List Addr:=l.filterMap (·.frame)
noncomputable abbrev Cx.fs (X:Cx):List Addr:=frs X.outer
noncomputable def Vis (sc:Scope) (x:Str):Prop:=sc.names.lookup x=some .local \/ sc.names.lookup x=some .cell \/ sc.names.lookup x=some .free
noncomputable def Loc (sc:Scope) (x:Str):Prop:=sc.names.lookup x=some .local \/ sc.names.lookup x=some .cell
noncomputable def Look (env:Env) (h:Heap) (m:Str->Option Value) (x:Str) (u:Value):Prop:=
 (env.kindOf x=some .local/\m x=some u) \/ ((env.kindOf x=some .cell \/ env.kindOf x=some .free)/\∃ c,env.cells.lookup x=some c/\h.IsCell c (some u))
structure Cx.Ok (X:Cx):Prop where
 mod:Mod X.K X.mg X.base
 kind:X.env.scope.kind=.function
 glob:X.env.globals=mainGlobals
 blt:X.env.builtins=builtinsNs
 above:X.s₀.heap.objs.size <= X.env.locals
 inj:∀ x y c,X.env.cells.lookup x=some c->X.env.cells.lookup y=some c->x=y
 has:∀ x,(X.env.kindOf x=some .cell \/ X.env.kindOf x=some .free)->∃ c,X.env.cells.lookup x=some c
 cab:∀ x c,X.fn x=true->X.env.cells.lookup x=some c->X.s₀.heap.objs.size <= c
 hd:X.calm=true->X.A.handled=none
 frames:X.A.frames=some X.stack
 stk:X.stack=X.outer \/ (X.stack=X.env :: X.outer/\X.env.frame=some X.env.locals)
 exf:∀ b ∈ X.ex,b ≠ X.env.locals/\∀ x c,X.env.cells.lookup x=some c->c ≠ b
 bs:∀ b o,X.base.get? b=some o->X.s₀.heap.get? b=some o/\X.H₀ b=none
 bsz:X.base.objs.size <= X.s₀.heap.objs.size
 noex:∀ b o,X.base.get? b=some o->b ∉ X.ex
 exfs:∀ b ∈ X.ex,b ∉ X.fs
 funs:X.s₀.heap.FunFrames X.base X.outer
 frf:∀ b ∈ X.fs,X.H₀ b=none
structure Inv (X:Cx) (qp:LAO) (σ:List (Option V)) (H:Hp) (s:Shared):Prop where
 ok:X.Ok
 os:s.os=X.s₀.os
 bare:AllBare s.gens
 base:Un X.fs X.ex X.H₀ H X.s₀.heap s.heap
 loc:∃ m,s.heap.Ns X.env.locals m/\∀ (i:Nat) (x:Str) (v:V),X.N[i]?=some x->σ[i]?=some (some v)->Vis X.env.scope x->∃ u,yU v u/\Look X.env s.heap m x u
 cell:∀ x c,X.env.cells.lookup x=some c->∃ v,s.heap.IsCell c v
 free:H X.env.locals=none
 freeC:∀ x c,X.env.cells.lookup x=some c->H c=none
 pin:∀ p ∈ X.pn ++ qp,s.heap.get? p.1=some p.2/\H p.1=none/\p.1 ≠ X.env.locals/\p.1 ∉ X.fs/\∀ v,p.2.data ≠ .cell v
 hok:HOk X.prog X.w H s.heap
 len:σ.length=X.N.length
section
variable {X:Cx} {qp:LAO} {σ:List (Option V)} {H H':Hp} {s:Shared} {h':Heap}
theorem Cx.Ok.nofr (ok:X.Ok) {b:Addr} {o:Obj} (e:X.base.get? b=some o):b ∉ X.fs:=λa=>by
 have:=(ok.funs.mem a).1
 rw [e] at this;cases this
theorem Inv.bs (I:Inv X qp σ H s):∀ b o,X.base.get? b=some o->s.heap.get? b=some o/\H b=none:=λb o e=>
 ⟨I.base.keep b o (I.ok.bs b o e).1 (I.ok.bs b o e).2 (I.ok.nofr e) (I.ok.noex b o e),I.base.free b o (I.ok.bs b o e).1 (I.ok.bs b o e).2 (I.ok.noex b o e)⟩
theorem Inv.bk (I:Inv X qp σ H s):∀ b o,X.base.get? b=some o->s.heap.get? b=some o:=λb o e=>(I.bs b o e).1
theorem Inv.mod (I:Inv X qp σ H s):Mod X.K X.mg X.base:=I.ok.mod
theorem Inv.kIn (I:Inv X qp σ H s):X.K.In s.heap:=I.ok.mod.kin.keeps I.bk
theorem Inv.lt (I:Inv X qp σ H s):X.env.locals < s.heap.objs.size:=let ⟨_,a,_⟩:=I.loc;a.lt
theorem Inv.sz (I:Inv X qp σ H s):X.s₀.heap.objs.size <= s.heap.objs.size:=zMU I.ok.above (Nat.le_of_lt I.lt)
theorem Inv.nofs (I:Inv X qp σ H s) {a:Addr} (h:s.heap.objs.size <= a):a ∉ X.fs:=λb=>by
 obtain ⟨_,o,c,_⟩:=I.ok.funs.mem b
 exact absurd (zM5 (Heap.lt_size c) (zMU I.sz h)) (Nat.lt_irrefl _)
theorem Inv.cne (I:Inv X qp σ H s):∀ x c,X.env.cells.lookup x=some c->c ≠ X.env.locals:=λx c e z=>by
 obtain ⟨v,o,d,hd⟩:=I.cell x c e
 obtain ⟨m,⟨f,g,h,a,b,_⟩,_⟩:=I.loc
 rw [z,a] at d;cases d;rw [b] at hd;cases hd
theorem Inv.funs (I:Inv X qp σ H s):s.heap.FunFrames X.base X.outer:=by
 have all:∀ (l:List Env),(∀ b ∈ frs l,b ∈ X.fs)->X.s₀.heap.FunFrames X.base l->s.heap.FunFrames X.base l:=by
  intro l
  induction l with
  | nil=>intro _ _;trivial
  | cons g r h=>
   intro f i
   obtain ⟨j,⟨L,o,a,k,m,hd⟩,n⟩:=i
   have c:L ∈ X.fs:=f L (by unfold frs;rw [List.filterMap_cons,a];exact zNC)
   obtain ⟨p,e⟩:=I.base.slot L o m (I.ok.frf L c) c λz=>I.ok.exfs L z c
   exact ⟨j,⟨L,_,a,k,e,hd⟩,h (λb d=>f b (by unfold frs;rw [List.filterMap_cons,a];exact zMW _ d)) n⟩
 exact all X.outer (λ_ d=>d) I.ok.funs
theorem Inv.stack (I:Inv X qp σ H s):s.heap.FunFrames X.base X.stack:=by
 rcases I.ok.stk with e | ⟨e,a⟩
 ·rw [e];exact I.funs
 ·rw [e]
  obtain ⟨m,b,_⟩:=I.loc
  refine .cons (by rw [I.ok.kind];decide) a b ?_ I.funs
  exact Heap.get?_none_of_le (zMU I.ok.bsz I.ok.above)
theorem Inv.stkSub (I:Inv X qp σ H s):∀ b ∈ frs X.stack,b ∈ X.env.locals :: X.fs:=λb a=>by
 rcases I.ok.stk with e | ⟨e,c⟩
 ·rw [e] at a;exact zMW _ a
 ·rw [e] at a
  unfold frs at a
  rw [List.filterMap_cons,c] at a
  exact a
theorem Inv.stkFree (I:Inv X qp σ H s):∀ b ∈ frs X.stack,H b=none:=λb a=>by
 rcases List.mem_cons.mp (I.stkSub b a) with e | a
 ·rw [e];exact I.free
 ·obtain ⟨_,o,c,_⟩:=I.ok.funs.mem a
  exact I.base.free b o c (I.ok.frf b a) λz=>I.ok.exfs b z a
theorem Inv.step {g':Array GenState} {t':Nat} {d':Drawn} {ch:List Addr} (I:Inv X qp σ H s)
  (f:∀ b ∈ ch,(b ∈ X.ex \/ X.s₀.heap.objs.size <= b)/\b ≠ X.env.locals/\(∀ x c,X.env.cells.lookup x=some c->c ≠ b)/\∀ p ∈ X.pn ++ qp,p.1 ≠ b)
  (keep:∀ b o,b ≠ X.env.locals->b ∉ X.fs->b ∉ ch->s.heap.get? b=some o->H b=none->h'.get? b=some o)
  (slot:∀ b o,b ≠ X.env.locals->b ∈ X.fs->b ∉ ch->s.heap.get? b=some o->H b=none->∃ L,h'.get? b=some { o with slots:=L }) (free:∀ b o,b ∉ ch->s.heap.get? b=some o->H b=none->H' b=none)
  (there:∀ b o,b ∉ ch->s.heap.get? b=some o->∃ B,h'.get? b=some B)
  (C:∀ b xs,H b=some (.tup xs)->H' b=some (.tup xs)) (D:∀ b o u,H b=some (.frz o u)->H' b=some (.frz o u)) (E:∀ b ps,H b=some (.tbl ps)->∃ more,H' b=some (.tbl (ps ++ more)))
  (U:∀ m,s.heap.Ns X.env.locals m->h'.Ns X.env.locals m) (M:HOk X.prog X.w H' h') (Y:AllBare g') :
  Inv X qp σ H' { s with heap:=h',gens:=g',drawn:=d',toks:=t' }:=by
 have G:∀ b o,X.s₀.heap.get? b=some o->b ≠ X.env.locals:=λb o e=>zNA (zM5 (Heap.lt_size e) I.ok.above)
 have j:∀ b o,X.s₀.heap.get? b=some o->b ∉ X.ex->b ∉ ch:=λb o e a y=>by
  rcases (f b y).1 with z | z
  ·exact a z
  ·exact absurd (zM5 (Heap.lt_size e) z) (Nat.lt_irrefl _)
 have g:∀ x c,X.env.cells.lookup x=some c->∀ v,s.heap.IsCell c v->h'.IsCell c v:=λx c e v ⟨o,A,hd⟩=>by
  have h:c ∉ ch:=λz=>(f c z).2.2.1 x c e rfl
  by_cases O:c ∈ X.fs
  ·obtain ⟨L,q⟩:=slot c o (I.cne x c e) O h A (I.freeC x c e)
   exact ⟨_,q,hd⟩
  ·exact ⟨o,keep c o (I.cne x c e) O h A (I.freeC x c e),hd⟩
 refine ⟨I.ok,I.os,Y,⟨λb o e n y a=>?_,λb o e n y a=>?_,λb o e n a=>?_,λb o e a=>?_,λb xs e=>C b xs (I.base.tups b xs e),λb o xs e=>D b o xs (I.base.frzs b o xs e),λb ps e=>?_⟩,?_,λx c e=>?_,?_,λx c e=>?_,λp Q=>?_,M,I.len⟩
 ·exact keep b o (G b o e) y (j b o e a) (I.base.keep b o e n y a) (I.base.free b o e n a)
 ·obtain ⟨L,t⟩:=I.base.slot b o e n y a
  obtain ⟨N,J⟩:=slot b _ (G b o e) y (j b o e a) t (I.base.free b o e n a)
  exact ⟨N,J⟩
 ·obtain ⟨B,t⟩:=I.base.there b o e a
  exact free b B (j b o e a) t (I.base.free b o e n a)
 ·obtain ⟨B,t⟩:=I.base.there b o e a
  exact there b B (j b o e a) t
 ·obtain ⟨m1,t⟩:=I.base.tbls b ps e
  obtain ⟨m2,J⟩:=E b _ t
  exact ⟨m1 ++ m2,by rw [J,Array.append_assoc]⟩
 ·obtain ⟨m,hn,hl⟩:=I.loc
  refine ⟨m,U m hn,λi x v t J e3=>?_⟩
  obtain ⟨u,r,l⟩:=hl i x v t J e3
  refine ⟨u,r,?_⟩
  rcases l with l | ⟨k,c,e,z⟩
  ·exact .inl l
  ·exact .inr ⟨k,c,e,g x c e _ z⟩
 ·obtain ⟨v,z⟩:=I.cell x c e
  exact ⟨v,g x c e v z⟩
 ·obtain ⟨m,⟨o,_,_,A,_⟩,_⟩:=I.loc
  exact free _ o (λz=>(f _ z).2.1 rfl) A I.free
 ·obtain ⟨v,o,A,hd⟩:=I.cell x c e
  exact free c o (λz=>(f c z).2.2.1 x c e rfl) A (I.freeC x c e)
 ·obtain ⟨e,n,ne,T,d⟩:=I.pin p Q
  have h:p.1 ∉ ch:=λz=>(f p.1 z).2.2.2 p Q rfl
  exact ⟨keep p.1 p.2 ne T h e n,free p.1 p.2 h e n,ne,T,d⟩
theorem Inv.un {t':Nat} (I:Inv X qp σ H s) (u:Un X.fs [] H H' s.heap h') (c:HOk X.prog X.w H' h'):Inv X qp σ H' { s with heap:=h',toks:=t' }:=by
 obtain ⟨m,⟨o,l,p,h,r⟩,_⟩:=id I.loc
 obtain ⟨q,i⟩:=u.any h I.free (by simp)
 exact I.step (g':=s.gens) (d':=s.drawn) (ch:=[]) (λ_ z=>nomatch z) (λb o _ d _ e n=>u.keep b o e n d (by simp)) (λb o _ d _ e n=>u.slot b o e n d (by simp)) (λb o _ e n=>u.free b o e n (by simp)) (λb o _ e=>u.there b o e (by simp)) u.tups u.frzs u.tbls (λy j=>by
  obtain ⟨A,f,g,a,k⟩:=j
  rw [h] at a;cases a
  exact ⟨_,f,g,i,k⟩) c I.bare
theorem Inv.call {g':Array GenState} {t':Nat} {d':Drawn} {ch:List Addr} (I:Inv X qp σ H s) (u:Un (frs X.stack) ch H H' s.heap h') (g:HOk X.prog X.w H' h') (l:AllBare g')
  (d:∀ b ∈ ch,(b ∈ X.ex \/ X.s₀.heap.objs.size <= b)/\b ≠ X.env.locals/\(∀ x c,X.env.cells.lookup x=some c->c ≠ b)/\∀ p ∈ X.pn ++ qp,p.1 ≠ b) :
  Inv X qp σ H' { s with heap:=h',gens:=g',drawn:=d',toks:=t' }:=by
 obtain ⟨m,⟨o,y,A,k,r⟩,_⟩:=id I.loc
 obtain ⟨B,h⟩:=u.any k I.free λz=>(d _ z).2.1 rfl
 exact I.step (ch:=ch) d (λb o h q a e n=>u.keep b o e n (λz=>(List.mem_cons.mp (I.stkSub b z)).elim h q) a) (λb o _ _ a e n=>u.any e n a) (λb o a e n=>u.free b o e n a) (λb o a e=>u.there b o e a) u.tups u.frzs u.tbls (λC t=>by
  obtain ⟨D,i,j,f,v⟩:=t
  rw [k] at f;cases f
  exact ⟨_,i,j,h,v⟩) g l
theorem Inv.turned {t':Nat} {a:Addr} (I:Inv X qp σ H s) (k:∀ b o,b ≠ a->s.heap.get? b=some o->h'.get? b=some o) (h:H a=none) (g:a ≠ X.env.locals)
  (i:a ∈ X.ex \/ X.s₀.heap.objs.size <= a) (j:∀ x c,X.env.cells.lookup x=some c->c ≠ a) (l:∀ p ∈ X.pn ++ qp,p.1 ≠ a):Inv X qp σ H { s with heap:=h',toks:=t' }:=by
 have f:∀ b u,H b=some u->b ≠ a:=λb u e z=>by rw [z,h] at e;cases e
 refine I.step (g':=s.gens) (d':=s.drawn) (ch:=[a]) (λb t=>?_) (λb o _ _ d e _=>k b o (λz=>d (by simp [z])) e) (λb o _ _ d e _=>⟨o.slots,k b o (λz=>d (by simp [z])) e⟩) (λ_ _ _ _ n=>n)
  (λb o d e=>⟨o,k b o (λz=>d (by simp [z])) e⟩) (λ_ _ e=>e) (λ_ _ _ e=>e) (λb G e=>⟨#[],by rw [e];simp⟩) (λm w=>?_) (λb u e=>?_) I.bare
 ·have e:b=a:=by simpa using t
  subst e
  exact ⟨i,g,j,l⟩
 ·obtain ⟨o,y,A,B,r⟩:=w
  exact ⟨o,y,A,k _ o (Ne.symm g) B,r⟩
 ·refine (I.hok b u e).stay (λc v d q=>k c v ?_ q) (λ_ q=>q) λ_ _ q=>q
  rcases d with z | z
  ·rw [z];exact f b u e
  ·exact f c _ z
theorem Inv.tok (I:Inv X qp σ H s) (t:Nat):Inv X qp σ H { s with toks:=t }:=I.un (h':=s.heap) (t':=t) Un.refl I.hok
theorem Inv.kept {t':Nat} (I:Inv X qp σ H s) (k:∀ b u,s.heap.get? b=some u->h'.get? b=some u):Inv X qp σ H { s with heap:=h',toks:=t' }:=I.un (Un.kept k) (I.hok.kept k)
theorem Inv.laid {a:Addr} {o:HO} {t':Nat} (I:Inv X qp σ H s) (k:∀ b u,s.heap.get? b=some u->h'.get? b=some u) (c:s.heap.objs.size <= a) (new:xJ X.prog X.w (upd H a o) h' a o) :
  Inv X qp σ (upd H a o) { s with heap:=h',toks:=t' }:=I.un (Un.laid k c (I.hok.fresh c)) (I.hok.laid k c new)
theorem Inv.write {x e:Addr} {o:HO} {t':Nat} (I:Inv X qp σ H s) (c:Mut (H x)) (d:e=x \/ H e=some (.own x)) (k:∀ b u,b ≠ e->s.heap.get? b=some u->h'.get? b=some u) (a:∃ u,h'.get? e=some u)
  (new:xJ X.prog X.w (upd H x o) h' x o):Inv X qp σ (upd H x o) { s with heap:=h',toks:=t' }:=I.un (Un.write c d k a) (I.hok.write c d k a new)
theorem Inv.pins_of {a:LAO} (I:Inv X qp σ H s) (h:∀ p ∈ a,s.heap.get? p.1=some p.2/\H p.1=none/\p.1 ≠ X.env.locals/\p.1 ∉ X.fs/\∀ v,p.2.data ≠ .cell v):Inv X a σ H s:=
 ⟨I.ok,I.os,I.bare,I.base,I.loc,I.cell,I.free,I.freeC,λp b=>(zM0.mp b).elim (λz=>I.pin p (List.mem_append_left _ z)) (h p),I.hok,I.len⟩
theorem iI {N:List Str} (c:N.Nodup) {i j:Nat} {x:Str} (a:N[i]?=some x) (b:N[j]?=some x):i=j:=by
 obtain ⟨f,d⟩:=zML.mp a
 obtain ⟨g,e⟩:=zML.mp b
 exact (List.getElem_inj c).mp (d.trans e.symm)
theorem qK {M:Model} {A:Around} {E:VSP} {i:Nat} {x:Str} {v:V} {u:Value} {Q:Unit->Shared->Prop} (I:Inv X qp σ H s) (hN:X.N.Nodup) (U:X.N[i]?=some x) (hx:Loc X.env.scope x) (r:yU v u)
  (h:∀ s',Inv X qp (σ.set i (some v)) H s'->(∃ a,Heap.SameBut a s.heap s'.heap/\(a=X.env.locals \/ X.env.cells.lookup x=some a))->Q () s') (hf:X.fn x=true \/ X.env.scope.names.lookup x=some .local:=by first | exact .inl rfl | exact .inr rfl | assumption):wpAny M A (storeName X.env x u) Q E s:=by
 obtain ⟨m,hn,hl⟩:=id I.loc
 have Y:(X.env.scope.kind == .class || (X.env.scope.kind == .module && X.env.locals != X.env.globals))=false:=by rw [I.ok.kind];rfl
 have D:i < σ.length:=by rw [I.len];exact (zML.mp U).1
 have J:=I.cne
 have g:∀ {a:Addr} {h':Heap},(∃ o,s.heap.get? a=some o/\H a=none)->Heap.SameBut a s.heap h'->HOk X.prog X.w H h':=λ{a h'} ha f b ob e=>by
  obtain ⟨_,_,B⟩:=ha
  refine (I.hok b ob e).stay (λc w' t q=>(f.2 c ?_).trans q) (λ_ q=>q) λ_ _ q=>q
  rintro rfl
  rcases t with rfl | t
  ·rw [B] at e;cases e
  ·rw [B] at t;cases t
 rcases hx with G | G
 ·refine wpAny_storeName_local G hn (λh' a4 f=>?_) Y
  obtain ⟨oL,_,_,a5,_⟩:=id hn
  refine h _ ⟨I.ok,I.os,I.bare,⟨λb o e n L hx=>?_,λb o e n L hx=>?_,I.base.free,λb o e hx=>?_,I.base.tups,I.base.frzs,I.base.tbls⟩,⟨_,a4,λj y v' l C e3=>?_⟩,λy c e=>?_,I.free,I.freeC,λp hp=>?_,g ⟨oL,a5,I.free⟩ f,by simpa using I.len⟩ ⟨_,f,.inl rfl⟩
  ·exact (f.2 b (zNA (zM5 (Heap.lt_size e) I.ok.above))).trans (I.base.keep b o e n L hx)
  ·obtain ⟨sl,l⟩:=I.base.slot b o e n L hx
   exact ⟨sl,(f.2 b (zNA (zM5 (Heap.lt_size e) I.ok.above))).trans l⟩
  ·obtain ⟨o',l⟩:=I.base.there b o e hx
   exact ⟨o',(f.2 b (zNA (zM5 (Heap.lt_size e) I.ok.above))).trans l⟩
  ·by_cases O:j=i
   ·subst O
    rw [U] at l;cases l
    rw [zNG D] at C
    cases C
    exact ⟨u,r,.inl ⟨G,by simp⟩⟩
   ·rw [zNF (Ne.symm O)] at C
    obtain ⟨u',r',q⟩:=hl j y v' l C e3
    refine ⟨u',r',?_⟩
    rcases q with ⟨k,e⟩ | ⟨k,c,e,z⟩
    ·refine .inl ⟨k,?_⟩
     have:y ≠ x:=λe=>O (iI hN l (e ▸ U))
     simp [this,e]
    ·exact .inr ⟨k,c,e,z.sameBut f (J y c e)⟩
  ·obtain ⟨w',z⟩:=I.cell y c e
   exact ⟨w',z.sameBut f (J y c e)⟩
  ·obtain ⟨e,n,ne,nf,d⟩:=I.pin p hp
   exact ⟨(f.2 p.1 ne).trans e,n,ne,nf,d⟩
 ·have T:X.fn x=true:=by
   rcases hf with z | z
   ·exact z
   ·rw [z] at G;cases G
  obtain ⟨c,t⟩:=I.ok.has x (.inl G)
  obtain ⟨w',z⟩:=I.cell x c t
  refine wpAny_storeName_cell I.ok.kind G t z (λh' a0 f=>?_)
  obtain ⟨oc,a1,a2⟩:=id z
  refine h { s with heap:=h' } ⟨I.ok,I.os,I.bare,⟨λb o e n L hx=>?_,λb o e n L hx=>?_,I.base.free,λb o e hx=>?_,I.base.tups,I.base.frzs,I.base.tbls⟩,⟨m,hn.sameBut f (Ne.symm (J x c t)),λj y v' l C e3=>?_⟩,λy c' e=>?_,I.free,I.freeC,λp hp=>?_,g ⟨oc,a1,I.freeC x c t⟩ f,by simpa using I.len⟩ ⟨c,f,.inr t⟩
  ·exact (f.2 b (zNA (zM5 (Heap.lt_size e) (I.ok.cab x c T t)))).trans (I.base.keep b o e n L hx)
  ·obtain ⟨sl,l⟩:=I.base.slot b o e n L hx
   exact ⟨sl,(f.2 b (zNA (zM5 (Heap.lt_size e) (I.ok.cab x c T t)))).trans l⟩
  ·obtain ⟨o',l⟩:=I.base.there b o e hx
   exact ⟨o',(f.2 b (zNA (zM5 (Heap.lt_size e) (I.ok.cab x c T t)))).trans l⟩
  ·by_cases O:j=i
   ·subst O
    rw [U] at l;cases l
    rw [zNG D] at C
    cases C
    exact ⟨u,r,.inr ⟨.inl G,c,t,a0⟩⟩
   ·rw [zNF (Ne.symm O)] at C
    obtain ⟨u',r',q⟩:=hl j y v' l C e3
    refine ⟨u',r',?_⟩
    rcases q with q | ⟨k,c',e,z'⟩
    ·exact .inl q
    ·refine .inr ⟨k,c',e,z'.sameBut f ?_⟩
     rintro rfl
     exact O (iI hN l (I.ok.inj _ _ _ e t ▸ U))
  ·by_cases a3:c'=c
   ·subst a3;exact ⟨_,a0⟩
   ·obtain ⟨w2,z2⟩:=I.cell y c' e
    exact ⟨w2,z2.sameBut f a3⟩
  ·obtain ⟨e,n,ne,nf,d⟩:=I.pin p hp
   refine ⟨(f.2 p.1 ?_).trans e,n,ne,nf,d⟩
   intro q
   rw [q,a1] at e
   have q':oc=p.2:=zMQ e
   exact d w' (by rw [<- q'];exact a2)
theorem rN {M:Model} {A:Around} {E:VSP} {i:Nat} {x:Str} {v:V} {u:Value} {Q:Unit->Shared->Prop} (I:Inv X qp σ H s) (a:X.N.Nodup) (b:X.N[i]?=some x) (hx:Loc X.env.scope x) (r:yU v u)
  (h:∀ s',Inv X qp (σ.set i (some v)) H s'->Q () s') (c:X.fn x=true \/ X.env.scope.names.lookup x=some .local:=by first | exact .inl rfl | exact .inr rfl | assumption):wpAny M A (storeName X.env x u) Q E s:=
 qK I a b hx r (λs' d _=>h s' d) c
theorem Inv.call' {s':Shared} {ch:List Addr} (I:Inv X qp σ H s) (i:s'.os=s.os) (u:Un (frs X.stack) ch H H' s.heap s'.heap) (a:HOk X.prog X.w H' s'.heap) (j:AllBare s'.gens)
  (d:∀ b ∈ ch,(b ∈ X.ex \/ X.s₀.heap.objs.size <= b)/\b ≠ X.env.locals/\(∀ x c,X.env.cells.lookup x=some c->c ≠ b)/\∀ p ∈ X.pn ++ qp,p.1 ≠ b):Inv X qp σ H' s':=by
 obtain ⟨h',f,g,h,k⟩:=s'
 have e:k=s.os:=i
 subst e
 exact I.call (g':=f) (t':=h) (d':=g) u a j d
end
noncomputable abbrev XK:=Value->Option Addr->Hp->Prop
noncomputable abbrev St:=List (Option V)
abbrev VK:=V->Hp->Prop
noncomputable abbrev TE:=St->Hp->VK->Prop
noncomputable abbrev TT:=St->Hp->(Bool->Hp->Prop)->Prop
noncomputable abbrev TA:=St->Hp->(List V->Hp->Prop)->Prop
structure mG where
 nx:St->Hp->Prop
 rt:VK
 bk:St->Hp->Prop:=λ_ _=>False
 ct:St->Hp->Prop:=λ_ _=>False
noncomputable abbrev TS:=mG->St->Hp->Prop
noncomputable def EP (X:Cx) (qp:LAO) (σ:St) (Q:VK) (u:Value) (s':Shared):Prop:=∃ v a,Inv X qp σ a s'/\yU v u/\Q v a
noncomputable def TP (X:Cx) (qp:LAO) (σ:St) (Q:Bool->Hp->Prop) (b:Bool) (s':Shared):Prop:=∃ a,Inv X qp σ a s'/\Q b a
noncomputable def AP (X:Cx) (qp:LAO) (σ:St) (Q:List V->Hp->Prop) (us:List Value) (s':Shared):Prop:=∃ a b,Inv X qp σ b s'/\yH a us/\Q a b
noncomputable def SP (X:Cx) (qp:LAO) (D:mG) (f:Flow) (s':Shared):Prop:=
 match f with
 | .next=>∃ a b,Inv X qp a b s'/\D.nx a b
 | .brk=>∃ a b,Inv X qp a b s'/\D.bk a b
 | .cont=>∃ a b,Inv X qp a b s'/\D.ct a b
 | .ret u=>∃ v a b,Inv X qp a b s'/\yU v u/\D.rt v b
noncomputable def PE (X:Cx) (e:Expr) (t:TE):Prop:=
 ∀ (b:LAO) (s:Shared) (a:St) (H:Hp) (Q:VK),Inv X b a H s->t a H Q->wpAny (model X.prog X.w) X.A (eval e X.env) (EP X b a Q) X.xe s
noncomputable def PT (X:Cx) (e:Expr) (t:TT):Prop:=
 ∀ (b:LAO) (s:Shared) (a:St) (H:Hp) (Q:Bool->Hp->Prop),Inv X b a H s->t a H Q->wpAny (model X.prog X.w) X.A (isTrue e X.env (eval e X.env)) (TP X b a Q) X.xe s
noncomputable def PW (X:Cx) (e:Expr) (t:TT):Prop:=
 ∀ (whole:Sem Value) (b:LAO) (s:Shared) (a:St) (H:Hp) (Q:Bool->Hp->Prop),Inv X b a H s->t a H Q->wpAny (model X.prog X.w) X.A (isTrue e X.env whole) (TP X b a Q) X.xe s
theorem PW.pt {X:Cx} {e:Expr} {t:TT} (h:PW X e t):PT X e t:=h _
noncomputable def PA (X:Cx) (c:List Expr) (t:TA):Prop:=
 ∀ (pos:Pos) (b:LAO) (s:Shared) (a:St) (H:Hp) (Q:List V->Hp->Prop),Inv X b a H s->t a H Q->wpAny (model X.prog X.w) X.A (spliced (backTo pos (starEach c X.env))) (AP X b a Q) X.xe s
noncomputable def PS (X:Cx) (st:Stmt) (t:TS):Prop:=
 ∀ (a:LAO) (s:Shared) (b:St) (H:Hp) (D:mG),Inv X a b H s->t D b H->wpAny (model X.prog X.w) X.A (exec st X.env) (SP X a D) X.xe s
noncomputable def PSs (X:Cx) (st:List Stmt) (t:TS):Prop:=
 ∀ (a:LAO) (s:Shared) (b:St) (H:Hp) (D:mG),Inv X a b H s->t D b H->wpAny (model X.prog X.w) X.A (execs st X.env) (SP X a D) X.xe s
theorem thn {b:Type} {t:Sem b} {Q c:b->Shared->Prop} {M:Model} {A:Around} {E:VSP} {s:Shared} (h:wpAny M A t Q E s) (d:∀ a s,Q a s->c a s):wpAny M A t c E s:=wpAny_mono h d λ_ _ x=>x
section
variable {X:Cx}
noncomputable def tM (i:Nat):TE:=λa H Q=>∃ v,a[i]?=some (some v)/\Q v H
noncomputable def tC (v:V):TE:=λ_ H Q=>Q v H
theorem zHJ {i:Nat} {x:Str} {pos:Pos} (g:X.N[i]?=some x) (j:Vis X.env.scope x) (hd:(x == ("__debug__" : Str))=false:=by decide) (d:(x == ("__classdict__" : Str))=false:=by decide):PE X (.Name x pos) (tM i):=by
 intro k s n H Q I h
 obtain ⟨v,e,h⟩:=h
 obtain ⟨m,o,p⟩:=I.loc
 obtain ⟨u,r,l⟩:=p i x v g e j
 have fin:EP X k n Q u s:=⟨v,H,I,r,h⟩
 rcases l with ⟨b,q⟩ | ⟨b,c,f,a⟩
 ·exact wpAny_Name (wpAny_loadName_local I.ok.kind b o q fin) hd
 ·rcases b with b | b
  ·exact wpAny_Name (wpAny_loadName_cell I.ok.kind b f a fin) hd
  ·exact wpAny_Name (wpAny_loadName_free I.ok.kind b f a fin d) hd
theorem zH {i j pos}:PE X (.Constant (.int i) j pos) (tC (.int i)):=λ_ _ _ H _ I h=>wpAny_Constant_int ⟨.int i,H,I.tok _,⟨_,rfl⟩,h⟩
theorem wH {b j pos}:PE X (.Constant (.bool b) j pos) (tC (.bl b)):=λ_ _ _ H _ I h=>Constant_bool ⟨.bl b,H,I,rfl,h⟩
theorem yV {j pos}:PE X (.Constant .none j pos) (tC .non):=λ_ _ _ H _ I h=>Constant_none ⟨.non,H,I,rfl,h⟩
theorem zJ {x j pos}:PE X (.Constant (.str x) j pos) (tC (.str x)):=λ_ _ _ H _ I h=>Calls.Constant_str ⟨.str x,H,I.tok _,⟨_,rfl⟩,h⟩
noncomputable def Gl (X:Cx) (x:Str):Prop:=X.env.kindOf x=some .globalImplicit
theorem sN {E:VSP} {qp:LAO} {s:Shared} {σ:St} {H:Hp} {x:Str} {u:Value} {pos:Pos} {Q:VSP} (I:Inv X qp σ H s) (a:Gl X x) (b:X.mg x=some u) (h:Q u s)
  (hd:(x == ("__debug__" : Str))=false:=by decide):wpAny (model X.prog X.w) X.A (eval (.Name x pos) X.env) Q E s:=
 Calls.Name_function_global I.ok.kind a (Calls.loadGlobal_global (by rw [I.ok.glob];exact I.mod.glob.keeps I.bk) b h) hd
theorem rE {E:VSP} {qp:LAO} {s:Shared} {σ:St} {H:Hp} {x:Str} {u:Value} {pos:Pos} {Q:VSP} (I:Inv X qp σ H s) (a:Gl X x) (b:X.mg x=none) (c:bootBuiltins x=some u) (h:Q u s)
  (d:x ≠ "__name__":=by decide) (hd:(x == ("__debug__" : Str))=false:=by decide):wpAny (model X.prog X.w) X.A (eval (.Name x pos) X.env) Q E s:=by
 obtain ⟨g,e,f⟩:=I.mod.blt
 exact Calls.Name_function_global I.ok.kind a (Calls.loadGlobal_builtin (by rw [I.ok.glob];exact I.mod.glob.keeps I.bk) b (by rw [I.ok.blt];exact e.keeps I.bk) ((f x d).trans c) h) hd
theorem zD0 {x:Str} {v:V} {u:Value} {pos:Pos} (a:Gl X x) (b:X.mg x=some u) (r:yU v u) (hd:(x == ("__debug__" : Str))=false:=by decide):PE X (.Name x pos) (tC v):=
 λ_ _ _ H _ I h=>sN I a b ⟨v,H,I,r,h⟩ hd
theorem zD2 {x:Str} {v:V} {u:Value} {pos:Pos} (a:Gl X x) (b:X.mg x=none) (c:bootBuiltins x=some u) (r:yU v u) (d:x ≠ "__name__":=by decide) (hd:(x == ("__debug__" : Str))=false:=by decide):PE X (.Name x pos) (tC v):=
 λ_ _ _ H _ I h=>rE I a b c ⟨v,H,I,r,h⟩ d hd
variable {a b:Expr} {ta tb:TE} {pos:Pos}
noncomputable def PC (X:Cx) (op:CmpOp) (a b:Expr) (t:TE):Prop:=
 ∀ (f:LAO) (s:Shared) (e:St) (H:Hp) (Q:VK),Inv X f e H s->t e H Q ->
  wpAny (model X.prog X.w) X.A (eval a X.env) (λv c=>wpAny (model X.prog X.w) X.A (eval b X.env) (λu d=>wpAny (model X.prog X.w) X.A (compareOp op v u) (EP X f e Q) X.xe d) X.xe c) X.xe s
noncomputable def tB (t:TE):TT:=λd H Q=>t d H λx e=>∃ c,x=.bl c/\Q c e
theorem kU {op:CmpOp} {t:TE} (h:PC X op a b t) (e:behindInMarks op b=false:=by first | exact nobehind _ (by decide) (by decide) | rfl):PT X (.Compare a [op] [b] pos) (tB t):=by
 intro g s i H Q I j
 refine wpAny_isTrue_Compare1 (thn (h g s i H _ I j) λv p e=>thn e λu r k=>thn k λc w f=>?_) e
 obtain ⟨x,l,m,n,o⟩:=f
 obtain ⟨d,rfl,q⟩:=o
 cases n
 exact wpAny_truthy_bool ⟨l,m,q⟩
theorem y3 {e:Expr} {t:TE} (h:PE X e t) (f:∀ whole,isTrue e X.env whole=(do let v <- whole;standAt e.pos;holding [v] (truthy v)):=by intro _;rfl):PT X e (tB t):=by
 intro g s i H Q I j
 refine isTrue_plain (thn (h g s i H _ I j) λv o c=>?_) (f _)
 obtain ⟨x,k,l,m,n⟩:=c
 obtain ⟨d,rfl,q⟩:=n
 cases m
 exact wpAny_truthy_bool ⟨k,l,q⟩
variable {tA tB':TT} {rest:List Expr}
noncomputable def tAnd (t u:TT):TT:=λd H Q=>t d H λc e=>if c=true then u d e Q else Q false e
noncomputable def tOr (t u:TT):TT:=λd H Q=>t d H λc e=>if c=true then Q true e else u d e Q
noncomputable def tNot (t:TT):TT:=λd H Q=>t d H λc e=>Q (!c) e
theorem pT (d:PT X a tA):PW X (.BoolOp .And [a] pos) tA:=by
 intro i f s g H Q I h
 refine isTrue_and (thn (d f s g H Q I h) λc j e=>?_)
 cases c with
 | true=>exact isTrue_and_nil e
 | false=>exact e
theorem tP (d:PT X a tA):PW X (.BoolOp .Or [a] pos) tA:=by
 intro i f s g H Q I h
 refine isTrue_or (thn (d f s g H Q I h) λc j e=>?_)
 cases c with
 | false=>exact isTrue_or_nil e
 | true=>exact e
theorem kS (k:PT X a tA) (l:PW X (.BoolOp .And (b :: rest) pos) tB'):PW X (.BoolOp .And (a :: b :: rest) pos) (tAnd tA tB'):=by
 intro m e s f H Q I h
 refine isTrue_and (thn (k e s f H _ I h) λc n d=>?_)
 obtain ⟨g,i,j⟩:=d
 cases c with
 | true=>exact l m e n f g Q i j
 | false=>exact ⟨g,i,j⟩
theorem rS (k:PT X a tA) (l:PW X (.BoolOp .Or (b :: rest) pos) tB'):PW X (.BoolOp .Or (a :: b :: rest) pos) (tOr tA tB'):=by
 intro m e s f H Q I h
 refine isTrue_or (thn (k e s f H _ I h) λc n d=>?_)
 obtain ⟨g,i,j⟩:=d
 cases c with
 | true=>exact ⟨g,i,j⟩
 | false=>exact l m e n f g Q i j
theorem y9 (d:PT X a tA):PT X (.UnaryOp .Not a pos) (tNot tA):=by
 intro e s f H Q I h
 exact isTrue_not (d e s f H (λc g=>Q (!c) g) I h)
noncomputable def zJA (ta tb:TE):TE:=λd H Q=>ta d H λx e=>∃ c,x=.bl c/\if c=true then tb d e Q else Q (.bl false) e
noncomputable def tOrV (ta tb:TE):TE:=λd H Q=>ta d H λx e=>∃ c,x=.bl c/\if c=true then Q (.bl true) e else tb d e Q
noncomputable def zI5 (ta:TE):TE:=λd H Q=>ta d H λx e=>∃ c,x=.bl c/\Q (.bl (!c)) e
theorem uN {op} {t:TE} (h:PE X a t):PE X (.BoolOp op [a] pos) t:=λc s d H Q I e=>BoolOp_one (h c s d H Q I e)
theorem uF (k:PE X a ta) (l:PE X (.BoolOp .And (b :: rest) pos) tb):PE X (.BoolOp .And (a :: b :: rest) pos) (zJA ta tb):=by
 intro f s g H Q I h
 refine BoolOp_and (thn (k f s g H _ I h) λv m e=>?_)
 obtain ⟨x,i,j,n,d⟩:=e
 obtain ⟨c,rfl,d⟩:=d
 cases n
 refine wpAny_truthy_bool ?_
 cases c with
 | true=>exact l f m g i Q j d
 | false=>exact ⟨.bl false,i,j,rfl,d⟩
theorem zKT (k:PE X a ta) (l:PE X (.BoolOp .Or (b :: rest) pos) tb):PE X (.BoolOp .Or (a :: b :: rest) pos) (tOrV ta tb):=by
 intro f s g H Q I h
 refine BoolOp_or (thn (k f s g H _ I h) λv m e=>?_)
 obtain ⟨x,i,j,n,d⟩:=e
 obtain ⟨c,rfl,d⟩:=d
 cases n
 refine wpAny_truthy_bool ?_
 cases c with
 | false=>exact l f m g i Q j d
 | true=>exact ⟨.bl true,i,j,rfl,d⟩
theorem gX (f:PE X a ta):PE X (.UnaryOp .Not a pos) (zI5 ta):=by
 intro g s i H Q I h
 refine UnaryOp_ (thn (f g s i H _ I h) λv m d=>?_)
 obtain ⟨x,j,k,l,e⟩:=d
 obtain ⟨c,rfl,e⟩:=e
 cases l
 exact not_of (wpAny_truthy_bool ⟨.bl (!c),j,k,rfl,e⟩)
noncomputable def tIf (t:TT) (ta tb:TE):TE:=λd H Q=>t d H λc e=>if c=true then ta d e Q else tb d e Q
theorem rX {c:Expr} (m:PT X c tA) (n:PE X a ta) (o:PE X b tb):PE X (.IfExp c a b pos) (tIf tA ta tb):=by
 intro e s f H Q I h
 refine wpAny_IfExp (thn (m e s f H _ I h) λd i g=>?_)
 obtain ⟨j,k,l⟩:=g
 cases d with
 | true=>exact n e i f j Q k l
 | false=>exact o e i f j Q k l
end
noncomputable def SqL (K:W.Frag) (H:Hp) (a:Addr) (xs:List V):Prop:=
 Rd H a (.lst xs) \/
  ∃ (o:Obj) (b:Array Value) (n:Nat),K.lookup a=some o/\o.cls=.type "list"/\o.dict=none/\o.data=.seq b n/\b.size <= sizeLine/\yH xs b.toList
noncomputable def SqT (K:W.Frag) (H:Hp) (a:Addr) (xs:List V):Prop:=
 Rd H a (.tup xs) \/
  ∃ (o:Obj) (b:Array Value) (n:Nat),K.lookup a=some o/\o.cls=.type "tuple"/\o.data=.seq b n/\b.size <= sizeLine/\yH xs b.toList
noncomputable def absV:Value->Option V
 | .none=>some .non
 | .bool b=>some (.bl b)
 | .int i _=>some (.int i)
 | .str x _=>some (.str x)
 | .bytes b _=>some (.byt b)
 | .float b _=>some (.flt b)
 | .ref a=>some (.ref a)
 | .type n=>some (.ty n)
 | _=>none
theorem yU.abs {x:V} {u:Value} (r:yU x u):absV u=some x:=by
 cases x with
 | non=>cases r;rfl
 | bl _=>cases r;rfl
 | int _=>obtain ⟨t,rfl⟩:=r;rfl
 | str _=>obtain ⟨t,rfl⟩:=r;rfl
 | byt _=>obtain ⟨t,rfl⟩:=r;rfl
 | flt _=>obtain ⟨t,rfl⟩:=r;rfl
 | ref _=>cases r;rfl
 | ty _=>cases r;rfl
theorem yU.inj {x y:V} {u:Value} (r:yU x u) (q:yU y u):x=y:=zMQ (r.abs.symm.trans q.abs)
theorem yH.inj:∀ {xs ys:List V} {us:List Value},yH xs us->yH ys us->xs=ys
 | _,_,_,.nil,.nil=>rfl
 | _,_,_,.cons r t,.cons a b=>by rw [r.inj a,yH.inj t b]
section
variable {X:Cx} {qp:LAO} {σ:St} {H:Hp} {s:Shared} {a:Addr} {xs ys:List V}
theorem SqL.of {K:W.Frag} (h:H a=some (.lst xs)):SqL K H a xs:=.inl (.inl h)
theorem SqT.of {K:W.Frag} (h:H a=some (.tup xs)):SqT K H a xs:=.inl (.inl h)
theorem Inv.list (I:Inv X qp σ H s) (h:SqL X.K H a xs):∃ its:List Value,yH xs its/\PlainL s.heap a its.toArray/\xs.length <= sizeLine:=by
 rcases h with h | ⟨o,its,n,b,c,hd,d,f,r⟩
 ·obtain ⟨z,its,n,r,e⟩:=h.ok I.hok
  exact ⟨its,r,⟨_,n,e,rfl,rfl,rfl⟩,z⟩
 ·refine ⟨its.toList,r,⟨o,n,I.kIn a o b,c,hd,by simpa using d⟩,?_⟩
  have e:=r.length
  simp only [Array.length_toList] at e
  omega
theorem Inv.tuple (I:Inv X qp σ H s) (h:SqT X.K H a xs):∃ its:List Value,yH xs its/\IsTup s.heap a its.toArray/\xs.length <= sizeLine:=by
 rcases h with h | ⟨o,its,n,b,c,d,f,r⟩
 ·obtain ⟨z,its,r,p⟩:=h.ok I.hok
  exact ⟨its,r,p,z⟩
 ·refine ⟨its.toList,r,⟨o,I.kIn a o b,c,n,by simpa using d⟩,?_⟩
  have e:=r.length
  simp only [Array.length_toList] at e
  omega
theorem Inv.list_inj (I:Inv X qp σ H s) (h:SqL X.K H a xs) (h':SqL X.K H a ys):xs=ys:=by
 obtain ⟨c,r,⟨o,n,e,_,_,d⟩,_⟩:=I.list h
 obtain ⟨b,i,⟨k,l,f,_,_,g⟩,_⟩:=I.list h'
 rw [e] at f;cases f
 rw [d] at g
 injection g with j _
 have:c=b:=by simpa using congrArg Array.toList j
 subst this
 exact r.inj i
theorem Inv.tuple_inj (I:Inv X qp σ H s) (h:SqT X.K H a xs) (h':SqT X.K H a ys):xs=ys:=by
 obtain ⟨c,r,⟨o,e,_,n,d⟩,_⟩:=I.tuple h
 obtain ⟨b,i,⟨k,f,_,l,g⟩,_⟩:=I.tuple h'
 rw [e] at f;cases f
 rw [d] at g
 injection g with j _
 have:c=b:=by simpa using congrArg Array.toList j
 subst this
 exact r.inj i
end
noncomputable abbrev Cx.wish (X:Cx) (E:VSP):Cx:={ X with xe:=E }
noncomputable abbrev Cx.nox (X:Cx):Cx:=X.wish λ_ _=>False
theorem Cx.Ok.wish {X:Cx} (ok:X.Ok) (E:VSP):(X.wish E).Ok:=
 ⟨ok.mod,ok.kind,ok.glob,ok.blt,ok.above,ok.inj,ok.has,ok.cab,ok.hd,ok.frames,ok.stk,ok.exf,ok.bs,ok.bsz,ok.noex,ok.exfs,ok.funs,ok.frf⟩
theorem Cx.Ok.unwish {X:Cx} {E:VSP} (ok:(X.wish E).Ok):X.Ok:=
 ⟨ok.mod,ok.kind,ok.glob,ok.blt,ok.above,ok.inj,ok.has,ok.cab,ok.hd,ok.frames,ok.stk,ok.exf,ok.bs,ok.bsz,ok.noex,ok.exfs,ok.funs,ok.frf⟩
section
variable {X:Cx} {qp:LAO} {σ:St} {H:Hp} {s:Shared} {E:VSP}
theorem Inv.wish (I:Inv X qp σ H s) (E:VSP):Inv (X.wish E) qp σ H s:=⟨I.ok.wish E,I.os,I.bare,I.base,I.loc,I.cell,I.free,I.freeC,I.pin,I.hok,I.len⟩
theorem Inv.unwish (I:Inv (X.wish E) qp σ H s):Inv X qp σ H s:=⟨I.ok.unwish,I.os,I.bare,I.base,I.loc,I.cell,I.free,I.freeC,I.pin,I.hok,I.len⟩
theorem SP.unwish {D:mG} {f:Flow} {s':Shared} (h:SP (X.wish E) qp D f s'):SP X qp D f s':=by
 cases f with
 | next=>obtain ⟨a,b,I,q⟩:=h;exact ⟨a,b,I.unwish,q⟩
 | brk=>obtain ⟨a,b,I,q⟩:=h;exact ⟨a,b,I.unwish,q⟩
 | cont=>obtain ⟨a,b,I,q⟩:=h;exact ⟨a,b,I.unwish,q⟩
 | ret u=>obtain ⟨v,a,b,I,r,q⟩:=h;exact ⟨v,a,b,I.unwish,r,q⟩
theorem PSs.nox {st:List Stmt} {t:TS} (h:PSs X.nox st t):PSs X st t:=λqp s σ H D I a=>
 wpAny_mono (h qp s σ H D (I.wish _) a) (λ_ _ q=>q.unwish) λ_ _ z=>False.elim z
end
section
variable {X:Cx} {st:Stmt} {rest:List Stmt} {t u:TS} {e:Expr} {te:TE} {pos:Pos}
noncomputable def f8:TS:=λD a H=>D.nx a H
noncomputable def u6 (t u:TS):TS:=λD a H=>t { D with nx:=u D } a H
theorem zM:PSs X [] f8:=λ_ _ a H _ I h=>wpAny_execs_nil ⟨a,H,I,h⟩
theorem zD (c:PS X st t) (d:PSs X rest u):PSs X (st :: rest) (u6 t u):=by
 intro b s g H D I h
 refine wpAny_execs_cons (thn (c b s g H { D with nx:=u D } I h) λf i q=>?_)
 cases f with
 | next=>
  obtain ⟨a,j,k,q⟩:=q
  exact d b i a j D k q
 | ret v=>exact q
 | brk=>exact q
 | cont=>exact q
theorem zF (a:PS X st t):PSs X [st] t:=by
 intro b s c H D I h
 refine wpAny_execs_cons (thn (a b s c H D I h) λf d q=>?_)
 cases f with
 | next=>exact wpAny_execs_nil q
 | ret v=>exact q
 | brk=>exact q
 | cont=>exact q
theorem Inv.quiet {qp:LAO} {σ:St} {H:Hp} {s:Shared} (I:Inv X qp σ H s):interactive X.env=false:=by simp [interactive,I.ok.kind]
noncomputable def zI6 (te:TE):TS:=λD a H=>te a H λ_ b=>D.nx a b
theorem yA (b:PE X e te) (c:swapsWith e none pos.line X.env=pure false:=by rfl):PS X (.Expr e pos) (zI6 te):=by
 intro d s a H D I h
 exact wpAny_Expr_any (thn (b d s a H _ I h) λv j ⟨x,f,g,k,i⟩=>⟨a,f,g,i⟩) I.quiet c
noncomputable def cG (te:TE):TS:=λD a H=>te a H D.rt
theorem zL (b:PE X e te):PS X (.Return (some e) pos) (cG te):=by
 intro c s a H D I h
 exact wpAny_Return_some (thn (b c s a H _ I h) λv j ⟨x,d,f,g,i⟩=>⟨x,a,d,f,g,i⟩)
noncomputable def zC1 (c:TT) (t u:TS):TS:=λD a H=>c a H λb d=>if b=true then t D a d else u D a d
theorem z5 {c:Expr} {a b:List Stmt} {j:TT} (o:PT X c j) (p:PSs X a t) (q:PSs X b u):PS X (.If c a b pos) (zC1 j t u):=by
 intro f s g H D I h
 refine wpAny_If (thn (o f s g H _ I h) λd k i=>?_)
 obtain ⟨l,m,n⟩:=i
 cases d with
 | true=>exact p f k g l D m n
 | false=>exact q f k g l D m n
noncomputable def aH:TS:=λ_ _ _=>False
theorem xH:PS X st aH:=λ_ _ _ _ _ _ h=>h.elim
theorem wL {a:List Stmt}:PSs X a aH:=λ_ _ _ _ _ _ h=>h.elim
end
noncomputable abbrev TG:=V->St->Hp->(St->Hp->Prop)->Prop
noncomputable abbrev TGs:=List V->St->Hp->(St->Hp->Prop)->Prop
noncomputable def PG (X:Cx) (target:Expr) (t:TG):Prop:=
 ∀ (b:LAO) (s:Shared) (c:St) (H:Hp) (v:V) (u:Value) (Q:St->Hp->Prop),Inv X b c H s->yU v u->t v c H Q ->
  wpAny (model X.prog X.w) X.A (assign target X.env u) (λ_ e=>∃ a d,Inv X b a d e/\Q a d) X.xe s
noncomputable def PGs (X:Cx) (g:List Expr) (t:TGs):Prop:=
 ∀ (b:LAO) (s:Shared) (c:St) (H:Hp) (d:List V) (e:List Value) (Q:St->Hp->Prop),Inv X b c H s->yH d e->t d c H Q ->
  wpAny (model X.prog X.w) X.A (assignInOrder ((assignEach g X.env).map (·.2)) e) (λ_ h=>∃ a f,Inv X b a f h/\Q a f) X.xe s
noncomputable abbrev zIX:=V->V->V->Hp->(Hp->Prop)->Prop
noncomputable def zMF (X:Cx) (t:zIX):Prop:=
 ∀ (a:LAO) (s:Shared) (b:St) (H:Hp) (o i v:V) (c d u:Value) (Q:Hp->Prop),Inv X a b H s->yU o c->yU i d->yU v u->t o i v H Q ->
  wpAny (model X.prog X.w) X.A (setItem c d u) (λ_ f=>∃ e,Inv X a b e f/\Q e) X.xe s
section
variable {X:Cx} {pos:Pos}
noncomputable def wI (i:Nat):TG:=λv a H Q=>Q (a.set i (some v)) H
theorem yL {i:Nat} {x:Str} (a:X.N.Nodup) (b:X.N[i]?=some x) (hx:Loc X.env.scope x) (c:X.fn x=true \/ X.env.scope.names.lookup x=some .local:=by first | exact .inl rfl | exact .inr rfl | assumption):PG X (.Name x pos) (wI i):=by
 intro e s f H v u Q I r h
 exact wpAny_assign_Name (rN I a b hx r (λg d=>⟨_,H,d,h⟩) c)
noncomputable def bO:TGs:=λa b H Q=>a=[]/\Q b H
noncomputable def t6 (t:TG) (u:TGs):TGs:=λb c H Q=>∃ v r,b=v :: r/\t v c H λa d=>u r a d Q
theorem uA:PGs X [] bO:=by
 intro b s a H c d Q I r h
 obtain ⟨e,h⟩:=h
 subst e
 cases r
 exact assignInOrder_nil ⟨a,H,I,h⟩
theorem yT {e:Expr} {b:List Expr} {t:TG} {u:TGs} (f:PG X e t) (g:PGs X b u)
  (i:(assignEach (e :: b) X.env).map (·.2)=assign e X.env :: (assignEach b X.env).map (·.2):=by rfl):PGs X (e :: b) (t6 t u):=by
 intro d s j H q w Q I r h
 obtain ⟨v,x,k,h⟩:=h
 subst k
 cases r with
 | cons r l=>
  rw [i]
  refine assignInOrder_cons (thn (f d s j H _ _ _ I r h) λ_ m a=>?_)
  obtain ⟨c,n,o,p⟩:=a
  exact g d m c n _ _ Q o l p
noncomputable def bN (K:W.Frag) (n:Nat) (t:TGs):TG:=λv c H Q=>∃ a b,v=.ref a/\SqT K H a b/\b.length=n/\t b c H Q
theorem u7 {c:List Expr} {k:Nat} {t:TGs} {n:Nat} (l:X.calm=true) (h:PGs X c t)
  (m:(assignEach c X.env).length=n:=by rfl) (d:(assignEach c X.env).findIdx? (·.1)=none:=by rfl):PG X (.Tuple c k pos) (bN X.K n t):=by
 intro g s i H v u Q I r f
 obtain ⟨a,p,q,w,x,f⟩:=f
 subst q
 cases r
 obtain ⟨y,j,z,D⟩:=I.tuple w
 refine assign_Tuple_tuple (I.ok.hd l) z (by simp [m,<- x,j.length]) d λA B=>?_
 have C:Inv X g i H { s with heap:=A }:=I.kept (t':=s.toks) λb o e=>B b o (zNA (Heap.lt_size e)) e
 exact h g _ i H p _ Q C (by simpa using j) f
noncomputable def zLZ (b c:TE) (t:zIX):TG:=λv a H Q=>b a H λo d=>c a d λi e=>t o i v e λf=>Q a f
theorem zA3 {o i:Expr} {j k:TE} {t:zIX} (l:PE X o j) (m:PE X i k) (n:zMF X t)
  (p:∀ v,assign (.Subscript o i pos) X.env v=(do
   let a <- holding [v] (eval o X.env)
   let b <- holding [v,a] (eval i X.env)
   standAt pos
   holding [v,a,b] (setItem a b v)
   release [v,a,b] []):=by intro _;rfl):PG X (.Subscript o i pos) (zLZ j k t):=by
 intro g s f H v u Q I r h
 rw [p]
 refine wpAny_bind (wpAny_holding (thn (l g s f H _ I h) λa q c=>?_))
 obtain ⟨x,w,z,A,B⟩:=c
 refine wpAny_bind (wpAny_holding (thn (m g q f w _ z B) λb C d=>?_))
 obtain ⟨y,D,E,G,J⟩:=d
 refine wpAny_bind (wpAny_standAt (wpAny_bind (wpAny_holding (thn (n g C f D x y v a b u _ E A G r J) λ_ O e=>?_))))
 obtain ⟨L,M,N⟩:=e
 exact wpAny_release ⟨f,L,M,N⟩
noncomputable def oE (b:TE) (g:TG):TS:=λD a H=>b a H λx c=>g x a c D.nx
theorem qQ {a e:Expr} {c:TE} {g:TG} (i:PE X e c) (j:PG X a g) (k:swapsWithSole [a] e pos.line X.env=pure false:=by rfl) (l:swappedStores [a] e X.env=pure none:=by rfl)
  (m:(assignEach [a] X.env).map (·.2)=[assign a X.env]:=by rfl):PS X (.Assign [a] e pos) (oE c g):=by
 intro d s f H D I h
 refine wpAny_Assign_stores (thn (i d s f H _ I h) λv n b=>?_) k l
 obtain ⟨x,o,p,r,t⟩:=b
 rw [m]
 exact thn (j d n f o x v _ p r t) λ_ u q=>q
theorem zX {i:Nat} {x:Str} {e:Expr} {c:TE} {a:Pos} (d:X.N.Nodup) (f:X.N[i]?=some x) (hx:Loc X.env.scope x) (g:PE X e c) (j:swapsWith e (some (.Name x a)) pos.line X.env=pure false:=by rfl) (k:X.fn x=true \/ X.env.scope.names.lookup x=some .local:=by first | exact .inl rfl | exact .inr rfl | assumption) :
  PS X (.Assign [.Name x a] e pos) (oE c (wI i)):=by
 intro l s m H D I h
 refine wpAny_Assign_Name (thn (g l s m H _ I h) λv t b=>?_) j
 obtain ⟨y,n,o,p,q⟩:=b
 exact rN o d f hx p (λu r=>⟨_,n,r,q⟩) k
end
structure It where
 go:Nat->Hp->Prop
 yld:Nat->Hp->V->Hp->Prop
 stop:Nat->Hp->Prop
noncomputable def uW (X:Cx) (qp:LAO) (H:Hp) (b:Addr):Prop:=
 H b=none/\b ≠ X.env.locals/\b ∉ X.fs/\(b ∈ X.ex \/ X.s₀.heap.objs.size <= b)/\(∀ x c,X.env.cells.lookup x=some c->c ≠ b)/\∀ p ∈ X.pn ++ qp,p.1 ≠ b
theorem Inv.fpOk {X:Cx} {qp:LAO} {σ:St} {H d:Hp} {s:Shared} {b:Addr} (I:Inv X qp σ H s) (a:s.heap.objs.size <= b) (f:d b=none):uW X qp d b:=by
 refine ⟨f,Nat.ne_of_gt (zM5 I.lt a),I.nofs a,.inr (zMU I.sz a),λx c e z=>?_,λp g z=>?_⟩
 ·obtain ⟨v,q⟩:=I.cell x c e
  exact absurd (zM5 q.lt (by rw [z];exact a)) (Nat.lt_irrefl _)
 ·exact absurd (zM5 (Heap.lt_size (I.pin p g).1) (by rw [z];exact a)) (Nat.lt_irrefl _)
structure zCS (P:Program) (w:World) (K:W.Frag) (tg:Expr) (J:It) (fp:List Addr) (it:Addr) (tn:Nat->Heap->Prop):Prop where
 mem:it ∈ fp
 obj:∀ i h,tn i h->∀ b ∈ fp,∃ o,h.get? b=some o/\∀ v,o.data ≠ .cell v
 keep:∀ i h h',tn i h->(∀ b ∈ fp,∀ o,h.get? b=some o->h'.get? b=some o)->tn i h'
 item:∀ (X:Cx),X.prog=P->X.w=w->X.K=K->X.calm=true->∀ (i:Nat) (qp:LAO) (s:Shared) (σ:St) (H:Hp) (E:VSP),Inv X qp σ H s->(∀ b ∈ fp,uW X qp H b)->tn i s.heap->J.go i H ->
  wpAny (model P w) X.A (pyNext (.ref it)) (λr s1=>∃ u,r=some u /\
   wpAny (model P w) X.A (letOwnedTupleGo tg (.ref it) u) (λ_ s2=>∃ x H',Inv X qp σ H' s2/\yU x u/\J.yld i H x H'/\tn (i + 1) s2.heap/\∀ b ∈ fp,H' b=none) E s1) E s
 done:∀ (X:Cx),X.prog=P->X.w=w->X.K=K->X.calm=true->∀ (i:Nat) (qp:LAO) (s:Shared) (σ:St) (H:Hp) (E:VSP),Inv X qp σ H s->(∀ b ∈ fp,uW X qp H b)->tn i s.heap->J.stop i H ->
  wpAny (model P w) X.A (pyNext (.ref it)) (λr s1=>r=none/\Inv X qp σ H s1) E s
 self:∀ (A:Around) (i:Nat) (s:Shared) (Q:VSP) (E:VSP),tn i s.heap->Q (.ref it) s->wpAny (model P w) A (pyIter (.ref it)) Q E s
noncomputable abbrev TI:=St->Hp->(It->Hp->Prop)->Prop
noncomputable def PIE (X:Cx) (qp:LAO) (σ:St) (h:Expr) (R:It->Hp->Prop) (a:Value) (d:Shared):Prop:=
 ∃ (e:Addr) (f:List Addr) (g:Nat->Heap->Prop) (J:It) (c:Hp),a=.ref e/\Inv X qp σ c d/\zCS X.prog X.w X.K h J f e g/\g 0 d.heap/\(∀ b ∈ f,uW X qp c b)/\R J c
noncomputable def PI (X:Cx) (c iter:Expr) (d:TI):Prop:=
 ∀ (b:LAO) (s:Shared) (a:St) (H:Hp) (R:It->Hp->Prop),Inv X b a H s->d a H R ->
  wpAny (model X.prog X.w) X.A (eval iter X.env) (λv e=>wpAny (model X.prog X.w) X.A (pyIter v) (PIE X b a c R) X.xe e) X.xe s
theorem dW {M:Model} {A:Around} {E:VSP} {s:Shared} {b:Expr} {c:Addr} {u:Value} {o:Obj} {n:String} {vs:Array Value} {Q:Unit->Shared->Prop} (d:s.heap.get? c=some o) (e:o.cls=.type n) (hd:o.data=.fields vs)
    (f:["enumerate","zip","dict_itemiterator","dict_reverseitemiterator","odict_iterator","itertools.zip_longest","itertools.pairwise"].contains n=false) (a:Q () s):wpAny M A (letOwnedTupleGo b (.ref c) u) Q E s:=by
  unfold letOwnedTupleGo
  cases b <;> first
    | exact wpAny_pure a
    | (cases u <;> first
        | exact wpAny_pure a
        | (refine wpAny_bind (wpAny_load d ?_)
           rw [e,hd]
           show wpAny M A (if (["enumerate","zip","dict_itemiterator","dict_reverseitemiterator","odict_iterator","itertools.zip_longest","itertools.pairwise"].contains n && vs[0]? == some (rawInt _))=true then _ else _) Q E s
           rw [if_neg (by intro h;rw [f,Bool.false_and] at h;cases h)]
           exact wpAny_pure a))
noncomputable def Itl (K:W.Frag) (a:Addr):It:=
 ⟨λi H=>∃ b x,SqL K H a b/\b[i]?=some x,λi H x c=>c=H/\∀ b,SqL K H a b->b[i]?=some x,λi H=>∃ b,SqL K H a b/\b.length <= i⟩
noncomputable def Itr (lo:Int) (n:Nat):It:=⟨λi _=>i < n,λi H x a=>a=H/\x=.int (lo + i),λi _=>n <= i⟩
theorem cE {P:Program} {w:World} {K:W.Frag} {tg:Expr} (a it:Addr):zCS P w K tg (Itl K a) [it] it (λi h=>h.IsListIter it a i) where
 mem:=by simp
 obj:=λi h st b hb=>by
  have e:b=it:=by simpa using hb
  subst e
  obtain ⟨o,e,c,d⟩:=st
  exact ⟨o,e,λv z=>by rw [d] at z;cases z⟩
 keep:=λi h h' st k=>st.at λo e=>k it (by simp) o e
 item:=by
  intro X hP hw hK hc i qp s σ H E I hf st hg
  subst hP hw hK
  obtain ⟨xs,x,hq,hx⟩:=hg
  obtain ⟨its,rv,p,hz⟩:=I.list hq
  obtain ⟨u,hu,ru⟩:=rv.get hx
  obtain ⟨f0,f1,f2,f3,f4,f5⟩:=hf it (by simp)
  refine wpAny_pyNext_list_item st p.isList (x:=u) (by simpa using hu) λh' st' sb=>?_
  have I1:Inv X qp σ H { s with heap:=h' }:=I.turned (t':=s.toks) (λb o hb e=>(sb.2 b hb).trans e) f0 f1 f3 f4 f5
  obtain ⟨o,e,c,d⟩:=id st'
  exact ⟨u,rfl,dW (s:={ s with heap:=h' }) e c d (by decide) ⟨x,H,I1,ru,⟨rfl,λys hy=>by rw [I.list_inj hy hq];exact hx⟩,st',λb hb=>(hf b hb).1⟩⟩
 done:=by
  intro X hP hw hK hc i qp s σ H E I hf st hg
  subst hP hw hK
  obtain ⟨xs,hq,hx⟩:=hg
  obtain ⟨its,rv,p,hz⟩:=I.list hq
  obtain ⟨f0,f1,f2,f3,f4,f5⟩:=hf it (by simp)
  have hl:=rv.length
  exact wpAny_pyNext_list_end (I.ok.hd hc) st p.isList (by simp;omega) λh' eb=>⟨rfl,I.turned (t':=s.toks) (λb o hb e=>eb b o hb e) f0 f1 f3 f4 f5⟩
 self:=λ_ _ _ _ _ st h=>wpAny_pyIter_listiter st h
theorem gD {P:Program} {w:World} {K:PySem.W.Frag} {tg:Expr} (it:Addr) (lo:Int) (n:Nat):zCS P w K tg (Itr lo n) [it] it (λi h=>IsRangeIter h it (lo + (i:Nat) * 1) ((n:Int) - (i:Nat)) 1) where
 mem:=by simp
 obj:=λi h st b hb=>by
  have e:b=it:=by simpa using hb
  subst e
  exact ⟨_,st,λv z=>by
   have z':Data.fields _=Data.cell v:=z
   cases z'⟩
 keep:=λi h h' st k=>k it (by simp) _ st
 item:=by
  intro X hP hw hK hc i qp s σ H E I hf st hg
  subst hP hw hK
  obtain ⟨f0,f1,f2,f3,f4,f5⟩:=hf it (by simp)
  have W:=Walks.range (prog:=X.prog) (w:=X.w) (I.ok.hd hc) it lo 1 n
  refine W.item i s _ _ hg st λv h' tk hv st' kk=>?_
  obtain ⟨t,rfl⟩:=hv
  have I1:Inv X qp σ H { s with heap:=h',toks:=tk }:=I.turned (λb o hb e=>kk b o (by simpa using hb) e) f0 f1 f3 f4 f5
  refine ⟨_,rfl,dW (s:={ s with heap:=h',toks:=tk }) (n:="range_iterator") st' rfl rfl (by decide) ⟨.int (lo + i),H,I1,⟨t,?_⟩,⟨rfl,rfl⟩,st',λb hb=>(hf b hb).1⟩⟩
  rw [Int.mul_one]
 done:=by
  intro X hP hw hK hc i qp s σ H E I hf st hg
  subst hP hw hK
  obtain ⟨f0,f1,f2,f3,f4,f5⟩:=hf it (by simp)
  exact wpAny_pyNext_range_end (I.ok.hd hc) st (by have:n <= i:=hg;omega) λh' eb=>⟨rfl,I.turned (t':=s.toks) (λb o hb e=>eb b o hb e) f0 f1 f3 f4 f5⟩
 self:=λ_ _ _ _ _ st h=>wpAny_pyIter_rangeiter st h
section
variable {X:Cx} {tg:Expr}
noncomputable def zGF (K:W.Frag) (c:TE):TI:=λd H R=>c d H λx b=>∃ a,x=.ref a/\(∃ e,SqL K b a e)/\R (Itl K a) b
theorem xR {l:Expr} {g:TE} (i:PE X l g):PI X tg l (zGF X.K g):=by
 intro j s k H R I h
 refine thn (i j s k H _ I h) λv d c=>?_
 obtain ⟨x,m,f,n,r⟩:=c
 obtain ⟨a,e,⟨y,t⟩,q⟩:=r
 subst e
 cases n
 obtain ⟨u,z,p,A⟩:=f.list t
 refine wpAny_pyIter_list p.isList ?_
 refine ⟨d.heap.objs.size,[d.heap.objs.size],_,_,m,rfl,f.kept (t':=d.toks) λb o e=>Heap.get?_push_of_some _ e,cE a _,⟨_,Heap.get?_push_size _ rfl,rfl,rfl⟩,λb w=>?_,q⟩
 have e:b=d.heap.objs.size:=by simpa using w
 subst e
 exact f.fpOk (zMS _) (f.hok.fresh (zMS _))
theorem j6 {qp:LAO} {σ:St} {H:Hp} {s:Shared} {R:It->Hp->Prop} {E:VSP} {lo a:Int} {t u v:Tok} {c:Nat} (I:Inv X qp σ H s) (f:-(2 ^ 62) <= lo) (g:lo < 2 ^ 62) (h:-(2 ^ 62) <= a) (i:a < 2 ^ 62)
  (q:R (Itr lo (a - lo).toNat) H):wpAny (model X.prog X.w) X.A (pyIter (.ref s.heap.objs.size)) (PIE X qp σ tg R) E { s with heap:=s.heap.push { cls:=.type "range",data:=.fields #[.int lo t,.int a u,.int 1 v] },toks:=c }:=by
 refine wpAny_pyIter_range (IsRange.new ..) (small_one f g h i) ?_
 have d:Inv X qp σ H { s with heap:=s.heap.push { cls:=.type "range",data:=.fields #[.int lo t,.int a u,.int 1 v] },toks:=c }:=I.kept λb o e=>Heap.get?_push_of_some _ e
 refine ⟨(s.heap.push { cls:=.type "range",data:=.fields #[.int lo t,.int a u,.int 1 v] }).objs.size,[(s.heap.push { cls:=.type "range",data:=.fields #[.int lo t,.int a u,.int 1 v] }).objs.size],_,_,H,rfl,
  d.kept (t':=c) λb o e=>Heap.get?_push_of_some _ e,gD _ lo (a - lo).toNat,?_,λb j=>?_,q⟩
 ·have k:lo + ((0:Nat):Int) * 1=lo:=by simp
  have l:(((a - lo).toNat:Nat):Int) - ((0:Nat):Int)=Builtin.Range.rangeSize lo a 1:=by rw [rangeSize_one];split <;> omega
  show IsRangeIter _ _ (lo + ((0:Nat):Int) * 1) ((((a - lo).toNat:Nat):Int) - ((0:Nat):Int)) 1
  rw [k,l]
  exact Heap.get?_push_size _ rfl
 ·have e:b=(s.heap.push { cls:=.type "range",data:=.fields #[.int lo t,.int a u,.int 1 v] }).objs.size:=by simpa using j
  subst e
  exact d.fpOk (zMS _) (d.hok.fresh (zMS _))
noncomputable def zLN (a:TA):TI:=λb H R=>a b H λc d=>∃ j:Int,c=[.int j]/\-(2 ^ 62) <= j/\j < 2 ^ 62/\R (Itr 0 j.toNat) d
noncomputable def zLM (a:TA):TI:=λb H R=>a b H λc d=>∃ i j:Int,c=[.int i,.int j]/\(-(2 ^ 62) <= i/\i < 2 ^ 62/\-(2 ^ 62) <= j/\j < 2 ^ 62)/\R (Itr i (j - i).toNat) d
theorem vW {a:Expr} {d:TA} {p pos:Pos} (f:Gl X "range") (g:X.mg "range"=none) (i:PA X [a] d) (k:starEach [a] X.env=[(false,eval a X.env)]:=by rfl):PI X tg (.Call (.Name "range" p) [a] [] pos) (zLN d):=by
 intro l s m H R I h
 refine Call_ (rE I f g boot_range (PyProof.Rows.callWith_type1 (thn (i pos l s m H _ I h) λw x b=>?_) k rfl))
 obtain ⟨y,z,n,o,c⟩:=b
 obtain ⟨j,e,c,u,q⟩:=c
 subst e
 cases o with
 | cons r v=>
  cases v
  obtain ⟨t,rfl⟩:=r
  exact call_range_1 (j6 n (by omega) (by omega) c u (by simpa using q))
theorem cW {a b:Expr} {k:TA} {p pos:Pos} (l:Gl X "range") (m:X.mg "range"=none) (n:PA X [a,b] k) (o:starEach [a,b] X.env=[(false,eval a X.env),(false,eval b X.env)]:=by rfl) (c:starEach [b] X.env=[(false,eval b X.env)]:=by rfl) :
  PI X tg (.Call (.Name "range" p) [a,b] [] pos) (zLM k):=by
 intro u s v H R I h
 refine Call_ (rE I l m boot_range (PyProof.Rows.callWith_type1 (thn (n pos u s v H _ I h) λC D d=>?_) (by rw [o,c]) (by rw [c];rfl)))
 obtain ⟨E,G,w,x,f⟩:=d
 obtain ⟨i,j,e,⟨f,y,z,A⟩,q⟩:=f
 subst e
 cases x with
 | cons r g=>
  cases g with
  | cons B g=>
   cases g
   obtain ⟨t,rfl⟩:=r
   obtain ⟨J,rfl⟩:=B
   exact call_range_2 (j6 w f y z A q)
noncomputable def tFor (f:TI) (g:TG) (h:TS):TS:=λD a H=>f a H λJ j=>∃ W:Nat->Nat->St->Hp->Prop,(∃ m,W 0 m a j)/\∀ i m a H,W i m a H ->
 (J.stop i H/\D.nx a H) \/ (J.go i H/\∃ N:St->Hp->Prop,(∀ b c,N b c->∃ e,e < m/\W (i + 1) e b c)/\∀ x c,J.yld i H x c->g x a c λd k=>h { D with nx:=N,ct:=N,bk:=D.nx } d k)
noncomputable def uE (a:List Addr) (h:Heap):LAO:=a.filterMap λb=>(h.get? b).map λo=>(b,o)
theorem wF {a:List Addr} {h:Heap} {b:Addr} {o:Obj} (c:b ∈ a) (e:h.get? b=some o):(b,o) ∈ uE a h:=List.mem_filterMap.mpr ⟨b,c,by rw [e];rfl⟩
theorem cX {a:List Addr} {h:Heap} {p:Addr × Obj} (c:p ∈ uE a h):p.1 ∈ a/\h.get? p.1=some p.2:=by
 obtain ⟨b,d,e⟩:=List.mem_filterMap.mp c
 cases q:h.get? b with
 | none=>rw [q] at e;cases e
 | some o=>
  rw [q] at e
  have f:(b,o)=p:=zMQ e
  subst f
  exact ⟨d,q⟩
theorem Inv.pinned {qp:LAO} {σ:St} {H:Hp} {s:Shared} {a:List Addr} (I:Inv X qp σ H s) (g:∀ b ∈ a,uW X qp H b) (h:∀ b ∈ a,∃ o,s.heap.get? b=some o/\∀ v,o.data ≠ .cell v):Inv X (qp ++ uE a s.heap) σ H s:=
 I.pins_of λp i=>(zM0.mp i).elim (λz=>I.pin p (zMX _ z)) λz=>by
  obtain ⟨c,e⟩:=cX z
  obtain ⟨j,f1,f2,_⟩:=g p.1 c
  obtain ⟨o,f,d⟩:=h p.1 c
  rw [e] at f;cases f
  exact ⟨e,j,f1,f2,d⟩
theorem Inv.unpinned {qp pl:LAO} {σ:St} {H:Hp} {s:Shared} (I:Inv X (qp ++ pl) σ H s):Inv X qp σ H s:=I.pins_of λp a=>I.pin p (zMX _ (List.mem_append_left _ a))
theorem uM {iter:Expr} {body:List Stmt} {wi:TI} {g:TG} {tb:TS} {pos:Pos} (C:PassesOwn (model X.prog X.w) X.A X.env X.xe) (hc:X.calm=true) (hi:PI X tg iter wi) (hg:PG X tg g) (c:PSs X body tb)
  (hs:∀ x,foldedSetIterable iter X.env x=pure x:=by intro _;rfl):PS X (.For tg iter body [] pos) (tFor wi g tb):=by
 intro z s σ H D I h
 refine wpAny_For (thn (hi z s σ H _ I h) λv s1 h1=>thn h1 λa3 s2 h2=>?_) hs
 obtain ⟨it,E,tn,J,H2,e,I2,T,Y,f2,W,⟨m0,w0⟩,turn⟩:=h2
 subst e
 have j:∀ {t:Hp},(∀ b ∈ E,t b=none)->∀ b ∈ E,uW X z t b:=λhn b c=>⟨hn b c,(f2 b c).2⟩
 refine codeAny_forLoop_any (λn s'=>∃ i k t,Inv X z k t s'/\tn i s'.heap/\(∀ b ∈ E,t b=none)/\W i n k t) ?_ m0 ⟨0,σ,H2,I2,Y,λb c=>(f2 b c).1,w0⟩
 rintro n s3 ⟨i,l,U,I3,G,L,w3⟩
 rcases turn i n l U w3 with ⟨stop,qn⟩ | ⟨go,N,hN,step⟩
 ·refine wpAny_passesOwn C (thn (T.done X rfl rfl rfl hc i z s3 l U X.xe I3 (j L) G stop) λr s4 ⟨hr,I4⟩=>?_)
  subst hr
  exact wpAny_execs_nil ⟨l,U,I4,qn⟩
 ·refine wpAny_passesOwn C (thn (T.item X rfl rfl rfl hc i z s3 l U X.xe I3 (j L) G go) λr s4 ⟨u,hr,h4⟩=>?_)
  subst hr
  refine wpAny_passesOwn C (thn h4 λ_ s5 M=>?_)
  obtain ⟨x,H5,I5,r5,y5,B,a0⟩:=M
  have a1:=I5.pinned (j a0) (T.obj _ _ B)
  refine wpAny_passesOwn C (thn (hg _ s5 l H5 x u _ a1 r5 (step x H5 y5)) λ_ s6 O=>?_)
  obtain ⟨a2,H6,I6,q6⟩:=O
  refine wpAny_passesOwn C (thn (c _ s6 a2 H6 _ I6 q6) λf s7 y=>?_)
  have again:∀ {a:St} {p:Hp},Inv X (z ++ uE E s5.heap) a p s7->N a p->∃ m,m < n/\∃ i k t,Inv X z k t s7/\tn i s7.heap/\(∀ b ∈ E,t b=none)/\W i m k t:=λ{a p} q Q=>by
   obtain ⟨m',hm,w7⟩:=hN a p Q
   refine ⟨m',hm,i + 1,a,p,q.unpinned,T.keep _ _ _ B λb c o e=>(q.pin (b,o) (zMX _ (zMX _ (wF c e)))).1,λb c=>?_,w7⟩
   obtain ⟨o,e,d⟩:=T.obj _ _ B b c
   exact (q.pin (b,o) (zMX _ (zMX _ (wF c e)))).2.1
  cases f with
  | next=>obtain ⟨a,p,q,Q⟩:=y;exact again q Q
  | cont=>obtain ⟨a,p,q,Q⟩:=y;exact again q Q
  | brk=>obtain ⟨a,p,q,y⟩:=y;exact ⟨a,p,q.unpinned,y⟩
  | ret v=>obtain ⟨x7,a,p,q,r7,y⟩:=y;exact ⟨x7,a,p,q.unpinned,r7,y⟩
end
theorem tI {K:PySem.W.Frag} {a:Addr} {xs:List V} {g:TG} {j:TS} {D:mG} {σ:St} {H:Hp} (Pv:Nat->St->Hp->Prop) (l:Pv 0 σ H) (n:∀ i σ H,i <= xs.length->Pv i σ H->SqL K H a xs)
  (o:∀ i x σ H,xs[i]?=some x->Pv i σ H->g x σ H λb h=>j { D with nx:=Pv (i + 1),ct:=Pv (i + 1),bk:=D.nx } b h) (hd:∀ σ H,Pv xs.length σ H->D.nx σ H) :
  ∃ W:Nat->Nat->St->Hp->Prop,(∃ m,W 0 m σ H)/\∀ i m σ H,W i m σ H ->
   ((Itl K a).stop i H/\D.nx σ H) \/ ((Itl K a).go i H/\∃ N:St->Hp->Prop,(∀ c d,N c d->∃ k,k < m/\W (i + 1) k c d)/\∀ x d,(Itl K a).yld i H x d->g x σ d λb h=>j { D with nx:=N,ct:=N,bk:=D.nx } b h):=by
 refine ⟨λi m σ H=>m=xs.length - i/\i <= xs.length/\Pv i σ H,⟨xs.length,by simp,zMT _,l⟩,?_⟩
 rintro i m σ H ⟨rfl,r,p⟩
 have q:=n i σ H r p
 by_cases f:i < xs.length
 ·refine .inr ⟨⟨xs,xs[i],q,by simp [f]⟩,Pv (i + 1),λc d s=>⟨xs.length - (i + 1),by omega,rfl,f,s⟩,λx d y=>?_⟩
  obtain ⟨e,y⟩:=y
  subst e
  exact o i x σ _ (y xs q) p
 ·have e:i=xs.length:=by omega
  subst e
  exact .inl ⟨⟨xs,q,zMS _⟩,hd σ H p⟩
theorem sQ {lo:Int} {n:Nat} {g:TG} {h:TS} {D:mG} {σ:St} {H:Hp} (Pv:Nat->St->Hp->Prop) (k:Pv 0 σ H)
  (l:∀ i σ H,i < n->Pv i σ H->g (.int (lo + i)) σ H λa f=>h { D with nx:=Pv (i + 1),ct:=Pv (i + 1),bk:=D.nx } a f) (hd:∀ σ H,Pv n σ H->D.nx σ H) :
  ∃ W:Nat->Nat->St->Hp->Prop,(∃ m,W 0 m σ H)/\∀ i m σ H,W i m σ H ->
   ((Itr lo n).stop i H/\D.nx σ H) \/ ((Itr lo n).go i H/\∃ N:St->Hp->Prop,(∀ b c,N b c->∃ j,j < m/\W (i + 1) j b c)/\∀ x c,(Itr lo n).yld i H x c->g x σ c λa f=>h { D with nx:=N,ct:=N,bk:=D.nx } a f):=by
 refine ⟨λi m σ H=>m=n - i/\i <= n/\Pv i σ H,⟨n,by simp,zMT _,k⟩,?_⟩
 rintro i m σ H ⟨rfl,q,p⟩
 by_cases d:i < n
 ·refine .inr ⟨d,Pv (i + 1),λb c o=>⟨n - (i + 1),by omega,rfl,d,o⟩,λx c y=>?_⟩
  obtain ⟨e,y⟩:=y
  subst e y
  exact l i σ _ d p
 ·have e:i=n:=by omega
  subst e
  exact .inl ⟨zMS _,hd σ H p⟩
noncomputable abbrev R2:=V->V->Hp->VK->Prop
noncomputable def OpR (X:Cx) (f:Value->Value->Sem Value) (r:R2):Prop:=
 ∀ (a:LAO) (s:Shared) (b:St) (H:Hp) (x y:V) (v u:Value) (Q:VK),Inv X a b H s->yU x v->yU y u->r x y H Q ->
  wpAny (model X.prog X.w) X.A (f v u) (EP X a b Q) X.xe s
noncomputable def UnR (X:Cx) (f:Value->Sem Value) (r:V->Hp->VK->Prop):Prop:=
 ∀ (a:LAO) (s:Shared) (b:St) (H:Hp) (x:V) (v:Value) (Q:VK),Inv X a b H s->yU x v->r x H Q ->
  wpAny (model X.prog X.w) X.A (f v) (EP X a b Q) X.xe s
noncomputable def vU (X:Cx) (f:Value) (r:List V->Hp->VK->Prop):Prop:=
 ∀ (a:LAO) (s:Shared) (b:St) (H:Hp) (c:List V) (d:List Value) (Q:VK),Inv X a b H s->yH c d->r c H Q ->
  wpAny (model X.prog X.w) X.A (call f d) (EP X a b Q) X.xe s
noncomputable def TruR (X:Cx) (r:V->Hp->(Bool->Hp->Prop)->Prop):Prop:=
 ∀ (a:LAO) (s:Shared) (b:St) (H:Hp) (x:V) (v:Value) (Q:Bool->Hp->Prop),Inv X a b H s->yU x v->r x H Q ->
  wpAny (model X.prog X.w) X.A (truthy v) (TP X a b Q) X.xe s
noncomputable def tOp (r:R2) (b c:TE):TE:=λa H Q=>b a H λx d=>c a d λy e=>r x y e Q
noncomputable def tUn (r:V->Hp->VK->Prop) (a:TE):TE:=λb H Q=>a b H λx c=>r x c Q
noncomputable def rI (C:Int->Int->Prop) (g:Int->Int->V):R2:=λx y H Q=>∃ i j,x=.int i/\y=.int j/\C i j/\Q (g i j) H
noncomputable def rI0 (g:Int->Int->V):R2:=λx y H Q=>∃ i j,x=.int i/\y=.int j/\Q (g i j) H
noncomputable def rU (g:Int->V):V->Hp->VK->Prop:=λx H Q=>∃ i,x=.int i/\Q (g i) H
section
variable {X:Cx} {a b c:Expr} {ta tb tc:TE} {pos:Pos}
theorem zIT (l:PE X a ta) (m:PE X b tb) {qp:LAO} {s:Shared} {σ:St} {H:Hp} {R:V->V->Hp->Prop} (I:Inv X qp σ H s)
  (h:ta σ H λx H1=>tb σ H1 λy d=>R x y d) {Q:VSP} {f:Value->Value->Sem Value}
  (n:∀ v u k x y d,Inv X qp σ d k->yU x v->yU y u->R x y d->wpAny (model X.prog X.w) X.A (f v u) Q X.xe k) :
  wpAny (model X.prog X.w) X.A (eval a X.env) (λv e=>wpAny (model X.prog X.w) X.A (eval b X.env) (λu g=>wpAny (model X.prog X.w) X.A (f v u) Q X.xe g) X.xe e) X.xe s:=by
 refine thn (l qp s σ H _ I h) λv o i=>?_
 obtain ⟨x,H1,p,q,r⟩:=i
 refine thn (m qp o σ H1 _ p r) λu k j=>?_
 obtain ⟨y,d,t,z,B⟩:=j
 exact n v u k x y d t q z B
theorem yK {op:Operator} {r:R2} (d:OpR X (binaryOp op) r) (e:PE X a ta) (f:PE X b tb):PE X (.BinOp a op b pos) (tOp r ta tb):=by
 intro g s i H Q I h
 exact wpAny_BinOp (zIT e f I h λv u j x y k l m n q=>d g j i k x y v u Q l m n q)
theorem zF8 {op:UnaryOp} {r:V->Hp->VK->Prop} (f:UnR X (unaryOp op) r) (g:PE X a ta):PE X (.UnaryOp op a pos) (tUn r ta):=by
 intro d s e H Q I h
 exact UnaryOp_ (thn (g d s e H _ I h) λv i ⟨x,j,k,l,m⟩=>f d i e j x v Q k l m)
theorem opI {f:Value->Value->Sem Value} {C:Int->Int->Prop} {g:Int->Int->Int}
  (rule:∀ (i j:Int) (t u:Tok) (s:Shared) (Q:VSP) (E:VSP),C i j->Q (.int (g i j) s.toks) { s with toks:=s.toks + 1 }->wpAny (model X.prog X.w) X.A (f (.int i t) (.int j u)) Q E s) :
  OpR X f (rI C λi j=>.int (g i j)):=by
 intro m s n H x y v u Q I d e h
 obtain ⟨i,j,rfl,rfl,k,q⟩:=h
 obtain ⟨t,rfl⟩:=d
 obtain ⟨l,rfl⟩:=e
 exact rule i j t l s _ _ k ⟨.int (g i j),H,I.tok _,⟨_,rfl⟩,q⟩
theorem zKW {f:Value->Value->Sem Value} {g:Int->Int->Int}
  (rule:∀ (i j:Int) (t u:Tok) (s:Shared) (Q:VSP) (E:VSP),Q (.int (g i j) s.toks) { s with toks:=s.toks + 1 }->wpAny (model X.prog X.w) X.A (f (.int i t) (.int j u)) Q E s) :
  OpR X f (rI0 λi j=>.int (g i j)):=by
 intro l s m H x y v u Q I d e h
 obtain ⟨i,j,rfl,rfl,q⟩:=h
 obtain ⟨t,rfl⟩:=d
 obtain ⟨k,rfl⟩:=e
 exact rule i j t k s _ _ ⟨.int (g i j),H,I.tok _,⟨_,rfl⟩,q⟩
theorem zHV {f:Value->Value->Sem Value} {g:Int->Int->Bool}
  (rule:∀ (i j:Int) (t u:Tok) (s:Shared) (Q:VSP) (E:VSP),Q (.bool (g i j)) s->wpAny (model X.prog X.w) X.A (f (.int i t) (.int j u)) Q E s) :
  OpR X f (rI0 λi j=>.bl (g i j)):=by
 intro l s m H x y v u Q I d e h
 obtain ⟨i,j,rfl,rfl,q⟩:=h
 obtain ⟨t,rfl⟩:=d
 obtain ⟨k,rfl⟩:=e
 exact rule i j t k s _ _ ⟨.bl (g i j),H,I,rfl,q⟩
noncomputable def zFI (i j:Int):Prop:=0 < j/\j < 1073741824
noncomputable def CPow (i j:Int):Prop:=0 <= j/\j <= 1000000/\i.natAbs < 2 ^ 64
noncomputable def aA (i j:Int):Prop:=(-(2 ^ 64) < i/\i < 2 ^ 64) \/ (-(2 ^ 64) < j/\j < 2 ^ 64)
theorem aA.ok {i j:Int} (h:aA i j):IntMulOk i j:=by
 rcases h with ⟨d,e⟩ | ⟨d,e⟩
 ·exact .of_left (intBits_le_64 d e)
 ·exact .of_right (intBits_le_64 d e)
theorem xV:OpR X (binaryOp .Add) (rI0 λi j=>.int (i + j)):=zKW λ_ _ _ _ _ _ _ q=>add_int q
theorem zHO:OpR X (binaryOp .Sub) (rI0 λi j=>.int (i - j)):=zKW λ_ _ _ _ _ _ _ q=>sub_int q
theorem sZ:OpR X (binaryOp .Mult) (rI aA λi j=>.int (i * j)):=opI λ_ _ _ _ _ _ _ d q=>mul_int q d.ok
theorem pV:OpR X (binaryOp .FloorDiv) (rI zFI λi j=>.int (i / j)):=opI λi j _ _ _ _ _ d q=>by
 have e:(0:Int) < j:=d.1
 have f:j < 1073741824:=d.2
 exact floordiv_int (by omega) (by rw [Int.fdiv_eq_ediv_of_nonneg i (by omega)];exact q) (.inl (PyProof.noPylong_small (by omega)))
theorem u8:OpR X (binaryOp .Mod) (rI (λ_ j=>0 < j) λi j=>.int (i % j)):=opI λi j _ _ _ _ _ d q=>by
 have e:(0:Int) < j:=d
 exact mod_int' (by omega) (by rw [Int.fmod_eq_emod_of_nonneg i (by omega)];exact q)
theorem zHQ:OpR X (binaryOp .Pow) (rI CPow λi j=>.int (i ^ j.toNat)):=opI λ_ _ _ _ _ _ _ d q=>pow_int_small d.1 d.2.1 d.2.2 q
theorem unI {f:Value->Sem Value} {g:Int->Int}
  (rule:∀ (i:Int) (t:Tok) (s:Shared) (Q:VSP) (E:VSP),Q (.int (g i) s.toks) { s with toks:=s.toks + 1 }->wpAny (model X.prog X.w) X.A (f (.int i t)) Q E s) :
  UnR X f (rU λi=>.int (g i)):=by
 intro e s j H x v Q I d h
 obtain ⟨i,rfl,q⟩:=h
 obtain ⟨t,rfl⟩:=d
 exact rule i t s _ _ ⟨.int (g i),H,I.tok _,⟨_,rfl⟩,q⟩
theorem aC:UnR X (unaryOp .USub) (rU λi=>.int (-i)):=unI λ_ _ _ _ _ q=>neg_int q
end
noncomputable def zAA:V->V->Bool
 | .non,.non=>true | .non,.int _=>true | .int _,.non=>true | .non,.bl _=>true | .bl _,.non=>true | .non,.str _=>true | .str _,.non=>true
 | .int _,.int _=>true | .bl _,.bl _=>true | .str _,.str _=>true | .byt _,.byt _=>true
 | .int _,.str _=>true | .str _,.int _=>true | .bl _,.str _=>true | .str _,.bl _=>true
 | _,_=>false
noncomputable def rEq:R2:=λx y H Q=>zAA x y=true/\Q (.bl (decide (x=y))) H
noncomputable def rNe:R2:=λx y H Q=>zAA x y=true/\Q (.bl (!decide (x=y))) H
theorem dZ {i j:Int}:decide (V.int i=V.int j)=(i == j):=by
 rw [Bool.eq_iff_iff]
 simp
theorem zCH {i j:Bool}:decide (V.bl i=V.bl j)=(i == j):=by
 rw [Bool.eq_iff_iff]
 simp
theorem dY {i j:Str}:decide (V.str i=V.str j)=(i == j):=by
 rw [Bool.eq_iff_iff]
 simp
theorem d6 {i j:Array UInt8}:decide (V.byt i=V.byt j)=(i.toList == j.toList):=by
 rw [Bool.eq_iff_iff]
 cases i
 cases j
 simp
section
variable {X:Cx} {a b c:Expr} {ta tb tc:TE} {pos:Pos}
theorem y4 {qp:LAO} {σ:St} {H:Hp} {s:Shared} {Q:VK} {k d:Bool} (I:Inv X qp σ H s) (q:Q (.bl k) H) (e:k=d):EP X qp σ Q (.bool d) s:=by
 subst e
 exact ⟨.bl k,H,I,rfl,q⟩
theorem y6:OpR X (compareOp .Eq) rEq:=by
 intro k s l H x y v u Q I g d h
 obtain ⟨f,q⟩:=h
 cases x with
 | non=>
  cases g
  cases y with
  | non=>cases d;exact PySem.EqNone.eq_none_none (y4 I q (by simp))
  | bl j=>cases d;exact PySem.EqNone.eq_none_bool (y4 I q (by simp))
  | int j=>obtain ⟨e,rfl⟩:=d;exact PySem.EqNone.eq_none_int (y4 I q (by simp))
  | str j=>obtain ⟨e,rfl⟩:=d;exact PySem.EqNone.eq_none_str (y4 I q (by simp))
  | _=>exact absurd (show false=true from f) zNB
 | bl i=>
  cases g
  cases y with
  | non=>cases d;exact PySem.EqNone.eq_bool_none (y4 I q (by simp))
  | bl j=>cases d;exact eq_bool (y4 I q zCH)
  | str j=>obtain ⟨e,rfl⟩:=d;exact PySem.EqMixed.eq_bool_str (y4 I q (by simp))
  | _=>exact absurd (show false=true from f) zNB
 | int i=>
  obtain ⟨t,rfl⟩:=g
  cases y with
  | non=>cases d;exact PySem.EqNone.eq_int_none (y4 I q (by simp))
  | int j=>obtain ⟨e,rfl⟩:=d;exact eq_int (y4 I q dZ)
  | str j=>obtain ⟨e,rfl⟩:=d;exact PySem.EqMixed.eq_int_str (y4 I q (by simp))
  | _=>exact absurd (show false=true from f) zNB
 | str i=>
  obtain ⟨t,rfl⟩:=g
  cases y with
  | non=>cases d;exact PySem.EqNone.eq_str_none (y4 I q (by simp))
  | bl j=>cases d;exact PySem.EqMixed.eq_str_bool (y4 I q (by simp))
  | int j=>obtain ⟨e,rfl⟩:=d;exact PySem.EqMixed.eq_str_int (y4 I q (by simp))
  | str j=>obtain ⟨e,rfl⟩:=d;exact eq_str (y4 I q dY)
  | _=>exact absurd (show false=true from f) zNB
 | byt i=>
  obtain ⟨t,rfl⟩:=g
  cases y with
  | byt j=>obtain ⟨e,rfl⟩:=d;exact W.eq_bytes (y4 I q d6)
  | _=>exact absurd (show false=true from f) zNB
 | _=>cases y <;> exact absurd (show false=true from f) zNB
theorem sV:OpR X (compareOp .NotEq) rNe:=by
 intro k s l H x y v u Q I g d h
 obtain ⟨f,q⟩:=h
 cases x with
 | non=>
  cases g
  cases y with
  | non=>cases d;exact PySem.EqNone.ne_none_none (y4 I q (by simp))
  | bl j=>cases d;exact PySem.EqNone.ne_none_bool (y4 I q (by simp))
  | int j=>obtain ⟨e,rfl⟩:=d;exact PySem.EqNone.ne_none_int (y4 I q (by simp))
  | str j=>obtain ⟨e,rfl⟩:=d;exact PySem.EqNone.ne_none_str (y4 I q (by simp))
  | _=>exact absurd (show false=true from f) zNB
 | bl i=>
  cases g
  cases y with
  | non=>cases d;exact PySem.EqNone.ne_bool_none (y4 I q (by simp))
  | bl j=>cases d;exact ne_bool (y4 I q (congrArg not zCH))
  | str j=>obtain ⟨e,rfl⟩:=d;exact PySem.EqMixed.ne_bool_str (y4 I q (by simp))
  | _=>exact absurd (show false=true from f) zNB
 | int i=>
  obtain ⟨t,rfl⟩:=g
  cases y with
  | non=>cases d;exact PySem.EqNone.ne_int_none (y4 I q (by simp))
  | int j=>obtain ⟨e,rfl⟩:=d;exact ne_int (y4 I q (congrArg not dZ))
  | str j=>obtain ⟨e,rfl⟩:=d;exact PySem.EqMixed.ne_int_str (y4 I q (by simp))
  | _=>exact absurd (show false=true from f) zNB
 | str i=>
  obtain ⟨t,rfl⟩:=g
  cases y with
  | non=>cases d;exact PySem.EqNone.ne_str_none (y4 I q (by simp))
  | bl j=>cases d;exact PySem.EqMixed.ne_str_bool (y4 I q (by simp))
  | int j=>obtain ⟨e,rfl⟩:=d;exact PySem.EqMixed.ne_str_int (y4 I q (by simp))
  | str j=>obtain ⟨e,rfl⟩:=d;exact ne_str (y4 I q (congrArg not dY))
  | _=>exact absurd (show false=true from f) zNB
 | byt i=>
  obtain ⟨t,rfl⟩:=g
  cases y with
  | byt j=>obtain ⟨e,rfl⟩:=d;exact W.ne_bytes (y4 I q (congrArg not d6))
  | _=>exact absurd (show false=true from f) zNB
 | _=>cases y <;> exact absurd (show false=true from f) zNB
theorem iD:OpR X (compareOp .Lt) (rI0 λi j=>.bl (decide (i < j))):=zHV λ_ _ _ _ _ _ _ q=>lt_int q
theorem oX:OpR X (compareOp .LtE) (rI0 λi j=>.bl (decide (i <= j))):=zHV λ_ _ _ _ _ _ _ q=>le_int q
theorem zGB:OpR X (compareOp .Gt) (rI0 λi j=>.bl (decide (j < i))):=zHV λ_ _ _ _ _ _ _ q=>gt_int q
theorem m4:OpR X (compareOp .In) (λx y H Q=>∃ i j,x=.str i/\y=.str j/\Q (.bl (!(Builtin.Str.occurrences j i 0 j.length 1).isEmpty)) H):=by
 intro f s g H x y v u Q I d e h
 obtain ⟨i,j,rfl,rfl,q⟩:=h
 obtain ⟨t,rfl⟩:=d
 obtain ⟨k,rfl⟩:=e
 exact in_str (y4 I q rfl)
theorem uO:OpR X (compareOp .Is) (λx y H Q=>y=.non/\Q (.bl (decide (x=.non))) H):=by
 intro f s g H x y v u Q I d e h
 obtain ⟨rfl,q⟩:=h
 cases e
 refine is_none_gen (y4 I q ?_)
 cases x <;> first
  | (cases d;rfl)
  | (obtain ⟨t,rfl⟩:=d;rfl)
theorem vO:OpR X (compareOp .IsNot) (λx y H Q=>y=.non/\Q (.bl (!decide (x=.non))) H):=by
 intro f s g H x y v u Q I d e h
 obtain ⟨rfl,q⟩:=h
 cases e
 refine isnot_none_gen (y4 I q ?_)
 cases x <;> first
  | (cases d;rfl)
  | (obtain ⟨t,rfl⟩:=d;rfl)
theorem zW (b:Expr) {op:CmpOp} (h:op ≠ .In:=by decide) (d:op ≠ .NotIn:=by decide):behindInMarks op b=false:=by
 have e:(op == CmpOp.In)=false:=by cases op <;> first | rfl | exact absurd rfl h
 have f:(op == CmpOp.NotIn)=false:=by cases op <;> first | rfl | exact absurd rfl d
 cases b <;> simp [behindInMarks,e,f]
theorem xC {op:CmpOp} {r:R2} (d:OpR X (compareOp op) r) (e:PE X a ta) (f:PE X b tb) (g:behindInMarks op b=false):PE X (.Compare a [op] [b] pos) (tOp r ta tb):=by
 intro i s j H Q I h
 exact wpAny_Compare1 (zIT e f I h λv u k x y l m n o q=>d i k j l x y v u Q m n o q) g
noncomputable def jO (t:TE):TT:=λd H Q=>t d H λx e=>∃ k,x=.bl k/\Q k e
theorem zQ {op:CmpOp} {r:R2} (g:OpR X (compareOp op) r) (i:PE X a ta) (j:PE X b tb) (l:behindInMarks op b=false):PT X (.Compare a [op] [b] pos) (jO (tOp r ta tb)):=by
 intro d s f H Q I h
 refine wpAny_isTrue_Compare1 (thn (i d s f H _ I h) λv m ⟨x,n,o,p,q⟩=>thn (j d m f n _ o q) λu t ⟨y,w,A,B,C⟩=>
  thn (g d t f w x y v u _ A p B C) λc L ⟨z,D,E,G,k,e,J⟩=>?_) l
 subst e
 cases G
 exact wpAny_truthy_bool ⟨D,E,J⟩
noncomputable def aI (r f:R2) (ta tb tc:TE):TE:=λd H Q=>ta d H λx g=>tb d g λy h=>r x y h λz e=>∃ k,z=.bl k /\
 (if k=true then tc d e λi j=>f y i j Q else Q (.bl false) e)
theorem iB {op f:CmpOp} {r l:R2} (q:OpR X (compareOp op) r) (j:OpR X (compareOp f) l) (t:PE X a ta) (w:PE X b tb) (A:PE X c tc)
  (B:lastMarks [op,f] [b,c]=false:=by with_unfolding_all rfl):PE X (.Compare a [op,f] [b,c] pos) (aI r l ta tb tc):=by
 intro g s i H Q I h
 refine Compare_chain (thn (t g s i H _ I h) λv C ⟨x,D,E,G,J⟩=>chain_link (thn (w g C i D _ E J) λu L ⟨y,M,N,m,O⟩=>
  thn (q g L i M x y v u _ N G m O) λd T ⟨z,n,o,U,k,e,p⟩=>?_)) B
 subst e
 cases U
 refine wpAny_truthy_bool ?_
 cases k with
 | false=>exact ite_ff ⟨.bl false,n,o,rfl,p⟩
 | true=>exact ite_tt (chain_last (thn (A g T i n _ o p) λY s4 ⟨z',H4,I4,r4,q4⟩=>j g s4 i H4 y z' u Y Q I4 m r4 q4))
theorem oR {op f:CmpOp} {r n:R2} (w:OpR X (compareOp op) r) (m:OpR X (compareOp f) n) (A:PE X a ta) (B:PE X b tb) (C:PE X c tc)
  (D:lastMarks [op,f] [b,c]=false:=by with_unfolding_all rfl):PT X (.Compare a [op,f] [b,c] pos) (jO (aI r n ta tb tc)):=by
 intro g s i H Q I h
 refine isTrue_chain (thn (A g s i H _ I h) λv E ⟨x,G,J,L,M⟩=>test_link (thn (B g E i G _ J M) λu N ⟨y,O,T,o,U⟩=>
  thn (w g N i O x y v u _ T L o U) λd Y ⟨z,p,q,r3,k,e,t⟩=>?_)) D
 subst e
 cases r3
 refine wpAny_truthy_bool ?_
 cases k with
 | false=>
  obtain ⟨k',e',q'⟩:=t
  cases e'
  exact ite_ff ⟨p,q,q'⟩
 | true=>
  refine ite_tt (test_last (thn (C g Y i p _ q t) λw' s4 j=>?_))
  obtain ⟨z',H4,I4,r4,q4⟩:=j
  refine thn (m g s4 i H4 y z' u w' _ I4 o r4 q4) λd' s5 l=>?_
  obtain ⟨z2,H5,I5,r5,k2,e2,q5⟩:=l
  subst e2
  cases r5
  exact wpAny_truthy_bool ⟨H5,I5,q5⟩
noncomputable def zMD (K:W.Frag) (x:V) (H:Hp) (k:Bool):Prop:=
 match x with
 | .non=>k=false
 | .bl b=>k=b
 | .int i=>k=(i != 0)
 | .str y=>y.length <= sizeLine/\k=((y.length:Int) != 0)
 | .byt y=>y.size <= sizeLine/\k=((y.size:Int) != 0)
 | .ref p=>(∃ d,SqL K H p d/\k = !d.isEmpty) \/ (∃ d,SqT K H p d/\k = !d.isEmpty) \/ ∃ e,H p=some (.dK e)/\k = !e.isEmpty
 | _=>False
theorem fM {κ:Type} {d:List (κ × V)} {vs:List (κ × Value)} (r:KV d vs):(!vs.isEmpty) = !d.isEmpty:=by
 cases r <;> rfl
theorem nG {xs:List V} {its:List Value} (r:yH xs its):(!its.toArray.isEmpty) = !xs.isEmpty:=by
 cases r <;> simp
theorem qS:(sizeLine:Nat) < 2 ^ 63:=by rw [sizeLine_eq];decide
theorem zGV:TruR X (λx H Q=>∃ k,zMD X.K x H k/\Q k H):=by
 intro D s E H x v Q I l h
 obtain ⟨k,e,q⟩:=h
 have G:=qS
 have J:sizeLine=16777216:=sizeLine_eq
 cases x with
 | non=>
  cases l
  have d:k=false:=e
  subst d
  exact truthy_none ⟨H,I,q⟩
 | bl b=>
  cases l
  have d:k=b:=e
  subst d
  exact wpAny_truthy_bool ⟨H,I,q⟩
 | int i=>
  obtain ⟨t,rfl⟩:=l
  have d:k=(i != 0):=e
  subst d
  exact PySem.P.truthy_int ⟨H,I,q⟩
 | str y=>
  obtain ⟨t,rfl⟩:=l
  obtain ⟨B,d⟩:y.length <= sizeLine/\k=((y.length:Int) != 0):=e
  subst d
  exact PySem.P.truthy_str (by omega) ⟨H,I.tok _,q⟩
 | byt y=>
  obtain ⟨t,rfl⟩:=l
  obtain ⟨B,d⟩:y.size <= sizeLine/\k=((y.size:Int) != 0):=e
  subst d
  exact W.truthy_bytes (by omega) ⟨H,I.tok _,q⟩
 | ref p=>
  cases l
  have d:(∃ j,SqL X.K H p j/\k = !j.isEmpty) \/ (∃ j,SqT X.K H p j/\k = !j.isEmpty) \/ ∃ f,H p=some (.dK f)/\k = !f.isEmpty:=e
  rcases d with ⟨j,n,d⟩ | ⟨j,n,d⟩ | ⟨f,n,d⟩
  ·subst d
   obtain ⟨u,r,z,A⟩:=I.list n
   have g:=r.length
   exact wpAny_truthy_list z.isList (by simp only [zMR];omega) ⟨H,I.tok _,by rw [nG r];exact q⟩
  ·subst d
   obtain ⟨u,r,z,A⟩:=I.tuple n
   have g:=r.length
   exact truthy_tuple z (by simp only [zMR];omega) ⟨H,I.tok _,by rw [nG r];exact q⟩
  ·subst d
   obtain ⟨A,C,o,r,m⟩:f.length <= sizeLine/\(p == sysModules)=false/\∃ o,KV f o/\s.heap.DictOf (wK X.prog X.w) p o:=I.hok p _ n
   have g:f.length=o.length:=Paired.length r
   exact wpAny_truthy_dict C m (by omega) ⟨H,I.tok _,by rw [fM r];exact q⟩
 | _=>exact (show False from e).elim
theorem zAY (f:PE X a ta) (g:∀ whole,isTrue a X.env whole=(do let v <- whole;standAt a.pos;holding [v] (truthy v))) :
  PT X a (λσ H Q=>ta σ H λx d=>∃ k,zMD X.K x d k/\Q k d):=by
 intro e s σ H Q I h
 exact isTrue_plain (thn (f e s σ H _ I h) λv i ⟨x,j,l,m,n⟩=>zGV e i σ j x v Q l m n) (g _)
theorem rA:OpR X (binaryOp .Add) (λx y H Q=>∃ i j,x=.str i/\y=.str j/\i.length + j.length <= sizeLine/\Q (.str (i ++ j)) H):=by
 intro k s l H x y v u Q I d e h
 obtain ⟨i,j,rfl,rfl,f,q⟩:=h
 obtain ⟨t,rfl⟩:=d
 obtain ⟨g,rfl⟩:=e
 exact add_str (λg m=>⟨.str (i ++ j),H,I.tok _,⟨_,rfl⟩,q⟩) f
theorem sU {x:V} {us:List Value} (r:yH [x] us):∃ u,us=[u]/\yU x u:=by
 cases r with
 | cons d e=>cases e;exact ⟨_,rfl,d⟩
theorem uK:vU X (.type "int") (λxs H Q=>(∃ i,xs=[.int i]/\Q (.int i) H) \/ ∃ k,xs=[.bl k]/\Q (.int (if k then 1 else 0)) H):=by
 intro e s f H xs g Q I r h
 rcases h with ⟨i,rfl,q⟩ | ⟨k,rfl,q⟩
 ·obtain ⟨u,rfl,t,rfl⟩:=sU r
  exact call_int_int ⟨.int i,H,I,⟨_,rfl⟩,q⟩
 ·obtain ⟨u,rfl,d⟩:=sU r
  cases d
  exact call_int_bool ⟨.int (if k then 1 else 0),H,I.tok _,⟨_,rfl⟩,q⟩
noncomputable def zFF (K:W.Frag) (x:V) (H:Hp) (n:Nat):Prop:=
 match x with
 | .str y=>y.length <= sizeLine/\n=y.length
 | .byt y=>y.size <= sizeLine/\n=y.size
 | .ref p=>(∃ d,SqL K H p d/\n=d.length) \/ ∃ d,SqT K H p d/\n=d.length
 | _=>False
theorem z8:vU X (.builtin "len") (λxs H Q=>∃ x n,xs=[x]/\zFF X.K x H n/\Q (.int n) H):=by
 intro v s w H xs z Q I r h
 obtain ⟨x,n,rfl,e,q⟩:=h
 obtain ⟨u,rfl,g⟩:=sU r
 have A:=qS
 have B:sizeLine=16777216:=sizeLine_eq
 cases x with
 | str y=>
  obtain ⟨t,rfl⟩:=g
  obtain ⟨m,f⟩:y.length <= sizeLine/\n=y.length:=e
  subst f
  exact len_str (by omega) ⟨.int _,H,I.tok _,⟨_,rfl⟩,q⟩
 | byt y=>
  obtain ⟨t,rfl⟩:=g
  obtain ⟨m,f⟩:y.size <= sizeLine/\n=y.size:=e
  subst f
  exact W.len_bytes (by omega) ⟨.int _,H,I.tok _,⟨_,rfl⟩,q⟩
 | ref p=>
  cases g
  have f:(∃ xs,SqL X.K H p xs/\n=xs.length) \/ ∃ xs,SqT X.K H p xs/\n=xs.length:=e
  rcases f with ⟨xs,i,f⟩ | ⟨xs,i,f⟩
  ·subst f
   obtain ⟨j,k,l,o⟩:=I.list i
   have d:=k.length
   exact Calls.call_len_list l.isList (by simp only [zMR];omega) ⟨.int xs.length,H,I.tok _,⟨_,by simp only [zMR];rw [d]⟩,q⟩
  ·subst f
   obtain ⟨j,k,l,o⟩:=I.tuple i
   have d:=k.length
   exact len_tuple l (by simp only [zMR];omega) ⟨.int xs.length,H,I.tok _,⟨_,by simp only [zMR];rw [d]⟩,q⟩
 | _=>exact (show False from e).elim
end
structure fW (h:Heap) (x dx C:Addr) (mA:Str->Option Value):Prop where
 obj:h.get? x=some (W.instObj C dx)
 ns:h.Ns1 dx mA
 ne:dx ≠ x
theorem c9 {h:Heap} {dx:Addr} {c:Str->Option Value} (n:h.Ns1 dx c):∃ d,h.get? dx=some d/\∀ name,W.lookIn name d=some (c name):=by
 obtain ⟨o,f,m,g,hd,i,_,j⟩:=n
 refine ⟨o,g,λname=>?_⟩
 have e:=j name
 unfold nsFind findBy at e
 rw [<- Array.find?_toList] at e
 unfold W.lookIn
 rw [hd]
 dsimp only
 split
 ·rename_i y q
  rw [q] at e
  exact congrArg some e
 ·rename_i q
  rw [q] at e
  have a:f.toList.any (·.refKey)=false:=by
   rw [List.any_eq_false]
   intro y k
   obtain ⟨z,t,b⟩:=i y (Array.mem_toList_iff.mp k)
   simp [DictEntry.refKey,b]
  have l:¬ f.toList.any (·.refKey)=true:=by rw [a];exact zNB
  rw [if_neg l]
  exact congrArg some e
theorem fW.look {h:Heap} {x dx C:Addr} {b:Str->Option Value} (I:fW h x dx C b):∃ a,W.InstAt h x (W.instObj C dx) C (some a)/\∀ name,W.lookIn name a=some (b name):=
 let ⟨a,c,d⟩:=c9 I.ns
 ⟨a,⟨I.obj,rfl,rfl,c⟩,d⟩
section
variable {prog:Program} {w:World} {A:Around} {E:VSP} {s:Shared} {K:W.Frag} {x dx C f:Addr} {mA:Str->Option Value} {name:Str} {v:Value}
theorem zET {expr:Bool} {Q:VSP} (X:K.In s.heap) (I:fW s.heap x dx C mA) (b:W.plainGet K C name=true) (c:W.hasDictIn K C=true)
  (d:W.findIn K (.ref C) name=some none) (e:mA name=some v) (a:W.handedIn v=true) (h:Q v { s with toks:=s.toks + 1 }) :
  wpAny (model prog w) A (getAttr (.ref x) name expr) Q E s:=by
 obtain ⟨i,J,g⟩:=I.look
 exact W.get_value X J (W.plainGet_of b).1 (W.findObj_own c d rfl (by rw [g,e])) a h
theorem zB4 {pl:Sem Bool} {Q:Value × List Value->Shared->Prop} (X:K.In s.heap) (I:fW s.heap x dx C mA) (a:W.plainGet K C name=true)
  (b:W.findIn K (.ref C) name=some (some (.ref f))) (c:W.isFn K (.ref f)=true) (d:mA name=none) (h:Q (.ref f,[.ref x]) s) :
  wpAny (model prog w) A (getMethod (.ref x) name pl) Q E s:=by
 obtain ⟨e,J,g⟩:=I.look
 exact W.method_fn X J (W.plainGet_of a).1 (W.plainGet_of a).2 b (beq_iff_eq.mp c) (by show (W.lookIn name e).map (·.isSome)=some false;rw [g,d];rfl) h
theorem zC7 {ns:List Str} {Q:Unit->Shared->Prop} (X:K.In s.heap) (I:fW s.heap x dx C mA)
  (hs:W.findIn K (.ref C) "__setattr__"=some (some (.builtin "object.__setattr__"))) (hp:W.plainOver K C=true) (ht:W.takerIn K C name=some none) (hh:W.hasDictIn K C=true)
  (hw:PySem.Within mA ns) (hsz:ns.length <= sizeLine)
  (h:∀ h',fW h' x dx C (λy=>if y=name then some v else mA y)->Heap.SameBut dx s.heap h'->Q () { s with heap:=h',toks:=s.toks + 2 }) :
  wpAny (model prog w) A (setAttr (.ref x) name v) Q E s:=by
 obtain ⟨od,J,hl⟩:=I.look
 refine W.set_plain X J hs (W.osa_open (s:={ s with toks:=s.toks + 1 }) (r:=none) X J hp ht λb=>?_)
 obtain ⟨cd,hc,hd'⟩:=W.any_some hh
 have hx:s.heap.get? x=some ⟨.ref C,some dx,.plain,#[]⟩:=I.obj
 refine wpAny_bind (wpAny_pure (wpAny_bind (wpAny_bind (wpAny_loadPart hx (wpAny_bind (W.Looks.here (s:={ s with toks:=s.toks + 1 }) (W.looks_clsIn X hc) ?_))))))
 rw [hd']
 refine wpAny_pure (a:=some dx) (wpAny_bind (wpAny_pure (wpAny_bind ?_)))
 refine wpAny_nsSet1 (s:={ s with toks:=s.toks + 1 }) I.ns λh' hn2 hs2=>?_
 obtain ⟨oD,esD,epD,hoD,hdD,hcD⟩:=hn2.count (PySem.Within.cons name v hw)
 refine wpAny_bind (wpAny_lookBehind hoD (by rw [hdD];exact pastItsLine_dict (zMU hcD (by rw [zM4];omega))) ?_)
 exact wpAny_pure (h _ ⟨(hs2.2 _ (Ne.symm I.ne)).trans I.obj,hn2,I.ne⟩ hs2)
theorem zBK {R:Result->Shared->Prop} {vs:List Value} {a:List (Str × Value)} (X:K.In s.heap) (b:W.makesIn K C=true)
  (c:W.findIn K (.ref C) "__init__"=some (some (.ref f))) (e:W.typeIn K (.ref f)=some (.type "function"))
  (h:codeAny (model prog w) (A.under (.builtin "type.__call__" ⟨.ref C :: vs,a⟩)) (.call (.ref f) ⟨.ref (s.heap.objs.size + 1) :: vs,a⟩) (W.InitBack (s.heap.objs.size + 1) R)
   { s with heap:=(s.heap.push W.emptyDict).push (W.instObj C s.heap.objs.size) }) :
  codeAny (model prog w) A (.call (.ref C) ⟨vs,a⟩) R s:=by
 obtain ⟨i,g,d,t,os⟩:=s
 exact W.make_core (W.makes_of X b) (W.looks_findIn X c) (λself=>W.bind_fn X self e) (.inl rfl) h
end
noncomputable def wJ (f:Str) (v:V):List (Str × V)->List (Str × V)
 | []=>[(f,v)]
 | (g,x) :: r=>if g=f then (g,v) :: r else (g,x) :: wJ f v r
theorem pB (f g:Str) (v:V):∀ c:List (Str × V),(wJ f v c).lookup g=if g=f then some v else c.lookup g
 | []=>by
  show List.lookup g [(f,v)]=_
  by_cases h:g=f
  ·have a:(g == f)=true:=beq_iff_eq.mpr h
   simp only [List.lookup,a,if_pos h]
  ·have a:(g == f)=false:=beq_eq_false_iff_ne.mpr h
   simp only [List.lookup,a,if_neg h]
 | (k,x) :: r=>by
  have d:=pB f g v r
  rw [show wJ f v ((k,x) :: r)=(if k=f then (k,v) :: r else (k,x) :: wJ f v r) from rfl]
  by_cases b:k=f
  ·rw [if_pos b]
   by_cases h:g=k
   ·have a:(g == k)=true:=beq_iff_eq.mpr h
    simp only [List.lookup,a,if_pos (h.trans b)]
   ·have a:(g == k)=false:=beq_eq_false_iff_ne.mpr h
    simp only [List.lookup,a,if_neg (λe:g=f=>h (e.trans b.symm))]
  ·rw [if_neg b]
   by_cases h:g=k
   ·have a:(g == k)=true:=beq_iff_eq.mpr h
    simp only [List.lookup,a,if_neg (λe:g=f=>b (h.symm.trans e))]
   ·have a:(g == k)=false:=beq_eq_false_iff_ne.mpr h
    simp only [List.lookup,a]
    exact d
theorem qT (f:Str) (v:V):∀ a:List (Str × V),f ∈ (wJ f v a).map (·.1)/\∀ g,g ∈ a.map (·.1)->g ∈ (wJ f v a).map (·.1)
 | []=>⟨by simp [wJ],λg h=>by simp at h⟩
 | (k,x) :: r=>by
  obtain ⟨c,d⟩:=qT f v r
  rw [show wJ f v ((k,x) :: r)=(if k=f then (k,v) :: r else (k,x) :: wJ f v r) from rfl]
  by_cases b:k=f
  ·rw [if_pos b]
   subst b
   exact ⟨by simp,λg h=>by simpa using h⟩
  ·rw [if_neg b]
   refine ⟨?_,λg h=>?_⟩
   ·rw [List.map_cons]
    exact zMW _ c
   ·rw [List.map_cons] at h ⊢
    rcases List.mem_cons.mp h with e | e
    ·exact List.mem_cons.mpr (.inl e)
    ·exact zMW _ (d g e)
theorem pC (f:Str) (v:V):∀ a:List (Str × V),(wJ f v a).length <= a.length + 1
 | []=>by simp [wJ]
 | (k,x) :: r=>by
  have c:=pC f v r
  rw [show wJ f v ((k,x) :: r)=(if k=f then (k,v) :: r else (k,x) :: wJ f v r) from rfl]
  by_cases b:k=f
  ·rw [if_pos b,zM4,zM4];omega
  ·rw [if_neg b,zM4,zM4];omega
theorem sT.some_of {v:V} {o:Option Value} (r:sT (some v) o):∃ u,o=some u/\yU v u:=by
 cases o with
 | none=>exact (show False from r).elim
 | some u=>exact ⟨u,rfl,r⟩
theorem sT.none_of {o:Option Value} (r:sT none o):o=none:=by
 cases o with
 | none=>rfl
 | some u=>exact (show False from r).elim
theorem bK {v:V} {u:Value} (r:yU v u):W.handedIn u=true:=by
 cases v with
 | non=>cases (show u=Value.none from r);rfl
 | bl b=>cases (show u=Value.bool b from r);rfl
 | int i=>obtain ⟨t,e⟩:=(show ∃ t,u=Value.int i t from r);cases e;rfl
 | str x=>obtain ⟨t,e⟩:=(show ∃ t,u=Value.str x t from r);cases e;rfl
 | byt b=>obtain ⟨t,e⟩:=(show ∃ t,u=Value.bytes b t from r);cases e;rfl
 | flt b=>obtain ⟨t,e⟩:=(show ∃ t,u=Value.float b t from r);cases e;rfl
 | ref a=>cases (show u=Value.ref a from r);rfl
 | ty n=>cases (show u=Value.type n from r);rfl
section
variable {P:Program} {w:World} {H H':Hp} {h h':Heap} {a C dx:Addr} {fs fs':List (Str × V)}
theorem p8 (c:HOk P w H h) (e:H a=some (.ins C dx fs)):∃ b,fW h a dx C b/\(∀ f,sT (fs.lookup f) (b f))/\PySem.Within b (fs.map (·.1))/\fs.length <= 1000/\H dx=some (.own a):=by
 obtain ⟨d,z,ne,g,b,n,r,q⟩:=(show xJ P w H h a (.ins C dx fs) from c a _ e)
 exact ⟨b,⟨g,n,ne⟩,r,q,z,d⟩
end
structure Cls (K:W.Frag) (C:Addr):Prop where
 pg:W.plainGet K C Str.empty=true
 hd:W.hasDictIn K C=true
 po:W.plainOver K C=true
 sa:W.findIn K (.ref C) "__setattr__"=some (some (.builtin "object.__setattr__"))
theorem Cls.get {K:W.Frag} {C:Addr} (c:Cls K C) (f:Str):W.plainGet K C f=true:=c.pg
noncomputable def vZ (K:W.Frag) (C:Addr) (f:Str):Prop:=W.findIn K (.ref C) f=some none
theorem vZ.taker {K:W.Frag} {C:Addr} {f:Str} (n:vZ K C f):W.takerIn K C f=some none:=by
 unfold W.takerIn
 rw [show W.findIn K (.ref C) f=some none from n]
 rfl
structure zCV (K:W.Frag) (C:Addr) (m:Str) (f:Addr):Prop where
 at_:W.findIn K (.ref C) m=some (some (.ref f))
 fn:W.isFn K (.ref f)=true
 kp:W.keepIn K (.ref f)=true
section
variable {X:Cx} {qp:LAO} {σ:St} {H:Hp} {s:Shared} {a C dx:Addr} {fs:List (Str × V)} {f:Str} {v:V} {A:Around} {E:VSP}
theorem fO {b:Bool} {Q:VSP} (I:Inv X qp σ H s) (e:H a=some (.ins C dx fs)) (c:Cls X.K C) (n:vZ X.K C f) (l:fs.lookup f=some v)
  (h:∀ u s',Inv X qp σ H s'->yU v u->Q u s'):wpAny (model X.prog X.w) A (getAttr (.ref a) f b) Q E s:=by
 obtain ⟨g,O,r,_,_,_⟩:=p8 I.hok e
 obtain ⟨u,i,d⟩:=sT.some_of (v:=v) (o:=g f) (by rw [<- l];exact r f)
 exact zET I.kIn O (c.get f) c.hd n i (bK d) (h u _ (I.tok _) d)
theorem nJ {m:Str} {g:Addr} {pl:Sem Bool} {Q:Value × List Value->Shared->Prop} (I:Inv X qp σ H s) (e:H a=some (.ins C dx fs)) (c:Cls X.K C) (k:zCV X.K C m g) (l:fs.lookup m=none)
  (h:Q (.ref g,[.ref a]) s):wpAny (model X.prog X.w) A (getMethod (.ref a) m pl) Q E s:=by
 obtain ⟨b,O,r,_,_,_⟩:=p8 I.hok e
 have d:b m=none:=sT.none_of (by rw [<- l];exact r m)
 exact zB4 I.kIn O (c.get m) k.at_ k.fn d h
theorem gM {y:V} {u:Value} {Q:Unit->Shared->Prop} (I:Inv X qp σ H s) (e:H a=some (.ins C dx fs)) (c:Cls X.K C) (n:vZ X.K C f) (J:fs.length < 1000) (l:yU y u)
  (h:∀ s',Inv X qp σ (upd H a (.ins C dx (wJ f y fs))) s'->Q () s'):wpAny (model X.prog X.w) A (setAttr (.ref a) f u) Q E s:=by
 obtain ⟨i,O,r,j,_,k⟩:=p8 I.hok e
 have m:(fs.map (·.1)).length <= sizeLine:=by rw [zMJ,sizeLine_eq];omega
 refine zC7 I.kIn O c.sa c.po n.taker c.hd j m λp d t=>h _ ?_
 have hd:∃ o,p.get? dx=some o:=let ⟨o,_,_,B,_⟩:=d.ns;⟨o,B⟩
 refine I.write (x:=a) (e:=dx) (by rw [e];exact True.intro) (.inr k) (λb q D z=>(t.2 b D).trans z) hd ?_
 refine ⟨by rw [zK O.ne];exact k,?_,O.ne,d.obj,_,d.ns,λg=>?_,λg G=>?_⟩
 ·have:=pC f y fs;omega
 ·show sT ((wJ f y fs).lookup g) (if g=f then some u else i g)
  rw [pB]
  by_cases q:g=f
  ·rw [if_pos q,if_pos q];exact l
  ·rw [if_neg q,if_neg q];exact r g
 ·by_cases q:g=f
  ·rw [q];exact (qT f y fs).1
  ·refine (qT f y fs).2 g (j g λz=>G ?_)
   show (if g=f then some u else i g)=none
   rw [if_neg q];exact z
theorem Inv.made (I:Inv X qp σ H s):Inv X qp σ (upd (upd H s.heap.objs.size (.own (s.heap.objs.size + 1))) (s.heap.objs.size + 1) (.ins C s.heap.objs.size []))
  { s with heap:=(s.heap.push W.emptyDict).push (W.instObj C s.heap.objs.size) }:=by
 have c:(s.heap.push W.emptyDict).get? s.heap.objs.size=some W.emptyDict:=Heap.get?_push_size s.heap rfl
 have d:((s.heap.push W.emptyDict).push (W.instObj C s.heap.objs.size)).get? (s.heap.objs.size + 1)=some (W.instObj C s.heap.objs.size):=by
  have:=Heap.get?_push_size (s.heap.push W.emptyDict) (o:=W.instObj C s.heap.objs.size) rfl
  rwa [Heap.size_push] at this
 have g:(s.heap.push W.emptyDict).Ns s.heap.objs.size (λ_=>none):=⟨W.emptyDict,#[],_,c,rfl,(λe h=>absurd h (by simp)),λ_=>rfl⟩
 have i:=I.laid (a:=s.heap.objs.size) (o:=.own (s.heap.objs.size + 1)) (h':=s.heap.push W.emptyDict) (t':=s.toks) (λb u q=>Heap.get?_push_of_some _ q) (zMS _) ⟨_,c⟩
 refine i.laid (a:=s.heap.objs.size + 1) (o:=.ins C s.heap.objs.size []) (t':=s.toks) (λb u q=>Heap.get?_push_of_some _ q) (Nat.le_of_eq (Heap.size_push _ _)) ?_
 have ne:s.heap.objs.size ≠ s.heap.objs.size + 1:=zNA (Nat.lt_succ_self _)
 refine ⟨by rw [zK ne,zC],zMT _,ne,d,λ_=>none,(Heap.Ns1.of_empty g).at λo q=>Heap.get?_push_of_some _ q,λ_=>True.intro,λy k=>absurd rfl k⟩
theorem zFA {prog:Program} {w:World} {env:Env} {e:Expr} {f:Str} {pos:Pos} {s:Shared} {Q:VSP} (c:attributeBase e f env (eval e env)=eval e env)
  (h:wpAny (model prog w) A (eval e env) (λo b=>wpAny (model prog w) A (getAttr o f true) Q E b) E s):wpAny (model prog w) A (eval (.Attribute e f pos) env) Q E s:=
 Attribute_any_ h (by rw [arm_eval_Attribute,c])
end
noncomputable def tFld (K:W.Frag) (d:TE) (f:Str):TE:=λe H Q=>d e H λx b=>∃ a C g c v,x=.ref a/\b a=some (.ins C g c)/\Cls K C/\vZ K C f/\c.lookup f=some v/\Q v b
noncomputable def zAN (K:W.Frag) (g h:TE) (f:Str):TS:=λD b H=>h b H λy i=>g b i λx d=>∃ a C e c,x=.ref a/\d a=some (.ins C e c)/\Cls K C/\vZ K C f/\c.length < 1000 /\
 D.nx b (upd d a (.ins C e (wJ f y c)))
section
variable {X:Cx} {o e value:Expr} {f:Str} {pos pos' tpos:Pos} {ta tv:TE}
theorem yB (d:PE X e ta) (g:attributeBase e f X.env (eval e X.env)=eval e X.env):PE X (.Attribute e f pos) (tFld X.K ta f):=by
 intro i s j H Q I h
 refine zFA g (thn (d i s j H _ I h) λu z b=>?_)
 obtain ⟨x,k,m,p,a,C,A,B,v,r,t,c,n,l,q⟩:=b
 subst r
 obtain rfl:u=Value.ref a:=p
 exact fO m t c n l λD E w y=>⟨v,k,w,y,q⟩
theorem vL (j:PE X o ta) (k:PE X value tv) (m:swapsWith value (some (.Attribute o f pos')) pos.line X.env=pure false):PS X (.Assign [.Attribute o f pos'] value pos) (zAN X.K ta tv f):=by
 intro i s g H D I h
 refine plainObj_wpAny_Assign_Attribute (thn (k i s g H _ I h) λu p b=>?_) m
 obtain ⟨y,r,t,v,q⟩:=b
 refine thn (j i p g r _ t q) λw L d=>?_
 obtain ⟨x,M,z,A,a,C,N,O,B,E,c,n,l,G⟩:=d
 subst B
 obtain rfl:w=Value.ref a:=A
 exact gM z E c n l v λQ J=>⟨g,_,J,G⟩
end
section
variable {X:Cx} {qp:LAO} {σ:St} {H:Hp} {s:Shared} {A:Around} {E:VSP} {Q:VSP} {c:Value} {b:Bool}
inductive qF (K:W.Frag) (H:Hp):V->Value->Prop where
 | non:qF K H .non (.type "NoneType")
 | bl (x:Bool):qF K H (.bl x) (.type "bool")
 | int (i:Int):qF K H (.int i) (.type "int")
 | str (x:Str):qF K H (.str x) (.type "str")
 | flt (x:UInt64):qF K H (.flt x) (.type "float")
 | lst {a:Addr} {xs:List V} (e:H a=some (.lst xs)):qF K H (.ref a) (.type "list")
 | frz {a:Addr} {o:Obj} {xs:List V} (e:H a=some (.frz o (.lst xs))):qF K H (.ref a) (.type "list")
 | tup {a:Addr} {xs:List V} (e:H a=some (.tup xs)):qF K H (.ref a) (.type "tuple")
 | dK {a:Addr} {kvs:List (Key × V)} (e:H a=some (.dK kvs)):qF K H (.ref a) (.type "dict")
 | dT {a:Addr} {kvs:List (List Key × V)} (e:H a=some (.dT kvs)):qF K H (.ref a) (.type "dict")
 | ins {a C dx:Addr} {fs:List (Str × V)} (e:H a=some (.ins C dx fs)) (cl:Cls K C) (ha:W.findIn K (.ref C) "__class__"=some (some (.builtin "object.__class__")))
   (hn:W.specialIn K (.builtin "object.__class__") "__get__"=some (some (.builtin "getset_descriptor.__get__"))) (htk:W.takesIn K (.builtin "object.__class__")=some true)
   (hm:W.mroIn K C (.type "object")=some true):qF K H (.ref a) (.ref C)
theorem bH {x:V} {u t:Value} (I:Inv X qp σ H s) (d:yU x u) (ty:qF X.K H x t) (e:W.kitOne X.K t c=some b) (h:∀ v,Q (.bool b) { s with toks:=v }) :
  wpAny (model X.prog X.w) A (call (.builtin "isinstance") [u,c]) Q E s:=by
 cases ty with
 | non=>cases (show u=Value.none from d);exact W.kia_one W.kitx_none I.kIn True.intro e (λz=>nomatch z) h
 | bl y=>cases (show u=Value.bool y from d);exact W.kia_one W.kitx_bool I.kIn True.intro e (λz=>nomatch z) h
 | int i=>obtain ⟨t,q⟩:=(show ∃ t,u=Value.int i t from d);cases q;exact W.kia_one W.kitx_int I.kIn True.intro e (λz=>nomatch z) h
 | str y=>obtain ⟨t,q⟩:=(show ∃ t,u=Value.str y t from d);cases q;exact W.kia_one W.kitx_str I.kIn True.intro e (λz=>nomatch z) h
 | flt y=>obtain ⟨t,q⟩:=(show ∃ t,u=Value.float y t from d);cases q;exact W.kia_one W.kitx_float I.kIn True.intro e (λz=>nomatch z) h
 | @lst a k f=>
  cases (show u=Value.ref a from d)
  obtain ⟨_,_,n,_,g⟩:=(show xJ X.prog X.w H s.heap a (.lst k) from I.hok a _ f)
  exact W.kia_one W.kitx_list I.kIn ⟨_,g,rfl⟩ e (λz=>nomatch z) h
 | @frz a B k f=>
  cases (show u=Value.ref a from d)
  obtain ⟨_,_,_,n,_,g⟩:=(show xJ X.prog X.w H s.heap a (.frz B (.lst k)) from I.hok a _ f)
  exact W.kia_one W.kitx_list I.kIn ⟨_,g,rfl⟩ e (λz=>nomatch z) h
 | @tup a k f=>
  cases (show u=Value.ref a from d)
  obtain ⟨_,_,_,p⟩:=(show xJ X.prog X.w H s.heap a (.tup k) from I.hok a _ f)
  obtain ⟨o,g,l,_⟩:=p
  exact W.kia_one W.kitx_tuple I.kIn ⟨o,g,l⟩ e (λz=>nomatch z) h
 | @dK a j f=>
  cases (show u=Value.ref a from d)
  obtain ⟨_,_,T,_,p⟩:=(show xJ X.prog X.w H s.heap a (.dK j) from I.hok a _ f)
  obtain ⟨o,D,G,g,l,_⟩:=p
  exact W.kia_one W.kitx_dict I.kIn ⟨o,g,l.1⟩ e (λz=>nomatch z) h
 | @dT a j f=>
  cases (show u=Value.ref a from d)
  obtain ⟨_,_,k,_,o,D,G,g,l,_⟩:=(show xJ X.prog X.w H s.heap a (.dT j) from I.hok a _ f)
  exact W.kia_one W.kitx_dict I.kIn ⟨o,g,l.1⟩ e (λz=>nomatch z) h
 | @ins a C U Y f r L M m N=>
  cases (show u=Value.ref a from d)
  obtain ⟨mA,O,_⟩:=p8 I.hok f
  obtain ⟨od,J,_⟩:=O.look
  exact W.kia_one (W.kitx_own (r.get _) r.hd L M m N) I.kIn J e (λz=>nomatch z) h
end
structure z6 (k:Nat) (A:Around):Prop where
 hd:A.handled=none
 dp:A.depth + 3 * k + 5 < recursionLimit
 un:A.units + 16 * k + 200 < cLine
theorem z6.mono {j k:Nat} {A:Around} (r:z6 k A) (h:j <= k):z6 j A:=⟨r.hd,by have:=r.dp;omega,by have:=r.un;omega⟩
theorem z6.deeper {k:Nat} {A:Around} (r:z6 (k + 1) A) (env:Env):z6 k (A.deeper env):=
 ⟨r.hd,by have:=r.dp;show A.depth + 1 + 3 * k + 5 < _;omega,by have:=r.un;show A.units + 3 + 16 * k + 200 < _;omega⟩
theorem fH {A:Around} {C:Addr} {us:List Value} {a:List (Str × Value)}:(A.under (.builtin "type.__call__" ⟨.ref C :: us,a⟩)).depth=A.depth + 1:=by
 first | rfl | simp [Around.under,Code.weight,Code.isCreation,Code.isGuard,Code.isCaller,Code.frames,Code.isFrame,guardIds]
theorem fG {A:Around} {C:Addr} {us:List Value} {a:List (Str × Value)}:(A.under (.builtin "type.__call__" ⟨.ref C :: us,a⟩)).units=A.units + 1:=by
 first | rfl | simp [Around.under,Code.cUnits,Code.frames,Code.isFrame]
theorem z6.make {k:Nat} {A:Around} (r:z6 (k + 1) A) (C:Addr) (us:List Value) (a:List (Str × Value)):z6 k (A.under (.builtin "type.__call__" ⟨.ref C :: us,a⟩)):=
 ⟨r.hd,by have:=r.dp;rw [fH];omega,by have:=r.un;rw [fG];omega⟩
theorem z6.depth {k:Nat} {A:Around} (r:z6 k A):A.depth < recursionLimit:=by have:=r.dp;omega
theorem z6.units {k:Nat} {A:Around} (r:z6 k A):A.units + 64 < cLine:=by have:=r.un;omega
noncomputable def t7:TA:=λ_ H Q=>Q [] H
noncomputable def vD (b:TE) (c:TA):TA:=λa H Q=>b a H λx d=>c a d λe f=>Q (x :: e) f
section
variable {X:Cx} {e:Expr} {es:List Expr} {te:TE} {t:TA} {pos:Pos}
theorem zB:PA X [] t7:=λ_ _ _ _ H Q I h=>Calls.spliced_nil ⟨[],H,I,.nil,h⟩
theorem zA (d:PE X e te) (f:PA X es t) (g:starEach (e :: es) X.env=(false,eval e X.env) :: starEach es X.env:=by rfl):PA X (e :: es) (vD te t):=by
 intro pos b s c H Q I h
 rw [g]
 show wpAny _ _ (spliced ((false,eval e X.env) :: backTo pos (starEach es X.env))) _ _ s
 refine Calls.spliced_cons (thn (d b s c H _ I h) λu i a=>?_)
 obtain ⟨x,j,k,l,m⟩:=a
 exact thn (f pos b i c j _ k m) λv w ⟨n,o,p,q,r⟩=>⟨x :: n,o,p,.cons l q,r⟩
noncomputable def zC0 (t:TA):TE:=λc H Q=>t c H λa b=>a.length <= sizeLine/\∀ p,b p=none->Q (.ref p) (upd b p (.tup a))
noncomputable def jQ (t:TA):TE:=λc H Q=>t c H λa b=>a.length <= sizeLine/\∀ p,b p=none->Q (.ref p) (upd b p (.lst a))
theorem z9 {g} (h:PA X es t):PE X (.Tuple es g pos) (zC0 t):=by
 intro i s j H Q I k
 refine wpAny_Tuple_spliced (thn (h pos i s j H _ I k) λl c a=>?_)
 obtain ⟨m,d,f,r,z,q⟩:=a
 refine ⟨by rw [<- r.length];exact z,?_⟩
 have n:d c.heap.objs.size=none:=f.hok.fresh (zMS _)
 refine ⟨.ref c.heap.objs.size,upd d c.heap.objs.size (.tup m),f.laid (t':=c.toks) (λb u e=>Heap.get?_push_of_some _ e) (zMS _) ?_,rfl,q _ n⟩
 exact ⟨z,l,r,⟨_,Heap.get?_push_size _ rfl,rfl,_,rfl⟩⟩
theorem yN (h:PA X es t):PE X (.List es pos) (jQ t):=by
 intro g s i H Q I j
 refine wpAny_List_spliced (thn (h pos g s i H _ I j) λk c a=>?_)
 obtain ⟨l,d,f,r,z,q⟩:=a
 refine ⟨by rw [<- r.length];exact z,?_⟩
 have m:d c.heap.objs.size=none:=f.hok.fresh (zMS _)
 refine ⟨.ref c.heap.objs.size,upd d c.heap.objs.size (.lst l),f.laid (t':=c.toks) (λb u e=>Heap.get?_push_of_some _ e) (zMS _) ?_,rfl,q _ m⟩
 exact ⟨z,k,0,r,Heap.get?_push_size _ rfl⟩
end
noncomputable abbrev Sp:=List V->Hp->VK->XK->Prop
noncomputable abbrev CXT:=List Env->Hp->Shared->XK->VSP
structure gB (P:Program) (w:World) (K:W.Frag) (mg:Str->Option Value) (base:Heap) (A:Around) (outer:List Env) (s:Shared) (H:Hp):Prop where
 frames:A.frames=some outer
 mod:Mod K mg base
 bs:∀ b o,base.get? b=some o->s.heap.get? b=some o/\H b=none
 bsz:base.objs.size <= s.heap.objs.size
 funs:s.heap.FunFrames base outer
 frf:∀ b ∈ frs outer,H b=none
 hok:HOk P w H s.heap
 bare:AllBare s.gens
noncomputable def CE (a:List Env) (P:Program) (w:World) (H:Hp) (s:Shared) (Q:VK) (u:Value) (s':Shared):Prop:=
 ∃ v b,s'.os=s.os/\AllBare s'.gens/\Un (frs a) [] H b s.heap s'.heap/\HOk P w b s'.heap/\yU v u/\Q v b
noncomputable def CR (CX:CXT) (a:List Env) (P:Program) (w:World) (H:Hp) (s:Shared) (Q:VK) (E:XK) (r:Result) (s':Shared):Prop:=
 match r with
 | .ok (.ret u)=>CE a P w H s Q u s'
 | .ok _=>False
 | .error e=>CX a H s E e s'
structure tJ (P:Program) (w:World) (K:W.Frag) (mg:Str->Option Value) (base:Heap) (CX:CXT) (k:Nat) (f:Addr) (fd:FuncData) (ps:List Str) (sp:Sp):Prop where
 len:∀ vs H Q E,sp vs H Q E->vs.length=ps.length
 run:∀ (A:Around) (outer:List Env) (s:Shared) (H:Hp) (args:Args) (us:List Value) (vs:List V) (Q:VK) (E:XK),z6 k A->gB P w K mg base A outer s H->BindsTo s fd args (ps.zip us)->yH vs us->sp vs H Q E ->
  codeAny (model P w) A (.call (.ref f) args) (CR CX outer P w H s Q E) s
theorem gB.make {P:Program} {w:World} {K:W.Frag} {mg:Str->Option Value} {base:Heap} {A:Around} {a:List Env} {s:Shared} {H:Hp} (e:gB P w K mg base A a s H) (C:Addr) (us:List Value) (b:List (Str × Value)) :
  gB P w K mg base (A.under (.builtin "type.__call__" ⟨.ref C :: us,b⟩)) a s H:=⟨by first | exact e.frames | (simpa [Around.under,Code.envs,Code.isFrame,pushEnvs] using e.frames),e.mod,e.bs,e.bsz,e.funs,e.frf,e.hok,e.bare⟩
section
variable {X:Cx} {qp:LAO} {σ:St} {H:Hp} {s s':Shared}
theorem Inv.env0 (I:Inv X qp σ H s):gB X.prog X.w X.K X.mg X.base X.A X.stack s H:=
 ⟨I.ok.frames,I.ok.mod,I.bs,zMU I.ok.bsz I.sz,I.stack,I.stkFree,I.hok,I.bare⟩
theorem Inv.after {Q:VK} {u:Value} (I:Inv X qp σ H s) (h:CE X.stack X.prog X.w H s Q u s'):EP X qp σ Q u s':=by
 obtain ⟨v,e,os,bare,un,a,r,q⟩:=h
 obtain ⟨f,g,d,t,c⟩:=s'
 obtain rfl:c=s.os:=os
 exact ⟨v,e,I.call (h':=f) (g':=g) (d':=d) (t':=t) (ch:=[]) un a bare (λb z=>absurd z (by simp)),r,q⟩
end
noncomputable def mY (sp:Sp) (a:List V) (E:XK) (t:TA):TE:=λb H Q=>t b H λc d=>sp (c ++ a) d Q E
noncomputable def jP (C:Addr) (m:Str) (sp:Sp) (b:List V) (E:XK) (f:TE) (t:TA):TE:=λc H Q=>f c H λx d=>∃ a g e,x=.ref a/\d a=some (.ins C g e)/\e.lookup m=none /\
 t c d λh i=>sp (x :: (h ++ b)) i Q E
noncomputable def zFK (C:Addr) (sp:Sp) (b:List V) (E:XK) (t:TA):TE:=λd H Q=>t d H λe c=>∀ x a,c x=none->c a=none->a ≠ x ->
 sp (.ref x :: (e ++ b)) (upd (upd c a (.own x)) x (.ins C a [])) (λv f=>v=.non/\Q (.ref x) f) E
noncomputable def uX (K:W.Frag) (fd:FuncData) (ps:List Str) (ds:List Value):Prop:=
 ∀ (s:Shared) (a:List Value),K.In s.heap->(a ++ ds).length=ps.length->BindsTo s fd ⟨a,[]⟩ (ps.zip (a ++ ds))
theorem uX.all {K:W.Frag} {fd:FuncData} {ps:List Str} (h:∀ us:List Value,us.length=ps.length->bindArgs fd ⟨us,[]⟩=pure (ps.zip us)):uX K fd ps []:=λs us _ a=>by
 rw [List.append_nil] at a ⊢
 exact .of_eq (h us a)
noncomputable def uV (CX:CXT) (X:Cx) (E:XK):Prop:=∀ (b:LAO) (c:St) (H:Hp) (s:Shared) (e:Value) (a:Shared),Inv X b c H s->CX X.stack H s E e a->X.xe e a
section
variable {X:Cx} {CX:CXT} {k:Nat} {f C:Addr} {fd:FuncData} {ps:List Str} {sp:Sp} {dvs:List V} {ds:List Value} {E:XK} {x m:Str} {p pos apos:Pos} {e o:Expr} {es:List Expr} {ta:TE} {t:TA}
theorem gQ {qp:LAO} {σ:St} {H:Hp} {s:Shared} {Q:VK} {us:List Value} {vs:List V} (F:tJ X.prog X.w X.K X.mg X.base CX k f fd ps sp) (c:z6 k X.A) (d:uX X.K fd ps ds) (hd:yH dvs ds) (hx:uV CX X E)
  (I:Inv X qp σ H s) (r:yH vs us) (h:sp (vs ++ dvs) H Q E):wpAny (model X.prog X.w) X.A (call (.ref f) us) (EP X qp σ Q) X.xe s:=by
 have b:yH (vs ++ dvs) (us ++ ds):=r.append hd
 have g:(us ++ ds).length=ps.length:=by rw [<- b.length];exact F.len _ _ _ _ h
 refine wpAny_call (codeAny_mono (F.run X.A X.stack s H ⟨us,[]⟩ (us ++ ds) (vs ++ dvs) Q E c I.env0 (d s us I.kIn g) b h) λr i a=>?_)
 cases r with
 | error e=>exact hx qp σ H s e i I a
 | ok j=>
  cases j with
  | ret u=>exact I.after a
  | next=>exact False.elim a
  | brk=>exact False.elim a
  | cont=>exact False.elim a
theorem dE (F:tJ X.prog X.w X.K X.mg X.base CX k f fd ps sp) (i:z6 k X.A) (j:Gl X x) (l:X.mg x=some (.ref f)) (n:W.keepIn X.K (.ref f)=true) (u:uX X.K fd ps ds) (hd:yH dvs ds) (hx:uV CX X E)
  (v:PA X (e :: es) t) (b:(x == ("__debug__" : Str))=false:=by decide) (y:starEach (e :: es) X.env=(false,eval e X.env) :: starEach es X.env:=by rfl) (c:(backTo pos (starEach es X.env)).any (·.1)=false:=by rfl) :
  PE X (.Call (.Name x p) (e :: es) [] pos) (mY sp dvs E t):=by
 intro z s B H Q I h
 refine wpAny_Call_Name_kw (sN I j l ?_ b)
 refine W.callWith_K (h₀:=X.base) I.ok.mod.kin n (thn (v pos z s B H _ I h) λD G a=>?_) y c
 obtain ⟨J,L,g,r,q⟩:=a
 refine ⟨g.kIn,?_⟩
 exact gQ F i u hd hx g r q
theorem dD {pl:Sem Bool} (L:PE X o ta) (c:Cls X.K C) (j:zCV X.K C m f) (F:tJ X.prog X.w X.K X.mg X.base CX k f fd ps sp) (M:z6 k X.A) (N:uX X.K fd ps ds) (hd:yH dvs ds) (hx:uV CX X E) (O:PA X (e :: es) t)
  (g:starEach (e :: es) X.env=(false,eval e X.env) :: starEach es X.env:=by rfl) (i:(backTo pos (starEach es X.env)).any (·.1)=false:=by rfl)
  (T:eval (.Call (.Attribute o m apos) (e :: es) [] pos) X.env=(do
   let n <- eval o X.env
   standAt apos.atName
   let (f,first) <- holding [n] (getMethod n m pl)
   callWith pos f first (backTo pos (starEach (e :: es) X.env)) (backToKw pos (keywordEach [] X.env))):=by rfl) :
  PE X (.Call (.Attribute o m apos) (e :: es) [] pos) (jP C m sp dvs E ta t):=by
 intro v s y H Q I h
 refine W.methodCall_KW (pl:=pl) (thn (L v s y H _ I h) λu U b=>?_) T
 obtain ⟨x,Y,z,rx,a,dx,fs,ex,ea,l,q⟩:=b
 subst ex
 obtain rfl:u=Value.ref a:=rx
 refine nJ z ea c j l ?_
 refine W.callWith_K (first:=[.ref a]) (h₀:=X.base) I.ok.mod.kin j.kp (thn (O pos v U y Y _ z q) λD s2 d=>?_) g i
 obtain ⟨G,H2,J,r,q2⟩:=d
 refine ⟨J.kIn,?_⟩
 exact gQ (us:=.ref a :: D) (vs:=.ref a :: G) F M N hd hx J (.cons rfl r) q2
theorem zA4 {pl:Sem Bool} (j:PE X o ta) (c:Cls X.K C) (g:zCV X.K C m f) (F:tJ X.prog X.w X.K X.mg X.base CX k f fd ps sp) (n:z6 k X.A) (r:uX X.K fd ps ds) (hd:yH dvs ds) (hx:uV CX X E)
  (v:eval (.Call (.Attribute o m apos) [] [] pos) X.env=(do
   let i <- eval o X.env
   standAt apos.atName
   let (f,first) <- holding [i] (getMethod i m pl)
   callWith pos f first (backTo pos (starEach [] X.env)) (backToKw pos (keywordEach [] X.env))):=by rfl) :
  PE X (.Call (.Attribute o m apos) [] [] pos) (jP C m sp dvs E ta t7):=by
 intro y s z H Q I h
 refine W.methodCall_KW (pl:=pl) (thn (j y s z H _ I h) λu J b=>?_) v
 obtain ⟨x,L,d,B,a,M,N,D,G,l,q⟩:=b
 subst D
 obtain rfl:u=Value.ref a:=B
 refine nJ d G c g l ?_
 exact W.callWith_K0 (first:=[.ref a]) d.kIn g.kp (gQ (us:=[.ref a]) (vs:=[.ref a]) F n r hd hx d (.cons rfl .nil) q)
structure Mk (K:W.Frag) (C f:Addr):Prop where
 makes:W.makesIn K C=true
 init:W.findIn K (.ref C) "__init__"=some (some (.ref f))
 fn:W.isFn K (.ref f)=true
 kp:W.keepIn K (.ref C)=true
theorem zAQ {qp:LAO} {σ:St} {H:Hp} {s:Shared} {Q:VK} {us:List Value} {vs:List V} (M:Mk X.K C f) (F:tJ X.prog X.w X.K X.mg X.base CX k f fd ps sp) (g:z6 (k + 1) X.A) (i:uX X.K fd ps ds) (hd:yH dvs ds)
  (hx:uV CX X E) (I:Inv X qp σ H s) (r:yH vs us)
  (h:∀ x dx,H x=none->H dx=none->dx ≠ x->sp (.ref x :: (vs ++ dvs)) (upd (upd H dx (.own x)) x (.ins C dx [])) (λv j=>v=.non/\Q (.ref x) j) E) :
  wpAny (model X.prog X.w) X.A (call (.ref C) us) (EP X qp σ Q) X.xe s:=by
 have c:=h (s.heap.objs.size + 1) s.heap.objs.size (I.hok.fresh (Nat.le_succ _)) (I.hok.fresh (zMS _)) (zNA (Nat.lt_succ_self _))
 have b:=Inv.made (C:=C) I
 have d:yH (V.ref (s.heap.objs.size + 1) :: (vs ++ dvs)) (Value.ref (s.heap.objs.size + 1) :: (us ++ ds)):=.cons rfl (r.append hd)
 have l:(Value.ref (s.heap.objs.size + 1) :: us ++ ds).length=ps.length:=by
  have e:=d.length
  rw [F.len _ _ _ _ c] at e
  exact e.symm
 refine wpAny_call (zBK (f:=f) I.kIn M.makes M.init (beq_iff_eq.mp M.fn) (codeAny_mono (F.run _ X.stack _ _ ⟨Value.ref (s.heap.objs.size + 1) :: us,[]⟩ (Value.ref (s.heap.objs.size + 1) :: (us ++ ds)) _ _ E (g.make C us [])
  (b.env0.make C us []) (i _ (Value.ref (s.heap.objs.size + 1) :: us) b.kIn l) d c) λr n a=>?_))
 cases r with
 | error e=>exact hx qp σ _ _ e n b a
 | ok q=>
  cases q with
  | ret u=>
   obtain ⟨v,y,z,B,D,G⟩:=b.after a
   subst D
   exact ⟨B,⟨V.ref (s.heap.objs.size + 1),y,z,rfl,G⟩⟩
  | next=>exact False.elim a
  | brk=>exact False.elim a
  | cont=>exact False.elim a
theorem zDY (M:Mk X.K C f) (F:tJ X.prog X.w X.K X.mg X.base CX k f fd ps sp) (i:z6 (k + 1) X.A) (j:Gl X x) (l:X.mg x=some (.ref C)) (n:uX X.K fd ps ds) (hd:yH dvs ds) (hx:uV CX X E)
  (u:PA X (e :: es) t) (b:(x == ("__debug__" : Str))=false:=by decide) (v:starEach (e :: es) X.env=(false,eval e X.env) :: starEach es X.env:=by rfl) (c:(backTo pos (starEach es X.env)).any (·.1)=false:=by rfl) :
  PE X (.Call (.Name x p) (e :: es) [] pos) (zFK C sp dvs E t):=by
 intro y s z H Q I h
 refine wpAny_Call_Name_kw (sN I j l ?_ b)
 refine W.callWith_K (h₀:=X.base) I.ok.mod.kin M.kp (thn (u pos y s z H _ I h) λB D a=>?_) v c
 obtain ⟨G,J,g,r,q⟩:=a
 refine ⟨g.kIn,?_⟩
 exact zAQ M F i n hd hx g r q
end
section
variable {X:Cx} {CX:CXT} {k:Nat} {f C:Addr} {fd:FuncData} {ps ks:List Str} {sp:Sp} {E:XK} {x m:Str} {p pos apos kpos:Pos} {e o:Expr} {es:List Expr} {kws:List Keyword} {te ta:TE} {t tk:TA} {nm:Option Str}
variable {g:List Value->List Value->List Value} {gV:List V->List V->List V}
end
structure zO (N P:List Str) (sc:Scope):Prop where
 kind:sc.kind=.function
 co:sc.isCoroutine=false
 gen:sc.isGenerator=false
 nd:N.Nodup
 pre:N.take P.length=P
 par:∀ x ∈ P,sc.names.lookup x=some .local \/ sc.names.lookup x=some .cell
 nofree:∀ y ∈ sc.names,y.2 ≠ .free
theorem scm {N P:List Str} {sc:Scope} (a:sc.kind=.function:=by rfl) (b:sc.isCoroutine=false:=by rfl) (c:sc.isGenerator=false:=by rfl) (d:N.Nodup:=by decide +kernel) (e:N.take P.length=P:=by rfl) (f:∀ x ∈ P,sc.names.lookup x=some .local \/ sc.names.lookup x=some .cell:=by decide +kernel)
  (g:∀ y ∈ sc.names,y.2 ≠ .free:=by decide +kernel):zO N P sc:=⟨a,b,c,d,e,f,g⟩
theorem lK {kindOf:Str->Option NameKind} {x:Str}:∀ {a:List (Str × Value)} {m:Str->Option Value},(∀ v,(x,v) ∉ a)->bindL kindOf a m x=m x
 | [],_,_=>rfl
 | (n,v) :: r,m,h=>by
  unfold bindL
  rw [lK λw b=>h w (zMW _ b)]
  split
  ·have:x ≠ n:=by rintro rfl;exact h v zNC
   simp [this]
  ·rfl
theorem lO {kindOf:Str->Option NameKind} {x:Str}:∀ {a:List (Str × Value)} {m:Str->Option Value},(∀ v,(x,v) ∉ a)->bindC kindOf a m x=m x
 | [],_,_=>rfl
 | (n,v) :: r,m,h=>by
  unfold bindC
  rw [lO λw b=>h w (zMW _ b)]
  split
  ·rfl
  ·have:x ≠ n:=by rintro rfl;exact h v zNC
   simp [this]
theorem lM {kindOf:Str->Option NameKind} {x:Str} {v:Value}:∀ {P:List Str} {vs:List Value} {i:Nat} {m:Str->Option Value},P.Nodup->P[i]?=some x->vs[i]?=some v->kindOf x=some .local ->
  bindL kindOf (P.zip vs) m x=some v
 | [],_,_,_,_,h,_,_=>by simp at h
 | _ :: _,[],_,_,_,_,h,_=>by simp at h
 | p :: P,w :: vs,0,m,c,a,b,d=>by
  simp at a b;subst a;subst b
  show bindL kindOf ((p,w) :: P.zip vs) m p=_
  unfold bindL
  rw [lK λv e=>(List.nodup_cons.mp c).1 (List.of_mem_zip e).1,if_pos d]
  simp
 | p :: P,w :: vs,i + 1,m,c,a,b,d=>by
  show bindL kindOf ((p,w) :: P.zip vs) m x=_
  unfold bindL
  exact lM (i:=i) (List.nodup_cons.mp c).2 (by simpa using a) (by simpa using b) d
theorem lP {kindOf:Str->Option NameKind} {x:Str} {v:Value}:∀ {P:List Str} {vs:List Value} {i:Nat} {m:Str->Option Value},P.Nodup->P[i]?=some x->vs[i]?=some v->kindOf x ≠ some .local ->
  bindC kindOf (P.zip vs) m x=some v
 | [],_,_,_,_,h,_,_=>by simp at h
 | _ :: _,[],_,_,_,_,h,_=>by simp at h
 | p :: P,w :: vs,0,m,c,a,b,d=>by
  simp at a b;subst a;subst b
  show bindC kindOf ((p,w) :: P.zip vs) m p=_
  unfold bindC
  rw [lO λv e=>(List.nodup_cons.mp c).1 (List.of_mem_zip e).1,if_neg d]
  simp
 | p :: P,w :: vs,i + 1,m,c,a,b,d=>by
  show bindC kindOf ((p,w) :: P.zip vs) m x=_
  unfold bindC
  exact lP (i:=i) (List.nodup_cons.mp c).2 (by simpa using a) (by simpa using b) d
noncomputable def start (N:List Str) (vs:List V):St:=vs.map some ++ List.replicate (N.length - vs.length) none
noncomputable def uR (CX:CXT) (P:Program) (w:World) (K:W.Frag) (mg:Str->Option Value) (base:Heap) (N:List Str) (qual:Str) (scope:Scope) (f:Addr) (cd:Value) (A:Around) (outer:List Env) (s:Shared) (H:Hp) (E:XK):Cx where
 prog:=P
 w:=w
 K:=K
 mg:=mg
 base:=base
 A:=A.deeper (envOfC qual scope s.heap.objs.size f cd)
 N:=N
 s₀:=s
 H₀:=H
 env:=envOfC qual scope s.heap.objs.size f cd
 outer:=outer
 stack:=envOfC qual scope s.heap.objs.size f cd :: outer
 ex:=[]
 calm:=true
 fn:=λ_=>true
 pn:=[]
 xe:=λe s'=>wpAny (model P w) (A.deeper (envOfC qual scope s.heap.objs.size f cd)) (leaving (envOfC qual scope s.heap.objs.size f cd) e) (λ_ s''=>CX outer H s E e s'') (λe' s''=>CX outer H s E e' s'') s'
theorem i8 {sc:Scope} {n:Nat} {x:Str} (h:sc.names.lookup x=some .cell):∃ c,(cellsFrom n sc.names []).lookup x=some c:=by
 have q:=W.cellsFrom_some sc.names n [] (.inl h)
 exact Option.isSome_iff_exists.mp q
theorem lB {CX:CXT} {P:Program} {w:World} {K:W.Frag} {mg:Str->Option Value} {base:Heap} {N ps:List Str} {g:Str} {scope:Scope} {f:Addr} {C:Value} {A:Around} {d:List Env} {s I:Shared} {H:Hp} {E:XK} {us:List Value} {vs:List V}
  (S:zO N ps scope) (hd:A.handled=none) (l:gB P w K mg base A d s H) (T:vs.length=ps.length) (r:yH vs us)
  (x:InCallC s s.heap.objs.size (bindL (envOfC g scope s.heap.objs.size f C).kindOf (ps.zip us) λ_=>none) (cellsFrom (s.heap.objs.size + 1) scope.names []) (bindC (envOfC g scope s.heap.objs.size f C).kindOf (ps.zip us) λ_=>none) I) :
  Inv (uR CX P w K mg base N g scope f C A d s H E) [] (start N vs) H I:=by
 have M:ps.length <= N.length:=by have:=congrArg List.length S.pre;rw [zM2] at this;omega
 obtain ⟨D,U,rfl,J⟩:=x.done
 have m:∀ b:Addr,b ∉ (uR CX P w K mg base N g scope f C A d s H E).ex:=λb z=>absurd (show b ∈ ([]:List Addr) from z) (by simp)
 refine ⟨⟨l.mod,S.kind,rfl,rfl,zMS _,λy z c D j=>?_,λy o=>?_,λy c _ h=>?_,λ_=>hd,Around.frames_deeper l.frames,.inr ⟨rfl,rfl⟩,λb z=>absurd z (m b),l.bs,l.bsz,λb _ _=>m b,λb z=>absurd z (m b),l.funs,l.frf⟩,
  rfl,l.bare,Un.kept J,⟨_,x.toInCall.ns,λi y v D j Y=>?_⟩,λy c h=>⟨_,x.cell y c h⟩,l.hok.fresh (zMS _),λy c h=>?_,λp t=>absurd (show p ∈ ([]:LAO) from t) (by simp),l.hok.kept J,?_⟩
 ·exact name_of_addr x.apart (PySem.mem_of_lookup D) (PySem.mem_of_lookup j)
 ·have o:scope.names.lookup y=some .cell \/ scope.names.lookup y=some .free:=o
  rcases o with o | o
  ·exact i8 o
  ·exact absurd rfl (S.nofree _ (PySem.mem_of_lookup o))
 ·exact Nat.le_of_lt (x.above y c (PySem.mem_of_lookup h))
 ·have G:i < vs.length:=by
   unfold start at j
   by_cases G:i < vs.length
   ·exact G
   ·rw [zM6 (by simpa using G)] at j
    rw [List.getElem?_replicate] at j
    split at j <;> cases j
  have O:vs[i]?=some v:=by
   unfold start at j
   rw [zM7 (by simpa using G),zMP] at j
   cases e:vs[i]? with
   | none=>rw [e] at j;cases j
   | some a=>rw [e] at j;cases j;rfl
  obtain ⟨u,L,Q⟩:=r.get O
  have t:ps[i]?=some y:=by
   rw [<- S.pre,List.getElem?_take_of_lt (by omega)];exact D
  have B:ps.Nodup:=by rw [<- S.pre];exact S.nd.sublist (List.take_sublist _ _)
  refine ⟨u,Q,?_⟩
  rcases S.par y (zMN t) with k | k
  ·exact .inl ⟨k,lM B t L k⟩
  ·obtain ⟨c,e⟩:=i8 (n:=s.heap.objs.size + 1) k
   refine .inr ⟨.inl k,c,e,?_⟩
   have q:=x.cell y c e
   rw [lP B t L (by show scope.names.lookup y ≠ _;rw [k];decide)] at q
   exact q
 ·exact l.hok.fresh (Nat.le_of_lt (x.above y c (PySem.mem_of_lookup h)))
 ·unfold start
  show _=N.length
  rw [zM1,zMJ,List.length_replicate]
  omega
theorem zGK {CX:CXT} {P:Program} {w:World} {K:W.Frag} {mg:Str->Option Value} {base:Heap} {k:Nat} {f:Addr} {name c:Str} {g:Arguments} {body:List Stmt} {scope:Scope} {T kV p pm d ct oc:Value} {U od:Option Addr}
  {C:Array (Option Value)} {N ps:List Str} {sp:Sp} (lk:K.lookup f=some ⟨oc,od,.func (W.fnOf name c g body scope T kV p pm U d ct),C⟩) (D:W.codeIn K d c=true) (S:zO N ps scope)
  (len:∀ vs H Q E,sp vs H Q E->vs.length=ps.length)
  (j:∀ (A:Around) (a:List Env) (s:Shared) (H:Hp) (vs:List V) (Q:VK) (E:XK),z6 k (A.deeper (envOfC c scope s.heap.objs.size f d))->sp vs H Q E ->
   ∃ t,PSs (uR CX P w K mg base N c scope f d A a s H E) body t/\t { nx:=λ_ i=>Q .non i,rt:=Q } (start N vs) H) :
  tJ P w K mg base CX (k + 1) f (W.fnOf name c g body scope T kV p pm U d ct) ps sp:=by
 refine ⟨len,λA a s H args us vs Q E G z hb r B=>?_⟩
 have hl:=len _ _ _ _ B
 have Y:K.In s.heap:=z.mod.kin.keeps λb o e=>(z.bs b o e).1
 have L:s.heap.NoLimit:=z.mod.nolimit.keeps λb o e=>(z.bs b o e).1
 have l:∀ y ∈ ps.zip us,scope.names.lookup y.1=some .local \/ (scope.names.lookup y.1=some .cell/\((cellsFrom (s.heap.objs.size + 1) scope.names []).lookup y.1).isSome=true):=λ⟨n,v⟩ hy=>by
  rcases S.par n (List.of_mem_zip hy).1 with q | q
  ·exact .inl q
  ·exact .inr ⟨q,W.cellsFrom_some _ _ _ (.inl q)⟩
 refine codeAny_call_function G.depth (Y _ _ lk) rfl S.co S.gen rfl (W.codeRec_of Y D) (hb _ _ _ _ ?_)
 refine wpAny_newFunctionEnv_cells S.kind l λa0 he s1 x=>?_
 subst he
 refine ⟨L.keeps x.toInCall.keep,codeAny_func ?_⟩
 obtain ⟨t,ht,hq⟩:=j A a s H vs Q E (G.deeper _) B
 have I:Inv (uR CX P w K mg base N c scope f d A a s H E) [] (start N vs) H s1:=lB S G.hd z hl r x
 refine wpAny_mono (ht [] s1 (start N vs) H _ I hq) (λfl M m=>?_) λe M m=>m
 have fin:∀ {h:St} {i:Hp} {v:V} {u:Value},Inv (uR CX P w K mg base N c scope f d A a s H E) [] h i M->yU v u->Q v i->CE a P w H s Q u M:=
  λ{h i v u} J O q=>⟨v,i,J.os,J.bare,J.base,J.hok,O,q⟩
 cases fl with
 | ret u=>
  obtain ⟨v,h,i,J,O,q⟩:=m
  exact fin J O q
 | next=>
  obtain ⟨h,i,J,q⟩:=m
  exact fin (v:=V.non) (u:=Value.none) J rfl q
 | brk=>
  obtain ⟨_,_,_,q⟩:=m
  exact False.elim q
 | cont=>
  obtain ⟨_,_,_,q⟩:=m
  exact False.elim q
section
variable {X:Cx} {x:Str} {p pos:Pos} {e:Expr} {es:List Expr} {t:TA} {id T:String} {r:List V->Hp->VK->Prop}
noncomputable def tCB (r:List V->Hp->VK->Prop) (t:TA):TE:=λa H Q=>t a H λb c=>r b c Q
theorem zA7 (f:vU X (.builtin id) r) (g:Gl X x) (i:X.mg x=none) (j:bootBuiltins x=some (.builtin id)) (k:PA X (e :: es) t) (l:x ≠ "__name__":=by decide) (a:(x == ("__debug__" : Str))=false:=by decide)
  (m:starEach (e :: es) X.env=(false,eval e X.env) :: starEach es X.env:=by rfl) (b:(backTo pos (starEach es X.env)).any (·.1)=false:=by rfl):PE X (.Call (.Name x p) (e :: es) [] pos) (tCB r t):=by
 intro c s d H Q I h
 refine wpAny_Call_Name_kw (rE I g i j ?_ l a)
 exact PyProof.Rows.callWith_builtin1 (thn (k pos c s d H _ I h) λn o ⟨q,u,v,w,y⟩=>f c o d u q n Q v w y) m b
theorem xE (f:vU X (.type T) r) (g:Gl X x) (i:X.mg x=none) (j:bootBuiltins x=some (.type T)) (k:PA X (e :: es) t) (l:x ≠ "__name__":=by decide) (a:(x == ("__debug__" : Str))=false:=by decide)
  (m:starEach (e :: es) X.env=(false,eval e X.env) :: starEach es X.env:=by rfl) (b:(backTo pos (starEach es X.env)).any (·.1)=false:=by rfl):PE X (.Call (.Name x p) (e :: es) [] pos) (tCB r t):=by
 intro c s d H Q I h
 refine wpAny_Call_Name_kw (rE I g i j ?_ l a)
 exact PyProof.Rows.callWith_type1 (thn (k pos c s d H _ I h) λn o ⟨q,u,v,w,y⟩=>f c o d u q n Q v w y) m b
end
end L2
namespace HT
open PySem PyProof.Rows
section
open PySem.SeqAt
open PySem.AutoSeq1 (wpAny_loadPart')
open PySem.MeetsSeq PySem.MeetsSeq2 PySem.MeetsSeq3
end
section
variable {prog:Program} {w:World} {A:Around} {E:Value->Shared->Prop} {s:Shared}
theorem cat_tup {t b:Addr} {vs a:List Value} {Q:Value->Shared->Prop} (q:IsTup s.heap t vs.toArray) (r:IsTup s.heap b a.toArray) (k:vs ≠ [])
  (u:a=[]->Q (.ref t) s) (v:a ≠ []->Q (.ref s.heap.objs.size) { s with heap:=s.heap.push { cls:=.type "tuple",data:=.seq (vs ++ a).toArray } })
  (hsz:vs.length + a.length <= sizeLine):wpAny (model prog w) A (binaryOp .Add (.ref t) (.ref b)) Q E s:=by
 obtain ⟨⟨cls,l,data,m⟩,i,o,n,hd⟩:=id q
 obtain ⟨⟨p,d,data2,f⟩,c,g,n2,h⟩:=id r
 simp only at o hd g h
 subst o hd g h
 have e:vs.toArray ++ a.toArray=(vs ++ a).toArray:=by simp
 by_cases j:a=[]
 ·exact concat_meets ⟨_,i,rfl⟩ ⟨_,c,rfl⟩ noFill_tuple_add seq_tuple_add F.slot_tuple_add F.entry_tuple_add (F.args_tuple_add_2 _ _)
   (tuple_addW1 t b vs.toArray a.toArray n n2 l d m f (by simpa using k) (by simp [j])) ⟨i,c,u j⟩
 ·refine concat_meets ⟨_,i,rfl⟩ ⟨_,c,rfl⟩ noFill_tuple_add seq_tuple_add F.slot_tuple_add F.entry_tuple_add (F.args_tuple_add_2 _ _)
   (tuple_addW2 t b vs.toArray a.toArray n n2 l d m f (by simpa using k) (by simpa using j) (by rw [zMR,zMR];exact hsz)) ⟨i,c,?_⟩
  rw [e]
  exact v j
noncomputable def sIx (n d:Nat):Option Int->Nat
 | none=>d
 | some v=>if v < 0 then (v + (n:Int)).toNat else min v.toNat n
theorem sIx_none (n d:Nat):sIx n d none=d:=rfl
theorem sIx_nat (n d k:Nat):sIx n d (some (k:Int))=min k n:=by
 show (if (k:Int) < 0 then ((k:Int) + (n:Int)).toNat else min (k:Int).toNat n)=min k n
 rw [if_neg (by omega),Int.toNat_natCast]
theorem sIx_le (n d:Nat) (hd:d <= n) (o:Option Int):sIx n d o <= n:=by
 cases o with
 | none=>exact hd
 | some v=>
  show (if v < 0 then (v + (n:Int)).toNat else min v.toNat n) <= n
  by_cases a:v < 0
  ·rw [if_pos a];omega
  ·rw [if_neg a];exact Nat.min_le_right _ _
theorem clip_eq (v:Int) (n d:Nat):(if v < 0 then max (v + (n:Int)) 0 else min v (n:Int))=((sIx n d (some v):Nat):Int):=by
 show (if v < 0 then max (v + (n:Int)) 0 else min v (n:Int))=(((if v < 0 then (v + (n:Int)).toNat else min v.toNat n):Nat):Int)
 by_cases a:v < 0
 ·simp only [if_pos a];omega
 ·simp only [if_neg a];omega
theorem adjust_gen (lo a:Option Int) (n:Nat):Builtin.Slice.sliceAdjust lo a 1 (n:Int)=(((sIx n 0 lo:Nat):Int),((sIx n n a:Nat):Int)):=by
 have b:¬ ((1:Int) < 0):=by omega
 unfold Builtin.Slice.sliceAdjust
 simp only [b,if_false]
 refine Prod.ext ?_ ?_
 ·cases lo with
  | none=>rfl
  | some v=>exact clip_eq v n 0
 ·cases a with
  | none=>rfl
  | some v=>exact clip_eq v n n
theorem places_gen (i j:Nat):Builtin.Slice.slicePlaces (i:Int) (j:Int) 1=j - i:=by
 unfold Builtin.Slice.slicePlaces
 have a:(1:Int) > 0:=by omega
 simp only [a,if_true,Int.ediv_one]
 split <;> omega
theorem slicePart_ {v:Value} {o:Option Int} {Q:Option Int->Shared->Prop} (p:IsPart v o) (h:Q o s):wpAny (model prog w) A (Builtin.Slice.slicePartIndex v) Q E s:=by
 cases p with
 | none=>exact slicePart_none h
 | int i t=>exact slicePart_int h
theorem sliceApplied_gen {f:Addr} {d e:Value} {lo a:Option Int} {n:Nat} {Q:Int × Int × Nat->Shared->Prop} (g:s.heap.IsSliceOf f d e .none) (pl:IsPart d lo) (i:IsPart e a)
  (h:Q (((sIx n 0 lo:Nat):Int),1,sIx n n a - sIx n 0 lo) s):wpAny (model prog w) A (Builtin.Slice.sliceApplied (.ref f) (pure (n:Int))) Q E s:=by
 obtain ⟨os,b,j,c⟩:=id g
 unfold Builtin.Slice.sliceApplied Builtin.Slice.sliceFields
 refine wpAny_bind (wpAny_bind (wpAny_field b c (x:=d) rfl (wpAny_bind (wpAny_field b c (x:=e) rfl (wpAny_bind (wpAny_field b c (x:=.none) rfl (wpAny_pure ?_)))))))
 refine wpAny_bind (slicePart_none ?_)
 show wpAny _ _ (if ((1:Int) == 0)=true then _ else _) _ _ s
 rw [if_neg (by decide)]
 refine wpAny_bind (slicePart_ pl (wpAny_bind (slicePart_ i (wpAny_bind (wpAny_pure ?_)))))
 show wpAny _ _ (match Builtin.Slice.sliceAdjust lo a 1 (n:Int) with | (lo,a)=>pure (lo,(1:Int),Builtin.Slice.slicePlaces lo a 1)) _ _ s
 rw [adjust_gen lo a n]
 show wpAny _ _ (pure (((sIx n 0 lo:Nat):Int),(1:Int),Builtin.Slice.slicePlaces ((sIx n 0 lo:Nat):Int) ((sIx n n a:Nat):Int) 1)) _ _ s
 rw [places_gen]
 exact wpAny_pure h
theorem pick_gen (xs:Array Value) (i k:Nat):((List.range k).filterMap λ(m:Nat)=>xs[((i:Int) + (m:Int) * 1).toNat]?).toArray=((xs.toList.drop i).take k).toArray:=by
 have e:(λ(m:Nat)=>xs[((i:Int) + (m:Int) * 1).toNat]?)=λm=>xs[i + m]?:=by
  funext m
  have:((i:Int) + (m:Int) * 1).toNat=i + m:=by omega
  rw [this]
 rw [e]
 have:=pick_run xs i k
 rw [List.filterMap_map] at this
 have a:((λx=>xs[x]?) ∘ λx=>i + x)=λm=>xs[i + m]?:=rfl
 rw [a] at this
 rw [this]
theorem getItem_tuple_cut {t d:Addr} {items:Array Value} {j k:Value} {lo b:Option Int} {Q:Value->Shared->Prop} (c:IsTup s.heap t items) (l:s.heap.IsSliceOf d j k .none) (pl:IsPart j lo) (n:IsPart k b)
  (o:¬ (sIx items.size 0 lo=0/\sIx items.size items.size b=items.size))
  (h:Q (.ref s.heap.objs.size) { s with heap:=s.heap.push { cls:=.type "tuple",data:=.seq ((items.toList.drop (sIx items.size 0 lo)).take (sIx items.size items.size b - sIx items.size 0 lo)).toArray } })
  (hsz:items.size <= sizeLine):wpAny (model prog w) A (getItem (.ref t) (.ref d)) Q E s:=by
 have a:sizeOk (.seq ((items.toList.drop (sIx items.size 0 lo)).take (sIx items.size items.size b - sIx items.size 0 lo)).toArray):=by
  show ((items.toList.drop (sIx items.size 0 lo)).take (sIx items.size items.size b - sIx items.size 0 lo)).toArray.size <= sizeLine
  rw [zMR,zM2,List.length_drop,Array.length_toList]
  omega
 have r:sIx items.size items.size b <= items.size:=sIx_le _ _ (zMS _) b
 obtain ⟨os,e,f,p⟩:=id l
 have g:s.TypeIs (.ref d) "slice":=⟨os,e,f⟩
 unfold getItem
 try with_reducible refine wpAny_holding ?_
 first | refine wpAny_bind (wpAny_pure ?_) | skip
 refine wpAny_bind (wpAny_sequenceKey c.typeIs (by decide) ?_)
 refine wpAny_bind (wpAny_callSpecial?_slot (name:=Str.ofString "__getitem__") c.typeIs PyProof.Rows.slot_tuple_getitem
  (wpAny_call_entry PyProof.Rows.slot_tuple_getitem c.typeIs entry_tuple_getitem ?_ (args_tuple_getitem _ _)))
 show wpAny _ _ (Builtin.Tuple.tupleItemsOf (.ref t) >>= _) _ _ s
 refine wpAny_bind (tupleItemsOf_ c ?_)
 refine wpAny_bind (wpAny_typeOf g ?_)
 rw [if_pos (by decide)]
 refine wpAny_bind (sliceApplied_gen l pl n ?_)
 have i:¬ ((((sIx items.size 0 lo:Nat):Int) == 0 && (1:Int) == 1 && (sIx items.size items.size b - sIx items.size 0 lo) == items.size)=true):=by
  intro q
  rw [Bool.and_eq_true,Bool.and_eq_true] at q
  have u:((sIx items.size 0 lo:Nat):Int)=0:=eq_of_beq q.1.1
  have v:sIx items.size items.size b - sIx items.size 0 lo=items.size:=eq_of_beq q.2
  exact o ⟨by omega,by omega⟩
 show wpAny _ _ (if (((sIx items.size 0 lo:Nat):Int) == 0 && (1:Int) == 1 && (sIx items.size items.size b - sIx items.size 0 lo) == items.size)=true then _ else _) _ _ s
 rw [if_neg i,pick_gen]
 first
  | exact wpAny_bind (m:=Builtin.Tuple.tupleExact _) (wpAny_newObj_type (wpAny_pure ⟨_,rfl,wpAny_pure h⟩) a)
  | exact wpAny_bind (m:=Builtin.Tuple.tupleExact _) (wpAny_newObj_type (wpAny_bind (wpAny_pure (wpAny_pure ⟨_,rfl,wpAny_pure h⟩))) a)
  | exact wpAny_bind (wpAny_bind (m:=Builtin.Tuple.tupleExact _) (wpAny_newObj_type (wpAny_pure (wpAny_pure ⟨_,rfl,wpAny_pure h⟩)) a))
  | exact wpAny_bind (wpAny_bind (m:=Builtin.Tuple.tupleExact _) (wpAny_newObj_type (wpAny_pure ⟨_,rfl,wpAny_pure h⟩) a))
end
end HT
namespace L2
open PySem PySem.Spec PyProof.Rows
noncomputable abbrev TO:=St->Hp->(Option Int->Hp->Prop)->Prop
noncomputable def PO (X:Cx) (e:Option Expr) (t:TO):Prop:=
 ∀ (b:LAO) (s:Shared) (a:St) (H:Hp) (Q:Option Int->Hp->Prop),Inv X b a H s->t a H Q ->
  wpAny (model X.prog X.w) X.A (evalPart e X.env) (λu d=>∃ o c,Inv X b a c d/\IsPart u o/\Q o c) X.xe s
noncomputable def f7:TO:=λ_ H Q=>Q none H
noncomputable def zFJ (t:TE):TO:=λa H Q=>t a H λx b=>∃ i,x=.int i/\Q (some i) b
section
variable {X:Cx} {e:Expr} {te:TE} {lo hi:Option Expr} {tl th:TO} {pos p2:Pos}
theorem vG:PO X none f7:=by
 intro a s b H Q I h
 rw [evalPart_none]
 exact wpAny_pure ⟨none,H,I,.none,h⟩
theorem wA (h:PE X e te):PO X (some e) (zFJ te):=by
 intro b s c H Q I d
 rw [evalPart_some]
 refine thn (h b s c H _ I d) λu l a=>?_
 obtain ⟨x,f,g,j,k⟩:=a
 obtain ⟨i,rfl,q⟩:=k
 obtain ⟨t,rfl⟩:=j
 exact ⟨some i,f,g,.int i t,q⟩
noncomputable def SlR (X:Cx) (r:V->Option Int->Option Int->Hp->VK->Prop):Prop:=
 ∀ (a:LAO) (s:Shared) (b:St) (H:Hp) (x:V) (v c d:Value) (lo hi:Option Int) (f:Addr) (Q:VK),Inv X a b H s->yU x v->s.heap.IsSliceOf f c d .none->IsPart c lo->IsPart d hi->r x lo hi H Q ->
  ∃ T id,typeLookup (.type T) "__getitem__"=pure (some (.builtin id))/\s.TypeIs v T/\wpAny (model X.prog X.w) X.A (getItem v (.ref f)) (EP X a b Q) X.xe s
noncomputable def tSl (r:V->Option Int->Option Int->Hp->VK->Prop) (te:TE) (tl th:TO):TE:=λa H Q=>te a H λx b=>tl a b λl c=>th a c λu d=>r x l u d Q
theorem wB {r:V->Option Int->Option Int->Hp->VK->Prop} (n:SlR X r) (o:PE X e te) (p:PO X lo tl) (t:PO X hi th):PE X (.Subscript e (.Slice lo hi none p2) pos) (tSl r te tl th):=by
 intro c s d H Q I h
 refine Subscript_ (thn (o c s d H _ I h) λv y f=>?_)
 obtain ⟨x,z,B,C,D⟩:=f
 refine wpAny_Slice (thn (p c y d z _ B D) λj E g=>?_)
 obtain ⟨l,G,J,L,M⟩:=g
 refine thn (t c E d G _ J M) λk a i=>?_
 obtain ⟨u,m,N,O,U⟩:=i
 rw [evalPart_none]
 refine wpAny_pure ?_
 have Y:Inv X c d m { a with heap:=a.heap.push { cls:=.type "slice",data:=.fields #[j,k,.none] } }:=N.kept (t':=a.toks) λb ob q=>Heap.get?_push_of_some _ q
 obtain ⟨T,id,hT,ht,hg⟩:=n c { a with heap:=a.heap.push { cls:=.type "slice",data:=.fields #[j,k,.none] } } d m x v j k l u a.heap.objs.size Q Y C (Heap.IsSliceOf.new ..) L O U
 show wpAny (model X.prog X.w) X.A (subscriptTail e (.Slice lo hi none p2) v (.ref a.heap.objs.size)) (EP X c d Q) X.xe { a with heap:=a.heap.push { cls:=.type "slice",data:=.fields #[j,k,.none] } }
 exact tail_any (ops:=[.ref a.heap.objs.size,v]) ht hT hg (by with_unfolding_all rfl)
noncomputable def uS (xs:List V) (lo hi:Option Int):List V:=(xs.drop (HT.sIx xs.length 0 lo)).take (HT.sIx xs.length xs.length hi - HT.sIx xs.length 0 lo)
theorem pG (xs:List V) (lo hi:Option Int):(uS xs lo hi).length <= xs.length:=by
 unfold uS
 rw [zM2,List.length_drop]
 omega
noncomputable def rSlT (K:W.Frag):V->Option Int->Option Int->Hp->VK->Prop:=λx lo hi H Q=>∃ a b,x=.ref a/\SqT K H a b /\
 ¬ (HT.sIx b.length 0 lo=0/\HT.sIx b.length b.length hi=b.length)/\∀ p,H p=none->Q (.ref p) (upd H p (.tup (uS b lo hi)))
theorem zG7:SlR X (rSlT X.K):=by
 intro t s u H x v w y lo hi z Q I j k l m h
 obtain ⟨a,d,rfl,n,p,q⟩:=h
 cases j
 obtain ⟨f,r,g,i⟩:=I.tuple n
 have c:f.toArray.size=d.length:=by rw [zMR];exact r.length.symm
 refine ⟨"tuple",_,PyProof.Rows.slot_tuple_getitem.lookup,g.typeIs,?_⟩
 refine HT.getItem_tuple_cut g k l m (by rw [c];exact p) ?_ (by rw [c];exact i)
 rw [c]
 refine ⟨.ref s.heap.objs.size,_,I.laid (t':=s.toks) (o:=.tup (uS d lo hi)) (λb B q=>Heap.get?_push_of_some _ q) (zMS _) ?_,rfl,q _ (I.hok.fresh (zMS _))⟩
 exact ⟨zMU (pG d lo hi) i,_,(r.drop (HT.sIx d.length 0 lo)).take (HT.sIx d.length d.length hi - HT.sIx d.length 0 lo),IsTup.new _ _⟩
noncomputable def zAV (K:W.Frag):R2:=λx y H Q=>∃ a b d c,x=.ref a/\y=.ref b/\SqT K H a d/\SqT K H b c/\d ≠ []/\d.length + c.length <= sizeLine /\
 (c=[]->Q (.ref a) H)/\(c ≠ []->∀ p,H p=none->Q (.ref p) (upd H p (.tup (d ++ c))))
theorem yH.nil_iff {xs:List V} {us:List Value} (r:yH xs us):us=[] ↔ xs=[]:=by
 cases r with
 | nil=>simp
 | cons _ _=>simp
theorem dI:OpR X (binaryOp .Add) (zAV X.K):=by
 intro C s D H x y v u Q I i j h
 obtain ⟨a,b,k,l,rfl,rfl,m,n,p,f,r,t⟩:=h
 cases i
 cases j
 obtain ⟨A,d,B,_⟩:=I.tuple m
 obtain ⟨g,c,p2,_⟩:=I.tuple n
 refine HT.cat_tup B p2 (λz=>p (d.nil_iff.mp z)) (λz=>⟨.ref a,H,I,rfl,r (c.nil_iff.mp z)⟩) (λz=>?_) (by rw [<- d.length,<- c.length];exact f)
 refine ⟨.ref s.heap.objs.size,_,I.laid (t':=s.toks) (o:=.tup (k ++ l)) (λb G q=>Heap.get?_push_of_some _ q) (zMS _) ?_,rfl,t (λw=>z (c.nil_iff.mpr w)) _ (I.hok.fresh (zMS _))⟩
 exact ⟨by rw [zM1];exact f,_,d.append c,IsTup.new _ _⟩
end
noncomputable def ixN (n:Nat) (i:Int):Option Nat:=if 0 <= i then (if i < n then some i.toNat else none) else if -(n:Int) <= i then some (i + n).toNat else none
noncomputable def atI {a:Type} (xs:List a) (i:Int):Option a:=(ixN xs.length i).bind λj=>xs[j]?
theorem dS {n:Nat} {i:Int} {j:Nat} (h:ixN n i=some j):seqIndex? i n=some j/\j < n/\-(n:Int) <= i/\i < n:=by
 unfold ixN at h
 by_cases b:0 <= i
 ·rw [if_pos b] at h
  by_cases a:i < n
  ·rw [if_pos a] at h
   have e:i.toNat=j:=zMQ h
   exact ⟨by rw [seqIndex_of b a,e],by omega,by omega,a⟩
  ·rw [if_neg a] at h;cases h
 ·rw [if_neg b] at h
  by_cases a:-(n:Int) <= i
  ·rw [if_pos a] at h
   have e:(i + n).toNat=j:=zMQ h
   exact ⟨by rw [seqIndex_neg (by omega) a,e],by omega,a,by omega⟩
  ·rw [if_neg a] at h;cases h
theorem jJ {a:Type} {xs:List a} {i:Int} {v:a} (h:atI xs i=some v):∃ j,seqIndex? i xs.length=some j/\xs[j]?=some v/\j < xs.length/\-(xs.length:Int) <= i/\i < xs.length:=by
 unfold atI at h
 cases e:ixN xs.length i with
 | none=>rw [e] at h;cases h
 | some j=>
  rw [e] at h
  obtain ⟨b,c,d,f⟩:=dS e
  exact ⟨j,b,h,c,d,f⟩
theorem uJ {a:Type} {xs:List a} {j:Nat} {v:a} (h:xs[j]?=some v):atI xs (j:Int)=some v:=by
 have b:j < xs.length:=(zML.mp h).1
 have e:ixN xs.length (j:Int)=some j:=by
  unfold ixN
  rw [if_pos (by omega),if_pos (by omega)];simp
 unfold atI;rw [e];exact h
noncomputable def zFD (b:Expr):Prop:=∀ o i,subscripted b false o i=operate [o,i] (getItem o i)
noncomputable def IxR (X:Cx) (r:R2):Prop:=
 ∀ (value slice:Expr) (a:LAO) (s:Shared) (b:St) (H:Hp) (x y:V) (v u:Value) (Q:VK),Inv X a b H s->yU x v->yU y u->r x y H Q ->
  subscripted slice false v u=operate [v,u] (getItem v u)->wpAny (model X.prog X.w) X.A (subscriptTail value slice v u) (EP X a b Q) X.xe s
noncomputable def MtR (X:Cx) (id:String) (r:V->List V->Hp->VK->Prop):Prop:=
 ∀ (a:LAO) (s:Shared) (b:St) (H:Hp) (x:V) (c:List V) (v:Value) (d:List Value) (Q:VK),Inv X a b H s->yU x v->yH c d->r x c H Q ->
  wpAny (model X.prog X.w) X.A (call (.builtin id) (v :: d)) (EP X a b Q) X.xe s
section
variable {X:Cx} {a b:Expr} {ta tb:TE} {pos:Pos}
theorem IxR.or {r c:R2} (h:IxR X r) (h':IxR X c):IxR X (λx y H Q=>r x y H Q \/ c x y H Q):=by
 intro value slice d s e H x y v u Q I f g q i
 rcases q with q | q
 ·exact h value slice d s e H x y v u Q I f g q i
 ·exact h' value slice d s e H x y v u Q I f g q i
theorem zS {r:R2} (c:IxR X r) (d:PE X a ta) (e:PE X b tb) (f:zFD b):PE X (.Subscript a b pos) (tOp r ta tb):=by
 intro g s i H Q I h
 exact Subscript_ (zIT d e I h λv u j x y k l m n q=>c a b g j i k x y v u Q l m n q (f _ _))
noncomputable def rIxL (K:W.Frag):R2:=λx y H Q=>∃ p c i v,x=.ref p/\y=.int i/\SqL K H p c/\atI c i=some v/\Q v H
noncomputable def rIxT (K:W.Frag):R2:=λx y H Q=>∃ p c i v,x=.ref p/\y=.int i/\SqT K H p c/\atI c i=some v/\Q v H
noncomputable def rIxS:R2:=λx y H Q=>∃ z i c,x=.str z/\y=.int i/\z.length <= sizeLine/\atI z.cps.toList i=some c/\Q (.str ⟨#[c]⟩) H
theorem dR:IxR X (rIxL X.K):=by
 intro value slice k s l H x y v u Q I A B h m
 obtain ⟨p,N,i,z,rfl,rfl,C,D,q⟩:=h
 cases A
 obtain ⟨t,rfl⟩:=B
 obtain ⟨d,r,e,O⟩:=I.list C
 obtain ⟨j,c,E,T,G,J⟩:=jJ D
 obtain ⟨w,n,f⟩:=r.get E
 have L:=r.length
 have U:=qS
 have fin:EP X k l Q w s:=⟨z,H,I,f,q⟩
 by_cases o:0 <= i
 ·have g:i.toNat=j:=by
   rw [seqIndex_of o J] at c
   exact zMQ c
  exact item_listR e.isList o (by omega) (by rw [g];simpa using n) fin m
 ·have g:(i + (d.toArray.size:Int)).toNat=j:=by
   rw [seqIndex_neg (by omega) G] at c
   rw [zMR,<- L]
   exact zMQ c
  exact subscriptTail_builtinR (x:=w) e.isList.typeIs slot_list_getitem.lookup
   (wpAny_getItem_list_neg (Q:=λr M=>r=w/\EP X k l Q r M) e.isList (by omega) (by rw [zMR] <;> omega) (by omega) (by rw [g];simpa using n) ⟨rfl,fin⟩) m
theorem zII:IxR X (rIxT X.K):=by
 intro value slice d s e H x y v u Q I g k h l
 obtain ⟨p,G,i,z,rfl,rfl,m,n,q⟩:=h
 cases g
 obtain ⟨t,rfl⟩:=k
 obtain ⟨o,r,f,J⟩:=I.tuple m
 obtain ⟨j,A,B,L,M,N⟩:=jJ n
 obtain ⟨w,C,c⟩:=r.get B
 have D:=r.length
 have O:=qS
 have fin:EP X d e Q w s:=⟨z,H,I,c,q⟩
 exact subscriptTail_builtinR (x:=w) f.typeIs slot_tuple_getitem.lookup
  (getItem_tuple (j:=j) (Q:=λr E=>r=w/\EP X d e Q r E) f (by omega) (by omega) (by rw [zMR,<- D];exact A) (by simpa using C) ⟨rfl,fin⟩) l
theorem fK:IxR X rIxS:=by
 intro value slice w s A H x y v u Q I e f h g
 obtain ⟨z,i,c,rfl,rfl,B,k,q⟩:=h
 obtain ⟨t,rfl⟩:=e
 obtain ⟨C,rfl⟩:=f
 obtain ⟨j,d,l,D,m,n⟩:=jJ k
 have o:z.cps.toList.length=z.length:=by simp [Str.length]
 rw [o] at d m n
 have E:=qS
 exact tail_any (typeIs_str s z t) slot_str_getitem.lookup (getItem_str (c:=c) (by
  have p:decide (i < -(2 ^ 63:Int))=false:=zMZ (by omega)
  have r:decide (i >= 2 ^ 63)=false:=zMZ (by omega)
  rw [p,r,Bool.or_false]) (by rw [d];simpa using l) ⟨.str ⟨#[c]⟩,H,I.tok _,⟨_,rfl⟩,q⟩) g
theorem fF (its:List Value) (n j:Nat) (u:Value):Obj.mapSeq (·.setIfInBounds j u) { cls:=.type "list",data:=.seq its.toArray n } = { cls:=.type "list",data:=.seq (its.set j u).toArray n }:=by
 simp [Obj.mapSeq]
theorem Inv.lst {qp:LAO} {σ:St} {H:Hp} {s:Shared} {p:Addr} {xs:List V} (I:Inv X qp σ H s) (h:H p=some (.lst xs)) :
  ∃ (its:List Value) (n:Nat),yH xs its/\s.heap.get? p=some { cls:=.type "list",data:=.seq its.toArray n }/\xs.length <= sizeLine:=by
 obtain ⟨z,its,n,r,e⟩:=I.hok p _ h
 exact ⟨its,n,r,e,z⟩
theorem Inv.lstUpd {qp:LAO} {σ:St} {H:Hp} {s:Shared} {p:Addr} {xs ys:List V} {its its':List Value} {n c:Nat} {f:Obj->Obj} (I:Inv X qp σ H s) (h:H p=some (.lst xs))
  (g:s.heap.get? p=some { cls:=.type "list",data:=.seq its.toArray n }) (d:f { cls:=.type "list",data:=.seq its.toArray n } = { cls:=.type "list",data:=.seq its'.toArray c }) (r:yH ys its') (hz:ys.length <= sizeLine) (t:Nat) :
  Inv X qp σ (upd H p (.lst ys)) { s with heap:=s.heap.update p f,toks:=t }:=by
 have e:(s.heap.update p f).get? p=some { cls:=.type "list",data:=.seq its'.toArray c }:=by
  rw [Heap.get?_update_self f g (by rw [d] <;> rfl),d]
 refine I.write (x:=p) (e:=p) (by rw [h];trivial) (.inl rfl) (λb u i q=>(Heap.get?_update_other _ _ (Ne.symm i)).trans q) ⟨_,e⟩ ?_
 exact ⟨hz,its',c,r,e⟩
noncomputable def zF3:V->V->V->Hp->(Hp->Prop)->Prop:=λo i v H Q=>∃ p c k j,o=.ref p/\i=.int k/\H p=some (.lst c)/\ixN c.length k=some j/\Q (upd H p (.lst (c.set j v)))
theorem jU:zMF X zF3:=by
 intro z s A H o i v L M u Q I B C D h
 obtain ⟨p,E,k,j,rfl,rfl,l,G,q⟩:=h
 cases B
 obtain ⟨t,rfl⟩:=C
 obtain ⟨c,n,r,e,J⟩:=I.lst l
 obtain ⟨d,N,m,w⟩:=dS G
 have f:=r.length
 have O:=qS
 have x:Inv X z A (upd H p (.lst (E.set j v))) { s with heap:=s.heap.update p (Obj.mapSeq (·.setIfInBounds j u)) }:=
  I.lstUpd l e (fF c n j u) (r.set D j) (by rw [zNK];exact J) s.toks
 by_cases y:0 <= k
 ·have g:k.toNat=j:=by
   rw [seqIndex_of y w] at d
   exact zMQ d
  exact W.ki_setAt e y (by omega) (by rw [zMR,<- f];exact w) (by rw [g];exact ⟨_,x,q⟩)
 ·have g:(k + (c.toArray.size:Int)).toNat=j:=by
   rw [seqIndex_neg (by omega) m] at d
   rw [zMR,<- f]
   exact zMQ d
  exact W.ki_setBack e (by omega) (by rw [zMR,<- f];exact m) (by omega) (by rw [g];exact ⟨_,x,q⟩)
theorem kE (lo c:Option Int) (n:Nat):(sliceBounds lo c none n).1=((HT.sIx n 0 lo:Nat):Int)/\(sliceBounds lo c none n).2.1=((HT.sIx n n c:Nat):Int)/\(sliceBounds lo c none n).2.2=1:=by
 refine ⟨?_,?_,rfl⟩
 ·cases lo with
  | none=>simp [sliceBounds,HT.sIx]
  | some i=>
   simp only [sliceBounds,HT.sIx,Option.getD_none,show (1:Int) > 0 by decide,if_true]
   by_cases h:i < 0
   ·simp only [h,if_true] <;> omega
   ·simp only [h,if_false] <;> omega
 ·cases c with
  | none=>simp [sliceBounds,HT.sIx]
  | some i=>
   simp only [sliceBounds,HT.sIx,Option.getD_none,show (1:Int) > 0 by decide,if_true]
   by_cases h:i < 0
   ·simp only [h,if_true] <;> omega
   ·simp only [h,if_false] <;> omega
theorem mI (its:List Value) (lo c:Option Int):slicePick its.toArray lo c none=((its.drop (HT.sIx its.length 0 lo)).take (HT.sIx its.length its.length c - HT.sIx its.length 0 lo)).toArray:=by
 obtain ⟨d,e,f⟩:=kE lo c its.toArray.size
 unfold slicePick
 rw [d,e,f]
 simp only [sliceRange_one,pick_run,zMR] <;> rfl
noncomputable def rSlL (K:W.Frag):V->Option Int->Option Int->Hp->VK->Prop:=λx lo d H Q=>∃ a c,x=.ref a/\SqL K H a c/\∀ p,H p=none->Q (.ref p) (upd H p (.lst (uS c lo d)))
theorem pM:SlR X (rSlL X.K):=by
 intro p s t H x v u w lo e y Q I g i j k h
 obtain ⟨a,c,rfl,l,q⟩:=h
 cases g
 obtain ⟨m,r,f,n⟩:=I.list l
 have d:=r.length
 refine ⟨"list",_,slot_list_getitem.lookup,f.isList.typeIs,?_⟩
 refine wpAny_getItem_list_slice f.isList i j k .none (by simp) ?_ (by rw [zMR] <;> omega)
 rw [mI,<- d]
 refine ⟨.ref s.heap.objs.size,_,I.laid (t':=s.toks) (o:=.lst (uS c lo e)) (λb A q=>Heap.get?_push_of_some _ q) (zMS _) ?_,rfl,q _ (I.hok.fresh (zMS _))⟩
 exact ⟨zMU (pG c lo e) n,_,0,(r.drop (HT.sIx c.length 0 lo)).take (HT.sIx c.length c.length e - HT.sIx c.length 0 lo),Heap.get?_push_size _ rfl⟩
noncomputable def xA:V->Bool
 | .non=>true
 | .bl _=>true
 | .int _=>true
 | .str _=>true
 | _=>false
noncomputable def eqV:V->V->Bool
 | .non,.non=>true
 | .bl a,.bl b=>a == b
 | .bl a,.int b=>(if a then 1 else 0) == b
 | .int a,.bl b=>a == (if b then 1 else 0)
 | .int a,.int b=>a == b
 | .str a,.str b=>a == b
 | _,_=>false
theorem jC {A:Around} {s:Shared} {y x:V} {u v:Value} (e:yU y u) (c:yU x v) (g:xA y=true) (f:xA x=true):SeqAt.EqAt A s u v (eqV y x):=by
 cases y with
 | non=>
  cases e
  cases x with
  | non=>cases c;exact SeqAt.EqAt.same _
  | bl b=>cases c;exact SeqAt.EqAt.none_bool b
  | int b=>obtain ⟨t,rfl⟩:=c;exact SeqAt.EqAt.none_int b t
  | str b=>obtain ⟨t,rfl⟩:=c;exact SeqAt.EqAt.none_str b t
  | _=>exact absurd (show false=true from f) zNB
 | bl a=>
  cases e
  cases x with
  | non=>cases c;exact SeqAt.EqAt.bool_none a
  | bl b=>cases c;exact SeqAt.EqAt.bool_bool a b
  | int b=>obtain ⟨t,rfl⟩:=c;exact SeqAt.EqAt.bool_int a b t
  | str b=>obtain ⟨t,rfl⟩:=c;exact SeqAt.EqAt.bool_str a b t
  | _=>exact absurd (show false=true from f) zNB
 | int a=>
  obtain ⟨d,rfl⟩:=e
  cases x with
  | non=>cases c;exact SeqAt.EqAt.int_none a d
  | bl b=>cases c;exact SeqAt.EqAt.int_bool a d b
  | int b=>obtain ⟨t,rfl⟩:=c;exact SeqAt.EqAt.int_int a d b t
  | str b=>obtain ⟨t,rfl⟩:=c;exact SeqAt.EqAt.int_str a d b t
  | _=>exact absurd (show false=true from f) zNB
 | str a=>
  obtain ⟨d,rfl⟩:=e
  cases x with
  | non=>cases c;exact SeqAt.EqAt.str_none a d
  | bl b=>cases c;exact SeqAt.EqAt.str_bool a d b
  | int b=>obtain ⟨t,rfl⟩:=c;exact SeqAt.EqAt.str_int a d b t
  | str b=>obtain ⟨t,rfl⟩:=c;exact SeqAt.EqAt.str_str a d b t
  | _=>exact absurd (show false=true from f) zNB
 | _=>exact absurd (show false=true from g) zNB
noncomputable def eqU (x:V) (u:Value):Bool:=match u with
 | .none=>eqV .non x
 | .bool b=>eqV (.bl b) x
 | .int i _=>eqV (.int i) x
 | .str z _=>eqV (.str z) x
 | _=>false
theorem zCA {x y:V} {u:Value} (r:yU y u) (f:xA y=true):eqU x u=eqV y x:=by
 cases y with
 | non=>cases r;rfl
 | bl b=>cases r;rfl
 | int i=>obtain ⟨t,rfl⟩:=r;rfl
 | str z=>obtain ⟨t,rfl⟩:=r;rfl
 | _=>exact absurd (show false=true from f) zNB
theorem qE {x:V}:∀ {xs:List V} {us:List Value},yH xs us->xs.all xA=true->us.any (eqU x)=xs.any λy=>eqV y x
 | _,_,.nil,_=>rfl
 | y :: xs,u :: us,.cons r t,f=>by
  rw [List.all_cons,Bool.and_eq_true] at f
  rw [List.any_cons,List.any_cons,zCA r f.1,qE t f.2]
theorem sE {A:Around} {s:Shared} {x:V} {v:Value} (d:yU x v) (e:xA x=true):∀ {xs:List V} {us:List Value},yH xs us->xs.all xA=true->∀ u ∈ us,SeqAt.EqAt A s u v (eqU x u)
 | _,_,.nil,_=>λu c=>by cases c
 | y :: xs,u :: us,.cons r t,f=>λg c=>by
  rw [List.all_cons,Bool.and_eq_true] at f
  rcases List.mem_cons.mp c with rfl | c
  ·rw [zCA r f.1];exact jC r d f.1 e
  ·exact sE d e t f.2 g c
noncomputable def inV (x:V) (xs:List V):Bool:=xs.any λy=>eqV y x
noncomputable def rIn (K:W.Frag) (neg:Bool):R2:=λx y H Q=>∃ p c,y=.ref p/\(SqL K H p c \/ SqT K H p c)/\xA x=true/\c.all xA=true/\Q (.bl (if neg then !inV x c else inV x c)) H
theorem sL:OpR X (compareOp .In) (rIn X.K false):=by
 intro m s n H x y v u Q I i k h
 obtain ⟨p,o,rfl,d,j,e,q⟩:=h
 cases k
 rcases d with d | d
 ·obtain ⟨c,r,f,l⟩:=I.list d
  refine SeqAt.in_listAt (eqU x) f.isList (λw g=>sE i j r e w (by simpa using g)) ⟨.bl _,H,I,rfl,?_⟩
  rw [show c.toArray.any (eqU x)=c.any (eqU x) by simp,qE r e]
  exact q
 ·obtain ⟨c,r,f,l⟩:=I.tuple d
  refine SeqAt.in_tupleAt (eqU x) f (λw g=>sE i j r e w (by simpa using g)) ⟨.bl _,H,I,rfl,?_⟩
  rw [show c.toArray.any (eqU x)=c.any (eqU x) by simp,qE r e]
  exact q
theorem tS:OpR X (compareOp .NotIn) (rIn X.K true):=by
 intro m s n H x y v u Q I i k h
 obtain ⟨p,o,rfl,d,j,e,q⟩:=h
 cases k
 rcases d with d | d
 ·obtain ⟨c,r,f,l⟩:=I.list d
  refine SeqAt.notIn_listAt (eqU x) f.isList (λw g=>sE i j r e w (by simpa using g)) ⟨.bl _,H,I,rfl,?_⟩
  rw [show c.toArray.any (eqU x)=c.any (eqU x) by simp,qE r e]
  exact q
 ·obtain ⟨c,r,f,l⟩:=I.tuple d
  refine SeqAt.notIn_tupleAt (eqU x) f (λw g=>sE i j r e w (by simpa using g)) ⟨.bl _,H,I,rfl,?_⟩
  rw [show c.toArray.any (eqU x)=c.any (eqU x) by simp,qE r e]
  exact q
theorem uI:vU X (.type "list") (λxs H Q=>∃ p ys,xs=[.ref p]/\(SqL X.K H p ys \/ SqT X.K H p ys)/\∀ l,H l=none->Q (.ref l) (upd H l (.lst ys))):=by
 intro A s B H xs D Q I r h
 obtain ⟨p,ys,rfl,i,q⟩:=h
 obtain ⟨u,rfl,C⟩:=sU r
 cases C
 have fin:∀ (c:List Value),yH ys c->ys.length <= sizeLine->∀ (d:Heap) (f:Nat),(∀ b z,s.heap.get? b=some z->d.get? b=some z) ->
   d.get? s.heap.objs.size=some { cls:=.type "list",dict:=none,data:=.seq c.toArray f,slots:=#[] }->EP X A B Q (.ref s.heap.objs.size) { s with heap:=d }:=λc g j d f k e=>
  ⟨.ref s.heap.objs.size,_,I.laid (t':=s.toks) k (zMS _) (show xJ X.prog X.w _ d _ (.lst ys) from ⟨j,c,f,g,e⟩),rfl,q _ (I.hok.fresh (zMS _))⟩
 rcases i with i | i
 ·obtain ⟨c,g,v,j⟩:=I.list i
  have m:=g.length
  obtain ⟨o,x,y,n,hd⟩:=v.isList
  exact call_list_seq p (.inl rfl) x y hd (λd f k e=>fin c g j d f k e) (by simp only [zMR] <;> omega)
 ·obtain ⟨c,g,v,j⟩:=I.tuple i
  have m:=g.length
  obtain ⟨o,x,y,n,hd⟩:=v
  exact call_list_seq p (.inr rfl) x y hd (λd f k e=>fin c g j d f k e) (by simp only [zMR] <;> omega)
noncomputable def tyV (K:W.Frag) (T:String) (x:V) (H:Hp):Prop:=match x with
 | .str _=>T="str"
 | .int _=>T="int"
 | .ref p=>(T="list"/\∃ d,SqL K H p d) \/ (T="tuple"/\∃ o,K.lookup p=some o/\o.cls=.type "tuple"/\o.dict=none) \/
   (T="dict"/\((∃ c,H p=some (.dK c)) \/ ∃ c,H p=some (.dT c))) \/ (T="set"/\∃ S n,H p=some (.set S n))
 | _=>False
theorem aE {qp:LAO} {σ:St} {H:Hp} {s:Shared} {T:String} {x:V} {v:Value} (I:Inv X qp σ H s) (r:yU x v) (ty:tyV X.K T x H) :
  s.TypeIs v T/\∀ a,v=.ref a->∃ j,s.heap.get? a=some j/\j.dict=none:=by
 cases x with
 | str z=>
  obtain ⟨t,rfl⟩:=r
  cases (show T="str" from ty)
  exact ⟨typeIs_str s z t,λ_ e=>nomatch e⟩
 | int i=>
  obtain ⟨t,rfl⟩:=r
  cases (show T="int" from ty)
  exact ⟨typeIs_int s i t,λ_ e=>nomatch e⟩
 | ref p=>
  cases r
  rcases ty with ⟨rfl,u,l⟩ | ⟨rfl,o,d,m,hd⟩ | ⟨rfl,d⟩ | ⟨rfl,S,n,d⟩
  ·obtain ⟨q,_,k,_⟩:=I.list l
   refine ⟨k.isList.typeIs,λa e=>?_⟩
   cases e
   obtain ⟨o,n,e,c,hd,_⟩:=k
   exact ⟨o,e,hd⟩
  ·refine ⟨⟨o,I.kIn p o d,m⟩,λa e=>?_⟩
   cases e
   exact ⟨o,I.kIn _ o d,hd⟩
  ·have z:∃ o,s.heap.get? p=some o/\o.ExactDict:=by
    rcases d with ⟨g,d⟩ | ⟨g,d⟩
    ·obtain ⟨_,_,_,_,o,_,_,e,f,_⟩:=I.hok p _ d
     exact ⟨o,e,f⟩
    ·obtain ⟨_,_,_,_,o,_,_,e,f,_⟩:=I.hok p _ d
     exact ⟨o,e,f⟩
   obtain ⟨o,e,f⟩:=z
   refine ⟨⟨o,e,f.1⟩,λa h=>?_⟩
   cases h
   exact ⟨o,e,f.2.1⟩
  ·obtain ⟨o,_,_,_,e,f,_⟩:=I.hok p _ d
   refine ⟨⟨o,e,f.1⟩,λa h=>?_⟩
   cases h
   exact ⟨o,e,f.2.1⟩
 | _=>exact False.elim ty
noncomputable def tBM0 (K:W.Frag) (T:String) (r:V->List V->Hp->VK->Prop) (d:TE):TE:=λe H Q=>d e H λx c=>tyV K T x c/\r x [] c Q
noncomputable def tBM (K:W.Frag) (T:String) (r:V->List V->Hp->VK->Prop) (e:TE) (t:TA):TE:=λc H Q=>e c H λx d=>tyV K T x d/\t c d λf g=>r x f g Q
variable {o e:Expr} {es:List Expr} {to:TE} {t:TA} {name:Str} {apos cpos:Pos} {T id:String} {r:V->List V->Hp->VK->Prop}
theorem gY (m:PlainAttrs T) (slot:Slot T name id) (g:typeOf (.builtin id)=pure (.type "method_descriptor")) (n:MtR X id r) (p:PE X o to)
  (c:attributeBase o name X.env (eval o X.env)=eval o X.env:=by rfl) (d:(apos.endLine == cpos.line)=true:=by rfl):PE X (.Call (.Attribute o name apos) [] [] cpos) (tBM0 X.K T r to):=by
 intro i s j H Q I h
 refine wpAny_Call_method0_late c d (thn (p i s j H _ I h) λv q f=>?_)
 obtain ⟨x,u,k,l,ty,w⟩:=f
 obtain ⟨y,z⟩:=aE k l ty
 exact ⟨T,id,m,slot,g,y,z,Calls.callWith_builtin rfl (PySem.evalArgs_none (n i q j u x [] v [] Q k l .nil w))⟩
theorem vN (q:PlainAttrs T) (slot:Slot T name id) (j:typeOf (.builtin id)=pure (.type "method_descriptor")) (u:MtR X id r) (w:PE X o to) (y:PA X (e :: es) t)
  (d:attributeBase o name X.env (eval o X.env)=eval o X.env:=by rfl)
  (g:((backTo cpos (starEach (e :: es) X.env)).all (λx=>!x.1) && (backToKw cpos (keywordEach [] X.env)).all (λx=>x.1.isSome)
   && decide ((e :: es).length + ([]:List Keyword).length + (if ([]:List Keyword).isEmpty then 0 else 1) < 30))=true:=by rfl)
  (f:(apos.endLine == cpos.line)=true:=by rfl) (z:starEach (e :: es) X.env=(false,eval e X.env) :: starEach es X.env:=by rfl) (c:(backTo cpos (starEach es X.env)).any (·.1)=false:=by rfl) :
  PE X (.Call (.Attribute o name apos) (e :: es) [] cpos) (tBM X.K T r to t):=by
 intro k s l H Q I h
 refine wpAny_Call_method_late d g f rfl (thn (w k s l H _ I h) λv A i=>?_)
 obtain ⟨x,B,m,n,ty,C⟩:=i
 obtain ⟨D,E⟩:=aE m n ty
 refine ⟨T,id,q,slot,j,D,E,?_⟩
 have p:=y cpos k A l B _ m C
 rw [z] at p ⊢
 refine Calls.callWith_builtin (by show (false || (backTo cpos (starEach es X.env)).any (·.1))=false;rw [c] <;> rfl) (Calls.evalArgs_plain ?_)
 exact thn p λG J ⟨L,M,N,O,U⟩=>u k J l M x L v G Q N n O U
end
noncomputable def MtM (X:Cx) (id:String) (r:V->List V->Hp->VK->Prop):Prop:=
 ∀ (a:LAO) (s:Shared) (b:St) (H:Hp) (x:V) (c:List V) (v:Value) (d:List Value) (Q:VK),Inv X a b H s->yU x v->yH c d->r x c H Q ->
  wpAny (model X.prog X.w) X.A (call (.builtin id) (v :: d)) (EP X a b Q) X.xe s
theorem yH.one {x:V} {us:List Value} (h:yH [x] us):∃ u,us=[u]/\yU x u:=by
 cases h with
 | cons r k=>cases k;exact ⟨_,rfl,r⟩
theorem yH.two {x y:V} {us:List Value} (h:yH [x,y] us):∃ u v,us=[u,v]/\yU x u/\yU y v:=by
 cases h with
 | cons r k=>cases k with
  | cons q m=>cases m;exact ⟨_,_,rfl,r,q⟩
theorem yH.zero:∀ {us:List Value},yH [] us->us=[]
 | _,.nil=>rfl
theorem yH.eraseIdx:∀ {xs:List V} {us:List Value} (i:Nat),yH xs us->yH (xs.eraseIdx i) (us.eraseIdx i)
 | _,_,_,.nil=>.nil
 | _,_,0,.cons _ t=>t
 | _,_,i + 1,.cons r t=>.cons r (yH.eraseIdx i t)
theorem yH.reverse {xs:List V} {us:List Value} (h:yH xs us):yH xs.reverse us.reverse:=by
 induction h with
 | nil=>exact .nil
 | cons r t a=>rw [List.reverse_cons,List.reverse_cons];exact yH.append a (.cons r .nil)
theorem yH.rep {xs:List V} {us:List Value} (h:yH xs us):∀ k:Nat,yH (List.replicate k xs).flatten (List.replicate k us).flatten
 | 0=>.nil
 | k + 1=>by
  rw [List.replicate_succ,List.replicate_succ,List.flatten_cons,List.flatten_cons]
  exact yH.append h (yH.rep h k)
theorem tH {a:Type}:∀ (l:List a) (i:Nat),(l.eraseIdx i).length <= l.length
 | [],_=>zMS _
 | _ :: _,0=>Nat.le_succ _
 | _ :: r,i + 1=>Nat.succ_le_succ (tH r i)
theorem lD (its:List Value):∀ (k:Nat) (acc:List Value),
  List.foldl (λa b=>a ++ b) acc.toArray (List.replicate k its.toArray)=(acc ++ (List.replicate k its).flatten).toArray
 | 0,acc=>by simp
 | k + 1,acc=>by
  have e:acc.toArray ++ its.toArray=(acc ++ its).toArray:=by simp
  have c:(acc ++ its) ++ (List.replicate k its).flatten=acc ++ (List.replicate (k + 1) its).flatten:=by
   rw [List.replicate_succ,List.flatten_cons,zNE]
  rw [<- c,<- lD its k (acc ++ its),<- e,List.replicate_succ,List.foldl_cons]
section
variable {X:Cx} {qp:LAO} {σ:St} {H:Hp} {s:Shared} {l b:Addr} {xs ys zs:List V}
theorem Inv.lset {its its':List Value} {n:Nat} {f:Array Value->Array Value} {t':Nat} (I:Inv X qp σ H s) (a:H l=some (.lst xs))
  (e:s.heap.get? l=some { cls:=.type "list",data:=.seq its.toArray n }) (c:f its.toArray=its'.toArray) (d:yH ys its') (hz:ys.length <= sizeLine) :
  Inv X qp σ (upd H l (.lst ys)) { s with heap:=s.heap.update l (Obj.mapSeq f),toks:=t' }:=by
 have q:=PySem.IsL.update e f
 rw [c] at q
 refine I.write (x:=l) (e:=l) (by rw [a];exact trivial) (.inl rfl) (λi u g h=>(Heap.get?_update_other s.heap (Obj.mapSeq f) (Ne.symm g)).trans h) ⟨_,q⟩ ?_
 exact ⟨hz,its',_,d,q⟩
theorem Inv.lnew {its:List Value} {t':Nat} (I:Inv X qp σ H s) (a:yH ys its) (hz:ys.length <= sizeLine) :
  Inv X qp σ (upd H s.heap.objs.size (.lst ys)) { s with heap:=s.heap.push { cls:=.type "list",data:=.seq its.toArray },toks:=t' }:=
 I.laid (λ_ _ q=>Heap.get?_push_of_some _ q) (zMS _) ⟨hz,its,0,a,Heap.get?_push_size _ rfl⟩
theorem Inv.fresh (I:Inv X qp σ H s):H s.heap.objs.size=none:=I.hok.fresh (zMS _)
theorem Inv.lstM (I:Inv X qp σ H s) (a:H l=some (.lst xs)):xs.length <= sizeLine/\∃ (its:List Value) (n:Nat),yH xs its/\xs.length=its.length/\s.heap.get? l=some { cls:=.type "list",data:=.seq its.toArray n }:=by
 obtain ⟨z,its,n,r,e⟩:=I.hok l _ a
 exact ⟨z,its,n,r,r.length,e⟩
theorem iH {n:Nat} (h:n <= sizeLine):Builtin.List.listTooLong n=false:=by
 unfold Builtin.List.listTooLong
 exact zMZ (by omega)
end
section
variable {X:Cx}
noncomputable def zDV:V->List V->Hp->VK->Prop:=λx b H Q=>∃ l a y,x=.ref l/\b=[y]/\H l=some (.lst a)/\a.length < sizeLine/\Q .non (upd H l (.lst (a ++ [y])))
theorem xF:MtM X "list.append" zDV:=by
 intro i s j H x k v m Q I d f h
 obtain ⟨l,o,y,rfl,rfl,b,p,q⟩:=h
 cases d
 obtain ⟨u,rfl,g⟩:=f.one
 obtain ⟨z,a,n,r,t,e⟩:=I.lstM b
 refine call_meets F.slot_list_append ⟨_,e,rfl⟩ F.entry_list_append (F.args_list_append_2 _ _) (PySem.list_append l a.toArray n u (by rw [zMR];omega)) ⟨e,?_⟩
 refine ⟨.non,_,I.lset (its':=a ++ [u]) b e (by simp) (r.append (.cons g .nil)) ?_,rfl,q⟩
 rw [zM1,List.length_singleton]
 omega
noncomputable def zDU:V->List V->Hp->VK->Prop:=λx d H Q=>∃ l b a c,x=.ref l/\d=[.ref b]/\H l=some (.lst a)/\H b=some (.lst c)/\a.length + c.length <= sizeLine/\Q .non (upd H l (.lst (a ++ c)))
theorem c6:MtM X "list.extend" zDU:=by
 intro y s A H x B v C Q I j k h
 obtain ⟨l,b,D,E,rfl,rfl,g,m,G,q⟩:=h
 cases j
 obtain ⟨u,rfl,o⟩:=k.one
 cases o
 obtain ⟨z,c,n,r,J,e⟩:=I.lstM g
 obtain ⟨L,a,n2,p,t,w⟩:=I.lstM m
 have f:c.toArray.size + a.toArray.size <= sizeLine:=by rw [zMR,zMR];omega
 have d:¬ (!c.toArray.isEmpty && Builtin.List.listTooLong (c.toArray.size + a.toArray.size))=true:=by
  rw [iH f,Bool.and_false]
  exact zNB
 refine call_meets F.slot_list_extend ⟨_,e,rfl⟩ F.entry_list_extend (F.args_list_extend_2 _ _)
  (AutoSeq1.list_extend_list_list_0 l c.toArray n b a.toArray n2 d (by rw [zMR];omega) (by omega)) ⟨e,w,?_⟩
 refine ⟨.non,_,I.lset (its':=c ++ a) g e (by simp) (r.append p) ?_,rfl,q⟩
 rw [zM1]
 omega
noncomputable def zHH:V->List V->Hp->VK->Prop:=λx b H Q=>∃ l a i k y,x=.ref l/\b=[.int i]/\H l=some (.lst a)/\-(2 ^ 63) <= i/\i < 2 ^ 63/\seqIndex? i a.length=some k/\a[k]?=some y/\Q y (upd H l (.lst (a.eraseIdx k)))
theorem iL:MtM X "list.pop" zHH:=by
 intro E s G H x J v L Q I f g h
 obtain ⟨l,j,i,k,y,rfl,rfl,c,m,o,p,A,q⟩:=h
 cases f
 obtain ⟨u,rfl,B⟩:=g.one
 obtain ⟨t,rfl⟩:=B
 obtain ⟨z,a,n,r,C,e⟩:=I.lstM c
 obtain ⟨w,D,b⟩:=r.get A
 refine call_meets F.slot_list_pop ⟨_,e,rfl⟩ F.entry_list_pop (F.args_list_pop_2 _ _)
  (MeetsSeq.list_pop_at l a.toArray n i t k w (fitsIndex_both m o) (by rw [zMR,<- C];exact p) (by rw [<- Array.getElem?_toList];exact D) (by rw [zMR];omega)) ⟨e,?_⟩
 refine ⟨y,_,I.lset (its':=a.eraseIdx k) c e ?_ (r.eraseIdx k) ?_,b,q⟩
 ·show a.toArray.eraseIdxIfInBounds k=(a.eraseIdx k).toArray
  rw [List.eraseIdxIfInBounds_toArray]
 ·have:=tH j k
  omega
noncomputable def zAU:V->List V->Hp->VK->Prop:=λx b H Q=>∃ l a,x=.ref l/\b=[]/\H l=some (.lst a)/\Q .non (upd H l (.lst a.reverse))
theorem fD:MtM X "list.reverse" zAU:=by
 intro i s j H x k v m Q I f g h
 obtain ⟨l,o,rfl,rfl,c,q⟩:=h
 cases f
 have b:=g.zero
 subst b
 obtain ⟨z,a,n,r,p,e⟩:=I.lstM c
 refine call_meets F.slot_list_reverse ⟨_,e,rfl⟩ F.entry_list_reverse (F.args_list_reverse_1 _) (AutoSeq1.list_reverse_list_0 l a.toArray n (by rw [zMR];omega)) ⟨e,?_⟩
 refine ⟨.non,_,I.lset (its':=a.reverse) c e (by simp) r.reverse ?_,rfl,q⟩
 rw [List.length_reverse]
 omega
noncomputable def zHI:V->List V->Hp->VK->Prop:=λx a H Q=>∃ l b,x=.ref l/\a=[]/\H l=some (.lst b)/\Q .non (upd H l (.lst []))
theorem iM:MtM X "list.clear" zHI:=by
 intro i s j H x k v m Q I f g h
 obtain ⟨l,o,rfl,rfl,c,q⟩:=h
 cases f
 have a:=g.zero
 subst a
 obtain ⟨z,b,n,r,p,e⟩:=I.lstM c
 refine call_meets F.slot_list_clear ⟨_,e,rfl⟩ F.entry_list_clear (F.args_list_clear_1 _) (AutoSeq1.list_clear_list_0 l b.toArray n (by rw [zMR];omega)) ⟨e,?_⟩
 exact ⟨.non,_,I.lset (its':=[]) (ys:=[]) c e rfl .nil (zMT _),rfl,q⟩
noncomputable def rCat:R2:=λx y H Q=>∃ l b a c,x=.ref l/\y=.ref b/\H l=some (.lst a)/\H b=some (.lst c)/\a.length + c.length <= sizeLine/\∀ p,H p=none->Q (.ref p) (upd H p (.lst (a ++ c)))
theorem u9:OpR X (binaryOp .Add) rCat:=by
 intro p s t H x y v u Q I d f h
 obtain ⟨l,b,w,A,rfl,rfl,g,i,B,q⟩:=h
 cases d
 cases f
 obtain ⟨z,c,n,r,C,e⟩:=I.lstM g
 obtain ⟨D,a,n2,j,k,m⟩:=I.lstM i
 refine PySem.P.add_list e m ?_ (by rw [zMR,zMR];omega)
 have o:c.toArray ++ a.toArray=(c ++ a).toArray:=by simp
 rw [o]
 exact ⟨.ref _,_,I.lnew (t':=s.toks) (r.append j) (by rw [zM1];omega),rfl,q _ I.fresh⟩
noncomputable def rRep:R2:=λx y H Q=>∃ l k a,x=.ref l/\y=.int k/\H l=some (.lst a)/\-(2 ^ 63) <= k/\k < 2 ^ 63/\a.length * k.toNat <= sizeLine /\
 ∀ p,H p=none->Q (.ref p) (upd H p (.lst (List.replicate k.toNat a).flatten))
theorem dN {a:Type} (xs:List a) (k:Nat):(List.replicate k xs).flatten.length=k * xs.length:=by
 induction k with
 | zero=>simp
 | succ k b=>rw [List.replicate_succ,List.flatten_cons,zM1,b,Nat.succ_mul,Nat.add_comm]
theorem zHP:OpR X (binaryOp .Mult) rRep:=by
 intro L s M H x y v u Q I w A h
 obtain ⟨l,k,N,rfl,rfl,B,C,D,p,q⟩:=h
 cases w
 obtain ⟨t,rfl⟩:=A
 obtain ⟨z,b,n,r,E,e⟩:=I.lstM B
 have d:b.toArray.size * k.toNat <= sizeLine:=by rw [zMR,<- E];exact p
 have f:¬ b.toArray.size * k.toNat > (2 ^ 63 - 1) / 8:=by
  have:(sizeLine:Nat) <= (2 ^ 63 - 1) / 8:=by decide
  omega
 have g:¬ (!Builtin.List.listFitsIndex k)=true:=by
  rw [fitsIndex_both C D]
  exact zNB
 have c:¬ Builtin.List.listTooLong (b.toArray.size * k.toNat)=true:=by
  rw [iH d]
  exact zNB
 have i:List.foldl (λj o=>j ++ o) #[] (List.replicate (if b.toArray.isEmpty=true then 0 else k.toNat) b.toArray)=(List.replicate k.toNat b).flatten.toArray:=by
  have G:∀ m:Nat,List.foldl (λj o=>j ++ o) #[] (List.replicate m b.toArray)=(List.replicate m b).flatten.toArray:=λm=>by
   have:=lD b m []
   rw [List.nil_append] at this
   exact this
  rw [G]
  cases b with
  | nil=>simp
  | cons a O=>rw [if_neg (by simp)]
 refine wpAny_binaryOp_repeat_ref (T:="list") (U:="int") (by decide) ⟨_,e,rfl⟩ (λJ=>typeIs_int J k t) noFill_list_mul F.fills_int_mul F.slot_int_rmul repeat_list F.slot_int_index.lookup
  (call_meets F.slot_int_rmul (typeIs_int s k t) F.entry_int_rmul (F.args_int_rmul_2 _ _) (int___rmul___int_list k t l b.toArray n)
   ⟨e,rfl,⟨_,e,rfl⟩,call_meets F.slot_list_mul ⟨_,e,rfl⟩ F.entry_list_mul (F.args_list_mul_2 _ _) (AutoListH.list___mul___list_int_3 l b.toArray n k t g f c) ⟨e,?_⟩⟩)
 rw [i]
 exact ⟨.ref _,_,I.lnew (t':=s.toks) (r.rep k.toNat) (by rw [dN,Nat.mul_comm];exact p),rfl,q _ I.fresh⟩
end
section
variable {prog:Program} {w:World} {A:Around} {E:VSP} {s:Shared}
end
section
variable {X:Cx}
end
section
variable {κ:Type} [DecidableEq κ]
noncomputable def tK (a:List (κ × V)) (k:κ):Option V:=(a.find? λb=>decide (b.1=k)).map (·.2)
noncomputable def vV (a:List (κ × V)) (k:κ) (v:V):List (κ × V):=
 if (a.any λb=>decide (b.1=k))=true then a.map (λb=>if b.1=k then (b.1,v) else b) else a ++ [(k,v)]
theorem rL {p:κ × V} {r:List (κ × V)} {k:κ} (e:p.1=k):tK (p :: r) k=some p.2:=by simp [tK,List.find?_cons,e]
theorem t9 {p:κ × V} {r:List (κ × V)} {k:κ} (e:¬ p.1=k):tK (p :: r) k=tK r k:=by simp [tK,List.find?_cons,e]
theorem oB (k:κ):∀ a:List (κ × V),(a.any λb=>decide (b.1=k))=(tK a k).isSome
 | []=>rfl
 | p :: r=>by
  rw [List.any_cons]
  by_cases e:p.1=k
  ·simp only [rL e,zMY e,Bool.true_or,Option.isSome_some]
  ·rw [t9 e,zMZ e,Bool.false_or];exact oB k r
theorem uZ (a:List (κ × V)) (k:κ) (v:V):(vV a k v).length <= a.length + 1:=by
 unfold vV
 split
 ·rw [zMJ];omega
 ·rw [zM1,zM4,List.length_nil];omega
theorem zAX {a:List (κ × V)} {k:κ} (v:V) (h:tK a k=none):vV a k v=a ++ [(k,v)]:=by
 unfold vV
 rw [oB,h]
 exact if_neg (by decide)
theorem sT.isSome_eq {o:Option V} {u:Option Value} (r:sT o u):o.isSome=u.isSome:=by
 cases o with
 | none=>cases u with
  | none=>rfl
  | some _=>exact (show False from r).elim
 | some _=>cases u with
  | none=>exact (show False from r).elim
  | some _=>rfl
theorem KV.val {a:List (κ × V)} {vs:List (κ × Value)} (r:KV a vs) (k:κ):sT (tK a k) (valueAt vs k):=by
 unfold KV at r
 induction r with
 | nil=>exact True.intro
 | @cons p q j c h t g=>
  obtain ⟨f,i⟩:=h
  by_cases e:p.1=k
  ·have d:q.1=k:=f.symm.trans e
   have b:valueAt (q :: c) k=some q.2:=by simp [valueAt,List.find?_cons,d]
   rw [rL e,b];exact i
  ·have d:¬ q.1=k:=λz=>e (f.trans z)
   have b:valueAt (q :: c) k=valueAt c k:=by simp [valueAt,List.find?_cons,d]
   rw [t9 e,b];exact g
theorem KV.any {a:List (κ × V)} {vs:List (κ × Value)} (r:KV a vs) (k:κ):(a.any λb=>decide (b.1=k))=vs.any λb=>decide (b.1=k):=by
 unfold KV at r
 induction r with
 | nil=>rfl
 | cons h t c=>rw [List.any_cons,List.any_cons,c,h.1]
theorem KV.repl {b:List (κ × V)} {vs:List (κ × Value)} (r:KV b vs) (k:κ) {y:V} {u:Value} (d:yU y u) :
  KV (b.map λa=>if a.1=k then (a.1,y) else a) (vs.map λa=>if a.1=k then (a.1,u) else a):=by
 unfold KV at r ⊢
 induction r with
 | nil=>exact .nil
 | @cons p q i j h t f=>
  rw [List.map_cons,List.map_cons]
  refine .cons ?_ f
  obtain ⟨c,g⟩:=h
  by_cases e:p.1=k
  ·rw [if_pos e,if_pos (c.symm.trans e)];exact ⟨c,d⟩
  ·rw [if_neg e,if_neg (λz=>e (c.trans z))];exact ⟨c,g⟩
theorem KV.put {a:List (κ × V)} {vs:List (κ × Value)} (r:KV a vs) (k:κ) {y:V} {u:Value} (b:yU y u):KV (vV a k y) (stored vs k u):=by
 unfold vV stored
 rw [r.any k]
 by_cases e:(vs.any λc=>decide (c.1=k))=true
 ·rw [if_pos e,if_pos e];exact r.repl k b
 ·rw [if_neg e,if_neg e];exact Paired.snoc r ⟨rfl,b⟩
theorem KV.length {a:List (κ × V)} {vs:List (κ × Value)} (r:KV a vs):a.length=vs.length:=Paired.length r
end
theorem nE {P:Program} {w:World} {k:Key} {u:Value} (r:yU (kV k) u):(wK P w).is k u=true:=by
 cases k with
 | inl i=>obtain ⟨t,e⟩:=(show ∃ t,u=Value.int i t from r);subst e;exact iP P w i t
 | inr x=>obtain ⟨t,e⟩:=(show ∃ t,u=Value.str x t from r);subst e;exact iO P w x t
theorem m9 {P:Program} {w:World}:∀ {ks:List Key} {us:List Value},yH (ks.map kV) us->ItemsAre (wK P w) ks us
 | [],_,r=>by rw [List.map_nil] at r;cases r;exact .nil
 | k :: ks,_,r=>by
  rw [List.map_cons] at r
  cases r with
  | cons h t=>exact .cons (nE h) (m9 t)
noncomputable abbrev KT (H:Hp):List (List Key × V)->List (List Key × Addr × Value)->Prop:=Paired λp q=>p.1=q.1/\H q.2.1=some (.tup (p.1.map kV))/\yU p.2 q.2.2
theorem KT.val {H:Hp} {a:List (List Key × V)} {xs:List (List Key × Addr × Value)} (r:KT H a xs) (k:List Key):sT (tK a k) ((atKey xs k).map (·.2)):=by
 induction r with
 | nil=>exact True.intro
 | @cons p q j c h t g=>
  obtain ⟨f,_,i⟩:=h
  by_cases e:p.1=k
  ·have d:q.1=k:=f.symm.trans e
   have b:atKey (q :: c) k=some q.2:=by simp [atKey,List.find?_cons,d]
   rw [rL e,b];exact i
  ·have d:¬ q.1=k:=λz=>e (f.trans z)
   have b:atKey (q :: c) k=atKey c k:=by simp [atKey,List.find?_cons,d]
   rw [t9 e,b];exact g
theorem KT.repl {H:Hp} {a:List (List Key × V)} {xs:List (List Key × Addr × Value)} (r:KT H a xs) (k:List Key) {y:V} {u:Value} (f:yU y u) :
  KT H (a.map λc=>if c.1=k then (c.1,y) else c) (xs.map (putAt k u)):=by
 induction r with
 | nil=>exact .nil
 | @cons p q j l h t g=>
  rw [List.map_cons,List.map_cons]
  refine .cons ?_ g
  obtain ⟨b,d,i⟩:=h
  unfold putAt
  by_cases e:p.1=k
  ·rw [if_pos e,if_pos (b.symm.trans e)];exact ⟨b,d,f⟩
  ·rw [if_neg e,if_neg (λz=>e (b.trans z))];exact ⟨b,d,i⟩
theorem KT.put {H:Hp} {a:List (List Key × V)} {xs:List (List Key × Addr × Value)} (r:KT H a xs) (k:List Key) {b:Addr} {y:V} {u:Value} (d:H b=some (.tup (k.map kV))) (c:yU y u) :
  KT H (vV a k y) (storedH xs k b u):=by
 have e:(a.any λf=>decide (f.1=k))=(atKey xs k).isSome:=by
  rw [oB,(r.val k).isSome_eq,Option.isSome_map]
 unfold vV storedH
 rw [e]
 by_cases q:(atKey xs k).isSome=true
 ·rw [if_pos q,if_pos q];exact r.repl k c
 ·rw [if_neg q,if_neg q];exact Paired.snoc r ⟨rfl,d,c⟩
theorem KT.keeps {H c:Hp} {a:List (List Key × V)} {xs:List (List Key × Addr × Value)} (r:KT H a xs) (d:∀ b ys,H b=some (.tup ys)->c b=some (.tup ys)):KT c a xs:=
 Paired.mapP r λ_ _ z=>⟨z.1,d _ _ z.2.1,z.2.2⟩
section
variable {P:Program} {w:World} {H:Hp} {h:Heap} {a:Addr}
theorem zF2 {u:HO} (ok:HOk P w H h) (e:Rd H a u):xJ P w H h a u:=e.ok ok
theorem i5 {b:List (Key × V)} (ok:HOk P w H h) (e:Rd H a (.dK b)):b.length <= sizeLine/\(a == sysModules)=false/\∃ vs,KV b vs/\h.DictOf (wK P w) a vs:=
 show xJ P w H h a (.dK b) from zF2 ok e
theorem zCF {b:List (Key × V)} (ok:HOk P w H h) (e:H a=some (.dK b)):b.length <= sizeLine/\(a == sysModules)=false/\∃ vs,KV b vs/\h.DictOf (wK P w) a vs:=i5 ok (.inl e)
theorem nD {ks:List Key} (ok:HOk P w H h) (e:H a=some (.tup (ks.map kV))):(tupleKind (wK P w)).is h ks a:=by
 obtain ⟨_,b,r,o,c,d,n,f⟩:=(show xJ P w H h a (.tup (ks.map kV)) from ok a _ e)
 exact ⟨o,b.toArray,n,c,d,f,by simpa using m9 r⟩
theorem i3 {b:List (List Key × V)} (ok:HOk P w H h) (e:Rd H a (.dT b)):b.length <= sizeLine/\(a == sysModules)=false /\
  ∃ xs,KT H b xs/\h.DictOfH (tupleKind (wK P w)) a xs:=by
 obtain ⟨z,y,xs,r,o,f,g,i,j,k,n,s⟩:=(show xJ P w H h a (.dT b) from zF2 ok e)
 refine ⟨z,y,xs,r,o,f,g,i,j,k,n,λx c=>?_,s⟩
 have all:∀ {l:List (List Key × V)} {m:List (List Key × Addr × Value)},KT H l m->∀ x ∈ m,(tupleKind (wK P w)).is h x.1 x.2.1:=by
  intro l m q
  induction q with
  | nil=>intro x c;exact nomatch c
  | @cons p q v A d t u=>
   intro x c
   rcases List.mem_cons.mp c with e | c
   ·subst e
    exact nD ok (by rw [<- d.1];exact d.2.1)
   ·exact u x c
 exact all r x c
theorem zL9 {b:List (List Key × V)} (ok:HOk P w H h) (e:H a=some (.dT b)):b.length <= sizeLine/\(a == sysModules)=false /\
  ∃ xs,KT H b xs/\h.DictOfH (tupleKind (wK P w)) a xs:=i3 ok (.inl e)
end
noncomputable def t5 (H:Hp) (a:Addr) (y:V) (r:Option V):Prop:=
 (∃ c k,Rd H a (.dK c)/\y=kV k/\r=tK c k) \/ ∃ c k b,Rd H a (.dT c)/\y=.ref b/\H b=some (.tup (k.map kV))/\r=tK c k
noncomputable def zCW (H:Hp) (a:Addr) (y v:V) (d:Hp):Prop:=
 (∃ c k,H a=some (.dK c)/\y=kV k/\c.length < sizeLine/\d=upd H a (.dK (vV c k v))) \/
 ∃ c k b,H a=some (.dT c)/\y=.ref b/\H b=some (.tup (k.map kV))/\c.length < sizeLine/\d=upd H a (.dT (vV c k v))
theorem t5.k {H:Hp} {a:Addr} {b:List (Key × V)} {k:Key} (e:H a=some (.dK b)):t5 H a (kV k) (tK b k):=.inl ⟨b,k,.inl e,rfl,rfl⟩
section
variable {X:Cx} {qp:LAO} {σ:St} {H:Hp} {s:Shared} {a:Addr} {y v:V} {u r:Value} {o:Option V} {A:Around} {E:VSP}
theorem Inv.big (I:Inv X qp σ H s):sysModules < s.heap.objs.size:=by
 have h:mainGlobals < s.heap.objs.size:=(I.mod.glob.keeps I.bk).lt
 exact Nat.lt_trans (by decide) h
theorem bU {Q:VSP} (t:A.units + 1 < cLine) (I:Inv X qp σ H s) (g:t5 H a y (some v)) (q:yU y u) (h:∀ d s',Inv X qp σ H s'->yU v d->Q d s') :
  wpAny (model X.prog X.w) A (getItem (.ref a) u) Q E s:=by
 rcases g with ⟨f,k,e,i,l⟩ | ⟨f,k,b,e,i,x,l⟩
 ·subst i
  obtain ⟨z,hd,B,rel,j⟩:=i5 I.hok e
  obtain ⟨d,m,c⟩:=sT.some_of (v:=v) (o:=valueAt B k) (by rw [l];exact rel.val k)
  exact wpAny_getItem_of (nE q) j.mapOf m (h d _ (I.tok _) c)
 ·subst i
  cases (show u=Value.ref b from q)
  obtain ⟨z,hd,C,rel,j⟩:=i3 I.hok e
  obtain ⟨d,m,c⟩:=sT.some_of (v:=v) (o:=(atKey C k).map (·.2)) (by rw [l];exact rel.val k)
  obtain ⟨p,D,n⟩:=Option.map_eq_some_iff.mp m
  refine wpAny_getItem_heap (tupleKind_room_in1 t) (nD I.hok x) j D ?_
  rw [n]
  exact h d _ (I.tok _) c
theorem d_in {Q:VSP} (j:A.units + 1 < cLine) (I:Inv X qp σ H s) (g:t5 H a y o) (i:yU y u) (h:∀ s',Inv X qp σ H s'->Q (.bool o.isSome) s') :
  wpAny (model X.prog X.w) A (compareOp .In u (.ref a)) Q E s:=by
 rcases g with ⟨c,k,e,d,l⟩ | ⟨c,k,b,e,d,m,l⟩
 ·subst d
  obtain ⟨z,hd,n,rel,f⟩:=i5 I.hok e
  refine wpAny_in_of (nE i) hd f.mapOf ?_
  rw [<- (rel.val k).isSome_eq,<- l]
  exact h _ (I.tok _)
 ·subst d
  cases (show u=Value.ref b from i)
  obtain ⟨z,hd,p,rel,f⟩:=i3 I.hok e
  refine wpAny_in_heap (tupleKind_room_in1 j) (nD I.hok m) hd f ?_
  have q:=(rel.val k).isSome_eq
  rw [Option.isSome_map] at q
  rw [<- q,<- l]
  exact h _ (I.tok _)
theorem zE2 {Q:VSP} (j:A.units + 1 < cLine) (I:Inv X qp σ H s) (g:t5 H a y o) (i:yU y u) (h:∀ s',Inv X qp σ H s'->Q (.bool (!o.isSome)) s') :
  wpAny (model X.prog X.w) A (compareOp .NotIn u (.ref a)) Q E s:=by
 rcases g with ⟨c,k,e,d,l⟩ | ⟨c,k,b,e,d,m,l⟩
 ·subst d
  obtain ⟨z,hd,n,rel,f⟩:=i5 I.hok e
  refine wpAny_notIn_of (nE i) hd f.mapOf ?_
  rw [<- (rel.val k).isSome_eq,<- l]
  exact h _ (I.tok _)
 ·subst d
  cases (show u=Value.ref b from i)
  obtain ⟨z,hd,p,rel,f⟩:=i3 I.hok e
  refine wpAny_notIn_heap (tupleKind_room_in1 j) (nD I.hok m) hd f ?_
  have q:=(rel.val k).isSome_eq
  rw [Option.isSome_map] at q
  rw [<- q,<- l]
  exact h _ (I.tok _)
theorem p9 {h':Heap} {t':Nat} {c:HO} (I:Inv X qp σ H s) (d:Mut (H a)) (f:Heap.SameBut a s.heap h') (g:∃ q,h'.get? a=some q) (new:xJ X.prog X.w (upd H a c) h' a c) :
  Inv X qp σ (upd H a c) { s with heap:=h',toks:=t' }:=
 I.write (x:=a) (e:=a) d (.inl rfl) (λb q h z=>(f.2 b h).trans z) g new
theorem fT {P:Program} {w:World} {c:Hp} {h':Heap} {b:List (Key × V)} {vs:List (Key × Value)} (z:b.length <= sizeLine) (hd:(a == sysModules)=false) (rel:KV b vs) (dd:h'.DictOf (wK P w) a vs) :
  xJ P w c h' a (.dK b):=⟨z,hd,vs,rel,dd⟩
theorem bR {C:Hp} {Q:Unit->Shared->Prop} (N:A.units + 1 < cLine) (I:Inv X qp σ H s) (g:zCW H a y v C) (D:yU y u) (G:yU v r) (h:∀ s',Inv X qp σ C s'->Q () s') :
  wpAny (model X.prog X.w) A (setItem (.ref a) u r) Q E s:=by
 rcases g with ⟨d,k,e,j,l,m⟩ | ⟨d,k,b,e,j,J,l,m⟩
 ·subst j m
  obtain ⟨z,hd,O,rel,n⟩:=zCF I.hok e
  have p:O.length <= sizeLine:=by rw [<- rel.length];exact z
  have t:(vV d k v).length <= sizeLine:=by have:=uZ d k v;omega
  refine wpAny_setItem_pairs (hsz:=p) (nE D) n λL f B=>h _ ?_
  have T:∃ q,L.get? a=some q:=let ⟨q,_,_,i,_⟩:=f;⟨q,i⟩
  exact p9 I (by rw [e];exact True.intro) B T (fT t hd (rel.put k G) f)
 ·subst j m
  cases (show u=Value.ref b from D)
  obtain ⟨z,hd,U,rel,n⟩:=zL9 I.hok e
  have p:U.length <= sizeLine:=by rw [<- Paired.length rel];exact z
  have t:(vV d k v).length <= sizeLine:=by have:=uZ d k v;omega
  refine wpAny_setItem_heap (hsz:=p) (tupleKind_room_in1 N) (nD I.hok J) n λL f B=>h _ ?_
  obtain ⟨q,Y,ep,i,h2,h3,h4,_,h5⟩:=f
  refine p9 I (by rw [e];exact True.intro) B ⟨q,i⟩ ⟨t,hd,_,(rel.put k J G).keeps λc ys M=>?_,q,Y,ep,i,h2,h3,h4,h5⟩
  rw [zK (wY M e (λz=>nomatch z))]
  exact M
end
section
variable {X:Cx} {qp:LAO} {σ:St} {H:Hp} {s:Shared} {a:Addr} {kvs:List (Key × V)} {k:Key} {u:Value} {A:Around} {E:VSP}
end
noncomputable def zMH (i:Expr):Prop:=∀ a b,subscripted i false a b=operate [a,b] (getItem a b)
theorem zC3 {prog:Program} {w:World} {A:Around} {E:VSP} {s:Shared} {env:Env} {value slice:Expr} {pos:Pos} {T id:String} {Q:VSP}
  (j:typeLookup (.type T) "__getitem__"=pure (some (.builtin id))) (k:zMH slice)
  (h:wpAny (model prog w) A (eval value env) (λo c=>wpAny (model prog w) A (eval slice env) (λi a=>a.TypeIs o T/\wpAny (model prog w) A (getItem o i) Q E a) E c) E s) :
  wpAny (model prog w) A (eval (.Subscript value slice pos) env) Q E s:=by
 refine Subscript_ (wpAny_mono h (λo c e=>wpAny_mono e (λi a b=>?_) λ_ _ x=>x) λ_ _ x=>x)
 obtain ⟨g,b⟩:=b
 unfold subscriptTail
 refine wpAny_bind ?_
 rw [getitemInPython_of_ne g.not_modules]
 refine wpAny_bind (wpAny_specialOf g j ?_)
 have fin:wpAny (model prog w) A (subscripted slice false o i) (λr d=>wpAny (model prog w) A (letTemporaryGo value o r >>= λ_=>pure r) Q E d) E a:=by
  rw [k o i]
  exact wpAny_operating (wpAny_mono b (λr d f=>wpAny_bind (wpAny_letTemporaryGo (wpAny_pure f))) λ_ _ x=>x)
 first
  | exact wpAny_pure (wpAny_bind fin)
  | exact wpAny_bind (wpAny_pure (wpAny_bind fin))
  | exact wpAny_bind fin
theorem i6 {X:Cx} {qp:LAO} {σ:St} {H:Hp} {s:Shared} {a:Addr} {y:V} {o:Option V} (I:Inv X qp σ H s) (g:t5 H a y o):s.TypeIs (.ref a) "dict":=by
 rcases g with ⟨c,k,e,_,_⟩ | ⟨c,k,b,e,_,_,_⟩
 ·obtain ⟨_,_,f,_,d⟩:=i5 I.hok e
  exact d.typeIs
 ·obtain ⟨_,_,h,_,d⟩:=i3 I.hok e
  exact d.typeIs
noncomputable def zI8 (d ty:TE):TE:=λb H Q=>d b H λx e=>ty b e λy c=>∃ a v,x=.ref a/\t5 c a y (some v)/\Q v c
noncomputable def tDIn (ty d:TE):TE:=λb H Q=>ty b H λy e=>d b e λx c=>∃ a o,x=.ref a/\t5 c a y o/\Q (.bl o.isSome) c
noncomputable def zC2 (ty d:TE):TE:=λb H Q=>ty b H λy e=>d b e λx c=>∃ a o,x=.ref a/\t5 c a y o/\Q (.bl (!o.isSome)) c
noncomputable def zKM (d ty e:TE):TS:=λD b H=>e b H λv f=>d b f λx g=>ty b g λy h=>∃ a c,x=.ref a/\zCW h a y v c/\D.nx b c
section
variable {X:Cx} {o i e value:Expr} {pos pos' tpos:Pos} {td ty tv:TE}
theorem yP (l:X.A.units + 1 < cLine) (m:PE X o td) (n:PE X i ty) (p:zMH i):PE X (.Subscript o i pos) (zI8 td ty):=by
 intro f s j H Q I h
 refine zC3 F.slot_dict_getitem.lookup p (thn (m f s j H _ I h) λu q b=>?_)
 obtain ⟨x,r,t,w,z⟩:=b
 refine thn (n f q j r _ t z) λJ L c=>?_
 obtain ⟨y,B,k,C,a,v,D,g,E⟩:=c
 subst D
 obtain rfl:u=Value.ref a:=w
 exact ⟨i6 k g,bU l k g C λM N G d=>⟨v,B,G,d,E⟩⟩
theorem zA8 (j:X.A.units + 1 < cLine) (k:PE X i ty) (l:PE X o td):PC X .In i o (tDIn ty td):=by
 intro d s f H Q I h
 refine thn (k d s f H _ I h) λE m b=>?_
 obtain ⟨y,n,p,q,r⟩:=b
 refine thn (l d m f n _ p r) λu G c=>?_
 obtain ⟨x,t,v,w,a,z,B,g,C⟩:=c
 subst B
 obtain rfl:u=Value.ref a:=w
 exact d_in j v g q λJ D=>⟨.bl z.isSome,t,D,rfl,C⟩
theorem m3 (j:X.A.units + 1 < cLine) (k:PE X i ty) (l:PE X o td):PC X .NotIn i o (zC2 ty td):=by
 intro d s f H Q I h
 refine thn (k d s f H _ I h) λE m b=>?_
 obtain ⟨y,n,p,q,r⟩:=b
 refine thn (l d m f n _ p r) λu G c=>?_
 obtain ⟨x,t,v,w,a,z,B,g,C⟩:=c
 subst B
 obtain rfl:u=Value.ref a:=w
 exact zE2 j v g q λJ D=>⟨.bl (!z.isSome),t,D,rfl,C⟩
theorem tQ (k:X.A.units + 1 < cLine) (l:PE X o td) (m:PE X i ty) (n:PE X value tv) (p:swapsWith value (some (.Subscript o i pos')) pos.line X.env=pure false) :
  PS X (.Assign [.Subscript o i pos'] value pos) (zKM td ty tv):=by
 intro j s f H D I h
 refine wpAny_Assign_Subscript (thn (n j s f H _ I h) λr q b=>?_) p
 obtain ⟨v,t,w,z,B⟩:=b
 refine thn (l j q f t _ w B) λu C c=>?_
 obtain ⟨x,E,G,J,L⟩:=c
 refine thn (m j C f E _ G L) λY s3 d=>?_
 obtain ⟨y,H3,M,N,a,O,Q,g,T⟩:=d
 subst Q
 obtain rfl:u=Value.ref a:=J
 exact bR k M g N z λs4 U=>⟨f,O,U,T⟩
end
theorem nL {P:Program} {w:World} {H:Hp} (h:Heap) (a:sysModules < h.objs.size):xJ P w H (h.push { cls:=.type "dict",data:=.dict #[] }) h.objs.size (.dK []):=
 ⟨zMT _,beq_eq_false_iff_ne.mpr (Ne.symm (zNA a)),[],.nil,Heap.DictOf.new h⟩
noncomputable def zG2:TE:=λ_ H Q=>∀ p,H p=none->Q (.ref p) (upd H p (.dK []))
section
variable {X:Cx} {pos:Pos}
theorem zA6:PE X (.Dict [] [] pos) zG2:=λb s c H Q I h=>
 wpAny_Dict_empty ⟨.ref s.heap.objs.size,_,I.laid (a:=s.heap.objs.size) (o:=.dK []) (t':=s.toks) (λ_ _ q=>Heap.get?_push_of_some _ q) (zMS _) (nL s.heap I.big),rfl,h _ (I.hok.fresh (zMS _))⟩
end
noncomputable def gE:List (TE × TE)->St->Hp->(List (V × V)->Hp->Prop)->Prop
 | [],_,H,Q=>Q [] H
 | (b,c) :: r,a,H,Q=>b a H λx d=>c a d λy e=>gE r a e λf g=>Q ((x,y) :: f) g
noncomputable abbrev VV:List (V × V)->List (Value × Value)->Prop:=Paired λp q=>yU p.1 q.1/\yU p.2 q.2
noncomputable def PPs (X:Cx) (pos:Pos) (keys:List (Option Expr)) (values:List Expr) (a:List (TE × TE)):Prop:=
 ∀ (c:LAO) (s:Shared) (b:St) (H:Hp) (Q:List (V × V)->Hp->Prop),Inv X c b H s->gE a b H Q ->
  wpAny (model X.prog X.w) X.A (evalPairs (pairTrees keys values X.env pos)) (λf g=>∃ d e,Inv X c b e g/\VV d f/\Q d e) X.xe s
theorem zDX {X:Cx} {pos:Pos}:PPs X pos [] [] []:=λa s b H Q I h=>pairTrees_nil_walk ⟨[],H,I,.nil,h⟩
theorem rT {X:Cx} {pos:Pos} {k v:Expr} {ks:List (Option Expr)} {vs:List Expr} {d e:TE} {a:List (TE × TE)} (f:PE X k d) (g:PE X v e) (i:PPs X pos ks vs a) :
  PPs X pos (some k :: ks) (v :: vs) ((d,e) :: a):=λb s c H Q I h=>
 pairTrees_cons_walk (thn (f b s c H _ I h) λu j ⟨x,l,m,n,o⟩=>thn (g b j c l _ m o) λD p ⟨y,q,r,t,w⟩=>
  thn (i b p c q _ r w) λE G ⟨z,A,B,rel,C⟩=>⟨(x,y) :: z,A,B,.cons ⟨n,t⟩ rel,C⟩)
noncomputable def o8 (a more:List (Key × V)):List (Key × V):=more.foldl (λacc b=>vV acc b.1 b.2) a
theorem KV.merge:∀ {more:List (Key × V)} {b:List (Key × Value)} {a:List (Key × V)} {vs:List (Key × Value)},KV more b->KV a vs->KV (o8 a more) (merged vs b):=by
 intro more b a vs r
 unfold KV at r
 induction r generalizing a vs with
 | nil=>intro q;exact q
 | @cons p q f g h t c=>
  intro d
  have e:KV (vV a p.1 p.2) (stored vs q.1 q.2):=by
   have:=d.put p.1 h.2
   rw [<- h.1];exact this
  exact c e
theorem sW:∀ (more a:List (Key × V)),(o8 a more).length <= a.length + more.length
 | [],a=>by show a.length <= a.length + 0;omega
 | p :: r,a=>by
  have b:=sW r (vV a p.1 p.2)
  have c:=uZ a p.1 p.2
  show (o8 (vV a p.1 p.2) r).length <= _
  rw [zM4];omega
theorem nU {P:Program} {w:World}:∀ {d:List (Key × V)} {f:List (Value × Value)},VV (d.map λg=>(kV g.1,g.2)) f->∃ e,Carries (wK P w) f e/\KV d e
 | [],_,r=>by rw [List.map_nil] at r;cases r;exact ⟨[],True.intro,.nil⟩
 | p :: d,_,r=>by
  rw [List.map_cons] at r
  cases r with
  | @cons a b as j h t=>
   obtain ⟨e,c,q⟩:=nU (P:=P) (w:=w) t
   obtain ⟨k,i⟩:=b
   exact ⟨(p.1,i) :: e,⟨nE h.1,rfl,c⟩,.cons ⟨rfl,h.2⟩ q⟩
noncomputable def zI7 (b:List (TE × TE)):TE:=λe H Q=>∀ p,H p=none->gE b e (upd H p (.dK [])) λf c=>c p=some (.dK [])/\∃ a:List (Key × V),f=a.map (λd=>(kV d.1,d.2))/\a.length <= 15/\Q (.ref p) (upd c p (.dK (o8 [] a)))
theorem zD1 {X:Cx} {pos:Pos} {keys:List (Option Expr)} {values:List Expr} {b:List (TE × TE)} (h:PPs X pos keys values b) (d:keys.all (·.isSome)=true) (m:keys.length=values.length) (n:keys ≠ [])
  (j:keys.length <= 15):PE X (.Dict keys values pos) (zI7 b):=by
 intro p s r H Q I q
 have t:=I.hok.fresh (zMS s.heap.objs.size)
 have u:=I.laid (a:=s.heap.objs.size) (o:=.dK []) (h':=s.heap.push { cls:=.type "dict",data:=.dict #[] }) (t':=s.toks) (λ_ _ q=>Heap.get?_push_of_some _ q) (zMS _) (nL s.heap I.big)
 refine wpAny_Dict_walk (knd:=wK X.prog X.w) d m n j (thn (h p _ r _ _ u (q _ t)) λT U f=>?_)
 obtain ⟨Y,H2,l,rel,e,g,x,lk,y⟩:=f
 subst x
 obtain ⟨A,c,B⟩:=nU (P:=X.prog) (w:=X.w) rel
 obtain ⟨z,hd,C,D,E⟩:=zCF l.hok e
 cases D
 refine ⟨A,c,E,λk i G=>⟨.ref s.heap.objs.size,_,?_,rfl,y⟩⟩
 have J:(o8 [] g).length <= sizeLine:=by
  have L:=sW g []
  rw [List.length_nil] at L
  rw [sizeLine_eq];omega
 have M:∃ q,k.get? s.heap.objs.size=some q:=let ⟨q,_,_,N,_⟩:=i;⟨q,N⟩
 exact p9 l (by rw [e];exact True.intro) G M (fT J hd (B.merge .nil) i)
section
variable {X:Cx} {qp:LAO} {σ:St} {H:Hp} {s:Shared} {a:Addr} {y d:V} {u r:Value} {o:Option V} {A:Around} {E:VSP}
end
section
variable {X:Cx} {o e f:Expr} {apos cpos:Pos} {td ty tx:TE}
end
section
variable {X:Cx} {qp:LAO} {σ:St} {H:Hp} {s:Shared} {a:Addr} {kvs:List (Key × V)} {A:Around} {E:VSP}
end
section
variable {X:Cx} {qp:LAO} {σ:St} {H:Hp} {s:Shared} {a:Addr} {y:V} {u:Value} {A:Around} {E:VSP}
end
end L2
namespace Att
open PySem PySem.W PySem.Calls PyProof.Rows
theorem ints_of_wellAll {P:Params} {h:Heap}:∀ (c:List Int) (vs:List Value),WellAll P h vs (c.map WData.int)->IntsAre vs c:=by
 intro c
 induction c with
 | nil=>
  intro vs w
  rw [List.map_nil] at w
  cases w
  exact .nil
 | cons n c d=>
  intro vs w
  rw [List.map_cons] at w
  cases w with
  | cons a b=>
   cases a
   exact .cons _ _ (d _ b)
theorem script_of {l:OpenLaw} {n:Nat} (p:l.most=some n) {P:Params} {h:Heap} {args:List WData} {c:List Value}
  (e:l.row.toRowW.claim.pre args=true) (k:WellAll P h c args) :
  ∃ a vs b,c=[Value.ref a]/\args=[WData.list (b.map WData.int)]/\h.get? a=some { cls:=.type "list",data:=.seq vs.toArray }/\IntsAre vs b/\b.length <= n:=by
 have m:WShape.hasAll [] args [.list .int]=true:=(pre_splitW e).1
 have o:l.pre.holds [] { args:=args }=true:=(pre_splitW e).2
 obtain ⟨d,r,rfl,s,t⟩:=hasAllW_cons m
 obtain rfl:=hasAllW_nil t
 obtain ⟨z,rfl,u⟩:=hasW_list s
 obtain ⟨b,rfl⟩:=items_int u
 have f:b.length <= n:=by
  unfold OpenLaw.pre at o
  have i:(WTm.not (.lt (.lit (.int (n:Int))) (.len (.arg 0)))).holds [] { args:=[.list (b.map .int)] }=true:=by
   have i:=(holds_andW o).1
   rw [p] at i
   exact i
  have j:=condW_of i (w_not (w_lt w_lit (w_len_list (w_arg rfl))))
  rw [zMJ] at j
  refine Nat.le_of_not_lt λq=>?_
  have v:(n:Int) < ((b.length:Nat):Int):=by omega
  first
   | (rw [zMY v] at j;exact absurd j (by decide))
   | (simp at j;omega)
 cases k with
 | cons w x=>
  cases x
  cases w with
  | list y g=>exact ⟨_,_,b,rfl,rfl,y,ints_of_wellAll b _ g,f⟩
theorem post_true (l:OpenLaw) (args:List WData):l.row.toRowW.claim.post args (.bool true) args=true:=
 postW_of (r:=l.row.toRowW) (X:=(true == true))
  (show WShape.has [] (.bool true) .bool=true by first | rfl | decide | simp [WShape.has,WShape.arms,WShape.armsAll])
  (show (WTm.eq .res (.lit (.bool true))).value [] { args:=args,res:=some (.bool true),after:=args }=some (.bool (true == true)) from w_eq_bool (w_res rfl) w_lit) rfl
theorem attach_call {l:OpenLaw} {n:Nat} {q:Program} {c:List Str} {y:(Str->Option Value)->Heap->Prop} {z:World->Heap->Prop} {d:DefRec}
  (D:l.most=some n) (s:d.params.defaults=[])
  (call:∀ (w:World) (s₀ b:Shared) (mg t:Str->Option Value) (h:Addr) (o:Obj) (pm m e:Value) (a:Addr) (vs:List Value) (p:List Int),
   Ground q c [] y w s₀ mg t b.heap->z w b.heap ->
   b.heap.get? h=some o->o.data=.func (docDef d.name d.params d.body d.scope pm m e)->b.heap.CodeRec m d.name->mg d.name=some (.ref h) ->
   b.heap.get? a=some { cls:=.type "list",data:=.seq vs.toArray }->IntsAre vs p->p.length <= n->b.gens = #[] ->
   codeAny (model l.prog w) callerA (.call (.ref h) ⟨[.ref a],[]⟩) (λr s'=>r=.ok (.ret (.bool true))/\OldK b.heap s'.heap/\s'.os=b.os/\AllBare s'.gens) b) :
  WalkO q c y z l.row.toRowW d [] (λf vs=>PySem.call f vs):=by
 intro w s₀ b mg t G Y h o pm m e E kV H hd u A v I args B as i C J x L
 obtain rfl:E=.none:=Dflts.none A s
 obtain rfl:kV=.none:=Dflts.noKw A
 obtain ⟨a,vs,p,rfl,rfl,j,g,k⟩:=script_of D i x
 refine enter_call (codeAny_mono (call w s₀ b mg t h o pm m e a vs p G Y H (fd_plain hd) u v j g k I) λr s' M=>?_)
 obtain ⟨rfl,N,O,Q⟩:=M
 exact ⟨.inl ⟨.bool true,.bool true,[],rfl,λ_=>rfl,.bool true,post_true l _,λ_=>⟨List.Pairwise.nil,λ_ T=>(nomatch T)⟩⟩,N,O,Q⟩
section
variable {prog:Program} {w:World} {A:Around} {E:Value->Shared->Prop} {s:Shared} {K:Frag}
end
end Att
namespace L2
open PySem PySem.Spec PyProof.Rows
theorem cD {vs:List Value} {a:List Int} (h:IntsAre vs a):yH (a.map V.int) vs:=by
 induction h with
 | nil=>exact .nil
 | cons n t _ b=>exact .cons ⟨t,rfl⟩ b
noncomputable def zIZ (H:Hp):Prop:=∀ b,H b=none \/ ∃ o a,H b=some (.frz o (.lst a))
theorem zBY {P:Program} {w:World} {K:W.Frag} {mg J:Str->Option Value} {CX:CXT} {k:Nat} {L a:Addr} {fd:FuncData} {x:Str} {sp:Sp} {c:Shared} {vs:List Value} {l:List Int}
  (Y:K.In c.heap) (p:c.heap.Ns mainGlobals mg) (g:c.heap.Ns builtinsNs J) (M:∀ x:Str,x ≠ "__name__"->J x=bootBuiltins x) (t:c.heap.NoLimit) (hg:c.gens = #[])
  (I:c.heap.get? a=some { cls:=.type "list",data:=.seq vs.toArray }) (hi:IntsAre vs l) (hl:l.length <= sizeLine) (hr:z6 k callerA)
  (F:∀ base:Heap,K.In base->base.Ns mainGlobals mg->tJ P w K mg base CX k L fd [x] sp) (j:∀ (s:Shared) (u:Value),BindsTo s fd ⟨[u],[]⟩ [(x,u)])
  (N:∀ H:Hp,zIZ H->SqL K H a (l.map V.int)->sp [.ref a] H (λv _=>v=.bl true) λ_ _ _=>False)
  (O:∀ H e s',CX [] H c (λ_ _ _=>False) e s'->False) :
  codeAny (model P w) callerA (.call (.ref L) ⟨[.ref a],[]⟩) (λr s'=>r=.ok (.ret (.bool true))/\OldK c.heap s'.heap/\s'.os=c.os/\AllBare s'.gens) c:=by
 have rv:=cD hi
 have y:=hi.length
 have core:∀ H:Hp,zIZ H->SqL K H a (l.map V.int)->HOk P w H c.heap->(∀ b,H b ≠ none->b=a)->(H a ≠ none->K.lookup a=none) ->
   codeAny (model P w) callerA (.call (.ref L) ⟨[.ref a],[]⟩) (λr s'=>r=.ok (.ret (.bool true))/\OldK c.heap s'.heap/\s'.os=c.os/\AllBare s'.gens) c:=by
  intro H hO hS A hA hK
  have f:∀ {b:Addr} {o:Obj},c.heap.get? b=some o->H b=none->(jA c.heap H).get? b=some o:=λe n=>zB3 e n
  have Q:∀ {b:Addr} {o:Obj} {B:Array DictEntry} {C:Nat},c.heap.get? b=some o->o.data=.dict B C->H b=none:=λ{b o B C} e d=>by
   cases q:H b with
   | none=>rfl
   | some u=>
    have T:b=a:=hA b (by rw [q];simp)
    subst T
    rw [I] at e;cases e
    have d':Data.seq vs.toArray _=Data.dict B C:=d
    cases d'
  have i:∀ {b:Addr} {m:Str->Option Value},c.heap.Ns b m->(jA c.heap H).Ns b m:=λ{b m} ⟨o,B,C,e,d,r⟩=>⟨o,B,C,f e (Q e d),d,r⟩
  have D:K.In (jA c.heap H):=λb o e=>f (Y b o e) (by
   cases q:H b with
   | none=>rfl
   | some u=>
    have T:b=a:=hA b (by rw [q];simp)
    subst T
    rw [hK (by rw [q];simp)] at e;cases e)
  have hM:Mod K mg (jA c.heap H):=⟨D,i p,⟨J,i g,M⟩,let ⟨mc,h1,h2⟩:=t;⟨mc,i h1,h2⟩⟩
  have e0:gB P w K mg (jA c.heap H) callerA [] c H:=⟨rfl,hM,λb o e=>zEE e,Nat.le_of_eq (bJ _ _),trivial,λb g=>absurd (show b ∈ ([]:List Addr) from g) (by simp),A,.of_eq hg⟩
  refine codeAny_mono ((F _ D (i p)).run callerA [] c H ⟨[.ref a],[]⟩ [.ref a] [.ref a] _ _ hr e0 (j c (.ref a)) (.cons rfl .nil) (N H hO hS)) λr s' h=>?_
  cases r with
  | error e=>exact (O H e s' h).elim
  | ok fl=>
   cases fl with
   | next=>exact False.elim h
   | brk=>exact False.elim h
   | cont=>exact False.elim h
   | ret u=>
    obtain ⟨v,H',os,bare,un,E,r',q⟩:=h
    have q':v=.bl true:=q
    subst q'
    obtain rfl:u=Value.bool true:=r'
    refine ⟨rfl,OldK.of_keep λb o e=>?_,os,bare⟩
    cases q:H b with
    | none=>exact un.keep b o e q (by intro z;exact absurd (show b ∈ ([]:List Addr) from z) (by simp)) (by simp)
    | some u=>
     rcases hO b with z | ⟨ob,xs,z⟩
     ·rw [q] at z;cases z
     ·have z2:=un.frzs b ob _ z
      obtain ⟨e1,_⟩:=A b _ z
      obtain ⟨e2,_⟩:=E b _ z2
      rw [e] at e1;cases e1
      exact e2
 cases U:K.lookup a with
 | some o=>
  have e:=Y a o U
  rw [I] at e
  cases e
  refine core (λ_=>none) (λ_=>.inl rfl) (.inr ⟨_,vs.toArray,_,U,rfl,rfl,rfl,by rw [zMR,y];exact hl,by simpa using rv⟩) (λb u z=>by have G:(none:Option HO)=some u:=z;cases G) (λb z=>absurd rfl z) λz=>absurd rfl z
 | none=>
  refine core (λb=>if b=a then some (.frz { cls:=.type "list",data:=.seq vs.toArray } (.lst (l.map V.int))) else none) (λb=>?_) (.inl (.inr ⟨{ cls:=.type "list",data:=.seq vs.toArray },if_pos rfl⟩)) (λb u z=>?_) (λb z=>?_) λ_=>U
  ·by_cases g:b=a
   ·exact .inr ⟨_,_,if_pos g⟩
   ·exact .inl (if_neg g)
  ·by_cases g:b=a
   ·have G:=(if_pos g).symm.trans z
    cases G
    subst g
    exact ⟨I,by rw [zMJ];exact hl,vs,_,rv,I⟩
   ·have G:=(if_neg g).symm.trans z
    cases G
  ·by_cases g:b=a
   ·exact g
   ·exact absurd (if_neg g) z
theorem walk_of {l:W.OpenLaw} {n k:Nat} {q:Program} {i:List Str} {I:(Str->Option Value)->Heap->Prop} {C:World->Heap->Prop} {d:DefRec} {K:Params->W.Frag} {CX:World->CXT} {sp:World->Sp} {x:Str}
  (J:l.most=some n) (hn2:n <= sizeLine) (y:d.params.defaults=[]) (L:z6 k callerA)
  (M:∀ (w:World) (h:Heap),C w h->(K w.params).In h)
  (F:∀ (w:World) (mg:Str->Option Value) (r:Addr) (h:Heap),(K w.params).In h->h.Ns mainGlobals mg->mg d.name=some (.ref r) ->
   ∃ fd:FuncData,(∀ (s:Shared) (u:Value),BindsTo s fd ⟨[u],[]⟩ [(x,u)]) /\
    ∀ base:Heap,(K w.params).In base->base.Ns mainGlobals mg->tJ l.prog w (K w.params) mg base (CX w) k r fd [x] (sp w))
  (z:∀ (w:World) (H:Hp) (a:Addr) (t:List Int),t.length <= n->zIZ H->SqL (K w.params) H a (t.map V.int)->sp w [.ref a] H (λv _=>v=.bl true) λ_ _ _=>False)
  (A:∀ (w:World) (H:Hp) (s:Shared) (e:Value) (s':Shared),CX w [] H s (λ_ _ _=>False) e s'->False) :
  W.WalkO q i I C l.row.toRowW d [] (λf vs=>PySem.call f vs):=by
 refine Att.attach_call J y λw D m mg mb r o pm cd N a vs t G Y ho hd O B p j c Q=>?_
 have E:=M w _ Y
 obtain ⟨fd,U,hF⟩:=F w mg r _ E G.T.g B
 exact zBY E G.T.g G.T.b G.T.builtins G.T.nolimit Q p j (zMU c hn2) L hF U (λH hO hS=>z w H a t c hO hS) λH e s'=>A w H m e s'
noncomputable def yX (s:Stmt) (j:Nat):Stmt:=match s with
 | .ClassDef _ _ _ body _ _ _ _ _ _ _=>body.getD j (.Pass ⟨0,0,0,0⟩)
 | _=>.Pass ⟨0,0,0,0⟩
noncomputable def vI (s:Stmt):Arguments:=match s with
 | .FunctionDef _ a _ _ _ _ _ _ _ _=>a
 | _=>{ posonlyargs:=[],args:=[],vararg:=none,kwonlyargs:=[],kw_defaults:=[],kwarg:=none,defaults:=[] }
noncomputable def y8 (s:Stmt):List Stmt:=match s with
 | .FunctionDef _ _ b _ _ _ _ _ _ _=>b
 | _=>[]
noncomputable def zG (s:Stmt):Scope:=match s with
 | .FunctionDef _ _ _ _ _ _ d _ _ _=>d
 | _=>{ kind:=.function,names:=[],isGenerator:=false,isCoroutine:=false }
noncomputable abbrev CX0:CXT:=λ_ _ _ _ _ _=>False
noncomputable abbrev E0:XK:=λ_ _ _=>False
theorem dG {X:Cx}:uV CX0 X E0:=λ_ _ _ _ _ _ _ h=>h.elim
structure Fun (K:W.Frag) (x qual:Str) (st:Stmt) (f:Addr) (fd:FuncData):Prop where
 ex:∃ (oc:Value) (od:Option Addr) (kV doc pm:Value) (an:Option Addr) (cdv ct:Value) (osl:Array (Option Value)),
  fd=W.fnOf x qual (vI st) (y8 st) (zG st) .none kV doc pm an cdv ct/\K.lookup f=some ⟨oc,od,.func fd,osl⟩/\W.codeIn K cdv qual=true
 kp:W.keepIn K (.ref f)=true
section
variable {P:Program} {w:World} {K:W.Frag} {mg:Str->Option Value} {base:Heap}
theorem Fun.ok {x b:Str} {st:Stmt} {f:Addr} {fd:FuncData} {N ps:List Str} {k:Nat} {sp:Sp} (F:Fun K x b st f fd) (S:zO N ps (zG st)) (len:∀ vs H Q E,sp vs H Q E->vs.length=ps.length)
  (d:∀ (c:Value) (A:Around) (a:List Env) (s:Shared) (H:Hp) (vs:List V) (Q:VK) (E:XK),z6 k (A.deeper (envOfC b (zG st) s.heap.objs.size f c))->sp vs H Q E ->
   ∃ t,PSs (uR CX0 P w K mg base N b (zG st) f c A a s H E).nox (y8 st) t/\t { nx:=λ_ i=>Q .non i,rt:=Q } (start N vs) H):tJ P w K mg base CX0 (k + 1) f fd ps sp:=by
 obtain ⟨o,p,kV,j,pm,r,c,u,l,rfl,m,e⟩:=F.ex
 refine zGK m e S len λA a s H vs Q E n g=>?_
 obtain ⟨t,h,q⟩:=d c A a s H vs Q E n g
 exact ⟨t,h.nox,q⟩
theorem Fun.binds {x a:Str} {st:Stmt} {f:Addr} {fd:FuncData} {ps:List Str} (F:Fun K x a st f fd)
  (h:∀ (kV b pm:Value) (d:Option Addr) (c ct:Value) (us:List Value),us.length=ps.length->bindArgs (W.fnOf x a (vI st) (y8 st) (zG st) .none kV b pm d c ct) ⟨us,[]⟩=pure (ps.zip us)):uX K fd ps []:=by
 obtain ⟨i,j,kV,b,pm,d,c,ct,e,rfl,k,g⟩:=F.ex
 exact .all (h kV b pm d c ct)
theorem rF {x a:Str} {st:Stmt} {f:Addr} {h:Value} {i g:Option Addr} {e:Array (Option Value)} {kV d pm b ct:Value} (l:K.lookup f=some ⟨h,i,.func (W.fnOf x a (vI st) (y8 st) (zG st) .none kV d pm g b ct),e⟩)
  (c:W.codeIn K b a=true) (k:W.keepIn K (.ref f)=true):Fun K x a st f (W.fnOf x a (vI st) (y8 st) (zG st) .none kV d pm g b ct):=⟨⟨h,i,kV,d,pm,g,b,ct,e,rfl,l,c⟩,k⟩
end
theorem vT {A:Around} {k:Nat} (a:z6 k A):A.units + 1 < cLine:=Nat.lt_of_le_of_lt (Nat.add_le_add_left (by decide:1 <= 64) _) a.units
theorem cH {n:Nat} (h:n <= 1000):n < sizeLine:=Nat.lt_of_le_of_lt h (by decide)
section
variable {X:Cx}
theorem pv (i:Nat) {x:Str} {pos:Pos} (b:X.N[i]?=some x:=by rfl) (c:Vis X.env.scope x:=by first | exact Or.inl rfl | exact Or.inr (Or.inl rfl) | exact Or.inr (Or.inr rfl)) (hd:(x == ("__debug__" : Str))=false:=by decide)
  (a:(x == ("__classdict__" : Str))=false:=by decide):PE X (.Name x pos) (tM i):=zHJ b c hd a
end
theorem mQ {A B:Prop} (h:B):if false=true then A else B:=by
 rw [if_neg zNB]
 exact h
theorem nF {A B:Prop} (h:A):if true=true then A else B:=by
 rw [if_pos rfl]
 exact h
theorem t8 {c A B:Prop} [Decidable c] (a:c->A) (b:¬ c->B):if c then A else B:=by
 by_cases h:c
 ·rw [if_pos h]
  exact a h
 ·rw [if_neg h]
  exact b h
noncomputable def zIY (H a:Hp):Prop:=∀ b o,H b=some o->a b=some o
theorem zIY.seq {K:W.Frag} {H b:Hp} {a:Addr} {xs:List V} (e:zIY H b) (h:SqL K H a xs):SqL K b a xs:=by
 rcases h with (h | ⟨o,h⟩) | h
 ·exact .inl (.inl (e _ _ h))
 ·exact .inl (.inr ⟨o,e _ _ h⟩)
 ·exact .inr h
end L2
set_option maxHeartbeats 4000000
namespace L2
open PySem PySem.Spec PyProof.Rows
noncomputable def clF (env:Env):List (Str × NameKind)->List (Str × Addr)->List (Str × Addr)
 | [],a=>a
 | (n,k) :: r,a=>clF env r (if k == NameKind.free then (n,(env.cells.lookup n).getD 0) :: a else a)
theorem zE6 (env:Env):∀ l a,(∀ n,(n,NameKind.free) ∈ l->(env.cells.lookup n).isSome=true) ->
  (forIn l a λx r=>(match x with
   | (name,kind)=>if (kind == NameKind.free)=true then (do let c <- cellOf env name;pure (ForInStep.yield ((name,c) :: r))) else pure (ForInStep.yield r):Sem (ForInStep (List (Str × Addr)))))=pure (clF env l a):=by
 intro l
 induction l with
 | nil=>intro a _;rfl
 | cons x l d=>
  intro a h
  obtain ⟨n,k⟩:=x
  rw [List.forIn_cons]
  by_cases e:k=NameKind.free
  ·subst e
   have f:=h n zNC
   obtain ⟨c,g⟩:=Option.isSome_iff_exists.mp f
   simp only [beq_self_eq_true,if_true,clF,g,Option.getD_some,cellOf,pure_bind]
   exact d _ λm b=>h m (zMW _ b)
  ·have i:(k == NameKind.free)=false:=by simpa using e
   simp only [i,Bool.false_eq_true,if_false,clF,pure_bind]
   exact d _ λm b=>h m (zMW _ b)
theorem vA {scope:Scope} {env:Env} (h:∀ n,(n,NameKind.free) ∈ scope.names->(env.cells.lookup n).isSome=true) :
  closureFor scope env=pure (clF env scope.names []):=by
 have e:=zE6 env scope.names [] h
 unfold closureFor
 simp only [bind_pure] at e ⊢
 exact e
theorem zE5 (env:Env):∀ l a,(∀ n,(n,NameKind.free) ∈ l->(env.cells.lookup n).isSome=true) ->
  (∀ y c,a.lookup y=some c->env.cells.lookup y=some c)->∀ y c,(clF env l a).lookup y=some c->env.cells.lookup y=some c:=by
 intro l
 induction l with
 | nil=>intro a _ h;exact h
 | cons x l g=>
  intro a h d
  obtain ⟨n,k⟩:=x
  refine g _ (λm i=>h m (zMW _ i)) ?_
  by_cases f:k=NameKind.free
  ·subst f
   obtain ⟨c,e⟩:=Option.isSome_iff_exists.mp (h n zNC)
   simp only [beq_self_eq_true,if_true,e,Option.getD_some]
   intro y j q
   rw [List.lookup_cons] at q
   cases b:y == n with
   | true=>
    rw [b] at q
    have o:y=n:=by simpa using b
    cases q
    rw [o];exact e
   | false=>
    rw [b] at q
    exact d y j q
  ·have p:(k == NameKind.free)=false:=by simpa using f
   simp only [p,Bool.false_eq_true,if_false]
   exact d
theorem zE7 (env:Env):∀ l a y,((y,NameKind.free) ∈ l \/ (a.lookup y).isSome=true)->((clF env l a).lookup y).isSome=true:=by
 intro l
 induction l with
 | nil=>intro a y h;exact h.elim (λz=>by cases z) id
 | cons x l c=>
  intro a y h
  obtain ⟨n,k⟩:=x
  refine c _ y ?_
  rcases h with h | h
  ·rcases List.mem_cons.mp h with e | e
   ·cases e
    right
    simp
   ·exact .inl e
  ·right
   by_cases b:k=NameKind.free
   ·subst b
    simp only [beq_self_eq_true,if_true,List.lookup_cons]
    cases f:y == n <;> simp [h]
   ·have d:(k == NameKind.free)=false:=by simpa using b
    simp only [d,Bool.false_eq_true,if_false]
    exact h
theorem rQ {scope:Scope} {env:Env}:∀ (l:List (Str × NameKind)) (x:Str) (k:NameKind),
  (l.map λ(n,k)=>if (k == NameKind.free && env.scope.kind == .function && env.kindOf n == some .cell) then (n,NameKind.cell) else (n,k)).lookup x=some k->k=.cell \/ k=.free ->
  (∀ y ∈ l,y.2 ≠ .cell)->(x,NameKind.free) ∈ l
 | [],x,k,h,_,_=>by simp at h
 | (n,a) :: r,x,k,h,c,d=>by
  rw [List.map_cons,List.lookup_cons] at h
  have f:(if (a == NameKind.free && env.scope.kind == .function && env.kindOf n == some .cell)=true then (n,NameKind.cell) else (n,a)).1=n:=by split <;> rfl
  simp only [f] at h
  cases b:x == n with
  | true=>
   rw [b] at h
   have g:x=n:=by simpa using b
   subst g
   simp only [Option.some.injEq] at h
   split at h
   ·rename_i q
    simp only [Bool.and_eq_true,beq_iff_eq] at q
    rw [q.1.1];exact zNC
   ·have e:a=k:=h
    rcases c with z | z
    ·exact absurd (e.trans z) (d _ zNC)
    ·rw [e,z];exact zNC
  | false=>
   rw [b] at h
   exact zMW _ (rQ (scope:=scope) r x k h c λy i=>d y (zMW _ i))
noncomputable def cxC (X:Cx) (xs:List Str) (ix:List Nat) (scope:Scope) (C:Addr) (d:List Addr) (s:Shared) (H:Hp):Cx:=
  { X with N:=xs ++ ix.map (λi=>X.N.getD i ""),s₀:=s,H₀:=H,env:=compEnvC scope (clF X.env scope.names []) C X.env,
           outer:=X.stack,stack:=X.stack,ex:=d,fn:=λ_=>false,pn:=[],xe:=λ_ _=>False }
noncomputable def stC (xs:List Str) (ix:List Nat) (σ:St):St:=xs.map (λ_=>none) ++ ix.map (λi=>(σ[i]?).join)
structure xN (X:Cx) (xs:List Str) (ix:List Nat) (scope:Scope):Prop where
 kind:scope.kind=.function
 nocell:∀ y ∈ scope.names,y.2 ≠ .cell
 loc:∀ y ∈ scope.names,y.2=.local->scope.names.lookup y.1=some .local
 fre:∀ n,(n,NameKind.free) ∈ scope.names->X.env.kindOf n=some .cell \/ X.env.kindOf n=some .free
 own:∀ x ∈ xs,scope.names.lookup x=some .local
 nd:(xs ++ ix.map (λi=>X.N.getD i "")).Nodup
 inN:∀ i ∈ ix,i < X.N.length
 frx:∀ i ∈ ix,scope.names.lookup (X.N.getD i "")=some .free
theorem rR {scope:Scope} {env:Env}:∀ (l:List (Str × NameKind)) (x:Str),l.lookup x=some .free ->
  (l.map λ(n,k)=>if (k == NameKind.free && env.scope.kind == .function && env.kindOf n == some .cell) then (n,NameKind.cell) else (n,k)).lookup x=some .cell \/
  (l.map λ(n,k)=>if (k == NameKind.free && env.scope.kind == .function && env.kindOf n == some .cell) then (n,NameKind.cell) else (n,k)).lookup x=some .free
 | [],x,h=>by simp at h
 | (n,a) :: r,x,h=>by
  rw [List.lookup_cons] at h
  rw [List.map_cons,List.lookup_cons]
  have d:(if (a == NameKind.free && env.scope.kind == .function && env.kindOf n == some .cell)=true then (n,NameKind.cell) else (n,a)).1=n:=by split <;> rfl
  simp only [d]
  cases b:x == n with
  | true=>
   rw [b] at h
   have e:=zMQ h
   subst e
   by_cases c:(NameKind.free == NameKind.free && env.scope.kind == .function && env.kindOf n == some .cell)=true
   ·left;simp only [if_pos c]
   ·right;simp only [if_neg c]
  | false=>
   rw [b] at h
   exact rR (scope:=scope) r x h
theorem sH {G:Heap}
  (S:xN X xs ix scope) (I:Inv X qp σ H s) (J:∀ b ∈ D,uW X qp H b) (L:∀ b ∈ D,∃ o,s.heap.get? b=some o)
  (M:G.Ns s.heap.objs.size (λ_=>none)) (E:∀ b o,s.heap.get? b=some o->G.get? b=some o) (O:s1 = { s with heap:=G,toks:=tk }) :
  Inv (cxC X xs ix scope s.heap.objs.size D s H) [] (stC xs ix σ) H s1:=by
 subst O
 have Q:∀ n,(n,NameKind.free) ∈ scope.names->(X.env.cells.lookup n).isSome=true:=λn hn=>by
  obtain ⟨c,e⟩:=I.ok.has n (S.fre n hn)
  rw [e];rfl
 have sub:=zE5 X.env scope.names [] Q (λy c q=>by simp at q)
 have has:=λy hy=>zE7 X.env scope.names [] y (.inl hy)
 have T:∀ b ∈ D,b ∉ frs X.stack:=λb t z=>by
  obtain ⟨_,f1,f2,_⟩:=J b t
  rcases List.mem_cons.mp (I.stkSub b z) with q | q
  ·exact f1 q
  ·exact f2 q
 have f:∀ x k,(cxC X xs ix scope s.heap.objs.size D s H).env.kindOf x=some k->k=.cell \/ k=.free->(x,NameKind.free) ∈ scope.names:=λx k e U=>
  rQ (scope:=scope) (env:=X.env) scope.names x k e U S.nocell
 refine ⟨⟨I.ok.mod,S.kind,I.ok.glob,I.ok.blt,zMS _,λx y c a b=>?_,λx hx=>?_,λx c z=>(by cases z),I.ok.hd,I.ok.frames,.inl rfl,λb t=>?_,I.bs,zMU I.ok.bsz I.sz,λb o e t=>?_,T,I.stack,I.stkFree⟩,
  rfl,I.bare,Un.kept E,⟨_,M,λi x v O e2 e3=>?_⟩,λx c e=>?_,I.hok.fresh (zMS _),λx c e=>I.freeC x c (sub x c e),λp hp=>absurd (show p ∈ ([]:LAO) from hp) (by simp),I.hok.kept E,?_⟩
 ·exact I.ok.inj x y c (sub x c a) (sub y c b)
 ·have hm:(x,NameKind.free) ∈ scope.names:=hx.elim (λz=>f x _ z (.inl rfl)) λz=>f x _ z (.inr rfl)
  exact Option.isSome_iff_exists.mp (has x hm)
 ·obtain ⟨f0,f1,f2,f3,f4,f5⟩:=J b t
  obtain ⟨o,ho⟩:=L b t
  exact ⟨λz=>Nat.lt_irrefl _ (Nat.lt_of_lt_of_eq (Heap.lt_size ho) z.symm),λx c e=>f4 x c (sub x c e)⟩
 ·obtain ⟨f0,f1,f2,f3,f4,f5⟩:=J b t
  rcases f3 with q | q
  ·exact I.ok.noex b o e q
  ·exact Nat.lt_irrefl _ (zM5 (Heap.lt_size e) (zMU I.ok.bsz q))
 ·have d:(xs.map (λ_=>(none:Option V)) ++ ix.map (λi=>(σ[i]?).join))[i]?=some (some v):=e2
  have l:(xs ++ ix.map (λi=>X.N.getD i ""))[i]?=some x:=O
  by_cases hi:i < xs.length
  ·rw [zM7 (by simpa using hi),zMP] at d
   cases q:xs[i]? with
   | none=>rw [q] at d;cases d
   | some z=>rw [q] at d;cases d
  ·have w:xs.length <= i:=Nat.not_lt.mp hi
   rw [zM6 (by simpa using w),zMJ,zMP] at d
   rw [zM6 w,zMP] at l
   cases q:ix[i - xs.length]? with
   | none=>rw [q] at d;cases d
   | some j=>
    rw [q] at l d
    have hj:j ∈ ix:=zMN q
    have ex:X.N.getD j ""=x:=zMQ l
    have A:(σ[j]?).join=some v:=zMQ d
    have a0:=S.inN j hj
    have eN:X.N[j]?=some x:=by
     rw [<- ex,zMO]
     rw [zMK a0];rfl
    have a1:σ[j]?=some (some v):=by
     cases z:σ[j]? with
     | none=>rw [z] at A;cases A
     | some y=>rw [z] at A;simp at A;rw [A]
    have g:=S.frx j hj
    rw [ex] at g
    have h:=S.fre x (PySem.mem_of_lookup g)
    obtain ⟨m,hn,hl⟩:=I.loc
    obtain ⟨u,ru,lk⟩:=hl j x v eN a1 (h.elim (λz=>.inr (.inl z)) λz=>.inr (.inr z))
    refine ⟨u,ru,.inr ⟨rR (scope:=scope) (env:=X.env) scope.names x g,?_⟩⟩
    rcases lk with ⟨k1,_⟩ | ⟨_,c,ec,zc⟩
    ·rcases h with z | z <;> (rw [z] at k1;cases k1)
    ·obtain ⟨c',B⟩:=Option.isSome_iff_exists.mp (has x (PySem.mem_of_lookup g))
     have q2:=sub x c' B
     rw [ec] at q2;cases q2
     obtain ⟨C,r,hd⟩:=zc
     exact ⟨c,B,C,E c C r,hd⟩
 ·obtain ⟨v,C,r,hd⟩:=I.cell x c (sub x c e)
  exact ⟨v,C,E c C r,hd⟩
 ·show (xs.map (λ_=>(none:Option V)) ++ ix.map (λi=>(σ[i]?).join)).length=(xs ++ ix.map (λi=>X.N.getD i "")).length
  simp
noncomputable def cxX (X:Cx) (xs:List Str) (ix:List Nat) (scope:Scope) (C:Addr) (b:List Addr) (s:Shared) (H:Hp) (a:VSP):Cx:={ cxC X xs ix scope C b s H with xe:=a }
theorem Inv.toX (I:Inv X qp σ H s) (a:VSP):Inv { X with xe:=a } qp σ H s:=
 ⟨⟨I.ok.mod,I.ok.kind,I.ok.glob,I.ok.blt,I.ok.above,I.ok.inj,I.ok.has,I.ok.cab,I.ok.hd,I.ok.frames,I.ok.stk,I.ok.exf,I.ok.bs,I.ok.bsz,I.ok.noex,I.ok.exfs,I.ok.funs,I.ok.frf⟩,
  I.os,I.bare,I.base,I.loc,I.cell,I.free,I.freeC,I.pin,I.hok,I.len⟩
theorem zBS (J:Nat->Shared->Prop) (nof:∀ e s',Eb e s'->notedBy (model prog w) A env (λe s'=>R (.error e) s') e s')
  (turn:∀ n s,J n s->wpAny (model prog w) A (pyNext f) (λr g=>match r with
   | none=>R (.ok .next) g
   | some v=>wpAny (model prog w) A (letOwnedTupleGo target f v) (λ_ a=>wpAny (model prog w) A (assign target env v) (λ_ k=>
     wpAny (model prog w) A (forIn b true λc r=>if r=true then do let ok <- isTrue c env (eval c env);pure (ForInStep.yield ok) else pure (ForInStep.yield r)) (λok i=>
      if ok=true then wpAny (model prog w) A (eval d env) (λx l=>
       wpAny (model prog w) A (call (.builtin "list.append") [acc,x]) (λ_ o=>∃ m,m < n/\J m o) Eb l) Eb i
      else ∃ m,m < n/\J m i) Eb k) Eb a) Eb g) Eb s)
  (n:Nat) (h:J n s):codeAny (model prog w) A (.compLoop (.ListComp d [⟨target,iter,b,0⟩] scope pos) 0 f acc env) R s:=by
 refine codeAny_loop rfl J (λn s t=>?_) n h
 show wpAny (model prog w) A ((compTurn (.ListComp d [⟨target,iter,b,0⟩] scope pos) 0 f acc env).onRaise (λx=>do noteFrame x env;theTreesLotGoes x)) _ _ s
 refine wpAny_noted ?_
 rw [compTurn_list]
 refine wpAny_bind (wpAny_standAt (wpAny_bind (wpAny_mono (turn n s t) (λr g p=>?_) nof)))
 cases r with
 | none=>exact wpAny_pure p
 | some v=>
  refine wpAny_bind (wpAny_mono p (λ_ a j=>?_) nof)
  refine wpAny_bind (wpAny_mono j (λ_ k u=>?_) nof)
  refine wpAny_bind (wpAny_mono u (λok i q=>?_) nof)
  cases ok with
  | false=>exact wpAny_pure ⟨rfl,q⟩
  | true=>
   refine wpAny_bind (wpAny_bind (wpAny_mono q (λx l y=>?_) nof))
   exact wpAny_bind (wpAny_mono y (λ_ o z=>wpAny_pure (wpAny_pure ⟨rfl,z⟩)) nof)
noncomputable def PTs (X:Cx) (a:List Expr) (t:TT):Prop:=
 ∀ d s b H Q,Inv X d b H s->t b H Q ->
  wpAny (model X.prog X.w) X.A (forIn a true λc r=>if r=true then do let ok <- isTrue c X.env (eval c X.env);pure (ForInStep.yield ok) else pure (ForInStep.yield r)) (TP X d b Q) X.xe s
noncomputable def sY:TT:=λ_ H Q=>Q true H
theorem xQ:PTs X [] sY:=λ_ _ _ H _ I h=>wpAny_tests_nil ⟨H,I,h⟩
theorem pU (h:PT X c t):PTs X [c] t:=λa s b H Q I d=>wpAny_tests_one (h a s b H Q I d)
noncomputable def LCW (J:It) (xs:List Str) (ix:List Nat) (g:TG) (n:TT) (o:TE) (σ:St) (H1:Hp) (acc:Addr) (Q:VK):Prop:=
 ∃ W:Nat->Nat->List V->St->Hp->Prop,(∃ m,W 0 m [] (stC xs ix σ) (upd H1 acc (.lst []))) /\
  ∀ i m c h H,W i m c h H->H acc=some (.lst c)/\c.length < sizeLine /\
   ((J.stop i H/\Q (.ref acc) H) \/ (J.go i H/\∃ N:List V->St->Hp->Prop,(∀ d e f,N d e f->∃ j,j < m/\W (i + 1) j d e f) /\
    ∀ x f,J.yld i H x f->g x h f λa p=>n a p λb k=>
    if b=true then o a k λy l=>l acc=some (.lst c)/\N (c ++ [y]) a (upd l acc (.lst (c ++ [y]))) else N c a k))
noncomputable def tLC (xs:List Str) (ix:List Nat) (c:TI) (g:TG) (d:TT) (e:TE):TE:=λa H Q=>c a H λJ b=>∀ acc,b acc=none->LCW J xs ix g d e a b acc Q
structure zMC (Reg:Cx->Prop) (P:Program) (w:World) (tg:Expr) (J:It) (fp:List Addr) (it:Addr) (tn:Nat->Heap->Prop):Prop where
 mem:it ∈ fp
 obj:∀ i h,tn i h->∀ b ∈ fp,∃ o,h.get? b=some o/\∀ v,o.data ≠ .cell v
 keep:∀ i h h',tn i h->(∀ b ∈ fp,∀ o,h.get? b=some o->h'.get? b=some o)->tn i h'
 item:∀ (X:Cx),X.prog=P->X.w=w->Reg X->∀ (i:Nat) (qp:LAO) (s:Shared) (σ:St) (H:Hp) (E:VSP),Inv X qp σ H s->(∀ b ∈ fp,uW X qp H b)->tn i s.heap->J.go i H ->
  wpAny (model P w) X.A (pyNext (.ref it)) (λr s1=>∃ u,r=some u /\
   wpAny (model P w) X.A (letOwnedTupleGo tg (.ref it) u) (λ_ s2=>∃ x H',Inv X qp σ H' s2/\yU x u/\J.yld i H x H'/\tn (i + 1) s2.heap/\∀ b ∈ fp,H' b=none) E s1) E s
 done:∀ (X:Cx),X.prog=P->X.w=w->Reg X->∀ (i:Nat) (qp:LAO) (s:Shared) (σ:St) (H:Hp) (E:VSP),Inv X qp σ H s->(∀ b ∈ fp,uW X qp H b)->tn i s.heap->J.stop i H ->
  wpAny (model P w) X.A (pyNext (.ref it)) (λr s1=>r=none/\Inv X qp σ H s1) E s
 self:∀ (A:Around) (i:Nat) (s:Shared) (Q:VSP) (E:VSP),tn i s.heap->Q (.ref it) s->wpAny (model P w) A (pyIter (.ref it)) Q E s
noncomputable def PIEG (Reg:Cx->Prop) (X:Cx) (qp:LAO) (σ:St) (h:Expr) (R:It->Hp->Prop) (a:Value) (d:Shared):Prop:=
 ∃ e f g J c,a=.ref e/\Inv X qp σ c d/\zMC Reg X.prog X.w h J f e g/\g 0 d.heap/\(∀ b ∈ f,uW X qp c b)/\R J c
noncomputable def PIG (Reg:Cx->Prop) (X:Cx) (c iter:Expr) (d:TI):Prop:=
 ∀ b s a H R,Inv X b a H s->d a H R ->
  wpAny (model X.prog X.w) X.A (eval iter X.env) (λv e=>wpAny (model X.prog X.w) X.A (pyIter v) (PIEG Reg X b a c R) X.xe e) X.xe s
theorem zBU (xf:Addr->List Addr->Shared->Hp->VSP)
    (S:xN X xs ix scope) (ab:∀ Y:Cx,Y.K=X.K->Y.calm=X.calm->Y.A.handled=X.A.handled->Reg Y) (hi:PIG Reg X tg iter wi)
    (hg:∀ C f s H,PG (cxX X xs ix scope C f s H (xf C f s H)) tg g) (ht:∀ C f s H,PTs (cxX X xs ix scope C f s H (xf C f s H)) a2 tt) (he:∀ C f s H,PE (cxX X xs ix scope C f s H (xf C f s H)) a3 te)
 (I:Inv X qp σ H s) (h:tLC xs ix wi g tt te σ H Q)
    (nf:∀ f a H3 acc e s',Inv X qp σ H3 a->(∀ b ∈ f,uW X qp H3 b)->xf a.heap.objs.size f a H3 e s'->notedBy (model X.prog X.w) X.A (compEnvC scope (clF X.env scope.names []) a.heap.objs.size X.env) (λe s'=>compPost (model X.prog X.w) X.A X.xe use R acc a.heap.objs.size (.error e) s') e s')
    (fin:∀ acc C t s' m,Q (.ref acc) t->s'.heap.Ns C m->(∀ h',Heap.SameBut C s'.heap h'->∀ tk,Inv X qp σ t { s' with heap:=h',toks:=tk })->(X.s₀.heap.objs.size <= C/\C ≠ X.env.locals/\(∀ x c,X.env.cells.lookup x=some c->c ≠ C)/\(∀ p ∈ X.pn ++ qp,p.1 ≠ C)/\t C=none)->compPost (model X.prog X.w) X.A X.xe use R (.ref acc) C (.ok .next) s') :
    wpAny (model X.prog X.w) X.A (eval iter X.env) (λx ac=>wpAny (model X.prog X.w) X.A (pyIter x) (λit ae=>wpAny (model X.prog X.w) X.A (newList []) (λacc af=>
      wpAny (model X.prog X.w) X.A (newFunctionEnv scope X.env.globals (clF X.env scope.names []) [] X.env.qual none .none (some X.env)) (λa1 ag=>
        codeAny (model X.prog X.w) X.A (.compStart (.ListComp a3 [⟨tg,iter,a2,0⟩] scope pos) 0 it acc { a1 with scope:=relabel scope X.env }) (compPost (model X.prog X.w) X.A X.xe use R acc a1.locals) ag) X.xe af) X.xe ae) X.xe ac) X.xe s:=by
  refine thn (hi qp s σ H _ I h) λv s1 h1=>thn h1 λbw U h2=>?_
  obtain ⟨it,f,tn,J,B,rfl,I2,T,ah,f2,q⟩:=h2
  refine wpAny_newObj_type ?_
  have I3:Inv X qp σ (upd B U.heap.objs.size (.lst [])) { U with heap:=U.heap.push { cls:=.type "list",data:=.seq ([]:List Value).toArray },toks:=U.toks }:=I2.lnew (ys:=[]) (its:=[]) .nil (zMT _)
  obtain ⟨W,⟨m0,w0⟩,turn⟩:=q U.heap.objs.size I2.fresh
  have G:=T.obj 0 _ ah
  have a4:∀ b ∈ f,b ≠ U.heap.objs.size:=λb k z=>by
    obtain ⟨o,ho,_⟩:=G b k
    exact Nat.lt_irrefl _ (Nat.lt_of_lt_of_eq (Heap.lt_size ho) z.symm)
  generalize bv:U.heap.objs.size=acc at *
  generalize ai:({ U with heap:=U.heap.push { cls:=.type "list",data:=.seq ([]:List Value).toArray } }:Shared)=a
  have I3:Inv X qp σ (upd B acc (.lst [])) a:=by rw [<- ai];exact I3
  have k3:∀ b o,U.heap.get? b=some o->a.heap.get? b=some o:=λb o e=>by rw [<- ai];exact Heap.get?_push_of_some _ e
  have f3:∀ b ∈ f,uW X qp (upd B acc (.lst [])) b:=λb k=>⟨by rw [zK (a4 b k)];exact (f2 b k).1,(f2 b k).2⟩
  have o3:∀ b ∈ f,∃ o,a.heap.get? b=some o:=λb k=>let ⟨o,ho,_⟩:=G b k;⟨o,k3 b o ho⟩
  have ba:tn 0 a.heap:=T.keep _ _ _ ah λb _ o e=>k3 b o e
  refine wpAny_newFunctionEnv S.nocell (by intro y hy;simp at hy) (λh1 aj ak=>?_) S.kind
  have L:∀ b o,a.heap.get? b=some o->h1.get? b=some o:=λb o e=>ak.extBut b o (zNA (Heap.lt_size e)) (Heap.get?_push_of_some _ e)
  generalize al:({ a with heap:=h1,toks:=a.toks + ([]:List (Str × Value)).length }:Shared)=s4
  have I4:Inv (cxC X xs ix scope a.heap.objs.size f a (upd B acc (.lst []))) [] (stC xs ix σ) (upd B acc (.lst [])) s4:=sH S I3 f3 o3 aj L al.symm
  have an:tn 0 s4.heap:=T.keep _ _ _ ba λb _ o e=>by rw [<- al];exact L b o e
  have nf:=λav e s'=>nf f a (upd B acc (.lst [])) av e s' I3 f3
  have hg:=hg a.heap.objs.size f a (upd B acc (.lst []))
  have ht:=ht a.heap.objs.size f a (upd B acc (.lst []))
  have he:=he a.heap.objs.size f a (upd B acc (.lst []))
  generalize xf a.heap.objs.size f a (upd B acc (.lst []))=xb at hg ht he nf
  have I4:Inv (cxX X xs ix scope a.heap.objs.size f a (upd B acc (.lst [])) xb) [] (stC xs ix σ) (upd B acc (.lst [])) s4:=I4.toX xb
  generalize j:cxX X xs ix scope a.heap.objs.size f a (upd B acc (.lst [])) xb=l at *
  have eP:l.prog=X.prog:=by rw [<- j];rfl
  have ew:l.w=X.w:=by rw [<- j];rfl
  have eK:l.K=X.K:=by rw [<- j];rfl
  have eA:l.A=X.A:=by rw [<- j];rfl
  have ec:Reg l:=ab l eK (by rw [<- j];rfl) (by rw [<- j];rfl)
  have ex:l.xe=xb:=by rw [<- j];rfl
  have D:l.env=compEnvC scope (clF X.env scope.names []) a.heap.objs.size X.env:=by rw [<- j];rfl
  have a0:l.ex=f:=by rw [<- j];rfl
  have bb:l.fs=frs X.stack:=by rw [<- j];rfl
  have bc:l.pn=[]:=by rw [<- j];rfl
  have bd:l.H₀=upd B acc (.lst []):=by rw [<- j];rfl
  have ao:l.s₀=a:=by rw [<- j];rfl
  have E:l.env.locals=a.heap.objs.size:=by rw [D];rfl
  have M:∀ {t:Hp},(∀ b ∈ f,t b=none)->∀ b ∈ f,uW l [] t b:=λ{t} hn b k=>by
    refine ⟨hn b k,?_,?_,.inl (by rw [a0];exact k),?_,?_⟩
    · rw [E]
      intro z
      obtain ⟨o,ho⟩:=o3 b k
      exact Nat.lt_irrefl _ (Nat.lt_of_lt_of_eq (Heap.lt_size ho) z.symm)
    · exact I4.ok.exfs b (by rw [a0];exact k)
    · exact (I4.ok.exf b (by rw [a0];exact k)).2
    · rw [bc];intro p hp;exact absurd hp (by simp)
  have loop:codeAny (model X.prog X.w) X.A (.compLoop (.ListComp a3 [⟨tg,iter,a2,0⟩] scope pos) 0 (.ref it) (.ref acc) l.env) (compPost (model X.prog X.w) X.A X.xe use R (.ref acc) a.heap.objs.size) s4:=by
    refine zBS (Eb:=xb) (nof:=?nf) (J:=λn s'=>∃ i ys τ t,Inv l [] τ t s'/\tn i s'.heap/\(∀ b ∈ f,t b=none)/\W i n ys τ t) ?tn m0 ⟨0,[],_,_,I4,an,λb k=>(f3 b k).1,w0⟩
    case nf=>
      rw [D]
      exact nf (.ref acc)
    rintro n s5 ⟨i,ys,τ,H5,I5,aq,ar,w5⟩
    obtain ⟨bz,be,bf⟩:=turn i n ys τ H5 w5
    rcases bf with ⟨stop,qn⟩ | ⟨go,N,hN,step⟩
    · have d:=T.done l eP ew ec i [] s5 τ H5 xb I5 (M ar) aq stop
      rw [eA] at d
      refine thn d λr s6 au=>?_
      obtain ⟨hr,I6⟩:=au
      subst hr
      obtain ⟨m,aw,_⟩:=id I6.loc
      rw [E] at aw
      refine fin acc a.heap.objs.size H5 s6 m qn aw (λh' bg tk=>?_) ⟨I3.sz,Ne.symm (zNA I3.lt),λx c e z=>by
        obtain ⟨v,oc,bh,_⟩:=I3.cell x c e
        exact Nat.lt_irrefl _ (Nat.lt_of_lt_of_eq (Heap.lt_size bh) z.symm),λp hp z=>Nat.lt_irrefl _ (Nat.lt_of_lt_of_eq (Heap.lt_size (I3.pin p hp).1) z.symm),by have:=I6.free;rw [E] at this;exact this⟩
      have same:∀ b,b ≠ a.heap.objs.size->h'.get? b=s6.heap.get? b:=λb k=>bg.2 b k
      have ub:=I6.base
      rw [bb,a0,bd,ao] at ub
      have a5:∀ b o,a.heap.get? b=some o->b ≠ a.heap.objs.size:=λb o e=>zNA (Heap.lt_size e)
      have u:Un (frs X.stack) f (upd B acc (.lst [])) H5 a.heap h':=
        ⟨λb o e n1 n2 n3=>(same b (a5 b o e)).trans (ub.keep b o e n1 n2 n3),λb o e n1 n2 n3=>by
            obtain ⟨sl,z⟩:=ub.slot b o e n1 n2 n3
            exact ⟨sl,(same b (a5 b o e)).trans z⟩,ub.free,λb o e n3=>by
            obtain ⟨o',z⟩:=ub.there b o e n3
            exact ⟨o',(same b (a5 b o e)).trans z⟩,ub.tups,ub.frzs,ub.tbls⟩
      have fC:H5 a.heap.objs.size=none:=by have:=I6.free;rw [E] at this;exact this
      have bi:HOk X.prog X.w H5 h':=λb o e=>by
        have z:=I6.hok b o e
        rw [eP,ew] at z
        refine z.stay (λc u hc q=>(same c ?_).trans q) (λ_ q=>q) λ_ _ q=>q
        intro zc
        rcases hc with q1 | q1
        · rw [<- q1,zc,fC] at e;cases e
        · rw [zc,fC] at q1;cases q1
      have bj:∀ b ∈ f,(b ∈ X.ex \/ X.s₀.heap.objs.size <= b)/\b ≠ X.env.locals/\(∀ x c,X.env.cells.lookup x=some c->c ≠ b)/\∀ p ∈ X.pn ++ qp,p.1 ≠ b:=λb k=>by
        obtain ⟨_,f1,_,g3,g4,g5⟩:=f3 b k
        exact ⟨g3,f1,g4,g5⟩
      have ho:s6.os=a.os:=by have:=I6.os;rw [ao] at this;exact this
      exact I3.call' (s':={ s6 with heap:=h',toks:=tk }) (ch:=f) ho u bi I6.bare bj
    · have d:=T.item l eP ew ec i [] s5 τ H5 xb I5 (M ar) aq go
      rw [eA] at d
      refine thn d λr s6 ax=>?_
      obtain ⟨u,hr,h6⟩:=ax
      subst hr
      refine thn h6 λ_ s7 ay=>?_
      obtain ⟨x,H7,I7,r7,y7,a6,bk⟩:=ay
      have bm:=I7.pinned (M bk) (T.obj _ _ a6)
      have dg:=hg _ s7 τ H7 x u _ bm r7 (step x H7 y7)
      rw [eP,ew,eA,ex] at dg
      refine thn dg λ_ s8 az=>?_
      obtain ⟨O,H8,I8,q8⟩:=az
      have dt:=ht _ s8 O H8 _ I8 q8
      rw [eP,ew,eA,ex] at dt
      refine thn dt λok s9 b0=>?_
      obtain ⟨H9,I9,q9⟩:=b0
      have again:∀ {aa:St} {t:Hp} {s':Shared},Inv l ([] ++ uE f s7.heap) aa t s'->Inv l [] aa t s'/\tn (i + 1) s'.heap/\∀ b ∈ f,t b=none:=λ{aa t s'} Ie=>by
        refine ⟨Ie.unpinned,T.keep _ _ _ a6 λb k o e=>(Ie.pin (b,o) (zMX _ (zMX _ (wF k e)))).1,λb k=>?_⟩
        obtain ⟨o,e,_⟩:=T.obj _ _ a6 b k
        exact (Ie.pin (b,o) (zMX _ (zMX _ (wF k e)))).2.1
      cases ok with
      | false=>
        rw [if_neg zNB] at q9 ⊢
        obtain ⟨m',hm,w9⟩:=hN _ _ _ q9
        obtain ⟨z1,z2,z3⟩:=again I9
        exact ⟨m',hm,i + 1,ys,O,H9,z1,z2,z3,w9⟩
      | true=>
        rw [if_pos rfl] at q9 ⊢
        have de:=he _ s9 O H9 _ I9 q9
        rw [eP,ew,eA,ex] at de
        refine thn de λyv bn b1=>?_
        obtain ⟨y,b2,bo,bp,b3,bq⟩:=b1
        obtain ⟨m',hm,br⟩:=hN _ _ _ bq
        have dm:=xF (X:=l) _ bn O b2 (.ref acc) [y] (.ref acc) [yv] (λv t=>v=.non/\t=upd b2 acc (.lst (ys ++ [y]))) bo rfl (.cons bp .nil) ⟨acc,ys,y,rfl,rfl,b3,be,rfl,rfl⟩
        rw [eP,ew,eA,ex] at dm
        refine thn dm λ_ c0 b4=>?_
        obtain ⟨_,c1,bs,_,_,bt⟩:=b4
        subst bt
        obtain ⟨z1,z2,z3⟩:=again bs
        exact ⟨m',hm,i + 1,ys ++ [y],O,_,z1,z2,z3,br⟩
  have e4:({ newEnv scope a.heap.objs.size X.env.globals (clF X.env scope.names []) X.env.qual none .none (some X.env) builtinsNs with scope:=relabel scope X.env }:Env)=l.env:=by rw [D];rfl
  rw [D] at loop
  have self:=T.self X.A 0 s4 (λbu s'=>codeAny (model X.prog X.w) X.A (.compLoop (.ListComp a3 [⟨tg,iter,a2,0⟩] scope pos) 0 bu (.ref acc) (compEnvC scope (clF X.env scope.names []) a.heap.objs.size X.env)) (compPost (model X.prog X.w) X.A X.xe use R (.ref acc) a.heap.objs.size) s')
    (notedBy (model X.prog X.w) X.A (compEnvC scope (clF X.env scope.names []) a.heap.objs.size X.env) λx s'=>compPost (model X.prog X.w) X.A X.xe use R (.ref acc) a.heap.objs.size (.error x) s') an loop
  exact codeAny_compStart_list loop self
theorem iT
    (S:xN X xs ix scope) (b:∀ Y:Cx,Y.K=X.K->Y.calm=X.calm->Y.A.handled=X.A.handled->Reg Y) (r:PIG Reg X q iter t)
    (u:∀ C d s H,PG (cxC X xs ix scope C d s H) q g) (v:∀ C d s H,PTs (cxC X xs ix scope C d s H) l y) (z:∀ C d s H,PE (cxC X xs ix scope C d s H) n B)
 (I:Inv X qp σ H s) (h:tLC xs ix t g y B σ H Q)
    (fin:∀ acc C o s' m,Q (.ref acc) o->s'.heap.Ns C m->(∀ h',Heap.SameBut C s'.heap h'->∀ D,Inv X qp σ o { s' with heap:=h',toks:=D })->(X.s₀.heap.objs.size <= C/\C ≠ X.env.locals/\(∀ x c,X.env.cells.lookup x=some c->c ≠ C)/\(∀ p ∈ X.pn ++ qp,p.1 ≠ C)/\o C=none)->compPost (model X.prog X.w) X.A X.xe use R (.ref acc) C (.ok .next) s') :
    wpAny (model X.prog X.w) X.A (eval iter X.env) (λx e=>wpAny (model X.prog X.w) X.A (pyIter x) (λE i=>wpAny (model X.prog X.w) X.A (newList []) (λacc j=>
      wpAny (model X.prog X.w) X.A (newFunctionEnv scope X.env.globals (clF X.env scope.names []) [] X.env.qual none .none (some X.env)) (λa k=>
        codeAny (model X.prog X.w) X.A (.compStart (.ListComp n [⟨q,iter,l,0⟩] scope pos) 0 E acc { a with scope:=relabel scope X.env }) (compPost (model X.prog X.w) X.A X.xe use R acc a.locals) k) X.xe j) X.xe i) X.xe e) X.xe s:=
  zBU (λ_ _ _ _ _ _=>False) S b r u v z I h (λ_ _ _ _ _ _ _ _ f=>f.elim) fin
theorem dP
    (S:xN X xs ix scope) (B:X.calm=true) (D:PI X z iter E)
    (G:∀ C b s H,PG (cxC X xs ix scope C b s H) z g) (L:∀ C b s H,PTs (cxC X xs ix scope C b s H) n M) (N:∀ C b s H,PE (cxC X xs ix scope C b s H) o O)
 (I:Inv X qp σ H s) (h:tLC xs ix E g M O σ H Q)
    (fin:∀ acc C d s' m,Q (.ref acc) d->s'.heap.Ns C m->(∀ h',Heap.SameBut C s'.heap h'->∀ U,Inv X qp σ d { s' with heap:=h',toks:=U })->(X.s₀.heap.objs.size <= C/\C ≠ X.env.locals/\(∀ x c,X.env.cells.lookup x=some c->c ≠ C)/\(∀ p ∈ X.pn ++ qp,p.1 ≠ C)/\d C=none)->compPost (model X.prog X.w) X.A X.xe use R (.ref acc) C (.ok .next) s') :
    wpAny (model X.prog X.w) X.A (eval iter X.env) (λx f=>wpAny (model X.prog X.w) X.A (pyIter x) (λt i=>wpAny (model X.prog X.w) X.A (newList []) (λacc j=>
      wpAny (model X.prog X.w) X.A (newFunctionEnv scope X.env.globals (clF X.env scope.names []) [] X.env.qual none .none (some X.env)) (λa l=>
        codeAny (model X.prog X.w) X.A (.compStart (.ListComp o [⟨z,iter,n,0⟩] scope pos) 0 t acc { a with scope:=relabel scope X.env }) (compPost (model X.prog X.w) X.A X.xe use R acc a.locals) l) X.xe j) X.xe i) X.xe f) X.xe s:=
  iT (Reg:=λY=>Y.K=X.K/\Y.calm=true) S (λY k c _=>⟨k,c.trans B⟩)
    (λqp s σ H R I q=>thn (D qp s σ H R I q) λv s1 h1=>thn h1 λa1 s2 h2=>by
      obtain ⟨t,b,tn,J,d,e,I',T,r⟩:=h2
      exact ⟨t,b,tn,J,d,e,I',⟨T.mem,T.obj,T.keep,λY u y r=>T.item Y u y r.1 r.2,λY u y r=>T.done Y u y r.1 r.2,T.self⟩,r⟩) G L N I h fin
theorem zGA
  (S:xN X xs ix scope) (o:X.calm=true) (p:PI X l iter r)
  (t:∀ C a s H,PG (cxC X xs ix scope C a s H) l g) (u:∀ C a s H,PTs (cxC X xs ix scope C a s H) b v) (w:∀ C a s H,PE (cxC X xs ix scope C a s H) d y)
  (z:∀ x,foldedSetIterable iter X.env x=pure x:=by intro _;rfl) :
  PE X (.ListComp d [⟨l,iter,b,0⟩] scope pos) (tLC xs ix r g v y):=by
 intro E s G H Q I h
 have f:∀ n,(n,NameKind.free) ∈ scope.names->(X.env.cells.lookup n).isSome=true:=λn i=>by
  obtain ⟨c,e⟩:=I.ok.has n (S.fre n i)
  rw [e];rfl
 rw [eval_ListComp]
 refine wpAny_comprehension_free (use:=none) rfl z (vA f) S.kind S.loc ?_
 refine dP S o p t u w I h λacc C A B m q i k _=>?_
 exact ⟨m,i,λD j=>⟨.ref acc,A,k D j B.toks,rfl,q⟩⟩
theorem Inv.letgo (I:Inv X qp σ H s) (j:Heap.SameBut C s.heap h')
  (k:X.s₀.heap.objs.size <= C/\C ≠ X.env.locals/\(∀ x c,X.env.cells.lookup x=some c->c ≠ C)/\(∀ p ∈ X.pn ++ qp,p.1 ≠ C)/\H C=none):Inv X qp σ H { s with heap:=h' }:=by
 obtain ⟨l,m,r,t,g⟩:=k
 have same:∀ b,b ≠ C->h'.get? b=s.heap.get? b:=λb d=>j.2 b d
 have ne:∀ {b:Addr},b ∉ [C]->b ≠ C:=λh e=>h (by simp [e])
 have u:Un (frs X.stack) [C] H H s.heap h':=
  ⟨λb o e _ _ n=>(same b (ne n)).trans e,λb o e _ _ n=>⟨o.slots,(same b (ne n)).trans e⟩,λb o _ e _=>e,λb o e n=>⟨o,(same b (ne n)).trans e⟩,λ_ _ e=>e,λ_ _ _ e=>e,λb z e=>⟨#[],by rw [Array.append_empty];exact e⟩⟩
 have f:HOk X.prog X.w H h':=λb o e=>by
  refine (I.hok b o e).stay (λc u v q=>(same c ?_).trans q) (λ_ q=>q) λ_ _ q=>q
  intro i
  rcases v with a | a
  ·rw [<- a,i,g] at e;cases e
  ·rw [i,g] at a;cases a
 refine I.call' (s':={ s with heap:=h' }) (ch:=[C]) rfl u f I.bare λb d=>?_
 have y:b=C:=by simpa using d
 subst y
 exact ⟨.inr l,m,r,t⟩
theorem j8 {X:Cx} {f pos b:Pos}
  (Y:X.N.Nodup) (u:X.N[i]?=some x) (hx:Loc X.env.scope x)
  (S:xN X xs ix scope) (hc:X.calm=true) (hi:PI X t iter wi)
  (hg:∀ C l s H,PG (cxC X xs ix scope C l s H) t g) (ht:∀ C l s H,PTs (cxC X xs ix scope C l s H) j tt) (he:∀ C l s H,PE (cxC X xs ix scope C l s H) o te)
  (y:swapsWith (.ListComp o [⟨t,iter,j,0⟩] scope f) (some (.Name x b)) pos.line X.env=pure true)
  (hf:X.fn x=true \/ X.env.scope.names.lookup x=some .local:=by first | exact .inl rfl | exact .inr rfl | assumption)
  (hs:∀ x,foldedSetIterable iter X.env x=pure x:=by intro _;rfl) :
  PS X (.Assign [.Name x b] (.ListComp o [⟨t,iter,j,0⟩] scope f) pos) (oE (tLC xs ix wi g tt te) (wI i)):=by
 intro U s σ H D I h
 have B:∀ n,(n,NameKind.free) ∈ scope.names->(X.env.cells.lookup n).isSome=true:=λn E=>by
  obtain ⟨c,e⟩:=I.ok.has n (S.fre n E)
  rw [e];rfl
 rw [exec_Assign_Name_used _ _ _ _ y]
 refine wpAny_bind (wpAny_standAt (wpAny_bind ?_))
 rw [arm_evalThenUse_ListComp]
 refine wpAny_bind (thn (Q:=λ_ p=>SP X U D .next p) (wpAny_comprehension_free (g:=⟨t,iter,j,0⟩) (gs:=[]) (use:=some (assign (.Name x b) X.env)) rfl hs (vA B) S.kind S.loc ?_) λ_ s1 h1=>wpAny_pure (wpAny_pure h1))
 refine dP S hc hi hg ht he I h λacc C H' p m q E k G=>?_
 have I':=k p.heap (Heap.SameBut.refl _ _) p.toks
 show wpAny (model X.prog X.w) X.A (assign (.Name x b) X.env (.ref acc)) (λ_ d=>∃ m,d.heap.Ns C m/\∀ J,Heap.SameBut C d.heap J->SP X U D .next { d with heap:=J }) X.xe p
 refine wpAny_assign_Name (qK I' Y u hx (v:=.ref acc) rfl (λd L r=>?_) hf)
 obtain ⟨a,M,O⟩:=r
 refine ⟨m,E.sameBut M ?_,λJ T=>⟨_,H',L.letgo T G,q⟩⟩
 rcases O with rfl | O
 ·exact G.2.1
 ·exact λz=>G.2.2.1 x a O z.symm
noncomputable def Its (x:Str):It:=⟨λi _=>i < x.cps.size,λi H v a=>a=H/\∃ c,x.cps[i]?=some c/\v=.str ⟨#[c]⟩,λi _=>i=x.cps.size⟩
theorem aF {P:Program} {w:World} {K:PySem.W.Frag} {tg:Expr} (it:Addr) (x:Str) (t:Tok) (ty:String)
  (hty:["enumerate","zip","dict_itemiterator","dict_reverseitemiterator","odict_iterator","itertools.zip_longest","itertools.pairwise"].contains ty=false)
  (W:∀ A:Around,A.handled=none->Walks P w A it [it] [it] x.cps.size (SignAt x) (λi h=>h.IsStrIter it ty x t i))
  (self:∀ A i s Q E,s.heap.IsStrIter it ty x t i->Q (.ref it) s->wpAny (model P w) A (pyIter (.ref it)) Q E s) :
  zCS P w K tg (Its x) [it] it (λi h=>h.IsStrIter it ty x t i) where
 mem:=by simp
 obj:=λi h st b hb=>by
  have e:b=it:=by simpa using hb
  subst e
  obtain ⟨o,e,c,d⟩:=st
  exact ⟨o,e,λv z=>by rw [d] at z;cases z⟩
 keep:=λi h h' st k=>let ⟨o,e,r⟩:=st;⟨o,k it (by simp) o e,r⟩
 item:=by
  intro X hP hw hK hc i qp s σ H E I hf st hg
  subst hP hw hK
  obtain ⟨f0,f1,f2,f3,f4,f5⟩:=hf it (by simp)
  refine (W X.A (I.ok.hd hc)).item i s _ _ hg st λv h' tk hv st' kk=>?_
  obtain ⟨c,u,hcx,rfl⟩:=hv
  have I1:Inv X qp σ H { s with heap:=h',toks:=tk }:=I.turned (λb o hb e=>kk b o (by simpa using hb) e) f0 f1 f3 f4 f5
  obtain ⟨o,e,c',d⟩:=id st'
  exact ⟨_,rfl,dW (s:={ s with heap:=h',toks:=tk }) e c' d hty ⟨.str ⟨#[c]⟩,H,I1,⟨u,rfl⟩,⟨rfl,c,hcx,rfl⟩,st',λb hb=>(hf b hb).1⟩⟩
 done:=by
  intro X hP hw hK hc i qp s σ H E I hf st hg
  subst hP hw hK
  obtain ⟨f0,f1,f2,f3,f4,f5⟩:=hf it (by simp)
  have hg':i=x.cps.size:=hg
  subst hg'
  exact (W X.A (I.ok.hd hc)).done s _ _ st λh' tk kk=>⟨rfl,I.turned (λb o hb e=>kk b o (by simpa using hb) e) f0 f1 f3 f4 f5⟩
 self:=self
section
variable {X:Cx} {tg:Expr}
noncomputable def iStr (a:TE):TI:=λb H R=>a b H λx c=>∃ z,x=.str z/\R (Its z) c
theorem zA2 {l:Expr} {k:TE} (r:PE X l k):PI X tg l (iStr k):=by
 intro m s n H R I h
 refine thn (r m s n H _ I h) λv a c=>?_
 obtain ⟨x,u,d,y,B⟩:=c
 obtain ⟨z,e,q⟩:=B
 subst e
 obtain ⟨t,rfl⟩:=(show ∃ t,v=Value.str z t from y)
 have fin:∀ o ty,o.cls=.type ty->o.data=.fields #[.str z t,.int 0 0] ->
   ["enumerate","zip","dict_itemiterator","dict_reverseitemiterator","odict_iterator","itertools.zip_longest","itertools.pairwise"].contains ty=false ->
   o.isFreed=false ->
   (∀ A:Around,A.handled=none->Walks X.prog X.w A a.heap.objs.size [a.heap.objs.size] [a.heap.objs.size] z.cps.size (SignAt z) (λi h=>h.IsStrIter a.heap.objs.size ty z t i)) ->
   (∀ A i s Q E,s.heap.IsStrIter a.heap.objs.size ty z t i->Q (.ref a.heap.objs.size) s->wpAny (model X.prog X.w) A (pyIter (.ref a.heap.objs.size)) Q E s) ->
   PIE X m n tg R (.ref a.heap.objs.size) { a with heap:=a.heap.push o }:=λo ty C D G f W self=>by
  refine ⟨a.heap.objs.size,[a.heap.objs.size],_,_,u,rfl,d.kept (t':=a.toks) λb o e=>Heap.get?_push_of_some _ e,aF _ z t ty G W self,⟨o,Heap.get?_push_size _ f,C,D⟩,λb J=>?_,q⟩
  have e:b=a.heap.objs.size:=by simpa using J
  subst e
  exact d.fpOk (zMS _) (d.hok.fresh (zMS _))
 cases p:z.cps.all (· < 128)
 ·exact wpAny_pyIter_wide p (fin _ "str_iterator" rfl rfl (by decide) rfl (λA g=>Walks.strWide g _ z t) λ_ _ _ _ _ st j=>wpAny_pyIter_striter_wide st j)
 ·exact wpAny_pyIter_ascii p (fin _ "str_ascii_iterator" rfl rfl (by decide) rfl (λA g=>Walks.strAscii g _ z t) λ_ _ _ _ _ st j=>wpAny_pyIter_striter_ascii st j)
theorem iW {A:Around} (h:A.handled=none):A.in1.handled=none:=h
theorem b6 {ys:List Bool} {its:List Value} (r:yH (ys.map V.bl) its) {i:Nat} {v:Value} (h:its[i]?=some v):∃ b,ys[i]?=some b/\v=.bool b:=by
 have c:=r.length
 rw [zMJ] at c
 have e:=(zML.mp h).1
 obtain ⟨u,a,d⟩:=r.get (i:=i) (x:=V.bl (ys[i]'(by omega))) (by rw [zMP,zMK (by omega)];rfl)
 rw [h] at a
 cases a
 exact ⟨_,zMK (by omega),d⟩
theorem cP (ys:List Bool):(List.range ys.length).all (λi=>ys.getD i false)=ys.all id:=by
 have e:ys=(List.range ys.length).map (λi=>ys.getD i false):=by
  apply List.ext_getElem (by simp)
  intro i a b
  simp [zMO,zMK a]
 conv=>rhs;rw [e]
 rw [List.all_map];rfl
theorem sG (g:X.calm=true):vU X (.builtin "all") (λxs H Q=>∃ (p:Addr) (ys:List Bool),xs=[.ref p]/\SqL X.K H p (ys.map V.bl)/\Q (.bl (ys.all id)) H):=by
 intro C s D H xs E Q I r h
 obtain ⟨p,ys,rfl,j,q⟩:=h
 obtain ⟨u,rfl,k⟩:=r.one
 cases k
 obtain ⟨a,f,c,G⟩:=I.list j
 have l:=f.length
 rw [zMJ] at l
 refine call_all_walk (wpAny_pyIter_list c.isList ?_)
 have m:p < s.heap.objs.size:=by obtain ⟨o,d,_⟩:=c.isList;exact Heap.lt_size d
 refine ⟨s.heap.objs.size,_,_,_,_,_,λi=>ys.getD i false,rfl,Walks.list (iW (I.ok.hd g)) _ p (zNA m) a.toArray,⟨⟨_,Heap.get?_push_size _ rfl,rfl,rfl⟩,?_⟩,?_,λJ L n=>?_⟩
 ·obtain ⟨o,d,r⟩:=c.isList
  exact ⟨o,Heap.get?_push_of_some _ d,r⟩
 ·intro i v M N O t w
  obtain ⟨b,x,rfl⟩:=b6 f (by simpa using t)
  refine wpAny_truthy_bool ?_
  have y:ys.getD i false=b:=by rw [zMO,x];rfl
  rw [<- y];exact w
 ·refine ⟨.bl (ys.all id),H,I.kept λb o e=>n b o ?_ (Heap.get?_push_of_some _ e),?_,q⟩
  ·intro z;have A:b=s.heap.objs.size:=by simpa using z
   exact zNA (Heap.lt_size e) A
  ·have B:a.toArray.size=ys.length:=by simp;omega
   rw [B,cP];rfl
theorem yO:vU X (.builtin "isinstance") (λxs H Q=>∃ x t T b,xs=[x,.ty T]/\qF X.K H x t/\W.kitOne X.K t (.type T)=some b/\Q (.bl b) H):=by
 intro f s g H xs i Q I r h
 obtain ⟨x,t,T,b,rfl,ty,e,q⟩:=h
 obtain ⟨u,v,rfl,a,c⟩:=r.two
 cases c
 exact bH I a ty e λd=>⟨.bl b,H,I.tok d,rfl,q⟩
noncomputable def rSlS:V->Option Int->Option Int->Hp->VK->Prop:=λx lo a H Q=>∃ z,x=.str z/\z.length <= sizeLine/\Q (.str (Txt.slice z lo a)) H
theorem kF:SlR X rSlS:=by
 intro k s m H x v n o lo d p Q I r y B f h
 obtain ⟨z,rfl,C,q⟩:=h
 obtain ⟨t,rfl⟩:=(show ∃ t,v=Value.str z t from r)
 refine ⟨"str",_,F.slot_str_getitem.lookup,typeIs_str _ _ _,?_⟩
 have key:∀ l u,n=partValue l->o=partValue u->lo=l.map (·.1)->d=u.map (·.1) ->
   wpAny (model X.prog X.w) X.A (getItem (.str z t) (.ref p)) (EP X k m Q) X.xe s:=by
  intro l u D E G J
  subst D E
  refine wpAny_getItem_str_slice (l:=l) (u:=u) (st:=none) y rfl ?_
  unfold sliceMade
  have a:Txt.slice z lo d=if (((none:Option (Int × Tok)).map (·.1)).getD 1 == 1 && (slicePicked z l u none).length == z.length)=true then z else ⟨((slicePicked z l u none).filterMap (z.cps[·]?)).toArray⟩:=by
   rw [G,J];rfl
  split
  ·rename_i c
   rw [if_pos c] at a
   rw [a] at q
   exact ⟨.str z,H,I,⟨t,rfl⟩,q⟩
  ·rename_i c
   rw [if_neg c] at a
   rw [a] at q
   have b:=Txt.slice_le z lo d
   rw [a] at b
   exact ⟨zMU b C,.str _,H,I.tok _,⟨_,rfl⟩,q⟩
 cases B with
 | none=>
  cases f with
  | none=>exact key none none rfl rfl rfl rfl
  | int j e=>exact key none (some (j,e)) rfl rfl rfl rfl
 | int i g=>
  cases f with
  | none=>exact key (some (i,g)) none rfl rfl rfl rfl
  | int j e=>exact key (some (i,g)) (some (j,e)) rfl rfl rfl rfl
theorem lX:∀ {ys:List Str} {us:List Value},yH (ys.map V.str) us->StrsAre us ys
 | [],_,.nil=>.nil
 | y :: ys,_,.cons r t=>by
  obtain ⟨k,rfl⟩:=r
  exact .cons y k (lX t)
theorem zEI:MtR X "str.join" (λx xs H Q=>∃ z p ys,x=.str z/\xs=[.ref p]/\SqL X.K H p (ys.map V.str)/\(ys.map (·.length)).sum + ys.length * z.length <= 16777216/\Q (.str (Txt.join z ys)) H):=by
 intro l s m H x xs v n Q I a b h
 obtain ⟨z,p,ys,rfl,rfl,c,d,q⟩:=h
 obtain ⟨t,rfl⟩:=(show ∃ t,v=Value.str z t from a)
 obtain ⟨u,rfl,e⟩:=b.one
 cases e
 obtain ⟨f,g,i,o⟩:=I.list c
 exact join_list i.isList (lX (by simpa using g)) d λj k=>⟨.str _,H,I.tok k,⟨j,rfl⟩,q⟩
theorem zA9:OpR X (binaryOp .FloorDiv) (rI (λ_ j=>0 < j/\j < 2 ^ 62) λi j=>.int (i / j)):=opI λi j _ _ _ _ _ b q=>by
 have d:(0:Int) < j:=b.1
 have e:j < 2 ^ 62:=b.2
 have a:j.natAbs.log2 < 9000:=by
  have c:j.natAbs ≠ 0:=by omega
  have f:j.natAbs.log2 < 62:=(Nat.log2_lt c).mpr (by omega)
  omega
 exact floordiv_int (by omega) (by rw [Int.fdiv_eq_ediv_of_nonneg i (by omega)];exact q) (.inl (PyProof.noPylong_of_log2 a))
end
structure yM (K:W.Frag) (mg:Str->Option Value) (x:Str) (st:Stmt) (ps:List Str):Prop where
 ex:∃ (f:Addr) (fd:FuncData),Fun K x x st f fd/\mg x=some (.ref f)/\uX K fd ps []
structure Cal (P:Program) (w:World) (K:W.Frag) (mg:Str->Option Value) (base:Heap) (CX:CXT) (k:Nat) (x:Str) (ps:List Str) (sp:Sp):Prop where
 ex:∃ (f:Addr) (fd:FuncData),tJ P w K mg base CX k f fd ps sp/\mg x=some (.ref f)/\W.keepIn K (.ref f)=true/\uX K fd ps []
section
variable {P:Program} {w:World} {K:W.Frag} {mg:Str->Option Value} {base:Heap}
theorem yM.ok {x:Str} {st:Stmt} {N ps:List Str} {k:Nat} {sp:Sp} (G:yM K mg x st ps) (S:zO N ps (zG st)) (len:∀ vs H Q E,sp vs H Q E->vs.length=ps.length)
  (c:∀ f b A a s H vs Q E,z6 k (A.deeper (envOfC x (zG st) s.heap.objs.size f b))->sp vs H Q E ->
   ∃ t,PSs (uR CX0 P w K mg base N x (zG st) f b A a s H E).nox (y8 st) t/\t { nx:=λ_ d=>Q .non d,rt:=Q } (start N vs) H):Cal P w K mg base CX0 (k + 1) x ps sp:=by
 obtain ⟨f,fd,F,e,g⟩:=G.ex
 exact ⟨f,fd,F.ok S len λb A a s H vs Q E i h=>c f b A a s H vs Q E i h,e,F.kp,g⟩
theorem zEU {h:Heap} {x:Str} {st:Stmt} {f:Addr} {i:Value} {j e:Option Addr} {g:Array (Option Value)} {kV d pm b ct:Value} {ps:List Str} (X:K.In h) (G:h.Ns mainGlobals mg)
  (a:W.nsIn K mainGlobals x=some (some (.ref f)))
  (l:K.lookup f=some ⟨i,j,.func (W.fnOf x x (vI st) (y8 st) (zG st) .none kV d pm e b ct),g⟩) (c:W.codeIn K b x=true) (k:W.keepIn K (.ref f)=true)
  (m:∀ kV d pm e b ct us,us.length=ps.length->bindArgs (W.fnOf x x (vI st) (y8 st) (zG st) .none kV d pm e b ct) ⟨us,[]⟩=pure (ps.zip us)):yM K mg x st ps:=
 ⟨f,_,rF l c k,W.mg_of X G a,(rF l c k).binds m⟩
end
section
variable {X:Cx} {CX:CXT} {k:Nat} {ps:List Str} {sp:Sp} {E:XK} {x:Str} {p pos:Pos} {e:Expr} {es:List Expr} {t:TA}
theorem zN (C:Cal X.prog X.w X.K X.mg X.base CX0 k x ps sp) (c:z6 k X.A) (d:PA X (e :: es) t) (f:Gl X x:=by rfl)
  (a:(x == ("__debug__" : Str))=false:=by decide) (g:starEach (e :: es) X.env=(false,eval e X.env) :: starEach es X.env:=by rfl) (b:(backTo pos (starEach es X.env)).any (·.1)=false:=by rfl) :
  PE X (.Call (.Name x p) (e :: es) [] pos) (mY sp [] E0 t):=
 let ⟨_,_,F,h,i,j⟩:=C.ex
 dE F c f h i j .nil dG d a g b
structure Blt (mg:Str->Option Value) (x:Str):Prop where
 no:mg x=none
theorem zY {id:String} {r:List V->Hp->VK->Prop} (d:vU X (.builtin id) r) (b:Blt X.mg x) (f:bootBuiltins x=some (.builtin id)) (g:PA X (e :: es) t) (h:Gl X x:=by rfl) (i:x ≠ "__name__":=by decide) (a:(x == ("__debug__" : Str))=false:=by decide)
  (j:starEach (e :: es) X.env=(false,eval e X.env) :: starEach es X.env:=by rfl) (c:(backTo pos (starEach es X.env)).any (·.1)=false:=by rfl) :
  PE X (.Call (.Name x p) (e :: es) [] pos) (tCB r t):=zA7 d h b.no f g i a j c
theorem vE (b:Blt X.mg x) (a:bootBuiltins x=some (.type T)) (c:Gl X x:=by rfl) (d:x ≠ "__name__":=by decide) (hd:(x == ("__debug__" : Str))=false:=by decide):PE X (.Name x pos) (tC (.ty T)):=
 zD2 c b.no a rfl d hd
end
noncomputable def zE (S:List Addr) (H a:Hp):Prop:=∀ b o,b ∉ S->H b=some o->a b=some o
theorem zE.z {H b:Hp} {a:PySem.Addr} {o:HO} (k:zE [] H b) (h:H a=some o):b a=some o:=k _ _ zND h
theorem zE.refl (H:Hp):zE S H H:=λ_ _ _ h=>h
theorem zE.trans (a:zE S H H1) (b:zE S H1 d):zE S H d:=λc o n h=>b c o n (a c o n h)
theorem zE.mono (a:zE S H H1) (h:∀ b ∈ S,b ∈ S'):zE S' H H1:=λc o n q=>a c o (λz=>n (h c z)) q
theorem zE.new (h:H p=none):zE S H (upd H p o):=λb u _ q=>by rw [zK (zI q h)];exact q
theorem zE.at (h:p ∈ S):zE S H (upd H p o):=λb u n q=>by
 rw [zK (λz=>n (by rw [z];exact h))];exact q
theorem zE.none (k:zE S H a) (n:l ∉ S) (h:a l=Option.none):H l=Option.none:=by
 cases q:H l with
 | none=>rfl
 | some o=>rw [k l o n q] at h;cases h
theorem zE.same (k:zE [] H a):zIY H a:=λb o h=>k b o (by simp) h
theorem zE.seq {K:W.Frag} {H b:Hp} {a:Addr} {xs:List V} (k:zE [] H b) (h:SqL K H a xs):SqL K b a xs:=k.same.seq h
theorem dQ {J:It} (B:n < sizeLine) (item:Nat->V) (Pv:Nat->List V->St->Hp->Prop)
  (q:Pv 0 [] (stC xs ix σ) (upd H1 acc (.lst [])))
  (f:∀ i ys a H,Pv i ys a H->H acc=some (.lst ys)/\ys.length <= i)
  (j:∀ i ys a H,i < n->Pv i ys a H->J.go i H) (k:∀ i ys a H x h,i < n->Pv i ys a H->J.yld i H x h->h=H/\x=item i) (l:∀ ys a H,Pv n ys a H->J.stop n H)
  (r:∀ i ys a H,i < n->Pv i ys a H->g (item i) a H λc s=>t c s λb H3=>
   if b=true then u c H3 λy o=>o acc=some (.lst ys)/\Pv (i + 1) (ys ++ [y]) c (upd o acc (.lst (ys ++ [y]))) else Pv (i + 1) ys c H3)
  (hd:∀ ys a H,Pv n ys a H->Q (.ref acc) H) :
  LCW J xs ix g t u σ H1 acc Q:=by
 refine ⟨λi m ys a H=>m=n - i/\i <= n/\Pv i ys a H,⟨n,by simp,zMT _,q⟩,?_⟩
 rintro i m ys a H ⟨rfl,C,p⟩
 obtain ⟨v,D⟩:=f i ys a H p
 refine ⟨v,by omega,?_⟩
 by_cases d:i < n
 ·refine .inr ⟨j i ys a H d p,Pv (i + 1),λw z h A=>⟨n - (i + 1),by omega,rfl,d,A⟩,λx h y=>?_⟩
  obtain ⟨rfl,rfl⟩:=k i ys a H x h d p y
  exact r i ys a _ d p
 ·have e:i=n:=by omega
  subst e
  exact .inl ⟨l ys a H p,hd ys a H p⟩
theorem zBR {xs:List Str} {ix:List Nat} {g:TG} {e:TT} {f:TE} {lo:Int} {n:Nat} {σ:St} {H1:Hp} {Q:VK} {acc:Addr} (k:n < sizeLine) (Pv:Nat->List V->St->Hp->Prop)
  (l:Pv 0 [] (stC xs ix σ) (upd H1 acc (.lst [])))
  (d:∀ i ys c H,Pv i ys c H->H acc=some (.lst ys)/\ys.length <= i)
  (m:∀ i ys c H,i < n->Pv i ys c H->g (.int (lo + i)) c H λa o=>e a o λb H3=>
   if b=true then f a H3 λy j=>j acc=some (.lst ys)/\Pv (i + 1) (ys ++ [y]) a (upd j acc (.lst (ys ++ [y]))) else Pv (i + 1) ys a H3)
  (hd:∀ ys c H,Pv n ys c H->Q (.ref acc) H) :
  LCW (Itr lo n) xs ix g e f σ H1 acc Q:=
 dQ k (λi=>.int (lo + i)) Pv l d (λi _ _ _ h _=>h) (λi _ _ _ _ _ _ _ h=>h) (λ_ _ _ _=>zMS n) m hd
theorem zIC {z:Str} (k:z.cps.size < sizeLine) (Pv:Nat->List V->St->Hp->Prop)
  (l:Pv 0 [] (stC xs ix σ) (upd H1 acc (.lst [])))
  (f:∀ i ys d H,Pv i ys d H->H acc=some (.lst ys)/\ys.length <= i)
  (m:∀ i ys d H,i < z.cps.size->Pv i ys d H->g (.str ⟨#[z.cps.getD i 0]⟩) d H λa n=>o a n λb H3=>
   if b=true then p a H3 λy j=>j acc=some (.lst ys)/\Pv (i + 1) (ys ++ [y]) a (upd j acc (.lst (ys ++ [y]))) else Pv (i + 1) ys a H3)
  (hd:∀ ys d H,Pv z.cps.size ys d H->Q (.ref acc) H) :
  LCW (Its z) xs ix g o p σ H1 acc Q:=
 dQ k (λi=>.str ⟨#[z.cps.getD i 0]⟩) Pv l f (λi _ _ _ h _=>h) (λi _ _ _ x r _ _ h=>⟨h.1,by
  obtain ⟨_,c,e,q⟩:=h
  rw [q,show z.cps.getD i 0=c by rw [zNI,e];rfl]⟩) (λ_ _ _ _=>rfl) m hd
theorem kZ {K:W.Frag} {a:Addr} {its:List V} {xs:List Str} {ix:List Nat} {g:TG} {j:TT} {k:TE} {σ:St} {H1:Hp} {Q:VK} {acc:Addr} (m:its.length < sizeLine) (Pv:Nat->List V->St->Hp->Prop)
  (n:Pv 0 [] (stC xs ix σ) (upd H1 acc (.lst [])))
  (c:∀ i ys d H,Pv i ys d H->H acc=some (.lst ys)/\ys.length <= i/\SqL K H a its)
  (o:∀ i ys d H x,its[i]?=some x->Pv i ys d H->g x d H λf q=>j f q λb H3=>
   if b=true then k f H3 λy l=>l acc=some (.lst ys)/\Pv (i + 1) (ys ++ [y]) f (upd l acc (.lst (ys ++ [y]))) else Pv (i + 1) ys f H3)
  (hd:∀ ys d H,Pv its.length ys d H->Q (.ref acc) H) :
  LCW (Itl K a) xs ix g j k σ H1 acc Q:=by
 refine dQ m (λi=>its.getD i .non) Pv n (λi ys d H p=>⟨(c i ys d H p).1,(c i ys d H p).2.1⟩) (λi ys d H h p=>⟨its,its[i],(c i ys d H p).2.2,by simp [h]⟩)
  (λi ys d H x r h p y=>⟨y.1,?_⟩) (λys d H p=>⟨its,(c _ ys d H p).2.2,zMS _⟩) (λi ys d H h p=>o i ys d H _ (by simp [zMO,h]) p) hd
 have e:=y.2 its (c i ys d H p).2.2
 rw [zMO,e];rfl
theorem oA {g:TG} {d:TE} {x:V} {f:St} {H:Hp} {R:St->Hp->VK} {N:St->Hp->Prop} (h:g x f H λa c=>d a c (R a c)) :
  g x f H λa c=>sY a c λb H3=>if b=true then d a H3 (R a H3) else N a H3:=by
 have e:(λa c=>sY a c λb H3=>if b=true then d a H3 (R a H3) else N a H3)=λa c=>d a c (R a c):=by
  funext a c
  show (if true=true then d a c (R a c) else N a c)=_
  rw [if_pos rfl]
 rw [e];exact h
theorem sO {xs:List Str} {ix:List Nat} {g:TG} {e:TE} {lo:Int} {n:Nat} {σ:St} {H1:Hp} {Q:VK} {acc:Addr} (f:n < sizeLine) (Pv:Nat->List V->St->Hp->Prop)
  (h:Pv 0 [] (stC xs ix σ) (upd H1 acc (.lst [])))
  (c:∀ i ys b H,Pv i ys b H->H acc=some (.lst ys)/\ys.length <= i)
  (j:∀ i ys b H,i < n->Pv i ys b H->g (.int (lo + i)) b H λa k=>e a k λy d=>d acc=some (.lst ys)/\Pv (i + 1) (ys ++ [y]) a (upd d acc (.lst (ys ++ [y]))))
  (hd:∀ ys b H,Pv n ys b H->Q (.ref acc) H):LCW (Itr lo n) xs ix g sY e σ H1 acc Q:=
 zBR f Pv h c (λi ys b H l p=>oA (R:=λa _=>λy d=>d acc=some (.lst ys)/\Pv (i + 1) (ys ++ [y]) a (upd d acc (.lst (ys ++ [y])))) (j i ys b H l p)) hd
theorem dO {xs:List Str} {ix:List Nat} {g:TG} {e:TE} {z:Str} {σ:St} {H1:Hp} {Q:VK} {acc:Addr} (f:z.cps.size < sizeLine) (Pv:Nat->List V->St->Hp->Prop)
  (h:Pv 0 [] (stC xs ix σ) (upd H1 acc (.lst [])))
  (c:∀ i ys b H,Pv i ys b H->H acc=some (.lst ys)/\ys.length <= i)
  (j:∀ i ys b H,i < z.cps.size->Pv i ys b H->g (.str ⟨#[z.cps.getD i 0]⟩) b H λa k=>e a k λy d=>d acc=some (.lst ys)/\Pv (i + 1) (ys ++ [y]) a (upd d acc (.lst (ys ++ [y]))))
  (hd:∀ ys b H,Pv z.cps.size ys b H->Q (.ref acc) H):LCW (Its z) xs ix g sY e σ H1 acc Q:=
 zIC f Pv h c (λi ys b H l p=>oA (R:=λa _=>λy d=>d acc=some (.lst ys)/\Pv (i + 1) (ys ++ [y]) a (upd d acc (.lst (ys ++ [y])))) (j i ys b H l p)) hd
theorem uP {K:W.Frag} {a:Addr} {its:List V} {xs:List Str} {ix:List Nat} {g:TG} {f:TE} {σ:St} {H1:Hp} {Q:VK} {acc:Addr} (h:its.length < sizeLine) (Pv:Nat->List V->St->Hp->Prop)
  (j:Pv 0 [] (stC xs ix σ) (upd H1 acc (.lst [])))
  (d:∀ i ys c H,Pv i ys c H->H acc=some (.lst ys)/\ys.length <= i/\SqL K H a its)
  (k:∀ i ys c H x,its[i]?=some x->Pv i ys c H->g x c H λb l=>f b l λy e=>e acc=some (.lst ys)/\Pv (i + 1) (ys ++ [y]) b (upd e acc (.lst (ys ++ [y]))))
  (hd:∀ ys c H,Pv its.length ys c H->Q (.ref acc) H):LCW (Itl K a) xs ix g sY f σ H1 acc Q:=
 kZ h Pv j d (λi ys c H x m p=>oA (R:=λb _=>λy e=>e acc=some (.lst ys)/\Pv (i + 1) (ys ++ [y]) b (upd e acc (.lst (ys ++ [y])))) (k i ys c H x m p)) hd
section
variable {X:Cx}
noncomputable def gT:R2:=λx y H Q=>∃ p a i v,x=.ref p/\y=.int i/\H p=some (.lst a)/\atI a i=some v/\Q v H
theorem zV:IxR X gT:=λvalue slice f s g H x y v u Q I h j k l=>by
 obtain ⟨p,m,i,z,a,b,c,d,e⟩:=k
 exact dR value slice f s g H x y v u Q I h j ⟨p,m,i,z,a,b,.of c,d,e⟩ l
noncomputable def j7:R2:=λx y H Q=>∃ p a i v,x=.ref p/\y=.int i/\H p=some (.tup a)/\atI a i=some v/\Q v H
theorem z4:IxR X j7:=λvalue slice f s g H x y v u Q I h j k l=>by
 obtain ⟨p,m,i,z,a,b,c,d,e⟩:=k
 exact zII value slice f s g H x y v u Q I h j ⟨p,m,i,z,a,b,.of c,d,e⟩ l
end
noncomputable def sI (N:List Str) (sc:Scope) (xs:List Str) (ix:List Nat) (scope:Scope):Prop:=
 scope.kind=.function/\(∀ y ∈ scope.names,y.2 ≠ .cell)/\(∀ y ∈ scope.names,y.2=.local->scope.names.lookup y.1=some .local) /\
 (∀ y ∈ scope.names,y.2=.free->sc.names.lookup y.1=some .cell \/ sc.names.lookup y.1=some .free)/\(∀ x ∈ xs,scope.names.lookup x=some .local) /\
 (xs ++ ix.map (λi=>N.getD i "")).Nodup/\(∀ i ∈ ix,i < N.length)/\(∀ i ∈ ix,scope.names.lookup (N.getD i "")=some .free)
instance {N:List Str} {sc:Scope} {xs:List Str} {ix:List Nat} {scope:Scope}:Decidable (sI N sc xs ix scope):=by unfold sI;infer_instance
theorem sI.at {X:Cx} (S:sI N sc xs ix scope) (j:X.N=N) (i:X.env.scope=sc):xN X xs ix scope:=by
 obtain ⟨a,b,c,d,e,f,g,h⟩:=S
 subst j i
 exact ⟨a,b,c,λn k=>d (n,.free) k rfl,e,f,g,h⟩
theorem vX
  (f:sI N sc [x] ix scope) (g:PI X (.Name x h) iter i)
  (j:∀ C a s H,PTs (cxC X [x] ix scope C a s H) b k) (l:∀ C a s H,PE (cxC X [x] ix scope C a s H) c m)
  (n:X.N=N:=by rfl) (d:X.env.scope=sc:=by rfl) (o:X.calm=true:=by rfl)
  (p:∀ x,foldedSetIterable iter X.env x=pure x:=by intro _;rfl) :
  PE X (.ListComp c [⟨.Name x h,iter,b,0⟩] scope pos) (tLC [x] ix i (wI 0) k m):=by
 have S:=f.at (X:=X) n d
 have e:∀ C a s H,(cxC X [x] ix scope C a s H).env.scope.names.lookup x=some .local:=λ_ _ _ _=>lookup_relabel_local (S.own x (by simp))
 exact zGA S o g (λC a s H=>yL S.nd rfl (Or.inl (e C a s H)) (.inr (e C a s H))) j l p
theorem qP {X:Cx} {f a pos b:Pos}
  (g:X.N.Nodup) (h:X.N[i]?=some y) (hx:Loc X.env.scope y)
  (m:sI N sc [x] ix scope) (n:PI X (.Name x f) iter o)
  (p:∀ C c s H,PTs (cxC X [x] ix scope C c s H) d q) (r:∀ C c s H,PE (cxC X [x] ix scope C c s H) e t)
  (u:X.N=N:=by rfl) (j:X.env.scope=sc:=by rfl) (v:X.calm=true:=by rfl)
  (k:swapsWith (.ListComp e [⟨.Name x f,iter,d,0⟩] scope a) (some (.Name y b)) pos.line X.env=pure true:=by rfl)
  (w:X.fn y=true \/ X.env.scope.names.lookup y=some .local:=by first | exact .inl rfl | exact .inr rfl | assumption)
  (z:∀ x,foldedSetIterable iter X.env x=pure x:=by intro _;rfl) :
  PS X (.Assign [.Name y b] (.ListComp e [⟨.Name x f,iter,d,0⟩] scope a) pos) (oE (tLC [x] ix o (wI 0) q t) (wI i)):=by
 have S:=m.at (X:=X) u j
 have l:∀ C c s H,(cxC X [x] ix scope C c s H).env.scope.names.lookup x=some .local:=λ_ _ _ _=>lookup_relabel_local (S.own x (by simp))
 exact j8 g h hx S v n (λC c s H=>yL S.nd rfl (Or.inl (l C c s H)) (.inr (l C c s H))) p r k w z
theorem pY (x y:Str):(x ++ y).length=x.length + y.length:=by
 show (x.cps ++ y.cps).size=_
 simp [Str.length]
theorem zE.drop (k:zE (a :: S) H c) (h:H a=Option.none):zE S H c:=λb o n q=>k b o (λz=>(List.mem_cons.mp z).elim (λe=>by rw [e,h] at q;cases q) n) q
theorem zU (h:upd H p o a=Option.none):H a=Option.none/\a ≠ p:=by
 by_cases e:a=p
 ·rw [e,zC] at h;cases h
 ·rw [zK e] at h;exact ⟨h,e⟩
theorem zB0 (ys:List Str):(Txt.join (Str.ofString "") ys).length=(ys.map (·.length)).sum:=by
 show (Builtin.Str.glued (Str.ofString "") ys).length=_
 rw [size_glued]
 show _ + (ys.length - 1) * 0=_
 omega
theorem jR:∀ (ys:List Str),(∀ z ∈ ys,z.length=1)->(ys.map (·.length)).sum=ys.length
 | [],_=>rfl
 | y :: ys,h=>by
  rw [List.map_cons,List.sum_cons,h y zNC,jR ys λz a=>h z (zMW _ a),zM4]
  omega
end L2
namespace L2
theorem uU {b:Type} {xs:List b} {i:Int} (c:0 <= i) (d:i < xs.length):∃ v,atI xs i=some v/\xs[i.toNat]?=some v:=by
 have a:i.toNat < xs.length:=by omega
 refine ⟨xs[i.toNat],?_,zMK a⟩
 have e:=uJ (zMK a)
 rwa [Int.toNat_of_nonneg c] at e
end L2
namespace L2
open PySem PySem.Spec PyProof.Rows
structure Glo (mg:Str->Option Value) (x:Str) (v:V):Prop where
 ex:∃ u,mg x=some u/\yU v u
theorem vM {X:Cx} (g:Glo X.mg x v) (a:Gl X x:=by rfl) (hd:(x == ("__debug__" : Str))=false:=by decide):PE X (.Name x pos) (tC v):=
 let ⟨_,b,r⟩:=g.ex
 zD0 a b r hd
inductive yF (K:W.Frag) (H:Hp):V->String->Prop where
 | non:yF K H .non "NoneType"
 | bl (x:Bool):yF K H (.bl x) "bool"
 | int (i:Int):yF K H (.int i) "int"
 | str (x:Str):yF K H (.str x) "str"
 | lst {a:Addr} {xs:List V} (e:H a=some (.lst xs)):yF K H (.ref a) "list"
 | tup {a:Addr} {xs:List V} (e:H a=some (.tup xs)):yF K H (.ref a) "tuple"
 | dK {a:Addr} {kvs:List (Key × V)} (e:H a=some (.dK kvs)):yF K H (.ref a) "dict"
theorem yF.ty {K:W.Frag} {H:Hp} {x:V} {T:String} (h:yF K H x T):qF K H x (.type T):=by
 cases h with
 | non=>exact .non
 | bl b=>exact .bl b
 | int i=>exact .int i
 | str z=>exact .str z
 | lst e=>exact .lst e
 | tup e=>exact .tup e
 | dK e=>exact .dK e
theorem yF.kit {K:W.Frag} {H:Hp} {x:V} {T:String} (h:yF K H x T):W.kitOne K (.type T) (.type "str")=some (T == "str")/\W.kitOne K (.type T) (.type "int")=some (T == "int" || T == "bool") /\
  W.kitOne K (.type T) (.type "bool")=some (T == "bool")/\W.kitOne K (.type T) (.type "list")=some (T == "list")/\W.kitOne K (.type T) (.type "tuple")=some (T == "tuple"):=by
 cases h <;> exact ⟨rfl,rfl,rfl,rfl,rfl⟩
theorem yF.keep {K:W.Frag} {H a:Hp} {x:V} {T:String} (h:yF K H x T) (k:zE [] H a):yF K a x T:=by
 cases h with
 | non=>exact .non
 | bl b=>exact .bl b
 | int i=>exact .int i
 | str z=>exact .str z
 | lst e=>exact .lst (k.z e)
 | tup e=>exact .tup (k.z e)
 | dK e=>exact .dK (k.z e)
noncomputable abbrev abc:Str:="abcdefghijklmnopqrstuvwxyz"
noncomputable def vH (c:Nat):Bool:=!(Builtin.Str.occurrences abc ⟨#[c]⟩ 0 abc.length 1).isEmpty
noncomputable def vQ (z:Str):Bool:=decide (1 <= z.length) && decide (z.length <= 8) && z.cps.toList.all vH
noncomputable def xB:V->Bool
 | .str z=>vQ z
 | _=>false
noncomputable def zGR:V->Bool
 | .int _=>true
 | _=>false
theorem mB {a:Type} (l:List a) (f:a->Bool):(l.map f).all id=l.all f:=by rw [List.all_map];rfl
end L2
namespace L2
open PySem
theorem zT:bootBuiltins "isinstance"=some (.builtin "isinstance"):=by decide +kernel
theorem yS:bootBuiltins "len"=some (.builtin "len"):=by decide +kernel
theorem nY:bootBuiltins "all"=some (.builtin "all"):=by decide +kernel
theorem lJ:bootBuiltins "sorted"=some (.builtin "sorted"):=by decide +kernel
theorem zIQ:bootBuiltins "min"=some (.builtin "min"):=by decide +kernel
theorem zCO:bootBuiltins "str"=some (.type "str"):=by decide +kernel
theorem tX:bootBuiltins "int"=some (.type "int"):=by decide +kernel
theorem u5:bootBuiltins "bool"=some (.type "bool"):=by decide +kernel
theorem vR:bootBuiltins "list"=some (.type "list"):=by decide +kernel
theorem nX:bootBuiltins "tuple"=some (.type "tuple"):=by decide +kernel
theorem zIP:bootBuiltins "set"=some (.type "set"):=by decide +kernel
theorem hI:bootBuiltins "range"=some (.type "range"):=by decide +kernel
end L2
namespace L2
theorem ifF {c:Bool} {A B:Prop} (h:c=false) (k:B):if c=true then A else B:=by rw [h];exact mQ k
theorem ifT {c:Bool} {A B:Prop} (h:c=true) (k:A):if c=true then A else B:=by rw [h];exact nF k
end L2
namespace L2
open PySem PySem.Spec PyProof.Rows
noncomputable def eqT (xs ys:List V):Bool:=xs.length == ys.length && (List.zipWith eqV xs ys).all id
theorem iZ (f:xA x=true):eqV x x=true:=by
 cases x with
 | non=>rfl
 | bl b=>cases b <;> rfl
 | int i=>show (i == i)=true;simp
 | str z=>show (z == z)=true;simp
 | _=>exact absurd (show false=true from f) zNB
theorem lS:∀ xs ys,(List.zipWith eqV xs ys).all id=(List.range (min xs.length ys.length)).all λj=>eqV (xs.getD j .non) (ys.getD j .non)
 | [],_=>by simp
 | _ :: _,[]=>by simp
 | x :: xs,y :: ys=>by
  have e:min (x :: xs).length (y :: ys).length=min xs.length ys.length + 1:=by simp [Nat.succ_min_succ]
  rw [e,List.range_succ_eq_map,List.all_cons,List.all_map,List.zipWith_cons_cons,List.all_cons,lS xs ys]
  rfl
theorem zCB:∀ {xs:List V},xs.all xA=true->eqT xs xs=true:=λ{xs} f=>by
 unfold eqT
 rw [beq_self_eq_true,Bool.true_and,lS,List.all_eq_true]
 intro j b
 have a:j < xs.length:=by have:=List.mem_range.mp b;omega
 rw [zMO,zMK a]
 exact iZ (List.all_eq_true.mp f _ (List.getElem_mem a))
section
variable {X:Cx}
theorem zCC {A:Around} (I:Inv X qp σ H s) (m:SqT X.K H a xs) (n:SqT X.K H b ys) (f1:xs.all xA=true) (f2:ys.all xA=true)
  (t:A.units < cLine):SeqAt.EqAt A s (.ref a) (.ref b) (eqT xs ys):=by
 by_cases e:a=b
 ·subst e
  have w:=I.tuple_inj m n
  subst w
  rw [zCB f1]
  exact SeqAt.EqAt.same _
 ·obtain ⟨c,o,x,_⟩:=I.tuple m
  obtain ⟨d,p,y,_⟩:=I.tuple n
  have z:=o.length
  have B:=p.length
  have key:=SeqAt.RcAt.tuples (A:=A) (s:=s) (l:=a) (b:=b) (e:=λj=>eqV (xs.getD j .non) (ys.getD j .non)) (show s.heap.IsTuple a c.toArray from x) (show s.heap.IsTuple b d.toArray from y) t (λj g1 g2=>by
   have f:j < c.length:=by simpa using g1
   have g:j < d.length:=by simpa using g2
   obtain ⟨u,q,C⟩:=o.get (i:=j) (zMK (by omega:j < xs.length))
   obtain ⟨v,r,D⟩:=p.get (i:=j) (zMK (by omega:j < ys.length))
   have h:c.toArray[j]=u:=by
    rw [zMK f] at q
    simpa using zMQ q
   have k:d.toArray[j]=v:=by
    rw [zMK g] at r
    simpa using zMQ r
   rw [h,k]
   have E:xs.getD j .non=xs[j]'(by omega):=by rw [zMO,zMK (by omega)];rfl
   have G:ys.getD j .non=ys[j]'(by omega):=by rw [zMO,zMK (by omega)];rfl
   show SeqAt.EqAt _ _ _ _ (eqV (xs.getD j .non) (ys.getD j .non))
   rw [E,G]
   exact jC C D (List.all_eq_true.mp f1 _ (List.getElem_mem _)) (List.all_eq_true.mp f2 _ (List.getElem_mem _)))
  have J:eqT xs ys=((List.range (min c.toArray.size d.toArray.size)).all (λj=>eqV (xs.getD j .non) (ys.getD j .non)) && c.toArray.size == d.toArray.size):=by
   unfold eqT
   rw [lS,zMR,zMR,<- z,<- B,Bool.and_comm]
  rw [J]
  exact SeqAt.EqAt.of_refs e key
noncomputable def Rows (H:Hp) (p:Addr) (rows:List (List V)):Prop:=∃ a:List Addr,H p=some (.lst (a.map V.ref))/\Paired (λq r=>H q=some (.tup r)) a rows
theorem wS {a b:Type} {F:a->b->Prop} {xs:List a} {ys:List b} (h:Paired F xs ys):∀ (i:Nat) (x:a),xs[i]?=some x->∃ y,ys[i]?=some y/\F x y:=by
 induction h with
 | nil=>intro i x h;simp at h
 | cons r _ c=>
  intro i x h
  cases i with
  | zero=>simp at h;subst h;exact ⟨_,rfl,r⟩
  | succ i=>
   obtain ⟨y,d,e⟩:=c i x (by simpa using h)
   exact ⟨y,by simpa using d,e⟩
theorem tR {a b:Type} {F:a->b->Prop}:∀ {xs:List a} {ys:List b} (i:Nat),Paired F xs ys->Paired F (xs.eraseIdx i) (ys.eraseIdx i)
 | _,_,_,.nil=>.nil
 | _,_,0,.cons _ t=>t
 | _,_,i + 1,.cons r t=>.cons r (tR i t)
theorem wP {c d:Type} {F:c->d->Prop} {a:c} {b:d} {xs:List c} {ys:List d} (h:Paired F xs ys) (r:F a b):Paired F (xs ++ [a]) (ys ++ [b]):=by
 induction h with
 | nil=>exact .cons r .nil
 | cons q _ e=>exact .cons q e
theorem zZ {a b:Type} {F:a->b->Prop} {xs:List a} {ys:List b} (h:Paired F xs ys):xs.length=ys.length:=by
 induction h with
 | nil=>rfl
 | cons _ _ c=>exact congrArg Nat.succ c
theorem Rows.keep (h:Rows H p rows) (k:zE [] H a):Rows a p rows:=by
 obtain ⟨b,e,r⟩:=h
 exact ⟨b,k.z e,L2.Paired.mapP r λq x z=>k.z z⟩
theorem pS:∀ {ps:List Addr} {us:List Value},yH (ps.map V.ref) us->us=ps.map Value.ref
 | [],_,.nil=>rfl
 | p :: ps,_,.cons r t=>by cases r;rw [List.map_cons,pS t]
noncomputable def uQ (H:Hp) (xs:List V) (u:Value):Bool:=match u with
 | .ref q=>(match H q with | some (.tup r)=>eqT r xs | _=>false)
 | _=>false
theorem qY:∀ {ps:List Addr} {rows:List (List V)},Paired (λq r=>H q=some (.tup r)) ps rows->(ps.map Value.ref).any (uQ H xs)=rows.any λr=>eqT r xs
 | _,_,.nil=>rfl
 | p :: ps,r :: rows,.cons e t=>by
  rw [List.map_cons,List.any_cons,List.any_cons,qY t]
  have a:uQ H xs (.ref p)=eqT r xs:=by unfold uQ;simp only [e]
  rw [a]
theorem tT {A:Around} (I:Inv X qp σ H s) (b:H t=some (.tup xs)) (c:xs.all xA=true) (d:A.units < cLine) :
  ∀ {ps:List Addr} {rows:List (List V)},Paired (λq r=>H q=some (.tup r)) ps rows->(∀ r ∈ rows,r.all xA=true)->∀ u ∈ ps.map Value.ref,SeqAt.EqAt A s u (.ref t) (uQ H xs u)
 | _,_,.nil,_=>λu a=>by cases a
 | p :: ps,r :: rows,.cons e g,f=>λu a=>by
  rcases List.mem_cons.mp a with rfl | a
  ·have h:uQ H xs (.ref p)=eqT r xs:=by unfold uQ;simp only [e]
   rw [h]
   exact zCC I (.of e) (.of b) (f r zNC) c d
  ·exact tT I b c d g (λi j=>f i (zMW _ j)) u a
noncomputable def zDT (neg:Bool):R2:=λx y H Q=>∃ p t a rows,y=.ref p/\x=.ref t/\Rows H p rows/\H t=some (.tup a)/\a.all xA=true/\(∀ r ∈ rows,r.all xA=true)/\Q (.bl (if neg then !rows.any (λr=>eqT r a) else rows.any λr=>eqT r a)) H
theorem sP {A:Around} (h:A.units + 1 < cLine):A.in1.units < cLine:=by
 have e:A.in1.units=A.units + 1:=rfl
 omega
theorem kW (d:X.A.units + 1 < cLine):OpR X (compareOp .In) (zDT false):=by
 intro z s B H x y v u Q I f g h
 obtain ⟨p,t,a,rows,rfl,rfl,⟨b,i,c⟩,j,k,l,q⟩:=h
 cases g;cases f
 obtain ⟨m,r,n,C⟩:=I.list (.of i)
 have e:=pS r
 subst e
 refine SeqAt.in_listAt (uQ H a) n.isList (λw o=>tT I j k (sP d) c l w (by simpa using o)) ⟨.bl _,H,I,rfl,?_⟩
 rw [show (b.map Value.ref).toArray.any (uQ H a)=(b.map Value.ref).any (uQ H a) by simp,qY c]
 exact q
theorem sK (d:X.A.units + 1 < cLine):OpR X (compareOp .NotIn) (zDT true):=by
 intro z s B H x y v u Q I f g h
 obtain ⟨p,t,a,rows,rfl,rfl,⟨b,i,c⟩,j,k,l,q⟩:=h
 cases g;cases f
 obtain ⟨m,r,n,C⟩:=I.list (.of i)
 have e:=pS r
 subst e
 refine SeqAt.notIn_listAt (uQ H a) n.isList (λw o=>tT I j k (sP d) c l w (by simpa using o)) ⟨.bl _,H,I,rfl,?_⟩
 rw [show (b.map Value.ref).toArray.any (uQ H a)=(b.map Value.ref).any (uQ H a) by simp,qY c]
 exact q
theorem sM {a b:Type} (f:a->b):∀ (l:List a) (j:Nat),(l.map f).eraseIdx j=(l.eraseIdx j).map f
 | [],_=>rfl
 | _ :: _,0=>rfl
 | x :: l,j + 1=>by simp [sM f l j]
theorem pA:∀ ps:List Addr,yH (ps.map V.ref) (ps.map Value.ref)
 | []=>.nil
 | _ :: ps=>.cons rfl (pA ps)
open MeetsSeq in
open AutoSeq1 (wpAny_loadPart') in
theorem cM (l:Addr) (items:Array Value) (n:Nat) (x:Value) (e:Value->Bool) (j:Nat) (t:j < items.size) (hit:e items[j]=true) (o:items.size <= sizeLine) (k:Nat) :
  ∀ i:Nat,j - i=k->i <= j->(∀ m u,i <= m->m < j->e items[m]=false)->Meets (Builtin.«list.remove.loop» ⟨[.ref l,x,rawInt i],[]⟩)
   (λA R s=>s.heap.get? l=some { cls:=.type "list",dict:=none,data:=.seq items n,slots:=#[] }/\(∀ y,y ∈ items->SeqAt.EqAt A.in1 s y x (e y)) /\
    R (.ok (.ret .none)) { s with heap:=s.heap.update l (Obj.mapSeq λxs=>xs.eraseIdxIfInBounds j) }):=by
 induction k with
 | zero=>
  intro i v r c a w A R s h
  obtain ⟨z,g,d,B,os⟩:=s
  obtain ⟨f,q,h⟩:=h
  obtain rfl:i=j:=by omega
  wp_walk using wpAny_loadPart' f
  have b:items[((i:Nat):Int).toNat]?=some items[i]:=by simp [t]
  rw [b]
  refine wpAny_bind (q _ (Array.getElem_mem t) a w _ _ ?_)
  rw [hit]
  have p:=zMU (size_erased items i) (Nat.le_succ_of_le o)
  wp_walk using (wpAny_updateSeq f rfl (hz:=o) (_hz':=p)),wpAny_loadPart' f
  simpa using h
 | succ k C=>
  intro i v r c a w A R s h
  obtain ⟨z,g,d,B,os⟩:=s
  obtain ⟨f,q,h⟩:=h
  have less:i < items.size:=by omega
  wp_walk using wpAny_loadPart' f
  have b:items[((i:Nat):Int).toNat]?=some items[i]:=by simp [less]
  have one:((i:Int) + 1)=((i + 1:Nat):Int):=by push_cast;rfl
  rw [b]
  refine wpAny_bind (q _ (Array.getElem_mem less) a w _ _ ?_)
  rw [c i less (zMS _) (by omega)]
  wp_walk
  rw [one]
  refine ⟨plainId_quiet plain_remove_loop _,codeAny_builtin entry_remove_loop ?_⟩
  rw [Around.under_plainId plain_remove_loop _]
  exact C (i + 1) (by omega) (by omega) (λm u G D=>c m u (by omega) D) a w A R _ ⟨f,q,h⟩
open MeetsSeq in
open AutoSeq1 (wpAny_loadPart') in
theorem zDR (l:Addr) (items:Array Value) (n:Nat) (x:Value) (e:Value->Bool) (j:Nat) (k:j < items.size) (hit:e items[j]=true) (b:∀ m f,m < j->e items[m]=false) (c:items.size <= sizeLine) :
  Meets (Builtin.«list.remove» ⟨[.ref l,x],[]⟩)
   (λA R s=>s.heap.get? l=some { cls:=.type "list",dict:=none,data:=.seq items n,slots:=#[] }/\(∀ y,y ∈ items->SeqAt.EqAt A.in1 s y x (e y)) /\
    R (.ok (.ret .none)) { s with heap:=s.heap.update l (Obj.mapSeq λxs=>xs.eraseIdxIfInBounds j) }):=by
 intro a w A R s h
 obtain ⟨q,g,d,r,os⟩:=s
 obtain ⟨i,o,h⟩:=h
 wp_walk using wpAny_loadPart' i
 refine ⟨plainId_quiet plain_remove_loop _,codeAny_builtin entry_remove_loop ?_⟩
 rw [Around.under_plainId plain_remove_loop _]
 exact cM l items n x e j k hit c _ 0 rfl (zMT _) (λm f _ p=>b m f p) a w A R _ ⟨i,o,h⟩
noncomputable def zKO:V->List V->Hp->VK->Prop:=λx c H Q=>∃ l t a rows j b,x=.ref l/\c=[.ref t]/\H l=some (.lst (b.map V.ref))/\Paired (λq r=>H q=some (.tup r)) b rows/\H t=some (.tup a)/\a.all xA=true/\(∀ r ∈ rows,r.all xA=true) /\
 (∃ r,rows[j]?=some r/\eqT r a=true)/\(∀ m r,m < j->rows[m]?=some r->eqT r a=false)/\Q .non (upd H l (.lst ((b.eraseIdx j).map V.ref)))
theorem o5 (G:X.A.units + 1 < cLine):MtR X "list.remove" zKO:=by
 intro qp s σ H x vs v us Q I J L h
 obtain ⟨l,t,i,rows,j,a,rfl,rfl,C,k,M,N,O,⟨r,D,hit⟩,o,q⟩:=h
 cases J
 obtain ⟨u,rfl,T⟩:=L.one
 cases T
 obtain ⟨z,U,n,Y,hl,e⟩:=I.lstM C
 have ei:=pS Y
 subst ei
 have a0:=zZ k
 have p:j < a.length:=by have:=(zML.mp D).1;omega
 have d:∀ (m:Nat) (g:m < (a.map Value.ref).toArray.size),∃ b,rows[m]?=some b/\uQ H i (a.map Value.ref).toArray[m]=eqT b i:=λm g=>by
  have w:m < a.length:=by simpa using g
  obtain ⟨b,c,f⟩:=wS k m a[m] (zMK w)
  refine ⟨b,c,?_⟩
  have e3:(a.map Value.ref).toArray[m]=Value.ref a[m]:=by simp
  rw [e3];unfold uQ;simp only [f]
 have hz:(a.map Value.ref).toArray.size <= sizeLine:=by rw [zMR,zMJ];rw [zMJ] at z;exact z
 refine call_meets F.slot_list_remove ⟨_,e,rfl⟩ F.entry_list_remove (F.args_list_remove_2 _ _) (zDR l (a.map Value.ref).toArray n (.ref t) (uQ H i) j (by simpa using p) ?_ ?_ hz) ⟨e,?_,?_⟩
 ·obtain ⟨b,c,f⟩:=d j (by simpa using p)
  rw [D] at c;cases c
  rw [f];exact hit
 ·intro m g B
  obtain ⟨b,c,f⟩:=d m g
  rw [f];exact o m b B c
 ·intro y hy
  exact tT I M N (sP G) k O y (by simpa using hy)
 ·refine ⟨.non,_,I.lset (its':=(a.eraseIdx j).map Value.ref) (ys:=(a.eraseIdx j).map V.ref) C e ?_ ?_ ?_,rfl,q⟩
  ·simp [Array.eraseIdxIfInBounds,p,sM]
  ·exact pA _
  ·rw [zMJ] at z ⊢
   exact zMU (tH a j) z
noncomputable def zKP (neg:Bool):R2:=λx y H Q=>∃ a b c,x=.ref a/\y=.ref b/\H a=some (.lst c)/\H b=some (.lst [])/\a ≠ b/\Q (.bl (if neg then !c.isEmpty else c.isEmpty)) H
theorem zHU (c:X.A.units < cLine):OpR X (compareOp .Eq) (zKP false):=by
 intro w s z H x y v u Q I k l h
 obtain ⟨a,b,d,rfl,rfl,m,n,o,q⟩:=h
 cases k;cases l
 obtain ⟨B,f,g,_⟩:=I.list (.of m)
 obtain ⟨C,p,i,_⟩:=I.list (.of n)
 cases p
 cases d with
 | nil=>
  cases f
  exact SeqAt.eq_listAt (e:=λ_=>true) g.isList i.isList rfl c (λj r=>by simp at r) ⟨.bl _,H,I,rfl,q⟩
 | cons x d=>
  have t:=f.length
  refine SeqAt.eq_list_lengthsAt g.isList i.isList ?_ c ⟨.bl false,H,I,rfl,q⟩
  rw [zMR,zMR,<- t]
  rfl
theorem aD:∀ {a:List String} {us:List Value},yH (a.map V.ty) us->us=a.map Value.type
 | [],_,.nil=>rfl
 | _ :: a,_,.cons r t=>by cases r;rw [List.map_cons,aD t]
theorem jH:vU X (.builtin "isinstance") (λxs H Q=>∃ (x:V) (T:String) (p:Addr) (j:List String) (b:Bool),xs=[x,.ref p]/\yF X.K H x T/\H p=some (.tup (j.map V.ty))/\W.kitAny X.K (.type T) (j.map Value.type)=some b/\Q (.bl b) H):=by
 intro E s G H xs us Q I r h
 obtain ⟨x,T,p,j,b,rfl,J,L,e,q⟩:=h
 obtain ⟨u,v,rfl,c,M⟩:=r.two
 cases M
 obtain ⟨N,O,U,_⟩:=I.tuple (.of L)
 have Y:=aD O
 subst Y
 obtain ⟨⟨cls,dd,data,sl⟩,d,C,n,hd⟩:=id U
 simp only at C hd
 subst C hd
 have fin:∀ k,EP X E G Q (.bool b) { s with toks:=k }:=λk=>⟨.bl b,H,I.tok k,rfl,q⟩
 cases J with
 | non=>cases (show u=Value.none from c);exact W.kia_tup W.kitx_none I.kIn True.intro d e (λz=>nomatch z) fin
 | bl y=>cases (show u=Value.bool y from c);exact W.kia_tup W.kitx_bool I.kIn True.intro d e (λz=>nomatch z) fin
 | int i=>obtain ⟨t,l⟩:=(show ∃ t,u=Value.int i t from c);cases l;exact W.kia_tup W.kitx_int I.kIn True.intro d e (λz=>nomatch z) fin
 | str y=>obtain ⟨t,l⟩:=(show ∃ t,u=Value.str y t from c);cases l;exact W.kia_tup W.kitx_str I.kIn True.intro d e (λz=>nomatch z) fin
 | @lst a xs f=>
  cases (show u=Value.ref a from c)
  obtain ⟨_,_,n',_,g⟩:=(show xJ X.prog X.w H s.heap a (.lst xs) from I.hok a _ f)
  exact W.kia_tup W.kitx_list I.kIn ⟨_,g,rfl⟩ d e (λz=>nomatch z) fin
 | @tup a xs f=>
  cases (show u=Value.ref a from c)
  obtain ⟨_,_,_,m⟩:=(show xJ X.prog X.w H s.heap a (.tup xs) from I.hok a _ f)
  obtain ⟨o,g,A,_⟩:=m
  exact W.kia_tup W.kitx_tuple I.kIn ⟨o,g,A⟩ d e (λz=>nomatch z) fin
 | @dK a B f=>
  cases (show u=Value.ref a from c)
  obtain ⟨_,_,vs,_,m⟩:=(show xJ X.prog X.w H s.heap a (.dK B) from I.hok a _ f)
  obtain ⟨o,es,ep,g,A,_⟩:=m
  exact W.kia_tup W.kitx_dict I.kIn ⟨o,g,A.1⟩ d e (λz=>nomatch z) fin
end
structure yW (K:W.Frag) (C:Addr) (m qual:Str) (st:Stmt) (ps:List Str):Prop where
 ex:∃ (f:Addr) (fd:FuncData),Fun K m qual st f fd/\zCV K C m f/\uX K fd ps []
structure yI (P:Program) (w:World) (K:W.Frag) (mg:Str->Option Value) (base:Heap) (CX:CXT) (k:Nat) (C:Addr) (m:Str) (ps:List Str) (sp:Sp):Prop where
 ex:∃ (f:Addr) (fd:FuncData),tJ P w K mg base CX k f fd ps sp/\zCV K C m f/\uX K fd ps []
section
variable {P:Program} {w:World} {K:W.Frag} {mg:Str->Option Value} {base:Heap}
theorem yW.ok {C:Addr} {m b:Str} {st:Stmt} {N ps:List Str} {k:Nat} {sp:Sp} (G:yW K C m b st ps) (S:zO N ps (zG st)) (len:∀ vs H Q E,sp vs H Q E->vs.length=ps.length)
  (d:∀ f c A a s H vs Q E,z6 k (A.deeper (envOfC b (zG st) s.heap.objs.size f c))->sp vs H Q E ->
   ∃ t,PSs (uR CX0 P w K mg base N b (zG st) f c A a s H E).nox (y8 st) t/\t { nx:=λ_ e=>Q .non e,rt:=Q } (start N vs) H):yI P w K mg base CX0 (k + 1) C m ps sp:=by
 obtain ⟨f,fd,F,g,i⟩:=G.ex
 exact ⟨f,fd,F.ok S len λc A a s H vs Q E j h=>d f c A a s H vs Q E j h,g,i⟩
theorem zEH {C:Addr} {x b:Str} {st:Stmt} {f:Addr} {j:Value} {m g:Option Addr} {h:Array (Option Value)} {kV e pm d ct:Value} {ps:List Str}
  (a:W.findIn K (.ref C) x=some (some (.ref f))) (i:W.isFn K (.ref f)=true)
  (l:K.lookup f=some ⟨j,m,.func (W.fnOf x b (vI st) (y8 st) (zG st) .none kV e pm g d ct),h⟩) (c:W.codeIn K d b=true) (k:W.keepIn K (.ref f)=true)
  (n:∀ kV e pm g d ct us,us.length=ps.length->bindArgs (W.fnOf x b (vI st) (y8 st) (zG st) .none kV e pm g d ct) ⟨us,[]⟩=pure (ps.zip us)):yW K C x b st ps:=
 ⟨f,_,rF l c k,⟨a,i,k⟩,(rF l c k).binds n⟩
end
section
variable {X:Cx} {k:Nat} {C:Addr} {ps:List Str} {sp:Sp} {m:Str} {apos pos:Pos} {o e:Expr} {es:List Expr} {ta:TE} {t:TA}
theorem xY (M:yI X.prog X.w X.K X.mg X.base CX0 k C m ps sp) (c:Cls X.K C) (g:z6 k X.A) (h:PE X o ta) (i:PA X (e :: es) t)
  (a:starEach (e :: es) X.env=(false,eval e X.env) :: starEach es X.env:=by rfl) (b:(backTo pos (starEach es X.env)).any (·.1)=false:=by rfl)
  (j:eval (.Call (.Attribute o m apos) (e :: es) [] pos) X.env=(do
   let d <- eval o X.env
   standAt apos.atName
   let (f,first) <- holding [d] (getMethod d m pl)
   callWith pos f first (backTo pos (starEach (e :: es) X.env)) (backToKw pos (keywordEach [] X.env))):=by rfl) :
  PE X (.Call (.Attribute o m apos) (e :: es) [] pos) (jP C m sp [] E0 ta t):=
 let ⟨_,_,F,l,n⟩:=M.ex
 dD h c l F g n .nil dG i a b j
theorem xL (M:yI X.prog X.w X.K X.mg X.base CX0 k C m ps sp) (c:Cls X.K C) (b:z6 k X.A) (d:PE X o ta)
  (g:eval (.Call (.Attribute o m apos) [] [] pos) X.env=(do
   let a <- eval o X.env
   standAt apos.atName
   let (f,first) <- holding [a] (getMethod a m pl)
   callWith pos f first (backTo pos (starEach [] X.env)) (backToKw pos (keywordEach [] X.env))):=by rfl) :
  PE X (.Call (.Attribute o m apos) [] [] pos) (jP C m sp [] E0 ta t7):=
 let ⟨_,_,F,h,i⟩:=M.ex
 zA4 d c h F b i .nil dG g
end
section
variable {X:Cx}
theorem zHS (c:X.A.units < cLine):OpR X (compareOp .NotEq) (zKP true):=by
 intro w s z H x y v u Q I k l h
 obtain ⟨a,b,d,rfl,rfl,m,n,o,q⟩:=h
 cases k;cases l
 obtain ⟨B,f,g,_⟩:=I.list (.of m)
 obtain ⟨C,p,i,_⟩:=I.list (.of n)
 cases p
 cases d with
 | nil=>
  cases f
  exact SeqAt.RcNeAt.lists (e:=λ_=>true) g.isList i.isList rfl c (λj r=>by simp at r) _ _ _ _ ⟨.bl _,H,I,rfl,q⟩
 | cons x d=>
  have t:=f.length
  refine SeqAt.RcNeAt.lists_lengths g.isList i.isList ?_ c _ _ _ _ ⟨.bl true,H,I,rfl,q⟩
  rw [zMR,zMR,<- t]
  rfl
noncomputable def rInH (neg:Bool):R2:=λx y H Q=>∃ p a,y=.ref p/\H p=some (.lst a)/\xA x=true/\a.all xA=true/\Q (.bl (if neg then !inV x a else inV x a)) H
theorem fA:OpR X (compareOp .NotIn) (rInH true):=λf s g H x y v u Q I h i ⟨p,j,a,b,c,d,e⟩=>tS f s g H x y v u Q I h i ⟨p,j,a,.inl (.of b),c,d,e⟩
end
structure h9 (P:Program) (w:World) (K:W.Frag) (mg:Str->Option Value) (base:Heap) (CX:CXT) (k:Nat) (C:Addr) (x:Str) (ps:List Str) (sp:Sp):Prop where
 ex:∃ (f:Addr) (fd:FuncData),tJ P w K mg base CX k f fd ps sp/\Mk K C f/\mg x=some (.ref C)/\uX K fd ps []
section
variable {X:Cx} {k:Nat} {C:Addr} {ps:List Str} {sp:Sp} {x:Str} {p pos:Pos} {e:Expr} {es:List Expr} {t:TA}
theorem zF9 (M:h9 X.prog X.w X.K X.mg X.base CX0 k C x ps sp) (c:z6 (k + 1) X.A) (d:PA X (e :: es) t) (f:Gl X x:=by rfl)
  (a:(x == ("__debug__" : Str))=false:=by decide) (g:starEach (e :: es) X.env=(false,eval e X.env) :: starEach es X.env:=by rfl) (b:(backTo pos (starEach es X.env)).any (·.1)=false:=by rfl) :
  PE X (.Call (.Name x p) (e :: es) [] pos) (zFK C sp [] E0 t):=
 let ⟨_,_,F,h,i,j⟩:=M.ex
 zDY h F c f i j .nil dG d a g b
end
section
variable {prog:Program} {w:World} {A:Around} {E:VSP} {s:Shared}
end
section
variable {X:Cx} {pos:Pos}
end
theorem pZ {K:W.Frag} {C:Type} {a acc:Addr} {xs:List Str} {ix:List Nat} {g:TG} {tt:TT} {te:TE} {σ:St} {H1:Hp} {Q:VK} {ds:List C} (f mk:C->List V) (b:C->Bool) (own:C->Addr->List (Option V)) (rest:List (Option V)) (hn:ds.length <= 2000) (G:H1 acc=none) (hS:Rows H1 a (ds.map f))
  (n:∃ vs:List (Option V),stC xs ix σ=vs ++ rest/\vs.length=xs.length) (j:∀ d q,(own d q).length=xs.length)
  (hg:∀ d q vs H R,d ∈ ds->vs.length=xs.length->H q=some (.tup (f d))->R (own d q ++ rest) H->g (.ref q) (vs ++ rest) H R)
  (I:∀ d q H R,d ∈ ds->zE [acc] H1 H->H q=some (.tup (f d))->(∀ c,zE [] H c->R (b d) c)->tt (own d q ++ rest) H R)
  (J:∀ d q H R,d ∈ ds->H q=some (.tup (f d))->(∀ t c,zE [] H c->c t=some (.tup (mk d))->R (.ref t) c)->te (own d q ++ rest) H R)
  (q:∀ c,Rows c acc ((ds.filter b).map mk)->zE [] H1 c->Q (.ref acc) c):LCW (Itl K a) xs ix g tt te σ H1 acc Q:=by
 obtain ⟨v,e0,r0⟩:=hS
 have aa:=zI e0 G
 have l0:=zZ r0
 rw [zMJ] at l0
 obtain ⟨L,n,M⟩:=n
 refine kZ (K:=K) (a:=a) (its:=v.map V.ref) (by rw [zMJ,sizeLine_eq];omega)
  (λi w D h=>∃ k vs,D=vs ++ rest/\vs.length=xs.length/\w=k.map V.ref/\Paired (λq r=>h q=some (.tup r)) k (((ds.take i).filter b).map mk)/\zE [acc] H1 h/\h acc=some (.lst w)) ?_ ?_ ?_ ?_
 ·exact ⟨[],L,n,M,rfl,.nil,zE.at (by simp),zC⟩
 ·rintro i w D h ⟨k,vs,rfl,N,rfl,o,l,u⟩
  refine ⟨u,?_,.of (l _ _ (by simp [aa]) e0)⟩
  have:=zZ o
  rw [zMJ] at this
  have h3:=zNH b (ds.take i)
  rw [zMJ,this]
  rw [zM2] at h3
  omega
 ·rintro i w D h x y ⟨k,vs,rfl,N,rfl,o,l,u⟩
  rw [zMP] at y
  cases O:v[i]? with
  | none=>rw [O] at y;cases y
  | some m=>
  rw [O] at y
  have ey:=zMQ y
  subst ey
  obtain ⟨r,A,hr⟩:=wS r0 i m O
  rw [zMP] at A
  cases E:ds[i]? with
  | none=>rw [E] at A;cases A
  | some d=>
  rw [E] at A
  have T:=zMQ A
  subst T
  have U:=zI hr G
  have p:=l _ _ (by simp [U]) hr
  have Y:=zMN E
  have eT:ds.take (i + 1)=ds.take i ++ [d]:=by rw [List.take_succ,E];rfl
  refine hg d m vs h _ Y N p (I d m h _ Y l p λH4 B=>?_)
  cases hb:b d with
  | false=>
   rw [if_neg zNB]
   refine ⟨k,own d m,rfl,j d m,rfl,?_,l.trans (B.mono (by simp)),B.z u⟩
   rw [eT,List.filter_append,List.filter_cons,hb]
   simpa using L2.Paired.mapP o λq r e=>B.z e
  | true=>
   rw [if_pos rfl]
   refine J d m H4 _ Y (B.z p) λt H5 a0 s=>?_
   have k5:=B.trans a0
   have h5:=k5.z u
   have nt:acc ≠ t:=by intro z;rw [<- z,h5] at s;cases s
   refine ⟨h5,k ++ [t],own d m,rfl,j d m,by simp,?_,(l.trans (k5.mono (by simp))).trans (zE.at (by simp)),zC⟩
   rw [eT,List.filter_append,List.filter_cons,hb]
   simp only [if_true,List.filter_nil,zMV,List.map_cons,List.map_nil]
   refine wP ?_ (by rw [zK (Ne.symm nt)];exact s)
   exact L2.Paired.mapP o λq r e=>by
    have e5:=k5.z e
    have nq:=wY e5 h5 (by intro z;cases z)
    rw [zK nq];exact e5
 ·rintro w D h ⟨k,vs,rfl,N,rfl,o,l,u⟩
  rw [zMJ,l0,zNJ] at o
  exact q h ⟨k,u,o⟩ (l.drop G)
theorem zA5
  (h:sI N sc [x,y] ix scope) (i:PI X (.Tuple [.Name x j,.Name y py] k l) iter m)
  (n:∀ C a s H,PTs (cxC X [x,y] ix scope C a s H) c o) (p:∀ C a s H,PE (cxC X [x,y] ix scope C a s H) d q)
  (r:X.N=N:=by rfl) (e:X.env.scope=sc:=by rfl) (f:X.calm=true:=by rfl)
  (t:∀ x,foldedSetIterable iter X.env x=pure x:=by intro _;rfl) :
  PE X (.ListComp d [⟨.Tuple [.Name x j,.Name y py] k l,iter,c,0⟩] scope pos) (tLC [x,y] ix m (bN X.K 2 (t6 (wI 0) (t6 (wI 1) bO))) o q):=by
 have S:=h.at (X:=X) r e
 have g:∀ C a s H,(cxC X [x,y] ix scope C a s H).env.scope.names.lookup x=some .local:=λ_ _ _ _=>lookup_relabel_local (S.own x (by simp))
 have b:∀ C a s H,(cxC X [x,y] ix scope C a s H).env.scope.names.lookup y=some .local:=λ_ _ _ _=>lookup_relabel_local (S.own y (by simp))
 exact zGA S f i (λC a s H=>u7 (X:=cxC X [x,y] ix scope C a s H) f (yT (yL S.nd rfl (Or.inl (g C a s H)) (.inr (g C a s H))) (yT (yL S.nd rfl (Or.inl (b C a s H)) (.inr (b C a s H))) uA))) n p t
theorem gN (M:St->Hp->Prop) (f:∀ c d,M c d->b D c d) (g:∀ e:St->Hp->Prop,(∀ c d,M c d->e c d)->a { D with nx:=e } σ H):u6 a b D σ H:=g (b D) f
theorem zIB (h:u6 a b D σ H):({ nx:=u6 a b D,rt:=rt,bk:=bk,ct:=ct }:mG).nx σ H:=h
theorem zE.under (k0:zE [] a H1) (k:zE S H1 c) (d:∀ b ∈ S,a b=Option.none):zE [] a c:=λb o _ h=>k b o (λe=>by rw [d b e] at h;cases h) (k0 b o (by simp) h)
theorem vY {e f:Type} {F:e->f->Prop}:∀ {a c:List e} {b d:List f},Paired F a b->Paired F c d->Paired F (a ++ c) (b ++ d)
 | _,_,_,_,.nil,h=>h
 | _,_,_,_,.cons r t,h=>.cons r (vY t h)
theorem zCK (a:List Int) (lo b:Option Int):∃ c:List Int,uS (a.map V.int) lo b=c.map V.int/\c.length <= a.length:=by
 unfold uS
 refine ⟨(a.drop (HT.sIx (a.map V.int).length 0 lo)).take (HT.sIx (a.map V.int).length (a.map V.int).length b - HT.sIx (a.map V.int).length 0 lo),by rw [List.map_take,List.map_drop],?_⟩
 rw [zM2,List.length_drop]
 omega
theorem rJ {a:Type} [DecidableEq a]:∀ (l:List a) (x:a),x ∈ l->∃ j:Nat,l[j]?=some x/\∀ m:Nat,m < j->l[m]? ≠ some x
 | [],x,h=>by cases h
 | y :: l,x,h=>by
  by_cases e:y=x
  ·exact ⟨0,by rw [e];rfl,λm b=>absurd b (Nat.not_lt_zero m)⟩
  ·obtain ⟨j,c,d⟩:=rJ l x ((List.mem_cons.mp h).elim (λz=>absurd z.symm e) id)
   refine ⟨j + 1,by simpa using c,λm b=>?_⟩
   cases m with
   | zero=>intro z;exact e (zMQ z)
   | succ m=>exact λz=>d m (by omega) (by simpa using z)
noncomputable def cC (a:Obj) (C:Addr) (b:Option Addr):Prop:=a.cls=.ref C/\a.dict=b
theorem bQ (f:Array Value->Array Value) (o:Obj):(Obj.mapFields f o).dict=o.dict:=by
 unfold Obj.mapFields
 split <;> rfl
noncomputable def Rec (h B:Heap) (e C:Addr) (f:Option Addr) (g:Value):Prop:=
 ∃ c cells b d a,h.get? e=some c/\cC c C f/\c.data=.fields cells/\cells[2]?=some .none/\cells[1]?=some (.ref b) /\
  B.get? b=none/\b ≠ e/\h.get? b=some d/\d.data=.fields a/\a[3]?=some g
noncomputable def Fly (B:Heap) (l:List Env) (e C:Addr) (a:Option Addr) (b:Value) (h:Heap):Prop:=B.StaysIn h/\B.get? e=none/\h.FunFrames B l/\Rec h B e C a b
section
variable {dc:Option Addr} {M:Model} {A:Around} {E:VSP} {s:Shared} {B:Heap} {env:Env} {outer:List Env} {L e C:Addr} {Q:Unit->Shared->Prop}
theorem iF (fr:A.frames=some (env :: outer)) (t:s.heap.FunFrames B (env :: outer)) (ef:env.frame=some L)
  (ge:s.heap.get? e=some H) (I:cC H C dc) (st:B.StaysIn s.heap) (ne:B.get? e=none) (u:H.data=.fields cells) (g2:cells[2]?=some .none)
  (k:∀ h',Fly B (env :: outer) e C dc (rawInt L) h'->s.heap.UpToSlots h'->Q () { s with heap:=h' }) :
  wpAny M A (do let a <- frameOf env;let pl <- entryPlaceOf L j;let b <- EntryCells.newEntry head a .none (rawInt L) .none pl;setField (.ref e) 1 b) Q E s:=by
 have z2:=(Array.getElem?_eq_some_iff.mp g2).1
 have J:1 < cells.size:=by omega
 have v:e ∉ (env :: outer).filterMap (·.frame):=λw=>by
  obtain ⟨_,o,N,d⟩:=t.mem w
  rw [ge] at N;cases N;exact d cells u
 refine wpAny_bind (wpAny_frameOf_fun fr t ef λg x=>?_)
 refine wpAny_bind (wpAny_entryPlaceOf λpl l=>?_)
 unfold EntryCells.newEntry newFields
 refine wpAny_bind (wpAny_newObj_type ?_ (l.sizeOk5 _ _ _ _ _))
 have O:=(x.2.1 e v).trans ge
 have m:B.StaysIn g:=λb o c=>(x.2.1 b λw=>by rw [(t.mem w).1] at c;cases c).trans (st b o c)
 generalize y:({ cls:=.type "traceback",dict:=none,data:=.fields ([head,.ref L,.none,rawInt L,.none] ++ (if pl.isEmpty then List.replicate 6 Value.none else pl)).toArray }:Obj)=f
 have D:∃ i:Array Value,f.data=.fields i/\i[3]?=some (rawInt L):=⟨_,by rw [<- y],by first | (simp;done) | (rcases l with rfl | ⟨_,_,_,_,_,_,_,rfl⟩ <;> simp)⟩
 obtain ⟨i,T,t3⟩:=D
 have U:=Heap.get?_push_of_some (h:=g) f O
 have n:=Nat.ne_of_gt (Heap.lt_size O)
 have Y:=Obj.data_mapFields u (·.setIfInBounds 1 (Value.ref g.objs.size))
 have e3:=Heap.get?_update_self (Obj.mapFields (·.setIfInBounds 1 (Value.ref g.objs.size))) U (Obj.isFreed_of_fields Y)
 have p:∀ b o,b ≠ e->g.get? b=some o->((g.push f).update e (Obj.mapFields (·.setIfInBounds 1 (Value.ref g.objs.size)))).get? b=some o:=λb o nb c=>by
  rw [Heap.get?_update_other _ _ (Ne.symm nb)];exact Heap.get?_push_of_some _ c
 have r:∀ b o,s.heap.get? b=some o->(∀ vs,o.data ≠ .fields vs)->b ≠ e:=λb o c d z=>by
  rw [z,ge] at c;cases c;exact d cells u
 have up:s.heap.UpToSlots ((g.push f).update e (Obj.mapFields (·.setIfInBounds 1 (Value.ref g.objs.size)))):=λb o c d=>by
  obtain ⟨sl,q⟩:=x.2.2 b o c
  exact ⟨sl,p b _ (r b o c d) q⟩
 have G:((g.push f).update e (Obj.mapFields (·.setIfInBounds 1 (Value.ref g.objs.size)))).get? g.objs.size=some f:=by
  rw [Heap.get?_update_other _ _ (Ne.symm n)]
  exact Heap.get?_push_size g (Obj.isFreed_of_fields T)
 refine wpAny_setField U u J (k _ ⟨λb o c=>p b o (λz=>by rw [z,ne] at c;cases c) (m b o c),ne,t.of_keeps λb o c d=>?_,?_⟩ up)
 ·obtain ⟨sl,q⟩:=up b o c d
  exact ⟨_,q,rfl⟩
 ·exact ⟨_,_,g.objs.size,f,i,e3,⟨(Obj.cls_mapFields _ _).trans I.1,(bQ _ _).trans I.2⟩,Y,by rw [Array.getElem?_setIfInBounds_ne (by decide)];exact g2,by simp [J],m.fresh,n,G,T,t3⟩
theorem zBD (d:A.frames=some (env :: outer)) (f:s.heap.FunFrames B (env :: outer)) (a:env.frame=some L)
  (ge:s.heap.get? e=some b) (g:cC b C dc) (st:B.StaysIn s.heap) (ne:B.get? e=none) (c:b.data=.fields cells) (g1:cells[1]?=some .none) (g2:cells[2]?=some .none)
  (k:∀ h',Fly B (env :: outer) e C dc (rawInt L) h'->s.heap.UpToSlots h'->Q () { s with heap:=h' }):wpAny M A (noteFrame (.ref e) env) Q E s:=by
 unfold noteFrame
 simp only [a]
 refine wpAny_bind (wpAny_field ge c g1 ?_)
 rw [if_neg (by decide)]
 exact iF d f a ge g st ne c g2 k
theorem dL (p:A.frames=some (env :: outer)) (l:env.frame=some L) (F:Fly B (env :: outer) e C dc .none s.heap)
  (k:∀ h',Fly B (env :: outer) e C dc (rawInt L) h'->s.heap.UpToSlots h'->Q () { s with heap:=h' }):wpAny M A (noteFrame (.ref e) env) Q E s:=by
 obtain ⟨st,ne,q,w,cells,g,x,h,ge,r,m,g2,g1,t,i,gt,j,n⟩:=F
 unfold noteFrame
 simp only [l]
 refine wpAny_bind (wpAny_field ge m g1 ?_)
 rw [if_pos (by simp:(Value.ref g != Value.none)=true)]
 refine wpAny_bind (wpAny_field gt j n ?_)
 rw [if_neg (by simp [rawInt]:¬ ((Value.none == rawInt L)=true))]
 refine wpAny_bind (wpAny_setField gt j (Array.getElem?_eq_some_iff.mp n).1 ?_)
 have d:∀ b,b ≠ g->(s.heap.update g (Obj.mapFields (·.setIfInBounds 3 Value.none))).get? b=s.heap.get? b:=λb a=>Heap.get?_update_other _ _ (Ne.symm a)
 have f:∀ b o,s.heap.get? b=some o->(∀ u,o.data ≠ .fields u)->b ≠ g:=λb o a c z=>by
  rw [z,gt] at a;cases a;exact c h j
 exact iF p (q.of_keeps λb o a c=>⟨o,(d b (f b o a c)).trans a,rfl⟩) l ((d e (Ne.symm i)).trans ge) r (λb o a=>(d b λz=>by rw [z,t] at a;cases a).trans (st b o a)) ne m g2
  λh' v up=>k h' v λb o a c=>up b o ((d b (f b o a c)).trans a) c
theorem p7 (F:Fly B l e C dc x s.heap) (k:∀ h',Fly B l e C dc .none h'->s.heap.UpToSlots h'->Q () { s with heap:=h' }):wpAny M A (setFlight (.ref e) none) Q E s:=by
 obtain ⟨st,ne,r,t,cells,h,y,m,ge,u,n,g2,g1,p,i,gt,j,v⟩:=F
 have q:=(Array.getElem?_eq_some_iff.mp v).1
 have d:∀ b,b ≠ h->(s.heap.update h (Obj.mapFields (·.setIfInBounds 3 ((none:Option Addr).elim Value.none λf=>rawInt f)))).get? b=s.heap.get? b:=λb a=>Heap.get?_update_other _ _ (Ne.symm a)
 have g:∀ b o,s.heap.get? b=some o->(∀ w,o.data ≠ .fields w)->b ≠ h:=λb o a c z=>by
  rw [z,gt] at a;cases a;exact c m j
 unfold setFlight
 refine wpAny_bind (wpAny_field ge n g1 ?_)
 rw [if_pos (by simp:(Value.ref h != Value.none)=true)]
 refine wpAny_setField gt j q (k _ ⟨λb o a=>(d b λz=>by rw [z,p] at a;cases a).trans (st b o a),ne,r.of_keeps λb o a c=>⟨o,(d b (g b o a c)).trans a,rfl⟩,?_⟩ λb o a c=>⟨o.slots,(d b (g b o a c)).trans a⟩)
 exact ⟨t,cells,h,_,_,(d e (Ne.symm i)).trans ge,u,n,g2,g1,p,i,Heap.get?_update_self _ gt (Obj.isFreed_of_fields (Obj.data_mapFields j _)),Obj.data_mapFields j _,by simp [q]⟩
theorem Fly.down (F:Fly B (env :: l) e C dc a h):Fly B l e C dc a h:=⟨F.1,F.2.1,F.2.2.1.2.2,F.2.2.2⟩
theorem zBQ (a:A.frames=some (env :: outer)) (b:env.frame=some L) (F:Fly B (env :: outer) e C dc .none s.heap)
  (k:∀ h',Fly B outer e C dc .none h'->s.heap.UpToSlots h'->Q () { s with heap:=h' }):wpAny M A (leaving env (.ref e)) Q E s:=by
 unfold leaving
 exact wpAny_bind (dL a b F λg c d=>p7 c λh' f h=>k h' f.down (d.trans h))
theorem bD {h:Heap} (c:A.frames=some (env :: outer)) (d:h.FunFrames B (env :: outer)) (f:env.frame=some L) (st:B.StaysIn h) (mk:Heap.MadeExcOf h s.heap e (.ref C) args)
  (k:∀ h',Fly B outer e C none .none h'->s.heap.UpToSlots h'->Q () { s with heap:=h' }):wpAny M A (leaving env (.ref e)) Q E s:=by
 obtain ⟨t,ge,_,_⟩:=mk.there
 have ne:B.get? e=none:=by
  cases q:B.get? e with
  | none=>rfl
  | some o=>have:=st e o q;rw [mk.new] at this;cases this
 unfold leaving
 exact wpAny_bind (zBD c (d.of_keeps λb o a _=>⟨o,mk.keeps b o a,rfl⟩) f ge ⟨rfl,rfl⟩ (λb o a=>mk.keeps b o (st b o a)) ne rfl rfl rfl λg i j=>p7 i λh' l m=>k h' l.down (j.trans m))
end
section
variable {P:Program} {w:World} {H H':Hp} {h h' B:Heap} {a:Addr} {o:HO}
theorem xJ.there (x:xJ P w H h a o):∃ u,h.get? a=some u:=by
 cases o with
 | lst c=>obtain ⟨_,_,_,_,q⟩:=x;exact ⟨_,q⟩
 | tup c=>obtain ⟨_,_,_,⟨u,q,_⟩⟩:=x;exact ⟨u,q⟩
 | dK b=>obtain ⟨_,_,_,_,u,_,_,q,_⟩:=x;exact ⟨u,q⟩
 | dT b=>obtain ⟨_,_,_,_,u,_,_,q,_⟩:=x;exact ⟨u,q⟩
 | set S n=>obtain ⟨u,_,_,_,q,_⟩:=x;exact ⟨u,q⟩
 | ins C e d=>obtain ⟨_,_,_,q,_⟩:=x;exact ⟨_,q⟩
 | own y=>exact x
 | xd d=>obtain ⟨_,⟨u,_,_,q,_⟩,_⟩:=x;exact ⟨u,q⟩
 | rng lo g=>obtain ⟨_,_,_,q⟩:=x;exact ⟨_,q⟩
 | frz i u=>obtain ⟨q,_⟩:=x;exact ⟨_,q⟩
 | tbl j=>exact ⟨_,(show h.get? a=some _ from x)⟩
 | met f y=>exact ⟨_,(show h.get? a=some _ from x)⟩
 | ext k=>obtain ⟨_,q,_⟩:=x;exact q
theorem HOk.air (ok:HOk P w H h) (st:B.StaysIn h) (d:B.StaysIn h') (f:∀ c,H c ≠ none->∃ u,B.get? c=some u):HOk P w H h':=λb o e=>
 (ok b o e).stay (λc u i q=>by
  have j:H c ≠ none:=by
   rcases i with z | z
   ·rw [z,e];intro y;cases y
   ·rw [z];intro y;cases y
  obtain ⟨k,g⟩:=f c j
  have:=st c k g
  rw [q] at this;cases this
  exact d c u g) (λ_ z=>z) λ_ _ z=>z
end
noncomputable def CXE (P:Program) (w:World):CXT:=λd H s E e f=>∃ a C h B g,e=.ref a/\f.os=s.os/\AllBare f.gens/\Un (frs d) [] H g s.heap f.heap/\HOk P w g f.heap/\Fly B d a C h .none f.heap /\
 (∀ c,g c ≠ none->∃ u,B.get? c=some u)/\(∀ b o,s.heap.get? b=some o->H b=none->b ∉ frs d->B.get? b=some o)/\(∀ b o,s.heap.get? b=some o->b ∉ frs d->∃ i,B.get? b=some i)/\E (.ref C) h g
section
variable {P:Program} {w:World} {K:W.Frag} {mg:Str->Option Value} {base:Heap} {N:List Str} {qual:Str} {scope:Scope} {f:Addr} {cd:Value} {A:Around} {outer:List Env} {s0:Shared} {H0:Hp} {E:XK}
theorem zEF {h:Heap} (c:h.FunFrames e l) (d:b ∈ frs l) (q:h.get? b=some o):∀ vs,o.data ≠ .fields vs:=by
 obtain ⟨_,g,a,n⟩:=c.mem d
 rw [q] at a;cases a
 exact n
theorem zAT (I:Inv (uR (CXE P w) P w K mg base N qual scope f cd A outer s0 H0 E) qp σ H s)
  (mk:Heap.MadeExcOf s.heap h' e (.ref C) args) (Q:E (.ref C) none H):(uR (CXE P w) P w K mg base N qual scope f cd A outer s0 H0 E).xe (.ref e) { s with heap:=h' }:=by
 have j:∀ b ∈ frs (envOfC qual scope s0.heap.objs.size f cd :: outer),H b=none:=I.stkFree
 have L:s.heap.FunFrames base (envOfC qual scope s0.heap.objs.size f cd :: outer):=I.stack
 have k:∀ b o,s.heap.get? b=some o->b ∉ frs (envOfC qual scope s0.heap.objs.size f cd :: outer)->(W.hideAll s.heap (frs (envOfC qual scope s0.heap.objs.size f cd :: outer))).get? b=some o:=λb o q n=>W.hideAll_get _ q n
 have st:(W.hideAll s.heap (frs (envOfC qual scope s0.heap.objs.size f cd :: outer))).StaysIn s.heap:=λb o q=>W.of_hideAll _ q
 have p:∀ c,H c ≠ none->∃ u,(W.hideAll s.heap (frs (envOfC qual scope s0.heap.objs.size f cd :: outer))).get? c=some u:=λc M=>by
  cases q:H c with
  | none=>exact absurd q M
  | some o=>
   obtain ⟨u,T⟩:=(I.hok c o q).there
   exact ⟨u,k c u T λz=>M (j c z)⟩
 have old:∀ b o,s0.heap.get? b=some o->b ∉ frs outer->b ∉ frs (envOfC qual scope s0.heap.objs.size f cd :: outer):=λb o q n z=>by
  rcases List.mem_cons.mp (show b ∈ s0.heap.objs.size :: frs outer from z) with y | y
  ·exact Nat.lt_irrefl _ (Nat.lt_of_lt_of_eq (Heap.lt_size q) y.symm)
  ·exact n y
 refine bD (B:=W.hideAll s.heap (frs (envOfC qual scope s0.heap.objs.size f cd :: outer))) (h:=s.heap) I.ok.frames (W.funFrames_hide L λD U a Y=>List.mem_filterMap.mpr ⟨D,U,Y⟩) rfl st mk λh2 F up=>?_
 have d:∀ b o,s0.heap.get? b=some o->H0 b=none->b ∉ frs outer->(W.hideAll s.heap (frs (envOfC qual scope s0.heap.objs.size f cd :: outer))).get? b=some o:=λb o q n m=>
  k b o (I.base.keep b o q n m (show b ∉ ([]:List Addr) by simp)) (old b o q m)
 have g:∀ b o,s0.heap.get? b=some o->b ∉ frs outer->∃ i,(W.hideAll s.heap (frs (envOfC qual scope s0.heap.objs.size f cd :: outer))).get? b=some i:=λb o q m=>by
  obtain ⟨i,q'⟩:=I.base.there b o q (show b ∉ ([]:List Addr) by simp)
  exact ⟨i,k b i q' (old b o q m)⟩
 have r:∀ b o,b ∈ frs outer->s.heap.get? b=some o->∃ O,h2.get? b=some { o with slots:=O }:=λb o l q=>up b o (mk.keeps b o q) (zEF L (zMW _ l) q)
 refine ⟨e,C,none,_,H,rfl,I.os,I.bare,⟨λb o q n m _=>F.1 b o (d b o q n m),λb o q n l t=>?_,λb o q n t=>I.base.free b o q n t,λb o q t=>?_,I.base.tups,I.base.frzs,I.base.tbls⟩,I.hok.air st F.1 p,F,p,d,g,Q⟩
 ·obtain ⟨O,v⟩:=I.base.slot b o q n l t
  obtain ⟨x,J⟩:=r b _ l v
  exact ⟨x,J⟩
 ·by_cases l:b ∈ frs outer
  ·obtain ⟨i,v⟩:=I.base.there b o q t
   obtain ⟨x,J⟩:=r b _ l v
   exact ⟨_,J⟩
  ·obtain ⟨i,v⟩:=g b o q l
   exact ⟨i,F.1 b i v⟩
theorem wC:uV (CXE P w) (uR (CXE P w) P w K mg base N qual scope f cd A outer s0 H0 E) E:=by
 rintro qp σ H s e T I ⟨a,C,U,B,Y,rfl,os,bare,u,G,F,l,m,p,hE⟩
 have old:∀ b o,s0.heap.get? b=some o->b ∉ frs outer->b ∉ frs (envOfC qual scope s0.heap.objs.size f cd :: outer):=λb o q n z=>by
  rcases List.mem_cons.mp (show b ∈ s0.heap.objs.size :: frs outer from z) with y | y
  ·exact Nat.lt_irrefl _ (Nat.lt_of_lt_of_eq (Heap.lt_size q) y.symm)
  ·exact n y
 have c:∀ b:Addr,b ∉ (uR (CXE P w) P w K mg base N qual scope f cd A outer s0 H0 E).ex:=λb=>(show b ∉ ([]:List Addr) by simp)
 refine zBQ (C:=C) (B:=B) I.ok.frames rfl F λh2 D up=>?_
 have d:∀ b o,s0.heap.get? b=some o->H0 b=none->b ∉ frs outer->B.get? b=some o:=λb o q n k=>
  m b o (I.base.keep b o q n k (c b)) (I.base.free b o q n (c b)) (old b o q k)
 have g:∀ b o,s0.heap.get? b=some o->b ∉ frs outer->∃ h,B.get? b=some h:=λb o q k=>by
  obtain ⟨h,q'⟩:=I.base.there b o q (c b)
  exact p b h q' (old b o q k)
 have r:∀ b o,b ∈ frs outer->T.heap.get? b=some o->∃ M,h2.get? b=some { o with slots:=M }:=λb o j q=>up b o q (zEF F.2.2.1 (zMW _ j) q)
 refine ⟨a,C,U,B,Y,rfl,os.trans I.os,bare,⟨λb o q n k _=>D.1 b o (d b o q n k),λb o q n j O=>?_,λb o q n O=>?_,λb o q O=>?_,λb Q q=>u.tups b Q (I.base.tups b Q q),λb o v q=>u.frzs b o v (I.base.frzs b o v q),λb ps q=>?_⟩,G.air F.1 D.1 l,D,l,d,g,hE⟩
 ·obtain ⟨M,i⟩:=I.base.slot b o q n j (c b)
  obtain ⟨a0,t⟩:=u.slot b _ i (I.base.free b o q n (c b)) (zMW _ j) (by simp)
  obtain ⟨x,L⟩:=r b _ j t
  exact ⟨x,L⟩
 ·obtain ⟨h,i⟩:=I.base.there b o q (c b)
  exact u.free b h i (I.base.free b o q n (c b)) (by simp)
 ·by_cases j:b ∈ frs outer
  ·obtain ⟨h,i⟩:=I.base.there b o q (c b)
   obtain ⟨o2,t⟩:=u.there b h i (by simp)
   obtain ⟨x,L⟩:=r b _ j t
   exact ⟨_,L⟩
  ·obtain ⟨h,i⟩:=g b o q j
   exact ⟨h,D.1 b h i⟩
 ·obtain ⟨m1,i⟩:=I.base.tbls b ps q
  obtain ⟨m2,t⟩:=u.tbls b _ i
  exact ⟨m1 ++ m2,by rw [t,Array.append_assoc]⟩
end
noncomputable abbrev zE8:List Value:=[.type "ValueError",.type "Exception",.type "BaseException",.type "object"]
structure qI (K:W.Frag) (mg:Str->Option Value) (x:Str) (C:Addr):Prop where
 at_:mg x=some (.ref C)
 ok:W.excIn K C zE8 "ValueError.__new__"=true
theorem zEW {K:W.Frag} (X:K.In h) (q:W.excIn K C b a=true) :
  ∃ bm N nm c bs hdct sn sub ab col dd k0 k1 k2 k3 k5,∃ mN:Str->Option Value,h.get? C=some (excClassObj nm c C N bs bm hdct sn sub ab col dd k0 k1 k2 k3 k5 a)/\h.Ns N mN/\mN "__init__"=none/\OwnTail h b bm:=by
 unfold W.excIn at q
 split at q
 ·rename_i dd o g p
  split at q
  ·rename_i v bm k0 k1 k2 k3 n k5 i j
   simp only [Bool.and_eq_true,beq_iff_eq,Bool.not_eq_true'] at q
   obtain ⟨⟨⟨⟨⟨r,s⟩,k⟩,t⟩,d⟩,m⟩:=q
   subst r s
   cases o with
   | mk nm bs mro u c e sn sub ab col del=>
    dsimp only at i k d m
    subst i k
    have f:g = #[k0,k1,k2,k3,some (.builtin n),k5]:=by
     cases g with
     | mk l=>
      dsimp only at j
      rw [j]
    subst f
    exact ⟨bm,u,nm,c,bs,e,sn,sub,ab,col,dd,k0,k1,k2,k3,k5,_,X _ _ p,.of_isNs (W.isNs_of_in X d),W.nsMap_none_of_in X d m,W.tail_of_in X t⟩
  ·cases q
 ·cases q
structure cA (X:Cx) (E:XK):Prop where
 hd:X.A.handled=none
 out:∀ (qp:LAO) (σ:St) (H:Hp) (s:Shared) (h':Heap) (e C:Addr) (args:List Value),Inv X qp σ H s->Heap.MadeExcOf s.heap h' e (.ref C) args->E (.ref C) none H->X.xe (.ref e) { s with heap:=h' }
noncomputable def zG0 (E:XK) (C:Addr):TS:=λ_ _ H=>E (.ref C) none H
section
variable {X:Cx} {E:XK} {x:Str} {C:Addr}
theorem w6 {j np M a pos} (R:cA X E) (c:qI X.K X.mg x C) (O:Gl X x:=by rfl) (hd:(x == ("__debug__" : Str))=false:=by decide) :
  PS X (.Raise (some (.Call (.Name x np) [.Constant (.str z) j M] [] a)) none pos) (zG0 E C):=by
 intro k s l H D I h
 obtain ⟨m,N,nm,Q,n,b,o,sub,p,d,t,v,w,y,A,B,G,U,Y,i,T⟩:=zEW I.ok.mod.kin c.ok
 refine wpAny_Raise_call_subT (C:=C) (nm:=nm) (q:=Q) (N:=N) (bs:=n) (bm:=m) (hdct:=b) (sn:=o) (sub:=sub) (ab:=p) (col:=d) (dd:=t) (k0:=v) (k1:=w) (k2:=y) (k3:=A) (k5:=B)
  F.excBase_ValueError (mN:=G) (T.hasType F.excBase_ValueError.hasBase) R.hd rfl i (sN I O c.at_ ⟨rfl,?_⟩ hd)
 refine Calls.evalArgs_plain (thn ((zA zJ zB) a k s l H (λJ L=>J=[.str z]/\L=H) I ⟨rfl,rfl⟩) λus s1 f=>?_)
 obtain ⟨J,L,g,r,e1,e2⟩:=f
 subst e1 e2
 obtain ⟨u,rfl,_⟩:=r.one
 exact ⟨rfl,by show 1 <= sizeLine;decide,g.bk _ _ U,Y.keeps g.bk,T.keeps g.bk,λh' e mk=>R.out k l _ s1 h' e C _ g mk h⟩
end
section
variable {P:Program} {w:World} {K:W.Frag} {mg:Str->Option Value} {base:Heap}
theorem xU {A:Around} {c:Shared} (d:z6 k (A.deeper (envOfC a scope c.heap.objs.size f e))) :
  cA (uR (CXE P w) P w K mg base N a scope f e A b c h E) E:=⟨d.hd,λ_ _ _ _ _ _ _ _ I mk g=>zAT I mk g⟩
theorem Fun.okX {x b:Str} {st:Stmt} {f:Addr} {fd:FuncData} {N ps:List Str} {k:Nat} {sp:Sp} (F:Fun K x b st f fd) (S:zO N ps (zG st)) (len:∀ vs H Q E,sp vs H Q E->vs.length=ps.length)
  (d:∀ c A a s H vs Q E,z6 k (A.deeper (envOfC b (zG st) s.heap.objs.size f c))->sp vs H Q E ->
   ∃ t,PSs (uR (CXE P w) P w K mg base N b (zG st) f c A a s H E) (y8 st) t/\t { nx:=λ_ h=>Q .non h,rt:=Q } (start N vs) H):tJ P w K mg base (CXE P w) (k + 1) f fd ps sp:=by
 obtain ⟨n,o,kV,i,pm,p,c,q,j,rfl,l,e⟩:=F.ex
 exact zGK l e S len λA a s H vs Q E m g=>d c A a s H vs Q E m g
theorem yM.okX {x:Str} {st:Stmt} {N ps:List Str} {k:Nat} {sp:Sp} (G:yM K mg x st ps) (S:zO N ps (zG st)) (len:∀ vs H Q E,sp vs H Q E->vs.length=ps.length)
  (c:∀ f b A a s H vs Q E,z6 k (A.deeper (envOfC x (zG st) s.heap.objs.size f b))->sp vs H Q E ->
   ∃ t,PSs (uR (CXE P w) P w K mg base N x (zG st) f b A a s H E) (y8 st) t/\t { nx:=λ_ d=>Q .non d,rt:=Q } (start N vs) H):Cal P w K mg base (CXE P w) (k + 1) x ps sp:=by
 obtain ⟨f,fd,F,e,g⟩:=G.ex
 exact ⟨f,fd,F.okX S len λb A a s H vs Q E i h=>c f b A a s H vs Q E i h,e,F.kp,g⟩
theorem yW.okX {C:Addr} {m b:Str} {st:Stmt} {N ps:List Str} {k:Nat} {sp:Sp} (G:yW K C m b st ps) (S:zO N ps (zG st)) (len:∀ vs H Q E,sp vs H Q E->vs.length=ps.length)
  (d:∀ f c A a s H vs Q E,z6 k (A.deeper (envOfC b (zG st) s.heap.objs.size f c))->sp vs H Q E ->
   ∃ t,PSs (uR (CXE P w) P w K mg base N b (zG st) f c A a s H E) (y8 st) t/\t { nx:=λ_ e=>Q .non e,rt:=Q } (start N vs) H):yI P w K mg base (CXE P w) (k + 1) C m ps sp:=by
 obtain ⟨f,fd,F,g,i⟩:=G.ex
 exact ⟨f,fd,F.okX S len λc A a s H vs Q E j h=>d f c A a s H vs Q E j h,g,i⟩
end
section
variable {X:Cx} {k:Nat} {C:Addr} {ps:List Str} {sp:Sp} {E:XK} {x m:Str} {p pos apos:Pos} {o e:Expr} {es:List Expr} {ta:TE} {t:TA}
theorem rY (D:Cal X.prog X.w X.K X.mg X.base (CXE X.prog X.w) k x ps sp) (hx:uV (CXE X.prog X.w) X E) (c:z6 k X.A) (d:PA X (e :: es) t) (f:Gl X x:=by rfl)
  (a:(x == ("__debug__" : Str))=false:=by decide) (g:starEach (e :: es) X.env=(false,eval e X.env) :: starEach es X.env:=by rfl) (b:(backTo pos (starEach es X.env)).any (·.1)=false:=by rfl) :
  PE X (.Call (.Name x p) (e :: es) [] pos) (mY sp [] E t):=
 let ⟨_,_,F,h,i,j⟩:=D.ex
 dE F c f h i j .nil hx d a g b
theorem vC (D:yI X.prog X.w X.K X.mg X.base (CXE X.prog X.w) k C m ps sp) (hx:uV (CXE X.prog X.w) X E) (c:Cls X.K C) (g:z6 k X.A) (h:PE X o ta) (i:PA X (e :: es) t)
  (a:starEach (e :: es) X.env=(false,eval e X.env) :: starEach es X.env:=by rfl) (b:(backTo pos (starEach es X.env)).any (·.1)=false:=by rfl)
  (j:eval (.Call (.Attribute o m apos) (e :: es) [] pos) X.env=(do
   let d <- eval o X.env
   standAt apos.atName
   let (f,first) <- holding [d] (getMethod d m pl)
   callWith pos f first (backTo pos (starEach (e :: es) X.env)) (backToKw pos (keywordEach [] X.env))):=by rfl) :
  PE X (.Call (.Attribute o m apos) (e :: es) [] pos) (jP C m sp [] E ta t):=
 let ⟨_,_,F,l,n⟩:=D.ex
 dD h c l F g n .nil hx i a b j
end
noncomputable def dX (C a:Addr) (c:Option Addr):Heap->Prop:=λh=>∃ b cells,h.get? a=some b/\cC b C c/\b.data=.fields cells/\cells[2]?=some .none
noncomputable abbrev excP (C a:Addr):Heap->Prop:=dX C a none
noncomputable abbrev zIN (C a:Addr) (b:Option Addr):HO:=.ext (dX C a b)
noncomputable abbrev fR (C a:Addr):HO:=.ext (dX C a none)
noncomputable abbrev XB (X:Cx) (a:LAO) (b:VSP):Cx:={ X with pn:=a,xe:=b }
noncomputable abbrev XH (X:Cx) (b:LAO) (a:Addr):Cx:={ X with pn:=b,A:=X.A.mark (some (.ref a)),calm:=false,xe:=λ_ _=>False }
section
variable {X:Cx} {qp:LAO} {σ:St} {H:Hp} {s:Shared}
theorem Inv.toB (I:Inv X qp σ H s) (a:VSP):Inv (XB X (X.pn ++ qp) a) [] σ H s:=
 ⟨⟨I.ok.mod,I.ok.kind,I.ok.glob,I.ok.blt,I.ok.above,I.ok.inj,I.ok.has,I.ok.cab,I.ok.hd,I.ok.frames,I.ok.stk,I.ok.exf,I.ok.bs,I.ok.bsz,I.ok.noex,I.ok.exfs,I.ok.funs,I.ok.frf⟩,
  I.os,I.bare,I.base,I.loc,I.cell,I.free,I.freeC,λp b=>I.pin p (by simpa using b),I.hok,I.len⟩
theorem Inv.ofB (I:Inv (XB X (X.pn ++ qp) b) a σ H s):Inv X qp σ H s:=
 ⟨⟨I.ok.mod,I.ok.kind,I.ok.glob,I.ok.blt,I.ok.above,I.ok.inj,I.ok.has,I.ok.cab,I.ok.hd,I.ok.frames,I.ok.stk,I.ok.exf,I.ok.bs,I.ok.bsz,I.ok.noex,I.ok.exfs,I.ok.funs,I.ok.frf⟩,
  I.os,I.bare,I.base,I.loc,I.cell,I.free,I.freeC,λp c=>I.pin p (List.mem_append_left _ c),I.hok,I.len⟩
theorem Inv.toH (I:Inv X qp σ H s) (a:Addr):Inv (XH X (X.pn ++ qp) a) [] σ H s:=
 ⟨⟨I.ok.mod,I.ok.kind,I.ok.glob,I.ok.blt,I.ok.above,I.ok.inj,I.ok.has,I.ok.cab,(λz=>by cases z),I.ok.frames,I.ok.stk,I.ok.exf,I.ok.bs,I.ok.bsz,I.ok.noex,I.ok.exfs,I.ok.funs,I.ok.frf⟩,
  I.os,I.bare,I.base,I.loc,I.cell,I.free,I.freeC,λp b=>I.pin p (by simpa using b),I.hok,I.len⟩
theorem Inv.ofH (c:Inv X qp d f g) (I:Inv (XH X (X.pn ++ qp) a) b σ H s):Inv X qp σ H s:=
 ⟨c.ok,I.os,I.bare,I.base,I.loc,I.cell,I.free,I.freeC,λp e=>I.pin p (List.mem_append_left _ e),I.hok,I.len⟩
theorem Inv.lose (I:Inv X qp σ H s) (k:Heap.SameBut X.env.locals s.heap h') (l:h'.Ns X.env.locals m):Inv X qp (List.replicate X.N.length none) H { s with heap:=h' }:=by
 have same:∀ b,b ≠ X.env.locals->h'.get? b=s.heap.get? b:=λb g=>k.2 b g
 have a:∀ b o,X.s₀.heap.get? b=some o->b ≠ X.env.locals:=λb o q=>zNA (zM5 (Heap.lt_size q) I.ok.above)
 refine ⟨I.ok,I.os,I.bare,⟨λb o q n t f=>(same b (a b o q)).trans (I.base.keep b o q n t f),λb o q n g f=>?_,I.base.free,λb o q f=>?_,I.base.tups,I.base.frzs,I.base.tbls⟩,⟨m,l,λi x v E h _=>?_⟩,λx c e=>?_,I.free,I.freeC,λp w=>?_,λb o q=>?_,by simp⟩
 ·obtain ⟨A,z⟩:=I.base.slot b o q n g f
  exact ⟨A,(same b (a b o q)).trans z⟩
 ·obtain ⟨B,z⟩:=I.base.there b o q f
  exact ⟨B,(same b (a b o q)).trans z⟩
 ·rw [List.getElem?_replicate] at h
  split at h <;> cases h
 ·obtain ⟨v,o,q,d⟩:=I.cell x c e
  exact ⟨v,o,(same c (I.cne x c e)).trans q,d⟩
 ·obtain ⟨e,n,ne,C,d⟩:=I.pin p w
  exact ⟨(same _ ne).trans e,n,ne,C,d⟩
 ·refine (I.hok b o q).stay (λc u D z=>(same c λy=>?_).trans z) (λ_ z=>z) λ_ _ z=>z
  have j:=I.free
  rcases D with r | r
  ·rw [<- r,y,j] at q;cases q
  ·rw [y,j] at r;cases r
end
theorem Inv.caught {s f:Shared} (I:Inv X qp σ H s) (os:f.os=s.os) (bare:AllBare f.gens) (u:Un (frs X.stack) [] H h s.heap f.heap)
  (A:HOk X.prog X.w h f.heap) (F:Fly B X.stack a C L .none f.heap) (l:∀ c,h c ≠ none->∃ v,B.get? c=some v) (m:∀ b o,s.heap.get? b=some o->H b=none->b ∉ frs X.stack->B.get? b=some o)
  (g:∀ b o,s.heap.get? b=some o->b ∉ frs X.stack->∃ j,B.get? b=some j) (x:Fly B X.stack a C L .none y) (up:f.heap.UpToSlots y) :
  h a=none/\Inv X qp σ (upd h a (zIN C a L)) { f with heap:=y }:=by
 have M:h a=none:=by
  cases q:h a with
  | none=>rfl
  | some o=>
   obtain ⟨v,N⟩:=l a (by rw [q];intro z;cases z)
   rw [F.2.1] at N;cases N
 have D:a ∉ frs X.stack:=λz=>by
  obtain ⟨E,cells,Y,ot,G,d,_,i,_⟩:=F.2.2.2
  exact zEF F.2.2.1 z d cells i
 have new:∀ b o,s.heap.get? b=some o->b ≠ a:=λb o q z=>by
  subst z
  obtain ⟨j,O⟩:=g b o q D
  rw [F.2.1] at O;cases O
 have ne:∀ b o,h b=some o->b ≠ a:=λb o q z=>by rw [z,M] at q;cases q
 have p:∀ b o,b ∈ frs X.stack->f.heap.get? b=some o->∃ Q,y.get? b=some { o with slots:=Q }:=λb o e q=>up b o q (zEF F.2.2.1 e q)
 refine ⟨M,I.call' (s':={ f with heap:=y }) (ch:=[]) os ⟨λb o q n nb _=>x.1 b o (m b o q n nb),λb o q n e r=>?_,λb o q n r=>?_,λb o q r=>?_,λb T q=>?_,λb o v q=>?_,λb ps q=>?_⟩ (λb o q=>?_) bare λb e=>absurd e zND⟩
 ·obtain ⟨Q,d⟩:=u.slot b o q n e r
  obtain ⟨t,i⟩:=p b _ e d
  exact ⟨t,i⟩
 ·rw [zK (new b o q)];exact u.free b o q n r
 ·by_cases e:b ∈ frs X.stack
  ·obtain ⟨j,d⟩:=u.there b o q r
   obtain ⟨t,i⟩:=p b _ e d
   exact ⟨_,i⟩
  ·obtain ⟨j,d⟩:=g b o q e
   exact ⟨j,x.1 b j d⟩
 ·have d:=u.tups b T q
  rw [zK (ne b _ d)];exact d
 ·have d:=u.frzs b o v q
  rw [zK (ne b _ d)];exact d
 ·obtain ⟨more,d⟩:=u.tbls b ps q
  exact ⟨more,by rw [zK (ne b _ d)];exact d⟩
 ·by_cases e:b=a
  ·subst e
   rw [zC] at q
   cases q
   obtain ⟨E,cells,Y,ot,G,d,i,q3,q4,_⟩:=x.2.2.2
   refine ⟨⟨E,cells,d,i,q3,q4⟩,⟨E,d⟩,λh1 h2 ⟨U,c1,r1,r2,r3,r4⟩ k=>⟨U,c1,k U r1,r2,r3,r4⟩⟩
  ·rw [zK e] at q
   have z:=(A.air F.1 x.1 l) b o q
   exact z.stay (λc v _ z=>z) (λc z=>by rw [zK (ne c _ z)];exact z) λc T z=>by rw [zK (ne c _ z)];exact z
noncomputable def tTry (d:Nat) (ci:Addr->Prop) (n:Nat) (e:XK->TS) (th:Addr->TS):TS:=λD f H=>
 e (λcls g c=>∃ C,cls=.ref C/\ci C/\∀ (a:Addr) (b:St),b.length=d->c a=none->th a { nx:=λ_ _=>False,rt:=D.rt } (b.set n (some (.ref a))) (upd c a (zIN C a g))) D f H
theorem zAZ {X:Cx}
  (hm:X.mg T=some (.ref DC)) (hN:X.N.Nodup) (O:X.N[i]?=some n) (l:X.env.kindOf n=some .local)
  (hb:∀ (g:LAO) (y:VSP) (E1:XK),uV (CXE X.prog X.w) (XB X g y) E1->PSs (XB X g y) body (tb E1))
  (hh:∀ (g:LAO) (a:Addr),PSs (XH X g a) (b0 :: o) (th a)) (hg:Gl X T:=by rfl) (c:X.stack=X.env :: X.outer:=by rfl) (Y:X.env.frame=some X.env.locals:=by rfl) (hk:X.env.scope.kind=.function:=by rfl) (hd:(T == ("__debug__" : Str))=false:=by decide) :
  PS X (.Try body [.ExceptHandler (some (.Name T tp)) (some n) (b0 :: o) hp] [] [] pos) (tTry X.N.length (λC=>W.exmOne X.K (.ref C) (.ref DC)=some true) i tb th):=by
 intro Q s0 a0 H0 D I0 h0
 refine wpAny_Try_except ?_
 have I1:=I0.toB (λe s1=>∃ A H s,Inv X Q A H s/\CXE X.prog X.w X.stack H s (λcls U d=>∃ C,cls=.ref C/\W.exmOne X.K (.ref C) (.ref DC)=some true/\∀ (a:Addr) (b:St),b.length=X.N.length->d a=none->th a { nx:=λ_ _=>False,rt:=D.rt } (b.set i (some (.ref a))) (upd d a (zIN C a U))) e s1)
 have run:=hb _ _ _ (λa1 A H s e s' I z=>⟨A,H,s,I.ofB,z⟩) [] s0 a0 H0 D I1 h0
 refine wpAny_mono run (λf s1 t=>?_) λe s1 t=>?_
 ·cases f with
  | next=>
   obtain ⟨b,d,p,q⟩:=t
   exact wpAny_execs_nil ⟨b,d,p.ofB,q⟩
  | brk=>obtain ⟨b,d,p,q⟩:=t;exact ⟨b,d,p.ofB,q⟩
  | cont=>obtain ⟨b,d,p,q⟩:=t;exact ⟨b,d,p.ofB,q⟩
  | ret v=>obtain ⟨x,b,d,p,r,q⟩:=t;exact ⟨x,b,d,p.ofB,r,q⟩
 ·obtain ⟨A,H,s,I,a,C,U,B,d,rfl,os,bare,u,E,F,G,j,k,C',eC,hex,a2⟩:=t
  cases eC
  have Fs:=F
  rw [c] at Fs
  refine dL (by rw [I.ok.frames,c]) Y Fs λh2 F2 u2=>?_
  refine p7 F2 λh3 F3 u3=>?_
  have a3:Fly B X.stack a C U .none h3:=by rw [c];exact F3
  obtain ⟨ha,I3⟩:=I.caught os bare u E F G j k a3 (u2.trans u3)
  obtain ⟨ob,cells,ac,ot,ae,ge,gc,_⟩:=id F3.2.2.2
  have LT:W.Looks (model X.prog X.w) h3 (typeOf (.ref a)) (.ref C):=by
   have z:W.Looks (model X.prog X.w) h3 (typeOf (.ref a)) ob.cls:=(W.Looks.ld ge).andThen .now
   rw [gc.1] at z;exact z
  refine wpAny_handleBy_cons (codeAny_handlers_test ?_) (by intro z;cases z)
  refine sN (I3.toH a) (show Gl (XH X (X.pn ++ Q) a) T from hg) hm ?_ hd
  refine W.exm_one (M:=model X.prog X.w) I3.kIn LT hex _ _ _ _ (λ_ _ z=>z) ?_
  refine codeAny_handlers_suite_as ?_
  refine p7 F3 λh4 F4 u4=>?_
  have a4:Fly B X.stack a C U .none h4:=by rw [c];exact F4
  obtain ⟨_,I4⟩:=I.caught os bare u E F G j k a4 ((u2.trans u3).trans u4)
  refine rN I4 hN O (.inl l) (v:=.ref a) rfl (λs5 I5=>?_) (.inr l)
  refine wpAny_mono (hh (X.pn ++ Q) a [] s5 _ _ _ (I5.toH a) (a2 a A I.len ha)) (λf s6 h=>?_) λ_ _ z=>z.elim
  cases f with
  | next=>obtain ⟨_,_,_,z⟩:=h;exact z.elim
  | brk=>obtain ⟨_,_,_,z⟩:=h;exact z.elim
  | cont=>obtain ⟨_,_,_,z⟩:=h;exact z.elim
  | ret v=>
   obtain ⟨x6,J,H6,I6,r6,q6⟩:=h
   have L:Inv X Q J H6 s6:=I4.ofH I6
   refine wpAny_bind (wpAny_bindName (rN L hN O (.inl l) (v:=.non) rfl (λs7 I7=>?_) (.inr l)))
   unfold unbindBehindTheSuite
   obtain ⟨m,hn,a5⟩:=id I7.loc
   have a6:(J.set i (some V.non))[i]?=some (some V.non):=by
    rw [zNG]
    rw [L.len];exact (zML.mp O).1
   obtain ⟨v7,_,lk⟩:=a5 i n .non O a6 (.inl l)
   have hv:m n=some v7:=by
    rcases lk with ⟨_,z⟩ | ⟨z,_⟩
    ·exact z
    ·rcases z with z | z <;> (rw [l] at z;cases z)
   refine wpAny_onRaise (wpAny_unbindName_local l hn hv (by rw [hk];rfl) λh8 w8 aa ab=>?_)
   exact ⟨x6,_,H6,I7.lose ab aa,r6,q6⟩
end L2
namespace L2
open PySem PySem.Spec PyProof.Rows PySem.W
structure mV (K:Frag) (C:Addr):Prop where
 ga:findIn K (.ref C) "__getattribute__"=some (some (.builtin "BaseException.__getattribute__"))
 gt:findIn K (.ref C) "__getattr__"=some none
 ca:findIn K (.ref C) "__class__"=some (some (.builtin "object.__class__"))
 sg:specialIn K (.builtin "object.__class__") "__get__"=some (some (.builtin "getset_descriptor.__get__"))
 tk:takesIn K (.builtin "object.__class__")=some true
 mo:mroIn K C (.type "object")=some true
 hd:hasDictIn K C=true
 be:subIn K (.ref C) (.type "BaseException")=some true
section
variable {prog:Program} {w:World} {A:Around} {E:VSP} {K:Frag} {x C:Addr} {ox:Obj} {od:Option Obj} {h:Heap} {g:Array GenState} {d:Drawn} {t:Nat} {os:OsState}
theorem zB8 (k:mV K C):findObj K C od "__class__"=some (.bind (.builtin "getset_descriptor.__get__") (.builtin "object.__class__")):=by
 obtain ⟨b,a,_⟩:=any_some k.hd
 unfold findObj
 rw [a,Option.bind_some,k.ca,Option.bind_some]
 simp [k.sg,k.tk]
theorem pL (k:mV K C) (X:K.In h) (I:InstAt h x ox C od) (a:Q (.done (.ret (.ref C))) ⟨h,g,d,t,os⟩) :
  wpAny (model prog w) A (Builtin.«object.__getattribute__» ⟨[.ref x,.str "__class__" tok],[]⟩) Q E ⟨h,g,d,t,os⟩:=by
 have b:=I.type (M:=model prog w)
 have c:=looks_find (M:=model prog w) X I (zB8 k)
 unfold Builtin.«object.__getattribute__»
 repeat (any_goals (first | assumption | with_reducible refine b.at ?_ | with_reducible refine c.at ?_ | wp_step))
 exact class_get (s:=⟨h,g,d,t,os⟩) X I k.mo (wpAny_pure a)
theorem jG {M:Model} {xB:Value} {Q:Unit->Shared->Prop} (k:mV K C) (X:K.In h) (I:InstAt h x ox C od) (e:Q () ⟨h,g,d,t,os⟩) :
  wpAny M A (checkBuiltinCall "BaseException.__getattribute__" ⟨[.ref x,xB],[]⟩) Q E ⟨h,g,d,t,os⟩:=by
 have a:builtinKind "BaseException.__getattribute__"=some .slot:=by decide +kernel
 have b:splitId "BaseException.__getattribute__"=some ("BaseException","__getattribute__"):=by decide +kernel
 have c:Looks M h (isInstance (.ref x) (.type "BaseException")) true:=(I.type (M:=M)).andThen (looks_subIn X k.be)
 have f:=F.args_bexc_ga (.ref x) xB
 simp only [checkBuiltinCall,a,b]
 refine wpAny_bind (c.at ?_)
 repeat (any_goals (first | assumption | wp_step))
theorem nQ (k:mV K C) (X:K.In h) (I:InstAt h x ox C od) (a:R (.ok (.ret (.ref C))) ⟨h,g,d,t,os⟩) :
  codeAny (model prog w) A (.call (.builtin "BaseException.__getattribute__") ⟨[.ref x,.str "__class__" tok],[]⟩) R ⟨h,g,d,t,os⟩:=
 codeAny_call_builtin F.attrBase_ValueError.ga.plain F.entry_bexc_ga (jG k X I (pL k X I a))
theorem jF (k:mV K C) (X:K.In h) (I:InstAt h x ox C od) (e:Q (.ref C) ⟨h,g,d,t,os⟩) :
  wpAny (model prog w) A (getAttrBy (.ref x) (.str "__class__" tok) false) Q E ⟨h,g,d,t,os⟩:=by
 have f:=F.attrBase_ValueError.ga.bind (.ref x)
 have a:(Value.builtin "BaseException.__getattribute__" == Value.builtin "object.__getattribute__")=false:=by decide +kernel
 have i:(onTheHeap (Value.ref C) && Value.builtin "BaseException.__getattribute__" == Value.builtin "object.__getattribute__")=false:=by rw [a];rfl
 have b:=I.type (M:=model prog w)
 have c:=looks_findIn (M:=model prog w) X k.ga
 have L2:=looks_findIn (M:=model prog w) X k.gt
 repeat (any_goals (first | assumption | with_reducible refine b.at ?_ | with_reducible refine c.at ?_ | with_reducible refine L2.at ?_ | wp_step))
 refine nQ k X I ?_
 repeat (any_goals (first | assumption | wp_step))
theorem nR (k:mV K C) (X:K.In h) (I:InstAt h x ox C od) (a:Q (some (.ref C)) ⟨h,g,d,t + 1,os⟩) :
  wpAny (model prog w) A (getAttr? (.ref x) "__class__") Q E ⟨h,g,d,t,os⟩:=by
 unfold getAttr? getAttrBy?
 repeat (any_goals (first | assumption | with_reducible apply jF k X I | wp_step))
theorem iV (k:mV K C):KitX K (.ref x) (.ref C) (λh=>∃ ox od,InstAt h x ox C od) where
 ty:=λ_ _ _ ⟨_,_,I⟩=>I.type
 it:=λ_ _ X _=>by
  obtain ⟨cd,hc,_⟩:=any_some k.hd
  unfold clsIn at hc
  split at hc
  ·rename_i c1 d1 cd1 sl1 hk
   intro A' Q' E' s' kk q
   unfold isType loadHead
   exact wpAny_bind (wpAny_loadPart (kk _ _ (X _ _ hk)) (wpAny_pure q))
  ·cases hc
 ne:=λh tp dd its n sl X htp=>by
  obtain ⟨cd,hc,_⟩:=any_some k.hd
  refine Bool.eq_false_iff.mpr λq=>?_
  have e1:=Value.ref.inj (beq_iff_eq.mp q)
  subst e1
  unfold clsIn at hc
  split at hc
  ·rename_i c1 d1 cd1 sl1 hk
   cases ((X _ _ hk).symm.trans htp)
  ·cases hc
 ca:=λ{_ _ _ _ _ s} X ⟨ox,od,I⟩ hq=>by
  obtain ⟨h,g,d,t,os⟩:=s
  exact nR k X I hq
end
section
variable {X:Cx}
theorem iY (p:dX C a c h) (hd:∀ dx,c=some dx->∃ o,h.get? dx=some o):∃ i j,InstAt h a i C j:=by
 obtain ⟨b,cells,d,⟨e,f⟩,k,_⟩:=p
 have g:notCls b=true:=by unfold notCls;rw [k]
 cases c with
 | none=>exact ⟨b,none,d,e,g,by rw [f];trivial⟩
 | some dx=>
  obtain ⟨o,l⟩:=hd dx rfl
  exact ⟨b,some o,d,e,g,by rw [f];exact l⟩
noncomputable def zKS (K:Frag) (c:V) (d:Value):List V->Hp->VK->Prop:=λe H Q=>∃ a C b,e=[.ref a,c]/\H a=some (fR C a)/\mV K C/\kitOne K (.ref C) d=some b/\Q (.bl b) H
theorem wU:vU X (.builtin "isinstance") (zKS X.K (.ref D) (.ref D)):=by
 intro i s j H l m Q I r h
 obtain ⟨a,C,b,rfl,c,k,e,q⟩:=h
 obtain ⟨u,v,rfl,d,f⟩:=r.two
 cases d;cases f
 obtain ⟨p,_,_⟩:=(show xJ X.prog X.w H s.heap a (fR C a) from I.hok a _ c)
 exact kia_one (iV k) I.kIn (iY p (λ_ z=>nomatch z)) e (λz=>nomatch z) λg=>⟨.bl b,H,I.tok g,rfl,q⟩
theorem b5:vU X (.builtin "isinstance") (zKS X.K (.ty T) (.type T)):=by
 intro i s j H l m Q I r h
 obtain ⟨a,C,b,rfl,c,k,e,q⟩:=h
 obtain ⟨u,v,rfl,d,f⟩:=r.two
 cases d;cases f
 obtain ⟨p,_,_⟩:=(show xJ X.prog X.w H s.heap a (fR C a) from I.hok a _ c)
 exact kia_one (iV k) I.kIn (iY p (λ_ z=>nomatch z)) e (λz=>nomatch z) λg=>⟨.bl b,H,I.tok g,rfl,q⟩
end
end L2
namespace L2
open PySem PySem.Spec PyProof.Rows
section
variable {prog:Program} {w:World} {A:Around} {E:VSP} {s:Shared}
theorem mT:entryFor table "proto.unchain"=some Builtin.«proto.unchain»:=entryFor_of_fast (by kernel_rfl)
theorem lT (a:s.heap.get? hx=some b) (c:b.data=.fields cells) (g2:cells[2]?=some .none) (q:Q .none s) :
  wpAny (model prog w) A (runValue (.builtin "proto.unchain" ⟨[.ref e,.ref hx,.ref hx,.bool false],[]⟩)) Q E s:=by
 refine wpAny_runValue (codeAny_builtin mT ?_)
 unfold Builtin.«proto.unchain»
 refine wpAny_bind (wpAny_field a c g2 ?_)
 rw [if_pos (by rfl)]
 first | exact wpAny_pure q | (refine wpAny_bind ?_;exact wpAny_pure (wpAny_pure q)) | (repeat (any_goals (first | assumption | wp_step)))
theorem mP {e hx:Addr} {oe b:Obj} {cells ce:Array Value} {c:Type} {Q:c->Shared->Prop} (d:A.handled=some (.ref hx)) (f:s.heap.get? hx=some b) (g:b.data=.fields cells) (g2:cells[2]?=some .none)
  (ge:s.heap.get? e=some oe) (a:oe.data=.fields ce) (h:2 < ce.size) (ne:hx ≠ e) (q:E (.ref e) { s with heap:=s.heap.update e (Obj.mapFields (·.setIfInBounds 2 (.ref hx))) }) :
  wpAny (model prog w) A (raiseNew (.ref e):Sem c) Q E s:=by
 simp only [raiseNew]
 refine wpAny_bind (wpAny_handled ?_)
 rw [d]
 have i:(Value.ref hx != Value.ref e)=true:=by simp [ne]
 dsimp only
 rw [if_pos i]
 refine wpAny_bind (wpAny_holding (lT f g g2 ?_))
 refine wpAny_bind ?_
 unfold updateField
 refine wpAny_bind (wpAny_load ge ?_)
 rw [a]
 dsimp only
 rw [if_pos h]
 exact wpAny_update ge (wpAny_throw q)
theorem cZ {f hx C:Addr} {x left step:Int} {Q:Option Value->Shared->Prop} (n:A.handled=some (.ref hx)) (p:excP C hx s.heap) (hit:IsRangeIter s.heap f x left step) (d:left <= 0)
  (r:∀ h',(∀ b o,s.heap.get? b=some o->h'.get? b=some o)->Q none { s with heap:=h' }):wpAny (model prog w) A (pyNext (.ref f)) Q E s:=by
 have ty:s.TypeIs (.ref f) "range_iterator":=⟨_,hit,rfl⟩
 obtain ⟨y,cells,k,_,t,g2⟩:=p
 unfold pyNext
 refine wpAny_bind (wpAny_attempt (wpAny_callSpecial?_slot (name:=Str.ofString "__next__") ty F.slot_range_iterator_next (wpAny_call_entry F.slot_range_iterator_next ty F.entry_range_iterator_next ?_ (F.args_range_iterator_next_1 _))))
 change wpAny _ _ (field (.ref f) 0 >>= _) _ _ s
 refine wpAny_bind (wpAny_field hit rfl (x:=rawInt x) rfl (show wpAny _ _ (field (.ref f) 1 >>= _) _ _ s from wpAny_bind (wpAny_field hit rfl (x:=rawInt left) rfl (show wpAny _ _ (field (.ref f) 2 >>= _) _ _ s from wpAny_bind (wpAny_field hit rfl (x:=rawInt step) rfl ?_)))))
 change wpAny _ _ (if left <= 0 then _ else _) _ _ s
 rw [if_pos d]
 refine wpAny_bind (wpAny_rule (wpAny_bind ?_))
 change wpAny _ _ (newExc (.type "StopIteration") [] >>= _) _ _ _
 refine wpAny_bind ?_
 simp only [newExc,newTuple]
 refine wpAny_bind (wpAny_newObj_type (T:="tuple") ?_ (by size_fits))
 refine wpAny_bind (m:=firstArgMember _ _) (wpAny_of_eq (a:=Value.none) (by first | rfl | (simp only [firstArgMember];rfl)) (wpAny_newObj_type ?_ (by size_fits)))
 generalize h:(s.heap.push _:Heap)=g1
 have i:∀ b o,s.heap.get? b=some o->g1.get? b=some o:=λb o q=>by rw [<- h];exact Heap.get?_push_of_some _ q
 generalize g:({ cls:=Value.type "StopIteration",dict:=none,data:=_ }:Obj)=e
 have l:∀ b o,s.heap.get? b=some o->(g1.push e).get? b=some o:=λb o q=>Heap.get?_push_of_some _ (i b o q)
 have c:∃ ce:Array Value,e.data=.fields ce/\2 < ce.size:=⟨_,by rw [<- g],by simp;omega⟩
 obtain ⟨ce,c,u⟩:=c
 have ge:(g1.push e).get? g1.objs.size=some e:=Heap.get?_push_size _ (Obj.isFreed_of_fields c)
 have v:e.cls=.type "StopIteration":=by rw [<- g]
 have j:hx ≠ g1.objs.size:=zNA (Heap.lt_size (i _ _ k))
 have up:∀ b o,s.heap.get? b=some o->((g1.push e).update g1.objs.size (Obj.mapFields (·.setIfInBounds 2 (.ref hx)))).get? b=some o:=λb o q=>by
  rw [Heap.get?_update_other _ _ (Nat.ne_of_gt (Heap.lt_size (i b o q)))];exact l b o q
 refine mP (hx:=hx) (oe:=e) (ce:=ce) n (l _ _ k) t g2 ge c u j ?_
 dsimp only
 refine wpAny_bind (wpAny_isInstance (T:="StopIteration") (b:=true) ⟨_,Heap.get?_update_self _ ge (Obj.isFreed_of_fields (Obj.data_mapFields c _)),(Obj.cls_mapFields _ _).trans v⟩ isSubtype_stop ?_)
 exact wpAny_pure (r _ up)
end
structure zGO (hx:Addr) (P:Program) (w:World) (tg:Expr) (J:It) (fp:List Addr) (it:Addr) (tn:Nat->Heap->Prop):Prop where
 mem:it ∈ fp
 obj:∀ i h,tn i h->∀ b ∈ fp,∃ o,h.get? b=some o/\∀ v,o.data ≠ .cell v
 keep:∀ i h h',tn i h->(∀ b ∈ fp,∀ o,h.get? b=some o->h'.get? b=some o)->tn i h'
 item:∀ (X:Cx),X.prog=P->X.w=w->X.A.handled=some (.ref hx)->∀ (i:Nat) (qp:LAO) (s:Shared) (σ:St) (H:Hp) (E:VSP),Inv X qp σ H s->(∀ b ∈ fp,uW X qp H b)->tn i s.heap->J.go i H ->
  wpAny (model P w) X.A (pyNext (.ref it)) (λr s1=>∃ u,r=some u /\
   wpAny (model P w) X.A (letOwnedTupleGo tg (.ref it) u) (λ_ s2=>∃ x H',Inv X qp σ H' s2/\yU x u/\J.yld i H x H'/\tn (i + 1) s2.heap/\∀ b ∈ fp,H' b=none) E s1) E s
 done:∀ (X:Cx),X.prog=P->X.w=w->X.A.handled=some (.ref hx)->∀ (i:Nat) (qp:LAO) (s:Shared) (σ:St) (H:Hp) (E:VSP),Inv X qp σ H s->(∀ b ∈ fp,uW X qp H b)->tn i s.heap->J.stop i H ->
  wpAny (model P w) X.A (pyNext (.ref it)) (λr s1=>r=none/\Inv X qp σ H s1) E s
 self:∀ (A:Around) (i:Nat) (s:Shared) (Q:VSP) (E:VSP),tn i s.heap->Q (.ref it) s->wpAny (model P w) A (pyIter (.ref it)) Q E s
noncomputable def zMG (hx:Addr) (X:Cx) (qp:LAO) (σ:St) (h:Expr) (R:It->Hp->Prop) (a:Value) (d:Shared):Prop:=
 ∃ e f g J c,a=.ref e/\Inv X qp σ c d/\zGO hx X.prog X.w h J f e g/\g 0 d.heap/\(∀ b ∈ f,uW X qp c b)/\R J c
noncomputable def PIH (hx:Addr) (X:Cx) (c iter:Expr) (d:TI):Prop:=
 ∀ b s a H R,Inv X b a H s->d a H R ->
  wpAny (model X.prog X.w) X.A (eval iter X.env) (λv e=>wpAny (model X.prog X.w) X.A (pyIter v) (zMG hx X b a c R) X.xe e) X.xe s
noncomputable def zFG (hx:Addr) (lo:Int) (n:Nat):It:=⟨λi _=>i < n,λi H x a=>a=H/\x=.int (lo + i),λi H=>n <= i/\∃ C,H hx=some (fR C hx)⟩
theorem jM {hx:Addr} {P:Program} {w:World} {tg:Expr} (it:Addr) (lo:Int) (n:Nat):zGO hx P w tg (zFG hx lo n) [it] it (λi h=>IsRangeIter h it (lo + (i:Nat) * 1) ((n:Int) - (i:Nat)) 1) where
 mem:=by simp
 obj:=λi h st b hb=>by
  have e:b=it:=by simpa using hb
  subst e
  exact ⟨_,st,λv z=>by
   have z':Data.fields _=Data.cell v:=z
   cases z'⟩
 keep:=λi h h' st k=>k it (by simp) _ st
 item:=by
  intro X hP hw hc i qp s σ H E I hf st hg
  subst hP hw
  obtain ⟨f0,f1,f2,f3,f4,f5⟩:=hf it (by simp)
  refine wpAny_pyNext_range_item st (by have:i < n:=hg;omega) λh' st' sb=>?_
  have I1:Inv X qp σ H { s with heap:=h',toks:=s.toks + 1 }:=I.turned (λb o hb e=>(sb.2 b hb).trans e) f0 f1 f3 f4 f5
  have e1:lo + ((i + 1:Nat):Int) * 1=lo + (i:Int) * 1 + 1:=by omega
  have e2:(n:Int) - ((i + 1:Nat):Int)=(n:Int) - (i:Int) - 1:=by omega
  have st2:IsRangeIter h' it (lo + ((i + 1:Nat):Int) * 1) ((n:Int) - ((i + 1:Nat):Int)) 1:=by rw [e1,e2];exact st'
  refine ⟨_,rfl,dW (s:={ s with heap:=h',toks:=s.toks + 1 }) (n:="range_iterator") st' rfl rfl (by decide) ⟨.int (lo + i),H,I1,⟨s.toks,?_⟩,⟨rfl,rfl⟩,st2,λb hb=>(hf b hb).1⟩⟩
  rw [Int.mul_one]
 done:=by
  intro X hP hw hc i qp s σ H E I hf st hg
  subst hP hw
  obtain ⟨f0,f1,f2,f3,f4,f5⟩:=hf it (by simp)
  obtain ⟨hn,C,hC⟩:=hg
  obtain ⟨p,_,_⟩:=(show xJ X.prog X.w H s.heap hx (fR C hx) from I.hok hx _ hC)
  exact cZ hc p st (by omega) λh' kk=>⟨rfl,I.kept (t':=s.toks) λb o e=>kk b o e⟩
 self:=λ_ _ _ _ _ st h=>wpAny_pyIter_rangeiter st h
section
variable {X:Cx} {tg:Expr} {hx:Addr}
theorem cO {qp:LAO} {σ:St} {H:Hp} {s:Shared} {R:It->Hp->Prop} {E:VSP} {lo a:Int} {t u v:Tok} {c:Nat} (I:Inv X qp σ H s) (f:-(2 ^ 62) <= lo) (g:lo < 2 ^ 62) (h:-(2 ^ 62) <= a) (i:a < 2 ^ 62)
  (q:R (zFG hx lo (a - lo).toNat) H):wpAny (model X.prog X.w) X.A (pyIter (.ref s.heap.objs.size)) (zMG hx X qp σ tg R) E { s with heap:=s.heap.push { cls:=.type "range",data:=.fields #[.int lo t,.int a u,.int 1 v] },toks:=c }:=by
 refine wpAny_pyIter_range (IsRange.new ..) (small_one f g h i) ?_
 have d:Inv X qp σ H { s with heap:=s.heap.push { cls:=.type "range",data:=.fields #[.int lo t,.int a u,.int 1 v] },toks:=c }:=I.kept λb o e=>Heap.get?_push_of_some _ e
 refine ⟨(s.heap.push { cls:=.type "range",data:=.fields #[.int lo t,.int a u,.int 1 v] }).objs.size,[(s.heap.push { cls:=.type "range",data:=.fields #[.int lo t,.int a u,.int 1 v] }).objs.size],_,_,H,rfl,
  d.kept (t':=c) λb o e=>Heap.get?_push_of_some _ e,jM _ lo (a - lo).toNat,?_,λb j=>?_,q⟩
 ·have k:lo + ((0:Nat):Int) * 1=lo:=by simp
  have l:(((a - lo).toNat:Nat):Int) - ((0:Nat):Int)=Builtin.Range.rangeSize lo a 1:=by rw [rangeSize_one];split <;> omega
  show IsRangeIter _ _ (lo + ((0:Nat):Int) * 1) ((((a - lo).toNat:Nat):Int) - ((0:Nat):Int)) 1
  rw [k,l]
  exact Heap.get?_push_size _ rfl
 ·have e:b=(s.heap.push { cls:=.type "range",data:=.fields #[.int lo t,.int a u,.int 1 v] }).objs.size:=by simpa using j
  subst e
  exact d.fpOk (zMS _) (d.hok.fresh (zMS _))
noncomputable def zIK (hx:Addr) (a:TA):TI:=λb H R=>a b H λc d=>∃ j:Int,c=[.int j]/\-(2 ^ 62) <= j/\j < 2 ^ 62/\R (zFG hx 0 j.toNat) d
theorem gW {a:Expr} {d:TA} {p pos:Pos} (f:Gl X "range") (g:X.mg "range"=none) (i:PA X [a] d) (k:starEach [a] X.env=[(false,eval a X.env)]:=by rfl):PIH hx X tg (.Call (.Name "range" p) [a] [] pos) (zIK hx d):=by
 intro l s m H R I h
 refine Call_ (rE I f g boot_range (PyProof.Rows.callWith_type1 (thn (i pos l s m H _ I h) λv w b=>?_) k rfl))
 obtain ⟨x,y,n,o,c⟩:=b
 obtain ⟨j,e,c,r,q⟩:=c
 subst e
 obtain ⟨u,rfl,t,rfl⟩:=o.one
 exact call_range_1 (cO n (by omega) (by omega) c r (by simpa using q))
end
theorem zBV
    (S:xN X xs ix scope) (u:X.A.handled=some (.ref ax)) (y:PIH ax X t iter z)
    (B:∀ C b s H,PG (cxC X xs ix scope C b s H) t g) (D:∀ C b s H,PTs (cxC X xs ix scope C b s H) l E) (G:∀ C b s H,PE (cxC X xs ix scope C b s H) n L)
 (I:Inv X qp σ H s) (h:tLC xs ix z g E L σ H Q)
    (fin:∀ acc C d s' m,Q (.ref acc) d->s'.heap.Ns C m->(∀ h',Heap.SameBut C s'.heap h'->∀ M,Inv X qp σ d { s' with heap:=h',toks:=M })->(X.s₀.heap.objs.size <= C/\C ≠ X.env.locals/\(∀ x c,X.env.cells.lookup x=some c->c ≠ C)/\(∀ p ∈ X.pn ++ qp,p.1 ≠ C)/\d C=none)->compPost (model X.prog X.w) X.A X.xe use R (.ref acc) C (.ok .next) s') :
    wpAny (model X.prog X.w) X.A (eval iter X.env) (λx f=>wpAny (model X.prog X.w) X.A (pyIter x) (λo i=>wpAny (model X.prog X.w) X.A (newList []) (λacc j=>
      wpAny (model X.prog X.w) X.A (newFunctionEnv scope X.env.globals (clF X.env scope.names []) [] X.env.qual none .none (some X.env)) (λa k=>
        codeAny (model X.prog X.w) X.A (.compStart (.ListComp n [⟨t,iter,l,0⟩] scope pos) 0 o acc { a with scope:=relabel scope X.env }) (compPost (model X.prog X.w) X.A X.xe use R acc a.locals) k) X.xe j) X.xe i) X.xe f) X.xe s:=
  iT (Reg:=λY=>Y.A.handled=some (.ref ax)) S (λY _ _ e=>e.trans u)
    (λqp s σ H R I q=>thn (y qp s σ H R I q) λv s1 O=>thn O λU s2 h2=>by
      obtain ⟨o,b,tn,J,d,e,I',T,r⟩:=h2
      exact ⟨o,b,tn,J,d,e,I',⟨T.mem,T.obj,T.keep,T.item,T.done,T.self⟩,r⟩) B D G I h fin
theorem cR {X:Cx} {f pos b:Pos}
  (Y:X.N.Nodup) (u:X.N[i]?=some x) (hx:Loc X.env.scope x)
  (S:xN X xs ix scope) (hc:X.A.handled=some (.ref ax)) (hi:PIH ax X t iter wi)
  (hg:∀ C l s H,PG (cxC X xs ix scope C l s H) t g) (ht:∀ C l s H,PTs (cxC X xs ix scope C l s H) j tt) (he:∀ C l s H,PE (cxC X xs ix scope C l s H) o te)
  (y:swapsWith (.ListComp o [⟨t,iter,j,0⟩] scope f) (some (.Name x b)) pos.line X.env=pure true)
  (hf:X.fn x=true \/ X.env.scope.names.lookup x=some .local:=by first | exact .inl rfl | exact .inr rfl | assumption)
  (hs:∀ x,foldedSetIterable iter X.env x=pure x:=by intro _;rfl) :
  PS X (.Assign [.Name x b] (.ListComp o [⟨t,iter,j,0⟩] scope f) pos) (oE (tLC xs ix wi g tt te) (wI i)):=by
 intro U s σ H D I h
 have B:∀ n,(n,NameKind.free) ∈ scope.names->(X.env.cells.lookup n).isSome=true:=λn E=>by
  obtain ⟨c,e⟩:=I.ok.has n (S.fre n E)
  rw [e];rfl
 rw [exec_Assign_Name_used _ _ _ _ y]
 refine wpAny_bind (wpAny_standAt (wpAny_bind ?_))
 rw [arm_evalThenUse_ListComp]
 refine wpAny_bind (thn (Q:=λ_ p=>SP X U D .next p) (wpAny_comprehension_free (g:=⟨t,iter,j,0⟩) (gs:=[]) (use:=some (assign (.Name x b) X.env)) rfl hs (vA B) S.kind S.loc ?_) λ_ s1 h1=>wpAny_pure (wpAny_pure h1))
 refine zBV S hc hi hg ht he I h λacc C H' p m q E k G=>?_
 have I':=k p.heap (Heap.SameBut.refl _ _) p.toks
 show wpAny (model X.prog X.w) X.A (assign (.Name x b) X.env (.ref acc)) (λ_ d=>∃ m,d.heap.Ns C m/\∀ J,Heap.SameBut C d.heap J->SP X U D .next { d with heap:=J }) X.xe p
 refine wpAny_assign_Name (qK I' Y u hx (v:=.ref acc) rfl (λd L r=>?_) hf)
 obtain ⟨a,M,O⟩:=r
 refine ⟨m,E.sameBut M ?_,λJ T=>⟨_,H',L.letgo T G,q⟩⟩
 rcases O with rfl | O
 ·exact G.2.1
 ·exact λz=>G.2.2.1 x a O z.symm
structure zCT (k:Nat) (A:Around):Prop where
 dp:A.depth + 3 * k + 5 < recursionLimit
 un:A.units + 16 * k + 200 < cLine
theorem z6.toH (r:z6 k A) (o:Option Value):zCT k (A.mark o):=⟨r.dp,r.un⟩
noncomputable abbrev SpH:=Addr->List V->Hp->VK->Prop
structure zGQ (P:Program) (w:World) (K:W.Frag) (mg:Str->Option Value) (base:Heap) (k:Nat) (f:Addr) (fd:FuncData) (ps:List Str) (sp:SpH):Prop where
 len:∀ hx vs H Q,sp hx vs H Q->vs.length=ps.length
 run:∀ (hx:Addr) (A:Around) (outer:List Env) (s:Shared) (H:Hp) (args:Args) (us:List Value) (vs:List V) (Q:VK),zCT k A->A.handled=some (.ref hx)->gB P w K mg base A outer s H->BindsTo s fd args (ps.zip us)->yH vs us->sp hx vs H Q ->
  codeAny (model P w) A (.call (.ref f) args) (CR CX0 outer P w H s Q (λ_ _ _=>False)) s
noncomputable def cxH (P:Program) (w:World) (K:W.Frag) (mg:Str->Option Value) (base:Heap) (N:List Str) (b:Str) (scope:Scope) (f:Addr) (d:Value) (A:Around) (a:List Env) (s:Shared) (H:Hp):Cx:=
 { uR CX0 P w K mg base N b scope f d A a s H (λ_ _ _=>False) with calm:=false,xe:=λ_ _=>False }
theorem Fun.okH {P:Program} {w:World} {K:W.Frag} {mg:Str->Option Value} {base:Heap} {x d:Str} {st:Stmt} {f:Addr} {fd:FuncData} {N ps:List Str} {k:Nat} {sp:SpH} (F:Fun K x d st f fd) (S:zO N ps (zG st)) (len:∀ hx vs H Q,sp hx vs H Q->vs.length=ps.length)
  (i:∀ hx h A c s H vs Q,A.handled=some (.ref hx)->sp hx vs H Q ->
   ∃ t,PSs (cxH P w K mg base N d (zG st) f h A c s H) (y8 st) t/\t { nx:=λ_ m=>Q .non m,rt:=Q } (start N vs) H):zGQ P w K mg base (k + 1) f fd ps sp:=by
 obtain ⟨oc,od,kV,L,pm,an,h,ct,M,rfl,O,B⟩:=F.ex
 refine ⟨len,λhx A c s H args T vs Q U Y g hb r p=>?_⟩
 have hl:=len _ _ _ _ p
 have G:=g.mod.kin.keeps λb o e=>(g.bs b o e).1
 have C:=g.mod.nolimit.keeps λb o e=>(g.bs b o e).1
 have j:∀ y ∈ ps.zip T,(zG st).names.lookup y.1=some .local \/ ((zG st).names.lookup y.1=some .cell/\((cellsFrom (s.heap.objs.size + 1) (zG st).names []).lookup y.1).isSome=true):=λ⟨n,v⟩ hy=>by
  rcases S.par n (List.of_mem_zip hy).1 with q | q
  ·exact .inl q
  ·exact .inr ⟨q,W.cellsFrom_some _ _ _ (.inl q)⟩
 refine codeAny_call_function (by have:=U.dp;omega) (G _ _ O) rfl S.co S.gen rfl (W.codeRec_of G B) (hb _ _ _ _ ?_)
 refine wpAny_newFunctionEnv_cells S.kind j λa0 he D x=>?_
 subst he
 refine ⟨C.keeps x.toInCall.keep,codeAny_func ?_⟩
 obtain ⟨t,ht,hq⟩:=i hx h A c s H vs Q Y p
 have a:Inv (uR CX0 P w K mg base N d (zG st) f h { A with handled:=none } c s H (λ_ _ _=>False)) [] (start N vs) H D:=
  lB S rfl ⟨g.frames,g.mod,g.bs,g.bsz,g.funs,g.frf,g.hok,g.bare⟩ hl r x
 have I:Inv (cxH P w K mg base N d (zG st) f h A c s H) [] (start N vs) H D:=
  ⟨⟨a.ok.mod,a.ok.kind,a.ok.glob,a.ok.blt,a.ok.above,a.ok.inj,a.ok.has,a.ok.cab,(λz=>by cases z),a.ok.frames,a.ok.stk,a.ok.exf,a.ok.bs,a.ok.bsz,a.ok.noex,a.ok.exfs,a.ok.funs,a.ok.frf⟩,
   a.os,a.bare,a.base,a.loc,a.cell,a.free,a.freeC,a.pin,a.hok,a.len⟩
 refine wpAny_mono (ht [] D (start N vs) H _ I hq) (λfl s' l=>?_) λe s' l=>l.elim
 cases fl with
 | ret u=>
  obtain ⟨v,E,m,J,rv,q⟩:=l
  exact ⟨v,m,J.os,J.bare,J.base,J.hok,rv,q⟩
 | next=>
  obtain ⟨E,m,J,q⟩:=l
  exact ⟨V.non,m,J.os,J.bare,J.base,J.hok,rfl,q⟩
 | brk=>
  obtain ⟨_,_,_,q⟩:=l
  exact q.elim
 | cont=>
  obtain ⟨_,_,_,q⟩:=l
  exact q.elim
structure zFH (P:Program) (w:World) (K:W.Frag) (mg:Str->Option Value) (base:Heap) (k:Nat) (x:Str) (ps:List Str) (sp:SpH):Prop where
 ex:∃ (f:Addr) (fd:FuncData),zGQ P w K mg base k f fd ps sp/\mg x=some (.ref f)/\W.keepIn K (.ref f)=true/\uX K fd ps []
theorem yM.okH {P:Program} {w:World} {K:W.Frag} {mg:Str->Option Value} {base:Heap} {x:Str} {st:Stmt} {N ps:List Str} {k:Nat} {sp:SpH} (G:yM K mg x st ps) (S:zO N ps (zG st)) (len:∀ hx vs H Q,sp hx vs H Q->vs.length=ps.length)
  (b:∀ f hx c A a s H vs Q,A.handled=some (.ref hx)->sp hx vs H Q ->
   ∃ t,PSs (cxH P w K mg base N x (zG st) f c A a s H) (y8 st) t/\t { nx:=λ_ d=>Q .non d,rt:=Q } (start N vs) H):zFH P w K mg base (k + 1) x ps sp:=by
 obtain ⟨f,fd,F,e,g⟩:=G.ex
 exact ⟨f,fd,F.okH S len λhx c A a s H vs Q i h=>b f hx c A a s H vs Q i h,e,F.kp,g⟩
noncomputable def gF (hx:Addr) (sp:SpH) (t:TA):TE:=λa H Q=>t a H λb c=>sp hx b c Q
theorem dF {X:Cx} (D:zFH X.prog X.w X.K X.mg X.base k x ps sp) (o:zCT k X.A) (v:X.A.handled=some (.ref hx)) (y:PA X (e :: d) t) (z:Gl X x:=by rfl)
  (j:(x == ("__debug__" : Str))=false:=by decide) (B:starEach (e :: d) X.env=(false,eval e X.env) :: starEach d X.env:=by rfl) (l:(backTo pos (starEach d X.env)).any (·.1)=false:=by rfl) :
  PE X (.Call (.Name x p) (e :: d) [] pos) (gF hx sp t):=by
 obtain ⟨f,fd,F,C,E,G⟩:=D.ex
 intro J s L H Q I h
 refine wpAny_Call_Name_kw (sN I z C ?_ j)
 refine W.callWith_K (h₀:=X.base) I.ok.mod.kin E (thn (y pos J s L H _ I h) λg n a=>?_) B l
 obtain ⟨M,N,i,r,q⟩:=a
 refine ⟨i.kIn,?_⟩
 have O:g.length=ps.length:=by rw [<- r.length];exact F.len _ _ _ _ q
 have b:=G n g i.kIn (by simpa using O)
 rw [List.append_nil] at b
 refine wpAny_call (codeAny_mono (F.run hx X.A X.stack n N ⟨g,[]⟩ g M Q o v i.env0 b r q) λr U c=>?_)
 cases r with
 | error e=>exact c.elim
 | ok T=>
  cases T with
  | ret u=>exact i.after c
  | next=>exact c.elim
  | brk=>exact c.elim
  | cont=>exact c.elim
theorem gU {X:Cx} {f a pos b:Pos}
  (m:X.A.handled=some (.ref ax)) (g:X.N.Nodup) (h:X.N[i]?=some y) (hx:Loc X.env.scope y)
  (n:sI N sc [x] ix scope) (o:PIH ax X (.Name x f) iter p)
  (q:∀ C c s H,PTs (cxC X [x] ix scope C c s H) d r) (t:∀ C c s H,PE (cxC X [x] ix scope C c s H) e u)
  (v:X.N=N:=by rfl) (j:X.env.scope=sc:=by rfl)
  (k:swapsWith (.ListComp e [⟨.Name x f,iter,d,0⟩] scope a) (some (.Name y b)) pos.line X.env=pure true:=by rfl)
  (w:X.fn y=true \/ X.env.scope.names.lookup y=some .local:=by first | exact .inl rfl | exact .inr rfl | assumption)
  (z:∀ x,foldedSetIterable iter X.env x=pure x:=by intro _;rfl) :
  PS X (.Assign [.Name y b] (.ListComp e [⟨.Name x f,iter,d,0⟩] scope a) pos) (oE (tLC [x] ix p (wI 0) r u) (wI i)):=by
 have S:=n.at (X:=X) v j
 have l:∀ C c s H,(cxC X [x] ix scope C c s H).env.scope.names.lookup x=some .local:=λ_ _ _ _=>lookup_relabel_local (S.own x (by simp))
 exact cR g h hx S m o (λC c s H=>yL S.nd rfl (Or.inl (l C c s H)) (.inr (l C c s H))) q t k w z
theorem bE {hx:Addr} {xs:List Str} {ix:List Nat} {g:TG} {e:TT} {f:TE} {lo:Int} {n:Nat} {σ:St} {H1:Hp} {Q:VK} {acc:Addr} (k:n < sizeLine) (Pv:Nat->List V->St->Hp->Prop)
  (l:Pv 0 [] (stC xs ix σ) (upd H1 acc (.lst [])))
  (d:∀ i ys a H,Pv i ys a H->H acc=some (.lst ys)/\ys.length <= i)
  (m:∀ i ys a H,i < n->Pv i ys a H->g (.int (lo + i)) a H λc o=>e c o λb H3=>
   if b=true then f c H3 λy j=>j acc=some (.lst ys)/\Pv (i + 1) (ys ++ [y]) c (upd j acc (.lst (ys ++ [y]))) else Pv (i + 1) ys c H3)
  (q:∀ ys a H,Pv n ys a H->∃ C,H hx=some (fR C hx))
  (hd:∀ ys a H,Pv n ys a H->Q (.ref acc) H):LCW (zFG hx lo n) xs ix g e f σ H1 acc Q:=
 dQ k (λi=>.int (lo + i)) Pv l d (λi _ _ _ h _=>h) (λi _ _ _ _ _ _ _ h=>h) (λys a H p=>⟨zMS n,q ys a H p⟩) m hd
section
variable {X:Cx} {es es1:List Expr} {t t1:TA}
theorem swL {es:List Expr} {p:Pos} {t:Option Expr} {n:Nat} {env:Env}:swapsWith (.List es p) t n env=pure false:=rfl
inductive CV:Expr->V->Prop
 | str {z:Str} {j p}:CV (.Constant (.str z) j p) (.str z)
 | int {z:Int} {j p}:CV (.Constant (.int z) j p) (.int z)
 | bl {z:Bool} {j p}:CV (.Constant (.bool z) j p) (.bl z)
 | non {j p}:CV (.Constant .none j p) .non
inductive CVs:List Expr->List V->Prop
 | nil:CVs [] []
 | cons {e:Expr} {v:V} {es:List Expr} {vs:List V} (h:CV e v) (t:CVs es vs):CVs (e :: es) (v :: vs)
noncomputable def zGZ (vs:List V) (t:TA):TA:=λa H Q=>t a H (λb c=>Q (vs ++ b) c)
theorem dH (h:PA X es t) (b:CVs d vs):PA X (d ++ es) (zGZ vs t):=by
 induction b with
 | nil=>exact h
 | cons c _ a=>
  cases c with
  | str=>exact zA zJ a
  | int=>exact zA zH a
  | bl=>exact zA wH a
  | non=>exact zA yV a
theorem gZ (n:Nat) {vs:List V} (a:CVs (es.take n) vs) (h:PA X (es.drop n) t):PA X es (zGZ vs t):=by
 have z:=dH h a
 rwa [List.take_append_drop] at z
theorem dC {i:Nat} {x:Str} {pos a b:Pos} (c:X.N.Nodup) (d:X.N[i]?=some x) (hx:Loc X.env.scope x) (e:X.fn x=true \/ X.env.scope.names.lookup x=some .local) (h:PA X es t) :
  PS X (.Assign [.Name x a] (.List es b) pos) (oE (jQ t) (wI i)):=zX c d hx (yN h) swL e
noncomputable def zJB (vs:List V):TA:=λ_ H Q=>Q vs H
theorem zHM {vs:List V} (h:CVs es vs):PA X es (zJB vs):=by
 have z:=dH (X:=X) zB h
 have e:zGZ vs t7=zJB vs:=by
  funext a H Q
  show Q (vs ++ []) H=Q vs H
  rw [List.append_nil]
 rwa [List.append_nil,e] at z
end
section
variable {X:Cx}
end
end L2
namespace L2
open PySem PySem.Spec PyProof.Rows PySem.Builtin.Str
theorem zES (n:Int) (L:Nat) (h:0 <= n):strSliceIndices none (some n) 1 L=strSliceIndices (some ((0:Nat):Int)) (some ((min n.toNat L:Nat):Int)) 1 L:=by
 obtain ⟨m,rfl⟩:=Int.eq_ofNat_of_zero_le h
 have a:∀ k:Nat,¬ ((k:Nat):Int) < 0:=λk=>Int.not_lt.mpr (Int.natCast_nonneg k)
 have b:∀ k:Nat,max (0:Int) (k:Int)=(k:Int):=λk=>Int.max_eq_right (Int.natCast_nonneg k)
 have c:∀ x y:Nat,min (x:Int) (y:Int)=((min x y:Nat):Int):=λx y=>by
  rcases Nat.le_total x y with h | h
  ·rw [Nat.min_eq_left h,Int.min_eq_left (Int.ofNat_le.mpr h)]
  ·rw [Nat.min_eq_right h,Int.min_eq_right (Int.ofNat_le.mpr h)]
 unfold strSliceIndices
 dsimp only
 rw [Int.toNat_natCast,if_neg (a m),if_neg (a 0),if_neg (a (min m L)),if_pos (by decide),if_pos (by decide),if_pos (by decide),c,c,c,b,b,b,Nat.zero_min,Nat.min_assoc,Nat.min_self]
 rfl
theorem cI (x:Str) (n:Int) (h:0 <= n):(Txt.slice x none (some n)).length=min n.toNat x.length:=by
 have e:=zES n x.length h
 have p:=PySem.StrLaws.sliced_plain x (a:=0) (b:=min n.toNat x.length) (zMT _) (Nat.min_le_right _ _)
 unfold Txt.slice
 rw [e]
 split
 ·rename_i q
  rw [PySem.StrLaws.strSliceIndices_plain (zMT _) (Nat.min_le_right _ _)] at q
  simp at q
  omega
 ·show (List.toArray _).size=_
  rw [p]
  simp [Str.length]
noncomputable def zAS (x:Str) (n:Int):Str:=⟨(List.replicate n.toNat x.cps).foldl (· ++ ·) #[]⟩
theorem dB (a:Array Nat):∀ n acc,((List.replicate n a).foldl (· ++ ·) acc).size=acc.size + n * a.size
 | 0,acc=>by simp
 | n + 1,acc=>by
  rw [List.replicate_succ,List.foldl_cons,dB a n]
  rw [Array.size_append,Nat.succ_mul]
  omega
theorem oO (x:Str) (n:Int):(zAS x n).length=n.toNat * x.length:=by
 show ((List.replicate n.toNat x.cps).foldl (· ++ ·) #[]).size=_
 rw [dB]
 simp [Str.length]
noncomputable def zKQ:R2:=λx y H Q=>∃ z n,x=.str z/\y=.int n/\1 < n/\1 <= z.length/\z.length * n.toNat <= 100000/\Q (.str (zAS z n)) H
theorem zD4:OpR X (binaryOp .Mult) zKQ:=by
 intro f s g H x y v u Q I b c h
 obtain ⟨z,n,rfl,rfl,i,d,a,q⟩:=h
 obtain ⟨t,rfl⟩:=b
 obtain ⟨j,rfl⟩:=c
 have k:=zMU (Nat.le_mul_of_pos_left _ d) a
 have e:=zMU (Nat.le_mul_of_pos_right _ (by omega)) a
 refine P.mul_str ?_ (λ_ _=>?_) (λ_ _=>?_) ?_
 ·simp;omega
 ·have:(z.length:Int) <= 100000:=by omega
  have l:(100000:Int) <= (2 ^ 63 - 1) / n:=by
   rw [Int.le_ediv_iff_mul_le (by omega)]
   have:n <= 100000:=by omega
   omega
  omega
 ·unfold tooLong
  simp only [decide_eq_false_iff_not]
  rw [sizeLine_eq]
  omega
 ·rw [if_neg (by omega),if_neg (by simp;omega)]
  refine ⟨?_,.str (zAS z n),H,I.tok _,⟨_,rfl⟩,q⟩
  show (zAS z n).length <= sizeLine
  rw [oO,sizeLine_eq,Nat.mul_comm]
  omega
end L2
namespace PySem.SeqAt
open AutoSeq1 (wpAny_loadPart')
open MeetsSeq
end PySem.SeqAt
namespace L2
open PySem PySem.Spec PyProof.Rows
section
variable {X:Cx}
end
end L2
namespace HT
open PySem PySem.Spec PyProof.Rows L2
section
variable {prog:Program} {w:World} {A:Around} {E:Value->Shared->Prop} {s:Shared}
theorem getItem_tuple_self {t c:Addr} {items:Array Value} {g i:Value} {lo b:Option Int} {Q:Value->Shared->Prop} (a:IsTup s.heap t items)
  (j:s.heap.IsSliceOf c g i .none) (pl:IsPart g lo) (k:IsPart i b) (l:sIx items.size 0 lo=0) (m:sIx items.size items.size b=items.size) (h:Q (.ref t) s):wpAny (model prog w) A (getItem (.ref t) (.ref c)) Q E s:=by
 obtain ⟨os,d,e,n⟩:=id j
 have f:s.TypeIs (.ref c) "slice":=⟨os,d,e⟩
 unfold getItem
 try with_reducible refine wpAny_holding ?_
 first | refine wpAny_bind (wpAny_pure ?_) | skip
 refine wpAny_bind (wpAny_sequenceKey a.typeIs (by decide) (wpAny_bind ?_))
 refine wpAny_callSpecial?_slot (name:=Str.ofString "__getitem__") a.typeIs PyProof.Rows.slot_tuple_getitem (wpAny_call_entry PyProof.Rows.slot_tuple_getitem a.typeIs entry_tuple_getitem ?_ (args_tuple_getitem _ _))
 change wpAny _ _ (Builtin.Tuple.tupleItemsOf (.ref t) >>= _) _ _ s
 refine wpAny_bind (tupleItemsOf_ a (wpAny_bind (wpAny_typeOf f ?_)))
 rw [if_pos (by decide)]
 refine wpAny_bind (sliceApplied_gen j pl k ?_)
 have yes:(((sIx items.size 0 lo:Nat):Int) == 0 && (1:Int) == 1 && (sIx items.size items.size b - sIx items.size 0 lo) == items.size)=true:=by
  rw [l,m];simp
 show wpAny _ _ (if (((sIx items.size 0 lo:Nat):Int) == 0 && (1:Int) == 1 && (sIx items.size items.size b - sIx items.size 0 lo) == items.size)=true then _ else _) _ _ s
 rw [if_pos yes]
 unfold Builtin.Tuple.tupleIsExact
 refine wpAny_bind ?_
 refine wpAny_bind (wpAny_typeOf a.typeIs ?_)
 refine wpAny_pure ?_
 rw [if_pos (by decide)]
 exact wpAny_bind (wpAny_rule (wpAny_pure ⟨_,rfl,wpAny_pure h⟩))
end
end HT
namespace L2
open PySem PySem.Spec PyProof.Rows
noncomputable def cQ (K:W.Frag):V->Option Int->Option Int->Hp->VK->Prop:=λx lo c H Q=>∃ a b,x=.ref a/\SqT K H a b /\
 ((HT.sIx b.length 0 lo=0/\HT.sIx b.length b.length c=b.length/\Q (.ref a) H) \/ (¬ (HT.sIx b.length 0 lo=0/\HT.sIx b.length b.length c=b.length)/\∀ p,H p=none->Q (.ref p) (upd H p (.tup (uS b lo c)))))
theorem rP:SlR X (cQ X.K):=by
 intro l s m H x v n o lo p t Q I d e f g h
 obtain ⟨a,i,rfl,j,h⟩:=h
 rcases h with ⟨u,w,q⟩ | ⟨y,q⟩
 ·cases d
  obtain ⟨c,r,k,z⟩:=I.tuple j
  have b:c.toArray.size=i.length:=by rw [zMR];exact r.length.symm
  exact ⟨"tuple",_,PyProof.Rows.slot_tuple_getitem.lookup,k.typeIs,HT.getItem_tuple_self k e f g (by rw [b];exact u) (by rw [b];exact w) ⟨.ref a,H,I,rfl,q⟩⟩
 ·exact zG7 l s m H _ v n o lo p t Q I d e f g ⟨a,i,rfl,j,y,q⟩
section
variable {X:Cx} {e:Expr} {te:TE} {pos p1 p2 p3:Pos} {j1:Nat}
noncomputable def zI9 (K:W.Frag) (te:TE):TE:=λd H Q=>te d H λx b=>∃ a c,x=.ref a/\SqL K b a c/\∀ p,b p=none->Q (.ref p) (upd b p (.lst c.reverse))
theorem zHG (r:yH xs us):yH xs.reverse us.reverse:=by
 induction r with
 | nil=>exact .nil
 | cons r _ a=>rw [List.reverse_cons,List.reverse_cons];exact a.append (.cons r .nil)
theorem zKU:PE X (.UnaryOp .USub (.Constant (.int 1) j1 p1) p3) (λ_ H Q=>Q (.int (-1)) H):=by
 intro a s b H Q I h
 exact (zF8 aC zH) a s b H Q I ⟨1,rfl,h⟩
theorem zD3 (t:PE X e te):PE X (.Subscript e (.Slice none none (some (.UnaryOp .USub (.Constant (.int 1) j1 p1) p3)) p2) pos) (zI9 X.K te):=by
 intro g s i H Q I h
 refine Subscript_ (thn (t g s i H _ I h) λv u d=>?_)
 obtain ⟨x,l,y,z,B⟩:=d
 refine wpAny_Slice ?_
 rw [evalPart_none]
 refine wpAny_pure (wpAny_pure ?_)
 refine thn ((wA (zKU (X:=X) (j1:=j1) (p1:=p1) (p3:=p3))) g u i l (λo C=>o=some (-1)/\C=l) y ⟨-1,rfl,rfl,rfl⟩) λm c f=>?_
 obtain ⟨o,D,E,G,J,L⟩:=f
 subst J L
 obtain ⟨a,M,rfl,N,q⟩:=B
 cases z
 have j:Inv X g i D { c with heap:=c.heap.push { cls:=.type "slice",data:=.fields #[.none,.none,m] } }:=E.kept (t':=c.toks) λb T q=>Heap.get?_push_of_some _ q
 obtain ⟨k,r,n,U⟩:=j.list N
 have p:=r.length
 show wpAny (model X.prog X.w) X.A (subscriptTail e (.Slice none none (some (.UnaryOp .USub (.Constant (.int 1) j1 p1) p3)) p2) (.ref a) (.ref c.heap.objs.size)) (EP X g i Q) X.xe { c with heap:=c.heap.push { cls:=.type "slice",data:=.fields #[.none,.none,m] } }
 refine tail_any (ops:=[.ref a,.ref c.heap.objs.size]) n.isList.typeIs slot_list_getitem.lookup ?_ (by with_unfolding_all rfl)
 refine wpAny_getItem_list_slice n.isList (Heap.IsSliceOf.new ..) .none .none G (by simp) ?_ (by rw [zMR] <;> omega)
 rw [W.krv_pick]
 have I5:=j.laid (t':=c.toks) (o:=.lst M.reverse) (λb T q=>Heap.get?_push_of_some { cls:=.type "list",data:=.seq k.reverse.toArray } q) (zMS _) ?_
 ·exact ⟨.ref _,_,I5,rfl,q _ (j.hok.fresh (zMS _))⟩
 ·exact ⟨by rw [List.length_reverse];exact U,_,0,zHG r,Heap.get?_push_size _ rfl⟩
end
end L2
namespace L2
open PySem PySem.Spec PyProof.Rows PySem.W
noncomputable def evK {b:Type} (lt:Nat->Nat->Bool):KasT b->b
 | .ret a=>a
 | .ask i j k=>evK lt (k (lt i j))
theorem sF {b c:Type} (lt:Nat->Nat->Bool) (f:b->KasT c) (t:KasT b):evK lt (t.bind f)=evK lt (f (evK lt t)):=by
 induction t with
 | ret a=>rfl
 | ask i j k d=>exact d (lt i j)
structure LtO (lt:Nat->Nat->Bool):Prop where
 asym:∀ i j,lt i j=true->lt j i=false
 trn:∀ i j k,lt j i=false->lt k j=false->lt k i=false
section
variable {lt:Nat->Nat->Bool}
noncomputable abbrev gA (p:Array Nat) (i:Nat):Nat:=p.getD i 0
noncomputable def leK (lt:Nat->Nat->Bool) (i j:Nat):Prop:=lt j i=false
noncomputable def Up (lt:Nat->Nat->Bool) (p:Array Nat) (k:Nat):Prop:=∀ i j,i <= j->j < k->leK lt (gA p i) (gA p j)
noncomputable def Dn (lt:Nat->Nat->Bool) (p:Array Nat) (k:Nat):Prop:=∀ i j,i <= j->j < k->leK lt (gA p j) (gA p i)
theorem xW (O:LtO lt) (i:Nat):leK lt i i:=by
 unfold leK
 cases e:lt i i with
 | false=>rfl
 | true=>exact absurd (O.asym i i e) (by rw [e];simp)
theorem xT (O:LtO lt) (a:leK lt i j) (b:leK lt j k):leK lt i k:=O.trn i j k a b
theorem kY (O:LtO lt) (h:lt i j=true):leK lt i j:=O.asym i j h
theorem nK {p:Array Nat} (a:j <= p.size) (k:Nat):gA (kas_rev p i j) k=if i <= k/\k < j then gA p (i + j - 1 - k) else gA p k:=by
 unfold gA kas_rev
 rw [zNI,zNI,zNI,getElem?_mirror_all a]
 split <;> rfl
theorem zB5 {p:Array Nat} (a:k < p.size) (b:l <= k) (x:Nat):gA (bubble p k (k - l)) x=if x=l then gA p k else if l < x/\x <= k then gA p (x - 1) else gA p x:=by
 unfold gA
 rw [zNI,zNI,zNI,zNI,getElem?_bubble a (k - l) (by omega)]
 rw [show k - (k - l)=l by omega]
 repeat' split
 all_goals first | rfl | omega
theorem oN (p:Array Nat) (i j:Nat):(kas_rev p i j).size=p.size:=mirror_size _ _ _ _
theorem vK (p:Array Nat) (i j:Nat):(kas_rev p i j).Perm p:=mirror_perm _ _ _ _
theorem zGT (O:LtO lt) (p:Array Nat):Up lt p 1:=λi j a b=>by
 have:i=j:=by omega
 rw [this];exact xW O _
theorem Up.more (O:LtO lt) (h:Up lt p n) (d:1 <= n) (e:leK lt (gA p (n - 1)) (gA p n)):Up lt p (n + 1):=λi j a f=>by
 by_cases b:j < n
 ·exact h i j a b
 ·have c:j=n:=by omega
  subst c
  by_cases g:i < j
  ·exact xT O (h i (j - 1) (by omega) (by omega)) e
  ·have:i=j:=by omega
   rw [this];exact xW O _
theorem Dn.more (O:LtO lt) (h:Dn lt p n) (d:1 <= n) (e:leK lt (gA p n) (gA p (n - 1))):Dn lt p (n + 1):=λi j a f=>by
 by_cases b:j < n
 ·exact h i j a b
 ·have c:j=n:=by omega
  subst c
  by_cases g:i < j
  ·exact xT O e (h i (j - 1) (by omega) (by omega))
  ·have:i=j:=by omega
   rw [this];exact xW O _
theorem zCR (O:LtO lt) (p:Array Nat):∀ f n,1 <= n->Up lt p n->n <= evK lt (kas_asc p f n)/\evK lt (kas_asc p f n) <= n + f/\Up lt p (evK lt (kas_asc p f n)) /\
  (evK lt (kas_asc p f n) < n + f->lt (gA p (evK lt (kas_asc p f n))) (gA p (evK lt (kas_asc p f n) - 1))=true):=by
 intro f
 induction f with
 | zero=>exact λn a h=>⟨zMS _,zMS _,h,λz=>absurd z (Nat.lt_irrefl _)⟩
 | succ f b=>
  intro n a h
  have e:evK lt (kas_asc p (f + 1) n)=evK lt (if lt (gA p n) (gA p (n - 1))=true then .ret n else kas_asc p f (n + 1)):=rfl
  rw [e]
  cases c:lt (gA p n) (gA p (n - 1)) with
  | true=>
   rw [if_pos rfl]
   exact ⟨zMS _,Nat.le_add_right _ _,h,λ_=>c⟩
  | false=>
   rw [if_neg (by simp)]
   obtain ⟨i,j,d,g⟩:=b (n + 1) (by omega) (h.more O a c)
   exact ⟨by omega,by omega,d,λz=>g (by omega)⟩
noncomputable def EqS (lt:Nat->Nat->Bool) (p:Array Nat) (n q:Nat):Prop:=∀ i,n - (q + 1) <= i->i < n->leK lt (gA p i) (gA p (n - 1))/\leK lt (gA p (n - 1)) (gA p i)
theorem dA (O:LtO lt) {p:Array Nat} (b:n <= p.size) (g:q + 1 <= n) (h:EqS lt p n q) (x:Nat):leK lt (gA (kas_rev p (n - (q + 1)) n) x) (gA p x)/\leK lt (gA p x) (gA (kas_rev p (n - (q + 1)) n) x):=by
 rw [nK b]
 split
 ·next a=>
  obtain ⟨c,d⟩:=h x a.1 a.2
  obtain ⟨e,f⟩:=h (n - (q + 1) + n - 1 - x) (by omega) (by omega)
  exact ⟨xT O e d,xT O c f⟩
 ·exact ⟨xW O _,xW O _⟩
theorem zCE (O:LtO lt) {p:Array Nat} (b:n <= p.size) (c:q + 1 <= n) (h:EqS lt p n q) (d:Dn lt p k):Dn lt (kas_rev p (n - (q + 1)) n) k:=λi j a e=>
 xT O (dA O b c h j).1 (xT O (d i j a e) (dA O b c h i).2)
theorem zEZ (O:LtO lt):∀ f p n q,q + 1 <= n->n + f <= p.size->Dn lt p n->EqS lt p n q ->
  (evK lt (kas_desc f p n q)).1.Perm p/\n <= (evK lt (kas_desc f p n q)).2.1/\(evK lt (kas_desc f p n q)).2.1 <= n + f/\Dn lt (evK lt (kas_desc f p n q)).1 (evK lt (kas_desc f p n q)).2.1 /\
  (evK lt (kas_desc f p n q)).2.2 + 1 <= (evK lt (kas_desc f p n q)).2.1/\EqS lt (evK lt (kas_desc f p n q)).1 (evK lt (kas_desc f p n q)).2.1 (evK lt (kas_desc f p n q)).2.2:=by
 intro f
 induction f with
 | zero=>exact λp n q a o b g=>⟨.refl _,zMS _,zMS _,b,a,g⟩
 | succ f m=>
  intro p n q a o b g
  have e:evK lt (kas_desc (f + 1) p n q)=evK lt (if lt (gA p n) (gA p (n - 1))=true then (if q > 0 then kas_desc f (kas_rev p (n - (q + 1)) n) (n + 1) 0 else kas_desc f p (n + 1) 0)
   else .ask (gA p (n - 1)) (gA p n) λd=>if d=true then .ret (p,n,q) else kas_desc f p (n + 1) (q + 1)):=rfl
  rw [e]
  have one:∀ p:Array Nat,EqS lt p (n + 1) 0:=λp i a o=>by
   have:i=n + 1 - 1:=by omega
   rw [this];exact ⟨xW O _,xW O _⟩
  cases c:lt (gA p n) (gA p (n - 1)) with
  | true=>
   rw [if_pos rfl]
   have r:=b.more O (by omega) (kY O c)
   by_cases s:q > 0
   ·rw [if_pos s]
    obtain ⟨h,t,u,j,k,l⟩:=m (kas_rev p (n - (q + 1)) n) (n + 1) 0 (by omega) (by rw [oN];omega) (zCE O (by omega) a g r) (one _)
    exact ⟨h.trans (vK _ _ _),by omega,by omega,j,k,l⟩
   ·rw [if_neg s]
    obtain ⟨h,t,u,j,k,l⟩:=m p (n + 1) 0 (by omega) (by omega) r (one _)
    exact ⟨h,by omega,by omega,j,k,l⟩
  | false=>
   rw [if_neg (by simp)]
   show (evK lt (if lt (gA p (n - 1)) (gA p n)=true then .ret (p,n,q) else kas_desc f p (n + 1) (q + 1))).1.Perm p/\_
   show _/\n <= (evK lt (if lt (gA p (n - 1)) (gA p n)=true then .ret (p,n,q) else kas_desc f p (n + 1) (q + 1))).2.1/\(evK lt (if lt (gA p (n - 1)) (gA p n)=true then .ret (p,n,q) else kas_desc f p (n + 1) (q + 1))).2.1 <= _/\Dn lt (evK lt (if lt (gA p (n - 1)) (gA p n)=true then .ret (p,n,q) else kas_desc f p (n + 1) (q + 1))).1 (evK lt (if lt (gA p (n - 1)) (gA p n)=true then .ret (p,n,q) else kas_desc f p (n + 1) (q + 1))).2.1/\(evK lt (if lt (gA p (n - 1)) (gA p n)=true then .ret (p,n,q) else kas_desc f p (n + 1) (q + 1))).2.2 + 1 <= (evK lt (if lt (gA p (n - 1)) (gA p n)=true then .ret (p,n,q) else kas_desc f p (n + 1) (q + 1))).2.1/\EqS lt (evK lt (if lt (gA p (n - 1)) (gA p n)=true then .ret (p,n,q) else kas_desc f p (n + 1) (q + 1))).1 (evK lt (if lt (gA p (n - 1)) (gA p n)=true then .ret (p,n,q) else kas_desc f p (n + 1) (q + 1))).2.1 (evK lt (if lt (gA p (n - 1)) (gA p n)=true then .ret (p,n,q) else kas_desc f p (n + 1) (q + 1))).2.2
   cases d:lt (gA p (n - 1)) (gA p n) with
   | true=>
    rw [if_pos rfl]
    exact ⟨.refl _,zMS _,Nat.le_add_right _ _,b,a,g⟩
   | false=>
    rw [if_neg (by simp)]
    have v:EqS lt p (n + 1) (q + 1):=λi g1 g2=>by
     rw [Nat.add_sub_cancel]
     by_cases w:i=n
     ·rw [w];exact ⟨xW O _,xW O _⟩
     ·obtain ⟨x,y⟩:=g i (by omega) (by omega)
      exact ⟨xT O x c,xT O d y⟩
    obtain ⟨h,t,u,j,k,l⟩:=m p (n + 1) (q + 1) (by omega) (by omega) (b.more O (by omega) d) v
    exact ⟨h,by omega,by omega,j,k,l⟩
theorem aB {p:Array Nat} (a:n <= p.size) (d:Dn lt p n):Up lt (kas_rev p 0 n) n:=λi j b c=>by
 rw [nK a,nK a,if_pos ⟨zMT _,by omega⟩,if_pos ⟨zMT _,c⟩]
 exact d _ _ (by omega) (by omega)
theorem fZ (O:LtO lt) {p:Array Nat} (a:1 <= n) (f:n <= nrem) (hz:nrem <= p.size) (d:Dn lt p n) :
  (evK lt (kas_tail3 n nrem p)).2.Perm p/\1 <= (evK lt (kas_tail3 n nrem p)).1/\(evK lt (kas_tail3 n nrem p)).1 <= nrem/\Up lt (evK lt (kas_tail3 n nrem p)).2 (evK lt (kas_tail3 n nrem p)).1:=by
 unfold kas_tail3
 rw [sF]
 obtain ⟨b,c,e,_⟩:=zCR O (kas_rev p 0 n) (nrem - n) n a (aB (by omega) d)
 exact ⟨vK _ _ _,zMU a b,zMU c (by omega),e⟩
theorem pE (O:LtO lt) {p:Array Nat} (o:1 <= n) (q:n + 1 <= nrem) (hz:nrem <= p.size) (d:Dn lt p (n + 1)) :
  (evK lt (kas_descPart n nrem p)).2.Perm p/\1 <= (evK lt (kas_descPart n nrem p)).1/\(evK lt (kas_descPart n nrem p)).1 <= nrem/\Up lt (evK lt (kas_descPart n nrem p)).2 (evK lt (kas_descPart n nrem p)).1:=by
 unfold kas_descPart
 rw [sF]
 obtain ⟨a,l,m,b,h,j⟩:=zEZ O (nrem - (n + 1)) p (n + 1) 0 (by omega) (by omega) d (λi g1 g2=>by
  have:i=n + 1 - 1:=by omega
  rw [this];exact ⟨xW O _,xW O _⟩)
 generalize evK lt (kas_desc (nrem - (n + 1)) p (n + 1) 0)=r at a l m b h j ⊢
 have s:=a.size_eq
 by_cases k:r.2.2 > 0
 ·rw [if_pos k]
  obtain ⟨c,e,f,g⟩:=fZ O (p:=kas_rev r.1 (r.2.1 - (r.2.2 + 1)) r.2.1) (n:=r.2.1) (nrem:=nrem) (by omega) (by omega) (by rw [oN];omega) (zCE O (by omega) h j b)
  exact ⟨(c.trans (vK _ _ _)).trans a,e,f,g⟩
 ·rw [if_neg k]
  obtain ⟨c,e,f,g⟩:=fZ O (p:=r.1) (n:=r.2.1) (nrem:=nrem) (by omega) (by omega) (by omega) b
  exact ⟨c.trans a,e,f,g⟩
theorem zCN (O:LtO lt) {p:Array Nat} (D:1 <= nrem) (hz:nrem <= p.size) :
  (evK lt (kas_count nrem p)).2.Perm p/\1 <= (evK lt (kas_count nrem p)).1/\(evK lt (kas_count nrem p)).1 <= nrem/\Up lt (evK lt (kas_count nrem p)).2 (evK lt (kas_count nrem p)).1:=by
 unfold kas_count
 rw [sF]
 obtain ⟨f,r,a,l⟩:=zCR O p (nrem - 1) 1 (zMS _) (zGT O p)
 generalize evK lt (kas_asc p (nrem - 1) 1)=m at f r a l ⊢
 by_cases o:m=nrem
 ·rw [if_pos (by simpa using o)]
  exact ⟨.refl _,f,by show m <= nrem;omega,a⟩
 ·rw [if_neg (by simpa using o)]
  have c:=l (by omega)
  by_cases q:m > 1
  ·rw [if_pos q]
   have e:evK lt (KasT.ask (gA p 0) (gA p (m - 1)) λc=>if c=true then .ret (m,p) else kas_descPart m nrem (kas_rev p 0 m))=evK lt (if lt (gA p 0) (gA p (m - 1))=true then .ret (m,p) else kas_descPart m nrem (kas_rev p 0 m)):=rfl
   rw [e]
   cases d:lt (gA p 0) (gA p (m - 1)) with
   | true=>rw [if_pos rfl];exact ⟨.refl _,f,by show m <= nrem;omega,a⟩
   | false=>
    rw [if_neg (by simp)]
    have all:∀ x y,x < m->y < m->leK lt (gA p x) (gA p y):=λx y E s=>xT O (a x (m - 1) (by omega) (by omega)) (xT O d (a 0 y (zMT _) s))
    obtain ⟨t,u,v,w⟩:=pE O (p:=kas_rev p 0 m) (n:=m) (nrem:=nrem) f (by omega) (by rw [oN];omega) (by
     intro i j h A
     rw [nK (by omega),nK (by omega)]
     by_cases b:j < m
     ·rw [if_pos ⟨zMT j,b⟩,if_pos ⟨zMT i,by omega⟩]
      exact all _ _ (by omega) (by omega)
     ·rw [if_neg (λz=>b z.2)]
      have k:j=m:=by omega
      subst k
      by_cases g:i < j
      ·rw [if_pos ⟨zMT _,g⟩]
       exact xT O (kY O c) (all _ _ (by omega) (by omega))
      ·have:i=j:=by omega
       subst this
       rw [if_neg (λz=>g z.2)]
       exact xW O _)
    exact ⟨t.trans (vK _ _ _),u,v,w⟩
  ·rw [if_neg q]
   have B:m=1:=by omega
   subst B
   refine pE O (zMS _) (by omega) hz λi j h A=>?_
   by_cases C:j=0
   ·have:i=j:=by omega
    rw [this];exact xW O _
   ·have k:j=1:=by omega
    by_cases g:i=0
    ·rw [g,k];exact kY O c
    ·have:i=j:=by omega
     rw [this];exact xW O _
theorem zA1 (O:LtO lt) (j:Up lt p k):∀ f l r,l <= r->r <= k->r - l <= f->(∀ i,i < l->leK lt (gA p i) (gA p k))->(∀ i,r <= i->i < k->leK lt (gA p k) (gA p i)) ->
  evK lt (kas_place p k f l r) <= k/\(∀ i,i < evK lt (kas_place p k f l r)->leK lt (gA p i) (gA p k))/\(∀ i,evK lt (kas_place p k f l r) <= i->i < k->leK lt (gA p k) (gA p i)):=by
 intro f
 induction f with
 | zero=>
  intro l r n b o d h
  have e:l=r:=by omega
  subst e
  exact ⟨b,d,h⟩
 | succ f m=>
  intro l r n b o d h
  have e:kas_place p k (f + 1) l r=if l >= r then .ret l else .ask (gA p k) (gA p ((l + r) / 2)) λc=>if c=true then kas_place p k f l ((l + r) / 2) else kas_place p k f ((l + r) / 2 + 1) r:=rfl
  rw [e]
  by_cases a:l >= r
  ·rw [if_pos a]
   have e:l=r:=by omega
   subst e
   exact ⟨b,d,h⟩
  ·rw [if_neg a]
   have q:evK lt (KasT.ask (gA p k) (gA p ((l + r) / 2)) λc=>if c=true then kas_place p k f l ((l + r) / 2) else kas_place p k f ((l + r) / 2 + 1) r)=evK lt (if lt (gA p k) (gA p ((l + r) / 2))=true then kas_place p k f l ((l + r) / 2) else kas_place p k f ((l + r) / 2 + 1) r):=rfl
   rw [q]
   cases c:lt (gA p k) (gA p ((l + r) / 2)) with
   | true=>
    rw [if_pos rfl]
    exact m l ((l + r) / 2) (by omega) (by omega) (by omega) d λi g1 g2=>xT O (kY O c) (j _ _ g1 g2)
   | false=>
    rw [if_neg (by simp)]
    exact m ((l + r) / 2 + 1) r (by omega) b (by omega) (λi g=>xT O (j i ((l + r) / 2) (by omega) (by omega)) c) h
theorem zIS (O:LtO lt):∀ f p k,k + f <= p.size->Up lt p k->(evK lt (kas_bin f p k)).Perm p/\Up lt (evK lt (kas_bin f p k)) (k + f):=by
 intro f
 induction f with
 | zero=>exact λp k _ h=>⟨.refl _,h⟩
 | succ f r=>
  intro p k u h
  have e:kas_bin (f + 1) p k=(kas_place p k k 0 k).bind λl=>kas_bin f (bubble p k (k - l)) (k + 1):=rfl
  rw [e,sF]
  obtain ⟨b,d,m⟩:=zA1 O h k 0 k (zMT _) (zMS _) (by omega) (λi g=>absurd g (Nat.not_lt_zero _)) (λi g1 g2=>absurd g2 (by omega))
  generalize evK lt (kas_place p k k 0 k)=l at b d m ⊢
  have up:Up lt (bubble p k (k - l)) (k + 1):=λi j c v=>by
   rw [zB5 (by omega) b,zB5 (by omega) b]
   by_cases n:i=l
   ·rw [if_pos n]
    by_cases a:j=l
    ·rw [if_pos a];exact xW O _
    ·rw [if_neg a,if_pos ⟨by omega,by omega⟩]
     exact m _ (by omega) (by omega)
   ·rw [if_neg n]
    by_cases o:l < i/\i <= k
    ·rw [if_pos o,if_neg (by omega),if_pos ⟨by omega,by omega⟩]
     exact h _ _ (by omega) (by omega)
    ·rw [if_neg o]
     by_cases a:j=l
     ·rw [if_pos a];exact d _ (by omega)
     ·rw [if_neg a]
      by_cases q:l < j/\j <= k
      ·rw [if_pos q];exact h _ _ (by omega) (by omega)
      ·rw [if_neg q];exact h _ _ c (by omega)
  obtain ⟨s,t⟩:=r (bubble p k (k - l)) (k + 1) (by rw [bubble_size];omega) up
  exact ⟨s.trans (bubble_perm _ _ _),by rw [show k + (f + 1)=k + 1 + f by omega];exact t⟩
theorem zC5 (O:LtO lt) (c:1 <= n):(evK lt (kas_sort n)).Perm (List.range n).toArray/\Up lt (evK lt (kas_sort n)) n:=by
 unfold kas_sort
 rw [sF]
 have d:(List.range n).toArray.size=n:=by simp
 obtain ⟨a,f,g,b⟩:=zCN O (p:=(List.range n).toArray) c (by omega)
 generalize evK lt (kas_count n (List.range n).toArray)=r at a f g b ⊢
 have l:=a.size_eq
 by_cases h:r.1 < n
 ·rw [if_pos h]
  have i:max r.1 1=r.1:=by omega
  rw [i]
  obtain ⟨j,k⟩:=zIS O (n - r.1) r.2 r.1 (by omega) b
  exact ⟨j.trans a,by rw [show n=r.1 + (n - r.1) by omega];exact (by rw [show r.1 + (n - r.1) - r.1=n - r.1 by omega];exact k)⟩
 ·rw [if_neg h]
  have e:r.1=n:=by omega
  exact ⟨a,by rw [<- e];exact b⟩
noncomputable def sS {c:Type} (n:Nat) (R:c->Prop):KasT c->Prop
 | .ret a=>R a
 | .ask i j k=>i < n/\j < n/\∀ b,sS n R (k b)
theorem sS.bind {c d:Type} {n:Nat} {R:c->Prop} {e:d->Prop} {f:c->KasT d} (t:KasT c) (h:sS n R t) (g:∀ a,R a->sS n e (f a)):sS n e (t.bind f):=by
 induction t with
 | ret a=>exact g a h
 | ask i j k l=>exact ⟨h.1,h.2.1,λb=>l b (h.2.2 b)⟩
theorem zI3 {b:Type} {n:Nat} {R:b->Prop} {lt:Nat->Nat->Bool} {cmp:Nat->Nat->(Bool->Shared->Prop)->Shared->Prop} {Pq:Shared->Prop} (d:∀ i j C s,i < n->j < n->Pq s->(∀ s',Pq s'->C (lt i j) s')->cmp i j C s) (t:KasT b) (c:sS n R t) {Q:b->Shared->Prop} :
  ∀ s,Pq s->(∀ s',Pq s'->Q (evK lt t) s')->t.kasWp cmp Q s:=by
 induction t with
 | ret a=>exact λs h q=>q s h
 | ask i j k e=>exact λs h q=>d i j _ s c.1 c.2.1 h λs' f=>e (lt i j) (c.2.2 _) s' f q
noncomputable def In_ (n:Nat) (p:Array Nat):Prop:=∀ v ∈ p.toList,v < n
theorem In_.gA (h:In_ n p) (a:1 <= n) (x:Nat):gA p x < n:=by
 unfold L2.gA
 rw [zNI]
 cases e:p[x]? with
 | none=>exact a
 | some v=>exact h v (by rw [Array.mem_toList_iff];exact Array.mem_of_getElem? e)
theorem In_.perm {p q:Array Nat} (h:In_ n p) (e:q.Perm p):In_ n q:=λv a=>h v ((Array.perm_iff_toList_perm.mp e).mem_iff.mp a)
section
variable {n:Nat} (h1:1 <= n)
include h1
theorem zCQ (h:In_ n p):∀ f m,sS n (λ_=>True) (kas_asc p f m):=by
 intro f
 induction f with
 | zero=>exact λ_=>trivial
 | succ f a=>
  intro m
  refine ⟨h.gA h1 _,h.gA h1 _,λb=>?_⟩
  cases b with
  | true=>exact trivial
  | false=>exact a _
theorem zEY:∀ f p m q,In_ n p->sS n (λr=>In_ n r.1) (kas_desc f p m q):=by
 intro f
 induction f with
 | zero=>exact λp m q h=>h
 | succ f a=>
  intro p m q h
  refine ⟨h.gA h1 _,h.gA h1 _,λb=>?_⟩
  cases b with
  | true=>
   show sS n _ (if q > 0 then kas_desc f (kas_rev p (m - (q + 1)) m) (m + 1) 0 else kas_desc f p (m + 1) 0)
   by_cases d:q > 0
   ·rw [if_pos d];exact a _ _ _ (h.perm (vK _ _ _))
   ·rw [if_neg d];exact a _ _ _ h
  | false=>
   refine ⟨h.gA h1 _,h.gA h1 _,λc=>?_⟩
   cases c with
   | true=>exact h
   | false=>exact a _ _ _ h
theorem fY {p:Array Nat} (h:In_ n p) (m a:Nat):sS n (λr=>In_ n r.2) (kas_tail3 m a p):=
 (zCQ h1 (h.perm (vK _ _ _)) _ _).bind _ λ_ _=>h.perm (vK _ _ _)
theorem pD {p:Array Nat} (h:In_ n p) (m c:Nat):sS n (λr=>In_ n r.2) (kas_descPart m c p):=by
 refine (zEY h1 _ p _ _ h).bind _ λr a=>?_
 by_cases b:r.2.2 > 0
 ·rw [if_pos b];exact fY h1 (a.perm (vK _ _ _)) _ _
 ·rw [if_neg b];exact fY h1 a _ _
theorem zCM {p:Array Nat} (h:In_ n p) (a:Nat):sS n (λr=>In_ n r.2) (kas_count a p):=by
 refine (zCQ h1 h _ _).bind _ λm _=>?_
 by_cases c:(m == a)=true
 ·rw [if_pos c];exact h
 ·rw [if_neg c]
  by_cases d:m > 1
  ·rw [if_pos d]
   refine ⟨h.gA h1 _,h.gA h1 _,λb=>?_⟩
   cases b with
   | true=>exact h
   | false=>exact pD h1 (h.perm (vK _ _ _)) _ _
  ·rw [if_neg d];exact pD h1 h _ _
theorem zA0 (h:In_ n p) (k:Nat):∀ f l r,sS n (λ_=>True) (kas_place p k f l r):=by
 intro f
 induction f with
 | zero=>exact λ_ _=>trivial
 | succ f d=>
  intro l r
  show sS n _ (if l >= r then .ret l else .ask (gA p k) (gA p ((l + r) / 2)) λc=>if c=true then kas_place p k f l ((l + r) / 2) else kas_place p k f ((l + r) / 2 + 1) r)
  by_cases a:l >= r
  ·rw [if_pos a];exact trivial
  ·rw [if_neg a]
   refine ⟨h.gA h1 _,h.gA h1 _,λb=>?_⟩
   cases b with
   | true=>exact d _ _
   | false=>exact d _ _
theorem zIR:∀ f p k,In_ n p->sS n (In_ n) (kas_bin f p k):=by
 intro f
 induction f with
 | zero=>exact λp k h=>h
 | succ f a=>exact λp k h=>(zA0 h1 h k _ _ _).bind _ λl _=>a _ _ (h.perm (bubble_perm _ _ _))
theorem zC4:sS n (In_ n) (kas_sort n):=by
 refine (zCM h1 (p:=(List.range n).toArray) (λv b=>by simpa using b) n).bind _ λr a=>?_
 by_cases h:r.1 < n
 ·rw [if_pos h];exact zIR h1 _ _ _ a
 ·rw [if_neg h];exact a
end
end
noncomputable def ltS (a b:Str):Bool:=decide (a.cps.toList < b.cps.toList)
theorem zBM (h:ltS a b=true):ltS b a=false:=KeyOrd.klt_asymm (O:=strKind.toKeyOrd) h
theorem zEM (d:ltS b a=false) (e:ltS c b=false):ltS c a=false:=KeyOrd.kle_trans (O:=strKind.toKeyOrd) (a:=a.cps.toList) (b:=b.cps.toList) (c:=c.cps.toList) d e
theorem zEN (c:ltS a b=false) (d:ltS b a=false):a=b:=by
 have e:=strKind.total _ _ c d
 cases a;cases b
 simp only [Str.mk.injEq]
 exact Array.toList_inj.mp e
theorem zBL (a:Str):ltS a a=false:=strKind.irrefl _
noncomputable def Asc {c:Type} (lt:c->c->Bool) (l:List c):Prop:=l.Pairwise λa b=>lt b a=false
section
variable {X:Cx}
end
section
variable {prog:Program} {w:World} {A:Around} {E:VSP} {s:Shared}
noncomputable def vF {a:Type} (p:Array Nat) (l:List a) (d:a):List a:=p.toList.map λi=>l.getD i d
theorem cU {a:Type} {p:Array Nat} {l:List a} (d:a) (h:p.Perm (List.range l.length).toArray):(vF p l d).Perm l:=by
 have b:(vF p l d).Perm ((List.range l.length).map λi=>l.getD i d):=(Array.perm_iff_toList_perm.mp h).map _
 have e:(List.range l.length).map (λi=>l.getD i d)=l:=by
  apply List.ext_getElem
  ·simp
  ·intro i g1 g2
   simp [zMO,zMK g2]
 rwa [e] at b
end
theorem kR:∀ {a:List Addr} {us:List Value},yH (a.map V.ref) us->us=a.map Value.ref
 | [],_,.nil=>rfl
 | q :: a,_,.cons r h=>by
  rw [List.map_cons,<- kR h]
  exact congrArg (· :: _) r
theorem mX:∀ (a:List Addr),yH (a.map V.ref) (a.map Value.ref)
 | []=>.nil
 | _ :: a=>.cons rfl (mX a)
section
variable {X:Cx} {qp:LAO} {σ:St} {H:Hp} {s:Shared}
theorem oS {a b:Type} (f:a->b) (p:Array Nat) (l:List a) (d:a) (e:b) (c:∀ i ∈ p.toList,i < l.length):vF p (l.map f) e=(vF p l d).map f:=by
 unfold vF
 rw [zM3]
 refine List.map_congr_left λi g=>?_
 have:=c i g
 simp [zMO,zMK this]
theorem iC (h:Paired R b f) (p:Array Nat) (c:∀ i ∈ p.toList,i < b.length):Paired R (vF p b 0) (vF p f []):=by
 unfold vF
 have get:∀ i,i < b.length->R (b.getD i 0) (f.getD i []):=by
  clear c
  induction h with
  | nil=>exact λi d=>absurd d (Nat.not_lt_zero _)
  | cons a r e=>
   intro i d
   cases i with
   | zero=>exact a
   | succ i=>exact e i (by simpa using d)
 generalize p.toList=l at c
 induction l with
 | nil=>exact .nil
 | cons i l e=>exact .cons (get i (c i zNC)) (e λj g=>c j (zMW _ g))
end
noncomputable def vS (val:Nat->Str):Nat->List Str
 | 0=>[]
 | i + 1=>if (vS val i).any (· == val i) then vS val i else vS val i ++ [val i]
theorem o7 (val:Nat->Str) (i:Nat) (k:Str):(vS val (i + 1)).any (· == k)=((vS val i).any (· == k) || k == val i):=by
 show (if (vS val i).any (· == val i) then vS val i else vS val i ++ [val i]).any (· == k)=_
 by_cases h:(vS val i).any (· == val i)=true
 ·rw [if_pos h]
  by_cases b:k=val i
  ·subst b;rw [h];simp
  ·rw [show (k == val i)=false by simpa using b,Bool.or_false]
 ·rw [if_neg h,List.any_append]
  simp only [List.any_cons,List.any_nil,Bool.or_false]
  rw [Bool.beq_comm (a:=k)]
theorem r9 (val:Nat->Str) (i:Nat):(vS val (i + 1)).length=if (vS val i).any (· == val i) then (vS val i).length else (vS val i).length + 1:=by
 show (if (vS val i).any (· == val i) then vS val i else vS val i ++ [val i]).length=_
 split <;> simp
theorem pX (val:Nat->Str):∀ i,(vS val i).length <= i
 | 0=>zMS _
 | i + 1=>by
  rw [r9]
  have:=pX val i
  split <;> omega
theorem o6:∀ n,(∀ i j,i < n->j < n->val i=val j->i=j)->(vS val n).length=n/\∀ k,(vS val n).any (· == k)=true->∃ i,i < n/\val i=k
 | 0,_=>⟨rfl,λk h=>by simp [vS] at h⟩
 | n + 1,h=>by
  obtain ⟨f,a⟩:=o6 n λi j b g e=>h i j (by omega) (by omega) e
  have no:(vS val n).any (· == val n)=false:=by
   cases c:(vS val n).any (· == val n) with
   | false=>rfl
   | true=>
    obtain ⟨i,b,e⟩:=a _ c
    have:=h i n (by omega) (by omega) e
    omega
  refine ⟨by rw [r9,no,f];rfl,λk d=>?_⟩
  rw [o7] at d
  rcases Bool.or_eq_true_iff.mp d with q | q
  ·obtain ⟨i,b,e⟩:=a k q
   exact ⟨i,by omega,e⟩
  ·exact ⟨n,by omega,by simpa using (beq_iff_eq.mp q).symm⟩
section
variable {prog:Program} {w:World} {A:Around} {R:Result->Shared->Prop} {I:Addr} {fp wr:List Addr} {G:Array GenState->Array GenState->Prop} {n:Nat} {P:Nat->Value->Prop} {St:Nat->Shared->Prop}
noncomputable abbrev jK (prog:Program) (w:World) (h:Heap) (S:Addr) (val:Nat->Str) (i:Nat):Prop:=h.SetOf (PySem.strKind prog w) S (λk=>(vS val i).any (· == k)) (vS val i).length
theorem qM {h h':Heap} (x:jK prog w h S val i) (k:∀ o,h.get? S=some o->h'.get? S=some o):jK prog w h' S val i:=by
 obtain ⟨o,a,b,c,d,q⟩:=x
 exact ⟨o,a,b,c,k o d,q⟩
theorem cJ (W:WalksS prog w A.in1 I fp wr G n P St) (S:Addr) (a:S ∉ fp) (val:Nat->Str) (c:∀ i v,P i v->∃ t,v=.str (val i) t) (g:n + 1 < scanBound):∀ k i s,n - i=k->i <= n->St i s->jK prog w s.heap S val i ->
  (∀ s',Moved (S :: wr) G s s'->jK prog w s'.heap S val n->R (.ok (.ret .none)) s')->codeAny (model prog w) A (.builtin "set.update.loop" ⟨[.ref S,.ref I],[]⟩) R s:=by
 have x:S ∉ wr:=λz=>a (W.sub _ z)
 have more:∀ b ∈ wr,b ∈ S :: wr:=λb z=>zMW _ z
 intro k
 induction k with
 | zero=>
  intro i s C D st h j
  obtain rfl:i=n:=by omega
  refine codeAny_builtin F.entry_set_update_loop ?_
  rw [Around.under_plainId F.plain_set_update_loop _]
  show wpAny _ A.in1 (pyNext (.ref I) >>= _) _ _ s
  exact wpAny_bind (W.done s _ _ st λs' d=>wpAny_pure (j s' (d.mono more) (qM h λo z=>d.heap S _ x z)))
 | succ k E=>
  intro i s C D st h j
  have lt:i < n:=by omega
  refine codeAny_builtin F.entry_set_update_loop ?_
  rw [Around.under_plainId F.plain_set_update_loop _]
  show wpAny _ A.in1 (pyNext (.ref I) >>= _) _ _ s
  refine wpAny_bind (W.item i s _ _ lt st λv s' H l d=>?_)
  obtain ⟨t,rfl⟩:=c i v H
  have m:jK prog w s'.heap S val i:=qM h λo z=>d.heap S _ x z
  have y:=pX val i
  show wpAny _ A.in1 (holding [Value.str (val i) t] (setAdd S (.str (val i) t)) >>= _) _ _ s'
  refine wpAny_bind (wpAny_holding ?_)
  unfold setAdd
  refine wpAny_holding (wpAny_bind ((PySem.strKind prog w).pyHash (k:=val i) (strKind_is _ _ _ _) (wpAny_setAddHashed_of (knd:=PySem.strKind prog w) (s:={ s' with toks:=s'.toks + 1 }) (strKind_is _ _ _ _) rfl m (by omega) λL f p=>?_)))
  have q:jK prog w L S val (i + 1):=SetOf_congr p (λN=>by rw [o7];rfl) (by rw [r9])
  refine wpAny_pure ⟨plainId_quiet F.plain_set_update_loop _,E (i + 1) _ (by omega) lt (W.frame _ s' _ _ l (Nat.le_succ _) λb g o e=>?_) q λM r u=>j M (Moved.trans W.gtrans ((d.mono more).then_heap (Nat.le_succ _) λb o g e=>?_) r) u⟩
  ·rw [f.2 b (λz:b=S=>a (by rw [<- z];exact g))];exact e
  ·rw [f.2 b (λz:b=S=>g (by rw [z];exact zNC))];exact e
end
section
variable {prog:Program} {w:World} {A:Around} {E:VSP} {s:Shared}
noncomputable abbrev fB (a:Bool):Obj:={ cls:=.type "set",dict:=none,data:=.set #[] 0 (.fresh 0 0 a) }
theorem cK (hh:A.handled=none) (hl:s.heap.IsList l items) (hv:∀ (i:Nat) (v:Value),items[i]?=some v->∃ t,v=.str (val i) t) (y:items.size + 1 < scanBound)
  (h:∀ (g:Heap) (z:Nat),jK prog w g s.heap.objs.size val items.size->(∀ b o,b < s.heap.objs.size->s.heap.get? b=some o->g.get? b=some o)->Q (.ref s.heap.objs.size) { s with heap:=g,toks:=z }) :
  wpAny (model prog w) A (call (.type "set") [.ref l]) Q E s:=by
 obtain ⟨c,tl,T⟩:=F.called_set.mro
 have C:=F.called_set.made
 have U:=F.called_set.sub
 refine wpAny_call (codeAny_of_tree ?_)
 show wpAny _ _ (callAny (.type "set") _) _ _ _
 refine wpAny_pure ⟨Code.quiet_builtin _ (by decide +kernel),codeAny_builtin F.entry_type_call ?_⟩
 rw [Around.under_plain (weight_type_call_type "set" [.ref l] []) rfl]
 have h1:=F.called_set.notType
 have h2:=F.called_set.canCreate
 have a3:=F.typeCall_set_1 (.ref l)
 repeat (any_goals (first | assumption | wp_step))
 refine codeAny_mono (code_set_new_1 (.ref l) (E:=E) (Q₁:=λobj s1=>∃ a:Bool,obj=.ref s.heap.objs.size/\s1 = { s with heap:=s.heap.push (fB a) }) λa=>⟨a,rfl,rfl⟩) λr s1 D=>?_
 cases r with
 | error e=>exact D
 | ok fl=>
  cases fl with
  | ret obj=>
   obtain ⟨a,rfl,rfl⟩:=D
   have gS:(s.heap.push (fB a)).get? s.heap.objs.size=some (fB a):=Heap.get?_push_size _ rfl
   have hT:Shared.TypeIs { s with heap:=s.heap.push (fB a) } (.ref s.heap.objs.size) "set":=⟨_,gS,rfl⟩
   have a4:=F.called_set.init.lookup
   have a5:=F.called_set.init.bind (.ref s.heap.objs.size)
   repeat (any_goals (first | assumption | wp_step))
   refine codeAny_mono (codeAny_call_builtin (R:=wants (λr s2=>r=.none/\∃ g z,s2 = { s with heap:=g,toks:=z }/\jK prog w g s.heap.objs.size val items.size/\(∀ b o,b < s.heap.objs.size->s.heap.get? b=some o->g.get? b=some o)) E)
    F.called_set.init.plain F.entry_set_init (check_set_init_1 hT ?_)) λr2 s2 f=>?_
   ·obtain ⟨⟨a0,j,G,d⟩,m,n,nl,p⟩:=hl
    simp only at n p
    subst n;subst p
    have q:(s.heap.push (fB a)).get? l=some { cls:=.type "list",dict:=j,data:=.seq items nl,slots:=d }:=Heap.get?_push_of_some _ m
    have a1:=F.sub_list_set
    have a2:=F.sub_list_frozenset
    have a6:(Value.type "list" == Value.type "dict")=false:=by decide
    have u:(s.heap.push (fB a)).IsList l items:=⟨_,q,rfl,nl,rfl⟩
    unfold Builtin.«set.__init__» noKeywords Builtin.Frozenset.updateFrom
    generalize I:pyIter=PI
    wp_walk
    subst I
    refine wpAny_pyIter_list u (wpAny_bind (wpAny_runValue ?_))
    have x:l < s.heap.objs.size:=Heap.lt_size m
    have J:(s.heap.push (fB a)).objs.size=s.heap.objs.size + 1:=Heap.size_push _ _
    refine cJ ((Walks.list (A:=A.in1.in1.in1) (by simp [hh]) _ l (by rw [J];exact zNA (Nat.lt_succ_of_lt x)) items).toS) s.heap.objs.size (by rw [J];simp;exact Nat.ne_of_gt x) val hv y (items.size - 0) 0 _ (by omega) (zMT _) ⟨⟨_,Heap.get?_push_size _ rfl,rfl,rfl⟩,(u.push _)⟩ ?z0 ?zR
    case z0=>
     exact SetOf_congr ((setObjOf_fresh (knd:=PySem.strKind prog w) a).setOf (Heap.get?_push_of_some _ gS) (by unfold scanBound;omega)) (λ_=>rfl) rfl
    case zR=>
     intro s' B k
     obtain ⟨g,g',d',L,M⟩:=s'
     have eg:g'=s.gens:=B.gens
     have ed:d'=s.drawn:=B.drawn
     have eo:M=s.os:=B.os
     subst eg;subst ed;subst eo
     show wpAny _ _ _ _ _ _
     refine wpAny_pure ?_
     show wpAny _ _ (ret Value.none) _ _ _
     refine wpAny_pure ⟨rfl,g,L,rfl,k,λb o y e=>B.heap b o ?_ (Heap.get?_push_of_some _ (Heap.get?_push_of_some _ e))⟩
     rw [J];simp;exact ⟨zNA y,zNA (Nat.lt_succ_of_lt y)⟩
   ·cases r2 with
    | error e=>exact f
    | ok N=>
     cases N with
     | ret r=>
      obtain ⟨rfl,g,z,rfl,k,O⟩:=f
      repeat (any_goals (first | assumption | wp_step))
      exact h _ _ k O
     | _=>exact f.elim
  | _=>exact D.elim
end
noncomputable def o9 (a:List Str):Nat:=(vS (λi=>a.getD i Str.empty) a.length).length
theorem iR {a:List Str} (h:a.Nodup):o9 a=a.length:=by
 refine (o6 a.length λi j b c q=>?_).1
 simp only [zMO,zMK b,zMK c,Option.getD_some] at q
 exact (List.getElem_inj h).mp q
noncomputable def zC8 (P:Program) (w:World) (a:Addr) (b:List Str):HO:=.ext λh=>jK P w h a (λi=>b.getD i Str.empty) b.length
section
variable {X:Cx}
theorem aJ (r:StrsAre its a):∀ (i:Nat) (v:Value),its.toArray[i]?=some v->∃ t,v=.str (a.getD i Str.empty) t:=by
 induction r with
 | nil=>intro i v h;simp at h
 | cons x t r b=>
  intro i v h
  cases i with
  | zero=>simp at h;exact ⟨t,h.symm⟩
  | succ i=>simp at h;exact b i v (by simpa using h)
theorem bX (l:X.calm=true):vU X (.type "set") (λxs H Q=>∃ a c,xs=[.ref a]/\H a=some (.lst (c.map V.str))/\c.length < 1000/\∀ p,H p=none->Q (.ref p) (upd H p (zC8 X.prog X.w p c))):=by
 intro C s D H xs E Q I r h
 obtain ⟨a,c,rfl,m,G,q⟩:=h
 obtain ⟨u,rfl,n⟩:=sU r
 cases n
 obtain ⟨d,j,t,v⟩:=I.list (.of m)
 have f:=lX j
 have y:d.length=c.length:=by have:=j.length;rw [zMJ] at this;exact this.symm
 have e:d.toArray.size=c.length:=by rw [zMR];exact y
 refine cK (I.ok.hd l) t.isList (aJ f) (by rw [e];unfold scanBound;omega) λg A i old=>?_
 rw [e] at i
 have k:∀ b o,s.heap.get? b=some o->g.get? b=some o:=λb o z=>old b o (Heap.lt_size z) z
 refine ⟨.ref s.heap.objs.size,_,I.laid (t':=A) (h':=g) (o:=zC8 X.prog X.w s.heap.objs.size c) k (zMS _) ⟨i,?_,λM N x st=>qM x st⟩,rfl,q _ (I.hok.fresh (zMS _))⟩
 obtain ⟨o,_,_,_,B,_⟩:=i
 exact ⟨o,B⟩
theorem i9:vU X (.builtin "len") (λxs H Q=>∃ p a,xs=[.ref p]/\H p=some (zC8 X.prog X.w p a)/\a.length < 1000/\Q (.int (o9 a)) H):=by
 intro n s v H xs x Q I r h
 obtain ⟨p,a,rfl,d,y,q⟩:=h
 obtain ⟨u,rfl,e⟩:=sU r
 cases e
 obtain ⟨f,_,_⟩:=I.hok p _ d
 obtain ⟨o,g,z,t,j,hex,hd,k,b,A,l,m⟩:=f
 have le:=pX (λi=>a.getD i Str.empty) a.length
 have c:g.size=o9 a:=m
 have B:o9 a <= a.length:=le
 refine call_len_set j hex hd l (by rw [c];omega) ⟨.int (o9 a),H,I.tok _,⟨s.toks + 1,by rw [c]⟩,q⟩
section
variable {prog:Program} {w:World} {A:Around} {E:VSP} {s:Shared}
end
end
end L2
namespace L2
open PySem PySem.Spec PyProof.Rows
theorem zE0 (J:Nat->Shared->Prop)
  (turn:∀ n s,J n s->wpAny (model prog w) A (pyNext d) (λr g=>match r with
   | none=>R (.ok .next) g
   | some v=>wpAny (model prog w) A (letOwnedTupleGo target d v) (λ_ a=>wpAny (model prog w) A (assign target env v) (λ_ l=>
     wpAny (model prog w) A (forIn b true λc r=>if r=true then do let ok <- isTrue c env (eval c env);pure (ForInStep.yield ok) else pure (ForInStep.yield r)) (λok i=>
      if ok=true then wpAny (model prog w) A (eval o env) (λy p=>wpAny (model prog w) A (eval q env) (λx t=>
       wpAny (model prog w) A (dictSet D y x) (λ_ u=>∃ m,m < n/\J m u) (λ_ _=>False) t) (λ_ _=>False) p) (λ_ _=>False) i
      else ∃ m,m < n/\J m i) (λ_ _=>False) l) (λ_ _=>False) a) (λ_ _=>False) g) (λ_ _=>False) s)
  (n:Nat) (h:J n s):codeAny (model prog w) A (.compLoop (.DictComp o q [⟨target,iter,b,0⟩] scope pos) 0 d (.ref D) env) R s:=by
 refine codeAny_loop rfl J (λn s C=>?_) n h
 have nof:∀ e j,False->notedBy (model prog w) A env (λe j=>R (.error e) j) e j:=λ_ _ f=>f.elim
 show wpAny (model prog w) A ((compTurn (.DictComp o q [⟨target,iter,b,0⟩] scope pos) 0 d (.ref D) env).onRaise (λx=>do noteFrame x env;theTreesLotGoes x)) _ _ s
 refine wpAny_noted ?_
 rw [compTurn_dict]
 refine wpAny_bind (wpAny_standAt (wpAny_bind (wpAny_mono (turn n s C) (λr g z=>?_) nof)))
 cases r with
 | none=>exact wpAny_pure z
 | some v=>
  refine wpAny_bind (wpAny_mono z (λ_ a k=>?_) nof)
  refine wpAny_bind (wpAny_mono k (λ_ l E=>?_) nof)
  refine wpAny_bind (wpAny_mono E (λok i B=>?_) nof)
  cases ok with
  | false=>exact wpAny_pure ⟨rfl,B⟩
  | true=>
   refine wpAny_bind (wpAny_bind (wpAny_mono B (λy p G=>?_) nof))
   refine wpAny_bind (wpAny_holding (wpAny_mono G (λx t H=>?_) nof))
   exact wpAny_bind (wpAny_standAt (wpAny_holding (wpAny_mono H (λ_ u I=>wpAny_pure ⟨rfl,I⟩) nof)))
noncomputable def DCW (J:It) (xs:List Str) (ix:List Nat) (g:TG) (o:TT) (ty p:TE) (σ:St) (H1:Hp) (acc:Addr) (Q:VK):Prop:=
 ∃ W:Nat->Nat->List (Key × V)->St->Hp->Prop,(∃ m,W 0 m [] (stC xs ix σ) (upd H1 acc (.dK []))) /\
  ∀ i m c h H,W i m c h H->H acc=some (.dK c)/\c.length < sizeLine /\
   ((J.stop i H/\Q (.ref acc) H) \/ (J.go i H/\∃ N:List (Key × V)->St->Hp->Prop,(∀ d e f,N d e f->∃ j,j < m/\W (i + 1) j d e f) /\
    ∀ x f,J.yld i H x f->g x h f λa q=>o a q λb l=>
    if b=true then ty a l λz r=>p a r λy n=>∃ k,z=kV k/\n acc=some (.dK c)/\N (vV c k y) a (upd n acc (.dK (vV c k y))) else N c a l))
noncomputable def tDC (xs:List Str) (ix:List Nat) (c:TI) (g:TG) (d:TT) (ty e:TE):TE:=λa H Q=>c a H λJ b=>∀ acc,b acc=none->DCW J xs ix g d ty e a b acc Q
theorem bV (I:Inv X qp σ H s) (e:H a=some (.dK b)) (l:b.length < sizeLine) (d:yU (kV k) u) (f:yU v r)
  (h:∀ s',Inv X qp σ (upd H a (.dK (vV b k v))) s'->Q () s'):wpAny (model X.prog X.w) A (dictSet a u r) Q E s:=by
 obtain ⟨z,hd,g,rel,i⟩:=zCF I.hok e
 have j:g.length <= sizeLine:=by rw [<- rel.length];exact z
 have m:(vV b k v).length <= sizeLine:=by have:=uZ b k v;omega
 refine wpAny_dictSet_pairs (hsz:=j) (nE d) i λt c o=>h _ (p9 I (by rw [e];exact True.intro) o ?_ (fT m hd (rel.put k f) c))
 obtain ⟨q,_,_,p,_⟩:=c
 exact ⟨q,p⟩
theorem zCJ
    (S:xN X xs ix scope) (ae:∀ Y:Cx,Y.K=X.K->Y.calm=X.calm->Y.A.handled=X.A.handled->Reg Y) (hi:PIG Reg X tg iter wi)
    (hg:∀ C l s H,PG (cxC X xs ix scope C l s H) tg g) (ht:∀ C l s H,PTs (cxC X xs ix scope C l s H) a5 tt) (hy:∀ C l s H,PE (cxC X xs ix scope C l s H) kx ty) (he:∀ C l s H,PE (cxC X xs ix scope C l s H) vx te)
 (I:Inv X qp σ H s) (h:tDC xs ix wi g tt ty te σ H Q)
    (fin:∀ acc C D s' m,Q (.ref acc) D->s'.heap.Ns C m->(∀ h',Heap.SameBut C s'.heap h'->∀ tk,Inv X qp σ D { s' with heap:=h',toks:=tk })->(X.s₀.heap.objs.size <= C/\C ≠ X.env.locals/\(∀ x c,X.env.cells.lookup x=some c->c ≠ C)/\(∀ p ∈ X.pn ++ qp,p.1 ≠ C)/\D C=none)->compPost (model X.prog X.w) X.A X.xe use R (.ref acc) C (.ok .next) s') :
    wpAny (model X.prog X.w) X.A (eval iter X.env) (λx af=>wpAny (model X.prog X.w) X.A (pyIter x) (λit ag=>wpAny (model X.prog X.w) X.A newDict (λacc ah=>
      wpAny (model X.prog X.w) X.A (newFunctionEnv scope X.env.globals (clF X.env scope.names []) [] X.env.qual none .none (some X.env)) (λa4 ai=>
        codeAny (model X.prog X.w) X.A (.compStart (.DictComp kx vx [⟨tg,iter,a5,0⟩] scope pos) 0 it acc { a4 with scope:=relabel scope X.env }) (compPost (model X.prog X.w) X.A X.xe use R acc a4.locals) ai) X.xe ah) X.xe ag) X.xe af) X.xe s:=by
  refine thn (hi qp s σ H _ I h) λv s1 h1=>thn h1 λc0 L h2=>?_
  obtain ⟨it,l,tn,J,M,rfl,I2,T,aj,f2,q⟩:=h2
  refine wpAny_newObj_type ?_
  have I3:Inv X qp σ (upd M L.heap.objs.size (.dK [])) { L with heap:=L.heap.push { cls:=.type "dict",data:=.dict #[] },toks:=L.toks }:=I2.laid (a:=L.heap.objs.size) (o:=.dK []) (t':=L.toks) (λ_ _ q=>Heap.get?_push_of_some _ q) (zMS _) (nL L.heap I2.big)
  obtain ⟨W,⟨m0,w0⟩,turn⟩:=q L.heap.objs.size I2.fresh
  have O:=T.obj 0 _ aj
  have a6:∀ b ∈ l,b ≠ L.heap.objs.size:=λb t z=>by
    obtain ⟨o,ho,_⟩:=O b t
    exact Nat.lt_irrefl _ (Nat.lt_of_lt_of_eq (Heap.lt_size ho) z.symm)
  generalize bz:L.heap.objs.size=acc at *
  generalize ak:({ L with heap:=L.heap.push { cls:=.type "dict",data:=.dict #[] } }:Shared)=f
  have I3:Inv X qp σ (upd M acc (.dK [])) f:=by rw [<- ak];exact I3
  have k3:∀ b o,L.heap.get? b=some o->f.heap.get? b=some o:=λb o e=>by rw [<- ak];exact Heap.get?_push_of_some _ e
  have f3:∀ b ∈ l,uW X qp (upd M acc (.dK [])) b:=λb t=>⟨by rw [zK (a6 b t)];exact (f2 b t).1,(f2 b t).2⟩
  have o3:∀ b ∈ l,∃ o,f.heap.get? b=some o:=λb t=>let ⟨o,ho,_⟩:=O b t;⟨o,k3 b o ho⟩
  have ba:tn 0 f.heap:=T.keep _ _ _ aj λb _ o e=>k3 b o e
  refine wpAny_newFunctionEnv S.nocell (by intro y hy;simp at hy) (λh1 al an=>?_) S.kind
  have U:∀ b o,f.heap.get? b=some o->h1.get? b=some o:=λb o e=>an.extBut b o (zNA (Heap.lt_size e)) (Heap.get?_push_of_some _ e)
  generalize ao:({ f with heap:=h1,toks:=f.toks + ([]:List (Str × Value)).length }:Shared)=s4
  have I4:Inv (cxC X xs ix scope f.heap.objs.size l f (upd M acc (.dK []))) [] (stC xs ix σ) (upd M acc (.dK [])) s4:=sH S I3 f3 o3 al U ao.symm
  have aq:tn 0 s4.heap:=T.keep _ _ _ ba λb _ o e=>by rw [<- ao];exact U b o e
  generalize j:cxC X xs ix scope f.heap.objs.size l f (upd M acc (.dK []))=B at *
  have hg:=hg f.heap.objs.size l f (upd M acc (.dK []))
  have ht:=ht f.heap.objs.size l f (upd M acc (.dK []))
  have he:=he f.heap.objs.size l f (upd M acc (.dK []))
  have hy:=hy f.heap.objs.size l f (upd M acc (.dK []))
  rw [j] at hg ht he hy
  have eP:B.prog=X.prog:=by rw [<- j];rfl
  have ew:B.w=X.w:=by rw [<- j];rfl
  have eK:B.K=X.K:=by rw [<- j];rfl
  have eA:B.A=X.A:=by rw [<- j];rfl
  have ec:Reg B:=ae B eK (by rw [<- j];rfl) (by rw [<- j];rfl)
  have ex:B.xe=λ_ _=>False:=by rw [<- j];rfl
  have a0:B.env=compEnvC scope (clF X.env scope.names []) f.heap.objs.size X.env:=by rw [<- j];rfl
  have a3:B.ex=l:=by rw [<- j];rfl
  have bb:B.fs=frs X.stack:=by rw [<- j];rfl
  have bc:B.pn=[]:=by rw [<- j];rfl
  have bd:B.H₀=upd M acc (.dK []):=by rw [<- j];rfl
  have ar:B.s₀=f:=by rw [<- j];rfl
  have G:B.env.locals=f.heap.objs.size:=by rw [a0];rfl
  have a1:∀ {D:Hp},(∀ b ∈ l,D b=none)->∀ b ∈ l,uW B [] D b:=λ{D} hn b t=>by
    refine ⟨hn b t,?_,?_,.inl (by rw [a3];exact t),?_,?_⟩
    · rw [G]
      intro z
      obtain ⟨o,ho⟩:=o3 b t
      exact Nat.lt_irrefl _ (Nat.lt_of_lt_of_eq (Heap.lt_size ho) z.symm)
    · exact I4.ok.exfs b (by rw [a3];exact t)
    · exact (I4.ok.exf b (by rw [a3];exact t)).2
    · rw [bc];intro p hp;exact absurd hp (by simp)
  have loop:codeAny (model X.prog X.w) X.A (.compLoop (.DictComp kx vx [⟨tg,iter,a5,0⟩] scope pos) 0 (.ref it) (.ref acc) B.env) (compPost (model X.prog X.w) X.A X.xe use R (.ref acc) f.heap.objs.size) s4:=by
    refine zE0 (λn s'=>∃ i ys τ D,Inv B [] τ D s'/\tn i s'.heap/\(∀ b ∈ l,D b=none)/\W i n ys τ D) ?_ m0 ⟨0,[],_,_,I4,aq,λb t=>(f3 b t).1,w0⟩
    rintro n s5 ⟨i,ys,τ,H5,I5,au,av,w5⟩
    obtain ⟨c1,be,bf⟩:=turn i n ys τ H5 w5
    rcases bf with ⟨stop,qn⟩ | ⟨go,N,hN,step⟩
    · have d:=T.done B eP ew ec i [] s5 τ H5 (λ_ _=>False) I5 (a1 av) au stop
      rw [eA] at d
      refine thn d λr s6 aw=>?_
      obtain ⟨hr,I6⟩:=aw
      subst hr
      obtain ⟨m,ax,_⟩:=id I6.loc
      rw [G] at ax
      refine fin acc f.heap.objs.size H5 s6 m qn ax (λh' bg tk=>?_) ⟨I3.sz,Ne.symm (zNA I3.lt),λx c e z=>by
        obtain ⟨v,oc,bh,_⟩:=I3.cell x c e
        exact Nat.lt_irrefl _ (Nat.lt_of_lt_of_eq (Heap.lt_size bh) z.symm),λp hp z=>Nat.lt_irrefl _ (Nat.lt_of_lt_of_eq (Heap.lt_size (I3.pin p hp).1) z.symm),by have:=I6.free;rw [G] at this;exact this⟩
      have same:∀ b,b ≠ f.heap.objs.size->h'.get? b=s6.heap.get? b:=λb t=>bg.2 b t
      have ub:=I6.base
      rw [bb,a3,bd,ar] at ub
      have aa:∀ b o,f.heap.get? b=some o->b ≠ f.heap.objs.size:=λb o e=>zNA (Heap.lt_size e)
      have u:Un (frs X.stack) l (upd M acc (.dK [])) H5 f.heap h':=
        ⟨λb o e n1 n2 n3=>(same b (aa b o e)).trans (ub.keep b o e n1 n2 n3),λb o e n1 n2 n3=>by
            obtain ⟨sl,z⟩:=ub.slot b o e n1 n2 n3
            exact ⟨sl,(same b (aa b o e)).trans z⟩,ub.free,λb o e n3=>by
            obtain ⟨o',z⟩:=ub.there b o e n3
            exact ⟨o',(same b (aa b o e)).trans z⟩,ub.tups,ub.frzs,ub.tbls⟩
      have fC:H5 f.heap.objs.size=none:=by have:=I6.free;rw [G] at this;exact this
      have bi:HOk X.prog X.w H5 h':=λb o e=>by
        have z:=I6.hok b o e
        rw [eP,ew] at z
        refine z.stay (λc u hc q=>(same c ?_).trans q) (λ_ q=>q) λ_ _ q=>q
        intro zc
        rcases hc with q1 | q1
        · rw [<- q1,zc,fC] at e;cases e
        · rw [zc,fC] at q1;cases q1
      have bj:∀ b ∈ l,(b ∈ X.ex \/ X.s₀.heap.objs.size <= b)/\b ≠ X.env.locals/\(∀ x c,X.env.cells.lookup x=some c->c ≠ b)/\∀ p ∈ X.pn ++ qp,p.1 ≠ b:=λb t=>by
        obtain ⟨_,f1,_,g3,g4,g5⟩:=f3 b t
        exact ⟨g3,f1,g4,g5⟩
      have ho:s6.os=f.os:=by have:=I6.os;rw [ar] at this;exact this
      exact I3.call' (s':={ s6 with heap:=h',toks:=tk }) (ch:=l) ho u bi I6.bare bj
    · have d:=T.item B eP ew ec i [] s5 τ H5 (λ_ _=>False) I5 (a1 av) au go
      rw [eA] at d
      refine thn d λr s6 ay=>?_
      obtain ⟨u,hr,h6⟩:=ay
      subst hr
      refine thn h6 λ_ s7 az=>?_
      obtain ⟨x,H7,I7,r7,y7,ab,bk⟩:=az
      have bm:=I7.pinned (a1 bk) (T.obj _ _ ab)
      have dg:=hg _ s7 τ H7 x u _ bm r7 (step x H7 y7)
      rw [eP,ew,eA,ex] at dg
      refine thn dg λ_ s8 b0=>?_
      obtain ⟨a2,H8,I8,q8⟩:=b0
      have dt:=ht _ s8 a2 H8 _ I8 q8
      rw [eP,ew,eA,ex] at dt
      refine thn dt λok s9 b1=>?_
      obtain ⟨H9,I9,q9⟩:=b1
      have again:∀ {ac:St} {D:Hp} {s':Shared},Inv B ([] ++ uE l s7.heap) ac D s'->Inv B [] ac D s'/\tn (i + 1) s'.heap/\∀ b ∈ l,D b=none:=λ{ac D s'} Ie=>by
        refine ⟨Ie.unpinned,T.keep _ _ _ ab λb t o e=>(Ie.pin (b,o) (zMX _ (zMX _ (wF t e)))).1,λb t=>?_⟩
        obtain ⟨o,e,_⟩:=T.obj _ _ ab b t
        exact (Ie.pin (b,o) (zMX _ (zMX _ (wF t e)))).2.1
      cases ok with
      | false=>
        rw [if_neg zNB] at q9 ⊢
        obtain ⟨m',hm,w9⟩:=hN _ _ _ q9
        obtain ⟨z1,z2,z3⟩:=again I9
        exact ⟨m',hm,i + 1,ys,a2,H9,z1,z2,z3,w9⟩
      | true=>
        rw [if_pos rfl] at q9 ⊢
        have dy:=hy _ s9 a2 H9 _ I9 q9
        rw [eP,ew,eA,ex] at dy
        refine thn dy λkv bn b2=>?_
        obtain ⟨z,bo,bp,bq,br⟩:=b2
        have de:=he _ bn a2 bo _ bp br
        rw [eP,ew,eA,ex] at de
        refine thn de λyv c2 b3=>?_
        obtain ⟨y,c3,bs,bt,k,ek,b4,bu⟩:=b3
        subst ek
        obtain ⟨m',hm,bv⟩:=hN _ _ _ bu
        have dm:=bV (X:=B) (A:=X.A) (E:=λ_ _=>False) (Q:=λ_ s'=>∃ m,m < n/\∃ i ys τ D,Inv B [] τ D s'/\tn i s'.heap/\(∀ b ∈ l,D b=none)/\W i m ys τ D) bs b4 be bq bt λc4 bw=>by
          obtain ⟨z1,z2,z3⟩:=again bw
          exact ⟨m',hm,i + 1,vV ys k y,a2,_,z1,z2,z3,bv⟩
        rw [eP,ew] at dm
        exact dm
  have e4:({ newEnv scope f.heap.objs.size X.env.globals (clF X.env scope.names []) X.env.qual none .none (some X.env) builtinsNs with scope:=relabel scope X.env }:Env)=B.env:=by rw [a0];rfl
  rw [a0] at loop
  have self:=T.self X.A 0 s4 (λbx s'=>codeAny (model X.prog X.w) X.A (.compLoop (.DictComp kx vx [⟨tg,iter,a5,0⟩] scope pos) 0 bx (.ref acc) (compEnvC scope (clF X.env scope.names []) f.heap.objs.size X.env)) (compPost (model X.prog X.w) X.A X.xe use R (.ref acc) f.heap.objs.size) s')
    (notedBy (model X.prog X.w) X.A (compEnvC scope (clF X.env scope.names []) f.heap.objs.size X.env) λx s'=>compPost (model X.prog X.w) X.A X.xe use R (.ref acc) f.heap.objs.size (.error x) s') aq loop
  exact codeAny_compStart_dict loop self
theorem zE1
    (S:xN X xs ix scope) (z:X.calm=true) (B:PI X y iter D)
    (E:∀ C a s H,PG (cxC X xs ix scope C a s H) y g) (G:∀ C a s H,PTs (cxC X xs ix scope C a s H) n L) (M:∀ C a s H,PE (cxC X xs ix scope C a s H) N ty) (O:∀ C a s H,PE (cxC X xs ix scope C a s H) U te)
 (I:Inv X qp σ H s) (h:tDC xs ix D g L ty te σ H Q)
    (fin:∀ acc C d s' m,Q (.ref acc) d->s'.heap.Ns C m->(∀ h',Heap.SameBut C s'.heap h'->∀ tk,Inv X qp σ d { s' with heap:=h',toks:=tk })->(X.s₀.heap.objs.size <= C/\C ≠ X.env.locals/\(∀ x c,X.env.cells.lookup x=some c->c ≠ C)/\(∀ p ∈ X.pn ++ qp,p.1 ≠ C)/\d C=none)->compPost (model X.prog X.w) X.A X.xe use R (.ref acc) C (.ok .next) s') :
    wpAny (model X.prog X.w) X.A (eval iter X.env) (λx f=>wpAny (model X.prog X.w) X.A (pyIter x) (λo i=>wpAny (model X.prog X.w) X.A newDict (λacc j=>
      wpAny (model X.prog X.w) X.A (newFunctionEnv scope X.env.globals (clF X.env scope.names []) [] X.env.qual none .none (some X.env)) (λb l=>
        codeAny (model X.prog X.w) X.A (.compStart (.DictComp N U [⟨y,iter,n,0⟩] scope pos) 0 o acc { b with scope:=relabel scope X.env }) (compPost (model X.prog X.w) X.A X.xe use R acc b.locals) l) X.xe j) X.xe i) X.xe f) X.xe s:=
  zCJ (Reg:=λY=>Y.K=X.K/\Y.calm=true) S (λY k c _=>⟨k,c.trans z⟩)
    (λqp s σ H R I q=>thn (B qp s σ H R I q) λv s1 h1=>thn h1 λa1 s2 h2=>by
      obtain ⟨o,a,tn,J,d,e,I',T,r⟩:=h2
      exact ⟨o,a,tn,J,d,e,I',⟨T.mem,T.obj,T.keep,λY t u r=>T.item Y t u r.1 r.2,λY t u r=>T.done Y t u r.1 r.2,T.self⟩,r⟩) E G M O I h fin
theorem zKV
  (S:xN X xs ix scope) (l:X.calm=true) (o:PI X j iter p)
  (r:∀ C a s H,PG (cxC X xs ix scope C a s H) j g) (t:∀ C a s H,PTs (cxC X xs ix scope C a s H) b u) (v:∀ C a s H,PE (cxC X xs ix scope C a s H) w ty) (y:∀ C a s H,PE (cxC X xs ix scope C a s H) z A)
  (B:∀ x,foldedSetIterable iter X.env x=pure x:=by intro _;rfl) :
  PE X (.DictComp w z [⟨j,iter,b,0⟩] scope pos) (tDC xs ix p g u ty A):=by
 intro J s L H Q I h
 have d:∀ n,(n,NameKind.free) ∈ scope.names->(X.env.cells.lookup n).isSome=true:=λn f=>by
  obtain ⟨c,e⟩:=I.ok.has n (S.fre n f)
  rw [e];rfl
 rw [arm_eval_DictComp]
 refine wpAny_comprehension_free (use:=none) rfl B (vA d) S.kind S.loc ?_
 refine zE1 S l o r t v y I h λacc C D E m q f k _=>?_
 exact ⟨m,f,λG i=>⟨.ref acc,D,k G i E.toks,rfl,q⟩⟩
theorem zCI {K:W.Frag} {a:Addr} {its:List V} {xs:List Str} {ix:List Nat} {g:TG} {ty r:TE} {σ:St} {H1:Hp} {Q:VK} {acc:Addr} (E:its.length < sizeLine) (Pv:Nat->List (Key × V)->St->Hp->Prop)
  (v:Pv 0 [] (stC xs ix σ) (upd H1 acc (.dK []))) (j:∀ i ys d H,Pv i ys d H->H acc=some (.dK ys)/\ys.length <= i/\SqL K H a its)
  (w:∀ i ys d H x,its[i]?=some x->Pv i ys d H->g x d H λc h=>ty c h λz l=>r c l λy f=>∃ k,z=kV k/\f acc=some (.dK ys)/\Pv (i + 1) (vV ys k y) c (upd f acc (.dK (vV ys k y))))
  (hd:∀ ys d H,Pv its.length ys d H->Q (.ref acc) H):DCW (Itl K a) xs ix g sY ty r σ H1 acc Q:=by
 refine ⟨λi m ys d H=>m=its.length - i/\i <= its.length/\Pv i ys d H,⟨its.length,by simp,zMT _,v⟩,?_⟩
 rintro i m ys d H ⟨rfl,G,p⟩
 obtain ⟨A,I,t⟩:=j i ys d H p
 refine ⟨A,by omega,?_⟩
 by_cases n:i < its.length
 ·refine .inr ⟨⟨its,its[i],t,by simp [n]⟩,λo q s=>Pv (i + 1) o q s,λo q s B=>⟨its.length - (i + 1),by omega,rfl,n,B⟩,λx s y=>?_⟩
  obtain ⟨e,y⟩:=y
  subst e
  have C:=y its t
  have st:=w i ys d s x C p
  have e:(λc h=>sY c h λb u=>if b=true then ty c u λz l=>r c l λy f=>∃ k,z=kV k/\f acc=some (.dK ys)/\Pv (i + 1) (vV ys k y) c (upd f acc (.dK (vV ys k y))) else Pv (i + 1) ys c u) =
    λc h=>ty c h λz l=>r c l λy f=>∃ k,z=kV k/\f acc=some (.dK ys)/\Pv (i + 1) (vV ys k y) c (upd f acc (.dK (vV ys k y))):=by
   funext c h
   simp only [sY,if_true]
  rw [e];exact st
 ·have D:i=its.length:=by omega
  subst D
  exact .inl ⟨⟨its,t,zMS _⟩,hd ys d H p⟩
section
variable {X:Cx}
noncomputable def zFE (H:Hp):Nat->V->V->Prop
 | 0,x,y=>x=y/\(xA x=true \/ ∃ a,x=.ref a)
 | n + 1,x,y=>(x=y/\(xA x=true \/ ∃ a,x=.ref a)) \/ ∃ a b c d,x=.ref a/\y=.ref b/\((H a=some (.lst c)/\H b=some (.lst d)) \/ (H a=some (.tup c)/\H b=some (.tup d)))/\c.length=d.length /\
   ∀ (i:Nat) (u v:V),c[i]?=some u->d[i]?=some v->zFE H n u v
theorem hu4 (a:z6 k A):A.units + 4 < cLine:=Nat.lt_of_le_of_lt (Nat.add_le_add_left (by decide:4 <= 64) _) a.units
theorem zGD {qp:LAO} {σ:St} {H:Hp} (b:yU x v) (c:yU x u) (h:xA x=true \/ ∃ a,x=.ref a):SeqAt.EqAt A s v u true:=by
 rcases h with f | ⟨a,rfl⟩
 ·have:=jC (A:=A) (s:=s) b c f f
  rw [iZ f] at this
  exact this
 ·cases b;cases c
  exact SeqAt.EqAt.same _
theorem rD (g:yH xs a) (h:yH ys b) (o:xs.length=ys.length) (j:Nat) (g1:j < a.toArray.size) (g2:j < b.toArray.size) :
  ∃ x y,xs[j]?=some x/\ys[j]?=some y/\yU x a.toArray[j]/\yU y b.toArray[j]:=by
 have p:=g.length
 have q:=h.length
 have c:j < a.length:=by simpa using g1
 have d:j < b.length:=by simpa using g2
 obtain ⟨u,k,m⟩:=g.get (i:=j) (zMK (by omega:j < xs.length))
 obtain ⟨v,l,n⟩:=h.get (i:=j) (zMK (by omega:j < ys.length))
 have e:a.toArray[j]=u:=by
  rw [zMK c] at k
  simpa using zMQ k
 have f:b.toArray[j]=v:=by
  rw [zMK d] at l
  simpa using zMQ l
 rw [e,f]
 exact ⟨_,_,zMK (by omega),zMK (by omega),m,n⟩
theorem zEP (I:Inv X qp σ H s):∀ (n:Nat) {A:Around} {x y:V} {v u:Value},yU x v->yU y u->zFE H n x y->A.units + n < cLine->SeqAt.EqAt A s v u true:=by
 intro n
 induction n with
 | zero=>
  intro A x y v u c d h _
  obtain ⟨rfl,h⟩:=h
  exact zGD (qp:=qp) (σ:=σ) (H:=H) c d h
 | succ n D=>
  intro A x y v u c d h M
  rcases h with ⟨rfl,h⟩ | ⟨a,b,N,O,rfl,rfl,h,p,f⟩
  ·exact zGD (qp:=qp) (σ:=σ) (H:=H) c d h
  cases c;cases d
  by_cases e:a=b
  ·subst e;exact SeqAt.EqAt.same _
  have g:A.in1.units + n < cLine:=by
   have e:A.in1.units=A.units + 1:=rfl
   omega
  refine SeqAt.EqAt.of_refs e ?_
  have i:A.units < cLine:=by omega
  rcases h with ⟨r,t⟩ | ⟨r,t⟩
  ·obtain ⟨k,m,E,_⟩:=I.list (.of r)
   obtain ⟨q,o,G,_⟩:=I.list (.of t)
   have w:=m.length
   have z:=o.length
   have key:=SeqAt.RcAt.lists (A:=A) (e:=λ_=>true) E.isList G.isList (by rw [zMR,zMR,<- w,<- z,p]) i (λj g1 g2=>by
    obtain ⟨x,y,B,C,c,d⟩:=rD m o p j g1 g2
    exact D c d (f j x y B C) g)
   rw [show (List.range k.toArray.size).all (λ_=>true)=true by simp] at key
   exact key
  ·obtain ⟨k,m,J,_⟩:=I.tuple (.of r)
   obtain ⟨q,o,L,_⟩:=I.tuple (.of t)
   have w:=m.length
   have z:=o.length
   have key:=SeqAt.RcAt.tuples (A:=A) (s:=s) (l:=a) (b:=b) (e:=λ_=>true) (show s.heap.IsTuple a k.toArray from J) (show s.heap.IsTuple b q.toArray from L) i (λj g1 g2=>by
    obtain ⟨x,y,B,C,c,d⟩:=rD m o p j g1 g2
    exact D c d (f j x y B C) g)
   rw [show ((List.range (min k.toArray.size q.toArray.size)).all (λ_=>true) && k.toArray.size == q.toArray.size)=true by
    rw [zMR,zMR,<- w,<- z,p];simp] at key
   exact key
noncomputable def zKR (b:Bool):R2:=λx y H Q=>∃ p q a c,x=.ref p/\y=.ref q/\H p=some (.lst a)/\H q=some (.lst c)/\a.length=c.length/\(∀ (i:Nat) (u v:V),a[i]?=some u->c[i]?=some v->zFE H 3 u v)/\Q (.bl b) H
theorem zHR (B:X.A.units + 4 < cLine):OpR X (compareOp .NotEq) (zKR false):=by
 intro C s D H x y v u Q I d f h
 obtain ⟨a,b,E,G,rfl,rfl,l,m,g,c,q⟩:=h
 cases d;cases f
 obtain ⟨n,i,o,_⟩:=I.list (.of l)
 obtain ⟨J,k,p,_⟩:=I.list (.of m)
 have r:=i.length
 have t:=k.length
 have key:=SeqAt.RcNeAt.lists (A:=X.A) (e:=λ_=>true) o.isList p.isList (by rw [zMR,zMR,<- r,<- t,g]) (by omega) (λj g1 g2=>by
  obtain ⟨x,y,w,z,d,f⟩:=rD i k g j g1 g2
  exact zEP I 3 d f (c j x y w z) (by have e:X.A.in1.units=X.A.units + 1:=rfl;omega))
 rw [show (!(List.range n.toArray.size).all (λ_=>true))=false by simp] at key
 exact key _ _ _ _ ⟨.bl false,H,I,rfl,q⟩
end
end L2
namespace L2
open PySem PySem.W
noncomputable def qV (K:Frag) (a:List Addr) (b:Addr):Bool:=(List.range 12).all λi=>
 ((List.range 12).all λj=>kitOne K (.ref (a.getD i 0)) (.ref (a.getD j 0)) == some (decide (i=j))) && (kitOne K (.ref (a.getD i 0)) (.type "ValueError") == some true) && (kitOne K (.ref (a.getD i 0)) (.ref b) == some true) &&
  (exmOne K (.ref (a.getD i 0)) (.ref b) == some true) && (i == 10 || excIn K (a.getD i 0) zE8 "ValueError.__new__")
noncomputable def zB9 (K:Frag) (c:Addr):Bool:=(findIn K (.ref c) "__getattribute__" == some (some (.builtin "BaseException.__getattribute__"))) && (findIn K (.ref c) "__getattr__" == some none) && (findIn K (.ref c) "__class__" == some (some (.builtin "object.__class__"))) &&
 (mroIn K c (.type "object") == some true) && hasDictIn K c && (subIn K (.ref c) (.type "BaseException") == some true)
noncomputable def fS (K:Frag) (a:List Addr):Bool:=(specialIn K (.builtin "object.__class__") "__get__" == some (some (.builtin "getset_descriptor.__get__"))) && (takesIn K (.builtin "object.__class__") == some true) && (List.range 12).all λi=>zB9 K (a.getD i 0)
section
variable {K:Frag} {cs:List Addr} {cT:Addr}
theorem lV (h:qV K cs cT=true) (a:i < 12):((((∀ j,j < 12->kitOne K (.ref (cs.getD i 0)) (.ref (cs.getD j 0))=some (decide (i=j)))/\kitOne K (.ref (cs.getD i 0)) (.type "ValueError")=some true)/\kitOne K (.ref (cs.getD i 0)) (.ref cT)=some true) /\
  exmOne K (.ref (cs.getD i 0)) (.ref cT)=some true)/\(i=10 \/ excIn K (cs.getD i 0) zE8 "ValueError.__new__"=true):=by
 have q:=List.all_eq_true.mp h i (List.mem_range.mpr a)
 simp only [Bool.and_eq_true,Bool.or_eq_true,beq_iff_eq] at q
 refine ⟨⟨⟨⟨λj b=>?_,q.1.1.1.2⟩,q.1.1.2⟩,q.1.2⟩,q.2⟩
 exact beq_iff_eq.mp (List.all_eq_true.mp q.1.1.1.1 j (List.mem_range.mpr b))
theorem zGX (h:qV K cs cT=true) (a:i < 12) (b:j < 12):kitOne K (.ref (cs.getD i 0)) (.ref (cs.getD j 0))=some (decide (i=j)):=(lV h a).1.1.1.1 j b
theorem zGW (h:qV K cs cT=true) (a:i < 12):kitOne K (.ref (cs.getD i 0)) (.type "ValueError")=some true:=(lV h a).1.1.1.2
theorem zGY (h:qV K cs cT=true) (a:i < 12):exmOne K (.ref (cs.getD i 0)) (.ref cT)=some true:=(lV h a).1.2
theorem lU (h:qV K cs cT=true) (a:i < 12) (n:i ≠ 10):excIn K (cs.getD i 0) zE8 "ValueError.__new__"=true:=(lV h a).2.resolve_left n
theorem zIW (h:fS K cs=true) (a:i < 12):mV K (cs.getD i 0):=by
 unfold fS at h
 simp only [Bool.and_eq_true,beq_iff_eq] at h
 have q:=List.all_eq_true.mp h.2 i (List.mem_range.mpr a)
 unfold zB9 at q
 simp only [Bool.and_eq_true,beq_iff_eq] at q
 exact ⟨q.1.1.1.1.1,q.1.1.1.1.2,q.1.1.1.2,h.1.1,h.1.2,q.1.1.2,q.1.2,q.2⟩
end
end L2
namespace L2
open PySem PySem.Spec PyProof.Rows
section
variable {prog:Program} {w:World} {A:Around} {E:VSP} {s:Shared}
end
section
variable {X:Cx} {pos:Pos}
end
section
variable {X:Cx}
end
section
variable {prog:Program} {w:World} {A:Around} {E:VSP} {s:Shared}
open Builtin.Str in
end
section
variable {X:Cx} {pos:Pos}
end
section
variable {X:Cx}
end
section
open PySem.SeqAt
open PySem.AutoSeq1 (wpAny_loadPart')
open PySem.MeetsSeq PySem.MeetsSeq2 PySem.MeetsSeq3
end
section
variable {X:Cx}
end
end L2
namespace L2
open PySem PySem.Spec PyProof.Rows
open PySem.AutoSeq1 (wpAny_loadPart')
section
variable {prog:Program} {w:World} {A:Around} {E:VSP} {s:Shared}
theorem zCD
  (B:IsEnum s.heap e a c old) (hit:s.heap.IsListIter a l i) (hl:s.heap.IsList l its) (hx:its[i]?=some x) (d:e ≠ a)
  (hQ:∀ h',IsEnumOut h' e a (c + 1) x s.heap.objs.size->h'.IsListIter a l (i + 1)->h'.get? s.heap.objs.size=some { cls:=.type "tuple",data:=.seq #[.int c s.toks,x] } ->
   (∀ b o,b ≠ e->b ≠ a->s.heap.get? b=some o->h'.get? b=some o)->Q (some (.ref s.heap.objs.size)) { s with heap:=h',toks:=s.toks + 1 }) :
  wpAny (model prog w) A (pyNext (.ref e)) Q E s:=by
 have Y:s.TypeIs (.ref e) "enumerate":=⟨_,B,rfl⟩
 unfold pyNext
 refine wpAny_bind (wpAny_attempt (wpAny_callSpecial?_slot (name:=Str.ofString "__next__") Y F.slot_enumerate_next (wpAny_call_entry F.slot_enumerate_next Y F.entry_enumerate_next ?_ (F.args_enumerate_next_1 _))))
 obtain ⟨g,ge,h,f,j⟩:=s
 show wpAny _ _ (field (.ref e) 2 >>= _) _ _ _
 refine wpAny_bind (wpAny_field B rfl (x:=.ref a) rfl (wpAny_bind (wpAny_nextOf_list_item hit hl hx λk i1 p=>?_)))
 replace p:Heap.SameBut a g k:=p
 have H:IsEnum k e a c old:=(p.2 e d).trans B
 show wpAny _ _ (field (.ref e) 3 >>= _) _ _ ⟨k,ge,h,f,j⟩
 refine wpAny_bind (wpAny_field H rfl (x:=rawInt c) rfl ?_)
 show wpAny _ _ (field (.ref e) 4 >>= _) _ _ ⟨k,ge,h,f,j⟩
 refine wpAny_bind (wpAny_field H rfl (x:=.none) rfl ?_)
 show wpAny _ _ (mkInt c >>= _) _ _ ⟨k,ge,h,f,j⟩
 refine wpAny_bind (wpAny_mkInt ?_)
 show wpAny _ _ (setField (.ref e) 3 (rawInt (c + 1)) >>= _) _ _ ⟨k,ge,h,f + 1,j⟩
 refine wpAny_bind (wpAny_setField_rec H (by simp) λC I q=>?_)
 replace q:Heap.SameBut e k C:=q
 replace I:IsEnum C e a (c + 1) old:=I
 show wpAny _ _ (setField (.ref e) 4 .none >>= _) _ _ ⟨C,ge,h,f + 1,j⟩
 refine wpAny_bind (wpAny_setField_rec I (by simp) λn J t=>?_)
 replace t:Heap.SameBut e C n:=t
 replace J:IsEnum n e a (c + 1) old:=J
 show wpAny _ _ (newTuple [.int c f,x] >>= _) _ _ ⟨n,ge,h,f + 1,j⟩
 refine wpAny_bind (wpAny_newTuple ?_)
 have D:IsEnum (n.push { cls:=.type "tuple",data:=.seq #[.int c f,x] }) e a (c + 1) old:=Heap.get?_push_of_some _ J
 generalize m:n.push { cls:=.type "tuple",data:=.seq #[.int c f,x] }=u at D
 have zz:n.objs.size=g.objs.size:=by rw [t.1,q.1,p.1]
 have lt:e < g.objs.size:=Heap.lt_size B
 have t4:u.get? g.objs.size=some { cls:=.type "tuple",data:=.seq #[.int c f,x] }:=by
  rw [<- m,<- zz];exact Heap.get?_push_size _ rfl
 have k4:∀ b o,b ≠ e->b ≠ a->g.get? b=some o->u.get? b=some o:=λb o n1 n2 L=>by
  rw [<- m]
  exact Heap.get?_push_of_some _ (t.extBut b o n1 (q.extBut b o n1 (p.extBut b o n2 L)))
 have i4:u.IsListIter a l (i + 1):=by
  rw [<- m]
  obtain ⟨o,ho,r⟩:=(i1.extBut q.extBut (Ne.symm d)).extBut t.extBut (Ne.symm d)
  exact ⟨o,Heap.get?_push_of_some _ ho,r⟩
 show wpAny _ _ (Builtin.SmallTypes.ownedTupleIsFree (.ref e) >>= _) _ _ ⟨u,ge,h,f + 1,j⟩
 rw [zz]
 refine wpAny_bind ?_
 unfold Builtin.SmallTypes.ownedTupleIsFree
 refine wpAny_bind (wpAny_field D rfl (x:=.none) rfl (wpAny_pure ?_))
 simp only [if_true]
 refine wpAny_bind (wpAny_rule (wpAny_bind (wpAny_field D rfl (x:=old) rfl ?_)))
 refine wpAny_bind (wpAny_setField_rec D (by simp) λG M v=>?_)
 replace v:Heap.SameBut e u G:=v
 replace M:IsEnum G e a (c + 1) x:=M
 show wpAny _ _ (Builtin.SmallTypes.ownedTupleHandOut (.ref e) (.ref g.objs.size) >>= _) _ _ ⟨G,ge,h,f + 1,j⟩
 refine wpAny_bind ?_
 unfold Builtin.SmallTypes.ownedTupleHandOut
 refine wpAny_bind (wpAny_setField_rec M (by simp) λN O y=>?_)
 replace y:Heap.SameBut e G N:=y
 replace O:IsEnumOut N e a (c + 1) x g.objs.size:=O
 refine wpAny_setField_rec O (by simp) λT U z=>?_
 replace z:Heap.SameBut e N T:=z
 replace U:IsEnumOut T e a (c + 1) x g.objs.size:=U
 refine wpAny_bind (wpAny_letGo (wpAny_pure ⟨_,rfl,wpAny_pure (hQ T U ?_ ?_ ?_)⟩))
 ·exact ((i4.extBut v.extBut (Ne.symm d)).extBut y.extBut (Ne.symm d)).extBut z.extBut (Ne.symm d)
 ·exact z.extBut _ _ (Nat.ne_of_gt lt) (y.extBut _ _ (Nat.ne_of_gt lt) (v.extBut _ _ (Nat.ne_of_gt lt) t4))
 ·exact λb o n1 n2 L=>z.extBut b o n1 (y.extBut b o n1 (v.extBut b o n1 (k4 b o n1 n2 L)))
theorem zEX (j:A.handled=none) (g:IsEnum s.heap e a c old) (hit:s.heap.IsListIter a l i) (k:s.heap.IsList l its) (hx:its[i]?=none)
  (m:∀ h',Heap.ExtBut a s.heap h'->Q none { s with heap:=h' }):wpAny (model prog w) A (pyNext (.ref e)) Q E s:=by
 have h:s.TypeIs (.ref e) "enumerate":=⟨_,g,rfl⟩
 unfold pyNext
 refine wpAny_bind (wpAny_attempt (wpAny_callSpecial?_slot (name:=Str.ofString "__next__") h F.slot_enumerate_next (wpAny_call_entry F.slot_enumerate_next h F.entry_enumerate_next ?_ (F.args_enumerate_next_1 _))))
 show wpAny _ _ (field (.ref e) 2 >>= _) _ _ _
 refine wpAny_bind (wpAny_field g rfl (x:=.ref a) rfl (wpAny_bind (wpAny_nextOf_list_end j hit k hx λh' x d f=>?_)))
 obtain ⟨o,n,p⟩:=f
 exact wpAny_bind (wpAny_isInstance (T:="StopIteration") (b:=true) ⟨o,n,p⟩ isSubtype_stop (wpAny_pure (m _ d)))
end
theorem Inv.turnedT {h':Heap} (I:Inv X qp σ H s) (k:∀ c o,c ≠ a->c ≠ b->s.heap.get? c=some o->h'.get? c=some o)
  (g:uW X qp H a) (h:uW X qp H b) (l:s.heap.objs.size <= T) (new:xJ X.prog X.w (upd H T (.tup xs)) h' T (.tup xs)):Inv X qp σ (upd H T (.tup xs)) { s with heap:=h',toks:=t' }:=by
 have i:=I.hok.fresh l
 have p:∀ c u,H c=some u->c ≠ a:=λc u e z=>by rw [z,g.1] at e;cases e
 have t:∀ c u,H c=some u->c ≠ b:=λc u e z=>by rw [z,h.1] at e;cases e
 have j:∀ c o,c ∉ [a,b]->s.heap.get? c=some o->h'.get? c=some o:=λc o f e=>k c o (λz=>f (by simp [z])) (λz=>f (by simp [z])) e
 refine I.step (g':=s.gens) (d':=s.drawn) (ch:=[a,b]) (λc f=>?_) (λc o _ _ f e _=>j c o f e) (λc o _ _ f e _=>⟨o.slots,j c o f e⟩) (λc o _ e n=>by rw [zK (zNA (zM5 (Heap.lt_size e) l))];exact n)
  (λc o f e=>⟨o,j c o f e⟩) (λc x e=>by rw [zK (zI e i)];exact e) (λc o u e=>by rw [zK (zI e i)];exact e) (λc J e=>⟨#[],by rw [zK (zI e i),e];simp⟩) (λm y=>?_) (λc u e=>?_) I.bare
 ·rcases List.mem_cons.mp f with rfl | f
  ·exact ⟨g.2.2.2.1,g.2.1,g.2.2.2.2.1,g.2.2.2.2.2⟩
  ·rw [zMM.mp f]
   exact ⟨h.2.2.2.1,h.2.1,h.2.2.2.2.1,h.2.2.2.2.2⟩
 ·obtain ⟨o,A,B,C,r⟩:=y
  exact ⟨o,A,B,k _ o (Ne.symm g.2.1) (Ne.symm h.2.1) C,r⟩
 ·by_cases f:c=T
  ·subst f;rw [zC] at e;cases e;exact new
  ·rw [zK f] at e
   refine (I.hok c u e).stay (λd v hd q=>?_) (λd q=>by rw [zK (zI q i)];exact q) λd x q=>by rw [zK (zI q i)];exact q
   rcases hd with z | z
   ·rw [z] at q ⊢;exact k c v (p c u e) (t c u e) q
   ·exact k d v (p d _ z) (t d _ z) q
noncomputable def Ite (K:W.Frag) (a:Addr) (k:Int):It:=
 ⟨λi H=>∃ b x,SqL K H a b/\b[i]?=some x,λi H x c=>∃ T v,x=.ref T/\H T=none/\c=upd H T (.tup [.int (k + i),v])/\∀ b,SqL K H a b->b[i]?=some v,λi H=>∃ b,SqL K H a b/\b.length <= i⟩
theorem cF {P:Program} {w:World} {K:W.Frag} {elts:List Expr} {n:Nat} {tp:Pos} (a e it:Addr) (k:Int) (hne:e ≠ it):zCS P w K (.Tuple elts n tp) (Ite K a k) [e,it] e (λi h=>(∃ old,IsEnum h e it (k + i) old)/\h.IsListIter it a i) where
 mem:=by simp
 obj:=λi h st b hb=>by
  obtain ⟨⟨old,he⟩,o,ho,c,d⟩:=st
  rcases List.mem_cons.mp hb with rfl | hb
  ·exact ⟨_,he,λv z=>by cases z⟩
  ·rw [zMM.mp hb]
   exact ⟨o,ho,λv z=>by rw [d] at z;cases z⟩
 keep:=λi h h' st kk=>⟨let ⟨old,he⟩:=st.1;⟨old,kk e (by simp) _ he⟩,st.2.at λo z=>kk it (by simp) o z⟩
 item:=by
  intro X hP hw hK hc i qp s σ H E I hf st hg
  subst hP hw hK
  obtain ⟨xs,x,hq,hx⟩:=hg
  obtain ⟨⟨old,he⟩,hit⟩:=st
  obtain ⟨its,rv,p,hz⟩:=I.list hq
  obtain ⟨u,hu,ru⟩:=rv.get hx
  refine zCD he hit p.isList (x:=u) (by simpa using hu) hne λh' eo it' tt kp=>?_
  refine ⟨_,rfl,wpAny_letOwnedTupleGo_enum eo λh2 e2 s2=>?_⟩
  have el:e < s.heap.objs.size:=Heap.lt_size he
  have il:it < s.heap.objs.size:=by obtain ⟨o,ho,_⟩:=hit;exact Heap.lt_size ho
  have tt2:h2.get? s.heap.objs.size=some { cls:=.type "tuple",data:=.seq #[.int (k + i) s.toks,u] }:=(s2.2 _ (Nat.ne_of_gt el)).trans tt
  have I1:Inv X qp σ (upd H s.heap.objs.size (.tup [.int (k + i),x])) { s with heap:=h2,toks:=s.toks + 1 }:=I.turnedT (λc o n1 n2 z=>(s2.2 c n1).trans (kp c o n1 n2 z)) (hf e (by simp)) (hf it (by simp)) (zMS _)
   ⟨by show 2 <= sizeLine;decide,[.int (k + i) s.toks,u],.cons ⟨_,rfl⟩ (.cons ru .nil),_,tt2,rfl,_,rfl⟩
  refine ⟨.ref s.heap.objs.size,_,I1,rfl,⟨s.heap.objs.size,x,rfl,I.hok.fresh (zMS _),rfl,λys hy=>by rw [I.list_inj hy hq];exact hx⟩,⟨⟨u,by have z:=e2;rw [show k + (i:Int) + 1=k + ((i + 1:Nat):Int) by omega] at z;exact z⟩,it'.at λo z=>(s2.2 it (Ne.symm hne)).trans z⟩,λb hb=>?_⟩
  have bl:b ≠ s.heap.objs.size:=by
   rcases List.mem_cons.mp hb with rfl | hb
   ·exact zNA el
   ·rw [zMM.mp hb];exact zNA il
  rw [zK bl]
  exact (hf b hb).1
 done:=by
  intro X hP hw hK hc i qp s σ H E I hf st hg
  subst hP hw hK
  obtain ⟨xs,hq,hx⟩:=hg
  obtain ⟨⟨old,he⟩,hit⟩:=st
  obtain ⟨its,rv,p,hz⟩:=I.list hq
  obtain ⟨f0,f1,f2,f3,f4,f5⟩:=hf it (by simp)
  have hl:=rv.length
  exact zEX (I.ok.hd hc) he hit p.isList (by simp;omega) λh' eb=>⟨rfl,I.turned (t':=s.toks) (λb o hb z=>eb b o hb z) f0 f1 f3 f4 f5⟩
 self:=λ_ _ _ _ _ st h=>by
  obtain ⟨⟨old,he⟩,_⟩:=st
  exact wpAny_pyIter_enum he h
section
variable {X:Cx}
noncomputable def zLO (K:W.Frag) (k:Int) (c:TE):TI:=λd H R=>c d H λx b=>∃ a,x=.ref a/\(∃ e,SqL K b a e)/\R (Ite K a k) b
theorem zB7 {K:PySem.W.Frag} {a:Addr} {k:Int} {xs:List V} {g:TG} {j:TS} {D:mG} {σ:St} {H:Hp} (Pv:Nat->St->Hp->Prop) (n:Pv 0 σ H) (o:∀ i σ H,i <= xs.length->Pv i σ H->SqL K H a xs)
  (r:∀ i x σ H T,xs[i]?=some x->Pv i σ H->H T=none->g (.ref T) σ (upd H T (.tup [.int (k + i),x])) λb h=>j { D with nx:=Pv (i + 1),ct:=Pv (i + 1),bk:=D.nx } b h) (hd:∀ σ H,Pv xs.length σ H->D.nx σ H) :
  ∃ W:Nat->Nat->St->Hp->Prop,(∃ m,W 0 m σ H)/\∀ i m σ H,W i m σ H ->
   ((Ite K a k).stop i H/\D.nx σ H) \/ ((Ite K a k).go i H/\∃ N:St->Hp->Prop,(∀ c d,N c d->∃ l,l < m/\W (i + 1) l c d)/\∀ x d,(Ite K a k).yld i H x d->g x σ d λb h=>j { D with nx:=N,ct:=N,bk:=D.nx } b h):=by
 refine ⟨λi m σ H=>m=xs.length - i/\i <= xs.length/\Pv i σ H,⟨xs.length,by simp,zMT _,n⟩,?_⟩
 rintro i m σ H ⟨rfl,s,p⟩
 have q:=o i σ H s p
 by_cases f:i < xs.length
 ·refine .inr ⟨⟨xs,xs[i],q,by simp [f]⟩,Pv (i + 1),λc d t=>⟨xs.length - (i + 1),by omega,rfl,f,t⟩,λx d y=>?_⟩
  obtain ⟨T,v,rfl,u,rfl,y⟩:=y
  exact r i v σ _ T (y xs q) p u
 ·have e:i=xs.length:=by omega
  subst e
  exact .inl ⟨⟨xs,q,zMS _⟩,hd σ H p⟩
end
end L2
namespace L2
open PySem PySem.Spec PyProof.Rows
theorem zCZ (g1:Comprehension) (a target iter:Expr) (b:List Expr) (scope:Scope) (pos:Pos) (d acc:Value) (env:Env) :
  compTurn (.ListComp a [g1,⟨target,iter,b,0⟩] scope pos) 1 d acc env=(do
   standAt iter.pos
   match <- pyNext d with
   | none=>pure (.done .next)
   | some v=>do
    letOwnedTupleGo target d v
    assign target env v
    let ok <- forIn b true λc r=>if r=true then do let ok <- isTrue c env (eval c env);pure (ForInStep.yield ok) else pure (ForInStep.yield r)
    if ok=true then do
     (do let z <- eval a env;let _ <- call (.builtin "list.append") [acc,z])
     again (.compLoop (.ListComp a [g1,⟨target,iter,b,0⟩] scope pos) 1 d acc env)
    else again (.compLoop (.ListComp a [g1,⟨target,iter,b,0⟩] scope pos) 1 d acc env)):=rfl
theorem aG (e target iter f a:Expr) (d b:List Expr) (scope:Scope) (pos:Pos) (g acc:Value) (env:Env) :
  compTurn (.ListComp e [⟨target,iter,d,0⟩,⟨f,a,b,0⟩] scope pos) 0 g acc env=(do
   standAt iter.pos
   match <- pyNext g with
   | none=>pure (.done .next)
   | some v=>do
    letOwnedTupleGo target g v
    assign target env v
    let ok <- forIn d true λc r=>if r=true then do let ok <- isTrue c env (eval c env);pure (ForInStep.yield ok) else pure (ForInStep.yield r)
    if ok=true then do
     let x <- eval a env
     standAt a.pos
     let x <- foldedSetIterable a env x
     let _ <- runOwn (.compStart (.ListComp e [⟨target,iter,d,0⟩,⟨f,a,b,0⟩] scope pos) 1 (<- holding [x] (pyIter x)) acc env) env
     again (.compLoop (.ListComp e [⟨target,iter,d,0⟩,⟨f,a,b,0⟩] scope pos) 0 g acc env)
    else again (.compLoop (.ListComp e [⟨target,iter,d,0⟩,⟨f,a,b,0⟩] scope pos) 0 g acc env)):=rfl
section
variable {prog:Program} {w:World} {A:Around} {R:Result->Shared->Prop} {s:Shared} {elt target iter tg2 iter2:Expr} {ifs ifs2:List Expr} {scope:Scope} {pos:Pos} {it acc:Value} {env:Env}
theorem aK (b:codeAny (model prog w) A (.compLoop (.ListComp elt [g1,⟨target,iter,ifs,0⟩] scope pos) 1 it acc env) R s)
  (h:wpAny (model prog w) A (pyIter it) (λa s'=>codeAny (model prog w) A (.compLoop (.ListComp elt [g1,⟨target,iter,ifs,0⟩] scope pos) 1 a acc env) R s') (λ_ _=>False) s) :
  codeAny (model prog w) A (.compStart (.ListComp elt [g1,⟨target,iter,ifs,0⟩] scope pos) 1 it acc env) R s:=by
 refine codeAny_of_tree ?_
 show wpAny _ _ ((compStart (.ListComp elt [g1,⟨target,iter,ifs,0⟩] scope pos) 1 it acc env).onRaise (λx=>do noteFrame x env;standAt theWindowsPlace)) _ _ s
 refine wpAny_notedAt ?_
 unfold compStart;show wpAny _ _ (ask >>= _) _ _ s
 refine wpAny_bind (wpAny_askSetting (wpAny_ite ?_));split
 ·first | exact wpAny_bind (wpAny_pure (wpAny_pure (And.intro rfl b))) | exact wpAny_pure (And.intro rfl b)
 ·have c:wpAny (model prog w) A (pyIter it) (λa s'=>codeAny (model prog w) A (.compLoop (.ListComp elt [g1,⟨target,iter,ifs,0⟩] scope pos) 1 a acc env) R s') (notedBy (model prog w) A env λx s'=>R (.error x) s') s:=wpAny_mono h (λ_ _ q=>q) λ_ _ q=>q.elim
  refine wpAny_bind (wpAny_rule ?_)
  show wpAny _ _ (standAt iter.pos >>= _) _ _ s
  exact wpAny_bind (wpAny_standAt (wpAny_bind (wpAny_mono c (λa s' d=>wpAny_pure ⟨rfl,d⟩) λ_ _ x=>x)))
theorem zLK (J:Nat->Shared->Prop)
  (turn:∀ n s,J n s->wpAny (model prog w) A (pyNext it) (λr b=>match r with
   | none=>R (.ok .next) b
   | some v=>wpAny (model prog w) A (letOwnedTupleGo target it v) (λ_ a=>wpAny (model prog w) A (assign target env v) (λ_ j=>
     wpAny (model prog w) A (forIn ifs true λc r=>if r=true then do let ok <- isTrue c env (eval c env);pure (ForInStep.yield ok) else pure (ForInStep.yield r)) (λok d=>
      if ok=true then wpAny (model prog w) A (eval elt env) (λx k=>
       wpAny (model prog w) A (call (.builtin "list.append") [acc,x]) (λ_ l=>∃ m,m < n/\J m l) (λ_ _=>False) k) (λ_ _=>False) d
      else ∃ m,m < n/\J m d) (λ_ _=>False) j) (λ_ _=>False) a) (λ_ _=>False) b) (λ_ _=>False) s)
  (n:Nat) (h:J n s):codeAny (model prog w) A (.compLoop (.ListComp elt [g1,⟨target,iter,ifs,0⟩] scope pos) 1 it acc env) R s:=by
 refine codeAny_loop rfl J (λn s q=>?_) n h
 have nof:∀ e g,False->notedBy (model prog w) A env (λe g=>R (.error e) g) e g:=λ_ _ f=>f.elim
 show wpAny (model prog w) A ((compTurn (.ListComp elt [g1,⟨target,iter,ifs,0⟩] scope pos) 1 it acc env).onRaise (λx=>do noteFrame x env;theTreesLotGoes x)) _ _ s
 refine wpAny_noted ?_
 rw [zCZ]
 refine wpAny_bind (wpAny_standAt (wpAny_bind (wpAny_mono (turn n s q) (λr b o=>?_) nof)))
 cases r with
 | none=>exact wpAny_pure o
 | some v=>
  refine wpAny_bind (wpAny_mono o (λ_ a i=>?_) nof)
  refine wpAny_bind (wpAny_mono i (λ_ j t=>?_) nof)
  refine wpAny_bind (wpAny_mono t (λok d p=>?_) nof)
  cases ok with
  | false=>exact wpAny_pure ⟨rfl,p⟩
  | true=>
   refine wpAny_bind (wpAny_bind (wpAny_mono p (λx k u=>?_) nof))
   exact wpAny_bind (wpAny_mono u (λ_ l y=>wpAny_pure (wpAny_pure ⟨rfl,y⟩)) nof)
theorem zID (z:∀ x,foldedSetIterable iter2 env x=pure x) (J:Nat->Shared->Prop)
  (turn:∀ n s,J n s->wpAny (model prog w) A (pyNext it) (λr g=>match r with
   | none=>R (.ok .next) g
   | some v=>wpAny (model prog w) A (letOwnedTupleGo target it v) (λ_ a=>wpAny (model prog w) A (assign target env v) (λ_ l=>
     wpAny (model prog w) A (forIn ifs true λc r=>if r=true then do let ok <- isTrue c env (eval c env);pure (ForInStep.yield ok) else pure (ForInStep.yield r)) (λok i=>
      if ok=true then wpAny (model prog w) A (eval iter2 env) (λx o=>wpAny (model prog w) A (pyIter x) (λb p=>
       codeAny (model prog w) A (.compStart (.ListComp elt [⟨target,iter,ifs,0⟩,⟨tg2,iter2,ifs2,0⟩] scope pos) 1 b acc env) (λr t=>r=.ok .next/\∃ m,m < n/\J m t) p) (λ_ _=>False) o) (λ_ _=>False) i
      else ∃ m,m < n/\J m i) (λ_ _=>False) l) (λ_ _=>False) a) (λ_ _=>False) g) (λ_ _=>False) s)
  (n:Nat) (h:J n s):codeAny (model prog w) A (.compLoop (.ListComp elt [⟨target,iter,ifs,0⟩,⟨tg2,iter2,ifs2,0⟩] scope pos) 0 it acc env) R s:=by
 refine codeAny_loop rfl J (λn s B=>?_) n h
 have nof:∀ e j,False->notedBy (model prog w) A env (λe j=>R (.error e) j) e j:=λ_ _ f=>f.elim
 show wpAny (model prog w) A ((compTurn (.ListComp elt [⟨target,iter,ifs,0⟩,⟨tg2,iter2,ifs2,0⟩] scope pos) 0 it acc env).onRaise (λx=>do noteFrame x env;theTreesLotGoes x)) _ _ s
 refine wpAny_noted ?_
 rw [aG]
 refine wpAny_bind (wpAny_standAt (wpAny_bind (wpAny_mono (turn n s B) (λr g u=>?_) nof)))
 cases r with
 | none=>exact wpAny_pure u
 | some v=>
  refine wpAny_bind (wpAny_mono u (λ_ a k=>?_) nof)
  refine wpAny_bind (wpAny_mono k (λ_ l C=>?_) nof)
  refine wpAny_bind (wpAny_mono C (λok i y=>?_) nof)
  cases ok with
  | false=>exact wpAny_pure ⟨rfl,y⟩
  | true=>
   simp only [if_true]
   refine wpAny_bind (wpAny_mono y (λx o D=>?_) nof)
   refine wpAny_bind (wpAny_standAt ?_)
   rw [z]
   refine wpAny_bind (wpAny_pure (wpAny_bind (wpAny_holding (wpAny_mono D (λb p E=>?_) nof))))
   refine wpAny_bind (wpAny_runOwn (h:=none) ?_)
   rw [Around.mark_none]
   refine codeAny_mono E λr t d=>?_
   obtain ⟨e,q⟩:=d
   subst e
   exact wpAny_pure ⟨rfl,q⟩
end
noncomputable def INW (J:It) (g:TG) (p:TT) (q:TE) (acc:Addr) (h:List V) (j:St) (r:Hp) (N:List V->St->Hp->Prop):Prop:=
 ∃ W:Nat->Nat->List V->St->Hp->Prop,(∃ m,W 0 m h j r)/\∀ i m c k H,W i m c k H->H acc=some (.lst c)/\c.length < sizeLine /\
  ((J.stop i H/\N c k H) \/ (J.go i H/\∃ M:List V->St->Hp->Prop,(∀ d e f,M d e f->∃ l,l < m/\W (i + 1) l d e f) /\
   ∀ x f,J.yld i H x f->g x k f λa s=>p a s λb n=>if b=true then q a n λy o=>o acc=some (.lst c)/\M (c ++ [y]) a (upd o acc (.lst (c ++ [y]))) else M c a n))
noncomputable def zMI (J:It) (xs:List Str) (ix:List Nat) (g:TG) (o:TT) (f:TI) (g2:TG) (h:TT) (p:TE) (σ:St) (H1:Hp) (acc:Addr) (Q:VK):Prop:=
 ∃ W:Nat->Nat->List V->St->Hp->Prop,(∃ m,W 0 m [] (stC xs ix σ) (upd H1 acc (.lst [])))/\∀ i m j k H,W i m j k H ->
  ((J.stop i H/\Q (.ref acc) H) \/ (J.go i H/\∃ N:List V->St->Hp->Prop,(∀ c d e,N c d e->∃ l,l < m/\W (i + 1) l c d e) /\
   ∀ x e,J.yld i H x e->g x k e λa q=>o a q λb n=>if b=true then f a n λr s=>INW r g2 h p acc j a s N else N j a n))
noncomputable def zG1 (xs:List Str) (ix:List Nat) (e:TI) (g:TG) (f:TT) (a:TI) (g2:TG) (b:TT) (h:TE):TE:=λc H Q=>e c H λJ d=>∀ acc,d acc=none->zMI J xs ix g f a g2 b h c d acc Q
theorem zBX
    (S:xN X xs ix scope) (hc:X.calm=true) (hi:PI X tg iter wi) (ae:∀ C f s H,PI (cxC X xs ix scope C f s H) a1 B cp) (cq:∀ env x,foldedSetIterable B env x=pure x)
    (hg:∀ C f s H,PG (cxC X xs ix scope C f s H) tg g) (ht:∀ C f s H,PTs (cxC X xs ix scope C f s H) af tt) (ag:∀ C f s H,PG (cxC X xs ix scope C f s H) a1 g2) (ah:∀ C f s H,PTs (cxC X xs ix scope C f s H) O cs) (he:∀ C f s H,PE (cxC X xs ix scope C f s H) ai te)
 (I:Inv X qp σ H s) (h:zG1 xs ix wi g tt cp g2 cs te σ H Q)
    (fin:∀ acc C j s' m,Q (.ref acc) j->s'.heap.Ns C m->(∀ h',Heap.SameBut C s'.heap h'->∀ tk,Inv X qp σ j { s' with heap:=h',toks:=tk })->(X.s₀.heap.objs.size <= C/\C ≠ X.env.locals/\(∀ x c,X.env.cells.lookup x=some c->c ≠ C)/\(∀ p ∈ X.pn ++ qp,p.1 ≠ C)/\j C=none)->compPost (model X.prog X.w) X.A X.xe use R (.ref acc) C (.ok .next) s') :
    wpAny (model X.prog X.w) X.A (eval iter X.env) (λx b1=>wpAny (model X.prog X.w) X.A (pyIter x) (λit b2=>wpAny (model X.prog X.w) X.A (newList []) (λacc b3=>
      wpAny (model X.prog X.w) X.A (newFunctionEnv scope X.env.globals (clF X.env scope.names []) [] X.env.qual none .none (some X.env)) (λao b4=>
        codeAny (model X.prog X.w) X.A (.compStart (.ListComp ai [⟨tg,iter,af,0⟩,⟨a1,B,O,0⟩] scope pos) 0 it acc { ao with scope:=relabel scope X.env }) (compPost (model X.prog X.w) X.A X.xe use R acc ao.locals) b4) X.xe b3) X.xe b2) X.xe b1) X.xe s:=by
  refine thn (hi qp s σ H _ I h) λv s1 h1=>thn h1 λct s2 h2=>?_
  obtain ⟨it,f,tn,J,U,rfl,I2,T,ba,f2,q⟩:=h2
  refine wpAny_newObj_type ?_
  have I3:Inv X qp σ (upd U s2.heap.objs.size (.lst [])) { s2 with heap:=s2.heap.push { cls:=.type "list",data:=.seq ([]:List Value).toArray },toks:=s2.toks }:=I2.lnew (ys:=[]) (its:=[]) .nil (zMT _)
  obtain ⟨W,⟨m0,w0⟩,turn⟩:=q s2.heap.objs.size I2.fresh
  have a2:=T.obj 0 _ ba
  have av:∀ b ∈ f,b ≠ s2.heap.objs.size:=λb k z=>by
    obtain ⟨o,ho,_⟩:=a2 b k
    exact Nat.lt_irrefl _ (Nat.lt_of_lt_of_eq (Heap.lt_size ho) z.symm)
  generalize ea:s2.heap.objs.size=acc at *
  generalize bb:({ s2 with heap:=s2.heap.push { cls:=.type "list",data:=.seq ([]:List Value).toArray } }:Shared)=a
  have I3:Inv X qp σ (upd U acc (.lst [])) a:=by rw [<- bb];exact I3
  have k3:∀ b o,s2.heap.get? b=some o->a.heap.get? b=some o:=λb o e=>by rw [<- bb];exact Heap.get?_push_of_some _ e
  have f3:∀ b ∈ f,uW X qp (upd U acc (.lst [])) b:=λb k=>⟨by rw [zK (av b k)];exact (f2 b k).1,(f2 b k).2⟩
  have o3:∀ b ∈ f,∃ o,a.heap.get? b=some o:=λb k=>let ⟨o,ho,_⟩:=a2 b k;⟨o,k3 b o ho⟩
  have cu:tn 0 a.heap:=T.keep _ _ _ ba λb _ o e=>k3 b o e
  refine wpAny_newFunctionEnv S.nocell (by intro y hy;simp at hy) (λh1 bc bd=>?_) S.kind
  have a3:∀ b o,a.heap.get? b=some o->h1.get? b=some o:=λb o e=>bd.extBut b o (zNA (Heap.lt_size e)) (Heap.get?_push_of_some _ e)
  generalize be:({ a with heap:=h1,toks:=a.toks + ([]:List (Str × Value)).length }:Shared)=s4
  have I4:Inv (cxC X xs ix scope a.heap.objs.size f a (upd U acc (.lst []))) [] (stC xs ix σ) (upd U acc (.lst [])) s4:=sH S I3 f3 o3 bc a3 be.symm
  have bf:tn 0 s4.heap:=T.keep _ _ _ cu λb _ o e=>by rw [<- be];exact a3 b o e
  generalize t:cxC X xs ix scope a.heap.objs.size f a (upd U acc (.lst []))=l at *
  have hg:=hg a.heap.objs.size f a (upd U acc (.lst []))
  have ht:=ht a.heap.objs.size f a (upd U acc (.lst []))
  have he:=he a.heap.objs.size f a (upd U acc (.lst []))
  have ag:=ag a.heap.objs.size f a (upd U acc (.lst []))
  have ah:=ah a.heap.objs.size f a (upd U acc (.lst []))
  have ae:=ae a.heap.objs.size f a (upd U acc (.lst []))
  rw [t] at hg ht he ag ah ae
  have eP:l.prog=X.prog:=by rw [<- t];rfl
  have ew:l.w=X.w:=by rw [<- t];rfl
  have eK:l.K=X.K:=by rw [<- t];rfl
  have eA:l.A=X.A:=by rw [<- t];rfl
  have ec:l.calm=true:=by rw [<- t];exact hc
  have ex:l.xe=λ_ _=>False:=by rw [<- t];rfl
  have a4:l.env=compEnvC scope (clF X.env scope.names []) a.heap.objs.size X.env:=by rw [<- t];rfl
  have aj:l.ex=f:=by rw [<- t];rfl
  have cv:l.fs=frs X.stack:=by rw [<- t];rfl
  have cw:l.pn=[]:=by rw [<- t];rfl
  have cx:l.H₀=upd U acc (.lst []):=by rw [<- t];rfl
  have bg:l.s₀=a:=by rw [<- t];rfl
  have Y:l.env.locals=a.heap.objs.size:=by rw [a4];rfl
  have a5:∀ {j:Hp},(∀ b ∈ f,j b=none)->∀ b ∈ f,uW l [] j b:=λ{j} hn b k=>by
    refine ⟨hn b k,?_,?_,.inl (by rw [aj];exact k),?_,?_⟩
    · rw [Y]
      intro z
      obtain ⟨o,ho⟩:=o3 b k
      exact Nat.lt_irrefl _ (Nat.lt_of_lt_of_eq (Heap.lt_size ho) z.symm)
    · exact I4.ok.exfs b (by rw [aj];exact k)
    · exact (I4.ok.exf b (by rw [aj];exact k)).2
    · rw [cw];intro p hp;exact absurd hp (by simp)
  have loop:codeAny (model X.prog X.w) X.A (.compLoop (.ListComp ai [⟨tg,iter,af,0⟩,⟨a1,B,O,0⟩] scope pos) 0 (.ref it) (.ref acc) l.env) (compPost (model X.prog X.w) X.A X.xe use R (.ref acc) a.heap.objs.size) s4:=by
    refine zID (λx=>cq _ x) (λn s'=>∃ i ys τ j,Inv l [] τ j s'/\tn i s'.heap/\(∀ b ∈ f,j b=none)/\W i n ys τ j) ?_ m0 ⟨0,[],_,_,I4,bf,λb k=>(f3 b k).1,w0⟩
    rintro n s5 ⟨i,ys,τ,H5,I5,bh,bi,w5⟩
    rcases turn i n ys τ H5 w5 with ⟨stop,qn⟩ | ⟨go,N,hN,step⟩
    · have d:=T.done l eP ew eK ec i [] s5 τ H5 (λ_ _=>False) I5 (a5 bi) bh stop
      rw [eA] at d
      refine thn d λr s6 bj=>?_
      obtain ⟨hr,I6⟩:=bj
      subst hr
      obtain ⟨m,bk,_⟩:=id I6.loc
      rw [Y] at bk
      refine fin acc a.heap.objs.size H5 s6 m qn bk (λh' cy tk=>?_) ⟨I3.sz,Ne.symm (zNA I3.lt),λx c e z=>by
        obtain ⟨v,oc,cz,_⟩:=I3.cell x c e
        exact Nat.lt_irrefl _ (Nat.lt_of_lt_of_eq (Heap.lt_size cz) z.symm),λp hp z=>Nat.lt_irrefl _ (Nat.lt_of_lt_of_eq (Heap.lt_size (I3.pin p hp).1) z.symm),by have:=I6.free;rw [Y] at this;exact this⟩
      have same:∀ b,b ≠ a.heap.objs.size->h'.get? b=s6.heap.get? b:=λb k=>cy.2 b k
      have ub:=I6.base
      rw [cv,aj,cx,bg] at ub
      have aw:∀ b o,a.heap.get? b=some o->b ≠ a.heap.objs.size:=λb o e=>zNA (Heap.lt_size e)
      have u:Un (frs X.stack) f (upd U acc (.lst [])) H5 a.heap h':=
        ⟨λb o e n1 n2 n3=>(same b (aw b o e)).trans (ub.keep b o e n1 n2 n3),λb o e n1 n2 n3=>by
            obtain ⟨sl,z⟩:=ub.slot b o e n1 n2 n3
            exact ⟨sl,(same b (aw b o e)).trans z⟩,ub.free,λb o e n3=>by
            obtain ⟨o',z⟩:=ub.there b o e n3
            exact ⟨o',(same b (aw b o e)).trans z⟩,ub.tups,ub.frzs,ub.tbls⟩
      have fC:H5 a.heap.objs.size=none:=by have:=I6.free;rw [Y] at this;exact this
      have d0:HOk X.prog X.w H5 h':=λb o e=>by
        have z:=I6.hok b o e
        rw [eP,ew] at z
        refine z.stay (λc u hc q=>(same c ?_).trans q) (λ_ q=>q) λ_ _ q=>q
        intro zc
        rcases hc with q1 | q1
        · rw [<- q1,zc,fC] at e;cases e
        · rw [zc,fC] at q1;cases q1
      have d1:∀ b ∈ f,(b ∈ X.ex \/ X.s₀.heap.objs.size <= b)/\b ≠ X.env.locals/\(∀ x c,X.env.cells.lookup x=some c->c ≠ b)/\∀ p ∈ X.pn ++ qp,p.1 ≠ b:=λb k=>by
        obtain ⟨_,f1,_,g3,g4,g5⟩:=f3 b k
        exact ⟨g3,f1,g4,g5⟩
      have ho:s6.os=a.os:=by have:=I6.os;rw [bg] at this;exact this
      exact I3.call' (s':={ s6 with heap:=h',toks:=tk }) (ch:=f) ho u d0 I6.bare d1
    · have d:=T.item l eP ew eK ec i [] s5 τ H5 (λ_ _=>False) I5 (a5 bi) bh go
      rw [eA] at d
      refine thn d λr s6 bm=>?_
      obtain ⟨u,hr,h6⟩:=bm
      subst hr
      refine thn h6 λ_ s7 bn=>?_
      obtain ⟨x,H7,I7,r7,y7,ax,d3⟩:=bn
      have d4:=I7.pinned (a5 d3) (T.obj _ _ ax)
      have dg:=hg _ s7 τ H7 x u _ d4 r7 (step x H7 y7)
      rw [eP,ew,eA,ex] at dg
      refine thn dg λ_ s8 bo=>?_
      obtain ⟨ak,H8,I8,q8⟩:=bo
      have dt:=ht _ s8 ak H8 _ I8 q8
      rw [eP,ew,eA,ex] at dt
      refine thn dt λok s9 bp=>?_
      obtain ⟨H9,I9,q9⟩:=bp
      have again:∀ {L:St} {j:Hp} {s':Shared},Inv l ([] ++ uE f s7.heap) L j s'->Inv l [] L j s'/\tn (i + 1) s'.heap/\∀ b ∈ f,j b=none:=λ{L j s'} Ie=>by
        refine ⟨Ie.unpinned,T.keep _ _ _ ax λb k o e=>(Ie.pin (b,o) (zMX _ (zMX _ (wF k e)))).1,λb k=>?_⟩
        obtain ⟨o,e,_⟩:=T.obj _ _ ax b k
        exact (Ie.pin (b,o) (zMX _ (zMX _ (wF k e)))).2.1
      cases ok with
      | false=>
        rw [if_neg zNB] at q9 ⊢
        obtain ⟨m',hm,w9⟩:=hN _ _ _ q9
        obtain ⟨z1,z2,z3⟩:=again I9
        exact ⟨m',hm,i + 1,ys,ak,H9,z1,z2,z3,w9⟩
      | true=>
        rw [if_pos rfl] at q9 ⊢
        have de:=ae _ s9 ak H9 _ I9 q9
        rw [eP,ew,eA,ex] at de
        refine thn de λxv ee d5=>thn d5 λct bq da=>?_
        obtain ⟨db,a6,br,J2,dc,rfl,dd,T2,aq,bs,W2,⟨m2,w2⟩,ay⟩:=da
        rw [eP,ew,eK] at T2
        have M:∀ {j:Hp},(∀ b ∈ a6,j b=none)->∀ b ∈ a6,uW l ([] ++ uE f s7.heap) j b:=λhn b k=>⟨hn b k,(bs b k).2⟩
        have aa:codeAny (model X.prog X.w) X.A (.compLoop (.ListComp ai [⟨tg,iter,af,0⟩,⟨a1,B,O,0⟩] scope pos) 1 (.ref db) (.ref acc) l.env) (λr ab=>r=.ok .next/\∃ m,m < n/\∃ i ys τ j,Inv l [] τ j ab/\tn i ab.heap/\(∀ b ∈ f,j b=none)/\W i m ys τ j) bq:=by
          refine zLK (λn2 s'=>∃ i2 D bt j,Inv l ([] ++ uE f s7.heap) bt j s'/\br i2 s'.heap/\(∀ b ∈ a6,j b=none)/\W2 i2 n2 D bt j) ?_ m2 ⟨0,ys,ak,dc,dd,aq,λb k=>(bs b k).1,w2⟩
          rintro n2 ab ⟨i2,D,E,al,bu,ar,au,df⟩
          obtain ⟨eb,bv,bw⟩:=ay i2 n2 D E al df
          rcases bw with ⟨az,dh⟩ | ⟨di,N2,bx,b0⟩
          · have d2:=T2.done l eP ew eK ec i2 _ ab E al (λ_ _=>False) bu (M au) ar az
            rw [eA] at d2
            refine thn d2 λr dj bz=>?_
            obtain ⟨hr,dk⟩:=bz
            subst hr
            obtain ⟨m',hm,dn⟩:=hN _ _ _ dh
            obtain ⟨z1,z2,z3⟩:=again dk
            exact ⟨rfl,m',hm,i + 1,D,E,al,z1,z2,z3,dn⟩
          · have d2:=T2.item l eP ew eK ec i2 _ ab E al (λ_ _=>False) bu (M au) ar di
            rw [eA] at d2
            refine thn d2 λr dj c0=>?_
            obtain ⟨u2,hr,dp⟩:=c0
            subst hr
            refine thn dp λ_ c1 c2=>?_
            obtain ⟨x2,c3,dq,dr,ds,ac,c4⟩:=c2
            have c5:=dq.pinned (M c4) (T2.obj _ _ ac)
            have ca:=ag _ c1 E c3 x2 u2 _ c5 dr (b0 x2 c3 ds)
            rw [eP,ew,eA,ex] at ca
            refine thn ca λ_ du cb=>?_
            obtain ⟨G,dv,dw,dx⟩:=cb
            have cc:=ah _ du G dv _ dw dx
            rw [eP,ew,eA,ex] at cc
            refine thn cc λdy dz cd=>?_
            obtain ⟨cf,cg,an⟩:=cd
            have a0:∀ {L:St} {j:Hp} {s':Shared},Inv l (([] ++ uE f s7.heap) ++ uE a6 c1.heap) L j s'->Inv l ([] ++ uE f s7.heap) L j s'/\br (i2 + 1) s'.heap/\∀ b ∈ a6,j b=none:=λ{L j s'} Ie=>by
              refine ⟨Ie.unpinned,T2.keep _ _ _ ac λb k o e=>(Ie.pin (b,o) (zMX _ (zMX _ (wF k e)))).1,λb k=>?_⟩
              obtain ⟨o,e,_⟩:=T2.obj _ _ ac b k
              exact (Ie.pin (b,o) (zMX _ (zMX _ (wF k e)))).2.1
            cases dy with
            | false=>
              rw [if_neg zNB] at an ⊢
              obtain ⟨m',hm,e0⟩:=bx _ _ _ an
              obtain ⟨z1,z2,z3⟩:=a0 cg
              exact ⟨m',hm,i2 + 1,D,G,cf,z1,z2,z3,e0⟩
            | true=>
              rw [if_pos rfl] at an ⊢
              have cj:=he _ dz G cf _ cg an
              rw [eP,ew,eA,ex] at cj
              refine thn cj λyv e1 ck=>?_
              obtain ⟨y,cl,e2,e3,cm,e5⟩:=ck
              obtain ⟨m',hm,e6⟩:=bx _ _ _ e5
              have dm:=xF (X:=l) _ e1 G cl (.ref acc) [y] (.ref acc) [yv] (λv j=>v=.non/\j=upd cl acc (.lst (D ++ [y]))) e2 rfl (.cons e3 .nil) ⟨acc,D,y,rfl,rfl,cm,bv,rfl,rfl⟩
              rw [eP,ew,eA,ex] at dm
              refine thn dm λ_ ef cn=>?_
              obtain ⟨_,eg,e7,_,_,e8⟩:=cn
              subst e8
              obtain ⟨z1,z2,z3⟩:=a0 e7
              exact ⟨m',hm,i2 + 1,D ++ [y],G,_,z1,z2,z3,e6⟩
        exact aK aa (T2.self X.A 0 bq _ (λ_ _=>False) aq aa)
  have e4:({ newEnv scope a.heap.objs.size X.env.globals (clF X.env scope.names []) X.env.qual none .none (some X.env) builtinsNs with scope:=relabel scope X.env }:Env)=l.env:=by rw [a4];rfl
  rw [a4] at loop
  have self:=T.self X.A 0 s4 (λe9 s'=>codeAny (model X.prog X.w) X.A (.compLoop (.ListComp ai [⟨tg,iter,af,0⟩,⟨a1,B,O,0⟩] scope pos) 0 e9 (.ref acc) (compEnvC scope (clF X.env scope.names []) a.heap.objs.size X.env)) (compPost (model X.prog X.w) X.A X.xe use R (.ref acc) a.heap.objs.size) s')
    (notedBy (model X.prog X.w) X.A (compEnvC scope (clF X.env scope.names []) a.heap.objs.size X.env) λx s'=>compPost (model X.prog X.w) X.A X.xe use R (.ref acc) a.heap.objs.size (.error x) s') bf loop
  exact codeAny_compStart_list loop self
theorem zHK (S:xN X xs ix scope) (A:X.calm=true) (B:PI X z iter D) (i:∀ C a s H,PI (cxC X xs ix scope C a s H) d b j)
  (E:∀ C a s H,PG (cxC X xs ix scope C a s H) z g) (G:∀ C a s H,PTs (cxC X xs ix scope C a s H) l J) (o:∀ C a s H,PG (cxC X xs ix scope C a s H) d g2) (p:∀ C a s H,PTs (cxC X xs ix scope C a s H) f r)
  (L:∀ C a s H,PE (cxC X xs ix scope C a s H) t M) (N:∀ x,foldedSetIterable iter X.env x=pure x:=by intro _;rfl) (u:∀ env x,foldedSetIterable b env x=pure x:=by intro _ _;rfl) :
  PE X (.ListComp t [⟨z,iter,l,0⟩,⟨d,b,f,0⟩] scope pos) (zG1 xs ix D g J j g2 r M):=by
 intro Y s σ H Q I h
 have v:∀ n,(n,NameKind.free) ∈ scope.names->(X.env.cells.lookup n).isSome=true:=λn w=>by
  obtain ⟨c,e⟩:=I.ok.has n (S.fre n w)
  rw [e];rfl
 rw [eval_ListComp]
 refine wpAny_comprehension_free (use:=none) rfl N (vA v) S.kind S.loc ?_
 refine zBX S A B i u E G o p L I h λacc C O T m q w k _=>?_
 exact ⟨m,w,λU y=>⟨.ref acc,O,k U y T.toks,rfl,q⟩⟩
theorem zDZ
  (w:sI N sc [x,y,z,u] ix scope) (A:PI X (.Tuple [.Name x B,.Name y py] D E) iter G) (e:∀ C a s H,PI (cxC X [x,y,z,u] ix scope C a s H) (.Tuple [.Name z I,.Name u J] f g) b h)
  (L:∀ C a s H,PTs (cxC X [x,y,z,u] ix scope C a s H) i M) (j:∀ C a s H,PTs (cxC X [x,y,z,u] ix scope C a s H) c k) (O:∀ C a s H,PE (cxC X [x,y,z,u] ix scope C a s H) l Q)
  (T:X.N=N:=by rfl) (m:X.env.scope=sc:=by rfl) (o:X.calm=true:=by rfl) (U:∀ x,foldedSetIterable iter X.env x=pure x:=by intro _;rfl) (p:∀ env x,foldedSetIterable b env x=pure x:=by intro _ _;rfl) :
  PE X (.ListComp l [⟨.Tuple [.Name x B,.Name y py] D E,iter,i,0⟩,⟨.Tuple [.Name z I,.Name u J] f g,b,c,0⟩] scope pos)
   (zG1 [x,y,z,u] ix G (bN X.K 2 (t6 (wI 0) (t6 (wI 1) bO))) M h (bN X.K 2 (t6 (wI 2) (t6 (wI 3) bO))) k Q):=by
 have S:=w.at (X:=X) T m
 have d:∀ n ∈ [x,y,z,u],∀ C a s H,(cxC X [x,y,z,u] ix scope C a s H).env.scope.names.lookup n=some .local:=λn Y _ _ _ _=>lookup_relabel_local (S.own n Y)
 have q:=d x (by simp)
 have r:=d y (by simp)
 have t:=d z (by simp)
 have v:=d u (by simp)
 exact zHK S o A e (λC a s H=>u7 (X:=cxC X [x,y,z,u] ix scope C a s H) o (yT (yL S.nd rfl (Or.inl (q C a s H)) (.inr (q C a s H))) (yT (yL S.nd rfl (Or.inl (r C a s H)) (.inr (r C a s H))) uA))) L
  (λC a s H=>u7 (X:=cxC X [x,y,z,u] ix scope C a s H) o (yT (yL S.nd rfl (Or.inl (t C a s H)) (.inr (t C a s H))) (yT (yL S.nd rfl (Or.inl (v C a s H)) (.inr (v C a s H))) uA))) j O U p
theorem zB1 {K:W.Frag} {a acc:Addr} {its d:List V} {g:TG} {n:TE} {f:St} {o:Hp} {N:List V->St->Hp->Prop} (Pv:Nat->List V->St->Hp->Prop) (q:Pv 0 d f o) (h:∀ i ys b H,Pv i ys b H->H acc=some (.lst ys)/\ys.length < sizeLine/\SqL K H a its)
  (r:∀ i ys b H x,its[i]?=some x->Pv i ys b H->g x b H λc s=>n c s λy j=>j acc=some (.lst ys)/\Pv (i + 1) (ys ++ [y]) c (upd j acc (.lst (ys ++ [y])))) (hd:∀ ys b H,Pv its.length ys b H->N ys b H):INW (Itl K a) g sY n acc d f o N:=by
 refine ⟨λi m ys b H=>m=its.length - i/\i <= its.length/\Pv i ys b H,⟨its.length,by simp,zMT _,q⟩,?_⟩
 rintro i m ys b H ⟨rfl,B,p⟩
 obtain ⟨t,u,l⟩:=h i ys b H p
 refine ⟨t,u,?_⟩
 by_cases k:i < its.length
 ·refine .inr ⟨⟨its,its[i],l,by simp [k]⟩,Pv (i + 1),λv w z A=>⟨its.length - (i + 1),by omega,rfl,k,A⟩,λx z y=>?_⟩
  obtain ⟨e,y⟩:=y
  subst e
  exact oA (R:=λc _=>λy j=>j acc=some (.lst ys)/\Pv (i + 1) (ys ++ [y]) c (upd j acc (.lst (ys ++ [y])))) (r i ys b _ x (y its l) p)
 ·have e:i=its.length:=by omega
  subst e
  exact .inl ⟨⟨its,l,zMS _⟩,hd ys b H p⟩
theorem zBW {K:W.Frag} {a acc:Addr} {k:Int} {its:List V} {xs:List Str} {ix:List Nat} {g g2:TG} {f:TT} {h:TI} {o:TE} {σ:St} {H1:Hp} {Q:VK} (Pv:Nat->List V->St->Hp->Prop) (t:Pv 0 [] (stC xs ix σ) (upd H1 acc (.lst []))) (u:∀ i ys d H,i <= its.length->Pv i ys d H->SqL K H a its)
  (w:∀ i ys d H x T,its[i]?=some x->Pv i ys d H->H T=none->g (.ref T) d (upd H T (.tup [.int (k + i),x])) λc j=>h c j λl n=>INW l g2 f o acc ys c n (Pv (i + 1))) (hd:∀ ys d H,Pv its.length ys d H->Q (.ref acc) H):zMI (Ite K a k) xs ix g sY h g2 f o σ H1 acc Q:=by
 refine ⟨λi m ys d H=>m=its.length - i/\i <= its.length/\Pv i ys d H,⟨its.length,by simp,zMT _,t⟩,?_⟩
 rintro i m ys d H ⟨rfl,z,p⟩
 have q:=u i ys d H z p
 by_cases r:i < its.length
 ·refine .inr ⟨⟨its,its[i],q,by simp [r]⟩,Pv (i + 1),λA B C D=>⟨its.length - (i + 1),by omega,rfl,r,D⟩,λx C y=>?_⟩
  obtain ⟨T,v,rfl,E,rfl,y⟩:=y
  have e:(λc j=>sY c j λb s=>if b=true then h c s λl n=>INW l g2 f o acc ys c n (Pv (i + 1)) else Pv (i + 1) ys c s)=λc j=>h c j λl n=>INW l g2 f o acc ys c n (Pv (i + 1)):=by
   funext c j
   show (if true=true then h c j (λl n=>INW l g2 f o acc ys c n (Pv (i + 1))) else Pv (i + 1) ys c j)=_
   rw [if_pos rfl]
  rw [e]
  exact w i ys d H v T (y its q) p E
 ·have e:i=its.length:=by omega
  subst e
  exact .inl ⟨⟨its,q,zMS _⟩,hd ys d H p⟩
section
variable {X:Cx}
theorem oT (m:Gl X "enumerate") (o:X.mg "enumerate"=none) (r:PE X l t) (w:starEach [l] X.env=[(false,eval l X.env)]:=by rfl) :
  PI X (.Tuple j n L) (.Call (.Name "enumerate" p) [l] [] pos) (zLO X.K 0 t):=by
 intro y s z H R I h
 refine wpAny_Call_Name_kw (rE I m o (u:=.type "enumerate") rfl ?_)
 rw [w]
 refine PySem.callWith_type rfl (Calls.evalArgs_plain (Calls.spliced_cons (thn (r y s z H _ I h) λv c d=>?_)))
 obtain ⟨x,A,f,B,C⟩:=d
 refine Calls.spliced_nil ?_
 obtain ⟨a,rfl,⟨M,D⟩,q⟩:=C
 cases B
 obtain ⟨E,N,G,O⟩:=f.list D
 refine call_enumerate_list G.isList λQ k J _ g=>?_
 refine wpAny_pyIter_enum k ?_
 refine ⟨c.heap.objs.size + 1,[c.heap.objs.size + 1,c.heap.objs.size],_,_,A,rfl,f.kept (t':=c.toks) g,cF a (c.heap.objs.size + 1) c.heap.objs.size 0 (Nat.succ_ne_self _),⟨⟨.none,by simpa using k⟩,J⟩,λb i=>?_,q⟩
 have e:c.heap.objs.size <= b:=by
  rcases List.mem_cons.mp i with rfl | i
  ·exact Nat.le_succ _
  ·rw [zMM.mp i];exact zMS _
 exact f.fpOk e (f.hok.fresh e)
end
theorem cS {X:Cx} {f g h b pos c:Pos}
  (j:X.N.Nodup) (k:X.N[i]?=some y) (hx:Loc X.env.scope y)
  (r:sI N sc [x,z] ix scope) (t:PI X (.Tuple [.Name x f,.Name z g] n h) iter u) (v:∀ C a s H,PTs (cxC X [x,z] ix scope C a s H) d w) (A:∀ C a s H,PE (cxC X [x,z] ix scope C a s H) e B)
  (D:X.N=N:=by rfl) (l:X.env.scope=sc:=by rfl) (o:X.calm=true:=by rfl)
  (m:swapsWith (.ListComp e [⟨.Tuple [.Name x f,.Name z g] n h,iter,d,0⟩] scope b) (some (.Name y c)) pos.line X.env=pure true:=by rfl)
  (E:X.fn y=true \/ X.env.scope.names.lookup y=some .local:=by first | exact .inl rfl | exact .inr rfl | assumption)
  (G:∀ x,foldedSetIterable iter X.env x=pure x:=by intro _;rfl) :
  PS X (.Assign [.Name y c] (.ListComp e [⟨.Tuple [.Name x f,.Name z g] n h,iter,d,0⟩] scope b) pos) (oE (tLC [x,z] ix u (bN X.K 2 (t6 (wI 0) (t6 (wI 1) bO))) w B) (wI i)):=by
 have S:=r.at (X:=X) D l
 have p:∀ C a s H,(cxC X [x,z] ix scope C a s H).env.scope.names.lookup x=some .local:=λ_ _ _ _=>lookup_relabel_local (S.own x (by simp))
 have q:∀ C a s H,(cxC X [x,z] ix scope C a s H).env.scope.names.lookup z=some .local:=λ_ _ _ _=>lookup_relabel_local (S.own z (by simp))
 exact j8 j k hx S o t (λC a s H=>u7 (X:=cxC X [x,z] ix scope C a s H) o (yT (yL S.nd rfl (Or.inl (p C a s H)) (.inr (p C a s H))) (yT (yL S.nd rfl (Or.inl (q C a s H)) (.inr (q C a s H))) uA))) v A m E G
end L2
namespace L2
open PySem PySem.Spec PyProof.Rows PySem.W
noncomputable def ltF:V->V->Bool
 | .int a,.int b=>decide (a < b)
 | .bl a,.bl b=>!a && b
 | .str a,.str b=>ltS a b
 | _,_=>false
inductive Kin:List V->List V->Prop
 | nil:Kin [] []
 | int {a b:Int} {xs ys:List V} (h:Kin xs ys):Kin (.int a :: xs) (.int b :: ys)
 | bl {a b:Bool} {xs ys:List V} (h:Kin xs ys):Kin (.bl a :: xs) (.bl b :: ys)
 | str {a b:Str} {xs ys:List V} (h:Kin xs ys):Kin (.str a :: xs) (.str b :: ys)
noncomputable def tU:List V->List V->Bool
 | a :: as,c :: b=>if eqV a c=true then tU as b else ltF a c
 | _,_=>false
theorem bC (a c:V) (as b:List V):tU (a :: as) (c :: b)=if eqV a c=true then tU as b else ltF a c:=rfl
theorem Kin.len (h:Kin xs ys):xs.length=ys.length:=by
 induction h <;> simp_all
section
open PySem.SeqAt
open PySem.AutoSeq1 (wpAny_loadPart')
open PySem.MeetsSeq PySem.MeetsSeq2 PySem.MeetsSeq3
theorem cN (e:Kin (x :: xs) (y :: ys)) (c:yU x u) (d:yU y v) (A:Around) (s:Shared) (prog:Program) (w:World) (E:VSP) (Q:VSP) (h:Q (.bool (ltF x y)) s) :
  wpAny (model prog w) A (richCompare .Lt u v) Q E s:=by
 cases e with
 | int _=>obtain ⟨t,rfl⟩:=c;obtain ⟨f,rfl⟩:=d;exact (PyProof.Rows.lt_int h:wpAny (model prog w) A (compareOp .Lt _ _) Q E s)
 | str _=>obtain ⟨t,rfl⟩:=c;obtain ⟨f,rfl⟩:=d;exact (PyProof.Rows.lt_str h:wpAny (model prog w) A (compareOp .Lt _ _) Q E s)
 | @bl a b _ _ _=>
  cases c;cases d
  refine (PyProof.Rows.lt_bool ?_:wpAny (model prog w) A (compareOp .Lt (.bool a) (.bool b)) Q E s)
  cases a <;> cases b <;> exact h
theorem Kin.flat (h:Kin (x :: xs) (y :: ys)):xA x=true/\xA y=true/\Kin xs ys:=by
 cases h <;> exact ⟨rfl,rfl,by assumption⟩
theorem rM (l b:Addr) (items f:Array Value) (n n2:Nat) (dd L:Option Addr) (sl M:Array (Option Value)) (B C:List V) (hk:Kin B C) (hi:yH B items.toList) (hj:yH C f.toList) :
  Meets (Builtin.«tuple.__lt__» ⟨[.ref l,.ref b],[]⟩)
   (λ_ R s=>s.heap.get? l=some { cls:=.type "tuple",dict:=dd,data:=.seq items n,slots:=sl }/\s.heap.get? b=some { cls:=.type "tuple",dict:=L,data:=.seq f n2,slots:=M } /\
    R (.ok (.ret (.bool (tU B C)))) s):=
 .of_wp λo w A R s h=>by
  obtain ⟨G,g,d,H,os⟩:=s;obtain ⟨hl,hb,h⟩:=h
  have f2:=AutoSeq1.sub_tuple_tuple
  have z1:items.size=B.length:=by rw [hi.length];simp
  have z2:f.size=C.length:=by rw [hj.length];simp
  have zz:items.size=f.size:=by rw [z1,z2,hk.len]
  wp_walk using wpAny_loadPart' hl,wpAny_loadPart' hb,wpAny_forIn_list _ (λrest b N=>b.1=none/\N=⟨G,g,d,H,os⟩/\∃ I J i j,rest=I.zip J /\
   yH i I/\yH j J/\Kin i j/\R (.ok (.ret (.bool (tU i j)))) ⟨G,g,d,H,os⟩) _
  case turn=>
   rintro ⟨y,x⟩ rest b N ⟨q,rfl,I,J,i,j,k,r,v,m,p⟩
   cases r with
   | nil=>rw [List.zip_nil_left] at k;cases k
   | @cons a t as ts O D=>
    cases v with
    | nil=>rw [List.zip_nil_right] at k;cases k
    | @cons c u cs us Q E=>
     rw [List.zip_cons_cons] at k
     injection k with T z
     injection T with hy hx
     subst hy hx
     rw [bC] at p
     obtain ⟨fa,fc,U⟩:=m.flat
     have he:SeqAt.EqAt A.in1 ⟨G,g,d,H,os⟩ _ _ (eqV a c):=jC O Q fa fc
     refine wpAny_bind (he o w _ _ ?_)
     cases e:eqV a c with
     | true=>
      rw [e,if_pos rfl] at p
      wp_walk
      exact ⟨rfl,rfl,_,_,_,_,z,D,E,U,p⟩
     | false=>
      rw [e,if_neg (by simp)] at p
      have Y:=cN m O Q A.in1 ⟨G,g,d,H,os⟩ o w
      wp_walk using Y
      exact ⟨_,rfl,by simpa using p⟩
  case fin=>
   rintro ⟨b1,b2⟩ N ⟨q,rfl,I,J,i,j,k,r,v,m,p⟩
   simp only at q
   subst q
   have hv:tU i j=decide (items.size < f.size):=by
    rw [zz,zMZ (Nat.lt_irrefl _)]
    cases r with
    | nil=>rfl
    | cons O hv=>
     cases v with
     | nil=>cases m
     | cons Q hw=>rw [List.zip_cons_cons] at k;cases k
   rw [hv] at p
   wp_walk
   exact ⟨_,rfl,by simpa [Builtin.Tuple.tupleCompareSizes] using p⟩
  case h=>
   exact ⟨rfl,rfl,items.toList,f.toList,B,C,rfl,hi,hj,hk,h⟩
end
section
variable {X:Cx}
noncomputable def rLtK:R2:=λx y H Q=>∃ a b p q,x=.ref a/\y=.ref b/\H a=some (.tup p)/\H b=some (.tup q)/\Kin p q/\Q (.bl (tU p q)) H
theorem zHT (r:X.A.units < cLine):OpR X (compareOp .Lt) rLtK:=by
 intro t s w H x y v u Q I z B h
 obtain ⟨a,b,p,q,rfl,rfl,C,D,E,k⟩:=h
 cases z
 cases B
 obtain ⟨g,G,J,_⟩:=I.tuple (.of C)
 obtain ⟨c,L,M,_⟩:=I.tuple (.of D)
 obtain ⟨⟨cls,N,data,O⟩,l,m,n,hd⟩:=id J
 obtain ⟨⟨o,i,data2,j⟩,d,e,n2,f⟩:=id M
 simp only at m hd e f
 subst m hd e f
 exact richCompare_meets_room (op:=.Lt) ⟨_,l,rfl⟩ ⟨_,d,rfl⟩ F.slot_tuple_lt F.entry_tuple_lt (F.args_tuple_lt_2 _ _) (rM a b g.toArray c.toArray n n2 N i O j _ _ E G L)
  ⟨l,d,(⟨(λx=>nomatch x),⟨.bl (tU p q),H,I,rfl,k⟩⟩:Value.bool (tU p q) ≠ Value.notImplemented/\EP X t w Q (.bool (tU p q)) s)⟩ r
end
section
variable {prog:Program} {w:World} {A:Around} {R:Result->Shared->Prop} {I:Addr} {fp wr:List Addr} {n:Nat} {P:Nat->Value->Prop} {St:Nat->Heap->Prop} {G:Heap->Prop} {bt:Nat->Nat->Bool} {S:Addr}
noncomputable def zI2 (prog:Program) (w:World) (A:Around) (G:Heap->Prop) (P:Nat->Value->Prop) (bt:Nat->Nat->Bool):Prop:=∀ i j a b s Q E,G s.heap->P i a->P j b->Q (.bool (bt i j)) s->wpAny (model prog w) A (richCompare .Lt a b) Q E s
noncomputable def zI0 (G:Heap->Prop) (wr:List Addr) (S:Addr):Prop:=∀ h a:Heap,G h->(∀ b o,b ∉ wr->b ≠ S->h.get? b=some o->a.get? b=some o)->G a
theorem zEJ (W:Walks prog w A.in1 I fp wr n P St) (B:zI2 prog w A.in1 G P bt) (C:S ∉ fp) (O:zI0 G wr S) :
  ∀ k j s p c,n - (j + 1)=k->j + 1 <= n->St (j + 1) s.heap->G s.heap->P (argBest bt j) p->s.heap.get? S=some ⟨.type "list",none,.seq #[p,p] c,#[]⟩ ->
  (∀ v h' J,P (argBest bt (n - 1)) v->(∀ b o,b ∉ wr->b ≠ S->s.heap.get? b=some o->h'.get? b=some o)->R (.ok (.ret v)) ⟨h',s.gens,s.drawn,J,s.os⟩)->codeAny (model prog w) A (.builtin "min.loop" ⟨[.ref I,.none,.ref S],[]⟩) R s:=by
 have D:S ∉ wr:=λh=>C (W.sub _ h)
 have nm:(toString "min" ++ toString ".loop" : String)="min.loop":=by decide
 intro k;induction k with
 | zero=>
  intro j s p c hk hj t Q q E L
  have H:j + 1=n:=by omega
  refine codeAny_builtin F.entry_min_loop ?_;rw [Around.under_plainId F.plain_min_loop _]
  refine wpAny_bind (m:=seqItems? (.ref S)) (wpAny_seqItems E rfl ?_)
  refine wpAny_bind (m:=tryCatch (pyNext (.ref I)) _) (wpAny_tryCatch (W.done s _ _ (H ▸ t) λh' J f=>?_))
  have g:=f S _ D E
  refine wpAny_bind (m:=updateSeq S (λ_=>#[])) (wpAny_updateSeq g rfl (wpAny_bind (wpAny_letGo (wpAny_pure ?_))))
  exact L p _ J (by rw [<- H];exact q) λb o a d e=>(Heap.get?_update_other _ _ (Ne.symm d)).trans (f b o a e)
 | succ k T=>
  intro j s p c hk hj t Q q E L
  have u:j + 1 < n:=by omega
  refine codeAny_builtin F.entry_min_loop ?_;rw [Around.under_plainId F.plain_min_loop _]
  refine wpAny_bind (m:=seqItems? (.ref S)) (wpAny_seqItems E rfl ?_)
  refine wpAny_bind (m:=tryCatch (pyNext (.ref I)) _) (wpAny_tryCatch (W.item (j + 1) s _ _ u t λv h' J U r f=>?_))
  have g:=f S _ D E
  have x:=O _ _ Q λb o a _ e=>f b o a e
  refine wpAny_bind (m:=tryCatch (holding [v,v] (richCompare .Lt v p >>= _)) _) (wpAny_tryCatch (wpAny_holding (wpAny_bind (B (j + 1) (argBest bt j) v p _ _ _ x U q ?_))))
  refine wpAny_bind (wpAny_holding (wpAny_truthy_bool (wpAny_bind (wpAny_letGo (wpAny_pure ?_)))))
  cases Y:bt (j + 1) (argBest bt j) with
  | true=>
   simp only [if_true]
   refine wpAny_bind (wpAny_updateSeq g rfl (wpAny_bind (wpAny_letGo ?_)));rw [nm]
   refine wpAny_pure ⟨plainId_quiet F.plain_min_loop _,T (j + 1) _ v _ (by omega) u (W.frame _ _ _ r λb M o e=>?_) (O _ _ x λb o _ d e=>?_) (by simp only [argBest,Y,if_true];exact U) (Heap.get?_update_self _ g rfl) λN y i z l=>?_⟩
   ·exact (Heap.get?_update_other _ _ λh=>C (by rw [h];exact M)).trans e
   ·exact (Heap.get?_update_other _ _ (Ne.symm d)).trans e
   ·exact L N y i z λb o a d e=>l b o a d ((Heap.get?_update_other _ _ (Ne.symm d)).trans (f b o a e))
  | false=>
   simp only [Bool.false_eq_true,if_false]
   refine wpAny_bind (wpAny_letGo ?_);rw [nm]
   refine wpAny_pure ⟨plainId_quiet F.plain_min_loop _,T (j + 1) _ p c (by omega) u r x (by simp only [argBest,Y,Bool.false_eq_true,if_false];exact q) g λN y i z l=>?_⟩
   exact L N y i z λb o a d e=>l b o a d (f b o a e)
theorem fE (W:Walks prog w A.in1 I fp wr n P St) (i:zI2 prog w A.in1 G P bt) (f:S ∉ fp) (q:zI0 G wr S) (B:0 < n) {s:Shared} (r:St 0 s.heap) (E:G s.heap) (C:s.heap.get? S=some ⟨.type "list",none,.seq #[] c,#[]⟩)
  (H:∀ v h' D,P (argBest bt (n - 1)) v->(∀ b o,b ∉ wr->b ≠ S->s.heap.get? b=some o->h'.get? b=some o)->R (.ok (.ret v)) ⟨h',s.gens,s.drawn,D,s.os⟩):codeAny (model prog w) A (.builtin "min.loop" ⟨[.ref I,.none,.ref S],[]⟩) R s:=by
 have t:S ∉ wr:=λh=>f (W.sub _ h)
 have nm:(toString "min" ++ toString ".loop" : String)="min.loop":=by decide
 refine codeAny_builtin F.entry_min_loop ?_;rw [Around.under_plainId F.plain_min_loop _]
 refine wpAny_bind (m:=seqItems? (.ref S)) (wpAny_seqItems C rfl ?_)
 refine wpAny_bind (m:=tryCatch (pyNext (.ref I)) _) (wpAny_tryCatch (W.item 0 s _ _ B r λv h' D J j g=>?_))
 have k:=g S _ t C
 have u:=q _ _ E λb o a _ e=>g b o a e
 refine wpAny_bind (m:=updateSeq S (λ_=>#[v,v])) (wpAny_updateSeq k rfl ?_);rw [nm]
 refine wpAny_pure ⟨plainId_quiet F.plain_min_loop _,zEJ W i f q _ 0 _ v _ rfl B (W.frame _ _ _ j λb x o e=>?_) (q _ _ u λb o _ d e=>?_) J (Heap.get?_update_self _ k rfl) λL y l z p=>?_⟩
 ·exact (Heap.get?_update_other _ _ λh=>f (by rw [h];exact x)).trans e
 ·exact (Heap.get?_update_other _ _ (Ne.symm d)).trans e
 ·exact H L y l z λb o a d e=>p b o a d ((Heap.get?_update_other _ _ (Ne.symm d)).trans (g b o a e))
end
noncomputable def nZ (a:List (List V)):Nat:=argBest (λi j=>tU (a.getD i []) (a.getD j [])) (a.length - 1)
section
variable {X:Cx}
theorem bY (T:X.calm=true) (hu:X.A.in1.units < cLine):vU X (.builtin "min") (λxs H Q=>∃ a f p,xs=[.ref a]/\H a=some (.lst (f.map V.ref))/\Paired (λq r=>H q=some (.tup r)) f p/\(∀ r ∈ p,∀ r' ∈ p,Kin r r')/\0 < f.length /\
  ∀ q,f[nZ p]?=some q->Q (.ref q) H):=by
 intro qp s σ H xs us Q I r h
 obtain ⟨a,f,p,rfl,hA,U,hk,a0,q⟩:=h
 obtain ⟨u,rfl,rx⟩:=sU r
 cases rx
 obtain ⟨d,r',pl,ab⟩:=I.list (.of hA)
 have C:=kR r'
 subst C
 have lq:=zZ U
 have a1:@LT.lt Nat instLTNat a s.heap.objs.size:=by obtain ⟨_,_,e,_⟩:=pl;exact Heap.lt_size e
 have get:∀ {f:List Addr} {p:List (List V)},Paired (λq r=>H q=some (.tup r)) f p->∀ i x,f[i]?=some x->H x=some (.tup (p.getD i []))/\p.getD i [] ∈ p:=by
  intro f p h
  induction h with
  | nil=>intro i x e;simp at e
  | cons c r ih=>
   intro i x e
   cases i with
   | zero=>simp at e;subst e;exact ⟨c,by simp⟩
   | succ i=>
    obtain ⟨e1,e2⟩:=ih i x (by simpa using e)
    exact ⟨e1,zMW _ e2⟩
 let G:Heap->Prop:=λh=>∀ i x,f[i]?=some x->∃ d n y B,h.get? x=some ⟨.type "tuple",y,.seq d n,B⟩/\yH (p.getD i []) d.toList/\@LT.lt Nat instLTNat x s.heap.objs.size
 have g0:G s.heap:=λi x e=>by
  obtain ⟨d,r1,p1,_⟩:=I.tuple (.of (get U i x e).1)
  obtain ⟨⟨cls,y,data,B⟩,ho,T,n,hd⟩:=id p1
  simp only at T hd
  subst T hd
  exact ⟨d.toArray,n,y,B,ho,r1,Heap.lt_size ho⟩
 have nm:(toString "min" ++ toString ".loop" : String)="min.loop":=by decide
 refine call_function_tree F.kind_min F.plain_min F.entry_min (F.args_min1 _) ?_
 refine wpAny_bind (m:=Builtin.Builtins.bindParams "min" ["key","default"] 0 ⟨[],[]⟩) (wpAny_of_eq (show _=pure [none,none] from rfl) (wpAny_bind (wpAny_pure ?_)))
 refine wpAny_bind (wpAny_pyIter_list pl.isList ?_)
 have lg:G (s.heap.push { cls:=.type "list_iterator",data:=.fields #[.ref a,.int 0 0] }):=λi x e=>by
  obtain ⟨d,n,y,B,D,t,E⟩:=g0 i x e
  exact ⟨d,n,y,B,Heap.get?_push_of_some _ D,t,E⟩
 have W:=Walks.list (prog:=X.prog) (w:=X.w) (A:=X.A.in1) (show X.A.in1.handled=none from I.ok.hd T) s.heap.objs.size a (zNA a1) (f.map Value.ref).toArray
 have a2:(s.heap.push { cls:=.type "list_iterator",data:=.fields #[.ref a,.int 0 0] }).IsListIter s.heap.objs.size a 0/\(s.heap.push { cls:=.type "list_iterator",data:=.fields #[.ref a,.int 0 0] }).IsList a (f.map Value.ref).toArray:=⟨⟨_,Heap.get?_push_size _ rfl,rfl,rfl⟩,pl.isList.push _⟩
 generalize J:(s.heap.push { cls:=.type "list_iterator",data:=.fields #[.ref a,.int 0 0] })=t at *
 have L:t.objs.size=s.heap.objs.size + 1:=by rw [<- J,size_push']
 have k2:∀ b o,s.heap.get? b=some o->t.get? b=some o:=λb o e=>by rw [<- J];exact Heap.get?_push_of_some _ e
 refine wpAny_bind (wpAny_newObj_type ?_)
 rw [nm]
 have a3:t.objs.size ∉ [s.heap.objs.size,a]:=by
  simp only [List.mem_cons,zND,or_false,not_or]
  exact ⟨by omega,by omega⟩
 have hG:zI0 G [s.heap.objs.size] t.objs.size:=λh h' g k i x e=>by
  obtain ⟨d,n,y,B,D,a4,E⟩:=g i x e
  exact ⟨d,n,y,B,k _ _ (by simp;exact zNA E) (zNA (by rw [L];exact Nat.lt_succ_of_lt E)) D,a4,E⟩
 have M:zI2 X.prog X.w X.A.in1 G (λi v=>(f.map Value.ref).toArray[i]?=some v) (λi j=>tU (p.getD i []) (p.getD j [])):=by
  intro i j vi vj s' Q' E' g N O hq
  simp only [List.getElem?_toArray,zMP] at N O
  cases C:f[i]? with
  | none=>rw [C] at N;cases N
  | some xi=>
  cases Y:f[j]? with
  | none=>rw [Y] at O;cases O
  | some xj=>
  rw [C] at N
  rw [Y] at O
  cases N
  cases O
  obtain ⟨i1,n1,d1,s1,D,v1,_⟩:=g i xi C
  obtain ⟨i2,n2,d2,s2,t,v2,_⟩:=g j xj Y
  exact richCompare_meets_room (op:=.Lt) ⟨_,D,rfl⟩ ⟨_,t,rfl⟩ PySem.F.slot_tuple_lt PySem.F.entry_tuple_lt (PySem.F.args_tuple_lt_2 _ _) (rM xi xj i1 i2 n1 n2 d1 d2 s1 s2 _ _ (hk _ (get U i xi C).2 _ (get U j xj Y).2) v1 v2) ⟨D,t,⟨(λx=>nomatch x),hq⟩⟩ hu
 refine wpAny_pure ⟨plainId_quiet F.plain_min_loop _,fE (G:=G) W M a3 hG (by simpa using a0) (W.frame 0 t _ a2 λb _ o e=>Heap.get?_push_of_some _ e) (hG t _ lg λb o _ _ e=>Heap.get?_push_of_some _ e) (Heap.get?_push_size _ rfl) λv h' tk a5 a6=>?_⟩
 have l:(f.map Value.ref).toArray[nZ p]?=some v:=by
  unfold nZ
  rw [<- lq]
  simpa using a5
 simp only [List.getElem?_toArray,zMP] at l
 cases eb:f[nZ p]? with
 | none=>rw [eb] at l;cases l
 | some x=>
 rw [eb] at l
 cases l
 refine ⟨.ref x,H,I.kept λb o e=>a6 b o ?_ ?_ (Heap.get?_push_of_some _ (k2 b o e)),rfl,q x eb⟩
 ·have z:=Heap.lt_size e
  simp;exact zNA z
 ·have z:=Heap.lt_size e
  exact zNA (by show @LT.lt Nat _ b t.objs.size;rw [L];exact Nat.lt_succ_of_lt z)
end
noncomputable def nmV (r:Str × List V):List V:=.str r.1 :: r.2
noncomputable def ltN (a b:Str × List V):Bool:=ltS a.1 b.1
noncomputable def zCU (h:Heap) (v:Value) (z:Str):Prop:=∃ t o k u l,v=.ref t/\h.get? t=some o/\o.cls=.type "tuple"/\o.data=.seq (Value.str z u :: l).toArray k
noncomputable def mF (h:Heap) (vs:List Value) (a:List Str):Prop:=vs.length=a.length/\∀ i,i < vs.length->zCU h (vs.getD i .none) (a.getD i Str.empty)
theorem mF.keep {h h':Heap} (e:h.get? a=some (seqObj "list" u n)) (k:∀ b o,b ≠ a->h.get? b=some o->h'.get? b=some o) (x:mF h vs f):mF h' vs f:=by
 refine ⟨x.1,λi g=>?_⟩
 obtain ⟨t,o,j,m,l,p,c,d,q⟩:=x.2 i g
 refine ⟨t,o,j,m,l,p,k t o (λz=>?_) c,d,q⟩
 rw [z,e] at c
 cases c
 exact absurd d (by show ¬ (Value.type "list"=Value.type "tuple");decide)
section
variable {prog:Program} {w:World} {A:Around} {E:VSP} {s:Shared}
theorem zBZ (h:C false s):∀ (l:List Value) (i:Nat),KatLex prog w A b false C (l.zip l) i s:=by
 intro l
 induction l with
 | nil=>exact λi=>kat_nil h
 | cons v l a=>exact λi=>kat_cons (SeqAt.EqAt.same v prog w _ _ (kat_yes (a (i + 1))))
theorem zCP (hx:zCU s.heap x p) (f:zCU s.heap y q) (a:p=q->x=y) (h:C (ltS p q) s):wpAny (model prog w) A (keyLt' (tuples' true) x y) C E s:=by
 obtain ⟨t,o,j,i,l,rfl,b,_,c⟩:=hx
 obtain ⟨k,m,n,r,u,rfl,f2,_,g⟩:=f
 by_cases e:p=q
 ·have d:=a e
  injection d with d
  subst d
  refine kat_lt b c b c ?_
  rw [zMZ (Nat.lt_irrefl _)]
  rw [e,zBL] at h
  exact zBZ h _ 0
 ·refine kat_lt b c f2 g ?_
  simp only [List.zip_cons_cons]
  refine kat_cons (eqBool_str ?_)
  rw [show (p == q)=false by simpa using e]
  exact kat_no (oneLt_str h)
theorem fJ (x:mF s.heap vs B) (k:0 < vs.length) (h:C (tuples' true) s):wpAny (model prog w) A (keyKind' vs.toArray) C E s:=by
 have key:∀ {vs:List Value},(∀ v ∈ vs,∃ z,zCU s.heap v z)->∃ b,KatTups s.heap vs b/\b.length=vs.length/\∀ v ∈ b,∃ z t,v=.str z t:=by
  intro vs
  induction vs with
  | nil=>exact λ_=>⟨[],KatTups.nil,rfl,λv a=>by cases a⟩
  | cons v vs m=>
   intro x
   obtain ⟨b,c,f,d⟩:=m λu n=>x u (zMW _ n)
   obtain ⟨z,t,o,j,p,l,rfl,q,r,y⟩:=x v zNC
   refine ⟨.str z p :: b,KatTups.cons q r y rfl c,by rw [zM4,zM4,f],λv a=>?_⟩
   rcases List.mem_cons.mp a with rfl | a
   ·exact ⟨_,_,rfl⟩
   ·exact d v a
 obtain ⟨b,c,f,d⟩:=key (vs:=vs) λv a=>by
  obtain ⟨i,g,e⟩:=List.getElem_of_mem a
  have z:=x.2 i g
  rw [zMO,zMK g,Option.getD_some,e] at z
  exact ⟨_,z⟩
 refine kat_kind (T:=.type "str") c (by omega) (λv a=>?_) rfl h
 obtain ⟨z,t,rfl⟩:=d v a
 exact Looks.of_pure rfl
theorem cV {p:Array Nat} {a:List Str} (e:p.size=n) (u:Up (λi j=>ltS (a.getD i Str.empty) (a.getD j Str.empty)) p n):Asc ltS (vF p a Str.empty):=by
 refine List.pairwise_iff_getElem.mpr λi j b c d=>?_
 unfold vF at b c ⊢
 rw [zMJ,Array.length_toList] at b c
 have z:=u i j (Nat.le_of_lt d) (by omega)
 unfold leK gA at z
 simp only [zNI,Array.getElem?_eq_getElem b,Array.getElem?_eq_getElem c,Option.getD_some] at z
 simpa using z
theorem gK {vs:List Value} (D:s.heap.get? a=some (seqObj "list" vs.toArray n)) (M:mF s.heap vs t) (N:t.Nodup) (T:vs.length < 64)
  (h:∀ p g c,p.Perm (List.range vs.length).toArray->Asc ltS (vF p t Str.empty)->(∀ b o,b ≠ a->s.heap.get? b=some o->g.get? b=some o)->g.get? a=some (seqObj "list" (vF p vs .none).toArray c) ->
   P (.done (.ret .none)) { s with heap:=g }):wpAny (model prog w) A (Builtin.«list.sort» ⟨[.ref a],[]⟩) P E s:=by
 have f:vs.length <= sizeLine:=by rw [sizeLine_eq];omega
 obtain ⟨U,y⟩:∃ U,(s.heap.update a (Obj.mapSeq λ_=>(#[]:Array Value))).get? a=some (seqObj "list" #[] U):=⟨_,get?_update_seq D λ_=>#[]⟩
 rw [list_sort_plain]
 refine wpAny_bind (listItems_at D rfl (wpAny_bind (listUpdate_at D rfl (wpAny_bind (seqEpoch_at y rfl (wpAny_bind (wpAny_newTuple (wpAny_bind (wpAny_newList (wpAny_holding ?_) (zMT _))) f)))) (by rw [zMR];exact f) (zMT _))))
 obtain ⟨l,Y⟩:∃ l,l=((s.heap.update a (Obj.mapSeq λ_=>(#[]:Array Value))).push (seqObj "tuple" vs.toArray 0)).push (seqObj "list" #[] 0):=⟨_,rfl⟩
 have d:l.get? a=some (seqObj "list" #[] U):=by rw [Y];exact Heap.get?_push_of_some _ (Heap.get?_push_of_some _ y)
 have kp:∀ b o,b ≠ a->s.heap.get? b=some o->l.get? b=some o:=λb o H z=>by
  rw [Y];exact Heap.get?_push_of_some _ (Heap.get?_push_of_some _ ((Heap.get?_update_ne _ _ _ _ H).trans z))
 show wpAny (model prog w) A _ P E { s with heap:=((s.heap.update a (Obj.mapSeq λ_=>(#[]:Array Value))).push (seqObj "tuple" vs.toArray 0)).push (seqObj "list" #[] 0) }
 rw [<- Y]
 dsimp only
 have u:=M.keep D kp
 have fin:∀ st p,p.Perm (List.range vs.length).toArray->Asc ltS (vF p t Str.empty)->(arrOf st).map (·.2)=(vF p vs .none).toArray->failedOf st=none ->
   P (.done (.ret .none)) { s with heap:=l.update a (Obj.mapSeq λ_=>(arrOf st).map (·.2)) }:=λst p hp ha ho _=>by
  rw [ho]
  exact h p _ _ hp ha (λb o H z=>(Heap.get?_update_ne _ _ _ _ H).trans (kp b o H z)) (get?_update_seq d λ_=>(vF p vs .none).toArray)
 by_cases x:vs.toArray.size < 2
 ·rw [if_pos x,if_pos x]
  refine wpAny_bind (wpAny_pure ?_)
  rw [StateT.run_pure]
  refine wpAny_bind (wpAny_pure ?_)
  dsimp only
  have l2:vs.length < 2:=by simpa using x
  have eo:(arrOf (SortSt.mk' general' (vs.toArray.zip vs.toArray) #[] 7 none)).map (·.2)=(vF (List.range vs.length).toArray vs .none).toArray:=by
   show (vs.toArray.zip vs.toArray).map (·.2)=_
   have lv:vs=[] \/ ∃ v,vs=[v]:=by
    cases vs with
    | nil=>exact .inl rfl
    | cons v r=>cases r with
     | nil=>exact .inr ⟨v,rfl⟩
     | cons _ _=>exact absurd l2 (by simp)
   apply Array.toList_inj.mp
   rcases lv with rfl | ⟨v,rfl⟩
   ·simp [vF]
   ·simp [vF,List.range_succ]
  have z:=fin (SortSt.mk' general' (vs.toArray.zip vs.toArray) #[] 7 none) (List.range vs.length).toArray (.refl _) (by
   unfold vF
   refine List.pairwise_iff_getElem.mpr λi j I J a0=>?_
   simp at I J
   omega) eo rfl
  have sz:((arrOf (SortSt.mk' general' (vs.toArray.zip vs.toArray) #[] 7 none)).map (·.2)).size <= sizeLine:=by
   rw [eo];show (vF _ _ _).length <= _;unfold vF;simp;exact f
  refine wpAny_bind (seqEpoch_at d rfl (wpAny_bind (listUpdate_at d rfl ?_ (zMT _) (Nat.le_succ_of_le sz))))
  simp only [bne_self_eq_false,Bool.false_eq_true,if_false]
  exact wpAny_pure z
 ·rw [if_neg x,if_neg x]
  have l2:2 <= vs.length:=by simpa using x
  let lt:Nat->Nat->Bool:=λi j=>ltS (t.getD i Str.empty) (t.getD j Str.empty)
  have O:LtO lt:=⟨λi j q=>zBM q,λi j k q1 q2=>zEM q1 q2⟩
  obtain ⟨pp,up⟩:=zC5 O (n:=vs.length) (by omega)
  have B:(evK lt (kas_sort vs.length)).size=vs.length:=by rw [pp.size_eq];simp
  refine wpAny_bind (fJ (s:={ s with heap:=l }) u (by omega) ?_)
  refine wpAny_bind (wpAny_mono (kat_run (κ:=tuples' true) (ks:=vs) (vs:=vs) (G:=λp m=>p=evK lt (kas_sort vs.length)/\m = { s with heap:=l })
   (Q:=λst m=>(arrOf st).map (·.2)=(vF (evK lt (kas_sort vs.length)) vs .none).toArray/\failedOf st=none/\m = { s with heap:=l }) rfl l2 T (λp st m _ L b3 b4=>⟨by rw [<- b4.1];exact kat_snds rfl L,b3,b4.2⟩) ?_) ?_ λ_ _ z=>z)
  ·refine zI3 (lt:=lt) (Pq:=λm=>m = { s with heap:=l }) (λi j C m I J hs hC=>?_) _ (zC4 (by omega)) _ rfl λm hs=>⟨rfl,hs⟩
   subst hs
   refine zCP (u.2 i I) (u.2 j J) (λe=>?_) (hC _ rfl)
   have li:i < t.length:=by rw [<- M.1];exact I
   have lj:j < t.length:=by rw [<- M.1];exact J
   simp only [zMO,zMK li,zMK lj,Option.getD_some] at e
   rw [(List.getElem_inj N).mp e]
  ·rintro ⟨⟨⟩,st⟩ m ⟨b1,L,rfl⟩
   dsimp only
   have sz:((arrOf st).map (·.2)).size <= sizeLine:=by
    rw [b1];show (vF _ _ _).length <= _;unfold vF;rw [zMJ,Array.length_toList,B];exact f
   refine wpAny_bind (seqEpoch_at d rfl (wpAny_bind (listUpdate_at d rfl ?_ (zMT _) (Nat.le_succ_of_le sz))))
   rw [L]
   simp only [bne_self_eq_false,Bool.false_eq_true,if_false]
   exact wpAny_pure (fin st _ pp (cV B up) b1 L)
end
section
variable {X:Cx} {qp:LAO} {σ:St} {H:Hp} {s:Shared}
theorem zBG (I:Inv X qp σ H s) {a:List (Str × List V)} (h:Paired (λq r=>H q=some (.tup r)) b (a.map nmV)):mF s.heap (b.map Value.ref) (a.map (·.1)):=by
 have le:=zZ h
 rw [zMJ] at le
 refine ⟨by simp [le],?_⟩
 have get:∀ {b:List Addr} {a:List (Str × List V)},Paired (λq r=>H q=some (.tup r)) b (a.map nmV)->∀ i,i < b.length->zCU s.heap ((b.map Value.ref).getD i .none) ((a.map (·.1)).getD i Str.empty):=by
  intro b
  induction b with
  | nil=>intro a _ i c;exact absurd c (Nat.not_lt_zero _)
  | cons q b e=>
   intro a h i c
   cases a with
   | nil=>cases h
   | cons r a=>
    cases h with
    | cons f g=>
    cases i with
    | succ i=>exact e g i (by simpa using c)
    | zero=>
     obtain ⟨j,d,k,_⟩:=I.tuple (.of f)
     obtain ⟨o,l,m,n,hd⟩:=k
     cases d with
     | cons d t=>
     obtain ⟨p,rfl⟩:=d
     exact ⟨q,o,n,p,_,rfl,l,m,hd⟩
 intro i c
 exact get h i (by simpa using c)
theorem qC:vU X (.builtin "sorted") (λxs H Q=>∃ a d e,xs=[.ref a]/\H a=some (.lst (d.map V.ref))/\Paired (λq r=>H q=some (.tup r)) d (e.map nmV)/\(e.map (·.1)).Nodup/\e.length < 64 /\
  ∀ l w k,H l=none->k.Perm e->Asc ltN k->Paired (λq r=>H q=some (.tup r)) w (k.map nmV)->Q (.ref l) (upd H l (.lst (w.map V.ref)))):=by
 intro qp s σ H xs us Q I r h
 obtain ⟨a,d,e,rfl,hA,A,B,hz,q⟩:=h
 obtain ⟨u,rfl,rx⟩:=sU r
 cases rx
 obtain ⟨a0,r',pl,a1⟩:=I.list (.of hA)
 have ei:=kR r'
 subst ei
 have L:d.length=e.length:=by have:=zZ A;rwa [zMJ] at this
 have lv:(d.map Value.ref).length < 64:=by rw [zMJ];omega
 refine Calls.call_function_entry kind_sorted plain_sorted entry_sorted (args_sorted1 _) ?_
 unfold Builtin.«sorted»
 refine wpAny_bind (m:=checkCount "sorted" 1 1 _) (wpAny_pure (wpAny_bind (collect_list pl.isList (wpAny_bind (wpAny_newList ?_ (by rw [sizeLine_eq];omega))) (by rw [sizeLine_eq];omega))))
 obtain ⟨v,C⟩:∃ v,v=(s.heap.push (seqObj "list" #[] 0)).update s.heap.objs.size (Obj.mapSeq (· ++ (d.map Value.ref).toArray)):=⟨_,rfl⟩
 have M:v.objs.size=s.heap.objs.size + 1:=by rw [C,Heap.size_update,size_push']
 have N:∀ b o,s.heap.get? b=some o->(v.push (seqObj "list" (d.map Value.ref).toArray 0)).get? b=some o:=λb o z=>by
  have D:b < s.heap.objs.size:=Heap.lt_size z
  refine Heap.get?_push_of_some _ ?_
  rw [C,Heap.get?_update_ne _ _ _ _ (zNA D)]
  exact Heap.get?_push_of_some _ z
 have O:(v.push (seqObj "list" (d.map Value.ref).toArray 0)).get? (s.heap.objs.size + 1)=some (seqObj "list" (d.map Value.ref).toArray 0):=by
  rw [<- M];exact Heap.get?_push_size _ rfl
 show wpAny _ _ _ _ _ { s with heap:=((s.heap.push (seqObj "list" #[] 0)).update s.heap.objs.size (Obj.mapSeq (· ++ (d.map Value.ref).toArray))).push (seqObj "list" (d.map Value.ref).toArray 0) }
 rw [<- C,M]
 have E:mF (v.push (seqObj "list" (d.map Value.ref).toArray 0)) (d.map Value.ref) (e.map (·.1)):=by
  obtain ⟨G,J⟩:=zBG I A
  refine ⟨G,λi x=>?_⟩
  obtain ⟨t,o,j,t1,l,G,J,e3,e4⟩:=J i x
  exact ⟨t,o,j,t1,l,G,N t o J,e3,e4⟩
 refine wpAny_bind (wpAny_holding (wpAny_call_entry slot_list_sort ⟨_,O,rfl⟩ entry_list_sort (gK O E B lv λp g c y T b3 U=>⟨_,rfl,?_⟩) (args_list_sort _)))
 refine wpAny_pure ⟨_,rfl,?_⟩
 rw [zMJ] at y
 have n:∀ i ∈ p.toList,i < d.length:=λi x=>by
  have:=(Array.perm_iff_toList_perm.mp y).mem_iff.mp x
  simpa using this
 have f:∀ i ∈ p.toList,i < e.length:=λi x=>by rw [<- L];exact n i x
 have Y:=iC A p n
 have er:vF p (e.map nmV) []=(vF p e (Str.empty,[])).map nmV:=oS nmV p e _ _ f
 rw [er] at Y
 have en:vF p (e.map (·.1)) Str.empty=(vF p e (Str.empty,[])).map (·.1):=oS (·.1) p e _ _ f
 rw [en] at T
 have ev:vF p (d.map Value.ref) .none=(vF p d 0).map Value.ref:=oS Value.ref p d _ _ n
 rw [ev] at U
 have old:∀ b o,s.heap.get? b=some o->g.get? b=some o:=λb o z=>b3 b o (zNA (Nat.lt_succ_of_lt (Heap.lt_size z))) (N b o z)
 refine ⟨.ref (s.heap.objs.size + 1),_,I.laid (t':=s.toks) (h':=g) (o:=.lst ((vF p d 0).map V.ref)) old (Nat.le_succ _) ?_,rfl,q _ _ _ (I.hok.fresh (Nat.le_succ _)) (cU _ (by rw [<- L];exact y)) (List.pairwise_map.mp T) Y⟩
 refine ⟨?_,_,c,mX _,U⟩
 unfold vF
 rw [zMJ,zMJ,Array.length_toList,y.size_eq]
 simp
 rw [sizeLine_eq];omega
end
end L2
namespace L2
open PySem PySem.Spec PyProof.Rows
section
variable {prog:Program} {w:World} {A:Around} {E:VSP} {s:Shared}
end
section
variable {X:Cx} {e:Expr} {te:TE} {pos p1 p2 p3:Pos} {j1:Nat}
end
end L2
namespace L2
open PySem PySem.Spec PyProof.Rows PySem.W
theorem zHL
  (i:sI N sc [x,y,z] ix scope) (j:PI X (.Tuple [.Name x k,.Name y py,.Name z l] m o) iter p)
  (q:∀ C a s H,PTs (cxC X [x,y,z] ix scope C a s H) b r) (t:∀ C a s H,PE (cxC X [x,y,z] ix scope C a s H) u ty) (v:∀ C a s H,PE (cxC X [x,y,z] ix scope C a s H) w A)
  (B:X.N=N:=by rfl) (c:X.env.scope=sc:=by rfl) (e:X.calm=true:=by rfl) (D:∀ x,foldedSetIterable iter X.env x=pure x:=by intro _;rfl) :
  PE X (.DictComp u w [⟨.Tuple [.Name x k,.Name y py,.Name z l] m o,iter,b,0⟩] scope pos) (tDC [x,y,z] ix p (bN X.K 3 (t6 (wI 0) (t6 (wI 1) (t6 (wI 2) bO)))) r ty A):=by
 have S:=i.at (X:=X) B c
 have d:∀ n,n ∈ [x,y,z]->∀ C a s H,(cxC X [x,y,z] ix scope C a s H).env.scope.names.lookup n=some .local:=λn E _ _ _ _=>lookup_relabel_local (S.own n E)
 have f:=d x (by simp)
 have g:=d y (by simp)
 have h:=d z (by simp)
 exact zKV S e j (λC a s H=>u7 (X:=cxC X [x,y,z] ix scope C a s H) e (yT (yL S.nd rfl (Or.inl (f C a s H)) (.inr (f C a s H))) (yT (yL S.nd rfl (Or.inl (g C a s H)) (.inr (g C a s H))) (yT (yL S.nd rfl (Or.inl (h C a s H)) (.inr (h C a s H))) uA)))) q t v D
noncomputable def mO (a:Addr) (n:Nat):HO:=.ext λh=>∃ t u v,IsRange h a 0 (n:Int) 1 t u v
noncomputable def uT (n:Nat):List V:=(List.range n).map λ(k:Nat)=>V.int (k:Int)
section
variable {X:Cx}
theorem pH:vU X (.type "range") (λxs H Q=>∃ n:Nat,xs=[.int (n:Int)]/\∀ p,H p=none->Q (.ref p) (upd H p (mO p n))):=by
 intro f s g H xs i Q I r h
 obtain ⟨n,rfl,q⟩:=h
 obtain ⟨u,rfl,t,rfl⟩:=sU r
 have a:IsRange (s.heap.push { cls:=.type "range",data:=.fields #[.int 0 s.toks,.int (n:Int) t,.int 1 (s.toks + 1)] }) s.heap.objs.size 0 (n:Int) 1 s.toks t (s.toks + 1):=IsRange.new ..
 refine call_range_1 ⟨.ref s.heap.objs.size,_,I.laid (t':=s.toks + 1 + 1) (o:=mO s.heap.objs.size n) (λb o e=>Heap.get?_push_of_some _ e) (zMS _) ⟨⟨_,_,_,a⟩,⟨_,a⟩,λk l x st=>?_⟩,rfl,q _ (I.hok.fresh (zMS _))⟩
 obtain ⟨c,d,v1,x⟩:=x
 exact ⟨c,d,v1,st _ x⟩
theorem nV (m:X.calm=true):vU X (.type "list") (λxs H Q=>∃ (p:Addr) (n:Nat),xs=[.ref p]/\H p=some (mO p n)/\n <= 1000/\∀ l,H l=none->Q (.ref l) (upd H l (.lst (uT n)))):=by
 intro L s M H xs N Q I r h
 obtain ⟨p,n,rfl,w,O,q⟩:=h
 obtain ⟨u,rfl,y⟩:=sU r
 cases y
 obtain ⟨⟨t,u,v,A⟩,_,_⟩:=I.hok p _ w
 have c:Builtin.Range.rangeSize 0 (n:Int) 1=(n:Int):=by rw [rangeSize_one];split <;> omega
 refine call_list_range (I.ok.hd m) A (small_one (by omega) (by omega) (by omega) (by omega)) c (by omega) λf B a C D d b=>?_
 have E:yH (uT n) a.toList:=by
  have key:∀ (l:List Value) (i:Nat),(∀ (j:Nat) (v:Value),l[j]?=some v->∃ t,v=.int ((i + j:Nat):Int) t)->yH ((List.range' i l.length).map λ(k:Nat)=>V.int (k:Int)) l:=by
   intro l
   induction l with
   | nil=>exact λi _=>.nil
   | cons x l G=>
    intro i g
    rw [zM4,List.range'_succ,List.map_cons]
    refine .cons (by obtain ⟨t,e⟩:=g 0 x rfl;exact ⟨t,e⟩) (G (i + 1) λj v e=>?_)
    obtain ⟨t,e⟩:=g (j + 1) v (by simpa using e)
    exact ⟨t,by rw [e,show i + 1 + j=i + (j + 1) by omega]⟩
  have z:=key a.toList 0 λj v e=>by
   obtain ⟨t,e⟩:=b.2 j v (by simpa using e)
   exact ⟨t,by rw [e];congr 1;omega⟩
  have J:a.toList.length=n:=by rw [Array.length_toList];exact b.1
  rw [J] at z
  unfold uT
  rw [List.range_eq_range']
  exact z
 refine ⟨.ref s.heap.objs.size,_,I.laid (t':=B) (h':=f) (o:=.lst (uT n)) D (zMS _) ?_,rfl,q _ (I.hok.fresh (zMS _))⟩
 exact ⟨by unfold uT;rw [zMJ,List.length_range,sizeLine_eq];omega,a.toList,C,E,by simpa using d⟩
end
end L2
namespace L2
open PySem PySem.Spec PyProof.Rows
section
variable {X:Cx} {qp:LAO} {σ:List (Option V)} {H:Hp} {s:Shared}
end
section
variable {X:Cx}
end
end L2
namespace L2
open PySem
theorem sq {t u:TS} {D:mG} {σ:St} {H:Hp} (h:∀ n:St->Hp->Prop,(∀ σ H,u D σ H->n σ H)->t ⟨n,D.rt,D.bk,D.ct⟩ σ H):u6 t u D σ H:=h _ λ_ _ h=>h
theorem gm {b c:Type} {f:b->c} {l:List b} {i:Nat} {x:c} (h:(l.map f)[i]?=some x):∃ a,l[i]?=some a/\f a=x:=by
 rw [zMP] at h
 cases e:l[i]? with
 | none=>rw [e] at h;cases h
 | some a=>rw [e] at h;exact ⟨a,rfl,zMQ h⟩
theorem tV {c:Bool} {A B:Prop} (k:B) (h:c=false:=by decide +kernel):if c=true then A else B:=ifF h k
theorem nI {c:Bool} {A B:Prop} (k:A) (h:c=true:=by decide +kernel):if c=true then A else B:=ifT h k
section
variable {P:Program} {w:World} {K:W.Frag} {mg:Str->Option Value} {base:Heap}
theorem Fun.oz {x a:Str} {st:Stmt} {f:Addr} {fd:FuncData} {N ps:List Str} {k:Nat} {sp:Sp} (F:Fun K x a st f fd) (S:zO N ps (zG st))
  (b:∀ (d:Value) (A:Around) (c:List Env) (s:Shared) (H:Hp) (vs:List V) (Q:VK) (E:XK),z6 k (A.deeper (PyProof.Rows.envOfC a (zG st) s.heap.objs.size f d))->sp vs H Q E ->
   ∃ t,PSs (uR CX0 P w K mg base N a (zG st) f d A c s H E).nox (y8 st) t/\t { nx:=λ_ e=>Q .non e,rt:=Q } (start N vs) H) (len:∀ vs H Q E,sp vs H Q E->vs.length=ps.length:=by intro _ _ _ _ h;repeat' (first | (obtain ⟨rfl,_⟩:=h;rfl;done) | obtain ⟨_,h⟩:=h)):tJ P w K mg base CX0 (k + 1) f fd ps sp:=F.ok S len b
theorem yM.oz {x:Str} {st:Stmt} {N ps:List Str} {k:Nat} {sp:Sp} (G:yM K mg x st ps) (S:zO N ps (zG st))
  (a:∀ (f:Addr) (c:Value) (A:Around) (b:List Env) (s:Shared) (H:Hp) (vs:List V) (Q:VK) (E:XK),z6 k (A.deeper (PyProof.Rows.envOfC x (zG st) s.heap.objs.size f c))->sp vs H Q E ->
   ∃ t,PSs (uR CX0 P w K mg base N x (zG st) f c A b s H E).nox (y8 st) t/\t { nx:=λ_ d=>Q .non d,rt:=Q } (start N vs) H) (len:∀ vs H Q E,sp vs H Q E->vs.length=ps.length:=by intro _ _ _ _ h;repeat' (first | (obtain ⟨rfl,_⟩:=h;rfl;done) | obtain ⟨_,h⟩:=h)):Cal P w K mg base CX0 (k + 1) x ps sp:=G.ok S len a
theorem yW.oz {C:Addr} {m a:Str} {st:Stmt} {N ps:List Str} {k:Nat} {sp:Sp} (G:yW K C m a st ps) (S:zO N ps (zG st))
  (b:∀ (f:Addr) (d:Value) (A:Around) (c:List Env) (s:Shared) (H:Hp) (vs:List V) (Q:VK) (E:XK),z6 k (A.deeper (PyProof.Rows.envOfC a (zG st) s.heap.objs.size f d))->sp vs H Q E ->
   ∃ t,PSs (uR CX0 P w K mg base N a (zG st) f d A c s H E).nox (y8 st) t/\t { nx:=λ_ e=>Q .non e,rt:=Q } (start N vs) H) (len:∀ vs H Q E,sp vs H Q E->vs.length=ps.length:=by intro _ _ _ _ h;repeat' (first | (obtain ⟨rfl,_⟩:=h;rfl;done) | obtain ⟨_,h⟩:=h)):yI P w K mg base CX0 (k + 1) C m ps sp:=G.ok S len b
theorem yM.ozX {x:Str} {st:Stmt} {N ps:List Str} {k:Nat} {sp:Sp} (G:yM K mg x st ps) (S:zO N ps (zG st))
  (a:∀ (f:Addr) (c:Value) (A:Around) (b:List Env) (s:Shared) (H:Hp) (vs:List V) (Q:VK) (E:XK),z6 k (A.deeper (PyProof.Rows.envOfC x (zG st) s.heap.objs.size f c))->sp vs H Q E ->
   ∃ t,PSs (uR (CXE P w) P w K mg base N x (zG st) f c A b s H E) (y8 st) t/\t { nx:=λ_ d=>Q .non d,rt:=Q } (start N vs) H) (len:∀ vs H Q E,sp vs H Q E->vs.length=ps.length:=by intro _ _ _ _ h;repeat' (first | (obtain ⟨rfl,_⟩:=h;rfl;done) | obtain ⟨_,h⟩:=h)):Cal P w K mg base (CXE P w) (k + 1) x ps sp:=G.okX S len a
theorem yW.ozX {C:Addr} {m a:Str} {st:Stmt} {N ps:List Str} {k:Nat} {sp:Sp} (G:yW K C m a st ps) (S:zO N ps (zG st))
  (b:∀ (f:Addr) (d:Value) (A:Around) (c:List Env) (s:Shared) (H:Hp) (vs:List V) (Q:VK) (E:XK),z6 k (A.deeper (PyProof.Rows.envOfC a (zG st) s.heap.objs.size f d))->sp vs H Q E ->
   ∃ t,PSs (uR (CXE P w) P w K mg base N a (zG st) f d A c s H E) (y8 st) t/\t { nx:=λ_ e=>Q .non e,rt:=Q } (start N vs) H) (len:∀ vs H Q E,sp vs H Q E->vs.length=ps.length:=by intro _ _ _ _ h;repeat' (first | (obtain ⟨rfl,_⟩:=h;rfl;done) | obtain ⟨_,h⟩:=h)):yI P w K mg base (CXE P w) (k + 1) C m ps sp:=G.okX S len b
end
end L2
namespace K27
open PySem L2
noncomputable abbrev N0:List Str:=["_law_script","_law_begun_here","_law_names_here","_law_own","_law_neighbours","_law_ways","_law_askers","_law_when","_law_handed","_law_houses","_law_states","_law_k","_law_cell","_law_source","_law_at","_law_again","_law_turn","_law_mine","_law_deeds","_law_deed"]
noncomputable abbrev N4:List Str:=["self","asker"]
noncomputable abbrev N5:List Str:=["self"]
noncomputable abbrev N6:List Str:=["self","house","right"]
noncomputable abbrev N7:List Str:=["_law_states","_law_neighbours","_law_deed"]
noncomputable abbrev N8:List Str:=["_law_source","_law_many"]
noncomputable abbrev N9:List Str:=["_law_houses","_law_states","_law_at","_law_deed","_law_turn","_law_neighbours"]
noncomputable abbrev Na:List Str:=["self","right"]
noncomputable abbrev Nb:List Str:=["_law_source","_law_states","_law_askers","_law_neighbours","_law_names_here"]
noncomputable abbrev Nc:List Str:=["_law_house","_law_deed"]
noncomputable abbrev Nd:List Str:=["_law_cell","_law_source","_law_same","_law_many","_law_when","_law_names_here","_law_neighbours","_law_some","_law_ways","_law_askers"]
noncomputable abbrev Nf:List Str:=["_law_house","_law_states","_law_turn","_law_due_here","_law_rights","_law_right","_law_state_here","_law_told_here","_law_found"]
noncomputable abbrev Ng:List Str:=["self","house","right","back"]
noncomputable abbrev Nh:List Str:=["thing"]
noncomputable abbrev Ni:List Str:=["right","many"]
noncomputable abbrev Nj:List Str:=["right","told"]
noncomputable abbrev Nk:List Str:=["self","asker","right"]
noncomputable abbrev Nm:List Str:=["_law_states","_law_deed"]
noncomputable abbrev Np:List Str:=["_law_found","_law_due_here"]
noncomputable abbrev Nq:List Str:=["_law_source","_law_many","_law_letters","_law_start","_law_stem"]
noncomputable abbrev Nr:List Str:=["_law_states","_law_askers","_law_neighbours","_law_deeds","_law_asker","_law_right","_law_name"]
noncomputable abbrev Nt:List Str:=["_law_states","_law_askers","_law_neighbours"]
noncomputable abbrev Nu:List Str:=["_law_told_here","_law_right"]
noncomputable abbrev Nv:List Str:=["self","name","neighbours","arrows"]
noncomputable abbrev Nw:List Str:=["self","house","back"]
noncomputable abbrev Ny:List Str:=["_law_source","_law_names_here","_law_many"]
noncomputable abbrev Nz:List Str:=["_law_states","_law_asker"]
noncomputable abbrev NA:List Str:=["_law_house","_law_states","_law_turn"]
noncomputable abbrev NB:List Str:=["_law_thing","_law_many"]
noncomputable abbrev NC:List Str:=["asker"]
noncomputable abbrev ND:List Str:=["thing","neighbours"]
noncomputable abbrev NE:List Str:=["_law_cell"]
noncomputable abbrev NF:List Str:=["self","house"]
noncomputable abbrev NG:List Str:=["thing","houses"]
noncomputable abbrev NH:List Str:=["_law_state_here","_law_deed"]
noncomputable abbrev NI:List Str:=["_law_script","_law_k"]
noncomputable abbrev NJ:List Str:=["_law_e","_law_kinds_here","_law_words","_law_found"]
noncomputable abbrev NK:List Str:=["_law_source","_law_name"]
noncomputable abbrev NL:List Str:=["_law_thing"]
noncomputable abbrev NM:List Str:=["_law_cell","_law_k"]
noncomputable abbrev NN:List Str:=["self","arrow"]
noncomputable abbrev NO:List Str:=["thing","name"]
noncomputable abbrev NP:List Str:=["_law_states","_law_deed","_law_right"]
noncomputable abbrev NQ:List Str:=["_law_state_here"]
noncomputable abbrev NR:List Str:=["house"]
noncomputable abbrev NT:List Str:=["_law_arrow"]
noncomputable abbrev NU:List Str:=["_law_states"]
noncomputable abbrev NV:Str:="asker"
noncomputable abbrev NW:Str:="come"
noncomputable abbrev NX:Str:="ask"
noncomputable abbrev NY:Str:="house"
noncomputable abbrev NZ:Str:="leave"
noncomputable abbrev S3:Str:="done"
noncomputable abbrev S6:Str:="check_asker"
noncomputable abbrev S8:Str:="want"
noncomputable abbrev S9:Str:="check_right"
noncomputable abbrev Sa:Str:="check_letter"
noncomputable abbrev Sc:Str:="len"
noncomputable abbrev Sd:Str:="isinstance"
noncomputable abbrev Se:Str:="asked"
noncomputable abbrev Sg:Str:="right_of"
noncomputable abbrev Sh:Str:="numbered"
noncomputable abbrev Si:Str:="waiting"
noncomputable abbrev Sj:Str:="rights_wanted"
noncomputable abbrev Sk:Str:="inside"
noncomputable abbrev Sm:Str:="pointer"
noncomputable abbrev Sn:Str:="arrow"
noncomputable abbrev So:Str:="holder"
noncomputable abbrev Sq:Str:="has_asked"
noncomputable abbrev Ss:Str:="_law_next"
noncomputable abbrev Su:Str:="is_name"
noncomputable abbrev Sv:Str:="check_house"
noncomputable abbrev Sw:Str:="_law_states"
noncomputable abbrev Sx:Str:="ninesigns"
noncomputable abbrev Sy:Str:="move_on"
noncomputable abbrev Sz:Str:="askers"
noncomputable abbrev SD:Str:="_law_seat_of"
noncomputable abbrev SE:Str:="_law_neighbours"
noncomputable abbrev SF:Str:="nearby"
noncomputable abbrev SG:Str:="range"
noncomputable abbrev SH:Str:="name"
noncomputable abbrev SI:Str:="row"
noncomputable abbrev SJ:Str:="is_whole"
noncomputable abbrev SK:Str:="_law_put"
noncomputable abbrev SM:Str:="_law_is_right"
noncomputable abbrev SN:Str:="_law_is_name"
noncomputable abbrev SO:Str:="is_one_of"
noncomputable abbrev SQ:Str:="_law_name"
noncomputable abbrev SR:Str:="_law_deed"
noncomputable abbrev SU:Str:="NoAsker"
noncomputable abbrev SV:Str:="_law_digits"
noncomputable abbrev SW:Str:="_law_source"
noncomputable abbrev SX:Str:="_law_state_here"
noncomputable abbrev SY:Str:="_law_good_deeds"
noncomputable abbrev T1:Str:="given"
noncomputable abbrev T4:Str:="right"
noncomputable abbrev T5:Str:="_law_alike"
noncomputable abbrev T6:Str:="_law_found"
noncomputable abbrev T7:Str:="are_neighbours"
noncomputable abbrev T8:Str:="best_right"
noncomputable abbrev T9:Str:="_law_why_asker"
noncomputable abbrev Ta:Str:="_law_numbered"
noncomputable abbrev Tc:Str:="_law_any_deed"
noncomputable abbrev Td:Str:="_law_word"
noncomputable abbrev Te:Str:="_law_cell_at"
noncomputable abbrev Tf:Str:="_law_made_at"
noncomputable def top (i:Nat):Stmt:=PySem.Challenge.pw_treeright_k27_whole_houses_by_turns.main.body.getD i (.Pass ⟨0,0,0,0⟩)
abbrev jX:Stmt:=top 18
abbrev j3:Stmt:=top 24
noncomputable abbrev eW:Stmt:=yX (top 26) 0
noncomputable abbrev kQ:Stmt:=yX (top 26) 1
noncomputable abbrev zDI:Stmt:=yX (top 26) 2
noncomputable abbrev pQ:Stmt:=yX (top 26) 3
noncomputable abbrev zDK:Stmt:=yX (top 26) 4
noncomputable abbrev eQ:Stmt:=yX (top 26) 10
noncomputable abbrev oJ:Stmt:=yX (top 26) 11
noncomputable abbrev jY:Stmt:=yX (top 26) 12
noncomputable abbrev eU:Stmt:=yX (top 26) 15
noncomputable abbrev kM:Stmt:=yX (top 26) 16
noncomputable def xO (a:V) (b:Addr) (h:V) (k:Bool):List (Str × V):=[(Sm,a),(Si,.ref b),(So,h),(Se,.bl k)]
theorem n1:¬ ((Sm : Str)=So):=by decide +kernel
theorem n2:¬ ((Si : Str)=So):=by decide +kernel
theorem n3:¬ ((Sm : Str)=Se):=by decide +kernel
theorem n4:¬ ((Si : Str)=Se):=by decide +kernel
theorem n5:¬ ((So : Str)=Se):=by decide +kernel
theorem n6:¬ ((Sm : Str)=Si):=by decide +kernel
theorem zF6 (a b:V) (c:Addr) (h:V) (k:Bool):wJ Sm b (xO a c h k)=xO b c h k:=by
 unfold xO;rw [wJ,if_pos rfl]
theorem zF7 (a:V) (b:Addr) (h g:V) (k:Bool):wJ So g (xO a b h k)=xO a b g k:=by
 unfold xO;rw [wJ,if_neg n1,wJ,if_neg n2,wJ,if_pos rfl]
theorem zAW (a:V) (b:Addr) (h:V) (k j:Bool):wJ Se (.bl j) (xO a b h k)=xO a b h j:=by
 unfold xO;rw [wJ,if_neg n3,wJ,if_neg n4,wJ,if_neg n5,wJ,if_pos rfl]
theorem fQ (a:V) (b:Addr) (h:V) (k:Bool):(xO a b h k).lookup (Sm : Str)=some a:=rfl
theorem rG (a:V) (b:Addr) (h:V) (k:Bool):(xO a b h k).lookup (Si : Str)=some (.ref b):=rfl
theorem iX (a:V) (b:Addr) (h:V) (k:Bool):(xO a b h k).lookup (So : Str)=some h:=rfl
theorem zL2 (a:V) (b:Addr) (h:V) (k:Bool):(xO a b h k).lookup (Se : Str)=some (.bl k):=rfl
noncomputable def yD:Option Str->V
 | none=>.non
 | some z=>.str z
structure xM (K:W.Frag) (C:Addr):Prop where
 cl:Cls K C
 nP:vZ K C Sm
 nW:vZ K C Si
 nH:vZ K C So
 nA:vZ K C Se
structure SS where
 ptr:Option Str
 row:LSS
 hold:Option Str
 asked:Bool
noncomputable def yY (r:Str × Str):List V:=[.str r.1,.str r.2]
structure yE (C:Addr) (H:Hp) (p wl:Addr) (s:SS):Prop where
 ob:∃ dx,H p=some (.ins C dx (xO (yD s.ptr) wl (yD s.hold) s.asked))
 rw:Rows H wl (s.row.map yY)
 len:s.row.length <= 1000
theorem vB (l:LSS):∀ r ∈ l.map yY,r.all xA=true:=λr a=>by
 obtain ⟨x,_,rfl⟩:=List.mem_map.mp a
 rfl
theorem yE.ne (S:yE C H p a s):p ≠ a:=by
 obtain ⟨c,h⟩:=S.ob
 obtain ⟨d,b,_⟩:=S.rw
 exact wY h b (by intro z;cases z)
theorem yE.keep (S:yE C H p a s) (k:zE [] H b):yE C b p a s:=by
 obtain ⟨⟨c,h⟩,r,l⟩:=S
 exact ⟨⟨c,k.z h⟩,r.keep k,l⟩
noncomputable def wE (s:SS):SS × List V:=match s.row with
 | []=>(s,[])
 | (k,n) :: rest=>if k=NV then ({ s with row:=rest,hold:=some n },[.str T1,.str n])
  else ({ s with ptr:=some n,row:=rest,asked:=!rest.isEmpty },[.str T4,.str n,.bl (!rest.isEmpty)])
noncomputable def yC (s:SS):SS × List (List V):=
 if s.row.isEmpty then (s,[]) else
 match s.ptr with
 | none=>match s.hold with
  | none=>((wE s).1,[(wE s).2])
  | some _=>(s,[])
 | some q=>if s.asked then (s,[]) else ({ s with asked:=true },[[.str NX,.str q]])
theorem zP (k:zE S H a) (n:∀ b ∈ S,∀ xs,H b ≠ some (.tup xs)):∀ {ps:List Addr} {rows:List (List V)},Paired (λq r=>H q=some (.tup r)) ps rows->Paired (λq r=>a q=some (.tup r)) ps rows
 | _,_,.nil=>.nil
 | q :: _,r :: _,.cons e c=>.cons (k q _ (λz=>n q z r e) e) (zP k n c)
theorem uG {C dx p a:Addr} {H:Hp} {d:List (Str × V)} {ys:List V} (e:H p=some (.ins C dx d)) (f:H a=some (.lst ys)):∀ b ∈ [p,a],∀ xs,H b ≠ some (.tup xs):=λb c xs z=>by
 simp only [List.mem_cons,zND,or_false] at c
 rcases c with rfl | rfl
 ·rw [e] at z;cases z
 ·rw [f] at z;cases z
theorem zJ2 (n:Nat):seqIndex? 0 (n + 1)=some 0:=by
 unfold seqIndex?
 simp
section
variable {P:Program} {w:World} {K:W.Frag} {mg:Str->Option Value} {base:Heap} {C:Addr}
theorem pN:zO ["self","kind",SH,"back"] N5 (zG kM):=scm
noncomputable def eF (C:Addr):Sp:=λc H Q _=>∃ p b s,c=[.ref p]/\yE C H p b s/\s.row ≠ [] /\
 ∀ r a,yE C a p b (wE s).1->a r=some (.tup (wE s).2)->H r=none->zE [p,b] H a->Q (.ref r) a
theorem zD7 (T:xM K C) (G:yW K C "serve_first" "Seat.serve_first" kM N5) (bL:Blt mg Sc):yI P w K mg base CX0 1 C "serve_first" N5 (eF C):=by
 refine G.oz pN (λf a0 A O s0 H vs Q E u h=>?_)
 obtain ⟨p,j,s,rfl,S,U,q⟩:=h
 refine ⟨_,(zD (qQ (vN F.plainAttrs_list F.slot_list_pop F.type_list_pop iL (yB (pv 0) rfl) (zA zH zB)) (u7 rfl (yT (yL (i:=1) pN.nd rfl (Or.inl rfl)) (yT (yL (i:=2) pN.nd rfl (Or.inl rfl)) uA))))
   (zD (z5 (zQ y6 (pv 1) zJ (zW _)) (zD (vL (pv 0) (pv 2) rfl)
   (zF (zL (z9 (zA zJ (zA (pv 2) zB)))))) zM)
   (zD (zX (i:=3) pN.nd rfl (Or.inl rfl) (xC zGB (zY z8 bL yS (zA (yB (pv 0) rfl) zB)) zH (zW _)))
   (zD (vL (pv 0) (pv 2) rfl)
   (zD (vL (pv 0) (pv 3) rfl)
   (zF (zL (z9 (zA zJ (zA (pv 2) (zA (pv 3) zB))))))))))),?_⟩
 have v:=S.ne
 obtain ⟨⟨l,m⟩,⟨ps,e,g⟩,L⟩:=S
 obtain ⟨c,row,b,a⟩:=s
 dsimp only at *
 cases row with
 | nil=>exact absurd rfl U
 | cons kn rest=>
  obtain ⟨k,n⟩:=kn
  cases g with
  | @cons t _ d _ ht g=>
  refine ⟨_,rfl,p,C,l,_,_,rfl,m,T.cl,T.nW,rG _ _ _ _,.inl ⟨rfl,_,.of e⟩,j,_,0,0,.ref t,rfl,rfl,e,by decide,by decide,zJ2 _,rfl,?_⟩
  rw [show (List.map V.ref (t :: d)).eraseIdx 0=d.map V.ref from rfl]
  have Y:t ≠ j:=wY ht e (by intro z;cases z)
  have M:=zZ g
  rw [zMJ] at M
  have a1:rest.length + 1 <= 1000:=L
  have B:∀ o,upd H j o p=some (.ins C l (xO (yD c) j (yD b) a)):=λo=>by rw [zK v];exact m
  refine ⟨t,_,rfl,.of (by rw [zK Y];exact ht),rfl,_,_,rfl,_,_,rfl,rfl,?_⟩
  refine ⟨_,rfl,rfl,_,rfl,?_⟩
  refine t8 (λhk=>?_) (λhk=>?_)
  ·have D:k=NV :=by have:=of_decide_eq_true hk;injection this
   refine ⟨_,rfl,_,rfl,p,C,l,_,rfl,B _,T.cl,T.nH,by show 4 < 1000;decide,_,rfl,by show 2 <= sizeLine;decide,λr u=>?_⟩
   rw [zF7] at u ⊢
   obtain ⟨I,rp⟩:=zU u
   obtain ⟨J,rw_⟩:=zU I
   have N:zE [p,j] H (upd (upd (upd H j (.lst (d.map V.ref))) p (.ins C l (xO (yD c) j (.str n) a))) r (.tup [.str T1,.str n])):=((zE.at (by simp)).trans (zE.at (by simp))).trans (zE.new u)
   have es:wE { ptr:=c,row:=(k,n) :: rest,hold:=b,asked:=a }=({ ptr:=c,row:=rest,hold:=some n,asked:=a },[.str T1,.str n]):=by
    unfold wE;simp only [D,if_true]
   rw [es] at q
   refine q r _ ⟨⟨l,?_⟩,⟨d,?_,zP N (uG m e) g⟩,?_⟩ zC J N
   ·rw [zK (Ne.symm rp),zC];rfl
   ·rw [zK (Ne.symm rw_),zK (Ne.symm v),zC]
   ·show rest.length <= 1000;omega
  ·have D:¬ k=NV :=λz=>hk (by rw [z];exact zMY rfl)
   refine ⟨_,rfl,p,C,l,_,_,rfl,B _,T.cl,T.nW,rG _ _ _ _,_,_,rfl,.inl ⟨_,.of zC,rfl⟩,_,_,rfl,rfl,?_⟩
   have eb:decide ((0:Int) < (((d.map V.ref).length:Nat):Int)) = !rest.isEmpty:=by
    rw [zMJ,M]
    cases rest with
    | nil=>rfl
    | cons x y=>exact zMY (by simp)
   refine ⟨_,rfl,_,rfl,p,C,l,_,rfl,B _,T.cl,T.nP,by show 4 < 1000;decide,?_⟩
   rw [zF6]
   refine ⟨_,rfl,_,rfl,p,C,l,_,rfl,zC,T.cl,T.nA,by show 4 < 1000;decide,?_⟩
   dsimp only
   rw [zAW,tL,eb]
   refine ⟨_,rfl,_,rfl,by show 3 <= sizeLine;decide,λr u=>?_⟩
   obtain ⟨I,rp⟩:=zU u
   obtain ⟨J,rw_⟩:=zU I
   have N:zE [p,j] H (upd (upd (upd H j (.lst (d.map V.ref))) p (.ins C l (xO (.str n) j (yD b) (!rest.isEmpty)))) r (.tup [.str T4,.str n,.bl (!rest.isEmpty)])):=((zE.at (by simp)).trans (zE.at (by simp))).trans (zE.new u)
   have es:wE { ptr:=c,row:=(k,n) :: rest,hold:=b,asked:=a }=({ ptr:=some n,row:=rest,hold:=b,asked:=!rest.isEmpty },[.str T4,.str n,.bl (!rest.isEmpty)]):=by
    unfold wE;simp only [if_neg D]
   rw [es] at q
   refine q r _ ⟨⟨l,?_⟩,⟨d,?_,zP N (uG m e) g⟩,?_⟩ zC J N
   ·rw [zK (Ne.symm rp),zC];rfl
   ·rw [zK (Ne.symm rw_),zK (Ne.symm v),zC]
   ·show rest.length <= 1000;omega
theorem zHA:zO N5 N5 (zG eU):=scm
theorem zGM (a:V) (b:Addr) (h:V) (k:Bool) {m:Str} (c:¬ m=Sm) (d:¬ m=Si) (e:¬ m=So) (f:¬ m=Se):(xO a b h k).lookup m=none:=by
 have g:(m == (Sm : Str))=false:=by simpa using c
 have i:(m == (Si : Str))=false:=by simpa using d
 have j:(m == (So : Str))=false:=by simpa using e
 have l:(m == (Se : Str))=false:=by simpa using f
 unfold xO
 simp only [List.lookup_cons,g,i,j,l,List.lookup_nil]
theorem yE.stay {H b:Hp} {p a:Addr} {s:SS} {dx:Addr} (S:yE C H p a s) (s':SS) (c:b p=some (.ins C dx (xO (yD s'.ptr) a (yD s'.hold) s'.asked))) (f:b a=H a) (d:s'.row=s.row) (k:zE [p,a] H b):yE C b p a s':=by
 obtain ⟨⟨g,h⟩,⟨i,e,j⟩,l⟩:=S
 refine ⟨⟨dx,c⟩,⟨i,by rw [f];exact e,?_⟩,by rw [d];exact l⟩
 rw [d]
 exact zP k (uG h e) j
noncomputable def qL (C:Addr):Sp:=λc H Q _=>∃ p b s,c=[.ref p]/\yE C H p b s /\
 ∀ r a,yE C a p b (yC s).1->Rows a r (yC s).2->H r=none->zE [p,b] H a->Q (.ref r) a
theorem zH1 (T:xM K C) (G:yW K C Sy "Seat.move_on" eU N5) (MS:yI P w K mg base CX0 1 C "serve_first" N5 (eF C)):yI P w K mg base CX0 2 C Sy N5 (qL C):=by
 refine G.oz zHA (λf a2 A x s0 H vs Q E c h=>?_)
 obtain ⟨p,m,s,rfl,S,q⟩:=h
 have y:z6 1 _:=c.mono (by decide)
 refine ⟨_,(zD (z5 (y9 (zAY (yB (pv 0) rfl) (λ_=>rfl))) (zF (zL (yN zB))) zM)
   (zD (z5 (zQ uO (yB (pv 0) rfl) yV (zW _)) (zF (zL (rX (zQ uO (yB (pv 0) rfl) yV (zW _)) (yN (zA (xL MS T.cl y (pv 0)) zB)) (yN zB)))) zM)
   (zD (z5 (y3 (yB (pv 0) rfl)) (zF (zL (yN zB))) zM)
   (zD (vL (pv 0) wH rfl)
   (zF (zL (yN (zA (z9 (zA zJ (zA (yB (pv 0) rfl) zB))) zB)))))))),?_⟩
 have B:=S.ne
 obtain ⟨⟨i,b⟩,⟨ps,j,D⟩,a0⟩:=id S
 have I:=zZ D
 rw [zMJ] at I
 have n:(ps.map V.ref).isEmpty=s.row.isEmpty:=by
  cases n:ps <;> cases a1:s.row <;> simp_all
 have none_:yC s=(s,[])->∀ r,H r=none->Q (.ref r) (upd H r (.lst [])):=λe r c=>by
  rw [e] at q
  exact q r _ (S.keep (zE.new c)) ⟨[],zC,.nil⟩ c (zE.new c)
 refine ⟨_,rfl,p,C,i,_,_,rfl,b,T.cl,T.nW,rG _ _ _ _,_,.inl ⟨_,.of j,rfl⟩,?_⟩
 dsimp only
 rw [n]
 cases a:s.row.isEmpty with
 | true=>
  refine nF ⟨zMT _,λr c=>none_ ?_ r c⟩
  unfold yC;rw [a];rfl
 | false=>
 refine mQ ?_
 have J:s.row ≠ []:=λz=>by rw [z] at a;cases a
 refine ⟨_,rfl,p,C,i,_,_,rfl,b,T.cl,T.nP,fQ _ _ _ _,rfl,_,rfl,?_⟩
 cases u:s.ptr with
 | none=>
  refine nF ?_
  refine ⟨_,rfl,p,C,i,_,_,rfl,b,T.cl,T.nH,iX _ _ _ _,rfl,_,rfl,?_⟩
  cases hh:s.hold with
  | none=>
   refine nF ?_
   have L:yC s=((wE s).1,[(wE s).2]):=by unfold yC;rw [a,u,hh];rfl
   rw [L] at q
   refine ⟨_,rfl,p,i,_,rfl,b,zGM _ _ _ _ (by decide +kernel) (by decide +kernel) (by decide +kernel) (by decide +kernel),p,m,s,rfl,S,J,λr H1 M h1 c k1=>⟨by show 1 <= sizeLine;decide,λl d=>?_⟩⟩
   have nl:H l=none:=by
    cases e:H l with
    | none=>rfl
    | some o=>
     by_cases z:l ∈ [p,m]
     ·obtain ⟨a3,o1⟩:=M.ob
      obtain ⟨a4,o2,_⟩:=M.rw
      simp only [List.mem_cons,zND,or_false] at z
      rcases z with z | z
      ·rw [z,o1] at d;cases d
      ·rw [z,o2] at d;cases d
     ·rw [k1 l o z e] at d;cases d
   exact q l _ (M.keep (zE.new d)) ⟨[r],zC,.cons (by rw [zK (zI h1 d)];exact h1) .nil⟩ nl (k1.trans (zE.new d))
  | some g=>
   refine mQ ⟨zMT _,λr c=>none_ ?_ r c⟩
   unfold yC;rw [a,u,hh];rfl
 | some g=>
  refine mQ ?_
  refine ⟨_,rfl,p,C,i,_,_,rfl,b,T.cl,T.nA,zL2 _ _ _ _,_,rfl,?_⟩
  cases ha:s.asked with
  | true=>
   refine nF ⟨zMT _,λr c=>none_ ?_ r c⟩
   unfold yC;rw [a,u,ha];rfl
  | false=>
   refine mQ ?_
   have L:yC s=({ s with asked:=true },[[.str NX,.str g]]):=by unfold yC;rw [a,u,ha];rfl
   rw [L] at q
   refine ⟨_,rfl,p,C,i,_,rfl,b,T.cl,T.nA,by show 4 < 1000;decide,?_⟩
   rw [zAW]
   refine ⟨_,rfl,p,C,i,_,_,rfl,zC,T.cl,T.nP,fQ _ _ _ _,by show 2 <= sizeLine;decide,λt ht=>⟨by show 1 <= sizeLine;decide,λl d=>?_⟩⟩
   obtain ⟨N,tp⟩:=zU ht
   obtain ⟨O,lt⟩:=zU d
   obtain ⟨v,lp⟩:=zU O
   have U:m ≠ t:=zI j N
   have Y:m ≠ l:=zI j v
   have kk:zE [p,m] H (upd (upd (upd H p (.ins C i (xO (yD s.ptr) m (yD s.hold) true))) t (.tup [.str NX,yD s.ptr])) l (.lst [.ref t])):=((zE.at (by simp)).trans (zE.new ht)).trans (zE.new d)
   refine q l _ (S.stay (dx:=i) { s with asked:=true } ?_ ?_ rfl kk) ⟨[t],zC,.cons ?_ .nil⟩ v kk
   ·rw [zK (Ne.symm lp),zK (Ne.symm tp),zC]
   ·rw [zK Y,zK U,zK (Ne.symm B)]
   ·rw [zK (Ne.symm lt),zC,u];rfl
noncomputable def sD (K:W.Frag):Sp:=λb H Q _=>∃ x T,b=[x]/\yF K H x T/\(∀ z,x=.str z->z.length <= 1000)/\∀ a,zE [] H a->Q (.bl (xB x)) a
theorem zG9:zO Nh Nh (zG jX):=scm
theorem zH0 (G:yM K mg Su jX Nh) (u:Blt mg Sd) (v:Blt mg "str") (y:Blt mg Sc) (B:Blt mg "all") (D:Glo mg "LETTERS" (.str abc)) (I:Glo mg "LONGEST_NAME" (.int 8)) :
  Cal P w K mg base CX0 1 Su Nh (sD K):=by
 refine G.oz zG9 (λf J A m s H U Q E Y h=>?_)
 obtain ⟨x,T,rfl,n,t,q⟩:=h
 refine ⟨_,zD (z5 (y9 (y3 (zY yO u zT (zA (pv 0) (zA (vE v zCO) zB))))) (zF (zL wH)) zM)
  (zF (zL (uF (iB oX oX zH (zY z8 y yS (zA (pv 0) zB)) (vM I))
   (uN (zY (sG rfl) B nY (zA (vX (N:=Nh) (sc:=zG jX) (ix:=[]) (by decide +kernel) (zA2 (pv 0)) (λ_ _ _ _=>xQ)
    (λC fp s H=>xC m4 (pv 0) (vM D) (by with_unfolding_all rfl))) zB)))))),?_⟩
 refine ⟨_,rfl,_,_,_,_,rfl,n.ty,n.kit.1,_,rfl,?_⟩
 cases n with
 | str z=>
  have t:=t z rfl
  refine mQ ?_
  refine ⟨_,rfl,_,z.length,rfl,⟨by rw [sizeLine_eq];omega,rfl⟩,_,_,rfl,rfl,_,rfl,?_⟩
  refine t8 (λo=>?_) (λo=>?_)
  ·refine ⟨_,_,rfl,rfl,_,rfl,?_⟩
   refine t8 (λp=>?_) (λp=>?_)
   ·refine ⟨_,rfl,z,rfl,λacc L=>?_⟩
    refine dO (by rw [sizeLine_eq];show z.length < _;omega) (λi a j b=>∃ k,j=[k]/\a=(z.cps.toList.take i).map (λc=>V.bl (vH c))/\i <= z.cps.size/\zE [acc] H b/\b acc=some (.lst a)) ?_ ?_ ?_ ?_
    ·exact ⟨_,rfl,rfl,zMT _,zE.at (by simp),zC⟩
    ·rintro i a j b ⟨k,rfl,rfl,r,l,d⟩
     exact ⟨d,by simp;omega⟩
    ·rintro i a j b r ⟨k,rfl,rfl,_,l,d⟩
     refine ⟨_,rfl,_,_,rfl,rfl,d,_,rfl,?_,r,l.trans (zE.at (by simp)),zC⟩
     rw [List.take_add_one,zMV]
     congr 1
     have e:z.cps.toList[i]?=some (z.cps.getD i 0):=by
      rw [Array.getElem?_toList,zNI,Array.getElem?_eq_getElem r];rfl
     rw [e];rfl
    ·rintro a j b ⟨k,rfl,rfl,_,l,d⟩
     refine ⟨acc,z.cps.toList.map vH,rfl,.of ?_,?_⟩
     ·rw [d,zM8 (by simp),zM3];rfl
     ·rw [mB]
      have e:xB (.str z)=z.cps.toList.all vH:=by
       show (decide (1 <= z.length) && decide (z.length <= 8) && _)=_
       have M:1 <= z.length:=by have:=of_decide_eq_true o;omega
       have g:z.length <= 8:=by have:=of_decide_eq_true p;omega
       rw [zMY M,zMY g];rfl
      rw [<- e]
      exact q _ (l.drop L)
   ·have e:xB (.str z)=false:=by
     show (decide (1 <= z.length) && decide (z.length <= 8) && _)=_
     have g:¬ z.length <= 8:=λO=>p (zMY (by omega))
     rw [zMZ g];simp
    rw [<- e]
    exact q _ (zE.refl _)
  ·refine ⟨_,rfl,mQ ?_⟩
   have e:xB (.str z)=false:=by
    show (decide (1 <= z.length) && decide (z.length <= 8) && _)=_
    have g:¬ 1 <= z.length:=λO=>o (zMY (by omega))
    rw [zMZ g];simp
   rw [<- e]
   exact q _ (zE.refl _)
 | _=>exact nF (q H (zE.refl _))
theorem zAK:zO NC NC (zG j3):=scm
noncomputable def tE:Sp:=λb H Q _=>∃ z,b=[.str z]/\vQ z=true/\z.length <= 1000/\∀ a,zE [] H a->Q .non a
theorem zH7 (G:yM K mg S6 j3 NC) (c:Cal P w K mg base CX0 1 Su Nh (sD K)):Cal P w K mg base CX0 2 S6 NC tE:=by
 refine G.oz zAK (λf d A a m H n Q E g h=>?_)
 obtain ⟨z,rfl,i,j,q⟩:=h
 have b:z6 1 _:=g.mono (by decide)
 refine ⟨_,(zF (z5 (y9 (y3 (zN c b (zA (pv 0) zB)))) (zF xH) zM)),?_⟩
 refine ⟨_,rfl,_,"str",rfl,.str z,(λo e=>by cases e;exact j),λk l=>⟨_,rfl,?_⟩⟩
 exact ifF (by show (!vQ z)=false;rw [i];rfl) (q k l)
theorem zG8:zO N4 N4 (zG eQ):=scm
noncomputable abbrev askR (z:Str):Str × Str:=((NV : Str),z)
theorem qA (r x:Str × Str):eqT (yY r) (yY x)=decide (r=x):=by
 obtain ⟨a,b⟩:=r
 obtain ⟨c,e⟩:=x
 show ((2 == 2) && ((a == c) && ((b == e) && true)))=_
 by_cases d:a=c <;> by_cases f:b=e <;> simp [d,f]
theorem tZ (row:LSS) (x:Str × Str):(row.map yY).any (λr=>eqT r (yY x))=decide (x ∈ row):=by
 rw [List.any_map]
 induction row with
 | nil=>simp
 | cons r row b=>
  rw [List.any_cons,b]
  show (eqT (yY r) (yY x) || decide (x ∈ row))=_
  rw [qA]
  by_cases a:r=x
  ·subst a;simp
  ·have c:¬ x=r:=λz=>a z.symm
   simp [a,c]
theorem oH (z:Str) (o:Option Str):zAA (.str z) (yD o)=true:=by cases o <;> rfl
theorem jD (z:Str) (o:Option Str):decide (V.str z=yD o)=decide (o=some z):=by
 cases o with
 | none=>simp [yD]
 | some y=>simp [yD,eq_comm]
theorem lF (a:V) (b:Addr) (h:V) (k:Bool):(xO a b h k).lookup (Sy : Str)=none:=zGM a b h k (by decide +kernel) (by decide +kernel) (by decide +kernel) (by decide +kernel)
theorem yE.more {H H1 H3:Hp} {s:SS} (a:H3 p=some (.ins C dx (xO (yD s.ptr) c (yD s.hold) s.asked)))
  (b:Paired (λq r=>H3 q=some (.tup r)) ps (s.row.map yY)) (d:H3 c=some (.lst (ps.map V.ref ++ [.ref t]))) (e:H3 t=some (.tup (yY x))) (f:s.row.length < 1000):yE C H3 p c { s with row:=s.row ++ [x] }:=by
 refine ⟨⟨dx,a⟩,⟨ps ++ [t],by rw [d,zMV];rfl,?_⟩,by show (s.row ++ [x]).length <= 1000;simp;omega⟩
 show Paired _ _ ((s.row ++ [x]).map yY)
 rw [zMV]
 exact wP b e
noncomputable def aM (C:Addr):Sp:=λc H Q _=>∃ p b s z,c=[.ref p,.str z]/\yE C H p b s/\vQ z=true/\z.length <= 1000/\s.hold ≠ some z/\(askR z) ∉ s.row/\s.row.length < 1000 /\
 ∀ r a,yE C a p b (yC { s with row:=s.row ++ [(askR z)] }).1->Rows a r (yC { s with row:=s.row ++ [(askR z)] }).2->H r=none->zE [p,b] H a->Q (.ref r) a
theorem zHX (T:xM K C) (G:yW K C S8 "Seat.want" eQ N4) (CC:Cal P w K mg base CX0 2 S6 NC tE) (MM:yI P w K mg base CX0 2 C Sy N5 (qL C)) :
  yI P w K mg base CX0 3 C S8 N4 (aM C):=by
 refine G.oz zG8 (λf a0 A x s0 H vs Q E U h=>?_)
 obtain ⟨p,c,s,z,rfl,S0,hn,hl,hh,hi,l,q⟩:=h
 have m:z6 2 _:=U.mono (by decide)
 have hu:=vT U
 refine ⟨_,(zD (yA (zN CC m (zA (pv 1) zB)))
   (zD (z5 (PW.pt (rS (zQ y6 (pv 1) (yB (pv 0) rfl) (zW _)) (tP (zQ (kW hu) (z9 (zA zJ (zA (pv 1) zB))) (yB (pv 0) rfl) (by with_unfolding_all rfl))))) (zF xH) zM)
   (zD (yA (vN F.plainAttrs_list F.slot_list_append F.type_list_append xF (yB (pv 0) rfl) (zA (z9 (zA zJ (zA (pv 1) zB))) zB)))
   (zF (zL (xL MM T.cl m (pv 0))))))),?_⟩
 refine ⟨_,rfl,z,rfl,hn,hl,λe y=>?_⟩
 have S:=S0.keep y
 have B:=S.ne
 obtain ⟨⟨n,a⟩,⟨u,b,i⟩,_⟩:=id S
 refine ⟨_,rfl,_,rfl,p,C,n,_,_,rfl,a,T.cl,T.nH,iX _ _ _ _,oH _ _,_,rfl,?_⟩
 refine ifF (by rw [jD];exact zMZ hh) ?_
 refine ⟨_,rfl,by show 2 <= sizeLine;decide,λt D=>?_⟩
 have pt:p ≠ t:=zI a D
 have wt:c ≠ t:=zI b D
 have k:zE [] e (upd e t (.tup [.str NV,.str z])):=zE.new D
 refine ⟨_,rfl,p,C,n,_,_,rfl,(k.z a),T.cl,T.nW,rG _ _ _ _,c,t,_,s.row.map yY,rfl,rfl,(Rows.keep ⟨u,b,i⟩ k),zC,rfl,vB _,_,rfl,?_⟩
 refine ifF (by show ((s.row.map yY).any λr=>eqT r (yY (askR z)))=false;rw [tZ];exact zMZ hi) ?_
 refine ⟨_,rfl,p,C,n,_,_,rfl,(k.z a),T.cl,T.nW,rG _ _ _ _,.inl ⟨rfl,_,.of (k.z b)⟩,_,rfl,by show 2 <= sizeLine;decide,λj o=>?_⟩
 have Y:zE [] (upd e t (.tup [.str NV,.str z])) (upd (upd e t (.tup [.str NV,.str z])) j (.tup [.str NV,.str z])):=zE.new o
 have d:=k.trans Y
 have I:c ≠ j:=zI (k.z b) o
 have J:=zZ i
 rw [zMJ] at J
 refine ⟨c,_,_,rfl,rfl,d.z b,by rw [zMJ,sizeLine_eq];omega,?_⟩
 generalize L:upd (upd e t (.tup [.str NV,.str z])) j (.tup [.str NV,.str z])=v at Y d ⊢
 have M:v j=some (.tup (yY (askR z))):=by rw [<- L];exact zC
 have k4:zE [p,c] e (upd v c (.lst (u.map V.ref ++ [.ref j]))):=(d.mono (by simp)).trans (zE.at (by simp))
 have g:upd v c (.lst (u.map V.ref ++ [.ref j])) p=some (.ins C n (xO (yD s.ptr) c (yD s.hold) s.asked)):=by rw [zK B];exact d.z a
 have S4:yE C (upd v c (.lst (u.map V.ref ++ [.ref j]))) p c { s with row:=s.row ++ [(askR z)] }:=
  yE.more (H:=H) (H1:=e) g (zP k4 (uG a b) i) zC (by rw [zK (Ne.symm I)];exact M) l
 refine ⟨_,rfl,p,n,_,rfl,g,lF _ _ _ _,p,c,_,rfl,S4,λr H5 S5 R5 N k5=>?_⟩
 have O:=(zU N).1
 exact q r H5 S5 R5 (y.none (by simp) (d.none (by simp) O)) (((y.mono (by simp)).trans k4).trans k5)
theorem eO:zO N4 N4 (zG oJ):=scm
noncomputable def eJ (C:Addr):Sp:=λc H Q _=>∃ p b s z j,c=[.ref p,.str z]/\yE C H p b s/\vQ z=true/\z.length <= 1000/\s.row[j]?=some (askR z)/\(∀ m,m < j->s.row[m]? ≠ some (askR z)) /\
 ∀ r a,yE C a p b (yC { s with row:=s.row.eraseIdx j }).1->Rows a r (yC { s with row:=s.row.eraseIdx j }).2->H r=none->zE [p,b] H a->Q (.ref r) a
theorem zEB (T:xM K C) (G:yW K C NZ "Seat.leave" oJ N4) (CC:Cal P w K mg base CX0 2 S6 NC tE) (MM:yI P w K mg base CX0 2 C Sy N5 (qL C)) :
  yI P w K mg base CX0 3 C NZ N4 (eJ C):=by
 refine G.oz eO (λf a1 A D s0 H vs Q E hr h=>?_)
 obtain ⟨p,c,s,z,j,rfl,S0,hn,hl,hj,I,q⟩:=h
 have o:z6 2 _:=hr.mono (by decide)
 have hu:=vT hr
 refine ⟨_,(zD (yA (zN CC o (zA (pv 1) zB)))
   (zD (z5 (zQ (sK hu) (z9 (zA zJ (zA (pv 1) zB))) (yB (pv 0) rfl) (by with_unfolding_all rfl)) (zF xH) zM)
   (zD (yA (vN F.plainAttrs_list F.slot_list_remove F.type_list_remove (o5 hu) (yB (pv 0) rfl) (zA (z9 (zA zJ (zA (pv 1) zB))) zB)))
   (zF (zL (xL MM T.cl o (pv 0))))))),?_⟩
 refine ⟨_,rfl,z,rfl,hn,hl,λk J=>?_⟩
 have S:=S0.keep J
 have L:=S.ne
 obtain ⟨⟨u,d⟩,⟨n,g,l⟩,v⟩:=id S
 refine ⟨_,rfl,by show 2 <= sizeLine;decide,λt ht=>?_⟩
 have x:zE [] k (upd k t (.tup [.str NV,.str z])):=zE.new ht
 refine ⟨_,rfl,p,C,u,_,_,rfl,(x.z d),T.cl,T.nW,rG _ _ _ _,c,t,_,s.row.map yY,rfl,rfl,(Rows.keep ⟨n,g,l⟩ x),zC,rfl,vB _,_,rfl,?_⟩
 refine ifF (by show (!((s.row.map yY).any λr=>eqT r (yY (askR z))))=false;rw [tZ,zMY (zMN hj)];rfl) ?_
 refine ⟨_,rfl,p,C,u,_,_,rfl,(x.z d),T.cl,T.nW,rG _ _ _ _,.inl ⟨rfl,_,.of (x.z g)⟩,_,rfl,by show 2 <= sizeLine;decide,λM N=>?_⟩
 have k3:zE [] (upd k t (.tup [.str NV,.str z])) (upd (upd k t (.tup [.str NV,.str z])) M (.tup [.str NV,.str z])):=zE.new N
 have a:=x.trans k3
 have B:∀ b ∈ ([]:List Addr),∀ xs,k b ≠ some (.tup xs):=λb hb=>by cases hb
 refine ⟨c,M,_,s.row.map yY,j,n,rfl,rfl,a.z g,zP a B l,zC,rfl,vB _,⟨yY (askR z),by rw [zMP,hj];rfl,by
  show eqT (yY (askR z)) (yY (askR z))=true
  rw [qA];exact zMY rfl⟩,(λm r hm e=>by
  rw [zMP] at e
  cases O:s.row[m]? with
  | none=>rw [O] at e;cases e
  | some y=>
   rw [O] at e
   have e':yY y=r:=zMQ e
   rw [<- e']
   show eqT (yY y) (yY (askR z))=false
   rw [qA]
   exact zMZ (λw=>I m hm (by rw [O,w]))),?_⟩
 generalize a2:upd (upd k t (.tup [.str NV,.str z])) M (.tup [.str NV,.str z])=U at k3 a ⊢
 have k4:zE [p,c] k (upd U c (.lst ((n.eraseIdx j).map V.ref))):=(a.mono (by simp)).trans (zE.at (by simp))
 have i:upd U c (.lst ((n.eraseIdx j).map V.ref)) p=some (.ins C u (xO (yD s.ptr) c (yD s.hold) s.asked)):=by rw [zK L];exact a.z d
 have S4:yE C (upd U c (.lst ((n.eraseIdx j).map V.ref))) p c { s with row:=s.row.eraseIdx j }:=by
  refine ⟨⟨u,i⟩,⟨n.eraseIdx j,zC,?_⟩,zMU (tH s.row j) v⟩
  show Paired _ _ ((s.row.eraseIdx j).map yY)
  rw [<- sM yY]
  exact tR j (zP k4 (uG d g) l)
 refine ⟨_,rfl,p,u,_,rfl,i,lF _ _ _ _,p,c,_,rfl,S4,λr H5 S5 R5 Y k5=>?_⟩
 have a0:=(zU Y).1
 exact q r H5 S5 R5 (J.none (by simp) (a.none (by simp) a0)) (((J.mono (by simp)).trans k4).trans k5)
theorem zAH:zO N4 N4 (zG jY):=scm
noncomputable def aV (C:Addr):Sp:=λd H Q _=>∃ p c s z,d=[.ref p,.str z]/\yE C H p c s/\vQ z=true/\z.length <= 1000/\s.hold=some z /\
 ∀ r b,yE C b p c (yC { s with hold:=none }).1->Rows b r (yC { s with hold:=none }).2->H r=none->zE [p,c] H b->Q (.ref r) b
theorem zH4 (T:xM K C) (G:yW K C S3 "Seat.done" jY N4) (t:Cal P w K mg base CX0 2 S6 NC tE) (u:yI P w K mg base CX0 2 C Sy N5 (qL C)) :
  yI P w K mg base CX0 3 C S3 N4 (aV C):=by
 refine G.oz zAH (λf v A g s0 H vs Q E x h=>?_)
 obtain ⟨p,b,s,z,rfl,y,B,D,I,q⟩:=h
 have c:z6 2 _:=x.mono (by decide)
 refine ⟨_,(zD (yA (zN t c (zA (pv 1) zB)))
   (zD (z5 (zQ sV (pv 1) (yB (pv 0) rfl) (zW _)) (zF xH) zM)
   (zD (vL (pv 0) yV rfl)
   (zF (zL (xL u T.cl c (pv 0))))))),?_⟩
 refine ⟨_,rfl,z,rfl,B,D,λi j=>?_⟩
 have S:=y.keep j
 have k:=S.ne
 obtain ⟨⟨a,d⟩,⟨ps,J,L⟩,n⟩:=id S
 refine ⟨_,rfl,_,rfl,p,C,a,_,_,rfl,d,T.cl,T.nH,iX _ _ _ _,oH _ _,_,rfl,?_⟩
 refine ifF (by rw [jD,zMY I];rfl) ?_
 refine ⟨_,rfl,p,C,a,_,rfl,d,T.cl,T.nH,by show 4 < 1000;decide,?_⟩
 rw [zF7]
 have o:zE [p,b] i (upd i p (.ins C a (xO (yD s.ptr) b .non s.asked))):=zE.at (by simp)
 have M:yE C (upd i p (.ins C a (xO (yD s.ptr) b .non s.asked))) p b { s with hold:=none }:=S.stay (dx:=a) { s with hold:=none } zC (by rw [zK (Ne.symm k)]) rfl o
 refine ⟨_,rfl,p,a,_,rfl,zC,lF _ _ _ _,p,b,_,rfl,M,λr N O U l Y=>?_⟩
 have m:=(zU l).1
 exact q r N O U (j.none (by simp) m) (((j.mono (by simp)).trans o).trans Y)
theorem zDF:zO N5 N5 (zG kQ):=scm
noncomputable def kD (C:Addr):Sp:=λa H Q _=>∃ p b s,a=[.ref p]/\yE C H p b s/\Q (yD s.ptr) H
theorem zED (T:xM K C) (G:yW K C Sn "Seat.arrow" kQ N5):yI P w K mg base CX0 1 C Sn N5 (kD C):=by
 refine G.oz zDF (λf c A a e H g Q E i h=>?_)
 obtain ⟨p,j,s,rfl,S,q⟩:=h
 obtain ⟨d,b⟩:=S.ob
 exact ⟨_,(zF (zL (yB (pv 0) rfl))),_,rfl,p,C,d,_,_,rfl,b,T.cl,T.nP,fQ _ _ _ _,q⟩
theorem zAD:zO N5 N5 (zG pQ):=scm
noncomputable def jS (C:Addr):Sp:=λa H Q _=>∃ p b s,a=[.ref p]/\yE C H p b s/\Q (yD s.hold) H
theorem zBB (T:xM K C) (G:yW K C Sk "Seat.inside" pQ N5):yI P w K mg base CX0 1 C Sk N5 (jS C):=by
 refine G.oz zAD (λf c A a e H g Q E i h=>?_)
 obtain ⟨p,j,s,rfl,S,q⟩:=h
 obtain ⟨d,b⟩:=S.ob
 exact ⟨_,(zF (zL (yB (pv 0) rfl))),_,rfl,p,C,d,_,_,rfl,b,T.cl,T.nH,iX _ _ _ _,q⟩
theorem zKB:zO N5 N5 (zG zDK):=scm
noncomputable def zFP (C:Addr):Sp:=λa H Q _=>∃ p b s,a=[.ref p]/\yE C H p b s/\Q (.bl s.asked) H
theorem zK4 (T:xM K C) (G:yW K C Sq "Seat.has_asked" zDK N5):yI P w K mg base CX0 1 C Sq N5 (zFP C):=by
 refine G.oz zKB (λf c A a e H g Q E i h=>?_)
 obtain ⟨p,j,s,rfl,S,q⟩:=h
 obtain ⟨d,b⟩:=S.ob
 exact ⟨_,(zF (zL (yB (pv 0) rfl))),_,rfl,p,C,d,_,_,rfl,b,T.cl,T.nA,zL2 _ _ _ _,q⟩
theorem zJ8:zO N5 N5 (zG zDI):=scm
noncomputable def zFM (C:Addr):Sp:=λb H Q _=>∃ p c s,b=[.ref p]/\yE C H p c s/\∀ r a,H r=none->Rows a r (s.row.map yY)->zE [] H a->Q (.ref r) a
theorem zKY (T:xM K C) (G:yW K C SI "Seat.row" zDI N5) (m:Blt mg "list"):yI P w K mg base CX0 1 C SI N5 (zFM C):=by
 refine G.oz zJ8 (λf n A a u H v Q E x h=>?_)
 obtain ⟨p,o,s,rfl,S,q⟩:=h
 obtain ⟨⟨r,c⟩,⟨g,d,e⟩,i⟩:=id S
 refine ⟨_,(zF (zL (xE uI rfl m.no vR (zA (yB (pv 0) rfl) zB)))),_,rfl,p,C,r,_,_,rfl,c,T.cl,T.nW,rG _ _ _ _,o,_,rfl,.inl (.of d),λl j=>?_⟩
 have k:zE [] H (upd H l (.lst (g.map V.ref))):=zE.new j
 exact q l _ j ⟨g,zC,zP k (λb t=>by cases t) e⟩ k
theorem zHB:zO NN NN (zG eW):=scm
theorem zDW (a:V) (b:Addr):wJ Se (.bl false) (wJ So .non (wJ Si (.ref b) (wJ Sm a [])))=xO a b .non false:=by
 unfold xO
 simp only [wJ,if_neg n1,if_neg n2,if_neg n3,if_neg n4,if_neg n5,if_neg n6]
noncomputable def gH (C:Addr):Sp:=λd H Q _=>∃ p e a,d=[.ref p,yD a]/\H p=some (.ins C e [])/\(∀ z,a=some z->vQ z=true/\z.length <= 1000) /\
 ∀ c b,H c=none->yE C b p c ⟨a,[],none,false⟩->zE [p] H b->Q .non b
theorem zH3 (T:xM K C) (G:Fun K "__init__" "Seat.__init__" eW m fd) (n:Cal P w K mg base CX0 1 Su Nh (sD K)):tJ P w K mg base CX0 2 m fd NN (gH C):=by
 refine G.oz zHB (λo A d B H D Q E r h=>?_)
 obtain ⟨p,a,j,rfl,s,t,q⟩:=h
 have f:z6 1 _:=r.mono (by decide)
 refine ⟨_,(zD (z5 (PW.pt (kS (zQ vO (pv 1) yV (zW _)) (pT (y9 (y3 (zN n f (zA (pv 1) zB))))))) (zF xH) zM)
   (zD (vL (pv 0) (pv 1) rfl)
   (zD (vL (pv 0) (yN zB) rfl)
   (zD (vL (pv 0) yV rfl)
   (zF (vL (pv 0) wH rfl)))))),?_⟩
 have rest:∀ b,zE [] H b->(u6 (zAN K (tM 0) (tM 1) Sm) (u6 (zAN K (tM 0) (jQ t7) Si) (u6 (zAN K (tM 0) (tC .non) So) (zAN K (tM 0) (tC (.bl false)) Se)))) { nx:=λ_ u=>Q .non u,rt:=Q } (L2.start NN [.ref p,yD j]) b:=λb c=>by
  have g:=c.z s
  refine ⟨_,rfl,_,rfl,p,C,a,_,rfl,g,T.cl,T.nP,by show 0 < 1000;decide,zMT _,λv k=>?_⟩
  obtain ⟨i,l⟩:=zU k
  refine ⟨_,rfl,p,C,a,_,rfl,by rw [zK (Ne.symm l),zC],T.cl,T.nW,by show 1 < 1000;decide,?_⟩
  refine ⟨_,rfl,p,C,a,_,rfl,zC,T.cl,T.nH,by show 2 < 1000;decide,?_⟩
  refine ⟨_,rfl,p,C,a,_,rfl,zC,T.cl,T.nA,by show 3 < 1000;decide,?_⟩
  dsimp only
  rw [zDW,tL,tL]
  refine q v _ (c.none (by simp) i) ⟨⟨a,zC⟩,⟨[],by rw [zK l,zC];rfl,.nil⟩,zMT _⟩ ?_
  exact ((((c.mono (by simp)).trans (zE.at (by simp))).trans (zE.new k))).trans (zE.at (by simp))
 cases j with
 | none=>exact ⟨_,rfl,rfl,_,rfl,ifF rfl (ifF rfl (rest H (zE.refl _)))⟩
 | some z=>
  obtain ⟨x,y⟩:=t z rfl
  refine ⟨_,rfl,rfl,_,rfl,ifT rfl ?_⟩
  refine ⟨_,rfl,_,"str",rfl,.str z,(λL e=>by cases e;exact y),λb c=>⟨_,rfl,?_⟩⟩
  exact ifF (by show (!vQ z)=false;rw [x];rfl) (rest b c)
end
abbrev oM:Stmt:=top 41
noncomputable def Alk (H:Hp):Nat->V->V->Prop
 | 0,u,v=>u=v/\xA u=true
 | n + 1,u,v=>(u=v/\xA u=true) \/ ∃ a b c d,u=.ref a/\v=.ref b/\((H a=some (.lst c)/\H b=some (.lst d)) \/ (H a=some (.tup c)/\H b=some (.tup d)))/\Paired (Alk H n) c d/\c.length <= 2000
theorem Alk.flat (n:Nat) (f:xA u=true):Alk H n u u:=by
 cases n with
 | zero=>exact ⟨rfl,f⟩
 | succ n=>exact .inl ⟨rfl,f⟩
theorem Alk.keep (k:zE [] H c):∀ (n:Nat) {u v:V},Alk H n u v->Alk c n u v
 | 0,_,_,h=>h
 | n + 1,_,_,.inl h=>.inl h
 | n + 1,_,_,.inr ⟨a,b,d,e,f,g,i,j,l⟩=>.inr ⟨a,b,d,e,f,g,i.elim (λz=>.inl ⟨k.z z.1,k.z z.2⟩) (λz=>.inr ⟨k.z z.1,k.z z.2⟩),L2.Paired.mapP j λx y z=>Alk.keep k n z,l⟩
theorem fP (f:xA u=true):∃ T,yF K H u T/\T ≠ "list"/\T ≠ "tuple":=by
 cases u with
 | non=>exact ⟨_,.non,by decide,by decide⟩
 | bl b=>exact ⟨_,.bl b,by decide,by decide⟩
 | int i=>exact ⟨_,.int i,by decide,by decide⟩
 | str z=>exact ⟨_,.str z,by decide,by decide⟩
 | _=>exact absurd (show false=true from f) zNB
theorem zGE (h:yF K H x T):W.kitAny K (.type T) [.type "list",.type "tuple"]=some (T == "list" || T == "tuple"):=by
 cases h <;> rfl
section
variable {P:Program} {w:World} {K:W.Frag} {mg:Str->Option Value} {base:Heap} {C:Addr}
theorem zDG:zO Np Np (zG oM):=scm
noncomputable def zG6:Nat->Sp
 | 0=>λ_ _ _ _=>False
 | n + 1=>λb H Q _=>∃ u v,b=[u,v]/\Alk H n u v/\∀ a,zE [] H a->Q (.bl true) a
theorem zEQ (h:(H a=some (.lst us)/\H b=some (.lst vs)) \/ (H a=some (.tup us)/\H b=some (.tup vs))):zFF K (.ref a) H us.length/\zFF K (.ref b) H vs.length:=by
 rcases h with ⟨c,d⟩ | ⟨c,d⟩
 ·exact ⟨.inl ⟨_,.of c,rfl⟩,.inl ⟨_,.of d,rfl⟩⟩
 ·exact ⟨.inr ⟨_,.of c,rfl⟩,.inr ⟨_,.of d,rfl⟩⟩
theorem zGU (h:(H a=some (.lst us)/\H b=some (.lst vs)) \/ (H a=some (.tup us)/\H b=some (.tup vs))):∃ T,yF K H (.ref a) T/\yF K H (.ref b) T/\(T="list" \/ T="tuple"):=by
 rcases h with ⟨c,d⟩ | ⟨c,d⟩
 ·exact ⟨_,.lst c,.lst d,.inl rfl⟩
 ·exact ⟨_,.tup c,.tup d,.inr rfl⟩
theorem j5 (k:zE [] H c) (h:(H a=some (.lst us)/\H b=some (.lst vs)) \/ (H a=some (.tup us)/\H b=some (.tup vs))):(c a=some (.lst us)/\c b=some (.lst vs)) \/ (c a=some (.tup us)/\c b=some (.tup vs)):=
 h.elim (λz=>.inl ⟨k.z z.1,k.z z.2⟩) (λz=>.inr ⟨k.z z.1,k.z z.2⟩)
theorem dJ (G:yM K mg T5 oM Np) (c:Blt mg Sd) (g:Blt mg "list") (d:Blt mg "tuple") (j:Blt mg "bool") (l:Blt mg Sc) (r:Blt mg "all") (o:Blt mg SG) :
  ∀ n,Cal P w K mg base CX0 n T5 Np (zG6 n)
 | 0=>by
  obtain ⟨f,fd,F,hm,hb⟩:=G.ex
  exact ⟨f,fd,⟨λ_ _ _ _ h=>h.elim,λ_ _ _ _ _ _ _ _ _ _ _ _ _ h=>h.elim⟩,hm,F.kp,hb⟩
 | n + 1=>by
  have CA:=dJ G c g d j l r o n
  refine G.oz zDG (λf a6 A a3 s0 H I Q E hr h=>?_)
  obtain ⟨u,v,rfl,hA,q⟩:=h
  refine ⟨_,(zD (z5 (y3 (zY jH c zT (zA (pv 1) (zA (z9 (zA (vE g vR) (zA (vE d nX) zB))) zB)))) (zD (z5 (PW.pt (rS (zQ sV (zY yO c zT (zA (pv 1) (zA (vE g vR) zB))) (zY yO c zT (zA (pv 0) (zA (vE g vR) zB))) (zW _)) (tP (zQ sV (zY yO c zT (zA (pv 1) (zA (vE d nX) zB))) (zY yO c zT (zA (pv 0) (zA (vE d nX) zB))) (zW _))))) (zF (zL wH)) zM)
   (zD (z5 (zQ sV (zY z8 l yS (zA (pv 0) zB)) (zY z8 l yS (zA (pv 1) zB)) (zW _)) (zF (zL wH)) zM)
   (zF (zL (zY (sG rfl) r nY (zA (vX (N:=Np) (sc:=zG oM) (ix:=[0,1]) (by decide +kernel) (vW rfl o.no (zA (zY z8 l yS (zA (pv 1) zB)) zB)) (λ_ _ _ _=>xQ) (λ_ _ _ _=>(zN CA hr (zA (zS (zV.or z4) (pv 1) (pv 0) (λ_ _=>rfl)) (zA (zS (zV.or z4) (pv 2) (pv 0) (λ_ _=>rfl)) zB))))) zB)))))) zM)
   (zF (zL (uF (xC y6 (zY yO c zT (zA (pv 0) (zA (vE j u5) zB))) (zY yO c zT (zA (pv 1) (zA (vE j u5) zB))) (zW _)) (uN (xC y6 (pv 0) (pv 1) (zW _))))))),?_⟩
  have a4:(u=v/\xA u=true) \/ ∃ a b D I m,u=.ref a/\v=.ref b/\((H a=some (.lst D)/\H b=some (.lst I)) \/ (H a=some (.tup D)/\H b=some (.tup I)))/\n=m + 1/\Paired (Alk H m) D I/\D.length <= 2000:=by
   cases n with
   | zero=>exact .inl hA
   | succ m=>
    rcases hA with h | ⟨a,b,D,I,e1,e2,hh,hp,hl⟩
    ·exact .inl h
    ·exact .inr ⟨a,b,D,I,m,e1,e2,hh,rfl,hp,hl⟩
  rcases a4 with ⟨rfl,fu⟩ | ⟨a,b,D,I,m,rfl,rfl,hh,rfl,hp,hl⟩
  ·obtain ⟨T,U,n1,n2⟩:=fP (K:=K) (H:=H) fu
   have sc:zAA u u=true:=by
    cases u <;> first | rfl | exact absurd (show false=true from fu) zNB
   refine ⟨_,rfl,by show 2 <= sizeLine;decide,λt ht=>?_⟩
   have s:zE [] H (upd H t (.tup [.ty "list",.ty "tuple"])):=zE.new ht
   refine ⟨_,T,t,["list","tuple"],_,rfl,U.keep s,zC,zGE (U.keep s),_,rfl,?_⟩
   refine ifF (by simp [n1,n2]) ?_
   have kt:=(U.keep s).kit.2.2.1
   refine ⟨_,rfl,_,_,_,_,rfl,(U.keep s).ty,kt,_,rfl,_,_,_,_,rfl,(U.keep s).ty,kt,rfl,_,rfl,?_⟩
   refine ifT (by simp) ⟨_,rfl,_,rfl,sc,?_⟩
   rw [zMY rfl]
   exact q _ s
  ·have Y:=zZ hp
   refine ⟨_,rfl,by show 2 <= sizeLine;decide,λt ht=>?_⟩
   have s:zE [] H (upd H t (.tup [.ty "list",.ty "tuple"])):=zE.new ht
   generalize a5:upd H t (.tup [.ty "list",.ty "tuple"])=H1 at s ⊢
   have L:=j5 s hh
   obtain ⟨T,pa,O,hT⟩:=zGU (K:=K) L
   refine ⟨_,T,t,["list","tuple"],_,rfl,O,by rw [<- a5];exact zC,zGE O,_,rfl,?_⟩
   refine ifT (by rcases hT with h | h <;> rw [h] <;> rfl) ?_
   refine ⟨_,rfl,_,_,_,_,rfl,O.ty,O.kit.2.2.2.1,_,rfl,_,_,_,_,rfl,pa.ty,pa.kit.2.2.2.1,rfl,_,rfl,?_⟩
   refine ifF (by simp) ?_
   refine ⟨_,rfl,_,_,_,_,rfl,O.ty,O.kit.2.2.2.2,_,rfl,_,_,_,_,rfl,pa.ty,pa.kit.2.2.2.2,rfl,_,rfl,?_⟩
   refine ifF (by simp) ?_
   obtain ⟨l1,l2⟩:=zEQ (K:=K) L
   refine ⟨_,rfl,_,_,rfl,l1,_,rfl,_,_,rfl,l2,rfl,_,rfl,?_⟩
   refine ifF (by rw [Y];simp) ?_
   refine ⟨_,rfl,_,_,rfl,l2,_,rfl,by omega,by omega,λacc J=>?_⟩
   refine sO (by rw [sizeLine_eq];omega) (λi ys τ B=>∃ k,τ=[k,some (.ref a),some (.ref b)]/\ys=List.replicate i (V.bl true)/\zE [acc] H1 B/\B acc=some (.lst ys)) ?_ ?_ ?_ ?_
   ·exact ⟨_,rfl,rfl,zE.at (by simp),zC⟩
   ·rintro i ys τ B ⟨k,rfl,rfl,kp,h2⟩
    exact ⟨h2,by simp⟩
   ·rintro i ys τ B hi ⟨k,rfl,rfl,kp,h2⟩
    have aa:i < I.length:=by omega
    have a0:i < D.length:=by omega
    have k2:zE [] H1 B:=kp.drop J
    have a1:=j5 k2 L
    obtain ⟨y,ey,ay⟩:=wS hp i D[i] (zMK a0)
    have a2:∀ {p:Addr} {M:List V} {x:V} {Q:VK},M[i]?=some x->(B p=some (.lst M) \/ B p=some (.tup M))->Q x B->(gT (.ref p) (.int (0 + (i:Int))) B Q \/ j7 (.ref p) (.int (0 + (i:Int))) B Q):=λ{p M x Q} e1 e2 e3=>by
     have e4:atI M (0 + (i:Int))=some x:=by rw [Int.zero_add];exact uJ e1
     exact e2.elim (λz=>.inl ⟨p,M,_,x,rfl,rfl,z,e4,e3⟩) (λz=>.inr ⟨p,M,_,x,rfl,rfl,z,e4,e3⟩)
    refine ⟨_,rfl,_,rfl,a2 (zMK a0) (a1.imp (·.1) (·.1)) ⟨_,rfl,_,rfl,a2 ey (a1.imp (·.2) (·.2)) ?_⟩⟩
    refine ⟨D[i],y,rfl,Alk.keep (s.trans k2) m ay,λH3 k3=>⟨k3.z h2,_,rfl,?_,(kp.trans (k3.mono (by simp))).trans (zE.at (by simp)),zC⟩⟩
    rw [List.replicate_succ']
   ·rintro ys τ B ⟨k,rfl,rfl,kp,h2⟩
    refine ⟨acc,List.replicate _ true,rfl,.of (by rw [h2,List.map_replicate]),?_⟩
    have e:(List.replicate ((I.length:Nat):Int).toNat true).all id=true:=by simp
    rw [e]
    exact q _ (s.trans (kp.drop J))
end
abbrev eY:Stmt:=top 34
abbrev kP:Stmt:=top 35
abbrev pR:Stmt:=top 36
noncomputable abbrev eR:Stmt:=top 37
noncomputable abbrev qO:Stmt:=top 38
noncomputable def Src (H:Hp) (p:Addr):Prop:=∃ a b c:Int,H p=some (.lst [.int a,.int b,.int c])
noncomputable def qG (z:Str):Prop:=∀ c ∈ z.cps.toList,vH c=true
theorem zFC:∀ c ∈ abc.cps.toList,vH c=true:=by decide +kernel
theorem zEO (b:qG x) (d:qG y):qG (x ++ y):=by
 intro c a
 have e:(x ++ y).cps.toList=x.cps.toList ++ y.cps.toList:=by
  show (x.cps ++ y.cps).toList=_
  simp
 rw [e] at a
 exact (zM0.mp a).elim (b c) (d c)
theorem dM (h:ch ∈ abc.cps.toList):qG ⟨#[ch]⟩:=λc a=>by
 have e:c=ch:=by simpa using a
 rw [e];exact zFC ch h
theorem c8 (h:qG x) (lo b:Option Int):qG (Txt.slice x lo b):=by
 intro c a
 unfold Txt.slice at a
 split at a
 ·exact h c a
 ·simp only [List.mem_filterMap] at a
  obtain ⟨i,_,e⟩:=a
  exact h c (by
   rw [<- Array.getElem?_toList] at e
   exact zMN e)
theorem iS:∀ (a:List Str) (acc:Array Nat),(∀ c ∈ acc.toList,vH c=true)->(∀ z ∈ a,qG z)->∀ c ∈ (a.foldl (λacc p=>acc ++ (Str.ofString "").cps ++ p.cps) acc).toList,vH c=true
 | [],acc,h,_=>h
 | z :: a,acc,h,d=>by
  rw [List.foldl_cons]
  refine iS a _ (λc e=>?_) λy f=>d y (zMW _ f)
  have b:c ∈ acc.toList ++ (Str.ofString "").cps.toList ++ z.cps.toList:=by simpa using e
  rcases zM0.mp b with q | q
  ·rcases zM0.mp q with q | q
   ·exact h c q
   ·exact absurd q (by show ¬ c ∈ ([]:List Nat);simp)
  ·exact d z zNC c q
theorem zBN (a:List Str) (h:∀ z ∈ a,qG z):qG (Txt.join (Str.ofString "") a):=by
 cases a with
 | nil=>intro c b;exact absurd b (by show ¬ c ∈ ([]:List Nat);simp)
 | cons z a=>
  show ∀ c ∈ ((a.foldl (λacc p=>acc ++ (Str.ofString "").cps ++ p.cps) z.cps)).toList,vH c=true
  exact iS a _ (h z zNC) λy d=>h y (zMW _ d)
theorem zEG (h:qG z) (a:1 <= z.length) (b:z.length <= 8):vQ z=true:=by
 unfold vQ
 rw [zMY a,zMY b]
 simp only [Bool.true_and]
 exact List.all_eq_true.mpr h
section
variable {P:Program} {w:World} {K:W.Frag} {mg:Str->Option Value} {base:Heap} {C:Addr}
noncomputable def lZ:Sp:=λb H Q _=>∃ a k,b=[.int a,.int k]/\∀ v:Int,0 <= v->v < 2147483629->Q (.int v) H
theorem pP:zO ["_law_cell","_law_k","_law_number"] NM (zG kP):=scm
theorem zEA (G:yM K mg "_law_mixed" kP NM):Cal P w K mg base CX0 1 "_law_mixed" NM lZ:=by
 refine G.oz pP (λf c A b s H d Q E e h=>?_)
 obtain ⟨a,k,rfl,q⟩:=h
 refine ⟨_,zD (zX (i:=2) pP.nd rfl (Or.inl rfl) (yK u8 (yK sZ (yK xV (yK xV (yK u8 (pv 0) zH) (yK sZ zH (pv 1))) zH) zH) zH))
  (zD (zX (i:=2) pP.nd rfl (Or.inl rfl) (yK u8 (yK sZ (pv 2) (yK xV (yK xV (yK pV (pv 2) zH) zH) (pv 1))) zH))
  (zD (zX (i:=2) pP.nd rfl (Or.inl rfl) (yK u8 (yK sZ (yK xV (pv 2) zH) (yK xV (yK xV (yK pV (pv 2) zH) zH) (yK sZ zH (pv 1)))) zH))
  (zF (zL (yK u8 (yK sZ (yK xV (yK xV (pv 2) (pv 1)) zH) (yK xV (yK pV (pv 2) zH) zH)) zH))))),?_⟩
 simp [u6,oE,cG,tOp,rI,rI0,tM,tC,wI,L2.start,aA,zFI]
 refine ⟨by omega,by omega,by omega,q _ (by omega) (by omega)⟩
noncomputable def oG:Sp:=λe H Q _=>∃ a,e=[.int a]/\∀ p b c d,H p=none->Q (.ref p) (upd H p (.lst [.int b,.int c,.int d]))
theorem zAI:zO NE NE (zG pR):=scm
theorem zBC (G:yM K mg SV pR NE):Cal P w K mg base CX0 1 SV NE oG:=by
 refine G.oz zAI (λf c A b s H e Q E g h=>?_)
 obtain ⟨a,rfl,q⟩:=h
 refine ⟨_,zF (zL (yN (zA (yK sZ (yK pV (pv 0) zH) (yK zHO zH (yK u8 (pv 0) zH))) (zA (pv 0) (zA zH zB))))),?_⟩
 simp [u6,oE,cG,tOp,rI,rI0,tM,tC,wI,L2.start,aA,zFI,jQ,vD,t7]
 refine ⟨by omega,cH (by decide) |> Nat.le_of_lt,λp d=>q p _ _ _ d⟩
noncomputable def tN:Sp:=λd H Q _=>∃ p a b c m,d=[.ref p,.int m]/\H p=some (.lst [.int a,.int b,.int c])/\0 < m/\m < 4611686018427387904 /\
 ∀ v e f:Int,0 <= v->v < m->Q (.int v) (upd H p (.lst [.int e,.int b,.int f]))
theorem zAC:zO [SW,"_law_many",T6] N8 (zG eR):=scm
theorem zHZ (G:yM K mg Ss eR N8) (g:Cal P w K mg base CX0 1 "_law_mixed" NM lZ):Cal P w K mg base CX0 2 Ss N8 tN:=by
 refine G.oz zAC (λf j A e s H r Q E k h=>?_)
 obtain ⟨p,a,b,c,m,rfl,l,d,n,q⟩:=h
 refine ⟨_,zD (z5 (zQ zGB (zS zV (pv 0) zH (λ_ _=>rfl)) zH (zW _))
   (zD (zX (i:=2) zAC.nd rfl (Or.inl rfl) (yK u8 (zS zV (pv 0) zH (λ_ _=>rfl)) (pv 1)))
   (zD (qQ (yK zA9 (zS zV (pv 0) zH (λ_ _=>rfl)) (pv 1)) (zA3 (pv 0) zH jU))
   (zF (zL (pv 2))))) zM)
  (zD (qQ (yK xV (zS zV (pv 0) zH (λ_ _=>rfl)) zH) (zA3 (pv 0) zH jU))
  (zF (zL (yK u8 (zN g k (zA (zS zV (pv 0) zH (λ_ _=>rfl)) (zA (zS zV (pv 0) zH (λ_ _=>rfl)) zB))) (pv 1))))),?_⟩
 simp [u6,oE,cG,tOp,rI,rI0,tM,tC,wI,L2.start,aA,zFI,jQ,vD,t7,zC1,jO,f8,zLZ,gT,zF3,mY,lZ,l,atI,ixN,zC,tL]
 refine t8 (λo=>⟨d,⟨d,n⟩,q _ _ _ (Int.emod_nonneg _ (by omega)) (Int.emod_lt_of_pos _ d)⟩) (λo v v0 v1=>⟨d,q _ _ _ (Int.emod_nonneg _ (by omega)) (Int.emod_lt_of_pos _ d)⟩)
theorem zHE:zO NI NI (zG eY):=scm
noncomputable def aY (K:W.Frag):Sp:=λb H Q _=>∃ (a:Addr) (c:List Int) (k:Int),b=[.ref a,.int k]/\SqL K H a (c.map V.int)/\0 <= k/\∀ v:Int,Q (.int v) H
theorem zH8 (G:yM K mg Te eY NI) (b:Blt mg Sc):Cal P w K mg base CX0 1 Te NI (aY K):=by
 refine G.oz zHE (λf l A d r H s Q E t h=>?_)
 obtain ⟨a,m,k,rfl,g,n,q⟩:=h
 refine ⟨_,(zD (z5 (zQ iD (pv 1) (zY z8 b yS (zA (pv 0) zB)) (zW _)) (zF (zL (zS dR (pv 0) (pv 1) (λ_ _=>rfl)))) zM)
   (zF (zL zH))),?_⟩
 refine ⟨_,rfl,_,rfl,_,_,rfl,.inl ⟨_,g,rfl⟩,_,_,rfl,rfl,_,rfl,?_⟩
 refine t8 (λi=>?_) (λi=>q 0)
 have e:=of_decide_eq_true i
 obtain ⟨v,o,c⟩:=uU n e
 rw [zMP] at c
 cases j:m[k.toNat]? with
 | none=>rw [j] at c;cases c
 | some z=>
  rw [j] at c
  have p:=zMQ c
  subst p
  exact ⟨_,rfl,_,rfl,a,_,k,_,rfl,rfl,g,o,q z⟩
theorem pO:zO Nq N8 (zG qO):=scm
theorem gG {xs:List Str} {A:TE} {n:Nat} {σ:St} {H1:Hp} {Q:VK} {acc p:Addr} {ix:List Nat} {rest:List (Option V)} (I:n <= 100) (B:Src H1 p) (D:H1 acc=none)
  (r:stC xs ix σ=none :: rest)
  (G:∀ (k:V) (d:Hp) (R:VK),Src d p->(∀ (ch:Nat) (H3:Hp),ch ∈ abc.cps.toList->zE [p] d H3->Src H3 p->R (.str ⟨#[ch]⟩) H3)->A (some k :: rest) d R)
  (q:∀ (e:List Str) (d:Hp),e.length=n->(∀ z ∈ e,qG z/\z.length=1)->zE [p] H1 d->Src d p->d acc=some (.lst (e.map V.str))->Q (.ref acc) d) :
  LCW (Itr 0 n) xs ix (wI 0) sY A σ H1 acc Q:=by
 have s:acc ≠ p:=by
  obtain ⟨a,b,c,h⟩:=B
  exact Ne.symm (zI h D)
 refine sO (by rw [sizeLine_eq];omega) (λi g m d=>∃ (e:List Str) (k:Option V),m=k :: rest/\g=e.map V.str/\e.length=i/\(∀ z ∈ e,qG z/\z.length=1)/\zE [acc,p] H1 d/\Src d p/\d acc=some (.lst g)) ?_ ?_ ?_ ?_
 ·obtain ⟨a,b,c,h⟩:=B
  exact ⟨[],none,r,rfl,rfl,(λz t=>by cases t),zE.at (by simp),⟨a,b,c,by rw [zK (Ne.symm s)];exact h⟩,zC⟩
 ·rintro i g m d ⟨e,k,rfl,rfl,o,_,_,_,j⟩
  exact ⟨j,by rw [zMJ];omega⟩
 ·rintro i g m d J ⟨e,k,rfl,rfl,o,u,v,f,j⟩
  refine G _ d _ f λch H3 H E l=>?_
  obtain ⟨a,b,c,x⟩:=l
  refine ⟨E _ _ (by simp [s]) j,e ++ [⟨#[ch]⟩],_,rfl,by simp,by simp [o],?_,(v.trans (E.mono (by simp))).trans (zE.at (by simp)),⟨a,b,c,by rw [zK (Ne.symm s)];exact x⟩,zC⟩
  intro z t
  rcases zM0.mp t with y | y
  ·exact u z y
  ·rw [zMM.mp y];exact ⟨dM H,rfl⟩
 ·rintro g m d ⟨e,k,rfl,rfl,o,u,v,f,j⟩
  exact q e d o u (v.drop D) f j
theorem f9 (a:List Str) (h:∀ z ∈ a,qG z/\z.length=1):(a.map (·.length)).sum=a.length:=jR a λz b=>(h z b).2
noncomputable def yR (z:Str):Prop:=vQ z=true/\z.length <= 8
noncomputable def lR (st:Int) (a:List Str):Prop:=∀ (j:Nat) (z:Str),a[j]?=some z->z.cps.toList.getLast?=abc.cps.toList[((st + (0 + (j:Int))) % 26).toNat]?
theorem lR.snoc (h:lR st b) (e:abc.cps.toList[((st + (0 + (b.length:Int))) % 26).toNat]?=some ch):lR st (b ++ [x ++ ⟨#[ch]⟩]):=by
 intro j z a
 by_cases c:j < b.length
 ·rw [zM7 c] at a
  exact h j z a
 ·rw [zM6 (by omega)] at a
  have d:j=b.length:=by
   have:=(zML.mp a).1
   simp at this;omega
  subst d
  rw [Nat.sub_self] at a
  have f:x ++ (⟨#[ch]⟩:Str)=z:=zMQ a
  rw [<- f,e]
  show (x.cps ++ #[ch]).toList.getLast?=_
  simp
theorem lQ:abc.cps.toList.Nodup/\abc.cps.toList.length=26:=by decide +kernel
theorem lR.nodup (h:lR st d) (m:d.length <= 26):d.Nodup:=by
 rw [List.nodup_iff_pairwise_ne,List.pairwise_iff_getElem]
 intro i j f g k e
 have a:=h i _ (zMK f)
 have b:=h j _ (zMK g)
 rw [e] at a
 have c:=a.symm.trans b
 have l:((st + (0 + (i:Int))) % 26).toNat < abc.cps.toList.length:=by rw [lQ.2];omega
 have:=(List.getElem?_inj l lQ.1).mp c
 omega
noncomputable def eG:Sp:=λc H Q _=>∃ (p:Addr) (m:Int),c=[.ref p,.int m]/\Src H p/\0 <= m/\m <= 26 /\
 ∀ (r:Addr) (a:List Str) (b:Hp),H r=none->b r=some (.lst (a.map V.str))->a.length=m.toNat->(∀ z ∈ a,yR z)->a.Nodup->zE [p] H b->Src b p->Q (.ref r) b
theorem zD8 (G:yM K mg "_law_names" qO N8) (CN:Cal P w K mg base CX0 2 Ss N8 tN) (g:Blt mg SG):Cal P w K mg base CX0 3 "_law_names" N8 eG:=by
 refine G.oz pO (λf a6 A a0 s0 H vs Q E hr h=>?_)
 obtain ⟨p,m,rfl,⟨a,b,c,hp⟩,m0,m1,q⟩:=h
 have t:z6 2 _:=hr.mono (by decide)
 refine ⟨_,(zD (zX (i:=2) pO.nd rfl (Or.inr rfl) zJ)
   (zD (zX (i:=3) pO.nd rfl (Or.inr rfl) (zN CN t (zA (pv 0) (zA zH zB))))
   (zD (zX (i:=4) pO.nd rfl (Or.inr rfl) (vN F.plainAttrs_str F.slot_str_join F.type_str_join zEI zJ (zA (vX (N:=Nq) (sc:=zG qO) (ix:=[2,0]) (by decide +kernel) (vW rfl g.no (zA zH zB)) (λ_ _ _ _=>xQ) (λ_ _ _ _=>(zS fK (pv 1) (zN CN t (zA (pv 2) (zA zH zB))) (λ_ _=>rfl)))) zB)))
   (zF (zL (vX (N:=Nq) (sc:=zG qO) (ix:=[4,2,0,3]) (by decide +kernel) (vW rfl g.no (zA (pv 1) zB)) (λ_ _ _ _=>xQ) (λ_ _ _ _=>(yK rA (wB kF (pv 1) vG (wA (zN CN t (zA (pv 3) (zA zH zB))))) (zS fK (pv 2) (yK u8 (yK xV (pv 4) (pv 0)) zH) (λ_ _=>rfl)))))))))),?_⟩
 refine ⟨_,rfl,p,a,b,c,26,rfl,hp,by decide,by decide,λst a1 c1 aa ab=>?_⟩
 have k1:zE [p] H (upd H p (.lst [.int a1,.int b,.int c1])):=zE.at (by simp)
 generalize a4:upd H p (.lst [.int a1,.int b,.int c1])=H1 at k1 ⊢
 have s1:Src H1 p:=⟨a1,b,c1,by rw [<- a4];exact zC⟩
 refine ⟨rfl,7,rfl,by decide,by decide,λacc ha=>?_⟩
 refine gG (p:=p) (by decide) s1 ha rfl (λk H2 R ⟨a2,O,c2,hs⟩ R'=>?_) ?_
 ·refine ⟨_,rfl,_,rfl,p,a2,O,c2,26,rfl,hs,by decide,by decide,λv2 a3 c3 w0 w1=>?_⟩
  obtain ⟨M,u,r⟩:=uU (xs:=abc.cps.toList) w0 (show v2 < ((26:Nat):Int) from w1)
  exact ⟨_,v2,M,rfl,rfl,by decide,u,R' M _ (zMN r) (zE.at (by simp)) ⟨a3,O,c3,zC⟩⟩
 intro B H2 T D k2 s2 h2
 refine ⟨"",acc,B,rfl,rfl,.of h2,by rw [f9 B D,T];decide,?_⟩
 have n:qG (Txt.join (Str.ofString "") B):=zBN B λz h=>(D z h).1
 have o:(Txt.join (Str.ofString "") B).length=7:=by rw [zB0,f9 B D,T];rfl
 generalize Txt.join (Str.ofString "") B=d at n o ⊢
 refine ⟨_,rfl,m,rfl,by omega,by omega,λl I=>?_⟩
 have U:l ≠ p:=by
  obtain ⟨x,y,z,h⟩:=s2
  exact Ne.symm (zI h I)
 have na:H l=none:=k1.none (by simp [U]) (k2.none (by simp [U]) I)
 refine sO (by rw [sizeLine_eq];omega) (λi Y τ J=>∃ s k,τ=k :: [some (.str d),some (.str abc),some (.ref p),some (.int st)]/\Y=s.map V.str/\s.length=i/\(∀ z ∈ s,yR z)/\lR st s/\zE [l,p] H2 J/\Src J p/\J l=some (.lst Y)) ?_ ?_ ?_ ?_
 ·obtain ⟨x,y,z,h⟩:=s2
  exact ⟨[],none,rfl,rfl,rfl,(λz D=>by cases D),(λj z e=>by simp at e),zE.at (by simp),⟨x,y,z,by rw [zK (Ne.symm U)];exact h⟩,zC⟩
 ·rintro i Y τ J ⟨s,k,rfl,rfl,hl,_,_,_,_,h3⟩
  exact ⟨h3,by rw [zMJ];omega⟩
 ·rintro i Y τ J hi ⟨s,k,rfl,rfl,hl,h1,L,kp,⟨a2,O,c2,hs⟩,h3⟩
  refine ⟨_,rfl,_,rfl,p,a2,O,c2,8,rfl,hs,by decide,by decide,λv a3 c3 v0 v1=>⟨v,rfl,d,rfl,by rw [o,sizeLine_eq];decide,?_⟩⟩
  refine ⟨_,rfl,_,rfl,_,rfl,_,_,rfl,rfl,_,_,rfl,rfl,(by show (0:Int) < 26;decide),?_⟩
  have g0:0 <= (st + (0 + (i:Int))) % 26:=Int.emod_nonneg _ (by decide)
  have g1:(st + (0 + (i:Int))) % 26 < 26:=Int.emod_lt_of_pos _ (by decide)
  obtain ⟨M,u,r⟩:=uU (xs:=abc.cps.toList) g0 (show (st + (0 + (i:Int))) % 26 < ((26:Nat):Int) from g1)
  have e1:=Txt.slice_le d none (some v)
  refine ⟨_,_,M,rfl,rfl,by decide,u,_,_,rfl,rfl,by rw [sizeLine_eq];show _ + 1 <= _;omega,?_⟩
  refine ⟨by rw [zK U];exact h3,s ++ [Txt.slice d none (some v) ++ ⟨#[M]⟩],_,rfl,by simp,by simp [hl],?_,L.snoc (by rw [hl];exact r),(kp.trans (zE.at (by simp))).trans (zE.at (by simp)),⟨a3,O,c3,by rw [zK (Ne.symm U),zC]⟩,zC⟩
  intro z D
  rcases zM0.mp D with z1 | z1
  ·exact h1 z z1
  ·rw [zMM.mp z1]
   have el:(Txt.slice d none (some v) ++ (⟨#[M]⟩:Str)).length=(Txt.slice d none (some v)).length + 1:=by rw [pY];rfl
   exact ⟨zEG (zEO (c8 n _ _) (dM (zMN r))) (by omega) (by omega),by omega⟩
 ·rintro Y τ J ⟨s,k,rfl,rfl,hl,h1,L,kp,a5,h3⟩
  exact q l s J na h3 hl h1 (L.nodup (by omega)) ((k1.trans k2).trans (kp.drop I)) a5
end
noncomputable abbrev kN:Stmt:=top 20
noncomputable abbrev j4:Stmt:=top 21
noncomputable abbrev zDH:Stmt:=top 22
noncomputable abbrev sNb:Stmt:=top 28
noncomputable abbrev zAP:Stmt:=top 29
theorem qU (a:List Str):(a.map V.str).all xA=true:=by
 rw [List.all_map,List.all_eq_true];exact λ_ _=>rfl
theorem zBJ (h:o9 f=f.length):f.Nodup:=by
 have go:∀ val n,(vS val n).length=n->∀ i j,i < j->j < n->val i ≠ val j:=by
  intro val n
  induction n with
  | zero=>intro _ i j _ g;omega
  | succ n o=>
   intro d i j b g e
   rw [r9] at d
   have le:=pX val n
   have any:∀ m k a,a < m->val a=k->(vS val m).any (· == k)=true:=by
    intro m
    induction m with
    | zero=>intro k a p;omega
    | succ m q=>
     intro k a p l
     rw [o7]
     by_cases r:a=m
     ·subst r;rw [l];simp
     ·rw [q k a (by omega) l];rfl
   cases c:(vS val n).any (· == val n) with
   | true=>rw [c] at d;simp only [if_true] at d;omega
   | false=>
    rw [c] at d
    simp only [Bool.false_eq_true,if_false] at d
    by_cases s:j=n
    ·subst s
     rw [any j (val j) i b e] at c
     cases c
    ·exact o (by omega) i j b (by omega) e
 rw [List.nodup_iff_pairwise_ne,List.pairwise_iff_getElem]
 intro i j t g b e
 refine go (λi=>f.getD i Str.empty) f.length h i j b g ?_
 simp only [zMO,zMK t,zMK g,Option.getD_some]
 exact e
theorem c7 (a:List Str):decide (V.int ((o9 a:Nat):Int)=V.int (a.length:Int))=decide a.Nodup:=by
 by_cases h:a.Nodup
 ·rw [iR h];simp [h]
 ·rw [zMZ h]
  refine zMZ λe=>h (zBJ ?_)
  have:=V.int.inj e
  omega
noncomputable def yG (K:W.Frag) (H:Hp) (x:V):Prop:=(∃ T,yF K H x T)/\∀ z,x=.str z->z.length <= 1000
theorem yG.on (h:yG K H x) (k:zE [] H a):yG K a x:=⟨let ⟨T,p⟩:=h.1;⟨T,p.keep k⟩,h.2⟩
theorem o4 (h:xB x=true):∃ z,x=.str z/\vQ z=true:=by
 cases x with
 | str z=>exact ⟨z,rfl,h⟩
 | _=>cases h
theorem o0:∀ {vs:List V},vs.all xB=true->∃ a:List Str,vs=a.map V.str/\∀ z ∈ a,vQ z=true
 | [],_=>⟨[],rfl,λz b=>by cases b⟩
 | v :: vs,h=>by
  rw [List.all_cons,Bool.and_eq_true] at h
  obtain ⟨z,rfl,b⟩:=o4 h.1
  obtain ⟨a,rfl,c⟩:=o0 h.2
  refine ⟨z :: a,rfl,λy d=>?_⟩
  rcases List.mem_cons.mp d with e | e
  ·rw [e];exact b
  ·exact c y e
noncomputable def tG (x:V) (a:List Str):Bool:=xB x && inV x (a.map V.str)
section
variable {P:Program} {w:World} {K:W.Frag} {mg:Str->Option Value} {base:Heap} {C:Addr}
theorem zDD:zO NG NG (zG kN):=scm
theorem zHF:zO Nh Nh (zG j4):=scm
theorem zJ5:zO ["names"] ["names"] (zG zDH):=scm
theorem scNb:zO NO NO (zG sNb):=scm
theorem zKL:zO ND ND (zG zAP):=scm
noncomputable def lY (K:W.Frag):Sp:=λd H Q _=>∃ x T a b,d=[x,.ref a]/\yF K H x T/\(∀ z,x=.str z->z.length <= 1000)/\H a=some (.lst (b.map V.str))/\∀ c,zE [] H c->Q (.bl (tG x b)) c
theorem zHY (G:yM K mg SO kN NG) (j:Cal P w K mg base CX0 1 Su Nh (sD K)):Cal P w K mg base CX0 2 SO NG (lY K):=by
 refine G.oz zDD (λf k A c s H p Q E l h=>?_)
 obtain ⟨x,T,a,b,rfl,m,n,o,q⟩:=h
 have d:z6 1 _:=l
 refine ⟨_,(zF (zL (uF (zN j d (zA (pv 0) zB)) (uN (xC sL (pv 0) (pv 1) (by with_unfolding_all rfl)))))),?_⟩
 refine ⟨_,rfl,x,T,rfl,m,n,λi g=>⟨_,rfl,?_⟩⟩
 cases e:xB x with
 | false=>
  have:tG x b=false:=by unfold tG;rw [e];rfl
  rw [this] at q
  exact ifF rfl (q i g)
 | true=>
  cases x with
  | str z=>
   have:tG (.str z) b=inV (.str z) (b.map V.str):=by unfold tG;rw [e,Bool.true_and]
   rw [this] at q
   exact ifT rfl ⟨_,rfl,_,rfl,a,_,rfl,.inl (.of (g.z o)),rfl,qU b,q i g⟩
  | _=>cases e
noncomputable def fV (K:W.Frag) (H:Hp) (x:V) (vs:Option (List V)):Prop:=match vs with
 | some l=>∃ a,x=.ref a/\H a=some (.lst l)/\(∀ v ∈ l,yG K H v)/\l.length <= 500
 | none=>∃ T,yF K H x T/\T ≠ "list"
noncomputable def kX:Option (List V)->Bool
 | some l=>l.all xB
 | none=>false
noncomputable def a9 (K:W.Frag):Sp:=λb H Q _=>∃ x o,b=[x]/\fV K H x o/\∀ a,zE [] H a->Q (.bl (kX o)) a
theorem zIA (G:yM K mg "are_names" j4 Nh) (L:Cal P w K mg base CX0 1 Su Nh (sD K)) (b:Blt mg Sd) (d:Blt mg "list") (g:Blt mg "all"):Cal P w K mg base CX0 2 "are_names" Nh (a9 K):=by
 refine G.oz zHF (λf M A v s H vs Q E O h=>?_)
 obtain ⟨x,o,rfl,I,q⟩:=h
 have y:z6 1 _:=O
 refine ⟨_,(zF (zL (uF (zY yO b zT (zA (pv 0) (zA (vE d vR) zB))) (uN (zY (sG rfl) g nY (zA (vX (N:=Nh) (sc:=zG j4) (ix:=[]) (by decide +kernel) (xR (pv 0)) (λ_ _ _ _=>xQ) (λ_ _ _ _=>(zN L y (zA (pv 0) zB)))) zB)))))),?_⟩
 cases o with
 | none=>
  obtain ⟨T,n,U⟩:=I
  have e:(T == "list")=false:=by simpa using U
  exact ⟨_,rfl,_,_,_,false,rfl,n.ty,(e ▸ n.kit.2.2.2.1),_,rfl,ifF rfl (q H (zE.refl _))⟩
 | some l=>
  obtain ⟨a,rfl,t,Y,ll⟩:=I
  have n:yF K H (.ref a) "list":=.lst t
  refine ⟨_,rfl,_,_,_,_,rfl,n.ty,n.kit.2.2.2.1,_,rfl,ifT rfl ?_⟩
  refine ⟨_,rfl,a,rfl,⟨_,.of t⟩,λacc c=>?_⟩
  have aa:=zI t c
  refine uP (K:=K) (a:=a) (its:=l) (by rw [sizeLine_eq];omega) (λi p u r=>∃ k:Option V,u=[k]/\p=((l.take i).map xB).map V.bl/\i <= l.length/\zE [acc] H r/\r acc=some (.lst p)) ?_ ?_ ?_ ?_
  ·exact ⟨_,rfl,rfl,zMT _,zE.at (by simp),zC⟩
  ·rintro i p u r ⟨k,rfl,rfl,il,j,m⟩
   exact ⟨m,by simp;omega,.of (j _ _ (by simp [aa]) t)⟩
  ·rintro i p u r x B ⟨k,rfl,rfl,il,j,m⟩
   obtain ⟨⟨T,p1⟩,sz⟩:=Y x (zMN B)
   have D:=(zML.mp B).1
   refine ⟨_,rfl,x,T,rfl,p1.keep (j.drop c),sz,λH2 J=>⟨J.z m,_,rfl,?_,D,(j.trans (J.mono (by simp))).trans (zE.at (by simp)),zC⟩⟩
   rw [show l.take (i + 1)=l.take i ++ [x] by rw [List.take_add_one,B];rfl,zMV,zMV];rfl
  ·rintro p u r ⟨k,rfl,rfl,_,j,m⟩
   rw [zNJ] at m
   refine ⟨acc,l.map xB,rfl,.of m,?_⟩
   rw [show (l.map xB).all id=kX (some l) by rw [List.all_map];rfl]
   exact q _ (j.drop c)
noncomputable def zFL:Sp:=λd H Q _=>∃ (a:Addr) (b:List Str),d=[.ref a]/\H a=some (.lst (b.map V.str))/\b.length < 1000/\∀ c,zE [] H c->Q (.bl (decide b.Nodup)) c
theorem zKX (G:yM K mg "are_unlike" zDH ["names"]) (b:Blt mg Sc) (c:Blt mg "set"):Cal P w K mg base CX0 1 "are_unlike" ["names"] zFL:=by
 refine G.oz zJ5 (λf k A d s H m Q E n h=>?_)
 obtain ⟨a,e,rfl,g,i,q⟩:=h
 refine ⟨_,(zF (zL (xC y6 (zY i9 b yS (zA (xE (bX rfl) rfl c.no zIP (zA (pv 0) zB)) zB)) (zY z8 b yS (zA (pv 0) zB)) (zW _)))),?_⟩
 refine ⟨_,rfl,a,e,rfl,g,i,λp l=>⟨p,e,rfl,zC,i,?_⟩⟩
 have j:zE [] H (upd H p (zC8 P w p e)):=zE.new l
 refine ⟨_,rfl,_,_,rfl,.inl ⟨_,.of (j.z g),rfl⟩,rfl,?_⟩
 rw [zMJ,c7]
 exact q _ j
noncomputable def nbV (o:Option (List V)) (y:V):Bool:=match o with
 | some l=>l.all xB && decide l.Nodup && !inV y l
 | none=>false
theorem rB (a:List Str):decide (a.map V.str).Nodup=decide a.Nodup:=by
 have:(a.map V.str).Nodup ↔ a.Nodup:=by
  rw [List.nodup_iff_pairwise_ne,List.nodup_iff_pairwise_ne,List.pairwise_map]
  constructor
  ·exact λh=>h.imp λn e=>n (by rw [e])
  ·exact λh=>h.imp λn e=>n (V.str.inj e)
 by_cases h:a.Nodup
 ·rw [zMY h,zMY (this.mpr h)]
 ·rw [zMZ h,zMZ (λe=>h (this.mp e))]
noncomputable def zJM (K:W.Frag):Sp:=λb H Q _=>∃ x o y,b=[x,.str y]/\fV K H x o/\∀ a,zE [] H a->Q (.bl (nbV o (.str y))) a
theorem okNb (G:yM K mg T7 sNb NO) (i:Cal P w K mg base CX0 2 "are_names" Nh (a9 K)) (j:Cal P w K mg base CX0 1 "are_unlike" ["names"] zFL):Cal P w K mg base CX0 3 T7 NO (zJM K):=by
 refine G.oz scNb (λf I A k s H N Q E t h=>?_)
 obtain ⟨x,o,y,rfl,u,q⟩:=h
 have m:z6 2 _:=t
 have n:z6 1 _:=t.mono (by decide)
 refine ⟨_,(zF (zL (uF (zN i m (zA (pv 0) zB)) (uF (zN j n (zA (pv 0) zB)) (uN (xC tS (pv 1) (pv 0) (by with_unfolding_all rfl))))))),?_⟩
 refine ⟨_,rfl,x,o,rfl,u,λv g=>⟨_,rfl,?_⟩⟩
 cases o with
 | none=>exact ifF rfl (q v g)
 | some l=>
  obtain ⟨a,rfl,B,O,J⟩:=u
  cases d:l.all xB with
  | false=>
   have e:nbV (some l) (.str y)=false:=by show (l.all xB && decide l.Nodup && !inV (V.str y) l)=false;rw [d];rfl
   rw [e] at q
   have p:kX (some l)=false:=d
   rw [p]
   exact ifF rfl (q v g)
  | true=>
   obtain ⟨b,rfl,L⟩:=o0 d
   have p:kX (some (b.map V.str))=true:=d
   rw [p]
   refine ifT rfl ?_
   have r:=g.z B
   rw [zMJ] at J
   refine ⟨_,rfl,a,b,rfl,r,by omega,λD M=>⟨_,rfl,?_⟩⟩
   have c:=g.trans M
   cases hd:decide b.Nodup with
   | false=>
    have e:nbV (some (b.map V.str)) (.str y)=false:=by show ((b.map V.str).all xB && decide (b.map V.str).Nodup && !inV (V.str y) (b.map V.str))=false;rw [d,rB,hd];rfl
    rw [e] at q
    exact ifF rfl (q D c)
   | true=>
    have e:nbV (some (b.map V.str)) (.str y) = !inV (.str y) (b.map V.str):=by show ((b.map V.str).all xB && decide (b.map V.str).Nodup && !inV (V.str y) (b.map V.str))=_;rw [d,rB,hd];rfl
    rw [e] at q
    exact ifT rfl ⟨_,rfl,_,rfl,a,_,rfl,.inl (.of (c.z B)),rfl,qU b,q D c⟩
noncomputable def qX (a:List Str) (x:V):Bool:=decide (x=.non) || tG x a
noncomputable def zMA (a:List Str):Option (List V)->Bool
 | some l=>decide (l ≠ []) && l.all (qX a)
 | none=>false
noncomputable def zFZ (K:W.Frag):Sp:=λd H Q _=>∃ x o b a,d=[x,.ref b]/\fV K H x o/\H b=some (.lst (a.map V.str))/\∀ c,zE [] H c->Q (.bl (zMA a o)) c
theorem zLJ (G:yM K mg "are_arrows" zAP ND) (L:Cal P w K mg base CX0 2 SO NG (lY K)) (c:Blt mg Sd) (j:Blt mg "list") (n:Blt mg Sc) (p:Blt mg "all"):Cal P w K mg base CX0 3 "are_arrows" ND (zFZ K):=by
 refine G.oz zKL (λf a0 A M s H vs Q E hr h=>?_)
 obtain ⟨x,o,b,g,rfl,Y,hb,q⟩:=h
 have O:z6 2 _:=hr
 refine ⟨_,(zD (z5 (PW.pt (rS (y9 (y3 (zY yO c zT (zA (pv 0) (zA (vE j vR) zB))))) (tP (zQ y6 (zY z8 n yS (zA (pv 0) zB)) zH (zW _))))) (zF (zL wH)) zM)
   (zF (zL (zY (sG rfl) p nY (zA (vX (N:=ND) (sc:=zG zAP) (ix:=[1]) (by decide +kernel) (xR (pv 0)) (λ_ _ _ _=>xQ) (λ_ _ _ _=>(zKT (xC uO (pv 0) yV (zW _)) (uN (zN L O (zA (pv 0) (zA (pv 1) zB))))))) zB))))),?_⟩
 cases o with
 | none=>
  obtain ⟨T,t,nT⟩:=Y
  have e:(T == "list")=false:=by simpa using nT
  exact ⟨_,rfl,_,_,_,false,rfl,t.ty,(e ▸ t.kit.2.2.2.1),_,rfl,ifT rfl (q H (zE.refl _))⟩
 | some l=>
  obtain ⟨a,rfl,u,pl,ll⟩:=Y
  have t:yF K H (.ref a) "list":=.lst u
  refine ⟨_,rfl,_,_,_,true,rfl,t.ty,t.kit.2.2.2.1,_,rfl,ifF rfl ?_⟩
  refine ⟨_,rfl,_,_,rfl,.inl ⟨_,.of u,rfl⟩,rfl,_,rfl,?_⟩
  cases D:l with
  | nil=>
   subst D
   exact ifT rfl (q H (zE.refl _))
  | cons v0 l0=>
  rw [<- D]
  refine ifF (by rw [D];simp;omega) ?_
  refine ⟨_,rfl,a,rfl,⟨_,.of u⟩,λacc d=>?_⟩
  have aa:=zI u d
  refine uP (K:=K) (a:=a) (its:=l) (by rw [sizeLine_eq];omega) (λi v I y=>∃ k:Option V,I=[k,some (.ref b)]/\v=((l.take i).map (qX g)).map V.bl/\i <= l.length/\zE [acc] H y/\y acc=some (.lst v)) ?_ ?_ ?_ ?_
  ·exact ⟨_,rfl,rfl,zMT _,zE.at (by simp),zC⟩
  ·rintro i v I y ⟨k,rfl,rfl,il,m,r⟩
   exact ⟨r,by simp;omega,.of (m _ _ (by simp [aa]) u)⟩
  ·rintro i v I y x U ⟨k,rfl,rfl,il,m,r⟩
   obtain ⟨⟨T,p1⟩,sz⟩:=pl x (zMN U)
   have B:=(zML.mp U).1
   have et:l.take (i + 1)=l.take i ++ [x]:=by rw [List.take_add_one,U];rfl
   refine ⟨_,rfl,rfl,_,rfl,?_⟩
   by_cases J:x=.non
   ·refine ifT (by rw [J];rfl) ⟨r,_,rfl,?_,B,m.trans (zE.at (by simp)),zC⟩
    rw [et,zMV,zMV]
    have:qX g x=true:=by unfold qX;rw [zMY J];rfl
    show _=_ ++ [V.bl (qX g x)]
    rw [this]
   ·refine ifF (by simp [J]) ?_
    refine ⟨_,rfl,_,rfl,x,T,b,g,rfl,p1.keep (m.drop d),sz,(m.drop d).z hb,λH2 k2=>⟨k2.z r,_,rfl,?_,B,(m.trans (k2.mono (by simp))).trans (zE.at (by simp)),zC⟩⟩
    rw [et,zMV,zMV]
    have:qX g x=tG x g:=by unfold qX;rw [zMZ J];rfl
    show _=_ ++ [V.bl (qX g x)]
    rw [this]
  ·rintro v I y ⟨k,rfl,rfl,_,m,r⟩
   rw [zNJ] at r
   refine ⟨acc,l.map (qX g),rfl,.of r,?_⟩
   have e:zMA g (some l)=(l.map (qX g)).all id:=by
    show (decide (l ≠ []) && l.all (qX g))=_
    rw [zMY (by rw [D];simp),List.all_map];rfl
   rw [<- e]
   exact q _ (m.drop d)
end
noncomputable abbrev sHI:Stmt:=yX (top 32) 0
noncomputable def hfl (nm:V) (nl a:Addr):List (Str × V):=[(SH,nm),(SF,.ref nl),("seats",.ref a)]
theorem hn1:¬ ((SH : Str)=SF):=by decide +kernel
theorem hn2:¬ ((SH : Str)="seats"):=by decide +kernel
theorem hn3:¬ ((SF : Str)="seats"):=by decide +kernel
theorem hput (nm:V) (nl a:Addr):wJ "seats" (.ref a) (wJ SF (.ref nl) (wJ SH nm []))=hfl nm nl a:=by
 unfold hfl
 simp only [wJ,if_neg hn1,if_neg hn2,if_neg hn3]
structure xK (K:W.Frag) (C:Addr):Prop where
 cl:Cls K C
 nN:vZ K C SH
 nB:vZ K C SF
 nS:vZ K C "seats"
theorem yE.keepS (A:yE C H p a s) (k:zE S H c) (d:p ∉ S) (f:a ∉ S) (g:∀ b ∈ S,∀ xs,H b ≠ some (.tup xs)):yE C c p a s:=by
 obtain ⟨⟨i,h⟩,⟨j,e,r⟩,l⟩:=A
 exact ⟨⟨i,k _ _ d h⟩,⟨j,k _ _ f e,zP k g r⟩,l⟩
noncomputable def Dis (nl c:Addr) (xs:List (Addr × Addr)):Prop:=(∀ x ∈ xs,x.2 ≠ nl/\x.2 ≠ c)/\xs.Pairwise λa b=>a.1 ≠ b.1/\a.2 ≠ b.2
noncomputable def z7 (B:Addr->Prop) (C CS:Addr) (H:Hp) (p:Addr) (nm:Str) (b:List Str) (xs:List (Addr × Addr)) (ss:List SS):Prop:=∃ (c nl a:Addr),(B nl/\B a/\(∀ x ∈ xs,B x.1/\B x.2)/\Dis nl a xs) /\
 H p=some (.ins C c (hfl (.str nm) nl a))/\H nl=some (.lst (b.map V.str))/\H a=some (.lst (xs.map λx=>V.ref x.1))/\xs.length=ss.length/\∀ (i:Nat) (x:Addr × Addr) (s:SS),xs[i]?=some x->ss[i]?=some s->yE CS H x.1 x.2 s
theorem z7.on (h:z7 B C CS H p nm a xs ss) (k:zE [] H c):z7 B C CS c p nm a xs ss:=by
 obtain ⟨d,nl,e,b,f,g,j,l,m⟩:=h
 exact ⟨d,nl,e,b,k.z f,k.z g,k.z j,l,λi x s n o=>(m i x s n o).keep k⟩
theorem z7.keep (h:z7 B C CS H p nm m xs ss) (k:zE S H n) (c:∀ b ∈ S,b ≠ p/\¬ B b/\∀ ys,H b ≠ some (.tup ys)):z7 B C CS n p nm m xs ss:=by
 obtain ⟨o,nl,q,⟨j,l,d,r⟩,t,v,w,y,z⟩:=h
 have a:∀ {u:Addr},B u->u ∉ S:=λ{u} e f=>(c u f).2.1 e
 exact ⟨o,nl,q,⟨j,l,d,r⟩,k _ _ (λf=>(c p f).1 rfl) t,k _ _ (a j) v,k _ _ (a l) w,y,λi x s g A=>(z i x s g A).keepS k (a (d x (zMN g)).1) (a (d x (zMN g)).2) λb e=>(c b e).2.2⟩
noncomputable def xI (b:List (Option Str)):List SS:=b.map λa=>⟨a,[],none,false⟩
section
variable {P:Program} {w:World} {K:W.Frag} {mg:Str->Option Value} {base:Heap} {C CS:Addr}
theorem scHI:zO Nv Nv (zG sHI):=scm
noncomputable def zG5 (K:W.Frag) (C CS:Addr):Sp:=λf H Q _=>∃ p g a b nm d c,f=[.ref p,.str nm,.ref a,.ref b]/\H p=some (.ins C g [])/\H a=some (.lst (d.map V.str))/\H b=some (.lst (c.map yD))/\yR nm/\(∀ z ∈ d,yR z)/\d.Nodup/\nm ∉ d/\d.length <= 100/\c ≠ []/\c.length <= 100/\(∀ z,some z ∈ c->z ∈ d) /\
 ∀ h e,z7 (λu=>H u=none) C CS e p nm d h (xI c)->zE [p] H e->Q .non e
theorem okHI (T:xK K C) (G:Fun K "__init__" "House.__init__" sHI fI fd) (CI:Cal P w K mg base CX0 1 Su Nh (sD K)) (ao:Cal P w K mg base CX0 3 T7 NO (zJM K)) (aq:Cal P w K mg base CX0 3 "are_arrows" ND (zFZ K)) (au:h9 P w K mg base CX0 2 CS "Seat" NN (gH CS)) (L:Blt mg "list") :
  tJ P w K mg base CX0 4 fI fd Nv (zG5 K C CS):=by
 refine G.oz scHI (λbe A av s0 H vs Q E hr h=>?_)
 obtain ⟨p,l,a,b,nm,n,c,rfl,hp,ha,t,gn,gb,nd,aw,lb,ax,bf,D,q⟩:=h
 have a0:z6 3 _:=hr
 have ay:z6 1 _:=hr.mono (by decide)
 refine ⟨_,(zD (z5 (y9 (y3 (zN CI ay (zA (pv 1) zB)))) (zF xH) zM)
   (zD (z5 (y9 (y3 (zN ao a0 (zA (pv 2) (zA (pv 1) zB))))) (zF xH) zM)
   (zD (z5 (y9 (y3 (zN aq a0 (zA (pv 3) (zA (pv 2) zB))))) (zF xH) zM)
   (zD (vL (pv 0) (pv 1) rfl)
   (zD (vL (pv 0) (xE uI rfl L.no vR (zA (pv 2) zB)) rfl)
   (zF (vL (pv 0) (vX (N:=Nv) (sc:=zG sHI) (ix:=[]) (by decide +kernel) (xR (pv 3)) (λ_ _ _ _=>xQ) (λ_ _ _ _=>(zF9 au a0 (zA (pv 0) zB)))) rfl))))))),?_⟩
 refine sq λN M=>?_
 refine ⟨_,rfl,.str nm,"str",rfl,.str nm,(λz e=>by cases e;exact zMU gn.2 (by decide)),λH1 k1=>⟨_,rfl,ifF (by rw [show xB (.str nm)=true from gn.1];rfl) ?_⟩⟩
 have az:∀ (zs:List Str) (H:Hp),(∀ z ∈ zs,yR z)->∀ v ∈ zs.map V.str,yG K H v:=λzs H g v hv=>by
  obtain ⟨z,hz,rfl⟩:=List.mem_map.mp hv
  exact ⟨⟨_,.str z⟩,λy e=>by cases e;exact zMU (g z hz).2 (by decide)⟩
 refine M _ _ (sq λN M=>?_)
 refine ⟨_,rfl,_,rfl,.ref a,some (n.map V.str),nm,rfl,⟨a,rfl,k1.z ha,az n H1 gb,by rw [zMJ];omega⟩,λH2 k2=>⟨_,rfl,ifF ?_ ?_⟩⟩
 ·have e1:(n.map V.str).all xB=true:=by
   rw [List.all_map,List.all_eq_true]
   exact λz hz=>(gb z hz).1
  have e2:inV (.str nm) (n.map V.str)=false:=by
   unfold inV
   rw [List.any_map,List.any_eq_false]
   intro z hz e
   have:z=nm:=eq_of_beq (show (z == nm)=true from e)
   exact aw (this ▸ hz)
  show (!((n.map V.str).all xB && decide (n.map V.str).Nodup && !inV (V.str nm) (n.map V.str)))=false
  rw [e1,rB,zMY nd,e2];rfl
 have a1:=k1.trans k2
 refine M _ _ (sq λN M=>?_)
 refine ⟨_,rfl,_,rfl,.ref b,some (c.map yD),a,n,rfl,⟨b,rfl,a1.z t,?_,by rw [zMJ];omega⟩,a1.z ha,λH3 k3=>⟨_,rfl,ifF ?_ ?_⟩⟩
 ·intro v hv
  obtain ⟨o,ho,rfl⟩:=List.mem_map.mp hv
  cases o with
  | none=>exact ⟨⟨_,.non⟩,λy e=>by cases e⟩
  | some z=>exact ⟨⟨_,.str z⟩,λy e=>by cases e;exact zMU (gb z (D z ho)).2 (by decide)⟩
 ·have e1:(c.map yD).all (qX n)=true:=by
   rw [List.all_map,List.all_eq_true]
   intro o ho
   cases o with
   | none=>rfl
   | some z=>
    have m:=D z ho
    show (decide (V.str z=.non) || (xB (.str z) && inV (.str z) (n.map V.str)))=true
    have e2:inV (.str z) (n.map V.str)=true:=by
     unfold inV
     rw [List.any_map,List.any_eq_true]
     exact ⟨z,m,by show (z == z)=true;simp⟩
    rw [e2,show xB (.str z)=true from (gb z m).1];simp
  show (!(decide (c.map yD ≠ []) && (c.map yD).all (qX n)))=false
  rw [e1,zMY (by simpa using ax)];rfl
 have ag:=a1.trans k3
 have b0:=ag.z hp
 refine M _ _ (sq λN M=>?_)
 refine ⟨_,rfl,_,rfl,p,C,l,_,rfl,b0,T.cl,T.nN,by show 0 < 1000;decide,?_⟩
 generalize ah:upd H3 p (.ins C l (wJ SH (.str nm) []))=H4
 have k4:zE [p] H H4:=by rw [<- ah];exact (ag.mono (by simp)).trans (zE.at (by simp))
 have ai:H4 p=some (.ins C l (wJ SH (.str nm) [])):=by rw [<- ah];exact zC
 have ap:a ≠ p:=λe=>by rw [e,hp] at ha;cases ha
 have bp:b ≠ p:=λe=>by rw [e,hp] at t;cases t
 refine M _ _ (sq λN M=>?_)
 refine ⟨_,rfl,a,_,rfl,.inl (.of (k4 _ _ (by simp [ap]) ha)),λnl a2=>?_⟩
 have O:p ≠ nl:=zI ai a2
 refine ⟨_,rfl,p,C,l,_,rfl,by rw [zK O];exact ai,T.cl,T.nB,by show 1 < 1000;decide,?_⟩
 generalize a3:upd (upd H4 nl (.lst (n.map V.str))) p (.ins C l (wJ SF (.ref nl) (wJ SH (.str nm) [])))=H5
 have k5:zE [p] H4 H5:=by rw [<- a3];exact (zE.new a2).trans (zE.at (by simp))
 have a4:H5 p=some (.ins C l (wJ SF (.ref nl) (wJ SH (.str nm) []))):=by rw [<- a3];exact zC
 have a5:H5 nl=some (.lst (n.map V.str)):=by rw [<- a3,zK O.symm];exact zC
 have a6:=k4.trans k5
 have b1:H nl=none:=k4.none (by simp [O.symm]) a2
 have aa:=a6 _ _ (by simp [bp]) t
 refine M _ _ ?_
 refine ⟨_,rfl,b,rfl,⟨_,.of aa⟩,λd I=>?_⟩
 have b2:b ≠ d:=zI aa I
 have aj:p ≠ d:=zI a4 I
 have ak:nl ≠ d:=zI a5 I
 refine uP (K:=K) (a:=b) (its:=c.map yD) (by rw [zMJ,sizeLine_eq];omega) (λi ys τ r=>∃ (B:List (Addr × Addr)) (kk:Option V),τ=[kk]/\ys=B.map (λp=>V.ref p.1)/\B.length=i/\(∀ (j:Nat) (x:Addr × Addr),B[j]?=some x->yE CS r x.1 x.2 ⟨c.getD j none,[],none,false⟩) /\
  (∀ x ∈ B,H5 x.1=none/\H5 x.2=none/\x.1 ≠ d/\x.2 ≠ d)/\(B.Pairwise λa b=>a.1 ≠ b.1/\a.2 ≠ b.2)/\zE [d] H5 r/\r d=some (.lst ys)) ?_ ?_ ?_ ?_
 ·exact ⟨[],none,rfl,rfl,rfl,(λj p e=>by cases e),(λp hp=>by cases hp),.nil,zE.at (by simp),zC⟩
 ·rintro i ys τ r ⟨B,kk,rfl,rfl,hl,_,_,_,U,h6⟩
  exact ⟨h6,by rw [zMJ];omega,.of (U _ _ (by simp [b2]) aa)⟩
 ·rintro i ys τ r x k ⟨B,kk,rfl,rfl,hl,Y,f,ab,U,h6⟩
  obtain ⟨ar,ei,rfl⟩:=gm k
  have eg:c.getD i none=ar:=by rw [zMO,ei];rfl
  refine ⟨_,rfl,λx l k b3 b4=>⟨x,l,ar,rfl,zC,(λz e=>by have g:=gb z (D z (by rw [<- e];exact zMN ei));exact ⟨g.1,zMU g.2 (by decide)⟩),λwl H7 ba S7 k7=>⟨rfl,?_⟩⟩⟩
  have ac:zE [] r H7:=((zE.new b3).trans (zE.new (by rw [zK (Ne.symm b4)];exact k))).under k7 (by intro b t;rw [zMM.mp t];exact k)
  have J:r wl=none:=(zU (zU ba).1).1
  have al:=ac.z h6
  have ae:x ≠ d:=Ne.symm (zI h6 k)
  have af:wl ≠ d:=Ne.symm (zI h6 J)
  have nt:∀ b ∈ [d],∀ xs,H7 b ≠ some (.tup xs):=λb t xs z=>by rw [zMM.mp t,al] at z;cases z
  refine ⟨al,B ++ [(x,wl)],_,rfl,by simp,by simp [hl],?_,?_,?_,(U.trans (ac.mono (by simp))).trans (zE.at (by simp)),zC⟩
  ·intro j x' hj
   have kl:zE [d] H7 (upd H7 d (.lst (List.map (λp=>V.ref p.1) B ++ [V.ref x]))):=zE.at (by simp)
   by_cases bb:j < B.length
   ·rw [zM7 bb] at hj
    obtain ⟨_,_,f1,f2⟩:=f x' (zMN hj)
    exact ((Y j x' hj).keep ac).keepS kl (by simpa using f1) (by simpa using f2) nt
   ·rw [zM6 (by omega)] at hj
    have ej:j=i:=by
     have:=(zML.mp hj).1
     simp at this;omega
    subst ej
    rw [hl,Nat.sub_self] at hj
    cases hj
    rw [eg]
    exact S7.keepS kl (by simpa using ae) (by simpa using af) nt
  ·intro x' bc
   rcases zM0.mp bc with h | h
   ·exact f x' h
   ·rw [zMM.mp h]
    exact ⟨U.none (by simpa using ae) k,U.none (by simpa using af) J,ae,af⟩
  ·refine List.pairwise_append.mpr ⟨ab,List.pairwise_singleton _ _,λa ha b t=>?_⟩
   rw [zMM.mp t]
   obtain ⟨j,hj,ej⟩:=List.getElem_of_mem ha
   have sj:=Y j a (by rw [zMK hj,ej])
   obtain ⟨⟨dj,oj⟩,⟨qj,wj,_⟩,_⟩:=sj
   exact ⟨zI oj k,zI wj J⟩
 rintro ys τ r ⟨B,kk,rfl,rfl,hl,Y,f,ab,U,h6⟩
 rw [zMJ] at hl
 have an:=U _ _ (by simp [aj]) a4
 refine ⟨_,rfl,p,C,l,_,rfl,an,T.cl,T.nS,by show 2 < 1000;decide,?_⟩
 rw [hput]
 have k7:zE [p] r (upd r p (.ins C l (hfl (.str nm) nl d))):=zE.at (by simp)
 have e7:upd r p (.ins C l (hfl (.str nm) nl d)) p=some (.ins C l (hfl (.str nm) nl d)):=zC
 generalize upd r p (.ins C l (hfl (.str nm) nl d))=H7 at k7 e7
 have H0:∀ {u:Addr},H5 u=none->H u=none/\u ≠ p:=λ{u} hu=>by
  have un:u ≠ p:=λe=>by rw [e,a4] at hu;cases hu
  exact ⟨a6.none (by simp [un]) hu,un⟩
 have bd:∀ b ∈ [p],∀ xs,r b ≠ some (.tup xs):=λb t xs z=>by rw [zMM.mp t,an] at z;cases z
 refine q B H7 ⟨l,nl,d,⟨b1,(H0 I).1,λx k=>⟨(H0 (f x k).1).1,(H0 (f x k).2.1).1⟩,⟨λx k=>⟨Ne.symm (zI a5 (f x k).2.1),(f x k).2.2.2⟩,ab⟩⟩,e7,k7 _ _ (by simp [O.symm]) (U _ _ (by simp [ak]) a5),k7 _ _ (by simp [aj.symm]) h6,by unfold xI;rw [zMJ];exact hl,λi x s e1 e2=>?_⟩ ?_
 ·unfold xI at e2
  obtain ⟨ar,ei,rfl⟩:=gm e2
  have eg:c.getD i none=ar:=by rw [zMO,ei];rfl
  have sa:=Y i x e1
  rw [eg] at sa
  have k:=f x (zMN e1)
  exact sa.keepS k7 (by simpa using (H0 k.1).2) (by simpa using (H0 k.2.1).2) bd
 ·exact (a6.trans ((U.drop I).mono (by simp))).trans k7
end
noncomputable abbrev sWh:Stmt:=top 19
noncomputable abbrev sCk:Stmt:=top 30
noncomputable abbrev sSA:Stmt:=yX (top 26) 5
noncomputable abbrev zDO:Stmt:=yX (top 32) 7
noncomputable abbrev zDL:Stmt:=yX (top 32) 8
noncomputable abbrev zDM:Stmt:=yX (top 32) 9
noncomputable abbrev zDN:Stmt:=yX (top 32) 10
noncomputable abbrev zAM:Stmt:=yX (top 32) 6
theorem wT (nm:V) (nl a:Addr):(hfl nm nl a).lookup ("seats" : Str)=some (.ref a):=rfl
theorem iA (a:PE X l b) (e:X.K=K:=by rfl):PI X c l (zGF K b):=e ▸ xR a
theorem zGN (a:V) (b:Addr) (h:V) (k:Bool):(xO a b h k).lookup (Sn : Str)=none:=rfl
theorem zL0 (a:V) (b:Addr) (h:V) (k:Bool):(xO a b h k).lookup (SI : Str)=none:=rfl
theorem zL3 (a:V) (b:Addr) (h:V) (k:Bool):(xO a b h k).lookup (Sk : Str)=none:=rfl
theorem zL7 (a:V) (b:Addr) (h:V) (k:Bool):(xO a b h k).lookup (Sq : Str)=none:=rfl
theorem zL8 (a:V) (b:Addr) (h:V) (k:Bool):(xO a b h k).lookup (Sz : Str)=none:=rfl
noncomputable def zIU (r:Str × Bool):List V:=[.str r.1,.bl r.2]
noncomputable def uD (s:SS):List (Str × Bool):=(match s.hold with | some z=>[(z,false)] | none=>[]) ++ ((s.row.filter λr=>decide (r.1=(NV : Str))).map λr=>(r.2,true))
theorem xZ {l:List (Addr × Addr)} {i:Nat} {x:Addr × Addr} (h:l[i]?=some x):atI (l.map λx=>V.ref x.1) (i:Int)=some (.ref x.1):=by
 have ol:=(zML.mp h).1
 obtain ⟨v,b,a⟩:=uU (xs:=l.map λx=>V.ref x.1) (i:=(i:Int)) (by omega) (by rw [zMJ];omega)
 rw [b]
 rw [Int.toNat_natCast,zMP,h] at a
 exact a.symm
section
variable {P:Program} {w:World} {K:W.Frag} {mg:Str->Option Value} {base:Heap} {C CS:Addr}
theorem zJ3:zO Nh Nh (zG sWh):=scm
theorem zKJ:zO Ni Ni (zG sCk):=scm
theorem zJ7:zO ["self",Si] N5 (zG sSA):=scm
theorem zKI:zO Na Na (zG zDO):=scm
theorem zKC:zO Na Na (zG zDL):=scm
theorem zKE:zO Na Na (zG zDM):=scm
theorem zKF:zO Na Na (zG zDN):=scm
theorem zKH:zO N5 N5 (zG zAM):=scm
noncomputable def zJD:Sp:=λa H Q _=>∃ i:Int,a=[.int i]/\Q (.bl true) H
theorem okWh (G:yM K mg SJ sWh Nh) (a:Blt mg Sd) (c:Blt mg "int") (b:Blt mg "bool"):Cal P w K mg base CX0 1 SJ Nh zJD:=by
 refine G.oz zJ3 (λf g A e s H j Q E k h=>?_)
 obtain ⟨i,rfl,q⟩:=h
 refine ⟨_,(zF (zL (uF (zY yO a zT (zA (pv 0) (zA (vE c tX) zB))) (uN (gX (zY yO a zT (zA (pv 0) (zA (vE b u5) zB)))))))),?_⟩
 have d:yF K H (.int i) "int":=.int i
 exact ⟨_,rfl,_,_,_,true,rfl,d.ty,d.kit.2.1,_,rfl,ifT rfl ⟨_,rfl,_,_,_,false,rfl,d.ty,d.kit.2.2.1,_,rfl,q⟩⟩
noncomputable def gI:Sp:=λa H Q _=>∃ i n:Int,a=[.int i,.int n]/\0 <= i/\i < n/\Q .non H
theorem okCk (G:yM K mg S9 sCk Ni) (c:Cal P w K mg base CX0 1 SJ Nh zJD):Cal P w K mg base CX0 2 S9 Ni gI:=by
 refine G.oz zKJ (λf d A a s H k Q E e h=>?_)
 obtain ⟨i,n,rfl,g,j,q⟩:=h
 have b:z6 1 _:=e
 refine ⟨_,(zF (z5 (PW.pt (rS (y9 (y3 (zN c b (zA (pv 0) zB)))) (tP (y9 (oR oX iD zH (pv 0) (pv 1)))))) (zF xH) zM)),?_⟩
 refine ⟨_,rfl,i,rfl,_,rfl,ifF rfl ?_⟩
 refine ⟨_,rfl,_,_,rfl,rfl,_,rfl,ifT (zMY g) ⟨_,rfl,_,_,rfl,rfl,_,rfl,ifF ?_ q⟩⟩
 rw [zMY j];rfl
noncomputable def zFW (C CS:Addr):Sp:=λb H Q _=>∃ (B:Addr->Prop) (p:Addr) (i:Nat) (nm:Str) (c:List Str) (d:List (Addr × Addr)) (a:List SS) (s:SS),b=[.ref p,.int i]/\z7 B C CS H p nm c d a/\a[i]?=some s/\Q (yD s.ptr) H
theorem zLE (T:xK K C) (TS:xM K CS) (G:yW K C Sn "House.arrow" zDO Na) (v:Cal P w K mg base CX0 2 S9 Ni gI) (y:yI P w K mg base CX0 1 CS Sn N5 (kD CS)) (a:Blt mg Sc):yI P w K mg base CX0 3 C Sn Na (zFW C CS):=by
 refine G.oz zKI (λf z A c L H M Q E n h=>?_)
 obtain ⟨B,p,i,nm,N,o,O,s,rfl,⟨r,nl,D,_,t,I,b,d,e⟩,u,q⟩:=h
 have g:z6 2 _:=n
 have j:z6 1 _:=n.mono (by decide)
 have J:i < o.length:=by rw [d];exact (zML.mp u).1
 have k:=zMK J
 generalize o[i]=x at k
 have S:=e i x s k u
 obtain ⟨l,m⟩:=S.ob
 refine ⟨_,(zD (yA (zN v g (zA (pv 1) (zA (zY z8 a yS (zA (yB (pv 0) rfl) zB)) zB))))
   (zF (zL (xL y TS.cl j (zS zV (yB (pv 0) rfl) (pv 1) (λ_ _=>rfl)))))),?_⟩
 refine ⟨_,rfl,_,rfl,p,C,r,_,_,rfl,t,T.cl,T.nS,wT _ _ _,_,_,rfl,.inl ⟨_,.of b,rfl⟩,_,_,rfl,by omega,by rw [zMJ];omega,?_⟩
 exact ⟨_,rfl,p,C,r,_,_,rfl,t,T.cl,T.nS,wT _ _ _,_,rfl,D,_,i,_,rfl,rfl,b,xZ k,x.1,l,_,rfl,m,zGN _ _ _ _,x.1,x.2,s,rfl,S,q⟩
noncomputable def zFR (C CS:Addr):Sp:=λc H Q _=>∃ (B:Addr->Prop) (p:Addr) (i:Nat) (nm:Str) (d:List Str) (e:List (Addr × Addr)) (b:List SS) (s:SS),c=[.ref p,.int i]/\z7 B C CS H p nm d e b/\b[i]?=some s/\∀ (r:Addr) (a:Hp),H r=none->Rows a r (s.row.map yY)->zE [] H a->Q (.ref r) a
theorem zK6 (T:xK K C) (TS:xM K CS) (G:yW K C SI "House.row" zDL Na) (v:Cal P w K mg base CX0 2 S9 Ni gI) (y:yI P w K mg base CX0 1 CS SI N5 (zFM CS)) (a:Blt mg Sc):yI P w K mg base CX0 3 C SI Na (zFR C CS):=by
 refine G.oz zKC (λf z A c L H M Q E n h=>?_)
 obtain ⟨B,p,i,nm,N,o,O,s,rfl,⟨r,nl,D,_,t,I,b,d,e⟩,u,q⟩:=h
 have g:z6 2 _:=n
 have j:z6 1 _:=n.mono (by decide)
 have J:i < o.length:=by rw [d];exact (zML.mp u).1
 have k:=zMK J
 generalize o[i]=x at k
 have S:=e i x s k u
 obtain ⟨l,m⟩:=S.ob
 refine ⟨_,(zD (yA (zN v g (zA (pv 1) (zA (zY z8 a yS (zA (yB (pv 0) rfl) zB)) zB))))
   (zF (zL (xL y TS.cl j (zS zV (yB (pv 0) rfl) (pv 1) (λ_ _=>rfl)))))),?_⟩
 refine ⟨_,rfl,_,rfl,p,C,r,_,_,rfl,t,T.cl,T.nS,wT _ _ _,_,_,rfl,.inl ⟨_,.of b,rfl⟩,_,_,rfl,by omega,by rw [zMJ];omega,?_⟩
 exact ⟨_,rfl,p,C,r,_,_,rfl,t,T.cl,T.nS,wT _ _ _,_,rfl,D,_,i,_,rfl,rfl,b,xZ k,x.1,l,_,rfl,m,zL0 _ _ _ _,x.1,x.2,s,rfl,S,q⟩
noncomputable def zFT (C CS:Addr):Sp:=λb H Q _=>∃ (B:Addr->Prop) (p:Addr) (i:Nat) (nm:Str) (c:List Str) (d:List (Addr × Addr)) (a:List SS) (s:SS),b=[.ref p,.int i]/\z7 B C CS H p nm c d a/\a[i]?=some s/\Q (yD s.hold) H
theorem zK9 (T:xK K C) (TS:xM K CS) (G:yW K C Sk "House.inside" zDM Na) (v:Cal P w K mg base CX0 2 S9 Ni gI) (y:yI P w K mg base CX0 1 CS Sk N5 (jS CS)) (a:Blt mg Sc):yI P w K mg base CX0 3 C Sk Na (zFT C CS):=by
 refine G.oz zKE (λf z A c L H M Q E n h=>?_)
 obtain ⟨B,p,i,nm,N,o,O,s,rfl,⟨r,nl,D,_,t,I,b,d,e⟩,u,q⟩:=h
 have g:z6 2 _:=n
 have j:z6 1 _:=n.mono (by decide)
 have J:i < o.length:=by rw [d];exact (zML.mp u).1
 have k:=zMK J
 generalize o[i]=x at k
 have S:=e i x s k u
 obtain ⟨l,m⟩:=S.ob
 refine ⟨_,(zD (yA (zN v g (zA (pv 1) (zA (zY z8 a yS (zA (yB (pv 0) rfl) zB)) zB))))
   (zF (zL (xL y TS.cl j (zS zV (yB (pv 0) rfl) (pv 1) (λ_ _=>rfl)))))),?_⟩
 refine ⟨_,rfl,_,rfl,p,C,r,_,_,rfl,t,T.cl,T.nS,wT _ _ _,_,_,rfl,.inl ⟨_,.of b,rfl⟩,_,_,rfl,by omega,by rw [zMJ];omega,?_⟩
 exact ⟨_,rfl,p,C,r,_,_,rfl,t,T.cl,T.nS,wT _ _ _,_,rfl,D,_,i,_,rfl,rfl,b,xZ k,x.1,l,_,rfl,m,zL3 _ _ _ _,x.1,x.2,s,rfl,S,q⟩
noncomputable def zFU (C CS:Addr):Sp:=λb H Q _=>∃ (B:Addr->Prop) (p:Addr) (i:Nat) (nm:Str) (c:List Str) (d:List (Addr × Addr)) (a:List SS) (s:SS),b=[.ref p,.int i]/\z7 B C CS H p nm c d a/\a[i]?=some s/\Q (.bl s.asked) H
theorem zLA (T:xK K C) (TS:xM K CS) (G:yW K C Sq "House.has_asked" zDN Na) (y:Cal P w K mg base CX0 2 S9 Ni gI) (c:yI P w K mg base CX0 1 CS Sq N5 (zFP CS)) (a:Blt mg Sc):yI P w K mg base CX0 3 C Sq Na (zFU C CS):=by
 refine G.oz zKF (λf z A d L H M Q E o h=>?_)
 obtain ⟨B,p,i,nm,N,r,O,s,rfl,⟨t,nl,D,_,u,I,b,e,g⟩,v,q⟩:=h
 have j:z6 2 _:=o
 have k:z6 1 _:=o.mono (by decide)
 have J:i < r.length:=by rw [e];exact (zML.mp v).1
 have l:=zMK J
 generalize r[i]=x at l
 have S:=g i x s l v
 obtain ⟨m,n⟩:=S.ob
 refine ⟨_,(zD (yA (zN y j (zA (pv 1) (zA (zY z8 a yS (zA (yB (pv 0) rfl) zB)) zB))))
   (zF (zL (xL c TS.cl k (zS zV (yB (pv 0) rfl) (pv 1) (λ_ _=>rfl)))))),?_⟩
 refine ⟨_,rfl,_,rfl,p,C,t,_,_,rfl,u,T.cl,T.nS,wT _ _ _,_,_,rfl,.inl ⟨_,.of b,rfl⟩,_,_,rfl,by omega,by rw [zMJ];omega,?_⟩
 exact ⟨_,rfl,p,C,t,_,_,rfl,u,T.cl,T.nS,wT _ _ _,_,rfl,D,_,i,_,rfl,rfl,b,xZ l,x.1,m,_,rfl,n,zL7 _ _ _ _,x.1,x.2,s,rfl,S,q⟩
noncomputable def zJK (CS:Addr):Sp:=λb H Q _=>∃ p c s,b=[.ref p]/\yE CS H p c s/\∀ r a,Rows a r ((uD s).map zIU)->H r=none->zE [] H a->Q (.ref r) a
theorem okSA (TS:xM K CS) (G:yW K CS Sz "Seat.askers" sSA N5):yI P w K mg base CX0 1 CS Sz N5 (zJK CS):=by
 refine G.oz zJ7 (λf a0 A x s0 H T Q E hr h=>?_)
 obtain ⟨p,wl,s,rfl,S,q⟩:=h
 obtain ⟨⟨y,j⟩,k,U⟩:=id S
 obtain ⟨qs,B,a1⟩:=id k
 refine ⟨_,(zD (cS (i:=1) zJ7.nd rfl (Or.inl rfl) (N:=["self",Si]) (sc:=zG sSA) (ix:=[]) (by decide +kernel) (xR (yB (pv 0) rfl)) (λ_ _ _ _=>(pU (zQ y6 (pv 0) zJ (zW _)))) (λ_ _ _ _=>(z9 (zA (pv 1) (zA wH zB)))))
   (zF (zL (rX (zQ uO (yB (pv 0) rfl) yV (zW _)) (pv 1) (yK u9 (yN (zA (z9 (zA (yB (pv 0) rfl) (zA wH zB))) zB)) (pv 1)))))),?_⟩
 refine ⟨_,rfl,p,CS,y,_,_,rfl,j,TS.cl,TS.nW,rG _ _ _ _,wl,rfl,⟨_,.of B⟩,λY l=>?_⟩
 refine pZ (ds:=s.row) yY (λr=>[.str r.2,.bl true]) (λr=>decide (r.1=(NV : Str))) (λr _=>[some (.str r.1),some (.str r.2)]) [] (by omega) l k ⟨[none,none],rfl,rfl⟩ (λ_ _=>rfl) ?_ ?_ ?_ ?_
 ·intro r q T H R _ hv hq h
  match T,hv with
  | [v1,v2],_=>exact ⟨q,_,rfl,.of hq,rfl,_,_,rfl,_,_,rfl,rfl,h⟩
 ·intro r q H R _ _ _ h
  refine ⟨_,rfl,rfl,_,rfl,?_⟩
  rw [show decide (V.str r.1=V.str NV)=decide (r.1=(NV : Str)) by simp]
  exact h H (zE.refl _)
 ·intro r q H R _ _ h
  exact ⟨_,rfl,by show 2 <= sizeLine;decide,λt D=>h t _ (zE.new D) zC⟩
 intro b hR v
 obtain ⟨I,m,c⟩:=hR
 have e1:((s.row.filter λr=>decide (r.1=(NV : Str))).map λr=>[V.str r.2,.bl true])=((s.row.filter λr=>decide (r.1=(NV : Str))).map λr=>(r.2,true)).map zIU:=by rw [zM3];rfl
 rw [e1] at c
 have a:=v.z j
 refine ⟨_,rfl,p,CS,y,_,_,rfl,a,TS.cl,TS.nH,iX _ _ _ _,rfl,_,rfl,?_⟩
 cases J:s.hold with
 | none=>
  refine ifT rfl ⟨_,rfl,q Y b ⟨I,m,?_⟩ l v⟩
  unfold uD
  rw [J]
  exact c
 | some z=>
  refine ifF rfl ?_
  rw [J] at a
  refine ⟨_,rfl,p,CS,y,_,_,rfl,a,TS.cl,TS.nH,iX _ _ _ _,by show 2 <= sizeLine;decide,λt D=>⟨by show 1 <= sizeLine;decide,λg L=>?_⟩⟩
  have k3:zE [] b (upd b t (.tup [.str z,.bl false])):=zE.new D
  have e3:upd b t (.tup [.str z,.bl false]) t=some (.tup [.str z,.bl false]):=zC
  have n:upd b t (.tup [.str z,.bl false]) g=none:=L
  have k4:zE [] (upd b t (.tup [.str z,.bl false])) (upd (upd b t (.tup [.str z,.bl false])) g (.lst [.ref t])):=zE.new n
  have e4:upd (upd b t (.tup [.str z,.bl false])) g (.lst [.ref t]) g=some (.lst [.ref t]):=zC
  have M:=k4.z e3
  have d:=k3.trans k4
  have lt:=zZ c
  rw [zMJ,zMJ] at lt
  have lf:=zNH (λr:Str × Str=>decide (r.1=(NV : Str))) s.row
  refine ⟨_,rfl,g,Y,_,_,rfl,rfl,e4,d.z m,by rw [zMJ,sizeLine_eq];show 1 + _ <= _;omega,λl2 o=>?_⟩
  have O:zE [] (upd (upd b t (.tup [.str z,.bl false])) g (.lst [.ref t])) (upd (upd (upd b t (.tup [.str z,.bl false])) g (.lst [.ref t])) l2 (.lst ((t :: I).map V.ref))):=zE.new o
  refine q l2 _ ⟨t :: I,zC,?_⟩ (v.none (by simp) (d.none (by simp) o)) (v.trans (d.trans O))
  unfold uD
  rw [J]
  exact .cons (O.z M) (L2.Paired.mapP c λu r e=>(d.trans O).z e)
end
noncomputable abbrev eX:Stmt:=top 25
noncomputable abbrev zAO:Stmt:=yX (top 26) 13
noncomputable abbrev jZ:Stmt:=yX (top 26) 14
section
variable {P:Program} {w:World} {K:W.Frag} {mg:Str->Option Value} {base:Heap} {C:Addr}
theorem zHD:zO NR NR (zG eX):=scm
theorem zH6 (G:yM K mg Sv eX NR) (c:Cal P w K mg base CX0 1 Su Nh (sD K)):Cal P w K mg base CX0 2 Sv NR tE:=by
 refine G.oz zHD (λf d A a m H n Q E g h=>?_)
 obtain ⟨z,rfl,i,j,q⟩:=h
 have b:z6 1 _:=g.mono (by decide)
 refine ⟨_,(zF (z5 (y9 (y3 (zN c b (zA (pv 0) zB)))) (zF xH) zM)),?_⟩
 refine ⟨_,rfl,_,"str",rfl,.str z,(λo e=>by cases e;exact j),λk l=>⟨_,rfl,?_⟩⟩
 exact ifF (by show (!vQ z)=false;rw [i];rfl) (q k l)
theorem zF1:zO NF NF (zG zAO):=scm
noncomputable abbrev hsR (z:Str):Str × Str:=((NY : Str),z)
noncomputable def zFY (C:Addr):Sp:=λc H Q _=>∃ p b s z,c=[.ref p,.str z]/\yE C H p b s/\vQ z=true/\z.length <= 1000/\s.ptr ≠ some z/\(hsR z) ∉ s.row/\s.row.length < 1000 /\
 ∀ r a,yE C a p b (yC { s with row:=s.row ++ [(hsR z)] }).1->Rows a r (yC { s with row:=s.row ++ [(hsR z)] }).2->H r=none->zE [p,b] H a->Q (.ref r) a
theorem zLI (T:xM K C) (G:yW K C NX "Seat.ask" zAO NF) (CC:Cal P w K mg base CX0 2 Sv NR tE) (MM:yI P w K mg base CX0 2 C Sy N5 (qL C)) :
  yI P w K mg base CX0 3 C NX NF (zFY C):=by
 refine G.oz zF1 (λf a0 A x s0 H vs Q E O h=>?_)
 obtain ⟨p,d,s,z,rfl,S0,hn,hl,hh,hi,l,q⟩:=h
 have m:z6 2 _:=O.mono (by decide)
 have hu:=vT O
 refine ⟨_,(zD (yA (zN CC m (zA (pv 1) zB)))
   (zD (z5 (zQ y6 (pv 1) (yB (pv 0) rfl) (zW _)) (zF xH) zM)
   (zD (z5 (zQ (kW hu) (z9 (zA zJ (zA (pv 1) zB))) (yB (pv 0) rfl) (by with_unfolding_all rfl)) (zF xH) zM)
   (zD (yA (vN F.plainAttrs_list F.slot_list_append F.type_list_append xF (yB (pv 0) rfl) (zA (z9 (zA zJ (zA (pv 1) zB))) zB)))
   (zF (zL (xL MM T.cl m (pv 0)))))))),?_⟩
 refine ⟨_,rfl,z,rfl,hn,hl,λe y=>?_⟩
 have S:=S0.keep y
 have B:=S.ne
 obtain ⟨⟨n,a⟩,⟨u,b,i⟩,_⟩:=id S
 refine ⟨_,rfl,_,rfl,p,C,n,_,_,rfl,a,T.cl,T.nP,fQ _ _ _ _,oH _ _,_,rfl,?_⟩
 refine ifF (by rw [jD];exact zMZ hh) ?_
 refine ⟨_,rfl,by show 2 <= sizeLine;decide,λt ht=>?_⟩
 have k:zE [] e (upd e t (.tup [.str NY,.str z])):=zE.new ht
 refine ⟨_,rfl,p,C,n,_,_,rfl,(k.z a),T.cl,T.nW,rG _ _ _ _,d,t,_,s.row.map yY,rfl,rfl,(Rows.keep ⟨u,b,i⟩ k),zC,rfl,vB _,_,rfl,?_⟩
 refine ifF (by show ((s.row.map yY).any λr=>eqT r (yY (hsR z)))=false;rw [tZ];exact zMZ hi) ?_
 refine ⟨_,rfl,p,C,n,_,_,rfl,(k.z a),T.cl,T.nW,rG _ _ _ _,.inl ⟨rfl,_,.of (k.z b)⟩,_,rfl,by show 2 <= sizeLine;decide,λj o=>?_⟩
 have U:zE [] (upd e t (.tup [.str NY,.str z])) (upd (upd e t (.tup [.str NY,.str z])) j (.tup [.str NY,.str z])):=zE.new o
 have c:=k.trans U
 have D:d ≠ j:=zI (k.z b) o
 have I:=zZ i
 rw [zMJ] at I
 refine ⟨d,_,_,rfl,rfl,c.z b,by rw [zMJ,sizeLine_eq];omega,?_⟩
 generalize J:upd (upd e t (.tup [.str NY,.str z])) j (.tup [.str NY,.str z])=v at U c ⊢
 have L:v j=some (.tup (yY (hsR z))):=by rw [<- J];exact zC
 have Y:zE [p,d] e (upd v d (.lst (u.map V.ref ++ [.ref j]))):=(c.mono (by simp)).trans (zE.at (by simp))
 have g:upd v d (.lst (u.map V.ref ++ [.ref j])) p=some (.ins C n (xO (yD s.ptr) d (yD s.hold) s.asked)):=by rw [zK B];exact c.z a
 have S4:yE C (upd v d (.lst (u.map V.ref ++ [.ref j]))) p d { s with row:=s.row ++ [(hsR z)] }:=
  yE.more (H:=H) (H1:=e) g (zP Y (uG a b) i) zC (by rw [zK (Ne.symm D)];exact L) l
 refine ⟨_,rfl,p,n,_,rfl,g,lF _ _ _ _,p,d,_,rfl,S4,λr H5 S5 R5 M k5=>?_⟩
 have N:=(zU M).1
 exact q r H5 S5 R5 (y.none (by simp) (c.none (by simp) N)) (((y.mono (by simp)).trans Y).trans k5)
theorem zAJ:zO Nw Nw (zG jZ):=scm
noncomputable def d7 (s:SS) (z:Str) (b:Bool):SS:={ s with ptr:=none,asked:=false,row:=if b then s.row ++ [hsR z] else s.row }
noncomputable def aW (C:Addr):Sp:=λd H Q _=>∃ p c s z b,d=[.ref p,.str z,.bl b]/\yE C H p c s/\vQ z=true/\z.length <= 1000/\s.ptr=some z/\s.row.length < 1000 /\
 ∀ r a,yE C a p c (yC (d7 s z b)).1->Rows a r (yC (d7 s z b)).2->H r=none->zE [p,c] H a->Q (.ref r) a
theorem zH5 (T:xM K C) (G:yW K C NW "Seat.come" jZ Nw) (CC:Cal P w K mg base CX0 2 Sv NR tE) (MM:yI P w K mg base CX0 2 C Sy N5 (qL C)) (a:Blt mg Sd) (k:Blt mg "bool") :
  yI P w K mg base CX0 3 C NW Nw (aW C):=by
 refine G.oz zAJ (λf a4 A a0 s0 H vs Q E hr h=>?_)
 obtain ⟨p,c,s,z,b,rfl,S0,hn,hl,hh,y,q⟩:=h
 have B:z6 2 _:=hr.mono (by decide)
 refine ⟨_,(zD (yA (zN CC B (zA (pv 1) zB)))
   (zD (z5 (zQ sV (pv 1) (yB (pv 0) rfl) (zW _)) (zF xH) zM)
   (zD (z5 (y9 (y3 (zY yO a zT (zA (pv 2) (zA (vE k u5) zB))))) (zF xH) zM)
   (zD (vL (pv 0) yV rfl)
   (zD (vL (pv 0) wH rfl)
   (zD (z5 (y3 (pv 2)) (zF (yA (vN F.plainAttrs_list F.slot_list_append F.type_list_append xF (yB (pv 0) rfl) (zA (z9 (zA zJ (zA (pv 1) zB))) zB)))) zM)
   (zF (zL (xL MM T.cl B (pv 0)))))))))),?_⟩
 refine ⟨_,rfl,z,rfl,hn,hl,λi D=>?_⟩
 have S:=S0.keep D
 have t:=S.ne
 obtain ⟨⟨g,u⟩,⟨Y,I,J⟩,_⟩:=id S
 refine ⟨_,rfl,_,rfl,p,C,g,_,_,rfl,u,T.cl,T.nP,fQ _ _ _ _,oH _ _,_,rfl,?_⟩
 refine ifF (by rw [jD,zMY hh];rfl) ?_
 refine ⟨_,rfl,_,_,_,_,rfl,(yF.bl (K:=K) (H:=i) b).ty,(yF.bl (K:=K) (H:=i) b).kit.2.2.1,_,rfl,?_⟩
 refine ifF rfl ?_
 refine ⟨_,rfl,p,C,g,_,rfl,u,T.cl,T.nP,by show 4 < 1000;decide,?_⟩
 rw [zF6]
 refine ⟨_,rfl,p,C,g,_,rfl,zC,T.cl,T.nA,by show 4 < 1000;decide,?_⟩
 dsimp only
 rw [zAW,tL]
 have L:zE [p,c] i (upd i p (.ins C g (xO .non c (yD s.hold) false))):=zE.at (by simp)
 have S2:yE C (upd i p (.ins C g (xO .non c (yD s.hold) false))) p c { s with ptr:=none,asked:=false }:=S.stay (dx:=g) { s with ptr:=none,asked:=false } zC (by rw [zK (Ne.symm t)]) rfl L
 have d:upd i p (.ins C g (xO .non c (yD s.hold) false)) p=some (.ins C g (xO .non c (yD s.hold) false)):=zC
 have e:upd i p (.ins C g (xO .non c (yD s.hold) false)) c=some (.lst (Y.map V.ref)):=by rw [zK (Ne.symm t)];exact I
 have m:=zP L (uG u I) J
 have v:∀ r,upd i p (.ins C g (xO .non c (yD s.hold) false)) r=none->i r=none:=λr h=>(zU h).1
 generalize upd i p (.ins C g (xO .non c (yD s.hold) false))=n at L S2 d e m v ⊢
 refine ⟨_,rfl,_,rfl,?_⟩
 cases b with
 | false=>
  refine ifF rfl ?_
  refine ⟨_,rfl,p,g,_,rfl,d,lF _ _ _ _,p,c,_,rfl,S2,λr H5 S5 R5 x k5=>?_⟩
  exact q r H5 S5 R5 (D.none (by simp) (v r x)) (((D.mono (by simp)).trans L).trans k5)
 | true=>
  refine ifT rfl ?_
  refine ⟨_,rfl,p,C,g,_,_,rfl,d,T.cl,T.nW,rG _ _ _ _,.inl ⟨rfl,_,.of e⟩,_,rfl,by show 2 <= sizeLine;decide,λl N=>?_⟩
  have k3:zE [] n (upd n l (.tup [.str NY,.str z])):=zE.new N
  have a1:c ≠ l:=zI e N
  have a2:=zZ J
  rw [zMJ] at a2
  refine ⟨c,_,_,rfl,rfl,k3.z e,by rw [zMJ,sizeLine_eq];omega,?_⟩
  have O:∀ r,upd n l (.tup [.str NY,.str z]) r=none->n r=none:=λr h=>(zU h).1
  have U:upd n l (.tup [.str NY,.str z]) l=some (.tup (yY (hsR z))):=zC
  generalize upd n l (.tup [.str NY,.str z])=H3 at k3 O U ⊢
  have k4:zE [p,c] n (upd H3 c (.lst (Y.map V.ref ++ [.ref l]))):=(k3.mono (by simp)).trans (zE.at (by simp))
  have o:upd H3 c (.lst (Y.map V.ref ++ [.ref l])) p=some (.ins C g (xO (yD none) c (yD s.hold) false)):=by rw [zK t];exact k3.z d
  have S4:yE C (upd H3 c (.lst (Y.map V.ref ++ [.ref l]))) p c (d7 s z true):=
   yE.more (s:={ s with ptr:=none,asked:=false }) (H:=H) (H1:=n) o (zP k4 (uG d e) m) zC (by rw [zK (Ne.symm a1)];exact U) y
  refine ⟨_,rfl,p,g,_,rfl,o,lF _ _ _ _,p,c,_,rfl,S4,λr H5 S5 R5 x k5=>?_⟩
  have a3:=(zU x).1
  exact q r H5 S5 R5 (D.none (by simp) (v r (O r a3))) ((((D.mono (by simp)).trans L).trans k4).trans k5)
end
theorem zGL (a:V) (b:Addr) (h:V) (k:Bool):(xO a b h k).lookup (S8 : Str)=none:=rfl
theorem zL1 (a:V) (b:Addr) (h:V) (k:Bool):(xO a b h k).lookup (NZ : Str)=none:=rfl
theorem zL4 (a:V) (b:Addr) (h:V) (k:Bool):(xO a b h k).lookup (S3 : Str)=none:=rfl
theorem zIM (a:V) (b:Addr) (h:V) (k:Bool):(xO a b h k).lookup (NX : Str)=none:=rfl
theorem zL6 (a:V) (b:Addr) (h:V) (k:Bool):(xO a b h k).lookup (NW : Str)=none:=rfl
theorem zL5 (a:V) (b:Addr) (h:V) (k:Bool):(xO a b h k).lookup ("crowd" : Str)=none:=rfl
inductive DD where
 | want (z:Str)
 | leave (z:Str)
 | done (z:Str)
 | ask (z:Str)
 | come (z:Str) (b:Bool)
noncomputable def deedV:DD->List V
 | .want z=>[.str S8,.str z]
 | .leave z=>[.str NZ,.str z]
 | .done z=>[.str S3,.str z]
 | .ask z=>[.str NX,.str z]
 | .come z b=>[.str NW,.str z,.bl b]
noncomputable def qD (row:LSS):DD->LSS
 | .want z=>row ++ [askR z]
 | .leave z=>row.filter λx=>decide (x ≠ askR z)
 | .done _=>row
 | .ask z=>row ++ [hsR z]
 | .come z b=>if b then row ++ [hsR z] else row
noncomputable def xG (s:SS):DD->SS
 | .want z=>{ s with row:=s.row ++ [askR z] }
 | .leave z=>{ s with row:=s.row.filter λx=>decide (x ≠ askR z) }
 | .done _=>{ s with hold:=none }
 | .ask z=>{ s with row:=s.row ++ [hsR z] }
 | .come z b=>d7 s z b
noncomputable def fX (s:SS):DD->Prop
 | .want z=>s.hold ≠ some z/\askR z ∉ s.row/\yR z
 | .leave z=>askR z ∈ s.row
 | .done z=>s.hold=some z
 | .ask z=>s.ptr ≠ some z/\hsR z ∉ s.row/\yR z
 | .come z _=>s.ptr=some z
structure rK (s:SS):Prop where
 p:∀ z,s.ptr=some z->yR z
 h:∀ z,s.hold=some z->yR z
 r:∀ x ∈ s.row,(x.1=NV \/ x.1=NY)/\yR x.2
 u:∀ z,s.row.count (askR z) <= 1
theorem lG (s:SS) (d:DD):(xG s d).row=qD s.row d:=by cases d <;> rfl
theorem pW (y z:Str):hsR y ≠ askR z:=by
 intro e
 have a:(NY : Str)=NV :=congrArg Prod.fst e
 exact absurd a (by decide +kernel)
theorem jE {l:LSS} {x a:Str × Str} (h:x ≠ a):(l ++ [x]).count a=l.count a:=by
 rw [List.count_append,List.count_cons,List.count_nil]
 have:(x == a)=false:=by simpa using h
 rw [this];simp
theorem rK.more {s:SS} (I:rK s) {x:Str × Str} (hx:(x.1=NV \/ x.1=NY)/\yR x.2) (a:∀ z,x=askR z->x ∉ s.row):rK { s with row:=s.row ++ [x] }:=by
 refine ⟨I.p,I.h,λy b=>?_,λz=>?_⟩
 ·rcases zM0.mp b with q | q
  ·exact I.r y q
  ·rw [zMM.mp q];exact hx
 ·by_cases e:x=askR z
  ·have c:s.row.count (askR z)=0:=List.count_eq_zero.mpr (by rw [<- e];exact a z e)
   show (s.row ++ [x]).count (askR z) <= 1
   rw [List.count_append,c,e]
   simp
  ·show (s.row ++ [x]).count (askR z) <= 1
   rw [jE e];exact I.u z
theorem rK.sub {s s':SS} (I:rK s) (b:∀ z,s'.ptr=some z->yR z) (c:∀ z,s'.hold=some z->yR z) (a:List.Sublist s'.row s.row):rK s':=
 ⟨b,c,λx d=>I.r x (a.subset d),λz=>zMU (a.count_le _) (I.u z)⟩
theorem zCG (I:rK s):∀ {d:DD},fX s d->rK (xG s d)
 | .want z,h=>I.more ⟨.inl rfl,h.2.2⟩ λ_ _=>h.2.1
 | .leave z,_=>I.sub I.p I.h List.filter_sublist
 | .done z,_=>I.sub I.p (λz e=>by cases e) (List.Sublist.refl _)
 | .ask z,h=>I.more ⟨.inr rfl,h.2.2⟩ λy e=>absurd e (pW z y)
 | .come z b,h=>by
  have g:=I.p z h
  have c:rK { s with ptr:=none,asked:=false }:=I.sub (λz e=>by cases e) I.h (List.Sublist.refl _)
  cases b with
  | false=>exact c
  | true=>exact c.more (x:=hsR z) ⟨.inr rfl,g⟩ λy e=>absurd e (pW z y)
theorem zBH (I:rK s):rK (yC s).1:=by
 unfold yC
 split
 ·exact I
 ·split
  ·split
   ·rename_i d _ _ g
    unfold wE
    split
    ·exact I
    ·rename_i k n rest b
     have f:(k,n) ∈ s.row:=by rw [b];simp
     have c:=(I.r _ f).2
     have a:List.Sublist rest s.row:=by rw [b];exact List.sublist_cons_self _ _
     split
     ·exact I.sub I.p (λz e=>by cases e;exact c) a
     ·exact I.sub (λz e=>by cases e;exact c) I.h a
   ·exact I
  ·split
   ·exact I
   ·exact I.sub I.p I.h (List.Sublist.refl _)
theorem n9 (row:LSS) (d:DD):(qD row d).length <= row.length + 1:=by
 cases d with
 | want z=>simp [qD]
 | leave z=>exact zMU (zNH _ _) (Nat.le_succ _)
 | done z=>exact Nat.le_succ _
 | ask z=>simp [qD]
 | come z b=>cases b <;> simp [qD]
theorem iN (s:SS):(yC s).1.row.length <= s.row.length:=by
 unfold yC
 split
 ·exact zMS _
 ·split
  ·split
   ·unfold wE
    split
    ·exact zMS _
    ·rename_i k n rest a
     split <;> (show rest.length <= s.row.length;rw [a];simp)
   ·exact zMS _
  ·split <;> exact zMS _
theorem zBI (s:SS):(∀ r ∈ (yC s).2,r.all xA=true/\r.length <= 2000)/\(yC s).2.length <= 2000:=by
 unfold yC
 split
 ·exact ⟨λr a=>absurd a zND,zMT _⟩
 ·split
  ·split
   ·unfold wE
    split
    ·exact ⟨λr a=>by rw [zMM.mp a];exact ⟨rfl,zMT _⟩,by show 1 <= 2000;decide⟩
    ·split
     ·exact ⟨λr a=>by rw [zMM.mp a];exact ⟨rfl,by show 2 <= 2000;decide⟩,by show 1 <= 2000;decide⟩
     ·exact ⟨λr a=>by rw [zMM.mp a];exact ⟨rfl,by show 3 <= 2000;decide⟩,by show 1 <= 2000;decide⟩
   ·exact ⟨λr a=>absurd a zND,zMT _⟩
  ·split
   ·exact ⟨λr a=>absurd a zND,zMT _⟩
   ·exact ⟨λr a=>by rw [zMM.mp a];exact ⟨rfl,by show 2 <= 2000;decide⟩,by show 1 <= 2000;decide⟩
theorem tW:∀ (l:LSS) (a:Str × Str) (j:Nat),l[j]?=some a->(∀ m:Nat,m < j->l[m]? ≠ some a)->l.count a <= 1->l.filter (λx=>decide (x ≠ a))=l.eraseIdx j
 | [],a,j,h,_,_=>by simp at h
 | y :: l,a,0,h,_,c=>by
  have e:y=a:=by simpa using h
  subst e
  have f:l.count y=0:=by
   rw [List.count_cons_self] at c;omega
  have g:=List.count_eq_zero.mp f
  rw [List.filter_cons]
  simp only [ne_eq,not_true_eq_false,decide_false,Bool.false_eq_true,if_false,List.eraseIdx_zero,List.tail_cons]
  exact List.filter_eq_self.mpr λx i=>zMY λe=>g (e ▸ i)
 | y :: l,a,j + 1,h,b,c=>by
  have ne:y ≠ a:=λe=>b 0 (by omega) (by simp [e])
  have d:=zMU (List.Sublist.count_le _ (List.sublist_cons_self y l)) c
  rw [List.filter_cons,if_pos (zMY ne),tW l a j (by simpa using h) (λm k e=>b (m + 1) (by omega) (by simpa using e)) d]
  rfl
noncomputable def askN (row:LSS):List Str:=(row.filter λr=>decide (r.1=(NV : Str))).map (·.2)
noncomputable def wZ (s:SS):List Str:=(uD s).map (·.1)
theorem wX (s:SS):wZ s=(match s.hold with | some z=>[z] | none=>[]) ++ askN s.row:=by
 unfold wZ uD askN
 rw [zMV,zM3]
 cases s.hold <;> rfl
theorem hX (row:LSS) (z:Str):askN (row ++ [askR z])=askN row ++ [z]:=by
 unfold askN
 rw [List.filter_append,zMV]
 simp
theorem d9 (row:LSS) (z:Str):askN (row ++ [hsR z])=askN row:=by
 unfold askN
 rw [List.filter_append,zMV]
 have:((NY : Str)=NV)=False:=by simp;decide +kernel
 simp [this]
theorem iQ:z ∈ askN row ↔ askR z ∈ row:=by
 unfold askN
 rw [List.mem_map]
 constructor
 ·rintro ⟨⟨k,y⟩,h,rfl⟩
  obtain ⟨a,b⟩:=List.mem_filter.mp h
  have e:=of_decide_eq_true b
  subst e;exact a
 ·exact λh=>⟨askR z,List.mem_filter.mpr ⟨h,by simp⟩,rfl⟩
theorem xD:z ∈ wZ s ↔ (s.hold=some z \/ askR z ∈ s.row):=by
 rw [wX,zM0,iQ]
 cases s.hold with
 | none=>simp
 | some y=>simp [eq_comm]
theorem iJ (s:SS):wZ (yC s).1=wZ s:=by
 unfold yC
 split
 ·rfl
 ·split
  ·split
   ·rename_i b
    unfold wE
    split
    ·rfl
    ·rename_i k n rest c
     by_cases a:k=(NV : Str)
     ·simp only [if_pos a]
      rw [wX,wX,b,c]
      show [n] ++ askN rest=[] ++ askN ((k,n) :: rest)
      unfold askN
      rw [List.filter_cons,if_pos (by rw [a];simp)];rfl
     ·simp only [if_neg a]
      rw [wX,wX,b,c]
      show [] ++ askN rest=[] ++ askN ((k,n) :: rest)
      unfold askN
      rw [List.filter_cons,if_neg (by simpa using a)]
   ·rfl
  ·split <;> rfl
noncomputable def yZ (ss:List SS):List Str:=ss.flatMap wZ
noncomputable def wV:Nat->List SS->List (Str × List V)
 | _,[]=>[]
 | i,s :: b=>(uD s).map (λa=>(a.1,[V.int (i:Int),V.bl a.2])) ++ wV (i + 1) b
theorem xS:∀ ss i,(wV i ss).map (·.1)=yZ ss
 | [],_=>rfl
 | s :: ss,i=>by
  unfold wV yZ
  rw [zMV,xS ss,zM3];rfl
theorem qW:∀ ss i s,wV i (ss ++ [s])=wV i ss ++ (uD s).map (λa=>(a.1,[V.int ((i + ss.length:Nat):Int),V.bl a.2]))
 | [],i,s=>by simp [wV]
 | x :: ss,i,s=>by
  show _ ++ wV (i + 1) (ss ++ [s])=_
  rw [qW ss,<- zNE,zM4,show i + 1 + ss.length=i + (ss.length + 1) by omega];rfl
theorem sR:∀ {ss:List SS} {i:Nat} {r:Str × List V},r ∈ wV i ss ↔ ∃ k s b,ss[k]?=some s/\(r.1,b) ∈ uD s/\r.2=[V.int ((i + k:Nat):Int),V.bl b]
 | [],i,r=>by simp [wV]
 | x :: ss,i,r=>by
  unfold wV
  rw [zM0,sR (ss:=ss),List.mem_map]
  constructor
  ·rintro (⟨a,g,rfl⟩ | ⟨k,s,b,c,d,f⟩)
   ·exact ⟨0,x,a.2,rfl,g,rfl⟩
   ·exact ⟨k + 1,s,b,by simpa using c,d,by rw [f,show i + 1 + k=i + (k + 1) by omega]⟩
  ·rintro ⟨k,s,b,c,d,f⟩
   cases k with
   | zero=>
    have e:x=s:=by simpa using c
    subst e
    exact .inl ⟨_,d,Prod.ext rfl f.symm⟩
   | succ k=>exact .inr ⟨k,s,b,by simpa using c,d,by rw [f,show i + 1 + k=i + (k + 1) by omega]⟩
theorem wM:z ∈ yZ ss ↔ ∃ (i:Nat) (s:SS),ss[i]?=some s/\z ∈ wZ s:=by
 unfold yZ
 rw [List.mem_flatMap]
 constructor
 ·rintro ⟨s,b,a⟩
  obtain ⟨i,c,e⟩:=List.getElem_of_mem b
  exact ⟨i,s,by rw [zMK c,e],a⟩
 ·rintro ⟨i,s,h,a⟩;exact ⟨s,zMN h,a⟩
theorem oZ:∀ {ss:List SS} {i j:Nat} {s s':SS} {z:Str},(yZ ss).Nodup->ss[i]?=some s->ss[j]?=some s'->z ∈ wZ s->z ∈ wZ s'->i=j
 | [],_,_,_,_,_,_,h,_,_,_=>by simp at h
 | x :: ss,i,j,s,s',z,k,a,b,c,d=>by
  obtain ⟨_,f,g⟩:=List.nodup_append.mp (show (wZ x ++ yZ ss).Nodup from k)
  cases i with
  | zero=>
   cases j with
   | zero=>rfl
   | succ j=>
    have e:x=s:=by simpa using a
    subst e
    exact absurd rfl (g z c z (wM.mpr ⟨j,s',by simpa using b,d⟩))
  | succ i=>
   cases j with
   | zero=>
    have e:x=s':=by simpa using b
    subst e
    exact absurd rfl (g z d z (wM.mpr ⟨i,s,by simpa using a,c⟩))
   | succ j=>exact congrArg Nat.succ (oZ (s:=s) (s':=s') (z:=z) f (by simpa using a) (by simpa using b) c d)
theorem iK:∀ {ss:List SS} {i:Nat} {s s':SS},ss[i]?=some s->(wZ s').Sublist (wZ s)->(yZ (ss.set i s')).Sublist (yZ ss)
 | [],_,_,_,h,_=>by simp at h
 | x :: ss,0,s,s',h,l=>by
  have e:x=s:=by simpa using h
  subst e
  exact List.Sublist.append l (List.Sublist.refl _)
 | x :: ss,i + 1,s,s',h,l=>List.Sublist.append (List.Sublist.refl (wZ x)) (iK (ss:=ss) (i:=i) (by simpa using h) l)
theorem m7:∀ {ss:List SS} {i:Nat} {s s':SS} {z:Str},ss[i]?=some s->wZ s'=wZ s ++ [z]->(yZ (ss.set i s')).Perm (z :: yZ ss)
 | [],_,_,_,_,h,_=>by simp at h
 | x :: ss,0,s,s',z,h,l=>by
  have e:x=s:=by simpa using h
  subst e
  show (wZ s' ++ yZ ss).Perm (z :: (wZ x ++ yZ ss))
  rw [l,zNE]
  exact List.perm_middle
 | x :: ss,i + 1,s,s',z,h,l=>by
  show (wZ x ++ yZ (ss.set i s')).Perm (z :: (wZ x ++ yZ ss))
  exact (List.Perm.append_left _ (m7 (ss:=ss) (by simpa using h) l)).trans List.perm_middle
structure uH (k:Nat) (ss:List SS):Prop where
 si:∀ s ∈ ss,rK s
 nd:(yZ ss).Nodup
 ln:(yZ ss).length <= k
 rl:∀ s ∈ ss,s.row.length <= 800
noncomputable def nO (s:SS):Nat:=s.row.length + (if s.hold=none then 0 else 1)
noncomputable def tF (s:SS) (i:Nat):List V:=[.int (nO s:Int),.bl (decide (s.ptr ≠ none)),.int (i:Int)]
noncomputable def wQ:Nat->List SS->List (List V)
 | _,[]=>[]
 | i,s :: a=>tF s i :: wQ (i + 1) a
theorem uL:∀ ss i,(wQ i ss).length=ss.length
 | [],_=>rfl
 | _ :: ss,i=>by unfold wQ;rw [zM4,uL ss];rfl
theorem tO:∀ {ss:List SS} {i k:Nat} {s:SS},ss[k]?=some s->(wQ i ss)[k]?=some (tF s (i + k))
 | [],_,_,_,h=>by simp at h
 | x :: ss,i,0,s,h=>by
  have e:x=s:=by simpa using h
  subst e;rfl
 | x :: ss,i,k + 1,s,h=>by
  show (wQ (i + 1) ss)[k]?=_
  rw [tO (i:=i + 1) (by simpa using h),show i + 1 + k=i + (k + 1) by omega]
theorem oP:∀ ss i s,wQ i (ss ++ [s])=wQ i ss ++ [tF s (i + ss.length)]
 | [],i,s=>rfl
 | x :: ss,i,s=>by
  show tF x i :: wQ (i + 1) (ss ++ [s])=_
  rw [oP ss,show i + 1 + ss.length=i + (ss.length + 1) by omega];rfl
theorem oQ:∀ {ss:List SS} {i:Nat},∀ r ∈ wQ i ss,∃ a b c,r=[.int a,.bl b,.int c]
 | [],_,r,h=>by cases h
 | x :: ss,i,r,h=>by
  rcases List.mem_cons.mp h with rfl | h
  ·exact ⟨_,_,_,rfl⟩
  ·exact oQ r h
noncomputable def pI (ss:List SS):Nat:=nZ (wQ 0 ss)
theorem tY (a:Nat->Nat->Bool):∀ k,argBest a k <= k
 | 0=>zMS _
 | k + 1=>by
  unfold argBest
  split
  ·exact zMS _
  ·exact Nat.le_succ_of_le (tY a k)
theorem n8 (h:ss ≠ []):pI ss < ss.length:=by
 unfold pI nZ
 rw [uL]
 have:=tY (λi j=>tU ((wQ 0 ss).getD i []) ((wQ 0 ss).getD j [])) (ss.length - 1)
 have:0 < ss.length:=zM9.mpr h
 omega
noncomputable def uB (s:SS):List V:=[.int (nO s:Int),.int (if s.ptr=none then 0 else 1)]
noncomputable def bt2 (ss:List SS) (i j:Nat):Bool:=tU ((ss.map uB).getD i []) ((ss.map uB).getD j [])
theorem zBP (s t:SS) (h:j <= i):tU (tF s i) (tF t j)=tU (uB s) (uB t):=by
 have a:¬ ((i:Int) < j):=by omega
 unfold tF uB
 simp only [tU,eqV,ltF]
 cases s.ptr <;> cases t.ptr <;> simp [a]
theorem hU (ss:List SS):∀ k,k < ss.length->argBest (λi j=>tU ((wQ 0 ss).getD i []) ((wQ 0 ss).getD j [])) k=argBest (bt2 ss) k
 | 0,_=>rfl
 | k + 1,h=>by
  unfold argBest
  rw [hU ss k (by omega)]
  have l:=tY (bt2 ss) k
  generalize argBest (bt2 ss) k=b at l
  have a:b < ss.length:=by omega
  have c:tU ((wQ 0 ss).getD (k + 1) []) ((wQ 0 ss).getD b [])=bt2 ss (k + 1) b:=by
   unfold bt2
   rw [zMO,zMO,tO (zMK h),tO (zMK a),zMO,zMO,zMP,zMP,zMK h,zMK a]
   exact zBP _ _ (by omega)
  rw [c]
theorem zE9 (h:ss ≠ []):pI ss=argBest (bt2 ss) (ss.length - 1):=by
 have:0 < ss.length:=zM9.mpr h
 unfold pI nZ
 rw [uL]
 exact hU ss _ (by omega)
inductive HD where
 | want (z:Str) (r:Option Nat)
 | leave (z:Str)
 | done (z:Str)
 | ask (z:Str) (r:Nat)
 | come (z:Str) (r:Nat) (b:Bool)
noncomputable def rV:Option Nat->V
 | none=>.non
 | some i=>.int (i:Int)
noncomputable def hdV:HD->List V
 | .want z r=>[.str S8,.str z,rV r]
 | .leave z=>[.str NZ,.str z]
 | .done z=>[.str S3,.str z]
 | .ask z r=>[.str NX,.str z,.int (r:Int)]
 | .come z r b=>[.str NW,.str z,.int (r:Int),.bl b]
inductive AtR (nb:List Str) (ss:List SS):HD->Nat->SS->DD->Prop
 | any {z:Str} {i:Nat} {s:SS}:ss[i]?=some s->i=pI ss->yR z->z ∉ yZ ss->AtR nb ss (.want z none) i s (.want z)
 | want {z:Str} {i:Nat} {s:SS}:ss[i]?=some s->yR z->z ∉ yZ ss->AtR nb ss (.want z (some i)) i s (.want z)
 | leave {z:Str} {i:Nat} {s:SS}:ss[i]?=some s->askR z ∈ s.row->AtR nb ss (.leave z) i s (.leave z)
 | done {z:Str} {i:Nat} {s:SS}:ss[i]?=some s->s.hold=some z->AtR nb ss (.done z) i s (.done z)
 | ask {z:Str} {i:Nat} {s:SS}:ss[i]?=some s->z ∈ nb->yR z->s.ptr ≠ some z->hsR z ∉ s.row->AtR nb ss (.ask z i) i s (.ask z)
 | come {z:Str} {i:Nat} {s:SS} {b:Bool}:ss[i]?=some s->z ∈ nb->s.ptr=some z->AtR nb ss (.come z i b) i s (.come z b)
theorem AtR.here (a:AtR b ss h i s d):ss[i]?=some s:=by cases a <;> assumption
theorem AtR.ok (a:AtR j ss h i s d):fX s d:=by
 have no:∀ {z:Str},ss[i]?=some s->z ∉ yZ ss->s.hold ≠ some z/\askR z ∉ s.row:=λc f=>by
  have:=λq=>f (wM.mpr ⟨i,s,c,xD.mpr q⟩)
  exact ⟨λe=>this (.inl e),λe=>this (.inr e)⟩
 cases a with
 | any h _ g n=>exact ⟨(no h n).1,(no h n).2,g⟩
 | want h g n=>exact ⟨(no h n).1,(no h n).2,g⟩
 | leave h m=>exact m
 | done h m=>exact m
 | ask h m g a b=>exact ⟨a,b,g⟩
 | come h m a=>exact a
theorem uH.deed (I:uH k ss) (a:AtR r ss h i s d) (lt:∀ s ∈ ss,s.row.length < 800):uH (k + 1) (ss.set i (yC (xG s d)).1):=by
 have c:=a.here
 have g:=zMN c
 have m:=I.si s g
 have nm:=iJ (xG s d)
 have sub:∀ l:(wZ (xG s d)).Sublist (wZ s),(yZ (ss.set i (yC (xG s d)).1)).Nodup/\(yZ (ss.set i (yC (xG s d)).1)).length <= k + 1:=λl=>by
  have j:=iK (s':=(yC (xG s d)).1) c (by rw [nm];exact l)
  exact ⟨I.nd.sublist j,Nat.le_succ_of_le (zMU j.length_le I.ln)⟩
 have more:∀ z,wZ (xG s d)=wZ s ++ [z]->z ∉ yZ ss->(yZ (ss.set i (yC (xG s d)).1)).Nodup/\(yZ (ss.set i (yC (xG s d)).1)).length <= k + 1:=λz e q=>by
  have p:=m7 (s':=(yC (xG s d)).1) c (by rw [nm];exact e)
  exact ⟨p.nodup_iff.mpr (List.nodup_cons.mpr ⟨q,I.nd⟩),by rw [p.length_eq,zM4];exact Nat.succ_le_succ I.ln⟩
 have jI:(yZ (ss.set i (yC (xG s d)).1)).Nodup/\(yZ (ss.set i (yC (xG s d)).1)).length <= k + 1:=by
  cases a with
  | @any z _ _ _ _ _ n=>exact more z (by rw [wX,wX];show _ ++ askN (s.row ++ [askR z])=_;rw [hX,<- zNE];rfl) n
  | @want z _ _ _ _ n=>exact more z (by rw [wX,wX];show _ ++ askN (s.row ++ [askR z])=_;rw [hX,<- zNE];rfl) n
  | leave _ _=>
   refine sub ?_
   rw [wX,wX]
   refine List.Sublist.append (List.Sublist.refl _) ?_
   exact (List.Sublist.filter _ List.filter_sublist).map _
  | done _ _=>
   refine sub ?_
   rw [wX,wX]
   exact List.sublist_append_right _ _
  | ask _ _ _ _ _=>
   refine sub ?_
   rw [wX,wX]
   show ((match s.hold with | some z=>[z] | none=>[]) ++ askN (s.row ++ [hsR _])).Sublist _
   rw [d9]
   exact List.Sublist.refl _
  | @come z _ _ b _ _ _=>
   refine sub ?_
   rw [wX,wX]
   cases b with
   | false=>exact List.Sublist.refl _
   | true=>
    show ((match s.hold with | some z=>[z] | none=>[]) ++ askN (s.row ++ [hsR z])).Sublist _
    rw [d9]
    exact List.Sublist.refl _
 refine ⟨λt f=>?_,jI.1,jI.2,λt f=>?_⟩
 ·rcases List.mem_or_eq_of_mem_set f with h | rfl
  ·exact I.si t h
  ·exact zBH (zCG m a.ok)
 ·rcases List.mem_or_eq_of_mem_set f with h | rfl
  ·exact I.rl t h
  ·refine zMU (iN _) ?_
   rw [lG]
   exact zMU (n9 _ _) (lt s g)
noncomputable def oY (i:Nat):List V->List V
 | []=>[]
 | x :: l=>x :: .int (i:Int) :: l
noncomputable abbrev sNu:Stmt:=top 31
noncomputable abbrev sCr:Stmt:=yX (top 26) 6
noncomputable abbrev sRW:Stmt:=yX (top 32) 15
noncomputable abbrev sRO:Stmt:=yX (top 32) 16
noncomputable abbrev sBR:Stmt:=yX (top 32) 17
noncomputable abbrev sCL:Stmt:=yX (top 32) 18
theorem iE {X:Cx} (e:X.K=K:=by rfl):OpR X (binaryOp .Add) (zAV K):=e ▸ dI
theorem jT {X:Cx} (e:X.K=K:=by rfl):SlR X (cQ K):=e ▸ rP
theorem at0 {a:Type} (x:a) (l:List a):atI (x :: l) 0=some x:=uJ (j:=0) rfl
theorem at1 {a:Type} (x y:a) (l:List a):atI (x :: y :: l) 1=some y:=uJ (j:=1) rfl
theorem at2 {a:Type} (x y z:a) (l:List a):atI (x :: y :: z :: l) 2=some z:=uJ (j:=2) rfl
theorem at3 {a:Type} (x y z u:a) (l:List a):atI (x :: y :: z :: u :: l) 3=some u:=uJ (j:=3) rfl
theorem bW (x:V) (l:List V):uS (x :: l) (some 1) none=l:=by
 unfold uS
 rw [show (1:Int)=((1:Nat):Int) from rfl,HT.sIx_nat]
 simp only [zM4]
 rw [show min 1 (l.length + 1)=1 by omega]
 show l.take _=l
 rw [zM8]
 show l.length <= HT.sIx (l.length + 1) (l.length + 1) none - 1
 unfold HT.sIx
 simp
theorem zBT {its:List V} (A:its.length < sizeLine) (Pv:Nat->List V->St->Hp->Prop) (l:Pv 0 [] (stC xs ix σ) (upd H1 acc (.lst []))) (d:∀ i ys b H,Pv i ys b H->H acc=some (.lst ys)/\ys.length <= i/\SqL K H a its)
  (n:∀ i ys b H x T,its[i]?=some x->Pv i ys b H->H T=none->g (.ref T) b (upd H T (.tup [.int (k + i),x])) λc o=>q c o λy f=>f acc=some (.lst ys)/\Pv (i + 1) (ys ++ [y]) c (upd f acc (.lst (ys ++ [y])))) (hd:∀ ys b H,Pv its.length ys b H->Q (.ref acc) H):LCW (Ite K a k) xs ix g sY q σ H1 acc Q:=by
 refine ⟨λi m ys b H=>m=its.length - i/\i <= its.length/\Pv i ys b H,⟨its.length,by simp,zMT _,l⟩,?_⟩
 rintro i m ys b H ⟨rfl,B,p⟩
 obtain ⟨r,C,j⟩:=d i ys b H p
 refine ⟨r,by omega,?_⟩
 by_cases h:i < its.length
 ·refine .inr ⟨⟨its,its[i],j,by simp [h]⟩,Pv (i + 1),λs t u w=>⟨its.length - (i + 1),by omega,rfl,h,w⟩,λx u y=>?_⟩
  obtain ⟨T,v,rfl,z,rfl,y⟩:=y
  exact oA (R:=λc _=>λy f=>f acc=some (.lst ys)/\Pv (i + 1) (ys ++ [y]) c (upd f acc (.lst (ys ++ [y])))) (n i ys b _ v T (y its j) p z)
 ·have e:i=its.length:=by omega
  subst e
  exact .inl ⟨⟨its,j,zMS _⟩,hd ys b H p⟩
theorem cY (ss:List SS) (i:Nat):(yZ (ss.take i)).length <= (yZ ss).length:=by
 have e:yZ ss=yZ (ss.take i) ++ yZ (ss.drop i):=by
  unfold yZ
  rw [<- List.flatMap_append,List.take_append_drop]
 rw [e,zM1];omega
theorem fU (ss:List SS) (i:Nat):(wV 0 (ss.take i)).length <= (yZ ss).length:=by
 have:=cY ss i
 rw [<- xS _ 0,zMJ] at this
 exact this
theorem vJ {a:Type} {l:List a} {i:Nat} {x:a} (h:l[i]?=some x):l.take (i + 1)=l.take i ++ [x]:=by rw [List.take_add_one,h];rfl
noncomputable def kvR (a:List (Str × List V)):List (Key × V):=a.map λr=>((Sum.inr r.1:Key),r.2.headD .non)
theorem nC:∀ {a:List (Str × List V)} {z:Str},z ∉ a.map (·.1)->tK (kvR a) (.inr z)=none
 | [],_,_=>rfl
 | r :: a,z,h=>by
  rw [List.map_cons,List.mem_cons,not_or] at h
  show tK ((Sum.inr r.1,r.2.headD .non) :: kvR a) _=none
  rw [t9 (by show ¬ ((Sum.inr r.1:Key)=.inr z);intro e;injection e with e;exact h.1 e.symm)]
  exact nC h.2
theorem iU:∀ {a:List (Str × List V)} {r:Str × List V},(a.map (·.1)).Nodup->r ∈ a->tK (kvR a) (.inr r.1)=some (r.2.headD .non)
 | [],_,_,h=>by cases h
 | x :: a,r,b,h=>by
  obtain ⟨n1,n2⟩:=List.nodup_cons.mp (show (x.1 :: a.map (·.1)).Nodup from b)
  show tK ((Sum.inr x.1,x.2.headD .non) :: kvR a) _=_
  rcases List.mem_cons.mp h with rfl | h
  ·exact rL rfl
  ·rw [t9 (by show ¬ ((Sum.inr x.1:Key)=.inr r.1);intro e;injection e with e;exact n1 (e ▸ List.mem_map_of_mem h))]
   exact iU n2 h
theorem wS (h:Paired R a b):∀ (i:Nat) (q:Addr),a[i]?=some q->∃ r,b[i]?=some r/\R q r:=by
 induction h with
 | nil=>intro i q e;simp at e
 | @cons q r a b c _ d=>
  intro i x e
  cases i with
  | zero=>simp at e;subst e;exact ⟨r,rfl,c⟩
  | succ i=>exact d i x (by simpa using e)
theorem zGI (nm:V) (nl a:Addr):(hfl nm nl a).lookup (Sz : Str)=none:=rfl
theorem lC (nm:V) (nl a:Addr):(hfl nm nl a).lookup (Sj : Str)=none:=rfl
theorem zB2 (nm:V) (nl a:Addr):(hfl nm nl a).lookup (Sg : Str)=none:=rfl
theorem zLV (nm:V) (nl a:Addr):(hfl nm nl a).lookup (T8 : Str)=none:=rfl
theorem zGH (nm:V) (nl a:Addr):(hfl nm nl a).lookup (Sa : Str)=none:=rfl
theorem zGJ (nm:V) (nl a:Addr):(hfl nm nl a).lookup (SF : Str)=some (.ref nl):=rfl
section
variable {P:Program} {w:World} {K:W.Frag} {mg:Str->Option Value} {base:Heap} {C CS:Addr}
theorem scNu:zO Nj Nj (zG sNu):=scm
theorem scCr:zO N5 N5 (zG sCr):=scm
theorem scRW:zO N5 N5 (zG sRW):=scm
theorem zDC:zO ["self",NV,"wanted"] N4 (zG sRO):=scm
theorem scBR:zO N5 N5 (zG sBR):=scm
theorem zKK:zO N6 N6 (zG sCL):=scm
noncomputable def oF:Sp:=λd H Q _=>∃ (i:Nat) (a:Addr) (b:List (List V)),d=[.int (i:Int),.ref a]/\Rows H a b/\(∀ l ∈ b,l ≠ []/\l.length <= 10)/\b.length <= 100/\∀ (r:Addr) (c:Hp),Rows c r (b.map (oY i))->H r=none->zE [] H c->Q (.ref r) c
theorem m5 (n:l ≠ []/\l.length <= 10) (j:H q=some (.tup l)) (h:∀ t f,zE [] H f->f t=some (.tup (oY i l))->R (.ref t) f) :
  tOp (zAV K) (zC0 (vD (tOp j7 (tM 0) (tC (.int 0))) (vD (tM 1) t7))) (tSl (cQ K) (tM 0) (zFJ (tC (.int 1))) f7) [some (.ref q),some (.int (i:Int))] H R:=by
 obtain ⟨n1,n2⟩:=n
 cases l with
 | nil=>exact absurd rfl n1
 | cons x l=>
 have o:l.length <= 9:=by simpa using n2
 refine ⟨_,rfl,q,_,0,x,rfl,rfl,j,at0 _ _,_,rfl,by show 2 <= sizeLine;decide,λu r=>?_⟩
 have b:zE [] H (upd H u (.tup [x,.int (i:Int)])):=zE.new r
 have k:upd H u (.tup [x,.int (i:Int)]) u=some (.tup [x,.int (i:Int)]):=zC
 have a:=b.z j
 generalize upd H u (.tup [x,.int (i:Int)])=c at b k a ⊢
 refine ⟨_,rfl,_,rfl,q,_,rfl,.of a,.inr ⟨?_,λv s=>?_⟩⟩
 ·rintro ⟨e,_⟩
  rw [show (1:Int)=((1:Nat):Int) from rfl,HT.sIx_nat] at e
  simp only [zM4] at e
  omega
 rw [bW]
 have d:zE [] c (upd c v (.tup l)):=zE.new s
 have g:=d.z k
 have m:upd c v (.tup l) v=some (.tup l):=zC
 generalize upd c v (.tup l)=y at d g m ⊢
 refine ⟨u,v,[x,.int (i:Int)],l,rfl,rfl,.of g,.of m,by simp,by rw [sizeLine_eq];show 2 + _ <= _;omega,λe=>?_,λ_ p A=>?_⟩
 ·subst e
  exact h u y (b.trans d) g
 ·exact h p _ ((b.trans d).trans (zE.new A)) zC
theorem okNu (G:yM K mg Sh sNu Nj):Cal P w K mg base CX0 1 Sh Nj oF:=by
 refine G.oz scNu (λf j A c u H m Q E x h=>?_)
 obtain ⟨i,a,n,rfl,R,o,y,q⟩:=h
 obtain ⟨z,d,p⟩:=id R
 refine ⟨_,(zF (zL (vX (N:=Nj) (sc:=zG sNu) (ix:=[0]) (by decide +kernel) (xR (pv 1)) (λ_ _ _ _=>xQ) (λ_ _ _ _=>(yK (iE (K:=K)) (z9 (zA (zS z4 (pv 0) zH (λ_ _=>rfl)) (zA (pv 1) zB))) (wB (jT (K:=K)) (pv 0) (wA zH) vG)))))),?_⟩
 refine ⟨_,rfl,a,rfl,⟨_,.of d⟩,λacc b=>?_⟩
 refine pZ (ds:=n) id (oY i) (λ_=>true) (λl q=>[some (.ref q)]) [some (.int (i:Int))] (by omega) b (by rw [List.map_id];exact R) ⟨[none],rfl,rfl⟩ (λ_ _=>rfl) ?_ ?_ ?_ ?_
 ·intro l q m H R _ r e h
  obtain ⟨v,rfl⟩:=List.length_eq_one_iff.mp r
  exact h
 ·intro l q H R _ _ _ h
  exact h H (zE.refl _)
 ·intro l q H R s e h
  exact m5 (o l s) e h
 ·intro t g k
  rw [List.filter_eq_self.mpr (λ_ _=>rfl)] at g
  exact q acc t g b k
noncomputable def zJV (CS:Addr):Sp:=λa H Q _=>∃ p b s,a=[.ref p]/\yE CS H p b s/\Q (.int (nO s:Int)) H
theorem okCr (TS:xM K CS) (G:yW K CS "crowd" "Seat.crowd" sCr N5) (a:Blt mg Sc):yI P w K mg base CX0 1 CS "crowd" N5 (zJV CS):=by
 refine G.oz scCr (λf l A c m H n Q E o h=>?_)
 obtain ⟨p,r,s,rfl,S,q⟩:=h
 obtain ⟨⟨i,b⟩,⟨t,d,e⟩,j⟩:=id S
 have g:=zZ e
 rw [zMJ] at g
 refine ⟨_,(zF (zL (yK xV (zY z8 a yS (zA (yB (pv 0) rfl) zB)) (rX (zQ uO (yB (pv 0) rfl) yV (zW _)) zH zH)))),?_⟩
 refine ⟨_,rfl,p,CS,i,_,_,rfl,b,TS.cl,TS.nW,rG _ _ _ _,_,_,rfl,.inl ⟨_,.of d,rfl⟩,_,rfl,p,CS,i,_,_,rfl,b,TS.cl,TS.nH,iX _ _ _ _,rfl,_,rfl,?_⟩
 unfold nO at q
 cases k:s.hold with
 | none=>
  rw [k,if_pos rfl] at q
  refine ifT rfl ⟨_,_,rfl,rfl,?_⟩
  rw [zMJ,g]
  exact q
 | some z=>
  rw [k,if_neg (by simp)] at q
  refine ifF rfl ⟨_,_,rfl,rfl,?_⟩
  rw [zMJ,g]
  exact q
noncomputable def aU (C CS:Addr):Sp:=λd H Q _=>∃ B p nm e f a,d=[.ref p]/\z7 B C CS H p nm e f a/\(yZ a).Nodup/\(yZ a).length < 64 /\
 ∀ l b c,b.Perm (wV 0 a)->Asc ltN b->Rows c l (b.map nmV)->H l=none->zE [] H c->Q (.ref l) c
theorem zLD (T:xK K C) (TS:xM K CS) (G:yW K C Sz "House.askers" zAM N5) (aa:yI P w K mg base CX0 1 CS Sz N5 (zJK CS)) (e:Blt mg "sorted") (d:Blt mg "enumerate"):yI P w K mg base CX0 2 C Sz N5 (aU C CS):=by
 refine G.oz zKH (λf an A ab s0 H vs Q E hr h=>?_)
 obtain ⟨B,p,nm,nb,xs,m,rfl,⟨dx,nl,sl,_,hp,ao,O,a0,ac⟩,nd,ae,q⟩:=h
 have af:z6 1 _:=hr
 refine ⟨_,(zF (zL (zY qC e lJ (zA (zDZ (N:=N5) (sc:=zG zAM) (ix:=[]) (by decide +kernel) (oT rfl d.no (yB (pv 0) rfl)) (λ_ _ _ _=>iA (K:=K) (xL aa TS.cl af (pv 1))) (λ_ _ _ _=>xQ) (λ_ _ _ _=>xQ) (λ_ _ _ _=>(z9 (zA (pv 2) (zA (pv 0) (zA (pv 3) zB)))))) zB)))),?_⟩
 refine ⟨_,rfl,p,C,dx,_,_,rfl,hp,T.cl,T.nS,wT _ _ _,sl,rfl,⟨_,.of O⟩,λacc o=>?_⟩
 have sa:sl ≠ acc:=zI O o
 refine zBW (K:=K) (a:=sl) (k:=0) (its:=xs.map λx=>V.ref x.1) (λi v L I=>∃ v0 v1 v2 v3 J,L=[v0,v1,v2,v3]/\v=J.map V.ref/\Paired (λq r=>I q=some (.tup r)) J ((wV 0 (m.take i)).map nmV)/\zE [acc] H I/\I acc=some (.lst v)) ⟨_,_,_,_,[],rfl,rfl,.nil,zE.at (by simp),zC⟩ (λi v L I _ ⟨_,_,_,_,_,_,_,_,k,_⟩=>.of (k _ _ (by simp [sa]) O)) ?_ ?_
 ·rintro i v L I x TT hx ⟨v0,v1,v2,v3,J,rfl,rfl,M,k1,h1⟩ ah
  obtain ⟨y,ex,rfl⟩:=gm hx
  have il:i < m.length:=by rw [<- a0];exact (zML.mp ex).1
  have es:m[i]?=some m[i]:=zMK il
  generalize m[i]=s at es
  have S:=ac i y _ ex es
  rw [show (0:Int) + (i:Int)=(i:Int) from Int.zero_add _]
  have k2:zE [] I (upd I TT (.tup [.int (i:Int),.ref y.1])):=zE.new ah
  have e2:upd I TT (.tup [.int (i:Int),.ref y.1]) TT=some (.tup [.int (i:Int),.ref y.1]):=zC
  generalize upd I TT (.tup [.int (i:Int),.ref y.1])=H2 at k2 e2
  have S2:=(S.keep (k1.drop o)).keep k2
  obtain ⟨dy,ai⟩:=S2.ob
  refine ⟨TT,_,rfl,.of e2,rfl,_,_,rfl,_,_,rfl,rfl,?_⟩
  refine ⟨_,rfl,y.1,dy,_,rfl,ai,zL8 _ _ _ _,y.1,y.2,_,rfl,S2,λr H3 hR hr k3=>⟨r,rfl,?_⟩⟩
  obtain ⟨rs,a3,a4⟩:=hR
  have a5:=zZ a4
  rw [zMJ] at a5
  have U:=k2.trans k3
  have h3:=U.z h1
  have ra:r ≠ acc:=Ne.symm (zI (k2.z h1) hr)
  have aj:=zP U (λb Y=>by cases Y) M
  have et:(wV 0 (m.take (i + 1))).map nmV=(wV 0 (m.take i)).map nmV ++ (uD s).map λa=>[.str a.1,.int (i:Int),.bl a.2]:=by
   rw [vJ es,qW,zMV,zM3,zM2,Nat.zero_add,show min i m.length=i by omega];rfl
  have lt:((wV 0 (m.take i)).map nmV).length + (uD s).length < 64:=by
   have a1:=congrArg List.length et
   have a2:=fU m (i + 1)
   simp only [zM1,zMJ] at a1 ⊢
   omega
  refine ⟨⟨_,.of a3⟩,?_⟩
  refine zB1 (K:=K) (its:=rs.map V.ref) (λj v L n=>∃ w2 w3 c,L=[some (.int (i:Int)),some (.ref y.1),w2,w3]/\v=(J ++ c).map V.ref/\Paired (λq r=>n q=some (.tup r)) (J ++ c) ((wV 0 (m.take i)).map nmV ++ ((uD s).take j).map λa=>[.str a.1,.int (i:Int),.bl a.2])/\zE [acc] H3 n/\n acc=some (.lst v)) ?_ ?_ ?_ ?_
  ·exact ⟨v2,v3,[],rfl,by simp,by simpa using aj,zE.refl _,h3⟩
  ·rintro j v L n ⟨w2,w3,c,rfl,rfl,g,k4,h4⟩
   refine ⟨h4,?_,.of (k4 _ _ (by simp [ra]) a3)⟩
   have:=zZ g
   rw [zM1,zM1,zMJ (as:=List.take j _),zM2] at this
   rw [zMJ,zM1,sizeLine_eq];omega
  ·rintro j v L n x hx ⟨w2,w3,c,rfl,rfl,g,k4,h4⟩
   obtain ⟨u,eu,rfl⟩:=gm hx
   obtain ⟨r',D,hu⟩:=wS a4 j u eu
   rw [zMP] at D
   cases ea:(uD s)[j]? with
   | none=>rw [ea] at D;cases D
   | some a=>
   rw [ea] at D
   have e':zIU a=r':=zMQ D
   subst e'
   have ua:u ≠ acc:=wY hu h3 (by intro z;cases z)
   have hu4:=k4 _ _ (by simp [ua]) hu
   refine ⟨u,_,rfl,.of hu4,rfl,_,_,rfl,_,_,rfl,rfl,?_⟩
   refine ⟨_,rfl,_,rfl,_,rfl,by show 3 <= sizeLine;decide,λt ht=>?_⟩
   have k5:zE [] n (upd n t (.tup [.str a.1,.int (i:Int),.bl a.2])):=zE.new ht
   have e5:upd n t (.tup [.str a.1,.int (i:Int),.bl a.2]) t=some (.tup [.str a.1,.int (i:Int),.bl a.2]):=zC
   have h5:=k5.z h4
   have ta:t ≠ acc:=Ne.symm (zI h4 ht)
   refine ⟨h5,_,_,c ++ [t],rfl,by simp,?_,(k4.trans (k5.mono (by simp))).trans (zE.at (by simp)),zC⟩
   have k6:zE [acc] (upd n t (.tup [.str a.1,.int (i:Int),.bl a.2])) (upd (upd n t (.tup [.str a.1,.int (i:Int),.bl a.2])) acc (.lst ((J ++ c).map V.ref ++ [.ref t]))):=zE.at (by simp)
   have nt:∀ b ∈ [acc],∀ xs,upd n t (.tup [.str a.1,.int (i:Int),.bl a.2]) b ≠ some (.tup xs):=λb Y xs z=>by rw [zMM.mp Y,h5] at z;cases z
   have er:((uD s).take (j + 1)).map (λa=>[V.str a.1,V.int (i:Int),V.bl a.2])=((uD s).take j).map (λa=>[V.str a.1,V.int (i:Int),V.bl a.2]) ++ [[V.str a.1,.int (i:Int),.bl a.2]]:=by rw [vJ ea,zMV];rfl
   rw [er,<- zNE J,<- zNE (List.map nmV _)]
   exact wP (zP k6 nt (zP k5 (λb Y=>by cases Y) g)) (k6 _ _ (by simp [ta]) e5)
  ·rintro v L n ⟨w2,w3,c,rfl,rfl,g,k4,h4⟩
   refine ⟨_,_,_,_,J ++ c,rfl,rfl,?_,k1.trans ((U.mono (by simp)).trans k4),h4⟩
   rw [et]
   rw [zMJ,a5,zNJ] at g
   exact g
 ·rintro v L I ⟨v0,v1,v2,v3,J,rfl,rfl,M,k1,h1⟩
  have a6:=k1.drop o
  rw [zMJ,a0,zNJ] at M
  refine ⟨acc,J,wV 0 m,rfl,h1,M,by rw [xS];exact nd,by rw [<- zMJ (f:=(·.1)),xS];exact ae,λl c ak hl pm al pr=>?_⟩
  exact q l ak _ pm al ⟨c,zC,zP (zE.new (S:=[]) hl) (λb Y=>by cases Y) pr⟩ (a6.none (by simp) hl) (a6.trans (zE.new hl))
noncomputable def aO (C CS:Addr):Sp:=λe H Q _=>∃ (B:Addr->Prop) (p:Addr) (nm:Str) (f:List Str) (g:List (Addr × Addr)) (c:List SS),e=[.ref p]/\z7 B C CS H p nm f g c/\(yZ c).Nodup/\(yZ c).length < 64 /\
 ∀ (a:Addr) (b:List (Key × V)) (d:Hp),d a=some (.dK b)->(∀ z,z ∉ yZ c->tK b (.inr z)=none)->(∀ (z:Str) (i:Nat) (s:SS),c[i]?=some s->z ∈ wZ s->tK b (.inr z)=some (.int (i:Int)))->zE [] H d->Q (.ref a) d
theorem okRW (T:xK K C) (G:yW K C Sj "House.rights_wanted" sRW N5) (o:yI P w K mg base CX0 2 C Sz N5 (aU C CS)):yI P w K mg base CX0 3 C Sj N5 (aO C CS):=by
 refine G.oz scRW (λf a1 A L s0 H vs Q E hr h=>?_)
 obtain ⟨B,p,nm,nb,xs,ss,rfl,hh,nd,t,q⟩:=h
 have M:z6 2 _:=hr
 obtain ⟨dx,nl,sl,_,hp,_⟩:=id hh
 refine ⟨_,(zF (zL (zHL (N:=N5) (sc:=zG sRW) (ix:=[]) (by decide +kernel) (xR (xL o T.cl M (pv 0))) (λ_ _ _ _=>xQ) (λ_ _ _ _=>(pv 0)) (λ_ _ _ _=>(pv 1))))),?_⟩
 refine ⟨_,rfl,p,dx,_,rfl,hp,zGI _ _ _,B,p,nm,nb,xs,ss,rfl,hh,nd,t,λl d H1 pm a2 R hl k1=>⟨l,rfl,?_⟩⟩
 obtain ⟨qs,e,v⟩:=id R
 have lq:=zZ v
 rw [zMJ] at lq
 refine ⟨⟨_,.of e⟩,λacc c=>?_⟩
 have la:l ≠ acc:=zI e c
 have y:(d.map (·.1)).Nodup:=(pm.map (·.1)).nodup_iff.mpr (by rw [xS];exact nd)
 have lr:d.length < 64:=by rw [pm.length_eq,<- zMJ (f:=(·.1)),xS];exact t
 refine zCI (K:=K) (a:=l) (its:=qs.map V.ref) (by rw [zMJ,sizeLine_eq];omega) (λi D I g=>∃ v0 v1 J,I=[v0,v1,J]/\D=kvR (d.take i)/\zE [acc] H1 g/\g acc=some (.dK D)) ?_ ?_ ?_ ?_
 ·exact ⟨_,_,_,rfl,rfl,zE.at (by simp),zC⟩
 ·rintro i D I g ⟨v0,v1,J,rfl,rfl,j,n⟩
  exact ⟨n,by unfold kvR;rw [zMJ,zM2];omega,.of (j _ _ (by simp [la]) e)⟩
 ·rintro i D I g x hx ⟨v0,v1,J,rfl,rfl,j,n⟩
  obtain ⟨u,eu,rfl⟩:=gm hx
  obtain ⟨r',O,hu⟩:=wS v i u eu
  obtain ⟨r,U,rfl⟩:=gm O
  obtain ⟨k,s,b,_,_,Y⟩:=sR.mp (pm.mem_iff.mp (zMN U))
  obtain ⟨z,r2⟩:=r
  have Y:r2=[V.int ((0 + k:Nat):Int),V.bl b]:=Y
  subst Y
  have ua:u ≠ acc:=zI hu c
  have a0:=j _ _ (by simp [ua]) hu
  refine ⟨u,_,rfl,.of a0,rfl,_,_,rfl,_,_,rfl,_,_,rfl,rfl,?_⟩
  refine ⟨_,rfl,_,rfl,.inr z,rfl,n,_,_,_,rfl,?_,j.trans (zE.at (by simp)),zC⟩
  have nz:z ∉ (d.take i).map (·.1):=by
   have sb:((d.take (i + 1)).map (·.1)).Nodup:=y.sublist ((List.take_sublist _ _).map _)
   rw [vJ U,zMV] at sb
   intro hm
   exact absurd rfl ((List.nodup_append.mp sb).2.2 z hm z (by simp))
  rw [zAX _ (nC nz),vJ U]
  unfold kvR
  rw [zMV];rfl
 ·rintro D I g ⟨v0,v1,J,rfl,rfl,j,n⟩
  rw [zMJ,lq,zNJ] at n
  refine q acc (kvR d) g n (λz hz=>nC λhm=>hz ?_) (λz i s es hz=>?_) (k1.trans (j.drop c))
  ·have:=(pm.map (·.1)).mem_iff.mp hm
   rwa [xS] at this
  ·obtain ⟨a,ha,rfl⟩:=List.mem_map.mp hz
   have m:(a.1,[V.int ((0 + i:Nat):Int),V.bl a.2]) ∈ d:=pm.mem_iff.mpr (sR.mpr ⟨i,s,a.2,es,ha,rfl⟩)
   rw [iU y m,Nat.zero_add];rfl
noncomputable def aR (C CS:Addr):Sp:=λc H Q _=>∃ (B:Addr->Prop) (p:Addr) (nm:Str) (d:List Str) (e:List (Addr × Addr)) (a:List SS) (z:Str) (i:Nat) (s:SS),c=[.ref p,.str z]/\z7 B C CS H p nm d e a/\(yZ a).Nodup/\(yZ a).length < 64/\a[i]?=some s/\z ∈ wZ s/\yR z /\
 ∀ b,zE [] H b->Q (.int (i:Int)) b
theorem okRO (T:xK K C) (G:yW K C Sg "House.right_of" sRO N4) (u:Cal P w K mg base CX0 2 S6 NC tE) (c:yI P w K mg base CX0 3 C Sj N5 (aO C CS)):yI P w K mg base CX0 4 C Sg N4 (aR C CS):=by
 refine G.oz zDC (λf v A d s0 H vs Q E g h=>?_)
 obtain ⟨B,p,nm,x,y,D,z,i,s,rfl,I,J,j,L,M,n,q⟩:=h
 have l:z6 3 _:=g
 have m:z6 2 _:=g.mono (by decide)
 have o:=vT g
 refine ⟨_,(zD (yA (zN u m (zA (pv 1) zB)))
   (zD (zX (i:=2) zDC.nd rfl (Or.inl rfl) (xL c T.cl l (pv 0)))
   (zD (z5 (kU (m3 o (pv 1) (pv 2))) (zF xH) zM)
   (zF (zL (yP o (pv 2) (pv 1) (λ_ _=>rfl))))))),?_⟩
 refine ⟨_,rfl,z,rfl,n.1,zMU n.2 (by decide),λH1 r=>?_⟩
 have b:=I.on r
 obtain ⟨N,nl,sl,_,O,_⟩:=id b
 refine ⟨_,rfl,p,N,_,rfl,O,lC _ _ _,B,p,nm,x,y,D,rfl,b,J,j,λa U Y ha _ hv k2=>?_⟩
 have e:=hv z i s L M
 have t:=e ▸ t5.k (k:=Sum.inr z) ha
 refine ⟨_,rfl,_,rfl,a,_,rfl,t,_,rfl,ifF rfl ?_⟩
 exact ⟨_,rfl,_,rfl,a,_,rfl,t,q Y (r.trans k2)⟩
theorem zBE (o:Option Str):(!decide (yD o=V.non))=decide (o ≠ none):=by cases o <;> simp [yD]
noncomputable def zJY (C CS:Addr):Sp:=λc H Q _=>∃ B p nm d e a,c=[.ref p]/\z7 B C CS H p nm d e a/\a ≠ []/\a.length <= 100/\∀ b,zE [] H b->Q (.int (pI a:Int)) b
theorem okBR (T:xK K C) (TS:xM K CS) (G:yW K C T8 "House.best_right" sBR N5) (a0:yI P w K mg base CX0 1 CS "crowd" N5 (zJV CS)) (MA:yI P w K mg base CX0 1 CS Sn N5 (kD CS)) (n:Blt mg "min") (d:Blt mg "enumerate"):yI P w K mg base CX0 2 C T8 N5 (zJY C CS):=by
 refine G.oz scBR (λf a6 A a1 s0 H vs Q E Y h=>?_)
 obtain ⟨B,p,nm,nb,xs,g,rfl,⟨dx,nl,sl,_,hp,aa,o,v,a2⟩,ne,a5,q⟩:=h
 have I:z6 1 _:=Y
 have hu:=vT Y
 refine ⟨_,(zF (zL (zS z4 (zY (bY rfl (sP hu)) n zIQ (zA (zA5 (N:=N5) (sc:=zG sBR) (ix:=[]) (by decide +kernel) (oT rfl d.no (yB (pv 0) rfl)) (λ_ _ _ _=>xQ) (λ_ _ _ _=>(z9 (zA (xL a0 TS.cl I (pv 1)) (zA (xC vO (xL MA TS.cl I (pv 1)) yV (zW _)) (zA (pv 0) zB)))))) zB)) zH (λ_ _=>rfl)))),?_⟩
 refine ⟨_,rfl,p,C,dx,_,_,rfl,hp,T.cl,T.nS,wT _ _ _,sl,rfl,⟨_,.of o⟩,λacc j=>?_⟩
 have sa:sl ≠ acc:=zI o j
 refine zBT (K:=K) (a:=sl) (k:=0) (its:=xs.map λx=>V.ref x.1) (by rw [zMJ,v,sizeLine_eq];omega) (λi J τ l=>∃ v0 v1 m,τ=[v0,v1]/\J=m.map V.ref/\i <= g.length/\Paired (λq r=>l q=some (.tup r)) m (wQ 0 (g.take i))/\zE [acc] H l/\l acc=some (.lst J)) ⟨_,_,[],rfl,rfl,zMT _,.nil,zE.at (by simp),zC⟩ ?_ ?_ ?_
 ·rintro i J τ l ⟨v0,v1,m,rfl,rfl,il,e,k,L⟩
  refine ⟨L,?_,.of (k _ _ (by simp [sa]) o)⟩
  have:=zZ e
  rw [uL,zM2] at this
  rw [zMJ];omega
 ·rintro i J τ l x TT hx ⟨v0,v1,m,rfl,rfl,_,e,k1,L⟩ a3
  obtain ⟨y,ex,rfl⟩:=gm hx
  have il:i < g.length:=by rw [<- v];exact (zML.mp ex).1
  have es:g[i]?=some g[i]:=zMK il
  generalize g[i]=s at es
  have S:=a2 i y _ ex es
  rw [show (0:Int) + (i:Int)=(i:Int) from Int.zero_add _]
  have M:zE [] l (upd l TT (.tup [.int (i:Int),.ref y.1])):=zE.new a3
  have e2:upd l TT (.tup [.int (i:Int),.ref y.1]) TT=some (.tup [.int (i:Int),.ref y.1]):=zC
  generalize upd l TT (.tup [.int (i:Int),.ref y.1])=D at M e2
  have S2:=(S.keep (k1.drop j)).keep M
  obtain ⟨dy,O⟩:=S2.ob
  refine ⟨TT,_,rfl,.of e2,rfl,_,_,rfl,_,_,rfl,rfl,?_⟩
  refine ⟨_,rfl,y.1,dy,_,rfl,O,zL5 _ _ _ _,y.1,y.2,_,rfl,S2,?_⟩
  refine ⟨_,rfl,y.1,dy,_,rfl,O,zGN _ _ _ _,y.1,y.2,_,rfl,S2,rfl,?_⟩
  refine ⟨_,rfl,by show 3 <= sizeLine;decide,λt ht=>?_⟩
  rw [zBE]
  have k5:zE [] D (upd D t (.tup (tF s i))):=zE.new ht
  have e5:upd D t (.tup (tF s i)) t=some (.tup (tF s i)):=zC
  have h2:=M.z L
  have h5:=k5.z h2
  have ta:t ≠ acc:=Ne.symm (zI h2 ht)
  refine ⟨h5,_,_,m ++ [t],rfl,by simp,il,?_,((k1.trans (M.mono (by simp))).trans (k5.mono (by simp))).trans (zE.at (by simp)),zC⟩
  have k6:zE [acc] (upd D t (.tup (tF s i))) (upd (upd D t (.tup (tF s i))) acc (.lst (m.map V.ref ++ [.ref t]))):=zE.at (by simp)
  have nt:∀ b ∈ [acc],∀ xs,upd D t (.tup (tF s i)) b ≠ some (.tup xs):=λb hb xs z=>by rw [zMM.mp hb,h5] at z;cases z
  rw [vJ es,oP,zM2,Nat.zero_add,show min i g.length=i by omega]
  exact wP (zP k6 nt (zP (M.trans k5) (λb hb=>by cases hb) e)) (k6 _ _ (by simp [ta]) e5)
 ·rintro J τ l ⟨v0,v1,m,rfl,rfl,_,e,k1,L⟩
  rw [zMJ,v,zNJ] at e
  have lq:=zZ e
  rw [uL] at lq
  have pos:0 < g.length:=zM9.mpr ne
  refine ⟨acc,m,wQ 0 g,rfl,L,e,λr Y r' a4=>?_,by omega,λu eu=>?_⟩
  ·obtain ⟨a,b,c,rfl⟩:=oQ r Y
   obtain ⟨a',b',c',rfl⟩:=oQ r' a4
   exact .int (.bl (.int .nil))
  ·obtain ⟨r,er,hu⟩:=wS e _ u eu
   have lb:=n8 ne
   have eb:=tO (i:=0) (zMK lb)
   have U:(wQ 0 g)[pI g]?=some r:=er
   rw [eb] at U
   have e':=zMQ U
   subst e'
   refine ⟨u,_,2,_,rfl,rfl,hu,at2 _ _ _ _,?_⟩
   rw [Nat.zero_add]
   exact q l (k1.drop j)
noncomputable def a7 (C CS:Addr):Sp:=λd H Q _=>∃ (B:Addr->Prop) (p:Addr) (nm:Str) (a:List Str) (e:List (Addr × Addr)) (b:List SS) (z:Str) (i:Nat),d=[.ref p,.str z,.int (i:Int)]/\z7 B C CS H p nm a e b/\z ∈ a/\yR z/\i < b.length/\∀ c,zE [] H c->Q .non c
theorem okCL (T:xK K C) (G:yW K C Sa "House.check_letter" sCL N6) (s:Cal P w K mg base CX0 2 SO NG (lY K)) (t:Cal P w K mg base CX0 2 S9 Ni gI) (a:Blt mg Sc):yI P w K mg base CX0 3 C Sa N6 (a7 C CS):=by
 refine G.oz zKK (λf u A d M H N Q E v h=>?_)
 obtain ⟨B,p,nm,m,O,U,z,i,rfl,x,D,n,Y,q⟩:=h
 have b:z6 2 _:=v
 obtain ⟨o,nl,sl,_,r,g,j,I,_⟩:=id x
 refine ⟨_,(zD (z5 (y9 (y3 (zN s b (zA (pv 1) (zA (yB (pv 0) rfl) zB))))) (zF xH) zM)
   (zF (yA (zN t b (zA (pv 2) (zA (zY z8 a yS (zA (yB (pv 0) rfl) zB)) zB)))))),?_⟩
 refine ⟨_,rfl,_,rfl,p,C,o,_,_,rfl,r,T.cl,T.nB,zGJ _ _ _,.str z,"str",nl,m,rfl,.str z,(λy e=>by cases e;exact zMU n.2 (by decide)),g,λJ k=>⟨_,rfl,ifF ?_ ?_⟩⟩
 ·have L:inV (.str z) (m.map V.str)=true:=by
   unfold inV
   rw [List.any_map,List.any_eq_true]
   exact ⟨z,D,by show (z == z)=true;simp⟩
  unfold tG
  rw [L,show xB (.str z)=true from n.1];rfl
 ·have l:=k.z r
  have c:=k.z j
  exact ⟨_,rfl,_,rfl,p,C,o,_,_,rfl,l,T.cl,T.nS,wT _ _ _,_,_,rfl,.inl ⟨_,.of c,rfl⟩,_,_,rfl,by omega,by rw [zMJ];omega,q J k⟩
end
noncomputable abbrev sHW:Stmt:=yX (top 32) 1
noncomputable abbrev sHL:Stmt:=yX (top 32) 2
noncomputable abbrev sHD:Stmt:=yX (top 32) 3
noncomputable abbrev sHK:Stmt:=yX (top 32) 4
noncomputable abbrev sHC:Stmt:=yX (top 32) 5
theorem zF5 {xs:List (Addr × Addr)} (h:xs.Pairwise λa b=>a.1 ≠ b.1/\a.2 ≠ b.2) {i j:Nat} {x y:Addr × Addr} (g:xs[i]?=some x) (k:xs[j]?=some y) (n:i ≠ j):x.1 ≠ y.1/\x.2 ≠ y.2:=by
 obtain ⟨c,d⟩:=zML.mp g
 obtain ⟨e,f⟩:=zML.mp k
 rcases Nat.lt_or_gt_of_ne n with l | l
 ·have:=List.pairwise_iff_getElem.mp h i j c e l
  rw [d,f] at this
  exact this
 ·have:=List.pairwise_iff_getElem.mp h j i e c l
  rw [d,f] at this
  exact ⟨Ne.symm this.1,Ne.symm this.2⟩
theorem z7.seat {B:Addr->Prop} {C CS:Addr} {H g:Hp} {p:Addr} {nm:Str} {m:List Str} {xs:List (Addr × Addr)} {ss:List SS} {i:Nat} {x:Addr × Addr} {s':SS} (h:z7 B C CS H p nm m xs ss) (ex:xs[i]?=some x) (k:zE [x.1,x.2] H g) (S:yE CS g x.1 x.2 s'):z7 B C CS g p nm m xs (ss.set i s'):=by
 obtain ⟨w,nl,A,⟨D,E,G,d⟩,c,n,o,q,r⟩:=h
 have s:i < ss.length:=by rw [<- q];exact (zML.mp ex).1
 obtain ⟨⟨U,a⟩,⟨Y,b,_⟩,_⟩:=r i x _ ex (zMK s)
 have u:=zMN ex
 have I:p ≠ x.1:=λe=>by
  rw [e,a] at c
  injection c with c
  injection c with _ _ e
  unfold xO hfl at e
  injection e with e _
  injection e with e _
  exact absurd e (by decide +kernel)
 have J:=wY c b (by intro z;cases z)
 have n1:=wY n a (by intro z;cases z)
 have n2:=Ne.symm (d.1 x u).1
 have L:=wY o a (by intro z;cases z)
 have M:=Ne.symm (d.1 x u).2
 refine ⟨w,nl,A,⟨D,E,G,d⟩,k _ _ (by simp [I,J]) c,k _ _ (by simp [n1,n2]) n,k _ _ (by simp [L,M]) o,by rw [zNK];exact q,λj y t l f=>?_⟩
 by_cases e:j=i
 ·subst e
  rw [l] at ex
  cases ex
  rw [zNG s] at f
  cases f
  exact S
 ·rw [zNF (Ne.symm e)] at f
  have v:=r j y t l f
  obtain ⟨N,O⟩:=zF5 d.2 l ex e
  obtain ⟨⟨dz,Q⟩,⟨_,T,_⟩,_⟩:=id v
  exact v.keepS k (by simp [N,wY Q b (by intro z;cases z)]) (by simp [O,wY T a (by intro z;cases z)]) (uG a b)
theorem rC (s:SS):(∀ l ∈ (yC s).2,l ≠ []/\l.length <= 10)/\(yC s).2.length <= 100:=by
 unfold yC
 split
 ·exact ⟨λl a=>(by cases a),zMT _⟩
 ·rename_i b
  split
  ·split
   ·unfold wE
    split
    ·rename_i c;rw [c] at b;exact absurd rfl b
    ·split
     ·exact ⟨λl a=>by rw [zMM.mp a];exact ⟨by simp,by show 2 <= 10;decide⟩,by show 1 <= 100;decide⟩
     ·exact ⟨λl a=>by rw [zMM.mp a];exact ⟨by simp,by show 3 <= 10;decide⟩,by show 1 <= 100;decide⟩
   ·exact ⟨λl a=>(by cases a),zMT _⟩
  ·split
   ·exact ⟨λl a=>(by cases a),zMT _⟩
   ·exact ⟨λl a=>by rw [zMM.mp a];exact ⟨by simp,by show 2 <= 10;decide⟩,by show 1 <= 100;decide⟩
noncomputable def qH (B:Addr->Prop) (C CS:Addr) (H:Hp) (p:Addr) (nm:Str) (b:List Str) (xs:List (Addr × Addr)) (ss:List SS) (i:Nat) (s:SS) (d:DD) (Q:VK):Prop:=∀ r x a,xs[i]?=some x->z7 B C CS a p nm b xs (ss.set i (yC (xG s d)).1)->Rows a r ((yC (xG s d)).2.map (oY i))->H r=none->zE [x.1,x.2] H a->Q (.ref r) a
theorem qH.num (h:z7 B C CS H p nm j xs ss) (ex:xs[i]?=some x) (q:qH B C CS H p nm j xs ss i s d Q) (a:zE [] H H1) (S:yE CS b x.1 x.2 (yC (xG s d)).1) (R:Rows b r (yC (xG s d)).2) (t:H1 r=none) (k2:zE [x.1,x.2] H1 b):oF [.int (i:Int),.ref r] b Q E:=by
 obtain ⟨k,l⟩:=rC (xG s d)
 refine ⟨i,r,_,rfl,R,k,l,λm n o n3 g=>q m x n ex (((h.on a).seat ex k2 S).on g) o ?_ (((a.mono (by simp)).trans k2).trans (g.mono (by simp)))⟩
 obtain ⟨⟨u,c⟩,⟨v,f,_⟩,_⟩:=id S
 refine a.none (by simp) (k2.none ?_ n3)
 simp only [List.mem_cons,zND,or_false]
 rintro (e | e)
 ·rw [e,c] at n3;cases n3
 ·rw [e,f] at n3;cases n3
section
variable {P:Program} {w:World} {K:W.Frag} {mg:Str->Option Value} {base:Heap} {C CS:Addr}
theorem zHC:zO ["self",NV,T4,"number"] Nk (zG sHW):=scm
theorem zAE:zO Nk N4 (zG sHL):=scm
theorem zAF:zO Nk N4 (zG sHD):=scm
theorem zKD:zO N6 N6 (zG sHK):=scm
theorem zKG:zO Ng Ng (zG sHC):=scm
noncomputable def zJN (C CS:Addr):Sp:=λd H Q _=>∃ B p nm b c a k z r i s,d=[.ref p,.str z,rV r]/\z7 B C CS H p nm b c a/\uH k a/\k <= 60/\a.length <= 100/\AtR b a (.want z r) i s (.want z)/\qH B C CS H p nm b c a i s (.want z) Q
theorem okHW (T:xK K C) (TS:xM K CS) (G:yW K C S8 "House.want" sHW Nk) (CC:Cal P w K mg base CX0 2 S6 NC tE) (CK:Cal P w K mg base CX0 2 S9 Ni gI) (a2:yI P w K mg base CX0 3 C Sj N5 (aO C CS)) (a3:yI P w K mg base CX0 2 C T8 N5 (zJY C CS)) (MW:yI P w K mg base CX0 3 CS S8 N4 (aM CS)) (a4:Cal P w K mg base CX0 1 Sh Nj oF) (d:Blt mg Sc):yI P w K mg base CX0 4 C S8 Nk (zJN C CS):=by
 refine G.oz zHC (λf ab A a5 s0 H vs Q E hr h=>?_)
 obtain ⟨B,p,nm,nb,t,u,k,z,r,i,s,rfl,v,I,hk,L,a,q⟩:=h
 have M:z6 3 _:=hr
 have g:z6 2 _:=hr.mono (by decide)
 have a6:z6 1 _:=hr.mono (by decide)
 have hu:=vT hr
 have N:=a.here
 have il:i < u.length:=(zML.mp N).1
 obtain ⟨y,nl,sl,_,hp,ac,j,ae,O⟩:=id v
 have l:t[i]?=some t[i]:=zMK (by omega)
 generalize t[i]=x at l
 have si:=I.si s (zMN N)
 have lr:s.row.length < 1000:=by have:=I.rl s (zMN N);omega
 have ne:u ≠ []:=λe=>by rw [e] at il;simp at il
 have ok:=a.ok
 obtain ⟨U,Y,D⟩:=ok
 have a0:(yZ u).length < 64:=by have:=I.ln;omega
 refine ⟨_,(zD (yA (zN CC g (zA (pv 1) zB)))
   (zD (z5 (zQ vO (pv 2) yV (zW _)) (zF (yA (zN CK g (zA (pv 2) (zA (zY z8 d yS (zA (yB (pv 0) rfl) zB)) zB))))) zM)
   (zD (z5 (kU (zA8 hu (pv 1) (xL a2 T.cl M (pv 0)))) (zF xH) zM)
   (zD (zX (i:=3) zHC.nd rfl (Or.inl rfl) (rX (zQ uO (pv 2) yV (zW _)) (xL a3 T.cl g (pv 0)) (pv 2)))
   (zF (zL (zN a4 a6 (zA (pv 3) (zA (xY MW TS.cl M (zS zV (yB (pv 0) rfl) (pv 3) (λ_ _=>rfl)) (zA (pv 1) zB)) zB))))))))),?_⟩
 refine ⟨_,rfl,z,rfl,D.1,zMU D.2 (by decide),λH1 J=>?_⟩
 have m:=J.z hp
 have a1:=J.z j
 cases a with
 | any _ eb _ nz=>
  refine ⟨_,rfl,rfl,_,rfl,ifF rfl ?_⟩
  refine ⟨_,rfl,_,rfl,p,y,_,rfl,m,lC _ _ _,B,p,nm,nb,t,u,rfl,v.on J,I.nd,a0,λa aa H2 ha n _ k2=>⟨a,_,rfl,t5.k (k:=Sum.inr z) ha,_,rfl,ifF (by rw [n z nz];rfl) ?_⟩⟩
  have b:=J.trans k2
  refine ⟨_,rfl,rfl,_,rfl,ifT rfl ⟨_,rfl,p,y,_,rfl,b.z hp,zLV _ _ _,B,p,nm,nb,t,u,rfl,v.on b,ne,L,λH3 k3=>?_⟩⟩
  have c:=b.trans k3
  rw [<- eb]
  have S:=(O i x s l N).keep c
  obtain ⟨dy,o⟩:=S.ob
  refine ⟨_,rfl,_,rfl,p,C,y,_,_,rfl,c.z hp,T.cl,T.nS,wT _ _ _,_,rfl,sl,_,i,_,rfl,rfl,c.z j,xZ l,x.1,dy,_,rfl,o,zGL _ _ _ _,_,rfl,x.1,x.2,s,z,rfl,S,D.1,zMU D.2 (by decide),U,Y,lr,?_⟩
  exact λr H' S' R' n' k'=>qH.num (E:=E) v l q c S' R' n' k'
 | want _ _ nz=>
  refine ⟨_,rfl,rfl,_,rfl,ifT rfl ⟨_,rfl,_,rfl,p,C,y,_,_,rfl,m,T.cl,T.nS,wT _ _ _,_,_,rfl,.inl ⟨_,.of a1,rfl⟩,_,_,rfl,by omega,by rw [zMJ];omega,?_⟩⟩
  refine ⟨_,rfl,_,rfl,p,y,_,rfl,m,lC _ _ _,B,p,nm,nb,t,u,rfl,v.on J,I.nd,a0,λa aa H2 ha n _ k2=>⟨a,_,rfl,t5.k (k:=Sum.inr z) ha,_,rfl,ifF (by rw [n z nz];rfl) ?_⟩⟩
  have b:=J.trans k2
  refine ⟨_,rfl,rfl,_,rfl,ifF rfl ⟨_,rfl,?_⟩⟩
  have S:=(O i x s l N).keep b
  obtain ⟨dy,o⟩:=S.ob
  refine ⟨_,rfl,_,rfl,p,C,y,_,_,rfl,b.z hp,T.cl,T.nS,wT _ _ _,_,rfl,sl,_,i,_,rfl,rfl,b.z j,xZ l,x.1,dy,_,rfl,o,zGL _ _ _ _,_,rfl,x.1,x.2,s,z,rfl,S,D.1,zMU D.2 (by decide),U,Y,lr,?_⟩
  exact λr H' S' R' n' k'=>qH.num (E:=E) v l q b S' R' n' k'
noncomputable def zJO (C CS:Addr):Sp:=λd H Q _=>∃ B p nm b c a k z i s,d=[.ref p,.str z]/\z7 B C CS H p nm b c a/\uH k a/\k <= 60/\a.length <= 100/\AtR b a (.leave z) i s (.leave z)/\qH B C CS H p nm b c a i s (.leave z) Q
theorem okHL (T:xK K C) (TS:xM K CS) (G:yW K C NZ "House.leave" sHL N4) (n:yI P w K mg base CX0 4 C Sg N4 (aR C CS)) (ML:yI P w K mg base CX0 3 CS NZ N4 (eJ CS)) (o:Cal P w K mg base CX0 1 Sh Nj oF):yI P w K mg base CX0 5 C NZ N4 (zJO C CS):=by
 refine G.oz zAE (λf a1 A t s0 H vs Q E v h=>?_)
 obtain ⟨B,p,nm,nb,d,g,k,z,i,s,rfl,y,I,hk,a0,a,q⟩:=h
 have D:z6 4 _:=v
 have J:z6 3 _:=v.mono (by decide)
 have L:z6 1 _:=v.mono (by decide)
 have b:=a.here
 have il:i < g.length:=(zML.mp b).1
 obtain ⟨dx,nl,sl,_,hp,a2,M,a3,N⟩:=id y
 have l:d[i]?=some d[i]:=zMK (by omega)
 generalize d[i]=x at l
 have si:=I.si s (zMN b)
 have lr:s.row.length < 1000:=by have:=I.rl s (zMN b);omega
 have ne:g ≠ []:=λe=>by rw [e] at il;simp at il
 have ok:askR z ∈ s.row:=a.ok
 have O:yR z:=(si.r _ ok).2
 have U:(yZ g).length < 64:=by have:=I.ln;omega
 obtain ⟨j,hj,c⟩:=rJ s.row (askR z) ok
 have ef:xG s (.leave z) = { s with row:=s.row.eraseIdx j }:=by
  show { s with row:=s.row.filter λx=>decide (x ≠ askR z) }=_
  rw [tW s.row (askR z) j hj c (si.u z)]
 refine ⟨_,(zD (zX (i:=2) zAE.nd rfl (Or.inl rfl) (xY n T.cl D (pv 0) (zA (pv 1) zB)))
   (zF (zL (zN o L (zA (pv 2) (zA (xY ML TS.cl J (zS zV (yB (pv 0) rfl) (pv 2) (λ_ _=>rfl)) (zA (pv 1) zB)) zB)))))),?_⟩
 refine ⟨_,rfl,p,dx,_,rfl,hp,zB2 _ _ _,_,rfl,B,p,nm,nb,d,g,z,i,s,rfl,y,I.nd,U,b,xD.mpr (.inr ok),O,λH1 m=>?_⟩
 have S:=(N i x s l b).keep m
 obtain ⟨dy,Y⟩:=S.ob
 refine ⟨_,rfl,_,rfl,p,C,dx,_,_,rfl,m.z hp,T.cl,T.nS,wT _ _ _,_,rfl,sl,_,i,_,rfl,rfl,m.z M,xZ l,x.1,dy,_,rfl,Y,zL1 _ _ _ _,_,rfl,x.1,x.2,s,z,j,rfl,S,O.1,zMU O.2 (by decide),hj,c,?_⟩
 rw [<- ef]
 exact λr H' S' R' n' k'=>qH.num (E:=E) y l q m S' R' n' k'
noncomputable def zJQ (C CS:Addr):Sp:=λd H Q _=>∃ B p nm b c a k z i s,d=[.ref p,.str z]/\z7 B C CS H p nm b c a/\uH k a/\k <= 60/\a.length <= 100/\AtR b a (.done z) i s (.done z)/\qH B C CS H p nm b c a i s (.done z) Q
theorem okHD (T:xK K C) (TS:xM K CS) (G:yW K C S3 "House.done" sHD N4) (l:yI P w K mg base CX0 4 C Sg N4 (aR C CS)) (MD:yI P w K mg base CX0 3 CS S3 N4 (aV CS)) (m:Cal P w K mg base CX0 1 Sh Nj oF):yI P w K mg base CX0 5 C S3 N4 (zJQ C CS):=by
 refine G.oz zAF (λf a0 A n s0 H vs Q E o h=>?_)
 obtain ⟨B,p,nm,nb,c,d,k,z,i,s,rfl,t,I,hk,O,a,q⟩:=h
 have u:z6 4 _:=o
 have v:z6 3 _:=o.mono (by decide)
 have y:z6 1 _:=o.mono (by decide)
 have b:=a.here
 have U:i < d.length:=(zML.mp b).1
 obtain ⟨Y,nl,sl,_,hp,a1,D,a2,J⟩:=id t
 have g:c[i]?=some c[i]:=zMK (by omega)
 generalize c[i]=x at g
 have si:=I.si s (zMN b)
 have lr:s.row.length < 1000:=by have:=I.rl s (zMN b);omega
 have ne:d ≠ []:=λe=>by rw [e] at U;simp at U
 have ok:s.hold=some z:=a.ok
 have L:yR z:=si.h _ ok
 have M:(yZ d).length < 64:=by have:=I.ln;omega
 refine ⟨_,(zD (zX (i:=2) zAF.nd rfl (Or.inl rfl) (xY l T.cl u (pv 0) (zA (pv 1) zB)))
   (zF (zL (zN m y (zA (pv 2) (zA (xY MD TS.cl v (zS zV (yB (pv 0) rfl) (pv 2) (λ_ _=>rfl)) (zA (pv 1) zB)) zB)))))),?_⟩
 refine ⟨_,rfl,p,Y,_,rfl,hp,zB2 _ _ _,_,rfl,B,p,nm,nb,c,d,z,i,s,rfl,t,I.nd,M,b,xD.mpr (.inl ok),L,λH1 j=>?_⟩
 have S:=(J i x s g b).keep j
 obtain ⟨dy,N⟩:=S.ob
 refine ⟨_,rfl,_,rfl,p,C,Y,_,_,rfl,j.z hp,T.cl,T.nS,wT _ _ _,_,rfl,sl,_,i,_,rfl,rfl,j.z D,xZ g,x.1,dy,_,rfl,N,zL4 _ _ _ _,_,rfl,x.1,x.2,s,z,rfl,S,L.1,zMU L.2 (by decide),ok,?_⟩
 exact λr H' S' R' n' k'=>qH.num (E:=E) t g q j S' R' n' k'
noncomputable def zJP (C CS:Addr):Sp:=λd H Q _=>∃ (B:Addr->Prop) (p:Addr) (nm:Str) (b:List Str) (c:List (Addr × Addr)) (a:List SS) (k:Nat) (z:Str) (i:Nat) (s:SS),d=[.ref p,.str z,.int (i:Int)]/\z7 B C CS H p nm b c a/\uH k a/\k <= 60/\a.length <= 100/\AtR b a (.ask z i) i s (.ask z)/\qH B C CS H p nm b c a i s (.ask z) Q
theorem okHK (T:xK K C) (TS:xM K CS) (G:yW K C NX "House.ask" sHK N6) (l:yI P w K mg base CX0 3 C Sa N6 (a7 C CS)) (MK:yI P w K mg base CX0 3 CS NX NF (zFY CS)) (m:Cal P w K mg base CX0 1 Sh Nj oF):yI P w K mg base CX0 4 C NX N6 (zJP C CS):=by
 refine G.oz zKD (λf a0 A n s0 H vs Q E M h=>?_)
 obtain ⟨B,p,nm,N,c,o,k,z,i,s,rfl,t,I,hk,O,a,q⟩:=h
 have b:z6 3 _:=M
 have u:z6 1 _:=M.mono (by decide)
 have d:=a.here
 have v:i < o.length:=(zML.mp d).1
 obtain ⟨U,nl,sl,_,Y,a1,y,a2,D⟩:=id t
 have g:c[i]?=some c[i]:=zMK (by omega)
 generalize c[i]=x at g
 have si:=I.si s (zMN d)
 have lr:s.row.length < 1000:=by have:=I.rl s (zMN d);omega
 have ne:o ≠ []:=λe=>by rw [e] at v;simp at v
 obtain ⟨o1,o2,J⟩:=a.ok
 have zn:z ∈ N:=by cases a;assumption
 refine ⟨_,(zD (yA (xY l T.cl b (pv 0) (zA (pv 1) (zA (pv 2) zB))))
   (zF (zL (zN m u (zA (pv 2) (zA (xY MK TS.cl b (zS zV (yB (pv 0) rfl) (pv 2) (λ_ _=>rfl)) (zA (pv 1) zB)) zB)))))),?_⟩
 refine ⟨_,rfl,p,U,_,rfl,Y,zGH _ _ _,_,rfl,_,rfl,B,p,nm,N,c,o,z,i,rfl,t,zn,J,v,λH1 j=>?_⟩
 have S:=(D i x s g d).keep j
 obtain ⟨dy,L⟩:=S.ob
 refine ⟨_,rfl,_,rfl,p,C,U,_,_,rfl,j.z Y,T.cl,T.nS,wT _ _ _,_,rfl,sl,_,i,_,rfl,rfl,j.z y,xZ g,x.1,dy,_,rfl,L,zIM _ _ _ _,_,rfl,x.1,x.2,s,z,rfl,S,J.1,zMU J.2 (by decide),o1,o2,lr,?_⟩
 exact λr H' S' R' n' k'=>qH.num (E:=E) t g q j S' R' n' k'
noncomputable def zJR (C CS:Addr):Sp:=λe H Q _=>∃ (B:Addr->Prop) (p:Addr) (nm:Str) (c:List Str) (d:List (Addr × Addr)) (a:List SS) (k:Nat) (z:Str) (b:Bool) (i:Nat) (s:SS),e=[.ref p,.str z,.int (i:Int),.bl b]/\z7 B C CS H p nm c d a/\uH k a/\k <= 60/\a.length <= 100/\AtR c a (.come z i b) i s (.come z b)/\qH B C CS H p nm c d a i s (.come z b) Q
theorem okHC (T:xK K C) (TS:xM K CS) (G:yW K C NW "House.come" sHC Ng) (l:yI P w K mg base CX0 3 C Sa N6 (a7 C CS)) (m:yI P w K mg base CX0 3 CS NW Nw (aW CS)) (n:Cal P w K mg base CX0 1 Sh Nj oF):yI P w K mg base CX0 4 C NW Ng (zJR C CS):=by
 refine G.oz zKG (λf a0 A o s0 H vs Q E N h=>?_)
 obtain ⟨B,p,nm,O,c,t,k,z,bb,i,s,rfl,u,I,hk,U,a,q⟩:=h
 have b:z6 3 _:=N
 have v:z6 1 _:=N.mono (by decide)
 have d:=a.here
 have y:i < t.length:=(zML.mp d).1
 obtain ⟨Y,nl,sl,_,hp,a1,D,a2,J⟩:=id u
 have g:c[i]?=some c[i]:=zMK (by omega)
 generalize c[i]=x at g
 have si:=I.si s (zMN d)
 have lr:s.row.length < 1000:=by have:=I.rl s (zMN d);omega
 have ne:t ≠ []:=λe=>by rw [e] at y;simp at y
 have ok:s.ptr=some z:=a.ok
 have L:yR z:=si.p _ ok
 have zn:z ∈ O:=by cases a;assumption
 refine ⟨_,(zD (yA (xY l T.cl b (pv 0) (zA (pv 1) (zA (pv 2) zB))))
   (zF (zL (zN n v (zA (pv 2) (zA (xY m TS.cl b (zS zV (yB (pv 0) rfl) (pv 2) (λ_ _=>rfl)) (zA (pv 1) (zA (pv 3) zB))) zB)))))),?_⟩
 refine ⟨_,rfl,p,Y,_,rfl,hp,zGH _ _ _,_,rfl,_,rfl,B,p,nm,O,c,t,z,i,rfl,u,zn,L,y,λH1 j=>?_⟩
 have S:=(J i x s g d).keep j
 obtain ⟨dy,M⟩:=S.ob
 refine ⟨_,rfl,_,rfl,p,C,Y,_,_,rfl,j.z hp,T.cl,T.nS,wT _ _ _,_,rfl,sl,_,i,_,rfl,rfl,j.z D,xZ g,x.1,dy,_,rfl,M,zL6 _ _ _ _,_,rfl,_,rfl,x.1,x.2,s,z,bb,rfl,S,L.1,zMU L.2 (by decide),ok,lr,?_⟩
 exact λr H' S' R' n' k'=>qH.num (E:=E) u g q j S' R' n' k'
end
noncomputable abbrev kK:Stmt:=top 42
noncomputable abbrev kO:Stmt:=top 43
noncomputable abbrev eV:Stmt:=top 44
inductive GD where
 | want (x:V)
 | leave (x:V)
 | done (x:V)
 | ask (x:V)
 | come (x y:V)
noncomputable def gdV:GD->List V
 | .want x=>[.str S8,x]
 | .leave x=>[.str NZ,x]
 | .done x=>[.str S3,x]
 | .ask x=>[.str NX,x]
 | .come x y=>[.str NW,x,y]
noncomputable def GD.nm:GD->V
 | .want x=>x
 | .leave x=>x
 | .done x=>x
 | .ask x=>x
 | .come x _=>x
noncomputable def bM:DD->GD
 | .want z=>.want (.str z)
 | .leave z=>.leave (.str z)
 | .done z=>.done (.str z)
 | .ask z=>.ask (.str z)
 | .come z b=>.come (.str z) (.bl b)
noncomputable def mkD (a:V) (b:Addr) (h:V) (k:Bool):List (Key × V):=[(.inr Sn,a),(.inr SI,.ref b),(.inr Sk,h),(.inr Se,.bl k)]
structure DAt (H:Hp) (st rl:Addr) (s:SS):Prop where
 d:H st=some (.dK (mkD (yD s.ptr) rl (yD s.hold) s.asked))
 rw:Rows H rl (s.row.map yY)
 len:s.row.length <= 1000
section
variable {H:Hp} {st rl:Addr} {a h:V} {k:Bool}
theorem g_a (e:H st=some (.dK (mkD a rl h k))):t5 H st (.str Sn) (some a):=.inl ⟨_,.inr Sn,.inl e,rfl,rfl⟩
theorem g_r (e:H st=some (.dK (mkD a rl h k))):t5 H st (.str SI) (some (.ref rl)):=.inl ⟨_,.inr SI,.inl e,rfl,rfl⟩
theorem g_h (e:H st=some (.dK (mkD a rl h k))):t5 H st (.str Sk) (some h):=.inl ⟨_,.inr Sk,.inl e,rfl,rfl⟩
theorem g_k (e:H st=some (.dK (mkD a rl h k))):t5 H st (.str Se) (some (.bl k)):=.inl ⟨_,.inr Se,.inl e,rfl,rfl⟩
theorem p_a (e:H st=some (.dK (mkD a rl h k))) (v:V):zCW H st (.str Sn) v (upd H st (.dK (mkD v rl h k))):=.inl ⟨_,.inr Sn,e,rfl,by show 4 < sizeLine;decide,rfl⟩
theorem p_h (e:H st=some (.dK (mkD a rl h k))) (v:V):zCW H st (.str Sk) v (upd H st (.dK (mkD a rl v k))):=.inl ⟨_,.inr Sk,e,rfl,by show 4 < sizeLine;decide,rfl⟩
theorem p_k (e:H st=some (.dK (mkD a rl h k))) (j:Bool):zCW H st (.str Se) (.bl j) (upd H st (.dK (mkD a rl h j))):=.inl ⟨_,.inr Se,e,rfl,by show 4 < sizeLine;decide,rfl⟩
theorem DAt.ne (D:DAt H st rl s):st ≠ rl:=by
 obtain ⟨c,b,_⟩:=D.rw
 exact wY D.d b (by intro z;cases z)
theorem DAt.keep (D:DAt H st rl s) (k:zE [] H b):DAt b st rl s:=⟨k.z D.d,D.rw.keep k,D.len⟩
theorem vP (d:H st=some (.dK e)) (f:H rl=some (.lst ys)):∀ b ∈ [st,rl],∀ xs,H b ≠ some (.tup xs):=λb c xs z=>by
 simp only [List.mem_cons,zND,or_false] at c
 rcases c with rfl | rfl
 ·rw [d] at z;cases z
 ·rw [f] at z;cases z
theorem DAt.fresh (D:DAt H st rl s) (h:H u=none):u ∉ [st,rl]:=by
 obtain ⟨c,b,_⟩:=D.rw
 simp only [List.mem_cons,zND,or_false]
 rintro (rfl | rfl)
 ·rw [D.d] at h;cases h
 ·rw [b] at h;cases h
end
section
variable {P:Program} {w:World} {K:W.Frag} {mg:Str->Option Value} {base:Heap} {C:Addr}
theorem zDB:zO NT NT (zG kK):=scm
noncomputable def eE:Sp:=λd H Q _=>∃ b,d=[yD b]/\∀ st c a,H st=none->H c=none->DAt a st c ⟨b,[],none,false⟩->zE [] H a->Q (.ref st) a
theorem zD6 (G:yM K mg "_law_state" kK NT):Cal P w K mg base CX0 1 "_law_state" NT eE:=by
 refine G.oz zDB (λf j A a n H o Q E r h=>?_)
 obtain ⟨e,rfl,q⟩:=h
 refine ⟨_,(zF (zL (zD1 (rT zJ (pv 0) (rT zJ (yN zB) (rT zJ yV (rT zJ wH zDX)))) rfl rfl (by simp) (by decide)))),?_⟩
 intro p c
 refine ⟨_,rfl,zMT _,λl g=>?_⟩
 obtain ⟨d,i⟩:=zU g
 refine ⟨by rw [zK (Ne.symm i),zC],mkD (yD e) l .non false,rfl,by show 4 <= 15;decide,?_⟩
 have k:zE [] H (upd (upd (upd H p (.dK [])) l (.lst [])) p (.dK (mkD (yD e) l .non false))):=((zE.new c).trans (zE.new g)).under (S:=[p]) (zE.at (by simp)) (by intro b m;rw [zMM.mp m];exact c)
 exact q p l _ c d ⟨zC,⟨[],by rw [zK i,zC];rfl,.nil⟩,zMT _⟩ k
theorem kI:zO [SX,Td,SQ] NQ (zG kO):=scm
noncomputable def eI:Sp:=λc H Q _=>∃ st b s,c=[.ref st]/\DAt H st b s/\∀ r a,DAt a st b (yC s).1->Rows a r (yC s).2->H r=none->zE [st,b] H a->Q (.ref r) a
theorem zD9 (G:yM K mg "_law_moved" kO NQ):Cal P w K mg base CX0 1 "_law_moved" NQ eI:=by
 refine G.oz kI (λf ar A af s0 H vs Q E j h=>?_)
 obtain ⟨st,c,s,rfl,D0,q⟩:=h
 have u:=vT j
 refine ⟨_,(zD (z5 (zQ (zHU (Nat.lt_of_succ_lt u)) (yP u (pv 0) zJ (λ_ _=>rfl)) (yN zB) (zW _)) (zF (zL (yN zB))) zM)
   (zD (z5 (PW.pt (kS (zQ uO (yP u (pv 0) zJ (λ_ _=>rfl)) yV (zW _)) (pT (zQ uO (yP u (pv 0) zJ (λ_ _=>rfl)) yV (zW _))))) (zD (qQ (vN F.plainAttrs_list F.slot_list_pop F.type_list_pop iL (yP u (pv 0) zJ (λ_ _=>rfl)) (zA zH zB)) (u7 rfl (yT (yL (i:=1) kI.nd rfl (Or.inl rfl)) (yT (yL (i:=2) kI.nd rfl (Or.inl rfl)) uA))))
   (zD (z5 (zQ y6 (pv 1) zJ (zW _)) (zD (tQ u (pv 0) zJ (pv 2) rfl)
   (zF (zL (yN (zA (z9 (zA zJ (zA (pv 2) zB))) zB))))) zM)
   (zD (tQ u (pv 0) zJ (pv 2) rfl)
   (zD (tQ u (pv 0) zJ (xC (zHS (Nat.lt_of_succ_lt u)) (yP u (pv 0) zJ (λ_ _=>rfl)) (yN zB) (zW _)) rfl)
   (zF (zL (yN (zA (z9 (zA zJ (zA (pv 2) (zA (yP u (pv 0) zJ (λ_ _=>rfl)) zB)))) zB)))))))) zM)
   (zD (z5 (PW.pt (kS (zQ vO (yP u (pv 0) zJ (λ_ _=>rfl)) yV (zW _)) (pT (y9 (y3 (yP u (pv 0) zJ (λ_ _=>rfl))))))) (zD (tQ u (pv 0) zJ wH rfl)
   (zF (zL (yN (zA (z9 (zA zJ (zA (yP u (pv 0) zJ (λ_ _=>rfl)) zB))) zB))))) zM)
   (zF (zL (yN zB)))))),?_⟩
 have none_:∀ l,zE [] H l->yC s=(s,[])->∀ r,l r=none->Q (.ref r) (upd l r (.lst [])):=λl k1 e r j=>by
  rw [e] at q
  exact q r _ (D0.keep (k1.trans (zE.new j))) ⟨[],zC,.nil⟩ (k1.none (by simp) j) ((k1.trans (zE.new j)).mono (by simp))
 obtain ⟨N,a4,a5⟩:=id D0.rw
 have ag:=zZ a5
 rw [zMJ] at ag
 have a0:(N.map V.ref).isEmpty=s.row.isEmpty:=by
  cases a0:N <;> cases aq:s.row <;> simp_all
 refine ⟨_,rfl,st,_,rfl,g_r D0.d,zMT _,λe0 a6=>?_⟩
 have I:zE [] H (upd H e0 (.lst [])):=zE.new a6
 refine ⟨c,e0,_,rfl,rfl,I.z a4,zC,zI a4 a6,_,rfl,?_⟩
 generalize upd H e0 (.lst [])=l at I ⊢
 have D:=D0.keep I
 have x:=D.ne
 obtain ⟨ps,m,y⟩:=id D.rw
 cases p:s.row.isEmpty with
 | true=>
  refine ifT (by show (N.map V.ref).isEmpty=true;rw [a0];exact p) ⟨zMT _,λr j=>none_ l I ?_ r j⟩
  unfold yC;rw [p];rfl
 | false=>
 refine ifF (by show (N.map V.ref).isEmpty=false;rw [a0];exact p) ?_
 refine ⟨_,rfl,st,_,rfl,g_a D.d,rfl,_,rfl,?_⟩
 cases O:s.ptr with
 | none=>
  refine ifT rfl ?_
  refine ⟨_,rfl,st,_,rfl,g_h D.d,rfl,_,rfl,?_⟩
  cases hh:s.hold with
  | none=>
   refine ifT rfl ?_
   have em:yC s=((wE s).1,[(wE s).2]):=by unfold yC;rw [p,O,hh];rfl
   rw [em] at q
   obtain ⟨T,row,v,a⟩:=s
   dsimp only at *
   subst O hh
   cases row with
   | nil=>cases p
   | cons kn rest=>
    obtain ⟨k,n⟩:=kn
    cases y with
    | @cons t _ b _ ht y=>
    have Y:=zZ y
    rw [zMJ] at Y
    have au:rest.length + 1 <= 1000:=D.len
    refine ⟨_,rfl,st,_,rfl,g_r D.d,.inl ⟨rfl,_,.of m⟩,c,_,0,0,.ref t,rfl,rfl,m,by decide,by decide,zJ2 _,rfl,?_⟩
    rw [show (List.map V.ref (t :: b)).eraseIdx 0=b.map V.ref from rfl]
    have ah:t ≠ c:=wY ht m (by intro z;cases z)
    have aa:upd l c (.lst (b.map V.ref)) st=some (.dK (mkD .non c .non a)):=by rw [zK x];exact D.d
    refine ⟨t,_,rfl,.of (by rw [zK ah];exact ht),rfl,_,_,rfl,_,_,rfl,rfl,?_⟩
    refine ⟨_,rfl,rfl,_,rfl,?_⟩
    refine t8 (λhk=>?_) (λhk=>?_)
    ·have a1:k=NV :=by have:=of_decide_eq_true hk;injection this
     have es:wE { ptr:=none,row:=(k,n) :: rest,hold:=none,asked:=a }=({ ptr:=none,row:=rest,hold:=some n,asked:=a },[.str T1,.str n]):=by
      unfold wE;simp only [a1,if_true]
     rw [es] at q
     refine ⟨_,rfl,_,rfl,st,_,rfl,p_h aa _,?_⟩
     refine ⟨_,rfl,by show 2 <= sizeLine;decide,λJ o=>⟨by show 1 <= sizeLine;decide,λr j=>?_⟩⟩
     have kk:zE [st,c] l (upd (upd (upd (upd l c (.lst (b.map V.ref))) st (.dK (mkD .non c (.str n) a))) J (.tup [.str T1,.str n])) r (.lst [.ref J])):=(((zE.at (by simp)).trans (zE.at (by simp))).trans (zE.new o)).trans (zE.new j)
     obtain ⟨L,rt⟩:=zU j
     obtain ⟨B,rs⟩:=zU L
     obtain ⟨a2,rr⟩:=zU B
     obtain ⟨M,ts⟩:=zU o
     obtain ⟨ab,tr⟩:=zU M
     refine q r _ ⟨?_,⟨b,?_,zP kk (vP D.d m) y⟩,?_⟩ ⟨[J],zC,.cons ?_ .nil⟩ (I.none (by simp) a2) ((I.mono (by simp)).trans kk)
     ·rw [zK (Ne.symm rs),zK (Ne.symm ts),zC];rfl
     ·rw [zK (Ne.symm rr),zK (Ne.symm tr),zK (Ne.symm x),zC]
     ·show rest.length <= 1000;omega
     ·rw [zK (Ne.symm rt),zC]
    ·have a1:¬ k=NV :=λz=>hk (by rw [z];exact zMY rfl)
     have es:wE { ptr:=none,row:=(k,n) :: rest,hold:=none,asked:=a }=({ ptr:=some n,row:=rest,hold:=none,asked:=!rest.isEmpty },[.str T4,.str n,.bl (!rest.isEmpty)]):=by
      unfold wE;simp only [if_neg a1]
     rw [es] at q
     refine ⟨_,rfl,_,rfl,st,_,rfl,p_a aa _,?_⟩
     have U:upd (upd l c (.lst (b.map V.ref))) st (.dK (mkD (.str n) c .non a)) st=some (.dK (mkD (.str n) c .non a)):=zC
     refine ⟨_,rfl,st,_,rfl,g_r U,zMT _,λe1 ac=>?_⟩
     obtain ⟨ai,aj⟩:=zU ac
     obtain ⟨av,a3⟩:=zU ai
     have ae:upd (upd (upd l c (.lst (b.map V.ref))) st (.dK (mkD (.str n) c .non a))) e1 (.lst []) c=some (.lst (b.map V.ref)):=by rw [zK (Ne.symm a3),zK (Ne.symm x),zC]
     refine ⟨c,e1,_,rfl,rfl,ae,zC,Ne.symm a3,?_⟩
     have eb:(!(b.map V.ref).isEmpty) = !rest.isEmpty:=by
      cases rest <;> cases b <;> first | rfl | (simp at Y)
     rw [if_pos rfl,eb]
     have ak:upd (upd (upd l c (.lst (b.map V.ref))) st (.dK (mkD (.str n) c .non a))) e1 (.lst []) st=some (.dK (mkD (.str n) c .non a)):=by rw [zK (Ne.symm aj)];exact U
     refine ⟨_,rfl,st,_,rfl,p_k ak _,?_⟩
     refine ⟨_,rfl,_,rfl,st,_,rfl,g_k zC,by show 3 <= sizeLine;decide,λJ o=>⟨by show 1 <= sizeLine;decide,λr j=>?_⟩⟩
     have kk:zE [st,c] l (upd (upd (upd (upd (upd (upd l c (.lst (b.map V.ref))) st (.dK (mkD (.str n) c .non a))) e1 (.lst [])) st (.dK (mkD (.str n) c .non (!rest.isEmpty)))) J (.tup [.str T4,.str n,.bl (!rest.isEmpty)])) r (.lst [.ref J])):=
      (((((zE.at (by simp)).trans (zE.at (by simp))).trans (zE.new ac)).trans (zE.at (by simp))).trans (zE.new o)).trans (zE.new j)
     obtain ⟨L,rt⟩:=zU j
     obtain ⟨B,rs⟩:=zU L
     obtain ⟨a2,re⟩:=zU B
     obtain ⟨al,_⟩:=zU a2
     obtain ⟨an,rr⟩:=zU al
     obtain ⟨M,ts⟩:=zU o
     obtain ⟨ab,te⟩:=zU M
     obtain ⟨ao,_⟩:=zU ab
     obtain ⟨aw,tr⟩:=zU ao
     refine q r _ ⟨?_,⟨b,?_,zP kk (vP D.d m) y⟩,?_⟩ ⟨[J],zC,.cons ?_ .nil⟩ (I.none (by simp) an) ((I.mono (by simp)).trans kk)
     ·rw [zK (Ne.symm rs),zK (Ne.symm ts),zC];rfl
     ·rw [zK (Ne.symm rr),zK (Ne.symm tr),zK (Ne.symm x),zK (Ne.symm a3),zK (Ne.symm x),zC]
     ·show rest.length <= 1000;omega
     ·rw [zK (Ne.symm rt),zC]
  | some g=>
   refine ifF rfl ?_
   refine ⟨_,rfl,st,_,rfl,g_a D.d,rfl,_,rfl,?_⟩
   refine ifF (by rw [O];rfl) (ifF rfl ⟨zMT _,λr j=>none_ l I ?_ r j⟩)
   unfold yC;rw [p,O,hh];rfl
 | some g=>
  refine ifF rfl (ifF rfl ?_)
  refine ⟨_,rfl,st,_,rfl,g_a D.d,rfl,_,rfl,?_⟩
  refine ifT (by rw [O];rfl) ?_
  refine ⟨_,rfl,st,_,rfl,g_k D.d,_,rfl,?_⟩
  cases hk:s.asked with
  | true=>
   refine ifF rfl ⟨zMT _,λr j=>none_ l I ?_ r j⟩
   unfold yC;rw [p,O,hk];rfl
  | false=>
   refine ifT rfl ?_
   have em:yC s=({ s with asked:=true },[[.str NX,.str g]]):=by unfold yC;rw [p,O,hk];rfl
   rw [em] at q
   refine ⟨_,rfl,st,_,rfl,p_k D.d true,?_⟩
   have U:upd l st (.dK (mkD (yD s.ptr) c (yD s.hold) true)) st=some (.dK (mkD (yD s.ptr) c (yD s.hold) true)):=zC
   refine ⟨_,rfl,st,_,rfl,g_a U,by show 2 <= sizeLine;decide,λJ o=>⟨by show 1 <= sizeLine;decide,λr j=>?_⟩⟩
   rw [O] at o j ⊢
   have kk:zE [st,c] l (upd (upd (upd l st (.dK (mkD (yD (some g)) c (yD s.hold) true))) J (.tup [.str NX,yD (some g)])) r (.lst [.ref J])):=((zE.at (by simp)).trans (zE.new o)).trans (zE.new j)
   obtain ⟨L,rt⟩:=zU j
   obtain ⟨B,rs⟩:=zU L
   obtain ⟨M,ts⟩:=zU o
   refine q r _ ⟨?_,⟨ps,?_,zP kk (vP D.d m) y⟩,D.len⟩ ⟨[J],zC,.cons ?_ .nil⟩ (I.none (by simp) B) ((I.mono (by simp)).trans kk)
   ·rw [zK (Ne.symm rs),zK (Ne.symm ts),zC,O]
   ·rw [zK (zI m B),zK (zI m M),zK (Ne.symm x)];exact m
   ·rw [zK (Ne.symm rt),zC];rfl
end
noncomputable def GD.wd:GD->Str
 | .want _=> S8
 | .leave _=> NZ
 | .done _=> S3
 | .ask _=> NX
 | .come _ _=> NW
theorem zIL:∀ {g:GD},H t=some (.tup (gdV g))->(∀ u H1,zE [] H H1->H1 u=some (.tup [.str g.wd,g.nm])->Q (.ref u) H1)->cQ K (.ref t) none (some 2) H Q
 | .want _,a,h=>⟨t,_,rfl,.of a,.inl ⟨rfl,rfl,h t H (zE.refl _) a⟩⟩
 | .leave _,a,h=>⟨t,_,rfl,.of a,.inl ⟨rfl,rfl,h t H (zE.refl _) a⟩⟩
 | .done _,a,h=>⟨t,_,rfl,.of a,.inl ⟨rfl,rfl,h t H (zE.refl _) a⟩⟩
 | .ask _,a,h=>⟨t,_,rfl,.of a,.inl ⟨rfl,rfl,h t H (zE.refl _) a⟩⟩
 | .come _ _,a,h=>⟨t,_,rfl,.of a,.inr ⟨by show ¬ ((0:Nat)=0/\(2:Nat)=3);decide,λp b=>h p _ (zE.new b) zC⟩⟩
theorem DAt.more {s:SS} (hd:H3 st=some (.dK (mkD (yD s.ptr) b (yD s.hold) s.asked)))
  (a:Paired (λq r=>H3 q=some (.tup r)) ps (s.row.map yY)) (c:H3 b=some (.lst (ps.map V.ref ++ [.ref t]))) (d:H3 t=some (.tup (yY x))) (e:s.row.length < 1000):DAt H3 st b { s with row:=s.row ++ [x] }:=by
 refine ⟨hd,⟨ps ++ [t],by rw [c,zMV];rfl,?_⟩,by show (s.row ++ [x]).length <= 1000;simp;omega⟩
 show Paired _ _ ((s.row ++ [x]).map yY)
 rw [zMV]
 exact wP a d
theorem qN (z:Str) (o:Option Str):zAA (yD o) (.str z)=true:=by cases o <;> rfl
theorem pF (z:Str) (o:Option Str):decide (yD o=V.str z)=decide (o=some z):=by
 cases o with
 | none=>simp [yD]
 | some y=>simp [yD]
theorem zIJ {row:LSS} (R:Rows H p (row.map yY)) (a:H t=some (.tup (yY x))) (q:Q (.bl (decide (x ∈ row))) H):zDT false (.ref t) (.ref p) H Q:=
 ⟨p,t,_,row.map yY,rfl,rfl,R,a,rfl,vB _,by
  show Q (.bl ((row.map yY).any λr=>eqT r (yY x))) H
  rw [tZ];exact q⟩
theorem m6 {row:LSS} (R:Rows H p (row.map yY)) (a:H t=some (.tup (yY x))) (q:Q (.bl (!decide (x ∈ row))) H):zDT true (.ref t) (.ref p) H Q:=
 ⟨p,t,_,row.map yY,rfl,rfl,R,a,rfl,vB _,by
  show Q (.bl (!(row.map yY).any λr=>eqT r (yY x))) H
  rw [tZ];exact q⟩
section
variable {P:Program} {w:World} {K:W.Frag} {mg:Str->Option Value} {base:Heap} {C:Addr}
theorem gO:zO [SX,SR,Td,SQ] NH (zG eV):=scm
noncomputable def aS:Sp:=λc H Q _=>∃ st b t s d,c=[.ref st,.ref t]/\DAt H st b s/\H t=some (.tup (gdV (bM d)))/\rK s/\fX s d/\s.row.length < 900 /\
 ∀ r a,DAt a st b (yC (xG s d)).1->Rows a r (yC (xG s d)).2->H r=none->zE [st,b] H a->Q (.ref r) a
theorem zH2 (G:yM K mg Tf eV NH) (CM:Cal P w K mg base CX0 1 "_law_moved" NQ eI):Cal P w K mg base CX0 2 Tf NH aS:=by
 refine G.oz gO (λf ai A aa s0 H vs Q E hr h=>?_)
 obtain ⟨st,c,t,s,d,rfl,D0,ht,I,ok,ag,q⟩:=h
 have ab:z6 1 _:=hr
 have hu:=vT hr
 have J:s.row.length < 1000:=by omega
 refine ⟨_,(zD (qQ (wB rP (pv 1) vG (wA zH)) (u7 rfl (yT (yL (i:=2) gO.nd rfl (Or.inl rfl)) (yT (yL (i:=3) gO.nd rfl (Or.inl rfl)) uA))))
   (zD (z5 (zQ y6 (pv 2) zJ (zW _)) (zF (yA (vN F.plainAttrs_list F.slot_list_append F.type_list_append xF (yP hu (pv 0) zJ (λ_ _=>rfl)) (zA (z9 (zA zJ (zA (pv 3) zB))) zB)))) (zF (z5 (zQ y6 (pv 2) zJ (zW _)) (zF (yA (vN F.plainAttrs_list F.slot_list_remove F.type_list_remove (o5 hu) (yP hu (pv 0) zJ (λ_ _=>rfl)) (zA (z9 (zA zJ (zA (pv 3) zB))) zB)))) (zF (z5 (zQ y6 (pv 2) zJ (zW _)) (zF (tQ hu (pv 0) zJ yV rfl)) (zF (z5 (zQ y6 (pv 2) zJ (zW _)) (zF (yA (vN F.plainAttrs_list F.slot_list_append F.type_list_append xF (yP hu (pv 0) zJ (λ_ _=>rfl)) (zA (z9 (zA zJ (zA (pv 3) zB))) zB)))) (zD (tQ hu (pv 0) zJ yV rfl)
   (zD (tQ hu (pv 0) zJ wH rfl)
   (zF (z5 (y3 (zS z4 (pv 1) zH (λ_ _=>rfl))) (zF (yA (vN F.plainAttrs_list F.slot_list_append F.type_list_append xF (yP hu (pv 0) zJ (λ_ _=>rfl)) (zA (z9 (zA zJ (zA (pv 3) zB))) zB)))) zM)))))))))))
   (zF (zL (zN CM ab (zA (pv 0) zB)))))),?_⟩
 refine ⟨_,rfl,_,rfl,zIL ht λu g n ac=>?_⟩
 refine ⟨u,_,rfl,.of ac,rfl,_,_,rfl,_,_,rfl,rfl,?_⟩
 have D:=D0.keep n
 have a2:=n.z ht
 cases d with
 | want z=>
  dsimp only [bM,GD.wd,GD.nm]
  refine ⟨_,rfl,rfl,_,rfl,nI ?_⟩
  obtain ⟨L,a,l⟩:=id D.rw
  have O:=zZ l
  rw [zMJ] at O
  refine ⟨_,rfl,st,_,rfl,g_r D.d,.inl ⟨rfl,_,.of a⟩,_,rfl,by show 2 <= sizeLine;decide,λk p=>?_⟩
  have v:zE [] g (upd g k (.tup [.str NV,.str z])):=zE.new p
  have T:c ≠ k:=zI a p
  refine ⟨c,_,_,rfl,rfl,v.z a,by rw [zMJ,sizeLine_eq];have:=D.len;omega,?_⟩
  have B:upd g k (.tup [.str NV,.str z]) k=some (.tup (yY (askR z))):=zC
  have n3:∀ r,upd g k (.tup [.str NV,.str z]) r=none->g r=none:=λr h=>(zU h).1
  generalize upd g k (.tup [.str NV,.str z])=M at v B n3 ⊢
  have N:zE [st,c] g (upd M c (.lst (L.map V.ref ++ [.ref k]))):=(v.mono (by simp)).trans (zE.at (by simp))
  have D4:=DAt.more (H3:=upd M c (.lst (L.map V.ref ++ [.ref k]))) (x:=askR z) (by rw [zK D.ne];exact v.z D.d) (zP N (vP D.d a) l) zC (by rw [zK (Ne.symm T)];exact B) J
  refine ⟨_,rfl,st,c,_,rfl,D4,λr U Y R5 o k5=>?_⟩
  exact q r U Y R5 (n.none (by simp) (n3 r (zU o).1)) (((n.mono (by simp)).trans N).trans k5)
 | leave z=>
  dsimp only [bM,GD.wd,GD.nm]
  refine ⟨_,rfl,rfl,_,rfl,tV ?_⟩
  refine ⟨_,rfl,rfl,_,rfl,nI ?_⟩
  obtain ⟨L,a,l⟩:=id D.rw
  obtain ⟨j,hj,a3⟩:=rJ s.row (askR z) ok
  have ef:xG s (.leave z) = { s with row:=s.row.eraseIdx j }:=by
   show ({ s with row:=s.row.filter λx=>decide (x ≠ askR z) }:SS)=_
   rw [tW s.row (askR z) j hj a3 (I.u z)]
  rw [ef] at q
  refine ⟨_,rfl,st,_,rfl,g_r D.d,.inl ⟨rfl,_,.of a⟩,_,rfl,by show 2 <= sizeLine;decide,λk p=>?_⟩
  have v:zE [] g (upd g k (.tup [.str NV,.str z])):=zE.new p
  have a4:∀ b ∈ ([]:List Addr),∀ xs,g b ≠ some (.tup xs):=λb hb=>by cases hb
  refine ⟨c,k,_,s.row.map yY,j,L,rfl,rfl,v.z a,zP v a4 l,zC,rfl,vB _,⟨yY (askR z),by rw [zMP,hj];rfl,by
   show eqT (yY (askR z)) (yY (askR z))=true
   rw [qA];exact zMY rfl⟩,(λm r hm e=>by
   rw [zMP] at e
   cases hx:s.row[m]? with
   | none=>rw [hx] at e;cases e
   | some y=>
    rw [hx] at e
    have e':yY y=r:=zMQ e
    rw [<- e']
    show eqT (yY y) (yY (askR z))=false
    rw [qA]
    exact zMZ (λw=>a3 m hm (by rw [hx,w]))),?_⟩
  have n3:∀ r,upd g k (.tup [.str NV,.str z]) r=none->g r=none:=λr h=>(zU h).1
  generalize upd g k (.tup [.str NV,.str z])=M at v n3 ⊢
  have N:zE [st,c] g (upd M c (.lst ((L.eraseIdx j).map V.ref))):=(v.mono (by simp)).trans (zE.at (by simp))
  have D4:DAt (upd M c (.lst ((L.eraseIdx j).map V.ref))) st c { s with row:=s.row.eraseIdx j }:=by
   refine ⟨by rw [zK D.ne];exact v.z D.d,⟨L.eraseIdx j,zC,?_⟩,zMU (tH s.row j) D.len⟩
   show Paired _ _ ((s.row.eraseIdx j).map yY)
   rw [<- sM yY]
   exact tR j (zP N (vP D.d a) l)
  refine ⟨_,rfl,st,c,_,rfl,D4,λr U Y R5 o k5=>?_⟩
  exact q r U Y R5 (n.none (by simp) (n3 r (zU o).1)) (((n.mono (by simp)).trans N).trans k5)
 | done z=>
  dsimp only [bM,GD.wd,GD.nm]
  refine ⟨_,rfl,rfl,_,rfl,tV ?_⟩
  refine ⟨_,rfl,rfl,_,rfl,tV ?_⟩
  refine ⟨_,rfl,rfl,_,rfl,nI ?_⟩
  refine ⟨_,rfl,st,_,rfl,p_h D.d .non,?_⟩
  have N:zE [st,c] g (upd g st (.dK (mkD (yD s.ptr) c .non s.asked))):=zE.at (by simp)
  obtain ⟨L,a,l⟩:=id D.rw
  have D4:DAt (upd g st (.dK (mkD (yD s.ptr) c .non s.asked))) st c { s with hold:=none }:=⟨zC,⟨L,by rw [zK (Ne.symm D.ne)];exact a,zP N (vP D.d a) l⟩,D.len⟩
  refine ⟨_,rfl,st,c,_,rfl,D4,λr U Y R5 o k5=>?_⟩
  exact q r U Y R5 (n.none (by simp) (zU o).1) (((n.mono (by simp)).trans N).trans k5)
 | ask z=>
  dsimp only [bM,GD.wd,GD.nm]
  refine ⟨_,rfl,rfl,_,rfl,tV ?_⟩
  refine ⟨_,rfl,rfl,_,rfl,tV ?_⟩
  refine ⟨_,rfl,rfl,_,rfl,tV ?_⟩
  refine ⟨_,rfl,rfl,_,rfl,nI ?_⟩
  obtain ⟨L,a,l⟩:=id D.rw
  have O:=zZ l
  rw [zMJ] at O
  refine ⟨_,rfl,st,_,rfl,g_r D.d,.inl ⟨rfl,_,.of a⟩,_,rfl,by show 2 <= sizeLine;decide,λk p=>?_⟩
  have v:zE [] g (upd g k (.tup [.str NY,.str z])):=zE.new p
  have T:c ≠ k:=zI a p
  refine ⟨c,_,_,rfl,rfl,v.z a,by rw [zMJ,sizeLine_eq];have:=D.len;omega,?_⟩
  have B:upd g k (.tup [.str NY,.str z]) k=some (.tup (yY (hsR z))):=zC
  have n3:∀ r,upd g k (.tup [.str NY,.str z]) r=none->g r=none:=λr h=>(zU h).1
  generalize upd g k (.tup [.str NY,.str z])=M at v B n3 ⊢
  have N:zE [st,c] g (upd M c (.lst (L.map V.ref ++ [.ref k]))):=(v.mono (by simp)).trans (zE.at (by simp))
  have D4:=DAt.more (H3:=upd M c (.lst (L.map V.ref ++ [.ref k]))) (x:=hsR z) (by rw [zK D.ne];exact v.z D.d) (zP N (vP D.d a) l) zC (by rw [zK (Ne.symm T)];exact B) J
  refine ⟨_,rfl,st,c,_,rfl,D4,λr U Y R5 o k5=>?_⟩
  exact q r U Y R5 (n.none (by simp) (n3 r (zU o).1)) (((n.mono (by simp)).trans N).trans k5)
 | come z b=>
  dsimp only [bM,GD.wd,GD.nm]
  refine ⟨_,rfl,rfl,_,rfl,tV ?_⟩
  refine ⟨_,rfl,rfl,_,rfl,tV ?_⟩
  refine ⟨_,rfl,rfl,_,rfl,tV ?_⟩
  refine ⟨_,rfl,rfl,_,rfl,tV ?_⟩
  refine ⟨_,rfl,st,_,rfl,p_a D.d .non,?_⟩
  refine ⟨_,rfl,st,_,rfl,p_k zC false,?_⟩
  rw [tL]
  obtain ⟨ae,a0,a5⟩:=id D.rw
  have kc:zE [st,c] g (upd g st (.dK (mkD .non c (yD s.hold) false))):=zE.at (by simp)
  have Dc:DAt (upd g st (.dK (mkD .non c (yD s.hold) false))) st c { s with ptr:=none,asked:=false }:=⟨zC,⟨ae,by rw [zK (Ne.symm D.ne)];exact a0,zP kc (vP D.d a0) a5⟩,D.len⟩
  have a6:upd g st (.dK (mkD .non c (yD s.hold) false)) t=some (.tup [.str NW,.str z,.bl b]):=by
   rw [zK (wY a2 D.d (by intro z;cases z))];exact a2
  have nc:∀ r,upd g st (.dK (mkD .non c (yD s.hold) false)) r=none->g r=none:=λr h=>(zU h).1
  clear D
  generalize upd g st (.dK (mkD .non c (yD s.hold) false))=H2 at kc Dc a6 nc ⊢
  refine ⟨_,rfl,t,_,2,_,rfl,rfl,a6,at2 _ _ _ _,_,rfl,?_⟩
  have kk:zE [st,c] H H2:=(n.mono (by simp)).trans kc
  have nn:∀ r,H2 r=none->H r=none:=λr h=>n.none (by simp) (nc r h)
  cases b with
  | false=>
   refine ifF rfl ?_
   refine ⟨_,rfl,st,c,_,rfl,Dc,λr U Y R5 o k5=>?_⟩
   exact q r U Y R5 (nn r o) (kk.trans k5)
  | true=>
   refine ifT rfl ?_
   obtain ⟨L,a,l⟩:=id Dc.rw
   have O:=zZ l
   rw [zMJ] at O
   refine ⟨_,rfl,st,_,rfl,g_r Dc.d,.inl ⟨rfl,_,.of a⟩,_,rfl,by show 2 <= sizeLine;decide,λk p=>?_⟩
   have v:zE [] H2 (upd H2 k (.tup [.str NY,.str z])):=zE.new p
   have T:c ≠ k:=zI a p
   refine ⟨c,_,_,rfl,rfl,v.z a,by rw [zMJ,sizeLine_eq];have:=Dc.len;omega,?_⟩
   have B:upd H2 k (.tup [.str NY,.str z]) k=some (.tup (yY (hsR z))):=zC
   have n3:∀ r,upd H2 k (.tup [.str NY,.str z]) r=none->H2 r=none:=λr h=>(zU h).1
   generalize upd H2 k (.tup [.str NY,.str z])=M at v B n3 ⊢
   have N:zE [st,c] H2 (upd M c (.lst (L.map V.ref ++ [.ref k]))):=(v.mono (by simp)).trans (zE.at (by simp))
   have D4:=DAt.more (s:={ s with ptr:=none,asked:=false }) (H3:=upd M c (.lst (L.map V.ref ++ [.ref k]))) (x:=hsR z) (by rw [zK Dc.ne];exact v.z Dc.d) (zP N (vP Dc.d a) l) zC (by rw [zK (Ne.symm T)];exact B) J
   refine ⟨_,rfl,st,c,_,rfl,D4,λr U Y R5 o k5=>?_⟩
   exact q r U Y R5 (nn _ (n3 r (zU o).1)) ((kk.trans N).trans k5)
end
noncomputable abbrev sCh:Stmt:=top 45
noncomputable abbrev sSO:Stmt:=top 46
noncomputable abbrev sLN:Stmt:=top 47
noncomputable def wO (Y:Addr->Prop) (H:Hp) (st:Addr) (ys:List (Addr × Addr)) (ss:List SS):Prop:=H st=some (.lst (ys.map λy=>V.ref y.1))/\(Y st/\∀ y ∈ ys,Y y.1/\Y y.2)/\((∀ y ∈ ys,y.2 ≠ st)/\ys.Pairwise λa b=>a.1 ≠ b.1/\a.2 ≠ b.2)/\ys.length=ss.length/\∀ (i:Nat) (y:Addr × Addr) (s:SS),ys[i]?=some y->ss[i]?=some s->DAt H y.1 y.2 s
theorem wO.on (h:wO Y H st ys ss) (k:zE [] H a):wO Y a st ys ss:=by
 obtain ⟨b,c,d,e,f⟩:=h
 exact ⟨k.z b,c,d,e,λi y s g j=>(f i y s g j).keep k⟩
theorem DAt.keepS (D:DAt H st a s) (k:zE S H c) (f:st ∉ S) (g:a ∉ S) (h:∀ b ∈ S,∀ xs,H b ≠ some (.tup xs)):DAt c st a s:=by
 obtain ⟨i,e,r⟩:=D.rw
 exact ⟨k _ _ f D.d,⟨i,k _ _ g e,zP k h r⟩,D.len⟩
theorem wO.keep (h:wO Y H st ys ss) (k:zE S H f) (e:∀ b ∈ S,¬ Y b/\∀ xs,H b ≠ some (.tup xs)):wO Y f st ys ss:=by
 obtain ⟨g,c,j,l,m⟩:=h
 have a:∀ {u:Addr},Y u->u ∉ S:=λn o=>(e _ o).1 n
 exact ⟨k _ _ (a c.1) g,c,j,l,λi y s d p=>(m i y s d p).keepS k (a (c.2 y (zMN d)).1) (a (c.2 y (zMN d)).2) λb q=>(e b q).2⟩
theorem wO.seat (h:wO Y H st ys ss) (a:ys[i]?=some y) (k:zE [y.1,y.2] H n) (D:DAt n y.1 y.2 s'):wO Y n st ys (ss.set i s'):=by
 obtain ⟨o,s,g,p,q⟩:=h
 have r:i < ss.length:=by rw [<- p];exact (zML.mp a).1
 have c:=q i y _ a (zMK r)
 obtain ⟨A,b,_⟩:=c.rw
 have n1:=wY o c.d (by intro z;cases z)
 have n2:=Ne.symm (g.1 y (zMN a))
 refine ⟨k _ _ (by simp [n1,n2]) o,s,g,by rw [zNK];exact p,λj x t l f=>?_⟩
 by_cases e:j=i
 ·subst e
  rw [l] at a
  cases a
  rw [zNG r] at f
  cases f
  exact D
 ·rw [zNF (Ne.symm e)] at f
  have m:=q j x t l f
  obtain ⟨u,v⟩:=zF5 g.2 l a e
  obtain ⟨_,w,_⟩:=id m.rw
  exact m.keepS k (by simp [u,wY m.d b (by intro z;cases z)]) (by simp [v,wY w c.d (by intro z;cases z)]) (vP c.d b)
section
variable {P:Program} {w:World} {K:W.Frag} {mg:Str->Option Value} {base:Heap} {C:Addr}
theorem scLN:zO Nu Nu (zG sLN):=scm
theorem zJ6:zO [Sw,"_law_asker","_law_right"] Nz (zG sSO):=scm
theorem gP:zO [Sw,T6,"_law_right","_law_ranks","_law_k","_law_many"] NU (zG sCh):=scm
noncomputable def zG3:Sp:=λd H Q _=>∃ (i:Nat) (a:Addr) (b:List (List V)),d=[.ref a,.int (i:Int)]/\Rows H a b/\(∀ l ∈ b,l ≠ []/\l.length <= 10)/\b.length <= 100/\∀ (r:Addr) (c:Hp),Rows c r (b.map (oY i))->H r=none->zE [] H c->Q (.ref r) c
theorem okLN (G:yM K mg Ta sLN Nu):Cal P w K mg base CX0 1 Ta Nu zG3:=by
 refine G.oz scLN (λf j A c u H m Q E x h=>?_)
 obtain ⟨i,a,n,rfl,R,o,y,q⟩:=h
 obtain ⟨z,d,p⟩:=id R
 refine ⟨_,(zF (zL (vX (N:=Nu) (sc:=zG sLN) (ix:=[1]) (by decide +kernel) (xR (pv 0)) (λ_ _ _ _=>xQ) (λ_ _ _ _=>(yK (iE (K:=K)) (z9 (zA (zS z4 (pv 0) zH (λ_ _=>rfl)) (zA (pv 1) zB))) (wB (jT (K:=K)) (pv 0) (wA zH) vG)))))),?_⟩
 refine ⟨_,rfl,a,rfl,⟨_,.of d⟩,λacc b=>?_⟩
 refine pZ (ds:=n) id (oY i) (λ_=>true) (λl q=>[some (.ref q)]) [some (.int (i:Int))] (by omega) b (by rw [List.map_id];exact R) ⟨[none],rfl,rfl⟩ (λ_ _=>rfl) ?_ ?_ ?_ ?_
 ·intro l q m H R _ r e h
  obtain ⟨v,rfl⟩:=List.length_eq_one_iff.mp r
  exact h
 ·intro l q H R _ _ _ h
  exact h H (zE.refl _)
 ·intro l q H R s e h
  exact m5 (o l s) e h
 ·intro t g k
  rw [List.filter_eq_self.mpr (λ_ _=>rfl)] at g
  exact q acc t g b k
noncomputable def aN:Sp:=λc H Q _=>∃ (Y:Addr->Prop) (st:Addr) (d:List (Addr × Addr)) (b:List SS) (z:Str),c=[.ref st,.str z]/\wO Y H st d b/\b.length <= 100 /\
 (∀ a,z ∉ yZ b->zE [] H a->Q .non a)/\(∀ (i:Nat) (s:SS) (a:Hp),b[i]?=some s->z ∈ wZ s->zE [] H a->Q (.int (i:Int)) a)
theorem okSO (G:yM K mg SD sSO Nz) (g:Blt mg Sc) (a:Blt mg SG):Cal P w K mg base CX0 1 SD Nz aN:=by
 refine G.oz zJ6 (λf a0 A r s0 H vs Q E hr h=>?_)
 obtain ⟨Y,st,n,l,z,rfl,T,U,q0,q1⟩:=h
 have u:=vT hr
 refine ⟨_,(zD (uM PassesOwn.never rfl (vW rfl a.no (zA (zY z8 g yS (zA (pv 0) zB)) zB)) (yL (i:=2) zJ6.nd rfl (Or.inl rfl)) (zF (z5 (PW.pt (rS (zQ y6 (yP u (zS zV (pv 0) (pv 2) (λ_ _=>rfl)) zJ (λ_ _=>rfl)) (pv 1) (zW _)) (tP (zQ (kW u) (z9 (zA zJ (zA (pv 1) zB))) (yP u (zS zV (pv 0) (pv 2) (λ_ _=>rfl)) zJ (λ_ _=>rfl)) (by with_unfolding_all rfl))))) (zF (zL (pv 2))) zM)))
   (zF (zL yV))),?_⟩
 obtain ⟨v,_,_,ly,_⟩:=id T
 refine ⟨_,rfl,_,_,rfl,.inl ⟨_,.of v,rfl⟩,_,rfl,by omega,by rw [zMJ,ly];omega,sQ (λi B k=>∃ I:Option V,B=[some (.ref st),some (.str z),I]/\(∀ j s,j < i->l[j]?=some s->z ∉ wZ s)/\zE [] H k) ⟨_,rfl,λj s hj=>absurd hj (Nat.not_lt_zero j),zE.refl _⟩ ?_ ?_⟩
 ·rintro i B k hi ⟨I,rfl,no,m⟩
  rw [zMJ,Int.toNat_natCast] at hi
  have il:i < l.length:=by omega
  have b:l[i]?=some l[i]:=zMK il
  generalize l[i]=s at b
  have J:n[i]?=some n[i]:=zMK (by omega)
  generalize n[i]=y at J
  obtain ⟨c,_,_,_,hd⟩:=T.on m
  have D:=hd i y s J b
  have L:(0:Int) + (i:Int)=(i:Int):=Int.zero_add _
  have ix:atI (n.map λy=>V.ref y.1) (0 + (i:Int))=some (.ref y.1):=by rw [L];exact xZ J
  refine ⟨_,rfl,_,rfl,st,_,_,_,rfl,rfl,c,ix,y.1,_,rfl,g_h D.d,_,rfl,qN _ _,_,rfl,?_⟩
  rw [pF]
  by_cases o:s.hold=some z
  ·rw [zMY o]
   refine ifT rfl (ifT rfl ⟨_,rfl,?_⟩)
   rw [L]
   exact q1 i s k b (xD.mpr (.inl o)) m
  ·rw [zMZ o]
   refine ifF rfl ?_
   refine ⟨_,rfl,by show 2 <= sizeLine;decide,λt2 M=>?_⟩
   have p:zE [] k (upd k t2 (.tup [.str NV,.str z])):=zE.new M
   have D3:=D.keep p
   refine ⟨_,rfl,_,rfl,st,_,_,_,rfl,rfl,p.z c,ix,y.1,_,rfl,g_r D3.d,zIJ (x:=askR z) D3.rw zC ⟨_,rfl,?_⟩⟩
   by_cases q:askR z ∈ s.row
   ·rw [zMY q]
    refine ifT rfl ⟨_,rfl,?_⟩
    rw [L]
    exact q1 i s _ b (xD.mpr (.inr q)) (m.trans p)
   ·rw [zMZ q]
    refine ifF rfl ⟨_,rfl,λj t hj N=>?_,m.trans p⟩
    by_cases e:j=i
    ·subst e
     rw [b] at N
     cases N
     exact λO=>(xD.mp O).elim o q
    ·exact no j t (by omega) N
 ·rintro B k ⟨I,rfl,no,m⟩
  refine q0 k (λO=>?_) m
  obtain ⟨i,s,b,hz⟩:=wM.mp O
  have il:i < l.length:=(zML.mp b).1
  exact no i s (by rw [zMJ,Int.toNat_natCast];omega) b hz
end
noncomputable abbrev sDn:Stmt:=top 49
noncomputable abbrev sPu:Stmt:=top 50
theorem zE3 (x y:V) (l:List V):uS (x :: y :: l) none (some 2)=[x,y]:=by
 unfold uS
 rw [show (2:Int)=((2:Nat):Int) from rfl,HT.sIx_nat]
 simp only [zM4]
 rw [show min 2 (l.length + 1 + 1)=2 by omega]
 rfl
theorem lH (x y z:V) (l:List V):uS (x :: y :: z :: l) (some 3) none=l:=by
 unfold uS
 rw [show (3:Int)=((3:Nat):Int) from rfl,HT.sIx_nat]
 simp only [zM4]
 rw [show min 3 (l.length + 1 + 1 + 1)=3 by omega]
 show l.take _=l
 rw [zM8]
 show l.length <= HT.sIx (l.length + 1 + 1 + 1) (l.length + 1 + 1 + 1) none - 3
 unfold HT.sIx
 simp
theorem jB (d:H t=some (.tup (a :: b :: l))) (h:∀ u H1,zE [] H H1->H1 u=some (.tup [a,b])->Q (.ref u) H1):cQ K (.ref t) none (some 2) H Q:=by
 cases l with
 | nil=>exact ⟨t,_,rfl,.of d,.inl ⟨rfl,rfl,h t H (zE.refl _) d⟩⟩
 | cons c l=>
  refine ⟨t,_,rfl,.of d,.inr ⟨?_,λp f=>?_⟩⟩
  ·rintro ⟨_,e⟩
   rw [show (2:Int)=((2:Nat):Int) from rfl,HT.sIx_nat] at e
   simp only [zM4] at e
   omega
  ·rw [zE3]
   exact h p _ (zE.new f) zC
theorem jN:¬ (HT.sIx (a :: b :: c :: l).length 0 (some 3)=0/\p):=by
 rintro ⟨e,_⟩
 rw [show (3:Int)=((3:Nat):Int) from rfl,HT.sIx_nat] at e
 simp only [zM4] at e
 omega
theorem zDS (s:SS) (h:n=s.row.length):[V.int ((n:Int) + (if (!decide (yD s.hold=.non))=true then 1 else 0)),V.int (if (!decide (yD s.ptr=V.non))=true then 1 else 0)]=uB s:=by
 unfold uB nO
 rw [h]
 cases s.hold <;> cases s.ptr <;> simp [yD]
noncomputable def jL (Y:Addr->Prop) (H:Hp) (st:Addr) (ys:List (Addr × Addr)) (ss:List SS) (i:Nat) (s:SS) (d:DD) (Q:VK):Prop:=∀ r y a,ys[i]?=some y->wO Y a st ys (ss.set i (yC (xG s d)).1)->Rows a r ((yC (xG s d)).2.map (oY i))->H r=none->zE [y.1,y.2] H a->Q (.ref r) a
theorem jL.num (f:wO Y H st ys ss) (c:ys[i]?=some y) (q:jL Y H st ys ss i s d Q) (a:zE [] H H1) (D:DAt b y.1 y.2 (yC (xG s d)).1) (R:Rows b r (yC (xG s d)).2) (m:H1 r=none) (k2:zE [y.1,y.2] H1 b):zG3 [.ref r,.int (i:Int)] b Q E:=by
 obtain ⟨g,h⟩:=rC (xG s d)
 refine ⟨i,r,_,rfl,R,g,h,λj k l n3 e=>q j y k c (((f.on a).seat c k2 D).on e) l ?_ (((a.mono (by simp)).trans k2).trans (e.mono (by simp)))⟩
 exact a.none (by simp) (k2.none (D.fresh n3) n3)
theorem zGG (nm:V) (nl a:Addr):(hfl nm nl a).lookup (S8 : Str)=none:=rfl
theorem zLQ (nm:V) (nl a:Addr):(hfl nm nl a).lookup (NZ : Str)=none:=rfl
theorem zLT (nm:V) (nl a:Addr):(hfl nm nl a).lookup (S3 : Str)=none:=rfl
theorem zLX (nm:V) (nl a:Addr):(hfl nm nl a).lookup (NX : Str)=none:=rfl
theorem zLU (nm:V) (nl a:Addr):(hfl nm nl a).lookup (NW : Str)=none:=rfl
section
variable {P:Program} {w:World} {K:W.Frag} {mg:Str->Option Value} {base:Heap} {C CS:Addr}
theorem zDE:zO NP Nm (zG sDn):=scm
theorem zJ9:zO Nc Nc (zG sPu):=scm
noncomputable def zJW:Sp:=λc H Q _=>∃ Y st d a,c=[.ref st]/\wO Y H st d a/\a ≠ []/\a.length <= 100/\∀ b,zE [] H b->Q (.int (pI a:Int)) b
theorem okCh (G:yM K mg "_law_chosen" sCh NU) (m:Blt mg Sc) (o:Blt mg SG) (p:Blt mg "int"):Cal P w K mg base CX0 1 "_law_chosen" NU zJW:=by
 refine G.oz gP (λf af A a4 s0 H vs Q E hr h=>?_)
 obtain ⟨Y,st,ys,e,rfl,hS,ne,ae,q⟩:=h
 have hu:=vT hr
 have pos:0 < e.length:=zM9.mpr ne
 refine ⟨_,(zD (zX (i:=1) gP.nd rfl (Or.inl rfl) zH)
   (zD (uM PassesOwn.never rfl (cW rfl o.no (zA zH (zA (zY z8 m yS (zA (pv 0) zB)) zB))) (yL (i:=2) gP.nd rfl (Or.inl rfl)) (zD (zX (i:=3) gP.nd rfl (Or.inl rfl) (yN zB))
   (zD (uM PassesOwn.never rfl (xR (yN (zA (pv 2) (zA (pv 1) zB)))) (yL (i:=4) gP.nd rfl (Or.inl rfl)) (zD (zX (i:=5) gP.nd rfl (Or.inl rfl) (yK xV (zY z8 m yS (zA (yP hu (zS zV (pv 0) (pv 4) (λ_ _=>rfl)) zJ (λ_ _=>rfl)) zB)) (xE uK rfl p.no tX (zA (xC vO (yP hu (zS zV (pv 0) (pv 4) (λ_ _=>rfl)) zJ (λ_ _=>rfl)) yV (zW _)) zB))))
   (zF (yA (vN F.plainAttrs_list F.slot_list_append F.type_list_append xF (pv 3) (zA (z9 (zA (pv 5) (zA (xE uK rfl p.no tX (zA (xC vO (yP hu (zS zV (pv 0) (pv 4) (λ_ _=>rfl)) zJ (λ_ _=>rfl)) yV (zW _)) zB)) zB))) zB))))))
   (zF (z5 (zQ (zHT (Nat.lt_of_succ_lt hu)) (zS zV (pv 3) zH (λ_ _=>rfl)) (zS zV (pv 3) zH (λ_ _=>rfl)) (zW _)) (zF (zX (i:=1) gP.nd rfl (Or.inl rfl) (pv 2))) zM)))))
   (zF (zL (pv 1))))),?_⟩
 obtain ⟨a5,_,_,ly,_⟩:=id hS
 have len:((List.map (λy:Addr × Addr=>V.ref y.1) ys).length:Int)=(e.length:Int):=by rw [zMJ,ly]
 refine ⟨_,rfl,_,_,rfl,.inl ⟨_,.of a5,rfl⟩,_,_,rfl,⟨by omega,by omega,by rw [len];omega,by rw [len];omega⟩,?_⟩
 rw [len,show (((e.length:Int)) - 1).toNat=e.length - 1 by omega]
 refine sQ (λk B I=>∃ v2 v3 v4 J:Option V,B=[some (.ref st),some (.int (argBest (bt2 e) k:Int)),v2,v3,v4,J]/\zE [] H I) ⟨_,_,_,_,rfl,zE.refl _⟩ ?_ ?_
 ·rintro k B I hk ⟨v2,v3,v4,J,rfl,k1⟩
  have bl:=tY (bt2 e) k
  generalize eb:argBest (bt2 e) k=b at bl
  have kl:k + 1 < e.length:=by omega
  have a6:b < e.length:=by omega
  rw [show (1:Int) + (k:Int)=((k + 1:Nat):Int) by omega]
  refine ⟨zMT _,λg U=>?_⟩
  have k2:zE [] I (upd I g (.lst [])):=zE.new U
  have e2:upd I g (.lst []) g=some (.lst []):=zC
  generalize upd I g (.lst [])=H2 at k2 e2 ⊢
  refine ⟨_,rfl,_,rfl,by show 2 <= sizeLine;decide,λM a0=>⟨M,rfl,⟨_,.of zC⟩,?_⟩⟩
  have k3:zE [] H2 (upd H2 M (.lst [.int ((k + 1:Nat):Int),.int (b:Int)])):=zE.new a0
  have e3:upd H2 M (.lst [.int ((k + 1:Nat):Int),.int (b:Int)]) M=some (.lst ([k + 1,b].map λn:Nat=>V.int (n:Int))):=zC
  have aa:g ≠ M:=zI e2 a0
  have a1:=k3.z e2
  generalize upd H2 M (.lst [.int ((k + 1:Nat):Int),.int (b:Int)])=H3 at k3 e3 a1 ⊢
  have a2:=(k1.trans k2).trans k3
  have rH:H g=none:=k1.none (by simp) U
  refine tI (K:=K) (a:=M) (xs:=[k + 1,b].map λn:Nat=>V.int (n:Int)) (λj B l=>∃ v4 J L,B=[some (.ref st),some (.int (b:Int)),some (.int ((k + 1:Nat):Int)),some (.ref g),v4,J]/\l g=some (.lst (L.map V.ref))/\Paired (λq r=>l q=some (.tup r)) L (([k + 1,b].take j).map λn=>(e.map uB).getD n [])/\zE [g] H3 l) ⟨_,_,[],rfl,a1,.nil,zE.refl _⟩ ?_ ?_ ?_
  ·rintro j B l _ ⟨v4,J,L,rfl,N,hp,T⟩
   exact .of (T _ _ (by simp [Ne.symm aa]) e3)
  ·rintro j x B l hx ⟨v4,J,L,rfl,N,hp,T⟩
   rw [zMP] at hx
   cases en:[k + 1,b][j]? with
   | none=>rw [en] at hx;cases hx
   | some n=>
   rw [en] at hx
   have ex:V.int (n:Int)=x:=zMQ hx
   subst ex
   have nl:n < e.length:=by
    have:=zMN en
    simp at this
    rcases this with rfl | rfl <;> assumption
   have es:e[n]?=some e[n]:=zMK nl
   generalize e[n]=s at es
   have ey:ys[n]?=some ys[n]:=zMK (by omega)
   generalize ys[n]=y at ey
   have v:zE [] H l:=a2.under T (by intro c O;rw [zMM.mp O];exact rH)
   obtain ⟨u,_,_,_,hd⟩:=hS.on v
   have D:=hd n y s ey es
   obtain ⟨rs,ab,ac⟩:=id D.rw
   have a3:=zZ ac
   rw [zMJ] at a3
   have ix:=xZ ey
   refine ⟨_,rfl,_,rfl,st,_,_,_,rfl,rfl,u,ix,y.1,_,rfl,g_r D.d,_,_,rfl,.inl ⟨_,.of ab,rfl⟩,_,rfl,_,rfl,st,_,_,_,rfl,rfl,u,ix,y.1,_,rfl,g_h D.d,rfl,.inr ⟨_,rfl,_,_,rfl,rfl,?_⟩⟩
   refine ⟨_,rfl,.inl ⟨rfl,_,.of N⟩,_,rfl,_,rfl,_,rfl,st,_,_,_,rfl,rfl,u,ix,y.1,_,rfl,g_a D.d,rfl,.inr ⟨_,rfl,by show 2 <= sizeLine;decide,λt ht=>?_⟩⟩
   rw [zDS s (by rw [zMJ];exact a3)] at *
   have k5:zE [] l (upd l t (.tup (uB s))):=zE.new ht
   have e5:upd l t (.tup (uB s)) t=some (.tup (uB s)):=zC
   have h5:=k5.z N
   have tr:t ≠ g:=Ne.symm (zI N ht)
   have lp:=zZ hp
   rw [zMJ,zM2] at lp
   generalize upd l t (.tup (uB s))=H5 at k5 e5 h5 ⊢
   refine ⟨g,_,_,rfl,rfl,h5,by rw [zMJ,sizeLine_eq];simp at lp;omega,?_⟩
   have k6:zE [g] H5 (upd H5 g (.lst (L.map V.ref ++ [.ref t]))):=zE.at (by simp)
   have nt:∀ c ∈ [g],∀ xs,H5 c ≠ some (.tup xs):=λc O xs z=>by rw [zMM.mp O,h5] at z;cases z
   refine ⟨_,_,L ++ [t],rfl,by rw [zC,zMV];rfl,?_,(T.trans (k5.mono (by simp))).trans k6⟩
   rw [vJ en,zMV]
   have eg:(e.map uB).getD n []=uB s:=by rw [zMO,zMP,es];rfl
   refine wP (zP k6 nt (zP k5 (λc O=>by cases O) hp)) ?_
   show _=some (HO.tup ((e.map uB).getD n []))
   rw [eg]
   exact k6 _ _ (by simp [tr]) e5
  ·rintro B l ⟨v4,J,L,rfl,N,hp,T⟩
   have v:zE [] H l:=a2.under T (by intro c O;rw [zMM.mp O];exact rH)
   match L,hp with
   | [t1,t2],.cons h1 (.cons h2 .nil)=>
    have kin:Kin ((e.map uB).getD (k + 1) []) ((e.map uB).getD b []):=by
     rw [zMO,zMO,zMP,zMP,zMK kl,zMK a6]
     exact .int (.int .nil)
    refine ⟨_,rfl,g,_,0,_,rfl,rfl,N,at0 _ _,_,rfl,g,_,1,_,rfl,rfl,N,at1 _ _ _,t1,t2,_,_,rfl,rfl,h1,h2,kin,_,rfl,?_⟩
    have ea:argBest (bt2 e) (k + 1)=if bt2 e (k + 1) b=true then k + 1 else b:=by
     show (if bt2 e (k + 1) (argBest (bt2 e) k)=true then k + 1 else argBest (bt2 e) k)=_
     rw [eb]
    show if bt2 e (k + 1) b=true then _ else _
    by_cases hb:bt2 e (k + 1) b=true
    ·rw [if_pos hb]
     rw [if_pos hb] at ea
     exact ⟨_,rfl,_,_,_,_,by rw [ea];rfl,v⟩
    ·rw [if_neg hb]
     rw [if_neg hb] at ea
     exact ⟨_,_,_,_,by rw [ea],v⟩
 ·rintro B I ⟨v2,v3,v4,J,rfl,k1⟩
  refine ⟨_,rfl,?_⟩
  rw [<- zE9 ne]
  exact q I k1
noncomputable def zJU:Sp:=λc H Q _=>∃ Y st t b a k e h i s d,c=[.ref st,.ref t]/\wO Y H st b a/\uH k a/\k <= 60/\a.length <= 100/\H t=some (.tup (hdV h))/\AtR e a h i s d/\jL Y H st b a i s d Q
theorem okDn (G:yM K mg "_law_done" sDn Nm) (a6:Cal P w K mg base CX0 1 SD Nz aN) (aa:Cal P w K mg base CX0 1 "_law_chosen" NU zJW) (a1:Cal P w K mg base CX0 2 Tf NH aS) (a2:Cal P w K mg base CX0 1 Ta Nu zG3):Cal P w K mg base CX0 3 "_law_done" Nm zJU:=by
 refine G.oz zDE (λf ac A ab s0 H vs Q E hr h=>?_)
 obtain ⟨Y,st,t,ys,ss,k,nb,hx,i,s,dd,rfl,hS,I,hk,J,m,a,q⟩:=h
 have a3:z6 2 _:=hr
 have a0:z6 1 _:=hr.mono (by decide)
 have L:=a.here
 have ok:=a.ok
 have il:i < ss.length:=(zML.mp L).1
 obtain ⟨U,_,_,ly,hd⟩:=id hS
 have D:ys[i]?=some ys[i]:=zMK (by omega)
 generalize ys[i]=y at D
 have si:=I.si s (zMN L)
 have lr:s.row.length < 900:=by have:=I.rl s (zMN L);omega
 have ne:ss ≠ []:=λe=>by rw [e] at il;simp at il
 have a4:=(hd i y s D L).d
 obtain ⟨_,a5,_⟩:=id (hd i y s D L).rw
 refine ⟨_,(zD (z5 (zQ sL (zS z4 (pv 1) zH (λ_ _=>rfl)) (z9 (zA zJ (zA zJ zB))) (by with_unfolding_all rfl)) (zF (zL (zN a2 a0 (zA (zN a1 a3 (zA (zS zV (pv 0) (zS z4 (pv 1) zH (λ_ _=>rfl)) (λ_ _=>rfl)) (zA (yK dI (z9 (zA (zS z4 (pv 1) zH (λ_ _=>rfl)) (zA (zS z4 (pv 1) zH (λ_ _=>rfl)) zB))) (wB rP (pv 1) (wA zH) vG)) zB))) (zA (zS z4 (pv 1) zH (λ_ _=>rfl)) zB))))) zM)
   (zD (zX (i:=2) zDE.nd rfl (Or.inl rfl) (zN a6 a0 (zA (pv 0) (zA (zS z4 (pv 1) zH (λ_ _=>rfl)) zB))))
   (zD (z5 (zQ y6 (zS z4 (pv 1) zH (λ_ _=>rfl)) zJ (zW _)) (zD (zX (i:=2) zDE.nd rfl (Or.inl rfl) (zS z4 (pv 1) zH (λ_ _=>rfl)))
   (zF (z5 (zQ uO (pv 2) yV (zW _)) (zF (zX (i:=2) zDE.nd rfl (Or.inl rfl) (zN aa a0 (zA (pv 0) zB)))) zM))) zM)
   (zF (zL (zN a2 a0 (zA (zN a1 a3 (zA (zS zV (pv 0) (pv 2) (λ_ _=>rfl)) (zA (wB rP (pv 1) vG (wA zH)) zB))) (zA (pv 2) zB)))))))),?_⟩
 refine sq λN hN=>?_
 cases a with
 | @any z _ _ _ eb gz nz=>
  refine ⟨_,rfl,t,_,0,_,rfl,rfl,m,at0 _ _ ,by show 2 <= sizeLine;decide,λo p=>⟨o,_,rfl,.inr (.of zC),rfl,rfl,_,rfl,tV ?_⟩⟩
  have l:zE [] H (upd H o (.tup [.str NX,.str NW])):=zE.new p
  generalize upd H o (.tup [.str NX,.str NW])=H1 at l ⊢
  have g:=l.z m
  refine hN _ _ (sq λN hN=>?_)
  refine ⟨_,rfl,_,rfl,t,_,1,_,rfl,rfl,g,at1 _ _ _,Y,st,ys,ss,z,rfl,hS.on l,J,λT _ M=>?_,λi' s' T O hz _=>absurd (wM.mpr ⟨i',s',O,hz⟩) nz⟩
  have j:=l.trans M
  have n:=j.z m
  refine hN _ _ ?_
  refine ⟨_,rfl,t,_,0,_,rfl,rfl,n,at0 _ _,rfl,_,rfl,nI ⟨_,rfl,t,_,2,_,rfl,rfl,n,at2 _ _ _ _,?_⟩⟩
  refine ⟨_,rfl,rfl,_,rfl,ifT rfl ⟨_,rfl,Y,st,ys,ss,rfl,hS.on j,ne,J,λH3 k3=>?_⟩⟩
  have x:=j.trans k3
  rw [<- eb]
  refine ⟨_,rfl,_,rfl,st,_,_,_,rfl,rfl,x.z U,xZ D,_,rfl,_,rfl,jB (x.z m) λu H4 k4 hu4=>?_⟩
  have B:=x.trans k4
  exact ⟨y.1,y.2,u,s,(.want z),rfl,(hd i y s D L).keep B,hu4,si,ok,lr,λr H5 D5 R5 n5 k5=>⟨_,rfl,jL.num (E:=E) hS D q B D5 R5 n5 k5⟩⟩
 | @want z _ _ _ gz nz=>
  refine ⟨_,rfl,t,_,0,_,rfl,rfl,m,at0 _ _ ,by show 2 <= sizeLine;decide,λo p=>⟨o,_,rfl,.inr (.of zC),rfl,rfl,_,rfl,tV ?_⟩⟩
  have l:zE [] H (upd H o (.tup [.str NX,.str NW])):=zE.new p
  generalize upd H o (.tup [.str NX,.str NW])=H1 at l ⊢
  have g:=l.z m
  refine hN _ _ (sq λN hN=>?_)
  refine ⟨_,rfl,_,rfl,t,_,1,_,rfl,rfl,g,at1 _ _ _,Y,st,ys,ss,z,rfl,hS.on l,J,λT _ M=>?_,λi' s' T O hz _=>absurd (wM.mpr ⟨i',s',O,hz⟩) nz⟩
  have j:=l.trans M
  have n:=j.z m
  refine hN _ _ ?_
  refine ⟨_,rfl,t,_,0,_,rfl,rfl,n,at0 _ _,rfl,_,rfl,nI ⟨_,rfl,t,_,2,_,rfl,rfl,n,at2 _ _ _ _,?_⟩⟩
  refine ⟨_,rfl,rfl,_,rfl,ifF rfl ?_⟩
  refine ⟨_,rfl,_,rfl,st,_,_,_,rfl,rfl,j.z U,xZ D,_,rfl,_,rfl,jB n λu H4 k4 hu4=>?_⟩
  have B:=j.trans k4
  exact ⟨y.1,y.2,u,s,(.want z),rfl,(hd i y s D L).keep B,hu4,si,ok,lr,λr H5 D5 R5 n5 k5=>⟨_,rfl,jL.num (E:=E) hS D q B D5 R5 n5 k5⟩⟩
 | @leave z _ _ _ hm=>
  refine ⟨_,rfl,t,_,0,_,rfl,rfl,m,at0 _ _ ,by show 2 <= sizeLine;decide,λo p=>⟨o,_,rfl,.inr (.of zC),rfl,rfl,_,rfl,tV ?_⟩⟩
  have l:zE [] H (upd H o (.tup [.str NX,.str NW])):=zE.new p
  generalize upd H o (.tup [.str NX,.str NW])=H1 at l ⊢
  have g:=l.z m
  have zn:z ∈ wZ s:=xD.mpr (.inr hm)
  refine hN _ _ (sq λN hN=>?_)
  refine ⟨_,rfl,_,rfl,t,_,1,_,rfl,rfl,g,at1 _ _ _,Y,st,ys,ss,z,rfl,hS.on l,J,λT no _=>absurd (wM.mpr ⟨i,s,L,zn⟩) no,λi' s' T O hz M=>?_⟩
  obtain rfl:=oZ I.nd L O zn hz
  have j:=l.trans M
  have n:=j.z m
  refine hN _ _ ?_
  refine ⟨_,rfl,t,_,0,_,rfl,rfl,n,at0 _ _,rfl,_,rfl,tV ?_⟩
  refine ⟨_,rfl,_,rfl,st,_,_,_,rfl,rfl,j.z U,xZ D,_,rfl,_,rfl,jB n λu H4 k4 hu4=>?_⟩
  have B:=j.trans k4
  exact ⟨y.1,y.2,u,s,(.leave z),rfl,(hd i y s D L).keep B,hu4,si,ok,lr,λr H5 D5 R5 n5 k5=>⟨_,rfl,jL.num (E:=E) hS D q B D5 R5 n5 k5⟩⟩
 | @done z _ _ _ hm=>
  refine ⟨_,rfl,t,_,0,_,rfl,rfl,m,at0 _ _ ,by show 2 <= sizeLine;decide,λo p=>⟨o,_,rfl,.inr (.of zC),rfl,rfl,_,rfl,tV ?_⟩⟩
  have l:zE [] H (upd H o (.tup [.str NX,.str NW])):=zE.new p
  generalize upd H o (.tup [.str NX,.str NW])=H1 at l ⊢
  have g:=l.z m
  have zn:z ∈ wZ s:=xD.mpr (.inl hm)
  refine hN _ _ (sq λN hN=>?_)
  refine ⟨_,rfl,_,rfl,t,_,1,_,rfl,rfl,g,at1 _ _ _,Y,st,ys,ss,z,rfl,hS.on l,J,λT no _=>absurd (wM.mpr ⟨i,s,L,zn⟩) no,λi' s' T O hz M=>?_⟩
  obtain rfl:=oZ I.nd L O zn hz
  have j:=l.trans M
  have n:=j.z m
  refine hN _ _ ?_
  refine ⟨_,rfl,t,_,0,_,rfl,rfl,n,at0 _ _,rfl,_,rfl,tV ?_⟩
  refine ⟨_,rfl,_,rfl,st,_,_,_,rfl,rfl,j.z U,xZ D,_,rfl,_,rfl,jB n λu H4 k4 hu4=>?_⟩
  have B:=j.trans k4
  exact ⟨y.1,y.2,u,s,(.done z),rfl,(hd i y s D L).keep B,hu4,si,ok,lr,λr H5 D5 R5 n5 k5=>⟨_,rfl,jL.num (E:=E) hS D q B D5 R5 n5 k5⟩⟩
 | @ask z _ _ _ zn gz n1 n2=>
  have m:H t=some (.tup [.str NX,.str z,.int (i:Int)]):=m
  refine ⟨_,rfl,t,_,0,_,rfl,rfl,m,at0 _ _ ,by show 2 <= sizeLine;decide,λo p=>⟨o,_,rfl,.inr (.of zC),rfl,rfl,_,rfl,nI ?_⟩⟩
  have l:zE [] H (upd H o (.tup [.str NX,.str NW])):=zE.new p
  generalize upd H o (.tup [.str NX,.str NW])=H1 at l ⊢
  have g:=l.z m
  refine ⟨_,rfl,_,rfl,t,_,2,_,rfl,rfl,g,at2 _ _ _ _,st,_,_,_,rfl,rfl,l.z U,xZ D,_,rfl,t,_,0,_,rfl,rfl,g,at0 _ _,_,rfl,t,_,1,_,rfl,rfl,g,at1 _ _ _,by show 2 <= sizeLine;decide,λu hu=>?_⟩
  have M:zE [] H1 (upd H1 u (.tup [.str NX,.str z])):=zE.new hu
  have e2:upd H1 u (.tup [.str NX,.str z]) u=some (.tup [.str NX,.str z]):=zC
  generalize upd H1 u (.tup [.str NX,.str z])=T at M e2 ⊢
  refine ⟨_,rfl,_,rfl,t,_,rfl,.of (M.z g),.inr ⟨jN,λv hv=>?_⟩⟩
  rw [lH]
  have k3:zE [] T (upd T v (.tup [])):=zE.new hv
  refine ⟨u,v,_,_,rfl,rfl,.of (k3.z e2),.of zC,by simp,by show 2 + 0 <= sizeLine;decide,λ_=>?_,λc=>absurd rfl c⟩
  have x:=(l.trans M).trans k3
  exact ⟨y.1,y.2,u,s,.ask z,rfl,(hd i y s D L).keep x,k3.z e2,si,ok,lr,λr H5 D5 R5 n5 k5=>⟨_,rfl,t,_,2,_,rfl,rfl,k5 _ _ (by simp [wY m a4 (by intro z;cases z),wY m a5 (by intro z;cases z)]) (x.z m),at2 _ _ _ _,jL.num (E:=E) hS D q x D5 R5 n5 k5⟩⟩
 | @come z _ _ b zn hp=>
  have m:H t=some (.tup [.str NW,.str z,.int (i:Int),.bl b]):=m
  refine ⟨_,rfl,t,_,0,_,rfl,rfl,m,at0 _ _ ,by show 2 <= sizeLine;decide,λo p=>⟨o,_,rfl,.inr (.of zC),rfl,rfl,_,rfl,nI ?_⟩⟩
  have l:zE [] H (upd H o (.tup [.str NX,.str NW])):=zE.new p
  generalize upd H o (.tup [.str NX,.str NW])=H1 at l ⊢
  have g:=l.z m
  refine ⟨_,rfl,_,rfl,t,_,2,_,rfl,rfl,g,at2 _ _ _ _,st,_,_,_,rfl,rfl,l.z U,xZ D,_,rfl,t,_,0,_,rfl,rfl,g,at0 _ _,_,rfl,t,_,1,_,rfl,rfl,g,at1 _ _ _,by show 2 <= sizeLine;decide,λu hu=>?_⟩
  have M:zE [] H1 (upd H1 u (.tup [.str NW,.str z])):=zE.new hu
  have e2:upd H1 u (.tup [.str NW,.str z]) u=some (.tup [.str NW,.str z]):=zC
  generalize upd H1 u (.tup [.str NW,.str z])=T at M e2 ⊢
  refine ⟨_,rfl,_,rfl,t,_,rfl,.of (M.z g),.inr ⟨jN,λv hv=>?_⟩⟩
  rw [lH]
  have k3:zE [] T (upd T v (.tup [.bl b])):=zE.new hv
  refine ⟨u,v,_,_,rfl,rfl,.of (k3.z e2),.of zC,by simp,by show 2 + 1 <= sizeLine;decide,λc=>(by cases c),λ_ w hw=>?_⟩
  have x:zE [] H (upd (upd T v (.tup [.bl b])) w (.tup [.str NW,.str z,.bl b])):=((l.trans M).trans k3).trans (zE.new hw)
  exact ⟨y.1,y.2,w,s,.come z b,rfl,(hd i y s D L).keep x,zC,si,ok,lr,λr H5 D5 R5 n5 k5=>⟨_,rfl,t,_,2,_,rfl,rfl,k5 _ _ (by simp [wY m a4 (by intro z;cases z),wY m a5 (by intro z;cases z)]) (x.z m),at2 _ _ _ _,jL.num (E:=E) hS D q x D5 R5 n5 k5⟩⟩
theorem sno {σ:St} {t u:TS} (a:σ[i]?=some (some (.ref q))) (b:H q=some (.tup (.str c :: r))) (k:u D σ H) (ne:decide (V.str c=V.str d)=false:=by decide +kernel):u6 (zC1 (jO (tOp rEq (tOp j7 (tM i) (tC (.int 0))) (tC (.str d)))) t f8) u D σ H:=⟨_,a,q,_,0,_,rfl,rfl,b,at0 _ _,rfl,_,rfl,ifF ne k⟩
theorem lW {σ:St} {t u:TS} (a:σ[i]?=some (some (.ref q))) (b:H q=some (.tup (.str c :: r))) (k:t { D with nx:=u D } σ H) (ne:decide (V.str c=V.str d)=true:=by decide +kernel):u6 (zC1 (jO (tOp rEq (tOp j7 (tM i) (tC (.int 0))) (tC (.str d)))) t f8) u D σ H:=⟨_,a,q,_,0,_,rfl,rfl,b,at0 _ _,rfl,_,rfl,ifT ne k⟩
noncomputable def zJL (C CS:Addr):Sp:=λe H Q _=>∃ B p t nm b c a k h i s d,e=[.ref p,.ref t]/\z7 B C CS H p nm b c a/\uH k a/\k <= 60/\a.length <= 100/\H t=some (.tup (hdV h))/\AtR b a h i s d/\qH B C CS H p nm b c a i s d Q
theorem okPu (T:xK K C) (G:yM K mg SK sPu Nc) (x:yI P w K mg base CX0 4 C S8 Nk (zJN C CS)) (y:yI P w K mg base CX0 5 C NZ N4 (zJO C CS)) (D:yI P w K mg base CX0 5 C S3 N4 (zJQ C CS)) (J:yI P w K mg base CX0 4 C NX N6 (zJP C CS)) (L:yI P w K mg base CX0 4 C NW Ng (zJR C CS)):Cal P w K mg base CX0 6 SK Nc (zJL C CS):=by
 refine G.oz zJ9 (λf U A M s0 H vs Q E N h=>?_)
 obtain ⟨B,p,t,nm,j,l,m,k,hx,i,s,dd,rfl,e,I,n,d,c,a,q⟩:=h
 have v:z6 5 _:=N
 have g:z6 4 _:=N.mono (by decide)
 obtain ⟨o,nl,sl,_,r,_⟩:=id e
 refine ⟨_,(zD (z5 (zQ y6 (zS z4 (pv 1) zH (λ_ _=>rfl)) zJ (zW _)) (zF (zL (xY x T.cl g (pv 0) (zA (zS z4 (pv 1) zH (λ_ _=>rfl)) (zA (zS z4 (pv 1) zH (λ_ _=>rfl)) zB))))) zM)
   (zD (z5 (zQ y6 (zS z4 (pv 1) zH (λ_ _=>rfl)) zJ (zW _)) (zF (zL (xY y T.cl v (pv 0) (zA (zS z4 (pv 1) zH (λ_ _=>rfl)) zB)))) zM)
   (zD (z5 (zQ y6 (zS z4 (pv 1) zH (λ_ _=>rfl)) zJ (zW _)) (zF (zL (xY D T.cl v (pv 0) (zA (zS z4 (pv 1) zH (λ_ _=>rfl)) zB)))) zM)
   (zD (z5 (zQ y6 (zS z4 (pv 1) zH (λ_ _=>rfl)) zJ (zW _)) (zF (zL (xY J T.cl g (pv 0) (zA (zS z4 (pv 1) zH (λ_ _=>rfl)) (zA (zS z4 (pv 1) zH (λ_ _=>rfl)) zB))))) zM)
   (zF (zL (xY L T.cl g (pv 0) (zA (zS z4 (pv 1) zH (λ_ _=>rfl)) (zA (zS z4 (pv 1) zH (λ_ _=>rfl)) (zA (zS z4 (pv 1) zH (λ_ _=>rfl)) zB)))))))))),?_⟩
 have u:=a
 cases a with
 | @any z _ _ _ eb O Y=>
  refine lW rfl c ?_
  exact ⟨_,rfl,p,o,_,rfl,r,zGG _ _ _,_,rfl,t,_,1,_,rfl,rfl,c,at1 _ _ _,_,rfl,t,_,2,_,rfl,rfl,c,at2 _ _ _ _,B,p,nm,j,l,m,k,z,none,i,s,rfl,e,I,n,d,u,q⟩
 | @want z _ _ _ O Y=>
  refine lW rfl c ?_
  exact ⟨_,rfl,p,o,_,rfl,r,zGG _ _ _,_,rfl,t,_,1,_,rfl,rfl,c,at1 _ _ _,_,rfl,t,_,2,_,rfl,rfl,c,at2 _ _ _ _,B,p,nm,j,l,m,k,z,some i,i,s,rfl,e,I,n,d,u,q⟩
 | @leave z _ _ _ hm=>
  refine sno rfl c ?_
  refine lW rfl c ?_
  exact ⟨_,rfl,p,o,_,rfl,r,zLQ _ _ _,_,rfl,t,_,1,_,rfl,rfl,c,at1 _ _ _,B,p,nm,j,l,m,k,z,i,s,rfl,e,I,n,d,u,q⟩
 | @done z _ _ _ hm=>
  refine sno rfl c ?_
  refine sno rfl c ?_
  refine lW rfl c ?_
  exact ⟨_,rfl,p,o,_,rfl,r,zLT _ _ _,_,rfl,t,_,1,_,rfl,rfl,c,at1 _ _ _,B,p,nm,j,l,m,k,z,i,s,rfl,e,I,n,d,u,q⟩
 | @ask z _ _ _ zn O n1 n2=>
  refine sno rfl c ?_
  refine sno rfl c ?_
  refine sno rfl c ?_
  refine lW rfl c ?_
  exact ⟨_,rfl,p,o,_,rfl,r,zLX _ _ _,_,rfl,t,_,1,_,rfl,rfl,c,at1 _ _ _,_,rfl,t,_,2,_,rfl,rfl,c,at2 _ _ _ _,B,p,nm,j,l,m,k,z,i,s,rfl,e,I,n,d,u,q⟩
 | @come z _ _ b zn hq=>
  refine sno rfl c ?_
  refine sno rfl c ?_
  refine sno rfl c ?_
  refine sno rfl c ?_
  exact ⟨_,rfl,p,o,_,rfl,r,zLU _ _ _,_,rfl,t,_,1,_,rfl,rfl,c,at1 _ _ _,_,rfl,t,_,2,_,rfl,rfl,c,at2 _ _ _ _,_,rfl,t,_,3,_,rfl,rfl,c,at3 _ _ _ _ _,B,p,nm,j,l,m,k,z,b,i,s,rfl,e,I,n,d,u,q⟩
end
noncomputable abbrev sGd:Stmt:=top 48
noncomputable def sX (a:List Str) (ss:List SS) (ds:List HD):Prop:=∀ d ∈ ds,∃ i s e,AtR a ss d i s e
theorem sX.app (h:sX a ss ds) (h':sX a ss b):sX a ss (ds ++ b):=λd hd=>(zM0.mp hd).elim (h d) (h' d)
theorem sX.one (h:AtR a ss d i s e):sX a ss [d]:=λx b=>by rw [zMM.mp b];exact ⟨i,s,e,h⟩
theorem zAR {ps:List Addr} (e:H d=some (.lst (ps.map V.ref ++ [.ref t]))) (r:Paired (λq r=>H q=some (.tup r)) ps rows) (h:H t=some (.tup x)):Rows H d (rows ++ [x]):=⟨ps ++ [t],by rw [e,zMV];rfl,wP r h⟩
theorem nM {ds:List HD} (d:HD) {ps:List Addr} (k1:zE [] H H1) (a:H dl=none) (e:H1 dl=some (.lst (ps.map V.ref))) (r:Paired (λq r=>H1 q=some (.tup r)) ps (ds.map hdV)) (f:H1 t=none) :
  Rows (upd (upd H1 t (.tup (hdV d))) dl (.lst (ps.map V.ref ++ [.ref t]))) dl ((ds ++ [d]).map hdV)/\zE [] H (upd (upd H1 t (.tup (hdV d))) dl (.lst (ps.map V.ref ++ [.ref t]))):=by
 have h:dl ≠ t:=zI e f
 have g:zE [dl] H1 (upd (upd H1 t (.tup (hdV d))) dl (.lst (ps.map V.ref ++ [.ref t]))):=(zE.new f).trans (zE.at (by simp))
 refine ⟨?_,k1.under g (by intro b c;rw [zMM.mp c];exact a)⟩
 rw [zMV]
 refine zAR zC (zP g (λb c i z=>?_) r) (by rw [zK (Ne.symm h),zC])
 rw [zMM.mp c,e] at z;cases z
noncomputable def r8 (n:Nat):List (Option Nat):=none :: (List.range n).map some
theorem zHN (n:Nat):[V.non] ++ uT n=(r8 n).map rV:=by
 unfold r8 uT
 rw [List.map_cons,zM3];rfl
theorem rZ (n:Nat):(r8 n).length=n + 1:=by unfold r8;simp
section
variable {P:Program} {w:World} {K:W.Frag} {mg:Str->Option Value} {base:Heap} {C:Addr}
theorem jW:zO Nr Nt (zG sGd):=scm
noncomputable def zJS:Sp:=λf H Q _=>∃ Y st e nl g a k as b,f=[.ref st,.ref e,.ref nl]/\wO Y H st g a/\uH k a/\a ≠ []/\a.length <= 10/\H e=some (.lst (as.map V.str))/\H nl=some (.lst (b.map V.str))/\(∀ z ∈ as,yR z)/\(∀ z ∈ b,yR z)/\as.length <= 20/\b.length <= 20 /\
 ∀ r c d,Rows d r (c.map hdV)->sX b a c->c.length <= 1000->(as ≠ []->c ≠ [])->H r=none->zE [] H d->Q (.ref r) d
theorem okGd (G:yM K mg SY sGd Nt) (b1:Cal P w K mg base CX0 1 SD Nz aN) (a0:Blt mg Sc) (v:Blt mg SG) (a5:Blt mg "list"):Cal P w K mg base CX0 2 SY Nt zJS:=by
 refine G.oz jW (λf bi A b2 s0 H vs Q E hr h=>?_)
 obtain ⟨Y,st,al,nl,ys,l,k,as,nb,rfl,hS,I,ne,bj,ae,af,b3,b4,bk,bm,q⟩:=h
 have ba:z6 1 _:=hr
 have hu:=vT hr
 refine ⟨_,(zD (zX (i:=3) jW.nd rfl (Or.inl rfl) (yN zB))
   (zD (uM PassesOwn.never rfl (xR (pv 1)) (yL (i:=4) jW.nd rfl (Or.inr rfl)) (zD (zX (i:=5) jW.nd rfl (Or.inl rfl) (zN b1 ba (zA (pv 0) (zA (pv 4) zB))))
   (zF (z5 (zQ uO (pv 5) yV (zW _)) (zF (zX (i:=3) jW.nd rfl (Or.inl rfl) (yK u9 (pv 3) (vX (N:=Nr) (sc:=zG sGd) (ix:=[4]) (by decide +kernel) (xR (yK u9 (yN (zA yV zB)) (xE (nV rfl) rfl a5.no vR (zA (xE pH rfl v.no hI (zA (zY z8 a0 yS (zA (pv 0) zB)) zB)) zB)))) (λ_ _ _ _=>xQ) (λ_ _ _ _=>(z9 (zA zJ (zA (pv 1) (zA (pv 0) zB))))))))) (zF (z5 (zQ y6 (yP hu (zS zV (pv 0) (pv 5) (λ_ _=>rfl)) zJ (λ_ _=>rfl)) (pv 4) (zW _)) (zF (yA (vN F.plainAttrs_list F.slot_list_append F.type_list_append xF (pv 3) (zA (z9 (zA zJ (zA (pv 4) zB))) zB)))) (zF (yA (vN F.plainAttrs_list F.slot_list_append F.type_list_append xF (pv 3) (zA (z9 (zA zJ (zA (pv 4) zB))) zB))))))))))
   (zD (uM PassesOwn.never rfl (vW rfl v.no (zA (zY z8 a0 yS (zA (pv 0) zB)) zB)) (yL (i:=5) jW.nd rfl (Or.inl rfl)) (zF (uM PassesOwn.never rfl (xR (pv 2)) (yL (i:=6) jW.nd rfl (Or.inl rfl)) (zF (z5 (zQ y6 (yP hu (zS zV (pv 0) (pv 5) (λ_ _=>rfl)) zJ (λ_ _=>rfl)) (pv 6) (zW _)) (zF (zX (i:=3) jW.nd rfl (Or.inl rfl) (yK u9 (pv 3) (yN (zA (z9 (zA zJ (zA (pv 6) (zA (pv 5) (zA wH zB))))) (zA (z9 (zA zJ (zA (pv 6) (zA (pv 5) (zA wH zB))))) zB)))))) (zF (z5 (zQ (sK hu) (z9 (zA zJ (zA (pv 6) zB))) (yP hu (zS zV (pv 0) (pv 5) (λ_ _=>rfl)) zJ (λ_ _=>rfl)) (by with_unfolding_all rfl)) (zF (yA (vN F.plainAttrs_list F.slot_list_append F.type_list_append xF (pv 3) (zA (z9 (zA zJ (zA (pv 6) (zA (pv 5) zB)))) zB)))) zM)))))))
   (zF (zL (pv 3)))))),?_⟩
 obtain ⟨ag,_,_,ly,_⟩:=id hS
 have yl:(ys.map λy=>V.ref y.1).length=l.length:=by rw [zMJ,ly]
 refine ⟨zMT _,λd0 ah=>?_⟩
 have k0:zE [] H (upd H d0 (.lst [])):=zE.new ah
 have e0:upd H d0 (.lst []) d0=some (.lst []):=zC
 generalize upd H d0 (.lst [])=H0 at k0 e0 ⊢
 obtain ⟨M,hM⟩:∃ M:Nat->St->Hp->Prop,∀ j J H1,M j J H1 ↔ ∃ dl c v4 v5 v6,J=[some (.ref st),some (.ref al),some (.ref nl),some (.ref dl),v4,v5,v6]/\Rows H1 dl (c.map hdV)/\sX nb l c/\c.length <= 11 * j/\(0 < j->c ≠ [])/\H dl=none/\zE [] H H1:=⟨_,λ_ _ _=>Iff.rfl⟩
 refine ⟨_,rfl,al,rfl,⟨_,.of (k0.z ae)⟩,tI (K:=K) (a:=al) (xs:=as.map V.str) M ((hM _ _ _).mpr ⟨d0,[],_,_,_,rfl,⟨[],e0,.nil⟩,(λd hd=>by cases hd),zMT _,(λh=>absurd h (Nat.lt_irrefl 0)),ah,k0⟩) ?_ ?_ ?_⟩
 ·intro j J H1 _ L
  obtain ⟨dl,c,v4,v5,v6,rfl,_,_,_,_,_,k1⟩:=(hM _ _ _).mp L
  exact .of (k1.z ae)
 ·intro j x J H1 hx L
  obtain ⟨dl,c,v4,v5,v6,rfl,R1,O,ld,_,g,k1⟩:=(hM _ _ _).mp L
  obtain ⟨z,ez,rfl⟩:=gm hx
  have jl:j < as.length:=(zML.mp ez).1
  have gz:=b3 z (zMN ez)
  refine ⟨_,rfl,_,rfl,Y,st,ys,l,z,rfl,hS.on k1,by omega,λH2 nz k2=>?_,λi s H2 es hz k2=>?_⟩
  ·have T:=k1.trans k2
   have a1:=T.z ag
   refine ⟨_,rfl,rfl,_,rfl,ifT rfl ?_⟩
   refine ⟨_,rfl,by show 1 <= sizeLine;decide,λl1 bb=>?_⟩
   have k3:zE [] H2 (upd H2 l1 (.lst [.non])):=zE.new bb
   have e3:upd H2 l1 (.lst [.non]) l1=some (.lst [.non]):=zC
   generalize upd H2 l1 (.lst [.non])=u at k3 e3 ⊢
   refine ⟨_,rfl,_,_,rfl,.inl ⟨_,.of (k3.z a1),rfl⟩,_,rfl,λrp bc=>?_⟩
   rw [yl]
   have k4:zE [] u (upd u rp (mO rp l.length)):=zE.new bc
   refine ⟨rp,_,rfl,zC,by omega,λl2 a2=>?_⟩
   have k5:zE [] (upd u rp (mO rp l.length)) (upd (upd u rp (mO rp l.length)) l2 (.lst (uT l.length))):=zE.new a2
   refine ⟨l1,l2,_,_,rfl,rfl,(k4.trans k5).z e3,zC,by rw [List.length_singleton,sizeLine_eq];unfold uT;rw [zMJ,List.length_range];omega,λl3 bd=>?_⟩
   rw [zHN]
   have ai:zE [] H2 (upd (upd (upd u rp (mO rp l.length)) l2 (.lst (uT l.length))) l3 (.lst ((r8 l.length).map rV))):=((k3.trans k4).trans k5).trans (zE.new bd)
   have e6:upd (upd (upd u rp (mO rp l.length)) l2 (.lst (uT l.length))) l3 (.lst ((r8 l.length).map rV)) l3=some (.lst ((r8 l.length).map rV)):=zC
   generalize upd (upd (upd u rp (mO rp l.length)) l2 (.lst (uT l.length))) l3 (.lst ((r8 l.length).map rV))=H6 at ai e6 ⊢
   refine ⟨l3,rfl,⟨_,.of e6⟩,λacc a6=>?_⟩
   have la:l3 ≠ acc:=zI e6 a6
   refine uP (K:=K) (a:=l3) (its:=(r8 l.length).map rV) (by rw [zMJ,rZ,sizeLine_eq];omega) (λi ws τ U=>∃ kk qs,τ=[kk,some (.str z)]/\ws=qs.map V.ref/\i <= (r8 l.length).length/\Paired (λq r=>U q=some (.tup r)) qs (((r8 l.length).take i).map λr=>hdV (.want z r))/\zE [acc] H6 U/\U acc=some (.lst ws)) ⟨_,[],rfl,rfl,zMT _,.nil,zE.at (by simp),zC⟩ ?_ ?_ ?_
   ·rintro i ws τ U ⟨kk,qs,rfl,rfl,il,hq,k7,h7⟩
    have lq:=zZ hq
    rw [zMJ,zM2] at lq
    exact ⟨h7,by rw [zMJ];omega,.of (k7 _ _ (by simp [la]) e6)⟩
   ·rintro i ws τ U x hx ⟨kk,qs,rfl,rfl,il,hq,k7,h7⟩
    rw [zMP] at hx
    cases eo:(r8 l.length)[i]? with
    | none=>rw [eo] at hx;cases hx
    | some o=>
    rw [eo] at hx
    have ex:rV o=x:=zMQ hx
    subst ex
    refine ⟨_,rfl,_,rfl,by show 3 <= sizeLine;decide,λt ht=>?_⟩
    have k8:zE [] U (upd U t (.tup (hdV (.want z o)))):=zE.new ht
    have e8:upd U t (.tup (hdV (.want z o))) t=some (.tup (hdV (.want z o))):=zC
    have h8:=k8.z h7
    have ta:t ≠ acc:=Ne.symm (zI h7 ht)
    have k9:zE [acc] (upd U t (.tup (hdV (.want z o)))) (upd (upd U t (.tup (hdV (.want z o)))) acc (.lst (qs.map V.ref ++ [.ref t]))):=zE.at (by simp)
    have nt:∀ b ∈ [acc],∀ xs,upd U t (.tup (hdV (.want z o))) b ≠ some (.tup xs):=λb hb xs z=>by rw [zMM.mp hb,h8] at z;cases z
    refine ⟨h8,_,qs ++ [t],rfl,by simp,(zML.mp eo).1,?_,(k7.trans (k8.mono (by simp))).trans k9,zC⟩
    rw [vJ eo,zMV]
    exact wP (zP k9 nt (zP k8 (λb hb=>by cases hb) hq)) (k9 _ _ (by simp [ta]) e8)
   ·rintro ws τ U ⟨kk,qs,rfl,rfl,_,hq,k7,h7⟩
    rw [zMJ,zNJ] at hq
    have be:=k7.drop a6
    have ab:=ai.trans be
    obtain ⟨ps,m,p⟩:=R1.keep (k2.trans ab)
    have lp:=zZ p
    have lq:=zZ hq
    rw [zMJ] at lp
    rw [zMJ,rZ] at lq
    refine ⟨dl,acc,_,_,rfl,rfl,m,h7,by rw [zMJ,zMJ,sizeLine_eq];omega,λd4 aj=>?_⟩
    have k9:zE [] U (upd U d4 (.lst (ps.map V.ref ++ qs.map V.ref))):=zE.new aj
    have bf:=(T.trans ab).trans k9
    refine (hM _ _ _).mpr ⟨d4,c ++ (r8 l.length).map (HD.want z),_,_,_,rfl,⟨ps ++ qs,by rw [zC,zMV],?_⟩,O.app λd hd=>?_,by rw [zM1,zMJ,rZ];omega,λ_ e=>?_,(T.trans ab).none (by simp) aj,bf⟩
    ·rw [zMV,zM3]
     exact vY (zP k9 (λb hb=>by cases hb) p) (zP k9 (λb hb=>by cases hb) hq)
    ·obtain ⟨o,ho,rfl⟩:=List.mem_map.mp hd
     unfold r8 at ho
     rcases List.mem_cons.mp ho with rfl | ho
     ·exact ⟨_,_,_,.any (zMK (n8 ne)) rfl gz nz⟩
     ·obtain ⟨n,hn,rfl⟩:=List.mem_map.mp ho
      exact ⟨_,_,_,.want (zMK (List.mem_range.mp hn)) gz nz⟩
    ·have:=congrArg List.length e
     rw [zM1,zMJ,rZ] at this
     simp at this
  ·have T:=k1.trans k2
   have il:i < l.length:=(zML.mp es).1
   have ey:ys[i]?=some ys[i]:=zMK (by omega)
   generalize ys[i]=y at ey
   obtain ⟨a1,_,_,_,hd⟩:=hS.on T
   have D:=hd i y s ey es
   obtain ⟨ps,m,p⟩:=R1.keep k2
   have lp:=zZ p
   rw [zMJ] at lp
   refine ⟨_,rfl,rfl,_,rfl,ifF rfl ?_⟩
   refine ⟨_,rfl,_,rfl,st,_,_,_,rfl,rfl,a1,xZ ey,y.1,_,rfl,g_h D.d,_,rfl,qN _ _,_,rfl,?_⟩
   rw [pF]
   by_cases h1:s.hold=some z
   ·rw [zMY h1]
    refine ifT rfl ?_
    refine ⟨_,rfl,.inl ⟨rfl,_,.of m⟩,_,rfl,by show 2 <= sizeLine;decide,λt ht=>⟨dl,_,_,rfl,rfl,(zE.new (S:=[]) ht).z m,by rw [zMJ,sizeLine_eq];omega,?_⟩⟩
    obtain ⟨R',k'⟩:=nM (.done z) T g m p ht
    exact (hM _ _ _).mpr ⟨dl,c ++ [HD.done z],_,_,_,rfl,R',O.app (.one (.done es h1)),by simp;omega,λ_ e=>by simp at e,g,k'⟩
   ·rw [zMZ h1]
    refine ifF rfl ?_
    have h2:askR z ∈ s.row:=(xD.mp hz).elim (λe=>absurd e h1) id
    refine ⟨_,rfl,.inl ⟨rfl,_,.of m⟩,_,rfl,by show 2 <= sizeLine;decide,λt ht=>⟨dl,_,_,rfl,rfl,(zE.new (S:=[]) ht).z m,by rw [zMJ,sizeLine_eq];omega,?_⟩⟩
    obtain ⟨R',k'⟩:=nM (.leave z) T g m p ht
    exact (hM _ _ _).mpr ⟨dl,c ++ [HD.leave z],_,_,_,rfl,R',O.app (.one (.leave es h2)),by simp;omega,λ_ e=>by simp at e,g,k'⟩
 ·intro J H1 L
  obtain ⟨dl,c,v4,v5,v6,rfl,R1,O,ld,nd,g,k1⟩:=(hM _ _ _).mp L
  clear hM
  rw [zMJ] at ld nd
  have bg:as ≠ []->c ≠ []:=λh=>nd (zM9.mpr h)
  have ak:=k1.z ag
  refine ⟨_,rfl,_,_,rfl,.inl ⟨_,.of ak,rfl⟩,_,rfl,by omega,by rw [yl];omega,?_⟩
  rw [yl,Int.toNat_natCast]
  obtain ⟨M,hM⟩:∃ M:Nat->St->Hp->Prop,∀ i J H2,M i J H2 ↔ ∃ dl c v4 v5 v6,J=[some (.ref st),some (.ref al),some (.ref nl),some (.ref dl),v4,v5,v6]/\Rows H2 dl (c.map hdV)/\sX nb l c/\c.length <= 220 + 40 * i/\(as ≠ []->c ≠ [])/\H dl=none/\zE [] H H2:=⟨_,λ_ _ _=>Iff.rfl⟩
  refine sQ M ((hM _ _ _).mpr ⟨dl,c,_,_,_,rfl,R1,O,by omega,bg,g,k1⟩) ?_ ?_
  ·intro i J H2 il L
   obtain ⟨dl,c,v4,v5,v6,rfl,R2,O,ld,nd,g,k2⟩:=(hM _ _ _).mp L
   have es:l[i]?=some l[i]:=zMK il
   generalize l[i]=s at es
   have ey:ys[i]?=some ys[i]:=zMK (by omega)
   generalize ys[i]=y at ey
   rw [show (0:Int) + (i:Int)=(i:Int) from Int.zero_add _]
   obtain ⟨N,hN⟩:∃ M:Nat->St->Hp->Prop,∀ j J u,M j J u ↔ ∃ dl c v4 v6,J=[some (.ref st),some (.ref al),some (.ref nl),some (.ref dl),v4,some (.int (i:Int)),v6]/\Rows u dl (c.map hdV)/\sX nb l c/\c.length <= 220 + 40 * i + 2 * j/\(as ≠ []->c ≠ [])/\H dl=none/\zE [] H u:=⟨_,λ_ _ _=>Iff.rfl⟩
   refine ⟨_,rfl,nl,rfl,⟨_,.of (k2.z af)⟩,tI (K:=K) (a:=nl) (xs:=nb.map V.str) N ((hN _ _ _).mpr ⟨dl,c,_,_,rfl,R2,O,by omega,nd,g,k2⟩) ?_ ?_ ?_⟩
   ·intro j J u _ L
    obtain ⟨dl,c,v4,v6,rfl,_,_,_,_,_,k3⟩:=(hN _ _ _).mp L
    exact .of (k3.z af)
   ·intro j x J u hx L
    obtain ⟨dl,c,v4,v6,rfl,R3,O,ld,nd,g,k3⟩:=(hN _ _ _).mp L
    obtain ⟨z,ez,rfl⟩:=gm hx
    have zn:=zMN ez
    obtain ⟨aa,_,_,_,hd⟩:=hS.on k3
    have D:=hd i y s ey es
    obtain ⟨ps,m,p⟩:=id R3
    have lp:=zZ p
    rw [zMJ] at lp
    have jl:j < nb.length:=(zML.mp ez).1
    refine ⟨_,rfl,_,rfl,st,_,_,_,rfl,rfl,aa,xZ ey,y.1,_,rfl,g_a D.d,_,rfl,qN _ _,_,rfl,?_⟩
    rw [pF]
    by_cases h1:s.ptr=some z
    ·rw [zMY h1]
     refine ifT rfl ⟨_,rfl,_,rfl,_,rfl,by show 4 <= sizeLine;decide,λt1 an=>⟨_,rfl,_,rfl,by show 4 <= sizeLine;decide,λt2 a3=>⟨by show 2 <= sizeLine;decide,λl2 a2=>⟨dl,l2,_,_,rfl,rfl,(((zE.new (S:=[]) an).trans (zE.new a3)).trans (zE.new a2)).z m,zC,by rw [zMJ,sizeLine_eq];show _ + 2 <= _;omega,λd5 ao=>?_⟩⟩⟩⟩
     obtain ⟨_,bh⟩:=zU a3
     obtain ⟨aq,ar⟩:=zU a2
     obtain ⟨_,au⟩:=zU aq
     obtain ⟨av,bo⟩:=zU ao
     obtain ⟨aw,ax⟩:=zU av
     obtain ⟨ay,az⟩:=zU aw
     have b0:zE [] u (upd (upd (upd (upd u t1 (.tup (hdV (.come z i true)))) t2 (.tup (hdV (.come z i false)))) l2 (.lst [.ref t1,.ref t2])) d5 (.lst (ps.map V.ref ++ [.ref t1,.ref t2]))):=(((zE.new an).trans (zE.new a3)).trans (zE.new a2)).trans (zE.new ao)
     refine (hN _ _ _).mpr ⟨d5,c ++ [.come z i true,.come z i false],_,_,rfl,⟨ps ++ [t1,t2],by rw [zC,zMV];rfl,?_⟩,O.app λd hd=>?_,by simp;omega,λh e=>nd h (List.append_eq_nil_iff.mp e).1,k3.none (by simp) ay,k3.trans b0⟩
     ·rw [zMV]
      refine vY (zP b0 (λb hb=>by cases hb) p) (.cons ?_ (.cons ?_ .nil))
      ·show upd _ _ _ t1=_
       rw [zK (Ne.symm az),zK (Ne.symm au),zK (Ne.symm bh),zC];rfl
      ·show upd _ _ _ t2=_
       rw [zK (Ne.symm ax),zK (Ne.symm ar),zC];rfl
     ·simp only [List.mem_cons,zND,or_false] at hd
      rcases hd with rfl | rfl
      ·exact ⟨i,s,_,.come es zn h1⟩
      ·exact ⟨i,s,_,.come es zn h1⟩
    ·rw [zMZ h1]
     refine ifF rfl ⟨_,rfl,by show 2 <= sizeLine;decide,λt2 a3=>?_⟩
     have k4:zE [] u (upd u t2 (.tup [.str NY,.str z])):=zE.new a3
     have D4:=D.keep k4
     have B:=k4.z m
     have a4:=zP k4 (λb hb=>by cases hb) p
     refine ⟨_,rfl,_,rfl,st,_,_,_,rfl,rfl,k4.z aa,xZ ey,y.1,_,rfl,g_r D4.d,m6 (x:=hsR z) D4.rw zC ⟨_,rfl,?_⟩⟩
     have ac:=k3.trans k4
     generalize upd u t2 (.tup [.str NY,.str z])=H4 at k4 ac B a4 ⊢
     by_cases h2:hsR z ∈ s.row
     ·rw [zMY h2]
      exact ifF rfl <| (hN _ _ _).mpr ⟨dl,c,_,_,rfl,⟨ps,B,a4⟩,O,by omega,nd,g,ac⟩
     ·rw [zMZ h2]
      refine ifT rfl ?_
      refine ⟨_,rfl,.inl ⟨rfl,_,.of B⟩,_,rfl,_,rfl,by show 3 <= sizeLine;decide,λt ht=>⟨dl,_,_,rfl,rfl,(zE.new (S:=[]) ht).z B,by rw [zMJ,sizeLine_eq];omega,?_⟩⟩
      obtain ⟨R',k'⟩:=nM (.ask z i) ac g B a4 ht
      exact (hN _ _ _).mpr ⟨dl,c ++ [HD.ask z i],_,_,rfl,R',O.app (.one (.ask es zn (b4 z zn) h1 h2)),by simp;omega,λh e=>by simp at e,g,k'⟩
   ·intro J u L
    obtain ⟨dl,c,v4,v6,rfl,R3,O,ld,nd,g,k3⟩:=(hN _ _ _).mp L
    rw [zMJ] at ld
    exact (hM _ _ _).mpr ⟨dl,c,_,_,_,rfl,R3,O,by omega,nd,g,k3⟩
  ·intro J H2 L
   obtain ⟨dl,c,v4,v5,v6,rfl,R2,O,ld,nd,g,k2⟩:=(hM _ _ _).mp L
   exact ⟨_,rfl,q dl c H2 R2 O (by omega) nd g k2⟩
end
theorem bZ {X:Cx} (e:X.K=K:=by rfl):vU X (.builtin "len") (λxs H Q=>∃ x n,xs=[x]/\zFF K x H n/\Q (V.int (n:Int)) H):=e ▸ z8
theorem Src.on (h:Src H p) (k:zE [] H d):Src d p:=let ⟨a,b,c,e⟩:=h;⟨a,b,c,k.z e⟩
theorem Src.ne (h:Src H p) (d:H q=none):q ≠ p:=by
 obtain ⟨a,b,c,e⟩:=h
 exact Ne.symm (zI e d)
theorem zGS (c:List Str) (g:0 <= v) (i:v < (c.length:Int) + 1):∃ f:Option Str,atI (c.map V.str ++ [V.non]) v=some (yD f)/\∀ z,f=some z->z ∈ c:=by
 obtain ⟨u,a,b⟩:=uU (xs:=c.map V.str ++ [V.non]) g (by rw [zM1,zMJ];simp;omega)
 by_cases d:v.toNat < c.length
 ·rw [zM7 (by rw [zMJ];exact d),zMP,zMK d] at b
  exact ⟨some c[v.toNat],by rw [a,<- b];rfl,λz e=>by cases e;exact List.getElem_mem d⟩
 ·have h:v.toNat=c.length:=by omega
  rw [h,zM6 (by rw [zMJ];exact zMS _),zMJ,Nat.sub_self] at b
  exact ⟨none,by rw [a,<- b];rfl,λz e=>by cases e⟩
theorem zE4 (l:List V) (k:Nat):uS l (some 1) (some (1 + (k:Int)))=(l.drop 1).take k:=by
 unfold uS
 rw [show (1:Int)=((1:Nat):Int) from rfl,HT.sIx_nat,show ((1:Nat):Int) + (k:Int)=((1 + k:Nat):Int) by omega,HT.sIx_nat]
 cases l with
 | nil=>simp
 | cons x l=>
  simp only [zM4]
  rw [show min 1 (l.length + 1)=1 by omega]
  show l.take _=l.take k
  by_cases h:k <= l.length
  ·rw [show min (1 + k) (l.length + 1) - 1=k by omega]
  ·rw [zM8 (by omega),zM8 (by omega)]
theorem i7 (l:List Str) (a:0 <= k):uS (l.map V.str) none (some k)=(l.take k.toNat).map V.str:=by
 unfold uS
 obtain ⟨n,rfl⟩:=Int.eq_ofNat_of_zero_le a
 rw [HT.sIx_none,HT.sIx_nat,List.drop_zero,zMJ,Nat.sub_zero,<- List.map_take]
 congr 1
 rcases Nat.le_total n l.length with h | h
 ·rw [Nat.min_eq_left h];rfl
 ·rw [Nat.min_eq_right h,zM8 (zMS _)];exact (zM8 h).symm
theorem oV:∀ {ps c:List Addr} {rows:List (List V)},Paired (λq r=>H q=some (.tup r)) ps rows->Paired (λq r=>H q=some (.tup r)) c rows->(∀ r ∈ rows,r.all xA=true/\r.length <= 2000)->Paired (Alk H 1) (ps.map V.ref) (c.map V.ref)
 | _,_,_,.nil,.nil,_=>.nil
 | p :: _,q :: _,r :: _,.cons a s,.cons b t,h=>by
  refine .cons (.inr ⟨p,q,r,r,rfl,rfl,.inr ⟨a,b⟩,?_,(h r zNC).2⟩) (oV s t λx d=>h x (zMW _ d))
  have f:=(h r zNC).1
  clear a b s t h
  induction r with
  | nil=>exact .nil
  | cons x r e=>
   rw [List.all_cons,Bool.and_eq_true] at f
   exact .cons ⟨rfl,f.1⟩ (e f.2)
theorem mE (d:Rows H a rows) (e:Rows H b rows) (f:∀ r ∈ rows,r.all xA=true/\r.length <= 2000) (g:rows.length <= 2000):Alk H 2 (.ref a) (.ref b):=by
 obtain ⟨k,h,c⟩:=d
 obtain ⟨l,i,j⟩:=e
 exact .inr ⟨a,b,_,_,rfl,rfl,.inl ⟨h,i⟩,oV c j f,by rw [zMJ,zZ c];exact g⟩
theorem Alk.succ:∀ (n:Nat) {u v:V},Alk H n u v->Alk H (n + 1) u v
 | 0,_,_,h=>.inl h
 | n + 1,_,_,.inl h=>.inl h
 | n + 1,_,_,.inr ⟨a,b,c,d,e,f,g,i,j⟩=>.inr ⟨a,b,c,d,e,f,g,L2.Paired.mapP i λx y z=>Alk.succ n z,j⟩
theorem gR (A:Rows H p rows) (k:zE S H a) (c:p ∉ S) (d:∀ b ∈ S,∀ xs,H b ≠ some (.tup xs)):Rows a p rows:=by
 obtain ⟨f,e,r⟩:=A
 exact ⟨f,k _ _ c e,zP k d r⟩
theorem qR (o:Option Str):xA (yD o)=true:=by cases o <;> rfl
theorem zDQ (l:LSS) (h:l.length <= 2000):(∀ r ∈ l.map yY,r.all xA=true/\r.length <= 2000)/\(l.map yY).length <= 2000:=by
 refine ⟨λr a=>?_,by rw [zMJ];exact h⟩
 obtain ⟨z,_,rfl⟩:=List.mem_map.mp a
 exact ⟨rfl,by show 2 <= 2000;decide⟩
theorem zLW (nm:V) (nl a:Addr):(hfl nm nl a).lookup (Sn : Str)=none:=rfl
theorem zLP (nm:V) (nl a:Addr):(hfl nm nl a).lookup (SI : Str)=none:=rfl
theorem zLR (nm:V) (nl a:Addr):(hfl nm nl a).lookup (Sk : Str)=none:=rfl
theorem zLS (nm:V) (nl a:Addr):(hfl nm nl a).lookup (Sq : Str)=none:=rfl
theorem z7.parts (h:z7 B C CS H p nm s xs ss):∃ k:List Addr,z7 (· ∈ k) C CS H p nm s xs ss/\∀ u ∈ k,B u/\H u ≠ none/\u ≠ p:=by
 obtain ⟨t,nl,l,⟨v,w,m,y⟩,c,g,j,n,o⟩:=h
 have f:∀ x ∈ xs,H x.1 ≠ none/\H x.2 ≠ none/\x.1 ≠ p/\x.2 ≠ p:=λx a=>by
  obtain ⟨i,q,e⟩:=List.getElem_of_mem a
  obtain ⟨⟨A,b⟩,⟨D,d,_⟩,_⟩:=o i x _ (by rw [zMK q,e]) (zMK (by rw [<- n];exact q))
  refine ⟨(by rw [b];nofun),(by rw [d];nofun),λe=>?_,wY d c (by intro z;cases z)⟩
  rw [e,c] at b
  injection b with b
  injection b with _ _ e
  unfold xO hfl at e
  injection e with e _
  injection e with e _
  exact absurd e (by decide +kernel)
 refine ⟨nl :: l :: (xs.map (·.1) ++ xs.map (·.2)),⟨t,nl,l,⟨by simp,by simp,λx a=>⟨?_,?_⟩,y⟩,c,g,j,n,o⟩,λu r=>?_⟩
 ·simp only [List.mem_cons,zM0,List.mem_map];exact .inr (.inr (.inl ⟨x,a,rfl⟩))
 ·simp only [List.mem_cons,zM0,List.mem_map];exact .inr (.inr (.inr ⟨x,a,rfl⟩))
 ·simp only [List.mem_cons,zM0,List.mem_map] at r
  rcases r with rfl | rfl | ⟨x,a,rfl⟩ | ⟨x,a,rfl⟩
  ·exact ⟨v,(by rw [g];nofun),wY g c (by intro z;cases z)⟩
  ·exact ⟨w,(by rw [j];nofun),wY j c (by intro z;cases z)⟩
  ·exact ⟨(m x a).1,(f x a).1,(f x a).2.2.1⟩
  ·exact ⟨(m x a).2,(f x a).2.1,(f x a).2.2.2⟩
theorem z7.at {B:Addr->Prop} {C CS:Addr} {H:Hp} {p:Addr} {nm:Str} {b:List Str} {xs:List (Addr × Addr)} {ss:List SS} (h:z7 B C CS H p nm b xs ss) {i:Nat} {x:Addr × Addr} (ex:xs[i]?=some x):B x.1/\B x.2/\∃ s,ss[i]?=some s/\yE CS H x.1 x.2 s:=by
 obtain ⟨f,nl,g,⟨j,k,c,l⟩,m,n,o,d,e⟩:=h
 have a:i < ss.length:=by rw [<- d];exact (zML.mp ex).1
 have:=c x (zMN ex)
 exact ⟨this.1,this.2,_,zMK a,e i x _ ex (zMK a)⟩
theorem z7.ob (h:z7 B C CS H p nm c xs ss):∃ dx nl a,H p=some (.ins C dx (hfl (.str nm) nl a)):=by
 obtain ⟨dx,nl,a,_,b,_⟩:=h
 exact ⟨dx,nl,a,b⟩
theorem zBO (s:SS) (i:Nat):(∀ r ∈ (yC s).2.map (oY i),r.all xA=true/\r.length <= 2000)/\((yC s).2.map (oY i)).length <= 2000:=by
 obtain ⟨c,g⟩:=zBI s
 obtain ⟨d,h⟩:=rC s
 refine ⟨λr e=>?_,by rw [zMJ];omega⟩
 obtain ⟨l,b,rfl⟩:=List.mem_map.mp e
 have a:=(c l b).1
 have f:=(d l b).2
 cases l with
 | nil=>exact ⟨rfl,zMT _⟩
 | cons x l=>
  rw [List.all_cons,Bool.and_eq_true] at a
  refine ⟨?_,?_⟩
  ·show (xA x && (true && l.all xA))=true
   rw [a.1,a.2];rfl
  ·show l.length + 1 + 1 <= 2000
   simp only [zM4] at f
   omega
noncomputable def xX (x:V) (n:Nat):Bool:=match x with | .int i=>decide (0 <= i) && decide (i < (n:Int)) | _=>false
theorem fN {ss:List SS} {i:Nat} {s:SS} {z:Str} (a:(yZ ss).Nodup) (b:ss[i]?=some s) (h:s.hold=some z):askR z ∉ s.row:=λc=>by
 have:(wZ s).Nodup:=by
  have e:ss=ss.take i ++ s :: ss.drop (i + 1):=by
   rw [zML] at b
   obtain ⟨d,rfl⟩:=b
   rw [<- List.drop_eq_getElem_cons d,List.take_append_drop]
  unfold yZ at a
  rw [e,List.flatMap_append,List.flatMap_cons] at a
  exact (List.nodup_append.mp (List.nodup_append.mp a).2.1).1
 rw [wX,h] at this
 exact (List.nodup_append.mp this).2.2 z (by simp) z (iQ.mpr c) rfl
section
variable {P:Program} {w:World} {K:W.Frag} {mg:Str->Option Value} {base:Heap} {C CS CA CH CL CR:Addr}
noncomputable def eD (K:W.Frag):Sp:=λa H Q _=>∃ x T,a=[x]/\yF K H x T/\Q (.bl (zGR x)) H
theorem zD5 (G:yM K mg SJ sWh Nh) (d:Blt mg Sd) (e:Blt mg "int") (g:Blt mg "bool"):Cal P w K mg base CX0 1 SJ Nh (eD K):=by
 refine G.oz zJ3 (λf j A a s H k Q E l h=>?_)
 obtain ⟨x,T,rfl,c,q⟩:=h
 refine ⟨_,zF (zL (uF (zY yO d zT (zA (pv 0) (zA (vE e tX) zB)))
  (uN (gX (zY yO d zT (zA (pv 0) (zA (vE g u5) zB))))))),?_⟩
 refine ⟨_,rfl,_,_,_,_,rfl,c.ty,c.kit.2.1,_,rfl,?_⟩
 cases c with
 | int i=>exact nF ⟨_,rfl,_,_,_,_,rfl,(yF.int (K:=K) (H:=H) i).ty,(yF.int (K:=K) (H:=H) i).kit.2.2.1,_,rfl,q⟩
 | bl b=>exact nF ⟨_,rfl,_,_,_,_,rfl,(yF.bl (K:=K) (H:=H) b).ty,(yF.bl (K:=K) (H:=H) b).kit.2.2.1,_,rfl,q⟩
 | _=>exact mQ q
noncomputable def gJ (K:W.Frag) (CA:Addr):Sp:=λb H Q E=>∃ x T,b=[x]/\yF K H x T/\(∀ z,x=.str z->z.length <= 1000)/\((xB x=true/\∀ a,zE [] H a->Q .non a) \/ (xB x=false/\∀ a,zE [] H a->E (.ref CA) none a))
theorem zEC (G:yM K mg S6 j3 NC) (j:Cal P w K mg base CX0 1 Su Nh (sD K)) (a:qI K mg SU CA):Cal P w K mg base (CXE P w) 2 S6 NC (gJ K CA):=by
 refine G.ozX zAK (λf k A b n H o Q E e h=>?_)
 obtain ⟨x,T,rfl,l,m,h⟩:=h
 have c:z6 1 _:=e.mono (by decide)
 refine ⟨_,(zF (z5 (y9 (y3 (zN j c (zA (pv 0) zB)))) (zF (w6 (xU e) a)) zM)),?_⟩
 refine ⟨_,rfl,_,T,rfl,l,m,λg i=>⟨_,rfl,?_⟩⟩
 rcases h with ⟨d,q⟩ | ⟨d,q⟩
 ·exact ifF (by show (!xB x)=false;rw [d];rfl) (q g i)
 ·exact ifT (by show (!xB x)=true;rw [d];rfl) (q g i)
noncomputable def aX (K:W.Frag) (CR:Addr):Sp:=λa H Q E=>∃ (x:V) (T:String) (n:Nat),a=[x,.int (n:Int)]/\yF K H x T/\((xX x n=true/\Q .non H) \/ (xX x n=false/\E (.ref CR) none H))
theorem zLG (G:yM K mg S9 sCk Ni) (k:Cal P w K mg base CX0 1 SJ Nh (eD K)) (c:qI K mg "NoRight" CR):Cal P w K mg base (CXE P w) 2 S9 Ni (aX K CR):=by
 refine G.ozX zKJ (λf l A d s H o Q E j h=>?_)
 obtain ⟨x,T,n,rfl,m,h⟩:=h
 have g:z6 1 _:=j.mono (by decide)
 refine ⟨_,(zF (z5 (PW.pt (rS (y9 (y3 (zN k g (zA (pv 0) zB)))) (tP (y9 (oR oX iD zH (pv 0) (pv 1)))))) (zF (w6 (xU j) c)) zM)),?_⟩
 refine ⟨_,rfl,x,T,rfl,m,_,rfl,?_⟩
 cases x with
 | int i=>
  refine ifF rfl ⟨_,rfl,_,_,rfl,rfl,_,rfl,?_⟩
  by_cases a:0 <= i
  ·refine ifT (zMY a) ⟨_,rfl,_,_,rfl,rfl,_,rfl,?_⟩
   by_cases b:i < (n:Int)
   ·refine ifF (by rw [zMY b];rfl) ?_
    rcases h with ⟨_,q⟩ | ⟨e,_⟩
    ·exact q
    ·unfold xX at e
     simp [a,b] at e
   ·refine ifT (by rw [zMZ b];rfl) ?_
    rcases h with ⟨e,_⟩ | ⟨_,q⟩
    ·unfold xX at e
     simp [b] at e
    ·exact q
  ·refine ifF (zMZ a) ⟨_,rfl,?_⟩
   refine ifT rfl ?_
   rcases h with ⟨e,_⟩ | ⟨_,q⟩
   ·unfold xX at e
    simp [a] at e
   ·exact q
 | _=>
  refine ifT rfl ?_
  rcases h with ⟨e,_⟩ | ⟨_,q⟩
  ·cases e
  ·exact q
noncomputable def zJG (C CA:Addr):Sp:=λb H _ E=>∃ p c s z,b=[.ref p,.str z]/\yE C H p c s/\yR z/\askR z ∉ s.row/\∀ a,zE [] H a->E (.ref CA) none a
theorem okSL (T:xM K CS) (G:yW K CS NZ "Seat.leave" oJ N4) (n:Cal P w K mg base CX0 2 S6 NC tE) (a:qI K mg SU CA):yI P w K mg base (CXE P w) 3 CS NZ N4 (zJG CS CA):=by
 refine G.ozX eO (λf o A b J H L Q E c h=>?_)
 obtain ⟨p,u,s,z,rfl,v,k,x,q⟩:=h
 have d:z6 2 _:=c.mono (by decide)
 have y:=vT c
 refine ⟨_,(zD (yA (zN n d (zA (pv 1) zB)))
   (zD (z5 (zQ (sK y) (z9 (zA zJ (zA (pv 1) zB))) (yB (pv 0) rfl) (by with_unfolding_all rfl)) (zF (w6 (xU c) a)) zM) wL)),?_⟩
 refine ⟨_,rfl,z,rfl,k.1,zMU k.2 (by decide),λl m=>?_⟩
 obtain ⟨⟨B,e⟩,⟨D,g,i⟩,_⟩:=v.keep m
 refine ⟨_,rfl,by show 2 <= sizeLine;decide,λt I=>?_⟩
 have j:zE [] l (upd l t (.tup [.str NV,.str z])):=zE.new I
 refine ⟨_,rfl,p,CS,B,_,_,rfl,(j.z e),T.cl,T.nW,rG _ _ _ _,u,t,_,s.row.map yY,rfl,rfl,(Rows.keep ⟨D,g,i⟩ j),zC,rfl,vB _,_,rfl,?_⟩
 exact ifT (by show (!((s.row.map yY).any λr=>eqT r (yY (askR z))))=true;rw [tZ,zMZ x];rfl) (q _ (m.trans j))
noncomputable def zJI (C CA:Addr):Sp:=λb H _ E=>∃ p c s z,b=[.ref p,.str z]/\yE C H p c s/\yR z/\s.hold ≠ some z/\∀ a,zE [] H a->E (.ref CA) none a
theorem okSD (T:xM K CS) (G:yW K CS S3 "Seat.done" jY N4) (j:Cal P w K mg base CX0 2 S6 NC tE) (a:qI K mg SU CA):yI P w K mg base (CXE P w) 3 CS S3 N4 (zJI CS CA):=by
 refine G.ozX zAH (λf k A b r H t Q E e h=>?_)
 obtain ⟨p,u,s,z,rfl,l,g,m,q⟩:=h
 have c:z6 2 _:=e.mono (by decide)
 refine ⟨_,(zD (yA (zN j c (zA (pv 1) zB))) (zD (z5 (zQ sV (pv 1) (yB (pv 0) rfl) (zW _)) (zF (w6 (xU e) a)) zM) wL)),?_⟩
 refine ⟨_,rfl,z,rfl,g.1,zMU g.2 (by decide),λn i=>?_⟩
 obtain ⟨⟨o,d⟩,_⟩:=l.keep i
 exact ⟨_,rfl,_,rfl,p,CS,o,_,_,rfl,d,T.cl,T.nH,iX _ _ _ _,oH _ _,_,rfl,ifT (by rw [jD,zMZ m];rfl) (q n i)⟩
noncomputable def zJH (C CL:Addr):Sp:=λb H _ E=>∃ p c s z,b=[.ref p,.str z]/\yE C H p c s/\yR z/\(s.ptr=some z \/ hsR z ∈ s.row)/\∀ a,zE [] H a->E (.ref CL) none a
theorem okSK (T:xM K CS) (G:yW K CS NX "Seat.ask" zAO NF) (u:Cal P w K mg base CX0 2 Sv NR tE) (a:qI K mg "NoLetter" CL):yI P w K mg base (CXE P w) 3 CS NX NF (zJH CS CL):=by
 refine G.ozX zF1 (λf v A d L H M Q E c h=>?_)
 obtain ⟨p,x,s,z,rfl,y,n,B,q⟩:=h
 have e:z6 2 _:=c.mono (by decide)
 have D:=vT c
 refine ⟨_,(zD (yA (zN u e (zA (pv 1) zB)))
   (zD (z5 (zQ y6 (pv 1) (yB (pv 0) rfl) (zW _)) (zF (w6 (xU c) a)) zM)
   (zD (z5 (zQ (kW D) (z9 (zA zJ (zA (pv 1) zB))) (yB (pv 0) rfl) (by with_unfolding_all rfl)) (zF (w6 (xU c) a)) zM) wL))),?_⟩
 refine ⟨_,rfl,z,rfl,n.1,zMU n.2 (by decide),λg i=>?_⟩
 obtain ⟨⟨o,b⟩,⟨I,j,k⟩,_⟩:=y.keep i
 refine ⟨_,rfl,_,rfl,p,CS,o,_,_,rfl,b,T.cl,T.nP,fQ _ _ _ _,oH _ _,_,rfl,?_⟩
 by_cases l:s.ptr=some z
 ·exact ifT (by rw [jD];exact zMY l) (q g i)
 ·refine ifF (by rw [jD];exact zMZ l) ⟨_,rfl,by show 2 <= sizeLine;decide,λt J=>?_⟩
  have m:zE [] g (upd g t (.tup [.str NY,.str z])):=zE.new J
  refine ⟨_,rfl,p,CS,o,_,_,rfl,(m.z b),T.cl,T.nW,rG _ _ _ _,x,t,_,s.row.map yY,rfl,rfl,(Rows.keep ⟨I,j,k⟩ m),zC,rfl,vB _,_,rfl,?_⟩
  exact ifT (by show ((s.row.map yY).any λr=>eqT r (yY (hsR z)))=true;rw [tZ];exact zMY (B.resolve_left l)) (q _ (i.trans m))
noncomputable def zJJ (K:W.Frag) (C CL:Addr):Sp:=λc H _ E=>∃ p d s z b Ty,c=[.ref p,.str z,b]/\yE C H p d s/\yR z/\yF K H b Ty/\(s.ptr ≠ some z \/ Ty ≠ "bool")/\∀ a,zE [] H a->E (.ref CL) none a
theorem okSC (T:xM K CS) (G:yW K CS NW "Seat.come" jZ Nw) (t:Cal P w K mg base CX0 2 Sv NR tE) (d:qI K mg "NoLetter" CL) (a:Blt mg Sd) (c:Blt mg "bool"):yI P w K mg base (CXE P w) 3 CS NW Nw (zJJ K CS CL):=by
 refine G.ozX zAJ (λf u A j D H I Q E k h=>?_)
 obtain ⟨p,J,s,z,b,Ty,rfl,v,o,x,y,q⟩:=h
 have l:z6 2 _:=k.mono (by decide)
 refine ⟨_,(zD (yA (zN t l (zA (pv 1) zB)))
   (zD (z5 (zQ sV (pv 1) (yB (pv 0) rfl) (zW _)) (zF (w6 (xU k) d)) zM)
   (zD (z5 (y9 (y3 (zY yO a zT (zA (pv 2) (zA (vE c u5) zB))))) (zF (w6 (xU k) d)) zM) wL))),?_⟩
 refine ⟨_,rfl,z,rfl,o.1,zMU o.2 (by decide),λr i=>?_⟩
 obtain ⟨⟨B,m⟩,_⟩:=v.keep i
 refine ⟨_,rfl,_,rfl,p,CS,B,_,_,rfl,m,T.cl,T.nP,fQ _ _ _ _,oH _ _,_,rfl,?_⟩
 by_cases n:s.ptr=some z
 ·have g:=x.keep i
  have e:(Ty == "bool")=false:=by simpa using y.resolve_left (not_not_intro n)
  exact ifF (by rw [jD,zMY n];rfl) ⟨_,rfl,_,_,_,false,rfl,g.ty,(e ▸ g.kit.2.2.1),_,rfl,ifT rfl (q r i)⟩
 ·exact ifT (by rw [jD,zMZ n];rfl) (q r i)
noncomputable def cB (ss:List SS) (x:V):Prop:=xB x=false \/ ∃ z,x=.str z/\yR z/\z ∉ yZ ss
noncomputable def aP (K:W.Frag) (C CS CA:Addr):Sp:=λc H _ E=>∃ B p nm d e a k x,c=[.ref p,x]/\z7 B C CS H p nm d e a/\uH k a/\k <= 60/\yG K H x/\cB a x/\∀ b,zE [] H b->E (.ref CA) none b
theorem zKZ (T:xK K C) (G:yW K C Sg "House.right_of" sRO N4) (CX:Cal P w K mg base (CXE P w) 2 S6 NC (gJ K CA)) (d:yI P w K mg base CX0 3 C Sj N5 (aO C CS)) (g:qI K mg SU CA):yI P w K mg base (CXE P w) 4 C Sg N4 (aP K C CS CA):=by
 refine G.ozX zDC (λf v A j s0 H vs Q E c h=>?_)
 obtain ⟨B,p,nm,y,D,o,k,x,rfl,J,I,hk,⟨⟨Ty,r⟩,s⟩,bad,q⟩:=h
 have l:z6 3 _:=c.mono (by decide)
 have m:z6 2 _:=c.mono (by decide)
 have L:=vT c
 refine ⟨_,(zD (yA (rY CX wC m (zA (pv 1) zB)))
   (zD (zX (i:=2) zDC.nd rfl (Or.inl rfl) (xL d T.cl l (pv 0)))
   (zD (z5 (kU (m3 L (pv 1) (pv 2))) (zF (w6 (xU c) g)) zM) wL))),?_⟩
 rcases bad with e | ⟨z,rfl,M,N⟩
 ·exact ⟨_,rfl,x,Ty,rfl,r,s,.inr ⟨e,q⟩⟩
 refine ⟨_,rfl,_,Ty,rfl,r,s,.inl ⟨M.1,λH1 t=>?_⟩⟩
 have b:=J.on t
 obtain ⟨O,nl,sl,_,U,_⟩:=id b
 have n:(yZ o).length < 64:=by have:=I.ln;omega
 refine ⟨_,rfl,p,O,_,rfl,U,lC _ _ _,B,p,nm,y,D,o,rfl,b,I.nd,n,λa Y H2 ha hv _ k2=>?_⟩
 have u:=t5.k (k:=Sum.inr z) ha
 rw [hv z N] at u
 exact ⟨_,rfl,_,rfl,a,_,rfl,u,_,rfl,ifT rfl (q H2 (t.trans k2))⟩
noncomputable def eM (K:W.Frag) (C CS CA:Addr) (b:Bool):Sp:=λd H _ E=>∃ (B:Addr->Prop) (p:Addr) (nm:Str) (e:List Str) (f:List (Addr × Addr)) (a:List SS) (k:Nat) (x:V),d=[.ref p,x]/\z7 B C CS H p nm e f a/\uH k a/\k <= 60/\yG K H x/\(cB a x \/ ∃ (z:Str) (i:Nat) (s:SS),x=.str z/\yR z/\a[i]?=some s/\z ∈ wZ s/\(if b=true then s.hold=some z else s.hold ≠ some z))/\∀ c,zE [] H c->E (.ref CA) none c
theorem zK7 (T:xK K C) (TS:xM K CS) (G:yW K C NZ "House.leave" sHL N4) (U:yI P w K mg base (CXE P w) 4 C Sg N4 (aP K C CS CA)) (g:yI P w K mg base CX0 4 C Sg N4 (aR C CS)) (Y:yI P w K mg base (CXE P w) 3 CS NZ N4 (zJG CS CA)) (j:Cal P w K mg base CX0 1 Sh Nj oF):yI P w K mg base (CXE P w) 5 C NZ N4 (eM K C CS CA true):=by
 refine G.ozX zAE (λf a0 A l s0 H vs Q E m h=>?_)
 obtain ⟨B,p,nm,N,a,c,k,x,rfl,n,I,hk,pl,bad,q⟩:=h
 have b:z6 4 _:=m.mono (by decide)
 have o:z6 3 _:=m.mono (by decide)
 have r:z6 1 _:=m.mono (by decide)
 obtain ⟨t,nl,sl,_,u,a1,v,a2,D⟩:=id n
 rcases bad with no | ⟨z,i,s,rfl,O,d,hz,hi⟩
 ·exact ⟨_,(zD (zX (i:=2) zAE.nd rfl (Or.inl rfl) (vC U wC T.cl b (pv 0) (zA (pv 1) zB))) wL),_,rfl,p,t,_,rfl,u,rfl,_,rfl,B,p,nm,N,a,c,k,x,rfl,n,I,hk,pl,no,q⟩
 have J:(yZ c).length < 64:=by have:=I.ln;omega
 refine ⟨_,(zD (zX (i:=2) zAE.nd rfl (Or.inl rfl) (xY g T.cl b (pv 0) (zA (pv 1) zB))) (zF (zL (zN j r (zA (pv 2) (zA (vC Y wC TS.cl o (zS zV (yB (pv 0) rfl) (pv 2) (λ_ _=>rfl)) (zA (pv 1) zB)) zB)))))),?_⟩
 refine ⟨_,rfl,p,t,_,rfl,u,rfl,_,rfl,B,p,nm,N,a,c,z,i,s,rfl,n,I.nd,J,d,hz,O,λH1 e=>?_⟩
 have il:i < c.length:=(zML.mp d).1
 have L:a[i]?=some (a[i]'(by omega)):=zMK (by omega)
 generalize a[i]'(by omega)=y at L
 have S:=(D i y s L d).keep e
 obtain ⟨dy,M⟩:=S.ob
 exact ⟨_,rfl,_,rfl,p,C,t,_,_,rfl,e.z u,T.cl,T.nS,wT _ _ _,_,rfl,sl,_,i,_,rfl,rfl,e.z v,xZ L,y.1,dy,_,rfl,M,rfl,_,rfl,y.1,y.2,s,z,rfl,S,O,fN I.nd d hi,λH2 k2=>q H2 (e.trans k2)⟩
theorem zLB (T:xK K C) (TS:xM K CS) (G:yW K C S3 "House.done" sHD N4) (U:yI P w K mg base (CXE P w) 4 C Sg N4 (aP K C CS CA)) (e:yI P w K mg base CX0 4 C Sg N4 (aR C CS)) (Y:yI P w K mg base (CXE P w) 3 CS S3 N4 (zJI CS CA)) (g:Cal P w K mg base CX0 1 Sh Nj oF):yI P w K mg base (CXE P w) 5 C S3 N4 (eM K C CS CA false):=by
 refine G.ozX zAF (λf a0 A j s0 H vs Q E l h=>?_)
 obtain ⟨B,p,nm,N,a,c,k,x,rfl,m,I,hk,pl,bad,q⟩:=h
 have b:z6 4 _:=l.mono (by decide)
 have n:z6 3 _:=l.mono (by decide)
 have o:z6 1 _:=l.mono (by decide)
 obtain ⟨r,nl,sl,_,t,a1,u,a2,v⟩:=id m
 rcases bad with no | ⟨z,i,s,rfl,O,D,hz,hi⟩
 ·exact ⟨_,(zD (zX (i:=2) zAF.nd rfl (Or.inl rfl) (vC U wC T.cl b (pv 0) (zA (pv 1) zB))) wL),_,rfl,p,r,_,rfl,t,rfl,_,rfl,B,p,nm,N,a,c,k,x,rfl,m,I,hk,pl,no,q⟩
 have J:(yZ c).length < 64:=by have:=I.ln;omega
 refine ⟨_,(zD (zX (i:=2) zAF.nd rfl (Or.inl rfl) (xY e T.cl b (pv 0) (zA (pv 1) zB))) (zF (zL (zN g o (zA (pv 2) (zA (vC Y wC TS.cl n (zS zV (yB (pv 0) rfl) (pv 2) (λ_ _=>rfl)) (zA (pv 1) zB)) zB)))))),?_⟩
 refine ⟨_,rfl,p,r,_,rfl,t,rfl,_,rfl,B,p,nm,N,a,c,z,i,s,rfl,m,I.nd,J,D,hz,O,λH1 d=>?_⟩
 have il:i < c.length:=(zML.mp D).1
 have L:a[i]?=some (a[i]'(by omega)):=zMK (by omega)
 generalize a[i]'(by omega)=y at L
 have S:=(v i y s L D).keep d
 obtain ⟨dy,M⟩:=S.ob
 exact ⟨_,rfl,_,rfl,p,C,r,_,_,rfl,d.z t,T.cl,T.nS,wT _ _ _,_,rfl,sl,_,i,_,rfl,rfl,d.z u,xZ L,y.1,dy,_,rfl,M,rfl,_,rfl,y.1,y.2,s,z,rfl,S,O,hi,λH2 k2=>q H2 (d.trans k2)⟩
noncomputable def zFQ (K:W.Frag) (C CS CA CR:Addr):Sp:=λc H _ E=>∃ B p nm d e b k x r,c=[.ref p,x,r]/\z7 B C CS H p nm d e b/\uH k b/\k <= 60/\yG K H x/\yG K H r /\
 ((xB x=false/\∀ a,zE [] H a->E (.ref CA) none a) \/ (∃ z,x=.str z/\yR z/\r ≠ .non/\xX r b.length=false/\∀ a,zE [] H a->E (.ref CR) none a) \/ (∃ z,x=.str z/\yR z/\(r=.non \/ xX r b.length=true)/\z ∈ yZ b/\∀ a,zE [] H a->E (.ref CA) none a))
theorem zK5 (T:xK K C) (G:yW K C S8 "House.want" sHW Nk) (CX:Cal P w K mg base (CXE P w) 2 S6 NC (gJ K CA)) (CK:Cal P w K mg base (CXE P w) 2 S9 Ni (aX K CR)) (M:yI P w K mg base CX0 3 C Sj N5 (aO C CS)) (N:qI K mg SU CA) (d:Blt mg Sc):yI P w K mg base (CXE P w) 4 C S8 Nk (zFQ K C CS CA CR):=by
 refine G.ozX zHC (λf a1 A O s0 H vs Q E y h=>?_)
 obtain ⟨B,p,nm,nb,xs,D,k,x,r,rfl,U,I,hk,⟨⟨Ty,Y⟩,sz⟩,⟨⟨Tr,l⟩,_⟩,bad⟩:=h
 have a0:z6 3 _:=y.mono (by decide)
 have m:z6 2 _:=y.mono (by decide)
 have hu:=vT y
 obtain ⟨J,nl,sl,_,L,a2,n,o,_⟩:=id U
 have t:(yZ D).length < 64:=by have:=I.ln;omega
 refine ⟨_,(zD (yA (rY CX wC m (zA (pv 1) zB)))
   (zD (z5 (zQ vO (pv 2) yV (zW _)) (zF (yA (rY CK wC m (zA (pv 2) (zA (zY z8 d yS (zA (yB (pv 0) rfl) zB)) zB))))) zM)
   (zD (z5 (kU (zA8 hu (pv 1) (xL M T.cl a0 (pv 0)))) (zF (w6 (xU y) N)) zM) wL))),?_⟩
 rcases bad with ⟨e,q⟩ | ⟨z,rfl,gz,nr,g,q⟩ | ⟨z,rfl,gz,g,mz,q⟩
 ·exact ⟨_,rfl,x,Ty,rfl,Y,sz,.inr ⟨e,q⟩⟩
 ·refine ⟨_,rfl,_,Ty,rfl,Y,sz,.inl ⟨gz.1,λH1 b=>?_⟩⟩
  exact ⟨_,rfl,rfl,_,rfl,ifT (by rw [zMZ nr];rfl) ⟨_,rfl,_,rfl,p,C,J,_,_,rfl,b.z L,T.cl,T.nS,wT _ _ _,_,_,rfl,.inl ⟨_,.of (b.z n),rfl⟩,r,Tr,_,by rw [zMJ,o];rfl,l.keep b,.inr ⟨g,q H1 b⟩⟩⟩
 ·refine ⟨_,rfl,_,Ty,rfl,Y,sz,.inl ⟨gz.1,λH1 b=>?_⟩⟩
  obtain ⟨i,s,es,hz⟩:=wM.mp mz
  have dg:∀ {j:Hp} {a:Addr} {c:List (Key × V)},j a=some (.dK c)->(∀ (z:Str) (i:Nat) (s:SS),D[i]?=some s->z ∈ wZ s->tK c (.inr z)=some (.int (i:Int)))->t5 j a (.str z) (some (.int (i:Int))):=λu v=>v z i s es hz ▸ t5.k (k:=Sum.inr z) u
  refine ⟨_,rfl,rfl,_,rfl,?_⟩
  rcases g with rfl | g
  ·exact ifF rfl ⟨_,rfl,_,rfl,p,J,_,rfl,b.z L,lC _ _ _,B,p,nm,nb,xs,D,rfl,U.on b,I.nd,t,λa c j u _ v k2=>⟨a,_,rfl,dg u v,_,rfl,ifT rfl (q j (b.trans k2))⟩⟩
  ·refine ifT (by cases r <;> first | rfl | cases g) ⟨_,rfl,_,rfl,p,C,J,_,_,rfl,b.z L,T.cl,T.nS,wT _ _ _,_,_,rfl,.inl ⟨_,.of (b.z n),rfl⟩,r,Tr,_,by rw [zMJ,o];rfl,l.keep b,.inl ⟨g,_,rfl,_,rfl,p,J,_,rfl,b.z L,lC _ _ _,B,p,nm,nb,xs,D,rfl,U.on b,I.nd,t,λa c j u _ v k2=>⟨a,_,rfl,dg u v,_,rfl,ifT rfl (q j (b.trans k2))⟩⟩⟩
end
inductive DR where
 | leave (x:V) | done (x:V) | want (x r:V) | ask (x r:V) | come (x r b:V)
noncomputable def drV:DR->List V
 | .leave x=>[.str NZ,x]
 | .done x=>[.str S3,x]
 | .want x r=>[.str S8,x,r]
 | .ask x r=>[.str NX,x,r]
 | .come x r b=>[.str NW,x,r,b]
noncomputable def DPl (K:W.Frag) (H:Hp):DR->Prop
 | .leave x=>yG K H x
 | .done x=>yG K H x
 | .want x r=>yG K H x/\yG K H r
 | .ask x r=>yG K H x/\yG K H r
 | .come x r b=>yG K H x/\yG K H r/\yG K H b
theorem DPl.on (h:DPl K H e) (k:zE [] H a):DPl K a e:=by
 cases e with
 | leave x=>exact yG.on h k
 | done x=>exact yG.on h k
 | want x r=>exact ⟨h.1.on k,h.2.on k⟩
 | ask x r=>exact ⟨h.1.on k,h.2.on k⟩
 | come x r b=>exact ⟨h.1.on k,h.2.1.on k,h.2.2.on k⟩
inductive Why (ss:List SS) (nb:List Str):DR->Option Nat->Prop where
 | no (e:DR) (h:HD) (i:Nat) (s:SS) (d:DD):drV e=hdV h->AtR nb ss h i s d->Why ss nb e none
 | wantN (x r:V):xB x=false->Why ss nb (.want x r) (some 3)
 | wantR (z:Str) (r:V):yR z->r ≠ .non->xX r ss.length=false->Why ss nb (.want (.str z) r) (some 5)
 | wantT (z:Str) (r:V):yR z->(r=.non \/ xX r ss.length=true)->z ∈ yZ ss->Why ss nb (.want (.str z) r) (some 3)
 | leaveN (x:V):cB ss x->Why ss nb (.leave x) (some 3)
 | leaveI (z:Str) (i:Nat) (s:SS):yR z->ss[i]?=some s->z ∈ wZ s->s.hold=some z->Why ss nb (.leave (.str z)) (some 3)
 | doneN (x:V):cB ss x->Why ss nb (.done x) (some 3)
 | doneW (z:Str) (i:Nat) (s:SS):yR z->ss[i]?=some s->z ∈ wZ s->s.hold ≠ some z->Why ss nb (.done (.str z)) (some 3)
 | askN (x r:V):tG x nb=false->Why ss nb (.ask x r) (some 1)
 | askR (z:Str) (r:V):z ∈ nb->xX r ss.length=false->Why ss nb (.ask (.str z) r) (some 5)
 | askS (z:Str) (i:Nat) (s:SS):z ∈ nb->ss[i]?=some s->(s.ptr=some z \/ hsR z ∈ s.row)->Why ss nb (.ask (.str z) (.int (i:Int))) (some 4)
 | comeN (x r b:V):tG x nb=false->Why ss nb (.come x r b) (some 1)
 | comeR (z:Str) (r b:V):z ∈ nb->xX r ss.length=false->Why ss nb (.come (.str z) r b) (some 5)
 | comeS (z:Str) (i:Nat) (s:SS) (b:V):z ∈ nb->ss[i]?=some s->(s.ptr ≠ some z \/ ∀ t,b ≠ .bl t)->Why ss nb (.come (.str z) (.int (i:Int)) b) (some 4)
theorem iG (h:yF K H b Ty) (n:∀ t,b ≠ .bl t):Ty ≠ "bool":=by
 cases h with
 | bl x=>exact absurd rfl (n x)
 | _=>decide
section
variable {P:Program} {w:World} {K:W.Frag} {mg:Str->Option Value} {base:Heap} {C CS CA CH CL CR:Addr}
noncomputable def aZ (K:W.Frag) (C CS CH CR:Addr):Sp:=λd H _ E=>∃ B p nm b e c k x r,d=[.ref p,x,r]/\z7 B C CS H p nm b e c/\uH k c/\k <= 60/\yG K H x/\yG K H r/\((tG x b=false/\∀ a,zE [] H a->E (.ref CH) none a) \/ (tG x b=true/\xX r c.length=false/\∀ a,zE [] H a->E (.ref CR) none a))
theorem zLH (T:xK K C) (G:yW K C Sa "House.check_letter" sCL N6) (t:Cal P w K mg base CX0 2 SO NG (lY K)) (u:Cal P w K mg base (CXE P w) 2 S9 Ni (aX K CR)) (d:qI K mg "NoHouse" CH) (a:Blt mg Sc):yI P w K mg base (CXE P w) 3 C Sa N6 (aZ K C CS CH CR):=by
 refine G.ozX zKK (λf v A g Y H vs Q E m h=>?_)
 obtain ⟨B,p,nm,y,xs,ss,k,x,r,rfl,D,I,hk,⟨⟨J,L⟩,M⟩,⟨⟨N,O⟩,_⟩,bad⟩:=h
 have b:z6 2 _:=m.mono (by decide)
 obtain ⟨n,nl,sl,_,o,i,j,l,_⟩:=id D
 refine ⟨_,(zD (z5 (y9 (y3 (zN t b (zA (pv 1) (zA (yB (pv 0) rfl) zB))))) (zF (w6 (xU m) d)) zM)
   (zF (yA (rY u wC b (zA (pv 2) (zA (zY z8 a yS (zA (yB (pv 0) rfl) zB)) zB)))))),?_⟩
 refine ⟨_,rfl,_,rfl,p,C,n,_,_,rfl,o,T.cl,T.nB,zGJ _ _ _,x,J,nl,y,rfl,L,M,i,λs c=>⟨_,rfl,?_⟩⟩
 rcases bad with ⟨e,q⟩ | ⟨e,U,q⟩
 ·exact ifT (by rw [e];rfl) (q s c)
 ·exact ifF (by rw [e];rfl) ⟨_,rfl,_,rfl,p,C,n,_,_,rfl,c.z o,T.cl,T.nS,wT _ _ _,_,_,rfl,.inl ⟨_,.of (c.z j),rfl⟩,r,N,_,by rw [zMJ,l];rfl,O.keep c,.inr ⟨U,q s c⟩⟩
noncomputable def zGP (ss:List SS) (b:List Str) (x r:V) (CH CR:Addr) (H:Hp) (E:XK):Prop:=(tG x b=false/\∀ a,zE [] H a->E (.ref CH) none a) \/ (tG x b=true/\xX r ss.length=false/\∀ a,zE [] H a->E (.ref CR) none a)
noncomputable def zFS (K:W.Frag) (C CS CH CR CL:Addr):Sp:=λd H _ E=>∃ (B:Addr->Prop) (p:Addr) (nm:Str) (a:List Str) (e:List (Addr × Addr)) (b:List SS) (k:Nat) (x r:V),d=[.ref p,x,r]/\z7 B C CS H p nm a e b/\uH k b/\k <= 60/\yG K H x/\yG K H r/\(∀ z ∈ a,yR z)/\(zGP b a x r CH CR H E \/ ∃ (z:Str) (i:Nat) (s:SS),x=.str z/\r=.int (i:Int)/\z ∈ a/\b[i]?=some s/\(s.ptr=some z \/ hsR z ∈ s.row)/\∀ c,zE [] H c->E (.ref CL) none c)
theorem zK8 (T:xK K C) (TS:xM K CS) (G:yW K C NX "House.ask" sHK N6) (U:yI P w K mg base (CXE P w) 3 C Sa N6 (aZ K C CS CH CR)) (e:yI P w K mg base CX0 3 C Sa N6 (a7 C CS)) (Y:yI P w K mg base (CXE P w) 3 CS NX NF (zJH CS CL)) (g:Cal P w K mg base CX0 1 Sh Nj oF):yI P w K mg base (CXE P w) 4 C NX N6 (zFS K C CS CH CR CL):=by
 refine G.ozX zKD (λf a0 A j s0 H vs Q E M h=>?_)
 obtain ⟨B,p,nm,N,b,l,k,x,r,rfl,m,I,hk,px,pr,c,bad⟩:=h
 have a:z6 3 _:=M.mono (by decide)
 have n:z6 1 _:=M.mono (by decide)
 obtain ⟨o,nl,sl,_,t,a1,u,a2,v⟩:=id m
 rcases bad with bad | ⟨z,i,s,rfl,rfl,D,O,hb,q⟩
 ·exact ⟨_,(zD (yA (vC U wC T.cl a (pv 0) (zA (pv 1) (zA (pv 2) zB)))) wL),_,rfl,p,o,_,rfl,t,rfl,_,rfl,_,rfl,B,p,nm,N,b,l,k,x,r,rfl,m,I,hk,px,pr,bad⟩
 have il:i < l.length:=(zML.mp O).1
 refine ⟨_,(zD (yA (xY e T.cl a (pv 0) (zA (pv 1) (zA (pv 2) zB)))) (zF (zL (zN g n (zA (pv 2) (zA (vC Y wC TS.cl a (zS zV (yB (pv 0) rfl) (pv 2) (λ_ _=>rfl)) (zA (pv 1) zB)) zB)))))),?_⟩
 refine ⟨_,rfl,p,o,_,rfl,t,rfl,_,rfl,_,rfl,B,p,nm,N,b,l,z,i,rfl,m,D,c z D,il,λH1 d=>?_⟩
 have J:b[i]?=some (b[i]'(by omega)):=zMK (by omega)
 generalize b[i]'(by omega)=y at J
 have S:=(v i y s J O).keep d
 obtain ⟨dy,L⟩:=S.ob
 exact ⟨_,rfl,_,rfl,p,C,o,_,_,rfl,d.z t,T.cl,T.nS,wT _ _ _,_,rfl,sl,_,i,_,rfl,rfl,d.z u,xZ J,y.1,dy,_,rfl,L,rfl,_,rfl,y.1,y.2,s,z,rfl,S,c z D,hb,λH2 k2=>q H2 (d.trans k2)⟩
noncomputable def zFV (K:W.Frag) (C CS CH CR CL:Addr):Sp:=λe H _ E=>∃ (B:Addr->Prop) (p:Addr) (nm:Str) (a:List Str) (f:List (Addr × Addr)) (c:List SS) (k:Nat) (x r b:V),e=[.ref p,x,r,b]/\z7 B C CS H p nm a f c/\uH k c/\k <= 60/\yG K H x/\yG K H r/\(∀ z ∈ a,yR z)/\(zGP c a x r CH CR H E \/ ∃ (z:Str) (i:Nat) (s:SS) (Ty:String),x=.str z/\r=.int (i:Int)/\z ∈ a/\c[i]?=some s/\yF K H b Ty/\(s.ptr ≠ some z \/ Ty ≠ "bool")/\∀ d,zE [] H d->E (.ref CL) none d)
theorem zLC (T:xK K C) (TS:xM K CS) (G:yW K C NW "House.come" sHC Ng) (Y:yI P w K mg base (CXE P w) 3 C Sa N6 (aZ K C CS CH CR)) (g:yI P w K mg base CX0 3 C Sa N6 (a7 C CS)) (MS:yI P w K mg base (CXE P w) 3 CS NW Nw (zJJ K CS CL)) (j:Cal P w K mg base CX0 1 Sh Nj oF):yI P w K mg base (CXE P w) 4 C NW Ng (zFV K C CS CH CR CL):=by
 refine G.ozX zKG (λf a0 A l s0 H vs Q E N h=>?_)
 obtain ⟨B,p,nm,O,c,m,k,x,r,b,rfl,n,I,hk,px,pr,d,bad⟩:=h
 have a:z6 3 _:=N.mono (by decide)
 have o:z6 1 _:=N.mono (by decide)
 obtain ⟨t,nl,sl,_,u,a1,v,a2,D⟩:=id n
 rcases bad with bad | ⟨z,i,s,Ty,rfl,rfl,J,U,pb,hb,q⟩
 ·exact ⟨_,(zD (yA (vC Y wC T.cl a (pv 0) (zA (pv 1) (zA (pv 2) zB)))) wL),_,rfl,p,t,_,rfl,u,rfl,_,rfl,_,rfl,B,p,nm,O,c,m,k,x,r,rfl,n,I,hk,px,pr,bad⟩
 have il:i < m.length:=(zML.mp U).1
 refine ⟨_,(zD (yA (xY g T.cl a (pv 0) (zA (pv 1) (zA (pv 2) zB)))) (zF (zL (zN j o (zA (pv 2) (zA (vC MS wC TS.cl a (zS zV (yB (pv 0) rfl) (pv 2) (λ_ _=>rfl)) (zA (pv 1) (zA (pv 3) zB))) zB)))))),?_⟩
 refine ⟨_,rfl,p,t,_,rfl,u,rfl,_,rfl,_,rfl,B,p,nm,O,c,m,z,i,rfl,n,J,d z J,il,λH1 e=>?_⟩
 have L:c[i]?=some (c[i]'(by omega)):=zMK (by omega)
 generalize c[i]'(by omega)=y at L
 have S:=(D i y s L U).keep e
 obtain ⟨dy,M⟩:=S.ob
 exact ⟨_,rfl,_,rfl,p,C,t,_,_,rfl,e.z u,T.cl,T.nS,wT _ _ _,_,rfl,sl,_,i,_,rfl,rfl,e.z v,xZ L,y.1,dy,_,rfl,M,rfl,_,rfl,_,rfl,y.1,y.2,s,z,b,Ty,rfl,S,d z J,pb.keep e,hb,λH2 k2=>q H2 (e.trans k2)⟩
end
section
variable {P:Program} {w:World} {K:W.Frag} {mg:Str->Option Value} {base:Heap} {C CS:Addr} {cs:Nat->Addr}
noncomputable def zFN (K:W.Frag) (C CS:Addr) (cs:Nat->Addr):Sp:=λd H _ E=>∃ B p nm a f b k q e i,d=[.ref p,.ref q]/\z7 B C CS H p nm a f b/\uH k b/\k <= 60/\(∀ z ∈ a,yR z)/\H q=some (.tup (drV e))/\DPl K H e/\Why b a e (some i)/\∀ c,zE [] H c->E (.ref (cs i)) none c
theorem zK0 (T:xK K C) (G:yM K mg SK sPu Nc) (HW:yI P w K mg base (CXE P w) 4 C S8 Nk (zFQ K C CS (cs 3) (cs 5))) (HL:yI P w K mg base (CXE P w) 5 C NZ N4 (eM K C CS (cs 3) true)) (HD:yI P w K mg base (CXE P w) 5 C S3 N4 (eM K C CS (cs 3) false)) (HK:yI P w K mg base (CXE P w) 4 C NX N6 (zFS K C CS (cs 1) (cs 5) (cs 4))) (HC:yI P w K mg base (CXE P w) 4 C NW Ng (zFV K C CS (cs 1) (cs 5) (cs 4))):Cal P w K mg base (CXE P w) 6 SK Nc (zFN K C CS cs):=by
 refine G.ozX zJ9 (λf a0 A N s0 H vs Q E O h=>?_)
 obtain ⟨B,p,nm,d,v,y,k,q,e,i,rfl,u,I,D,l,a,c,o,bad⟩:=h
 have J:z6 5 _:=O.mono (by decide)
 have t:z6 4 _:=O.mono (by decide)
 obtain ⟨L,_,_,_,M,_⟩:=id u
 refine ⟨_,(zD (z5 (zQ y6 (zS z4 (pv 1) zH (λ_ _=>rfl)) zJ (zW _)) (zF (zL (vC HW wC T.cl t (pv 0) (zA (zS z4 (pv 1) zH (λ_ _=>rfl)) (zA (zS z4 (pv 1) zH (λ_ _=>rfl)) zB))))) zM)
   (zD (z5 (zQ y6 (zS z4 (pv 1) zH (λ_ _=>rfl)) zJ (zW _)) (zF (zL (vC HL wC T.cl J (pv 0) (zA (zS z4 (pv 1) zH (λ_ _=>rfl)) zB)))) zM)
   (zD (z5 (zQ y6 (zS z4 (pv 1) zH (λ_ _=>rfl)) zJ (zW _)) (zF (zL (vC HD wC T.cl J (pv 0) (zA (zS z4 (pv 1) zH (λ_ _=>rfl)) zB)))) zM)
   (zD (z5 (zQ y6 (zS z4 (pv 1) zH (λ_ _=>rfl)) zJ (zW _)) (zF (zL (vC HK wC T.cl t (pv 0) (zA (zS z4 (pv 1) zH (λ_ _=>rfl)) (zA (zS z4 (pv 1) zH (λ_ _=>rfl)) zB))))) zM)
   (zF (zL (vC HC wC T.cl t (pv 0) (zA (zS z4 (pv 1) zH (λ_ _=>rfl)) (zA (zS z4 (pv 1) zH (λ_ _=>rfl)) (zA (zS z4 (pv 1) zH (λ_ _=>rfl)) zB)))))))))),?_⟩
 have one:∀ z ∈ d,tG (.str z) d=true:=λz U=>by
  have e2:inV (.str z) (d.map V.str)=true:=by
   unfold inV
   rw [List.any_map,List.any_eq_true]
   exact ⟨z,U,by show (z == z)=true;simp⟩
  unfold tG
  rw [e2,show xB (.str z)=true from (l z U).1];rfl
 cases e with
 | want x r=>
  refine lW rfl a ⟨_,rfl,p,L,_,rfl,M,rfl,_,rfl,q,_,1,_,rfl,rfl,a,at1 _ _ _,_,rfl,q,_,2,_,rfl,rfl,a,at2 _ _ _ _,B,p,nm,d,v,y,k,x,r,rfl,u,I,D,c.1,c.2,?_⟩
  cases o with
  | wantN _ _ h=>exact .inl ⟨h,bad⟩
  | wantR z _ g n h=>exact .inr (.inl ⟨z,rfl,g,n,h,bad⟩)
  | wantT z _ g h m=>exact .inr (.inr ⟨z,rfl,g,h,m,bad⟩)
 | leave x=>
  refine sno rfl a (lW rfl a ⟨_,rfl,p,L,_,rfl,M,rfl,_,rfl,q,_,1,_,rfl,rfl,a,at1 _ _ _,B,p,nm,d,v,y,k,x,rfl,u,I,D,c,?_,?_⟩)
  ·cases o with
   | leaveN _ h=>exact .inl h
   | leaveI z j s g e m h=>exact .inr ⟨z,j,s,rfl,g,e,m,h⟩
  ·cases o <;> exact bad
 | done x=>
  refine sno rfl a (sno rfl a (lW rfl a ⟨_,rfl,p,L,_,rfl,M,rfl,_,rfl,q,_,1,_,rfl,rfl,a,at1 _ _ _,B,p,nm,d,v,y,k,x,rfl,u,I,D,c,?_,?_⟩))
  ·cases o with
   | doneN _ h=>exact .inl h
   | doneW z j s g e m h=>exact .inr ⟨z,j,s,rfl,g,e,m,h⟩
  ·cases o <;> exact bad
 | ask x r=>
  refine sno rfl a (sno rfl a (sno rfl a (lW rfl a ⟨_,rfl,p,L,_,rfl,M,rfl,_,rfl,q,_,1,_,rfl,rfl,a,at1 _ _ _,_,rfl,q,_,2,_,rfl,rfl,a,at2 _ _ _ _,B,p,nm,d,v,y,k,x,r,rfl,u,I,D,c.1,c.2,l,?_⟩)))
  cases o with
  | askN _ _ h=>exact .inl (.inl ⟨h,bad⟩)
  | askR z _ m h=>exact .inl (.inr ⟨one z m,h,bad⟩)
  | askS z j s m e h=>exact .inr ⟨z,j,s,rfl,rfl,m,e,h,bad⟩
 | come x r b=>
  refine sno rfl a (sno rfl a (sno rfl a (sno rfl a ⟨_,rfl,p,L,_,rfl,M,rfl,_,rfl,q,_,1,_,rfl,rfl,a,at1 _ _ _,_,rfl,q,_,2,_,rfl,rfl,a,at2 _ _ _ _,_,rfl,q,_,3,_,rfl,rfl,a,at3 _ _ _ _ _,B,p,nm,d,v,y,k,x,r,b,rfl,u,I,D,c.1,c.2.1,l,?_⟩)))
  cases o with
  | comeN _ _ _ h=>exact .inl (.inl ⟨h,bad⟩)
  | comeR z _ _ m h=>exact .inl (.inr ⟨one z m,h,bad⟩)
  | comeS z j s _ m e h=>
   obtain ⟨⟨Ty,Y⟩,_⟩:=c.2.2
   exact .inr ⟨z,j,s,Ty,rfl,rfl,m,e,Y,h.imp id λn=>iG Y n,bad⟩
end
noncomputable abbrev zAL:Stmt:=top 51
noncomputable abbrev sIR:Stmt:=top 52
noncomputable abbrev sWA:Stmt:=top 53
noncomputable abbrev sWy:Stmt:=top 54
noncomputable def qZ:List Str:=["tree",NY,"seat",NV,"letter",T4,SI,"tie","down","mend","text","line"]
noncomputable def qJ (i:Nat):Str:=qZ.getD i ""
theorem zCX (a:i < 12):(qZ.map V.str)[i]?=some (.str (qJ i)):=by
 have e:qZ.length=12:=rfl
 rw [zMP,zMK (by rw [e];exact a)]
 unfold qJ
 rw [zMO,zMK (by rw [e];exact a)];rfl
noncomputable def zI4:Option Nat->V
 | none=>.non
 | some i=>.str (qJ i)
theorem dU (h:vQ z=true):yR z:=⟨h,by unfold vQ at h;simp at h;exact h.1.2⟩
theorem mZ (h:xX r n=true):∃ i:Nat,r=.int (i:Int)/\i < n:=by
 cases r with
 | int j=>
  obtain ⟨a,b⟩:=Bool.and_eq_true _ _ ▸ (show (decide (0 <= j) && decide (j < (n:Int)))=true from h)
  have a:=of_decide_eq_true a
  have b:=of_decide_eq_true b
  exact ⟨j.toNat,by rw [Int.toNat_of_nonneg a],by omega⟩
 | _=>cases h
theorem zCY (ne:ss ≠ []) (a:yR z) (b:z ∉ yZ ss) (h:r=.non \/ xX r ss.length=true):Why ss d (.want (.str z) r) none:=by
 rcases h with rfl | h
 ·exact .no _ (.want z none) _ _ _ rfl (.any (zMK (n8 ne)) rfl a b)
 ·obtain ⟨i,rfl,c⟩:=mZ h
  exact .no _ (.want z (some i)) _ _ _ rfl (.want (zMK c) a b)
noncomputable def zME (ss:List SS) (z:Str) (v:V):Prop:=(v=.non/\z ∉ yZ ss) \/ ∃ (i:Nat) (s:SS),v=.int (i:Int)/\ss[i]?=some s/\z ∈ wZ s
theorem zC6 (b:wO Y H st ys ss) (l:ss.length <= 100) (q:∀ v a,zME ss z v->zE [] H a->Q v a):aN [.ref st,.str z] H Q E:=⟨Y,st,ys,ss,z,rfl,b,l,λa n k=>q _ a (.inl ⟨rfl,n⟩) k,λi s a e m k=>q _ a (.inr ⟨i,s,rfl,e,m⟩) k⟩
theorem oC (g:∀ e R,zE [] H e->(∀ d,zE [] e d->R (.int (if b=true then 1 else 0)) d)->h σ e R) (q:∀ e,zE [] H e->Q (if b=true then c else a) e):tOp gT (jQ (vD (tC a) (vD (tC c) t7))) h σ H Q:=by
 refine ⟨by show 2 <= sizeLine;decide,λl f=>g _ _ (zE.new f) λd k=>⟨l,[a,c],_,_,rfl,rfl,k.z zC,?_,q d ((zE.new f).trans k)⟩⟩
 cases b <;> rfl
section
variable {P:Program} {w:World} {K:W.Frag} {mg:Str->Option Value} {base:Heap} {C:Addr}
theorem zKA:zO NL NL (zG zAL):=scm
noncomputable def aT (K:W.Frag):Sp:=λb H Q _=>∃ x,b=[x]/\yG K H x/\∀ a,zE [] H a->Q (.bl (xB x)) a
theorem zK3 (G:yM K mg SN zAL NL) (a:Blt mg Sd) (b:Blt mg "str") (d:Blt mg Sc) (g:Blt mg "all"):Cal P w K mg base CX0 1 SN NL (aT K):=by
 refine G.oz zKA (λf B A p s H L Q E M h=>?_)
 obtain ⟨x,rfl,⟨⟨T,r⟩,v⟩,q⟩:=h
 refine ⟨_,(zD (z5 (PW.pt (rS (y9 (y3 (zY yO a zT (zA (pv 0) (zA (vE b zCO) zB))))) (tP (y9 (oR oX oX zH (zY z8 d yS (zA (pv 0) zB)) zH))))) (zF (zL wH)) zM)
   (zF (zL (zY (sG rfl) g nY (zA (vX (N:=NL) (sc:=zG zAL) (ix:=[]) (by decide +kernel) (zA2 (pv 0)) (λ_ _ _ _=>xQ) (λ_ _ _ _=>(xC m4 (pv 0) zJ (by with_unfolding_all rfl)))) zB))))),?_⟩
 refine ⟨_,rfl,_,_,_,_,rfl,r.ty,r.kit.1,_,rfl,?_⟩
 cases r with
 | str z=>
  have v:=v z rfl
  refine ifF rfl ?_
  refine ⟨_,rfl,_,z.length,rfl,⟨by rw [sizeLine_eq];omega,rfl⟩,_,_,rfl,rfl,_,rfl,?_⟩
  refine t8 (λt=>?_) (λt=>?_)
  ·refine ⟨_,_,rfl,rfl,_,rfl,?_⟩
   by_cases y:z.length <= 8
   ·refine ifF (by show (!decide ((z.length:Int) <= 8))=false;rw [zMY (by omega)];rfl) ?_
    refine ⟨_,rfl,z,rfl,λacc D=>?_⟩
    refine dO (by rw [sizeLine_eq];show z.length < _;omega) (λi j n l=>∃ k,n=[k]/\j=(z.cps.toList.take i).map (λc=>V.bl (vH c))/\i <= z.cps.size/\zE [acc] H l/\l acc=some (.lst j)) ?_ ?_ ?_ ?_
    ·exact ⟨_,rfl,rfl,zMT _,zE.at (by simp),zC⟩
    ·rintro i j n l ⟨k,rfl,rfl,u,o,m⟩
     exact ⟨m,by simp;omega⟩
    ·rintro i j n l u ⟨k,rfl,rfl,_,o,m⟩
     refine ⟨_,rfl,_,_,rfl,rfl,m,_,rfl,?_,u,o.trans (zE.at (by simp)),zC⟩
     rw [List.take_add_one,zMV]
     congr 1
     have e:z.cps.toList[i]?=some (z.cps.getD i 0):=by
      rw [Array.getElem?_toList,zNI,Array.getElem?_eq_getElem u];rfl
     rw [e];rfl
    ·rintro j n l ⟨k,rfl,rfl,_,o,m⟩
     refine ⟨acc,z.cps.toList.map vH,rfl,.of ?_,?_⟩
     ·rw [m,zM8 (by simp),zM3];rfl
     ·rw [mB]
      have e:xB (.str z)=z.cps.toList.all vH:=by
       show (decide (1 <= z.length) && decide (z.length <= 8) && _)=_
       have I:1 <= z.length:=by have:=of_decide_eq_true t;omega
       rw [zMY I,zMY y];rfl
      rw [<- e]
      exact q _ (o.drop D)
   ·refine ifT (by show (!decide ((z.length:Int) <= 8))=true;rw [zMZ (by omega)];rfl) ?_
    have e:xB (.str z)=false:=by
     show (decide (1 <= z.length) && decide (z.length <= 8) && _)=_
     rw [zMZ y];simp
    rw [<- e]
    exact q _ (zE.refl _)
  ·have e:xB (.str z)=false:=by
    show (decide (1 <= z.length) && decide (z.length <= 8) && _)=_
    have J:¬ 1 <= z.length:=λY=>t (zMY (by omega))
    rw [zMZ J];simp
   refine ⟨_,rfl,ifT rfl ?_⟩
   rw [<- e]
   exact q _ (zE.refl _)
 | _=>exact ifT rfl (q H (zE.refl _))
theorem scIR:zO NB NB (zG sIR):=scm
theorem zJ4:zO NP Nm (zG sWA):=scm
noncomputable def zG4 (K:W.Frag):Sp:=λa H Q _=>∃ (x:V) (T:String) (n:Nat),a=[x,.int (n:Int)]/\yF K H x T/\Q (.bl (xX x n)) H
theorem okIR (G:yM K mg SM sIR NB) (a:Blt mg Sd) (d:Blt mg "int") (c:Blt mg "bool"):Cal P w K mg base CX0 1 SM NB (zG4 K):=by
 refine G.oz scIR (λf l A j s H m Q E o h=>?_)
 obtain ⟨x,T,n,rfl,k,q⟩:=h
 refine ⟨_,(zF (zL (uF (zY yO a zT (zA (pv 0) (zA (vE d tX) zB))) (uF (gX (zY yO a zT (zA (pv 0) (zA (vE c u5) zB)))) (uN (iB oX iD zH (pv 0) (pv 1))))))),?_⟩
 refine ⟨_,rfl,_,_,_,_,rfl,k.ty,k.kit.2.1,_,rfl,?_⟩
 cases k with
 | int i=>
  refine nF ⟨_,rfl,_,_,_,_,rfl,(yF.int (K:=K) (H:=H) i).ty,(yF.int (K:=K) (H:=H) i).kit.2.2.1,_,rfl,_,rfl,nF ⟨_,rfl,_,_,rfl,rfl,_,rfl,?_⟩⟩
  by_cases g:0 <= i
  ·refine ifT (zMY g) ⟨_,rfl,_,_,rfl,rfl,?_⟩
   have e:xX (.int i) n=decide (i < (n:Int)):=by show (decide (0 <= i) && decide (i < (n:Int)))=_;rw [zMY g];rfl
   rw [e] at q
   exact q
  ·have e:xX (.int i) n=false:=by show (decide (0 <= i) && decide (i < (n:Int)))=_;rw [zMZ g];rfl
   rw [e] at q
   exact ifF (zMZ g) q
 | bl b=>exact nF ⟨_,rfl,_,_,_,_,rfl,(yF.bl (K:=K) (H:=H) b).ty,(yF.bl (K:=K) (H:=H) b).kit.2.2.1,_,rfl,_,rfl,mQ q⟩
 | _=>exact mQ q
noncomputable def zJE (K:W.Frag):Sp:=λc H Q _=>∃ d Y st q f a e,c=[.ref st,.ref q]/\wO Y H st f a/\a.length <= 100/\a ≠ []/\H q=some (.tup (drV e))/\DPl K H e/\((∃ x r,e=.want x r) \/ (∃ x,e=.leave x) \/ ∃ x,e=.done x)/\∀ o b,Why a d e o->zE [] H b->Q (zI4 o) b
theorem okWA (G:yM K mg T9 sWA Nm) (a0:Cal P w K mg base CX0 1 SN NL (aT K)) (a1:Cal P w K mg base CX0 1 SM NB (zG4 K)) (a2:Cal P w K mg base CX0 1 SD Nz aN) (u:Blt mg Sc) (l:Blt mg "int"):Cal P w K mg base CX0 2 T9 Nm (zJE K):=by
 refine G.oz zJ4 (λf a6 A a3 s0 H vs Q E hr h=>?_)
 obtain ⟨nb,Y,st,q,ys,B,e,rfl,hS,M,ne,hq,pl,N,fin⟩:=h
 have I:z6 1 _:=hr
 have hu:=vT hr
 refine ⟨_,(zD (z5 (y9 (y3 (zN a0 I (zA (zS z4 (pv 1) zH (λ_ _=>rfl)) zB)))) (zF (zL zJ)) zM)
   (zD (zX (i:=2) zJ4.nd rfl (Or.inl rfl) (zN a2 I (zA (pv 0) (zA (zS z4 (pv 1) zH (λ_ _=>rfl)) zB))))
   (zD (z5 (zQ y6 (zS z4 (pv 1) zH (λ_ _=>rfl)) zJ (zW _)) (zD (z5 (PW.pt (kS (zQ vO (zS z4 (pv 1) zH (λ_ _=>rfl)) yV (zW _)) (pT (y9 (y3 (zN a1 I (zA (zS z4 (pv 1) zH (λ_ _=>rfl)) (zA (zY z8 u yS (zA (pv 0) zB)) zB)))))))) (zF (zL zJ)) zM)
   (zF (zL (zS zV (yN (zA yV (zA zJ zB))) (xE uK rfl l.no tX (zA (xC vO (pv 2) yV (zW _)) zB)) (λ_ _=>rfl))))) zM)
   (zD (z5 (zQ uO (pv 2) yV (zW _)) (zF (zL zJ)) zM)
   (zF (zL (zS zV (yN (zA yV (zA zJ zB))) (xE uK rfl l.no tX (zA (xC sV (xC y6 (yP hu (zS zV (pv 0) (pv 2) (λ_ _=>rfl)) zJ (λ_ _=>rfl)) (zS z4 (pv 1) zH (λ_ _=>rfl)) (zW _)) (xC y6 (zS z4 (pv 1) zH (λ_ _=>rfl)) zJ (zW _)) (zW _)) zB)) (λ_ _=>rfl)))))))),?_⟩
 obtain ⟨x,wd,rest,m,px,wN,a4⟩:∃ x wd rest,drV e=.str wd :: x :: rest/\yG K H x/\(xB x=false->Why B nb e (some 3))/\(∀ z,x=.str z->yR z->z ∉ yZ B->(∃ y,e=.leave y) \/ (∃ y,e=.done y)->Why B nb e (some 3)):=by
  rcases N with ⟨x,r,rfl⟩ | ⟨x,rfl⟩ | ⟨x,rfl⟩
  ·exact ⟨x,_,_,rfl,pl.1,λh=>.wantN _ _ h,λz _ _ _ h=>by rcases h with ⟨y,h⟩ | ⟨y,h⟩ <;> cases h⟩
  ·exact ⟨x,_,_,rfl,pl,λh=>.leaveN _ (.inl h),λz O g n _=>.leaveN _ (.inr ⟨z,O,g,n⟩)⟩
  ·exact ⟨x,_,_,rfl,pl,λh=>.doneN _ (.inl h),λz O g n _=>.doneN _ (.inr ⟨z,O,g,n⟩)⟩
 have J:=hq
 rw [m] at J
 refine ⟨_,rfl,q,_,1,_,rfl,rfl,J,at1 _ _ _,x,rfl,px,λH1 k1=>⟨_,rfl,?_⟩⟩
 cases hn:xB x with
 | false=>exact ifT rfl (fin (some 3) H1 (wN hn) k1)
 | true=>
 obtain ⟨z,rfl,O⟩:=o4 hn
 have L:=dU O
 refine ifF rfl ⟨_,rfl,_,rfl,q,_,1,_,rfl,rfl,k1.z J,at1 _ _ _,?_⟩
 dsimp only [t7]
 refine zC6 (hS.on k1) M λv H2 hv k2=>?_
 have a:=k1.trans k2
 have j:=a.z hq
 have a5:=hS.on a
 obtain ⟨T,_,_,ly,hd⟩:=id a5
 rcases N with ⟨x',r,rfl⟩ | N
 ·cases (List.cons.inj (List.cons.inj m).2).1
  refine ⟨_,rfl,q,_,0,_,rfl,rfl,j,at0 _ _,rfl,_,rfl,nI ?_⟩
  refine ⟨_,rfl,q,_,2,_,rfl,rfl,j,at2 _ _ _ _,rfl,_,rfl,?_⟩
  obtain ⟨⟨Tr,pr⟩,_⟩:=pl.2
  have last:(r=.non \/ xX r B.length=true)->∀ c,zE [] H2 c->Q (if (!decide (v=V.non))=true then V.str NV else .non) c:=λU c k3=>by
   rcases hv with ⟨rfl,nz⟩ | ⟨i,s,rfl,t,hm⟩
   ·exact fin none c (zCY ne L nz U) (a.trans k3)
   ·exact fin (some 3) c (.wantT z r L U (wM.mpr ⟨i,s,t,hm⟩)) (a.trans k3)
  by_cases rn:r=.non
  ·refine ifF (by rw [zMY rn];rfl) ?_
   refine ifF rfl ?_
   exact oC (b:=!decide (v=V.non)) (λc R k h=>⟨_,rfl,rfl,.inr ⟨_,rfl,h c (zE.refl _)⟩⟩) (last (.inl rn))
  ·refine ifT (by rw [zMZ rn];rfl) ⟨_,rfl,q,_,2,_,rfl,rfl,j,at2 _ _ _ _,_,rfl,_,_,rfl,.inl ⟨_,.of T,rfl⟩,r,Tr,B.length,by rw [zMJ,ly];rfl,pr.keep a,_,rfl,?_⟩
   cases er:xX r B.length with
   | false=>exact ifT rfl (fin (some 5) H2 (.wantR z r L rn er) a)
   | true=>
    refine ifF rfl ?_
    exact oC (b:=!decide (v=V.non)) (λc R k h=>⟨_,rfl,rfl,.inr ⟨_,rfl,h c (zE.refl _)⟩⟩) (last (.inr er))
 ·have nw:wd ≠ S8 /\((∃ y,e=.leave y) \/ ∃ y,e=.done y):=by
   rcases N with ⟨y,rfl⟩ | ⟨y,rfl⟩
   ·cases (List.cons.inj m).1;exact ⟨by decide +kernel,.inl ⟨y,rfl⟩⟩
   ·cases (List.cons.inj m).1;exact ⟨by decide +kernel,.inr ⟨y,rfl⟩⟩
  rw [m] at j
  refine ⟨_,rfl,q,_,0,_,rfl,rfl,j,at0 _ _,rfl,_,rfl,ifF (by simpa using nw.1) ?_⟩
  rcases hv with ⟨rfl,nz⟩ | ⟨i,s,rfl,t,hm⟩
  ·exact ⟨_,rfl,rfl,_,rfl,ifT rfl (fin (some 3) H2 (a4 z rfl L nz nw.2) a)⟩
  refine ⟨_,rfl,rfl,_,rfl,ifF rfl ?_⟩
  have il:i < B.length:=(zML.mp t).1
  have ey:ys[i]?=some (ys[i]'(by omega)):=zMK (by omega)
  generalize ys[i]'(by omega)=y at ey
  refine oC (b:=!decide (V.bl (decide (s.hold=some z))=V.bl (decide (V.str wd=V.str S3)))) (λc R k h=>?_) λc k3=>?_
  ·have D:=(hd i y s ey t).keep k
   refine ⟨_,rfl,_,rfl,st,_,_,_,rfl,rfl,k.z T,xZ ey,y.1,_,rfl,g_h D.d,_,rfl,q,_,1,_,rfl,rfl,k.z j,at1 _ _ _,qN _ _,_,rfl,q,_,0,_,rfl,rfl,k.z j,at0 _ _,rfl,rfl,.inr ⟨_,rfl,?_⟩⟩
   rw [pF]
   exact h c (zE.refl _)
  ·have o:=a.trans k3
   rcases N with ⟨y',rfl⟩ | ⟨y',rfl⟩
   ·cases (List.cons.inj m).1
    cases (List.cons.inj (List.cons.inj m).2).1
    rw [show decide (V.str (NZ : Str)=V.str S3)=false by decide +kernel]
    by_cases p:s.hold=some z
    ·rw [zMY p];exact fin (some 3) c (.leaveI z i s L t hm p) o
    ·rw [zMZ p];exact fin none c (.no _ (.leave z) i s _ rfl (.leave t ((xD.mp hm).resolve_left p))) o
   ·cases (List.cons.inj m).1
    cases (List.cons.inj (List.cons.inj m).2).1
    rw [show decide (V.str (S3 : Str)=V.str S3)=true by decide +kernel]
    by_cases p:s.hold=some z
    ·rw [zMY p];exact fin none c (.no _ (.done z) i s _ rfl (.done t p)) o
    ·rw [zMZ p];exact fin (some 3) c (.doneW z i s L t hm p) o
end
theorem zHW {a:List Str} (h:inV (.str z) (a.map V.str)=false):tG (.str z) a=false:=by
 unfold tG;rw [h,Bool.and_false]
theorem zLL {a:List Str} (h:inV (.str z) (a.map V.str)=true):z ∈ a:=by
 unfold inV at h
 rw [List.any_map,List.any_eq_true] at h
 obtain ⟨y,b,e⟩:=h
 rw [<- eq_of_beq (show (y == z)=true from e)]
 exact b
section
variable {P:Program} {w:World} {K:W.Frag} {mg:Str->Option Value} {base:Heap} {C:Addr}
theorem zDA:zO [Sw,SE,SR,SX,"_law_good"] N7 (zG sWy):=scm
noncomputable def zJC (K:W.Frag):Sp:=λd H Q _=>∃ b Y st nl q f a e,d=[.ref st,.ref nl,.ref q]/\wO Y H st f a/\a.length <= 100/\a ≠ []/\H nl=some (.lst (b.map V.str))/\H q=some (.tup (drV e))/\DPl K H e/\∀ o c,Why a b e o->zE [] H c->Q (zI4 o) c
theorem okWy (G:yM K mg "_law_why" sWy N7) (ab:Cal P w K mg base CX0 2 T9 Nm (zJE K)) (ac:Cal P w K mg base CX0 1 SN NL (aT K)) (ae:Cal P w K mg base CX0 1 SM NB (zG4 K)) (a0:Blt mg Sc) (a1:Blt mg "int") (g:Blt mg Sd) (I:Blt mg "bool"):Cal P w K mg base CX0 3 "_law_why" N7 (zJC K):=by
 refine G.oz zDA (λf al A af s0 H vs Q E hr h=>?_)
 obtain ⟨J,Y,st,nl,q,ys,u,e,rfl,hS,a4,ne,ag,hq,pl,fin⟩:=h
 have ah:z6 2 _:=hr
 have a5:z6 1 _:=hr.mono (by decide)
 have hu:=vT hr
 refine ⟨_,(zD (z5 (zQ sL (zS z4 (pv 2) zH (λ_ _=>rfl)) (z9 (zA zJ (zA zJ (zA zJ zB)))) (by with_unfolding_all rfl)) (zF (zL (zN ab ah (zA (pv 0) (zA (pv 2) zB))))) zM)
   (zD (z5 (PW.pt (rS (y9 (y3 (zN ac a5 (zA (zS z4 (pv 2) zH (λ_ _=>rfl)) zB)))) (tP (zQ tS (zS z4 (pv 2) zH (λ_ _=>rfl)) (pv 1) (by with_unfolding_all rfl))))) (zF (zL zJ)) zM)
   (zD (z5 (y9 (y3 (zN ae a5 (zA (zS z4 (pv 2) zH (λ_ _=>rfl)) (zA (zY z8 a0 yS (zA (pv 0) zB)) zB))))) (zF (zL zJ)) zM)
   (zD (zX (i:=3) zDA.nd rfl (Or.inl rfl) (zS zV (pv 0) (zS z4 (pv 2) zH (λ_ _=>rfl)) (λ_ _=>rfl)))
   (zD (z5 (zQ y6 (zS z4 (pv 2) zH (λ_ _=>rfl)) zJ (zW _)) (zF (zX (i:=4) zDA.nd rfl (Or.inl rfl) (uF (xC sV (yP hu (pv 3) zJ (λ_ _=>rfl)) (zS z4 (pv 2) zH (λ_ _=>rfl)) (zW _)) (uN (xC (sK hu) (z9 (zA zJ (zA (zS z4 (pv 2) zH (λ_ _=>rfl)) zB))) (yP hu (pv 3) zJ (λ_ _=>rfl)) (by with_unfolding_all rfl)))))) (zF (zX (i:=4) zDA.nd rfl (Or.inl rfl) (uF (xC y6 (yP hu (pv 3) zJ (λ_ _=>rfl)) (zS z4 (pv 2) zH (λ_ _=>rfl)) (zW _)) (uN (zY yO g zT (zA (zS z4 (pv 2) zH (λ_ _=>rfl)) (zA (vE I u5) zB))))))))
   (zF (zL (zS zV (yN (zA zJ (zA yV zB))) (xE uK rfl a1.no tX (zA (pv 4) zB)) (λ_ _=>rfl))))))))),?_⟩
 refine sq λN hN=>?_
 by_cases v:(∃ x r,e=.want x r) \/ (∃ x,e=.leave x) \/ ∃ x,e=.done x
 ·obtain ⟨wd,rest,L,hw⟩:∃ wd rest,drV e=.str wd :: rest/\inV (.str wd) [.str S8,.str NZ,.str S3]=true:=by
   rcases v with ⟨x,r,rfl⟩ | ⟨x,rfl⟩ | ⟨x,rfl⟩ <;> exact ⟨_,_,rfl,by decide +kernel⟩
  have p:=hq
  rw [L] at p
  refine ⟨_,rfl,q,_,0,_,rfl,rfl,p,at0 _ _,by show 3 <= sizeLine;decide,λtp a2=>⟨tp,_,rfl,.inr (.of zC),rfl,rfl,_,rfl,ifT hw ?_⟩⟩
  have k1:=zE.new (S:=[]) (o:=.tup [.str S8,.str NZ,.str S3]) a2
  exact ⟨_,rfl,_,rfl,J,Y,st,q,ys,u,e,rfl,hS.on k1,a4,ne,k1.z hq,pl.on k1,v,λo a hy k=>fin o a hy (k1.trans k)⟩
 obtain ⟨wd,x,rest,L,hw⟩:∃ wd x rest,drV e=.str wd :: x :: rest/\inV (.str wd) [.str S8,.str NZ,.str S3]=false:=by
  cases e with
  | ask x r=>exact ⟨_,_,_,rfl,by decide +kernel⟩
  | come x r b=>exact ⟨_,_,_,rfl,by decide +kernel⟩
  | want x r=>exact absurd (.inl ⟨x,r,rfl⟩) v
  | leave x=>exact absurd (.inr (.inl ⟨x,rfl⟩)) v
  | done x=>exact absurd (.inr (.inr ⟨x,rfl⟩)) v
 have p:=hq
 rw [L] at p
 refine ⟨_,rfl,q,_,0,_,rfl,rfl,p,at0 _ _,by show 3 <= sizeLine;decide,λtp a2=>⟨tp,_,rfl,.inr (.of zC),rfl,rfl,_,rfl,ifF hw ?_⟩⟩
 have k1:=zE.new (S:=[]) (o:=.tup [.str S8,.str NZ,.str S3]) a2
 have k2:=k1
 generalize upd H tp _=H2 at k2 ⊢
 refine hN _ _ (sq λN hN=>?_)
 have ai:=hS.on k2
 obtain ⟨aj,_,_,ly,hd⟩:=id ai
 have a3:=k2.z p
 obtain ⟨r,B,er,px,⟨⟨Tr,pr⟩,_⟩,wN,wR⟩:∃ r B,rest=r :: B/\yG K H x/\yG K H r/\(tG x J=false->Why u J e (some 1))/\(∀ z,x=.str z->z ∈ J->xX r u.length=false->Why u J e (some 5)):=by
  cases e with
  | ask x r=>cases L;exact ⟨_,_,rfl,pl.1,pl.2,λh=>.askN _ _ h,λz e hz h=>e ▸ .askR z r hz h⟩
  | come x r b=>cases L;exact ⟨_,_,rfl,pl.1,pl.2.1,λh=>.comeN _ _ _ h,λz e hz h=>e ▸ .comeR z r b hz h⟩
  | want x r=>exact absurd (.inl ⟨x,r,rfl⟩) v
  | leave x=>exact absurd (.inr (.inl ⟨x,rfl⟩)) v
  | done x=>exact absurd (.inr (.inr ⟨x,rfl⟩)) v
 rw [er] at a3 L
 refine ⟨_,rfl,q,_,1,_,rfl,rfl,a3,at1 _ _ _,x,rfl,px.on k2,λH3 k3=>⟨_,rfl,?_⟩⟩
 have j:=k2.trans k3
 have l:=k3.z a3
 have T:=k3.z aj
 cases hn:xB x with
 | false=>exact ifT rfl (ifT rfl (fin (some 1) H3 (wN (by unfold tG;rw [hn];rfl)) j))
 | true=>
 obtain ⟨z,rfl,hz⟩:=o4 hn
 refine ifF rfl ⟨_,rfl,q,_,1,_,rfl,rfl,l,at1 _ _ _,_,rfl,nl,_,rfl,.inl (.of (j.z ag)),rfl,qU J,_,rfl,?_⟩
 cases ei:inV (.str z) (J.map V.str) with
 | false=>exact ifT rfl (fin (some 1) H3 (wN (zHW ei)) j)
 | true=>
 have m:=zLL ei
 refine ifF rfl (hN _ _ (sq λN hN=>⟨_,rfl,q,_,2,_,rfl,rfl,l,at2 _ _ _ _,_,rfl,_,_,rfl,.inl ⟨_,.of T,rfl⟩,r,Tr,u.length,by rw [zMJ,ly];rfl,pr.keep j,_,rfl,?_⟩))
 cases a6:xX r u.length with
 | false=>exact ifT rfl (fin (some 5) H3 (wR z rfl m a6) j)
 | true=>
 obtain ⟨i,rfl,il⟩:=mZ a6
 have U:u[i]?=some (u[i]'il):=zMK il
 generalize u[i]'il=s at U
 have ey:ys[i]?=some (ys[i]'(by omega)):=zMK (by omega)
 generalize ys[i]'(by omega)=y at ey
 have D:=(hd i y s ey U).keep k3
 refine ifF rfl (hN _ _ (sq λN hN=>⟨_,rfl,_,rfl,q,_,2,_,rfl,rfl,l,at2 _ _ _ _,st,_,_,_,rfl,rfl,T,xZ ey,?_⟩))
 refine hN _ _ ?_
 refine ⟨_,rfl,q,_,0,_,rfl,rfl,l,at0 _ _,rfl,_,rfl,?_⟩
 by_cases ea:∃ x r,e=.ask x r
 ·obtain ⟨x',r',rfl⟩:=ea
  cases L
  refine nI ?_
  refine ⟨_,rfl,y.1,_,rfl,g_a D.d,_,rfl,q,_,1,_,rfl,rfl,l,at1 _ _ _,qN _ _,?_⟩
  have last:∀ b M ti σ,zE [] H M->Why u J (.ask (.str z) (.int (i:Int))) (if b=true then none else some 4)->(∀ a R,zE [] M a->R (.int (if b=true then 1 else 0)) a->ti σ a R)->tOp gT (jQ (vD (tC (.str "letter")) (vD (tC .non) t7))) ti σ M Q:=λb M ti σ k4 hy hi=>oC (b:=b) (λa R k h=>hi a R k (h a (zE.refl _))) λa k=>by
   have:=fin _ a hy (k4.trans k)
   cases b <;> exact this
  refine ⟨_,rfl,?_⟩
  by_cases O:s.ptr=some z
  ·refine ifF (by rw [pF,zMY O];rfl) (last false H3 _ _ j (.askS z i s m U (.inl O)) λa R k h=>⟨_,rfl,.inr ⟨_,rfl,h⟩⟩)
  ·refine ifT (by rw [pF,zMZ O];rfl) ⟨_,rfl,q,_,1,_,rfl,rfl,l,at1 _ _ _,by show 2 <= sizeLine;decide,λt2 ak=>?_⟩
   have k4:zE [] H3 _:=zE.new (o:=.tup [.str NY,.str z]) ak
   have D4:=D.keep k4
   refine ⟨_,rfl,y.1,_,rfl,g_r D4.d,m6 (x:=hsR z) D4.rw zC ?_⟩
   refine last (!decide (hsR z ∈ s.row)) _ _ _ (j.trans k4) ?_ λa R k h=>⟨_,rfl,.inr ⟨_,rfl,h⟩⟩
   by_cases hh:hsR z ∈ s.row
   ·rw [zMY hh];exact .askS z i s m U (.inr hh)
   ·rw [zMZ hh];exact .no _ (.ask z i) i s _ rfl (.ask U m (dU hz) O hh)
 ·obtain ⟨b,rfl⟩:∃ b,e=.come (.str z) (.int (i:Int)) b:=by
   cases e with
   | ask x r=>exact absurd ⟨x,r,rfl⟩ ea
   | come x r b=>cases L;exact ⟨b,rfl⟩
   | want x r=>exact absurd (.inl ⟨x,r,rfl⟩) v
   | leave x=>exact absurd (.inr (.inl ⟨x,rfl⟩)) v
   | done x=>exact absurd (.inr (.inr ⟨x,rfl⟩)) v
  cases L
  obtain ⟨⟨Tb,pb⟩,_⟩:=pl.2.2
  have aa:=pb.keep j
  refine tV ⟨_,rfl,y.1,_,rfl,g_a D.d,_,rfl,q,_,1,_,rfl,rfl,l,at1 _ _ _,qN _ _,?_⟩
  refine ⟨_,rfl,?_⟩
  have last:∀ c M ti σ,zE [] H M->Why u J (.come (.str z) (.int (i:Int)) b) (if c=true then none else some 4)->(∀ a R,zE [] M a->R (.int (if c=true then 1 else 0)) a->ti σ a R)->tOp gT (jQ (vD (tC (.str "letter")) (vD (tC .non) t7))) ti σ M Q:=λc M ti σ k4 hy hi=>oC (b:=c) (λa R k h=>hi a R k (h a (zE.refl _))) λa k=>by
   have:=fin _ a hy (k4.trans k)
   cases c <;> exact this
  by_cases O:s.ptr=some z
  ·refine ifT (by rw [pF,zMY O]) ⟨_,rfl,q,_,3,_,rfl,rfl,l,rfl,_,_,_,_,rfl,aa.ty,aa.kit.2.2.1,?_⟩
   refine last _ H3 _ _ j ?_ λa R k h=>⟨_,rfl,.inr ⟨_,rfl,h⟩⟩
   by_cases hb:Tb="bool"
   ·obtain ⟨tt,rfl⟩:∃ tt,b=.bl tt:=Classical.byContradiction λn=>iG pb (λt e=>n ⟨t,e⟩) hb
    subst hb
    exact .no _ (.come z i _) i s _ rfl (.come U m O)
   ·rw [show (Tb == "bool")=false by simpa using hb]
    exact .comeS z i s b m U (.inr λt e=>by subst e;cases pb;exact hb rfl)
  ·exact ifF (by rw [pF,zMZ O]) (last false H3 _ _ j (.comeS z i s b m U (.inl O)) λa R k h=>⟨_,rfl,.inr ⟨_,rfl,h⟩⟩)
end
noncomputable abbrev oK:Stmt:=top 40
noncomputable abbrev zDJ:Stmt:=top 39
theorem mU:bootBuiltins "ValueError"=some (.type "ValueError"):=by decide +kernel
structure Kn (K:W.Frag) (mg:Str->Option Value) (cs:Nat->Addr):Prop where
 g0:Glo mg "NoTree" (.ref (cs 0))
 g1:Glo mg "NoHouse" (.ref (cs 1))
 g2:Glo mg "NoSeat" (.ref (cs 2))
 g3:Glo mg SU (.ref (cs 3))
 g4:Glo mg "NoLetter" (.ref (cs 4))
 g5:Glo mg "NoRight" (.ref (cs 5))
 g6:Glo mg "NoRow" (.ref (cs 6))
 g7:Glo mg "NoTie" (.ref (cs 7))
 g8:Glo mg "Down" (.ref (cs 8))
 g9:Glo mg "NoMend" (.ref (cs 9))
 g10:Glo mg "NoText" (.ref (cs 10))
 g11:Glo mg "NoLine" (.ref (cs 11))
 kd:∀ i j,i < 12->j < 12->W.kitOne K (.ref (cs i)) (.ref (cs j))=some (decide (i=j))
 kv:∀ i,i < 12->W.kitOne K (.ref (cs i)) (.type "ValueError")=some true
 ke:∀ i,i < 12->mV K (cs i)
noncomputable def lE (d:Nat->Bool):List V:=[.bl (d 0),.bl (d 1),.bl (d 2),.bl (d 3),.bl (d 4),.bl (d 5),.bl (d 6),.bl (d 7),.bl (d 8),.bl (d 9),.bl (d 10),.bl (d 11)]
theorem zEV (a:j < 12):(lE d)[j]?=some (.bl (d j)):=by
 have e:lE d=(List.range 12).map λj=>V.bl (d j):=rfl
 rw [e,zMP,List.getElem?_range a];rfl
section
variable {P:Program} {w:World} {K:W.Frag} {mg:Str->Option Value} {base:Heap} {C CS CA CH CL CR:Addr}
theorem sJ:zO NJ ["_law_e"] (zG oK):=scm
noncomputable def rO (c:Nat->Addr):SpH:=λa d H Q=>∃ i,d=[.ref a]/\i < 12/\H a=some (fR (c i) a)/\∀ b,zE [] H b->Q (.str (qJ i)) b
theorem zBA (g:Kn K mg c) (G:yM K mg "_law_kinds" oK ["_law_e"]) (b:Blt mg Sd) (x:Blt mg Sc) (p:Blt mg SG) (e:Blt mg "ValueError") :
  zFH P w K mg base 1 "_law_kinds" ["_law_e"] (rO c):=by
 refine G.okH sJ (λhx vs H Q h=>by obtain ⟨i,rfl,_⟩:=h;rfl) (λf hx a4 A a1 s0 H vs Q hh h=>?_)
 obtain ⟨i,rfl,hi,U,q⟩:=h
 obtain ⟨a,ea⟩:∃ a,a=hx:=⟨_,rfl⟩
 subst ea
 refine ⟨_,(zD (zX (i:=1) sJ.nd rfl (Or.inr rfl) (yN (zA (zY (wU (D:=c 0)) b zT (zA (pv 0) (zA (vM g.g0) zB))) (zA (zY (wU (D:=c 1)) b zT (zA (pv 0) (zA (vM g.g1) zB))) (zA (zY (wU (D:=c 2)) b zT (zA (pv 0) (zA (vM g.g2) zB))) (zA (zY (wU (D:=c 3)) b zT (zA (pv 0) (zA (vM g.g3) zB))) zB))))))
   (zD (zX (i:=1) sJ.nd rfl (Or.inr rfl) (yK u9 (pv 1) (yN (zA (zY (wU (D:=c 4)) b zT (zA (pv 0) (zA (vM g.g4) zB))) (zA (zY (wU (D:=c 5)) b zT (zA (pv 0) (zA (vM g.g5) zB))) (zA (zY (wU (D:=c 6)) b zT (zA (pv 0) (zA (vM g.g6) zB))) (zA (zY (wU (D:=c 7)) b zT (zA (pv 0) (zA (vM g.g7) zB))) zB)))))))
   (zD (zX (i:=1) sJ.nd rfl (Or.inr rfl) (yK u9 (pv 1) (yN (zA (zY (wU (D:=c 8)) b zT (zA (pv 0) (zA (vM g.g8) zB))) (zA (zY (wU (D:=c 9)) b zT (zA (pv 0) (zA (vM g.g9) zB))) (zA (zY (wU (D:=c 10)) b zT (zA (pv 0) (zA (vM g.g10) zB))) (zA (zY (wU (D:=c 11)) b zT (zA (pv 0) (zA (vM g.g11) zB))) zB)))))))
   (@zD _ _ _ _ _ (@dC _ _ _ 2 _ _ _ _ sJ.nd rfl (Or.inr rfl) (Or.inl rfl) (@zHM _ _ (qZ.map V.str) (.cons .str (.cons .str (.cons .str (.cons .str (.cons .str (.cons .str (.cons .str (.cons .str (.cons .str (.cons .str (.cons .str (.cons .str .nil))))))))))))))
   (zD (gU (ax:=a) hh (i:=3) sJ.nd rfl (Or.inl rfl) (N:=NJ) (sc:=zG oK) (ix:=[2,1]) (by decide +kernel) (gW rfl p.no (zA zH zB)) (λ_ _ _ _=>(pU (y3 (zS zV (pv 2) (pv 0) (λ_ _=>rfl))))) (λ_ _ _ _=>(zS zV (pv 1) (pv 0) (λ_ _=>rfl))))
   (zD (z5 (PW.pt (rS (zQ sV (zY z8 x yS (zA (pv 3) zB)) zH (zW _)) (tP (y9 (y3 (zY (b5 (T:="ValueError")) b zT (zA (pv 0) (zA (vE e mU) zB)))))))) (zF (zL zJ)) zM)
   (zF (zL (zS zV (pv 3) zH (λ_ _=>rfl)))))))))),?_⟩
 obtain ⟨d,hd⟩:∃ d:Nat->Bool,∀ j,d j=decide (i=j):=⟨λj=>decide (i=j),λ_=>rfl⟩
 have m:∀ j,j < 12->W.kitOne K (.ref (c i)) (.ref (c j))=some (d j):=λj y=>(g.kd i j hi y).trans (congrArg some (hd j).symm)
 have l:=g.ke i hi
 refine sq λN B=>?_
 refine ⟨_,rfl,a,c i,_,rfl,U,l,m 0 (by decide),?_⟩
 refine ⟨_,rfl,a,c i,_,rfl,U,l,m 1 (by decide),?_⟩
 refine ⟨_,rfl,a,c i,_,rfl,U,l,m 2 (by decide),?_⟩
 refine ⟨_,rfl,a,c i,_,rfl,U,l,m 3 (by decide),?_⟩
 refine ⟨by show 4 <= sizeLine;decide,λp1 f1=>?_⟩
 have k1:=zE.new (S:=[]) (o:=.lst [.bl (d 0),.bl (d 1),.bl (d 2),.bl (d 3)]) f1
 have e1:upd H p1 (.lst [.bl (d 0),.bl (d 1),.bl (d 2),.bl (d 3)]) p1=some (.lst [.bl (d 0),.bl (d 1),.bl (d 2),.bl (d 3)]):=zC
 generalize upd H p1 (.lst [.bl (d 0),.bl (d 1),.bl (d 2),.bl (d 3)])=H1 at k1 e1 ⊢
 have r:=k1.z U
 refine B _ _ (sq λN B=>?_)
 refine ⟨_,rfl,?_⟩
 refine ⟨_,rfl,a,c i,_,rfl,r,l,m 4 (by decide),?_⟩
 refine ⟨_,rfl,a,c i,_,rfl,r,l,m 5 (by decide),?_⟩
 refine ⟨_,rfl,a,c i,_,rfl,r,l,m 6 (by decide),?_⟩
 refine ⟨_,rfl,a,c i,_,rfl,r,l,m 7 (by decide),?_⟩
 refine ⟨by show 4 <= sizeLine;decide,λp2 f2=>?_⟩
 have k2:=zE.new (S:=[]) (o:=.lst [.bl (d 4),.bl (d 5),.bl (d 6),.bl (d 7)]) f2
 refine ⟨p1,p2,_,_,rfl,rfl,k2.z e1,zC,by show 8 <= sizeLine;decide,λp3 f3=>?_⟩
 have k3:=k2.trans (zE.new (S:=[]) (o:=.lst ([.bl (d 0),.bl (d 1),.bl (d 2),.bl (d 3)] ++ [.bl (d 4),.bl (d 5),.bl (d 6),.bl (d 7)])) f3)
 have e3:=zC (H:=upd H1 p2 (.lst [.bl (d 4),.bl (d 5),.bl (d 6),.bl (d 7)])) (a:=p3) (o:=.lst ([.bl (d 0),.bl (d 1),.bl (d 2),.bl (d 3)] ++ [.bl (d 4),.bl (d 5),.bl (d 6),.bl (d 7)]))
 generalize upd (upd H1 p2 _) p3 _=Y at k3 e3 ⊢
 have s:=k3.z r
 refine B _ _ (sq λN B=>?_)
 refine ⟨_,rfl,?_⟩
 refine ⟨_,rfl,a,c i,_,rfl,s,l,m 8 (by decide),?_⟩
 refine ⟨_,rfl,a,c i,_,rfl,s,l,m 9 (by decide),?_⟩
 refine ⟨_,rfl,a,c i,_,rfl,s,l,m 10 (by decide),?_⟩
 refine ⟨_,rfl,a,c i,_,rfl,s,l,m 11 (by decide),?_⟩
 refine ⟨by show 4 <= sizeLine;decide,λp4 f4=>?_⟩
 have k4:=zE.new (S:=[]) (o:=.lst [.bl (d 8),.bl (d 9),.bl (d 10),.bl (d 11)]) f4
 refine ⟨p3,p4,_,_,rfl,rfl,k4.z e3,zC,by show 12 <= sizeLine;decide,λE f5=>?_⟩
 have k5:zE [] Y (upd (upd Y p4 (.lst [.bl (d 8),.bl (d 9),.bl (d 10),.bl (d 11)])) E (.lst (lE d))):=k4.trans (zE.new f5)
 have e5:=zC (H:=upd Y p4 (.lst [.bl (d 8),.bl (d 9),.bl (d 10),.bl (d 11)])) (a:=E) (o:=.lst (lE d))
 change N _ (upd (upd Y p4 (.lst [.bl (d 8),.bl (d 9),.bl (d 10),.bl (d 11)])) E (.lst (lE d)))
 generalize upd (upd Y p4 (.lst [.bl (d 8),.bl (d 9),.bl (d 10),.bl (d 11)])) E (.lst (lE d))=H5 at k5 e5 ⊢
 have a2:=k5.z s
 refine B _ _ (sq λN B=>?_)
 refine ⟨by show 12 <= sizeLine;decide,λI f6=>?_⟩
 have k6:zE [] H5 (upd H5 I (.lst (qZ.map V.str))):=zE.new f6
 have e6:=zC (H:=H5) (a:=I) (o:=.lst (qZ.map V.str))
 have J:=k6.z e5
 change N _ (upd H5 I (.lst (qZ.map V.str)))
 generalize upd H5 I (.lst (qZ.map V.str))=H6 at k6 e6 J ⊢
 have a0:=k6.z a2
 have kA:zE [] H H6:=((k1.trans k3).trans k5).trans k6
 refine B _ _ ?_
 refine ⟨12,rfl,by decide,by decide,λacc k=>?_⟩
 refine bE (n:=12) (by decide) (λj O τ L=>∃ v:Option V,τ=[v,some (.ref I),some (.ref E)]/\O=(if i < j then [V.str (qJ i)] else [])/\j <= 12/\zE [acc] H6 L/\L acc=some (.lst O)) ?_ ?_ ?_ ?_ ?_
 ·exact ⟨_,rfl,rfl,zMT _,zE.at (by simp),zC⟩
 ·rintro j O τ L ⟨v,rfl,rfl,y,t,u⟩
  refine ⟨u,?_⟩
  split
  ·show 1 <= j;omega
  ·exact zMT _
 ·rintro j O τ L y ⟨v,rfl,rfl,_,t,u⟩
  have n5:E ∉ [acc]:=by simp only [zMM];exact zI J k
  have n6:I ∉ [acc]:=by simp only [zMM];exact zI e6 k
  have ej:((0:Int) + (j:Int))=(j:Int):=by omega
  rw [ej]
  refine ⟨_,rfl,_,rfl,E,_,_,_,rfl,rfl,t _ _ n5 J,uJ (zEV y),_,rfl,?_⟩
  by_cases M:i=j
  ·refine ifT ((hd j).trans (zMY M)) ?_
   subst M
   refine ⟨_,rfl,_,rfl,I,_,_,_,rfl,rfl,t _ _ n6 e6,uJ (zCX y),u,_,rfl,?_,y,t.trans (zE.at (by simp)),zC⟩
   rw [if_neg (Nat.lt_irrefl i),if_pos (Nat.lt_succ_self i)];rfl
  ·refine ifF ((hd j).trans (zMZ M)) ⟨_,rfl,?_,y,t,u⟩
   by_cases hl:i < j
   ·rw [if_pos hl,if_pos (Nat.lt_succ_of_lt hl)]
   ·rw [if_neg hl,if_neg (by omega)]
 ·rintro O τ L ⟨v,rfl,rfl,_,t,u⟩
  exact ⟨_,(t.drop k).z a0⟩
 ·rintro O τ L ⟨v,rfl,rfl,_,t,u⟩
  rw [if_pos hi] at u
  have kB:zE [] H6 L:=t.drop k
  have a3:=kB.z a0
  refine ⟨_,rfl,_,_,rfl,.inl ⟨_,.of u,rfl⟩,rfl,_,rfl,?_⟩
  refine ifF rfl ?_
  refine ⟨_,rfl,a,c i,_,rfl,a3,l,g.kv i hi,_,rfl,?_⟩
  refine ifF rfl ?_
  refine ⟨_,rfl,acc,_,0,_,rfl,rfl,u,rfl,?_⟩
  exact q _ (kA.trans kB)
theorem yG.str {z:Str} (a:z.length <= 1000):yG K H (.str z):=⟨⟨_,.str z⟩,λs e=>by cases e;exact a⟩
theorem jV:zO [SW,SQ,"_law_way","_law_some","_law_signs","_law_at"] NK (zG zDJ):=scm
noncomputable def zJ1:Str:=" !\"#$&'()*+,-./0123456789:;<=>?@ABCDEFGHIJKLMNOPQRSTUVWXYZ[\\]^_`{|}~\n"
noncomputable def zFO (K:W.Frag):Sp:=λb H Q _=>∃ p z,b=[.ref p,.str z]/\Src H p/\yR z/\∀ x a,yG K a x->Src a p->zE [p] H a->Q x a
theorem zK1 (G:yM K mg "_law_odd" zDJ NK) (B:Cal P w K mg base CX0 2 Ss N8 tN) (d:Blt mg Sc):Cal P w K mg base CX0 3 "_law_odd" NK (zFO K):=by
 refine G.oz jV (λf aa A N s0 H vs Q E hr h=>?_)
 obtain ⟨p,z,rfl,⟨a,b,c,hp⟩,⟨O,ab⟩,q⟩:=h
 have l:z6 2 _:=hr
 have U:1 <= z.length:=by
  unfold vQ at O
  simp only [Bool.and_eq_true,decide_eq_true_eq] at O
  exact O.1.1
 have Y:z.length <= sizeLine:=by rw [sizeLine_eq];omega
 refine ⟨_,(zD (zX (i:=2) jV.nd rfl (Or.inl rfl) (zN B l (zA (pv 0) (zA zH zB))))
   (@zD _ _ _ _ _ (@dC _ _ _ 3 _ _ _ _ jV.nd rfl (Or.inl rfl) (Or.inl rfl) (@gZ _ _ _ 10 [.str "",.str Sx,.str "Gate",.str "a1",.str "a b",.str "-",.int 7,.int 0,.bl true,.bl false] (.cons .str (.cons .str (.cons .str (.cons .str (.cons .str (.cons .str (.cons .int (.cons .int (.cons .bl (.cons .bl .nil)))))))))) (zA (yN (zA zJ zB)) (zA (z9 (zA zJ (zA zJ zB))) (zA zA6 (zA zJ (zA zJ zB)))))))
   (zD (zX (i:=4) jV.nd rfl (Or.inl rfl) zJ)
   (zD (z5 (zQ y6 (pv 2) zH (zW _)) (zD (zX (i:=5) jV.nd rfl (Or.inl rfl) (zN B l (zA (pv 0) (zA (zY z8 d yS (zA (pv 1) zB)) zB))))
   (zF (zL (yK rA (yK rA (wB kF (pv 1) vG (wA (pv 5))) (zS fK (pv 4) (zN B l (zA (pv 0) (zA (zY z8 d yS (zA (pv 4) zB)) zB))) (λ_ _=>rfl))) (wB kF (pv 1) (wA (yK xV (pv 5) zH)) vG))))) zM)
   (zD (z5 (zQ y6 (pv 2) zH (zW _)) (zF (zL (wB kF (yK zD4 (pv 1) zH) vG (wA (yK xV zH (zN B l (zA (pv 0) (zA zH zB)))))))) zM)
   (zF (zL (zS zV (pv 3) (zN B l (zA (pv 0) (zA (zY z8 d yS (zA (pv 3) zB)) zB))) (λ_ _=>rfl))))))))),?_⟩
 refine ⟨_,rfl,p,a,b,c,4,rfl,hp,by decide,by decide,λac m r w0 w1=>?_⟩
 have k1:zE [p] H (upd H p (.lst [.int m,.int b,.int r])):=zE.at (by simp)
 have D:upd H p (.lst [.int m,.int b,.int r]) p=some (.lst [.int m,.int b,.int r]):=zC
 generalize upd H p (.lst [.int m,.int b,.int r])=s at k1 D ⊢
 refine ⟨by show 1 <= sizeLine;decide,λj g1=>⟨by show 2 <= sizeLine;decide,λg g2=>λk g3=>⟨by show 15 <= sizeLine;decide,λt g4=>?_⟩⟩⟩
 have kl:=zE.new (S:=[]) (o:=.lst [.str "a"]) g1
 have kt:=zE.new (S:=[]) (o:=.tup [.str "a",.str "b"]) g2
 have kd:=zE.new (S:=[]) (o:=.dK []) g3
 have o1:yF K (upd (upd (upd s j (.lst [.str "a"])) g (.tup [.str "a",.str "b"])) k (.dK [])) (.ref j) "list":=.lst (kd.z (kt.z zC))
 have o2:yF K (upd (upd (upd s j (.lst [.str "a"])) g (.tup [.str "a",.str "b"])) k (.dK [])) (.ref g) "tuple":=.tup (kd.z zC)
 have o3:yF K (upd (upd (upd s j (.lst [.str "a"])) g (.tup [.str "a",.str "b"])) k (.dK [])) (.ref k) "dict":=.dK zC
 have kk:zE [] s (upd (upd (upd s j (.lst [.str "a"])) g (.tup [.str "a",.str "b"])) k (.dK [])):=(kl.trans kt).trans kd
 generalize upd (upd (upd s j (.lst [.str "a"])) g (.tup [.str "a",.str "b"])) k (.dK [])=u at g4 o1 o2 o3 kk ⊢
 have kp:zE [] u (upd u t (.lst [.str "",.str Sx,.str "Gate",.str "a1",.str "a b",.str "-",.int 7,.int 0,.bl true,.bl false,.ref j,.ref g,.ref k,.str "gate ",.str "\n"])):=zE.new g4
 have I:upd u t (.lst [.str "",.str Sx,.str "Gate",.str "a1",.str "a b",.str "-",.int 7,.int 0,.bl true,.bl false,.ref j,.ref g,.ref k,.str "gate ",.str "\n"]) t=some (.lst [.str "",.str Sx,.str "Gate",.str "a1",.str "a b",.str "-",.int 7,.int 0,.bl true,.bl false,.ref j,.ref g,.ref k,.str "gate ",.str "\n"]):=zC
 change u6 _ _ _ _ (upd u t (.lst [.str "",.str Sx,.str "Gate",.str "a1",.str "a b",.str "-",.int 7,.int 0,.bl true,.bl false,.ref j,.ref g,.ref k,.str "gate ",.str "\n"]))
 generalize upd u t _=H3 at kp I ⊢
 have k3:zE [] s H3:=kk.trans kp
 have L:=k3.z D
 have kA:zE [p] H H3:=k1.trans (k3.mono (by simp))
 have a0:t ≠ p:=by
  intro e
  rw [e,L] at I
  cases I
 have all:∀ x ∈ ([.str "",.str Sx,.str "Gate",.str "a1",.str "a b",.str "-",.int 7,.int 0,.bl true,.bl false,.ref j,.ref g,.ref k,.str "gate ",.str "\n"]:List V),∀ M,zE [p] H3 M->j ≠ p->g ≠ p->k ≠ p->yG K M x:=by
  intro x hx M kH n1 n2 n3
  have kq:∀ {y:Addr} {T:String},yF K u (.ref y) T->y ≠ p->yF K M (.ref y) T:=λ{y T} h ne=>by
   have h3:=h.keep kp
   cases h3 with
   | lst e=>exact .lst (kH _ _ (by simp [ne]) e)
   | tup e=>exact .tup (kH _ _ (by simp [ne]) e)
   | dK e=>exact .dK (kH _ _ (by simp [ne]) e)
  simp only [List.mem_cons,zND,or_false] at hx
  rcases hx with rfl | rfl | rfl | rfl | rfl | rfl | rfl | rfl | rfl | rfl | rfl | rfl | rfl | rfl | rfl
  ·exact .str (by decide +kernel)
  ·exact .str (by decide +kernel)
  ·exact .str (by decide +kernel)
  ·exact .str (by decide +kernel)
  ·exact .str (by decide +kernel)
  ·exact .str (by decide +kernel)
  ·exact ⟨⟨_,.int _⟩,nofun⟩
  ·exact ⟨⟨_,.int _⟩,nofun⟩
  ·exact ⟨⟨_,.bl _⟩,nofun⟩
  ·exact ⟨⟨_,.bl _⟩,nofun⟩
  ·exact ⟨⟨_,kq o1 n1⟩,nofun⟩
  ·exact ⟨⟨_,kq o2 n2⟩,nofun⟩
  ·exact ⟨⟨_,kq o3 n3⟩,nofun⟩
  ·exact .str (by decide +kernel)
  ·exact .str (by decide +kernel)
 have n1:j ≠ p:=by intro e;rw [e,D] at g1;cases g1
 have n2:g ≠ p:=by
  intro e
  have:=kl.z D
  rw [e,this] at g2;cases g2
 have n3:k ≠ p:=by
  intro e
  have:=(kl.trans kt).z D
  rw [e,this] at g3;cases g3
 refine ⟨_,rfl,rfl,_,rfl,?_⟩
 refine t8 (λh1=>?_) (λh1=>?_)
 ·refine ⟨_,rfl,_,rfl,_,z.length,rfl,⟨Y,rfl⟩,p,m,b,r,_,rfl,L,by omega,by omega,λJ a2 c2 t0 g=>?_⟩
  refine ⟨_,rfl,_,rfl,_,rfl,z,rfl,Y,_,rfl,_,rfl,_,rfl,_,_,rfl,⟨?_,rfl⟩,p,a2,b,c2,_,rfl,zC,?_,?_,λn a4 c4 n0 n1=>?_⟩
  ·decide
  ·decide
  ·decide
  ·rw [tL]
   obtain ⟨ch,a3,ae⟩:=uU (xs:=zJ1.cps.toList) n0 n1
   have e1:=Txt.slice_le z none (some J)
   have e2:=Txt.slice_le z (some (J + 1)) none
   refine ⟨_,_,ch,rfl,rfl,by decide,a3,_,_,rfl,rfl,?_,_,rfl,_,rfl,_,_,rfl,rfl,_,rfl,z,rfl,Y,_,_,rfl,rfl,?_,?_⟩
   ·rw [sizeLine_eq]
    show _ + 1 <= _
    omega
   ·rw [pY,sizeLine_eq]
    show _ + 1 + _ <= _
    omega
   ·refine q _ _ (.str ?_) ⟨_,_,_,zC⟩ (kA.trans (zE.at (by simp)))
    rw [pY,pY]
    show _ + 1 + _ <= _
    omega
 ·refine ⟨_,rfl,rfl,_,rfl,?_⟩
  refine t8 (λh2=>?_) (λh2=>?_)
  ·refine ⟨_,rfl,z,9,rfl,rfl,by decide,U,by show z.length * 9 <= 100000;omega,?_⟩
   refine ⟨_,rfl,p,m,b,r,3,rfl,L,by decide,by decide,λv a2 c2 v0 v1=>⟨_,_,rfl,rfl,_,rfl,_,rfl,?_,?_⟩⟩
   ·rw [oO,sizeLine_eq]
    show 9 * z.length <= _
    omega
   ·have e0:=cI (zAS z 9) (9 + v) (by omega)
    have e1:=oO z 9
    have e2:(9:Int).toNat * z.length=9 * z.length:=rfl
    refine q _ _ (.str ?_) ⟨_,_,_,zC⟩ (kA.trans (zE.at (by simp)))
    omega
  ·refine ⟨_,rfl,_,rfl,_,rfl,_,_,rfl,.inl ⟨_,.of I,rfl⟩,p,m,b,r,_,rfl,L,by show (0:Int) < 15;decide,by show (15:Int) < 4611686018427387904;decide,λv a2 c2 v0 v1=>?_⟩
   obtain ⟨x,a5,a6⟩:=uU (xs:=([.str "",.str Sx,.str "Gate",.str "a1",.str "a b",.str "-",.int 7,.int 0,.bl true,.bl false,.ref j,.ref g,.ref k,.str "gate ",.str "\n"]:List V)) v0 v1
   refine ⟨t,_,_,x,rfl,rfl,by rw [zK a0];exact I,a5,?_⟩
   exact q x _ (all x (zMN a6) _ (zE.at (by simp)) n1 n2 n3) ⟨_,_,_,zC⟩ (kA.trans (zE.at (by simp)))
end
noncomputable abbrev eZ:Stmt:=top 55
noncomputable abbrev zDP:Stmt:=top 56
theorem Why.lt {ss:List SS} {a:List Str} {e:DR} {i:Nat} (h:Why ss a e (some i)):i < 12:=by cases h <;> decide
noncomputable def zMB (i:Nat):List V:=[.str "refused",.str (qJ i)]
noncomputable def zFB (r:Addr):List V:=[.str "told",.ref r]
section
variable {P:Program} {w:World} {K:W.Frag} {mg:Str->Option Value} {base:Heap} {C CS:Addr}
theorem oI:zO ["_law_house",SR,T6,"_law_e"] Nc (zG eZ):=scm
theorem zF0:zO [Sw,SE,SR,"_law_bad"] N7 (zG zDP):=scm
noncomputable def a8 (K:W.Frag) (C CS:Addr):Sp:=λg H Q _=>∃ B p q nm c f b k e,g=[.ref p,.ref q]/\z7 B C CS H p nm c f b/\uH k b/\k <= 60/\b.length <= 100/\(∀ z ∈ c,yR z)/\H q=some (.tup (drV e))/\DPl K H e /\
 ((∃ i,Why b c e (some i)/\∀ t a,a t=some (.tup (zMB i))->zE [] H a->Q (.ref t) a) \/
 ∃ h i s d,drV e=hdV h/\AtR c b h i s d/\∀ t r x a,a t=some (.tup (zFB r))->f[i]?=some x->z7 B C CS a p nm c f (b.set i (yC (xG s d)).1)->Rows a r ((yC (xG s d)).2.map (oY i))->H r=none->zE [x.1,x.2] H a->Q (.ref t) a)
theorem zH9 (G:yM K mg "_law_asked" eZ Nc) (CP:Cal P w K mg base CX0 6 SK Nc (zJL C CS)) (n:Cal P w K mg base (CXE P w) 6 SK Nc (zFN K C CS c)) (O:zFH P w K mg base 1 "_law_kinds" ["_law_e"] (rO c))
  (T:mg "TreeError"=some (.ref DC)) (hx:∀ i,i < 12->W.exmOne K (.ref (c i)) (.ref DC)=some true):Cal P w K mg base CX0 7 "_law_asked" Nc (a8 K C CS):=by
 refine G.oz oI (λf a0 A o s0 H vs Q E U h=>?_)
 have g:z6 6 _:=U
 have j:z6 1 _:=U.mono (by decide)
 have l:(2:Nat) <= sizeLine:=by decide
 obtain ⟨B,p,q,nm,Y,xs,ss,k,e,rfl,hh,I,hk,m,t,v,pl,⟨i,y,bad⟩ | ⟨h,i,s,d,eh,a,good⟩⟩:=h
 ·refine ⟨_,(zD (zAZ (i:=3) (th:=λa=>cG (zC0 (vD (tC (.str "refused")) (vD (gF a (rO c) (vD (tM 3) t7)) t7)))) T oI.nd rfl rfl (λb z E1 hp=>zF (zX (i:=2) oI.nd rfl (Or.inl rfl) (rY n hp g (zA (pv 0) (zA (pv 1) zB))))) (λb a=>zF (zL (z9 (zA zJ (zA (dF O (j.toH (some (.ref a))) rfl (zA (pv 3) zB)) zB)))))) wL),?_⟩
  refine ⟨_,rfl,_,rfl,B,p,nm,Y,xs,ss,k,q,e,i,rfl,hh,I,hk,t,v,pl,y,λD J=>⟨c i,rfl,hx i y.lt,λa a1 hl ha=>⟨.ref a,?_,i,rfl,y.lt,zC,λH3 k3=>⟨l,λu L=>?_⟩⟩⟩⟩
  ·rw [zNG (by rw [hl];show 3 < 4;decide)]
  ·exact bad u _ zC (((J.trans (zE.new (S:=[]) ha)).trans k3).trans (zE.new L))
 ·refine ⟨_,(zD (zAZ (i:=3) (th:=λa=>cG (zC0 (vD (tC (.str "refused")) (vD (gF a (rO c) (vD (tM 3) t7)) t7)))) T oI.nd rfl rfl (λb z E1 hp=>zF (zX (i:=2) oI.nd rfl (Or.inl rfl) (zN CP g (zA (pv 0) (zA (pv 1) zB))))) (λb a=>zF (zL (z9 (zA zJ (zA (dF O (j.toH (some (.ref a))) rfl (zA (pv 3) zB)) zB)))))) (zF (zL (z9 (zA zJ (zA (pv 2) zB)))))),?_⟩
  rw [eh] at v
  refine ⟨_,rfl,_,rfl,B,p,q,nm,Y,xs,ss,k,h,i,s,d,rfl,hh,I,hk,m,v,a,λr x D ex M R1 n1 J=>⟨_,rfl,l,λu L=>?_⟩⟩
  have N:zE [] D (upd D u (.tup (zFB r))):=zE.new L
  exact good u r x _ zC ex (M.on N) (R1.keep N) n1 (J.trans (N.mono (by simp)))
noncomputable def zFX (K:W.Frag):Sp:=λg H Q _=>∃ Y st nl q c b f k e,g=[.ref st,.ref nl,.ref q]/\wO Y H st c b/\uH k b/\k <= 60/\b.length <= 100/\b ≠ []/\H nl=some (.lst (f.map V.str))/\H q=some (.tup (drV e))/\DPl K H e /\
 ∀ o,Why b f e o->(∀ i,o=some i->∀ t a,a t=some (.tup (zMB i))->zE [] H a->Q (.ref t) a) /\
 (o=none->∀ h i s d,drV e=hdV h->AtR f b h i s d->∀ t r y a,a t=some (.tup (zFB r))->c[i]?=some y->wO Y a st c (b.set i (yC (xG s d)).1)->Rows a r ((yC (xG s d)).2.map (oY i))->H r=none->zE [y.1,y.2] H a->Q (.ref t) a)
theorem zLF (G:yM K mg "_law_due" zDP N7) (m:Cal P w K mg base CX0 3 "_law_why" N7 (zJC K)) (n:Cal P w K mg base CX0 3 "_law_done" Nm zJU):Cal P w K mg base CX0 4 "_law_due" N7 (zFX K):=by
 refine G.oz zF0 (λf U A p s0 H vs Q E hr h=>?_)
 obtain ⟨Y,st,nl,q,B,D,J,k,e,rfl,L,I,hk,b,ne,t,M,pl,fin⟩:=h
 have c:z6 3 _:=hr
 have g:(2:Nat) <= sizeLine:=by decide
 refine ⟨_,(zD (zX (i:=3) zF0.nd rfl (Or.inl rfl) (zN m c (zA (pv 0) (zA (pv 1) (zA (pv 2) zB)))))
   (zD (z5 (zQ vO (pv 3) yV (zW _)) (zF (zL (z9 (zA zJ (zA (pv 3) zB))))) zM)
   (zF (zL (z9 (zA zJ (zA (zN n c (zA (pv 0) (zA (pv 2) zB))) zB))))))),?_⟩
 refine ⟨_,rfl,_,rfl,_,rfl,J,Y,st,nl,q,B,D,e,rfl,L,b,ne,t,M,pl,λo H1 N j=>⟨_,rfl,rfl,_,rfl,?_⟩⟩
 obtain ⟨bad,good⟩:=fin o N
 cases o with
 | some i=>exact ifT rfl ⟨_,rfl,g,λu v=>bad i rfl u _ zC (j.trans (zE.new v))⟩
 | none=>
  cases N with
  | no _ h i s d O a=>
  have l:=j.z M
  rw [O] at l
  refine ifF rfl ⟨_,rfl,_,rfl,Y,st,q,B,D,k,J,h,i,s,d,rfl,L.on j,I,hk,b,l,a,λr y T ey S2 R2 n2 k2=>⟨g,λu v=>?_⟩⟩
  have x:zE [] T (upd T u (.tup (zFB r))):=zE.new v
  exact good rfl h i s d O a u r y _ zC ey (S2.on x) (R2.keep x) (j.none (by simp) n2) (((j.mono (by simp)).trans k2).trans (x.mono (by simp)))
end
noncomputable abbrev sAD:Stmt:=top 57
noncomputable abbrev sDr:Stmt:=top 58
inductive NS:Expr->Prop
 | lst {es p}:NS (.List es p)
 | tup {es x p}:NS (.Tuple es x p)
 | nm {x p}:NS (.Name x p)
 | un {o e p}:NS (.UnaryOp o e p)
 | bin {a o b p}:NS (.BinOp a o b p)
 | con {c j p}:NS (.Constant c j p)
theorem oW (n:NS e) (h:PE X e a) (b:PA X c t):PA X (e :: c) (vD a t):=by
 cases n <;> exact zA h b
theorem j9 (p:yF K H x T) (k:zE S H d) (h:∀ b ∈ S,H b=none \/ ((∃ ys,H b=some (.lst ys))/\∃ ys,d b=some (.lst ys))):yF K d x T:=by
 cases p with
 | non=>exact .non
 | bl b=>exact .bl b
 | int i=>exact .int i
 | str z=>exact .str z
 | @lst a f e=>
  by_cases c:a ∈ S
  ·rcases h a c with z | ⟨_,ys,z⟩
   ·rw [z] at e;cases e
   ·exact .lst z
  ·exact .lst (k _ _ c e)
 | @tup a f e=>
  refine .tup (k _ _ (λc=>?_) e)
  rcases h a c with z | ⟨⟨ys,z⟩,_⟩ <;> rw [z] at e <;> cases e
 | @dK a g e=>
  refine .dK (k _ _ (λc=>?_) e)
  rcases h a c with z | ⟨⟨ys,z⟩,_⟩ <;> rw [z] at e <;> cases e
theorem yG.src (h:yG K H x) (k:zE [p] H a) (s:Src H p) (s':Src a p):yG K a x:=⟨let ⟨T,t⟩:=h.1;⟨T,j9 t k λb c=>by
 rw [zMM.mp c]
 obtain ⟨_,_,_,e⟩:=s
 obtain ⟨_,_,_,d⟩:=s'
 exact .inr ⟨⟨_,e⟩,_,d⟩⟩,h.2⟩
theorem wW {σ:St} {E0:XK} (f:σ[i]?=some (some (.ref p))) (s:Src H p) (g:0 < m) (h:m < 4611686018427387904) (j:∀ R,R (.int m) H->t σ H R) (q:∀ v d,0 <= v->v < m->Src d p->zE [p] H d->Q (.int v) d):mY tN [] E0 (vD (tM i) (vD t t7)) σ H Q:=by
 obtain ⟨a,b,c,e⟩:=s
 exact ⟨_,f,j _ ⟨p,a,b,c,m,rfl,e,g,h,λv _ _ v0 v1=>q v _ v0 v1 ⟨_,_,_,zC⟩ (zE.at (by simp))⟩⟩
theorem rW {σ:St} {E0:XK} {G:V->Prop} (s:Src H p) (r:0 < m) (I:m <= 1000) (t:σ[i]?=some (some (.ref p))) (u:∀ R,(∀ l xs d,zE [] H d->d l=some (.lst xs)->H l=none->(xs.length:Int)=m->(∀ x ∈ xs,yG K d x/\G x)->R (.ref l) d)->w σ H R)
  (q:∀ x d,G x->yG K d x->Src d p->zE [p] H d->Q x d):tOp gT w (mY tN [] E0 (vD (tM i) (vD (tC (.int m)) t7))) σ H Q:=by
 refine u _ λl xs J k y z A B=>?_
 have n:=s.on k
 obtain ⟨a,b,c,e⟩:=id s
 refine wW t n r (by omega) (λ_ h=>h) λv C v0 v1 o f=>?_
 rw [<- A] at v1
 obtain ⟨x,g,j⟩:=uU v0 v1
 obtain ⟨D,E⟩:=B x (zMN j)
 exact ⟨l,xs,v,x,rfl,rfl,f _ _ (by simp [Ne.symm (zI e z)]) y,g,q x C E (D.src f n o) o ((k.mono (by simp)).trans f)⟩
theorem cut3 (k:Bool) (b:H t=some (.tup [a,x,r])) (q:∀ u c,c u=some (.tup (if k=true then [a,x,r] else [a,x]))->zE [] H c->Q (.ref u) c):cQ K (.ref t) none (some (2 + (if k=true then 1 else 0))) H Q:=by
 cases k
 ·exact ⟨t,_,rfl,.of b,.inr ⟨by show ¬ ((0:Nat)=0/\(2:Nat)=3);decide,λp d=>q p _ zC (zE.new d)⟩⟩
 ·exact ⟨t,_,rfl,.of b,.inl ⟨rfl,rfl,q t H b (zE.refl _)⟩⟩
theorem P1i (i:Int):yG K H (.int i):=⟨⟨_,.int i⟩,nofun⟩
theorem P1b (b:Bool):yG K H (.bl b):=⟨⟨_,.bl b⟩,nofun⟩
theorem P1n:yG K H .non:=⟨⟨_,.non⟩,nofun⟩
theorem P1l (e:H a=some (.lst xs)):yG K H (.ref a):=⟨⟨_,.lst e⟩,nofun⟩
theorem P1t (e:H a=some (.tup xs)):yG K H (.ref a):=⟨⟨_,.tup e⟩,nofun⟩
noncomputable def DR.nm:DR->V
 | .leave x=>x
 | .done x=>x
 | .want x _=>x
 | .ask x _=>x
 | .come x _ _=>x
theorem P1z {z:Str} (g:yR z):yG K H (.str z):=.str (by have:=g.2;omega)
theorem zLY (c:rK s) (b:∀ z ∈ f,yR z) (a:AtR f ss h i s d):∃ e,drV e=hdV h/\DPl K H e:=by
 cases a with
 | any _ _ g _=>exact ⟨.want _ _,rfl,P1z g,P1n⟩
 | want _ g _=>exact ⟨.want _ _,rfl,P1z g,P1i _⟩
 | leave _ m=>exact ⟨.leave _,rfl,P1z (c.r _ m).2⟩
 | done _ m=>exact ⟨.done _,rfl,P1z (c.h _ m)⟩
 | ask _ _ g _ _=>exact ⟨.ask _ _,rfl,P1z g,P1i _⟩
 | come _ m _=>exact ⟨.come _ _ _,rfl,P1z (b _ m),P1i _,P1b _⟩
noncomputable def gC:List V:=[.str S8,.str NZ,.str S3,.str NX,.str NW]
section
variable {P:Program} {w:World} {K:W.Frag} {mg:Str->Option Value} {base:Heap} {C CS:Addr}
theorem kJ:zO [SW,"_law_names_here","_law_many","_law_way",Td,SQ,"_law_right","_law_back"] Ny (zG sAD):=scm
theorem zAG:zO [SW,Sw,"_law_askers",SE,"_law_names_here","_law_way","_law_asker",Td,"_law_deeds"] Nb (zG sDr):=scm
noncomputable def zJ0 (K:W.Frag):Sp:=λc H Q _=>∃ p nl b n,c=[.ref p,.ref nl,.int (n:Nat)]/\Src H p/\H nl=some (.lst (b.map V.str))/\(∀ z ∈ b,yR z)/\b ≠ []/\b.length <= 40/\0 < n/\n <= 100/\∀ t e a,a t=some (.tup (drV e))->DPl K a e->Src a p->zE [p] H a->Q (.ref t) a
theorem okAD (G:yM K mg Tc sAD Ny) (D:Cal P w K mg base CX0 2 Ss N8 tN) (CO:Cal P w K mg base CX0 3 "_law_odd" NK (zFO K)) (I:Blt mg Sc) (J:Blt mg "int"):Cal P w K mg base CX0 4 Tc Ny (zJ0 K):=by
 refine G.oz kJ (λf ae A a6 s0 H vs Q E hr h=>?_)
 obtain ⟨p,nl,zs,mn,rfl,s,L,gz,nz,lz,n0,n1,q⟩:=h
 have aa:z6 3 _:=hr
 have d:z6 2 _:=hr.mono (by decide)
 have a0:nl ≠ p:=by
  rintro rfl
  obtain ⟨_,_,_,e⟩:=s
  rw [L] at e
  cases zs <;> simp at e
 refine ⟨_,(zD (zX (i:=3) kJ.nd rfl (Or.inl rfl) (zN D d (zA (pv 0) (zA zH zB))))
   (zD (zX (i:=4) kJ.nd rfl (Or.inl rfl) (zS zV (yN (zA zJ (zA zJ (zA zJ (zA zJ (zA zJ zB)))))) (zN D d (zA (pv 0) (zA zH zB))) (λ_ _=>rfl)))
   (zD (zX (i:=5) kJ.nd rfl (Or.inl rfl) (zS zV (pv 1) (zN D d (zA (pv 0) (zA (zY z8 I yS (zA (pv 1) zB)) zB))) (λ_ _=>rfl)))
   (zD (zX (i:=6) kJ.nd rfl (Or.inl rfl) (zN D d (zA (pv 0) (zA (pv 2) zB))))
   (zD (zX (i:=7) kJ.nd rfl (Or.inl rfl) (xC y6 (zN D d (zA (pv 0) (zA zH zB))) zH (zW _)))
   (zD (z5 (zQ y6 (pv 3) zH (zW _)) (zF (zX (i:=5) kJ.nd rfl (Or.inl rfl) (zN CO aa (zA (pv 0) (zA (pv 5) zB))))) zM)
   (zD (z5 (zQ y6 (pv 3) zH (zW _)) (zF (zX (i:=6) kJ.nd rfl (Or.inl rfl) (zS zV (yN (oW .nm (pv 2) (oW .un (zF8 aC zH) (@gZ _ _ _ 4 [.bl true,.bl false,.non,.str "0"] (.cons .bl (.cons .bl (.cons .non (.cons .str .nil)))) (oW .tup (z9 (zA zH zB)) (oW .bin (yK zHQ zH zH) zB)))))) (zN D d (zA (pv 0) (zA zH zB))) (λ_ _=>rfl)))) zM)
   (@zD _ _ _ _ _ (@z5 _ _ _ _ _ _ _ _ (zQ y6 (pv 3) zH (zW _)) (@zF _ _ _ (@zX _ _ 7 _ _ _ _ kJ.nd rfl (Or.inl rfl) (@zS _ _ _ _ _ _ _ zV (@yN _ _ _ _ (@gZ _ _ _ 5 [.int 0,.int 1,.non,.str "",.str "True"] (.cons .int (.cons .int (.cons .non (.cons .str (.cons .str .nil))))) (@oW _ _ _ _ _ .lst (yN zB) (@oW _ _ _ _ _ .con zH (@oW _ _ _ _ _ .tup (z9 (zA wH zB)) zB))))) (zN D d (zA (pv 0) (zA zH zB))) (λ_ _=>rfl)) rfl (Or.inl rfl))) zM)
   (zD (z5 (zQ y6 (pv 4) zJ (zW _)) (zF (zL (z9 (zA (pv 4) (zA (pv 5) (zA (pv 6) (zA (pv 7) zB))))))) zM)
   (zF (zL (wB rP (z9 (zA (pv 4) (zA (pv 5) (zA (pv 6) zB)))) vG (wA (yK xV zH (xE uK rfl J.no tX (zA (xC sL (pv 4) (z9 (zA zJ (zA zJ zB))) (by with_unfolding_all rfl)) zB)))))))))))))))),?_⟩
 refine sq λn a=>?_
 refine wW rfl s (by decide) (by decide) (λ_ h=>h) λw H1 w0 w1 s1 k1=>?_
 refine a _ _ (sq λn a=>?_)
 refine rW (K:=K) (G:=(· ∈ gC)) s1 (by decide) (by decide) rfl (λR h=>⟨by decide,λl k=>h l _ _ (zE.new k) zC k rfl λx hx=>⟨?_,hx⟩⟩) λwd H2 B _ s2 k2=>?_
 ·simp only [List.mem_cons,zND,or_false] at hx
  rcases hx with rfl | rfl | rfl | rfl | rfl <;> exact .str (by decide +kernel)
 have a1:=k1.trans k2
 refine a _ _ (sq λn a=>?_)
 refine ⟨_,rfl,wW rfl s2 (m:=(zs.map V.str).length) (by rw [zMJ];have:=zM9.mpr nz;omega) (by rw [zMJ];omega) (λ_ h=>⟨_,rfl,_,_,rfl,.inl ⟨_,.of (a1 _ _ (by simp [a0]) L),rfl⟩,h⟩) λv H3 v0 v1 s3 k3=>?_⟩
 have a2:=a1.trans k3
 obtain ⟨x,ab,ac⟩:=uU v0 v1
 obtain ⟨z,hz,rfl⟩:=gm ac
 have a3:=gz z (zMN hz)
 refine ⟨nl,_,v,_,rfl,rfl,a2 _ _ (by simp [a0]) L,ab,?_⟩
 refine a _ _ (sq λn a=>?_)
 refine wW rfl s3  (by omega) (by omega) (λ_ h=>⟨_,rfl,h⟩) λr H4 _ _ s4 k4=>?_
 refine a _ _ (sq λn a=>?_)
 refine wW rfl s4 (by decide) (by decide) (λ_ h=>h) λb H5 _ _ s5 k5=>⟨rfl,?_⟩
 have a4:=(a2.trans k4).trans k5
 refine a _ _ ?_
 obtain ⟨M,N⟩:∃ M:St->Hp->Prop,∀ σ Y,M σ Y ↔ ∃ x r b,σ=[some (.ref p),some (.ref nl),some (.int (mn:Nat)),some (.int w),some wd,some x,some r,some b]/\yG K Y x/\yG K Y r/\yG K Y b/\Src Y p/\zE [p] H Y:=⟨_,λ_ _=>Iff.rfl⟩
 obtain ⟨g,rfl,hw⟩:∃ g:Str,wd=.str g/\(g=S8 \/ g=NZ \/ g=S3 \/ g=NX \/ g=NW):=by
  have B:wd ∈ gC:=B
  simp only [gC,List.mem_cons,zND,or_false] at B
  rcases B with rfl | rfl | rfl | rfl | rfl <;> exact ⟨_,rfl,by simp⟩
 refine gN M (λσ H6 O=>?_) λnx a=>?_
 ·obtain ⟨x,r,b,rfl,j,pr,pb,s6,k6⟩:=(N _ _).mp O
  refine gN M (λσ H7 O=>?_) λnx a=>?_
  ·obtain ⟨x,r,b,rfl,j,pr,pb,T,k7⟩:=(N _ _).mp O
   refine gN M (λσ H8 O=>?_) λnx a=>?_
   ·obtain ⟨x,r,b,rfl,j,pr,pb,s8,k8⟩:=(N _ _).mp O
    refine ⟨_,rfl,rfl,_,rfl,t8 (λhc=>?_) λhc=>?_⟩
    ·refine ⟨_,rfl,_,rfl,_,rfl,_,rfl,by show 4 <= sizeLine;decide,λt U=>?_⟩
     cases of_decide_eq_true hc
     exact q t (.come x r b) _ zC ⟨j.on (zE.new U),pr.on (zE.new U),pb.on (zE.new U)⟩ (s8.on (zE.new U)) (k8.trans ((zE.new (S:=[]) U).mono (by simp)))
    ·refine ⟨_,rfl,_,rfl,_,rfl,by show 3 <= sizeLine;decide,λt U=>⟨_,rfl,by show 2 <= sizeLine;decide,λtp a5=>⟨tp,_,rfl,.inr (.of zC),rfl,rfl,.inr ⟨_,rfl,_,_,rfl,rfl,_,rfl,cut3 (K:=K) (inV (.str g) [.str S8,.str NX]) ((zE.new (S:=[]) a5).z zC) λu H9 hu k9=>?_⟩⟩⟩⟩
     have c:=((zE.new (S:=[]) U).trans (zE.new a5)).trans k9
     have fin:∀ e,drV e=(if inV (.str g) [.str S8,.str NX]=true then [.str g,x,r] else [.str g,x])->DPl K H9 e->Q (.ref u) H9:=λe he pl=>q u e _ (by rw [he];exact hu) pl (s8.on c) (k8.trans (c.mono (by simp)))
     rcases hw with rfl | rfl | rfl | rfl | rfl
     ·exact fin (.want x r) (if_pos (by decide +kernel)).symm ⟨j.on c,pr.on c⟩
     ·exact fin (.leave x) (if_neg (by decide +kernel)).symm (j.on c)
     ·exact fin (.done x) (if_neg (by decide +kernel)).symm (j.on c)
     ·exact fin (.ask x r) (if_pos (by decide +kernel)).symm ⟨j.on c,pr.on c⟩
     ·exact absurd (zMY rfl) hc
   ·refine ⟨_,rfl,rfl,_,rfl,t8 (λ_=>?_) λ_=>a _ _ O⟩
    refine rW (K:=K) (G:=λ_=>True) T (by decide) (by decide) rfl (λR h=>⟨zMT _,λl1 g1=>⟨by show 1 <= sizeLine;decide,λt1 g2=>⟨by show 8 <= sizeLine;decide,λl k=>h l _ _ (((zE.new g1).trans (zE.new g2)).trans (zE.new k)) zC (zU (zU k).1).1 rfl λy hy=>⟨?_,trivial⟩⟩⟩⟩) λy H8 _ py s8 k8=>?_
    ·have kl:=zE.new (S:=[]) (o:=.lst [.int 0,.int 1,.non,.str "",.str "True",.ref l1,.int 2,.ref t1]) k
     simp only [List.mem_cons,zND,or_false,zM0] at hy
     rcases hy with (rfl | rfl | rfl | rfl | rfl) | rfl | rfl | rfl
     ·exact P1i _
     ·exact P1i _
     ·exact P1n
     ·exact .str (by decide +kernel)
     ·exact .str (by decide +kernel)
     ·exact P1l (kl.z ((zE.new (S:=[]) g2).z zC))
     ·exact P1i _
     ·exact P1t (kl.z zC)
    ·exact a _ _ ((N _ _).mpr ⟨x,r,y,rfl,j.src k8 T s8,pr.src k8 T s8,py,s8,k7.trans k8⟩)
  ·refine ⟨_,rfl,rfl,_,rfl,t8 (λ_=>?_) λ_=>a _ _ O⟩
   refine rW (K:=K) (G:=λ_=>True) s6 (by decide) (by decide) rfl (λR h=>⟨_,rfl,_,rfl,by show 1 <= sizeLine;decide,λt1 g1=>⟨_,_,rfl,rfl,⟨by decide,by decide,by decide⟩,by show 8 <= sizeLine;decide,λl k=>h l _ _ ((zE.new g1).trans (zE.new k)) zC (zU k).1 rfl λy hy=>⟨?_,trivial⟩⟩⟩) λy H7 _ py T k7=>?_
   ·simp only [List.mem_cons,zND,or_false,zM0] at hy
    rcases hy with rfl | rfl | (rfl | rfl | rfl | rfl) | rfl | rfl
    ·exact P1i _
    ·exact P1i _
    ·exact P1b _
    ·exact P1b _
    ·exact P1n
    ·exact .str (by decide +kernel)
    ·exact P1t ((zE.new (S:=[]) k).z zC)
    ·exact P1i _
   ·exact a _ _ ((N _ _).mpr ⟨x,y,b,rfl,j.src k7 s6 T,py,pb.src k7 s6 T,T,k6.trans k7⟩)
 ·refine ⟨_,rfl,rfl,_,rfl,t8 (λ_=>?_) λ_=>?_⟩
  ·exact ⟨_,rfl,_,rfl,p,z,rfl,s5,a3,λx H6 j s6 k6=>a _ _ ((N _ _).mpr ⟨x,_,_,rfl,j,P1i _,P1b _,s6,a4.trans k6⟩)⟩
  ·exact a _ _ ((N _ _).mpr ⟨_,_,_,rfl,.str (by have:=a3.2;omega),P1i _,P1b _,s5,a4⟩)
noncomputable def zJT (K:W.Frag):Sp:=λi H Q _=>∃ (p:Addr) (Y:Addr->Prop) (st g nl h:Addr) (j:List (Addr × Addr)) (a:List SS) (k:Nat) (as f b:List Str),i=[.ref p,.ref st,.ref g,.ref nl,.ref h]/\Src H p/\wO Y H st j a/\¬ Y p/\uH k a/\a ≠ []/\a.length <= 10/\H g=some (.lst (as.map V.str))/\H nl=some (.lst (f.map V.str))/\H h=some (.lst (b.map V.str))/\(∀ z ∈ as,yR z)/\(∀ z ∈ f,yR z)/\(∀ z ∈ b,yR z)/\as ≠ []/\as.length <= 20/\f.length <= 20/\b ≠ []/\b.length <= 40 /\
 ∀ l c x d,Rows d l (c.map drV)->c ≠ []->c.length <= 3->(∀ e ∈ c,DPl K d e/\e.nm=x)->H l=none->zE [p] H d->Q (.ref l) d
theorem okDr (G:yM K mg "_law_drawn" sDr Nb) (CN:Cal P w K mg base CX0 2 Ss N8 tN) (aa:Cal P w K mg base CX0 4 Tc Ny (zJ0 K)) (CG:Cal P w K mg base CX0 2 SY Nt zJS) (c:Blt mg Sc):Cal P w K mg base CX0 5 "_law_drawn" Nb (zJT K):=by
 refine G.oz zAG (λf az A ab s0 H vs Q E hr h=>?_)
 obtain ⟨p,Y,st,al,nl,hl,ys,ss,k,as,nb,zs,rfl,s,hS,yp,I,ne,ac,N,a0,a1,a2,a3,gz,a4,ae,af,nz,lz,q⟩:=h
 have ag:z6 4 _:=hr
 have r:z6 2 _:=hr.mono (by decide)
 have ah:=zM9.mpr ne
 have J:∀ {a:Addr} {xs:List Str},H a=some (.lst (xs.map V.str))->a ≠ p:=by
  rintro a xs h rfl
  obtain ⟨_,_,_,e⟩:=s
  rw [h] at e
  cases xs <;> simp at e
 have one:(1:Nat) <= sizeLine:=by decide
 refine ⟨_,(zD (zX (i:=5) zAG.nd rfl (Or.inl rfl) (zN CN r (zA (pv 0) (zA zH zB))))
   (zD (z5 (zQ iD (pv 5) zH (zW _)) (zF (zL (yN (zA (zN aa ag (zA (pv 0) (zA (pv 4) (zA (zY z8 c yS (zA (pv 1) zB)) zB)))) zB)))) zM)
   (zD (z5 (zQ y6 (pv 5) zH (zW _)) (zD (zX (i:=6) zAG.nd rfl (Or.inl rfl) (zS zV (pv 2) (zN CN r (zA (pv 0) (zA (zY z8 c yS (zA (pv 2) zB)) zB))) (λ_ _=>rfl)))
   (zD (zX (i:=7) zAG.nd rfl (Or.inl rfl) (zS zV (yN (zA zJ (zA zJ zB))) (zN CN r (zA (pv 0) (zA zH zB))) (λ_ _=>rfl)))
   (zF (zL (yN (zA (z9 (zA zJ (zA (pv 6) (zA yV zB)))) (zA (z9 (zA (pv 7) (zA (pv 6) zB))) (zA (z9 (zA zJ (zA (pv 6) (zA yV zB)))) zB)))))))) zM)
   (zD (zX (i:=8) zAG.nd rfl (Or.inl rfl) (zN CG r (zA (pv 1) (zA (pv 2) (zA (pv 3) zB)))))
   (zF (zL (yN (zA (zS zV (pv 8) (zN CN r (zA (pv 0) (zA (zY z8 c yS (zA (pv 8) zB)) zB))) (λ_ _=>rfl)) zB)))))))),?_⟩
 refine sq λn hn=>?_
 refine wW rfl s (by decide) (by decide) (λ_ h=>h) λv H1 _ _ s1 O=>?_
 have a5:=hS.keep O (λb hb=>by rw [zMM.mp hb];obtain ⟨_,_,_,e⟩:=s;exact ⟨yp,λxs h=>by rw [h] at e;cases e⟩)
 have B:=O _ _ (by simp [J N]) N
 obtain ⟨ai,_,_,ly,_⟩:=id a5
 refine hn _ _ ?_
 refine ⟨_,rfl,_,_,rfl,rfl,_,rfl,t8 (λ_=>?_) λ_=>?_⟩
 ·refine ⟨_,rfl,_,rfl,_,rfl,_,_,rfl,.inl ⟨_,.of ai,rfl⟩,p,hl,zs,ss.length,by rw [zMJ,ly];rfl,s1,O _ _ (by simp [J a1]) a1,gz,nz,lz,ah,by omega,λt e H2 et pl U T=>⟨one,λl g=>?_⟩⟩
  have kg:=zE.new (S:=[]) (o:=.lst [.ref t]) g
  have L:=O.trans T
  obtain ⟨_,_,_,es⟩:=U
  exact q l [e] e.nm _ ⟨[t],zC,.cons (kg.z et) .nil⟩ (by simp) (by simp) (λe' h=>by rw [zMM.mp h];exact ⟨pl.on kg,rfl⟩) (L.none (by simp [(zI es g).symm]) g) (L.trans (kg.mono (by simp)))
 refine ⟨_,rfl,rfl,_,rfl,t8 (λ_=>?_) λ_=>?_⟩
 ·refine sq λn hn=>?_
  refine ⟨_,rfl,wW rfl s1 (m:=(as.map V.str).length) (by rw [zMJ];have:=zM9.mpr a4;omega) (by rw [zMJ];omega) (λ_ h=>⟨_,rfl,_,_,rfl,.inl ⟨_,.of B,rfl⟩,h⟩) λv H2 v0 v1 U T=>?_⟩
  have L:=O.trans T
  obtain ⟨x,aj,ak⟩:=uU v0 v1
  obtain ⟨z,hz,rfl⟩:=gm ak
  have M:=a2 z (zMN hz)
  refine ⟨al,_,v,_,rfl,rfl,T _ _ (by simp [J N]) B,aj,?_⟩
  refine hn _ _ (sq λn hn=>?_)
  refine rW (K:=K) (G:=λy=>∃ e:DR,drV e=[y,.str z]/\e.nm=.str z/\∀ H,DPl K H e) U (by decide) (by decide) rfl (λR h=>⟨by decide,λl g=>h l _ _ (zE.new g) zC g rfl λy hy=>?_⟩) λy H3 gy _ s3 k3=>?_
  ·simp only [List.mem_cons,zND,or_false] at hy
   rcases hy with rfl | rfl
   ·exact ⟨.str (by decide +kernel),.leave (.str z),rfl,rfl,λ_=>P1z M⟩
   ·exact ⟨.str (by decide +kernel),.done (.str z),rfl,rfl,λ_=>P1z M⟩
  obtain ⟨e,ee,en,pe⟩:=gy
  refine hn _ _ ?_
  refine ⟨_,rfl,by show 3 <= sizeLine;decide,λt1 g1=>⟨_,rfl,_,rfl,by show 2 <= sizeLine;decide,λt2 g2=>⟨_,rfl,by show 3 <= sizeLine;decide,λt3 g3=>⟨by show 3 <= sizeLine;decide,λl g=>?_⟩⟩⟩⟩
  have kw:=zE.new (S:=[]) (o:=.tup [.str S8,.str z,.non]) g1
  have kx:=zE.new (S:=[]) (o:=.tup [y,.str z]) g2
  have ky:=zE.new (S:=[]) (o:=.tup [.str S8,.str z,.non]) g3
  have kz:=zE.new (S:=[]) (o:=.lst [.ref t1,.ref t2,.ref t3]) g
  obtain ⟨_,_,_,es⟩:=s3
  have D:=L.trans k3
  refine q l [.want (.str z) .non,e,.want (.str z) .non] (.str z) _ ⟨[t1,t2,t3],zC,.cons (((kx.trans ky).trans kz).z zC) (.cons (by rw [ee];exact (ky.trans kz).z zC) (.cons (kz.z zC) .nil))⟩ (by simp) (by simp) (λe' h=>?_) (D.none (by simp [(zI (((kw.trans kx).trans ky).z es) g).symm]) (zU (zU (zU g).1).1).1) (D.trans ((((kw.trans kx).trans ky).trans kz).mono (by simp)))
  simp only [List.mem_cons,zND,or_false] at h
  rcases h with rfl | rfl | rfl
  ·exact ⟨⟨P1z M,P1n⟩,rfl⟩
  ·exact ⟨pe _,en⟩
  ·exact ⟨⟨P1z M,P1n⟩,rfl⟩
 have a6:=O _ _ (by simp [J a0]) a0
 refine ⟨_,rfl,_,rfl,_,rfl,Y,st,al,nl,ys,ss,k,as,nb,rfl,a5,I,ne,ac,B,a6,a2,a3,ae,af,λdl ds H2 R2 gd ld an ao T=>?_⟩
 obtain ⟨ps,e2,r2⟩:=id R2
 have aq:=zZ r2
 rw [zMJ] at aq
 have ay:=zM9.mpr (an a4)
 have U:=s1.on T
 refine ⟨_,rfl,wW rfl U (m:=(ps.map V.ref).length) (by rw [zMJ];omega) (by rw [zMJ];omega) (λ_ h=>⟨_,rfl,_,_,rfl,.inl ⟨_,.of e2,rfl⟩,h⟩) λu H3 u0 u1 s3 k3=>?_⟩
 obtain ⟨_,ar,au⟩:=uU u0 u1
 obtain ⟨t,et,rfl⟩:=gm au
 obtain ⟨_,er,ht⟩:=wS r2 _ t et
 obtain ⟨d,ed,rfl⟩:=gm er
 obtain ⟨j,sj,e,a⟩:=gd d (zMN ed)
 obtain ⟨_,_,_,av⟩:=id s1
 obtain ⟨_,_,_,aw⟩:=id U
 obtain ⟨_,_,_,ax⟩:=id s3
 refine ⟨dl,_,u,.ref t,rfl,rfl,k3 _ _ (by simp [(zI av ao).symm]) e2,ar,one,λl g=>?_⟩
 have kg:=zE.new (S:=[]) (o:=.lst [.ref t]) g
 obtain ⟨e',ee,pl⟩:=zLY (K:=K) (H:=upd H3 l (.lst [.ref t])) (I.si sj (zMN a.here)) a3 a
 have D:=(O.trans (T.mono (by simp))).trans k3
 refine q l [e'] e'.nm _ ⟨[t],zC,.cons ?_ .nil⟩ (by simp) (by simp) (λe0 h=>by rw [zMM.mp h];exact ⟨pl,rfl⟩) (D.none (by simp [(zI ax g).symm]) g) (D.trans (kg.mono (by simp)))
 rw [ee]
 exact kg.z (k3 _ _ (by simp;intro z;rw [z,aw] at ht;cases ht) ht)
end
noncomputable abbrev sAs:Stmt:=top 59
theorem b8 (s:SS) (j:Nat):((uD s).map (λa=>(a.1,[V.int (j:Int),V.bl a.2]))).Perm ((((s.row.filter λr=>decide (r.1=(NV : Str))).map λr=>(r.2,[V.int (j:Int),V.bl true])) ++ (match s.hold with | some z=>[(z,[V.int (j:Int),V.bl false])] | none=>[])):List (Str × List V)):=by
 unfold uD
 rw [zMV,zM3]
 refine List.perm_append_comm.trans (List.Perm.of_eq ?_)
 congr 1
 cases s.hold <;> rfl
theorem b7 {ss:List SS} {j:Nat} {s:SS} (h:ss[j]?=some s):wV 0 (ss.take (j + 1))=wV 0 (ss.take j) ++ (uD s).map (λa=>(a.1,[V.int (j:Int),V.bl a.2])):=by
 have b:=(zML.mp h).1
 rw [vJ h,qW,zM2,Nat.min_eq_left (Nat.le_of_lt b),Nat.zero_add]
theorem b9 {a:List (Str × List V)} (p:a.Perm (wV 0 ss)):∀ r ∈ a.map nmV,r.all xA=true/\r.length <= 2000:=λr c=>by
 obtain ⟨q,d,rfl⟩:=List.mem_map.mp c
 obtain ⟨k,s,b,_,_,e⟩:=sR.mp (p.mem_iff.mp d)
 unfold nmV
 rw [e]
 exact ⟨rfl,by show 3 <= 2000;decide⟩
theorem hV {a:List (Str × List V)} (p:a.Perm (wV 0 ss)):a.length=(yZ ss).length:=by
 rw [p.length_eq,<- xS ss 0,zMJ]
theorem hZ:∀ {a b:List (Str × List V)},a.Perm b->(a.map (·.1)).Nodup->Asc ltN a->Asc ltN b->a=b
 | [],b,p,_,_,_=>List.Perm.nil_eq p
 | x :: a,[],p,_,_,_=>absurd p.length_eq (by simp)
 | x :: a,y :: b,p,c,h,f=>by
  obtain ⟨g,i⟩:=List.pairwise_cons.mp h
  obtain ⟨j,k⟩:=List.pairwise_cons.mp f
  rw [List.map_cons] at c
  obtain ⟨n1,n2⟩:=List.nodup_cons.mp c
  have e:x=y:=by
   rcases List.mem_cons.mp (p.mem_iff.mp (zNC (a:=x) (l:=a))) with e | m
   ·exact e
   ·rcases List.mem_cons.mp (p.mem_iff.mpr (zNC (a:=y) (l:=b))) with e | d
    ·exact e.symm
    ·exact absurd (List.mem_map.mpr ⟨y,d,(zEN (j x m) (g y d)).symm⟩) n1
  subst e
  rw [hZ (List.Perm.cons_inv p) n2 i k]
theorem zB6 {s:SS} (l:s.row.length <= 1000) (a:H t=some (.lst [yD s.ptr,.ref b,yD s.hold,.bl s.asked])) (c:Rows H b (s.row.map yY)) (d:H u=some (.lst [yD s.ptr,.ref e,yD s.hold,.bl s.asked])) (f:Rows H e (s.row.map yY)):Alk H 3 (.ref t) (.ref u):=by
 obtain ⟨g,h⟩:=zDQ s.row (by omega)
 exact .inr ⟨t,u,_,_,rfl,rfl,.inl ⟨a,d⟩,.cons (Alk.flat 2 (qR _)) (.cons (mE c f g h) (.cons (Alk.flat 2 (qR _)) (.cons (Alk.flat 2 rfl) .nil))),by show 4 <= 2000;decide⟩
theorem zIO (h:(uT n)[j]?=some x):x=.int (j:Int)/\j < n:=by
 obtain ⟨k,a,rfl⟩:=gm h
 obtain ⟨l,e⟩:=zML.mp a
 rw [List.getElem_range] at e
 subst e
 exact ⟨rfl,by simpa using l⟩
theorem d8 (h:x ∈ uT n):∃ j:Nat,x=.int (j:Int)/\j < n:=by
 obtain ⟨k,a,rfl⟩:=List.mem_map.mp h
 exact ⟨k,rfl,List.mem_range.mp a⟩
section
variable {P:Program} {w:World} {K:W.Frag} {mg:Str->Option Value} {base:Heap} {C CS:Addr}
theorem mJ:zO Nf NA (zG sAs):=scm
noncomputable def zJZ (C CS:Addr):Sp:=λc H Q _=>∃ Y B st p d nm e f a k u,c=[.ref p,.ref st,.int u]/\z7 B C CS H p nm e f a/\wO Y H st d a/\uH k a/\k <= 60/\a.length <= 100/\0 <= u/\u < 2/\∀ b,zE [] H b->Q (.bl true) b
theorem okAs (T:xK K C) (G:yM K mg "_law_as" sAs NA) (be:yI P w K mg base CX0 2 C Sz N5 (aU C CS)) (HA:yI P w K mg base CX0 3 C Sn Na (zFW C CS)) (HR:yI P w K mg base CX0 3 C SI Na (zFR C CS)) (HI:yI P w K mg base CX0 3 C Sk Na (zFT C CS)) (bf:yI P w K mg base CX0 3 C Sq Na (zFU C CS))
  (CA:Cal P w K mg base CX0 5 T5 Np (zG6 5)) (aa:Blt mg Sc) (a2:Blt mg "list") (U:Blt mg SG) (m:Blt mg "sorted"):Cal P w K mg base CX0 6 "_law_as" NA (zJZ C CS):=by
 refine G.oz mJ (λf c0 A bg s0 H vs Q E hr h=>?_)
 obtain ⟨Y,B,st,p,ys,nm,nb,xs,c,k,u,rfl,hh,hS,I,hk,bx,u0,u1,q⟩:=h
 have ah:z6 5 _:=hr
 have a3:z6 3 _:=hr.mono (by decide)
 have bh:z6 2 _:=hr.mono (by decide)
 have hu:=vT hr
 have ln:=I.ln
 have ly:=hS.2.2.2.1
 refine ⟨_,(zD (zX (i:=3) mJ.nd rfl (Or.inl rfl) (yN zB))
   (zD (zX (i:=4) mJ.nd rfl (Or.inl rfl) (xE (nV rfl) rfl a2.no vR (zA (xE pH rfl U.no hI (zA (zY z8 aa yS (zA (pv 1) zB)) zB)) zB)))
   (zD (uM PassesOwn.never rfl (xR (pv 4)) (yL (i:=5) mJ.nd rfl (Or.inr rfl)) (zD (zX (i:=6) mJ.nd rfl (Or.inl rfl) (zS zV (pv 1) (pv 5) (λ_ _=>rfl)))
   (zD (zX (i:=3) mJ.nd rfl (Or.inl rfl) (yK u9 (pv 3) (zA5 (N:=Nf) (sc:=zG sAs) (ix:=[5]) (by decide +kernel) (xR (yP hu (pv 6) zJ (λ_ _=>rfl))) (λ_ _ _ _=>(pU (zQ y6 (pv 0) zJ (zW _)))) (λ_ _ _ _=>(z9 (zA (pv 1) (zA (pv 2) (zA wH zB))))))))
   (zF (z5 (zQ vO (yP hu (pv 6) zJ (λ_ _=>rfl)) yV (zW _)) (zF (yA (vN F.plainAttrs_list F.slot_list_append F.type_list_append xF (pv 3) (zA (z9 (zA (yP hu (pv 6) zJ (λ_ _=>rfl)) (zA (pv 5) (zA wH zB)))) zB)))) zM)))))
   (zD (zX (i:=7) mJ.nd rfl (Or.inl rfl) (xL be T.cl bh (pv 0)))
   (zD (z5 (y9 (y3 (zN CA ah (zA (pv 7) (zA (zY qC m lJ (zA (pv 3) zB)) zB))))) (zF (zL wH)) zM)
   (zD (yA (gY F.plainAttrs_list F.slot_list_clear F.type_list_clear iM (pv 7)))
   (zD (uM PassesOwn.never rfl (xR (zS zV (yN (zA (pv 4) (zA (zD3 (pv 4)) zB))) (pv 2) (λ_ _=>rfl))) (yL (i:=5) mJ.nd rfl (Or.inr rfl)) (zD (zX (i:=6) mJ.nd rfl (Or.inl rfl) (zS zV (pv 1) (pv 5) (λ_ _=>rfl)))
   (zD (zX (i:=8) mJ.nd rfl (Or.inl rfl) (yN (zA (xY HA T.cl a3 (pv 0) (zA (pv 5) zB)) (zA (xY HR T.cl a3 (pv 0) (zA (pv 5) zB)) (zA (xY HI T.cl a3 (pv 0) (zA (pv 5) zB)) (zA (xY bf T.cl a3 (pv 0) (zA (pv 5) zB)) zB))))))
   (zD (z5 (y9 (y3 (zN CA ah (zA (pv 8) (zA (yN (zA (yP hu (pv 6) zJ (λ_ _=>rfl)) (zA (yP hu (pv 6) zJ (λ_ _=>rfl)) (zA (yP hu (pv 6) zJ (λ_ _=>rfl)) (zA (yP hu (pv 6) zJ (λ_ _=>rfl)) zB))))) zB))))) (zF (zL wH)) zM)
   (zF (yA (vN F.plainAttrs_list F.slot_list_append F.type_list_append xF (zS zV (pv 8) zH (λ_ _=>rfl)) (zA (z9 (zA zJ (zA zJ zB))) zB))))))))
   (zF (zL wH))))))))),?_⟩
 refine sq λn g=>?_
 refine ⟨zMT _,λa0 bi=>?_⟩
 have k0:=zE.new (S:=[]) (o:=.lst []) bi
 have e0:upd H a0 (.lst []) a0=some (.lst []):=zC
 generalize upd H a0 (.lst [])=H0 at k0 e0 ⊢
 refine g _ _ (sq λn g=>?_)
 refine ⟨_,rfl,_,_,rfl,.inl ⟨_,.of (k0.z hS.1),rfl⟩,c.length,by rw [zMJ,ly],λrp ai=>⟨rp,c.length,rfl,zC,by omega,λL aj=>?_⟩⟩
 have k1:=(k0.trans (zE.new ai)).trans (zE.new (S:=[]) (o:=.lst (uT c.length)) aj)
 have el:=zC (H:=upd H0 rp (mO rp c.length)) (a:=L) (o:=.lst (uT c.length))
 have e1:=((zE.new (S:=[]) ai).trans (zE.new (S:=[]) (o:=.lst (uT c.length)) aj)).z e0
 generalize upd (upd H0 rp _) L _=H1 at k1 el e1 ⊢
 refine g _ _ (sq λn g=>?_)
 refine ⟨_,rfl,L,rfl,⟨_,.of el⟩,tI (K:=K) (a:=L) (xs:=uT c.length) (λj σ H'=>∃ ak qs v5 v6,σ=[some (.ref p),some (.ref st),some (.int u),some (.ref ak),some (.ref L),v5,v6,none,none]/\Rows H' ak (qs.map nmV)/\qs.Perm (wV 0 (c.take j))/\zE [] H1 H') ⟨a0,[],_,_,rfl,⟨[],e1,.nil⟩,.nil,zE.refl _⟩ (λ_ _ _ _ ⟨_,_,_,_,_,_,_,k⟩=>.of (k.z el)) ?_ ?_⟩
 ·rintro j x σ H2 hx ⟨ak,qs,v5,v6,rfl,RA,pq,k2⟩
  obtain ⟨rfl,hj⟩:=zIO hx
  have a4:=k1.trans k2
  obtain ⟨ab,_,_,_,hD⟩:=hS.on a4
  have M:c[j]?=some c[j]:=zMK hj
  generalize c[j]=s at M
  have ey:ys[j]?=some (ys[j]'(by omega)):=zMK (by omega)
  generalize ys[j]'(by omega)=y at ey
  have D:=hD j y s ey M
  have al:=I.rl s (zMN M)
  refine sq λn g=>?_
  refine ⟨_,rfl,_,rfl,st,_,_,_,rfl,rfl,ab,xZ ey,?_⟩
  refine g _ _ (sq λn g=>?_)
  obtain ⟨_,e7,_⟩:=id D.rw
  refine ⟨_,rfl,_,rfl,y.1,_,rfl,g_r D.d,y.2,rfl,⟨_,.of e7⟩,λc1 bj=>?_⟩
  refine pZ (ds:=s.row) yY (λr=>[.str r.2,.int (j:Int),.bl true]) (λr=>decide (r.1=(NV : Str))) (λr _=>[some (.str r.1),some (.str r.2)]) [some (.int (j:Int))] (by omega) bj D.rw ⟨[none,none],rfl,rfl⟩ (λ_ _=>rfl) ?_ ?_ ?_ ?_
  ·intro r q vs H R _ hv hq h
   match vs,hv with
   | [v1,v2],_=>exact ⟨q,_,rfl,.of hq,rfl,_,_,rfl,_,_,rfl,rfl,h⟩
  ·intro r q H R _ _ _ h
   refine ⟨_,rfl,rfl,_,rfl,?_⟩
   rw [show decide (V.str r.1=V.str NV)=decide (r.1=(NV : Str)) by simp]
   exact h H (zE.refl _)
  ·intro r q H R _ _ h
   exact ⟨_,rfl,_,rfl,by show 3 <= sizeLine;decide,λt ht=>h t _ (zE.new ht) zC⟩
  intro H8 hR k8
  obtain ⟨ts,bk,v⟩:=hR
  obtain ⟨pa,ac,a5⟩:=RA.keep k8
  have lt:=zZ v
  have lA:=zZ a5
  rw [zMJ] at lt lA
  have lf:=zNH (λr:Str × Str=>decide (r.1=(NV : Str))) s.row
  have lq:=pq.length_eq
  have bz:(wV 0 (c.take j)).length <= k:=by
   rw [<- zMJ (f:=(·.1)),xS]
   have e:=congrArg (λl=>(yZ l).length) (List.take_append_drop j c)
   have e2:yZ (c.take j ++ c.drop j)=yZ (c.take j) ++ yZ (c.drop j):=List.flatMap_append
   have e:(yZ (c.take j ++ c.drop j)).length=(yZ c).length:=e
   rw [e2,zM1] at e
   omega
  refine ⟨ak,c1,_,_,rfl,rfl,ac,bk,by rw [zMJ,zMJ,sizeLine_eq];omega,λO an=>?_⟩
  have eN:((s.row.filter λr=>decide (r.1=(NV : Str))).map λr=>[V.str r.2,.int (j:Int),.bl true])=((s.row.filter λr=>decide (r.1=(NV : Str))).map λr=>(r.2,[V.int (j:Int),V.bl true])).map nmV:=by
   rw [zM3];rfl
  rw [eN] at v
  have k9:zE [] H8 (upd H8 O (.lst (pa.map V.ref ++ ts.map V.ref))):=zE.new an
  have e9:upd H8 O (.lst (pa.map V.ref ++ ts.map V.ref)) O=some (.lst ((pa ++ ts).map V.ref)):=by rw [zC,zMV]
  have a6:Paired (λq r=>upd H8 O (.lst (pa.map V.ref ++ ts.map V.ref)) q=some (.tup r)) (pa ++ ts) ((qs ++ (s.row.filter λr=>decide (r.1=(NV : Str))).map λr=>(r.2,[V.int (j:Int),V.bl true])).map nmV):=by
   rw [zMV]
   exact zP k9 (λb J=>by cases J) (vY a5 v)
  have bm:=(k2.trans k8).none (by simp) an
  generalize upd H8 O (.lst (pa.map V.ref ++ ts.map V.ref))=H9 at k9 e9 a6 ⊢
  have ao:=k2.trans (k8.trans k9)
  have D9:=D.keep (k8.trans k9)
  refine g _ _ ?_
  refine ⟨_,rfl,y.1,_,rfl,g_h D9.d,rfl,_,rfl,?_⟩
  have pm:(qs ++ ((s.row.filter λr=>decide (r.1=(NV : Str))).map λr=>(r.2,[V.int (j:Int),V.bl true])) ++ (match s.hold with | some z=>[(z,[V.int (j:Int),V.bl false])] | none=>[])).Perm (wV 0 (c.take (j + 1))):=by
   rw [b7 M,zNE]
   exact pq.append (b8 s j).symm
  cases eh:s.hold with
  | none=>
   rw [eh,List.append_nil] at pm
   exact ifF rfl ⟨O,_,_,_,rfl,⟨_,e9,a6⟩,pm,ao⟩
  | some z=>
   rw [eh] at pm
   have bn:=zZ a6
   refine ifT rfl ⟨_,rfl,.inl ⟨rfl,_,.of e9⟩,_,rfl,y.1,_,rfl,g_h D9.d,_,rfl,by show 3 <= sizeLine;decide,λtg aq=>⟨O,_,_,rfl,rfl,(zE.new (S:=[]) aq).z e9,by rw [zMJ,bn,zMJ,zM1,zMJ,sizeLine_eq];omega,?_⟩⟩
   have kt:zE [] H9 (upd H9 tg (.tup [yD s.hold,.int (j:Int),.bl false])):=zE.new aq
   have et:upd H9 tg (.tup [yD s.hold,.int (j:Int),.bl false]) tg=some (.tup (nmV (z,[V.int (j:Int),V.bl false]))):=by rw [zC,eh];rfl
   have ae:=kt.z e9
   have au:=zP kt (λb J=>by cases J) a6
   generalize upd H9 tg (.tup [yD s.hold,.int (j:Int),.bl false])=Ht at kt et ae au ⊢
   have kl:zE [O] Ht (upd Ht O (.lst ((pa ++ ts).map V.ref ++ [.ref tg]))):=zE.at (by simp)
   have nt:∀ b ∈ [O],∀ xs,Ht b ≠ some (.tup xs):=λb J xs z=>by rw [zMM.mp J,ae] at z;cases z
   have tl:tg ≠ O:=wY et ae (by intro z;cases z)
   refine ⟨O,_,_,_,rfl,⟨pa ++ ts ++ [tg],by rw [zC];simp,?_⟩,pm,(ao.trans kt).under kl (λb J=>by rw [zMM.mp J];exact bm)⟩
   rw [zMV (f:=nmV)]
   exact vY (zP kl nt au) (.cons (kl _ _ (by simp [tl]) et) .nil)
 rintro σ H2 ⟨ak,qs,v5,v6,rfl,RA,pq,k2⟩
 have a4:=k1.trans k2
 have bo:(uT c.length).length=c.length:=by unfold uT;rw [zMJ,List.length_range]
 rw [bo,zNJ] at pq
 have av:=hh.on a4
 obtain ⟨dx,nl,sl,_,hp,_⟩:=id av
 refine g _ _ (sq λn g=>?_)
 refine ⟨_,rfl,p,dx,_,rfl,hp,zGI _ _ _,B,p,nm,nb,xs,c,rfl,av,I.nd,by omega,λl rs H3 pr ar R hl k3=>?_⟩
 obtain ⟨pa,ac,a5⟩:=RA.keep k3
 have nq:(qs.map (·.1)).Nodup:=by rw [(pq.map (·.1)).nodup_iff,xS];exact I.nd
 refine g _ _ ?_
 refine ⟨_,rfl,_,rfl,ak,pa,qs,rfl,ac,a5,nq,by rw [hV pq];omega,λl3 aw c2 bp p' a' bq=>?_⟩
 have k4:zE [] H3 (upd H3 l3 (.lst (aw.map V.ref))):=zE.new bp
 obtain rfl:=hZ (p'.trans (pq.trans pr.symm)) (by rw [(p'.map (·.1)).nodup_iff];exact nq) a' ar
 refine ⟨.ref l,.ref l3,rfl,(mE (R.keep k4) ⟨aw,zC,zP k4 (λb J=>by cases J) bq⟩ (b9 pr) (by rw [zMJ,hV pr];omega)).succ.succ,λH4 k5=>⟨_,rfl,ifF rfl ?_⟩⟩
 obtain ⟨pl,ax,_⟩:=(R.keep k4).keep k5
 refine zIB (sq λn g=>?_)
 refine ⟨_,rfl,.inl ⟨rfl,_,.of ax⟩,l,_,rfl,rfl,ax,?_⟩
 have af:zE [] H2 (upd H4 l (.lst [])):=((k3.trans k4).trans k5).under (S:=[l]) (zE.at (by simp)) (λb J=>by rw [zMM.mp J];exact hl)
 generalize upd H4 l (.lst [])=H5 at af ⊢
 have br:=a4.trans af
 have ay:=(k2.trans af).z el
 refine g _ _ (sq λn g=>?_)
 refine ⟨_,rfl,_,rfl,L,_,rfl,.of ay,λrb bs=>⟨by show 2 <= sizeLine;decide,λtw az=>⟨_,rfl,?_⟩⟩⟩
 have k6:=(zE.new (S:=[]) (o:=.lst (uT c.length).reverse) bs).trans (zE.new (S:=[]) (o:=.lst [.ref L,.ref rb]) az)
 have b0:=zC (H:=upd H5 rb (.lst (uT c.length).reverse)) (a:=tw) (o:=.lst [.ref L,.ref rb])
 have b1:=(zE.new (S:=[]) (o:=.lst [.ref L,.ref rb]) az).z (zC (H:=H5) (a:=rb) (o:=.lst (uT c.length).reverse))
 generalize upd (upd H5 rb _) tw _=H6 at k6 b0 b1 ⊢
 have b2:=br.trans k6
 obtain ⟨ra,XS,bt,b3,b4⟩:∃ ra XS,atI [V.ref L,.ref rb] u=some (.ref ra)/\H6 ra=some (.lst XS)/\∀ x ∈ XS,∃ j:Nat,x=.int (j:Int)/\j < c.length:=by
  rcases (show u=0 \/ u=1 by omega) with rfl | rfl
  ·exact ⟨L,_,at0 _ _,k6.z ay,λx h=>d8 h⟩
  ·exact ⟨rb,_,at1 _ _ _,b1,λx h=>d8 (List.mem_reverse.mp h)⟩
 refine ⟨tw,_,u,_,rfl,rfl,b0,bt,ra,rfl,⟨_,.of b3⟩,tI (K:=K) (a:=ra) (xs:=XS) (λ_ σ H'=>∃ v5 v6 v8,σ=[some (.ref p),some (.ref st),some (.int u),some (.ref ak),some (.ref L),v5,v6,some (.ref l),v8]/\zE [] H6 H') ⟨_,_,_,rfl,zE.refl _⟩ (λ_ _ _ _ ⟨_,_,_,_,k⟩=>.of (k.z b3)) ?_ ?_⟩
 ·rintro i x σ H7 hx ⟨v5,v6,v8,rfl,k7⟩
  obtain ⟨j,rfl,hj⟩:=b4 x (zMN hx)
  have ba:=b2.trans k7
  obtain ⟨ab,_,_,_,hD⟩:=hS.on ba
  have M:c[j]?=some c[j]:=zMK hj
  generalize c[j]=s at M
  have ey:ys[j]?=some (ys[j]'(by omega)):=zMK (by omega)
  generalize ys[j]'(by omega)=y at ey
  have D:=hD j y s ey M
  have al:=I.rl s (zMN M)
  have a1:=hh.on ba
  obtain ⟨dx,nl,sl,_,hp,_⟩:=id a1
  refine sq λn g=>?_
  refine ⟨_,rfl,_,rfl,st,_,_,_,rfl,rfl,ab,xZ ey,?_⟩
  refine g _ _ (sq λn g=>?_)
  refine ⟨_,rfl,p,dx,_,rfl,hp,zLW _ _ _,_,rfl,B,p,j,nm,nb,xs,_,_,rfl,a1,M,?_⟩
  refine ⟨_,rfl,p,dx,_,rfl,hp,zLP _ _ _,_,rfl,B,p,j,nm,nb,xs,_,_,rfl,a1,M,λr1 H8 bb R1 k8=>?_⟩
  have bc:=k8.z hp
  refine ⟨_,rfl,p,dx,_,rfl,bc,zLR _ _ _,_,rfl,B,p,j,nm,nb,xs,_,_,rfl,a1.on k8,M,?_⟩
  refine ⟨_,rfl,p,dx,_,rfl,bc,zLS _ _ _,_,rfl,B,p,j,nm,nb,xs,_,_,rfl,a1.on k8,M,?_⟩
  refine ⟨by show 4 <= sizeLine;decide,λfo bu=>?_⟩
  have k9:zE [] H8 (upd H8 fo (.lst [yD s.ptr,.ref r1,yD s.hold,.bl s.asked])):=zE.new bu
  have e9:upd H8 fo (.lst [yD s.ptr,.ref r1,yD s.hold,.bl s.asked]) fo=some (.lst [yD s.ptr,.ref r1,yD s.hold,.bl s.asked]):=zC
  generalize upd H8 fo (.lst [yD s.ptr,.ref r1,yD s.hold,.bl s.asked])=H9 at k9 e9 ⊢
  have D9:=(D.keep k8).keep k9
  refine g _ _ ?_
  refine ⟨_,rfl,_,rfl,y.1,_,rfl,g_a D9.d,_,rfl,y.1,_,rfl,g_r D9.d,_,rfl,y.1,_,rfl,g_h D9.d,_,rfl,y.1,_,rfl,g_k D9.d,by show 4 <= sizeLine;decide,λfe bv=>?_⟩
  have ka:zE [] H9 (upd H9 fe (.lst [yD s.ptr,.ref y.2,yD s.hold,.bl s.asked])):=zE.new bv
  refine ⟨.ref fo,.ref fe,rfl,(zB6 (by omega) (ka.z e9) ((R1.keep k9).keep ka) zC (D9.rw.keep ka)).succ,λHb kb=>⟨_,rfl,ifF rfl ?_⟩⟩
  have ag:=ka.trans kb
  obtain ⟨c3,bd,bw⟩:=(R1.keep k9).keep ag
  have l1:=zZ bw
  rw [zMJ] at l1
  refine ⟨_,rfl,fo,_,1,_,rfl,rfl,ag.z e9,at1 _ _ _,.inl ⟨rfl,_,.of bd⟩,by show 2 <= sizeLine;decide,λtp v=>⟨r1,_,_,rfl,rfl,(zE.new (S:=[]) v).z bd,by rw [zMJ,sizeLine_eq];omega,?_⟩⟩
  exact ⟨_,_,_,rfl,k7.trans (((((k8.trans k9).trans ag).trans (zE.new v))).under (S:=[r1]) (zE.at (by simp)) (λb J=>by rw [zMM.mp J];exact bb))⟩
 ·rintro σ H7 ⟨_,_,_,rfl,k7⟩
  exact g _ _ (q _ (b2.trans k7))
end
noncomputable abbrev sTo:Stmt:=top 60
structure uY where
 p:Addr
 st:Addr
 nm:Str
 xs:List (Addr × Addr)
 ys:List (Addr × Addr)
 P:List Addr
 Q:List Addr
noncomputable def uY.all (c:uY):List Addr:=c.P ++ c.Q
noncomputable def tD (a:List uY):List Addr:=a.flatMap uY.all
structure MB (cs:List uY):Prop where
 dj:∀ c ∈ cs,∀ u ∈ c.P,u ∉ c.Q
 dp:∀ (i j:Nat) (a b:uY),cs[i]?=some a->cs[j]?=some b->i ≠ j->∀ u ∈ a.all,u ∉ b.all
 pp:∀ a ∈ cs,∀ b ∈ cs,b.p ∉ a.all
structure MK (C CS:Addr) (nb:List Str) (cs:List uY) (H:Hp) (as bs:List (List SS)):Prop where
 la:as.length=cs.length
 lb:bs.length=cs.length
 ho:∀ (j:Nat) (c:uY) (a:List SS),cs[j]?=some c->as[j]?=some a->z7 (· ∈ c.P) C CS H c.p c.nm nb c.xs a
 sa:∀ (j:Nat) (c:uY) (b:List SS),cs[j]?=some c->bs[j]?=some b->wO (· ∈ c.Q) H c.st c.ys b
 al:∀ u ∈ tD cs,H u ≠ none
theorem uC {a:List uY} (b:c ∈ a) (h:u ∈ c.all):u ∈ tD a:=List.mem_flatMap.mpr ⟨c,b,h⟩
structure Go (cs:List uY) (H H':Hp):Prop where
 kp:zE (tD cs) H H'
 tp:∀ t xs,H t=some (.tup xs)->H' t=some (.tup xs)
 ls:∀ t xs,H t=some (.lst xs)->∃ ys,H' t=some (.lst ys)
 dk:∀ t xs,H t=some (.dK xs)->∃ ys,H' t=some (.dK ys)
 dm:∀ u,H' u=none->H u=none
theorem Go.of (k:zE [] H b):Go c H b:=⟨k.mono (by simp),λt a h=>k.z h,λt a h=>⟨_,k.z h⟩,λt a h=>⟨_,k.z h⟩,λu h=>k.none (by simp) h⟩
theorem Go.trans (a:Go d H H1) (b:Go d H1 f):Go d H f:=⟨a.kp.trans b.kp,λt c h=>b.tp _ _ (a.tp _ _ h),λt c h=>let ⟨_,e⟩:=a.ls t c h;b.ls _ _ e,λt c h=>let ⟨_,e⟩:=a.dk t c h;b.dk _ _ e,λu h=>a.dm u (b.dm u h)⟩
theorem Go.plain (g:Go c H a) (h:yF K H x T):yF K a x T:=by
 cases h with
 | non=>exact .non
 | bl b=>exact .bl b
 | int i=>exact .int i
 | str z=>exact .str z
 | lst e=>exact .lst (g.ls _ _ e).choose_spec
 | tup e=>exact .tup (g.tp _ _ e)
 | dK e=>exact .dK (g.dk _ _ e).choose_spec
theorem Go.plain1 (g:Go b H a) (h:yG K H x):yG K a x:=⟨let ⟨T,t⟩:=h.1;⟨T,g.plain t⟩,h.2⟩
theorem Go.dpl (g:Go c H a) (h:DPl K H e):DPl K a e:=by
 cases e with
 | leave x=>exact g.plain1 h
 | done x=>exact g.plain1 h
 | want x r=>exact ⟨g.plain1 h.1,g.plain1 h.2⟩
 | ask x r=>exact ⟨g.plain1 h.1,g.plain1 h.2⟩
 | come x r b=>exact ⟨g.plain1 h.1,g.plain1 h.2.1,g.plain1 h.2.2⟩
noncomputable def KdO (o a:HO):Prop:=(∃ b c,o=.lst b/\a=.lst c) \/ (∃ b c,o=.dK b/\a=.dK c) \/ ∃ C d f e g h,o=.ins C d f/\a=.ins e g h
theorem Go.two (k:zE [a,b] H d) (G:a ∈ tD w) (I:b ∈ tD w) (z:H a=some A) (g:d a=some i) (B:KdO A i) (C:H b=some D) (j:d b=some l) (E:KdO D l):Go w H d:=by
 have m:∀ t,t ∉ [a,b] \/ ∃ o p,H t=some o/\d t=some p/\KdO o p:=λt=>by
  by_cases r:t=a
  ·exact .inr ⟨_,_,r ▸ z,r ▸ g,B⟩
  ·by_cases s:t=b
   ·exact .inr ⟨_,_,s ▸ C,s ▸ j,E⟩
   ·exact .inl (by simp [r,s])
 refine ⟨k.mono λc x=>?_,λt y h=>?_,λt y h=>?_,λt y h=>?_,λu h=>?_⟩
 ·simp only [List.mem_cons,zND,or_false] at x
  rcases x with rfl | rfl <;> assumption
 all_goals rcases m ‹_› with n | ⟨o,p,e,f,q⟩
 ·exact k _ _ n h
 ·rw [h] at e;cases e
  rcases q with ⟨_,_,e,_⟩ | ⟨_,_,e,_⟩ | ⟨_,_,_,_,_,_,e,_⟩ <;> cases e
 ·exact ⟨_,k _ _ n h⟩
 ·rw [h] at e;cases e
  rcases q with ⟨_,_,e,v⟩ | ⟨_,_,e,_⟩ | ⟨_,_,_,_,_,_,e,_⟩
  ·exact ⟨_,v ▸ f⟩
  ·cases e
  ·cases e
 ·exact ⟨_,k _ _ n h⟩
 ·rw [h] at e;cases e
  rcases q with ⟨_,_,e,_⟩ | ⟨_,_,e,v⟩ | ⟨_,_,_,_,_,_,e,_⟩
  ·cases e
  ·exact ⟨_,v ▸ f⟩
  ·cases e
 ·exact k.none n h
 ·rw [h] at f;cases f
theorem MK.on (w:MK C CS e f H as bs) (k:zE [] H g):MK C CS e f g as bs:=⟨w.la,w.lb,λj c a b d=>(w.ho j c a b d).on k,λj c a b d=>(w.sa j c a b d).on k,λu h z=>w.al u h (k.none (by simp) z)⟩
theorem MK.upd (B:MB r) (w:MK C CS s r H as bs) (k:zE S H n) (v:∀ u,n u=none->H u=none) (g:r[j]?=some c) (m:∀ b ∈ S,b ∈ c.all/\∀ xs,H b ≠ some (.tup xs)) (x:z7 (· ∈ c.P) C CS n c.p c.nm s c.xs y) (A:wO (· ∈ c.Q) n c.st c.ys D):MK C CS s r n (as.set j y) (bs.set j D):=by
 have t:=(zML.mp g).1
 refine ⟨by rw [zNK];exact w.la,by rw [zNK];exact w.lb,λi d a f o=>?_,λi d b f q=>?_,λu h z=>w.al u h (v u z)⟩
 ·by_cases e:i=j
  ·subst e
   rw [g] at f;cases f
   rw [zNG (by rw [w.la];exact t)] at o
   cases o;exact x
  ·rw [zNF (Ne.symm e)] at o
   exact (w.ho i d a f o).keep k λu l=>⟨λz=>B.pp c (zMN g) d (zMN f) (z ▸ (m u l).1),λz=>B.dp j i c d g f (Ne.symm e) u (m u l).1 (zM0.mpr (.inl z)),(m u l).2⟩
 ·by_cases e:i=j
  ·subst e
   rw [g] at f;cases f
   rw [zNG (by rw [w.lb];exact t)] at q
   cases q;exact A
  ·rw [zNF (Ne.symm e)] at q
   exact (w.sa i d b f q).keep k λu l=>⟨λz=>B.dp j i c d g f (Ne.symm e) u (m u l).1 (zM0.mpr (.inr z)),(m u l).2⟩
theorem lI {a:List uY} {i:Nat} {g:uY->Addr} (h:a[i]?=some c):atI (a.map λc=>V.ref (g c)) (i:Int)=some (.ref (g c)):=uJ (by rw [zMP,h];rfl)
noncomputable def Nx (b:List Str) (e:DR) (ss a:List SS):Prop:=a=ss \/ ∃ h i s d,drV e=hdV h/\AtR b ss h i s d/\a=ss.set i (yC (xG s d)).1
structure HG (k:Nat) (ss:List SS):Prop where
 I:uH k ss
 ne:ss ≠ []
 l:ss.length <= 10
 r:∀ s ∈ ss,s.row.length < 800
theorem zC9 {a b c d r:TS} {D:mG} {σ:St} {H:Hp} (M:St->Hp->Prop) (h:∀ e f,M e f->r D e f) (i:∀ g:St->Hp->Prop,(∀ e f,M e f->g e f)->u6 a (u6 b (u6 c d)) { D with nx:=g } σ H):u6 a (u6 b (u6 c (u6 d r))) D σ H:=i (r D) h
section
variable {P:Program} {w:World} {K:W.Frag} {mg:Str->Option Value} {base:Heap} {C CS:Addr}
theorem zAB:zO ["_law_houses",Sw,"_law_at",SR,"_law_turn",SE,"_law_due_here",T6,"_law_k","_law_place"] N9 (zG sTo):=scm
noncomputable def zJF (K:W.Frag) (C CS:Addr):Sp:=λl H Q _=>∃ (b:List uY) (h i q nl:Addr) (u:Int) (j:Nat) (c:uY) (g:List SS) (f:List Str) (a:List (List SS)) (e:DR),l=[.ref h,.ref i,.int (j:Int),.ref q,.int u,.ref nl]/\MB b/\MK C CS f b H a a/\H h=some (.lst (b.map λc=>.ref c.p))/\H i=some (.lst (b.map λc=>.ref c.st))/\H nl=some (.lst (f.map V.str))/\h ∉ tD b/\i ∉ tD b/\nl ∉ tD b/\H q=some (.tup (drV e))/\DPl K H e/\(∀ z ∈ f,yR z)/\(∀ g ∈ a,HG 59 g)/\b[j]?=some c/\a[j]?=some g/\b.length <= 3/\0 <= u/\u < 2 /\
 ∀ d k,Nx f e g d->MK C CS f b k (a.set j d) (a.set j d)->Go b H k->Q (.bl true) k
theorem okTo (G:yM K mg "_law_told" sTo N9) (b0:Cal P w K mg base CX0 4 "_law_due" N7 (zFX K)) (b1:Cal P w K mg base CX0 7 "_law_asked" Nc (a8 K C CS)) (b2:Cal P w K mg base CX0 6 "_law_as" NA (zJZ C CS)) (CA:Cal P w K mg base CX0 5 T5 Np (zG6 5)) (T:Blt mg Sc) (U:Blt mg SG) :
  Cal P w K mg base CX0 8 "_law_told" N9 (zJF K C CS):=by
 refine G.oz zAB (λf bq A b3 s0 H vs Q E hr h=>?_)
 obtain ⟨O,hl,sl,q,nl,u,j,c,ss,nb,J,e,rfl,B,w,a5,af,b4,fh,fs,fn,hq,pl,ag,hG,ec,es,lc,u0,u1,fin⟩:=h
 have ba:z6 7 _:=hr
 have bb:z6 6 _:=hr.mono (by decide)
 have bc:z6 5 _:=hr.mono (by decide)
 have bd:z6 4 _:=hr.mono (by decide)
 have g:=hG ss (zMN es)
 have mc:=zMN ec
 have hh:=w.ho j c ss ec es
 have hS:=w.sa j c ss ec es
 have br:(2:Nat) <= sizeLine:=by decide
 refine ⟨_,(zD (zX (i:=6) zAB.nd rfl (Or.inl rfl) (zN b0 bd (zA (zS zV (pv 1) (pv 2) (λ_ _=>rfl)) (zA (pv 5) (zA (pv 3) zB)))))
   (zD (zX (i:=7) zAB.nd rfl (Or.inl rfl) (zN b1 ba (zA (zS zV (pv 0) (pv 2) (λ_ _=>rfl)) (zA (pv 3) zB))))
   (zD (z5 (y9 (y3 (zN CA bc (zA (pv 7) (zA (pv 6) zB))))) (zF (zL wH)) zM)
   (zD (z5 (zQ y6 (zS z4 (pv 7) zH (λ_ _=>rfl)) zJ (zW _)) (zF (yA (vN F.plainAttrs_list F.slot_list_append F.type_list_append xF (zS z4 (pv 7) zH (λ_ _=>rfl)) (zA (z9 (zA zJ (zA zH (zA zJ zB)))) zB)))) zM)
   (zD (uM PassesOwn.never rfl (vW rfl U.no (zA (zY z8 T yS (zA (pv 0) zB)) zB)) (yL (i:=8) zAB.nd rfl (Or.inl rfl)) (zD (zX (i:=9) zAB.nd rfl (Or.inl rfl) (yK u8 (yK xV (pv 2) (pv 8)) (zY z8 T yS (zA (pv 0) zB))))
   (zF (z5 (y9 (y3 (zN b2 bb (zA (zS zV (pv 0) (pv 9) (λ_ _=>rfl)) (zA (zS zV (pv 1) (pv 9) (λ_ _=>rfl)) (zA (pv 4) zB)))))) (zF (zL wH)) zM))))
   (zF (zL wH))))))),?_⟩
 obtain ⟨M,hM⟩:∃ M:St->Hp->Prop,∀ σ H',M σ H' ↔ ∃ v6 v7 k,σ=[some (.ref hl),some (.ref sl),some (.int (j:Int)),some (.ref q),some (.int u),some (.ref nl),v6,v7,none,none]/\Nx nb e ss k/\MK C CS nb O H' (J.set j k) (J.set j k)/\Go O H H':=⟨_,λ_ _=>Iff.rfl⟩
 refine zC9 M (λσ H1 hm=>?_) λnx hn=>?_
 ·obtain ⟨v6,v7,k,rfl,ah,w1,go⟩:=(hM _ _).mp hm
  have g':∀ x ∈ J.set j k,uH 60 x/\x ≠ []/\x.length <= 10:=λx hx=>by
   rcases List.mem_or_eq_of_mem_set hx with h | rfl
   ·have I:=(hG x h).I
    exact ⟨⟨I.si,I.nd,Nat.le_succ_of_le I.ln,I.rl⟩,(hG x h).ne,(hG x h).l⟩
   ·rcases ah with rfl | ⟨h,i,s,d,_,a,rfl⟩
    ·exact ⟨⟨g.I.si,g.I.nd,Nat.le_succ_of_le g.I.ln,g.I.rl⟩,g.ne,g.l⟩
    ·refine ⟨g.I.deed a g.r,λz=>g.ne ?_,by rw [zNK];exact g.l⟩
     have:=congrArg List.length z
     rw [zNK] at this
     exact List.length_eq_zero_iff.mp this
  have ai:=go.kp _ _ fh a5
  have be:=go.kp _ _ fs af
  refine ⟨_,rfl,_,_,rfl,.inl ⟨_,.of ai,rfl⟩,_,rfl,by rw [zMJ];omega,by rw [zMJ];omega,sQ (λi σ H'=>∃ v8 v9,σ=[some (.ref hl),some (.ref sl),some (.int (j:Int)),some (.ref q),some (.int u),some (.ref nl),v6,v7,v8,v9]/\zE [] H1 H') ⟨_,_,rfl,zE.refl _⟩ ?_ ?_⟩
  ·rintro i σ H2 hi ⟨v8,v9,rfl,D⟩
   rw [zMJ,Int.toNat_natCast] at hi
   have aj:=D.z ai
   have bf:=D.z be
   have w2:=w1.on D
   refine sq λn hn=>?_
   refine ⟨_,rfl,_,rfl,_,_,rfl,rfl,_,rfl,_,_,rfl,.inl ⟨_,.of aj,rfl⟩,_,_,rfl,rfl,by rw [zMJ];omega,?_⟩
   obtain ⟨m,em,lm⟩:∃ m:Nat,((j:Int) + (0 + (i:Int))) % ((O.map λc=>V.ref c.p).length:Int)=(m:Int)/\m < O.length:=by
    rw [zMJ]
    have a1:=Int.emod_nonneg ((j:Int) + (0 + (i:Int))) (b:=(O.length:Int)) (by omega)
    have a2:=Int.emod_lt_of_pos ((j:Int) + (0 + (i:Int))) (b:=(O.length:Int)) (by omega)
    exact ⟨_,(Int.toNat_of_nonneg a1).symm,by omega⟩
   show wI 9 (V.int (((j:Int) + (0 + (i:Int))) % ((O.map λc=>V.ref c.p).length:Int))) _ _ _
   rw [em]
   have ed:O[m]?=some O[m]:=zMK lm
   generalize O[m]=d at ed
   have ea:(J.set j k)[m]?=some ((J.set j k)[m]'(by rw [w1.la];exact lm)):=zMK _
   generalize (J.set j k)[m]'(by rw [w1.la];exact lm)=a at ea
   obtain ⟨I,_,bs⟩:=g' a (zMN ea)
   refine hn _ _ ?_
   exact ⟨_,rfl,_,rfl,hl,_,_,_,rfl,rfl,aj,lI ed,_,rfl,_,rfl,sl,_,_,_,rfl,rfl,bf,lI ed,_,rfl,(· ∈ d.Q),(· ∈ d.P),d.st,d.p,d.ys,d.nm,nb,d.xs,a,60,u,rfl,w2.ho m d a ed ea,w2.sa m d a ed ea,I,zMS _,by omega,u0,u1,λH3 k3=>⟨_,rfl,ifF rfl ⟨_,_,rfl,D.trans k3⟩⟩⟩
  ·rintro σ H2 ⟨v8,v9,rfl,D⟩
   exact fin k H2 ah (w1.on D) (go.trans (.of D))
 ·have Y:∀ {b},b ∈ c.Q->b ∈ c.all:=λh=>zM0.mpr (.inr h)
  have L:∀ {b},b ∈ c.P->b ∈ c.all:=λh=>zM0.mpr (.inl h)
  have a0:ss.length <= 100:=by have:=g.l;omega
  refine ⟨_,rfl,_,rfl,sl,_,_,_,rfl,rfl,af,lI ec,_,rfl,_,rfl,(· ∈ c.Q),c.st,nl,q,c.ys,ss,nb,59,e,rfl,hS,g.I,by decide,a0,g.ne,b4,hq,pl,λo wy=>⟨λi ho t H1 ht k1=>?_,λho h i s d eh a t r y H1 ht ey S1 R1 nr k1=>?_⟩⟩
  ·subst ho
   refine ⟨_,rfl,_,rfl,hl,_,_,_,rfl,rfl,k1.z a5,lI ec,_,rfl,(· ∈ c.P),c.p,q,c.nm,nb,c.xs,ss,59,e,rfl,hh.on k1,g.I,by decide,a0,ag,k1.z hq,pl.on k1,.inl ⟨i,wy,λt' H2 N D=>?_⟩⟩
   refine ⟨_,rfl,_,rfl,.ref t',.ref t,rfl,.inr ⟨t',t,_,_,rfl,rfl,.inr ⟨N,D.z ht⟩,.cons (Alk.flat 3 rfl) (.cons (Alk.flat 3 rfl) .nil),by show 2 <= 2000;decide⟩,λH3 k3=>⟨_,rfl,ifF rfl ?_⟩⟩
   have ak:=(k1.trans D).trans k3
   refine ⟨_,rfl,t',_,0,_,rfl,rfl,k3.z N,at0 _ _,rfl,_,rfl,tV (hn _ _ ((hM _ _).mpr ⟨_,_,ss,rfl,.inl rfl,?_,.of ak⟩))⟩
   obtain ⟨l,e⟩:=zML.mp es
   rw [<- e,List.set_getElem_self l]
   exact w.on ak
  subst ho
  obtain ⟨_,⟨_,my⟩,_,ly,hD⟩:=id hS
  obtain ⟨_,_,_,_,bg⟩:=id S1
  obtain ⟨an,ao⟩:=my y (zMN ey)
  have il:=(zML.mp a.here).1
  have D0:=hD i y s ey a.here
  have D1:=bg i y _ ey (zNG il)
  obtain ⟨_,w0,_⟩:=id D0.rw
  obtain ⟨_,w1,_⟩:=id D1.rw
  have a6:=vP D0.d w0
  have yQ:∀ b ∈ [y.1,y.2],b ∈ c.Q:=λb v=>by
   simp only [List.mem_cons,zND,or_false] at v
   rcases v with rfl | rfl <;> assumption
  have a3:Go O H H1:=Go.two k1 (uC mc (Y an)) (uC mc (Y ao)) D0.d D1.d (.inr (.inl ⟨_,_,rfl,rfl⟩)) w0 w1 (.inl ⟨_,_,rfl,rfl⟩)
  have aa:=hh.keep k1 λb v=>⟨λz=>B.pp c mc c mc (z ▸ Y (yQ b v)),λz=>B.dj c mc b z (yQ b v),a6 b v⟩
  refine ⟨_,rfl,_,rfl,hl,_,_,_,rfl,rfl,a3.kp _ _ fh a5,lI ec,_,rfl,(· ∈ c.P),c.p,q,c.nm,nb,c.xs,ss,59,e,rfl,aa,g.I,by decide,a0,ag,a3.tp _ _ hq,a3.dpl pl,.inr ⟨h,i,s,d,eh,a,λt' r' x H2 N ex bh R2 a4 D=>?_⟩⟩
  obtain ⟨aq,ar,_,_,⟨⟨_,au⟩,⟨_,av,_⟩,_⟩⟩:=aa.at ex
  have ab:=uG au av
  have xP:∀ b ∈ [x.1,x.2],b ∈ c.P:=λb v=>by
   simp only [List.mem_cons,zND,or_false] at v
   rcases v with rfl | rfl <;> assumption
  have aw:∀ {b},b ∈ c.all->H b ≠ none:=λh=>w.al _ (uC mc h)
  have bi:=D _ _ (λhm=>ab t hm _ ht) ht
  obtain ⟨o1,o2⟩:=zBO (xG s d) i
  have bj:=gR R1 D (λhm=>aw (L (xP r hm)) nr) ab
  refine ⟨_,rfl,_,rfl,.ref t',.ref t,rfl,.inr ⟨t',t,_,_,rfl,rfl,.inr ⟨N,bi⟩,.cons (Alk.flat 3 rfl) (.cons (mE R2 bj o1 o2).succ .nil),by show 2 <= 2000;decide⟩,λH3 k3=>⟨_,rfl,ifF rfl ?_⟩⟩
  obtain ⟨ps,er,pp⟩:=R2.keep k3
  have lp:=zZ pp
  refine ⟨_,rfl,t',_,0,_,rfl,rfl,k3.z N,at0 _ _,rfl,_,rfl,nI ⟨_,rfl,t',_,1,_,rfl,rfl,k3.z N,at1 _ _ _,.inl ⟨rfl,_,.of er⟩,by show 3 <= sizeLine;decide,λtp ac=>⟨r',_,_,rfl,rfl,(zE.new (S:=[]) ac).z er,by rw [zMJ,sizeLine_eq];omega,?_⟩⟩⟩
  have k4:=k3.trans (zE.new (S:=[]) (o:=.tup [.str T1,.int 0,.str "a"]) ac)
  have ax:=(zE.new (S:=[]) (o:=.tup [.str T1,.int 0,.str "a"]) ac).z er
  generalize upd H3 tp _=H4 at k4 ax ⊢
  have kf:zE [x.1,x.2] H1 (upd H4 r' (.lst (ps.map V.ref ++ [.ref tp]))):=zE.drop (a:=r') (((D.trans (k4.mono (by simp))).mono (λb v=>zMW _ v)).trans (zE.at (by simp))) a4
  have bk:∀ {b},b ∈ c.all->b ≠ r':=λh z=>aw h (a3.dm _ (z ▸ a4))
  obtain ⟨dx,bt,bu,bm⟩:=aa.ob
  have ae:=(bh.on k4).keep (zE.at (S:=[r']) (p:=r') (o:=.lst (ps.map V.ref ++ [.ref tp])) (by simp)) λb v=>by
   rw [zMM.mp v]
   exact ⟨λz=>(by rw [z,bm] at a4;cases a4),λh=>bk (L h) rfl,λxs z=>by rw [ax] at z;cases z⟩
  generalize upd H4 r' (.lst (ps.map V.ref ++ [.ref tp]))=Hf at kf ae ⊢
  obtain ⟨_,_,_,_,⟨⟨_,bn⟩,⟨_,bo,_⟩,_⟩⟩:=ae.at ex
  have bp:Go O H1 Hf:=Go.two kf (uC mc (L aq)) (uC mc (L ar)) au bn (.inr (.inr ⟨_,_,_,_,_,_,rfl,rfl⟩)) av bo (.inl ⟨_,_,rfl,rfl⟩)
  have go:=a3.trans bp
  have Sf:=S1.keep kf λb v=>⟨λz=>B.dj c mc b (xP b v) z,ab b v⟩
  refine hn _ _ ((hM _ _).mpr ⟨_,_,_,rfl,.inr ⟨h,i,s,d,eh,a,rfl⟩,?_,go⟩)
  refine w.upd B (S:=[x.1,x.2,y.1,y.2]) ((k1.mono (by simp +contextual)).trans (kf.mono (by simp +contextual))) go.dm ec (λb v=>?_) ae Sf
  simp only [List.mem_cons,zND,or_false] at v
  obtain ⟨_,_,_,_,⟨⟨_,ay⟩,⟨_,az,_⟩,_⟩⟩:=hh.at ex
  rcases v with rfl | rfl | rfl | rfl
  ·exact ⟨L aq,uG ay az _ (by simp)⟩
  ·exact ⟨L ar,uG ay az _ (by simp)⟩
  ·exact ⟨Y an,a6 _ (by simp)⟩
  ·exact ⟨Y ao,a6 _ (by simp)⟩
end
noncomputable abbrev sBg:Stmt:=top 61
theorem zCL (l:List V) (d k:Nat):uS l (some (d:Int)) (some ((d:Int) + (k:Int)))=(l.drop d).take k:=by
 unfold uS
 rw [HT.sIx_nat,show (d:Int) + (k:Int)=((d + k:Nat):Int) by omega,HT.sIx_nat]
 by_cases h:d <= l.length
 ·rw [Nat.min_eq_left h]
  by_cases a:d + k <= l.length
  ·rw [Nat.min_eq_left a,Nat.add_sub_cancel_left]
  ·rw [Nat.min_eq_right (by omega),zM8 (by rw [List.length_drop];exact zMS _),zM8 (by rw [List.length_drop];omega)]
 ·rw [List.drop_eq_nil_of_le (by omega),List.drop_eq_nil_of_le (by omega),List.take_nil,List.take_nil]
section
variable {P:Program} {w:World} {K:W.Frag} {mg:Str->Option Value} {base:Heap} {C CS:Addr}
theorem pJ:zO Nd NE (zG sBg):=scm
noncomputable def zJX:Sp:=λj H Q _=>∃ c:Int,j=[.int c]/\∀ (t f g nl h i:Addr) (k:Int) (e d as os:List Str) (a:List (Option Str)) (b:Hp),b t=some (.tup [.ref f,.ref g,.ref nl,.ref h,.ref i,.int k])->b f=some (.lst (e.map V.str))->b g=some (.lst (os.map V.str))->b nl=some (.lst (d.map V.str))->b h=some (.lst (a.map yD))->b i=some (.lst (as.map V.str))->(∀ z ∈ e,yR z)->e.length=12->os.Nodup->(∀ z ∈ os,z ∈ e/\z ∉ d)->2 <= os.length->os.length <= 3->(∀ z ∈ d,z ∈ e)->d.Nodup->d.length <= 9->a ≠ []->a.length <= 4->(∀ z,some z ∈ a->z ∈ d)->(∀ z ∈ as,yR z)->as ≠ []->as.length <= 12->zE [] H b->Q (.ref t) b
theorem okBg (G:yM K mg "_law_begun" sBg NE) (CD:Cal P w K mg base CX0 1 SV NE oG) (CN:Cal P w K mg base CX0 2 Ss N8 tN) (aa:Cal P w K mg base CX0 3 "_law_names" N8 eG) (a2:Blt mg Sc) (r:Blt mg SG):Cal P w K mg base CX0 4 "_law_begun" NE zJX:=by
 refine G.oz pJ (λf bk A ax s0 H vs Q E hr h=>?_)
 obtain ⟨c,rfl,q⟩:=h
 have ab:z6 3 _:=hr
 have j:z6 2 _:=hr.mono (by decide)
 have ay:z6 1 _:=hr.mono (by decide)
 refine ⟨_,(zD (zX (i:=1) pJ.nd rfl (Or.inr rfl) (zN CD ay (zA (pv 0) zB)))
   (zD (zX (i:=2) pJ.nd rfl (Or.inl rfl) (xC y6 (zN CN j (zA (pv 1) (zA zH zB))) zH (zW _)))
   (zD (zX (i:=3) pJ.nd rfl (Or.inl rfl) (yN (zA (yK xV zH (zN CN j (zA (pv 1) (zA zH zB)))) (zA (zN CN j (zA (pv 1) (zA zH zB))) zB))))
   (zD (zX (i:=3) pJ.nd rfl (Or.inl rfl) (yK u9 (pv 3) (yN (zA (yK xV zH (zN CN j (zA (pv 1) (zA zH zB)))) (zA (yK xV zH (zN CN j (zA (pv 1) (zA zH zB)))) zB)))))
   (zD (zX (i:=4) pJ.nd rfl (Or.inl rfl) (zN CN j (zA (pv 1) (zA zH zB))))
   (zD (zX (i:=5) pJ.nd rfl (Or.inl rfl) (zN aa ab (zA (pv 1) (zA zH zB))))
   (zD (zX (i:=6) pJ.nd rfl (Or.inl rfl) (wB pM (pv 5) (wA zH) (wA (yK xV zH (zS zV (pv 3) zH (λ_ _=>rfl))))))
   (zD (zX (i:=7) pJ.nd rfl (Or.inr rfl) (yK u9 (pv 6) (yN (zA yV zB))))
   (zD (qP (i:=8) pJ.nd rfl (Or.inl rfl) (N:=Nd) (sc:=zG sBg) (ix:=[7,1]) (by decide +kernel) (vW rfl r.no (zA (zS zV (pv 3) zH (λ_ _=>rfl)) zB)) (λ_ _ _ _=>xQ) (λ_ _ _ _=>(zS zV (pv 1) (zN CN j (zA (pv 2) (zA (zY (bZ (K:=K)) a2 yS (zA (pv 1) zB)) zB))) (λ_ _=>rfl))))
   (zD (zX (i:=9) pJ.nd rfl (Or.inl rfl) (pv 5))
   (zD (z5 (y9 (y3 (pv 2))) (zF (zX (i:=9) pJ.nd rfl (Or.inl rfl) (zN aa ab (zA (pv 1) (zA zH zB))))) zM)
   (zF (zL (z9 (zA (pv 5) (zA (wB pM (pv 5) vG (wA (zS zV (pv 3) zH (λ_ _=>rfl)))) (zA (pv 6) (zA (pv 8) (zA (wB pM (pv 9) vG (wA (zS zV (pv 3) zH (λ_ _=>rfl)))) (zA (pv 4) zB)))))))))))))))))))),?_⟩
 refine sq λn d=>?_
 refine ⟨_,rfl,c,rfl,λs b1 c1 e1 hs=>?_⟩
 have k1:=zE.new (S:=[]) (o:=.lst [.int b1,.int c1,.int e1]) hs
 have s1:Src (upd H s (.lst [.int b1,.int c1,.int e1])) s:=⟨_,_,_,zC⟩
 generalize upd H s _=H1 at k1 s1 ⊢
 refine d _ _ (sq λn d=>?_)
 refine wW rfl s1 (by decide) (by decide) (λ_ h=>h) λu H2 _ _ s2 k2=>⟨rfl,?_⟩
 refine d _ _ (sq λn d=>?_)
 refine wW rfl s2 (by decide) (by decide) (λ_ h=>h) λm H3 m0 m1 s3 k3=>⟨_,_,rfl,rfl,?_⟩
 refine wW rfl s3 (by decide) (by decide) (λ_ h=>h) λi H4 i0 i1 s4 k4=>⟨by show 2 <= sizeLine;decide,λml ac=>?_⟩
 have k5:=zE.new (S:=[]) (o:=.lst [.int (2 + m),.int i]) ac
 have e5:upd H4 ml (.lst [.int (2 + m),.int i]) ml=some (.lst [.int (2 + m),.int i]):=zC
 have s5:=s4.on k5
 have ae:=s4.ne ac
 generalize upd H4 ml _=B at k5 e5 s5 ⊢
 refine d _ _ (sq λn d=>?_)
 refine ⟨_,rfl,wW rfl s5 (by decide) (by decide) (λ_ h=>h) λa J a0 a1 s6 k6=>⟨_,_,rfl,rfl,?_⟩⟩
 refine wW rfl s6 (by decide) (by decide) (λ_ h=>h) λb H7 b0 b1 s7 k7=>⟨_,_,rfl,rfl,by show 2 <= sizeLine;decide,λl2 a3=>⟨ml,l2,_,_,rfl,rfl,(zE.new (S:=[]) a3).z (k7 _ _ (by simp [ae]) (k6 _ _ (by simp [ae]) e5)),zC,by show 4 <= sizeLine;decide,λmm af=>?_⟩⟩
 have k8:=(zE.new (S:=[]) (o:=.lst [.int (1 + a),.int (1 + b)]) a3).trans (zE.new (S:=[]) (o:=.lst ([.int (2 + m),.int i] ++ [.int (1 + a),.int (1 + b)])) af)
 have e8:=zC (H:=upd H7 l2 (.lst [.int (1 + a),.int (1 + b)])) (a:=mm) (o:=.lst ([.int (2 + m),.int i] ++ [.int (1 + a),.int (1 + b)]))
 have M:=(s7.on (zE.new (o:=.lst [.int (1 + a),.int (1 + b)]) a3)).ne af
 generalize upd (upd H7 l2 _) mm _=H8 at k8 e8 ⊢
 have s8:=s7.on k8
 have az:zE [s] H H8:=(((((((k1.mono (by simp)).trans k2).trans k3).trans k4).trans (k5.mono (by simp))).trans k6).trans k7).trans (k8.mono (by simp))
 refine d _ _ (sq λn d=>?_)
 refine wW rfl s8 (by decide) (by decide) (λ_ h=>h) λwn H9 _ _ s9 k9=>?_
 refine d _ _ (sq λn d=>?_)
 refine ⟨_,rfl,s,12,rfl,s9,by decide,by decide,λnh p HA b2 a4 lz gz nd kA sA=>?_⟩
 have D:p.length=12:=lz
 have eA:=kA _ _ (by simp [M]) (k9 _ _ (by simp [M]) e8)
 have a5:nh ≠ s:=s9.ne b2
 have b3:=(az.trans k9).trans kA
 obtain ⟨ki,rfl⟩:=Int.eq_ofNat_of_zero_le i0
 obtain ⟨km,rfl⟩:=Int.eq_ofNat_of_zero_le m0
 refine d _ _ (sq λn d=>?_)
 refine ⟨_,rfl,3,rfl,_,rfl,mm,_,1,_,rfl,rfl,eA,at1 _ _ _,_,_,rfl,rfl,_,rfl,nh,_,rfl,.of a4,λnl ag=>?_⟩
 have ec:=zCL (p.map V.str) 3 ki
 rw [<- List.map_drop,<- List.map_take] at ec
 rw [show uS (p.map V.str) (some 3) (some (3 + (ki:Int)))=_ from ec]
 obtain ⟨k,O⟩:∃ k,k=(p.drop 3).take ki:=⟨_,rfl⟩
 rw [<- O]
 have ah:nl ≠ s:=sA.ne ag
 have kB:zE [] HA (upd HA nl (.lst (k.map V.str))):=zE.new ag
 have eB:upd HA nl (.lst (k.map V.str)) nl=some (.lst (k.map V.str)):=zC
 generalize upd HA nl (.lst (k.map V.str))=HB at kB eB ⊢
 have sB:=sA.on kB
 have b4:k.length <= 9:=by rw [O,zM2,List.length_drop];omega
 have sub:∀ z ∈ k,z ∈ p.drop 3:=λz L=>by rw [O] at L;exact List.mem_of_mem_take L
 have ba:k.Nodup:=by rw [O];exact (nd.sublist (List.drop_sublist _ _)).sublist (List.take_sublist _ _)
 refine d _ _ (sq λn d=>?_)
 refine ⟨_,rfl,by show 1 <= sizeLine;decide,λl1 h1=>⟨nl,l1,_,_,rfl,rfl,(zE.new (S:=[]) h1).z eB,zC,by rw [zMJ,sizeLine_eq];show _ + 1 <= _;omega,λso ai=>?_⟩⟩
 have kC:=(zE.new (S:=[]) (o:=.lst [V.non]) h1).trans (zE.new (S:=[]) (o:=.lst (k.map V.str ++ [V.non])) ai)
 have eC:=zC (H:=upd HB l1 (.lst [V.non])) (a:=so) (o:=.lst (k.map V.str ++ [V.non]))
 have aj:=(sB.on (zE.new (o:=.lst [V.non]) h1)).ne ai
 generalize upd (upd HB l1 _) so _=HC at kC eC ⊢
 have sC:=sB.on kC
 have ak:=kB.trans kC
 refine d _ _ (sq λn d=>?_)
 refine ⟨_,rfl,mm,_,2,_,rfl,rfl,ak.z eA,at2 _ _ _ _,_,rfl,by omega,by omega,λacc l=>?_⟩
 have bc:so ≠ acc:=zI eC l
 have sa:acc ≠ s:=sC.ne l
 refine sO (by rw [sizeLine_eq];omega) (λi ys τ B=>∃ (g:List (Option Str)) (kk:Option V),τ=kk :: [some (.ref so),some (.ref s)]/\ys=g.map yD/\g.length=i/\(∀ z,some z ∈ g->z ∈ k)/\zE [acc,s] HC B/\Src B s/\B acc=some (.lst ys)) ?_ ?_ ?_ ?_
 ·exact ⟨[],none,rfl,rfl,rfl,(λz L=>by cases L),zE.at (by simp),sC.on (zE.new l),zC⟩
 ·rintro i ys τ B ⟨g,kk,rfl,rfl,hl,_,_,_,h5⟩
  exact ⟨h5,by rw [zMJ];omega⟩
 ·rintro i ys τ B hi ⟨g,kk,rfl,rfl,hl,hg,kp,sx,h5⟩
  have ex:=kp _ _ (by simp [bc,aj]) eC
  refine ⟨_,rfl,wW rfl sx (m:=(k.map V.str ++ [V.non]).length) (by rw [zM1,zMJ];show (0:Int) < ((_ + 1:Nat):Int);omega) (by rw [zM1,zMJ];show ((_ + 1:Nat):Int) < _;omega) (λ_ h=>⟨_,rfl,_,_,rfl,.inl ⟨_,.of ex,rfl⟩,h⟩) λv J v0 v1 sy ky=>?_⟩
  rw [zM1,zMJ] at v1
  obtain ⟨ar,ea,za⟩:=zGS k v0 v1
  refine ⟨so,_,v,_,rfl,rfl,ky _ _ (by simp [aj]) ex,ea,?_⟩
  refine ⟨ky _ _ (by simp [sa]) h5,g ++ [ar],_,rfl,by simp,by simp [hl],?_,(kp.trans (ky.mono (by simp))).trans (zE.at (by simp)),?_,zC⟩
  ·intro z L
   rcases zM0.mp L with h | h
   ·exact hg z h
   ·exact za z (zMM.mp h).symm
  ·obtain ⟨x,y,z,e⟩:=sy
   exact ⟨x,y,z,by rw [zK sa.symm];exact e⟩
 rintro ys τ B ⟨g,kk,rfl,rfl,hl,hg,kp,bd,h5⟩
 have U:g.length=(1 + a).toNat:=hl
 have an:g ≠ []:=λe=>by rw [e] at U;simp at U;omega
 have aq:zE [s] HC B:=zE.drop (a:=acc) kp l
 have T:zE [s] HA B:=(ak.mono (by simp)).trans aq
 have be:=b3.trans T
 refine d _ _ (sq λn d=>?_)
 refine ⟨_,rfl,?_⟩
 refine d _ _ (sq λn d=>?_)
 have fin:∀ bb al as J,J al=some (.lst (as.map V.str))->as ≠ []->as.length <= 12->(∀ z ∈ as,yR z)->zE [s] B J->n [some (.int c),some (.ref s),some (.bl bb),some (.ref mm),some (.int wn),some (.ref nh),some (.ref nl),some (.ref so),some (.ref acc),some (.ref al)] J:=by
  intro bb al as J bf bg bm bh I
  have Y:=I _ _ (by simp [a5]) (T _ _ (by simp [a5]) a4)
  have bi:=I _ _ (by simp [ah]) (aq _ _ (by simp [ah]) (kC.z eB))
  have bj:=I _ _ (by simp [sa]) h5
  have au:=I _ _ (by simp [M]) (T _ _ (by simp [M]) eA)
  refine d _ _ ?_
  refine ⟨_,rfl,_,rfl,_,rfl,mm,_,0,_,rfl,rfl,au,at0 _ _,_,rfl,nh,_,rfl,.of Y,λow a6=>⟨_,rfl,_,rfl,_,rfl,_,rfl,mm,_,3,_,rfl,rfl,(zE.new (S:=[]) a6).z au,at3 _ _ _ _ _,_,rfl,al,_,rfl,.of ((zE.new (S:=[]) a6).z bf),λao av=>⟨_,rfl,by show 6 <= sizeLine;decide,λt ht=>?_⟩⟩⟩
  rw [i7 p (by omega),i7 as (by omega)] at *
  have kx:=zE.new (S:=[]) (o:=.tup [.ref nh,.ref ow,.ref nl,.ref acc,.ref ao,.int wn]) ht
  have kt:=((zE.new (S:=[]) a6).trans (zE.new (S:=[]) av)).trans kx
  have eo:=((zE.new (S:=[]) av).trans kx).z (zC (H:=J) (a:=ow))
  have ea:=kx.z (zC (H:=upd J ow _) (a:=ao))
  refine q t nh ow nl acc ao wn p k _ _ g _ zC (kt.z Y) eo (kt.z bi) (kt.z bj) ea gz D (nd.sublist (List.take_sublist _ _)) ?_ (by rw [zM2];omega) (by rw [zM2];omega) (λz h=>List.mem_of_mem_drop (sub z h)) ba b4 an (by omega) hg (λz h=>bh z (List.mem_of_mem_take h)) ?_ (by rw [zM2];omega) (((be.trans I).trans (kt.mono (by simp))).drop hs)
  ·intro z L
   refine ⟨List.mem_of_mem_take L,λhb=>?_⟩
   rw [<- List.take_append_drop 3 p] at nd
   have h3:z ∈ p.take 3:=by
    have e:p.take (2 + (km:Int)).toNat=(p.take 3).take (2 + (km:Int)).toNat:=by rw [List.take_take,Nat.min_eq_left (by omega)]
    rw [e] at L
    exact List.mem_of_mem_take L
   exact (List.nodup_append.mp nd).2.2 z h3 z (sub z hb) rfl
  ·intro e
   have l1:=congrArg List.length e
   rw [zM2,List.length_nil] at l1
   have l2:0 < as.length:=zM9.mpr bg
   omega
 refine ⟨_,rfl,?_⟩
 refine ⟨_,rfl,?_⟩
 cases decide (V.int u=V.int 1) with
 | true=>exact fin true nh p B (T _ _ (by simp [a5]) a4) (λe=>by rw [e] at D;simp at D) (by omega) gz (zE.refl _)
 | false=>
  refine ⟨_,rfl,s,10,rfl,bd,by decide,by decide,λal as J _ e6 l6 g6 _ k6 _=>?_⟩
  have aw:as.length=10:=l6
  exact fin false al as J e6 (λe=>by rw [e] at aw;simp at aw) (by omega) g6 k6
end
theorem zGC:∀ {l l':List Str},l.Nodup->(∀ z ∈ l,z ∈ l')->l.length <= l'.length
 | [],_,_,_=>zMT _
 | z :: l,l',d,h=>by
  obtain ⟨n1,n2⟩:=List.nodup_cons.mp d
  have b:=h z (by simp)
  have a:=zGC (l:=l) (l':=l'.erase z) n2 λy c=>(List.mem_erase_of_ne (by rintro rfl;exact n1 c)).mpr (h y (by simp [c]))
  rw [List.length_erase_of_mem b] at a
  have:=List.length_pos_of_mem b
  rw [zM4];omega
theorem zBF (a:AtR o ss h i s d) (e:drV f=hdV h):∀ z ∈ yZ (ss.set i (yC (xG s d)).1),z ∈ yZ ss \/ f.nm=.str z:=by
 have k:=a.here
 have m:=(zML.mp k).1
 intro z n
 obtain ⟨j,t,g,c⟩:=wM.mp n
 by_cases l:j=i
 ·subst l
  rw [zNG m] at g
  cases g
  rw [iJ] at c
  have old:z ∈ wZ s->z ∈ yZ ss \/ f.nm=.str z:=λh=>.inl (wM.mpr ⟨_,s,k,h⟩)
  have nm:∀ {w:Str} {y:V} {r},drV f=.str w :: y :: r->f.nm=y:=λ{w y r} h=>by
   cases f <;> (simp only [drV] at h;exact (List.cons.inj (List.cons.inj h).2).1)
  rw [xD] at c
  cases a with
  | any _ _ _ _=>
   rcases c with h | h
   ·exact old (xD.mpr (.inl h))
   ·rcases zM0.mp (show askR z ∈ s.row ++ [askR _] from h) with h | h
    ·exact old (xD.mpr (.inr h))
    ·have:=zMM.mp h
     injection this with _ this
     exact .inr (by rw [nm e,this])
  | want _ _ _=>
   rcases c with h | h
   ·exact old (xD.mpr (.inl h))
   ·rcases zM0.mp (show askR z ∈ s.row ++ [askR _] from h) with h | h
    ·exact old (xD.mpr (.inr h))
    ·have:=zMM.mp h
     injection this with _ this
     exact .inr (by rw [nm e,this])
  | leave _ _=>
   rcases c with h | h
   ·exact old (xD.mpr (.inl h))
   ·exact old (xD.mpr (.inr (List.mem_filter.mp (show askR z ∈ s.row.filter _ from h)).1))
  | done _ _=>
   rcases c with h | h
   ·cases h
   ·exact old (xD.mpr (.inr h))
  | ask _ _ _ _ _=>
   rcases c with h | h
   ·exact old (xD.mpr (.inl h))
   ·rcases zM0.mp (show askR z ∈ s.row ++ [hsR _] from h) with h | h
    ·exact old (xD.mpr (.inr h))
    ·exact absurd (zMM.mp h).symm (pW _ _)
  | @come y _ _ b _ _ _=>
   rcases c with h | h
   ·exact old (xD.mpr (.inl h))
   ·cases b with
    | false=>exact old (xD.mpr (.inr h))
    | true=>
     rcases zM0.mp (show askR z ∈ s.row ++ [hsR _] from h) with h | h
     ·exact old (xD.mpr (.inr h))
     ·exact absurd (zMM.mp h).symm (pW _ _)
 ·rw [zNF (Ne.symm l)] at g
  exact .inl (wM.mpr ⟨j,t,g,c⟩)
structure HQ (N:List Str) (m:Nat) (ss:List SS):Prop where
 I:uH 59 ss
 ne:ss ≠ []
 l:ss.length <= 10
 n:∀ z ∈ yZ ss,z ∈ N
 r:∀ s ∈ ss,s.row.length <= m
theorem HQ.hg (h:HQ N m ss) (a:m < 800):HG 59 ss:=⟨h.I,h.ne,h.l,λs b=>Nat.lt_of_le_of_lt (h.r s b) a⟩
theorem HQ.mono (h:HQ N m ss) (a:∀ z ∈ N,z ∈ c) (b:m <= d):HQ c d ss:=⟨h.I,h.ne,h.l,λz e=>a z (h.n z e),λs f=>zMU (h.r s f) b⟩
theorem Nx.hq (x:Nx p e ss b) (h:HQ N m ss) (hz:∀ z,e.nm=.str z->z ∈ N) (f:N.length <= 59) (g:m < 800):HQ N (m + 1) b:=by
 rcases x with rfl | ⟨hd,i,s,d,j,a,rfl⟩
 ·exact h.mono (λ_ h=>h) (Nat.le_succ _)
 ·have I:=h.I.deed a λs k=>Nat.lt_of_le_of_lt (h.r s k) g
  have sub:∀ z ∈ yZ (ss.set i (yC (xG s d)).1),z ∈ N:=λz c=>(zBF a j z c).elim (h.n z) (hz z)
  refine ⟨⟨I.si,I.nd,zMU (zGC I.nd sub) f,I.rl⟩,λz=>h.ne ?_,by rw [zNK];exact h.l,sub,λt o=>?_⟩
  ·have:=congrArg List.length z
   rw [zNK] at this
   exact List.length_eq_zero_iff.mp this
  ·rcases List.mem_or_eq_of_mem_set o with q | rfl
   ·exact Nat.le_succ_of_le (h.r t q)
   ·refine zMU (iN _) ?_
    rw [lG]
    exact zMU (n9 _ _) (Nat.succ_le_succ (h.r s (zMN a.here)))
theorem bP (a:List (Option Str)):yZ (xI a)=[]:=by
 unfold yZ xI
 rw [List.flatMap_map]
 induction a with
 | nil=>rfl
 | cons o a b=>rw [List.flatMap_cons,b];rfl
theorem HQ.fresh {g:List Str} {a:List (Option Str)} (d:∀ z ∈ g,yR z) (sub:∀ z,some z ∈ a->z ∈ g) (ne:a ≠ []) (l:a.length <= 4):HQ [] 0 (xI a):=by
 have f:yZ (xI a)=[]:=bP a
 have b:∀ s ∈ xI a,rK s/\s.row.length <= 0:=λs c=>by
  unfold xI at c
  obtain ⟨o,i,rfl⟩:=List.mem_map.mp c
  exact ⟨⟨λz e=>d z (sub z (by have e:o=some z:=e;rw [<- e];exact i)),λz e=>(by cases e),λx j=>absurd j zND,λz=>zMT _⟩,zMS _⟩
 refine ⟨⟨λs c=>(b s c).1,by rw [f];exact List.nodup_nil,by rw [f];exact zMT _,λs c=>zMU (b s c).2 (by decide)⟩,λe=>ne ?_,?_,λz h=>(by rw [f] at h;cases h),λs c=>(b s c).2⟩
 ·have:=congrArg List.length e
  unfold xI at this
  rw [zMJ] at this
  exact List.length_eq_zero_iff.mp this
 ·unfold xI
  rw [zMJ];omega
theorem zEL {A:Hp->Addr->Addr->SS->Prop} (l:∀ {S:List Addr} {H d:Hp} {u v:Addr} {s:SS},A H u v s->zE S H d->u ∉ S->v ∉ S->(∀ b ∈ S,∀ xs,H b ≠ some (.tup xs))->A d u v s) (there:∀ {H:Hp} {u v:Addr} {s:SS},A H u v s->H u ≠ none/\H v ≠ none)
  {K:W.Frag} {Q:VK} {wl st:Addr} {c:List (Option Str)} {H:Hp} {σ:St} {xs:List Str} {ix:List Nat} {te:TE} (t:∃ v,stC xs ix σ=[v]) (M:H wl=some (.lst (c.map yD))) (la:c.length <= 4) (w:H st=none)
  (a1:∀ (o:Option Str) (d:Hp) (Q':VK),o ∈ c->(∀ u v H2,d u=none->d v=none->A H2 u v ⟨o,[],none,false⟩->zE [] d H2->Q' (.ref u) H2)->te [some (yD o)] d Q')
  (h:∀ (ys:List (Addr × Addr)) (P2:List Addr) (d:Hp),d st=some (.lst (ys.map λy=>V.ref y.1))->(st ∈ P2/\∀ y ∈ ys,y.1 ∈ P2/\y.2 ∈ P2)->((∀ y ∈ ys,y.2 ≠ st)/\ys.Pairwise λa b=>a.1 ≠ b.1/\a.2 ≠ b.2)->ys.length=(xI c).length->(∀ (i:Nat) (y:Addr × Addr) (s:SS),ys[i]?=some y->(xI c)[i]?=some s->A d y.1 y.2 s)->(∀ u ∈ P2,H u=none/\d u ≠ none)->zE [] H d->Q (.ref st) d):LCW (Itl K wl) xs ix (wI 0) sY te σ H st Q:=by
 have a2:wl ≠ st:=zI M w
 obtain ⟨v0,t⟩:=t
 refine uP (K:=K) (a:=wl) (its:=c.map yD) (by rw [zMJ,sizeLine_eq];omega) (λi N τ d=>∃ (n:List (Addr × Addr)) (kk:Option V),τ=[kk]/\N=n.map (λu=>V.ref u.1)/\n.length=i/\(∀ (j:Nat) (u:Addr × Addr),n[j]?=some u->A d u.1 u.2 ⟨c.getD j none,[],none,false⟩)/\(∀ u ∈ n,H u.1=none/\H u.2=none/\u.1 ≠ st/\u.2 ≠ st)/\(n.Pairwise λa b=>a.1 ≠ b.1/\a.2 ≠ b.2)/\zE [st] H d/\d st=some (.lst N)) ⟨[],_,t,rfl,rfl,(λj u e=>by simp at e),(λu p=>by cases p),.nil,zE.at (by simp),zC⟩ ?_ ?_ ?_
 ·rintro i N τ d ⟨n,kk,rfl,rfl,J,_,_,_,O,h⟩
  exact ⟨h,by rw [zMJ];omega,.of (O _ _ (by simp [a2]) M)⟩
 ·rintro i N τ d x T ⟨n,kk,rfl,rfl,J,U,f,B,O,h⟩
  rw [zMP] at T
  cases q:c[i]? with
  | none=>rw [q] at T;cases T
  | some o=>
  rw [q] at T
  have ex:yD o=x:=zMQ T
  subst ex
  have eg:c.getD i none=o:=by rw [zMO,q];rfl
  refine a1 o d _ (zMN q) λu v C p hv D k=>?_
  have h':=k.z h
  have E:u ≠ st:=Ne.symm (zI h p)
  have G:v ≠ st:=Ne.symm (zI h hv)
  have nt:∀ b ∈ [st],∀ xs,C b ≠ some (.tup xs):=λb hb xs z=>by rw [zMM.mp hb,h'] at z;cases z
  have kl:zE [st] C (upd C st (.lst (n.map (λu=>V.ref u.1) ++ [.ref u]))):=zE.at (by simp)
  refine ⟨h',n ++ [(u,v)],_,rfl,by simp,by simp [J],λj z m=>?_,λz I=>?_,?_,(O.trans (k.mono (by simp))).trans kl,zC⟩
  ·by_cases jl:j < n.length
   ·rw [zM7 jl] at m
    obtain ⟨_,_,f1,f2⟩:=f z (zMN m)
    exact l (l (U j z m) k (by simp) (by simp) (λb hb=>by cases hb)) kl (by simpa using f1) (by simpa using f2) nt
   ·rw [zM6 (by omega)] at m
    have Y:j=i:=by
     have:=(zML.mp m).1
     simp at this;omega
    subst Y
    rw [J,Nat.sub_self] at m
    cases m
    rw [eg]
    exact l D kl (by simpa using E) (by simpa using G) nt
  ·rcases zM0.mp I with I | I
   ·exact f z I
   ·rw [zMM.mp I]
    exact ⟨O.none (by simpa using E) p,O.none (by simpa using G) hv,E,G⟩
  ·refine List.pairwise_append.mpr ⟨B,List.pairwise_singleton _ _,λz I z' a3=>?_⟩
   rw [zMM.mp a3]
   obtain ⟨j,m,Y⟩:=List.getElem_of_mem I
   obtain ⟨t1,t2⟩:=there (U j z (by rw [zMK m,Y]))
   exact ⟨λe=>t1 (e ▸ p),λe=>t2 (e ▸ hv)⟩
 rintro N τ H7 ⟨ys,kk,rfl,rfl,J,U,f,B,a0,h7⟩
 rw [zMJ] at J
 refine h ys (st :: (ys.map (·.1) ++ ys.map (·.2))) H7 h7 ⟨by simp,λy g=>⟨?_,?_⟩⟩ ⟨λy g=>(f y g).2.2.2,B⟩ (by unfold xI;rw [zMJ];exact J) (λi y s e1 L=>?_) (λu p=>?_) (a0.drop w)
 ·simp only [List.mem_cons,zM0,List.mem_map];exact .inr (.inl ⟨y,g,rfl⟩)
 ·simp only [List.mem_cons,zM0,List.mem_map];exact .inr (.inr ⟨y,g,rfl⟩)
 ·unfold xI at L
  rw [zMP] at L
  cases q:c[i]? with
  | none=>rw [q] at L;cases L
  | some o=>
  rw [q] at L
  have es:(⟨o,[],none,false⟩:SS)=s:=zMQ L
  subst es
  have:=U i y e1
  rw [zMO,q] at this
  exact this
 ·simp only [List.mem_cons,zM0,List.mem_map] at p
  have r:∀ y ∈ ys,H7 y.1 ≠ none/\H7 y.2 ≠ none:=λy g=>by
   obtain ⟨j,m,Y⟩:=List.getElem_of_mem g
   exact there (U j y (by rw [zMK m,Y]))
  rcases p with rfl | ⟨y,g,rfl⟩ | ⟨y,g,rfl⟩
  ·exact ⟨w,(by rw [h7];nofun)⟩
  ·exact ⟨(f y g).1,(r y g).1⟩
  ·exact ⟨(f y g).2.1,(r y g).2⟩
theorem DAt.there (D:DAt H u v s):H u ≠ none/\H v ≠ none:=by
 obtain ⟨_,w,_⟩:=D.rw
 exact ⟨(by rw [D.d];nofun),(by rw [w];nofun)⟩
structure HL (C CS:Addr) (nb:List Str) (ars:List (Option Str)) (H0 H:Hp) (cs:List uY):Prop where
 ho:∀ c ∈ cs,z7 (· ∈ c.P) C CS H c.p c.nm nb c.xs (xI ars)
 al:∀ c ∈ cs,(∀ u ∈ c.P,H u ≠ none/\H0 u=none)/\H c.p ≠ none/\H0 c.p=none
 dp:cs.Pairwise λa b=>∀ u ∈ a.P,u ∉ b.P
 pp:∀ a ∈ cs,∀ b ∈ cs,b.p ∉ a.P
 k:zE [] H0 H
theorem HL.on (L:HL C CS g e i H j) (k:zE [] H l):HL C CS g e i l j:=⟨λc h=>(L.ho c h).on k,λc h=>let ⟨a,b,d⟩:=L.al c h;⟨λu f=>⟨λz=>(a u f).1 (k.none (by simp) z),(a u f).2⟩,λz=>b (k.none (by simp) z),d⟩,L.dp,L.pp,L.k.trans k⟩
theorem HL.push (L:HL C CS o g s H t) (k:zE [] H m) (q:z7 (· ∈ P) C CS m p nm o xs (xI g)) (r:H p=none) (i:∀ u ∈ P,H u=none/\m u ≠ none/\u ≠ p):HL C CS o g s m (t ++ [⟨p,st,nm,xs,ys,P,Q⟩]):=by
 have n:=L.on k
 refine ⟨λc h=>?_,λc h=>?_,?_,λa f b d=>?_,n.k⟩
 ·rcases zM0.mp h with h | h
  ·exact n.ho c h
  ·rw [zMM.mp h];exact q
 ·rcases zM0.mp h with h | h
  ·exact n.al c h
  ·rw [zMM.mp h]
   obtain ⟨v,_,_,e⟩:=q.ob
   exact ⟨λu l=>⟨(i u l).2.1,L.k.none (by simp) (i u l).1⟩,(by rw [e];nofun),L.k.none (by simp) r⟩
 ·refine List.pairwise_append.mpr ⟨L.dp,List.pairwise_singleton _ _,λa f b d u l j=>?_⟩
  rw [zMM.mp d] at j
  exact ((L.al a f).1 u l).1 (i u j).1
 ·rcases zM0.mp f with f | f
  ·rcases zM0.mp d with d | d
   ·exact L.pp a f b d
   ·rw [zMM.mp d]
    exact λz=>((L.al a f).1 _ z).1 r
  ·rw [zMM.mp f]
   rcases zM0.mp d with d | d
   ·exact λz=>(L.al b d).2.1 (i _ z).1
   ·rw [zMM.mp d]
    exact λz=>(i _ z).2.2 rfl
theorem HL.at (L:HL C CS m d g H i) (k:zE [r] H f) (n:g r=none) (j:∀ c ∈ i,r ≠ c.p/\r ∉ c.P) (o:∀ xs,H r ≠ some (.tup xs)) (q:f r ≠ none):HL C CS m d g f i:=by
 have a:∀ {u},H u ≠ none->f u ≠ none:=λ{u} h z=>by
  by_cases e:u=r
  ·exact q (e ▸ z)
  ·exact h (k.none (by simp [e]) z)
 exact ⟨λc h=>(L.ho c h).keep k λb s=>(by rw [zMM.mp s];exact ⟨(j c h).1,(j c h).2,o⟩),λc h=>⟨λu l=>⟨a ((L.al c h).1 u l).1,((L.al c h).1 u l).2⟩,a (L.al c h).2.1,(L.al c h).2.2⟩,L.dp,L.pp,((L.k.mono (by simp)).trans k).drop n⟩
structure zI1 where
 st:Addr
 ys:List (Addr × Addr)
 Q:List Addr
structure SL (ars:List (Option Str)) (H0 H:Hp) (ds:List zI1):Prop where
 sa:∀ d ∈ ds,wO (· ∈ d.Q) H d.st d.ys (xI ars)
 al:∀ d ∈ ds,∀ u ∈ d.Q,H u ≠ none/\H0 u=none
 dp:ds.Pairwise λa b=>∀ u ∈ a.Q,u ∉ b.Q
 k:zE [] H0 H
theorem SL.on (L:SL a d H ds) (k:zE [] H e):SL a d e ds:=⟨λc h=>(L.sa c h).on k,λc h u b=>⟨λz=>(L.al c h u b).1 (k.none (by simp) z),(L.al c h u b).2⟩,L.dp,L.k.trans k⟩
theorem SL.push (L:SL d l H ds) (k:zE [] H g) (m:wO (· ∈ Q) g st ys (xI d)) (i:∀ u ∈ Q,H u=none/\g u ≠ none):SL d l g (ds ++ [⟨st,ys,Q⟩]):=by
 have j:=L.on k
 refine ⟨λc h=>?_,λc h=>?_,?_,j.k⟩
 ·rcases zM0.mp h with h | h
  ·exact j.sa c h
  ·rw [zMM.mp h];exact m
 ·rcases zM0.mp h with h | h
  ·exact j.al c h
  ·rw [zMM.mp h]
   exact λu f=>⟨(i u f).2,L.k.none (by simp) (i u f).1⟩
 ·refine List.pairwise_append.mpr ⟨L.dp,List.pairwise_singleton _ _,λa n b o u f e=>?_⟩
  rw [zMM.mp o] at e
  exact (L.al a n u f).1 (i u e).1
theorem SL.at (L:SL a g H ds) (k:zE [r] H d) (j:g r=none) (l:∀ c ∈ ds,r ∉ c.Q) (m:∀ xs,H r ≠ some (.tup xs)) (n:d r ≠ none):SL a g d ds:=by
 have f:∀ {u},H u ≠ none->d u ≠ none:=λ{u} h z=>by
  by_cases e:u=r
  ·exact n (e ▸ z)
  ·exact h (k.none (by simp [e]) z)
 exact ⟨λc h=>(L.sa c h).keep k λb o=>(by rw [zMM.mp o];exact ⟨l c h,m⟩),λc h u i=>⟨f (L.al c h u i).1,(L.al c h u i).2⟩,L.dp,((L.k.mono (by simp)).trans k).drop j⟩
noncomputable def jI (c:uY) (d:zI1):uY:={ c with st:=d.st,ys:=d.ys,Q:=d.Q }
theorem zF4 {c:Type} {R:c->c->Prop} {l:List c} (p:l.Pairwise R) (s:∀ a b,R a b->R b a) {i j:Nat} {a b:c} (h:l[i]?=some a) (k:l[j]?=some b) (n:i ≠ j):R a b:=by
 obtain ⟨d,e⟩:=zML.mp h
 obtain ⟨f,g⟩:=zML.mp k
 rcases Nat.lt_or_gt_of_ne n with l | l
 ·have:=List.pairwise_iff_getElem.mp p i j d f l
  rwa [e,g] at this
 ·have:=List.pairwise_iff_getElem.mp p j i f d l
  rw [e,g] at this
  exact s _ _ this
theorem zEK (L:HL C CS T r U Y o) (M:SL r Y H ds) (e:ds.length=o.length):∃ x:List uY,x.length=o.length/\MB x/\MK C CS T x H (List.replicate o.length (xI r)) (List.replicate o.length (xI r))/\(x.map λc=>V.ref c.p)=(o.map λc=>V.ref c.p)/\(x.map λc=>V.ref c.st)=(ds.map λd=>V.ref d.st)/\∀ u ∈ tD x,U u=none/\H u ≠ none/\((∃ c ∈ o,u ∈ c.P) \/ ∃ d ∈ ds,u ∈ d.Q):=by
 have z:=L.on M.k
 have A:(List.zipWith jI o ds).length=o.length:=by rw [List.length_zipWith,e,Nat.min_self]
 have s:∀ {j:Nat} {f:uY},(List.zipWith jI o ds)[j]?=some f->∃ c d,o[j]?=some c/\ds[j]?=some d/\f=jI c d:=λ{j f} h=>by
  rw [List.getElem?_zipWith] at h
  cases l:o[j]? with
  | none=>rw [l] at h;cases h
  | some c=>
   cases hd:ds[j]? with
   | none=>rw [l,hd] at h;cases h
   | some d=>rw [l,hd] at h;exact ⟨c,d,rfl,rfl,(zMQ h).symm⟩
 have mem:∀ f ∈ List.zipWith jI o ds,∃ c d,c ∈ o/\d ∈ ds/\f=jI c d:=λf q=>by
  obtain ⟨j,hj,ej⟩:=List.getElem_of_mem q
  obtain ⟨c,d,ec,ed,ef⟩:=s (j:=j) (by rw [zMK hj,ej])
  exact ⟨c,d,zMN ec,zMN ed,ef⟩
 have B:∀ c ∈ o,∀ d ∈ ds,∀ u ∈ c.P,u ∉ d.Q:=λc l d hd u m v=>((L.al c l).1 u m).1 (M.al d hd u v).2
 have rep:∀ {j:Nat} {a:List SS},(List.replicate o.length (xI r))[j]?=some a->a=xI r:=λ{j a} h=>List.eq_of_mem_replicate (zMN h)
 refine ⟨List.zipWith jI o ds,A,⟨λf q u m=>?_,λi j f g q D n u m=>?_,λf q g D=>?_⟩,⟨by rw [List.length_replicate,A],by rw [List.length_replicate,A],λj f a q E=>?_,λj f a q E=>?_,λu m=>?_⟩,?_,?_,λu m=>?_⟩
 ·obtain ⟨c,d,l,hd,rfl⟩:=mem f q
  exact B c l d hd u m
 ·obtain ⟨c,d,l,hd,rfl⟩:=s q
  obtain ⟨y,J,t,w,rfl⟩:=s D
  have mc:=zMN l;have md:=zMN hd;have G:=zMN t;have I:=zMN w
  have N:∀ {O:Type} {F:O->List Addr} (a b:O),(∀ u ∈ F a,u ∉ F b)->∀ u ∈ F b,u ∉ F a:=λa b h u m v=>h u v m
  refine λh=>?_
  rcases zM0.mp m with m | m <;> rcases zM0.mp h with h | h
  ·exact zF4 L.dp N l t n u m h
  ·exact B c mc J I u m h
  ·exact B y G d md u h m
  ·exact zF4 M.dp N hd w n u m h
 ·obtain ⟨c,d,l,hd,rfl⟩:=mem f q
  obtain ⟨y,J,t,w,rfl⟩:=mem g D
  refine λh=>?_
  rcases zM0.mp h with h | h
  ·exact L.pp c l y t h
  ·exact (L.al y t).2.1 (M.al d hd _ h).2
 ·obtain ⟨c,d,l,hd,rfl⟩:=s q
  rw [rep E]
  exact z.ho c (zMN l)
 ·obtain ⟨c,d,l,hd,rfl⟩:=s q
  rw [rep E]
  exact M.sa d (zMN hd)
 ·obtain ⟨f,q,m⟩:=List.mem_flatMap.mp m
  obtain ⟨c,d,l,hd,rfl⟩:=mem f q
  rcases zM0.mp m with h | h
  ·exact ((z.al c l).1 u h).1
  ·exact (M.al d hd u h).1
 ·apply List.ext_getElem?
  intro j
  rw [zMP,zMP,List.getElem?_zipWith]
  rcases Nat.lt_or_ge j o.length with h | h
  ·rw [zMK h,zMK (by omega)];rfl
  ·rw [List.getElem?_eq_none h]
 ·apply List.ext_getElem?
  intro j
  rw [zMP,zMP,List.getElem?_zipWith]
  rcases Nat.lt_or_ge j o.length with h | h
  ·rw [zMK h,zMK (show j < ds.length by omega)];rfl
  ·rw [List.getElem?_eq_none h,List.getElem?_eq_none (show ds.length <= j by omega)];rfl
 ·obtain ⟨f,q,m⟩:=List.mem_flatMap.mp m
  obtain ⟨c,d,l,hd,rfl⟩:=mem f q
  rcases zM0.mp m with h | h
  ·exact ⟨((L.al c l).1 u h).2,((z.al c l).1 u h).1,.inl ⟨c,l,h⟩⟩
  ·exact ⟨L.k.none (by simp) (M.al d hd u h).2,(M.al d hd u h).1,.inr ⟨d,hd,h⟩⟩
noncomputable abbrev pK:Stmt:=top 62
noncomputable def zKN (sc scope:Scope):Scope:={ scope with names:=scope.names.map λ(n,k)=>if (k == .free && sc.kind == .function && sc.names.lookup n == some .cell) then (n,.cell) else (n,k) }
noncomputable def zER:Expr->Scope
 | .ListComp _ _ s _=>s
 | _=>{ kind:=.function,names:=[],isGenerator:=false,isCoroutine:=false }
noncomputable def zIV:Stmt->Expr
 | .Assign _ v _=>v
 | _=>.Constant .none 0 ⟨0,0,0,0⟩
section
variable {P:Program} {w:World} {K:W.Frag} {mg:Str->Option Value} {base:Heap} {C CS:Addr}
theorem scL:zO N0 ["_law_script"] (zG pK):=scm
theorem oU {a b:Type} {F:a->b->Prop} {xs:List a} {ys:List b} (h:Paired F xs ys):∀ n,Paired F (List.replicate n xs).flatten (List.replicate n ys).flatten
 | 0=>.nil
 | n + 1=>by
  rw [List.replicate_succ,List.flatten_cons,List.replicate_succ,List.flatten_cons]
  exact vY h (oU h n)
theorem MK.far (w:MK C CS s n H as bs) (k:zE [r] H o) (p:r ∉ tD n) (g:H r=some (.lst xs)) (i:o r=some (.lst ys)):MK C CS s n o as bs:=by
 refine ⟨w.la,w.lb,λj c a d f=>(w.ho j c a d f).keep k λu l=>?_,λj c b d f=>(w.sa j c b d f).keep k λu l=>?_,λu h z=>?_⟩
 ·rw [zMM.mp l]
  refine ⟨λz=>?_,λz=>p (uC (zMN d) (zM0.mpr (.inl z))),λm h=>by rw [g] at h;cases h⟩
  obtain ⟨_,_,_,e⟩:=(w.ho j c a d f).ob
  rw [<- z,g] at e;cases e
 ·rw [zMM.mp l]
  exact ⟨λz=>p (uC (zMN d) (zM0.mpr (.inr z))),λm h=>by rw [g] at h;cases h⟩
 ·by_cases q:u=r
  ·rw [q,i] at z;cases z
  ·exact w.al u h (k.none (by simp [q]) z)
noncomputable def eL (K:W.Frag):Sp:=λc H Q _=>∃ (a:Addr) (b:List Int),c=[.ref a]/\SqL K H a (b.map V.int)/\b.length <= 63/\∀ d,Q (.bl true) d
theorem zK2 {f:Addr} {fd:FuncData} (G:Fun K "law" "law" pK f fd) (CC:Cal P w K mg base CX0 1 Te NI (aY K)) (CD:Cal P w K mg base CX0 1 SV NE oG) (CN:Cal P w K mg base CX0 2 Ss N8 tN) (CB:Cal P w K mg base CX0 4 "_law_begun" NE zJX) (MH:h9 P w K mg base CX0 4 C "House" Nv (zG5 K C CS)) (e3:Cal P w K mg base CX0 1 "_law_state" NT eE)
  (e4:Cal P w K mg base CX0 5 "_law_drawn" Nb (zJT K)) (CT:Cal P w K mg base CX0 8 "_law_told" N9 (zJF K C CS)) (b2:Blt mg Sc) (ao:Blt mg "list") (a6:Blt mg "enumerate"):tJ P w K mg base CX0 9 f fd ["_law_script"] (eL K):=by
 refine G.oz scL (λfi A e5 s0 H vs Q E hr h=>?_)
 obtain ⟨a,ns,rfl,hS,fg,fin⟩:=h
 have e7:z6 8 _:=hr
 have ct:z6 5 _:=hr.mono (by decide)
 have e8:z6 4 _:=hr.mono (by decide)
 have c4:z6 2 _:=hr.mono (by decide)
 have c5:z6 1 _:=hr.mono (by decide)
 refine ⟨_,(zD (zX (i:=1) scL.nd rfl (Or.inl rfl) (zN CB e8 (zA (zN CC c5 (zA (pv 0) (zA zH zB))) zB)))
   (zD (qQ (pv 1) (u7 rfl (yT (yL (i:=2) scL.nd rfl (Or.inl rfl)) (yT (yL (i:=3) scL.nd rfl (Or.inl rfl)) (yT (yL (i:=4) scL.nd rfl (Or.inr rfl)) (yT (yL (i:=5) scL.nd rfl (Or.inr rfl)) (yT (yL (i:=6) scL.nd rfl (Or.inl rfl)) (yT (yL (i:=7) scL.nd rfl (Or.inl rfl)) uA))))))))
   (zD (zX (i:=8) scL.nd rfl (Or.inr rfl) (yN (zA (xE uI rfl ao.no vR (zA (pv 4) zB)) (zA (xE uI rfl ao.no vR (zA (pv 5) zB)) zB))))
   (zD (qP (i:=9) scL.nd rfl (Or.inl rfl) (N:=N0) (sc:=zG pK) (ix:=[8]) (by decide +kernel) (xR (pv 3)) (λ_ _ _ _=>xQ) (λ_ _ _ _=>(zF9 MH ct (zA (pv 0) (zA (zS zV (pv 1) zH (λ_ _=>rfl)) (zA (zS zV (pv 1) zH (λ_ _=>rfl)) zB))))))
   (zD (qP (i:=10) scL.nd rfl (Or.inl rfl) (N:=N0) (sc:=zG pK) (ix:=[5]) (by decide +kernel) (xR (pv 3)) (λ_ _ _ _=>xQ) (λ_ _ _ _=>(vX (N:=[SQ,"_law_ways"]) (sc:=zKN (zG pK) (zER (zIV ((y8 pK).getD 4 (.Pass ⟨0,0,0,0⟩))))) (ix:=[]) (by decide +kernel) (iA (K:=K) (pv 1)) (λ_ _ _ _=>xQ) (λ_ _ _ _=>(zN e3 c5 (zA (pv 0) zB))))))
   (zD (z5 (zQ (zHR (hu4 hr)) (pv 8) (yN (zA (pv 4) (zA (pv 5) zB))) (zW _)) (zF (zL wH)) zM)
   (zD (uM PassesOwn.never rfl (oT rfl a6.no (wB pM (pv 0) (wA zH) (wA zH))) (u7 rfl (yT (yL (i:=11) scL.nd rfl (Or.inl rfl)) (yT (yL (i:=12) scL.nd rfl (Or.inl rfl)) uA))) (zD (zX (i:=13) scL.nd rfl (Or.inl rfl) (zN CD c5 (zA (pv 12) zB)))
   (zD (zX (i:=14) scL.nd rfl (Or.inl rfl) (zN CN c4 (zA (pv 13) (zA (zY z8 b2 yS (zA (pv 9) zB)) zB))))
   (zD (zX (i:=15) scL.nd rfl (Or.inl rfl) (yK xV zH (zN CN c4 (zA (pv 13) (zA zH zB)))))
   (zD (zX (i:=16) scL.nd rfl (Or.inl rfl) (zN CN c4 (zA (pv 13) (zA zH zB))))
   (zD (zX (i:=17) scL.nd rfl (Or.inl rfl) (zS zV (pv 10) (pv 14) (λ_ _=>rfl)))
   (zD (zX (i:=18) scL.nd rfl (Or.inl rfl) (zN e4 ct (zA (pv 13) (zA (pv 17) (zA (pv 6) (zA (pv 4) (zA (yK u9 (pv 2) (pv 6)) zB)))))))
   (zD (z5 (zQ y6 (zY z8 b2 yS (zA (pv 18) zB)) zH (zW _)) (zF (zX (i:=18) scL.nd rfl (Or.inl rfl) (yK zHP (pv 18) (pv 15)))) zM)
   (zD (uM PassesOwn.never rfl (xR (pv 18)) (yL (i:=19) scL.nd rfl (Or.inl rfl)) (zF (z5 (y9 (y3 (zN CT e7 (zA (pv 9) (zA (pv 10) (zA (pv 14) (zA (pv 19) (zA (pv 16) (zA (pv 4) zB))))))))) (zF (zL wH)) zM)))
   (zF (z5 (zQ y6 (pv 11) (pv 7) (zW _)) (zD (yA (vN F.plainAttrs_list F.slot_list_extend F.type_list_extend c6 (zS zV (pv 8) zH (λ_ _=>rfl)) (zA (vX (N:=N0) (sc:=zG pK) (ix:=[4]) (by decide +kernel) (xR (pv 2)) (λ_ _ _ _=>(pU (zQ fA (pv 0) (pv 1) (by with_unfolding_all rfl)))) (λ_ _ _ _=>(pv 0))) zB)))
   (zD (yA (gY F.plainAttrs_list F.slot_list_reverse F.type_list_reverse fD (zS zV (pv 8) zH (λ_ _=>rfl))))
   (zF (yA (gY F.plainAttrs_list F.slot_list_clear F.type_list_clear iM (zS zV (pv 8) zH (λ_ _=>rfl))))))) zM)))))))))))
   (zF (zL wH))))))))),?_⟩
 refine sq λn O=>?_
 refine ⟨_,rfl,a,ns,0,rfl,hS,by decide,λv0=>⟨v0,rfl,λt nh ow nl wl al wn zs nb as os a4 H1 et cu e9 ca cb cv gz lz fj oz o2 o3 eb ed fk na la sub cw cx fm k1=>?_⟩⟩
 refine O _ _ (sq λn O=>?_)
 refine ⟨_,rfl,t,_,rfl,.of et,rfl,_,_,rfl,_,_,rfl,_,_,rfl,_,_,rfl,_,_,rfl,_,_,rfl,rfl,?_⟩
 refine O _ _ (sq λn O=>?_)
 refine ⟨_,rfl,nl,_,rfl,.inl (.of ca),λU bk=>⟨_,rfl,wl,_,rfl,.inl (.of ((zE.new (S:=[]) bk).z cb)),λh1 cc=>⟨by show 2 <= sizeLine;decide,λhd cy=>?_⟩⟩⟩
 have kx:=zE.new (S:=[]) (o:=.lst (nb.map V.str)) bk
 have ky:=zE.new (S:=[]) (o:=.lst (a4.map yD)) cc
 have kz:=zE.new (S:=[]) (o:=.lst [.ref U,.ref h1]) cy
 have ae:=(ky.trans kz).z (zC (H:=H1) (a:=U) (o:=.lst (nb.map V.str)))
 have af:=kz.z (zC (H:=upd H1 U (.lst (nb.map V.str))) (a:=h1) (o:=.lst (a4.map yD)))
 have a2:=zC (H:=upd (upd H1 U (.lst (nb.map V.str))) h1 (.lst (a4.map yD))) (a:=hd) (o:=.lst [.ref U,.ref h1])
 have k2:=(kx.trans ky).trans kz
 have cf:h1 ≠ U:=(zI (zC (H:=H1) (a:=U) (o:=.lst (nb.map V.str))) cc).symm
 generalize upd (upd (upd H1 U _) h1 _) hd _=H2 at k2 ae af a2 ⊢
 clear kx ky kz cy
 refine O _ _ (sq λn O=>?_)
 have aq:=k2.z e9
 refine ⟨_,rfl,ow,rfl,⟨_,.of aq⟩,λacc a5=>?_⟩
 have bm:∀ z ∈ nb,yR z:=λz h=>gz z (eb z h)
 have fo:ow ≠ acc:=zI aq a5
 have fq:hd ≠ acc:=zI a2 a5
 have ef:U ≠ acc:=zI ae a5
 have eg:h1 ≠ acc:=zI af a5
 refine uP (K:=K) (a:=ow) (its:=os.map V.str) (by rw [zMJ,sizeLine_eq];omega) (λi ws τ J=>∃ cs kk,τ=[kk,some (.ref hd)]/\ws=cs.map (λc=>V.ref c.p)/\cs.length=i/\HL C CS nb a4 H2 J cs/\(∀ c ∈ cs,acc ≠ c.p/\acc ∉ c.P)/\J acc=some (.lst ws)) ⟨[],_,rfl,rfl,rfl,⟨nofun,nofun,.nil,nofun,zE.new a5⟩,nofun,zC⟩ ?_ ?_ ?_
 ·rintro i ws τ J ⟨cs,kk,rfl,rfl,hl,L,_,h⟩
  exact ⟨h,by rw [zMJ];omega,.of (L.k.z aq)⟩
 ·rintro i ws τ J x hx ⟨cs,kk,rfl,rfl,hl,L,fr,h⟩
  obtain ⟨nm,en,rfl⟩:=gm hx
  have mo:=oz nm (zMN en)
  refine ⟨_,rfl,_,rfl,hd,_,0,_,rfl,rfl,L.k.z a2,at0 _ _,_,rfl,hd,_,1,_,rfl,rfl,L.k.z a2,at1 _ _ _,λp dx hp eh ei=>?_⟩
  have kB:zE [] J (upd (upd J dx (.own p)) p (.ins C dx [])):=(zE.new eh).trans (zE.new (by rw [zK ei.symm];exact hp))
  have eB:upd (upd J dx (.own p)) p (.ins C dx []) p=some (.ins C dx []):=zC
  generalize upd (upd J dx (.own p)) p (.ins C dx [])=HB at kB eB ⊢
  refine ⟨p,dx,U,h1,nm,nb,a4,rfl,eB,kB.z (L.k.z ae),kB.z (L.k.z af),gz nm mo.1,bm,ed,mo.2,by omega,na,by omega,sub,λxs H6 hh k6=>⟨rfl,?_⟩⟩
  obtain ⟨Q,hq,hQ⟩:=hh.parts
  have k':zE [] J H6:=kB.under k6 (by intro b hb;rw [zMM.mp hb];exact hp)
  have e6:=k'.z h
  have ap:acc ≠ p:=λe=>by rw [e,hp] at h;cases h
  have aQ:acc ∉ Q:=λhm=>by have:=kB.z h;rw [(hQ acc hm).1] at this;cases this
  have L6:=L.push (st:=0) (ys:=[]) (Q:=[]) k' hq hp λu hu=>⟨kB.none (by simp) (hQ u hu).1,(hQ u hu).2⟩
  have b3:∀ c ∈ cs ++ [(⟨p,0,nm,xs,[],Q,[]⟩:uY)],acc ≠ c.p/\acc ∉ c.P:=λc hc=>by
   rcases zM0.mp hc with hc | hc
   ·exact fr c hc
   ·rw [zMM.mp hc];exact ⟨ap,aQ⟩
  exact ⟨e6,_,_,rfl,by rw [zMV];rfl,by rw [zM1,hl];rfl,L6.at (zE.at (by simp)) a5 b3 (λxs z=>by rw [e6] at z;cases z) (by rw [zC];nofun),b3,zC⟩
 rintro ws τ H3 ⟨cs,kk,rfl,rfl,hl,L,d2,ea⟩
 rw [zMJ] at hl
 refine O _ _ (sq λn O=>?_)
 have bt:=L.k.z aq
 refine ⟨_,rfl,ow,rfl,⟨_,.of bt⟩,λsc b4=>?_⟩
 refine uP (K:=K) (a:=ow) (its:=os.map V.str) (by rw [zMJ,sizeLine_eq];omega) (λi ws τ J=>∃ ds kk,τ=[kk,some (.ref wl)]/\ws=ds.map (λd=>V.ref d.st)/\ds.length=i/\SL a4 H3 J ds/\(∀ d ∈ ds,sc ∉ d.Q)/\J sc=some (.lst ws)) ⟨[],_,rfl,rfl,rfl,⟨nofun,nofun,.nil,zE.new b4⟩,nofun,zC⟩ ?_ ?_ ?_
 ·rintro i ws τ J ⟨ds,kk,rfl,rfl,hm,M,_,h⟩
  exact ⟨h,by rw [zMJ];omega,.of (M.k.z bt)⟩
 ·rintro i ws τ J x hx ⟨ds,kk,rfl,rfl,hm,M,fr,h⟩
  obtain ⟨nm,en,rfl⟩:=gm hx
  have bu:=((k2.trans L.k).trans M.k).z cb
  refine ⟨_,rfl,wl,rfl,⟨_,.of bu⟩,λst ej=>zEL (A:=DAt) (λs k a b n=>s.keepS k a b n) DAt.there ⟨_,rfl⟩ bu la ej ?_ λys Q2 H6 f1 f2 f3 f4 f5 hQ k6=>?_⟩
  ·intro ar Hc Q' ft hq
   exact ⟨_,rfl,ar,rfl,λu v ek hu hv D k=>hq u v ek hu hv D k⟩
  have SA:wO (· ∈ Q2) H6 st ys (xI a4):=⟨f1,f2,f3,f4,f5⟩
  have e6:=k6.z h
  have aQ:sc ∉ Q2:=λhm=>by rw [(hQ sc hm).1] at h;cases h
  have M6:=M.push k6 SA hQ
  have b3:∀ d ∈ ds ++ [(⟨st,ys,Q2⟩:zI1)],sc ∉ d.Q:=λd hd=>by
   rcases zM0.mp hd with hd | hd
   ·exact fr d hd
   ·rw [zMM.mp hd];exact aQ
  exact ⟨e6,_,_,rfl,by rw [zMV];rfl,by rw [zM1,hm];rfl,M6.at (zE.at (by simp)) b4 b3 (λxs z=>by rw [e6] at z;cases z) (by rw [zC];nofun),b3,zC⟩
 rintro ws τ H4 ⟨ds,fu,rfl,rfl,hm,M,d3,ec⟩
 rw [zMJ] at hm
 obtain ⟨fs,lf,B,w,fp,fst,bn⟩:=zEK L M (hm.trans hl.symm)
 have ba:acc ∉ tD fs:=λh=>(bn acc h).2.2.elim (λ⟨c,hc,q⟩=>(d2 c hc).2 q) λ⟨d,hd,q⟩=>by have:=(M.al d hd _ q).2;rw [ea] at this;cases this
 have cg:sc ∉ tD fs:=λh=>(bn sc h).2.2.elim (λ⟨c,hc,q⟩=>((L.al c hc).1 _ q).1 b4) λ⟨d,hd,q⟩=>d3 d hd q
 have n2:∀ {u:Addr},H2 u ≠ none->u ∉ tD fs:=λh z=>h (bn _ z).1
 have ch:=L.k.trans M.k
 have bb:=M.k.z ea
 have cj:=ec
 rw [<- fp] at bb
 rw [<- fst] at cj
 have az:∀ {u:Addr} {o:HO},H2 u=some o->u ∉ tD fs:=λh=>n2 (by rw [h];nofun)
 have bc:=k2.z ca
 have d4:=k2.z cb
 have bv:=k2.z cv
 have bw:=k2.z cu
 have fv:fs.length=os.length:=lf.trans hl
 have d5:=(k1.trans k2).trans ch
 refine O _ _ (sq λn O=>?_)
 refine ⟨_,rfl,_,rfl,_,rfl,by show 2 <= sizeLine;decide,λl eo=>?_⟩
 have kl:zE [] H4 (upd H4 l (.lst [.ref nl,.ref wl])):=zE.new eo
 have el:upd H4 l (.lst [.ref nl,.ref wl]) l=some (.lst [.ref nl,.ref wl]):=zC
 generalize upd H4 l (.lst [.ref nl,.ref wl])=H5 at kl el ⊢
 have a3:=ch.trans kl
 refine ⟨hd,l,_,_,rfl,rfl,a3.z a2,el,rfl,λi u v e1 e2=>?_,_,rfl,tV ?_⟩
 ·have fl:∀ {H:Hp} {x y:V} {xs:List V} {j:Nat},(∀ z ∈ xs,xA z=true)->xs[j]?=some x->xs[j]?=some y->zFE H 2 x y:=λhz h1 h2=>by
   rw [h1] at h2
   cases h2
   exact .inl ⟨rfl,.inl (hz _ (zMN h1))⟩
  match i,e1,e2 with
  | 0,e1,e2=>
   cases e1;cases e2
   exact .inr ⟨U,nl,_,_,rfl,rfl,.inl ⟨a3.z ae,a3.z bc⟩,rfl,λj x y h1 h2=>fl (λz hz=>by obtain ⟨q,_,rfl⟩:=List.mem_map.mp hz;rfl) h1 h2⟩
  | 1,e1,e2=>
   cases e1;cases e2
   exact .inr ⟨h1,wl,_,_,rfl,rfl,.inl ⟨a3.z af,a3.z d4⟩,rfl,λj x y h1 h2=>fl (λz hz=>by obtain ⟨q,_,rfl⟩:=List.mem_map.mp hz;exact qR q) h1 h2⟩
  | n + 2,e1,e2=>simp at e1
 have k5:=d5.trans kl
 have eS:=zE.seq k5 hS
 have ah:=a3.z ae
 have ai:=a3.z af
 have au:=a3.z a2
 have av:=a3.z bc
 have aw:=a3.z bv
 have ax:=a3.z bw
 have aa:=kl.z bb
 have ay:=kl.z cj
 have w5:=w.on kl
 have q0:∀ ss ∈ List.replicate cs.length (xI a4),HQ [] 0 ss:=λss h=>by
  rw [List.eq_of_mem_replicate h]
  exact HQ.fresh bm sub na la
 generalize List.replicate cs.length (xI a4)=ab at w5 q0
 have g0:=az ae
 have g1:=az af
 have gd:=az a2
 have bo:=az bc
 have ep:=az bv
 have da:=az bw
 have ck:hd ≠ U/\hd ≠ h1:=⟨λe=>by rw [e,ae] at a2;cases nb <;> simp at a2,λe=>by rw [e,af] at a2;cases a4 with | nil=>exact na rfl | cons o _=>cases o <;> simp [yD] at a2⟩
 have old:∀ {u:Addr} {o:HO},H1 u=some o->u ≠ U/\u ≠ h1:=λe=>⟨zI e bk,zI ((zE.new (S:=[]) bk).z e) cc⟩
 have db:acc ≠ U/\acc ≠ h1:=⟨ef.symm,eg.symm⟩
 have eu:sc ≠ U/\sc ≠ h1:=⟨(zI (L.k.z ae) b4).symm,(zI (L.k.z af) b4).symm⟩
 have ev:fs.length <= 3/\0 < fs.length:=by omega
 clear L M d2 d3 bn ea ec ch d5 bb cj fp fst hl hm lf w
 refine O _ _ (sq λn O=>?_)
 refine ⟨_,rfl,_,rfl,_,rfl,a,_,rfl,eS,λp0 bp=>?_⟩
 obtain ⟨ms,em,lm⟩:=zCK ns (some 1) (some 41)
 have fh:ms.length <= 40:=by have dc:=congrArg List.length em;rw [zMJ] at dc;rw [<- dc,show uS (ns.map V.int) (some 1) (some 41)=((ns.map V.int).drop 1).take 40 from zE4 _ 40,zM2];omega
 rw [em]
 have kp:=zE.new (S:=[]) (o:=.lst (ms.map V.int)) bp
 have cl:upd H5 p0 (.lst (ms.map V.int)) p0=some (.lst (ms.map V.int)):=zC
 have wp:=w5.on kp
 have ew:p0 ≠ U/\p0 ≠ h1:=⟨(zI ah bp).symm,(zI ai bp).symm⟩
 have ex:p0 ∉ tD fs:=λh=>w5.al _ h bp
 replace ah:=kp.z ah
 replace ai:=kp.z ai
 replace au:=kp.z au
 replace av:=kp.z av
 replace aw:=kp.z aw
 replace ax:=kp.z ax
 replace aa:=kp.z aa
 replace ay:=kp.z ay
 have de:=old ca
 have df:=old cv
 have dg:=old cu
 generalize upd H5 p0 (.lst (ms.map V.int))=Z at kp cl wp ah ai au av aw ax aa ay
 obtain ⟨M,hM⟩:∃ M:Nat->St->Hp->Prop,∀ i σ J,M i σ J ↔ ∃ (v11 dh di dj dk dm dn dp be:Option V) (aj dq:List V) (ab:List (List SS)) (N:List Str),σ=[some (.ref a),some (.ref t),some (.ref nh),some (.ref ow),some (.ref nl),some (.ref wl),some (.ref al),some (.int wn),some (.ref hd),some (.ref acc),some (.ref sc),v11,dh,di,dj,dk,dm,dn,dp,be]/\MK C CS nb fs J ab ab/\(∀ ss ∈ ab,HQ N (9 * i) ss)/\N.length <= i/\J U=some (.lst aj)/\aj.length <= 9 + 12 * i/\J h1=some (.lst dq)/\zE (U :: h1 :: tD fs) Z J:=⟨_,λ_ _ _=>Iff.rfl⟩
 have ak:∀ {i σ J u o},M i σ J->Z u=some o->u ≠ U/\u ≠ h1->u ∉ tD fs->J u=some o:=λm e n g=>by
  obtain ⟨_,_,_,_,_,_,_,_,_,_,_,_,_,_,_,_,_,_,_,_,k⟩:=(hM _ _ _).mp m
  exact k _ _ (by simp [n.1,n.2,g]) e
 refine ⟨p0,rfl,⟨_,.of cl⟩,zB7 (K:=K) (a:=p0) (k:=0) (xs:=ms.map V.int) M ((hM _ _ _).mpr ⟨_,_,_,_,_,_,_,_,_,_,_,ab,[],rfl,wp,q0,zMS _,ah,by rw [zMJ];omega,ai,zE.refl _⟩) (λi σ J _ m=>.of (ak m cl ew ex)) ?_ ?_⟩
 rotate_left
 ·exact λσ J m=>O _ _ (by exact fin _)
 rintro i x σ J T hx m hT
 have il:i < ms.length:=by have:=(zML.mp hx).1;simpa using this
 obtain ⟨cell,_,rfl⟩:=gm hx
 obtain ⟨v11,dh,di,dj,dk,dm,dn,dp,be,aj,dq,ab,N,rfl,w1,hq,lN,x0,l0,x1,kz⟩:=(hM _ _ _).mp m
 have bf:=ak m aa db ba
 have bx:=ak m ay eu cg
 have dr:=ak m au ck gd
 have bg:=ak m av de bo
 have bz:=ak m aw df ep
 have c2:=ak m ax dg da
 refine ⟨T,_,rfl,.of zC,rfl,_,_,rfl,_,_,rfl,rfl,?_⟩
 have kT:=zE.new (S:=[]) (o:=.tup [.int (0 + (i:Int)),.int cell]) hT
 generalize upd J T (.tup [.int (0 + (i:Int)),.int cell])=Ha at kT ⊢
 refine sq λn O=>?_
 refine ⟨_,rfl,cell,rfl,λan b1 c1 e1 c3=>?_⟩
 have ks:=kT.trans (zE.new (S:=[]) (o:=.lst [.int b1,.int c1,.int e1]) c3)
 have cm:Src (upd Ha an (.lst [.int b1,.int c1,.int e1])) an:=⟨_,_,_,zC⟩
 have bh:=kT.none (by simp) c3
 generalize upd Ha an (.lst [.int b1,.int c1,.int e1])=Hb at ks cm ⊢
 refine O _ _ (sq λn O=>?_)
 refine wW rfl cm (m:=(fs.map λc=>V.ref c.p).length) (by rw [zMJ];omega) (by rw [zMJ];omega) (λ_ h=>⟨_,rfl,_,_,rfl,.inl ⟨_,.of (ks.z bf),rfl⟩,h⟩) λfw Hc a0 a1 s1 kc=>?_
 obtain ⟨j,rfl⟩:=Int.eq_ofNat_of_zero_le a0
 rw [zMJ] at a1
 have ec:fs[j]?=some fs[j]:=zMK (by omega)
 generalize fs[j]'_=c at ec
 have es:ab[j]?=some (ab[j]'(by rw [w1.la];omega)):=zMK _
 generalize ab[j]'_=ss at es
 refine O _ _ (sq λn O=>?_)
 refine wW rfl s1 (m:=3) (by decide) (by decide) (λ_ h=>h) λag Hd fx fy s2 kd=>⟨_,_,rfl,rfl,?_⟩
 refine O _ _ (sq λn O=>?_)
 refine wW rfl s2 (m:=2) (by decide) (by decide) (λ_ h=>h) λtu He t0 t1 s3 ke=>?_
 have k3:zE [] J He:=((((ks.mono (by simp)).trans kc).trans kd).trans ke).drop bh
 clear ks kc kd ke cm s1 s2
 refine O _ _ (sq λn O=>?_)
 refine ⟨_,rfl,_,rfl,sc,_,_,_,rfl,rfl,k3.z bx,lI (g:=uY.st) ec,?_⟩
 have we:=w1.on k3
 have dt:=we.sa j c ss ec es
 have cn:=hq ss (zMN es)
 have du:an ∉ c.Q:=λh=>w1.al _ (uC (zMN ec) (zM0.mpr (.inr h))) bh
 refine O _ _ (sq λn O=>?_)
 refine ⟨_,rfl,_,rfl,_,rfl,_,rfl,_,rfl,_,rfl,nh,al,_,_,rfl,rfl,k3.z c2,k3.z bz,by rw [zMJ,zMJ,sizeLine_eq];omega,λnm ey=>?_⟩
 have kn:=zE.new (S:=[]) (o:=.lst (zs.map V.str ++ as.map V.str)) ey
 refine ⟨an,(· ∈ c.Q),c.st,al,nl,nm,c.ys,ss,59,as,nb,zs ++ as,rfl,s3.on kn,dt.on kn,du,cn.I,cn.ne,cn.l,kn.z (k3.z bz),kn.z (k3.z bg),by rw [zMV];exact zC,cw,bm,λz h=>(zM0.mp h).elim (gz z) (cw z),cx,by omega,by omega,λe=>cx (List.append_eq_nil_iff.mp e).2,by rw [zM1];omega,λl bq xx Hf RW fz l3 pl ez kf=>?_⟩
 have k4:zE [] J Hf:=(((k3.trans kn).mono (by simp)).trans kf).drop bh
 have f0:J l=none:=(k3.trans kn).none (by simp) ez
 refine O _ _ (sq λn O=>?_)
 obtain ⟨M2,br⟩:∃ M2:St->Hp->Prop,∀ σ G,M2 σ G ↔ ∃ (l':Addr) (es:List DR),σ=[some (.ref a),some (.ref t),some (.ref nh),some (.ref ow),some (.ref nl),some (.ref wl),some (.ref al),some (.int wn),some (.ref hd),some (.ref acc),some (.ref sc),some (.int (0 + (i:Int))),some (.int cell),some (.ref an),some (.int (j:Int)),some (.int (1 + ag)),some (.int tu),some (.ref c.st),some (.ref l'),be]/\Rows G l' (es.map drV)/\es.length <= 9/\(∀ e ∈ es,DPl K G e/\e.nm=xx)/\zE [] J G/\J l'=none:=⟨_,λ_ _=>Iff.rfl⟩
 suffices go:∀ σ G,M2 σ G->n σ G by
  obtain ⟨ps,bi,bj⟩:=id RW
  have bs:=zZ bj
  rw [zMJ] at bs
  refine ⟨_,rfl,_,_,rfl,.inl ⟨_,.of bi,rfl⟩,rfl,_,rfl,t8 (λ_=>?_) λ_=>go _ _ ((br _ _).mpr ⟨l,bq,rfl,RW,by omega,pl,k4,f0⟩)⟩
  refine ⟨_,rfl,_,rfl,l,_,_,rfl,rfl,bi,by omega,by omega,?_,λp hp=>go _ _ ((br _ _).mpr ⟨p,(List.replicate (1 + ag).toNat bq).flatten,rfl,⟨(List.replicate (1 + ag).toNat ps).flatten,?_,?_⟩,?_,λe he=>?_,k4.trans (zE.new hp),k4.none (by simp) hp⟩)⟩
  ·rw [zMJ,bs,sizeLine_eq]
   have:bq.length * (1 + ag).toNat <= 3 * 3:=Nat.mul_le_mul l3 (by omega)
   omega
  ·rw [zC,List.map_flatten,List.map_replicate]
  ·rw [List.map_flatten,List.map_replicate]
   exact zP (zE.new (S:=[]) hp) (λc hc=>by cases hc) (oU bj _)
  ·rw [dN]
   have:(1 + ag).toNat * bq.length <= 3 * 3:=Nat.mul_le_mul (by omega) l3
   omega
  ·obtain ⟨q,f6,cp⟩:=List.mem_flatten.mp he
   rw [List.eq_of_mem_replicate f6] at cp
   exact ⟨(pl e cp).1.on (zE.new hp),(pl e cp).2⟩
 intro σ G m2
 obtain ⟨l',fa,rfl,fb,l9,dv,kG,fc⟩:=(br _ _).mp m2
 clear br m2
 refine O _ _ (sq λn O=>?_)
 obtain ⟨ps,bi,bj⟩:=id fb
 have bs:=zZ bj
 rw [zMJ] at bs
 have wG:=w1.on kG
 obtain ⟨N',N1,N2,N3⟩:∃ N':List Str,(∀ z ∈ N,z ∈ N')/\(∀ z,xx=.str z->z ∈ N')/\N'.length <= i + 1:=by
  by_cases q:∃ z,xx=.str z
  ·obtain ⟨z,rfl⟩:=q
   exact ⟨z :: N,λy h=>zMW _ h,λy h=>by cases h;exact zNC,by rw [zM4];omega⟩
  ·exact ⟨N,λ_ h=>h,λz h=>absurd ⟨z,h⟩ q,by omega⟩
 have fe:l' ∉ tD fs:=λh=>w1.al _ h fc
 refine ⟨_,rfl,l',rfl,⟨_,.of bi⟩,tI (K:=K) (a:=l') (xs:=ps.map V.ref) (λq σ G'=>∃ (be:Option V) (s3:List (List SS)),σ=[some (.ref a),some (.ref t),some (.ref nh),some (.ref ow),some (.ref nl),some (.ref wl),some (.ref al),some (.int wn),some (.ref hd),some (.ref acc),some (.ref sc),some (.int (0 + (i:Int))),some (.int cell),some (.ref an),some (.int (j:Int)),some (.int (1 + ag)),some (.int tu),some (.ref c.st),some (.ref l'),be]/\MK C CS nb fs G' s3 s3/\(∀ ss ∈ s3,HQ N' (9 * i + q) ss)/\Go fs G G') ⟨_,_,rfl,wG,λss h=>(hq ss h).mono N1 (by omega),.of (zE.refl _)⟩ (λq σ G' _ ⟨_,_,_,_,_,go⟩=>.of (go.kp _ _ fe bi)) ?_ ?_⟩
 ·rintro q x σ G' hx ⟨dw,s3,rfl,w3,h3,go⟩
  obtain ⟨tt,et,rfl⟩:=gm hx
  obtain ⟨r,er,ff⟩:=wS bj _ tt et
  obtain ⟨e,ee,rfl⟩:=gm er
  have me:=zMN ee
  have ql:q < fa.length:=(zML.mp ee).1
  have cq:s3[j]?=some (s3[j]'(by rw [w3.la];omega)):=zMK _
  generalize s3[j]'_=s4 at cq
  have Y:∀ {u o},J u=some o->u ∉ tD fs->G' u=some o:=λh g=>go.kp _ _ g (kG.z h)
  refine ⟨_,rfl,_,rfl,_,rfl,_,rfl,_,rfl,_,rfl,fs,acc,sc,tt,nl,tu,j,c,s4,nb,s3,e,rfl,B,w3,Y bf ba,Y bx cg,Y bg bo,ba,cg,bo,go.tp _ _ ff,go.dpl (dv e me).1,bm,λss h=>(h3 ss h).hg (by omega),ec,cq,ev.1,t0,t1,λg4 G2 nx w4 g2=>⟨_,rfl,ifF rfl ⟨_,_,rfl,w4,λss h=>?_,go.trans g2⟩⟩⟩
  rcases List.mem_or_eq_of_mem_set h with h | rfl
  ·exact (h3 ss h).mono (λ_ h=>h) (Nat.le_succ _)
  ·exact nx.hq (h3 s4 (zMN cq)) (λz h=>N2 z ((dv e me).2.symm.trans h)) (by omega) (show 9 * i + q < 800 by omega)
 rintro σ G' ⟨dw,s3,rfl,w3,h3,go⟩
 rw [zMJ] at h3
 have h4:∀ ss ∈ s3,HQ N' (9 * (i + 1)) ss:=λss h=>(h3 ss h).mono (λ_ h=>h) (by omega)
 have dy:=(kz.trans (kG.mono (S':=U :: h1 :: tD fs) (by simp))).trans (go.kp.mono (λb hb=>by simp [hb]))
 have Y:∀ {u o},J u=some o->u ∉ tD fs->G' u=some o:=λh g=>go.kp _ _ g (kG.z h)
 have y0:=Y x0 g0
 have y1:=Y x1 g1
 have yd:=Y dr gd
 have yn:=Y bg bo
 have yh:=Y c2 da
 refine O _ _ ?_
 refine ⟨_,rfl,_,rfl,rfl,_,rfl,t8 (λ_=>?_) λ_=>?_⟩
 rotate_left
 ·exact (hM _ _ _).mpr ⟨_,_,_,_,_,_,_,_,_,_,_,s3,N',rfl,w3,h4,N3,y0,by omega,y1,dy⟩
 refine sq λn O=>?_
 refine ⟨_,rfl,hd,_,0,_,rfl,rfl,yd,at0 _ _,.inl ⟨rfl,_,.of y0⟩,_,rfl,nh,rfl,⟨_,.of yh⟩,λac dz=>?_⟩
 refine kZ (K:=K) (a:=nh) (its:=zs.map V.str) (by rw [zMJ,sizeLine_eq];omega) (λi ys τ H2=>∃ kk:Option V,τ=[kk,some (.ref nl)]/\ys.length <= i/\zE [] G' H2/\H2 ac=some (.lst ys)) ⟨_,rfl,zMS _,zE.new dz,zC⟩ (λi ys τ H2 ⟨_,_,l,k,e⟩=>⟨e,l,.of (k.z yh)⟩) ?_ ?_
 ·rintro q ys τ H2 x hx ⟨kk,rfl,l,k,e⟩
  obtain ⟨z,_,rfl⟩:=gm hx
  refine ⟨_,rfl,_,rfl,nl,_,rfl,k.z yn,rfl,by simp [xA],_,rfl,t8 (λ_=>⟨_,rfl,e,_,rfl,by rw [zM1,List.length_singleton];omega,?_,zC⟩) λ_=>⟨_,rfl,Nat.le_succ_of_le l,k,e⟩⟩
  exact ((k.mono (S':=[ac]) (by simp)).trans (zE.at (by simp))).drop dz
 rintro ys τ H2 ⟨kk,rfl,l,k,e⟩
 rw [zMJ,lz] at l
 have b0:=k.z y0
 have b1:=k.z y1
 have bd:=k.z yd
 have wb:=w3.on k
 refine ⟨U,ac,_,_,rfl,rfl,b0,e,by rw [sizeLine_eq];omega,?_⟩
 have q1:zE [U] H2 (upd H2 U (.lst (aj ++ ys))):=zE.at (by simp)
 have c0:upd H2 U (.lst (aj ++ ys)) U=some (.lst (aj ++ ys)):=zC
 have e0:(aj ++ ys).length <= 9 + 12 * (i + 1):=by rw [zM1];omega
 generalize aj ++ ys=x2 at q1 c0 e0
 have c1:=q1 _ _ (by simp [cf]) b1
 have cd:=q1 _ _ (by simp [ck.1]) bd
 have wc:=wb.far q1 g0 b0 c0
 generalize upd H2 U (.lst x2)=Hc at q1 c0 c1 cd wc
 refine O _ _ (sq λn O=>?_)
 refine ⟨_,rfl,hd,_,0,_,rfl,rfl,cd,at0 _ _,.inl ⟨rfl,_,.of c0⟩,U,_,rfl,rfl,c0,?_⟩
 have q2:zE [U] Hc (upd Hc U (.lst x2.reverse)):=zE.at (by simp)
 have d0:upd Hc U (.lst x2.reverse) U=some (.lst x2.reverse):=zC
 have d1:=q2 _ _ (by simp [cf]) c1
 have dd:=q2 _ _ (by simp [ck.1]) cd
 have wd:=wc.far q2 g0 c0 d0
 generalize upd Hc U (.lst x2.reverse)=Hd at q2 d0 d1 dd wd
 refine O _ _ ?_
 refine ⟨_,rfl,hd,_,1,_,rfl,rfl,dd,at1 _ _ _,.inl ⟨rfl,_,.of d1⟩,h1,_,rfl,rfl,d1,?_⟩
 have q3:zE [h1] Hd (upd Hd h1 (.lst [])):=zE.at (by simp)
 refine (hM _ _ _).mpr ⟨_,_,_,_,_,_,_,_,_,_,_,s3,N',rfl,wd.far q3 g1 d1 zC,h4,N3,q3 _ _ (by simp [cf.symm]) d0,by rw [List.length_reverse];exact e0,zC,?_⟩
 exact (((dy.trans (k.mono (by simp))).trans (q1.mono (by simp))).trans (q2.mono (by simp))).trans (q3.mono (by simp))
end
end K27
section
open PySem PySem.W PyProof.Rows
set_option maxHeartbeats 0
structure PySem.W.Fast:Prop where
 (tw16968176118458789586 tw1454219785156648487 tw9497945907656264259 tw1176975735165151067 tw13698048360955963301 tw10426125643436316091 tw906997338810173357 tw3528903376305711396 tw10199354318988768051 tw14380344462400189873 tw14442895186254868694 tw550859730669387710 tw16919299863453259545 tw14869557710840242666 tw13402640891724300857 tw8629223137936558018 tw17643754061406199020 tw4584130408075211490 tw11187973929812520656 tw8609586542792094281 tw3285859953031059425 tw5240190935848835389 tw9601000219436670146 tw16449049683821496617 tw9156678896304099913 tw15886500619415505586 tw531412535426860449 tw6486810437610700802 tw12048056826642495367 tw16075136791760097191 tw1099786997935966427 tw9741163907969138060 tw5671954072354940063 tw13436231055378572716 tw15221209806709932071 tw12798869161161681673 tw8393786181099783575 tw11047245738394521532 tw6722217530614253485 tw9774394379856643515 tw2257529940240947247 tw5891177449180782854 tw15402286563333779435 tw12533650973541477374 tw18013738613805917565 tw1825691751249298209 tw7523194637212750777 tw7498633149979677338 tw3092117133297227249 tw15335523830956845186 tw3470010718395615242 tw13840814423707232359 tw15348117752812372481 tw17624731456758155189 tw11519117686961666697 tw2947586027576077979 tw4157206338815638501 tw16932301668260661676 tw8879981774537637704 tw1349388230604553621 tw16915470645016011554 tw6734199854066611161 tw16472409268878238316 tw8164005668110941744 tw4961949625528378942 tw8981913638643619018 tw11832926541442806272 tw3764688243253525356 tw13426244417702134072 tw742405457713269000 tw234749781942434899 tw1191315250883676292 tw1906743188756502811 tw7875376050956498882 tw8426798971799828003 tw11370914782968760983 tw4504308265987017973 tw4631843929112630505 tw9416359806053724237 tw14501001857826371202 tw17925384258215065573 tw7328447075739424539 tw9435018134839604537 tw16798657068305975370 tw853867870972434600 tw12549480798472879603 tw8933567498414919238 tw8730455100892084961 tw5623994078177797194 tw17233677561841584812 tw14191745827877185554 tw11112971261363487917 tw35568349831873098 tw14613296582639449008 tw12043681936756833108 tw11779420592341035236 tw16792704761308240420 tw10561106145012299093 tw2208741240797131588 tw12996339429388188178 tw184939413199734779 tw69414778264802052 tw12336147652794031108 tw7175924686734873740 tw14285927966381778045 tw12300527617525357084 tw6285040191614719466 tw13049474527870934581 tw4571146918403064550 tw3479469073905811116 tw16950569574821323974 tw3172541193896328996 tw4843473975253519250 tw16172578528114110199 tw4598012029387006661 tw16459021049253542911 tw11309342325655673037 tw1541540961381408409 tw15248526436251307398 tw15622835117965313283 tw5388663596951873645 tw12673549619886724666 tw15705199264805783303 tw10785849952161257653 tw569269584081339442 tw2536771547969941856 tw16317983856663788926 tw15696569435966832880 tw1191518686258777599 tw8621301723031713458 tw17312996333117680517 tw4248988804066548162 tw7363425622247834253 tw17305903175009340426 tw17287205074728517176 tw11224283036561675971 tw8934421753687110507 tw4537827082999213091 tw4203021270051977171 tw3801760983836956406 tw3638187344944282256 tw3094701115853657799 tw16279701975793424917 tw9597476570122768466 tw15508019666092448443 tw804092199982636349 tw14326666937008165477 tw13829591483307370896 tw2133357390318303931 tw16131418979919672264 tw17969941481158815411 tw8185526577758514290 tw7523960725538707817 tw2133271169735087666 tw2451202640524662777 tw1165732905965986049 tw17334881123488906936 tw17427895641331663283 tw6459200953577825518 tw4033379813872489195 tw3166399620581321579 tw8903238766108814736 tw8181798732573668865 tw16149030986926176842 tw11636702290074901078 tw7610715734942229976 tw8704305404121857298 tw1820406046763328738 tw8436589768386056944 tw18192907663531859256 tw17483246593336843265 tw6200747210346194187 tw6708892414054319099 tw6807009207803952845 tw13319170342346483122 tw15382044423783582273 tw182668025278835697 tw9192171586001469603 tw9359623039629485964 tw14846608996346228861 tw9455475090630465045 tw15416708228241726627 tw8646929664414959583 tw14023712959475348811 tw7825248364748044718 tw1880258362356491002 tw4402504706719581215 tw17845374550828520631 tw17619882183920601743 tw11392713097197983755 tw14439765378166140033 tw8454840944936950519 tw9629638568524466495 tw16629561534657121264 tw17601101962401091345 tw13884827974113296321 tw14864845329073380503 tw12059592832596718669 tw1678685284944356640 tw16118103595353321548 tw14395535763308203431 tw8556428379479075427 tw11712190458185945011 tw7394473655412076685 tw11905978938385298303 tw14374603453287560736 tw15734334760007649912 tw3985506009949057970 tw14678158920106854735 tw14790834132378566595 tw17798109276220946204 tw877418901244307835 tw5089109622011424599 tw5047655472420816975 tw10845176269288740530 tw17546005709695080877 tw2294854397974045510 tw7621312157251996338 tw12221415409051222339 tw13260146092877858203 tw17714833071000019117 tw15845117809764550140 tw7766378276201275438 tw6664951462986138201 tw15314323031021625729 tw278057108609374583 tw6638926791290424541 tw3241244739717862871 tw11769617611247221923 tw15679247252792206210 tw8160871880118814707 tw6951939212644042833 tw9715166753854553471 tw17100184641858439841 tw15632388027458123374 tw5613845454599061817 tw7160180452043601882 tw14827384380277173613 tw15431134087688302020 tw9897558803702562313 tw12978678129208030876 tw12897510573589207426 tw9508736203920968164 tw5759927347364260171 tw7900839787485558254 tw10884089432341657690 tw8085317222854131807 tw17548501875881557423 tw5036445103931068615 tw517312751163448032 tw16029188298635462215 tw10780761586765376359 tw603919011924581760 tw6834397320308548248 tw13792483299354683862 tw4954584648838934644 tw3482820431698744051 tw6511239469406747073 tw1313047135445303594 tw6737687440995333003 tw2478928736998500339 tw8086373703447589959 tw2852278927748849453 tw18189533506524829052 tw10042499479572932358 tw10390157646234782899 tw1138913362466708187 tw1873328127978622562 tw13305670439411429421 tw178168908405807006 tw6396003848318028651 tw3992908553847606798 tw7042659310547366237 tw10015853644003576960 tw931956834028986255 tw14729990847023682631 tw1322031339247656150 tw7388713464098733815 tw7499281151589028774 tw6364832225403335943 tw3357109249204774647 tw14858129598448742980 tw14495299557687959983 tw2644793928968540899 tw5353813085845620550 tw6192104577313164617 tw5107255825281412738 tw380267787363406661 tw12184380411685104690 tw6108208118871286908 tw3507429394446682220 tw8532528403779714478 tw2348382526199129394 tw10693841506766600124 tw5485572742587201778 tw11081772624950168284 tw6203606158221864914 tw17093224777342109595 tw14255533807856875452 tw13419329186978087958 tw1088950523373196883 tw8237626310708396552 tw4211700434839312001 tw12004313012329915033 tw17837415989878807268 tw5272677748111154927 tw4674102799890499726 tw5286587840749011222 tw9218752888244210615 tw5552461122284547459 tw6315216371427503177 tw5260856337621036202 tw15862806813707239167 tw7877236402650122457 tw12132578266924881344 tw9305391788130653963 tw11637195238256488622 tw1611551182742943237 tw1877735476730380715 tw9308725717764142674 tw15568136977402293060 tw9761588102954696855 tw2810533944269268182 tw4441479696137820286 tw726985913927333873 tw15718574390098580149 tw2385268686561707046 tw2927799364441409784 tw11717690317537128808 tw17513604867990543079 tw9122274009815981030 tw8445716188487379795 tw347805415268056836 tw8605165415444627158 tw13553050674002434610 tw571030836065106013 tw1722802803701587481 tw15934030157929616494 tw2754692670688779762 tw712222309637291157 tw8126552424372712672 tw17094580856887593759 tw17119971604622065936 tw14583267516977433036 tw16025434724436758002 tw1901531775752417231 tw9316670756482807701 tw14124935244785052151 tw2648174423076098445 tw10069975712529536831 tw4425046354534653865 tw2969480146181677978 tw15365262586112281279 tw3373145609055282853 tw9832553117377153458 tw14722794537435163219 tw18431155831084640082 tw2337977823195543630 tw3892864765347196996 tw7942853410682446962 tw17698735102306075112 tw16186510892431351131 tw4227517698962585424 tw14749253800190834908 tw6215920317759002765 tw9466130334346563993 tw11763852733077360975 tw143782271200020318 tw15977843376605620593 tw8526028360262338249 tw10052001805573714066 tw17398146341500462573 tw306725001281121169 tw12694589447371642155 tw4153491320931672185 tw15545184769064153574 tw11165118516710488114 tw12067549021546063074 tw16809252239103401712 tw2857234818492195956 tw4916127144345927284 tw17401831432661337422 tw1647960591809683682 tw2791417458454038152 tw17878424488110687958 tw14267268813261638861 tw10015450608781386451 tw3345597093286824917 tw5680315236850328200 tw8174591469460913490 tw11786325122171474085 tw15325311475551686242 tw15639028444304104736 tw1349615225243010270 tw15223397061033166810 tw763151578990004582 tw7343611390307366373 tw4543556514994620149 tw7089793799200125183 tw5916140570258018564 tw8159976661246289121 tw7340446101256811000 tw14734032772098568817 tw15860061360732319080 tw14900259974334564751 tw15666224950229401414 tw5769997320742902227 tw2962324470309885386 tw744308932230929381 tw8479270150416127334 tw13669522585143040522 tw11320351676317602388 tw5541168653056121806 tw6905212232875527693 tw13952158723898717365 tw18012574323051992567 tw8079883169468671255 tw10378583025934500588 tw7524379617451308511 tw18167724695441219349 tw6880125886219600808 tw1672204981616886009 tw7420531298404749032 tw4968929673044707356 tw13887902116395311400 tw11680414320664102990 tw12712400820596877648 tw14045762497377551236 tw17888565902029391346 tw10846345724684618374 tw13055661147411815287 tw7076977106511060911 tw2873748437651673626 tw14029171239946634462 tw6771182271545134960 tw3664731896753646195 tw5315833730557488597 tw6873971014812347169 tw4340971767527515617 tw13508602156133886167 tw10733525418748422364 tw4038909232737020655 tw10131873952172028942 tw1267704075650749254 tw16463793508043411602 tw4888033052430993751 tw5587484289544270231 tw959750476839503417 tw8131721106225051767 tw5847202018973711932 tw3808584094389355786 tw4177351759533223642 tw2202087279664922802 tw4773397407553703792 tw3471986238504059686 tw16925118299729312639 tw4799189423077775474 tw17456480263006714056 tw14763428746477059428 tw5363195699714531557 tw1567247161763788871 tw17666627728419048244 tw14335355579717207800 tw5845538515087863352 tw438459731153329746 tw11224361182253327997 tw12111957463147405440 tw11896190001472655623 tw10729351905339586543 tw14873902065993744872 tw4188684199736651882 tw1826987945724244988 tw6623812351622530092 tw704147369595269066 tw14113110954290816071 tw9161490523856799436 tw6760056911573607715 tw6089177832033215386 tw11300376045408061371 tw14323754321771104433 tw12011070553636201877 tw6692257562035669867 tw18277388166739348960 tw6429450841261186155 tw3133745999044795564 tw9751423446361702133 tw3573138558329038911 tw671769174312181376 tw3543174748483581286 tw14889595167817102546 tw10232147439284725336 tw670427922429333600 tw12319733152821033628 tw18443007809517869832 tw14786330839892292761 tw3302770140995672700 tw12079628635447562283 tw10661956449011590994 tw3048301304931576756 tw714049069090440106 tw5802571108899374253 tw12487779173672901959 tw7007158731953197150 tw16884622931589843948 tw4034687210265294523 tw16408362238061914836 tw10412780308102683651 tw1817805791611690161 tw5425125011635884837 tw9513619709740374535 tw8886442042033028919 tw10728712052571211117 tw11586196018267737339 tw16061800364364160699 tw5805183375971660199 tw4842887358765978389 tw14398365135244066966 tw6606014719576569030 tw6999941293234460784 tw3321576952164483024 tw8249347019533418915 tw14112606434462084385 tw15988265368706215130 tw1173414789623836638 tw3488647797146898431 tw3903891618737965568 tw12319047049370110589 tw7158441374720773216 tw7834740603555865465 tw12590770754756799043 tw133755455108545178 tw16286715671046524454 tw12514039047250868702 tw6788773261714906821 tw12694112234171929671 tw7945405709010385892 tw2484844197603217540 tw7717702957765121957 tw13350131943787299761 tw1354003750591732747 tw14731147920152588799 tw11887224372650548316 tw8078195926588453703 tw3822784309164373692 tw12523711969749109062 tw11269825475406603969 tw1041263688889175116 tw10184835648761350555 tw11970942820725077907 tw15452640027357039508 tw1292346606274980823 tw16717272659965454103 tw14245618210516037357 tw6381902497316938245 tw6784790241324674965 tw2456577590951144490 tw8697654515486363317 tw8877373362634485534 tw12661032092557703082 tw4872952286622431662 tw12737541344736672974 tw5399014298235654608 tw13949155002146243131 tw16970792351503237766 tw15755219311246346914 tw13708279966662545973 tw16372584530490662585 tw1620389302784492585 tw11268533821286410027 tw13323373534744806615 tw15854262060937163188 tw17960848765466677729 tw7910172739516966087 tw7263363503728760936 tw17802128708061929859 tw9835382159548102362 tw5713610079918043996 tw14650769484350525481 tw18042889414512086050 tw1833547357909804662 tw16900135722406889126 tw3016012700857477809 tw3942624392001961204 tw5921587261177403197 tw11843833423457600547 tw16504757533647375273:True)
open_top head for PySem.Challenge.rw_treeright_k27_whole_houses_by_turns
end
namespace K27
open PySem L2
noncomputable def FnK (K:PySem.W.Frag) (n q:Str) (st:Stmt) (f:Addr):Prop:=∃ (b c:Option Addr) (d:Array (Option Value)) (e kV g pm a h:Value),K.lookup f=some ⟨e,b,.func (PySem.W.fnOf n q (vI st) (y8 st) (zG st) .none kV g pm c a h),d⟩/\PySem.W.codeIn K a q=true/\PySem.W.keepIn K (.ref f)=true
noncomputable def FgK (K:PySem.W.Frag) (n:Str) (st:Stmt):Prop:=∃ f,PySem.W.nsIn K mainGlobals n=some (some (.ref f))/\FnK K n n st f
noncomputable def MtK (K:PySem.W.Frag) (C:Addr) (n q:Str) (st:Stmt):Prop:=∃ f,PySem.W.findIn K (.ref C) n=some (some (.ref f))/\PySem.W.isFn K (.ref f)=true/\FnK K n q st f
theorem us0 {P:List Value->Prop} (h:P []) (us:List Value) (e:us.length=0):P us:=by cases us with
 | nil=>exact h
 | cons _ _=>cases e
theorem usc {n:Nat} {P:List Value->Prop} (h:∀ a us,us.length=n->P (a :: us)) (us:List Value) (e:us.length=n + 1):P us:=by cases us with
 | nil=>cases e
 | cons a us=>exact h a us (Nat.succ.inj e)
theorem us1 {P:List Value->Prop} (h:∀ a,P [a]):∀ us,us.length=1->P us:=usc λa=>us0 (h a)
theorem us2 {P:List Value->Prop} (h:∀ a b,P [a,b]):∀ us,us.length=2->P us:=usc λa=>us1 (h a)
theorem us3 {P:List Value->Prop} (h:∀ a b c,P [a,b,c]):∀ us,us.length=3->P us:=usc λa=>us2 (h a)
theorem us4 {P:List Value->Prop} (h:∀ a b c d,P [a,b,c,d]):∀ us,us.length=4->P us:=usc λa=>us3 (h a)
theorem us5 {P:List Value->Prop} (h:∀ a b c d e,P [a,b,c,d,e]):∀ us,us.length=5->P us:=usc λa=>us4 (h a)
theorem us6 {P:List Value->Prop} (h:∀ a b c d e f,P [a,b,c,d,e,f]):∀ us,us.length=6->P us:=usc λa=>us5 (h a)
theorem yJ {K:PySem.W.Frag} {h:Heap} {mg:Str->Option Value} {n:Str} {st:Stmt} {ps:List Str} (X:K.In h) (G:h.Ns mainGlobals mg) (l:FgK K n st)
  (g:∀ (kV b pm:Value) (e:Option Addr) (d ct:Value) (us:List Value),us.length=ps.length->bindArgs (PySem.W.fnOf n n (vI st) (y8 st) (zG st) .none kV b pm e d ct) ⟨us,[]⟩=pure (ps.zip us)):yM K mg n st ps:=by
 obtain ⟨f,a,i,e,j,m,kV,o,pm,p,ct,l,c,k⟩:=l
 exact zEU X G a l c k g
theorem y2 {K:PySem.W.Frag} {C:Addr} {n q:Str} {st:Stmt} {ps:List Str} (l:MtK K C n q st)
  (g:∀ (kV b pm:Value) (e:Option Addr) (d ct:Value) (us:List Value),us.length=ps.length->bindArgs (PySem.W.fnOf n q (vI st) (y8 st) (zG st) .none kV b pm e d ct) ⟨us,[]⟩=pure (ps.zip us)):yW K C n q st ps:=by
 obtain ⟨f,a,i,h,e,j,m,kV,o,pm,p,ct,l,c,k⟩:=l
 exact zEH a i l c k g
structure ClK (K:PySem.W.Frag) (n:Str) (C:Addr):Prop where
 a:PySem.W.nsIn K mainGlobals n=some (some (.ref C))
 pg:PySem.W.plainGet K C Str.empty=true
 hd:PySem.W.hasDictIn K C=true
 po:PySem.W.plainOver K C=true
 sa:PySem.W.findIn K (.ref C) "__setattr__"=some (some (.builtin "object.__setattr__"))
 ms:PySem.W.makesIn K C=true
 kc:PySem.W.keepIn K (.ref C)=true
theorem all_mk {l:PySem.W.OpenLaw} {w:World} {K:PySem.W.Frag} {h:Heap} {mg:Str->Option Value} {fa:Addr} (X:K.In h) (G:h.Ns mainGlobals mg) (d1:mg "law"=some (.ref fa))
  {fL:Addr} {CS:Addr} {C:Addr} {M:Tok} {o:Tok} {x0:Addr} {x1:Addr} {x2:Addr} {x3:Addr} {x4:Addr} {x5:Addr} {x6:Addr} {x7:Addr} {x8:Addr} {x9:Addr} {ab:Addr} {ac:Addr} {aq:Addr}
  (l0:FgK K "is_name" jX)
  (l1:FgK K "is_whole" sWh)
  (l2:FgK K "is_one_of" kN)
  (l3:FgK K "are_names" j4)
  (l4:FgK K "are_unlike" zDH)
  (l5:FgK K "are_neighbours" sNb)
  (l6:FgK K "are_arrows" zAP)
  (l7:FgK K "check_right" sCk)
  (l8:FgK K "check_asker" j3)
  (l9:FgK K "check_house" eX)
  (d2:FgK K "numbered" sNu)
  (d3:FgK K "_law_cell_at" eY)
  (d4:FgK K "_law_mixed" kP)
  (d5:FgK K "_law_digits" pR)
  (da:FgK K "_law_next" eR)
  (db:FgK K "_law_names" qO)
  (dd:FgK K "_law_alike" oM)
  (de:FgK K "_law_state" kK)
  (df:FgK K "_law_moved" kO)
  (dg:FgK K "_law_made_at" eV)
  (dh:FgK K "_law_chosen" sCh)
  (di:FgK K "_law_seat_of" sSO)
  (dj:FgK K "_law_numbered" sLN)
  (dk:FgK K "_law_good_deeds" sGd)
  (dm:FgK K "_law_done" sDn)
  (dn:FgK K "_law_put" sPu)
  (dp:FgK K "_law_odd" zDJ)
  (dq:FgK K "_law_kinds" oK)
  (dr:FgK K "_law_is_name" zAL)
  (ds:FgK K "_law_is_right" sIR)
  (dt:FgK K "_law_why_asker" sWA)
  (du:FgK K "_law_why" sWy)
  (dv:FgK K "_law_asked" eZ)
  (dw:FgK K "_law_due" zDP)
  (dx:FgK K "_law_any_deed" sAD)
  (dy:FgK K "_law_drawn" sDr)
  (dz:FgK K "_law_as" sAs)
  (e0:FgK K "_law_told" sTo)
  (e1:FgK K "_law_begun" sBg)
  (aL:PySem.W.nsIn K mainGlobals "law"=some (some (.ref fL))) (lL:FnK K "law" "law" pK fL)
  (q:ClK K "Seat" CS)
  (bg:MtK K CS "__init__" "Seat.__init__" eW)
  (bh:MtK K CS "arrow" "Seat.arrow" kQ)
  (bi:MtK K CS "row" "Seat.row" zDI)
  (bj:MtK K CS "inside" "Seat.inside" pQ)
  (bk:MtK K CS "has_asked" "Seat.has_asked" zDK)
  (bm:MtK K CS "askers" "Seat.askers" sSA)
  (bn:MtK K CS "crowd" "Seat.crowd" sCr)
  (bo:MtK K CS "want" "Seat.want" eQ)
  (bp:MtK K CS "leave" "Seat.leave" oJ)
  (bq:MtK K CS "done" "Seat.done" jY)
  (ar:MtK K CS "ask" "Seat.ask" zAO)
  (au:MtK K CS "come" "Seat.come" jZ)
  (av:MtK K CS "move_on" "Seat.move_on" eU)
  (aw:MtK K CS "serve_first" "Seat.serve_first" kM)
  (u:PySem.W.findIn K (.ref CS) "pointer"=some none)
  (x:PySem.W.findIn K (.ref CS) "waiting"=some none)
  (D:PySem.W.findIn K (.ref CS) "holder"=some none)
  (I:PySem.W.findIn K (.ref CS) "asked"=some none)
  (N:ClK K "House" C)
  (e2:MtK K C "__init__" "House.__init__" sHI)
  (e3:MtK K C "arrow" "House.arrow" zDO)
  (e4:MtK K C "row" "House.row" zDL)
  (e5:MtK K C "inside" "House.inside" zDM)
  (e6:MtK K C "has_asked" "House.has_asked" zDN)
  (e7:MtK K C "askers" "House.askers" zAM)
  (e8:MtK K C "rights_wanted" "House.rights_wanted" sRW)
  (e9:MtK K C "right_of" "House.right_of" sRO)
  (ea:MtK K C "best_right" "House.best_right" sBR)
  (eb:MtK K C "check_letter" "House.check_letter" sCL)
  (br:MtK K C "want" "House.want" sHW)
  (bs:MtK K C "leave" "House.leave" sHL)
  (bt:MtK K C "done" "House.done" sHD)
  (bu:MtK K C "ask" "House.ask" sHK)
  (bv:MtK K C "come" "House.come" sHC)
  (Y:PySem.W.findIn K (.ref C) "name"=some none)
  (J:PySem.W.findIn K (.ref C) "nearby"=some none)
  (O:PySem.W.findIn K (.ref C) "seats"=some none)
  (y:PySem.W.nsIn K mainGlobals "isinstance"=some none)
  (ax:PySem.W.nsIn K mainGlobals "str"=some none)
  (ay:PySem.W.nsIn K mainGlobals "int"=some none)
  (ae:PySem.W.nsIn K mainGlobals "bool"=some none)
  (z_len:PySem.W.nsIn K mainGlobals "len"=some none)
  (az:PySem.W.nsIn K mainGlobals "all"=some none)
  (a3:PySem.W.nsIn K mainGlobals "range"=some none)
  (z_list:PySem.W.nsIn K mainGlobals "list"=some none)
  (a4:PySem.W.nsIn K mainGlobals "tuple"=some none)
  (b0:PySem.W.nsIn K mainGlobals "set"=some none)
  (a0:PySem.W.nsIn K mainGlobals "sorted"=some none)
  (E:PySem.W.nsIn K mainGlobals "enumerate"=some none)
  (b1:PySem.W.nsIn K mainGlobals "min"=some none)
  (z:PySem.W.nsIn K mainGlobals "ValueError"=some none)
  (Q:PySem.W.nsIn K mainGlobals "LETTERS"=some (some (.str "abcdefghijklmnopqrstuvwxyz" M)))
  (p:PySem.W.nsIn K mainGlobals "LONGEST_NAME"=some (some (.int 8 o)))
  (bw:PySem.W.nsIn K mainGlobals "NoTree"=some (some (.ref x0)))
  (aj:PySem.W.nsIn K mainGlobals "NoHouse"=some (some (.ref x1)))
  (bx:PySem.W.nsIn K mainGlobals "NoSeat"=some (some (.ref x2)))
  (ak:PySem.W.nsIn K mainGlobals "NoAsker"=some (some (.ref x3)))
  (al:PySem.W.nsIn K mainGlobals "NoLetter"=some (some (.ref x4)))
  (ao:PySem.W.nsIn K mainGlobals "NoRight"=some (some (.ref x5)))
  (bz:PySem.W.nsIn K mainGlobals "NoRow"=some (some (.ref x6)))
  (c0:PySem.W.nsIn K mainGlobals "NoTie"=some (some (.ref x7)))
  (c1:PySem.W.nsIn K mainGlobals "Down"=some (some (.ref x8)))
  (c2:PySem.W.nsIn K mainGlobals "NoMend"=some (some (.ref x9)))
  (b2:PySem.W.nsIn K mainGlobals "NoText"=some (some (.ref ab)))
  (b3:PySem.W.nsIn K mainGlobals "NoLine"=some (some (.ref ac)))
  (b4:PySem.W.nsIn K mainGlobals "TreeError"=some (some (.ref aq)))
  (r:qV K [x0,x1,x2,x3,x4,x5,x6,x7,x8,x9,ab,ac] aq=true)
  (c3:fS K [x0,x1,x2,x3,x4,x5,x6,x7,x8,x9,ab,ac]=true) :
  ∃ fd:FuncData,(∀ (s:Shared) (v:Value),BindsTo s fd ⟨[v],[]⟩ [("_law_script",v)])/\∀ base:Heap,K.In base->base.Ns mainGlobals mg->tJ l.prog w K mg base CX0 9 fa fd ["_law_script"] (eL K):=by
 have e:=d1.symm.trans (PySem.W.mg_of X G aL)
 cases e
 obtain ⟨od,an,sl,oc,kV,dc,pm,cd,ct,lL,cL,kL⟩:=lL
 have GI:yM K mg "is_name" jX ["thing"]:=yJ X G l0 (λ_ _ _ _ _ _=>us1 λ_=>rfl)
 have c4:yM K mg "is_whole" sWh ["thing"]:=yJ X G l1 (λ_ _ _ _ _ _=>us1 λ_=>rfl)
 have ec:yM K mg "is_one_of" kN ["thing","houses"]:=yJ X G l2 (λ_ _ _ _ _ _=>us2 λ_ _=>rfl)
 have ed:yM K mg "are_names" j4 ["thing"]:=yJ X G l3 (λ_ _ _ _ _ _=>us1 λ_=>rfl)
 have ee:yM K mg "are_unlike" zDH ["names"]:=yJ X G l4 (λ_ _ _ _ _ _=>us1 λ_=>rfl)
 have ef:yM K mg "are_neighbours" sNb ["thing","name"]:=yJ X G l5 (λ_ _ _ _ _ _=>us2 λ_ _=>rfl)
 have eg:yM K mg "are_arrows" zAP ["thing","neighbours"]:=yJ X G l6 (λ_ _ _ _ _ _=>us2 λ_ _=>rfl)
 have c5:yM K mg "check_right" sCk ["right","many"]:=yJ X G l7 (λ_ _ _ _ _ _=>us2 λ_ _=>rfl)
 have ca:yM K mg "check_asker" j3 ["asker"]:=yJ X G l8 (λ_ _ _ _ _ _=>us1 λ_=>rfl)
 have eh:yM K mg "check_house" eX ["house"]:=yJ X G l9 (λ_ _ _ _ _ _=>us1 λ_=>rfl)
 have ei:yM K mg "numbered" sNu ["right","told"]:=yJ X G d2 (λ_ _ _ _ _ _=>us2 λ_ _=>rfl)
 have GC:yM K mg "_law_cell_at" eY ["_law_script","_law_k"]:=yJ X G d3 (λ_ _ _ _ _ _=>us2 λ_ _=>rfl)
 have GM:yM K mg "_law_mixed" kP ["_law_cell","_law_k"]:=yJ X G d4 (λ_ _ _ _ _ _=>us2 λ_ _=>rfl)
 have GD:yM K mg "_law_digits" pR ["_law_cell"]:=yJ X G d5 (λ_ _ _ _ _ _=>us1 λ_=>rfl)
 have GN:yM K mg "_law_next" eR ["_law_source","_law_many"]:=yJ X G da (λ_ _ _ _ _ _=>us2 λ_ _=>rfl)
 have ej:yM K mg "_law_names" qO ["_law_source","_law_many"]:=yJ X G db (λ_ _ _ _ _ _=>us2 λ_ _=>rfl)
 have ek:yM K mg "_law_alike" oM ["_law_found","_law_due_here"]:=yJ X G dd (λ_ _ _ _ _ _=>us2 λ_ _=>rfl)
 have el:yM K mg "_law_state" kK ["_law_arrow"]:=yJ X G de (λ_ _ _ _ _ _=>us1 λ_=>rfl)
 have em:yM K mg "_law_moved" kO ["_law_state_here"]:=yJ X G df (λ_ _ _ _ _ _=>us1 λ_=>rfl)
 have en:yM K mg "_law_made_at" eV ["_law_state_here","_law_deed"]:=yJ X G dg (λ_ _ _ _ _ _=>us2 λ_ _=>rfl)
 have eo:yM K mg "_law_chosen" sCh ["_law_states"]:=yJ X G dh (λ_ _ _ _ _ _=>us1 λ_=>rfl)
 have ep:yM K mg "_law_seat_of" sSO ["_law_states","_law_asker"]:=yJ X G di (λ_ _ _ _ _ _=>us2 λ_ _=>rfl)
 have er:yM K mg "_law_numbered" sLN ["_law_told_here","_law_right"]:=yJ X G dj (λ_ _ _ _ _ _=>us2 λ_ _=>rfl)
 have es:yM K mg "_law_good_deeds" sGd ["_law_states","_law_askers","_law_neighbours"]:=yJ X G dk (λ_ _ _ _ _ _=>us3 λ_ _ _=>rfl)
 have et:yM K mg "_law_done" sDn ["_law_states","_law_deed"]:=yJ X G dm (λ_ _ _ _ _ _=>us2 λ_ _=>rfl)
 have cb:yM K mg "_law_put" sPu ["_law_house","_law_deed"]:=yJ X G dn (λ_ _ _ _ _ _=>us2 λ_ _=>rfl)
 have eu:yM K mg "_law_odd" zDJ ["_law_source","_law_name"]:=yJ X G dp (λ_ _ _ _ _ _=>us2 λ_ _=>rfl)
 have GK:yM K mg "_law_kinds" oK ["_law_e"]:=yJ X G dq (λ_ _ _ _ _ _=>us1 λ_=>rfl)
 have ev:yM K mg "_law_is_name" zAL ["_law_thing"]:=yJ X G dr (λ_ _ _ _ _ _=>us1 λ_=>rfl)
 have ew:yM K mg "_law_is_right" sIR ["_law_thing","_law_many"]:=yJ X G ds (λ_ _ _ _ _ _=>us2 λ_ _=>rfl)
 have ex:yM K mg "_law_why_asker" sWA ["_law_states","_law_deed"]:=yJ X G dt (λ_ _ _ _ _ _=>us2 λ_ _=>rfl)
 have ey:yM K mg "_law_why" sWy ["_law_states","_law_neighbours","_law_deed"]:=yJ X G du (λ_ _ _ _ _ _=>us3 λ_ _ _=>rfl)
 have ez:yM K mg "_law_asked" eZ ["_law_house","_law_deed"]:=yJ X G dv (λ_ _ _ _ _ _=>us2 λ_ _=>rfl)
 have f0:yM K mg "_law_due" zDP ["_law_states","_law_neighbours","_law_deed"]:=yJ X G dw (λ_ _ _ _ _ _=>us3 λ_ _ _=>rfl)
 have f3:yM K mg "_law_any_deed" sAD ["_law_source","_law_names_here","_law_many"]:=yJ X G dx (λ_ _ _ _ _ _=>us3 λ_ _ _=>rfl)
 have f4:yM K mg "_law_drawn" sDr ["_law_source","_law_states","_law_askers","_law_neighbours","_law_names_here"]:=yJ X G dy (λ_ _ _ _ _ _=>us5 λ_ _ _ _ _=>rfl)
 have f5:yM K mg "_law_as" sAs ["_law_house","_law_states","_law_turn"]:=yJ X G dz (λ_ _ _ _ _ _=>us3 λ_ _ _=>rfl)
 have f6:yM K mg "_law_told" sTo ["_law_houses","_law_states","_law_at","_law_deed","_law_turn","_law_neighbours"]:=yJ X G e0 (λ_ _ _ _ _ _=>us6 λ_ _ _ _ _ _=>rfl)
 have fb:yM K mg "_law_begun" sBg ["_law_cell"]:=yJ X G e1 (λ_ _ _ _ _ _=>us1 λ_=>rfl)
 have FL:=rF (st:=pK) lL cL kL
 have ba:Cls K CS:=⟨q.pg,q.hd,q.po,q.sa⟩
 obtain ⟨cc,cf,cg,_,_,_,_,_,_,_,_,_,ch,cj,ck⟩:=bg
 have cl:=rF (st:=eW) ch cj ck
 have fc:=cl.binds (ps:=["self","arrow"]) (λ_ _ _ _ _ _=>us2 λ_ _=>rfl)
 have fe:Mk K CS cc:=⟨q.ms,cf,cg,q.kc⟩
 have mA:yW K CS "arrow" "Seat.arrow" kQ ["self"]:=y2 bh (λ_ _ _ _ _ _=>us1 λ_=>rfl)
 have mR:yW K CS "row" "Seat.row" zDI ["self"]:=y2 bi (λ_ _ _ _ _ _=>us1 λ_=>rfl)
 have ff:yW K CS "inside" "Seat.inside" pQ ["self"]:=y2 bj (λ_ _ _ _ _ _=>us1 λ_=>rfl)
 have mH:yW K CS "has_asked" "Seat.has_asked" zDK ["self"]:=y2 bk (λ_ _ _ _ _ _=>us1 λ_=>rfl)
 have fg:yW K CS "askers" "Seat.askers" sSA ["self"]:=y2 bm (λ_ _ _ _ _ _=>us1 λ_=>rfl)
 have fh:yW K CS "crowd" "Seat.crowd" sCr ["self"]:=y2 bn (λ_ _ _ _ _ _=>us1 λ_=>rfl)
 have mW:yW K CS "want" "Seat.want" eQ ["self","asker"]:=y2 bo (λ_ _ _ _ _ _=>us2 λ_ _=>rfl)
 have mL:yW K CS "leave" "Seat.leave" oJ ["self","asker"]:=y2 bp (λ_ _ _ _ _ _=>us2 λ_ _=>rfl)
 have mD:yW K CS "done" "Seat.done" jY ["self","asker"]:=y2 bq (λ_ _ _ _ _ _=>us2 λ_ _=>rfl)
 have mK:yW K CS "ask" "Seat.ask" zAO ["self","house"]:=y2 ar (λ_ _ _ _ _ _=>us2 λ_ _=>rfl)
 have mC:yW K CS "come" "Seat.come" jZ ["self","house","back"]:=y2 au (λ_ _ _ _ _ _=>us3 λ_ _ _=>rfl)
 have mM:yW K CS "move_on" "Seat.move_on" eU ["self"]:=y2 av (λ_ _ _ _ _ _=>us1 λ_=>rfl)
 have mS:yW K CS "serve_first" "Seat.serve_first" kM ["self"]:=y2 aw (λ_ _ _ _ _ _=>us1 λ_=>rfl)
 have bb:=PySem.W.mg_of X G q.a
 have cm:Cls K C:=⟨N.pg,N.hd,N.po,N.sa⟩
 obtain ⟨fi,fj,fk,_,_,_,_,_,_,_,_,_,fl,fm,fo⟩:=e2
 have cn:=rF (st:=sHI) fl fm fo
 have fp:=cn.binds (ps:=["self","name","neighbours","arrows"]) (λ_ _ _ _ _ _=>us4 λ_ _ _ _=>rfl)
 have fq:Mk K C fi:=⟨N.ms,fj,fk,N.kc⟩
 have hA:yW K C "arrow" "House.arrow" zDO ["self","right"]:=y2 e3 (λ_ _ _ _ _ _=>us2 λ_ _=>rfl)
 have hR:yW K C "row" "House.row" zDL ["self","right"]:=y2 e4 (λ_ _ _ _ _ _=>us2 λ_ _=>rfl)
 have fr:yW K C "inside" "House.inside" zDM ["self","right"]:=y2 e5 (λ_ _ _ _ _ _=>us2 λ_ _=>rfl)
 have hH:yW K C "has_asked" "House.has_asked" zDN ["self","right"]:=y2 e6 (λ_ _ _ _ _ _=>us2 λ_ _=>rfl)
 have fs:yW K C "askers" "House.askers" zAM ["self"]:=y2 e7 (λ_ _ _ _ _ _=>us1 λ_=>rfl)
 have ft:yW K C "rights_wanted" "House.rights_wanted" sRW ["self"]:=y2 e8 (λ_ _ _ _ _ _=>us1 λ_=>rfl)
 have cp:yW K C "right_of" "House.right_of" sRO ["self","asker"]:=y2 e9 (λ_ _ _ _ _ _=>us2 λ_ _=>rfl)
 have fu:yW K C "best_right" "House.best_right" sBR ["self"]:=y2 ea (λ_ _ _ _ _ _=>us1 λ_=>rfl)
 have cq:yW K C "check_letter" "House.check_letter" sCL ["self","house","right"]:=y2 eb (λ_ _ _ _ _ _=>us3 λ_ _ _=>rfl)
 have hW:yW K C "want" "House.want" sHW ["self","asker","right"]:=y2 br (λ_ _ _ _ _ _=>us3 λ_ _ _=>rfl)
 have hL:yW K C "leave" "House.leave" sHL ["self","asker"]:=y2 bs (λ_ _ _ _ _ _=>us2 λ_ _=>rfl)
 have hD:yW K C "done" "House.done" sHD ["self","asker"]:=y2 bt (λ_ _ _ _ _ _=>us2 λ_ _=>rfl)
 have hK:yW K C "ask" "House.ask" sHK ["self","house","right"]:=y2 bu (λ_ _ _ _ _ _=>us3 λ_ _ _=>rfl)
 have hC:yW K C "come" "House.come" sHC ["self","house","right","back"]:=y2 bv (λ_ _ _ _ _ _=>us4 λ_ _ _ _=>rfl)
 have cu:=PySem.W.mg_of X G N.a
 have b:Blt mg "isinstance":=⟨PySem.W.mg_none_of X G y⟩
 have a5:Blt mg "str":=⟨PySem.W.mg_none_of X G ax⟩
 have m:Blt mg "int":=⟨PySem.W.mg_none_of X G ay⟩
 have g:Blt mg "bool":=⟨PySem.W.mg_none_of X G ae⟩
 have c:Blt mg "len":=⟨PySem.W.mg_none_of X G z_len⟩
 have t:Blt mg "all":=⟨PySem.W.mg_none_of X G az⟩
 have d:Blt mg "range":=⟨PySem.W.mg_none_of X G a3⟩
 have f:Blt mg "list":=⟨PySem.W.mg_none_of X G z_list⟩
 have a6:Blt mg "tuple":=⟨PySem.W.mg_none_of X G a4⟩
 have bc:Blt mg "set":=⟨PySem.W.mg_none_of X G b0⟩
 have B:Blt mg "sorted":=⟨PySem.W.mg_none_of X G a0⟩
 have k:Blt mg "enumerate":=⟨PySem.W.mg_none_of X G E⟩
 have bd:Blt mg "min":=⟨PySem.W.mg_none_of X G b1⟩
 have A:Blt mg "ValueError":=⟨PySem.W.mg_none_of X G z⟩
 have L:Glo mg "LETTERS" (.str abc):=⟨_,PySem.W.mg_of X G Q,⟨_,rfl⟩⟩
 have n:Glo mg "LONGEST_NAME" (.int 8):=⟨_,PySem.W.mg_of X G p,⟨_,rfl⟩⟩
 refine ⟨PySem.W.fnOf "law" "law" (vI pK) (y8 pK) (zG pK) .none kV dc pm an cd ct,λs v=>.of_eq rfl,λbase _ _=>?_⟩
 have TS:xM K CS:=⟨ba,u,x,D,I⟩
 have T:xK K C:=⟨cm,Y,J,O⟩
 have CI:=zH0 (P:=l.prog) (w:=w) (base:=base) GI b a5 c t L n
 have fv:=okWh (P:=l.prog) (w:=w) (base:=base) c4 b m g
 have be:=zHY ec CI
 have fw:=zIA ed CI b f t
 have fx:=zKX (P:=l.prog) (w:=w) (base:=base) ee c bc
 have fy:=okNb ef fw fx
 have fz:=zLJ eg be b f c t
 have a1:=okCk c5 fv
 have U:=zH7 ca CI
 have af:=zH6 eh CI
 have H:=okNu (P:=l.prog) (w:=w) (base:=base) ei
 have MS:=zD7 (P:=l.prog) (w:=w) (mg:=mg) (base:=base) TS mS c
 have MM:=zH1 TS mM MS
 have MA:=zED (P:=l.prog) (w:=w) (mg:=mg) (base:=base) TS mA
 have MR:=zKY (P:=l.prog) (w:=w) (mg:=mg) (base:=base) TS mR f
 have g0:=zBB (P:=l.prog) (w:=w) (mg:=mg) (base:=base) TS ff
 have g4:=zK4 (P:=l.prog) (w:=w) (mg:=mg) (base:=base) TS mH
 have g5:=okSA (P:=l.prog) (w:=w) (mg:=mg) (base:=base) TS fg
 have g6:=okCr (P:=l.prog) (w:=w) (mg:=mg) (base:=base) TS fh c
 have MW:=zHX TS mW U MM
 have ML:=zEB TS mL U MM
 have MD:=zH4 TS mD U MM
 have MK:=zLI TS mK af MM
 have MC:=zH5 TS mC af MM b g
 have g7:h9 l.prog w K mg base CX0 2 CS "Seat" ["self","arrow"] (gH CS):=⟨_,_,zH3 TS cl CI,fe,bb,fc⟩
 have MH:h9 l.prog w K mg base CX0 4 C "House" ["self","name","neighbours","arrows"] (zG5 K C CS):=⟨_,_,okHI T cn CI fy fz g7 f,fq,cu,fp⟩
 have HA:=zLE T TS hA a1 MA c
 have HR:=zK6 T TS hR a1 MR c
 have HI:=zK9 T TS fr a1 g0 c
 have HH:=zLA T TS hH a1 g4 c
 have cv:=zLD T TS fs g5 B k
 have ag:=okRW T ft cv
 have ah:=okRO T cp U ag
 have g8:=okBR T TS fu g6 MA bd k
 have ai:=okCL (CS:=CS) T cq be a1 c
 have HW:=okHW T TS hW U a1 ag g8 MW H c
 have HL:=okHL T TS hL ah ML H
 have HD:=okHD T TS hD ah MD H
 have HK:=okHK T TS hK ai MK H
 have HC:=okHC T TS hC ai MC H
 have CM:=zEA (P:=l.prog) (w:=w) (base:=base) GM
 have CD:=zBC (P:=l.prog) (w:=w) (base:=base) GD
 have CN:=zHZ GN CM
 have CC:=zH8 (P:=l.prog) (w:=w) (base:=base) GC c
 have g9:=zD8 ej CN d
 have CA:=dJ (P:=l.prog) (w:=w) (base:=base) ek b f a6 g c t d 5
 have ga:=zD6 (P:=l.prog) (w:=w) (base:=base) el
 have gb:=zD9 (P:=l.prog) (w:=w) (base:=base) em
 have gc:=zH2 en gb
 have gd:=okCh (P:=l.prog) (w:=w) (base:=base) eo c d m
 have bf:=okSO (P:=l.prog) (w:=w) (base:=base) ep c d
 have gf:=okLN (P:=l.prog) (w:=w) (base:=base) er
 have gg:=okGd es bf c d f
 have gh:=okDn et bf gd gc gf
 have gi:=okPu T cb HW HL HD HK HC
 obtain ⟨cs,a2⟩:∃ cs:Nat->Addr,cs=λi=>[x0,x1,x2,x3,x4,x5,x6,x7,x8,x9,ab,ac].getD i 0:=⟨_,rfl⟩
 have kn:Kn K mg cs:=by
  subst a2
  exact ⟨⟨_,PySem.W.mg_of X G bw,rfl⟩,⟨_,PySem.W.mg_of X G aj,rfl⟩,⟨_,PySem.W.mg_of X G bx,rfl⟩,⟨_,PySem.W.mg_of X G ak,rfl⟩,⟨_,PySem.W.mg_of X G al,rfl⟩,⟨_,PySem.W.mg_of X G ao,rfl⟩,⟨_,PySem.W.mg_of X G bz,rfl⟩,⟨_,PySem.W.mg_of X G c0,rfl⟩,⟨_,PySem.W.mg_of X G c1,rfl⟩,⟨_,PySem.W.mg_of X G c2,rfl⟩,⟨_,PySem.W.mg_of X G b2,rfl⟩,⟨_,PySem.W.mg_of X G b3,rfl⟩,λi j hi hj=>zGX r hi hj,λi hi=>zGW r hi,λi hi=>zIW c3 hi⟩
 have gj:qI K mg "NoHouse" (cs 1):=by
  subst a2
  exact ⟨PySem.W.mg_of X G aj,lU r (i:=1) (by decide) (by decide)⟩
 have aa:qI K mg "NoAsker" (cs 3):=by
  subst a2
  exact ⟨PySem.W.mg_of X G ak,lU r (i:=3) (by decide) (by decide)⟩
 have cw:qI K mg "NoLetter" (cs 4):=by
  subst a2
  exact ⟨PySem.W.mg_of X G al,lU r (i:=4) (by decide) (by decide)⟩
 have gk:qI K mg "NoRight" (cs 5):=by
  subst a2
  exact ⟨PySem.W.mg_of X G ao,lU r (i:=5) (by decide) (by decide)⟩
 have hex:∀ i,i < 12->PySem.W.exmOne K (.ref (cs i)) (.ref aq)=some true:=by
  subst a2
  exact λi hi=>zGY r hi
 have gl:=PySem.W.mg_of X G b4
 have gn:=zD5 (P:=l.prog) (w:=w) (base:=base) c4 b m g
 have XA:=zEC ca CI aa
 have XK:=zLG c5 gn gk
 have gp:=okSL TS mL U aa
 have gq:=okSD TS mD U aa
 have gr:=okSK TS mK af cw
 have gs:=okSC TS mC af cw b g
 have cx:=zKZ T cp XA ag aa
 have gu:=zK7 T TS hL cx ah gp H
 have gv:=zLB T TS hD cx ah gq H
 have gw:=zK5 T hW XA XK ag aa c
 have cy:=zLH (CS:=CS) T cq be XK gj c
 have gx:=zK8 T TS hK cy ai gr H
 have gy:=zLC T TS hC cy ai gs H
 have gz:=zK0 T cb gw gu gv gx gy
 have h0:=zBA (P:=l.prog) (w:=w) (base:=base) kn GK b c d A
 have h1:=zK1 eu CN c
 have cz:=zK3 (P:=l.prog) (w:=w) (base:=base) ev b a5 c t
 have d0:=okIR (P:=l.prog) (w:=w) (base:=base) ew b m g
 have h2:=okWA ex cz d0 bf c m
 have h3:=okWy ey h2 cz d0 c m b g
 have h4:=zH9 ez gi gz h0 gl hex
 have h5:=zLF f0 h3 gh
 have h6:=okAD f3 CN h1 c m
 have h7:=okDr f4 CN h6 gg c
 have h8:=okAs T f5 cv HA HR HI HH CA c f d B
 have ha:=okTo f6 h5 h4 h8 CA c d
 have hb:=okBg fb CD CN g9 c d
 exact zK2 FL CC CD CN hb MH ga h7 ha c f k
theorem walk {l:PySem.W.OpenLaw} {q:Program} {b:List Str} {i:(Str->Option Value)->Heap->Prop} {e:World->Heap->Prop} {d:DefRec} {K:Params->PySem.W.Frag} (j:l.most=some 63) (c:d.params.defaults=[])
  (m:∀ (w:World) (h:Heap),e w h->(K w.params).In h)
  (F:∀ (w:World) (mg:Str->Option Value) (g:Addr) (h:Heap),(K w.params).In h->h.Ns mainGlobals mg->mg d.name=some (.ref g) ->
   ∃ fd:FuncData,(∀ (s:Shared) (u:Value),BindsTo s fd ⟨[u],[]⟩ [("_law_script",u)])/\∀ base:Heap,(K w.params).In base->base.Ns mainGlobals mg->tJ l.prog w (K w.params) mg base CX0 9 g fd ["_law_script"] (eL (K w.params))) :
  PySem.W.WalkO q b i e l.row.toRowW d [] (λf vs=>PySem.call f vs):=
 L2.walk_of (n:=63) (k:=9) (x:="_law_script") (CX:=λ_=>CX0) (sp:=λw=>eL (K w.params)) j (by decide) c ⟨rfl,by decide,by decide⟩ m F (λ_ _ a o p _ r=>⟨a,o,rfl,r,p,λ_=>rfl⟩) λ_ _ _ _ _ z=>z
end K27
open PySem PySem.W PyProof.Rows
set_option maxRecDepth 100000 in
set_option maxHeartbeats 0 in
theorem PySem.Challenge.cw_treeright_k27_whole_houses_by_turns_holds : PySem.Challenge.rw_treeright_k27_whole_houses_by_turns.Holds := by
 refine head ?_
 k_fill
 refine K27.walk (l:=PySem.Challenge.rw_treeright_k27_whole_houses_by_turns) rfl rfl (λw h Y=>PySem.W.kIn_of Y) ?F
 case F=>
  intro w mg fa h KX G hmg
  refine' K27.all_mk KX G hmg ?l0 ?l1 ?l2 ?l3 ?l4 ?l5 ?l6 ?l7 ?l8 ?l9 ?l10 ?l11 ?l12 ?l13 ?l14 ?l15 ?l16 ?l17 ?l18 ?l19 ?l20 ?l21 ?l22 ?l23 ?l24 ?l25 ?l26 ?l27 ?l28 ?l29 ?l30 ?l31 ?l32 ?l33 ?l34 ?l35 ?l36 ?l37 ?l38 ?aL ?lL ?k_CS ?mCS0 ?mCS1 ?mCS2 ?mCS3 ?mCS4 ?mCS5 ?mCS6 ?mCS7 ?mCS8 ?mCS9 ?mCS10 ?mCS11 ?mCS12 ?mCS13 ?n_CS_pointer ?n_CS_waiting ?n_CS_holder ?n_CS_asked ?k_C ?mC0 ?mC1 ?mC2 ?mC3 ?mC4 ?mC5 ?mC6 ?mC7 ?mC8 ?mC9 ?mC10 ?mC11 ?mC12 ?mC13 ?mC14 ?n_C_name ?n_C_nearby ?n_C_seats ?z_isinstance ?z_str ?z_int ?z_bool ?z_len ?z_all ?z_range ?z_list ?z_tuple ?z_set ?z_sorted ?z_enumerate ?z_min ?z_ValueError ?g_LETTERS ?g_LONGEST_NAME ?aX_0 ?aX_1 ?aX_2 ?aX_3 ?aX_4 ?aX_5 ?aX_6 ?aX_7 ?aX_8 ?aX_9 ?aX_10 ?aX_11 ?aX_12 ?xtab ?xall
  (case aL=>k_is)
  (case lL=>exact ⟨_,_,_,_,_,_,_,_,_,by k_is,by k_is,by k_is⟩)
  (case l0 | l1 | l2 | l3 | l4 | l5 | l6 | l7 | l8 | l9 | l10 | l11 | l12 | l13 | l14 | l15 | l16 | l17 | l18 | l19 | l20 | l21 | l22 | l23 | l24 | l25 | l26 | l27 | l28 | l29 | l30 | l31 | l32 | l33 | l34 | l35 | l36 | l37 | l38=>exact ⟨_,by k_is,_,_,_,_,_,_,_,_,_,by k_is,by k_is,by k_is⟩)
  (case k_CS | k_C=>exact ⟨by k_is,by k_is,by k_is,by k_is,by k_is,by k_is,by k_is⟩)
  (case mCS0 | mCS1 | mCS2 | mCS3 | mCS4 | mCS5 | mCS6 | mCS7 | mCS8 | mCS9 | mCS10 | mCS11 | mCS12 | mCS13 | mC0 | mC1 | mC2 | mC3 | mC4 | mC5 | mC6 | mC7 | mC8 | mC9 | mC10 | mC11 | mC12 | mC13 | mC14=>exact ⟨_,by k_is,by k_is,_,_,_,_,_,_,_,_,_,by k_is,by k_is,by k_is⟩)
  (case n_CS_pointer | n_CS_waiting | n_CS_holder | n_CS_asked | n_C_name | n_C_nearby | n_C_seats | z_isinstance | z_str | z_int | z_bool | z_len | z_all | z_range | z_list | z_tuple | z_set | z_sorted | z_enumerate | z_min | z_ValueError | g_LETTERS | g_LONGEST_NAME=>k_is)
  (case aX_0=>k_is)
  (case aX_1=>k_is)
  (case aX_2=>k_is)
  (case aX_3=>k_is)
  (case aX_4=>k_is)
  (case aX_5=>k_is)
  (case aX_6=>k_is)
  (case aX_7=>k_is)
  (case aX_8=>k_is)
  (case aX_9=>k_is)
  (case aX_10=>k_is)
  (case aX_11=>k_is)
  (case aX_12=>k_is)
  (case xtab=>kernel_rfl)
  (case xall=>kernel_rfl)
