import PyProof.Rows.All
import Wide.All
import OpenK.AllK
import Wide.FinOn
import Lean
import PyProof.EqAt
import PyProof.EqKinds
import PyProof.TupleCall
import PySem.Challenge.RW_treeright_k25_refused_at_all_doors
noncomputable section
def zMJ:=@List.length_map
def zMK:=@List.getElem?_eq_getElem
def zML:=@List.getElem?_eq_some_iff
def zMM:=@List.mem_singleton
def zMN:=@List.mem_of_getElem?
def zMO:=@List.getD_eq_getElem?_getD
def zMP:=@List.getElem?_map
def zMQ:=@Option.some.inj
def zMR:=@List.size_toArray
def zMS:=@Nat.le_refl
def zMT:=@Nat.zero_le
def zMU:=@Nat.le_trans
def zMV:=@List.map_append
def zMW:=@List.mem_cons_of_mem
def zMX:=@List.mem_append_right
def zMY:=@decide_eq_true
def zMZ:=@decide_eq_false
def zM0:=@List.mem_append
def zM1:=@List.length_append
def zM2:=@List.length_take
def zM3:=@List.map_map
def zM4:=@List.length_cons
def zM5:=@Nat.lt_of_lt_of_le
def zM6:=@List.getElem?_append_right
def zM7:=@List.getElem?_append_left
def zM8:=@List.take_of_length_le
def zM9:=@List.length_pos_iff
def zNA:=@Nat.ne_of_lt
def zNB:=@Bool.false_ne_true
def zNC:=@List.mem_cons_self
def zND:=@List.not_mem_nil
def zNE:=@List.append_assoc
def zNF:=@List.getElem?_set_ne
def zNG:=@List.getElem?_set_self
def zNH:=@List.length_filter_le
def zNI:=@Array.getD_eq_getD_getElem?
def zNJ:=@List.take_length
def zNK:=@List.length_set
set_option compiler.extract_closed false
set_option Elab.async false
set_option linter.all false
set_option maxRecDepth 100000
namespace L2
open PySem PySem.Spec PyProof.Rows
abbrev VSP:=Value->Shared->Prop
abbrev LAO:=List (Addr × Obj)
abbrev LSS:=List (Str × Str)
abbrev Key:=Sum Int Str
noncomputable def m3:Key->Value->Bool
 | .inl k,v=>Value.isInt k v
 | .inr x,v=>Value.isStrOf x v
noncomputable def keyH (w:World):Key->Int
 | .inl k=>hashInt k
 | .inr x=>hashStr w x
theorem xY:∀ {k:Key} {v:Value},m3 k v=true->(∃ i t,k=Sum.inl i/\v=Value.int i t) \/ (∃ x t,k=Sum.inr x/\v=Value.str x t)
 | .inl i,v,h=>by
  obtain ⟨t,e⟩:=Value.isInt_shape (k:=i) (v:=v) h
  exact .inl ⟨i,t,rfl,e⟩
 | .inr x,v,h=>by
  obtain ⟨t,e⟩:=Value.isStrOf_shape (x:=x) (v:=v) h
  exact .inr ⟨x,t,rfl,e⟩
theorem bO (i:Int) (t:Tok):m3 (.inl i) (.int i t)=true:=by simp [m3,Value.isInt]
theorem bN (x:Str) (t:Tok):m3 (.inr x) (.str x t)=true:=by simp [m3,Value.isStrOf]
theorem zIQ (a b:Int):decide ((Sum.inl a:Key)=Sum.inl b)=(a == b):=by
 by_cases e:a=b
 ·subst e;simp
 ·have h:¬ (Sum.inl a:Key)=Sum.inl b:=λq=>e (Sum.inl.inj q)
  rw [zMZ h]
  exact (beq_eq_false_iff_ne.mpr e).symm
theorem zIN (a b:Str):decide ((Sum.inr a:Key)=Sum.inr b)=decide (a=b):=by
 by_cases e:a=b
 ·subst e;simp
 ·have h:¬ (Sum.inr a:Key)=Sum.inr b:=λq=>e (Sum.inr.inj q)
  rw [zMZ h,zMZ e]
theorem zIP (a:Int) (b:Str):decide ((Sum.inl a:Key)=Sum.inr b)=false:=zMZ (λq=>nomatch q)
theorem zIO (a:Str) (b:Int):decide ((Sum.inr a:Key)=Sum.inl b)=false:=zMZ (λq=>nomatch q)
noncomputable def wH (prog:Program) (w:World):PySem.KeyKind prog w Key where
 is:=m3
 hash:=keyH w
 inj:=λv a b ha hb=>by
  rcases xY ha with ⟨i,t,rfl,rfl⟩ | ⟨x,t,rfl,rfl⟩
  ·rcases xY hb with ⟨j,u,rfl,e⟩ | ⟨y,u,rfl,e⟩
   ·injection e with e1 _;rw [e1]
   ·exact nomatch e
  ·rcases xY hb with ⟨j,u,rfl,e⟩ | ⟨y,u,rfl,e⟩
   ·exact nomatch e
   ·injection e with e1 _;rw [e1]
 byValue:=λk v h=>by
  rcases xY h with ⟨i,t,rfl,rfl⟩ | ⟨x,t,rfl,rfl⟩ <;> rfl
 pyHash:=λhv h=>by
  rcases xY hv with ⟨i,t,rfl,rfl⟩ | ⟨x,t,rfl,rfl⟩
  ·exact wpAny_pyHash_int h
  ·exact wpAny_pyHash_str h
 eqBool:=λhu hv h=>by
  rcases xY hu with ⟨i,t,rfl,rfl⟩ | ⟨x,t,rfl,rfl⟩
  ·rcases xY hv with ⟨j,u,rfl,rfl⟩ | ⟨y,u,rfl,rfl⟩
   ·rw [zIQ] at h;exact wpAny_eqBool_int h
   ·rw [zIP] at h;exact SeqAt.EqAt.int_str i t y u _ _ _ _ h
  ·rcases xY hv with ⟨j,u,rfl,rfl⟩ | ⟨y,u,rfl,rfl⟩
   ·rw [zIO] at h;exact SeqAt.EqAt.str_int x t j u _ _ _ _ h
   ·rw [zIN] at h;exact wpAny_eqBool_str h
 «strs»:=λk x t v h=>by
  rcases xY h with ⟨i,u,rfl,e⟩ | ⟨y,u,rfl,e⟩
  ·exact nomatch e
  ·injection e with e1 _
   subst e1
   cases v <;> rfl
theorem iO (prog:Program) (w:World) (i:Int) (t:Tok):(wH prog w).is (.inl i) (.int i t)=true:=bO i t
theorem iN (prog:Program) (w:World) (x:Str) (t:Tok):(wH prog w).is (.inr x) (.str x t)=true:=bN x t
inductive V where
 | non | bl (b:Bool) | int (i:Int) | str (x:Str) | byt (b:Array UInt8) | flt (b:UInt64) | ref (a:Addr) | ty (n:String)
 deriving DecidableEq
def yX:V->Value->Prop
 | .non,u=>u=Value.none
 | .bl b,u=>u=Value.bool b
 | .int i,u=>∃ t,u=Value.int i t
 | .str x,u=>∃ t,u=Value.str x t
 | .byt b,u=>∃ t,u=Value.bytes b t
 | .flt b,u=>∃ t,u=Value.float b t
 | .ref a,u=>u=Value.ref a
 | .ty n,u=>u=Value.type n
noncomputable abbrev yO:List V->List Value->Prop:=Paired yX
theorem yO.length {xs:List V} {us:List Value} (r:yO xs us):xs.length=us.length:=Paired.length r
theorem yO.get:∀ {xs:List V} {us:List Value} {i:Nat} {x:V},yO xs us->xs[i]?=some x->∃ u,us[i]?=some u/\yX x u
 | _,_,_,_,.nil,e=>by simp at e
 | _,_,0,_,.cons r _,e=>by simp at e;subst e;exact ⟨_,rfl,r⟩
 | _,_,i + 1,x,.cons _ t,e=>by
  obtain ⟨u,a,b⟩:=yO.get (i:=i) (x:=x) t (by simpa using e)
  exact ⟨u,by simpa using a,b⟩
theorem yO.set {x:V} {u:Value} (r:yX x u):∀ {xs:List V} {us:List Value} (i:Nat),yO xs us->yO (xs.set i x) (us.set i u)
 | _,_,_,.nil=>.nil
 | _,_,0,.cons _ t=>.cons r t
 | _,_,i + 1,.cons q t=>.cons q (yO.set r i t)
theorem yO.append {xs ys:List V} {us a:List Value} (h:yO xs us) (s:yO ys a):yO (xs ++ ys) (us ++ a):=by
 induction h with
 | nil=>exact s
 | cons r _ b=>exact .cons r b
theorem yO.take:∀ {xs:List V} {us:List Value} (n:Nat),yO xs us->yO (xs.take n) (us.take n)
 | _,_,0,_=>.nil
 | _,_,_ + 1,.nil=>.nil
 | _,_,n + 1,.cons r t=>.cons r (yO.take n t)
theorem yO.drop:∀ {xs:List V} {us:List Value} (n:Nat),yO xs us->yO (xs.drop n) (us.drop n)
 | _,_,0,r=>r
 | _,_,_ + 1,.nil=>.nil
 | _,_,n + 1,.cons _ t=>yO.drop n t
def sW:Option V->Option Value->Prop
 | some v,some u=>yX v u
 | none,none=>True
 | _,_=>False
def KV {κ:Type}:List (κ × V)->List (κ × Value)->Prop:=Paired λ(p:κ × V) (q:κ × Value)=>p.1=q.1/\yX p.2 q.2
noncomputable def kV:Key->V
 | .inl i=>.int i
 | .inr x=>.str x
inductive HO where
 | lst (xs:List V)
 | tup (xs:List V)
 | dK (kvs:List (Key × V)) | dT (kvs:List (List Key × V))
 | set (S:Int->Bool) (n:Nat)
 | ins (C dx:Addr) (fs:List (Str × V))
 | own (x:Addr)
 | xd (fs:List (Str × V))
 | met (f x:Addr)
 | rng (lo hi:Int)
 | frz (o:Obj) (u:HO)
 | tbl (ps:Array Value)
 | ext (φ:Heap->Prop)
abbrev Hp:=Addr->Option HO
noncomputable def upd (H:Hp) (a:Addr) (o:HO):Hp:=λb=>if b=a then some o else H b
theorem zC {H:Hp} {a:Addr} {o:HO}:upd H a o a=some o:=by unfold upd;rw [if_pos rfl]
theorem zK {H:Hp} {a b:Addr} {o:HO} (h:b ≠ a):upd H a o b=H b:=by unfold upd;rw [if_neg h]
theorem uE {H:Hp} {a:Addr} {o u:HO}:upd (upd H a o) a u=upd H a u:=by
 funext b;unfold upd;split <;> rfl
theorem wL {H:Hp} {a b:Addr} {o u:HO} (h:H a=some o) (h':H b=some u) (d:o ≠ u):a ≠ b:=by
 intro e;subst e;rw [h] at h';exact d (zMQ h')
theorem zI {H:Hp} {a b:Addr} {o:HO} (h:H a=some o) (h':H b=none):a ≠ b:=by
 intro e;subst e;rw [h] at h';cases h'
section
variable (P:Program) (w:World)
def xL (H:Hp) (h:Heap) (a:Addr):HO->Prop
 | .lst d=>d.length <= sizeLine/\∃ (b:List Value) (n:Nat),yO d b/\h.get? a=some { cls:=.type "list",data:=.seq b.toArray n }
 | .tup d=>d.length <= sizeLine/\∃ b:List Value,yO d b/\IsTup h a b.toArray
 | .dK c=>c.length <= sizeLine/\(a == sysModules)=false/\∃ k,KV c k/\h.DictOf (wH P w) a k
 | .dT c=>c.length <= sizeLine/\(a == sysModules)=false/\∃ d:List (List Key × Addr × Value),
   Paired (λ(p:List Key × V) (q:List Key × Addr × Value)=>p.1=q.1/\H q.2.1=some (.tup (p.1.map kV))/\yX p.2 q.2.2) c d /\
   ∃ o l s,h.get? a=some o/\o.ExactDict/\o.data=.dict l s/\l.toList=d.map (entryOfKey (tupleKind (wH P w)))/\(d.map (·.1)).Nodup
 | .set S n=>h.SetOf (intKind P w) a S n
 | .ins C i g=>H i=some (.own a)/\g.length <= 1000/\i ≠ a/\h.get? a=some (W.instObj C i) /\
   ∃ e,h.Ns1 i e/\(∀ f,sW (g.lookup f) (e f))/\PySem.Within e (g.map (·.1))
 | .own _=>∃ o,h.get? a=some o
 | .xd g=>∃ e,h.Ns1 a e/\∀ f,sW (g.lookup f) (e f)
 | .rng lo y=>∃ t u v,h.get? a=some { cls:=.type "range",data:=.fields #[.int lo t,.int y u,.int 1 v] }
 | .frz o u=>h.get? a=some o/\xL H h a u
 | .tbl z=>h.get? a=some { cls:=.none,data:=.fields z }
 | .met f x=>h.get? a=some (W.methodObj (.ref f) (.ref x))
 | .ext j=>j h/\(∃ o,h.get? a=some o)/\∀ m r:Heap,j m->(∀ o,m.get? a=some o->r.get? a=some o)->j r
def HOk (H:Hp) (h:Heap):Prop:=∀ a o,H a=some o->xL P w H h a o
end
section
variable {P:Program} {w:World} {H H':Hp} {h h':Heap} {a:Addr} {o:HO}
theorem xL.lt (x:xL P w H h a o):a < h.objs.size:=by
 cases o with
 | lst c=>obtain ⟨_,_,_,_,e⟩:=x;exact Heap.lt_size e
 | tup c=>obtain ⟨_,_,_,p⟩:=x;exact p.lt
 | dK b=>obtain ⟨_,_,_,_,o,_,_,e,_⟩:=x;exact Heap.lt_size e
 | dT b=>obtain ⟨_,_,_,_,o,_,_,e,_⟩:=x;exact Heap.lt_size e
 | set S n=>obtain ⟨o,_,_,_,e,_⟩:=x;exact Heap.lt_size e
 | ins C g d=>obtain ⟨_,_,_,e,_⟩:=x;exact Heap.lt_size e
 | own y=>obtain ⟨_,e⟩:=x;exact Heap.lt_size e
 | xd d=>obtain ⟨_,⟨_,_,_,e,_⟩,_⟩:=x;exact Heap.lt_size e
 | rng lo i=>obtain ⟨_,_,_,e⟩:=x;exact Heap.lt_size e
 | frz j u=>obtain ⟨e,_⟩:=x;exact Heap.lt_size e
 | tbl k=>exact Heap.lt_size (show h.get? a=some _ from x)
 | met f y=>exact Heap.lt_size (show h.get? a=some _ from x)
 | ext l=>obtain ⟨_,⟨_,e⟩,_⟩:=x;exact Heap.lt_size e
theorem Paired.mapP {e g:Type} {F G:e->g->Prop} {c:List e} {d:List g} (h:Paired F c d) (f:∀ a b,F a b->G a b):Paired G c d:=by
 induction h with
 | nil=>exact .nil
 | cons r _ i=>exact .cons (f _ _ r) i
theorem xL.stay (x:xL P w H h a o) (k:∀ b u,(b=a \/ H b=some (.own a))->h.get? b=some u->h'.get? b=some u)
  (D:∀ b,H b=some (.own a)->H' b=some (.own a)) (E:∀ b xs,H b=some (.tup xs)->H' b=some (.tup xs)):xL P w H' h' a o:=by
 induction o with
 | lst xs=>obtain ⟨z,l,n,r,e⟩:=x;exact ⟨z,l,n,r,k _ _ (.inl rfl) e⟩
 | tup xs=>obtain ⟨z,l,r,g,e,c⟩:=x;exact ⟨z,l,r,g,k _ _ (.inl rfl) e,c⟩
 | dK m=>obtain ⟨z,y,G,r,g,i,j,e,c⟩:=x;exact ⟨z,y,G,r,g,i,j,k _ _ (.inl rfl) e,c⟩
 | dT m=>
  obtain ⟨z,y,xs,r,g,i,j,e,c⟩:=x
  exact ⟨z,y,xs,Paired.mapP r λp q z=>⟨z.1,E _ _ z.2.1,z.2.2⟩,g,i,j,k _ _ (.inl rfl) e,c⟩
 | set S n=>obtain ⟨g,i,j,t,e,c⟩:=x;exact ⟨g,i,j,t,k _ _ (.inl rfl) e,c⟩
 | ins C M I=>
  obtain ⟨d,z,ne,e,s,⟨A,i,j,J,c⟩,r⟩:=x
  exact ⟨D _ d,z,ne,k _ _ (.inl rfl) e,s,⟨A,i,j,k _ _ (.inr d) J,c⟩,r⟩
 | own y=>obtain ⟨g,e⟩:=x;exact ⟨g,k _ _ (.inl rfl) e⟩
 | xd I=>obtain ⟨s,⟨A,i,j,e,c⟩,r⟩:=x;exact ⟨s,⟨A,i,j,k _ _ (.inl rfl) e,c⟩,r⟩
 | rng lo N=>obtain ⟨t,u,v,e⟩:=x;exact ⟨t,u,v,k _ _ (.inl rfl) e⟩
 | frz g u L=>obtain ⟨e,q⟩:=x;exact ⟨k _ _ (.inl rfl) e,L q⟩
 | tbl B=>
  have e:h.get? a=some { cls:=.none,data:=.fields B }:=x
  show h'.get? a=some { cls:=.none,data:=.fields B }
  exact k a _ (.inl rfl) e
 | met f y=>
  have e:h.get? a=some (W.methodObj (.ref f) (.ref y)):=x
  show h'.get? a=some (W.methodObj (.ref f) (.ref y))
  exact k a _ (.inl rfl) e
 | ext O=>obtain ⟨p,⟨o,e⟩,st⟩:=x;exact ⟨st _ _ p λo q=>k _ _ (.inl rfl) q,⟨o,k _ _ (.inl rfl) e⟩,st⟩
theorem HOk.lt (x:HOk P w H h) (e:H a=some o):a < h.objs.size:=(x a o e).lt
theorem HOk.fresh (x:HOk P w H h) (e:h.objs.size <= a):H a=none:=by
 cases q:H a with
 | none=>rfl
 | some u=>exact absurd (zM5 (x.lt q) e) (Nat.lt_irrefl _)
theorem HOk.kept (x:HOk P w H h) (k:∀ b u,h.get? b=some u->h'.get? b=some u):HOk P w H h':=λa o e=>
 (x a o e).stay (λb u _ q=>k b u q) (λ_ q=>q) λ_ _ q=>q
theorem HOk.laid (x:HOk P w H h) (k:∀ b u,h.get? b=some u->h'.get? b=some u) (g:h.objs.size <= a) (new:xL P w (upd H a o) h' a o):HOk P w (upd H a o) h':=λb u e=>by
 have d:=x.fresh g
 by_cases f:b=a
 ·subst f;rw [zC] at e;cases e;exact new
 ·rw [zK f] at e
  exact (x b u e).stay (λc v _ q=>k c v q) (λc q=>by rw [zK (zI q d)];exact q) λc i q=>by rw [zK (zI q d)];exact q
end
def Rd (H:Hp) (a:Addr) (u:HO):Prop:=H a=some u \/ ∃ o,H a=some (.frz o u)
theorem Rd.ok {P:Program} {w:World} {H:Hp} {h:Heap} {a:Addr} {u:HO} (r:Rd H a u) (x:HOk P w H h):xL P w H h a u:=by
 rcases r with r | ⟨o,r⟩
 ·exact x a u r
 ·obtain ⟨_,q⟩:=x a _ r
  exact q
def Mut:Option HO->Prop
 | some (.lst _)=>True
 | some (.dK _)=>True
 | some (.dT _)=>True
 | some (.set _ _)=>True
 | some (.ins _ _ _)=>True
 | some (.ext _)=>True
 | _=>False
section
variable {P:Program} {w:World} {H:Hp} {h h':Heap} {x e:Addr} {o':HO}
theorem HOk.write (ok:HOk P w H h) (g:Mut (H x)) (n:e=x \/ H e=some (.own x)) (k:∀ b u,b ≠ e->h.get? b=some u->h'.get? b=some u) (m:∃ u,h'.get? e=some u)
  (new:xL P w (upd H x o') h' x o'):HOk P w (upd H x o') h':=λb u q=>by
 have d:∀ c y,H c=some (.own y)->c ≠ x:=λc y r z=>by subst z;rw [r] at g;exact g
 have f:∀ c i,H c=some (.tup i)->c ≠ x:=λc i r z=>by subst z;rw [r] at g;exact g
 by_cases j:b=x
 ·subst j;rw [zC] at q;cases q;exact new
 ·rw [zK j] at q
  by_cases a:b=e
  ·have o:H b=some (.own x):=by
    rcases n with z | z
    ·exact absurd (a.trans z) j
    ·rw [a];exact z
   rw [q] at o;cases o
   obtain ⟨v,p⟩:=m
   exact ⟨v,by rw [a];exact p⟩
  ·refine (ok b u q).stay (λc v l r=>k c v ?_ r) (λc r=>by rw [zK (d c b r)];exact r) λc i r=>by rw [zK (f c i r)];exact r
   rcases l with rfl | l
   ·exact a
   ·rintro rfl
    rcases n with z | z
    ·exact d c b l z
    ·rw [l] at z;cases z;exact j rfl
end
structure Un (fs ex:List Addr) (H H':Hp) (h h':Heap):Prop where
 keep:∀ b o,h.get? b=some o->H b=none->b ∉ fs->b ∉ ex->h'.get? b=some o
 slot:∀ b o,h.get? b=some o->H b=none->b ∈ fs->b ∉ ex->∃ sl,h'.get? b=some { o with slots:=sl }
 free:∀ b o,h.get? b=some o->H b=none->b ∉ ex->H' b=none
 there:∀ b o,h.get? b=some o->b ∉ ex->∃ o',h'.get? b=some o'
 tups:∀ b xs,H b=some (.tup xs)->H' b=some (.tup xs)
 frzs:∀ b o u,H b=some (.frz o u)->H' b=some (.frz o u)
 tbls:∀ b ps,H b=some (.tbl ps)->∃ more,H' b=some (.tbl (ps ++ more))
section
variable {fs fs' ex ex':List Addr} {H H1 H2:Hp} {h h1 h2 h':Heap} {a x e:Addr} {o:HO}
theorem Un.any (u:Un fs ex H H1 h h1) {b:Addr} {c:Obj} (q:h.get? b=some c) (n:H b=none) (hx:b ∉ ex):∃ f,h1.get? b=some { c with slots:=f }:=by
 by_cases d:b ∈ fs
 ·exact u.slot b c q n d hx
 ·exact ⟨c.slots,u.keep b c q n d hx⟩
theorem Un.kept (k:∀ b u,h.get? b=some u->h'.get? b=some u):Un fs ex H H h h':=
 ⟨λb c q _ _ _=>k b c q,λb c q _ _ _=>⟨c.slots,k b c q⟩,λ_ _ _ n _=>n,λb c q _=>⟨c,k b c q⟩,λ_ _ q=>q,λ_ _ _ q=>q,λ_ d q=>⟨#[],by rw [q];simp⟩⟩
theorem Un.refl:Un fs ex H H h h:=Un.kept λ_ _ q=>q
theorem Un.laid (k:∀ b u,h.get? b=some u->h'.get? b=some u) (hp:h.objs.size <= a) (hn:H a=none):Un fs ex H (upd H a o) h h' where
 keep:=λb u q _ _ _=>k b u q
 slot:=λb u q _ _ _=>⟨u.slots,k b u q⟩
 free:=λb u q n _=>by rw [zK (zNA (zM5 (Heap.lt_size q) hp))];exact n
 there:=λb u q _=>⟨u,k b u q⟩
 tups:=λb xs q=>by rw [zK (zI q hn)];exact q
 frzs:=λb u xs q=>by rw [zK (zI q hn)];exact q
 tbls:=λb ps q=>⟨#[],by rw [zK (zI q hn),q];simp⟩
theorem Un.write (d:Mut (H x)) (l:e=x \/ H e=some (.own x)) (k:∀ b u,b ≠ e->h.get? b=some u->h'.get? b=some u) (f:∃ u,h'.get? e=some u):Un fs ex H (upd H x o) h h':=by
 have i:∀ b,H b=none->b ≠ x:=λb n z=>by subst z;rw [n] at d;exact d
 have j:∀ b,H b=none->b ≠ e:=λb n z=>by
  subst z
  rcases l with r | r
  ·exact i b n r
  ·rw [n] at r;cases r
 have g:∀ b u,H b=some u->¬ Mut (some u)->b ≠ x:=λb u q m z=>by subst z;rw [q] at d;exact m d
 refine ⟨λb u q n _ _=>k b u (j b n) q,λb u q n _ _=>⟨u.slots,k b u (j b n) q⟩,λb u q n _=>by rw [zK (i b n)];exact n,λb u q _=>?_,
  λb p q=>by rw [zK (g b _ q λz=>z)];exact q,λb u p q=>by rw [zK (g b _ q λz=>z)];exact q,λb s q=>⟨#[],by rw [zK (g b _ q λz=>z),q];simp⟩⟩
 by_cases c:b=e
 ·subst c;exact f
 ·exact ⟨u,k b u c q⟩
end
noncomputable def trk (h:Heap) (H:Hp):List Addr:=(List.range h.objs.size).filter λa=>(H a).isSome
noncomputable def kX (h:Heap) (H:Hp):Heap:=W.hideAll h (trk h H)
theorem bQ (h:Heap) (H:Hp):(kX h H).objs.size=h.objs.size:=W.hideAll_size _ _
theorem zCG {h:Heap} {H:Hp} {b:Addr} {o:Obj} (e:h.get? b=some o) (n:H b=none):(kX h H).get? b=some o:=
 W.hideAll_get _ e λa=>by
  have q:(H b).isSome=true:=(List.mem_filter.mp a).2
  rw [n] at q;simp at q
theorem zEQ {h:Heap} {H:Hp} {b:Addr} {o:Obj} (e:(kX h H).get? b=some o):h.get? b=some o/\H b=none:=by
 have a:h.get? b=some o:=W.of_hideAll (trk h H) e
 refine ⟨a,?_⟩
 cases q:H b with
 | none=>rfl
 | some x=>
  have c:b ∈ trk h H:=List.mem_filter.mpr ⟨List.mem_range.mpr (Heap.lt_size a),by simp [q]⟩
  have z:(kX h H).get? b=none:=W.hideAll_none (trk h H) c
  rw [z] at e;cases e
structure Mod (K:W.Frag) (mg:Str->Option Value) (base:Heap):Prop where
 kin:K.In base
 glob:base.Ns mainGlobals mg
 blt:∃ mb,base.Ns builtinsNs mb/\∀ x:Str,x ≠ "__name__"->mb x=bootBuiltins x
 nolimit:base.NoLimit
structure Cx where
 prog:Program
 w:World
 K:W.Frag
 mg:Str->Option Value
 base:Heap
 A:Around
 N:List Str
 s₀:Shared
 H₀:Hp
 env:Env
 outer:List Env
 stack:List Env
 ex:List Addr
 fn:Str->Bool
 calm:Bool
 pn:LAO
 xe:VSP
noncomputable def frs (l:List Env):List Addr:=l.filterMap (·.frame)
abbrev Cx.fs (X:Cx):List Addr:=frs X.outer
def Vis (sc:Scope) (x:Str):Prop:=sc.names.lookup x=some .local \/ sc.names.lookup x=some .cell \/ sc.names.lookup x=some .free
def Loc (sc:Scope) (x:Str):Prop:=sc.names.lookup x=some .local \/ sc.names.lookup x=some .cell
def Look (env:Env) (h:Heap) (m:Str->Option Value) (x:Str) (u:Value):Prop:=
 (env.kindOf x=some .local/\m x=some u) \/ ((env.kindOf x=some .cell \/ env.kindOf x=some .free)/\∃ c,env.cells.lookup x=some c/\h.IsCell c (some u))
structure Cx.Ok (X:Cx):Prop where
 mod:Mod X.K X.mg X.base
 kind:X.env.scope.kind=.function
 glob:X.env.globals=mainGlobals
 blt:X.env.builtins=builtinsNs
 above:X.s₀.heap.objs.size <= X.env.locals
 inj:∀ x y c,X.env.cells.lookup x=some c->X.env.cells.lookup y=some c->x=y
 has:∀ x,(X.env.kindOf x=some .cell \/ X.env.kindOf x=some .free)->∃ c,X.env.cells.lookup x=some c
 cab:∀ x c,X.fn x=true->X.env.cells.lookup x=some c->X.s₀.heap.objs.size <= c
 hd:X.calm=true->X.A.handled=none
 frames:X.A.frames=some X.stack
 stk:X.stack=X.outer \/ (X.stack=X.env :: X.outer/\X.env.frame=some X.env.locals)
 exf:∀ b ∈ X.ex,b ≠ X.env.locals/\∀ x c,X.env.cells.lookup x=some c->c ≠ b
 bs:∀ b o,X.base.get? b=some o->X.s₀.heap.get? b=some o/\X.H₀ b=none
 bsz:X.base.objs.size <= X.s₀.heap.objs.size
 noex:∀ b o,X.base.get? b=some o->b ∉ X.ex
 exfs:∀ b ∈ X.ex,b ∉ X.fs
 funs:X.s₀.heap.FunFrames X.base X.outer
 frf:∀ b ∈ X.fs,X.H₀ b=none
structure Inv (X:Cx) (qp:LAO) (σ:List (Option V)) (H:Hp) (s:Shared):Prop where
 ok:X.Ok
 os:s.os=X.s₀.os
 bare:AllBare s.gens
 base:Un X.fs X.ex X.H₀ H X.s₀.heap s.heap
 loc:∃ m,s.heap.Ns X.env.locals m/\∀ (i:Nat) (x:Str) (v:V),X.N[i]?=some x->σ[i]?=some (some v)->Vis X.env.scope x->∃ u,yX v u/\Look X.env s.heap m x u
 cell:∀ x c,X.env.cells.lookup x=some c->∃ v,s.heap.IsCell c v
 free:H X.env.locals=none
 freeC:∀ x c,X.env.cells.lookup x=some c->H c=none
 pin:∀ p ∈ X.pn ++ qp,s.heap.get? p.1=some p.2/\H p.1=none/\p.1 ≠ X.env.locals/\p.1 ∉ X.fs/\∀ v,p.2.data ≠ .cell v
 hok:HOk X.prog X.w H s.heap
 len:σ.length=X.N.length
section
variable {X:Cx} {qp:LAO} {σ:List (Option V)} {H H':Hp} {s:Shared} {h':Heap}
theorem Cx.Ok.nofr (ok:X.Ok) {b:Addr} {o:Obj} (e:X.base.get? b=some o):b ∉ X.fs:=λa=>by
 have:=(ok.funs.mem a).1
 rw [e] at this;cases this
theorem Inv.bs (I:Inv X qp σ H s):∀ b o,X.base.get? b=some o->s.heap.get? b=some o/\H b=none:=λb o e=>
 ⟨I.base.keep b o (I.ok.bs b o e).1 (I.ok.bs b o e).2 (I.ok.nofr e) (I.ok.noex b o e),I.base.free b o (I.ok.bs b o e).1 (I.ok.bs b o e).2 (I.ok.noex b o e)⟩
theorem Inv.bk (I:Inv X qp σ H s):∀ b o,X.base.get? b=some o->s.heap.get? b=some o:=λb o e=>(I.bs b o e).1
theorem Inv.mod (I:Inv X qp σ H s):Mod X.K X.mg X.base:=I.ok.mod
theorem Inv.kIn (I:Inv X qp σ H s):X.K.In s.heap:=I.ok.mod.kin.keeps I.bk
theorem Inv.lt (I:Inv X qp σ H s):X.env.locals < s.heap.objs.size:=let ⟨_,a,_⟩:=I.loc;a.lt
theorem Inv.sz (I:Inv X qp σ H s):X.s₀.heap.objs.size <= s.heap.objs.size:=zMU I.ok.above (Nat.le_of_lt I.lt)
theorem Inv.nofs (I:Inv X qp σ H s) {a:Addr} (h:s.heap.objs.size <= a):a ∉ X.fs:=λb=>by
 obtain ⟨_,o,c,_⟩:=I.ok.funs.mem b
 exact absurd (zM5 (Heap.lt_size c) (zMU I.sz h)) (Nat.lt_irrefl _)
theorem Inv.cne (I:Inv X qp σ H s):∀ x c,X.env.cells.lookup x=some c->c ≠ X.env.locals:=λx c e z=>by
 obtain ⟨v,o,d,hd⟩:=I.cell x c e
 obtain ⟨m,⟨f,g,h,a,b,_⟩,_⟩:=I.loc
 rw [z,a] at d;cases d;rw [b] at hd;cases hd
theorem Inv.funs (I:Inv X qp σ H s):s.heap.FunFrames X.base X.outer:=by
 have all:∀ (l:List Env),(∀ b ∈ frs l,b ∈ X.fs)->X.s₀.heap.FunFrames X.base l->s.heap.FunFrames X.base l:=by
  intro l
  induction l with
  | nil=>intro _ _;trivial
  | cons g r h=>
   intro f i
   obtain ⟨j,⟨L,o,a,k,m,hd⟩,n⟩:=i
   have c:L ∈ X.fs:=f L (by unfold frs;rw [List.filterMap_cons,a];exact zNC)
   obtain ⟨p,e⟩:=I.base.slot L o m (I.ok.frf L c) c λz=>I.ok.exfs L z c
   exact ⟨j,⟨L,_,a,k,e,hd⟩,h (λb d=>f b (by unfold frs;rw [List.filterMap_cons,a];exact zMW _ d)) n⟩
 exact all X.outer (λ_ d=>d) I.ok.funs
theorem Inv.stack (I:Inv X qp σ H s):s.heap.FunFrames X.base X.stack:=by
 rcases I.ok.stk with e | ⟨e,a⟩
 ·rw [e];exact I.funs
 ·rw [e]
  obtain ⟨m,b,_⟩:=I.loc
  refine .cons (by rw [I.ok.kind];decide) a b ?_ I.funs
  exact Heap.get?_none_of_le (zMU I.ok.bsz I.ok.above)
theorem Inv.stkSub (I:Inv X qp σ H s):∀ b ∈ frs X.stack,b ∈ X.env.locals :: X.fs:=λb a=>by
 rcases I.ok.stk with e | ⟨e,c⟩
 ·rw [e] at a;exact zMW _ a
 ·rw [e] at a
  unfold frs at a
  rw [List.filterMap_cons,c] at a
  exact a
theorem Inv.stkFree (I:Inv X qp σ H s):∀ b ∈ frs X.stack,H b=none:=λb a=>by
 rcases List.mem_cons.mp (I.stkSub b a) with e | a
 ·rw [e];exact I.free
 ·obtain ⟨_,o,c,_⟩:=I.ok.funs.mem a
  exact I.base.free b o c (I.ok.frf b a) λz=>I.ok.exfs b z a
theorem Inv.step {g':Array GenState} {t':Nat} {d':Drawn} {ch:List Addr} (I:Inv X qp σ H s)
  (f:∀ b ∈ ch,(b ∈ X.ex \/ X.s₀.heap.objs.size <= b)/\b ≠ X.env.locals/\(∀ x c,X.env.cells.lookup x=some c->c ≠ b)/\∀ p ∈ X.pn ++ qp,p.1 ≠ b)
  (keep:∀ b o,b ≠ X.env.locals->b ∉ X.fs->b ∉ ch->s.heap.get? b=some o->H b=none->h'.get? b=some o)
  (slot:∀ b o,b ≠ X.env.locals->b ∈ X.fs->b ∉ ch->s.heap.get? b=some o->H b=none->∃ L,h'.get? b=some { o with slots:=L }) (free:∀ b o,b ∉ ch->s.heap.get? b=some o->H b=none->H' b=none)
  (there:∀ b o,b ∉ ch->s.heap.get? b=some o->∃ B,h'.get? b=some B)
  (C:∀ b xs,H b=some (.tup xs)->H' b=some (.tup xs)) (D:∀ b o u,H b=some (.frz o u)->H' b=some (.frz o u)) (E:∀ b ps,H b=some (.tbl ps)->∃ more,H' b=some (.tbl (ps ++ more)))
  (U:∀ m,s.heap.Ns X.env.locals m->h'.Ns X.env.locals m) (M:HOk X.prog X.w H' h') (Y:AllBare g') :
  Inv X qp σ H' { s with heap:=h',gens:=g',drawn:=d',toks:=t' }:=by
 have G:∀ b o,X.s₀.heap.get? b=some o->b ≠ X.env.locals:=λb o e=>zNA (zM5 (Heap.lt_size e) I.ok.above)
 have j:∀ b o,X.s₀.heap.get? b=some o->b ∉ X.ex->b ∉ ch:=λb o e a y=>by
  rcases (f b y).1 with z | z
  ·exact a z
  ·exact absurd (zM5 (Heap.lt_size e) z) (Nat.lt_irrefl _)
 have g:∀ x c,X.env.cells.lookup x=some c->∀ v,s.heap.IsCell c v->h'.IsCell c v:=λx c e v ⟨o,A,hd⟩=>by
  have h:c ∉ ch:=λz=>(f c z).2.2.1 x c e rfl
  by_cases O:c ∈ X.fs
  ·obtain ⟨L,q⟩:=slot c o (I.cne x c e) O h A (I.freeC x c e)
   exact ⟨_,q,hd⟩
  ·exact ⟨o,keep c o (I.cne x c e) O h A (I.freeC x c e),hd⟩
 refine ⟨I.ok,I.os,Y,⟨λb o e n y a=>?_,λb o e n y a=>?_,λb o e n a=>?_,λb o e a=>?_,λb xs e=>C b xs (I.base.tups b xs e),λb o xs e=>D b o xs (I.base.frzs b o xs e),λb ps e=>?_⟩,?_,λx c e=>?_,?_,λx c e=>?_,λp Q=>?_,M,I.len⟩
 ·exact keep b o (G b o e) y (j b o e a) (I.base.keep b o e n y a) (I.base.free b o e n a)
 ·obtain ⟨L,t⟩:=I.base.slot b o e n y a
  obtain ⟨N,J⟩:=slot b _ (G b o e) y (j b o e a) t (I.base.free b o e n a)
  exact ⟨N,J⟩
 ·obtain ⟨B,t⟩:=I.base.there b o e a
  exact free b B (j b o e a) t (I.base.free b o e n a)
 ·obtain ⟨B,t⟩:=I.base.there b o e a
  exact there b B (j b o e a) t
 ·obtain ⟨m1,t⟩:=I.base.tbls b ps e
  obtain ⟨m2,J⟩:=E b _ t
  exact ⟨m1 ++ m2,by rw [J,Array.append_assoc]⟩
 ·obtain ⟨m,hn,hl⟩:=I.loc
  refine ⟨m,U m hn,λi x v t J e3=>?_⟩
  obtain ⟨u,r,l⟩:=hl i x v t J e3
  refine ⟨u,r,?_⟩
  rcases l with l | ⟨k,c,e,z⟩
  ·exact .inl l
  ·exact .inr ⟨k,c,e,g x c e _ z⟩
 ·obtain ⟨v,z⟩:=I.cell x c e
  exact ⟨v,g x c e v z⟩
 ·obtain ⟨m,⟨o,_,_,A,_⟩,_⟩:=I.loc
  exact free _ o (λz=>(f _ z).2.1 rfl) A I.free
 ·obtain ⟨v,o,A,hd⟩:=I.cell x c e
  exact free c o (λz=>(f c z).2.2.1 x c e rfl) A (I.freeC x c e)
 ·obtain ⟨e,n,ne,T,d⟩:=I.pin p Q
  have h:p.1 ∉ ch:=λz=>(f p.1 z).2.2.2 p Q rfl
  exact ⟨keep p.1 p.2 ne T h e n,free p.1 p.2 h e n,ne,T,d⟩
theorem Inv.un {t':Nat} (I:Inv X qp σ H s) (u:Un X.fs [] H H' s.heap h') (c:HOk X.prog X.w H' h'):Inv X qp σ H' { s with heap:=h',toks:=t' }:=by
 obtain ⟨m,⟨o,l,p,h,r⟩,_⟩:=id I.loc
 obtain ⟨q,i⟩:=u.any h I.free (by simp)
 exact I.step (g':=s.gens) (d':=s.drawn) (ch:=[]) (λ_ z=>nomatch z) (λb o _ d _ e n=>u.keep b o e n d (by simp)) (λb o _ d _ e n=>u.slot b o e n d (by simp)) (λb o _ e n=>u.free b o e n (by simp)) (λb o _ e=>u.there b o e (by simp)) u.tups u.frzs u.tbls (λy j=>by
  obtain ⟨A,f,g,a,k⟩:=j
  rw [h] at a;cases a
  exact ⟨_,f,g,i,k⟩) c I.bare
theorem Inv.call {g':Array GenState} {t':Nat} {d':Drawn} {ch:List Addr} (I:Inv X qp σ H s) (u:Un (frs X.stack) ch H H' s.heap h') (g:HOk X.prog X.w H' h') (l:AllBare g')
  (d:∀ b ∈ ch,(b ∈ X.ex \/ X.s₀.heap.objs.size <= b)/\b ≠ X.env.locals/\(∀ x c,X.env.cells.lookup x=some c->c ≠ b)/\∀ p ∈ X.pn ++ qp,p.1 ≠ b) :
  Inv X qp σ H' { s with heap:=h',gens:=g',drawn:=d',toks:=t' }:=by
 obtain ⟨m,⟨o,y,A,k,r⟩,_⟩:=id I.loc
 obtain ⟨B,h⟩:=u.any k I.free λz=>(d _ z).2.1 rfl
 exact I.step (ch:=ch) d (λb o h q a e n=>u.keep b o e n (λz=>(List.mem_cons.mp (I.stkSub b z)).elim h q) a) (λb o _ _ a e n=>u.any e n a) (λb o a e n=>u.free b o e n a) (λb o a e=>u.there b o e a) u.tups u.frzs u.tbls (λC t=>by
  obtain ⟨D,i,j,f,v⟩:=t
  rw [k] at f;cases f
  exact ⟨_,i,j,h,v⟩) g l
theorem Inv.turned {t':Nat} {a:Addr} (I:Inv X qp σ H s) (k:∀ b o,b ≠ a->s.heap.get? b=some o->h'.get? b=some o) (h:H a=none) (g:a ≠ X.env.locals)
  (i:a ∈ X.ex \/ X.s₀.heap.objs.size <= a) (j:∀ x c,X.env.cells.lookup x=some c->c ≠ a) (l:∀ p ∈ X.pn ++ qp,p.1 ≠ a):Inv X qp σ H { s with heap:=h',toks:=t' }:=by
 have f:∀ b u,H b=some u->b ≠ a:=λb u e z=>by rw [z,h] at e;cases e
 refine I.step (g':=s.gens) (d':=s.drawn) (ch:=[a]) (λb t=>?_) (λb o _ _ d e _=>k b o (λz=>d (by simp [z])) e) (λb o _ _ d e _=>⟨o.slots,k b o (λz=>d (by simp [z])) e⟩) (λ_ _ _ _ n=>n)
  (λb o d e=>⟨o,k b o (λz=>d (by simp [z])) e⟩) (λ_ _ e=>e) (λ_ _ _ e=>e) (λb G e=>⟨#[],by rw [e];simp⟩) (λm w=>?_) (λb u e=>?_) I.bare
 ·have e:b=a:=by simpa using t
  subst e
  exact ⟨i,g,j,l⟩
 ·obtain ⟨o,y,A,B,r⟩:=w
  exact ⟨o,y,A,k _ o (Ne.symm g) B,r⟩
 ·refine (I.hok b u e).stay (λc v d q=>k c v ?_ q) (λ_ q=>q) λ_ _ q=>q
  rcases d with z | z
  ·rw [z];exact f b u e
  ·exact f c _ z
theorem Inv.tok (I:Inv X qp σ H s) (t:Nat):Inv X qp σ H { s with toks:=t }:=I.un (h':=s.heap) (t':=t) Un.refl I.hok
theorem Inv.kept {t':Nat} (I:Inv X qp σ H s) (k:∀ b u,s.heap.get? b=some u->h'.get? b=some u):Inv X qp σ H { s with heap:=h',toks:=t' }:=I.un (Un.kept k) (I.hok.kept k)
theorem Inv.laid {a:Addr} {o:HO} {t':Nat} (I:Inv X qp σ H s) (k:∀ b u,s.heap.get? b=some u->h'.get? b=some u) (c:s.heap.objs.size <= a) (new:xL X.prog X.w (upd H a o) h' a o) :
  Inv X qp σ (upd H a o) { s with heap:=h',toks:=t' }:=I.un (Un.laid k c (I.hok.fresh c)) (I.hok.laid k c new)
theorem Inv.write {x e:Addr} {o:HO} {t':Nat} (I:Inv X qp σ H s) (c:Mut (H x)) (d:e=x \/ H e=some (.own x)) (k:∀ b u,b ≠ e->s.heap.get? b=some u->h'.get? b=some u) (a:∃ u,h'.get? e=some u)
  (new:xL X.prog X.w (upd H x o) h' x o):Inv X qp σ (upd H x o) { s with heap:=h',toks:=t' }:=I.un (Un.write c d k a) (I.hok.write c d k a new)
theorem Inv.pins_of {a:LAO} (I:Inv X qp σ H s) (h:∀ p ∈ a,s.heap.get? p.1=some p.2/\H p.1=none/\p.1 ≠ X.env.locals/\p.1 ∉ X.fs/\∀ v,p.2.data ≠ .cell v):Inv X a σ H s:=
 ⟨I.ok,I.os,I.bare,I.base,I.loc,I.cell,I.free,I.freeC,λp b=>(zM0.mp b).elim (λz=>I.pin p (List.mem_append_left _ z)) (h p),I.hok,I.len⟩
theorem iK {N:List Str} (c:N.Nodup) {i j:Nat} {x:Str} (a:N[i]?=some x) (b:N[j]?=some x):i=j:=by
 obtain ⟨f,d⟩:=zML.mp a
 obtain ⟨g,e⟩:=zML.mp b
 exact (List.getElem_inj c).mp (d.trans e.symm)
theorem qK {M:Model} {A:Around} {E:VSP} {i:Nat} {x:Str} {v:V} {u:Value} {Q:Unit->Shared->Prop} (I:Inv X qp σ H s) (hN:X.N.Nodup) (U:X.N[i]?=some x) (hx:Loc X.env.scope x) (r:yX v u)
  (h:∀ s',Inv X qp (σ.set i (some v)) H s'->(∃ a,Heap.SameBut a s.heap s'.heap/\(a=X.env.locals \/ X.env.cells.lookup x=some a))->Q () s') (hf:X.fn x=true \/ X.env.scope.names.lookup x=some .local:=by first | exact .inl rfl | exact .inr rfl | assumption):wpAny M A (storeName X.env x u) Q E s:=by
 obtain ⟨m,hn,hl⟩:=id I.loc
 have Y:(X.env.scope.kind == .class || (X.env.scope.kind == .module && X.env.locals != X.env.globals))=false:=by rw [I.ok.kind];rfl
 have D:i < σ.length:=by rw [I.len];exact (zML.mp U).1
 have J:=I.cne
 have g:∀ {a:Addr} {h':Heap},(∃ o,s.heap.get? a=some o/\H a=none)->Heap.SameBut a s.heap h'->HOk X.prog X.w H h':=λ{a h'} ha f b ob e=>by
  obtain ⟨_,_,B⟩:=ha
  refine (I.hok b ob e).stay (λc w' t q=>(f.2 c ?_).trans q) (λ_ q=>q) λ_ _ q=>q
  rintro rfl
  rcases t with rfl | t
  ·rw [B] at e;cases e
  ·rw [B] at t;cases t
 rcases hx with G | G
 ·refine wpAny_storeName_local G hn (λh' a4 f=>?_) Y
  obtain ⟨oL,_,_,a5,_⟩:=id hn
  refine h _ ⟨I.ok,I.os,I.bare,⟨λb o e n L hx=>?_,λb o e n L hx=>?_,I.base.free,λb o e hx=>?_,I.base.tups,I.base.frzs,I.base.tbls⟩,⟨_,a4,λj y v' l C e3=>?_⟩,λy c e=>?_,I.free,I.freeC,λp hp=>?_,g ⟨oL,a5,I.free⟩ f,by simpa using I.len⟩ ⟨_,f,.inl rfl⟩
  ·exact (f.2 b (zNA (zM5 (Heap.lt_size e) I.ok.above))).trans (I.base.keep b o e n L hx)
  ·obtain ⟨sl,l⟩:=I.base.slot b o e n L hx
   exact ⟨sl,(f.2 b (zNA (zM5 (Heap.lt_size e) I.ok.above))).trans l⟩
  ·obtain ⟨o',l⟩:=I.base.there b o e hx
   exact ⟨o',(f.2 b (zNA (zM5 (Heap.lt_size e) I.ok.above))).trans l⟩
  ·by_cases O:j=i
   ·subst O
    rw [U] at l;cases l
    rw [zNG D] at C
    cases C
    exact ⟨u,r,.inl ⟨G,by simp⟩⟩
   ·rw [zNF (Ne.symm O)] at C
    obtain ⟨u',r',q⟩:=hl j y v' l C e3
    refine ⟨u',r',?_⟩
    rcases q with ⟨k,e⟩ | ⟨k,c,e,z⟩
    ·refine .inl ⟨k,?_⟩
     have:y ≠ x:=λe=>O (iK hN l (e ▸ U))
     simp [this,e]
    ·exact .inr ⟨k,c,e,z.sameBut f (J y c e)⟩
  ·obtain ⟨w',z⟩:=I.cell y c e
   exact ⟨w',z.sameBut f (J y c e)⟩
  ·obtain ⟨e,n,ne,nf,d⟩:=I.pin p hp
   exact ⟨(f.2 p.1 ne).trans e,n,ne,nf,d⟩
 ·have T:X.fn x=true:=by
   rcases hf with z | z
   ·exact z
   ·rw [z] at G;cases G
  obtain ⟨c,t⟩:=I.ok.has x (.inl G)
  obtain ⟨w',z⟩:=I.cell x c t
  refine wpAny_storeName_cell I.ok.kind G t z (λh' a0 f=>?_)
  obtain ⟨oc,a1,a2⟩:=id z
  refine h { s with heap:=h' } ⟨I.ok,I.os,I.bare,⟨λb o e n L hx=>?_,λb o e n L hx=>?_,I.base.free,λb o e hx=>?_,I.base.tups,I.base.frzs,I.base.tbls⟩,⟨m,hn.sameBut f (Ne.symm (J x c t)),λj y v' l C e3=>?_⟩,λy c' e=>?_,I.free,I.freeC,λp hp=>?_,g ⟨oc,a1,I.freeC x c t⟩ f,by simpa using I.len⟩ ⟨c,f,.inr t⟩
  ·exact (f.2 b (zNA (zM5 (Heap.lt_size e) (I.ok.cab x c T t)))).trans (I.base.keep b o e n L hx)
  ·obtain ⟨sl,l⟩:=I.base.slot b o e n L hx
   exact ⟨sl,(f.2 b (zNA (zM5 (Heap.lt_size e) (I.ok.cab x c T t)))).trans l⟩
  ·obtain ⟨o',l⟩:=I.base.there b o e hx
   exact ⟨o',(f.2 b (zNA (zM5 (Heap.lt_size e) (I.ok.cab x c T t)))).trans l⟩
  ·by_cases O:j=i
   ·subst O
    rw [U] at l;cases l
    rw [zNG D] at C
    cases C
    exact ⟨u,r,.inr ⟨.inl G,c,t,a0⟩⟩
   ·rw [zNF (Ne.symm O)] at C
    obtain ⟨u',r',q⟩:=hl j y v' l C e3
    refine ⟨u',r',?_⟩
    rcases q with q | ⟨k,c',e,z'⟩
    ·exact .inl q
    ·refine .inr ⟨k,c',e,z'.sameBut f ?_⟩
     rintro rfl
     exact O (iK hN l (I.ok.inj _ _ _ e t ▸ U))
  ·by_cases a3:c'=c
   ·subst a3;exact ⟨_,a0⟩
   ·obtain ⟨w2,z2⟩:=I.cell y c' e
    exact ⟨w2,z2.sameBut f a3⟩
  ·obtain ⟨e,n,ne,nf,d⟩:=I.pin p hp
   refine ⟨(f.2 p.1 ?_).trans e,n,ne,nf,d⟩
   intro q
   rw [q,a1] at e
   have q':oc=p.2:=zMQ e
   exact d w' (by rw [<- q'];exact a2)
theorem rQ {M:Model} {A:Around} {E:VSP} {i:Nat} {x:Str} {v:V} {u:Value} {Q:Unit->Shared->Prop} (I:Inv X qp σ H s) (a:X.N.Nodup) (b:X.N[i]?=some x) (hx:Loc X.env.scope x) (r:yX v u)
  (h:∀ s',Inv X qp (σ.set i (some v)) H s'->Q () s') (c:X.fn x=true \/ X.env.scope.names.lookup x=some .local:=by first | exact .inl rfl | exact .inr rfl | assumption):wpAny M A (storeName X.env x u) Q E s:=
 qK I a b hx r (λs' d _=>h s' d) c
theorem Inv.call' {s':Shared} {ch:List Addr} (I:Inv X qp σ H s) (i:s'.os=s.os) (u:Un (frs X.stack) ch H H' s.heap s'.heap) (a:HOk X.prog X.w H' s'.heap) (j:AllBare s'.gens)
  (d:∀ b ∈ ch,(b ∈ X.ex \/ X.s₀.heap.objs.size <= b)/\b ≠ X.env.locals/\(∀ x c,X.env.cells.lookup x=some c->c ≠ b)/\∀ p ∈ X.pn ++ qp,p.1 ≠ b):Inv X qp σ H' s':=by
 obtain ⟨h',f,g,h,k⟩:=s'
 have e:k=s.os:=i
 subst e
 exact I.call (g':=f) (t':=h) (d':=g) u a j d
end
abbrev XK:=Value->Option Addr->Hp->Prop
abbrev St:=List (Option V)
abbrev VK:=V->Hp->Prop
abbrev TE:=St->Hp->VK->Prop
abbrev TT:=St->Hp->(Bool->Hp->Prop)->Prop
abbrev TA:=St->Hp->(List V->Hp->Prop)->Prop
structure gE where
 nx:St->Hp->Prop
 rt:VK
 bk:St->Hp->Prop:=λ_ _=>False
 ct:St->Hp->Prop:=λ_ _=>False
abbrev TS:=gE->St->Hp->Prop
def EP (X:Cx) (b:LAO) (c:St) (Q:VK) (u:Value) (s':Shared):Prop:=∃ v a,Inv X b c a s'/\yX v u/\Q v a
def TP (X:Cx) (c:LAO) (d:St) (Q:Bool->Hp->Prop) (b:Bool) (s':Shared):Prop:=∃ a,Inv X c d a s'/\Q b a
def AP (X:Cx) (c:LAO) (d:St) (Q:List V->Hp->Prop) (us:List Value) (s':Shared):Prop:=∃ a b,Inv X c d b s'/\yO a us/\Q a b
def SP (X:Cx) (c:LAO) (D:gE) (f:Flow) (s':Shared):Prop:=
 match f with
 | .next=>∃ a b,Inv X c a b s'/\D.nx a b
 | .brk=>∃ a b,Inv X c a b s'/\D.bk a b
 | .cont=>∃ a b,Inv X c a b s'/\D.ct a b
 | .ret u=>∃ v a b,Inv X c a b s'/\yX v u/\D.rt v b
def PE (X:Cx) (e:Expr) (t:TE):Prop:=
 ∀ (b:LAO) (s:Shared) (a:St) (H:Hp) (Q:VK),Inv X b a H s->t a H Q->wpAny (model X.prog X.w) X.A (eval e X.env) (EP X b a Q) X.xe s
def PT (X:Cx) (e:Expr) (t:TT):Prop:=
 ∀ (b:LAO) (s:Shared) (a:St) (H:Hp) (Q:Bool->Hp->Prop),Inv X b a H s->t a H Q->wpAny (model X.prog X.w) X.A (isTrue e X.env (eval e X.env)) (TP X b a Q) X.xe s
def PW (X:Cx) (e:Expr) (t:TT):Prop:=
 ∀ (whole:Sem Value) (b:LAO) (s:Shared) (a:St) (H:Hp) (Q:Bool->Hp->Prop),Inv X b a H s->t a H Q->wpAny (model X.prog X.w) X.A (isTrue e X.env whole) (TP X b a Q) X.xe s
theorem PW.pt {X:Cx} {e:Expr} {t:TT} (h:PW X e t):PT X e t:=h _
def PA (X:Cx) (c:List Expr) (t:TA):Prop:=
 ∀ (pos:Pos) (b:LAO) (s:Shared) (a:St) (H:Hp) (Q:List V->Hp->Prop),Inv X b a H s->t a H Q->wpAny (model X.prog X.w) X.A (spliced (backTo pos (starEach c X.env))) (AP X b a Q) X.xe s
def PS (X:Cx) (st:Stmt) (t:TS):Prop:=
 ∀ (a:LAO) (s:Shared) (b:St) (H:Hp) (D:gE),Inv X a b H s->t D b H->wpAny (model X.prog X.w) X.A (exec st X.env) (SP X a D) X.xe s
def PSs (X:Cx) (st:List Stmt) (t:TS):Prop:=
 ∀ (a:LAO) (s:Shared) (b:St) (H:Hp) (D:gE),Inv X a b H s->t D b H->wpAny (model X.prog X.w) X.A (execs st X.env) (SP X a D) X.xe s
theorem thn {b:Type} {t:Sem b} {Q c:b->Shared->Prop} {M:Model} {A:Around} {E:VSP} {s:Shared} (h:wpAny M A t Q E s) (d:∀ a s,Q a s->c a s):wpAny M A t c E s:=wpAny_mono h d λ_ _ x=>x
section
variable {X:Cx}
def u5 (i:Nat):TE:=λa H Q=>∃ v,a[i]?=some (some v)/\Q v H
def tC (v:V):TE:=λ_ H Q=>Q v H
theorem zHR {i:Nat} {x:Str} {pos:Pos} (g:X.N[i]?=some x) (j:Vis X.env.scope x) (hd:(x == ("__debug__" : Str))=false:=by decide) (d:(x == ("__classdict__" : Str))=false:=by decide):PE X (.Name x pos) (u5 i):=by
 intro k s n H Q I h
 obtain ⟨v,e,h⟩:=h
 obtain ⟨m,o,p⟩:=I.loc
 obtain ⟨u,r,l⟩:=p i x v g e j
 have fin:EP X k n Q u s:=⟨v,H,I,r,h⟩
 rcases l with ⟨b,q⟩ | ⟨b,c,f,a⟩
 ·exact wpAny_Name (wpAny_loadName_local I.ok.kind b o q fin) hd
 ·rcases b with b | b
  ·exact wpAny_Name (wpAny_loadName_cell I.ok.kind b f a fin) hd
  ·exact wpAny_Name (wpAny_loadName_free I.ok.kind b f a fin d) hd
theorem zH {i j pos}:PE X (.Constant (.int i) j pos) (tC (.int i)):=λ_ _ _ H _ I h=>wpAny_Constant_int ⟨.int i,H,I.tok _,⟨_,rfl⟩,h⟩
theorem wS {b j pos}:PE X (.Constant (.bool b) j pos) (tC (.bl b)):=λ_ _ _ H _ I h=>Constant_bool ⟨.bl b,H,I,rfl,h⟩
theorem yQ {j pos}:PE X (.Constant .none j pos) (tC .non):=λ_ _ _ H _ I h=>Constant_none ⟨.non,H,I,rfl,h⟩
theorem zJ {x j pos}:PE X (.Constant (.str x) j pos) (tC (.str x)):=λ_ _ _ H _ I h=>Calls.Constant_str ⟨.str x,H,I.tok _,⟨_,rfl⟩,h⟩
def Gl (X:Cx) (x:Str):Prop:=X.env.kindOf x=some .globalImplicit
theorem sP {E:VSP} {a:LAO} {s:Shared} {b:St} {H:Hp} {x:Str} {u:Value} {pos:Pos} {Q:VSP} (I:Inv X a b H s) (c:Gl X x) (d:X.mg x=some u) (h:Q u s)
  (hd:(x == ("__debug__" : Str))=false:=by decide):wpAny (model X.prog X.w) X.A (eval (.Name x pos) X.env) Q E s:=
 Calls.Name_function_global I.ok.kind c (Calls.loadGlobal_global (by rw [I.ok.glob];exact I.mod.glob.keeps I.bk) d h) hd
theorem rG {E:VSP} {a:LAO} {s:Shared} {b:St} {H:Hp} {x:Str} {u:Value} {pos:Pos} {Q:VSP} (I:Inv X a b H s) (c:Gl X x) (d:X.mg x=none) (e:bootBuiltins x=some u) (h:Q u s)
  (f:x ≠ "__name__":=by decide) (hd:(x == ("__debug__" : Str))=false:=by decide):wpAny (model X.prog X.w) X.A (eval (.Name x pos) X.env) Q E s:=by
 obtain ⟨j,g,i⟩:=I.mod.blt
 exact Calls.Name_function_global I.ok.kind c (Calls.loadGlobal_builtin (by rw [I.ok.glob];exact I.mod.glob.keeps I.bk) d (by rw [I.ok.blt];exact g.keeps I.bk) ((i x f).trans e) h) hd
theorem zEC {x:Str} {v:V} {u:Value} {pos:Pos} (a:Gl X x) (b:X.mg x=some u) (r:yX v u) (hd:(x == ("__debug__" : Str))=false:=by decide):PE X (.Name x pos) (tC v):=
 λ_ _ _ H _ I h=>sP I a b ⟨v,H,I,r,h⟩ hd
theorem zEF {x:Str} {v:V} {u:Value} {pos:Pos} (a:Gl X x) (b:X.mg x=none) (c:bootBuiltins x=some u) (r:yX v u) (d:x ≠ "__name__":=by decide) (hd:(x == ("__debug__" : Str))=false:=by decide):PE X (.Name x pos) (tC v):=
 λ_ _ _ H _ I h=>rG I a b c ⟨v,H,I,r,h⟩ d hd
variable {a b:Expr} {ta tb:TE} {pos:Pos}
def PC (X:Cx) (op:CmpOp) (a b:Expr) (t:TE):Prop:=
 ∀ (f:LAO) (s:Shared) (e:St) (H:Hp) (Q:VK),Inv X f e H s->t e H Q ->
  wpAny (model X.prog X.w) X.A (eval a X.env) (λv c=>wpAny (model X.prog X.w) X.A (eval b X.env) (λu d=>wpAny (model X.prog X.w) X.A (compareOp op v u) (EP X f e Q) X.xe d) X.xe c) X.xe s
def tB (t:TE):TT:=λd H Q=>t d H λx e=>∃ c,x=.bl c/\Q c e
theorem kO {op:CmpOp} {t:TE} (h:PC X op a b t) (e:behindInMarks op b=false:=by first | exact nobehind _ (by decide) (by decide) | rfl):PT X (.Compare a [op] [b] pos) (tB t):=by
 intro g s i H Q I j
 refine wpAny_isTrue_Compare1 (thn (h g s i H _ I j) λv p e=>thn e λu r k=>thn k λc w f=>?_) e
 obtain ⟨x,l,m,n,o⟩:=f
 obtain ⟨d,rfl,q⟩:=o
 cases n
 exact wpAny_truthy_bool ⟨l,m,q⟩
theorem y9 {e:Expr} {t:TE} (h:PE X e t) (f:∀ whole,isTrue e X.env whole=(do let v <- whole;standAt e.pos;holding [v] (truthy v)):=by intro _;rfl):PT X e (tB t):=by
 intro g s i H Q I j
 refine isTrue_plain (thn (h g s i H _ I j) λv o c=>?_) (f _)
 obtain ⟨x,k,l,m,n⟩:=c
 obtain ⟨d,rfl,q⟩:=n
 cases m
 exact wpAny_truthy_bool ⟨k,l,q⟩
variable {tA tB':TT} {rest:List Expr}
def tAnd (t u:TT):TT:=λd H Q=>t d H λc e=>if c=true then u d e Q else Q false e
def tOr (t u:TT):TT:=λd H Q=>t d H λc e=>if c=true then Q true e else u d e Q
def tNot (t:TT):TT:=λd H Q=>t d H λc e=>Q (!c) e
theorem pW (d:PT X a tA):PW X (.BoolOp .And [a] pos) tA:=by
 intro i f s g H Q I h
 refine isTrue_and (thn (d f s g H Q I h) λc j e=>?_)
 cases c with
 | true=>exact isTrue_and_nil e
 | false=>exact e
theorem u6 (d:PT X a tA):PW X (.BoolOp .Or [a] pos) tA:=by
 intro i f s g H Q I h
 refine isTrue_or (thn (d f s g H Q I h) λc j e=>?_)
 cases c with
 | false=>exact isTrue_or_nil e
 | true=>exact e
theorem kM (k:PT X a tA) (l:PW X (.BoolOp .And (b :: rest) pos) tB'):PW X (.BoolOp .And (a :: b :: rest) pos) (tAnd tA tB'):=by
 intro m e s f H Q I h
 refine isTrue_and (thn (k e s f H _ I h) λc n d=>?_)
 obtain ⟨g,i,j⟩:=d
 cases c with
 | true=>exact l m e n f g Q i j
 | false=>exact ⟨g,i,j⟩
theorem sX (k:PT X a tA) (l:PW X (.BoolOp .Or (b :: rest) pos) tB'):PW X (.BoolOp .Or (a :: b :: rest) pos) (tOr tA tB'):=by
 intro m e s f H Q I h
 refine isTrue_or (thn (k e s f H _ I h) λc n d=>?_)
 obtain ⟨g,i,j⟩:=d
 cases c with
 | true=>exact ⟨g,i,j⟩
 | false=>exact l m e n f g Q i j
theorem xB (d:PT X a tA):PT X (.UnaryOp .Not a pos) (tNot tA):=by
 intro e s f H Q I h
 exact isTrue_not (d e s f H (λc g=>Q (!c) g) I h)
def zJH (ta tb:TE):TE:=λd H Q=>ta d H λx e=>∃ c,x=.bl c/\if c=true then tb d e Q else Q (.bl false) e
def tOrV (ta tb:TE):TE:=λd H Q=>ta d H λx e=>∃ c,x=.bl c/\if c=true then Q (.bl true) e else tb d e Q
def zJD (ta:TE):TE:=λd H Q=>ta d H λx e=>∃ c,x=.bl c/\Q (.bl (!c)) e
theorem uM {op} {t:TE} (h:PE X a t):PE X (.BoolOp op [a] pos) t:=λc s d H Q I e=>BoolOp_one (h c s d H Q I e)
theorem uA (k:PE X a ta) (l:PE X (.BoolOp .And (b :: rest) pos) tb):PE X (.BoolOp .And (a :: b :: rest) pos) (zJH ta tb):=by
 intro f s g H Q I h
 refine BoolOp_and (thn (k f s g H _ I h) λv m e=>?_)
 obtain ⟨x,i,j,n,d⟩:=e
 obtain ⟨c,rfl,d⟩:=d
 cases n
 refine wpAny_truthy_bool ?_
 cases c with
 | true=>exact l f m g i Q j d
 | false=>exact ⟨.bl false,i,j,rfl,d⟩
theorem zKV (k:PE X a ta) (l:PE X (.BoolOp .Or (b :: rest) pos) tb):PE X (.BoolOp .Or (a :: b :: rest) pos) (tOrV ta tb):=by
 intro f s g H Q I h
 refine BoolOp_or (thn (k f s g H _ I h) λv m e=>?_)
 obtain ⟨x,i,j,n,d⟩:=e
 obtain ⟨c,rfl,d⟩:=d
 cases n
 refine wpAny_truthy_bool ?_
 cases c with
 | false=>exact l f m g i Q j d
 | true=>exact ⟨.bl true,i,j,rfl,d⟩
theorem fD (f:PE X a ta):PE X (.UnaryOp .Not a pos) (zJD ta):=by
 intro g s i H Q I h
 refine UnaryOp_ (thn (f g s i H _ I h) λv m d=>?_)
 obtain ⟨x,j,k,l,e⟩:=d
 obtain ⟨c,rfl,e⟩:=e
 cases l
 exact not_of (wpAny_truthy_bool ⟨.bl (!c),j,k,rfl,e⟩)
def tIf (t:TT) (ta tb:TE):TE:=λd H Q=>t d H λc e=>if c=true then ta d e Q else tb d e Q
theorem rY {c:Expr} (m:PT X c tA) (n:PE X a ta) (o:PE X b tb):PE X (.IfExp c a b pos) (tIf tA ta tb):=by
 intro e s f H Q I h
 refine wpAny_IfExp (thn (m e s f H _ I h) λd i g=>?_)
 obtain ⟨j,k,l⟩:=g
 cases d with
 | true=>exact n e i f j Q k l
 | false=>exact o e i f j Q k l
end
def SqL (K:W.Frag) (H:Hp) (a:Addr) (xs:List V):Prop:=
 Rd H a (.lst xs) \/
  ∃ (o:Obj) (b:Array Value) (n:Nat),K.lookup a=some o/\o.cls=.type "list"/\o.dict=none/\o.data=.seq b n/\b.size <= sizeLine/\yO xs b.toList
def SqT (K:W.Frag) (H:Hp) (a:Addr) (xs:List V):Prop:=
 Rd H a (.tup xs) \/
  ∃ (o:Obj) (b:Array Value) (n:Nat),K.lookup a=some o/\o.cls=.type "tuple"/\o.data=.seq b n/\b.size <= sizeLine/\yO xs b.toList
noncomputable def absV:Value->Option V
 | .none=>some .non
 | .bool b=>some (.bl b)
 | .int i _=>some (.int i)
 | .str x _=>some (.str x)
 | .bytes b _=>some (.byt b)
 | .float b _=>some (.flt b)
 | .ref a=>some (.ref a)
 | .type n=>some (.ty n)
 | _=>none
theorem yX.abs {x:V} {u:Value} (r:yX x u):absV u=some x:=by
 cases x with
 | non=>cases r;rfl
 | bl _=>cases r;rfl
 | int _=>obtain ⟨t,rfl⟩:=r;rfl
 | str _=>obtain ⟨t,rfl⟩:=r;rfl
 | byt _=>obtain ⟨t,rfl⟩:=r;rfl
 | flt _=>obtain ⟨t,rfl⟩:=r;rfl
 | ref _=>cases r;rfl
 | ty _=>cases r;rfl
theorem yX.inj {x y:V} {u:Value} (r:yX x u) (q:yX y u):x=y:=zMQ (r.abs.symm.trans q.abs)
theorem yO.inj:∀ {xs ys:List V} {us:List Value},yO xs us->yO ys us->xs=ys
 | _,_,_,.nil,.nil=>rfl
 | _,_,_,.cons r t,.cons a b=>by rw [r.inj a,yO.inj t b]
section
variable {X:Cx} {qp:LAO} {σ:St} {H:Hp} {s:Shared} {a:Addr} {xs ys:List V}
theorem SqL.of {K:W.Frag} (h:H a=some (.lst xs)):SqL K H a xs:=.inl (.inl h)
theorem SqT.of {K:W.Frag} (h:H a=some (.tup xs)):SqT K H a xs:=.inl (.inl h)
theorem Inv.list (I:Inv X qp σ H s) (h:SqL X.K H a xs):∃ its:List Value,yO xs its/\PlainL s.heap a its.toArray/\xs.length <= sizeLine:=by
 rcases h with h | ⟨o,its,n,b,c,hd,d,f,r⟩
 ·obtain ⟨z,its,n,r,e⟩:=h.ok I.hok
  exact ⟨its,r,⟨_,n,e,rfl,rfl,rfl⟩,z⟩
 ·refine ⟨its.toList,r,⟨o,n,I.kIn a o b,c,hd,by simpa using d⟩,?_⟩
  have e:=r.length
  simp only [Array.length_toList] at e
  omega
theorem Inv.tuple (I:Inv X qp σ H s) (h:SqT X.K H a xs):∃ its:List Value,yO xs its/\IsTup s.heap a its.toArray/\xs.length <= sizeLine:=by
 rcases h with h | ⟨o,its,n,b,c,d,f,r⟩
 ·obtain ⟨z,its,r,p⟩:=h.ok I.hok
  exact ⟨its,r,p,z⟩
 ·refine ⟨its.toList,r,⟨o,I.kIn a o b,c,n,by simpa using d⟩,?_⟩
  have e:=r.length
  simp only [Array.length_toList] at e
  omega
theorem Inv.list_inj (I:Inv X qp σ H s) (h:SqL X.K H a xs) (h':SqL X.K H a ys):xs=ys:=by
 obtain ⟨c,r,⟨o,n,e,_,_,d⟩,_⟩:=I.list h
 obtain ⟨b,i,⟨k,l,f,_,_,g⟩,_⟩:=I.list h'
 rw [e] at f;cases f
 rw [d] at g
 injection g with j _
 have:c=b:=by simpa using congrArg Array.toList j
 subst this
 exact r.inj i
theorem Inv.tuple_inj (I:Inv X qp σ H s) (h:SqT X.K H a xs) (h':SqT X.K H a ys):xs=ys:=by
 obtain ⟨c,r,⟨o,e,_,n,d⟩,_⟩:=I.tuple h
 obtain ⟨b,i,⟨k,f,_,l,g⟩,_⟩:=I.tuple h'
 rw [e] at f;cases f
 rw [d] at g
 injection g with j _
 have:c=b:=by simpa using congrArg Array.toList j
 subst this
 exact r.inj i
end
abbrev Cx.wish (X:Cx) (E:VSP):Cx:={ X with xe:=E }
abbrev Cx.nox (X:Cx):Cx:=X.wish λ_ _=>False
theorem Cx.Ok.wish {X:Cx} (ok:X.Ok) (E:VSP):(X.wish E).Ok:=
 ⟨ok.mod,ok.kind,ok.glob,ok.blt,ok.above,ok.inj,ok.has,ok.cab,ok.hd,ok.frames,ok.stk,ok.exf,ok.bs,ok.bsz,ok.noex,ok.exfs,ok.funs,ok.frf⟩
theorem Cx.Ok.unwish {X:Cx} {E:VSP} (ok:(X.wish E).Ok):X.Ok:=
 ⟨ok.mod,ok.kind,ok.glob,ok.blt,ok.above,ok.inj,ok.has,ok.cab,ok.hd,ok.frames,ok.stk,ok.exf,ok.bs,ok.bsz,ok.noex,ok.exfs,ok.funs,ok.frf⟩
section
variable {X:Cx} {qp:LAO} {σ:St} {H:Hp} {s:Shared} {E:VSP}
theorem Inv.wish (I:Inv X qp σ H s) (E:VSP):Inv (X.wish E) qp σ H s:=⟨I.ok.wish E,I.os,I.bare,I.base,I.loc,I.cell,I.free,I.freeC,I.pin,I.hok,I.len⟩
theorem Inv.unwish (I:Inv (X.wish E) qp σ H s):Inv X qp σ H s:=⟨I.ok.unwish,I.os,I.bare,I.base,I.loc,I.cell,I.free,I.freeC,I.pin,I.hok,I.len⟩
theorem SP.unwish {D:gE} {f:Flow} {s':Shared} (h:SP (X.wish E) qp D f s'):SP X qp D f s':=by
 cases f with
 | next=>obtain ⟨a,b,I,q⟩:=h;exact ⟨a,b,I.unwish,q⟩
 | brk=>obtain ⟨a,b,I,q⟩:=h;exact ⟨a,b,I.unwish,q⟩
 | cont=>obtain ⟨a,b,I,q⟩:=h;exact ⟨a,b,I.unwish,q⟩
 | ret u=>obtain ⟨v,a,b,I,r,q⟩:=h;exact ⟨v,a,b,I.unwish,r,q⟩
theorem PSs.nox {st:List Stmt} {t:TS} (h:PSs X.nox st t):PSs X st t:=λqp s σ H D I a=>
 wpAny_mono (h qp s σ H D (I.wish _) a) (λ_ _ q=>q.unwish) λ_ _ z=>False.elim z
end
section
variable {X:Cx} {st:Stmt} {rest:List Stmt} {t u:TS} {e:Expr} {te:TE} {pos:Pos}
def eE:TS:=λD a H=>D.nx a H
def oC (t u:TS):TS:=λD a H=>t { D with nx:=u D } a H
theorem zN:PSs X [] eE:=λ_ _ a H _ I h=>wpAny_execs_nil ⟨a,H,I,h⟩
theorem zE (c:PS X st t) (d:PSs X rest u):PSs X (st :: rest) (oC t u):=by
 intro b s g H D I h
 refine wpAny_execs_cons (thn (c b s g H { D with nx:=u D } I h) λf i q=>?_)
 cases f with
 | next=>
  obtain ⟨a,j,k,q⟩:=q
  exact d b i a j D k q
 | ret v=>exact q
 | brk=>exact q
 | cont=>exact q
theorem zF (a:PS X st t):PSs X [st] t:=by
 intro b s c H D I h
 refine wpAny_execs_cons (thn (a b s c H D I h) λf d q=>?_)
 cases f with
 | next=>exact wpAny_execs_nil q
 | ret v=>exact q
 | brk=>exact q
 | cont=>exact q
theorem Inv.quiet {a:LAO} {b:St} {H:Hp} {s:Shared} (I:Inv X a b H s):interactive X.env=false:=by simp [interactive,I.ok.kind]
def zJE (te:TE):TS:=λD a H=>te a H λ_ b=>D.nx a b
theorem yB (b:PE X e te) (c:swapsWith e none pos.line X.env=pure false:=by rfl):PS X (.Expr e pos) (zJE te):=by
 intro d s a H D I h
 exact wpAny_Expr_any (thn (b d s a H _ I h) λv j ⟨x,f,g,k,i⟩=>⟨a,f,g,i⟩) I.quiet c
def cM (te:TE):TS:=λD a H=>te a H D.rt
theorem zL (b:PE X e te):PS X (.Return (some e) pos) (cM te):=by
 intro c s a H D I h
 exact wpAny_Return_some (thn (b c s a H _ I h) λv j ⟨x,d,f,g,i⟩=>⟨x,a,d,f,g,i⟩)
def zDH (c:TT) (t u:TS):TS:=λD a H=>c a H λb d=>if b=true then t D a d else u D a d
theorem z4 {c:Expr} {a b:List Stmt} {j:TT} (o:PT X c j) (p:PSs X a t) (q:PSs X b u):PS X (.If c a b pos) (zDH j t u):=by
 intro f s g H D I h
 refine wpAny_If (thn (o f s g H _ I h) λd k i=>?_)
 obtain ⟨l,m,n⟩:=i
 cases d with
 | true=>exact p f k g l D m n
 | false=>exact q f k g l D m n
def aN:TS:=λ_ _ _=>False
theorem xK:PS X st aN:=λ_ _ _ _ _ _ h=>h.elim
theorem xM {a:List Stmt}:PSs X a aN:=λ_ _ _ _ _ _ h=>h.elim
end
abbrev TG:=V->St->Hp->(St->Hp->Prop)->Prop
abbrev TGs:=List V->St->Hp->(St->Hp->Prop)->Prop
def PG (X:Cx) (target:Expr) (t:TG):Prop:=
 ∀ (b:LAO) (s:Shared) (c:St) (H:Hp) (v:V) (u:Value) (Q:St->Hp->Prop),Inv X b c H s->yX v u->t v c H Q ->
  wpAny (model X.prog X.w) X.A (assign target X.env u) (λ_ e=>∃ a d,Inv X b a d e/\Q a d) X.xe s
def PGs (X:Cx) (g:List Expr) (t:TGs):Prop:=
 ∀ (b:LAO) (s:Shared) (c:St) (H:Hp) (d:List V) (e:List Value) (Q:St->Hp->Prop),Inv X b c H s->yO d e->t d c H Q ->
  wpAny (model X.prog X.w) X.A (assignInOrder ((assignEach g X.env).map (·.2)) e) (λ_ h=>∃ a f,Inv X b a f h/\Q a f) X.xe s
abbrev zI6:=V->V->V->Hp->(Hp->Prop)->Prop
def zMF (X:Cx) (t:zI6):Prop:=
 ∀ (a:LAO) (s:Shared) (b:St) (H:Hp) (o i v:V) (c d u:Value) (Q:Hp->Prop),Inv X a b H s->yX o c->yX i d->yX v u->t o i v H Q ->
  wpAny (model X.prog X.w) X.A (setItem c d u) (λ_ f=>∃ e,Inv X a b e f/\Q e) X.xe s
section
variable {X:Cx} {pos:Pos}
def wA (i:Nat):TG:=λv a H Q=>Q (a.set i (some v)) H
theorem yI {i:Nat} {x:Str} (a:X.N.Nodup) (b:X.N[i]?=some x) (hx:Loc X.env.scope x) (c:X.fn x=true \/ X.env.scope.names.lookup x=some .local:=by first | exact .inl rfl | exact .inr rfl | assumption):PG X (.Name x pos) (wA i):=by
 intro e s f H v u Q I r h
 exact wpAny_assign_Name (rQ I a b hx r (λg d=>⟨_,H,d,h⟩) c)
noncomputable def bW:TGs:=λa b H Q=>a=[]/\Q b H
noncomputable def tZ (t:TG) (u:TGs):TGs:=λb c H Q=>∃ v r,b=v :: r/\t v c H λa d=>u r a d Q
theorem uF:PGs X [] bW:=by
 intro b s a H c d Q I r h
 obtain ⟨e,h⟩:=h
 subst e
 cases r
 exact assignInOrder_nil ⟨a,H,I,h⟩
theorem y3 {e:Expr} {b:List Expr} {t:TG} {u:TGs} (f:PG X e t) (g:PGs X b u)
  (i:(assignEach (e :: b) X.env).map (·.2)=assign e X.env :: (assignEach b X.env).map (·.2):=by rfl):PGs X (e :: b) (tZ t u):=by
 intro d s j H q w Q I r h
 obtain ⟨v,x,k,h⟩:=h
 subst k
 cases r with
 | cons r l=>
  rw [i]
  refine assignInOrder_cons (thn (f d s j H _ _ _ I r h) λ_ m a=>?_)
  obtain ⟨c,n,o,p⟩:=a
  exact g d m c n _ _ Q o l p
def bV (K:W.Frag) (n:Nat) (t:TGs):TG:=λv c H Q=>∃ a b,v=.ref a/\SqT K H a b/\b.length=n/\t b c H Q
theorem tL {c:List Expr} {k:Nat} {t:TGs} {n:Nat} (l:X.calm=true) (h:PGs X c t)
  (m:(assignEach c X.env).length=n:=by rfl) (d:(assignEach c X.env).findIdx? (·.1)=none:=by rfl):PG X (.Tuple c k pos) (bV X.K n t):=by
 intro g s i H v u Q I r f
 obtain ⟨a,p,q,w,x,f⟩:=f
 subst q
 cases r
 obtain ⟨y,j,z,D⟩:=I.tuple w
 refine assign_Tuple_tuple (I.ok.hd l) z (by simp [m,<- x,j.length]) d λA B=>?_
 have C:Inv X g i H { s with heap:=A }:=I.kept (t':=s.toks) λb o e=>B b o (zNA (Heap.lt_size e)) e
 exact h g _ i H p _ Q C (by simpa using j) f
def zLZ (b c:TE) (t:zI6):TG:=λv a H Q=>b a H λo d=>c a d λi e=>t o i v e λf=>Q a f
theorem zBA {o i:Expr} {j k:TE} {t:zI6} (l:PE X o j) (m:PE X i k) (n:zMF X t)
  (p:∀ v,assign (.Subscript o i pos) X.env v=(do
   let a <- holding [v] (eval o X.env)
   let b <- holding [v,a] (eval i X.env)
   standAt pos
   holding [v,a,b] (setItem a b v)
   release [v,a,b] []):=by intro _;rfl):PG X (.Subscript o i pos) (zLZ j k t):=by
 intro g s f H v u Q I r h
 rw [p]
 refine wpAny_bind (wpAny_holding (thn (l g s f H _ I h) λa q c=>?_))
 obtain ⟨x,w,z,A,B⟩:=c
 refine wpAny_bind (wpAny_holding (thn (m g q f w _ z B) λb C d=>?_))
 obtain ⟨y,D,E,G,J⟩:=d
 refine wpAny_bind (wpAny_standAt (wpAny_bind (wpAny_holding (thn (n g C f D x y v a b u _ E A G r J) λ_ O e=>?_))))
 obtain ⟨L,M,N⟩:=e
 exact wpAny_release ⟨f,L,M,N⟩
def oE (b:TE) (g:TG):TS:=λD a H=>b a H λx c=>g x a c D.nx
theorem qR {a e:Expr} {c:TE} {g:TG} (i:PE X e c) (j:PG X a g) (k:swapsWithSole [a] e pos.line X.env=pure false:=by rfl) (l:swappedStores [a] e X.env=pure none:=by rfl)
  (m:(assignEach [a] X.env).map (·.2)=[assign a X.env]:=by rfl):PS X (.Assign [a] e pos) (oE c g):=by
 intro d s f H D I h
 refine wpAny_Assign_stores (thn (i d s f H _ I h) λv n b=>?_) k l
 obtain ⟨x,o,p,r,t⟩:=b
 rw [m]
 exact thn (j d n f o x v _ p r t) λ_ u q=>q
theorem z7 {i:Nat} {x:Str} {e:Expr} {c:TE} {a:Pos} (d:X.N.Nodup) (f:X.N[i]?=some x) (hx:Loc X.env.scope x) (g:PE X e c) (j:swapsWith e (some (.Name x a)) pos.line X.env=pure false:=by rfl) (k:X.fn x=true \/ X.env.scope.names.lookup x=some .local:=by first | exact .inl rfl | exact .inr rfl | assumption) :
  PS X (.Assign [.Name x a] e pos) (oE c (wA i)):=by
 intro l s m H D I h
 refine wpAny_Assign_Name (thn (g l s m H _ I h) λv t b=>?_) j
 obtain ⟨y,n,o,p,q⟩:=b
 exact rQ o d f hx p (λu r=>⟨_,n,r,q⟩) k
end
structure It where
 go:Nat->Hp->Prop
 yld:Nat->Hp->V->Hp->Prop
 stop:Nat->Hp->Prop
def uU (X:Cx) (a:LAO) (H:Hp) (b:Addr):Prop:=
 H b=none/\b ≠ X.env.locals/\b ∉ X.fs/\(b ∈ X.ex \/ X.s₀.heap.objs.size <= b)/\(∀ x c,X.env.cells.lookup x=some c->c ≠ b)/\∀ p ∈ X.pn ++ a,p.1 ≠ b
theorem Inv.fpOk {X:Cx} {d:LAO} {g:St} {H f:Hp} {s:Shared} {b:Addr} (I:Inv X d g H s) (a:s.heap.objs.size <= b) (h:f b=none):uU X d f b:=by
 refine ⟨h,Nat.ne_of_gt (zM5 I.lt a),I.nofs a,.inr (zMU I.sz a),λx c e z=>?_,λp i z=>?_⟩
 ·obtain ⟨v,q⟩:=I.cell x c e
  exact absurd (zM5 q.lt (by rw [z];exact a)) (Nat.lt_irrefl _)
 ·exact absurd (zM5 (Heap.lt_size (I.pin p i).1) (by rw [z];exact a)) (Nat.lt_irrefl _)
structure zC9 (P:Program) (w:World) (K:W.Frag) (tg:Expr) (J:It) (fp:List Addr) (it:Addr) (tn:Nat->Heap->Prop):Prop where
 mem:it ∈ fp
 obj:∀ i h,tn i h->∀ b ∈ fp,∃ o,h.get? b=some o/\∀ v,o.data ≠ .cell v
 keep:∀ i h h',tn i h->(∀ b ∈ fp,∀ o,h.get? b=some o->h'.get? b=some o)->tn i h'
 item:∀ (X:Cx),X.prog=P->X.w=w->X.K=K->X.calm=true->∀ (i:Nat) (qp:LAO) (s:Shared) (σ:St) (H:Hp) (E:VSP),Inv X qp σ H s->(∀ b ∈ fp,uU X qp H b)->tn i s.heap->J.go i H ->
  wpAny (model P w) X.A (pyNext (.ref it)) (λr s1=>∃ u,r=some u /\
   wpAny (model P w) X.A (letOwnedTupleGo tg (.ref it) u) (λ_ s2=>∃ x H',Inv X qp σ H' s2/\yX x u/\J.yld i H x H'/\tn (i + 1) s2.heap/\∀ b ∈ fp,H' b=none) E s1) E s
 done:∀ (X:Cx),X.prog=P->X.w=w->X.K=K->X.calm=true->∀ (i:Nat) (qp:LAO) (s:Shared) (σ:St) (H:Hp) (E:VSP),Inv X qp σ H s->(∀ b ∈ fp,uU X qp H b)->tn i s.heap->J.stop i H ->
  wpAny (model P w) X.A (pyNext (.ref it)) (λr s1=>r=none/\Inv X qp σ H s1) E s
 self:∀ (A:Around) (i:Nat) (s:Shared) (Q:VSP) (E:VSP),tn i s.heap->Q (.ref it) s->wpAny (model P w) A (pyIter (.ref it)) Q E s
abbrev TI:=St->Hp->(It->Hp->Prop)->Prop
def PIE (X:Cx) (d:LAO) (i:St) (j:Expr) (R:It->Hp->Prop) (a:Value) (e:Shared):Prop:=
 ∃ (f:Addr) (g:List Addr) (h:Nat->Heap->Prop) (J:It) (c:Hp),a=.ref f/\Inv X d i c e/\zC9 X.prog X.w X.K j J g f h/\h 0 e.heap/\(∀ b ∈ g,uU X d c b)/\R J c
def PI (X:Cx) (c iter:Expr) (d:TI):Prop:=
 ∀ (b:LAO) (s:Shared) (a:St) (H:Hp) (R:It->Hp->Prop),Inv X b a H s->d a H R ->
  wpAny (model X.prog X.w) X.A (eval iter X.env) (λv e=>wpAny (model X.prog X.w) X.A (pyIter v) (PIE X b a c R) X.xe e) X.xe s
theorem dZ {M:Model} {A:Around} {E:VSP} {s:Shared} {b:Expr} {c:Addr} {u:Value} {o:Obj} {n:String} {vs:Array Value} {Q:Unit->Shared->Prop} (d:s.heap.get? c=some o) (e:o.cls=.type n) (hd:o.data=.fields vs)
    (f:["enumerate","zip","dict_itemiterator","dict_reverseitemiterator","odict_iterator","itertools.zip_longest","itertools.pairwise"].contains n=false) (a:Q () s):wpAny M A (letOwnedTupleGo b (.ref c) u) Q E s:=by
  unfold letOwnedTupleGo
  cases b <;> first
    | exact wpAny_pure a
    | (cases u <;> first
        | exact wpAny_pure a
        | (refine wpAny_bind (wpAny_load d ?_)
           rw [e,hd]
           show wpAny M A (if (["enumerate","zip","dict_itemiterator","dict_reverseitemiterator","odict_iterator","itertools.zip_longest","itertools.pairwise"].contains n && vs[0]? == some (rawInt _))=true then _ else _) Q E s
           rw [if_neg (by intro h;rw [f,Bool.false_and] at h;cases h)]
           exact wpAny_pure a))
noncomputable def Itl (K:W.Frag) (a:Addr):It:=
 ⟨λi H=>∃ b x,SqL K H a b/\b[i]?=some x,λi H x c=>c=H/\∀ b,SqL K H a b->b[i]?=some x,λi H=>∃ b,SqL K H a b/\b.length <= i⟩
noncomputable def Itr (lo:Int) (n:Nat):It:=⟨λi _=>i < n,λi H x a=>a=H/\x=.int (lo + i),λi _=>n <= i⟩
theorem cJ {P:Program} {w:World} {K:W.Frag} {tg:Expr} (a it:Addr):zC9 P w K tg (Itl K a) [it] it (λi h=>h.IsListIter it a i) where
 mem:=by simp
 obj:=λi h st b hb=>by
  have e:b=it:=by simpa using hb
  subst e
  obtain ⟨o,e,c,d⟩:=st
  exact ⟨o,e,λv z=>by rw [d] at z;cases z⟩
 keep:=λi h h' st k=>st.at λo e=>k it (by simp) o e
 item:=by
  intro X hP hw hK hc i qp s σ H E I hf st hg
  subst hP hw hK
  obtain ⟨xs,x,hq,hx⟩:=hg
  obtain ⟨its,rv,p,hz⟩:=I.list hq
  obtain ⟨u,hu,ru⟩:=rv.get hx
  obtain ⟨f0,f1,f2,f3,f4,f5⟩:=hf it (by simp)
  refine wpAny_pyNext_list_item st p.isList (x:=u) (by simpa using hu) λh' st' sb=>?_
  have I1:Inv X qp σ H { s with heap:=h' }:=I.turned (t':=s.toks) (λb o hb e=>(sb.2 b hb).trans e) f0 f1 f3 f4 f5
  obtain ⟨o,e,c,d⟩:=id st'
  exact ⟨u,rfl,dZ (s:={ s with heap:=h' }) e c d (by decide) ⟨x,H,I1,ru,⟨rfl,λys hy=>by rw [I.list_inj hy hq];exact hx⟩,st',λb hb=>(hf b hb).1⟩⟩
 done:=by
  intro X hP hw hK hc i qp s σ H E I hf st hg
  subst hP hw hK
  obtain ⟨xs,hq,hx⟩:=hg
  obtain ⟨its,rv,p,hz⟩:=I.list hq
  obtain ⟨f0,f1,f2,f3,f4,f5⟩:=hf it (by simp)
  have hl:=rv.length
  exact wpAny_pyNext_list_end (I.ok.hd hc) st p.isList (by simp;omega) λh' eb=>⟨rfl,I.turned (t':=s.toks) (λb o hb e=>eb b o hb e) f0 f1 f3 f4 f5⟩
 self:=λ_ _ _ _ _ st h=>wpAny_pyIter_listiter st h
theorem gH {P:Program} {w:World} {K:PySem.W.Frag} {tg:Expr} (it:Addr) (lo:Int) (n:Nat):zC9 P w K tg (Itr lo n) [it] it (λi h=>IsRangeIter h it (lo + (i:Nat) * 1) ((n:Int) - (i:Nat)) 1) where
 mem:=by simp
 obj:=λi h st b hb=>by
  have e:b=it:=by simpa using hb
  subst e
  exact ⟨_,st,λv z=>by
   have z':Data.fields _=Data.cell v:=z
   cases z'⟩
 keep:=λi h h' st k=>k it (by simp) _ st
 item:=by
  intro X hP hw hK hc i qp s σ H E I hf st hg
  subst hP hw hK
  obtain ⟨f0,f1,f2,f3,f4,f5⟩:=hf it (by simp)
  have W:=Walks.range (prog:=X.prog) (w:=X.w) (I.ok.hd hc) it lo 1 n
  refine W.item i s _ _ hg st λv h' tk hv st' kk=>?_
  obtain ⟨t,rfl⟩:=hv
  have I1:Inv X qp σ H { s with heap:=h',toks:=tk }:=I.turned (λb o hb e=>kk b o (by simpa using hb) e) f0 f1 f3 f4 f5
  refine ⟨_,rfl,dZ (s:={ s with heap:=h',toks:=tk }) (n:="range_iterator") st' rfl rfl (by decide) ⟨.int (lo + i),H,I1,⟨t,?_⟩,⟨rfl,rfl⟩,st',λb hb=>(hf b hb).1⟩⟩
  rw [Int.mul_one]
 done:=by
  intro X hP hw hK hc i qp s σ H E I hf st hg
  subst hP hw hK
  obtain ⟨f0,f1,f2,f3,f4,f5⟩:=hf it (by simp)
  exact wpAny_pyNext_range_end (I.ok.hd hc) st (by have:n <= i:=hg;omega) λh' eb=>⟨rfl,I.turned (t':=s.toks) (λb o hb e=>eb b o hb e) f0 f1 f3 f4 f5⟩
 self:=λ_ _ _ _ _ st h=>wpAny_pyIter_rangeiter st h
section
variable {X:Cx} {tg:Expr}
def zGK (K:W.Frag) (c:TE):TI:=λd H R=>c d H λx b=>∃ a,x=.ref a/\(∃ e,SqL K b a e)/\R (Itl K a) b
theorem y6 {l:Expr} {g:TE} (i:PE X l g):PI X tg l (zGK X.K g):=by
 intro j s k H R I h
 refine thn (i j s k H _ I h) λv d c=>?_
 obtain ⟨x,m,f,n,r⟩:=c
 obtain ⟨a,e,⟨y,t⟩,q⟩:=r
 subst e
 cases n
 obtain ⟨u,z,p,A⟩:=f.list t
 refine wpAny_pyIter_list p.isList ?_
 refine ⟨d.heap.objs.size,[d.heap.objs.size],_,_,m,rfl,f.kept (t':=d.toks) λb o e=>Heap.get?_push_of_some _ e,cJ a _,⟨_,Heap.get?_push_size _ rfl,rfl,rfl⟩,λb w=>?_,q⟩
 have e:b=d.heap.objs.size:=by simpa using w
 subst e
 exact f.fpOk (zMS _) (f.hok.fresh (zMS _))
theorem j9 {c:LAO} {d:St} {H:Hp} {s:Shared} {R:It->Hp->Prop} {E:VSP} {lo a:Int} {t u v:Tok} {f:Nat} (I:Inv X c d H s) (h:-(2 ^ 62) <= lo) (i:lo < 2 ^ 62) (j:-(2 ^ 62) <= a) (k:a < 2 ^ 62)
  (q:R (Itr lo (a - lo).toNat) H):wpAny (model X.prog X.w) X.A (pyIter (.ref s.heap.objs.size)) (PIE X c d tg R) E { s with heap:=s.heap.push { cls:=.type "range",data:=.fields #[.int lo t,.int a u,.int 1 v] },toks:=f }:=by
 refine wpAny_pyIter_range (IsRange.new ..) (small_one h i j k) ?_
 have g:Inv X c d H { s with heap:=s.heap.push { cls:=.type "range",data:=.fields #[.int lo t,.int a u,.int 1 v] },toks:=f }:=I.kept λb o e=>Heap.get?_push_of_some _ e
 refine ⟨(s.heap.push { cls:=.type "range",data:=.fields #[.int lo t,.int a u,.int 1 v] }).objs.size,[(s.heap.push { cls:=.type "range",data:=.fields #[.int lo t,.int a u,.int 1 v] }).objs.size],_,_,H,rfl,
  g.kept (t':=f) λb o e=>Heap.get?_push_of_some _ e,gH _ lo (a - lo).toNat,?_,λb l=>?_,q⟩
 ·have m:lo + ((0:Nat):Int) * 1=lo:=by simp
  have n:(((a - lo).toNat:Nat):Int) - ((0:Nat):Int)=Builtin.Range.rangeSize lo a 1:=by rw [rangeSize_one];split <;> omega
  show IsRangeIter _ _ (lo + ((0:Nat):Int) * 1) ((((a - lo).toNat:Nat):Int) - ((0:Nat):Int)) 1
  rw [m,n]
  exact Heap.get?_push_size _ rfl
 ·have e:b=(s.heap.push { cls:=.type "range",data:=.fields #[.int lo t,.int a u,.int 1 v] }).objs.size:=by simpa using l
  subst e
  exact g.fpOk (zMS _) (g.hok.fresh (zMS _))
def zLO (a:TA):TI:=λb H R=>a b H λc d=>∃ j:Int,c=[.int j]/\-(2 ^ 62) <= j/\j < 2 ^ 62/\R (Itr 0 j.toNat) d
def zLN (a:TA):TI:=λb H R=>a b H λc d=>∃ i j:Int,c=[.int i,.int j]/\(-(2 ^ 62) <= i/\i < 2 ^ 62/\-(2 ^ 62) <= j/\j < 2 ^ 62)/\R (Itr i (j - i).toNat) d
theorem vJ {a:Expr} {d:TA} {p pos:Pos} (f:Gl X "range") (g:X.mg "range"=none) (i:PA X [a] d) (k:starEach [a] X.env=[(false,eval a X.env)]:=by rfl):PI X tg (.Call (.Name "range" p) [a] [] pos) (zLO d):=by
 intro l s m H R I h
 refine Call_ (rG I f g boot_range (PyProof.Rows.callWith_type1 (thn (i pos l s m H _ I h) λw x b=>?_) k rfl))
 obtain ⟨y,z,n,o,c⟩:=b
 obtain ⟨j,e,c,u,q⟩:=c
 subst e
 cases o with
 | cons r v=>
  cases v
  obtain ⟨t,rfl⟩:=r
  exact call_range_1 (j9 n (by omega) (by omega) c u (by simpa using q))
theorem c9 {a b:Expr} {k:TA} {p pos:Pos} (l:Gl X "range") (m:X.mg "range"=none) (n:PA X [a,b] k) (o:starEach [a,b] X.env=[(false,eval a X.env),(false,eval b X.env)]:=by rfl) (c:starEach [b] X.env=[(false,eval b X.env)]:=by rfl) :
  PI X tg (.Call (.Name "range" p) [a,b] [] pos) (zLN k):=by
 intro u s v H R I h
 refine Call_ (rG I l m boot_range (PyProof.Rows.callWith_type1 (thn (n pos u s v H _ I h) λC D d=>?_) (by rw [o,c]) (by rw [c];rfl)))
 obtain ⟨E,G,w,x,f⟩:=d
 obtain ⟨i,j,e,⟨f,y,z,A⟩,q⟩:=f
 subst e
 cases x with
 | cons r g=>
  cases g with
  | cons B g=>
   cases g
   obtain ⟨t,rfl⟩:=r
   obtain ⟨J,rfl⟩:=B
   exact call_range_2 (j9 w f y z A q)
def tFor (f:TI) (g:TG) (h:TS):TS:=λD a H=>f a H λJ j=>∃ W:Nat->Nat->St->Hp->Prop,(∃ m,W 0 m a j)/\∀ i m a H,W i m a H ->
 (J.stop i H/\D.nx a H) \/ (J.go i H/\∃ N:St->Hp->Prop,(∀ b c,N b c->∃ e,e < m/\W (i + 1) e b c)/\∀ x c,J.yld i H x c->g x a c λd k=>h { D with nx:=N,ct:=N,bk:=D.nx } d k)
noncomputable def vZ (a:List Addr) (h:Heap):LAO:=a.filterMap λb=>(h.get? b).map λo=>(b,o)
theorem wF {a:List Addr} {h:Heap} {b:Addr} {o:Obj} (c:b ∈ a) (e:h.get? b=some o):(b,o) ∈ vZ a h:=List.mem_filterMap.mpr ⟨b,c,by rw [e];rfl⟩
theorem bC {a:List Addr} {h:Heap} {p:Addr × Obj} (c:p ∈ vZ a h):p.1 ∈ a/\h.get? p.1=some p.2:=by
 obtain ⟨b,d,e⟩:=List.mem_filterMap.mp c
 cases q:h.get? b with
 | none=>rw [q] at e;cases e
 | some o=>
  rw [q] at e
  have f:(b,o)=p:=zMQ e
  subst f
  exact ⟨d,q⟩
theorem Inv.pinned {a:LAO} {f:St} {H:Hp} {s:Shared} {c:List Addr} (I:Inv X a f H s) (i:∀ b ∈ c,uU X a H b) (j:∀ b ∈ c,∃ o,s.heap.get? b=some o/\∀ v,o.data ≠ .cell v):Inv X (a ++ vZ c s.heap) f H s:=
 I.pins_of λp k=>(zM0.mp k).elim (λz=>I.pin p (zMX _ z)) λz=>by
  obtain ⟨g,e⟩:=bC z
  obtain ⟨l,f1,f2,_⟩:=i p.1 g
  obtain ⟨o,h,d⟩:=j p.1 g
  rw [e] at h;cases h
  exact ⟨e,l,f1,f2,d⟩
theorem Inv.unpinned {a pl:LAO} {b:St} {H:Hp} {s:Shared} (I:Inv X (a ++ pl) b H s):Inv X a b H s:=I.pins_of λp c=>I.pin p (zMX _ (List.mem_append_left _ c))
theorem vM {iter:Expr} {body:List Stmt} {wi:TI} {g:TG} {tb:TS} {pos:Pos} (C:PassesOwn (model X.prog X.w) X.A X.env X.xe) (hc:X.calm=true) (hi:PI X tg iter wi) (hg:PG X tg g) (c:PSs X body tb)
  (hs:∀ x,foldedSetIterable iter X.env x=pure x:=by intro _;rfl):PS X (.For tg iter body [] pos) (tFor wi g tb):=by
 intro z s σ H D I h
 refine wpAny_For (thn (hi z s σ H _ I h) λv s1 h1=>thn h1 λa3 s2 h2=>?_) hs
 obtain ⟨it,E,tn,J,H2,e,I2,T,Y,f2,W,⟨m0,w0⟩,turn⟩:=h2
 subst e
 have j:∀ {t:Hp},(∀ b ∈ E,t b=none)->∀ b ∈ E,uU X z t b:=λhn b c=>⟨hn b c,(f2 b c).2⟩
 refine codeAny_forLoop_any (λn s'=>∃ i k t,Inv X z k t s'/\tn i s'.heap/\(∀ b ∈ E,t b=none)/\W i n k t) ?_ m0 ⟨0,σ,H2,I2,Y,λb c=>(f2 b c).1,w0⟩
 rintro n s3 ⟨i,l,U,I3,G,L,w3⟩
 rcases turn i n l U w3 with ⟨stop,qn⟩ | ⟨go,N,hN,step⟩
 ·refine wpAny_passesOwn C (thn (T.done X rfl rfl rfl hc i z s3 l U X.xe I3 (j L) G stop) λr s4 ⟨hr,I4⟩=>?_)
  subst hr
  exact wpAny_execs_nil ⟨l,U,I4,qn⟩
 ·refine wpAny_passesOwn C (thn (T.item X rfl rfl rfl hc i z s3 l U X.xe I3 (j L) G go) λr s4 ⟨u,hr,h4⟩=>?_)
  subst hr
  refine wpAny_passesOwn C (thn h4 λ_ s5 M=>?_)
  obtain ⟨x,H5,I5,r5,y5,B,a0⟩:=M
  have a1:=I5.pinned (j a0) (T.obj _ _ B)
  refine wpAny_passesOwn C (thn (hg _ s5 l H5 x u _ a1 r5 (step x H5 y5)) λ_ s6 O=>?_)
  obtain ⟨a2,H6,I6,q6⟩:=O
  refine wpAny_passesOwn C (thn (c _ s6 a2 H6 _ I6 q6) λf s7 y=>?_)
  have again:∀ {a:St} {p:Hp},Inv X (z ++ vZ E s5.heap) a p s7->N a p->∃ m,m < n/\∃ i k t,Inv X z k t s7/\tn i s7.heap/\(∀ b ∈ E,t b=none)/\W i m k t:=λ{a p} q Q=>by
   obtain ⟨m',hm,w7⟩:=hN a p Q
   refine ⟨m',hm,i + 1,a,p,q.unpinned,T.keep _ _ _ B λb c o e=>(q.pin (b,o) (zMX _ (zMX _ (wF c e)))).1,λb c=>?_,w7⟩
   obtain ⟨o,e,d⟩:=T.obj _ _ B b c
   exact (q.pin (b,o) (zMX _ (zMX _ (wF c e)))).2.1
  cases f with
  | next=>obtain ⟨a,p,q,Q⟩:=y;exact again q Q
  | cont=>obtain ⟨a,p,q,Q⟩:=y;exact again q Q
  | brk=>obtain ⟨a,p,q,y⟩:=y;exact ⟨a,p,q.unpinned,y⟩
  | ret v=>obtain ⟨x7,a,p,q,r7,y⟩:=y;exact ⟨x7,a,p,q.unpinned,r7,y⟩
end
theorem vQ {K:PySem.W.Frag} {a:Addr} {xs:List V} {g:TG} {k:TS} {D:gE} {b:St} {H:Hp} (Pv:Nat->St->Hp->Prop) (n:Pv 0 b H) (o:∀ i b H,i <= xs.length->Pv i b H->SqL K H a xs)
  (r:∀ i x b H,xs[i]?=some x->Pv i b H->g x b H λc j=>k { D with nx:=Pv (i + 1),ct:=Pv (i + 1),bk:=D.nx } c j) (hd:∀ b H,Pv xs.length b H->D.nx b H) :
  ∃ W:Nat->Nat->St->Hp->Prop,(∃ m,W 0 m b H)/\∀ i m b H,W i m b H ->
   ((Itl K a).stop i H/\D.nx b H) \/ ((Itl K a).go i H/\∃ N:St->Hp->Prop,(∀ d f,N d f->∃ l,l < m/\W (i + 1) l d f)/\∀ x f,(Itl K a).yld i H x f->g x b f λc j=>k { D with nx:=N,ct:=N,bk:=D.nx } c j):=by
 refine ⟨λi m b H=>m=xs.length - i/\i <= xs.length/\Pv i b H,⟨xs.length,by simp,zMT _,n⟩,?_⟩
 rintro i m b H ⟨rfl,s,p⟩
 have q:=o i b H s p
 by_cases h:i < xs.length
 ·refine .inr ⟨⟨xs,xs[i],q,by simp [h]⟩,Pv (i + 1),λd f t=>⟨xs.length - (i + 1),by omega,rfl,h,t⟩,λx f y=>?_⟩
  obtain ⟨e,y⟩:=y
  subst e
  exact r i x b _ (y xs q) p
 ·have e:i=xs.length:=by omega
  subst e
  exact .inl ⟨⟨xs,q,zMS _⟩,hd b H p⟩
theorem tG {lo:Int} {n:Nat} {g:TG} {j:TS} {D:gE} {a:St} {H:Hp} (Pv:Nat->St->Hp->Prop) (l:Pv 0 a H)
  (o:∀ i a H,i < n->Pv i a H->g (.int (lo + i)) a H λb h=>j { D with nx:=Pv (i + 1),ct:=Pv (i + 1),bk:=D.nx } b h) (hd:∀ a H,Pv n a H->D.nx a H) :
  ∃ W:Nat->Nat->St->Hp->Prop,(∃ m,W 0 m a H)/\∀ i m a H,W i m a H ->
   ((Itr lo n).stop i H/\D.nx a H) \/ ((Itr lo n).go i H/\∃ N:St->Hp->Prop,(∀ c d,N c d->∃ k,k < m/\W (i + 1) k c d)/\∀ x d,(Itr lo n).yld i H x d->g x a d λb h=>j { D with nx:=N,ct:=N,bk:=D.nx } b h):=by
 refine ⟨λi m a H=>m=n - i/\i <= n/\Pv i a H,⟨n,by simp,zMT _,l⟩,?_⟩
 rintro i m a H ⟨rfl,r,p⟩
 by_cases f:i < n
 ·refine .inr ⟨f,Pv (i + 1),λc d q=>⟨n - (i + 1),by omega,rfl,f,q⟩,λx d y=>?_⟩
  obtain ⟨e,y⟩:=y
  subst e y
  exact o i a _ f p
 ·have e:i=n:=by omega
  subst e
  exact .inl ⟨zMS _,hd a H p⟩
abbrev R2:=V->V->Hp->VK->Prop
def OpR (X:Cx) (f:Value->Value->Sem Value) (r:R2):Prop:=
 ∀ (a:LAO) (s:Shared) (b:St) (H:Hp) (x y:V) (v u:Value) (Q:VK),Inv X a b H s->yX x v->yX y u->r x y H Q ->
  wpAny (model X.prog X.w) X.A (f v u) (EP X a b Q) X.xe s
def UnR (X:Cx) (f:Value->Sem Value) (r:V->Hp->VK->Prop):Prop:=
 ∀ (a:LAO) (s:Shared) (b:St) (H:Hp) (x:V) (v:Value) (Q:VK),Inv X a b H s->yX x v->r x H Q ->
  wpAny (model X.prog X.w) X.A (f v) (EP X a b Q) X.xe s
def vK (X:Cx) (f:Value) (r:List V->Hp->VK->Prop):Prop:=
 ∀ (a:LAO) (s:Shared) (b:St) (H:Hp) (c:List V) (d:List Value) (Q:VK),Inv X a b H s->yO c d->r c H Q ->
  wpAny (model X.prog X.w) X.A (call f d) (EP X a b Q) X.xe s
def TruR (X:Cx) (r:V->Hp->(Bool->Hp->Prop)->Prop):Prop:=
 ∀ (a:LAO) (s:Shared) (b:St) (H:Hp) (x:V) (v:Value) (Q:Bool->Hp->Prop),Inv X a b H s->yX x v->r x H Q ->
  wpAny (model X.prog X.w) X.A (truthy v) (TP X a b Q) X.xe s
def tOp (r:R2) (b c:TE):TE:=λa H Q=>b a H λx d=>c a d λy e=>r x y e Q
def tUn (r:V->Hp->VK->Prop) (a:TE):TE:=λb H Q=>a b H λx c=>r x c Q
def rI (C:Int->Int->Prop) (g:Int->Int->V):R2:=λx y H Q=>∃ i j,x=.int i/\y=.int j/\C i j/\Q (g i j) H
def rI0 (g:Int->Int->V):R2:=λx y H Q=>∃ i j,x=.int i/\y=.int j/\Q (g i j) H
def rU (g:Int->V):V->Hp->VK->Prop:=λx H Q=>∃ i,x=.int i/\Q (g i) H
section
variable {X:Cx} {a b c:Expr} {ta tb tc:TE} {pos:Pos}
theorem zI2 (n:PE X a ta) (o:PE X b tb) {l:LAO} {s:Shared} {d:St} {H:Hp} {R:V->V->Hp->Prop} (I:Inv X l d H s)
  (h:ta d H λx H1=>tb d H1 λy e=>R x y e) {Q:VSP} {f:Value->Value->Sem Value}
  (p:∀ v u m x y e,Inv X l d e m->yX x v->yX y u->R x y e->wpAny (model X.prog X.w) X.A (f v u) Q X.xe m) :
  wpAny (model X.prog X.w) X.A (eval a X.env) (λv g=>wpAny (model X.prog X.w) X.A (eval b X.env) (λu i=>wpAny (model X.prog X.w) X.A (f v u) Q X.xe i) X.xe g) X.xe s:=by
 refine thn (n l s d H _ I h) λv q j=>?_
 obtain ⟨x,H1,r,t,z⟩:=j
 refine thn (o l q d H1 _ r z) λu m k=>?_
 obtain ⟨y,e,B,C,D⟩:=k
 exact p v u m x y e B t C D
theorem yG {op:Operator} {r:R2} (d:OpR X (binaryOp op) r) (e:PE X a ta) (f:PE X b tb):PE X (.BinOp a op b pos) (tOp r ta tb):=by
 intro g s i H Q I h
 exact wpAny_BinOp (zI2 e f I h λv u j x y k l m n q=>d g j i k x y v u Q l m n q)
theorem zBB {op:UnaryOp} {r:V->Hp->VK->Prop} (f:UnR X (unaryOp op) r) (g:PE X a ta):PE X (.UnaryOp op a pos) (tUn r ta):=by
 intro d s e H Q I h
 exact UnaryOp_ (thn (g d s e H _ I h) λv i ⟨x,j,k,l,m⟩=>f d i e j x v Q k l m)
theorem opI {f:Value->Value->Sem Value} {C:Int->Int->Prop} {g:Int->Int->Int}
  (rule:∀ (i j:Int) (t u:Tok) (s:Shared) (Q:VSP) (E:VSP),C i j->Q (.int (g i j) s.toks) { s with toks:=s.toks + 1 }->wpAny (model X.prog X.w) X.A (f (.int i t) (.int j u)) Q E s) :
  OpR X f (rI C λi j=>.int (g i j)):=by
 intro m s n H x y v u Q I d e h
 obtain ⟨i,j,rfl,rfl,k,q⟩:=h
 obtain ⟨t,rfl⟩:=d
 obtain ⟨l,rfl⟩:=e
 exact rule i j t l s _ _ k ⟨.int (g i j),H,I.tok _,⟨_,rfl⟩,q⟩
theorem zKX {f:Value->Value->Sem Value} {g:Int->Int->Int}
  (rule:∀ (i j:Int) (t u:Tok) (s:Shared) (Q:VSP) (E:VSP),Q (.int (g i j) s.toks) { s with toks:=s.toks + 1 }->wpAny (model X.prog X.w) X.A (f (.int i t) (.int j u)) Q E s) :
  OpR X f (rI0 λi j=>.int (g i j)):=by
 intro l s m H x y v u Q I d e h
 obtain ⟨i,j,rfl,rfl,q⟩:=h
 obtain ⟨t,rfl⟩:=d
 obtain ⟨k,rfl⟩:=e
 exact rule i j t k s _ _ ⟨.int (g i j),H,I.tok _,⟨_,rfl⟩,q⟩
theorem zH2 {f:Value->Value->Sem Value} {g:Int->Int->Bool}
  (rule:∀ (i j:Int) (t u:Tok) (s:Shared) (Q:VSP) (E:VSP),Q (.bool (g i j)) s->wpAny (model X.prog X.w) X.A (f (.int i t) (.int j u)) Q E s) :
  OpR X f (rI0 λi j=>.bl (g i j)):=by
 intro l s m H x y v u Q I d e h
 obtain ⟨i,j,rfl,rfl,q⟩:=h
 obtain ⟨t,rfl⟩:=d
 obtain ⟨k,rfl⟩:=e
 exact rule i j t k s _ _ ⟨.bl (g i j),H,I,rfl,q⟩
def zFR (i j:Int):Prop:=0 < j/\j < 1073741824
def CPow (i j:Int):Prop:=0 <= j/\j <= 1000000/\i.natAbs < 2 ^ 64
def aG (i j:Int):Prop:=(-(2 ^ 64) < i/\i < 2 ^ 64) \/ (-(2 ^ 64) < j/\j < 2 ^ 64)
theorem aG.ok {i j:Int} (h:aG i j):IntMulOk i j:=by
 rcases h with ⟨d,e⟩ | ⟨d,e⟩
 ·exact .of_left (intBits_le_64 d e)
 ·exact .of_right (intBits_le_64 d e)
theorem wP:OpR X (binaryOp .Add) (rI0 λi j=>.int (i + j)):=zKX λ_ _ _ _ _ _ _ q=>add_int q
theorem zBH:OpR X (binaryOp .Sub) (rI0 λi j=>.int (i - j)):=zKX λ_ _ _ _ _ _ _ q=>sub_int q
theorem qS:OpR X (binaryOp .Mult) (rI aG λi j=>.int (i * j)):=opI λ_ _ _ _ _ _ _ d q=>mul_int q d.ok
theorem pX:OpR X (binaryOp .FloorDiv) (rI zFR λi j=>.int (i / j)):=opI λi j _ _ _ _ _ d q=>by
 have e:(0:Int) < j:=d.1
 have f:j < 1073741824:=d.2
 exact floordiv_int (by omega) (by rw [Int.fdiv_eq_ediv_of_nonneg i (by omega)];exact q) (.inl (PyProof.noPylong_small (by omega)))
theorem tO:OpR X (binaryOp .Mod) (rI (λ_ j=>0 < j) λi j=>.int (i % j)):=opI λi j _ _ _ _ _ d q=>by
 have e:(0:Int) < j:=d
 exact mod_int' (by omega) (by rw [Int.fmod_eq_emod_of_nonneg i (by omega)];exact q)
theorem zHY:OpR X (binaryOp .Pow) (rI CPow λi j=>.int (i ^ j.toNat)):=opI λ_ _ _ _ _ _ _ d q=>pow_int_small d.1 d.2.1 d.2.2 q
theorem unI {f:Value->Sem Value} {g:Int->Int}
  (rule:∀ (i:Int) (t:Tok) (s:Shared) (Q:VSP) (E:VSP),Q (.int (g i) s.toks) { s with toks:=s.toks + 1 }->wpAny (model X.prog X.w) X.A (f (.int i t)) Q E s) :
  UnR X f (rU λi=>.int (g i)):=by
 intro e s j H x v Q I d h
 obtain ⟨i,rfl,q⟩:=h
 obtain ⟨t,rfl⟩:=d
 exact rule i t s _ _ ⟨.int (g i),H,I.tok _,⟨_,rfl⟩,q⟩
theorem gG:UnR X (unaryOp .USub) (rU λi=>.int (-i)):=unI λ_ _ _ _ _ q=>neg_int q
end
noncomputable def zAE:V->V->Bool
 | .non,.non=>true | .non,.int _=>true | .int _,.non=>true | .non,.bl _=>true | .bl _,.non=>true | .non,.str _=>true | .str _,.non=>true
 | .int _,.int _=>true | .bl _,.bl _=>true | .str _,.str _=>true | .byt _,.byt _=>true
 | .int _,.str _=>true | .str _,.int _=>true | .bl _,.str _=>true | .str _,.bl _=>true
 | _,_=>false
def rEq:R2:=λx y H Q=>zAE x y=true/\Q (.bl (decide (x=y))) H
def rNe:R2:=λx y H Q=>zAE x y=true/\Q (.bl (!decide (x=y))) H
theorem d8 {i j:Int}:decide (V.int i=V.int j)=(i == j):=by
 rw [Bool.eq_iff_iff]
 simp
theorem zCT {i j:Bool}:decide (V.bl i=V.bl j)=(i == j):=by
 rw [Bool.eq_iff_iff]
 simp
theorem d7 {i j:Str}:decide (V.str i=V.str j)=(i == j):=by
 rw [Bool.eq_iff_iff]
 simp
theorem d9 {i j:Array UInt8}:decide (V.byt i=V.byt j)=(i.toList == j.toList):=by
 rw [Bool.eq_iff_iff]
 cases i
 cases j
 simp
section
variable {X:Cx} {a b c:Expr} {ta tb tc:TE} {pos:Pos}
theorem yZ {d:LAO} {f:St} {H:Hp} {s:Shared} {Q:VK} {k g:Bool} (I:Inv X d f H s) (q:Q (.bl k) H) (e:k=g):EP X d f Q (.bool g) s:=by
 subst e
 exact ⟨.bl k,H,I,rfl,q⟩
theorem xF:OpR X (compareOp .Eq) rEq:=by
 intro k s l H x y v u Q I g d h
 obtain ⟨f,q⟩:=h
 cases x with
 | non=>
  cases g
  cases y with
  | non=>cases d;exact PySem.EqNone.eq_none_none (yZ I q (by simp))
  | bl j=>cases d;exact PySem.EqNone.eq_none_bool (yZ I q (by simp))
  | int j=>obtain ⟨e,rfl⟩:=d;exact PySem.EqNone.eq_none_int (yZ I q (by simp))
  | str j=>obtain ⟨e,rfl⟩:=d;exact PySem.EqNone.eq_none_str (yZ I q (by simp))
  | _=>exact absurd (show false=true from f) zNB
 | bl i=>
  cases g
  cases y with
  | non=>cases d;exact PySem.EqNone.eq_bool_none (yZ I q (by simp))
  | bl j=>cases d;exact eq_bool (yZ I q zCT)
  | str j=>obtain ⟨e,rfl⟩:=d;exact PySem.EqMixed.eq_bool_str (yZ I q (by simp))
  | _=>exact absurd (show false=true from f) zNB
 | int i=>
  obtain ⟨t,rfl⟩:=g
  cases y with
  | non=>cases d;exact PySem.EqNone.eq_int_none (yZ I q (by simp))
  | int j=>obtain ⟨e,rfl⟩:=d;exact eq_int (yZ I q d8)
  | str j=>obtain ⟨e,rfl⟩:=d;exact PySem.EqMixed.eq_int_str (yZ I q (by simp))
  | _=>exact absurd (show false=true from f) zNB
 | str i=>
  obtain ⟨t,rfl⟩:=g
  cases y with
  | non=>cases d;exact PySem.EqNone.eq_str_none (yZ I q (by simp))
  | bl j=>cases d;exact PySem.EqMixed.eq_str_bool (yZ I q (by simp))
  | int j=>obtain ⟨e,rfl⟩:=d;exact PySem.EqMixed.eq_str_int (yZ I q (by simp))
  | str j=>obtain ⟨e,rfl⟩:=d;exact eq_str (yZ I q d7)
  | _=>exact absurd (show false=true from f) zNB
 | byt i=>
  obtain ⟨t,rfl⟩:=g
  cases y with
  | byt j=>obtain ⟨e,rfl⟩:=d;exact W.eq_bytes (yZ I q d9)
  | _=>exact absurd (show false=true from f) zNB
 | _=>cases y <;> exact absurd (show false=true from f) zNB
theorem t8:OpR X (compareOp .NotEq) rNe:=by
 intro k s l H x y v u Q I g d h
 obtain ⟨f,q⟩:=h
 cases x with
 | non=>
  cases g
  cases y with
  | non=>cases d;exact PySem.EqNone.ne_none_none (yZ I q (by simp))
  | bl j=>cases d;exact PySem.EqNone.ne_none_bool (yZ I q (by simp))
  | int j=>obtain ⟨e,rfl⟩:=d;exact PySem.EqNone.ne_none_int (yZ I q (by simp))
  | str j=>obtain ⟨e,rfl⟩:=d;exact PySem.EqNone.ne_none_str (yZ I q (by simp))
  | _=>exact absurd (show false=true from f) zNB
 | bl i=>
  cases g
  cases y with
  | non=>cases d;exact PySem.EqNone.ne_bool_none (yZ I q (by simp))
  | bl j=>cases d;exact ne_bool (yZ I q (congrArg not zCT))
  | str j=>obtain ⟨e,rfl⟩:=d;exact PySem.EqMixed.ne_bool_str (yZ I q (by simp))
  | _=>exact absurd (show false=true from f) zNB
 | int i=>
  obtain ⟨t,rfl⟩:=g
  cases y with
  | non=>cases d;exact PySem.EqNone.ne_int_none (yZ I q (by simp))
  | int j=>obtain ⟨e,rfl⟩:=d;exact ne_int (yZ I q (congrArg not d8))
  | str j=>obtain ⟨e,rfl⟩:=d;exact PySem.EqMixed.ne_int_str (yZ I q (by simp))
  | _=>exact absurd (show false=true from f) zNB
 | str i=>
  obtain ⟨t,rfl⟩:=g
  cases y with
  | non=>cases d;exact PySem.EqNone.ne_str_none (yZ I q (by simp))
  | bl j=>cases d;exact PySem.EqMixed.ne_str_bool (yZ I q (by simp))
  | int j=>obtain ⟨e,rfl⟩:=d;exact PySem.EqMixed.ne_str_int (yZ I q (by simp))
  | str j=>obtain ⟨e,rfl⟩:=d;exact ne_str (yZ I q (congrArg not d7))
  | _=>exact absurd (show false=true from f) zNB
 | byt i=>
  obtain ⟨t,rfl⟩:=g
  cases y with
  | byt j=>obtain ⟨e,rfl⟩:=d;exact W.ne_bytes (yZ I q (congrArg not d9))
  | _=>exact absurd (show false=true from f) zNB
 | _=>cases y <;> exact absurd (show false=true from f) zNB
theorem dJ:OpR X (compareOp .Lt) (rI0 λi j=>.bl (decide (i < j))):=zH2 λ_ _ _ _ _ _ _ q=>lt_int q
theorem oW:OpR X (compareOp .LtE) (rI0 λi j=>.bl (decide (i <= j))):=zH2 λ_ _ _ _ _ _ _ q=>le_int q
theorem zGI:OpR X (compareOp .Gt) (rI0 λi j=>.bl (decide (j < i))):=zH2 λ_ _ _ _ _ _ _ q=>gt_int q
theorem mV:OpR X (compareOp .In) (λx y H Q=>∃ i j,x=.str i/\y=.str j/\Q (.bl (!(Builtin.Str.occurrences j i 0 j.length 1).isEmpty)) H):=by
 intro f s g H x y v u Q I d e h
 obtain ⟨i,j,rfl,rfl,q⟩:=h
 obtain ⟨t,rfl⟩:=d
 obtain ⟨k,rfl⟩:=e
 exact in_str (yZ I q rfl)
theorem uO:OpR X (compareOp .Is) (λx y H Q=>y=.non/\Q (.bl (decide (x=.non))) H):=by
 intro f s g H x y v u Q I d e h
 obtain ⟨rfl,q⟩:=h
 cases e
 refine is_none_gen (yZ I q ?_)
 cases x <;> first
  | (cases d;rfl)
  | (obtain ⟨t,rfl⟩:=d;rfl)
theorem vX:OpR X (compareOp .IsNot) (λx y H Q=>y=.non/\Q (.bl (!decide (x=.non))) H):=by
 intro f s g H x y v u Q I d e h
 obtain ⟨rfl,q⟩:=h
 cases e
 refine isnot_none_gen (yZ I q ?_)
 cases x <;> first
  | (cases d;rfl)
  | (obtain ⟨t,rfl⟩:=d;rfl)
theorem zX (b:Expr) {op:CmpOp} (h:op ≠ .In:=by decide) (d:op ≠ .NotIn:=by decide):behindInMarks op b=false:=by
 have e:(op == CmpOp.In)=false:=by cases op <;> first | rfl | exact absurd rfl h
 have f:(op == CmpOp.NotIn)=false:=by cases op <;> first | rfl | exact absurd rfl d
 cases b <;> simp [behindInMarks,e,f]
theorem xI {op:CmpOp} {r:R2} (d:OpR X (compareOp op) r) (e:PE X a ta) (f:PE X b tb) (g:behindInMarks op b=false):PE X (.Compare a [op] [b] pos) (tOp r ta tb):=by
 intro i s j H Q I h
 exact wpAny_Compare1 (zI2 e f I h λv u k x y l m n o q=>d i k j l x y v u Q m n o q) g
def jO (t:TE):TT:=λd H Q=>t d H λx e=>∃ k,x=.bl k/\Q k e
theorem zT {op:CmpOp} {r:R2} (g:OpR X (compareOp op) r) (i:PE X a ta) (j:PE X b tb) (l:behindInMarks op b=false):PT X (.Compare a [op] [b] pos) (jO (tOp r ta tb)):=by
 intro d s f H Q I h
 refine wpAny_isTrue_Compare1 (thn (i d s f H _ I h) λv m ⟨x,n,o,p,q⟩=>thn (j d m f n _ o q) λu t ⟨y,w,A,B,C⟩=>
  thn (g d t f w x y v u _ A p B C) λc L ⟨z,D,E,G,k,e,J⟩=>?_) l
 subst e
 cases G
 exact wpAny_truthy_bool ⟨D,E,J⟩
def aO (r f:R2) (ta tb tc:TE):TE:=λd H Q=>ta d H λx g=>tb d g λy h=>r x y h λz e=>∃ k,z=.bl k /\
 (if k=true then tc d e λi j=>f y i j Q else Q (.bl false) e)
theorem iG {op f:CmpOp} {r l:R2} (q:OpR X (compareOp op) r) (j:OpR X (compareOp f) l) (t:PE X a ta) (w:PE X b tb) (A:PE X c tc)
  (B:lastMarks [op,f] [b,c]=false:=by with_unfolding_all rfl):PE X (.Compare a [op,f] [b,c] pos) (aO r l ta tb tc):=by
 intro g s i H Q I h
 refine Compare_chain (thn (t g s i H _ I h) λv C ⟨x,D,E,G,J⟩=>chain_link (thn (w g C i D _ E J) λu L ⟨y,M,N,m,O⟩=>
  thn (q g L i M x y v u _ N G m O) λd T ⟨z,n,o,U,k,e,p⟩=>?_)) B
 subst e
 cases U
 refine wpAny_truthy_bool ?_
 cases k with
 | false=>exact ite_ff ⟨.bl false,n,o,rfl,p⟩
 | true=>exact ite_tt (chain_last (thn (A g T i n _ o p) λY s4 ⟨z',H4,I4,r4,q4⟩=>j g s4 i H4 y z' u Y Q I4 m r4 q4))
theorem oT {op f:CmpOp} {r n:R2} (w:OpR X (compareOp op) r) (m:OpR X (compareOp f) n) (A:PE X a ta) (B:PE X b tb) (C:PE X c tc)
  (D:lastMarks [op,f] [b,c]=false:=by with_unfolding_all rfl):PT X (.Compare a [op,f] [b,c] pos) (jO (aO r n ta tb tc)):=by
 intro g s i H Q I h
 refine isTrue_chain (thn (A g s i H _ I h) λv E ⟨x,G,J,L,M⟩=>test_link (thn (B g E i G _ J M) λu N ⟨y,O,T,o,U⟩=>
  thn (w g N i O x y v u _ T L o U) λd Y ⟨z,p,q,r3,k,e,t⟩=>?_)) D
 subst e
 cases r3
 refine wpAny_truthy_bool ?_
 cases k with
 | false=>
  obtain ⟨k',e',q'⟩:=t
  cases e'
  exact ite_ff ⟨p,q,q'⟩
 | true=>
  refine ite_tt (test_last (thn (C g Y i p _ q t) λw' s4 j=>?_))
  obtain ⟨z',H4,I4,r4,q4⟩:=j
  refine thn (m g s4 i H4 y z' u w' _ I4 o r4 q4) λd' s5 l=>?_
  obtain ⟨z2,H5,I5,r5,k2,e2,q5⟩:=l
  subst e2
  cases r5
  exact wpAny_truthy_bool ⟨H5,I5,q5⟩
def zMD (K:W.Frag) (x:V) (H:Hp) (k:Bool):Prop:=
 match x with
 | .non=>k=false
 | .bl b=>k=b
 | .int i=>k=(i != 0)
 | .str y=>y.length <= sizeLine/\k=((y.length:Int) != 0)
 | .byt y=>y.size <= sizeLine/\k=((y.size:Int) != 0)
 | .ref p=>(∃ d,SqL K H p d/\k = !d.isEmpty) \/ (∃ d,SqT K H p d/\k = !d.isEmpty) \/ ∃ e,H p=some (.dK e)/\k = !e.isEmpty
 | _=>False
theorem fN {κ:Type} {d:List (κ × V)} {vs:List (κ × Value)} (r:KV d vs):(!vs.isEmpty) = !d.isEmpty:=by
 cases r <;> rfl
theorem nC {xs:List V} {its:List Value} (r:yO xs its):(!its.toArray.isEmpty) = !xs.isEmpty:=by
 cases r <;> simp
theorem qT:(sizeLine:Nat) < 2 ^ 63:=by rw [sizeLine_eq];decide
theorem zG0:TruR X (λx H Q=>∃ k,zMD X.K x H k/\Q k H):=by
 intro D s E H x v Q I l h
 obtain ⟨k,e,q⟩:=h
 have G:=qT
 have J:sizeLine=16777216:=sizeLine_eq
 cases x with
 | non=>
  cases l
  have d:k=false:=e
  subst d
  exact truthy_none ⟨H,I,q⟩
 | bl b=>
  cases l
  have d:k=b:=e
  subst d
  exact wpAny_truthy_bool ⟨H,I,q⟩
 | int i=>
  obtain ⟨t,rfl⟩:=l
  have d:k=(i != 0):=e
  subst d
  exact PySem.P.truthy_int ⟨H,I,q⟩
 | str y=>
  obtain ⟨t,rfl⟩:=l
  obtain ⟨B,d⟩:y.length <= sizeLine/\k=((y.length:Int) != 0):=e
  subst d
  exact PySem.P.truthy_str (by omega) ⟨H,I.tok _,q⟩
 | byt y=>
  obtain ⟨t,rfl⟩:=l
  obtain ⟨B,d⟩:y.size <= sizeLine/\k=((y.size:Int) != 0):=e
  subst d
  exact W.truthy_bytes (by omega) ⟨H,I.tok _,q⟩
 | ref p=>
  cases l
  have d:(∃ j,SqL X.K H p j/\k = !j.isEmpty) \/ (∃ j,SqT X.K H p j/\k = !j.isEmpty) \/ ∃ f,H p=some (.dK f)/\k = !f.isEmpty:=e
  rcases d with ⟨j,n,d⟩ | ⟨j,n,d⟩ | ⟨f,n,d⟩
  ·subst d
   obtain ⟨u,r,z,A⟩:=I.list n
   have g:=r.length
   exact wpAny_truthy_list z.isList (by simp only [zMR];omega) ⟨H,I.tok _,by rw [nC r];exact q⟩
  ·subst d
   obtain ⟨u,r,z,A⟩:=I.tuple n
   have g:=r.length
   exact truthy_tuple z (by simp only [zMR];omega) ⟨H,I.tok _,by rw [nC r];exact q⟩
  ·subst d
   obtain ⟨A,C,o,r,m⟩:f.length <= sizeLine/\(p == sysModules)=false/\∃ o,KV f o/\s.heap.DictOf (wH X.prog X.w) p o:=I.hok p _ n
   have g:f.length=o.length:=Paired.length r
   exact wpAny_truthy_dict C m (by omega) ⟨H,I.tok _,by rw [fN r];exact q⟩
 | _=>exact (show False from e).elim
theorem zA5 (g:PE X a ta) (i:∀ whole,isTrue a X.env whole=(do let v <- whole;standAt a.pos;holding [v] (truthy v))) :
  PT X a (λd H Q=>ta d H λx e=>∃ k,zMD X.K x e k/\Q k e):=by
 intro f s d H Q I h
 exact isTrue_plain (thn (g f s d H _ I h) λv j ⟨x,l,m,n,o⟩=>zG0 f j d l x v Q m n o) (i _)
theorem rC:OpR X (binaryOp .Add) (λx y H Q=>∃ i j,x=.str i/\y=.str j/\i.length + j.length <= sizeLine/\Q (.str (i ++ j)) H):=by
 intro k s l H x y v u Q I d e h
 obtain ⟨i,j,rfl,rfl,f,q⟩:=h
 obtain ⟨t,rfl⟩:=d
 obtain ⟨g,rfl⟩:=e
 exact add_str (λg m=>⟨.str (i ++ j),H,I.tok _,⟨_,rfl⟩,q⟩) f
theorem tY {x:V} {us:List Value} (r:yO [x] us):∃ u,us=[u]/\yX x u:=by
 cases r with
 | cons d e=>cases e;exact ⟨_,rfl,d⟩
theorem uJ:vK X (.type "int") (λxs H Q=>(∃ i,xs=[.int i]/\Q (.int i) H) \/ ∃ k,xs=[.bl k]/\Q (.int (if k then 1 else 0)) H):=by
 intro e s f H xs g Q I r h
 rcases h with ⟨i,rfl,q⟩ | ⟨k,rfl,q⟩
 ·obtain ⟨u,rfl,t,rfl⟩:=tY r
  exact call_int_int ⟨.int i,H,I,⟨_,rfl⟩,q⟩
 ·obtain ⟨u,rfl,d⟩:=tY r
  cases d
  exact call_int_bool ⟨.int (if k then 1 else 0),H,I.tok _,⟨_,rfl⟩,q⟩
def zFO (K:W.Frag) (x:V) (H:Hp) (n:Nat):Prop:=
 match x with
 | .str y=>y.length <= sizeLine/\n=y.length
 | .byt y=>y.size <= sizeLine/\n=y.size
 | .ref p=>(∃ d,SqL K H p d/\n=d.length) \/ ∃ d,SqT K H p d/\n=d.length
 | _=>False
theorem yA:vK X (.builtin "len") (λxs H Q=>∃ x n,xs=[x]/\zFO X.K x H n/\Q (.int n) H):=by
 intro v s w H xs z Q I r h
 obtain ⟨x,n,rfl,e,q⟩:=h
 obtain ⟨u,rfl,g⟩:=tY r
 have A:=qT
 have B:sizeLine=16777216:=sizeLine_eq
 cases x with
 | str y=>
  obtain ⟨t,rfl⟩:=g
  obtain ⟨m,f⟩:y.length <= sizeLine/\n=y.length:=e
  subst f
  exact len_str (by omega) ⟨.int _,H,I.tok _,⟨_,rfl⟩,q⟩
 | byt y=>
  obtain ⟨t,rfl⟩:=g
  obtain ⟨m,f⟩:y.size <= sizeLine/\n=y.size:=e
  subst f
  exact W.len_bytes (by omega) ⟨.int _,H,I.tok _,⟨_,rfl⟩,q⟩
 | ref p=>
  cases g
  have f:(∃ xs,SqL X.K H p xs/\n=xs.length) \/ ∃ xs,SqT X.K H p xs/\n=xs.length:=e
  rcases f with ⟨xs,i,f⟩ | ⟨xs,i,f⟩
  ·subst f
   obtain ⟨j,k,l,o⟩:=I.list i
   have d:=k.length
   exact Calls.call_len_list l.isList (by simp only [zMR];omega) ⟨.int xs.length,H,I.tok _,⟨_,by simp only [zMR];rw [d]⟩,q⟩
  ·subst f
   obtain ⟨j,k,l,o⟩:=I.tuple i
   have d:=k.length
   exact len_tuple l (by simp only [zMR];omega) ⟨.int xs.length,H,I.tok _,⟨_,by simp only [zMR];rw [d]⟩,q⟩
 | _=>exact (show False from e).elim
end
structure f7 (h:Heap) (x dx C:Addr) (mA:Str->Option Value):Prop where
 obj:h.get? x=some (W.instObj C dx)
 ns:h.Ns1 dx mA
 ne:dx ≠ x
theorem bH {h:Heap} {dx:Addr} {c:Str->Option Value} (n:h.Ns1 dx c):∃ d,h.get? dx=some d/\∀ name,W.lookIn name d=some (c name):=by
 obtain ⟨o,f,m,g,hd,i,_,j⟩:=n
 refine ⟨o,g,λname=>?_⟩
 have e:=j name
 unfold nsFind findBy at e
 rw [<- Array.find?_toList] at e
 unfold W.lookIn
 rw [hd]
 dsimp only
 split
 ·rename_i y q
  rw [q] at e
  exact congrArg some e
 ·rename_i q
  rw [q] at e
  have a:f.toList.any (·.refKey)=false:=by
   rw [List.any_eq_false]
   intro y k
   obtain ⟨z,t,b⟩:=i y (Array.mem_toList_iff.mp k)
   simp [DictEntry.refKey,b]
  have l:¬ f.toList.any (·.refKey)=true:=by rw [a];exact zNB
  rw [if_neg l]
  exact congrArg some e
theorem f7.look {h:Heap} {x dx C:Addr} {b:Str->Option Value} (I:f7 h x dx C b):∃ a,W.InstAt h x (W.instObj C dx) C (some a)/\∀ name,W.lookIn name a=some (b name):=
 let ⟨a,c,d⟩:=bH I.ns
 ⟨a,⟨I.obj,rfl,rfl,c⟩,d⟩
section
variable {prog:Program} {w:World} {A:Around} {E:VSP} {s:Shared} {K:W.Frag} {x dx C f:Addr} {mA:Str->Option Value} {name:Str} {v:Value}
theorem zE4 {expr:Bool} {Q:VSP} (X:K.In s.heap) (I:f7 s.heap x dx C mA) (b:W.plainGet K C name=true) (c:W.hasDictIn K C=true)
  (d:W.findIn K (.ref C) name=some none) (e:mA name=some v) (a:W.handedIn v=true) (h:Q v { s with toks:=s.toks + 1 }) :
  wpAny (model prog w) A (getAttr (.ref x) name expr) Q E s:=by
 obtain ⟨i,J,g⟩:=I.look
 exact W.get_value X J (W.plainGet_of b).1 (W.findObj_own c d rfl (by rw [g,e])) a h
theorem zCH {pl:Sem Bool} {Q:Value × List Value->Shared->Prop} (X:K.In s.heap) (I:f7 s.heap x dx C mA) (a:W.plainGet K C name=true)
  (b:W.findIn K (.ref C) name=some (some (.ref f))) (c:W.isFn K (.ref f)=true) (d:mA name=none) (h:Q (.ref f,[.ref x]) s) :
  wpAny (model prog w) A (getMethod (.ref x) name pl) Q E s:=by
 obtain ⟨e,J,g⟩:=I.look
 exact W.method_fn X J (W.plainGet_of a).1 (W.plainGet_of a).2 b (beq_iff_eq.mp c) (by show (W.lookIn name e).map (·.isSome)=some false;rw [g,d];rfl) h
theorem zDO {ns:List Str} {Q:Unit->Shared->Prop} (X:K.In s.heap) (I:f7 s.heap x dx C mA)
  (hs:W.findIn K (.ref C) "__setattr__"=some (some (.builtin "object.__setattr__"))) (hp:W.plainOver K C=true) (ht:W.takerIn K C name=some none) (hh:W.hasDictIn K C=true)
  (hw:PySem.Within mA ns) (hsz:ns.length <= sizeLine)
  (h:∀ h',f7 h' x dx C (λy=>if y=name then some v else mA y)->Heap.SameBut dx s.heap h'->Q () { s with heap:=h',toks:=s.toks + 2 }) :
  wpAny (model prog w) A (setAttr (.ref x) name v) Q E s:=by
 obtain ⟨od,J,hl⟩:=I.look
 refine W.set_plain X J hs (W.osa_open (s:={ s with toks:=s.toks + 1 }) (r:=none) X J hp ht λb=>?_)
 obtain ⟨cd,hc,hd'⟩:=W.any_some hh
 have hx:s.heap.get? x=some ⟨.ref C,some dx,.plain,#[]⟩:=I.obj
 refine wpAny_bind (wpAny_pure (wpAny_bind (wpAny_bind (wpAny_loadPart hx (wpAny_bind (W.Looks.here (s:={ s with toks:=s.toks + 1 }) (W.looks_clsIn X hc) ?_))))))
 rw [hd']
 refine wpAny_pure (a:=some dx) (wpAny_bind (wpAny_pure (wpAny_bind ?_)))
 refine wpAny_nsSet1 (s:={ s with toks:=s.toks + 1 }) I.ns λh' hn2 hs2=>?_
 obtain ⟨oD,esD,epD,hoD,hdD,hcD⟩:=hn2.count (PySem.Within.cons name v hw)
 refine wpAny_bind (wpAny_lookBehind hoD (by rw [hdD];exact pastItsLine_dict (zMU hcD (by rw [zM4];omega))) ?_)
 exact wpAny_pure (h _ ⟨(hs2.2 _ (Ne.symm I.ne)).trans I.obj,hn2,I.ne⟩ hs2)
theorem zBV {R:Result->Shared->Prop} {vs:List Value} {a:List (Str × Value)} (X:K.In s.heap) (b:W.makesIn K C=true)
  (c:W.findIn K (.ref C) "__init__"=some (some (.ref f))) (e:W.typeIn K (.ref f)=some (.type "function"))
  (h:codeAny (model prog w) (A.under (.builtin "type.__call__" ⟨.ref C :: vs,a⟩)) (.call (.ref f) ⟨.ref (s.heap.objs.size + 1) :: vs,a⟩) (W.InitBack (s.heap.objs.size + 1) R)
   { s with heap:=(s.heap.push W.emptyDict).push (W.instObj C s.heap.objs.size) }) :
  codeAny (model prog w) A (.call (.ref C) ⟨vs,a⟩) R s:=by
 obtain ⟨i,g,d,t,os⟩:=s
 exact W.make_core (W.makes_of X b) (W.looks_findIn X c) (λself=>W.bind_fn X self e) (.inl rfl) h
end
noncomputable def wG (f:Str) (v:V):List (Str × V)->List (Str × V)
 | []=>[(f,v)]
 | (g,x) :: r=>if g=f then (g,v) :: r else (g,x) :: wG f v r
theorem pF (f g:Str) (v:V):∀ c:List (Str × V),(wG f v c).lookup g=if g=f then some v else c.lookup g
 | []=>by
  show List.lookup g [(f,v)]=_
  by_cases h:g=f
  ·have a:(g == f)=true:=beq_iff_eq.mpr h
   simp only [List.lookup,a,if_pos h]
  ·have a:(g == f)=false:=beq_eq_false_iff_ne.mpr h
   simp only [List.lookup,a,if_neg h]
 | (k,x) :: r=>by
  have d:=pF f g v r
  rw [show wG f v ((k,x) :: r)=(if k=f then (k,v) :: r else (k,x) :: wG f v r) from rfl]
  by_cases b:k=f
  ·rw [if_pos b]
   by_cases h:g=k
   ·have a:(g == k)=true:=beq_iff_eq.mpr h
    simp only [List.lookup,a,if_pos (h.trans b)]
   ·have a:(g == k)=false:=beq_eq_false_iff_ne.mpr h
    simp only [List.lookup,a,if_neg (λe:g=f=>h (e.trans b.symm))]
  ·rw [if_neg b]
   by_cases h:g=k
   ·have a:(g == k)=true:=beq_iff_eq.mpr h
    simp only [List.lookup,a,if_neg (λe:g=f=>b (h.symm.trans e))]
   ·have a:(g == k)=false:=beq_eq_false_iff_ne.mpr h
    simp only [List.lookup,a]
    exact d
theorem qU (f:Str) (v:V):∀ a:List (Str × V),f ∈ (wG f v a).map (·.1)/\∀ g,g ∈ a.map (·.1)->g ∈ (wG f v a).map (·.1)
 | []=>⟨by simp [wG],λg h=>by simp at h⟩
 | (k,x) :: r=>by
  obtain ⟨c,d⟩:=qU f v r
  rw [show wG f v ((k,x) :: r)=(if k=f then (k,v) :: r else (k,x) :: wG f v r) from rfl]
  by_cases b:k=f
  ·rw [if_pos b]
   subst b
   exact ⟨by simp,λg h=>by simpa using h⟩
  ·rw [if_neg b]
   refine ⟨?_,λg h=>?_⟩
   ·rw [List.map_cons]
    exact zMW _ c
   ·rw [List.map_cons] at h ⊢
    rcases List.mem_cons.mp h with e | e
    ·exact List.mem_cons.mpr (.inl e)
    ·exact zMW _ (d g e)
theorem pG (f:Str) (v:V):∀ a:List (Str × V),(wG f v a).length <= a.length + 1
 | []=>by simp [wG]
 | (k,x) :: r=>by
  have c:=pG f v r
  rw [show wG f v ((k,x) :: r)=(if k=f then (k,v) :: r else (k,x) :: wG f v r) from rfl]
  by_cases b:k=f
  ·rw [if_pos b,zM4,zM4];omega
  ·rw [if_neg b,zM4,zM4];omega
theorem sW.some_of {v:V} {o:Option Value} (r:sW (some v) o):∃ u,o=some u/\yX v u:=by
 cases o with
 | none=>exact (show False from r).elim
 | some u=>exact ⟨u,rfl,r⟩
theorem sW.none_of {o:Option Value} (r:sW none o):o=none:=by
 cases o with
 | none=>rfl
 | some u=>exact (show False from r).elim
theorem bR {v:V} {u:Value} (r:yX v u):W.handedIn u=true:=by
 cases v with
 | non=>cases (show u=Value.none from r);rfl
 | bl b=>cases (show u=Value.bool b from r);rfl
 | int i=>obtain ⟨t,e⟩:=(show ∃ t,u=Value.int i t from r);cases e;rfl
 | str x=>obtain ⟨t,e⟩:=(show ∃ t,u=Value.str x t from r);cases e;rfl
 | byt b=>obtain ⟨t,e⟩:=(show ∃ t,u=Value.bytes b t from r);cases e;rfl
 | flt b=>obtain ⟨t,e⟩:=(show ∃ t,u=Value.float b t from r);cases e;rfl
 | ref a=>cases (show u=Value.ref a from r);rfl
 | ty n=>cases (show u=Value.type n from r);rfl
section
variable {P:Program} {w:World} {H H':Hp} {h h':Heap} {a C dx:Addr} {fs fs':List (Str × V)}
theorem p7 (c:HOk P w H h) (e:H a=some (.ins C dx fs)):∃ b,f7 h a dx C b/\(∀ f,sW (fs.lookup f) (b f))/\PySem.Within b (fs.map (·.1))/\fs.length <= 1000/\H dx=some (.own a):=by
 obtain ⟨d,z,ne,g,b,n,r,q⟩:=(show xL P w H h a (.ins C dx fs) from c a _ e)
 exact ⟨b,⟨g,n,ne⟩,r,q,z,d⟩
end
structure Cls (K:W.Frag) (C:Addr):Prop where
 pg:W.plainGet K C Str.empty=true
 hd:W.hasDictIn K C=true
 po:W.plainOver K C=true
 sa:W.findIn K (.ref C) "__setattr__"=some (some (.builtin "object.__setattr__"))
theorem Cls.get {K:W.Frag} {C:Addr} (c:Cls K C) (f:Str):W.plainGet K C f=true:=c.pg
def vV (K:W.Frag) (C:Addr) (f:Str):Prop:=W.findIn K (.ref C) f=some none
theorem vV.taker {K:W.Frag} {C:Addr} {f:Str} (n:vV K C f):W.takerIn K C f=some none:=by
 unfold W.takerIn
 rw [show W.findIn K (.ref C) f=some none from n]
 rfl
structure zDD (K:W.Frag) (C:Addr) (m:Str) (f:Addr):Prop where
 at_:W.findIn K (.ref C) m=some (some (.ref f))
 fn:W.isFn K (.ref f)=true
 kp:W.keepIn K (.ref f)=true
section
variable {X:Cx} {qp:LAO} {σ:St} {H:Hp} {s:Shared} {a C dx:Addr} {fs:List (Str × V)} {f:Str} {v:V} {A:Around} {E:VSP}
theorem fP {b:Bool} {Q:VSP} (I:Inv X qp σ H s) (e:H a=some (.ins C dx fs)) (c:Cls X.K C) (n:vV X.K C f) (l:fs.lookup f=some v)
  (h:∀ u s',Inv X qp σ H s'->yX v u->Q u s'):wpAny (model X.prog X.w) A (getAttr (.ref a) f b) Q E s:=by
 obtain ⟨g,O,r,_,_,_⟩:=p7 I.hok e
 obtain ⟨u,i,d⟩:=sW.some_of (v:=v) (o:=g f) (by rw [<- l];exact r f)
 exact zE4 I.kIn O (c.get f) c.hd n i (bR d) (h u _ (I.tok _) d)
theorem nD {m:Str} {g:Addr} {pl:Sem Bool} {Q:Value × List Value->Shared->Prop} (I:Inv X qp σ H s) (e:H a=some (.ins C dx fs)) (c:Cls X.K C) (k:zDD X.K C m g) (l:fs.lookup m=none)
  (h:Q (.ref g,[.ref a]) s):wpAny (model X.prog X.w) A (getMethod (.ref a) m pl) Q E s:=by
 obtain ⟨b,O,r,_,_,_⟩:=p7 I.hok e
 have d:b m=none:=sW.none_of (by rw [<- l];exact r m)
 exact zCH I.kIn O (c.get m) k.at_ k.fn d h
theorem gR {y:V} {u:Value} {Q:Unit->Shared->Prop} (I:Inv X qp σ H s) (e:H a=some (.ins C dx fs)) (c:Cls X.K C) (n:vV X.K C f) (J:fs.length < 1000) (l:yX y u)
  (h:∀ s',Inv X qp σ (upd H a (.ins C dx (wG f y fs))) s'->Q () s'):wpAny (model X.prog X.w) A (setAttr (.ref a) f u) Q E s:=by
 obtain ⟨i,O,r,j,_,k⟩:=p7 I.hok e
 have m:(fs.map (·.1)).length <= sizeLine:=by rw [zMJ,sizeLine_eq];omega
 refine zDO I.kIn O c.sa c.po n.taker c.hd j m λp d t=>h _ ?_
 have hd:∃ o,p.get? dx=some o:=let ⟨o,_,_,B,_⟩:=d.ns;⟨o,B⟩
 refine I.write (x:=a) (e:=dx) (by rw [e];exact True.intro) (.inr k) (λb q D z=>(t.2 b D).trans z) hd ?_
 refine ⟨by rw [zK O.ne];exact k,?_,O.ne,d.obj,_,d.ns,λg=>?_,λg G=>?_⟩
 ·have:=pG f y fs;omega
 ·show sW ((wG f y fs).lookup g) (if g=f then some u else i g)
  rw [pF]
  by_cases q:g=f
  ·rw [if_pos q,if_pos q];exact l
  ·rw [if_neg q,if_neg q];exact r g
 ·by_cases q:g=f
  ·rw [q];exact (qU f y fs).1
  ·refine (qU f y fs).2 g (j g λz=>G ?_)
   show (if g=f then some u else i g)=none
   rw [if_neg q];exact z
theorem Inv.made (I:Inv X qp σ H s):Inv X qp σ (upd (upd H s.heap.objs.size (.own (s.heap.objs.size + 1))) (s.heap.objs.size + 1) (.ins C s.heap.objs.size []))
  { s with heap:=(s.heap.push W.emptyDict).push (W.instObj C s.heap.objs.size) }:=by
 have c:(s.heap.push W.emptyDict).get? s.heap.objs.size=some W.emptyDict:=Heap.get?_push_size s.heap rfl
 have d:((s.heap.push W.emptyDict).push (W.instObj C s.heap.objs.size)).get? (s.heap.objs.size + 1)=some (W.instObj C s.heap.objs.size):=by
  have:=Heap.get?_push_size (s.heap.push W.emptyDict) (o:=W.instObj C s.heap.objs.size) rfl
  rwa [Heap.size_push] at this
 have g:(s.heap.push W.emptyDict).Ns s.heap.objs.size (λ_=>none):=⟨W.emptyDict,#[],_,c,rfl,(λe h=>absurd h (by simp)),λ_=>rfl⟩
 have i:=I.laid (a:=s.heap.objs.size) (o:=.own (s.heap.objs.size + 1)) (h':=s.heap.push W.emptyDict) (t':=s.toks) (λb u q=>Heap.get?_push_of_some _ q) (zMS _) ⟨_,c⟩
 refine i.laid (a:=s.heap.objs.size + 1) (o:=.ins C s.heap.objs.size []) (t':=s.toks) (λb u q=>Heap.get?_push_of_some _ q) (Nat.le_of_eq (Heap.size_push _ _)) ?_
 have ne:s.heap.objs.size ≠ s.heap.objs.size + 1:=zNA (Nat.lt_succ_self _)
 refine ⟨by rw [zK ne,zC],zMT _,ne,d,λ_=>none,(Heap.Ns1.of_empty g).at λo q=>Heap.get?_push_of_some _ q,λ_=>True.intro,λy k=>absurd rfl k⟩
theorem zFL {prog:Program} {w:World} {env:Env} {e:Expr} {f:Str} {pos:Pos} {s:Shared} {Q:VSP} (c:attributeBase e f env (eval e env)=eval e env)
  (h:wpAny (model prog w) A (eval e env) (λo b=>wpAny (model prog w) A (getAttr o f true) Q E b) E s):wpAny (model prog w) A (eval (.Attribute e f pos) env) Q E s:=
 Attribute_any_ h (by rw [arm_eval_Attribute,c])
end
def tFld (K:W.Frag) (d:TE) (f:Str):TE:=λe H Q=>d e H λx b=>∃ a C g c v,x=.ref a/\b a=some (.ins C g c)/\Cls K C/\vV K C f/\c.lookup f=some v/\Q v b
def zAT (K:W.Frag) (g h:TE) (f:Str):TS:=λD b H=>h b H λy i=>g b i λx d=>∃ a C e c,x=.ref a/\d a=some (.ins C e c)/\Cls K C/\vV K C f/\c.length < 1000 /\
 D.nx b (upd d a (.ins C e (wG f y c)))
section
variable {X:Cx} {o e value:Expr} {f:Str} {pos pos' tpos:Pos} {ta tv:TE}
theorem z8 (d:PE X e ta) (g:attributeBase e f X.env (eval e X.env)=eval e X.env):PE X (.Attribute e f pos) (tFld X.K ta f):=by
 intro i s j H Q I h
 refine zFL g (thn (d i s j H _ I h) λu z b=>?_)
 obtain ⟨x,k,m,p,a,C,A,B,v,r,t,c,n,l,q⟩:=b
 subst r
 obtain rfl:u=Value.ref a:=p
 exact fP m t c n l λD E w y=>⟨v,k,w,y,q⟩
theorem vN (j:PE X o ta) (k:PE X value tv) (m:swapsWith value (some (.Attribute o f pos')) pos.line X.env=pure false):PS X (.Assign [.Attribute o f pos'] value pos) (zAT X.K ta tv f):=by
 intro i s g H D I h
 refine plainObj_wpAny_Assign_Attribute (thn (k i s g H _ I h) λu p b=>?_) m
 obtain ⟨y,r,t,v,q⟩:=b
 refine thn (j i p g r _ t q) λw L d=>?_
 obtain ⟨x,M,z,A,a,C,N,O,B,E,c,n,l,G⟩:=d
 subst B
 obtain rfl:w=Value.ref a:=A
 exact gR z E c n l v λQ J=>⟨g,_,J,G⟩
end
section
variable {X:Cx} {qp:LAO} {σ:St} {H:Hp} {s:Shared} {A:Around} {E:VSP} {Q:VSP} {c:Value} {b:Bool}
inductive qE (K:W.Frag) (H:Hp):V->Value->Prop where
 | non:qE K H .non (.type "NoneType")
 | bl (x:Bool):qE K H (.bl x) (.type "bool")
 | int (i:Int):qE K H (.int i) (.type "int")
 | str (x:Str):qE K H (.str x) (.type "str")
 | flt (x:UInt64):qE K H (.flt x) (.type "float")
 | lst {a:Addr} {xs:List V} (e:H a=some (.lst xs)):qE K H (.ref a) (.type "list")
 | frz {a:Addr} {o:Obj} {xs:List V} (e:H a=some (.frz o (.lst xs))):qE K H (.ref a) (.type "list")
 | tup {a:Addr} {xs:List V} (e:H a=some (.tup xs)):qE K H (.ref a) (.type "tuple")
 | dK {a:Addr} {kvs:List (Key × V)} (e:H a=some (.dK kvs)):qE K H (.ref a) (.type "dict")
 | dT {a:Addr} {kvs:List (List Key × V)} (e:H a=some (.dT kvs)):qE K H (.ref a) (.type "dict")
 | ins {a C dx:Addr} {fs:List (Str × V)} (e:H a=some (.ins C dx fs)) (cl:Cls K C) (ha:W.findIn K (.ref C) "__class__"=some (some (.builtin "object.__class__")))
   (hn:W.specialIn K (.builtin "object.__class__") "__get__"=some (some (.builtin "getset_descriptor.__get__"))) (htk:W.takesIn K (.builtin "object.__class__")=some true)
   (hm:W.mroIn K C (.type "object")=some true):qE K H (.ref a) (.ref C)
theorem bP {x:V} {u t:Value} (I:Inv X qp σ H s) (d:yX x u) (ty:qE X.K H x t) (e:W.kitOne X.K t c=some b) (h:∀ v,Q (.bool b) { s with toks:=v }) :
  wpAny (model X.prog X.w) A (call (.builtin "isinstance") [u,c]) Q E s:=by
 cases ty with
 | non=>cases (show u=Value.none from d);exact W.kia_one W.kitx_none I.kIn True.intro e (λz=>nomatch z) h
 | bl y=>cases (show u=Value.bool y from d);exact W.kia_one W.kitx_bool I.kIn True.intro e (λz=>nomatch z) h
 | int i=>obtain ⟨t,q⟩:=(show ∃ t,u=Value.int i t from d);cases q;exact W.kia_one W.kitx_int I.kIn True.intro e (λz=>nomatch z) h
 | str y=>obtain ⟨t,q⟩:=(show ∃ t,u=Value.str y t from d);cases q;exact W.kia_one W.kitx_str I.kIn True.intro e (λz=>nomatch z) h
 | flt y=>obtain ⟨t,q⟩:=(show ∃ t,u=Value.float y t from d);cases q;exact W.kia_one W.kitx_float I.kIn True.intro e (λz=>nomatch z) h
 | @lst a k f=>
  cases (show u=Value.ref a from d)
  obtain ⟨_,_,n,_,g⟩:=(show xL X.prog X.w H s.heap a (.lst k) from I.hok a _ f)
  exact W.kia_one W.kitx_list I.kIn ⟨_,g,rfl⟩ e (λz=>nomatch z) h
 | @frz a B k f=>
  cases (show u=Value.ref a from d)
  obtain ⟨_,_,_,n,_,g⟩:=(show xL X.prog X.w H s.heap a (.frz B (.lst k)) from I.hok a _ f)
  exact W.kia_one W.kitx_list I.kIn ⟨_,g,rfl⟩ e (λz=>nomatch z) h
 | @tup a k f=>
  cases (show u=Value.ref a from d)
  obtain ⟨_,_,_,p⟩:=(show xL X.prog X.w H s.heap a (.tup k) from I.hok a _ f)
  obtain ⟨o,g,l,_⟩:=p
  exact W.kia_one W.kitx_tuple I.kIn ⟨o,g,l⟩ e (λz=>nomatch z) h
 | @dK a j f=>
  cases (show u=Value.ref a from d)
  obtain ⟨_,_,T,_,p⟩:=(show xL X.prog X.w H s.heap a (.dK j) from I.hok a _ f)
  obtain ⟨o,D,G,g,l,_⟩:=p
  exact W.kia_one W.kitx_dict I.kIn ⟨o,g,l.1⟩ e (λz=>nomatch z) h
 | @dT a j f=>
  cases (show u=Value.ref a from d)
  obtain ⟨_,_,k,_,o,D,G,g,l,_⟩:=(show xL X.prog X.w H s.heap a (.dT j) from I.hok a _ f)
  exact W.kia_one W.kitx_dict I.kIn ⟨o,g,l.1⟩ e (λz=>nomatch z) h
 | @ins a C U Y f r L M m N=>
  cases (show u=Value.ref a from d)
  obtain ⟨mA,O,_⟩:=p7 I.hok f
  obtain ⟨od,J,_⟩:=O.look
  exact W.kia_one (W.kitx_own (r.get _) r.hd L M m N) I.kIn J e (λz=>nomatch z) h
end
structure zZ (k:Nat) (A:Around):Prop where
 hd:A.handled=none
 dp:A.depth + 3 * k + 5 < recursionLimit
 un:A.units + 16 * k + 200 < cLine
theorem zZ.mono {j k:Nat} {A:Around} (r:zZ k A) (h:j <= k):zZ j A:=⟨r.hd,by have:=r.dp;omega,by have:=r.un;omega⟩
theorem zZ.deeper {k:Nat} {A:Around} (r:zZ (k + 1) A) (env:Env):zZ k (A.deeper env):=
 ⟨r.hd,by have:=r.dp;show A.depth + 1 + 3 * k + 5 < _;omega,by have:=r.un;show A.units + 3 + 16 * k + 200 < _;omega⟩
theorem fJ {A:Around} {C:Addr} {us:List Value} {a:List (Str × Value)}:(A.under (.builtin "type.__call__" ⟨.ref C :: us,a⟩)).depth=A.depth + 1:=by
 first | rfl | simp [Around.under,Code.weight,Code.isCreation,Code.isGuard,Code.isCaller,Code.frames,Code.isFrame,guardIds]
theorem fH {A:Around} {C:Addr} {us:List Value} {a:List (Str × Value)}:(A.under (.builtin "type.__call__" ⟨.ref C :: us,a⟩)).units=A.units + 1:=by
 first | rfl | simp [Around.under,Code.cUnits,Code.frames,Code.isFrame]
theorem zZ.make {k:Nat} {A:Around} (r:zZ (k + 1) A) (C:Addr) (us:List Value) (a:List (Str × Value)):zZ k (A.under (.builtin "type.__call__" ⟨.ref C :: us,a⟩)):=
 ⟨r.hd,by have:=r.dp;rw [fJ];omega,by have:=r.un;rw [fH];omega⟩
theorem zZ.depth {k:Nat} {A:Around} (r:zZ k A):A.depth < recursionLimit:=by have:=r.dp;omega
theorem zZ.units {k:Nat} {A:Around} (r:zZ k A):A.units + 64 < cLine:=by have:=r.un;omega
def rP:TA:=λ_ H Q=>Q [] H
def uC (b:TE) (c:TA):TA:=λa H Q=>b a H λx d=>c a d λe f=>Q (x :: e) f
section
variable {X:Cx} {e:Expr} {es:List Expr} {te:TE} {t:TA} {pos:Pos}
theorem zB:PA X [] rP:=λ_ _ _ _ H Q I h=>Calls.spliced_nil ⟨[],H,I,.nil,h⟩
theorem zA (d:PE X e te) (f:PA X es t) (g:starEach (e :: es) X.env=(false,eval e X.env) :: starEach es X.env:=by rfl):PA X (e :: es) (uC te t):=by
 intro pos b s c H Q I h
 rw [g]
 show wpAny _ _ (spliced ((false,eval e X.env) :: backTo pos (starEach es X.env))) _ _ s
 refine Calls.spliced_cons (thn (d b s c H _ I h) λu i a=>?_)
 obtain ⟨x,j,k,l,m⟩:=a
 exact thn (f pos b i c j _ k m) λv w ⟨n,o,p,q,r⟩=>⟨x :: n,o,p,.cons l q,r⟩
def zG4 (t:TA):TE:=λc H Q=>t c H λa b=>a.length <= sizeLine/\∀ p,b p=none->Q (.ref p) (upd b p (.tup a))
def jQ (t:TA):TE:=λc H Q=>t c H λa b=>a.length <= sizeLine/\∀ p,b p=none->Q (.ref p) (upd b p (.lst a))
theorem yH {g} (h:PA X es t):PE X (.Tuple es g pos) (zG4 t):=by
 intro i s j H Q I k
 refine wpAny_Tuple_spliced (thn (h pos i s j H _ I k) λl c a=>?_)
 obtain ⟨m,d,f,r,z,q⟩:=a
 refine ⟨by rw [<- r.length];exact z,?_⟩
 have n:d c.heap.objs.size=none:=f.hok.fresh (zMS _)
 refine ⟨.ref c.heap.objs.size,upd d c.heap.objs.size (.tup m),f.laid (t':=c.toks) (λb u e=>Heap.get?_push_of_some _ e) (zMS _) ?_,rfl,q _ n⟩
 exact ⟨z,l,r,⟨_,Heap.get?_push_size _ rfl,rfl,_,rfl⟩⟩
theorem yL (h:PA X es t):PE X (.List es pos) (jQ t):=by
 intro g s i H Q I j
 refine wpAny_List_spliced (thn (h pos g s i H _ I j) λk c a=>?_)
 obtain ⟨l,d,f,r,z,q⟩:=a
 refine ⟨by rw [<- r.length];exact z,?_⟩
 have m:d c.heap.objs.size=none:=f.hok.fresh (zMS _)
 refine ⟨.ref c.heap.objs.size,upd d c.heap.objs.size (.lst l),f.laid (t':=c.toks) (λb u e=>Heap.get?_push_of_some _ e) (zMS _) ?_,rfl,q _ m⟩
 exact ⟨z,k,0,r,Heap.get?_push_size _ rfl⟩
end
abbrev Sp:=List V->Hp->VK->XK->Prop
abbrev CXT:=List Env->Hp->Shared->XK->VSP
structure gD (P:Program) (w:World) (K:W.Frag) (mg:Str->Option Value) (base:Heap) (A:Around) (outer:List Env) (s:Shared) (H:Hp):Prop where
 frames:A.frames=some outer
 mod:Mod K mg base
 bs:∀ b o,base.get? b=some o->s.heap.get? b=some o/\H b=none
 bsz:base.objs.size <= s.heap.objs.size
 funs:s.heap.FunFrames base outer
 frf:∀ b ∈ frs outer,H b=none
 hok:HOk P w H s.heap
 bare:AllBare s.gens
def CE (a:List Env) (P:Program) (w:World) (H:Hp) (s:Shared) (Q:VK) (u:Value) (s':Shared):Prop:=
 ∃ v b,s'.os=s.os/\AllBare s'.gens/\Un (frs a) [] H b s.heap s'.heap/\HOk P w b s'.heap/\yX v u/\Q v b
def CR (CX:CXT) (a:List Env) (P:Program) (w:World) (H:Hp) (s:Shared) (Q:VK) (E:XK) (r:Result) (s':Shared):Prop:=
 match r with
 | .ok (.ret u)=>CE a P w H s Q u s'
 | .ok _=>False
 | .error e=>CX a H s E e s'
structure tH (P:Program) (w:World) (K:W.Frag) (mg:Str->Option Value) (base:Heap) (CX:CXT) (k:Nat) (f:Addr) (fd:FuncData) (ps:List Str) (sp:Sp):Prop where
 len:∀ vs H Q E,sp vs H Q E->vs.length=ps.length
 run:∀ (A:Around) (outer:List Env) (s:Shared) (H:Hp) (args:Args) (us:List Value) (vs:List V) (Q:VK) (E:XK),zZ k A->gD P w K mg base A outer s H->BindsTo s fd args (ps.zip us)->yO vs us->sp vs H Q E ->
  codeAny (model P w) A (.call (.ref f) args) (CR CX outer P w H s Q E) s
theorem gD.make {P:Program} {w:World} {K:W.Frag} {mg:Str->Option Value} {base:Heap} {A:Around} {a:List Env} {s:Shared} {H:Hp} (e:gD P w K mg base A a s H) (C:Addr) (us:List Value) (b:List (Str × Value)) :
  gD P w K mg base (A.under (.builtin "type.__call__" ⟨.ref C :: us,b⟩)) a s H:=⟨by first | exact e.frames | (simpa [Around.under,Code.envs,Code.isFrame,pushEnvs] using e.frames),e.mod,e.bs,e.bsz,e.funs,e.frf,e.hok,e.bare⟩
section
variable {X:Cx} {qp:LAO} {σ:St} {H:Hp} {s s':Shared}
theorem Inv.env0 (I:Inv X qp σ H s):gD X.prog X.w X.K X.mg X.base X.A X.stack s H:=
 ⟨I.ok.frames,I.ok.mod,I.bs,zMU I.ok.bsz I.sz,I.stack,I.stkFree,I.hok,I.bare⟩
theorem Inv.after {Q:VK} {u:Value} (I:Inv X qp σ H s) (h:CE X.stack X.prog X.w H s Q u s'):EP X qp σ Q u s':=by
 obtain ⟨v,e,os,bare,un,a,r,q⟩:=h
 obtain ⟨f,g,d,t,c⟩:=s'
 obtain rfl:c=s.os:=os
 exact ⟨v,e,I.call (h':=f) (g':=g) (d':=d) (t':=t) (ch:=[]) un a bare (λb z=>absurd z (by simp)),r,q⟩
end
def eF (sp:Sp) (a:List V) (E:XK) (t:TA):TE:=λb H Q=>t b H λc d=>sp (c ++ a) d Q E
def jP (C:Addr) (m:Str) (sp:Sp) (b:List V) (E:XK) (f:TE) (t:TA):TE:=λc H Q=>f c H λx d=>∃ a g e,x=.ref a/\d a=some (.ins C g e)/\e.lookup m=none /\
 t c d λh i=>sp (x :: (h ++ b)) i Q E
def zFS (C:Addr) (sp:Sp) (b:List V) (E:XK) (t:TA):TE:=λd H Q=>t d H λe c=>∀ x a,c x=none->c a=none->a ≠ x ->
 sp (.ref x :: (e ++ b)) (upd (upd c a (.own x)) x (.ins C a [])) (λv f=>v=.non/\Q (.ref x) f) E
def uV (K:W.Frag) (fd:FuncData) (ps:List Str) (ds:List Value):Prop:=
 ∀ (s:Shared) (a:List Value),K.In s.heap->(a ++ ds).length=ps.length->BindsTo s fd ⟨a,[]⟩ (ps.zip (a ++ ds))
theorem uV.all {K:W.Frag} {fd:FuncData} {ps:List Str} (h:∀ us:List Value,us.length=ps.length->bindArgs fd ⟨us,[]⟩=pure (ps.zip us)):uV K fd ps []:=λs us _ a=>by
 rw [List.append_nil] at a ⊢
 exact .of_eq (h us a)
def uT (CX:CXT) (X:Cx) (E:XK):Prop:=∀ (b:LAO) (c:St) (H:Hp) (s:Shared) (e:Value) (a:Shared),Inv X b c H s->CX X.stack H s E e a->X.xe e a
section
variable {X:Cx} {CX:CXT} {k:Nat} {f C:Addr} {fd:FuncData} {ps:List Str} {sp:Sp} {dvs:List V} {ds:List Value} {E:XK} {x m:Str} {p pos apos:Pos} {e o:Expr} {es:List Expr} {ta:TE} {t:TA}
theorem gY {b:LAO} {c:St} {H:Hp} {s:Shared} {Q:VK} {us:List Value} {vs:List V} (F:tH X.prog X.w X.K X.mg X.base CX k f fd ps sp) (g:zZ k X.A) (i:uV X.K fd ps ds) (hd:yO dvs ds) (hx:uT CX X E)
  (I:Inv X b c H s) (r:yO vs us) (h:sp (vs ++ dvs) H Q E):wpAny (model X.prog X.w) X.A (call (.ref f) us) (EP X b c Q) X.xe s:=by
 have d:yO (vs ++ dvs) (us ++ ds):=r.append hd
 have j:(us ++ ds).length=ps.length:=by rw [<- d.length];exact F.len _ _ _ _ h
 refine wpAny_call (codeAny_mono (F.run X.A X.stack s H ⟨us,[]⟩ (us ++ ds) (vs ++ dvs) Q E g I.env0 (i s us I.kIn j) d h) λr l a=>?_)
 cases r with
 | error e=>exact hx b c H s e l I a
 | ok n=>
  cases n with
  | ret u=>exact I.after a
  | next=>exact False.elim a
  | brk=>exact False.elim a
  | cont=>exact False.elim a
theorem dG (F:tH X.prog X.w X.K X.mg X.base CX k f fd ps sp) (i:zZ k X.A) (j:Gl X x) (l:X.mg x=some (.ref f)) (n:W.keepIn X.K (.ref f)=true) (u:uV X.K fd ps ds) (hd:yO dvs ds) (hx:uT CX X E)
  (v:PA X (e :: es) t) (b:(x == ("__debug__" : Str))=false:=by decide) (y:starEach (e :: es) X.env=(false,eval e X.env) :: starEach es X.env:=by rfl) (c:(backTo pos (starEach es X.env)).any (·.1)=false:=by rfl) :
  PE X (.Call (.Name x p) (e :: es) [] pos) (eF sp dvs E t):=by
 intro z s B H Q I h
 refine wpAny_Call_Name_kw (sP I j l ?_ b)
 refine W.callWith_K (h₀:=X.base) I.ok.mod.kin n (thn (v pos z s B H _ I h) λD G a=>?_) y c
 obtain ⟨J,L,g,r,q⟩:=a
 refine ⟨g.kIn,?_⟩
 exact gY F i u hd hx g r q
theorem dF {pl:Sem Bool} (L:PE X o ta) (c:Cls X.K C) (j:zDD X.K C m f) (F:tH X.prog X.w X.K X.mg X.base CX k f fd ps sp) (M:zZ k X.A) (N:uV X.K fd ps ds) (hd:yO dvs ds) (hx:uT CX X E) (O:PA X (e :: es) t)
  (g:starEach (e :: es) X.env=(false,eval e X.env) :: starEach es X.env:=by rfl) (i:(backTo pos (starEach es X.env)).any (·.1)=false:=by rfl)
  (T:eval (.Call (.Attribute o m apos) (e :: es) [] pos) X.env=(do
   let n <- eval o X.env
   standAt apos.atName
   let (f,first) <- holding [n] (getMethod n m pl)
   callWith pos f first (backTo pos (starEach (e :: es) X.env)) (backToKw pos (keywordEach [] X.env))):=by rfl) :
  PE X (.Call (.Attribute o m apos) (e :: es) [] pos) (jP C m sp dvs E ta t):=by
 intro v s y H Q I h
 refine W.methodCall_KW (pl:=pl) (thn (L v s y H _ I h) λu U b=>?_) T
 obtain ⟨x,Y,z,rx,a,dx,fs,ex,ea,l,q⟩:=b
 subst ex
 obtain rfl:u=Value.ref a:=rx
 refine nD z ea c j l ?_
 refine W.callWith_K (first:=[.ref a]) (h₀:=X.base) I.ok.mod.kin j.kp (thn (O pos v U y Y _ z q) λD s2 d=>?_) g i
 obtain ⟨G,H2,J,r,q2⟩:=d
 refine ⟨J.kIn,?_⟩
 exact gY (us:=.ref a :: D) (vs:=.ref a :: G) F M N hd hx J (.cons rfl r) q2
theorem zBC {pl:Sem Bool} (j:PE X o ta) (c:Cls X.K C) (g:zDD X.K C m f) (F:tH X.prog X.w X.K X.mg X.base CX k f fd ps sp) (n:zZ k X.A) (r:uV X.K fd ps ds) (hd:yO dvs ds) (hx:uT CX X E)
  (v:eval (.Call (.Attribute o m apos) [] [] pos) X.env=(do
   let i <- eval o X.env
   standAt apos.atName
   let (f,first) <- holding [i] (getMethod i m pl)
   callWith pos f first (backTo pos (starEach [] X.env)) (backToKw pos (keywordEach [] X.env))):=by rfl) :
  PE X (.Call (.Attribute o m apos) [] [] pos) (jP C m sp dvs E ta rP):=by
 intro y s z H Q I h
 refine W.methodCall_KW (pl:=pl) (thn (j y s z H _ I h) λu J b=>?_) v
 obtain ⟨x,L,d,B,a,M,N,D,G,l,q⟩:=b
 subst D
 obtain rfl:u=Value.ref a:=B
 refine nD d G c g l ?_
 exact W.callWith_K0 (first:=[.ref a]) d.kIn g.kp (gY (us:=[.ref a]) (vs:=[.ref a]) F n r hd hx d (.cons rfl .nil) q)
structure Mk (K:W.Frag) (C f:Addr):Prop where
 makes:W.makesIn K C=true
 init:W.findIn K (.ref C) "__init__"=some (some (.ref f))
 fn:W.isFn K (.ref f)=true
 kp:W.keepIn K (.ref C)=true
theorem zAW {c:LAO} {d:St} {H:Hp} {s:Shared} {Q:VK} {us:List Value} {vs:List V} (M:Mk X.K C f) (F:tH X.prog X.w X.K X.mg X.base CX k f fd ps sp) (j:zZ (k + 1) X.A) (l:uV X.K fd ps ds) (hd:yO dvs ds)
  (hx:uT CX X E) (I:Inv X c d H s) (r:yO vs us)
  (h:∀ x dx,H x=none->H dx=none->dx ≠ x->sp (.ref x :: (vs ++ dvs)) (upd (upd H dx (.own x)) x (.ins C dx [])) (λv n=>v=.non/\Q (.ref x) n) E) :
  wpAny (model X.prog X.w) X.A (call (.ref C) us) (EP X c d Q) X.xe s:=by
 have g:=h (s.heap.objs.size + 1) s.heap.objs.size (I.hok.fresh (Nat.le_succ _)) (I.hok.fresh (zMS _)) (zNA (Nat.lt_succ_self _))
 have b:=Inv.made (C:=C) I
 have i:yO (V.ref (s.heap.objs.size + 1) :: (vs ++ dvs)) (Value.ref (s.heap.objs.size + 1) :: (us ++ ds)):=.cons rfl (r.append hd)
 have q:(Value.ref (s.heap.objs.size + 1) :: us ++ ds).length=ps.length:=by
  have e:=i.length
  rw [F.len _ _ _ _ g] at e
  exact e.symm
 refine wpAny_call (zBV (f:=f) I.kIn M.makes M.init (beq_iff_eq.mp M.fn) (codeAny_mono (F.run _ X.stack _ _ ⟨Value.ref (s.heap.objs.size + 1) :: us,[]⟩ (Value.ref (s.heap.objs.size + 1) :: (us ++ ds)) _ _ E (j.make C us [])
  (b.env0.make C us []) (l _ (Value.ref (s.heap.objs.size + 1) :: us) b.kIn q) i g) λr y a=>?_))
 cases r with
 | error e=>exact hx c d _ _ e y b a
 | ok z=>
  cases z with
  | ret u=>
   obtain ⟨v,B,D,G,J,L⟩:=b.after a
   subst J
   exact ⟨G,⟨V.ref (s.heap.objs.size + 1),B,D,rfl,L⟩⟩
  | next=>exact False.elim a
  | brk=>exact False.elim a
  | cont=>exact False.elim a
theorem zEA (M:Mk X.K C f) (F:tH X.prog X.w X.K X.mg X.base CX k f fd ps sp) (i:zZ (k + 1) X.A) (j:Gl X x) (l:X.mg x=some (.ref C)) (n:uV X.K fd ps ds) (hd:yO dvs ds) (hx:uT CX X E)
  (u:PA X (e :: es) t) (b:(x == ("__debug__" : Str))=false:=by decide) (v:starEach (e :: es) X.env=(false,eval e X.env) :: starEach es X.env:=by rfl) (c:(backTo pos (starEach es X.env)).any (·.1)=false:=by rfl) :
  PE X (.Call (.Name x p) (e :: es) [] pos) (zFS C sp dvs E t):=by
 intro y s z H Q I h
 refine wpAny_Call_Name_kw (sP I j l ?_ b)
 refine W.callWith_K (h₀:=X.base) I.ok.mod.kin M.kp (thn (u pos y s z H _ I h) λB D a=>?_) v c
 obtain ⟨G,J,g,r,q⟩:=a
 refine ⟨g.kIn,?_⟩
 exact zAW M F i n hd hx g r q
end
section
variable {X:Cx} {CX:CXT} {k:Nat} {f C:Addr} {fd:FuncData} {ps ks:List Str} {sp:Sp} {E:XK} {x m:Str} {p pos apos kpos:Pos} {e o:Expr} {es:List Expr} {kws:List Keyword} {te ta:TE} {t tk:TA} {nm:Option Str}
variable {g:List Value->List Value->List Value} {gV:List V->List V->List V}
end
structure zM (N P:List Str) (sc:Scope):Prop where
 kind:sc.kind=.function
 co:sc.isCoroutine=false
 gen:sc.isGenerator=false
 nd:N.Nodup
 pre:N.take P.length=P
 par:∀ x ∈ P,sc.names.lookup x=some .local \/ sc.names.lookup x=some .cell
 nofree:∀ y ∈ sc.names,y.2 ≠ .free
theorem scm {N P:List Str} {sc:Scope} (a:sc.kind=.function:=by rfl) (b:sc.isCoroutine=false:=by rfl) (c:sc.isGenerator=false:=by rfl) (d:N.Nodup:=by decide +kernel) (e:N.take P.length=P:=by rfl) (f:∀ x ∈ P,sc.names.lookup x=some .local \/ sc.names.lookup x=some .cell:=by decide +kernel)
  (g:∀ y ∈ sc.names,y.2 ≠ .free:=by decide +kernel):zM N P sc:=⟨a,b,c,d,e,f,g⟩
theorem lD {kindOf:Str->Option NameKind} {x:Str}:∀ {a:List (Str × Value)} {m:Str->Option Value},(∀ v,(x,v) ∉ a)->bindL kindOf a m x=m x
 | [],_,_=>rfl
 | (n,v) :: r,m,h=>by
  unfold bindL
  rw [lD λw b=>h w (zMW _ b)]
  split
  ·have:x ≠ n:=by rintro rfl;exact h v zNC
   simp [this]
  ·rfl
theorem lF {kindOf:Str->Option NameKind} {x:Str}:∀ {a:List (Str × Value)} {m:Str->Option Value},(∀ v,(x,v) ∉ a)->bindC kindOf a m x=m x
 | [],_,_=>rfl
 | (n,v) :: r,m,h=>by
  unfold bindC
  rw [lF λw b=>h w (zMW _ b)]
  split
  ·rfl
  ·have:x ≠ n:=by rintro rfl;exact h v zNC
   simp [this]
theorem lE {kindOf:Str->Option NameKind} {x:Str} {v:Value}:∀ {P:List Str} {vs:List Value} {i:Nat} {m:Str->Option Value},P.Nodup->P[i]?=some x->vs[i]?=some v->kindOf x=some .local ->
  bindL kindOf (P.zip vs) m x=some v
 | [],_,_,_,_,h,_,_=>by simp at h
 | _ :: _,[],_,_,_,_,h,_=>by simp at h
 | p :: P,w :: vs,0,m,c,a,b,d=>by
  simp at a b;subst a;subst b
  show bindL kindOf ((p,w) :: P.zip vs) m p=_
  unfold bindL
  rw [lD λv e=>(List.nodup_cons.mp c).1 (List.of_mem_zip e).1,if_pos d]
  simp
 | p :: P,w :: vs,i + 1,m,c,a,b,d=>by
  show bindL kindOf ((p,w) :: P.zip vs) m x=_
  unfold bindL
  exact lE (i:=i) (List.nodup_cons.mp c).2 (by simpa using a) (by simpa using b) d
theorem lG {kindOf:Str->Option NameKind} {x:Str} {v:Value}:∀ {P:List Str} {vs:List Value} {i:Nat} {m:Str->Option Value},P.Nodup->P[i]?=some x->vs[i]?=some v->kindOf x ≠ some .local ->
  bindC kindOf (P.zip vs) m x=some v
 | [],_,_,_,_,h,_,_=>by simp at h
 | _ :: _,[],_,_,_,_,h,_=>by simp at h
 | p :: P,w :: vs,0,m,c,a,b,d=>by
  simp at a b;subst a;subst b
  show bindC kindOf ((p,w) :: P.zip vs) m p=_
  unfold bindC
  rw [lF λv e=>(List.nodup_cons.mp c).1 (List.of_mem_zip e).1,if_neg d]
  simp
 | p :: P,w :: vs,i + 1,m,c,a,b,d=>by
  show bindC kindOf ((p,w) :: P.zip vs) m x=_
  unfold bindC
  exact lG (i:=i) (List.nodup_cons.mp c).2 (by simpa using a) (by simpa using b) d
noncomputable def start (N:List Str) (vs:List V):St:=vs.map some ++ List.replicate (N.length - vs.length) none
noncomputable def uS (CX:CXT) (P:Program) (w:World) (K:W.Frag) (mg:Str->Option Value) (base:Heap) (N:List Str) (qual:Str) (scope:Scope) (f:Addr) (cd:Value) (A:Around) (outer:List Env) (s:Shared) (H:Hp) (E:XK):Cx where
 prog:=P
 w:=w
 K:=K
 mg:=mg
 base:=base
 A:=A.deeper (envOfC qual scope s.heap.objs.size f cd)
 N:=N
 s₀:=s
 H₀:=H
 env:=envOfC qual scope s.heap.objs.size f cd
 outer:=outer
 stack:=envOfC qual scope s.heap.objs.size f cd :: outer
 ex:=[]
 calm:=true
 fn:=λ_=>true
 pn:=[]
 xe:=λe s'=>wpAny (model P w) (A.deeper (envOfC qual scope s.heap.objs.size f cd)) (leaving (envOfC qual scope s.heap.objs.size f cd) e) (λ_ s''=>CX outer H s E e s'') (λe' s''=>CX outer H s E e' s'') s'
theorem i9 {sc:Scope} {n:Nat} {x:Str} (h:sc.names.lookup x=some .cell):∃ c,(cellsFrom n sc.names []).lookup x=some c:=by
 have q:=W.cellsFrom_some sc.names n [] (.inl h)
 exact Option.isSome_iff_exists.mp q
theorem m5 {CX:CXT} {P:Program} {w:World} {K:W.Frag} {mg:Str->Option Value} {base:Heap} {N ps:List Str} {g:Str} {scope:Scope} {f:Addr} {C:Value} {A:Around} {d:List Env} {s I:Shared} {H:Hp} {E:XK} {us:List Value} {vs:List V}
  (S:zM N ps scope) (hd:A.handled=none) (l:gD P w K mg base A d s H) (T:vs.length=ps.length) (r:yO vs us)
  (x:InCallC s s.heap.objs.size (bindL (envOfC g scope s.heap.objs.size f C).kindOf (ps.zip us) λ_=>none) (cellsFrom (s.heap.objs.size + 1) scope.names []) (bindC (envOfC g scope s.heap.objs.size f C).kindOf (ps.zip us) λ_=>none) I) :
  Inv (uS CX P w K mg base N g scope f C A d s H E) [] (start N vs) H I:=by
 have M:ps.length <= N.length:=by have:=congrArg List.length S.pre;rw [zM2] at this;omega
 obtain ⟨D,U,rfl,J⟩:=x.done
 have m:∀ b:Addr,b ∉ (uS CX P w K mg base N g scope f C A d s H E).ex:=λb z=>absurd (show b ∈ ([]:List Addr) from z) (by simp)
 refine ⟨⟨l.mod,S.kind,rfl,rfl,zMS _,λy z c D j=>?_,λy o=>?_,λy c _ h=>?_,λ_=>hd,Around.frames_deeper l.frames,.inr ⟨rfl,rfl⟩,λb z=>absurd z (m b),l.bs,l.bsz,λb _ _=>m b,λb z=>absurd z (m b),l.funs,l.frf⟩,
  rfl,l.bare,Un.kept J,⟨_,x.toInCall.ns,λi y v D j Y=>?_⟩,λy c h=>⟨_,x.cell y c h⟩,l.hok.fresh (zMS _),λy c h=>?_,λp t=>absurd (show p ∈ ([]:LAO) from t) (by simp),l.hok.kept J,?_⟩
 ·exact name_of_addr x.apart (PySem.mem_of_lookup D) (PySem.mem_of_lookup j)
 ·have o:scope.names.lookup y=some .cell \/ scope.names.lookup y=some .free:=o
  rcases o with o | o
  ·exact i9 o
  ·exact absurd rfl (S.nofree _ (PySem.mem_of_lookup o))
 ·exact Nat.le_of_lt (x.above y c (PySem.mem_of_lookup h))
 ·have G:i < vs.length:=by
   unfold start at j
   by_cases G:i < vs.length
   ·exact G
   ·rw [zM6 (by simpa using G)] at j
    rw [List.getElem?_replicate] at j
    split at j <;> cases j
  have O:vs[i]?=some v:=by
   unfold start at j
   rw [zM7 (by simpa using G),zMP] at j
   cases e:vs[i]? with
   | none=>rw [e] at j;cases j
   | some a=>rw [e] at j;cases j;rfl
  obtain ⟨u,L,Q⟩:=r.get O
  have t:ps[i]?=some y:=by
   rw [<- S.pre,List.getElem?_take_of_lt (by omega)];exact D
  have B:ps.Nodup:=by rw [<- S.pre];exact S.nd.sublist (List.take_sublist _ _)
  refine ⟨u,Q,?_⟩
  rcases S.par y (zMN t) with k | k
  ·exact .inl ⟨k,lE B t L k⟩
  ·obtain ⟨c,e⟩:=i9 (n:=s.heap.objs.size + 1) k
   refine .inr ⟨.inl k,c,e,?_⟩
   have q:=x.cell y c e
   rw [lG B t L (by show scope.names.lookup y ≠ _;rw [k];decide)] at q
   exact q
 ·exact l.hok.fresh (Nat.le_of_lt (x.above y c (PySem.mem_of_lookup h)))
 ·unfold start
  show _=N.length
  rw [zM1,zMJ,List.length_replicate]
  omega
theorem zGO {CX:CXT} {P:Program} {w:World} {K:W.Frag} {mg:Str->Option Value} {base:Heap} {k:Nat} {f:Addr} {name c:Str} {g:Arguments} {body:List Stmt} {scope:Scope} {T kV p pm d ct oc:Value} {U od:Option Addr}
  {C:Array (Option Value)} {N ps:List Str} {sp:Sp} (lk:K.lookup f=some ⟨oc,od,.func (W.fnOf name c g body scope T kV p pm U d ct),C⟩) (D:W.codeIn K d c=true) (S:zM N ps scope)
  (len:∀ vs H Q E,sp vs H Q E->vs.length=ps.length)
  (j:∀ (A:Around) (a:List Env) (s:Shared) (H:Hp) (vs:List V) (Q:VK) (E:XK),zZ k (A.deeper (envOfC c scope s.heap.objs.size f d))->sp vs H Q E ->
   ∃ t,PSs (uS CX P w K mg base N c scope f d A a s H E) body t/\t { nx:=λ_ i=>Q .non i,rt:=Q } (start N vs) H) :
  tH P w K mg base CX (k + 1) f (W.fnOf name c g body scope T kV p pm U d ct) ps sp:=by
 refine ⟨len,λA a s H args us vs Q E G z hb r B=>?_⟩
 have hl:=len _ _ _ _ B
 have Y:K.In s.heap:=z.mod.kin.keeps λb o e=>(z.bs b o e).1
 have L:s.heap.NoLimit:=z.mod.nolimit.keeps λb o e=>(z.bs b o e).1
 have l:∀ y ∈ ps.zip us,scope.names.lookup y.1=some .local \/ (scope.names.lookup y.1=some .cell/\((cellsFrom (s.heap.objs.size + 1) scope.names []).lookup y.1).isSome=true):=λ⟨n,v⟩ hy=>by
  rcases S.par n (List.of_mem_zip hy).1 with q | q
  ·exact .inl q
  ·exact .inr ⟨q,W.cellsFrom_some _ _ _ (.inl q)⟩
 refine codeAny_call_function G.depth (Y _ _ lk) rfl S.co S.gen rfl (W.codeRec_of Y D) (hb _ _ _ _ ?_)
 refine wpAny_newFunctionEnv_cells S.kind l λa0 he s1 x=>?_
 subst he
 refine ⟨L.keeps x.toInCall.keep,codeAny_func ?_⟩
 obtain ⟨t,ht,hq⟩:=j A a s H vs Q E (G.deeper _) B
 have I:Inv (uS CX P w K mg base N c scope f d A a s H E) [] (start N vs) H s1:=m5 S G.hd z hl r x
 refine wpAny_mono (ht [] s1 (start N vs) H _ I hq) (λfl M m=>?_) λe M m=>m
 have fin:∀ {h:St} {i:Hp} {v:V} {u:Value},Inv (uS CX P w K mg base N c scope f d A a s H E) [] h i M->yX v u->Q v i->CE a P w H s Q u M:=
  λ{h i v u} J O q=>⟨v,i,J.os,J.bare,J.base,J.hok,O,q⟩
 cases fl with
 | ret u=>
  obtain ⟨v,h,i,J,O,q⟩:=m
  exact fin J O q
 | next=>
  obtain ⟨h,i,J,q⟩:=m
  exact fin (v:=V.non) (u:=Value.none) J rfl q
 | brk=>
  obtain ⟨_,_,_,q⟩:=m
  exact False.elim q
 | cont=>
  obtain ⟨_,_,_,q⟩:=m
  exact False.elim q
section
variable {X:Cx} {x:Str} {p pos:Pos} {e:Expr} {es:List Expr} {t:TA} {id T:String} {r:List V->Hp->VK->Prop}
def tCB (r:List V->Hp->VK->Prop) (t:TA):TE:=λa H Q=>t a H λb c=>r b c Q
theorem zBE (f:vK X (.builtin id) r) (g:Gl X x) (i:X.mg x=none) (j:bootBuiltins x=some (.builtin id)) (k:PA X (e :: es) t) (l:x ≠ "__name__":=by decide) (a:(x == ("__debug__" : Str))=false:=by decide)
  (m:starEach (e :: es) X.env=(false,eval e X.env) :: starEach es X.env:=by rfl) (b:(backTo pos (starEach es X.env)).any (·.1)=false:=by rfl):PE X (.Call (.Name x p) (e :: es) [] pos) (tCB r t):=by
 intro c s d H Q I h
 refine wpAny_Call_Name_kw (rG I g i j ?_ l a)
 exact PyProof.Rows.callWith_builtin1 (thn (k pos c s d H _ I h) λn o ⟨q,u,v,w,y⟩=>f c o d u q n Q v w y) m b
theorem xE (f:vK X (.type T) r) (g:Gl X x) (i:X.mg x=none) (j:bootBuiltins x=some (.type T)) (k:PA X (e :: es) t) (l:x ≠ "__name__":=by decide) (a:(x == ("__debug__" : Str))=false:=by decide)
  (m:starEach (e :: es) X.env=(false,eval e X.env) :: starEach es X.env:=by rfl) (b:(backTo pos (starEach es X.env)).any (·.1)=false:=by rfl):PE X (.Call (.Name x p) (e :: es) [] pos) (tCB r t):=by
 intro c s d H Q I h
 refine wpAny_Call_Name_kw (rG I g i j ?_ l a)
 exact PyProof.Rows.callWith_type1 (thn (k pos c s d H _ I h) λn o ⟨q,u,v,w,y⟩=>f c o d u q n Q v w y) m b
end
end L2
namespace HT
open PySem PyProof.Rows
section
open PySem.SeqAt
open PySem.AutoSeq1 (wpAny_loadPart')
open PySem.MeetsSeq PySem.MeetsSeq2 PySem.MeetsSeq3
end
section
variable {prog:Program} {w:World} {A:Around} {E:Value->Shared->Prop} {s:Shared}
theorem cat_tup {t b:Addr} {vs a:List Value} {Q:Value->Shared->Prop} (q:IsTup s.heap t vs.toArray) (r:IsTup s.heap b a.toArray) (k:vs ≠ [])
  (u:a=[]->Q (.ref t) s) (v:a ≠ []->Q (.ref s.heap.objs.size) { s with heap:=s.heap.push { cls:=.type "tuple",data:=.seq (vs ++ a).toArray } })
  (hsz:vs.length + a.length <= sizeLine):wpAny (model prog w) A (binaryOp .Add (.ref t) (.ref b)) Q E s:=by
 obtain ⟨⟨cls,l,data,m⟩,i,o,n,hd⟩:=id q
 obtain ⟨⟨p,d,data2,f⟩,c,g,n2,h⟩:=id r
 simp only at o hd g h
 subst o hd g h
 have e:vs.toArray ++ a.toArray=(vs ++ a).toArray:=by simp
 by_cases j:a=[]
 ·exact concat_meets ⟨_,i,rfl⟩ ⟨_,c,rfl⟩ noFill_tuple_add seq_tuple_add F.slot_tuple_add F.entry_tuple_add (F.args_tuple_add_2 _ _)
   (tuple_addW1 t b vs.toArray a.toArray n n2 l d m f (by simpa using k) (by simp [j])) ⟨i,c,u j⟩
 ·refine concat_meets ⟨_,i,rfl⟩ ⟨_,c,rfl⟩ noFill_tuple_add seq_tuple_add F.slot_tuple_add F.entry_tuple_add (F.args_tuple_add_2 _ _)
   (tuple_addW2 t b vs.toArray a.toArray n n2 l d m f (by simpa using k) (by simpa using j) (by rw [zMR,zMR];exact hsz)) ⟨i,c,?_⟩
  rw [e]
  exact v j
noncomputable def sIx (n d:Nat):Option Int->Nat
 | none=>d
 | some v=>if v < 0 then (v + (n:Int)).toNat else min v.toNat n
theorem sIx_none (n d:Nat):sIx n d none=d:=rfl
theorem sIx_nat (n d k:Nat):sIx n d (some (k:Int))=min k n:=by
 show (if (k:Int) < 0 then ((k:Int) + (n:Int)).toNat else min (k:Int).toNat n)=min k n
 rw [if_neg (by omega),Int.toNat_natCast]
theorem sIx_le (n d:Nat) (hd:d <= n) (o:Option Int):sIx n d o <= n:=by
 cases o with
 | none=>exact hd
 | some v=>
  show (if v < 0 then (v + (n:Int)).toNat else min v.toNat n) <= n
  by_cases a:v < 0
  ·rw [if_pos a];omega
  ·rw [if_neg a];exact Nat.min_le_right _ _
theorem clip_eq (v:Int) (n d:Nat):(if v < 0 then max (v + (n:Int)) 0 else min v (n:Int))=((sIx n d (some v):Nat):Int):=by
 show (if v < 0 then max (v + (n:Int)) 0 else min v (n:Int))=(((if v < 0 then (v + (n:Int)).toNat else min v.toNat n):Nat):Int)
 by_cases a:v < 0
 ·simp only [if_pos a];omega
 ·simp only [if_neg a];omega
theorem adjust_gen (lo a:Option Int) (n:Nat):Builtin.Slice.sliceAdjust lo a 1 (n:Int)=(((sIx n 0 lo:Nat):Int),((sIx n n a:Nat):Int)):=by
 have b:¬ ((1:Int) < 0):=by omega
 unfold Builtin.Slice.sliceAdjust
 simp only [b,if_false]
 refine Prod.ext ?_ ?_
 ·cases lo with
  | none=>rfl
  | some v=>exact clip_eq v n 0
 ·cases a with
  | none=>rfl
  | some v=>exact clip_eq v n n
theorem places_gen (i j:Nat):Builtin.Slice.slicePlaces (i:Int) (j:Int) 1=j - i:=by
 unfold Builtin.Slice.slicePlaces
 have a:(1:Int) > 0:=by omega
 simp only [a,if_true,Int.ediv_one]
 split <;> omega
theorem slicePart_ {v:Value} {o:Option Int} {Q:Option Int->Shared->Prop} (p:IsPart v o) (h:Q o s):wpAny (model prog w) A (Builtin.Slice.slicePartIndex v) Q E s:=by
 cases p with
 | none=>exact slicePart_none h
 | int i t=>exact slicePart_int h
theorem sliceApplied_gen {f:Addr} {d e:Value} {lo a:Option Int} {n:Nat} {Q:Int × Int × Nat->Shared->Prop} (g:s.heap.IsSliceOf f d e .none) (pl:IsPart d lo) (i:IsPart e a)
  (h:Q (((sIx n 0 lo:Nat):Int),1,sIx n n a - sIx n 0 lo) s):wpAny (model prog w) A (Builtin.Slice.sliceApplied (.ref f) (pure (n:Int))) Q E s:=by
 obtain ⟨os,b,j,c⟩:=id g
 unfold Builtin.Slice.sliceApplied Builtin.Slice.sliceFields
 refine wpAny_bind (wpAny_bind (wpAny_field b c (x:=d) rfl (wpAny_bind (wpAny_field b c (x:=e) rfl (wpAny_bind (wpAny_field b c (x:=.none) rfl (wpAny_pure ?_)))))))
 refine wpAny_bind (slicePart_none ?_)
 show wpAny _ _ (if ((1:Int) == 0)=true then _ else _) _ _ s
 rw [if_neg (by decide)]
 refine wpAny_bind (slicePart_ pl (wpAny_bind (slicePart_ i (wpAny_bind (wpAny_pure ?_)))))
 show wpAny _ _ (match Builtin.Slice.sliceAdjust lo a 1 (n:Int) with | (lo,a)=>pure (lo,(1:Int),Builtin.Slice.slicePlaces lo a 1)) _ _ s
 rw [adjust_gen lo a n]
 show wpAny _ _ (pure (((sIx n 0 lo:Nat):Int),(1:Int),Builtin.Slice.slicePlaces ((sIx n 0 lo:Nat):Int) ((sIx n n a:Nat):Int) 1)) _ _ s
 rw [places_gen]
 exact wpAny_pure h
theorem pick_gen (xs:Array Value) (i k:Nat):((List.range k).filterMap λ(m:Nat)=>xs[((i:Int) + (m:Int) * 1).toNat]?).toArray=((xs.toList.drop i).take k).toArray:=by
 have e:(λ(m:Nat)=>xs[((i:Int) + (m:Int) * 1).toNat]?)=λm=>xs[i + m]?:=by
  funext m
  have:((i:Int) + (m:Int) * 1).toNat=i + m:=by omega
  rw [this]
 rw [e]
 have:=pick_run xs i k
 rw [List.filterMap_map] at this
 have a:((λx=>xs[x]?) ∘ λx=>i + x)=λm=>xs[i + m]?:=rfl
 rw [a] at this
 rw [this]
theorem getItem_tuple_cut {t d:Addr} {items:Array Value} {j k:Value} {lo b:Option Int} {Q:Value->Shared->Prop} (c:IsTup s.heap t items) (l:s.heap.IsSliceOf d j k .none) (pl:IsPart j lo) (n:IsPart k b)
  (o:¬ (sIx items.size 0 lo=0/\sIx items.size items.size b=items.size))
  (h:Q (.ref s.heap.objs.size) { s with heap:=s.heap.push { cls:=.type "tuple",data:=.seq ((items.toList.drop (sIx items.size 0 lo)).take (sIx items.size items.size b - sIx items.size 0 lo)).toArray } })
  (hsz:items.size <= sizeLine):wpAny (model prog w) A (getItem (.ref t) (.ref d)) Q E s:=by
 have a:sizeOk (.seq ((items.toList.drop (sIx items.size 0 lo)).take (sIx items.size items.size b - sIx items.size 0 lo)).toArray):=by
  show ((items.toList.drop (sIx items.size 0 lo)).take (sIx items.size items.size b - sIx items.size 0 lo)).toArray.size <= sizeLine
  rw [zMR,zM2,List.length_drop,Array.length_toList]
  omega
 have r:sIx items.size items.size b <= items.size:=sIx_le _ _ (zMS _) b
 obtain ⟨os,e,f,p⟩:=id l
 have g:s.TypeIs (.ref d) "slice":=⟨os,e,f⟩
 unfold getItem
 try with_reducible refine wpAny_holding ?_
 first | refine wpAny_bind (wpAny_pure ?_) | skip
 refine wpAny_bind (wpAny_sequenceKey c.typeIs (by decide) ?_)
 refine wpAny_bind (wpAny_callSpecial?_slot (name:=Str.ofString "__getitem__") c.typeIs PyProof.Rows.slot_tuple_getitem
  (wpAny_call_entry PyProof.Rows.slot_tuple_getitem c.typeIs entry_tuple_getitem ?_ (args_tuple_getitem _ _)))
 show wpAny _ _ (Builtin.Tuple.tupleItemsOf (.ref t) >>= _) _ _ s
 refine wpAny_bind (tupleItemsOf_ c ?_)
 refine wpAny_bind (wpAny_typeOf g ?_)
 rw [if_pos (by decide)]
 refine wpAny_bind (sliceApplied_gen l pl n ?_)
 have i:¬ ((((sIx items.size 0 lo:Nat):Int) == 0 && (1:Int) == 1 && (sIx items.size items.size b - sIx items.size 0 lo) == items.size)=true):=by
  intro q
  rw [Bool.and_eq_true,Bool.and_eq_true] at q
  have u:((sIx items.size 0 lo:Nat):Int)=0:=eq_of_beq q.1.1
  have v:sIx items.size items.size b - sIx items.size 0 lo=items.size:=eq_of_beq q.2
  exact o ⟨by omega,by omega⟩
 show wpAny _ _ (if (((sIx items.size 0 lo:Nat):Int) == 0 && (1:Int) == 1 && (sIx items.size items.size b - sIx items.size 0 lo) == items.size)=true then _ else _) _ _ s
 rw [if_neg i,pick_gen]
 first
  | exact wpAny_bind (m:=Builtin.Tuple.tupleExact _) (wpAny_newObj_type (wpAny_pure ⟨_,rfl,wpAny_pure h⟩) a)
  | exact wpAny_bind (m:=Builtin.Tuple.tupleExact _) (wpAny_newObj_type (wpAny_bind (wpAny_pure (wpAny_pure ⟨_,rfl,wpAny_pure h⟩))) a)
  | exact wpAny_bind (wpAny_bind (m:=Builtin.Tuple.tupleExact _) (wpAny_newObj_type (wpAny_pure (wpAny_pure ⟨_,rfl,wpAny_pure h⟩)) a))
  | exact wpAny_bind (wpAny_bind (m:=Builtin.Tuple.tupleExact _) (wpAny_newObj_type (wpAny_pure ⟨_,rfl,wpAny_pure h⟩) a))
end
end HT
namespace L2
open PySem PySem.Spec PyProof.Rows
abbrev TO:=St->Hp->(Option Int->Hp->Prop)->Prop
def PO (X:Cx) (e:Option Expr) (t:TO):Prop:=
 ∀ (b:LAO) (s:Shared) (a:St) (H:Hp) (Q:Option Int->Hp->Prop),Inv X b a H s->t a H Q ->
  wpAny (model X.prog X.w) X.A (evalPart e X.env) (λu d=>∃ o c,Inv X b a c d/\IsPart u o/\Q o c) X.xe s
noncomputable def lQ:TO:=λ_ H Q=>Q none H
noncomputable def aM (t:TE):TO:=λa H Q=>t a H λx b=>∃ i,x=.int i/\Q (some i) b
section
variable {X:Cx} {e:Expr} {te:TE} {lo hi:Option Expr} {tl th:TO} {pos p2:Pos}
theorem wZ:PO X none lQ:=by
 intro a s b H Q I h
 rw [evalPart_none]
 exact wpAny_pure ⟨none,H,I,.none,h⟩
theorem xW (h:PE X e te):PO X (some e) (aM te):=by
 intro b s c H Q I d
 rw [evalPart_some]
 refine thn (h b s c H _ I d) λu l a=>?_
 obtain ⟨x,f,g,j,k⟩:=a
 obtain ⟨i,rfl,q⟩:=k
 obtain ⟨t,rfl⟩:=j
 exact ⟨some i,f,g,.int i t,q⟩
def SlR (X:Cx) (r:V->Option Int->Option Int->Hp->VK->Prop):Prop:=
 ∀ (a:LAO) (s:Shared) (b:St) (H:Hp) (x:V) (v c d:Value) (lo hi:Option Int) (f:Addr) (Q:VK),Inv X a b H s->yX x v->s.heap.IsSliceOf f c d .none->IsPart c lo->IsPart d hi->r x lo hi H Q ->
  ∃ T id,typeLookup (.type T) "__getitem__"=pure (some (.builtin id))/\s.TypeIs v T/\wpAny (model X.prog X.w) X.A (getItem v (.ref f)) (EP X a b Q) X.xe s
def tSl (r:V->Option Int->Option Int->Hp->VK->Prop) (te:TE) (tl th:TO):TE:=λa H Q=>te a H λx b=>tl a b λl c=>th a c λu d=>r x l u d Q
theorem xT {r:V->Option Int->Option Int->Hp->VK->Prop} (n:SlR X r) (o:PE X e te) (p:PO X lo tl) (t:PO X hi th):PE X (.Subscript e (.Slice lo hi none p2) pos) (tSl r te tl th):=by
 intro c s d H Q I h
 refine Subscript_ (thn (o c s d H _ I h) λv y f=>?_)
 obtain ⟨x,z,B,C,D⟩:=f
 refine wpAny_Slice (thn (p c y d z _ B D) λj E g=>?_)
 obtain ⟨l,G,J,L,M⟩:=g
 refine thn (t c E d G _ J M) λk a i=>?_
 obtain ⟨u,m,N,O,U⟩:=i
 rw [evalPart_none]
 refine wpAny_pure ?_
 have Y:Inv X c d m { a with heap:=a.heap.push { cls:=.type "slice",data:=.fields #[j,k,.none] } }:=N.kept (t':=a.toks) λb ob q=>Heap.get?_push_of_some _ q
 obtain ⟨T,id,hT,ht,hg⟩:=n c { a with heap:=a.heap.push { cls:=.type "slice",data:=.fields #[j,k,.none] } } d m x v j k l u a.heap.objs.size Q Y C (Heap.IsSliceOf.new ..) L O U
 show wpAny (model X.prog X.w) X.A (subscriptTail e (.Slice lo hi none p2) v (.ref a.heap.objs.size)) (EP X c d Q) X.xe { a with heap:=a.heap.push { cls:=.type "slice",data:=.fields #[j,k,.none] } }
 exact tail_any (ops:=[.ref a.heap.objs.size,v]) ht hT hg (by with_unfolding_all rfl)
noncomputable def vI (xs:List V) (lo hi:Option Int):List V:=(xs.drop (HT.sIx xs.length 0 lo)).take (HT.sIx xs.length xs.length hi - HT.sIx xs.length 0 lo)
theorem sE (xs:List V) (lo hi:Option Int):(vI xs lo hi).length <= xs.length:=by
 unfold vI
 rw [zM2,List.length_drop]
 omega
def rSlT (K:W.Frag):V->Option Int->Option Int->Hp->VK->Prop:=λx lo hi H Q=>∃ a b,x=.ref a/\SqT K H a b /\
 ¬ (HT.sIx b.length 0 lo=0/\HT.sIx b.length b.length hi=b.length)/\∀ p,H p=none->Q (.ref p) (upd H p (.tup (vI b lo hi)))
theorem zHC:SlR X (rSlT X.K):=by
 intro t s u H x v w y lo hi z Q I j k l m h
 obtain ⟨a,d,rfl,n,p,q⟩:=h
 cases j
 obtain ⟨f,r,g,i⟩:=I.tuple n
 have c:f.toArray.size=d.length:=by rw [zMR];exact r.length.symm
 refine ⟨"tuple",_,PyProof.Rows.slot_tuple_getitem.lookup,g.typeIs,?_⟩
 refine HT.getItem_tuple_cut g k l m (by rw [c];exact p) ?_ (by rw [c];exact i)
 rw [c]
 refine ⟨.ref s.heap.objs.size,_,I.laid (t':=s.toks) (o:=.tup (vI d lo hi)) (λb B q=>Heap.get?_push_of_some _ q) (zMS _) ?_,rfl,q _ (I.hok.fresh (zMS _))⟩
 exact ⟨zMU (sE d lo hi) i,_,(r.drop (HT.sIx d.length 0 lo)).take (HT.sIx d.length d.length hi - HT.sIx d.length 0 lo),IsTup.new _ _⟩
def zA1 (K:W.Frag):R2:=λx y H Q=>∃ a b d c,x=.ref a/\y=.ref b/\SqT K H a d/\SqT K H b c/\d ≠ []/\d.length + c.length <= sizeLine /\
 (c=[]->Q (.ref a) H)/\(c ≠ []->∀ p,H p=none->Q (.ref p) (upd H p (.tup (d ++ c))))
theorem yO.nil_iff {xs:List V} {us:List Value} (r:yO xs us):us=[] ↔ xs=[]:=by
 cases r with
 | nil=>simp
 | cons _ _=>simp
theorem dL:OpR X (binaryOp .Add) (zA1 X.K):=by
 intro C s D H x y v u Q I i j h
 obtain ⟨a,b,k,l,rfl,rfl,m,n,p,f,r,t⟩:=h
 cases i
 cases j
 obtain ⟨A,d,B,_⟩:=I.tuple m
 obtain ⟨g,c,p2,_⟩:=I.tuple n
 refine HT.cat_tup B p2 (λz=>p (d.nil_iff.mp z)) (λz=>⟨.ref a,H,I,rfl,r (c.nil_iff.mp z)⟩) (λz=>?_) (by rw [<- d.length,<- c.length];exact f)
 refine ⟨.ref s.heap.objs.size,_,I.laid (t':=s.toks) (o:=.tup (k ++ l)) (λb G q=>Heap.get?_push_of_some _ q) (zMS _) ?_,rfl,t (λw=>z (c.nil_iff.mpr w)) _ (I.hok.fresh (zMS _))⟩
 exact ⟨by rw [zM1];exact f,_,d.append c,IsTup.new _ _⟩
end
noncomputable def ixN (n:Nat) (i:Int):Option Nat:=if 0 <= i then (if i < n then some i.toNat else none) else if -(n:Int) <= i then some (i + n).toNat else none
noncomputable def atI {a:Type} (xs:List a) (i:Int):Option a:=(ixN xs.length i).bind λj=>xs[j]?
theorem dY {n:Nat} {i:Int} {j:Nat} (h:ixN n i=some j):seqIndex? i n=some j/\j < n/\-(n:Int) <= i/\i < n:=by
 unfold ixN at h
 by_cases b:0 <= i
 ·rw [if_pos b] at h
  by_cases a:i < n
  ·rw [if_pos a] at h
   have e:i.toNat=j:=zMQ h
   exact ⟨by rw [seqIndex_of b a,e],by omega,by omega,a⟩
  ·rw [if_neg a] at h;cases h
 ·rw [if_neg b] at h
  by_cases a:-(n:Int) <= i
  ·rw [if_pos a] at h
   have e:(i + n).toNat=j:=zMQ h
   exact ⟨by rw [seqIndex_neg (by omega) a,e],by omega,a,by omega⟩
  ·rw [if_neg a] at h;cases h
theorem jG {a:Type} {xs:List a} {i:Int} {v:a} (h:atI xs i=some v):∃ j,seqIndex? i xs.length=some j/\xs[j]?=some v/\j < xs.length/\-(xs.length:Int) <= i/\i < xs.length:=by
 unfold atI at h
 cases e:ixN xs.length i with
 | none=>rw [e] at h;cases h
 | some j=>
  rw [e] at h
  obtain ⟨b,c,d,f⟩:=dY e
  exact ⟨j,b,h,c,d,f⟩
theorem uI {a:Type} {xs:List a} {j:Nat} {v:a} (h:xs[j]?=some v):atI xs (j:Int)=some v:=by
 have b:j < xs.length:=(zML.mp h).1
 have e:ixN xs.length (j:Int)=some j:=by
  unfold ixN
  rw [if_pos (by omega),if_pos (by omega)];simp
 unfold atI;rw [e];exact h
def zFN (b:Expr):Prop:=∀ o i,subscripted b false o i=operate [o,i] (getItem o i)
def IxR (X:Cx) (r:R2):Prop:=
 ∀ (value slice:Expr) (a:LAO) (s:Shared) (b:St) (H:Hp) (x y:V) (v u:Value) (Q:VK),Inv X a b H s->yX x v->yX y u->r x y H Q ->
  subscripted slice false v u=operate [v,u] (getItem v u)->wpAny (model X.prog X.w) X.A (subscriptTail value slice v u) (EP X a b Q) X.xe s
def MtR (X:Cx) (id:String) (r:V->List V->Hp->VK->Prop):Prop:=
 ∀ (a:LAO) (s:Shared) (b:St) (H:Hp) (x:V) (c:List V) (v:Value) (d:List Value) (Q:VK),Inv X a b H s->yX x v->yO c d->r x c H Q ->
  wpAny (model X.prog X.w) X.A (call (.builtin id) (v :: d)) (EP X a b Q) X.xe s
section
variable {X:Cx} {a b:Expr} {ta tb:TE} {pos:Pos}
theorem IxR.or {r c:R2} (h:IxR X r) (h':IxR X c):IxR X (λx y H Q=>r x y H Q \/ c x y H Q):=by
 intro value slice d s e H x y v u Q I f g q i
 rcases q with q | q
 ·exact h value slice d s e H x y v u Q I f g q i
 ·exact h' value slice d s e H x y v u Q I f g q i
theorem zS {r:R2} (c:IxR X r) (d:PE X a ta) (e:PE X b tb) (f:zFN b):PE X (.Subscript a b pos) (tOp r ta tb):=by
 intro g s i H Q I h
 exact Subscript_ (zI2 d e I h λv u j x y k l m n q=>c a b g j i k x y v u Q l m n q (f _ _))
def rIxL (K:W.Frag):R2:=λx y H Q=>∃ p c i v,x=.ref p/\y=.int i/\SqL K H p c/\atI c i=some v/\Q v H
def rIxT (K:W.Frag):R2:=λx y H Q=>∃ p c i v,x=.ref p/\y=.int i/\SqT K H p c/\atI c i=some v/\Q v H
def rIxS:R2:=λx y H Q=>∃ z i c,x=.str z/\y=.int i/\z.length <= sizeLine/\atI z.cps.toList i=some c/\Q (.str ⟨#[c]⟩) H
theorem dX:IxR X (rIxL X.K):=by
 intro value slice k s l H x y v u Q I A B h m
 obtain ⟨p,N,i,z,rfl,rfl,C,D,q⟩:=h
 cases A
 obtain ⟨t,rfl⟩:=B
 obtain ⟨d,r,e,O⟩:=I.list C
 obtain ⟨j,c,E,T,G,J⟩:=jG D
 obtain ⟨w,n,f⟩:=r.get E
 have L:=r.length
 have U:=qT
 have fin:EP X k l Q w s:=⟨z,H,I,f,q⟩
 by_cases o:0 <= i
 ·have g:i.toNat=j:=by
   rw [seqIndex_of o J] at c
   exact zMQ c
  exact item_listR e.isList o (by omega) (by rw [g];simpa using n) fin m
 ·have g:(i + (d.toArray.size:Int)).toNat=j:=by
   rw [seqIndex_neg (by omega) G] at c
   rw [zMR,<- L]
   exact zMQ c
  exact subscriptTail_builtinR (x:=w) e.isList.typeIs slot_list_getitem.lookup
   (wpAny_getItem_list_neg (Q:=λr M=>r=w/\EP X k l Q r M) e.isList (by omega) (by rw [zMR] <;> omega) (by omega) (by rw [g];simpa using n) ⟨rfl,fin⟩) m
theorem zIR:IxR X (rIxT X.K):=by
 intro value slice d s e H x y v u Q I g k h l
 obtain ⟨p,G,i,z,rfl,rfl,m,n,q⟩:=h
 cases g
 obtain ⟨t,rfl⟩:=k
 obtain ⟨o,r,f,J⟩:=I.tuple m
 obtain ⟨j,A,B,L,M,N⟩:=jG n
 obtain ⟨w,C,c⟩:=r.get B
 have D:=r.length
 have O:=qT
 have fin:EP X d e Q w s:=⟨z,H,I,c,q⟩
 exact subscriptTail_builtinR (x:=w) f.typeIs slot_tuple_getitem.lookup
  (getItem_tuple (j:=j) (Q:=λr E=>r=w/\EP X d e Q r E) f (by omega) (by omega) (by rw [zMR,<- D];exact A) (by simpa using C) ⟨rfl,fin⟩) l
theorem fM:IxR X rIxS:=by
 intro value slice w s A H x y v u Q I e f h g
 obtain ⟨z,i,c,rfl,rfl,B,k,q⟩:=h
 obtain ⟨t,rfl⟩:=e
 obtain ⟨C,rfl⟩:=f
 obtain ⟨j,d,l,D,m,n⟩:=jG k
 have o:z.cps.toList.length=z.length:=by simp [Str.length]
 rw [o] at d m n
 have E:=qT
 exact tail_any (typeIs_str s z t) slot_str_getitem.lookup (getItem_str (c:=c) (by
  have p:decide (i < -(2 ^ 63:Int))=false:=zMZ (by omega)
  have r:decide (i >= 2 ^ 63)=false:=zMZ (by omega)
  rw [p,r,Bool.or_false]) (by rw [d];simpa using l) ⟨.str ⟨#[c]⟩,H,I.tok _,⟨_,rfl⟩,q⟩) g
theorem fG (its:List Value) (n j:Nat) (u:Value):Obj.mapSeq (·.setIfInBounds j u) { cls:=.type "list",data:=.seq its.toArray n } = { cls:=.type "list",data:=.seq (its.set j u).toArray n }:=by
 simp [Obj.mapSeq]
theorem Inv.lst {c:LAO} {d:St} {H:Hp} {s:Shared} {p:Addr} {xs:List V} (I:Inv X c d H s) (h:H p=some (.lst xs)) :
  ∃ (its:List Value) (n:Nat),yO xs its/\s.heap.get? p=some { cls:=.type "list",data:=.seq its.toArray n }/\xs.length <= sizeLine:=by
 obtain ⟨z,its,n,r,e⟩:=I.hok p _ h
 exact ⟨its,n,r,e,z⟩
theorem Inv.lstUpd {d:LAO} {g:St} {H:Hp} {s:Shared} {p:Addr} {xs ys:List V} {its its':List Value} {n c:Nat} {f:Obj->Obj} (I:Inv X d g H s) (h:H p=some (.lst xs))
  (j:s.heap.get? p=some { cls:=.type "list",data:=.seq its.toArray n }) (i:f { cls:=.type "list",data:=.seq its.toArray n } = { cls:=.type "list",data:=.seq its'.toArray c }) (r:yO ys its') (hz:ys.length <= sizeLine) (t:Nat) :
  Inv X d g (upd H p (.lst ys)) { s with heap:=s.heap.update p f,toks:=t }:=by
 have e:(s.heap.update p f).get? p=some { cls:=.type "list",data:=.seq its'.toArray c }:=by
  rw [Heap.get?_update_self f j (by rw [i] <;> rfl),i]
 refine I.write (x:=p) (e:=p) (by rw [h];trivial) (.inl rfl) (λb u k q=>(Heap.get?_update_other _ _ (Ne.symm k)).trans q) ⟨_,e⟩ ?_
 exact ⟨hz,its',c,r,e⟩
def zGC:V->V->V->Hp->(Hp->Prop)->Prop:=λo i v H Q=>∃ p c k j,o=.ref p/\i=.int k/\H p=some (.lst c)/\ixN c.length k=some j/\Q (upd H p (.lst (c.set j v)))
theorem jX:zMF X zGC:=by
 intro z s A H o i v L M u Q I B C D h
 obtain ⟨p,E,k,j,rfl,rfl,l,G,q⟩:=h
 cases B
 obtain ⟨t,rfl⟩:=C
 obtain ⟨c,n,r,e,J⟩:=I.lst l
 obtain ⟨d,N,m,w⟩:=dY G
 have f:=r.length
 have O:=qT
 have x:Inv X z A (upd H p (.lst (E.set j v))) { s with heap:=s.heap.update p (Obj.mapSeq (·.setIfInBounds j u)) }:=
  I.lstUpd l e (fG c n j u) (r.set D j) (by rw [zNK];exact J) s.toks
 by_cases y:0 <= k
 ·have g:k.toNat=j:=by
   rw [seqIndex_of y w] at d
   exact zMQ d
  exact W.ki_setAt e y (by omega) (by rw [zMR,<- f];exact w) (by rw [g];exact ⟨_,x,q⟩)
 ·have g:(k + (c.toArray.size:Int)).toNat=j:=by
   rw [seqIndex_neg (by omega) m] at d
   rw [zMR,<- f]
   exact zMQ d
  exact W.ki_setBack e (by omega) (by rw [zMR,<- f];exact m) (by omega) (by rw [g];exact ⟨_,x,q⟩)
theorem lV (lo c:Option Int) (n:Nat):(sliceBounds lo c none n).1=((HT.sIx n 0 lo:Nat):Int)/\(sliceBounds lo c none n).2.1=((HT.sIx n n c:Nat):Int)/\(sliceBounds lo c none n).2.2=1:=by
 refine ⟨?_,?_,rfl⟩
 ·cases lo with
  | none=>simp [sliceBounds,HT.sIx]
  | some i=>
   simp only [sliceBounds,HT.sIx,Option.getD_none,show (1:Int) > 0 by decide,if_true]
   by_cases h:i < 0
   ·simp only [h,if_true] <;> omega
   ·simp only [h,if_false] <;> omega
 ·cases c with
  | none=>simp [sliceBounds,HT.sIx]
  | some i=>
   simp only [sliceBounds,HT.sIx,Option.getD_none,show (1:Int) > 0 by decide,if_true]
   by_cases h:i < 0
   ·simp only [h,if_true] <;> omega
   ·simp only [h,if_false] <;> omega
theorem nZ (its:List Value) (lo c:Option Int):slicePick its.toArray lo c none=((its.drop (HT.sIx its.length 0 lo)).take (HT.sIx its.length its.length c - HT.sIx its.length 0 lo)).toArray:=by
 obtain ⟨d,e,f⟩:=lV lo c its.toArray.size
 unfold slicePick
 rw [d,e,f]
 simp only [sliceRange_one,pick_run,zMR] <;> rfl
def zHN (K:W.Frag):V->Option Int->Option Int->Hp->VK->Prop:=λx lo d H Q=>∃ a c,x=.ref a/\SqL K H a c/\∀ p,H p=none->Q (.ref p) (upd H p (.lst (vI c lo d)))
theorem sK:SlR X (zHN X.K):=by
 intro p s t H x v u w lo e y Q I g i j k h
 obtain ⟨a,c,rfl,l,q⟩:=h
 cases g
 obtain ⟨m,r,f,n⟩:=I.list l
 have d:=r.length
 refine ⟨"list",_,slot_list_getitem.lookup,f.isList.typeIs,?_⟩
 refine wpAny_getItem_list_slice f.isList i j k .none (by simp) ?_ (by rw [zMR] <;> omega)
 rw [nZ,<- d]
 refine ⟨.ref s.heap.objs.size,_,I.laid (t':=s.toks) (o:=.lst (vI c lo e)) (λb A q=>Heap.get?_push_of_some _ q) (zMS _) ?_,rfl,q _ (I.hok.fresh (zMS _))⟩
 exact ⟨zMU (sE c lo e) n,_,0,(r.drop (HT.sIx c.length 0 lo)).take (HT.sIx c.length c.length e - HT.sIx c.length 0 lo),Heap.get?_push_size _ rfl⟩
noncomputable def xD:V->Bool
 | .non=>true
 | .bl _=>true
 | .int _=>true
 | .str _=>true
 | _=>false
noncomputable def eqV:V->V->Bool
 | .non,.non=>true
 | .bl a,.bl b=>a == b
 | .bl a,.int b=>(if a then 1 else 0) == b
 | .int a,.bl b=>a == (if b then 1 else 0)
 | .int a,.int b=>a == b
 | .str a,.str b=>a == b
 | _,_=>false
theorem fT {A:Around} {s:Shared} {y x:V} {u v:Value} (e:yX y u) (c:yX x v) (g:xD y=true) (f:xD x=true):SeqAt.EqAt A s u v (eqV y x):=by
 cases y with
 | non=>
  cases e
  cases x with
  | non=>cases c;exact SeqAt.EqAt.same _
  | bl b=>cases c;exact SeqAt.EqAt.none_bool b
  | int b=>obtain ⟨t,rfl⟩:=c;exact SeqAt.EqAt.none_int b t
  | str b=>obtain ⟨t,rfl⟩:=c;exact SeqAt.EqAt.none_str b t
  | _=>exact absurd (show false=true from f) zNB
 | bl a=>
  cases e
  cases x with
  | non=>cases c;exact SeqAt.EqAt.bool_none a
  | bl b=>cases c;exact SeqAt.EqAt.bool_bool a b
  | int b=>obtain ⟨t,rfl⟩:=c;exact SeqAt.EqAt.bool_int a b t
  | str b=>obtain ⟨t,rfl⟩:=c;exact SeqAt.EqAt.bool_str a b t
  | _=>exact absurd (show false=true from f) zNB
 | int a=>
  obtain ⟨d,rfl⟩:=e
  cases x with
  | non=>cases c;exact SeqAt.EqAt.int_none a d
  | bl b=>cases c;exact SeqAt.EqAt.int_bool a d b
  | int b=>obtain ⟨t,rfl⟩:=c;exact SeqAt.EqAt.int_int a d b t
  | str b=>obtain ⟨t,rfl⟩:=c;exact SeqAt.EqAt.int_str a d b t
  | _=>exact absurd (show false=true from f) zNB
 | str a=>
  obtain ⟨d,rfl⟩:=e
  cases x with
  | non=>cases c;exact SeqAt.EqAt.str_none a d
  | bl b=>cases c;exact SeqAt.EqAt.str_bool a d b
  | int b=>obtain ⟨t,rfl⟩:=c;exact SeqAt.EqAt.str_int a d b t
  | str b=>obtain ⟨t,rfl⟩:=c;exact SeqAt.EqAt.str_str a d b t
  | _=>exact absurd (show false=true from f) zNB
 | _=>exact absurd (show false=true from g) zNB
noncomputable def eqU (x:V) (u:Value):Bool:=match u with
 | .none=>eqV .non x
 | .bool b=>eqV (.bl b) x
 | .int i _=>eqV (.int i) x
 | .str z _=>eqV (.str z) x
 | _=>false
theorem zCM {x y:V} {u:Value} (r:yX y u) (f:xD y=true):eqU x u=eqV y x:=by
 cases y with
 | non=>cases r;rfl
 | bl b=>cases r;rfl
 | int i=>obtain ⟨t,rfl⟩:=r;rfl
 | str z=>obtain ⟨t,rfl⟩:=r;rfl
 | _=>exact absurd (show false=true from f) zNB
theorem qD {x:V}:∀ {xs:List V} {us:List Value},yO xs us->xs.all xD=true->us.any (eqU x)=xs.any λy=>eqV y x
 | _,_,.nil,_=>rfl
 | y :: xs,u :: us,.cons r t,f=>by
  rw [List.all_cons,Bool.and_eq_true] at f
  rw [List.any_cons,List.any_cons,zCM r f.1,qD t f.2]
theorem t9 {A:Around} {s:Shared} {x:V} {v:Value} (d:yX x v) (e:xD x=true):∀ {xs:List V} {us:List Value},yO xs us->xs.all xD=true->∀ u ∈ us,SeqAt.EqAt A s u v (eqU x u)
 | _,_,.nil,_=>λu c=>by cases c
 | y :: xs,u :: us,.cons r t,f=>λg c=>by
  rw [List.all_cons,Bool.and_eq_true] at f
  rcases List.mem_cons.mp c with rfl | c
  ·rw [zCM r f.1];exact fT r d f.1 e
  ·exact t9 d e t f.2 g c
noncomputable def inV (x:V) (xs:List V):Bool:=xs.any λy=>eqV y x
def rIn (K:W.Frag) (neg:Bool):R2:=λx y H Q=>∃ p c,y=.ref p/\(SqL K H p c \/ SqT K H p c)/\xD x=true/\c.all xD=true/\Q (.bl (if neg then !inV x c else inV x c)) H
theorem sN:OpR X (compareOp .In) (rIn X.K false):=by
 intro m s n H x y v u Q I i k h
 obtain ⟨p,o,rfl,d,j,e,q⟩:=h
 cases k
 rcases d with d | d
 ·obtain ⟨c,r,f,l⟩:=I.list d
  refine SeqAt.in_listAt (eqU x) f.isList (λw g=>t9 i j r e w (by simpa using g)) ⟨.bl _,H,I,rfl,?_⟩
  rw [show c.toArray.any (eqU x)=c.any (eqU x) by simp,qD r e]
  exact q
 ·obtain ⟨c,r,f,l⟩:=I.tuple d
  refine SeqAt.in_tupleAt (eqU x) f (λw g=>t9 i j r e w (by simpa using g)) ⟨.bl _,H,I,rfl,?_⟩
  rw [show c.toArray.any (eqU x)=c.any (eqU x) by simp,qD r e]
  exact q
theorem tN:OpR X (compareOp .NotIn) (rIn X.K true):=by
 intro m s n H x y v u Q I i k h
 obtain ⟨p,o,rfl,d,j,e,q⟩:=h
 cases k
 rcases d with d | d
 ·obtain ⟨c,r,f,l⟩:=I.list d
  refine SeqAt.notIn_listAt (eqU x) f.isList (λw g=>t9 i j r e w (by simpa using g)) ⟨.bl _,H,I,rfl,?_⟩
  rw [show c.toArray.any (eqU x)=c.any (eqU x) by simp,qD r e]
  exact q
 ·obtain ⟨c,r,f,l⟩:=I.tuple d
  refine SeqAt.notIn_tupleAt (eqU x) f (λw g=>t9 i j r e w (by simpa using g)) ⟨.bl _,H,I,rfl,?_⟩
  rw [show c.toArray.any (eqU x)=c.any (eqU x) by simp,qD r e]
  exact q
theorem uH:vK X (.type "list") (λxs H Q=>∃ p ys,xs=[.ref p]/\(SqL X.K H p ys \/ SqT X.K H p ys)/\∀ l,H l=none->Q (.ref l) (upd H l (.lst ys))):=by
 intro A s B H xs D Q I r h
 obtain ⟨p,ys,rfl,i,q⟩:=h
 obtain ⟨u,rfl,C⟩:=tY r
 cases C
 have fin:∀ (c:List Value),yO ys c->ys.length <= sizeLine->∀ (d:Heap) (f:Nat),(∀ b z,s.heap.get? b=some z->d.get? b=some z) ->
   d.get? s.heap.objs.size=some { cls:=.type "list",dict:=none,data:=.seq c.toArray f,slots:=#[] }->EP X A B Q (.ref s.heap.objs.size) { s with heap:=d }:=λc g j d f k e=>
  ⟨.ref s.heap.objs.size,_,I.laid (t':=s.toks) k (zMS _) (show xL X.prog X.w _ d _ (.lst ys) from ⟨j,c,f,g,e⟩),rfl,q _ (I.hok.fresh (zMS _))⟩
 rcases i with i | i
 ·obtain ⟨c,g,v,j⟩:=I.list i
  have m:=g.length
  obtain ⟨o,x,y,n,hd⟩:=v.isList
  exact call_list_seq p (.inl rfl) x y hd (λd f k e=>fin c g j d f k e) (by simp only [zMR] <;> omega)
 ·obtain ⟨c,g,v,j⟩:=I.tuple i
  have m:=g.length
  obtain ⟨o,x,y,n,hd⟩:=v
  exact call_list_seq p (.inr rfl) x y hd (λd f k e=>fin c g j d f k e) (by simp only [zMR] <;> omega)
def tyV (K:W.Frag) (T:String) (x:V) (H:Hp):Prop:=match x with
 | .str _=>T="str"
 | .int _=>T="int"
 | .ref p=>(T="list"/\∃ d,SqL K H p d) \/ (T="tuple"/\∃ o,K.lookup p=some o/\o.cls=.type "tuple"/\o.dict=none) \/
   (T="dict"/\((∃ c,H p=some (.dK c)) \/ ∃ c,H p=some (.dT c))) \/ (T="set"/\∃ S n,H p=some (.set S n))
 | _=>False
theorem zGZ {l:LAO} {m:St} {H:Hp} {s:Shared} {T:String} {x:V} {v:Value} (I:Inv X l m H s) (r:yX x v) (ty:tyV X.K T x H) :
  s.TypeIs v T/\∀ a,v=.ref a->∃ j,s.heap.get? a=some j/\j.dict=none:=by
 cases x with
 | str z=>
  obtain ⟨t,rfl⟩:=r
  cases (show T="str" from ty)
  exact ⟨typeIs_str s z t,λ_ e=>nomatch e⟩
 | int i=>
  obtain ⟨t,rfl⟩:=r
  cases (show T="int" from ty)
  exact ⟨typeIs_int s i t,λ_ e=>nomatch e⟩
 | ref p=>
  cases r
  rcases ty with ⟨rfl,y,q⟩ | ⟨rfl,o,d,u,hd⟩ | ⟨rfl,d⟩ | ⟨rfl,S,n,d⟩
  ·obtain ⟨w,_,k,_⟩:=I.list q
   refine ⟨k.isList.typeIs,λa e=>?_⟩
   cases e
   obtain ⟨o,n,e,c,hd,_⟩:=k
   exact ⟨o,e,hd⟩
  ·refine ⟨⟨o,I.kIn p o d,u⟩,λa e=>?_⟩
   cases e
   exact ⟨o,I.kIn _ o d,hd⟩
  ·have z:∃ o,s.heap.get? p=some o/\o.ExactDict:=by
    rcases d with ⟨g,d⟩ | ⟨g,d⟩
    ·obtain ⟨_,_,_,_,o,_,_,e,f,_⟩:=I.hok p _ d
     exact ⟨o,e,f⟩
    ·obtain ⟨_,_,_,_,o,_,_,e,f,_⟩:=I.hok p _ d
     exact ⟨o,e,f⟩
   obtain ⟨o,e,f⟩:=z
   refine ⟨⟨o,e,f.1⟩,λa h=>?_⟩
   cases h
   exact ⟨o,e,f.2.1⟩
  ·obtain ⟨o,_,_,_,e,f,_⟩:=I.hok p _ d
   refine ⟨⟨o,e,f.1⟩,λa h=>?_⟩
   cases h
   exact ⟨o,e,f.2.1⟩
 | _=>exact False.elim ty
def tBM (K:W.Frag) (T:String) (r:V->List V->Hp->VK->Prop) (e:TE) (t:TA):TE:=λc H Q=>e c H λx d=>tyV K T x d/\t c d λf g=>r x f g Q
variable {o e:Expr} {es:List Expr} {to:TE} {t:TA} {name:Str} {apos cpos:Pos} {T id:String} {r:V->List V->Hp->VK->Prop}
theorem uD (q:PlainAttrs T) (slot:Slot T name id) (j:typeOf (.builtin id)=pure (.type "method_descriptor")) (u:MtR X id r) (w:PE X o to) (y:PA X (e :: es) t)
  (d:attributeBase o name X.env (eval o X.env)=eval o X.env:=by rfl)
  (g:((backTo cpos (starEach (e :: es) X.env)).all (λx=>!x.1) && (backToKw cpos (keywordEach [] X.env)).all (λx=>x.1.isSome)
   && decide ((e :: es).length + ([]:List Keyword).length + (if ([]:List Keyword).isEmpty then 0 else 1) < 30))=true:=by rfl)
  (f:(apos.endLine == cpos.line)=true:=by rfl) (z:starEach (e :: es) X.env=(false,eval e X.env) :: starEach es X.env:=by rfl) (c:(backTo cpos (starEach es X.env)).any (·.1)=false:=by rfl) :
  PE X (.Call (.Attribute o name apos) (e :: es) [] cpos) (tBM X.K T r to t):=by
 intro k s l H Q I h
 refine wpAny_Call_method_late d g f rfl (thn (w k s l H _ I h) λv A i=>?_)
 obtain ⟨x,B,m,n,ty,C⟩:=i
 obtain ⟨D,E⟩:=zGZ m n ty
 refine ⟨T,id,q,slot,j,D,E,?_⟩
 have p:=y cpos k A l B _ m C
 rw [z] at p ⊢
 refine Calls.callWith_builtin (by show (false || (backTo cpos (starEach es X.env)).any (·.1))=false;rw [c] <;> rfl) (Calls.evalArgs_plain ?_)
 exact thn p λG J ⟨L,M,N,O,U⟩=>u k J l M x L v G Q N n O U
end
def MtM (X:Cx) (id:String) (r:V->List V->Hp->VK->Prop):Prop:=
 ∀ (a:LAO) (s:Shared) (b:St) (H:Hp) (x:V) (c:List V) (v:Value) (d:List Value) (Q:VK),Inv X a b H s->yX x v->yO c d->r x c H Q ->
  wpAny (model X.prog X.w) X.A (call (.builtin id) (v :: d)) (EP X a b Q) X.xe s
theorem yO.one {x:V} {us:List Value} (h:yO [x] us):∃ u,us=[u]/\yX x u:=by
 cases h with
 | cons r k=>cases k;exact ⟨_,rfl,r⟩
theorem yO.two {x y:V} {us:List Value} (h:yO [x,y] us):∃ u v,us=[u,v]/\yX x u/\yX y v:=by
 cases h with
 | cons r k=>cases k with
  | cons q m=>cases m;exact ⟨_,_,rfl,r,q⟩
theorem yO.eraseIdx:∀ {xs:List V} {us:List Value} (i:Nat),yO xs us->yO (xs.eraseIdx i) (us.eraseIdx i)
 | _,_,_,.nil=>.nil
 | _,_,0,.cons _ t=>t
 | _,_,i + 1,.cons r t=>.cons r (yO.eraseIdx i t)
theorem tF {a:Type}:∀ (l:List a) (i:Nat),(l.eraseIdx i).length <= l.length
 | [],_=>zMS _
 | _ :: _,0=>Nat.le_succ _
 | _ :: r,i + 1=>Nat.succ_le_succ (tF r i)
section
variable {X:Cx} {qp:LAO} {σ:St} {H:Hp} {s:Shared} {l b:Addr} {xs ys zs:List V}
theorem Inv.lset {its its':List Value} {n:Nat} {f:Array Value->Array Value} {t':Nat} (I:Inv X qp σ H s) (a:H l=some (.lst xs))
  (e:s.heap.get? l=some { cls:=.type "list",data:=.seq its.toArray n }) (c:f its.toArray=its'.toArray) (d:yO ys its') (hz:ys.length <= sizeLine) :
  Inv X qp σ (upd H l (.lst ys)) { s with heap:=s.heap.update l (Obj.mapSeq f),toks:=t' }:=by
 have q:=PySem.IsL.update e f
 rw [c] at q
 refine I.write (x:=l) (e:=l) (by rw [a];exact trivial) (.inl rfl) (λi u g h=>(Heap.get?_update_other s.heap (Obj.mapSeq f) (Ne.symm g)).trans h) ⟨_,q⟩ ?_
 exact ⟨hz,its',_,d,q⟩
theorem Inv.lnew {its:List Value} {t':Nat} (I:Inv X qp σ H s) (a:yO ys its) (hz:ys.length <= sizeLine) :
  Inv X qp σ (upd H s.heap.objs.size (.lst ys)) { s with heap:=s.heap.push { cls:=.type "list",data:=.seq its.toArray },toks:=t' }:=
 I.laid (λ_ _ q=>Heap.get?_push_of_some _ q) (zMS _) ⟨hz,its,0,a,Heap.get?_push_size _ rfl⟩
theorem Inv.fresh (I:Inv X qp σ H s):H s.heap.objs.size=none:=I.hok.fresh (zMS _)
theorem Inv.lstM (I:Inv X qp σ H s) (a:H l=some (.lst xs)):xs.length <= sizeLine/\∃ (its:List Value) (n:Nat),yO xs its/\xs.length=its.length/\s.heap.get? l=some { cls:=.type "list",data:=.seq its.toArray n }:=by
 obtain ⟨z,its,n,r,e⟩:=I.hok l _ a
 exact ⟨z,its,n,r,r.length,e⟩
end
section
variable {X:Cx}
def zD7:V->List V->Hp->VK->Prop:=λx b H Q=>∃ l a y,x=.ref l/\b=[y]/\H l=some (.lst a)/\a.length < sizeLine/\Q .non (upd H l (.lst (a ++ [y])))
theorem xQ:MtM X "list.append" zD7:=by
 intro i s j H x k v m Q I d f h
 obtain ⟨l,o,y,rfl,rfl,b,p,q⟩:=h
 cases d
 obtain ⟨u,rfl,g⟩:=f.one
 obtain ⟨z,a,n,r,t,e⟩:=I.lstM b
 refine call_meets F.slot_list_append ⟨_,e,rfl⟩ F.entry_list_append (F.args_list_append_2 _ _) (PySem.list_append l a.toArray n u (by rw [zMR];omega)) ⟨e,?_⟩
 refine ⟨.non,_,I.lset (its':=a ++ [u]) b e (by simp) (r.append (.cons g .nil)) ?_,rfl,q⟩
 rw [zM1,List.length_singleton]
 omega
def zHO:V->List V->Hp->VK->Prop:=λx b H Q=>∃ l a i k y,x=.ref l/\b=[.int i]/\H l=some (.lst a)/\-(2 ^ 63) <= i/\i < 2 ^ 63/\seqIndex? i a.length=some k/\a[k]?=some y/\Q y (upd H l (.lst (a.eraseIdx k)))
theorem iM:MtM X "list.pop" zHO:=by
 intro E s G H x J v L Q I f g h
 obtain ⟨l,j,i,k,y,rfl,rfl,c,m,o,p,A,q⟩:=h
 cases f
 obtain ⟨u,rfl,B⟩:=g.one
 obtain ⟨t,rfl⟩:=B
 obtain ⟨z,a,n,r,C,e⟩:=I.lstM c
 obtain ⟨w,D,b⟩:=r.get A
 refine call_meets F.slot_list_pop ⟨_,e,rfl⟩ F.entry_list_pop (F.args_list_pop_2 _ _)
  (MeetsSeq.list_pop_at l a.toArray n i t k w (fitsIndex_both m o) (by rw [zMR,<- C];exact p) (by rw [<- Array.getElem?_toList];exact D) (by rw [zMR];omega)) ⟨e,?_⟩
 refine ⟨y,_,I.lset (its':=a.eraseIdx k) c e ?_ (r.eraseIdx k) ?_,b,q⟩
 ·show a.toArray.eraseIdxIfInBounds k=(a.eraseIdx k).toArray
  rw [List.eraseIdxIfInBounds_toArray]
 ·have:=tF j k
  omega
def zHP:R2:=λx y H Q=>∃ l b a c,x=.ref l/\y=.ref b/\H l=some (.lst a)/\H b=some (.lst c)/\a.length + c.length <= sizeLine/\∀ p,H p=none->Q (.ref p) (upd H p (.lst (a ++ c)))
theorem wO:OpR X (binaryOp .Add) zHP:=by
 intro p s t H x y v u Q I d f h
 obtain ⟨l,b,w,A,rfl,rfl,g,i,B,q⟩:=h
 cases d
 cases f
 obtain ⟨z,c,n,r,C,e⟩:=I.lstM g
 obtain ⟨D,a,n2,j,k,m⟩:=I.lstM i
 refine PySem.P.add_list e m ?_ (by rw [zMR,zMR];omega)
 have o:c.toArray ++ a.toArray=(c ++ a).toArray:=by simp
 rw [o]
 exact ⟨.ref _,_,I.lnew (t':=s.toks) (r.append j) (by rw [zM1];omega),rfl,q _ I.fresh⟩
end
section
variable {prog:Program} {w:World} {A:Around} {E:VSP} {s:Shared}
end
section
variable {X:Cx}
end
section
variable {κ:Type} [DecidableEq κ]
noncomputable def tI (a:List (κ × V)) (k:κ):Option V:=(a.find? λb=>decide (b.1=k)).map (·.2)
noncomputable def vU (a:List (κ × V)) (k:κ) (v:V):List (κ × V):=
 if (a.any λb=>decide (b.1=k))=true then a.map (λb=>if b.1=k then (b.1,v) else b) else a ++ [(k,v)]
theorem rN {p:κ × V} {r:List (κ × V)} {k:κ} (e:p.1=k):tI (p :: r) k=some p.2:=by simp [tI,List.find?_cons,e]
theorem t5 {p:κ × V} {r:List (κ × V)} {k:κ} (e:¬ p.1=k):tI (p :: r) k=tI r k:=by simp [tI,List.find?_cons,e]
theorem oB (k:κ):∀ a:List (κ × V),(a.any λb=>decide (b.1=k))=(tI a k).isSome
 | []=>rfl
 | p :: r=>by
  rw [List.any_cons]
  by_cases e:p.1=k
  ·simp only [rN e,zMY e,Bool.true_or,Option.isSome_some]
  ·rw [t5 e,zMZ e,Bool.false_or];exact oB k r
theorem uW (a:List (κ × V)) (k:κ) (v:V):(vU a k v).length <= a.length + 1:=by
 unfold vU
 split
 ·rw [zMJ];omega
 ·rw [zM1,zM4,List.length_nil];omega
theorem zA4 {a:List (κ × V)} {k:κ} (v:V) (h:tI a k=none):vU a k v=a ++ [(k,v)]:=by
 unfold vU
 rw [oB,h]
 exact if_neg (by decide)
theorem sW.isSome_eq {o:Option V} {u:Option Value} (r:sW o u):o.isSome=u.isSome:=by
 cases o with
 | none=>cases u with
  | none=>rfl
  | some _=>exact (show False from r).elim
 | some _=>cases u with
  | none=>exact (show False from r).elim
  | some _=>rfl
theorem KV.val {a:List (κ × V)} {vs:List (κ × Value)} (r:KV a vs) (k:κ):sW (tI a k) (valueAt vs k):=by
 unfold KV at r
 induction r with
 | nil=>exact True.intro
 | @cons p q j c h t g=>
  obtain ⟨f,i⟩:=h
  by_cases e:p.1=k
  ·have d:q.1=k:=f.symm.trans e
   have b:valueAt (q :: c) k=some q.2:=by simp [valueAt,List.find?_cons,d]
   rw [rN e,b];exact i
  ·have d:¬ q.1=k:=λz=>e (f.trans z)
   have b:valueAt (q :: c) k=valueAt c k:=by simp [valueAt,List.find?_cons,d]
   rw [t5 e,b];exact g
theorem KV.any {a:List (κ × V)} {vs:List (κ × Value)} (r:KV a vs) (k:κ):(a.any λb=>decide (b.1=k))=vs.any λb=>decide (b.1=k):=by
 unfold KV at r
 induction r with
 | nil=>rfl
 | cons h t c=>rw [List.any_cons,List.any_cons,c,h.1]
theorem KV.repl {b:List (κ × V)} {vs:List (κ × Value)} (r:KV b vs) (k:κ) {y:V} {u:Value} (d:yX y u) :
  KV (b.map λa=>if a.1=k then (a.1,y) else a) (vs.map λa=>if a.1=k then (a.1,u) else a):=by
 unfold KV at r ⊢
 induction r with
 | nil=>exact .nil
 | @cons p q i j h t f=>
  rw [List.map_cons,List.map_cons]
  refine .cons ?_ f
  obtain ⟨c,g⟩:=h
  by_cases e:p.1=k
  ·rw [if_pos e,if_pos (c.symm.trans e)];exact ⟨c,d⟩
  ·rw [if_neg e,if_neg (λz=>e (c.trans z))];exact ⟨c,g⟩
theorem KV.put {a:List (κ × V)} {vs:List (κ × Value)} (r:KV a vs) (k:κ) {y:V} {u:Value} (b:yX y u):KV (vU a k y) (stored vs k u):=by
 unfold vU stored
 rw [r.any k]
 by_cases e:(vs.any λc=>decide (c.1=k))=true
 ·rw [if_pos e,if_pos e];exact r.repl k b
 ·rw [if_neg e,if_neg e];exact Paired.snoc r ⟨rfl,b⟩
theorem KV.length {a:List (κ × V)} {vs:List (κ × Value)} (r:KV a vs):a.length=vs.length:=Paired.length r
end
theorem o8 {P:Program} {w:World} {k:Key} {u:Value} (r:yX (kV k) u):(wH P w).is k u=true:=by
 cases k with
 | inl i=>obtain ⟨t,e⟩:=(show ∃ t,u=Value.int i t from r);subst e;exact iO P w i t
 | inr x=>obtain ⟨t,e⟩:=(show ∃ t,u=Value.str x t from r);subst e;exact iN P w x t
theorem m4 {P:Program} {w:World}:∀ {ks:List Key} {us:List Value},yO (ks.map kV) us->ItemsAre (wH P w) ks us
 | [],_,r=>by rw [List.map_nil] at r;cases r;exact .nil
 | k :: ks,_,r=>by
  rw [List.map_cons] at r
  cases r with
  | cons h t=>exact .cons (o8 h) (m4 t)
abbrev KT (H:Hp):List (List Key × V)->List (List Key × Addr × Value)->Prop:=Paired λp q=>p.1=q.1/\H q.2.1=some (.tup (p.1.map kV))/\yX p.2 q.2.2
theorem KT.val {H:Hp} {a:List (List Key × V)} {xs:List (List Key × Addr × Value)} (r:KT H a xs) (k:List Key):sW (tI a k) ((atKey xs k).map (·.2)):=by
 induction r with
 | nil=>exact True.intro
 | @cons p q j c h t g=>
  obtain ⟨f,_,i⟩:=h
  by_cases e:p.1=k
  ·have d:q.1=k:=f.symm.trans e
   have b:atKey (q :: c) k=some q.2:=by simp [atKey,List.find?_cons,d]
   rw [rN e,b];exact i
  ·have d:¬ q.1=k:=λz=>e (f.trans z)
   have b:atKey (q :: c) k=atKey c k:=by simp [atKey,List.find?_cons,d]
   rw [t5 e,b];exact g
theorem KT.repl {H:Hp} {a:List (List Key × V)} {xs:List (List Key × Addr × Value)} (r:KT H a xs) (k:List Key) {y:V} {u:Value} (f:yX y u) :
  KT H (a.map λc=>if c.1=k then (c.1,y) else c) (xs.map (putAt k u)):=by
 induction r with
 | nil=>exact .nil
 | @cons p q j l h t g=>
  rw [List.map_cons,List.map_cons]
  refine .cons ?_ g
  obtain ⟨b,d,i⟩:=h
  unfold putAt
  by_cases e:p.1=k
  ·rw [if_pos e,if_pos (b.symm.trans e)];exact ⟨b,d,f⟩
  ·rw [if_neg e,if_neg (λz=>e (b.trans z))];exact ⟨b,d,i⟩
theorem KT.put {H:Hp} {a:List (List Key × V)} {xs:List (List Key × Addr × Value)} (r:KT H a xs) (k:List Key) {b:Addr} {y:V} {u:Value} (d:H b=some (.tup (k.map kV))) (c:yX y u) :
  KT H (vU a k y) (storedH xs k b u):=by
 have e:(a.any λf=>decide (f.1=k))=(atKey xs k).isSome:=by
  rw [oB,(r.val k).isSome_eq,Option.isSome_map]
 unfold vU storedH
 rw [e]
 by_cases q:(atKey xs k).isSome=true
 ·rw [if_pos q,if_pos q];exact r.repl k c
 ·rw [if_neg q,if_neg q];exact Paired.snoc r ⟨rfl,d,c⟩
theorem KT.keeps {H c:Hp} {a:List (List Key × V)} {xs:List (List Key × Addr × Value)} (r:KT H a xs) (d:∀ b ys,H b=some (.tup ys)->c b=some (.tup ys)):KT c a xs:=
 Paired.mapP r λ_ _ z=>⟨z.1,d _ _ z.2.1,z.2.2⟩
section
variable {P:Program} {w:World} {H:Hp} {h:Heap} {a:Addr}
theorem zGB {u:HO} (ok:HOk P w H h) (e:Rd H a u):xL P w H h a u:=e.ok ok
theorem i5 {b:List (Key × V)} (ok:HOk P w H h) (e:Rd H a (.dK b)):b.length <= sizeLine/\(a == sysModules)=false/\∃ vs,KV b vs/\h.DictOf (wH P w) a vs:=
 show xL P w H h a (.dK b) from zGB ok e
theorem zCR {b:List (Key × V)} (ok:HOk P w H h) (e:H a=some (.dK b)):b.length <= sizeLine/\(a == sysModules)=false/\∃ vs,KV b vs/\h.DictOf (wH P w) a vs:=i5 ok (.inl e)
theorem o7 {ks:List Key} (ok:HOk P w H h) (e:H a=some (.tup (ks.map kV))):(tupleKind (wH P w)).is h ks a:=by
 obtain ⟨_,b,r,o,c,d,n,f⟩:=(show xL P w H h a (.tup (ks.map kV)) from ok a _ e)
 exact ⟨o,b.toArray,n,c,d,f,by simpa using m4 r⟩
theorem i3 {b:List (List Key × V)} (ok:HOk P w H h) (e:Rd H a (.dT b)):b.length <= sizeLine/\(a == sysModules)=false /\
  ∃ xs,KT H b xs/\h.DictOfH (tupleKind (wH P w)) a xs:=by
 obtain ⟨z,y,xs,r,o,f,g,i,j,k,n,s⟩:=(show xL P w H h a (.dT b) from zGB ok e)
 refine ⟨z,y,xs,r,o,f,g,i,j,k,n,λx c=>?_,s⟩
 have all:∀ {l:List (List Key × V)} {m:List (List Key × Addr × Value)},KT H l m->∀ x ∈ m,(tupleKind (wH P w)).is h x.1 x.2.1:=by
  intro l m q
  induction q with
  | nil=>intro x c;exact nomatch c
  | @cons p q v A d t u=>
   intro x c
   rcases List.mem_cons.mp c with e | c
   ·subst e
    exact o7 ok (by rw [<- d.1];exact d.2.1)
   ·exact u x c
 exact all r x c
theorem zL9 {b:List (List Key × V)} (ok:HOk P w H h) (e:H a=some (.dT b)):b.length <= sizeLine/\(a == sysModules)=false /\
  ∃ xs,KT H b xs/\h.DictOfH (tupleKind (wH P w)) a xs:=i3 ok (.inl e)
end
def tX (H:Hp) (a:Addr) (y:V) (r:Option V):Prop:=
 (∃ c k,Rd H a (.dK c)/\y=kV k/\r=tI c k) \/ ∃ c k b,Rd H a (.dT c)/\y=.ref b/\H b=some (.tup (k.map kV))/\r=tI c k
def zDE (H:Hp) (a:Addr) (y v:V) (d:Hp):Prop:=
 (∃ c k,H a=some (.dK c)/\y=kV k/\c.length < sizeLine/\d=upd H a (.dK (vU c k v))) \/
 ∃ c k b,H a=some (.dT c)/\y=.ref b/\H b=some (.tup (k.map kV))/\c.length < sizeLine/\d=upd H a (.dT (vU c k v))
theorem tX.k {H:Hp} {a:Addr} {b:List (Key × V)} {k:Key} (e:H a=some (.dK b)):tX H a (kV k) (tI b k):=.inl ⟨b,k,.inl e,rfl,rfl⟩
section
variable {X:Cx} {qp:LAO} {σ:St} {H:Hp} {s:Shared} {a:Addr} {y v:V} {u r:Value} {o:Option V} {A:Around} {E:VSP}
theorem Inv.big (I:Inv X qp σ H s):sysModules < s.heap.objs.size:=by
 have h:mainGlobals < s.heap.objs.size:=(I.mod.glob.keeps I.bk).lt
 exact Nat.lt_trans (by decide) h
theorem b6 {Q:VSP} (t:A.units + 1 < cLine) (I:Inv X qp σ H s) (g:tX H a y (some v)) (q:yX y u) (h:∀ d s',Inv X qp σ H s'->yX v d->Q d s') :
  wpAny (model X.prog X.w) A (getItem (.ref a) u) Q E s:=by
 rcases g with ⟨f,k,e,i,l⟩ | ⟨f,k,b,e,i,x,l⟩
 ·subst i
  obtain ⟨z,hd,B,rel,j⟩:=i5 I.hok e
  obtain ⟨d,m,c⟩:=sW.some_of (v:=v) (o:=valueAt B k) (by rw [l];exact rel.val k)
  exact wpAny_getItem_of (o8 q) j.mapOf m (h d _ (I.tok _) c)
 ·subst i
  cases (show u=Value.ref b from q)
  obtain ⟨z,hd,C,rel,j⟩:=i3 I.hok e
  obtain ⟨d,m,c⟩:=sW.some_of (v:=v) (o:=(atKey C k).map (·.2)) (by rw [l];exact rel.val k)
  obtain ⟨p,D,n⟩:=Option.map_eq_some_iff.mp m
  refine wpAny_getItem_heap (tupleKind_room_in1 t) (o7 I.hok x) j D ?_
  rw [n]
  exact h d _ (I.tok _) c
theorem d_in {Q:VSP} (j:A.units + 1 < cLine) (I:Inv X qp σ H s) (g:tX H a y o) (i:yX y u) (h:∀ s',Inv X qp σ H s'->Q (.bool o.isSome) s') :
  wpAny (model X.prog X.w) A (compareOp .In u (.ref a)) Q E s:=by
 rcases g with ⟨c,k,e,d,l⟩ | ⟨c,k,b,e,d,m,l⟩
 ·subst d
  obtain ⟨z,hd,n,rel,f⟩:=i5 I.hok e
  refine wpAny_in_of (o8 i) hd f.mapOf ?_
  rw [<- (rel.val k).isSome_eq,<- l]
  exact h _ (I.tok _)
 ·subst d
  cases (show u=Value.ref b from i)
  obtain ⟨z,hd,p,rel,f⟩:=i3 I.hok e
  refine wpAny_in_heap (tupleKind_room_in1 j) (o7 I.hok m) hd f ?_
  have q:=(rel.val k).isSome_eq
  rw [Option.isSome_map] at q
  rw [<- q,<- l]
  exact h _ (I.tok _)
theorem zFD {Q:VSP} (j:A.units + 1 < cLine) (I:Inv X qp σ H s) (g:tX H a y o) (i:yX y u) (h:∀ s',Inv X qp σ H s'->Q (.bool (!o.isSome)) s') :
  wpAny (model X.prog X.w) A (compareOp .NotIn u (.ref a)) Q E s:=by
 rcases g with ⟨c,k,e,d,l⟩ | ⟨c,k,b,e,d,m,l⟩
 ·subst d
  obtain ⟨z,hd,n,rel,f⟩:=i5 I.hok e
  refine wpAny_notIn_of (o8 i) hd f.mapOf ?_
  rw [<- (rel.val k).isSome_eq,<- l]
  exact h _ (I.tok _)
 ·subst d
  cases (show u=Value.ref b from i)
  obtain ⟨z,hd,p,rel,f⟩:=i3 I.hok e
  refine wpAny_notIn_heap (tupleKind_room_in1 j) (o7 I.hok m) hd f ?_
  have q:=(rel.val k).isSome_eq
  rw [Option.isSome_map] at q
  rw [<- q,<- l]
  exact h _ (I.tok _)
theorem p8 {h':Heap} {t':Nat} {c:HO} (I:Inv X qp σ H s) (d:Mut (H a)) (f:Heap.SameBut a s.heap h') (g:∃ q,h'.get? a=some q) (new:xL X.prog X.w (upd H a c) h' a c) :
  Inv X qp σ (upd H a c) { s with heap:=h',toks:=t' }:=
 I.write (x:=a) (e:=a) d (.inl rfl) (λb q h z=>(f.2 b h).trans z) g new
theorem fV {P:Program} {w:World} {c:Hp} {h':Heap} {b:List (Key × V)} {vs:List (Key × Value)} (z:b.length <= sizeLine) (hd:(a == sysModules)=false) (rel:KV b vs) (dd:h'.DictOf (wH P w) a vs) :
  xL P w c h' a (.dK b):=⟨z,hd,vs,rel,dd⟩
theorem b5 {C:Hp} {Q:Unit->Shared->Prop} (N:A.units + 1 < cLine) (I:Inv X qp σ H s) (g:zDE H a y v C) (D:yX y u) (G:yX v r) (h:∀ s',Inv X qp σ C s'->Q () s') :
  wpAny (model X.prog X.w) A (setItem (.ref a) u r) Q E s:=by
 rcases g with ⟨d,k,e,j,l,m⟩ | ⟨d,k,b,e,j,J,l,m⟩
 ·subst j m
  obtain ⟨z,hd,O,rel,n⟩:=zCR I.hok e
  have p:O.length <= sizeLine:=by rw [<- rel.length];exact z
  have t:(vU d k v).length <= sizeLine:=by have:=uW d k v;omega
  refine wpAny_setItem_pairs (hsz:=p) (o8 D) n λL f B=>h _ ?_
  have T:∃ q,L.get? a=some q:=let ⟨q,_,_,i,_⟩:=f;⟨q,i⟩
  exact p8 I (by rw [e];exact True.intro) B T (fV t hd (rel.put k G) f)
 ·subst j m
  cases (show u=Value.ref b from D)
  obtain ⟨z,hd,U,rel,n⟩:=zL9 I.hok e
  have p:U.length <= sizeLine:=by rw [<- Paired.length rel];exact z
  have t:(vU d k v).length <= sizeLine:=by have:=uW d k v;omega
  refine wpAny_setItem_heap (hsz:=p) (tupleKind_room_in1 N) (o7 I.hok J) n λL f B=>h _ ?_
  obtain ⟨q,Y,ep,i,h2,h3,h4,_,h5⟩:=f
  refine p8 I (by rw [e];exact True.intro) B ⟨q,i⟩ ⟨t,hd,_,(rel.put k J G).keeps λc ys M=>?_,q,Y,ep,i,h2,h3,h4,h5⟩
  rw [zK (wL M e (λz=>nomatch z))]
  exact M
end
section
variable {X:Cx} {qp:LAO} {σ:St} {H:Hp} {s:Shared} {a:Addr} {kvs:List (Key × V)} {k:Key} {u:Value} {A:Around} {E:VSP}
end
def zMH (i:Expr):Prop:=∀ a b,subscripted i false a b=operate [a,b] (getItem a b)
theorem zDJ {prog:Program} {w:World} {A:Around} {E:VSP} {s:Shared} {env:Env} {value slice:Expr} {pos:Pos} {T id:String} {Q:VSP}
  (j:typeLookup (.type T) "__getitem__"=pure (some (.builtin id))) (k:zMH slice)
  (h:wpAny (model prog w) A (eval value env) (λo c=>wpAny (model prog w) A (eval slice env) (λi a=>a.TypeIs o T/\wpAny (model prog w) A (getItem o i) Q E a) E c) E s) :
  wpAny (model prog w) A (eval (.Subscript value slice pos) env) Q E s:=by
 refine Subscript_ (wpAny_mono h (λo c e=>wpAny_mono e (λi a b=>?_) λ_ _ x=>x) λ_ _ x=>x)
 obtain ⟨g,b⟩:=b
 unfold subscriptTail
 refine wpAny_bind ?_
 rw [getitemInPython_of_ne g.not_modules]
 refine wpAny_bind (wpAny_specialOf g j ?_)
 have fin:wpAny (model prog w) A (subscripted slice false o i) (λr d=>wpAny (model prog w) A (letTemporaryGo value o r >>= λ_=>pure r) Q E d) E a:=by
  rw [k o i]
  exact wpAny_operating (wpAny_mono b (λr d f=>wpAny_bind (wpAny_letTemporaryGo (wpAny_pure f))) λ_ _ x=>x)
 first
  | exact wpAny_pure (wpAny_bind fin)
  | exact wpAny_bind (wpAny_pure (wpAny_bind fin))
  | exact wpAny_bind fin
theorem i6 {X:Cx} {f:LAO} {h:St} {H:Hp} {s:Shared} {a:Addr} {y:V} {o:Option V} (I:Inv X f h H s) (g:tX H a y o):s.TypeIs (.ref a) "dict":=by
 rcases g with ⟨c,k,e,_,_⟩ | ⟨c,k,b,e,_,_,_⟩
 ·obtain ⟨_,_,i,_,d⟩:=i5 I.hok e
  exact d.typeIs
 ·obtain ⟨_,_,j,_,d⟩:=i3 I.hok e
  exact d.typeIs
def zJG (d ty:TE):TE:=λb H Q=>d b H λx e=>ty b e λy c=>∃ a v,x=.ref a/\tX c a y (some v)/\Q v c
def tDIn (ty d:TE):TE:=λb H Q=>ty b H λy e=>d b e λx c=>∃ a o,x=.ref a/\tX c a y o/\Q (.bl o.isSome) c
def zDI (ty d:TE):TE:=λb H Q=>ty b H λy e=>d b e λx c=>∃ a o,x=.ref a/\tX c a y o/\Q (.bl (!o.isSome)) c
def zKQ (d ty e:TE):TS:=λD b H=>e b H λv f=>d b f λx g=>ty b g λy h=>∃ a c,x=.ref a/\zDE h a y v c/\D.nx b c
section
variable {X:Cx} {o i e value:Expr} {pos pos' tpos:Pos} {td ty tv:TE}
theorem yV (l:X.A.units + 1 < cLine) (m:PE X o td) (n:PE X i ty) (p:zMH i):PE X (.Subscript o i pos) (zJG td ty):=by
 intro f s j H Q I h
 refine zDJ F.slot_dict_getitem.lookup p (thn (m f s j H _ I h) λu q b=>?_)
 obtain ⟨x,r,t,w,z⟩:=b
 refine thn (n f q j r _ t z) λJ L c=>?_
 obtain ⟨y,B,k,C,a,v,D,g,E⟩:=c
 subst D
 obtain rfl:u=Value.ref a:=w
 exact ⟨i6 k g,b6 l k g C λM N G d=>⟨v,B,G,d,E⟩⟩
theorem zBF (j:X.A.units + 1 < cLine) (k:PE X i ty) (l:PE X o td):PC X .In i o (tDIn ty td):=by
 intro d s f H Q I h
 refine thn (k d s f H _ I h) λE m b=>?_
 obtain ⟨y,n,p,q,r⟩:=b
 refine thn (l d m f n _ p r) λu G c=>?_
 obtain ⟨x,t,v,w,a,z,B,g,C⟩:=c
 subst B
 obtain rfl:u=Value.ref a:=w
 exact d_in j v g q λJ D=>⟨.bl z.isSome,t,D,rfl,C⟩
theorem mT (j:X.A.units + 1 < cLine) (k:PE X i ty) (l:PE X o td):PC X .NotIn i o (zDI ty td):=by
 intro d s f H Q I h
 refine thn (k d s f H _ I h) λE m b=>?_
 obtain ⟨y,n,p,q,r⟩:=b
 refine thn (l d m f n _ p r) λu G c=>?_
 obtain ⟨x,t,v,w,a,z,B,g,C⟩:=c
 subst B
 obtain rfl:u=Value.ref a:=w
 exact zFD j v g q λJ D=>⟨.bl (!z.isSome),t,D,rfl,C⟩
theorem tK (k:X.A.units + 1 < cLine) (l:PE X o td) (m:PE X i ty) (n:PE X value tv) (p:swapsWith value (some (.Subscript o i pos')) pos.line X.env=pure false) :
  PS X (.Assign [.Subscript o i pos'] value pos) (zKQ td ty tv):=by
 intro j s f H D I h
 refine wpAny_Assign_Subscript (thn (n j s f H _ I h) λr q b=>?_) p
 obtain ⟨v,t,w,z,B⟩:=b
 refine thn (l j q f t _ w B) λu C c=>?_
 obtain ⟨x,E,G,J,L⟩:=c
 refine thn (m j C f E _ G L) λY s3 d=>?_
 obtain ⟨y,H3,M,N,a,O,Q,g,T⟩:=d
 subst Q
 obtain rfl:u=Value.ref a:=J
 exact b5 k M g N z λs4 U=>⟨f,O,U,T⟩
end
theorem nF {P:Program} {w:World} {H:Hp} (h:Heap) (a:sysModules < h.objs.size):xL P w H (h.push { cls:=.type "dict",data:=.dict #[] }) h.objs.size (.dK []):=
 ⟨zMT _,beq_eq_false_iff_ne.mpr (Ne.symm (zNA a)),[],.nil,Heap.DictOf.new h⟩
def zG8:TE:=λ_ H Q=>∀ p,H p=none->Q (.ref p) (upd H p (.dK []))
section
variable {X:Cx} {pos:Pos}
theorem zBD:PE X (.Dict [] [] pos) zG8:=λb s c H Q I h=>
 wpAny_Dict_empty ⟨.ref s.heap.objs.size,_,I.laid (a:=s.heap.objs.size) (o:=.dK []) (t':=s.toks) (λ_ _ q=>Heap.get?_push_of_some _ q) (zMS _) (nF s.heap I.big),rfl,h _ (I.hok.fresh (zMS _))⟩
end
def gI:List (TE × TE)->St->Hp->(List (V × V)->Hp->Prop)->Prop
 | [],_,H,Q=>Q [] H
 | (b,c) :: r,a,H,Q=>b a H λx d=>c a d λy e=>gI r a e λf g=>Q ((x,y) :: f) g
noncomputable abbrev VV:List (V × V)->List (Value × Value)->Prop:=Paired λp q=>yX p.1 q.1/\yX p.2 q.2
def PPs (X:Cx) (pos:Pos) (keys:List (Option Expr)) (values:List Expr) (a:List (TE × TE)):Prop:=
 ∀ (c:LAO) (s:Shared) (b:St) (H:Hp) (Q:List (V × V)->Hp->Prop),Inv X c b H s->gI a b H Q ->
  wpAny (model X.prog X.w) X.A (evalPairs (pairTrees keys values X.env pos)) (λf g=>∃ d e,Inv X c b e g/\VV d f/\Q d e) X.xe s
theorem zD9 {X:Cx} {pos:Pos}:PPs X pos [] [] []:=λa s b H Q I h=>pairTrees_nil_walk ⟨[],H,I,.nil,h⟩
theorem rX {X:Cx} {pos:Pos} {k v:Expr} {ks:List (Option Expr)} {vs:List Expr} {d e:TE} {a:List (TE × TE)} (f:PE X k d) (g:PE X v e) (i:PPs X pos ks vs a) :
  PPs X pos (some k :: ks) (v :: vs) ((d,e) :: a):=λb s c H Q I h=>
 pairTrees_cons_walk (thn (f b s c H _ I h) λu j ⟨x,l,m,n,o⟩=>thn (g b j c l _ m o) λD p ⟨y,q,r,t,w⟩=>
  thn (i b p c q _ r w) λE G ⟨z,A,B,rel,C⟩=>⟨(x,y) :: z,A,B,.cons ⟨n,t⟩ rel,C⟩)
noncomputable def o5 (a more:List (Key × V)):List (Key × V):=more.foldl (λacc b=>vU acc b.1 b.2) a
theorem KV.merge:∀ {more:List (Key × V)} {b:List (Key × Value)} {a:List (Key × V)} {vs:List (Key × Value)},KV more b->KV a vs->KV (o5 a more) (merged vs b):=by
 intro more b a vs r
 unfold KV at r
 induction r generalizing a vs with
 | nil=>intro q;exact q
 | @cons p q f g h t c=>
  intro d
  have e:KV (vU a p.1 p.2) (stored vs q.1 q.2):=by
   have:=d.put p.1 h.2
   rw [<- h.1];exact this
  exact c e
theorem sY:∀ (more a:List (Key × V)),(o5 a more).length <= a.length + more.length
 | [],a=>by show a.length <= a.length + 0;omega
 | p :: r,a=>by
  have b:=sY r (vU a p.1 p.2)
  have c:=uW a p.1 p.2
  show (o5 (vU a p.1 p.2) r).length <= _
  rw [zM4];omega
theorem nL {P:Program} {w:World}:∀ {d:List (Key × V)} {f:List (Value × Value)},VV (d.map λg=>(kV g.1,g.2)) f->∃ e,Carries (wH P w) f e/\KV d e
 | [],_,r=>by rw [List.map_nil] at r;cases r;exact ⟨[],True.intro,.nil⟩
 | p :: d,_,r=>by
  rw [List.map_cons] at r
  cases r with
  | @cons a b as j h t=>
   obtain ⟨e,c,q⟩:=nL (P:=P) (w:=w) t
   obtain ⟨k,i⟩:=b
   exact ⟨(p.1,i) :: e,⟨o8 h.1,rfl,c⟩,.cons ⟨rfl,h.2⟩ q⟩
def zJF (b:List (TE × TE)):TE:=λe H Q=>∀ p,H p=none->gI b e (upd H p (.dK [])) λf c=>c p=some (.dK [])/\∃ a:List (Key × V),f=a.map (λd=>(kV d.1,d.2))/\a.length <= 15/\Q (.ref p) (upd c p (.dK (o5 [] a)))
theorem zED {X:Cx} {pos:Pos} {keys:List (Option Expr)} {values:List Expr} {b:List (TE × TE)} (h:PPs X pos keys values b) (d:keys.all (·.isSome)=true) (m:keys.length=values.length) (n:keys ≠ [])
  (j:keys.length <= 15):PE X (.Dict keys values pos) (zJF b):=by
 intro p s r H Q I q
 have t:=I.hok.fresh (zMS s.heap.objs.size)
 have u:=I.laid (a:=s.heap.objs.size) (o:=.dK []) (h':=s.heap.push { cls:=.type "dict",data:=.dict #[] }) (t':=s.toks) (λ_ _ q=>Heap.get?_push_of_some _ q) (zMS _) (nF s.heap I.big)
 refine wpAny_Dict_walk (knd:=wH X.prog X.w) d m n j (thn (h p _ r _ _ u (q _ t)) λT U f=>?_)
 obtain ⟨Y,H2,l,rel,e,g,x,lk,y⟩:=f
 subst x
 obtain ⟨A,c,B⟩:=nL (P:=X.prog) (w:=X.w) rel
 obtain ⟨z,hd,C,D,E⟩:=zCR l.hok e
 cases D
 refine ⟨A,c,E,λk i G=>⟨.ref s.heap.objs.size,_,?_,rfl,y⟩⟩
 have J:(o5 [] g).length <= sizeLine:=by
  have L:=sY g []
  rw [List.length_nil] at L
  rw [sizeLine_eq];omega
 have M:∃ q,k.get? s.heap.objs.size=some q:=let ⟨q,_,_,N,_⟩:=i;⟨q,N⟩
 exact p8 l (by rw [e];exact True.intro) G M (fV J hd (B.merge .nil) i)
section
variable {X:Cx} {qp:LAO} {σ:St} {H:Hp} {s:Shared} {a:Addr} {y d:V} {u r:Value} {o:Option V} {A:Around} {E:VSP}
end
section
variable {X:Cx} {o e f:Expr} {apos cpos:Pos} {td ty tx:TE}
end
section
variable {X:Cx} {qp:LAO} {σ:St} {H:Hp} {s:Shared} {a:Addr} {kvs:List (Key × V)} {A:Around} {E:VSP}
end
section
variable {X:Cx} {qp:LAO} {σ:St} {H:Hp} {s:Shared} {a:Addr} {y:V} {u:Value} {A:Around} {E:VSP}
end
end L2
namespace Att
open PySem PySem.W PySem.Calls PyProof.Rows
theorem ints_of_wellAll {P:Params} {h:Heap}:∀ (c:List Int) (vs:List Value),WellAll P h vs (c.map WData.int)->IntsAre vs c:=by
 intro c
 induction c with
 | nil=>
  intro vs w
  rw [List.map_nil] at w
  cases w
  exact .nil
 | cons n c d=>
  intro vs w
  rw [List.map_cons] at w
  cases w with
  | cons a b=>
   cases a
   exact .cons _ _ (d _ b)
theorem script_of {l:OpenLaw} {n:Nat} (p:l.most=some n) {P:Params} {h:Heap} {args:List WData} {c:List Value}
  (e:l.row.toRowW.claim.pre args=true) (k:WellAll P h c args) :
  ∃ a vs b,c=[Value.ref a]/\args=[WData.list (b.map WData.int)]/\h.get? a=some { cls:=.type "list",data:=.seq vs.toArray }/\IntsAre vs b/\b.length <= n:=by
 have m:WShape.hasAll [] args [.list .int]=true:=(pre_splitW e).1
 have o:l.pre.holds [] { args:=args }=true:=(pre_splitW e).2
 obtain ⟨d,r,rfl,s,t⟩:=hasAllW_cons m
 obtain rfl:=hasAllW_nil t
 obtain ⟨z,rfl,u⟩:=hasW_list s
 obtain ⟨b,rfl⟩:=items_int u
 have f:b.length <= n:=by
  unfold OpenLaw.pre at o
  have i:(WTm.not (.lt (.lit (.int (n:Int))) (.len (.arg 0)))).holds [] { args:=[.list (b.map .int)] }=true:=by
   have i:=(holds_andW o).1
   rw [p] at i
   exact i
  have j:=condW_of i (w_not (w_lt w_lit (w_len_list (w_arg rfl))))
  rw [zMJ] at j
  refine Nat.le_of_not_lt λq=>?_
  have v:(n:Int) < ((b.length:Nat):Int):=by omega
  first
   | (rw [zMY v] at j;exact absurd j (by decide))
   | (simp at j;omega)
 cases k with
 | cons w x=>
  cases x
  cases w with
  | list y g=>exact ⟨_,_,b,rfl,rfl,y,ints_of_wellAll b _ g,f⟩
theorem post_true (l:OpenLaw) (args:List WData):l.row.toRowW.claim.post args (.bool true) args=true:=
 postW_of (r:=l.row.toRowW) (X:=(true == true))
  (show WShape.has [] (.bool true) .bool=true by first | rfl | decide | simp [WShape.has,WShape.arms,WShape.armsAll])
  (show (WTm.eq .res (.lit (.bool true))).value [] { args:=args,res:=some (.bool true),after:=args }=some (.bool (true == true)) from w_eq_bool (w_res rfl) w_lit) rfl
theorem attach_call {l:OpenLaw} {n:Nat} {q:Program} {c:List Str} {y:(Str->Option Value)->Heap->Prop} {z:World->Heap->Prop} {d:DefRec}
  (D:l.most=some n) (s:d.params.defaults=[])
  (call:∀ (w:World) (s₀ b:Shared) (mg t:Str->Option Value) (h:Addr) (o:Obj) (pm m e:Value) (a:Addr) (vs:List Value) (p:List Int),
   Ground q c [] y w s₀ mg t b.heap->z w b.heap ->
   b.heap.get? h=some o->o.data=.func (docDef d.name d.params d.body d.scope pm m e)->b.heap.CodeRec m d.name->mg d.name=some (.ref h) ->
   b.heap.get? a=some { cls:=.type "list",data:=.seq vs.toArray }->IntsAre vs p->p.length <= n->b.gens = #[] ->
   codeAny (model l.prog w) callerA (.call (.ref h) ⟨[.ref a],[]⟩) (λr s'=>r=.ok (.ret (.bool true))/\OldK b.heap s'.heap/\s'.os=b.os/\AllBare s'.gens) b) :
  WalkO q c y z l.row.toRowW d [] (λf vs=>PySem.call f vs):=by
 intro w s₀ b mg t G Y h o pm m e E kV H hd u A v I args B as i C J x L
 obtain rfl:E=.none:=Dflts.none A s
 obtain rfl:kV=.none:=Dflts.noKw A
 obtain ⟨a,vs,p,rfl,rfl,j,g,k⟩:=script_of D i x
 refine enter_call (codeAny_mono (call w s₀ b mg t h o pm m e a vs p G Y H (fd_plain hd) u v j g k I) λr s' M=>?_)
 obtain ⟨rfl,N,O,Q⟩:=M
 exact ⟨.inl ⟨.bool true,.bool true,[],rfl,λ_=>rfl,.bool true,post_true l _,λ_=>⟨List.Pairwise.nil,λ_ T=>(nomatch T)⟩⟩,N,O,Q⟩
section
variable {prog:Program} {w:World} {A:Around} {E:Value->Shared->Prop} {s:Shared} {K:Frag}
end
end Att
namespace L2
open PySem PySem.Spec PyProof.Rows
theorem cI {vs:List Value} {a:List Int} (h:IntsAre vs a):yO (a.map V.int) vs:=by
 induction h with
 | nil=>exact .nil
 | cons n t _ b=>exact .cons ⟨t,rfl⟩ b
def zI8 (H:Hp):Prop:=∀ b,H b=none \/ ∃ o a,H b=some (.frz o (.lst a))
theorem zB9 {P:Program} {w:World} {K:W.Frag} {mg J:Str->Option Value} {CX:CXT} {k:Nat} {L a:Addr} {fd:FuncData} {x:Str} {sp:Sp} {c:Shared} {vs:List Value} {l:List Int}
  (Y:K.In c.heap) (p:c.heap.Ns mainGlobals mg) (g:c.heap.Ns builtinsNs J) (M:∀ x:Str,x ≠ "__name__"->J x=bootBuiltins x) (t:c.heap.NoLimit) (hg:c.gens = #[])
  (I:c.heap.get? a=some { cls:=.type "list",data:=.seq vs.toArray }) (hi:IntsAre vs l) (hl:l.length <= sizeLine) (hr:zZ k callerA)
  (F:∀ base:Heap,K.In base->base.Ns mainGlobals mg->tH P w K mg base CX k L fd [x] sp) (j:∀ (s:Shared) (u:Value),BindsTo s fd ⟨[u],[]⟩ [(x,u)])
  (N:∀ H:Hp,zI8 H->SqL K H a (l.map V.int)->sp [.ref a] H (λv _=>v=.bl true) λ_ _ _=>False)
  (O:∀ H e s',CX [] H c (λ_ _ _=>False) e s'->False) :
  codeAny (model P w) callerA (.call (.ref L) ⟨[.ref a],[]⟩) (λr s'=>r=.ok (.ret (.bool true))/\OldK c.heap s'.heap/\s'.os=c.os/\AllBare s'.gens) c:=by
 have rv:=cI hi
 have y:=hi.length
 have core:∀ H:Hp,zI8 H->SqL K H a (l.map V.int)->HOk P w H c.heap->(∀ b,H b ≠ none->b=a)->(H a ≠ none->K.lookup a=none) ->
   codeAny (model P w) callerA (.call (.ref L) ⟨[.ref a],[]⟩) (λr s'=>r=.ok (.ret (.bool true))/\OldK c.heap s'.heap/\s'.os=c.os/\AllBare s'.gens) c:=by
  intro H hO hS A hA hK
  have f:∀ {b:Addr} {o:Obj},c.heap.get? b=some o->H b=none->(kX c.heap H).get? b=some o:=λe n=>zCG e n
  have Q:∀ {b:Addr} {o:Obj} {B:Array DictEntry} {C:Nat},c.heap.get? b=some o->o.data=.dict B C->H b=none:=λ{b o B C} e d=>by
   cases q:H b with
   | none=>rfl
   | some u=>
    have T:b=a:=hA b (by rw [q];simp)
    subst T
    rw [I] at e;cases e
    have d':Data.seq vs.toArray _=Data.dict B C:=d
    cases d'
  have i:∀ {b:Addr} {m:Str->Option Value},c.heap.Ns b m->(kX c.heap H).Ns b m:=λ{b m} ⟨o,B,C,e,d,r⟩=>⟨o,B,C,f e (Q e d),d,r⟩
  have D:K.In (kX c.heap H):=λb o e=>f (Y b o e) (by
   cases q:H b with
   | none=>rfl
   | some u=>
    have T:b=a:=hA b (by rw [q];simp)
    subst T
    rw [hK (by rw [q];simp)] at e;cases e)
  have hM:Mod K mg (kX c.heap H):=⟨D,i p,⟨J,i g,M⟩,let ⟨mc,h1,h2⟩:=t;⟨mc,i h1,h2⟩⟩
  have e0:gD P w K mg (kX c.heap H) callerA [] c H:=⟨rfl,hM,λb o e=>zEQ e,Nat.le_of_eq (bQ _ _),trivial,λb g=>absurd (show b ∈ ([]:List Addr) from g) (by simp),A,.of_eq hg⟩
  refine codeAny_mono ((F _ D (i p)).run callerA [] c H ⟨[.ref a],[]⟩ [.ref a] [.ref a] _ _ hr e0 (j c (.ref a)) (.cons rfl .nil) (N H hO hS)) λr s' h=>?_
  cases r with
  | error e=>exact (O H e s' h).elim
  | ok fl=>
   cases fl with
   | next=>exact False.elim h
   | brk=>exact False.elim h
   | cont=>exact False.elim h
   | ret u=>
    obtain ⟨v,H',os,bare,un,E,r',q⟩:=h
    have q':v=.bl true:=q
    subst q'
    obtain rfl:u=Value.bool true:=r'
    refine ⟨rfl,OldK.of_keep λb o e=>?_,os,bare⟩
    cases q:H b with
    | none=>exact un.keep b o e q (by intro z;exact absurd (show b ∈ ([]:List Addr) from z) (by simp)) (by simp)
    | some u=>
     rcases hO b with z | ⟨ob,xs,z⟩
     ·rw [q] at z;cases z
     ·have z2:=un.frzs b ob _ z
      obtain ⟨e1,_⟩:=A b _ z
      obtain ⟨e2,_⟩:=E b _ z2
      rw [e] at e1;cases e1
      exact e2
 cases U:K.lookup a with
 | some o=>
  have e:=Y a o U
  rw [I] at e
  cases e
  refine core (λ_=>none) (λ_=>.inl rfl) (.inr ⟨_,vs.toArray,_,U,rfl,rfl,rfl,by rw [zMR,y];exact hl,by simpa using rv⟩) (λb u z=>by have G:(none:Option HO)=some u:=z;cases G) (λb z=>absurd rfl z) λz=>absurd rfl z
 | none=>
  refine core (λb=>if b=a then some (.frz { cls:=.type "list",data:=.seq vs.toArray } (.lst (l.map V.int))) else none) (λb=>?_) (.inl (.inr ⟨{ cls:=.type "list",data:=.seq vs.toArray },if_pos rfl⟩)) (λb u z=>?_) (λb z=>?_) λ_=>U
  ·by_cases g:b=a
   ·exact .inr ⟨_,_,if_pos g⟩
   ·exact .inl (if_neg g)
  ·by_cases g:b=a
   ·have G:=(if_pos g).symm.trans z
    cases G
    subst g
    exact ⟨I,by rw [zMJ];exact hl,vs,_,rv,I⟩
   ·have G:=(if_neg g).symm.trans z
    cases G
  ·by_cases g:b=a
   ·exact g
   ·exact absurd (if_neg g) z
theorem walk_of {l:W.OpenLaw} {n k:Nat} {q:Program} {i:List Str} {I:(Str->Option Value)->Heap->Prop} {C:World->Heap->Prop} {d:DefRec} {K:Params->W.Frag} {CX:World->CXT} {sp:World->Sp} {x:Str}
  (J:l.most=some n) (hn2:n <= sizeLine) (y:d.params.defaults=[]) (L:zZ k callerA)
  (M:∀ (w:World) (h:Heap),C w h->(K w.params).In h)
  (F:∀ (w:World) (mg:Str->Option Value) (r:Addr) (h:Heap),(K w.params).In h->h.Ns mainGlobals mg->mg d.name=some (.ref r) ->
   ∃ fd:FuncData,(∀ (s:Shared) (u:Value),BindsTo s fd ⟨[u],[]⟩ [(x,u)]) /\
    ∀ base:Heap,(K w.params).In base->base.Ns mainGlobals mg->tH l.prog w (K w.params) mg base (CX w) k r fd [x] (sp w))
  (z:∀ (w:World) (H:Hp) (a:Addr) (t:List Int),t.length <= n->zI8 H->SqL (K w.params) H a (t.map V.int)->sp w [.ref a] H (λv _=>v=.bl true) λ_ _ _=>False)
  (A:∀ (w:World) (H:Hp) (s:Shared) (e:Value) (s':Shared),CX w [] H s (λ_ _ _=>False) e s'->False) :
  W.WalkO q i I C l.row.toRowW d [] (λf vs=>PySem.call f vs):=by
 refine Att.attach_call J y λw D m mg mb r o pm cd N a vs t G Y ho hd O B p j c Q=>?_
 have E:=M w _ Y
 obtain ⟨fd,U,hF⟩:=F w mg r _ E G.T.g B
 exact zB9 E G.T.g G.T.b G.T.builtins G.T.nolimit Q p j (zMU c hn2) L hF U (λH hO hS=>z w H a t c hO hS) λH e s'=>A w H m e s'
def yW (s:Stmt) (j:Nat):Stmt:=match s with
 | .ClassDef _ _ _ body _ _ _ _ _ _ _=>body.getD j (.Pass ⟨0,0,0,0⟩)
 | _=>.Pass ⟨0,0,0,0⟩
noncomputable def vG (s:Stmt):Arguments:=match s with
 | .FunctionDef _ a _ _ _ _ _ _ _ _=>a
 | _=>{ posonlyargs:=[],args:=[],vararg:=none,kwonlyargs:=[],kw_defaults:=[],kwarg:=none,defaults:=[] }
noncomputable def y8 (s:Stmt):List Stmt:=match s with
 | .FunctionDef _ _ b _ _ _ _ _ _ _=>b
 | _=>[]
noncomputable def zG (s:Stmt):Scope:=match s with
 | .FunctionDef _ _ _ _ _ _ d _ _ _=>d
 | _=>{ kind:=.function,names:=[],isGenerator:=false,isCoroutine:=false }
abbrev CX0:CXT:=λ_ _ _ _ _ _=>False
abbrev E0:XK:=λ_ _ _=>False
theorem dH {X:Cx}:uT CX0 X E0:=λ_ _ _ _ _ _ _ h=>h.elim
structure Fun (K:W.Frag) (x qual:Str) (st:Stmt) (f:Addr) (fd:FuncData):Prop where
 ex:∃ (oc:Value) (od:Option Addr) (kV doc pm:Value) (an:Option Addr) (cdv ct:Value) (osl:Array (Option Value)),
  fd=W.fnOf x qual (vG st) (y8 st) (zG st) .none kV doc pm an cdv ct/\K.lookup f=some ⟨oc,od,.func fd,osl⟩/\W.codeIn K cdv qual=true
 kp:W.keepIn K (.ref f)=true
section
variable {P:Program} {w:World} {K:W.Frag} {mg:Str->Option Value} {base:Heap}
theorem Fun.ok {x b:Str} {st:Stmt} {f:Addr} {fd:FuncData} {N ps:List Str} {k:Nat} {sp:Sp} (F:Fun K x b st f fd) (S:zM N ps (zG st)) (len:∀ vs H Q E,sp vs H Q E->vs.length=ps.length)
  (d:∀ (c:Value) (A:Around) (a:List Env) (s:Shared) (H:Hp) (vs:List V) (Q:VK) (E:XK),zZ k (A.deeper (envOfC b (zG st) s.heap.objs.size f c))->sp vs H Q E ->
   ∃ t,PSs (uS CX0 P w K mg base N b (zG st) f c A a s H E).nox (y8 st) t/\t { nx:=λ_ i=>Q .non i,rt:=Q } (start N vs) H):tH P w K mg base CX0 (k + 1) f fd ps sp:=by
 obtain ⟨o,p,kV,j,pm,r,c,u,l,rfl,m,e⟩:=F.ex
 refine zGO m e S len λA a s H vs Q E n g=>?_
 obtain ⟨t,h,q⟩:=d c A a s H vs Q E n g
 exact ⟨t,h.nox,q⟩
theorem Fun.binds {x a:Str} {st:Stmt} {f:Addr} {fd:FuncData} {ps:List Str} (F:Fun K x a st f fd)
  (h:∀ (kV b pm:Value) (d:Option Addr) (c ct:Value) (us:List Value),us.length=ps.length->bindArgs (W.fnOf x a (vG st) (y8 st) (zG st) .none kV b pm d c ct) ⟨us,[]⟩=pure (ps.zip us)):uV K fd ps []:=by
 obtain ⟨i,j,kV,b,pm,d,c,ct,e,rfl,k,g⟩:=F.ex
 exact .all (h kV b pm d c ct)
theorem rJ {x a:Str} {st:Stmt} {f:Addr} {h:Value} {i g:Option Addr} {e:Array (Option Value)} {kV d pm b ct:Value} (l:K.lookup f=some ⟨h,i,.func (W.fnOf x a (vG st) (y8 st) (zG st) .none kV d pm g b ct),e⟩)
  (c:W.codeIn K b a=true) (k:W.keepIn K (.ref f)=true):Fun K x a st f (W.fnOf x a (vG st) (y8 st) (zG st) .none kV d pm g b ct):=⟨⟨h,i,kV,d,pm,g,b,ct,e,rfl,l,c⟩,k⟩
end
theorem vS {A:Around} {k:Nat} (a:zZ k A):A.units + 1 < cLine:=Nat.lt_of_le_of_lt (Nat.add_le_add_left (by decide:1 <= 64) _) a.units
theorem cN {n:Nat} (h:n <= 1000):n < sizeLine:=Nat.lt_of_le_of_lt h (by decide)
section
variable {X:Cx}
theorem pv (i:Nat) {x:Str} {pos:Pos} (b:X.N[i]?=some x:=by rfl) (c:Vis X.env.scope x:=by first | exact Or.inl rfl | exact Or.inr (Or.inl rfl) | exact Or.inr (Or.inr rfl)) (hd:(x == ("__debug__" : Str))=false:=by decide)
  (a:(x == ("__classdict__" : Str))=false:=by decide):PE X (.Name x pos) (u5 i):=zHR b c hd a
end
theorem n9 {A B:Prop} (h:B):if false=true then A else B:=by
 rw [if_neg zNB]
 exact h
theorem o9 {A B:Prop} (h:A):if true=true then A else B:=by
 rw [if_pos rfl]
 exact h
theorem mB {c A B:Prop} [Decidable c] (a:c->A) (b:¬ c->B):if c then A else B:=by
 by_cases h:c
 ·rw [if_pos h]
  exact a h
 ·rw [if_neg h]
  exact b h
def zI7 (H a:Hp):Prop:=∀ b o,H b=some o->a b=some o
theorem zI7.seq {K:W.Frag} {H b:Hp} {a:Addr} {xs:List V} (e:zI7 H b) (h:SqL K H a xs):SqL K b a xs:=by
 rcases h with (h | ⟨o,h⟩) | h
 ·exact .inl (.inl (e _ _ h))
 ·exact .inl (.inr ⟨o,e _ _ h⟩)
 ·exact .inr h
end L2
set_option maxHeartbeats 4000000
namespace L2
open PySem PySem.Spec PyProof.Rows
noncomputable def clF (env:Env):List (Str × NameKind)->List (Str × Addr)->List (Str × Addr)
 | [],a=>a
 | (n,k) :: r,a=>clF env r (if k == NameKind.free then (n,(env.cells.lookup n).getD 0) :: a else a)
theorem zFH (env:Env):∀ l a,(∀ n,(n,NameKind.free) ∈ l->(env.cells.lookup n).isSome=true) ->
  (forIn l a λx r=>(match x with
   | (name,kind)=>if (kind == NameKind.free)=true then (do let c <- cellOf env name;pure (ForInStep.yield ((name,c) :: r))) else pure (ForInStep.yield r):Sem (ForInStep (List (Str × Addr)))))=pure (clF env l a):=by
 intro l
 induction l with
 | nil=>intro a _;rfl
 | cons x l d=>
  intro a h
  obtain ⟨n,k⟩:=x
  rw [List.forIn_cons]
  by_cases e:k=NameKind.free
  ·subst e
   have f:=h n zNC
   obtain ⟨c,g⟩:=Option.isSome_iff_exists.mp f
   simp only [beq_self_eq_true,if_true,clF,g,Option.getD_some,cellOf,pure_bind]
   exact d _ λm b=>h m (zMW _ b)
  ·have i:(k == NameKind.free)=false:=by simpa using e
   simp only [i,Bool.false_eq_true,if_false,clF,pure_bind]
   exact d _ λm b=>h m (zMW _ b)
theorem wX {scope:Scope} {env:Env} (h:∀ n,(n,NameKind.free) ∈ scope.names->(env.cells.lookup n).isSome=true) :
  closureFor scope env=pure (clF env scope.names []):=by
 have e:=zFH env scope.names [] h
 unfold closureFor
 simp only [bind_pure] at e ⊢
 exact e
theorem zFG (env:Env):∀ l a,(∀ n,(n,NameKind.free) ∈ l->(env.cells.lookup n).isSome=true) ->
  (∀ y c,a.lookup y=some c->env.cells.lookup y=some c)->∀ y c,(clF env l a).lookup y=some c->env.cells.lookup y=some c:=by
 intro l
 induction l with
 | nil=>intro a _ h;exact h
 | cons x l g=>
  intro a h d
  obtain ⟨n,k⟩:=x
  refine g _ (λm i=>h m (zMW _ i)) ?_
  by_cases f:k=NameKind.free
  ·subst f
   obtain ⟨c,e⟩:=Option.isSome_iff_exists.mp (h n zNC)
   simp only [beq_self_eq_true,if_true,e,Option.getD_some]
   intro y j q
   rw [List.lookup_cons] at q
   cases b:y == n with
   | true=>
    rw [b] at q
    have o:y=n:=by simpa using b
    cases q
    rw [o];exact e
   | false=>
    rw [b] at q
    exact d y j q
  ·have p:(k == NameKind.free)=false:=by simpa using f
   simp only [p,Bool.false_eq_true,if_false]
   exact d
theorem zFI (env:Env):∀ l a y,((y,NameKind.free) ∈ l \/ (a.lookup y).isSome=true)->((clF env l a).lookup y).isSome=true:=by
 intro l
 induction l with
 | nil=>intro a y h;exact h.elim (λz=>by cases z) id
 | cons x l c=>
  intro a y h
  obtain ⟨n,k⟩:=x
  refine c _ y ?_
  rcases h with h | h
  ·rcases List.mem_cons.mp h with e | e
   ·cases e
    right
    simp
   ·exact .inl e
  ·right
   by_cases b:k=NameKind.free
   ·subst b
    simp only [beq_self_eq_true,if_true,List.lookup_cons]
    cases f:y == n <;> simp [h]
   ·have d:(k == NameKind.free)=false:=by simpa using b
    simp only [d,Bool.false_eq_true,if_false]
    exact h
theorem rT {scope:Scope} {env:Env}:∀ (l:List (Str × NameKind)) (x:Str) (k:NameKind),
  (l.map λ(n,k)=>if (k == NameKind.free && env.scope.kind == .function && env.kindOf n == some .cell) then (n,NameKind.cell) else (n,k)).lookup x=some k->k=.cell \/ k=.free ->
  (∀ y ∈ l,y.2 ≠ .cell)->(x,NameKind.free) ∈ l
 | [],x,k,h,_,_=>by simp at h
 | (n,a) :: r,x,k,h,c,d=>by
  rw [List.map_cons,List.lookup_cons] at h
  have f:(if (a == NameKind.free && env.scope.kind == .function && env.kindOf n == some .cell)=true then (n,NameKind.cell) else (n,a)).1=n:=by split <;> rfl
  simp only [f] at h
  cases b:x == n with
  | true=>
   rw [b] at h
   have g:x=n:=by simpa using b
   subst g
   simp only [Option.some.injEq] at h
   split at h
   ·rename_i q
    simp only [Bool.and_eq_true,beq_iff_eq] at q
    rw [q.1.1];exact zNC
   ·have e:a=k:=h
    rcases c with z | z
    ·exact absurd (e.trans z) (d _ zNC)
    ·rw [e,z];exact zNC
  | false=>
   rw [b] at h
   exact zMW _ (rT (scope:=scope) r x k h c λy i=>d y (zMW _ i))
noncomputable def cxC (X:Cx) (xs:List Str) (ix:List Nat) (scope:Scope) (C:Addr) (d:List Addr) (s:Shared) (H:Hp):Cx:=
  { X with N:=xs ++ ix.map (λi=>X.N.getD i ""),s₀:=s,H₀:=H,env:=compEnvC scope (clF X.env scope.names []) C X.env,
           outer:=X.stack,stack:=X.stack,ex:=d,fn:=λ_=>false,pn:=[],xe:=λ_ _=>False }
noncomputable def stC (xs:List Str) (ix:List Nat) (a:St):St:=xs.map (λ_=>none) ++ ix.map (λi=>(a[i]?).join)
structure xO (X:Cx) (xs:List Str) (ix:List Nat) (scope:Scope):Prop where
 kind:scope.kind=.function
 nocell:∀ y ∈ scope.names,y.2 ≠ .cell
 loc:∀ y ∈ scope.names,y.2=.local->scope.names.lookup y.1=some .local
 fre:∀ n,(n,NameKind.free) ∈ scope.names->X.env.kindOf n=some .cell \/ X.env.kindOf n=some .free
 own:∀ x ∈ xs,scope.names.lookup x=some .local
 nd:(xs ++ ix.map (λi=>X.N.getD i "")).Nodup
 inN:∀ i ∈ ix,i < X.N.length
 frx:∀ i ∈ ix,scope.names.lookup (X.N.getD i "")=some .free
theorem rW {scope:Scope} {env:Env}:∀ (l:List (Str × NameKind)) (x:Str),l.lookup x=some .free ->
  (l.map λ(n,k)=>if (k == NameKind.free && env.scope.kind == .function && env.kindOf n == some .cell) then (n,NameKind.cell) else (n,k)).lookup x=some .cell \/
  (l.map λ(n,k)=>if (k == NameKind.free && env.scope.kind == .function && env.kindOf n == some .cell) then (n,NameKind.cell) else (n,k)).lookup x=some .free
 | [],x,h=>by simp at h
 | (n,a) :: r,x,h=>by
  rw [List.lookup_cons] at h
  rw [List.map_cons,List.lookup_cons]
  have d:(if (a == NameKind.free && env.scope.kind == .function && env.kindOf n == some .cell)=true then (n,NameKind.cell) else (n,a)).1=n:=by split <;> rfl
  simp only [d]
  cases b:x == n with
  | true=>
   rw [b] at h
   have e:=zMQ h
   subst e
   by_cases c:(NameKind.free == NameKind.free && env.scope.kind == .function && env.kindOf n == some .cell)=true
   ·left;simp only [if_pos c]
   ·right;simp only [if_neg c]
  | false=>
   rw [b] at h
   exact rW (scope:=scope) r x h
theorem sG {J:Heap}
  (S:xO X xs ix scope) (I:Inv X qp t H s) (L:∀ b ∈ E,uU X qp H b) (M:∀ b ∈ E,∃ o,s.heap.get? b=some o)
  (O:J.Ns s.heap.objs.size (λ_=>none)) (G:∀ b o,s.heap.get? b=some o->J.get? b=some o) (Q:s1 = { s with heap:=J,toks:=tk }) :
  Inv (cxC X xs ix scope s.heap.objs.size E s H) [] (stC xs ix t) H s1:=by
 subst Q
 have T:∀ n,(n,NameKind.free) ∈ scope.names->(X.env.cells.lookup n).isSome=true:=λn hn=>by
  obtain ⟨c,e⟩:=I.ok.has n (S.fre n hn)
  rw [e];rfl
 have sub:=zFG X.env scope.names [] T (λy c q=>by simp at q)
 have has:=λy hy=>zFI X.env scope.names [] y (.inl hy)
 have U:∀ b ∈ E,b ∉ frs X.stack:=λb w z=>by
  obtain ⟨_,f1,f2,_⟩:=L b w
  rcases List.mem_cons.mp (I.stkSub b z) with q | q
  ·exact f1 q
  ·exact f2 q
 have f:∀ x k,(cxC X xs ix scope s.heap.objs.size E s H).env.kindOf x=some k->k=.cell \/ k=.free->(x,NameKind.free) ∈ scope.names:=λx k e Y=>
  rT (scope:=scope) (env:=X.env) scope.names x k e Y S.nocell
 refine ⟨⟨I.ok.mod,S.kind,I.ok.glob,I.ok.blt,zMS _,λx y c a b=>?_,λx hx=>?_,λx c z=>(by cases z),I.ok.hd,I.ok.frames,.inl rfl,λb w=>?_,I.bs,zMU I.ok.bsz I.sz,λb o e w=>?_,U,I.stack,I.stkFree⟩,
  rfl,I.bare,Un.kept G,⟨_,O,λi x v Q e2 e3=>?_⟩,λx c e=>?_,I.hok.fresh (zMS _),λx c e=>I.freeC x c (sub x c e),λp hp=>absurd (show p ∈ ([]:LAO) from hp) (by simp),I.hok.kept G,?_⟩
 ·exact I.ok.inj x y c (sub x c a) (sub y c b)
 ·have hm:(x,NameKind.free) ∈ scope.names:=hx.elim (λz=>f x _ z (.inl rfl)) λz=>f x _ z (.inr rfl)
  exact Option.isSome_iff_exists.mp (has x hm)
 ·obtain ⟨f0,f1,f2,f3,f4,f5⟩:=L b w
  obtain ⟨o,ho⟩:=M b w
  exact ⟨λz=>Nat.lt_irrefl _ (Nat.lt_of_lt_of_eq (Heap.lt_size ho) z.symm),λx c e=>f4 x c (sub x c e)⟩
 ·obtain ⟨f0,f1,f2,f3,f4,f5⟩:=L b w
  rcases f3 with q | q
  ·exact I.ok.noex b o e q
  ·exact Nat.lt_irrefl _ (zM5 (Heap.lt_size e) (zMU I.ok.bsz q))
 ·have d:(xs.map (λ_=>(none:Option V)) ++ ix.map (λi=>(t[i]?).join))[i]?=some (some v):=e2
  have l:(xs ++ ix.map (λi=>X.N.getD i ""))[i]?=some x:=Q
  by_cases hi:i < xs.length
  ·rw [zM7 (by simpa using hi),zMP] at d
   cases q:xs[i]? with
   | none=>rw [q] at d;cases d
   | some z=>rw [q] at d;cases d
  ·have A:xs.length <= i:=Nat.not_lt.mp hi
   rw [zM6 (by simpa using A),zMJ,zMP] at d
   rw [zM6 A,zMP] at l
   cases q:ix[i - xs.length]? with
   | none=>rw [q] at d;cases d
   | some j=>
    rw [q] at l d
    have hj:j ∈ ix:=zMN q
    have ex:X.N.getD j ""=x:=zMQ l
    have B:(t[j]?).join=some v:=zMQ d
    have a1:=S.inN j hj
    have eN:X.N[j]?=some x:=by
     rw [<- ex,zMO]
     rw [zMK a1];rfl
    have a2:t[j]?=some (some v):=by
     cases z:t[j]? with
     | none=>rw [z] at B;cases B
     | some y=>rw [z] at B;simp at B;rw [B]
    have g:=S.frx j hj
    rw [ex] at g
    have h:=S.fre x (PySem.mem_of_lookup g)
    obtain ⟨m,hn,hl⟩:=I.loc
    obtain ⟨u,ru,lk⟩:=hl j x v eN a2 (h.elim (λz=>.inr (.inl z)) λz=>.inr (.inr z))
    refine ⟨u,ru,.inr ⟨rW (scope:=scope) (env:=X.env) scope.names x g,?_⟩⟩
    rcases lk with ⟨k1,_⟩ | ⟨_,c,ec,zc⟩
    ·rcases h with z | z <;> (rw [z] at k1;cases k1)
    ·obtain ⟨c',C⟩:=Option.isSome_iff_exists.mp (has x (PySem.mem_of_lookup g))
     have q2:=sub x c' C
     rw [ec] at q2;cases q2
     obtain ⟨D,r,hd⟩:=zc
     exact ⟨c,C,D,G c D r,hd⟩
 ·obtain ⟨v,D,r,hd⟩:=I.cell x c (sub x c e)
  exact ⟨v,D,G c D r,hd⟩
 ·show (xs.map (λ_=>(none:Option V)) ++ ix.map (λi=>(t[i]?).join)).length=(xs ++ ix.map (λi=>X.N.getD i "")).length
  simp
noncomputable def cxX (X:Cx) (xs:List Str) (ix:List Nat) (scope:Scope) (C:Addr) (b:List Addr) (s:Shared) (H:Hp) (a:VSP):Cx:={ cxC X xs ix scope C b s H with xe:=a }
theorem Inv.toX (I:Inv X b c H s) (a:VSP):Inv { X with xe:=a } b c H s:=
 ⟨⟨I.ok.mod,I.ok.kind,I.ok.glob,I.ok.blt,I.ok.above,I.ok.inj,I.ok.has,I.ok.cab,I.ok.hd,I.ok.frames,I.ok.stk,I.ok.exf,I.ok.bs,I.ok.bsz,I.ok.noex,I.ok.exfs,I.ok.funs,I.ok.frf⟩,
  I.os,I.bare,I.base,I.loc,I.cell,I.free,I.freeC,I.pin,I.hok,I.len⟩
theorem zB3 (J:Nat->Shared->Prop) (nof:∀ e s',Eb e s'->notedBy (model prog w) A env (λe s'=>R (.error e) s') e s')
  (turn:∀ n s,J n s->wpAny (model prog w) A (pyNext f) (λr g=>match r with
   | none=>R (.ok .next) g
   | some v=>wpAny (model prog w) A (letOwnedTupleGo target f v) (λ_ a=>wpAny (model prog w) A (assign target env v) (λ_ k=>
     wpAny (model prog w) A (forIn b true λc r=>if r=true then do let ok <- isTrue c env (eval c env);pure (ForInStep.yield ok) else pure (ForInStep.yield r)) (λok i=>
      if ok=true then wpAny (model prog w) A (eval d env) (λx l=>
       wpAny (model prog w) A (call (.builtin "list.append") [acc,x]) (λ_ o=>∃ m,m < n/\J m o) Eb l) Eb i
      else ∃ m,m < n/\J m i) Eb k) Eb a) Eb g) Eb s)
  (n:Nat) (h:J n s):codeAny (model prog w) A (.compLoop (.ListComp d [⟨target,iter,b,0⟩] scope pos) 0 f acc env) R s:=by
 refine codeAny_loop rfl J (λn s t=>?_) n h
 show wpAny (model prog w) A ((compTurn (.ListComp d [⟨target,iter,b,0⟩] scope pos) 0 f acc env).onRaise (λx=>do noteFrame x env;theTreesLotGoes x)) _ _ s
 refine wpAny_noted ?_
 rw [compTurn_list]
 refine wpAny_bind (wpAny_standAt (wpAny_bind (wpAny_mono (turn n s t) (λr g p=>?_) nof)))
 cases r with
 | none=>exact wpAny_pure p
 | some v=>
  refine wpAny_bind (wpAny_mono p (λ_ a j=>?_) nof)
  refine wpAny_bind (wpAny_mono j (λ_ k u=>?_) nof)
  refine wpAny_bind (wpAny_mono u (λok i q=>?_) nof)
  cases ok with
  | false=>exact wpAny_pure ⟨rfl,q⟩
  | true=>
   refine wpAny_bind (wpAny_bind (wpAny_mono q (λx l y=>?_) nof))
   exact wpAny_bind (wpAny_mono y (λ_ o z=>wpAny_pure (wpAny_pure ⟨rfl,z⟩)) nof)
def PTs (X:Cx) (a:List Expr) (t:TT):Prop:=
 ∀ d s b H Q,Inv X d b H s->t b H Q ->
  wpAny (model X.prog X.w) X.A (forIn a true λc r=>if r=true then do let ok <- isTrue c X.env (eval c X.env);pure (ForInStep.yield ok) else pure (ForInStep.yield r)) (TP X d b Q) X.xe s
def sT:TT:=λ_ H Q=>Q true H
theorem xG:PTs X [] sT:=λ_ _ _ H _ I h=>wpAny_tests_nil ⟨H,I,h⟩
theorem kN (h:PT X c t):PTs X [c] t:=λa s b H Q I d=>wpAny_tests_one (h a s b H Q I d)
def LCW (J:It) (xs:List Str) (ix:List Nat) (g:TG) (n:TT) (o:TE) (p:St) (H1:Hp) (acc:Addr) (Q:VK):Prop:=
 ∃ W:Nat->Nat->List V->St->Hp->Prop,(∃ m,W 0 m [] (stC xs ix p) (upd H1 acc (.lst []))) /\
  ∀ i m c h H,W i m c h H->H acc=some (.lst c)/\c.length < sizeLine /\
   ((J.stop i H/\Q (.ref acc) H) \/ (J.go i H/\∃ N:List V->St->Hp->Prop,(∀ d e f,N d e f->∃ j,j < m/\W (i + 1) j d e f) /\
    ∀ x f,J.yld i H x f->g x h f λa q=>n a q λb k=>
    if b=true then o a k λy l=>l acc=some (.lst c)/\N (c ++ [y]) a (upd l acc (.lst (c ++ [y]))) else N c a k))
def tLC (xs:List Str) (ix:List Nat) (c:TI) (g:TG) (d:TT) (e:TE):TE:=λa H Q=>c a H λJ b=>∀ acc,b acc=none->LCW J xs ix g d e a b acc Q
structure zMC (Reg:Cx->Prop) (P:Program) (w:World) (tg:Expr) (J:It) (fp:List Addr) (it:Addr) (tn:Nat->Heap->Prop):Prop where
 mem:it ∈ fp
 obj:∀ i h,tn i h->∀ b ∈ fp,∃ o,h.get? b=some o/\∀ v,o.data ≠ .cell v
 keep:∀ i h h',tn i h->(∀ b ∈ fp,∀ o,h.get? b=some o->h'.get? b=some o)->tn i h'
 item:∀ (X:Cx),X.prog=P->X.w=w->Reg X->∀ (i:Nat) (qp:LAO) (s:Shared) (σ:St) (H:Hp) (E:VSP),Inv X qp σ H s->(∀ b ∈ fp,uU X qp H b)->tn i s.heap->J.go i H ->
  wpAny (model P w) X.A (pyNext (.ref it)) (λr s1=>∃ u,r=some u /\
   wpAny (model P w) X.A (letOwnedTupleGo tg (.ref it) u) (λ_ s2=>∃ x H',Inv X qp σ H' s2/\yX x u/\J.yld i H x H'/\tn (i + 1) s2.heap/\∀ b ∈ fp,H' b=none) E s1) E s
 done:∀ (X:Cx),X.prog=P->X.w=w->Reg X->∀ (i:Nat) (qp:LAO) (s:Shared) (σ:St) (H:Hp) (E:VSP),Inv X qp σ H s->(∀ b ∈ fp,uU X qp H b)->tn i s.heap->J.stop i H ->
  wpAny (model P w) X.A (pyNext (.ref it)) (λr s1=>r=none/\Inv X qp σ H s1) E s
 self:∀ (A:Around) (i:Nat) (s:Shared) (Q:VSP) (E:VSP),tn i s.heap->Q (.ref it) s->wpAny (model P w) A (pyIter (.ref it)) Q E s
def PIEG (Reg:Cx->Prop) (X:Cx) (d:LAO) (i:St) (j:Expr) (R:It->Hp->Prop) (a:Value) (e:Shared):Prop:=
 ∃ f g h J c,a=.ref f/\Inv X d i c e/\zMC Reg X.prog X.w j J g f h/\h 0 e.heap/\(∀ b ∈ g,uU X d c b)/\R J c
def PIG (Reg:Cx->Prop) (X:Cx) (c iter:Expr) (d:TI):Prop:=
 ∀ b s a H R,Inv X b a H s->d a H R ->
  wpAny (model X.prog X.w) X.A (eval iter X.env) (λv e=>wpAny (model X.prog X.w) X.A (pyIter v) (PIEG Reg X b a c R) X.xe e) X.xe s
theorem zB5 (xf:Addr->List Addr->Shared->Hp->VSP)
    (S:xO X xs ix scope) (aa:∀ Y:Cx,Y.K=X.K->Y.calm=X.calm->Y.A.handled=X.A.handled->Reg Y) (hi:PIG Reg X tg iter wi)
    (hg:∀ C f s H,PG (cxX X xs ix scope C f s H (xf C f s H)) tg g) (ht:∀ C f s H,PTs (cxX X xs ix scope C f s H (xf C f s H)) a2 tt) (he:∀ C f s H,PE (cxX X xs ix scope C f s H (xf C f s H)) a3 te)
 (I:Inv X qp σ H s) (h:tLC xs ix wi g tt te σ H Q)
    (nf:∀ f a H3 acc e s',Inv X qp σ H3 a->(∀ b ∈ f,uU X qp H3 b)->xf a.heap.objs.size f a H3 e s'->notedBy (model X.prog X.w) X.A (compEnvC scope (clF X.env scope.names []) a.heap.objs.size X.env) (λe s'=>compPost (model X.prog X.w) X.A X.xe use R acc a.heap.objs.size (.error e) s') e s')
    (fin:∀ acc C t s' m,Q (.ref acc) t->s'.heap.Ns C m->(∀ h',Heap.SameBut C s'.heap h'->∀ tk,Inv X qp σ t { s' with heap:=h',toks:=tk })->(X.s₀.heap.objs.size <= C/\C ≠ X.env.locals/\(∀ x c,X.env.cells.lookup x=some c->c ≠ C)/\(∀ p ∈ X.pn ++ qp,p.1 ≠ C)/\t C=none)->compPost (model X.prog X.w) X.A X.xe use R (.ref acc) C (.ok .next) s') :
    wpAny (model X.prog X.w) X.A (eval iter X.env) (λx ab=>wpAny (model X.prog X.w) X.A (pyIter x) (λit ac=>wpAny (model X.prog X.w) X.A (newList []) (λacc ae=>
      wpAny (model X.prog X.w) X.A (newFunctionEnv scope X.env.globals (clF X.env scope.names []) [] X.env.qual none .none (some X.env)) (λa1 af=>
        codeAny (model X.prog X.w) X.A (.compStart (.ListComp a3 [⟨tg,iter,a2,0⟩] scope pos) 0 it acc { a1 with scope:=relabel scope X.env }) (compPost (model X.prog X.w) X.A X.xe use R acc a1.locals) af) X.xe ae) X.xe ac) X.xe ab) X.xe s:=by
  refine thn (hi qp s σ H _ I h) λv s1 h1=>thn h1 λbv U h2=>?_
  obtain ⟨it,f,tn,J,B,rfl,I2,T,ag,f2,q⟩:=h2
  refine wpAny_newObj_type ?_
  have I3:Inv X qp σ (upd B U.heap.objs.size (.lst [])) { U with heap:=U.heap.push { cls:=.type "list",data:=.seq ([]:List Value).toArray },toks:=U.toks }:=I2.lnew (ys:=[]) (its:=[]) .nil (zMT _)
  obtain ⟨W,⟨m0,w0⟩,turn⟩:=q U.heap.objs.size I2.fresh
  have G:=T.obj 0 _ ag
  have a4:∀ b ∈ f,b ≠ U.heap.objs.size:=λb k z=>by
    obtain ⟨o,ho,_⟩:=G b k
    exact Nat.lt_irrefl _ (Nat.lt_of_lt_of_eq (Heap.lt_size ho) z.symm)
  generalize bu:U.heap.objs.size=acc at *
  generalize ah:({ U with heap:=U.heap.push { cls:=.type "list",data:=.seq ([]:List Value).toArray } }:Shared)=a
  have I3:Inv X qp σ (upd B acc (.lst [])) a:=by rw [<- ah];exact I3
  have k3:∀ b o,U.heap.get? b=some o->a.heap.get? b=some o:=λb o e=>by rw [<- ah];exact Heap.get?_push_of_some _ e
  have f3:∀ b ∈ f,uU X qp (upd B acc (.lst [])) b:=λb k=>⟨by rw [zK (a4 b k)];exact (f2 b k).1,(f2 b k).2⟩
  have o3:∀ b ∈ f,∃ o,a.heap.get? b=some o:=λb k=>let ⟨o,ho,_⟩:=G b k;⟨o,k3 b o ho⟩
  have b4:tn 0 a.heap:=T.keep _ _ _ ag λb _ o e=>k3 b o e
  refine wpAny_newFunctionEnv S.nocell (by intro y hy;simp at hy) (λh1 ai aj=>?_) S.kind
  have L:∀ b o,a.heap.get? b=some o->h1.get? b=some o:=λb o e=>aj.extBut b o (zNA (Heap.lt_size e)) (Heap.get?_push_of_some _ e)
  generalize ak:({ a with heap:=h1,toks:=a.toks + ([]:List (Str × Value)).length }:Shared)=s4
  have I4:Inv (cxC X xs ix scope a.heap.objs.size f a (upd B acc (.lst []))) [] (stC xs ix σ) (upd B acc (.lst [])) s4:=sG S I3 f3 o3 ai L ak.symm
  have al:tn 0 s4.heap:=T.keep _ _ _ b4 λb _ o e=>by rw [<- ak];exact L b o e
  have nf:=λav e s'=>nf f a (upd B acc (.lst [])) av e s' I3 f3
  have hg:=hg a.heap.objs.size f a (upd B acc (.lst []))
  have ht:=ht a.heap.objs.size f a (upd B acc (.lst []))
  have he:=he a.heap.objs.size f a (upd B acc (.lst []))
  generalize xf a.heap.objs.size f a (upd B acc (.lst []))=xb at hg ht he nf
  have I4:Inv (cxX X xs ix scope a.heap.objs.size f a (upd B acc (.lst [])) xb) [] (stC xs ix σ) (upd B acc (.lst [])) s4:=I4.toX xb
  generalize j:cxX X xs ix scope a.heap.objs.size f a (upd B acc (.lst [])) xb=l at *
  have eP:l.prog=X.prog:=by rw [<- j];rfl
  have ew:l.w=X.w:=by rw [<- j];rfl
  have eK:l.K=X.K:=by rw [<- j];rfl
  have eA:l.A=X.A:=by rw [<- j];rfl
  have ec:Reg l:=aa l eK (by rw [<- j];rfl) (by rw [<- j];rfl)
  have ex:l.xe=xb:=by rw [<- j];rfl
  have D:l.env=compEnvC scope (clF X.env scope.names []) a.heap.objs.size X.env:=by rw [<- j];rfl
  have a0:l.ex=f:=by rw [<- j];rfl
  have ba:l.fs=frs X.stack:=by rw [<- j];rfl
  have bb:l.pn=[]:=by rw [<- j];rfl
  have bc:l.H₀=upd B acc (.lst []):=by rw [<- j];rfl
  have an:l.s₀=a:=by rw [<- j];rfl
  have E:l.env.locals=a.heap.objs.size:=by rw [D];rfl
  have M:∀ {t:Hp},(∀ b ∈ f,t b=none)->∀ b ∈ f,uU l [] t b:=λ{t} hn b k=>by
    refine ⟨hn b k,?_,?_,.inl (by rw [a0];exact k),?_,?_⟩
    · rw [E]
      intro z
      obtain ⟨o,ho⟩:=o3 b k
      exact Nat.lt_irrefl _ (Nat.lt_of_lt_of_eq (Heap.lt_size ho) z.symm)
    · exact I4.ok.exfs b (by rw [a0];exact k)
    · exact (I4.ok.exf b (by rw [a0];exact k)).2
    · rw [bb];intro p hp;exact absurd hp (by simp)
  have loop:codeAny (model X.prog X.w) X.A (.compLoop (.ListComp a3 [⟨tg,iter,a2,0⟩] scope pos) 0 (.ref it) (.ref acc) l.env) (compPost (model X.prog X.w) X.A X.xe use R (.ref acc) a.heap.objs.size) s4:=by
    refine zB3 (Eb:=xb) (nof:=?nf) (J:=λn s'=>∃ i ys τ t,Inv l [] τ t s'/\tn i s'.heap/\(∀ b ∈ f,t b=none)/\W i n ys τ t) ?tn m0 ⟨0,[],_,_,I4,al,λb k=>(f3 b k).1,w0⟩
    case nf=>
      rw [D]
      exact nf (.ref acc)
    rintro n s5 ⟨i,ys,τ,H5,I5,ao,aq,w5⟩
    obtain ⟨bx,bd,be⟩:=turn i n ys τ H5 w5
    rcases be with ⟨stop,qn⟩ | ⟨go,N,hN,step⟩
    · have d:=T.done l eP ew ec i [] s5 τ H5 xb I5 (M aq) ao stop
      rw [eA] at d
      refine thn d λr s6 ar=>?_
      obtain ⟨hr,I6⟩:=ar
      subst hr
      obtain ⟨m,au,_⟩:=id I6.loc
      rw [E] at au
      refine fin acc a.heap.objs.size H5 s6 m qn au (λh' bf tk=>?_) ⟨I3.sz,Ne.symm (zNA I3.lt),λx c e z=>by
        obtain ⟨v,oc,bg,_⟩:=I3.cell x c e
        exact Nat.lt_irrefl _ (Nat.lt_of_lt_of_eq (Heap.lt_size bg) z.symm),λp hp z=>Nat.lt_irrefl _ (Nat.lt_of_lt_of_eq (Heap.lt_size (I3.pin p hp).1) z.symm),by have:=I6.free;rw [E] at this;exact this⟩
      have same:∀ b,b ≠ a.heap.objs.size->h'.get? b=s6.heap.get? b:=λb k=>bf.2 b k
      have ub:=I6.base
      rw [ba,a0,bc,an] at ub
      have a5:∀ b o,a.heap.get? b=some o->b ≠ a.heap.objs.size:=λb o e=>zNA (Heap.lt_size e)
      have u:Un (frs X.stack) f (upd B acc (.lst [])) H5 a.heap h':=
        ⟨λb o e n1 n2 n3=>(same b (a5 b o e)).trans (ub.keep b o e n1 n2 n3),λb o e n1 n2 n3=>by
            obtain ⟨sl,z⟩:=ub.slot b o e n1 n2 n3
            exact ⟨sl,(same b (a5 b o e)).trans z⟩,ub.free,λb o e n3=>by
            obtain ⟨o',z⟩:=ub.there b o e n3
            exact ⟨o',(same b (a5 b o e)).trans z⟩,ub.tups,ub.frzs,ub.tbls⟩
      have fC:H5 a.heap.objs.size=none:=by have:=I6.free;rw [E] at this;exact this
      have bh:HOk X.prog X.w H5 h':=λb o e=>by
        have z:=I6.hok b o e
        rw [eP,ew] at z
        refine z.stay (λc u hc q=>(same c ?_).trans q) (λ_ q=>q) λ_ _ q=>q
        intro zc
        rcases hc with q1 | q1
        · rw [<- q1,zc,fC] at e;cases e
        · rw [zc,fC] at q1;cases q1
      have bi:∀ b ∈ f,(b ∈ X.ex \/ X.s₀.heap.objs.size <= b)/\b ≠ X.env.locals/\(∀ x c,X.env.cells.lookup x=some c->c ≠ b)/\∀ p ∈ X.pn ++ qp,p.1 ≠ b:=λb k=>by
        obtain ⟨_,f1,_,g3,g4,g5⟩:=f3 b k
        exact ⟨g3,f1,g4,g5⟩
      have ho:s6.os=a.os:=by have:=I6.os;rw [an] at this;exact this
      exact I3.call' (s':={ s6 with heap:=h',toks:=tk }) (ch:=f) ho u bh I6.bare bi
    · have d:=T.item l eP ew ec i [] s5 τ H5 xb I5 (M aq) ao go
      rw [eA] at d
      refine thn d λr s6 aw=>?_
      obtain ⟨u,hr,h6⟩:=aw
      subst hr
      refine thn h6 λ_ s7 ax=>?_
      obtain ⟨x,H7,I7,r7,y7,a6,bj⟩:=ax
      have bk:=I7.pinned (M bj) (T.obj _ _ a6)
      have dg:=hg _ s7 τ H7 x u _ bk r7 (step x H7 y7)
      rw [eP,ew,eA,ex] at dg
      refine thn dg λ_ s8 ay=>?_
      obtain ⟨O,H8,I8,q8⟩:=ay
      have dt:=ht _ s8 O H8 _ I8 q8
      rw [eP,ew,eA,ex] at dt
      refine thn dt λok s9 az=>?_
      obtain ⟨H9,I9,q9⟩:=az
      have again:∀ {a7:St} {t:Hp} {s':Shared},Inv l ([] ++ vZ f s7.heap) a7 t s'->Inv l [] a7 t s'/\tn (i + 1) s'.heap/\∀ b ∈ f,t b=none:=λ{a7 t s'} Ie=>by
        refine ⟨Ie.unpinned,T.keep _ _ _ a6 λb k o e=>(Ie.pin (b,o) (zMX _ (zMX _ (wF k e)))).1,λb k=>?_⟩
        obtain ⟨o,e,_⟩:=T.obj _ _ a6 b k
        exact (Ie.pin (b,o) (zMX _ (zMX _ (wF k e)))).2.1
      cases ok with
      | false=>
        rw [if_neg zNB] at q9 ⊢
        obtain ⟨m',hm,w9⟩:=hN _ _ _ q9
        obtain ⟨z1,z2,z3⟩:=again I9
        exact ⟨m',hm,i + 1,ys,O,H9,z1,z2,z3,w9⟩
      | true=>
        rw [if_pos rfl] at q9 ⊢
        have de:=he _ s9 O H9 _ I9 q9
        rw [eP,ew,eA,ex] at de
        refine thn de λyv bm b0=>?_
        obtain ⟨y,b1,bn,bo,b2,bp⟩:=b0
        obtain ⟨m',hm,bq⟩:=hN _ _ _ bp
        have dm:=xQ (X:=l) _ bm O b1 (.ref acc) [y] (.ref acc) [yv] (λv t=>v=.non/\t=upd b1 acc (.lst (ys ++ [y]))) bn rfl (.cons bo .nil) ⟨acc,ys,y,rfl,rfl,b2,bd,rfl,rfl⟩
        rw [eP,ew,eA,ex] at dm
        refine thn dm λ_ bz b3=>?_
        obtain ⟨_,c0,br,_,_,bs⟩:=b3
        subst bs
        obtain ⟨z1,z2,z3⟩:=again br
        exact ⟨m',hm,i + 1,ys ++ [y],O,_,z1,z2,z3,bq⟩
  have e4:({ newEnv scope a.heap.objs.size X.env.globals (clF X.env scope.names []) X.env.qual none .none (some X.env) builtinsNs with scope:=relabel scope X.env }:Env)=l.env:=by rw [D];rfl
  rw [D] at loop
  have self:=T.self X.A 0 s4 (λbt s'=>codeAny (model X.prog X.w) X.A (.compLoop (.ListComp a3 [⟨tg,iter,a2,0⟩] scope pos) 0 bt (.ref acc) (compEnvC scope (clF X.env scope.names []) a.heap.objs.size X.env)) (compPost (model X.prog X.w) X.A X.xe use R (.ref acc) a.heap.objs.size) s')
    (notedBy (model X.prog X.w) X.A (compEnvC scope (clF X.env scope.names []) a.heap.objs.size X.env) λx s'=>compPost (model X.prog X.w) X.A X.xe use R (.ref acc) a.heap.objs.size (.error x) s') al loop
  exact codeAny_compStart_list loop self
theorem iT
    (S:xO X xs ix scope) (b:∀ Y:Cx,Y.K=X.K->Y.calm=X.calm->Y.A.handled=X.A.handled->Reg Y) (u:PIG Reg X q iter v)
    (y:∀ C d s H,PG (cxC X xs ix scope C d s H) q g) (z:∀ C d s H,PTs (cxC X xs ix scope C d s H) l B) (D:∀ C d s H,PE (cxC X xs ix scope C d s H) n E)
 (I:Inv X r t H s) (h:tLC xs ix v g B E t H Q)
    (fin:∀ acc C o s' m,Q (.ref acc) o->s'.heap.Ns C m->(∀ h',Heap.SameBut C s'.heap h'->∀ G,Inv X r t o { s' with heap:=h',toks:=G })->(X.s₀.heap.objs.size <= C/\C ≠ X.env.locals/\(∀ x c,X.env.cells.lookup x=some c->c ≠ C)/\(∀ p ∈ X.pn ++ r,p.1 ≠ C)/\o C=none)->compPost (model X.prog X.w) X.A X.xe use R (.ref acc) C (.ok .next) s') :
    wpAny (model X.prog X.w) X.A (eval iter X.env) (λx e=>wpAny (model X.prog X.w) X.A (pyIter x) (λJ i=>wpAny (model X.prog X.w) X.A (newList []) (λacc j=>
      wpAny (model X.prog X.w) X.A (newFunctionEnv scope X.env.globals (clF X.env scope.names []) [] X.env.qual none .none (some X.env)) (λa k=>
        codeAny (model X.prog X.w) X.A (.compStart (.ListComp n [⟨q,iter,l,0⟩] scope pos) 0 J acc { a with scope:=relabel scope X.env }) (compPost (model X.prog X.w) X.A X.xe use R acc a.locals) k) X.xe j) X.xe i) X.xe e) X.xe s:=
  zB5 (λ_ _ _ _ _ _=>False) S b u y z D I h (λ_ _ _ _ _ _ _ _ f=>f.elim) fin
theorem dU
    (S:xO X xs ix scope) (E:X.calm=true) (G:PI X D iter L)
    (M:∀ C b s H,PG (cxC X xs ix scope C b s H) D g) (N:∀ C b s H,PTs (cxC X xs ix scope C b s H) t O) (U:∀ C b s H,PE (cxC X xs ix scope C b s H) u te)
 (I:Inv X n o H s) (h:tLC xs ix L g O te o H Q)
    (fin:∀ acc C d s' m,Q (.ref acc) d->s'.heap.Ns C m->(∀ h',Heap.SameBut C s'.heap h'->∀ tk,Inv X n o d { s' with heap:=h',toks:=tk })->(X.s₀.heap.objs.size <= C/\C ≠ X.env.locals/\(∀ x c,X.env.cells.lookup x=some c->c ≠ C)/\(∀ p ∈ X.pn ++ n,p.1 ≠ C)/\d C=none)->compPost (model X.prog X.w) X.A X.xe use R (.ref acc) C (.ok .next) s') :
    wpAny (model X.prog X.w) X.A (eval iter X.env) (λx f=>wpAny (model X.prog X.w) X.A (pyIter x) (λy i=>wpAny (model X.prog X.w) X.A (newList []) (λacc j=>
      wpAny (model X.prog X.w) X.A (newFunctionEnv scope X.env.globals (clF X.env scope.names []) [] X.env.qual none .none (some X.env)) (λa l=>
        codeAny (model X.prog X.w) X.A (.compStart (.ListComp u [⟨D,iter,t,0⟩] scope pos) 0 y acc { a with scope:=relabel scope X.env }) (compPost (model X.prog X.w) X.A X.xe use R acc a.locals) l) X.xe j) X.xe i) X.xe f) X.xe s:=
  iT (Reg:=λY=>Y.K=X.K/\Y.calm=true) S (λY k c _=>⟨k,c.trans E⟩)
    (λn s o H R I q=>thn (G n s o H R I q) λv s1 h1=>thn h1 λa1 s2 h2=>by
      obtain ⟨y,b,tn,J,d,e,I',T,r⟩:=h2
      exact ⟨y,b,tn,J,d,e,I',⟨T.mem,T.obj,T.keep,λY z B r=>T.item Y z B r.1 r.2,λY z B r=>T.done Y z B r.1 r.2,T.self⟩,r⟩) M N U I h fin
theorem zGH
  (S:xO X xs ix scope) (o:X.calm=true) (p:PI X l iter r)
  (t:∀ C a s H,PG (cxC X xs ix scope C a s H) l g) (u:∀ C a s H,PTs (cxC X xs ix scope C a s H) b v) (w:∀ C a s H,PE (cxC X xs ix scope C a s H) d y)
  (z:∀ x,foldedSetIterable iter X.env x=pure x:=by intro _;rfl) :
  PE X (.ListComp d [⟨l,iter,b,0⟩] scope pos) (tLC xs ix r g v y):=by
 intro E s G H Q I h
 have f:∀ n,(n,NameKind.free) ∈ scope.names->(X.env.cells.lookup n).isSome=true:=λn i=>by
  obtain ⟨c,e⟩:=I.ok.has n (S.fre n i)
  rw [e];rfl
 rw [eval_ListComp]
 refine wpAny_comprehension_free (use:=none) rfl z (wX f) S.kind S.loc ?_
 refine dU S o p t u w I h λacc C A B m q i k _=>?_
 exact ⟨m,i,λD j=>⟨.ref acc,A,k D j B.toks,rfl,q⟩⟩
theorem Inv.letgo (I:Inv X g k H s) (l:Heap.SameBut C s.heap h')
  (m:X.s₀.heap.objs.size <= C/\C ≠ X.env.locals/\(∀ x c,X.env.cells.lookup x=some c->c ≠ C)/\(∀ p ∈ X.pn ++ g,p.1 ≠ C)/\H C=none):Inv X g k H { s with heap:=h' }:=by
 obtain ⟨r,t,v,y,i⟩:=m
 have same:∀ b,b ≠ C->h'.get? b=s.heap.get? b:=λb d=>l.2 b d
 have ne:∀ {b:Addr},b ∉ [C]->b ≠ C:=λh e=>h (by simp [e])
 have u:Un (frs X.stack) [C] H H s.heap h':=
  ⟨λb o e _ _ n=>(same b (ne n)).trans e,λb o e _ _ n=>⟨o.slots,(same b (ne n)).trans e⟩,λb o _ e _=>e,λb o e n=>⟨o,(same b (ne n)).trans e⟩,λ_ _ e=>e,λ_ _ _ e=>e,λb B e=>⟨#[],by rw [Array.append_empty];exact e⟩⟩
 have f:HOk X.prog X.w H h':=λb o e=>by
  refine (I.hok b o e).stay (λc u z q=>(same c ?_).trans q) (λ_ q=>q) λ_ _ q=>q
  intro j
  rcases z with a | a
  ·rw [<- a,j,i] at e;cases e
  ·rw [j,i] at a;cases a
 refine I.call' (s':={ s with heap:=h' }) (ch:=[C]) rfl u f I.bare λb d=>?_
 have A:b=C:=by simpa using d
 subst A
 exact ⟨.inr r,t,v,y⟩
theorem iC {X:Cx} {f pos b:Pos}
  (Y:X.N.Nodup) (u:X.N[i]?=some x) (hx:Loc X.env.scope x)
  (S:xO X xs ix scope) (hc:X.calm=true) (hi:PI X t iter wi)
  (hg:∀ C l s H,PG (cxC X xs ix scope C l s H) t g) (ht:∀ C l s H,PTs (cxC X xs ix scope C l s H) j tt) (he:∀ C l s H,PE (cxC X xs ix scope C l s H) o te)
  (y:swapsWith (.ListComp o [⟨t,iter,j,0⟩] scope f) (some (.Name x b)) pos.line X.env=pure true)
  (hf:X.fn x=true \/ X.env.scope.names.lookup x=some .local:=by first | exact .inl rfl | exact .inr rfl | assumption)
  (hs:∀ x,foldedSetIterable iter X.env x=pure x:=by intro _;rfl) :
  PS X (.Assign [.Name x b] (.ListComp o [⟨t,iter,j,0⟩] scope f) pos) (oE (tLC xs ix wi g tt te) (wA i)):=by
 intro U s σ H D I h
 have B:∀ n,(n,NameKind.free) ∈ scope.names->(X.env.cells.lookup n).isSome=true:=λn E=>by
  obtain ⟨c,e⟩:=I.ok.has n (S.fre n E)
  rw [e];rfl
 rw [exec_Assign_Name_used _ _ _ _ y]
 refine wpAny_bind (wpAny_standAt (wpAny_bind ?_))
 rw [arm_evalThenUse_ListComp]
 refine wpAny_bind (thn (Q:=λ_ p=>SP X U D .next p) (wpAny_comprehension_free (g:=⟨t,iter,j,0⟩) (gs:=[]) (use:=some (assign (.Name x b) X.env)) rfl hs (wX B) S.kind S.loc ?_) λ_ s1 h1=>wpAny_pure (wpAny_pure h1))
 refine dU S hc hi hg ht he I h λacc C H' p m q E k G=>?_
 have I':=k p.heap (Heap.SameBut.refl _ _) p.toks
 show wpAny (model X.prog X.w) X.A (assign (.Name x b) X.env (.ref acc)) (λ_ d=>∃ m,d.heap.Ns C m/\∀ J,Heap.SameBut C d.heap J->SP X U D .next { d with heap:=J }) X.xe p
 refine wpAny_assign_Name (qK I' Y u hx (v:=.ref acc) rfl (λd L r=>?_) hf)
 obtain ⟨a,M,O⟩:=r
 refine ⟨m,E.sameBut M ?_,λJ T=>⟨_,H',L.letgo T G,q⟩⟩
 rcases O with rfl | O
 ·exact G.2.1
 ·exact λz=>G.2.2.1 x a O z.symm
noncomputable def Its (x:Str):It:=⟨λi _=>i < x.cps.size,λi H v a=>a=H/\∃ c,x.cps[i]?=some c/\v=.str ⟨#[c]⟩,λi _=>i=x.cps.size⟩
theorem aJ {P:Program} {w:World} {K:PySem.W.Frag} {tg:Expr} (it:Addr) (x:Str) (t:Tok) (ty:String)
  (hty:["enumerate","zip","dict_itemiterator","dict_reverseitemiterator","odict_iterator","itertools.zip_longest","itertools.pairwise"].contains ty=false)
  (W:∀ A:Around,A.handled=none->Walks P w A it [it] [it] x.cps.size (SignAt x) (λi h=>h.IsStrIter it ty x t i))
  (self:∀ A i s Q E,s.heap.IsStrIter it ty x t i->Q (.ref it) s->wpAny (model P w) A (pyIter (.ref it)) Q E s) :
  zC9 P w K tg (Its x) [it] it (λi h=>h.IsStrIter it ty x t i) where
 mem:=by simp
 obj:=λi h st b hb=>by
  have e:b=it:=by simpa using hb
  subst e
  obtain ⟨o,e,c,d⟩:=st
  exact ⟨o,e,λv z=>by rw [d] at z;cases z⟩
 keep:=λi h h' st k=>let ⟨o,e,r⟩:=st;⟨o,k it (by simp) o e,r⟩
 item:=by
  intro X hP hw hK hc i qp s σ H E I hf st hg
  subst hP hw hK
  obtain ⟨f0,f1,f2,f3,f4,f5⟩:=hf it (by simp)
  refine (W X.A (I.ok.hd hc)).item i s _ _ hg st λv h' tk hv st' kk=>?_
  obtain ⟨c,u,hcx,rfl⟩:=hv
  have I1:Inv X qp σ H { s with heap:=h',toks:=tk }:=I.turned (λb o hb e=>kk b o (by simpa using hb) e) f0 f1 f3 f4 f5
  obtain ⟨o,e,c',d⟩:=id st'
  exact ⟨_,rfl,dZ (s:={ s with heap:=h',toks:=tk }) e c' d hty ⟨.str ⟨#[c]⟩,H,I1,⟨u,rfl⟩,⟨rfl,c,hcx,rfl⟩,st',λb hb=>(hf b hb).1⟩⟩
 done:=by
  intro X hP hw hK hc i qp s σ H E I hf st hg
  subst hP hw hK
  obtain ⟨f0,f1,f2,f3,f4,f5⟩:=hf it (by simp)
  have hg':i=x.cps.size:=hg
  subst hg'
  exact (W X.A (I.ok.hd hc)).done s _ _ st λh' tk kk=>⟨rfl,I.turned (λb o hb e=>kk b o (by simpa using hb) e) f0 f1 f3 f4 f5⟩
 self:=self
section
variable {X:Cx} {tg:Expr}
def iStr (a:TE):TI:=λb H R=>a b H λx c=>∃ z,x=.str z/\R (Its z) c
theorem zA8 {l:Expr} {k:TE} (r:PE X l k):PI X tg l (iStr k):=by
 intro m s n H R I h
 refine thn (r m s n H _ I h) λv a c=>?_
 obtain ⟨x,u,d,y,B⟩:=c
 obtain ⟨z,e,q⟩:=B
 subst e
 obtain ⟨t,rfl⟩:=(show ∃ t,v=Value.str z t from y)
 have fin:∀ o ty,o.cls=.type ty->o.data=.fields #[.str z t,.int 0 0] ->
   ["enumerate","zip","dict_itemiterator","dict_reverseitemiterator","odict_iterator","itertools.zip_longest","itertools.pairwise"].contains ty=false ->
   o.isFreed=false ->
   (∀ A:Around,A.handled=none->Walks X.prog X.w A a.heap.objs.size [a.heap.objs.size] [a.heap.objs.size] z.cps.size (SignAt z) (λi h=>h.IsStrIter a.heap.objs.size ty z t i)) ->
   (∀ A i s Q E,s.heap.IsStrIter a.heap.objs.size ty z t i->Q (.ref a.heap.objs.size) s->wpAny (model X.prog X.w) A (pyIter (.ref a.heap.objs.size)) Q E s) ->
   PIE X m n tg R (.ref a.heap.objs.size) { a with heap:=a.heap.push o }:=λo ty C D G f W self=>by
  refine ⟨a.heap.objs.size,[a.heap.objs.size],_,_,u,rfl,d.kept (t':=a.toks) λb o e=>Heap.get?_push_of_some _ e,aJ _ z t ty G W self,⟨o,Heap.get?_push_size _ f,C,D⟩,λb J=>?_,q⟩
  have e:b=a.heap.objs.size:=by simpa using J
  subst e
  exact d.fpOk (zMS _) (d.hok.fresh (zMS _))
 cases p:z.cps.all (· < 128)
 ·exact wpAny_pyIter_wide p (fin _ "str_iterator" rfl rfl (by decide) rfl (λA g=>Walks.strWide g _ z t) λ_ _ _ _ _ st j=>wpAny_pyIter_striter_wide st j)
 ·exact wpAny_pyIter_ascii p (fin _ "str_ascii_iterator" rfl rfl (by decide) rfl (λA g=>Walks.strAscii g _ z t) λ_ _ _ _ _ st j=>wpAny_pyIter_striter_ascii st j)
theorem iW {A:Around} (h:A.handled=none):A.in1.handled=none:=h
theorem aE {ys:List Bool} {its:List Value} (r:yO (ys.map V.bl) its) {i:Nat} {v:Value} (h:its[i]?=some v):∃ b,ys[i]?=some b/\v=.bool b:=by
 have c:=r.length
 rw [zMJ] at c
 have e:=(zML.mp h).1
 obtain ⟨u,a,d⟩:=r.get (i:=i) (x:=V.bl (ys[i]'(by omega))) (by rw [zMP,zMK (by omega)];rfl)
 rw [h] at a
 cases a
 exact ⟨_,zMK (by omega),d⟩
theorem cX (ys:List Bool):(List.range ys.length).all (λi=>ys.getD i false)=ys.all id:=by
 have e:ys=(List.range ys.length).map (λi=>ys.getD i false):=by
  apply List.ext_getElem (by simp)
  intro i a b
  simp [zMO,zMK a]
 conv=>rhs;rw [e]
 rw [List.all_map];rfl
theorem sF (g:X.calm=true):vK X (.builtin "all") (λxs H Q=>∃ (p:Addr) (ys:List Bool),xs=[.ref p]/\SqL X.K H p (ys.map V.bl)/\Q (.bl (ys.all id)) H):=by
 intro C s D H xs E Q I r h
 obtain ⟨p,ys,rfl,j,q⟩:=h
 obtain ⟨u,rfl,k⟩:=r.one
 cases k
 obtain ⟨a,f,c,G⟩:=I.list j
 have l:=f.length
 rw [zMJ] at l
 refine call_all_walk (wpAny_pyIter_list c.isList ?_)
 have m:p < s.heap.objs.size:=by obtain ⟨o,d,_⟩:=c.isList;exact Heap.lt_size d
 refine ⟨s.heap.objs.size,_,_,_,_,_,λi=>ys.getD i false,rfl,Walks.list (iW (I.ok.hd g)) _ p (zNA m) a.toArray,⟨⟨_,Heap.get?_push_size _ rfl,rfl,rfl⟩,?_⟩,?_,λJ L n=>?_⟩
 ·obtain ⟨o,d,r⟩:=c.isList
  exact ⟨o,Heap.get?_push_of_some _ d,r⟩
 ·intro i v M N O t w
  obtain ⟨b,x,rfl⟩:=aE f (by simpa using t)
  refine wpAny_truthy_bool ?_
  have y:ys.getD i false=b:=by rw [zMO,x];rfl
  rw [<- y];exact w
 ·refine ⟨.bl (ys.all id),H,I.kept λb o e=>n b o ?_ (Heap.get?_push_of_some _ e),?_,q⟩
  ·intro z;have A:b=s.heap.objs.size:=by simpa using z
   exact zNA (Heap.lt_size e) A
  ·have B:a.toArray.size=ys.length:=by simp;omega
   rw [B,cX];rfl
theorem yN:vK X (.builtin "isinstance") (λxs H Q=>∃ x t T b,xs=[x,.ty T]/\qE X.K H x t/\W.kitOne X.K t (.type T)=some b/\Q (.bl b) H):=by
 intro f s g H xs i Q I r h
 obtain ⟨x,t,T,b,rfl,ty,e,q⟩:=h
 obtain ⟨u,v,rfl,a,c⟩:=r.two
 cases c
 exact bP I a ty e λd=>⟨.bl b,H,I.tok d,rfl,q⟩
def rSlS:V->Option Int->Option Int->Hp->VK->Prop:=λx lo a H Q=>∃ z,x=.str z/\z.length <= sizeLine/\Q (.str (Txt.slice z lo a)) H
theorem lW:SlR X rSlS:=by
 intro k s m H x v n o lo d p Q I r y B f h
 obtain ⟨z,rfl,C,q⟩:=h
 obtain ⟨t,rfl⟩:=(show ∃ t,v=Value.str z t from r)
 refine ⟨"str",_,F.slot_str_getitem.lookup,typeIs_str _ _ _,?_⟩
 have key:∀ l u,n=partValue l->o=partValue u->lo=l.map (·.1)->d=u.map (·.1) ->
   wpAny (model X.prog X.w) X.A (getItem (.str z t) (.ref p)) (EP X k m Q) X.xe s:=by
  intro l u D E G J
  subst D E
  refine wpAny_getItem_str_slice (l:=l) (u:=u) (st:=none) y rfl ?_
  unfold sliceMade
  have a:Txt.slice z lo d=if (((none:Option (Int × Tok)).map (·.1)).getD 1 == 1 && (slicePicked z l u none).length == z.length)=true then z else ⟨((slicePicked z l u none).filterMap (z.cps[·]?)).toArray⟩:=by
   rw [G,J];rfl
  split
  ·rename_i c
   rw [if_pos c] at a
   rw [a] at q
   exact ⟨.str z,H,I,⟨t,rfl⟩,q⟩
  ·rename_i c
   rw [if_neg c] at a
   rw [a] at q
   have b:=Txt.slice_le z lo d
   rw [a] at b
   exact ⟨zMU b C,.str _,H,I.tok _,⟨_,rfl⟩,q⟩
 cases B with
 | none=>
  cases f with
  | none=>exact key none none rfl rfl rfl rfl
  | int j e=>exact key none (some (j,e)) rfl rfl rfl rfl
 | int i g=>
  cases f with
  | none=>exact key (some (i,g)) none rfl rfl rfl rfl
  | int j e=>exact key (some (i,g)) (some (j,e)) rfl rfl rfl rfl
theorem pO:∀ {ys:List Str} {us:List Value},yO (ys.map V.str) us->StrsAre us ys
 | [],_,.nil=>.nil
 | y :: ys,_,.cons r t=>by
  obtain ⟨k,rfl⟩:=r
  exact .cons y k (pO t)
theorem zEU:MtR X "str.join" (λx xs H Q=>∃ z p ys,x=.str z/\xs=[.ref p]/\SqL X.K H p (ys.map V.str)/\(ys.map (·.length)).sum + ys.length * z.length <= 16777216/\Q (.str (Txt.join z ys)) H):=by
 intro l s m H x xs v n Q I a b h
 obtain ⟨z,p,ys,rfl,rfl,c,d,q⟩:=h
 obtain ⟨t,rfl⟩:=(show ∃ t,v=Value.str z t from a)
 obtain ⟨u,rfl,e⟩:=b.one
 cases e
 obtain ⟨f,g,i,o⟩:=I.list c
 exact join_list i.isList (pO (by simpa using g)) d λj k=>⟨.str _,H,I.tok k,⟨j,rfl⟩,q⟩
theorem zBI:OpR X (binaryOp .FloorDiv) (rI (λ_ j=>0 < j/\j < 2 ^ 62) λi j=>.int (i / j)):=opI λi j _ _ _ _ _ b q=>by
 have d:(0:Int) < j:=b.1
 have e:j < 2 ^ 62:=b.2
 have a:j.natAbs.log2 < 9000:=by
  have c:j.natAbs ≠ 0:=by omega
  have f:j.natAbs.log2 < 62:=(Nat.log2_lt c).mpr (by omega)
  omega
 exact floordiv_int (by omega) (by rw [Int.fdiv_eq_ediv_of_nonneg i (by omega)];exact q) (.inl (PyProof.noPylong_of_log2 a))
end
structure yM (K:W.Frag) (mg:Str->Option Value) (x:Str) (st:Stmt) (ps:List Str):Prop where
 ex:∃ (f:Addr) (fd:FuncData),Fun K x x st f fd/\mg x=some (.ref f)/\uV K fd ps []
structure Cal (P:Program) (w:World) (K:W.Frag) (mg:Str->Option Value) (base:Heap) (CX:CXT) (k:Nat) (x:Str) (ps:List Str) (sp:Sp):Prop where
 ex:∃ (f:Addr) (fd:FuncData),tH P w K mg base CX k f fd ps sp/\mg x=some (.ref f)/\W.keepIn K (.ref f)=true/\uV K fd ps []
section
variable {P:Program} {w:World} {K:W.Frag} {mg:Str->Option Value} {base:Heap}
theorem yM.ok {x:Str} {st:Stmt} {N ps:List Str} {k:Nat} {sp:Sp} (G:yM K mg x st ps) (S:zM N ps (zG st)) (len:∀ vs H Q E,sp vs H Q E->vs.length=ps.length)
  (c:∀ f b A a s H vs Q E,zZ k (A.deeper (envOfC x (zG st) s.heap.objs.size f b))->sp vs H Q E ->
   ∃ t,PSs (uS CX0 P w K mg base N x (zG st) f b A a s H E).nox (y8 st) t/\t { nx:=λ_ d=>Q .non d,rt:=Q } (start N vs) H):Cal P w K mg base CX0 (k + 1) x ps sp:=by
 obtain ⟨f,fd,F,e,g⟩:=G.ex
 exact ⟨f,fd,F.ok S len λb A a s H vs Q E i h=>c f b A a s H vs Q E i h,e,F.kp,g⟩
theorem zE5 {h:Heap} {x:Str} {st:Stmt} {f:Addr} {i:Value} {j e:Option Addr} {g:Array (Option Value)} {kV d pm b ct:Value} {ps:List Str} (X:K.In h) (G:h.Ns mainGlobals mg)
  (a:W.nsIn K mainGlobals x=some (some (.ref f)))
  (l:K.lookup f=some ⟨i,j,.func (W.fnOf x x (vG st) (y8 st) (zG st) .none kV d pm e b ct),g⟩) (c:W.codeIn K b x=true) (k:W.keepIn K (.ref f)=true)
  (m:∀ kV d pm e b ct us,us.length=ps.length->bindArgs (W.fnOf x x (vG st) (y8 st) (zG st) .none kV d pm e b ct) ⟨us,[]⟩=pure (ps.zip us)):yM K mg x st ps:=
 ⟨f,_,rJ l c k,W.mg_of X G a,(rJ l c k).binds m⟩
end
section
variable {X:Cx} {CX:CXT} {k:Nat} {ps:List Str} {sp:Sp} {E:XK} {x:Str} {p pos:Pos} {e:Expr} {es:List Expr} {t:TA}
theorem zO (C:Cal X.prog X.w X.K X.mg X.base CX0 k x ps sp) (c:zZ k X.A) (d:PA X (e :: es) t) (f:Gl X x:=by rfl)
  (a:(x == ("__debug__" : Str))=false:=by decide) (g:starEach (e :: es) X.env=(false,eval e X.env) :: starEach es X.env:=by rfl) (b:(backTo pos (starEach es X.env)).any (·.1)=false:=by rfl) :
  PE X (.Call (.Name x p) (e :: es) [] pos) (eF sp [] E0 t):=
 let ⟨_,_,F,h,i,j⟩:=C.ex
 dG F c f h i j .nil dH d a g b
structure Blt (mg:Str->Option Value) (x:Str):Prop where
 no:mg x=none
theorem zV {id:String} {r:List V->Hp->VK->Prop} (d:vK X (.builtin id) r) (b:Blt X.mg x) (f:bootBuiltins x=some (.builtin id)) (g:PA X (e :: es) t) (h:Gl X x:=by rfl) (i:x ≠ "__name__":=by decide) (a:(x == ("__debug__" : Str))=false:=by decide)
  (j:starEach (e :: es) X.env=(false,eval e X.env) :: starEach es X.env:=by rfl) (c:(backTo pos (starEach es X.env)).any (·.1)=false:=by rfl) :
  PE X (.Call (.Name x p) (e :: es) [] pos) (tCB r t):=zBE d h b.no f g i a j c
theorem w6 (b:Blt X.mg x) (a:bootBuiltins x=some (.type T)) (c:Gl X x:=by rfl) (d:x ≠ "__name__":=by decide) (hd:(x == ("__debug__" : Str))=false:=by decide):PE X (.Name x pos) (tC (.ty T)):=
 zEF c b.no a rfl d hd
end
def zD (S:List Addr) (H a:Hp):Prop:=∀ b o,b ∉ S->H b=some o->a b=some o
theorem zD.z {H b:Hp} {a:PySem.Addr} {o:HO} (k:zD [] H b) (h:H a=some o):b a=some o:=k _ _ zND h
theorem zD.refl (H:Hp):zD S H H:=λ_ _ _ h=>h
theorem zD.trans (a:zD S H H1) (b:zD S H1 d):zD S H d:=λc o n h=>b c o n (a c o n h)
theorem zD.mono (a:zD S H H1) (h:∀ b ∈ S,b ∈ d):zD d H H1:=λc o n q=>a c o (λz=>n (h c z)) q
theorem zD.new (h:H p=none):zD S H (upd H p o):=λb u _ q=>by rw [zK (zI q h)];exact q
theorem zD.at (h:p ∈ S):zD S H (upd H p o):=λb u n q=>by
 rw [zK (λz=>n (by rw [z];exact h))];exact q
theorem zD.none (k:zD S H a) (n:l ∉ S) (h:a l=Option.none):H l=Option.none:=by
 cases q:H l with
 | none=>rfl
 | some o=>rw [k l o n q] at h;cases h
theorem zD.same (k:zD [] H a):zI7 H a:=λb o h=>k b o (by simp) h
theorem zD.seq {K:W.Frag} {H b:Hp} {a:Addr} {xs:List V} (k:zD [] H b) (h:SqL K H a xs):SqL K b a xs:=k.same.seq h
theorem dW {J:It} (C:n < sizeLine) (item:Nat->V) (Pv:Nat->List V->St->Hp->Prop)
  (q:Pv 0 [] (stC xs ix r) (upd H1 acc (.lst [])))
  (f:∀ i ys a H,Pv i ys a H->H acc=some (.lst ys)/\ys.length <= i)
  (j:∀ i ys a H,i < n->Pv i ys a H->J.go i H) (k:∀ i ys a H x h,i < n->Pv i ys a H->J.yld i H x h->h=H/\x=item i) (l:∀ ys a H,Pv n ys a H->J.stop n H)
  (s:∀ i ys a H,i < n->Pv i ys a H->g (item i) a H λc t=>u c t λb H3=>
   if b=true then v c H3 λy o=>o acc=some (.lst ys)/\Pv (i + 1) (ys ++ [y]) c (upd o acc (.lst (ys ++ [y]))) else Pv (i + 1) ys c H3)
  (hd:∀ ys a H,Pv n ys a H->Q (.ref acc) H) :
  LCW J xs ix g u v r H1 acc Q:=by
 refine ⟨λi m ys a H=>m=n - i/\i <= n/\Pv i ys a H,⟨n,by simp,zMT _,q⟩,?_⟩
 rintro i m ys a H ⟨rfl,D,p⟩
 obtain ⟨w,E⟩:=f i ys a H p
 refine ⟨w,by omega,?_⟩
 by_cases d:i < n
 ·refine .inr ⟨j i ys a H d p,Pv (i + 1),λz A h B=>⟨n - (i + 1),by omega,rfl,d,B⟩,λx h y=>?_⟩
  obtain ⟨rfl,rfl⟩:=k i ys a H x h d p y
  exact s i ys a _ d p
 ·have e:i=n:=by omega
  subst e
  exact .inl ⟨l ys a H p,hd ys a H p⟩
theorem zB2 {xs:List Str} {ix:List Nat} {g:TG} {e:TT} {f:TE} {lo:Int} {n:Nat} {j:St} {H1:Hp} {Q:VK} {acc:Addr} (l:n < sizeLine) (Pv:Nat->List V->St->Hp->Prop)
  (m:Pv 0 [] (stC xs ix j) (upd H1 acc (.lst [])))
  (d:∀ i ys c H,Pv i ys c H->H acc=some (.lst ys)/\ys.length <= i)
  (o:∀ i ys c H,i < n->Pv i ys c H->g (.int (lo + i)) c H λa p=>e a p λb H3=>
   if b=true then f a H3 λy k=>k acc=some (.lst ys)/\Pv (i + 1) (ys ++ [y]) a (upd k acc (.lst (ys ++ [y]))) else Pv (i + 1) ys a H3)
  (hd:∀ ys c H,Pv n ys c H->Q (.ref acc) H) :
  LCW (Itr lo n) xs ix g e f j H1 acc Q:=
 dW l (λi=>.int (lo + i)) Pv m d (λi _ _ _ h _=>h) (λi _ _ _ _ _ _ _ h=>h) (λ_ _ _ _=>zMS n) o hd
theorem zIL {z:Str} (k:z.cps.size < sizeLine) (Pv:Nat->List V->St->Hp->Prop)
  (l:Pv 0 [] (stC xs ix m) (upd H1 acc (.lst [])))
  (f:∀ i ys d H,Pv i ys d H->H acc=some (.lst ys)/\ys.length <= i)
  (n:∀ i ys d H,i < z.cps.size->Pv i ys d H->g (.str ⟨#[z.cps.getD i 0]⟩) d H λa o=>p a o λb H3=>
   if b=true then q a H3 λy j=>j acc=some (.lst ys)/\Pv (i + 1) (ys ++ [y]) a (upd j acc (.lst (ys ++ [y]))) else Pv (i + 1) ys a H3)
  (hd:∀ ys d H,Pv z.cps.size ys d H->Q (.ref acc) H) :
  LCW (Its z) xs ix g p q m H1 acc Q:=
 dW k (λi=>.str ⟨#[z.cps.getD i 0]⟩) Pv l f (λi _ _ _ h _=>h) (λi _ _ _ x s _ _ h=>⟨h.1,by
  obtain ⟨_,c,e,r⟩:=h
  rw [r,show z.cps.getD i 0=c by rw [zNI,e];rfl]⟩) (λ_ _ _ _=>rfl) n hd
theorem kU {K:W.Frag} {a:Addr} {its:List V} {xs:List Str} {ix:List Nat} {g:TG} {j:TT} {k:TE} {l:St} {H1:Hp} {Q:VK} {acc:Addr} (n:its.length < sizeLine) (Pv:Nat->List V->St->Hp->Prop)
  (o:Pv 0 [] (stC xs ix l) (upd H1 acc (.lst [])))
  (c:∀ i ys d H,Pv i ys d H->H acc=some (.lst ys)/\ys.length <= i/\SqL K H a its)
  (q:∀ i ys d H x,its[i]?=some x->Pv i ys d H->g x d H λf r=>j f r λb H3=>
   if b=true then k f H3 λy m=>m acc=some (.lst ys)/\Pv (i + 1) (ys ++ [y]) f (upd m acc (.lst (ys ++ [y]))) else Pv (i + 1) ys f H3)
  (hd:∀ ys d H,Pv its.length ys d H->Q (.ref acc) H) :
  LCW (Itl K a) xs ix g j k l H1 acc Q:=by
 refine dW n (λi=>its.getD i .non) Pv o (λi ys d H p=>⟨(c i ys d H p).1,(c i ys d H p).2.1⟩) (λi ys d H h p=>⟨its,its[i],(c i ys d H p).2.2,by simp [h]⟩)
  (λi ys d H x s h p y=>⟨y.1,?_⟩) (λys d H p=>⟨its,(c _ ys d H p).2.2,zMS _⟩) (λi ys d H h p=>q i ys d H _ (by simp [zMO,h]) p) hd
 have e:=y.2 its (c i ys d H p).2.2
 rw [zMO,e];rfl
theorem oA {g:TG} {d:TE} {x:V} {f:St} {H:Hp} {R:St->Hp->VK} {N:St->Hp->Prop} (h:g x f H λa c=>d a c (R a c)) :
  g x f H λa c=>sT a c λb H3=>if b=true then d a H3 (R a H3) else N a H3:=by
 have e:(λa c=>sT a c λb H3=>if b=true then d a H3 (R a H3) else N a H3)=λa c=>d a c (R a c):=by
  funext a c
  show (if true=true then d a c (R a c) else N a c)=_
  rw [if_pos rfl]
 rw [e];exact h
theorem sQ {xs:List Str} {ix:List Nat} {g:TG} {e:TE} {lo:Int} {n:Nat} {f:St} {H1:Hp} {Q:VK} {acc:Addr} (h:n < sizeLine) (Pv:Nat->List V->St->Hp->Prop)
  (j:Pv 0 [] (stC xs ix f) (upd H1 acc (.lst [])))
  (c:∀ i ys b H,Pv i ys b H->H acc=some (.lst ys)/\ys.length <= i)
  (k:∀ i ys b H,i < n->Pv i ys b H->g (.int (lo + i)) b H λa l=>e a l λy d=>d acc=some (.lst ys)/\Pv (i + 1) (ys ++ [y]) a (upd d acc (.lst (ys ++ [y]))))
  (hd:∀ ys b H,Pv n ys b H->Q (.ref acc) H):LCW (Itr lo n) xs ix g sT e f H1 acc Q:=
 zB2 h Pv j c (λi ys b H m p=>oA (R:=λa _=>λy d=>d acc=some (.lst ys)/\Pv (i + 1) (ys ++ [y]) a (upd d acc (.lst (ys ++ [y])))) (k i ys b H m p)) hd
theorem dS {xs:List Str} {ix:List Nat} {g:TG} {e:TE} {z:Str} {f:St} {H1:Hp} {Q:VK} {acc:Addr} (h:z.cps.size < sizeLine) (Pv:Nat->List V->St->Hp->Prop)
  (j:Pv 0 [] (stC xs ix f) (upd H1 acc (.lst [])))
  (c:∀ i ys b H,Pv i ys b H->H acc=some (.lst ys)/\ys.length <= i)
  (k:∀ i ys b H,i < z.cps.size->Pv i ys b H->g (.str ⟨#[z.cps.getD i 0]⟩) b H λa l=>e a l λy d=>d acc=some (.lst ys)/\Pv (i + 1) (ys ++ [y]) a (upd d acc (.lst (ys ++ [y]))))
  (hd:∀ ys b H,Pv z.cps.size ys b H->Q (.ref acc) H):LCW (Its z) xs ix g sT e f H1 acc Q:=
 zIL h Pv j c (λi ys b H m p=>oA (R:=λa _=>λy d=>d acc=some (.lst ys)/\Pv (i + 1) (ys ++ [y]) a (upd d acc (.lst (ys ++ [y])))) (k i ys b H m p)) hd
theorem uQ {K:W.Frag} {a:Addr} {its:List V} {xs:List Str} {ix:List Nat} {g:TG} {f:TE} {h:St} {H1:Hp} {Q:VK} {acc:Addr} (j:its.length < sizeLine) (Pv:Nat->List V->St->Hp->Prop)
  (k:Pv 0 [] (stC xs ix h) (upd H1 acc (.lst [])))
  (d:∀ i ys c H,Pv i ys c H->H acc=some (.lst ys)/\ys.length <= i/\SqL K H a its)
  (l:∀ i ys c H x,its[i]?=some x->Pv i ys c H->g x c H λb m=>f b m λy e=>e acc=some (.lst ys)/\Pv (i + 1) (ys ++ [y]) b (upd e acc (.lst (ys ++ [y]))))
  (hd:∀ ys c H,Pv its.length ys c H->Q (.ref acc) H):LCW (Itl K a) xs ix g sT f h H1 acc Q:=
 kU j Pv k d (λi ys c H x n p=>oA (R:=λb _=>λy e=>e acc=some (.lst ys)/\Pv (i + 1) (ys ++ [y]) b (upd e acc (.lst (ys ++ [y])))) (l i ys c H x n p)) hd
section
variable {X:Cx}
def iB:R2:=λx y H Q=>∃ p a i v,x=.ref p/\y=.int i/\H p=some (.lst a)/\atI a i=some v/\Q v H
theorem z6:IxR X iB:=λvalue slice f s g H x y v u Q I h j k l=>by
 obtain ⟨p,m,i,z,a,b,c,d,e⟩:=k
 exact dX value slice f s g H x y v u Q I h j ⟨p,m,i,z,a,b,.of c,d,e⟩ l
def iA:R2:=λx y H Q=>∃ p a i v,x=.ref p/\y=.int i/\H p=some (.tup a)/\atI a i=some v/\Q v H
theorem zU:IxR X iA:=λvalue slice f s g H x y v u Q I h j k l=>by
 obtain ⟨p,m,i,z,a,b,c,d,e⟩:=k
 exact zIR value slice f s g H x y v u Q I h j ⟨p,m,i,z,a,b,.of c,d,e⟩ l
end
def sH (N:List Str) (sc:Scope) (xs:List Str) (ix:List Nat) (scope:Scope):Prop:=
 scope.kind=.function/\(∀ y ∈ scope.names,y.2 ≠ .cell)/\(∀ y ∈ scope.names,y.2=.local->scope.names.lookup y.1=some .local) /\
 (∀ y ∈ scope.names,y.2=.free->sc.names.lookup y.1=some .cell \/ sc.names.lookup y.1=some .free)/\(∀ x ∈ xs,scope.names.lookup x=some .local) /\
 (xs ++ ix.map (λi=>N.getD i "")).Nodup/\(∀ i ∈ ix,i < N.length)/\(∀ i ∈ ix,scope.names.lookup (N.getD i "")=some .free)
instance {N:List Str} {sc:Scope} {xs:List Str} {ix:List Nat} {scope:Scope}:Decidable (sH N sc xs ix scope):=by unfold sH;infer_instance
theorem sH.at {X:Cx} (S:sH N sc xs ix scope) (j:X.N=N) (i:X.env.scope=sc):xO X xs ix scope:=by
 obtain ⟨a,b,c,d,e,f,g,h⟩:=S
 subst j i
 exact ⟨a,b,c,λn k=>d (n,.free) k rfl,e,f,g,h⟩
theorem wV
  (f:sH N sc [x] ix scope) (g:PI X (.Name x h) iter i)
  (j:∀ C a s H,PTs (cxC X [x] ix scope C a s H) b k) (l:∀ C a s H,PE (cxC X [x] ix scope C a s H) c m)
  (n:X.N=N:=by rfl) (d:X.env.scope=sc:=by rfl) (o:X.calm=true:=by rfl)
  (p:∀ x,foldedSetIterable iter X.env x=pure x:=by intro _;rfl) :
  PE X (.ListComp c [⟨.Name x h,iter,b,0⟩] scope pos) (tLC [x] ix i (wA 0) k m):=by
 have S:=f.at (X:=X) n d
 have e:∀ C a s H,(cxC X [x] ix scope C a s H).env.scope.names.lookup x=some .local:=λ_ _ _ _=>lookup_relabel_local (S.own x (by simp))
 exact zGH S o g (λC a s H=>yI S.nd rfl (Or.inl (e C a s H)) (.inr (e C a s H))) j l p
theorem mQ {X:Cx} {f a pos b:Pos}
  (g:X.N.Nodup) (h:X.N[i]?=some y) (hx:Loc X.env.scope y)
  (m:sH N sc [x] ix scope) (n:PI X (.Name x f) iter o)
  (p:∀ C c s H,PTs (cxC X [x] ix scope C c s H) d q) (r:∀ C c s H,PE (cxC X [x] ix scope C c s H) e t)
  (u:X.N=N:=by rfl) (j:X.env.scope=sc:=by rfl) (v:X.calm=true:=by rfl)
  (k:swapsWith (.ListComp e [⟨.Name x f,iter,d,0⟩] scope a) (some (.Name y b)) pos.line X.env=pure true:=by rfl)
  (w:X.fn y=true \/ X.env.scope.names.lookup y=some .local:=by first | exact .inl rfl | exact .inr rfl | assumption)
  (z:∀ x,foldedSetIterable iter X.env x=pure x:=by intro _;rfl) :
  PS X (.Assign [.Name y b] (.ListComp e [⟨.Name x f,iter,d,0⟩] scope a) pos) (oE (tLC [x] ix o (wA 0) q t) (wA i)):=by
 have S:=m.at (X:=X) u j
 have l:∀ C c s H,(cxC X [x] ix scope C c s H).env.scope.names.lookup x=some .local:=λ_ _ _ _=>lookup_relabel_local (S.own x (by simp))
 exact iC g h hx S v n (λC c s H=>yI S.nd rfl (Or.inl (l C c s H)) (.inr (l C c s H))) p r k w z
theorem pY (x y:Str):(x ++ y).length=x.length + y.length:=by
 show (x.cps ++ y.cps).size=_
 simp [Str.length]
theorem zD.drop (k:zD (a :: S) H c) (h:H a=Option.none):zD S H c:=λb o n q=>k b o (λz=>(List.mem_cons.mp z).elim (λe=>by rw [e,h] at q;cases q) n) q
theorem zW (h:upd H p o a=Option.none):H a=Option.none/\a ≠ p:=by
 by_cases e:a=p
 ·rw [e,zC] at h;cases h
 ·rw [zK e] at h;exact ⟨h,e⟩
theorem zCB (ys:List Str):(Txt.join (Str.ofString "") ys).length=(ys.map (·.length)).sum:=by
 show (Builtin.Str.glued (Str.ofString "") ys).length=_
 rw [size_glued]
 show _ + (ys.length - 1) * 0=_
 omega
theorem jR:∀ (ys:List Str),(∀ z ∈ ys,z.length=1)->(ys.map (·.length)).sum=ys.length
 | [],_=>rfl
 | y :: ys,h=>by
  rw [List.map_cons,List.sum_cons,h y zNC,jR ys λz a=>h z (zMW _ a),zM4]
  omega
end L2
namespace L2
theorem tU {b:Type} {xs:List b} {i:Int} (c:0 <= i) (d:i < xs.length):∃ v,atI xs i=some v/\xs[i.toNat]?=some v:=by
 have a:i.toNat < xs.length:=by omega
 refine ⟨xs[i.toNat],?_,zMK a⟩
 have e:=uI (zMK a)
 rwa [Int.toNat_of_nonneg c] at e
end L2
namespace L2
open PySem PySem.Spec PyProof.Rows
structure Glo (mg:Str->Option Value) (x:Str) (v:V):Prop where
 ex:∃ u,mg x=some u/\yX v u
theorem vO {X:Cx} (g:Glo X.mg x v) (a:Gl X x:=by rfl) (hd:(x == ("__debug__" : Str))=false:=by decide):PE X (.Name x pos) (tC v):=
 let ⟨_,b,r⟩:=g.ex
 zEC a b r hd
inductive yF (K:W.Frag) (H:Hp):V->String->Prop where
 | non:yF K H .non "NoneType"
 | bl (x:Bool):yF K H (.bl x) "bool"
 | int (i:Int):yF K H (.int i) "int"
 | str (x:Str):yF K H (.str x) "str"
 | lst {a:Addr} {xs:List V} (e:H a=some (.lst xs)):yF K H (.ref a) "list"
 | tup {a:Addr} {xs:List V} (e:H a=some (.tup xs)):yF K H (.ref a) "tuple"
 | dK {a:Addr} {kvs:List (Key × V)} (e:H a=some (.dK kvs)):yF K H (.ref a) "dict"
theorem yF.ty {K:W.Frag} {H:Hp} {x:V} {T:String} (h:yF K H x T):qE K H x (.type T):=by
 cases h with
 | non=>exact .non
 | bl b=>exact .bl b
 | int i=>exact .int i
 | str z=>exact .str z
 | lst e=>exact .lst e
 | tup e=>exact .tup e
 | dK e=>exact .dK e
theorem yF.kit {K:W.Frag} {H:Hp} {x:V} {T:String} (h:yF K H x T):W.kitOne K (.type T) (.type "str")=some (T == "str")/\W.kitOne K (.type T) (.type "int")=some (T == "int" || T == "bool") /\
  W.kitOne K (.type T) (.type "bool")=some (T == "bool")/\W.kitOne K (.type T) (.type "list")=some (T == "list")/\W.kitOne K (.type T) (.type "tuple")=some (T == "tuple"):=by
 cases h <;> exact ⟨rfl,rfl,rfl,rfl,rfl⟩
theorem yF.keep {K:W.Frag} {H a:Hp} {x:V} {T:String} (h:yF K H x T) (k:zD [] H a):yF K a x T:=by
 cases h with
 | non=>exact .non
 | bl b=>exact .bl b
 | int i=>exact .int i
 | str z=>exact .str z
 | lst e=>exact .lst (k.z e)
 | tup e=>exact .tup (k.z e)
 | dK e=>exact .dK (k.z e)
noncomputable abbrev abc:Str:="abcdefghijklmnopqrstuvwxyz"
noncomputable def vF (c:Nat):Bool:=!(Builtin.Str.occurrences abc ⟨#[c]⟩ 0 abc.length 1).isEmpty
noncomputable def vP (z:Str):Bool:=decide (1 <= z.length) && decide (z.length <= 8) && z.cps.toList.all vF
noncomputable def xA:V->Bool
 | .str z=>vP z
 | _=>false
noncomputable def zGV:V->Bool
 | .int _=>true
 | _=>false
theorem nV {a:Type} (l:List a) (f:a->Bool):(l.map f).all id=l.all f:=by rw [List.all_map];rfl
end L2
namespace L2
open PySem
theorem zQ:bootBuiltins "isinstance"=some (.builtin "isinstance"):=by decide +kernel
theorem yP:bootBuiltins "len"=some (.builtin "len"):=by decide +kernel
theorem nQ:bootBuiltins "all"=some (.builtin "all"):=by decide +kernel
theorem lC:bootBuiltins "sorted"=some (.builtin "sorted"):=by decide +kernel
theorem zIZ:bootBuiltins "min"=some (.builtin "min"):=by decide +kernel
theorem zC0:bootBuiltins "str"=some (.type "str"):=by decide +kernel
theorem tT:bootBuiltins "int"=some (.type "int"):=by decide +kernel
theorem uX:bootBuiltins "bool"=some (.type "bool"):=by decide +kernel
theorem vR:bootBuiltins "list"=some (.type "list"):=by decide +kernel
theorem nO:bootBuiltins "tuple"=some (.type "tuple"):=by decide +kernel
theorem zC1:bootBuiltins "set"=some (.type "set"):=by decide +kernel
theorem hU:bootBuiltins "range"=some (.type "range"):=by decide +kernel
end L2
namespace L2
theorem ifF {c:Bool} {A B:Prop} (h:c=false) (k:B):if c=true then A else B:=by rw [h];exact n9 k
theorem ifT {c:Bool} {A B:Prop} (h:c=true) (k:A):if c=true then A else B:=by rw [h];exact o9 k
end L2
namespace L2
open PySem PySem.Spec PyProof.Rows
noncomputable def eqT (xs ys:List V):Bool:=xs.length == ys.length && (List.zipWith eqV xs ys).all id
theorem zCL (f:xD x=true):eqV x x=true:=by
 cases x with
 | non=>rfl
 | bl b=>cases b <;> rfl
 | int i=>show (i == i)=true;simp
 | str z=>show (z == z)=true;simp
 | _=>exact absurd (show false=true from f) zNB
theorem lM:∀ xs ys,(List.zipWith eqV xs ys).all id=(List.range (min xs.length ys.length)).all λj=>eqV (xs.getD j .non) (ys.getD j .non)
 | [],_=>by simp
 | _ :: _,[]=>by simp
 | x :: xs,y :: ys=>by
  have e:min (x :: xs).length (y :: ys).length=min xs.length ys.length + 1:=by simp [Nat.succ_min_succ]
  rw [e,List.range_succ_eq_map,List.all_cons,List.all_map,List.zipWith_cons_cons,List.all_cons,lM xs ys]
  rfl
theorem zCN:∀ {xs:List V},xs.all xD=true->eqT xs xs=true:=λ{xs} f=>by
 unfold eqT
 rw [beq_self_eq_true,Bool.true_and,lM,List.all_eq_true]
 intro j b
 have a:j < xs.length:=by have:=List.mem_range.mp b;omega
 rw [zMO,zMK a]
 exact zCL (List.all_eq_true.mp f _ (List.getElem_mem a))
section
variable {X:Cx}
theorem zCO {A:Around} (I:Inv X L M H s) (m:SqT X.K H a xs) (n:SqT X.K H b ys) (f1:xs.all xD=true) (f2:ys.all xD=true)
  (t:A.units < cLine):SeqAt.EqAt A s (.ref a) (.ref b) (eqT xs ys):=by
 by_cases e:a=b
 ·subst e
  have w:=I.tuple_inj m n
  subst w
  rw [zCN f1]
  exact SeqAt.EqAt.same _
 ·obtain ⟨c,o,x,_⟩:=I.tuple m
  obtain ⟨d,p,y,_⟩:=I.tuple n
  have z:=o.length
  have B:=p.length
  have key:=SeqAt.RcAt.tuples (A:=A) (s:=s) (l:=a) (b:=b) (e:=λj=>eqV (xs.getD j .non) (ys.getD j .non)) (show s.heap.IsTuple a c.toArray from x) (show s.heap.IsTuple b d.toArray from y) t (λj g1 g2=>by
   have f:j < c.length:=by simpa using g1
   have g:j < d.length:=by simpa using g2
   obtain ⟨u,q,C⟩:=o.get (i:=j) (zMK (by omega:j < xs.length))
   obtain ⟨v,r,D⟩:=p.get (i:=j) (zMK (by omega:j < ys.length))
   have h:c.toArray[j]=u:=by
    rw [zMK f] at q
    simpa using zMQ q
   have k:d.toArray[j]=v:=by
    rw [zMK g] at r
    simpa using zMQ r
   rw [h,k]
   have E:xs.getD j .non=xs[j]'(by omega):=by rw [zMO,zMK (by omega)];rfl
   have G:ys.getD j .non=ys[j]'(by omega):=by rw [zMO,zMK (by omega)];rfl
   show SeqAt.EqAt _ _ _ _ (eqV (xs.getD j .non) (ys.getD j .non))
   rw [E,G]
   exact fT C D (List.all_eq_true.mp f1 _ (List.getElem_mem _)) (List.all_eq_true.mp f2 _ (List.getElem_mem _)))
  have J:eqT xs ys=((List.range (min c.toArray.size d.toArray.size)).all (λj=>eqV (xs.getD j .non) (ys.getD j .non)) && c.toArray.size == d.toArray.size):=by
   unfold eqT
   rw [lM,zMR,zMR,<- z,<- B,Bool.and_comm]
  rw [J]
  exact SeqAt.EqAt.of_refs e key
def Rows (H:Hp) (p:Addr) (rows:List (List V)):Prop:=∃ a:List Addr,H p=some (.lst (a.map V.ref))/\Paired (λq r=>H q=some (.tup r)) a rows
theorem wE {a b:Type} {F:a->b->Prop} {xs:List a} {ys:List b} (h:Paired F xs ys):∀ (i:Nat) (x:a),xs[i]?=some x->∃ y,ys[i]?=some y/\F x y:=by
 induction h with
 | nil=>intro i x h;simp at h
 | cons r _ c=>
  intro i x h
  cases i with
  | zero=>simp at h;subst h;exact ⟨_,rfl,r⟩
  | succ i=>
   obtain ⟨y,d,e⟩:=c i x (by simpa using h)
   exact ⟨y,by simpa using d,e⟩
theorem tM {a b:Type} {F:a->b->Prop}:∀ {xs:List a} {ys:List b} (i:Nat),Paired F xs ys->Paired F (xs.eraseIdx i) (ys.eraseIdx i)
 | _,_,_,.nil=>.nil
 | _,_,0,.cons _ t=>t
 | _,_,i + 1,.cons r t=>.cons r (tM i t)
theorem wJ {c d:Type} {F:c->d->Prop} {a:c} {b:d} {xs:List c} {ys:List d} (h:Paired F xs ys) (r:F a b):Paired F (xs ++ [a]) (ys ++ [b]):=by
 induction h with
 | nil=>exact .cons r .nil
 | cons q _ e=>exact .cons q e
theorem zY {a b:Type} {F:a->b->Prop} {xs:List a} {ys:List b} (h:Paired F xs ys):xs.length=ys.length:=by
 induction h with
 | nil=>rfl
 | cons _ _ c=>exact congrArg Nat.succ c
theorem Rows.keep (h:Rows H p rows) (k:zD [] H a):Rows a p rows:=by
 obtain ⟨b,e,r⟩:=h
 exact ⟨b,k.z e,L2.Paired.mapP r λq x z=>k.z z⟩
theorem pV:∀ {ps:List Addr} {us:List Value},yO (ps.map V.ref) us->us=ps.map Value.ref
 | [],_,.nil=>rfl
 | p :: ps,_,.cons r t=>by cases r;rw [List.map_cons,pV t]
noncomputable def uR (H:Hp) (xs:List V) (u:Value):Bool:=match u with
 | .ref q=>(match H q with | some (.tup r)=>eqT r xs | _=>false)
 | _=>false
theorem qY:∀ {ps:List Addr} {rows:List (List V)},Paired (λq r=>H q=some (.tup r)) ps rows->(ps.map Value.ref).any (uR H xs)=rows.any λr=>eqT r xs
 | _,_,.nil=>rfl
 | p :: ps,r :: rows,.cons e t=>by
  rw [List.map_cons,List.any_cons,List.any_cons,qY t]
  have a:uR H xs (.ref p)=eqT r xs:=by unfold uR;simp only [e]
  rw [a]
theorem tQ {A:Around} (I:Inv X k l H s) (b:H t=some (.tup xs)) (c:xs.all xD=true) (d:A.units < cLine) :
  ∀ {ps:List Addr} {rows:List (List V)},Paired (λq r=>H q=some (.tup r)) ps rows->(∀ r ∈ rows,r.all xD=true)->∀ u ∈ ps.map Value.ref,SeqAt.EqAt A s u (.ref t) (uR H xs u)
 | _,_,.nil,_=>λu a=>by cases a
 | p :: ps,r :: rows,.cons e g,f=>λu a=>by
  rcases List.mem_cons.mp a with rfl | a
  ·have h:uR H xs (.ref p)=eqT r xs:=by unfold uR;simp only [e]
   rw [h]
   exact zCO I (.of e) (.of b) (f r zNC) c d
  ·exact tQ I b c d g (λi j=>f i (zMW _ j)) u a
def zD6 (neg:Bool):R2:=λx y H Q=>∃ p t a rows,y=.ref p/\x=.ref t/\Rows H p rows/\H t=some (.tup a)/\a.all xD=true/\(∀ r ∈ rows,r.all xD=true)/\Q (.bl (if neg then !rows.any (λr=>eqT r a) else rows.any λr=>eqT r a)) H
theorem sR {A:Around} (h:A.units + 1 < cLine):A.in1.units < cLine:=by
 have e:A.in1.units=A.units + 1:=rfl
 omega
theorem kP (d:X.A.units + 1 < cLine):OpR X (compareOp .In) (zD6 false):=by
 intro z s B H x y v u Q I f g h
 obtain ⟨p,t,a,rows,rfl,rfl,⟨b,i,c⟩,j,k,l,q⟩:=h
 cases g;cases f
 obtain ⟨m,r,n,C⟩:=I.list (.of i)
 have e:=pV r
 subst e
 refine SeqAt.in_listAt (uR H a) n.isList (λw o=>tQ I j k (sR d) c l w (by simpa using o)) ⟨.bl _,H,I,rfl,?_⟩
 rw [show (b.map Value.ref).toArray.any (uR H a)=(b.map Value.ref).any (uR H a) by simp,qY c]
 exact q
theorem sM (d:X.A.units + 1 < cLine):OpR X (compareOp .NotIn) (zD6 true):=by
 intro z s B H x y v u Q I f g h
 obtain ⟨p,t,a,rows,rfl,rfl,⟨b,i,c⟩,j,k,l,q⟩:=h
 cases g;cases f
 obtain ⟨m,r,n,C⟩:=I.list (.of i)
 have e:=pV r
 subst e
 refine SeqAt.notIn_listAt (uR H a) n.isList (λw o=>tQ I j k (sR d) c l w (by simpa using o)) ⟨.bl _,H,I,rfl,?_⟩
 rw [show (b.map Value.ref).toArray.any (uR H a)=(b.map Value.ref).any (uR H a) by simp,qY c]
 exact q
theorem sO {a b:Type} (f:a->b):∀ (l:List a) (j:Nat),(l.map f).eraseIdx j=(l.eraseIdx j).map f
 | [],_=>rfl
 | _ :: _,0=>rfl
 | x :: l,j + 1=>by simp [sO f l j]
theorem pD:∀ ps:List Addr,yO (ps.map V.ref) (ps.map Value.ref)
 | []=>.nil
 | _ :: ps=>.cons rfl (pD ps)
open MeetsSeq in
open AutoSeq1 (wpAny_loadPart') in
theorem cS (l:Addr) (items:Array Value) (n:Nat) (x:Value) (e:Value->Bool) (j:Nat) (t:j < items.size) (hit:e items[j]=true) (o:items.size <= sizeLine) (k:Nat) :
  ∀ i:Nat,j - i=k->i <= j->(∀ m u,i <= m->m < j->e items[m]=false)->Meets (Builtin.«list.remove.loop» ⟨[.ref l,x,rawInt i],[]⟩)
   (λA R s=>s.heap.get? l=some { cls:=.type "list",dict:=none,data:=.seq items n,slots:=#[] }/\(∀ y,y ∈ items->SeqAt.EqAt A.in1 s y x (e y)) /\
    R (.ok (.ret .none)) { s with heap:=s.heap.update l (Obj.mapSeq λxs=>xs.eraseIdxIfInBounds j) }):=by
 induction k with
 | zero=>
  intro i v r c a w A R s h
  obtain ⟨z,g,d,B,os⟩:=s
  obtain ⟨f,q,h⟩:=h
  obtain rfl:i=j:=by omega
  wp_walk using wpAny_loadPart' f
  have b:items[((i:Nat):Int).toNat]?=some items[i]:=by simp [t]
  rw [b]
  refine wpAny_bind (q _ (Array.getElem_mem t) a w _ _ ?_)
  rw [hit]
  have p:=zMU (size_erased items i) (Nat.le_succ_of_le o)
  wp_walk using (wpAny_updateSeq f rfl (hz:=o) (_hz':=p)),wpAny_loadPart' f
  simpa using h
 | succ k C=>
  intro i v r c a w A R s h
  obtain ⟨z,g,d,B,os⟩:=s
  obtain ⟨f,q,h⟩:=h
  have less:i < items.size:=by omega
  wp_walk using wpAny_loadPart' f
  have b:items[((i:Nat):Int).toNat]?=some items[i]:=by simp [less]
  have one:((i:Int) + 1)=((i + 1:Nat):Int):=by push_cast;rfl
  rw [b]
  refine wpAny_bind (q _ (Array.getElem_mem less) a w _ _ ?_)
  rw [c i less (zMS _) (by omega)]
  wp_walk
  rw [one]
  refine ⟨plainId_quiet plain_remove_loop _,codeAny_builtin entry_remove_loop ?_⟩
  rw [Around.under_plainId plain_remove_loop _]
  exact C (i + 1) (by omega) (by omega) (λm u G D=>c m u (by omega) D) a w A R _ ⟨f,q,h⟩
open MeetsSeq in
open AutoSeq1 (wpAny_loadPart') in
theorem zD4 (l:Addr) (items:Array Value) (n:Nat) (x:Value) (e:Value->Bool) (j:Nat) (k:j < items.size) (hit:e items[j]=true) (b:∀ m f,m < j->e items[m]=false) (c:items.size <= sizeLine) :
  Meets (Builtin.«list.remove» ⟨[.ref l,x],[]⟩)
   (λA R s=>s.heap.get? l=some { cls:=.type "list",dict:=none,data:=.seq items n,slots:=#[] }/\(∀ y,y ∈ items->SeqAt.EqAt A.in1 s y x (e y)) /\
    R (.ok (.ret .none)) { s with heap:=s.heap.update l (Obj.mapSeq λxs=>xs.eraseIdxIfInBounds j) }):=by
 intro a w A R s h
 obtain ⟨q,g,d,r,os⟩:=s
 obtain ⟨i,o,h⟩:=h
 wp_walk using wpAny_loadPart' i
 refine ⟨plainId_quiet plain_remove_loop _,codeAny_builtin entry_remove_loop ?_⟩
 rw [Around.under_plainId plain_remove_loop _]
 exact cS l items n x e j k hit c _ 0 rfl (zMT _) (λm f _ p=>b m f p) a w A R _ ⟨i,o,h⟩
def zKR:V->List V->Hp->VK->Prop:=λx c H Q=>∃ l t a rows j b,x=.ref l/\c=[.ref t]/\H l=some (.lst (b.map V.ref))/\Paired (λq r=>H q=some (.tup r)) b rows/\H t=some (.tup a)/\a.all xD=true/\(∀ r ∈ rows,r.all xD=true) /\
 (∃ r,rows[j]?=some r/\eqT r a=true)/\(∀ m r,m < j->rows[m]?=some r->eqT r a=false)/\Q .non (upd H l (.lst ((b.eraseIdx j).map V.ref)))
theorem o0 (G:X.A.units + 1 < cLine):MtR X "list.remove" zKR:=by
 intro qp s σ H x vs v us Q I J L h
 obtain ⟨l,t,i,rows,j,a,rfl,rfl,C,k,M,N,O,⟨r,D,hit⟩,o,q⟩:=h
 cases J
 obtain ⟨u,rfl,T⟩:=L.one
 cases T
 obtain ⟨z,U,n,Y,hl,e⟩:=I.lstM C
 have ei:=pV Y
 subst ei
 have a0:=zY k
 have p:j < a.length:=by have:=(zML.mp D).1;omega
 have d:∀ (m:Nat) (g:m < (a.map Value.ref).toArray.size),∃ b,rows[m]?=some b/\uR H i (a.map Value.ref).toArray[m]=eqT b i:=λm g=>by
  have w:m < a.length:=by simpa using g
  obtain ⟨b,c,f⟩:=wE k m a[m] (zMK w)
  refine ⟨b,c,?_⟩
  have e3:(a.map Value.ref).toArray[m]=Value.ref a[m]:=by simp
  rw [e3];unfold uR;simp only [f]
 have hz:(a.map Value.ref).toArray.size <= sizeLine:=by rw [zMR,zMJ];rw [zMJ] at z;exact z
 refine call_meets F.slot_list_remove ⟨_,e,rfl⟩ F.entry_list_remove (F.args_list_remove_2 _ _) (zD4 l (a.map Value.ref).toArray n (.ref t) (uR H i) j (by simpa using p) ?_ ?_ hz) ⟨e,?_,?_⟩
 ·obtain ⟨b,c,f⟩:=d j (by simpa using p)
  rw [D] at c;cases c
  rw [f];exact hit
 ·intro m g B
  obtain ⟨b,c,f⟩:=d m g
  rw [f];exact o m b B c
 ·intro y hy
  exact tQ I M N (sR G) k O y (by simpa using hy)
 ·refine ⟨.non,_,I.lset (its':=(a.eraseIdx j).map Value.ref) (ys:=(a.eraseIdx j).map V.ref) C e ?_ ?_ ?_,rfl,q⟩
  ·simp [Array.eraseIdxIfInBounds,p,sO]
  ·exact pD _
  ·rw [zMJ] at z ⊢
   exact zMU (tF a j) z
def zKS (neg:Bool):R2:=λx y H Q=>∃ a b c,x=.ref a/\y=.ref b/\H a=some (.lst c)/\H b=some (.lst [])/\a ≠ b/\Q (.bl (if neg then !c.isEmpty else c.isEmpty)) H
theorem zH1 (c:X.A.units < cLine):OpR X (compareOp .Eq) (zKS false):=by
 intro w s z H x y v u Q I k l h
 obtain ⟨a,b,d,rfl,rfl,m,n,o,q⟩:=h
 cases k;cases l
 obtain ⟨B,f,g,_⟩:=I.list (.of m)
 obtain ⟨C,p,i,_⟩:=I.list (.of n)
 cases p
 cases d with
 | nil=>
  cases f
  exact SeqAt.eq_listAt (e:=λ_=>true) g.isList i.isList rfl c (λj r=>by simp at r) ⟨.bl _,H,I,rfl,q⟩
 | cons x d=>
  have t:=f.length
  refine SeqAt.eq_list_lengthsAt g.isList i.isList ?_ c ⟨.bl false,H,I,rfl,q⟩
  rw [zMR,zMR,<- t]
  rfl
theorem aI:∀ {a:List String} {us:List Value},yO (a.map V.ty) us->us=a.map Value.type
 | [],_,.nil=>rfl
 | _ :: a,_,.cons r t=>by cases r;rw [List.map_cons,aI t]
theorem jF:vK X (.builtin "isinstance") (λxs H Q=>∃ (x:V) (T:String) (p:Addr) (j:List String) (b:Bool),xs=[x,.ref p]/\yF X.K H x T/\H p=some (.tup (j.map V.ty))/\W.kitAny X.K (.type T) (j.map Value.type)=some b/\Q (.bl b) H):=by
 intro E s G H xs us Q I r h
 obtain ⟨x,T,p,j,b,rfl,J,L,e,q⟩:=h
 obtain ⟨u,v,rfl,c,M⟩:=r.two
 cases M
 obtain ⟨N,O,U,_⟩:=I.tuple (.of L)
 have Y:=aI O
 subst Y
 obtain ⟨⟨cls,dd,data,sl⟩,d,C,n,hd⟩:=id U
 simp only at C hd
 subst C hd
 have fin:∀ k,EP X E G Q (.bool b) { s with toks:=k }:=λk=>⟨.bl b,H,I.tok k,rfl,q⟩
 cases J with
 | non=>cases (show u=Value.none from c);exact W.kia_tup W.kitx_none I.kIn True.intro d e (λz=>nomatch z) fin
 | bl y=>cases (show u=Value.bool y from c);exact W.kia_tup W.kitx_bool I.kIn True.intro d e (λz=>nomatch z) fin
 | int i=>obtain ⟨t,l⟩:=(show ∃ t,u=Value.int i t from c);cases l;exact W.kia_tup W.kitx_int I.kIn True.intro d e (λz=>nomatch z) fin
 | str y=>obtain ⟨t,l⟩:=(show ∃ t,u=Value.str y t from c);cases l;exact W.kia_tup W.kitx_str I.kIn True.intro d e (λz=>nomatch z) fin
 | @lst a xs f=>
  cases (show u=Value.ref a from c)
  obtain ⟨_,_,n',_,g⟩:=(show xL X.prog X.w H s.heap a (.lst xs) from I.hok a _ f)
  exact W.kia_tup W.kitx_list I.kIn ⟨_,g,rfl⟩ d e (λz=>nomatch z) fin
 | @tup a xs f=>
  cases (show u=Value.ref a from c)
  obtain ⟨_,_,_,m⟩:=(show xL X.prog X.w H s.heap a (.tup xs) from I.hok a _ f)
  obtain ⟨o,g,A,_⟩:=m
  exact W.kia_tup W.kitx_tuple I.kIn ⟨o,g,A⟩ d e (λz=>nomatch z) fin
 | @dK a B f=>
  cases (show u=Value.ref a from c)
  obtain ⟨_,_,vs,_,m⟩:=(show xL X.prog X.w H s.heap a (.dK B) from I.hok a _ f)
  obtain ⟨o,es,ep,g,A,_⟩:=m
  exact W.kia_tup W.kitx_dict I.kIn ⟨o,g,A.1⟩ d e (λz=>nomatch z) fin
end
structure yS (K:W.Frag) (C:Addr) (m qual:Str) (st:Stmt) (ps:List Str):Prop where
 ex:∃ (f:Addr) (fd:FuncData),Fun K m qual st f fd/\zDD K C m f/\uV K fd ps []
structure yD (P:Program) (w:World) (K:W.Frag) (mg:Str->Option Value) (base:Heap) (CX:CXT) (k:Nat) (C:Addr) (m:Str) (ps:List Str) (sp:Sp):Prop where
 ex:∃ (f:Addr) (fd:FuncData),tH P w K mg base CX k f fd ps sp/\zDD K C m f/\uV K fd ps []
section
variable {P:Program} {w:World} {K:W.Frag} {mg:Str->Option Value} {base:Heap}
theorem yS.ok {C:Addr} {m b:Str} {st:Stmt} {N ps:List Str} {k:Nat} {sp:Sp} (G:yS K C m b st ps) (S:zM N ps (zG st)) (len:∀ vs H Q E,sp vs H Q E->vs.length=ps.length)
  (d:∀ f c A a s H vs Q E,zZ k (A.deeper (envOfC b (zG st) s.heap.objs.size f c))->sp vs H Q E ->
   ∃ t,PSs (uS CX0 P w K mg base N b (zG st) f c A a s H E).nox (y8 st) t/\t { nx:=λ_ e=>Q .non e,rt:=Q } (start N vs) H):yD P w K mg base CX0 (k + 1) C m ps sp:=by
 obtain ⟨f,fd,F,g,i⟩:=G.ex
 exact ⟨f,fd,F.ok S len λc A a s H vs Q E j h=>d f c A a s H vs Q E j h,g,i⟩
theorem zET {C:Addr} {x b:Str} {st:Stmt} {f:Addr} {j:Value} {m g:Option Addr} {h:Array (Option Value)} {kV e pm d ct:Value} {ps:List Str}
  (a:W.findIn K (.ref C) x=some (some (.ref f))) (i:W.isFn K (.ref f)=true)
  (l:K.lookup f=some ⟨j,m,.func (W.fnOf x b (vG st) (y8 st) (zG st) .none kV e pm g d ct),h⟩) (c:W.codeIn K d b=true) (k:W.keepIn K (.ref f)=true)
  (n:∀ kV e pm g d ct us,us.length=ps.length->bindArgs (W.fnOf x b (vG st) (y8 st) (zG st) .none kV e pm g d ct) ⟨us,[]⟩=pure (ps.zip us)):yS K C x b st ps:=
 ⟨f,_,rJ l c k,⟨a,i,k⟩,(rJ l c k).binds n⟩
end
section
variable {X:Cx} {k:Nat} {C:Addr} {ps:List Str} {sp:Sp} {m:Str} {apos pos:Pos} {o e:Expr} {es:List Expr} {ta:TE} {t:TA}
theorem xV (M:yD X.prog X.w X.K X.mg X.base CX0 k C m ps sp) (c:Cls X.K C) (g:zZ k X.A) (h:PE X o ta) (i:PA X (e :: es) t)
  (a:starEach (e :: es) X.env=(false,eval e X.env) :: starEach es X.env:=by rfl) (b:(backTo pos (starEach es X.env)).any (·.1)=false:=by rfl)
  (j:eval (.Call (.Attribute o m apos) (e :: es) [] pos) X.env=(do
   let d <- eval o X.env
   standAt apos.atName
   let (f,first) <- holding [d] (getMethod d m pl)
   callWith pos f first (backTo pos (starEach (e :: es) X.env)) (backToKw pos (keywordEach [] X.env))):=by rfl) :
  PE X (.Call (.Attribute o m apos) (e :: es) [] pos) (jP C m sp [] E0 ta t):=
 let ⟨_,_,F,l,n⟩:=M.ex
 dF h c l F g n .nil dH i a b j
theorem xH (M:yD X.prog X.w X.K X.mg X.base CX0 k C m ps sp) (c:Cls X.K C) (b:zZ k X.A) (d:PE X o ta)
  (g:eval (.Call (.Attribute o m apos) [] [] pos) X.env=(do
   let a <- eval o X.env
   standAt apos.atName
   let (f,first) <- holding [a] (getMethod a m pl)
   callWith pos f first (backTo pos (starEach [] X.env)) (backToKw pos (keywordEach [] X.env))):=by rfl) :
  PE X (.Call (.Attribute o m apos) [] [] pos) (jP C m sp [] E0 ta rP):=
 let ⟨_,_,F,h,i⟩:=M.ex
 zBC d c h F b i .nil dH g
end
section
variable {X:Cx}
theorem zHZ (c:X.A.units < cLine):OpR X (compareOp .NotEq) (zKS true):=by
 intro w s z H x y v u Q I k l h
 obtain ⟨a,b,d,rfl,rfl,m,n,o,q⟩:=h
 cases k;cases l
 obtain ⟨B,f,g,_⟩:=I.list (.of m)
 obtain ⟨C,p,i,_⟩:=I.list (.of n)
 cases p
 cases d with
 | nil=>
  cases f
  exact SeqAt.RcNeAt.lists (e:=λ_=>true) g.isList i.isList rfl c (λj r=>by simp at r) _ _ _ _ ⟨.bl _,H,I,rfl,q⟩
 | cons x d=>
  have t:=f.length
  refine SeqAt.RcNeAt.lists_lengths g.isList i.isList ?_ c _ _ _ _ ⟨.bl true,H,I,rfl,q⟩
  rw [zMR,zMR,<- t]
  rfl
def rInH (neg:Bool):R2:=λx y H Q=>∃ p a,y=.ref p/\H p=some (.lst a)/\xD x=true/\a.all xD=true/\Q (.bl (if neg then !inV x a else inV x a)) H
theorem fE:OpR X (compareOp .NotIn) (rInH true):=λf s g H x y v u Q I h i ⟨p,j,a,b,c,d,e⟩=>tN f s g H x y v u Q I h i ⟨p,j,a,.inl (.of b),c,d,e⟩
end
structure gB (P:Program) (w:World) (K:W.Frag) (mg:Str->Option Value) (base:Heap) (CX:CXT) (k:Nat) (C:Addr) (x:Str) (ps:List Str) (sp:Sp):Prop where
 ex:∃ (f:Addr) (fd:FuncData),tH P w K mg base CX k f fd ps sp/\Mk K C f/\mg x=some (.ref C)/\uV K fd ps []
section
variable {X:Cx} {k:Nat} {C:Addr} {ps:List Str} {sp:Sp} {x:Str} {p pos:Pos} {e:Expr} {es:List Expr} {t:TA}
theorem zGG (M:gB X.prog X.w X.K X.mg X.base CX0 k C x ps sp) (c:zZ (k + 1) X.A) (d:PA X (e :: es) t) (f:Gl X x:=by rfl)
  (a:(x == ("__debug__" : Str))=false:=by decide) (g:starEach (e :: es) X.env=(false,eval e X.env) :: starEach es X.env:=by rfl) (b:(backTo pos (starEach es X.env)).any (·.1)=false:=by rfl) :
  PE X (.Call (.Name x p) (e :: es) [] pos) (zFS C sp [] E0 t):=
 let ⟨_,_,F,h,i,j⟩:=M.ex
 zEA h F c f i j .nil dH d a g b
end
section
variable {prog:Program} {w:World} {A:Around} {E:VSP} {s:Shared}
end
section
variable {X:Cx} {pos:Pos}
end
theorem kT {K:W.Frag} {C:Type} {a acc:Addr} {xs:List Str} {ix:List Nat} {g:TG} {tt:TT} {te:TE} {σ:St} {H1:Hp} {Q:VK} {ds:List C} (f mk:C->List V) (b:C->Bool) (own:C->Addr->List (Option V)) (rest:List (Option V)) (hn:ds.length <= 2000) (G:H1 acc=none) (hS:Rows H1 a (ds.map f))
  (n:∃ vs:List (Option V),stC xs ix σ=vs ++ rest/\vs.length=xs.length) (j:∀ d q,(own d q).length=xs.length)
  (hg:∀ d q vs H R,d ∈ ds->vs.length=xs.length->H q=some (.tup (f d))->R (own d q ++ rest) H->g (.ref q) (vs ++ rest) H R)
  (I:∀ d q H R,d ∈ ds->zD [acc] H1 H->H q=some (.tup (f d))->(∀ c,zD [] H c->R (b d) c)->tt (own d q ++ rest) H R)
  (J:∀ d q H R,d ∈ ds->H q=some (.tup (f d))->(∀ t c,zD [] H c->c t=some (.tup (mk d))->R (.ref t) c)->te (own d q ++ rest) H R)
  (q:∀ c,Rows c acc ((ds.filter b).map mk)->zD [] H1 c->Q (.ref acc) c):LCW (Itl K a) xs ix g tt te σ H1 acc Q:=by
 obtain ⟨v,e0,r0⟩:=hS
 have aa:=zI e0 G
 have l0:=zY r0
 rw [zMJ] at l0
 obtain ⟨L,n,M⟩:=n
 refine kU (K:=K) (a:=a) (its:=v.map V.ref) (by rw [zMJ,sizeLine_eq];omega)
  (λi w D h=>∃ k vs,D=vs ++ rest/\vs.length=xs.length/\w=k.map V.ref/\Paired (λq r=>h q=some (.tup r)) k (((ds.take i).filter b).map mk)/\zD [acc] H1 h/\h acc=some (.lst w)) ?_ ?_ ?_ ?_
 ·exact ⟨[],L,n,M,rfl,.nil,zD.at (by simp),zC⟩
 ·rintro i w D h ⟨k,vs,rfl,N,rfl,o,l,u⟩
  refine ⟨u,?_,.of (l _ _ (by simp [aa]) e0)⟩
  have:=zY o
  rw [zMJ] at this
  have h3:=zNH b (ds.take i)
  rw [zMJ,this]
  rw [zM2] at h3
  omega
 ·rintro i w D h x y ⟨k,vs,rfl,N,rfl,o,l,u⟩
  rw [zMP] at y
  cases O:v[i]? with
  | none=>rw [O] at y;cases y
  | some m=>
  rw [O] at y
  have ey:=zMQ y
  subst ey
  obtain ⟨r,A,hr⟩:=wE r0 i m O
  rw [zMP] at A
  cases E:ds[i]? with
  | none=>rw [E] at A;cases A
  | some d=>
  rw [E] at A
  have T:=zMQ A
  subst T
  have U:=zI hr G
  have p:=l _ _ (by simp [U]) hr
  have Y:=zMN E
  have eT:ds.take (i + 1)=ds.take i ++ [d]:=by rw [List.take_succ,E];rfl
  refine hg d m vs h _ Y N p (I d m h _ Y l p λH4 B=>?_)
  cases hb:b d with
  | false=>
   rw [if_neg zNB]
   refine ⟨k,own d m,rfl,j d m,rfl,?_,l.trans (B.mono (by simp)),B.z u⟩
   rw [eT,List.filter_append,List.filter_cons,hb]
   simpa using L2.Paired.mapP o λq r e=>B.z e
  | true=>
   rw [if_pos rfl]
   refine J d m H4 _ Y (B.z p) λt H5 a0 s=>?_
   have k5:=B.trans a0
   have h5:=k5.z u
   have nt:acc ≠ t:=by intro z;rw [<- z,h5] at s;cases s
   refine ⟨h5,k ++ [t],own d m,rfl,j d m,by simp,?_,(l.trans (k5.mono (by simp))).trans (zD.at (by simp)),zC⟩
   rw [eT,List.filter_append,List.filter_cons,hb]
   simp only [if_true,List.filter_nil,zMV,List.map_cons,List.map_nil]
   refine wJ ?_ (by rw [zK (Ne.symm nt)];exact s)
   exact L2.Paired.mapP o λq r e=>by
    have e5:=k5.z e
    have nq:=wL e5 h5 (by intro z;cases z)
    rw [zK nq];exact e5
 ·rintro w D h ⟨k,vs,rfl,N,rfl,o,l,u⟩
  rw [zMJ,l0,zNJ] at o
  exact q h ⟨k,u,o⟩ (l.drop G)
theorem zHT
  (h:sH N sc [x,y] ix scope) (i:PI X (.Tuple [.Name x j,.Name y py] k l) iter m)
  (n:∀ C a s H,PTs (cxC X [x,y] ix scope C a s H) c o) (p:∀ C a s H,PE (cxC X [x,y] ix scope C a s H) d q)
  (r:X.N=N:=by rfl) (e:X.env.scope=sc:=by rfl) (f:X.calm=true:=by rfl)
  (t:∀ x,foldedSetIterable iter X.env x=pure x:=by intro _;rfl) :
  PE X (.ListComp d [⟨.Tuple [.Name x j,.Name y py] k l,iter,c,0⟩] scope pos) (tLC [x,y] ix m (bV X.K 2 (tZ (wA 0) (tZ (wA 1) bW))) o q):=by
 have S:=h.at (X:=X) r e
 have g:∀ C a s H,(cxC X [x,y] ix scope C a s H).env.scope.names.lookup x=some .local:=λ_ _ _ _=>lookup_relabel_local (S.own x (by simp))
 have b:∀ C a s H,(cxC X [x,y] ix scope C a s H).env.scope.names.lookup y=some .local:=λ_ _ _ _=>lookup_relabel_local (S.own y (by simp))
 exact zGH S f i (λC a s H=>tL (X:=cxC X [x,y] ix scope C a s H) f (y3 (yI S.nd rfl (Or.inl (g C a s H)) (.inr (g C a s H))) (y3 (yI S.nd rfl (Or.inl (b C a s H)) (.inr (b C a s H))) uF))) n p t
theorem zD.under (k0:zD [] a H1) (k:zD S H1 c) (d:∀ b ∈ S,a b=Option.none):zD [] a c:=λb o _ h=>k b o (λe=>by rw [d b e] at h;cases h) (k0 b o (by simp) h)
theorem uN {e f:Type} {F:e->f->Prop}:∀ {a c:List e} {b d:List f},Paired F a b->Paired F c d->Paired F (a ++ c) (b ++ d)
 | _,_,_,_,.nil,h=>h
 | _,_,_,_,.cons r t,h=>.cons r (uN t h)
theorem zCX (a:List Int) (lo b:Option Int):∃ c:List Int,vI (a.map V.int) lo b=c.map V.int/\c.length <= a.length:=by
 unfold vI
 refine ⟨(a.drop (HT.sIx (a.map V.int).length 0 lo)).take (HT.sIx (a.map V.int).length (a.map V.int).length b - HT.sIx (a.map V.int).length 0 lo),by rw [List.map_take,List.map_drop],?_⟩
 rw [zM2,List.length_drop]
 omega
theorem rL {a:Type} [DecidableEq a]:∀ (l:List a) (x:a),x ∈ l->∃ j:Nat,l[j]?=some x/\∀ m:Nat,m < j->l[m]? ≠ some x
 | [],x,h=>by cases h
 | y :: l,x,h=>by
  by_cases e:y=x
  ·exact ⟨0,by rw [e];rfl,λm b=>absurd b (Nat.not_lt_zero m)⟩
  ·obtain ⟨j,c,d⟩:=rL l x ((List.mem_cons.mp h).elim (λz=>absurd z.symm e) id)
   refine ⟨j + 1,by simpa using c,λm b=>?_⟩
   cases m with
   | zero=>intro z;exact e (zMQ z)
   | succ m=>exact λz=>d m (by omega) (by simpa using z)
def cG (a:Obj) (C:Addr) (b:Option Addr):Prop:=a.cls=.ref C/\a.dict=b
theorem bY (f:Array Value->Array Value) (o:Obj):(Obj.mapFields f o).dict=o.dict:=by
 unfold Obj.mapFields
 split <;> rfl
def Rec (h B:Heap) (e C:Addr) (f:Option Addr) (g:Value):Prop:=
 ∃ c cells b d a,h.get? e=some c/\cG c C f/\c.data=.fields cells/\cells[2]?=some .none/\cells[1]?=some (.ref b) /\
  B.get? b=none/\b ≠ e/\h.get? b=some d/\d.data=.fields a/\a[3]?=some g
def Fly (B:Heap) (l:List Env) (e C:Addr) (a:Option Addr) (b:Value) (h:Heap):Prop:=B.StaysIn h/\B.get? e=none/\h.FunFrames B l/\Rec h B e C a b
section
variable {dc:Option Addr} {M:Model} {A:Around} {E:VSP} {s:Shared} {B:Heap} {env:Env} {outer:List Env} {L e C:Addr} {Q:Unit->Shared->Prop}
theorem iJ (fr:A.frames=some (env :: outer)) (t:s.heap.FunFrames B (env :: outer)) (ef:env.frame=some L)
  (ge:s.heap.get? e=some H) (I:cG H C dc) (st:B.StaysIn s.heap) (ne:B.get? e=none) (u:H.data=.fields cells) (g2:cells[2]?=some .none)
  (k:∀ h',Fly B (env :: outer) e C dc (rawInt L) h'->s.heap.UpToSlots h'->Q () { s with heap:=h' }) :
  wpAny M A (do let a <- frameOf env;let pl <- entryPlaceOf L j;let b <- EntryCells.newEntry head a .none (rawInt L) .none pl;setField (.ref e) 1 b) Q E s:=by
 have z2:=(Array.getElem?_eq_some_iff.mp g2).1
 have J:1 < cells.size:=by omega
 have v:e ∉ (env :: outer).filterMap (·.frame):=λw=>by
  obtain ⟨_,o,N,d⟩:=t.mem w
  rw [ge] at N;cases N;exact d cells u
 refine wpAny_bind (wpAny_frameOf_fun fr t ef λg x=>?_)
 refine wpAny_bind (wpAny_entryPlaceOf λpl l=>?_)
 unfold EntryCells.newEntry newFields
 refine wpAny_bind (wpAny_newObj_type ?_ (l.sizeOk5 _ _ _ _ _))
 have O:=(x.2.1 e v).trans ge
 have m:B.StaysIn g:=λb o c=>(x.2.1 b λw=>by rw [(t.mem w).1] at c;cases c).trans (st b o c)
 generalize y:({ cls:=.type "traceback",dict:=none,data:=.fields ([head,.ref L,.none,rawInt L,.none] ++ (if pl.isEmpty then List.replicate 6 Value.none else pl)).toArray }:Obj)=f
 have D:∃ i:Array Value,f.data=.fields i/\i[3]?=some (rawInt L):=⟨_,by rw [<- y],by first | (simp;done) | (rcases l with rfl | ⟨_,_,_,_,_,_,_,rfl⟩ <;> simp)⟩
 obtain ⟨i,T,t3⟩:=D
 have U:=Heap.get?_push_of_some (h:=g) f O
 have n:=Nat.ne_of_gt (Heap.lt_size O)
 have Y:=Obj.data_mapFields u (·.setIfInBounds 1 (Value.ref g.objs.size))
 have e3:=Heap.get?_update_self (Obj.mapFields (·.setIfInBounds 1 (Value.ref g.objs.size))) U (Obj.isFreed_of_fields Y)
 have p:∀ b o,b ≠ e->g.get? b=some o->((g.push f).update e (Obj.mapFields (·.setIfInBounds 1 (Value.ref g.objs.size)))).get? b=some o:=λb o nb c=>by
  rw [Heap.get?_update_other _ _ (Ne.symm nb)];exact Heap.get?_push_of_some _ c
 have r:∀ b o,s.heap.get? b=some o->(∀ vs,o.data ≠ .fields vs)->b ≠ e:=λb o c d z=>by
  rw [z,ge] at c;cases c;exact d cells u
 have up:s.heap.UpToSlots ((g.push f).update e (Obj.mapFields (·.setIfInBounds 1 (Value.ref g.objs.size)))):=λb o c d=>by
  obtain ⟨sl,q⟩:=x.2.2 b o c
  exact ⟨sl,p b _ (r b o c d) q⟩
 have G:((g.push f).update e (Obj.mapFields (·.setIfInBounds 1 (Value.ref g.objs.size)))).get? g.objs.size=some f:=by
  rw [Heap.get?_update_other _ _ (Ne.symm n)]
  exact Heap.get?_push_size g (Obj.isFreed_of_fields T)
 refine wpAny_setField U u J (k _ ⟨λb o c=>p b o (λz=>by rw [z,ne] at c;cases c) (m b o c),ne,t.of_keeps λb o c d=>?_,?_⟩ up)
 ·obtain ⟨sl,q⟩:=up b o c d
  exact ⟨_,q,rfl⟩
 ·exact ⟨_,_,g.objs.size,f,i,e3,⟨(Obj.cls_mapFields _ _).trans I.1,(bY _ _).trans I.2⟩,Y,by rw [Array.getElem?_setIfInBounds_ne (by decide)];exact g2,by simp [J],m.fresh,n,G,T,t3⟩
theorem zBM (d:A.frames=some (env :: outer)) (f:s.heap.FunFrames B (env :: outer)) (a:env.frame=some L)
  (ge:s.heap.get? e=some b) (g:cG b C dc) (st:B.StaysIn s.heap) (ne:B.get? e=none) (c:b.data=.fields cells) (g1:cells[1]?=some .none) (g2:cells[2]?=some .none)
  (k:∀ h',Fly B (env :: outer) e C dc (rawInt L) h'->s.heap.UpToSlots h'->Q () { s with heap:=h' }):wpAny M A (noteFrame (.ref e) env) Q E s:=by
 unfold noteFrame
 simp only [a]
 refine wpAny_bind (wpAny_field ge c g1 ?_)
 rw [if_neg (by decide)]
 exact iJ d f a ge g st ne c g2 k
theorem dN (p:A.frames=some (env :: outer)) (l:env.frame=some L) (F:Fly B (env :: outer) e C dc .none s.heap)
  (k:∀ h',Fly B (env :: outer) e C dc (rawInt L) h'->s.heap.UpToSlots h'->Q () { s with heap:=h' }):wpAny M A (noteFrame (.ref e) env) Q E s:=by
 obtain ⟨st,ne,q,w,cells,g,x,h,ge,r,m,g2,g1,t,i,gt,j,n⟩:=F
 unfold noteFrame
 simp only [l]
 refine wpAny_bind (wpAny_field ge m g1 ?_)
 rw [if_pos (by simp:(Value.ref g != Value.none)=true)]
 refine wpAny_bind (wpAny_field gt j n ?_)
 rw [if_neg (by simp [rawInt]:¬ ((Value.none == rawInt L)=true))]
 refine wpAny_bind (wpAny_setField gt j (Array.getElem?_eq_some_iff.mp n).1 ?_)
 have d:∀ b,b ≠ g->(s.heap.update g (Obj.mapFields (·.setIfInBounds 3 Value.none))).get? b=s.heap.get? b:=λb a=>Heap.get?_update_other _ _ (Ne.symm a)
 have f:∀ b o,s.heap.get? b=some o->(∀ u,o.data ≠ .fields u)->b ≠ g:=λb o a c z=>by
  rw [z,gt] at a;cases a;exact c h j
 exact iJ p (q.of_keeps λb o a c=>⟨o,(d b (f b o a c)).trans a,rfl⟩) l ((d e (Ne.symm i)).trans ge) r (λb o a=>(d b λz=>by rw [z,t] at a;cases a).trans (st b o a)) ne m g2
  λh' v up=>k h' v λb o a c=>up b o ((d b (f b o a c)).trans a) c
theorem pZ (F:Fly B l e C dc x s.heap) (k:∀ h',Fly B l e C dc .none h'->s.heap.UpToSlots h'->Q () { s with heap:=h' }):wpAny M A (setFlight (.ref e) none) Q E s:=by
 obtain ⟨st,ne,r,t,cells,h,y,m,ge,u,n,g2,g1,p,i,gt,j,v⟩:=F
 have q:=(Array.getElem?_eq_some_iff.mp v).1
 have d:∀ b,b ≠ h->(s.heap.update h (Obj.mapFields (·.setIfInBounds 3 ((none:Option Addr).elim Value.none λf=>rawInt f)))).get? b=s.heap.get? b:=λb a=>Heap.get?_update_other _ _ (Ne.symm a)
 have g:∀ b o,s.heap.get? b=some o->(∀ w,o.data ≠ .fields w)->b ≠ h:=λb o a c z=>by
  rw [z,gt] at a;cases a;exact c m j
 unfold setFlight
 refine wpAny_bind (wpAny_field ge n g1 ?_)
 rw [if_pos (by simp:(Value.ref h != Value.none)=true)]
 refine wpAny_setField gt j q (k _ ⟨λb o a=>(d b λz=>by rw [z,p] at a;cases a).trans (st b o a),ne,r.of_keeps λb o a c=>⟨o,(d b (g b o a c)).trans a,rfl⟩,?_⟩ λb o a c=>⟨o.slots,(d b (g b o a c)).trans a⟩)
 exact ⟨t,cells,h,_,_,(d e (Ne.symm i)).trans ge,u,n,g2,g1,p,i,Heap.get?_update_self _ gt (Obj.isFreed_of_fields (Obj.data_mapFields j _)),Obj.data_mapFields j _,by simp [q]⟩
theorem Fly.down (F:Fly B (env :: l) e C dc a h):Fly B l e C dc a h:=⟨F.1,F.2.1,F.2.2.1.2.2,F.2.2.2⟩
theorem zB1 (a:A.frames=some (env :: outer)) (b:env.frame=some L) (F:Fly B (env :: outer) e C dc .none s.heap)
  (k:∀ h',Fly B outer e C dc .none h'->s.heap.UpToSlots h'->Q () { s with heap:=h' }):wpAny M A (leaving env (.ref e)) Q E s:=by
 unfold leaving
 exact wpAny_bind (dN a b F λg c d=>pZ c λh' f h=>k h' f.down (d.trans h))
theorem bK {h:Heap} (c:A.frames=some (env :: outer)) (d:h.FunFrames B (env :: outer)) (f:env.frame=some L) (st:B.StaysIn h) (mk:Heap.MadeExcOf h s.heap e (.ref C) args)
  (k:∀ h',Fly B outer e C none .none h'->s.heap.UpToSlots h'->Q () { s with heap:=h' }):wpAny M A (leaving env (.ref e)) Q E s:=by
 obtain ⟨t,ge,_,_⟩:=mk.there
 have ne:B.get? e=none:=by
  cases q:B.get? e with
  | none=>rfl
  | some o=>have:=st e o q;rw [mk.new] at this;cases this
 unfold leaving
 exact wpAny_bind (zBM c (d.of_keeps λb o a _=>⟨o,mk.keeps b o a,rfl⟩) f ge ⟨rfl,rfl⟩ (λb o a=>mk.keeps b o (st b o a)) ne rfl rfl rfl λg i j=>pZ i λh' l m=>k h' l.down (j.trans m))
end
section
variable {P:Program} {w:World} {H H':Hp} {h h' B:Heap} {a:Addr} {o:HO}
theorem xL.there (x:xL P w H h a o):∃ u,h.get? a=some u:=by
 cases o with
 | lst c=>obtain ⟨_,_,_,_,q⟩:=x;exact ⟨_,q⟩
 | tup c=>obtain ⟨_,_,_,⟨u,q,_⟩⟩:=x;exact ⟨u,q⟩
 | dK b=>obtain ⟨_,_,_,_,u,_,_,q,_⟩:=x;exact ⟨u,q⟩
 | dT b=>obtain ⟨_,_,_,_,u,_,_,q,_⟩:=x;exact ⟨u,q⟩
 | set S n=>obtain ⟨u,_,_,_,q,_⟩:=x;exact ⟨u,q⟩
 | ins C e d=>obtain ⟨_,_,_,q,_⟩:=x;exact ⟨_,q⟩
 | own y=>exact x
 | xd d=>obtain ⟨_,⟨u,_,_,q,_⟩,_⟩:=x;exact ⟨u,q⟩
 | rng lo g=>obtain ⟨_,_,_,q⟩:=x;exact ⟨_,q⟩
 | frz i u=>obtain ⟨q,_⟩:=x;exact ⟨_,q⟩
 | tbl j=>exact ⟨_,(show h.get? a=some _ from x)⟩
 | met f y=>exact ⟨_,(show h.get? a=some _ from x)⟩
 | ext k=>obtain ⟨_,q,_⟩:=x;exact q
theorem HOk.air (ok:HOk P w H h) (st:B.StaysIn h) (d:B.StaysIn h') (f:∀ c,H c ≠ none->∃ u,B.get? c=some u):HOk P w H h':=λb o e=>
 (ok b o e).stay (λc u i q=>by
  have j:H c ≠ none:=by
   rcases i with z | z
   ·rw [z,e];intro y;cases y
   ·rw [z];intro y;cases y
  obtain ⟨k,g⟩:=f c j
  have:=st c k g
  rw [q] at this;cases this
  exact d c u g) (λ_ z=>z) λ_ _ z=>z
end
noncomputable def CXE (P:Program) (w:World):CXT:=λd H s E e f=>∃ a C h B g,e=.ref a/\f.os=s.os/\AllBare f.gens/\Un (frs d) [] H g s.heap f.heap/\HOk P w g f.heap/\Fly B d a C h .none f.heap /\
 (∀ c,g c ≠ none->∃ u,B.get? c=some u)/\(∀ b o,s.heap.get? b=some o->H b=none->b ∉ frs d->B.get? b=some o)/\(∀ b o,s.heap.get? b=some o->b ∉ frs d->∃ i,B.get? b=some i)/\E (.ref C) h g
section
variable {P:Program} {w:World} {K:W.Frag} {mg:Str->Option Value} {base:Heap} {N:List Str} {qual:Str} {scope:Scope} {f:Addr} {cd:Value} {A:Around} {outer:List Env} {s0:Shared} {H0:Hp} {E:XK}
theorem zER {h:Heap} (c:h.FunFrames e l) (d:b ∈ frs l) (q:h.get? b=some o):∀ vs,o.data ≠ .fields vs:=by
 obtain ⟨_,g,a,n⟩:=c.mem d
 rw [q] at a;cases a
 exact n
theorem zAZ (I:Inv (uS (CXE P w) P w K mg base N qual scope f cd A outer s0 H0 E) qp σ H s)
  (mk:Heap.MadeExcOf s.heap h' e (.ref C) args) (Q:E (.ref C) none H):(uS (CXE P w) P w K mg base N qual scope f cd A outer s0 H0 E).xe (.ref e) { s with heap:=h' }:=by
 have j:∀ b ∈ frs (envOfC qual scope s0.heap.objs.size f cd :: outer),H b=none:=I.stkFree
 have L:s.heap.FunFrames base (envOfC qual scope s0.heap.objs.size f cd :: outer):=I.stack
 have k:∀ b o,s.heap.get? b=some o->b ∉ frs (envOfC qual scope s0.heap.objs.size f cd :: outer)->(W.hideAll s.heap (frs (envOfC qual scope s0.heap.objs.size f cd :: outer))).get? b=some o:=λb o q n=>W.hideAll_get _ q n
 have st:(W.hideAll s.heap (frs (envOfC qual scope s0.heap.objs.size f cd :: outer))).StaysIn s.heap:=λb o q=>W.of_hideAll _ q
 have p:∀ c,H c ≠ none->∃ u,(W.hideAll s.heap (frs (envOfC qual scope s0.heap.objs.size f cd :: outer))).get? c=some u:=λc M=>by
  cases q:H c with
  | none=>exact absurd q M
  | some o=>
   obtain ⟨u,T⟩:=(I.hok c o q).there
   exact ⟨u,k c u T λz=>M (j c z)⟩
 have old:∀ b o,s0.heap.get? b=some o->b ∉ frs outer->b ∉ frs (envOfC qual scope s0.heap.objs.size f cd :: outer):=λb o q n z=>by
  rcases List.mem_cons.mp (show b ∈ s0.heap.objs.size :: frs outer from z) with y | y
  ·exact Nat.lt_irrefl _ (Nat.lt_of_lt_of_eq (Heap.lt_size q) y.symm)
  ·exact n y
 refine bK (B:=W.hideAll s.heap (frs (envOfC qual scope s0.heap.objs.size f cd :: outer))) (h:=s.heap) I.ok.frames (W.funFrames_hide L λD U a Y=>List.mem_filterMap.mpr ⟨D,U,Y⟩) rfl st mk λh2 F up=>?_
 have d:∀ b o,s0.heap.get? b=some o->H0 b=none->b ∉ frs outer->(W.hideAll s.heap (frs (envOfC qual scope s0.heap.objs.size f cd :: outer))).get? b=some o:=λb o q n m=>
  k b o (I.base.keep b o q n m (show b ∉ ([]:List Addr) by simp)) (old b o q m)
 have g:∀ b o,s0.heap.get? b=some o->b ∉ frs outer->∃ i,(W.hideAll s.heap (frs (envOfC qual scope s0.heap.objs.size f cd :: outer))).get? b=some i:=λb o q m=>by
  obtain ⟨i,q'⟩:=I.base.there b o q (show b ∉ ([]:List Addr) by simp)
  exact ⟨i,k b i q' (old b o q m)⟩
 have r:∀ b o,b ∈ frs outer->s.heap.get? b=some o->∃ O,h2.get? b=some { o with slots:=O }:=λb o l q=>up b o (mk.keeps b o q) (zER L (zMW _ l) q)
 refine ⟨e,C,none,_,H,rfl,I.os,I.bare,⟨λb o q n m _=>F.1 b o (d b o q n m),λb o q n l t=>?_,λb o q n t=>I.base.free b o q n t,λb o q t=>?_,I.base.tups,I.base.frzs,I.base.tbls⟩,I.hok.air st F.1 p,F,p,d,g,Q⟩
 ·obtain ⟨O,v⟩:=I.base.slot b o q n l t
  obtain ⟨x,J⟩:=r b _ l v
  exact ⟨x,J⟩
 ·by_cases l:b ∈ frs outer
  ·obtain ⟨i,v⟩:=I.base.there b o q t
   obtain ⟨x,J⟩:=r b _ l v
   exact ⟨_,J⟩
  ·obtain ⟨i,v⟩:=g b o q l
   exact ⟨i,F.1 b i v⟩
theorem y0:uT (CXE P w) (uS (CXE P w) P w K mg base N qual scope f cd A outer s0 H0 E) E:=by
 rintro qp σ H s e T I ⟨a,C,U,B,Y,rfl,os,bare,u,G,F,l,m,p,hE⟩
 have old:∀ b o,s0.heap.get? b=some o->b ∉ frs outer->b ∉ frs (envOfC qual scope s0.heap.objs.size f cd :: outer):=λb o q n z=>by
  rcases List.mem_cons.mp (show b ∈ s0.heap.objs.size :: frs outer from z) with y | y
  ·exact Nat.lt_irrefl _ (Nat.lt_of_lt_of_eq (Heap.lt_size q) y.symm)
  ·exact n y
 have c:∀ b:Addr,b ∉ (uS (CXE P w) P w K mg base N qual scope f cd A outer s0 H0 E).ex:=λb=>(show b ∉ ([]:List Addr) by simp)
 refine zB1 (C:=C) (B:=B) I.ok.frames rfl F λh2 D up=>?_
 have d:∀ b o,s0.heap.get? b=some o->H0 b=none->b ∉ frs outer->B.get? b=some o:=λb o q n k=>
  m b o (I.base.keep b o q n k (c b)) (I.base.free b o q n (c b)) (old b o q k)
 have g:∀ b o,s0.heap.get? b=some o->b ∉ frs outer->∃ h,B.get? b=some h:=λb o q k=>by
  obtain ⟨h,q'⟩:=I.base.there b o q (c b)
  exact p b h q' (old b o q k)
 have r:∀ b o,b ∈ frs outer->T.heap.get? b=some o->∃ M,h2.get? b=some { o with slots:=M }:=λb o j q=>up b o q (zER F.2.2.1 (zMW _ j) q)
 refine ⟨a,C,U,B,Y,rfl,os.trans I.os,bare,⟨λb o q n k _=>D.1 b o (d b o q n k),λb o q n j O=>?_,λb o q n O=>?_,λb o q O=>?_,λb Q q=>u.tups b Q (I.base.tups b Q q),λb o v q=>u.frzs b o v (I.base.frzs b o v q),λb ps q=>?_⟩,G.air F.1 D.1 l,D,l,d,g,hE⟩
 ·obtain ⟨M,i⟩:=I.base.slot b o q n j (c b)
  obtain ⟨a0,t⟩:=u.slot b _ i (I.base.free b o q n (c b)) (zMW _ j) (by simp)
  obtain ⟨x,L⟩:=r b _ j t
  exact ⟨x,L⟩
 ·obtain ⟨h,i⟩:=I.base.there b o q (c b)
  exact u.free b h i (I.base.free b o q n (c b)) (by simp)
 ·by_cases j:b ∈ frs outer
  ·obtain ⟨h,i⟩:=I.base.there b o q (c b)
   obtain ⟨o2,t⟩:=u.there b h i (by simp)
   obtain ⟨x,L⟩:=r b _ j t
   exact ⟨_,L⟩
  ·obtain ⟨h,i⟩:=g b o q j
   exact ⟨h,D.1 b h i⟩
 ·obtain ⟨m1,i⟩:=I.base.tbls b ps q
  obtain ⟨m2,t⟩:=u.tbls b _ i
  exact ⟨m1 ++ m2,by rw [t,Array.append_assoc]⟩
end
noncomputable abbrev zFJ:List Value:=[.type "ValueError",.type "Exception",.type "BaseException",.type "object"]
structure qH (K:W.Frag) (mg:Str->Option Value) (x:Str) (C:Addr):Prop where
 at_:mg x=some (.ref C)
 ok:W.excIn K C zFJ "ValueError.__new__"=true
theorem zE7 {K:W.Frag} (X:K.In h) (q:W.excIn K C b a=true) :
  ∃ bm N nm c bs hdct sn sub ab col dd k0 k1 k2 k3 k5,∃ mN:Str->Option Value,h.get? C=some (excClassObj nm c C N bs bm hdct sn sub ab col dd k0 k1 k2 k3 k5 a)/\h.Ns N mN/\mN "__init__"=none/\OwnTail h b bm:=by
 unfold W.excIn at q
 split at q
 ·rename_i dd o g p
  split at q
  ·rename_i v bm k0 k1 k2 k3 n k5 i j
   simp only [Bool.and_eq_true,beq_iff_eq,Bool.not_eq_true'] at q
   obtain ⟨⟨⟨⟨⟨r,s⟩,k⟩,t⟩,d⟩,m⟩:=q
   subst r s
   cases o with
   | mk nm bs mro u c e sn sub ab col del=>
    dsimp only at i k d m
    subst i k
    have f:g = #[k0,k1,k2,k3,some (.builtin n),k5]:=by
     cases g with
     | mk l=>
      dsimp only at j
      rw [j]
    subst f
    exact ⟨bm,u,nm,c,bs,e,sn,sub,ab,col,dd,k0,k1,k2,k3,k5,_,X _ _ p,.of_isNs (W.isNs_of_in X d),W.nsMap_none_of_in X d m,W.tail_of_in X t⟩
  ·cases q
 ·cases q
structure cE (X:Cx) (E:XK):Prop where
 hd:X.A.handled=none
 out:∀ (qp:LAO) (σ:St) (H:Hp) (s:Shared) (h':Heap) (e C:Addr) (args:List Value),Inv X qp σ H s->Heap.MadeExcOf s.heap h' e (.ref C) args->E (.ref C) none H->X.xe (.ref e) { s with heap:=h' }
def zG6 (E:XK) (C:Addr):TS:=λ_ _ H=>E (.ref C) none H
section
variable {X:Cx} {E:XK} {x:Str} {C:Addr}
theorem wU {j np O a pos} (R:cE X E) (c:qH X.K X.mg x C) (Q:Gl X x:=by rfl) (hd:(x == ("__debug__" : Str))=false:=by decide) :
  PS X (.Raise (some (.Call (.Name x np) [.Constant (.str z) j O] [] a)) none pos) (zG6 E C):=by
 intro k s l H D I h
 obtain ⟨m,N,n,U,o,b,p,sub,t,d,v,w,y,A,B,G,J,Y,hN,i,T⟩:=zE7 I.ok.mod.kin c.ok
 refine wpAny_Raise_call_subT (C:=C) (nm:=n) (q:=U) (N:=N) (bs:=o) (bm:=m) (hdct:=b) (sn:=p) (sub:=sub) (ab:=t) (col:=d) (dd:=v) (k0:=w) (k1:=y) (k2:=A) (k3:=B) (k5:=G)
  F.excBase_ValueError (mN:=J) (T.hasType F.excBase_ValueError.hasBase) R.hd rfl i (sP I Q c.at_ ⟨rfl,?_⟩ hd)
 refine Calls.evalArgs_plain (thn ((zA zJ zB) a k s l H (λL M=>L=[.str z]/\M=H) I ⟨rfl,rfl⟩) λus s1 f=>?_)
 obtain ⟨L,M,g,r,e1,e2⟩:=f
 subst e1 e2
 obtain ⟨u,rfl,_⟩:=r.one
 exact ⟨rfl,by show 1 <= sizeLine;decide,g.bk _ _ Y,hN.keeps g.bk,T.keeps g.bk,λh' e mk=>R.out k l _ s1 h' e C _ g mk h⟩
end
section
variable {P:Program} {w:World} {K:W.Frag} {mg:Str->Option Value} {base:Heap}
theorem xS {A:Around} {c:Shared} (d:zZ k (A.deeper (envOfC a scope c.heap.objs.size f e))) :
  cE (uS (CXE P w) P w K mg base N a scope f e A b c h E) E:=⟨d.hd,λ_ _ _ _ _ _ _ _ I mk g=>zAZ I mk g⟩
theorem Fun.okX {x b:Str} {st:Stmt} {f:Addr} {fd:FuncData} {N ps:List Str} {k:Nat} {sp:Sp} (F:Fun K x b st f fd) (S:zM N ps (zG st)) (len:∀ vs H Q E,sp vs H Q E->vs.length=ps.length)
  (d:∀ c A a s H vs Q E,zZ k (A.deeper (envOfC b (zG st) s.heap.objs.size f c))->sp vs H Q E ->
   ∃ t,PSs (uS (CXE P w) P w K mg base N b (zG st) f c A a s H E) (y8 st) t/\t { nx:=λ_ h=>Q .non h,rt:=Q } (start N vs) H):tH P w K mg base (CXE P w) (k + 1) f fd ps sp:=by
 obtain ⟨n,o,kV,i,pm,p,c,q,j,rfl,l,e⟩:=F.ex
 exact zGO l e S len λA a s H vs Q E m g=>d c A a s H vs Q E m g
theorem yM.okX {x:Str} {st:Stmt} {N ps:List Str} {k:Nat} {sp:Sp} (G:yM K mg x st ps) (S:zM N ps (zG st)) (len:∀ vs H Q E,sp vs H Q E->vs.length=ps.length)
  (c:∀ f b A a s H vs Q E,zZ k (A.deeper (envOfC x (zG st) s.heap.objs.size f b))->sp vs H Q E ->
   ∃ t,PSs (uS (CXE P w) P w K mg base N x (zG st) f b A a s H E) (y8 st) t/\t { nx:=λ_ d=>Q .non d,rt:=Q } (start N vs) H):Cal P w K mg base (CXE P w) (k + 1) x ps sp:=by
 obtain ⟨f,fd,F,e,g⟩:=G.ex
 exact ⟨f,fd,F.okX S len λb A a s H vs Q E i h=>c f b A a s H vs Q E i h,e,F.kp,g⟩
theorem yS.okX {C:Addr} {m b:Str} {st:Stmt} {N ps:List Str} {k:Nat} {sp:Sp} (G:yS K C m b st ps) (S:zM N ps (zG st)) (len:∀ vs H Q E,sp vs H Q E->vs.length=ps.length)
  (d:∀ f c A a s H vs Q E,zZ k (A.deeper (envOfC b (zG st) s.heap.objs.size f c))->sp vs H Q E ->
   ∃ t,PSs (uS (CXE P w) P w K mg base N b (zG st) f c A a s H E) (y8 st) t/\t { nx:=λ_ e=>Q .non e,rt:=Q } (start N vs) H):yD P w K mg base (CXE P w) (k + 1) C m ps sp:=by
 obtain ⟨f,fd,F,g,i⟩:=G.ex
 exact ⟨f,fd,F.okX S len λc A a s H vs Q E j h=>d f c A a s H vs Q E j h,g,i⟩
end
section
variable {X:Cx} {k:Nat} {C:Addr} {ps:List Str} {sp:Sp} {E:XK} {x m:Str} {p pos apos:Pos} {o e:Expr} {es:List Expr} {ta:TE} {t:TA}
theorem vW (D:Cal X.prog X.w X.K X.mg X.base (CXE X.prog X.w) k x ps sp) (hx:uT (CXE X.prog X.w) X E) (c:zZ k X.A) (d:PA X (e :: es) t) (f:Gl X x:=by rfl)
  (a:(x == ("__debug__" : Str))=false:=by decide) (g:starEach (e :: es) X.env=(false,eval e X.env) :: starEach es X.env:=by rfl) (b:(backTo pos (starEach es X.env)).any (·.1)=false:=by rfl) :
  PE X (.Call (.Name x p) (e :: es) [] pos) (eF sp [] E t):=
 let ⟨_,_,F,h,i,j⟩:=D.ex
 dG F c f h i j .nil hx d a g b
theorem xX (D:yD X.prog X.w X.K X.mg X.base (CXE X.prog X.w) k C m ps sp) (hx:uT (CXE X.prog X.w) X E) (c:Cls X.K C) (g:zZ k X.A) (h:PE X o ta) (i:PA X (e :: es) t)
  (a:starEach (e :: es) X.env=(false,eval e X.env) :: starEach es X.env:=by rfl) (b:(backTo pos (starEach es X.env)).any (·.1)=false:=by rfl)
  (j:eval (.Call (.Attribute o m apos) (e :: es) [] pos) X.env=(do
   let d <- eval o X.env
   standAt apos.atName
   let (f,first) <- holding [d] (getMethod d m pl)
   callWith pos f first (backTo pos (starEach (e :: es) X.env)) (backToKw pos (keywordEach [] X.env))):=by rfl) :
  PE X (.Call (.Attribute o m apos) (e :: es) [] pos) (jP C m sp [] E ta t):=
 let ⟨_,_,F,l,n⟩:=D.ex
 dF h c l F g n .nil hx i a b j
end
def d6 (C a:Addr) (c:Option Addr):Heap->Prop:=λh=>∃ b cells,h.get? a=some b/\cG b C c/\b.data=.fields cells/\cells[2]?=some .none
abbrev excP (C a:Addr):Heap->Prop:=d6 C a none
abbrev zIX (C a:Addr) (b:Option Addr):HO:=.ext (d6 C a b)
abbrev iZ (C a:Addr):HO:=.ext (d6 C a none)
abbrev XB (X:Cx) (a:LAO) (b:VSP):Cx:={ X with pn:=a,xe:=b }
abbrev XH (X:Cx) (b:LAO) (a:Addr):Cx:={ X with pn:=b,A:=X.A.mark (some (.ref a)),calm:=false,xe:=λ_ _=>False }
section
variable {X:Cx} {qp:LAO} {σ:St} {H:Hp} {s:Shared}
theorem Inv.toB (I:Inv X qp σ H s) (a:VSP):Inv (XB X (X.pn ++ qp) a) [] σ H s:=
 ⟨⟨I.ok.mod,I.ok.kind,I.ok.glob,I.ok.blt,I.ok.above,I.ok.inj,I.ok.has,I.ok.cab,I.ok.hd,I.ok.frames,I.ok.stk,I.ok.exf,I.ok.bs,I.ok.bsz,I.ok.noex,I.ok.exfs,I.ok.funs,I.ok.frf⟩,
  I.os,I.bare,I.base,I.loc,I.cell,I.free,I.freeC,λp b=>I.pin p (by simpa using b),I.hok,I.len⟩
theorem Inv.ofB (I:Inv (XB X (X.pn ++ qp) b) a σ H s):Inv X qp σ H s:=
 ⟨⟨I.ok.mod,I.ok.kind,I.ok.glob,I.ok.blt,I.ok.above,I.ok.inj,I.ok.has,I.ok.cab,I.ok.hd,I.ok.frames,I.ok.stk,I.ok.exf,I.ok.bs,I.ok.bsz,I.ok.noex,I.ok.exfs,I.ok.funs,I.ok.frf⟩,
  I.os,I.bare,I.base,I.loc,I.cell,I.free,I.freeC,λp c=>I.pin p (List.mem_append_left _ c),I.hok,I.len⟩
theorem Inv.toH (I:Inv X qp σ H s) (a:Addr):Inv (XH X (X.pn ++ qp) a) [] σ H s:=
 ⟨⟨I.ok.mod,I.ok.kind,I.ok.glob,I.ok.blt,I.ok.above,I.ok.inj,I.ok.has,I.ok.cab,(λz=>by cases z),I.ok.frames,I.ok.stk,I.ok.exf,I.ok.bs,I.ok.bsz,I.ok.noex,I.ok.exfs,I.ok.funs,I.ok.frf⟩,
  I.os,I.bare,I.base,I.loc,I.cell,I.free,I.freeC,λp b=>I.pin p (by simpa using b),I.hok,I.len⟩
theorem Inv.ofH (c:Inv X qp d f g) (I:Inv (XH X (X.pn ++ qp) a) b σ H s):Inv X qp σ H s:=
 ⟨c.ok,I.os,I.bare,I.base,I.loc,I.cell,I.free,I.freeC,λp e=>I.pin p (List.mem_append_left _ e),I.hok,I.len⟩
theorem Inv.lose (I:Inv X qp σ H s) (k:Heap.SameBut X.env.locals s.heap h') (l:h'.Ns X.env.locals m):Inv X qp (List.replicate X.N.length none) H { s with heap:=h' }:=by
 have same:∀ b,b ≠ X.env.locals->h'.get? b=s.heap.get? b:=λb g=>k.2 b g
 have a:∀ b o,X.s₀.heap.get? b=some o->b ≠ X.env.locals:=λb o q=>zNA (zM5 (Heap.lt_size q) I.ok.above)
 refine ⟨I.ok,I.os,I.bare,⟨λb o q n t f=>(same b (a b o q)).trans (I.base.keep b o q n t f),λb o q n g f=>?_,I.base.free,λb o q f=>?_,I.base.tups,I.base.frzs,I.base.tbls⟩,⟨m,l,λi x v E h _=>?_⟩,λx c e=>?_,I.free,I.freeC,λp w=>?_,λb o q=>?_,by simp⟩
 ·obtain ⟨A,z⟩:=I.base.slot b o q n g f
  exact ⟨A,(same b (a b o q)).trans z⟩
 ·obtain ⟨B,z⟩:=I.base.there b o q f
  exact ⟨B,(same b (a b o q)).trans z⟩
 ·rw [List.getElem?_replicate] at h
  split at h <;> cases h
 ·obtain ⟨v,o,q,d⟩:=I.cell x c e
  exact ⟨v,o,(same c (I.cne x c e)).trans q,d⟩
 ·obtain ⟨e,n,ne,C,d⟩:=I.pin p w
  exact ⟨(same _ ne).trans e,n,ne,C,d⟩
 ·refine (I.hok b o q).stay (λc u D z=>(same c λy=>?_).trans z) (λ_ z=>z) λ_ _ z=>z
  have j:=I.free
  rcases D with r | r
  ·rw [<- r,y,j] at q;cases q
  ·rw [y,j] at r;cases r
end
theorem Inv.caught {s f:Shared} (I:Inv X Y σ H s) (os:f.os=s.os) (bare:AllBare f.gens) (u:Un (frs X.stack) [] H h s.heap f.heap)
  (A:HOk X.prog X.w h f.heap) (F:Fly B X.stack a C L .none f.heap) (l:∀ c,h c ≠ none->∃ v,B.get? c=some v) (m:∀ b o,s.heap.get? b=some o->H b=none->b ∉ frs X.stack->B.get? b=some o)
  (g:∀ b o,s.heap.get? b=some o->b ∉ frs X.stack->∃ j,B.get? b=some j) (x:Fly B X.stack a C L .none y) (up:f.heap.UpToSlots y) :
  h a=none/\Inv X Y σ (upd h a (zIX C a L)) { f with heap:=y }:=by
 have M:h a=none:=by
  cases q:h a with
  | none=>rfl
  | some o=>
   obtain ⟨v,N⟩:=l a (by rw [q];intro z;cases z)
   rw [F.2.1] at N;cases N
 have D:a ∉ frs X.stack:=λz=>by
  obtain ⟨E,cells,tb,ot,G,d,_,i,_⟩:=F.2.2.2
  exact zER F.2.2.1 z d cells i
 have new:∀ b o,s.heap.get? b=some o->b ≠ a:=λb o q z=>by
  subst z
  obtain ⟨j,O⟩:=g b o q D
  rw [F.2.1] at O;cases O
 have ne:∀ b o,h b=some o->b ≠ a:=λb o q z=>by rw [z,M] at q;cases q
 have p:∀ b o,b ∈ frs X.stack->f.heap.get? b=some o->∃ Q,y.get? b=some { o with slots:=Q }:=λb o e q=>up b o q (zER F.2.2.1 e q)
 refine ⟨M,I.call' (s':={ f with heap:=y }) (ch:=[]) os ⟨λb o q n nb _=>x.1 b o (m b o q n nb),λb o q n e r=>?_,λb o q n r=>?_,λb o q r=>?_,λb T q=>?_,λb o v q=>?_,λb ps q=>?_⟩ (λb o q=>?_) bare λb e=>absurd e zND⟩
 ·obtain ⟨Q,d⟩:=u.slot b o q n e r
  obtain ⟨t,i⟩:=p b _ e d
  exact ⟨t,i⟩
 ·rw [zK (new b o q)];exact u.free b o q n r
 ·by_cases e:b ∈ frs X.stack
  ·obtain ⟨j,d⟩:=u.there b o q r
   obtain ⟨t,i⟩:=p b _ e d
   exact ⟨_,i⟩
  ·obtain ⟨j,d⟩:=g b o q e
   exact ⟨j,x.1 b j d⟩
 ·have d:=u.tups b T q
  rw [zK (ne b _ d)];exact d
 ·have d:=u.frzs b o v q
  rw [zK (ne b _ d)];exact d
 ·obtain ⟨more,d⟩:=u.tbls b ps q
  exact ⟨more,by rw [zK (ne b _ d)];exact d⟩
 ·by_cases e:b=a
  ·subst e
   rw [zC] at q
   cases q
   obtain ⟨E,cells,tb,ot,G,d,i,q3,q4,_⟩:=x.2.2.2
   refine ⟨⟨E,cells,d,i,q3,q4⟩,⟨E,d⟩,λh1 h2 ⟨U,c1,r1,r2,r3,r4⟩ k=>⟨U,c1,k U r1,r2,r3,r4⟩⟩
  ·rw [zK e] at q
   have z:=(A.air F.1 x.1 l) b o q
   exact z.stay (λc v _ z=>z) (λc z=>by rw [zK (ne c _ z)];exact z) λc T z=>by rw [zK (ne c _ z)];exact z
def tTry (d:Nat) (ci:Addr->Prop) (n:Nat) (e:XK->TS) (th:Addr->TS):TS:=λD f H=>
 e (λcls g c=>∃ C,cls=.ref C/\ci C/\∀ (a:Addr) (b:St),b.length=d->c a=none->th a { nx:=λ_ _=>False,rt:=D.rt } (b.set n (some (.ref a))) (upd c a (zIX C a g))) D f H
theorem zHQ {X:Cx}
  (hm:X.mg T=some (.ref DC)) (hN:X.N.Nodup) (O:X.N[i]?=some n) (l:X.env.kindOf n=some .local)
  (hb:∀ (g:LAO) (y:VSP) (E1:XK),uT (CXE X.prog X.w) (XB X g y) E1->PSs (XB X g y) body (tb E1))
  (hh:∀ (g:LAO) (a:Addr),PSs (XH X g a) (b0 :: o) (th a)) (hg:Gl X T:=by rfl) (c:X.stack=X.env :: X.outer:=by rfl) (Y:X.env.frame=some X.env.locals:=by rfl) (hk:X.env.scope.kind=.function:=by rfl) (hd:(T == ("__debug__" : Str))=false:=by decide) :
  PS X (.Try body [.ExceptHandler (some (.Name T tp)) (some n) (b0 :: o) hp] [] [] pos) (tTry X.N.length (λC=>W.exmOne X.K (.ref C) (.ref DC)=some true) i tb th):=by
 intro Q s0 a0 H0 D I0 h0
 refine wpAny_Try_except ?_
 have I1:=I0.toB (λe s1=>∃ A H s,Inv X Q A H s/\CXE X.prog X.w X.stack H s (λcls U d=>∃ C,cls=.ref C/\W.exmOne X.K (.ref C) (.ref DC)=some true/\∀ (a:Addr) (b:St),b.length=X.N.length->d a=none->th a { nx:=λ_ _=>False,rt:=D.rt } (b.set i (some (.ref a))) (upd d a (zIX C a U))) e s1)
 have run:=hb _ _ _ (λa1 A H s e s' I z=>⟨A,H,s,I.ofB,z⟩) [] s0 a0 H0 D I1 h0
 refine wpAny_mono run (λf s1 t=>?_) λe s1 t=>?_
 ·cases f with
  | next=>
   obtain ⟨b,d,p,q⟩:=t
   exact wpAny_execs_nil ⟨b,d,p.ofB,q⟩
  | brk=>obtain ⟨b,d,p,q⟩:=t;exact ⟨b,d,p.ofB,q⟩
  | cont=>obtain ⟨b,d,p,q⟩:=t;exact ⟨b,d,p.ofB,q⟩
  | ret v=>obtain ⟨x,b,d,p,r,q⟩:=t;exact ⟨x,b,d,p.ofB,r,q⟩
 ·obtain ⟨A,H,s,I,a,C,U,B,d,rfl,os,bare,u,E,F,G,j,k,C',eC,hex,a2⟩:=t
  cases eC
  have Fs:=F
  rw [c] at Fs
  refine dN (by rw [I.ok.frames,c]) Y Fs λh2 F2 u2=>?_
  refine pZ F2 λh3 F3 u3=>?_
  have a3:Fly B X.stack a C U .none h3:=by rw [c];exact F3
  obtain ⟨ha,I3⟩:=I.caught os bare u E F G j k a3 (u2.trans u3)
  obtain ⟨ob,cells,ab,ot,ac,ge,gc,_⟩:=id F3.2.2.2
  have LT:W.Looks (model X.prog X.w) h3 (typeOf (.ref a)) (.ref C):=by
   have z:W.Looks (model X.prog X.w) h3 (typeOf (.ref a)) ob.cls:=(W.Looks.ld ge).andThen .now
   rw [gc.1] at z;exact z
  refine wpAny_handleBy_cons (codeAny_handlers_test ?_) (by intro z;cases z)
  refine sP (I3.toH a) (show Gl (XH X (X.pn ++ Q) a) T from hg) hm ?_ hd
  refine W.exm_one (M:=model X.prog X.w) I3.kIn LT hex _ _ _ _ (λ_ _ z=>z) ?_
  refine codeAny_handlers_suite_as ?_
  refine pZ F3 λh4 F4 u4=>?_
  have a4:Fly B X.stack a C U .none h4:=by rw [c];exact F4
  obtain ⟨_,I4⟩:=I.caught os bare u E F G j k a4 ((u2.trans u3).trans u4)
  refine rQ I4 hN O (.inl l) (v:=.ref a) rfl (λs5 I5=>?_) (.inr l)
  refine wpAny_mono (hh (X.pn ++ Q) a [] s5 _ _ _ (I5.toH a) (a2 a A I.len ha)) (λf s6 h=>?_) λ_ _ z=>z.elim
  cases f with
  | next=>obtain ⟨_,_,_,z⟩:=h;exact z.elim
  | brk=>obtain ⟨_,_,_,z⟩:=h;exact z.elim
  | cont=>obtain ⟨_,_,_,z⟩:=h;exact z.elim
  | ret v=>
   obtain ⟨x6,J,H6,I6,r6,q6⟩:=h
   have L:Inv X Q J H6 s6:=I4.ofH I6
   refine wpAny_bind (wpAny_bindName (rQ L hN O (.inl l) (v:=.non) rfl (λs7 I7=>?_) (.inr l)))
   unfold unbindBehindTheSuite
   obtain ⟨m,hn,a5⟩:=id I7.loc
   have a6:(J.set i (some V.non))[i]?=some (some V.non):=by
    rw [zNG]
    rw [L.len];exact (zML.mp O).1
   obtain ⟨v7,_,lk⟩:=a5 i n .non O a6 (.inl l)
   have hv:m n=some v7:=by
    rcases lk with ⟨_,z⟩ | ⟨z,_⟩
    ·exact z
    ·rcases z with z | z <;> (rw [l] at z;cases z)
   refine wpAny_onRaise (wpAny_unbindName_local l hn hv (by rw [hk];rfl) λh8 w8 a7 aa=>?_)
   exact ⟨x6,_,H6,I7.lose aa a7,r6,q6⟩
end L2
namespace L2
open PySem PySem.Spec PyProof.Rows PySem.W
structure mJ (K:Frag) (C:Addr):Prop where
 ga:findIn K (.ref C) "__getattribute__"=some (some (.builtin "BaseException.__getattribute__"))
 gt:findIn K (.ref C) "__getattr__"=some none
 ca:findIn K (.ref C) "__class__"=some (some (.builtin "object.__class__"))
 sg:specialIn K (.builtin "object.__class__") "__get__"=some (some (.builtin "getset_descriptor.__get__"))
 tk:takesIn K (.builtin "object.__class__")=some true
 mo:mroIn K C (.type "object")=some true
 hd:hasDictIn K C=true
 be:subIn K (.ref C) (.type "BaseException")=some true
section
variable {prog:Program} {w:World} {A:Around} {E:VSP} {K:Frag} {x C:Addr} {ox:Obj} {od:Option Obj} {h:Heap} {g:Array GenState} {d:Drawn} {t:Nat} {os:OsState}
theorem zCJ (k:mJ K C):findObj K C od "__class__"=some (.bind (.builtin "getset_descriptor.__get__") (.builtin "object.__class__")):=by
 obtain ⟨b,a,_⟩:=any_some k.hd
 unfold findObj
 rw [a,Option.bind_some,k.ca,Option.bind_some]
 simp [k.sg,k.tk]
theorem pN (k:mJ K C) (X:K.In h) (I:InstAt h x ox C od) (a:Q (.done (.ret (.ref C))) ⟨h,g,d,t,os⟩) :
  wpAny (model prog w) A (Builtin.«object.__getattribute__» ⟨[.ref x,.str "__class__" tok],[]⟩) Q E ⟨h,g,d,t,os⟩:=by
 have b:=I.type (M:=model prog w)
 have c:=looks_find (M:=model prog w) X I (zCJ k)
 unfold Builtin.«object.__getattribute__»
 repeat (any_goals (first | assumption | with_reducible refine b.at ?_ | with_reducible refine c.at ?_ | wp_step))
 exact class_get (s:=⟨h,g,d,t,os⟩) X I k.mo (wpAny_pure a)
theorem jC {M:Model} {xA:Value} {Q:Unit->Shared->Prop} (k:mJ K C) (X:K.In h) (I:InstAt h x ox C od) (e:Q () ⟨h,g,d,t,os⟩) :
  wpAny M A (checkBuiltinCall "BaseException.__getattribute__" ⟨[.ref x,xA],[]⟩) Q E ⟨h,g,d,t,os⟩:=by
 have a:builtinKind "BaseException.__getattribute__"=some .slot:=by decide +kernel
 have b:splitId "BaseException.__getattribute__"=some ("BaseException","__getattribute__"):=by decide +kernel
 have c:Looks M h (isInstance (.ref x) (.type "BaseException")) true:=(I.type (M:=M)).andThen (looks_subIn X k.be)
 have f:=F.args_bexc_ga (.ref x) xA
 simp only [checkBuiltinCall,a,b]
 refine wpAny_bind (c.at ?_)
 repeat (any_goals (first | assumption | wp_step))
theorem nJ (k:mJ K C) (X:K.In h) (I:InstAt h x ox C od) (a:R (.ok (.ret (.ref C))) ⟨h,g,d,t,os⟩) :
  codeAny (model prog w) A (.call (.builtin "BaseException.__getattribute__") ⟨[.ref x,.str "__class__" tok],[]⟩) R ⟨h,g,d,t,os⟩:=
 codeAny_call_builtin F.attrBase_ValueError.ga.plain F.entry_bexc_ga (jC k X I (pN k X I a))
theorem jB (k:mJ K C) (X:K.In h) (I:InstAt h x ox C od) (e:Q (.ref C) ⟨h,g,d,t,os⟩) :
  wpAny (model prog w) A (getAttrBy (.ref x) (.str "__class__" tok) false) Q E ⟨h,g,d,t,os⟩:=by
 have f:=F.attrBase_ValueError.ga.bind (.ref x)
 have a:(Value.builtin "BaseException.__getattribute__" == Value.builtin "object.__getattribute__")=false:=by decide +kernel
 have i:(onTheHeap (Value.ref C) && Value.builtin "BaseException.__getattribute__" == Value.builtin "object.__getattribute__")=false:=by rw [a];rfl
 have b:=I.type (M:=model prog w)
 have c:=looks_findIn (M:=model prog w) X k.ga
 have L2:=looks_findIn (M:=model prog w) X k.gt
 repeat (any_goals (first | assumption | with_reducible refine b.at ?_ | with_reducible refine c.at ?_ | with_reducible refine L2.at ?_ | wp_step))
 refine nJ k X I ?_
 repeat (any_goals (first | assumption | wp_step))
theorem nK (k:mJ K C) (X:K.In h) (I:InstAt h x ox C od) (a:Q (some (.ref C)) ⟨h,g,d,t + 1,os⟩) :
  wpAny (model prog w) A (getAttr? (.ref x) "__class__") Q E ⟨h,g,d,t,os⟩:=by
 unfold getAttr? getAttrBy?
 repeat (any_goals (first | assumption | with_reducible apply jB k X I | wp_step))
theorem iV (k:mJ K C):KitX K (.ref x) (.ref C) (λh=>∃ ox od,InstAt h x ox C od) where
 ty:=λ_ _ _ ⟨_,_,I⟩=>I.type
 it:=λ_ _ X _=>by
  obtain ⟨cd,hc,_⟩:=any_some k.hd
  unfold clsIn at hc
  split at hc
  ·rename_i c1 d1 cd1 sl1 hk
   intro A' Q' E' s' kk q
   unfold isType loadHead
   exact wpAny_bind (wpAny_loadPart (kk _ _ (X _ _ hk)) (wpAny_pure q))
  ·cases hc
 ne:=λh tp dd its n sl X htp=>by
  obtain ⟨cd,hc,_⟩:=any_some k.hd
  refine Bool.eq_false_iff.mpr λq=>?_
  have e1:=Value.ref.inj (beq_iff_eq.mp q)
  subst e1
  unfold clsIn at hc
  split at hc
  ·rename_i c1 d1 cd1 sl1 hk
   cases ((X _ _ hk).symm.trans htp)
  ·cases hc
 ca:=λ{_ _ _ _ _ s} X ⟨ox,od,I⟩ hq=>by
  obtain ⟨h,g,d,t,os⟩:=s
  exact nK k X I hq
end
section
variable {X:Cx}
theorem iY (p:d6 C a c h) (hd:∀ dx,c=some dx->∃ o,h.get? dx=some o):∃ i j,InstAt h a i C j:=by
 obtain ⟨b,cells,d,⟨e,f⟩,k,_⟩:=p
 have g:notCls b=true:=by unfold notCls;rw [k]
 cases c with
 | none=>exact ⟨b,none,d,e,g,by rw [f];trivial⟩
 | some dx=>
  obtain ⟨o,l⟩:=hd dx rfl
  exact ⟨b,some o,d,e,g,by rw [f];exact l⟩
def zKU (K:Frag) (c:V) (d:Value):List V->Hp->VK->Prop:=λe H Q=>∃ a C b,e=[.ref a,c]/\H a=some (iZ C a)/\mJ K C/\kitOne K (.ref C) d=some b/\Q (.bl b) H
theorem wM:vK X (.builtin "isinstance") (zKU X.K (.ref D) (.ref D)):=by
 intro i s j H l m Q I r h
 obtain ⟨a,C,b,rfl,c,k,e,q⟩:=h
 obtain ⟨u,v,rfl,d,f⟩:=r.two
 cases d;cases f
 obtain ⟨p,_,_⟩:=(show xL X.prog X.w H s.heap a (iZ C a) from I.hok a _ c)
 exact kia_one (iV k) I.kIn (iY p (λ_ z=>nomatch z)) e (λz=>nomatch z) λg=>⟨.bl b,H,I.tok g,rfl,q⟩
theorem aD:vK X (.builtin "isinstance") (zKU X.K (.ty T) (.type T)):=by
 intro i s j H l m Q I r h
 obtain ⟨a,C,b,rfl,c,k,e,q⟩:=h
 obtain ⟨u,v,rfl,d,f⟩:=r.two
 cases d;cases f
 obtain ⟨p,_,_⟩:=(show xL X.prog X.w H s.heap a (iZ C a) from I.hok a _ c)
 exact kia_one (iV k) I.kIn (iY p (λ_ z=>nomatch z)) e (λz=>nomatch z) λg=>⟨.bl b,H,I.tok g,rfl,q⟩
end
end L2
namespace L2
open PySem PySem.Spec PyProof.Rows
section
variable {prog:Program} {w:World} {A:Around} {E:VSP} {s:Shared}
theorem mF:entryFor table "proto.unchain"=some Builtin.«proto.unchain»:=entryFor_of_fast (by kernel_rfl)
theorem lN (a:s.heap.get? hx=some b) (c:b.data=.fields cells) (g2:cells[2]?=some .none) (q:Q .none s) :
  wpAny (model prog w) A (runValue (.builtin "proto.unchain" ⟨[.ref e,.ref hx,.ref hx,.bool false],[]⟩)) Q E s:=by
 refine wpAny_runValue (codeAny_builtin mF ?_)
 unfold Builtin.«proto.unchain»
 refine wpAny_bind (wpAny_field a c g2 ?_)
 rw [if_pos (by rfl)]
 first | exact wpAny_pure q | (refine wpAny_bind ?_;exact wpAny_pure (wpAny_pure q)) | (repeat (any_goals (first | assumption | wp_step)))
theorem n8 {e hx:Addr} {oe b:Obj} {cells ce:Array Value} {c:Type} {Q:c->Shared->Prop} (d:A.handled=some (.ref hx)) (f:s.heap.get? hx=some b) (g:b.data=.fields cells) (g2:cells[2]?=some .none)
  (ge:s.heap.get? e=some oe) (a:oe.data=.fields ce) (h:2 < ce.size) (ne:hx ≠ e) (q:E (.ref e) { s with heap:=s.heap.update e (Obj.mapFields (·.setIfInBounds 2 (.ref hx))) }) :
  wpAny (model prog w) A (raiseNew (.ref e):Sem c) Q E s:=by
 simp only [raiseNew]
 refine wpAny_bind (wpAny_handled ?_)
 rw [d]
 have i:(Value.ref hx != Value.ref e)=true:=by simp [ne]
 dsimp only
 rw [if_pos i]
 refine wpAny_bind (wpAny_holding (lN f g g2 ?_))
 refine wpAny_bind ?_
 unfold updateField
 refine wpAny_bind (wpAny_load ge ?_)
 rw [a]
 dsimp only
 rw [if_pos h]
 exact wpAny_update ge (wpAny_throw q)
theorem bE {f hx C:Addr} {x left step:Int} {Q:Option Value->Shared->Prop} (n:A.handled=some (.ref hx)) (p:excP C hx s.heap) (hit:IsRangeIter s.heap f x left step) (d:left <= 0)
  (r:∀ h',(∀ b o,s.heap.get? b=some o->h'.get? b=some o)->Q none { s with heap:=h' }):wpAny (model prog w) A (pyNext (.ref f)) Q E s:=by
 have ty:s.TypeIs (.ref f) "range_iterator":=⟨_,hit,rfl⟩
 obtain ⟨y,cells,k,_,t,g2⟩:=p
 unfold pyNext
 refine wpAny_bind (wpAny_attempt (wpAny_callSpecial?_slot (name:=Str.ofString "__next__") ty F.slot_range_iterator_next (wpAny_call_entry F.slot_range_iterator_next ty F.entry_range_iterator_next ?_ (F.args_range_iterator_next_1 _))))
 change wpAny _ _ (field (.ref f) 0 >>= _) _ _ s
 refine wpAny_bind (wpAny_field hit rfl (x:=rawInt x) rfl (show wpAny _ _ (field (.ref f) 1 >>= _) _ _ s from wpAny_bind (wpAny_field hit rfl (x:=rawInt left) rfl (show wpAny _ _ (field (.ref f) 2 >>= _) _ _ s from wpAny_bind (wpAny_field hit rfl (x:=rawInt step) rfl ?_)))))
 change wpAny _ _ (if left <= 0 then _ else _) _ _ s
 rw [if_pos d]
 refine wpAny_bind (wpAny_rule (wpAny_bind ?_))
 change wpAny _ _ (newExc (.type "StopIteration") [] >>= _) _ _ _
 refine wpAny_bind ?_
 simp only [newExc,newTuple]
 refine wpAny_bind (wpAny_newObj_type (T:="tuple") ?_ (by size_fits))
 refine wpAny_bind (m:=firstArgMember _ _) (wpAny_of_eq (a:=Value.none) (by first | rfl | (simp only [firstArgMember];rfl)) (wpAny_newObj_type ?_ (by size_fits)))
 generalize h:(s.heap.push _:Heap)=g1
 have i:∀ b o,s.heap.get? b=some o->g1.get? b=some o:=λb o q=>by rw [<- h];exact Heap.get?_push_of_some _ q
 generalize g:({ cls:=Value.type "StopIteration",dict:=none,data:=_ }:Obj)=e
 have l:∀ b o,s.heap.get? b=some o->(g1.push e).get? b=some o:=λb o q=>Heap.get?_push_of_some _ (i b o q)
 have c:∃ ce:Array Value,e.data=.fields ce/\2 < ce.size:=⟨_,by rw [<- g],by simp;omega⟩
 obtain ⟨ce,c,u⟩:=c
 have ge:(g1.push e).get? g1.objs.size=some e:=Heap.get?_push_size _ (Obj.isFreed_of_fields c)
 have v:e.cls=.type "StopIteration":=by rw [<- g]
 have j:hx ≠ g1.objs.size:=zNA (Heap.lt_size (i _ _ k))
 have up:∀ b o,s.heap.get? b=some o->((g1.push e).update g1.objs.size (Obj.mapFields (·.setIfInBounds 2 (.ref hx)))).get? b=some o:=λb o q=>by
  rw [Heap.get?_update_other _ _ (Nat.ne_of_gt (Heap.lt_size (i b o q)))];exact l b o q
 refine n8 (hx:=hx) (oe:=e) (ce:=ce) n (l _ _ k) t g2 ge c u j ?_
 dsimp only
 refine wpAny_bind (wpAny_isInstance (T:="StopIteration") (b:=true) ⟨_,Heap.get?_update_self _ ge (Obj.isFreed_of_fields (Obj.data_mapFields c _)),(Obj.cls_mapFields _ _).trans v⟩ isSubtype_stop ?_)
 exact wpAny_pure (r _ up)
end
structure zGS (hx:Addr) (P:Program) (w:World) (tg:Expr) (J:It) (fp:List Addr) (it:Addr) (tn:Nat->Heap->Prop):Prop where
 mem:it ∈ fp
 obj:∀ i h,tn i h->∀ b ∈ fp,∃ o,h.get? b=some o/\∀ v,o.data ≠ .cell v
 keep:∀ i h h',tn i h->(∀ b ∈ fp,∀ o,h.get? b=some o->h'.get? b=some o)->tn i h'
 item:∀ (X:Cx),X.prog=P->X.w=w->X.A.handled=some (.ref hx)->∀ (i:Nat) (qp:LAO) (s:Shared) (σ:St) (H:Hp) (E:VSP),Inv X qp σ H s->(∀ b ∈ fp,uU X qp H b)->tn i s.heap->J.go i H ->
  wpAny (model P w) X.A (pyNext (.ref it)) (λr s1=>∃ u,r=some u /\
   wpAny (model P w) X.A (letOwnedTupleGo tg (.ref it) u) (λ_ s2=>∃ x H',Inv X qp σ H' s2/\yX x u/\J.yld i H x H'/\tn (i + 1) s2.heap/\∀ b ∈ fp,H' b=none) E s1) E s
 done:∀ (X:Cx),X.prog=P->X.w=w->X.A.handled=some (.ref hx)->∀ (i:Nat) (qp:LAO) (s:Shared) (σ:St) (H:Hp) (E:VSP),Inv X qp σ H s->(∀ b ∈ fp,uU X qp H b)->tn i s.heap->J.stop i H ->
  wpAny (model P w) X.A (pyNext (.ref it)) (λr s1=>r=none/\Inv X qp σ H s1) E s
 self:∀ (A:Around) (i:Nat) (s:Shared) (Q:VSP) (E:VSP),tn i s.heap->Q (.ref it) s->wpAny (model P w) A (pyIter (.ref it)) Q E s
def zMG (hx:Addr) (X:Cx) (d:LAO) (i:St) (j:Expr) (R:It->Hp->Prop) (a:Value) (e:Shared):Prop:=
 ∃ f g h J c,a=.ref f/\Inv X d i c e/\zGS hx X.prog X.w j J g f h/\h 0 e.heap/\(∀ b ∈ g,uU X d c b)/\R J c
def PIH (hx:Addr) (X:Cx) (c iter:Expr) (d:TI):Prop:=
 ∀ b s a H R,Inv X b a H s->d a H R ->
  wpAny (model X.prog X.w) X.A (eval iter X.env) (λv e=>wpAny (model X.prog X.w) X.A (pyIter v) (zMG hx X b a c R) X.xe e) X.xe s
noncomputable def zFP (hx:Addr) (lo:Int) (n:Nat):It:=⟨λi _=>i < n,λi H x a=>a=H/\x=.int (lo + i),λi H=>n <= i/\∃ C,H hx=some (iZ C hx)⟩
theorem jL {hx:Addr} {P:Program} {w:World} {tg:Expr} (it:Addr) (lo:Int) (n:Nat):zGS hx P w tg (zFP hx lo n) [it] it (λi h=>IsRangeIter h it (lo + (i:Nat) * 1) ((n:Int) - (i:Nat)) 1) where
 mem:=by simp
 obj:=λi h st b hb=>by
  have e:b=it:=by simpa using hb
  subst e
  exact ⟨_,st,λv z=>by
   have z':Data.fields _=Data.cell v:=z
   cases z'⟩
 keep:=λi h h' st k=>k it (by simp) _ st
 item:=by
  intro X hP hw hc i qp s σ H E I hf st hg
  subst hP hw
  obtain ⟨f0,f1,f2,f3,f4,f5⟩:=hf it (by simp)
  refine wpAny_pyNext_range_item st (by have:i < n:=hg;omega) λh' st' sb=>?_
  have I1:Inv X qp σ H { s with heap:=h',toks:=s.toks + 1 }:=I.turned (λb o hb e=>(sb.2 b hb).trans e) f0 f1 f3 f4 f5
  have e1:lo + ((i + 1:Nat):Int) * 1=lo + (i:Int) * 1 + 1:=by omega
  have e2:(n:Int) - ((i + 1:Nat):Int)=(n:Int) - (i:Int) - 1:=by omega
  have st2:IsRangeIter h' it (lo + ((i + 1:Nat):Int) * 1) ((n:Int) - ((i + 1:Nat):Int)) 1:=by rw [e1,e2];exact st'
  refine ⟨_,rfl,dZ (s:={ s with heap:=h',toks:=s.toks + 1 }) (n:="range_iterator") st' rfl rfl (by decide) ⟨.int (lo + i),H,I1,⟨s.toks,?_⟩,⟨rfl,rfl⟩,st2,λb hb=>(hf b hb).1⟩⟩
  rw [Int.mul_one]
 done:=by
  intro X hP hw hc i qp s σ H E I hf st hg
  subst hP hw
  obtain ⟨f0,f1,f2,f3,f4,f5⟩:=hf it (by simp)
  obtain ⟨hn,C,hC⟩:=hg
  obtain ⟨p,_,_⟩:=(show xL X.prog X.w H s.heap hx (iZ C hx) from I.hok hx _ hC)
  exact bE hc p st (by omega) λh' kk=>⟨rfl,I.kept (t':=s.toks) λb o e=>kk b o e⟩
 self:=λ_ _ _ _ _ st h=>wpAny_pyIter_rangeiter st h
section
variable {X:Cx} {tg:Expr} {hx:Addr}
theorem cW {c:LAO} {d:St} {H:Hp} {s:Shared} {R:It->Hp->Prop} {E:VSP} {lo a:Int} {t u v:Tok} {f:Nat} (I:Inv X c d H s) (h:-(2 ^ 62) <= lo) (i:lo < 2 ^ 62) (j:-(2 ^ 62) <= a) (k:a < 2 ^ 62)
  (q:R (zFP hx lo (a - lo).toNat) H):wpAny (model X.prog X.w) X.A (pyIter (.ref s.heap.objs.size)) (zMG hx X c d tg R) E { s with heap:=s.heap.push { cls:=.type "range",data:=.fields #[.int lo t,.int a u,.int 1 v] },toks:=f }:=by
 refine wpAny_pyIter_range (IsRange.new ..) (small_one h i j k) ?_
 have g:Inv X c d H { s with heap:=s.heap.push { cls:=.type "range",data:=.fields #[.int lo t,.int a u,.int 1 v] },toks:=f }:=I.kept λb o e=>Heap.get?_push_of_some _ e
 refine ⟨(s.heap.push { cls:=.type "range",data:=.fields #[.int lo t,.int a u,.int 1 v] }).objs.size,[(s.heap.push { cls:=.type "range",data:=.fields #[.int lo t,.int a u,.int 1 v] }).objs.size],_,_,H,rfl,
  g.kept (t':=f) λb o e=>Heap.get?_push_of_some _ e,jL _ lo (a - lo).toNat,?_,λb l=>?_,q⟩
 ·have m:lo + ((0:Nat):Int) * 1=lo:=by simp
  have n:(((a - lo).toNat:Nat):Int) - ((0:Nat):Int)=Builtin.Range.rangeSize lo a 1:=by rw [rangeSize_one];split <;> omega
  show IsRangeIter _ _ (lo + ((0:Nat):Int) * 1) ((((a - lo).toNat:Nat):Int) - ((0:Nat):Int)) 1
  rw [m,n]
  exact Heap.get?_push_size _ rfl
 ·have e:b=(s.heap.push { cls:=.type "range",data:=.fields #[.int lo t,.int a u,.int 1 v] }).objs.size:=by simpa using l
  subst e
  exact g.fpOk (zMS _) (g.hok.fresh (zMS _))
def zIU (hx:Addr) (a:TA):TI:=λb H R=>a b H λc d=>∃ j:Int,c=[.int j]/\-(2 ^ 62) <= j/\j < 2 ^ 62/\R (zFP hx 0 j.toNat) d
theorem fB {a:Expr} {d:TA} {p pos:Pos} (f:Gl X "range") (g:X.mg "range"=none) (i:PA X [a] d) (k:starEach [a] X.env=[(false,eval a X.env)]:=by rfl):PIH hx X tg (.Call (.Name "range" p) [a] [] pos) (zIU hx d):=by
 intro l s m H R I h
 refine Call_ (rG I f g boot_range (PyProof.Rows.callWith_type1 (thn (i pos l s m H _ I h) λv w b=>?_) k rfl))
 obtain ⟨x,y,n,o,c⟩:=b
 obtain ⟨j,e,c,r,q⟩:=c
 subst e
 obtain ⟨u,rfl,t,rfl⟩:=o.one
 exact call_range_1 (cW n (by omega) (by omega) c r (by simpa using q))
end
theorem zB6
    (S:xO X xs ix scope) (z:X.A.handled=some (.ref ax)) (B:PIH ax X y iter D)
    (E:∀ C b s H,PG (cxC X xs ix scope C b s H) y g) (G:∀ C b s H,PTs (cxC X xs ix scope C b s H) o L) (M:∀ C b s H,PE (cxC X xs ix scope C b s H) t N)
 (I:Inv X l n H s) (h:tLC xs ix D g L N n H Q)
    (fin:∀ acc C d s' m,Q (.ref acc) d->s'.heap.Ns C m->(∀ h',Heap.SameBut C s'.heap h'->∀ O,Inv X l n d { s' with heap:=h',toks:=O })->(X.s₀.heap.objs.size <= C/\C ≠ X.env.locals/\(∀ x c,X.env.cells.lookup x=some c->c ≠ C)/\(∀ p ∈ X.pn ++ l,p.1 ≠ C)/\d C=none)->compPost (model X.prog X.w) X.A X.xe use R (.ref acc) C (.ok .next) s') :
    wpAny (model X.prog X.w) X.A (eval iter X.env) (λx f=>wpAny (model X.prog X.w) X.A (pyIter x) (λu i=>wpAny (model X.prog X.w) X.A (newList []) (λacc j=>
      wpAny (model X.prog X.w) X.A (newFunctionEnv scope X.env.globals (clF X.env scope.names []) [] X.env.qual none .none (some X.env)) (λa k=>
        codeAny (model X.prog X.w) X.A (.compStart (.ListComp t [⟨y,iter,o,0⟩] scope pos) 0 u acc { a with scope:=relabel scope X.env }) (compPost (model X.prog X.w) X.A X.xe use R acc a.locals) k) X.xe j) X.xe i) X.xe f) X.xe s:=
  iT (Reg:=λY=>Y.A.handled=some (.ref ax)) S (λY _ _ e=>e.trans z)
    (λl s n H R I q=>thn (B l s n H R I q) λv s1 h1=>thn h1 λa0 s2 h2=>by
      obtain ⟨u,b,tn,J,d,e,I',T,r⟩:=h2
      exact ⟨u,b,tn,J,d,e,I',⟨T.mem,T.obj,T.keep,T.item,T.done,T.self⟩,r⟩) E G M I h fin
theorem cY {X:Cx} {f pos b:Pos}
  (Y:X.N.Nodup) (u:X.N[i]?=some x) (hx:Loc X.env.scope x)
  (S:xO X xs ix scope) (hc:X.A.handled=some (.ref ax)) (hi:PIH ax X t iter wi)
  (hg:∀ C l s H,PG (cxC X xs ix scope C l s H) t g) (ht:∀ C l s H,PTs (cxC X xs ix scope C l s H) j tt) (he:∀ C l s H,PE (cxC X xs ix scope C l s H) o te)
  (y:swapsWith (.ListComp o [⟨t,iter,j,0⟩] scope f) (some (.Name x b)) pos.line X.env=pure true)
  (hf:X.fn x=true \/ X.env.scope.names.lookup x=some .local:=by first | exact .inl rfl | exact .inr rfl | assumption)
  (hs:∀ x,foldedSetIterable iter X.env x=pure x:=by intro _;rfl) :
  PS X (.Assign [.Name x b] (.ListComp o [⟨t,iter,j,0⟩] scope f) pos) (oE (tLC xs ix wi g tt te) (wA i)):=by
 intro U s σ H D I h
 have B:∀ n,(n,NameKind.free) ∈ scope.names->(X.env.cells.lookup n).isSome=true:=λn E=>by
  obtain ⟨c,e⟩:=I.ok.has n (S.fre n E)
  rw [e];rfl
 rw [exec_Assign_Name_used _ _ _ _ y]
 refine wpAny_bind (wpAny_standAt (wpAny_bind ?_))
 rw [arm_evalThenUse_ListComp]
 refine wpAny_bind (thn (Q:=λ_ p=>SP X U D .next p) (wpAny_comprehension_free (g:=⟨t,iter,j,0⟩) (gs:=[]) (use:=some (assign (.Name x b) X.env)) rfl hs (wX B) S.kind S.loc ?_) λ_ s1 h1=>wpAny_pure (wpAny_pure h1))
 refine zB6 S hc hi hg ht he I h λacc C H' p m q E k G=>?_
 have I':=k p.heap (Heap.SameBut.refl _ _) p.toks
 show wpAny (model X.prog X.w) X.A (assign (.Name x b) X.env (.ref acc)) (λ_ d=>∃ m,d.heap.Ns C m/\∀ J,Heap.SameBut C d.heap J->SP X U D .next { d with heap:=J }) X.xe p
 refine wpAny_assign_Name (qK I' Y u hx (v:=.ref acc) rfl (λd L r=>?_) hf)
 obtain ⟨a,M,O⟩:=r
 refine ⟨m,E.sameBut M ?_,λJ T=>⟨_,H',L.letgo T G,q⟩⟩
 rcases O with rfl | O
 ·exact G.2.1
 ·exact λz=>G.2.2.1 x a O z.symm
structure zDB (k:Nat) (A:Around):Prop where
 dp:A.depth + 3 * k + 5 < recursionLimit
 un:A.units + 16 * k + 200 < cLine
theorem zZ.toH (r:zZ k A) (o:Option Value):zDB k (A.mark o):=⟨r.dp,r.un⟩
abbrev SpH:=Addr->List V->Hp->VK->Prop
structure zGU (P:Program) (w:World) (K:W.Frag) (mg:Str->Option Value) (base:Heap) (k:Nat) (f:Addr) (fd:FuncData) (ps:List Str) (sp:SpH):Prop where
 len:∀ hx vs H Q,sp hx vs H Q->vs.length=ps.length
 run:∀ (hx:Addr) (A:Around) (outer:List Env) (s:Shared) (H:Hp) (args:Args) (us:List Value) (vs:List V) (Q:VK),zDB k A->A.handled=some (.ref hx)->gD P w K mg base A outer s H->BindsTo s fd args (ps.zip us)->yO vs us->sp hx vs H Q ->
  codeAny (model P w) A (.call (.ref f) args) (CR CX0 outer P w H s Q (λ_ _ _=>False)) s
noncomputable def cxH (P:Program) (w:World) (K:W.Frag) (mg:Str->Option Value) (base:Heap) (N:List Str) (b:Str) (scope:Scope) (f:Addr) (d:Value) (A:Around) (a:List Env) (s:Shared) (H:Hp):Cx:=
 { uS CX0 P w K mg base N b scope f d A a s H (λ_ _ _=>False) with calm:=false,xe:=λ_ _=>False }
theorem Fun.okH {P:Program} {w:World} {K:W.Frag} {mg:Str->Option Value} {base:Heap} {x d:Str} {st:Stmt} {f:Addr} {fd:FuncData} {N ps:List Str} {k:Nat} {sp:SpH} (F:Fun K x d st f fd) (S:zM N ps (zG st)) (len:∀ hx vs H Q,sp hx vs H Q->vs.length=ps.length)
  (i:∀ hx h A c s H vs Q,A.handled=some (.ref hx)->sp hx vs H Q ->
   ∃ t,PSs (cxH P w K mg base N d (zG st) f h A c s H) (y8 st) t/\t { nx:=λ_ m=>Q .non m,rt:=Q } (start N vs) H):zGU P w K mg base (k + 1) f fd ps sp:=by
 obtain ⟨oc,od,kV,L,pm,an,h,ct,M,rfl,O,B⟩:=F.ex
 refine ⟨len,λhx A c s H args T vs Q U Y g hb r p=>?_⟩
 have hl:=len _ _ _ _ p
 have G:=g.mod.kin.keeps λb o e=>(g.bs b o e).1
 have C:=g.mod.nolimit.keeps λb o e=>(g.bs b o e).1
 have j:∀ y ∈ ps.zip T,(zG st).names.lookup y.1=some .local \/ ((zG st).names.lookup y.1=some .cell/\((cellsFrom (s.heap.objs.size + 1) (zG st).names []).lookup y.1).isSome=true):=λ⟨n,v⟩ hy=>by
  rcases S.par n (List.of_mem_zip hy).1 with q | q
  ·exact .inl q
  ·exact .inr ⟨q,W.cellsFrom_some _ _ _ (.inl q)⟩
 refine codeAny_call_function (by have:=U.dp;omega) (G _ _ O) rfl S.co S.gen rfl (W.codeRec_of G B) (hb _ _ _ _ ?_)
 refine wpAny_newFunctionEnv_cells S.kind j λa0 he D x=>?_
 subst he
 refine ⟨C.keeps x.toInCall.keep,codeAny_func ?_⟩
 obtain ⟨t,ht,hq⟩:=i hx h A c s H vs Q Y p
 have a:Inv (uS CX0 P w K mg base N d (zG st) f h { A with handled:=none } c s H (λ_ _ _=>False)) [] (start N vs) H D:=
  m5 S rfl ⟨g.frames,g.mod,g.bs,g.bsz,g.funs,g.frf,g.hok,g.bare⟩ hl r x
 have I:Inv (cxH P w K mg base N d (zG st) f h A c s H) [] (start N vs) H D:=
  ⟨⟨a.ok.mod,a.ok.kind,a.ok.glob,a.ok.blt,a.ok.above,a.ok.inj,a.ok.has,a.ok.cab,(λz=>by cases z),a.ok.frames,a.ok.stk,a.ok.exf,a.ok.bs,a.ok.bsz,a.ok.noex,a.ok.exfs,a.ok.funs,a.ok.frf⟩,
   a.os,a.bare,a.base,a.loc,a.cell,a.free,a.freeC,a.pin,a.hok,a.len⟩
 refine wpAny_mono (ht [] D (start N vs) H _ I hq) (λfl s' l=>?_) λe s' l=>l.elim
 cases fl with
 | ret u=>
  obtain ⟨v,E,m,J,rv,q⟩:=l
  exact ⟨v,m,J.os,J.bare,J.base,J.hok,rv,q⟩
 | next=>
  obtain ⟨E,m,J,q⟩:=l
  exact ⟨V.non,m,J.os,J.bare,J.base,J.hok,rfl,q⟩
 | brk=>
  obtain ⟨_,_,_,q⟩:=l
  exact q.elim
 | cont=>
  obtain ⟨_,_,_,q⟩:=l
  exact q.elim
structure zFQ (P:Program) (w:World) (K:W.Frag) (mg:Str->Option Value) (base:Heap) (k:Nat) (x:Str) (ps:List Str) (sp:SpH):Prop where
 ex:∃ (f:Addr) (fd:FuncData),zGU P w K mg base k f fd ps sp/\mg x=some (.ref f)/\W.keepIn K (.ref f)=true/\uV K fd ps []
theorem yM.okH {P:Program} {w:World} {K:W.Frag} {mg:Str->Option Value} {base:Heap} {x:Str} {st:Stmt} {N ps:List Str} {k:Nat} {sp:SpH} (G:yM K mg x st ps) (S:zM N ps (zG st)) (len:∀ hx vs H Q,sp hx vs H Q->vs.length=ps.length)
  (b:∀ f hx c A a s H vs Q,A.handled=some (.ref hx)->sp hx vs H Q ->
   ∃ t,PSs (cxH P w K mg base N x (zG st) f c A a s H) (y8 st) t/\t { nx:=λ_ d=>Q .non d,rt:=Q } (start N vs) H):zFQ P w K mg base (k + 1) x ps sp:=by
 obtain ⟨f,fd,F,e,g⟩:=G.ex
 exact ⟨f,fd,F.okH S len λhx c A a s H vs Q i h=>b f hx c A a s H vs Q i h,e,F.kp,g⟩
def aP (hx:Addr) (sp:SpH) (t:TA):TE:=λa H Q=>t a H λb c=>sp hx b c Q
theorem zEE {X:Cx} (D:zFQ X.prog X.w X.K X.mg X.base k x ps sp) (o:zDB k X.A) (v:X.A.handled=some (.ref hx)) (y:PA X (e :: d) t) (z:Gl X x:=by rfl)
  (j:(x == ("__debug__" : Str))=false:=by decide) (B:starEach (e :: d) X.env=(false,eval e X.env) :: starEach d X.env:=by rfl) (l:(backTo pos (starEach d X.env)).any (·.1)=false:=by rfl) :
  PE X (.Call (.Name x p) (e :: d) [] pos) (aP hx sp t):=by
 obtain ⟨f,fd,F,C,E,G⟩:=D.ex
 intro J s L H Q I h
 refine wpAny_Call_Name_kw (sP I z C ?_ j)
 refine W.callWith_K (h₀:=X.base) I.ok.mod.kin E (thn (y pos J s L H _ I h) λg n a=>?_) B l
 obtain ⟨M,N,i,r,q⟩:=a
 refine ⟨i.kIn,?_⟩
 have O:g.length=ps.length:=by rw [<- r.length];exact F.len _ _ _ _ q
 have b:=G n g i.kIn (by simpa using O)
 rw [List.append_nil] at b
 refine wpAny_call (codeAny_mono (F.run hx X.A X.stack n N ⟨g,[]⟩ g M Q o v i.env0 b r q) λr U c=>?_)
 cases r with
 | error e=>exact c.elim
 | ok T=>
  cases T with
  | ret u=>exact i.after c
  | next=>exact c.elim
  | brk=>exact c.elim
  | cont=>exact c.elim
theorem gZ {X:Cx} {f a pos b:Pos}
  (m:X.A.handled=some (.ref ax)) (g:X.N.Nodup) (h:X.N[i]?=some y) (hx:Loc X.env.scope y)
  (n:sH N sc [x] ix scope) (o:PIH ax X (.Name x f) iter p)
  (q:∀ C c s H,PTs (cxC X [x] ix scope C c s H) d r) (t:∀ C c s H,PE (cxC X [x] ix scope C c s H) e u)
  (v:X.N=N:=by rfl) (j:X.env.scope=sc:=by rfl)
  (k:swapsWith (.ListComp e [⟨.Name x f,iter,d,0⟩] scope a) (some (.Name y b)) pos.line X.env=pure true:=by rfl)
  (w:X.fn y=true \/ X.env.scope.names.lookup y=some .local:=by first | exact .inl rfl | exact .inr rfl | assumption)
  (z:∀ x,foldedSetIterable iter X.env x=pure x:=by intro _;rfl) :
  PS X (.Assign [.Name y b] (.ListComp e [⟨.Name x f,iter,d,0⟩] scope a) pos) (oE (tLC [x] ix p (wA 0) r u) (wA i)):=by
 have S:=n.at (X:=X) v j
 have l:∀ C c s H,(cxC X [x] ix scope C c s H).env.scope.names.lookup x=some .local:=λ_ _ _ _=>lookup_relabel_local (S.own x (by simp))
 exact cY g h hx S m o (λC c s H=>yI S.nd rfl (Or.inl (l C c s H)) (.inr (l C c s H))) q t k w z
theorem bM {hx:Addr} {xs:List Str} {ix:List Nat} {g:TG} {e:TT} {f:TE} {lo:Int} {n:Nat} {j:St} {H1:Hp} {Q:VK} {acc:Addr} (l:n < sizeLine) (Pv:Nat->List V->St->Hp->Prop)
  (m:Pv 0 [] (stC xs ix j) (upd H1 acc (.lst [])))
  (d:∀ i ys a H,Pv i ys a H->H acc=some (.lst ys)/\ys.length <= i)
  (o:∀ i ys a H,i < n->Pv i ys a H->g (.int (lo + i)) a H λc q=>e c q λb H3=>
   if b=true then f c H3 λy k=>k acc=some (.lst ys)/\Pv (i + 1) (ys ++ [y]) c (upd k acc (.lst (ys ++ [y]))) else Pv (i + 1) ys c H3)
  (r:∀ ys a H,Pv n ys a H->∃ C,H hx=some (iZ C hx))
  (hd:∀ ys a H,Pv n ys a H->Q (.ref acc) H):LCW (zFP hx lo n) xs ix g e f j H1 acc Q:=
 dW l (λi=>.int (lo + i)) Pv m d (λi _ _ _ h _=>h) (λi _ _ _ _ _ _ _ h=>h) (λys a H p=>⟨zMS n,r ys a H p⟩) o hd
section
variable {X:Cx} {es es1:List Expr} {t t1:TA}
theorem swL {es:List Expr} {p:Pos} {t:Option Expr} {n:Nat} {env:Env}:swapsWith (.List es p) t n env=pure false:=rfl
inductive CV:Expr->V->Prop
 | str {z:Str} {j p}:CV (.Constant (.str z) j p) (.str z)
 | int {z:Int} {j p}:CV (.Constant (.int z) j p) (.int z)
 | bl {z:Bool} {j p}:CV (.Constant (.bool z) j p) (.bl z)
 | non {j p}:CV (.Constant .none j p) .non
inductive CVs:List Expr->List V->Prop
 | nil:CVs [] []
 | cons {e:Expr} {v:V} {es:List Expr} {vs:List V} (h:CV e v) (t:CVs es vs):CVs (e :: es) (v :: vs)
def zG5 (vs:List V) (t:TA):TA:=λa H Q=>t a H (λb c=>Q (vs ++ b) c)
theorem dI (h:PA X es t) (b:CVs d vs):PA X (d ++ es) (zG5 vs t):=by
 induction b with
 | nil=>exact h
 | cons c _ a=>
  cases c with
  | str=>exact zA zJ a
  | int=>exact zA zH a
  | bl=>exact zA wS a
  | non=>exact zA yQ a
theorem zHV (n:Nat) {vs:List V} (a:CVs (es.take n) vs) (h:PA X (es.drop n) t):PA X es (zG5 vs t):=by
 have z:=dI h a
 rwa [List.take_append_drop] at z
theorem dD {i:Nat} {x:Str} {pos a b:Pos} (c:X.N.Nodup) (d:X.N[i]?=some x) (hx:Loc X.env.scope x) (e:X.fn x=true \/ X.env.scope.names.lookup x=some .local) (h:PA X es t) :
  PS X (.Assign [.Name x a] (.List es b) pos) (oE (jQ t) (wA i)):=z7 c d hx (yL h) swL e
def zJI (vs:List V):TA:=λ_ H Q=>Q vs H
theorem zHW {vs:List V} (h:CVs es vs):PA X es (zJI vs):=by
 have z:=dI (X:=X) zB h
 have e:zG5 vs rP=zJI vs:=by
  funext a H Q
  show Q (vs ++ []) H=Q vs H
  rw [List.append_nil]
 rwa [List.append_nil,e] at z
end
section
variable {X:Cx}
end
end L2
namespace L2
open PySem PySem.Spec PyProof.Rows PySem.Builtin.Str
theorem zE2 (n:Int) (L:Nat) (h:0 <= n):strSliceIndices none (some n) 1 L=strSliceIndices (some ((0:Nat):Int)) (some ((min n.toNat L:Nat):Int)) 1 L:=by
 obtain ⟨m,rfl⟩:=Int.eq_ofNat_of_zero_le h
 have a:∀ k:Nat,¬ ((k:Nat):Int) < 0:=λk=>Int.not_lt.mpr (Int.natCast_nonneg k)
 have b:∀ k:Nat,max (0:Int) (k:Int)=(k:Int):=λk=>Int.max_eq_right (Int.natCast_nonneg k)
 have c:∀ x y:Nat,min (x:Int) (y:Int)=((min x y:Nat):Int):=λx y=>by
  rcases Nat.le_total x y with h | h
  ·rw [Nat.min_eq_left h,Int.min_eq_left (Int.ofNat_le.mpr h)]
  ·rw [Nat.min_eq_right h,Int.min_eq_right (Int.ofNat_le.mpr h)]
 unfold strSliceIndices
 dsimp only
 rw [Int.toNat_natCast,if_neg (a m),if_neg (a 0),if_neg (a (min m L)),if_pos (by decide),if_pos (by decide),if_pos (by decide),c,c,c,b,b,b,Nat.zero_min,Nat.min_assoc,Nat.min_self]
 rfl
theorem cO (x:Str) (n:Int) (h:0 <= n):(Txt.slice x none (some n)).length=min n.toNat x.length:=by
 have e:=zE2 n x.length h
 have p:=PySem.StrLaws.sliced_plain x (a:=0) (b:=min n.toNat x.length) (zMT _) (Nat.min_le_right _ _)
 unfold Txt.slice
 rw [e]
 split
 ·rename_i q
  rw [PySem.StrLaws.strSliceIndices_plain (zMT _) (Nat.min_le_right _ _)] at q
  simp at q
  omega
 ·show (List.toArray _).size=_
  rw [p]
  simp [Str.length]
noncomputable def zAY (x:Str) (n:Int):Str:=⟨(List.replicate n.toNat x.cps).foldl (· ++ ·) #[]⟩
theorem dC (a:Array Nat):∀ n acc,((List.replicate n a).foldl (· ++ ·) acc).size=acc.size + n * a.size
 | 0,acc=>by simp
 | n + 1,acc=>by
  rw [List.replicate_succ,List.foldl_cons,dC a n]
  rw [Array.size_append,Nat.succ_mul]
  omega
theorem oQ (x:Str) (n:Int):(zAY x n).length=n.toNat * x.length:=by
 show ((List.replicate n.toNat x.cps).foldl (· ++ ·) #[]).size=_
 rw [dC]
 simp [Str.length]
def zKT:R2:=λx y H Q=>∃ z n,x=.str z/\y=.int n/\1 < n/\1 <= z.length/\z.length * n.toNat <= 100000/\Q (.str (zAY z n)) H
theorem zEG:OpR X (binaryOp .Mult) zKT:=by
 intro f s g H x y v u Q I b c h
 obtain ⟨z,n,rfl,rfl,i,d,a,q⟩:=h
 obtain ⟨t,rfl⟩:=b
 obtain ⟨j,rfl⟩:=c
 have k:=zMU (Nat.le_mul_of_pos_left _ d) a
 have e:=zMU (Nat.le_mul_of_pos_right _ (by omega)) a
 refine P.mul_str ?_ (λ_ _=>?_) (λ_ _=>?_) ?_
 ·simp;omega
 ·have:(z.length:Int) <= 100000:=by omega
  have l:(100000:Int) <= (2 ^ 63 - 1) / n:=by
   rw [Int.le_ediv_iff_mul_le (by omega)]
   have:n <= 100000:=by omega
   omega
  omega
 ·unfold tooLong
  simp only [decide_eq_false_iff_not]
  rw [sizeLine_eq]
  omega
 ·rw [if_neg (by omega),if_neg (by simp;omega)]
  refine ⟨?_,.str (zAY z n),H,I.tok _,⟨_,rfl⟩,q⟩
  show (zAY z n).length <= sizeLine
  rw [oQ,sizeLine_eq,Nat.mul_comm]
  omega
end L2
namespace L2
open PySem PySem.W
noncomputable def qW (K:Frag) (a:List Addr) (b:Addr):Bool:=(List.range 12).all λi=>
 ((List.range 12).all λj=>kitOne K (.ref (a.getD i 0)) (.ref (a.getD j 0)) == some (decide (i=j))) && (kitOne K (.ref (a.getD i 0)) (.type "ValueError") == some true) && (kitOne K (.ref (a.getD i 0)) (.ref b) == some true) &&
  (exmOne K (.ref (a.getD i 0)) (.ref b) == some true) && (i == 10 || excIn K (a.getD i 0) zFJ "ValueError.__new__")
noncomputable def zCK (K:Frag) (c:Addr):Bool:=(findIn K (.ref c) "__getattribute__" == some (some (.builtin "BaseException.__getattribute__"))) && (findIn K (.ref c) "__getattr__" == some none) && (findIn K (.ref c) "__class__" == some (some (.builtin "object.__class__"))) &&
 (mroIn K c (.type "object") == some true) && hasDictIn K c && (subIn K (.ref c) (.type "BaseException") == some true)
noncomputable def fS (K:Frag) (a:List Addr):Bool:=(specialIn K (.builtin "object.__class__") "__get__" == some (some (.builtin "getset_descriptor.__get__"))) && (takesIn K (.builtin "object.__class__") == some true) && (List.range 12).all λi=>zCK K (a.getD i 0)
section
variable {K:Frag} {cs:List Addr} {cT:Addr}
theorem lP (h:qW K cs cT=true) (a:i < 12):((((∀ j,j < 12->kitOne K (.ref (cs.getD i 0)) (.ref (cs.getD j 0))=some (decide (i=j)))/\kitOne K (.ref (cs.getD i 0)) (.type "ValueError")=some true)/\kitOne K (.ref (cs.getD i 0)) (.ref cT)=some true) /\
  exmOne K (.ref (cs.getD i 0)) (.ref cT)=some true)/\(i=10 \/ excIn K (cs.getD i 0) zFJ "ValueError.__new__"=true):=by
 have q:=List.all_eq_true.mp h i (List.mem_range.mpr a)
 simp only [Bool.and_eq_true,Bool.or_eq_true,beq_iff_eq] at q
 refine ⟨⟨⟨⟨λj b=>?_,q.1.1.1.2⟩,q.1.1.2⟩,q.1.2⟩,q.2⟩
 exact beq_iff_eq.mp (List.all_eq_true.mp q.1.1.1.1 j (List.mem_range.mpr b))
theorem zG2 (h:qW K cs cT=true) (a:i < 12) (b:j < 12):kitOne K (.ref (cs.getD i 0)) (.ref (cs.getD j 0))=some (decide (i=j)):=(lP h a).1.1.1.1 j b
theorem zG1 (h:qW K cs cT=true) (a:i < 12):kitOne K (.ref (cs.getD i 0)) (.type "ValueError")=some true:=(lP h a).1.1.1.2
theorem zG3 (h:qW K cs cT=true) (a:i < 12):exmOne K (.ref (cs.getD i 0)) (.ref cT)=some true:=(lP h a).1.2
theorem lO (h:qW K cs cT=true) (a:i < 12) (n:i ≠ 10):excIn K (cs.getD i 0) zFJ "ValueError.__new__"=true:=(lP h a).2.resolve_left n
theorem zI4 (h:fS K cs=true) (a:i < 12):mJ K (cs.getD i 0):=by
 unfold fS at h
 simp only [Bool.and_eq_true,beq_iff_eq] at h
 have q:=List.all_eq_true.mp h.2 i (List.mem_range.mpr a)
 unfold zCK at q
 simp only [Bool.and_eq_true,beq_iff_eq] at q
 exact ⟨q.1.1.1.1.1,q.1.1.1.1.2,q.1.1.1.2,h.1.1,h.1.2,q.1.1.2,q.1.2,q.2⟩
end
end L2
namespace L2
open PySem PySem.Spec PyProof.Rows
section
variable {prog:Program} {w:World} {A:Around} {E:VSP} {s:Shared}
end
section
variable {X:Cx} {pos:Pos}
end
section
variable {X:Cx}
end
end L2
namespace PySem.SeqAt
open AutoSeq1 (wpAny_loadPart')
open MeetsSeq
end PySem.SeqAt
namespace L2
open PySem PySem.Spec PyProof.Rows
section
variable {X:Cx}
end
end L2
namespace HT
open PySem PySem.Spec PyProof.Rows L2
section
variable {prog:Program} {w:World} {A:Around} {E:Value->Shared->Prop} {s:Shared}
theorem getItem_tuple_self {t c:Addr} {items:Array Value} {g i:Value} {lo b:Option Int} {Q:Value->Shared->Prop} (a:IsTup s.heap t items)
  (j:s.heap.IsSliceOf c g i .none) (pl:IsPart g lo) (k:IsPart i b) (l:sIx items.size 0 lo=0) (m:sIx items.size items.size b=items.size) (h:Q (.ref t) s):wpAny (model prog w) A (getItem (.ref t) (.ref c)) Q E s:=by
 obtain ⟨os,d,e,n⟩:=id j
 have f:s.TypeIs (.ref c) "slice":=⟨os,d,e⟩
 unfold getItem
 try with_reducible refine wpAny_holding ?_
 first | refine wpAny_bind (wpAny_pure ?_) | skip
 refine wpAny_bind (wpAny_sequenceKey a.typeIs (by decide) (wpAny_bind ?_))
 refine wpAny_callSpecial?_slot (name:=Str.ofString "__getitem__") a.typeIs PyProof.Rows.slot_tuple_getitem (wpAny_call_entry PyProof.Rows.slot_tuple_getitem a.typeIs entry_tuple_getitem ?_ (args_tuple_getitem _ _))
 change wpAny _ _ (Builtin.Tuple.tupleItemsOf (.ref t) >>= _) _ _ s
 refine wpAny_bind (tupleItemsOf_ a (wpAny_bind (wpAny_typeOf f ?_)))
 rw [if_pos (by decide)]
 refine wpAny_bind (sliceApplied_gen j pl k ?_)
 have yes:(((sIx items.size 0 lo:Nat):Int) == 0 && (1:Int) == 1 && (sIx items.size items.size b - sIx items.size 0 lo) == items.size)=true:=by
  rw [l,m];simp
 show wpAny _ _ (if (((sIx items.size 0 lo:Nat):Int) == 0 && (1:Int) == 1 && (sIx items.size items.size b - sIx items.size 0 lo) == items.size)=true then _ else _) _ _ s
 rw [if_pos yes]
 unfold Builtin.Tuple.tupleIsExact
 refine wpAny_bind ?_
 refine wpAny_bind (wpAny_typeOf a.typeIs ?_)
 refine wpAny_pure ?_
 rw [if_pos (by decide)]
 exact wpAny_bind (wpAny_rule (wpAny_pure ⟨_,rfl,wpAny_pure h⟩))
end
end HT
namespace L2
open PySem PySem.Spec PyProof.Rows
def zA0 (K:W.Frag):V->Option Int->Option Int->Hp->VK->Prop:=λx lo c H Q=>∃ a b,x=.ref a/\SqT K H a b /\
 ((HT.sIx b.length 0 lo=0/\HT.sIx b.length b.length c=b.length/\Q (.ref a) H) \/ (¬ (HT.sIx b.length 0 lo=0/\HT.sIx b.length b.length c=b.length)/\∀ p,H p=none->Q (.ref p) (upd H p (.tup (vI b lo c)))))
theorem pP:SlR X (zA0 X.K):=by
 intro l s m H x v n o lo p t Q I d e f g h
 obtain ⟨a,i,rfl,j,h⟩:=h
 rcases h with ⟨u,w,q⟩ | ⟨y,q⟩
 ·cases d
  obtain ⟨c,r,k,z⟩:=I.tuple j
  have b:c.toArray.size=i.length:=by rw [zMR];exact r.length.symm
  exact ⟨"tuple",_,PyProof.Rows.slot_tuple_getitem.lookup,k.typeIs,HT.getItem_tuple_self k e f g (by rw [b];exact u) (by rw [b];exact w) ⟨.ref a,H,I,rfl,q⟩⟩
 ·exact zHC l s m H _ v n o lo p t Q I d e f g ⟨a,i,rfl,j,y,q⟩
section
variable {X:Cx} {e:Expr} {te:TE} {pos p1 p2 p3:Pos} {j1:Nat}
end
end L2
namespace L2
open PySem PySem.Spec PyProof.Rows PySem.W
noncomputable def evK {b:Type} (lt:Nat->Nat->Bool):KasT b->b
 | .ret a=>a
 | .ask i j k=>evK lt (k (lt i j))
theorem sD {b c:Type} (lt:Nat->Nat->Bool) (f:b->KasT c) (t:KasT b):evK lt (t.bind f)=evK lt (f (evK lt t)):=by
 induction t with
 | ret a=>rfl
 | ask i j k d=>exact d (lt i j)
structure LtO (lt:Nat->Nat->Bool):Prop where
 asym:∀ i j,lt i j=true->lt j i=false
 trn:∀ i j k,lt j i=false->lt k j=false->lt k i=false
section
variable {lt:Nat->Nat->Bool}
abbrev gA (p:Array Nat) (i:Nat):Nat:=p.getD i 0
def leK (lt:Nat->Nat->Bool) (i j:Nat):Prop:=lt j i=false
def Up (lt:Nat->Nat->Bool) (p:Array Nat) (k:Nat):Prop:=∀ i j,i <= j->j < k->leK lt (gA p i) (gA p j)
def Dn (lt:Nat->Nat->Bool) (p:Array Nat) (k:Nat):Prop:=∀ i j,i <= j->j < k->leK lt (gA p j) (gA p i)
theorem xU (O:LtO lt) (i:Nat):leK lt i i:=by
 unfold leK
 cases e:lt i i with
 | false=>rfl
 | true=>exact absurd (O.asym i i e) (by rw [e];simp)
theorem xR (O:LtO lt) (a:leK lt i j) (b:leK lt j k):leK lt i k:=O.trn i j k a b
theorem kS (O:LtO lt) (h:lt i j=true):leK lt i j:=O.asym i j h
theorem nE {p:Array Nat} (a:j <= p.size) (k:Nat):gA (kas_rev p i j) k=if i <= k/\k < j then gA p (i + j - 1 - k) else gA p k:=by
 unfold gA kas_rev
 rw [zNI,zNI,zNI,getElem?_mirror_all a]
 split <;> rfl
theorem zCI {p:Array Nat} (a:k < p.size) (b:l <= k) (x:Nat):gA (bubble p k (k - l)) x=if x=l then gA p k else if l < x/\x <= k then gA p (x - 1) else gA p x:=by
 unfold gA
 rw [zNI,zNI,zNI,zNI,getElem?_bubble a (k - l) (by omega)]
 rw [show k - (k - l)=l by omega]
 repeat' split
 all_goals first | rfl | omega
theorem oP (p:Array Nat) (i j:Nat):(kas_rev p i j).size=p.size:=mirror_size _ _ _ _
theorem vL (p:Array Nat) (i j:Nat):(kas_rev p i j).Perm p:=mirror_perm _ _ _ _
theorem zGX (O:LtO lt) (p:Array Nat):Up lt p 1:=λi j a b=>by
 have:i=j:=by omega
 rw [this];exact xU O _
theorem Up.more (O:LtO lt) (h:Up lt p n) (d:1 <= n) (e:leK lt (gA p (n - 1)) (gA p n)):Up lt p (n + 1):=λi j a f=>by
 by_cases b:j < n
 ·exact h i j a b
 ·have c:j=n:=by omega
  subst c
  by_cases g:i < j
  ·exact xR O (h i (j - 1) (by omega) (by omega)) e
  ·have:i=j:=by omega
   rw [this];exact xU O _
theorem Dn.more (O:LtO lt) (h:Dn lt p n) (d:1 <= n) (e:leK lt (gA p n) (gA p (n - 1))):Dn lt p (n + 1):=λi j a f=>by
 by_cases b:j < n
 ·exact h i j a b
 ·have c:j=n:=by omega
  subst c
  by_cases g:i < j
  ·exact xR O e (h i (j - 1) (by omega) (by omega))
  ·have:i=j:=by omega
   rw [this];exact xU O _
theorem zC7 (O:LtO lt) (p:Array Nat):∀ f n,1 <= n->Up lt p n->n <= evK lt (kas_asc p f n)/\evK lt (kas_asc p f n) <= n + f/\Up lt p (evK lt (kas_asc p f n)) /\
  (evK lt (kas_asc p f n) < n + f->lt (gA p (evK lt (kas_asc p f n))) (gA p (evK lt (kas_asc p f n) - 1))=true):=by
 intro f
 induction f with
 | zero=>exact λn a h=>⟨zMS _,zMS _,h,λz=>absurd z (Nat.lt_irrefl _)⟩
 | succ f b=>
  intro n a h
  have e:evK lt (kas_asc p (f + 1) n)=evK lt (if lt (gA p n) (gA p (n - 1))=true then .ret n else kas_asc p f (n + 1)):=rfl
  rw [e]
  cases c:lt (gA p n) (gA p (n - 1)) with
  | true=>
   rw [if_pos rfl]
   exact ⟨zMS _,Nat.le_add_right _ _,h,λ_=>c⟩
  | false=>
   rw [if_neg (by simp)]
   obtain ⟨i,j,d,g⟩:=b (n + 1) (by omega) (h.more O a c)
   exact ⟨by omega,by omega,d,λz=>g (by omega)⟩
def EqS (lt:Nat->Nat->Bool) (p:Array Nat) (n q:Nat):Prop:=∀ i,n - (q + 1) <= i->i < n->leK lt (gA p i) (gA p (n - 1))/\leK lt (gA p (n - 1)) (gA p i)
theorem dB (O:LtO lt) {p:Array Nat} (b:n <= p.size) (g:q + 1 <= n) (h:EqS lt p n q) (x:Nat):leK lt (gA (kas_rev p (n - (q + 1)) n) x) (gA p x)/\leK lt (gA p x) (gA (kas_rev p (n - (q + 1)) n) x):=by
 rw [nE b]
 split
 ·next a=>
  obtain ⟨c,d⟩:=h x a.1 a.2
  obtain ⟨e,f⟩:=h (n - (q + 1) + n - 1 - x) (by omega) (by omega)
  exact ⟨xR O e d,xR O c f⟩
 ·exact ⟨xU O _,xU O _⟩
theorem zCQ (O:LtO lt) {p:Array Nat} (b:n <= p.size) (c:q + 1 <= n) (h:EqS lt p n q) (d:Dn lt p k):Dn lt (kas_rev p (n - (q + 1)) n) k:=λi j a e=>
 xR O (dB O b c h j).1 (xR O (d i j a e) (dB O b c h i).2)
theorem zFA (O:LtO lt):∀ f p n q,q + 1 <= n->n + f <= p.size->Dn lt p n->EqS lt p n q ->
  (evK lt (kas_desc f p n q)).1.Perm p/\n <= (evK lt (kas_desc f p n q)).2.1/\(evK lt (kas_desc f p n q)).2.1 <= n + f/\Dn lt (evK lt (kas_desc f p n q)).1 (evK lt (kas_desc f p n q)).2.1 /\
  (evK lt (kas_desc f p n q)).2.2 + 1 <= (evK lt (kas_desc f p n q)).2.1/\EqS lt (evK lt (kas_desc f p n q)).1 (evK lt (kas_desc f p n q)).2.1 (evK lt (kas_desc f p n q)).2.2:=by
 intro f
 induction f with
 | zero=>exact λp n q a o b g=>⟨.refl _,zMS _,zMS _,b,a,g⟩
 | succ f m=>
  intro p n q a o b g
  have e:evK lt (kas_desc (f + 1) p n q)=evK lt (if lt (gA p n) (gA p (n - 1))=true then (if q > 0 then kas_desc f (kas_rev p (n - (q + 1)) n) (n + 1) 0 else kas_desc f p (n + 1) 0)
   else .ask (gA p (n - 1)) (gA p n) λd=>if d=true then .ret (p,n,q) else kas_desc f p (n + 1) (q + 1)):=rfl
  rw [e]
  have one:∀ p:Array Nat,EqS lt p (n + 1) 0:=λp i a o=>by
   have:i=n + 1 - 1:=by omega
   rw [this];exact ⟨xU O _,xU O _⟩
  cases c:lt (gA p n) (gA p (n - 1)) with
  | true=>
   rw [if_pos rfl]
   have r:=b.more O (by omega) (kS O c)
   by_cases s:q > 0
   ·rw [if_pos s]
    obtain ⟨h,t,u,j,k,l⟩:=m (kas_rev p (n - (q + 1)) n) (n + 1) 0 (by omega) (by rw [oP];omega) (zCQ O (by omega) a g r) (one _)
    exact ⟨h.trans (vL _ _ _),by omega,by omega,j,k,l⟩
   ·rw [if_neg s]
    obtain ⟨h,t,u,j,k,l⟩:=m p (n + 1) 0 (by omega) (by omega) r (one _)
    exact ⟨h,by omega,by omega,j,k,l⟩
  | false=>
   rw [if_neg (by simp)]
   show (evK lt (if lt (gA p (n - 1)) (gA p n)=true then .ret (p,n,q) else kas_desc f p (n + 1) (q + 1))).1.Perm p/\_
   show _/\n <= (evK lt (if lt (gA p (n - 1)) (gA p n)=true then .ret (p,n,q) else kas_desc f p (n + 1) (q + 1))).2.1/\(evK lt (if lt (gA p (n - 1)) (gA p n)=true then .ret (p,n,q) else kas_desc f p (n + 1) (q + 1))).2.1 <= _/\Dn lt (evK lt (if lt (gA p (n - 1)) (gA p n)=true then .ret (p,n,q) else kas_desc f p (n + 1) (q + 1))).1 (evK lt (if lt (gA p (n - 1)) (gA p n)=true then .ret (p,n,q) else kas_desc f p (n + 1) (q + 1))).2.1/\(evK lt (if lt (gA p (n - 1)) (gA p n)=true then .ret (p,n,q) else kas_desc f p (n + 1) (q + 1))).2.2 + 1 <= (evK lt (if lt (gA p (n - 1)) (gA p n)=true then .ret (p,n,q) else kas_desc f p (n + 1) (q + 1))).2.1/\EqS lt (evK lt (if lt (gA p (n - 1)) (gA p n)=true then .ret (p,n,q) else kas_desc f p (n + 1) (q + 1))).1 (evK lt (if lt (gA p (n - 1)) (gA p n)=true then .ret (p,n,q) else kas_desc f p (n + 1) (q + 1))).2.1 (evK lt (if lt (gA p (n - 1)) (gA p n)=true then .ret (p,n,q) else kas_desc f p (n + 1) (q + 1))).2.2
   cases d:lt (gA p (n - 1)) (gA p n) with
   | true=>
    rw [if_pos rfl]
    exact ⟨.refl _,zMS _,Nat.le_add_right _ _,b,a,g⟩
   | false=>
    rw [if_neg (by simp)]
    have v:EqS lt p (n + 1) (q + 1):=λi g1 g2=>by
     rw [Nat.add_sub_cancel]
     by_cases w:i=n
     ·rw [w];exact ⟨xU O _,xU O _⟩
     ·obtain ⟨x,y⟩:=g i (by omega) (by omega)
      exact ⟨xR O x c,xR O d y⟩
    obtain ⟨h,t,u,j,k,l⟩:=m p (n + 1) (q + 1) (by omega) (by omega) (b.more O (by omega) d) v
    exact ⟨h,by omega,by omega,j,k,l⟩
theorem aH {p:Array Nat} (a:n <= p.size) (d:Dn lt p n):Up lt (kas_rev p 0 n) n:=λi j b c=>by
 rw [nE a,nE a,if_pos ⟨zMT _,by omega⟩,if_pos ⟨zMT _,c⟩]
 exact d _ _ (by omega) (by omega)
theorem eD (O:LtO lt) {p:Array Nat} (a:1 <= n) (f:n <= nrem) (hz:nrem <= p.size) (d:Dn lt p n) :
  (evK lt (kas_tail3 n nrem p)).2.Perm p/\1 <= (evK lt (kas_tail3 n nrem p)).1/\(evK lt (kas_tail3 n nrem p)).1 <= nrem/\Up lt (evK lt (kas_tail3 n nrem p)).2 (evK lt (kas_tail3 n nrem p)).1:=by
 unfold kas_tail3
 rw [sD]
 obtain ⟨b,c,e,_⟩:=zC7 O (kas_rev p 0 n) (nrem - n) n a (aH (by omega) d)
 exact ⟨vL _ _ _,zMU a b,zMU c (by omega),e⟩
theorem pI (O:LtO lt) {p:Array Nat} (o:1 <= n) (q:n + 1 <= nrem) (hz:nrem <= p.size) (d:Dn lt p (n + 1)) :
  (evK lt (kas_descPart n nrem p)).2.Perm p/\1 <= (evK lt (kas_descPart n nrem p)).1/\(evK lt (kas_descPart n nrem p)).1 <= nrem/\Up lt (evK lt (kas_descPart n nrem p)).2 (evK lt (kas_descPart n nrem p)).1:=by
 unfold kas_descPart
 rw [sD]
 obtain ⟨a,l,m,b,h,j⟩:=zFA O (nrem - (n + 1)) p (n + 1) 0 (by omega) (by omega) d (λi g1 g2=>by
  have:i=n + 1 - 1:=by omega
  rw [this];exact ⟨xU O _,xU O _⟩)
 generalize evK lt (kas_desc (nrem - (n + 1)) p (n + 1) 0)=r at a l m b h j ⊢
 have s:=a.size_eq
 by_cases k:r.2.2 > 0
 ·rw [if_pos k]
  obtain ⟨c,e,f,g⟩:=eD O (p:=kas_rev r.1 (r.2.1 - (r.2.2 + 1)) r.2.1) (n:=r.2.1) (nrem:=nrem) (by omega) (by omega) (by rw [oP];omega) (zCQ O (by omega) h j b)
  exact ⟨(c.trans (vL _ _ _)).trans a,e,f,g⟩
 ·rw [if_neg k]
  obtain ⟨c,e,f,g⟩:=eD O (p:=r.1) (n:=r.2.1) (nrem:=nrem) (by omega) (by omega) (by omega) b
  exact ⟨c.trans a,e,f,g⟩
theorem zCZ (O:LtO lt) {p:Array Nat} (D:1 <= nrem) (hz:nrem <= p.size) :
  (evK lt (kas_count nrem p)).2.Perm p/\1 <= (evK lt (kas_count nrem p)).1/\(evK lt (kas_count nrem p)).1 <= nrem/\Up lt (evK lt (kas_count nrem p)).2 (evK lt (kas_count nrem p)).1:=by
 unfold kas_count
 rw [sD]
 obtain ⟨f,r,a,l⟩:=zC7 O p (nrem - 1) 1 (zMS _) (zGX O p)
 generalize evK lt (kas_asc p (nrem - 1) 1)=m at f r a l ⊢
 by_cases o:m=nrem
 ·rw [if_pos (by simpa using o)]
  exact ⟨.refl _,f,by show m <= nrem;omega,a⟩
 ·rw [if_neg (by simpa using o)]
  have c:=l (by omega)
  by_cases q:m > 1
  ·rw [if_pos q]
   have e:evK lt (KasT.ask (gA p 0) (gA p (m - 1)) λc=>if c=true then .ret (m,p) else kas_descPart m nrem (kas_rev p 0 m))=evK lt (if lt (gA p 0) (gA p (m - 1))=true then .ret (m,p) else kas_descPart m nrem (kas_rev p 0 m)):=rfl
   rw [e]
   cases d:lt (gA p 0) (gA p (m - 1)) with
   | true=>rw [if_pos rfl];exact ⟨.refl _,f,by show m <= nrem;omega,a⟩
   | false=>
    rw [if_neg (by simp)]
    have all:∀ x y,x < m->y < m->leK lt (gA p x) (gA p y):=λx y E s=>xR O (a x (m - 1) (by omega) (by omega)) (xR O d (a 0 y (zMT _) s))
    obtain ⟨t,u,v,w⟩:=pI O (p:=kas_rev p 0 m) (n:=m) (nrem:=nrem) f (by omega) (by rw [oP];omega) (by
     intro i j h A
     rw [nE (by omega),nE (by omega)]
     by_cases b:j < m
     ·rw [if_pos ⟨zMT j,b⟩,if_pos ⟨zMT i,by omega⟩]
      exact all _ _ (by omega) (by omega)
     ·rw [if_neg (λz=>b z.2)]
      have k:j=m:=by omega
      subst k
      by_cases g:i < j
      ·rw [if_pos ⟨zMT _,g⟩]
       exact xR O (kS O c) (all _ _ (by omega) (by omega))
      ·have:i=j:=by omega
       subst this
       rw [if_neg (λz=>g z.2)]
       exact xU O _)
    exact ⟨t.trans (vL _ _ _),u,v,w⟩
  ·rw [if_neg q]
   have B:m=1:=by omega
   subst B
   refine pI O (zMS _) (by omega) hz λi j h A=>?_
   by_cases C:j=0
   ·have:i=j:=by omega
    rw [this];exact xU O _
   ·have k:j=1:=by omega
    by_cases g:i=0
    ·rw [g,k];exact kS O c
    ·have:i=j:=by omega
     rw [this];exact xU O _
theorem zA7 (O:LtO lt) (j:Up lt p k):∀ f l r,l <= r->r <= k->r - l <= f->(∀ i,i < l->leK lt (gA p i) (gA p k))->(∀ i,r <= i->i < k->leK lt (gA p k) (gA p i)) ->
  evK lt (kas_place p k f l r) <= k/\(∀ i,i < evK lt (kas_place p k f l r)->leK lt (gA p i) (gA p k))/\(∀ i,evK lt (kas_place p k f l r) <= i->i < k->leK lt (gA p k) (gA p i)):=by
 intro f
 induction f with
 | zero=>
  intro l r n b o d h
  have e:l=r:=by omega
  subst e
  exact ⟨b,d,h⟩
 | succ f m=>
  intro l r n b o d h
  have e:kas_place p k (f + 1) l r=if l >= r then .ret l else .ask (gA p k) (gA p ((l + r) / 2)) λc=>if c=true then kas_place p k f l ((l + r) / 2) else kas_place p k f ((l + r) / 2 + 1) r:=rfl
  rw [e]
  by_cases a:l >= r
  ·rw [if_pos a]
   have e:l=r:=by omega
   subst e
   exact ⟨b,d,h⟩
  ·rw [if_neg a]
   have q:evK lt (KasT.ask (gA p k) (gA p ((l + r) / 2)) λc=>if c=true then kas_place p k f l ((l + r) / 2) else kas_place p k f ((l + r) / 2 + 1) r)=evK lt (if lt (gA p k) (gA p ((l + r) / 2))=true then kas_place p k f l ((l + r) / 2) else kas_place p k f ((l + r) / 2 + 1) r):=rfl
   rw [q]
   cases c:lt (gA p k) (gA p ((l + r) / 2)) with
   | true=>
    rw [if_pos rfl]
    exact m l ((l + r) / 2) (by omega) (by omega) (by omega) d λi g1 g2=>xR O (kS O c) (j _ _ g1 g2)
   | false=>
    rw [if_neg (by simp)]
    exact m ((l + r) / 2 + 1) r (by omega) b (by omega) (λi g=>xR O (j i ((l + r) / 2) (by omega) (by omega)) c) h
theorem zI1 (O:LtO lt):∀ f p k,k + f <= p.size->Up lt p k->(evK lt (kas_bin f p k)).Perm p/\Up lt (evK lt (kas_bin f p k)) (k + f):=by
 intro f
 induction f with
 | zero=>exact λp k _ h=>⟨.refl _,h⟩
 | succ f r=>
  intro p k u h
  have e:kas_bin (f + 1) p k=(kas_place p k k 0 k).bind λl=>kas_bin f (bubble p k (k - l)) (k + 1):=rfl
  rw [e,sD]
  obtain ⟨b,d,m⟩:=zA7 O h k 0 k (zMT _) (zMS _) (by omega) (λi g=>absurd g (Nat.not_lt_zero _)) (λi g1 g2=>absurd g2 (by omega))
  generalize evK lt (kas_place p k k 0 k)=l at b d m ⊢
  have up:Up lt (bubble p k (k - l)) (k + 1):=λi j c v=>by
   rw [zCI (by omega) b,zCI (by omega) b]
   by_cases n:i=l
   ·rw [if_pos n]
    by_cases a:j=l
    ·rw [if_pos a];exact xU O _
    ·rw [if_neg a,if_pos ⟨by omega,by omega⟩]
     exact m _ (by omega) (by omega)
   ·rw [if_neg n]
    by_cases o:l < i/\i <= k
    ·rw [if_pos o,if_neg (by omega),if_pos ⟨by omega,by omega⟩]
     exact h _ _ (by omega) (by omega)
    ·rw [if_neg o]
     by_cases a:j=l
     ·rw [if_pos a];exact d _ (by omega)
     ·rw [if_neg a]
      by_cases q:l < j/\j <= k
      ·rw [if_pos q];exact h _ _ (by omega) (by omega)
      ·rw [if_neg q];exact h _ _ c (by omega)
  obtain ⟨s,t⟩:=r (bubble p k (k - l)) (k + 1) (by rw [bubble_size];omega) up
  exact ⟨s.trans (bubble_perm _ _ _),by rw [show k + (f + 1)=k + 1 + f by omega];exact t⟩
theorem zDL (O:LtO lt) (c:1 <= n):(evK lt (kas_sort n)).Perm (List.range n).toArray/\Up lt (evK lt (kas_sort n)) n:=by
 unfold kas_sort
 rw [sD]
 have d:(List.range n).toArray.size=n:=by simp
 obtain ⟨a,f,g,b⟩:=zCZ O (p:=(List.range n).toArray) c (by omega)
 generalize evK lt (kas_count n (List.range n).toArray)=r at a f g b ⊢
 have l:=a.size_eq
 by_cases h:r.1 < n
 ·rw [if_pos h]
  have i:max r.1 1=r.1:=by omega
  rw [i]
  obtain ⟨j,k⟩:=zI1 O (n - r.1) r.2 r.1 (by omega) b
  exact ⟨j.trans a,by rw [show n=r.1 + (n - r.1) by omega];exact (by rw [show r.1 + (n - r.1) - r.1=n - r.1 by omega];exact k)⟩
 ·rw [if_neg h]
  have e:r.1=n:=by omega
  exact ⟨a,by rw [<- e];exact b⟩
def sV {c:Type} (n:Nat) (R:c->Prop):KasT c->Prop
 | .ret a=>R a
 | .ask i j k=>i < n/\j < n/\∀ b,sV n R (k b)
theorem sV.bind {c d:Type} {n:Nat} {R:c->Prop} {e:d->Prop} {f:c->KasT d} (t:KasT c) (h:sV n R t) (g:∀ a,R a->sV n e (f a)):sV n e (t.bind f):=by
 induction t with
 | ret a=>exact g a h
 | ask i j k l=>exact ⟨h.1,h.2.1,λb=>l b (h.2.2 b)⟩
theorem zJB {b:Type} {n:Nat} {R:b->Prop} {lt:Nat->Nat->Bool} {cmp:Nat->Nat->(Bool->Shared->Prop)->Shared->Prop} {Pq:Shared->Prop} (d:∀ i j C s,i < n->j < n->Pq s->(∀ s',Pq s'->C (lt i j) s')->cmp i j C s) (t:KasT b) (c:sV n R t) {Q:b->Shared->Prop} :
  ∀ s,Pq s->(∀ s',Pq s'->Q (evK lt t) s')->t.kasWp cmp Q s:=by
 induction t with
 | ret a=>exact λs h q=>q s h
 | ask i j k e=>exact λs h q=>d i j _ s c.1 c.2.1 h λs' f=>e (lt i j) (c.2.2 _) s' f q
def In_ (n:Nat) (p:Array Nat):Prop:=∀ v ∈ p.toList,v < n
theorem In_.gA (h:In_ n p) (a:1 <= n) (x:Nat):gA p x < n:=by
 unfold L2.gA
 rw [zNI]
 cases e:p[x]? with
 | none=>exact a
 | some v=>exact h v (by rw [Array.mem_toList_iff];exact Array.mem_of_getElem? e)
theorem In_.perm {p q:Array Nat} (h:In_ n p) (e:q.Perm p):In_ n q:=λv a=>h v ((Array.perm_iff_toList_perm.mp e).mem_iff.mp a)
section
variable {n:Nat} (h1:1 <= n)
include h1
theorem zC6 (h:In_ n p):∀ f m,sV n (λ_=>True) (kas_asc p f m):=by
 intro f
 induction f with
 | zero=>exact λ_=>trivial
 | succ f a=>
  intro m
  refine ⟨h.gA h1 _,h.gA h1 _,λb=>?_⟩
  cases b with
  | true=>exact trivial
  | false=>exact a _
theorem zE9:∀ f p m q,In_ n p->sV n (λr=>In_ n r.1) (kas_desc f p m q):=by
 intro f
 induction f with
 | zero=>exact λp m q h=>h
 | succ f a=>
  intro p m q h
  refine ⟨h.gA h1 _,h.gA h1 _,λb=>?_⟩
  cases b with
  | true=>
   show sV n _ (if q > 0 then kas_desc f (kas_rev p (m - (q + 1)) m) (m + 1) 0 else kas_desc f p (m + 1) 0)
   by_cases d:q > 0
   ·rw [if_pos d];exact a _ _ _ (h.perm (vL _ _ _))
   ·rw [if_neg d];exact a _ _ _ h
  | false=>
   refine ⟨h.gA h1 _,h.gA h1 _,λc=>?_⟩
   cases c with
   | true=>exact h
   | false=>exact a _ _ _ h
theorem f9 {p:Array Nat} (h:In_ n p) (m a:Nat):sV n (λr=>In_ n r.2) (kas_tail3 m a p):=
 (zC6 h1 (h.perm (vL _ _ _)) _ _).bind _ λ_ _=>h.perm (vL _ _ _)
theorem pH {p:Array Nat} (h:In_ n p) (m c:Nat):sV n (λr=>In_ n r.2) (kas_descPart m c p):=by
 refine (zE9 h1 _ p _ _ h).bind _ λr a=>?_
 by_cases b:r.2.2 > 0
 ·rw [if_pos b];exact f9 h1 (a.perm (vL _ _ _)) _ _
 ·rw [if_neg b];exact f9 h1 a _ _
theorem zCY {p:Array Nat} (h:In_ n p) (a:Nat):sV n (λr=>In_ n r.2) (kas_count a p):=by
 refine (zC6 h1 h _ _).bind _ λm _=>?_
 by_cases c:(m == a)=true
 ·rw [if_pos c];exact h
 ·rw [if_neg c]
  by_cases d:m > 1
  ·rw [if_pos d]
   refine ⟨h.gA h1 _,h.gA h1 _,λb=>?_⟩
   cases b with
   | true=>exact h
   | false=>exact pH h1 (h.perm (vL _ _ _)) _ _
  ·rw [if_neg d];exact pH h1 h _ _
theorem zA6 (h:In_ n p) (k:Nat):∀ f l r,sV n (λ_=>True) (kas_place p k f l r):=by
 intro f
 induction f with
 | zero=>exact λ_ _=>trivial
 | succ f d=>
  intro l r
  show sV n _ (if l >= r then .ret l else .ask (gA p k) (gA p ((l + r) / 2)) λc=>if c=true then kas_place p k f l ((l + r) / 2) else kas_place p k f ((l + r) / 2 + 1) r)
  by_cases a:l >= r
  ·rw [if_pos a];exact trivial
  ·rw [if_neg a]
   refine ⟨h.gA h1 _,h.gA h1 _,λb=>?_⟩
   cases b with
   | true=>exact d _ _
   | false=>exact d _ _
theorem zI0:∀ f p k,In_ n p->sV n (In_ n) (kas_bin f p k):=by
 intro f
 induction f with
 | zero=>exact λp k h=>h
 | succ f a=>exact λp k h=>(zA6 h1 h k _ _ _).bind _ λl _=>a _ _ (h.perm (bubble_perm _ _ _))
theorem zDK:sV n (In_ n) (kas_sort n):=by
 refine (zCY h1 (p:=(List.range n).toArray) (λv b=>by simpa using b) n).bind _ λr a=>?_
 by_cases h:r.1 < n
 ·rw [if_pos h];exact zI0 h1 _ _ _ a
 ·rw [if_neg h];exact a
end
end
noncomputable def ltS (a b:Str):Bool:=decide (a.cps.toList < b.cps.toList)
theorem zBX (h:ltS a b=true):ltS b a=false:=KeyOrd.klt_asymm (O:=strKind.toKeyOrd) h
theorem dQ (d:ltS b a=false) (e:ltS c b=false):ltS c a=false:=KeyOrd.kle_trans (O:=strKind.toKeyOrd) (a:=a.cps.toList) (b:=b.cps.toList) (c:=c.cps.toList) d e
theorem zEW (c:ltS a b=false) (d:ltS b a=false):a=b:=by
 have e:=strKind.total _ _ c d
 cases a;cases b
 simp only [Str.mk.injEq]
 exact Array.toList_inj.mp e
theorem zBW (a:Str):ltS a a=false:=strKind.irrefl _
def Asc {c:Type} (lt:c->c->Bool) (l:List c):Prop:=l.Pairwise λa b=>lt b a=false
theorem zC5 {d:Type} {lt:d->d->Bool} (f:∀ a b,lt a b=false->lt b a=false->a=b):∀ {l c:List d},l.Perm c->Asc lt l->Asc lt c->l=c:=by
 intro l
 induction l with
 | nil=>intro c p _ _;exact (List.Perm.nil_eq p)
 | cons x l j=>
  intro c p h k
  cases c with
  | nil=>exact absurd p.length_eq (by simp)
  | cons y c=>
   obtain ⟨m,n⟩:=List.pairwise_cons.mp h
   obtain ⟨o,q⟩:=List.pairwise_cons.mp k
   have e:x=y:=by
    have g:=p.mem_iff.mp zNC
    have i:=p.mem_iff.mpr zNC
    rcases List.mem_cons.mp g with e | g
    ·exact e
    ·rcases List.mem_cons.mp i with e | i
     ·exact e.symm
     ·exact f x y (o x g) (m y i)
   subst e
   rw [j (List.Perm.cons_inv p) n q]
theorem oO:∀ l p,risingS p l=true->Asc ltS (p :: l)
 | [],p,_=>List.pairwise_singleton _ _
 | x :: r,p,h=>by
  unfold risingS at h
  obtain ⟨c,e⟩:=Bool.and_eq_true_iff.mp h
  have d:=oO r x e
  have a:ltS x p=false:=by
   rw [ltCps_eq] at c
   simpa [ltS] using c
  refine List.pairwise_cons.mpr ⟨λy b=>?_,d⟩
  rcases List.mem_cons.mp b with rfl | b
  ·exact a
  ·exact dQ a ((List.pairwise_cons.mp d).1 y b)
theorem gP (l:List Str) (h:sortedS l=true):Asc ltS l:=by
 cases l with
 | nil=>exact .nil
 | cons x r=>exact oO r x h
theorem mO:∀ {us:List Value} {ys:List Str},StrsAre us ys->yO (ys.map V.str) us
 | _,_,.nil=>.nil
 | _,_,.cons _ _ h=>.cons ⟨_,rfl⟩ (mO h)
section
variable {X:Cx}
end
section
variable {prog:Program} {w:World} {A:Around} {E:VSP} {s:Shared}
noncomputable def vB {a:Type} (p:Array Nat) (l:List a) (d:a):List a:=p.toList.map λi=>l.getD i d
theorem c6 {a:Type} {p:Array Nat} {l:List a} (d:a) (h:p.Perm (List.range l.length).toArray):(vB p l d).Perm l:=by
 have b:(vB p l d).Perm ((List.range l.length).map λi=>l.getD i d):=(Array.perm_iff_toList_perm.mp h).map _
 have e:(List.range l.length).map (λi=>l.getD i d)=l:=by
  apply List.ext_getElem
  ·simp
  ·intro i g1 g2
   simp [zMO,zMK g2]
 rwa [e] at b
end
theorem kK:∀ {a:List Addr} {us:List Value},yO (a.map V.ref) us->us=a.map Value.ref
 | [],_,.nil=>rfl
 | q :: a,_,.cons r h=>by
  rw [List.map_cons,<- kK h]
  exact congrArg (· :: _) r
theorem mP:∀ (a:List Addr),yO (a.map V.ref) (a.map Value.ref)
 | []=>.nil
 | _ :: a=>.cons rfl (mP a)
section
variable {X:Cx} {qp:LAO} {σ:St} {H:Hp} {s:Shared}
theorem oU {a b:Type} (f:a->b) (p:Array Nat) (l:List a) (d:a) (e:b) (c:∀ i ∈ p.toList,i < l.length):vB p (l.map f) e=(vB p l d).map f:=by
 unfold vB
 rw [zM3]
 refine List.map_congr_left λi g=>?_
 have:=c i g
 simp [zMO,zMK this]
theorem iH (h:Paired R b f) (p:Array Nat) (c:∀ i ∈ p.toList,i < b.length):Paired R (vB p b 0) (vB p f []):=by
 unfold vB
 have get:∀ i,i < b.length->R (b.getD i 0) (f.getD i []):=by
  clear c
  induction h with
  | nil=>exact λi d=>absurd d (Nat.not_lt_zero _)
  | cons a r e=>
   intro i d
   cases i with
   | zero=>exact a
   | succ i=>exact e i (by simpa using d)
 generalize p.toList=l at c
 induction l with
 | nil=>exact .nil
 | cons i l e=>exact .cons (get i (c i zNC)) (e λj g=>c j (zMW _ g))
end
end L2
namespace L2
open PySem PySem.Spec PyProof.Rows
section
variable {prog:Program} {w:World} {A:Around} {E:VSP} {s:Shared}
open Builtin.Str in
end
section
variable {X:Cx} {pos:Pos}
end
section
variable {X:Cx}
end
section
open PySem.SeqAt
open PySem.AutoSeq1 (wpAny_loadPart')
open PySem.MeetsSeq PySem.MeetsSeq2 PySem.MeetsSeq3
end
section
variable {X:Cx}
end
end L2
namespace L2
open PySem PySem.Spec PyProof.Rows
open PySem.AutoSeq1 (wpAny_loadPart')
section
variable {prog:Program} {w:World} {A:Around} {E:VSP} {s:Shared}
theorem zCP
  (B:IsEnum s.heap e a c old) (hit:s.heap.IsListIter a l i) (hl:s.heap.IsList l its) (hx:its[i]?=some x) (d:e ≠ a)
  (hQ:∀ h',IsEnumOut h' e a (c + 1) x s.heap.objs.size->h'.IsListIter a l (i + 1)->h'.get? s.heap.objs.size=some { cls:=.type "tuple",data:=.seq #[.int c s.toks,x] } ->
   (∀ b o,b ≠ e->b ≠ a->s.heap.get? b=some o->h'.get? b=some o)->Q (some (.ref s.heap.objs.size)) { s with heap:=h',toks:=s.toks + 1 }) :
  wpAny (model prog w) A (pyNext (.ref e)) Q E s:=by
 have Y:s.TypeIs (.ref e) "enumerate":=⟨_,B,rfl⟩
 unfold pyNext
 refine wpAny_bind (wpAny_attempt (wpAny_callSpecial?_slot (name:=Str.ofString "__next__") Y F.slot_enumerate_next (wpAny_call_entry F.slot_enumerate_next Y F.entry_enumerate_next ?_ (F.args_enumerate_next_1 _))))
 obtain ⟨g,ge,h,f,j⟩:=s
 show wpAny _ _ (field (.ref e) 2 >>= _) _ _ _
 refine wpAny_bind (wpAny_field B rfl (x:=.ref a) rfl (wpAny_bind (wpAny_nextOf_list_item hit hl hx λk i1 p=>?_)))
 replace p:Heap.SameBut a g k:=p
 have H:IsEnum k e a c old:=(p.2 e d).trans B
 show wpAny _ _ (field (.ref e) 3 >>= _) _ _ ⟨k,ge,h,f,j⟩
 refine wpAny_bind (wpAny_field H rfl (x:=rawInt c) rfl ?_)
 show wpAny _ _ (field (.ref e) 4 >>= _) _ _ ⟨k,ge,h,f,j⟩
 refine wpAny_bind (wpAny_field H rfl (x:=.none) rfl ?_)
 show wpAny _ _ (mkInt c >>= _) _ _ ⟨k,ge,h,f,j⟩
 refine wpAny_bind (wpAny_mkInt ?_)
 show wpAny _ _ (setField (.ref e) 3 (rawInt (c + 1)) >>= _) _ _ ⟨k,ge,h,f + 1,j⟩
 refine wpAny_bind (wpAny_setField_rec H (by simp) λC I q=>?_)
 replace q:Heap.SameBut e k C:=q
 replace I:IsEnum C e a (c + 1) old:=I
 show wpAny _ _ (setField (.ref e) 4 .none >>= _) _ _ ⟨C,ge,h,f + 1,j⟩
 refine wpAny_bind (wpAny_setField_rec I (by simp) λn J t=>?_)
 replace t:Heap.SameBut e C n:=t
 replace J:IsEnum n e a (c + 1) old:=J
 show wpAny _ _ (newTuple [.int c f,x] >>= _) _ _ ⟨n,ge,h,f + 1,j⟩
 refine wpAny_bind (wpAny_newTuple ?_)
 have D:IsEnum (n.push { cls:=.type "tuple",data:=.seq #[.int c f,x] }) e a (c + 1) old:=Heap.get?_push_of_some _ J
 generalize m:n.push { cls:=.type "tuple",data:=.seq #[.int c f,x] }=u at D
 have zz:n.objs.size=g.objs.size:=by rw [t.1,q.1,p.1]
 have lt:e < g.objs.size:=Heap.lt_size B
 have t4:u.get? g.objs.size=some { cls:=.type "tuple",data:=.seq #[.int c f,x] }:=by
  rw [<- m,<- zz];exact Heap.get?_push_size _ rfl
 have k4:∀ b o,b ≠ e->b ≠ a->g.get? b=some o->u.get? b=some o:=λb o n1 n2 L=>by
  rw [<- m]
  exact Heap.get?_push_of_some _ (t.extBut b o n1 (q.extBut b o n1 (p.extBut b o n2 L)))
 have i4:u.IsListIter a l (i + 1):=by
  rw [<- m]
  obtain ⟨o,ho,r⟩:=(i1.extBut q.extBut (Ne.symm d)).extBut t.extBut (Ne.symm d)
  exact ⟨o,Heap.get?_push_of_some _ ho,r⟩
 show wpAny _ _ (Builtin.SmallTypes.ownedTupleIsFree (.ref e) >>= _) _ _ ⟨u,ge,h,f + 1,j⟩
 rw [zz]
 refine wpAny_bind ?_
 unfold Builtin.SmallTypes.ownedTupleIsFree
 refine wpAny_bind (wpAny_field D rfl (x:=.none) rfl (wpAny_pure ?_))
 simp only [if_true]
 refine wpAny_bind (wpAny_rule (wpAny_bind (wpAny_field D rfl (x:=old) rfl ?_)))
 refine wpAny_bind (wpAny_setField_rec D (by simp) λG M v=>?_)
 replace v:Heap.SameBut e u G:=v
 replace M:IsEnum G e a (c + 1) x:=M
 show wpAny _ _ (Builtin.SmallTypes.ownedTupleHandOut (.ref e) (.ref g.objs.size) >>= _) _ _ ⟨G,ge,h,f + 1,j⟩
 refine wpAny_bind ?_
 unfold Builtin.SmallTypes.ownedTupleHandOut
 refine wpAny_bind (wpAny_setField_rec M (by simp) λN O y=>?_)
 replace y:Heap.SameBut e G N:=y
 replace O:IsEnumOut N e a (c + 1) x g.objs.size:=O
 refine wpAny_setField_rec O (by simp) λT U z=>?_
 replace z:Heap.SameBut e N T:=z
 replace U:IsEnumOut T e a (c + 1) x g.objs.size:=U
 refine wpAny_bind (wpAny_letGo (wpAny_pure ⟨_,rfl,wpAny_pure (hQ T U ?_ ?_ ?_)⟩))
 ·exact ((i4.extBut v.extBut (Ne.symm d)).extBut y.extBut (Ne.symm d)).extBut z.extBut (Ne.symm d)
 ·exact z.extBut _ _ (Nat.ne_of_gt lt) (y.extBut _ _ (Nat.ne_of_gt lt) (v.extBut _ _ (Nat.ne_of_gt lt) t4))
 ·exact λb o n1 n2 L=>z.extBut b o n1 (y.extBut b o n1 (v.extBut b o n1 (k4 b o n1 n2 L)))
theorem zE8 (j:A.handled=none) (g:IsEnum s.heap e a c old) (hit:s.heap.IsListIter a l i) (k:s.heap.IsList l its) (hx:its[i]?=none)
  (m:∀ h',Heap.ExtBut a s.heap h'->Q none { s with heap:=h' }):wpAny (model prog w) A (pyNext (.ref e)) Q E s:=by
 have h:s.TypeIs (.ref e) "enumerate":=⟨_,g,rfl⟩
 unfold pyNext
 refine wpAny_bind (wpAny_attempt (wpAny_callSpecial?_slot (name:=Str.ofString "__next__") h F.slot_enumerate_next (wpAny_call_entry F.slot_enumerate_next h F.entry_enumerate_next ?_ (F.args_enumerate_next_1 _))))
 show wpAny _ _ (field (.ref e) 2 >>= _) _ _ _
 refine wpAny_bind (wpAny_field g rfl (x:=.ref a) rfl (wpAny_bind (wpAny_nextOf_list_end j hit k hx λh' x d f=>?_)))
 obtain ⟨o,n,p⟩:=f
 exact wpAny_bind (wpAny_isInstance (T:="StopIteration") (b:=true) ⟨o,n,p⟩ isSubtype_stop (wpAny_pure (m _ d)))
end
theorem Inv.turnedT {h':Heap} (I:Inv X j y H s) (k:∀ c o,c ≠ a->c ≠ b->s.heap.get? c=some o->h'.get? c=some o)
  (g:uU X j H a) (h:uU X j H b) (p:s.heap.objs.size <= T) (new:xL X.prog X.w (upd H T (.tup xs)) h' T (.tup xs)):Inv X j y (upd H T (.tup xs)) { s with heap:=h',toks:=t' }:=by
 have i:=I.hok.fresh p
 have t:∀ c u,H c=some u->c ≠ a:=λc u e z=>by rw [z,g.1] at e;cases e
 have x:∀ c u,H c=some u->c ≠ b:=λc u e z=>by rw [z,h.1] at e;cases e
 have l:∀ c o,c ∉ [a,b]->s.heap.get? c=some o->h'.get? c=some o:=λc o f e=>k c o (λz=>f (by simp [z])) (λz=>f (by simp [z])) e
 refine I.step (g':=s.gens) (d':=s.drawn) (ch:=[a,b]) (λc f=>?_) (λc o _ _ f e _=>l c o f e) (λc o _ _ f e _=>⟨o.slots,l c o f e⟩) (λc o _ e n=>by rw [zK (zNA (zM5 (Heap.lt_size e) p))];exact n)
  (λc o f e=>⟨o,l c o f e⟩) (λc A e=>by rw [zK (zI e i)];exact e) (λc o u e=>by rw [zK (zI e i)];exact e) (λc M e=>⟨#[],by rw [zK (zI e i),e];simp⟩) (λm B=>?_) (λc u e=>?_) I.bare
 ·rcases List.mem_cons.mp f with rfl | f
  ·exact ⟨g.2.2.2.1,g.2.1,g.2.2.2.2.1,g.2.2.2.2.2⟩
  ·rw [zMM.mp f]
   exact ⟨h.2.2.2.1,h.2.1,h.2.2.2.2.1,h.2.2.2.2.2⟩
 ·obtain ⟨o,C,D,E,r⟩:=B
  exact ⟨o,C,D,k _ o (Ne.symm g.2.1) (Ne.symm h.2.1) E,r⟩
 ·by_cases f:c=T
  ·subst f;rw [zC] at e;cases e;exact new
  ·rw [zK f] at e
   refine (I.hok c u e).stay (λd v hd q=>?_) (λd q=>by rw [zK (zI q i)];exact q) λd A q=>by rw [zK (zI q i)];exact q
   rcases hd with z | z
   ·rw [z] at q ⊢;exact k c v (t c u e) (x c u e) q
   ·exact k d v (t d _ z) (x d _ z) q
noncomputable def Ite (K:W.Frag) (a:Addr) (k:Int):It:=
 ⟨λi H=>∃ b x,SqL K H a b/\b[i]?=some x,λi H x c=>∃ T v,x=.ref T/\H T=none/\c=upd H T (.tup [.int (k + i),v])/\∀ b,SqL K H a b->b[i]?=some v,λi H=>∃ b,SqL K H a b/\b.length <= i⟩
theorem cK {P:Program} {w:World} {K:W.Frag} {elts:List Expr} {n:Nat} {tp:Pos} (a e it:Addr) (k:Int) (hne:e ≠ it):zC9 P w K (.Tuple elts n tp) (Ite K a k) [e,it] e (λi h=>(∃ old,IsEnum h e it (k + i) old)/\h.IsListIter it a i) where
 mem:=by simp
 obj:=λi h st b hb=>by
  obtain ⟨⟨old,he⟩,o,ho,c,d⟩:=st
  rcases List.mem_cons.mp hb with rfl | hb
  ·exact ⟨_,he,λv z=>by cases z⟩
  ·rw [zMM.mp hb]
   exact ⟨o,ho,λv z=>by rw [d] at z;cases z⟩
 keep:=λi h h' st kk=>⟨let ⟨old,he⟩:=st.1;⟨old,kk e (by simp) _ he⟩,st.2.at λo z=>kk it (by simp) o z⟩
 item:=by
  intro X hP hw hK hc i qp s σ H E I hf st hg
  subst hP hw hK
  obtain ⟨xs,x,hq,hx⟩:=hg
  obtain ⟨⟨old,he⟩,hit⟩:=st
  obtain ⟨its,rv,p,hz⟩:=I.list hq
  obtain ⟨u,hu,ru⟩:=rv.get hx
  refine zCP he hit p.isList (x:=u) (by simpa using hu) hne λh' eo it' tt kp=>?_
  refine ⟨_,rfl,wpAny_letOwnedTupleGo_enum eo λh2 e2 s2=>?_⟩
  have el:e < s.heap.objs.size:=Heap.lt_size he
  have il:it < s.heap.objs.size:=by obtain ⟨o,ho,_⟩:=hit;exact Heap.lt_size ho
  have tt2:h2.get? s.heap.objs.size=some { cls:=.type "tuple",data:=.seq #[.int (k + i) s.toks,u] }:=(s2.2 _ (Nat.ne_of_gt el)).trans tt
  have I1:Inv X qp σ (upd H s.heap.objs.size (.tup [.int (k + i),x])) { s with heap:=h2,toks:=s.toks + 1 }:=I.turnedT (λc o n1 n2 z=>(s2.2 c n1).trans (kp c o n1 n2 z)) (hf e (by simp)) (hf it (by simp)) (zMS _)
   ⟨by show 2 <= sizeLine;decide,[.int (k + i) s.toks,u],.cons ⟨_,rfl⟩ (.cons ru .nil),_,tt2,rfl,_,rfl⟩
  refine ⟨.ref s.heap.objs.size,_,I1,rfl,⟨s.heap.objs.size,x,rfl,I.hok.fresh (zMS _),rfl,λys hy=>by rw [I.list_inj hy hq];exact hx⟩,⟨⟨u,by have z:=e2;rw [show k + (i:Int) + 1=k + ((i + 1:Nat):Int) by omega] at z;exact z⟩,it'.at λo z=>(s2.2 it (Ne.symm hne)).trans z⟩,λb hb=>?_⟩
  have bl:b ≠ s.heap.objs.size:=by
   rcases List.mem_cons.mp hb with rfl | hb
   ·exact zNA el
   ·rw [zMM.mp hb];exact zNA il
  rw [zK bl]
  exact (hf b hb).1
 done:=by
  intro X hP hw hK hc i qp s σ H E I hf st hg
  subst hP hw hK
  obtain ⟨xs,hq,hx⟩:=hg
  obtain ⟨⟨old,he⟩,hit⟩:=st
  obtain ⟨its,rv,p,hz⟩:=I.list hq
  obtain ⟨f0,f1,f2,f3,f4,f5⟩:=hf it (by simp)
  have hl:=rv.length
  exact zE8 (I.ok.hd hc) he hit p.isList (by simp;omega) λh' eb=>⟨rfl,I.turned (t':=s.toks) (λb o hb z=>eb b o hb z) f0 f1 f3 f4 f5⟩
 self:=λ_ _ _ _ _ st h=>by
  obtain ⟨⟨old,he⟩,_⟩:=st
  exact wpAny_pyIter_enum he h
section
variable {X:Cx}
def zLP (K:W.Frag) (k:Int) (c:TE):TI:=λd H R=>c d H λx b=>∃ a,x=.ref a/\(∃ e,SqL K b a e)/\R (Ite K a k) b
end
end L2
namespace L2
open PySem PySem.Spec PyProof.Rows
theorem zDG (g1:Comprehension) (a target iter:Expr) (b:List Expr) (scope:Scope) (pos:Pos) (d acc:Value) (env:Env) :
  compTurn (.ListComp a [g1,⟨target,iter,b,0⟩] scope pos) 1 d acc env=(do
   standAt iter.pos
   match <- pyNext d with
   | none=>pure (.done .next)
   | some v=>do
    letOwnedTupleGo target d v
    assign target env v
    let ok <- forIn b true λc r=>if r=true then do let ok <- isTrue c env (eval c env);pure (ForInStep.yield ok) else pure (ForInStep.yield r)
    if ok=true then do
     (do let z <- eval a env;let _ <- call (.builtin "list.append") [acc,z])
     again (.compLoop (.ListComp a [g1,⟨target,iter,b,0⟩] scope pos) 1 d acc env)
    else again (.compLoop (.ListComp a [g1,⟨target,iter,b,0⟩] scope pos) 1 d acc env)):=rfl
theorem aK (e target iter f a:Expr) (d b:List Expr) (scope:Scope) (pos:Pos) (g acc:Value) (env:Env) :
  compTurn (.ListComp e [⟨target,iter,d,0⟩,⟨f,a,b,0⟩] scope pos) 0 g acc env=(do
   standAt iter.pos
   match <- pyNext g with
   | none=>pure (.done .next)
   | some v=>do
    letOwnedTupleGo target g v
    assign target env v
    let ok <- forIn d true λc r=>if r=true then do let ok <- isTrue c env (eval c env);pure (ForInStep.yield ok) else pure (ForInStep.yield r)
    if ok=true then do
     let x <- eval a env
     standAt a.pos
     let x <- foldedSetIterable a env x
     let _ <- runOwn (.compStart (.ListComp e [⟨target,iter,d,0⟩,⟨f,a,b,0⟩] scope pos) 1 (<- holding [x] (pyIter x)) acc env) env
     again (.compLoop (.ListComp e [⟨target,iter,d,0⟩,⟨f,a,b,0⟩] scope pos) 0 g acc env)
    else again (.compLoop (.ListComp e [⟨target,iter,d,0⟩,⟨f,a,b,0⟩] scope pos) 0 g acc env)):=rfl
section
variable {prog:Program} {w:World} {A:Around} {R:Result->Shared->Prop} {s:Shared} {elt target iter tg2 iter2:Expr} {ifs ifs2:List Expr} {scope:Scope} {pos:Pos} {it acc:Value} {env:Env}
theorem aQ (b:codeAny (model prog w) A (.compLoop (.ListComp elt [g1,⟨target,iter,ifs,0⟩] scope pos) 1 it acc env) R s)
  (h:wpAny (model prog w) A (pyIter it) (λa s'=>codeAny (model prog w) A (.compLoop (.ListComp elt [g1,⟨target,iter,ifs,0⟩] scope pos) 1 a acc env) R s') (λ_ _=>False) s) :
  codeAny (model prog w) A (.compStart (.ListComp elt [g1,⟨target,iter,ifs,0⟩] scope pos) 1 it acc env) R s:=by
 refine codeAny_of_tree ?_
 show wpAny _ _ ((compStart (.ListComp elt [g1,⟨target,iter,ifs,0⟩] scope pos) 1 it acc env).onRaise (λx=>do noteFrame x env;standAt theWindowsPlace)) _ _ s
 refine wpAny_notedAt ?_
 unfold compStart;show wpAny _ _ (ask >>= _) _ _ s
 refine wpAny_bind (wpAny_askSetting (wpAny_ite ?_));split
 ·first | exact wpAny_bind (wpAny_pure (wpAny_pure (And.intro rfl b))) | exact wpAny_pure (And.intro rfl b)
 ·have c:wpAny (model prog w) A (pyIter it) (λa s'=>codeAny (model prog w) A (.compLoop (.ListComp elt [g1,⟨target,iter,ifs,0⟩] scope pos) 1 a acc env) R s') (notedBy (model prog w) A env λx s'=>R (.error x) s') s:=wpAny_mono h (λ_ _ q=>q) λ_ _ q=>q.elim
  refine wpAny_bind (wpAny_rule ?_)
  show wpAny _ _ (standAt iter.pos >>= _) _ _ s
  exact wpAny_bind (wpAny_standAt (wpAny_bind (wpAny_mono c (λa s' d=>wpAny_pure ⟨rfl,d⟩) λ_ _ x=>x)))
theorem zLL (J:Nat->Shared->Prop)
  (turn:∀ n s,J n s->wpAny (model prog w) A (pyNext it) (λr b=>match r with
   | none=>R (.ok .next) b
   | some v=>wpAny (model prog w) A (letOwnedTupleGo target it v) (λ_ a=>wpAny (model prog w) A (assign target env v) (λ_ j=>
     wpAny (model prog w) A (forIn ifs true λc r=>if r=true then do let ok <- isTrue c env (eval c env);pure (ForInStep.yield ok) else pure (ForInStep.yield r)) (λok d=>
      if ok=true then wpAny (model prog w) A (eval elt env) (λx k=>
       wpAny (model prog w) A (call (.builtin "list.append") [acc,x]) (λ_ l=>∃ m,m < n/\J m l) (λ_ _=>False) k) (λ_ _=>False) d
      else ∃ m,m < n/\J m d) (λ_ _=>False) j) (λ_ _=>False) a) (λ_ _=>False) b) (λ_ _=>False) s)
  (n:Nat) (h:J n s):codeAny (model prog w) A (.compLoop (.ListComp elt [g1,⟨target,iter,ifs,0⟩] scope pos) 1 it acc env) R s:=by
 refine codeAny_loop rfl J (λn s q=>?_) n h
 have nof:∀ e g,False->notedBy (model prog w) A env (λe g=>R (.error e) g) e g:=λ_ _ f=>f.elim
 show wpAny (model prog w) A ((compTurn (.ListComp elt [g1,⟨target,iter,ifs,0⟩] scope pos) 1 it acc env).onRaise (λx=>do noteFrame x env;theTreesLotGoes x)) _ _ s
 refine wpAny_noted ?_
 rw [zDG]
 refine wpAny_bind (wpAny_standAt (wpAny_bind (wpAny_mono (turn n s q) (λr b o=>?_) nof)))
 cases r with
 | none=>exact wpAny_pure o
 | some v=>
  refine wpAny_bind (wpAny_mono o (λ_ a i=>?_) nof)
  refine wpAny_bind (wpAny_mono i (λ_ j t=>?_) nof)
  refine wpAny_bind (wpAny_mono t (λok d p=>?_) nof)
  cases ok with
  | false=>exact wpAny_pure ⟨rfl,p⟩
  | true=>
   refine wpAny_bind (wpAny_bind (wpAny_mono p (λx k u=>?_) nof))
   exact wpAny_bind (wpAny_mono u (λ_ l y=>wpAny_pure (wpAny_pure ⟨rfl,y⟩)) nof)
theorem zIM (z:∀ x,foldedSetIterable iter2 env x=pure x) (J:Nat->Shared->Prop)
  (turn:∀ n s,J n s->wpAny (model prog w) A (pyNext it) (λr g=>match r with
   | none=>R (.ok .next) g
   | some v=>wpAny (model prog w) A (letOwnedTupleGo target it v) (λ_ a=>wpAny (model prog w) A (assign target env v) (λ_ l=>
     wpAny (model prog w) A (forIn ifs true λc r=>if r=true then do let ok <- isTrue c env (eval c env);pure (ForInStep.yield ok) else pure (ForInStep.yield r)) (λok i=>
      if ok=true then wpAny (model prog w) A (eval iter2 env) (λx o=>wpAny (model prog w) A (pyIter x) (λb p=>
       codeAny (model prog w) A (.compStart (.ListComp elt [⟨target,iter,ifs,0⟩,⟨tg2,iter2,ifs2,0⟩] scope pos) 1 b acc env) (λr t=>r=.ok .next/\∃ m,m < n/\J m t) p) (λ_ _=>False) o) (λ_ _=>False) i
      else ∃ m,m < n/\J m i) (λ_ _=>False) l) (λ_ _=>False) a) (λ_ _=>False) g) (λ_ _=>False) s)
  (n:Nat) (h:J n s):codeAny (model prog w) A (.compLoop (.ListComp elt [⟨target,iter,ifs,0⟩,⟨tg2,iter2,ifs2,0⟩] scope pos) 0 it acc env) R s:=by
 refine codeAny_loop rfl J (λn s B=>?_) n h
 have nof:∀ e j,False->notedBy (model prog w) A env (λe j=>R (.error e) j) e j:=λ_ _ f=>f.elim
 show wpAny (model prog w) A ((compTurn (.ListComp elt [⟨target,iter,ifs,0⟩,⟨tg2,iter2,ifs2,0⟩] scope pos) 0 it acc env).onRaise (λx=>do noteFrame x env;theTreesLotGoes x)) _ _ s
 refine wpAny_noted ?_
 rw [aK]
 refine wpAny_bind (wpAny_standAt (wpAny_bind (wpAny_mono (turn n s B) (λr g u=>?_) nof)))
 cases r with
 | none=>exact wpAny_pure u
 | some v=>
  refine wpAny_bind (wpAny_mono u (λ_ a k=>?_) nof)
  refine wpAny_bind (wpAny_mono k (λ_ l C=>?_) nof)
  refine wpAny_bind (wpAny_mono C (λok i y=>?_) nof)
  cases ok with
  | false=>exact wpAny_pure ⟨rfl,y⟩
  | true=>
   simp only [if_true]
   refine wpAny_bind (wpAny_mono y (λx o D=>?_) nof)
   refine wpAny_bind (wpAny_standAt ?_)
   rw [z]
   refine wpAny_bind (wpAny_pure (wpAny_bind (wpAny_holding (wpAny_mono D (λb p E=>?_) nof))))
   refine wpAny_bind (wpAny_runOwn (h:=none) ?_)
   rw [Around.mark_none]
   refine codeAny_mono E λr t d=>?_
   obtain ⟨e,q⟩:=d
   subst e
   exact wpAny_pure ⟨rfl,q⟩
end
def INW (J:It) (g:TG) (p:TT) (q:TE) (acc:Addr) (h:List V) (j:St) (r:Hp) (N:List V->St->Hp->Prop):Prop:=
 ∃ W:Nat->Nat->List V->St->Hp->Prop,(∃ m,W 0 m h j r)/\∀ i m c k H,W i m c k H->H acc=some (.lst c)/\c.length < sizeLine /\
  ((J.stop i H/\N c k H) \/ (J.go i H/\∃ M:List V->St->Hp->Prop,(∀ d e f,M d e f->∃ l,l < m/\W (i + 1) l d e f) /\
   ∀ x f,J.yld i H x f->g x k f λa s=>p a s λb n=>if b=true then q a n λy o=>o acc=some (.lst c)/\M (c ++ [y]) a (upd o acc (.lst (c ++ [y]))) else M c a n))
def zMI (J:It) (xs:List Str) (ix:List Nat) (g:TG) (o:TT) (f:TI) (g2:TG) (h:TT) (p:TE) (q:St) (H1:Hp) (acc:Addr) (Q:VK):Prop:=
 ∃ W:Nat->Nat->List V->St->Hp->Prop,(∃ m,W 0 m [] (stC xs ix q) (upd H1 acc (.lst [])))/\∀ i m j k H,W i m j k H ->
  ((J.stop i H/\Q (.ref acc) H) \/ (J.go i H/\∃ N:List V->St->Hp->Prop,(∀ c d e,N c d e->∃ l,l < m/\W (i + 1) l c d e) /\
   ∀ x e,J.yld i H x e->g x k e λa r=>o a r λb n=>if b=true then f a n λs t=>INW s g2 h p acc j a t N else N j a n))
def zG7 (xs:List Str) (ix:List Nat) (e:TI) (g:TG) (f:TT) (a:TI) (g2:TG) (b:TT) (h:TE):TE:=λc H Q=>e c H λJ d=>∀ acc,d acc=none->zMI J xs ix g f a g2 b h c d acc Q
theorem zB8
    (S:xO X xs ix scope) (hc:X.calm=true) (hi:PI X tg iter wi) (ac:∀ C f s H,PI (cxC X xs ix scope C f s H) a1 B cm) (cn:∀ env x,foldedSetIterable B env x=pure x)
    (hg:∀ C f s H,PG (cxC X xs ix scope C f s H) tg g) (ht:∀ C f s H,PTs (cxC X xs ix scope C f s H) ae tt) (af:∀ C f s H,PG (cxC X xs ix scope C f s H) a1 g2) (ag:∀ C f s H,PTs (cxC X xs ix scope C f s H) O cp) (he:∀ C f s H,PE (cxC X xs ix scope C f s H) ah te)
 (I:Inv X qp σ H s) (h:zG7 xs ix wi g tt cm g2 cp te σ H Q)
    (fin:∀ acc C j s' m,Q (.ref acc) j->s'.heap.Ns C m->(∀ h',Heap.SameBut C s'.heap h'->∀ tk,Inv X qp σ j { s' with heap:=h',toks:=tk })->(X.s₀.heap.objs.size <= C/\C ≠ X.env.locals/\(∀ x c,X.env.cells.lookup x=some c->c ≠ C)/\(∀ p ∈ X.pn ++ qp,p.1 ≠ C)/\j C=none)->compPost (model X.prog X.w) X.A X.xe use R (.ref acc) C (.ok .next) s') :
    wpAny (model X.prog X.w) X.A (eval iter X.env) (λx b0=>wpAny (model X.prog X.w) X.A (pyIter x) (λit b1=>wpAny (model X.prog X.w) X.A (newList []) (λacc b2=>
      wpAny (model X.prog X.w) X.A (newFunctionEnv scope X.env.globals (clF X.env scope.names []) [] X.env.qual none .none (some X.env)) (λan b3=>
        codeAny (model X.prog X.w) X.A (.compStart (.ListComp ah [⟨tg,iter,ae,0⟩,⟨a1,B,O,0⟩] scope pos) 0 it acc { an with scope:=relabel scope X.env }) (compPost (model X.prog X.w) X.A X.xe use R acc an.locals) b3) X.xe b2) X.xe b1) X.xe b0) X.xe s:=by
  refine thn (hi qp s σ H _ I h) λv s1 h1=>thn h1 λcq s2 h2=>?_
  obtain ⟨it,f,tn,J,U,rfl,I2,T,b4,f2,q⟩:=h2
  refine wpAny_newObj_type ?_
  have I3:Inv X qp σ (upd U s2.heap.objs.size (.lst [])) { s2 with heap:=s2.heap.push { cls:=.type "list",data:=.seq ([]:List Value).toArray },toks:=s2.toks }:=I2.lnew (ys:=[]) (its:=[]) .nil (zMT _)
  obtain ⟨W,⟨m0,w0⟩,turn⟩:=q s2.heap.objs.size I2.fresh
  have a2:=T.obj 0 _ b4
  have au:∀ b ∈ f,b ≠ s2.heap.objs.size:=λb k z=>by
    obtain ⟨o,ho,_⟩:=a2 b k
    exact Nat.lt_irrefl _ (Nat.lt_of_lt_of_eq (Heap.lt_size ho) z.symm)
  generalize e8:s2.heap.objs.size=acc at *
  generalize ba:({ s2 with heap:=s2.heap.push { cls:=.type "list",data:=.seq ([]:List Value).toArray } }:Shared)=a
  have I3:Inv X qp σ (upd U acc (.lst [])) a:=by rw [<- ba];exact I3
  have k3:∀ b o,s2.heap.get? b=some o->a.heap.get? b=some o:=λb o e=>by rw [<- ba];exact Heap.get?_push_of_some _ e
  have f3:∀ b ∈ f,uU X qp (upd U acc (.lst [])) b:=λb k=>⟨by rw [zK (au b k)];exact (f2 b k).1,(f2 b k).2⟩
  have o3:∀ b ∈ f,∃ o,a.heap.get? b=some o:=λb k=>let ⟨o,ho,_⟩:=a2 b k;⟨o,k3 b o ho⟩
  have cs:tn 0 a.heap:=T.keep _ _ _ b4 λb _ o e=>k3 b o e
  refine wpAny_newFunctionEnv S.nocell (by intro y hy;simp at hy) (λh1 bb bc=>?_) S.kind
  have a3:∀ b o,a.heap.get? b=some o->h1.get? b=some o:=λb o e=>bc.extBut b o (zNA (Heap.lt_size e)) (Heap.get?_push_of_some _ e)
  generalize bd:({ a with heap:=h1,toks:=a.toks + ([]:List (Str × Value)).length }:Shared)=s4
  have I4:Inv (cxC X xs ix scope a.heap.objs.size f a (upd U acc (.lst []))) [] (stC xs ix σ) (upd U acc (.lst [])) s4:=sG S I3 f3 o3 bb a3 bd.symm
  have be:tn 0 s4.heap:=T.keep _ _ _ cs λb _ o e=>by rw [<- bd];exact a3 b o e
  generalize t:cxC X xs ix scope a.heap.objs.size f a (upd U acc (.lst []))=l at *
  have hg:=hg a.heap.objs.size f a (upd U acc (.lst []))
  have ht:=ht a.heap.objs.size f a (upd U acc (.lst []))
  have he:=he a.heap.objs.size f a (upd U acc (.lst []))
  have af:=af a.heap.objs.size f a (upd U acc (.lst []))
  have ag:=ag a.heap.objs.size f a (upd U acc (.lst []))
  have ac:=ac a.heap.objs.size f a (upd U acc (.lst []))
  rw [t] at hg ht he af ag ac
  have eP:l.prog=X.prog:=by rw [<- t];rfl
  have ew:l.w=X.w:=by rw [<- t];rfl
  have eK:l.K=X.K:=by rw [<- t];rfl
  have eA:l.A=X.A:=by rw [<- t];rfl
  have ec:l.calm=true:=by rw [<- t];exact hc
  have ex:l.xe=λ_ _=>False:=by rw [<- t];rfl
  have a4:l.env=compEnvC scope (clF X.env scope.names []) a.heap.objs.size X.env:=by rw [<- t];rfl
  have ai:l.ex=f:=by rw [<- t];rfl
  have ct:l.fs=frs X.stack:=by rw [<- t];rfl
  have cu:l.pn=[]:=by rw [<- t];rfl
  have cv:l.H₀=upd U acc (.lst []):=by rw [<- t];rfl
  have bf:l.s₀=a:=by rw [<- t];rfl
  have Y:l.env.locals=a.heap.objs.size:=by rw [a4];rfl
  have a5:∀ {j:Hp},(∀ b ∈ f,j b=none)->∀ b ∈ f,uU l [] j b:=λ{j} hn b k=>by
    refine ⟨hn b k,?_,?_,.inl (by rw [ai];exact k),?_,?_⟩
    · rw [Y]
      intro z
      obtain ⟨o,ho⟩:=o3 b k
      exact Nat.lt_irrefl _ (Nat.lt_of_lt_of_eq (Heap.lt_size ho) z.symm)
    · exact I4.ok.exfs b (by rw [ai];exact k)
    · exact (I4.ok.exf b (by rw [ai];exact k)).2
    · rw [cu];intro p hp;exact absurd hp (by simp)
  have loop:codeAny (model X.prog X.w) X.A (.compLoop (.ListComp ah [⟨tg,iter,ae,0⟩,⟨a1,B,O,0⟩] scope pos) 0 (.ref it) (.ref acc) l.env) (compPost (model X.prog X.w) X.A X.xe use R (.ref acc) a.heap.objs.size) s4:=by
    refine zIM (λx=>cn _ x) (λn s'=>∃ i ys τ j,Inv l [] τ j s'/\tn i s'.heap/\(∀ b ∈ f,j b=none)/\W i n ys τ j) ?_ m0 ⟨0,[],_,_,I4,be,λb k=>(f3 b k).1,w0⟩
    rintro n s5 ⟨i,ys,τ,H5,I5,bg,bh,w5⟩
    rcases turn i n ys τ H5 w5 with ⟨stop,qn⟩ | ⟨go,N,hN,step⟩
    · have d:=T.done l eP ew eK ec i [] s5 τ H5 (λ_ _=>False) I5 (a5 bh) bg stop
      rw [eA] at d
      refine thn d λr s6 bi=>?_
      obtain ⟨hr,I6⟩:=bi
      subst hr
      obtain ⟨m,bj,_⟩:=id I6.loc
      rw [Y] at bj
      refine fin acc a.heap.objs.size H5 s6 m qn bj (λh' cw tk=>?_) ⟨I3.sz,Ne.symm (zNA I3.lt),λx c e z=>by
        obtain ⟨v,oc,cx,_⟩:=I3.cell x c e
        exact Nat.lt_irrefl _ (Nat.lt_of_lt_of_eq (Heap.lt_size cx) z.symm),λp hp z=>Nat.lt_irrefl _ (Nat.lt_of_lt_of_eq (Heap.lt_size (I3.pin p hp).1) z.symm),by have:=I6.free;rw [Y] at this;exact this⟩
      have same:∀ b,b ≠ a.heap.objs.size->h'.get? b=s6.heap.get? b:=λb k=>cw.2 b k
      have ub:=I6.base
      rw [ct,ai,cv,bf] at ub
      have av:∀ b o,a.heap.get? b=some o->b ≠ a.heap.objs.size:=λb o e=>zNA (Heap.lt_size e)
      have u:Un (frs X.stack) f (upd U acc (.lst [])) H5 a.heap h':=
        ⟨λb o e n1 n2 n3=>(same b (av b o e)).trans (ub.keep b o e n1 n2 n3),λb o e n1 n2 n3=>by
            obtain ⟨sl,z⟩:=ub.slot b o e n1 n2 n3
            exact ⟨sl,(same b (av b o e)).trans z⟩,ub.free,λb o e n3=>by
            obtain ⟨o',z⟩:=ub.there b o e n3
            exact ⟨o',(same b (av b o e)).trans z⟩,ub.tups,ub.frzs,ub.tbls⟩
      have fC:H5 a.heap.objs.size=none:=by have:=I6.free;rw [Y] at this;exact this
      have cy:HOk X.prog X.w H5 h':=λb o e=>by
        have z:=I6.hok b o e
        rw [eP,ew] at z
        refine z.stay (λc u hc q=>(same c ?_).trans q) (λ_ q=>q) λ_ _ q=>q
        intro zc
        rcases hc with q1 | q1
        · rw [<- q1,zc,fC] at e;cases e
        · rw [zc,fC] at q1;cases q1
      have cz:∀ b ∈ f,(b ∈ X.ex \/ X.s₀.heap.objs.size <= b)/\b ≠ X.env.locals/\(∀ x c,X.env.cells.lookup x=some c->c ≠ b)/\∀ p ∈ X.pn ++ qp,p.1 ≠ b:=λb k=>by
        obtain ⟨_,f1,_,g3,g4,g5⟩:=f3 b k
        exact ⟨g3,f1,g4,g5⟩
      have ho:s6.os=a.os:=by have:=I6.os;rw [bf] at this;exact this
      exact I3.call' (s':={ s6 with heap:=h',toks:=tk }) (ch:=f) ho u cy I6.bare cz
    · have d:=T.item l eP ew eK ec i [] s5 τ H5 (λ_ _=>False) I5 (a5 bh) bg go
      rw [eA] at d
      refine thn d λr s6 bk=>?_
      obtain ⟨u,hr,h6⟩:=bk
      subst hr
      refine thn h6 λ_ s7 bm=>?_
      obtain ⟨x,H7,I7,r7,y7,aw,d0⟩:=bm
      have d1:=I7.pinned (a5 d0) (T.obj _ _ aw)
      have dg:=hg _ s7 τ H7 x u _ d1 r7 (step x H7 y7)
      rw [eP,ew,eA,ex] at dg
      refine thn dg λ_ s8 bn=>?_
      obtain ⟨aj,H8,I8,q8⟩:=bn
      have dt:=ht _ s8 aj H8 _ I8 q8
      rw [eP,ew,eA,ex] at dt
      refine thn dt λok s9 bo=>?_
      obtain ⟨H9,I9,q9⟩:=bo
      have again:∀ {L:St} {j:Hp} {s':Shared},Inv l ([] ++ vZ f s7.heap) L j s'->Inv l [] L j s'/\tn (i + 1) s'.heap/\∀ b ∈ f,j b=none:=λ{L j s'} Ie=>by
        refine ⟨Ie.unpinned,T.keep _ _ _ aw λb k o e=>(Ie.pin (b,o) (zMX _ (zMX _ (wF k e)))).1,λb k=>?_⟩
        obtain ⟨o,e,_⟩:=T.obj _ _ aw b k
        exact (Ie.pin (b,o) (zMX _ (zMX _ (wF k e)))).2.1
      cases ok with
      | false=>
        rw [if_neg zNB] at q9 ⊢
        obtain ⟨m',hm,w9⟩:=hN _ _ _ q9
        obtain ⟨z1,z2,z3⟩:=again I9
        exact ⟨m',hm,i + 1,ys,aj,H9,z1,z2,z3,w9⟩
      | true=>
        rw [if_pos rfl] at q9 ⊢
        have de:=ac _ s9 aj H9 _ I9 q9
        rw [eP,ew,eA,ex] at de
        refine thn de λxv ed d3=>thn d3 λcq bp d4=>?_
        obtain ⟨d5,a6,bq,J2,da,rfl,db,T2,ao,br,W2,⟨m2,w2⟩,ax⟩:=d4
        rw [eP,ew,eK] at T2
        have M:∀ {j:Hp},(∀ b ∈ a6,j b=none)->∀ b ∈ a6,uU l ([] ++ vZ f s7.heap) j b:=λhn b k=>⟨hn b k,(br b k).2⟩
        have a7:codeAny (model X.prog X.w) X.A (.compLoop (.ListComp ah [⟨tg,iter,ae,0⟩,⟨a1,B,O,0⟩] scope pos) 1 (.ref d5) (.ref acc) l.env) (λr aa=>r=.ok .next/\∃ m,m < n/\∃ i ys τ j,Inv l [] τ j aa/\tn i aa.heap/\(∀ b ∈ f,j b=none)/\W i m ys τ j) bp:=by
          refine zLL (λn2 s'=>∃ i2 D bs j,Inv l ([] ++ vZ f s7.heap) bs j s'/\bq i2 s'.heap/\(∀ b ∈ a6,j b=none)/\W2 i2 n2 D bs j) ?_ m2 ⟨0,ys,aj,da,db,ao,λb k=>(br b k).1,w2⟩
          rintro n2 aa ⟨i2,D,E,ak,bt,aq,ar,dc⟩
          obtain ⟨ea,bu,bv⟩:=ax i2 n2 D E ak dc
          rcases bv with ⟨ay,dd⟩ | ⟨df,N2,bw,az⟩
          · have d2:=T2.done l eP ew eK ec i2 _ aa E ak (λ_ _=>False) bt (M ar) aq ay
            rw [eA] at d2
            refine thn d2 λr dh bx=>?_
            obtain ⟨hr,di⟩:=bx
            subst hr
            obtain ⟨m',hm,dj⟩:=hN _ _ _ dd
            obtain ⟨z1,z2,z3⟩:=again di
            exact ⟨rfl,m',hm,i + 1,D,E,ak,z1,z2,z3,dj⟩
          · have d2:=T2.item l eP ew eK ec i2 _ aa E ak (λ_ _=>False) bt (M ar) aq df
            rw [eA] at d2
            refine thn d2 λr dh bz=>?_
            obtain ⟨u2,hr,dk⟩:=bz
            subst hr
            refine thn dk λ_ c0 c1=>?_
            obtain ⟨x2,c2,dn,dp,dq,ab,c3⟩:=c1
            have c4:=dn.pinned (M c3) (T2.obj _ _ ab)
            have c5:=af _ c0 E c2 x2 u2 _ c4 dp (az x2 c2 dq)
            rw [eP,ew,eA,ex] at c5
            refine thn c5 λ_ dr c7=>?_
            obtain ⟨G,ds,du,dv⟩:=c7
            have ca:=ag _ dr G ds _ du dv
            rw [eP,ew,eA,ex] at ca
            refine thn ca λdw dx cb=>?_
            obtain ⟨cc,cd,al⟩:=cb
            have a0:∀ {L:St} {j:Hp} {s':Shared},Inv l (([] ++ vZ f s7.heap) ++ vZ a6 c0.heap) L j s'->Inv l ([] ++ vZ f s7.heap) L j s'/\bq (i2 + 1) s'.heap/\∀ b ∈ a6,j b=none:=λ{L j s'} Ie=>by
              refine ⟨Ie.unpinned,T2.keep _ _ _ ab λb k o e=>(Ie.pin (b,o) (zMX _ (zMX _ (wF k e)))).1,λb k=>?_⟩
              obtain ⟨o,e,_⟩:=T2.obj _ _ ab b k
              exact (Ie.pin (b,o) (zMX _ (zMX _ (wF k e)))).2.1
            cases dw with
            | false=>
              rw [if_neg zNB] at al ⊢
              obtain ⟨m',hm,dy⟩:=bw _ _ _ al
              obtain ⟨z1,z2,z3⟩:=a0 cd
              exact ⟨m',hm,i2 + 1,D,G,cc,z1,z2,z3,dy⟩
            | true=>
              rw [if_pos rfl] at al ⊢
              have cf:=he _ dx G cc _ cd al
              rw [eP,ew,eA,ex] at cf
              refine thn cf λyv dz cg=>?_
              obtain ⟨y,cj,e0,e1,ck,e2⟩:=cg
              obtain ⟨m',hm,e3⟩:=bw _ _ _ e2
              have dm:=xQ (X:=l) _ dz G cj (.ref acc) [y] (.ref acc) [yv] (λv j=>v=.non/\j=upd cj acc (.lst (D ++ [y]))) e0 rfl (.cons e1 .nil) ⟨acc,D,y,rfl,rfl,ck,bu,rfl,rfl⟩
              rw [eP,ew,eA,ex] at dm
              refine thn dm λ_ ee cl=>?_
              obtain ⟨_,ef,e5,_,_,e6⟩:=cl
              subst e6
              obtain ⟨z1,z2,z3⟩:=a0 e5
              exact ⟨m',hm,i2 + 1,D ++ [y],G,_,z1,z2,z3,e3⟩
        exact aQ a7 (T2.self X.A 0 bp _ (λ_ _=>False) ao a7)
  have e4:({ newEnv scope a.heap.objs.size X.env.globals (clF X.env scope.names []) X.env.qual none .none (some X.env) builtinsNs with scope:=relabel scope X.env }:Env)=l.env:=by rw [a4];rfl
  rw [a4] at loop
  have self:=T.self X.A 0 s4 (λe7 s'=>codeAny (model X.prog X.w) X.A (.compLoop (.ListComp ah [⟨tg,iter,ae,0⟩,⟨a1,B,O,0⟩] scope pos) 0 e7 (.ref acc) (compEnvC scope (clF X.env scope.names []) a.heap.objs.size X.env)) (compPost (model X.prog X.w) X.A X.xe use R (.ref acc) a.heap.objs.size) s')
    (notedBy (model X.prog X.w) X.A (compEnvC scope (clF X.env scope.names []) a.heap.objs.size X.env) λx s'=>compPost (model X.prog X.w) X.A X.xe use R (.ref acc) a.heap.objs.size (.error x) s') be loop
  exact codeAny_compStart_list loop self
theorem zHS (S:xO X xs ix scope) (A:X.calm=true) (B:PI X z iter D) (i:∀ C a s H,PI (cxC X xs ix scope C a s H) d b j)
  (E:∀ C a s H,PG (cxC X xs ix scope C a s H) z g) (G:∀ C a s H,PTs (cxC X xs ix scope C a s H) l J) (o:∀ C a s H,PG (cxC X xs ix scope C a s H) d g2) (p:∀ C a s H,PTs (cxC X xs ix scope C a s H) f r)
  (L:∀ C a s H,PE (cxC X xs ix scope C a s H) t M) (N:∀ x,foldedSetIterable iter X.env x=pure x:=by intro _;rfl) (u:∀ env x,foldedSetIterable b env x=pure x:=by intro _ _;rfl) :
  PE X (.ListComp t [⟨z,iter,l,0⟩,⟨d,b,f,0⟩] scope pos) (zG7 xs ix D g J j g2 r M):=by
 intro Y s σ H Q I h
 have v:∀ n,(n,NameKind.free) ∈ scope.names->(X.env.cells.lookup n).isSome=true:=λn w=>by
  obtain ⟨c,e⟩:=I.ok.has n (S.fre n w)
  rw [e];rfl
 rw [eval_ListComp]
 refine wpAny_comprehension_free (use:=none) rfl N (wX v) S.kind S.loc ?_
 refine zB8 S A B i u E G o p L I h λacc C O T m q w k _=>?_
 exact ⟨m,w,λU y=>⟨.ref acc,O,k U y T.toks,rfl,q⟩⟩
theorem zEB
  (w:sH N sc [x,y,z,u] ix scope) (A:PI X (.Tuple [.Name x B,.Name y py] D E) iter G) (e:∀ C a s H,PI (cxC X [x,y,z,u] ix scope C a s H) (.Tuple [.Name z I,.Name u J] f g) b h)
  (L:∀ C a s H,PTs (cxC X [x,y,z,u] ix scope C a s H) i M) (j:∀ C a s H,PTs (cxC X [x,y,z,u] ix scope C a s H) c k) (O:∀ C a s H,PE (cxC X [x,y,z,u] ix scope C a s H) l Q)
  (T:X.N=N:=by rfl) (m:X.env.scope=sc:=by rfl) (o:X.calm=true:=by rfl) (U:∀ x,foldedSetIterable iter X.env x=pure x:=by intro _;rfl) (p:∀ env x,foldedSetIterable b env x=pure x:=by intro _ _;rfl) :
  PE X (.ListComp l [⟨.Tuple [.Name x B,.Name y py] D E,iter,i,0⟩,⟨.Tuple [.Name z I,.Name u J] f g,b,c,0⟩] scope pos)
   (zG7 [x,y,z,u] ix G (bV X.K 2 (tZ (wA 0) (tZ (wA 1) bW))) M h (bV X.K 2 (tZ (wA 2) (tZ (wA 3) bW))) k Q):=by
 have S:=w.at (X:=X) T m
 have d:∀ n ∈ [x,y,z,u],∀ C a s H,(cxC X [x,y,z,u] ix scope C a s H).env.scope.names.lookup n=some .local:=λn Y _ _ _ _=>lookup_relabel_local (S.own n Y)
 have q:=d x (by simp)
 have r:=d y (by simp)
 have t:=d z (by simp)
 have v:=d u (by simp)
 exact zHS S o A e (λC a s H=>tL (X:=cxC X [x,y,z,u] ix scope C a s H) o (y3 (yI S.nd rfl (Or.inl (q C a s H)) (.inr (q C a s H))) (y3 (yI S.nd rfl (Or.inl (r C a s H)) (.inr (r C a s H))) uF))) L
  (λC a s H=>tL (X:=cxC X [x,y,z,u] ix scope C a s H) o (y3 (yI S.nd rfl (Or.inl (t C a s H)) (.inr (t C a s H))) (y3 (yI S.nd rfl (Or.inl (v C a s H)) (.inr (v C a s H))) uF))) j O U p
theorem zCC {K:W.Frag} {a acc:Addr} {its d:List V} {g:TG} {n:TE} {f:St} {o:Hp} {N:List V->St->Hp->Prop} (Pv:Nat->List V->St->Hp->Prop) (q:Pv 0 d f o) (h:∀ i ys b H,Pv i ys b H->H acc=some (.lst ys)/\ys.length < sizeLine/\SqL K H a its)
  (r:∀ i ys b H x,its[i]?=some x->Pv i ys b H->g x b H λc s=>n c s λy j=>j acc=some (.lst ys)/\Pv (i + 1) (ys ++ [y]) c (upd j acc (.lst (ys ++ [y])))) (hd:∀ ys b H,Pv its.length ys b H->N ys b H):INW (Itl K a) g sT n acc d f o N:=by
 refine ⟨λi m ys b H=>m=its.length - i/\i <= its.length/\Pv i ys b H,⟨its.length,by simp,zMT _,q⟩,?_⟩
 rintro i m ys b H ⟨rfl,B,p⟩
 obtain ⟨t,u,l⟩:=h i ys b H p
 refine ⟨t,u,?_⟩
 by_cases k:i < its.length
 ·refine .inr ⟨⟨its,its[i],l,by simp [k]⟩,Pv (i + 1),λv w z A=>⟨its.length - (i + 1),by omega,rfl,k,A⟩,λx z y=>?_⟩
  obtain ⟨e,y⟩:=y
  subst e
  exact oA (R:=λc _=>λy j=>j acc=some (.lst ys)/\Pv (i + 1) (ys ++ [y]) c (upd j acc (.lst (ys ++ [y])))) (r i ys b _ x (y its l) p)
 ·have e:i=its.length:=by omega
  subst e
  exact .inl ⟨⟨its,l,zMS _⟩,hd ys b H p⟩
theorem zB7 {K:W.Frag} {a acc:Addr} {k:Int} {its:List V} {xs:List Str} {ix:List Nat} {g g2:TG} {f:TT} {h:TI} {o:TE} {s:St} {H1:Hp} {Q:VK} (Pv:Nat->List V->St->Hp->Prop) (u:Pv 0 [] (stC xs ix s) (upd H1 acc (.lst []))) (w:∀ i ys d H,i <= its.length->Pv i ys d H->SqL K H a its)
  (z:∀ i ys d H x T,its[i]?=some x->Pv i ys d H->H T=none->g (.ref T) d (upd H T (.tup [.int (k + i),x])) λc j=>h c j λl n=>INW l g2 f o acc ys c n (Pv (i + 1))) (hd:∀ ys d H,Pv its.length ys d H->Q (.ref acc) H):zMI (Ite K a k) xs ix g sT h g2 f o s H1 acc Q:=by
 refine ⟨λi m ys d H=>m=its.length - i/\i <= its.length/\Pv i ys d H,⟨its.length,by simp,zMT _,u⟩,?_⟩
 rintro i m ys d H ⟨rfl,A,p⟩
 have q:=w i ys d H A p
 by_cases r:i < its.length
 ·refine .inr ⟨⟨its,its[i],q,by simp [r]⟩,Pv (i + 1),λB C D E=>⟨its.length - (i + 1),by omega,rfl,r,E⟩,λx D y=>?_⟩
  obtain ⟨T,v,rfl,G,rfl,y⟩:=y
  have e:(λc j=>sT c j λb t=>if b=true then h c t λl n=>INW l g2 f o acc ys c n (Pv (i + 1)) else Pv (i + 1) ys c t)=λc j=>h c j λl n=>INW l g2 f o acc ys c n (Pv (i + 1)):=by
   funext c j
   show (if true=true then h c j (λl n=>INW l g2 f o acc ys c n (Pv (i + 1))) else Pv (i + 1) ys c j)=_
   rw [if_pos rfl]
  rw [e]
  exact z i ys d H v T (y its q) p G
 ·have e:i=its.length:=by omega
  subst e
  exact .inl ⟨⟨its,q,zMS _⟩,hd ys d H p⟩
section
variable {X:Cx}
theorem iE (m:Gl X "enumerate") (o:X.mg "enumerate"=none) (r:PE X l t) (w:starEach [l] X.env=[(false,eval l X.env)]:=by rfl) :
  PI X (.Tuple j n L) (.Call (.Name "enumerate" p) [l] [] pos) (zLP X.K 0 t):=by
 intro y s z H R I h
 refine wpAny_Call_Name_kw (rG I m o (u:=.type "enumerate") rfl ?_)
 rw [w]
 refine PySem.callWith_type rfl (Calls.evalArgs_plain (Calls.spliced_cons (thn (r y s z H _ I h) λv c d=>?_)))
 obtain ⟨x,A,f,B,C⟩:=d
 refine Calls.spliced_nil ?_
 obtain ⟨a,rfl,⟨M,D⟩,q⟩:=C
 cases B
 obtain ⟨E,N,G,O⟩:=f.list D
 refine call_enumerate_list G.isList λQ k J _ g=>?_
 refine wpAny_pyIter_enum k ?_
 refine ⟨c.heap.objs.size + 1,[c.heap.objs.size + 1,c.heap.objs.size],_,_,A,rfl,f.kept (t':=c.toks) g,cK a (c.heap.objs.size + 1) c.heap.objs.size 0 (Nat.succ_ne_self _),⟨⟨.none,by simpa using k⟩,J⟩,λb i=>?_,q⟩
 have e:c.heap.objs.size <= b:=by
  rcases List.mem_cons.mp i with rfl | i
  ·exact Nat.le_succ _
  ·rw [zMM.mp i];exact zMS _
 exact f.fpOk e (f.hok.fresh e)
end
theorem cZ {X:Cx} {f g h b pos c:Pos}
  (j:X.N.Nodup) (k:X.N[i]?=some y) (hx:Loc X.env.scope y)
  (r:sH N sc [x,z] ix scope) (t:PI X (.Tuple [.Name x f,.Name z g] n h) iter u) (v:∀ C a s H,PTs (cxC X [x,z] ix scope C a s H) d w) (A:∀ C a s H,PE (cxC X [x,z] ix scope C a s H) e B)
  (D:X.N=N:=by rfl) (l:X.env.scope=sc:=by rfl) (o:X.calm=true:=by rfl)
  (m:swapsWith (.ListComp e [⟨.Tuple [.Name x f,.Name z g] n h,iter,d,0⟩] scope b) (some (.Name y c)) pos.line X.env=pure true:=by rfl)
  (E:X.fn y=true \/ X.env.scope.names.lookup y=some .local:=by first | exact .inl rfl | exact .inr rfl | assumption)
  (G:∀ x,foldedSetIterable iter X.env x=pure x:=by intro _;rfl) :
  PS X (.Assign [.Name y c] (.ListComp e [⟨.Tuple [.Name x f,.Name z g] n h,iter,d,0⟩] scope b) pos) (oE (tLC [x,z] ix u (bV X.K 2 (tZ (wA 0) (tZ (wA 1) bW))) w B) (wA i)):=by
 have S:=r.at (X:=X) D l
 have p:∀ C a s H,(cxC X [x,z] ix scope C a s H).env.scope.names.lookup x=some .local:=λ_ _ _ _=>lookup_relabel_local (S.own x (by simp))
 have q:∀ C a s H,(cxC X [x,z] ix scope C a s H).env.scope.names.lookup z=some .local:=λ_ _ _ _=>lookup_relabel_local (S.own z (by simp))
 exact iC j k hx S o t (λC a s H=>tL (X:=cxC X [x,z] ix scope C a s H) o (y3 (yI S.nd rfl (Or.inl (p C a s H)) (.inr (p C a s H))) (y3 (yI S.nd rfl (Or.inl (q C a s H)) (.inr (q C a s H))) uF))) v A m E G
end L2
namespace L2
open PySem PySem.Spec PyProof.Rows PySem.W
noncomputable def wT (val:Nat->Str):Nat->List Str
 | 0=>[]
 | i + 1=>if (wT val i).any (· == val i) then wT val i else wT val i ++ [val i]
theorem tE (val:Nat->Str) (i:Nat) (k:Str):(wT val (i + 1)).any (· == k)=((wT val i).any (· == k) || k == val i):=by
 show (if (wT val i).any (· == val i) then wT val i else wT val i ++ [val i]).any (· == k)=_
 by_cases h:(wT val i).any (· == val i)=true
 ·rw [if_pos h]
  by_cases b:k=val i
  ·subst b;rw [h];simp
  ·rw [show (k == val i)=false by simpa using b,Bool.or_false]
 ·rw [if_neg h,List.any_append]
  simp only [List.any_cons,List.any_nil,Bool.or_false]
  rw [Bool.beq_comm (a:=k)]
theorem tD (val:Nat->Str) (i:Nat):(wT val (i + 1)).length=if (wT val i).any (· == val i) then (wT val i).length else (wT val i).length + 1:=by
 show (if (wT val i).any (· == val i) then wT val i else wT val i ++ [val i]).length=_
 split <;> simp
theorem tP (val:Nat->Str):∀ i,(wT val i).length <= i
 | 0=>zMS _
 | i + 1=>by
  rw [tD]
  have:=tP val i
  split <;> omega
theorem o4:∀ n,(∀ i j,i < n->j < n->val i=val j->i=j)->(wT val n).length=n/\∀ k,(wT val n).any (· == k)=true->∃ i,i < n/\val i=k
 | 0,_=>⟨rfl,λk h=>by simp [wT] at h⟩
 | n + 1,h=>by
  obtain ⟨f,a⟩:=o4 n λi j b g e=>h i j (by omega) (by omega) e
  have no:(wT val n).any (· == val n)=false:=by
   cases c:(wT val n).any (· == val n) with
   | false=>rfl
   | true=>
    obtain ⟨i,b,e⟩:=a _ c
    have:=h i n (by omega) (by omega) e
    omega
  refine ⟨by rw [tD,no,f];rfl,λk d=>?_⟩
  rw [tE] at d
  rcases Bool.or_eq_true_iff.mp d with q | q
  ·obtain ⟨i,b,e⟩:=a k q
   exact ⟨i,by omega,e⟩
  ·exact ⟨n,by omega,by simpa using (beq_iff_eq.mp q).symm⟩
section
variable {prog:Program} {w:World} {A:Around} {R:Result->Shared->Prop} {I:Addr} {fp wr:List Addr} {G:Array GenState->Array GenState->Prop} {n:Nat} {P:Nat->Value->Prop} {St:Nat->Shared->Prop}
abbrev jI (prog:Program) (w:World) (h:Heap) (S:Addr) (val:Nat->Str) (i:Nat):Prop:=h.SetOf (PySem.strKind prog w) S (λk=>(wT val i).any (· == k)) (wT val i).length
theorem qO {h h':Heap} (x:jI prog w h S val i) (k:∀ o,h.get? S=some o->h'.get? S=some o):jI prog w h' S val i:=by
 obtain ⟨o,a,b,c,d,q⟩:=x
 exact ⟨o,a,b,c,k o d,q⟩
theorem cP (W:WalksS prog w A.in1 I fp wr G n P St) (S:Addr) (a:S ∉ fp) (val:Nat->Str) (c:∀ i v,P i v->∃ t,v=.str (val i) t) (g:n + 1 < scanBound):∀ k i s,n - i=k->i <= n->St i s->jI prog w s.heap S val i ->
  (∀ s',Moved (S :: wr) G s s'->jI prog w s'.heap S val n->R (.ok (.ret .none)) s')->codeAny (model prog w) A (.builtin "set.update.loop" ⟨[.ref S,.ref I],[]⟩) R s:=by
 have x:S ∉ wr:=λz=>a (W.sub _ z)
 have more:∀ b ∈ wr,b ∈ S :: wr:=λb z=>zMW _ z
 intro k
 induction k with
 | zero=>
  intro i s C D st h j
  obtain rfl:i=n:=by omega
  refine codeAny_builtin F.entry_set_update_loop ?_
  rw [Around.under_plainId F.plain_set_update_loop _]
  show wpAny _ A.in1 (pyNext (.ref I) >>= _) _ _ s
  exact wpAny_bind (W.done s _ _ st λs' d=>wpAny_pure (j s' (d.mono more) (qO h λo z=>d.heap S _ x z)))
 | succ k E=>
  intro i s C D st h j
  have lt:i < n:=by omega
  refine codeAny_builtin F.entry_set_update_loop ?_
  rw [Around.under_plainId F.plain_set_update_loop _]
  show wpAny _ A.in1 (pyNext (.ref I) >>= _) _ _ s
  refine wpAny_bind (W.item i s _ _ lt st λv s' H l d=>?_)
  obtain ⟨t,rfl⟩:=c i v H
  have m:jI prog w s'.heap S val i:=qO h λo z=>d.heap S _ x z
  have y:=tP val i
  show wpAny _ A.in1 (holding [Value.str (val i) t] (setAdd S (.str (val i) t)) >>= _) _ _ s'
  refine wpAny_bind (wpAny_holding ?_)
  unfold setAdd
  refine wpAny_holding (wpAny_bind ((PySem.strKind prog w).pyHash (k:=val i) (strKind_is _ _ _ _) (wpAny_setAddHashed_of (knd:=PySem.strKind prog w) (s:={ s' with toks:=s'.toks + 1 }) (strKind_is _ _ _ _) rfl m (by omega) λL f p=>?_)))
  have q:jI prog w L S val (i + 1):=SetOf_congr p (λN=>by rw [tE];rfl) (by rw [tD])
  refine wpAny_pure ⟨plainId_quiet F.plain_set_update_loop _,E (i + 1) _ (by omega) lt (W.frame _ s' _ _ l (Nat.le_succ _) λb g o e=>?_) q λM r u=>j M (Moved.trans W.gtrans ((d.mono more).then_heap (Nat.le_succ _) λb o g e=>?_) r) u⟩
  ·rw [f.2 b (λz:b=S=>a (by rw [<- z];exact g))];exact e
  ·rw [f.2 b (λz:b=S=>g (by rw [z];exact zNC))];exact e
end
section
variable {prog:Program} {w:World} {A:Around} {E:VSP} {s:Shared}
abbrev rE (led:Bool):Obj:={ cls:=.type "set",dict:=none,data:=.set #[] 0 (.fresh 0 0 led) }
theorem cQ (hh:A.handled=none) (hl:s.heap.IsList l items) (hv:∀ (i:Nat) (v:Value),items[i]?=some v->∃ t,v=.str (val i) t) (y:items.size + 1 < scanBound)
  (h:∀ (g:Heap) (z:Nat),jI prog w g s.heap.objs.size val items.size->(∀ b o,b < s.heap.objs.size->s.heap.get? b=some o->g.get? b=some o)->Q (.ref s.heap.objs.size) { s with heap:=g,toks:=z }) :
  wpAny (model prog w) A (call (.type "set") [.ref l]) Q E s:=by
 obtain ⟨c,tl,T⟩:=F.called_set.mro
 have C:=F.called_set.made
 have U:=F.called_set.sub
 refine wpAny_call (codeAny_of_tree ?_)
 show wpAny _ _ (callAny (.type "set") _) _ _ _
 refine wpAny_pure ⟨Code.quiet_builtin _ (by decide +kernel),codeAny_builtin F.entry_type_call ?_⟩
 rw [Around.under_plain (weight_type_call_type "set" [.ref l] []) rfl]
 have h1:=F.called_set.notType
 have h2:=F.called_set.canCreate
 have a3:=F.typeCall_set_1 (.ref l)
 repeat (any_goals (first | assumption | wp_step))
 refine codeAny_mono (code_set_new_1 (.ref l) (E:=E) (Q₁:=λobj s1=>∃ a:Bool,obj=.ref s.heap.objs.size/\s1 = { s with heap:=s.heap.push (rE a) }) λa=>⟨a,rfl,rfl⟩) λr s1 D=>?_
 cases r with
 | error e=>exact D
 | ok fl=>
  cases fl with
  | ret obj=>
   obtain ⟨a,rfl,rfl⟩:=D
   have gS:(s.heap.push (rE a)).get? s.heap.objs.size=some (rE a):=Heap.get?_push_size _ rfl
   have hT:Shared.TypeIs { s with heap:=s.heap.push (rE a) } (.ref s.heap.objs.size) "set":=⟨_,gS,rfl⟩
   have a4:=F.called_set.init.lookup
   have a5:=F.called_set.init.bind (.ref s.heap.objs.size)
   repeat (any_goals (first | assumption | wp_step))
   refine codeAny_mono (codeAny_call_builtin (R:=wants (λr s2=>r=.none/\∃ g z,s2 = { s with heap:=g,toks:=z }/\jI prog w g s.heap.objs.size val items.size/\(∀ b o,b < s.heap.objs.size->s.heap.get? b=some o->g.get? b=some o)) E)
    F.called_set.init.plain F.entry_set_init (check_set_init_1 hT ?_)) λr2 s2 f=>?_
   ·obtain ⟨⟨a0,j,G,d⟩,m,n,nl,p⟩:=hl
    simp only at n p
    subst n;subst p
    have q:(s.heap.push (rE a)).get? l=some { cls:=.type "list",dict:=j,data:=.seq items nl,slots:=d }:=Heap.get?_push_of_some _ m
    have a1:=F.sub_list_set
    have a2:=F.sub_list_frozenset
    have a6:(Value.type "list" == Value.type "dict")=false:=by decide
    have u:(s.heap.push (rE a)).IsList l items:=⟨_,q,rfl,nl,rfl⟩
    unfold Builtin.«set.__init__» noKeywords Builtin.Frozenset.updateFrom
    generalize I:pyIter=PI
    wp_walk
    subst I
    refine wpAny_pyIter_list u (wpAny_bind (wpAny_runValue ?_))
    have x:l < s.heap.objs.size:=Heap.lt_size m
    have J:(s.heap.push (rE a)).objs.size=s.heap.objs.size + 1:=Heap.size_push _ _
    refine cP ((Walks.list (A:=A.in1.in1.in1) (by simp [hh]) _ l (by rw [J];exact zNA (Nat.lt_succ_of_lt x)) items).toS) s.heap.objs.size (by rw [J];simp;exact Nat.ne_of_gt x) val hv y (items.size - 0) 0 _ (by omega) (zMT _) ⟨⟨_,Heap.get?_push_size _ rfl,rfl,rfl⟩,(u.push _)⟩ ?z0 ?zR
    case z0=>
     exact SetOf_congr ((setObjOf_fresh (knd:=PySem.strKind prog w) a).setOf (Heap.get?_push_of_some _ gS) (by unfold scanBound;omega)) (λ_=>rfl) rfl
    case zR=>
     intro s' B k
     obtain ⟨g,g',d',L,M⟩:=s'
     have eg:g'=s.gens:=B.gens
     have ed:d'=s.drawn:=B.drawn
     have eo:M=s.os:=B.os
     subst eg;subst ed;subst eo
     show wpAny _ _ _ _ _ _
     refine wpAny_pure ?_
     show wpAny _ _ (ret Value.none) _ _ _
     refine wpAny_pure ⟨rfl,g,L,rfl,k,λb o y e=>B.heap b o ?_ (Heap.get?_push_of_some _ (Heap.get?_push_of_some _ e))⟩
     rw [J];simp;exact ⟨zNA y,zNA (Nat.lt_succ_of_lt y)⟩
   ·cases r2 with
    | error e=>exact f
    | ok N=>
     cases N with
     | ret r=>
      obtain ⟨rfl,g,z,rfl,k,O⟩:=f
      repeat (any_goals (first | assumption | wp_step))
      exact h _ _ k O
     | _=>exact f.elim
  | _=>exact D.elim
end
noncomputable def pE (zs:List Str):Nat:=(wT (λi=>zs.getD i Str.empty) zs.length).length
theorem iQ {zs:List Str} (h:zs.Nodup):pE zs=zs.length:=by
 refine (o4 zs.length λi j a b q=>?_).1
 simp only [zMO,zMK a,zMK b,Option.getD_some] at q
 exact (List.getElem_inj h).mp q
noncomputable def zDP (P:Program) (w:World) (a:Addr) (zs:List Str):HO:=.ext λh=>jI P w h a (λi=>zs.getD i Str.empty) zs.length
section
variable {X:Cx}
theorem jS (r:StrsAre its zs):∀ (i:Nat) (v:Value),its.toArray[i]?=some v->∃ t,v=.str (zs.getD i Str.empty) t:=by
 induction r with
 | nil=>intro i v h;simp at h
 | cons x t r a=>
  intro i v h
  cases i with
  | zero=>simp at h;exact ⟨t,h.symm⟩
  | succ i=>simp at h;exact a i v (by simpa using h)
theorem aA (j:X.calm=true):vK X (.type "set") (λxs H Q=>∃ a zs,xs=[.ref a]/\H a=some (.lst (zs.map V.str))/\zs.length < 1000/\∀ p,H p=none->Q (.ref p) (upd H p (zDP X.prog X.w p zs))):=by
 intro B s C H xs D Q I r h
 obtain ⟨a,zs,rfl,l,E,q⟩:=h
 obtain ⟨u,rfl,m⟩:=tY r
 cases m
 obtain ⟨c,i,n,t⟩:=I.list (.of l)
 have e:=pO i
 have v:c.length=zs.length:=by have:=i.length;rw [zMJ] at this;exact this.symm
 have d:c.toArray.size=zs.length:=by rw [zMR];exact v
 refine cQ (I.ok.hd j) n.isList (jS e) (by rw [d];unfold scanBound;omega) λg y f old=>?_
 rw [d] at f
 have k:∀ b o,s.heap.get? b=some o->g.get? b=some o:=λb o z=>old b o (Heap.lt_size z) z
 refine ⟨.ref s.heap.objs.size,_,I.laid (t':=y) (h':=g) (o:=zDP X.prog X.w s.heap.objs.size zs) k (zMS _) ⟨f,?_,λL M x st=>qO x st⟩,rfl,q _ (I.hok.fresh (zMS _))⟩
 obtain ⟨o,_,_,_,A,_⟩:=f
 exact ⟨o,A⟩
theorem hI:vK X (.builtin "len") (λxs H Q=>∃ p zs,xs=[.ref p]/\H p=some (zDP X.prog X.w p zs)/\zs.length < 1000/\Q (.int (pE zs)) H):=by
 intro m s n H xs v Q I r h
 obtain ⟨p,zs,rfl,c,x,q⟩:=h
 obtain ⟨u,rfl,d⟩:=tY r
 cases d
 obtain ⟨e,_,_⟩:=I.hok p _ c
 obtain ⟨o,f,y,t,g,hex,hd,j,a,z,k,l⟩:=e
 have le:=tP (λi=>zs.getD i Str.empty) zs.length
 have b:f.size=pE zs:=l
 have A:pE zs <= zs.length:=le
 refine call_len_set g hex hd k (by rw [b];omega) ⟨.int (pE zs),H,I.tok _,⟨s.toks + 1,by rw [b]⟩,q⟩
section
variable {prog:Program} {w:World} {A:Around} {E:VSP} {s:Shared}
end
end
noncomputable def ltF:V->V->Bool
 | .int a,.int b=>decide (a < b)
 | .bl a,.bl b=>!a && b
 | .str a,.str b=>ltS a b
 | _,_=>false
inductive Kin:List V->List V->Prop
 | nil:Kin [] []
 | int {a b:Int} {xs ys:List V} (h:Kin xs ys):Kin (.int a :: xs) (.int b :: ys)
 | bl {a b:Bool} {xs ys:List V} (h:Kin xs ys):Kin (.bl a :: xs) (.bl b :: ys)
 | str {a b:Str} {xs ys:List V} (h:Kin xs ys):Kin (.str a :: xs) (.str b :: ys)
noncomputable def tR:List V->List V->Bool
 | a :: as,c :: b=>if eqV a c=true then tR as b else ltF a c
 | _,_=>false
theorem bJ (a c:V) (as b:List V):tR (a :: as) (c :: b)=if eqV a c=true then tR as b else ltF a c:=rfl
theorem Kin.len (h:Kin xs ys):xs.length=ys.length:=by
 induction h <;> simp_all
section
open PySem.SeqAt
open PySem.AutoSeq1 (wpAny_loadPart')
open PySem.MeetsSeq PySem.MeetsSeq2 PySem.MeetsSeq3
theorem cV (e:Kin (x :: xs) (y :: ys)) (c:yX x u) (d:yX y v) (A:Around) (s:Shared) (prog:Program) (w:World) (E:VSP) (Q:VSP) (h:Q (.bool (ltF x y)) s) :
  wpAny (model prog w) A (richCompare .Lt u v) Q E s:=by
 cases e with
 | int _=>obtain ⟨t,rfl⟩:=c;obtain ⟨f,rfl⟩:=d;exact (PyProof.Rows.lt_int h:wpAny (model prog w) A (compareOp .Lt _ _) Q E s)
 | str _=>obtain ⟨t,rfl⟩:=c;obtain ⟨f,rfl⟩:=d;exact (PyProof.Rows.lt_str h:wpAny (model prog w) A (compareOp .Lt _ _) Q E s)
 | @bl a b _ _ _=>
  cases c;cases d
  refine (PyProof.Rows.lt_bool ?_:wpAny (model prog w) A (compareOp .Lt (.bool a) (.bool b)) Q E s)
  cases a <;> cases b <;> exact h
theorem Kin.flat (h:Kin (x :: xs) (y :: ys)):xD x=true/\xD y=true/\Kin xs ys:=by
 cases h <;> exact ⟨rfl,rfl,by assumption⟩
theorem rO (l b:Addr) (items f:Array Value) (n n2:Nat) (dd L:Option Addr) (sl M:Array (Option Value)) (B C:List V) (hk:Kin B C) (hi:yO B items.toList) (hj:yO C f.toList) :
  Meets (Builtin.«tuple.__lt__» ⟨[.ref l,.ref b],[]⟩)
   (λ_ R s=>s.heap.get? l=some { cls:=.type "tuple",dict:=dd,data:=.seq items n,slots:=sl }/\s.heap.get? b=some { cls:=.type "tuple",dict:=L,data:=.seq f n2,slots:=M } /\
    R (.ok (.ret (.bool (tR B C)))) s):=
 .of_wp λo w A R s h=>by
  obtain ⟨G,g,d,H,os⟩:=s;obtain ⟨hl,hb,h⟩:=h
  have f2:=AutoSeq1.sub_tuple_tuple
  have z1:items.size=B.length:=by rw [hi.length];simp
  have z2:f.size=C.length:=by rw [hj.length];simp
  have zz:items.size=f.size:=by rw [z1,z2,hk.len]
  wp_walk using wpAny_loadPart' hl,wpAny_loadPart' hb,wpAny_forIn_list _ (λrest b N=>b.1=none/\N=⟨G,g,d,H,os⟩/\∃ I J i j,rest=I.zip J /\
   yO i I/\yO j J/\Kin i j/\R (.ok (.ret (.bool (tR i j)))) ⟨G,g,d,H,os⟩) _
  case turn=>
   rintro ⟨y,x⟩ rest b N ⟨q,rfl,I,J,i,j,k,r,v,m,p⟩
   cases r with
   | nil=>rw [List.zip_nil_left] at k;cases k
   | @cons a t as ts O D=>
    cases v with
    | nil=>rw [List.zip_nil_right] at k;cases k
    | @cons c u cs us Q E=>
     rw [List.zip_cons_cons] at k
     injection k with T z
     injection T with hy hx
     subst hy hx
     rw [bJ] at p
     obtain ⟨fa,fc,U⟩:=m.flat
     have he:SeqAt.EqAt A.in1 ⟨G,g,d,H,os⟩ _ _ (eqV a c):=fT O Q fa fc
     refine wpAny_bind (he o w _ _ ?_)
     cases e:eqV a c with
     | true=>
      rw [e,if_pos rfl] at p
      wp_walk
      exact ⟨rfl,rfl,_,_,_,_,z,D,E,U,p⟩
     | false=>
      rw [e,if_neg (by simp)] at p
      have Y:=cV m O Q A.in1 ⟨G,g,d,H,os⟩ o w
      wp_walk using Y
      exact ⟨_,rfl,by simpa using p⟩
  case fin=>
   rintro ⟨b1,b2⟩ N ⟨q,rfl,I,J,i,j,k,r,v,m,p⟩
   simp only at q
   subst q
   have hv:tR i j=decide (items.size < f.size):=by
    rw [zz,zMZ (Nat.lt_irrefl _)]
    cases r with
    | nil=>rfl
    | cons O hv=>
     cases v with
     | nil=>cases m
     | cons Q hw=>rw [List.zip_cons_cons] at k;cases k
   rw [hv] at p
   wp_walk
   exact ⟨_,rfl,by simpa [Builtin.Tuple.tupleCompareSizes] using p⟩
  case h=>
   exact ⟨rfl,rfl,items.toList,f.toList,B,C,rfl,hi,hj,hk,h⟩
end
section
variable {X:Cx}
def rLtK:R2:=λx y H Q=>∃ a b p q,x=.ref a/\y=.ref b/\H a=some (.tup p)/\H b=some (.tup q)/\Kin p q/\Q (.bl (tR p q)) H
theorem zH0 (r:X.A.units < cLine):OpR X (compareOp .Lt) rLtK:=by
 intro t s w H x y v u Q I z B h
 obtain ⟨a,b,p,q,rfl,rfl,C,D,E,k⟩:=h
 cases z
 cases B
 obtain ⟨g,G,J,_⟩:=I.tuple (.of C)
 obtain ⟨c,L,M,_⟩:=I.tuple (.of D)
 obtain ⟨⟨cls,N,data,O⟩,l,m,n,hd⟩:=id J
 obtain ⟨⟨o,i,data2,j⟩,d,e,n2,f⟩:=id M
 simp only at m hd e f
 subst m hd e f
 exact richCompare_meets_room (op:=.Lt) ⟨_,l,rfl⟩ ⟨_,d,rfl⟩ F.slot_tuple_lt F.entry_tuple_lt (F.args_tuple_lt_2 _ _) (rO a b g.toArray c.toArray n n2 N i O j _ _ E G L)
  ⟨l,d,(⟨(λx=>nomatch x),⟨.bl (tR p q),H,I,rfl,k⟩⟩:Value.bool (tR p q) ≠ Value.notImplemented/\EP X t w Q (.bool (tR p q)) s)⟩ r
end
section
variable {prog:Program} {w:World} {A:Around} {R:Result->Shared->Prop} {I:Addr} {fp wr:List Addr} {n:Nat} {P:Nat->Value->Prop} {St:Nat->Heap->Prop} {G:Heap->Prop} {bt:Nat->Nat->Bool} {S:Addr}
def zJA (prog:Program) (w:World) (A:Around) (G:Heap->Prop) (P:Nat->Value->Prop) (bt:Nat->Nat->Bool):Prop:=∀ i j a b s Q E,G s.heap->P i a->P j b->Q (.bool (bt i j)) s->wpAny (model prog w) A (richCompare .Lt a b) Q E s
def zI9 (G:Heap->Prop) (wr:List Addr) (S:Addr):Prop:=∀ h a:Heap,G h->(∀ b o,b ∉ wr->b ≠ S->h.get? b=some o->a.get? b=some o)->G a
theorem zEV (W:Walks prog w A.in1 I fp wr n P St) (B:zJA prog w A.in1 G P bt) (C:S ∉ fp) (O:zI9 G wr S) :
  ∀ k j s p c,n - (j + 1)=k->j + 1 <= n->St (j + 1) s.heap->G s.heap->P (argBest bt j) p->s.heap.get? S=some ⟨.type "list",none,.seq #[p,p] c,#[]⟩ ->
  (∀ v h' J,P (argBest bt (n - 1)) v->(∀ b o,b ∉ wr->b ≠ S->s.heap.get? b=some o->h'.get? b=some o)->R (.ok (.ret v)) ⟨h',s.gens,s.drawn,J,s.os⟩)->codeAny (model prog w) A (.builtin "min.loop" ⟨[.ref I,.none,.ref S],[]⟩) R s:=by
 have D:S ∉ wr:=λh=>C (W.sub _ h)
 have Q:(toString "min" ++ toString ".loop" : String)="min.loop":=by decide
 intro k;induction k with
 | zero=>
  intro j s p c hk hj t T q E L
  have H:j + 1=n:=by omega
  refine codeAny_builtin F.entry_min_loop ?_;rw [Around.under_plainId F.plain_min_loop _]
  refine wpAny_bind (m:=seqItems? (.ref S)) (wpAny_seqItems E rfl ?_)
  refine wpAny_bind (m:=tryCatch (pyNext (.ref I)) _) (wpAny_tryCatch (W.done s _ _ (H ▸ t) λh' J f=>?_))
  have g:=f S _ D E
  refine wpAny_bind (m:=updateSeq S (λ_=>#[])) (wpAny_updateSeq g rfl (wpAny_bind (wpAny_letGo (wpAny_pure ?_))))
  exact L p _ J (by rw [<- H];exact q) λb o a d e=>(Heap.get?_update_other _ _ (Ne.symm d)).trans (f b o a e)
 | succ k U=>
  intro j s p c hk hj t T q E L
  have u:j + 1 < n:=by omega
  refine codeAny_builtin F.entry_min_loop ?_;rw [Around.under_plainId F.plain_min_loop _]
  refine wpAny_bind (m:=seqItems? (.ref S)) (wpAny_seqItems E rfl ?_)
  refine wpAny_bind (m:=tryCatch (pyNext (.ref I)) _) (wpAny_tryCatch (W.item (j + 1) s _ _ u t λv h' J Y r f=>?_))
  have g:=f S _ D E
  have x:=O _ _ T λb o a _ e=>f b o a e
  refine wpAny_bind (m:=tryCatch (holding [v,v] (richCompare .Lt v p >>= _)) _) (wpAny_tryCatch (wpAny_holding (wpAny_bind (B (j + 1) (argBest bt j) v p _ _ _ x Y q ?_))))
  refine wpAny_bind (wpAny_holding (wpAny_truthy_bool (wpAny_bind (wpAny_letGo (wpAny_pure ?_)))))
  cases hb:bt (j + 1) (argBest bt j) with
  | true=>
   simp only [if_true]
   refine wpAny_bind (wpAny_updateSeq g rfl (wpAny_bind (wpAny_letGo ?_)));rw [Q]
   refine wpAny_pure ⟨plainId_quiet F.plain_min_loop _,U (j + 1) _ v _ (by omega) u (W.frame _ _ _ r λb M o e=>?_) (O _ _ x λb o _ d e=>?_) (by simp only [argBest,hb,if_true];exact Y) (Heap.get?_update_self _ g rfl) λN y i z l=>?_⟩
   ·exact (Heap.get?_update_other _ _ λh=>C (by rw [h];exact M)).trans e
   ·exact (Heap.get?_update_other _ _ (Ne.symm d)).trans e
   ·exact L N y i z λb o a d e=>l b o a d ((Heap.get?_update_other _ _ (Ne.symm d)).trans (f b o a e))
  | false=>
   simp only [Bool.false_eq_true,if_false]
   refine wpAny_bind (wpAny_letGo ?_);rw [Q]
   refine wpAny_pure ⟨plainId_quiet F.plain_min_loop _,U (j + 1) _ p c (by omega) u r x (by simp only [argBest,hb,Bool.false_eq_true,if_false];exact q) g λN y i z l=>?_⟩
   exact L N y i z λb o a d e=>l b o a d (f b o a e)
theorem fF (W:Walks prog w A.in1 I fp wr n P St) (i:zJA prog w A.in1 G P bt) (f:S ∉ fp) (q:zI9 G wr S) (B:0 < n) {s:Shared} (r:St 0 s.heap) (E:G s.heap) (C:s.heap.get? S=some ⟨.type "list",none,.seq #[] c,#[]⟩)
  (H:∀ v h' D,P (argBest bt (n - 1)) v->(∀ b o,b ∉ wr->b ≠ S->s.heap.get? b=some o->h'.get? b=some o)->R (.ok (.ret v)) ⟨h',s.gens,s.drawn,D,s.os⟩):codeAny (model prog w) A (.builtin "min.loop" ⟨[.ref I,.none,.ref S],[]⟩) R s:=by
 have t:S ∉ wr:=λh=>f (W.sub _ h)
 have J:(toString "min" ++ toString ".loop" : String)="min.loop":=by decide
 refine codeAny_builtin F.entry_min_loop ?_;rw [Around.under_plainId F.plain_min_loop _]
 refine wpAny_bind (m:=seqItems? (.ref S)) (wpAny_seqItems C rfl ?_)
 refine wpAny_bind (m:=tryCatch (pyNext (.ref I)) _) (wpAny_tryCatch (W.item 0 s _ _ B r λv h' D L j g=>?_))
 have k:=g S _ t C
 have u:=q _ _ E λb o a _ e=>g b o a e
 refine wpAny_bind (m:=updateSeq S (λ_=>#[v,v])) (wpAny_updateSeq k rfl ?_);rw [J]
 refine wpAny_pure ⟨plainId_quiet F.plain_min_loop _,zEV W i f q _ 0 _ v _ rfl B (W.frame _ _ _ j λb x o e=>?_) (q _ _ u λb o _ d e=>?_) L (Heap.get?_update_self _ k rfl) λM y l z p=>?_⟩
 ·exact (Heap.get?_update_other _ _ λh=>f (by rw [h];exact x)).trans e
 ·exact (Heap.get?_update_other _ _ (Ne.symm d)).trans e
 ·exact H M y l z λb o a d e=>p b o a d ((Heap.get?_update_other _ _ (Ne.symm d)).trans (g b o a e))
end
noncomputable def nR (a:List (List V)):Nat:=argBest (λi j=>tR (a.getD i []) (a.getD j [])) (a.length - 1)
section
variable {X:Cx}
theorem aB (T:X.calm=true) (hu:X.A.in1.units < cLine):vK X (.builtin "min") (λxs H Q=>∃ a f p,xs=[.ref a]/\H a=some (.lst (f.map V.ref))/\Paired (λq r=>H q=some (.tup r)) f p/\(∀ r ∈ p,∀ r' ∈ p,Kin r r')/\0 < f.length /\
  ∀ q,f[nR p]?=some q->Q (.ref q) H):=by
 intro qp s σ H xs us Q I r h
 obtain ⟨a,f,p,rfl,hA,U,hk,a0,q⟩:=h
 obtain ⟨u,rfl,rx⟩:=tY r
 cases rx
 obtain ⟨d,r',pl,aa⟩:=I.list (.of hA)
 have C:=kK r'
 subst C
 have lq:=zY U
 have a1:@LT.lt Nat instLTNat a s.heap.objs.size:=by obtain ⟨_,_,e,_⟩:=pl;exact Heap.lt_size e
 have get:∀ {f:List Addr} {p:List (List V)},Paired (λq r=>H q=some (.tup r)) f p->∀ i x,f[i]?=some x->H x=some (.tup (p.getD i []))/\p.getD i [] ∈ p:=by
  intro f p h
  induction h with
  | nil=>intro i x e;simp at e
  | cons c r ih=>
   intro i x e
   cases i with
   | zero=>simp at e;subst e;exact ⟨c,by simp⟩
   | succ i=>
    obtain ⟨e1,e2⟩:=ih i x (by simpa using e)
    exact ⟨e1,zMW _ e2⟩
 let G:Heap->Prop:=λh=>∀ i x,f[i]?=some x->∃ d n y B,h.get? x=some ⟨.type "tuple",y,.seq d n,B⟩/\yO (p.getD i []) d.toList/\@LT.lt Nat instLTNat x s.heap.objs.size
 have g0:G s.heap:=λi x e=>by
  obtain ⟨d,r1,p1,_⟩:=I.tuple (.of (get U i x e).1)
  obtain ⟨⟨cls,y,data,B⟩,ho,T,n,hd⟩:=id p1
  simp only at T hd
  subst T hd
  exact ⟨d.toArray,n,y,B,ho,r1,Heap.lt_size ho⟩
 have nm:(toString "min" ++ toString ".loop" : String)="min.loop":=by decide
 refine call_function_tree F.kind_min F.plain_min F.entry_min (F.args_min1 _) ?_
 refine wpAny_bind (m:=Builtin.Builtins.bindParams "min" ["key","default"] 0 ⟨[],[]⟩) (wpAny_of_eq (show _=pure [none,none] from rfl) (wpAny_bind (wpAny_pure ?_)))
 refine wpAny_bind (wpAny_pyIter_list pl.isList ?_)
 have lg:G (s.heap.push { cls:=.type "list_iterator",data:=.fields #[.ref a,.int 0 0] }):=λi x e=>by
  obtain ⟨d,n,y,B,D,t,E⟩:=g0 i x e
  exact ⟨d,n,y,B,Heap.get?_push_of_some _ D,t,E⟩
 have W:=Walks.list (prog:=X.prog) (w:=X.w) (A:=X.A.in1) (show X.A.in1.handled=none from I.ok.hd T) s.heap.objs.size a (zNA a1) (f.map Value.ref).toArray
 have a2:(s.heap.push { cls:=.type "list_iterator",data:=.fields #[.ref a,.int 0 0] }).IsListIter s.heap.objs.size a 0/\(s.heap.push { cls:=.type "list_iterator",data:=.fields #[.ref a,.int 0 0] }).IsList a (f.map Value.ref).toArray:=⟨⟨_,Heap.get?_push_size _ rfl,rfl,rfl⟩,pl.isList.push _⟩
 generalize J:(s.heap.push { cls:=.type "list_iterator",data:=.fields #[.ref a,.int 0 0] })=t at *
 have L:t.objs.size=s.heap.objs.size + 1:=by rw [<- J,size_push']
 have k2:∀ b o,s.heap.get? b=some o->t.get? b=some o:=λb o e=>by rw [<- J];exact Heap.get?_push_of_some _ e
 refine wpAny_bind (wpAny_newObj_type ?_)
 rw [nm]
 have a3:t.objs.size ∉ [s.heap.objs.size,a]:=by
  simp only [List.mem_cons,zND,or_false,not_or]
  exact ⟨by omega,by omega⟩
 have hG:zI9 G [s.heap.objs.size] t.objs.size:=λh h' g k i x e=>by
  obtain ⟨d,n,y,B,D,a4,E⟩:=g i x e
  exact ⟨d,n,y,B,k _ _ (by simp;exact zNA E) (zNA (by rw [L];exact Nat.lt_succ_of_lt E)) D,a4,E⟩
 have M:zJA X.prog X.w X.A.in1 G (λi v=>(f.map Value.ref).toArray[i]?=some v) (λi j=>tR (p.getD i []) (p.getD j [])):=by
  intro i j vi vj s' Q' E' g N O hq
  simp only [List.getElem?_toArray,zMP] at N O
  cases C:f[i]? with
  | none=>rw [C] at N;cases N
  | some xi=>
  cases Y:f[j]? with
  | none=>rw [Y] at O;cases O
  | some xj=>
  rw [C] at N
  rw [Y] at O
  cases N
  cases O
  obtain ⟨i1,n1,d1,s1,D,v1,_⟩:=g i xi C
  obtain ⟨i2,n2,d2,s2,t,v2,_⟩:=g j xj Y
  exact richCompare_meets_room (op:=.Lt) ⟨_,D,rfl⟩ ⟨_,t,rfl⟩ PySem.F.slot_tuple_lt PySem.F.entry_tuple_lt (PySem.F.args_tuple_lt_2 _ _) (rO xi xj i1 i2 n1 n2 d1 d2 s1 s2 _ _ (hk _ (get U i xi C).2 _ (get U j xj Y).2) v1 v2) ⟨D,t,⟨(λx=>nomatch x),hq⟩⟩ hu
 refine wpAny_pure ⟨plainId_quiet F.plain_min_loop _,fF (G:=G) W M a3 hG (by simpa using a0) (W.frame 0 t _ a2 λb _ o e=>Heap.get?_push_of_some _ e) (hG t _ lg λb o _ _ e=>Heap.get?_push_of_some _ e) (Heap.get?_push_size _ rfl) λv h' tk a5 a6=>?_⟩
 have l:(f.map Value.ref).toArray[nR p]?=some v:=by
  unfold nR
  rw [<- lq]
  simpa using a5
 simp only [List.getElem?_toArray,zMP] at l
 cases eb:f[nR p]? with
 | none=>rw [eb] at l;cases l
 | some x=>
 rw [eb] at l
 cases l
 refine ⟨.ref x,H,I.kept λb o e=>a6 b o ?_ ?_ (Heap.get?_push_of_some _ (k2 b o e)),rfl,q x eb⟩
 ·have z:=Heap.lt_size e
  simp;exact zNA z
 ·have z:=Heap.lt_size e
  exact zNA (by show @LT.lt Nat _ b t.objs.size;rw [L];exact Nat.lt_succ_of_lt z)
end
noncomputable def nmV (r:Str × List V):List V:=.str r.1 :: r.2
noncomputable def ltN (a b:Str × List V):Bool:=ltS a.1 b.1
def zDC (h:Heap) (v:Value) (z:Str):Prop:=∃ t o k u l,v=.ref t/\h.get? t=some o/\o.cls=.type "tuple"/\o.data=.seq (Value.str z u :: l).toArray k
def nY (h:Heap) (vs:List Value) (zs:List Str):Prop:=vs.length=zs.length/\∀ i,i < vs.length->zDC h (vs.getD i .none) (zs.getD i Str.empty)
theorem nY.keep {h h':Heap} (e:h.get? a=some (seqObj "list" u n)) (k:∀ b o,b ≠ a->h.get? b=some o->h'.get? b=some o) (x:nY h vs zs):nY h' vs zs:=by
 refine ⟨x.1,λi f=>?_⟩
 obtain ⟨t,o,j,g,l,m,c,d,p⟩:=x.2 i f
 refine ⟨t,o,j,g,l,m,k t o (λz=>?_) c,d,p⟩
 rw [z,e] at c
 cases c
 exact absurd d (by show ¬ (Value.type "list"=Value.type "tuple");decide)
section
variable {prog:Program} {w:World} {A:Around} {E:VSP} {s:Shared}
theorem zCA (h:C false s):∀ (l:List Value) (i:Nat),KatLex prog w A b false C (l.zip l) i s:=by
 intro l
 induction l with
 | nil=>exact λi=>kat_nil h
 | cons v l a=>exact λi=>kat_cons (SeqAt.EqAt.same v prog w _ _ (kat_yes (a (i + 1))))
theorem zC4 (hx:zDC s.heap x p) (f:zDC s.heap y q) (a:p=q->x=y) (h:C (ltS p q) s):wpAny (model prog w) A (keyLt' (tuples' true) x y) C E s:=by
 obtain ⟨t,o,j,i,l,rfl,b,_,c⟩:=hx
 obtain ⟨k,m,n,r,u,rfl,f2,_,g⟩:=f
 by_cases e:p=q
 ·have d:=a e
  injection d with d
  subst d
  refine kat_lt b c b c ?_
  rw [zMZ (Nat.lt_irrefl _)]
  rw [e,zBW] at h
  exact zCA h _ 0
 ·refine kat_lt b c f2 g ?_
  simp only [List.zip_cons_cons]
  refine kat_cons (eqBool_str ?_)
  rw [show (p == q)=false by simpa using e]
  exact kat_no (oneLt_str h)
theorem fK (x:nY s.heap vs zs) (k:0 < vs.length) (h:C (tuples' true) s):wpAny (model prog w) A (keyKind' vs.toArray) C E s:=by
 have key:∀ {vs:List Value},(∀ v ∈ vs,∃ z,zDC s.heap v z)->∃ b,KatTups s.heap vs b/\b.length=vs.length/\∀ v ∈ b,∃ z t,v=.str z t:=by
  intro vs
  induction vs with
  | nil=>exact λ_=>⟨[],KatTups.nil,rfl,λv a=>by cases a⟩
  | cons v vs m=>
   intro x
   obtain ⟨b,c,f,d⟩:=m λu n=>x u (zMW _ n)
   obtain ⟨z,t,o,j,p,l,rfl,q,r,y⟩:=x v zNC
   refine ⟨.str z p :: b,KatTups.cons q r y rfl c,by rw [zM4,zM4,f],λv a=>?_⟩
   rcases List.mem_cons.mp a with rfl | a
   ·exact ⟨_,_,rfl⟩
   ·exact d v a
 obtain ⟨b,c,f,d⟩:=key (vs:=vs) λv a=>by
  obtain ⟨i,g,e⟩:=List.getElem_of_mem a
  have z:=x.2 i g
  rw [zMO,zMK g,Option.getD_some,e] at z
  exact ⟨_,z⟩
 refine kat_kind (T:=.type "str") c (by omega) (λv a=>?_) rfl h
 obtain ⟨z,t,rfl⟩:=d v a
 exact Looks.of_pure rfl
theorem c8 {p:Array Nat} {zs:List Str} (d:p.size=n) (u:Up (λi j=>ltS (zs.getD i Str.empty) (zs.getD j Str.empty)) p n):Asc ltS (vB p zs Str.empty):=by
 refine List.pairwise_iff_getElem.mpr λi j a b c=>?_
 unfold vB at a b ⊢
 rw [zMJ,Array.length_toList] at a b
 have z:=u i j (Nat.le_of_lt c) (by omega)
 unfold leK gA at z
 simp only [zNI,Array.getElem?_eq_getElem a,Array.getElem?_eq_getElem b,Option.getD_some] at z
 simpa using z
theorem gQ {vs:List Value} (B:s.heap.get? a=some (seqObj "list" vs.toArray n)) (L:nY s.heap vs zs) (M:zs.Nodup) (N:vs.length < 64)
  (h:∀ p g c,p.Perm (List.range vs.length).toArray->Asc ltS (vB p zs Str.empty)->(∀ b o,b ≠ a->s.heap.get? b=some o->g.get? b=some o)->g.get? a=some (seqObj "list" (vB p vs .none).toArray c) ->
   P (.done (.ret .none)) { s with heap:=g }):wpAny (model prog w) A (Builtin.«list.sort» ⟨[.ref a],[]⟩) P E s:=by
 have f:vs.length <= sizeLine:=by rw [sizeLine_eq];omega
 obtain ⟨T,x⟩:∃ T,(s.heap.update a (Obj.mapSeq λ_=>(#[]:Array Value))).get? a=some (seqObj "list" #[] T):=⟨_,get?_update_seq B λ_=>#[]⟩
 rw [list_sort_plain]
 refine wpAny_bind (listItems_at B rfl (wpAny_bind (listUpdate_at B rfl (wpAny_bind (seqEpoch_at x rfl (wpAny_bind (wpAny_newTuple (wpAny_bind (wpAny_newList (wpAny_holding ?_) (zMT _))) f)))) (by rw [zMR];exact f) (zMT _))))
 obtain ⟨l,U⟩:∃ l,l=((s.heap.update a (Obj.mapSeq λ_=>(#[]:Array Value))).push (seqObj "tuple" vs.toArray 0)).push (seqObj "list" #[] 0):=⟨_,rfl⟩
 have d:l.get? a=some (seqObj "list" #[] T):=by rw [U];exact Heap.get?_push_of_some _ (Heap.get?_push_of_some _ x)
 have kp:∀ b o,b ≠ a->s.heap.get? b=some o->l.get? b=some o:=λb o D z=>by
  rw [U];exact Heap.get?_push_of_some _ (Heap.get?_push_of_some _ ((Heap.get?_update_ne _ _ _ _ D).trans z))
 show wpAny (model prog w) A _ P E { s with heap:=((s.heap.update a (Obj.mapSeq λ_=>(#[]:Array Value))).push (seqObj "tuple" vs.toArray 0)).push (seqObj "list" #[] 0) }
 rw [<- U]
 dsimp only
 have t:=L.keep B kp
 have fin:∀ st p,p.Perm (List.range vs.length).toArray->Asc ltS (vB p zs Str.empty)->(arrOf st).map (·.2)=(vB p vs .none).toArray->failedOf st=none ->
   P (.done (.ret .none)) { s with heap:=l.update a (Obj.mapSeq λ_=>(arrOf st).map (·.2)) }:=λst p hp ha ho _=>by
  rw [ho]
  exact h p _ _ hp ha (λb o D z=>(Heap.get?_update_ne _ _ _ _ D).trans (kp b o D z)) (get?_update_seq d λ_=>(vB p vs .none).toArray)
 by_cases u:vs.toArray.size < 2
 ·rw [if_pos u,if_pos u]
  refine wpAny_bind (wpAny_pure ?_)
  rw [StateT.run_pure]
  refine wpAny_bind (wpAny_pure ?_)
  dsimp only
  have Y:vs.length < 2:=by simpa using u
  have eo:(arrOf (SortSt.mk' general' (vs.toArray.zip vs.toArray) #[] 7 none)).map (·.2)=(vB (List.range vs.length).toArray vs .none).toArray:=by
   show (vs.toArray.zip vs.toArray).map (·.2)=_
   have lv:vs=[] \/ ∃ v,vs=[v]:=by
    cases vs with
    | nil=>exact .inl rfl
    | cons v r=>cases r with
     | nil=>exact .inr ⟨v,rfl⟩
     | cons _ _=>exact absurd Y (by simp)
   apply Array.toList_inj.mp
   rcases lv with rfl | ⟨v,rfl⟩
   ·simp [vB]
   ·simp [vB,List.range_succ]
  have z:=fin (SortSt.mk' general' (vs.toArray.zip vs.toArray) #[] 7 none) (List.range vs.length).toArray (.refl _) (by
   unfold vB
   refine List.pairwise_iff_getElem.mpr λi j H I a0=>?_
   simp at H I
   omega) eo rfl
  have sz:((arrOf (SortSt.mk' general' (vs.toArray.zip vs.toArray) #[] 7 none)).map (·.2)).size <= sizeLine:=by
   rw [eo];show (vB _ _ _).length <= _;unfold vB;simp;exact f
  refine wpAny_bind (seqEpoch_at d rfl (wpAny_bind (listUpdate_at d rfl ?_ (zMT _) (Nat.le_succ_of_le sz))))
  simp only [bne_self_eq_false,Bool.false_eq_true,if_false]
  exact wpAny_pure z
 ·rw [if_neg u,if_neg u]
  have Y:2 <= vs.length:=by simpa using u
  let lt:Nat->Nat->Bool:=λi j=>ltS (zs.getD i Str.empty) (zs.getD j Str.empty)
  have O:LtO lt:=⟨λi j q=>zBX q,λi j k q1 q2=>dQ q1 q2⟩
  obtain ⟨pp,up⟩:=zDL O (n:=vs.length) (by omega)
  have y:(evK lt (kas_sort vs.length)).size=vs.length:=by rw [pp.size_eq];simp
  refine wpAny_bind (fK (s:={ s with heap:=l }) t (by omega) ?_)
  refine wpAny_bind (wpAny_mono (kat_run (κ:=tuples' true) (ks:=vs) (vs:=vs) (G:=λp m=>p=evK lt (kas_sort vs.length)/\m = { s with heap:=l })
   (Q:=λst m=>(arrOf st).map (·.2)=(vB (evK lt (kas_sort vs.length)) vs .none).toArray/\failedOf st=none/\m = { s with heap:=l }) rfl Y N (λp st m _ J b3 b4=>⟨by rw [<- b4.1];exact kat_snds rfl J,b3,b4.2⟩) ?_) ?_ λ_ _ z=>z)
  ·refine zJB (lt:=lt) (Pq:=λm=>m = { s with heap:=l }) (λi j C m H I hs hC=>?_) _ (zDK (by omega)) _ rfl λm hs=>⟨rfl,hs⟩
   subst hs
   refine zC4 (t.2 i H) (t.2 j I) (λe=>?_) (hC _ rfl)
   have li:i < zs.length:=by rw [<- L.1];exact H
   have lj:j < zs.length:=by rw [<- L.1];exact I
   simp only [zMO,zMK li,zMK lj,Option.getD_some] at e
   rw [(List.getElem_inj M).mp e]
  ·rintro ⟨⟨⟩,st⟩ m ⟨b1,J,rfl⟩
   dsimp only
   have sz:((arrOf st).map (·.2)).size <= sizeLine:=by
    rw [b1];show (vB _ _ _).length <= _;unfold vB;rw [zMJ,Array.length_toList,y];exact f
   refine wpAny_bind (seqEpoch_at d rfl (wpAny_bind (listUpdate_at d rfl ?_ (zMT _) (Nat.le_succ_of_le sz))))
   rw [J]
   simp only [bne_self_eq_false,Bool.false_eq_true,if_false]
   exact wpAny_pure (fin st _ pp (c8 y up) b1 J)
end
section
variable {X:Cx} {qp:LAO} {σ:St} {H:Hp} {s:Shared}
theorem zBQ (I:Inv X qp σ H s) {a:List (Str × List V)} (h:Paired (λq r=>H q=some (.tup r)) b (a.map nmV)):nY s.heap (b.map Value.ref) (a.map (·.1)):=by
 have le:=zY h
 rw [zMJ] at le
 refine ⟨by simp [le],?_⟩
 have get:∀ {b:List Addr} {a:List (Str × List V)},Paired (λq r=>H q=some (.tup r)) b (a.map nmV)->∀ i,i < b.length->zDC s.heap ((b.map Value.ref).getD i .none) ((a.map (·.1)).getD i Str.empty):=by
  intro b
  induction b with
  | nil=>intro a _ i c;exact absurd c (Nat.not_lt_zero _)
  | cons q b e=>
   intro a h i c
   cases a with
   | nil=>cases h
   | cons r a=>
    cases h with
    | cons f g=>
    cases i with
    | succ i=>exact e g i (by simpa using c)
    | zero=>
     obtain ⟨j,d,k,_⟩:=I.tuple (.of f)
     obtain ⟨o,l,m,n,hd⟩:=k
     cases d with
     | cons d t=>
     obtain ⟨p,rfl⟩:=d
     exact ⟨q,o,n,p,_,rfl,l,m,hd⟩
 intro i c
 exact get h i (by simpa using c)
theorem jE:vK X (.builtin "sorted") (λxs H Q=>∃ a d e,xs=[.ref a]/\H a=some (.lst (d.map V.ref))/\Paired (λq r=>H q=some (.tup r)) d (e.map nmV)/\(e.map (·.1)).Nodup/\e.length < 64 /\
  ∀ l w k,H l=none->k.Perm e->Asc ltN k->Paired (λq r=>H q=some (.tup r)) w (k.map nmV)->Q (.ref l) (upd H l (.lst (w.map V.ref)))):=by
 intro qp s σ H xs us Q I r h
 obtain ⟨a,d,e,rfl,hA,A,B,hz,q⟩:=h
 obtain ⟨u,rfl,rx⟩:=tY r
 cases rx
 obtain ⟨a0,r',pl,a1⟩:=I.list (.of hA)
 have ei:=kK r'
 subst ei
 have L:d.length=e.length:=by have:=zY A;rwa [zMJ] at this
 have lv:(d.map Value.ref).length < 64:=by rw [zMJ];omega
 refine Calls.call_function_entry kind_sorted plain_sorted entry_sorted (args_sorted1 _) ?_
 unfold Builtin.«sorted»
 refine wpAny_bind (m:=checkCount "sorted" 1 1 _) (wpAny_pure (wpAny_bind (collect_list pl.isList (wpAny_bind (wpAny_newList ?_ (by rw [sizeLine_eq];omega))) (by rw [sizeLine_eq];omega))))
 obtain ⟨v,C⟩:∃ v,v=(s.heap.push (seqObj "list" #[] 0)).update s.heap.objs.size (Obj.mapSeq (· ++ (d.map Value.ref).toArray)):=⟨_,rfl⟩
 have M:v.objs.size=s.heap.objs.size + 1:=by rw [C,Heap.size_update,size_push']
 have N:∀ b o,s.heap.get? b=some o->(v.push (seqObj "list" (d.map Value.ref).toArray 0)).get? b=some o:=λb o z=>by
  have D:b < s.heap.objs.size:=Heap.lt_size z
  refine Heap.get?_push_of_some _ ?_
  rw [C,Heap.get?_update_ne _ _ _ _ (zNA D)]
  exact Heap.get?_push_of_some _ z
 have O:(v.push (seqObj "list" (d.map Value.ref).toArray 0)).get? (s.heap.objs.size + 1)=some (seqObj "list" (d.map Value.ref).toArray 0):=by
  rw [<- M];exact Heap.get?_push_size _ rfl
 show wpAny _ _ _ _ _ { s with heap:=((s.heap.push (seqObj "list" #[] 0)).update s.heap.objs.size (Obj.mapSeq (· ++ (d.map Value.ref).toArray))).push (seqObj "list" (d.map Value.ref).toArray 0) }
 rw [<- C,M]
 have E:nY (v.push (seqObj "list" (d.map Value.ref).toArray 0)) (d.map Value.ref) (e.map (·.1)):=by
  obtain ⟨G,J⟩:=zBQ I A
  refine ⟨G,λi x=>?_⟩
  obtain ⟨t,o,j,t1,l,G,J,e3,e4⟩:=J i x
  exact ⟨t,o,j,t1,l,G,N t o J,e3,e4⟩
 refine wpAny_bind (wpAny_holding (wpAny_call_entry slot_list_sort ⟨_,O,rfl⟩ entry_list_sort (gQ O E B lv λp g c y T b3 U=>⟨_,rfl,?_⟩) (args_list_sort _)))
 refine wpAny_pure ⟨_,rfl,?_⟩
 rw [zMJ] at y
 have n:∀ i ∈ p.toList,i < d.length:=λi x=>by
  have:=(Array.perm_iff_toList_perm.mp y).mem_iff.mp x
  simpa using this
 have f:∀ i ∈ p.toList,i < e.length:=λi x=>by rw [<- L];exact n i x
 have Y:=iH A p n
 have er:vB p (e.map nmV) []=(vB p e (Str.empty,[])).map nmV:=oU nmV p e _ _ f
 rw [er] at Y
 have en:vB p (e.map (·.1)) Str.empty=(vB p e (Str.empty,[])).map (·.1):=oU (·.1) p e _ _ f
 rw [en] at T
 have ev:vB p (d.map Value.ref) .none=(vB p d 0).map Value.ref:=oU Value.ref p d _ _ n
 rw [ev] at U
 have old:∀ b o,s.heap.get? b=some o->g.get? b=some o:=λb o z=>b3 b o (zNA (Nat.lt_succ_of_lt (Heap.lt_size z))) (N b o z)
 refine ⟨.ref (s.heap.objs.size + 1),_,I.laid (t':=s.toks) (h':=g) (o:=.lst ((vB p d 0).map V.ref)) old (Nat.le_succ _) ?_,rfl,q _ _ _ (I.hok.fresh (Nat.le_succ _)) (c6 _ (by rw [<- L];exact y)) (List.pairwise_map.mp T) Y⟩
 refine ⟨?_,_,c,mP _,U⟩
 unfold vB
 rw [zMJ,zMJ,Array.length_toList,y.size_eq]
 simp
 rw [sizeLine_eq];omega
end
end L2
namespace L2
open PySem PySem.Spec PyProof.Rows
theorem zFB (J:Nat->Shared->Prop)
  (turn:∀ n s,J n s->wpAny (model prog w) A (pyNext d) (λr g=>match r with
   | none=>R (.ok .next) g
   | some v=>wpAny (model prog w) A (letOwnedTupleGo target d v) (λ_ a=>wpAny (model prog w) A (assign target env v) (λ_ l=>
     wpAny (model prog w) A (forIn b true λc r=>if r=true then do let ok <- isTrue c env (eval c env);pure (ForInStep.yield ok) else pure (ForInStep.yield r)) (λok i=>
      if ok=true then wpAny (model prog w) A (eval o env) (λy p=>wpAny (model prog w) A (eval q env) (λx t=>
       wpAny (model prog w) A (dictSet D y x) (λ_ u=>∃ m,m < n/\J m u) (λ_ _=>False) t) (λ_ _=>False) p) (λ_ _=>False) i
      else ∃ m,m < n/\J m i) (λ_ _=>False) l) (λ_ _=>False) a) (λ_ _=>False) g) (λ_ _=>False) s)
  (n:Nat) (h:J n s):codeAny (model prog w) A (.compLoop (.DictComp o q [⟨target,iter,b,0⟩] scope pos) 0 d (.ref D) env) R s:=by
 refine codeAny_loop rfl J (λn s C=>?_) n h
 have nof:∀ e j,False->notedBy (model prog w) A env (λe j=>R (.error e) j) e j:=λ_ _ f=>f.elim
 show wpAny (model prog w) A ((compTurn (.DictComp o q [⟨target,iter,b,0⟩] scope pos) 0 d (.ref D) env).onRaise (λx=>do noteFrame x env;theTreesLotGoes x)) _ _ s
 refine wpAny_noted ?_
 rw [compTurn_dict]
 refine wpAny_bind (wpAny_standAt (wpAny_bind (wpAny_mono (turn n s C) (λr g z=>?_) nof)))
 cases r with
 | none=>exact wpAny_pure z
 | some v=>
  refine wpAny_bind (wpAny_mono z (λ_ a k=>?_) nof)
  refine wpAny_bind (wpAny_mono k (λ_ l E=>?_) nof)
  refine wpAny_bind (wpAny_mono E (λok i B=>?_) nof)
  cases ok with
  | false=>exact wpAny_pure ⟨rfl,B⟩
  | true=>
   refine wpAny_bind (wpAny_bind (wpAny_mono B (λy p G=>?_) nof))
   refine wpAny_bind (wpAny_holding (wpAny_mono G (λx t H=>?_) nof))
   exact wpAny_bind (wpAny_standAt (wpAny_holding (wpAny_mono H (λ_ u I=>wpAny_pure ⟨rfl,I⟩) nof)))
def DCW (J:It) (xs:List Str) (ix:List Nat) (g:TG) (o:TT) (ty p:TE) (q:St) (H1:Hp) (acc:Addr) (Q:VK):Prop:=
 ∃ W:Nat->Nat->List (Key × V)->St->Hp->Prop,(∃ m,W 0 m [] (stC xs ix q) (upd H1 acc (.dK []))) /\
  ∀ i m c h H,W i m c h H->H acc=some (.dK c)/\c.length < sizeLine /\
   ((J.stop i H/\Q (.ref acc) H) \/ (J.go i H/\∃ N:List (Key × V)->St->Hp->Prop,(∀ d e f,N d e f->∃ j,j < m/\W (i + 1) j d e f) /\
    ∀ x f,J.yld i H x f->g x h f λa r=>o a r λb l=>
    if b=true then ty a l λz s=>p a s λy n=>∃ k,z=kV k/\n acc=some (.dK c)/\N (vU c k y) a (upd n acc (.dK (vU c k y))) else N c a l))
def tDC (xs:List Str) (ix:List Nat) (c:TI) (g:TG) (d:TT) (ty e:TE):TE:=λa H Q=>c a H λJ b=>∀ acc,b acc=none->DCW J xs ix g d ty e a b acc Q
theorem b7 (I:Inv X d f H s) (e:H a=some (.dK b)) (l:b.length < sizeLine) (g:yX (kV k) u) (i:yX v r)
  (h:∀ s',Inv X d f (upd H a (.dK (vU b k v))) s'->Q () s'):wpAny (model X.prog X.w) A (dictSet a u r) Q E s:=by
 obtain ⟨z,hd,j,rel,m⟩:=zCR I.hok e
 have n:j.length <= sizeLine:=by rw [<- rel.length];exact z
 have o:(vU b k v).length <= sizeLine:=by have:=uW b k v;omega
 refine wpAny_dictSet_pairs (hsz:=n) (o8 g) m λy c t=>h _ (p8 I (by rw [e];exact True.intro) t ?_ (fV o hd (rel.put k i) c))
 obtain ⟨q,_,_,x,_⟩:=c
 exact ⟨q,x⟩
theorem zCV
    (S:xO X xs ix scope) (ac:∀ Y:Cx,Y.K=X.K->Y.calm=X.calm->Y.A.handled=X.A.handled->Reg Y) (hi:PIG Reg X tg iter wi)
    (hg:∀ C l s H,PG (cxC X xs ix scope C l s H) tg g) (ht:∀ C l s H,PTs (cxC X xs ix scope C l s H) a5 tt) (hy:∀ C l s H,PE (cxC X xs ix scope C l s H) kx ty) (he:∀ C l s H,PE (cxC X xs ix scope C l s H) vx te)
 (I:Inv X qp σ H s) (h:tDC xs ix wi g tt ty te σ H Q)
    (fin:∀ acc C D s' m,Q (.ref acc) D->s'.heap.Ns C m->(∀ h',Heap.SameBut C s'.heap h'->∀ tk,Inv X qp σ D { s' with heap:=h',toks:=tk })->(X.s₀.heap.objs.size <= C/\C ≠ X.env.locals/\(∀ x c,X.env.cells.lookup x=some c->c ≠ C)/\(∀ p ∈ X.pn ++ qp,p.1 ≠ C)/\D C=none)->compPost (model X.prog X.w) X.A X.xe use R (.ref acc) C (.ok .next) s') :
    wpAny (model X.prog X.w) X.A (eval iter X.env) (λx ae=>wpAny (model X.prog X.w) X.A (pyIter x) (λit af=>wpAny (model X.prog X.w) X.A newDict (λacc ag=>
      wpAny (model X.prog X.w) X.A (newFunctionEnv scope X.env.globals (clF X.env scope.names []) [] X.env.qual none .none (some X.env)) (λa4 ah=>
        codeAny (model X.prog X.w) X.A (.compStart (.DictComp kx vx [⟨tg,iter,a5,0⟩] scope pos) 0 it acc { a4 with scope:=relabel scope X.env }) (compPost (model X.prog X.w) X.A X.xe use R acc a4.locals) ah) X.xe ag) X.xe af) X.xe ae) X.xe s:=by
  refine thn (hi qp s σ H _ I h) λv s1 h1=>thn h1 λbz L h2=>?_
  obtain ⟨it,l,tn,J,M,rfl,I2,T,ai,f2,q⟩:=h2
  refine wpAny_newObj_type ?_
  have I3:Inv X qp σ (upd M L.heap.objs.size (.dK [])) { L with heap:=L.heap.push { cls:=.type "dict",data:=.dict #[] },toks:=L.toks }:=I2.laid (a:=L.heap.objs.size) (o:=.dK []) (t':=L.toks) (λ_ _ q=>Heap.get?_push_of_some _ q) (zMS _) (nF L.heap I2.big)
  obtain ⟨W,⟨m0,w0⟩,turn⟩:=q L.heap.objs.size I2.fresh
  have O:=T.obj 0 _ ai
  have a6:∀ b ∈ l,b ≠ L.heap.objs.size:=λb t z=>by
    obtain ⟨o,ho,_⟩:=O b t
    exact Nat.lt_irrefl _ (Nat.lt_of_lt_of_eq (Heap.lt_size ho) z.symm)
  generalize bx:L.heap.objs.size=acc at *
  generalize aj:({ L with heap:=L.heap.push { cls:=.type "dict",data:=.dict #[] } }:Shared)=f
  have I3:Inv X qp σ (upd M acc (.dK [])) f:=by rw [<- aj];exact I3
  have k3:∀ b o,L.heap.get? b=some o->f.heap.get? b=some o:=λb o e=>by rw [<- aj];exact Heap.get?_push_of_some _ e
  have f3:∀ b ∈ l,uU X qp (upd M acc (.dK [])) b:=λb t=>⟨by rw [zK (a6 b t)];exact (f2 b t).1,(f2 b t).2⟩
  have o3:∀ b ∈ l,∃ o,f.heap.get? b=some o:=λb t=>let ⟨o,ho,_⟩:=O b t;⟨o,k3 b o ho⟩
  have b4:tn 0 f.heap:=T.keep _ _ _ ai λb _ o e=>k3 b o e
  refine wpAny_newFunctionEnv S.nocell (by intro y hy;simp at hy) (λh1 ak al=>?_) S.kind
  have U:∀ b o,f.heap.get? b=some o->h1.get? b=some o:=λb o e=>al.extBut b o (zNA (Heap.lt_size e)) (Heap.get?_push_of_some _ e)
  generalize an:({ f with heap:=h1,toks:=f.toks + ([]:List (Str × Value)).length }:Shared)=s4
  have I4:Inv (cxC X xs ix scope f.heap.objs.size l f (upd M acc (.dK []))) [] (stC xs ix σ) (upd M acc (.dK [])) s4:=sG S I3 f3 o3 ak U an.symm
  have ao:tn 0 s4.heap:=T.keep _ _ _ b4 λb _ o e=>by rw [<- an];exact U b o e
  generalize j:cxC X xs ix scope f.heap.objs.size l f (upd M acc (.dK []))=B at *
  have hg:=hg f.heap.objs.size l f (upd M acc (.dK []))
  have ht:=ht f.heap.objs.size l f (upd M acc (.dK []))
  have he:=he f.heap.objs.size l f (upd M acc (.dK []))
  have hy:=hy f.heap.objs.size l f (upd M acc (.dK []))
  rw [j] at hg ht he hy
  have eP:B.prog=X.prog:=by rw [<- j];rfl
  have ew:B.w=X.w:=by rw [<- j];rfl
  have eK:B.K=X.K:=by rw [<- j];rfl
  have eA:B.A=X.A:=by rw [<- j];rfl
  have ec:Reg B:=ac B eK (by rw [<- j];rfl) (by rw [<- j];rfl)
  have ex:B.xe=λ_ _=>False:=by rw [<- j];rfl
  have a0:B.env=compEnvC scope (clF X.env scope.names []) f.heap.objs.size X.env:=by rw [<- j];rfl
  have a3:B.ex=l:=by rw [<- j];rfl
  have ba:B.fs=frs X.stack:=by rw [<- j];rfl
  have bb:B.pn=[]:=by rw [<- j];rfl
  have bc:B.H₀=upd M acc (.dK []):=by rw [<- j];rfl
  have aq:B.s₀=f:=by rw [<- j];rfl
  have G:B.env.locals=f.heap.objs.size:=by rw [a0];rfl
  have a1:∀ {D:Hp},(∀ b ∈ l,D b=none)->∀ b ∈ l,uU B [] D b:=λ{D} hn b t=>by
    refine ⟨hn b t,?_,?_,.inl (by rw [a3];exact t),?_,?_⟩
    · rw [G]
      intro z
      obtain ⟨o,ho⟩:=o3 b t
      exact Nat.lt_irrefl _ (Nat.lt_of_lt_of_eq (Heap.lt_size ho) z.symm)
    · exact I4.ok.exfs b (by rw [a3];exact t)
    · exact (I4.ok.exf b (by rw [a3];exact t)).2
    · rw [bb];intro p hp;exact absurd hp (by simp)
  have loop:codeAny (model X.prog X.w) X.A (.compLoop (.DictComp kx vx [⟨tg,iter,a5,0⟩] scope pos) 0 (.ref it) (.ref acc) B.env) (compPost (model X.prog X.w) X.A X.xe use R (.ref acc) f.heap.objs.size) s4:=by
    refine zFB (λn s'=>∃ i ys τ D,Inv B [] τ D s'/\tn i s'.heap/\(∀ b ∈ l,D b=none)/\W i n ys τ D) ?_ m0 ⟨0,[],_,_,I4,ao,λb t=>(f3 b t).1,w0⟩
    rintro n s5 ⟨i,ys,τ,H5,I5,ar,au,w5⟩
    obtain ⟨c0,bd,be⟩:=turn i n ys τ H5 w5
    rcases be with ⟨stop,qn⟩ | ⟨go,N,hN,step⟩
    · have d:=T.done B eP ew ec i [] s5 τ H5 (λ_ _=>False) I5 (a1 au) ar stop
      rw [eA] at d
      refine thn d λr s6 av=>?_
      obtain ⟨hr,I6⟩:=av
      subst hr
      obtain ⟨m,aw,_⟩:=id I6.loc
      rw [G] at aw
      refine fin acc f.heap.objs.size H5 s6 m qn aw (λh' bf tk=>?_) ⟨I3.sz,Ne.symm (zNA I3.lt),λx c e z=>by
        obtain ⟨v,oc,bg,_⟩:=I3.cell x c e
        exact Nat.lt_irrefl _ (Nat.lt_of_lt_of_eq (Heap.lt_size bg) z.symm),λp hp z=>Nat.lt_irrefl _ (Nat.lt_of_lt_of_eq (Heap.lt_size (I3.pin p hp).1) z.symm),by have:=I6.free;rw [G] at this;exact this⟩
      have same:∀ b,b ≠ f.heap.objs.size->h'.get? b=s6.heap.get? b:=λb t=>bf.2 b t
      have ub:=I6.base
      rw [ba,a3,bc,aq] at ub
      have a7:∀ b o,f.heap.get? b=some o->b ≠ f.heap.objs.size:=λb o e=>zNA (Heap.lt_size e)
      have u:Un (frs X.stack) l (upd M acc (.dK [])) H5 f.heap h':=
        ⟨λb o e n1 n2 n3=>(same b (a7 b o e)).trans (ub.keep b o e n1 n2 n3),λb o e n1 n2 n3=>by
            obtain ⟨sl,z⟩:=ub.slot b o e n1 n2 n3
            exact ⟨sl,(same b (a7 b o e)).trans z⟩,ub.free,λb o e n3=>by
            obtain ⟨o',z⟩:=ub.there b o e n3
            exact ⟨o',(same b (a7 b o e)).trans z⟩,ub.tups,ub.frzs,ub.tbls⟩
      have fC:H5 f.heap.objs.size=none:=by have:=I6.free;rw [G] at this;exact this
      have bh:HOk X.prog X.w H5 h':=λb o e=>by
        have z:=I6.hok b o e
        rw [eP,ew] at z
        refine z.stay (λc u hc q=>(same c ?_).trans q) (λ_ q=>q) λ_ _ q=>q
        intro zc
        rcases hc with q1 | q1
        · rw [<- q1,zc,fC] at e;cases e
        · rw [zc,fC] at q1;cases q1
      have bi:∀ b ∈ l,(b ∈ X.ex \/ X.s₀.heap.objs.size <= b)/\b ≠ X.env.locals/\(∀ x c,X.env.cells.lookup x=some c->c ≠ b)/\∀ p ∈ X.pn ++ qp,p.1 ≠ b:=λb t=>by
        obtain ⟨_,f1,_,g3,g4,g5⟩:=f3 b t
        exact ⟨g3,f1,g4,g5⟩
      have ho:s6.os=f.os:=by have:=I6.os;rw [aq] at this;exact this
      exact I3.call' (s':={ s6 with heap:=h',toks:=tk }) (ch:=l) ho u bh I6.bare bi
    · have d:=T.item B eP ew ec i [] s5 τ H5 (λ_ _=>False) I5 (a1 au) ar go
      rw [eA] at d
      refine thn d λr s6 ax=>?_
      obtain ⟨u,hr,h6⟩:=ax
      subst hr
      refine thn h6 λ_ s7 ay=>?_
      obtain ⟨x,H7,I7,r7,y7,aa,bj⟩:=ay
      have bk:=I7.pinned (a1 bj) (T.obj _ _ aa)
      have dg:=hg _ s7 τ H7 x u _ bk r7 (step x H7 y7)
      rw [eP,ew,eA,ex] at dg
      refine thn dg λ_ s8 az=>?_
      obtain ⟨a2,H8,I8,q8⟩:=az
      have dt:=ht _ s8 a2 H8 _ I8 q8
      rw [eP,ew,eA,ex] at dt
      refine thn dt λok s9 b0=>?_
      obtain ⟨H9,I9,q9⟩:=b0
      have again:∀ {ab:St} {D:Hp} {s':Shared},Inv B ([] ++ vZ l s7.heap) ab D s'->Inv B [] ab D s'/\tn (i + 1) s'.heap/\∀ b ∈ l,D b=none:=λ{ab D s'} Ie=>by
        refine ⟨Ie.unpinned,T.keep _ _ _ aa λb t o e=>(Ie.pin (b,o) (zMX _ (zMX _ (wF t e)))).1,λb t=>?_⟩
        obtain ⟨o,e,_⟩:=T.obj _ _ aa b t
        exact (Ie.pin (b,o) (zMX _ (zMX _ (wF t e)))).2.1
      cases ok with
      | false=>
        rw [if_neg zNB] at q9 ⊢
        obtain ⟨m',hm,w9⟩:=hN _ _ _ q9
        obtain ⟨z1,z2,z3⟩:=again I9
        exact ⟨m',hm,i + 1,ys,a2,H9,z1,z2,z3,w9⟩
      | true=>
        rw [if_pos rfl] at q9 ⊢
        have dy:=hy _ s9 a2 H9 _ I9 q9
        rw [eP,ew,eA,ex] at dy
        refine thn dy λkv bm b1=>?_
        obtain ⟨z,bn,bo,bp,bq⟩:=b1
        have de:=he _ bm a2 bn _ bo bq
        rw [eP,ew,eA,ex] at de
        refine thn de λyv c1 b2=>?_
        obtain ⟨y,c2,br,bs,k,ek,b3,bt⟩:=b2
        subst ek
        obtain ⟨m',hm,bu⟩:=hN _ _ _ bt
        have dm:=b7 (X:=B) (A:=X.A) (E:=λ_ _=>False) (Q:=λ_ s'=>∃ m,m < n/\∃ i ys τ D,Inv B [] τ D s'/\tn i s'.heap/\(∀ b ∈ l,D b=none)/\W i m ys τ D) br b3 bd bp bs λc3 bv=>by
          obtain ⟨z1,z2,z3⟩:=again bv
          exact ⟨m',hm,i + 1,vU ys k y,a2,_,z1,z2,z3,bu⟩
        rw [eP,ew] at dm
        exact dm
  have e4:({ newEnv scope f.heap.objs.size X.env.globals (clF X.env scope.names []) X.env.qual none .none (some X.env) builtinsNs with scope:=relabel scope X.env }:Env)=B.env:=by rw [a0];rfl
  rw [a0] at loop
  have self:=T.self X.A 0 s4 (λbw s'=>codeAny (model X.prog X.w) X.A (.compLoop (.DictComp kx vx [⟨tg,iter,a5,0⟩] scope pos) 0 bw (.ref acc) (compEnvC scope (clF X.env scope.names []) f.heap.objs.size X.env)) (compPost (model X.prog X.w) X.A X.xe use R (.ref acc) f.heap.objs.size) s')
    (notedBy (model X.prog X.w) X.A (compEnvC scope (clF X.env scope.names []) f.heap.objs.size X.env) λx s'=>compPost (model X.prog X.w) X.A X.xe use R (.ref acc) f.heap.objs.size (.error x) s') ao loop
  exact codeAny_compStart_dict loop self
theorem zFC
    (S:xO X xs ix scope) (D:X.calm=true) (E:PI X B iter G)
    (L:∀ C a s H,PG (cxC X xs ix scope C a s H) B g) (M:∀ C a s H,PTs (cxC X xs ix scope C a s H) t N) (O:∀ C a s H,PE (cxC X xs ix scope C a s H) U ty) (he:∀ C a s H,PE (cxC X xs ix scope C a s H) vx te)
 (I:Inv X n o H s) (h:tDC xs ix G g N ty te o H Q)
    (fin:∀ acc C d s' m,Q (.ref acc) d->s'.heap.Ns C m->(∀ h',Heap.SameBut C s'.heap h'->∀ tk,Inv X n o d { s' with heap:=h',toks:=tk })->(X.s₀.heap.objs.size <= C/\C ≠ X.env.locals/\(∀ x c,X.env.cells.lookup x=some c->c ≠ C)/\(∀ p ∈ X.pn ++ n,p.1 ≠ C)/\d C=none)->compPost (model X.prog X.w) X.A X.xe use R (.ref acc) C (.ok .next) s') :
    wpAny (model X.prog X.w) X.A (eval iter X.env) (λx f=>wpAny (model X.prog X.w) X.A (pyIter x) (λu i=>wpAny (model X.prog X.w) X.A newDict (λacc j=>
      wpAny (model X.prog X.w) X.A (newFunctionEnv scope X.env.globals (clF X.env scope.names []) [] X.env.qual none .none (some X.env)) (λb l=>
        codeAny (model X.prog X.w) X.A (.compStart (.DictComp U vx [⟨B,iter,t,0⟩] scope pos) 0 u acc { b with scope:=relabel scope X.env }) (compPost (model X.prog X.w) X.A X.xe use R acc b.locals) l) X.xe j) X.xe i) X.xe f) X.xe s:=
  zCV (Reg:=λY=>Y.K=X.K/\Y.calm=true) S (λY k c _=>⟨k,c.trans D⟩)
    (λn s o H R I q=>thn (E n s o H R I q) λv s1 h1=>thn h1 λa1 s2 h2=>by
      obtain ⟨u,a,tn,J,d,e,I',T,r⟩:=h2
      exact ⟨u,a,tn,J,d,e,I',⟨T.mem,T.obj,T.keep,λY y z r=>T.item Y y z r.1 r.2,λY y z r=>T.done Y y z r.1 r.2,T.self⟩,r⟩) L M O he I h fin
theorem zKW
  (S:xO X xs ix scope) (l:X.calm=true) (o:PI X j iter p)
  (r:∀ C a s H,PG (cxC X xs ix scope C a s H) j g) (t:∀ C a s H,PTs (cxC X xs ix scope C a s H) b u) (v:∀ C a s H,PE (cxC X xs ix scope C a s H) w ty) (y:∀ C a s H,PE (cxC X xs ix scope C a s H) z A)
  (B:∀ x,foldedSetIterable iter X.env x=pure x:=by intro _;rfl) :
  PE X (.DictComp w z [⟨j,iter,b,0⟩] scope pos) (tDC xs ix p g u ty A):=by
 intro J s L H Q I h
 have d:∀ n,(n,NameKind.free) ∈ scope.names->(X.env.cells.lookup n).isSome=true:=λn f=>by
  obtain ⟨c,e⟩:=I.ok.has n (S.fre n f)
  rw [e];rfl
 rw [arm_eval_DictComp]
 refine wpAny_comprehension_free (use:=none) rfl B (wX d) S.kind S.loc ?_
 refine zFC S l o r t v y I h λacc C D E m q f k _=>?_
 exact ⟨m,f,λG i=>⟨.ref acc,D,k G i E.toks,rfl,q⟩⟩
theorem zCU {K:W.Frag} {a:Addr} {its:List V} {xs:List Str} {ix:List Nat} {g:TG} {ty r:TE} {u:St} {H1:Hp} {Q:VK} {acc:Addr} (G:its.length < sizeLine) (Pv:Nat->List (Key × V)->St->Hp->Prop)
  (w:Pv 0 [] (stC xs ix u) (upd H1 acc (.dK []))) (j:∀ i ys d H,Pv i ys d H->H acc=some (.dK ys)/\ys.length <= i/\SqL K H a its)
  (A:∀ i ys d H x,its[i]?=some x->Pv i ys d H->g x d H λc h=>ty c h λz l=>r c l λy f=>∃ k,z=kV k/\f acc=some (.dK ys)/\Pv (i + 1) (vU ys k y) c (upd f acc (.dK (vU ys k y))))
  (hd:∀ ys d H,Pv its.length ys d H->Q (.ref acc) H):DCW (Itl K a) xs ix g sT ty r u H1 acc Q:=by
 refine ⟨λi m ys d H=>m=its.length - i/\i <= its.length/\Pv i ys d H,⟨its.length,by simp,zMT _,w⟩,?_⟩
 rintro i m ys d H ⟨rfl,I,p⟩
 obtain ⟨B,J,t⟩:=j i ys d H p
 refine ⟨B,by omega,?_⟩
 by_cases n:i < its.length
 ·refine .inr ⟨⟨its,its[i],t,by simp [n]⟩,λo q s=>Pv (i + 1) o q s,λo q s C=>⟨its.length - (i + 1),by omega,rfl,n,C⟩,λx s y=>?_⟩
  obtain ⟨e,y⟩:=y
  subst e
  have D:=y its t
  have st:=A i ys d s x D p
  have e:(λc h=>sT c h λb v=>if b=true then ty c v λz l=>r c l λy f=>∃ k,z=kV k/\f acc=some (.dK ys)/\Pv (i + 1) (vU ys k y) c (upd f acc (.dK (vU ys k y))) else Pv (i + 1) ys c v) =
    λc h=>ty c h λz l=>r c l λy f=>∃ k,z=kV k/\f acc=some (.dK ys)/\Pv (i + 1) (vU ys k y) c (upd f acc (.dK (vU ys k y))):=by
   funext c h
   simp only [sT,if_true]
  rw [e];exact st
 ·have E:i=its.length:=by omega
  subst E
  exact .inl ⟨⟨its,t,zMS _⟩,hd ys d H p⟩
section
variable {X:Cx}
end
section
variable {prog:Program} {w:World} {A:Around} {E:VSP} {s:Shared}
end
section
variable {X:Cx} {e:Expr} {te:TE} {pos p1 p2 p3:Pos} {j1:Nat}
end
end L2
namespace L2
open PySem PySem.Spec PyProof.Rows PySem.W
theorem zHU
  (i:sH N sc [x,y,z] ix scope) (j:PI X (.Tuple [.Name x k,.Name y py,.Name z l] m o) iter p)
  (q:∀ C a s H,PTs (cxC X [x,y,z] ix scope C a s H) b r) (t:∀ C a s H,PE (cxC X [x,y,z] ix scope C a s H) u ty) (v:∀ C a s H,PE (cxC X [x,y,z] ix scope C a s H) w A)
  (B:X.N=N:=by rfl) (c:X.env.scope=sc:=by rfl) (e:X.calm=true:=by rfl) (D:∀ x,foldedSetIterable iter X.env x=pure x:=by intro _;rfl) :
  PE X (.DictComp u w [⟨.Tuple [.Name x k,.Name y py,.Name z l] m o,iter,b,0⟩] scope pos) (tDC [x,y,z] ix p (bV X.K 3 (tZ (wA 0) (tZ (wA 1) (tZ (wA 2) bW)))) r ty A):=by
 have S:=i.at (X:=X) B c
 have d:∀ n,n ∈ [x,y,z]->∀ C a s H,(cxC X [x,y,z] ix scope C a s H).env.scope.names.lookup n=some .local:=λn E _ _ _ _=>lookup_relabel_local (S.own n E)
 have f:=d x (by simp)
 have g:=d y (by simp)
 have h:=d z (by simp)
 exact zKW S e j (λC a s H=>tL (X:=cxC X [x,y,z] ix scope C a s H) e (y3 (yI S.nd rfl (Or.inl (f C a s H)) (.inr (f C a s H))) (y3 (yI S.nd rfl (Or.inl (g C a s H)) (.inr (g C a s H))) (y3 (yI S.nd rfl (Or.inl (h C a s H)) (.inr (h C a s H))) uF)))) q t v D
noncomputable def pM (a:Addr) (n:Nat):HO:=.ext λh=>∃ t u v,IsRange h a 0 (n:Int) 1 t u v
noncomputable def sU (n:Nat):List V:=(List.range n).map λ(k:Nat)=>V.int (k:Int)
section
variable {X:Cx}
theorem pK:vK X (.type "range") (λxs H Q=>∃ n:Nat,xs=[.int (n:Int)]/\∀ p,H p=none->Q (.ref p) (upd H p (pM p n))):=by
 intro f s g H xs i Q I r h
 obtain ⟨n,rfl,q⟩:=h
 obtain ⟨u,rfl,t,rfl⟩:=tY r
 have a:IsRange (s.heap.push { cls:=.type "range",data:=.fields #[.int 0 s.toks,.int (n:Int) t,.int 1 (s.toks + 1)] }) s.heap.objs.size 0 (n:Int) 1 s.toks t (s.toks + 1):=IsRange.new ..
 refine call_range_1 ⟨.ref s.heap.objs.size,_,I.laid (t':=s.toks + 1 + 1) (o:=pM s.heap.objs.size n) (λb o e=>Heap.get?_push_of_some _ e) (zMS _) ⟨⟨_,_,_,a⟩,⟨_,a⟩,λk l x st=>?_⟩,rfl,q _ (I.hok.fresh (zMS _))⟩
 obtain ⟨c,d,v1,x⟩:=x
 exact ⟨c,d,v1,st _ x⟩
theorem nM (m:X.calm=true):vK X (.type "list") (λxs H Q=>∃ (p:Addr) (n:Nat),xs=[.ref p]/\H p=some (pM p n)/\n <= 1000/\∀ l,H l=none->Q (.ref l) (upd H l (.lst (sU n)))):=by
 intro L s M H xs N Q I r h
 obtain ⟨p,n,rfl,w,O,q⟩:=h
 obtain ⟨u,rfl,y⟩:=tY r
 cases y
 obtain ⟨⟨t,u,v,A⟩,_,_⟩:=I.hok p _ w
 have c:Builtin.Range.rangeSize 0 (n:Int) 1=(n:Int):=by rw [rangeSize_one];split <;> omega
 refine call_list_range (I.ok.hd m) A (small_one (by omega) (by omega) (by omega) (by omega)) c (by omega) λf B a C D d b=>?_
 have E:yO (sU n) a.toList:=by
  have key:∀ (l:List Value) (i:Nat),(∀ (j:Nat) (v:Value),l[j]?=some v->∃ t,v=.int ((i + j:Nat):Int) t)->yO ((List.range' i l.length).map λ(k:Nat)=>V.int (k:Int)) l:=by
   intro l
   induction l with
   | nil=>exact λi _=>.nil
   | cons x l G=>
    intro i g
    rw [zM4,List.range'_succ,List.map_cons]
    refine .cons (by obtain ⟨t,e⟩:=g 0 x rfl;exact ⟨t,e⟩) (G (i + 1) λj v e=>?_)
    obtain ⟨t,e⟩:=g (j + 1) v (by simpa using e)
    exact ⟨t,by rw [e,show i + 1 + j=i + (j + 1) by omega]⟩
  have z:=key a.toList 0 λj v e=>by
   obtain ⟨t,e⟩:=b.2 j v (by simpa using e)
   exact ⟨t,by rw [e];congr 1;omega⟩
  have J:a.toList.length=n:=by rw [Array.length_toList];exact b.1
  rw [J] at z
  unfold sU
  rw [List.range_eq_range']
  exact z
 refine ⟨.ref s.heap.objs.size,_,I.laid (t':=B) (h':=f) (o:=.lst (sU n)) D (zMS _) ?_,rfl,q _ (I.hok.fresh (zMS _))⟩
 exact ⟨by unfold sU;rw [zMJ,List.length_range,sizeLine_eq];omega,a.toList,C,E,by simpa using d⟩
end
end L2
namespace L2
open PySem PySem.Spec PyProof.Rows
section
variable {X:Cx} {qp:LAO} {σ:List (Option V)} {H:Hp} {s:Shared}
end
section
variable {X:Cx}
end
end L2
namespace L2
open PySem
theorem sq {t u:TS} {D:gE} {a:St} {H:Hp} (h:∀ n:St->Hp->Prop,(∀ a H,u D a H->n a H)->t ⟨n,D.rt,D.bk,D.ct⟩ a H):oC t u D a H:=h _ λ_ _ h=>h
theorem gm {b c:Type} {f:b->c} {l:List b} {i:Nat} {x:c} (h:(l.map f)[i]?=some x):∃ a,l[i]?=some a/\f a=x:=by
 rw [zMP] at h
 cases e:l[i]? with
 | none=>rw [e] at h;cases h
 | some a=>rw [e] at h;exact ⟨a,rfl,zMQ h⟩
theorem sC {c:Bool} {A B:Prop} (k:B) (h:c=false:=by decide +kernel):if c=true then A else B:=ifF h k
theorem mE {c:Bool} {A B:Prop} (k:A) (h:c=true:=by decide +kernel):if c=true then A else B:=ifT h k
section
variable {P:Program} {w:World} {K:W.Frag} {mg:Str->Option Value} {base:Heap}
theorem Fun.oz {x a:Str} {st:Stmt} {f:Addr} {fd:FuncData} {N ps:List Str} {k:Nat} {sp:Sp} (F:Fun K x a st f fd) (S:zM N ps (zG st))
  (b:∀ (d:Value) (A:Around) (c:List Env) (s:Shared) (H:Hp) (vs:List V) (Q:VK) (E:XK),zZ k (A.deeper (PyProof.Rows.envOfC a (zG st) s.heap.objs.size f d))->sp vs H Q E ->
   ∃ t,PSs (uS CX0 P w K mg base N a (zG st) f d A c s H E).nox (y8 st) t/\t { nx:=λ_ e=>Q .non e,rt:=Q } (start N vs) H) (len:∀ vs H Q E,sp vs H Q E->vs.length=ps.length:=by intro _ _ _ _ h;repeat' (first | (obtain ⟨rfl,_⟩:=h;rfl;done) | obtain ⟨_,h⟩:=h)):tH P w K mg base CX0 (k + 1) f fd ps sp:=F.ok S len b
theorem yM.oz {x:Str} {st:Stmt} {N ps:List Str} {k:Nat} {sp:Sp} (G:yM K mg x st ps) (S:zM N ps (zG st))
  (a:∀ (f:Addr) (c:Value) (A:Around) (b:List Env) (s:Shared) (H:Hp) (vs:List V) (Q:VK) (E:XK),zZ k (A.deeper (PyProof.Rows.envOfC x (zG st) s.heap.objs.size f c))->sp vs H Q E ->
   ∃ t,PSs (uS CX0 P w K mg base N x (zG st) f c A b s H E).nox (y8 st) t/\t { nx:=λ_ d=>Q .non d,rt:=Q } (start N vs) H) (len:∀ vs H Q E,sp vs H Q E->vs.length=ps.length:=by intro _ _ _ _ h;repeat' (first | (obtain ⟨rfl,_⟩:=h;rfl;done) | obtain ⟨_,h⟩:=h)):Cal P w K mg base CX0 (k + 1) x ps sp:=G.ok S len a
theorem yS.oz {C:Addr} {m a:Str} {st:Stmt} {N ps:List Str} {k:Nat} {sp:Sp} (G:yS K C m a st ps) (S:zM N ps (zG st))
  (b:∀ (f:Addr) (d:Value) (A:Around) (c:List Env) (s:Shared) (H:Hp) (vs:List V) (Q:VK) (E:XK),zZ k (A.deeper (PyProof.Rows.envOfC a (zG st) s.heap.objs.size f d))->sp vs H Q E ->
   ∃ t,PSs (uS CX0 P w K mg base N a (zG st) f d A c s H E).nox (y8 st) t/\t { nx:=λ_ e=>Q .non e,rt:=Q } (start N vs) H) (len:∀ vs H Q E,sp vs H Q E->vs.length=ps.length:=by intro _ _ _ _ h;repeat' (first | (obtain ⟨rfl,_⟩:=h;rfl;done) | obtain ⟨_,h⟩:=h)):yD P w K mg base CX0 (k + 1) C m ps sp:=G.ok S len b
theorem yM.ozX {x:Str} {st:Stmt} {N ps:List Str} {k:Nat} {sp:Sp} (G:yM K mg x st ps) (S:zM N ps (zG st))
  (a:∀ (f:Addr) (c:Value) (A:Around) (b:List Env) (s:Shared) (H:Hp) (vs:List V) (Q:VK) (E:XK),zZ k (A.deeper (PyProof.Rows.envOfC x (zG st) s.heap.objs.size f c))->sp vs H Q E ->
   ∃ t,PSs (uS (CXE P w) P w K mg base N x (zG st) f c A b s H E) (y8 st) t/\t { nx:=λ_ d=>Q .non d,rt:=Q } (start N vs) H) (len:∀ vs H Q E,sp vs H Q E->vs.length=ps.length:=by intro _ _ _ _ h;repeat' (first | (obtain ⟨rfl,_⟩:=h;rfl;done) | obtain ⟨_,h⟩:=h)):Cal P w K mg base (CXE P w) (k + 1) x ps sp:=G.okX S len a
theorem yS.ozX {C:Addr} {m a:Str} {st:Stmt} {N ps:List Str} {k:Nat} {sp:Sp} (G:yS K C m a st ps) (S:zM N ps (zG st))
  (b:∀ (f:Addr) (d:Value) (A:Around) (c:List Env) (s:Shared) (H:Hp) (vs:List V) (Q:VK) (E:XK),zZ k (A.deeper (PyProof.Rows.envOfC a (zG st) s.heap.objs.size f d))->sp vs H Q E ->
   ∃ t,PSs (uS (CXE P w) P w K mg base N a (zG st) f d A c s H E) (y8 st) t/\t { nx:=λ_ e=>Q .non e,rt:=Q } (start N vs) H) (len:∀ vs H Q E,sp vs H Q E->vs.length=ps.length:=by intro _ _ _ _ h;repeat' (first | (obtain ⟨rfl,_⟩:=h;rfl;done) | obtain ⟨_,h⟩:=h)):yD P w K mg base (CXE P w) (k + 1) C m ps sp:=G.okX S len b
end
end L2
namespace K25
open PySem L2
noncomputable abbrev N0:List Str:=["_law_source","_law_names_here","_law_many","_law_far","_law_odd_here","_law_strange","_law_rights","_law_deeds","_law_word","_law_name","_law_right"]
noncomputable abbrev N1:List Str:=["self","asker"]
noncomputable abbrev N3:List Str:=["_law_script","_law_name","_law_neighbours","_law_ways","_law_askers","_law_house","_law_states","_law_cell","_law_deeds","_law_deed","_law_kept","_law_known","_law_names_here","_law_due","_law_turn","_law_found"]
noncomputable abbrev N4:List Str:=["self"]
noncomputable abbrev N5:List Str:=["self","right"]
noncomputable abbrev N6:List Str:=["self","house","right"]
noncomputable abbrev N7:List Str:=["_law_house","_law_deed"]
noncomputable abbrev N8:List Str:=["_law_source","_law_many"]
noncomputable abbrev N9:List Str:=["right","many"]
noncomputable abbrev Nb:List Str:=["self","house","right","back"]
noncomputable abbrev Nc:List Str:=["thing"]
noncomputable abbrev Nd:List Str:=["_law_cell","_law_source","_law_same","_law_many","_law_names_here","_law_neighbours","_law_ways","_law_askers"]
noncomputable abbrev Nf:List Str:=["right","told"]
noncomputable abbrev Ng:List Str:=["self","asker","right"]
noncomputable abbrev Nh:List Str:=["_law_states","_law_deed"]
noncomputable abbrev Ni:List Str:=["_law_source","_law_many","_law_letters","_law_start","_law_stem"]
noncomputable abbrev Nj:List Str:=["_law_states","_law_askers","_law_neighbours","_law_deeds","_law_asker","_law_right","_law_name"]
noncomputable abbrev Nk:List Str:=["_law_states","_law_askers","_law_neighbours"]
noncomputable abbrev Nm:List Str:=["_law_told_here","_law_right"]
noncomputable abbrev Np:List Str:=["self","name","neighbours","arrows"]
noncomputable abbrev Nq:List Str:=["self","house","back"]
noncomputable abbrev Nr:List Str:=["_law_states","_law_neighbours","_law_deed"]
noncomputable abbrev Nt:List Str:=["_law_source","_law_names_here","_law_many"]
noncomputable abbrev Nu:List Str:=["_law_states","_law_asker"]
noncomputable abbrev Nv:List Str:=["_law_thing","_law_many"]
noncomputable abbrev Nw:List Str:=["_law_found","_law_due"]
noncomputable abbrev Nx:List Str:=["asker"]
noncomputable abbrev Ny:List Str:=["thing","neighbours"]
noncomputable abbrev Nz:List Str:=["_law_cell"]
noncomputable abbrev NA:List Str:=["self","house"]
noncomputable abbrev NB:List Str:=["thing","houses"]
noncomputable abbrev NC:List Str:=["_law_state_here","_law_deed"]
noncomputable abbrev ND:List Str:=["_law_script","_law_k"]
noncomputable abbrev NE:List Str:=["_law_e","_law_kinds_here","_law_words","_law_found"]
noncomputable abbrev NF:List Str:=["_law_source","_law_name"]
noncomputable abbrev NG:List Str:=["_law_house","_law_many"]
noncomputable abbrev NH:List Str:=["_law_thing"]
noncomputable abbrev NI:List Str:=["_law_cell","_law_k"]
noncomputable abbrev NJ:List Str:=["self","arrow"]
noncomputable abbrev NK:List Str:=["thing","name"]
noncomputable abbrev NL:List Str:=["_law_states","_law_deed","_law_right"]
noncomputable abbrev NM:List Str:=["_law_state_here"]
noncomputable abbrev NN:List Str:=["house"]
noncomputable abbrev NO:List Str:=["_law_arrow"]
noncomputable abbrev NP:List Str:=["_law_states"]
abbrev NQ:Str:="asker"
abbrev NR:Str:="come"
noncomputable abbrev NS:Str:="check_right"
abbrev NT:Str:="ask"
noncomputable abbrev NU:Str:="has_asked"
abbrev NV:Str:="house"
abbrev NW:Str:="leave"
abbrev NX:Str:="inside"
abbrev NY:Str:="done"
noncomputable abbrev NZ:Str:="check_asker"
abbrev S3:Str:="arrow"
noncomputable abbrev S6:Str:="check_letter"
abbrev S8:Str:="len"
noncomputable abbrev S9:Str:="isinstance"
abbrev Sa:Str:="want"
abbrev Sc:Str:="asked"
abbrev Sd:Str:="row"
noncomputable abbrev Se:Str:="right_of"
noncomputable abbrev Sf:Str:="numbered"
noncomputable abbrev Sg:Str:="waiting"
noncomputable abbrev Sh:Str:="rights_wanted"
noncomputable abbrev Si:Str:="pointer"
abbrev Sj:Str:="holder"
noncomputable abbrev Sk:Str:="is_name"
noncomputable abbrev Sm:Str:="check_house"
noncomputable abbrev Sn:Str:="_law_next"
noncomputable abbrev So:Str:="ninesigns"
noncomputable abbrev Sq:Str:="move_on"
abbrev Ss:Str:="askers"
abbrev Su:Str:="range"
noncomputable abbrev Sv:Str:="_law_seat_of"
abbrev Sw:Str:="nearby"
abbrev Sx:Str:="name"
noncomputable abbrev Sy:Str:="is_whole"
noncomputable abbrev Sz:Str:="_law_put"
noncomputable abbrev SA:Str:="_law_is_right"
noncomputable abbrev SD:Str:="_law_is_name"
noncomputable abbrev SE:Str:="is_one_of"
noncomputable abbrev SF:Str:="NoAsker"
noncomputable abbrev SG:Str:="_law_digits"
noncomputable abbrev SH:Str:="_law_state_here"
noncomputable abbrev SJ:Str:="_law_good_deeds"
abbrev SK:Str:="right"
noncomputable abbrev SM:Str:="are_neighbours"
noncomputable abbrev SN:Str:="best_right"
noncomputable abbrev SO:Str:="_law_why_asker"
noncomputable abbrev SQ:Str:="_law_numbered"
noncomputable abbrev SR:Str:="_law_cell_at"
noncomputable abbrev SU:Str:="_law_made_at"
noncomputable abbrev SV:Str:="_law_refusal"
def top (i:Nat):Stmt:=PySem.Challenge.pw_treeright_k25_refused_at_all_doors.main.body.getD i (.Pass ⟨0,0,0,0⟩)
abbrev j3:Stmt:=top 18
abbrev j6:Stmt:=top 24
abbrev eZ:Stmt:=yW (top 26) 0
abbrev kJ:Stmt:=yW (top 26) 1
abbrev zDZ:Stmt:=yW (top 26) 2
abbrev pT:Stmt:=yW (top 26) 3
abbrev zD1:Stmt:=yW (top 26) 4
abbrev eV:Stmt:=yW (top 26) 10
abbrev oK:Stmt:=yW (top 26) 11
abbrev j4:Stmt:=yW (top 26) 12
abbrev eX:Stmt:=yW (top 26) 15
abbrev kD:Stmt:=yW (top 26) 16
noncomputable def xP (a:V) (b:Addr) (h:V) (k:Bool):List (Str × V):=[(Si,a),(Sg,.ref b),(Sj,h),(Sc,.bl k)]
theorem n1:¬ ((Si : Str)=Sj):=by decide +kernel
theorem n2:¬ ((Sg : Str)=Sj):=by decide +kernel
theorem n3:¬ ((Si : Str)=Sc):=by decide +kernel
theorem n4:¬ ((Sg : Str)=Sc):=by decide +kernel
theorem n5:¬ ((Sj : Str)=Sc):=by decide +kernel
theorem n6:¬ ((Si : Str)=Sg):=by decide +kernel
theorem zGE (a b:V) (c:Addr) (h:V) (k:Bool):wG Si b (xP a c h k)=xP b c h k:=by
 unfold xP;rw [wG,if_pos rfl]
theorem zGF (a:V) (b:Addr) (h g:V) (k:Bool):wG Sj g (xP a b h k)=xP a b g k:=by
 unfold xP;rw [wG,if_neg n1,wG,if_neg n2,wG,if_pos rfl]
theorem zA3 (a:V) (b:Addr) (h:V) (k j:Bool):wG Sc (.bl j) (xP a b h k)=xP a b h j:=by
 unfold xP;rw [wG,if_neg n3,wG,if_neg n4,wG,if_neg n5,wG,if_pos rfl]
theorem fR (a:V) (b:Addr) (h:V) (k:Bool):(xP a b h k).lookup (Si : Str)=some a:=rfl
theorem rK (a:V) (b:Addr) (h:V) (k:Bool):(xP a b h k).lookup (Sg : Str)=some (.ref b):=rfl
theorem iX (a:V) (b:Addr) (h:V) (k:Bool):(xP a b h k).lookup (Sj : Str)=some h:=rfl
theorem zL2 (a:V) (b:Addr) (h:V) (k:Bool):(xP a b h k).lookup (Sc : Str)=some (.bl k):=rfl
noncomputable def z9:Option Str->V
 | none=>.non
 | some z=>.str z
structure xN (K:W.Frag) (C:Addr):Prop where
 cl:Cls K C
 nP:vV K C Si
 nW:vV K C Sg
 nH:vV K C Sj
 nA:vV K C Sc
structure SS where
 ptr:Option Str
 row:LSS
 hold:Option Str
 asked:Bool
noncomputable def yU (r:Str × Str):List V:=[.str r.1,.str r.2]
structure yE (C:Addr) (H:Hp) (p wl:Addr) (s:SS):Prop where
 ob:∃ dx,H p=some (.ins C dx (xP (z9 s.ptr) wl (z9 s.hold) s.asked))
 rw:Rows H wl (s.row.map yU)
 len:s.row.length <= 1000
theorem wY (l:LSS):∀ r ∈ l.map yU,r.all xD=true:=λr a=>by
 obtain ⟨x,_,rfl⟩:=List.mem_map.mp a
 rfl
theorem yE.ne (S:yE C H p a s):p ≠ a:=by
 obtain ⟨c,h⟩:=S.ob
 obtain ⟨d,b,_⟩:=S.rw
 exact wL h b (by intro z;cases z)
theorem yE.keep (S:yE C H p a s) (k:zD [] H b):yE C b p a s:=by
 obtain ⟨⟨c,h⟩,r,l⟩:=S
 exact ⟨⟨c,k.z h⟩,r.keep k,l⟩
noncomputable def wD (s:SS):SS × List V:=match s.row with
 | []=>(s,[])
 | (k,n) :: rest=>if k=NQ then ({ s with row:=rest,hold:=some n },[.str "given",.str n])
  else ({ s with ptr:=some n,row:=rest,asked:=!rest.isEmpty },[.str SK,.str n,.bl (!rest.isEmpty)])
noncomputable def yJ (s:SS):SS × List (List V):=
 if s.row.isEmpty then (s,[]) else
 match s.ptr with
 | none=>match s.hold with
  | none=>((wD s).1,[(wD s).2])
  | some _=>(s,[])
 | some q=>if s.asked then (s,[]) else ({ s with asked:=true },[[.str NT,.str q]])
theorem zP (k:zD S H a) (n:∀ b ∈ S,∀ xs,H b ≠ some (.tup xs)):∀ {ps:List Addr} {rows:List (List V)},Paired (λq r=>H q=some (.tup r)) ps rows->Paired (λq r=>a q=some (.tup r)) ps rows
 | _,_,.nil=>.nil
 | q :: _,r :: _,.cons e c=>.cons (k q _ (λz=>n q z r e) e) (zP k n c)
theorem uP {C dx p a:Addr} {H:Hp} {d:List (Str × V)} {ys:List V} (e:H p=some (.ins C dx d)) (f:H a=some (.lst ys)):∀ b ∈ [p,a],∀ xs,H b ≠ some (.tup xs):=λb c xs z=>by
 simp only [List.mem_cons,zND,or_false] at c
 rcases c with rfl | rfl
 ·rw [e] at z;cases z
 ·rw [f] at z;cases z
theorem zJ9 (n:Nat):seqIndex? 0 (n + 1)=some 0:=by
 unfold seqIndex?
 simp
section
variable {P:Program} {w:World} {K:W.Frag} {mg:Str->Option Value} {base:Heap} {C:Addr}
theorem pQ:zM ["self","kind",Sx,"back"] N4 (zG kD):=scm
def eL (C:Addr):Sp:=λc H Q _=>∃ p b s,c=[.ref p]/\yE C H p b s/\s.row ≠ [] /\
 ∀ r a,yE C a p b (wD s).1->a r=some (.tup (wD s).2)->H r=none->zD [p,b] H a->Q (.ref r) a
theorem zEJ (T:xN K C) (G:yS K C "serve_first" "Seat.serve_first" kD N4) (bL:Blt mg S8):yD P w K mg base CX0 1 C "serve_first" N4 (eL C):=by
 refine G.oz pQ (λf a0 A O s0 H vs Q E u h=>?_)
 obtain ⟨p,j,s,rfl,S,U,q⟩:=h
 refine ⟨_,(zE (qR (uD F.plainAttrs_list F.slot_list_pop F.type_list_pop iM (z8 (pv 0) rfl) (zA zH zB)) (tL rfl (y3 (yI (i:=1) pQ.nd rfl (Or.inl rfl)) (y3 (yI (i:=2) pQ.nd rfl (Or.inl rfl)) uF))))
   (zE (z4 (zT xF (pv 1) zJ (zX _)) (zE (vN (pv 0) (pv 2) rfl)
   (zF (zL (yH (zA zJ (zA (pv 2) zB)))))) zN)
   (zE (z7 (i:=3) pQ.nd rfl (Or.inl rfl) (xI zGI (zV yA bL yP (zA (z8 (pv 0) rfl) zB)) zH (zX _)))
   (zE (vN (pv 0) (pv 2) rfl)
   (zE (vN (pv 0) (pv 3) rfl)
   (zF (zL (yH (zA zJ (zA (pv 2) (zA (pv 3) zB))))))))))),?_⟩
 have v:=S.ne
 obtain ⟨⟨l,m⟩,⟨ps,e,g⟩,L⟩:=S
 obtain ⟨c,row,b,a⟩:=s
 dsimp only at *
 cases row with
 | nil=>exact absurd rfl U
 | cons kn rest=>
  obtain ⟨k,n⟩:=kn
  cases g with
  | @cons t _ d _ ht g=>
  refine ⟨_,rfl,p,C,l,_,_,rfl,m,T.cl,T.nW,rK _ _ _ _,.inl ⟨rfl,_,.of e⟩,j,_,0,0,.ref t,rfl,rfl,e,by decide,by decide,zJ9 _,rfl,?_⟩
  rw [show (List.map V.ref (t :: d)).eraseIdx 0=d.map V.ref from rfl]
  have Y:t ≠ j:=wL ht e (by intro z;cases z)
  have M:=zY g
  rw [zMJ] at M
  have a1:rest.length + 1 <= 1000:=L
  have B:∀ o,upd H j o p=some (.ins C l (xP (z9 c) j (z9 b) a)):=λo=>by rw [zK v];exact m
  refine ⟨t,_,rfl,.of (by rw [zK Y];exact ht),rfl,_,_,rfl,_,_,rfl,rfl,?_⟩
  refine ⟨_,rfl,rfl,_,rfl,?_⟩
  refine mB (λhk=>?_) (λhk=>?_)
  ·have D:k=NQ :=by have:=of_decide_eq_true hk;injection this
   refine ⟨_,rfl,_,rfl,p,C,l,_,rfl,B _,T.cl,T.nH,by show 4 < 1000;decide,_,rfl,by show 2 <= sizeLine;decide,λr u=>?_⟩
   rw [zGF] at u ⊢
   obtain ⟨I,rp⟩:=zW u
   obtain ⟨J,rw_⟩:=zW I
   have N:zD [p,j] H (upd (upd (upd H j (.lst (d.map V.ref))) p (.ins C l (xP (z9 c) j (.str n) a))) r (.tup [.str "given",.str n])):=((zD.at (by simp)).trans (zD.at (by simp))).trans (zD.new u)
   have es:wD { ptr:=c,row:=(k,n) :: rest,hold:=b,asked:=a }=({ ptr:=c,row:=rest,hold:=some n,asked:=a },[.str "given",.str n]):=by
    unfold wD;simp only [D,if_true]
   rw [es] at q
   refine q r _ ⟨⟨l,?_⟩,⟨d,?_,zP N (uP m e) g⟩,?_⟩ zC J N
   ·rw [zK (Ne.symm rp),zC];rfl
   ·rw [zK (Ne.symm rw_),zK (Ne.symm v),zC]
   ·show rest.length <= 1000;omega
  ·have D:¬ k=NQ :=λz=>hk (by rw [z];exact zMY rfl)
   refine ⟨_,rfl,p,C,l,_,_,rfl,B _,T.cl,T.nW,rK _ _ _ _,_,_,rfl,.inl ⟨_,.of zC,rfl⟩,_,_,rfl,rfl,?_⟩
   have eb:decide ((0:Int) < (((d.map V.ref).length:Nat):Int)) = !rest.isEmpty:=by
    rw [zMJ,M]
    cases rest with
    | nil=>rfl
    | cons x y=>exact zMY (by simp)
   refine ⟨_,rfl,_,rfl,p,C,l,_,rfl,B _,T.cl,T.nP,by show 4 < 1000;decide,?_⟩
   rw [zGE]
   refine ⟨_,rfl,_,rfl,p,C,l,_,rfl,zC,T.cl,T.nA,by show 4 < 1000;decide,?_⟩
   dsimp only
   rw [zA3,uE,eb]
   refine ⟨_,rfl,_,rfl,by show 3 <= sizeLine;decide,λr u=>?_⟩
   obtain ⟨I,rp⟩:=zW u
   obtain ⟨J,rw_⟩:=zW I
   have N:zD [p,j] H (upd (upd (upd H j (.lst (d.map V.ref))) p (.ins C l (xP (.str n) j (z9 b) (!rest.isEmpty)))) r (.tup [.str SK,.str n,.bl (!rest.isEmpty)])):=((zD.at (by simp)).trans (zD.at (by simp))).trans (zD.new u)
   have es:wD { ptr:=c,row:=(k,n) :: rest,hold:=b,asked:=a }=({ ptr:=some n,row:=rest,hold:=b,asked:=!rest.isEmpty },[.str SK,.str n,.bl (!rest.isEmpty)]):=by
    unfold wD;simp only [if_neg D]
   rw [es] at q
   refine q r _ ⟨⟨l,?_⟩,⟨d,?_,zP N (uP m e) g⟩,?_⟩ zC J N
   ·rw [zK (Ne.symm rp),zC];rfl
   ·rw [zK (Ne.symm rw_),zK (Ne.symm v),zC]
   ·show rest.length <= 1000;omega
theorem zHH:zM N4 N4 (zG eX):=scm
theorem zGQ (a:V) (b:Addr) (h:V) (k:Bool) {m:Str} (c:¬ m=Si) (d:¬ m=Sg) (e:¬ m=Sj) (f:¬ m=Sc):(xP a b h k).lookup m=none:=by
 have g:(m == (Si : Str))=false:=by simpa using c
 have i:(m == (Sg : Str))=false:=by simpa using d
 have j:(m == (Sj : Str))=false:=by simpa using e
 have l:(m == (Sc : Str))=false:=by simpa using f
 unfold xP
 simp only [List.lookup_cons,g,i,j,l,List.lookup_nil]
theorem yE.stay {H b:Hp} {p a:Addr} {s:SS} {dx:Addr} (S:yE C H p a s) (s':SS) (c:b p=some (.ins C dx (xP (z9 s'.ptr) a (z9 s'.hold) s'.asked))) (f:b a=H a) (d:s'.row=s.row) (k:zD [p,a] H b):yE C b p a s':=by
 obtain ⟨⟨g,h⟩,⟨i,e,j⟩,l⟩:=S
 refine ⟨⟨dx,c⟩,⟨i,by rw [f];exact e,?_⟩,by rw [d];exact l⟩
 rw [d]
 exact zP k (uP h e) j
def qM (C:Addr):Sp:=λc H Q _=>∃ p b s,c=[.ref p]/\yE C H p b s /\
 ∀ r a,yE C a p b (yJ s).1->Rows a r (yJ s).2->H r=none->zD [p,b] H a->Q (.ref r) a
theorem zH8 (T:xN K C) (G:yS K C Sq "Seat.move_on" eX N4) (MS:yD P w K mg base CX0 1 C "serve_first" N4 (eL C)):yD P w K mg base CX0 2 C Sq N4 (qM C):=by
 refine G.oz zHH (λf a2 A x s0 H vs Q E c h=>?_)
 obtain ⟨p,m,s,rfl,S,q⟩:=h
 have y:zZ 1 _:=c.mono (by decide)
 refine ⟨_,(zE (z4 (xB (zA5 (z8 (pv 0) rfl) (λ_=>rfl))) (zF (zL (yL zB))) zN)
   (zE (z4 (zT uO (z8 (pv 0) rfl) yQ (zX _)) (zF (zL (rY (zT uO (z8 (pv 0) rfl) yQ (zX _)) (yL (zA (xH MS T.cl y (pv 0)) zB)) (yL zB)))) zN)
   (zE (z4 (y9 (z8 (pv 0) rfl)) (zF (zL (yL zB))) zN)
   (zE (vN (pv 0) wS rfl)
   (zF (zL (yL (zA (yH (zA zJ (zA (z8 (pv 0) rfl) zB))) zB)))))))),?_⟩
 have B:=S.ne
 obtain ⟨⟨i,b⟩,⟨ps,j,D⟩,a0⟩:=id S
 have I:=zY D
 rw [zMJ] at I
 have n:(ps.map V.ref).isEmpty=s.row.isEmpty:=by
  cases n:ps <;> cases a1:s.row <;> simp_all
 have none_:yJ s=(s,[])->∀ r,H r=none->Q (.ref r) (upd H r (.lst [])):=λe r c=>by
  rw [e] at q
  exact q r _ (S.keep (zD.new c)) ⟨[],zC,.nil⟩ c (zD.new c)
 refine ⟨_,rfl,p,C,i,_,_,rfl,b,T.cl,T.nW,rK _ _ _ _,_,.inl ⟨_,.of j,rfl⟩,?_⟩
 dsimp only
 rw [n]
 cases a:s.row.isEmpty with
 | true=>
  refine o9 ⟨zMT _,λr c=>none_ ?_ r c⟩
  unfold yJ;rw [a];rfl
 | false=>
 refine n9 ?_
 have J:s.row ≠ []:=λz=>by rw [z] at a;cases a
 refine ⟨_,rfl,p,C,i,_,_,rfl,b,T.cl,T.nP,fR _ _ _ _,rfl,_,rfl,?_⟩
 cases u:s.ptr with
 | none=>
  refine o9 ?_
  refine ⟨_,rfl,p,C,i,_,_,rfl,b,T.cl,T.nH,iX _ _ _ _,rfl,_,rfl,?_⟩
  cases hh:s.hold with
  | none=>
   refine o9 ?_
   have L:yJ s=((wD s).1,[(wD s).2]):=by unfold yJ;rw [a,u,hh];rfl
   rw [L] at q
   refine ⟨_,rfl,p,i,_,rfl,b,zGQ _ _ _ _ (by decide +kernel) (by decide +kernel) (by decide +kernel) (by decide +kernel),p,m,s,rfl,S,J,λr H1 M h1 c k1=>⟨by show 1 <= sizeLine;decide,λl d=>?_⟩⟩
   have nl:H l=none:=by
    cases e:H l with
    | none=>rfl
    | some o=>
     by_cases z:l ∈ [p,m]
     ·obtain ⟨a3,o1⟩:=M.ob
      obtain ⟨a4,o2,_⟩:=M.rw
      simp only [List.mem_cons,zND,or_false] at z
      rcases z with z | z
      ·rw [z,o1] at d;cases d
      ·rw [z,o2] at d;cases d
     ·rw [k1 l o z e] at d;cases d
   exact q l _ (M.keep (zD.new d)) ⟨[r],zC,.cons (by rw [zK (zI h1 d)];exact h1) .nil⟩ nl (k1.trans (zD.new d))
  | some g=>
   refine n9 ⟨zMT _,λr c=>none_ ?_ r c⟩
   unfold yJ;rw [a,u,hh];rfl
 | some g=>
  refine n9 ?_
  refine ⟨_,rfl,p,C,i,_,_,rfl,b,T.cl,T.nA,zL2 _ _ _ _,_,rfl,?_⟩
  cases ha:s.asked with
  | true=>
   refine o9 ⟨zMT _,λr c=>none_ ?_ r c⟩
   unfold yJ;rw [a,u,ha];rfl
  | false=>
   refine n9 ?_
   have L:yJ s=({ s with asked:=true },[[.str NT,.str g]]):=by unfold yJ;rw [a,u,ha];rfl
   rw [L] at q
   refine ⟨_,rfl,p,C,i,_,rfl,b,T.cl,T.nA,by show 4 < 1000;decide,?_⟩
   rw [zA3]
   refine ⟨_,rfl,p,C,i,_,_,rfl,zC,T.cl,T.nP,fR _ _ _ _,by show 2 <= sizeLine;decide,λt ht=>⟨by show 1 <= sizeLine;decide,λl d=>?_⟩⟩
   obtain ⟨N,tp⟩:=zW ht
   obtain ⟨O,lt⟩:=zW d
   obtain ⟨v,lp⟩:=zW O
   have U:m ≠ t:=zI j N
   have Y:m ≠ l:=zI j v
   have kk:zD [p,m] H (upd (upd (upd H p (.ins C i (xP (z9 s.ptr) m (z9 s.hold) true))) t (.tup [.str NT,z9 s.ptr])) l (.lst [.ref t])):=((zD.at (by simp)).trans (zD.new ht)).trans (zD.new d)
   refine q l _ (S.stay (dx:=i) { s with asked:=true } ?_ ?_ rfl kk) ⟨[t],zC,.cons ?_ .nil⟩ v kk
   ·rw [zK (Ne.symm lp),zK (Ne.symm tp),zC]
   ·rw [zK Y,zK U,zK (Ne.symm B)]
   ·rw [zK (Ne.symm lt),zC,u];rfl
def t7 (K:W.Frag):Sp:=λb H Q _=>∃ x T,b=[x]/\yF K H x T/\(∀ z,x=.str z->z.length <= 1000)/\∀ a,zD [] H a->Q (.bl (xA x)) a
theorem zHG:zM Nc Nc (zG j3):=scm
theorem zH7 (G:yM K mg Sk j3 Nc) (u:Blt mg S9) (v:Blt mg "str") (y:Blt mg S8) (B:Blt mg "all") (D:Glo mg "LETTERS" (.str abc)) (I:Glo mg "LONGEST_NAME" (.int 8)) :
  Cal P w K mg base CX0 1 Sk Nc (t7 K):=by
 refine G.oz zHG (λf J A m s H U Q E Y h=>?_)
 obtain ⟨x,T,rfl,n,t,q⟩:=h
 refine ⟨_,zE (z4 (xB (y9 (zV yN u zQ (zA (pv 0) (zA (w6 v zC0) zB))))) (zF (zL wS)) zN)
  (zF (zL (uA (iG oW oW zH (zV yA y yP (zA (pv 0) zB)) (vO I))
   (uM (zV (sF rfl) B nQ (zA (wV (N:=Nc) (sc:=zG j3) (ix:=[]) (by decide +kernel) (zA8 (pv 0)) (λ_ _ _ _=>xG)
    (λC fp s H=>xI mV (pv 0) (vO D) (by with_unfolding_all rfl))) zB)))))),?_⟩
 refine ⟨_,rfl,_,_,_,_,rfl,n.ty,n.kit.1,_,rfl,?_⟩
 cases n with
 | str z=>
  have t:=t z rfl
  refine n9 ?_
  refine ⟨_,rfl,_,z.length,rfl,⟨by rw [sizeLine_eq];omega,rfl⟩,_,_,rfl,rfl,_,rfl,?_⟩
  refine mB (λo=>?_) (λo=>?_)
  ·refine ⟨_,_,rfl,rfl,_,rfl,?_⟩
   refine mB (λp=>?_) (λp=>?_)
   ·refine ⟨_,rfl,z,rfl,λacc L=>?_⟩
    refine dS (by rw [sizeLine_eq];show z.length < _;omega) (λi a j b=>∃ k,j=[k]/\a=(z.cps.toList.take i).map (λc=>V.bl (vF c))/\i <= z.cps.size/\zD [acc] H b/\b acc=some (.lst a)) ?_ ?_ ?_ ?_
    ·exact ⟨_,rfl,rfl,zMT _,zD.at (by simp),zC⟩
    ·rintro i a j b ⟨k,rfl,rfl,r,l,d⟩
     exact ⟨d,by simp;omega⟩
    ·rintro i a j b r ⟨k,rfl,rfl,_,l,d⟩
     refine ⟨_,rfl,_,_,rfl,rfl,d,_,rfl,?_,r,l.trans (zD.at (by simp)),zC⟩
     rw [List.take_add_one,zMV]
     congr 1
     have e:z.cps.toList[i]?=some (z.cps.getD i 0):=by
      rw [Array.getElem?_toList,zNI,Array.getElem?_eq_getElem r];rfl
     rw [e];rfl
    ·rintro a j b ⟨k,rfl,rfl,_,l,d⟩
     refine ⟨acc,z.cps.toList.map vF,rfl,.of ?_,?_⟩
     ·rw [d,zM8 (by simp),zM3];rfl
     ·rw [nV]
      have e:xA (.str z)=z.cps.toList.all vF:=by
       show (decide (1 <= z.length) && decide (z.length <= 8) && _)=_
       have M:1 <= z.length:=by have:=of_decide_eq_true o;omega
       have g:z.length <= 8:=by have:=of_decide_eq_true p;omega
       rw [zMY M,zMY g];rfl
      rw [<- e]
      exact q _ (l.drop L)
   ·have e:xA (.str z)=false:=by
     show (decide (1 <= z.length) && decide (z.length <= 8) && _)=_
     have g:¬ z.length <= 8:=λO=>p (zMY (by omega))
     rw [zMZ g];simp
    rw [<- e]
    exact q _ (zD.refl _)
  ·refine ⟨_,rfl,n9 ?_⟩
   have e:xA (.str z)=false:=by
    show (decide (1 <= z.length) && decide (z.length <= 8) && _)=_
    have g:¬ 1 <= z.length:=λO=>o (zMY (by omega))
    rw [zMZ g];simp
   rw [<- e]
   exact q _ (zD.refl _)
 | _=>exact o9 (q H (zD.refl _))
theorem zAM:zM Nx Nx (zG j6):=scm
def u7:Sp:=λb H Q _=>∃ z,b=[.str z]/\vP z=true/\z.length <= 1000/\∀ a,zD [] H a->Q .non a
theorem zII (G:yM K mg NZ j6 Nx) (c:Cal P w K mg base CX0 1 Sk Nc (t7 K)):Cal P w K mg base CX0 2 NZ Nx u7:=by
 refine G.oz zAM (λf d A a m H n Q E g h=>?_)
 obtain ⟨z,rfl,i,j,q⟩:=h
 have b:zZ 1 _:=g.mono (by decide)
 refine ⟨_,(zF (z4 (xB (y9 (zO c b (zA (pv 0) zB)))) (zF xK) zN)),?_⟩
 refine ⟨_,rfl,_,"str",rfl,.str z,(λo e=>by cases e;exact j),λk l=>⟨_,rfl,?_⟩⟩
 exact ifF (by show (!vP z)=false;rw [i];rfl) (q k l)
theorem zHE:zM N1 N1 (zG eV):=scm
abbrev askR (z:Str):Str × Str:=((NQ : Str),z)
theorem r9 (r x:Str × Str):eqT (yU r) (yU x)=decide (r=x):=by
 obtain ⟨a,b⟩:=r
 obtain ⟨c,e⟩:=x
 show ((2 == 2) && ((a == c) && ((b == e) && true)))=_
 by_cases d:a=c <;> by_cases f:b=e <;> simp [d,f]
theorem tW (row:LSS) (x:Str × Str):(row.map yU).any (λr=>eqT r (yU x))=decide (x ∈ row):=by
 rw [List.any_map]
 induction row with
 | nil=>simp
 | cons r row b=>
  rw [List.any_cons,b]
  show (eqT (yU r) (yU x) || decide (x ∈ row))=_
  rw [r9]
  by_cases a:r=x
  ·subst a;simp
  ·have c:¬ x=r:=λz=>a z.symm
   simp [a,c]
theorem oJ (z:Str) (o:Option Str):zAE (.str z) (z9 o)=true:=by cases o <;> rfl
theorem kZ (z:Str) (o:Option Str):decide (V.str z=z9 o)=decide (o=some z):=by
 cases o with
 | none=>simp [z9]
 | some y=>simp [z9,eq_comm]
theorem m9 (a:V) (b:Addr) (h:V) (k:Bool):(xP a b h k).lookup (Sq : Str)=none:=zGQ a b h k (by decide +kernel) (by decide +kernel) (by decide +kernel) (by decide +kernel)
theorem yE.more {H H1 H3:Hp} {s:SS} (a:H3 p=some (.ins C dx (xP (z9 s.ptr) c (z9 s.hold) s.asked)))
  (b:Paired (λq r=>H3 q=some (.tup r)) ps (s.row.map yU)) (d:H3 c=some (.lst (ps.map V.ref ++ [.ref t]))) (e:H3 t=some (.tup (yU x))) (f:s.row.length < 1000):yE C H3 p c { s with row:=s.row ++ [x] }:=by
 refine ⟨⟨dx,a⟩,⟨ps ++ [t],by rw [d,zMV];rfl,?_⟩,by show (s.row ++ [x]).length <= 1000;simp;omega⟩
 show Paired _ _ ((s.row ++ [x]).map yU)
 rw [zMV]
 exact wJ b e
def aR (C:Addr):Sp:=λc H Q _=>∃ p b s z,c=[.ref p,.str z]/\yE C H p b s/\vP z=true/\z.length <= 1000/\s.hold ≠ some z/\(askR z) ∉ s.row/\s.row.length < 1000 /\
 ∀ r a,yE C a p b (yJ { s with row:=s.row ++ [(askR z)] }).1->Rows a r (yJ { s with row:=s.row ++ [(askR z)] }).2->H r=none->zD [p,b] H a->Q (.ref r) a
theorem zH4 (T:xN K C) (G:yS K C Sa "Seat.want" eV N1) (CC:Cal P w K mg base CX0 2 NZ Nx u7) (MM:yD P w K mg base CX0 2 C Sq N4 (qM C)) :
  yD P w K mg base CX0 3 C Sa N1 (aR C):=by
 refine G.oz zHE (λf a0 A x s0 H vs Q E U h=>?_)
 obtain ⟨p,c,s,z,rfl,S0,hn,hl,hh,hi,l,q⟩:=h
 have m:zZ 2 _:=U.mono (by decide)
 have hu:=vS U
 refine ⟨_,(zE (yB (zO CC m (zA (pv 1) zB)))
   (zE (z4 (PW.pt (sX (zT xF (pv 1) (z8 (pv 0) rfl) (zX _)) (u6 (zT (kP hu) (yH (zA zJ (zA (pv 1) zB))) (z8 (pv 0) rfl) (by with_unfolding_all rfl))))) (zF xK) zN)
   (zE (yB (uD F.plainAttrs_list F.slot_list_append F.type_list_append xQ (z8 (pv 0) rfl) (zA (yH (zA zJ (zA (pv 1) zB))) zB)))
   (zF (zL (xH MM T.cl m (pv 0))))))),?_⟩
 refine ⟨_,rfl,z,rfl,hn,hl,λe y=>?_⟩
 have S:=S0.keep y
 have B:=S.ne
 obtain ⟨⟨n,a⟩,⟨u,b,i⟩,_⟩:=id S
 refine ⟨_,rfl,_,rfl,p,C,n,_,_,rfl,a,T.cl,T.nH,iX _ _ _ _,oJ _ _,_,rfl,?_⟩
 refine ifF (by rw [kZ];exact zMZ hh) ?_
 refine ⟨_,rfl,by show 2 <= sizeLine;decide,λt D=>?_⟩
 have pt:p ≠ t:=zI a D
 have wt:c ≠ t:=zI b D
 have k:zD [] e (upd e t (.tup [.str NQ,.str z])):=zD.new D
 refine ⟨_,rfl,p,C,n,_,_,rfl,(k.z a),T.cl,T.nW,rK _ _ _ _,c,t,_,s.row.map yU,rfl,rfl,(Rows.keep ⟨u,b,i⟩ k),zC,rfl,wY _,_,rfl,?_⟩
 refine ifF (by show ((s.row.map yU).any λr=>eqT r (yU (askR z)))=false;rw [tW];exact zMZ hi) ?_
 refine ⟨_,rfl,p,C,n,_,_,rfl,(k.z a),T.cl,T.nW,rK _ _ _ _,.inl ⟨rfl,_,.of (k.z b)⟩,_,rfl,by show 2 <= sizeLine;decide,λj o=>?_⟩
 have Y:zD [] (upd e t (.tup [.str NQ,.str z])) (upd (upd e t (.tup [.str NQ,.str z])) j (.tup [.str NQ,.str z])):=zD.new o
 have d:=k.trans Y
 have I:c ≠ j:=zI (k.z b) o
 have J:=zY i
 rw [zMJ] at J
 refine ⟨c,_,_,rfl,rfl,d.z b,by rw [zMJ,sizeLine_eq];omega,?_⟩
 generalize L:upd (upd e t (.tup [.str NQ,.str z])) j (.tup [.str NQ,.str z])=v at Y d ⊢
 have M:v j=some (.tup (yU (askR z))):=by rw [<- L];exact zC
 have k4:zD [p,c] e (upd v c (.lst (u.map V.ref ++ [.ref j]))):=(d.mono (by simp)).trans (zD.at (by simp))
 have g:upd v c (.lst (u.map V.ref ++ [.ref j])) p=some (.ins C n (xP (z9 s.ptr) c (z9 s.hold) s.asked)):=by rw [zK B];exact d.z a
 have S4:yE C (upd v c (.lst (u.map V.ref ++ [.ref j]))) p c { s with row:=s.row ++ [(askR z)] }:=
  yE.more (H:=H) (H1:=e) g (zP k4 (uP a b) i) zC (by rw [zK (Ne.symm I)];exact M) l
 refine ⟨_,rfl,p,n,_,rfl,g,m9 _ _ _ _,p,c,_,rfl,S4,λr H5 S5 R5 N k5=>?_⟩
 have O:=(zW N).1
 exact q r H5 S5 R5 (y.none (by simp) (d.none (by simp) O)) (((y.mono (by simp)).trans k4).trans k5)
theorem eU:zM N1 N1 (zG oK):=scm
def eQ (C:Addr):Sp:=λc H Q _=>∃ p b s z j,c=[.ref p,.str z]/\yE C H p b s/\vP z=true/\z.length <= 1000/\s.row[j]?=some (askR z)/\(∀ m,m < j->s.row[m]? ≠ some (askR z)) /\
 ∀ r a,yE C a p b (yJ { s with row:=s.row.eraseIdx j }).1->Rows a r (yJ { s with row:=s.row.eraseIdx j }).2->H r=none->zD [p,b] H a->Q (.ref r) a
theorem zEN (T:xN K C) (G:yS K C NW "Seat.leave" oK N1) (CC:Cal P w K mg base CX0 2 NZ Nx u7) (MM:yD P w K mg base CX0 2 C Sq N4 (qM C)) :
  yD P w K mg base CX0 3 C NW N1 (eQ C):=by
 refine G.oz eU (λf a1 A D s0 H vs Q E hr h=>?_)
 obtain ⟨p,c,s,z,j,rfl,S0,hn,hl,hj,I,q⟩:=h
 have o:zZ 2 _:=hr.mono (by decide)
 have hu:=vS hr
 refine ⟨_,(zE (yB (zO CC o (zA (pv 1) zB)))
   (zE (z4 (zT (sM hu) (yH (zA zJ (zA (pv 1) zB))) (z8 (pv 0) rfl) (by with_unfolding_all rfl)) (zF xK) zN)
   (zE (yB (uD F.plainAttrs_list F.slot_list_remove F.type_list_remove (o0 hu) (z8 (pv 0) rfl) (zA (yH (zA zJ (zA (pv 1) zB))) zB)))
   (zF (zL (xH MM T.cl o (pv 0))))))),?_⟩
 refine ⟨_,rfl,z,rfl,hn,hl,λk J=>?_⟩
 have S:=S0.keep J
 have L:=S.ne
 obtain ⟨⟨u,d⟩,⟨n,g,l⟩,v⟩:=id S
 refine ⟨_,rfl,by show 2 <= sizeLine;decide,λt ht=>?_⟩
 have x:zD [] k (upd k t (.tup [.str NQ,.str z])):=zD.new ht
 refine ⟨_,rfl,p,C,u,_,_,rfl,(x.z d),T.cl,T.nW,rK _ _ _ _,c,t,_,s.row.map yU,rfl,rfl,(Rows.keep ⟨n,g,l⟩ x),zC,rfl,wY _,_,rfl,?_⟩
 refine ifF (by show (!((s.row.map yU).any λr=>eqT r (yU (askR z))))=false;rw [tW,zMY (zMN hj)];rfl) ?_
 refine ⟨_,rfl,p,C,u,_,_,rfl,(x.z d),T.cl,T.nW,rK _ _ _ _,.inl ⟨rfl,_,.of (x.z g)⟩,_,rfl,by show 2 <= sizeLine;decide,λM N=>?_⟩
 have k3:zD [] (upd k t (.tup [.str NQ,.str z])) (upd (upd k t (.tup [.str NQ,.str z])) M (.tup [.str NQ,.str z])):=zD.new N
 have a:=x.trans k3
 have B:∀ b ∈ ([]:List Addr),∀ xs,k b ≠ some (.tup xs):=λb hb=>by cases hb
 refine ⟨c,M,_,s.row.map yU,j,n,rfl,rfl,a.z g,zP a B l,zC,rfl,wY _,⟨yU (askR z),by rw [zMP,hj];rfl,by
  show eqT (yU (askR z)) (yU (askR z))=true
  rw [r9];exact zMY rfl⟩,(λm r hm e=>by
  rw [zMP] at e
  cases O:s.row[m]? with
  | none=>rw [O] at e;cases e
  | some y=>
   rw [O] at e
   have e':yU y=r:=zMQ e
   rw [<- e']
   show eqT (yU y) (yU (askR z))=false
   rw [r9]
   exact zMZ (λw=>I m hm (by rw [O,w]))),?_⟩
 generalize a2:upd (upd k t (.tup [.str NQ,.str z])) M (.tup [.str NQ,.str z])=U at k3 a ⊢
 have k4:zD [p,c] k (upd U c (.lst ((n.eraseIdx j).map V.ref))):=(a.mono (by simp)).trans (zD.at (by simp))
 have i:upd U c (.lst ((n.eraseIdx j).map V.ref)) p=some (.ins C u (xP (z9 s.ptr) c (z9 s.hold) s.asked)):=by rw [zK L];exact a.z d
 have S4:yE C (upd U c (.lst ((n.eraseIdx j).map V.ref))) p c { s with row:=s.row.eraseIdx j }:=by
  refine ⟨⟨u,i⟩,⟨n.eraseIdx j,zC,?_⟩,zMU (tF s.row j) v⟩
  show Paired _ _ ((s.row.eraseIdx j).map yU)
  rw [<- sO yU]
  exact tM j (zP k4 (uP d g) l)
 refine ⟨_,rfl,p,u,_,rfl,i,m9 _ _ _ _,p,c,_,rfl,S4,λr H5 S5 R5 Y k5=>?_⟩
 have a0:=(zW Y).1
 exact q r H5 S5 R5 (J.none (by simp) (a.none (by simp) a0)) (((J.mono (by simp)).trans k4).trans k5)
theorem zAJ:zM N1 N1 (zG j4):=scm
def aZ (C:Addr):Sp:=λd H Q _=>∃ p c s z,d=[.ref p,.str z]/\yE C H p c s/\vP z=true/\z.length <= 1000/\s.hold=some z /\
 ∀ r b,yE C b p c (yJ { s with hold:=none }).1->Rows b r (yJ { s with hold:=none }).2->H r=none->zD [p,c] H b->Q (.ref r) b
theorem zIF (T:xN K C) (G:yS K C NY "Seat.done" j4 N1) (t:Cal P w K mg base CX0 2 NZ Nx u7) (u:yD P w K mg base CX0 2 C Sq N4 (qM C)) :
  yD P w K mg base CX0 3 C NY N1 (aZ C):=by
 refine G.oz zAJ (λf v A g s0 H vs Q E x h=>?_)
 obtain ⟨p,b,s,z,rfl,y,B,D,I,q⟩:=h
 have c:zZ 2 _:=x.mono (by decide)
 refine ⟨_,(zE (yB (zO t c (zA (pv 1) zB)))
   (zE (z4 (zT t8 (pv 1) (z8 (pv 0) rfl) (zX _)) (zF xK) zN)
   (zE (vN (pv 0) yQ rfl)
   (zF (zL (xH u T.cl c (pv 0))))))),?_⟩
 refine ⟨_,rfl,z,rfl,B,D,λi j=>?_⟩
 have S:=y.keep j
 have k:=S.ne
 obtain ⟨⟨a,d⟩,⟨ps,J,L⟩,n⟩:=id S
 refine ⟨_,rfl,_,rfl,p,C,a,_,_,rfl,d,T.cl,T.nH,iX _ _ _ _,oJ _ _,_,rfl,?_⟩
 refine ifF (by rw [kZ,zMY I];rfl) ?_
 refine ⟨_,rfl,p,C,a,_,rfl,d,T.cl,T.nH,by show 4 < 1000;decide,?_⟩
 rw [zGF]
 have o:zD [p,b] i (upd i p (.ins C a (xP (z9 s.ptr) b .non s.asked))):=zD.at (by simp)
 have M:yE C (upd i p (.ins C a (xP (z9 s.ptr) b .non s.asked))) p b { s with hold:=none }:=S.stay (dx:=a) { s with hold:=none } zC (by rw [zK (Ne.symm k)]) rfl o
 refine ⟨_,rfl,p,a,_,rfl,zC,m9 _ _ _ _,p,b,_,rfl,M,λr N O U l Y=>?_⟩
 have m:=(zW l).1
 exact q r N O U (j.none (by simp) m) (((j.mono (by simp)).trans o).trans Y)
theorem zDW:zM N4 N4 (zG kJ):=scm
def lU (C:Addr):Sp:=λa H Q _=>∃ p b s,a=[.ref p]/\yE C H p b s/\Q (z9 s.ptr) H
theorem zEP (T:xN K C) (G:yS K C S3 "Seat.arrow" kJ N4):yD P w K mg base CX0 1 C S3 N4 (lU C):=by
 refine G.oz zDW (λf c A a e H g Q E i h=>?_)
 obtain ⟨p,j,s,rfl,S,q⟩:=h
 obtain ⟨d,b⟩:=S.ob
 exact ⟨_,(zF (zL (z8 (pv 0) rfl))),_,rfl,p,C,d,_,_,rfl,b,T.cl,T.nP,fR _ _ _ _,q⟩
theorem zAG:zM N4 N4 (zG pT):=scm
def jU (C:Addr):Sp:=λa H Q _=>∃ p b s,a=[.ref p]/\yE C H p b s/\Q (z9 s.hold) H
theorem zBK (T:xN K C) (G:yS K C NX "Seat.inside" pT N4):yD P w K mg base CX0 1 C NX N4 (jU C):=by
 refine G.oz zAG (λf c A a e H g Q E i h=>?_)
 obtain ⟨p,j,s,rfl,S,q⟩:=h
 obtain ⟨d,b⟩:=S.ob
 exact ⟨_,(zF (zL (z8 (pv 0) rfl))),_,rfl,p,C,d,_,_,rfl,b,T.cl,T.nH,iX _ _ _ _,q⟩
theorem zKJ:zM N4 N4 (zG zD1):=scm
def zFW (C:Addr):Sp:=λa H Q _=>∃ p b s,a=[.ref p]/\yE C H p b s/\Q (.bl s.asked) H
theorem zK6 (T:xN K C) (G:yS K C NU "Seat.has_asked" zD1 N4):yD P w K mg base CX0 1 C NU N4 (zFW C):=by
 refine G.oz zKJ (λf c A a e H g Q E i h=>?_)
 obtain ⟨p,j,s,rfl,S,q⟩:=h
 obtain ⟨d,b⟩:=S.ob
 exact ⟨_,(zF (zL (z8 (pv 0) rfl))),_,rfl,p,C,d,_,_,rfl,b,T.cl,T.nA,zL2 _ _ _ _,q⟩
theorem zKF:zM N4 N4 (zG zDZ):=scm
def zFU (C:Addr):Sp:=λb H Q _=>∃ p c s,b=[.ref p]/\yE C H p c s/\∀ r a,H r=none->Rows a r (s.row.map yU)->zD [] H a->Q (.ref r) a
theorem zKZ (T:xN K C) (G:yS K C Sd "Seat.row" zDZ N4) (m:Blt mg "list"):yD P w K mg base CX0 1 C Sd N4 (zFU C):=by
 refine G.oz zKF (λf n A a u H v Q E x h=>?_)
 obtain ⟨p,o,s,rfl,S,q⟩:=h
 obtain ⟨⟨r,c⟩,⟨g,d,e⟩,i⟩:=id S
 refine ⟨_,(zF (zL (xE uH rfl m.no vR (zA (z8 (pv 0) rfl) zB)))),_,rfl,p,C,r,_,_,rfl,c,T.cl,T.nW,rK _ _ _ _,o,_,rfl,.inl (.of d),λl j=>?_⟩
 have k:zD [] H (upd H l (.lst (g.map V.ref))):=zD.new j
 exact q l _ j ⟨g,zC,zP k (λb t=>by cases t) e⟩ k
theorem zHI:zM NJ NJ (zG eZ):=scm
theorem zD8 (a:V) (b:Addr):wG Sc (.bl false) (wG Sj .non (wG Sg (.ref b) (wG Si a [])))=xP a b .non false:=by
 unfold xP
 simp only [wG,if_neg n1,if_neg n2,if_neg n3,if_neg n4,if_neg n5,if_neg n6]
def gK (C:Addr):Sp:=λd H Q _=>∃ p e a,d=[.ref p,z9 a]/\H p=some (.ins C e [])/\(∀ z,a=some z->vP z=true/\z.length <= 1000) /\
 ∀ c b,H c=none->yE C b p c ⟨a,[],none,false⟩->zD [p] H b->Q .non b
theorem zIA (T:xN K C) (G:Fun K "__init__" "Seat.__init__" eZ m fd) (n:Cal P w K mg base CX0 1 Sk Nc (t7 K)):tH P w K mg base CX0 2 m fd NJ (gK C):=by
 refine G.oz zHI (λo A d B H D Q E r h=>?_)
 obtain ⟨p,a,j,rfl,s,t,q⟩:=h
 have f:zZ 1 _:=r.mono (by decide)
 refine ⟨_,(zE (z4 (PW.pt (kM (zT vX (pv 1) yQ (zX _)) (pW (xB (y9 (zO n f (zA (pv 1) zB))))))) (zF xK) zN)
   (zE (vN (pv 0) (pv 1) rfl)
   (zE (vN (pv 0) (yL zB) rfl)
   (zE (vN (pv 0) yQ rfl)
   (zF (vN (pv 0) wS rfl)))))),?_⟩
 have rest:∀ b,zD [] H b->(oC (zAT K (u5 0) (u5 1) Si) (oC (zAT K (u5 0) (jQ rP) Sg) (oC (zAT K (u5 0) (tC .non) Sj) (zAT K (u5 0) (tC (.bl false)) Sc)))) { nx:=λ_ u=>Q .non u,rt:=Q } (L2.start NJ [.ref p,z9 j]) b:=λb c=>by
  have g:=c.z s
  refine ⟨_,rfl,_,rfl,p,C,a,_,rfl,g,T.cl,T.nP,by show 0 < 1000;decide,zMT _,λv k=>?_⟩
  obtain ⟨i,l⟩:=zW k
  refine ⟨_,rfl,p,C,a,_,rfl,by rw [zK (Ne.symm l),zC],T.cl,T.nW,by show 1 < 1000;decide,?_⟩
  refine ⟨_,rfl,p,C,a,_,rfl,zC,T.cl,T.nH,by show 2 < 1000;decide,?_⟩
  refine ⟨_,rfl,p,C,a,_,rfl,zC,T.cl,T.nA,by show 3 < 1000;decide,?_⟩
  dsimp only
  rw [zD8,uE,uE]
  refine q v _ (c.none (by simp) i) ⟨⟨a,zC⟩,⟨[],by rw [zK l,zC];rfl,.nil⟩,zMT _⟩ ?_
  exact ((((c.mono (by simp)).trans (zD.at (by simp))).trans (zD.new k))).trans (zD.at (by simp))
 cases j with
 | none=>exact ⟨_,rfl,rfl,_,rfl,ifF rfl (ifF rfl (rest H (zD.refl _)))⟩
 | some z=>
  obtain ⟨x,y⟩:=t z rfl
  refine ⟨_,rfl,rfl,_,rfl,ifT rfl ?_⟩
  refine ⟨_,rfl,_,"str",rfl,.str z,(λL e=>by cases e;exact y),λb c=>⟨_,rfl,?_⟩⟩
  exact ifF (by show (!vP z)=false;rw [x];rfl) (rest b c)
end
abbrev oN:Stmt:=top 41
def Alk (H:Hp):Nat->V->V->Prop
 | 0,u,v=>u=v/\xD u=true
 | n + 1,u,v=>(u=v/\xD u=true) \/ ∃ a b c d,u=.ref a/\v=.ref b/\((H a=some (.lst c)/\H b=some (.lst d)) \/ (H a=some (.tup c)/\H b=some (.tup d)))/\Paired (Alk H n) c d/\c.length <= 2000
theorem Alk.flat (n:Nat) (f:xD u=true):Alk H n u u:=by
 cases n with
 | zero=>exact ⟨rfl,f⟩
 | succ n=>exact .inl ⟨rfl,f⟩
theorem Alk.keep (k:zD [] H c):∀ (n:Nat) {u v:V},Alk H n u v->Alk c n u v
 | 0,_,_,h=>h
 | n + 1,_,_,.inl h=>.inl h
 | n + 1,_,_,.inr ⟨a,b,d,e,f,g,i,j,l⟩=>.inr ⟨a,b,d,e,f,g,i.elim (λz=>.inl ⟨k.z z.1,k.z z.2⟩) (λz=>.inr ⟨k.z z.1,k.z z.2⟩),L2.Paired.mapP j λx y z=>Alk.keep k n z,l⟩
theorem fQ (f:xD u=true):∃ T,yF K H u T/\T ≠ "list"/\T ≠ "tuple":=by
 cases u with
 | non=>exact ⟨_,.non,by decide,by decide⟩
 | bl b=>exact ⟨_,.bl b,by decide,by decide⟩
 | int i=>exact ⟨_,.int i,by decide,by decide⟩
 | str z=>exact ⟨_,.str z,by decide,by decide⟩
 | _=>exact absurd (show false=true from f) zNB
theorem zGJ (h:yF K H x T):W.kitAny K (.type T) [.type "list",.type "tuple"]=some (T == "list" || T == "tuple"):=by
 cases h <;> rfl
section
variable {P:Program} {w:World} {K:W.Frag} {mg:Str->Option Value} {base:Heap} {C:Addr}
theorem zDX:zM Nw Nw (zG oN):=scm
noncomputable def zJ7:Nat->Sp
 | 0=>λ_ _ _ _=>False
 | n + 1=>λb H Q _=>∃ u v,b=[u,v]/\Alk H n u v/\∀ a,zD [] H a->Q (.bl true) a
theorem zEY (h:(H a=some (.lst us)/\H b=some (.lst vs)) \/ (H a=some (.tup us)/\H b=some (.tup vs))):zFO K (.ref a) H us.length/\zFO K (.ref b) H vs.length:=by
 rcases h with ⟨c,d⟩ | ⟨c,d⟩
 ·exact ⟨.inl ⟨_,.of c,rfl⟩,.inl ⟨_,.of d,rfl⟩⟩
 ·exact ⟨.inr ⟨_,.of c,rfl⟩,.inr ⟨_,.of d,rfl⟩⟩
theorem zGY (h:(H a=some (.lst us)/\H b=some (.lst vs)) \/ (H a=some (.tup us)/\H b=some (.tup vs))):∃ T,yF K H (.ref a) T/\yF K H (.ref b) T/\(T="list" \/ T="tuple"):=by
 rcases h with ⟨c,d⟩ | ⟨c,d⟩
 ·exact ⟨_,.lst c,.lst d,.inl rfl⟩
 ·exact ⟨_,.tup c,.tup d,.inr rfl⟩
theorem j8 (k:zD [] H c) (h:(H a=some (.lst us)/\H b=some (.lst vs)) \/ (H a=some (.tup us)/\H b=some (.tup vs))):(c a=some (.lst us)/\c b=some (.lst vs)) \/ (c a=some (.tup us)/\c b=some (.tup vs)):=
 h.elim (λz=>.inl ⟨k.z z.1,k.z z.2⟩) (λz=>.inr ⟨k.z z.1,k.z z.2⟩)
theorem dM (G:yM K mg "_law_alike" oN Nw) (c:Blt mg S9) (g:Blt mg "list") (d:Blt mg "tuple") (j:Blt mg "bool") (l:Blt mg S8) (r:Blt mg "all") (o:Blt mg Su) :
  ∀ n,Cal P w K mg base CX0 n "_law_alike" Nw (zJ7 n)
 | 0=>by
  obtain ⟨f,fd,F,hm,hb⟩:=G.ex
  exact ⟨f,fd,⟨λ_ _ _ _ h=>h.elim,λ_ _ _ _ _ _ _ _ _ _ _ _ _ h=>h.elim⟩,hm,F.kp,hb⟩
 | n + 1=>by
  have CA:=dM G c g d j l r o n
  refine G.oz zDX (λf a6 A a3 s0 H I Q E hr h=>?_)
  obtain ⟨u,v,rfl,hA,q⟩:=h
  refine ⟨_,(zE (z4 (y9 (zV jF c zQ (zA (pv 1) (zA (yH (zA (w6 g vR) (zA (w6 d nO) zB))) zB)))) (zE (z4 (PW.pt (sX (zT t8 (zV yN c zQ (zA (pv 1) (zA (w6 g vR) zB))) (zV yN c zQ (zA (pv 0) (zA (w6 g vR) zB))) (zX _)) (u6 (zT t8 (zV yN c zQ (zA (pv 1) (zA (w6 d nO) zB))) (zV yN c zQ (zA (pv 0) (zA (w6 d nO) zB))) (zX _))))) (zF (zL wS)) zN)
   (zE (z4 (zT t8 (zV yA l yP (zA (pv 0) zB)) (zV yA l yP (zA (pv 1) zB)) (zX _)) (zF (zL wS)) zN)
   (zF (zL (zV (sF rfl) r nQ (zA (wV (N:=Nw) (sc:=zG oN) (ix:=[0,1]) (by decide +kernel) (vJ rfl o.no (zA (zV yA l yP (zA (pv 1) zB)) zB)) (λ_ _ _ _=>xG) (λ_ _ _ _=>(zO CA hr (zA (zS (z6.or zU) (pv 1) (pv 0) (λ_ _=>rfl)) (zA (zS (z6.or zU) (pv 2) (pv 0) (λ_ _=>rfl)) zB))))) zB)))))) zN)
   (zF (zL (uA (xI xF (zV yN c zQ (zA (pv 0) (zA (w6 j uX) zB))) (zV yN c zQ (zA (pv 1) (zA (w6 j uX) zB))) (zX _)) (uM (xI xF (pv 0) (pv 1) (zX _))))))),?_⟩
  have a4:(u=v/\xD u=true) \/ ∃ a b D I m,u=.ref a/\v=.ref b/\((H a=some (.lst D)/\H b=some (.lst I)) \/ (H a=some (.tup D)/\H b=some (.tup I)))/\n=m + 1/\Paired (Alk H m) D I/\D.length <= 2000:=by
   cases n with
   | zero=>exact .inl hA
   | succ m=>
    rcases hA with h | ⟨a,b,D,I,e1,e2,hh,hp,hl⟩
    ·exact .inl h
    ·exact .inr ⟨a,b,D,I,m,e1,e2,hh,rfl,hp,hl⟩
  rcases a4 with ⟨rfl,fu⟩ | ⟨a,b,D,I,m,rfl,rfl,hh,rfl,hp,hl⟩
  ·obtain ⟨T,U,n1,n2⟩:=fQ (K:=K) (H:=H) fu
   have sc:zAE u u=true:=by
    cases u <;> first | rfl | exact absurd (show false=true from fu) zNB
   refine ⟨_,rfl,by show 2 <= sizeLine;decide,λt ht=>?_⟩
   have s:zD [] H (upd H t (.tup [.ty "list",.ty "tuple"])):=zD.new ht
   refine ⟨_,T,t,["list","tuple"],_,rfl,U.keep s,zC,zGJ (U.keep s),_,rfl,?_⟩
   refine ifF (by simp [n1,n2]) ?_
   have kt:=(U.keep s).kit.2.2.1
   refine ⟨_,rfl,_,_,_,_,rfl,(U.keep s).ty,kt,_,rfl,_,_,_,_,rfl,(U.keep s).ty,kt,rfl,_,rfl,?_⟩
   refine ifT (by simp) ⟨_,rfl,_,rfl,sc,?_⟩
   rw [zMY rfl]
   exact q _ s
  ·have Y:=zY hp
   refine ⟨_,rfl,by show 2 <= sizeLine;decide,λt ht=>?_⟩
   have s:zD [] H (upd H t (.tup [.ty "list",.ty "tuple"])):=zD.new ht
   generalize a5:upd H t (.tup [.ty "list",.ty "tuple"])=H1 at s ⊢
   have L:=j8 s hh
   obtain ⟨T,pa,O,hT⟩:=zGY (K:=K) L
   refine ⟨_,T,t,["list","tuple"],_,rfl,O,by rw [<- a5];exact zC,zGJ O,_,rfl,?_⟩
   refine ifT (by rcases hT with h | h <;> rw [h] <;> rfl) ?_
   refine ⟨_,rfl,_,_,_,_,rfl,O.ty,O.kit.2.2.2.1,_,rfl,_,_,_,_,rfl,pa.ty,pa.kit.2.2.2.1,rfl,_,rfl,?_⟩
   refine ifF (by simp) ?_
   refine ⟨_,rfl,_,_,_,_,rfl,O.ty,O.kit.2.2.2.2,_,rfl,_,_,_,_,rfl,pa.ty,pa.kit.2.2.2.2,rfl,_,rfl,?_⟩
   refine ifF (by simp) ?_
   obtain ⟨l1,l2⟩:=zEY (K:=K) L
   refine ⟨_,rfl,_,_,rfl,l1,_,rfl,_,_,rfl,l2,rfl,_,rfl,?_⟩
   refine ifF (by rw [Y];simp) ?_
   refine ⟨_,rfl,_,_,rfl,l2,_,rfl,by omega,by omega,λacc J=>?_⟩
   refine sQ (by rw [sizeLine_eq];omega) (λi ys τ B=>∃ k,τ=[k,some (.ref a),some (.ref b)]/\ys=List.replicate i (V.bl true)/\zD [acc] H1 B/\B acc=some (.lst ys)) ?_ ?_ ?_ ?_
   ·exact ⟨_,rfl,rfl,zD.at (by simp),zC⟩
   ·rintro i ys τ B ⟨k,rfl,rfl,kp,h2⟩
    exact ⟨h2,by simp⟩
   ·rintro i ys τ B hi ⟨k,rfl,rfl,kp,h2⟩
    have a7:i < I.length:=by omega
    have a0:i < D.length:=by omega
    have k2:zD [] H1 B:=kp.drop J
    have a1:=j8 k2 L
    obtain ⟨y,ey,ay⟩:=wE hp i D[i] (zMK a0)
    have a2:∀ {p:Addr} {M:List V} {x:V} {Q:VK},M[i]?=some x->(B p=some (.lst M) \/ B p=some (.tup M))->Q x B->(iB (.ref p) (.int (0 + (i:Int))) B Q \/ iA (.ref p) (.int (0 + (i:Int))) B Q):=λ{p M x Q} e1 e2 e3=>by
     have e4:atI M (0 + (i:Int))=some x:=by rw [Int.zero_add];exact uI e1
     exact e2.elim (λz=>.inl ⟨p,M,_,x,rfl,rfl,z,e4,e3⟩) (λz=>.inr ⟨p,M,_,x,rfl,rfl,z,e4,e3⟩)
    refine ⟨_,rfl,_,rfl,a2 (zMK a0) (a1.imp (·.1) (·.1)) ⟨_,rfl,_,rfl,a2 ey (a1.imp (·.2) (·.2)) ?_⟩⟩
    refine ⟨D[i],y,rfl,Alk.keep (s.trans k2) m ay,λH3 k3=>⟨k3.z h2,_,rfl,?_,(kp.trans (k3.mono (by simp))).trans (zD.at (by simp)),zC⟩⟩
    rw [List.replicate_succ']
   ·rintro ys τ B ⟨k,rfl,rfl,kp,h2⟩
    refine ⟨acc,List.replicate _ true,rfl,.of (by rw [h2,List.map_replicate]),?_⟩
    have e:(List.replicate ((I.length:Nat):Int).toNat true).all id=true:=by simp
    rw [e]
    exact q _ (s.trans (kp.drop J))
end
abbrev dA:Stmt:=top 34
abbrev kG:Stmt:=top 35
abbrev pU:Stmt:=top 36
abbrev eW:Stmt:=top 37
abbrev qQ:Stmt:=top 38
def Src (H:Hp) (p:Addr):Prop:=∃ a b c:Int,H p=some (.lst [.int a,.int b,.int c])
def qF (z:Str):Prop:=∀ c ∈ z.cps.toList,vF c=true
theorem zFM:∀ c ∈ abc.cps.toList,vF c=true:=by decide +kernel
theorem zEX (b:qF x) (d:qF y):qF (x ++ y):=by
 intro c a
 have e:(x ++ y).cps.toList=x.cps.toList ++ y.cps.toList:=by
  show (x.cps ++ y.cps).toList=_
  simp
 rw [e] at a
 exact (zM0.mp a).elim (b c) (d c)
theorem dR (h:ch ∈ abc.cps.toList):qF ⟨#[ch]⟩:=λc a=>by
 have e:c=ch:=by simpa using a
 rw [e];exact zFM ch h
theorem bG (h:qF x) (lo b:Option Int):qF (Txt.slice x lo b):=by
 intro c a
 unfold Txt.slice at a
 split at a
 ·exact h c a
 ·simp only [List.mem_filterMap] at a
  obtain ⟨i,_,e⟩:=a
  exact h c (by
   rw [<- Array.getElem?_toList] at e
   exact zMN e)
theorem iR:∀ (zs:List Str) (acc:Array Nat),(∀ c ∈ acc.toList,vF c=true)->(∀ z ∈ zs,qF z)->∀ c ∈ (zs.foldl (λacc p=>acc ++ (Str.ofString "").cps ++ p.cps) acc).toList,vF c=true
 | [],acc,h,_=>h
 | z :: zs,acc,h,b=>by
  rw [List.foldl_cons]
  refine iR zs _ (λc d=>?_) λy e=>b y (zMW _ e)
  have a:c ∈ acc.toList ++ (Str.ofString "").cps.toList ++ z.cps.toList:=by simpa using d
  rcases zM0.mp a with q | q
  ·rcases zM0.mp q with q | q
   ·exact h c q
   ·exact absurd q (by show ¬ c ∈ ([]:List Nat);simp)
  ·exact b z zNC c q
theorem zBY (zs:List Str) (h:∀ z ∈ zs,qF z):qF (Txt.join (Str.ofString "") zs):=by
 cases zs with
 | nil=>intro c a;exact absurd a (by show ¬ c ∈ ([]:List Nat);simp)
 | cons z zs=>
  show ∀ c ∈ ((zs.foldl (λacc p=>acc ++ (Str.ofString "").cps ++ p.cps) z.cps)).toList,vF c=true
  exact iR zs _ (h z zNC) λy b=>h y (zMW _ b)
theorem zES (h:qF z) (a:1 <= z.length) (b:z.length <= 8):vP z=true:=by
 unfold vP
 rw [zMY a,zMY b]
 simp only [Bool.true_and]
 exact List.all_eq_true.mpr h
section
variable {P:Program} {w:World} {K:W.Frag} {mg:Str->Option Value} {base:Heap} {C:Addr}
def lT:Sp:=λb H Q _=>∃ a k,b=[.int a,.int k]/\∀ v:Int,0 <= v->v < 2147483629->Q (.int v) H
theorem pS:zM ["_law_cell","_law_k","_law_number"] NI (zG kG):=scm
theorem zEM (G:yM K mg "_law_mixed" kG NI):Cal P w K mg base CX0 1 "_law_mixed" NI lT:=by
 refine G.oz pS (λf c A b s H d Q E e h=>?_)
 obtain ⟨a,k,rfl,q⟩:=h
 refine ⟨_,zE (z7 (i:=2) pS.nd rfl (Or.inl rfl) (yG tO (yG qS (yG wP (yG wP (yG tO (pv 0) zH) (yG qS zH (pv 1))) zH) zH) zH))
  (zE (z7 (i:=2) pS.nd rfl (Or.inl rfl) (yG tO (yG qS (pv 2) (yG wP (yG pX (pv 2) zH) zH)) zH))
  (zE (z7 (i:=2) pS.nd rfl (Or.inl rfl) (yG tO (yG qS (pv 2) (yG wP (yG wP (yG pX (pv 2) zH) zH) (pv 1))) zH))
  (zF (zL (yG tO (yG qS (pv 2) (yG wP (yG pX (pv 2) zH) zH)) zH))))),?_⟩
 simp [oC,oE,cM,tOp,rI,rI0,u5,tC,wA,L2.start,aG,zFR]
 refine ⟨by omega,by omega,by omega,q _ (by omega) (by omega)⟩
def oH:Sp:=λe H Q _=>∃ a,e=[.int a]/\∀ p b c d,H p=none->Q (.ref p) (upd H p (.lst [.int b,.int c,.int d]))
theorem zAK:zM Nz Nz (zG pU):=scm
theorem zBL (G:yM K mg SG pU Nz):Cal P w K mg base CX0 1 SG Nz oH:=by
 refine G.oz zAK (λf c A b s H e Q E g h=>?_)
 obtain ⟨a,rfl,q⟩:=h
 refine ⟨_,zF (zL (yL (zA (yG qS (yG pX (pv 0) zH) (yG zBH zH (yG tO (pv 0) zH))) (zA (pv 0) (zA zH zB))))),?_⟩
 simp [oC,oE,cM,tOp,rI,rI0,u5,tC,wA,L2.start,aG,zFR,jQ,uC,rP]
 refine ⟨by omega,cN (by decide) |> Nat.le_of_lt,λp d=>q p _ _ _ d⟩
def qL:Sp:=λd H Q _=>∃ p a b c m,d=[.ref p,.int m]/\H p=some (.lst [.int a,.int b,.int c])/\0 < m/\m < 4611686018427387904 /\
 ∀ v e f:Int,0 <= v->v < m->Q (.int v) (upd H p (.lst [.int e,.int b,.int f]))
theorem zAF:zM ["_law_source","_law_many","_law_found"] N8 (zG eW):=scm
theorem zH6 (G:yM K mg Sn eW N8) (g:Cal P w K mg base CX0 1 "_law_mixed" NI lT):Cal P w K mg base CX0 2 Sn N8 qL:=by
 refine G.oz zAF (λf j A e s H r Q E k h=>?_)
 obtain ⟨p,a,b,c,m,rfl,l,d,n,q⟩:=h
 refine ⟨_,zE (z4 (zT zGI (zS z6 (pv 0) zH (λ_ _=>rfl)) zH (zX _))
   (zE (z7 (i:=2) zAF.nd rfl (Or.inl rfl) (yG tO (zS z6 (pv 0) zH (λ_ _=>rfl)) (pv 1)))
   (zE (qR (yG zBI (zS z6 (pv 0) zH (λ_ _=>rfl)) (pv 1)) (zBA (pv 0) zH jX))
   (zF (zL (pv 2))))) zN)
  (zE (qR (yG wP (zS z6 (pv 0) zH (λ_ _=>rfl)) zH) (zBA (pv 0) zH jX))
  (zF (zL (yG tO (zO g k (zA (zS z6 (pv 0) zH (λ_ _=>rfl)) (zA (zS z6 (pv 0) zH (λ_ _=>rfl)) zB))) (pv 1))))),?_⟩
 simp [oC,oE,cM,tOp,rI,rI0,u5,tC,wA,L2.start,aG,zFR,jQ,uC,rP,zDH,jO,eE,zLZ,iB,zGC,eF,lT,l,atI,ixN,zC,uE]
 refine mB (λo=>⟨d,⟨d,n⟩,q _ _ _ (Int.emod_nonneg _ (by omega)) (Int.emod_lt_of_pos _ d)⟩) (λo v v0 v1=>⟨d,q _ _ _ (Int.emod_nonneg _ (by omega)) (Int.emod_lt_of_pos _ d)⟩)
theorem zHL:zM ND ND (zG dA):=scm
def a9 (K:W.Frag):Sp:=λb H Q _=>∃ (a:Addr) (c:List Int) (k:Int),b=[.ref a,.int k]/\SqL K H a (c.map V.int)/\0 <= k/\∀ v:Int,Q (.int v) H
theorem zIJ (G:yM K mg SR dA ND) (b:Blt mg S8):Cal P w K mg base CX0 1 SR ND (a9 K):=by
 refine G.oz zHL (λf l A d r H s Q E t h=>?_)
 obtain ⟨a,m,k,rfl,g,n,q⟩:=h
 refine ⟨_,(zE (z4 (zT dJ (pv 1) (zV yA b yP (zA (pv 0) zB)) (zX _)) (zF (zL (zS dX (pv 0) (pv 1) (λ_ _=>rfl)))) zN)
   (zF (zL zH))),?_⟩
 refine ⟨_,rfl,_,rfl,_,_,rfl,.inl ⟨_,g,rfl⟩,_,_,rfl,rfl,_,rfl,?_⟩
 refine mB (λi=>?_) (λi=>q 0)
 have e:=of_decide_eq_true i
 obtain ⟨v,o,c⟩:=tU n e
 rw [zMP] at c
 cases j:m[k.toNat]? with
 | none=>rw [j] at c;cases c
 | some z=>
  rw [j] at c
  have p:=zMQ c
  subst p
  exact ⟨_,rfl,_,rfl,a,_,k,_,rfl,rfl,g,o,q z⟩
theorem pR:zM Ni N8 (zG qQ):=scm
theorem gJ {xs:List Str} {y:TE} {n:Nat} {A:St} {H1:Hp} {Q:VK} {acc p:Addr} {ix:List Nat} {rest:List (Option V)} (I:n <= 100) (B:Src H1 p) (D:H1 acc=none)
  (o:stC xs ix A=none :: rest)
  (G:∀ (k:V) (d:Hp) (R:VK),Src d p->(∀ (ch:Nat) (H3:Hp),ch ∈ abc.cps.toList->zD [p] d H3->Src H3 p->R (.str ⟨#[ch]⟩) H3)->y (some k :: rest) d R)
  (q:∀ (zs:List Str) (d:Hp),zs.length=n->(∀ z ∈ zs,qF z/\z.length=1)->zD [p] H1 d->Src d p->d acc=some (.lst (zs.map V.str))->Q (.ref acc) d) :
  LCW (Itr 0 n) xs ix (wA 0) sT y A H1 acc Q:=by
 have r:acc ≠ p:=by
  obtain ⟨a,b,c,h⟩:=B
  exact Ne.symm (zI h D)
 refine sQ (by rw [sizeLine_eq];omega) (λi f l d=>∃ (zs:List Str) (k:Option V),l=k :: rest/\f=zs.map V.str/\zs.length=i/\(∀ z ∈ zs,qF z/\z.length=1)/\zD [acc,p] H1 d/\Src d p/\d acc=some (.lst f)) ?_ ?_ ?_ ?_
 ·obtain ⟨a,b,c,h⟩:=B
  exact ⟨[],none,o,rfl,rfl,(λz s=>by cases s),zD.at (by simp),⟨a,b,c,by rw [zK (Ne.symm r)];exact h⟩,zC⟩
 ·rintro i f l d ⟨zs,k,rfl,rfl,m,_,_,_,g⟩
  exact ⟨g,by rw [zMJ];omega⟩
 ·rintro i f l d J ⟨zs,k,rfl,rfl,m,t,u,e,g⟩
  refine G _ d _ e λch H3 H E j=>?_
  obtain ⟨a,b,c,v⟩:=j
  refine ⟨E _ _ (by simp [r]) g,zs ++ [⟨#[ch]⟩],_,rfl,by simp,by simp [m],?_,(u.trans (E.mono (by simp))).trans (zD.at (by simp)),⟨a,b,c,by rw [zK (Ne.symm r)];exact v⟩,zC⟩
  intro z s
  rcases zM0.mp s with x | x
  ·exact t z x
  ·rw [zMM.mp x];exact ⟨dR H,rfl⟩
 ·rintro f l d ⟨zs,k,rfl,rfl,m,t,u,e,g⟩
  exact q zs d m t (u.drop D) e g
theorem eG (zs:List Str) (h:∀ z ∈ zs,qF z/\z.length=1):(zs.map (·.length)).sum=zs.length:=jR zs λz a=>(h z a).2
def yT (z:Str):Prop:=vP z=true/\z.length <= 8
def lK (st:Int) (a:List Str):Prop:=∀ (j:Nat) (z:Str),a[j]?=some z->z.cps.toList.getLast?=abc.cps.toList[((st + (0 + (j:Int))) % 26).toNat]?
theorem lK.snoc (h:lK st b) (e:abc.cps.toList[((st + (0 + (b.length:Int))) % 26).toNat]?=some ch):lK st (b ++ [x ++ ⟨#[ch]⟩]):=by
 intro j z a
 by_cases c:j < b.length
 ·rw [zM7 c] at a
  exact h j z a
 ·rw [zM6 (by omega)] at a
  have d:j=b.length:=by
   have:=(zML.mp a).1
   simp at this;omega
  subst d
  rw [Nat.sub_self] at a
  have f:x ++ (⟨#[ch]⟩:Str)=z:=zMQ a
  rw [<- f,e]
  show (x.cps ++ #[ch]).toList.getLast?=_
  simp
theorem lJ:abc.cps.toList.Nodup/\abc.cps.toList.length=26:=by decide +kernel
theorem lK.nodup (h:lK st d) (m:d.length <= 26):d.Nodup:=by
 rw [List.nodup_iff_pairwise_ne,List.pairwise_iff_getElem]
 intro i j f g k e
 have a:=h i _ (zMK f)
 have b:=h j _ (zMK g)
 rw [e] at a
 have c:=a.symm.trans b
 have l:((st + (0 + (i:Int))) % 26).toNat < abc.cps.toList.length:=by rw [lJ.2];omega
 have:=(List.getElem?_inj l lJ.1).mp c
 omega
def eM:Sp:=λc H Q _=>∃ (p:Addr) (m:Int),c=[.ref p,.int m]/\Src H p/\0 <= m/\m <= 26 /\
 ∀ (r:Addr) (a:List Str) (b:Hp),H r=none->b r=some (.lst (a.map V.str))->a.length=m.toNat->(∀ z ∈ a,yT z)->a.Nodup->zD [p] H b->Src b p->Q (.ref r) b
theorem zEK (G:yM K mg "_law_names" qQ N8) (CN:Cal P w K mg base CX0 2 Sn N8 qL) (g:Blt mg Su):Cal P w K mg base CX0 3 "_law_names" N8 eM:=by
 refine G.oz pR (λf a6 A a0 s0 H vs Q E hr h=>?_)
 obtain ⟨p,m,rfl,⟨a,b,c,hp⟩,m0,m1,q⟩:=h
 have t:zZ 2 _:=hr.mono (by decide)
 refine ⟨_,(zE (z7 (i:=2) pR.nd rfl (Or.inr rfl) zJ)
   (zE (z7 (i:=3) pR.nd rfl (Or.inr rfl) (zO CN t (zA (pv 0) (zA zH zB))))
   (zE (z7 (i:=4) pR.nd rfl (Or.inr rfl) (uD F.plainAttrs_str F.slot_str_join F.type_str_join zEU zJ (zA (wV (N:=Ni) (sc:=zG qQ) (ix:=[2,0]) (by decide +kernel) (vJ rfl g.no (zA zH zB)) (λ_ _ _ _=>xG) (λ_ _ _ _=>(zS fM (pv 1) (zO CN t (zA (pv 2) (zA zH zB))) (λ_ _=>rfl)))) zB)))
   (zF (zL (wV (N:=Ni) (sc:=zG qQ) (ix:=[4,2,0,3]) (by decide +kernel) (vJ rfl g.no (zA (pv 1) zB)) (λ_ _ _ _=>xG) (λ_ _ _ _=>(yG rC (xT lW (pv 1) wZ (xW (zO CN t (zA (pv 3) (zA zH zB))))) (zS fM (pv 2) (yG tO (yG wP (pv 4) (pv 0)) zH) (λ_ _=>rfl)))))))))),?_⟩
 refine ⟨_,rfl,p,a,b,c,26,rfl,hp,by decide,by decide,λst a1 c1 a7 aa=>?_⟩
 have k1:zD [p] H (upd H p (.lst [.int a1,.int b,.int c1])):=zD.at (by simp)
 generalize a4:upd H p (.lst [.int a1,.int b,.int c1])=H1 at k1 ⊢
 have s1:Src H1 p:=⟨a1,b,c1,by rw [<- a4];exact zC⟩
 refine ⟨rfl,7,rfl,by decide,by decide,λacc ha=>?_⟩
 refine gJ (p:=p) (by decide) s1 ha rfl (λk H2 R ⟨a2,O,c2,hs⟩ R'=>?_) ?_
 ·refine ⟨_,rfl,_,rfl,p,a2,O,c2,26,rfl,hs,by decide,by decide,λv2 a3 c3 w0 w1=>?_⟩
  obtain ⟨M,u,r⟩:=tU (xs:=abc.cps.toList) w0 (show v2 < ((26:Nat):Int) from w1)
  exact ⟨_,v2,M,rfl,rfl,by decide,u,R' M _ (zMN r) (zD.at (by simp)) ⟨a3,O,c3,zC⟩⟩
 intro B H2 T D k2 s2 h2
 refine ⟨"",acc,B,rfl,rfl,.of h2,by rw [eG B D,T];decide,?_⟩
 have n:qF (Txt.join (Str.ofString "") B):=zBY B λz h=>(D z h).1
 have o:(Txt.join (Str.ofString "") B).length=7:=by rw [zCB,eG B D,T];rfl
 generalize Txt.join (Str.ofString "") B=d at n o ⊢
 refine ⟨_,rfl,m,rfl,by omega,by omega,λl I=>?_⟩
 have U:l ≠ p:=by
  obtain ⟨x,y,z,h⟩:=s2
  exact Ne.symm (zI h I)
 have na:H l=none:=k1.none (by simp [U]) (k2.none (by simp [U]) I)
 refine sQ (by rw [sizeLine_eq];omega) (λi Y τ J=>∃ s k,τ=k :: [some (.str d),some (.str abc),some (.ref p),some (.int st)]/\Y=s.map V.str/\s.length=i/\(∀ z ∈ s,yT z)/\lK st s/\zD [l,p] H2 J/\Src J p/\J l=some (.lst Y)) ?_ ?_ ?_ ?_
 ·obtain ⟨x,y,z,h⟩:=s2
  exact ⟨[],none,rfl,rfl,rfl,(λz D=>by cases D),(λj z e=>by simp at e),zD.at (by simp),⟨x,y,z,by rw [zK (Ne.symm U)];exact h⟩,zC⟩
 ·rintro i Y τ J ⟨s,k,rfl,rfl,hl,_,_,_,_,h3⟩
  exact ⟨h3,by rw [zMJ];omega⟩
 ·rintro i Y τ J hi ⟨s,k,rfl,rfl,hl,h1,L,kp,⟨a2,O,c2,hs⟩,h3⟩
  refine ⟨_,rfl,_,rfl,p,a2,O,c2,8,rfl,hs,by decide,by decide,λv a3 c3 v0 v1=>⟨v,rfl,d,rfl,by rw [o,sizeLine_eq];decide,?_⟩⟩
  refine ⟨_,rfl,_,rfl,_,rfl,_,_,rfl,rfl,_,_,rfl,rfl,(by show (0:Int) < 26;decide),?_⟩
  have g0:0 <= (st + (0 + (i:Int))) % 26:=Int.emod_nonneg _ (by decide)
  have g1:(st + (0 + (i:Int))) % 26 < 26:=Int.emod_lt_of_pos _ (by decide)
  obtain ⟨M,u,r⟩:=tU (xs:=abc.cps.toList) g0 (show (st + (0 + (i:Int))) % 26 < ((26:Nat):Int) from g1)
  have e1:=Txt.slice_le d none (some v)
  refine ⟨_,_,M,rfl,rfl,by decide,u,_,_,rfl,rfl,by rw [sizeLine_eq];show _ + 1 <= _;omega,?_⟩
  refine ⟨by rw [zK U];exact h3,s ++ [Txt.slice d none (some v) ++ ⟨#[M]⟩],_,rfl,by simp,by simp [hl],?_,L.snoc (by rw [hl];exact r),(kp.trans (zD.at (by simp))).trans (zD.at (by simp)),⟨a3,O,c3,by rw [zK (Ne.symm U),zC]⟩,zC⟩
  intro z D
  rcases zM0.mp D with z1 | z1
  ·exact h1 z z1
  ·rw [zMM.mp z1]
   have el:(Txt.slice d none (some v) ++ (⟨#[M]⟩:Str)).length=(Txt.slice d none (some v)).length + 1:=by rw [pY];rfl
   exact ⟨zES (zEX (bG n _ _) (dR (zMN r))) (by omega) (by omega),by omega⟩
 ·rintro Y τ J ⟨s,k,rfl,rfl,hl,h1,L,kp,a5,h3⟩
  exact q l s J na h3 hl h1 (L.nodup (by omega)) ((k1.trans k2).trans (kp.drop I)) a5
end
abbrev kE:Stmt:=top 20
abbrev j7:Stmt:=top 21
abbrev zDY:Stmt:=top 22
abbrev sNb:Stmt:=top 28
abbrev zAV:Stmt:=top 29
theorem qV (zs:List Str):(zs.map V.str).all xD=true:=by
 rw [List.all_map,List.all_eq_true];exact λ_ _=>rfl
theorem zBU (h:pE zs=zs.length):zs.Nodup:=by
 have go:∀ val n,(wT val n).length=n->∀ i j,i < j->j < n->val i ≠ val j:=by
  intro val n
  induction n with
  | zero=>intro _ i j _ f;omega
  | succ n l=>
   intro d i j b f e
   rw [tD] at d
   have le:=tP val n
   have any:∀ m k a,a < m->val a=k->(wT val m).any (· == k)=true:=by
    intro m
    induction m with
    | zero=>intro k a o;omega
    | succ m p=>
     intro k a o g
     rw [tE]
     by_cases q:a=m
     ·subst q;rw [g];simp
     ·rw [p k a (by omega) g];rfl
   cases c:(wT val n).any (· == val n) with
   | true=>rw [c] at d;simp only [if_true] at d;omega
   | false=>
    rw [c] at d
    simp only [Bool.false_eq_true,if_false] at d
    by_cases r:j=n
    ·subst r
     rw [any j (val j) i b e] at c
     cases c
    ·exact l (by omega) i j b (by omega) e
 rw [List.nodup_iff_pairwise_ne,List.pairwise_iff_getElem]
 intro i j s f b e
 refine go (λi=>zs.getD i Str.empty) zs.length h i j b f ?_
 simp only [zMO,zMK s,zMK f,Option.getD_some]
 exact e
theorem bF (zs:List Str):decide (V.int ((pE zs:Nat):Int)=V.int (zs.length:Int))=decide zs.Nodup:=by
 by_cases h:zs.Nodup
 ·rw [iQ h];simp [h]
 ·rw [zMZ h]
  refine zMZ λe=>h (zBU ?_)
  have:=V.int.inj e
  omega
def yR (K:W.Frag) (H:Hp) (x:V):Prop:=(∃ T,yF K H x T)/\∀ z,x=.str z->z.length <= 1000
theorem yR.on (h:yR K H x) (k:zD [] H a):yR K a x:=⟨let ⟨T,p⟩:=h.1;⟨T,p.keep k⟩,h.2⟩
theorem oZ (h:xA x=true):∃ z,x=.str z/\vP z=true:=by
 cases x with
 | str z=>exact ⟨z,rfl,h⟩
 | _=>cases h
theorem oY:∀ {vs:List V},vs.all xA=true->∃ zs:List Str,vs=zs.map V.str/\∀ z ∈ zs,vP z=true
 | [],_=>⟨[],rfl,λz a=>by cases a⟩
 | v :: vs,h=>by
  rw [List.all_cons,Bool.and_eq_true] at h
  obtain ⟨z,rfl,a⟩:=oZ h.1
  obtain ⟨zs,rfl,b⟩:=oY h.2
  refine ⟨z :: zs,rfl,λy c=>?_⟩
  rcases List.mem_cons.mp c with e | e
  ·rw [e];exact a
  ·exact b y e
noncomputable def u9 (x:V) (zs:List Str):Bool:=xA x && inV x (zs.map V.str)
section
variable {P:Program} {w:World} {K:W.Frag} {mg:Str->Option Value} {base:Heap} {C:Addr}
theorem zDU:zM NB NB (zG kE):=scm
theorem zHM:zM Nc Nc (zG j7):=scm
theorem zKC:zM ["names"] ["names"] (zG zDY):=scm
theorem scNb:zM NK NK (zG sNb):=scm
theorem zKP:zM Ny Ny (zG zAV):=scm
def lS (K:W.Frag):Sp:=λd H Q _=>∃ x T a b,d=[x,.ref a]/\yF K H x T/\(∀ z,x=.str z->z.length <= 1000)/\H a=some (.lst (b.map V.str))/\∀ c,zD [] H c->Q (.bl (u9 x b)) c
theorem zH5 (G:yM K mg SE kE NB) (j:Cal P w K mg base CX0 1 Sk Nc (t7 K)):Cal P w K mg base CX0 2 SE NB (lS K):=by
 refine G.oz zDU (λf k A c s H p Q E l h=>?_)
 obtain ⟨x,T,a,b,rfl,m,n,o,q⟩:=h
 have d:zZ 1 _:=l
 refine ⟨_,(zF (zL (uA (zO j d (zA (pv 0) zB)) (uM (xI sN (pv 0) (pv 1) (by with_unfolding_all rfl)))))),?_⟩
 refine ⟨_,rfl,x,T,rfl,m,n,λi g=>⟨_,rfl,?_⟩⟩
 cases e:xA x with
 | false=>
  have:u9 x b=false:=by unfold u9;rw [e];rfl
  rw [this] at q
  exact ifF rfl (q i g)
 | true=>
  cases x with
  | str z=>
   have:u9 (.str z) b=inV (.str z) (b.map V.str):=by unfold u9;rw [e,Bool.true_and]
   rw [this] at q
   exact ifT rfl ⟨_,rfl,_,rfl,a,_,rfl,.inl (.of (g.z o)),rfl,qV b,q i g⟩
  | _=>cases e
def fZ (K:W.Frag) (H:Hp) (x:V) (vs:Option (List V)):Prop:=match vs with
 | some l=>∃ a,x=.ref a/\H a=some (.lst l)/\(∀ v ∈ l,yR K H v)/\l.length <= 500
 | none=>∃ T,yF K H x T/\T ≠ "list"
noncomputable def kR:Option (List V)->Bool
 | some l=>l.all xA
 | none=>false
def zAC (K:W.Frag):Sp:=λb H Q _=>∃ x o,b=[x]/\fZ K H x o/\∀ a,zD [] H a->Q (.bl (kR o)) a
theorem zIK (G:yM K mg "are_names" j7 Nc) (L:Cal P w K mg base CX0 1 Sk Nc (t7 K)) (b:Blt mg S9) (d:Blt mg "list") (g:Blt mg "all"):Cal P w K mg base CX0 2 "are_names" Nc (zAC K):=by
 refine G.oz zHM (λf M A v s H vs Q E O h=>?_)
 obtain ⟨x,o,rfl,I,q⟩:=h
 have y:zZ 1 _:=O
 refine ⟨_,(zF (zL (uA (zV yN b zQ (zA (pv 0) (zA (w6 d vR) zB))) (uM (zV (sF rfl) g nQ (zA (wV (N:=Nc) (sc:=zG j7) (ix:=[]) (by decide +kernel) (y6 (pv 0)) (λ_ _ _ _=>xG) (λ_ _ _ _=>(zO L y (zA (pv 0) zB)))) zB)))))),?_⟩
 cases o with
 | none=>
  obtain ⟨T,n,U⟩:=I
  have e:(T == "list")=false:=by simpa using U
  exact ⟨_,rfl,_,_,_,false,rfl,n.ty,(e ▸ n.kit.2.2.2.1),_,rfl,ifF rfl (q H (zD.refl _))⟩
 | some l=>
  obtain ⟨a,rfl,t,Y,ll⟩:=I
  have n:yF K H (.ref a) "list":=.lst t
  refine ⟨_,rfl,_,_,_,_,rfl,n.ty,n.kit.2.2.2.1,_,rfl,ifT rfl ?_⟩
  refine ⟨_,rfl,a,rfl,⟨_,.of t⟩,λacc c=>?_⟩
  have aa:=zI t c
  refine uQ (K:=K) (a:=a) (its:=l) (by rw [sizeLine_eq];omega) (λi p u r=>∃ k:Option V,u=[k]/\p=((l.take i).map xA).map V.bl/\i <= l.length/\zD [acc] H r/\r acc=some (.lst p)) ?_ ?_ ?_ ?_
  ·exact ⟨_,rfl,rfl,zMT _,zD.at (by simp),zC⟩
  ·rintro i p u r ⟨k,rfl,rfl,il,j,m⟩
   exact ⟨m,by simp;omega,.of (j _ _ (by simp [aa]) t)⟩
  ·rintro i p u r x B ⟨k,rfl,rfl,il,j,m⟩
   obtain ⟨⟨T,p1⟩,sz⟩:=Y x (zMN B)
   have D:=(zML.mp B).1
   refine ⟨_,rfl,x,T,rfl,p1.keep (j.drop c),sz,λH2 J=>⟨J.z m,_,rfl,?_,D,(j.trans (J.mono (by simp))).trans (zD.at (by simp)),zC⟩⟩
   rw [show l.take (i + 1)=l.take i ++ [x] by rw [List.take_add_one,B];rfl,zMV,zMV];rfl
  ·rintro p u r ⟨k,rfl,rfl,_,j,m⟩
   rw [zNJ] at m
   refine ⟨acc,l.map xA,rfl,.of m,?_⟩
   rw [show (l.map xA).all id=kR (some l) by rw [List.all_map];rfl]
   exact q _ (j.drop c)
def zFT:Sp:=λd H Q _=>∃ (a:Addr) (b:List Str),d=[.ref a]/\H a=some (.lst (b.map V.str))/\b.length < 1000/\∀ c,zD [] H c->Q (.bl (decide b.Nodup)) c
theorem zKY (G:yM K mg "are_unlike" zDY ["names"]) (b:Blt mg S8) (c:Blt mg "set"):Cal P w K mg base CX0 1 "are_unlike" ["names"] zFT:=by
 refine G.oz zKC (λf k A d s H m Q E n h=>?_)
 obtain ⟨a,e,rfl,g,i,q⟩:=h
 refine ⟨_,(zF (zL (xI xF (zV hI b yP (zA (xE (aA rfl) rfl c.no zC1 (zA (pv 0) zB)) zB)) (zV yA b yP (zA (pv 0) zB)) (zX _)))),?_⟩
 refine ⟨_,rfl,a,e,rfl,g,i,λp l=>⟨p,e,rfl,zC,i,?_⟩⟩
 have j:zD [] H (upd H p (zDP P w p e)):=zD.new l
 refine ⟨_,rfl,_,_,rfl,.inl ⟨_,.of (j.z g),rfl⟩,rfl,?_⟩
 rw [zMJ,bF]
 exact q _ j
noncomputable def nbV (o:Option (List V)) (y:V):Bool:=match o with
 | some l=>l.all xA && decide l.Nodup && !inV y l
 | none=>false
theorem rD (zs:List Str):decide (zs.map V.str).Nodup=decide zs.Nodup:=by
 have:(zs.map V.str).Nodup ↔ zs.Nodup:=by
  rw [List.nodup_iff_pairwise_ne,List.nodup_iff_pairwise_ne,List.pairwise_map]
  constructor
  ·exact λh=>h.imp λn e=>n (by rw [e])
  ·exact λh=>h.imp λn e=>n (V.str.inj e)
 by_cases h:zs.Nodup
 ·rw [zMY h,zMY (this.mpr h)]
 ·rw [zMZ h,zMZ (λe=>h (this.mp e))]
def zJU (K:W.Frag):Sp:=λb H Q _=>∃ x o y,b=[x,.str y]/\fZ K H x o/\∀ a,zD [] H a->Q (.bl (nbV o (.str y))) a
theorem okNb (G:yM K mg SM sNb NK) (i:Cal P w K mg base CX0 2 "are_names" Nc (zAC K)) (j:Cal P w K mg base CX0 1 "are_unlike" ["names"] zFT):Cal P w K mg base CX0 3 SM NK (zJU K):=by
 refine G.oz scNb (λf I A k s H N Q E t h=>?_)
 obtain ⟨x,o,y,rfl,u,q⟩:=h
 have m:zZ 2 _:=t
 have n:zZ 1 _:=t.mono (by decide)
 refine ⟨_,(zF (zL (uA (zO i m (zA (pv 0) zB)) (uA (zO j n (zA (pv 0) zB)) (uM (xI tN (pv 1) (pv 0) (by with_unfolding_all rfl))))))),?_⟩
 refine ⟨_,rfl,x,o,rfl,u,λv g=>⟨_,rfl,?_⟩⟩
 cases o with
 | none=>exact ifF rfl (q v g)
 | some l=>
  obtain ⟨a,rfl,B,O,J⟩:=u
  cases d:l.all xA with
  | false=>
   have e:nbV (some l) (.str y)=false:=by show (l.all xA && decide l.Nodup && !inV (V.str y) l)=false;rw [d];rfl
   rw [e] at q
   have p:kR (some l)=false:=d
   rw [p]
   exact ifF rfl (q v g)
  | true=>
   obtain ⟨b,rfl,L⟩:=oY d
   have p:kR (some (b.map V.str))=true:=d
   rw [p]
   refine ifT rfl ?_
   have r:=g.z B
   rw [zMJ] at J
   refine ⟨_,rfl,a,b,rfl,r,by omega,λD M=>⟨_,rfl,?_⟩⟩
   have c:=g.trans M
   cases hd:decide b.Nodup with
   | false=>
    have e:nbV (some (b.map V.str)) (.str y)=false:=by show ((b.map V.str).all xA && decide (b.map V.str).Nodup && !inV (V.str y) (b.map V.str))=false;rw [d,rD,hd];rfl
    rw [e] at q
    exact ifF rfl (q D c)
   | true=>
    have e:nbV (some (b.map V.str)) (.str y) = !inV (.str y) (b.map V.str):=by show ((b.map V.str).all xA && decide (b.map V.str).Nodup && !inV (V.str y) (b.map V.str))=_;rw [d,rD,hd];rfl
    rw [e] at q
    exact ifT rfl ⟨_,rfl,_,rfl,a,_,rfl,.inl (.of (c.z B)),rfl,qV b,q D c⟩
noncomputable def qX (a:List Str) (x:V):Bool:=decide (x=.non) || u9 x a
noncomputable def zMB (a:List Str):Option (List V)->Bool
 | some l=>decide (l ≠ []) && l.all (qX a)
 | none=>false
def zF5 (K:W.Frag):Sp:=λd H Q _=>∃ x o b a,d=[x,.ref b]/\fZ K H x o/\H b=some (.lst (a.map V.str))/\∀ c,zD [] H c->Q (.bl (zMB a o)) c
theorem zLK (G:yM K mg "are_arrows" zAV Ny) (L:Cal P w K mg base CX0 2 SE NB (lS K)) (c:Blt mg S9) (j:Blt mg "list") (n:Blt mg S8) (p:Blt mg "all"):Cal P w K mg base CX0 3 "are_arrows" Ny (zF5 K):=by
 refine G.oz zKP (λf a0 A M s H vs Q E hr h=>?_)
 obtain ⟨x,o,b,g,rfl,Y,hb,q⟩:=h
 have O:zZ 2 _:=hr
 refine ⟨_,(zE (z4 (PW.pt (sX (xB (y9 (zV yN c zQ (zA (pv 0) (zA (w6 j vR) zB))))) (u6 (zT xF (zV yA n yP (zA (pv 0) zB)) zH (zX _))))) (zF (zL wS)) zN)
   (zF (zL (zV (sF rfl) p nQ (zA (wV (N:=Ny) (sc:=zG zAV) (ix:=[1]) (by decide +kernel) (y6 (pv 0)) (λ_ _ _ _=>xG) (λ_ _ _ _=>(zKV (xI uO (pv 0) yQ (zX _)) (uM (zO L O (zA (pv 0) (zA (pv 1) zB))))))) zB))))),?_⟩
 cases o with
 | none=>
  obtain ⟨T,t,nT⟩:=Y
  have e:(T == "list")=false:=by simpa using nT
  exact ⟨_,rfl,_,_,_,false,rfl,t.ty,(e ▸ t.kit.2.2.2.1),_,rfl,ifT rfl (q H (zD.refl _))⟩
 | some l=>
  obtain ⟨a,rfl,u,pl,ll⟩:=Y
  have t:yF K H (.ref a) "list":=.lst u
  refine ⟨_,rfl,_,_,_,true,rfl,t.ty,t.kit.2.2.2.1,_,rfl,ifF rfl ?_⟩
  refine ⟨_,rfl,_,_,rfl,.inl ⟨_,.of u,rfl⟩,rfl,_,rfl,?_⟩
  cases D:l with
  | nil=>
   subst D
   exact ifT rfl (q H (zD.refl _))
  | cons v0 l0=>
  rw [<- D]
  refine ifF (by rw [D];simp;omega) ?_
  refine ⟨_,rfl,a,rfl,⟨_,.of u⟩,λacc d=>?_⟩
  have aa:=zI u d
  refine uQ (K:=K) (a:=a) (its:=l) (by rw [sizeLine_eq];omega) (λi v I y=>∃ k:Option V,I=[k,some (.ref b)]/\v=((l.take i).map (qX g)).map V.bl/\i <= l.length/\zD [acc] H y/\y acc=some (.lst v)) ?_ ?_ ?_ ?_
  ·exact ⟨_,rfl,rfl,zMT _,zD.at (by simp),zC⟩
  ·rintro i v I y ⟨k,rfl,rfl,il,m,r⟩
   exact ⟨r,by simp;omega,.of (m _ _ (by simp [aa]) u)⟩
  ·rintro i v I y x U ⟨k,rfl,rfl,il,m,r⟩
   obtain ⟨⟨T,p1⟩,sz⟩:=pl x (zMN U)
   have B:=(zML.mp U).1
   have et:l.take (i + 1)=l.take i ++ [x]:=by rw [List.take_add_one,U];rfl
   refine ⟨_,rfl,rfl,_,rfl,?_⟩
   by_cases J:x=.non
   ·refine ifT (by rw [J];rfl) ⟨r,_,rfl,?_,B,m.trans (zD.at (by simp)),zC⟩
    rw [et,zMV,zMV]
    have:qX g x=true:=by unfold qX;rw [zMY J];rfl
    show _=_ ++ [V.bl (qX g x)]
    rw [this]
   ·refine ifF (by simp [J]) ?_
    refine ⟨_,rfl,_,rfl,x,T,b,g,rfl,p1.keep (m.drop d),sz,(m.drop d).z hb,λH2 k2=>⟨k2.z r,_,rfl,?_,B,(m.trans (k2.mono (by simp))).trans (zD.at (by simp)),zC⟩⟩
    rw [et,zMV,zMV]
    have:qX g x=u9 x g:=by unfold qX;rw [zMZ J];rfl
    show _=_ ++ [V.bl (qX g x)]
    rw [this]
  ·rintro v I y ⟨k,rfl,rfl,_,m,r⟩
   rw [zNJ] at r
   refine ⟨acc,l.map (qX g),rfl,.of r,?_⟩
   have e:zMB g (some l)=(l.map (qX g)).all id:=by
    show (decide (l ≠ []) && l.all (qX g))=_
    rw [zMY (by rw [D];simp),List.all_map];rfl
   rw [<- e]
   exact q _ (m.drop d)
end
abbrev sHI:Stmt:=yW (top 32) 0
noncomputable def hfl (nm:V) (nl a:Addr):List (Str × V):=[(Sx,nm),(Sw,.ref nl),("seats",.ref a)]
theorem hn1:¬ ((Sx : Str)=Sw):=by decide +kernel
theorem hn2:¬ ((Sx : Str)="seats"):=by decide +kernel
theorem hn3:¬ ((Sw : Str)="seats"):=by decide +kernel
theorem hput (nm:V) (nl a:Addr):wG "seats" (.ref a) (wG Sw (.ref nl) (wG Sx nm []))=hfl nm nl a:=by
 unfold hfl
 simp only [wG,if_neg hn1,if_neg hn2,if_neg hn3]
structure y4 (K:W.Frag) (C:Addr):Prop where
 cl:Cls K C
 nN:vV K C Sx
 nB:vV K C Sw
 nS:vV K C "seats"
theorem yE.keepS (A:yE C H p a s) (k:zD S H c) (d:p ∉ S) (f:a ∉ S) (g:∀ b ∈ S,∀ xs,H b ≠ some (.tup xs)):yE C c p a s:=by
 obtain ⟨⟨i,h⟩,⟨j,e,r⟩,l⟩:=A
 exact ⟨⟨i,k _ _ d h⟩,⟨j,k _ _ f e,zP k g r⟩,l⟩
def Dis (nl c:Addr) (xs:List (Addr × Addr)):Prop:=(∀ x ∈ xs,x.2 ≠ nl/\x.2 ≠ c)/\xs.Pairwise λa b=>a.1 ≠ b.1/\a.2 ≠ b.2
def yC (B:Addr->Prop) (C CS:Addr) (H:Hp) (p:Addr) (nm:Str) (b:List Str) (xs:List (Addr × Addr)) (ss:List SS):Prop:=∃ (c nl a:Addr),(B nl/\B a/\(∀ x ∈ xs,B x.1/\B x.2)/\Dis nl a xs) /\
 H p=some (.ins C c (hfl (.str nm) nl a))/\H nl=some (.lst (b.map V.str))/\H a=some (.lst (xs.map λx=>V.ref x.1))/\xs.length=ss.length/\∀ (i:Nat) (x:Addr × Addr) (s:SS),xs[i]?=some x->ss[i]?=some s->yE CS H x.1 x.2 s
theorem yC.on (h:yC B C CS H p nm a xs ss) (k:zD [] H c):yC B C CS c p nm a xs ss:=by
 obtain ⟨d,nl,e,b,f,g,j,l,m⟩:=h
 exact ⟨d,nl,e,b,k.z f,k.z g,k.z j,l,λi x s n o=>(m i x s n o).keep k⟩
theorem yC.keep (h:yC B C CS H p nm m xs ss) (k:zD S H n) (c:∀ b ∈ S,b ≠ p/\¬ B b/\∀ ys,H b ≠ some (.tup ys)):yC B C CS n p nm m xs ss:=by
 obtain ⟨o,nl,q,⟨j,l,d,r⟩,t,v,w,y,z⟩:=h
 have a:∀ {u:Addr},B u->u ∉ S:=λ{u} e f=>(c u f).2.1 e
 exact ⟨o,nl,q,⟨j,l,d,r⟩,k _ _ (λf=>(c p f).1 rfl) t,k _ _ (a j) v,k _ _ (a l) w,y,λi x s g A=>(z i x s g A).keepS k (a (d x (zMN g)).1) (a (d x (zMN g)).2) λb e=>(c b e).2.2⟩
noncomputable def vH (b:List (Option Str)):List SS:=b.map λa=>⟨a,[],none,false⟩
section
variable {P:Program} {w:World} {K:W.Frag} {mg:Str->Option Value} {base:Heap} {C CS:Addr}
theorem scHI:zM Np Np (zG sHI):=scm
def zHB (K:W.Frag) (C CS:Addr):Sp:=λg H Q _=>∃ p h a b e d c,g=[.ref p,.str e,.ref a,.ref b]/\H p=some (.ins C h [])/\H a=some (.lst (d.map V.str))/\H b=some (.lst (c.map z9))/\yT e/\(∀ z ∈ d,yT z)/\d.Nodup/\e ∉ d/\d.length <= 100/\c ≠ []/\c.length <= 100/\(∀ z,some z ∈ c->z ∈ d) /\
 ∀ i f,yC (λu=>H u=none) C CS f p e d i (vH c)->zD [p] H f->Q .non f
theorem okHI (T:y4 K C) (G:Fun K "__init__" "House.__init__" sHI fI fd) (CI:Cal P w K mg base CX0 1 Sk Nc (t7 K)) (ao:Cal P w K mg base CX0 3 SM NK (zJU K)) (aq:Cal P w K mg base CX0 3 "are_arrows" Ny (zF5 K)) (au:gB P w K mg base CX0 2 CS "Seat" NJ (gK CS)) (M:Blt mg "list") :
  tH P w K mg base CX0 4 fI fd Np (zHB K C CS):=by
 refine G.oz scHI (λbe A av s0 H vs Q E hr h=>?_)
 obtain ⟨p,n,a,b,k,r,c,rfl,hp,ha,B,gn,gb,nd,aw,lb,ax,bf,I,q⟩:=h
 have a1:zZ 3 _:=hr
 have ay:zZ 1 _:=hr.mono (by decide)
 refine ⟨_,(zE (z4 (xB (y9 (zO CI ay (zA (pv 1) zB)))) (zF xK) zN)
   (zE (z4 (xB (y9 (zO ao a1 (zA (pv 2) (zA (pv 1) zB))))) (zF xK) zN)
   (zE (z4 (xB (y9 (zO aq a1 (zA (pv 3) (zA (pv 2) zB))))) (zF xK) zN)
   (zE (vN (pv 0) (pv 1) rfl)
   (zE (vN (pv 0) (xE uH rfl M.no vR (zA (pv 2) zB)) rfl)
   (zF (vN (pv 0) (wV (N:=Np) (sc:=zG sHI) (ix:=[]) (by decide +kernel) (y6 (pv 3)) (λ_ _ _ _=>xG) (λ_ _ _ _=>(zGG au a1 (zA (pv 0) zB)))) rfl))))))),?_⟩
 refine sq λN O=>?_
 refine ⟨_,rfl,.str k,"str",rfl,.str k,(λz e=>by cases e;exact zMU gn.2 (by decide)),λH1 k1=>⟨_,rfl,ifF (by rw [show xA (.str k)=true from gn.1];rfl) ?_⟩⟩
 have az:∀ (zs:List Str) (H:Hp),(∀ z ∈ zs,yT z)->∀ v ∈ zs.map V.str,yR K H v:=λzs H g v hv=>by
  obtain ⟨z,hz,rfl⟩:=List.mem_map.mp hv
  exact ⟨⟨_,.str z⟩,λy e=>by cases e;exact zMU (g z hz).2 (by decide)⟩
 refine O _ _ (sq λN O=>?_)
 refine ⟨_,rfl,_,rfl,.ref a,some (r.map V.str),k,rfl,⟨a,rfl,k1.z ha,az r H1 gb,by rw [zMJ];omega⟩,λH2 k2=>⟨_,rfl,ifF ?_ ?_⟩⟩
 ·have e1:(r.map V.str).all xA=true:=by
   rw [List.all_map,List.all_eq_true]
   exact λz hz=>(gb z hz).1
  have e2:inV (.str k) (r.map V.str)=false:=by
   unfold inV
   rw [List.any_map,List.any_eq_false]
   intro z hz e
   have:z=k:=eq_of_beq (show (z == k)=true from e)
   exact aw (this ▸ hz)
  show (!((r.map V.str).all xA && decide (r.map V.str).Nodup && !inV (V.str k) (r.map V.str)))=false
  rw [e1,rD,zMY nd,e2];rfl
 have a2:=k1.trans k2
 refine O _ _ (sq λN O=>?_)
 refine ⟨_,rfl,_,rfl,.ref b,some (c.map z9),a,r,rfl,⟨b,rfl,a2.z B,?_,by rw [zMJ];omega⟩,a2.z ha,λH3 k3=>⟨_,rfl,ifF ?_ ?_⟩⟩
 ·intro v hv
  obtain ⟨o,ho,rfl⟩:=List.mem_map.mp hv
  cases o with
  | none=>exact ⟨⟨_,.non⟩,λy e=>by cases e⟩
  | some z=>exact ⟨⟨_,.str z⟩,λy e=>by cases e;exact zMU (gb z (I z ho)).2 (by decide)⟩
 ·have e1:(c.map z9).all (qX r)=true:=by
   rw [List.all_map,List.all_eq_true]
   intro o ho
   cases o with
   | none=>rfl
   | some z=>
    have m:=I z ho
    show (decide (V.str z=.non) || (xA (.str z) && inV (.str z) (r.map V.str)))=true
    have e2:inV (.str z) (r.map V.str)=true:=by
     unfold inV
     rw [List.any_map,List.any_eq_true]
     exact ⟨z,m,by show (z == z)=true;simp⟩
    rw [e2,show xA (.str z)=true from (gb z m).1];simp
  show (!(decide (c.map z9 ≠ []) && (c.map z9).all (qX r)))=false
  rw [e1,zMY (by simpa using ax)];rfl
 have ag:=a2.trans k3
 have b0:=ag.z hp
 refine O _ _ (sq λN O=>?_)
 refine ⟨_,rfl,_,rfl,p,C,n,_,rfl,b0,T.cl,T.nN,by show 0 < 1000;decide,?_⟩
 generalize ah:upd H3 p (.ins C n (wG Sx (.str k) []))=H4
 have k4:zD [p] H H4:=by rw [<- ah];exact (ag.mono (by simp)).trans (zD.at (by simp))
 have ai:H4 p=some (.ins C n (wG Sx (.str k) [])):=by rw [<- ah];exact zC
 have ap:a ≠ p:=λe=>by rw [e,hp] at ha;cases ha
 have bp:b ≠ p:=λe=>by rw [e,hp] at B;cases B
 refine O _ _ (sq λN O=>?_)
 refine ⟨_,rfl,a,_,rfl,.inl (.of (k4 _ _ (by simp [ap]) ha)),λnl a3=>?_⟩
 have U:p ≠ nl:=zI ai a3
 refine ⟨_,rfl,p,C,n,_,rfl,by rw [zK U];exact ai,T.cl,T.nB,by show 1 < 1000;decide,?_⟩
 generalize a4:upd (upd H4 nl (.lst (r.map V.str))) p (.ins C n (wG Sw (.ref nl) (wG Sx (.str k) [])))=H5
 have k5:zD [p] H4 H5:=by rw [<- a4];exact (zD.new a3).trans (zD.at (by simp))
 have a5:H5 p=some (.ins C n (wG Sw (.ref nl) (wG Sx (.str k) []))):=by rw [<- a4];exact zC
 have a6:H5 nl=some (.lst (r.map V.str)):=by rw [<- a4,zK U.symm];exact zC
 have a7:=k4.trans k5
 have b1:H nl=none:=k4.none (by simp [U.symm]) a3
 have aa:=a7 _ _ (by simp [bp]) B
 refine O _ _ ?_
 refine ⟨_,rfl,b,rfl,⟨_,.of aa⟩,λd J=>?_⟩
 have b2:b ≠ d:=zI aa J
 have aj:p ≠ d:=zI a5 J
 have ak:nl ≠ d:=zI a6 J
 refine uQ (K:=K) (a:=b) (its:=c.map z9) (by rw [zMJ,sizeLine_eq];omega) (λi ys τ t=>∃ (D:List (Addr × Addr)) (kk:Option V),τ=[kk]/\ys=D.map (λp=>V.ref p.1)/\D.length=i/\(∀ (j:Nat) (x:Addr × Addr),D[j]?=some x->yE CS t x.1 x.2 ⟨c.getD j none,[],none,false⟩) /\
  (∀ x ∈ D,H5 x.1=none/\H5 x.2=none/\x.1 ≠ d/\x.2 ≠ d)/\(D.Pairwise λa b=>a.1 ≠ b.1/\a.2 ≠ b.2)/\zD [d] H5 t/\t d=some (.lst ys)) ?_ ?_ ?_ ?_
 ·exact ⟨[],none,rfl,rfl,rfl,(λj p e=>by cases e),(λp hp=>by cases hp),.nil,zD.at (by simp),zC⟩
 ·rintro i ys τ t ⟨D,kk,rfl,rfl,hl,_,_,_,Y,h6⟩
  exact ⟨h6,by rw [zMJ];omega,.of (Y _ _ (by simp [b2]) aa)⟩
 ·rintro i ys τ t x l ⟨D,kk,rfl,rfl,hl,a0,f,ab,Y,h6⟩
  obtain ⟨ar,ei,rfl⟩:=gm l
  have eg:c.getD i none=ar:=by rw [zMO,ei];rfl
  refine ⟨_,rfl,λx n l b3 b4=>⟨x,n,ar,rfl,zC,(λz e=>by have g:=gb z (I z (by rw [<- e];exact zMN ei));exact ⟨g.1,zMU g.2 (by decide)⟩),λwl H7 ba S7 k7=>⟨rfl,?_⟩⟩⟩
  have ac:zD [] t H7:=((zD.new b3).trans (zD.new (by rw [zK (Ne.symm b4)];exact l))).under k7 (by intro b B;rw [zMM.mp B];exact l)
  have L:t wl=none:=(zW (zW ba).1).1
  have al:=ac.z h6
  have ae:x ≠ d:=Ne.symm (zI h6 l)
  have af:wl ≠ d:=Ne.symm (zI h6 L)
  have nt:∀ b ∈ [d],∀ xs,H7 b ≠ some (.tup xs):=λb B xs z=>by rw [zMM.mp B,al] at z;cases z
  refine ⟨al,D ++ [(x,wl)],_,rfl,by simp,by simp [hl],?_,?_,?_,(Y.trans (ac.mono (by simp))).trans (zD.at (by simp)),zC⟩
  ·intro j x' hj
   have kl:zD [d] H7 (upd H7 d (.lst (List.map (λp=>V.ref p.1) D ++ [V.ref x]))):=zD.at (by simp)
   by_cases bb:j < D.length
   ·rw [zM7 bb] at hj
    obtain ⟨_,_,f1,f2⟩:=f x' (zMN hj)
    exact ((a0 j x' hj).keep ac).keepS kl (by simpa using f1) (by simpa using f2) nt
   ·rw [zM6 (by omega)] at hj
    have ej:j=i:=by
     have:=(zML.mp hj).1
     simp at this;omega
    subst ej
    rw [hl,Nat.sub_self] at hj
    cases hj
    rw [eg]
    exact S7.keepS kl (by simpa using ae) (by simpa using af) nt
  ·intro x' bc
   rcases zM0.mp bc with h | h
   ·exact f x' h
   ·rw [zMM.mp h]
    exact ⟨Y.none (by simpa using ae) l,Y.none (by simpa using af) L,ae,af⟩
  ·refine List.pairwise_append.mpr ⟨ab,List.pairwise_singleton _ _,λa ha b B=>?_⟩
   rw [zMM.mp B]
   obtain ⟨j,hj,ej⟩:=List.getElem_of_mem ha
   have sj:=a0 j a (by rw [zMK hj,ej])
   obtain ⟨⟨dj,oj⟩,⟨qj,wj,_⟩,_⟩:=sj
   exact ⟨zI oj l,zI wj L⟩
 rintro ys τ t ⟨D,kk,rfl,rfl,hl,a0,f,ab,Y,h6⟩
 rw [zMJ] at hl
 have an:=Y _ _ (by simp [aj]) a5
 refine ⟨_,rfl,p,C,n,_,rfl,an,T.cl,T.nS,by show 2 < 1000;decide,?_⟩
 rw [hput]
 have k7:zD [p] t (upd t p (.ins C n (hfl (.str k) nl d))):=zD.at (by simp)
 have e7:upd t p (.ins C n (hfl (.str k) nl d)) p=some (.ins C n (hfl (.str k) nl d)):=zC
 generalize upd t p (.ins C n (hfl (.str k) nl d))=H7 at k7 e7
 have H0:∀ {u:Addr},H5 u=none->H u=none/\u ≠ p:=λ{u} hu=>by
  have un:u ≠ p:=λe=>by rw [e,a5] at hu;cases hu
  exact ⟨a7.none (by simp [un]) hu,un⟩
 have bd:∀ b ∈ [p],∀ xs,t b ≠ some (.tup xs):=λb B xs z=>by rw [zMM.mp B,an] at z;cases z
 refine q D H7 ⟨n,nl,d,⟨b1,(H0 J).1,λx l=>⟨(H0 (f x l).1).1,(H0 (f x l).2.1).1⟩,⟨λx l=>⟨Ne.symm (zI a6 (f x l).2.1),(f x l).2.2.2⟩,ab⟩⟩,e7,k7 _ _ (by simp [U.symm]) (Y _ _ (by simp [ak]) a6),k7 _ _ (by simp [aj.symm]) h6,by unfold vH;rw [zMJ];exact hl,λi x s e1 e2=>?_⟩ ?_
 ·unfold vH at e2
  obtain ⟨ar,ei,rfl⟩:=gm e2
  have eg:c.getD i none=ar:=by rw [zMO,ei];rfl
  have sa:=a0 i x e1
  rw [eg] at sa
  have l:=f x (zMN e1)
  exact sa.keepS k7 (by simpa using (H0 l.1).2) (by simpa using (H0 l.2.1).2) bd
 ·exact (a7.trans ((Y.drop J).mono (by simp))).trans k7
end
abbrev sWh:Stmt:=top 19
abbrev sCk:Stmt:=top 30
abbrev sSA:Stmt:=yW (top 26) 5
abbrev zAS:Stmt:=yW (top 32) 7
abbrev zAO:Stmt:=yW (top 32) 8
abbrev zAP:Stmt:=yW (top 32) 9
abbrev zAQ:Stmt:=yW (top 32) 10
abbrev zAR:Stmt:=yW (top 32) 6
theorem xZ (nm:V) (nl a:Addr):(hfl nm nl a).lookup ("seats" : Str)=some (.ref a):=rfl
theorem zA9 (a:PE X l b) (e:X.K=K:=by rfl):PI X c l (zGK K b):=e ▸ y6 a
theorem zGR (a:V) (b:Addr) (h:V) (k:Bool):(xP a b h k).lookup (S3 : Str)=none:=rfl
theorem zL0 (a:V) (b:Addr) (h:V) (k:Bool):(xP a b h k).lookup (Sd : Str)=none:=rfl
theorem zL3 (a:V) (b:Addr) (h:V) (k:Bool):(xP a b h k).lookup (NX : Str)=none:=rfl
theorem zL7 (a:V) (b:Addr) (h:V) (k:Bool):(xP a b h k).lookup (NU : Str)=none:=rfl
theorem zL8 (a:V) (b:Addr) (h:V) (k:Bool):(xP a b h k).lookup (Ss : Str)=none:=rfl
noncomputable def zI3 (r:Str × Bool):List V:=[.str r.1,.bl r.2]
noncomputable def uY (s:SS):List (Str × Bool):=(match s.hold with | some z=>[(z,false)] | none=>[]) ++ ((s.row.filter λr=>decide (r.1=(NQ : Str))).map λr=>(r.2,true))
theorem wI {l:List (Addr × Addr)} {i:Nat} {x:Addr × Addr} (h:l[i]?=some x):atI (l.map λx=>V.ref x.1) (i:Int)=some (.ref x.1):=by
 have ol:=(zML.mp h).1
 obtain ⟨v,b,a⟩:=tU (xs:=l.map λx=>V.ref x.1) (i:=(i:Int)) (by omega) (by rw [zMJ];omega)
 rw [b]
 rw [Int.toNat_natCast,zMP,h] at a
 exact a.symm
section
variable {P:Program} {w:World} {K:W.Frag} {mg:Str->Option Value} {base:Heap} {C CS:Addr}
theorem zKA:zM Nc Nc (zG sWh):=scm
theorem zKN:zM N9 N9 (zG sCk):=scm
theorem zKE:zM ["self",Sg] N4 (zG sSA):=scm
theorem zF9:zM N5 N5 (zG zAS):=scm
theorem zF6:zM N5 N5 (zG zAO):=scm
theorem zF7:zM N5 N5 (zG zAP):=scm
theorem zF8:zM N5 N5 (zG zAQ):=scm
theorem zKM:zM N4 N4 (zG zAR):=scm
def zJK:Sp:=λa H Q _=>∃ i:Int,a=[.int i]/\Q (.bl true) H
theorem okWh (G:yM K mg Sy sWh Nc) (a:Blt mg S9) (c:Blt mg "int") (b:Blt mg "bool"):Cal P w K mg base CX0 1 Sy Nc zJK:=by
 refine G.oz zKA (λf g A e s H j Q E k h=>?_)
 obtain ⟨i,rfl,q⟩:=h
 refine ⟨_,(zF (zL (uA (zV yN a zQ (zA (pv 0) (zA (w6 c tT) zB))) (uM (fD (zV yN a zQ (zA (pv 0) (zA (w6 b uX) zB)))))))),?_⟩
 have d:yF K H (.int i) "int":=.int i
 exact ⟨_,rfl,_,_,_,true,rfl,d.ty,d.kit.2.1,_,rfl,ifT rfl ⟨_,rfl,_,_,_,false,rfl,d.ty,d.kit.2.2.1,_,rfl,q⟩⟩
def gM:Sp:=λa H Q _=>∃ i n:Int,a=[.int i,.int n]/\0 <= i/\i < n/\Q .non H
theorem okCk (G:yM K mg NS sCk N9) (c:Cal P w K mg base CX0 1 Sy Nc zJK):Cal P w K mg base CX0 2 NS N9 gM:=by
 refine G.oz zKN (λf d A a s H k Q E e h=>?_)
 obtain ⟨i,n,rfl,g,j,q⟩:=h
 have b:zZ 1 _:=e
 refine ⟨_,(zF (z4 (PW.pt (sX (xB (y9 (zO c b (zA (pv 0) zB)))) (u6 (xB (oT oW dJ zH (pv 0) (pv 1)))))) (zF xK) zN)),?_⟩
 refine ⟨_,rfl,i,rfl,_,rfl,ifF rfl ?_⟩
 refine ⟨_,rfl,_,_,rfl,rfl,_,rfl,ifT (zMY g) ⟨_,rfl,_,_,rfl,rfl,_,rfl,ifF ?_ q⟩⟩
 rw [zMY j];rfl
def zF3 (C CS:Addr):Sp:=λb H Q _=>∃ (B:Addr->Prop) (p:Addr) (i:Nat) (c:Str) (d:List Str) (e:List (Addr × Addr)) (a:List SS) (s:SS),b=[.ref p,.int i]/\yC B C CS H p c d e a/\a[i]?=some s/\Q (z9 s.ptr) H
theorem zLG (T:y4 K C) (TS:xN K CS) (G:yS K C S3 "House.arrow" zAS N5) (v:Cal P w K mg base CX0 2 NS N9 gM) (y:yD P w K mg base CX0 1 CS S3 N4 (lU CS)) (a:Blt mg S8):yD P w K mg base CX0 3 C S3 N5 (zF3 C CS):=by
 refine G.oz zF9 (λf z A c L H M Q E n h=>?_)
 obtain ⟨B,p,i,N,O,o,U,s,rfl,⟨r,nl,D,_,t,I,b,d,e⟩,u,q⟩:=h
 have g:zZ 2 _:=n
 have j:zZ 1 _:=n.mono (by decide)
 have J:i < o.length:=by rw [d];exact (zML.mp u).1
 have k:=zMK J
 generalize o[i]=x at k
 have S:=e i x s k u
 obtain ⟨l,m⟩:=S.ob
 refine ⟨_,(zE (yB (zO v g (zA (pv 1) (zA (zV yA a yP (zA (z8 (pv 0) rfl) zB)) zB))))
   (zF (zL (xH y TS.cl j (zS z6 (z8 (pv 0) rfl) (pv 1) (λ_ _=>rfl)))))),?_⟩
 refine ⟨_,rfl,_,rfl,p,C,r,_,_,rfl,t,T.cl,T.nS,xZ _ _ _,_,_,rfl,.inl ⟨_,.of b,rfl⟩,_,_,rfl,by omega,by rw [zMJ];omega,?_⟩
 exact ⟨_,rfl,p,C,r,_,_,rfl,t,T.cl,T.nS,xZ _ _ _,_,rfl,D,_,i,_,rfl,rfl,b,wI k,x.1,l,_,rfl,m,zGR _ _ _ _,x.1,x.2,s,rfl,S,q⟩
def zFY (C CS:Addr):Sp:=λc H Q _=>∃ (B:Addr->Prop) (p:Addr) (i:Nat) (d:Str) (e:List Str) (f:List (Addr × Addr)) (b:List SS) (s:SS),c=[.ref p,.int i]/\yC B C CS H p d e f b/\b[i]?=some s/\∀ (r:Addr) (a:Hp),H r=none->Rows a r (s.row.map yU)->zD [] H a->Q (.ref r) a
theorem zK8 (T:y4 K C) (TS:xN K CS) (G:yS K C Sd "House.row" zAO N5) (v:Cal P w K mg base CX0 2 NS N9 gM) (y:yD P w K mg base CX0 1 CS Sd N4 (zFU CS)) (a:Blt mg S8):yD P w K mg base CX0 3 C Sd N5 (zFY C CS):=by
 refine G.oz zF6 (λf z A c L H M Q E n h=>?_)
 obtain ⟨B,p,i,N,O,o,U,s,rfl,⟨r,nl,D,_,t,I,b,d,e⟩,u,q⟩:=h
 have g:zZ 2 _:=n
 have j:zZ 1 _:=n.mono (by decide)
 have J:i < o.length:=by rw [d];exact (zML.mp u).1
 have k:=zMK J
 generalize o[i]=x at k
 have S:=e i x s k u
 obtain ⟨l,m⟩:=S.ob
 refine ⟨_,(zE (yB (zO v g (zA (pv 1) (zA (zV yA a yP (zA (z8 (pv 0) rfl) zB)) zB))))
   (zF (zL (xH y TS.cl j (zS z6 (z8 (pv 0) rfl) (pv 1) (λ_ _=>rfl)))))),?_⟩
 refine ⟨_,rfl,_,rfl,p,C,r,_,_,rfl,t,T.cl,T.nS,xZ _ _ _,_,_,rfl,.inl ⟨_,.of b,rfl⟩,_,_,rfl,by omega,by rw [zMJ];omega,?_⟩
 exact ⟨_,rfl,p,C,r,_,_,rfl,t,T.cl,T.nS,xZ _ _ _,_,rfl,D,_,i,_,rfl,rfl,b,wI k,x.1,l,_,rfl,m,zL0 _ _ _ _,x.1,x.2,s,rfl,S,q⟩
def zF0 (C CS:Addr):Sp:=λb H Q _=>∃ (B:Addr->Prop) (p:Addr) (i:Nat) (c:Str) (d:List Str) (e:List (Addr × Addr)) (a:List SS) (s:SS),b=[.ref p,.int i]/\yC B C CS H p c d e a/\a[i]?=some s/\Q (z9 s.hold) H
theorem zLB (T:y4 K C) (TS:xN K CS) (G:yS K C NX "House.inside" zAP N5) (v:Cal P w K mg base CX0 2 NS N9 gM) (y:yD P w K mg base CX0 1 CS NX N4 (jU CS)) (a:Blt mg S8):yD P w K mg base CX0 3 C NX N5 (zF0 C CS):=by
 refine G.oz zF7 (λf z A c L H M Q E n h=>?_)
 obtain ⟨B,p,i,N,O,o,U,s,rfl,⟨r,nl,D,_,t,I,b,d,e⟩,u,q⟩:=h
 have g:zZ 2 _:=n
 have j:zZ 1 _:=n.mono (by decide)
 have J:i < o.length:=by rw [d];exact (zML.mp u).1
 have k:=zMK J
 generalize o[i]=x at k
 have S:=e i x s k u
 obtain ⟨l,m⟩:=S.ob
 refine ⟨_,(zE (yB (zO v g (zA (pv 1) (zA (zV yA a yP (zA (z8 (pv 0) rfl) zB)) zB))))
   (zF (zL (xH y TS.cl j (zS z6 (z8 (pv 0) rfl) (pv 1) (λ_ _=>rfl)))))),?_⟩
 refine ⟨_,rfl,_,rfl,p,C,r,_,_,rfl,t,T.cl,T.nS,xZ _ _ _,_,_,rfl,.inl ⟨_,.of b,rfl⟩,_,_,rfl,by omega,by rw [zMJ];omega,?_⟩
 exact ⟨_,rfl,p,C,r,_,_,rfl,t,T.cl,T.nS,xZ _ _ _,_,rfl,D,_,i,_,rfl,rfl,b,wI k,x.1,l,_,rfl,m,zL3 _ _ _ _,x.1,x.2,s,rfl,S,q⟩
def zF1 (C CS:Addr):Sp:=λb H Q _=>∃ (B:Addr->Prop) (p:Addr) (i:Nat) (c:Str) (d:List Str) (e:List (Addr × Addr)) (a:List SS) (s:SS),b=[.ref p,.int i]/\yC B C CS H p c d e a/\a[i]?=some s/\Q (.bl s.asked) H
theorem zLC (T:y4 K C) (TS:xN K CS) (G:yS K C NU "House.has_asked" zAQ N5) (y:Cal P w K mg base CX0 2 NS N9 gM) (c:yD P w K mg base CX0 1 CS NU N4 (zFW CS)) (a:Blt mg S8):yD P w K mg base CX0 3 C NU N5 (zF1 C CS):=by
 refine G.oz zF8 (λf z A d L H M Q E o h=>?_)
 obtain ⟨B,p,i,N,O,r,U,s,rfl,⟨t,nl,D,_,u,I,b,e,g⟩,v,q⟩:=h
 have j:zZ 2 _:=o
 have k:zZ 1 _:=o.mono (by decide)
 have J:i < r.length:=by rw [e];exact (zML.mp v).1
 have l:=zMK J
 generalize r[i]=x at l
 have S:=g i x s l v
 obtain ⟨m,n⟩:=S.ob
 refine ⟨_,(zE (yB (zO y j (zA (pv 1) (zA (zV yA a yP (zA (z8 (pv 0) rfl) zB)) zB))))
   (zF (zL (xH c TS.cl k (zS z6 (z8 (pv 0) rfl) (pv 1) (λ_ _=>rfl)))))),?_⟩
 refine ⟨_,rfl,_,rfl,p,C,t,_,_,rfl,u,T.cl,T.nS,xZ _ _ _,_,_,rfl,.inl ⟨_,.of b,rfl⟩,_,_,rfl,by omega,by rw [zMJ];omega,?_⟩
 exact ⟨_,rfl,p,C,t,_,_,rfl,u,T.cl,T.nS,xZ _ _ _,_,rfl,D,_,i,_,rfl,rfl,b,wI l,x.1,m,_,rfl,n,zL7 _ _ _ _,x.1,x.2,s,rfl,S,q⟩
def zJR (CS:Addr):Sp:=λb H Q _=>∃ p c s,b=[.ref p]/\yE CS H p c s/\∀ r a,Rows a r ((uY s).map zI3)->H r=none->zD [] H a->Q (.ref r) a
theorem okSA (TS:xN K CS) (G:yS K CS Ss "Seat.askers" sSA N4):yD P w K mg base CX0 1 CS Ss N4 (zJR CS):=by
 refine G.oz zKE (λf a0 A x s0 H T Q E hr h=>?_)
 obtain ⟨p,wl,s,rfl,S,q⟩:=h
 obtain ⟨⟨y,j⟩,k,U⟩:=id S
 obtain ⟨qs,B,a1⟩:=id k
 refine ⟨_,(zE (cZ (i:=1) zKE.nd rfl (Or.inl rfl) (N:=["self",Sg]) (sc:=zG sSA) (ix:=[]) (by decide +kernel) (y6 (z8 (pv 0) rfl)) (λ_ _ _ _=>(kN (zT xF (pv 0) zJ (zX _)))) (λ_ _ _ _=>(yH (zA (pv 1) (zA wS zB)))))
   (zF (zL (rY (zT uO (z8 (pv 0) rfl) yQ (zX _)) (pv 1) (yG wO (yL (zA (yH (zA (z8 (pv 0) rfl) (zA wS zB))) zB)) (pv 1)))))),?_⟩
 refine ⟨_,rfl,p,CS,y,_,_,rfl,j,TS.cl,TS.nW,rK _ _ _ _,wl,rfl,⟨_,.of B⟩,λY l=>?_⟩
 refine kT (ds:=s.row) yU (λr=>[.str r.2,.bl true]) (λr=>decide (r.1=(NQ : Str))) (λr _=>[some (.str r.1),some (.str r.2)]) [] (by omega) l k ⟨[none,none],rfl,rfl⟩ (λ_ _=>rfl) ?_ ?_ ?_ ?_
 ·intro r q T H R _ hv hq h
  match T,hv with
  | [v1,v2],_=>exact ⟨q,_,rfl,.of hq,rfl,_,_,rfl,_,_,rfl,rfl,h⟩
 ·intro r q H R _ _ _ h
  refine ⟨_,rfl,rfl,_,rfl,?_⟩
  rw [show decide (V.str r.1=V.str NQ)=decide (r.1=(NQ : Str)) by simp]
  exact h H (zD.refl _)
 ·intro r q H R _ _ h
  exact ⟨_,rfl,by show 2 <= sizeLine;decide,λt D=>h t _ (zD.new D) zC⟩
 intro b hR v
 obtain ⟨I,m,c⟩:=hR
 have e1:((s.row.filter λr=>decide (r.1=(NQ : Str))).map λr=>[V.str r.2,.bl true])=((s.row.filter λr=>decide (r.1=(NQ : Str))).map λr=>(r.2,true)).map zI3:=by rw [zM3];rfl
 rw [e1] at c
 have a:=v.z j
 refine ⟨_,rfl,p,CS,y,_,_,rfl,a,TS.cl,TS.nH,iX _ _ _ _,rfl,_,rfl,?_⟩
 cases J:s.hold with
 | none=>
  refine ifT rfl ⟨_,rfl,q Y b ⟨I,m,?_⟩ l v⟩
  unfold uY
  rw [J]
  exact c
 | some z=>
  refine ifF rfl ?_
  rw [J] at a
  refine ⟨_,rfl,p,CS,y,_,_,rfl,a,TS.cl,TS.nH,iX _ _ _ _,by show 2 <= sizeLine;decide,λt D=>⟨by show 1 <= sizeLine;decide,λg L=>?_⟩⟩
  have k3:zD [] b (upd b t (.tup [.str z,.bl false])):=zD.new D
  have e3:upd b t (.tup [.str z,.bl false]) t=some (.tup [.str z,.bl false]):=zC
  have n:upd b t (.tup [.str z,.bl false]) g=none:=L
  have k4:zD [] (upd b t (.tup [.str z,.bl false])) (upd (upd b t (.tup [.str z,.bl false])) g (.lst [.ref t])):=zD.new n
  have e4:upd (upd b t (.tup [.str z,.bl false])) g (.lst [.ref t]) g=some (.lst [.ref t]):=zC
  have M:=k4.z e3
  have d:=k3.trans k4
  have lt:=zY c
  rw [zMJ,zMJ] at lt
  have lf:=zNH (λr:Str × Str=>decide (r.1=(NQ : Str))) s.row
  refine ⟨_,rfl,g,Y,_,_,rfl,rfl,e4,d.z m,by rw [zMJ,sizeLine_eq];show 1 + _ <= _;omega,λl2 o=>?_⟩
  have O:zD [] (upd (upd b t (.tup [.str z,.bl false])) g (.lst [.ref t])) (upd (upd (upd b t (.tup [.str z,.bl false])) g (.lst [.ref t])) l2 (.lst ((t :: I).map V.ref))):=zD.new o
  refine q l2 _ ⟨t :: I,zC,?_⟩ (v.none (by simp) (d.none (by simp) o)) (v.trans (d.trans O))
  unfold uY
  rw [J]
  exact .cons (O.z M) (L2.Paired.mapP c λu r e=>(d.trans O).z e)
end
abbrev e9:Stmt:=top 25
abbrev zAU:Stmt:=yW (top 26) 13
abbrev j5:Stmt:=yW (top 26) 14
section
variable {P:Program} {w:World} {K:W.Frag} {mg:Str->Option Value} {base:Heap} {C:Addr}
theorem zHK:zM NN NN (zG e9):=scm
theorem zIH (G:yM K mg Sm e9 NN) (c:Cal P w K mg base CX0 1 Sk Nc (t7 K)):Cal P w K mg base CX0 2 Sm NN u7:=by
 refine G.oz zHK (λf d A a m H n Q E g h=>?_)
 obtain ⟨z,rfl,i,j,q⟩:=h
 have b:zZ 1 _:=g.mono (by decide)
 refine ⟨_,(zF (z4 (xB (y9 (zO c b (zA (pv 0) zB)))) (zF xK) zN)),?_⟩
 refine ⟨_,rfl,_,"str",rfl,.str z,(λo e=>by cases e;exact j),λk l=>⟨_,rfl,?_⟩⟩
 exact ifF (by show (!vP z)=false;rw [i];rfl) (q k l)
theorem zGA:zM NA NA (zG zAU):=scm
abbrev hsR (z:Str):Str × Str:=((NV : Str),z)
def zF4 (C:Addr):Sp:=λc H Q _=>∃ p b s z,c=[.ref p,.str z]/\yE C H p b s/\vP z=true/\z.length <= 1000/\s.ptr ≠ some z/\(hsR z) ∉ s.row/\s.row.length < 1000 /\
 ∀ r a,yE C a p b (yJ { s with row:=s.row ++ [(hsR z)] }).1->Rows a r (yJ { s with row:=s.row ++ [(hsR z)] }).2->H r=none->zD [p,b] H a->Q (.ref r) a
theorem zLJ (T:xN K C) (G:yS K C NT "Seat.ask" zAU NA) (CC:Cal P w K mg base CX0 2 Sm NN u7) (MM:yD P w K mg base CX0 2 C Sq N4 (qM C)) :
  yD P w K mg base CX0 3 C NT NA (zF4 C):=by
 refine G.oz zGA (λf a0 A x s0 H vs Q E O h=>?_)
 obtain ⟨p,d,s,z,rfl,S0,hn,hl,hh,hi,l,q⟩:=h
 have m:zZ 2 _:=O.mono (by decide)
 have hu:=vS O
 refine ⟨_,(zE (yB (zO CC m (zA (pv 1) zB)))
   (zE (z4 (zT xF (pv 1) (z8 (pv 0) rfl) (zX _)) (zF xK) zN)
   (zE (z4 (zT (kP hu) (yH (zA zJ (zA (pv 1) zB))) (z8 (pv 0) rfl) (by with_unfolding_all rfl)) (zF xK) zN)
   (zE (yB (uD F.plainAttrs_list F.slot_list_append F.type_list_append xQ (z8 (pv 0) rfl) (zA (yH (zA zJ (zA (pv 1) zB))) zB)))
   (zF (zL (xH MM T.cl m (pv 0)))))))),?_⟩
 refine ⟨_,rfl,z,rfl,hn,hl,λe y=>?_⟩
 have S:=S0.keep y
 have B:=S.ne
 obtain ⟨⟨n,a⟩,⟨u,b,i⟩,_⟩:=id S
 refine ⟨_,rfl,_,rfl,p,C,n,_,_,rfl,a,T.cl,T.nP,fR _ _ _ _,oJ _ _,_,rfl,?_⟩
 refine ifF (by rw [kZ];exact zMZ hh) ?_
 refine ⟨_,rfl,by show 2 <= sizeLine;decide,λt ht=>?_⟩
 have k:zD [] e (upd e t (.tup [.str NV,.str z])):=zD.new ht
 refine ⟨_,rfl,p,C,n,_,_,rfl,(k.z a),T.cl,T.nW,rK _ _ _ _,d,t,_,s.row.map yU,rfl,rfl,(Rows.keep ⟨u,b,i⟩ k),zC,rfl,wY _,_,rfl,?_⟩
 refine ifF (by show ((s.row.map yU).any λr=>eqT r (yU (hsR z)))=false;rw [tW];exact zMZ hi) ?_
 refine ⟨_,rfl,p,C,n,_,_,rfl,(k.z a),T.cl,T.nW,rK _ _ _ _,.inl ⟨rfl,_,.of (k.z b)⟩,_,rfl,by show 2 <= sizeLine;decide,λj o=>?_⟩
 have U:zD [] (upd e t (.tup [.str NV,.str z])) (upd (upd e t (.tup [.str NV,.str z])) j (.tup [.str NV,.str z])):=zD.new o
 have c:=k.trans U
 have D:d ≠ j:=zI (k.z b) o
 have I:=zY i
 rw [zMJ] at I
 refine ⟨d,_,_,rfl,rfl,c.z b,by rw [zMJ,sizeLine_eq];omega,?_⟩
 generalize J:upd (upd e t (.tup [.str NV,.str z])) j (.tup [.str NV,.str z])=v at U c ⊢
 have L:v j=some (.tup (yU (hsR z))):=by rw [<- J];exact zC
 have Y:zD [p,d] e (upd v d (.lst (u.map V.ref ++ [.ref j]))):=(c.mono (by simp)).trans (zD.at (by simp))
 have g:upd v d (.lst (u.map V.ref ++ [.ref j])) p=some (.ins C n (xP (z9 s.ptr) d (z9 s.hold) s.asked)):=by rw [zK B];exact c.z a
 have S4:yE C (upd v d (.lst (u.map V.ref ++ [.ref j]))) p d { s with row:=s.row ++ [(hsR z)] }:=
  yE.more (H:=H) (H1:=e) g (zP Y (uP a b) i) zC (by rw [zK (Ne.symm D)];exact L) l
 refine ⟨_,rfl,p,n,_,rfl,g,m9 _ _ _ _,p,d,_,rfl,S4,λr H5 S5 R5 M k5=>?_⟩
 have N:=(zW M).1
 exact q r H5 S5 R5 (y.none (by simp) (c.none (by simp) N)) (((y.mono (by simp)).trans Y).trans k5)
theorem zAL:zM Nq Nq (zG j5):=scm
noncomputable def cB (s:SS) (z:Str) (b:Bool):SS:={ s with ptr:=none,asked:=false,row:=if b then s.row ++ [hsR z] else s.row }
def a8 (C:Addr):Sp:=λd H Q _=>∃ p c s z b,d=[.ref p,.str z,.bl b]/\yE C H p c s/\vP z=true/\z.length <= 1000/\s.ptr=some z/\s.row.length < 1000 /\
 ∀ r a,yE C a p c (yJ (cB s z b)).1->Rows a r (yJ (cB s z b)).2->H r=none->zD [p,c] H a->Q (.ref r) a
theorem zIG (T:xN K C) (G:yS K C NR "Seat.come" j5 Nq) (CC:Cal P w K mg base CX0 2 Sm NN u7) (MM:yD P w K mg base CX0 2 C Sq N4 (qM C)) (a:Blt mg S9) (k:Blt mg "bool") :
  yD P w K mg base CX0 3 C NR Nq (a8 C):=by
 refine G.oz zAL (λf a4 A a0 s0 H vs Q E hr h=>?_)
 obtain ⟨p,c,s,z,b,rfl,S0,hn,hl,hh,y,q⟩:=h
 have B:zZ 2 _:=hr.mono (by decide)
 refine ⟨_,(zE (yB (zO CC B (zA (pv 1) zB)))
   (zE (z4 (zT t8 (pv 1) (z8 (pv 0) rfl) (zX _)) (zF xK) zN)
   (zE (z4 (xB (y9 (zV yN a zQ (zA (pv 2) (zA (w6 k uX) zB))))) (zF xK) zN)
   (zE (vN (pv 0) yQ rfl)
   (zE (vN (pv 0) wS rfl)
   (zE (z4 (y9 (pv 2)) (zF (yB (uD F.plainAttrs_list F.slot_list_append F.type_list_append xQ (z8 (pv 0) rfl) (zA (yH (zA zJ (zA (pv 1) zB))) zB)))) zN)
   (zF (zL (xH MM T.cl B (pv 0)))))))))),?_⟩
 refine ⟨_,rfl,z,rfl,hn,hl,λi D=>?_⟩
 have S:=S0.keep D
 have t:=S.ne
 obtain ⟨⟨g,u⟩,⟨Y,I,J⟩,_⟩:=id S
 refine ⟨_,rfl,_,rfl,p,C,g,_,_,rfl,u,T.cl,T.nP,fR _ _ _ _,oJ _ _,_,rfl,?_⟩
 refine ifF (by rw [kZ,zMY hh];rfl) ?_
 refine ⟨_,rfl,_,_,_,_,rfl,(yF.bl (K:=K) (H:=i) b).ty,(yF.bl (K:=K) (H:=i) b).kit.2.2.1,_,rfl,?_⟩
 refine ifF rfl ?_
 refine ⟨_,rfl,p,C,g,_,rfl,u,T.cl,T.nP,by show 4 < 1000;decide,?_⟩
 rw [zGE]
 refine ⟨_,rfl,p,C,g,_,rfl,zC,T.cl,T.nA,by show 4 < 1000;decide,?_⟩
 dsimp only
 rw [zA3,uE]
 have L:zD [p,c] i (upd i p (.ins C g (xP .non c (z9 s.hold) false))):=zD.at (by simp)
 have S2:yE C (upd i p (.ins C g (xP .non c (z9 s.hold) false))) p c { s with ptr:=none,asked:=false }:=S.stay (dx:=g) { s with ptr:=none,asked:=false } zC (by rw [zK (Ne.symm t)]) rfl L
 have d:upd i p (.ins C g (xP .non c (z9 s.hold) false)) p=some (.ins C g (xP .non c (z9 s.hold) false)):=zC
 have e:upd i p (.ins C g (xP .non c (z9 s.hold) false)) c=some (.lst (Y.map V.ref)):=by rw [zK (Ne.symm t)];exact I
 have m:=zP L (uP u I) J
 have v:∀ r,upd i p (.ins C g (xP .non c (z9 s.hold) false)) r=none->i r=none:=λr h=>(zW h).1
 generalize upd i p (.ins C g (xP .non c (z9 s.hold) false))=n at L S2 d e m v ⊢
 refine ⟨_,rfl,_,rfl,?_⟩
 cases b with
 | false=>
  refine ifF rfl ?_
  refine ⟨_,rfl,p,g,_,rfl,d,m9 _ _ _ _,p,c,_,rfl,S2,λr H5 S5 R5 x k5=>?_⟩
  exact q r H5 S5 R5 (D.none (by simp) (v r x)) (((D.mono (by simp)).trans L).trans k5)
 | true=>
  refine ifT rfl ?_
  refine ⟨_,rfl,p,C,g,_,_,rfl,d,T.cl,T.nW,rK _ _ _ _,.inl ⟨rfl,_,.of e⟩,_,rfl,by show 2 <= sizeLine;decide,λl N=>?_⟩
  have k3:zD [] n (upd n l (.tup [.str NV,.str z])):=zD.new N
  have a1:c ≠ l:=zI e N
  have a2:=zY J
  rw [zMJ] at a2
  refine ⟨c,_,_,rfl,rfl,k3.z e,by rw [zMJ,sizeLine_eq];omega,?_⟩
  have O:∀ r,upd n l (.tup [.str NV,.str z]) r=none->n r=none:=λr h=>(zW h).1
  have U:upd n l (.tup [.str NV,.str z]) l=some (.tup (yU (hsR z))):=zC
  generalize upd n l (.tup [.str NV,.str z])=H3 at k3 O U ⊢
  have k4:zD [p,c] n (upd H3 c (.lst (Y.map V.ref ++ [.ref l]))):=(k3.mono (by simp)).trans (zD.at (by simp))
  have o:upd H3 c (.lst (Y.map V.ref ++ [.ref l])) p=some (.ins C g (xP (z9 none) c (z9 s.hold) false)):=by rw [zK t];exact k3.z d
  have S4:yE C (upd H3 c (.lst (Y.map V.ref ++ [.ref l]))) p c (cB s z true):=
   yE.more (s:={ s with ptr:=none,asked:=false }) (H:=H) (H1:=n) o (zP k4 (uP d e) m) zC (by rw [zK (Ne.symm a1)];exact U) y
  refine ⟨_,rfl,p,g,_,rfl,o,m9 _ _ _ _,p,c,_,rfl,S4,λr H5 S5 R5 x k5=>?_⟩
  have a3:=(zW x).1
  exact q r H5 S5 R5 (D.none (by simp) (v r (O r a3))) ((((D.mono (by simp)).trans L).trans k4).trans k5)
end
theorem zGP (a:V) (b:Addr) (h:V) (k:Bool):(xP a b h k).lookup (Sa : Str)=none:=rfl
theorem zL1 (a:V) (b:Addr) (h:V) (k:Bool):(xP a b h k).lookup (NW : Str)=none:=rfl
theorem zL4 (a:V) (b:Addr) (h:V) (k:Bool):(xP a b h k).lookup (NY : Str)=none:=rfl
theorem zIW (a:V) (b:Addr) (h:V) (k:Bool):(xP a b h k).lookup (NT : Str)=none:=rfl
theorem zL6 (a:V) (b:Addr) (h:V) (k:Bool):(xP a b h k).lookup (NR : Str)=none:=rfl
theorem zL5 (a:V) (b:Addr) (h:V) (k:Bool):(xP a b h k).lookup ("crowd" : Str)=none:=rfl
inductive DD where
 | want (z:Str)
 | leave (z:Str)
 | done (z:Str)
 | ask (z:Str)
 | come (z:Str) (b:Bool)
noncomputable def deedV:DD->List V
 | .want z=>[.str Sa,.str z]
 | .leave z=>[.str NW,.str z]
 | .done z=>[.str NY,.str z]
 | .ask z=>[.str NT,.str z]
 | .come z b=>[.str NR,.str z,.bl b]
noncomputable def qC (row:LSS):DD->LSS
 | .want z=>row ++ [askR z]
 | .leave z=>row.filter λx=>decide (x ≠ askR z)
 | .done _=>row
 | .ask z=>row ++ [hsR z]
 | .come z b=>if b then row ++ [hsR z] else row
noncomputable def wB (s:SS):DD->SS
 | .want z=>{ s with row:=s.row ++ [askR z] }
 | .leave z=>{ s with row:=s.row.filter λx=>decide (x ≠ askR z) }
 | .done _=>{ s with hold:=none }
 | .ask z=>{ s with row:=s.row ++ [hsR z] }
 | .come z b=>cB s z b
def f8 (s:SS):DD->Prop
 | .want z=>s.hold ≠ some z/\askR z ∉ s.row/\yT z
 | .leave z=>askR z ∈ s.row
 | .done z=>s.hold=some z
 | .ask z=>s.ptr ≠ some z/\hsR z ∉ s.row/\yT z
 | .come z _=>s.ptr=some z
structure qZ (s:SS):Prop where
 p:∀ z,s.ptr=some z->yT z
 h:∀ z,s.hold=some z->yT z
 r:∀ x ∈ s.row,(x.1=NQ \/ x.1=NV)/\yT x.2
 u:∀ z,s.row.count (askR z) <= 1
theorem bZ (s:SS) (d:DD):(wB s d).row=qC s.row d:=by cases d <;> rfl
theorem dO (y z:Str):hsR y ≠ askR z:=by
 intro e
 have a:(NV : Str)=NQ :=congrArg Prod.fst e
 exact absurd a (by decide +kernel)
theorem jA {l:LSS} {x a:Str × Str} (h:x ≠ a):(l ++ [x]).count a=l.count a:=by
 rw [List.count_append,List.count_cons,List.count_nil]
 have:(x == a)=false:=by simpa using h
 rw [this];simp
theorem qZ.more {s:SS} (I:qZ s) {x:Str × Str} (hx:(x.1=NQ \/ x.1=NV)/\yT x.2) (a:∀ z,x=askR z->x ∉ s.row):qZ { s with row:=s.row ++ [x] }:=by
 refine ⟨I.p,I.h,λy b=>?_,λz=>?_⟩
 ·rcases zM0.mp b with q | q
  ·exact I.r y q
  ·rw [zMM.mp q];exact hx
 ·by_cases e:x=askR z
  ·have c:s.row.count (askR z)=0:=List.count_eq_zero.mpr (by rw [<- e];exact a z e)
   show (s.row ++ [x]).count (askR z) <= 1
   rw [List.count_append,c,e]
   simp
  ·show (s.row ++ [x]).count (askR z) <= 1
   rw [jA e];exact I.u z
theorem qZ.sub {s s':SS} (I:qZ s) (b:∀ z,s'.ptr=some z->yT z) (c:∀ z,s'.hold=some z->yT z) (a:List.Sublist s'.row s.row):qZ s':=
 ⟨b,c,λx d=>I.r x (a.subset d),λz=>zMU (a.count_le _) (I.u z)⟩
theorem zCS (I:qZ s):∀ {d:DD},f8 s d->qZ (wB s d)
 | .want z,h=>I.more ⟨.inl rfl,h.2.2⟩ λ_ _=>h.2.1
 | .leave z,_=>I.sub I.p I.h List.filter_sublist
 | .done z,_=>I.sub I.p (λz e=>by cases e) (List.Sublist.refl _)
 | .ask z,h=>I.more ⟨.inr rfl,h.2.2⟩ λy e=>absurd e (dO z y)
 | .come z b,h=>by
  have g:=I.p z h
  have c:qZ { s with ptr:=none,asked:=false }:=I.sub (λz e=>by cases e) I.h (List.Sublist.refl _)
  cases b with
  | false=>exact c
  | true=>exact c.more (x:=hsR z) ⟨.inr rfl,g⟩ λy e=>absurd e (dO z y)
theorem zBS (I:qZ s):qZ (yJ s).1:=by
 unfold yJ
 split
 ·exact I
 ·split
  ·split
   ·rename_i d _ _ g
    unfold wD
    split
    ·exact I
    ·rename_i k n rest b
     have f:(k,n) ∈ s.row:=by rw [b];simp
     have c:=(I.r _ f).2
     have a:List.Sublist rest s.row:=by rw [b];exact List.sublist_cons_self _ _
     split
     ·exact I.sub I.p (λz e=>by cases e;exact c) a
     ·exact I.sub (λz e=>by cases e;exact c) I.h a
   ·exact I
  ·split
   ·exact I
   ·exact I.sub I.p I.h (List.Sublist.refl _)
theorem fX (row:LSS) (d:DD):(qC row d).length <= row.length + 1:=by
 cases d with
 | want z=>simp [qC]
 | leave z=>exact zMU (zNH _ _) (Nat.le_succ _)
 | done z=>exact Nat.le_succ _
 | ask z=>simp [qC]
 | come z b=>cases b <;> simp [qC]
theorem zBR (s:SS):(yJ s).1.row.length <= s.row.length:=by
 unfold yJ
 split
 ·exact zMS _
 ·split
  ·split
   ·unfold wD
    split
    ·exact zMS _
    ·rename_i k n rest a
     split <;> (show rest.length <= s.row.length;rw [a];simp)
   ·exact zMS _
  ·split <;> exact zMS _
theorem zBT (s:SS):(∀ r ∈ (yJ s).2,r.all xD=true/\r.length <= 2000)/\(yJ s).2.length <= 2000:=by
 unfold yJ
 split
 ·exact ⟨λr a=>absurd a zND,zMT _⟩
 ·split
  ·split
   ·unfold wD
    split
    ·exact ⟨λr a=>by rw [zMM.mp a];exact ⟨rfl,zMT _⟩,by show 1 <= 2000;decide⟩
    ·split
     ·exact ⟨λr a=>by rw [zMM.mp a];exact ⟨rfl,by show 2 <= 2000;decide⟩,by show 1 <= 2000;decide⟩
     ·exact ⟨λr a=>by rw [zMM.mp a];exact ⟨rfl,by show 3 <= 2000;decide⟩,by show 1 <= 2000;decide⟩
   ·exact ⟨λr a=>absurd a zND,zMT _⟩
  ·split
   ·exact ⟨λr a=>absurd a zND,zMT _⟩
   ·exact ⟨λr a=>by rw [zMM.mp a];exact ⟨rfl,by show 2 <= 2000;decide⟩,by show 1 <= 2000;decide⟩
theorem tS:∀ (l:LSS) (a:Str × Str) (j:Nat),l[j]?=some a->(∀ m:Nat,m < j->l[m]? ≠ some a)->l.count a <= 1->l.filter (λx=>decide (x ≠ a))=l.eraseIdx j
 | [],a,j,h,_,_=>by simp at h
 | y :: l,a,0,h,_,c=>by
  have e:y=a:=by simpa using h
  subst e
  have f:l.count y=0:=by
   rw [List.count_cons_self] at c;omega
  have g:=List.count_eq_zero.mp f
  rw [List.filter_cons]
  simp only [ne_eq,not_true_eq_false,decide_false,Bool.false_eq_true,if_false,List.eraseIdx_zero,List.tail_cons]
  exact List.filter_eq_self.mpr λx i=>zMY λe=>g (e ▸ i)
 | y :: l,a,j + 1,h,b,c=>by
  have ne:y ≠ a:=λe=>b 0 (by omega) (by simp [e])
  have d:=zMU (List.Sublist.count_le _ (List.sublist_cons_self y l)) c
  rw [List.filter_cons,if_pos (zMY ne),tS l a j (by simpa using h) (λm k e=>b (m + 1) (by omega) (by simpa using e)) d]
  rfl
noncomputable def askN (row:LSS):List Str:=(row.filter λr=>decide (r.1=(NQ : Str))).map (·.2)
noncomputable def wW (s:SS):List Str:=(uY s).map (·.1)
theorem wQ (s:SS):wW s=(match s.hold with | some z=>[z] | none=>[]) ++ askN s.row:=by
 unfold wW uY askN
 rw [zMV,zM3]
 cases s.hold <;> rfl
theorem hZ (row:LSS) (z:Str):askN (row ++ [askR z])=askN row ++ [z]:=by
 unfold askN
 rw [List.filter_append,zMV]
 simp
theorem cC (row:LSS) (z:Str):askN (row ++ [hsR z])=askN row:=by
 unfold askN
 rw [List.filter_append,zMV]
 have:((NV : Str)=NQ)=False:=by simp;decide +kernel
 simp [this]
theorem iP:z ∈ askN row ↔ askR z ∈ row:=by
 unfold askN
 rw [List.mem_map]
 constructor
 ·rintro ⟨⟨k,y⟩,h,rfl⟩
  obtain ⟨a,b⟩:=List.mem_filter.mp h
  have e:=of_decide_eq_true b
  subst e;exact a
 ·exact λh=>⟨askR z,List.mem_filter.mpr ⟨h,by simp⟩,rfl⟩
theorem uG:z ∈ wW s ↔ (s.hold=some z \/ askR z ∈ s.row):=by
 rw [wQ,zM0,iP]
 cases s.hold with
 | none=>simp
 | some y=>simp [eq_comm]
theorem zBP (s:SS):wW (yJ s).1=wW s:=by
 unfold yJ
 split
 ·rfl
 ·split
  ·split
   ·rename_i b
    unfold wD
    split
    ·rfl
    ·rename_i k n rest c
     by_cases a:k=(NQ : Str)
     ·simp only [if_pos a]
      rw [wQ,wQ,b,c]
      show [n] ++ askN rest=[] ++ askN ((k,n) :: rest)
      unfold askN
      rw [List.filter_cons,if_pos (by rw [a];simp)];rfl
     ·simp only [if_neg a]
      rw [wQ,wQ,b,c]
      show [] ++ askN rest=[] ++ askN ((k,n) :: rest)
      unfold askN
      rw [List.filter_cons,if_neg (by simpa using a)]
   ·rfl
  ·split <;> rfl
noncomputable def xC (ss:List SS):List Str:=ss.flatMap wW
noncomputable def vA:Nat->List SS->List (Str × List V)
 | _,[]=>[]
 | i,s :: b=>(uY s).map (λa=>(a.1,[V.int (i:Int),V.bl a.2])) ++ vA (i + 1) b
theorem wC:∀ ss i,(vA i ss).map (·.1)=xC ss
 | [],_=>rfl
 | s :: ss,i=>by
  unfold vA xC
  rw [zMV,wC ss,zM3];rfl
theorem lH:∀ ss i s,vA i (ss ++ [s])=vA i ss ++ (uY s).map (λa=>(a.1,[V.int ((i + ss.length:Nat):Int),V.bl a.2]))
 | [],i,s=>by simp [vA]
 | x :: ss,i,s=>by
  show _ ++ vA (i + 1) (ss ++ [s])=_
  rw [lH ss,<- zNE,zM4,show i + 1 + ss.length=i + (ss.length + 1) by omega];rfl
theorem sS:∀ {ss:List SS} {i:Nat} {r:Str × List V},r ∈ vA i ss ↔ ∃ k s b,ss[k]?=some s/\(r.1,b) ∈ uY s/\r.2=[V.int ((i + k:Nat):Int),V.bl b]
 | [],i,r=>by simp [vA]
 | x :: ss,i,r=>by
  unfold vA
  rw [zM0,sS (ss:=ss),List.mem_map]
  constructor
  ·rintro (⟨a,g,rfl⟩ | ⟨k,s,b,c,d,f⟩)
   ·exact ⟨0,x,a.2,rfl,g,rfl⟩
   ·exact ⟨k + 1,s,b,by simpa using c,d,by rw [f,show i + 1 + k=i + (k + 1) by omega]⟩
  ·rintro ⟨k,s,b,c,d,f⟩
   cases k with
   | zero=>
    have e:x=s:=by simpa using c
    subst e
    exact .inl ⟨_,d,Prod.ext rfl f.symm⟩
   | succ k=>exact .inr ⟨k,s,b,by simpa using c,d,by rw [f,show i + 1 + k=i + (k + 1) by omega]⟩
theorem vC:z ∈ xC ss ↔ ∃ (i:Nat) (s:SS),ss[i]?=some s/\z ∈ wW s:=by
 unfold xC
 rw [List.mem_flatMap]
 constructor
 ·rintro ⟨s,b,a⟩
  obtain ⟨i,c,e⟩:=List.getElem_of_mem b
  exact ⟨i,s,by rw [zMK c,e],a⟩
 ·rintro ⟨i,s,h,a⟩;exact ⟨s,zMN h,a⟩
theorem oX:∀ {ss:List SS} {i j:Nat} {s s':SS} {z:Str},(xC ss).Nodup->ss[i]?=some s->ss[j]?=some s'->z ∈ wW s->z ∈ wW s'->i=j
 | [],_,_,_,_,_,_,h,_,_,_=>by simp at h
 | x :: ss,i,j,s,s',z,k,a,b,c,d=>by
  obtain ⟨_,f,g⟩:=List.nodup_append.mp (show (wW x ++ xC ss).Nodup from k)
  cases i with
  | zero=>
   cases j with
   | zero=>rfl
   | succ j=>
    have e:x=s:=by simpa using a
    subst e
    exact absurd rfl (g z c z (vC.mpr ⟨j,s',by simpa using b,d⟩))
  | succ i=>
   cases j with
   | zero=>
    have e:x=s':=by simpa using b
    subst e
    exact absurd rfl (g z d z (vC.mpr ⟨i,s,by simpa using a,c⟩))
   | succ j=>exact congrArg Nat.succ (oX (s:=s) (s':=s') (z:=z) f (by simpa using a) (by simpa using b) c d)
theorem iL:∀ {ss:List SS} {i:Nat} {s s':SS},ss[i]?=some s->(wW s').Sublist (wW s)->(xC (ss.set i s')).Sublist (xC ss)
 | [],_,_,_,h,_=>by simp at h
 | x :: ss,0,s,s',h,l=>by
  have e:x=s:=by simpa using h
  subst e
  exact List.Sublist.append l (List.Sublist.refl _)
 | x :: ss,i + 1,s,s',h,l=>List.Sublist.append (List.Sublist.refl (wW x)) (iL (ss:=ss) (i:=i) (by simpa using h) l)
theorem mZ:∀ {ss:List SS} {i:Nat} {s s':SS} {z:Str},ss[i]?=some s->wW s'=wW s ++ [z]->(xC (ss.set i s')).Perm (z :: xC ss)
 | [],_,_,_,_,h,_=>by simp at h
 | x :: ss,0,s,s',z,h,l=>by
  have e:x=s:=by simpa using h
  subst e
  show (wW s' ++ xC ss).Perm (z :: (wW x ++ xC ss))
  rw [l,zNE]
  exact List.perm_middle
 | x :: ss,i + 1,s,s',z,h,l=>by
  show (wW x ++ xC (ss.set i s')).Perm (z :: (wW x ++ xC ss))
  exact (List.Perm.append_left _ (mZ (ss:=ss) (by simpa using h) l)).trans List.perm_middle
structure uB (k:Nat) (ss:List SS):Prop where
 si:∀ s ∈ ss,qZ s
 nd:(xC ss).Nodup
 ln:(xC ss).length <= k
 rl:∀ s ∈ ss,s.row.length <= k
noncomputable def nI (s:SS):Nat:=s.row.length + (if s.hold=none then 0 else 1)
noncomputable def u8 (s:SS) (i:Nat):List V:=[.int (nI s:Int),.bl (decide (s.ptr ≠ none)),.int (i:Int)]
noncomputable def wK:Nat->List SS->List (List V)
 | _,[]=>[]
 | i,s :: a=>u8 s i :: wK (i + 1) a
theorem uL:∀ ss i,(wK i ss).length=ss.length
 | [],_=>rfl
 | _ :: ss,i=>by unfold wK;rw [zM4,uL ss];rfl
theorem tJ:∀ {ss:List SS} {i k:Nat} {s:SS},ss[k]?=some s->(wK i ss)[k]?=some (u8 s (i + k))
 | [],_,_,_,h=>by simp at h
 | x :: ss,i,0,s,h=>by
  have e:x=s:=by simpa using h
  subst e;rfl
 | x :: ss,i,k + 1,s,h=>by
  show (wK (i + 1) ss)[k]?=_
  rw [tJ (i:=i + 1) (by simpa using h),show i + 1 + k=i + (k + 1) by omega]
theorem oR:∀ ss i s,wK i (ss ++ [s])=wK i ss ++ [u8 s (i + ss.length)]
 | [],i,s=>rfl
 | x :: ss,i,s=>by
  show u8 x i :: wK (i + 1) (ss ++ [s])=_
  rw [oR ss,show i + 1 + ss.length=i + (ss.length + 1) by omega];rfl
theorem oS:∀ {ss:List SS} {i:Nat},∀ r ∈ wK i ss,∃ a b c,r=[.int a,.bl b,.int c]
 | [],_,r,h=>by cases h
 | x :: ss,i,r,h=>by
  rcases List.mem_cons.mp h with rfl | h
  ·exact ⟨_,_,_,rfl⟩
  ·exact oS r h
noncomputable def pL (ss:List SS):Nat:=nR (wK 0 ss)
theorem tV (a:Nat->Nat->Bool):∀ k,argBest a k <= k
 | 0=>zMS _
 | k + 1=>by
  unfold argBest
  split
  ·exact zMS _
  ·exact Nat.le_succ_of_le (tV a k)
theorem hX (h:ss ≠ []):pL ss < ss.length:=by
 unfold pL nR
 rw [uL]
 have:=tV (λi j=>tR ((wK 0 ss).getD i []) ((wK 0 ss).getD j [])) (ss.length - 1)
 have:0 < ss.length:=zM9.mpr h
 omega
noncomputable def vY (s:SS):List V:=[.int (nI s:Int),.int (if s.ptr=none then 0 else 1)]
noncomputable def bt2 (ss:List SS) (i j:Nat):Bool:=tR ((ss.map vY).getD i []) ((ss.map vY).getD j [])
theorem zB0 (s t:SS) (h:j <= i):tR (u8 s i) (u8 t j)=tR (vY s) (vY t):=by
 have a:¬ ((i:Int) < j):=by omega
 unfold u8 vY
 simp only [tR,eqV,ltF]
 cases s.ptr <;> cases t.ptr <;> simp [a]
theorem hV (ss:List SS):∀ k,k < ss.length->argBest (λi j=>tR ((wK 0 ss).getD i []) ((wK 0 ss).getD j [])) k=argBest (bt2 ss) k
 | 0,_=>rfl
 | k + 1,h=>by
  unfold argBest
  rw [hV ss k (by omega)]
  have l:=tV (bt2 ss) k
  generalize argBest (bt2 ss) k=b at l
  have a:b < ss.length:=by omega
  have c:tR ((wK 0 ss).getD (k + 1) []) ((wK 0 ss).getD b [])=bt2 ss (k + 1) b:=by
   unfold bt2
   rw [zMO,zMO,tJ (zMK h),tJ (zMK a),zMO,zMO,zMP,zMP,zMK h,zMK a]
   exact zB0 _ _ (by omega)
  rw [c]
theorem zFK (h:ss ≠ []):pL ss=argBest (bt2 ss) (ss.length - 1):=by
 have:0 < ss.length:=zM9.mpr h
 unfold pL nR
 rw [uL]
 exact hV ss _ (by omega)
inductive HD where
 | want (z:Str) (r:Option Nat)
 | leave (z:Str)
 | done (z:Str)
 | ask (z:Str) (r:Nat)
 | come (z:Str) (r:Nat) (b:Bool)
noncomputable def rV:Option Nat->V
 | none=>.non
 | some i=>.int (i:Int)
noncomputable def hdV:HD->List V
 | .want z r=>[.str Sa,.str z,rV r]
 | .leave z=>[.str NW,.str z]
 | .done z=>[.str NY,.str z]
 | .ask z r=>[.str NT,.str z,.int (r:Int)]
 | .come z r b=>[.str NR,.str z,.int (r:Int),.bl b]
inductive AtR (nb:List Str) (ss:List SS):HD->Nat->SS->DD->Prop
 | any {z:Str} {i:Nat} {s:SS}:ss[i]?=some s->i=pL ss->yT z->z ∉ xC ss->AtR nb ss (.want z none) i s (.want z)
 | want {z:Str} {i:Nat} {s:SS}:ss[i]?=some s->yT z->z ∉ xC ss->AtR nb ss (.want z (some i)) i s (.want z)
 | leave {z:Str} {i:Nat} {s:SS}:ss[i]?=some s->askR z ∈ s.row->AtR nb ss (.leave z) i s (.leave z)
 | done {z:Str} {i:Nat} {s:SS}:ss[i]?=some s->s.hold=some z->AtR nb ss (.done z) i s (.done z)
 | ask {z:Str} {i:Nat} {s:SS}:ss[i]?=some s->z ∈ nb->yT z->s.ptr ≠ some z->hsR z ∉ s.row->AtR nb ss (.ask z i) i s (.ask z)
 | come {z:Str} {i:Nat} {s:SS} {b:Bool}:ss[i]?=some s->z ∈ nb->s.ptr=some z->AtR nb ss (.come z i b) i s (.come z b)
theorem AtR.here (a:AtR b ss h i s d):ss[i]?=some s:=by cases a <;> assumption
theorem AtR.ok (a:AtR j ss h i s d):f8 s d:=by
 have no:∀ {z:Str},ss[i]?=some s->z ∉ xC ss->s.hold ≠ some z/\askR z ∉ s.row:=λc f=>by
  have:=λq=>f (vC.mpr ⟨i,s,c,uG.mpr q⟩)
  exact ⟨λe=>this (.inl e),λe=>this (.inr e)⟩
 cases a with
 | any h _ g n=>exact ⟨(no h n).1,(no h n).2,g⟩
 | want h g n=>exact ⟨(no h n).1,(no h n).2,g⟩
 | leave h m=>exact m
 | done h m=>exact m
 | ask h m g a b=>exact ⟨a,b,g⟩
 | come h m a=>exact a
theorem uB.deed (I:uB k ss) (a:AtR u ss h i s d):uB (k + 1) (ss.set i (yJ (wB s d)).1):=by
 have c:=a.here
 have g:=zMN c
 have o:=I.si s g
 have j:=zBP (wB s d)
 have sub:∀ l:(wW (wB s d)).Sublist (wW s),(xC (ss.set i (yJ (wB s d)).1)).Nodup/\(xC (ss.set i (yJ (wB s d)).1)).length <= k + 1:=λl=>by
  have m:=iL (s':=(yJ (wB s d)).1) c (by rw [j];exact l)
  exact ⟨I.nd.sublist m,Nat.le_succ_of_le (zMU m.length_le I.ln)⟩
 have more:∀ z,wW (wB s d)=wW s ++ [z]->z ∉ xC ss->(xC (ss.set i (yJ (wB s d)).1)).Nodup/\(xC (ss.set i (yJ (wB s d)).1)).length <= k + 1:=λz e r=>by
  have p:=mZ (s':=(yJ (wB s d)).1) c (by rw [j];exact e)
  exact ⟨p.nodup_iff.mpr (List.nodup_cons.mpr ⟨r,I.nd⟩),by rw [p.length_eq,zM4];exact Nat.succ_le_succ I.ln⟩
 have both:(xC (ss.set i (yJ (wB s d)).1)).Nodup/\(xC (ss.set i (yJ (wB s d)).1)).length <= k + 1:=by
  cases a with
  | @any z _ _ _ _ _ n=>exact more z (by rw [wQ,wQ];show _ ++ askN (s.row ++ [askR z])=_;rw [hZ,<- zNE];rfl) n
  | @want z _ _ _ _ n=>exact more z (by rw [wQ,wQ];show _ ++ askN (s.row ++ [askR z])=_;rw [hZ,<- zNE];rfl) n
  | leave _ _=>
   refine sub ?_
   rw [wQ,wQ]
   refine List.Sublist.append (List.Sublist.refl _) ?_
   exact (List.Sublist.filter _ List.filter_sublist).map _
  | done _ _=>
   refine sub ?_
   rw [wQ,wQ]
   exact List.sublist_append_right _ _
  | ask _ _ _ _ _=>
   refine sub ?_
   rw [wQ,wQ]
   show ((match s.hold with | some z=>[z] | none=>[]) ++ askN (s.row ++ [hsR _])).Sublist _
   rw [cC]
   exact List.Sublist.refl _
  | @come z _ _ b _ _ _=>
   refine sub ?_
   rw [wQ,wQ]
   cases b with
   | false=>exact List.Sublist.refl _
   | true=>
    show ((match s.hold with | some z=>[z] | none=>[]) ++ askN (s.row ++ [hsR z])).Sublist _
    rw [cC]
    exact List.Sublist.refl _
 refine ⟨λt f=>?_,both.1,both.2,λt f=>?_⟩
 ·rcases List.mem_or_eq_of_mem_set f with h | rfl
  ·exact I.si t h
  ·exact zBS (zCS o a.ok)
 ·rcases List.mem_or_eq_of_mem_set f with h | rfl
  ·exact Nat.le_succ_of_le (I.rl t h)
  ·refine zMU (zBR _) ?_
   rw [bZ]
   exact zMU (fX _ _) (Nat.succ_le_succ (I.rl s g))
noncomputable def kQ (i:Nat):List V->List V
 | []=>[]
 | x :: l=>x :: .int (i:Int) :: l
abbrev sNu:Stmt:=top 31
abbrev sCr:Stmt:=yW (top 26) 6
abbrev sRW:Stmt:=yW (top 32) 15
abbrev sRO:Stmt:=yW (top 32) 16
abbrev sBR:Stmt:=yW (top 32) 17
abbrev sCL:Stmt:=yW (top 32) 18
theorem iI {X:Cx} (e:X.K=K:=by rfl):OpR X (binaryOp .Add) (zA1 K):=e ▸ dL
theorem jW {X:Cx} (e:X.K=K:=by rfl):SlR X (zA0 K):=e ▸ pP
theorem at0 {a:Type} (x:a) (l:List a):atI (x :: l) 0=some x:=uI (j:=0) rfl
theorem at1 {a:Type} (x y:a) (l:List a):atI (x :: y :: l) 1=some y:=uI (j:=1) rfl
theorem at2 {a:Type} (x y z:a) (l:List a):atI (x :: y :: z :: l) 2=some z:=uI (j:=2) rfl
theorem at3 {a:Type} (x y z u:a) (l:List a):atI (x :: y :: z :: u :: l) 3=some u:=uI (j:=3) rfl
theorem b8 (x:V) (l:List V):vI (x :: l) (some 1) none=l:=by
 unfold vI
 rw [show (1:Int)=((1:Nat):Int) from rfl,HT.sIx_nat]
 simp only [zM4]
 rw [show min 1 (l.length + 1)=1 by omega]
 show l.take _=l
 rw [zM8]
 show l.length <= HT.sIx (l.length + 1) (l.length + 1) none - 1
 unfold HT.sIx
 simp
theorem zB4 {its:List V} (B:its.length < sizeLine) (Pv:Nat->List V->St->Hp->Prop) (l:Pv 0 [] (stC xs ix n) (upd H1 acc (.lst []))) (d:∀ i ys b H,Pv i ys b H->H acc=some (.lst ys)/\ys.length <= i/\SqL K H a its)
  (o:∀ i ys b H x T,its[i]?=some x->Pv i ys b H->H T=none->g (.ref T) b (upd H T (.tup [.int (k + i),x])) λc q=>r c q λy f=>f acc=some (.lst ys)/\Pv (i + 1) (ys ++ [y]) c (upd f acc (.lst (ys ++ [y])))) (hd:∀ ys b H,Pv its.length ys b H->Q (.ref acc) H):LCW (Ite K a k) xs ix g sT r n H1 acc Q:=by
 refine ⟨λi m ys b H=>m=its.length - i/\i <= its.length/\Pv i ys b H,⟨its.length,by simp,zMT _,l⟩,?_⟩
 rintro i m ys b H ⟨rfl,C,p⟩
 obtain ⟨s,D,j⟩:=d i ys b H p
 refine ⟨s,by omega,?_⟩
 by_cases h:i < its.length
 ·refine .inr ⟨⟨its,its[i],j,by simp [h]⟩,Pv (i + 1),λt u w z=>⟨its.length - (i + 1),by omega,rfl,h,z⟩,λx w y=>?_⟩
  obtain ⟨T,v,rfl,A,rfl,y⟩:=y
  exact oA (R:=λc _=>λy f=>f acc=some (.lst ys)/\Pv (i + 1) (ys ++ [y]) c (upd f acc (.lst (ys ++ [y])))) (o i ys b _ v T (y its j) p A)
 ·have e:i=its.length:=by omega
  subst e
  exact .inl ⟨⟨its,j,zMS _⟩,hd ys b H p⟩
theorem bD (ss:List SS) (i:Nat):(xC (ss.take i)).length <= (xC ss).length:=by
 have e:xC ss=xC (ss.take i) ++ xC (ss.drop i):=by
  unfold xC
  rw [<- List.flatMap_append,List.take_append_drop]
 rw [e,zM1];omega
theorem fY (ss:List SS) (i:Nat):(vA 0 (ss.take i)).length <= (xC ss).length:=by
 have:=bD ss i
 rw [<- wC _ 0,zMJ] at this
 exact this
theorem vT {a:Type} {l:List a} {i:Nat} {x:a} (h:l[i]?=some x):l.take (i + 1)=l.take i ++ [x]:=by rw [List.take_add_one,h];rfl
noncomputable def kvR (a:List (Str × List V)):List (Key × V):=a.map λr=>((Sum.inr r.1:Key),r.2.headD .non)
theorem o6:∀ {a:List (Str × List V)} {z:Str},z ∉ a.map (·.1)->tI (kvR a) (.inr z)=none
 | [],_,_=>rfl
 | r :: a,z,h=>by
  rw [List.map_cons,List.mem_cons,not_or] at h
  show tI ((Sum.inr r.1,r.2.headD .non) :: kvR a) _=none
  rw [t5 (by show ¬ ((Sum.inr r.1:Key)=.inr z);intro e;injection e with e;exact h.1 e.symm)]
  exact o6 h.2
theorem iU:∀ {a:List (Str × List V)} {r:Str × List V},(a.map (·.1)).Nodup->r ∈ a->tI (kvR a) (.inr r.1)=some (r.2.headD .non)
 | [],_,_,h=>by cases h
 | x :: a,r,b,h=>by
  obtain ⟨n1,n2⟩:=List.nodup_cons.mp (show (x.1 :: a.map (·.1)).Nodup from b)
  show tI ((Sum.inr x.1,x.2.headD .non) :: kvR a) _=_
  rcases List.mem_cons.mp h with rfl | h
  ·exact rN rfl
  ·rw [t5 (by show ¬ ((Sum.inr x.1:Key)=.inr r.1);intro e;injection e with e;exact n1 (e ▸ List.mem_map_of_mem h))]
   exact iU n2 h
theorem wE (h:Paired R a b):∀ (i:Nat) (q:Addr),a[i]?=some q->∃ r,b[i]?=some r/\R q r:=by
 induction h with
 | nil=>intro i q e;simp at e
 | @cons q r a b c _ d=>
  intro i x e
  cases i with
  | zero=>simp at e;subst e;exact ⟨r,rfl,c⟩
  | succ i=>exact d i x (by simpa using e)
theorem zCE (nm:V) (nl a:Addr):(hfl nm nl a).lookup (Ss : Str)=none:=rfl
theorem m6 (nm:V) (nl a:Addr):(hfl nm nl a).lookup (Sh : Str)=none:=rfl
theorem zCD (nm:V) (nl a:Addr):(hfl nm nl a).lookup (Se : Str)=none:=rfl
theorem zLW (nm:V) (nl a:Addr):(hfl nm nl a).lookup (SN : Str)=none:=rfl
theorem zGM (nm:V) (nl a:Addr):(hfl nm nl a).lookup (S6 : Str)=none:=rfl
theorem zGN (nm:V) (nl a:Addr):(hfl nm nl a).lookup (Sw : Str)=some (.ref nl):=rfl
section
variable {P:Program} {w:World} {K:W.Frag} {mg:Str->Option Value} {base:Heap} {C CS:Addr}
theorem scNu:zM Nf Nf (zG sNu):=scm
theorem scCr:zM N4 N4 (zG sCr):=scm
theorem scRW:zM N4 N4 (zG sRW):=scm
theorem zDT:zM ["self",NQ,"wanted"] N1 (zG sRO):=scm
theorem scBR:zM N4 N4 (zG sBR):=scm
theorem zKO:zM N6 N6 (zG sCL):=scm
def oF:Sp:=λd H Q _=>∃ (i:Nat) (a:Addr) (b:List (List V)),d=[.int (i:Int),.ref a]/\Rows H a b/\(∀ l ∈ b,l ≠ []/\l.length <= 10)/\b.length <= 100/\∀ (r:Addr) (c:Hp),Rows c r (b.map (kQ i))->H r=none->zD [] H c->Q (.ref r) c
theorem mX (n:l ≠ []/\l.length <= 10) (j:H q=some (.tup l)) (h:∀ t f,zD [] H f->f t=some (.tup (kQ i l))->R (.ref t) f) :
  tOp (zA1 K) (zG4 (uC (tOp iA (u5 0) (tC (.int 0))) (uC (u5 1) rP))) (tSl (zA0 K) (u5 0) (aM (tC (.int 1))) lQ) [some (.ref q),some (.int (i:Int))] H R:=by
 obtain ⟨n1,n2⟩:=n
 cases l with
 | nil=>exact absurd rfl n1
 | cons x l=>
 have o:l.length <= 9:=by simpa using n2
 refine ⟨_,rfl,q,_,0,x,rfl,rfl,j,at0 _ _,_,rfl,by show 2 <= sizeLine;decide,λu r=>?_⟩
 have b:zD [] H (upd H u (.tup [x,.int (i:Int)])):=zD.new r
 have k:upd H u (.tup [x,.int (i:Int)]) u=some (.tup [x,.int (i:Int)]):=zC
 have a:=b.z j
 generalize upd H u (.tup [x,.int (i:Int)])=c at b k a ⊢
 refine ⟨_,rfl,_,rfl,q,_,rfl,.of a,.inr ⟨?_,λv s=>?_⟩⟩
 ·rintro ⟨e,_⟩
  rw [show (1:Int)=((1:Nat):Int) from rfl,HT.sIx_nat] at e
  simp only [zM4] at e
  omega
 rw [b8]
 have d:zD [] c (upd c v (.tup l)):=zD.new s
 have g:=d.z k
 have m:upd c v (.tup l) v=some (.tup l):=zC
 generalize upd c v (.tup l)=y at d g m ⊢
 refine ⟨u,v,[x,.int (i:Int)],l,rfl,rfl,.of g,.of m,by simp,by rw [sizeLine_eq];show 2 + _ <= _;omega,λe=>?_,λ_ p A=>?_⟩
 ·subst e
  exact h u y (b.trans d) g
 ·exact h p _ ((b.trans d).trans (zD.new A)) zC
theorem okNu (G:yM K mg Sf sNu Nf):Cal P w K mg base CX0 1 Sf Nf oF:=by
 refine G.oz scNu (λf j A c u H m Q E x h=>?_)
 obtain ⟨i,a,n,rfl,R,o,y,q⟩:=h
 obtain ⟨z,d,p⟩:=id R
 refine ⟨_,(zF (zL (wV (N:=Nf) (sc:=zG sNu) (ix:=[0]) (by decide +kernel) (y6 (pv 1)) (λ_ _ _ _=>xG) (λ_ _ _ _=>(yG (iI (K:=K)) (yH (zA (zS zU (pv 0) zH (λ_ _=>rfl)) (zA (pv 1) zB))) (xT (jW (K:=K)) (pv 0) (xW zH) wZ)))))),?_⟩
 refine ⟨_,rfl,a,rfl,⟨_,.of d⟩,λacc b=>?_⟩
 refine kT (ds:=n) id (kQ i) (λ_=>true) (λl q=>[some (.ref q)]) [some (.int (i:Int))] (by omega) b (by rw [List.map_id];exact R) ⟨[none],rfl,rfl⟩ (λ_ _=>rfl) ?_ ?_ ?_ ?_
 ·intro l q m H R _ r e h
  obtain ⟨v,rfl⟩:=List.length_eq_one_iff.mp r
  exact h
 ·intro l q H R _ _ _ h
  exact h H (zD.refl _)
 ·intro l q H R s e h
  exact mX (o l s) e h
 ·intro t g k
  rw [List.filter_eq_self.mpr (λ_ _=>rfl)] at g
  exact q acc t g b k
def zJ4 (CS:Addr):Sp:=λa H Q _=>∃ p b s,a=[.ref p]/\yE CS H p b s/\Q (.int (nI s:Int)) H
theorem okCr (TS:xN K CS) (G:yS K CS "crowd" "Seat.crowd" sCr N4) (a:Blt mg S8):yD P w K mg base CX0 1 CS "crowd" N4 (zJ4 CS):=by
 refine G.oz scCr (λf l A c m H n Q E o h=>?_)
 obtain ⟨p,r,s,rfl,S,q⟩:=h
 obtain ⟨⟨i,b⟩,⟨t,d,e⟩,j⟩:=id S
 have g:=zY e
 rw [zMJ] at g
 refine ⟨_,(zF (zL (yG wP (zV yA a yP (zA (z8 (pv 0) rfl) zB)) (rY (zT uO (z8 (pv 0) rfl) yQ (zX _)) zH zH)))),?_⟩
 refine ⟨_,rfl,p,CS,i,_,_,rfl,b,TS.cl,TS.nW,rK _ _ _ _,_,_,rfl,.inl ⟨_,.of d,rfl⟩,_,rfl,p,CS,i,_,_,rfl,b,TS.cl,TS.nH,iX _ _ _ _,rfl,_,rfl,?_⟩
 unfold nI at q
 cases k:s.hold with
 | none=>
  rw [k,if_pos rfl] at q
  refine ifT rfl ⟨_,_,rfl,rfl,?_⟩
  rw [zMJ,g]
  exact q
 | some z=>
  rw [k,if_neg (by simp)] at q
  refine ifF rfl ⟨_,_,rfl,rfl,?_⟩
  rw [zMJ,g]
  exact q
def aY (C CS:Addr):Sp:=λd H Q _=>∃ B p e f g a,d=[.ref p]/\yC B C CS H p e f g a/\(xC a).Nodup/\(xC a).length < 64 /\
 ∀ l b c,b.Perm (vA 0 a)->Asc ltN b->Rows c l (b.map nmV)->H l=none->zD [] H c->Q (.ref l) c
theorem zLF (T:y4 K C) (TS:xN K CS) (G:yS K C Ss "House.askers" zAR N4) (a7:yD P w K mg base CX0 1 CS Ss N4 (zJR CS)) (e:Blt mg "sorted") (d:Blt mg "enumerate"):yD P w K mg base CX0 2 C Ss N4 (aY C CS):=by
 refine G.oz zKM (λf al A aa s0 H vs Q E hr h=>?_)
 obtain ⟨B,p,nm,nb,xs,m,rfl,⟨dx,nl,sl,_,hp,an,O,a0,ab⟩,nd,ac,q⟩:=h
 have ae:zZ 1 _:=hr
 refine ⟨_,(zF (zL (zV jE e lC (zA (zEB (N:=N4) (sc:=zG zAR) (ix:=[]) (by decide +kernel) (iE rfl d.no (z8 (pv 0) rfl)) (λ_ _ _ _=>zA9 (K:=K) (xH a7 TS.cl ae (pv 1))) (λ_ _ _ _=>xG) (λ_ _ _ _=>xG) (λ_ _ _ _=>(yH (zA (pv 2) (zA (pv 0) (zA (pv 3) zB)))))) zB)))),?_⟩
 refine ⟨_,rfl,p,C,dx,_,_,rfl,hp,T.cl,T.nS,xZ _ _ _,sl,rfl,⟨_,.of O⟩,λacc o=>?_⟩
 have sa:sl ≠ acc:=zI O o
 refine zB7 (K:=K) (a:=sl) (k:=0) (its:=xs.map λx=>V.ref x.1) (λi v L I=>∃ v0 v1 v2 v3 J,L=[v0,v1,v2,v3]/\v=J.map V.ref/\Paired (λq r=>I q=some (.tup r)) J ((vA 0 (m.take i)).map nmV)/\zD [acc] H I/\I acc=some (.lst v)) ⟨_,_,_,_,[],rfl,rfl,.nil,zD.at (by simp),zC⟩ (λi v L I _ ⟨_,_,_,_,_,_,_,_,k,_⟩=>.of (k _ _ (by simp [sa]) O)) ?_ ?_
 ·rintro i v L I x TT hx ⟨v0,v1,v2,v3,J,rfl,rfl,M,k1,h1⟩ ag
  obtain ⟨y,ex,rfl⟩:=gm hx
  have il:i < m.length:=by rw [<- a0];exact (zML.mp ex).1
  have es:m[i]?=some m[i]:=zMK il
  generalize m[i]=s at es
  have S:=ab i y _ ex es
  rw [show (0:Int) + (i:Int)=(i:Int) from Int.zero_add _]
  have k2:zD [] I (upd I TT (.tup [.int (i:Int),.ref y.1])):=zD.new ag
  have e2:upd I TT (.tup [.int (i:Int),.ref y.1]) TT=some (.tup [.int (i:Int),.ref y.1]):=zC
  generalize upd I TT (.tup [.int (i:Int),.ref y.1])=H2 at k2 e2
  have S2:=(S.keep (k1.drop o)).keep k2
  obtain ⟨dy,ah⟩:=S2.ob
  refine ⟨TT,_,rfl,.of e2,rfl,_,_,rfl,_,_,rfl,rfl,?_⟩
  refine ⟨_,rfl,y.1,dy,_,rfl,ah,zL8 _ _ _ _,y.1,y.2,_,rfl,S2,λr H3 hR hr k3=>⟨r,rfl,?_⟩⟩
  obtain ⟨rs,a3,a4⟩:=hR
  have a5:=zY a4
  rw [zMJ] at a5
  have U:=k2.trans k3
  have h3:=U.z h1
  have ra:r ≠ acc:=Ne.symm (zI (k2.z h1) hr)
  have ai:=zP U (λb Y=>by cases Y) M
  have et:(vA 0 (m.take (i + 1))).map nmV=(vA 0 (m.take i)).map nmV ++ (uY s).map λa=>[.str a.1,.int (i:Int),.bl a.2]:=by
   rw [vT es,lH,zMV,zM3,zM2,Nat.zero_add,show min i m.length=i by omega];rfl
  have lt:((vA 0 (m.take i)).map nmV).length + (uY s).length < 64:=by
   have a1:=congrArg List.length et
   have a2:=fY m (i + 1)
   simp only [zM1,zMJ] at a1 ⊢
   omega
  refine ⟨⟨_,.of a3⟩,?_⟩
  refine zCC (K:=K) (its:=rs.map V.ref) (λj v L n=>∃ w2 w3 c,L=[some (.int (i:Int)),some (.ref y.1),w2,w3]/\v=(J ++ c).map V.ref/\Paired (λq r=>n q=some (.tup r)) (J ++ c) ((vA 0 (m.take i)).map nmV ++ ((uY s).take j).map λa=>[.str a.1,.int (i:Int),.bl a.2])/\zD [acc] H3 n/\n acc=some (.lst v)) ?_ ?_ ?_ ?_
  ·exact ⟨v2,v3,[],rfl,by simp,by simpa using ai,zD.refl _,h3⟩
  ·rintro j v L n ⟨w2,w3,c,rfl,rfl,g,k4,h4⟩
   refine ⟨h4,?_,.of (k4 _ _ (by simp [ra]) a3)⟩
   have:=zY g
   rw [zM1,zM1,zMJ (as:=List.take j _),zM2] at this
   rw [zMJ,zM1,sizeLine_eq];omega
  ·rintro j v L n x hx ⟨w2,w3,c,rfl,rfl,g,k4,h4⟩
   obtain ⟨u,eu,rfl⟩:=gm hx
   obtain ⟨r',D,hu⟩:=wE a4 j u eu
   rw [zMP] at D
   cases ea:(uY s)[j]? with
   | none=>rw [ea] at D;cases D
   | some a=>
   rw [ea] at D
   have e':zI3 a=r':=zMQ D
   subst e'
   have ua:u ≠ acc:=wL hu h3 (by intro z;cases z)
   have hu4:=k4 _ _ (by simp [ua]) hu
   refine ⟨u,_,rfl,.of hu4,rfl,_,_,rfl,_,_,rfl,rfl,?_⟩
   refine ⟨_,rfl,_,rfl,_,rfl,by show 3 <= sizeLine;decide,λt ht=>?_⟩
   have k5:zD [] n (upd n t (.tup [.str a.1,.int (i:Int),.bl a.2])):=zD.new ht
   have e5:upd n t (.tup [.str a.1,.int (i:Int),.bl a.2]) t=some (.tup [.str a.1,.int (i:Int),.bl a.2]):=zC
   have h5:=k5.z h4
   have ta:t ≠ acc:=Ne.symm (zI h4 ht)
   refine ⟨h5,_,_,c ++ [t],rfl,by simp,?_,(k4.trans (k5.mono (by simp))).trans (zD.at (by simp)),zC⟩
   have k6:zD [acc] (upd n t (.tup [.str a.1,.int (i:Int),.bl a.2])) (upd (upd n t (.tup [.str a.1,.int (i:Int),.bl a.2])) acc (.lst ((J ++ c).map V.ref ++ [.ref t]))):=zD.at (by simp)
   have nt:∀ b ∈ [acc],∀ xs,upd n t (.tup [.str a.1,.int (i:Int),.bl a.2]) b ≠ some (.tup xs):=λb Y xs z=>by rw [zMM.mp Y,h5] at z;cases z
   have er:((uY s).take (j + 1)).map (λa=>[V.str a.1,V.int (i:Int),V.bl a.2])=((uY s).take j).map (λa=>[V.str a.1,V.int (i:Int),V.bl a.2]) ++ [[V.str a.1,.int (i:Int),.bl a.2]]:=by rw [vT ea,zMV];rfl
   rw [er,<- zNE J,<- zNE (List.map nmV _)]
   exact wJ (zP k6 nt (zP k5 (λb Y=>by cases Y) g)) (k6 _ _ (by simp [ta]) e5)
  ·rintro v L n ⟨w2,w3,c,rfl,rfl,g,k4,h4⟩
   refine ⟨_,_,_,_,J ++ c,rfl,rfl,?_,k1.trans ((U.mono (by simp)).trans k4),h4⟩
   rw [et]
   rw [zMJ,a5,zNJ] at g
   exact g
 ·rintro v L I ⟨v0,v1,v2,v3,J,rfl,rfl,M,k1,h1⟩
  have a6:=k1.drop o
  rw [zMJ,a0,zNJ] at M
  refine ⟨acc,J,vA 0 m,rfl,h1,M,by rw [wC];exact nd,by rw [<- zMJ (f:=(·.1)),wC];exact ac,λl c aj hl pm ak pr=>?_⟩
  exact q l aj _ pm ak ⟨c,zC,zP (zD.new (S:=[]) hl) (λb Y=>by cases Y) pr⟩ (a6.none (by simp) hl) (a6.trans (zD.new hl))
def aT (C CS:Addr):Sp:=λe H Q _=>∃ (B:Addr->Prop) (p:Addr) (f:Str) (g:List Str) (h:List (Addr × Addr)) (c:List SS),e=[.ref p]/\yC B C CS H p f g h c/\(xC c).Nodup/\(xC c).length < 64 /\
 ∀ (a:Addr) (b:List (Key × V)) (d:Hp),d a=some (.dK b)->(∀ z,z ∉ xC c->tI b (.inr z)=none)->(∀ (z:Str) (i:Nat) (s:SS),c[i]?=some s->z ∈ wW s->tI b (.inr z)=some (.int (i:Int)))->zD [] H d->Q (.ref a) d
theorem okRW (T:y4 K C) (G:yS K C Sh "House.rights_wanted" sRW N4) (o:yD P w K mg base CX0 2 C Ss N4 (aY C CS)):yD P w K mg base CX0 3 C Sh N4 (aT C CS):=by
 refine G.oz scRW (λf a1 A L s0 H vs Q E hr h=>?_)
 obtain ⟨B,p,nm,nb,xs,ss,rfl,hh,nd,t,q⟩:=h
 have M:zZ 2 _:=hr
 obtain ⟨dx,nl,sl,_,hp,_⟩:=id hh
 refine ⟨_,(zF (zL (zHU (N:=N4) (sc:=zG sRW) (ix:=[]) (by decide +kernel) (y6 (xH o T.cl M (pv 0))) (λ_ _ _ _=>xG) (λ_ _ _ _=>(pv 0)) (λ_ _ _ _=>(pv 1))))),?_⟩
 refine ⟨_,rfl,p,dx,_,rfl,hp,zCE _ _ _,B,p,nm,nb,xs,ss,rfl,hh,nd,t,λl d H1 pm a2 R hl k1=>⟨l,rfl,?_⟩⟩
 obtain ⟨qs,e,v⟩:=id R
 have lq:=zY v
 rw [zMJ] at lq
 refine ⟨⟨_,.of e⟩,λacc c=>?_⟩
 have la:l ≠ acc:=zI e c
 have y:(d.map (·.1)).Nodup:=(pm.map (·.1)).nodup_iff.mpr (by rw [wC];exact nd)
 have lr:d.length < 64:=by rw [pm.length_eq,<- zMJ (f:=(·.1)),wC];exact t
 refine zCU (K:=K) (a:=l) (its:=qs.map V.ref) (by rw [zMJ,sizeLine_eq];omega) (λi D I g=>∃ v0 v1 J,I=[v0,v1,J]/\D=kvR (d.take i)/\zD [acc] H1 g/\g acc=some (.dK D)) ?_ ?_ ?_ ?_
 ·exact ⟨_,_,_,rfl,rfl,zD.at (by simp),zC⟩
 ·rintro i D I g ⟨v0,v1,J,rfl,rfl,j,n⟩
  exact ⟨n,by unfold kvR;rw [zMJ,zM2];omega,.of (j _ _ (by simp [la]) e)⟩
 ·rintro i D I g x hx ⟨v0,v1,J,rfl,rfl,j,n⟩
  obtain ⟨u,eu,rfl⟩:=gm hx
  obtain ⟨r',O,hu⟩:=wE v i u eu
  obtain ⟨r,U,rfl⟩:=gm O
  obtain ⟨k,s,b,_,_,Y⟩:=sS.mp (pm.mem_iff.mp (zMN U))
  obtain ⟨z,r2⟩:=r
  have Y:r2=[V.int ((0 + k:Nat):Int),V.bl b]:=Y
  subst Y
  have ua:u ≠ acc:=zI hu c
  have a0:=j _ _ (by simp [ua]) hu
  refine ⟨u,_,rfl,.of a0,rfl,_,_,rfl,_,_,rfl,_,_,rfl,rfl,?_⟩
  refine ⟨_,rfl,_,rfl,.inr z,rfl,n,_,_,_,rfl,?_,j.trans (zD.at (by simp)),zC⟩
  have nz:z ∉ (d.take i).map (·.1):=by
   have sb:((d.take (i + 1)).map (·.1)).Nodup:=y.sublist ((List.take_sublist _ _).map _)
   rw [vT U,zMV] at sb
   intro hm
   exact absurd rfl ((List.nodup_append.mp sb).2.2 z hm z (by simp))
  rw [zA4 _ (o6 nz),vT U]
  unfold kvR
  rw [zMV];rfl
 ·rintro D I g ⟨v0,v1,J,rfl,rfl,j,n⟩
  rw [zMJ,lq,zNJ] at n
  refine q acc (kvR d) g n (λz hz=>o6 λhm=>hz ?_) (λz i s es hz=>?_) (k1.trans (j.drop c))
  ·have:=(pm.map (·.1)).mem_iff.mp hm
   rwa [wC] at this
  ·obtain ⟨a,ha,rfl⟩:=List.mem_map.mp hz
   have m:(a.1,[V.int ((0 + i:Nat):Int),V.bl a.2]) ∈ d:=pm.mem_iff.mpr (sS.mpr ⟨i,s,a.2,es,ha,rfl⟩)
   rw [iU y m,Nat.zero_add];rfl
def aV (C CS:Addr):Sp:=λc H Q _=>∃ (B:Addr->Prop) (p:Addr) (d:Str) (e:List Str) (f:List (Addr × Addr)) (a:List SS) (z:Str) (i:Nat) (s:SS),c=[.ref p,.str z]/\yC B C CS H p d e f a/\(xC a).Nodup/\(xC a).length < 64/\a[i]?=some s/\z ∈ wW s/\yT z /\
 ∀ b,zD [] H b->Q (.int (i:Int)) b
theorem okRO (T:y4 K C) (G:yS K C Se "House.right_of" sRO N1) (u:Cal P w K mg base CX0 2 NZ Nx u7) (c:yD P w K mg base CX0 3 C Sh N4 (aT C CS)):yD P w K mg base CX0 4 C Se N1 (aV C CS):=by
 refine G.oz zDT (λf v A d s0 H vs Q E g h=>?_)
 obtain ⟨B,p,x,y,D,I,z,i,s,rfl,J,L,j,M,N,n,q⟩:=h
 have l:zZ 3 _:=g
 have m:zZ 2 _:=g.mono (by decide)
 have o:=vS g
 refine ⟨_,(zE (yB (zO u m (zA (pv 1) zB)))
   (zE (z7 (i:=2) zDT.nd rfl (Or.inl rfl) (xH c T.cl l (pv 0)))
   (zE (z4 (kO (mT o (pv 1) (pv 2))) (zF xK) zN)
   (zF (zL (yV o (pv 2) (pv 1) (λ_ _=>rfl))))))),?_⟩
 refine ⟨_,rfl,z,rfl,n.1,zMU n.2 (by decide),λH1 r=>?_⟩
 have b:=J.on r
 obtain ⟨O,nl,sl,_,U,_⟩:=id b
 refine ⟨_,rfl,p,O,_,rfl,U,m6 _ _ _,B,p,x,y,D,I,rfl,b,L,j,λa Y H2 ha _ hv k2=>?_⟩
 have e:=hv z i s M N
 have t:=e ▸ tX.k (k:=Sum.inr z) ha
 refine ⟨_,rfl,_,rfl,a,_,rfl,t,_,rfl,ifF rfl ?_⟩
 exact ⟨_,rfl,_,rfl,a,_,rfl,t,q H2 (r.trans k2)⟩
theorem zBO (o:Option Str):(!decide (z9 o=V.non))=decide (o ≠ none):=by cases o <;> simp [z9]
def zJ6 (C CS:Addr):Sp:=λc H Q _=>∃ B p d e f a,c=[.ref p]/\yC B C CS H p d e f a/\a ≠ []/\a.length <= 100/\∀ b,zD [] H b->Q (.int (pL a:Int)) b
theorem okBR (T:y4 K C) (TS:xN K CS) (G:yS K C SN "House.best_right" sBR N4) (a0:yD P w K mg base CX0 1 CS "crowd" N4 (zJ4 CS)) (MA:yD P w K mg base CX0 1 CS S3 N4 (lU CS)) (n:Blt mg "min") (d:Blt mg "enumerate"):yD P w K mg base CX0 2 C SN N4 (zJ6 C CS):=by
 refine G.oz scBR (λf a6 A a1 s0 H vs Q E Y h=>?_)
 obtain ⟨B,p,nm,nb,xs,g,rfl,⟨dx,nl,sl,_,hp,a7,o,v,a2⟩,ne,a5,q⟩:=h
 have I:zZ 1 _:=Y
 have hu:=vS Y
 refine ⟨_,(zF (zL (zS zU (zV (aB rfl (sR hu)) n zIZ (zA (zHT (N:=N4) (sc:=zG sBR) (ix:=[]) (by decide +kernel) (iE rfl d.no (z8 (pv 0) rfl)) (λ_ _ _ _=>xG) (λ_ _ _ _=>(yH (zA (xH a0 TS.cl I (pv 1)) (zA (xI vX (xH MA TS.cl I (pv 1)) yQ (zX _)) (zA (pv 0) zB)))))) zB)) zH (λ_ _=>rfl)))),?_⟩
 refine ⟨_,rfl,p,C,dx,_,_,rfl,hp,T.cl,T.nS,xZ _ _ _,sl,rfl,⟨_,.of o⟩,λacc j=>?_⟩
 have sa:sl ≠ acc:=zI o j
 refine zB4 (K:=K) (a:=sl) (k:=0) (its:=xs.map λx=>V.ref x.1) (by rw [zMJ,v,sizeLine_eq];omega) (λi J τ l=>∃ v0 v1 m,τ=[v0,v1]/\J=m.map V.ref/\i <= g.length/\Paired (λq r=>l q=some (.tup r)) m (wK 0 (g.take i))/\zD [acc] H l/\l acc=some (.lst J)) ⟨_,_,[],rfl,rfl,zMT _,.nil,zD.at (by simp),zC⟩ ?_ ?_ ?_
 ·rintro i J τ l ⟨v0,v1,m,rfl,rfl,il,e,k,L⟩
  refine ⟨L,?_,.of (k _ _ (by simp [sa]) o)⟩
  have:=zY e
  rw [uL,zM2] at this
  rw [zMJ];omega
 ·rintro i J τ l x TT hx ⟨v0,v1,m,rfl,rfl,_,e,k1,L⟩ a3
  obtain ⟨y,ex,rfl⟩:=gm hx
  have il:i < g.length:=by rw [<- v];exact (zML.mp ex).1
  have es:g[i]?=some g[i]:=zMK il
  generalize g[i]=s at es
  have S:=a2 i y _ ex es
  rw [show (0:Int) + (i:Int)=(i:Int) from Int.zero_add _]
  have M:zD [] l (upd l TT (.tup [.int (i:Int),.ref y.1])):=zD.new a3
  have e2:upd l TT (.tup [.int (i:Int),.ref y.1]) TT=some (.tup [.int (i:Int),.ref y.1]):=zC
  generalize upd l TT (.tup [.int (i:Int),.ref y.1])=D at M e2
  have S2:=(S.keep (k1.drop j)).keep M
  obtain ⟨dy,O⟩:=S2.ob
  refine ⟨TT,_,rfl,.of e2,rfl,_,_,rfl,_,_,rfl,rfl,?_⟩
  refine ⟨_,rfl,y.1,dy,_,rfl,O,zL5 _ _ _ _,y.1,y.2,_,rfl,S2,?_⟩
  refine ⟨_,rfl,y.1,dy,_,rfl,O,zGR _ _ _ _,y.1,y.2,_,rfl,S2,rfl,?_⟩
  refine ⟨_,rfl,by show 3 <= sizeLine;decide,λt ht=>?_⟩
  rw [zBO]
  have k5:zD [] D (upd D t (.tup (u8 s i))):=zD.new ht
  have e5:upd D t (.tup (u8 s i)) t=some (.tup (u8 s i)):=zC
  have h2:=M.z L
  have h5:=k5.z h2
  have ta:t ≠ acc:=Ne.symm (zI h2 ht)
  refine ⟨h5,_,_,m ++ [t],rfl,by simp,il,?_,((k1.trans (M.mono (by simp))).trans (k5.mono (by simp))).trans (zD.at (by simp)),zC⟩
  have k6:zD [acc] (upd D t (.tup (u8 s i))) (upd (upd D t (.tup (u8 s i))) acc (.lst (m.map V.ref ++ [.ref t]))):=zD.at (by simp)
  have nt:∀ b ∈ [acc],∀ xs,upd D t (.tup (u8 s i)) b ≠ some (.tup xs):=λb hb xs z=>by rw [zMM.mp hb,h5] at z;cases z
  rw [vT es,oR,zM2,Nat.zero_add,show min i g.length=i by omega]
  exact wJ (zP k6 nt (zP (M.trans k5) (λb hb=>by cases hb) e)) (k6 _ _ (by simp [ta]) e5)
 ·rintro J τ l ⟨v0,v1,m,rfl,rfl,_,e,k1,L⟩
  rw [zMJ,v,zNJ] at e
  have lq:=zY e
  rw [uL] at lq
  have pos:0 < g.length:=zM9.mpr ne
  refine ⟨acc,m,wK 0 g,rfl,L,e,λr Y r' a4=>?_,by omega,λu eu=>?_⟩
  ·obtain ⟨a,b,c,rfl⟩:=oS r Y
   obtain ⟨a',b',c',rfl⟩:=oS r' a4
   exact .int (.bl (.int .nil))
  ·obtain ⟨r,er,hu⟩:=wE e _ u eu
   have lb:=hX ne
   have eb:=tJ (i:=0) (zMK lb)
   have U:(wK 0 g)[pL g]?=some r:=er
   rw [eb] at U
   have e':=zMQ U
   subst e'
   refine ⟨u,_,2,_,rfl,rfl,hu,at2 _ _ _ _,?_⟩
   rw [Nat.zero_add]
   exact q l (k1.drop j)
def zAB (C CS:Addr):Sp:=λd H Q _=>∃ (B:Addr->Prop) (p:Addr) (e:Str) (a:List Str) (f:List (Addr × Addr)) (b:List SS) (z:Str) (i:Nat),d=[.ref p,.str z,.int (i:Int)]/\yC B C CS H p e a f b/\z ∈ a/\yT z/\i < b.length/\∀ c,zD [] H c->Q .non c
theorem okCL (T:y4 K C) (G:yS K C S6 "House.check_letter" sCL N6) (s:Cal P w K mg base CX0 2 SE NB (lS K)) (t:Cal P w K mg base CX0 2 NS N9 gM) (a:Blt mg S8):yD P w K mg base CX0 3 C S6 N6 (zAB C CS):=by
 refine G.oz zKO (λf u A d M H N Q E v h=>?_)
 obtain ⟨B,p,O,m,U,Y,z,i,rfl,x,D,n,il,q⟩:=h
 have b:zZ 2 _:=v
 obtain ⟨o,nl,sl,_,r,g,j,I,_⟩:=id x
 refine ⟨_,(zE (z4 (xB (y9 (zO s b (zA (pv 1) (zA (z8 (pv 0) rfl) zB))))) (zF xK) zN)
   (zF (yB (zO t b (zA (pv 2) (zA (zV yA a yP (zA (z8 (pv 0) rfl) zB)) zB)))))),?_⟩
 refine ⟨_,rfl,_,rfl,p,C,o,_,_,rfl,r,T.cl,T.nB,zGN _ _ _,.str z,"str",nl,m,rfl,.str z,(λy e=>by cases e;exact zMU n.2 (by decide)),g,λJ k=>⟨_,rfl,ifF ?_ ?_⟩⟩
 ·have L:inV (.str z) (m.map V.str)=true:=by
   unfold inV
   rw [List.any_map,List.any_eq_true]
   exact ⟨z,D,by show (z == z)=true;simp⟩
  unfold u9
  rw [L,show xA (.str z)=true from n.1];rfl
 ·have l:=k.z r
  have c:=k.z j
  exact ⟨_,rfl,_,rfl,p,C,o,_,_,rfl,l,T.cl,T.nS,xZ _ _ _,_,_,rfl,.inl ⟨_,.of c,rfl⟩,_,_,rfl,by omega,by rw [zMJ];omega,q J k⟩
end
abbrev sHW:Stmt:=yW (top 32) 1
abbrev sHL:Stmt:=yW (top 32) 2
abbrev sHD:Stmt:=yW (top 32) 3
abbrev sHK:Stmt:=yW (top 32) 4
abbrev sHC:Stmt:=yW (top 32) 5
theorem zGD {xs:List (Addr × Addr)} (h:xs.Pairwise λa b=>a.1 ≠ b.1/\a.2 ≠ b.2) {i j:Nat} {x y:Addr × Addr} (g:xs[i]?=some x) (k:xs[j]?=some y) (n:i ≠ j):x.1 ≠ y.1/\x.2 ≠ y.2:=by
 obtain ⟨c,d⟩:=zML.mp g
 obtain ⟨e,f⟩:=zML.mp k
 rcases Nat.lt_or_gt_of_ne n with l | l
 ·have:=List.pairwise_iff_getElem.mp h i j c e l
  rw [d,f] at this
  exact this
 ·have:=List.pairwise_iff_getElem.mp h j i e c l
  rw [d,f] at this
  exact ⟨Ne.symm this.1,Ne.symm this.2⟩
theorem yC.seat {B:Addr->Prop} {C CS:Addr} {H g:Hp} {p:Addr} {nm:Str} {m:List Str} {xs:List (Addr × Addr)} {ss:List SS} {i:Nat} {x:Addr × Addr} {s':SS} (h:yC B C CS H p nm m xs ss) (ex:xs[i]?=some x) (k:zD [x.1,x.2] H g) (S:yE CS g x.1 x.2 s'):yC B C CS g p nm m xs (ss.set i s'):=by
 obtain ⟨w,nl,A,⟨D,E,G,d⟩,c,n,o,q,r⟩:=h
 have s:i < ss.length:=by rw [<- q];exact (zML.mp ex).1
 obtain ⟨⟨U,a⟩,⟨Y,b,_⟩,_⟩:=r i x _ ex (zMK s)
 have u:=zMN ex
 have I:p ≠ x.1:=λe=>by
  rw [e,a] at c
  injection c with c
  injection c with _ _ e
  unfold xP hfl at e
  injection e with e _
  injection e with e _
  exact absurd e (by decide +kernel)
 have J:=wL c b (by intro z;cases z)
 have n1:=wL n a (by intro z;cases z)
 have n2:=Ne.symm (d.1 x u).1
 have L:=wL o a (by intro z;cases z)
 have M:=Ne.symm (d.1 x u).2
 refine ⟨w,nl,A,⟨D,E,G,d⟩,k _ _ (by simp [I,J]) c,k _ _ (by simp [n1,n2]) n,k _ _ (by simp [L,M]) o,by rw [zNK];exact q,λj y t l f=>?_⟩
 by_cases e:j=i
 ·subst e
  rw [l] at ex
  cases ex
  rw [zNG s] at f
  cases f
  exact S
 ·rw [zNF (Ne.symm e)] at f
  have v:=r j y t l f
  obtain ⟨N,O⟩:=zGD d.2 l ex e
  obtain ⟨⟨dz,Q⟩,⟨_,T,_⟩,_⟩:=id v
  exact v.keepS k (by simp [N,wL Q b (by intro z;cases z)]) (by simp [O,wL T a (by intro z;cases z)]) (uP a b)
theorem rF (s:SS):(∀ l ∈ (yJ s).2,l ≠ []/\l.length <= 10)/\(yJ s).2.length <= 100:=by
 unfold yJ
 split
 ·exact ⟨λl a=>(by cases a),zMT _⟩
 ·rename_i b
  split
  ·split
   ·unfold wD
    split
    ·rename_i c;rw [c] at b;exact absurd rfl b
    ·split
     ·exact ⟨λl a=>by rw [zMM.mp a];exact ⟨by simp,by show 2 <= 10;decide⟩,by show 1 <= 100;decide⟩
     ·exact ⟨λl a=>by rw [zMM.mp a];exact ⟨by simp,by show 3 <= 10;decide⟩,by show 1 <= 100;decide⟩
   ·exact ⟨λl a=>(by cases a),zMT _⟩
  ·split
   ·exact ⟨λl a=>(by cases a),zMT _⟩
   ·exact ⟨λl a=>by rw [zMM.mp a];exact ⟨by simp,by show 2 <= 10;decide⟩,by show 1 <= 100;decide⟩
def qG (B:Addr->Prop) (C CS:Addr) (H:Hp) (p:Addr) (nm:Str) (b:List Str) (xs:List (Addr × Addr)) (ss:List SS) (i:Nat) (s:SS) (d:DD) (Q:VK):Prop:=∀ r x a,xs[i]?=some x->yC B C CS a p nm b xs (ss.set i (yJ (wB s d)).1)->Rows a r ((yJ (wB s d)).2.map (kQ i))->H r=none->zD [x.1,x.2] H a->Q (.ref r) a
theorem qG.num (h:yC B C CS H p nm j xs ss) (ex:xs[i]?=some x) (q:qG B C CS H p nm j xs ss i s d Q) (a:zD [] H H1) (S:yE CS b x.1 x.2 (yJ (wB s d)).1) (R:Rows b r (yJ (wB s d)).2) (t:H1 r=none) (k2:zD [x.1,x.2] H1 b):oF [.int (i:Int),.ref r] b Q E:=by
 obtain ⟨k,l⟩:=rF (wB s d)
 refine ⟨i,r,_,rfl,R,k,l,λm n o n3 g=>q m x n ex (((h.on a).seat ex k2 S).on g) o ?_ (((a.mono (by simp)).trans k2).trans (g.mono (by simp)))⟩
 obtain ⟨⟨u,c⟩,⟨v,f,_⟩,_⟩:=id S
 refine a.none (by simp) (k2.none ?_ n3)
 simp only [List.mem_cons,zND,or_false]
 rintro (e | e)
 ·rw [e,c] at n3;cases n3
 ·rw [e,f] at n3;cases n3
section
variable {P:Program} {w:World} {K:W.Frag} {mg:Str->Option Value} {base:Heap} {C CS:Addr}
theorem zHJ:zM ["self",NQ,SK,"number"] Ng (zG sHW):=scm
theorem zAH:zM Ng N1 (zG sHL):=scm
theorem zAI:zM Ng N1 (zG sHD):=scm
theorem zKK:zM N6 N6 (zG sHK):=scm
theorem zKL:zM Nb Nb (zG sHC):=scm
def zJW (C CS:Addr):Sp:=λe H Q _=>∃ B p c b d a k z r i s,e=[.ref p,.str z,rV r]/\yC B C CS H p c b d a/\uB k a/\k <= 60/\a.length <= 100/\AtR b a (.want z r) i s (.want z)/\qG B C CS H p c b d a i s (.want z) Q
theorem okHW (T:y4 K C) (TS:xN K CS) (G:yS K C Sa "House.want" sHW Ng) (CC:Cal P w K mg base CX0 2 NZ Nx u7) (CK:Cal P w K mg base CX0 2 NS N9 gM) (a2:yD P w K mg base CX0 3 C Sh N4 (aT C CS)) (a3:yD P w K mg base CX0 2 C SN N4 (zJ6 C CS)) (MW:yD P w K mg base CX0 3 CS Sa N1 (aR CS)) (a4:Cal P w K mg base CX0 1 Sf Nf oF) (d:Blt mg S8):yD P w K mg base CX0 4 C Sa Ng (zJW C CS):=by
 refine G.oz zHJ (λf aa A a5 s0 H vs Q E hr h=>?_)
 obtain ⟨B,p,nm,nb,t,u,k,z,r,i,s,rfl,v,I,hk,L,a,q⟩:=h
 have M:zZ 3 _:=hr
 have g:zZ 2 _:=hr.mono (by decide)
 have a6:zZ 1 _:=hr.mono (by decide)
 have hu:=vS hr
 have N:=a.here
 have il:i < u.length:=(zML.mp N).1
 obtain ⟨y,nl,sl,_,hp,ab,j,ac,O⟩:=id v
 have l:t[i]?=some t[i]:=zMK (by omega)
 generalize t[i]=x at l
 have si:=I.si s (zMN N)
 have lr:s.row.length < 1000:=by have:=I.rl s (zMN N);omega
 have ne:u ≠ []:=λe=>by rw [e] at il;simp at il
 have ok:=a.ok
 obtain ⟨U,Y,D⟩:=ok
 have a0:(xC u).length < 64:=by have:=I.ln;omega
 refine ⟨_,(zE (yB (zO CC g (zA (pv 1) zB)))
   (zE (z4 (zT vX (pv 2) yQ (zX _)) (zF (yB (zO CK g (zA (pv 2) (zA (zV yA d yP (zA (z8 (pv 0) rfl) zB)) zB))))) zN)
   (zE (z4 (kO (zBF hu (pv 1) (xH a2 T.cl M (pv 0)))) (zF xK) zN)
   (zE (z7 (i:=3) zHJ.nd rfl (Or.inl rfl) (rY (zT uO (pv 2) yQ (zX _)) (xH a3 T.cl g (pv 0)) (pv 2)))
   (zF (zL (zO a4 a6 (zA (pv 3) (zA (xV MW TS.cl M (zS z6 (z8 (pv 0) rfl) (pv 3) (λ_ _=>rfl)) (zA (pv 1) zB)) zB))))))))),?_⟩
 refine ⟨_,rfl,z,rfl,D.1,zMU D.2 (by decide),λH1 J=>?_⟩
 have m:=J.z hp
 have a1:=J.z j
 cases a with
 | any _ eb _ nz=>
  refine ⟨_,rfl,rfl,_,rfl,ifF rfl ?_⟩
  refine ⟨_,rfl,_,rfl,p,y,_,rfl,m,m6 _ _ _,B,p,nm,nb,t,u,rfl,v.on J,I.nd,a0,λa a7 H2 ha n _ k2=>⟨a,_,rfl,tX.k (k:=Sum.inr z) ha,_,rfl,ifF (by rw [n z nz];rfl) ?_⟩⟩
  have b:=J.trans k2
  refine ⟨_,rfl,rfl,_,rfl,ifT rfl ⟨_,rfl,p,y,_,rfl,b.z hp,zLW _ _ _,B,p,nm,nb,t,u,rfl,v.on b,ne,L,λH3 k3=>?_⟩⟩
  have c:=b.trans k3
  rw [<- eb]
  have S:=(O i x s l N).keep c
  obtain ⟨dy,o⟩:=S.ob
  refine ⟨_,rfl,_,rfl,p,C,y,_,_,rfl,c.z hp,T.cl,T.nS,xZ _ _ _,_,rfl,sl,_,i,_,rfl,rfl,c.z j,wI l,x.1,dy,_,rfl,o,zGP _ _ _ _,_,rfl,x.1,x.2,s,z,rfl,S,D.1,zMU D.2 (by decide),U,Y,lr,?_⟩
  exact λr H' S' R' n' k'=>qG.num (E:=E) v l q c S' R' n' k'
 | want _ _ nz=>
  refine ⟨_,rfl,rfl,_,rfl,ifT rfl ⟨_,rfl,_,rfl,p,C,y,_,_,rfl,m,T.cl,T.nS,xZ _ _ _,_,_,rfl,.inl ⟨_,.of a1,rfl⟩,_,_,rfl,by omega,by rw [zMJ];omega,?_⟩⟩
  refine ⟨_,rfl,_,rfl,p,y,_,rfl,m,m6 _ _ _,B,p,nm,nb,t,u,rfl,v.on J,I.nd,a0,λa a7 H2 ha n _ k2=>⟨a,_,rfl,tX.k (k:=Sum.inr z) ha,_,rfl,ifF (by rw [n z nz];rfl) ?_⟩⟩
  have b:=J.trans k2
  refine ⟨_,rfl,rfl,_,rfl,ifF rfl ⟨_,rfl,?_⟩⟩
  have S:=(O i x s l N).keep b
  obtain ⟨dy,o⟩:=S.ob
  refine ⟨_,rfl,_,rfl,p,C,y,_,_,rfl,b.z hp,T.cl,T.nS,xZ _ _ _,_,rfl,sl,_,i,_,rfl,rfl,b.z j,wI l,x.1,dy,_,rfl,o,zGP _ _ _ _,_,rfl,x.1,x.2,s,z,rfl,S,D.1,zMU D.2 (by decide),U,Y,lr,?_⟩
  exact λr H' S' R' n' k'=>qG.num (E:=E) v l q b S' R' n' k'
def zJX (C CS:Addr):Sp:=λe H Q _=>∃ B p c b d a k z i s,e=[.ref p,.str z]/\yC B C CS H p c b d a/\uB k a/\k <= 60/\a.length <= 100/\AtR b a (.leave z) i s (.leave z)/\qG B C CS H p c b d a i s (.leave z) Q
theorem okHL (T:y4 K C) (TS:xN K CS) (G:yS K C NW "House.leave" sHL N1) (n:yD P w K mg base CX0 4 C Se N1 (aV C CS)) (ML:yD P w K mg base CX0 3 CS NW N1 (eQ CS)) (o:Cal P w K mg base CX0 1 Sf Nf oF):yD P w K mg base CX0 5 C NW N1 (zJX C CS):=by
 refine G.oz zAH (λf a1 A t s0 H vs Q E v h=>?_)
 obtain ⟨B,p,nm,nb,d,g,k,z,i,s,rfl,y,I,hk,a0,a,q⟩:=h
 have D:zZ 4 _:=v
 have J:zZ 3 _:=v.mono (by decide)
 have L:zZ 1 _:=v.mono (by decide)
 have b:=a.here
 have il:i < g.length:=(zML.mp b).1
 obtain ⟨dx,nl,sl,_,hp,a2,M,a3,N⟩:=id y
 have l:d[i]?=some d[i]:=zMK (by omega)
 generalize d[i]=x at l
 have si:=I.si s (zMN b)
 have lr:s.row.length < 1000:=by have:=I.rl s (zMN b);omega
 have ne:g ≠ []:=λe=>by rw [e] at il;simp at il
 have ok:askR z ∈ s.row:=a.ok
 have O:yT z:=(si.r _ ok).2
 have U:(xC g).length < 64:=by have:=I.ln;omega
 obtain ⟨j,hj,c⟩:=rL s.row (askR z) ok
 have ef:wB s (.leave z) = { s with row:=s.row.eraseIdx j }:=by
  show { s with row:=s.row.filter λx=>decide (x ≠ askR z) }=_
  rw [tS s.row (askR z) j hj c (si.u z)]
 refine ⟨_,(zE (z7 (i:=2) zAH.nd rfl (Or.inl rfl) (xV n T.cl D (pv 0) (zA (pv 1) zB)))
   (zF (zL (zO o L (zA (pv 2) (zA (xV ML TS.cl J (zS z6 (z8 (pv 0) rfl) (pv 2) (λ_ _=>rfl)) (zA (pv 1) zB)) zB)))))),?_⟩
 refine ⟨_,rfl,p,dx,_,rfl,hp,zCD _ _ _,_,rfl,B,p,nm,nb,d,g,z,i,s,rfl,y,I.nd,U,b,uG.mpr (.inr ok),O,λH1 m=>?_⟩
 have S:=(N i x s l b).keep m
 obtain ⟨dy,Y⟩:=S.ob
 refine ⟨_,rfl,_,rfl,p,C,dx,_,_,rfl,m.z hp,T.cl,T.nS,xZ _ _ _,_,rfl,sl,_,i,_,rfl,rfl,m.z M,wI l,x.1,dy,_,rfl,Y,zL1 _ _ _ _,_,rfl,x.1,x.2,s,z,j,rfl,S,O.1,zMU O.2 (by decide),hj,c,?_⟩
 rw [<- ef]
 exact λr H' S' R' n' k'=>qG.num (E:=E) y l q m S' R' n' k'
def zJZ (C CS:Addr):Sp:=λe H Q _=>∃ B p c b d a k z i s,e=[.ref p,.str z]/\yC B C CS H p c b d a/\uB k a/\k <= 60/\a.length <= 100/\AtR b a (.done z) i s (.done z)/\qG B C CS H p c b d a i s (.done z) Q
theorem okHD (T:y4 K C) (TS:xN K CS) (G:yS K C NY "House.done" sHD N1) (l:yD P w K mg base CX0 4 C Se N1 (aV C CS)) (MD:yD P w K mg base CX0 3 CS NY N1 (aZ CS)) (m:Cal P w K mg base CX0 1 Sf Nf oF):yD P w K mg base CX0 5 C NY N1 (zJZ C CS):=by
 refine G.oz zAI (λf a0 A n s0 H vs Q E o h=>?_)
 obtain ⟨B,p,nm,nb,c,d,k,z,i,s,rfl,t,I,hk,O,a,q⟩:=h
 have u:zZ 4 _:=o
 have v:zZ 3 _:=o.mono (by decide)
 have y:zZ 1 _:=o.mono (by decide)
 have b:=a.here
 have U:i < d.length:=(zML.mp b).1
 obtain ⟨Y,nl,sl,_,hp,a1,D,a2,J⟩:=id t
 have g:c[i]?=some c[i]:=zMK (by omega)
 generalize c[i]=x at g
 have si:=I.si s (zMN b)
 have lr:s.row.length < 1000:=by have:=I.rl s (zMN b);omega
 have ne:d ≠ []:=λe=>by rw [e] at U;simp at U
 have ok:s.hold=some z:=a.ok
 have L:yT z:=si.h _ ok
 have M:(xC d).length < 64:=by have:=I.ln;omega
 refine ⟨_,(zE (z7 (i:=2) zAI.nd rfl (Or.inl rfl) (xV l T.cl u (pv 0) (zA (pv 1) zB)))
   (zF (zL (zO m y (zA (pv 2) (zA (xV MD TS.cl v (zS z6 (z8 (pv 0) rfl) (pv 2) (λ_ _=>rfl)) (zA (pv 1) zB)) zB)))))),?_⟩
 refine ⟨_,rfl,p,Y,_,rfl,hp,zCD _ _ _,_,rfl,B,p,nm,nb,c,d,z,i,s,rfl,t,I.nd,M,b,uG.mpr (.inl ok),L,λH1 j=>?_⟩
 have S:=(J i x s g b).keep j
 obtain ⟨dy,N⟩:=S.ob
 refine ⟨_,rfl,_,rfl,p,C,Y,_,_,rfl,j.z hp,T.cl,T.nS,xZ _ _ _,_,rfl,sl,_,i,_,rfl,rfl,j.z D,wI g,x.1,dy,_,rfl,N,zL4 _ _ _ _,_,rfl,x.1,x.2,s,z,rfl,S,L.1,zMU L.2 (by decide),ok,?_⟩
 exact λr H' S' R' n' k'=>qG.num (E:=E) t g q j S' R' n' k'
def zJY (C CS:Addr):Sp:=λe H Q _=>∃ (B:Addr->Prop) (p:Addr) (c:Str) (b:List Str) (d:List (Addr × Addr)) (a:List SS) (k:Nat) (z:Str) (i:Nat) (s:SS),e=[.ref p,.str z,.int (i:Int)]/\yC B C CS H p c b d a/\uB k a/\k <= 60/\a.length <= 100/\AtR b a (.ask z i) i s (.ask z)/\qG B C CS H p c b d a i s (.ask z) Q
theorem okHK (T:y4 K C) (TS:xN K CS) (G:yS K C NT "House.ask" sHK N6) (l:yD P w K mg base CX0 3 C S6 N6 (zAB C CS)) (MK:yD P w K mg base CX0 3 CS NT NA (zF4 CS)) (m:Cal P w K mg base CX0 1 Sf Nf oF):yD P w K mg base CX0 4 C NT N6 (zJY C CS):=by
 refine G.oz zKK (λf a0 A n s0 H vs Q E M h=>?_)
 obtain ⟨B,p,nm,N,c,o,k,z,i,s,rfl,t,I,hk,O,a,q⟩:=h
 have b:zZ 3 _:=M
 have u:zZ 1 _:=M.mono (by decide)
 have d:=a.here
 have v:i < o.length:=(zML.mp d).1
 obtain ⟨U,nl,sl,_,Y,a1,y,a2,D⟩:=id t
 have g:c[i]?=some c[i]:=zMK (by omega)
 generalize c[i]=x at g
 have si:=I.si s (zMN d)
 have lr:s.row.length < 1000:=by have:=I.rl s (zMN d);omega
 have ne:o ≠ []:=λe=>by rw [e] at v;simp at v
 obtain ⟨o1,o2,J⟩:=a.ok
 have zn:z ∈ N:=by cases a;assumption
 refine ⟨_,(zE (yB (xV l T.cl b (pv 0) (zA (pv 1) (zA (pv 2) zB))))
   (zF (zL (zO m u (zA (pv 2) (zA (xV MK TS.cl b (zS z6 (z8 (pv 0) rfl) (pv 2) (λ_ _=>rfl)) (zA (pv 1) zB)) zB)))))),?_⟩
 refine ⟨_,rfl,p,U,_,rfl,Y,zGM _ _ _,_,rfl,_,rfl,B,p,nm,N,c,o,z,i,rfl,t,zn,J,v,λH1 j=>?_⟩
 have S:=(D i x s g d).keep j
 obtain ⟨dy,L⟩:=S.ob
 refine ⟨_,rfl,_,rfl,p,C,U,_,_,rfl,j.z Y,T.cl,T.nS,xZ _ _ _,_,rfl,sl,_,i,_,rfl,rfl,j.z y,wI g,x.1,dy,_,rfl,L,zIW _ _ _ _,_,rfl,x.1,x.2,s,z,rfl,S,J.1,zMU J.2 (by decide),o1,o2,lr,?_⟩
 exact λr H' S' R' n' k'=>qG.num (E:=E) t g q j S' R' n' k'
def zJ0 (C CS:Addr):Sp:=λf H Q _=>∃ (B:Addr->Prop) (p:Addr) (d:Str) (c:List Str) (e:List (Addr × Addr)) (a:List SS) (k:Nat) (z:Str) (b:Bool) (i:Nat) (s:SS),f=[.ref p,.str z,.int (i:Int),.bl b]/\yC B C CS H p d c e a/\uB k a/\k <= 60/\a.length <= 100/\AtR c a (.come z i b) i s (.come z b)/\qG B C CS H p d c e a i s (.come z b) Q
theorem okHC (T:y4 K C) (TS:xN K CS) (G:yS K C NR "House.come" sHC Nb) (l:yD P w K mg base CX0 3 C S6 N6 (zAB C CS)) (m:yD P w K mg base CX0 3 CS NR Nq (a8 CS)) (n:Cal P w K mg base CX0 1 Sf Nf oF):yD P w K mg base CX0 4 C NR Nb (zJ0 C CS):=by
 refine G.oz zKL (λf a0 A o s0 H vs Q E N h=>?_)
 obtain ⟨B,p,nm,O,c,t,k,z,bb,i,s,rfl,u,I,hk,U,a,q⟩:=h
 have b:zZ 3 _:=N
 have v:zZ 1 _:=N.mono (by decide)
 have d:=a.here
 have y:i < t.length:=(zML.mp d).1
 obtain ⟨Y,nl,sl,_,hp,a1,D,a2,J⟩:=id u
 have g:c[i]?=some c[i]:=zMK (by omega)
 generalize c[i]=x at g
 have si:=I.si s (zMN d)
 have lr:s.row.length < 1000:=by have:=I.rl s (zMN d);omega
 have ne:t ≠ []:=λe=>by rw [e] at y;simp at y
 have ok:s.ptr=some z:=a.ok
 have L:yT z:=si.p _ ok
 have zn:z ∈ O:=by cases a;assumption
 refine ⟨_,(zE (yB (xV l T.cl b (pv 0) (zA (pv 1) (zA (pv 2) zB))))
   (zF (zL (zO n v (zA (pv 2) (zA (xV m TS.cl b (zS z6 (z8 (pv 0) rfl) (pv 2) (λ_ _=>rfl)) (zA (pv 1) (zA (pv 3) zB))) zB)))))),?_⟩
 refine ⟨_,rfl,p,Y,_,rfl,hp,zGM _ _ _,_,rfl,_,rfl,B,p,nm,O,c,t,z,i,rfl,u,zn,L,y,λH1 j=>?_⟩
 have S:=(J i x s g d).keep j
 obtain ⟨dy,M⟩:=S.ob
 refine ⟨_,rfl,_,rfl,p,C,Y,_,_,rfl,j.z hp,T.cl,T.nS,xZ _ _ _,_,rfl,sl,_,i,_,rfl,rfl,j.z D,wI g,x.1,dy,_,rfl,M,zL6 _ _ _ _,_,rfl,_,rfl,x.1,x.2,s,z,bb,rfl,S,L.1,zMU L.2 (by decide),ok,lr,?_⟩
 exact λr H' S' R' n' k'=>qG.num (E:=E) u g q j S' R' n' k'
end
abbrev lZ:Stmt:=top 44
abbrev kF:Stmt:=top 45
abbrev eY:Stmt:=top 46
inductive GD where
 | want (x:V)
 | leave (x:V)
 | done (x:V)
 | ask (x:V)
 | come (x y:V)
noncomputable def gdV:GD->List V
 | .want x=>[.str Sa,x]
 | .leave x=>[.str NW,x]
 | .done x=>[.str NY,x]
 | .ask x=>[.str NT,x]
 | .come x y=>[.str NR,x,y]
noncomputable def GD.nm:GD->V
 | .want x=>x
 | .leave x=>x
 | .done x=>x
 | .ask x=>x
 | .come x _=>x
noncomputable def bU:DD->GD
 | .want z=>.want (.str z)
 | .leave z=>.leave (.str z)
 | .done z=>.done (.str z)
 | .ask z=>.ask (.str z)
 | .come z b=>.come (.str z) (.bl b)
noncomputable def mkD (a:V) (b:Addr) (h:V) (k:Bool):List (Key × V):=[(.inr S3,a),(.inr Sd,.ref b),(.inr NX,h),(.inr Sc,.bl k)]
structure DAt (H:Hp) (st rl:Addr) (s:SS):Prop where
 d:H st=some (.dK (mkD (z9 s.ptr) rl (z9 s.hold) s.asked))
 rw:Rows H rl (s.row.map yU)
 len:s.row.length <= 1000
section
variable {H:Hp} {st rl:Addr} {a h:V} {k:Bool}
theorem g_a (e:H st=some (.dK (mkD a rl h k))):tX H st (.str S3) (some a):=.inl ⟨_,.inr S3,.inl e,rfl,rfl⟩
theorem g_r (e:H st=some (.dK (mkD a rl h k))):tX H st (.str Sd) (some (.ref rl)):=.inl ⟨_,.inr Sd,.inl e,rfl,rfl⟩
theorem g_h (e:H st=some (.dK (mkD a rl h k))):tX H st (.str NX) (some h):=.inl ⟨_,.inr NX,.inl e,rfl,rfl⟩
theorem g_k (e:H st=some (.dK (mkD a rl h k))):tX H st (.str Sc) (some (.bl k)):=.inl ⟨_,.inr Sc,.inl e,rfl,rfl⟩
theorem p_a (e:H st=some (.dK (mkD a rl h k))) (v:V):zDE H st (.str S3) v (upd H st (.dK (mkD v rl h k))):=.inl ⟨_,.inr S3,e,rfl,by show 4 < sizeLine;decide,rfl⟩
theorem p_h (e:H st=some (.dK (mkD a rl h k))) (v:V):zDE H st (.str NX) v (upd H st (.dK (mkD a rl v k))):=.inl ⟨_,.inr NX,e,rfl,by show 4 < sizeLine;decide,rfl⟩
theorem p_k (e:H st=some (.dK (mkD a rl h k))) (j:Bool):zDE H st (.str Sc) (.bl j) (upd H st (.dK (mkD a rl h j))):=.inl ⟨_,.inr Sc,e,rfl,by show 4 < sizeLine;decide,rfl⟩
theorem DAt.ne (D:DAt H st rl s):st ≠ rl:=by
 obtain ⟨c,b,_⟩:=D.rw
 exact wL D.d b (by intro z;cases z)
theorem DAt.keep (D:DAt H st rl s) (k:zD [] H b):DAt b st rl s:=⟨k.z D.d,D.rw.keep k,D.len⟩
theorem vE (d:H st=some (.dK e)) (f:H rl=some (.lst ys)):∀ b ∈ [st,rl],∀ xs,H b ≠ some (.tup xs):=λb c xs z=>by
 simp only [List.mem_cons,zND,or_false] at c
 rcases c with rfl | rfl
 ·rw [d] at z;cases z
 ·rw [f] at z;cases z
theorem DAt.fresh (D:DAt H st rl s) (h:H u=none):u ∉ [st,rl]:=by
 obtain ⟨c,b,_⟩:=D.rw
 simp only [List.mem_cons,zND,or_false]
 rintro (rfl | rfl)
 ·rw [D.d] at h;cases h
 ·rw [b] at h;cases h
end
section
variable {P:Program} {w:World} {K:W.Frag} {mg:Str->Option Value} {base:Heap} {C:Addr}
theorem zDS:zM NO NO (zG lZ):=scm
def eJ:Sp:=λd H Q _=>∃ b,d=[z9 b]/\∀ st c a,H st=none->H c=none->DAt a st c ⟨b,[],none,false⟩->zD [] H a->Q (.ref st) a
theorem zEI (G:yM K mg "_law_state" lZ NO):Cal P w K mg base CX0 1 "_law_state" NO eJ:=by
 refine G.oz zDS (λf j A a n H o Q E r h=>?_)
 obtain ⟨e,rfl,q⟩:=h
 refine ⟨_,(zF (zL (zED (rX zJ (pv 0) (rX zJ (yL zB) (rX zJ yQ (rX zJ wS zD9)))) rfl rfl (by simp) (by decide)))),?_⟩
 intro p c
 refine ⟨_,rfl,zMT _,λl g=>?_⟩
 obtain ⟨d,i⟩:=zW g
 refine ⟨by rw [zK (Ne.symm i),zC],mkD (z9 e) l .non false,rfl,by show 4 <= 15;decide,?_⟩
 have k:zD [] H (upd (upd (upd H p (.dK [])) l (.lst [])) p (.dK (mkD (z9 e) l .non false))):=((zD.new c).trans (zD.new g)).under (S:=[p]) (zD.at (by simp)) (by intro b m;rw [zMM.mp m];exact c)
 exact q p l _ c d ⟨zC,⟨[],by rw [zK i,zC];rfl,.nil⟩,zMT _⟩ k
theorem lX:zM [SH,"_law_word","_law_name"] NM (zG kF):=scm
def eO:Sp:=λc H Q _=>∃ st b s,c=[.ref st]/\DAt H st b s/\∀ r a,DAt a st b (yJ s).1->Rows a r (yJ s).2->H r=none->zD [st,b] H a->Q (.ref r) a
theorem zEL (G:yM K mg "_law_moved" kF NM):Cal P w K mg base CX0 1 "_law_moved" NM eO:=by
 refine G.oz lX (λf aq A ae s0 H vs Q E j h=>?_)
 obtain ⟨st,c,s,rfl,D0,q⟩:=h
 have u:=vS j
 refine ⟨_,(zE (z4 (zT (zH1 (Nat.lt_of_succ_lt u)) (yV u (pv 0) zJ (λ_ _=>rfl)) (yL zB) (zX _)) (zF (zL (yL zB))) zN)
   (zE (z4 (PW.pt (kM (zT uO (yV u (pv 0) zJ (λ_ _=>rfl)) yQ (zX _)) (pW (zT uO (yV u (pv 0) zJ (λ_ _=>rfl)) yQ (zX _))))) (zE (qR (uD F.plainAttrs_list F.slot_list_pop F.type_list_pop iM (yV u (pv 0) zJ (λ_ _=>rfl)) (zA zH zB)) (tL rfl (y3 (yI (i:=1) lX.nd rfl (Or.inl rfl)) (y3 (yI (i:=2) lX.nd rfl (Or.inl rfl)) uF))))
   (zE (z4 (zT xF (pv 1) zJ (zX _)) (zE (tK u (pv 0) zJ (pv 2) rfl)
   (zF (zL (yL (zA (yH (zA zJ (zA (pv 2) zB))) zB))))) zN)
   (zE (tK u (pv 0) zJ (pv 2) rfl)
   (zE (tK u (pv 0) zJ (xI (zHZ (Nat.lt_of_succ_lt u)) (yV u (pv 0) zJ (λ_ _=>rfl)) (yL zB) (zX _)) rfl)
   (zF (zL (yL (zA (yH (zA zJ (zA (pv 2) (zA (yV u (pv 0) zJ (λ_ _=>rfl)) zB)))) zB)))))))) zN)
   (zE (z4 (PW.pt (kM (zT vX (yV u (pv 0) zJ (λ_ _=>rfl)) yQ (zX _)) (pW (xB (y9 (yV u (pv 0) zJ (λ_ _=>rfl))))))) (zE (tK u (pv 0) zJ wS rfl)
   (zF (zL (yL (zA (yH (zA zJ (zA (yV u (pv 0) zJ (λ_ _=>rfl)) zB))) zB))))) zN)
   (zF (zL (yL zB)))))),?_⟩
 have none_:∀ l,zD [] H l->yJ s=(s,[])->∀ r,l r=none->Q (.ref r) (upd l r (.lst [])):=λl k1 e r j=>by
  rw [e] at q
  exact q r _ (D0.keep (k1.trans (zD.new j))) ⟨[],zC,.nil⟩ (k1.none (by simp) j) ((k1.trans (zD.new j)).mono (by simp))
 obtain ⟨N,a4,a5⟩:=id D0.rw
 have af:=zY a5
 rw [zMJ] at af
 have a0:(N.map V.ref).isEmpty=s.row.isEmpty:=by
  cases a0:N <;> cases ao:s.row <;> simp_all
 refine ⟨_,rfl,st,_,rfl,g_r D0.d,zMT _,λe0 a6=>?_⟩
 have I:zD [] H (upd H e0 (.lst [])):=zD.new a6
 refine ⟨c,e0,_,rfl,rfl,I.z a4,zC,zI a4 a6,_,rfl,?_⟩
 generalize upd H e0 (.lst [])=l at I ⊢
 have D:=D0.keep I
 have x:=D.ne
 obtain ⟨ps,m,y⟩:=id D.rw
 cases p:s.row.isEmpty with
 | true=>
  refine ifT (by show (N.map V.ref).isEmpty=true;rw [a0];exact p) ⟨zMT _,λr j=>none_ l I ?_ r j⟩
  unfold yJ;rw [p];rfl
 | false=>
 refine ifF (by show (N.map V.ref).isEmpty=false;rw [a0];exact p) ?_
 refine ⟨_,rfl,st,_,rfl,g_a D.d,rfl,_,rfl,?_⟩
 cases O:s.ptr with
 | none=>
  refine ifT rfl ?_
  refine ⟨_,rfl,st,_,rfl,g_h D.d,rfl,_,rfl,?_⟩
  cases hh:s.hold with
  | none=>
   refine ifT rfl ?_
   have em:yJ s=((wD s).1,[(wD s).2]):=by unfold yJ;rw [p,O,hh];rfl
   rw [em] at q
   obtain ⟨T,row,v,a⟩:=s
   dsimp only at *
   subst O hh
   cases row with
   | nil=>cases p
   | cons kn rest=>
    obtain ⟨k,n⟩:=kn
    cases y with
    | @cons t _ b _ ht y=>
    have Y:=zY y
    rw [zMJ] at Y
    have ar:rest.length + 1 <= 1000:=D.len
    refine ⟨_,rfl,st,_,rfl,g_r D.d,.inl ⟨rfl,_,.of m⟩,c,_,0,0,.ref t,rfl,rfl,m,by decide,by decide,zJ9 _,rfl,?_⟩
    rw [show (List.map V.ref (t :: b)).eraseIdx 0=b.map V.ref from rfl]
    have ag:t ≠ c:=wL ht m (by intro z;cases z)
    have a7:upd l c (.lst (b.map V.ref)) st=some (.dK (mkD .non c .non a)):=by rw [zK x];exact D.d
    refine ⟨t,_,rfl,.of (by rw [zK ag];exact ht),rfl,_,_,rfl,_,_,rfl,rfl,?_⟩
    refine ⟨_,rfl,rfl,_,rfl,?_⟩
    refine mB (λhk=>?_) (λhk=>?_)
    ·have a1:k=NQ :=by have:=of_decide_eq_true hk;injection this
     have es:wD { ptr:=none,row:=(k,n) :: rest,hold:=none,asked:=a }=({ ptr:=none,row:=rest,hold:=some n,asked:=a },[.str "given",.str n]):=by
      unfold wD;simp only [a1,if_true]
     rw [es] at q
     refine ⟨_,rfl,_,rfl,st,_,rfl,p_h a7 _,?_⟩
     refine ⟨_,rfl,by show 2 <= sizeLine;decide,λJ o=>⟨by show 1 <= sizeLine;decide,λr j=>?_⟩⟩
     have kk:zD [st,c] l (upd (upd (upd (upd l c (.lst (b.map V.ref))) st (.dK (mkD .non c (.str n) a))) J (.tup [.str "given",.str n])) r (.lst [.ref J])):=(((zD.at (by simp)).trans (zD.at (by simp))).trans (zD.new o)).trans (zD.new j)
     obtain ⟨L,rt⟩:=zW j
     obtain ⟨B,rs⟩:=zW L
     obtain ⟨a2,rr⟩:=zW B
     obtain ⟨M,ts⟩:=zW o
     obtain ⟨aa,tr⟩:=zW M
     refine q r _ ⟨?_,⟨b,?_,zP kk (vE D.d m) y⟩,?_⟩ ⟨[J],zC,.cons ?_ .nil⟩ (I.none (by simp) a2) ((I.mono (by simp)).trans kk)
     ·rw [zK (Ne.symm rs),zK (Ne.symm ts),zC];rfl
     ·rw [zK (Ne.symm rr),zK (Ne.symm tr),zK (Ne.symm x),zC]
     ·show rest.length <= 1000;omega
     ·rw [zK (Ne.symm rt),zC]
    ·have a1:¬ k=NQ :=λz=>hk (by rw [z];exact zMY rfl)
     have es:wD { ptr:=none,row:=(k,n) :: rest,hold:=none,asked:=a }=({ ptr:=some n,row:=rest,hold:=none,asked:=!rest.isEmpty },[.str SK,.str n,.bl (!rest.isEmpty)]):=by
      unfold wD;simp only [if_neg a1]
     rw [es] at q
     refine ⟨_,rfl,_,rfl,st,_,rfl,p_a a7 _,?_⟩
     have U:upd (upd l c (.lst (b.map V.ref))) st (.dK (mkD (.str n) c .non a)) st=some (.dK (mkD (.str n) c .non a)):=zC
     refine ⟨_,rfl,st,_,rfl,g_r U,zMT _,λe1 ab=>?_⟩
     obtain ⟨ah,ai⟩:=zW ab
     obtain ⟨au,a3⟩:=zW ah
     have ac:upd (upd (upd l c (.lst (b.map V.ref))) st (.dK (mkD (.str n) c .non a))) e1 (.lst []) c=some (.lst (b.map V.ref)):=by rw [zK (Ne.symm a3),zK (Ne.symm x),zC]
     refine ⟨c,e1,_,rfl,rfl,ac,zC,Ne.symm a3,?_⟩
     have eb:(!(b.map V.ref).isEmpty) = !rest.isEmpty:=by
      cases rest <;> cases b <;> first | rfl | (simp at Y)
     rw [if_pos rfl,eb]
     have aj:upd (upd (upd l c (.lst (b.map V.ref))) st (.dK (mkD (.str n) c .non a))) e1 (.lst []) st=some (.dK (mkD (.str n) c .non a)):=by rw [zK (Ne.symm ai)];exact U
     refine ⟨_,rfl,st,_,rfl,p_k aj _,?_⟩
     refine ⟨_,rfl,_,rfl,st,_,rfl,g_k zC,by show 3 <= sizeLine;decide,λJ o=>⟨by show 1 <= sizeLine;decide,λr j=>?_⟩⟩
     have kk:zD [st,c] l (upd (upd (upd (upd (upd (upd l c (.lst (b.map V.ref))) st (.dK (mkD (.str n) c .non a))) e1 (.lst [])) st (.dK (mkD (.str n) c .non (!rest.isEmpty)))) J (.tup [.str SK,.str n,.bl (!rest.isEmpty)])) r (.lst [.ref J])):=
      (((((zD.at (by simp)).trans (zD.at (by simp))).trans (zD.new ab)).trans (zD.at (by simp))).trans (zD.new o)).trans (zD.new j)
     obtain ⟨L,rt⟩:=zW j
     obtain ⟨B,rs⟩:=zW L
     obtain ⟨a2,re⟩:=zW B
     obtain ⟨ak,_⟩:=zW a2
     obtain ⟨al,rr⟩:=zW ak
     obtain ⟨M,ts⟩:=zW o
     obtain ⟨aa,te⟩:=zW M
     obtain ⟨an,_⟩:=zW aa
     obtain ⟨av,tr⟩:=zW an
     refine q r _ ⟨?_,⟨b,?_,zP kk (vE D.d m) y⟩,?_⟩ ⟨[J],zC,.cons ?_ .nil⟩ (I.none (by simp) al) ((I.mono (by simp)).trans kk)
     ·rw [zK (Ne.symm rs),zK (Ne.symm ts),zC];rfl
     ·rw [zK (Ne.symm rr),zK (Ne.symm tr),zK (Ne.symm x),zK (Ne.symm a3),zK (Ne.symm x),zC]
     ·show rest.length <= 1000;omega
     ·rw [zK (Ne.symm rt),zC]
  | some g=>
   refine ifF rfl ?_
   refine ⟨_,rfl,st,_,rfl,g_a D.d,rfl,_,rfl,?_⟩
   refine ifF (by rw [O];rfl) (ifF rfl ⟨zMT _,λr j=>none_ l I ?_ r j⟩)
   unfold yJ;rw [p,O,hh];rfl
 | some g=>
  refine ifF rfl (ifF rfl ?_)
  refine ⟨_,rfl,st,_,rfl,g_a D.d,rfl,_,rfl,?_⟩
  refine ifT (by rw [O];rfl) ?_
  refine ⟨_,rfl,st,_,rfl,g_k D.d,_,rfl,?_⟩
  cases hk:s.asked with
  | true=>
   refine ifF rfl ⟨zMT _,λr j=>none_ l I ?_ r j⟩
   unfold yJ;rw [p,O,hk];rfl
  | false=>
   refine ifT rfl ?_
   have em:yJ s=({ s with asked:=true },[[.str NT,.str g]]):=by unfold yJ;rw [p,O,hk];rfl
   rw [em] at q
   refine ⟨_,rfl,st,_,rfl,p_k D.d true,?_⟩
   have U:upd l st (.dK (mkD (z9 s.ptr) c (z9 s.hold) true)) st=some (.dK (mkD (z9 s.ptr) c (z9 s.hold) true)):=zC
   refine ⟨_,rfl,st,_,rfl,g_a U,by show 2 <= sizeLine;decide,λJ o=>⟨by show 1 <= sizeLine;decide,λr j=>?_⟩⟩
   rw [O] at o j ⊢
   have kk:zD [st,c] l (upd (upd (upd l st (.dK (mkD (z9 (some g)) c (z9 s.hold) true))) J (.tup [.str NT,z9 (some g)])) r (.lst [.ref J])):=((zD.at (by simp)).trans (zD.new o)).trans (zD.new j)
   obtain ⟨L,rt⟩:=zW j
   obtain ⟨B,rs⟩:=zW L
   obtain ⟨M,ts⟩:=zW o
   refine q r _ ⟨?_,⟨ps,?_,zP kk (vE D.d m) y⟩,D.len⟩ ⟨[J],zC,.cons ?_ .nil⟩ (I.none (by simp) B) ((I.mono (by simp)).trans kk)
   ·rw [zK (Ne.symm rs),zK (Ne.symm ts),zC,O]
   ·rw [zK (zI m B),zK (zI m M),zK (Ne.symm x)];exact m
   ·rw [zK (Ne.symm rt),zC];rfl
end
noncomputable def GD.wd:GD->Str
 | .want _=> Sa
 | .leave _=> NW
 | .done _=> NY
 | .ask _=> NT
 | .come _ _=> NR
theorem zIV:∀ {g:GD},H t=some (.tup (gdV g))->(∀ u H1,zD [] H H1->H1 u=some (.tup [.str g.wd,g.nm])->Q (.ref u) H1)->zA0 K (.ref t) none (some 2) H Q
 | .want _,a,h=>⟨t,_,rfl,.of a,.inl ⟨rfl,rfl,h t H (zD.refl _) a⟩⟩
 | .leave _,a,h=>⟨t,_,rfl,.of a,.inl ⟨rfl,rfl,h t H (zD.refl _) a⟩⟩
 | .done _,a,h=>⟨t,_,rfl,.of a,.inl ⟨rfl,rfl,h t H (zD.refl _) a⟩⟩
 | .ask _,a,h=>⟨t,_,rfl,.of a,.inl ⟨rfl,rfl,h t H (zD.refl _) a⟩⟩
 | .come _ _,a,h=>⟨t,_,rfl,.of a,.inr ⟨by show ¬ ((0:Nat)=0/\(2:Nat)=3);decide,λp b=>h p _ (zD.new b) zC⟩⟩
theorem DAt.more {s:SS} (hd:H3 st=some (.dK (mkD (z9 s.ptr) b (z9 s.hold) s.asked)))
  (a:Paired (λq r=>H3 q=some (.tup r)) ps (s.row.map yU)) (c:H3 b=some (.lst (ps.map V.ref ++ [.ref t]))) (d:H3 t=some (.tup (yU x))) (e:s.row.length < 1000):DAt H3 st b { s with row:=s.row ++ [x] }:=by
 refine ⟨hd,⟨ps ++ [t],by rw [c,zMV];rfl,?_⟩,by show (s.row ++ [x]).length <= 1000;simp;omega⟩
 show Paired _ _ ((s.row ++ [x]).map yU)
 rw [zMV]
 exact wJ a d
theorem qP (z:Str) (o:Option Str):zAE (z9 o) (.str z)=true:=by cases o <;> rfl
theorem pJ (z:Str) (o:Option Str):decide (z9 o=V.str z)=decide (o=some z):=by
 cases o with
 | none=>simp [z9]
 | some y=>simp [z9]
theorem zIT {row:LSS} (R:Rows H p (row.map yU)) (a:H t=some (.tup (yU x))) (q:Q (.bl (decide (x ∈ row))) H):zD6 false (.ref t) (.ref p) H Q:=
 ⟨p,t,_,row.map yU,rfl,rfl,R,a,rfl,wY _,by
  show Q (.bl ((row.map yU).any λr=>eqT r (yU x))) H
  rw [tW];exact q⟩
theorem mY {row:LSS} (R:Rows H p (row.map yU)) (a:H t=some (.tup (yU x))) (q:Q (.bl (!decide (x ∈ row))) H):zD6 true (.ref t) (.ref p) H Q:=
 ⟨p,t,_,row.map yU,rfl,rfl,R,a,rfl,wY _,by
  show Q (.bl (!(row.map yU).any λr=>eqT r (yU x))) H
  rw [tW];exact q⟩
section
variable {P:Program} {w:World} {K:W.Frag} {mg:Str->Option Value} {base:Heap} {C:Addr}
theorem gW:zM [SH,"_law_deed","_law_word","_law_name"] NC (zG eY):=scm
def aW:Sp:=λc H Q _=>∃ st b t s d,c=[.ref st,.ref t]/\DAt H st b s/\H t=some (.tup (gdV (bU d)))/\qZ s/\f8 s d/\s.row.length < 900 /\
 ∀ r a,DAt a st b (yJ (wB s d)).1->Rows a r (yJ (wB s d)).2->H r=none->zD [st,b] H a->Q (.ref r) a
theorem zH9 (G:yM K mg SU eY NC) (CM:Cal P w K mg base CX0 1 "_law_moved" NM eO):Cal P w K mg base CX0 2 SU NC aW:=by
 refine G.oz gW (λf ah A a7 s0 H vs Q E hr h=>?_)
 obtain ⟨st,c,t,s,d,rfl,D0,ht,I,ok,af,q⟩:=h
 have aa:zZ 1 _:=hr
 have hu:=vS hr
 have J:s.row.length < 1000:=by omega
 refine ⟨_,(zE (qR (xT pP (pv 1) wZ (xW zH)) (tL rfl (y3 (yI (i:=2) gW.nd rfl (Or.inl rfl)) (y3 (yI (i:=3) gW.nd rfl (Or.inl rfl)) uF))))
   (zE (z4 (zT xF (pv 2) zJ (zX _)) (zF (yB (uD F.plainAttrs_list F.slot_list_append F.type_list_append xQ (yV hu (pv 0) zJ (λ_ _=>rfl)) (zA (yH (zA zJ (zA (pv 3) zB))) zB)))) (zF (z4 (zT xF (pv 2) zJ (zX _)) (zF (yB (uD F.plainAttrs_list F.slot_list_remove F.type_list_remove (o0 hu) (yV hu (pv 0) zJ (λ_ _=>rfl)) (zA (yH (zA zJ (zA (pv 3) zB))) zB)))) (zF (z4 (zT xF (pv 2) zJ (zX _)) (zF (tK hu (pv 0) zJ yQ rfl)) (zF (z4 (zT xF (pv 2) zJ (zX _)) (zF (yB (uD F.plainAttrs_list F.slot_list_append F.type_list_append xQ (yV hu (pv 0) zJ (λ_ _=>rfl)) (zA (yH (zA zJ (zA (pv 3) zB))) zB)))) (zE (tK hu (pv 0) zJ yQ rfl)
   (zE (tK hu (pv 0) zJ wS rfl)
   (zF (z4 (y9 (zS zU (pv 1) zH (λ_ _=>rfl))) (zF (yB (uD F.plainAttrs_list F.slot_list_append F.type_list_append xQ (yV hu (pv 0) zJ (λ_ _=>rfl)) (zA (yH (zA zJ (zA (pv 3) zB))) zB)))) zN)))))))))))
   (zF (zL (zO CM aa (zA (pv 0) zB)))))),?_⟩
 refine ⟨_,rfl,_,rfl,zIV ht λu g n ab=>?_⟩
 refine ⟨u,_,rfl,.of ab,rfl,_,_,rfl,_,_,rfl,rfl,?_⟩
 have D:=D0.keep n
 have a2:=n.z ht
 cases d with
 | want z=>
  dsimp only [bU,GD.wd,GD.nm]
  refine ⟨_,rfl,rfl,_,rfl,mE ?_⟩
  obtain ⟨L,a,l⟩:=id D.rw
  have O:=zY l
  rw [zMJ] at O
  refine ⟨_,rfl,st,_,rfl,g_r D.d,.inl ⟨rfl,_,.of a⟩,_,rfl,by show 2 <= sizeLine;decide,λk p=>?_⟩
  have v:zD [] g (upd g k (.tup [.str NQ,.str z])):=zD.new p
  have T:c ≠ k:=zI a p
  refine ⟨c,_,_,rfl,rfl,v.z a,by rw [zMJ,sizeLine_eq];have:=D.len;omega,?_⟩
  have B:upd g k (.tup [.str NQ,.str z]) k=some (.tup (yU (askR z))):=zC
  have n3:∀ r,upd g k (.tup [.str NQ,.str z]) r=none->g r=none:=λr h=>(zW h).1
  generalize upd g k (.tup [.str NQ,.str z])=M at v B n3 ⊢
  have N:zD [st,c] g (upd M c (.lst (L.map V.ref ++ [.ref k]))):=(v.mono (by simp)).trans (zD.at (by simp))
  have D4:=DAt.more (H3:=upd M c (.lst (L.map V.ref ++ [.ref k]))) (x:=askR z) (by rw [zK D.ne];exact v.z D.d) (zP N (vE D.d a) l) zC (by rw [zK (Ne.symm T)];exact B) J
  refine ⟨_,rfl,st,c,_,rfl,D4,λr U Y R5 o k5=>?_⟩
  exact q r U Y R5 (n.none (by simp) (n3 r (zW o).1)) (((n.mono (by simp)).trans N).trans k5)
 | leave z=>
  dsimp only [bU,GD.wd,GD.nm]
  refine ⟨_,rfl,rfl,_,rfl,sC ?_⟩
  refine ⟨_,rfl,rfl,_,rfl,mE ?_⟩
  obtain ⟨L,a,l⟩:=id D.rw
  obtain ⟨j,hj,a3⟩:=rL s.row (askR z) ok
  have ef:wB s (.leave z) = { s with row:=s.row.eraseIdx j }:=by
   show ({ s with row:=s.row.filter λx=>decide (x ≠ askR z) }:SS)=_
   rw [tS s.row (askR z) j hj a3 (I.u z)]
  rw [ef] at q
  refine ⟨_,rfl,st,_,rfl,g_r D.d,.inl ⟨rfl,_,.of a⟩,_,rfl,by show 2 <= sizeLine;decide,λk p=>?_⟩
  have v:zD [] g (upd g k (.tup [.str NQ,.str z])):=zD.new p
  have a4:∀ b ∈ ([]:List Addr),∀ xs,g b ≠ some (.tup xs):=λb hb=>by cases hb
  refine ⟨c,k,_,s.row.map yU,j,L,rfl,rfl,v.z a,zP v a4 l,zC,rfl,wY _,⟨yU (askR z),by rw [zMP,hj];rfl,by
   show eqT (yU (askR z)) (yU (askR z))=true
   rw [r9];exact zMY rfl⟩,(λm r hm e=>by
   rw [zMP] at e
   cases hx:s.row[m]? with
   | none=>rw [hx] at e;cases e
   | some y=>
    rw [hx] at e
    have e':yU y=r:=zMQ e
    rw [<- e']
    show eqT (yU y) (yU (askR z))=false
    rw [r9]
    exact zMZ (λw=>a3 m hm (by rw [hx,w]))),?_⟩
  have n3:∀ r,upd g k (.tup [.str NQ,.str z]) r=none->g r=none:=λr h=>(zW h).1
  generalize upd g k (.tup [.str NQ,.str z])=M at v n3 ⊢
  have N:zD [st,c] g (upd M c (.lst ((L.eraseIdx j).map V.ref))):=(v.mono (by simp)).trans (zD.at (by simp))
  have D4:DAt (upd M c (.lst ((L.eraseIdx j).map V.ref))) st c { s with row:=s.row.eraseIdx j }:=by
   refine ⟨by rw [zK D.ne];exact v.z D.d,⟨L.eraseIdx j,zC,?_⟩,zMU (tF s.row j) D.len⟩
   show Paired _ _ ((s.row.eraseIdx j).map yU)
   rw [<- sO yU]
   exact tM j (zP N (vE D.d a) l)
  refine ⟨_,rfl,st,c,_,rfl,D4,λr U Y R5 o k5=>?_⟩
  exact q r U Y R5 (n.none (by simp) (n3 r (zW o).1)) (((n.mono (by simp)).trans N).trans k5)
 | done z=>
  dsimp only [bU,GD.wd,GD.nm]
  refine ⟨_,rfl,rfl,_,rfl,sC ?_⟩
  refine ⟨_,rfl,rfl,_,rfl,sC ?_⟩
  refine ⟨_,rfl,rfl,_,rfl,mE ?_⟩
  refine ⟨_,rfl,st,_,rfl,p_h D.d .non,?_⟩
  have N:zD [st,c] g (upd g st (.dK (mkD (z9 s.ptr) c .non s.asked))):=zD.at (by simp)
  obtain ⟨L,a,l⟩:=id D.rw
  have D4:DAt (upd g st (.dK (mkD (z9 s.ptr) c .non s.asked))) st c { s with hold:=none }:=⟨zC,⟨L,by rw [zK (Ne.symm D.ne)];exact a,zP N (vE D.d a) l⟩,D.len⟩
  refine ⟨_,rfl,st,c,_,rfl,D4,λr U Y R5 o k5=>?_⟩
  exact q r U Y R5 (n.none (by simp) (zW o).1) (((n.mono (by simp)).trans N).trans k5)
 | ask z=>
  dsimp only [bU,GD.wd,GD.nm]
  refine ⟨_,rfl,rfl,_,rfl,sC ?_⟩
  refine ⟨_,rfl,rfl,_,rfl,sC ?_⟩
  refine ⟨_,rfl,rfl,_,rfl,sC ?_⟩
  refine ⟨_,rfl,rfl,_,rfl,mE ?_⟩
  obtain ⟨L,a,l⟩:=id D.rw
  have O:=zY l
  rw [zMJ] at O
  refine ⟨_,rfl,st,_,rfl,g_r D.d,.inl ⟨rfl,_,.of a⟩,_,rfl,by show 2 <= sizeLine;decide,λk p=>?_⟩
  have v:zD [] g (upd g k (.tup [.str NV,.str z])):=zD.new p
  have T:c ≠ k:=zI a p
  refine ⟨c,_,_,rfl,rfl,v.z a,by rw [zMJ,sizeLine_eq];have:=D.len;omega,?_⟩
  have B:upd g k (.tup [.str NV,.str z]) k=some (.tup (yU (hsR z))):=zC
  have n3:∀ r,upd g k (.tup [.str NV,.str z]) r=none->g r=none:=λr h=>(zW h).1
  generalize upd g k (.tup [.str NV,.str z])=M at v B n3 ⊢
  have N:zD [st,c] g (upd M c (.lst (L.map V.ref ++ [.ref k]))):=(v.mono (by simp)).trans (zD.at (by simp))
  have D4:=DAt.more (H3:=upd M c (.lst (L.map V.ref ++ [.ref k]))) (x:=hsR z) (by rw [zK D.ne];exact v.z D.d) (zP N (vE D.d a) l) zC (by rw [zK (Ne.symm T)];exact B) J
  refine ⟨_,rfl,st,c,_,rfl,D4,λr U Y R5 o k5=>?_⟩
  exact q r U Y R5 (n.none (by simp) (n3 r (zW o).1)) (((n.mono (by simp)).trans N).trans k5)
 | come z b=>
  dsimp only [bU,GD.wd,GD.nm]
  refine ⟨_,rfl,rfl,_,rfl,sC ?_⟩
  refine ⟨_,rfl,rfl,_,rfl,sC ?_⟩
  refine ⟨_,rfl,rfl,_,rfl,sC ?_⟩
  refine ⟨_,rfl,rfl,_,rfl,sC ?_⟩
  refine ⟨_,rfl,st,_,rfl,p_a D.d .non,?_⟩
  refine ⟨_,rfl,st,_,rfl,p_k zC false,?_⟩
  rw [uE]
  obtain ⟨ac,a0,a5⟩:=id D.rw
  have kc:zD [st,c] g (upd g st (.dK (mkD .non c (z9 s.hold) false))):=zD.at (by simp)
  have Dc:DAt (upd g st (.dK (mkD .non c (z9 s.hold) false))) st c { s with ptr:=none,asked:=false }:=⟨zC,⟨ac,by rw [zK (Ne.symm D.ne)];exact a0,zP kc (vE D.d a0) a5⟩,D.len⟩
  have a6:upd g st (.dK (mkD .non c (z9 s.hold) false)) t=some (.tup [.str NR,.str z,.bl b]):=by
   rw [zK (wL a2 D.d (by intro z;cases z))];exact a2
  have nc:∀ r,upd g st (.dK (mkD .non c (z9 s.hold) false)) r=none->g r=none:=λr h=>(zW h).1
  clear D
  generalize upd g st (.dK (mkD .non c (z9 s.hold) false))=H2 at kc Dc a6 nc ⊢
  refine ⟨_,rfl,t,_,2,_,rfl,rfl,a6,at2 _ _ _ _,_,rfl,?_⟩
  have kk:zD [st,c] H H2:=(n.mono (by simp)).trans kc
  have nn:∀ r,H2 r=none->H r=none:=λr h=>n.none (by simp) (nc r h)
  cases b with
  | false=>
   refine ifF rfl ?_
   refine ⟨_,rfl,st,c,_,rfl,Dc,λr U Y R5 o k5=>?_⟩
   exact q r U Y R5 (nn r o) (kk.trans k5)
  | true=>
   refine ifT rfl ?_
   obtain ⟨L,a,l⟩:=id Dc.rw
   have O:=zY l
   rw [zMJ] at O
   refine ⟨_,rfl,st,_,rfl,g_r Dc.d,.inl ⟨rfl,_,.of a⟩,_,rfl,by show 2 <= sizeLine;decide,λk p=>?_⟩
   have v:zD [] H2 (upd H2 k (.tup [.str NV,.str z])):=zD.new p
   have T:c ≠ k:=zI a p
   refine ⟨c,_,_,rfl,rfl,v.z a,by rw [zMJ,sizeLine_eq];have:=Dc.len;omega,?_⟩
   have B:upd H2 k (.tup [.str NV,.str z]) k=some (.tup (yU (hsR z))):=zC
   have n3:∀ r,upd H2 k (.tup [.str NV,.str z]) r=none->H2 r=none:=λr h=>(zW h).1
   generalize upd H2 k (.tup [.str NV,.str z])=M at v B n3 ⊢
   have N:zD [st,c] H2 (upd M c (.lst (L.map V.ref ++ [.ref k]))):=(v.mono (by simp)).trans (zD.at (by simp))
   have D4:=DAt.more (s:={ s with ptr:=none,asked:=false }) (H3:=upd M c (.lst (L.map V.ref ++ [.ref k]))) (x:=hsR z) (by rw [zK Dc.ne];exact v.z Dc.d) (zP N (vE Dc.d a) l) zC (by rw [zK (Ne.symm T)];exact B) J
   refine ⟨_,rfl,st,c,_,rfl,D4,λr U Y R5 o k5=>?_⟩
   exact q r U Y R5 (nn _ (n3 r (zW o).1)) ((kk.trans N).trans k5)
end
abbrev sCh:Stmt:=top 47
abbrev sSO:Stmt:=top 48
abbrev sLN:Stmt:=top 49
def vD (Y:Addr->Prop) (H:Hp) (st:Addr) (ys:List (Addr × Addr)) (ss:List SS):Prop:=H st=some (.lst (ys.map λy=>V.ref y.1))/\(Y st/\∀ y ∈ ys,Y y.1/\Y y.2)/\((∀ y ∈ ys,y.2 ≠ st)/\ys.Pairwise λa b=>a.1 ≠ b.1/\a.2 ≠ b.2)/\ys.length=ss.length/\∀ (i:Nat) (y:Addr × Addr) (s:SS),ys[i]?=some y->ss[i]?=some s->DAt H y.1 y.2 s
theorem vD.on (h:vD Y H st ys ss) (k:zD [] H a):vD Y a st ys ss:=by
 obtain ⟨b,c,d,e,f⟩:=h
 exact ⟨k.z b,c,d,e,λi y s g j=>(f i y s g j).keep k⟩
theorem DAt.keepS (D:DAt H st a s) (k:zD S H c) (f:st ∉ S) (g:a ∉ S) (h:∀ b ∈ S,∀ xs,H b ≠ some (.tup xs)):DAt c st a s:=by
 obtain ⟨i,e,r⟩:=D.rw
 exact ⟨k _ _ f D.d,⟨i,k _ _ g e,zP k h r⟩,D.len⟩
theorem vD.keep (h:vD Y H st ys ss) (k:zD S H f) (e:∀ b ∈ S,¬ Y b/\∀ xs,H b ≠ some (.tup xs)):vD Y f st ys ss:=by
 obtain ⟨g,c,j,l,m⟩:=h
 have a:∀ {u:Addr},Y u->u ∉ S:=λn o=>(e _ o).1 n
 exact ⟨k _ _ (a c.1) g,c,j,l,λi y s d p=>(m i y s d p).keepS k (a (c.2 y (zMN d)).1) (a (c.2 y (zMN d)).2) λb q=>(e b q).2⟩
theorem vD.seat (h:vD Y H st ys ss) (a:ys[i]?=some y) (k:zD [y.1,y.2] H n) (D:DAt n y.1 y.2 s'):vD Y n st ys (ss.set i s'):=by
 obtain ⟨o,s,g,p,q⟩:=h
 have r:i < ss.length:=by rw [<- p];exact (zML.mp a).1
 have c:=q i y _ a (zMK r)
 obtain ⟨A,b,_⟩:=c.rw
 have n1:=wL o c.d (by intro z;cases z)
 have n2:=Ne.symm (g.1 y (zMN a))
 refine ⟨k _ _ (by simp [n1,n2]) o,s,g,by rw [zNK];exact p,λj x t l f=>?_⟩
 by_cases e:j=i
 ·subst e
  rw [l] at a
  cases a
  rw [zNG r] at f
  cases f
  exact D
 ·rw [zNF (Ne.symm e)] at f
  have m:=q j x t l f
  obtain ⟨u,v⟩:=zGD g.2 l a e
  obtain ⟨_,w,_⟩:=id m.rw
  exact m.keepS k (by simp [u,wL m.d b (by intro z;cases z)]) (by simp [v,wL w c.d (by intro z;cases z)]) (vE c.d b)
section
variable {P:Program} {w:World} {K:W.Frag} {mg:Str->Option Value} {base:Heap} {C:Addr}
theorem scLN:zM Nm Nm (zG sLN):=scm
theorem zKD:zM ["_law_states","_law_asker","_law_right"] Nu (zG sSO):=scm
theorem gX:zM ["_law_states","_law_found","_law_right","_law_ranks","_law_k","_law_many"] NP (zG sCh):=scm
def zG9:Sp:=λd H Q _=>∃ (i:Nat) (a:Addr) (b:List (List V)),d=[.ref a,.int (i:Int)]/\Rows H a b/\(∀ l ∈ b,l ≠ []/\l.length <= 10)/\b.length <= 100/\∀ (r:Addr) (c:Hp),Rows c r (b.map (kQ i))->H r=none->zD [] H c->Q (.ref r) c
theorem okLN (G:yM K mg SQ sLN Nm):Cal P w K mg base CX0 1 SQ Nm zG9:=by
 refine G.oz scLN (λf j A c u H m Q E x h=>?_)
 obtain ⟨i,a,n,rfl,R,o,y,q⟩:=h
 obtain ⟨z,d,p⟩:=id R
 refine ⟨_,(zF (zL (wV (N:=Nm) (sc:=zG sLN) (ix:=[1]) (by decide +kernel) (y6 (pv 0)) (λ_ _ _ _=>xG) (λ_ _ _ _=>(yG (iI (K:=K)) (yH (zA (zS zU (pv 0) zH (λ_ _=>rfl)) (zA (pv 1) zB))) (xT (jW (K:=K)) (pv 0) (xW zH) wZ)))))),?_⟩
 refine ⟨_,rfl,a,rfl,⟨_,.of d⟩,λacc b=>?_⟩
 refine kT (ds:=n) id (kQ i) (λ_=>true) (λl q=>[some (.ref q)]) [some (.int (i:Int))] (by omega) b (by rw [List.map_id];exact R) ⟨[none],rfl,rfl⟩ (λ_ _=>rfl) ?_ ?_ ?_ ?_
 ·intro l q m H R _ r e h
  obtain ⟨v,rfl⟩:=List.length_eq_one_iff.mp r
  exact h
 ·intro l q H R _ _ _ h
  exact h H (zD.refl _)
 ·intro l q H R s e h
  exact mX (o l s) e h
 ·intro t g k
  rw [List.filter_eq_self.mpr (λ_ _=>rfl)] at g
  exact q acc t g b k
def aS:Sp:=λc H Q _=>∃ (Y:Addr->Prop) (st:Addr) (d:List (Addr × Addr)) (b:List SS) (z:Str),c=[.ref st,.str z]/\vD Y H st d b/\b.length <= 100 /\
 (∀ a,z ∉ xC b->zD [] H a->Q .non a)/\(∀ (i:Nat) (s:SS) (a:Hp),b[i]?=some s->z ∈ wW s->zD [] H a->Q (.int (i:Int)) a)
theorem okSO (G:yM K mg Sv sSO Nu) (g:Blt mg S8) (a:Blt mg Su):Cal P w K mg base CX0 1 Sv Nu aS:=by
 refine G.oz zKD (λf a0 A r s0 H vs Q E hr h=>?_)
 obtain ⟨Y,st,n,l,z,rfl,T,U,q0,q1⟩:=h
 have u:=vS hr
 refine ⟨_,(zE (vM PassesOwn.never rfl (vJ rfl a.no (zA (zV yA g yP (zA (pv 0) zB)) zB)) (yI (i:=2) zKD.nd rfl (Or.inl rfl)) (zF (z4 (PW.pt (sX (zT xF (yV u (zS z6 (pv 0) (pv 2) (λ_ _=>rfl)) zJ (λ_ _=>rfl)) (pv 1) (zX _)) (u6 (zT (kP u) (yH (zA zJ (zA (pv 1) zB))) (yV u (zS z6 (pv 0) (pv 2) (λ_ _=>rfl)) zJ (λ_ _=>rfl)) (by with_unfolding_all rfl))))) (zF (zL (pv 2))) zN)))
   (zF (zL yQ))),?_⟩
 obtain ⟨v,_,_,ly,_⟩:=id T
 refine ⟨_,rfl,_,_,rfl,.inl ⟨_,.of v,rfl⟩,_,rfl,by omega,by rw [zMJ,ly];omega,tG (λi B k=>∃ I:Option V,B=[some (.ref st),some (.str z),I]/\(∀ j s,j < i->l[j]?=some s->z ∉ wW s)/\zD [] H k) ⟨_,rfl,λj s hj=>absurd hj (Nat.not_lt_zero j),zD.refl _⟩ ?_ ?_⟩
 ·rintro i B k hi ⟨I,rfl,no,m⟩
  rw [zMJ,Int.toNat_natCast] at hi
  have il:i < l.length:=by omega
  have b:l[i]?=some l[i]:=zMK il
  generalize l[i]=s at b
  have J:n[i]?=some n[i]:=zMK (by omega)
  generalize n[i]=y at J
  obtain ⟨c,_,_,_,hd⟩:=T.on m
  have D:=hd i y s J b
  have L:(0:Int) + (i:Int)=(i:Int):=Int.zero_add _
  have ix:atI (n.map λy=>V.ref y.1) (0 + (i:Int))=some (.ref y.1):=by rw [L];exact wI J
  refine ⟨_,rfl,_,rfl,st,_,_,_,rfl,rfl,c,ix,y.1,_,rfl,g_h D.d,_,rfl,qP _ _,_,rfl,?_⟩
  rw [pJ]
  by_cases o:s.hold=some z
  ·rw [zMY o]
   refine ifT rfl (ifT rfl ⟨_,rfl,?_⟩)
   rw [L]
   exact q1 i s k b (uG.mpr (.inl o)) m
  ·rw [zMZ o]
   refine ifF rfl ?_
   refine ⟨_,rfl,by show 2 <= sizeLine;decide,λt2 M=>?_⟩
   have p:zD [] k (upd k t2 (.tup [.str NQ,.str z])):=zD.new M
   have D3:=D.keep p
   refine ⟨_,rfl,_,rfl,st,_,_,_,rfl,rfl,p.z c,ix,y.1,_,rfl,g_r D3.d,zIT (x:=askR z) D3.rw zC ⟨_,rfl,?_⟩⟩
   by_cases q:askR z ∈ s.row
   ·rw [zMY q]
    refine ifT rfl ⟨_,rfl,?_⟩
    rw [L]
    exact q1 i s _ b (uG.mpr (.inr q)) (m.trans p)
   ·rw [zMZ q]
    refine ifF rfl ⟨_,rfl,λj t hj N=>?_,m.trans p⟩
    by_cases e:j=i
    ·subst e
     rw [b] at N
     cases N
     exact λO=>(uG.mp O).elim o q
    ·exact no j t (by omega) N
 ·rintro B k ⟨I,rfl,no,m⟩
  refine q0 k (λO=>?_) m
  obtain ⟨i,s,b,hz⟩:=vC.mp O
  have il:i < l.length:=(zML.mp b).1
  exact no i s (by rw [zMJ,Int.toNat_natCast];omega) b hz
end
abbrev sDn:Stmt:=top 51
abbrev sPu:Stmt:=top 52
theorem zFE (x y:V) (l:List V):vI (x :: y :: l) none (some 2)=[x,y]:=by
 unfold vI
 rw [show (2:Int)=((2:Nat):Int) from rfl,HT.sIx_nat]
 simp only [zM4]
 rw [show min 2 (l.length + 1 + 1)=2 by omega]
 rfl
theorem lB (x y z:V) (l:List V):vI (x :: y :: z :: l) (some 3) none=l:=by
 unfold vI
 rw [show (3:Int)=((3:Nat):Int) from rfl,HT.sIx_nat]
 simp only [zM4]
 rw [show min 3 (l.length + 1 + 1 + 1)=3 by omega]
 show l.take _=l
 rw [zM8]
 show l.length <= HT.sIx (l.length + 1 + 1 + 1) (l.length + 1 + 1 + 1) none - 3
 unfold HT.sIx
 simp
theorem kY (d:H t=some (.tup (a :: b :: l))) (h:∀ u H1,zD [] H H1->H1 u=some (.tup [a,b])->Q (.ref u) H1):zA0 K (.ref t) none (some 2) H Q:=by
 cases l with
 | nil=>exact ⟨t,_,rfl,.of d,.inl ⟨rfl,rfl,h t H (zD.refl _) d⟩⟩
 | cons c l=>
  refine ⟨t,_,rfl,.of d,.inr ⟨?_,λp f=>?_⟩⟩
  ·rintro ⟨_,e⟩
   rw [show (2:Int)=((2:Nat):Int) from rfl,HT.sIx_nat] at e
   simp only [zM4] at e
   omega
  ·rw [zFE]
   exact h p _ (zD.new f) zC
theorem jN:¬ (HT.sIx (a :: b :: c :: l).length 0 (some 3)=0/\p):=by
 rintro ⟨e,_⟩
 rw [show (3:Int)=((3:Nat):Int) from rfl,HT.sIx_nat] at e
 simp only [zM4] at e
 omega
theorem zD5 (s:SS) (h:n=s.row.length):[V.int ((n:Int) + (if (!decide (z9 s.hold=.non))=true then 1 else 0)),V.int (if (!decide (z9 s.ptr=V.non))=true then 1 else 0)]=vY s:=by
 unfold vY nI
 rw [h]
 cases s.hold <;> cases s.ptr <;> simp [z9]
def jJ (Y:Addr->Prop) (H:Hp) (st:Addr) (ys:List (Addr × Addr)) (ss:List SS) (i:Nat) (s:SS) (d:DD) (Q:VK):Prop:=∀ r y a,ys[i]?=some y->vD Y a st ys (ss.set i (yJ (wB s d)).1)->Rows a r ((yJ (wB s d)).2.map (kQ i))->H r=none->zD [y.1,y.2] H a->Q (.ref r) a
theorem jJ.num (f:vD Y H st ys ss) (c:ys[i]?=some y) (q:jJ Y H st ys ss i s d Q) (a:zD [] H H1) (D:DAt b y.1 y.2 (yJ (wB s d)).1) (R:Rows b r (yJ (wB s d)).2) (m:H1 r=none) (k2:zD [y.1,y.2] H1 b):zG9 [.ref r,.int (i:Int)] b Q E:=by
 obtain ⟨g,h⟩:=rF (wB s d)
 refine ⟨i,r,_,rfl,R,g,h,λj k l n3 e=>q j y k c (((f.on a).seat c k2 D).on e) l ?_ (((a.mono (by simp)).trans k2).trans (e.mono (by simp)))⟩
 exact a.none (by simp) (k2.none (D.fresh n3) n3)
theorem zGL (nm:V) (nl a:Addr):(hfl nm nl a).lookup (Sa : Str)=none:=rfl
theorem zLR (nm:V) (nl a:Addr):(hfl nm nl a).lookup (NW : Str)=none:=rfl
theorem zLU (nm:V) (nl a:Addr):(hfl nm nl a).lookup (NY : Str)=none:=rfl
theorem zLY (nm:V) (nl a:Addr):(hfl nm nl a).lookup (NT : Str)=none:=rfl
theorem zLV (nm:V) (nl a:Addr):(hfl nm nl a).lookup (NR : Str)=none:=rfl
section
variable {P:Program} {w:World} {K:W.Frag} {mg:Str->Option Value} {base:Heap} {C CS:Addr}
theorem zDV:zM NL Nh (zG sDn):=scm
theorem zKH:zM N7 N7 (zG sPu):=scm
def zJ5:Sp:=λc H Q _=>∃ Y st d a,c=[.ref st]/\vD Y H st d a/\a ≠ []/\a.length <= 100/\∀ b,zD [] H b->Q (.int (pL a:Int)) b
theorem okCh (G:yM K mg "_law_chosen" sCh NP) (m:Blt mg S8) (o:Blt mg Su) (p:Blt mg "int"):Cal P w K mg base CX0 1 "_law_chosen" NP zJ5:=by
 refine G.oz gX (λf ae A a4 s0 H vs Q E hr h=>?_)
 obtain ⟨Y,st,ys,e,rfl,hS,ne,ac,q⟩:=h
 have hu:=vS hr
 have pos:0 < e.length:=zM9.mpr ne
 refine ⟨_,(zE (z7 (i:=1) gX.nd rfl (Or.inl rfl) zH)
   (zE (vM PassesOwn.never rfl (c9 rfl o.no (zA zH (zA (zV yA m yP (zA (pv 0) zB)) zB))) (yI (i:=2) gX.nd rfl (Or.inl rfl)) (zE (z7 (i:=3) gX.nd rfl (Or.inl rfl) (yL zB))
   (zE (vM PassesOwn.never rfl (y6 (yL (zA (pv 2) (zA (pv 1) zB)))) (yI (i:=4) gX.nd rfl (Or.inl rfl)) (zE (z7 (i:=5) gX.nd rfl (Or.inl rfl) (yG wP (zV yA m yP (zA (yV hu (zS z6 (pv 0) (pv 4) (λ_ _=>rfl)) zJ (λ_ _=>rfl)) zB)) (xE uJ rfl p.no tT (zA (xI vX (yV hu (zS z6 (pv 0) (pv 4) (λ_ _=>rfl)) zJ (λ_ _=>rfl)) yQ (zX _)) zB))))
   (zF (yB (uD F.plainAttrs_list F.slot_list_append F.type_list_append xQ (pv 3) (zA (yH (zA (pv 5) (zA (xE uJ rfl p.no tT (zA (xI vX (yV hu (zS z6 (pv 0) (pv 4) (λ_ _=>rfl)) zJ (λ_ _=>rfl)) yQ (zX _)) zB)) zB))) zB))))))
   (zF (z4 (zT (zH0 (Nat.lt_of_succ_lt hu)) (zS z6 (pv 3) zH (λ_ _=>rfl)) (zS z6 (pv 3) zH (λ_ _=>rfl)) (zX _)) (zF (z7 (i:=1) gX.nd rfl (Or.inl rfl) (pv 2))) zN)))))
   (zF (zL (pv 1))))),?_⟩
 obtain ⟨a5,_,_,ly,_⟩:=id hS
 have len:((List.map (λy:Addr × Addr=>V.ref y.1) ys).length:Int)=(e.length:Int):=by rw [zMJ,ly]
 refine ⟨_,rfl,_,_,rfl,.inl ⟨_,.of a5,rfl⟩,_,_,rfl,⟨by omega,by omega,by rw [len];omega,by rw [len];omega⟩,?_⟩
 rw [len,show (((e.length:Int)) - 1).toNat=e.length - 1 by omega]
 refine tG (λk B I=>∃ v2 v3 v4 J:Option V,B=[some (.ref st),some (.int (argBest (bt2 e) k:Int)),v2,v3,v4,J]/\zD [] H I) ⟨_,_,_,_,rfl,zD.refl _⟩ ?_ ?_
 ·rintro k B I hk ⟨v2,v3,v4,J,rfl,k1⟩
  have bl:=tV (bt2 e) k
  generalize eb:argBest (bt2 e) k=b at bl
  have kl:k + 1 < e.length:=by omega
  have a6:b < e.length:=by omega
  rw [show (1:Int) + (k:Int)=((k + 1:Nat):Int) by omega]
  refine ⟨zMT _,λg U=>?_⟩
  have k2:zD [] I (upd I g (.lst [])):=zD.new U
  have e2:upd I g (.lst []) g=some (.lst []):=zC
  generalize upd I g (.lst [])=H2 at k2 e2 ⊢
  refine ⟨_,rfl,_,rfl,by show 2 <= sizeLine;decide,λM a0=>⟨M,rfl,⟨_,.of zC⟩,?_⟩⟩
  have k3:zD [] H2 (upd H2 M (.lst [.int ((k + 1:Nat):Int),.int (b:Int)])):=zD.new a0
  have e3:upd H2 M (.lst [.int ((k + 1:Nat):Int),.int (b:Int)]) M=some (.lst ([k + 1,b].map λn:Nat=>V.int (n:Int))):=zC
  have a7:g ≠ M:=zI e2 a0
  have a1:=k3.z e2
  generalize upd H2 M (.lst [.int ((k + 1:Nat):Int),.int (b:Int)])=H3 at k3 e3 a1 ⊢
  have a2:=(k1.trans k2).trans k3
  have rH:H g=none:=k1.none (by simp) U
  refine vQ (K:=K) (a:=M) (xs:=[k + 1,b].map λn:Nat=>V.int (n:Int)) (λj B l=>∃ v4 J L,B=[some (.ref st),some (.int (b:Int)),some (.int ((k + 1:Nat):Int)),some (.ref g),v4,J]/\l g=some (.lst (L.map V.ref))/\Paired (λq r=>l q=some (.tup r)) L (([k + 1,b].take j).map λn=>(e.map vY).getD n [])/\zD [g] H3 l) ⟨_,_,[],rfl,a1,.nil,zD.refl _⟩ ?_ ?_ ?_
  ·rintro j B l _ ⟨v4,J,L,rfl,N,hp,T⟩
   exact .of (T _ _ (by simp [Ne.symm a7]) e3)
  ·rintro j x B l hx ⟨v4,J,L,rfl,N,hp,T⟩
   rw [zMP] at hx
   cases en:[k + 1,b][j]? with
   | none=>rw [en] at hx;cases hx
   | some n=>
   rw [en] at hx
   have ex:V.int (n:Int)=x:=zMQ hx
   subst ex
   have nl:n < e.length:=by
    have:=zMN en
    simp at this
    rcases this with rfl | rfl <;> assumption
   have es:e[n]?=some e[n]:=zMK nl
   generalize e[n]=s at es
   have ey:ys[n]?=some ys[n]:=zMK (by omega)
   generalize ys[n]=y at ey
   have v:zD [] H l:=a2.under T (by intro c O;rw [zMM.mp O];exact rH)
   obtain ⟨u,_,_,_,hd⟩:=hS.on v
   have D:=hd n y s ey es
   obtain ⟨rs,aa,ab⟩:=id D.rw
   have a3:=zY ab
   rw [zMJ] at a3
   have ix:=wI ey
   refine ⟨_,rfl,_,rfl,st,_,_,_,rfl,rfl,u,ix,y.1,_,rfl,g_r D.d,_,_,rfl,.inl ⟨_,.of aa,rfl⟩,_,rfl,_,rfl,st,_,_,_,rfl,rfl,u,ix,y.1,_,rfl,g_h D.d,rfl,.inr ⟨_,rfl,_,_,rfl,rfl,?_⟩⟩
   refine ⟨_,rfl,.inl ⟨rfl,_,.of N⟩,_,rfl,_,rfl,_,rfl,st,_,_,_,rfl,rfl,u,ix,y.1,_,rfl,g_a D.d,rfl,.inr ⟨_,rfl,by show 2 <= sizeLine;decide,λt ht=>?_⟩⟩
   rw [zD5 s (by rw [zMJ];exact a3)] at *
   have k5:zD [] l (upd l t (.tup (vY s))):=zD.new ht
   have e5:upd l t (.tup (vY s)) t=some (.tup (vY s)):=zC
   have h5:=k5.z N
   have tr:t ≠ g:=Ne.symm (zI N ht)
   have lp:=zY hp
   rw [zMJ,zM2] at lp
   generalize upd l t (.tup (vY s))=H5 at k5 e5 h5 ⊢
   refine ⟨g,_,_,rfl,rfl,h5,by rw [zMJ,sizeLine_eq];simp at lp;omega,?_⟩
   have k6:zD [g] H5 (upd H5 g (.lst (L.map V.ref ++ [.ref t]))):=zD.at (by simp)
   have nt:∀ c ∈ [g],∀ xs,H5 c ≠ some (.tup xs):=λc O xs z=>by rw [zMM.mp O,h5] at z;cases z
   refine ⟨_,_,L ++ [t],rfl,by rw [zC,zMV];rfl,?_,(T.trans (k5.mono (by simp))).trans k6⟩
   rw [vT en,zMV]
   have eg:(e.map vY).getD n []=vY s:=by rw [zMO,zMP,es];rfl
   refine wJ (zP k6 nt (zP k5 (λc O=>by cases O) hp)) ?_
   show _=some (HO.tup ((e.map vY).getD n []))
   rw [eg]
   exact k6 _ _ (by simp [tr]) e5
  ·rintro B l ⟨v4,J,L,rfl,N,hp,T⟩
   have v:zD [] H l:=a2.under T (by intro c O;rw [zMM.mp O];exact rH)
   match L,hp with
   | [t1,t2],.cons h1 (.cons h2 .nil)=>
    have kin:Kin ((e.map vY).getD (k + 1) []) ((e.map vY).getD b []):=by
     rw [zMO,zMO,zMP,zMP,zMK kl,zMK a6]
     exact .int (.int .nil)
    refine ⟨_,rfl,g,_,0,_,rfl,rfl,N,at0 _ _,_,rfl,g,_,1,_,rfl,rfl,N,at1 _ _ _,t1,t2,_,_,rfl,rfl,h1,h2,kin,_,rfl,?_⟩
    have ea:argBest (bt2 e) (k + 1)=if bt2 e (k + 1) b=true then k + 1 else b:=by
     show (if bt2 e (k + 1) (argBest (bt2 e) k)=true then k + 1 else argBest (bt2 e) k)=_
     rw [eb]
    show if bt2 e (k + 1) b=true then _ else _
    by_cases hb:bt2 e (k + 1) b=true
    ·rw [if_pos hb]
     rw [if_pos hb] at ea
     exact ⟨_,rfl,_,_,_,_,by rw [ea];rfl,v⟩
    ·rw [if_neg hb]
     rw [if_neg hb] at ea
     exact ⟨_,_,_,_,by rw [ea],v⟩
 ·rintro B I ⟨v2,v3,v4,J,rfl,k1⟩
  refine ⟨_,rfl,?_⟩
  rw [<- zFK ne]
  exact q I k1
def zJ3:Sp:=λc H Q _=>∃ Y st t b a k e h i s d,c=[.ref st,.ref t]/\vD Y H st b a/\uB k a/\k <= 60/\a.length <= 100/\H t=some (.tup (hdV h))/\AtR e a h i s d/\jJ Y H st b a i s d Q
theorem okDn (G:yM K mg "_law_done" sDn Nh) (a6:Cal P w K mg base CX0 1 Sv Nu aS) (a7:Cal P w K mg base CX0 1 "_law_chosen" NP zJ5) (a1:Cal P w K mg base CX0 2 SU NC aW) (a2:Cal P w K mg base CX0 1 SQ Nm zG9):Cal P w K mg base CX0 3 "_law_done" Nh zJ3:=by
 refine G.oz zDV (λf ab A aa s0 H vs Q E hr h=>?_)
 obtain ⟨Y,st,t,ys,ss,k,nb,hx,i,s,dd,rfl,hS,I,hk,J,m,a,q⟩:=h
 have a3:zZ 2 _:=hr
 have a0:zZ 1 _:=hr.mono (by decide)
 have L:=a.here
 have ok:=a.ok
 have il:i < ss.length:=(zML.mp L).1
 obtain ⟨U,_,_,ly,hd⟩:=id hS
 have D:ys[i]?=some ys[i]:=zMK (by omega)
 generalize ys[i]=y at D
 have si:=I.si s (zMN L)
 have lr:s.row.length < 900:=by have:=I.rl s (zMN L);omega
 have ne:ss ≠ []:=λe=>by rw [e] at il;simp at il
 have a4:=(hd i y s D L).d
 obtain ⟨_,a5,_⟩:=id (hd i y s D L).rw
 refine ⟨_,(zE (z4 (zT sN (zS zU (pv 1) zH (λ_ _=>rfl)) (yH (zA zJ (zA zJ zB))) (by with_unfolding_all rfl)) (zF (zL (zO a2 a0 (zA (zO a1 a3 (zA (zS z6 (pv 0) (zS zU (pv 1) zH (λ_ _=>rfl)) (λ_ _=>rfl)) (zA (yG dL (yH (zA (zS zU (pv 1) zH (λ_ _=>rfl)) (zA (zS zU (pv 1) zH (λ_ _=>rfl)) zB))) (xT pP (pv 1) (xW zH) wZ)) zB))) (zA (zS zU (pv 1) zH (λ_ _=>rfl)) zB))))) zN)
   (zE (z7 (i:=2) zDV.nd rfl (Or.inl rfl) (zO a6 a0 (zA (pv 0) (zA (zS zU (pv 1) zH (λ_ _=>rfl)) zB))))
   (zE (z4 (zT xF (zS zU (pv 1) zH (λ_ _=>rfl)) zJ (zX _)) (zE (z7 (i:=2) zDV.nd rfl (Or.inl rfl) (zS zU (pv 1) zH (λ_ _=>rfl)))
   (zF (z4 (zT uO (pv 2) yQ (zX _)) (zF (z7 (i:=2) zDV.nd rfl (Or.inl rfl) (zO a7 a0 (zA (pv 0) zB)))) zN))) zN)
   (zF (zL (zO a2 a0 (zA (zO a1 a3 (zA (zS z6 (pv 0) (pv 2) (λ_ _=>rfl)) (zA (xT pP (pv 1) wZ (xW zH)) zB))) (zA (pv 2) zB)))))))),?_⟩
 refine sq λN hN=>?_
 cases a with
 | @any z _ _ _ eb gz nz=>
  refine ⟨_,rfl,t,_,0,_,rfl,rfl,m,at0 _ _ ,by show 2 <= sizeLine;decide,λo p=>⟨o,_,rfl,.inr (.of zC),rfl,rfl,_,rfl,sC ?_⟩⟩
  have l:zD [] H (upd H o (.tup [.str NT,.str NR])):=zD.new p
  generalize upd H o (.tup [.str NT,.str NR])=H1 at l ⊢
  have g:=l.z m
  refine hN _ _ (sq λN hN=>?_)
  refine ⟨_,rfl,_,rfl,t,_,1,_,rfl,rfl,g,at1 _ _ _,Y,st,ys,ss,z,rfl,hS.on l,J,λT _ M=>?_,λi' s' T O hz _=>absurd (vC.mpr ⟨i',s',O,hz⟩) nz⟩
  have j:=l.trans M
  have n:=j.z m
  refine hN _ _ ?_
  refine ⟨_,rfl,t,_,0,_,rfl,rfl,n,at0 _ _,rfl,_,rfl,mE ⟨_,rfl,t,_,2,_,rfl,rfl,n,at2 _ _ _ _,?_⟩⟩
  refine ⟨_,rfl,rfl,_,rfl,ifT rfl ⟨_,rfl,Y,st,ys,ss,rfl,hS.on j,ne,J,λH3 k3=>?_⟩⟩
  have x:=j.trans k3
  rw [<- eb]
  refine ⟨_,rfl,_,rfl,st,_,_,_,rfl,rfl,x.z U,wI D,_,rfl,_,rfl,kY (x.z m) λu H4 k4 hu4=>?_⟩
  have B:=x.trans k4
  exact ⟨y.1,y.2,u,s,(.want z),rfl,(hd i y s D L).keep B,hu4,si,ok,lr,λr H5 D5 R5 n5 k5=>⟨_,rfl,jJ.num (E:=E) hS D q B D5 R5 n5 k5⟩⟩
 | @want z _ _ _ gz nz=>
  refine ⟨_,rfl,t,_,0,_,rfl,rfl,m,at0 _ _ ,by show 2 <= sizeLine;decide,λo p=>⟨o,_,rfl,.inr (.of zC),rfl,rfl,_,rfl,sC ?_⟩⟩
  have l:zD [] H (upd H o (.tup [.str NT,.str NR])):=zD.new p
  generalize upd H o (.tup [.str NT,.str NR])=H1 at l ⊢
  have g:=l.z m
  refine hN _ _ (sq λN hN=>?_)
  refine ⟨_,rfl,_,rfl,t,_,1,_,rfl,rfl,g,at1 _ _ _,Y,st,ys,ss,z,rfl,hS.on l,J,λT _ M=>?_,λi' s' T O hz _=>absurd (vC.mpr ⟨i',s',O,hz⟩) nz⟩
  have j:=l.trans M
  have n:=j.z m
  refine hN _ _ ?_
  refine ⟨_,rfl,t,_,0,_,rfl,rfl,n,at0 _ _,rfl,_,rfl,mE ⟨_,rfl,t,_,2,_,rfl,rfl,n,at2 _ _ _ _,?_⟩⟩
  refine ⟨_,rfl,rfl,_,rfl,ifF rfl ?_⟩
  refine ⟨_,rfl,_,rfl,st,_,_,_,rfl,rfl,j.z U,wI D,_,rfl,_,rfl,kY n λu H4 k4 hu4=>?_⟩
  have B:=j.trans k4
  exact ⟨y.1,y.2,u,s,(.want z),rfl,(hd i y s D L).keep B,hu4,si,ok,lr,λr H5 D5 R5 n5 k5=>⟨_,rfl,jJ.num (E:=E) hS D q B D5 R5 n5 k5⟩⟩
 | @leave z _ _ _ hm=>
  refine ⟨_,rfl,t,_,0,_,rfl,rfl,m,at0 _ _ ,by show 2 <= sizeLine;decide,λo p=>⟨o,_,rfl,.inr (.of zC),rfl,rfl,_,rfl,sC ?_⟩⟩
  have l:zD [] H (upd H o (.tup [.str NT,.str NR])):=zD.new p
  generalize upd H o (.tup [.str NT,.str NR])=H1 at l ⊢
  have g:=l.z m
  have zn:z ∈ wW s:=uG.mpr (.inr hm)
  refine hN _ _ (sq λN hN=>?_)
  refine ⟨_,rfl,_,rfl,t,_,1,_,rfl,rfl,g,at1 _ _ _,Y,st,ys,ss,z,rfl,hS.on l,J,λT no _=>absurd (vC.mpr ⟨i,s,L,zn⟩) no,λi' s' T O hz M=>?_⟩
  obtain rfl:=oX I.nd L O zn hz
  have j:=l.trans M
  have n:=j.z m
  refine hN _ _ ?_
  refine ⟨_,rfl,t,_,0,_,rfl,rfl,n,at0 _ _,rfl,_,rfl,sC ?_⟩
  refine ⟨_,rfl,_,rfl,st,_,_,_,rfl,rfl,j.z U,wI D,_,rfl,_,rfl,kY n λu H4 k4 hu4=>?_⟩
  have B:=j.trans k4
  exact ⟨y.1,y.2,u,s,(.leave z),rfl,(hd i y s D L).keep B,hu4,si,ok,lr,λr H5 D5 R5 n5 k5=>⟨_,rfl,jJ.num (E:=E) hS D q B D5 R5 n5 k5⟩⟩
 | @done z _ _ _ hm=>
  refine ⟨_,rfl,t,_,0,_,rfl,rfl,m,at0 _ _ ,by show 2 <= sizeLine;decide,λo p=>⟨o,_,rfl,.inr (.of zC),rfl,rfl,_,rfl,sC ?_⟩⟩
  have l:zD [] H (upd H o (.tup [.str NT,.str NR])):=zD.new p
  generalize upd H o (.tup [.str NT,.str NR])=H1 at l ⊢
  have g:=l.z m
  have zn:z ∈ wW s:=uG.mpr (.inl hm)
  refine hN _ _ (sq λN hN=>?_)
  refine ⟨_,rfl,_,rfl,t,_,1,_,rfl,rfl,g,at1 _ _ _,Y,st,ys,ss,z,rfl,hS.on l,J,λT no _=>absurd (vC.mpr ⟨i,s,L,zn⟩) no,λi' s' T O hz M=>?_⟩
  obtain rfl:=oX I.nd L O zn hz
  have j:=l.trans M
  have n:=j.z m
  refine hN _ _ ?_
  refine ⟨_,rfl,t,_,0,_,rfl,rfl,n,at0 _ _,rfl,_,rfl,sC ?_⟩
  refine ⟨_,rfl,_,rfl,st,_,_,_,rfl,rfl,j.z U,wI D,_,rfl,_,rfl,kY n λu H4 k4 hu4=>?_⟩
  have B:=j.trans k4
  exact ⟨y.1,y.2,u,s,(.done z),rfl,(hd i y s D L).keep B,hu4,si,ok,lr,λr H5 D5 R5 n5 k5=>⟨_,rfl,jJ.num (E:=E) hS D q B D5 R5 n5 k5⟩⟩
 | @ask z _ _ _ zn gz n1 n2=>
  have m:H t=some (.tup [.str NT,.str z,.int (i:Int)]):=m
  refine ⟨_,rfl,t,_,0,_,rfl,rfl,m,at0 _ _ ,by show 2 <= sizeLine;decide,λo p=>⟨o,_,rfl,.inr (.of zC),rfl,rfl,_,rfl,mE ?_⟩⟩
  have l:zD [] H (upd H o (.tup [.str NT,.str NR])):=zD.new p
  generalize upd H o (.tup [.str NT,.str NR])=H1 at l ⊢
  have g:=l.z m
  refine ⟨_,rfl,_,rfl,t,_,2,_,rfl,rfl,g,at2 _ _ _ _,st,_,_,_,rfl,rfl,l.z U,wI D,_,rfl,t,_,0,_,rfl,rfl,g,at0 _ _,_,rfl,t,_,1,_,rfl,rfl,g,at1 _ _ _,by show 2 <= sizeLine;decide,λu hu=>?_⟩
  have M:zD [] H1 (upd H1 u (.tup [.str NT,.str z])):=zD.new hu
  have e2:upd H1 u (.tup [.str NT,.str z]) u=some (.tup [.str NT,.str z]):=zC
  generalize upd H1 u (.tup [.str NT,.str z])=T at M e2 ⊢
  refine ⟨_,rfl,_,rfl,t,_,rfl,.of (M.z g),.inr ⟨jN,λv hv=>?_⟩⟩
  rw [lB]
  have k3:zD [] T (upd T v (.tup [])):=zD.new hv
  refine ⟨u,v,_,_,rfl,rfl,.of (k3.z e2),.of zC,by simp,by show 2 + 0 <= sizeLine;decide,λ_=>?_,λc=>absurd rfl c⟩
  have x:=(l.trans M).trans k3
  exact ⟨y.1,y.2,u,s,.ask z,rfl,(hd i y s D L).keep x,k3.z e2,si,ok,lr,λr H5 D5 R5 n5 k5=>⟨_,rfl,t,_,2,_,rfl,rfl,k5 _ _ (by simp [wL m a4 (by intro z;cases z),wL m a5 (by intro z;cases z)]) (x.z m),at2 _ _ _ _,jJ.num (E:=E) hS D q x D5 R5 n5 k5⟩⟩
 | @come z _ _ b zn hp=>
  have m:H t=some (.tup [.str NR,.str z,.int (i:Int),.bl b]):=m
  refine ⟨_,rfl,t,_,0,_,rfl,rfl,m,at0 _ _ ,by show 2 <= sizeLine;decide,λo p=>⟨o,_,rfl,.inr (.of zC),rfl,rfl,_,rfl,mE ?_⟩⟩
  have l:zD [] H (upd H o (.tup [.str NT,.str NR])):=zD.new p
  generalize upd H o (.tup [.str NT,.str NR])=H1 at l ⊢
  have g:=l.z m
  refine ⟨_,rfl,_,rfl,t,_,2,_,rfl,rfl,g,at2 _ _ _ _,st,_,_,_,rfl,rfl,l.z U,wI D,_,rfl,t,_,0,_,rfl,rfl,g,at0 _ _,_,rfl,t,_,1,_,rfl,rfl,g,at1 _ _ _,by show 2 <= sizeLine;decide,λu hu=>?_⟩
  have M:zD [] H1 (upd H1 u (.tup [.str NR,.str z])):=zD.new hu
  have e2:upd H1 u (.tup [.str NR,.str z]) u=some (.tup [.str NR,.str z]):=zC
  generalize upd H1 u (.tup [.str NR,.str z])=T at M e2 ⊢
  refine ⟨_,rfl,_,rfl,t,_,rfl,.of (M.z g),.inr ⟨jN,λv hv=>?_⟩⟩
  rw [lB]
  have k3:zD [] T (upd T v (.tup [.bl b])):=zD.new hv
  refine ⟨u,v,_,_,rfl,rfl,.of (k3.z e2),.of zC,by simp,by show 2 + 1 <= sizeLine;decide,λc=>(by cases c),λ_ w hw=>?_⟩
  have x:zD [] H (upd (upd T v (.tup [.bl b])) w (.tup [.str NR,.str z,.bl b])):=((l.trans M).trans k3).trans (zD.new hw)
  exact ⟨y.1,y.2,w,s,.come z b,rfl,(hd i y s D L).keep x,zC,si,ok,lr,λr H5 D5 R5 n5 k5=>⟨_,rfl,t,_,2,_,rfl,rfl,k5 _ _ (by simp [wL m a4 (by intro z;cases z),wL m a5 (by intro z;cases z)]) (x.z m),at2 _ _ _ _,jJ.num (E:=E) hS D q x D5 R5 n5 k5⟩⟩
theorem sno {a:St} {t u:TS} (b:a[i]?=some (some (.ref q))) (c:H q=some (.tup (.str d :: r))) (k:u D a H) (ne:decide (V.str d=V.str e)=false:=by decide +kernel):oC (zDH (jO (tOp rEq (tOp iA (u5 i) (tC (.int 0))) (tC (.str e)))) t eE) u D a H:=⟨_,b,q,_,0,_,rfl,rfl,c,at0 _ _,rfl,_,rfl,ifF ne k⟩
theorem qJ {a:St} {t u:TS} (b:a[i]?=some (some (.ref q))) (c:H q=some (.tup (.str d :: r))) (k:t { D with nx:=u D } a H) (ne:decide (V.str d=V.str e)=true:=by decide +kernel):oC (zDH (jO (tOp rEq (tOp iA (u5 i) (tC (.int 0))) (tC (.str e)))) t eE) u D a H:=⟨_,b,q,_,0,_,rfl,rfl,c,at0 _ _,rfl,_,rfl,ifT ne k⟩
def zJT (C CS:Addr):Sp:=λf H Q _=>∃ B p t c b e a k h i s d,f=[.ref p,.ref t]/\yC B C CS H p c b e a/\uB k a/\k <= 60/\a.length <= 100/\H t=some (.tup (hdV h))/\AtR b a h i s d/\qG B C CS H p c b e a i s d Q
theorem okPu (T:y4 K C) (G:yM K mg Sz sPu N7) (y:yD P w K mg base CX0 4 C Sa Ng (zJW C CS)) (D:yD P w K mg base CX0 5 C NW N1 (zJX C CS)) (J:yD P w K mg base CX0 5 C NY N1 (zJZ C CS)) (L:yD P w K mg base CX0 4 C NT N6 (zJY C CS)) (M:yD P w K mg base CX0 4 C NR Nb (zJ0 C CS)):Cal P w K mg base CX0 6 Sz N7 (zJT C CS):=by
 refine G.oz zKH (λf Y A N s0 H vs Q E O h=>?_)
 obtain ⟨B,p,t,j,l,m,n,k,hx,i,s,dd,rfl,e,I,o,d,c,a,q⟩:=h
 have x:zZ 5 _:=O
 have g:zZ 4 _:=O.mono (by decide)
 obtain ⟨r,nl,sl,_,u,_⟩:=id e
 refine ⟨_,(zE (z4 (zT xF (zS zU (pv 1) zH (λ_ _=>rfl)) zJ (zX _)) (zF (zL (xV y T.cl g (pv 0) (zA (zS zU (pv 1) zH (λ_ _=>rfl)) (zA (zS zU (pv 1) zH (λ_ _=>rfl)) zB))))) zN)
   (zE (z4 (zT xF (zS zU (pv 1) zH (λ_ _=>rfl)) zJ (zX _)) (zF (zL (xV D T.cl x (pv 0) (zA (zS zU (pv 1) zH (λ_ _=>rfl)) zB)))) zN)
   (zE (z4 (zT xF (zS zU (pv 1) zH (λ_ _=>rfl)) zJ (zX _)) (zF (zL (xV J T.cl x (pv 0) (zA (zS zU (pv 1) zH (λ_ _=>rfl)) zB)))) zN)
   (zE (z4 (zT xF (zS zU (pv 1) zH (λ_ _=>rfl)) zJ (zX _)) (zF (zL (xV L T.cl g (pv 0) (zA (zS zU (pv 1) zH (λ_ _=>rfl)) (zA (zS zU (pv 1) zH (λ_ _=>rfl)) zB))))) zN)
   (zF (zL (xV M T.cl g (pv 0) (zA (zS zU (pv 1) zH (λ_ _=>rfl)) (zA (zS zU (pv 1) zH (λ_ _=>rfl)) (zA (zS zU (pv 1) zH (λ_ _=>rfl)) zB)))))))))),?_⟩
 have v:=a
 cases a with
 | @any z _ _ _ eb U nz=>
  refine qJ rfl c ?_
  exact ⟨_,rfl,p,r,_,rfl,u,zGL _ _ _,_,rfl,t,_,1,_,rfl,rfl,c,at1 _ _ _,_,rfl,t,_,2,_,rfl,rfl,c,at2 _ _ _ _,B,p,j,l,m,n,k,z,none,i,s,rfl,e,I,o,d,v,q⟩
 | @want z _ _ _ U nz=>
  refine qJ rfl c ?_
  exact ⟨_,rfl,p,r,_,rfl,u,zGL _ _ _,_,rfl,t,_,1,_,rfl,rfl,c,at1 _ _ _,_,rfl,t,_,2,_,rfl,rfl,c,at2 _ _ _ _,B,p,j,l,m,n,k,z,some i,i,s,rfl,e,I,o,d,v,q⟩
 | @leave z _ _ _ hm=>
  refine sno rfl c ?_
  refine qJ rfl c ?_
  exact ⟨_,rfl,p,r,_,rfl,u,zLR _ _ _,_,rfl,t,_,1,_,rfl,rfl,c,at1 _ _ _,B,p,j,l,m,n,k,z,i,s,rfl,e,I,o,d,v,q⟩
 | @done z _ _ _ hm=>
  refine sno rfl c ?_
  refine sno rfl c ?_
  refine qJ rfl c ?_
  exact ⟨_,rfl,p,r,_,rfl,u,zLU _ _ _,_,rfl,t,_,1,_,rfl,rfl,c,at1 _ _ _,B,p,j,l,m,n,k,z,i,s,rfl,e,I,o,d,v,q⟩
 | @ask z _ _ _ zn U n1 n2=>
  refine sno rfl c ?_
  refine sno rfl c ?_
  refine sno rfl c ?_
  refine qJ rfl c ?_
  exact ⟨_,rfl,p,r,_,rfl,u,zLY _ _ _,_,rfl,t,_,1,_,rfl,rfl,c,at1 _ _ _,_,rfl,t,_,2,_,rfl,rfl,c,at2 _ _ _ _,B,p,j,l,m,n,k,z,i,s,rfl,e,I,o,d,v,q⟩
 | @come z _ _ b zn hq=>
  refine sno rfl c ?_
  refine sno rfl c ?_
  refine sno rfl c ?_
  refine sno rfl c ?_
  exact ⟨_,rfl,p,r,_,rfl,u,zLV _ _ _,_,rfl,t,_,1,_,rfl,rfl,c,at1 _ _ _,_,rfl,t,_,2,_,rfl,rfl,c,at2 _ _ _ _,_,rfl,t,_,3,_,rfl,rfl,c,at3 _ _ _ _ _,B,p,j,l,m,n,k,z,b,i,s,rfl,e,I,o,d,v,q⟩
end
abbrev sGd:Stmt:=top 50
def sZ (a:List Str) (ss:List SS) (ds:List HD):Prop:=∀ d ∈ ds,∃ i s e,AtR a ss d i s e
theorem sZ.app (h:sZ a ss ds) (h':sZ a ss b):sZ a ss (ds ++ b):=λd hd=>(zM0.mp hd).elim (h d) (h' d)
theorem sZ.one (h:AtR a ss d i s e):sZ a ss [d]:=λx b=>by rw [zMM.mp b];exact ⟨i,s,e,h⟩
theorem zAX {ps:List Addr} (e:H d=some (.lst (ps.map V.ref ++ [.ref t]))) (r:Paired (λq r=>H q=some (.tup r)) ps rows) (h:H t=some (.tup x)):Rows H d (rows ++ [x]):=⟨ps ++ [t],by rw [e,zMV];rfl,wJ r h⟩
theorem nG {ds:List HD} (d:HD) {ps:List Addr} (k1:zD [] H H1) (a:H dl=none) (e:H1 dl=some (.lst (ps.map V.ref))) (r:Paired (λq r=>H1 q=some (.tup r)) ps (ds.map hdV)) (f:H1 t=none) :
  Rows (upd (upd H1 t (.tup (hdV d))) dl (.lst (ps.map V.ref ++ [.ref t]))) dl ((ds ++ [d]).map hdV)/\zD [] H (upd (upd H1 t (.tup (hdV d))) dl (.lst (ps.map V.ref ++ [.ref t]))):=by
 have h:dl ≠ t:=zI e f
 have g:zD [dl] H1 (upd (upd H1 t (.tup (hdV d))) dl (.lst (ps.map V.ref ++ [.ref t]))):=(zD.new f).trans (zD.at (by simp))
 refine ⟨?_,k1.under g (by intro b c;rw [zMM.mp c];exact a)⟩
 rw [zMV]
 refine zAX zC (zP g (λb c i z=>?_) r) (by rw [zK (Ne.symm h),zC])
 rw [zMM.mp c,e] at z;cases z
noncomputable def r8 (n:Nat):List (Option Nat):=none :: (List.range n).map some
theorem zHX (n:Nat):[V.non] ++ sU n=(r8 n).map rV:=by
 unfold r8 sU
 rw [List.map_cons,zM3];rfl
theorem rZ (n:Nat):(r8 n).length=n + 1:=by unfold r8;simp
section
variable {P:Program} {w:World} {K:W.Frag} {mg:Str->Option Value} {base:Heap} {C:Addr}
theorem jZ:zM Nj Nk (zG sGd):=scm
def zJ1:Sp:=λf H Q _=>∃ Y st e nl g a k as b,f=[.ref st,.ref e,.ref nl]/\vD Y H st g a/\uB k a/\a ≠ []/\a.length <= 10/\H e=some (.lst (as.map V.str))/\H nl=some (.lst (b.map V.str))/\(∀ z ∈ as,yT z)/\(∀ z ∈ b,yT z)/\as.length <= 20/\b.length <= 20 /\
 ∀ r c d,Rows d r (c.map hdV)->sZ b a c->c.length <= 1000->(as ≠ []->c ≠ [])->H r=none->zD [] H d->Q (.ref r) d
theorem okGd (G:yM K mg SJ sGd Nk) (b0:Cal P w K mg base CX0 1 Sv Nu aS) (a0:Blt mg S8) (v:Blt mg Su) (a5:Blt mg "list"):Cal P w K mg base CX0 2 SJ Nk zJ1:=by
 refine G.oz jZ (λf bh A b1 s0 H vs Q E hr h=>?_)
 obtain ⟨Y,st,al,nl,ys,l,k,as,nb,rfl,hS,I,ne,bi,ac,ae,b2,b3,bj,bk,q⟩:=h
 have b4:zZ 1 _:=hr
 have hu:=vS hr
 refine ⟨_,(zE (z7 (i:=3) jZ.nd rfl (Or.inl rfl) (yL zB))
   (zE (vM PassesOwn.never rfl (y6 (pv 1)) (yI (i:=4) jZ.nd rfl (Or.inr rfl)) (zE (z7 (i:=5) jZ.nd rfl (Or.inl rfl) (zO b0 b4 (zA (pv 0) (zA (pv 4) zB))))
   (zF (z4 (zT uO (pv 5) yQ (zX _)) (zF (z7 (i:=3) jZ.nd rfl (Or.inl rfl) (yG wO (pv 3) (wV (N:=Nj) (sc:=zG sGd) (ix:=[4]) (by decide +kernel) (y6 (yG wO (yL (zA yQ zB)) (xE (nM rfl) rfl a5.no vR (zA (xE pK rfl v.no hU (zA (zV yA a0 yP (zA (pv 0) zB)) zB)) zB)))) (λ_ _ _ _=>xG) (λ_ _ _ _=>(yH (zA zJ (zA (pv 1) (zA (pv 0) zB))))))))) (zF (z4 (zT xF (yV hu (zS z6 (pv 0) (pv 5) (λ_ _=>rfl)) zJ (λ_ _=>rfl)) (pv 4) (zX _)) (zF (yB (uD F.plainAttrs_list F.slot_list_append F.type_list_append xQ (pv 3) (zA (yH (zA zJ (zA (pv 4) zB))) zB)))) (zF (yB (uD F.plainAttrs_list F.slot_list_append F.type_list_append xQ (pv 3) (zA (yH (zA zJ (zA (pv 4) zB))) zB))))))))))
   (zE (vM PassesOwn.never rfl (vJ rfl v.no (zA (zV yA a0 yP (zA (pv 0) zB)) zB)) (yI (i:=5) jZ.nd rfl (Or.inl rfl)) (zF (vM PassesOwn.never rfl (y6 (pv 2)) (yI (i:=6) jZ.nd rfl (Or.inl rfl)) (zF (z4 (zT xF (yV hu (zS z6 (pv 0) (pv 5) (λ_ _=>rfl)) zJ (λ_ _=>rfl)) (pv 6) (zX _)) (zF (z7 (i:=3) jZ.nd rfl (Or.inl rfl) (yG wO (pv 3) (yL (zA (yH (zA zJ (zA (pv 6) (zA (pv 5) (zA wS zB))))) (zA (yH (zA zJ (zA (pv 6) (zA (pv 5) (zA wS zB))))) zB)))))) (zF (z4 (zT (sM hu) (yH (zA zJ (zA (pv 6) zB))) (yV hu (zS z6 (pv 0) (pv 5) (λ_ _=>rfl)) zJ (λ_ _=>rfl)) (by with_unfolding_all rfl)) (zF (yB (uD F.plainAttrs_list F.slot_list_append F.type_list_append xQ (pv 3) (zA (yH (zA zJ (zA (pv 6) (zA (pv 5) zB)))) zB)))) zN)))))))
   (zF (zL (pv 3)))))),?_⟩
 obtain ⟨af,_,_,ly,_⟩:=id hS
 have yl:(ys.map λy=>V.ref y.1).length=l.length:=by rw [zMJ,ly]
 refine ⟨zMT _,λd0 ag=>?_⟩
 have k0:zD [] H (upd H d0 (.lst [])):=zD.new ag
 have e0:upd H d0 (.lst []) d0=some (.lst []):=zC
 generalize upd H d0 (.lst [])=H0 at k0 e0 ⊢
 obtain ⟨M,hM⟩:∃ M:Nat->St->Hp->Prop,∀ j J H1,M j J H1 ↔ ∃ dl c v4 v5 v6,J=[some (.ref st),some (.ref al),some (.ref nl),some (.ref dl),v4,v5,v6]/\Rows H1 dl (c.map hdV)/\sZ nb l c/\c.length <= 11 * j/\(0 < j->c ≠ [])/\H dl=none/\zD [] H H1:=⟨_,λ_ _ _=>Iff.rfl⟩
 refine ⟨_,rfl,al,rfl,⟨_,.of (k0.z ac)⟩,vQ (K:=K) (a:=al) (xs:=as.map V.str) M ((hM _ _ _).mpr ⟨d0,[],_,_,_,rfl,⟨[],e0,.nil⟩,(λd hd=>by cases hd),zMT _,(λh=>absurd h (Nat.lt_irrefl 0)),ag,k0⟩) ?_ ?_ ?_⟩
 ·intro j J H1 _ L
  obtain ⟨dl,c,v4,v5,v6,rfl,_,_,_,_,_,k1⟩:=(hM _ _ _).mp L
  exact .of (k1.z ac)
 ·intro j x J H1 hx L
  obtain ⟨dl,c,v4,v5,v6,rfl,R1,O,ld,_,g,k1⟩:=(hM _ _ _).mp L
  obtain ⟨z,ez,rfl⟩:=gm hx
  have jl:j < as.length:=(zML.mp ez).1
  have gz:=b2 z (zMN ez)
  refine ⟨_,rfl,_,rfl,Y,st,ys,l,z,rfl,hS.on k1,by omega,λH2 nz k2=>?_,λi s H2 es hz k2=>?_⟩
  ·have T:=k1.trans k2
   have a1:=T.z af
   refine ⟨_,rfl,rfl,_,rfl,ifT rfl ?_⟩
   refine ⟨_,rfl,by show 1 <= sizeLine;decide,λl1 ba=>?_⟩
   have k3:zD [] H2 (upd H2 l1 (.lst [.non])):=zD.new ba
   have e3:upd H2 l1 (.lst [.non]) l1=some (.lst [.non]):=zC
   generalize upd H2 l1 (.lst [.non])=u at k3 e3 ⊢
   refine ⟨_,rfl,_,_,rfl,.inl ⟨_,.of (k3.z a1),rfl⟩,_,rfl,λrp bb=>?_⟩
   rw [yl]
   have k4:zD [] u (upd u rp (pM rp l.length)):=zD.new bb
   refine ⟨rp,_,rfl,zC,by omega,λl2 a2=>?_⟩
   have k5:zD [] (upd u rp (pM rp l.length)) (upd (upd u rp (pM rp l.length)) l2 (.lst (sU l.length))):=zD.new a2
   refine ⟨l1,l2,_,_,rfl,rfl,(k4.trans k5).z e3,zC,by rw [List.length_singleton,sizeLine_eq];unfold sU;rw [zMJ,List.length_range];omega,λl3 bc=>?_⟩
   rw [zHX]
   have ah:zD [] H2 (upd (upd (upd u rp (pM rp l.length)) l2 (.lst (sU l.length))) l3 (.lst ((r8 l.length).map rV))):=((k3.trans k4).trans k5).trans (zD.new bc)
   have e6:upd (upd (upd u rp (pM rp l.length)) l2 (.lst (sU l.length))) l3 (.lst ((r8 l.length).map rV)) l3=some (.lst ((r8 l.length).map rV)):=zC
   generalize upd (upd (upd u rp (pM rp l.length)) l2 (.lst (sU l.length))) l3 (.lst ((r8 l.length).map rV))=H6 at ah e6 ⊢
   refine ⟨l3,rfl,⟨_,.of e6⟩,λacc a6=>?_⟩
   have la:l3 ≠ acc:=zI e6 a6
   refine uQ (K:=K) (a:=l3) (its:=(r8 l.length).map rV) (by rw [zMJ,rZ,sizeLine_eq];omega) (λi ws τ U=>∃ kk qs,τ=[kk,some (.str z)]/\ws=qs.map V.ref/\i <= (r8 l.length).length/\Paired (λq r=>U q=some (.tup r)) qs (((r8 l.length).take i).map λr=>hdV (.want z r))/\zD [acc] H6 U/\U acc=some (.lst ws)) ⟨_,[],rfl,rfl,zMT _,.nil,zD.at (by simp),zC⟩ ?_ ?_ ?_
   ·rintro i ws τ U ⟨kk,qs,rfl,rfl,il,hq,k7,h7⟩
    have lq:=zY hq
    rw [zMJ,zM2] at lq
    exact ⟨h7,by rw [zMJ];omega,.of (k7 _ _ (by simp [la]) e6)⟩
   ·rintro i ws τ U x hx ⟨kk,qs,rfl,rfl,il,hq,k7,h7⟩
    rw [zMP] at hx
    cases eo:(r8 l.length)[i]? with
    | none=>rw [eo] at hx;cases hx
    | some o=>
    rw [eo] at hx
    have ex:rV o=x:=zMQ hx
    subst ex
    refine ⟨_,rfl,_,rfl,by show 3 <= sizeLine;decide,λt ht=>?_⟩
    have k8:zD [] U (upd U t (.tup (hdV (.want z o)))):=zD.new ht
    have e8:upd U t (.tup (hdV (.want z o))) t=some (.tup (hdV (.want z o))):=zC
    have h8:=k8.z h7
    have ta:t ≠ acc:=Ne.symm (zI h7 ht)
    have k9:zD [acc] (upd U t (.tup (hdV (.want z o)))) (upd (upd U t (.tup (hdV (.want z o)))) acc (.lst (qs.map V.ref ++ [.ref t]))):=zD.at (by simp)
    have nt:∀ b ∈ [acc],∀ xs,upd U t (.tup (hdV (.want z o))) b ≠ some (.tup xs):=λb hb xs z=>by rw [zMM.mp hb,h8] at z;cases z
    refine ⟨h8,_,qs ++ [t],rfl,by simp,(zML.mp eo).1,?_,(k7.trans (k8.mono (by simp))).trans k9,zC⟩
    rw [vT eo,zMV]
    exact wJ (zP k9 nt (zP k8 (λb hb=>by cases hb) hq)) (k9 _ _ (by simp [ta]) e8)
   ·rintro ws τ U ⟨kk,qs,rfl,rfl,_,hq,k7,h7⟩
    rw [zMJ,zNJ] at hq
    have bd:=k7.drop a6
    have aa:=ah.trans bd
    obtain ⟨ps,m,p⟩:=R1.keep (k2.trans aa)
    have lp:=zY p
    have lq:=zY hq
    rw [zMJ] at lp
    rw [zMJ,rZ] at lq
    refine ⟨dl,acc,_,_,rfl,rfl,m,h7,by rw [zMJ,zMJ,sizeLine_eq];omega,λd4 ai=>?_⟩
    have k9:zD [] U (upd U d4 (.lst (ps.map V.ref ++ qs.map V.ref))):=zD.new ai
    have be:=(T.trans aa).trans k9
    refine (hM _ _ _).mpr ⟨d4,c ++ (r8 l.length).map (HD.want z),_,_,_,rfl,⟨ps ++ qs,by rw [zC,zMV],?_⟩,O.app λd hd=>?_,by rw [zM1,zMJ,rZ];omega,λ_ e=>?_,(T.trans aa).none (by simp) ai,be⟩
    ·rw [zMV,zM3]
     exact uN (zP k9 (λb hb=>by cases hb) p) (zP k9 (λb hb=>by cases hb) hq)
    ·obtain ⟨o,ho,rfl⟩:=List.mem_map.mp hd
     unfold r8 at ho
     rcases List.mem_cons.mp ho with rfl | ho
     ·exact ⟨_,_,_,.any (zMK (hX ne)) rfl gz nz⟩
     ·obtain ⟨n,hn,rfl⟩:=List.mem_map.mp ho
      exact ⟨_,_,_,.want (zMK (List.mem_range.mp hn)) gz nz⟩
    ·have:=congrArg List.length e
     rw [zM1,zMJ,rZ] at this
     simp at this
  ·have T:=k1.trans k2
   have il:i < l.length:=(zML.mp es).1
   have ey:ys[i]?=some ys[i]:=zMK (by omega)
   generalize ys[i]=y at ey
   obtain ⟨a1,_,_,_,hd⟩:=hS.on T
   have D:=hd i y s ey es
   obtain ⟨ps,m,p⟩:=R1.keep k2
   have lp:=zY p
   rw [zMJ] at lp
   refine ⟨_,rfl,rfl,_,rfl,ifF rfl ?_⟩
   refine ⟨_,rfl,_,rfl,st,_,_,_,rfl,rfl,a1,wI ey,y.1,_,rfl,g_h D.d,_,rfl,qP _ _,_,rfl,?_⟩
   rw [pJ]
   by_cases h1:s.hold=some z
   ·rw [zMY h1]
    refine ifT rfl ?_
    refine ⟨_,rfl,.inl ⟨rfl,_,.of m⟩,_,rfl,by show 2 <= sizeLine;decide,λt ht=>⟨dl,_,_,rfl,rfl,(zD.new (S:=[]) ht).z m,by rw [zMJ,sizeLine_eq];omega,?_⟩⟩
    obtain ⟨R',k'⟩:=nG (.done z) T g m p ht
    exact (hM _ _ _).mpr ⟨dl,c ++ [HD.done z],_,_,_,rfl,R',O.app (.one (.done es h1)),by simp;omega,λ_ e=>by simp at e,g,k'⟩
   ·rw [zMZ h1]
    refine ifF rfl ?_
    have h2:askR z ∈ s.row:=(uG.mp hz).elim (λe=>absurd e h1) id
    refine ⟨_,rfl,.inl ⟨rfl,_,.of m⟩,_,rfl,by show 2 <= sizeLine;decide,λt ht=>⟨dl,_,_,rfl,rfl,(zD.new (S:=[]) ht).z m,by rw [zMJ,sizeLine_eq];omega,?_⟩⟩
    obtain ⟨R',k'⟩:=nG (.leave z) T g m p ht
    exact (hM _ _ _).mpr ⟨dl,c ++ [HD.leave z],_,_,_,rfl,R',O.app (.one (.leave es h2)),by simp;omega,λ_ e=>by simp at e,g,k'⟩
 ·intro J H1 L
  obtain ⟨dl,c,v4,v5,v6,rfl,R1,O,ld,nd,g,k1⟩:=(hM _ _ _).mp L
  clear hM
  rw [zMJ] at ld nd
  have bf:as ≠ []->c ≠ []:=λh=>nd (zM9.mpr h)
  have aj:=k1.z af
  refine ⟨_,rfl,_,_,rfl,.inl ⟨_,.of aj,rfl⟩,_,rfl,by omega,by rw [yl];omega,?_⟩
  rw [yl,Int.toNat_natCast]
  obtain ⟨M,hM⟩:∃ M:Nat->St->Hp->Prop,∀ i J H2,M i J H2 ↔ ∃ dl c v4 v5 v6,J=[some (.ref st),some (.ref al),some (.ref nl),some (.ref dl),v4,v5,v6]/\Rows H2 dl (c.map hdV)/\sZ nb l c/\c.length <= 220 + 40 * i/\(as ≠ []->c ≠ [])/\H dl=none/\zD [] H H2:=⟨_,λ_ _ _=>Iff.rfl⟩
  refine tG M ((hM _ _ _).mpr ⟨dl,c,_,_,_,rfl,R1,O,by omega,bf,g,k1⟩) ?_ ?_
  ·intro i J H2 il L
   obtain ⟨dl,c,v4,v5,v6,rfl,R2,O,ld,nd,g,k2⟩:=(hM _ _ _).mp L
   have es:l[i]?=some l[i]:=zMK il
   generalize l[i]=s at es
   have ey:ys[i]?=some ys[i]:=zMK (by omega)
   generalize ys[i]=y at ey
   rw [show (0:Int) + (i:Int)=(i:Int) from Int.zero_add _]
   obtain ⟨N,hN⟩:∃ M:Nat->St->Hp->Prop,∀ j J u,M j J u ↔ ∃ dl c v4 v6,J=[some (.ref st),some (.ref al),some (.ref nl),some (.ref dl),v4,some (.int (i:Int)),v6]/\Rows u dl (c.map hdV)/\sZ nb l c/\c.length <= 220 + 40 * i + 2 * j/\(as ≠ []->c ≠ [])/\H dl=none/\zD [] H u:=⟨_,λ_ _ _=>Iff.rfl⟩
   refine ⟨_,rfl,nl,rfl,⟨_,.of (k2.z ae)⟩,vQ (K:=K) (a:=nl) (xs:=nb.map V.str) N ((hN _ _ _).mpr ⟨dl,c,_,_,rfl,R2,O,by omega,nd,g,k2⟩) ?_ ?_ ?_⟩
   ·intro j J u _ L
    obtain ⟨dl,c,v4,v6,rfl,_,_,_,_,_,k3⟩:=(hN _ _ _).mp L
    exact .of (k3.z ae)
   ·intro j x J u hx L
    obtain ⟨dl,c,v4,v6,rfl,R3,O,ld,nd,g,k3⟩:=(hN _ _ _).mp L
    obtain ⟨z,ez,rfl⟩:=gm hx
    have zn:=zMN ez
    obtain ⟨a7,_,_,_,hd⟩:=hS.on k3
    have D:=hd i y s ey es
    obtain ⟨ps,m,p⟩:=id R3
    have lp:=zY p
    rw [zMJ] at lp
    have jl:j < nb.length:=(zML.mp ez).1
    refine ⟨_,rfl,_,rfl,st,_,_,_,rfl,rfl,a7,wI ey,y.1,_,rfl,g_a D.d,_,rfl,qP _ _,_,rfl,?_⟩
    rw [pJ]
    by_cases h1:s.ptr=some z
    ·rw [zMY h1]
     refine ifT rfl ⟨_,rfl,_,rfl,_,rfl,by show 4 <= sizeLine;decide,λt1 ak=>⟨_,rfl,_,rfl,by show 4 <= sizeLine;decide,λt2 a3=>⟨by show 2 <= sizeLine;decide,λl2 a2=>⟨dl,l2,_,_,rfl,rfl,(((zD.new (S:=[]) ak).trans (zD.new a3)).trans (zD.new a2)).z m,zC,by rw [zMJ,sizeLine_eq];show _ + 2 <= _;omega,λd5 an=>?_⟩⟩⟩⟩
     obtain ⟨_,bg⟩:=zW a3
     obtain ⟨ao,aq⟩:=zW a2
     obtain ⟨_,ar⟩:=zW ao
     obtain ⟨au,bn⟩:=zW an
     obtain ⟨av,aw⟩:=zW au
     obtain ⟨ax,ay⟩:=zW av
     have az:zD [] u (upd (upd (upd (upd u t1 (.tup (hdV (.come z i true)))) t2 (.tup (hdV (.come z i false)))) l2 (.lst [.ref t1,.ref t2])) d5 (.lst (ps.map V.ref ++ [.ref t1,.ref t2]))):=(((zD.new ak).trans (zD.new a3)).trans (zD.new a2)).trans (zD.new an)
     refine (hN _ _ _).mpr ⟨d5,c ++ [.come z i true,.come z i false],_,_,rfl,⟨ps ++ [t1,t2],by rw [zC,zMV];rfl,?_⟩,O.app λd hd=>?_,by simp;omega,λh e=>nd h (List.append_eq_nil_iff.mp e).1,k3.none (by simp) ax,k3.trans az⟩
     ·rw [zMV]
      refine uN (zP az (λb hb=>by cases hb) p) (.cons ?_ (.cons ?_ .nil))
      ·show upd _ _ _ t1=_
       rw [zK (Ne.symm ay),zK (Ne.symm ar),zK (Ne.symm bg),zC];rfl
      ·show upd _ _ _ t2=_
       rw [zK (Ne.symm aw),zK (Ne.symm aq),zC];rfl
     ·simp only [List.mem_cons,zND,or_false] at hd
      rcases hd with rfl | rfl
      ·exact ⟨i,s,_,.come es zn h1⟩
      ·exact ⟨i,s,_,.come es zn h1⟩
    ·rw [zMZ h1]
     refine ifF rfl ⟨_,rfl,by show 2 <= sizeLine;decide,λt2 a3=>?_⟩
     have k4:zD [] u (upd u t2 (.tup [.str NV,.str z])):=zD.new a3
     have D4:=D.keep k4
     have B:=k4.z m
     have a4:=zP k4 (λb hb=>by cases hb) p
     refine ⟨_,rfl,_,rfl,st,_,_,_,rfl,rfl,k4.z a7,wI ey,y.1,_,rfl,g_r D4.d,mY (x:=hsR z) D4.rw zC ⟨_,rfl,?_⟩⟩
     have ab:=k3.trans k4
     generalize upd u t2 (.tup [.str NV,.str z])=H4 at k4 ab B a4 ⊢
     by_cases h2:hsR z ∈ s.row
     ·rw [zMY h2]
      exact ifF rfl <| (hN _ _ _).mpr ⟨dl,c,_,_,rfl,⟨ps,B,a4⟩,O,by omega,nd,g,ab⟩
     ·rw [zMZ h2]
      refine ifT rfl ?_
      refine ⟨_,rfl,.inl ⟨rfl,_,.of B⟩,_,rfl,_,rfl,by show 3 <= sizeLine;decide,λt ht=>⟨dl,_,_,rfl,rfl,(zD.new (S:=[]) ht).z B,by rw [zMJ,sizeLine_eq];omega,?_⟩⟩
      obtain ⟨R',k'⟩:=nG (.ask z i) ab g B a4 ht
      exact (hN _ _ _).mpr ⟨dl,c ++ [HD.ask z i],_,_,rfl,R',O.app (.one (.ask es zn (b3 z zn) h1 h2)),by simp;omega,λh e=>by simp at e,g,k'⟩
   ·intro J u L
    obtain ⟨dl,c,v4,v6,rfl,R3,O,ld,nd,g,k3⟩:=(hN _ _ _).mp L
    rw [zMJ] at ld
    exact (hM _ _ _).mpr ⟨dl,c,_,_,_,rfl,R3,O,by omega,nd,g,k3⟩
  ·intro J H2 L
   obtain ⟨dl,c,v4,v5,v6,rfl,R2,O,ld,nd,g,k2⟩:=(hM _ _ _).mp L
   exact ⟨_,rfl,q dl c H2 R2 O (by omega) nd g k2⟩
end
abbrev sMd:Stmt:=top 43
abbrev sTo:Stmt:=top 42
theorem aC {X:Cx} (e:X.K=K:=by rfl):vK X (.builtin "len") (λxs H Q=>∃ x n,xs=[x]/\zFO K x H n/\Q (V.int (n:Int)) H):=e ▸ yA
theorem Src.on (h:Src H p) (k:zD [] H d):Src d p:=let ⟨a,b,c,e⟩:=h;⟨a,b,c,k.z e⟩
theorem Src.ne (h:Src H p) (d:H q=none):q ≠ p:=by
 obtain ⟨a,b,c,e⟩:=h
 exact Ne.symm (zI e d)
theorem zGW (c:List Str) (g:0 <= v) (i:v < (c.length:Int) + 1):∃ f:Option Str,atI (c.map V.str ++ [V.non]) v=some (z9 f)/\∀ z,f=some z->z ∈ c:=by
 obtain ⟨u,a,b⟩:=tU (xs:=c.map V.str ++ [V.non]) g (by rw [zM1,zMJ];simp;omega)
 by_cases d:v.toNat < c.length
 ·rw [zM7 (by rw [zMJ];exact d),zMP,zMK d] at b
  exact ⟨some c[v.toNat],by rw [a,<- b];rfl,λz e=>by cases e;exact List.getElem_mem d⟩
 ·have h:v.toNat=c.length:=by omega
  rw [h,zM6 (by rw [zMJ];exact zMS _),zMJ,Nat.sub_self] at b
  exact ⟨none,by rw [a,<- b];rfl,λz e=>by cases e⟩
theorem zFF (l:List V) (k:Nat):vI l (some 1) (some (1 + (k:Int)))=(l.drop 1).take k:=by
 unfold vI
 rw [show (1:Int)=((1:Nat):Int) from rfl,HT.sIx_nat,show ((1:Nat):Int) + (k:Int)=((1 + k:Nat):Int) by omega,HT.sIx_nat]
 cases l with
 | nil=>simp
 | cons x l=>
  simp only [zM4]
  rw [show min 1 (l.length + 1)=1 by omega]
  show l.take _=l.take k
  by_cases h:k <= l.length
  ·rw [show min (1 + k) (l.length + 1) - 1=k by omega]
  ·rw [zM8 (by omega),zM8 (by omega)]
theorem zCW (l:List Str) (a:0 <= k):vI (l.map V.str) none (some k)=(l.take k.toNat).map V.str:=by
 unfold vI
 obtain ⟨n,rfl⟩:=Int.eq_ofNat_of_zero_le a
 rw [HT.sIx_none,HT.sIx_nat,List.drop_zero,zMJ,Nat.sub_zero,<- List.map_take]
 congr 1
 rcases Nat.le_total n l.length with h | h
 ·rw [Nat.min_eq_left h];rfl
 ·rw [Nat.min_eq_right h,zM8 (zMS _)];exact (zM8 h).symm
theorem oV:∀ {ps c:List Addr} {rows:List (List V)},Paired (λq r=>H q=some (.tup r)) ps rows->Paired (λq r=>H q=some (.tup r)) c rows->(∀ r ∈ rows,r.all xD=true/\r.length <= 2000)->Paired (Alk H 1) (ps.map V.ref) (c.map V.ref)
 | _,_,_,.nil,.nil,_=>.nil
 | p :: _,q :: _,r :: _,.cons a s,.cons b t,h=>by
  refine .cons (.inr ⟨p,q,r,r,rfl,rfl,.inr ⟨a,b⟩,?_,(h r zNC).2⟩) (oV s t λx d=>h x (zMW _ d))
  have f:=(h r zNC).1
  clear a b s t h
  induction r with
  | nil=>exact .nil
  | cons x r e=>
   rw [List.all_cons,Bool.and_eq_true] at f
   exact .cons ⟨rfl,f.1⟩ (e f.2)
theorem nX (d:Rows H a rows) (e:Rows H b rows) (f:∀ r ∈ rows,r.all xD=true/\r.length <= 2000) (g:rows.length <= 2000):Alk H 2 (.ref a) (.ref b):=by
 obtain ⟨k,h,c⟩:=d
 obtain ⟨l,i,j⟩:=e
 exact .inr ⟨a,b,_,_,rfl,rfl,.inl ⟨h,i⟩,oV c j f,by rw [zMJ,zY c];exact g⟩
theorem Alk.succ:∀ (n:Nat) {u v:V},Alk H n u v->Alk H (n + 1) u v
 | 0,_,_,h=>.inl h
 | n + 1,_,_,.inl h=>.inl h
 | n + 1,_,_,.inr ⟨a,b,c,d,e,f,g,i,j⟩=>.inr ⟨a,b,c,d,e,f,g,L2.Paired.mapP i λx y z=>Alk.succ n z,j⟩
theorem uK (A:Rows H p rows) (k:zD S H a) (c:p ∉ S) (d:∀ b ∈ S,∀ xs,H b ≠ some (.tup xs)):Rows a p rows:=by
 obtain ⟨f,e,r⟩:=A
 exact ⟨f,k _ _ c e,zP k d r⟩
theorem mU (o:Option Str):xD (z9 o)=true:=by cases o <;> rfl
theorem zD3 (l:LSS) (h:l.length <= 2000):(∀ r ∈ l.map yU,r.all xD=true/\r.length <= 2000)/\(l.map yU).length <= 2000:=by
 refine ⟨λr a=>?_,by rw [zMJ];exact h⟩
 obtain ⟨z,_,rfl⟩:=List.mem_map.mp a
 exact ⟨rfl,by show 2 <= 2000;decide⟩
theorem zLX (nm:V) (nl a:Addr):(hfl nm nl a).lookup (S3 : Str)=none:=rfl
theorem zLQ (nm:V) (nl a:Addr):(hfl nm nl a).lookup (Sd : Str)=none:=rfl
theorem zLS (nm:V) (nl a:Addr):(hfl nm nl a).lookup (NX : Str)=none:=rfl
theorem zLT (nm:V) (nl a:Addr):(hfl nm nl a).lookup (NU : Str)=none:=rfl
theorem yC.parts (h:yC B C CS H p nm s xs ss):∃ k:List Addr,yC (· ∈ k) C CS H p nm s xs ss/\∀ u ∈ k,B u/\H u ≠ none/\u ≠ p:=by
 obtain ⟨t,nl,l,⟨v,w,m,y⟩,c,g,j,n,o⟩:=h
 have f:∀ x ∈ xs,H x.1 ≠ none/\H x.2 ≠ none/\x.1 ≠ p/\x.2 ≠ p:=λx a=>by
  obtain ⟨i,q,e⟩:=List.getElem_of_mem a
  obtain ⟨⟨A,b⟩,⟨D,d,_⟩,_⟩:=o i x _ (by rw [zMK q,e]) (zMK (by rw [<- n];exact q))
  refine ⟨(by rw [b];nofun),(by rw [d];nofun),λe=>?_,wL d c (by intro z;cases z)⟩
  rw [e,c] at b
  injection b with b
  injection b with _ _ e
  unfold xP hfl at e
  injection e with e _
  injection e with e _
  exact absurd e (by decide +kernel)
 refine ⟨nl :: l :: (xs.map (·.1) ++ xs.map (·.2)),⟨t,nl,l,⟨by simp,by simp,λx a=>⟨?_,?_⟩,y⟩,c,g,j,n,o⟩,λu r=>?_⟩
 ·simp only [List.mem_cons,zM0,List.mem_map];exact .inr (.inr (.inl ⟨x,a,rfl⟩))
 ·simp only [List.mem_cons,zM0,List.mem_map];exact .inr (.inr (.inr ⟨x,a,rfl⟩))
 ·simp only [List.mem_cons,zM0,List.mem_map] at r
  rcases r with rfl | rfl | ⟨x,a,rfl⟩ | ⟨x,a,rfl⟩
  ·exact ⟨v,(by rw [g];nofun),wL g c (by intro z;cases z)⟩
  ·exact ⟨w,(by rw [j];nofun),wL j c (by intro z;cases z)⟩
  ·exact ⟨(m x a).1,(f x a).1,(f x a).2.2.1⟩
  ·exact ⟨(m x a).2,(f x a).2.1,(f x a).2.2.2⟩
theorem yC.at {B:Addr->Prop} {C CS:Addr} {H:Hp} {p:Addr} {nm:Str} {b:List Str} {xs:List (Addr × Addr)} {ss:List SS} (h:yC B C CS H p nm b xs ss) {i:Nat} {x:Addr × Addr} (ex:xs[i]?=some x):B x.1/\B x.2/\∃ s,ss[i]?=some s/\yE CS H x.1 x.2 s:=by
 obtain ⟨f,nl,g,⟨j,k,c,l⟩,m,n,o,d,e⟩:=h
 have a:i < ss.length:=by rw [<- d];exact (zML.mp ex).1
 have:=c x (zMN ex)
 exact ⟨this.1,this.2,_,zMK a,e i x _ ex (zMK a)⟩
theorem yC.ob (h:yC B C CS H p nm c xs ss):∃ dx nl a,H p=some (.ins C dx (hfl (.str nm) nl a)):=by
 obtain ⟨dx,nl,a,_,b,_⟩:=h
 exact ⟨dx,nl,a,b⟩
structure WB (Z:Hp) (P1 P2:List Addr) (p:Addr):Prop where
 ex:∀ u ∈ P1 ++ P2,Z u ≠ none
 dj:∀ u ∈ P1,u ∉ P2
 pz:Z p ≠ none
structure WK (Z:Hp) (P1 P2:List Addr) (C CS p st:Addr) (nm:Str) (nb:List Str) (xs ys:List (Addr × Addr)) (H:Hp) (a b:List SS):Prop where
 ho:yC (· ∈ P1) C CS H p nm nb xs a
 sa:vD (· ∈ P2) H st ys b
 kp:zD (P1 ++ P2) Z H
 dm:∀ u,H u=none->Z u=none
section
variable {Z:Hp} {P1 P2:List Addr} {C CS p st:Addr} {nm:Str} {nb:List Str} {xs ys:List (Addr × Addr)} {H H':Hp} {a b:List SS}
theorem WK.on (w:WK Z P1 P2 C CS p st nm nb xs ys H a b) (k:zD [] H H'):WK Z P1 P2 C CS p st nm nb xs ys H' a b:=
 ⟨w.ho.on k,w.sa.on k,w.kp.trans (k.mono (by simp)),λu c=>w.dm u (k.none (by simp) c)⟩
theorem WK.sts (B:WB Z P1 P2 p) (w:WK Z P1 P2 C CS p st nm nb xs ys H a b) {i:Nat} {y:Addr × Addr} {l:List SS} (f:ys[i]?=some y) (h:vD (· ∈ P2) H' st ys l) (k:zD [y.1,y.2] H H'):WK Z P1 P2 C CS p st nm nb xs ys H' a l:=by
 obtain ⟨_,q,_,t,r⟩:=id h
 obtain ⟨_,g2,_,v,s⟩:=id w.sa
 have x:=(zML.mp f).1
 have D:=r i y _ f (zMK (by omega))
 have j:=s i y _ f (zMK (by omega))
 obtain ⟨_,m,_⟩:=j.rw
 have g:=q.2 y (zMN f)
 refine ⟨w.ho.keep k (λc e=>?_),h,w.kp.trans (k.mono ?_),λu n=>w.dm u (k.none (D.fresh n) n)⟩
 ·obtain ⟨A,nl,E,o⟩:=w.ho.ob
  refine ⟨?_,?_,vE j.d m c e⟩
  ·simp only [List.mem_cons,zND,or_false] at e
   rcases e with rfl | rfl
   ·exact wL j.d o (by intro z;cases z)
   ·exact wL m o (by intro z;cases z)
  ·simp only [List.mem_cons,zND,or_false] at e
   rcases e with rfl | rfl
   ·exact λh=>B.dj _ h g.1
   ·exact λh=>B.dj _ h g.2
 ·intro c e
  simp only [List.mem_cons,zND,or_false] at e
  rcases e with rfl | rfl
  ·exact zM0.mpr (.inr g.1)
  ·exact zM0.mpr (.inr g.2)
theorem WK.hou (B:WB Z P1 P2 p) (w:WK Z P1 P2 C CS p st nm nb xs ys H a b) {i:Nat} {x:Addr × Addr} {m:List SS} (ex:xs[i]?=some x) (h:yC (· ∈ P1) C CS H' p nm nb xs m) (k:zD [x.1,x.2] H H'):WK Z P1 P2 C CS p st nm nb xs ys H' m b:=by
 obtain ⟨n,o,v,_,q⟩:=h.at ex
 obtain ⟨_,_,y,_,r⟩:=w.ho.at ex
 obtain ⟨⟨z,j⟩,⟨A,l,_⟩,_⟩:=q
 obtain ⟨⟨s,e⟩,⟨t,f,_⟩,_⟩:=r
 refine ⟨h,w.sa.keep k (λc d=>⟨?_,uP e f c d⟩),w.kp.trans (k.mono ?_),λu g=>w.dm u (k.none ?_ g)⟩
 ·simp only [List.mem_cons,zND,or_false] at d
  rcases d with rfl | rfl
  ·exact B.dj _ n
  ·exact B.dj _ o
 ·intro c d
  simp only [List.mem_cons,zND,or_false] at d
  rcases d with rfl | rfl
  ·exact zM0.mpr (.inl n)
  ·exact zM0.mpr (.inl o)
 ·simp only [List.mem_cons,zND,or_false]
  rintro (rfl | rfl)
  ·rw [j] at g;cases g
  ·rw [l] at g;cases g
theorem WK.farX (B:WB Z P1 P2 p) (w:WK Z P1 P2 C CS p st nm nb xs ys H a b) {i:Nat} {x:Addr × Addr} {r:Addr} (ex:xs[i]?=some x) (c:Z r=none):r ∉ [x.1,x.2]:=by
 obtain ⟨d,e,_⟩:=w.ho.at ex
 simp only [List.mem_cons,zND,or_false]
 rintro (rfl | rfl)
 ·exact B.ex _ (zM0.mpr (.inl d)) c
 ·exact B.ex _ (zM0.mpr (.inl e)) c
theorem WK.farY (B:WB Z P1 P2 p) (w:WK Z P1 P2 C CS p st nm nb xs ys H a b) {i:Nat} {y:Addr × Addr} {r:Addr} (d:ys[i]?=some y) (c:Z r=none):r ∉ [y.1,y.2]:=by
 have m:=w.sa.2.1.2 y (zMN d)
 simp only [List.mem_cons,zND,or_false]
 rintro (rfl | rfl)
 ·exact B.ex _ (zM0.mpr (.inr m.1)) c
 ·exact B.ex _ (zM0.mpr (.inr m.2)) c
theorem WK.noX (w:WK Z P1 P2 C CS p st nm nb xs ys H a b) {i:Nat} {x:Addr × Addr} (ex:xs[i]?=some x):∀ c ∈ [x.1,x.2],∀ xs,H c ≠ some (.tup xs):=by
 obtain ⟨_,_,j,_,f⟩:=w.ho.at ex
 obtain ⟨⟨g,d⟩,⟨h,e,_⟩,_⟩:=f
 exact uP d e
theorem WK.noY (w:WK Z P1 P2 C CS p st nm nb xs ys H a b) {i:Nat} {y:Addr × Addr} (e:ys[i]?=some y):∀ c ∈ [y.1,y.2],∀ xs,H c ≠ some (.tup xs):=by
 obtain ⟨_,_,_,j,g⟩:=id w.sa
 have f:=g i y _ e (zMK (by have:=(zML.mp e).1;omega))
 obtain ⟨_,h,_⟩:=f.rw
 exact vE f.d h
end
theorem zBZ (s:SS) (i:Nat):(∀ r ∈ (yJ s).2.map (kQ i),r.all xD=true/\r.length <= 2000)/\((yJ s).2.map (kQ i)).length <= 2000:=by
 obtain ⟨c,g⟩:=zBT s
 obtain ⟨d,h⟩:=rF s
 refine ⟨λr e=>?_,by rw [zMJ];omega⟩
 obtain ⟨l,b,rfl⟩:=List.mem_map.mp e
 have a:=(c l b).1
 have f:=(d l b).2
 cases l with
 | nil=>exact ⟨rfl,zMT _⟩
 | cons x l=>
  rw [List.all_cons,Bool.and_eq_true] at a
  refine ⟨?_,?_⟩
  ·show (xD x && (true && l.all xD))=true
   rw [a.1,a.2];rfl
  ·show l.length + 1 + 1 <= 2000
   simp only [zM4] at f
   omega
section
variable {P:Program} {w:World} {K:W.Frag} {mg:Str->Option Value} {base:Heap} {C CS:Addr}
theorem lY:zM Nd Nz (zG sMd):=scm
def zJV:Sp:=λh H Q _=>∃ c:Int,h=[.int c]/\∀ (t nl e g:Addr) (f:Str) (b:List Str) (a:List (Option Str)) (d:Hp),d t=some (.tup [.str f,.ref nl,.ref e,.ref g])->d nl=some (.lst (b.map V.str))->d e=some (.lst (a.map z9))->H nl=none->H e=none->nl ≠ e->yT f->(∀ z ∈ b,yT z)->b.Nodup->f ∉ b->b.length <= 11->a ≠ []->a.length <= 4->(∀ z,some z ∈ a->z ∈ b)->(∃ as:List Str,d g=some (.lst (as.map V.str))/\as ≠ []/\as.length <= 20/\∀ z ∈ as,yT z)->zD [] H d->Q (.ref t) d
theorem okMd (G:yM K mg "_law_made" sMd Nz) (CD:Cal P w K mg base CX0 1 SG Nz oH) (CN:Cal P w K mg base CX0 2 Sn N8 qL) (af:Cal P w K mg base CX0 3 "_law_names" N8 eM) (a6:Blt mg S8) (r:Blt mg Su):Cal P w K mg base CX0 4 "_law_made" Nz zJV:=by
 refine G.oz lY (λf bv A av s0 H vs Q E hr h=>?_)
 obtain ⟨c,rfl,q⟩:=h
 have ag:zZ 3 _:=hr
 have x:zZ 2 _:=hr.mono (by decide)
 have aw:zZ 1 _:=hr.mono (by decide)
 refine ⟨_,(zE (z7 (i:=1) lY.nd rfl (Or.inr rfl) (zO CD aw (zA (pv 0) zB)))
   (zE (z7 (i:=2) lY.nd rfl (Or.inl rfl) (xI xF (zO CN x (zA (pv 1) (zA zH zB))) zH (zX _)))
   (zE (z7 (i:=3) lY.nd rfl (Or.inl rfl) (yL (zA (zO CN x (zA (pv 1) (zA zH zB))) (zA (yG wP zH (zO CN x (zA (pv 1) (zA zH zB)))) (zA (yG wP zH (zO CN x (zA (pv 1) (zA zH zB)))) zB)))))
   (zE (z7 (i:=4) lY.nd rfl (Or.inl rfl) (zO af ag (zA (pv 1) (zA zH zB))))
   (zE (z7 (i:=5) lY.nd rfl (Or.inr rfl) (xT sK (pv 4) (xW zH) (xW (yG wP zH (zS z6 (pv 3) zH (λ_ _=>rfl))))))
   (zE (mQ (i:=6) lY.nd rfl (Or.inl rfl) (N:=Nd) (sc:=zG sMd) (ix:=[5,1]) (by decide +kernel) (vJ rfl r.no (zA (zS z6 (pv 3) zH (λ_ _=>rfl)) zB)) (λ_ _ _ _=>xG) (λ_ _ _ _=>(zS z6 (yG wO (pv 1) (yL (zA yQ zB))) (zO CN x (zA (pv 2) (zA (yG wP (zV (aC (K:=K)) a6 yP (zA (pv 1) zB)) zH) zB))) (λ_ _=>rfl))))
   (zE (z7 (i:=7) lY.nd rfl (Or.inl rfl) (pv 4))
   (zE (z4 (xB (y9 (pv 2))) (zF (z7 (i:=7) lY.nd rfl (Or.inl rfl) (zO af ag (zA (pv 1) (zA zH zB))))) zN)
   (zF (zL (yH (zA (zS z6 (pv 4) zH (λ_ _=>rfl)) (zA (pv 5) (zA (pv 6) (zA (xT sK (pv 7) wZ (xW (zS z6 (pv 3) zH (λ_ _=>rfl)))) zB))))))))))))))),?_⟩
 refine sq λN y=>?_
 refine ⟨_,rfl,c,rfl,λs b1 c1 e1 hs=>?_⟩
 refine y _ _ (sq λN y=>?_)
 refine ⟨_,rfl,s,b1,c1,e1,2,rfl,zC,by decide,by decide,λu a2 c2 u0 u1=>⟨rfl,?_⟩⟩
 refine y _ _ (sq λN y=>?_)
 refine ⟨_,rfl,s,a2,c1,c2,12,rfl,zC,by decide,by decide,λk a3 c3 w0 w1=>?_⟩
 refine ⟨_,rfl,s,a3,c1,c3,4,rfl,zC,by decide,by decide,λm a4 c4 m0 m1=>⟨_,_,rfl,rfl,?_⟩⟩
 refine ⟨_,rfl,s,a4,c1,c4,10,rfl,zC,by decide,by decide,λn a5 c5 n0 n1=>⟨_,_,rfl,rfl,by show 3 <= sizeLine;decide,λL M=>?_⟩⟩
 simp only [uE] at M ⊢
 have k1:zD [] H (upd H s (.lst [.int a5,.int c1,.int c5])):=zD.new hs
 generalize ax:upd H s (.lst [.int a5,.int c1,.int c5])=H1 at k1 M ⊢
 have s1:Src H1 s:=⟨a5,c1,c5,by rw [<- ax];exact zC⟩
 have k2:zD [] H1 (upd H1 L (.lst [.int k,.int (1 + m),.int (1 + n)])):=zD.new M
 have e2:upd H1 L (.lst [.int k,.int (1 + m),.int (1 + n)]) L=some (.lst [.int k,.int (1 + m),.int (1 + n)]):=zC
 generalize upd H1 L (.lst [.int k,.int (1 + m),.int (1 + n)])=H2 at k2 e2
 have s2:Src H2 s:=s1.on k2
 have aa:L ≠ s:=s1.ne M
 refine y _ _ (sq λN y=>?_)
 refine ⟨_,rfl,s,12,rfl,s2,by decide,by decide,λnh Y H3 ay ah lz gz nd k3 s3=>?_⟩
 have B:Y.length=12:=lz
 have e3:=k3 _ _ (by simp [aa]) e2
 have ai:nh ≠ s:=s2.ne ay
 have ab:zD [s] H H3:=((k1.trans k2).mono (by simp)).trans k3
 refine y _ _ (sq λN y=>?_)
 refine ⟨_,rfl,1,rfl,_,rfl,L,_,0,_,rfl,rfl,e3,rfl,_,_,rfl,rfl,_,rfl,nh,_,rfl,.of ah,λnl ac=>?_⟩
 have ek:(1:Int) + k=1 + ((k.toNat:Nat):Int):=by omega
 rw [ek,zFF,<- List.map_drop,<- List.map_take]
 generalize ae:(Y.drop 1).take k.toNat=l
 have O:nl ≠ s:=s3.ne ac
 have k4:zD [] H3 (upd H3 nl (.lst (l.map V.str))):=zD.new ac
 have e4:upd H3 nl (.lst (l.map V.str)) nl=some (.lst (l.map V.str)):=zC
 generalize upd H3 nl (.lst (l.map V.str))=H4 at k4 e4
 have s4:=s3.on k4
 have az:l.length <= 11:=by rw [<- ae,zM2,List.length_drop];omega
 have sub:∀ z ∈ l,z ∈ Y.drop 1:=λz J=>by rw [<- ae] at J;exact List.mem_of_mem_take J
 obtain ⟨nm,zt,ez⟩:∃ nm zt,Y=nm :: zt:=by
  cases Y with
  | nil=>simp at B
  | cons a b=>exact ⟨a,b,rfl⟩
 have ed:Y.drop 1=zt:=by rw [ez];rfl
 obtain ⟨b0,b2⟩:=List.nodup_cons.mp (ez ▸ nd)
 have b3:∀ z ∈ l,yT z:=λz J=>gz z (by rw [ez];exact zMW _ (ed ▸ sub z J))
 have b4:l.Nodup:=by rw [<- ae,ed];exact b2.sublist (List.take_sublist _ _)
 have ba:nm ∉ l:=λh=>b0 (ed ▸ sub nm h)
 refine y _ _ (sq λN y=>?_)
 refine ⟨_,rfl,L,_,1,_,rfl,rfl,k4.z e3,rfl,_,rfl,by omega,by omega,λacc g=>?_⟩
 have aj:nl ≠ acc:=zI e4 g
 have sa:acc ≠ s:=s4.ne g
 refine sQ (by rw [sizeLine_eq];omega) (λi ys τ p=>∃ (d:List (Option Str)) (kk:Option V),τ=kk :: [some (.ref nl),some (.ref s)]/\ys=d.map z9/\d.length=i/\(∀ z,some z ∈ d->z ∈ l)/\zD [acc,s] H4 p/\Src p s/\p acc=some (.lst ys)) ?_ ?_ ?_ ?_
 ·exact ⟨[],none,rfl,rfl,rfl,(λz J=>by cases J),zD.at (by simp),s4.on (zD.new g),zC⟩
 ·rintro i ys τ p ⟨d,kk,rfl,rfl,hl,_,_,_,h5⟩
  exact ⟨h5,by rw [zMJ];omega⟩
 ·rintro i ys τ p hi ⟨d,kk,rfl,rfl,hl,hg,kp,⟨x5,y5,z5,ak⟩,h5⟩
  have e5:=kp _ _ (by simp [aj,O]) e4
  refine ⟨_,rfl,by show 1 <= sizeLine;decide,λl1 h1=>⟨nl,l1,_,_,rfl,rfl,(zD.new (S:=[]) h1).z e5,zC,by rw [zMJ,sizeLine_eq];show _ + 1 <= _;omega,λl2 h2=>?_⟩⟩
  have T:zD [] p (upd (upd p l1 (.lst [.non])) l2 (.lst (l.map V.str ++ [V.non]))):=(zD.new h1).trans (zD.new h2)
  have e6:upd (upd p l1 (.lst [.non])) l2 (.lst (l.map V.str ++ [V.non])) l2=some (.lst (l.map V.str ++ [V.non])):=zC
  have n2:p l2=none:=(zW h2).1
  generalize upd (upd p l1 (.lst [.non])) l2 (.lst (l.map V.str ++ [V.non]))=D at T e6 ⊢
  have bc:=T.z ak
  have bd:=T.z h5
  refine ⟨_,rfl,_,rfl,_,_,rfl,.inl ⟨_,.of (T.z e5),rfl⟩,_,_,rfl,rfl,s,x5,y5,z5,_,rfl,bc,by rw [zMJ];omega,by rw [zMJ];omega,λv a7 c7 v0 v1=>?_⟩
  rw [zMJ] at v1
  obtain ⟨ar,ea,za⟩:=zGW l v0 v1
  have be:l2 ≠ s:=Ne.symm (zI ak n2)
  refine ⟨l2,_,v,_,rfl,rfl,by rw [zK be];exact e6,ea,?_⟩
  refine ⟨by rw [zK sa];exact bd,d ++ [ar],_,rfl,by simp,by simp [hl],?_,((kp.trans (T.mono (by simp))).trans (zD.at (by simp))).trans (zD.at (by simp)),⟨a7,y5,c7,by rw [zK sa.symm,zC]⟩,zC⟩
  intro z J
  rcases zM0.mp J with h | h
  ·exact hg z h
  ·exact za z (zMM.mp h).symm
 rintro ys τ p ⟨d,kk,rfl,rfl,hl,hg,kp,s5,h5⟩
 have a0:d.length=(1 + m).toNat:=hl
 have an:d ≠ []:=λe=>by rw [e] at a0;simp at a0;omega
 have U:zD [s] H4 p:=λb o hb ho=>kp b o (by
  simp only [List.mem_cons,zND,or_false,not_or] at hb ⊢
  exact ⟨(λe=>by rw [e,g] at ho;cases ho),hb⟩) ho
 have bf:zD [s] H p:=(ab.trans (k4.mono (by simp))).trans U
 have bg:H nl=none:=ab.none (by simp [O]) ac
 have ao:H acc=none:=(ab.trans (k4.mono (by simp))).none (by simp [sa]) g
 have a1:=U _ _ (by simp [ai]) (k4.z ah)
 have e5:=U _ _ (by simp [O]) e4
 have bh:=U _ _ (by simp [aa]) (k4.z e3)
 have fin:∀ (bb:Bool) (al:Addr) (as:List Str) (D:Hp),D al=some (.lst (as.map V.str))->as ≠ []->as.length <= 12->(∀ z ∈ as,yT z)->zD [s] p D->cM (zG4 (uC (tOp iB (u5 4) (tC (.int 0))) (uC (u5 5) (uC (u5 6) (uC (tSl (zHN K) (u5 7) lQ (aM (tOp iB (u5 3) (tC (.int 2))))) rP))))) { nx:=λ_ H'=>Q V.non H',rt:=Q } [some (.int c),some (.ref s),some (.bl bb),some (.ref L),some (.ref nh),some (.ref nl),some (.ref acc),some (.ref al)] D:=by
  intro bb al as D bi bj bw bk I
  have aq:=I _ _ (by simp [ai]) a1
  have bm:=I _ _ (by simp [O]) e5
  have bn:=I _ _ (by simp [sa]) h5
  have bo:=I _ _ (by simp [aa]) bh
  have at0:atI (Y.map V.str) 0=some (.str nm):=uI (j:=0) (by rw [ez];rfl)
  refine ⟨_,rfl,nh,_,0,_,rfl,rfl,aq,at0,_,rfl,_,rfl,_,rfl,_,rfl,L,_,2,_,rfl,rfl,bo,rfl,_,rfl,al,_,rfl,.of bi,λsl bp=>?_⟩
  refine ⟨by show 4 <= sizeLine;decide,λt ht=>?_⟩
  obtain ⟨cs,bq,br,bs,bt⟩:∃ cs:List Str,vI (as.map V.str) none (some (1 + n))=cs.map V.str/\cs ≠ []/\cs.length <= 20/\∀ z ∈ cs,yT z:=by
   refine ⟨as.take (1 + n).toNat,zCW as (by omega),?_,by rw [zM2];omega,λz J=>bk z (List.mem_of_mem_take J)⟩
   intro e
   have l1:=congrArg List.length e
   rw [zM2,List.length_nil] at l1
   have l2:0 < as.length:=zM9.mpr bj
   omega
  rw [bq] at ht ⊢
  generalize bu:cs.map V.str=cu at ht ⊢
  have T:zD [] D (upd D sl (.lst cu)):=zD.new bp
  have k8:zD [] D (upd (upd D sl (.lst cu)) t (.tup [.str nm,.ref nl,.ref acc,.ref sl])):=T.trans (zD.new ht)
  exact q t nl acc sl nm l d _ zC (k8.z bm) (k8.z bn) bg ao aj (gz nm (by rw [ez];exact zNC ..)) b3 b4 ba az an (by omega) hg ⟨cs,by rw [bu];exact (zD.new (S:=[]) ht).z zC,br,bs,bt⟩ (((bf.trans I).trans (k8.mono (by simp))).drop hs)
 refine y _ _ ?_
 refine ⟨_,rfl,?_⟩
 refine ⟨_,rfl,?_⟩
 refine ⟨_,rfl,?_⟩
 cases decide (V.int u=V.int 1) with
 | true=>exact fin true nh Y p a1 (λe=>by rw [e] at B;simp at B) (by omega) gz (zD.refl _)
 | false=>
  refine ⟨_,rfl,s,10,rfl,s5,by decide,by decide,λal as D _ e6 l6 g6 _ T _=>?_⟩
  have au:as.length=10:=l6
  exact fin false al as D e6 (λe=>by rw [e] at au;simp at au) (by omega) g6 T
theorem zHF:zM ["_law_house","_law_many","_law_found","_law_right"] NG (zG sTo):=scm
def zI5 (b H:Hp) (r:Addr) (a:List (Addr × Addr)) (ss:List SS):Prop:=a.length=ss.length/\H r=some (.lst (a.map λt=>V.ref t.1))/\∀ (j:Nat) (t:Addr × Addr) (s:SS),a[j]?=some t->ss[j]?=some s->H t.1=some (.lst [z9 s.ptr,.ref t.2,z9 s.hold,.bl s.asked])/\Rows H t.2 (s.row.map yU)/\b t.1=none/\b t.2=none
def zJM (C CS:Addr):Sp:=λc H Q _=>∃ B p d e f a,c=[.ref p,.int (a.length:Int)]/\yC B C CS H p d e f a/\a.length <= 100 /\
 ∀ r g b,H r=none->zI5 H b r g a->zD [] H b->Q (.ref r) b
theorem okTo (T:y4 K C) (G:yM K mg "_law_told" sTo NG) (MA:yD P w K mg base CX0 3 C S3 N5 (zF3 C CS)) (MR:yD P w K mg base CX0 3 C Sd N5 (zFY C CS)) (MI:yD P w K mg base CX0 3 C NX N5 (zF0 C CS)) (aa:yD P w K mg base CX0 3 C NU N5 (zF1 C CS)) (c:Blt mg Su) :
  Cal P w K mg base CX0 4 "_law_told" NG (zJM C CS):=by
 refine G.oz zHF (λf ac A ab s0 H vs Q E hr h=>?_)
 obtain ⟨B,p,nm,nb,v,O,rfl,hh,la,q⟩:=h
 have g:zZ 3 _:=hr
 refine ⟨_,(zE (z7 (i:=2) zHF.nd rfl (Or.inl rfl) (yL zB))
   (zE (vM PassesOwn.never rfl (vJ rfl c.no (zA (pv 1) zB)) (yI (i:=3) zHF.nd rfl (Or.inl rfl)) (zF (yB (uD F.plainAttrs_list F.slot_list_append F.type_list_append xQ (pv 2) (zA (yL (zA (xV MA T.cl g (pv 0) (zA (pv 3) zB)) (zA (xV MR T.cl g (pv 0) (zA (pv 3) zB)) (zA (xV MI T.cl g (pv 0) (zA (pv 3) zB)) (zA (xV aa T.cl g (pv 0) (zA (pv 3) zB)) zB))))) zB)))))
   (zF (zL (pv 2))))),?_⟩
 refine ⟨zMT _,λa k=>?_⟩
 have k0:zD [] H (upd H a (.lst [])):=zD.new k
 refine ⟨_,rfl,_,rfl,by omega,by omega,tG (λi σ x=>∃ (l:List (Addr × Addr)) (v3:Option V),σ=[some (.ref p),some (.int (O.length:Int)),some (.ref a),v3]/\l.length=i/\x a=some (.lst (l.map λt=>V.ref t.1))/\(∀ (j:Nat) (t:Addr × Addr) (s:SS),l[j]?=some t->O[j]?=some s->x t.1=some (.lst [z9 s.ptr,.ref t.2,z9 s.hold,.bl s.asked])/\Rows x t.2 (s.row.map yU)/\H t.1=none/\H t.2=none/\t.1 ≠ a/\t.2 ≠ a)/\zD [a] H x) ⟨[],_,rfl,rfl,zC,(λj t s e=>by cases e),k0.mono (by simp)⟩ ?_ ?_⟩
 ·rintro i σ x hi ⟨l,v3,rfl,U,J,d,L⟩
  have m:=hh.on (L.drop k)
  obtain ⟨dx,nl,sl,_,hp,_⟩:=id m
  rw [Int.toNat_natCast] at hi
  have M:O[i]?=some O[i]:=zMK hi
  generalize O[i]=s at M
  have ei:(0:Int) + (i:Int)=(i:Int):=by omega
  refine ⟨_,rfl,Or.inl ⟨rfl,_,.of J⟩,_,rfl,p,dx,_,rfl,hp,zLX _ _ _,_,rfl,B,p,i,nm,nb,v,_,_,congrArg (λz=>[V.ref p,V.int z]) ei,m,M,?_⟩
  refine ⟨_,rfl,p,dx,_,rfl,hp,zLQ _ _ _,_,rfl,B,p,i,nm,nb,v,_,_,congrArg (λz=>[V.ref p,V.int z]) ei,m,M,λr N hr hR Y=>?_⟩
  have a0:=m.on Y
  have a7:=Y.z hp
  refine ⟨_,rfl,p,dx,_,rfl,a7,zLS _ _ _,_,rfl,B,p,i,nm,nb,v,_,_,congrArg (λz=>[V.ref p,V.int z]) ei,a0,M,?_⟩
  refine ⟨_,rfl,p,dx,_,rfl,a7,zLT _ _ _,_,rfl,B,p,i,nm,nb,v,_,_,congrArg (λz=>[V.ref p,V.int z]) ei,a0,M,?_⟩
  refine ⟨by show 4 <= sizeLine;decide,λu hu=>?_⟩
  have k3:zD [] N (upd N u (.lst [z9 s.ptr,.ref r,z9 s.hold,.bl s.asked])):=zD.new hu
  have e3:upd N u (.lst [z9 s.ptr,.ref r,z9 s.hold,.bl s.asked]) u=some (.lst [z9 s.ptr,.ref r,z9 s.hold,.bl s.asked]):=zC
  have y:u ≠ a:=Ne.symm (zI (Y.z J) hu)
  have D:r ≠ a:=Ne.symm (zI J hr)
  have n:=Y.trans k3
  have h3:=n.z J
  refine ⟨a,_,_,rfl,rfl,h3,by rw [zMJ,sizeLine_eq];omega,?_⟩
  have kf:zD [a] (upd N u (.lst [z9 s.ptr,.ref r,z9 s.hold,.bl s.asked])) (upd (upd N u (.lst [z9 s.ptr,.ref r,z9 s.hold,.bl s.asked])) a (.lst ((l.map λt=>V.ref t.1) ++ [.ref u]))):=zD.at (by simp)
  have nt:∀ b ∈ [a],∀ v,upd N u (.lst [z9 s.ptr,.ref r,z9 s.hold,.bl s.asked]) b ≠ some (.tup v):=λb hb v z=>by rw [zMM.mp hb,h3] at z;cases z
  refine ⟨l ++ [(u,r)],_,rfl,by simp [U],by rw [zC];simp,λj t s' o I=>?_,(L.trans (n.mono (by simp))).trans kf⟩
  by_cases jl:j < l.length
  ·rw [zM7 jl] at o
   obtain ⟨a1,a2,a3,a4,a5,a6⟩:=d j t s' o I
   exact ⟨kf _ _ (by simp [a5]) (n.z a1),uK (a2.keep n) kf (by simp [a6]) nt,a3,a4,a5,a6⟩
  ·rw [zM6 (by omega)] at o
   have ej:j=i:=by
    have:=(zML.mp o).1
    simp at this;omega
   subst ej
   rw [U,Nat.sub_self] at o
   cases o
   rw [M] at I
   cases I
   exact ⟨kf _ _ (by simp [y]) e3,uK (hR.keep k3) kf (by simp [D]) nt,L.none (by simp [y]) (Y.none (by simp) hu),L.none (by simp [D]) hr,y,D⟩
 ·rintro σ x ⟨l,v3,rfl,U,J,d,L⟩
  rw [Int.toNat_natCast] at U
  refine ⟨_,rfl,q a l x k ⟨U,J,λj t s o hs=>?_⟩ (L.drop k)⟩
  obtain ⟨a1,a2,a3,a4,_,_⟩:=d j t s o hs
  exact ⟨a1,a2,a3,a4⟩
end
noncomputable def xJ (x:V) (n:Nat):Bool:=match x with | .int i=>decide (0 <= i) && decide (i < (n:Int)) | _=>false
theorem fO {ss:List SS} {i:Nat} {s:SS} {z:Str} (a:(xC ss).Nodup) (b:ss[i]?=some s) (h:s.hold=some z):askR z ∉ s.row:=λc=>by
 have:(wW s).Nodup:=by
  have e:ss=ss.take i ++ s :: ss.drop (i + 1):=by
   rw [zML] at b
   obtain ⟨d,rfl⟩:=b
   rw [<- List.drop_eq_getElem_cons d,List.take_append_drop]
  unfold xC at a
  rw [e,List.flatMap_append,List.flatMap_cons] at a
  exact (List.nodup_append.mp (List.nodup_append.mp a).2.1).1
 rw [wQ,h] at this
 exact (List.nodup_append.mp this).2.2 z (by simp) z (iP.mpr c) rfl
section
variable {P:Program} {w:World} {K:W.Frag} {mg:Str->Option Value} {base:Heap} {C CS CA CH CL CR:Addr}
def eI (K:W.Frag):Sp:=λa H Q _=>∃ x T,a=[x]/\yF K H x T/\Q (.bl (zGV x)) H
theorem zEH (G:yM K mg Sy sWh Nc) (d:Blt mg S9) (e:Blt mg "int") (g:Blt mg "bool"):Cal P w K mg base CX0 1 Sy Nc (eI K):=by
 refine G.oz zKA (λf j A a s H k Q E l h=>?_)
 obtain ⟨x,T,rfl,c,q⟩:=h
 refine ⟨_,zF (zL (uA (zV yN d zQ (zA (pv 0) (zA (w6 e tT) zB)))
  (uM (fD (zV yN d zQ (zA (pv 0) (zA (w6 g uX) zB))))))),?_⟩
 refine ⟨_,rfl,_,_,_,_,rfl,c.ty,c.kit.2.1,_,rfl,?_⟩
 cases c with
 | int i=>exact o9 ⟨_,rfl,_,_,_,_,rfl,(yF.int (K:=K) (H:=H) i).ty,(yF.int (K:=K) (H:=H) i).kit.2.2.1,_,rfl,q⟩
 | bl b=>exact o9 ⟨_,rfl,_,_,_,_,rfl,(yF.bl (K:=K) (H:=H) b).ty,(yF.bl (K:=K) (H:=H) b).kit.2.2.1,_,rfl,q⟩
 | _=>exact n9 q
def gN (K:W.Frag) (CA:Addr):Sp:=λb H Q E=>∃ x T,b=[x]/\yF K H x T/\(∀ z,x=.str z->z.length <= 1000)/\((xA x=true/\∀ a,zD [] H a->Q .non a) \/ (xA x=false/\∀ a,zD [] H a->E (.ref CA) none a))
theorem zEO (G:yM K mg NZ j6 Nx) (j:Cal P w K mg base CX0 1 Sk Nc (t7 K)) (a:qH K mg SF CA):Cal P w K mg base (CXE P w) 2 NZ Nx (gN K CA):=by
 refine G.ozX zAM (λf k A b n H o Q E e h=>?_)
 obtain ⟨x,T,rfl,l,m,h⟩:=h
 have c:zZ 1 _:=e.mono (by decide)
 refine ⟨_,(zF (z4 (xB (y9 (zO j c (zA (pv 0) zB)))) (zF (wU (xS e) a)) zN)),?_⟩
 refine ⟨_,rfl,_,T,rfl,l,m,λg i=>⟨_,rfl,?_⟩⟩
 rcases h with ⟨d,q⟩ | ⟨d,q⟩
 ·exact ifF (by show (!xA x)=false;rw [d];rfl) (q g i)
 ·exact ifT (by show (!xA x)=true;rw [d];rfl) (q g i)
def oI (K:W.Frag) (CR:Addr):Sp:=λa H Q E=>∃ (x:V) (T:String) (n:Nat),a=[x,.int (n:Int)]/\yF K H x T/\((xJ x n=true/\Q .non H) \/ (xJ x n=false/\E (.ref CR) none H))
theorem zLH (G:yM K mg NS sCk N9) (k:Cal P w K mg base CX0 1 Sy Nc (eI K)) (c:qH K mg "NoRight" CR):Cal P w K mg base (CXE P w) 2 NS N9 (oI K CR):=by
 refine G.ozX zKN (λf l A d s H o Q E j h=>?_)
 obtain ⟨x,T,n,rfl,m,h⟩:=h
 have g:zZ 1 _:=j.mono (by decide)
 refine ⟨_,(zF (z4 (PW.pt (sX (xB (y9 (zO k g (zA (pv 0) zB)))) (u6 (xB (oT oW dJ zH (pv 0) (pv 1)))))) (zF (wU (xS j) c)) zN)),?_⟩
 refine ⟨_,rfl,x,T,rfl,m,_,rfl,?_⟩
 cases x with
 | int i=>
  refine ifF rfl ⟨_,rfl,_,_,rfl,rfl,_,rfl,?_⟩
  by_cases a:0 <= i
  ·refine ifT (zMY a) ⟨_,rfl,_,_,rfl,rfl,_,rfl,?_⟩
   by_cases b:i < (n:Int)
   ·refine ifF (by rw [zMY b];rfl) ?_
    rcases h with ⟨_,q⟩ | ⟨e,_⟩
    ·exact q
    ·unfold xJ at e
     simp [a,b] at e
   ·refine ifT (by rw [zMZ b];rfl) ?_
    rcases h with ⟨e,_⟩ | ⟨_,q⟩
    ·unfold xJ at e
     simp [b] at e
    ·exact q
  ·refine ifF (zMZ a) ⟨_,rfl,?_⟩
   refine ifT rfl ?_
   rcases h with ⟨e,_⟩ | ⟨_,q⟩
   ·unfold xJ at e
    simp [a] at e
   ·exact q
 | _=>
  refine ifT rfl ?_
  rcases h with ⟨e,_⟩ | ⟨_,q⟩
  ·cases e
  ·exact q
def zJN (C CA:Addr):Sp:=λb H _ E=>∃ p c s z,b=[.ref p,.str z]/\yE C H p c s/\yT z/\askR z ∉ s.row/\∀ a,zD [] H a->E (.ref CA) none a
theorem okSL (T:xN K CS) (G:yS K CS NW "Seat.leave" oK N1) (n:Cal P w K mg base CX0 2 NZ Nx u7) (a:qH K mg SF CA):yD P w K mg base (CXE P w) 3 CS NW N1 (zJN CS CA):=by
 refine G.ozX eU (λf o A b J H L Q E c h=>?_)
 obtain ⟨p,u,s,z,rfl,v,k,x,q⟩:=h
 have d:zZ 2 _:=c.mono (by decide)
 have y:=vS c
 refine ⟨_,(zE (yB (zO n d (zA (pv 1) zB)))
   (zE (z4 (zT (sM y) (yH (zA zJ (zA (pv 1) zB))) (z8 (pv 0) rfl) (by with_unfolding_all rfl)) (zF (wU (xS c) a)) zN) xM)),?_⟩
 refine ⟨_,rfl,z,rfl,k.1,zMU k.2 (by decide),λl m=>?_⟩
 obtain ⟨⟨B,e⟩,⟨D,g,i⟩,_⟩:=v.keep m
 refine ⟨_,rfl,by show 2 <= sizeLine;decide,λt I=>?_⟩
 have j:zD [] l (upd l t (.tup [.str NQ,.str z])):=zD.new I
 refine ⟨_,rfl,p,CS,B,_,_,rfl,(j.z e),T.cl,T.nW,rK _ _ _ _,u,t,_,s.row.map yU,rfl,rfl,(Rows.keep ⟨D,g,i⟩ j),zC,rfl,wY _,_,rfl,?_⟩
 exact ifT (by show (!((s.row.map yU).any λr=>eqT r (yU (askR z))))=true;rw [tW,zMZ x];rfl) (q _ (m.trans j))
def zJP (C CA:Addr):Sp:=λb H _ E=>∃ p c s z,b=[.ref p,.str z]/\yE C H p c s/\yT z/\s.hold ≠ some z/\∀ a,zD [] H a->E (.ref CA) none a
theorem okSD (T:xN K CS) (G:yS K CS NY "Seat.done" j4 N1) (j:Cal P w K mg base CX0 2 NZ Nx u7) (a:qH K mg SF CA):yD P w K mg base (CXE P w) 3 CS NY N1 (zJP CS CA):=by
 refine G.ozX zAJ (λf k A b r H t Q E e h=>?_)
 obtain ⟨p,u,s,z,rfl,l,g,m,q⟩:=h
 have c:zZ 2 _:=e.mono (by decide)
 refine ⟨_,(zE (yB (zO j c (zA (pv 1) zB))) (zE (z4 (zT t8 (pv 1) (z8 (pv 0) rfl) (zX _)) (zF (wU (xS e) a)) zN) xM)),?_⟩
 refine ⟨_,rfl,z,rfl,g.1,zMU g.2 (by decide),λn i=>?_⟩
 obtain ⟨⟨o,d⟩,_⟩:=l.keep i
 exact ⟨_,rfl,_,rfl,p,CS,o,_,_,rfl,d,T.cl,T.nH,iX _ _ _ _,oJ _ _,_,rfl,ifT (by rw [kZ,zMZ m];rfl) (q n i)⟩
def zJO (C CL:Addr):Sp:=λb H _ E=>∃ p c s z,b=[.ref p,.str z]/\yE C H p c s/\yT z/\(s.ptr=some z \/ hsR z ∈ s.row)/\∀ a,zD [] H a->E (.ref CL) none a
theorem okSK (T:xN K CS) (G:yS K CS NT "Seat.ask" zAU NA) (u:Cal P w K mg base CX0 2 Sm NN u7) (a:qH K mg "NoLetter" CL):yD P w K mg base (CXE P w) 3 CS NT NA (zJO CS CL):=by
 refine G.ozX zGA (λf v A d L H M Q E c h=>?_)
 obtain ⟨p,x,s,z,rfl,y,n,B,q⟩:=h
 have e:zZ 2 _:=c.mono (by decide)
 have D:=vS c
 refine ⟨_,(zE (yB (zO u e (zA (pv 1) zB)))
   (zE (z4 (zT xF (pv 1) (z8 (pv 0) rfl) (zX _)) (zF (wU (xS c) a)) zN)
   (zE (z4 (zT (kP D) (yH (zA zJ (zA (pv 1) zB))) (z8 (pv 0) rfl) (by with_unfolding_all rfl)) (zF (wU (xS c) a)) zN) xM))),?_⟩
 refine ⟨_,rfl,z,rfl,n.1,zMU n.2 (by decide),λg i=>?_⟩
 obtain ⟨⟨o,b⟩,⟨I,j,k⟩,_⟩:=y.keep i
 refine ⟨_,rfl,_,rfl,p,CS,o,_,_,rfl,b,T.cl,T.nP,fR _ _ _ _,oJ _ _,_,rfl,?_⟩
 by_cases l:s.ptr=some z
 ·exact ifT (by rw [kZ];exact zMY l) (q g i)
 ·refine ifF (by rw [kZ];exact zMZ l) ⟨_,rfl,by show 2 <= sizeLine;decide,λt J=>?_⟩
  have m:zD [] g (upd g t (.tup [.str NV,.str z])):=zD.new J
  refine ⟨_,rfl,p,CS,o,_,_,rfl,(m.z b),T.cl,T.nW,rK _ _ _ _,x,t,_,s.row.map yU,rfl,rfl,(Rows.keep ⟨I,j,k⟩ m),zC,rfl,wY _,_,rfl,?_⟩
  exact ifT (by show ((s.row.map yU).any λr=>eqT r (yU (hsR z)))=true;rw [tW];exact zMY (B.resolve_left l)) (q _ (i.trans m))
def zJQ (K:W.Frag) (C CL:Addr):Sp:=λc H _ E=>∃ p d s z b Ty,c=[.ref p,.str z,b]/\yE C H p d s/\yT z/\yF K H b Ty/\(s.ptr ≠ some z \/ Ty ≠ "bool")/\∀ a,zD [] H a->E (.ref CL) none a
theorem okSC (T:xN K CS) (G:yS K CS NR "Seat.come" j5 Nq) (t:Cal P w K mg base CX0 2 Sm NN u7) (d:qH K mg "NoLetter" CL) (a:Blt mg S9) (c:Blt mg "bool"):yD P w K mg base (CXE P w) 3 CS NR Nq (zJQ K CS CL):=by
 refine G.ozX zAL (λf u A j D H I Q E k h=>?_)
 obtain ⟨p,J,s,z,b,Ty,rfl,v,o,x,y,q⟩:=h
 have l:zZ 2 _:=k.mono (by decide)
 refine ⟨_,(zE (yB (zO t l (zA (pv 1) zB)))
   (zE (z4 (zT t8 (pv 1) (z8 (pv 0) rfl) (zX _)) (zF (wU (xS k) d)) zN)
   (zE (z4 (xB (y9 (zV yN a zQ (zA (pv 2) (zA (w6 c uX) zB))))) (zF (wU (xS k) d)) zN) xM))),?_⟩
 refine ⟨_,rfl,z,rfl,o.1,zMU o.2 (by decide),λr i=>?_⟩
 obtain ⟨⟨B,m⟩,_⟩:=v.keep i
 refine ⟨_,rfl,_,rfl,p,CS,B,_,_,rfl,m,T.cl,T.nP,fR _ _ _ _,oJ _ _,_,rfl,?_⟩
 by_cases n:s.ptr=some z
 ·have g:=x.keep i
  have e:(Ty == "bool")=false:=by simpa using y.resolve_left (not_not_intro n)
  exact ifF (by rw [kZ,zMY n];rfl) ⟨_,rfl,_,_,_,false,rfl,g.ty,(e ▸ g.kit.2.2.1),_,rfl,ifT rfl (q r i)⟩
 ·exact ifT (by rw [kZ,zMZ n];rfl) (q r i)
def rR (K:W.Frag) (C CS CR:Addr):Sp:=λb H _ E=>∃ B p c d e a r,b=[.ref p,r]/\yC B C CS H p c d e a/\yR K H r/\xJ r a.length=false/\E (.ref CR) none H
theorem zIE (T:y4 K C) (G:yS K C S3 "House.arrow" zAS N5) (g:Cal P w K mg base (CXE P w) 2 NS N9 (oI K CR)) (a:Blt mg S8):yD P w K mg base (CXE P w) 3 C S3 N5 (rR K C CS CR):=by
 refine G.ozX zF9 (λf i A b n H o Q E j h=>?_)
 obtain ⟨B,p,s,t,u,v,r,rfl,⟨k,nl,x,_,l,_,c,d,_⟩,⟨⟨Ty,m⟩,_⟩,bad,q⟩:=h
 have e:zZ 2 _:=j.mono (by decide)
 refine ⟨_,(zE (yB (vW g y0 e (zA (pv 1) (zA (zV yA a yP (zA (z8 (pv 0) rfl) zB)) zB)))) xM),?_⟩
 exact ⟨_,rfl,_,rfl,p,C,k,_,_,rfl,l,T.cl,T.nS,xZ _ _ _,_,_,rfl,.inl ⟨_,.of c,rfl⟩,r,Ty,_,by rw [zMJ,d];rfl,m,.inr ⟨bad,q⟩⟩
theorem zIB (T:y4 K C) (G:yS K C Sd "House.row" zAO N5) (g:Cal P w K mg base (CXE P w) 2 NS N9 (oI K CR)) (a:Blt mg S8):yD P w K mg base (CXE P w) 3 C Sd N5 (rR K C CS CR):=by
 refine G.ozX zF6 (λf i A b n H o Q E j h=>?_)
 obtain ⟨B,p,s,t,u,v,r,rfl,⟨k,nl,x,_,l,_,c,d,_⟩,⟨⟨Ty,m⟩,_⟩,bad,q⟩:=h
 have e:zZ 2 _:=j.mono (by decide)
 refine ⟨_,(zE (yB (vW g y0 e (zA (pv 1) (zA (zV yA a yP (zA (z8 (pv 0) rfl) zB)) zB)))) xM),?_⟩
 exact ⟨_,rfl,_,rfl,p,C,k,_,_,rfl,l,T.cl,T.nS,xZ _ _ _,_,_,rfl,.inl ⟨_,.of c,rfl⟩,r,Ty,_,by rw [zMJ,d];rfl,m,.inr ⟨bad,q⟩⟩
theorem zIC (T:y4 K C) (G:yS K C NX "House.inside" zAP N5) (g:Cal P w K mg base (CXE P w) 2 NS N9 (oI K CR)) (a:Blt mg S8):yD P w K mg base (CXE P w) 3 C NX N5 (rR K C CS CR):=by
 refine G.ozX zF7 (λf i A b n H o Q E j h=>?_)
 obtain ⟨B,p,s,t,u,v,r,rfl,⟨k,nl,x,_,l,_,c,d,_⟩,⟨⟨Ty,m⟩,_⟩,bad,q⟩:=h
 have e:zZ 2 _:=j.mono (by decide)
 refine ⟨_,(zE (yB (vW g y0 e (zA (pv 1) (zA (zV yA a yP (zA (z8 (pv 0) rfl) zB)) zB)))) xM),?_⟩
 exact ⟨_,rfl,_,rfl,p,C,k,_,_,rfl,l,T.cl,T.nS,xZ _ _ _,_,_,rfl,.inl ⟨_,.of c,rfl⟩,r,Ty,_,by rw [zMJ,d];rfl,m,.inr ⟨bad,q⟩⟩
theorem zID (T:y4 K C) (G:yS K C NU "House.has_asked" zAQ N5) (g:Cal P w K mg base (CXE P w) 2 NS N9 (oI K CR)) (a:Blt mg S8):yD P w K mg base (CXE P w) 3 C NU N5 (rR K C CS CR):=by
 refine G.ozX zF8 (λf i A b n H o Q E j h=>?_)
 obtain ⟨B,p,s,t,u,v,r,rfl,⟨k,nl,x,_,l,_,c,d,_⟩,⟨⟨Ty,m⟩,_⟩,bad,q⟩:=h
 have e:zZ 2 _:=j.mono (by decide)
 refine ⟨_,(zE (yB (vW g y0 e (zA (pv 1) (zA (zV yA a yP (zA (z8 (pv 0) rfl) zB)) zB)))) xM),?_⟩
 exact ⟨_,rfl,_,rfl,p,C,k,_,_,rfl,l,T.cl,T.nS,xZ _ _ _,_,_,rfl,.inl ⟨_,.of c,rfl⟩,r,Ty,_,by rw [zMJ,d];rfl,m,.inr ⟨bad,q⟩⟩
def cF (ss:List SS) (x:V):Prop:=xA x=false \/ ∃ z,x=.str z/\yT z/\z ∉ xC ss
def aU (K:W.Frag) (C CS CA:Addr):Sp:=λc H _ E=>∃ B p d e f a k x,c=[.ref p,x]/\yC B C CS H p d e f a/\uB k a/\k <= 60/\yR K H x/\cF a x/\∀ b,zD [] H b->E (.ref CA) none b
theorem zK0 (T:y4 K C) (G:yS K C Se "House.right_of" sRO N1) (CX:Cal P w K mg base (CXE P w) 2 NZ Nx (gN K CA)) (d:yD P w K mg base CX0 3 C Sh N4 (aT C CS)) (g:qH K mg SF CA):yD P w K mg base (CXE P w) 4 C Se N1 (aU K C CS CA):=by
 refine G.ozX zDT (λf v A j s0 H vs Q E c h=>?_)
 obtain ⟨B,p,y,D,J,o,k,x,rfl,L,I,hk,⟨⟨Ty,r⟩,s⟩,bad,q⟩:=h
 have l:zZ 3 _:=c.mono (by decide)
 have m:zZ 2 _:=c.mono (by decide)
 have M:=vS c
 refine ⟨_,(zE (yB (vW CX y0 m (zA (pv 1) zB)))
   (zE (z7 (i:=2) zDT.nd rfl (Or.inl rfl) (xH d T.cl l (pv 0)))
   (zE (z4 (kO (mT M (pv 1) (pv 2))) (zF (wU (xS c) g)) zN) xM))),?_⟩
 rcases bad with e | ⟨z,rfl,N,O⟩
 ·exact ⟨_,rfl,x,Ty,rfl,r,s,.inr ⟨e,q⟩⟩
 refine ⟨_,rfl,_,Ty,rfl,r,s,.inl ⟨N.1,λH1 t=>?_⟩⟩
 have b:=L.on t
 obtain ⟨U,nl,sl,_,Y,_⟩:=id b
 have n:(xC o).length < 64:=by have:=I.ln;omega
 refine ⟨_,rfl,p,U,_,rfl,Y,m6 _ _ _,B,p,y,D,J,o,rfl,b,I.nd,n,λa a0 H2 ha hv _ k2=>?_⟩
 have u:=tX.k (k:=Sum.inr z) ha
 rw [hv z O] at u
 exact ⟨_,rfl,_,rfl,a,_,rfl,u,_,rfl,ifT rfl (q H2 (t.trans k2))⟩
def eS (K:W.Frag) (C CS CA:Addr) (b:Bool):Sp:=λd H _ E=>∃ (B:Addr->Prop) (p:Addr) (e:Str) (f:List Str) (g:List (Addr × Addr)) (a:List SS) (k:Nat) (x:V),d=[.ref p,x]/\yC B C CS H p e f g a/\uB k a/\k <= 60/\yR K H x/\(cF a x \/ ∃ (z:Str) (i:Nat) (s:SS),x=.str z/\yT z/\a[i]?=some s/\z ∈ wW s/\(if b=true then s.hold=some z else s.hold ≠ some z))/\∀ c,zD [] H c->E (.ref CA) none c
theorem zK9 (T:y4 K C) (TS:xN K CS) (G:yS K C NW "House.leave" sHL N1) (Y:yD P w K mg base (CXE P w) 4 C Se N1 (aU K C CS CA)) (g:yD P w K mg base CX0 4 C Se N1 (aV C CS)) (ML:yD P w K mg base (CXE P w) 3 CS NW N1 (zJN CS CA)) (j:Cal P w K mg base CX0 1 Sf Nf oF):yD P w K mg base (CXE P w) 5 C NW N1 (eS K C CS CA true):=by
 refine G.ozX zAH (λf a0 A l s0 H vs Q E m h=>?_)
 obtain ⟨B,p,N,O,a,c,k,x,rfl,n,I,hk,pl,bad,q⟩:=h
 have b:zZ 4 _:=m.mono (by decide)
 have o:zZ 3 _:=m.mono (by decide)
 have r:zZ 1 _:=m.mono (by decide)
 obtain ⟨t,nl,sl,_,u,a1,v,a2,D⟩:=id n
 rcases bad with no | ⟨z,i,s,rfl,U,d,hz,hi⟩
 ·exact ⟨_,(zE (z7 (i:=2) zAH.nd rfl (Or.inl rfl) (xX Y y0 T.cl b (pv 0) (zA (pv 1) zB))) xM),_,rfl,p,t,_,rfl,u,rfl,_,rfl,B,p,N,O,a,c,k,x,rfl,n,I,hk,pl,no,q⟩
 have J:(xC c).length < 64:=by have:=I.ln;omega
 refine ⟨_,(zE (z7 (i:=2) zAH.nd rfl (Or.inl rfl) (xV g T.cl b (pv 0) (zA (pv 1) zB))) (zF (zL (zO j r (zA (pv 2) (zA (xX ML y0 TS.cl o (zS z6 (z8 (pv 0) rfl) (pv 2) (λ_ _=>rfl)) (zA (pv 1) zB)) zB)))))),?_⟩
 refine ⟨_,rfl,p,t,_,rfl,u,rfl,_,rfl,B,p,N,O,a,c,z,i,s,rfl,n,I.nd,J,d,hz,U,λH1 e=>?_⟩
 have il:i < c.length:=(zML.mp d).1
 have L:a[i]?=some (a[i]'(by omega)):=zMK (by omega)
 generalize a[i]'(by omega)=y at L
 have S:=(D i y s L d).keep e
 obtain ⟨dy,M⟩:=S.ob
 exact ⟨_,rfl,_,rfl,p,C,t,_,_,rfl,e.z u,T.cl,T.nS,xZ _ _ _,_,rfl,sl,_,i,_,rfl,rfl,e.z v,wI L,y.1,dy,_,rfl,M,rfl,_,rfl,y.1,y.2,s,z,rfl,S,U,fO I.nd d hi,λH2 k2=>q H2 (e.trans k2)⟩
theorem zLD (T:y4 K C) (TS:xN K CS) (G:yS K C NY "House.done" sHD N1) (Y:yD P w K mg base (CXE P w) 4 C Se N1 (aU K C CS CA)) (e:yD P w K mg base CX0 4 C Se N1 (aV C CS)) (ML:yD P w K mg base (CXE P w) 3 CS NY N1 (zJP CS CA)) (g:Cal P w K mg base CX0 1 Sf Nf oF):yD P w K mg base (CXE P w) 5 C NY N1 (eS K C CS CA false):=by
 refine G.ozX zAI (λf a0 A j s0 H vs Q E l h=>?_)
 obtain ⟨B,p,N,O,a,c,k,x,rfl,m,I,hk,pl,bad,q⟩:=h
 have b:zZ 4 _:=l.mono (by decide)
 have n:zZ 3 _:=l.mono (by decide)
 have o:zZ 1 _:=l.mono (by decide)
 obtain ⟨r,nl,sl,_,t,a1,u,a2,v⟩:=id m
 rcases bad with no | ⟨z,i,s,rfl,U,D,hz,hi⟩
 ·exact ⟨_,(zE (z7 (i:=2) zAI.nd rfl (Or.inl rfl) (xX Y y0 T.cl b (pv 0) (zA (pv 1) zB))) xM),_,rfl,p,r,_,rfl,t,rfl,_,rfl,B,p,N,O,a,c,k,x,rfl,m,I,hk,pl,no,q⟩
 have J:(xC c).length < 64:=by have:=I.ln;omega
 refine ⟨_,(zE (z7 (i:=2) zAI.nd rfl (Or.inl rfl) (xV e T.cl b (pv 0) (zA (pv 1) zB))) (zF (zL (zO g o (zA (pv 2) (zA (xX ML y0 TS.cl n (zS z6 (z8 (pv 0) rfl) (pv 2) (λ_ _=>rfl)) (zA (pv 1) zB)) zB)))))),?_⟩
 refine ⟨_,rfl,p,r,_,rfl,t,rfl,_,rfl,B,p,N,O,a,c,z,i,s,rfl,m,I.nd,J,D,hz,U,λH1 d=>?_⟩
 have il:i < c.length:=(zML.mp D).1
 have L:a[i]?=some (a[i]'(by omega)):=zMK (by omega)
 generalize a[i]'(by omega)=y at L
 have S:=(v i y s L D).keep d
 obtain ⟨dy,M⟩:=S.ob
 exact ⟨_,rfl,_,rfl,p,C,r,_,_,rfl,d.z t,T.cl,T.nS,xZ _ _ _,_,rfl,sl,_,i,_,rfl,rfl,d.z u,wI L,y.1,dy,_,rfl,M,rfl,_,rfl,y.1,y.2,s,z,rfl,S,U,hi,λH2 k2=>q H2 (d.trans k2)⟩
def zFX (K:W.Frag) (C CS CA CR:Addr):Sp:=λc H _ E=>∃ B p d e f b k x r,c=[.ref p,x,r]/\yC B C CS H p d e f b/\uB k b/\k <= 60/\yR K H x/\yR K H r /\
 ((xA x=false/\∀ a,zD [] H a->E (.ref CA) none a) \/ (∃ z,x=.str z/\yT z/\r ≠ .non/\xJ r b.length=false/\∀ a,zD [] H a->E (.ref CR) none a) \/ (∃ z,x=.str z/\yT z/\(r=.non \/ xJ r b.length=true)/\z ∈ xC b/\∀ a,zD [] H a->E (.ref CA) none a))
theorem zK7 (T:y4 K C) (G:yS K C Sa "House.want" sHW Ng) (CX:Cal P w K mg base (CXE P w) 2 NZ Nx (gN K CA)) (CK:Cal P w K mg base (CXE P w) 2 NS N9 (oI K CR)) (M:yD P w K mg base CX0 3 C Sh N4 (aT C CS)) (N:qH K mg SF CA) (d:Blt mg S8):yD P w K mg base (CXE P w) 4 C Sa Ng (zFX K C CS CA CR):=by
 refine G.ozX zHJ (λf a1 A O s0 H vs Q E y h=>?_)
 obtain ⟨B,p,nm,nb,xs,D,k,x,r,rfl,U,I,hk,⟨⟨Ty,Y⟩,sz⟩,⟨⟨Tr,l⟩,_⟩,bad⟩:=h
 have a0:zZ 3 _:=y.mono (by decide)
 have m:zZ 2 _:=y.mono (by decide)
 have hu:=vS y
 obtain ⟨J,nl,sl,_,L,a2,n,o,_⟩:=id U
 have t:(xC D).length < 64:=by have:=I.ln;omega
 refine ⟨_,(zE (yB (vW CX y0 m (zA (pv 1) zB)))
   (zE (z4 (zT vX (pv 2) yQ (zX _)) (zF (yB (vW CK y0 m (zA (pv 2) (zA (zV yA d yP (zA (z8 (pv 0) rfl) zB)) zB))))) zN)
   (zE (z4 (kO (zBF hu (pv 1) (xH M T.cl a0 (pv 0)))) (zF (wU (xS y) N)) zN) xM))),?_⟩
 rcases bad with ⟨e,q⟩ | ⟨z,rfl,gz,nr,g,q⟩ | ⟨z,rfl,gz,g,mz,q⟩
 ·exact ⟨_,rfl,x,Ty,rfl,Y,sz,.inr ⟨e,q⟩⟩
 ·refine ⟨_,rfl,_,Ty,rfl,Y,sz,.inl ⟨gz.1,λH1 b=>?_⟩⟩
  exact ⟨_,rfl,rfl,_,rfl,ifT (by rw [zMZ nr];rfl) ⟨_,rfl,_,rfl,p,C,J,_,_,rfl,b.z L,T.cl,T.nS,xZ _ _ _,_,_,rfl,.inl ⟨_,.of (b.z n),rfl⟩,r,Tr,_,by rw [zMJ,o];rfl,l.keep b,.inr ⟨g,q H1 b⟩⟩⟩
 ·refine ⟨_,rfl,_,Ty,rfl,Y,sz,.inl ⟨gz.1,λH1 b=>?_⟩⟩
  obtain ⟨i,s,es,hz⟩:=vC.mp mz
  have dg:∀ {j:Hp} {a:Addr} {c:List (Key × V)},j a=some (.dK c)->(∀ (z:Str) (i:Nat) (s:SS),D[i]?=some s->z ∈ wW s->tI c (.inr z)=some (.int (i:Int)))->tX j a (.str z) (some (.int (i:Int))):=λu v=>v z i s es hz ▸ tX.k (k:=Sum.inr z) u
  refine ⟨_,rfl,rfl,_,rfl,?_⟩
  rcases g with rfl | g
  ·exact ifF rfl ⟨_,rfl,_,rfl,p,J,_,rfl,b.z L,m6 _ _ _,B,p,nm,nb,xs,D,rfl,U.on b,I.nd,t,λa c j u _ v k2=>⟨a,_,rfl,dg u v,_,rfl,ifT rfl (q j (b.trans k2))⟩⟩
  ·refine ifT (by cases r <;> first | rfl | cases g) ⟨_,rfl,_,rfl,p,C,J,_,_,rfl,b.z L,T.cl,T.nS,xZ _ _ _,_,_,rfl,.inl ⟨_,.of (b.z n),rfl⟩,r,Tr,_,by rw [zMJ,o];rfl,l.keep b,.inl ⟨g,_,rfl,_,rfl,p,J,_,rfl,b.z L,m6 _ _ _,B,p,nm,nb,xs,D,rfl,U.on b,I.nd,t,λa c j u _ v k2=>⟨a,_,rfl,dg u v,_,rfl,ifT rfl (q j (b.trans k2))⟩⟩⟩
end
abbrev sLk:Stmt:=top 53
inductive DR where
 | look (w:Nat) (r:V) | leave (x:V) | done (x:V) | want (x r:V) | ask (x r:V) | come (x r b:V)
noncomputable def iS (w:Nat):Str:=([S3,Sd,NX,NU]:List Str).getD w ""
noncomputable def drV:DR->List V
 | .look w r=>[.str (iS w),r]
 | .leave x=>[.str NW,x]
 | .done x=>[.str NY,x]
 | .want x r=>[.str Sa,x,r]
 | .ask x r=>[.str NT,x,r]
 | .come x r b=>[.str NR,x,r,b]
def DPl (K:W.Frag) (H:Hp):DR->Prop
 | .look w r=>w < 4/\yR K H r
 | .leave x=>yR K H x
 | .done x=>yR K H x
 | .want x r=>yR K H x/\yR K H r
 | .ask x r=>yR K H x/\yR K H r
 | .come x r b=>yR K H x/\yR K H r/\yR K H b
theorem DPl.on (h:DPl K H e) (k:zD [] H a):DPl K a e:=by
 cases e with
 | look w r=>exact ⟨h.1,h.2.on k⟩
 | leave x=>exact yR.on h k
 | done x=>exact yR.on h k
 | want x r=>exact ⟨h.1.on k,h.2.on k⟩
 | ask x r=>exact ⟨h.1.on k,h.2.on k⟩
 | come x r b=>exact ⟨h.1.on k,h.2.1.on k,h.2.2.on k⟩
inductive Why (ss:List SS) (nb:List Str):DR->Option Nat->Prop where
 | no (e:DR):Why ss nb e none
 | look (w:Nat) (r:V):xJ r ss.length=false->Why ss nb (.look w r) (some 5)
 | wantN (x r:V):xA x=false->Why ss nb (.want x r) (some 3)
 | wantR (z:Str) (r:V):yT z->r ≠ .non->xJ r ss.length=false->Why ss nb (.want (.str z) r) (some 5)
 | wantT (z:Str) (r:V):yT z->(r=.non \/ xJ r ss.length=true)->z ∈ xC ss->Why ss nb (.want (.str z) r) (some 3)
 | leaveN (x:V):cF ss x->Why ss nb (.leave x) (some 3)
 | leaveI (z:Str) (i:Nat) (s:SS):yT z->ss[i]?=some s->z ∈ wW s->s.hold=some z->Why ss nb (.leave (.str z)) (some 3)
 | doneN (x:V):cF ss x->Why ss nb (.done x) (some 3)
 | doneW (z:Str) (i:Nat) (s:SS):yT z->ss[i]?=some s->z ∈ wW s->s.hold ≠ some z->Why ss nb (.done (.str z)) (some 3)
 | askN (x r:V):u9 x nb=false->Why ss nb (.ask x r) (some 1)
 | askR (z:Str) (r:V):z ∈ nb->xJ r ss.length=false->Why ss nb (.ask (.str z) r) (some 5)
 | askS (z:Str) (i:Nat) (s:SS):z ∈ nb->ss[i]?=some s->(s.ptr=some z \/ hsR z ∈ s.row)->Why ss nb (.ask (.str z) (.int (i:Int))) (some 4)
 | comeN (x r b:V):u9 x nb=false->Why ss nb (.come x r b) (some 1)
 | comeR (z:Str) (r b:V):z ∈ nb->xJ r ss.length=false->Why ss nb (.come (.str z) r b) (some 5)
 | comeS (z:Str) (i:Nat) (s:SS) (b:V):z ∈ nb->ss[i]?=some s->(s.ptr ≠ some z \/ ∀ t,b ≠ .bl t)->Why ss nb (.come (.str z) (.int (i:Int)) b) (some 4)
theorem zBN (h:yF K H b Ty) (n:∀ t,b ≠ .bl t):Ty ≠ "bool":=by
 cases h with
 | bl x=>exact absurd rfl (n x)
 | _=>decide
section
variable {P:Program} {w:World} {K:W.Frag} {mg:Str->Option Value} {base:Heap} {C CS CA CH CL CR:Addr}
def zAA (K:W.Frag) (C CS CH CR:Addr):Sp:=λd H _ E=>∃ B p e b f c k x r,d=[.ref p,x,r]/\yC B C CS H p e b f c/\uB k c/\k <= 60/\yR K H x/\yR K H r/\((u9 x b=false/\∀ a,zD [] H a->E (.ref CH) none a) \/ (u9 x b=true/\xJ r c.length=false/\∀ a,zD [] H a->E (.ref CR) none a))
theorem zLI (T:y4 K C) (G:yS K C S6 "House.check_letter" sCL N6) (t:Cal P w K mg base CX0 2 SE NB (lS K)) (u:Cal P w K mg base (CXE P w) 2 NS N9 (oI K CR)) (d:qH K mg "NoHouse" CH) (a:Blt mg S8):yD P w K mg base (CXE P w) 3 C S6 N6 (zAA K C CS CH CR):=by
 refine G.ozX zKO (λf v A g Y H vs Q E m h=>?_)
 obtain ⟨B,p,nm,y,xs,ss,k,x,r,rfl,D,I,hk,⟨⟨J,L⟩,M⟩,⟨⟨N,O⟩,_⟩,bad⟩:=h
 have b:zZ 2 _:=m.mono (by decide)
 obtain ⟨n,nl,sl,_,o,i,j,l,_⟩:=id D
 refine ⟨_,(zE (z4 (xB (y9 (zO t b (zA (pv 1) (zA (z8 (pv 0) rfl) zB))))) (zF (wU (xS m) d)) zN)
   (zF (yB (vW u y0 b (zA (pv 2) (zA (zV yA a yP (zA (z8 (pv 0) rfl) zB)) zB)))))),?_⟩
 refine ⟨_,rfl,_,rfl,p,C,n,_,_,rfl,o,T.cl,T.nB,zGN _ _ _,x,J,nl,y,rfl,L,M,i,λs c=>⟨_,rfl,?_⟩⟩
 rcases bad with ⟨e,q⟩ | ⟨e,U,q⟩
 ·exact ifT (by rw [e];rfl) (q s c)
 ·exact ifF (by rw [e];rfl) ⟨_,rfl,_,rfl,p,C,n,_,_,rfl,c.z o,T.cl,T.nS,xZ _ _ _,_,_,rfl,.inl ⟨_,.of (c.z j),rfl⟩,r,N,_,by rw [zMJ,l];rfl,O.keep c,.inr ⟨U,q s c⟩⟩
def zGT (ss:List SS) (b:List Str) (x r:V) (CH CR:Addr) (H:Hp) (E:XK):Prop:=(u9 x b=false/\∀ a,zD [] H a->E (.ref CH) none a) \/ (u9 x b=true/\xJ r ss.length=false/\∀ a,zD [] H a->E (.ref CR) none a)
def zFZ (K:W.Frag) (C CS CH CR CL:Addr):Sp:=λd H _ E=>∃ (B:Addr->Prop) (p:Addr) (e:Str) (a:List Str) (f:List (Addr × Addr)) (b:List SS) (k:Nat) (x r:V),d=[.ref p,x,r]/\yC B C CS H p e a f b/\uB k b/\k <= 60/\yR K H x/\yR K H r/\(∀ z ∈ a,yT z)/\(zGT b a x r CH CR H E \/ ∃ (z:Str) (i:Nat) (s:SS),x=.str z/\r=.int (i:Int)/\z ∈ a/\b[i]?=some s/\(s.ptr=some z \/ hsR z ∈ s.row)/\∀ c,zD [] H c->E (.ref CL) none c)
theorem zLA (T:y4 K C) (TS:xN K CS) (G:yS K C NT "House.ask" sHK N6) (Y:yD P w K mg base (CXE P w) 3 C S6 N6 (zAA K C CS CH CR)) (e:yD P w K mg base CX0 3 C S6 N6 (zAB C CS)) (MS:yD P w K mg base (CXE P w) 3 CS NT NA (zJO CS CL)) (g:Cal P w K mg base CX0 1 Sf Nf oF):yD P w K mg base (CXE P w) 4 C NT N6 (zFZ K C CS CH CR CL):=by
 refine G.ozX zKK (λf a0 A j s0 H vs Q E M h=>?_)
 obtain ⟨B,p,N,O,b,l,k,x,r,rfl,m,I,hk,px,pr,c,bad⟩:=h
 have a:zZ 3 _:=M.mono (by decide)
 have n:zZ 1 _:=M.mono (by decide)
 obtain ⟨o,nl,sl,_,t,a1,u,a2,v⟩:=id m
 rcases bad with bad | ⟨z,i,s,rfl,rfl,D,U,hb,q⟩
 ·exact ⟨_,(zE (yB (xX Y y0 T.cl a (pv 0) (zA (pv 1) (zA (pv 2) zB)))) xM),_,rfl,p,o,_,rfl,t,rfl,_,rfl,_,rfl,B,p,N,O,b,l,k,x,r,rfl,m,I,hk,px,pr,bad⟩
 have il:i < l.length:=(zML.mp U).1
 refine ⟨_,(zE (yB (xV e T.cl a (pv 0) (zA (pv 1) (zA (pv 2) zB)))) (zF (zL (zO g n (zA (pv 2) (zA (xX MS y0 TS.cl a (zS z6 (z8 (pv 0) rfl) (pv 2) (λ_ _=>rfl)) (zA (pv 1) zB)) zB)))))),?_⟩
 refine ⟨_,rfl,p,o,_,rfl,t,rfl,_,rfl,_,rfl,B,p,N,O,b,l,z,i,rfl,m,D,c z D,il,λH1 d=>?_⟩
 have J:b[i]?=some (b[i]'(by omega)):=zMK (by omega)
 generalize b[i]'(by omega)=y at J
 have S:=(v i y s J U).keep d
 obtain ⟨dy,L⟩:=S.ob
 exact ⟨_,rfl,_,rfl,p,C,o,_,_,rfl,d.z t,T.cl,T.nS,xZ _ _ _,_,rfl,sl,_,i,_,rfl,rfl,d.z u,wI J,y.1,dy,_,rfl,L,rfl,_,rfl,y.1,y.2,s,z,rfl,S,c z D,hb,λH2 k2=>q H2 (d.trans k2)⟩
def zF2 (K:W.Frag) (C CS CH CR CL:Addr):Sp:=λe H _ E=>∃ (B:Addr->Prop) (p:Addr) (f:Str) (a:List Str) (g:List (Addr × Addr)) (c:List SS) (k:Nat) (x r b:V),e=[.ref p,x,r,b]/\yC B C CS H p f a g c/\uB k c/\k <= 60/\yR K H x/\yR K H r/\(∀ z ∈ a,yT z)/\(zGT c a x r CH CR H E \/ ∃ (z:Str) (i:Nat) (s:SS) (Ty:String),x=.str z/\r=.int (i:Int)/\z ∈ a/\c[i]?=some s/\yF K H b Ty/\(s.ptr ≠ some z \/ Ty ≠ "bool")/\∀ d,zD [] H d->E (.ref CL) none d)
theorem zLE (T:y4 K C) (TS:xN K CS) (G:yS K C NR "House.come" sHC Nb) (MX:yD P w K mg base (CXE P w) 3 C S6 N6 (zAA K C CS CH CR)) (g:yD P w K mg base CX0 3 C S6 N6 (zAB C CS)) (MS:yD P w K mg base (CXE P w) 3 CS NR Nq (zJQ K CS CL)) (j:Cal P w K mg base CX0 1 Sf Nf oF):yD P w K mg base (CXE P w) 4 C NR Nb (zF2 K C CS CH CR CL):=by
 refine G.ozX zKL (λf a0 A l s0 H vs Q E N h=>?_)
 obtain ⟨B,p,O,U,c,m,k,x,r,b,rfl,n,I,hk,px,pr,d,bad⟩:=h
 have a:zZ 3 _:=N.mono (by decide)
 have o:zZ 1 _:=N.mono (by decide)
 obtain ⟨t,nl,sl,_,u,a1,v,a2,D⟩:=id n
 rcases bad with bad | ⟨z,i,s,Ty,rfl,rfl,J,Y,pb,hb,q⟩
 ·exact ⟨_,(zE (yB (xX MX y0 T.cl a (pv 0) (zA (pv 1) (zA (pv 2) zB)))) xM),_,rfl,p,t,_,rfl,u,rfl,_,rfl,_,rfl,B,p,O,U,c,m,k,x,r,rfl,n,I,hk,px,pr,bad⟩
 have il:i < m.length:=(zML.mp Y).1
 refine ⟨_,(zE (yB (xV g T.cl a (pv 0) (zA (pv 1) (zA (pv 2) zB)))) (zF (zL (zO j o (zA (pv 2) (zA (xX MS y0 TS.cl a (zS z6 (z8 (pv 0) rfl) (pv 2) (λ_ _=>rfl)) (zA (pv 1) (zA (pv 3) zB))) zB)))))),?_⟩
 refine ⟨_,rfl,p,t,_,rfl,u,rfl,_,rfl,_,rfl,B,p,O,U,c,m,z,i,rfl,n,J,d z J,il,λH1 e=>?_⟩
 have L:c[i]?=some (c[i]'(by omega)):=zMK (by omega)
 generalize c[i]'(by omega)=y at L
 have S:=(D i y s L Y).keep e
 obtain ⟨dy,M⟩:=S.ob
 exact ⟨_,rfl,_,rfl,p,C,t,_,_,rfl,e.z u,T.cl,T.nS,xZ _ _ _,_,rfl,sl,_,i,_,rfl,rfl,e.z v,wI L,y.1,dy,_,rfl,M,rfl,_,rfl,_,rfl,y.1,y.2,s,z,b,Ty,rfl,S,d z J,pb.keep e,hb,λH2 k2=>q H2 (e.trans k2)⟩
end
section
variable {P:Program} {w:World} {K:W.Frag} {mg:Str->Option Value} {base:Heap} {C CS:Addr} {cs:Nat->Addr}
def jT (K:W.Frag) (C CS:Addr) (cs:Nat->Addr) (d:Bool):Sp:=λf H _ E=>∃ B p g a h b k q e i,f=[.ref p,.ref q]/\yC B C CS H p g a h b/\uB k b/\k <= 60/\(∀ z ∈ a,yT z)/\H q=some (.tup (drV e))/\DPl K H e/\(d=false->∀ w r,e ≠ .look w r)/\Why b a e (some i)/\∀ c,zD [] H c->E (.ref (cs i)) none c
theorem zK1 (T:y4 K C) (G:yM K mg Sz sPu N7) (HW:yD P w K mg base (CXE P w) 4 C Sa Ng (zFX K C CS (cs 3) (cs 5))) (HL:yD P w K mg base (CXE P w) 5 C NW N1 (eS K C CS (cs 3) true)) (HD:yD P w K mg base (CXE P w) 5 C NY N1 (eS K C CS (cs 3) false)) (HK:yD P w K mg base (CXE P w) 4 C NT N6 (zFZ K C CS (cs 1) (cs 5) (cs 4))) (HC:yD P w K mg base (CXE P w) 4 C NR Nb (zF2 K C CS (cs 1) (cs 5) (cs 4))):Cal P w K mg base (CXE P w) 6 Sz N7 (jT K C CS cs false):=by
 refine G.ozX zKH (λf a0 A O s0 H vs Q E U h=>?_)
 obtain ⟨B,p,v,d,y,D,k,q,e,i,rfl,u,I,J,l,a,c,nl,o,bad⟩:=h
 have L:zZ 5 _:=U.mono (by decide)
 have t:zZ 4 _:=U.mono (by decide)
 obtain ⟨M,_,_,_,N,_⟩:=id u
 refine ⟨_,(zE (z4 (zT xF (zS zU (pv 1) zH (λ_ _=>rfl)) zJ (zX _)) (zF (zL (xX HW y0 T.cl t (pv 0) (zA (zS zU (pv 1) zH (λ_ _=>rfl)) (zA (zS zU (pv 1) zH (λ_ _=>rfl)) zB))))) zN)
   (zE (z4 (zT xF (zS zU (pv 1) zH (λ_ _=>rfl)) zJ (zX _)) (zF (zL (xX HL y0 T.cl L (pv 0) (zA (zS zU (pv 1) zH (λ_ _=>rfl)) zB)))) zN)
   (zE (z4 (zT xF (zS zU (pv 1) zH (λ_ _=>rfl)) zJ (zX _)) (zF (zL (xX HD y0 T.cl L (pv 0) (zA (zS zU (pv 1) zH (λ_ _=>rfl)) zB)))) zN)
   (zE (z4 (zT xF (zS zU (pv 1) zH (λ_ _=>rfl)) zJ (zX _)) (zF (zL (xX HK y0 T.cl t (pv 0) (zA (zS zU (pv 1) zH (λ_ _=>rfl)) (zA (zS zU (pv 1) zH (λ_ _=>rfl)) zB))))) zN)
   (zF (zL (xX HC y0 T.cl t (pv 0) (zA (zS zU (pv 1) zH (λ_ _=>rfl)) (zA (zS zU (pv 1) zH (λ_ _=>rfl)) (zA (zS zU (pv 1) zH (λ_ _=>rfl)) zB)))))))))),?_⟩
 have one:∀ z ∈ d,u9 (.str z) d=true:=λz Y=>by
  have e2:inV (.str z) (d.map V.str)=true:=by
   unfold inV
   rw [List.any_map,List.any_eq_true]
   exact ⟨z,Y,by show (z == z)=true;simp⟩
  unfold u9
  rw [e2,show xA (.str z)=true from (l z Y).1];rfl
 cases e with
 | look w r=>exact absurd rfl (nl rfl w r)
 | want x r=>
  refine qJ rfl a ⟨_,rfl,p,M,_,rfl,N,rfl,_,rfl,q,_,1,_,rfl,rfl,a,at1 _ _ _,_,rfl,q,_,2,_,rfl,rfl,a,at2 _ _ _ _,B,p,v,d,y,D,k,x,r,rfl,u,I,J,c.1,c.2,?_⟩
  cases o with
  | wantN _ _ h=>exact .inl ⟨h,bad⟩
  | wantR z _ g n h=>exact .inr (.inl ⟨z,rfl,g,n,h,bad⟩)
  | wantT z _ g h m=>exact .inr (.inr ⟨z,rfl,g,h,m,bad⟩)
 | leave x=>
  refine sno rfl a (qJ rfl a ⟨_,rfl,p,M,_,rfl,N,rfl,_,rfl,q,_,1,_,rfl,rfl,a,at1 _ _ _,B,p,v,d,y,D,k,x,rfl,u,I,J,c,?_,?_⟩)
  ·cases o with
   | leaveN _ h=>exact .inl h
   | leaveI z j s g e m h=>exact .inr ⟨z,j,s,rfl,g,e,m,h⟩
  ·cases o <;> exact bad
 | done x=>
  refine sno rfl a (sno rfl a (qJ rfl a ⟨_,rfl,p,M,_,rfl,N,rfl,_,rfl,q,_,1,_,rfl,rfl,a,at1 _ _ _,B,p,v,d,y,D,k,x,rfl,u,I,J,c,?_,?_⟩))
  ·cases o with
   | doneN _ h=>exact .inl h
   | doneW z j s g e m h=>exact .inr ⟨z,j,s,rfl,g,e,m,h⟩
  ·cases o <;> exact bad
 | ask x r=>
  refine sno rfl a (sno rfl a (sno rfl a (qJ rfl a ⟨_,rfl,p,M,_,rfl,N,rfl,_,rfl,q,_,1,_,rfl,rfl,a,at1 _ _ _,_,rfl,q,_,2,_,rfl,rfl,a,at2 _ _ _ _,B,p,v,d,y,D,k,x,r,rfl,u,I,J,c.1,c.2,l,?_⟩)))
  cases o with
  | askN _ _ h=>exact .inl (.inl ⟨h,bad⟩)
  | askR z _ m h=>exact .inl (.inr ⟨one z m,h,bad⟩)
  | askS z j s m e h=>exact .inr ⟨z,j,s,rfl,rfl,m,e,h,bad⟩
 | come x r b=>
  refine sno rfl a (sno rfl a (sno rfl a (sno rfl a ⟨_,rfl,p,M,_,rfl,N,rfl,_,rfl,q,_,1,_,rfl,rfl,a,at1 _ _ _,_,rfl,q,_,2,_,rfl,rfl,a,at2 _ _ _ _,_,rfl,q,_,3,_,rfl,rfl,a,at3 _ _ _ _ _,B,p,v,d,y,D,k,x,r,b,rfl,u,I,J,c.1,c.2.1,l,?_⟩)))
  cases o with
  | comeN _ _ _ h=>exact .inl (.inl ⟨h,bad⟩)
  | comeR z _ _ m h=>exact .inl (.inr ⟨one z m,h,bad⟩)
  | comeS z j s _ m e h=>
   obtain ⟨⟨Ty,pb⟩,_⟩:=c.2.2
   exact .inr ⟨z,j,s,Ty,rfl,rfl,m,e,pb,h.imp id λn=>zBN pb n,bad⟩
theorem scLk:zM N7 N7 (zG sLk):=scm
theorem zK3 (T:y4 K C) (G:yM K mg "_law_look" sLk N7) (L:yD P w K mg base (CXE P w) 3 C S3 N5 (rR K C CS (cs 5))) (M:yD P w K mg base (CXE P w) 3 C Sd N5 (rR K C CS (cs 5))) (N:yD P w K mg base (CXE P w) 3 C NX N5 (rR K C CS (cs 5))) (O:yD P w K mg base (CXE P w) 3 C NU N5 (rR K C CS (cs 5))) (j:Cal P w K mg base (CXE P w) 6 Sz N7 (jT K C CS cs false)):Cal P w K mg base (CXE P w) 7 "_law_look" N7 (jT K C CS cs true):=by
 refine G.ozX scLk (λf U A l s0 H vs Q E x h=>?_)
 obtain ⟨B,p,y,z,D,m,k,q,e,i,rfl,o,I,Y,s,a,t,_,J,bad⟩:=h
 have u:zZ 6 _:=x.mono (by decide)
 have b:zZ 3 _:=x.mono (by decide)
 obtain ⟨c,_,_,_,d,_⟩:=id o
 refine ⟨_,(zE (z4 (zT xF (zS zU (pv 1) zH (λ_ _=>rfl)) zJ (zX _)) (zF (zL (xX L y0 T.cl b (pv 0) (zA (zS zU (pv 1) zH (λ_ _=>rfl)) zB)))) zN)
   (zE (z4 (zT xF (zS zU (pv 1) zH (λ_ _=>rfl)) zJ (zX _)) (zF (zL (xX M y0 T.cl b (pv 0) (zA (zS zU (pv 1) zH (λ_ _=>rfl)) zB)))) zN)
   (zE (z4 (zT xF (zS zU (pv 1) zH (λ_ _=>rfl)) zJ (zX _)) (zF (zL (xX N y0 T.cl b (pv 0) (zA (zS zU (pv 1) zH (λ_ _=>rfl)) zB)))) zN)
   (zE (z4 (zT xF (zS zU (pv 1) zH (λ_ _=>rfl)) zJ (zX _)) (zF (zL (xX O y0 T.cl b (pv 0) (zA (zS zU (pv 1) zH (λ_ _=>rfl)) zB)))) zN)
   (zF (zL (vW j y0 u (zA (pv 0) (zA (pv 1) zB))))))))),?_⟩
 have put:(∀ w r,e ≠ .look w r)->jT K C CS cs false [.ref p,.ref q] H Q E:=λn=>⟨B,p,y,z,D,m,k,q,e,i,rfl,o,I,Y,s,a,t,λ_=>n,J,bad⟩
 cases e with
 | look w r=>
  have v:xJ r m.length=false/\i=5:=by cases J with | look _ _ h=>exact ⟨h,rfl⟩
  obtain ⟨v,rfl⟩:=v
  have E5:=bad H (zD.refl _)
  have g:rR K C CS (cs 5) [.ref p,r] H Q E:=⟨B,p,y,z,D,m,r,rfl,o,t.2,v,E5⟩
  rcases (show w=0 \/ w=1 \/ w=2 \/ w=3 by have:=t.1;omega) with rfl | rfl | rfl | rfl
  ·exact qJ rfl a ⟨_,rfl,p,c,_,rfl,d,rfl,_,rfl,q,_,1,_,rfl,rfl,a,at1 _ _ _,g⟩
  ·exact sno rfl a (qJ rfl a ⟨_,rfl,p,c,_,rfl,d,rfl,_,rfl,q,_,1,_,rfl,rfl,a,at1 _ _ _,g⟩)
  ·exact sno rfl a (sno rfl a (qJ rfl a ⟨_,rfl,p,c,_,rfl,d,rfl,_,rfl,q,_,1,_,rfl,rfl,a,at1 _ _ _,g⟩))
  ·exact sno rfl a (sno rfl a (sno rfl a (qJ rfl a ⟨_,rfl,p,c,_,rfl,d,rfl,_,rfl,q,_,1,_,rfl,rfl,a,at1 _ _ _,g⟩)))
 | _=>
  exact sno rfl a (sno rfl a (sno rfl a (sno rfl a ⟨_,rfl,_,rfl,put (λw r h=>by cases h)⟩)))
end
abbrev zAN:Stmt:=top 55
abbrev sIR:Stmt:=top 56
abbrev sWA:Stmt:=top 57
abbrev sWy:Stmt:=top 58
noncomputable def pC:List Str:=["tree",NV,"seat",NQ,"letter",SK,Sd,"tie","down","mend","text","line"]
noncomputable def rA (i:Nat):Str:=pC.getD i ""
theorem zDF (a:i < 12):(pC.map V.str)[i]?=some (.str (rA i)):=by
 have e:pC.length=12:=rfl
 rw [zMP,zMK (by rw [e];exact a)]
 unfold rA
 rw [zMO,zMK (by rw [e];exact a)];rfl
noncomputable def zJC:Option Nat->V
 | none=>.non
 | some i=>.str (rA i)
theorem zE3 (h:vP z=true):yT z:=⟨h,by unfold vP at h;simp at h;exact h.1.2⟩
def zME (ss:List SS) (z:Str) (v:V):Prop:=(v=.non/\z ∉ xC ss) \/ ∃ (i:Nat) (s:SS),v=.int (i:Int)/\ss[i]?=some s/\z ∈ wW s
theorem zDM (b:vD Y H st ys ss) (l:ss.length <= 100) (q:∀ v a,zME ss z v->zD [] H a->Q v a):aS [.ref st,.str z] H Q E:=⟨Y,st,ys,ss,z,rfl,b,l,λa n k=>q _ a (.inl ⟨rfl,n⟩) k,λi s a e m k=>q _ a (.inr ⟨i,s,rfl,e,m⟩) k⟩
theorem qI (g:∀ e R,zD [] H e->(∀ d,zD [] e d->R (.int (if b=true then 1 else 0)) d)->h i e R) (q:∀ e,zD [] H e->Q (if b=true then c else a) e):tOp iB (jQ (uC (tC a) (uC (tC c) rP))) h i H Q:=by
 refine ⟨by show 2 <= sizeLine;decide,λl f=>g _ _ (zD.new f) λd k=>⟨l,[a,c],_,_,rfl,rfl,k.z zC,?_,q d ((zD.new f).trans k)⟩⟩
 cases b <;> rfl
section
variable {P:Program} {w:World} {K:W.Frag} {mg:Str->Option Value} {base:Heap} {C:Addr}
theorem zKI:zM NH NH (zG zAN):=scm
def aX (K:W.Frag):Sp:=λb H Q _=>∃ x,b=[x]/\yR K H x/\∀ a,zD [] H a->Q (.bl (xA x)) a
theorem zK5 (G:yM K mg SD zAN NH) (a:Blt mg S9) (b:Blt mg "str") (d:Blt mg S8) (g:Blt mg "all"):Cal P w K mg base CX0 1 SD NH (aX K):=by
 refine G.oz zKI (λf B A p s H L Q E M h=>?_)
 obtain ⟨x,rfl,⟨⟨T,r⟩,v⟩,q⟩:=h
 refine ⟨_,(zE (z4 (PW.pt (sX (xB (y9 (zV yN a zQ (zA (pv 0) (zA (w6 b zC0) zB))))) (u6 (xB (oT oW oW zH (zV yA d yP (zA (pv 0) zB)) zH))))) (zF (zL wS)) zN)
   (zF (zL (zV (sF rfl) g nQ (zA (wV (N:=NH) (sc:=zG zAN) (ix:=[]) (by decide +kernel) (zA8 (pv 0)) (λ_ _ _ _=>xG) (λ_ _ _ _=>(xI mV (pv 0) zJ (by with_unfolding_all rfl)))) zB))))),?_⟩
 refine ⟨_,rfl,_,_,_,_,rfl,r.ty,r.kit.1,_,rfl,?_⟩
 cases r with
 | str z=>
  have v:=v z rfl
  refine ifF rfl ?_
  refine ⟨_,rfl,_,z.length,rfl,⟨by rw [sizeLine_eq];omega,rfl⟩,_,_,rfl,rfl,_,rfl,?_⟩
  refine mB (λt=>?_) (λt=>?_)
  ·refine ⟨_,_,rfl,rfl,_,rfl,?_⟩
   by_cases y:z.length <= 8
   ·refine ifF (by show (!decide ((z.length:Int) <= 8))=false;rw [zMY (by omega)];rfl) ?_
    refine ⟨_,rfl,z,rfl,λacc D=>?_⟩
    refine dS (by rw [sizeLine_eq];show z.length < _;omega) (λi j n l=>∃ k,n=[k]/\j=(z.cps.toList.take i).map (λc=>V.bl (vF c))/\i <= z.cps.size/\zD [acc] H l/\l acc=some (.lst j)) ?_ ?_ ?_ ?_
    ·exact ⟨_,rfl,rfl,zMT _,zD.at (by simp),zC⟩
    ·rintro i j n l ⟨k,rfl,rfl,u,o,m⟩
     exact ⟨m,by simp;omega⟩
    ·rintro i j n l u ⟨k,rfl,rfl,_,o,m⟩
     refine ⟨_,rfl,_,_,rfl,rfl,m,_,rfl,?_,u,o.trans (zD.at (by simp)),zC⟩
     rw [List.take_add_one,zMV]
     congr 1
     have e:z.cps.toList[i]?=some (z.cps.getD i 0):=by
      rw [Array.getElem?_toList,zNI,Array.getElem?_eq_getElem u];rfl
     rw [e];rfl
    ·rintro j n l ⟨k,rfl,rfl,_,o,m⟩
     refine ⟨acc,z.cps.toList.map vF,rfl,.of ?_,?_⟩
     ·rw [m,zM8 (by simp),zM3];rfl
     ·rw [nV]
      have e:xA (.str z)=z.cps.toList.all vF:=by
       show (decide (1 <= z.length) && decide (z.length <= 8) && _)=_
       have I:1 <= z.length:=by have:=of_decide_eq_true t;omega
       rw [zMY I,zMY y];rfl
      rw [<- e]
      exact q _ (o.drop D)
   ·refine ifT (by show (!decide ((z.length:Int) <= 8))=true;rw [zMZ (by omega)];rfl) ?_
    have e:xA (.str z)=false:=by
     show (decide (1 <= z.length) && decide (z.length <= 8) && _)=_
     rw [zMZ y];simp
    rw [<- e]
    exact q _ (zD.refl _)
  ·have e:xA (.str z)=false:=by
    show (decide (1 <= z.length) && decide (z.length <= 8) && _)=_
    have J:¬ 1 <= z.length:=λY=>t (zMY (by omega))
    rw [zMZ J];simp
   refine ⟨_,rfl,ifT rfl ?_⟩
   rw [<- e]
   exact q _ (zD.refl _)
 | _=>exact ifT rfl (q H (zD.refl _))
theorem scIR:zM Nv Nv (zG sIR):=scm
theorem zKB:zM NL Nh (zG sWA):=scm
def zHA (K:W.Frag):Sp:=λa H Q _=>∃ (x:V) (T:String) (n:Nat),a=[x,.int (n:Int)]/\yF K H x T/\Q (.bl (xJ x n)) H
theorem okIR (G:yM K mg SA sIR Nv) (a:Blt mg S9) (d:Blt mg "int") (c:Blt mg "bool"):Cal P w K mg base CX0 1 SA Nv (zHA K):=by
 refine G.oz scIR (λf l A j s H m Q E o h=>?_)
 obtain ⟨x,T,n,rfl,k,q⟩:=h
 refine ⟨_,(zF (zL (uA (zV yN a zQ (zA (pv 0) (zA (w6 d tT) zB))) (uA (fD (zV yN a zQ (zA (pv 0) (zA (w6 c uX) zB)))) (uM (iG oW dJ zH (pv 0) (pv 1))))))),?_⟩
 refine ⟨_,rfl,_,_,_,_,rfl,k.ty,k.kit.2.1,_,rfl,?_⟩
 cases k with
 | int i=>
  refine o9 ⟨_,rfl,_,_,_,_,rfl,(yF.int (K:=K) (H:=H) i).ty,(yF.int (K:=K) (H:=H) i).kit.2.2.1,_,rfl,_,rfl,o9 ⟨_,rfl,_,_,rfl,rfl,_,rfl,?_⟩⟩
  by_cases g:0 <= i
  ·refine ifT (zMY g) ⟨_,rfl,_,_,rfl,rfl,?_⟩
   have e:xJ (.int i) n=decide (i < (n:Int)):=by show (decide (0 <= i) && decide (i < (n:Int)))=_;rw [zMY g];rfl
   rw [e] at q
   exact q
  ·have e:xJ (.int i) n=false:=by show (decide (0 <= i) && decide (i < (n:Int)))=_;rw [zMZ g];rfl
   rw [e] at q
   exact ifF (zMZ g) q
 | bl b=>exact o9 ⟨_,rfl,_,_,_,_,rfl,(yF.bl (K:=K) (H:=H) b).ty,(yF.bl (K:=K) (H:=H) b).kit.2.2.1,_,rfl,_,rfl,n9 q⟩
 | _=>exact n9 q
def zJL (K:W.Frag):Sp:=λc H Q _=>∃ d Y st q f a e,c=[.ref st,.ref q]/\vD Y H st f a/\a.length <= 100/\H q=some (.tup (drV e))/\DPl K H e/\((∃ x r,e=.want x r) \/ (∃ x,e=.leave x) \/ ∃ x,e=.done x)/\∀ o b,Why a d e o->zD [] H b->Q (zJC o) b
theorem okWA (G:yM K mg SO sWA Nh) (a0:Cal P w K mg base CX0 1 SD NH (aX K)) (a1:Cal P w K mg base CX0 1 SA Nv (zHA K)) (a2:Cal P w K mg base CX0 1 Sv Nu aS) (p:Blt mg S8) (l:Blt mg "int"):Cal P w K mg base CX0 2 SO Nh (zJL K):=by
 refine G.oz zKB (λf a7 A a3 s0 H vs Q E hr h=>?_)
 obtain ⟨nb,Y,st,q,ys,t,e,rfl,hS,L,hq,U,M,fin⟩:=h
 have u:zZ 1 _:=hr
 have hu:=vS hr
 refine ⟨_,(zE (z4 (xB (y9 (zO a0 u (zA (zS zU (pv 1) zH (λ_ _=>rfl)) zB)))) (zF (zL zJ)) zN)
   (zE (z7 (i:=2) zKB.nd rfl (Or.inl rfl) (zO a2 u (zA (pv 0) (zA (zS zU (pv 1) zH (λ_ _=>rfl)) zB))))
   (zE (z4 (zT xF (zS zU (pv 1) zH (λ_ _=>rfl)) zJ (zX _)) (zE (z4 (PW.pt (kM (zT vX (zS zU (pv 1) zH (λ_ _=>rfl)) yQ (zX _)) (pW (xB (y9 (zO a1 u (zA (zS zU (pv 1) zH (λ_ _=>rfl)) (zA (zV yA p yP (zA (pv 0) zB)) zB)))))))) (zF (zL zJ)) zN)
   (zF (zL (zS z6 (yL (zA yQ (zA zJ zB))) (xE uJ rfl l.no tT (zA (xI vX (pv 2) yQ (zX _)) zB)) (λ_ _=>rfl))))) zN)
   (zE (z4 (zT uO (pv 2) yQ (zX _)) (zF (zL zJ)) zN)
   (zF (zL (zS z6 (yL (zA yQ (zA zJ zB))) (xE uJ rfl l.no tT (zA (xI t8 (xI xF (yV hu (zS z6 (pv 0) (pv 2) (λ_ _=>rfl)) zJ (λ_ _=>rfl)) (zS zU (pv 1) zH (λ_ _=>rfl)) (zX _)) (xI xF (zS zU (pv 1) zH (λ_ _=>rfl)) zJ (zX _)) (zX _)) zB)) (λ_ _=>rfl)))))))),?_⟩
 obtain ⟨x,wd,rest,m,px,wN,a4⟩:∃ x wd rest,drV e=.str wd :: x :: rest/\yR K H x/\(xA x=false->Why t nb e (some 3))/\(∀ z,x=.str z->yT z->z ∉ xC t->(∃ y,e=.leave y) \/ (∃ y,e=.done y)->Why t nb e (some 3)):=by
  rcases M with ⟨x,r,rfl⟩ | ⟨x,rfl⟩ | ⟨x,rfl⟩
  ·exact ⟨x,_,_,rfl,U.1,λh=>.wantN _ _ h,λz _ _ _ h=>by rcases h with ⟨y,h⟩ | ⟨y,h⟩ <;> cases h⟩
  ·exact ⟨x,_,_,rfl,U,λh=>.leaveN _ (.inl h),λz N g n _=>.leaveN _ (.inr ⟨z,N,g,n⟩)⟩
  ·exact ⟨x,_,_,rfl,U,λh=>.doneN _ (.inl h),λz N g n _=>.doneN _ (.inr ⟨z,N,g,n⟩)⟩
 have B:=hq
 rw [m] at B
 refine ⟨_,rfl,q,_,1,_,rfl,rfl,B,at1 _ _ _,x,rfl,px,λH1 k1=>⟨_,rfl,?_⟩⟩
 cases hn:xA x with
 | false=>exact ifT rfl (fin (some 3) H1 (wN hn) k1)
 | true=>
 obtain ⟨z,rfl,N⟩:=oZ hn
 have O:=zE3 N
 refine ifF rfl ⟨_,rfl,_,rfl,q,_,1,_,rfl,rfl,k1.z B,at1 _ _ _,?_⟩
 dsimp only [rP]
 refine zDM (hS.on k1) L λv H2 hv k2=>?_
 have a:=k1.trans k2
 have j:=a.z hq
 have a5:=hS.on a
 obtain ⟨T,_,_,ly,hd⟩:=id a5
 rcases M with ⟨x',r,rfl⟩ | M
 ·cases (List.cons.inj (List.cons.inj m).2).1
  refine ⟨_,rfl,q,_,0,_,rfl,rfl,j,at0 _ _,rfl,_,rfl,mE ?_⟩
  refine ⟨_,rfl,q,_,2,_,rfl,rfl,j,at2 _ _ _ _,rfl,_,rfl,?_⟩
  obtain ⟨⟨Tr,pr⟩,_⟩:=U.2
  have last:(r=.non \/ xJ r t.length=true)->∀ c,zD [] H2 c->Q (if (!decide (v=V.non))=true then V.str NQ else .non) c:=λa6 c k3=>by
   rcases hv with ⟨rfl,_⟩ | ⟨i,s,rfl,J,hm⟩
   ·exact fin none c (.no _) (a.trans k3)
   ·exact fin (some 3) c (.wantT z r O a6 (vC.mpr ⟨i,s,J,hm⟩)) (a.trans k3)
  by_cases rn:r=.non
  ·refine ifF (by rw [zMY rn];rfl) ?_
   refine ifF rfl ?_
   exact qI (b:=!decide (v=V.non)) (λc R k h=>⟨_,rfl,rfl,.inr ⟨_,rfl,h c (zD.refl _)⟩⟩) (last (.inl rn))
  ·refine ifT (by rw [zMZ rn];rfl) ⟨_,rfl,q,_,2,_,rfl,rfl,j,at2 _ _ _ _,_,rfl,_,_,rfl,.inl ⟨_,.of T,rfl⟩,r,Tr,t.length,by rw [zMJ,ly];rfl,pr.keep a,_,rfl,?_⟩
   cases er:xJ r t.length with
   | false=>exact ifT rfl (fin (some 5) H2 (.wantR z r O rn er) a)
   | true=>
    refine ifF rfl ?_
    exact qI (b:=!decide (v=V.non)) (λc R k h=>⟨_,rfl,rfl,.inr ⟨_,rfl,h c (zD.refl _)⟩⟩) (last (.inr er))
 ·have nw:wd ≠ Sa /\((∃ y,e=.leave y) \/ ∃ y,e=.done y):=by
   rcases M with ⟨y,rfl⟩ | ⟨y,rfl⟩
   ·cases (List.cons.inj m).1;exact ⟨by decide +kernel,.inl ⟨y,rfl⟩⟩
   ·cases (List.cons.inj m).1;exact ⟨by decide +kernel,.inr ⟨y,rfl⟩⟩
  rw [m] at j
  refine ⟨_,rfl,q,_,0,_,rfl,rfl,j,at0 _ _,rfl,_,rfl,ifF (by simpa using nw.1) ?_⟩
  rcases hv with ⟨rfl,nz⟩ | ⟨i,s,rfl,J,hm⟩
  ·exact ⟨_,rfl,rfl,_,rfl,ifT rfl (fin (some 3) H2 (a4 z rfl O nz nw.2) a)⟩
  refine ⟨_,rfl,rfl,_,rfl,ifF rfl ?_⟩
  have il:i < t.length:=(zML.mp J).1
  have ey:ys[i]?=some (ys[i]'(by omega)):=zMK (by omega)
  generalize ys[i]'(by omega)=y at ey
  refine qI (b:=!decide (V.bl (decide (s.hold=some z))=V.bl (decide (V.str wd=V.str NY)))) (λc R k h=>?_) λc k3=>?_
  ·have D:=(hd i y s ey J).keep k
   refine ⟨_,rfl,_,rfl,st,_,_,_,rfl,rfl,k.z T,wI ey,y.1,_,rfl,g_h D.d,_,rfl,q,_,1,_,rfl,rfl,k.z j,at1 _ _ _,qP _ _,_,rfl,q,_,0,_,rfl,rfl,k.z j,at0 _ _,rfl,rfl,.inr ⟨_,rfl,?_⟩⟩
   rw [pJ]
   exact h c (zD.refl _)
  ·have o:=a.trans k3
   rcases M with ⟨y',rfl⟩ | ⟨y',rfl⟩
   ·cases (List.cons.inj m).1
    cases (List.cons.inj (List.cons.inj m).2).1
    rw [show decide (V.str (NW : Str)=V.str NY)=false by decide +kernel]
    by_cases I:s.hold=some z
    ·rw [zMY I];exact fin (some 3) c (.leaveI z i s O J hm I) o
    ·rw [zMZ I];exact fin none c (.no _) o
   ·cases (List.cons.inj m).1
    cases (List.cons.inj (List.cons.inj m).2).1
    rw [show decide (V.str (NY : Str)=V.str NY)=true by decide +kernel]
    by_cases I:s.hold=some z
    ·rw [zMY I];exact fin none c (.no _) o
    ·rw [zMZ I];exact fin (some 3) c (.doneW z i s O J hm I) o
end
theorem cR (h:xJ r n=true):∃ i:Nat,r=.int (i:Int)/\i < n:=by
 cases r with
 | int j=>
  obtain ⟨a,b⟩:=Bool.and_eq_true _ _ ▸ (show (decide (0 <= j) && decide (j < (n:Int)))=true from h)
  have a:=of_decide_eq_true a
  have b:=of_decide_eq_true b
  exact ⟨j.toNat,by rw [Int.toNat_of_nonneg a],by omega⟩
 | _=>cases h
theorem zH3 {a:List Str} (h:inV (.str z) (a.map V.str)=false):u9 (.str z) a=false:=by
 unfold u9;rw [h,Bool.and_false]
theorem zLM {a:List Str} (h:inV (.str z) (a.map V.str)=true):z ∈ a:=by
 unfold inV at h
 rw [List.any_map,List.any_eq_true] at h
 obtain ⟨y,b,e⟩:=h
 rw [<- eq_of_beq (show (y == z)=true from e)]
 exact b
section
variable {P:Program} {w:World} {K:W.Frag} {mg:Str->Option Value} {base:Heap} {C:Addr}
theorem zDR:zM ["_law_states","_law_neighbours","_law_deed",SH,"_law_good"] Nr (zG sWy):=scm
def zJJ (K:W.Frag):Sp:=λd H Q _=>∃ b Y st nl q f a e,d=[.ref st,.ref nl,.ref q]/\vD Y H st f a/\a.length <= 100/\H nl=some (.lst (b.map V.str))/\H q=some (.tup (drV e))/\DPl K H e/\∀ o c,Why a b e o->zD [] H c->Q (zJC o) c
theorem okWy (G:yM K mg "_law_why" sWy Nr) (ac:Cal P w K mg base CX0 2 SO Nh (zJL K)) (ae:Cal P w K mg base CX0 1 SD NH (aX K)) (a3:Cal P w K mg base CX0 1 SA Nv (zHA K)) (p:Blt mg S8) (u:Blt mg "int") (g:Blt mg S9) (J:Blt mg "bool"):Cal P w K mg base CX0 3 "_law_why" Nr (zJJ K):=by
 refine G.oz zDR (λf al A af s0 H vs Q E hr h=>?_)
 obtain ⟨U,Y,st,nl,q,ys,n,e,rfl,hS,a4,ag,hq,pl,fin⟩:=h
 have ah:zZ 2 _:=hr
 have a1:zZ 1 _:=hr.mono (by decide)
 have hu:=vS hr
 refine ⟨_,(zE (z4 (zT sN (zS zU (pv 2) zH (λ_ _=>rfl)) (yH (zA zJ (zA zJ (zA zJ zB)))) (by with_unfolding_all rfl)) (zF (zL (zO ac ah (zA (pv 0) (zA (pv 2) zB))))) zN)
   (zE (z4 (zT sN (zS zU (pv 2) zH (λ_ _=>rfl)) (yH (zA zJ (zA zJ (zA zJ (zA zJ zB))))) (by with_unfolding_all rfl)) (zF (zL (zS z6 (yL (zA zJ (zA yQ zB))) (xE uJ rfl u.no tT (zA (zO a3 a1 (zA (zS zU (pv 2) zH (λ_ _=>rfl)) (zA (zV yA p yP (zA (pv 0) zB)) zB))) zB)) (λ_ _=>rfl)))) zN)
   (zE (z4 (PW.pt (sX (xB (y9 (zO ae a1 (zA (zS zU (pv 2) zH (λ_ _=>rfl)) zB)))) (u6 (zT tN (zS zU (pv 2) zH (λ_ _=>rfl)) (pv 1) (by with_unfolding_all rfl))))) (zF (zL zJ)) zN)
   (zE (z4 (xB (y9 (zO a3 a1 (zA (zS zU (pv 2) zH (λ_ _=>rfl)) (zA (zV yA p yP (zA (pv 0) zB)) zB))))) (zF (zL zJ)) zN)
   (zE (z7 (i:=3) zDR.nd rfl (Or.inl rfl) (zS z6 (pv 0) (zS zU (pv 2) zH (λ_ _=>rfl)) (λ_ _=>rfl)))
   (zE (z4 (zT xF (zS zU (pv 2) zH (λ_ _=>rfl)) zJ (zX _)) (zF (z7 (i:=4) zDR.nd rfl (Or.inl rfl) (uA (xI t8 (yV hu (pv 3) zJ (λ_ _=>rfl)) (zS zU (pv 2) zH (λ_ _=>rfl)) (zX _)) (uM (xI (sM hu) (yH (zA zJ (zA (zS zU (pv 2) zH (λ_ _=>rfl)) zB))) (yV hu (pv 3) zJ (λ_ _=>rfl)) (by with_unfolding_all rfl)))))) (zF (z7 (i:=4) zDR.nd rfl (Or.inl rfl) (uA (xI xF (yV hu (pv 3) zJ (λ_ _=>rfl)) (zS zU (pv 2) zH (λ_ _=>rfl)) (zX _)) (uM (zV yN g zQ (zA (zS zU (pv 2) zH (λ_ _=>rfl)) (zA (w6 J uX) zB))))))))
   (zF (zL (zS z6 (yL (zA zJ (zA yQ zB))) (xE uJ rfl u.no tT (zA (pv 4) zB)) (λ_ _=>rfl)))))))))),?_⟩
 refine sq λN L=>?_
 by_cases v:(∃ x r,e=.want x r) \/ (∃ x,e=.leave x) \/ ∃ x,e=.done x
 ·obtain ⟨wd,rest,B,hw⟩:∃ wd rest,drV e=.str wd :: rest/\inV (.str wd) [.str Sa,.str NW,.str NY]=true:=by
   rcases v with ⟨x,r,rfl⟩ | ⟨x,rfl⟩ | ⟨x,rfl⟩ <;> exact ⟨_,_,rfl,by decide +kernel⟩
  have m:=hq
  rw [B] at m
  refine ⟨_,rfl,q,_,0,_,rfl,rfl,m,at0 _ _,by show 3 <= sizeLine;decide,λtp a2=>⟨tp,_,rfl,.inr (.of zC),rfl,rfl,_,rfl,ifT hw ?_⟩⟩
  have k1:=zD.new (S:=[]) (o:=.tup [.str Sa,.str NW,.str NY]) a2
  exact ⟨_,rfl,_,rfl,U,Y,st,q,ys,n,e,rfl,hS.on k1,a4,k1.z hq,pl.on k1,v,λo a hy k=>fin o a hy (k1.trans k)⟩
 obtain ⟨wd,x,rest,B,hw⟩:∃ wd x rest,drV e=.str wd :: x :: rest/\inV (.str wd) [.str Sa,.str NW,.str NY]=false:=by
  cases e with
  | look w r=>exact ⟨_,_,_,rfl,(show ∀ w < 4,inV (.str (iS w)) [.str Sa,.str NW,.str NY]=false by decide +kernel) w pl.1⟩
  | ask x r=>exact ⟨_,_,_,rfl,by decide +kernel⟩
  | come x r b=>exact ⟨_,_,_,rfl,by decide +kernel⟩
  | want x r=>exact absurd (.inl ⟨x,r,rfl⟩) v
  | leave x=>exact absurd (.inr (.inl ⟨x,rfl⟩)) v
  | done x=>exact absurd (.inr (.inr ⟨x,rfl⟩)) v
 have m:=hq
 rw [B] at m
 refine ⟨_,rfl,q,_,0,_,rfl,rfl,m,at0 _ _,by show 3 <= sizeLine;decide,λtp a2=>⟨tp,_,rfl,.inr (.of zC),rfl,rfl,_,rfl,ifF hw ?_⟩⟩
 have k1:=zD.new (S:=[]) (o:=.tup [.str Sa,.str NW,.str NY]) a2
 refine L _ _ (sq λN L=>?_)
 refine ⟨_,rfl,q,_,0,_,rfl,rfl,k1.z m,at0 _ _,by show 4 <= sizeLine;decide,λa5 a6=>⟨a5,_,rfl,.inr (.of zC),rfl,rfl,_,rfl,?_⟩⟩
 have k2:=k1.trans (zD.new (S:=[]) (o:=.tup [.str S3,.str Sd,.str NX,.str NU]) a6)
 generalize upd (upd H tp _) a5 _=H2 at k2 ⊢
 have ai:=hS.on k2
 obtain ⟨a7,_,_,ly,hd⟩:=id ai
 have M:=k2.z m
 by_cases el:∃ w r,e=.look w r
 ·obtain ⟨w,r,rfl⟩:=el
  cases (List.cons.inj B).1
  cases (List.cons.inj (List.cons.inj B).2).1
  obtain ⟨w4,⟨Tr,pr⟩,_⟩:=pl
  refine ifT ((show ∀ w < 4,inV (.str (iS w)) [.str S3,.str Sd,.str NX,.str NU]=true by decide +kernel) w w4) ?_
  refine qI (b:=xJ x n.length) (λa R k h=>?_) λa k3=>?_
  ·exact ⟨_,rfl,q,_,1,_,rfl,rfl,k.z M,at1 _ _ _,_,rfl,_,_,rfl,.inl ⟨_,.of (k.z a7),rfl⟩,x,Tr,n.length,by rw [zMJ,ly];rfl,pr.keep (k2.trans k),.inr ⟨_,rfl,h a (zD.refl _)⟩⟩
  ·cases er:xJ x n.length with
   | false=>exact fin (some 5) a (.look w x er) (k2.trans k3)
   | true=>exact fin none a (.no _) (k2.trans k3)
 obtain ⟨r,I,er,aj,px,⟨⟨Tr,pr⟩,_⟩,wN,wR⟩:∃ r I,rest=r :: I/\inV (.str wd) [.str S3,.str Sd,.str NX,.str NU]=false/\yR K H x/\yR K H r/\(u9 x U=false->Why n U e (some 1))/\(∀ z,x=.str z->z ∈ U->xJ r n.length=false->Why n U e (some 5)):=by
  cases e with
  | look w r=>exact absurd ⟨w,r,rfl⟩ el
  | ask x r=>cases B;exact ⟨_,_,rfl,by decide +kernel,pl.1,pl.2,λh=>.askN _ _ h,λz e hz h=>e ▸ .askR z r hz h⟩
  | come x r b=>cases B;exact ⟨_,_,rfl,by decide +kernel,pl.1,pl.2.1,λh=>.comeN _ _ _ h,λz e hz h=>e ▸ .comeR z r b hz h⟩
  | want x r=>exact absurd (.inl ⟨x,r,rfl⟩) v
  | leave x=>exact absurd (.inr (.inl ⟨x,rfl⟩)) v
  | done x=>exact absurd (.inr (.inr ⟨x,rfl⟩)) v
 rw [er] at M B
 refine ifF aj (L _ _ (sq λN L=>⟨_,rfl,q,_,1,_,rfl,rfl,M,at1 _ _ _,x,rfl,px.on k2,λH3 k3=>⟨_,rfl,?_⟩⟩))
 have j:=k2.trans k3
 have l:=k3.z M
 have a0:=k3.z a7
 cases hn:xA x with
 | false=>exact ifT rfl (ifT rfl (fin (some 1) H3 (wN (by unfold u9;rw [hn];rfl)) j))
 | true=>
 obtain ⟨z,rfl,hz⟩:=oZ hn
 refine ifF rfl ⟨_,rfl,q,_,1,_,rfl,rfl,l,at1 _ _ _,_,rfl,nl,_,rfl,.inl (.of (j.z ag)),rfl,qV U,_,rfl,?_⟩
 cases ei:inV (.str z) (U.map V.str) with
 | false=>exact ifT rfl (fin (some 1) H3 (wN (zH3 ei)) j)
 | true=>
 have O:=zLM ei
 refine ifF rfl (L _ _ (sq λN L=>⟨_,rfl,q,_,2,_,rfl,rfl,l,at2 _ _ _ _,_,rfl,_,_,rfl,.inl ⟨_,.of a0,rfl⟩,r,Tr,n.length,by rw [zMJ,ly];rfl,pr.keep j,_,rfl,?_⟩))
 cases aa:xJ r n.length with
 | false=>exact ifT rfl (fin (some 5) H3 (wR z rfl O aa) j)
 | true=>
 obtain ⟨i,rfl,il⟩:=cR aa
 have es:n[i]?=some (n[i]'il):=zMK il
 generalize n[i]'il=s at es
 have ey:ys[i]?=some (ys[i]'(by omega)):=zMK (by omega)
 generalize ys[i]'(by omega)=y at ey
 have D:=(hd i y s ey es).keep k3
 refine ifF rfl (L _ _ (sq λN L=>⟨_,rfl,_,rfl,q,_,2,_,rfl,rfl,l,at2 _ _ _ _,st,_,_,_,rfl,rfl,a0,wI ey,?_⟩))
 refine L _ _ ?_
 refine ⟨_,rfl,q,_,0,_,rfl,rfl,l,at0 _ _,rfl,_,rfl,?_⟩
 by_cases ea:∃ x r,e=.ask x r
 ·obtain ⟨x',r',rfl⟩:=ea
  cases B
  refine mE ?_
  refine ⟨_,rfl,y.1,_,rfl,g_a D.d,_,rfl,q,_,1,_,rfl,rfl,l,at1 _ _ _,qP _ _,?_⟩
  have last:∀ b T ti σ,zD [] H T->Why n U (.ask (.str z) (.int (i:Int))) (if b=true then none else some 4)->(∀ a R,zD [] T a->R (.int (if b=true then 1 else 0)) a->ti σ a R)->tOp iB (jQ (uC (tC (.str "letter")) (uC (tC .non) rP))) ti σ T Q:=λb T ti σ k4 hy hi=>qI (b:=b) (λa R k h=>hi a R k (h a (zD.refl _))) λa k=>by
   have:=fin _ a hy (k4.trans k)
   cases b <;> exact this
  refine ⟨_,rfl,?_⟩
  by_cases hp:s.ptr=some z
  ·refine ifF (by rw [pJ,zMY hp];rfl) (last false H3 _ _ j (.askS z i s O es (.inl hp)) λa R k h=>⟨_,rfl,.inr ⟨_,rfl,h⟩⟩)
  ·refine ifT (by rw [pJ,zMZ hp];rfl) ⟨_,rfl,q,_,1,_,rfl,rfl,l,at1 _ _ _,by show 2 <= sizeLine;decide,λt2 ak=>?_⟩
   have k4:zD [] H3 _:=zD.new (o:=.tup [.str NV,.str z]) ak
   have D4:=D.keep k4
   refine ⟨_,rfl,y.1,_,rfl,g_r D4.d,mY (x:=hsR z) D4.rw zC ?_⟩
   refine last (!decide (hsR z ∈ s.row)) _ _ _ (j.trans k4) ?_ λa R k h=>⟨_,rfl,.inr ⟨_,rfl,h⟩⟩
   by_cases hh:hsR z ∈ s.row
   ·rw [zMY hh];exact .askS z i s O es (.inr hh)
   ·rw [zMZ hh];exact .no _
 ·obtain ⟨b,rfl⟩:∃ b,e=.come (.str z) (.int (i:Int)) b:=by
   cases e with
   | look w r=>exact absurd ⟨w,r,rfl⟩ el
   | ask x r=>exact absurd ⟨x,r,rfl⟩ ea
   | come x r b=>cases B;exact ⟨b,rfl⟩
   | want x r=>exact absurd (.inl ⟨x,r,rfl⟩) v
   | leave x=>exact absurd (.inr (.inl ⟨x,rfl⟩)) v
   | done x=>exact absurd (.inr (.inr ⟨x,rfl⟩)) v
  cases B
  obtain ⟨⟨Tb,pb⟩,_⟩:=pl.2.2
  have ab:=pb.keep j
  refine sC ⟨_,rfl,y.1,_,rfl,g_a D.d,_,rfl,q,_,1,_,rfl,rfl,l,at1 _ _ _,qP _ _,?_⟩
  refine ⟨_,rfl,?_⟩
  have last:∀ c T ti σ,zD [] H T->(c=true \/ s.ptr ≠ some z \/ ∀ t,b ≠ .bl t)->(∀ a R,zD [] T a->R (.int (if c=true then 1 else 0)) a->ti σ a R)->tOp iB (jQ (uC (tC (.str "letter")) (uC (tC .non) rP))) ti σ T Q:=λc T ti σ k4 hy hi=>qI (b:=c) (λa R k h=>hi a R k (h a (zD.refl _))) λa k=>by
   cases c with
   | true=>exact fin none a (.no _) (k4.trans k)
   | false=>exact fin (some 4) a (.comeS z i s b O es (hy.resolve_left zNB)) (k4.trans k)
  by_cases hp:s.ptr=some z
  ·refine ifT (by rw [pJ,zMY hp]) ⟨_,rfl,q,_,3,_,rfl,rfl,l,rfl,_,_,_,_,rfl,ab.ty,ab.kit.2.2.1,?_⟩
   refine last _ H3 _ _ j ?_ λa R k h=>⟨_,rfl,.inr ⟨_,rfl,h⟩⟩
   by_cases hb:Tb="bool"
   ·exact .inl (by rw [hb];rfl)
   ·exact .inr (.inr λt e=>by subst e;cases pb;exact hb rfl)
  ·exact ifF (by rw [pJ,zMZ hp]) (last _ H3 _ _ j (.inr (.inl hp)) λa R k h=>⟨_,rfl,.inr ⟨_,rfl,h⟩⟩)
end
abbrev oM:Stmt:=top 40
abbrev zD0:Stmt:=top 39
abbrev sRe:Stmt:=top 54
theorem mI:bootBuiltins "ValueError"=some (.type "ValueError"):=by decide +kernel
structure Kn (K:W.Frag) (mg:Str->Option Value) (cs:Nat->Addr):Prop where
 g0:Glo mg "NoTree" (.ref (cs 0))
 g1:Glo mg "NoHouse" (.ref (cs 1))
 g2:Glo mg "NoSeat" (.ref (cs 2))
 g3:Glo mg SF (.ref (cs 3))
 g4:Glo mg "NoLetter" (.ref (cs 4))
 g5:Glo mg "NoRight" (.ref (cs 5))
 g6:Glo mg "NoRow" (.ref (cs 6))
 g7:Glo mg "NoTie" (.ref (cs 7))
 g8:Glo mg "Down" (.ref (cs 8))
 g9:Glo mg "NoMend" (.ref (cs 9))
 g10:Glo mg "NoText" (.ref (cs 10))
 g11:Glo mg "NoLine" (.ref (cs 11))
 kd:∀ i j,i < 12->j < 12->W.kitOne K (.ref (cs i)) (.ref (cs j))=some (decide (i=j))
 kv:∀ i,i < 12->W.kitOne K (.ref (cs i)) (.type "ValueError")=some true
 ke:∀ i,i < 12->mJ K (cs i)
noncomputable def m8 (d:Nat->Bool):List V:=[.bl (d 0),.bl (d 1),.bl (d 2),.bl (d 3),.bl (d 4),.bl (d 5),.bl (d 6),.bl (d 7),.bl (d 8),.bl (d 9),.bl (d 10),.bl (d 11)]
theorem zE6 (a:j < 12):(m8 d)[j]?=some (.bl (d j)):=by
 have e:m8 d=(List.range 12).map λj=>V.bl (d j):=rfl
 rw [e,zMP,List.getElem?_range a];rfl
section
variable {P:Program} {w:World} {K:W.Frag} {mg:Str->Option Value} {base:Heap} {C CS CA CH CL CR:Addr}
theorem sL:zM NE ["_law_e"] (zG oM):=scm
noncomputable def oG (c:Nat->Addr):SpH:=λa d H Q=>∃ i,d=[.ref a]/\i < 12/\H a=some (iZ (c i) a)/\∀ b,zD [] H b->Q (.str (rA i)) b
theorem zBJ (g:Kn K mg c) (G:yM K mg "_law_kinds" oM ["_law_e"]) (b:Blt mg S9) (x:Blt mg S8) (p:Blt mg Su) (e:Blt mg "ValueError") :
  zFQ P w K mg base 1 "_law_kinds" ["_law_e"] (oG c):=by
 refine G.okH sL (λhx vs H Q h=>by obtain ⟨i,rfl,_⟩:=h;rfl) (λf hx a4 A a1 s0 H vs Q hh h=>?_)
 obtain ⟨i,rfl,hi,U,q⟩:=h
 obtain ⟨a,ea⟩:∃ a,a=hx:=⟨_,rfl⟩
 subst ea
 refine ⟨_,(zE (z7 (i:=1) sL.nd rfl (Or.inr rfl) (yL (zA (zV (wM (D:=c 0)) b zQ (zA (pv 0) (zA (vO g.g0) zB))) (zA (zV (wM (D:=c 1)) b zQ (zA (pv 0) (zA (vO g.g1) zB))) (zA (zV (wM (D:=c 2)) b zQ (zA (pv 0) (zA (vO g.g2) zB))) (zA (zV (wM (D:=c 3)) b zQ (zA (pv 0) (zA (vO g.g3) zB))) zB))))))
   (zE (z7 (i:=1) sL.nd rfl (Or.inr rfl) (yG wO (pv 1) (yL (zA (zV (wM (D:=c 4)) b zQ (zA (pv 0) (zA (vO g.g4) zB))) (zA (zV (wM (D:=c 5)) b zQ (zA (pv 0) (zA (vO g.g5) zB))) (zA (zV (wM (D:=c 6)) b zQ (zA (pv 0) (zA (vO g.g6) zB))) (zA (zV (wM (D:=c 7)) b zQ (zA (pv 0) (zA (vO g.g7) zB))) zB)))))))
   (zE (z7 (i:=1) sL.nd rfl (Or.inr rfl) (yG wO (pv 1) (yL (zA (zV (wM (D:=c 8)) b zQ (zA (pv 0) (zA (vO g.g8) zB))) (zA (zV (wM (D:=c 9)) b zQ (zA (pv 0) (zA (vO g.g9) zB))) (zA (zV (wM (D:=c 10)) b zQ (zA (pv 0) (zA (vO g.g10) zB))) (zA (zV (wM (D:=c 11)) b zQ (zA (pv 0) (zA (vO g.g11) zB))) zB)))))))
   (@zE _ _ _ _ _ (@dD _ _ _ 2 _ _ _ _ sL.nd rfl (Or.inr rfl) (Or.inl rfl) (@zHW _ _ (pC.map V.str) (.cons .str (.cons .str (.cons .str (.cons .str (.cons .str (.cons .str (.cons .str (.cons .str (.cons .str (.cons .str (.cons .str (.cons .str .nil))))))))))))))
   (zE (gZ (ax:=a) hh (i:=3) sL.nd rfl (Or.inl rfl) (N:=NE) (sc:=zG oM) (ix:=[2,1]) (by decide +kernel) (fB rfl p.no (zA zH zB)) (λ_ _ _ _=>(kN (y9 (zS z6 (pv 2) (pv 0) (λ_ _=>rfl))))) (λ_ _ _ _=>(zS z6 (pv 1) (pv 0) (λ_ _=>rfl))))
   (zE (z4 (PW.pt (sX (zT t8 (zV yA x yP (zA (pv 3) zB)) zH (zX _)) (u6 (xB (y9 (zV (aD (T:="ValueError")) b zQ (zA (pv 0) (zA (w6 e mI) zB)))))))) (zF (zL zJ)) zN)
   (zF (zL (zS z6 (pv 3) zH (λ_ _=>rfl)))))))))),?_⟩
 obtain ⟨d,hd⟩:∃ d:Nat->Bool,∀ j,d j=decide (i=j):=⟨λj=>decide (i=j),λ_=>rfl⟩
 have m:∀ j,j < 12->W.kitOne K (.ref (c i)) (.ref (c j))=some (d j):=λj y=>(g.kd i j hi y).trans (congrArg some (hd j).symm)
 have l:=g.ke i hi
 refine sq λN B=>?_
 refine ⟨_,rfl,a,c i,_,rfl,U,l,m 0 (by decide),?_⟩
 refine ⟨_,rfl,a,c i,_,rfl,U,l,m 1 (by decide),?_⟩
 refine ⟨_,rfl,a,c i,_,rfl,U,l,m 2 (by decide),?_⟩
 refine ⟨_,rfl,a,c i,_,rfl,U,l,m 3 (by decide),?_⟩
 refine ⟨by show 4 <= sizeLine;decide,λp1 f1=>?_⟩
 have k1:=zD.new (S:=[]) (o:=.lst [.bl (d 0),.bl (d 1),.bl (d 2),.bl (d 3)]) f1
 have e1:upd H p1 (.lst [.bl (d 0),.bl (d 1),.bl (d 2),.bl (d 3)]) p1=some (.lst [.bl (d 0),.bl (d 1),.bl (d 2),.bl (d 3)]):=zC
 generalize upd H p1 (.lst [.bl (d 0),.bl (d 1),.bl (d 2),.bl (d 3)])=H1 at k1 e1 ⊢
 have r:=k1.z U
 refine B _ _ (sq λN B=>?_)
 refine ⟨_,rfl,?_⟩
 refine ⟨_,rfl,a,c i,_,rfl,r,l,m 4 (by decide),?_⟩
 refine ⟨_,rfl,a,c i,_,rfl,r,l,m 5 (by decide),?_⟩
 refine ⟨_,rfl,a,c i,_,rfl,r,l,m 6 (by decide),?_⟩
 refine ⟨_,rfl,a,c i,_,rfl,r,l,m 7 (by decide),?_⟩
 refine ⟨by show 4 <= sizeLine;decide,λp2 f2=>?_⟩
 have k2:=zD.new (S:=[]) (o:=.lst [.bl (d 4),.bl (d 5),.bl (d 6),.bl (d 7)]) f2
 refine ⟨p1,p2,_,_,rfl,rfl,k2.z e1,zC,by show 8 <= sizeLine;decide,λp3 f3=>?_⟩
 have k3:=k2.trans (zD.new (S:=[]) (o:=.lst ([.bl (d 0),.bl (d 1),.bl (d 2),.bl (d 3)] ++ [.bl (d 4),.bl (d 5),.bl (d 6),.bl (d 7)])) f3)
 have e3:=zC (H:=upd H1 p2 (.lst [.bl (d 4),.bl (d 5),.bl (d 6),.bl (d 7)])) (a:=p3) (o:=.lst ([.bl (d 0),.bl (d 1),.bl (d 2),.bl (d 3)] ++ [.bl (d 4),.bl (d 5),.bl (d 6),.bl (d 7)]))
 generalize upd (upd H1 p2 _) p3 _=Y at k3 e3 ⊢
 have s:=k3.z r
 refine B _ _ (sq λN B=>?_)
 refine ⟨_,rfl,?_⟩
 refine ⟨_,rfl,a,c i,_,rfl,s,l,m 8 (by decide),?_⟩
 refine ⟨_,rfl,a,c i,_,rfl,s,l,m 9 (by decide),?_⟩
 refine ⟨_,rfl,a,c i,_,rfl,s,l,m 10 (by decide),?_⟩
 refine ⟨_,rfl,a,c i,_,rfl,s,l,m 11 (by decide),?_⟩
 refine ⟨by show 4 <= sizeLine;decide,λp4 f4=>?_⟩
 have k4:=zD.new (S:=[]) (o:=.lst [.bl (d 8),.bl (d 9),.bl (d 10),.bl (d 11)]) f4
 refine ⟨p3,p4,_,_,rfl,rfl,k4.z e3,zC,by show 12 <= sizeLine;decide,λE f5=>?_⟩
 have k5:zD [] Y (upd (upd Y p4 (.lst [.bl (d 8),.bl (d 9),.bl (d 10),.bl (d 11)])) E (.lst (m8 d))):=k4.trans (zD.new f5)
 have e5:=zC (H:=upd Y p4 (.lst [.bl (d 8),.bl (d 9),.bl (d 10),.bl (d 11)])) (a:=E) (o:=.lst (m8 d))
 change N _ (upd (upd Y p4 (.lst [.bl (d 8),.bl (d 9),.bl (d 10),.bl (d 11)])) E (.lst (m8 d)))
 generalize upd (upd Y p4 (.lst [.bl (d 8),.bl (d 9),.bl (d 10),.bl (d 11)])) E (.lst (m8 d))=H5 at k5 e5 ⊢
 have a2:=k5.z s
 refine B _ _ (sq λN B=>?_)
 refine ⟨by show 12 <= sizeLine;decide,λI f6=>?_⟩
 have k6:zD [] H5 (upd H5 I (.lst (pC.map V.str))):=zD.new f6
 have e6:=zC (H:=H5) (a:=I) (o:=.lst (pC.map V.str))
 have J:=k6.z e5
 change N _ (upd H5 I (.lst (pC.map V.str)))
 generalize upd H5 I (.lst (pC.map V.str))=H6 at k6 e6 J ⊢
 have a0:=k6.z a2
 have kA:zD [] H H6:=((k1.trans k3).trans k5).trans k6
 refine B _ _ ?_
 refine ⟨12,rfl,by decide,by decide,λacc k=>?_⟩
 refine bM (n:=12) (by decide) (λj O τ L=>∃ v:Option V,τ=[v,some (.ref I),some (.ref E)]/\O=(if i < j then [V.str (rA i)] else [])/\j <= 12/\zD [acc] H6 L/\L acc=some (.lst O)) ?_ ?_ ?_ ?_ ?_
 ·exact ⟨_,rfl,rfl,zMT _,zD.at (by simp),zC⟩
 ·rintro j O τ L ⟨v,rfl,rfl,y,t,u⟩
  refine ⟨u,?_⟩
  split
  ·show 1 <= j;omega
  ·exact zMT _
 ·rintro j O τ L y ⟨v,rfl,rfl,_,t,u⟩
  have n5:E ∉ [acc]:=by simp only [zMM];exact zI J k
  have n6:I ∉ [acc]:=by simp only [zMM];exact zI e6 k
  have ej:((0:Int) + (j:Int))=(j:Int):=by omega
  rw [ej]
  refine ⟨_,rfl,_,rfl,E,_,_,_,rfl,rfl,t _ _ n5 J,uI (zE6 y),_,rfl,?_⟩
  by_cases M:i=j
  ·refine ifT ((hd j).trans (zMY M)) ?_
   subst M
   refine ⟨_,rfl,_,rfl,I,_,_,_,rfl,rfl,t _ _ n6 e6,uI (zDF y),u,_,rfl,?_,y,t.trans (zD.at (by simp)),zC⟩
   rw [if_neg (Nat.lt_irrefl i),if_pos (Nat.lt_succ_self i)];rfl
  ·refine ifF ((hd j).trans (zMZ M)) ⟨_,rfl,?_,y,t,u⟩
   by_cases hl:i < j
   ·rw [if_pos hl,if_pos (Nat.lt_succ_of_lt hl)]
   ·rw [if_neg hl,if_neg (by omega)]
 ·rintro O τ L ⟨v,rfl,rfl,_,t,u⟩
  exact ⟨_,(t.drop k).z a0⟩
 ·rintro O τ L ⟨v,rfl,rfl,_,t,u⟩
  rw [if_pos hi] at u
  have kB:zD [] H6 L:=t.drop k
  have a3:=kB.z a0
  refine ⟨_,rfl,_,_,rfl,.inl ⟨_,.of u,rfl⟩,rfl,_,rfl,?_⟩
  refine ifF rfl ?_
  refine ⟨_,rfl,a,c i,_,rfl,a3,l,g.kv i hi,_,rfl,?_⟩
  refine ifF rfl ?_
  refine ⟨_,rfl,acc,_,0,_,rfl,rfl,u,rfl,?_⟩
  exact q _ (kA.trans kB)
theorem yR.str {z:Str} (a:z.length <= 1000):yR K H (.str z):=⟨⟨_,.str z⟩,λs e=>by cases e;exact a⟩
theorem jY:zM ["_law_source","_law_name","_law_way","_law_some","_law_signs","_law_at"] NF (zG zD0):=scm
noncomputable def zJ8:Str:=" !\"#$&'()*+,-./0123456789:;<=>?@ABCDEFGHIJKLMNOPQRSTUVWXYZ[\\]^_`{|}~\n"
def zFV (K:W.Frag):Sp:=λb H Q _=>∃ p z,b=[.ref p,.str z]/\Src H p/\yT z/\∀ x a,yR K a x->Src a p->zD [p] H a->Q x a
theorem zK2 (G:yM K mg "_law_odd" zD0 NF) (B:Cal P w K mg base CX0 2 Sn N8 qL) (d:Blt mg S8):Cal P w K mg base CX0 3 "_law_odd" NF (zFV K):=by
 refine G.oz jY (λf a7 A N s0 H vs Q E hr h=>?_)
 obtain ⟨p,z,rfl,⟨a,b,c,hp⟩,⟨O,aa⟩,q⟩:=h
 have l:zZ 2 _:=hr
 have U:1 <= z.length:=by
  unfold vP at O
  simp only [Bool.and_eq_true,decide_eq_true_eq] at O
  exact O.1.1
 have Y:z.length <= sizeLine:=by rw [sizeLine_eq];omega
 refine ⟨_,(zE (z7 (i:=2) jY.nd rfl (Or.inl rfl) (zO B l (zA (pv 0) (zA zH zB))))
   (@zE _ _ _ _ _ (@dD _ _ _ 3 _ _ _ _ jY.nd rfl (Or.inl rfl) (Or.inl rfl) (@zHV _ _ _ 10 [.str "",.str So,.str "Gate",.str "a1",.str "a b",.str "-",.int 7,.int 0,.bl true,.bl false] (.cons .str (.cons .str (.cons .str (.cons .str (.cons .str (.cons .str (.cons .int (.cons .int (.cons .bl (.cons .bl .nil)))))))))) (zA (yL (zA zJ zB)) (zA (yH (zA zJ (zA zJ zB))) (zA zBD (zA zJ (zA zJ zB)))))))
   (zE (z7 (i:=4) jY.nd rfl (Or.inl rfl) zJ)
   (zE (z4 (zT xF (pv 2) zH (zX _)) (zE (z7 (i:=5) jY.nd rfl (Or.inl rfl) (zO B l (zA (pv 0) (zA (zV yA d yP (zA (pv 1) zB)) zB))))
   (zF (zL (yG rC (yG rC (xT lW (pv 1) wZ (xW (pv 5))) (zS fM (pv 4) (zO B l (zA (pv 0) (zA (zV yA d yP (zA (pv 4) zB)) zB))) (λ_ _=>rfl))) (xT lW (pv 1) (xW (yG wP (pv 5) zH)) wZ))))) zN)
   (zE (z4 (zT xF (pv 2) zH (zX _)) (zF (zL (xT lW (yG zEG (pv 1) zH) wZ (xW (yG wP zH (zO B l (zA (pv 0) (zA zH zB)))))))) zN)
   (zF (zL (zS z6 (pv 3) (zO B l (zA (pv 0) (zA (zV yA d yP (zA (pv 3) zB)) zB))) (λ_ _=>rfl))))))))),?_⟩
 refine ⟨_,rfl,p,a,b,c,4,rfl,hp,by decide,by decide,λab m r w0 w1=>?_⟩
 have k1:zD [p] H (upd H p (.lst [.int m,.int b,.int r])):=zD.at (by simp)
 have D:upd H p (.lst [.int m,.int b,.int r]) p=some (.lst [.int m,.int b,.int r]):=zC
 generalize upd H p (.lst [.int m,.int b,.int r])=s at k1 D ⊢
 refine ⟨by show 1 <= sizeLine;decide,λj g1=>⟨by show 2 <= sizeLine;decide,λg g2=>λk g3=>⟨by show 15 <= sizeLine;decide,λt g4=>?_⟩⟩⟩
 have kl:=zD.new (S:=[]) (o:=.lst [.str "a"]) g1
 have kt:=zD.new (S:=[]) (o:=.tup [.str "a",.str "b"]) g2
 have kd:=zD.new (S:=[]) (o:=.dK []) g3
 have o1:yF K (upd (upd (upd s j (.lst [.str "a"])) g (.tup [.str "a",.str "b"])) k (.dK [])) (.ref j) "list":=.lst (kd.z (kt.z zC))
 have o2:yF K (upd (upd (upd s j (.lst [.str "a"])) g (.tup [.str "a",.str "b"])) k (.dK [])) (.ref g) "tuple":=.tup (kd.z zC)
 have o3:yF K (upd (upd (upd s j (.lst [.str "a"])) g (.tup [.str "a",.str "b"])) k (.dK [])) (.ref k) "dict":=.dK zC
 have kk:zD [] s (upd (upd (upd s j (.lst [.str "a"])) g (.tup [.str "a",.str "b"])) k (.dK [])):=(kl.trans kt).trans kd
 generalize upd (upd (upd s j (.lst [.str "a"])) g (.tup [.str "a",.str "b"])) k (.dK [])=u at g4 o1 o2 o3 kk ⊢
 have kp:zD [] u (upd u t (.lst [.str "",.str So,.str "Gate",.str "a1",.str "a b",.str "-",.int 7,.int 0,.bl true,.bl false,.ref j,.ref g,.ref k,.str "gate ",.str "\n"])):=zD.new g4
 have I:upd u t (.lst [.str "",.str So,.str "Gate",.str "a1",.str "a b",.str "-",.int 7,.int 0,.bl true,.bl false,.ref j,.ref g,.ref k,.str "gate ",.str "\n"]) t=some (.lst [.str "",.str So,.str "Gate",.str "a1",.str "a b",.str "-",.int 7,.int 0,.bl true,.bl false,.ref j,.ref g,.ref k,.str "gate ",.str "\n"]):=zC
 change oC _ _ _ _ (upd u t (.lst [.str "",.str So,.str "Gate",.str "a1",.str "a b",.str "-",.int 7,.int 0,.bl true,.bl false,.ref j,.ref g,.ref k,.str "gate ",.str "\n"]))
 generalize upd u t _=H3 at kp I ⊢
 have k3:zD [] s H3:=kk.trans kp
 have L:=k3.z D
 have kA:zD [p] H H3:=k1.trans (k3.mono (by simp))
 have a0:t ≠ p:=by
  intro e
  rw [e,L] at I
  cases I
 have all:∀ x ∈ ([.str "",.str So,.str "Gate",.str "a1",.str "a b",.str "-",.int 7,.int 0,.bl true,.bl false,.ref j,.ref g,.ref k,.str "gate ",.str "\n"]:List V),∀ M,zD [p] H3 M->j ≠ p->g ≠ p->k ≠ p->yR K M x:=by
  intro x hx M kH n1 n2 n3
  have kq:∀ {y:Addr} {T:String},yF K u (.ref y) T->y ≠ p->yF K M (.ref y) T:=λ{y T} h ne=>by
   have h3:=h.keep kp
   cases h3 with
   | lst e=>exact .lst (kH _ _ (by simp [ne]) e)
   | tup e=>exact .tup (kH _ _ (by simp [ne]) e)
   | dK e=>exact .dK (kH _ _ (by simp [ne]) e)
  simp only [List.mem_cons,zND,or_false] at hx
  rcases hx with rfl | rfl | rfl | rfl | rfl | rfl | rfl | rfl | rfl | rfl | rfl | rfl | rfl | rfl | rfl
  ·exact .str (by decide +kernel)
  ·exact .str (by decide +kernel)
  ·exact .str (by decide +kernel)
  ·exact .str (by decide +kernel)
  ·exact .str (by decide +kernel)
  ·exact .str (by decide +kernel)
  ·exact ⟨⟨_,.int _⟩,nofun⟩
  ·exact ⟨⟨_,.int _⟩,nofun⟩
  ·exact ⟨⟨_,.bl _⟩,nofun⟩
  ·exact ⟨⟨_,.bl _⟩,nofun⟩
  ·exact ⟨⟨_,kq o1 n1⟩,nofun⟩
  ·exact ⟨⟨_,kq o2 n2⟩,nofun⟩
  ·exact ⟨⟨_,kq o3 n3⟩,nofun⟩
  ·exact .str (by decide +kernel)
  ·exact .str (by decide +kernel)
 have n1:j ≠ p:=by intro e;rw [e,D] at g1;cases g1
 have n2:g ≠ p:=by
  intro e
  have:=kl.z D
  rw [e,this] at g2;cases g2
 have n3:k ≠ p:=by
  intro e
  have:=(kl.trans kt).z D
  rw [e,this] at g3;cases g3
 refine ⟨_,rfl,rfl,_,rfl,?_⟩
 refine mB (λh1=>?_) (λh1=>?_)
 ·refine ⟨_,rfl,_,rfl,_,z.length,rfl,⟨Y,rfl⟩,p,m,b,r,_,rfl,L,by omega,by omega,λJ a2 c2 t0 g=>?_⟩
  refine ⟨_,rfl,_,rfl,_,rfl,z,rfl,Y,_,rfl,_,rfl,_,rfl,_,_,rfl,⟨?_,rfl⟩,p,a2,b,c2,_,rfl,zC,?_,?_,λn a4 c4 n0 n1=>?_⟩
  ·decide
  ·decide
  ·decide
  ·rw [uE]
   obtain ⟨ch,a3,ac⟩:=tU (xs:=zJ8.cps.toList) n0 n1
   have e1:=Txt.slice_le z none (some J)
   have e2:=Txt.slice_le z (some (J + 1)) none
   refine ⟨_,_,ch,rfl,rfl,by decide,a3,_,_,rfl,rfl,?_,_,rfl,_,rfl,_,_,rfl,rfl,_,rfl,z,rfl,Y,_,_,rfl,rfl,?_,?_⟩
   ·rw [sizeLine_eq]
    show _ + 1 <= _
    omega
   ·rw [pY,sizeLine_eq]
    show _ + 1 + _ <= _
    omega
   ·refine q _ _ (.str ?_) ⟨_,_,_,zC⟩ (kA.trans (zD.at (by simp)))
    rw [pY,pY]
    show _ + 1 + _ <= _
    omega
 ·refine ⟨_,rfl,rfl,_,rfl,?_⟩
  refine mB (λh2=>?_) (λh2=>?_)
  ·refine ⟨_,rfl,z,9,rfl,rfl,by decide,U,by show z.length * 9 <= 100000;omega,?_⟩
   refine ⟨_,rfl,p,m,b,r,3,rfl,L,by decide,by decide,λv a2 c2 v0 v1=>⟨_,_,rfl,rfl,_,rfl,_,rfl,?_,?_⟩⟩
   ·rw [oQ,sizeLine_eq]
    show 9 * z.length <= _
    omega
   ·have e0:=cO (zAY z 9) (9 + v) (by omega)
    have e1:=oQ z 9
    have e2:(9:Int).toNat * z.length=9 * z.length:=rfl
    refine q _ _ (.str ?_) ⟨_,_,_,zC⟩ (kA.trans (zD.at (by simp)))
    omega
  ·refine ⟨_,rfl,_,rfl,_,rfl,_,_,rfl,.inl ⟨_,.of I,rfl⟩,p,m,b,r,_,rfl,L,by show (0:Int) < 15;decide,by show (15:Int) < 4611686018427387904;decide,λv a2 c2 v0 v1=>?_⟩
   obtain ⟨x,a5,a6⟩:=tU (xs:=([.str "",.str So,.str "Gate",.str "a1",.str "a b",.str "-",.int 7,.int 0,.bl true,.bl false,.ref j,.ref g,.ref k,.str "gate ",.str "\n"]:List V)) v0 v1
   refine ⟨t,_,_,x,rfl,rfl,by rw [zK a0];exact I,a5,?_⟩
   exact q x _ (all x (zMN a6) _ (zD.at (by simp)) n1 n2 n3) ⟨_,_,_,zC⟩ (kA.trans (zD.at (by simp)))
theorem zKG:zM ["_law_house","_law_deed","_law_e"] N7 (zG sRe):=scm
def zJS (K:W.Frag) (C CS:Addr):Sp:=λd H Q _=>∃ B p f a g b k q e i,d=[.ref p,.ref q]/\yC B C CS H p f a g b/\uB k b/\k <= 60/\(∀ z ∈ a,yT z)/\H q=some (.tup (drV e))/\DPl K H e/\Why b a e (some i)/\∀ c,zD [] H c->Q (.str (rA i)) c
theorem Why.lt {ss:List SS} {a:List Str} {e:DR} {i:Nat} (h:Why ss a e (some i)):i < 12:=by cases h <;> decide
theorem okRe (G:yM K mg SV sRe N7) (c:Cal P w K mg base (CXE P w) 7 "_law_look" N7 (jT K C CS b true)) (s:zFQ P w K mg base 1 "_law_kinds" ["_law_e"] (oG b))
  (t:mg "TreeError"=some (.ref u)) (hx:∀ i,i < 12->W.exmOne K (.ref (b i)) (.ref u)=some true):Cal P w K mg base CX0 8 SV N7 (zJS K C CS):=by
 refine G.oz zKG (λf v A d s0 H vs Q E o h=>?_)
 obtain ⟨B,p,x,y,z,D,k,q,e,i,rfl,J,I,L,g,M,N,j,fin⟩:=h
 have l:zZ 7 _:=o
 have m:zZ 1 _:=o.mono (by decide)
 refine ⟨_,(zE (zHQ (i:=2) (th:=(λa=>cM (aP a (oG b) (uC (u5 2) rP)))) t zKG.nd rfl rfl (λn O E1 T=>zF (yB (vW c T l (zA (pv 0) (zA (pv 1) zB))))) (λn a=>zF (zL (zEE s (m.toH (some (.ref a))) rfl (zA (pv 2) zB))))) (zF (zL yQ))),?_⟩
 refine ⟨_,rfl,_,rfl,B,p,x,y,z,D,k,q,e,i,rfl,J,I,L,g,M,N,nofun,j,λr U=>?_⟩
 refine ⟨b i,rfl,hx i j.lt,λa Y hl ha=>?_⟩
 have k2:zD [] r (upd r a (iZ (b i) a)):=zD.new ha
 refine ⟨.ref a,?_,i,rfl,j.lt,zC,λH3 k3=>?_⟩
 ·rw [zNG (by rw [hl];show 2 < 3;decide)]
 ·exact fin H3 (U.trans (k2.trans k3))
end
abbrev sDs:Stmt:=top 59
theorem zEZ {K:W.Frag} {a acc:Addr} {its:List V} {xs:List Str} {ix:List Nat} {u:TE} {w:St} {H1:Hp} {Q:VK} {rest:List (Option V)} (mk:V->List V) (I:its.length <= 2000) (y:H1 acc=none) (A:H1 a=some (.lst its))
  (m:stC xs ix w=none :: rest) (n:∀ v H R,(∀ t,H t=none->R (.ref t) (upd H t (.tup (mk v))))->u (some v :: rest) H R)
  (q:∀ o,Rows o acc (its.map mk)->zD [] H1 o->Q (.ref acc) o):LCW (Itl K a) xs ix (wA 0) sT u w H1 acc Q:=by
 have B:a ≠ acc:=zI A y
 refine uQ (K:=K) (a:=a) (its:=its) (by rw [sizeLine_eq];omega)
  (λi h l c=>∃ d k,l=k :: rest/\h=d.map V.ref/\Paired (λq r=>c q=some (.tup r)) d ((its.take i).map mk)/\zD [acc] H1 c/\c acc=some (.lst h)) ?_ ?_ ?_ ?_
 ·exact ⟨[],none,m,rfl,.nil,zD.at (by simp),zC⟩
 ·rintro i h l c ⟨d,k,rfl,rfl,g,j,f⟩
  refine ⟨f,?_,.of (j _ _ (by simp [B]) A)⟩
  have:=zY g
  rw [zMJ,zM2] at this
  rw [zMJ]
  omega
 ·rintro i h l c x C ⟨d,k,rfl,rfl,g,j,f⟩
  refine n x c _ λt p=>?_
  have s:zD [] c (upd c t (.tup (mk x))):=zD.new p
  refine ⟨s.z f,d ++ [t],_,rfl,by rw [zMV];rfl,?_,(j.trans (s.mono (by simp))).trans (zD.at (by simp)),zC⟩
  have D:zD [acc] c (upd (upd c t (.tup (mk x))) acc (.lst (d.map V.ref ++ [.ref t]))):=(s.mono (by simp)).trans (zD.at (by simp))
  have E:t ≠ acc:=by
   intro e
   rw [e,f] at p;cases p
  rw [List.take_add_one,C,zMV]
  refine uN (zP D (λb G xs e=>by rw [zMM.mp G,f] at e;cases e) g) (.cons ?_ .nil)
  rw [zK E];exact zC
 ·rintro h l c ⟨d,k,rfl,rfl,g,j,f⟩
  rw [zM8 (zMS _)] at g
  exact q c ⟨d,f,g⟩ (j.drop y)
theorem iD (p:yF K H x T) (k:zD S H d) (h:∀ b ∈ S,H b=none \/ ((∃ ys,H b=some (.lst ys))/\∃ ys,d b=some (.lst ys))):yF K d x T:=by
 cases p with
 | non=>exact .non
 | bl b=>exact .bl b
 | int i=>exact .int i
 | str z=>exact .str z
 | @lst a f e=>
  by_cases c:a ∈ S
  ·rcases h a c with z | ⟨_,ys,z⟩
   ·rw [z] at e;cases e
   ·exact .lst z
  ·exact .lst (k _ _ c e)
 | @tup a f e=>
  refine .tup (k _ _ (λc=>?_) e)
  rcases h a c with z | ⟨⟨ys,z⟩,_⟩ <;> rw [z] at e <;> cases e
 | @dK a g e=>
  refine .dK (k _ _ (λc=>?_) e)
  rcases h a c with z | ⟨⟨ys,z⟩,_⟩ <;> rw [z] at e <;> cases e
theorem zE0 {K:W.Frag} {a acc:Addr} {zs:List Str} {xs:List Str} {ix:List Nat} {r:TT} {s:TE} {t:St} {H1:Hp} {Q:VK} {rest:List (Option V)} (b:Str->Bool) (D:zs.length <= 2000) (u:H1 acc=none) (v:H1 a=some (.lst (zs.map V.str)))
  (j:stC xs ix t=none :: rest) (l:∀ (z:Str) (H:Hp) (R:Bool->Hp->Prop),zD [acc] H1 H->R (b z) H->r (some (.str z) :: rest) H R) (m:∀ (z:Str) (H:Hp) (R:VK),R (.str z) H->s (some (.str z) :: rest) H R)
  (q:∀ n,n acc=some (.lst ((zs.filter b).map V.str))->zD [] H1 n->Q (.ref acc) n):LCW (Itl K a) xs ix (wA 0) r s t H1 acc Q:=by
 have y:=zI v u
 refine kU (K:=K) (a:=a) (its:=zs.map V.str) (by rw [zMJ,sizeLine_eq];omega)
  (λi f h c=>∃ (k:Option V),h=k :: rest/\f=((zs.take i).filter b).map V.str/\zD [acc] H1 c/\c acc=some (.lst f)) ?_ ?_ ?_ ?_
 ·exact ⟨none,j,rfl,zD.at (by simp),zC⟩
 ·rintro i f h c ⟨k,rfl,rfl,d,e⟩
  refine ⟨e,?_,.of (d _ _ (by simp [y]) v)⟩
  have B:=zNH b (zs.take i)
  rw [zMJ]
  rw [zM2] at B
  omega
 ·rintro i f h c x g ⟨k,rfl,rfl,d,e⟩
  rw [zMP] at g
  cases o:zs[i]? with
  | none=>rw [o] at g;cases g
  | some z=>
   rw [o] at g
   obtain rfl:V.str z=x:=zMQ g
   refine l z c _ d ?_
   have w:zs.take (i + 1)=zs.take i ++ [z]:=by rw [List.take_add_one,o];rfl
   refine mB (λp=>?_) (λp=>?_)
   ·refine m z c _ ⟨e,_,rfl,?_,d.trans (zD.at (by simp)),zC⟩
    rw [w,List.filter_append,zMV,List.filter_cons_of_pos p];rfl
   ·have C:((zs.take (i + 1)).filter b)=(zs.take i).filter b:=by
     rw [w,List.filter_append,List.filter_cons_of_neg p];simp
    exact ⟨_,rfl,by rw [C],d,e⟩
 ·rintro f h c ⟨k,rfl,rfl,d,e⟩
  rw [zMJ,zM8 (zMS _)] at e
  exact q c e (d.drop u)
def PLs (K:W.Frag) (H:Hp) (l:Addr) (n:Nat):Prop:=∃ a,H l=some (.lst a)/\a.length <= n/\∀ v ∈ a,yR K H v
def Drs (K:W.Frag) (H:Hp) (l:Addr) (n:Nat):Prop:=∃ a:List DR,Rows H l (a.map drV)/\a.length <= n/\∀ e ∈ a,DPl K H e
theorem zD2 (h:Rows H l a) (k:zD [] H c):Rows c l a:=let ⟨d,e,p⟩:=h;⟨d,k.z e,zP k (λb f=>absurd f zND) p⟩
theorem PLs.on (h:PLs K H l n) (k:zD [] H a):PLs K a l n:=let ⟨b,e,c,p⟩:=h;⟨b,k.z e,c,λv d=>(p v d).on k⟩
theorem Drs.on (h:Drs K H l n) (k:zD [] H a):Drs K a l n:=let ⟨b,r,c,p⟩:=h;⟨b,zD2 r k,c,λv d=>(p v d).on k⟩
theorem p9 (g:PLs K H a n) (i:PLs K H b m) (l:n + m <= 100000) (q:∀ (l:Addr) (c:Hp),PLs K c l (n + m)->zD [] H c->Q (.ref l) c):zHP (.ref a) (.ref b) H Q:=by
 obtain ⟨e,j,r,k⟩:=g
 obtain ⟨f,o,s,py⟩:=i
 refine ⟨a,b,e,f,rfl,rfl,j,o,by rw [sizeLine_eq];omega,λl d=>q l _ ⟨e ++ f,zC,by rw [zM1];omega,λv p=>?_⟩ (zD.new d)⟩
 rcases zM0.mp p with h | h
 ·exact (k v h).on (zD.new d)
 ·exact (py v h).on (zD.new d)
theorem qA (j:Drs K H a n) (c:Drs K H b m) (l:n + m <= 100000) (q:∀ (l:Addr) (d:Hp),Drs K d l (n + m)->zD [] H d->Q (.ref l) d):zHP (.ref a) (.ref b) H Q:=by
 obtain ⟨o,⟨e,p,f⟩,z,r⟩:=j
 obtain ⟨s,⟨g,t,i⟩,A,py⟩:=c
 have u:=zY f
 have w:=zY i
 rw [zMJ] at u w
 refine ⟨a,b,_,_,rfl,rfl,p,t,by rw [zMJ,zMJ,sizeLine_eq];omega,λl x=>?_⟩
 have k:zD [] H (upd H l (.lst (e.map V.ref ++ g.map V.ref))):=zD.new x
 refine q l _ ⟨o ++ s,⟨e ++ g,by rw [zC,zMV],?_⟩,by rw [zM1];omega,λv y=>?_⟩ k
 ·rw [zMV]
  exact uN (zP k (λb c=>absurd c zND) f) (zP k (λb c=>absurd c zND) i)
 ·rcases zM0.mp y with h | h
  ·exact (r v h).on k
  ·exact (py v h).on k
theorem kW {K:W.Frag} {a acc:Addr} {xs:List Str} {ix:List Nat} {g:TE} {h:St} {H1:Hp} {Q:VK} {rest:List (Option V)} {n:Nat} (mk:V->DR) (s:n <= 2000) (i:H1 acc=none) (j:PLs K H1 a n) (c:stC xs ix h=none :: rest)
  (l:∀ v,yR K H1 v->DPl K H1 (mk v)) (f:∀ (v:V) (H:Hp) (R:VK),(∀ t,H t=none->R (.ref t) (upd H t (.tup (drV (mk v)))))->g (some v :: rest) H R)
  (q:∀ b,Drs K b acc n->zD [] H1 b->Q (.ref acc) b):LCW (Itl K a) xs ix (wA 0) sT g h H1 acc Q:=by
 obtain ⟨m,e,o,p⟩:=j
 refine zEZ (λv=>drV (mk v)) (by omega) i e c f λb R k=>q b ⟨m.map mk,by rw [zM3];exact R,by rw [zMJ];exact o,λd hd=>?_⟩ k
 obtain ⟨v,r,rfl⟩:=List.mem_map.mp hd
 exact (l v (p v r)).on k
theorem i7 (h:v ∈ vI xs lo a):v ∈ xs:=List.mem_of_mem_drop (List.mem_of_mem_take h)
theorem Drs.le (h:Drs K H l n) (e:n <= m):Drs K H l m:=let ⟨a,r,b,p⟩:=h;⟨a,r,zMU b e,p⟩
theorem zIS {is:List Int} (v0:0 <= v) (v1:v < (is.length:Int)):∃ i,atI (is.map V.int) v=some (.int i):=by
 obtain ⟨x,a,b⟩:=tU (xs:=is.map V.int) v0 (by rw [zMJ];exact v1)
 obtain ⟨i,_,rfl⟩:=List.mem_map.mp (zMN b)
 exact ⟨i,a⟩
theorem cA (e:PLs K H a n) (q:∀ (l:Addr) (b:Hp),PLs K b l n->zD [] H b->Q (.ref l) b):zHN K (.ref a) lo f H Q:=by
 obtain ⟨c,g,h,i⟩:=e
 refine ⟨a,c,rfl,.of g,λl d=>q l _ ⟨_,zC,zMU (sE c lo f) h,λv j=>(i v (i7 j)).on (zD.new d)⟩ (zD.new d)⟩
section
variable {P:Program} {w:World} {K:W.Frag} {mg:Str->Option Value} {base:Heap} {C:Addr}
theorem rS:zM N0 Nt (zG sDs):=scm
def zJ2 (K:W.Frag):Sp:=λc H Q _=>∃ (p nl:Addr) (a:List Str) (n:Nat),c=[.ref p,.ref nl,.int (n:Int)]/\Src H p/\H nl=some (.lst (a.map V.str))/\(∀ z ∈ a,yT z)/\a ≠ []/\a.length <= 40/\n <= 4/\∀ (r:Addr) (b:Hp),Drs K b r 5000->zD [p] H b->Q (.ref r) b
theorem okDs (G:yM K mg "_law_doors" sDs Nt) (CN:Cal P w K mg base CX0 2 Sn N8 qL) (CO:Cal P w K mg base CX0 3 "_law_odd" NF (zFV K)) (s:Blt mg Su) (I:Blt mg "list"):Cal P w K mg base CX0 4 "_law_doors" Nt (zJ2 K):=by
 refine G.oz rS (λf bo A b2 s0 H vs Q E hr h=>?_)
 obtain ⟨p,nl,zs,n,rfl,⟨a0,b0,c0,hp⟩,J,gz,ne,lz,ln,q⟩:=h
 have ab:zZ 3 _:=hr
 have b3:zZ 2 _:=hr.mono (by decide)
 obtain ⟨z0,ac,ae⟩:∃ z0,atI (zs.map V.str) 0=some (V.str z0)/\yT z0:=by
  cases zs with
  | nil=>exact absurd rfl ne
  | cons z t=>exact ⟨z,at0 _ _,gz z (by simp)⟩
 have a2:nl ≠ p:=by
  rintro rfl
  cases zs with
  | nil=>exact ne rfl
  | cons z t=>rw [J] at hp;simp at hp
 refine ⟨_,(zE (z7 (i:=3) rS.nd rfl (Or.inl rfl) (zS z6 (yL (zA (pv 2) (zA (yG wP (pv 2) zH) (zA (yG zHY zH zH) (zA (zBB gG zH) zB))))) (zO CN b3 (zA (pv 0) (zA zH zB))) (λ_ _=>rfl)))
   (zE (z7 (i:=4) rS.nd rfl (Or.inl rfl) (yL (zA (zO CO ab (zA (pv 0) (zA (zS z6 (pv 1) zH (λ_ _=>rfl)) zB))) (zA (zO CO ab (zA (pv 0) (zA (zS z6 (pv 1) zH (λ_ _=>rfl)) zB))) (zA yQ (zA zJ zB))))))
   (zE (z7 (i:=5) rS.nd rfl (Or.inl rfl) (xT sK (wV (N:=N0) (sc:=zG sDs) (ix:=[1]) (by decide +kernel) (y6 (yL (zA zJ (zA zJ (zA zJ zB))))) (λ_ _ _ _=>(kN (zT fE (pv 0) (pv 1) (by with_unfolding_all rfl)))) (λ_ _ _ _=>(pv 0))) wZ (xW zH)))
   (zE (z7 (i:=6) rS.nd rfl (Or.inl rfl) (yG wO (xE (nM rfl) rfl I.no vR (zA (xE pK rfl s.no hU (zA (pv 2) zB)) zB)) (yL (zA (pv 2) (zA (zBB gG zH) (zA (pv 3) (zA wS (zA wS (zA zJ (zA (yL (zA zH zB)) (zA (yH (zA zH zB)) (zA (yG zBH (zBB gG (pv 2)) zH) (zA yQ zB)))))))))))))
   (zE (z7 (i:=7) rS.nd rfl (Or.inl rfl) (yL zB))
   (zE (vM PassesOwn.never rfl (y6 (yL (zA zJ (zA zJ (zA zJ (zA zJ zB)))))) (yI (i:=8) rS.nd rfl (Or.inr rfl)) (zF (z7 (i:=7) rS.nd rfl (Or.inl rfl) (yG wO (pv 7) (wV (N:=N0) (sc:=zG sDs) (ix:=[8]) (by decide +kernel) (y6 (pv 6)) (λ_ _ _ _=>xG) (λ_ _ _ _=>(yH (zA (pv 1) (zA (pv 0) zB)))))))))
   (zE (vM PassesOwn.never rfl (y6 (yG wO (yG wO (pv 1) (pv 5)) (pv 4))) (yI (i:=9) rS.nd rfl (Or.inr rfl)) (zE (z7 (i:=7) rS.nd rfl (Or.inl rfl) (yG wO (pv 7) (yL (zA (yH (zA zJ (zA (pv 9) zB))) (zA (yH (zA zJ (zA (pv 9) zB))) zB)))))
   (zE (z7 (i:=7) rS.nd rfl (Or.inl rfl) (yG wO (pv 7) (wV (N:=N0) (sc:=zG sDs) (ix:=[9]) (by decide +kernel) (y6 (pv 6)) (λ_ _ _ _=>xG) (λ_ _ _ _=>(yH (zA zJ (zA (pv 1) (zA (pv 0) zB))))))))
   (zE (z7 (i:=7) rS.nd rfl (Or.inl rfl) (yG wO (pv 7) (wV (N:=N0) (sc:=zG sDs) (ix:=[9]) (by decide +kernel) (y6 (pv 6)) (λ_ _ _ _=>xG) (λ_ _ _ _=>(yH (zA zJ (zA (pv 1) (zA (pv 0) zB))))))))
   (zF (vM PassesOwn.never rfl (y6 (yG wO (xT sK (pv 6) wZ (xW (yG wP (pv 2) zH))) (yL (zA yQ (zA wS zB))))) (yI (i:=10) rS.nd rfl (Or.inr rfl)) (zF (z7 (i:=7) rS.nd rfl (Or.inl rfl) (yG wO (pv 7) (wV (N:=N0) (sc:=zG sDs) (ix:=[9,10]) (by decide +kernel) (y6 (yL (zA wS (zA wS (zA zH (zA yQ zB)))))) (λ_ _ _ _=>xG) (λ_ _ _ _=>(yH (zA zJ (zA (pv 1) (zA (pv 2) (zA (pv 0) zB))))))))))))))))
   (zF (zL (pv 7)))))))))),?_⟩
 refine sq λM k=>?_
 refine ⟨_,rfl,_,rfl,_,_,rfl,rfl,_,_,rfl,rfl,⟨by decide,by decide,by decide⟩,_,rfl,by show 4 <= sizeLine;decide,λl0 a3=>?_⟩
 have lp:l0 ≠ p:=Ne.symm (zI hp a3)
 refine ⟨_,rfl,p,a0,b0,c0,4,rfl,(zD.new (S:=[]) a3).z hp,by decide,by decide,λv a1 c1 v0 v1=>?_⟩
 obtain ⟨fr,hf⟩:=zIS (is:=[(n:Int),(n:Int) + 7,10 ^ (30:Int).toNat,-1]) v0 v1
 refine ⟨l0,_,v,.int fr,rfl,rfl,by rw [zK lp];exact zC,hf,?_⟩
 generalize a4:upd (upd H l0 _) p _=H1
 have k1:zD [p] H H1:=by rw [<- a4];exact ((zD.new (S:=[]) a3).mono (by simp)).trans (zD.at (by simp))
 have s1:Src H1 p:=by rw [<- a4];exact ⟨_,_,_,zC⟩
 clear a4
 refine k _ _ (sq λM k=>?_)
 refine ⟨_,rfl,_,rfl,nl,_,0,_,rfl,rfl,k1 _ _ (by simp [a2]) J,ac,p,z0,rfl,s1,ae,λx1 H2 o1 s2 k2=>?_⟩
 have af:=k1.trans k2
 refine ⟨_,rfl,_,rfl,nl,_,0,_,rfl,rfl,af _ _ (by simp [a2]) J,ac,p,z0,rfl,s2,ae,λx2 H3 o2 s3 k3=>?_⟩
 have ag:=af.trans k3
 have o1:yR K H3 x1:=⟨let ⟨T,t⟩:=o1.1;⟨T,iD t k3 λb hb=>by
  rw [zMM.mp hb]
  obtain ⟨_,_,_,e2⟩:=s2
  obtain ⟨_,_,_,e3⟩:=s3
  exact .inr ⟨⟨_,e2⟩,_,e3⟩⟩,o1.2⟩
 refine ⟨by show 4 <= sizeLine;decide,λol b4=>?_⟩
 have k4:zD [] H3 (upd H3 ol (.lst [x1,x2,.non,.str ""])):=zD.new b4
 have O:PLs K (upd H3 ol (.lst [x1,x2,.non,.str ""])) ol 4:=⟨_,zC,zMS _,λv d=>by
  simp only [List.mem_cons,zND,or_false] at d
  rcases d with rfl | rfl | rfl | rfl
  ·exact o1.on k4
  ·exact o2.on k4
  ·exact ⟨⟨_,.non⟩,nofun⟩
  ·exact .str (by decide +kernel)⟩
 generalize upd H3 ol (.lst [x1,x2,.non,.str ""])=H4 at k4 O ⊢
 have ah:=k4.z (ag _ _ (by simp [a2]) J)
 have ba:zD [p] H H4:=ag.trans (k4.mono (by simp))
 refine k _ _ (sq λM k=>?_)
 refine ⟨by show 3 <= sizeLine;decide,λl5 ai=>⟨l5,rfl,⟨_,.of zC⟩,λsc aj=>zE0 (zs:=[("zebra" : Str),"z","zz"]) (rest:=[some (.ref nl)]) (λz=>!inV (.str z) (zs.map V.str)) (by decide) aj zC rfl ?_ (λz H R h=>⟨_,rfl,h⟩) ?_⟩⟩
 ·intro z H5 R k5 L
  have e:=(zD.new (S:=[]) (o:=.lst [.str "zebra",.str "z",.str "zz"]) ai).z ah
  have e5:=k5 _ _ (by simp [zI e aj]) e
  exact ⟨_,rfl,_,rfl,nl,_,rfl,e5,rfl,by simp [xD],_,rfl,L⟩
 intro H5 bb bc
 have k5:zD [] H4 H5:=(zD.new ai).trans bc
 refine ⟨_,rfl,cA (n:=3) ⟨_,bb,by rw [zMJ];exact zNH _ _,λv d=>?_⟩ λsl H6 SL k6=>?_⟩
 ·obtain ⟨z,hz,rfl⟩:=List.mem_map.mp d
  exact .str ((show ∀ z ∈ [("zebra" : Str),"z","zz"],z.length <= 1000 by decide +kernel) z (List.mem_filter.mp hz).1)
 have a5:=k5.trans k6
 have O6:=O.on a5
 have bd:=a5.z ah
 refine k _ _ (sq λM k=>?_)
 refine ⟨_,rfl,n,rfl,λrp be=>⟨rp,n,rfl,zC,by omega,λra bf=>?_⟩⟩
 have k7:zD [] H6 (upd (upd H6 rp (pM rp n)) ra (.lst (sU n))):=(zD.new be).trans (zD.new bf)
 have R0:PLs K (upd (upd H6 rp (pM rp n)) ra (.lst (sU n))) ra 4:=⟨_,zC,by unfold sU;rw [zMJ,List.length_range];exact ln,λv d=>by
  obtain ⟨i,_,rfl⟩:=List.mem_map.mp d
  exact ⟨⟨_,.int _⟩,nofun⟩⟩
 generalize upd (upd H6 rp (pM rp n)) ra (.lst (sU n))=H7 at k7 R0 ⊢
 refine ⟨_,rfl,_,rfl,_,rfl,by show 1 <= sizeLine;decide,λl6 bg=>⟨by show 1 <= sizeLine;decide,λt6 ak=>⟨_,rfl,_,rfl,_,_,rfl,rfl,by show 10 <= sizeLine;decide,λl7 a6=>?_⟩⟩⟩
 have k8:zD [] H7 (upd (upd (upd H7 l6 (.lst [.int 0])) t6 (.tup [.int 0])) l7 (.lst [.int (n:Int),.int (-1),.int fr,.bl true,.bl false,.str "0",.ref l6,.ref t6,.int (-(n:Int) - 1),.non])):=((zD.new bg).trans (zD.new ak)).trans (zD.new a6)
 have R1:PLs K (upd (upd (upd H7 l6 (.lst [.int 0])) t6 (.tup [.int 0])) l7 (.lst [.int (n:Int),.int (-1),.int fr,.bl true,.bl false,.str "0",.ref l6,.ref t6,.int (-(n:Int) - 1),.non])) l7 10:=⟨_,zC,zMS _,λv d=>by
  simp only [List.mem_cons,zND,or_false] at d
  rcases d with rfl | rfl | rfl | rfl | rfl | rfl | rfl | rfl | rfl | rfl
  ·exact ⟨⟨_,.int _⟩,nofun⟩
  ·exact ⟨⟨_,.int _⟩,nofun⟩
  ·exact ⟨⟨_,.int _⟩,nofun⟩
  ·exact ⟨⟨_,.bl _⟩,nofun⟩
  ·exact ⟨⟨_,.bl _⟩,nofun⟩
  ·exact .str (by decide +kernel)
  ·exact ⟨⟨_,.lst ((zD.new (S:=[]) a6).z ((zD.new (S:=[]) ak).z zC))⟩,nofun⟩
  ·exact ⟨⟨_,.tup ((zD.new (S:=[]) a6).z zC)⟩,nofun⟩
  ·exact ⟨⟨_,.int _⟩,nofun⟩
  ·exact ⟨⟨_,.non⟩,nofun⟩⟩
 refine p9 (R0.on k8) R1 (by decide) λrl H8 R al=>?_
 have u:=(k7.trans k8).trans al
 clear R1 k8 al
 have O8:=O6.on u
 have bh:=SL.on u
 have bi:=u.z bd
 have bj:zD [p] H H8:=ba.trans ((a5.trans u).mono (by simp))
 clear u
 refine k _ _ ?_
 refine ⟨by show 0 <= sizeLine;decide,λd0 bk=>⟨by show 4 <= sizeLine;decide,λwl an=>?_⟩⟩
 have k9:zD [] H8 (upd (upd H8 d0 (.lst [])) wl (.lst [.str S3,.str Sd,.str NX,.str NU])):=(zD.new bk).trans (zD.new an)
 have ao:=(zD.new (S:=[]) (o:=.lst [.str S3,.str Sd,.str NX,.str NU]) an).z (zC (H:=H8) (a:=d0) (o:=.lst []))
 have a7:upd (upd H8 d0 (.lst [])) wl (.lst [.str S3,.str Sd,.str NX,.str NU]) wl=_:=zC
 refine ⟨wl,rfl,⟨_,.of a7⟩,?_⟩
 generalize upd (upd H8 d0 (.lst [])) wl _=H9 at k9 ao a7 ⊢
 refine vQ (K:=K) (a:=wl) (λi g B=>∃ (dl:Addr) (v8:Option V),g=[some (.ref p),some (.ref nl),some (.int (n:Int)),some (.int fr),some (.ref ol),some (.ref sl),some (.ref rl),some (.ref dl),v8,none,none]/\Drs K B dl (14 * i)/\zD [] H9 B) ⟨d0,none,rfl,⟨[],⟨[],ao,.nil⟩,zMS _,λe he=>absurd he zND⟩,zD.refl _⟩ (λi g B _ ⟨_,_,_,_,kp⟩=>.of (kp.z a7)) ?_ ?_
 ·rintro i v g Ha Y ⟨dl,v8,rfl,D,ka⟩
  obtain ⟨h4,rfl⟩:i < 4/\v=.str (iS i):=by
   rcases i with _ | _ | _ | _ | i
   ·exact ⟨by decide,(zMQ Y).symm⟩
   ·exact ⟨by decide,(zMQ Y).symm⟩
   ·exact ⟨by decide,(zMQ Y).symm⟩
   ·exact ⟨by decide,(zMQ Y).symm⟩
   ·cases Y
  have Ra:=R.on (k9.trans ka)
  obtain ⟨rv,er,_⟩:=id Ra
  refine ⟨_,rfl,_,rfl,rl,rfl,⟨_,.of er⟩,λacc c=>kW (rest:=[some (.str (iS i))]) (λx=>.look i x) (by decide) c Ra rfl (λv pv=>⟨h4,pv⟩) (λx H R L=>⟨_,rfl,_,rfl,by show 2 <= sizeLine;decide,λt ht=>L t ht⟩) λHb Db kb=>?_⟩
  exact qA (D.on kb) Db (by omega) λl Hc Dc kc=>⟨l,_,rfl,Dc.le (by omega),(ka.trans kb).trans kc⟩
 rintro g Ha ⟨d1,v8,rfl,D1,ka⟩
 have U:=k9.trans ka
 have Na:PLs K Ha nl 40:=⟨_,U.z bi,by rw [zMJ];exact lz,λv d=>by
  obtain ⟨z,hz,rfl⟩:=List.mem_map.mp d
  exact .str (by have:=(gz z hz).2;omega)⟩
 refine ⟨_,rfl,_,rfl,p9 Na (bh.on U) (by decide) λc1 Hb Pb kb=>⟨_,rfl,p9 Pb ((O8.on U).on kb) (by decide) λc2 Hc Pc kc=>?_⟩⟩
 have aq:=(U.trans kb).trans kc
 have Dc:=(D1.on kb).on kc
 have Rc:=R.on aq
 have kC:zD [p] H Hc:=bj.trans (aq.mono (by simp))
 obtain ⟨vs,ec,lc,pc⟩:=Pc
 refine ⟨c2,rfl,⟨_,.of ec⟩,vQ (K:=K) (a:=c2) (xs:=vs) (λi g B=>∃ (dl:Addr) (v9 v10:Option V),g=[some (.ref p),some (.ref nl),some (.int (n:Int)),some (.int fr),some (.ref ol),some (.ref sl),some (.ref rl),some (.ref dl),v8,v9,v10]/\Drs K B dl (56 + 94 * i)/\zD [] Hc B) ⟨d1,none,none,rfl,Dc,zD.refl _⟩ (λi g B _ ⟨_,_,_,_,_,kp⟩=>.of (kp.z ec)) ?_ ?_⟩
 ·rintro i v g Hd Y ⟨dl,v9,v10,rfl,D,kd⟩
  have bp:i < vs.length:=(zML.mp Y).1
  have pv:=(pc v (zMN Y)).on kd
  refine sq λM k=>?_
  refine ⟨_,rfl,_,rfl,by show 2 <= sizeLine;decide,λt1 bm=>⟨_,rfl,by show 2 <= sizeLine;decide,λt2 ar=>⟨by show 2 <= sizeLine;decide,λl hl=>?_⟩⟩⟩
  have ke:zD [] Hd (upd (upd (upd Hd t1 (.tup [.str NW,v])) t2 (.tup [.str NY,v])) l (.lst [.ref t1,.ref t2])):=((zD.new bm).trans (zD.new ar)).trans (zD.new hl)
  have De:Drs K (upd (upd (upd Hd t1 (.tup [.str NW,v])) t2 (.tup [.str NY,v])) l (.lst [.ref t1,.ref t2])) l 2:=⟨[.leave v,.done v],⟨[t1,t2],zC,.cons ((zD.new (S:=[]) hl).z ((zD.new (S:=[]) ar).z zC)) (.cons ((zD.new (S:=[]) hl).z zC) .nil)⟩,zMS _,λe he=>by
   simp only [List.mem_cons,zND,or_false] at he
   rcases he with rfl | rfl
   ·exact pv.on ke
   ·exact pv.on ke⟩
  refine qA (D.on ke) De (by omega) λd2 He D2 au=>?_
  have kde:=ke.trans au
  clear De ke au
  have Re:=(Rc.on kd).on kde
  obtain ⟨_,er,_⟩:=id Re
  refine k _ _ (sq λM k=>?_)
  refine ⟨_,rfl,_,rfl,rl,rfl,⟨_,.of er⟩,λacc c=>kW (rest:=[some v]) (λx=>.want v x) (by decide) c Re rfl (λx px=>⟨pv.on kde,px⟩) (λx H R L=>⟨_,rfl,_,rfl,by show 3 <= sizeLine;decide,λt ht=>L t ht⟩) λHf Df kf=>?_⟩
  refine qA (D2.on kf) Df (by omega) λd3 Hg D3 kg=>?_
  have kdg:=(kde.trans kf).trans kg
  have Rg:=(Rc.on kd).on kdg
  obtain ⟨_,er,_⟩:=id Rg
  refine k _ _ (sq λM k=>?_)
  refine ⟨_,rfl,_,rfl,rl,rfl,⟨_,.of er⟩,λacc c=>kW (rest:=[some v]) (λx=>.ask v x) (by decide) c Rg rfl (λx px=>⟨pv.on kdg,px⟩) (λx H R L=>⟨_,rfl,_,rfl,by show 3 <= sizeLine;decide,λt ht=>L t ht⟩) λHh Dh kh=>?_⟩
  refine qA (D3.on kh) Dh (by omega) λd4 Hi D4 ki=>?_
  have av:=(kdg.trans kh).trans ki
  refine k _ _ ?_
  refine ⟨_,rfl,_,rfl,_,_,rfl,rfl,_,rfl,cA ((Rc.on kd).on av) λc3 Hj Pj kj=>⟨by show 2 <= sizeLine;decide,λl3 aw=>?_⟩⟩
  refine p9 (n:=4 + 10) (m:=2) (Pj.on (zD.new aw)) ⟨_,zC,zMS _,λv d=>by
   simp only [List.mem_cons,zND,or_false] at d
   rcases d with rfl | rfl
   ·exact ⟨⟨_,.non⟩,nofun⟩
   ·exact ⟨⟨_,.bl _⟩,nofun⟩⟩ (by decide) λc4 Hk Pk kk=>?_
  have ax:=(kj.trans (zD.new aw)).trans kk
  have ay:=av.trans ax
  obtain ⟨rs,az,bq,bn⟩:=Pk
  refine ⟨c4,rfl,⟨_,.of az⟩,vQ (K:=K) (a:=c4) (xs:=rs) (λj g B=>∃ (dl:Addr) (v10:Option V),g=[some (.ref p),some (.ref nl),some (.int (n:Int)),some (.int fr),some (.ref ol),some (.ref sl),some (.ref rl),some (.ref dl),v8,some v,v10]/\Drs K B dl (86 + 94 * i + 4 * j)/\zD [] Hk B) ⟨d4,v10,rfl,(D4.on ax).le (by omega),zD.refl _⟩ (λi g B _ ⟨_,_,_,_,kp⟩=>.of (kp.z az)) ?_ ?_⟩
  ·rintro j r g Hl hj ⟨dl,v10,rfl,D5,kl⟩
   have br:j < rs.length:=(zML.mp hj).1
   have pr:=(bn r (zMN hj)).on kl
   refine ⟨_,rfl,by show 4 <= sizeLine;decide,λbl aa=>⟨bl,rfl,⟨_,.of zC⟩,λacc c=>kW (n:=4) (rest:=[some v,some r]) (λx=>.come v r x) (by decide) c ⟨_,zC,zMS _,λy hy=>?_⟩ rfl (λx px=>⟨((pv.on ay).on kl).on (zD.new aa),pr.on (zD.new aa),px⟩) (λx H R L=>⟨_,rfl,_,rfl,_,rfl,by show 4 <= sizeLine;decide,λt ht=>L t ht⟩) λHm Dm km=>?_⟩⟩
   ·simp only [List.mem_cons,zND,or_false] at hy
    rcases hy with rfl | rfl | rfl | rfl
    ·exact ⟨⟨_,.bl _⟩,nofun⟩
    ·exact ⟨⟨_,.bl _⟩,nofun⟩
    ·exact ⟨⟨_,.int _⟩,nofun⟩
    ·exact ⟨⟨_,.non⟩,nofun⟩
   have b1:=(zD.new (S:=[]) aa).trans km
   exact qA (D5.on b1) Dm (by omega) λl Hn Dn kn=>⟨l,_,rfl,Dn.le (by omega),(kl.trans b1).trans kn⟩
  ·rintro g Hl ⟨dl,v10,rfl,D5,kl⟩
   exact ⟨dl,_,_,rfl,D5.le (by omega),(kd.trans ay).trans kl⟩
 ·rintro g Hd ⟨dl,v9,v10,rfl,D,kd⟩
  exact ⟨_,rfl,q dl Hd (D.le (by omega)) (kC.trans (kd.mono (by simp)))⟩
end
end K25
namespace L2
open PySem PySem.Spec PyProof.Rows PySem.W
noncomputable def sB (w:World):Bool:=!(w.params.followText "set-order")
section
variable {prog:Program} {w:World} {A:Around} {E:VSP} {s:Shared}
def jH (prog:Program) (w:World) (h:Heap) (S:Addr) (val:Nat->Str) (i:Nat) (led:Bool):Prop:=
 ∃ o a b t,h.get? S=some o/\o.ExactSet/\o.data=.set a b t/\ElemsOf (PySem.strKind prog w) a.toList/\(∀ k,(wT val i).any (· == k)=true ↔ ∃ e ∈ a.toList,(PySem.strKind prog w).is k e.2=true)
  /\ a.size < scanBound/\t.fits a.size=true/\a.size=(wT val i).length/\t.led=led/\(a.size=0 \/ t.plain=false)
theorem qN {h h':Heap} (x:jH prog w h S val i led) (k:∀ o,h.get? S=some o->h'.get? S=some o):jH prog w h' S val i led:=by
 obtain ⟨o,a,b,c,d,q⟩:=x
 exact ⟨o,a,b,c,k o d,q⟩
theorem zE1 (t:SetTable) (a:Array (Int × Value)) (h:Int) (x:Value):(layNew t a h x).2.1.led=t.led:=by
 unfold layNew
 split
 ·simp only [SetTable.orStandIn]
  split <;> rfl
 ·rfl
theorem cU (t:SetTable) (b:Array (Int × Value)) (n:Nat):(relayAll t b n).2.1.led=t.led/\(t.plain=false->(relayAll t b n).2.1.plain=false):=by
 unfold relayAll
 split
 ·rename_i c order a
  unfold SetTable.relaid SetTable.laid at a
  cases f:SetTable.layClean (SetTable.sizeAbove n - 1) (b.map (·.1)) with
  | none=>rw [f] at a;cases a
  | some k=>
   rw [f] at a
   have e:=zMQ a
   have d:=congrArg Prod.fst e
   have h:c.led=t.led:=by rw [show c=_ from d.symm]
   have i:c.plain=t.plain:=by rw [show c=_ from d.symm]
   clear a e d
   dsimp only
   by_cases g:(coversAll order b.size && c.fits (order.filterMap (b[·]?)).size)=true
   ·rw [if_pos g];exact ⟨h,λj=>i.trans j⟩
   ·rw [if_neg g];exact ⟨rfl,λ_=>rfl⟩
 ·exact ⟨rfl,λ_=>rfl⟩
theorem zA2 {h:Heap} (c:h.get? a=some o) (hd:o.data=.set e d t) (b:Array (Int × Value)) (t':SetTable):(h.update a (Obj.putSet b t')).get? a=some { o with data:=.set b (d + 1) t' }:=by
 have:=Heap.get?_update_self (Obj.putSet b t') c (by rw [putSet_of b t' hd];rfl)
 rw [putSet_of b t' hd] at this
 exact this
theorem lI {g:Bool->Sem Unit} (B:∀ b i y,y () i->wpAny (model prog w) A (g b) y E i) {a:Addr} {o:Obj} {C:Array (Int × Value)} {D:Nat} {t:SetTable} (z:s.heap.get? a=some o) (hd:o.data=.set C D t)
  {c:Array (Int × Value)} {t2:SetTable} (m:c.size < scanBound) (r:t2.fits c.size=true) (n:t2.plain=false) {e:Bool} {R:Option Bool->Shared->Prop}
  (h:∀ h' d u j,Heap.SameBut a s.heap h'->h'.get? a=some { o with data:=.set d u j }->List.Perm d.toList c.toList->j.fits d.size=true->j.led=t2.led->j.plain=false->R (some true) { s with heap:=h' }) :
  wpAny (model prog w) A (do
    storeSet a c t2
    if (!e && t2.tooFull)=true then do
      g (relayAll t2 c (SetTable.grown c.size)).2.2
      storeSet a (relayAll t2 c (SetTable.grown c.size)).1 (relayAll t2 c (SetTable.grown c.size)).2.1
      pure (some true)
     else pure (some true)) R E s:=by
 refine wpAny_bind (wpAny_storeSet_of z hd ?_ (fits_of_scanBound m))
 have k:=zA2 z hd c t2
 have p:=Heap.SameBut.update s.heap a (Obj.putSet c t2)
 split
 ·have q:=relayAll_perm t2 c (SetTable.grown c.size)
  have l:=relayAll_fits t2 c (SetTable.grown c.size)
  have f:=cU t2 c (SetTable.grown c.size)
  generalize relayAll t2 c (SetTable.grown c.size)=G at q l f ⊢
  obtain ⟨d,j,v⟩:=G
  dsimp only at q l f ⊢
  have x:d.size=c.size:=by rw [<- Array.length_toList,q.length_eq,Array.length_toList]
  refine wpAny_bind (B _ _ _ ?_)
  refine wpAny_bind (wpAny_storeSet_of k rfl ?_ (fits_of_scanBound (by rw [x];exact m)))
  exact wpAny_pure (h _ d _ j (p.trans (Heap.SameBut.update _ a _)) (zA2 k rfl d j) q l f.1 (f.2 n))
 ·exact wpAny_pure (h _ c _ t2 p k (List.Perm.refl _) r rfl n)
theorem addX (hS:jH prog w s.heap a val i led) (G:(wT val i).length + 1 < scanBound)
  (h:∀ h' b,Heap.SameBut a s.heap h'->jH prog w h' a val (i + 1) led->Q b { s with heap:=h' }) :
  wpAny (model prog w) A (setAddHashed a (.str (val i) J) ((PySem.strKind prog w).hash (val i))) Q E s:=by
 obtain ⟨o,x,ep,t,M,hex,hd,r,m,hb,U,Y,y,a0⟩:=hS
 have n:(PySem.strKind prog w).is (val i) (.str (val i) J)=true:=strKind_is _ _ _ _
 have H:(Value.str (val i) J).scannable=true:=rfl
 unfold setAddHashed setAddHashedIn
 refine wpAny_holding (wpAny_bind (wpAny_setState_of M hd U ?_))
 dsimp only
 rw [byScan_of H hb r]
 simp only [↓reduceIte]
 unfold setAddByScan
 refine wpAny_bind ?_
 refine wpAny_bind (wpAny_rule (wpAny_bind (wpAny_setScan_of n M hd U r ?_)))
 cases hr:List.findIdx? (λe=>(PySem.strKind prog w).is (val i) e.2) x.toList with
 | some j=>
  dsimp only
  obtain ⟨hj,a7,_⟩:=List.findIdx?_eq_some_iff_getElem.mp hr
  have u:(wT val i).any (· == val i)=true:=(m _).mpr ⟨x.toList[j],List.getElem_mem hj,a7⟩
  refine wpAny_pure (wpAny_pure ?_)
  have:=h s.heap false (Heap.SameBut.refl a s.heap) ⟨o,x,ep,t,M,hex,hd,r,λz=>?_,hb,U,by rw [tD,if_pos u];exact Y,y,a0⟩
  ·exact this
  ·rw [tE,Bool.or_eq_true,<- m z]
   refine ⟨λhk=>hk.elim id λe=>?_,.inl⟩
   rw [beq_iff_eq] at e
   rw [e];exact u
 | none=>
  dsimp only
  have u:(wT val i).any (· == val i)=false:=by
   cases hk:(wT val i).any (· == val i) with
   | false=>rfl
   | true=>
    obtain ⟨e,he,hp⟩:=(m (val i)).mp hk
    have:=List.findIdx?_eq_none_iff.mp hr e he
    rw [hp] at this;cases this
  have aa:∀ (b:Bool) {g:Shared} {N:Unit->Shared->Prop},N () g->wpAny (model prog w) A (match b with | true=>rule "set.scan.the-table-gave-way" | false=>pure ()) N E g:=λb g N B=>by
   cases b <;> first | exact wpAny_pure B | exact wpAny_rule B
  have c:=layNew_perm t x ((PySem.strKind prog w).hash (val i)) (.str (val i) J)
  have f:=layNew_fits t x ((PySem.strKind prog w).hash (val i)) (.str (val i) J)
  have k:=zE1 t x ((PySem.strKind prog w).hash (val i)) (.str (val i) J)
  generalize layNew t x ((PySem.strKind prog w).hash (val i)) (.str (val i) J)=Ly at c f k ⊢
  obtain ⟨v,t1,L,ac⟩:=Ly
  dsimp only at c f k ⊢
  rw [Array.toList_push] at c
  have C:v.size=x.size + 1:=by rw [<- Array.length_toList,c.length_eq,zM1,Array.length_toList];rfl
  have I:v.size < scanBound:=by rw [C,Y];exact G
  refine wpAny_bind (aa _ ?_)
  have fin:∀ (T:SetTable),T.led=t1.led->∀ (h':Heap) (d:Array (Int × Value)) (l:Nat) (p:SetTable),Heap.SameBut a s.heap h'->h'.get? a=some { o with data:=.set d l p }->List.Perm d.toList v.toList->p.fits d.size=true->p.led=T.led->p.plain=false->Q true { s with heap:=h' }:=by
   intro T l2 h' d l p sb g2 p2 f3 l3 p3
   have D:=p2.trans c
   have O:d.size=v.size:=by rw [<- Array.length_toList,p2.length_eq,Array.length_toList]
   exact h h' true sb ⟨_,d,l,p,g2,hex,rfl,(r.push n H).perm D,λz=>by
    rw [tE]
    have:=mem_push_iff n m D z
    rw [<- this]
    have e:(z == val i)=decide (z=val i):=rfl
    rw [show (z == val i)=decide (z=val i) by by_cases q:z=val i <;> simp [q]],by rw [O];exact I,f3,by rw [tD,if_neg (by rw [u];simp),O,C,Y],by rw [l3,l2,k,y],.inr p3⟩
  split
  ·refine wpAny_bind ?_
   rw [hashByValue_scannable 8 H]
   refine wpAny_pure ?_
   refine lI (t2:={ t1 with plain:=false }) ?_ M hd I (SetTable.fits_plain_off f) rfl ?_
   ·intro b g N B;cases b <;> first | exact wpAny_pure B | exact wpAny_rule B
   ·intro h' d l p a1 a2 a3 a4 a5 a6;dsimp only;exact wpAny_pure (fin _ rfl h' d l p a1 a2 a3 a4 a5 a6)
  ·rename_i ab
   refine wpAny_bind (wpAny_pure ?_)
   simp only [↓reduceIte]
   refine lI ?_ M hd I f (by simpa using ab) ?_
   ·intro b g N B;cases b <;> first | exact wpAny_pure B | exact wpAny_rule B
   ·intro h' d l p a1 a2 a3 a4 a5 a6;dsimp only;exact wpAny_pure (fin _ rfl h' d l p a1 a2 a3 a4 a5 a6)
end
theorem zBG:Manifest.owners.lookup (String.ofList ['r','o','t','a','r','e','t','i','_','t','e','s'].reverse)=some Manifest.sig_set_iterator:=by kernel_rfl
theorem sJ:Slot "set_iterator" "__next__" "set_iterator.__next__":=
 .of (owner:="set_iterator") (n:="__next__") (by rw [typeLookup_type,builtinLookup_eq_fast];kernel_rfl) (by decide +kernel) (by decide +kernel) (by decide +kernel) (by first | exact .inl (by decide +kernel) | exact .inr (by decide +kernel)) (by rw [isSubtype_type];kernel_rfl)
theorem i0:entryFor table "set_iterator.__next__"=some Builtin.«set_iterator.__next__»:=entryFor_of_tree (by kernel_rfl)
theorem cD (a:Value):argsOk "set_iterator.__next__" ⟨[a],[]⟩:=by
 unfold argsOk;rw [signature?_of (id:="set_iterator.__next__") (n:=['_','_','t','x','e','n','_','_']) (o:=['r','o','t','a','r','e','t','i','_','t','e','s']) (by kernel_rfl) zBG];kernel_rfl
theorem fU:entryFor table "set.__iter__"=some Builtin.«frozenset.__iter__»:=
 entryFor_alias (id':="frozenset.__iter__") (by kernel_rfl) (by first | rfl | decide +kernel | (unfold String.splitOn;simp +decide [String.splitOnAux])) (by decide +kernel) (by kernel_rfl)
theorem lA {b:Type}:∀ (a:List b) (k:Nat) (h:k < a.length),List.Perm (a[k] :: a.eraseIdx k) a:=by
 intro a
 induction a with
 | nil=>intro k h;exact absurd h (Nat.not_lt_zero _)
 | cons x a c=>
  intro k h
  cases k with
  | zero=>exact .refl _
  | succ k=>exact (List.Perm.swap _ _ _).trans ((c k (Nat.lt_of_succ_lt_succ h)).cons x)
section
variable {prog:Program} {w:World} {A:Around} {E:VSP} {s:Shared}
theorem wp_choose (b:n ≠ 0) (h:∀ i,i < n->Q i { s with drawn:=s.drawn.bump a }):wpAny (model prog w) A (choose a n) Q E s:=λc p _=>by
 show Sem.wp _ _ (.choose a n .pure) _ _ _ _
 rw [Sem.wp_choose]
 exact ⟨b,by simpa using h _ (Nat.mod_lt _ (Nat.pos_of_ne_zero b))⟩
theorem rM:∀ (n:Nat) (xs:List Nat) (s:Shared) (Q:List Nat->Shared->Prop),xs.length=n->(∀ ys d,List.Perm ys xs->Q ys { s with drawn:=d })->wpAny (model prog w) A (drawOrder n xs) Q E s
 | 0,xs,s,Q,a,h=>by
  have:xs=[]:=List.length_eq_zero_iff.mp a
  subst this
  exact wpAny_pure (h [] s.drawn (List.Perm.refl _))
 | n + 1,xs,s,Q,a,h=>by
  cases xs with
  | nil=>cases a
  | cons x xs=>
   show wpAny _ _ (choose .order (x :: xs).length >>= _) _ _ s
   refine wpAny_bind (wp_choose (by simp) λi b=>?_)
   have e:=zMK b
   simp only [e]
   refine wpAny_bind (rM n ((x :: xs).eraseIdx i) _ _ (by rw [List.length_eraseIdx_of_lt b,a];rfl) λys d p=>wpAny_pure ?_)
   refine h _ d ((List.Perm.cons _ p).trans ?_)
   exact lA _ _ b
end
theorem dE {c:Type} (next:Nat->Nat):∀ (a k:Nat) (left:List c) (out:Array c),left.length=a->List.Perm (pickOrder.go next a k left out).toList (out.toList ++ left)
 | 0,k,left,out,b=>by
  have:left=[]:=List.length_eq_zero_iff.mp b
  subst this
  simp [pickOrder.go]
 | a + 1,k,left,out,b=>by
  have lt:next k % left.length < left.length:=Nat.mod_lt _ (by omega)
  unfold pickOrder.go
  rw [zMK lt]
  simp only []
  refine (dE next a (k + 1) _ _ (by rw [List.length_eraseIdx_of_lt lt,b];rfl)).trans ?_
  rw [Array.toList_push,zNE]
  exact List.Perm.append_left _ (lA _ _ lt)
theorem fA {a:Type} (next:Nat->Nat) (xs:Array a):List.Perm (pickOrder next xs).toList xs.toList:=by
 have:=dE next xs.size 0 xs.toList #[] (by simp)
 simpa [pickOrder] using this
abbrev gC (h:Heap) (b:Addr) (first:Value) (i:Nat) (S:Addr) (n c:Nat):Prop:=h.get? b=some { cls:=.type "set_iterator",dict:=none,data:=.fields #[first,rawInt (i:Nat),.ref S,rawInt (n:Nat),rawInt (c:Nat)],slots:=#[] }
abbrev IsPl (h:Heap) (a:Addr) (pl:List Nat):Prop:=h.get? a=some { cls:=.type "tuple",data:=.seq (pl.map λ(k:Nat)=>rawInt (k:Int)).toArray }
def zDA (w:World) (h:Heap) (S c:Addr) (a:Array (Int × Value)) (d:Nat) (t:SetTable) (i:Nat) (first:Value) (ord:List Value):Prop:=
 (w.params.followText "set-order"=true/\first=rawInt 0/\ord=(pickOrder (w.params.setOrder S d) a).toList.map (·.2)) \/
 (w.params.followText "set-order"=false/\t.plain=false/\1 < a.size/\∃ b:List Nat,first=.ref c/\IsPl h c b/\(∀ p ∈ b,p < a.size)/\ord=b.map λp=>(a.getD p (0,.none)).2) \/
 (w.params.followText "set-order"=false/\t.led=true/\a.size <= 1/\((i=0/\first=rawInt 0) \/ (i=1/\∃ j,t.place[0]?=some j/\first=rawInt ((j + 1:Nat):Int)))/\ord=a.toList.map (·.2))
def SI (w:World) (h:Heap) (c S d:Addr) (ord:List Value) (i:Nat):Prop:=
 ∃ o a b t first,h.get? S=some o/\o.data=.set a b t/\t.fits a.size=true/\gC h c first i S a.size b/\zDA w h S d a b t i first ord/\ord.length=a.size
theorem SI.at {h h':Heap} (x:SI w h d S e ord i) (k:∀ b ∈ [d,S,e],∀ o,h.get? b=some o->h'.get? b=some o):SI w h' d S e ord i:=by
 obtain ⟨o,f,g,t,first,j,hd,l,m,n,p⟩:=x
 refine ⟨o,f,g,t,first,k S (by simp) _ j,hd,l,k d (by simp) _ m,?_,p⟩
 rcases n with q | ⟨a,b,c,r,s,u,v,y⟩ | q
 ·exact .inl q
 ·exact .inr (.inl ⟨a,b,c,r,s,k e (by simp) _ u,v,y⟩)
 ·exact .inr (.inr q)
section
variable {prog:Program} {w:World} {A:Around} {E:VSP} {s:Shared}
theorem sI (h:Q (w.params.followText "set-order") s):wpAny (model prog w) A setsByText Q E s:=by
 unfold setsByText
 exact wpAny_bind (wpAny_askSetting (wpAny_pure h))
theorem pA (a:w.params.followText "set-order"=true) (b:s.heap.get? S=some o) (hd:o.data=.set c d t) (f:t.fits c.size=true)
  (h:Q (((pickOrder (w.params.setOrder S d) c)[i]?).map λe=>(e.2,0)) s):wpAny (model prog w) A (setNext S 0 i d) Q E s:=by
 unfold setNext
 refine wpAny_bind (wpAny_setState_of b hd f ?_)
 dsimp only
 refine wpAny_bind (sI ?_)
 rw [if_pos a]
 simp only [bne_self_eq_false,Bool.false_eq_true,if_false]
 refine wpAny_bind ?_
 unfold setWalk
 refine wpAny_bind (wpAny_setState_of b hd f ?_)
 dsimp only
 refine wpAny_bind (sI ?_)
 rw [if_pos a]
 exact wpAny_bind (wpAny_askSetting (wpAny_pure (wpAny_pure h)))
theorem pB (d:w.params.followText "set-order"=false) (e:s.heap.get? S=some o) (hd:o.data=.set a f t) (g:t.fits a.size=true) (k:t.led=true) (l:a.size <= 1)
  (h:Q (match a[SetTable.below t.place c]?,t.place[SetTable.below t.place c]? with | some (_,x),some j=>some (x,j + 1) | _,_=>none) s):wpAny (model prog w) A (setNext S c i f) Q E s:=by
 unfold setNext
 refine wpAny_bind (wpAny_setState_of e hd g ?_)
 dsimp only
 refine wpAny_bind (sI ?_)
 rw [if_neg (by rw [d];simp)]
 refine wpAny_ite_split (λb=>absurd (show (!t.plain && decide (a.size > 1))=true from b) (by rw [zMZ (show ¬ a.size > 1 by omega)];simp)) (λ_=>?_)
 refine wpAny_bind ?_
 show wpAny _ _ (if (!t.led && !a.isEmpty)=true then _ else _) _ _ s
 rw [if_neg (by rw [k];simp)]
 exact wpAny_pure (wpAny_pure h)
end
section
variable {prog:Program} {w:World} {A:Around} {E:VSP} {s:Shared}
theorem uZ (b:s.heap.get? S=some o) (hd:o.data=.set a d t) (c:t.fits a.size=true) (h:Q a s):wpAny (model prog w) A (setEntries S) Q E s:=by
 unfold setEntries
 exact wpAny_bind (wpAny_setState_of b hd c (wpAny_pure h))
theorem jK (b:s.heap.get? S=some o) (hd:o.data=.set a c t) (d:t.fits a.size=true) (f:p < a.size) (h:Q (a.getD p (0,.none)).2 s):wpAny (model prog w) A (setNextDrawn S p c) Q E s:=by
 unfold setNextDrawn
 refine wpAny_bind (wpAny_setState_of b hd d ?_)
 dsimp only
 simp only [bne_self_eq_false,Bool.false_eq_true,if_false]
 have e:a[p]?=some (a.getD p (0,.none)):=by rw [zNI,Array.getElem?_eq_getElem f];rfl
 rw [e]
 exact wpAny_pure h
theorem nU (xs:Array Nat) (h:xs.size <= 1):SetTable.below xs 0=0:=by
 unfold SetTable.below
 rcases (show xs.size=0 \/ xs.size=1 by omega) with e | e
 ·rw [e];rfl
 ·rw [e];simp [SetTable.below.go]
theorem fW (xs:Array Nat) (h:xs.size=1) (a:xs[0]?=some j):SetTable.below xs (j + 1)=1:=by
 unfold SetTable.below
 rw [h]
 have e:xs.getD 0 (j + 1)=j:=by rw [zNI,a];rfl
 simp [SetTable.below.go,e]
theorem zDN (X:SI w s.heap c S u ord i) (hx:ord[i]?=some x) (ne:S ≠ c) (net:u ≠ c)
  (q:∀ h',SI w h' c S u ord (i + 1)->Heap.SameBut c s.heap h'->Q (some x) { s with heap:=h' }):wpAny (model prog w) A (pyNext (.ref c)) Q E s:=by
 obtain ⟨o,a,d,t,first,v,hd,j,z,Y,hl⟩:=X
 have M:s.TypeIs (.ref c) "set_iterator":=⟨_,z,rfl⟩
 unfold pyNext
 refine wpAny_bind (wpAny_attempt (wpAny_callSpecial?_slot (name:=Str.ofString "__next__") M sJ (wpAny_call_entry sJ M i0 ?_ (cD _))))
 show wpAny _ _ (fieldsOf (.ref c) >>= _) _ _ s
 refine wpAny_bind (wpAny_fieldsOf z rfl ?_)
 show wpAny _ _ (setEntries S >>= _) _ _ s
 refine wpAny_bind (uZ v hd j ?_)
 simp only [bne_self_eq_false,Bool.false_eq_true,if_false]
 have il:i < ord.length:=(zML.mp hx).1
 have fin:∀ (G:Value) (h':Heap),gC h' c G (i + 1) S a.size d->Heap.SameBut c s.heap h'->zDA w h' S u a d t (i + 1) G ord->Q (some x) { s with heap:=h' }:=λG h' g N m=>q h' ⟨o,a,d,t,G,N.extBut _ _ ne v,hd,j,g,m,hl⟩ N
 rcases Y with ⟨b,rfl,e⟩ | ⟨b,hp,g,H,rfl,B,C,e⟩ | ⟨b,D,g,hc,e⟩
 ·show wpAny _ _ (setNext S 0 (Int.toNat (i:Int)) (Int.toNat (d:Int)) >>= _) _ _ s
  rw [Int.toNat_natCast,Int.toNat_natCast]
  have n:((pickOrder (w.params.setOrder S d) a)[i]?).map (λe:Int × Value=>(e.2,0))=some (x,0):=by
   rw [e,zMP] at hx
   rw [<- Array.getElem?_toList]
   cases O:(pickOrder (w.params.setOrder S d) a).toList[i]? with
   | none=>rw [O] at hx;cases hx
   | some y=>
    rw [O] at hx
    have ey:y.2=x:=zMQ hx
    show some (y.2,0)=_
    rw [ey]
  refine wpAny_bind (pA b v hd j ?_)
  rw [n]
  refine wpAny_bind (wpAny_setField_rec z (by simp) λg1 g I=>?_)
  replace g:gC g1 c (rawInt 0) i S a.size d:=g
  refine wpAny_bind (wpAny_setField_rec g (by simp) λg2 f r=>?_)
  replace f:gC g2 c (rawInt 0) (i + 1) S a.size d:=f
  exact wpAny_pure ⟨x,rfl,wpAny_pure (fin _ g2 f (I.trans r) (.inl ⟨b,rfl,e⟩))⟩
 ·show wpAny _ _ (seqItems? (.ref u) >>= _) _ _ s
  refine wpAny_bind (wpAny_seqItems B rfl ?_)
  rw [e,zMP] at hx
  cases h:H[i]? with
  | none=>rw [h] at hx;cases hx
  | some p=>
   rw [h] at hx
   have n:(a.getD p (0,.none)).2=x:=zMQ hx
   have J:=C p (zMN h)
   have ea:(H.map λ(k:Nat)=>rawInt (k:Int)).toArray[Int.toNat (i:Int)]?=some (rawInt (p:Int)):=by
    rw [Int.toNat_natCast,List.getElem?_toArray,zMP,h];rfl
   simp only [ea]
   show wpAny _ _ (setNextDrawn S (Int.toNat (p:Int)) (Int.toNat (d:Int)) >>= _) _ _ s
   rw [Int.toNat_natCast,Int.toNat_natCast]
   refine wpAny_bind (jK v hd j J ?_)
   rw [n]
   refine wpAny_bind (wpAny_setField_rec z (by simp) λg2 f r=>?_)
   replace f:gC g2 c (.ref u) (i + 1) S a.size d:=f
   exact wpAny_pure ⟨x,rfl,wpAny_pure (fin _ g2 f r (.inr (.inl ⟨b,hp,g,H,rfl,r.extBut _ _ net B,C,e⟩)))⟩
 ·rcases hc with ⟨rfl,rfl⟩ | ⟨rfl,_⟩
  ·have sz:a.size=1:=by omega
   have a0:t.place.size=a.size:=by
    simp only [SetTable.fits,Bool.and_eq_true,beq_iff_eq] at j
    exact j.1
   have T:t.place[0]?=some (t.place.getD 0 0):=by rw [zNI,Array.getElem?_eq_getElem (by omega)];rfl
   have U:a[0]?=some (a.getD 0 (0,.none)):=by rw [zNI,Array.getElem?_eq_getElem (by omega)];rfl
   have n:(a.getD 0 (0,.none)).2=x:=by
    rw [e,zMP,Array.getElem?_toList,U] at hx
    exact zMQ hx
   show wpAny _ _ (setNext S 0 (Int.toNat ((0:Nat):Int)) (Int.toNat (d:Int)) >>= _) _ _ s
   rw [Int.toNat_natCast,Int.toNat_natCast]
   refine wpAny_bind (pB b v hd j D g ?_)
   rw [nU _ (by omega),U,T]
   generalize hy:a.getD 0 (0,.none)=y at n
   obtain ⟨y1,y2⟩:=y
   have L:y2=x:=n
   subst L
   refine wpAny_bind (wpAny_setField_rec z (by simp) λg1 l I=>?_)
   replace l:gC g1 c (rawInt ((t.place.getD 0 0 + 1:Nat):Int)) 0 S a.size d:=l
   refine wpAny_bind (wpAny_setField_rec l (by simp) λg2 f r=>?_)
   replace f:gC g2 c (rawInt ((t.place.getD 0 0 + 1:Nat):Int)) (0 + 1) S a.size d:=f
   exact wpAny_pure ⟨_,rfl,wpAny_pure (fin _ g2 f (I.trans r) (.inr (.inr ⟨b,D,g,.inr ⟨rfl,_,T,rfl⟩,e⟩)))⟩
  ·omega
theorem rB (c:A.handled=none) (q:∀ h' e,(∀ b o,s.heap.get? b=some o->h'.get? b=some o)->(∃ o,h'.get? e=some o/\o.cls=.type "StopIteration")->E (.ref e) { s with heap:=h' }) :
  wpAny (model prog w) A (newExc (.type "StopIteration") [] >>= λe=>raiseNew e) d E s:=by
 refine wpAny_bind ?_;simp only [newExc,newTuple]
 refine wpAny_bind (wpAny_newObj_type ?_ (by size_fits));refine wpAny_bind (m:=firstArgMember _ _) (wpAny_of_eq (a:=Value.none) (by first | rfl | (simp only [firstArgMember];rfl)) ?_)
 refine wpAny_newObj_type ?_ (by size_fits);simp only [raiseNew];refine wpAny_bind (wpAny_handled ?_)
 first | rw [show A.in1.handled=none from c];refine wpAny_bind (wpAny_pure (wpAny_throw ?_)) | rw [c];refine wpAny_bind (wpAny_pure (wpAny_throw ?_))
 exact q _ _ (λb o e=>Heap.get?_push_of_some _ (Heap.get?_push_of_some _ e)) ⟨_,Heap.get?_push_size _ rfl,rfl⟩
theorem zHD (r:A.handled=none) (X:SI w s.heap g S C ord ord.length) (q:∀ h',Heap.ExtBut g s.heap h'->Q none { s with heap:=h' }):wpAny (model prog w) A (pyNext (.ref g)) Q E s:=by
 obtain ⟨o,m,n,t,first,u,hd,h,i,D,hl⟩:=X
 have B:s.TypeIs (.ref g) "set_iterator":=⟨_,i,rfl⟩
 unfold pyNext
 refine wpAny_bind (wpAny_attempt (wpAny_callSpecial?_slot (name:=Str.ofString "__next__") B sJ (wpAny_call_entry sJ B i0 ?_ (cD _))))
 show wpAny _ _ (fieldsOf (.ref g) >>= _) _ _ s
 refine wpAny_bind (wpAny_fieldsOf i rfl ?_)
 show wpAny _ _ (setEntries S >>= _) _ _ s
 refine wpAny_bind (uZ u hd h ?_)
 simp only [bne_self_eq_false,Bool.false_eq_true,if_false]
 have fin:∀ (a h':Heap) (x:Addr),Heap.SameBut g s.heap a->(∀ b o,a.get? b=some o->h'.get? b=some o)->(∃ o,h'.get? x=some o/\o.cls=.type "StopIteration")->wpAny (model prog w) A (isInstance (.ref x) (.type "StopIteration") >>= λb=>if b=true then pure none else throw (Value.ref x)) Q E { s with heap:=h' }:=by
  rintro a h' x G c ⟨H,d,v⟩
  exact wpAny_bind (wpAny_isInstance (T:="StopIteration") (b:=true) ⟨H,d,v⟩ isSubtype_stop (wpAny_pure (q _ λb o I e=>c b o (G.extBut b o I e))))
 rcases D with ⟨b,rfl,e⟩ | ⟨b,hp,a,J,rfl,y,L,e⟩ | ⟨b,z,a,v,e⟩
 ·show wpAny _ _ (setNext S 0 (Int.toNat (ord.length:Int)) (Int.toNat (n:Int)) >>= _) _ _ s
  rw [Int.toNat_natCast,Int.toNat_natCast]
  have M:((pickOrder (w.params.setOrder S n) m)[ord.length]?).map (λe:Int × Value=>(e.2,0))=none:=by
   rw [<- Array.getElem?_toList,List.getElem?_eq_none]
   ·rfl
   ·rw [e,zMJ];exact zMS _
  refine wpAny_bind (pA b u hd h ?_)
  rw [M]
  refine wpAny_bind (wpAny_setField_rec i (by simp) λg1 a l=>?_)
  exact rB r λh' x c d=>fin g1 h' x l c d
 ·show wpAny _ _ (seqItems? (.ref C) >>= _) _ _ s
  refine wpAny_bind (wpAny_seqItems y rfl ?_)
  have N:(J.map λ(k:Nat)=>rawInt (k:Int)).toArray[Int.toNat (ord.length:Int)]?=none:=by
   rw [Int.toNat_natCast,List.getElem?_toArray,List.getElem?_eq_none]
   rw [e,zMJ,zMJ];exact zMS _
  simp only [N]
  refine wpAny_bind (wpAny_setField_rec i (by simp) λg1 f l=>?_)
  replace f:gC g1 g (rawInt 0) ord.length S m.size n:=f
  refine wpAny_bind (wpAny_setField_rec f (by simp) λg2 h2 O=>?_)
  exact rB r λh' x c d=>fin g2 h' x (l.trans O) c d
 ·have U:t.place.size=m.size:=by
   simp only [SetTable.fits,Bool.and_eq_true,beq_iff_eq] at h
   exact h.1
  have key:∃ p:Nat,first=rawInt (p:Int)/\m[SetTable.below t.place p]?=none:=by
   rcases v with ⟨Y,rfl⟩ | ⟨Y,j,hj,rfl⟩
   ·exact ⟨0,rfl,by rw [nU _ (by omega)];exact Array.getElem?_eq_none (by omega)⟩
   ·refine ⟨j + 1,rfl,?_⟩
    rw [fW _ (by omega) hj]
    exact Array.getElem?_eq_none (by omega)
  obtain ⟨p,rfl,hn⟩:=key
  show wpAny _ _ (setNext S (Int.toNat (p:Int)) (Int.toNat (ord.length:Int)) (Int.toNat (n:Int)) >>= _) _ _ s
  rw [Int.toNat_natCast,Int.toNat_natCast,Int.toNat_natCast]
  refine wpAny_bind (pB b u hd h z a ?_)
  rw [hn]
  refine wpAny_bind (wpAny_setField_rec i (by simp) λg1 a l=>?_)
  exact rB r λh' x c d=>fin g1 h' x l c d
end
section
variable {prog:Program} {w:World} {A:Around} {R:Result->Shared->Prop} {I:Addr} {fp wr:List Addr} {G:Array GenState->Array GenState->Prop} {n:Nat} {P:Nat->Value->Prop} {St:Nat->Shared->Prop}
theorem gT (W:WalksS prog w A.in1 I fp wr G n P St) (S:Addr) (a:S ∉ fp) (val:Nat->Str) (c:∀ i v,P i v->∃ t,v=.str (val i) t) (g:n + 1 < scanBound):∀ k i s,n - i=k->i <= n->St i s->jH prog w s.heap S val i led ->
  (∀ s',Moved (S :: wr) G s s'->jH prog w s'.heap S val n led->R (.ok (.ret .none)) s')->codeAny (model prog w) A (.builtin "set.update.loop" ⟨[.ref S,.ref I],[]⟩) R s:=by
 have u:S ∉ wr:=λz=>a (W.sub _ z)
 have more:∀ b ∈ wr,b ∈ S :: wr:=λb z=>zMW _ z
 intro k
 induction k with
 | zero=>
  intro i s B C st h j
  obtain rfl:i=n:=by omega
  refine codeAny_builtin F.entry_set_update_loop ?_
  rw [Around.under_plainId F.plain_set_update_loop _]
  show wpAny _ A.in1 (pyNext (.ref I) >>= _) _ _ s
  exact wpAny_bind (W.done s _ _ st λs' d=>wpAny_pure (j s' (d.mono more) (qN h λo z=>d.heap S _ u z)))
 | succ k D=>
  intro i s B C st h j
  have lt:i < n:=by omega
  refine codeAny_builtin F.entry_set_update_loop ?_
  rw [Around.under_plainId F.plain_set_update_loop _]
  show wpAny _ A.in1 (pyNext (.ref I) >>= _) _ _ s
  refine wpAny_bind (W.item i s _ _ lt st λv s' E l d=>?_)
  obtain ⟨t,rfl⟩:=c i v E
  have m:=qN h λo z=>d.heap S _ u z
  have x:=tP val i
  show wpAny _ A.in1 (holding [Value.str (val i) t] (setAdd S (.str (val i) t)) >>= _) _ _ s'
  refine wpAny_bind (wpAny_holding ?_)
  unfold setAdd
  refine wpAny_holding (wpAny_bind ((PySem.strKind prog w).pyHash (k:=val i) (strKind_is _ _ _ _) (addX (s:={ s' with toks:=s'.toks + 1 }) m (by omega) λJ L f p=>?_)))
  refine wpAny_pure ⟨plainId_quiet F.plain_set_update_loop _,D (i + 1) _ (by omega) lt (W.frame _ s' _ _ l (Nat.le_succ _) λb g o e=>?_) p λH q r=>j H (Moved.trans W.gtrans ((d.mono more).then_heap (Nat.le_succ _) λb o g e=>?_) q) r⟩
  ·rw [f.2 b (λz:b=S=>a (by rw [<- z];exact g))];exact e
  ·rw [f.2 b (λz:b=S=>g (by rw [z];exact zNC))];exact e
end
section
variable {prog:Program} {w:World} {A:Around} {E:VSP} {s:Shared}
theorem mG (a:Value) (h:Q₁ (.ref s.heap.objs.size) { s with heap:=s.heap.push (rE (sB w)) }):codeAny (model prog w) A (.call (.builtin "set.__new__") ⟨[.type "set",a],[]⟩) (wants Q₁ E) s:=by
 refine codeAny_of_tree ?_
 show wpAny _ A.in1 (do checkBuiltinCall "set.__new__" ⟨[.type "set",a],[]⟩;again (.builtin "set.__new__" ⟨[.type "set",a],[]⟩)) _ _ s
 refine wpAny_bind (wpAny_of_eq (F.newCall_set_1 a) (wpAny_pure ⟨plainId_quiet F.plain_set_new _,codeAny_builtin F.entry_set_new ?_⟩));rw [Around.under_plainId F.plain_set_new _]
 unfold Builtin.«set.__new__» Builtin.Frozenset.newClass
 have b:=sub_set_self
 obtain ⟨c,g,d,e,os⟩:=s
 dsimp only
 wp_walk
 refine wpAny_askSetting (wpAny_pure ?_)
 dsimp only
 simp only [newObj]
 refine wpAny_bind (wpAny_alloc (wpAny_pure ?_))
 exact wpAny_pure h
theorem gU (hh:A.handled=none) (hl:s.heap.IsList l items) (hv:∀ (i:Nat) (v:Value),items[i]?=some v->∃ t,v=.str (val i) t) (y:items.size + 1 < scanBound)
  (h:∀ (g:Heap) (z:Nat),jH prog w g s.heap.objs.size val items.size (sB w)->(∀ b o,b < s.heap.objs.size->s.heap.get? b=some o->g.get? b=some o)->Q (.ref s.heap.objs.size) { s with heap:=g,toks:=z }) :
  wpAny (model prog w) A (call (.type "set") [.ref l]) Q E s:=by
 obtain ⟨c,tl,T⟩:=F.called_set.mro
 have C:=F.called_set.made
 have U:=F.called_set.sub
 refine wpAny_call (codeAny_of_tree ?_)
 show wpAny _ _ (callAny (.type "set") _) _ _ _
 refine wpAny_pure ⟨Code.quiet_builtin _ (by decide +kernel),codeAny_builtin F.entry_type_call ?_⟩
 rw [Around.under_plain (weight_type_call_type "set" [.ref l] []) rfl]
 have h1:=F.called_set.notType
 have h2:=F.called_set.canCreate
 have a3:=F.typeCall_set_1 (.ref l)
 repeat (any_goals (first | assumption | wp_step))
 refine codeAny_mono (mG (.ref l) (E:=E) (Q₁:=λobj s1=>obj=.ref s.heap.objs.size/\s1 = { s with heap:=s.heap.push (rE (sB w)) }) ⟨rfl,rfl⟩) λr s1 D=>?_
 cases r with
 | error e=>exact D
 | ok fl=>
  cases fl with
  | ret obj=>
   obtain ⟨rfl,rfl⟩:=D
   have gS:(s.heap.push (rE (sB w))).get? s.heap.objs.size=some (rE (sB w)):=Heap.get?_push_size _ rfl
   have hT:Shared.TypeIs { s with heap:=s.heap.push (rE (sB w)) } (.ref s.heap.objs.size) "set":=⟨_,gS,rfl⟩
   have a4:=F.called_set.init.lookup
   have a5:=F.called_set.init.bind (.ref s.heap.objs.size)
   repeat (any_goals (first | assumption | wp_step))
   refine codeAny_mono (codeAny_call_builtin (R:=wants (λr s2=>r=.none/\∃ g z,s2 = { s with heap:=g,toks:=z }/\jH prog w g s.heap.objs.size val items.size (sB w)/\(∀ b o,b < s.heap.objs.size->s.heap.get? b=some o->g.get? b=some o)) E)
    F.called_set.init.plain F.entry_set_init (check_set_init_1 hT ?_)) λr2 s2 d=>?_
   ·obtain ⟨⟨a0,f,G,a⟩,m,n,nl,p⟩:=hl
    simp only at n p
    subst n;subst p
    have q:(s.heap.push (rE (sB w))).get? l=some { cls:=.type "list",dict:=f,data:=.seq items nl,slots:=a }:=Heap.get?_push_of_some _ m
    have a1:=F.sub_list_set
    have a2:=F.sub_list_frozenset
    have a6:(Value.type "list" == Value.type "dict")=false:=by decide
    have u:(s.heap.push (rE (sB w))).IsList l items:=⟨_,q,rfl,nl,rfl⟩
    unfold Builtin.«set.__init__» noKeywords Builtin.Frozenset.updateFrom
    generalize I:pyIter=PI
    wp_walk
    subst I
    refine wpAny_pyIter_list u (wpAny_bind (wpAny_runValue ?_))
    have x:l < s.heap.objs.size:=Heap.lt_size m
    have J:(s.heap.push (rE (sB w))).objs.size=s.heap.objs.size + 1:=Heap.size_push _ _
    refine gT (led:=sB w) ((Walks.list (A:=A.in1.in1.in1) (by simp [hh]) _ l (by rw [J];exact zNA (Nat.lt_succ_of_lt x)) items).toS) s.heap.objs.size (by rw [J];simp;exact Nat.ne_of_gt x) val hv y (items.size - 0) 0 _ (by omega) (zMT _) ⟨⟨_,Heap.get?_push_size _ rfl,rfl,rfl⟩,(u.push _)⟩ ?z0 ?zR
    case z0=>
     exact ⟨_,#[],0,.fresh 0 0 (sB w),Heap.get?_push_of_some _ gS,⟨rfl,rfl,rfl⟩,rfl,(λe he=>by simp at he),(λk=>by simp [wT]),by decide,rfl,rfl,rfl,.inl rfl⟩
    case zR=>
     intro s' B j
     obtain ⟨g,g',d',L,M⟩:=s'
     have eg:g'=s.gens:=B.gens
     have ed:d'=s.drawn:=B.drawn
     have eo:M=s.os:=B.os
     subst eg;subst ed;subst eo
     show wpAny _ _ _ _ _ _
     refine wpAny_pure ?_
     show wpAny _ _ (ret Value.none) _ _ _
     refine wpAny_pure ⟨rfl,g,L,rfl,j,λb o y e=>B.heap b o ?_ (Heap.get?_push_of_some _ (Heap.get?_push_of_some _ e))⟩
     rw [J];simp;exact ⟨zNA y,zNA (Nat.lt_succ_of_lt y)⟩
   ·cases r2 with
    | error e=>exact d
    | ok N=>
     cases N with
     | ret r=>
      obtain ⟨rfl,g,z,rfl,j,O⟩:=d
      repeat (any_goals (first | assumption | wp_step))
      exact h _ _ j O
     | _=>exact d.elim
  | _=>exact D.elim
end
theorem jV:Slot "set_iterator" "__iter__" "set_iterator.__iter__":=
 .of (owner:="set_iterator") (n:="__iter__") (by rw [typeLookup_type,builtinLookup_eq_fast];kernel_rfl) (by decide +kernel) (by decide +kernel) (by decide +kernel) (by first | exact .inl (by decide +kernel) | exact .inr (by decide +kernel)) (by rw [isSubtype_type];kernel_rfl)
theorem zC8 (a:Value):argsOk "set_iterator.__iter__" ⟨[a],[]⟩:=by
 unfold argsOk;rw [signature?_of (id:="set_iterator.__iter__") (n:=['_','_','r','e','t','i','_','_']) (o:=['r','o','t','a','r','e','t','i','_','t','e','s']) (by kernel_rfl) zBG];kernel_rfl
theorem bX:entryFor table "set_iterator.__iter__"=some Builtin.«dict_keyiterator.__iter__»:=
 entryFor_alias (id':="dict_keyiterator.__iter__") (by kernel_rfl) (by first | rfl | decide +kernel | (unfold String.splitOn;simp +decide [String.splitOnAux])) (by decide +kernel) (by kernel_rfl)
theorem lR:splitId "set.__len__"=some ("set","__len__"):=by decide +kernel
section
variable {prog:Program} {w:World} {A:Around} {E:VSP} {s:Shared}
theorem cH (hh:A.handled=none) (it S tp:Addr) (ne:S ≠ it) (net:tp ≠ it) (ord:List Value):WalksS prog w A it [it,S,tp] [it] (λa b=>b=a) ord.length (λi v=>ord[i]?=some v) (λi s=>SI w s.heap it S tp ord i) where
 sub:=λb hb=>by rw [zMM.mp hb];simp
 grefl:=λ_=>rfl
 gtrans:=λa b c h1 h2=>by rw [h2,h1]
 frame:=λi s h' tk st _ k=>SI.at st k
 item:=λi s Q E hi st q=>by
  refine zDN st (x:=ord[i]) (zMK hi) ne net λh' st' sb=>q _ _ (zMK hi) st' ⟨λb o hb e=>sb.extBut b o (λz=>hb (by rw [z];simp)) e,rfl,rfl,rfl,zMS _⟩
 done:=λs Q E st q=>zHD hh st λh' eb=>q _ ⟨λb o hb e=>eb b o (λz=>hb (by rw [z];simp)) e,rfl,rfl,rfl,zMS _⟩
 self:=λi s Q E st h=>by
  obtain ⟨o,es,ep,t,first,hS,hd,hf,hi,md,hl⟩:=st
  have hT:s.TypeIs (.ref it) "set_iterator":=⟨_,hi,rfl⟩
  refine wpAny_pyIter_slot hT jV (wpAny_call_entry jV hT bX ?_ (zC8 _))
  show wpAny _ _ (ret (.ref it)) _ _ s
  exact wpAny_pure ⟨_,rfl,"set_iterator",_,hT,sJ.lookup,h⟩
theorem gF (h:s.heap.get? S=some o) (hex:o.ExactSet) (hd:o.data=.set a u t) (y:t.fits a.size=true) (j:t.led=sB w) (z:a.size=0 \/ t.plain=false) (hz:a.size <= sizeLine)
  (q:∀ (h':Heap) (d:Drawn) (l f:Addr) (ord:List Value),(∀ b o,s.heap.get? b=some o->h'.get? b=some o)->s.heap.objs.size <= l->l < h'.objs.size->f ≠ l->(f=S \/ s.heap.objs.size <= f)->SI w h' l S f ord 0->List.Perm ord (a.toList.map (·.2))->Q (.ref l) { s with heap:=h',drawn:=d }) :
  wpAny (model prog w) A (pyIter (.ref S)) Q E s:=by
 have I:s.TypeIs (.ref S) "set":=⟨_,h,hex.1⟩
 have J:=Heap.lt_size h
 refine wpAny_pyIter_slot I F.slot_set_iter (wpAny_call_entry F.slot_set_iter I fU ?_ (F.args_set_iter_1 _))
 show wpAny _ _ (Builtin.Frozenset.sizeOf S >>= _) _ _ s
 unfold Builtin.Frozenset.sizeOf
 refine wpAny_bind (wpAny_bind (uZ h hd y (wpAny_pure ?_)))
 refine wpAny_bind ?_
 unfold setDrawn
 refine wpAny_bind (wpAny_setState_of h hd y ?_)
 dsimp only
 refine wpAny_bind (sI (wpAny_pure ?_))
 have fin:∀ (g:Heap) (d:Drawn) (first:Value) (f:Addr) (ord:List Value),(∀ b o,s.heap.get? b=some o->g.get? b=some o)->s.heap.objs.size <= g.objs.size->f < g.objs.size->(f=S \/ s.heap.objs.size <= f)->zDA w (g.push { cls:=.type "set_iterator",data:=.fields #[first,rawInt ((0:Nat):Int),.ref S,rawInt (a.size:Int),rawInt (u:Int)] }) S f a u t 0 first ord->ord.length=a.size->List.Perm ord (a.toList.map (·.2)) ->
   wpAny (model prog w) A.in1 (setEpoch S >>= λe=>newFields "set_iterator" [first,rawInt 0,.ref S,rawInt (a.size:Int),rawInt (e:Int)] >>= λr=>ret r) (λfin L=>∃ v,fin=.done (.ret v)/\∃ M r,L.TypeIs v M/\typeLookup (.type M) "__next__"=pure (some r)/\Q v L) E { s with heap:=g,drawn:=d }:=by
  intro g d first f ord B N C D O T pm
  refine wpAny_bind (wpAny_setEpoch_of (s:={ s with heap:=g,drawn:=d }) (B _ _ h) hd y ?_)
  refine wpAny_bind (wpAny_newObj_type (wpAny_pure ⟨_,rfl,"set_iterator",_,⟨_,Heap.get?_push_size _ rfl,rfl⟩,sJ.lookup,?_⟩))
  refine q _ d _ f ord (λb o e=>Heap.get?_push_of_some _ (B b o e)) N (by rw [Heap.size_push];exact Nat.lt_succ_self _) (zNA C) D ⟨o,a,u,t,first,Heap.get?_push_of_some _ (B _ _ h),hd,y,Heap.get?_push_size _ rfl,O,T⟩ pm
 refine wpAny_ite_split (λc=>?_) (λc=>?_)
 ·replace c:(!(w.params.followText "set-order") && (!t.plain && decide (a.size > 1)))=true:=c
  simp only [Bool.and_eq_true,Bool.not_eq_true',decide_eq_true_eq] at c
  obtain ⟨i,G,m⟩:=c
  refine wpAny_bind (rM a.size (List.range a.size) _ _ (List.length_range) λn d pm=>?_)
  refine wpAny_bind (wpAny_newTuple (hsz:=by rw [zMJ,pm.length_eq,List.length_range];exact hz) ?_)
  have lt:∀ p ∈ n,p < a.size:=λp G=>List.mem_range.mp (pm.mem_iff.mp G)
  have mp:List.Perm (n.map λp=>(a.getD p (0,.none)).2) (a.toList.map (·.2)):=by
   have e:(List.range a.size).map (λp=>(a.getD p (0,.none)).2)=a.toList.map (·.2):=by
    refine List.ext_getElem? λk=>?_
    rw [zMP,zMP,show a.toList[k]?=a[k]? from Array.getElem?_toList]
    by_cases H:k < a.size
    ·rw [List.getElem?_range H,Array.getElem?_eq_getElem H,Option.map_some,Option.map_some,zNI,Array.getElem?_eq_getElem H];rfl
    ·rw [List.getElem?_eq_none (by rw [List.length_range];omega),Array.getElem?_eq_none (by omega)];rfl
   rw [<- e]
   exact pm.map _
  refine fin (s.heap.push { cls:=.type "tuple",data:=.seq (n.map λ(k:Nat)=>rawInt (k:Int)).toArray }) d (.ref s.heap.objs.size) s.heap.objs.size (n.map λp=>(a.getD p (0,.none)).2) (λb o e=>Heap.get?_push_of_some _ e) (by rw [Heap.size_push];exact Nat.le_succ _) (by rw [Heap.size_push];exact Nat.lt_succ_self _) (.inr (zMS _)) (.inr (.inl ⟨i,G,m,n,rfl,Heap.get?_push_of_some _ (Heap.get?_push_size _ rfl),lt,rfl⟩)) (by rw [mp.length_eq,zMJ,Array.length_toList]) mp
 ·refine wpAny_bind (wpAny_pure ?_)
  cases i:w.params.followText "set-order" with
  | true=>
   have pm:=(fA (w.params.setOrder S u) a).map (λx:Int × Value=>x.2)
   exact fin s.heap s.drawn (rawInt 0) S _ (λb o e=>e) (zMS _) J (.inl rfl) (.inl ⟨i,rfl,rfl⟩) (by rw [pm.length_eq,zMJ,Array.length_toList]) pm
  | false=>
   have m:a.size <= 1:=by
    apply Nat.le_of_not_lt
    intro m
    refine c ?_
    show (!(w.params.followText "set-order") && (!t.plain && decide (a.size > 1)))=true
    rw [i,z.resolve_left (by omega),zMY m];rfl
   exact fin s.heap s.drawn (rawInt 0) S _ (λb o e=>e) (zMS _) J (.inl rfl) (.inr (.inr ⟨i,by rw [j];unfold sB;rw [i];rfl,m,.inl ⟨rfl,rfl⟩,rfl⟩)) (by rw [zMJ,Array.length_toList]) (List.Perm.refl _)
end
section
variable {prog:Program} {w:World} {A:Around} {E:VSP} {s:Shared}
theorem zCF (d:s.TypeIs (.ref S) "set") (h:Q false s):wpAny (model prog w) A (Builtin.List.listLengthHint (.ref S)) Q E s:=by
 unfold Builtin.List.listLengthHint
 refine wpAny_bind (wpAny_specialOf d F.slot_set_len.lookup ?_)
 generalize c:("set.__len__" : String)=e
 wp_delta
 rw [show splitId e=some ("set","__len__") from by subst c;exact lR]
 subst c
 refine wpAny_bind (wpAny_isInstance (T:="set") (b:=true) d (by rw [isSubtype_type];kernel_rfl) ?_)
 refine wpAny_ite_split (λa=>absurd a (by decide)) (λ_=>?_)
 refine wpAny_ite_split (λ_=>?_) (λa=>absurd (by decide +kernel) a)
 exact wpAny_bind (wpAny_typeOf d (wpAny_pure h))
theorem i8 (hh:A.handled=none) (ho:s.heap.get? S=some o) (hex:o.ExactSet) (hd:o.data=.set n ep t) (hf:t.fits n.size=true) (p:t.led=sB w) (I:n.size=0 \/ t.plain=false) (hz:n.size < 1000)
  (q:∀ s' ord,(∀ b o,s.heap.get? b=some o->s'.heap.get? b=some o)->s'.gens=s.gens->s'.os=s.os->s.toks <= s'.toks->s.heap.objs.size <= s'.heap.objs.size->List.Perm ord (n.toList.map (·.2))->Q ord s'):wpAny (model prog w) A (collect (.ref S)) Q E s:=by
 have Sl:S < s.heap.objs.size:=Heap.lt_size ho
 unfold collect
 refine wpAny_bind (wpAny_runValue (codeAny_builtin F.entry_proto_collect ?_));rw [Around.under_plainId F.plain_proto_collect _]
 show wpAny _ A.in1 (newList [] >>= λl=>again (.builtin "list.__iadd__" ⟨[l,.ref S],[]⟩)) _ _ s
 refine wpAny_bind (wpAny_newObj_type (wpAny_pure ⟨plainId_quiet F.plain_list_iadd _,codeAny_builtin F.entry_list_iadd ?_⟩));rw [Around.under_plainId F.plain_list_iadd _]
 show wpAny _ A.in1 (Builtin.List.listExtendWith (.ref s.heap.objs.size) (.ref S) (.ref s.heap.objs.size)) _ _ _
 generalize i:s.heap.objs.size=L
 have r:(s.heap.push { cls:=.type "list",data:=.seq ([]:List Value).toArray }).get? L=some { cls:=.type "list",data:=.seq ([]:List Value).toArray }:=by rw [<- i];exact Heap.get?_push_size _ rfl
 have a:(s.heap.push { cls:=.type "list",data:=.seq ([]:List Value).toArray }).get? S=some o:=Heap.get?_push_of_some _ ho
 have up:∀ b o,s.heap.get? b=some o->(s.heap.push { cls:=.type "list",data:=.seq ([]:List Value).toArray }).get? b=some o:=λb o e=>Heap.get?_push_of_some _ e
 have f:(s.heap.push { cls:=.type "list",data:=.seq ([]:List Value).toArray }).objs.size=L + 1:=by rw [Heap.size_push,i]
 generalize s.heap.push { cls:=.type "list",data:=.seq ([]:List Value).toArray }=g at r a up f
 have SL:L ≠ S:=by rw [<- i];exact Nat.ne_of_gt Sl
 have hT:Shared.TypeIs { s with heap:=g } (.ref S) "set":=⟨_,a,hex.1⟩
 unfold Builtin.List.listExtendWith
 refine wpAny_bind (wpAny_typeOf hT ?_)
 have e1:Builtin.List.listSameRef (.ref L) (.ref S)=false:=by simp [Builtin.List.listSameRef,SL]
 have e2:(Value.type "set" == Value.type "list")=false:=by decide
 have e3:(Value.type "set" == Value.type "tuple")=false:=by decide
 simp only [e1,e2,e3,Bool.or_false,Bool.false_eq_true,if_false]
 refine wpAny_bind (gF (s:={ s with heap:=g }) a hex hd hf p I (by rw [sizeLine_eq];omega) λu d m J ord M j a3 N O si pm=>?_)
 have T:Shared.TypeIs { s with heap:=u,drawn:=d } (.ref S) "set":=⟨_,M _ _ a,hex.1⟩
 refine wpAny_bind (wpAny_holding (zCF T ?_))
 refine wpAny_ite_split (λ_=>?_) (λU=>absurd (by decide +kernel) U)
 refine wpAny_bind (wpAny_rule (wpAny_bind ?_))
 have v:u.get? L=some { cls:=.type "list",data:=.seq ([]:List Value).toArray }:=M _ _ r
 show wpAny _ A.in1 (updateSeq L (·.push .none) >>= λ_=>updateSeq L (·.pop)) _ _ { s with heap:=u,drawn:=d }
 refine wpAny_bind (wpAny_updateSeq v rfl ?_)
 have x:=Heap.get?_update_self (Obj.mapSeq (·.push Value.none)) v rfl
 refine wpAny_updateSeq (hz:=by seq_fits) x rfl ?_
 have Y:=Heap.get?_update_self (Obj.mapSeq (·.pop)) x rfl
 have y:∀ b o,b ≠ L->u.get? b=some o->((u.update L (Obj.mapSeq (·.push Value.none))).update L (Obj.mapSeq (·.pop))).get? b=some o:=λb o D e=>(Heap.get?_update_other _ _ (Ne.symm D)).trans ((Heap.get?_update_other _ _ (Ne.symm D)).trans e)
 have a0:m ≠ L:=by
  have:(s.heap.objs.size:Nat) + 1 <= m:=by rw [i,<- f];exact j
  rw [<- i];exact Nat.ne_of_gt this
 have a1:S ≠ m:=zNA (zM5 (Heap.lt_size a) j)
 have ln:ord.length=n.size:=by rw [pm.length_eq,zMJ,Array.length_toList]
 have a2:J ≠ L:=by
  rcases O with z | z
  ·rw [z];exact Ne.symm SL
  ·intro e;rw [e] at z;rw [show ({ s with heap:=g }:Shared).heap.objs.size=L + 1 from f] at z;exact Nat.not_succ_le_self _ z
 have B:L ∉ [m,S,J]:=by simp [Ne.symm a0,SL,Ne.symm a2]
 have W:=cH (prog:=prog) (w:=w) (A:=A.in1) hh m S J a1 N ord
 refine wpAny_pure ⟨plainId_quiet F.plain_extend_loop _,codeAny_extend_loopS W (by rw [ln,sizeLine_eq];omega) L B _ ord.length 0 _ _ _ rfl (zMT _) (si.at λb D o e=>y b o (λz=>B (z ▸ D)) e) Y (ItemsOf.nil _) λs' c c' G C h=>?_⟩
 show wpAny _ A (load L >>= _) _ _ s'
 refine wpAny_bind (wpAny_load C ?_)
 have ea:c.toList=ord:=by
  refine List.ext_getElem? λk=>?_
  rw [Array.getElem?_toList]
  by_cases H:k < c.size
  ·rw [Array.getElem?_eq_getElem H]
   exact (h.2 k _ (Array.getElem?_eq_getElem H)).symm
  ·rw [Array.getElem?_eq_none (Nat.le_of_not_lt H),List.getElem?_eq_none (by rw [<- h.1];exact Nat.le_of_not_lt H)]
 refine wpAny_pure ?_
 show Q c.toList s'
 rw [ea]
 refine q s' ord (λb o e=>?_) G.gens G.os G.toks (by rw [i];exact Nat.le_of_lt (Heap.lt_size C)) pm
 have bl:b < L:=by rw [<- i];exact Heap.lt_size e
 refine G.heap b o (λz=>?_) (y b o (zNA bl) (M b o (up b o e)))
 have:L + 1 <= m:=by rw [<- f];exact j
 rcases List.mem_cons.mp z with z | z
 ·exact absurd bl (by rw [z];exact Nat.lt_irrefl _)
 ·rw [zMM.mp z] at bl
  exact absurd (zM5 bl (Nat.le_of_succ_le this)) (Nat.lt_irrefl _)
end
section
variable {prog:Program} {w:World} {A:Around} {E:VSP} {s:Shared}
theorem gO (G:A.handled=none) (H:s.heap.get? S=some o) (hex:o.ExactSet) (hd:o.data=.set i ep t) (I:t.fits i.size=true) (j:t.led=sB w) (n:i.size=0 \/ t.plain=false) (hz:i.size < 64) (y:StrsAre (i.toList.map (·.2)) ss)
  (q:∀ h' d J p e out a,(∀ b o,s.heap.get? b=some o->h'.get? b=some o)->s.heap.objs.size <= p->h'.get? p=some (seqObj "list" out.toArray e)->StrsAre out a->a.Perm ss->sortedS a=true->Q (.ref p) { s with heap:=h',drawn:=d,toks:=J }) :
  wpAny (model prog w) A (call (.builtin "sorted") [.ref S]) Q E s:=by
 refine Calls.call_function_entry kind_sorted plain_sorted entry_sorted (args_sorted1 _) ?_
 unfold Builtin.«sorted»
 refine wpAny_bind (m:=checkCount "sorted" 1 1 _) (wpAny_pure ?_)
 refine wpAny_bind (i8 (A:=A.in1) G H hex hd I j n (by omega) λc ord k L r M l pm=>?_)
 have N:ord.length=i.size:=by rw [pm.length_eq,zMJ,Array.length_toList]
 obtain ⟨u,x,py⟩:∃ u,StrsAre ord u/\u.Perm ss:=by
  refine ⟨ord.map strOf,strsAre_map ord (λv O=>y.all v (pm.mem_iff.mp O)),?_⟩
  have:=pm.map strOf
  rwa [y.strs] at this
 refine wpAny_bind (wpAny_newList (hsz:=by rw [N,sizeLine_eq];omega) ?_)
 have f:(c.heap.push (seqObj "list" ord.toArray 0)).get? c.heap.objs.size=some (seqObj "list" ord.toArray 0):=Heap.get?_push_size _ rfl
 show wpAny _ _ _ _ _ { c with heap:=c.heap.push (seqObj "list" ord.toArray 0) }
 refine wpAny_bind (wpAny_holding (wpAny_call_entry slot_list_sort ⟨_,f,rfl⟩ entry_list_sort (list_sort_treeK strKind_oneLt f x.keysOf (λB C rest e=>keyKind_strs (by rw [<- e];exact x)) (by omega) λg T U=>⟨_,rfl,?_⟩) (args_list_sort _)))
 obtain ⟨a,Y,h2,h3⟩:=sorted_out_str x T U
 refine wpAny_pure ⟨_,rfl,?_⟩
 obtain ⟨e,he⟩:=sortedHeap_at (vs:=ord) (out:=(arrOf g).map (·.2)) f
 have:=q (sortedHeap (c.heap.push (seqObj "list" ord.toArray 0)) c.heap.objs.size ord ((arrOf g).map (·.2))) c.drawn c.toks c.heap.objs.size e ((arrOf g).map (·.2)).toList a (λb o z=>?_) l (by rw [Array.toArray_toList];exact he) Y (h2.trans py) h3
 ·rw [<- L,<- r] at this
  exact this
 ·have D:=k b o z
  have h:b < c.heap.objs.size:=Heap.lt_size D
  rw [sortedHeap_old (zNA h) (by rw [size_push'];exact Nat.lt_succ_of_lt h),Heap.get?_push_ne _ _ _ (zNA h)]
  exact D
end
theorem Inv.anyDrawn (d:Drawn) (I:Inv X a b H s):Inv X a b H { s with drawn:=d }:=
 ⟨I.ok,I.os,I.bare,I.base,I.loc,I.cell,I.free,I.freeC,I.pin,I.hok,I.len⟩
theorem dP (val:Nat->Str) (k:Str):∀ i,(wT val i).any (· == k)=true ↔ ∃ j,j < i/\val j=k
 | 0=>⟨λh=>(by cases h),λ⟨j,h,_⟩=>absurd h (Nat.not_lt_zero _)⟩
 | i + 1=>by
  rw [tE,Bool.or_eq_true,dP val k i]
  constructor
  ·rintro (⟨j,h,e⟩ | h)
   ·exact ⟨j,Nat.lt_succ_of_lt h,e⟩
   ·exact ⟨i,Nat.lt_succ_self _,(eq_of_beq h).symm⟩
  ·rintro ⟨j,h,e⟩
   rcases Nat.lt_or_ge j i with a | a
   ·exact .inl ⟨j,a,e⟩
   ·have:j=i:=Nat.le_antisymm (Nat.le_of_lt_succ h) a
    subst this
    exact .inr (by rw [e];exact beq_self_eq_true k)
noncomputable def zAD (P:Program) (w:World) (a:Addr) (zs:List Str):HO:=.ext λh=>jH P w h a (λi=>zs.getD i Str.empty) zs.length (sB w)
section
variable {X:Cx}
theorem b9 (j:X.calm=true):vK X (.type "set") (λxs H Q=>∃ a zs,xs=[.ref a]/\H a=some (.lst (zs.map V.str))/\zs.length < 1000/\∀ p,H p=none->Q (.ref p) (upd H p (zAD X.prog X.w p zs))):=by
 intro B s C H xs D Q I r h
 obtain ⟨a,zs,rfl,l,E,q⟩:=h
 obtain ⟨u,rfl,m⟩:=tY r
 cases m
 obtain ⟨c,i,n,t⟩:=I.list (.of l)
 have e:=pO i
 have v:c.length=zs.length:=by have:=i.length;rw [zMJ] at this;exact this.symm
 have d:c.toArray.size=zs.length:=by rw [zMR];exact v
 refine gU (I.ok.hd j) n.isList (jS e) (by rw [d];unfold scanBound;omega) λg y f old=>?_
 rw [d] at f
 have k:∀ b o,s.heap.get? b=some o->g.get? b=some o:=λb o z=>old b o (Heap.lt_size z) z
 refine ⟨.ref s.heap.objs.size,_,I.laid (t':=y) (h':=g) (o:=zAD X.prog X.w s.heap.objs.size zs) k (zMS _) ⟨f,?_,λL M x st=>qN x st⟩,rfl,q _ (I.hok.fresh (zMS _))⟩
 obtain ⟨o,_,_,_,A,_⟩:=f
 exact ⟨o,A⟩
theorem jD (U:X.calm=true):vK X (.builtin "sorted") (λxs H Q=>∃ p zs,xs=[.ref p]/\H p=some (zAD X.prog X.w p zs)/\zs.length < 64 /\
  ∀ l ys,H l=none->(∀ y,y ∈ ys ↔ y ∈ zs)->ys.length=pE zs->Asc ltS ys->Q (.ref l) (upd H l (.lst (ys.map V.str)))):=by
 intro qp s σ H xs us Q I r h
 obtain ⟨p,zs,rfl,Y,hz,q⟩:=h
 obtain ⟨u,rfl,rx⟩:=tY r
 cases rx
 obtain ⟨hS,_,_⟩:=I.hok p _ Y
 obtain ⟨o,n,ep,t,ho,hex,hd,A,c,hb,hf,M,f,B⟩:=hS
 have le:=tP (λi=>zs.getD i Str.empty) zs.length
 have en:=M
 have g:∀ v ∈ n.toList.map (·.2),∃ x t,v=.str x t:=by
  intro v hv
  obtain ⟨e,b,rfl⟩:=List.mem_map.mp hv
  obtain ⟨⟨k,hk,_⟩,_⟩:=A e b
  obtain ⟨t,q⟩:=Value.isStrOf_shape hk
  exact ⟨k,t,q⟩
 have C:=strsAre_map (n.toList.map (·.2)) g
 refine gO (I.ok.hd U) ho hex hd hf f B (by rw [M];omega) C λN d tk l e D z k O E G pm so=>?_
 have T:z.length=n.size:=by rw [pm.length_eq,zMJ,zMJ,Array.length_toList]
 have J:=(I.laid (a:=l) (t':=tk) (h':=N) (o:=.lst (z.map V.str)) k O ⟨by rw [zMJ,T,sizeLine_eq];omega,D,e,mO G,E⟩).anyDrawn d
 refine ⟨.ref l,_,J,rfl,q l z (I.hok.fresh O) (λy=>?_) (T.trans en) (gP _ so)⟩
 have h1:y ∈ z ↔ ∃ e ∈ n.toList,(PySem.strKind X.prog X.w).is y e.2=true:=by
  rw [pm.mem_iff,zM3,List.mem_map]
  constructor
  ·rintro ⟨e,b,q⟩
   obtain ⟨x,t,L⟩:=g e.2 (List.mem_map.mpr ⟨e,b,rfl⟩)
   refine ⟨e,b,?_⟩
   show Value.isStrOf y e.2=true
   have:strOf e.2=y:=q
   rw [L] at this ⊢
   rw [show x=y from this]
   exact beq_self_eq_true y
  ·rintro ⟨e,b,q⟩
   obtain ⟨t,L⟩:=Value.isStrOf_shape q
   exact ⟨e,b,by show strOf e.2=y;rw [L];rfl⟩
 rw [h1,<- c y,dP]
 constructor
 ·rintro ⟨j,m,q⟩
  rw [<- q,zMO,zMK m]
  exact List.getElem_mem m
 ·intro hy
  obtain ⟨j,m,q⟩:=List.getElem_of_mem hy
  exact ⟨j,m,by rw [zMO,zMK m];exact q⟩
end
end L2
namespace K25
open PySem L2
abbrev kI:Stmt:=top 60
theorem m7 (a:List (Option Str)):xC (vH a)=[]:=by
 unfold xC vH
 rw [List.flatMap_map]
 induction a with
 | nil=>rfl
 | cons o a b=>rw [List.flatMap_cons,b];rfl
theorem uB.fresh {d:List Str} {a:List (Option Str)} (c:∀ z ∈ d,yT z) (sub:∀ z,some z ∈ a->z ∈ d):uB 0 (vH a):=by
 refine ⟨λs b=>?_,by rw [m7];exact List.nodup_nil,by rw [m7];exact zMS _,λs b=>?_⟩
 ·unfold vH at b
  obtain ⟨o,f,rfl⟩:=List.mem_map.mp b
  exact ⟨λz e=>c z (sub z (by have e:o=some z:=e;rw [<- e];exact f)),λz e=>(by cases e),λx g=>absurd g zND,λz=>zMT _⟩
 ·unfold vH at b
  obtain ⟨o,f,rfl⟩:=List.mem_map.mp b
  exact zMS _
theorem jM {c us:List (Addr × Addr)} {ss:List SS} (i:H r=some (.lst (c.map λt=>V.ref t.1))) (k:H acc=some (.lst (us.map λt=>V.ref t.1))) (lt:c.length=ss.length) (m:us.length=ss.length) (B:ss.length <= 100) (f:∀ s ∈ ss,s.row.length <= 1000)
  (d:∀ (j:Nat) (t:Addr × Addr) (s:SS),c[j]?=some t->ss[j]?=some s->H t.1=some (.lst [z9 s.ptr,.ref t.2,z9 s.hold,.bl s.asked])/\Rows H t.2 (s.row.map yU))
  (e:∀ (j:Nat) (t:Addr × Addr) (s:SS),us[j]?=some t->ss[j]?=some s->H t.1=some (.lst [z9 s.ptr,.ref t.2,z9 s.hold,.bl s.asked])/\Rows H t.2 (s.row.map yU)):Alk H 4 (.ref r) (.ref acc):=by
 refine .inr ⟨r,acc,_,_,rfl,rfl,.inl ⟨i,k⟩,?_,by rw [zMJ];omega⟩
 have one:∀ (t u:Addr × Addr) (s:SS),s.row.length <= 1000->H t.1=some (.lst [z9 s.ptr,.ref t.2,z9 s.hold,.bl s.asked])/\Rows H t.2 (s.row.map yU)->H u.1=some (.lst [z9 s.ptr,.ref u.2,z9 s.hold,.bl s.asked])/\Rows H u.2 (s.row.map yU)->Alk H 3 (.ref t.1) (.ref u.1):=by
  intro t u s l ⟨n,o⟩ ⟨p,q⟩
  obtain ⟨v,w⟩:=zD3 s.row (by omega)
  refine .inr ⟨t.1,u.1,_,_,rfl,rfl,.inl ⟨n,p⟩,.cons (Alk.flat 2 (mU _)) (.cons (nX o q v w) (.cons (Alk.flat 2 (mU _)) (.cons (Alk.flat 2 rfl) .nil))),by show 4 <= 2000;decide⟩
 have go:∀ (ss:List SS) (c us:List (Addr × Addr)),c.length=ss.length->us.length=ss.length->(∀ s ∈ ss,s.row.length <= 1000)->(∀ (j:Nat) (t:Addr × Addr) (s:SS),c[j]?=some t->ss[j]?=some s->H t.1=some (.lst [z9 s.ptr,.ref t.2,z9 s.hold,.bl s.asked])/\Rows H t.2 (s.row.map yU)) ->
   (∀ (j:Nat) (t:Addr × Addr) (s:SS),us[j]?=some t->ss[j]?=some s->H t.1=some (.lst [z9 s.ptr,.ref t.2,z9 s.hold,.bl s.asked])/\Rows H t.2 (s.row.map yU))->Paired (Alk H 3) (c.map λt=>V.ref t.1) (us.map λt=>V.ref t.1):=by
  intro ss
  induction ss with
  | nil=>
   intro c us g h _ _ _
   cases c with
   | nil=>cases us with
    | nil=>exact .nil
    | cons _ _=>simp at h
   | cons _ _=>simp at g
  | cons s ss z=>
   intro c us g h f a b
   cases c with
   | nil=>simp at g
   | cons t c=>
    cases us with
    | nil=>simp at h
    | cons u us=>exact .cons (one t u s (f s (by simp)) (a 0 t s rfl rfl) (b 0 u s rfl rfl)) (z c us (by simpa using g) (by simpa using h) (λx A=>f x (by simp [A])) (λj x y d e=>a (j + 1) x y (by simpa using d) (by simpa using e)) (λj x y d e=>b (j + 1) x y (by simpa using d) (by simpa using e)))
 exact go ss c us lt m f d e
theorem aF {a:List (Str × List V)} (p:a.Perm (vA 0 ss)):∀ r ∈ a.map nmV,r.all xD=true/\r.length <= 2000:=λr c=>by
 obtain ⟨q,d,rfl⟩:=List.mem_map.mp c
 obtain ⟨k,s,b,_,_,e⟩:=sS.mp (p.mem_iff.mp d)
 unfold nmV
 rw [e]
 exact ⟨rfl,by show 3 <= 2000;decide⟩
theorem zC3 {a:List (Str × List V)} (p:a.Perm (vA 0 ss)):a.length=(xC ss).length:=by
 rw [p.length_eq,<- wC ss 0,zMJ]
theorem zDQ (k:zD [] H H1) (b:zD S H1 c) (h:SqL K H a xs) (n:∀ o,H a=some o->a ∉ S):SqL K c a xs:=h.imp (λr=>r.imp (λe=>b _ _ (n _ e) (k.z e)) (λ⟨o,e⟩=>⟨o,b _ _ (n _ e) (k.z e)⟩)) id
theorem zIY (l:List V):(vI l (some 2) (some 14)).length <= 12:=by
 unfold vI
 rw [show (2:Int)=((2:Nat):Int) from rfl,HT.sIx_nat,show (14:Int)=((14:Nat):Int) from rfl,HT.sIx_nat,zM2,List.length_drop]
 omega
theorem zMA (l:List V):(vI l none (some 1)).length <= 1:=by
 unfold vI
 rw [show (1:Int)=((1:Nat):Int) from rfl,HT.sIx_nat,zM2]
 omega
theorem iF:∀ {xs ys:List (Str × List V)},xs.Perm ys->xs.map (·.1)=ys.map (·.1)->(xs.map (·.1)).Nodup->xs=ys
 | [],ys,p,_,_=>p.nil_eq
 | x :: xs,[],p,_,_=>absurd p.length_eq (by simp)
 | x :: xs,y :: ys,p,e,b=>by
  rw [List.map_cons,List.map_cons] at e
  rw [List.map_cons] at b
  have c:=(List.cons.inj e).2
  have d:=(List.nodup_cons.mp b).1
  rcases List.mem_cons.mp (p.mem_iff.mp (zNC (a:=x) (l:=xs))) with rfl | h
  ·rw [iF p.cons_inv c (List.nodup_cons.mp b).2]
  ·exact absurd (List.mem_map.mpr ⟨x,h,rfl⟩) (c ▸ d)
theorem zC2 {c d:List (Str × List V)} (g:(xC ss).Nodup) (e:c.Perm (vA 0 ss)) (h:Asc ltN c) (i:d.Perm (vA 0 ss)) (j:Asc ltN d):c=d:=by
 have f:=e.trans i.symm
 refine iF f (zC5 (λa b=>zEW) (f.map _) ?_ ?_) ?_
 ·unfold Asc;rw [List.pairwise_map];exact h
 ·unfold Asc;rw [List.pairwise_map];exact j
 ·exact ((e.map _).nodup_iff.mpr (by rw [wC];exact g))
section
variable {P:Program} {w:World} {K:W.Frag} {mg:Str->Option Value} {base:Heap} {C CS:Addr}
theorem scL:zM N3 ["_law_script"] (zG kI):=scm
def eR (K:W.Frag):Sp:=λc H Q _=>∃ (a:Addr) (b:List Int),c=[.ref a]/\SqL K H a (b.map V.int)/\b.length <= 63/\∀ d,Q (.bl true) d
theorem zK4 {f:Addr} {fd:FuncData} (T:y4 K C) (G:Fun K "law" "law" kI f fd) (CC:Cal P w K mg base CX0 1 SR ND (a9 K)) (CD:Cal P w K mg base CX0 1 SG Nz oH) (CN:Cal P w K mg base CX0 2 Sn N8 qL) (CM:Cal P w K mg base CX0 4 "_law_made" Nz zJV) (MH:gB P w K mg base CX0 4 C "House" Np (zHB K C CS)) (dz:Cal P w K mg base CX0 1 "_law_state" NO eJ)
  (CG:Cal P w K mg base CX0 2 SJ Nk zJ1) (cc:Cal P w K mg base CX0 3 "_law_done" Nh zJ3) (cd:Cal P w K mg base CX0 6 Sz N7 (zJT C CS)) (CT:Cal P w K mg base CX0 4 "_law_told" NG (zJM C CS)) (CA:Cal P w K mg base CX0 5 "_law_alike" Nw (zJ7 5)) (cf:yD P w K mg base CX0 2 C Ss N4 (aY C CS))
  (e0:Cal P w K mg base CX0 4 "_law_doors" Nt (zJ2 K)) (e3:Cal P w K mg base CX0 3 "_law_why" Nr (zJJ K)) (e4:Cal P w K mg base CX0 8 SV N7 (zJS K C CS)) (a0:Blt mg S8) (ab:Blt mg "list") (ah:Blt mg Su) (ae:Blt mg "sorted") (bg:Blt mg "set"):tH P w K mg base CX0 9 f fd ["_law_script"] (eR K):=by
 refine G.oz scL (λfz A e5 s0 H vs Q E hr h=>?_)
 obtain ⟨a,ns,rfl,hS,fv,fin⟩:=h
 have ai:zZ 1 _:=hr.mono (by decide)
 have aj:zZ 2 _:=hr.mono (by decide)
 have bh:zZ 3 _:=hr.mono (by decide)
 have ak:zZ 4 _:=hr.mono (by decide)
 have an:zZ 5 _:=hr.mono (by decide)
 have cg:zZ 6 _:=hr.mono (by decide)
 have e6:zZ 8 _:=hr
 have hu:=vS hr
 refine ⟨_,(zE (qR (zO CM ak (zA (zO CC ai (zA (pv 0) (zA zH zB))) zB)) (tL rfl (y3 (yI (i:=1) scL.nd rfl (Or.inl rfl)) (y3 (yI (i:=2) scL.nd rfl (Or.inl rfl)) (y3 (yI (i:=3) scL.nd rfl (Or.inl rfl)) (y3 (yI (i:=4) scL.nd rfl (Or.inl rfl)) uF))))))
   (zE (z7 (i:=5) scL.nd rfl (Or.inl rfl) (zGG MH an (zA (pv 1) (zA (xE uH rfl ab.no vR (zA (pv 2) zB)) (zA (xE uH rfl ab.no vR (zA (pv 3) zB)) zB)))))
   (zE (mQ (i:=6) scL.nd rfl (Or.inl rfl) (N:=N3) (sc:=zG kI) (ix:=[]) (by decide +kernel) (y6 (pv 3)) (λ_ _ _ _=>xG) (λ_ _ _ _=>(zO dz ai (zA (pv 0) zB))))
   (zE (vM PassesOwn.never rfl (y6 (xT sK (pv 0) (xW zH) (xW zH))) (yI (i:=7) scL.nd rfl (Or.inl rfl)) (zE (z7 (i:=8) scL.nd rfl (Or.inl rfl) (zO CG aj (zA (pv 6) (zA (pv 4) (zA (pv 2) zB)))))
   (zE (z7 (i:=9) scL.nd rfl (Or.inl rfl) (zS z6 (pv 8) (zO CN aj (zA (zO CD ai (zA (pv 7) zB)) (zA (zV yA a0 yP (zA (pv 8) zB)) zB))) (λ_ _=>rfl)))
   (zE (yB (zO cd cg (zA (pv 5) (zA (pv 9) zB))))
   (zF (yB (zO cc bh (zA (pv 6) (zA (pv 9) zB)))))))))
   (zE (z7 (i:=10) scL.nd rfl (Or.inl rfl) (zO CT ak (zA (pv 5) (zA (zV yA a0 yP (zA (pv 3) zB)) zB))))
   (zE (z7 (i:=11) scL.nd rfl (Or.inl rfl) (xH cf T.cl aj (pv 5)))
   (zE (z7 (i:=12) scL.nd rfl (Or.inl rfl) (zV (jD rfl) ae lC (zA (xE (b9 rfl) rfl bg.no zC1 (zA (yG wO (yG wO (pv 4) (pv 2)) (yL (zA (pv 1) zB))) zB)) zB)))
   (zE (vM PassesOwn.never rfl (y6 (zO e0 ak (zA (zO CD ai (zA (zO CC ai (zA (pv 0) (zA zH zB))) zB)) (zA (pv 12) (zA (zV yA a0 yP (zA (pv 3) zB)) zB))))) (yI (i:=9) scL.nd rfl (Or.inl rfl)) (zE (z7 (i:=13) scL.nd rfl (Or.inl rfl) (zO e3 bh (zA (pv 6) (zA (pv 2) (zA (pv 9) zB)))))
   (zF (z4 (zT vX (pv 13) yQ (zX _)) (zF (vM PassesOwn.never rfl (vJ rfl ah.no (zA zH zB)) (yI (i:=14) scL.nd rfl (Or.inl rfl)) (zF (z4 (zT t8 (zO e4 e6 (zA (pv 5) (zA (pv 9) zB))) (pv 13) (zX _)) (zF (zL wS)) zN)))) zN))))
   (zE (z4 (PW.pt (sX (xB (y9 (zO CA an (zA (zO CT ak (zA (pv 5) (zA (zV yA a0 yP (zA (pv 3) zB)) zB))) (zA (pv 10) zB))))) (u6 (xB (y9 (zO CA an (zA (xH cf T.cl aj (pv 5)) (zA (pv 11) zB)))))))) (zF (zL wS)) zN)
   (zE (vM PassesOwn.never rfl (y6 (xT sK (zO CG aj (zA (pv 6) (zA (pv 4) (zA (pv 2) zB)))) wZ (xW zH))) (yI (i:=9) scL.nd rfl (Or.inl rfl)) (zF (z4 (xB (y9 (zO CA an (zA (zO cd cg (zA (pv 5) (zA (pv 9) zB))) (zA (zO cc bh (zA (pv 6) (zA (pv 9) zB))) zB))))) (zF (zL wS)) zN)))
   (zE (z7 (i:=15) scL.nd rfl (Or.inl rfl) (zO CT ak (zA (pv 5) (zA (zV yA a0 yP (zA (pv 3) zB)) zB))))
   (zF (zL (zO CA an (zA (pv 15) (zA (wV (N:=N3) (sc:=zG kI) (ix:=[]) (by decide +kernel) (y6 (pv 6)) (λ_ _ _ _=>xG) (λ_ _ _ _=>(yL (zA (yV hu (pv 0) zJ (λ_ _=>rfl)) (zA (yV hu (pv 0) zJ (λ_ _=>rfl)) (zA (yV hu (pv 0) zJ (λ_ _=>rfl)) (zA (yV hu (pv 0) zJ (λ_ _=>rfl)) zB))))))) zB)))))))))))))))),?_⟩
 refine sq λn J=>?_
 refine ⟨_,rfl,a,ns,0,rfl,hS,by decide,λv0=>⟨v0,rfl,λt nl wl al nm Y l H2 et en ew g0 g4 g5 gn af nd e7 ln ne la sub has k2=>?_⟩⟩
 obtain ⟨as,ay,e8,ch,bi⟩:=has
 have apos:0 < l.length:=zM9.mpr ne
 refine ⟨t,_,rfl,.of et,rfl,_,_,rfl,_,_,rfl,_,_,rfl,_,_,rfl,rfl,?_⟩
 refine J _ _ (sq λn J=>?_)
 refine ⟨_,rfl,_,rfl,nl,_,rfl,.inl (.of en),λh0 ea=>?_⟩
 have k3:=zD.new (S:=[]) (o:=.lst (Y.map V.str)) ea
 have cj:upd H2 h0 (.lst (Y.map V.str)) h0=some (.lst (Y.map V.str)):=zC
 generalize upd H2 h0 (.lst (Y.map V.str))=H3 at k3 cj ⊢
 refine ⟨_,rfl,wl,_,rfl,.inl (.of (k3.z ew)),λh1 az=>?_⟩
 have k4:=zD.new (S:=[]) (o:=.lst (l.map z9)) az
 have ck:upd H3 h1 (.lst (l.map z9)) h1=some (.lst (l.map z9)):=zC
 have cm:=k4.z cj
 generalize upd H3 h1 (.lst (l.map z9))=H5 at k4 cm ck ⊢
 have cn:zD [] H2 H5:=k3.trans k4
 refine λp dx hp eb ec=>?_
 have kB:zD [] H5 (upd (upd H5 dx (.own p)) p (.ins C dx [])):=(zD.new eb).trans (zD.new (by rw [zK ec.symm];exact hp))
 have eB:upd (upd H5 dx (.own p)) p (.ins C dx []) p=some (.ins C dx []):=zC
 generalize upd (upd H5 dx (.own p)) p (.ins C dx [])=HB at kB eB ⊢
 refine ⟨p,dx,h0,h1,nm,Y,l,rfl,eB,kB.z cm,kB.z ck,gn,af,nd,e7,by omega,ne,by omega,sub,λxs H6 hh k6=>⟨rfl,?_⟩⟩
 have cp:=cn.trans kB
 have bj:zD [] H2 H6:=cp.under k6 (by intro b hb;rw [zMM.mp hb];exact cn.none (by simp) hp)
 have bk:=bj.z ew
 obtain ⟨P1,az,b0⟩:=hh.parts
 refine J _ _ (sq λn J=>?_)
 refine ⟨_,rfl,wl,rfl,⟨_,.of bk⟩,λst bm=>?_⟩
 have ee:wl ≠ st:=zI bk bm
 refine uQ (K:=K) (a:=wl) (its:=l.map z9) (by rw [zMJ,sizeLine_eq];omega) (λi zs τ g=>∃ (us:List (Addr × Addr)) (kk:Option V),τ=[kk]/\zs=us.map (λu=>V.ref u.1)/\us.length=i/\(∀ (j:Nat) (u:Addr × Addr),us[j]?=some u->DAt g u.1 u.2 ⟨l.getD j none,[],none,false⟩)/\(∀ u ∈ us,H6 u.1=none/\H6 u.2=none/\u.1 ≠ st/\u.2 ≠ st)/\(us.Pairwise λa b=>a.1 ≠ b.1/\a.2 ≠ b.2)/\zD [st] H6 g/\g st=some (.lst zs)) ⟨[],_,rfl,rfl,rfl,(λj u e=>by simp at e),(λu hu=>by cases hu),.nil,zD.at (by simp),zC⟩ ?_ ?_ ?_
 ·rintro i zs τ g ⟨us,kk,rfl,rfl,hl,_,_,_,kp,h⟩
  exact ⟨h,by rw [zMJ];omega,.of (kp _ _ (by simp [ee]) bk)⟩
 ·rintro i zs τ g x hx ⟨us,kk,rfl,rfl,hl,hD,ag,bn,kp,h⟩
  obtain ⟨ar,ei,rfl⟩:=gm hx
  have eg:l.getD i none=ar:=by rw [zMO,ei];rfl
  refine ⟨_,rfl,ar,rfl,λu v a5 hu hv D k=>?_⟩
  have h':=k.z h
  have bo:u ≠ st:=Ne.symm (zI h hu)
  have bp:v ≠ st:=Ne.symm (zI h hv)
  have nt:∀ b ∈ [st],∀ xs,a5 b ≠ some (.tup xs):=λb hb xs z=>by rw [zMM.mp hb,h'] at z;cases z
  have kl:zD [st] a5 (upd a5 st (.lst (us.map (λu=>V.ref u.1) ++ [.ref u]))):=zD.at (by simp)
  refine ⟨h',us ++ [(u,v)],_,rfl,by simp,by simp [hl],λj z hj=>?_,λz hz=>?_,?_,(kp.trans (k.mono (by simp))).trans kl,zC⟩
  ·by_cases jl:j < us.length
   ·rw [zM7 jl] at hj
    obtain ⟨_,_,f1,f2⟩:=ag z (zMN hj)
    exact ((hD j z hj).keep k).keepS kl (by simpa using f1) (by simpa using f2) nt
   ·rw [zM6 (by omega)] at hj
    have ej:j=i:=by
     have:=(zML.mp hj).1
     simp at this;omega
    subst ej
    rw [hl,Nat.sub_self] at hj
    cases hj
    rw [eg]
    exact D.keepS kl (by simpa using bo) (by simpa using bp) nt
  ·rcases zM0.mp hz with hz | hz
   ·exact ag z hz
   ·rw [zMM.mp hz]
    exact ⟨kp.none (by simpa using bo) hu,kp.none (by simpa using bp) hv,bo,bp⟩
  ·refine List.pairwise_append.mpr ⟨bn,List.pairwise_singleton _ _,λz hz z' eh=>?_⟩
   rw [zMM.mp eh]
   obtain ⟨j,hj,ej⟩:=List.getElem_of_mem hz
   have dj:=hD j z (by rw [zMK hj,ej])
   obtain ⟨_,wj,_⟩:=dj.rw
   exact ⟨zI dj.d hu,zI wj hv⟩
 rintro zs τ H7 ⟨ys,kk,rfl,rfl,hl,hD,ag,bn,cq,h7⟩
 rw [zMJ] at hl
 have ao:zD [] H6 H7:=cq.drop bm
 obtain ⟨P2,cs⟩:∃ P2:List Addr,P2=st :: (ys.map (·.1) ++ ys.map (·.2)):=⟨_,rfl⟩
 have sA:vD (· ∈ P2) H7 st ys (vH l):=by
  subst cs
  refine ⟨h7,⟨by simp,λy hy=>⟨?_,?_⟩⟩,⟨λy hy=>(ag y hy).2.2.2,bn⟩,by unfold vH;rw [zMJ];exact hl,λi y s e1 e2=>?_⟩
  ·simp only [List.mem_cons,zM0,List.mem_map];exact .inr (.inl ⟨y,hy,rfl⟩)
  ·simp only [List.mem_cons,zM0,List.mem_map];exact .inr (.inr ⟨y,hy,rfl⟩)
  ·unfold vH at e2
   obtain ⟨ar,ei,rfl⟩:=gm e2
   have:=hD i y e1
   rw [zMO,ei] at this
   exact this
 have b2:∀ u ∈ P2,H6 u=none/\H7 u ≠ none:=by
  intro u hu
  rw [cs] at hu
  simp only [List.mem_cons,zM0,List.mem_map] at hu
  have ac:∀ y ∈ ys,H7 y.1 ≠ none/\H7 y.2 ≠ none:=λy hy=>by
   obtain ⟨j,hj,ej⟩:=List.getElem_of_mem hy
   have dj:=hD j y (by rw [zMK hj,ej])
   obtain ⟨_,wj,_⟩:=dj.rw
   exact ⟨(by rw [dj.d];nofun),(by rw [wj];nofun)⟩
  rcases hu with rfl | ⟨y,hy,rfl⟩ | ⟨y,hy,rfl⟩
  ·exact ⟨bm,(by rw [h7];nofun)⟩
  ·exact ⟨(ag y hy).1,(ac y hy).1⟩
  ·exact ⟨(ag y hy).2.1,(ac y hy).2⟩
 have sm:∀ {H g:Hp} {u:Addr},zD [] H g->H u ≠ none->g u ≠ none:=λ{H g u} k h e=>h (k.none (by simp) e)
 have I0:uB 0 (vH l):=uB.fresh af sub
 have ct:=bj.trans ao
 have U:∀ {u:Addr} {o:HO},H2 u=some o->u ∉ P1 ++ P2:=λ{u o} hu hm=>by
  rcases zM0.mp hm with h | h
  ·have:=(b0 u h).1
   rw [cp.z hu] at this;cases this
  ·have:=(b2 u h).1
   rw [bj.z hu] at this;cases this
 refine J _ _ (sq λn J=>?_)
 refine ⟨_,rfl,_,rfl,_,rfl,a,_,rfl,zD.seq (k2.trans ct) hS,λp0 bq=>?_⟩
 obtain ⟨ms,em,lm⟩:=zCX ns (some 2) (some 14)
 have cu:ms.length <= 12:=by have e:=congrArg List.length em;rw [zMJ] at e;rw [<- e];exact zIY _
 rw [em]
 have a6:zD [] H7 (upd H7 p0 (.lst (ms.map V.int))):=zD.new bq
 have br:upd H7 p0 (.lst (ms.map V.int)) p0=some (.lst (ms.map V.int)):=zC
 have cv:p0 ∉ P1 ++ P2:=λhm=>by
  rcases zM0.mp hm with h | h
  ·exact sm ao (b0 _ h).2.1 bq
  ·exact (b2 _ h).2 bq
 generalize upd H7 p0 (.lst (ms.map V.int))=Z at a6 br ⊢
 have B:WB Z P1 P2 p:=by
  refine ⟨λu hu=>?_,λu h1 h2=>(b0 u h1).2.1 (b2 u h2).1,?_⟩
  ·rcases zM0.mp hu with h | h
   ·exact sm (ao.trans a6) (b0 u h).2.1
   ·exact sm a6 (b2 u h).2
  ·obtain ⟨_,_,_,e⟩:=az.ob
   exact sm (ao.trans a6) (by rw [e];nofun)
 have w0:WK Z P1 P2 C CS p st nm Y xs ys Z (vH l) (vH l):=⟨az.on (ao.trans a6),sA.on a6,zD.refl _,λu h=>h⟩
 have b3:=ct.trans a6
 have b4:=b3.z en
 have ba:=b3.z ew
 have bs:=b3.z ay
 obtain ⟨M,hM⟩:∃ M:Nat->St->Hp->Prop,∀ i σ g,M i σ g ↔ ∃ (O:List SS) (v7 v8 v9:Option V),σ=[some (.ref a),some (.str nm),some (.ref nl),some (.ref wl),some (.ref al),some (.ref p),some (.ref st),v7,v8,v9,none,none,none,none,none,none]/\WK Z P1 P2 C CS p st nm Y xs ys g O O/\uB i O/\O.length=l.length:=⟨_,λ_ _ _=>Iff.rfl⟩
 refine ⟨p0,rfl,⟨_,.of br⟩,vQ (K:=K) (a:=p0) (xs:=ms.map V.int) M ((hM _ _ _).mpr ⟨_,_,_,_,rfl,w0,I0,by unfold vH;rw [zMJ]⟩) ?_ ?_ ?_⟩
 ·intro i σ g _ hm
  obtain ⟨O,v7,v8,v9,rfl,w,_,_⟩:=(hM _ _ _).mp hm
  exact .of (w.kp _ _ cv br)
 ·intro i c σ H1 hc hm
  obtain ⟨O,v7,v8,v9,rfl,w,I,ls⟩:=(hM _ _ _).mp hm
  have l4:O.length <= 4:=zMU (Nat.le_of_eq ls) la
  have a1:O.length <= 100:=zMU l4 (by decide)
  have il:i < ms.length:=by have:=(zML.mp hc).1;simpa using this
  obtain ⟨cell,rfl⟩:∃ z,c=V.int z:=by
   rw [zMP] at hc
   cases e:ms[i]? with
   | none=>rw [e] at hc;cases hc
   | some z=>rw [e] at hc;exact ⟨z,(zMQ hc).symm⟩
  have bt:O ≠ []:=λe=>by rw [e] at ls;exact ne (List.length_eq_zero_iff.mp ls.symm)
  refine sq λn J=>?_
  refine ⟨_,rfl,_,rfl,_,rfl,(· ∈ P2),st,al,nl,ys,O,i,as,Y,rfl,w.sa,I,bt,zMU l4 (by decide),w.kp _ _ (U ay) bs,w.kp _ _ (U en) b4,bi,af,ch,zMU ln (by decide),λdl ds H2 R2 gd ld cw g6 ek=>?_⟩
  have w2:=w.on ek
  obtain ⟨ps,e2,r2⟩:=id R2
  have el:=zY r2
  rw [zMJ] at el
  have fw:0 < ds.length:=zM9.mpr (cw e8)
  refine J _ _ (sq λn J=>?_)
  refine ⟨_,rfl,_,rfl,_,rfl,λaq b1 c1 e1 a2=>⟨_,rfl,_,_,rfl,.inl ⟨_,.of ((zD.new (S:=[]) a2).z e2),rfl⟩,aq,b1,c1,e1,_,rfl,zC,by rw [zMJ];omega,by rw [zMJ];omega,λu a' c' u0 u1=>?_⟩⟩
  rw [uE]
  have bb:zD [] H2 (upd H2 aq (.lst [.int a',.int c1,.int c'])):=zD.new a2
  generalize upd H2 aq (.lst [.int a',.int c1,.int c'])=H3 at bb ⊢
  obtain ⟨uu,cx,cy⟩:=tU (xs:=ps.map V.ref) u0 (by rw [zMJ] at u1 ⊢;exact u1)
  obtain ⟨tt,et,rfl⟩:=gm cy
  obtain ⟨rr,er,ht⟩:=wE r2 _ tt et
  obtain ⟨dd,ed,rfl⟩:=gm er
  obtain ⟨j,s,e,a7⟩:=gd dd (zMN ed)
  refine ⟨dl,_,u,.ref tt,rfl,rfl,bb.z e2,cx,?_⟩
  have w3:=w2.on bb
  have bu:=bb.z ht
  refine J _ _ (sq λn J=>?_)
  have au:i <= 60:=by omega
  refine ⟨_,rfl,_,rfl,(· ∈ P1),p,tt,nm,Y,xs,O,i,dd,j,s,e,rfl,w3.ho,I,au,a1,bu,a7,λr x H4 ex bv R4 n4 cz=>?_⟩
  have w4:=w3.hou B ex bv cz
  have bw:H4 tt=some (.tup (hdV dd)):=cz _ _ (λhm=>w3.noX ex tt hm _ bu) bu
  refine J _ _ ?_
  refine ⟨_,rfl,_,rfl,(· ∈ P2),st,tt,ys,O,i,Y,dd,j,s,e,rfl,w4.sa,I,au,a1,bw,a7,λg7 y H5 ey S5 R5 n5 eo=>?_⟩
  exact (hM _ _ _).mpr ⟨_,_,_,_,rfl,w4.sts B ey S5 eo,I.deed a7,by rw [zNK];exact ls⟩
 intro σ Ha hm
 obtain ⟨O,v7,v8,v9,rfl,w,I,ls⟩:=(hM _ _ _).mp hm
 clear hM
 have l4:O.length <= 4:=zMU (Nat.le_of_eq ls) la
 have a1:O.length <= 100:=zMU l4 (by decide)
 rw [zMJ] at I
 generalize ms.length=m at I cu
 have bt:O ≠ []:=λe=>by rw [e] at ls;exact ne (List.length_eq_zero_iff.mp ls.symm)
 have bx:m <= 60:=by omega
 have d0:(xC O).length < 64:=Nat.lt_of_le_of_lt (zMU I.ln bx) (by decide)
 have rl:∀ s ∈ O,s.row.length <= 1000:=λs hs=>zMU (zMU (I.rl s hs) bx) (by decide)
 have fx:zD (P1 ++ P2) Z Ha:=w.kp
 refine J _ _ (sq λn J=>?_)
 refine ⟨_,rfl,_,rfl,_,_,rfl,.inl ⟨_,.of (w.kp _ _ (U ew) ba),rfl⟩,(· ∈ P1),p,nm,Y,xs,O,(by rw [zMJ,ls];rfl),w.ho,a1,λkr ts Hb g8 tA kb=>?_⟩
 have wb:=w.on kb
 obtain ⟨ep,g9,ga,_,es,_⟩:=id w.ho
 refine J _ _ (sq λn J=>?_)
 refine ⟨_,rfl,p,ep,_,rfl,kb.z es,zCE _ _ _,(· ∈ P1),p,nm,Y,xs,O,rfl,wb.ho,I.nd,d0,λkn rs Hc pm eu Rc gb kc=>?_⟩
 have wc:=wb.on kc
 have kpc:=wc.kp
 have lz:(as ++ Y ++ [nm]).length <= 40:=by rw [zM1,zM1];show _ + _ + 1 <= 40;omega
 refine J _ _ (sq λn J=>?_)
 refine ⟨_,rfl,_,rfl,al,nl,_,_,rfl,rfl,kpc _ _ (U ay) bs,kpc _ _ (U en) b4,by rw [zMJ,zMJ,sizeLine_eq];omega,λl0 ev=>⟨_,rfl,by show 1 <= sizeLine;decide,λl1 d1=>⟨l0,l1,_,_,rfl,rfl,(zD.new (S:=[]) d1).z zC,zC,by rw [zM1,zMJ,zMJ,sizeLine_eq];show _ + 1 <= _;omega,λl2 ez=>⟨l2,as ++ Y ++ [nm],rfl,by rw [zC,zMV,zMV];rfl,by omega,λsp f0=>⟨sp,as ++ Y ++ [nm],rfl,zC,by omega,λnh zs d2 hy ly _=>?_⟩⟩⟩⟩⟩
 generalize hH:upd (upd (upd (upd Hc l0 _) l1 _) l2 _) sp _=Hd at d2 ⊢
 have f5:zD [] Hc Hd:=by rw [<- hH];exact (((zD.new ev).trans (zD.new d1)).trans (zD.new ez)).trans (zD.new f0)
 clear hH
 have bz:zD [] Hc (upd Hd nh (.lst (zs.map V.str))):=f5.trans (zD.new d2)
 have d3:upd Hd nh (.lst (zs.map V.str)) nh=some (.lst (zs.map V.str)):=zC
 generalize upd Hd nh (.lst (zs.map V.str))=He at bz d3 ⊢
 have we:=wc.on bz
 have f6:∀ z ∈ zs,yT z:=λz hz=>by
  have h:=(hy z).mp hz
  rcases zM0.mp h with h | h
  ·exact (zM0.mp h).elim (bi z) (af z)
  ·rw [zMM.mp h];exact gn
 have fa:zs ≠ []:=λe=>by have:=(hy nm).mpr (by simp);rw [e] at this;cases this
 have fb:zs.length <= 40:=zMU (zMU (Nat.le_of_eq ly) (tP _ _)) lz
 refine J _ _ (sq λn J=>?_)
 refine ⟨_,rfl,a,ns,1,rfl,zDQ b3 we.kp (zD.seq k2 hS) λo ho=>U ho,by decide,λv1=>⟨v1,rfl,λaq b1 c1 e1 a2=>?_⟩⟩
 have ks:=zD.new (S:=[]) (o:=.lst [.int b1,.int c1,.int e1]) a2
 refine ⟨_,rfl,_,rfl,_,_,rfl,.inl ⟨_,.of (ks.z (we.kp _ _ (U ew) ba)),rfl⟩,aq,nh,zs,l.length,by rw [zMJ];rfl,⟨_,_,_,zC⟩,ks.z d3,f6,fa,fb,la,λdl Hf Df kf=>?_⟩
 have d4:zD [] He Hf:=ks.under kf (by intro b hb;rw [zMM.mp hb];exact a2)
 have wf:=we.on d4
 obtain ⟨ds,⟨qs,d5,pq⟩,ld,pl⟩:=Df
 obtain ⟨M2,aa⟩:∃ M:St->Hp->Prop,∀ σ g,M σ g ↔ ∃ (v9 bc a3:Option V),σ=[some (.ref a),some (.str nm),some (.ref nl),some (.ref wl),some (.ref al),some (.ref p),some (.ref st),v7,v8,v9,some (.ref kr),some (.ref kn),some (.ref nh),bc,a3,none]/\zD [] Hf g:=⟨_,λ_ _=>Iff.rfl⟩
 refine ⟨dl,rfl,⟨_,.of d5⟩,vQ (K:=K) (a:=dl) (xs:=qs.map V.ref) (λ_=>M2) ((aa _ _).mpr ⟨_,_,_,rfl,zD.refl _⟩) (λi σ g _ hm=>let ⟨_,_,_,_,kp⟩:=(aa _ _).mp hm;.of (kp.z d5)) ?_ ?_⟩
 ·intro i x σ Hg hi hm
  obtain ⟨v9,bc,a3,rfl,kg⟩:=(aa _ _).mp hm
  obtain ⟨q,eq,rfl⟩:=gm hi
  obtain ⟨r,er,hq⟩:=wE pq _ q eq
  obtain ⟨e,ed,rfl⟩:=gm er
  have pe:=pl e (zMN ed)
  have wg:=wf.on kg
  refine sq λn J=>?_
  refine ⟨_,rfl,_,rfl,_,rfl,Y,(· ∈ P2),st,nl,q,ys,O,e,rfl,wg.sa,a1,wg.kp _ _ (U en) b4,kg.z hq,pe.on kg,λo Hh wy kh=>?_⟩
  have da:=kg.trans kh
  refine J _ _ ?_
  refine ⟨_,rfl,rfl,_,rfl,?_⟩
  cases o with
  | none=>exact ifF rfl ((aa _ _).mpr ⟨_,_,_,rfl,da⟩)
  | some j=>
  refine ifT rfl ⟨2,rfl,by decide,by decide,?_⟩
  refine tG (λn σ g=>∃ (a3:Option V),σ=[some (.ref a),some (.str nm),some (.ref nl),some (.ref wl),some (.ref al),some (.ref p),some (.ref st),v7,v8,some (.ref q),some (.ref kr),some (.ref kn),some (.ref nh),some (.str (rA j)),a3,none]/\zD [] Hf g) ⟨_,rfl,da⟩ ?_ ?_
  ·rintro n σ Hi _ ⟨a3,rfl,ki⟩
   exact ⟨_,rfl,_,rfl,(· ∈ P1),p,nm,Y,xs,O,m,q,e,j,rfl,(wf.on ki).ho,I,bx,af,ki.z hq,pe.on ki,wy,λHj kj=>⟨_,rfl,rfl,_,rfl,ifF (by simp) ⟨_,rfl,ki.trans kj⟩⟩⟩
  ·rintro σ Hi ⟨a3,rfl,ki⟩
   exact (aa _ _).mpr ⟨_,_,_,rfl,ki⟩
 intro σ Hg hm
 obtain ⟨gc,bc,a3,rfl,kg⟩:=(aa _ _).mp hm
 clear aa
 have wg:=wf.on kg
 have db:zD [] Hc Hg:=(bz.trans d4).trans kg
 refine J _ _ (sq λn J=>?_)
 refine ⟨_,rfl,_,rfl,_,_,rfl,.inl ⟨_,.of (wg.kp _ _ (U ew) ba),rfl⟩,(· ∈ P1),p,nm,Y,xs,O,(by rw [zMJ,ls];rfl),wg.ho,a1,λfc gf Hh _ fe kh=>?_⟩
 have wh:=wg.on kh
 obtain ⟨ff,fg,ac⟩:=tA
 obtain ⟨dc,de,c0⟩:=fe
 have c2:=(kc.trans db).trans kh
 refine ⟨_,rfl,.ref fc,.ref kr,rfl,jM de (c2.z fg) dc ff a1 rl (λj t s h1 h2=>let ⟨f1,f2,_⟩:=c0 j t s h1 h2;⟨f1,f2⟩) (λj t s h1 h2=>let ⟨f1,f2,_⟩:=ac j t s h1 h2;⟨c2.z f1,f2.keep c2⟩),λHi ki=>⟨_,rfl,ifF rfl ?_⟩⟩
 have wi:=wh.on ki
 obtain ⟨fh,_,_,_,fi,_⟩:=id wi.ho
 refine ⟨_,rfl,p,fh,_,rfl,fi,zCE _ _ _,(· ∈ P1),p,nm,Y,xs,O,rfl,wi.ho,I.nd,d0,λfj gg Hj c3 df Rj _ kj=>?_⟩
 have wj:=wi.on kj
 obtain rfl:=zC2 I.nd c3 df pm eu
 refine ⟨_,rfl,.ref fj,.ref kn,rfl,(nX Rj (Rc.keep ((db.trans (kh.trans ki)).trans kj)) (aF c3) (by rw [zMJ,zC3 c3];omega)).succ.succ,λHk kk=>⟨_,rfl,ifF rfl ?_⟩⟩
 have wk:=wj.on kk
 refine J _ _ (sq λn J=>?_)
 refine ⟨_,rfl,_,rfl,_,rfl,(· ∈ P2),st,al,nl,ys,O,m,as,Y,rfl,wk.sa,I,bt,zMU l4 (by decide),wk.kp _ _ (U ay) bs,wk.kp _ _ (U en) b4,bi,af,ch,zMU ln (by decide),λgl gs Hl Rl gd ld cw gh kl=>?_⟩
 have dg:=wk.on kl
 obtain ⟨ps,fk,fl⟩:=id Rl
 refine ⟨_,rfl,gl,_,rfl,.of fk,λg1 dh=>?_⟩
 have km:zD [] Hl (upd Hl g1 (.lst (vI (ps.map V.ref) none (some 1)))):=zD.new dh
 have c4:upd Hl g1 (.lst (vI (ps.map V.ref) none (some 1))) g1=some (.lst (vI (ps.map V.ref) none (some 1))):=zC
 generalize upd Hl g1 (.lst (vI (ps.map V.ref) none (some 1)))=Hm at km c4 ⊢
 have wm:=dg.on km
 have di:Z g1=none:=dg.dm g1 dh
 have gi:=zMA (ps.map V.ref)
 refine ⟨g1,rfl,⟨_,.of c4⟩,vQ (K:=K) (a:=g1) (xs:=vI (ps.map V.ref) none (some 1)) (λi σ g=>∃ (L:List SS) (v9:Option V),σ=[some (.ref a),some (.str nm),some (.ref nl),some (.ref wl),some (.ref al),some (.ref p),some (.ref st),v7,v8,v9,some (.ref kr),some (.ref kn),some (.ref nh),bc,a3,none]/\WK Z P1 P2 C CS p st nm Y xs ys g L L/\uB (m + i) L/\L.length=l.length/\g g1=some (.lst (vI (ps.map V.ref) none (some 1)))/\(i=0->L=O/\zD [] Hm g)) ⟨O,_,rfl,wm,I,ls,c4,λ_=>⟨rfl,zD.refl _⟩⟩ (λi σ g _ ⟨_,_,_,_,_,_,h,_⟩=>.of h) ?_ ?_⟩
 ·rintro i x σ Hn hi ⟨L,v9,rfl,wn,In,dk,fm,h0⟩
  have i1:=(zML.mp hi).1
  obtain ⟨rfl,fo⟩:=h0 (by omega)
  obtain ⟨tt,fp,rfl⟩:=List.mem_map.mp (i7 (zMN hi))
  obtain ⟨dd,c5,fq⟩:∃ dd ∈ gs,Hl tt=some (.tup (hdV dd)):=by
   obtain ⟨n,J,en⟩:=List.getElem_of_mem fp
   obtain ⟨r,er,fs⟩:=wE fl n tt (by rw [zMK J,en])
   obtain ⟨dd,c5,rfl⟩:=List.mem_map.mp (zMN er)
   exact ⟨dd,c5,fs⟩
  obtain ⟨j,s,e,a7⟩:=gd dd c5
  have c7:=fo.z (km.z fq)
  have au:m + i <= 60:=by omega
  have av:=zMU (zMU (Nat.le_of_eq dk) la) (by decide:4 <= 100)
  refine ⟨_,rfl,_,rfl,(· ∈ P1),p,tt,nm,Y,xs,_,m + i,dd,j,s,e,rfl,wn.ho,In,au,av,c7,a7,λr x H4 ex bv R4 n4 k4=>?_⟩
  have w4:=wn.hou B ex bv k4
  have bw:=k4 _ _ (λhm=>wn.noX ex tt hm _ c7) c7
  refine ⟨_,rfl,_,rfl,(· ∈ P2),st,tt,ys,_,m + i,Y,dd,j,s,e,rfl,w4.sa,In,au,av,bw,a7,λr2 y H5 ey S5 R5 n5 k5=>?_⟩
  have w5:=w4.sts B ey S5 k5
  have ft:=uK R4 k5 (w4.farY B ey (wn.dm r n4)) (w4.noY ey)
  obtain ⟨o1,o2⟩:=zBZ (wB s e) j
  exact ⟨.ref r,.ref r2,rfl,(nX ft R5 o1 o2).succ.succ,λH6 k6=>⟨_,rfl,ifF rfl ⟨_,_,rfl,w5.on k6,In.deed a7,by rw [zNK];exact dk,k6.z (k5 _ _ (w4.farY B ey di) (k4 _ _ (wn.farX B ex di) fm)),λh=>by omega⟩⟩⟩
 rintro σ Hn ⟨L,fy,rfl,w7,I',dn,_,_⟩
 refine J _ _ (sq λn J=>?_)
 refine ⟨_,rfl,_,rfl,_,_,rfl,.inl ⟨_,.of (w7.kp _ _ (U ew) ba),rfl⟩,(· ∈ P1),p,nm,Y,xs,L,(by rw [zMJ,dn];rfl),w7.ho,zMU (zMU (Nat.le_of_eq dn) la) (by decide),λfr gj H8 gk tA dp=>?_⟩
 have w8:=w7.on dp
 obtain ⟨dq,bf,ca⟩:=tA
 obtain ⟨aw,_,_,dr,dt⟩:=id w8.sa
 refine J _ _ ?_
 refine ⟨_,rfl,_,rfl,st,rfl,⟨_,.of aw⟩,λacc a4=>?_⟩
 have fu:st ≠ acc:=zI aw a4
 have gp:fr ≠ acc:=zI bf a4
 refine uQ (K:=K) (a:=st) (its:=ys.map λy=>V.ref y.1) (by rw [zMJ,dr,sizeLine_eq];omega) (λi' zs τ g=>∃ (us:List (Addr × Addr)) (kk:Option V),τ=[kk]/\zs=us.map (λt=>V.ref t.1)/\us.length=i'/\i' <= L.length/\(∀ (j:Nat) (t:Addr × Addr) (s:SS),us[j]?=some t->L[j]?=some s->g t.1=some (.lst [z9 s.ptr,.ref t.2,z9 s.hold,.bl s.asked])/\Rows g t.2 (s.row.map yU)/\t.1 ≠ acc/\t.2 ≠ acc)/\zD [acc] H8 g/\g acc=some (.lst zs)) ⟨[],_,rfl,rfl,rfl,zMT _,(λj t s e=>by simp at e),zD.at (by simp),zC⟩ ?_ ?_ ?_
 ·rintro i' zs τ g ⟨us,kk,rfl,rfl,ax,_,_,kp,h⟩
  exact ⟨h,by rw [zMJ];omega,.of (kp _ _ (by simp [fu]) aw)⟩
 ·rintro i' zs τ g x' hx ⟨us,kk,rfl,rfl,ax,gq,hea,kp,h⟩
  obtain ⟨y',cb,rfl⟩:=gm hx
  have du:i' < L.length:=by rw [<- dr];exact (zML.mp cb).1
  have bd:L[i']?=some L[i']:=zMK du
  generalize L[i']=s' at bd
  have D:=(dt i' y' s' cb bd).keep (kp.drop a4)
  obtain ⟨_,w',_⟩:=id (dt i' y' s' cb bd).rw
  have ya:y'.2 ≠ acc:=zI w' a4
  refine ⟨_,rfl,y'.1,_,rfl,g_a D.d,_,rfl,y'.1,_,rfl,g_r D.d,_,rfl,y'.1,_,rfl,g_h D.d,_,rfl,y'.1,_,rfl,g_k D.d,by show 4 <= sizeLine;decide,λu' dv=>?_⟩
  have ku:zD [] g (upd g u' (.lst [z9 s'.ptr,.ref y'.2,z9 s'.hold,.bl s'.asked])):=zD.new dv
  have dw:upd g u' (.lst [z9 s'.ptr,.ref y'.2,z9 s'.hold,.bl s'.asked]) u'=some (.lst [z9 s'.ptr,.ref y'.2,z9 s'.hold,.bl s'.asked]):=zC
  have h':=ku.z h
  have ua:u' ≠ acc:=Ne.symm (zI h dv)
  generalize upd g u' (.lst [z9 s'.ptr,.ref y'.2,z9 s'.hold,.bl s'.asked])=a5 at ku dw h' ⊢
  have kl:zD [acc] a5 (upd a5 acc (.lst (us.map (λt=>V.ref t.1) ++ [.ref u']))):=zD.at (by simp)
  have nt:∀ b ∈ [acc],∀ xs,a5 b ≠ some (.tup xs):=λb hb xs z=>by rw [zMM.mp hb,h'] at z;cases z
  refine ⟨h',us ++ [(u',y'.2)],_,rfl,by simp,by simp [ax],du,λj z sz hj hz=>?_,(kp.trans (ku.mono (by simp))).trans kl,zC⟩
  by_cases jl:j < us.length
  ·rw [zM7 jl] at hj
   obtain ⟨f1,f2,f3,f4⟩:=hea j z sz hj hz
   exact ⟨kl _ _ (by simpa using f3) (ku.z f1),uK (f2.keep ku) kl (by simpa using f4) nt,f3,f4⟩
  ·rw [zM6 (by omega)] at hj
   have ej:j=i':=by
    have:=(zML.mp hj).1
    simp at this;omega
   subst ej
   rw [ax,Nat.sub_self] at hj
   cases hj
   rw [bd] at hz
   cases hz
   exact ⟨kl _ _ (by simpa using ua) dw,uK (D.rw.keep ku) kl (by simpa using ya) nt,ua,ya⟩
 rintro zs τ H9 ⟨us,kk,rfl,rfl,ax,_,hea,dy,h9⟩
 rw [zMJ] at ax
 have be:zD [] H8 H9:=dy.drop a4
 have w9:=w8.on be
 exact ⟨.ref fr,.ref acc,rfl,jM (be.z bf) h9 dq (by omega) (by omega) (λs hs=>by have:=I'.rl s hs;omega) (λj t s h1 h2=>let ⟨f1,f2,_⟩:=ca j t s h1 h2;⟨be.z f1,f2.keep be⟩) (λj t s h1 h2=>let ⟨f1,f2,_⟩:=hea j t s h1 h2;⟨f1,f2⟩),λgr _=>fin _⟩
end
end K25
section
open PySem PySem.W PyProof.Rows
set_option maxHeartbeats 0
structure PySem.W.Fast:Prop where
 (tw16968176118458789586 tw1454219785156648487 tw9497945907656264259 tw1176975735165151067 tw13698048360955963301 tw10426125643436316091 tw906997338810173357 tw9770852922666311175 tw3528903376305711396 tw10199354318988768051 tw14380344462400189873 tw14442895186254868694 tw550859730669387710 tw16919299863453259545 tw14869557710840242666 tw13402640891724300857 tw8629223137936558018 tw17643754061406199020 tw4584130408075211490 tw11187973929812520656 tw8609586542792094281 tw3285859953031059425 tw5240190935848835389 tw9601000219436670146 tw16449049683821496617 tw9156678896304099913 tw15886500619415505586 tw6486810437610700802 tw12048056826642495367 tw1099786997935966427 tw9741163907969138060 tw5671954072354940063 tw13436231055378572716 tw15221209806709932071 tw12798869161161681673 tw8393786181099783575 tw9774394379856643515 tw2257529940240947247 tw5891177449180782854 tw15402286563333779435 tw12533650973541477374 tw18013738613805917565 tw7523194637212750777 tw7498633149979677338 tw3092117133297227249 tw15335523830956845186 tw3470010718395615242 tw13840814423707232359 tw15348117752812372481 tw17624731456758155189 tw11519117686961666697 tw2947586027576077979 tw4157206338815638501 tw16932301668260661676 tw8879981774537637704 tw1349388230604553621 tw16915470645016011554 tw6734199854066611161 tw16472409268878238316 tw8164005668110941744 tw4961949625528378942 tw8981913638643619018 tw3764688243253525356 tw13426244417702134072 tw742405457713269000 tw234749781942434899 tw1191315250883676292 tw1906743188756502811 tw7875376050956498882 tw15578532291347979597 tw8426798971799828003 tw11370914782968760983 tw4504308265987017973 tw4631843929112630505 tw9416359806053724237 tw15861331538122591068 tw14501001857826371202 tw17925384258215065573 tw7328447075739424539 tw4216363875500904389 tw9435018134839604537 tw16798657068305975370 tw853867870972434600 tw12549480798472879603 tw8933567498414919238 tw8730455100892084961 tw5623994078177797194 tw17233677561841584812 tw14191745827877185554 tw11112971261363487917 tw14613296582639449008 tw12043681936756833108 tw11779420592341035236 tw16792704761308240420 tw10561106145012299093 tw1987508650992133761 tw2208741240797131588 tw12996339429388188178 tw184939413199734779 tw69414778264802052 tw416062468532545916 tw12336147652794031108 tw7175924686734873740 tw14285927966381778045 tw12300527617525357084 tw6285040191614719466 tw13049474527870934581 tw4571146918403064550 tw3479469073905811116 tw16950569574821323974 tw3172541193896328996 tw4843473975253519250 tw16172578528114110199 tw4598012029387006661 tw16459021049253542911 tw11309342325655673037 tw1541540961381408409 tw15248526436251307398 tw15622835117965313283 tw5388663596951873645 tw12673549619886724666 tw10785849952161257653 tw569269584081339442 tw9488181201213887302 tw2536771547969941856 tw16317983856663788926 tw1191518686258777599 tw8621301723031713458 tw17312996333117680517 tw4248988804066548162 tw7363425622247834253 tw202563879291266831 tw17287205074728517176 tw11224283036561675971 tw8934421753687110507 tw4537827082999213091 tw4203021270051977171 tw3801760983836956406 tw3638187344944282256 tw3094701115853657799 tw16279701975793424917 tw9597476570122768466 tw6292166794754334899 tw6586766797330607371 tw15508019666092448443 tw804092199982636349 tw14326666937008165477 tw13829591483307370896 tw2133357390318303931 tw16131418979919672264 tw17969941481158815411 tw8185526577758514290 tw7523960725538707817 tw2133271169735087666 tw2451202640524662777 tw1165732905965986049 tw17334881123488906936 tw17427895641331663283 tw6459200953577825518 tw4033379813872489195 tw8903238766108814736 tw8181798732573668865 tw5799554998426481285 tw16149030986926176842 tw11636702290074901078 tw7610715734942229976 tw8704305404121857298 tw1820406046763328738 tw8436589768386056944 tw18192907663531859256 tw17483246593336843265 tw6200747210346194187 tw6708892414054319099 tw6807009207803952845 tw13319170342346483122 tw15382044423783582273 tw9192171586001469603 tw9359623039629485964 tw14846608996346228861 tw9455475090630465045 tw15416708228241726627 tw8646929664414959583 tw7825248364748044718 tw1880258362356491002 tw17845374550828520631 tw17619882183920601743 tw11392713097197983755 tw14439765378166140033 tw8454840944936950519 tw9629638568524466495 tw16629561534657121264 tw17601101962401091345 tw13884827974113296321 tw14864845329073380503 tw12059592832596718669 tw1678685284944356640 tw16118103595353321548 tw14395535763308203431 tw8556428379479075427 tw11712190458185945011 tw7394473655412076685 tw11905978938385298303 tw14374603453287560736 tw15734334760007649912 tw3985506009949057970 tw14678158920106854735 tw14790834132378566595 tw17798109276220946204 tw877418901244307835 tw5089109622011424599 tw5047655472420816975 tw10845176269288740530 tw17546005709695080877 tw2294854397974045510 tw12221415409051222339 tw13260146092877858203 tw17714833071000019117 tw15845117809764550140 tw7766378276201275438 tw6664951462986138201 tw15314323031021625729 tw278057108609374583 tw6638926791290424541 tw3241244739717862871 tw11769617611247221923 tw15679247252792206210 tw454280894128670149 tw8160871880118814707 tw6951939212644042833 tw9715166753854553471 tw17100184641858439841 tw15632388027458123374 tw5613845454599061817 tw7160180452043601882 tw14827384380277173613 tw15431134087688302020 tw3169637908207053047 tw9897558803702562313 tw12978678129208030876 tw9508736203920968164 tw5759927347364260171 tw7900839787485558254 tw10884089432341657690 tw16878425626841360969 tw8085317222854131807 tw17548501875881557423 tw5036445103931068615 tw517312751163448032 tw16029188298635462215 tw10780761586765376359 tw603919011924581760 tw6834397320308548248 tw13792483299354683862 tw4954584648838934644 tw3482820431698744051 tw6511239469406747073 tw1313047135445303594 tw6737687440995333003 tw2478928736998500339 tw8086373703447589959 tw2852278927748849453 tw18189533506524829052 tw10042499479572932358 tw10390157646234782899 tw1138913362466708187 tw14010756937746569603 tw13305670439411429421 tw178168908405807006 tw6396003848318028651 tw3992908553847606798 tw7042659310547366237 tw10015853644003576960 tw931956834028986255 tw14729990847023682631 tw1322031339247656150 tw7388713464098733815 tw9791681398072291233 tw6364832225403335943 tw3357109249204774647 tw14858129598448742980 tw14495299557687959983 tw2644793928968540899 tw5353813085845620550 tw6192104577313164617 tw5107255825281412738 tw380267787363406661 tw12184380411685104690 tw9001960471440542311 tw6108208118871286908 tw3507429394446682220 tw2348382526199129394 tw10693841506766600124 tw5485572742587201778 tw11081772624950168284 tw6203606158221864914 tw17093224777342109595 tw14255533807856875452 tw13419329186978087958 tw8237626310708396552 tw4211700434839312001 tw12004313012329915033 tw17837415989878807268 tw5272677748111154927 tw4674102799890499726 tw5286587840749011222 tw9218752888244210615 tw5552461122284547459 tw15862806813707239167 tw6315216371427503177 tw5260856337621036202 tw7877236402650122457 tw12132578266924881344 tw9305391788130653963 tw11637195238256488622 tw1611551182742943237 tw15568136977402293060 tw9761588102954696855 tw2810533944269268182 tw4441479696137820286 tw726985913927333873 tw15718574390098580149 tw2385268686561707046 tw2927799364441409784 tw11717690317537128808 tw17513604867990543079 tw8445716188487379795 tw347805415268056836 tw8605165415444627158 tw13553050674002434610 tw571030836065106013 tw1722802803701587481 tw15934030157929616494 tw2754692670688779762 tw712222309637291157 tw8126552424372712672 tw17094580856887593759 tw17119971604622065936 tw1901531775752417231 tw9316670756482807701 tw14124935244785052151 tw2648174423076098445 tw10069975712529536831 tw4425046354534653865 tw2969480146181677978 tw3373145609055282853 tw9832553117377153458 tw14722794537435163219 tw18431155831084640082 tw2337977823195543630 tw3892864765347196996 tw7942853410682446962 tw17698735102306075112 tw5635732757303927080 tw16186510892431351131 tw4227517698962585424 tw14749253800190834908 tw9466130334346563993 tw11763852733077360975 tw143782271200020318 tw8526028360262338249 tw10052001805573714066 tw17398146341500462573 tw306725001281121169 tw12694589447371642155 tw4153491320931672185 tw15545184769064153574 tw11165118516710488114 tw10267551232223586437 tw12067549021546063074 tw16809252239103401712 tw2857234818492195956 tw4916127144345927284 tw17401831432661337422 tw1647960591809683682 tw2791417458454038152 tw17878424488110687958 tw14267268813261638861 tw10015450608781386451 tw3345597093286824917 tw5680315236850328200 tw8174591469460913490 tw11786325122171474085 tw15325311475551686242 tw15639028444304104736 tw1349615225243010270 tw15223397061033166810 tw7343611390307366373 tw4543556514994620149 tw7089793799200125183 tw5916140570258018564 tw8159976661246289121 tw7340446101256811000 tw14734032772098568817 tw15860061360732319080 tw14900259974334564751 tw5769997320742902227 tw15666224950229401414 tw2962324470309885386 tw13669522585143040522 tw11320351676317602388 tw5541168653056121806 tw6905212232875527693 tw13952158723898717365 tw18012574323051992567 tw8079883169468671255 tw10378583025934500588 tw7524379617451308511 tw18167724695441219349 tw6880125886219600808 tw1672204981616886009 tw7420531298404749032 tw4968929673044707356 tw13887902116395311400 tw11680414320664102990 tw12712400820596877648 tw14045762497377551236 tw17888565902029391346 tw10846345724684618374 tw13055661147411815287 tw75764501244781629 tw7076977106511060911 tw2873748437651673626 tw14029171239946634462 tw6771182271545134960 tw3664731896753646195 tw5315833730557488597 tw6873971014812347169 tw4340971767527515617 tw13508602156133886167 tw10497042534595344180 tw4038909232737020655 tw10131873952172028942 tw1267704075650749254 tw16463793508043411602 tw4888033052430993751 tw5587484289544270231 tw959750476839503417 tw8131721106225051767 tw5847202018973711932 tw3808584094389355786 tw8860130008918733972 tw4177351759533223642 tw2202087279664922802 tw4773397407553703792 tw3471986238504059686 tw16925118299729312639 tw4799189423077775474 tw17456480263006714056 tw14763428746477059428 tw5363195699714531557 tw1567247161763788871 tw17666627728419048244 tw8674833295852230495 tw5845538515087863352 tw438459731153329746 tw11224361182253327997 tw12111957463147405440 tw11896190001472655623 tw10729351905339586543 tw4188684199736651882 tw1826987945724244988 tw6623812351622530092 tw704147369595269066 tw14113110954290816071 tw9161490523856799436 tw6760056911573607715 tw6089177832033215386 tw11300376045408061371 tw14323754321771104433 tw14064874489906791314 tw12011070553636201877 tw6692257562035669867 tw18277388166739348960 tw6429450841261186155 tw3133745999044795564 tw9751423446361702133 tw671769174312181376 tw14889595167817102546 tw10232147439284725336 tw670427922429333600 tw12319733152821033628 tw18443007809517869832 tw14786330839892292761 tw3302770140995672700 tw12079628635447562283 tw10661956449011590994 tw3048301304931576756 tw714049069090440106 tw5802571108899374253 tw12487779173672901959 tw7007158731953197150 tw8478550097109946567 tw16884622931589843948 tw4034687210265294523 tw7840018428339521541 tw16408362238061914836 tw10412780308102683651 tw1817805791611690161 tw4633964761656961768 tw5425125011635884837 tw9513619709740374535 tw8886442042033028919 tw10728712052571211117 tw11586196018267737339 tw16061800364364160699 tw5805183375971660199 tw4842887358765978389 tw14398365135244066966 tw6606014719576569030 tw15250632263150132618 tw6999941293234460784 tw3321576952164483024 tw8249347019533418915 tw14112606434462084385 tw15988265368706215130 tw1173414789623836638 tw3488647797146898431 tw3903891618737965568 tw12319047049370110589 tw7158441374720773216 tw7834740603555865465 tw12590770754756799043 tw133755455108545178 tw16286715671046524454 tw12514039047250868702 tw6788773261714906821 tw12694112234171929671 tw7945405709010385892 tw2484844197603217540 tw7717702957765121957 tw13350131943787299761 tw1354003750591732747 tw14731147920152588799 tw11887224372650548316 tw8078195926588453703 tw3822784309164373692 tw12523711969749109062 tw11269825475406603969 tw1041263688889175116 tw10184835648761350555 tw11970942820725077907 tw1292346606274980823 tw16717272659965454103 tw14245618210516037357 tw6381902497316938245 tw6784790241324674965 tw2456577590951144490 tw8697654515486363317 tw17874270312163423198 tw8877373362634485534 tw12661032092557703082 tw12737541344736672974 tw5399014298235654608 tw13949155002146243131 tw16970792351503237766 tw15755219311246346914 tw13708279966662545973 tw16372584530490662585 tw1620389302784492585 tw11268533821286410027 tw13323373534744806615 tw15854262060937163188 tw17960848765466677729 tw7910172739516966087 tw7263363503728760936 tw17802128708061929859 tw9835382159548102362 tw5713610079918043996 tw14650769484350525481 tw18042889414512086050 tw11982959770356382578 tw1833547357909804662 tw16900135722406889126 tw3016012700857477809 tw3942624392001961204 tw11843833423457600547 tw15719748902143223830 tw16504757533647375273:True)
open_top head for PySem.Challenge.rw_treeright_k25_refused_at_all_doors
end
namespace K25
open PySem L2
def FnK (K:PySem.W.Frag) (n q:Str) (st:Stmt) (f:Addr):Prop:=∃ (b c:Option Addr) (d:Array (Option Value)) (e kV g pm a h:Value),K.lookup f=some ⟨e,b,.func (PySem.W.fnOf n q (vG st) (y8 st) (zG st) .none kV g pm c a h),d⟩/\PySem.W.codeIn K a q=true/\PySem.W.keepIn K (.ref f)=true
def FgK (K:PySem.W.Frag) (n:Str) (st:Stmt):Prop:=∃ f,PySem.W.nsIn K mainGlobals n=some (some (.ref f))/\FnK K n n st f
def MtK (K:PySem.W.Frag) (C:Addr) (n q:Str) (st:Stmt):Prop:=∃ f,PySem.W.findIn K (.ref C) n=some (some (.ref f))/\PySem.W.isFn K (.ref f)=true/\FnK K n q st f
theorem us1 {P:List Value->Prop} (h:∀ a,P [a]):∀ us,us.length=1->P us
 | [a],_=>h a
theorem us2 {P:List Value->Prop} (h:∀ a b,P [a,b]):∀ us,us.length=2->P us
 | [a,b],_=>h a b
theorem us3 {P:List Value->Prop} (h:∀ a b c,P [a,b,c]):∀ us,us.length=3->P us
 | [a,b,c],_=>h a b c
theorem us4 {P:List Value->Prop} (h:∀ a b c d,P [a,b,c,d]):∀ us,us.length=4->P us
 | [a,b,c,d],_=>h a b c d
theorem yK {K:PySem.W.Frag} {h:Heap} {mg:Str->Option Value} {n:Str} {st:Stmt} {ps:List Str} (X:K.In h) (G:h.Ns mainGlobals mg) (l:FgK K n st)
  (g:∀ (kV b pm:Value) (e:Option Addr) (d ct:Value) (us:List Value),us.length=ps.length->bindArgs (PySem.W.fnOf n n (vG st) (y8 st) (zG st) .none kV b pm e d ct) ⟨us,[]⟩=pure (ps.zip us)):yM K mg n st ps:=by
 obtain ⟨f,a,i,e,j,m,kV,o,pm,p,ct,l,c,k⟩:=l
 exact zE5 X G a l c k g
theorem yY {K:PySem.W.Frag} {C:Addr} {n q:Str} {st:Stmt} {ps:List Str} (l:MtK K C n q st)
  (g:∀ (kV b pm:Value) (e:Option Addr) (d ct:Value) (us:List Value),us.length=ps.length->bindArgs (PySem.W.fnOf n q (vG st) (y8 st) (zG st) .none kV b pm e d ct) ⟨us,[]⟩=pure (ps.zip us)):yS K C n q st ps:=by
 obtain ⟨f,a,i,h,e,j,m,kV,o,pm,p,ct,l,c,k⟩:=l
 exact zET a i l c k g
structure ClK (K:PySem.W.Frag) (n:Str) (C:Addr):Prop where
 a:PySem.W.nsIn K mainGlobals n=some (some (.ref C))
 pg:PySem.W.plainGet K C Str.empty=true
 hd:PySem.W.hasDictIn K C=true
 po:PySem.W.plainOver K C=true
 sa:PySem.W.findIn K (.ref C) "__setattr__"=some (some (.builtin "object.__setattr__"))
 ms:PySem.W.makesIn K C=true
 kc:PySem.W.keepIn K (.ref C)=true
theorem all_mk {l:PySem.W.OpenLaw} {w:World} {K:PySem.W.Frag} {h:Heap} {mg:Str->Option Value} {fa:Addr} (X:K.In h) (G:h.Ns mainGlobals mg) (d0:mg "law"=some (.ref fa))
  {fL:Addr} {CS:Addr} {C:Addr} {M:Tok} {o:Tok} {x0:Addr} {x1:Addr} {x2:Addr} {x3:Addr} {x4:Addr} {x5:Addr} {x6:Addr} {x7:Addr} {x8:Addr} {x9:Addr} {ab:Addr} {ac:Addr} {aq:Addr}
  (l0:FgK K "is_name" j3)
  (l1:FgK K "is_whole" sWh)
  (l2:FgK K "is_one_of" kE)
  (l3:FgK K "are_names" j7)
  (l4:FgK K "are_unlike" zDY)
  (l5:FgK K "are_neighbours" sNb)
  (l6:FgK K "are_arrows" zAV)
  (l7:FgK K "check_right" sCk)
  (l8:FgK K "check_asker" j6)
  (l9:FgK K "check_house" e9)
  (d1:FgK K "numbered" sNu)
  (d2:FgK K "_law_cell_at" dA)
  (d3:FgK K "_law_mixed" kG)
  (d4:FgK K "_law_digits" pU)
  (d5:FgK K "_law_next" eW)
  (da:FgK K "_law_names" qQ)
  (db:FgK K "_law_alike" oN)
  (dd:FgK K "_law_told" sTo)
  (de:FgK K "_law_made" sMd)
  (df:FgK K "_law_state" lZ)
  (dg:FgK K "_law_moved" kF)
  (dh:FgK K "_law_made_at" eY)
  (di:FgK K "_law_chosen" sCh)
  (dj:FgK K "_law_seat_of" sSO)
  (dk:FgK K "_law_numbered" sLN)
  (dm:FgK K "_law_good_deeds" sGd)
  (dn:FgK K "_law_done" sDn)
  (dp:FgK K "_law_put" sPu)
  (dq:FgK K "_law_odd" zD0)
  (dr:FgK K "_law_kinds" oM)
  (ds:FgK K "_law_look" sLk)
  (dt:FgK K "_law_refusal" sRe)
  (du:FgK K "_law_is_name" zAN)
  (dv:FgK K "_law_is_right" sIR)
  (dw:FgK K "_law_why_asker" sWA)
  (dx:FgK K "_law_why" sWy)
  (dy:FgK K "_law_doors" sDs)
  (aL:PySem.W.nsIn K mainGlobals "law"=some (some (.ref fL))) (lL:FnK K "law" "law" kI fL)
  (q:ClK K "Seat" CS)
  (bf:MtK K CS "__init__" "Seat.__init__" eZ)
  (bg:MtK K CS "arrow" "Seat.arrow" kJ)
  (bh:MtK K CS "row" "Seat.row" zDZ)
  (bi:MtK K CS "inside" "Seat.inside" pT)
  (bj:MtK K CS "has_asked" "Seat.has_asked" zD1)
  (bk:MtK K CS "askers" "Seat.askers" sSA)
  (bm:MtK K CS "crowd" "Seat.crowd" sCr)
  (bn:MtK K CS "want" "Seat.want" eV)
  (bo:MtK K CS "leave" "Seat.leave" oK)
  (bp:MtK K CS "done" "Seat.done" j4)
  (ar:MtK K CS "ask" "Seat.ask" zAU)
  (au:MtK K CS "come" "Seat.come" j5)
  (av:MtK K CS "move_on" "Seat.move_on" eX)
  (aw:MtK K CS "serve_first" "Seat.serve_first" kD)
  (u:PySem.W.findIn K (.ref CS) "pointer"=some none)
  (x:PySem.W.findIn K (.ref CS) "waiting"=some none)
  (D:PySem.W.findIn K (.ref CS) "holder"=some none)
  (I:PySem.W.findIn K (.ref CS) "asked"=some none)
  (N:ClK K "House" C)
  (dz:MtK K C "__init__" "House.__init__" sHI)
  (e0:MtK K C "arrow" "House.arrow" zAS)
  (e1:MtK K C "row" "House.row" zAO)
  (e2:MtK K C "inside" "House.inside" zAP)
  (e3:MtK K C "has_asked" "House.has_asked" zAQ)
  (e4:MtK K C "askers" "House.askers" zAR)
  (e5:MtK K C "rights_wanted" "House.rights_wanted" sRW)
  (e6:MtK K C "right_of" "House.right_of" sRO)
  (e7:MtK K C "best_right" "House.best_right" sBR)
  (e8:MtK K C "check_letter" "House.check_letter" sCL)
  (bq:MtK K C "want" "House.want" sHW)
  (br:MtK K C "leave" "House.leave" sHL)
  (bs:MtK K C "done" "House.done" sHD)
  (bt:MtK K C "ask" "House.ask" sHK)
  (bu:MtK K C "come" "House.come" sHC)
  (Y:PySem.W.findIn K (.ref C) "name"=some none)
  (J:PySem.W.findIn K (.ref C) "nearby"=some none)
  (O:PySem.W.findIn K (.ref C) "seats"=some none)
  (y:PySem.W.nsIn K mainGlobals "isinstance"=some none)
  (ax:PySem.W.nsIn K mainGlobals "str"=some none)
  (ay:PySem.W.nsIn K mainGlobals "int"=some none)
  (ae:PySem.W.nsIn K mainGlobals "bool"=some none)
  (z_len:PySem.W.nsIn K mainGlobals "len"=some none)
  (az:PySem.W.nsIn K mainGlobals "all"=some none)
  (a3:PySem.W.nsIn K mainGlobals "range"=some none)
  (z_list:PySem.W.nsIn K mainGlobals "list"=some none)
  (a4:PySem.W.nsIn K mainGlobals "tuple"=some none)
  (b0:PySem.W.nsIn K mainGlobals "set"=some none)
  (a0:PySem.W.nsIn K mainGlobals "sorted"=some none)
  (E:PySem.W.nsIn K mainGlobals "enumerate"=some none)
  (b1:PySem.W.nsIn K mainGlobals "min"=some none)
  (z:PySem.W.nsIn K mainGlobals "ValueError"=some none)
  (Q:PySem.W.nsIn K mainGlobals "LETTERS"=some (some (.str "abcdefghijklmnopqrstuvwxyz" M)))
  (p:PySem.W.nsIn K mainGlobals "LONGEST_NAME"=some (some (.int 8 o)))
  (bv:PySem.W.nsIn K mainGlobals "NoTree"=some (some (.ref x0)))
  (aj:PySem.W.nsIn K mainGlobals "NoHouse"=some (some (.ref x1)))
  (bw:PySem.W.nsIn K mainGlobals "NoSeat"=some (some (.ref x2)))
  (ak:PySem.W.nsIn K mainGlobals "NoAsker"=some (some (.ref x3)))
  (al:PySem.W.nsIn K mainGlobals "NoLetter"=some (some (.ref x4)))
  (ao:PySem.W.nsIn K mainGlobals "NoRight"=some (some (.ref x5)))
  (bx:PySem.W.nsIn K mainGlobals "NoRow"=some (some (.ref x6)))
  (bz:PySem.W.nsIn K mainGlobals "NoTie"=some (some (.ref x7)))
  (c0:PySem.W.nsIn K mainGlobals "Down"=some (some (.ref x8)))
  (c1:PySem.W.nsIn K mainGlobals "NoMend"=some (some (.ref x9)))
  (b2:PySem.W.nsIn K mainGlobals "NoText"=some (some (.ref ab)))
  (b3:PySem.W.nsIn K mainGlobals "NoLine"=some (some (.ref ac)))
  (b4:PySem.W.nsIn K mainGlobals "TreeError"=some (some (.ref aq)))
  (r:qW K [x0,x1,x2,x3,x4,x5,x6,x7,x8,x9,ab,ac] aq=true)
  (c2:fS K [x0,x1,x2,x3,x4,x5,x6,x7,x8,x9,ab,ac]=true) :
  ∃ fd:FuncData,(∀ (s:Shared) (v:Value),BindsTo s fd ⟨[v],[]⟩ [("_law_script",v)])/\∀ base:Heap,K.In base->base.Ns mainGlobals mg->tH l.prog w K mg base CX0 9 fa fd ["_law_script"] (eR K):=by
 have e:=d0.symm.trans (PySem.W.mg_of X G aL)
 cases e
 obtain ⟨od,an,sl,oc,kV,dc,pm,cd,ct,lL,cL,kL⟩:=lL
 have GI:yM K mg "is_name" j3 ["thing"]:=yK X G l0 (λ_ _ _ _ _ _=>us1 λ_=>rfl)
 have c3:yM K mg "is_whole" sWh ["thing"]:=yK X G l1 (λ_ _ _ _ _ _=>us1 λ_=>rfl)
 have ea:yM K mg "is_one_of" kE ["thing","houses"]:=yK X G l2 (λ_ _ _ _ _ _=>us2 λ_ _=>rfl)
 have eb:yM K mg "are_names" j7 ["thing"]:=yK X G l3 (λ_ _ _ _ _ _=>us1 λ_=>rfl)
 have ec:yM K mg "are_unlike" zDY ["names"]:=yK X G l4 (λ_ _ _ _ _ _=>us1 λ_=>rfl)
 have ed:yM K mg "are_neighbours" sNb ["thing","name"]:=yK X G l5 (λ_ _ _ _ _ _=>us2 λ_ _=>rfl)
 have ee:yM K mg "are_arrows" zAV ["thing","neighbours"]:=yK X G l6 (λ_ _ _ _ _ _=>us2 λ_ _=>rfl)
 have c4:yM K mg "check_right" sCk ["right","many"]:=yK X G l7 (λ_ _ _ _ _ _=>us2 λ_ _=>rfl)
 have c5:yM K mg "check_asker" j6 ["asker"]:=yK X G l8 (λ_ _ _ _ _ _=>us1 λ_=>rfl)
 have ef:yM K mg "check_house" e9 ["house"]:=yK X G l9 (λ_ _ _ _ _ _=>us1 λ_=>rfl)
 have eg:yM K mg "numbered" sNu ["right","told"]:=yK X G d1 (λ_ _ _ _ _ _=>us2 λ_ _=>rfl)
 have GC:yM K mg "_law_cell_at" dA ["_law_script","_law_k"]:=yK X G d2 (λ_ _ _ _ _ _=>us2 λ_ _=>rfl)
 have GM:yM K mg "_law_mixed" kG ["_law_cell","_law_k"]:=yK X G d3 (λ_ _ _ _ _ _=>us2 λ_ _=>rfl)
 have GD:yM K mg "_law_digits" pU ["_law_cell"]:=yK X G d4 (λ_ _ _ _ _ _=>us1 λ_=>rfl)
 have GN:yM K mg "_law_next" eW ["_law_source","_law_many"]:=yK X G d5 (λ_ _ _ _ _ _=>us2 λ_ _=>rfl)
 have eh:yM K mg "_law_names" qQ ["_law_source","_law_many"]:=yK X G da (λ_ _ _ _ _ _=>us2 λ_ _=>rfl)
 have ei:yM K mg "_law_alike" oN ["_law_found","_law_due"]:=yK X G db (λ_ _ _ _ _ _=>us2 λ_ _=>rfl)
 have GT:yM K mg "_law_told" sTo ["_law_house","_law_many"]:=yK X G dd (λ_ _ _ _ _ _=>us2 λ_ _=>rfl)
 have ej:yM K mg "_law_made" sMd ["_law_cell"]:=yK X G de (λ_ _ _ _ _ _=>us1 λ_=>rfl)
 have ek:yM K mg "_law_state" lZ ["_law_arrow"]:=yK X G df (λ_ _ _ _ _ _=>us1 λ_=>rfl)
 have el:yM K mg "_law_moved" kF ["_law_state_here"]:=yK X G dg (λ_ _ _ _ _ _=>us1 λ_=>rfl)
 have em:yM K mg "_law_made_at" eY ["_law_state_here","_law_deed"]:=yK X G dh (λ_ _ _ _ _ _=>us2 λ_ _=>rfl)
 have en:yM K mg "_law_chosen" sCh ["_law_states"]:=yK X G di (λ_ _ _ _ _ _=>us1 λ_=>rfl)
 have eo:yM K mg "_law_seat_of" sSO ["_law_states","_law_asker"]:=yK X G dj (λ_ _ _ _ _ _=>us2 λ_ _=>rfl)
 have ep:yM K mg "_law_numbered" sLN ["_law_told_here","_law_right"]:=yK X G dk (λ_ _ _ _ _ _=>us2 λ_ _=>rfl)
 have er:yM K mg "_law_good_deeds" sGd ["_law_states","_law_askers","_law_neighbours"]:=yK X G dm (λ_ _ _ _ _ _=>us3 λ_ _ _=>rfl)
 have es:yM K mg "_law_done" sDn ["_law_states","_law_deed"]:=yK X G dn (λ_ _ _ _ _ _=>us2 λ_ _=>rfl)
 have c7:yM K mg "_law_put" sPu ["_law_house","_law_deed"]:=yK X G dp (λ_ _ _ _ _ _=>us2 λ_ _=>rfl)
 have et:yM K mg "_law_odd" zD0 ["_law_source","_law_name"]:=yK X G dq (λ_ _ _ _ _ _=>us2 λ_ _=>rfl)
 have GK:yM K mg "_law_kinds" oM ["_law_e"]:=yK X G dr (λ_ _ _ _ _ _=>us1 λ_=>rfl)
 have eu:yM K mg "_law_look" sLk ["_law_house","_law_deed"]:=yK X G ds (λ_ _ _ _ _ _=>us2 λ_ _=>rfl)
 have ev:yM K mg "_law_refusal" sRe ["_law_house","_law_deed"]:=yK X G dt (λ_ _ _ _ _ _=>us2 λ_ _=>rfl)
 have ew:yM K mg "_law_is_name" zAN ["_law_thing"]:=yK X G du (λ_ _ _ _ _ _=>us1 λ_=>rfl)
 have ex:yM K mg "_law_is_right" sIR ["_law_thing","_law_many"]:=yK X G dv (λ_ _ _ _ _ _=>us2 λ_ _=>rfl)
 have ey:yM K mg "_law_why_asker" sWA ["_law_states","_law_deed"]:=yK X G dw (λ_ _ _ _ _ _=>us2 λ_ _=>rfl)
 have ez:yM K mg "_law_why" sWy ["_law_states","_law_neighbours","_law_deed"]:=yK X G dx (λ_ _ _ _ _ _=>us3 λ_ _ _=>rfl)
 have f0:yM K mg "_law_doors" sDs ["_law_source","_law_names_here","_law_many"]:=yK X G dy (λ_ _ _ _ _ _=>us3 λ_ _ _=>rfl)
 have FL:=rJ (st:=kI) lL cL kL
 have ba:Cls K CS:=⟨q.pg,q.hd,q.po,q.sa⟩
 obtain ⟨ca,cb,cc,_,_,_,_,_,_,_,_,_,cf,cg,ch⟩:=bf
 have cj:=rJ (st:=eZ) cf cg ch
 have f3:=cj.binds (ps:=["self","arrow"]) (λ_ _ _ _ _ _=>us2 λ_ _=>rfl)
 have f4:Mk K CS ca:=⟨q.ms,cb,cc,q.kc⟩
 have mA:yS K CS "arrow" "Seat.arrow" kJ ["self"]:=yY bg (λ_ _ _ _ _ _=>us1 λ_=>rfl)
 have mR:yS K CS "row" "Seat.row" zDZ ["self"]:=yY bh (λ_ _ _ _ _ _=>us1 λ_=>rfl)
 have f5:yS K CS "inside" "Seat.inside" pT ["self"]:=yY bi (λ_ _ _ _ _ _=>us1 λ_=>rfl)
 have mH:yS K CS "has_asked" "Seat.has_asked" zD1 ["self"]:=yY bj (λ_ _ _ _ _ _=>us1 λ_=>rfl)
 have f6:yS K CS "askers" "Seat.askers" sSA ["self"]:=yY bk (λ_ _ _ _ _ _=>us1 λ_=>rfl)
 have fb:yS K CS "crowd" "Seat.crowd" sCr ["self"]:=yY bm (λ_ _ _ _ _ _=>us1 λ_=>rfl)
 have mW:yS K CS "want" "Seat.want" eV ["self","asker"]:=yY bn (λ_ _ _ _ _ _=>us2 λ_ _=>rfl)
 have mL:yS K CS "leave" "Seat.leave" oK ["self","asker"]:=yY bo (λ_ _ _ _ _ _=>us2 λ_ _=>rfl)
 have mD:yS K CS "done" "Seat.done" j4 ["self","asker"]:=yY bp (λ_ _ _ _ _ _=>us2 λ_ _=>rfl)
 have mK:yS K CS "ask" "Seat.ask" zAU ["self","house"]:=yY ar (λ_ _ _ _ _ _=>us2 λ_ _=>rfl)
 have mC:yS K CS "come" "Seat.come" j5 ["self","house","back"]:=yY au (λ_ _ _ _ _ _=>us3 λ_ _ _=>rfl)
 have mM:yS K CS "move_on" "Seat.move_on" eX ["self"]:=yY av (λ_ _ _ _ _ _=>us1 λ_=>rfl)
 have mS:yS K CS "serve_first" "Seat.serve_first" kD ["self"]:=yY aw (λ_ _ _ _ _ _=>us1 λ_=>rfl)
 have bb:=PySem.W.mg_of X G q.a
 have ck:Cls K C:=⟨N.pg,N.hd,N.po,N.sa⟩
 obtain ⟨fc,fe,ff,_,_,_,_,_,_,_,_,_,fg,fh,fi⟩:=dz
 have cl:=rJ (st:=sHI) fg fh fi
 have fj:=cl.binds (ps:=["self","name","neighbours","arrows"]) (λ_ _ _ _ _ _=>us4 λ_ _ _ _=>rfl)
 have fk:Mk K C fc:=⟨N.ms,fe,ff,N.kc⟩
 have hA:yS K C "arrow" "House.arrow" zAS ["self","right"]:=yY e0 (λ_ _ _ _ _ _=>us2 λ_ _=>rfl)
 have hR:yS K C "row" "House.row" zAO ["self","right"]:=yY e1 (λ_ _ _ _ _ _=>us2 λ_ _=>rfl)
 have cm:yS K C "inside" "House.inside" zAP ["self","right"]:=yY e2 (λ_ _ _ _ _ _=>us2 λ_ _=>rfl)
 have hH:yS K C "has_asked" "House.has_asked" zAQ ["self","right"]:=yY e3 (λ_ _ _ _ _ _=>us2 λ_ _=>rfl)
 have fl:yS K C "askers" "House.askers" zAR ["self"]:=yY e4 (λ_ _ _ _ _ _=>us1 λ_=>rfl)
 have fm:yS K C "rights_wanted" "House.rights_wanted" sRW ["self"]:=yY e5 (λ_ _ _ _ _ _=>us1 λ_=>rfl)
 have cn:yS K C "right_of" "House.right_of" sRO ["self","asker"]:=yY e6 (λ_ _ _ _ _ _=>us2 λ_ _=>rfl)
 have fo:yS K C "best_right" "House.best_right" sBR ["self"]:=yY e7 (λ_ _ _ _ _ _=>us1 λ_=>rfl)
 have cp:yS K C "check_letter" "House.check_letter" sCL ["self","house","right"]:=yY e8 (λ_ _ _ _ _ _=>us3 λ_ _ _=>rfl)
 have hW:yS K C "want" "House.want" sHW ["self","asker","right"]:=yY bq (λ_ _ _ _ _ _=>us3 λ_ _ _=>rfl)
 have hL:yS K C "leave" "House.leave" sHL ["self","asker"]:=yY br (λ_ _ _ _ _ _=>us2 λ_ _=>rfl)
 have hD:yS K C "done" "House.done" sHD ["self","asker"]:=yY bs (λ_ _ _ _ _ _=>us2 λ_ _=>rfl)
 have hK:yS K C "ask" "House.ask" sHK ["self","house","right"]:=yY bt (λ_ _ _ _ _ _=>us3 λ_ _ _=>rfl)
 have hC:yS K C "come" "House.come" sHC ["self","house","right","back"]:=yY bu (λ_ _ _ _ _ _=>us4 λ_ _ _ _=>rfl)
 have cq:=PySem.W.mg_of X G N.a
 have b:Blt mg "isinstance":=⟨PySem.W.mg_none_of X G y⟩
 have a5:Blt mg "str":=⟨PySem.W.mg_none_of X G ax⟩
 have m:Blt mg "int":=⟨PySem.W.mg_none_of X G ay⟩
 have g:Blt mg "bool":=⟨PySem.W.mg_none_of X G ae⟩
 have c:Blt mg "len":=⟨PySem.W.mg_none_of X G z_len⟩
 have t:Blt mg "all":=⟨PySem.W.mg_none_of X G az⟩
 have d:Blt mg "range":=⟨PySem.W.mg_none_of X G a3⟩
 have f:Blt mg "list":=⟨PySem.W.mg_none_of X G z_list⟩
 have a6:Blt mg "tuple":=⟨PySem.W.mg_none_of X G a4⟩
 have a7:Blt mg "set":=⟨PySem.W.mg_none_of X G b0⟩
 have B:Blt mg "sorted":=⟨PySem.W.mg_none_of X G a0⟩
 have k:Blt mg "enumerate":=⟨PySem.W.mg_none_of X G E⟩
 have bc:Blt mg "min":=⟨PySem.W.mg_none_of X G b1⟩
 have A:Blt mg "ValueError":=⟨PySem.W.mg_none_of X G z⟩
 have L:Glo mg "LETTERS" (.str abc):=⟨_,PySem.W.mg_of X G Q,⟨_,rfl⟩⟩
 have n:Glo mg "LONGEST_NAME" (.int 8):=⟨_,PySem.W.mg_of X G p,⟨_,rfl⟩⟩
 refine ⟨PySem.W.fnOf "law" "law" (vG kI) (y8 kI) (zG kI) .none kV dc pm an cd ct,λs v=>.of_eq rfl,λbase _ _=>?_⟩
 have TS:xN K CS:=⟨ba,u,x,D,I⟩
 have T:y4 K C:=⟨ck,Y,J,O⟩
 have CI:=zH7 (P:=l.prog) (w:=w) (base:=base) GI b a5 c t L n
 have fp:=okWh (P:=l.prog) (w:=w) (base:=base) c3 b m g
 have bd:=zH5 ea CI
 have fq:=zIK eb CI b f t
 have fr:=zKY (P:=l.prog) (w:=w) (base:=base) ec c a7
 have fs:=okNb ed fq fr
 have ft:=zLK ee bd b f c t
 have a1:=okCk c4 fp
 have U:=zII c5 CI
 have af:=zIH ef CI
 have H:=okNu (P:=l.prog) (w:=w) (base:=base) eg
 have MS:=zEJ (P:=l.prog) (w:=w) (mg:=mg) (base:=base) TS mS c
 have MM:=zH8 TS mM MS
 have MA:=zEP (P:=l.prog) (w:=w) (mg:=mg) (base:=base) TS mA
 have MR:=zKZ (P:=l.prog) (w:=w) (mg:=mg) (base:=base) TS mR f
 have fu:=zBK (P:=l.prog) (w:=w) (mg:=mg) (base:=base) TS f5
 have fv:=zK6 (P:=l.prog) (w:=w) (mg:=mg) (base:=base) TS mH
 have fw:=okSA (P:=l.prog) (w:=w) (mg:=mg) (base:=base) TS f6
 have fx:=okCr (P:=l.prog) (w:=w) (mg:=mg) (base:=base) TS fb c
 have MW:=zH4 TS mW U MM
 have ML:=zEN TS mL U MM
 have MD:=zIF TS mD U MM
 have MK:=zLJ TS mK af MM
 have MC:=zIG TS mC af MM b g
 have fy:gB l.prog w K mg base CX0 2 CS "Seat" ["self","arrow"] (gK CS):=⟨_,_,zIA TS cj CI,f4,bb,f3⟩
 have MH:gB l.prog w K mg base CX0 4 C "House" ["self","name","neighbours","arrows"] (zHB K C CS):=⟨_,_,okHI T cl CI fs ft fy f,fk,cq,fj⟩
 have HA:=zLG T TS hA a1 MA c
 have HR:=zK8 T TS hR a1 MR c
 have HI:=zLB T TS cm a1 fu c
 have HH:=zLC T TS hH a1 fv c
 have cu:=zLF T TS fl fw B k
 have ag:=okRW T fm cu
 have ah:=okRO T cn U ag
 have fz:=okBR T TS fo fx MA bc k
 have ai:=okCL (CS:=CS) T cp bd a1 c
 have HW:=okHW T TS hW U a1 ag fz MW H c
 have HL:=okHL T TS hL ah ML H
 have HD:=okHD T TS hD ah MD H
 have HK:=okHK T TS hK ai MK H
 have HC:=okHC T TS hC ai MC H
 have CM:=zEM (P:=l.prog) (w:=w) (base:=base) GM
 have CD:=zBL (P:=l.prog) (w:=w) (base:=base) GD
 have CN:=zH6 GN CM
 have CC:=zIJ (P:=l.prog) (w:=w) (base:=base) GC c
 have g0:=zEK eh CN d
 have CA:=dM (P:=l.prog) (w:=w) (base:=base) ei b f a6 g c t d 5
 have CT:=okTo T GT HA HR HI HH d
 have g4:=okMd ej CD CN g0 c d
 have g5:=zEI (P:=l.prog) (w:=w) (base:=base) ek
 have g6:=zEL (P:=l.prog) (w:=w) (base:=base) el
 have g7:=zH9 em g6
 have g8:=okCh (P:=l.prog) (w:=w) (base:=base) en c d m
 have be:=okSO (P:=l.prog) (w:=w) (base:=base) eo c d
 have g9:=okLN (P:=l.prog) (w:=w) (base:=base) ep
 have ga:=okGd er be c d f
 have gb:=okDn es be g8 g7 g9
 have gc:=okPu T c7 HW HL HD HK HC
 obtain ⟨cs,a2⟩:∃ cs:Nat->Addr,cs=λi=>[x0,x1,x2,x3,x4,x5,x6,x7,x8,x9,ab,ac].getD i 0:=⟨_,rfl⟩
 have kn:Kn K mg cs:=by
  subst a2
  exact ⟨⟨_,PySem.W.mg_of X G bv,rfl⟩,⟨_,PySem.W.mg_of X G aj,rfl⟩,⟨_,PySem.W.mg_of X G bw,rfl⟩,⟨_,PySem.W.mg_of X G ak,rfl⟩,⟨_,PySem.W.mg_of X G al,rfl⟩,⟨_,PySem.W.mg_of X G ao,rfl⟩,⟨_,PySem.W.mg_of X G bx,rfl⟩,⟨_,PySem.W.mg_of X G bz,rfl⟩,⟨_,PySem.W.mg_of X G c0,rfl⟩,⟨_,PySem.W.mg_of X G c1,rfl⟩,⟨_,PySem.W.mg_of X G b2,rfl⟩,⟨_,PySem.W.mg_of X G b3,rfl⟩,λi j hi hj=>zG2 r hi hj,λi hi=>zG1 r hi,λi hi=>zI4 c2 hi⟩
 have gd:qH K mg "NoHouse" (cs 1):=by
  subst a2
  exact ⟨PySem.W.mg_of X G aj,lO r (i:=1) (by decide) (by decide)⟩
 have aa:qH K mg "NoAsker" (cs 3):=by
  subst a2
  exact ⟨PySem.W.mg_of X G ak,lO r (i:=3) (by decide) (by decide)⟩
 have cv:qH K mg "NoLetter" (cs 4):=by
  subst a2
  exact ⟨PySem.W.mg_of X G al,lO r (i:=4) (by decide) (by decide)⟩
 have gf:qH K mg "NoRight" (cs 5):=by
  subst a2
  exact ⟨PySem.W.mg_of X G ao,lO r (i:=5) (by decide) (by decide)⟩
 have hex:∀ i,i < 12->PySem.W.exmOne K (.ref (cs i)) (.ref aq)=some true:=by
  subst a2
  exact λi hi=>zG3 r hi
 have gg:=PySem.W.mg_of X G b4
 have gh:=zEH (P:=l.prog) (w:=w) (base:=base) c3 b m g
 have XA:=zEO c5 CI aa
 have XK:=zLH c4 gh gf
 have gi:=okSL TS mL U aa
 have gj:=okSD TS mD U aa
 have gk:=okSK TS mK af cv
 have gl:=okSC TS mC af cv b g
 have cw:=zK0 T cn XA ag aa
 have gn:=zK9 T TS hL cw ah gi H
 have gp:=zLD T TS hD cw ah gj H
 have gq:=zK7 T hW XA XK ag aa c
 have cx:=zLI (CS:=CS) T cp bd XK gd c
 have gr:=zLA T TS hK cx ai gk H
 have gs:=zLE T TS hC cx ai gl H
 have gu:=zK1 T c7 gq gn gp gr gs
 have gv:=zK3 T eu (zIE (CS:=CS) T hA XK c) (zIB (CS:=CS) T hR XK c) (zIC (CS:=CS) T cm XK c) (zID (CS:=CS) T hH XK c) gu
 have gw:=zBJ (P:=l.prog) (w:=w) (base:=base) kn GK b c d A
 have gx:=okRe ev gv gw gg hex
 have gy:=zK2 et CN c
 have cy:=zK5 (P:=l.prog) (w:=w) (base:=base) ew b a5 c t
 have cz:=okIR (P:=l.prog) (w:=w) (base:=base) ex b m g
 have gz:=okWA ey cy cz be c m
 have h0:=okWy ez gz cy cz c m b g
 have h1:=okDs f0 CN gy d f
 exact zK4 T FL CC CD CN g4 MH g5 ga gb gc CT CA cu h1 h0 gx c f d B a7
theorem walk {l:PySem.W.OpenLaw} {q:Program} {b:List Str} {i:(Str->Option Value)->Heap->Prop} {e:World->Heap->Prop} {d:DefRec} {K:Params->PySem.W.Frag} (j:l.most=some 63) (c:d.params.defaults=[])
  (m:∀ (w:World) (h:Heap),e w h->(K w.params).In h)
  (F:∀ (w:World) (mg:Str->Option Value) (g:Addr) (h:Heap),(K w.params).In h->h.Ns mainGlobals mg->mg d.name=some (.ref g) ->
   ∃ fd:FuncData,(∀ (s:Shared) (u:Value),BindsTo s fd ⟨[u],[]⟩ [("_law_script",u)])/\∀ base:Heap,(K w.params).In base->base.Ns mainGlobals mg->tH l.prog w (K w.params) mg base CX0 9 g fd ["_law_script"] (eR (K w.params))) :
  PySem.W.WalkO q b i e l.row.toRowW d [] (λf vs=>PySem.call f vs):=
 L2.walk_of (n:=63) (k:=9) (x:="_law_script") (CX:=λ_=>CX0) (sp:=λw=>eR (K w.params)) j (by decide) c ⟨rfl,by decide,by decide⟩ m F (λ_ _ a o p _ r=>⟨a,o,rfl,r,p,λ_=>rfl⟩) λ_ _ _ _ _ z=>z
end K25
open PySem PySem.W PyProof.Rows
set_option maxRecDepth 100000 in
set_option maxHeartbeats 0 in
theorem PySem.Challenge.cw_treeright_k25_refused_at_all_doors_holds : PySem.Challenge.rw_treeright_k25_refused_at_all_doors.Holds := by
 refine head ?_
 k_fill
 refine K25.walk (l:=PySem.Challenge.rw_treeright_k25_refused_at_all_doors) rfl rfl (λw h Y=>PySem.W.kIn_of Y) ?F
 case F=>
  intro w mg fa h KX G hmg
  refine' K25.all_mk KX G hmg ?l0 ?l1 ?l2 ?l3 ?l4 ?l5 ?l6 ?l7 ?l8 ?l9 ?l10 ?l11 ?l12 ?l13 ?l14 ?l15 ?l16 ?l17 ?l18 ?l19 ?l20 ?l21 ?l22 ?l23 ?l24 ?l25 ?l26 ?l27 ?l28 ?l29 ?l30 ?l31 ?l32 ?l33 ?l34 ?l35 ?l36 ?aL ?lL ?k_CS ?mCS0 ?mCS1 ?mCS2 ?mCS3 ?mCS4 ?mCS5 ?mCS6 ?mCS7 ?mCS8 ?mCS9 ?mCS10 ?mCS11 ?mCS12 ?mCS13 ?n_CS_pointer ?n_CS_waiting ?n_CS_holder ?n_CS_asked ?k_C ?mC0 ?mC1 ?mC2 ?mC3 ?mC4 ?mC5 ?mC6 ?mC7 ?mC8 ?mC9 ?mC10 ?mC11 ?mC12 ?mC13 ?mC14 ?n_C_name ?n_C_nearby ?n_C_seats ?z_isinstance ?z_str ?z_int ?z_bool ?z_len ?z_all ?z_range ?z_list ?z_tuple ?z_set ?z_sorted ?z_enumerate ?z_min ?z_ValueError ?g_LETTERS ?g_LONGEST_NAME ?aX_0 ?aX_1 ?aX_2 ?aX_3 ?aX_4 ?aX_5 ?aX_6 ?aX_7 ?aX_8 ?aX_9 ?aX_10 ?aX_11 ?aX_12 ?xtab ?xall
  (case aL=>k_is)
  (case lL=>exact ⟨_,_,_,_,_,_,_,_,_,by k_is,by k_is,by k_is⟩)
  (case l0 | l1 | l2 | l3 | l4 | l5 | l6 | l7 | l8 | l9 | l10 | l11 | l12 | l13 | l14 | l15 | l16 | l17 | l18 | l19 | l20 | l21 | l22 | l23 | l24 | l25 | l26 | l27 | l28 | l29 | l30 | l31 | l32 | l33 | l34 | l35 | l36=>exact ⟨_,by k_is,_,_,_,_,_,_,_,_,_,by k_is,by k_is,by k_is⟩)
  (case k_CS | k_C=>exact ⟨by k_is,by k_is,by k_is,by k_is,by k_is,by k_is,by k_is⟩)
  (case mCS0 | mCS1 | mCS2 | mCS3 | mCS4 | mCS5 | mCS6 | mCS7 | mCS8 | mCS9 | mCS10 | mCS11 | mCS12 | mCS13 | mC0 | mC1 | mC2 | mC3 | mC4 | mC5 | mC6 | mC7 | mC8 | mC9 | mC10 | mC11 | mC12 | mC13 | mC14=>exact ⟨_,by k_is,by k_is,_,_,_,_,_,_,_,_,_,by k_is,by k_is,by k_is⟩)
  (case n_CS_pointer | n_CS_waiting | n_CS_holder | n_CS_asked | n_C_name | n_C_nearby | n_C_seats | z_isinstance | z_str | z_int | z_bool | z_len | z_all | z_range | z_list | z_tuple | z_set | z_sorted | z_enumerate | z_min | z_ValueError | g_LETTERS | g_LONGEST_NAME=>k_is)
  (case aX_0=>k_is)
  (case aX_1=>k_is)
  (case aX_2=>k_is)
  (case aX_3=>k_is)
  (case aX_4=>k_is)
  (case aX_5=>k_is)
  (case aX_6=>k_is)
  (case aX_7=>k_is)
  (case aX_8=>k_is)
  (case aX_9=>k_is)
  (case aX_10=>k_is)
  (case aX_11=>k_is)
  (case aX_12=>k_is)
  (case xtab=>kernel_rfl)
  (case xall=>kernel_rfl)
