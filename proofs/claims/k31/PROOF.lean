import PyProof.Rows.All
import Wide.All
import OpenK.AllK
import Wide.FinOn
import Lean
import PyProof.EqAt
import PyProof.EqKinds
import PyProof.TupleCall
import PyProof.NeKinds
import PyProof.IsiPairs
import PyProof.EnumMake
import PyProof.Draws
import PyProof.CompFree
import PyProof.CompUse
import PyProof.ConsumeWalk
import PyProof.NeData
import PyProof.P3In
import PyProof.Rows.ReprR
import PyProof.ZipIter
import PyProof.MinMaxWalk
import PyProof.Rows.TupAdd
import PyProof.ListMulRoad
import PyProof.FactsAll.tuple_2
import PyProof.Rows.FStr
import PyProof.StrCalls2
import PyProof.Rows.StrWeight2
import PyProof.Rows.StrSplitJoin
import PyProof.Rows.TupIter
import PyProof.Rows.SortStr
import KE.KSortTup
import PyProof.Rows.SortWalkRead
import PyProof.ListRange
import PyProof.TupleOfGen
import PySem.Challenge.RW_hearsaybook_k31_letters_in_order
set_option Elab.async false
set_option linter.all false
set_option maxRecDepth 100000
namespace L2
open PySem PySem.Spec PyProof.Rows
abbrev Key:=Sum Int Str
def ZNn:Key->Value->Bool
 | .inl k,v=>Value.isInt k v
 | .inr x,v=>Value.isStrOf x v
def keyH (w:World):Key->Int
 | .inl k=>hashInt k
 | .inr x=>hashStr w x
theorem ZAS:∀ {k:Key} {v:Value},ZNn k v=true->(∃ i t,k=Sum.inl i/\v=Value.int i t) ∨ (∃ x t,k=Sum.inr x/\v=Value.str x t)
 | .inl i,v,h=>by
  obtain ⟨t,e⟩:=Value.isInt_shape (k:=i) (v:=v) h
  exact .inl ⟨i,t,rfl,e⟩
 | .inr x,v,h=>by
  obtain ⟨t,e⟩:=Value.isStrOf_shape (x:=x) (v:=v) h
  exact .inr ⟨x,t,rfl,e⟩
theorem ZN1 (a b:Int):decide ((Sum.inl a:Key)=Sum.inl b)=(a == b):=by
 by_cases e:a=b
 ·subst e; simp
 ·have h : ¬ (Sum.inl a:Key)=Sum.inl b:=λ q=>e (Sum.inl.inj q)
  rw [decide_eq_false h]
  exact (beq_eq_false_iff_ne.mpr e).symm
theorem ZOI (a b:Str):decide ((Sum.inr a:Key)=Sum.inr b)=decide (a=b):=by
 by_cases e:a=b
 ·subst e; simp
 ·have h : ¬ (Sum.inr a:Key)=Sum.inr b:=λ q=>e (Sum.inr.inj q)
  rw [decide_eq_false h,decide_eq_false e]
theorem ZNw (a:Int) (b:Str):decide ((Sum.inl a:Key)=Sum.inr b)=false:=decide_eq_false (λ q=>nomatch q)
theorem ZN5 (a:Str) (b:Int):decide ((Sum.inr a:Key)=Sum.inl b)=false:=decide_eq_false (λ q=>nomatch q)
def ZJb (prog:Program) (w:World):PySem.KeyKind prog w Key where
 is:=ZNn
 hash:=keyH w
 inj:=λ v a b ha hb=>by
  rcases ZAS ha with ⟨i,t,rfl,rfl⟩ | ⟨x,t,rfl,rfl⟩
  ·rcases ZAS hb with ⟨j,u,rfl,e⟩ | ⟨y,u,rfl,e⟩
   ·injection e with e1 _; rw [e1]
   ·exact nomatch e
  ·rcases ZAS hb with ⟨j,u,rfl,e⟩ | ⟨y,u,rfl,e⟩
   ·exact nomatch e
   ·injection e with e1 _; rw [e1]
 byValue:=λ k v h=>by
  rcases ZAS h with ⟨i,t,rfl,rfl⟩ | ⟨x,t,rfl,rfl⟩ <;> rfl
 pyHash:=λ hv h=>by
  rcases ZAS hv with ⟨i,t,rfl,rfl⟩ | ⟨x,t,rfl,rfl⟩
  ·exact wpAny_pyHash_int h
  ·exact wpAny_pyHash_str h
 eqBool:=λ hu hv h=>by
  rcases ZAS hu with ⟨i,t,rfl,rfl⟩ | ⟨x,t,rfl,rfl⟩
  ·rcases ZAS hv with ⟨j,u,rfl,rfl⟩ | ⟨y,u,rfl,rfl⟩
   ·rw [ZN1] at h; exact wpAny_eqBool_int h
   ·rw [ZNw] at h; exact SeqAt.EqAt.int_str i t y u _ _ _ _ h
  ·rcases ZAS hv with ⟨j,u,rfl,rfl⟩ | ⟨y,u,rfl,rfl⟩
   ·rw [ZN5] at h; exact SeqAt.EqAt.str_int x t j u _ _ _ _ h
   ·rw [ZOI] at h; exact wpAny_eqBool_str h
 «strs»:=λ k x t v h=>by
  rcases ZAS h with ⟨i,u,rfl,e⟩ | ⟨y,u,rfl,e⟩
  ·exact nomatch e
  ·injection e with e1 _
   subst e1
   cases v <;> rfl
end L2
namespace L2
open PySem PySem.Spec PyProof.Rows
inductive V where
 | non | bl (b:Bool) | int (i:Int) | str (x:Str) | byt (b:Array UInt8) | flt (b:UInt64) | ref (a:Addr) | ty (n:String)
 deriving DecidableEq
def Z8:V->Value->Prop
 | .non,u=>u=Value.none
 | .bl b,u=>u=Value.bool b
 | .int i,u=>∃ t,u=Value.int i t
 | .str x,u=>∃ t,u=Value.str x t
 | .byt b,u=>∃ t,u=Value.bytes b t
 | .flt b,u=>∃ t,u=Value.float b t
 | .ref a,u=>u=Value.ref a
 | .ty n,u=>u=Value.type n
abbrev Zp:List V->List Value->Prop:=Paired Z8
theorem Zp.length {xs:List V} {us:List Value} (r:Zp xs us):xs.length=us.length:=Paired.length r
theorem Zp.get:∀ {xs:List V} {us:List Value} {i:Nat} {x:V},Zp xs us->xs[i]? = some x->∃ u,us[i]? = some u/\Z8 x u
 | _,_,_,_,.nil,e=>by simp at e
 | _,_,0,_,.cons r _,e=>by simp at e; subst e; exact ⟨_,rfl,r⟩
 | _,_,i+1,x,.cons _ t,e=>by
  obtain ⟨u,h1,h2⟩:=Zp.get (i:=i) (x:=x) t (by simpa using e)
  exact ⟨u,by simpa using h1,h2⟩
theorem Zp.set {x:V} {u:Value} (r:Z8 x u):∀ {xs:List V} {us:List Value} (i:Nat),Zp xs us->Zp (xs.set i x) (us.set i u)
 | _,_,_,.nil=>.nil
 | _,_,0,.cons _ t=>.cons r t
 | _,_,i+1,.cons q t=>.cons q (Zp.set r i t)
theorem Zp.append:∀ {xs ys:List V} {us ws:List Value},Zp xs us->Zp ys ws->Zp (xs ++ ys) (us ++ ws)
 | _,_,_,_,.nil,s=>s
 | _,_,_,_,.cons r t,s=>.cons r (Zp.append t s)
theorem Zp.take:∀ {xs:List V} {us:List Value} (n:Nat),Zp xs us->Zp (xs.take n) (us.take n)
 | _,_,0,_=>.nil
 | _,_,_+1,.nil=>.nil
 | _,_,n+1,.cons r t=>.cons r (Zp.take n t)
theorem Zp.drop:∀ {xs:List V} {us:List Value} (n:Nat),Zp xs us->Zp (xs.drop n) (us.drop n)
 | _,_,0,r=>r
 | _,_,_+1,.nil=>.nil
 | _,_,n+1,.cons _ t=>Zp.drop n t
def ZGL:Option V->Option Value->Prop
 | some v,some u=>Z8 v u
 | none,none=>True
 | _,_=>False
def KV {κ : Type}:List (κ × V)->List (κ × Value)->Prop:=Paired λ (p : κ × V) (q : κ × Value)=>p.1=q.1/\Z8 p.2 q.2
def kV:Key->V
 | .inl i=>.int i
 | .inr x=>.str x
inductive HO where
 /-- a list -/
 | lst (xs:List V)
 /-- a tuple (never changes) -/
 | tup (xs:List V)
 /-- a dict whose keys are ints and texts; one whose keys are tuples of ints and texts (the empty one is both) -/
 | dK (kvs:List (Key × V)) | dT (kvs:List (List Key × V))
 /-- a set of ints: its members,its size -/
 | set (S:Int->Bool) (n:Nat)
 /-- an instance of the class at C,its dict at dx,its attributes -/
 | ins (C dx:Addr) (fs:List (Str × V))
 /-- the dict of the instance at x -/
 | own (x:Addr)
 /-- the dict of an exception -/
 | xd (fs:List (Str × V))
 /-- a bound method,f of x -/
 | met (f x:Addr)
 /-- a range object lo,lo+1,.. below hi -/
 | rng (lo hi:Int)
 /-- a thing that is known to the object (the script; a dict while a loop walks it): read,never written while it is so -/
 | frz (o:Obj) (u:HO)
 /-- a code object's table -/
 | tbl (ps:Array Value)
 /-- any other thing,by what is true of its one object (a def of one's own: SetO a S n:=HO.ext λ h=>..) -/
 | ext (φ : Heap->Prop)
abbrev Hp:=Addr->Option HO
def upd (H:Hp) (a:Addr) (o:HO):Hp:=λ b=>if b=a then some o else H b
theorem Zo {H:Hp} {a:Addr} {o:HO}:upd H a o a=some o:=by unfold upd; rw [if_pos rfl]
theorem Zb {H:Hp} {a b:Addr} {o:HO} (h:b ≠ a):upd H a o b=H b:=by unfold upd; rw [if_neg h]
theorem Zf {H:Hp} {a b:Addr} {o:HO} (h:H a=some o) (h':H b=none):a ≠ b:=by
 intro e; subst e; rw [h] at h'; cases h'
section
variable (P:Program) (w:World)
def ZCD (H:Hp) (h:Heap) (a:Addr):HO->Prop
 | .lst xs=>xs.length<=sizeLine/\∃ (its:List Value) (n:Nat),Zp xs its/\h.get? a=some { cls:=.type "list",data:=.seq its.toArray n }
 | .tup xs=>xs.length<=sizeLine/\∃ its:List Value,Zp xs its/\IsTup h a its.toArray
 | .dK kvs=>kvs.length<=sizeLine/\(a == sysModules)=false/\∃ vs,KV kvs vs/\h.DictOf (ZJb P w) a vs
 | .dT kvs=>kvs.length<=sizeLine/\(a == sysModules)=false/\∃ xs:List (List Key × Addr × Value),
   Paired (λ (p:List Key × V) (q:List Key × Addr × Value)=>p.1=q.1/\H q.2.1=some (.tup (p.1.map kV))/\Z8 p.2 q.2.2) kvs xs /\
   ∃ o es ep,h.get? a=some o/\o.ExactDict/\o.data=.dict es ep/\es.toList=xs.map (entryOfKey (tupleKind (ZJb P w)))/\(xs.map (·.1)).Nodup
 | .set S n=>h.SetOf (intKind P w) a S n
 | .ins C dx fs=>H dx=some (.own a)/\fs.length<=1000/\dx ≠ a/\h.get? a=some (PySem.W.instObj C dx) /\
   ∃ mA,h.Ns1 dx mA/\(∀ f,ZGL (fs.lookup f) (mA f))/\PySem.Within mA (fs.map (·.1))
 | .own _=>∃ o,h.get? a=some o
 | .xd fs=>∃ mA,h.Ns1 a mA/\∀ f,ZGL (fs.lookup f) (mA f)
 | .rng lo hi=>∃ t u v,h.get? a=some { cls:=.type "range",data:=.fields #[.int lo t,.int hi u,.int 1 v] }
 | .frz o u=>h.get? a=some o/\ZCD H h a u
 | .tbl ps=>h.get? a=some { cls:=.none,data:=.fields ps }
 | .met f x=>h.get? a=some (PySem.W.methodObj (.ref f) (.ref x))
 | .ext φ=>φ h/\(∃ o,h.get? a=some o)/\∀ h1 h2:Heap,φ h1->(∀ o,h1.get? a=some o->h2.get? a=some o)->φ h2
def HOk (H:Hp) (h:Heap):Prop:=∀ a o,H a=some o->ZCD P w H h a o
end
section
variable {P:Program} {w:World} {H H':Hp} {h h':Heap} {a:Addr} {o:HO}
theorem ZCD.lt (x:ZCD P w H h a o):a < h.objs.size:=by
 cases o with
 | lst xs=>obtain ⟨_,_,_,_,e⟩:=x; exact Heap.lt_size e
 | tup xs=>obtain ⟨_,_,_,p⟩:=x; exact p.lt
 | dK kvs=>obtain ⟨_,_,_,_,o,_,_,e,_⟩:=x; exact Heap.lt_size e
 | dT kvs=>obtain ⟨_,_,_,_,o,_,_,e,_⟩:=x; exact Heap.lt_size e
 | set S n=>obtain ⟨o,_,_,_,e,_⟩:=x; exact Heap.lt_size e
 | ins C dx fs=>obtain ⟨_,_,_,e,_⟩:=x; exact Heap.lt_size e
 | own y=>obtain ⟨_,e⟩:=x; exact Heap.lt_size e
 | xd fs=>obtain ⟨_,⟨_,_,_,e,_⟩,_⟩:=x; exact Heap.lt_size e
 | rng lo hi=>obtain ⟨_,_,_,e⟩:=x; exact Heap.lt_size e
 | frz ob u=>obtain ⟨e,_⟩:=x; exact Heap.lt_size e
 | tbl ps=>exact Heap.lt_size (show h.get? a=some _ from x)
 | met f y=>exact Heap.lt_size (show h.get? a=some _ from x)
 | ext φ=>obtain ⟨_,⟨_,e⟩,_⟩:=x; exact Heap.lt_size e
theorem Paired.mapP {α β : Type} {F G : α->β->Prop}:∀ {l₁ : List α} {l₂ : List β},Paired F l₁ l₂->(∀ a b,F a b->G a b)->Paired G l₁ l₂
 | _,_,.nil,_=>.nil
 | _,_,.cons r t,f=>.cons (f _ _ r) (Paired.mapP t f)
theorem ZCD.stay (x:ZCD P w H h a o) (k:∀ b u,(b=a ∨ H b=some (.own a))->h.get? b=some u->h'.get? b=some u)
  (ho:∀ b,H b=some (.own a)->H' b=some (.own a)) (ht:∀ b xs,H b=some (.tup xs)->H' b=some (.tup xs)):ZCD P w H' h' a o:=by
 induction o with
 | lst xs=>obtain ⟨z,its,n,r,e⟩:=x; exact ⟨z,its,n,r,k _ _ (.inl rfl) e⟩
 | tup xs=>obtain ⟨z,its,r,ob,e,c⟩:=x; exact ⟨z,its,r,ob,k _ _ (.inl rfl) e,c⟩
 | dK kvs=>obtain ⟨z,y,vs,r,ob,es,ep,e,c⟩:=x; exact ⟨z,y,vs,r,ob,es,ep,k _ _ (.inl rfl) e,c⟩
 | dT kvs =>
  obtain ⟨z,y,xs,r,ob,es,ep,e,c⟩:=x
  exact ⟨z,y,xs,Paired.mapP r λ p q z=>⟨z.1,ht _ _ z.2.1,z.2.2⟩,ob,es,ep,k _ _ (.inl rfl) e,c⟩
 | set S n=>obtain ⟨ob,es,ep,t,e,c⟩:=x; exact ⟨ob,es,ep,t,k _ _ (.inl rfl) e,c⟩
 | ins C dx fs =>
  obtain ⟨d,z,ne,e,mA,⟨od,es,ep,e2,c⟩,r⟩:=x
  exact ⟨ho _ d,z,ne,k _ _ (.inl rfl) e,mA,⟨od,es,ep,k _ _ (.inr d) e2,c⟩,r⟩
 | own y=>obtain ⟨ob,e⟩:=x; exact ⟨ob,k _ _ (.inl rfl) e⟩
 | xd fs=>obtain ⟨mA,⟨od,es,ep,e,c⟩,r⟩:=x; exact ⟨mA,⟨od,es,ep,k _ _ (.inl rfl) e,c⟩,r⟩
 | rng lo hi=>obtain ⟨t,u,v,e⟩:=x; exact ⟨t,u,v,k _ _ (.inl rfl) e⟩
 | frz ob u ih=>obtain ⟨e,q⟩:=x; exact ⟨k _ _ (.inl rfl) e,ih q⟩
 | tbl ps =>
  have e:h.get? a=some { cls:=.none,data:=.fields ps }:=x
  show h'.get? a=some { cls:=.none,data:=.fields ps }
  exact k a _ (.inl rfl) e
 | met f y =>
  have e:h.get? a=some (PySem.W.methodObj (.ref f) (.ref y)):=x
  show h'.get? a=some (PySem.W.methodObj (.ref f) (.ref y))
  exact k a _ (.inl rfl) e
 | ext φ=>obtain ⟨p,⟨o,e⟩,st⟩:=x; exact ⟨st _ _ p λ o q=>k _ _ (.inl rfl) q,⟨o,k _ _ (.inl rfl) e⟩,st⟩
theorem HOk.lt (x:HOk P w H h) (e:H a=some o):a < h.objs.size:=(x a o e).lt
theorem HOk.fresh (x:HOk P w H h) (e:h.objs.size<=a):H a=none:=by
 cases q:H a with
 | none=>rfl
 | some u=>exact absurd (Nat.lt_of_lt_of_le (x.lt q) e) (Nat.lt_irrefl _)
theorem HOk.kept (x:HOk P w H h) (k:∀ b u,h.get? b=some u->h'.get? b=some u):HOk P w H h':=λ a o e =>
 (x a o e).stay (λ b u _ q=>k b u q) (λ _ q=>q) λ _ _ q=>q
theorem HOk.laid (x:HOk P w H h) (k:∀ b u,h.get? b=some u->h'.get? b=some u) (hp:h.objs.size<=a) (new:ZCD P w (upd H a o) h' a o):HOk P w (upd H a o) h':=λ b u e=>by
 have hn:=x.fresh hp
 by_cases hb:b=a
 ·subst hb; rw [Zo] at e; cases e; exact new
 ·rw [Zb hb] at e
  exact (x b u e).stay (λ c v _ q=>k c v q) (λ c q=>by rw [Zb (Zf q hn)]; exact q) λ c xs q=>by rw [Zb (Zf q hn)]; exact q
end
def Rd (H:Hp) (a:Addr) (u:HO):Prop:=H a=some u ∨ ∃ o,H a=some (.frz o u)
theorem Rd.ok {P:Program} {w:World} {H:Hp} {h:Heap} {a:Addr} {u:HO} (r:Rd H a u) (x:HOk P w H h):ZCD P w H h a u:=by
 rcases r with r | ⟨o,r⟩
 ·exact x a u r
 ·obtain ⟨_,q⟩:=x a _ r
  exact q
def Mut:Option HO->Prop
 | some (.lst _)=>True
 | some (.dK _)=>True
 | some (.dT _)=>True
 | some (.set _ _)=>True
 | some (.ins _ _ _)=>True
 | some (.ext _)=>True
 | _=>False
section
variable {P:Program} {w:World} {H:Hp} {h h':Heap} {x e:Addr} {o':HO}
theorem HOk.write (ok:HOk P w H h) (mu:Mut (H x)) (he:e=x ∨ H e=some (.own x)) (k:∀ b u,b ≠ e->h.get? b=some u->h'.get? b=some u) (heo:∃ u,h'.get? e=some u)
  (new:ZCD P w (upd H x o') h' x o'):HOk P w (upd H x o') h':=λ b u q=>by
 have nown:∀ c y,H c=some (.own y)->c ≠ x:=λ c y r z=>by subst z; rw [r] at mu; exact mu
 have ntup:∀ c xs,H c=some (.tup xs)->c ≠ x:=λ c xs r z=>by subst z; rw [r] at mu; exact mu
 by_cases hb:b=x
 ·subst hb; rw [Zo] at q; cases q; exact new
 ·rw [Zb hb] at q
  by_cases hbe:b=e
  ·have q':H b=some (.own x):=by
    rcases he with z | z
    ·exact absurd (hbe.trans z) hb
    ·rw [hbe]; exact z
   rw [q] at q'; cases q'
   obtain ⟨v,hv⟩:=heo
   exact ⟨v,by rw [hbe]; exact hv⟩
  ·refine (ok b u q).stay (λ c v hc r=>k c v ?_ r) (λ c r=>by rw [Zb (nown c b r)]; exact r) λ c xs r=>by rw [Zb (ntup c xs r)]; exact r
   rcases hc with rfl | hc
   ·exact hbe
   ·rintro rfl
    rcases he with z | z
    ·exact nown c b hc z
    ·rw [hc] at z; cases z; exact hb rfl
end
structure Un (fs ex:List Addr) (H H':Hp) (h h':Heap):Prop where
 keep:∀ b o,h.get? b=some o->H b=none->b ∉ fs->b ∉ ex->h'.get? b=some o
 slot:∀ b o,h.get? b=some o->H b=none->b ∈ fs->b ∉ ex->∃ sl,h'.get? b=some { o with slots:=sl }
 free:∀ b o,h.get? b=some o->H b=none->b ∉ ex->H' b=none
 there:∀ b o,h.get? b=some o->b ∉ ex->∃ o',h'.get? b=some o'
 tups:∀ b xs,H b=some (.tup xs)->H' b=some (.tup xs)
 frzs:∀ b o u,H b=some (.frz o u)->H' b=some (.frz o u)
 tbls:∀ b ps,H b=some (.tbl ps)->∃ more,H' b=some (.tbl (ps ++ more))
section
variable {fs fs' ex ex':List Addr} {H H1 H2:Hp} {h h1 h2 h':Heap} {a x e:Addr} {o:HO}
theorem Un.any (u:Un fs ex H H1 h h1) {b:Addr} {ob:Obj} (q:h.get? b=some ob) (n:H b=none) (hx:b ∉ ex):∃ sl,h1.get? b=some { ob with slots:=sl }:=by
 by_cases hb:b ∈ fs
 ·exact u.slot b ob q n hb hx
 ·exact ⟨ob.slots,u.keep b ob q n hb hx⟩
theorem Un.kept (k:∀ b u,h.get? b=some u->h'.get? b=some u):Un fs ex H H h h' :=
 ⟨λ b ob q _ _ _=>k b ob q,λ b ob q _ _ _=>⟨ob.slots,k b ob q⟩,λ _ _ _ n _=>n,λ b ob q _=>⟨ob,k b ob q⟩,λ _ _ q=>q,λ _ _ _ q=>q,λ _ ps q=>⟨#[],by rw [q]; simp⟩⟩
theorem Un.refl:Un fs ex H H h h:=Un.kept λ _ _ q=>q
theorem Un.laid (k:∀ b u,h.get? b=some u->h'.get? b=some u) (hp:h.objs.size<=a) (hn:H a=none):Un fs ex H (upd H a o) h h' where
 keep:=λ b u q _ _ _=>k b u q
 slot:=λ b u q _ _ _=>⟨u.slots,k b u q⟩
 free:=λ b u q n _=>by rw [Zb (Nat.ne_of_lt (Nat.lt_of_lt_of_le (Heap.lt_size q) hp))]; exact n
 there:=λ b u q _=>⟨u,k b u q⟩
 tups:=λ b xs q=>by rw [Zb (Zf q hn)]; exact q
 frzs:=λ b u xs q=>by rw [Zb (Zf q hn)]; exact q
 tbls:=λ b ps q=>⟨#[],by rw [Zb (Zf q hn),q]; simp⟩
theorem Un.write (mu:Mut (H x)) (he:e=x ∨ H e=some (.own x)) (k:∀ b u,b ≠ e->h.get? b=some u->h'.get? b=some u) (heo:∃ u,h'.get? e=some u):Un fs ex H (upd H x o) h h':=by
 have hx:∀ b,H b=none->b ≠ x:=λ b n z=>by subst z; rw [n] at mu; exact mu
 have hb:∀ b,H b=none->b ≠ e:=λ b n z=>by
  subst z
  rcases he with r | r
  ·exact hx b n r
  ·rw [n] at r; cases r
 have hm:∀ b u,H b=some u->¬ Mut (some u)->b ≠ x:=λ b u q nm z=>by subst z; rw [q] at mu; exact nm mu
 refine ⟨λ b u q n _ _=>k b u (hb b n) q,λ b u q n _ _=>⟨u.slots,k b u (hb b n) q⟩,λ b u q n _=>by rw [Zb (hx b n)]; exact n,λ b u q _=>?_,
  λ b xs q=>by rw [Zb (hm b _ q λ z=>z)]; exact q,λ b u xs q=>by rw [Zb (hm b _ q λ z=>z)]; exact q,λ b ps q=>⟨#[],by rw [Zb (hm b _ q λ z=>z),q]; simp⟩⟩
 by_cases hbe:b=e
 ·subst hbe; exact heo
 ·exact ⟨u,k b u hbe q⟩
end
def trk (h:Heap) (H:Hp):List Addr:=(List.range h.objs.size).filter λ a=>(H a).isSome
def ZHa (h:Heap) (H:Hp):Heap:=PySem.W.hideAll h (trk h H)
theorem ZJ5 (h:Heap) (H:Hp):(ZHa h H).objs.size=h.objs.size:=PySem.W.hideAll_size _ _
theorem ZL2 {h:Heap} {H:Hp} {b:Addr} {o:Obj} (e:h.get? b=some o) (n:H b=none):(ZHa h H).get? b=some o :=
 PySem.W.hideAll_get _ e λ hm=>by
  have q:(H b).isSome=true:=(List.mem_filter.mp hm).2
  rw [n] at q; simp at q
theorem ZNJ {h:Heap} {H:Hp} {b:Addr} {o:Obj} (e:(ZHa h H).get? b=some o):h.get? b=some o/\H b=none:=by
 have e':h.get? b=some o:=PySem.W.of_hideAll (trk h H) e
 refine ⟨e',?_⟩
 cases q:H b with
 | none=>rfl
 | some x =>
  have hm:b ∈ trk h H:=List.mem_filter.mpr ⟨List.mem_range.mpr (Heap.lt_size e'),by simp [q]⟩
  have z:(ZHa h H).get? b=none:=PySem.W.hideAll_none (trk h H) hm
  rw [z] at e; cases e
end L2
namespace L2
open PySem PySem.Spec PyProof.Rows
structure Mod (K:PySem.W.Frag) (mg:Str->Option Value) (base:Heap):Prop where
 kin:K.In base
 glob:base.Ns mainGlobals mg
 blt:∃ mb,base.Ns builtinsNs mb/\∀ x:Str,x ≠ "__name__"->mb x=bootBuiltins x
 nolimit:base.NoLimit
structure Cx where
 prog:Program
 w:World
 K:PySem.W.Frag
 mg:Str->Option Value
 base:Heap
 A:Around
 N:List Str
 s₀ : Shared
 H₀ : Hp
 env:Env
 outer:List Env
 stack:List Env
 ex:List Addr
 fn:Str->Bool
 calm:Bool
 pn:List (Addr × Obj)
 xe:Value->Shared->Prop
def frs (l:List Env):List Addr:=l.filterMap (·.frame)
abbrev Cx.fs (X:Cx):List Addr:=frs X.outer
def Vis (sc:Scope) (x:Str):Prop:=sc.names.lookup x=some .local ∨ sc.names.lookup x=some .cell ∨ sc.names.lookup x=some .free
def Loc (sc:Scope) (x:Str):Prop:=sc.names.lookup x=some .local ∨ sc.names.lookup x=some .cell
def Look (env:Env) (h:Heap) (m:Str->Option Value) (x:Str) (u:Value):Prop :=
 (env.kindOf x=some .local/\m x=some u) ∨ ((env.kindOf x=some .cell ∨ env.kindOf x=some .free)/\∃ c,env.cells.lookup x=some c/\h.IsCell c (some u))
structure Cx.Ok (X:Cx):Prop where
 mod:Mod X.K X.mg X.base
 kind:X.env.scope.kind=.function
 glob:X.env.globals=mainGlobals
 blt:X.env.builtins=builtinsNs
 above:X.s₀.heap.objs.size<=X.env.locals
 inj:∀ x y c,X.env.cells.lookup x=some c->X.env.cells.lookup y=some c->x=y
 has:∀ x,(X.env.kindOf x=some .cell ∨ X.env.kindOf x=some .free)->∃ c,X.env.cells.lookup x=some c
 cab:∀ x c,X.fn x=true->X.env.cells.lookup x=some c->X.s₀.heap.objs.size<=c
 hd:X.calm=true->X.A.handled=none
 frames:X.A.frames=some X.stack
 stk:X.stack=X.outer ∨ (X.stack=X.env :: X.outer/\X.env.frame=some X.env.locals)
 exf:∀ b ∈ X.ex,b ≠ X.env.locals/\∀ x c,X.env.cells.lookup x=some c->c ≠ b
 bs:∀ b o,X.base.get? b=some o->X.s₀.heap.get? b=some o/\X.H₀ b=none
 bsz:X.base.objs.size<=X.s₀.heap.objs.size
 noex:∀ b o,X.base.get? b=some o->b ∉ X.ex
 exfs:∀ b ∈ X.ex,b ∉ X.fs
 funs:X.s₀.heap.FunFrames X.base X.outer
 frf:∀ b ∈ X.fs,X.H₀ b=none
structure Inv (X:Cx) (pins:List (Addr × Obj)) (σ : List (Option V)) (H:Hp) (s:Shared):Prop where
 ok:X.Ok
 os:s.os=X.s₀.os
 bare:AllBare s.gens
 base:Un X.fs X.ex X.H₀ H X.s₀.heap s.heap
 loc:∃ m,s.heap.Ns X.env.locals m/\∀ (i:Nat) (x:Str) (v:V),X.N[i]? = some x->σ[i]? = some (some v)->Vis X.env.scope x->∃ u,Z8 v u/\Look X.env s.heap m x u
 cell:∀ x c,X.env.cells.lookup x=some c->∃ v,s.heap.IsCell c v
 free:H X.env.locals=none
 freeC:∀ x c,X.env.cells.lookup x=some c->H c=none
 pin:∀ p ∈ X.pn ++ pins,s.heap.get? p.1=some p.2/\H p.1=none/\p.1 ≠ X.env.locals/\p.1 ∉ X.fs/\∀ v,p.2.data ≠ .cell v
 hok:HOk X.prog X.w H s.heap
 len : σ.length=X.N.length
section
variable {X:Cx} {pins:List (Addr × Obj)} {σ : List (Option V)} {H H':Hp} {s:Shared} {h':Heap}
theorem Cx.Ok.nofr (ok:X.Ok) {b:Addr} {o:Obj} (e:X.base.get? b=some o):b ∉ X.fs:=λ hb=>by
 have:=(ok.funs.mem hb).1
 rw [e] at this; cases this
theorem Inv.bs (I:Inv X pins σ H s):∀ b o,X.base.get? b=some o->s.heap.get? b=some o/\H b=none:=λ b o e =>
 ⟨I.base.keep b o (I.ok.bs b o e).1 (I.ok.bs b o e).2 (I.ok.nofr e) (I.ok.noex b o e),I.base.free b o (I.ok.bs b o e).1 (I.ok.bs b o e).2 (I.ok.noex b o e)⟩
theorem Inv.bk (I:Inv X pins σ H s):∀ b o,X.base.get? b=some o->s.heap.get? b=some o:=λ b o e=>(I.bs b o e).1
theorem Inv.mod (I:Inv X pins σ H s):Mod X.K X.mg X.base:=I.ok.mod
theorem Inv.kIn (I:Inv X pins σ H s):X.K.In s.heap:=I.ok.mod.kin.keeps I.bk
theorem Inv.lt (I:Inv X pins σ H s):X.env.locals < s.heap.objs.size:=let ⟨_,hn,_⟩:=I.loc; hn.lt
theorem Inv.sz (I:Inv X pins σ H s):X.s₀.heap.objs.size<=s.heap.objs.size:=Nat.le_trans I.ok.above (Nat.le_of_lt I.lt)
theorem Inv.nofs (I:Inv X pins σ H s) {a:Addr} (h:s.heap.objs.size<=a):a ∉ X.fs:=λ hb=>by
 obtain ⟨_,o,ho,_⟩:=I.ok.funs.mem hb
 exact absurd (Nat.lt_of_lt_of_le (Heap.lt_size ho) (Nat.le_trans I.sz h)) (Nat.lt_irrefl _)
theorem Inv.cne (I:Inv X pins σ H s):∀ x c,X.env.cells.lookup x=some c->c ≠ X.env.locals:=λ x c e z=>by
 obtain ⟨v,o,ho,hd⟩:=I.cell x c e
 obtain ⟨m,⟨o',es,ep,ho',hd',_⟩,_⟩:=I.loc
 rw [z,ho'] at ho; cases ho; rw [hd'] at hd; cases hd
theorem Inv.funs (I:Inv X pins σ H s):s.heap.FunFrames X.base X.outer:=by
 have all:∀ (l:List Env),(∀ b ∈ frs l,b ∈ X.fs)->X.s₀.heap.FunFrames X.base l->s.heap.FunFrames X.base l:=by
  intro l
  induction l with
  | nil=>intro _ _; trivial
  | cons env r ih =>
   intro hs hl
   obtain ⟨hk,⟨L,o,hf,hn,ho,hd⟩,hr⟩:=hl
   have hL:L ∈ X.fs:=hs L (by unfold frs; rw [List.filterMap_cons,hf]; exact List.mem_cons_self)
   obtain ⟨sl,e⟩:=I.base.slot L o ho (I.ok.frf L hL) hL λ z=>I.ok.exfs L z hL
   exact ⟨hk,⟨L,_,hf,hn,e,hd⟩,ih (λ b hb=>hs b (by unfold frs; rw [List.filterMap_cons,hf]; exact List.mem_cons_of_mem _ hb)) hr⟩
 exact all X.outer (λ _ hb=>hb) I.ok.funs
theorem Inv.stack (I:Inv X pins σ H s):s.heap.FunFrames X.base X.stack:=by
 rcases I.ok.stk with e | ⟨e,hf⟩
 ·rw [e]; exact I.funs
 ·rw [e]
  obtain ⟨m,hn,_⟩:=I.loc
  refine .cons (by rw [I.ok.kind]; decide) hf hn ?_ I.funs
  exact Heap.get?_none_of_le (Nat.le_trans I.ok.bsz I.ok.above)
theorem Inv.stkSub (I:Inv X pins σ H s):∀ b ∈ frs X.stack,b ∈ X.env.locals :: X.fs:=λ b hb=>by
 rcases I.ok.stk with e | ⟨e,hf⟩
 ·rw [e] at hb; exact List.mem_cons_of_mem _ hb
 ·rw [e] at hb
  unfold frs at hb
  rw [List.filterMap_cons,hf] at hb
  exact hb
theorem Inv.stkFree (I:Inv X pins σ H s):∀ b ∈ frs X.stack,H b=none:=λ b hb=>by
 rcases List.mem_cons.mp (I.stkSub b hb) with e | hb
 ·rw [e]; exact I.free
 ·obtain ⟨_,o,ho,_⟩:=I.ok.funs.mem hb
  exact I.base.free b o ho (I.ok.frf b hb) λ z=>I.ok.exfs b z hb
theorem Inv.step {g':Array GenState} {t':Nat} {d':Drawn} {ch:List Addr} (I:Inv X pins σ H s)
  (hch:∀ b ∈ ch,(b ∈ X.ex ∨ X.s₀.heap.objs.size<=b)/\b ≠ X.env.locals/\(∀ x c,X.env.cells.lookup x=some c->c ≠ b)/\∀ p ∈ X.pn ++ pins,p.1 ≠ b)
  (keep:∀ b o,b ≠ X.env.locals->b ∉ X.fs->b ∉ ch->s.heap.get? b=some o->H b=none->h'.get? b=some o)
  (slot:∀ b o,b ≠ X.env.locals->b ∈ X.fs->b ∉ ch->s.heap.get? b=some o->H b=none->∃ sl,h'.get? b=some { o with slots:=sl }) (free:∀ b o,b ∉ ch->s.heap.get? b=some o->H b=none->H' b=none)
  (there:∀ b o,b ∉ ch->s.heap.get? b=some o->∃ o',h'.get? b=some o')
  (tups:∀ b xs,H b=some (.tup xs)->H' b=some (.tup xs)) (frzs:∀ b o u,H b=some (.frz o u)->H' b=some (.frz o u)) (tbls:∀ b ps,H b=some (.tbl ps)->∃ more,H' b=some (.tbl (ps ++ more)))
  (ns:∀ m,s.heap.Ns X.env.locals m->h'.Ns X.env.locals m) (hok:HOk X.prog X.w H' h') (hg:AllBare g') :
  Inv X pins σ H' { s with heap:=h',gens:=g',drawn:=d',toks:=t' }:=by
 have neL:∀ b o,X.s₀.heap.get? b=some o->b ≠ X.env.locals:=λ b o e=>Nat.ne_of_lt (Nat.lt_of_lt_of_le (Heap.lt_size e) I.ok.above)
 have neC:∀ b o,X.s₀.heap.get? b=some o->b ∉ X.ex->b ∉ ch:=λ b o e hx hb=>by
  rcases (hch b hb).1 with z | z
  ·exact hx z
  ·exact absurd (Nat.lt_of_lt_of_le (Heap.lt_size e) z) (Nat.lt_irrefl _)
 have cellK:∀ x c,X.env.cells.lookup x=some c->∀ v,s.heap.IsCell c v->h'.IsCell c v:=λ x c e v ⟨o,ho,hd⟩=>by
  have nch:c ∉ ch:=λ z=>(hch c z).2.2.1 x c e rfl
  by_cases hc:c ∈ X.fs
  ·obtain ⟨sl,q⟩:=slot c o (I.cne x c e) hc nch ho (I.freeC x c e)
   exact ⟨_,q,hd⟩
  ·exact ⟨o,keep c o (I.cne x c e) hc nch ho (I.freeC x c e),hd⟩
 refine ⟨I.ok,I.os,hg,⟨λ b o e n hb hx=>?_,λ b o e n hb hx=>?_,λ b o e n hx=>?_,λ b o e hx=>?_,λ b xs e=>tups b xs (I.base.tups b xs e),λ b o xs e=>frzs b o xs (I.base.frzs b o xs e),λ b ps e=>?_⟩,?_,λ x c e=>?_,?_,λ x c e=>?_,λ p hp=>?_,hok,I.len⟩
 ·exact keep b o (neL b o e) hb (neC b o e hx) (I.base.keep b o e n hb hx) (I.base.free b o e n hx)
 ·obtain ⟨sl,e1⟩:=I.base.slot b o e n hb hx
  obtain ⟨sl',e2⟩:=slot b _ (neL b o e) hb (neC b o e hx) e1 (I.base.free b o e n hx)
  exact ⟨sl',e2⟩
 ·obtain ⟨o',e1⟩:=I.base.there b o e hx
  exact free b o' (neC b o e hx) e1 (I.base.free b o e n hx)
 ·obtain ⟨o',e1⟩:=I.base.there b o e hx
  exact there b o' (neC b o e hx) e1
 ·obtain ⟨m1,e1⟩:=I.base.tbls b ps e
  obtain ⟨m2,e2⟩:=tbls b _ e1
  exact ⟨m1 ++ m2,by rw [e2,Array.append_assoc]⟩
 ·obtain ⟨m,hn,hl⟩:=I.loc
  refine ⟨m,ns m hn,λ i x v e1 e2 e3=>?_⟩
  obtain ⟨u,r,l⟩:=hl i x v e1 e2 e3
  refine ⟨u,r,?_⟩
  rcases l with l | ⟨k,c,e,z⟩
  ·exact .inl l
  ·exact .inr ⟨k,c,e,cellK x c e _ z⟩
 ·obtain ⟨v,z⟩:=I.cell x c e
  exact ⟨v,cellK x c e v z⟩
 ·obtain ⟨m,⟨o,_,_,ho,_⟩,_⟩:=I.loc
  exact free _ o (λ z=>(hch _ z).2.1 rfl) ho I.free
 ·obtain ⟨v,o,ho,hd⟩:=I.cell x c e
  exact free c o (λ z=>(hch c z).2.2.1 x c e rfl) ho (I.freeC x c e)
 ·obtain ⟨e,n,ne,nf,d⟩:=I.pin p hp
  have nch:p.1 ∉ ch:=λ z=>(hch p.1 z).2.2.2 p hp rfl
  exact ⟨keep p.1 p.2 ne nf nch e n,free p.1 p.2 nch e n,ne,nf,d⟩
theorem Inv.un {t':Nat} (I:Inv X pins σ H s) (u:Un X.fs [] H H' s.heap h') (hok:HOk X.prog X.w H' h'):Inv X pins σ H' { s with heap:=h',toks:=t' }:=by
 obtain ⟨m,⟨o,es,ep,ho,r⟩,_⟩:=id I.loc
 obtain ⟨sl,hL⟩:=u.any ho I.free (by simp)
 exact I.step (g':=s.gens) (d':=s.drawn) (ch:=[]) (λ _ z=>nomatch z) (λ b o _ hb _ e n=>u.keep b o e n hb (by simp)) (λ b o _ hb _ e n=>u.slot b o e n hb (by simp)) (λ b o _ e n=>u.free b o e n (by simp)) (λ b o _ e=>u.there b o e (by simp)) u.tups u.frzs u.tbls (λ m' hm=>by
  obtain ⟨o',es',ep',ho',r'⟩:=hm
  rw [ho] at ho'; cases ho'
  exact ⟨_,es',ep',hL,r'⟩) hok I.bare
theorem Inv.call {g':Array GenState} {t':Nat} {d':Drawn} {ch:List Addr} (I:Inv X pins σ H s) (u:Un (frs X.stack) ch H H' s.heap h') (hok:HOk X.prog X.w H' h') (hg:AllBare g')
  (hch:∀ b ∈ ch,(b ∈ X.ex ∨ X.s₀.heap.objs.size<=b)/\b ≠ X.env.locals/\(∀ x c,X.env.cells.lookup x=some c->c ≠ b)/\∀ p ∈ X.pn ++ pins,p.1 ≠ b) :
  Inv X pins σ H' { s with heap:=h',gens:=g',drawn:=d',toks:=t' }:=by
 obtain ⟨m,⟨o,es,ep,ho,r⟩,_⟩:=id I.loc
 obtain ⟨sl,hL⟩:=u.any ho I.free λ z=>(hch _ z).2.1 rfl
 exact I.step (ch:=ch) hch (λ b o hL hb hc e n=>u.keep b o e n (λ z=>(List.mem_cons.mp (I.stkSub b z)).elim hL hb) hc) (λ b o _ _ hc e n=>u.any e n hc) (λ b o hc e n=>u.free b o e n hc) (λ b o hc e=>u.there b o e hc) u.tups u.frzs u.tbls (λ m' hm=>by
  obtain ⟨o',es',ep',ho',r'⟩:=hm
  rw [ho] at ho'; cases ho'
  exact ⟨_,es',ep',hL,r'⟩) hok hg
theorem Inv.turned {t':Nat} {it:Addr} (I:Inv X pins σ H s) (k:∀ b o,b ≠ it->s.heap.get? b=some o->h'.get? b=some o) (hn:H it=none) (hL:it ≠ X.env.locals)
  (h1:it ∈ X.ex ∨ X.s₀.heap.objs.size<=it) (h2:∀ x c,X.env.cells.lookup x=some c->c ≠ it) (h3:∀ p ∈ X.pn ++ pins,p.1 ≠ it):Inv X pins σ H { s with heap:=h',toks:=t' }:=by
 have nit:∀ b u,H b=some u->b ≠ it:=λ b u e z=>by rw [z,hn] at e; cases e
 refine I.step (g':=s.gens) (d':=s.drawn) (ch:=[it]) (λ b hb=>?_) (λ b o _ _ hc e _=>k b o (λ z=>hc (by simp [z])) e) (λ b o _ _ hc e _=>⟨o.slots,k b o (λ z=>hc (by simp [z])) e⟩) (λ _ _ _ _ n=>n)
  (λ b o hc e=>⟨o,k b o (λ z=>hc (by simp [z])) e⟩) (λ _ _ e=>e) (λ _ _ _ e=>e) (λ b ps e=>⟨#[],by rw [e]; simp⟩) (λ m hm=>?_) (λ b u e=>?_) I.bare
 ·have e:b=it:=by simpa using hb
  subst e
  exact ⟨h1,hL,h2,h3⟩
 ·obtain ⟨o,es,ep,ho,r⟩:=hm
  exact ⟨o,es,ep,k _ o (Ne.symm hL) ho,r⟩
 ·refine (I.hok b u e).stay (λ c v hc q=>k c v ?_ q) (λ _ q=>q) λ _ _ q=>q
  rcases hc with z | z
  ·rw [z]; exact nit b u e
  ·exact nit c _ z
theorem Inv.tok (I:Inv X pins σ H s) (t:Nat):Inv X pins σ H { s with toks:=t }:=I.un (h':=s.heap) (t':=t) Un.refl I.hok
theorem Inv.kept {t':Nat} (I:Inv X pins σ H s) (k:∀ b u,s.heap.get? b=some u->h'.get? b=some u):Inv X pins σ H { s with heap:=h',toks:=t' }:=I.un (Un.kept k) (I.hok.kept k)
theorem Inv.laid {a:Addr} {o:HO} {t':Nat} (I:Inv X pins σ H s) (k:∀ b u,s.heap.get? b=some u->h'.get? b=some u) (hp:s.heap.objs.size<=a) (new:ZCD X.prog X.w (upd H a o) h' a o) :
  Inv X pins σ (upd H a o) { s with heap:=h',toks:=t' }:=I.un (Un.laid k hp (I.hok.fresh hp)) (I.hok.laid k hp new)
theorem Inv.write {x e:Addr} {o:HO} {t':Nat} (I:Inv X pins σ H s) (mu:Mut (H x)) (he:e=x ∨ H e=some (.own x)) (k:∀ b u,b ≠ e->s.heap.get? b=some u->h'.get? b=some u) (heo:∃ u,h'.get? e=some u)
  (new:ZCD X.prog X.w (upd H x o) h' x o):Inv X pins σ (upd H x o) { s with heap:=h',toks:=t' }:=I.un (Un.write mu he k heo) (I.hok.write mu he k heo new)
theorem Inv.weak {σ':List (Option V)} (I:Inv X pins σ H s) (hl : σ'.length = σ.length) (w:∀ (i:Nat) v,σ'[i]? = some (some v)->σ[i]? = some (some v)):Inv X pins σ' H s :=
 ⟨I.ok,I.os,I.bare,I.base,let ⟨m,hn,hl'⟩:=I.loc; ⟨m,hn,λ i x v e1 e2 e3=>hl' i x v e1 (w i v e2) e3⟩,I.cell,I.free,I.freeC,I.pin,I.hok,hl.trans I.len⟩
theorem Inv.pins_of {pins':List (Addr × Obj)} (I:Inv X pins σ H s) (h:∀ p ∈ pins',s.heap.get? p.1=some p.2/\H p.1=none/\p.1 ≠ X.env.locals/\p.1 ∉ X.fs/\∀ v,p.2.data ≠ .cell v):Inv X pins' σ H s :=
 ⟨I.ok,I.os,I.bare,I.base,I.loc,I.cell,I.free,I.freeC,λ p hp=>(List.mem_append.mp hp).elim (λ z=>I.pin p (List.mem_append_left _ z)) (h p),I.hok,I.len⟩
theorem ZIN {N:List Str} (hN:N.Nodup) {i j:Nat} {x:Str} (a:N[i]? = some x) (b:N[j]? = some x):i=j:=by
 obtain ⟨h1,e1⟩:=List.getElem?_eq_some_iff.mp a
 obtain ⟨h2,e2⟩:=List.getElem?_eq_some_iff.mp b
 exact (List.getElem_inj hN).mp (e1.trans e2.symm)
theorem ZGl {M:Model} {A:Around} {E:Value->Shared->Prop} {i:Nat} {x:Str} {v:V} {u:Value} {Q:Unit->Shared->Prop} (I:Inv X pins σ H s) (hN:X.N.Nodup) (hi:X.N[i]? = some x) (hx:Loc X.env.scope x) (r:Z8 v u)
  (h:∀ s',Inv X pins (σ.set i (some v)) H s'->(∃ a,Heap.SameBut a s.heap s'.heap/\(a=X.env.locals ∨ X.env.cells.lookup x=some a))->Q () s') (hf:X.fn x=true ∨ X.env.scope.names.lookup x=some .local:=by first | exact .inl rfl | exact .inr rfl | assumption):wpAny M A (storeName X.env x u) Q E s:=by
 obtain ⟨m,hn,hl⟩:=id I.loc
 have hcls:(X.env.scope.kind == .class || (X.env.scope.kind == .module && X.env.locals != X.env.globals))=false:=by rw [I.ok.kind]; rfl
 have hiσ : i < σ.length:=by rw [I.len]; exact (List.getElem?_eq_some_iff.mp hi).1
 have cne:=I.cne
 have tracked:∀ {a:Addr} {h':Heap},(∃ o,s.heap.get? a=some o/\H a=none)->Heap.SameBut a s.heap h'->HOk X.prog X.w H h':=λ {a h'} ha hs b ob e=>by
  obtain ⟨_,_,hfree⟩:=ha
  refine (I.hok b ob e).stay (λ c w' hc q=>(hs.2 c ?_).trans q) (λ _ q=>q) λ _ _ q=>q
  rintro rfl
  rcases hc with rfl | hc
  ·rw [hfree] at e; cases e
  ·rw [hfree] at hc; cases hc
 rcases hx with hk | hk
 ·refine wpAny_storeName_local hk hn (λ h' hn' hs=>?_) hcls
  obtain ⟨oL,_,_,hoL,_⟩:=id hn
  refine h _ ⟨I.ok,I.os,I.bare,⟨λ b o e n hb hx=>?_,λ b o e n hb hx=>?_,I.base.free,λ b o e hx=>?_,I.base.tups,I.base.frzs,I.base.tbls⟩,⟨_,hn',λ j y v' e1 e2 e3=>?_⟩,λ y c e=>?_,I.free,I.freeC,λ p hp=>?_,tracked ⟨oL,hoL,I.free⟩ hs,by simpa using I.len⟩ ⟨_,hs,.inl rfl⟩
  ·exact (hs.2 b (Nat.ne_of_lt (Nat.lt_of_lt_of_le (Heap.lt_size e) I.ok.above))).trans (I.base.keep b o e n hb hx)
  ·obtain ⟨sl,e1⟩:=I.base.slot b o e n hb hx
   exact ⟨sl,(hs.2 b (Nat.ne_of_lt (Nat.lt_of_lt_of_le (Heap.lt_size e) I.ok.above))).trans e1⟩
  ·obtain ⟨o',e1⟩:=I.base.there b o e hx
   exact ⟨o',(hs.2 b (Nat.ne_of_lt (Nat.lt_of_lt_of_le (Heap.lt_size e) I.ok.above))).trans e1⟩
  ·by_cases hj:j=i
   ·subst hj
    rw [hi] at e1; cases e1
    rw [List.getElem?_set_self hiσ] at e2
    cases e2
    exact ⟨u,r,.inl ⟨hk,by simp⟩⟩
   ·rw [List.getElem?_set_ne (Ne.symm hj)] at e2
    obtain ⟨u',r',q⟩:=hl j y v' e1 e2 e3
    refine ⟨u',r',?_⟩
    rcases q with ⟨k,e⟩ | ⟨k,c,e,z⟩
    ·refine .inl ⟨k,?_⟩
     have:y ≠ x:=λ e=>hj (ZIN hN e1 (e ▸ hi))
     simp [this,e]
    ·exact .inr ⟨k,c,e,z.sameBut hs (cne y c e)⟩
  ·obtain ⟨w',z⟩:=I.cell y c e
   exact ⟨w',z.sameBut hs (cne y c e)⟩
  ·obtain ⟨e,n,ne,nf,d⟩:=I.pin p hp
   exact ⟨(hs.2 p.1 ne).trans e,n,ne,nf,d⟩
 ·have hfn:X.fn x=true:=by
   rcases hf with z | z
   ·exact z
   ·rw [z] at hk; cases hk
  obtain ⟨c,hc⟩:=I.ok.has x (.inl hk)
  obtain ⟨w',z⟩:=I.cell x c hc
  refine wpAny_storeName_cell I.ok.kind hk hc z (λ h' hc' hs=>?_)
  obtain ⟨oc,hoc,hocd⟩:=id z
  refine h { s with heap:=h' } ⟨I.ok,I.os,I.bare,⟨λ b o e n hb hx=>?_,λ b o e n hb hx=>?_,I.base.free,λ b o e hx=>?_,I.base.tups,I.base.frzs,I.base.tbls⟩,⟨m,hn.sameBut hs (Ne.symm (cne x c hc)),λ j y v' e1 e2 e3=>?_⟩,λ y c' e=>?_,I.free,I.freeC,λ p hp=>?_,tracked ⟨oc,hoc,I.freeC x c hc⟩ hs,by simpa using I.len⟩ ⟨c,hs,.inr hc⟩
  ·exact (hs.2 b (Nat.ne_of_lt (Nat.lt_of_lt_of_le (Heap.lt_size e) (I.ok.cab x c hfn hc)))).trans (I.base.keep b o e n hb hx)
  ·obtain ⟨sl,e1⟩:=I.base.slot b o e n hb hx
   exact ⟨sl,(hs.2 b (Nat.ne_of_lt (Nat.lt_of_lt_of_le (Heap.lt_size e) (I.ok.cab x c hfn hc)))).trans e1⟩
  ·obtain ⟨o',e1⟩:=I.base.there b o e hx
   exact ⟨o',(hs.2 b (Nat.ne_of_lt (Nat.lt_of_lt_of_le (Heap.lt_size e) (I.ok.cab x c hfn hc)))).trans e1⟩
  ·by_cases hj:j=i
   ·subst hj
    rw [hi] at e1; cases e1
    rw [List.getElem?_set_self hiσ] at e2
    cases e2
    exact ⟨u,r,.inr ⟨.inl hk,c,hc,hc'⟩⟩
   ·rw [List.getElem?_set_ne (Ne.symm hj)] at e2
    obtain ⟨u',r',q⟩:=hl j y v' e1 e2 e3
    refine ⟨u',r',?_⟩
    rcases q with q | ⟨k,c',e,z'⟩
    ·exact .inl q
    ·refine .inr ⟨k,c',e,z'.sameBut hs ?_⟩
     rintro rfl
     exact hj (ZIN hN e1 (I.ok.inj _ _ _ e hc ▸ hi))
  ·by_cases hcc:c'=c
   ·subst hcc; exact ⟨_,hc'⟩
   ·obtain ⟨w2,z2⟩:=I.cell y c' e
    exact ⟨w2,z2.sameBut hs hcc⟩
  ·obtain ⟨e,n,ne,nf,d⟩:=I.pin p hp
   refine ⟨(hs.2 p.1 ?_).trans e,n,ne,nf,d⟩
   intro q
   rw [q,hoc] at e
   have q':oc=p.2:=Option.some.inj e
   exact d w' (by rw [← q']; exact hocd)
theorem ZBr {M:Model} {A:Around} {E:Value->Shared->Prop} {i:Nat} {x:Str} {v:V} {u:Value} {Q:Unit->Shared->Prop} (I:Inv X pins σ H s) (hN:X.N.Nodup) (hi:X.N[i]? = some x) (hx:Loc X.env.scope x) (r:Z8 v u)
  (h:∀ s',Inv X pins (σ.set i (some v)) H s'->Q () s') (hf:X.fn x=true ∨ X.env.scope.names.lookup x=some .local:=by first | exact .inl rfl | exact .inr rfl | assumption):wpAny M A (storeName X.env x u) Q E s :=
 ZGl I hN hi hx r (λ s' I' _=>h s' I') hf
theorem Inv.call' {s':Shared} {ch:List Addr} (I:Inv X pins σ H s) (ho:s'.os=s.os) (u:Un (frs X.stack) ch H H' s.heap s'.heap) (hok:HOk X.prog X.w H' s'.heap) (hg:AllBare s'.gens)
  (hch:∀ b ∈ ch,(b ∈ X.ex ∨ X.s₀.heap.objs.size<=b)/\b ≠ X.env.locals/\(∀ x c,X.env.cells.lookup x=some c->c ≠ b)/\∀ p ∈ X.pn ++ pins,p.1 ≠ b):Inv X pins σ H' s':=by
 obtain ⟨h',g',d',t',o'⟩:=s'
 have e:o'=s.os:=ho
 subst e
 exact I.call (g':=g') (t':=t') (d':=d') u hok hg hch
end
abbrev XK:=Value->Option Addr->Hp->Prop
abbrev St:=List (Option V)
abbrev VK:=V->Hp->Prop
abbrev TE:=St->Hp->VK->Prop
abbrev TT:=St->Hp->(Bool->Hp->Prop)->Prop
abbrev TA:=St->Hp->(List V->Hp->Prop)->Prop
structure Ends where
 nx:St->Hp->Prop
 rt:VK
 bk:St->Hp->Prop:=λ _ _=>False
 ct:St->Hp->Prop:=λ _ _=>False
abbrev TS:=Ends->St->Hp->Prop
def EP (X:Cx) (pins:List (Addr × Obj)) (σ : St) (Q:VK) (u:Value) (s':Shared):Prop:=∃ v H',Inv X pins σ H' s'/\Z8 v u/\Q v H'
def TP (X:Cx) (pins:List (Addr × Obj)) (σ : St) (Q:Bool->Hp->Prop) (b:Bool) (s':Shared):Prop:=∃ H',Inv X pins σ H' s'/\Q b H'
def AP (X:Cx) (pins:List (Addr × Obj)) (σ : St) (Q:List V->Hp->Prop) (us:List Value) (s':Shared):Prop:=∃ vs H',Inv X pins σ H' s'/\Zp vs us/\Q vs H'
def SP (X:Cx) (pins:List (Addr × Obj)) (D:Ends) (f:Flow) (s':Shared):Prop :=
 match f with
 | .next=>∃ σ' H',Inv X pins σ' H' s'/\D.nx σ' H'
 | .brk=>∃ σ' H',Inv X pins σ' H' s'/\D.bk σ' H'
 | .cont=>∃ σ' H',Inv X pins σ' H' s'/\D.ct σ' H'
 | .ret u=>∃ v σ' H',Inv X pins σ' H' s'/\Z8 v u/\D.rt v H'
def PE (X:Cx) (e:Expr) (t:TE):Prop :=
 ∀ (pins:List (Addr × Obj)) (s:Shared) (σ : St) (H:Hp) (Q:VK),Inv X pins σ H s->t σ H Q->wpAny (model X.prog X.w) X.A (eval e X.env) (EP X pins σ Q) X.xe s
def PT (X:Cx) (e:Expr) (t:TT):Prop :=
 ∀ (pins:List (Addr × Obj)) (s:Shared) (σ : St) (H:Hp) (Q:Bool->Hp->Prop),Inv X pins σ H s->t σ H Q->wpAny (model X.prog X.w) X.A (isTrue e X.env (eval e X.env)) (TP X pins σ Q) X.xe s
def PW (X:Cx) (e:Expr) (t:TT):Prop :=
 ∀ (whole:Sem Value) (pins:List (Addr × Obj)) (s:Shared) (σ : St) (H:Hp) (Q:Bool->Hp->Prop),Inv X pins σ H s->t σ H Q->wpAny (model X.prog X.w) X.A (isTrue e X.env whole) (TP X pins σ Q) X.xe s
theorem PW.pt {X:Cx} {e:Expr} {t:TT} (h:PW X e t):PT X e t:=h _
def PA (X:Cx) (es:List Expr) (t:TA):Prop :=
 ∀ (pos:Pos) (pins:List (Addr × Obj)) (s:Shared) (σ : St) (H:Hp) (Q:List V->Hp->Prop),Inv X pins σ H s->t σ H Q->wpAny (model X.prog X.w) X.A (spliced (backTo pos (starEach es X.env))) (AP X pins σ Q) X.xe s
def PS (X:Cx) (st:Stmt) (t:TS):Prop :=
 ∀ (pins:List (Addr × Obj)) (s:Shared) (σ : St) (H:Hp) (D:Ends),Inv X pins σ H s->t D σ H->wpAny (model X.prog X.w) X.A (exec st X.env) (SP X pins D) X.xe s
def PSs (X:Cx) (st:List Stmt) (t:TS):Prop :=
 ∀ (pins:List (Addr × Obj)) (s:Shared) (σ : St) (H:Hp) (D:Ends),Inv X pins σ H s->t D σ H->wpAny (model X.prog X.w) X.A (execs st X.env) (SP X pins D) X.xe s
theorem thn {α : Type} {t:Sem α} {Q Q' : α->Shared->Prop} {M:Model} {A:Around} {E:Value->Shared->Prop} {s:Shared} (h:wpAny M A t Q E s) (hQ:∀ a s,Q a s->Q' a s):wpAny M A t Q' E s:=wpAny_mono h hQ λ _ _ x=>x
end L2
namespace L2
open PySem PySem.Spec PyProof.Rows
section
variable {X:Cx}
def tVar (i:Nat):TE:=λ σ H Q=>∃ v,σ[i]? = some (some v)/\Q v H
def tC (v:V):TE:=λ _ H Q=>Q v H
theorem ZOK {i:Nat} {x:Str} {pos:Pos} (hN:X.N[i]? = some x) (hv:Vis X.env.scope x) (hd:(x == ("__debug__" : Str))=false:=by decide) (hcd:(x == ("__classdict__" : Str))=false:=by decide):PE X (.Name x pos) (tVar i):=by
 intro pins s σ H Q I h
 obtain ⟨v,e,h⟩:=h
 obtain ⟨m,hn,hl⟩:=I.loc
 obtain ⟨u,r,l⟩:=hl i x v hN e hv
 have fin:EP X pins σ Q u s:=⟨v,H,I,r,h⟩
 rcases l with ⟨hk,hm⟩ | ⟨hk,c,hc,hcell⟩
 ·exact wpAny_Name (wpAny_loadName_local I.ok.kind hk hn hm fin) hd
 ·rcases hk with hk | hk
  ·exact wpAny_Name (wpAny_loadName_cell I.ok.kind hk hc hcell fin) hd
  ·exact wpAny_Name (wpAny_loadName_free I.ok.kind hk hc hcell fin hcd) hd
theorem ZI5 {i j pos}:PE X (.Constant (.int i) j pos) (tC (.int i)):=λ _ _ _ H _ I h=>wpAny_Constant_int ⟨.int i,H,I.tok _,⟨_,rfl⟩,h⟩
theorem pe_bl {b j pos}:PE X (.Constant (.bool b) j pos) (tC (.bl b)):=λ _ _ _ H _ I h=>Constant_bool ⟨.bl b,H,I,rfl,h⟩
theorem ZOO {j pos}:PE X (.Constant .none j pos) (tC .non):=λ _ _ _ H _ I h=>Constant_none ⟨.non,H,I,rfl,h⟩
theorem ZO6 {x j pos}:PE X (.Constant (.str x) j pos) (tC (.str x)):=λ _ _ _ H _ I h=>Calls.Constant_str ⟨.str x,H,I.tok _,⟨_,rfl⟩,h⟩
def Gl (X:Cx) (x:Str):Prop:=X.env.kindOf x=some .globalImplicit
theorem ZHb {E:Value->Shared->Prop} {pins:List (Addr × Obj)} {s:Shared} {σ : St} {H:Hp} {x:Str} {u:Value} {pos:Pos} {Q:Value->Shared->Prop} (I:Inv X pins σ H s) (hg:Gl X x) (hm:X.mg x=some u) (h:Q u s)
  (hd:(x == ("__debug__" : Str))=false:=by decide):wpAny (model X.prog X.w) X.A (eval (.Name x pos) X.env) Q E s :=
 Calls.Name_function_global I.ok.kind hg (Calls.loadGlobal_global (by rw [I.ok.glob]; exact I.mod.glob.keeps I.bk) hm h) hd
theorem ZFT {E:Value->Shared->Prop} {pins:List (Addr × Obj)} {s:Shared} {σ : St} {H:Hp} {x:Str} {u:Value} {pos:Pos} {Q:Value->Shared->Prop} (I:Inv X pins σ H s) (hg:Gl X x) (hm:X.mg x=none) (hv:bootBuiltins x=some u) (h:Q u s)
  (hn:x ≠ "__name__":=by decide) (hd:(x == ("__debug__" : Str))=false:=by decide):wpAny (model X.prog X.w) X.A (eval (.Name x pos) X.env) Q E s:=by
 obtain ⟨mb,h1,h2⟩:=I.mod.blt
 exact Calls.Name_function_global I.ok.kind hg (Calls.loadGlobal_builtin (by rw [I.ok.glob]; exact I.mod.glob.keeps I.bk) hm (by rw [I.ok.blt]; exact h1.keeps I.bk) ((h2 x hn).trans hv) h) hd
theorem ZNY {x:Str} {v:V} {u:Value} {pos:Pos} (hg:Gl X x) (hm:X.mg x=some u) (r:Z8 v u) (hd:(x == ("__debug__" : Str))=false:=by decide):PE X (.Name x pos) (tC v) :=
 λ _ _ _ H _ I h=>ZHb I hg hm ⟨v,H,I,r,h⟩ hd
variable {a b:Expr} {ta tb:TE} {pos:Pos}
def tB (t:TE):TT:=λ σ H Q=>t σ H λ x H1=>∃ c,x=.bl c/\Q c H1
theorem ZOy {e:Expr} {t:TE} (h:PE X e t) (he:∀ whole,isTrue e X.env whole=(do let v ← whole; standAt e.pos; holding [v] (truthy v)):=by intro _; rfl):PT X e (tB t):=by
 intro pins s σ H Q I hw
 refine isTrue_plain (thn (h pins s σ H _ I hw) λ v s1 ⟨x,H1,I1,r1,q1⟩=>?_) (he _)
 obtain ⟨d,rfl,q⟩:=q1
 cases r1
 exact wpAny_truthy_bool ⟨H1,I1,q⟩
variable {tA tB':TT} {rest:List Expr}
def tAnd (t u:TT):TT:=λ σ H Q=>t σ H λ c H1=>if c=true then u σ H1 Q else Q false H1
def tOr (t u:TT):TT:=λ σ H Q=>t σ H λ c H1=>if c=true then Q true H1 else u σ H1 Q
def tNot (t:TT):TT:=λ σ H Q=>t σ H λ c H1=>Q (!c) H1
theorem ZNA (ha:PT X a tA):PW X (.BoolOp .And [a] pos) tA:=by
 intro wh pins s σ H Q I h
 refine isTrue_and (thn (ha pins s σ H Q I h) λ c s1 e=>?_)
 cases c with
 | true=>exact isTrue_and_nil e
 | false=>exact e
theorem ZOd (ha:PT X a tA):PW X (.BoolOp .Or [a] pos) tA:=by
 intro wh pins s σ H Q I h
 refine isTrue_or (thn (ha pins s σ H Q I h) λ c s1 e=>?_)
 cases c with
 | false=>exact isTrue_or_nil e
 | true=>exact e
theorem ZOP (ha:PT X a tA) (hb:PW X (.BoolOp .And (b :: rest) pos) tB'):PW X (.BoolOp .And (a :: b :: rest) pos) (tAnd tA tB'):=by
 intro wh pins s σ H Q I h
 refine isTrue_and (thn (ha pins s σ H _ I h) λ c s1 ⟨H1,I1,q1⟩=>?_)
 cases c with
 | true=>exact hb wh pins s1 σ H1 Q I1 q1
 | false=>exact ⟨H1,I1,q1⟩
theorem pw_or (ha:PT X a tA) (hb:PW X (.BoolOp .Or (b :: rest) pos) tB'):PW X (.BoolOp .Or (a :: b :: rest) pos) (tOr tA tB'):=by
 intro wh pins s σ H Q I h
 refine isTrue_or (thn (ha pins s σ H _ I h) λ c s1 ⟨H1,I1,q1⟩=>?_)
 cases c with
 | true=>exact ⟨H1,I1,q1⟩
 | false=>exact hb wh pins s1 σ H1 Q I1 q1
theorem ZPc (ha:PT X a tA):PT X (.UnaryOp .Not a pos) (tNot tA):=by
 intro pins s σ H Q I h
 exact isTrue_not (ha pins s σ H (λ c H1=>Q (!c) H1) I h)
def tAndV (ta tb:TE):TE:=λ σ H Q=>ta σ H λ x H1=>∃ c,x=.bl c/\if c=true then tb σ H1 Q else Q (.bl false) H1
def tOrV (ta tb:TE):TE:=λ σ H Q=>ta σ H λ x H1=>∃ c,x=.bl c/\if c=true then Q (.bl true) H1 else tb σ H1 Q
theorem ZOn {op} {t:TE} (h:PE X a t):PE X (.BoolOp op [a] pos) t:=λ pins s σ H Q I hw=>BoolOp_one (h pins s σ H Q I hw)
theorem ZO4 (ha:PE X a ta) (hb:PE X (.BoolOp .And (b :: rest) pos) tb):PE X (.BoolOp .And (a :: b :: rest) pos) (tAndV ta tb):=by
 intro pins s σ H Q I h
 refine BoolOp_and (thn (ha pins s σ H _ I h) λ v s1 ⟨x,H1,I1,r1,q1⟩=>?_)
 obtain ⟨c,rfl,q1⟩:=q1
 cases r1
 refine wpAny_truthy_bool ?_
 cases c with
 | true=>exact hb pins s1 σ H1 Q I1 q1
 | false=>exact ⟨.bl false,H1,I1,rfl,q1⟩
theorem pe_or (ha:PE X a ta) (hb:PE X (.BoolOp .Or (b :: rest) pos) tb):PE X (.BoolOp .Or (a :: b :: rest) pos) (tOrV ta tb):=by
 intro pins s σ H Q I h
 refine BoolOp_or (thn (ha pins s σ H _ I h) λ v s1 ⟨x,H1,I1,r1,q1⟩=>?_)
 obtain ⟨c,rfl,q1⟩:=q1
 cases r1
 refine wpAny_truthy_bool ?_
 cases c with
 | false=>exact hb pins s1 σ H1 Q I1 q1
 | true=>exact ⟨.bl true,H1,I1,rfl,q1⟩
end
end L2
namespace L2
open PySem PySem.Spec PyProof.Rows
def SqL (K:PySem.W.Frag) (H:Hp) (a:Addr) (xs:List V):Prop :=
 Rd H a (.lst xs) ∨
  ∃ (o:Obj) (its:Array Value) (n:Nat),K.lookup a=some o/\o.cls=.type "list"/\o.dict=none/\o.data=.seq its n/\its.size<=sizeLine/\Zp xs its.toList
def SqT (K:PySem.W.Frag) (H:Hp) (a:Addr) (xs:List V):Prop :=
 Rd H a (.tup xs) ∨
  ∃ (o:Obj) (its:Array Value) (n:Nat),K.lookup a=some o/\o.cls=.type "tuple"/\o.data=.seq its n/\its.size<=sizeLine/\Zp xs its.toList
def absV:Value->Option V
 | .none=>some .non
 | .bool b=>some (.bl b)
 | .int i _=>some (.int i)
 | .str x _=>some (.str x)
 | .bytes b _=>some (.byt b)
 | .float b _=>some (.flt b)
 | .ref a=>some (.ref a)
 | .type n=>some (.ty n)
 | _=>none
theorem Z8.abs {x:V} {u:Value} (r:Z8 x u):absV u=some x:=by
 cases x with
 | non=>cases r; rfl
 | bl _=>cases r; rfl
 | int _=>obtain ⟨t,rfl⟩:=r; rfl
 | str _=>obtain ⟨t,rfl⟩:=r; rfl
 | byt _=>obtain ⟨t,rfl⟩:=r; rfl
 | flt _=>obtain ⟨t,rfl⟩:=r; rfl
 | ref _=>cases r; rfl
 | ty _=>cases r; rfl
theorem Z8.inj {x y:V} {u:Value} (r:Z8 x u) (q:Z8 y u):x=y:=Option.some.inj (r.abs.symm.trans q.abs)
theorem Zp.inj:∀ {xs ys:List V} {us:List Value},Zp xs us->Zp ys us->xs=ys
 | _,_,_,.nil,.nil=>rfl
 | _,_,_,.cons r t,.cons r' t'=>by rw [r.inj r',Zp.inj t t']
section
variable {X:Cx} {pins:List (Addr × Obj)} {σ : St} {H:Hp} {s:Shared} {a:Addr} {xs ys:List V}
theorem SqL.of {K:PySem.W.Frag} (h:H a=some (.lst xs)):SqL K H a xs:=.inl (.inl h)
theorem Inv.list (I:Inv X pins σ H s) (h:SqL X.K H a xs):∃ its:List Value,Zp xs its/\PlainL s.heap a its.toArray/\xs.length<=sizeLine:=by
 rcases h with h | ⟨o,its,n,hk,hc,hd,hs,hz,r⟩
 ·obtain ⟨z,its,n,r,e⟩:=h.ok I.hok
  exact ⟨its,r,⟨_,n,e,rfl,rfl,rfl⟩,z⟩
 ·refine ⟨its.toList,r,⟨o,n,I.kIn a o hk,hc,hd,by simpa using hs⟩,?_⟩
  have e:=r.length
  simp only [Array.length_toList] at e
  omega
theorem Inv.tuple (I:Inv X pins σ H s) (h:SqT X.K H a xs):∃ its:List Value,Zp xs its/\IsTup s.heap a its.toArray/\xs.length<=sizeLine:=by
 rcases h with h | ⟨o,its,n,hk,hc,hs,hz,r⟩
 ·obtain ⟨z,its,r,p⟩:=h.ok I.hok
  exact ⟨its,r,p,z⟩
 ·refine ⟨its.toList,r,⟨o,I.kIn a o hk,hc,n,by simpa using hs⟩,?_⟩
  have e:=r.length
  simp only [Array.length_toList] at e
  omega
theorem Inv.list_inj (I:Inv X pins σ H s) (h:SqL X.K H a xs) (h':SqL X.K H a ys):xs=ys:=by
 obtain ⟨its,r,⟨o,n,e,_,_,d⟩,_⟩:=I.list h
 obtain ⟨its',r',⟨o',n',e',_,_,d'⟩,_⟩:=I.list h'
 rw [e] at e'; cases e'
 rw [d] at d'
 injection d' with d1 _
 have:its=its':=by simpa using congrArg Array.toList d1
 subst this
 exact r.inj r'
theorem Inv.tuple_inj (I:Inv X pins σ H s) (h:SqT X.K H a xs) (h':SqT X.K H a ys):xs=ys:=by
 obtain ⟨its,r,⟨o,e,_,n,d⟩,_⟩:=I.tuple h
 obtain ⟨its',r',⟨o',e',_,n',d'⟩,_⟩:=I.tuple h'
 rw [e] at e'; cases e'
 rw [d] at d'
 injection d' with d1 _
 have:its=its':=by simpa using congrArg Array.toList d1
 subst this
 exact r.inj r'
end
abbrev Cx.wish (X:Cx) (E:Value->Shared->Prop):Cx:={ X with xe:=E }
abbrev Cx.nox (X:Cx):Cx:=X.wish λ _ _=>False
theorem Cx.Ok.wish {X:Cx} (ok:X.Ok) (E:Value->Shared->Prop):(X.wish E).Ok :=
 ⟨ok.mod,ok.kind,ok.glob,ok.blt,ok.above,ok.inj,ok.has,ok.cab,ok.hd,ok.frames,ok.stk,ok.exf,ok.bs,ok.bsz,ok.noex,ok.exfs,ok.funs,ok.frf⟩
theorem Cx.Ok.unwish {X:Cx} {E:Value->Shared->Prop} (ok:(X.wish E).Ok):X.Ok :=
 ⟨ok.mod,ok.kind,ok.glob,ok.blt,ok.above,ok.inj,ok.has,ok.cab,ok.hd,ok.frames,ok.stk,ok.exf,ok.bs,ok.bsz,ok.noex,ok.exfs,ok.funs,ok.frf⟩
section
variable {X:Cx} {pins:List (Addr × Obj)} {σ : St} {H:Hp} {s:Shared} {E:Value->Shared->Prop}
theorem Inv.wish (I:Inv X pins σ H s) (E:Value->Shared->Prop):Inv (X.wish E) pins σ H s:=⟨I.ok.wish E,I.os,I.bare,I.base,I.loc,I.cell,I.free,I.freeC,I.pin,I.hok,I.len⟩
theorem Inv.unwish (I:Inv (X.wish E) pins σ H s):Inv X pins σ H s:=⟨I.ok.unwish,I.os,I.bare,I.base,I.loc,I.cell,I.free,I.freeC,I.pin,I.hok,I.len⟩
theorem SP.unwish {D:Ends} {f:Flow} {s':Shared} (h:SP (X.wish E) pins D f s'):SP X pins D f s':=by
 cases f with
 | next=>obtain ⟨σ',H',I,q⟩:=h; exact ⟨σ',H',I.unwish,q⟩
 | brk=>obtain ⟨σ',H',I,q⟩:=h; exact ⟨σ',H',I.unwish,q⟩
 | cont=>obtain ⟨σ',H',I,q⟩:=h; exact ⟨σ',H',I.unwish,q⟩
 | ret u=>obtain ⟨v,σ',H',I,r,q⟩:=h; exact ⟨v,σ',H',I.unwish,r,q⟩
theorem PSs.nox {st:List Stmt} {t:TS} (h:PSs X.nox st t):PSs X st t:=λ pins s σ H D I hw =>
 wpAny_mono (h pins s σ H D (I.wish _) hw) (λ _ _ q=>q.unwish) λ _ _ z=>False.elim z
end
section
variable {X:Cx} {st:Stmt} {rest:List Stmt} {t u:TS} {e:Expr} {te:TE} {pos:Pos}
def tNext:TS:=λ D σ H=>D.nx σ H
def tSeq (t u:TS):TS:=λ D σ H=>t { D with nx:=u D } σ H
theorem ZM6:PSs X [] tNext:=λ _ _ σ H _ I h=>wpAny_execs_nil ⟨σ,H,I,h⟩
theorem ZLp (h1:PS X st t) (h2:PSs X rest u):PSs X (st :: rest) (tSeq t u):=by
 intro pins s σ H D I h
 refine wpAny_execs_cons (thn (h1 pins s σ H { D with nx:=u D } I h) λ f s1 q=>?_)
 cases f with
 | next =>
  obtain ⟨σ',H',I',q⟩:=q
  exact h2 pins s1 σ' H' D I' q
 | ret v=>exact q
 | brk=>exact q
 | cont=>exact q
theorem ZMO (h1:PS X st t):PSs X [st] t:=by
 intro pins s σ H D I h
 refine wpAny_execs_cons (thn (h1 pins s σ H D I h) λ f s1 q=>?_)
 cases f with
 | next=>exact wpAny_execs_nil q
 | ret v=>exact q
 | brk=>exact q
 | cont=>exact q
theorem Inv.quiet {pins:List (Addr × Obj)} {σ : St} {H:Hp} {s:Shared} (I:Inv X pins σ H s):interactive X.env=false:=by simp [interactive,I.ok.kind]
def tDrop (te:TE):TS:=λ D σ H=>te σ H λ _ H1=>D.nx σ H1
theorem ZMY (he:PE X e te) (hs:swapsWith e none pos.line X.env=pure false:=by rfl):PS X (.Expr e pos) (tDrop te):=by
 intro pins s σ H D I h
 exact wpAny_Expr_any (thn (he pins s σ H _ I h) λ v s1 ⟨x,H1,I1,r1,q1⟩=>⟨σ,H1,I1,q1⟩) I.quiet hs
def tRet (te:TE):TS:=λ D σ H=>te σ H D.rt
theorem ZOZ (he:PE X e te):PS X (.Return (some e) pos) (tRet te):=by
 intro pins s σ H D I h
 exact wpAny_Return_some (thn (he pins s σ H _ I h) λ v s1 ⟨x,H1,I1,r1,q1⟩=>⟨x,σ,H1,I1,r1,q1⟩)
def tIfS (c:TT) (t u:TS):TS:=λ D σ H=>c σ H λ b H1=>if b=true then t D σ H1 else u D σ H1
theorem ps_if {c:Expr} {a b:List Stmt} {tc:TT} (hc:PT X c tc) (ha:PSs X a t) (hb:PSs X b u):PS X (.If c a b pos) (tIfS tc t u):=by
 intro pins s σ H D I h
 refine wpAny_If (thn (hc pins s σ H _ I h) λ d s1 ⟨H1,I1,q1⟩=>?_)
 cases d with
 | true=>exact ha pins s1 σ H1 D I1 q1
 | false=>exact hb pins s1 σ H1 D I1 q1
end
abbrev TG:=V->St->Hp->(St->Hp->Prop)->Prop
abbrev TGs:=List V->St->Hp->(St->Hp->Prop)->Prop
def PG (X:Cx) (target:Expr) (t:TG):Prop :=
 ∀ (pins:List (Addr × Obj)) (s:Shared) (σ : St) (H:Hp) (v:V) (u:Value) (Q:St->Hp->Prop),Inv X pins σ H s->Z8 v u->t v σ H Q ->
  wpAny (model X.prog X.w) X.A (assign target X.env u) (λ _ s'=>∃ σ' H',Inv X pins σ' H' s'/\Q σ' H') X.xe s
def PGs (X:Cx) (ts:List Expr) (t:TGs):Prop :=
 ∀ (pins:List (Addr × Obj)) (s:Shared) (σ : St) (H:Hp) (vs:List V) (us:List Value) (Q:St->Hp->Prop),Inv X pins σ H s->Zp vs us->t vs σ H Q ->
  wpAny (model X.prog X.w) X.A (assignInOrder ((assignEach ts X.env).map (·.2)) us) (λ _ s'=>∃ σ' H',Inv X pins σ' H' s'/\Q σ' H') X.xe s
abbrev ZN0:=V->V->V->Hp->(Hp->Prop)->Prop
def ZPl (X:Cx) (t:ZN0):Prop :=
 ∀ (pins:List (Addr × Obj)) (s:Shared) (σ : St) (H:Hp) (o i v:V) (ov iv u:Value) (Q:Hp->Prop),Inv X pins σ H s->Z8 o ov->Z8 i iv->Z8 v u->t o i v H Q ->
  wpAny (model X.prog X.w) X.A (setItem ov iv u) (λ _ s'=>∃ H',Inv X pins σ H' s'/\Q H') X.xe s
abbrev TIp:=V->V->Hp->VK->Prop
def PIp (X:Cx) (op:Operator) (t:TIp):Prop :=
 ∀ (pins:List (Addr × Obj)) (s:Shared) (σ : St) (H:Hp) (x y:V) (v u:Value) (Q:VK),Inv X pins σ H s->Z8 x v->Z8 y u->t x y H Q ->
  wpAny (model X.prog X.w) X.A (inplaceOp op v u) (EP X pins σ Q) X.xe s
section
variable {X:Cx} {pos:Pos}
def ZH9 (i:Nat):TG:=λ v σ H Q=>Q (σ.set i (some v)) H
theorem ZNT {i:Nat} {x:Str} (hN:X.N.Nodup) (hi:X.N[i]? = some x) (hx:Loc X.env.scope x) (hf:X.fn x=true ∨ X.env.scope.names.lookup x=some .local:=by first | exact .inl rfl | exact .inr rfl | assumption):PG X (.Name x pos) (ZH9 i):=by
 intro pins s σ H v u Q I r h
 exact wpAny_assign_Name (ZBr I hN hi hx r (λ s' I'=>⟨_,H,I',h⟩) hf)
def ZPg:TGs:=λ vs σ H Q=>vs=[]/\Q σ H
def ZNg (t:TG) (u:TGs):TGs:=λ vs σ H Q=>∃ v r,vs=v :: r/\t v σ H λ σ' H'=>u r σ' H' Q
theorem ZMp:PGs X [] ZPg:=by
 intro pins s σ H vs us Q I r h
 obtain ⟨e,h⟩:=h
 subst e
 cases r
 exact assignInOrder_nil ⟨σ,H,I,h⟩
theorem ZKh {e:Expr} {es:List Expr} {t:TG} {u:TGs} (h1:PG X e t) (h2:PGs X es u)
  (hs:(assignEach (e :: es) X.env).map (·.2)=assign e X.env :: (assignEach es X.env).map (·.2):=by rfl):PGs X (e :: es) (ZNg t u):=by
 intro pins s σ H vs us Q I r h
 obtain ⟨v,vr,e1,h⟩:=h
 subst e1
 cases r with
 | cons r rr =>
  rw [hs]
  refine assignInOrder_cons (thn (h1 pins s σ H _ _ _ I r h) λ _ s1 ⟨σ1,H1,I1,q1⟩=>?_)
  exact h2 pins s1 σ1 H1 _ _ Q I1 rr q1
def ZPh (K:PySem.W.Frag) (n:Nat) (t:TGs):TG:=λ v σ H Q=>∃ a xs,v=.ref a/\SqT K H a xs/\xs.length=n/\t xs σ H Q
theorem ZPb {es:List Expr} {k:Nat} {t:TGs} {n:Nat} (hc:X.calm=true) (h:PGs X es t)
  (hn:(assignEach es X.env).length=n:=by rfl) (hst:(assignEach es X.env).findIdx? (·.1)=none:=by rfl):PG X (.Tuple es k pos) (ZPh X.K n t):=by
 intro pins s σ H v u Q I r hw
 obtain ⟨a,xs,e1,hq,hl,hw⟩:=hw
 subst e1
 cases r
 obtain ⟨its,rv,ht,hz⟩:=I.tuple hq
 refine assign_Tuple_tuple (I.ok.hd hc) ht (by simp [hn,← hl,rv.length]) hst λ h' hx=>?_
 have I1:Inv X pins σ H { s with heap:=h' }:=I.kept (t':=s.toks) λ b o e=>hx b o (Nat.ne_of_lt (Heap.lt_size e)) e
 exact h pins _ σ H xs _ Q I1 (by simpa using rv) hw
def gSub (to ti:TE) (t:ZN0):TG:=λ v σ H Q=>to σ H λ o H1=>ti σ H1 λ i H2=>t o i v H2 λ H3=>Q σ H3
theorem ZOm {o i:Expr} {to ti:TE} {t:ZN0} (ho:PE X o to) (hi:PE X i ti) (hs:ZPl X t)
  (ha:∀ v,assign (.Subscript o i pos) X.env v=(do
   let ov ← holding [v] (eval o X.env)
   let iv ← holding [v,ov] (eval i X.env)
   standAt pos
   holding [v,ov,iv] (setItem ov iv v)
   release [v,ov,iv] []):=by intro _; rfl):PG X (.Subscript o i pos) (gSub to ti t):=by
 intro pins s σ H v u Q I r h
 rw [ha]
 refine wpAny_bind (wpAny_holding (thn (ho pins s σ H _ I h) λ ov s1 ⟨x,H1,I1,r1,q1⟩=>?_))
 refine wpAny_bind (wpAny_holding (thn (hi pins s1 σ H1 _ I1 q1) λ iv s2 ⟨y,H2,I2,r2,q2⟩=>?_))
 refine wpAny_bind (wpAny_standAt (wpAny_bind (wpAny_holding (thn (hs pins s2 σ H2 x y v ov iv u _ I2 r1 r2 r q2) λ _ s3 ⟨H3,I3,q3⟩=>?_))))
 exact wpAny_release ⟨σ,H3,I3,q3⟩
def ZOG (te:TE) (g:TG):TS:=λ D σ H=>te σ H λ x H1=>g x σ H1 D.nx
theorem ZLl {tg e:Expr} {te:TE} {g:TG} (he:PE X e te) (hg:PG X tg g) (hs:swapsWithSole [tg] e pos.line X.env=pure false:=by rfl) (hw:swappedStores [tg] e X.env=pure none:=by rfl)
  (h1:(assignEach [tg] X.env).map (·.2)=[assign tg X.env]:=by rfl):PS X (.Assign [tg] e pos) (ZOG te g):=by
 intro pins s σ H D I h
 refine wpAny_Assign_stores (thn (he pins s σ H _ I h) λ v s1 ⟨x,H1,I1,r1,q1⟩=>?_) hs hw
 rw [h1]
 exact thn (hg pins s1 σ H1 x v _ I1 r1 q1) λ _ s2 q=>q
theorem ZOx {i:Nat} {x:Str} {e:Expr} {te:TE} {pos':Pos} (hN:X.N.Nodup) (hi:X.N[i]? = some x) (hx:Loc X.env.scope x) (he:PE X e te) (hs:swapsWith e (some (.Name x pos')) pos.line X.env=pure false:=by rfl) (hf:X.fn x=true ∨ X.env.scope.names.lookup x=some .local:=by first | exact .inl rfl | exact .inr rfl | assumption) :
  PS X (.Assign [.Name x pos'] e pos) (ZOG te (ZH9 i)):=by
 intro pins s σ H D I h
 refine wpAny_Assign_Name (thn (he pins s σ H _ I h) λ v s1 ⟨y,H1,I1,r1,q1⟩=>?_) hs
 exact ZBr I1 hN hi hx r1 (λ s2 I2=>⟨_,H1,I2,q1⟩) hf
def ZPk (i j:Nat) (ta:TA):TS:=λ D σ H=>ta σ H λ vs H1=>∃ v w,vs=[v,w]/\D.nx ((σ.set i (some v)).set j (some w)) H1
theorem ZOk {i j:Nat} {x y:Str} {a b:Expr} {ta:TA} {px py pt:Pos} {kt k2 pt2} (hc:X.calm=true) (hN:X.N.Nodup) (hi:X.N[i]? = some x) (hj:X.N[j]? = some y) (hij:i ≠ j)
  (hx:X.env.scope.names.lookup x=some .local) (hy:X.env.scope.names.lookup y=some .local) (ha:PA X [a,b] ta)
  (hw:swappedStores [.Tuple [.Name x px,.Name y py] kt pt] (.Tuple [a,b] k2 pt2) X.env=pure (some [x,y]))
  (hs:swapsWithSole [.Tuple [.Name x px,.Name y py] kt pt] (.Tuple [a,b] k2 pt2) pos.line X.env=pure false:=by rfl) :
  PS X (.Assign [.Tuple [.Name x px,.Name y py] kt pt] (.Tuple [a,b] k2 pt2) pos) (ZPk i j ta):=by
 intro pins s σ H D I h
 rw [exec_Assign_arm]
 refine wpAny_bind (wpAny_standAt ?_)
 rw [hs]
 refine wpAny_bind (wpAny_pure ?_)
 rw [if_neg (by decide)]
 refine wpAny_bind (Tuple_ (thn (ha _ pins s σ H _ I h) λ us s1 ⟨vs,H1,I1,r1,q1⟩=>?_))
 obtain ⟨v,w,e1,q1⟩:=q1
 subst e1
 obtain ⟨u1,u2,rfl,rv,rw'⟩:∃ u1 u2,us=[u1,u2]/\Z8 v u1/\Z8 w u2:=by
  cases r1 with
  | cons p q =>
   cases q with
   | cons p' q' =>
    cases q'
    exact ⟨_,_,rfl,p,p'⟩
 refine wpAny_newObj_type ?_ (by show 2<=sizeLine; decide)
 have I2:Inv X pins σ H1 { s1 with heap:=s1.heap.push { cls:=.type "tuple",data:=.seq [u1,u2].toArray } }:=I1.kept (t':=s1.toks) λ b o e=>Heap.get?_push_of_some _ e
 rw [hw]
 refine wpAny_bind (wpAny_pure ?_)
 show wpAny (model X.prog X.w) X.A (do rule "assign.swapped-stores"; let items ← unpackItems (.ref s1.heap.objs.size) 2 none; assignInOrder [λ v=>bindName X.env y v,λ v=>bindName X.env x v] items.reverse; pure Flow.next) _ _ _
 refine wpAny_bind (wpAny_rule (wpAny_bind (unpackItems_tuple (items:=#[u1,u2]) (I.ok.hd hc) (IsTup.new s1.heap _) λ h' hx'=>?_)))
 have I3:=I2.kept (h':=h') (t':=s1.toks) λ b o e=>hx' b o (Nat.ne_of_lt (Heap.lt_size e)) e
 show wpAny _ _ (assignInOrder [λ v=>bindName X.env y v,λ v=>bindName X.env x v] [u2,u1] >>= λ _=>pure Flow.next) _ _ _
 refine wpAny_bind (assignInOrder_cons (wpAny_bindName (ZBr I3 hN hj (.inl hy) rw' (λ s2 I4=>?_) (.inr hy))))
 refine assignInOrder_cons (wpAny_bindName (ZBr I4 hN hi (.inl hx) rv (λ s3 I5=>assignInOrder_nil (wpAny_pure ?_)) (.inr hx)))
 rw [List.set_comm _ _ (Ne.symm hij)] at I5
 exact ⟨_,H1,I5,q1⟩
def tAug (i:Nat) (te:TE) (ti:TIp):TS:=λ D σ H=>∃ x,σ[i]? = some (some x)/\te σ H λ y H1=>ti x y H1 λ z H2=>D.nx (σ.set i (some z)) H2
theorem ZOL {i:Nat} {x:Str} {e:Expr} {te:TE} {op:Operator} {ti:TIp} {pos':Pos} (hN:X.N.Nodup) (hi:X.N[i]? = some x) (hx:Loc X.env.scope x) (he:PE X e te) (ho:PIp X op ti) (hf:X.fn x=true ∨ X.env.scope.names.lookup x=some .local:=by first | exact .inl rfl | exact .inr rfl | assumption) :
  PS X (.AugAssign (.Name x pos') op e pos) (tAug i te ti):=by
 intro pins s σ H D I h
 obtain ⟨v,e1,h⟩:=h
 obtain ⟨m,hn,hl⟩:=I.loc
 have vis:Vis X.env.scope x:=by rcases hx with k | k; exact .inl k; exact .inr (.inl k)
 obtain ⟨u,r,l⟩:=hl i x v hi e1 vis
 refine wpAny_AugAssign_Name ?_
 have go:wpAny (model X.prog X.w) X.A (eval e X.env) (λ w s₂=>wpAny (model X.prog X.w) X.A (inplaceOp op u w) (λ r s₃=>wpAny (model X.prog X.w) X.A (storeName X.env x r) (λ _=>SP X pins D .next) X.xe s₃) X.xe s₂) X.xe s:=by
  refine thn (he pins s σ H _ I h) λ w s1 ⟨y,H1,I1,r1,q1⟩=>?_
  refine thn (ho pins s1 σ H1 v y u w _ I1 r r1 q1) λ z s2 ⟨zv,H2,I2,r2,q2⟩=>?_
  exact ZBr I2 hN hi hx r2 (λ s3 I3=>⟨_,H2,I3,q2⟩) hf
 rcases l with ⟨hk,hm⟩ | ⟨hk,c,hc,hcell⟩
 ·exact wpAny_loadName_local I.ok.kind hk hn hm go
 ·rcases hk with hk | hk
  ·exact wpAny_loadName_cell I.ok.kind hk hc hcell go
  ·rcases hx with k | k
   ·have:X.env.scope.names.lookup x=some .free:=hk
    rw [k] at this; cases this
   ·have:X.env.scope.names.lookup x=some .free:=hk
    rw [k] at this; cases this
end
section
variable {X:Cx} {pos:Pos}
end
structure It where
 go:Nat->Hp->Prop
 yld:Nat->Hp->V->Hp->Prop
 stop:Nat->Hp->Prop
def ZFC (X:Cx) (pins:List (Addr × Obj)) (H:Hp) (b:Addr):Prop :=
 H b=none/\b ≠ X.env.locals/\b ∉ X.fs/\(b ∈ X.ex ∨ X.s₀.heap.objs.size<=b)/\(∀ x c,X.env.cells.lookup x=some c->c ≠ b)/\∀ p ∈ X.pn ++ pins,p.1 ≠ b
theorem Inv.fpOk {X:Cx} {pins:List (Addr × Obj)} {σ : St} {H H':Hp} {s:Shared} {b:Addr} (I:Inv X pins σ H s) (hb:s.heap.objs.size<=b) (hn:H' b=none):ZFC X pins H' b:=by
 refine ⟨hn,Nat.ne_of_gt (Nat.lt_of_lt_of_le I.lt hb),I.nofs hb,.inr (Nat.le_trans I.sz hb),λ x c e z=>?_,λ p hp z=>?_⟩
 ·obtain ⟨v,q⟩:=I.cell x c e
  exact absurd (Nat.lt_of_lt_of_le q.lt (by rw [z]; exact hb)) (Nat.lt_irrefl _)
 ·exact absurd (Nat.lt_of_lt_of_le (Heap.lt_size (I.pin p hp).1) (by rw [z]; exact hb)) (Nat.lt_irrefl _)
structure Turn (P:Program) (w:World) (K:PySem.W.Frag) (tg:Expr) (J:It) (fp:List Addr) (it:Addr) (tn:Nat->Heap->Prop):Prop where
  mem:it ∈ fp
  obj:∀ i h,tn i h->∀ b ∈ fp,∃ o,h.get? b=some o/\∀ v,o.data ≠ .cell v
  keep:∀ i h h',tn i h->(∀ b ∈ fp,∀ o,h.get? b=some o->h'.get? b=some o)->tn i h'
  item:∀ (X:Cx),X.prog=P->X.w=w->X.K=K->X.calm=true->∀ (i:Nat) (pins:List (Addr × Obj)) (s:Shared) (σ : St) (H:Hp) (E:Value->Shared->Prop),Inv X pins σ H s->(∀ b ∈ fp,ZFC X pins H b)->tn i s.heap->J.go i H ->
    wpAny (model P w) X.A (pyNext (.ref it)) (λ r s1=>∃ u,r=some u /\
      wpAny (model P w) X.A (letOwnedTupleGo tg (.ref it) u) (λ _ s2=>∃ x H',Inv X pins σ H' s2/\Z8 x u/\J.yld i H x H'/\tn (i+1) s2.heap/\∀ b ∈ fp,H' b=none) E s1) E s
  done:∀ (X:Cx),X.prog=P->X.w=w->X.K=K->X.calm=true->∀ (i:Nat) (pins:List (Addr × Obj)) (s:Shared) (σ : St) (H:Hp) (E:Value->Shared->Prop),Inv X pins σ H s->(∀ b ∈ fp,ZFC X pins H b)->tn i s.heap->J.stop i H ->
    wpAny (model P w) X.A (pyNext (.ref it)) (λ r s1=>r=none/\Inv X pins σ H s1) E s
  self:∀ (A:Around) (i:Nat) (s:Shared) (Q:Value->Shared->Prop) (E:Value->Shared->Prop),tn i s.heap->Q (.ref it) s->wpAny (model P w) A (pyIter (.ref it)) Q E s
abbrev TI:=St->Hp->(It->Hp->Prop)->Prop
def PIE (X:Cx) (pins:List (Addr × Obj)) (σ : St) (tg:Expr) (R:It->Hp->Prop) (itv:Value) (s2:Shared):Prop :=
 ∃ (it:Addr) (fp:List Addr) (tn:Nat->Heap->Prop) (J:It) (H':Hp),itv=.ref it/\Inv X pins σ H' s2/\Turn X.prog X.w X.K tg J fp it tn/\tn 0 s2.heap/\(∀ b ∈ fp,ZFC X pins H' b)/\R J H'
def PI (X:Cx) (tg iter:Expr) (wi:TI):Prop :=
 ∀ (pins:List (Addr × Obj)) (s:Shared) (σ : St) (H:Hp) (R:It->Hp->Prop),Inv X pins σ H s->wi σ H R ->
  wpAny (model X.prog X.w) X.A (eval iter X.env) (λ v s1=>wpAny (model X.prog X.w) X.A (pyIter v) (PIE X pins σ tg R) X.xe s1) X.xe s
theorem ZLC {M:Model} {A:Around} {E:Value->Shared->Prop} {s:Shared} {tg:Expr} {it:Addr} {u:Value} {o:Obj} {n:String} {vs:Array Value} {Q:Unit->Shared->Prop} (ho:s.heap.get? it=some o) (hc:o.cls=.type n) (hd:o.data=.fields vs)
    (hn:["enumerate","zip","dict_itemiterator","dict_reverseitemiterator","odict_iterator","itertools.zip_longest","itertools.pairwise"].contains n=false) (hQ:Q () s):wpAny M A (letOwnedTupleGo tg (.ref it) u) Q E s:=by
  unfold letOwnedTupleGo
  cases tg <;> first
    | exact wpAny_pure hQ
    | (cases u <;> first
        | exact wpAny_pure hQ
        | (refine wpAny_bind (wpAny_load ho ?_)
           rw [hc,hd]
           show wpAny M A (if (["enumerate","zip","dict_itemiterator","dict_reverseitemiterator","odict_iterator","itertools.zip_longest","itertools.pairwise"].contains n && vs[0]? == some (rawInt _))=true then _ else _) Q E s
           rw [if_neg (by intro h; rw [hn,Bool.false_and] at h; cases h)]
           exact wpAny_pure hQ))
def Itl (K:PySem.W.Frag) (a:Addr):It :=
 ⟨λ i H=>∃ xs x,SqL K H a xs/\xs[i]? = some x,λ i H x H'=>H'=H/\∀ xs,SqL K H a xs->xs[i]? = some x,λ i H=>∃ xs,SqL K H a xs/\xs.length<=i⟩
def Itt (K:PySem.W.Frag) (a:Addr):It :=
 ⟨λ i H=>∃ xs x,SqT K H a xs/\xs[i]? = some x,λ i H x H'=>H'=H/\∀ xs,SqT K H a xs->xs[i]? = some x,λ i H=>∃ xs,SqT K H a xs/\xs.length<=i⟩
def Itr (lo:Int) (n:Nat):It:=⟨λ i _=>i < n,λ i H x H'=>H'=H/\x=.int (lo+i),λ i _=>n<=i⟩
theorem ZKX {P:Program} {w:World} {K:PySem.W.Frag} {tg:Expr} (a it:Addr):Turn P w K tg (Itl K a) [it] it (λ i h=>h.IsListIter it a i) where
 mem:=by simp
 obj:=λ i h st b hb=>by
  have e:b=it:=by simpa using hb
  subst e
  obtain ⟨o,e,c,d⟩:=st
  exact ⟨o,e,λ v z=>by rw [d] at z; cases z⟩
 keep:=λ i h h' st k=>st.at λ o e=>k it (by simp) o e
 item:=by
  intro X hP hw hK hc i pins s σ H E I hf st hg
  subst hP hw hK
  obtain ⟨xs,x,hq,hx⟩:=hg
  obtain ⟨its,rv,p,hz⟩:=I.list hq
  obtain ⟨u,hu,ru⟩:=rv.get hx
  obtain ⟨f0,f1,f2,f3,f4,f5⟩:=hf it (by simp)
  refine wpAny_pyNext_list_item st p.isList (x:=u) (by simpa using hu) λ h' st' sb=>?_
  have I1:Inv X pins σ H { s with heap:=h' }:=I.turned (t':=s.toks) (λ b o hb e=>(sb.2 b hb).trans e) f0 f1 f3 f4 f5
  obtain ⟨o,e,c,d⟩:=id st'
  exact ⟨u,rfl,ZLC (s:={ s with heap:=h' }) e c d (by decide) ⟨x,H,I1,ru,⟨rfl,λ ys hy=>by rw [I.list_inj hy hq]; exact hx⟩,st',λ b hb=>(hf b hb).1⟩⟩
 done:=by
  intro X hP hw hK hc i pins s σ H E I hf st hg
  subst hP hw hK
  obtain ⟨xs,hq,hx⟩:=hg
  obtain ⟨its,rv,p,hz⟩:=I.list hq
  obtain ⟨f0,f1,f2,f3,f4,f5⟩:=hf it (by simp)
  have hl:=rv.length
  exact wpAny_pyNext_list_end (I.ok.hd hc) st p.isList (by simp; omega) λ h' eb=>⟨rfl,I.turned (t':=s.toks) (λ b o hb e=>eb b o hb e) f0 f1 f3 f4 f5⟩
 self:=λ _ _ _ _ _ st h=>wpAny_pyIter_listiter st h
theorem ZJI {P:Program} {w:World} {K:PySem.W.Frag} {tg:Expr} (a it:Addr):Turn P w K tg (Itt K a) [it] it (λ i h=>h.IsTupleIter it a i) where
 mem:=by simp
 obj:=λ i h st b hb=>by
  have e:b=it:=by simpa using hb
  subst e
  obtain ⟨o,e,c,d⟩:=st
  exact ⟨o,e,λ v z=>by rw [d] at z; cases z⟩
 keep:=λ i h h' st k=>st.at λ o e=>k it (by simp) o e
 item:=by
  intro X hP hw hK hc i pins s σ H E I hf st hg
  subst hP hw hK
  obtain ⟨xs,x,hq,hx⟩:=hg
  obtain ⟨its,rv,p,hz⟩:=I.tuple hq
  obtain ⟨u,hu,ru⟩:=rv.get hx
  obtain ⟨f0,f1,f2,f3,f4,f5⟩:=hf it (by simp)
  refine wpAny_pyNext_tuple_item st (show s.heap.IsTuple a its.toArray from p) (x:=u) (by simpa using hu) λ h' st' sb=>?_
  have I1:Inv X pins σ H { s with heap:=h' }:=I.turned (t':=s.toks) (λ b o hb e=>(sb.2 b hb).trans e) f0 f1 f3 f4 f5
  obtain ⟨o,e,c,d⟩:=id st'
  exact ⟨u,rfl,ZLC (s:={ s with heap:=h' }) e c d (by decide) ⟨x,H,I1,ru,⟨rfl,λ ys hy=>by rw [I.tuple_inj hy hq]; exact hx⟩,st',λ b hb=>(hf b hb).1⟩⟩
 done:=by
  intro X hP hw hK hc i pins s σ H E I hf st hg
  subst hP hw hK
  obtain ⟨xs,hq,hx⟩:=hg
  obtain ⟨its,rv,p,hz⟩:=I.tuple hq
  obtain ⟨f0,f1,f2,f3,f4,f5⟩:=hf it (by simp)
  have hl:=rv.length
  exact wpAny_pyNext_tuple_end (I.ok.hd hc) st (show s.heap.IsTuple a its.toArray from p) (by simp; omega) λ h' eb=>⟨rfl,I.turned (t':=s.toks) (λ b o hb e=>eb b o hb e) f0 f1 f3 f4 f5⟩
 self:=λ _ _ _ _ _ st h=>wpAny_pyIter_tupleiter st h
theorem ZIc {P:Program} {w:World} {K:PySem.W.Frag} {tg:Expr} (it:Addr) (lo:Int) (n:Nat):Turn P w K tg (Itr lo n) [it] it (λ i h=>IsRangeIter h it (lo+(i:Nat) * 1) ((n:Int) - (i:Nat)) 1) where
 mem:=by simp
 obj:=λ i h st b hb=>by
  have e:b=it:=by simpa using hb
  subst e
  exact ⟨_,st,λ v z=>by
   have z':Data.fields _=Data.cell v:=z
   cases z'⟩
 keep:=λ i h h' st k=>k it (by simp) _ st
 item:=by
  intro X hP hw hK hc i pins s σ H E I hf st hg
  subst hP hw hK
  obtain ⟨f0,f1,f2,f3,f4,f5⟩:=hf it (by simp)
  have W:=Walks.range (prog:=X.prog) (w:=X.w) (I.ok.hd hc) it lo 1 n
  refine W.item i s _ _ hg st λ v h' tk hv st' kk=>?_
  obtain ⟨t,rfl⟩:=hv
  have I1:Inv X pins σ H { s with heap:=h',toks:=tk }:=I.turned (λ b o hb e=>kk b o (by simpa using hb) e) f0 f1 f3 f4 f5
  refine ⟨_,rfl,ZLC (s:={ s with heap:=h',toks:=tk }) (n:="range_iterator") st' rfl rfl (by decide) ⟨.int (lo+i),H,I1,⟨t,?_⟩,⟨rfl,rfl⟩,st',λ b hb=>(hf b hb).1⟩⟩
  rw [Int.mul_one]
 done:=by
  intro X hP hw hK hc i pins s σ H E I hf st hg
  subst hP hw hK
  obtain ⟨f0,f1,f2,f3,f4,f5⟩:=hf it (by simp)
  exact wpAny_pyNext_range_end (I.ok.hd hc) st (by have:n<=i:=hg; omega) λ h' eb=>⟨rfl,I.turned (t':=s.toks) (λ b o hb e=>eb b o hb e) f0 f1 f3 f4 f5⟩
 self:=λ _ _ _ _ _ st h=>wpAny_pyIter_rangeiter st h
end L2
namespace L2
open PySem PySem.Spec PyProof.Rows
section
variable {X:Cx} {tg:Expr}
theorem ZIV {pins:List (Addr × Obj)} {σ : St} {H:Hp} {s:Shared} {R:It->Hp->Prop} {E:Value->Shared->Prop} {lo hi:Int} {t u v:Tok} {tk:Nat} (I:Inv X pins σ H s) (h1 : -(2 ^ 62)<=lo) (h2:lo < 2 ^ 62) (h3 : -(2 ^ 62)<=hi) (h4:hi < 2 ^ 62)
  (q:R (Itr lo (hi - lo).toNat) H):wpAny (model X.prog X.w) X.A (pyIter (.ref s.heap.objs.size)) (PIE X pins σ tg R) E { s with heap:=s.heap.push { cls:=.type "range",data:=.fields #[.int lo t,.int hi u,.int 1 v] },toks:=tk }:=by
 refine wpAny_pyIter_range (IsRange.new ..) (small_one h1 h2 h3 h4) ?_
 have I1:Inv X pins σ H { s with heap:=s.heap.push { cls:=.type "range",data:=.fields #[.int lo t,.int hi u,.int 1 v] },toks:=tk }:=I.kept λ b o e=>Heap.get?_push_of_some _ e
 refine ⟨(s.heap.push { cls:=.type "range",data:=.fields #[.int lo t,.int hi u,.int 1 v] }).objs.size,[(s.heap.push { cls:=.type "range",data:=.fields #[.int lo t,.int hi u,.int 1 v] }).objs.size],_,_,H,rfl,
  I1.kept (t':=tk) λ b o e=>Heap.get?_push_of_some _ e,ZIc _ lo (hi - lo).toNat,?_,λ b hb=>?_,q⟩
 ·have e1:lo+((0:Nat):Int) * 1=lo:=by simp
  have e2:(((hi - lo).toNat:Nat):Int) - ((0:Nat):Int)=Builtin.Range.rangeSize lo hi 1:=by rw [rangeSize_one]; split <;> omega
  show IsRangeIter _ _ (lo+((0:Nat):Int) * 1) ((((hi - lo).toNat:Nat):Int) - ((0:Nat):Int)) 1
  rw [e1,e2]
  exact Heap.get?_push_size _ rfl
 ·have e:b=(s.heap.push { cls:=.type "range",data:=.fields #[.int lo t,.int hi u,.int 1 v] }).objs.size:=by simpa using hb
  subst e
  exact I1.fpOk (Nat.le_refl _) (I1.hok.fresh (Nat.le_refl _))
def iRng1 (ta:TA):TI:=λ σ H R=>ta σ H λ vs H1=>∃ j:Int,vs=[.int j]/\-(2 ^ 62)<=j/\j < 2 ^ 62/\R (Itr 0 j.toNat) H1
def iRng2 (ta:TA):TI:=λ σ H R=>ta σ H λ vs H1=>∃ i j:Int,vs=[.int i,.int j]/\(-(2 ^ 62)<=i/\i < 2 ^ 62/\-(2 ^ 62)<=j/\j < 2 ^ 62)/\R (Itr i (j - i).toNat) H1
theorem ZKN {a:Expr} {ta:TA} {p pos:Pos} (hg:Gl X "range") (hm:X.mg "range" = none) (ha:PA X [a] ta) (hs:starEach [a] X.env=[(false,eval a X.env)]:=by rfl):PI X tg (.Call (.Name "range" p) [a] [] pos) (iRng1 ta):=by
 intro pins s σ H R I h
 refine Call_ (ZFT I hg hm boot_range (PyProof.Rows.callWith_type1 (thn (ha pos pins s σ H _ I h) λ us s1 ⟨vs,H1,I1,r1,q1⟩=>?_) hs rfl))
 obtain ⟨j,e,q1,q2,q⟩:=q1
 subst e
 cases r1 with
 | cons r rr =>
  cases rr
  obtain ⟨t,rfl⟩:=r
  exact call_range_1 (ZIV I1 (by omega) (by omega) q1 q2 (by simpa using q))
theorem ZKG {a b:Expr} {ta:TA} {p pos:Pos} (hg:Gl X "range") (hm:X.mg "range" = none) (ha:PA X [a,b] ta) (hs:starEach [a,b] X.env=[(false,eval a X.env),(false,eval b X.env)]:=by rfl) (hs2:starEach [b] X.env=[(false,eval b X.env)]:=by rfl) :
  PI X tg (.Call (.Name "range" p) [a,b] [] pos) (iRng2 ta):=by
 intro pins s σ H R I h
 refine Call_ (ZFT I hg hm boot_range (PyProof.Rows.callWith_type1 (thn (ha pos pins s σ H _ I h) λ us s1 ⟨vs,H1,I1,r1,q1⟩=>?_) (by rw [hs,hs2]) (by rw [hs2]; rfl)))
 obtain ⟨i,j,e,⟨q1,q2,q3,q4⟩,q⟩:=q1
 subst e
 cases r1 with
 | cons r rr =>
  cases rr with
  | cons r' rr =>
   cases rr
   obtain ⟨t,rfl⟩:=r
   obtain ⟨t',rfl⟩:=r'
   exact call_range_2 (ZIV I1 q1 q2 q3 q4 q)
def tFor (wi:TI) (g:TG) (tb:TS):TS:=λ D σ H=>wi σ H λ J H1=>∃ W:Nat->Nat->St->Hp->Prop,(∃ m,W 0 m σ H1)/\∀ i m σ H,W i m σ H ->
 (J.stop i H/\D.nx σ H) ∨ (J.go i H/\∃ N:St->Hp->Prop,(∀ σ' H',N σ' H'->∃ m',m' < m/\W (i+1) m' σ' H')/\∀ x H',J.yld i H x H'->g x σ H' λ σ2 H2=>tb { D with nx:=N,ct:=N,bk:=D.nx } σ2 H2)
def ZEt (fp:List Addr) (h:Heap):List (Addr × Obj):=fp.filterMap λ b=>(h.get? b).map λ o=>(b,o)
theorem ZCu {fp:List Addr} {h:Heap} {b:Addr} {o:Obj} (hb:b ∈ fp) (e:h.get? b=some o):(b,o) ∈ ZEt fp h:=List.mem_filterMap.mpr ⟨b,hb,by rw [e]; rfl⟩
theorem ZKM {fp:List Addr} {h:Heap} {p:Addr × Obj} (hp:p ∈ ZEt fp h):p.1 ∈ fp/\h.get? p.1=some p.2:=by
 obtain ⟨b,hb,e⟩:=List.mem_filterMap.mp hp
 cases q:h.get? b with
 | none=>rw [q] at e; cases e
 | some o =>
  rw [q] at e
  have e':(b,o)=p:=Option.some.inj e
  subst e'
  exact ⟨hb,q⟩
theorem Inv.pinned {pins:List (Addr × Obj)} {σ : St} {H:Hp} {s:Shared} {fp:List Addr} (I:Inv X pins σ H s) (hf:∀ b ∈ fp,ZFC X pins H b) (ho:∀ b ∈ fp,∃ o,s.heap.get? b=some o/\∀ v,o.data ≠ .cell v):Inv X (pins ++ ZEt fp s.heap) σ H s :=
 I.pins_of λ p hp=>(List.mem_append.mp hp).elim (λ z=>I.pin p (List.mem_append_right _ z)) λ z=>by
  obtain ⟨hb,e⟩:=ZKM z
  obtain ⟨f0,f1,f2,_⟩:=hf p.1 hb
  obtain ⟨o,e',d⟩:=ho p.1 hb
  rw [e] at e'; cases e'
  exact ⟨e,f0,f1,f2,d⟩
theorem Inv.unpinned {pins pl:List (Addr × Obj)} {σ : St} {H:Hp} {s:Shared} (I:Inv X (pins ++ pl) σ H s):Inv X pins σ H s:=I.pins_of λ p hp=>I.pin p (List.mem_append_right _ (List.mem_append_left _ hp))
theorem ZN8 {iter:Expr} {body:List Stmt} {wi:TI} {g:TG} {tb:TS} {pos:Pos} (hp:PassesOwn (model X.prog X.w) X.A X.env X.xe) (hc:X.calm=true) (hi:PI X tg iter wi) (hg:PG X tg g) (hb:PSs X body tb)
  (hs:∀ x,foldedSetIterable iter X.env x=pure x:=by intro _; rfl):PS X (.For tg iter body [] pos) (tFor wi g tb):=by
 intro pins s σ H D I h
 refine wpAny_For (thn (hi pins s σ H _ I h) λ v s1 h1=>thn h1 λ itv s2 h2=>?_) hs
 obtain ⟨it,fp,tn,J,H2,e,I2,T,st2,f2,W,⟨m0,w0⟩,turn⟩:=h2
 subst e
 -- what stays true of the iterator's objects through the loop
 have stat:∀ {H':Hp},(∀ b ∈ fp,H' b=none)->∀ b ∈ fp,ZFC X pins H' b:=λ hn b hb=>⟨hn b hb,(f2 b hb).2⟩
 refine codeAny_forLoop_any (λ n s'=>∃ i σ' H',Inv X pins σ' H' s'/\tn i s'.heap/\(∀ b ∈ fp,H' b=none)/\W i n σ' H') ?_ m0 ⟨0,σ,H2,I2,st2,λ b hb=>(f2 b hb).1,w0⟩
 rintro n s3 ⟨i,σ3,H3,I3,st3,fr3,w3⟩
 rcases turn i n σ3 H3 w3 with ⟨stop,qn⟩ | ⟨go,N,hN,step⟩
 ·refine wpAny_passesOwn hp (thn (T.done X rfl rfl rfl hc i pins s3 σ3 H3 X.xe I3 (stat fr3) st3 stop) λ r s4 ⟨hr,I4⟩=>?_)
  subst hr
  exact wpAny_execs_nil ⟨σ3,H3,I4,qn⟩
 ·refine wpAny_passesOwn hp (thn (T.item X rfl rfl rfl hc i pins s3 σ3 H3 X.xe I3 (stat fr3) st3 go) λ r s4 ⟨u,hr,h4⟩=>?_)
  subst hr
  refine wpAny_passesOwn hp (thn h4 λ _ s5 ⟨x,H5,I5,r5,y5,st5,fr5⟩=>?_)
  have I5':=I5.pinned (stat fr5) (T.obj _ _ st5)
  refine wpAny_passesOwn hp (thn (hg _ s5 σ3 H5 x u _ I5' r5 (step x H5 y5)) λ _ s6 ⟨σ6,H6,I6,q6⟩=>?_)
  refine wpAny_passesOwn hp (thn (hb _ s6 σ6 H6 _ I6 q6) λ f s7 q7=>?_)
  have again:∀ {σ7:St} {H7:Hp},Inv X (pins ++ ZEt fp s5.heap) σ7 H7 s7->N σ7 H7->∃ m,m < n/\∃ i σ' H',Inv X pins σ' H' s7/\tn i s7.heap/\(∀ b ∈ fp,H' b=none)/\W i m σ' H':=λ {σ7 H7} I7 n7=>by
   obtain ⟨m',hm,w7⟩:=hN σ7 H7 n7
   refine ⟨m',hm,i+1,σ7,H7,I7.unpinned,T.keep _ _ _ st5 λ b hb o e=>(I7.pin (b,o) (List.mem_append_right _ (List.mem_append_right _ (ZCu hb e)))).1,λ b hb=>?_,w7⟩
   obtain ⟨o,e,d⟩:=T.obj _ _ st5 b hb
   exact (I7.pin (b,o) (List.mem_append_right _ (List.mem_append_right _ (ZCu hb e)))).2.1
  cases f with
  | next=>obtain ⟨σ7,H7,I7,n7⟩:=q7; exact again I7 n7
  | cont=>obtain ⟨σ7,H7,I7,n7⟩:=q7; exact again I7 n7
  | brk=>obtain ⟨σ7,H7,I7,q7⟩:=q7; exact ⟨σ7,H7,I7.unpinned,q7⟩
  | ret v=>obtain ⟨x7,σ7,H7,I7,r7,q7⟩:=q7; exact ⟨x7,σ7,H7,I7.unpinned,r7,q7⟩
end
end L2
namespace L2
open PySem PySem.Spec PyProof.Rows
abbrev R2:=V->V->Hp->VK->Prop
def OpR (X:Cx) (f:Value->Value->Sem Value) (r:R2):Prop :=
 ∀ (pins:List (Addr × Obj)) (s:Shared) (σ : St) (H:Hp) (x y:V) (v u:Value) (Q:VK),Inv X pins σ H s->Z8 x v->Z8 y u->r x y H Q ->
  wpAny (model X.prog X.w) X.A (f v u) (EP X pins σ Q) X.xe s
def ZAG (X:Cx) (f:Value) (r:List V->Hp->VK->Prop):Prop :=
 ∀ (pins:List (Addr × Obj)) (s:Shared) (σ : St) (H:Hp) (xs:List V) (us:List Value) (Q:VK),Inv X pins σ H s->Zp xs us->r xs H Q ->
  wpAny (model X.prog X.w) X.A (call f us) (EP X pins σ Q) X.xe s
def tOp (r:R2) (ta tb:TE):TE:=λ σ H Q=>ta σ H λ x H1=>tb σ H1 λ y H2=>r x y H2 Q
def rI (C:Int->Int->Prop) (g:Int->Int->V):R2:=λ x y H Q=>∃ i j,x=.int i/\y=.int j/\C i j/\Q (g i j) H
def rI0 (g:Int->Int->V):R2:=λ x y H Q=>∃ i j,x=.int i/\y=.int j/\Q (g i j) H
section
variable {X:Cx} {a b c:Expr} {ta tb tc:TE} {pos:Pos}
theorem ZOY (ha:PE X a ta) (hb:PE X b tb) {pins:List (Addr × Obj)} {s:Shared} {σ : St} {H:Hp} {R:V->V->Hp->Prop} (I:Inv X pins σ H s)
  (h:ta σ H λ x H1=>tb σ H1 λ y H2=>R x y H2) {Q:Value->Shared->Prop} {f:Value->Value->Sem Value}
  (hf:∀ v u s2 x y H2,Inv X pins σ H2 s2->Z8 x v->Z8 y u->R x y H2->wpAny (model X.prog X.w) X.A (f v u) Q X.xe s2) :
  wpAny (model X.prog X.w) X.A (eval a X.env) (λ v s₁=>wpAny (model X.prog X.w) X.A (eval b X.env) (λ u s₂=>wpAny (model X.prog X.w) X.A (f v u) Q X.xe s₂) X.xe s₁) X.xe s:=by
 refine thn (ha pins s σ H _ I h) λ v s1 ⟨x,H1,I1,r1,q1⟩=>?_
 refine thn (hb pins s1 σ H1 _ I1 q1) λ u s2 ⟨y,H2,I2,r2,q2⟩=>?_
 exact hf v u s2 x y H2 I2 r1 r2 q2
theorem ZNl {op:Operator} {r:R2} (ho:OpR X (binaryOp op) r) (ha:PE X a ta) (hb:PE X b tb):PE X (.BinOp a op b pos) (tOp r ta tb):=by
 intro pins s σ H Q I h
 exact wpAny_BinOp (ZOY ha hb I h λ v u s2 x y H2 I2 rx ry q=>ho pins s2 σ H2 x y v u Q I2 rx ry q)
theorem opI {f:Value->Value->Sem Value} {C:Int->Int->Prop} {g:Int->Int->Int}
  (rule:∀ (i j:Int) (t u:Tok) (s:Shared) (Q:Value->Shared->Prop) (E:Value->Shared->Prop),C i j->Q (.int (g i j) s.toks) { s with toks:=s.toks+1 }->wpAny (model X.prog X.w) X.A (f (.int i t) (.int j u)) Q E s) :
  OpR X f (rI C λ i j=>.int (g i j)):=by
 intro pins s σ H x y v u Q I rx ry h
 obtain ⟨i,j,rfl,rfl,hc,q⟩:=h
 obtain ⟨t,rfl⟩:=rx
 obtain ⟨t',rfl⟩:=ry
 exact rule i j t t' s _ _ hc ⟨.int (g i j),H,I.tok _,⟨_,rfl⟩,q⟩
theorem ZPe {f:Value->Value->Sem Value} {g:Int->Int->Int}
  (rule:∀ (i j:Int) (t u:Tok) (s:Shared) (Q:Value->Shared->Prop) (E:Value->Shared->Prop),Q (.int (g i j) s.toks) { s with toks:=s.toks+1 }->wpAny (model X.prog X.w) X.A (f (.int i t) (.int j u)) Q E s) :
  OpR X f (rI0 λ i j=>.int (g i j)):=by
 intro pins s σ H x y v u Q I rx ry h
 obtain ⟨i,j,rfl,rfl,q⟩:=h
 obtain ⟨t,rfl⟩:=rx
 obtain ⟨t',rfl⟩:=ry
 exact rule i j t t' s _ _ ⟨.int (g i j),H,I.tok _,⟨_,rfl⟩,q⟩
theorem ZOB {f:Value->Value->Sem Value} {g:Int->Int->Bool}
  (rule:∀ (i j:Int) (t u:Tok) (s:Shared) (Q:Value->Shared->Prop) (E:Value->Shared->Prop),Q (.bool (g i j)) s->wpAny (model X.prog X.w) X.A (f (.int i t) (.int j u)) Q E s) :
  OpR X f (rI0 λ i j=>.bl (g i j)):=by
 intro pins s σ H x y v u Q I rx ry h
 obtain ⟨i,j,rfl,rfl,q⟩:=h
 obtain ⟨t,rfl⟩:=rx
 obtain ⟨t',rfl⟩:=ry
 exact rule i j t t' s _ _ ⟨.bl (g i j),H,I,rfl,q⟩
def ZPi (i j:Int):Prop:=0<=j/\j<=1000000/\i.natAbs < 2 ^ 64
def ZMA (i j:Int):Prop:=(-(2 ^ 64) < i/\i < 2 ^ 64) ∨ (-(2 ^ 64) < j/\j < 2 ^ 64)
theorem ZMA.ok {i j:Int} (h:ZMA i j):IntMulOk i j:=by
 rcases h with ⟨h1,h2⟩ | ⟨h1,h2⟩
 ·exact .of_left (intBits_le_64 h1 h2)
 ·exact .of_right (intBits_le_64 h1 h2)
theorem ZPT:OpR X (binaryOp .Add) (rI0 λ i j=>.int (i+j)):=ZPe λ _ _ _ _ _ _ _ q=>add_int q
theorem ZOH:OpR X (binaryOp .Sub) (rI0 λ i j=>.int (i - j)):=ZPe λ _ _ _ _ _ _ _ q=>sub_int q
theorem ZNz:OpR X (binaryOp .Mult) (rI ZMA λ i j=>.int (i * j)):=opI λ _ _ _ _ _ _ _ hc q=>mul_int q hc.ok
theorem ZOj:OpR X (binaryOp .Mod) (rI (λ _ j=>0 < j) λ i j=>.int (i % j)):=opI λ i j _ _ _ _ _ hc q=>by
 have h1:(0:Int) < j:=hc
 exact mod_int' (by omega) (by rw [Int.fmod_eq_emod_of_nonneg i (by omega)]; exact q)
theorem ZOC:OpR X (binaryOp .Pow) (rI ZPi λ i j=>.int (i ^ j.toNat)):=opI λ _ _ _ _ _ _ _ hc q=>pow_int_small hc.1 hc.2.1 hc.2.2 q
end
section
variable {X:Cx} {a b c:Expr} {ta tb tc:TE} {pos:Pos}
theorem ZPG {pins:List (Addr × Obj)} {σ : St} {H:Hp} {s:Shared} {Q:VK} {k k':Bool} (I:Inv X pins σ H s) (q:Q (.bl k) H) (e:k=k'):EP X pins σ Q (.bool k') s:=by
 subst e
 exact ⟨.bl k,H,I,rfl,q⟩
theorem op_lt:OpR X (compareOp .Lt) (rI0 λ i j=>.bl (decide (i < j))):=ZOB λ _ _ _ _ _ _ _ q=>lt_int q
theorem op_gt:OpR X (compareOp .Gt) (rI0 λ i j=>.bl (decide (j < i))):=ZOB λ _ _ _ _ _ _ _ q=>gt_int q
theorem op_ge:OpR X (compareOp .GtE) (rI0 λ i j=>.bl (decide (j<=i))):=ZOB λ _ _ _ _ _ _ _ q=>ge_int q
theorem ZKZ:OpR X (compareOp .Lt) (λ x y H Q=>∃ i j,x=.str i/\y=.str j/\Q (.bl (decide (i.cps.toList < j.cps.toList))) H):=by
 intro pins s σ H x y v u Q I rx ry h
 obtain ⟨i,j,rfl,rfl,q⟩:=h
 obtain ⟨t,rfl⟩:=rx
 obtain ⟨t',rfl⟩:=ry
 exact lt_str (ZPG I q rfl)
theorem ZW (b:Expr) {op:CmpOp} (h:op ≠ .In:=by decide) (h2:op ≠ .NotIn:=by decide):behindInMarks op b=false:=by
 have e1:(op == CmpOp.In)=false:=by cases op <;> first | rfl | exact absurd rfl h
 have e2:(op == CmpOp.NotIn)=false:=by cases op <;> first | rfl | exact absurd rfl h2
 cases b <;> simp [behindInMarks,e1,e2]
theorem ZM1 {op:CmpOp} {r:R2} (ho:OpR X (compareOp op) r) (ha:PE X a ta) (hb:PE X b tb) (hm:behindInMarks op b=false):PE X (.Compare a [op] [b] pos) (tOp r ta tb):=by
 intro pins s σ H Q I h
 exact wpAny_Compare1 (ZOY ha hb I h λ v u s2 x y H2 I2 rx ry q=>ho pins s2 σ H2 x y v u Q I2 rx ry q) hm
def ZNd (t:TE):TT:=λ σ H Q=>t σ H λ x H'=>∃ k,x=.bl k/\Q k H'
theorem ZM9 {op:CmpOp} {r:R2} (ho:OpR X (compareOp op) r) (ha:PE X a ta) (hb:PE X b tb) (hm:behindInMarks op b=false):PT X (.Compare a [op] [b] pos) (ZNd (tOp r ta tb)):=by
 intro pins s σ H Q I h
 refine wpAny_isTrue_Compare1 (thn (ha pins s σ H _ I h) λ v s1 ⟨x,H1,I1,r1,q1⟩=>thn (hb pins s1 σ H1 _ I1 q1) λ u s2 ⟨y,H2,I2,r2,q2⟩ =>
  thn (ho pins s2 σ H2 x y v u _ I2 r1 r2 q2) λ c s3 ⟨z,H3,I3,r3,k,e,q3⟩=>?_) hm
 subst e
 cases r3
 exact wpAny_truthy_bool ⟨H3,I3,q3⟩
theorem ZG6:(sizeLine:Nat) < 2 ^ 63:=by rw [sizeLine_eq]; decide
theorem ZI6:OpR X (binaryOp .Add) (λ x y H Q=>∃ i j,x=.str i/\y=.str j/\i.length+j.length<=sizeLine/\Q (.str (i ++ j)) H):=by
 intro pins s σ H x y v u Q I rx ry h
 obtain ⟨i,j,rfl,rfl,hz,q⟩:=h
 obtain ⟨t,rfl⟩:=rx
 obtain ⟨t',rfl⟩:=ry
 exact add_str (λ t' tk=>⟨.str (i ++ j),H,I.tok _,⟨_,rfl⟩,q⟩) hz
theorem ZDm {x:V} {us:List Value} (r:Zp [x] us):∃ u,us=[u]/\Z8 x u:=by
 cases r with
 | cons r1 r2=>cases r2; exact ⟨_,rfl,r1⟩
theorem vals2 {x y:V} {us:List Value} (r:Zp [x,y] us):∃ u w',us=[u,w']/\Z8 x u/\Z8 y w':=by
 cases r with
 | cons r1 r2 =>
  cases r2 with
  | cons r3 r4=>cases r4; exact ⟨_,_,rfl,r1,r3⟩
theorem ZLN:ZAG X (.builtin "abs") (λ xs H Q=>∃ i,xs=[.int i]/\Q (.int (if i < 0 then -i else i)) H):=by
 intro pins s σ H xs us Q I r h
 obtain ⟨i,rfl,q⟩:=h
 obtain ⟨u,rfl,t,rfl⟩:=ZDm r
 exact call_abs_int λ u tk=>⟨.int (if i < 0 then -i else i),H,I.tok _,⟨_,rfl⟩,q⟩
theorem ZKF (hc:X.calm=true):ZAG X (.builtin "min") (λ xs H Q=>∃ i j,xs=[.int i,.int j]/\Q (.int (if j < i then j else i)) H):=by
 intro pins s σ H xs us Q I r h
 obtain ⟨i,j,rfl,q⟩:=h
 obtain ⟨u,w',rfl,⟨t,rfl⟩,⟨t',rfl⟩⟩:=vals2 r
 refine min_two_ints (I.ok.hd hc) λ h' tk k=>⟨_,H,I.kept k,?_,q⟩
 by_cases hj:j < i
 ·rw [if_pos hj,if_pos hj]; exact ⟨_,rfl⟩
 ·rw [if_neg hj,if_neg hj]; exact ⟨_,rfl⟩
theorem ZKA:ZAG X (.type "int") (λ xs H Q=>(∃ i,xs=[.int i]/\Q (.int i) H) ∨ ∃ k,xs=[.bl k]/\Q (.int (if k then 1 else 0)) H):=by
 intro pins s σ H xs us Q I r h
 rcases h with ⟨i,rfl,q⟩ | ⟨k,rfl,q⟩
 ·obtain ⟨u,rfl,t,rfl⟩:=ZDm r
  exact call_int_int ⟨.int i,H,I,⟨_,rfl⟩,q⟩
 ·obtain ⟨u,rfl,r1⟩:=ZDm r
  cases r1
  exact call_int_bool ⟨.int (if k then 1 else 0),H,I.tok _,⟨_,rfl⟩,q⟩
end
end L2
namespace L2
open PySem PySem.Spec PyProof.Rows
structure ObjM (h:Heap) (x dx C:Addr) (mA:Str->Option Value):Prop where
 obj:h.get? x=some (PySem.W.instObj C dx)
 ns:h.Ns1 dx mA
 ne:dx ≠ x
theorem ZKW {h:Heap} {dx:Addr} {mA:Str->Option Value} (n:h.Ns1 dx mA):∃ od,h.get? dx=some od/\∀ name,PySem.W.lookIn name od=some (mA name):=by
 obtain ⟨o,es,ep,ho,hd,hk,_,hm⟩:=n
 refine ⟨o,ho,λ name=>?_⟩
 have e:=hm name
 unfold nsFind findBy at e
 rw [← Array.find?_toList] at e
 unfold PySem.W.lookIn
 rw [hd]
 dsimp only
 split
 ·rename_i y q
  rw [q] at e
  exact congrArg some e
 ·rename_i q
  rw [q] at e
  have a:es.toList.any (·.refKey)=false:=by
   rw [List.any_eq_false]
   intro y hy
   obtain ⟨z,t,hkey⟩:=hk y (Array.mem_toList_iff.mp hy)
   simp [DictEntry.refKey,hkey]
  have a' : ¬ es.toList.any (·.refKey)=true:=by rw [a]; exact Bool.false_ne_true
  rw [if_neg a']
  exact congrArg some e
theorem ObjM.look {h:Heap} {x dx C:Addr} {mA:Str->Option Value} (I:ObjM h x dx C mA):∃ od,PySem.W.InstAt h x (PySem.W.instObj C dx) C (some od)/\∀ name,PySem.W.lookIn name od=some (mA name) :=
 let ⟨od,ho,hl⟩:=ZKW I.ns
 ⟨od,⟨I.obj,rfl,rfl,ho⟩,hl⟩
section
variable {prog:Program} {w:World} {A:Around} {E:Value->Shared->Prop} {s:Shared} {K:PySem.W.Frag} {x dx C f:Addr} {mA:Str->Option Value} {name:Str} {v:Value}
theorem ZMm {expr:Bool} {Q:Value->Shared->Prop} (X:K.In s.heap) (I:ObjM s.heap x dx C mA) (hg:PySem.W.plainGet K C name=true) (hh:PySem.W.hasDictIn K C=true)
  (ha:PySem.W.findIn K (.ref C) name=some none) (hv:mA name=some v) (hv':PySem.W.handedIn v=true) (h:Q v { s with toks:=s.toks+1 }) :
  wpAny (model prog w) A (getAttr (.ref x) name expr) Q E s:=by
 obtain ⟨od,J,hl⟩:=I.look
 exact PySem.W.get_value X J (PySem.W.plainGet_of hg).1 (PySem.W.findObj_own hh ha rfl (by rw [hl,hv])) hv' h
theorem ZLu {pl:Sem Bool} {Q:Value × List Value->Shared->Prop} (X:K.In s.heap) (I:ObjM s.heap x dx C mA) (hg:PySem.W.plainGet K C name=true)
  (hf:PySem.W.findIn K (.ref C) name=some (some (.ref f))) (ht:PySem.W.isFn K (.ref f)=true) (hv:mA name=none) (h:Q (.ref f,[.ref x]) s) :
  wpAny (model prog w) A (getMethod (.ref x) name pl) Q E s:=by
 obtain ⟨od,J,hl⟩:=I.look
 exact PySem.W.method_fn X J (PySem.W.plainGet_of hg).1 (PySem.W.plainGet_of hg).2 hf (beq_iff_eq.mp ht) (by show (PySem.W.lookIn name od).map (·.isSome)=some false; rw [hl,hv]; rfl) h
theorem ZNU {ns:List Str} {Q:Unit->Shared->Prop} (X:K.In s.heap) (I:ObjM s.heap x dx C mA)
  (hs:PySem.W.findIn K (.ref C) "__setattr__" = some (some (.builtin "object.__setattr__"))) (hp:PySem.W.plainOver K C=true) (ht:PySem.W.takerIn K C name=some none) (hh:PySem.W.hasDictIn K C=true)
  (hw:PySem.Within mA ns) (hsz:ns.length<=sizeLine)
  (h:∀ h',ObjM h' x dx C (λ y=>if y=name then some v else mA y)->Heap.SameBut dx s.heap h'->Q () { s with heap:=h',toks:=s.toks+2 }) :
  wpAny (model prog w) A (setAttr (.ref x) name v) Q E s:=by
 obtain ⟨od,J,hl⟩:=I.look
 refine PySem.W.set_plain X J hs (PySem.W.osa_open (s:={ s with toks:=s.toks+1 }) (r:=none) X J hp ht λ b=>?_)
 obtain ⟨cd,hc,hd'⟩:=PySem.W.any_some hh
 have hx:s.heap.get? x=some ⟨.ref C,some dx,.plain,#[]⟩:=I.obj
 refine wpAny_bind (wpAny_pure (wpAny_bind (wpAny_bind (wpAny_loadPart hx (wpAny_bind (PySem.W.Looks.here (s:={ s with toks:=s.toks+1 }) (PySem.W.looks_clsIn X hc) ?_))))))
 rw [hd']
 refine wpAny_pure (a:=some dx) (wpAny_bind (wpAny_pure (wpAny_bind ?_)))
 refine wpAny_nsSet1 (s:={ s with toks:=s.toks+1 }) I.ns λ h' hn2 hs2=>?_
 obtain ⟨oD,esD,epD,hoD,hdD,hcD⟩:=hn2.count (PySem.Within.cons name v hw)
 refine wpAny_bind (wpAny_lookBehind hoD (by rw [hdD]; exact pastItsLine_dict (Nat.le_trans hcD (by rw [List.length_cons]; omega))) ?_)
 exact wpAny_pure (h _ ⟨(hs2.2 _ (Ne.symm I.ne)).trans I.obj,hn2,I.ne⟩ hs2)
theorem ZLQ {R:Result->Shared->Prop} {vs:List Value} {kw:List (Str × Value)} (X:K.In s.heap) (hm:PySem.W.makesIn K C=true)
  (hi:PySem.W.findIn K (.ref C) "__init__" = some (some (.ref f))) (hf:PySem.W.typeIn K (.ref f)=some (.type "function"))
  (h:codeAny (model prog w) (A.under (.builtin "type.__call__" ⟨.ref C :: vs,kw⟩)) (.call (.ref f) ⟨.ref (s.heap.objs.size+1) :: vs,kw⟩) (PySem.W.InitBack (s.heap.objs.size+1) R)
   { s with heap:=(s.heap.push PySem.W.emptyDict).push (PySem.W.instObj C s.heap.objs.size) }) :
  codeAny (model prog w) A (.call (.ref C) ⟨vs,kw⟩) R s:=by
 obtain ⟨hh,g,d,t,os⟩:=s
 exact PySem.W.make_core (PySem.W.makes_of X hm) (PySem.W.looks_findIn X hi) (λ self=>PySem.W.bind_fn X self hf) (.inl rfl) h
end
def ZCk (f:Str) (v:V):List (Str × V)->List (Str × V)
 | []=>[(f,v)]
 | (g,x) :: r=>if g=f then (g,v) :: r else (g,x) :: ZCk f v r
theorem ZE6 (f g:Str) (v:V):∀ fs:List (Str × V),(ZCk f v fs).lookup g=if g=f then some v else fs.lookup g
 | []=>by
  show List.lookup g [(f,v)]=_
  by_cases h:g=f
  ·have hb:(g == f)=true:=beq_iff_eq.mpr h
   simp only [List.lookup,hb,if_pos h]
  ·have hb:(g == f)=false:=beq_eq_false_iff_ne.mpr h
   simp only [List.lookup,hb,if_neg h]
 | (k,x) :: r=>by
  have ih:=ZE6 f g v r
  rw [show ZCk f v ((k,x) :: r)=(if k=f then (k,v) :: r else (k,x) :: ZCk f v r) from rfl]
  by_cases hk:k=f
  ·rw [if_pos hk]
   by_cases h:g=k
   ·have hb:(g == k)=true:=beq_iff_eq.mpr h
    simp only [List.lookup,hb,if_pos (h.trans hk)]
   ·have hb:(g == k)=false:=beq_eq_false_iff_ne.mpr h
    simp only [List.lookup,hb,if_neg (λ e:g=f=>h (e.trans hk.symm))]
  ·rw [if_neg hk]
   by_cases h:g=k
   ·have hb:(g == k)=true:=beq_iff_eq.mpr h
    simp only [List.lookup,hb,if_neg (λ e:g=f=>hk (h.symm.trans e))]
   ·have hb:(g == k)=false:=beq_eq_false_iff_ne.mpr h
    simp only [List.lookup,hb]
    exact ih
theorem ZEh (f:Str) (v:V):∀ fs:List (Str × V),f ∈ (ZCk f v fs).map (·.1)/\∀ g,g ∈ fs.map (·.1)->g ∈ (ZCk f v fs).map (·.1)
 | []=>⟨by simp [ZCk],λ g h=>by simp at h⟩
 | (k,x) :: r=>by
  obtain ⟨i1,i2⟩:=ZEh f v r
  rw [show ZCk f v ((k,x) :: r)=(if k=f then (k,v) :: r else (k,x) :: ZCk f v r) from rfl]
  by_cases hk:k=f
  ·rw [if_pos hk]
   subst hk
   exact ⟨by simp,λ g h=>by simpa using h⟩
  ·rw [if_neg hk]
   refine ⟨?_,λ g h=>?_⟩
   ·rw [List.map_cons]
    exact List.mem_cons_of_mem _ i1
   ·rw [List.map_cons] at h ⊢
    rcases List.mem_cons.mp h with e | e
    ·exact List.mem_cons.mpr (.inl e)
    ·exact List.mem_cons_of_mem _ (i2 g e)
theorem ZE4 (f:Str) (v:V):∀ fs:List (Str × V),(ZCk f v fs).length<=fs.length+1
 | []=>by simp [ZCk]
 | (k,x) :: r=>by
  have ih:=ZE4 f v r
  rw [show ZCk f v ((k,x) :: r)=(if k=f then (k,v) :: r else (k,x) :: ZCk f v r) from rfl]
  by_cases hk:k=f
  ·rw [if_pos hk,List.length_cons,List.length_cons]; omega
  ·rw [if_neg hk,List.length_cons,List.length_cons]; omega
theorem ZGL.some_of {v:V} {o:Option Value} (r:ZGL (some v) o):∃ u,o=some u/\Z8 v u:=by
 cases o with
 | none=>exact (show False from r).elim
 | some u=>exact ⟨u,rfl,r⟩
theorem ZGL.none_of {o:Option Value} (r:ZGL none o):o=none:=by
 cases o with
 | none=>rfl
 | some u=>exact (show False from r).elim
theorem ZKL {v:V} {u:Value} (r:Z8 v u):PySem.W.handedIn u=true:=by
 cases v with
 | non=>cases (show u=Value.none from r); rfl
 | bl b=>cases (show u=Value.bool b from r); rfl
 | int i=>obtain ⟨t,e⟩:=(show ∃ t,u=Value.int i t from r); cases e; rfl
 | str x=>obtain ⟨t,e⟩:=(show ∃ t,u=Value.str x t from r); cases e; rfl
 | byt b=>obtain ⟨t,e⟩:=(show ∃ t,u=Value.bytes b t from r); cases e; rfl
 | flt b=>obtain ⟨t,e⟩:=(show ∃ t,u=Value.float b t from r); cases e; rfl
 | ref a=>cases (show u=Value.ref a from r); rfl
 | ty n=>cases (show u=Value.type n from r); rfl
section
variable {P:Program} {w:World} {H H':Hp} {h h':Heap} {a C dx:Addr} {fs fs':List (Str × V)}
theorem ZGy (hok:HOk P w H h) (e:H a=some (.ins C dx fs)):∃ mA,ObjM h a dx C mA/\(∀ f,ZGL (fs.lookup f) (mA f))/\PySem.Within mA (fs.map (·.1))/\fs.length<=1000/\H dx=some (.own a):=by
 obtain ⟨d,z,ne,ob,mA,n,r,q⟩:=(show ZCD P w H h a (.ins C dx fs) from hok a _ e)
 exact ⟨mA,⟨ob,n,ne⟩,r,q,z,d⟩
end
structure Cls (K:PySem.W.Frag) (C:Addr):Prop where
 pg:PySem.W.plainGet K C Str.empty=true
 hd:PySem.W.hasDictIn K C=true
 po:PySem.W.plainOver K C=true
 sa:PySem.W.findIn K (.ref C) "__setattr__" = some (some (.builtin "object.__setattr__"))
theorem Cls.get {K:PySem.W.Frag} {C:Addr} (c:Cls K C) (f:Str):PySem.W.plainGet K C f=true:=c.pg
def ZDZ (K:PySem.W.Frag) (C:Addr) (f:Str):Prop:=PySem.W.findIn K (.ref C) f=some none
theorem ZDZ.taker {K:PySem.W.Frag} {C:Addr} {f:Str} (n:ZDZ K C f):PySem.W.takerIn K C f=some none:=by
 unfold PySem.W.takerIn
 rw [show PySem.W.findIn K (.ref C) f=some none from n]
 rfl
structure Meth (K:PySem.W.Frag) (C:Addr) (m:Str) (f:Addr):Prop where
 at_:PySem.W.findIn K (.ref C) m=some (some (.ref f))
 fn:PySem.W.isFn K (.ref f)=true
 kp:PySem.W.keepIn K (.ref f)=true
section
variable {X:Cx} {pins:List (Addr × Obj)} {σ : St} {H:Hp} {s:Shared} {a C dx:Addr} {fs:List (Str × V)} {f:Str} {v:V} {A:Around} {E:Value->Shared->Prop}
theorem ZIr {b:Bool} {Q:Value->Shared->Prop} (I:Inv X pins σ H s) (e:H a=some (.ins C dx fs)) (c:Cls X.K C) (n:ZDZ X.K C f) (l:fs.lookup f=some v)
  (h:∀ u s',Inv X pins σ H s'->Z8 v u->Q u s'):wpAny (model X.prog X.w) A (getAttr (.ref a) f b) Q E s:=by
 obtain ⟨mA,O,r,_,_,_⟩:=ZGy I.hok e
 obtain ⟨u,hu,ru⟩:=ZGL.some_of (v:=v) (o:=mA f) (by rw [← l]; exact r f)
 exact ZMm I.kIn O (c.get f) c.hd n hu (ZKL ru) (h u _ (I.tok _) ru)
theorem ZIt {m:Str} {g:Addr} {pl:Sem Bool} {Q:Value × List Value->Shared->Prop} (I:Inv X pins σ H s) (e:H a=some (.ins C dx fs)) (c:Cls X.K C) (k:Meth X.K C m g) (l:fs.lookup m=none)
  (h:Q (.ref g,[.ref a]) s):wpAny (model X.prog X.w) A (getMethod (.ref a) m pl) Q E s:=by
 obtain ⟨mA,O,r,_,_,_⟩:=ZGy I.hok e
 have hn:mA m=none:=ZGL.none_of (by rw [← l]; exact r m)
 exact ZLu I.kIn O (c.get m) k.at_ k.fn hn h
theorem ZIq {y:V} {u:Value} {Q:Unit->Shared->Prop} (I:Inv X pins σ H s) (e:H a=some (.ins C dx fs)) (c:Cls X.K C) (n:ZDZ X.K C f) (hl:fs.length < 1000) (ry:Z8 y u)
  (h:∀ s',Inv X pins σ (upd H a (.ins C dx (ZCk f y fs))) s'->Q () s'):wpAny (model X.prog X.w) A (setAttr (.ref a) f u) Q E s:=by
 obtain ⟨mA,O,r,wi,_,ho⟩:=ZGy I.hok e
 have hz:(fs.map (·.1)).length<=sizeLine:=by rw [List.length_map,sizeLine_eq]; omega
 refine ZNU I.kIn O c.sa c.po n.taker c.hd wi hz λ h' O' sb=>h _ ?_
 have hd:∃ o,h'.get? dx=some o:=let ⟨o,_,_,e',_⟩:=O'.ns; ⟨o,e'⟩
 refine I.write (x:=a) (e:=dx) (by rw [e]; exact True.intro) (.inr ho) (λ b q hb z=>(sb.2 b hb).trans z) hd ?_
 refine ⟨by rw [Zb O.ne]; exact ho,?_,O.ne,O'.obj,_,O'.ns,λ g=>?_,λ g hg=>?_⟩
 ·have:=ZE4 f y fs; omega
 ·show ZGL ((ZCk f y fs).lookup g) (if g=f then some u else mA g)
  rw [ZE6]
  by_cases q:g=f
  ·rw [if_pos q,if_pos q]; exact ry
  ·rw [if_neg q,if_neg q]; exact r g
 ·by_cases q:g=f
  ·rw [q]; exact (ZEh f y fs).1
  ·refine (ZEh f y fs).2 g (wi g λ z=>hg ?_)
   show (if g=f then some u else mA g)=none
   rw [if_neg q]; exact z
theorem Inv.made (I:Inv X pins σ H s):Inv X pins σ (upd (upd H s.heap.objs.size (.own (s.heap.objs.size+1))) (s.heap.objs.size+1) (.ins C s.heap.objs.size []))
  { s with heap:=(s.heap.push PySem.W.emptyDict).push (PySem.W.instObj C s.heap.objs.size) }:=by
 have e1:(s.heap.push PySem.W.emptyDict).get? s.heap.objs.size=some PySem.W.emptyDict:=Heap.get?_push_size s.heap rfl
 have e2:((s.heap.push PySem.W.emptyDict).push (PySem.W.instObj C s.heap.objs.size)).get? (s.heap.objs.size+1)=some (PySem.W.instObj C s.heap.objs.size):=by
  have:=Heap.get?_push_size (s.heap.push PySem.W.emptyDict) (o:=PySem.W.instObj C s.heap.objs.size) rfl
  rwa [Heap.size_push] at this
 have e3:(s.heap.push PySem.W.emptyDict).Ns s.heap.objs.size (λ _=>none):=⟨PySem.W.emptyDict,#[],_,e1,rfl,(λ e he=>absurd he (by simp)),λ _=>rfl⟩
 have I1:=I.laid (a:=s.heap.objs.size) (o:=.own (s.heap.objs.size+1)) (h':=s.heap.push PySem.W.emptyDict) (t':=s.toks) (λ b u q=>Heap.get?_push_of_some _ q) (Nat.le_refl _) ⟨_,e1⟩
 refine I1.laid (a:=s.heap.objs.size+1) (o:=.ins C s.heap.objs.size []) (t':=s.toks) (λ b u q=>Heap.get?_push_of_some _ q) (Nat.le_of_eq (Heap.size_push _ _)) ?_
 have ne:s.heap.objs.size ≠ s.heap.objs.size+1:=Nat.ne_of_lt (Nat.lt_succ_self _)
 refine ⟨by rw [Zb ne,Zo],Nat.zero_le _,ne,e2,λ _=>none,(Heap.Ns1.of_empty e3).at λ o q=>Heap.get?_push_of_some _ q,λ _=>True.intro,λ y hy=>absurd rfl hy⟩
theorem ZMf {prog:Program} {w:World} {env:Env} {e:Expr} {f:Str} {pos:Pos} {s:Shared} {Q:Value->Shared->Prop} (hb:attributeBase e f env (eval e env)=eval e env)
  (h:wpAny (model prog w) A (eval e env) (λ o s₁=>wpAny (model prog w) A (getAttr o f true) Q E s₁) E s):wpAny (model prog w) A (eval (.Attribute e f pos) env) Q E s :=
 Attribute_any_ h (by rw [arm_eval_Attribute,hb])
end
def tFld (K:PySem.W.Frag) (ta:TE) (f:Str):TE:=λ σ H Q=>ta σ H λ x H1=>∃ a C dx fs v,x=.ref a/\H1 a=some (.ins C dx fs)/\Cls K C/\ZDZ K C f/\fs.lookup f=some v/\Q v H1
def sFld (K:PySem.W.Frag) (ta tv:TE) (f:Str):TS:=λ D σ H=>tv σ H λ y H1=>ta σ H1 λ x H2=>∃ a C dx fs,x=.ref a/\H2 a=some (.ins C dx fs)/\Cls K C/\ZDZ K C f/\fs.length < 1000 /\
 D.nx σ (upd H2 a (.ins C dx (ZCk f y fs)))
section
variable {X:Cx} {o e value:Expr} {f:Str} {pos pos' tpos:Pos} {ta tv:TE}
theorem ZPC (he:PE X e ta) (hb:attributeBase e f X.env (eval e X.env)=eval e X.env):PE X (.Attribute e f pos) (tFld X.K ta f):=by
 intro pins s σ H Q I h
 refine ZMf hb (thn (he pins s σ H _ I h) λ u s1 ⟨x,H1,I1,rx,a,C,dx,fs,v,ex,ea,c,n,l,q⟩=>?_)
 subst ex
 obtain rfl:u=Value.ref a:=rx
 exact ZIr I1 ea c n l λ u' s2 I2 ru=>⟨v,H1,I2,ru,q⟩
theorem ZPI (ha:PE X o ta) (hv:PE X value tv) (hs:swapsWith value (some (.Attribute o f pos')) pos.line X.env=pure false):PS X (.Assign [.Attribute o f pos'] value pos) (sFld X.K ta tv f):=by
 intro pins s σ H D I h
 refine plainObj_wpAny_Assign_Attribute (thn (hv pins s σ H _ I h) λ u s1 ⟨y,H1,I1,ry,q⟩=>thn (ha pins s1 σ H1 _ I1 q) λ ov s2 ⟨x,H2,I2,rx,a,C,dx,fs,ex,ea,c,n,l,q2⟩=>?_) hs
 subst ex
 obtain rfl:ov=Value.ref a:=rx
 exact ZIq I2 ea c n l ry λ s3 I3=>⟨σ,_,I3,q2⟩
end
section
variable {X:Cx} {pins:List (Addr × Obj)} {σ : St} {H:Hp} {s:Shared} {A:Around} {E:Value->Shared->Prop} {Q:Value->Shared->Prop} {c:Value} {b:Bool}
end
end L2
namespace L2
open PySem PySem.Spec PyProof.Rows
structure Room (k:Nat) (A:Around):Prop where
 hd:A.handled=none
 dp:A.depth+3 * k+5 < recursionLimit
 un:A.units+16 * k+200 < cLine
 gd:A.guards=some []
theorem Room.mono {j k:Nat} {A:Around} (r:Room k A) (h:j<=k):Room j A:=⟨r.hd,by have:=r.dp; omega,by have:=r.un; omega,r.gd⟩
theorem Room.deeper {k:Nat} {A:Around} (r:Room (k+1) A) (env:Env):Room k (A.deeper env) :=
 ⟨r.hd,by have:=r.dp; show A.depth+1+3 * k+5 < _; omega,by have:=r.un; show A.units+3+16 * k+200 < _; omega,r.gd⟩
theorem ZIm {A:Around} {C:Addr} {us:List Value} {kw:List (Str × Value)}:(A.under (.builtin "type.__call__" ⟨.ref C :: us,kw⟩)).depth=A.depth+1:=by
 first | rfl | simp [Around.under,Code.weight,Code.isCreation,Code.isGuard,Code.isCaller,Code.frames,Code.isFrame,guardIds]
theorem ZIn {A:Around} {C:Addr} {us:List Value} {kw:List (Str × Value)}:(A.under (.builtin "type.__call__" ⟨.ref C :: us,kw⟩)).units=A.units+1:=by
 first | rfl | simp [Around.under,Code.cUnits,Code.frames,Code.isFrame]
theorem ZH5 {A:Around} {C:Addr} {us:List Value} {kw:List (Str × Value)}:(A.under (.builtin "type.__call__" ⟨.ref C :: us,kw⟩)).guards=A.guards:=by
 first | rfl | simp [Around.under]
theorem Room.make {k:Nat} {A:Around} (r:Room (k+1) A) (C:Addr) (us:List Value) (kw:List (Str × Value)):Room k (A.under (.builtin "type.__call__" ⟨.ref C :: us,kw⟩)) :=
 ⟨r.hd,by have:=r.dp; rw [ZIm]; omega,by have:=r.un; rw [ZIn]; omega,ZH5.trans r.gd⟩
theorem Room.depth {k:Nat} {A:Around} (r:Room k A):A.depth < recursionLimit:=by have:=r.dp; omega
theorem Room.units {k:Nat} {A:Around} (r:Room k A):A.units+64 < cLine:=by have:=r.un; omega
def tNil:TA:=λ _ H Q=>Q [] H
def tCons (ta:TE) (tr:TA):TA:=λ σ H Q=>ta σ H λ x H1=>tr σ H1 λ xs H2=>Q (x :: xs) H2
section
variable {X:Cx} {e:Expr} {es:List Expr} {te:TE} {t:TA} {pos:Pos}
theorem ZI9:PA X [] tNil:=λ _ _ _ _ H Q I h=>Calls.spliced_nil ⟨[],H,I,.nil,h⟩
theorem ZHI (ha:PE X e te) (hr:PA X es t) (hs:starEach (e :: es) X.env=(false,eval e X.env) :: starEach es X.env:=by rfl):PA X (e :: es) (tCons te t):=by
 intro pos pins s σ H Q I h
 rw [hs]
 show wpAny _ _ (spliced ((false,eval e X.env) :: backTo pos (starEach es X.env))) _ _ s
 refine Calls.spliced_cons (thn (ha pins s σ H _ I h) λ u s1 ⟨x,H1,I1,r1,q1⟩=>?_)
 exact thn (hr pos pins s1 σ H1 _ I1 q1) λ us s2 ⟨xs,H2,I2,r2,q2⟩=>⟨x :: xs,H2,I2,.cons r1 r2,q2⟩
def tTup (t:TA):TE:=λ σ H Q=>t σ H λ xs H1=>xs.length<=sizeLine/\∀ p,H1 p=none->Q (.ref p) (upd H1 p (.tup xs))
def tLst (t:TA):TE:=λ σ H Q=>t σ H λ xs H1=>xs.length<=sizeLine/\∀ p,H1 p=none->Q (.ref p) (upd H1 p (.lst xs))
theorem ZPZ {x1} (h:PA X es t):PE X (.Tuple es x1 pos) (tTup t):=by
 intro pins s σ H Q I hq
 refine wpAny_Tuple_spliced (thn (h pos pins s σ H _ I hq) λ us s1 ⟨xs,H1,I1,r,z,q⟩=>⟨by rw [← r.length]; exact z,?_⟩)
 have hf:H1 s1.heap.objs.size=none:=I1.hok.fresh (Nat.le_refl _)
 refine ⟨.ref s1.heap.objs.size,upd H1 s1.heap.objs.size (.tup xs),I1.laid (t':=s1.toks) (λ b u e=>Heap.get?_push_of_some _ e) (Nat.le_refl _) ?_,rfl,q _ hf⟩
 exact ⟨z,us,r,⟨_,Heap.get?_push_size _ rfl,rfl,_,rfl⟩⟩
theorem ZJL (h:PA X es t):PE X (.List es pos) (tLst t):=by
 intro pins s σ H Q I hq
 refine wpAny_List_spliced (thn (h pos pins s σ H _ I hq) λ us s1 ⟨xs,H1,I1,r,z,q⟩=>⟨by rw [← r.length]; exact z,?_⟩)
 have hf:H1 s1.heap.objs.size=none:=I1.hok.fresh (Nat.le_refl _)
 refine ⟨.ref s1.heap.objs.size,upd H1 s1.heap.objs.size (.lst xs),I1.laid (t':=s1.toks) (λ b u e=>Heap.get?_push_of_some _ e) (Nat.le_refl _) ?_,rfl,q _ hf⟩
 exact ⟨z,us,0,r,Heap.get?_push_size _ rfl⟩
end
abbrev Sp:=List V->Hp->VK->XK->Prop
abbrev CXT:=List Env->Hp->Shared->XK->Value->Shared->Prop
structure Env0 (P:Program) (w:World) (K:PySem.W.Frag) (mg:Str->Option Value) (base:Heap) (A:Around) (outer:List Env) (s:Shared) (H:Hp):Prop where
 frames:A.frames=some outer
 mod:Mod K mg base
 bs:∀ b o,base.get? b=some o->s.heap.get? b=some o/\H b=none
 bsz:base.objs.size<=s.heap.objs.size
 funs:s.heap.FunFrames base outer
 frf:∀ b ∈ frs outer,H b=none
 hok:HOk P w H s.heap
 bare:AllBare s.gens
def CE (outer:List Env) (P:Program) (w:World) (H:Hp) (s:Shared) (Q:VK) (u:Value) (s':Shared):Prop :=
 ∃ v H',s'.os=s.os/\AllBare s'.gens/\Un (frs outer) [] H H' s.heap s'.heap/\HOk P w H' s'.heap/\Z8 v u/\Q v H'
def CR (CX:CXT) (outer:List Env) (P:Program) (w:World) (H:Hp) (s:Shared) (Q:VK) (E:XK) (r:Result) (s':Shared):Prop :=
 match r with
 | .ok (.ret u)=>CE outer P w H s Q u s'
 | .ok _=>False
 | .error e=>CX outer H s E e s'
structure FnOk (P:Program) (w:World) (K:PySem.W.Frag) (mg:Str->Option Value) (base:Heap) (CX:CXT) (k:Nat) (f:Addr) (fd:FuncData) (ps:List Str) (sp:Sp):Prop where
 len:∀ vs H Q E,sp vs H Q E->vs.length=ps.length
 run:∀ (A:Around) (outer:List Env) (s:Shared) (H:Hp) (args:Args) (us:List Value) (vs:List V) (Q:VK) (E:XK),Room k A->Env0 P w K mg base A outer s H->BindsTo s fd args (ps.zip us)->Zp vs us->sp vs H Q E ->
  codeAny (model P w) A (.call (.ref f) args) (CR CX outer P w H s Q E) s
theorem FnOk.imp {P:Program} {w:World} {K:PySem.W.Frag} {mg:Str->Option Value} {base:Heap} {CX:CXT} {k:Nat} {f:Addr} {fd:FuncData} {ps:List Str} {sp sp':Sp} (F:FnOk P w K mg base CX k f fd ps sp)
  (h:∀ vs H Q E,sp' vs H Q E->sp vs H Q E):FnOk P w K mg base CX k f fd ps sp' :=
 ⟨λ vs H Q E q=>F.len vs H Q E (h _ _ _ _ q),λ A outer s H args us vs Q E hr he hb hv hs=>F.run A outer s H args us vs Q E hr he hb hv (h _ _ _ _ hs)⟩
theorem Env0.make {P:Program} {w:World} {K:PySem.W.Frag} {mg:Str->Option Value} {base:Heap} {A:Around} {outer:List Env} {s:Shared} {H:Hp} (e:Env0 P w K mg base A outer s H) (C:Addr) (us:List Value) (kw:List (Str × Value)) :
  Env0 P w K mg base (A.under (.builtin "type.__call__" ⟨.ref C :: us,kw⟩)) outer s H:=⟨by first | exact e.frames | (simpa [Around.under,Code.envs,Code.isFrame,pushEnvs] using e.frames),e.mod,e.bs,e.bsz,e.funs,e.frf,e.hok,e.bare⟩
section
variable {X:Cx} {pins:List (Addr × Obj)} {σ : St} {H:Hp} {s s':Shared}
theorem Inv.env0 (I:Inv X pins σ H s):Env0 X.prog X.w X.K X.mg X.base X.A X.stack s H :=
 ⟨I.ok.frames,I.ok.mod,I.bs,Nat.le_trans I.ok.bsz I.sz,I.stack,I.stkFree,I.hok,I.bare⟩
theorem Inv.after {Q:VK} {u:Value} (I:Inv X pins σ H s) (h:CE X.stack X.prog X.w H s Q u s'):EP X pins σ Q u s':=by
 obtain ⟨v,H',os,bare,un,hok,r,q⟩:=h
 obtain ⟨hh,g,d,t,os'⟩:=s'
 obtain rfl:os'=s.os:=os
 exact ⟨v,H',I.call (h':=hh) (g':=g) (d':=d) (t':=t) (ch:=[]) un hok bare (λ b z=>absurd z (by simp)),r,q⟩
end
def ZNh (sp:Sp) (dvs:List V) (E:XK) (t:TA):TE:=λ σ H Q=>t σ H λ vs H1=>sp (vs ++ dvs) H1 Q E
def tMeth (C:Addr) (m:Str) (sp:Sp) (dvs:List V) (E:XK) (ta:TE) (t:TA):TE:=λ σ H Q=>ta σ H λ x H1=>∃ a dx fs,x=.ref a/\H1 a=some (.ins C dx fs)/\fs.lookup m=none /\
 t σ H1 λ vs H2=>sp (x :: (vs ++ dvs)) H2 Q E
def tMake (C:Addr) (sp:Sp) (dvs:List V) (E:XK) (t:TA):TE:=λ σ H Q=>t σ H λ vs H1=>∀ x dx,H1 x=none->H1 dx=none->dx ≠ x ->
 sp (.ref x :: (vs ++ dvs)) (upd (upd H1 dx (.own x)) x (.ins C dx [])) (λ v H2=>v=.non/\Q (.ref x) H2) E
def ZDp (K:PySem.W.Frag) (fd:FuncData) (ps:List Str) (ds:List Value):Prop :=
 ∀ (s:Shared) (us:List Value),K.In s.heap->(us ++ ds).length=ps.length->BindsTo s fd ⟨us,[]⟩ (ps.zip (us ++ ds))
theorem ZDp.all {K:PySem.W.Frag} {fd:FuncData} {ps:List Str} (h:∀ us:List Value,us.length=ps.length->bindArgs fd ⟨us,[]⟩=pure (ps.zip us)):ZDp K fd ps []:=λ s us _ hl=>by
 rw [List.append_nil] at hl ⊢
 exact .of_eq (h us hl)
def ZEp (CX:CXT) (X:Cx) (E:XK):Prop:=∀ (pins:List (Addr × Obj)) (σ : St) (H:Hp) (s:Shared) (e:Value) (s':Shared),Inv X pins σ H s->CX X.stack H s E e s'->X.xe e s'
section
variable {X:Cx} {CX:CXT} {k:Nat} {f C:Addr} {fd:FuncData} {ps:List Str} {sp:Sp} {dvs:List V} {ds:List Value} {E:XK} {x m:Str} {p pos apos:Pos} {e o:Expr} {es:List Expr} {ta:TE} {t:TA}
theorem ZLA {pins:List (Addr × Obj)} {σ : St} {H:Hp} {s:Shared} {Q:VK} {us:List Value} {vs:List V} (F:FnOk X.prog X.w X.K X.mg X.base CX k f fd ps sp) (hr:Room k X.A) (hb:ZDp X.K fd ps ds) (hd:Zp dvs ds) (hx:ZEp CX X E)
  (I:Inv X pins σ H s) (r:Zp vs us) (h:sp (vs ++ dvs) H Q E):wpAny (model X.prog X.w) X.A (call (.ref f) us) (EP X pins σ Q) X.xe s:=by
 have r2:Zp (vs ++ dvs) (us ++ ds):=r.append hd
 have hl:(us ++ ds).length=ps.length:=by rw [← r2.length]; exact F.len _ _ _ _ h
 refine wpAny_call (codeAny_mono (F.run X.A X.stack s H ⟨us,[]⟩ (us ++ ds) (vs ++ dvs) Q E hr I.env0 (hb s us I.kIn hl) r2 h) λ r s' hq=>?_)
 cases r with
 | error e=>exact hx pins σ H s e s' I hq
 | ok fl =>
  cases fl with
  | ret u=>exact I.after hq
  | next=>exact False.elim hq
  | brk=>exact False.elim hq
  | cont=>exact False.elim hq
theorem ZNN (F:FnOk X.prog X.w X.K X.mg X.base CX k f fd ps sp) (hr:Room k X.A) (hg:Gl X x) (hm:X.mg x=some (.ref f)) (hk:PySem.W.keepIn X.K (.ref f)=true) (hb:ZDp X.K fd ps ds) (hd:Zp dvs ds) (hx:ZEp CX X E)
  (ha:PA X (e :: es) t) (hdb:(x == ("__debug__" : Str))=false:=by decide) (he:starEach (e :: es) X.env=(false,eval e X.env) :: starEach es X.env:=by rfl) (hpl:(backTo pos (starEach es X.env)).any (·.1)=false:=by rfl) :
  PE X (.Call (.Name x p) (e :: es) [] pos) (ZNh sp dvs E t):=by
 intro pins s σ H Q I h
 refine wpAny_Call_Name_kw (ZHb I hg hm ?_ hdb)
 refine PySem.W.callWith_K (h₀:=X.base) I.ok.mod.kin hk (thn (ha pos pins s σ H _ I h) λ us s1 ⟨vs,H1,I1,r,q⟩=>⟨I1.kIn,?_⟩) he hpl
 exact ZLA F hr hb hd hx I1 r q
theorem ZM7 {pl:Sem Bool} (he:PE X o ta) (c:Cls X.K C) (hm:Meth X.K C m f) (F:FnOk X.prog X.w X.K X.mg X.base CX k f fd ps sp) (hr:Room k X.A) (hb:ZDp X.K fd ps ds) (hd:Zp dvs ds) (hx:ZEp CX X E) (ha:PA X (e :: es) t)
  (hst:starEach (e :: es) X.env=(false,eval e X.env) :: starEach es X.env:=by rfl) (hpl:(backTo pos (starEach es X.env)).any (·.1)=false:=by rfl)
  (ht:eval (.Call (.Attribute o m apos) (e :: es) [] pos) X.env=(do
   let ov ← eval o X.env
   standAt apos.atName
   let (f,first) ← holding [ov] (getMethod ov m pl)
   callWith pos f first (backTo pos (starEach (e :: es) X.env)) (backToKw pos (keywordEach [] X.env))):=by rfl) :
  PE X (.Call (.Attribute o m apos) (e :: es) [] pos) (tMeth C m sp dvs E ta t):=by
 intro pins s σ H Q I h
 refine PySem.W.methodCall_KW (pl:=pl) (thn (he pins s σ H _ I h) λ u s1 ⟨x,H1,I1,rx,a,dx,fs,ex,ea,l,q⟩=>?_) ht
 subst ex
 obtain rfl:u=Value.ref a:=rx
 refine ZIt I1 ea c hm l ?_
 refine PySem.W.callWith_K (first:=[.ref a]) (h₀:=X.base) I.ok.mod.kin hm.kp (thn (ha pos pins s1 σ H1 _ I1 q) λ us s2 ⟨vs,H2,I2,r,q2⟩=>⟨I2.kIn,?_⟩) hst hpl
 exact ZLA (us:=.ref a :: us) (vs:=.ref a :: vs) F hr hb hd hx I2 (.cons rfl r) q2
structure Mk (K:PySem.W.Frag) (C f:Addr):Prop where
 makes:PySem.W.makesIn K C=true
 init:PySem.W.findIn K (.ref C) "__init__" = some (some (.ref f))
 fn:PySem.W.isFn K (.ref f)=true
 kp:PySem.W.keepIn K (.ref C)=true
theorem ZLZ {pins:List (Addr × Obj)} {σ : St} {H:Hp} {s:Shared} {Q:VK} {us:List Value} {vs:List V} (M:Mk X.K C f) (F:FnOk X.prog X.w X.K X.mg X.base CX k f fd ps sp) (hr:Room (k+1) X.A) (hb:ZDp X.K fd ps ds) (hd:Zp dvs ds)
  (hx:ZEp CX X E) (I:Inv X pins σ H s) (r:Zp vs us)
  (h:∀ x dx,H x=none->H dx=none->dx ≠ x->sp (.ref x :: (vs ++ dvs)) (upd (upd H dx (.own x)) x (.ins C dx [])) (λ v H2=>v=.non/\Q (.ref x) H2) E) :
  wpAny (model X.prog X.w) X.A (call (.ref C) us) (EP X pins σ Q) X.xe s:=by
 have hq:=h (s.heap.objs.size+1) s.heap.objs.size (I.hok.fresh (Nat.le_succ _)) (I.hok.fresh (Nat.le_refl _)) (Nat.ne_of_lt (Nat.lt_succ_self _))
 have I2:=Inv.made (C:=C) I
 have r2:Zp (V.ref (s.heap.objs.size+1) :: (vs ++ dvs)) (Value.ref (s.heap.objs.size+1) :: (us ++ ds)):=.cons rfl (r.append hd)
 have hl:(Value.ref (s.heap.objs.size+1) :: us ++ ds).length=ps.length:=by
  have e:=r2.length
  rw [F.len _ _ _ _ hq] at e
  exact e.symm
 refine wpAny_call (ZLQ (f:=f) I.kIn M.makes M.init (beq_iff_eq.mp M.fn) (codeAny_mono (F.run _ X.stack _ _ ⟨Value.ref (s.heap.objs.size+1) :: us,[]⟩ (Value.ref (s.heap.objs.size+1) :: (us ++ ds)) _ _ E (hr.make C us [])
  (I2.env0.make C us []) (hb _ (Value.ref (s.heap.objs.size+1) :: us) I2.kIn hl) r2 hq) λ r s' hq'=>?_))
 cases r with
 | error e=>exact hx pins σ _ _ e s' I2 hq'
 | ok fl =>
  cases fl with
  | ret u =>
   obtain ⟨v,H',I3,rv,ev,q3⟩:=I2.after hq'
   subst ev
   exact ⟨rv,⟨V.ref (s.heap.objs.size+1),H',I3,rfl,q3⟩⟩
  | next=>exact False.elim hq'
  | brk=>exact False.elim hq'
  | cont=>exact False.elim hq'
theorem ZNR (M:Mk X.K C f) (F:FnOk X.prog X.w X.K X.mg X.base CX k f fd ps sp) (hr:Room (k+1) X.A) (hg:Gl X x) (hm:X.mg x=some (.ref C)) (hb:ZDp X.K fd ps ds) (hd:Zp dvs ds) (hx:ZEp CX X E)
  (ha:PA X (e :: es) t) (hdb:(x == ("__debug__" : Str))=false:=by decide) (he:starEach (e :: es) X.env=(false,eval e X.env) :: starEach es X.env:=by rfl) (hpl:(backTo pos (starEach es X.env)).any (·.1)=false:=by rfl) :
  PE X (.Call (.Name x p) (e :: es) [] pos) (tMake C sp dvs E t):=by
 intro pins s σ H Q I h
 refine wpAny_Call_Name_kw (ZHb I hg hm ?_ hdb)
 refine PySem.W.callWith_K (h₀:=X.base) I.ok.mod.kin M.kp (thn (ha pos pins s σ H _ I h) λ us s1 ⟨vs,H1,I1,r,q⟩=>⟨I1.kIn,?_⟩) he hpl
 exact ZLZ M F hr hb hd hx I1 r q
end
section
variable {X:Cx} {CX:CXT} {k:Nat} {f C:Addr} {fd:FuncData} {ps ks:List Str} {sp:Sp} {E:XK} {x m:Str} {p pos apos kpos:Pos} {e o:Expr} {es:List Expr} {kws:List Keyword} {te ta:TE} {t tk:TA} {nm:Option Str}
variable {g:List Value->List Value->List Value} {gV:List V->List V->List V}
end
structure FnScope (N P:List Str) (sc:Scope):Prop where
 kind:sc.kind=.function
 co:sc.isCoroutine=false
 gen:sc.isGenerator=false
 nd:N.Nodup
 pre:N.take P.length=P
 par:∀ x ∈ P,sc.names.lookup x=some .local ∨ sc.names.lookup x=some .cell
 nofree:∀ y ∈ sc.names,y.2 ≠ .free
theorem ZGh {kindOf:Str->Option NameKind} {x:Str}:∀ {binds:List (Str × Value)} {m:Str->Option Value},(∀ v,(x,v) ∉ binds)->bindL kindOf binds m x=m x
 | [],_,_=>rfl
 | (n,v) :: r,m,h=>by
  unfold bindL
  rw [ZGh λ w hw=>h w (List.mem_cons_of_mem _ hw)]
  split
  ·have:x ≠ n:=by rintro rfl; exact h v List.mem_cons_self
   simp [this]
  ·rfl
theorem ZGc {kindOf:Str->Option NameKind} {x:Str}:∀ {binds:List (Str × Value)} {m:Str->Option Value},(∀ v,(x,v) ∉ binds)->bindC kindOf binds m x=m x
 | [],_,_=>rfl
 | (n,v) :: r,m,h=>by
  unfold bindC
  rw [ZGc λ w hw=>h w (List.mem_cons_of_mem _ hw)]
  split
  ·rfl
  ·have:x ≠ n:=by rintro rfl; exact h v List.mem_cons_self
   simp [this]
theorem ZGd {kindOf:Str->Option NameKind} {x:Str} {v:Value}:∀ {P:List Str} {vs:List Value} {i:Nat} {m:Str->Option Value},P.Nodup->P[i]? = some x->vs[i]? = some v->kindOf x=some .local ->
  bindL kindOf (P.zip vs) m x=some v
 | [],_,_,_,_,h,_,_=>by simp at h
 | _ :: _,[],_,_,_,_,h,_=>by simp at h
 | p :: P,w :: vs,0,m,nd,h1,h2,hk=>by
  simp at h1 h2; subst h1; subst h2
  show bindL kindOf ((p,w) :: P.zip vs) m p=_
  unfold bindL
  rw [ZGh λ v hv=>(List.nodup_cons.mp nd).1 (List.of_mem_zip hv).1,if_pos hk]
  simp
 | p :: P,w :: vs,i+1,m,nd,h1,h2,hk=>by
  show bindL kindOf ((p,w) :: P.zip vs) m x=_
  unfold bindL
  exact ZGd (i:=i) (List.nodup_cons.mp nd).2 (by simpa using h1) (by simpa using h2) hk
theorem ZGg {kindOf:Str->Option NameKind} {x:Str} {v:Value}:∀ {P:List Str} {vs:List Value} {i:Nat} {m:Str->Option Value},P.Nodup->P[i]? = some x->vs[i]? = some v->kindOf x ≠ some .local ->
  bindC kindOf (P.zip vs) m x=some v
 | [],_,_,_,_,h,_,_=>by simp at h
 | _ :: _,[],_,_,_,_,h,_=>by simp at h
 | p :: P,w :: vs,0,m,nd,h1,h2,hk=>by
  simp at h1 h2; subst h1; subst h2
  show bindC kindOf ((p,w) :: P.zip vs) m p=_
  unfold bindC
  rw [ZGc λ v hv=>(List.nodup_cons.mp nd).1 (List.of_mem_zip hv).1,if_neg hk]
  simp
 | p :: P,w :: vs,i+1,m,nd,h1,h2,hk=>by
  show bindC kindOf ((p,w) :: P.zip vs) m x=_
  unfold bindC
  exact ZGg (i:=i) (List.nodup_cons.mp nd).2 (by simpa using h1) (by simpa using h2) hk
def ZES (N:List Str) (vs:List V):St:=vs.map some ++ List.replicate (N.length - vs.length) none
def ZHm (CX:CXT) (P:Program) (w:World) (K:PySem.W.Frag) (mg:Str->Option Value) (base:Heap) (N:List Str) (qual:Str) (scope:Scope) (f:Addr) (cd:Value) (A:Around) (outer:List Env) (s:Shared) (H:Hp) (E:XK):Cx where
 prog:=P
 w:=w
 K:=K
 mg:=mg
 base:=base
 A:=A.deeper (envOfC qual scope s.heap.objs.size f cd)
 N:=N
 s₀:=s
 H₀:=H
 env:=envOfC qual scope s.heap.objs.size f cd
 outer:=outer
 stack:=envOfC qual scope s.heap.objs.size f cd :: outer
 ex:=[]
 calm:=true
 fn:=λ _=>true
 pn:=[]
 xe:=λ e s'=>wpAny (model P w) (A.deeper (envOfC qual scope s.heap.objs.size f cd)) (leaving (envOfC qual scope s.heap.objs.size f cd) e) (λ _ s''=>CX outer H s E e s'') (λ e' s''=>CX outer H s E e' s'') s'
theorem ZID {sc:Scope} {n:Nat} {x:Str} (h:sc.names.lookup x=some .cell):∃ c,(cellsFrom n sc.names []).lookup x=some c:=by
 have q:=PySem.W.cellsFrom_some sc.names n [] (.inl h)
 exact Option.isSome_iff_exists.mp q
theorem ZJp {CX:CXT} {P:Program} {w:World} {K:PySem.W.Frag} {mg:Str->Option Value} {base:Heap} {N ps:List Str} {qual:Str} {scope:Scope} {f:Addr} {cd:Value} {A:Around} {outer:List Env} {s s1:Shared} {H:Hp} {E:XK} {us:List Value} {vs:List V}
  (S:FnScope N ps scope) (hd:A.handled=none) (e0:Env0 P w K mg base A outer s H) (hl:vs.length=ps.length) (r:Zp vs us)
  (x:InCallC s s.heap.objs.size (bindL (envOfC qual scope s.heap.objs.size f cd).kindOf (ps.zip us) λ _=>none) (cellsFrom (s.heap.objs.size+1) scope.names []) (bindC (envOfC qual scope s.heap.objs.size f cd).kindOf (ps.zip us) λ _=>none) s1) :
  Inv (ZHm CX P w K mg base N qual scope f cd A outer s H E) [] (ZES N vs) H s1:=by
 have hpl:ps.length<=N.length:=by have:=congrArg List.length S.pre; rw [List.length_take] at this; omega
 obtain ⟨h1,tk,rfl,hk⟩:=x.done
 have noA:∀ b:Addr,b ∉ (ZHm CX P w K mg base N qual scope f cd A outer s H E).ex:=λ b z=>absurd (show b ∈ ([]:List Addr) from z) (by simp)
 refine ⟨⟨e0.mod,S.kind,rfl,rfl,Nat.le_refl _,λ y z c h1 h2=>?_,λ y hy=>?_,λ y c _ h=>?_,λ _=>hd,Around.frames_deeper e0.frames,.inr ⟨rfl,rfl⟩,λ b z=>absurd z (noA b),e0.bs,e0.bsz,λ b _ _=>noA b,λ b z=>absurd z (noA b),e0.funs,e0.frf⟩,
  rfl,e0.bare,Un.kept hk,⟨_,x.toInCall.ns,λ i y v h1 h2 h3=>?_⟩,λ y c h=>⟨_,x.cell y c h⟩,e0.hok.fresh (Nat.le_refl _),λ y c h=>?_,λ p hp=>absurd (show p ∈ ([]:List (Addr × Obj)) from hp) (by simp),e0.hok.kept hk,?_⟩
 ·exact name_of_addr x.apart (PySem.mem_of_lookup h1) (PySem.mem_of_lookup h2)
 ·have hy:scope.names.lookup y=some .cell ∨ scope.names.lookup y=some .free:=hy
  rcases hy with hy | hy
  ·exact ZID hy
  ·exact absurd rfl (S.nofree _ (PySem.mem_of_lookup hy))
 ·exact Nat.le_of_lt (x.above y c (PySem.mem_of_lookup h))
 ·have hi:i < vs.length:=by
   unfold ZES at h2
   by_cases hi:i < vs.length
   ·exact hi
   ·rw [List.getElem?_append_right (by simpa using hi)] at h2
    rw [List.getElem?_replicate] at h2
    split at h2 <;> cases h2
  have ha:vs[i]? = some v:=by
   unfold ZES at h2
   rw [List.getElem?_append_left (by simpa using hi),List.getElem?_map] at h2
   cases e:vs[i]? with
   | none=>rw [e] at h2; cases h2
   | some a=>rw [e] at h2; cases h2; rfl
  obtain ⟨u,hu,rv⟩:=r.get ha
  have hp:ps[i]? = some y:=by
   rw [← S.pre,List.getElem?_take_of_lt (by omega)]; exact h1
  have ndP:ps.Nodup:=by rw [← S.pre]; exact S.nd.sublist (List.take_sublist _ _)
  refine ⟨u,rv,?_⟩
  rcases S.par y (List.mem_of_getElem? hp) with k | k
  ·exact .inl ⟨k,ZGd ndP hp hu k⟩
  ·obtain ⟨c,e⟩:=ZID (n:=s.heap.objs.size+1) k
   refine .inr ⟨.inl k,c,e,?_⟩
   have q:=x.cell y c e
   rw [ZGg ndP hp hu (by show scope.names.lookup y ≠ _; rw [k]; decide)] at q
   exact q
 ·exact e0.hok.fresh (Nat.le_of_lt (x.above y c (PySem.mem_of_lookup h)))
 ·unfold ZES
  show _=N.length
  rw [List.length_append,List.length_map,List.length_replicate]
  omega
theorem fn_of {CX:CXT} {P:Program} {w:World} {K:PySem.W.Frag} {mg:Str->Option Value} {base:Heap} {k:Nat} {f:Addr} {name qual:Str} {params:Arguments} {body:List Stmt} {scope:Scope} {dV kV doc pm cdv ct oc:Value} {an od:Option Addr}
  {osl:Array (Option Value)} {N ps:List Str} {sp:Sp} (lk:K.lookup f=some ⟨oc,od,.func (PySem.W.fnOf name qual params body scope dV kV doc pm an cdv ct),osl⟩) (hcd:PySem.W.codeIn K cdv qual=true) (S:FnScope N ps scope)
  (len:∀ vs H Q E,sp vs H Q E->vs.length=ps.length)
  (hbody:∀ (A:Around) (outer:List Env) (s:Shared) (H:Hp) (vs:List V) (Q:VK) (E:XK),Room k (A.deeper (envOfC qual scope s.heap.objs.size f cdv))->sp vs H Q E ->
   ∃ t,PSs (ZHm CX P w K mg base N qual scope f cdv A outer s H E) body t/\t { nx:=λ _ H'=>Q .non H',rt:=Q } (ZES N vs) H) :
  FnOk P w K mg base CX (k+1) f (PySem.W.fnOf name qual params body scope dV kV doc pm an cdv ct) ps sp:=by
 refine ⟨len,λ A outer s H args us vs Q E hr e0 hb r hsp=>?_⟩
 have hl:=len _ _ _ _ hsp
 have KX:K.In s.heap:=e0.mod.kin.keeps λ b o e=>(e0.bs b o e).1
 have lim:s.heap.NoLimit:=e0.mod.nolimit.keeps λ b o e=>(e0.bs b o e).1
 have hkind:∀ y ∈ ps.zip us,scope.names.lookup y.1=some .local ∨ (scope.names.lookup y.1=some .cell/\((cellsFrom (s.heap.objs.size+1) scope.names []).lookup y.1).isSome=true):=λ ⟨n,v⟩ hy=>by
  rcases S.par n (List.of_mem_zip hy).1 with q | q
  ·exact .inl q
  ·exact .inr ⟨q,PySem.W.cellsFrom_some _ _ _ (.inl q)⟩
 refine codeAny_call_function hr.depth (KX _ _ lk) rfl S.co S.gen rfl (PySem.W.codeRec_of KX hcd) (hb _ _ _ _ ?_)
 refine wpAny_newFunctionEnv_cells S.kind hkind λ env he s1 x=>?_
 subst he
 refine ⟨lim.keeps x.toInCall.keep,codeAny_func ?_⟩
 obtain ⟨t,ht,hq⟩:=hbody A outer s H vs Q E (hr.deeper _) hsp
 have I:Inv (ZHm CX P w K mg base N qual scope f cdv A outer s H E) [] (ZES N vs) H s1:=ZJp S hr.hd e0 hl r x
 refine wpAny_mono (ht [] s1 (ZES N vs) H _ I hq) (λ fl s' hs=>?_) λ e s' hs=>hs
 have fin:∀ {σ':St} {H':Hp} {v:V} {u:Value},Inv (ZHm CX P w K mg base N qual scope f cdv A outer s H E) [] σ' H' s'->Z8 v u->Q v H'->CE outer P w H s Q u s' :=
  λ {σ' H' v u} J rv q=>⟨v,H',J.os,J.bare,J.base,J.hok,rv,q⟩
 cases fl with
 | ret u =>
  obtain ⟨v,σ',H',J,rv,q⟩:=hs
  exact fin J rv q
 | next =>
  obtain ⟨σ',H',J,q⟩:=hs
  exact fin (v:=V.non) (u:=Value.none) J rfl q
 | brk =>
  obtain ⟨_,_,_,q⟩:=hs
  exact False.elim q
 | cont =>
  obtain ⟨_,_,_,q⟩:=hs
  exact False.elim q
end L2
namespace L2
open PySem PySem.Spec PyProof.Rows
section
variable {X:Cx} {x:Str} {p pos:Pos} {e:Expr} {es:List Expr} {t:TA} {id T:String} {r:List V->Hp->VK->Prop}
def tCB (r:List V->Hp->VK->Prop) (t:TA):TE:=λ σ H Q=>t σ H λ vs H1=>r vs H1 Q
theorem ZLF (hc:ZAG X (.builtin id) r) (hg:Gl X x) (hm:X.mg x=none) (hv:bootBuiltins x=some (.builtin id)) (ha:PA X (e :: es) t) (hn:x ≠ "__name__":=by decide) (hdb:(x == ("__debug__" : Str))=false:=by decide)
  (he:starEach (e :: es) X.env=(false,eval e X.env) :: starEach es X.env:=by rfl) (hpl:(backTo pos (starEach es X.env)).any (·.1)=false:=by rfl):PE X (.Call (.Name x p) (e :: es) [] pos) (tCB r t):=by
 intro pins s σ H Q I h
 refine wpAny_Call_Name_kw (ZFT I hg hm hv ?_ hn hdb)
 exact PyProof.Rows.callWith_builtin1 (thn (ha pos pins s σ H _ I h) λ us s1 ⟨vs,H1,I1,r1,q1⟩=>hc pins s1 σ H1 vs us Q I1 r1 q1) he hpl
theorem ZEu (hc:ZAG X (.type T) r) (hg:Gl X x) (hm:X.mg x=none) (hv:bootBuiltins x=some (.type T)) (ha:PA X (e :: es) t) (hn:x ≠ "__name__":=by decide) (hdb:(x == ("__debug__" : Str))=false:=by decide)
  (he:starEach (e :: es) X.env=(false,eval e X.env) :: starEach es X.env:=by rfl) (hpl:(backTo pos (starEach es X.env)).any (·.1)=false:=by rfl):PE X (.Call (.Name x p) (e :: es) [] pos) (tCB r t):=by
 intro pins s σ H Q I h
 refine wpAny_Call_Name_kw (ZFT I hg hm hv ?_ hn hdb)
 exact PyProof.Rows.callWith_type1 (thn (ha pos pins s σ H _ I h) λ us s1 ⟨vs,H1,I1,r1,q1⟩=>hc pins s1 σ H1 vs us Q I1 r1 q1) he hpl
end
end L2
namespace HT
open PySem PyProof.Rows
def lexLt:List Int->List Int->Bool
 | [],[]=>false
 | [],_ :: _=>true
 | _ :: _,[]=>false
 | x :: xs,y :: ys=>if x=y then lexLt xs ys else decide (x < y)
theorem ZIo (x y:Int) (xs ys:List Int):lexLt (x :: xs) (y :: ys)=if x=y then lexLt xs ys else decide (x < y):=rfl
theorem ZGR:lexLt [] []=false:=rfl
theorem ZFU (y:Int) (ys:List Int):lexLt [] (y :: ys)=true:=rfl
theorem ZF4 (x:Int) (xs:List Int):lexLt (x :: xs) []=false:=rfl
theorem ZFV (A:Around) (s:Shared) (a:Int) (t:Tok) (c:Int) (u:Tok):∃ e,SeqAt.EqAt A s (.int a t) (.int c u) e/\(e=true ↔ a=c) :=
 ⟨(a == c),SeqAt.EqAt.int_int a t c u,by simp⟩
theorem ZLW (A:Around) (s:Shared) (a:Int) (t:Tok) (c:Int) (u:Tok) (prog:Program) (w:World) (E:Value->Shared->Prop) (Q:Value->Shared->Prop) (h:Q (.bool (decide (a < c))) s) :
  wpAny (model prog w) A (richCompare .Lt (.int a t) (.int c u)) Q E s :=
 (PyProof.Rows.lt_int h:wpAny (model prog w) A (compareOp .Lt (.int a t) (.int c u)) Q E s)
section
open PySem.SeqAt
open PySem.AutoSeq1 (wpAny_loadPart')
open PySem.MeetsSeq PySem.MeetsSeq2 PySem.MeetsSeq3
theorem ZGF (l b:Addr) (items items2:Array Value) (n n2:Nat) (dd dd2:Option Addr) (sl sl2:Array (Option Value)) (ns ms:List Int) (hi:IntsAre items.toList ns) (hj:IntsAre items2.toList ms) :
  Meets (Builtin.«tuple.__lt__» ⟨[.ref l,.ref b],[]⟩)
   (λ _ R s=>s.heap.get? l=some { cls:=.type "tuple",dict:=dd,data:=.seq items n,slots:=sl }/\s.heap.get? b=some { cls:=.type "tuple",dict:=dd2,data:=.seq items2 n2,slots:=sl2 } /\
    R (.ok (.ret (.bool (lexLt ns ms)))) s) :=
 .of_wp λ prog w A R s h=>by
  obtain ⟨hp,g,d,tk,os⟩:=s; obtain ⟨hl,hb,h⟩:=h
  have f2:=AutoSeq1.sub_tuple_tuple
  have z1:items.size=ns.length:=by rw [← hi.length]; simp
  have z2:items2.size=ms.length:=by rw [← hj.length]; simp
  wp_walk using wpAny_loadPart' hl,wpAny_loadPart' hb,wpAny_forIn_list _ (λ rest b s'=>b.1=none/\s'=⟨hp,g,d,tk,os⟩/\∃ (vs ws:List Value) (ns' ms':List Int),rest=vs.zip ws /\
   IntsAre vs ns'/\IntsAre ws ms'/\ns'.length+items2.size=ms'.length+items.size/\R (.ok (.ret (.bool (lexLt ns' ms')))) ⟨hp,g,d,tk,os⟩) _
  case turn =>
   rintro ⟨y,x⟩ rest b s' ⟨hb',rfl,vs,ws,ns',ms',hz,hvi,hwi,hlen,hR⟩
   cases hvi with
   | nil=>rw [List.zip_nil_left] at hz; cases hz
   | cons a t hvi' =>
    cases hwi with
    | nil=>rw [List.zip_nil_right] at hz; cases hz
    | cons c u hwi' =>
     rw [List.zip_cons_cons] at hz
     injection hz with hyx hrest
     injection hyx with hy hx
     subst hy hx
     rw [ZIo] at hR
     simp only [List.length_cons] at hlen
     obtain ⟨e,he,hiff⟩:=ZFV A.in1 ⟨hp,g,d,tk,os⟩ a t c u
     refine wpAny_bind (he prog w _ _ ?_)
     cases e with
     | true =>
      rw [if_pos (hiff.mp rfl)] at hR
      wp_walk
      exact ⟨rfl,rfl,_,_,_,_,hrest,hvi',hwi',by omega,hR⟩
     | false =>
      rw [if_neg (λ q=>absurd (hiff.mpr q) Bool.false_ne_true)] at hR
      have hri:=ZLW A.in1 ⟨hp,g,d,tk,os⟩ a t c u prog w
      wp_walk using hri
      exact ⟨_,rfl,by simpa using hR⟩
  case fin =>
   rintro ⟨b1,b2⟩ s' ⟨hb',rfl,vs,ws,ns',ms',hz,hvi,hwi,hlen,hR⟩
   simp only at hb'
   subst hb'
   have hv:lexLt ns' ms'=decide (items.size < items2.size):=by
    cases hvi with
    | nil =>
     cases hwi with
     | nil =>
      simp only [List.length_nil] at hlen
      rw [ZGR]
      exact (decide_eq_false (by omega)).symm
     | cons c u hw =>
      simp only [List.length_nil,List.length_cons] at hlen
      rw [ZFU]
      exact (decide_eq_true (by omega)).symm
    | cons a t hv =>
     cases hwi with
     | nil =>
      simp only [List.length_nil,List.length_cons] at hlen
      rw [ZF4]
      exact (decide_eq_false (by omega)).symm
     | cons c u hw =>
      rw [List.zip_cons_cons] at hz
      cases hz
   rw [hv] at hR
   wp_walk
   exact ⟨_,rfl,by simpa [Builtin.Tuple.tupleCompareSizes] using hR⟩
  case h =>
   exact ⟨rfl,rfl,items.toList,items2.toList,ns,ms,rfl,hi,hj,by omega,h⟩
end
section
variable {prog:Program} {w:World} {A:Around} {E:Value->Shared->Prop} {s:Shared}
theorem lt_tupInts {l b:Addr} {items items2:Array Value} {ns ms:List Int} {Q:Value->Shared->Prop} (hl:IsTup s.heap l items) (hb:IsTup s.heap b items2) (hi:IntsAre items.toList ns) (hj:IntsAre items2.toList ms)
  (hu:A.units < cLine) (h:Q (.bool (lexLt ns ms)) s):wpAny (model prog w) A (compareOp .Lt (.ref l) (.ref b)) Q E s:=by
 obtain ⟨⟨cls,dd,data,sl⟩,ho,hc,n,hd⟩:=id hl
 obtain ⟨⟨cls2,dd2,data2,sl2⟩,ho2,hc2,n2,hd2⟩:=id hb
 simp only at hc hd hc2 hd2
 subst hc hd hc2 hd2
 exact richCompare_meets_room (op:=.Lt) ⟨_,ho,rfl⟩ ⟨_,ho2,rfl⟩ PySem.F.slot_tuple_lt PySem.F.entry_tuple_lt (PySem.F.args_tuple_lt_2 _ _) (ZGF l b items items2 n n2 dd dd2 sl sl2 ns ms hi hj)
  ⟨ho,ho2,show Value.bool (lexLt ns ms) ≠ Value.notImplemented/\Q (.bool (lexLt ns ms)) s from ⟨(λ x=>nomatch x),h⟩⟩ hu
theorem ZNH {t b:Addr} {vs ws:List Value} {Q:Value->Shared->Prop} (ht:IsTup s.heap t vs.toArray) (hb:IsTup s.heap b ws.toArray) (hv:vs ≠ [])
  (h1:ws=[]->Q (.ref t) s) (h2:ws ≠ []->Q (.ref s.heap.objs.size) { s with heap:=s.heap.push { cls:=.type "tuple",data:=.seq (vs ++ ws).toArray } })
  (hsz:vs.length+ws.length<=sizeLine):wpAny (model prog w) A (binaryOp .Add (.ref t) (.ref b)) Q E s:=by
 obtain ⟨⟨cls,dd,data,sl⟩,ho,hc,n,hd⟩:=id ht
 obtain ⟨⟨cls2,dd2,data2,sl2⟩,ho2,hc2,n2,hd2⟩:=id hb
 simp only at hc hd hc2 hd2
 subst hc hd hc2 hd2
 have e:vs.toArray ++ ws.toArray=(vs ++ ws).toArray:=by simp
 by_cases hw:ws=[]
 ·exact concat_meets ⟨_,ho,rfl⟩ ⟨_,ho2,rfl⟩ noFill_tuple_add seq_tuple_add PySem.F.slot_tuple_add PySem.F.entry_tuple_add (PySem.F.args_tuple_add_2 _ _)
   (tuple_addW1 t b vs.toArray ws.toArray n n2 dd dd2 sl sl2 (by simpa using hv) (by simp [hw])) ⟨ho,ho2,h1 hw⟩
 ·refine concat_meets ⟨_,ho,rfl⟩ ⟨_,ho2,rfl⟩ noFill_tuple_add seq_tuple_add PySem.F.slot_tuple_add PySem.F.entry_tuple_add (PySem.F.args_tuple_add_2 _ _)
   (tuple_addW2 t b vs.toArray ws.toArray n n2 dd dd2 sl sl2 (by simpa using hv) (by simpa using hw) (by rw [List.size_toArray,List.size_toArray]; exact hsz)) ⟨ho,ho2,?_⟩
  rw [e]
  exact h2 hw
def sIx (n d:Nat):Option Int->Nat
 | none=>d
 | some v=>if v < 0 then (v+(n:Int)).toNat else min v.toNat n
theorem ZPa (n d:Nat) (hd:d<=n) (o:Option Int):sIx n d o<=n:=by
 cases o with
 | none=>exact hd
 | some v =>
  show (if v < 0 then (v+(n:Int)).toNat else min v.toNat n)<=n
  by_cases hv:v < 0
  ·rw [if_pos hv]; omega
  ·rw [if_neg hv]; exact Nat.min_le_right _ _
theorem ZJR (v:Int) (n d:Nat):(if v < 0 then max (v+(n:Int)) 0 else min v (n:Int))=((sIx n d (some v):Nat):Int):=by
 show (if v < 0 then max (v+(n:Int)) 0 else min v (n:Int))=(((if v < 0 then (v+(n:Int)).toNat else min v.toNat n):Nat):Int)
 by_cases hv:v < 0
 ·simp only [if_pos hv]; omega
 ·simp only [if_neg hv]; omega
theorem ZIy (lo hi:Option Int) (n:Nat):Builtin.Slice.sliceAdjust lo hi 1 (n:Int)=(((sIx n 0 lo:Nat):Int),((sIx n n hi:Nat):Int)):=by
 have h1 : ¬ ((1:Int) < 0):=by omega
 unfold Builtin.Slice.sliceAdjust
 simp only [h1,if_false]
 refine Prod.ext ?_ ?_
 ·cases lo with
  | none=>rfl
  | some v=>exact ZJR v n 0
 ·cases hi with
  | none=>rfl
  | some v=>exact ZJR v n n
theorem ZJB (i j:Nat):Builtin.Slice.slicePlaces (i:Int) (j:Int) 1=j - i:=by
 unfold Builtin.Slice.slicePlaces
 have h1:(1:Int) > 0:=by omega
 simp only [h1,if_true,Int.ediv_one]
 split <;> omega
theorem ZFf {v:Value} {o:Option Int} {Q:Option Int->Shared->Prop} (p:IsPart v o) (h:Q o s):wpAny (model prog w) A (Builtin.Slice.slicePartIndex v) Q E s:=by
 cases p with
 | none=>exact slicePart_none h
 | int i t=>exact slicePart_int h
theorem ZCm {sl:Addr} {vl vu:Value} {lo hi:Option Int} {n:Nat} {Q:Int × Int × Nat->Shared->Prop} (hs:s.heap.IsSliceOf sl vl vu .none) (pl:IsPart vl lo) (pu:IsPart vu hi)
  (h:Q (((sIx n 0 lo:Nat):Int),1,sIx n n hi - sIx n 0 lo) s):wpAny (model prog w) A (Builtin.Slice.sliceApplied (.ref sl) (pure (n:Int))) Q E s:=by
 obtain ⟨os,hos,hcs,hds⟩:=id hs
 unfold Builtin.Slice.sliceApplied Builtin.Slice.sliceFields
 refine wpAny_bind (wpAny_bind (wpAny_field hos hds (x:=vl) rfl (wpAny_bind (wpAny_field hos hds (x:=vu) rfl (wpAny_bind (wpAny_field hos hds (x:=.none) rfl (wpAny_pure ?_)))))))
 refine wpAny_bind (slicePart_none ?_)
 show wpAny _ _ (if ((1:Int) == 0)=true then _ else _) _ _ s
 rw [if_neg (by decide)]
 refine wpAny_bind (ZFf pl (wpAny_bind (ZFf pu (wpAny_bind (wpAny_pure ?_)))))
 show wpAny _ _ (match Builtin.Slice.sliceAdjust lo hi 1 (n:Int) with | (lo,hi)=>pure (lo,(1:Int),Builtin.Slice.slicePlaces lo hi 1)) _ _ s
 rw [ZIy lo hi n]
 show wpAny _ _ (pure (((sIx n 0 lo:Nat):Int),(1:Int),Builtin.Slice.slicePlaces ((sIx n 0 lo:Nat):Int) ((sIx n n hi:Nat):Int) 1)) _ _ s
 rw [ZJB]
 exact wpAny_pure h
theorem ZKg (xs:Array Value) (i k:Nat):((List.range k).filterMap λ (m:Nat)=>xs[((i:Int)+(m:Int) * 1).toNat]?).toArray=((xs.toList.drop i).take k).toArray:=by
 have e:(λ (m:Nat)=>xs[((i:Int)+(m:Int) * 1).toNat]?) = λ m=>xs[i+m]?:=by
  funext m
  have:((i:Int)+(m:Int) * 1).toNat=i+m:=by omega
  rw [this]
 rw [e]
 have:=pick_run xs i k
 rw [List.filterMap_map] at this
 have e2:((λ x=>xs[x]?) ∘ λ x=>i+x) = λ m=>xs[i+m]?:=rfl
 rw [e2] at this
 rw [this]
theorem getItem_tuple_cut {t sl:Addr} {items:Array Value} {vl vu:Value} {lo hi:Option Int} {Q:Value->Shared->Prop} (ht:IsTup s.heap t items) (hs:s.heap.IsSliceOf sl vl vu .none) (pl:IsPart vl lo) (pu:IsPart vu hi)
  (hw : ¬ (sIx items.size 0 lo=0/\sIx items.size items.size hi=items.size))
  (h:Q (.ref s.heap.objs.size) { s with heap:=s.heap.push { cls:=.type "tuple",data:=.seq ((items.toList.drop (sIx items.size 0 lo)).take (sIx items.size items.size hi - sIx items.size 0 lo)).toArray } })
  (hsz:items.size<=sizeLine):wpAny (model prog w) A (getItem (.ref t) (.ref sl)) Q E s:=by
 have htake:sizeOk (.seq ((items.toList.drop (sIx items.size 0 lo)).take (sIx items.size items.size hi - sIx items.size 0 lo)).toArray):=by
  show ((items.toList.drop (sIx items.size 0 lo)).take (sIx items.size items.size hi - sIx items.size 0 lo)).toArray.size<=sizeLine
  rw [List.size_toArray,List.length_take,List.length_drop,Array.length_toList]
  omega
 have hj:sIx items.size items.size hi<=items.size:=ZPa _ _ (Nat.le_refl _) hi
 obtain ⟨os,hos,hcs,hds⟩:=id hs
 have hTs:s.TypeIs (.ref sl) "slice":=⟨os,hos,hcs⟩
 unfold getItem
 try with_reducible refine wpAny_holding ?_
 first | refine wpAny_bind (wpAny_pure ?_) | skip
 refine wpAny_bind (wpAny_sequenceKey ht.typeIs (by decide) ?_)
 refine wpAny_bind (wpAny_callSpecial?_slot (name:=Str.ofString "__getitem__") ht.typeIs PyProof.Rows.slot_tuple_getitem
  (wpAny_call_entry PyProof.Rows.slot_tuple_getitem ht.typeIs entry_tuple_getitem ?_ (args_tuple_getitem _ _)))
 show wpAny _ _ (Builtin.Tuple.tupleItemsOf (.ref t) >>= _) _ _ s
 refine wpAny_bind (tupleItemsOf_ ht ?_)
 refine wpAny_bind (wpAny_typeOf hTs ?_)
 rw [if_pos (by decide)]
 refine wpAny_bind (ZCm hs pl pu ?_)
 have hno : ¬ ((((sIx items.size 0 lo:Nat):Int) == 0 && (1:Int) == 1 && (sIx items.size items.size hi - sIx items.size 0 lo) == items.size)=true):=by
  intro q
  rw [Bool.and_eq_true,Bool.and_eq_true] at q
  have q1:((sIx items.size 0 lo:Nat):Int)=0:=eq_of_beq q.1.1
  have q2:sIx items.size items.size hi - sIx items.size 0 lo=items.size:=eq_of_beq q.2
  exact hw ⟨by omega,by omega⟩
 show wpAny _ _ (if (((sIx items.size 0 lo:Nat):Int) == 0 && (1:Int) == 1 && (sIx items.size items.size hi - sIx items.size 0 lo) == items.size)=true then _ else _) _ _ s
 rw [if_neg hno,ZKg]
 first
  | exact wpAny_bind (m:=Builtin.Tuple.tupleExact _) (wpAny_newObj_type (wpAny_pure ⟨_,rfl,wpAny_pure h⟩) htake)
  | exact wpAny_bind (m:=Builtin.Tuple.tupleExact _) (wpAny_newObj_type (wpAny_bind (wpAny_pure (wpAny_pure ⟨_,rfl,wpAny_pure h⟩))) htake)
  | exact wpAny_bind (wpAny_bind (m:=Builtin.Tuple.tupleExact _) (wpAny_newObj_type (wpAny_pure (wpAny_pure ⟨_,rfl,wpAny_pure h⟩)) htake))
  | exact wpAny_bind (wpAny_bind (m:=Builtin.Tuple.tupleExact _) (wpAny_newObj_type (wpAny_pure ⟨_,rfl,wpAny_pure h⟩) htake))
end
end HT
namespace L2
open PySem PySem.Spec PyProof.Rows
abbrev TO:=St->Hp->(Option Int->Hp->Prop)->Prop
def PO (X:Cx) (e:Option Expr) (t:TO):Prop :=
 ∀ (pins:List (Addr × Obj)) (s:Shared) (σ : St) (H:Hp) (Q:Option Int->Hp->Prop),Inv X pins σ H s->t σ H Q ->
  wpAny (model X.prog X.w) X.A (evalPart e X.env) (λ u s'=>∃ o H',Inv X pins σ H' s'/\IsPart u o/\Q o H') X.xe s
def ZMx:TO:=λ _ H Q=>Q none H
def tPart (t:TE):TO:=λ σ H Q=>t σ H λ x H1=>∃ i,x=.int i/\Q (some i) H1
theorem ZBL {ns:List Int}:∀ {us:List Value},Zp (ns.map V.int) us->IntsAre us ns:=by
 induction ns with
 | nil=>intro us r; rw [List.map_nil] at r; cases r; exact .nil
 | cons n ns ih =>
  intro us r
  rw [List.map_cons] at r
  cases r with
  | cons r1 r2 =>
   obtain ⟨t,e⟩:=r1
   subst e
   exact .cons n t (ih r2)
section
variable {X:Cx} {e:Expr} {te:TE} {lo hi:Option Expr} {tl th:TO} {pos p2:Pos}
theorem ZMJ:PO X none ZMx:=by
 intro pins s σ H Q I h
 rw [evalPart_none]
 exact wpAny_pure ⟨none,H,I,.none,h⟩
theorem ZL6 (h:PE X e te):PO X (some e) (tPart te):=by
 intro pins s σ H Q I hw
 rw [evalPart_some]
 refine thn (h pins s σ H _ I hw) λ u s1 ⟨x,H1,I1,r1,q1⟩=>?_
 obtain ⟨i,rfl,q⟩:=q1
 obtain ⟨t,rfl⟩:=r1
 exact ⟨some i,H1,I1,.int i t,q⟩
def SlR (X:Cx) (r:V->Option Int->Option Int->Hp->VK->Prop):Prop :=
 ∀ (pins:List (Addr × Obj)) (s:Shared) (σ : St) (H:Hp) (x:V) (v vl vu:Value) (lo hi:Option Int) (sl:Addr) (Q:VK),Inv X pins σ H s->Z8 x v->s.heap.IsSliceOf sl vl vu .none->IsPart vl lo->IsPart vu hi->r x lo hi H Q ->
  ∃ T id,typeLookup (.type T) "__getitem__" = pure (some (.builtin id))/\s.TypeIs v T/\wpAny (model X.prog X.w) X.A (getItem v (.ref sl)) (EP X pins σ Q) X.xe s
def tSl (r:V->Option Int->Option Int->Hp->VK->Prop) (te:TE) (tl th:TO):TE:=λ σ H Q=>te σ H λ x H1=>tl σ H1 λ l H2=>th σ H2 λ u H3=>r x l u H3 Q
theorem ZLq {r:V->Option Int->Option Int->Hp->VK->Prop} (hr:SlR X r) (he:PE X e te) (hl:PO X lo tl) (hu:PO X hi th):PE X (.Subscript e (.Slice lo hi none p2) pos) (tSl r te tl th):=by
 intro pins s σ H Q I h
 refine Subscript_ (thn (he pins s σ H _ I h) λ v s1 ⟨x,H1,I1,r1,q1⟩=>?_)
 refine wpAny_Slice (thn (hl pins s1 σ H1 _ I1 q1) λ vl s2 ⟨l,H2,I2,pl,q2⟩=>thn (hu pins s2 σ H2 _ I2 q2) λ vu s3 ⟨u,H3,I3,pu,q3⟩=>?_)
 rw [evalPart_none]
 refine wpAny_pure ?_
 have I4:Inv X pins σ H3 { s3 with heap:=s3.heap.push { cls:=.type "slice",data:=.fields #[vl,vu,.none] } }:=I3.kept (t':=s3.toks) λ b ob q=>Heap.get?_push_of_some _ q
 obtain ⟨T,id,hT,ht,hg⟩:=hr pins { s3 with heap:=s3.heap.push { cls:=.type "slice",data:=.fields #[vl,vu,.none] } } σ H3 x v vl vu l u s3.heap.objs.size Q I4 r1 (Heap.IsSliceOf.new ..) pl pu q3
 show wpAny (model X.prog X.w) X.A (subscriptTail e (.Slice lo hi none p2) v (.ref s3.heap.objs.size)) (EP X pins σ Q) X.xe { s3 with heap:=s3.heap.push { cls:=.type "slice",data:=.fields #[vl,vu,.none] } }
 exact tail_any (ops:=[.ref s3.heap.objs.size,v]) ht hT hg (by with_unfolding_all rfl)
def ZGv (xs:List V) (lo hi:Option Int):List V:=(xs.drop (HT.sIx xs.length 0 lo)).take (HT.sIx xs.length xs.length hi - HT.sIx xs.length 0 lo)
theorem ZE5 (xs:List V) (lo hi:Option Int):(ZGv xs lo hi).length<=xs.length:=by
 unfold ZGv
 rw [List.length_take,List.length_drop]
 omega
def rSlT (K:PySem.W.Frag):V->Option Int->Option Int->Hp->VK->Prop:=λ x lo hi H Q=>∃ a xs,x=.ref a/\SqT K H a xs /\
 ¬ (HT.sIx xs.length 0 lo=0/\HT.sIx xs.length xs.length hi=xs.length)/\∀ p,H p=none->Q (.ref p) (upd H p (.tup (ZGv xs lo hi)))
theorem ZOa:SlR X (rSlT X.K):=by
 intro pins s σ H x v vl vu lo hi sl Q I rx hs pl pu h
 obtain ⟨a,xs,rfl,hx,hw,q⟩:=h
 cases rx
 obtain ⟨its,r,ht,hz⟩:=I.tuple hx
 have hlen:its.toArray.size=xs.length:=by rw [List.size_toArray]; exact r.length.symm
 refine ⟨"tuple",_,PyProof.Rows.slot_tuple_getitem.lookup,ht.typeIs,?_⟩
 refine HT.getItem_tuple_cut ht hs pl pu (by rw [hlen]; exact hw) ?_ (by rw [hlen]; exact hz)
 rw [hlen]
 refine ⟨.ref s.heap.objs.size,_,I.laid (t':=s.toks) (o:=.tup (ZGv xs lo hi)) (λ b ob q=>Heap.get?_push_of_some _ q) (Nat.le_refl _) ?_,rfl,q _ (I.hok.fresh (Nat.le_refl _))⟩
 exact ⟨Nat.le_trans (ZE5 xs lo hi) hz,_,(r.drop (HT.sIx xs.length 0 lo)).take (HT.sIx xs.length xs.length hi - HT.sIx xs.length 0 lo),IsTup.new _ _⟩
def rLtT (K:PySem.W.Frag):R2:=λ x y H Q=>∃ a b ns ms,x=.ref a/\y=.ref b/\SqT K H a (ns.map V.int)/\SqT K H b (ms.map V.int)/\Q (.bl (HT.lexLt ns ms)) H
theorem ZO8 (hu:X.A.units < cLine):OpR X (compareOp .Lt) (rLtT X.K):=by
 intro pins s σ H x y v u Q I rx ry h
 obtain ⟨a,b,ns,ms,rfl,rfl,ha,hb,q⟩:=h
 cases rx
 cases ry
 obtain ⟨its,r1,p1,_⟩:=I.tuple ha
 obtain ⟨its2,r2,p2,_⟩:=I.tuple hb
 have i1:IntsAre its.toArray.toList ns:=ZBL r1
 have i2:IntsAre its2.toArray.toList ms:=ZBL r2
 exact HT.lt_tupInts p1 p2 i1 i2 hu ⟨.bl (HT.lexLt ns ms),H,I,rfl,q⟩
theorem Zp.nil_iff {xs:List V} {us:List Value} (r:Zp xs us):us=[] ↔ xs=[]:=by
 cases r with
 | nil=>simp
 | cons _ _=>simp
end
end L2
namespace L2
open PySem PySem.Spec PyProof.Rows
def ixN (n:Nat) (i:Int):Option Nat:=if 0<=i then (if i < n then some i.toNat else none) else if -(n:Int)<=i then some (i+n).toNat else none
def atI {α : Type} (xs:List α) (i:Int):Option α:=(ixN xs.length i).bind λ j=>xs[j]?
theorem ZJX {n:Nat} {i:Int} {j:Nat} (h:ixN n i=some j):seqIndex? i n=some j/\j < n/\-(n:Int)<=i/\i < n:=by
 unfold ixN at h
 by_cases h0 : 0<=i
 ·rw [if_pos h0] at h
  by_cases h1:i < n
  ·rw [if_pos h1] at h
   have e:i.toNat=j:=Option.some.inj h
   exact ⟨by rw [seqIndex_of h0 h1,e],by omega,by omega,h1⟩
  ·rw [if_neg h1] at h; cases h
 ·rw [if_neg h0] at h
  by_cases h1 : -(n:Int)<=i
  ·rw [if_pos h1] at h
   have e:(i+n).toNat=j:=Option.some.inj h
   exact ⟨by rw [seqIndex_neg (by omega) h1,e],by omega,h1,by omega⟩
  ·rw [if_neg h1] at h; cases h
theorem ZJW {α : Type} {xs:List α} {i:Int} {v : α} (h:atI xs i=some v):∃ j,seqIndex? i xs.length=some j/\xs[j]? = some v/\j < xs.length/\-(xs.length:Int)<=i/\i < xs.length:=by
 unfold atI at h
 cases e:ixN xs.length i with
 | none=>rw [e] at h; cases h
 | some j =>
  rw [e] at h
  obtain ⟨h1,h2,h3,h4⟩:=ZJX e
  exact ⟨j,h1,h,h2,h3,h4⟩
theorem ZFQ {α : Type} {xs:List α} {j:Nat} {v : α} (h:xs[j]? = some v):atI xs (j:Int)=some v:=by
 have hj:j < xs.length:=(List.getElem?_eq_some_iff.mp h).1
 have e:ixN xs.length (j:Int)=some j:=by
  unfold ixN
  rw [if_pos (by omega),if_pos (by omega)]; simp
 unfold atI; rw [e]; exact h
def ZEL (b:Expr):Prop:=∀ o i,subscripted b false o i=operate [o,i] (getItem o i)
def IxR (X:Cx) (r:R2):Prop :=
 ∀ (value slice:Expr) (pins:List (Addr × Obj)) (s:Shared) (σ : St) (H:Hp) (x y:V) (v u:Value) (Q:VK),Inv X pins σ H s->Z8 x v->Z8 y u->r x y H Q ->
  subscripted slice false v u=operate [v,u] (getItem v u)->wpAny (model X.prog X.w) X.A (subscriptTail value slice v u) (EP X pins σ Q) X.xe s
def MtR (X:Cx) (id:String) (r:V->List V->Hp->VK->Prop):Prop :=
 ∀ (pins:List (Addr × Obj)) (s:Shared) (σ : St) (H:Hp) (x:V) (xs:List V) (v:Value) (us:List Value) (Q:VK),Inv X pins σ H s->Z8 x v->Zp xs us->r x xs H Q ->
  wpAny (model X.prog X.w) X.A (call (.builtin id) (v :: us)) (EP X pins σ Q) X.xe s
section
variable {X:Cx} {a b:Expr} {ta tb:TE} {pos:Pos}
theorem ZNk {r:R2} (hr:IxR X r) (ha:PE X a ta) (hb:PE X b tb) (hs:ZEL b):PE X (.Subscript a b pos) (tOp r ta tb):=by
 intro pins s σ H Q I h
 exact Subscript_ (ZOY ha hb I h λ v u s2 x y H2 I2 rx ry q=>hr a b pins s2 σ H2 x y v u Q I2 rx ry q (hs _ _))
def rIxL (K:PySem.W.Frag):R2:=λ x y H Q=>∃ p xs i v,x=.ref p/\y=.int i/\SqL K H p xs/\atI xs i=some v/\Q v H
def rIxT (K:PySem.W.Frag):R2:=λ x y H Q=>∃ p xs i v,x=.ref p/\y=.int i/\SqT K H p xs/\atI xs i=some v/\Q v H
theorem ZEQ:IxR X (rIxL X.K):=by
 intro value slice pins s σ H x y v u Q I rx ry h hs
 obtain ⟨p,xs,i,z,rfl,rfl,hq,he,q⟩:=h
 cases rx
 obtain ⟨t,rfl⟩:=ry
 obtain ⟨its,r,pl,hz⟩:=I.list hq
 obtain ⟨j,h1,h2,h3,h4,h5⟩:=ZJW he
 obtain ⟨w,ew,rw'⟩:=r.get h2
 have hl:=r.length
 have hn:=ZG6
 have fin:EP X pins σ Q w s:=⟨z,H,I,rw',q⟩
 by_cases h0 : 0<=i
 ·have hj:i.toNat=j:=by
   rw [seqIndex_of h0 h5] at h1
   exact Option.some.inj h1
  exact item_listR pl.isList h0 (by omega) (by rw [hj]; simpa using ew) fin hs
 ·have hj:(i+(its.toArray.size:Int)).toNat=j:=by
   rw [seqIndex_neg (by omega) h4] at h1
   rw [List.size_toArray,← hl]
   exact Option.some.inj h1
  exact subscriptTail_builtinR (x:=w) pl.isList.typeIs slot_list_getitem.lookup
   (wpAny_getItem_list_neg (Q:=λ r s'=>r=w/\EP X pins σ Q r s') pl.isList (by omega) (by rw [List.size_toArray] <;> omega) (by omega) (by rw [hj]; simpa using ew) ⟨rfl,fin⟩) hs
theorem ZLB:IxR X (rIxT X.K):=by
 intro value slice pins s σ H x y v u Q I rx ry h hs
 obtain ⟨p,xs,i,z,rfl,rfl,hq,he,q⟩:=h
 cases rx
 obtain ⟨t,rfl⟩:=ry
 obtain ⟨its,r,pl,hz⟩:=I.tuple hq
 obtain ⟨j,h1,h2,h3,h4,h5⟩:=ZJW he
 obtain ⟨w,ew,rw'⟩:=r.get h2
 have hl:=r.length
 have hn:=ZG6
 have fin:EP X pins σ Q w s:=⟨z,H,I,rw',q⟩
 exact subscriptTail_builtinR (x:=w) pl.typeIs slot_tuple_getitem.lookup
  (getItem_tuple (j:=j) (Q:=λ r s'=>r=w/\EP X pins σ Q r s') pl (by omega) (by omega) (by rw [List.size_toArray,← hl]; exact h1) (by simpa using ew) ⟨rfl,fin⟩) hs
theorem ZJF (its:List Value) (n j:Nat) (u:Value):Obj.mapSeq (·.setIfInBounds j u) { cls:=.type "list",data:=.seq its.toArray n }={ cls:=.type "list",data:=.seq (its.set j u).toArray n }:=by
 simp [Obj.mapSeq]
theorem Inv.lst {pins:List (Addr × Obj)} {σ : St} {H:Hp} {s:Shared} {p:Addr} {xs:List V} (I:Inv X pins σ H s) (h:H p=some (.lst xs)) :
  ∃ (its:List Value) (n:Nat),Zp xs its/\s.heap.get? p=some { cls:=.type "list",data:=.seq its.toArray n }/\xs.length<=sizeLine:=by
 obtain ⟨z,its,n,r,e⟩:=I.hok p _ h
 exact ⟨its,n,r,e,z⟩
theorem Inv.lstUpd {pins:List (Addr × Obj)} {σ : St} {H:Hp} {s:Shared} {p:Addr} {xs ys:List V} {its its':List Value} {n n':Nat} {f:Obj->Obj} (I:Inv X pins σ H s) (h:H p=some (.lst xs))
  (ho:s.heap.get? p=some { cls:=.type "list",data:=.seq its.toArray n }) (hf:f { cls:=.type "list",data:=.seq its.toArray n }={ cls:=.type "list",data:=.seq its'.toArray n' }) (r:Zp ys its') (hz:ys.length<=sizeLine) (t:Nat) :
  Inv X pins σ (upd H p (.lst ys)) { s with heap:=s.heap.update p f,toks:=t }:=by
 have e:(s.heap.update p f).get? p=some { cls:=.type "list",data:=.seq its'.toArray n' }:=by
  rw [Heap.get?_update_self f ho (by rw [hf] <;> rfl),hf]
 refine I.write (x:=p) (e:=p) (by rw [h]; trivial) (.inl rfl) (λ b u hb q=>(Heap.get?_update_other _ _ (Ne.symm hb)).trans q) ⟨_,e⟩ ?_
 exact ⟨hz,its',n',r,e⟩
def rSetL:V->V->V->Hp->(Hp->Prop)->Prop:=λ o i v H Q=>∃ p xs k j,o=.ref p/\i=.int k/\H p=some (.lst xs)/\ixN xs.length k=some j/\Q (upd H p (.lst (xs.set j v)))
theorem ZLb:ZPl X rSetL:=by
 intro pins s σ H o i v ov iv u Q I ro ri rv h
 obtain ⟨p,xs,k,j,rfl,rfl,hp,hj,q⟩:=h
 cases ro
 obtain ⟨t,rfl⟩:=ri
 obtain ⟨its,n,r,ho,hz⟩:=I.lst hp
 obtain ⟨h1,h2,h3,h4⟩:=ZJX hj
 have hl:=r.length
 have hn:=ZG6
 have I':Inv X pins σ (upd H p (.lst (xs.set j v))) { s with heap:=s.heap.update p (Obj.mapSeq (·.setIfInBounds j u)) } :=
  I.lstUpd hp ho (ZJF its n j u) (r.set rv j) (by rw [List.length_set]; exact hz) s.toks
 by_cases h0 : 0<=k
 ·have hk:k.toNat=j:=by
   rw [seqIndex_of h0 h4] at h1
   exact Option.some.inj h1
  exact PySem.W.ki_setAt ho h0 (by omega) (by rw [List.size_toArray,← hl]; exact h4) (by rw [hk]; exact ⟨_,I',q⟩)
 ·have hk:(k+(its.toArray.size:Int)).toNat=j:=by
   rw [seqIndex_neg (by omega) h3] at h1
   rw [List.size_toArray,← hl]
   exact Option.some.inj h1
  exact PySem.W.ki_setBack ho (by omega) (by rw [List.size_toArray,← hl]; exact h3) (by omega) (by rw [hk]; exact ⟨_,I',q⟩)
theorem ZHQ (lo hi:Option Int) (n:Nat):(sliceBounds lo hi none n).1=((HT.sIx n 0 lo:Nat):Int)/\(sliceBounds lo hi none n).2.1=((HT.sIx n n hi:Nat):Int)/\(sliceBounds lo hi none n).2.2=1:=by
 refine ⟨?_,?_,rfl⟩
 ·cases lo with
  | none=>simp [sliceBounds,HT.sIx]
  | some i =>
   simp only [sliceBounds,HT.sIx,Option.getD_none,show (1:Int) > 0 by decide,if_true]
   by_cases h:i < 0
   ·simp only [h,if_true] <;> omega
   ·simp only [h,if_false] <;> omega
 ·cases hi with
  | none=>simp [sliceBounds,HT.sIx]
  | some i =>
   simp only [sliceBounds,HT.sIx,Option.getD_none,show (1:Int) > 0 by decide,if_true]
   by_cases h:i < 0
   ·simp only [h,if_true] <;> omega
   ·simp only [h,if_false] <;> omega
theorem ZGJ (its:List Value) (lo hi:Option Int):slicePick its.toArray lo hi none=((its.drop (HT.sIx its.length 0 lo)).take (HT.sIx its.length its.length hi - HT.sIx its.length 0 lo)).toArray:=by
 obtain ⟨h1,h2,h3⟩:=ZHQ lo hi its.toArray.size
 unfold slicePick
 rw [h1,h2,h3]
 simp only [sliceRange_one,pick_run,List.size_toArray] <;> rfl
def rSlL (K:PySem.W.Frag):V->Option Int->Option Int->Hp->VK->Prop:=λ x lo hi H Q=>∃ a xs,x=.ref a/\SqL K H a xs/\∀ p,H p=none->Q (.ref p) (upd H p (.lst (ZGv xs lo hi)))
theorem ZJi:SlR X (rSlL X.K):=by
 intro pins s σ H x v vl vu lo hi sl Q I rx hs pl pu h
 obtain ⟨a,xs,rfl,hx,q⟩:=h
 cases rx
 obtain ⟨its,r,ht,hz⟩:=I.list hx
 have hlen:=r.length
 refine ⟨"list",_,slot_list_getitem.lookup,ht.isList.typeIs,?_⟩
 refine wpAny_getItem_list_slice ht.isList hs pl pu .none (by simp) ?_ (by rw [List.size_toArray] <;> omega)
 rw [ZGJ,← hlen]
 refine ⟨.ref s.heap.objs.size,_,I.laid (t':=s.toks) (o:=.lst (ZGv xs lo hi)) (λ b ob q=>Heap.get?_push_of_some _ q) (Nat.le_refl _) ?_,rfl,q _ (I.hok.fresh (Nat.le_refl _))⟩
 exact ⟨Nat.le_trans (ZE5 xs lo hi) hz,_,0,(r.drop (HT.sIx xs.length 0 lo)).take (HT.sIx xs.length xs.length hi - HT.sIx xs.length 0 lo),Heap.get?_push_size _ rfl⟩
def eqV:V->V->Bool
 | .non,.non=>true
 | .bl a,.bl b=>a == b
 | .bl a,.int b=>(if a then 1 else 0) == b
 | .int a,.bl b=>a == (if b then 1 else 0)
 | .int a,.int b=>a == b
 | .str a,.str b=>a == b
 | _,_=>false
def inV (x:V) (xs:List V):Bool:=xs.any λ y=>eqV y x
theorem ZHB:ZAG X (.builtin "len") (λ xs H Q=>∃ p ys,xs=[.ref p]/\(SqL X.K H p ys ∨ SqT X.K H p ys)/\Q (.int ys.length) H):=by
 intro pins s σ H xs us Q I r h
 obtain ⟨p,ys,rfl,hq,q⟩:=h
 obtain ⟨u,rfl,rx⟩:=ZDm r
 cases rx
 have hn:=ZG6
 rcases hq with hq | hq
 ·obtain ⟨its,r',pl,hz⟩:=I.list hq
  have hlen:=r'.length
  exact Calls.call_len_list pl.isList (by simp only [List.size_toArray] <;> omega) ⟨.int ys.length,H,I.tok _,⟨s.toks+1,by rw [List.size_toArray,hlen]⟩,q⟩
 ·obtain ⟨its,r',pl,hz⟩:=I.tuple hq
  have hlen:=r'.length
  exact len_tuple pl (by simp only [List.size_toArray] <;> omega) ⟨.int ys.length,H,I.tok _,⟨s.toks+1,by rw [List.size_toArray,hlen]⟩,q⟩
theorem ZAG.or {f:Value} {r r':List V->Hp->VK->Prop} (h:ZAG X f r) (h':ZAG X f r'):ZAG X f (λ xs H Q=>r xs H Q ∨ r' xs H Q):=by
 intro pins s σ H xs us Q I rs q
 rcases q with q | q
 ·exact h pins s σ H xs us Q I rs q
 ·exact h' pins s σ H xs us Q I rs q
theorem ZGN:ZAG X (.type "tuple") (λ xs H Q=>∃ p ys,xs=[.ref p]/\((SqL X.K H p ys/\∀ l,H l=none->Q (.ref l) (upd H l (.tup ys))) ∨ (SqT X.K H p ys/\Q (.ref p) H))):=by
 intro pins s σ H xs us Q I r h
 obtain ⟨p,ys,rfl,h⟩:=h
 obtain ⟨u,rfl,rx⟩:=ZDm r
 cases rx
 rcases h with ⟨hq,q⟩ | ⟨hq,q⟩
 ·obtain ⟨its,r',pl,hz⟩:=I.list hq
  have hlen:=r'.length
  refine call_tuple_list pl.isList (λ h' kp=>?_) (by simp only [List.size_toArray] <;> omega)
  have I1:Inv X pins σ H { s with heap:=h' }:=I.kept (t':=s.toks) kp
  have I2:Inv X pins σ (upd H h'.objs.size (.tup ys)) { s with heap:=h'.push { cls:=.type "tuple",data:=.seq its.toArray } } :=
   I1.laid (t':=s.toks) (λ b o e=>Heap.get?_push_of_some _ e) (Nat.le_refl _) (show ZCD X.prog X.w _ _ _ (.tup ys) from ⟨hz,its,r',IsTup.new _ _⟩)
  exact ⟨.ref h'.objs.size,_,I2,rfl,q _ (I1.hok.fresh (Nat.le_refl _))⟩
 ·obtain ⟨its,r',pl,hz⟩:=I.tuple hq
  exact call_tuple_same pl ⟨.ref p,H,I,rfl,q⟩
def tyV (K:PySem.W.Frag) (T:String) (x:V) (H:Hp):Prop:=match x with
 | .str _=>T = "str"
 | .int _=>T = "int"
 | .ref p=>(T = "list"/\∃ xs,SqL K H p xs) ∨ (T = "tuple"/\∃ o,K.lookup p=some o/\o.cls=.type "tuple"/\o.dict=none) ∨
   (T = "dict"/\((∃ kvs,H p=some (.dK kvs)) ∨ ∃ kvs,H p=some (.dT kvs))) ∨ (T = "set"/\∃ S n,H p=some (.set S n))
 | _=>False
theorem ZOR {pins:List (Addr × Obj)} {σ : St} {H:Hp} {s:Shared} {T:String} {x:V} {v:Value} (I:Inv X pins σ H s) (r:Z8 x v) (ty:tyV X.K T x H) :
  s.TypeIs v T/\∀ a,v=.ref a->∃ ob,s.heap.get? a=some ob/\ob.dict=none:=by
 cases x with
 | str z =>
  obtain ⟨t,rfl⟩:=r
  cases (show T = "str" from ty)
  exact ⟨typeIs_str s z t,λ _ e=>nomatch e⟩
 | int i =>
  obtain ⟨t,rfl⟩:=r
  cases (show T = "int" from ty)
  exact ⟨typeIs_int s i t,λ _ e=>nomatch e⟩
 | ref p =>
  cases r
  rcases ty with ⟨rfl,xs,hq⟩ | ⟨rfl,o,hk,hc,hd⟩ | ⟨rfl,hk⟩ | ⟨rfl,S,n,hk⟩
  ·obtain ⟨its,_,pl,_⟩:=I.list hq
   refine ⟨pl.isList.typeIs,λ a e=>?_⟩
   cases e
   obtain ⟨o,n,e,c,hd,_⟩:=pl
   exact ⟨o,e,hd⟩
  ·refine ⟨⟨o,I.kIn p o hk,hc⟩,λ a e=>?_⟩
   cases e
   exact ⟨o,I.kIn _ o hk,hd⟩
  ·have z:∃ o,s.heap.get? p=some o/\o.ExactDict:=by
    rcases hk with ⟨kvs,hk⟩ | ⟨kvs,hk⟩
    ·obtain ⟨_,_,_,_,o,_,_,e,ex,_⟩:=I.hok p _ hk
     exact ⟨o,e,ex⟩
    ·obtain ⟨_,_,_,_,o,_,_,e,ex,_⟩:=I.hok p _ hk
     exact ⟨o,e,ex⟩
   obtain ⟨o,e,ex⟩:=z
   refine ⟨⟨o,e,ex.1⟩,λ a e2=>?_⟩
   cases e2
   exact ⟨o,e,ex.2.1⟩
  ·obtain ⟨o,_,_,_,e,ex,_⟩:=I.hok p _ hk
   refine ⟨⟨o,e,ex.1⟩,λ a e2=>?_⟩
   cases e2
   exact ⟨o,e,ex.2.1⟩
 | _=>exact False.elim ty
def tBM (K:PySem.W.Frag) (T:String) (r:V->List V->Hp->VK->Prop) (to:TE) (t:TA):TE:=λ σ H Q=>to σ H λ x H1=>tyV K T x H1/\t σ H1 λ xs H2=>r x xs H2 Q
variable {o e:Expr} {es:List Expr} {to:TE} {t:TA} {name:Str} {apos cpos:Pos} {T id:String} {r:V->List V->Hp->VK->Prop}
theorem ZNe (pa:PlainAttrs T) (slot:Slot T name id) (hty:typeOf (.builtin id)=pure (.type "method_descriptor")) (hm:MtR X id r) (ho:PE X o to) (ha:PA X (e :: es) t)
  (hbase:attributeBase o name X.env (eval o X.env)=eval o X.env:=by rfl)
  (hfew:((backTo cpos (starEach (e :: es) X.env)).all (λ x=>!x.1) && (backToKw cpos (keywordEach [] X.env)).all (λ x=>x.1.isSome)
   && decide ((e :: es).length+([]:List Keyword).length+(if ([]:List Keyword).isEmpty then 0 else 1) < 30))=true:=by rfl)
  (hline:(apos.endLine == cpos.line)=true:=by rfl) (hs:starEach (e :: es) X.env=(false,eval e X.env) :: starEach es X.env:=by rfl) (hplain:(backTo cpos (starEach es X.env)).any (·.1)=false:=by rfl) :
  PE X (.Call (.Attribute o name apos) (e :: es) [] cpos) (tBM X.K T r to t):=by
 intro pins s σ H Q I h
 refine wpAny_Call_method_late hbase hfew hline rfl (thn (ho pins s σ H _ I h) λ v s1 ⟨x,H1,I1,r1,ty,q1⟩=>?_)
 obtain ⟨h1,h2⟩:=ZOR I1 r1 ty
 refine ⟨T,id,pa,slot,hty,h1,h2,?_⟩
 have hA:=ha cpos pins s1 σ H1 _ I1 q1
 rw [hs] at hA ⊢
 refine Calls.callWith_builtin (by show (false || (backTo cpos (starEach es X.env)).any (·.1))=false; rw [hplain] <;> rfl) (Calls.evalArgs_plain ?_)
 exact thn hA λ us s2 ⟨vs,H2,I2,r2,q2⟩=>hm pins s2 σ H2 x vs v us Q I2 r1 r2 q2
end
end L2
namespace L2
open PySem PySem.Spec PyProof.Rows
def MtM (X:Cx) (id:String) (r:V->List V->Hp->VK->Prop):Prop :=
 ∀ (pins:List (Addr × Obj)) (s:Shared) (σ : St) (H:Hp) (x:V) (xs:List V) (v:Value) (us:List Value) (Q:VK),Inv X pins σ H s->Z8 x v->Zp xs us->r x xs H Q ->
  wpAny (model X.prog X.w) X.A (call (.builtin id) (v :: us)) (EP X pins σ Q) X.xe s
theorem Zp.one:∀ {x:V} {us:List Value},Zp [x] us->∃ u,us=[u]/\Z8 x u
 | _,_,.cons r .nil=>⟨_,rfl,r⟩
theorem Zp.rep {xs:List V} {us:List Value} (h:Zp xs us):∀ k:Nat,Zp (List.replicate k xs).flatten (List.replicate k us).flatten
 | 0=>.nil
 | k+1=>by
  rw [List.replicate_succ,List.replicate_succ,List.flatten_cons,List.flatten_cons]
  exact Zp.append h (Zp.rep h k)
theorem ZEg (its:List Value):∀ (k:Nat) (acc:List Value),
  List.foldl (λ x1 x2=>x1 ++ x2) acc.toArray (List.replicate k its.toArray)=(acc ++ (List.replicate k its).flatten).toArray
 | 0,acc=>by simp
 | k+1,acc=>by
  have e:acc.toArray ++ its.toArray=(acc ++ its).toArray:=by simp
  have e2:(acc ++ its) ++ (List.replicate k its).flatten=acc ++ (List.replicate (k+1) its).flatten:=by
   rw [List.replicate_succ,List.flatten_cons,List.append_assoc]
  rw [← e2,← ZEg its k (acc ++ its),← e,List.replicate_succ,List.foldl_cons]
section
variable {X:Cx} {pins:List (Addr × Obj)} {σ : St} {H:Hp} {s:Shared} {l b:Addr} {xs ys zs:List V}
theorem Inv.lset {its its':List Value} {n:Nat} {f:Array Value->Array Value} {t':Nat} (I:Inv X pins σ H s) (hH:H l=some (.lst xs))
  (e:s.heap.get? l=some { cls:=.type "list",data:=.seq its.toArray n }) (hf:f its.toArray=its'.toArray) (hv:Zp ys its') (hz:ys.length<=sizeLine) :
  Inv X pins σ (upd H l (.lst ys)) { s with heap:=s.heap.update l (Obj.mapSeq f),toks:=t' }:=by
 have q:=PySem.IsL.update e f
 rw [hf] at q
 refine I.write (x:=l) (e:=l) (by rw [hH]; exact trivial) (.inl rfl) (λ b' u hb hu=>(Heap.get?_update_other s.heap (Obj.mapSeq f) (Ne.symm hb)).trans hu) ⟨_,q⟩ ?_
 exact ⟨hz,its',_,hv,q⟩
theorem Inv.lnew {its:List Value} {t':Nat} (I:Inv X pins σ H s) (hv:Zp ys its) (hz:ys.length<=sizeLine) :
  Inv X pins σ (upd H s.heap.objs.size (.lst ys)) { s with heap:=s.heap.push { cls:=.type "list",data:=.seq its.toArray },toks:=t' } :=
 I.laid (λ _ _ q=>Heap.get?_push_of_some _ q) (Nat.le_refl _) ⟨hz,its,0,hv,Heap.get?_push_size _ rfl⟩
theorem Inv.fresh (I:Inv X pins σ H s):H s.heap.objs.size=none:=I.hok.fresh (Nat.le_refl _)
theorem Inv.lstM (I:Inv X pins σ H s) (hH:H l=some (.lst xs)):xs.length<=sizeLine/\∃ (its:List Value) (n:Nat),Zp xs its/\xs.length=its.length/\s.heap.get? l=some { cls:=.type "list",data:=.seq its.toArray n }:=by
 obtain ⟨z,its,n,r,e⟩:=I.hok l _ hH
 exact ⟨z,its,n,r,r.length,e⟩
theorem ZFg {n:Nat} (h:n<=sizeLine):Builtin.List.listTooLong n=false:=by
 unfold Builtin.List.listTooLong
 exact decide_eq_false (by omega)
end
section
variable {X:Cx}
def ZMv:V->List V->Hp->VK->Prop:=λ x vs H Q=>∃ l xs y,x=.ref l/\vs=[y]/\H l=some (.lst xs)/\xs.length < sizeLine/\Q .non (upd H l (.lst (xs ++ [y])))
theorem ZGj:MtM X "list.append" ZMv:=by
 intro pins s σ H x vs v us Q I rx rv h
 obtain ⟨l,xs,y,rfl,rfl,hH,hz,q⟩:=h
 cases rx
 obtain ⟨u,rfl,ru⟩:=rv.one
 obtain ⟨z,its,n,r,hl,e⟩:=I.lstM hH
 refine call_meets F.slot_list_append ⟨_,e,rfl⟩ F.entry_list_append (F.args_list_append_2 _ _) (PySem.list_append l its.toArray n u (by rw [List.size_toArray]; omega)) ⟨e,?_⟩
 refine ⟨.non,_,I.lset (its':=its ++ [u]) hH e (by simp) (r.append (.cons ru .nil)) ?_,rfl,q⟩
 rw [List.length_append,List.length_singleton]
 omega
def ZMd:V->List V->Hp->VK->Prop:=λ x vs H Q=>∃ l b xs zs,x=.ref l/\vs=[.ref b]/\H l=some (.lst xs)/\H b=some (.lst zs)/\xs.length+zs.length<=sizeLine/\Q .non (upd H l (.lst (xs ++ zs)))
theorem ZKS:MtM X "list.extend" ZMd:=by
 intro pins s σ H x vs v us Q I rx rv h
 obtain ⟨l,b,xs,zs,rfl,rfl,hH,hB,hz,q⟩:=h
 cases rx
 obtain ⟨u,rfl,ru⟩:=rv.one
 cases ru
 obtain ⟨z,its,n,r,hl,e⟩:=I.lstM hH
 obtain ⟨z2,its2,n2,r2,hl2,e2⟩:=I.lstM hB
 have hsz:its.toArray.size+its2.toArray.size<=sizeLine:=by rw [List.size_toArray,List.size_toArray]; omega
 have hlong : ¬ (!its.toArray.isEmpty && Builtin.List.listTooLong (its.toArray.size+its2.toArray.size))=true:=by
  rw [ZFg hsz,Bool.and_false]
  exact Bool.false_ne_true
 refine call_meets F.slot_list_extend ⟨_,e,rfl⟩ F.entry_list_extend (F.args_list_extend_2 _ _)
  (AutoSeq1.list_extend_list_list_0 l its.toArray n b its2.toArray n2 hlong (by rw [List.size_toArray]; omega) (by omega)) ⟨e,e2,?_⟩
 refine ⟨.non,_,I.lset (its':=its ++ its2) hH e (by simp) (r.append r2) ?_,rfl,q⟩
 rw [List.length_append]
 omega
def rCat:R2:=λ x y H Q=>∃ l b xs zs,x=.ref l/\y=.ref b/\H l=some (.lst xs)/\H b=some (.lst zs)/\xs.length+zs.length<=sizeLine/\∀ p,H p=none->Q (.ref p) (upd H p (.lst (xs ++ zs)))
theorem ZNt:OpR X (binaryOp .Add) rCat:=by
 intro pins s σ H x y v u Q I rx ry h
 obtain ⟨l,b,xs,zs,rfl,rfl,hH,hB,hz,q⟩:=h
 cases rx
 cases ry
 obtain ⟨z,its,n,r,hl,e⟩:=I.lstM hH
 obtain ⟨z2,its2,n2,r2,hl2,e2⟩:=I.lstM hB
 refine PySem.P.add_list e e2 ?_ (by rw [List.size_toArray,List.size_toArray]; omega)
 have ea:its.toArray ++ its2.toArray=(its ++ its2).toArray:=by simp
 rw [ea]
 exact ⟨.ref _,_,I.lnew (t':=s.toks) (r.append r2) (by rw [List.length_append]; omega),rfl,q _ I.fresh⟩
def rRep:R2:=λ x y H Q=>∃ l k xs,x=.ref l/\y=.int k/\H l=some (.lst xs)/\-(2 ^ 63)<=k/\k < 2 ^ 63/\xs.length * k.toNat<=sizeLine /\
 ∀ p,H p=none->Q (.ref p) (upd H p (.lst (List.replicate k.toNat xs).flatten))
theorem ZJc {α : Type} (xs:List α) (k:Nat):(List.replicate k xs).flatten.length=k * xs.length:=by
 induction k with
 | zero=>simp
 | succ k ih=>rw [List.replicate_succ,List.flatten_cons,List.length_append,ih,Nat.succ_mul,Nat.add_comm]
theorem ZNp:OpR X (binaryOp .Mult) rRep:=by
 intro pins s σ H x y v u Q I rx ry h
 obtain ⟨l,k,xs,rfl,rfl,hH,h1,h2,hz,q⟩:=h
 cases rx
 obtain ⟨t,rfl⟩:=ry
 obtain ⟨z,its,n,r,hl,e⟩:=I.lstM hH
 have hlen:its.toArray.size * k.toNat<=sizeLine:=by rw [List.size_toArray,← hl]; exact hz
 have hcap : ¬ its.toArray.size * k.toNat > (2 ^ 63 - 1) / 8:=by
  have:(sizeLine:Nat)<=(2 ^ 63 - 1) / 8:=by decide
  omega
 have hfit : ¬ (!Builtin.List.listFitsIndex k)=true:=by
  rw [fitsIndex_both h1 h2]
  exact Bool.false_ne_true
 have hlong : ¬ Builtin.List.listTooLong (its.toArray.size * k.toNat)=true:=by
  rw [ZFg hlen]
  exact Bool.false_ne_true
 have hnew:List.foldl (λ x1 x2=>x1 ++ x2) #[] (List.replicate (if its.toArray.isEmpty=true then 0 else k.toNat) its.toArray)=(List.replicate k.toNat its).flatten.toArray:=by
  have f0:∀ m:Nat,List.foldl (λ x1 x2=>x1 ++ x2) #[] (List.replicate m its.toArray)=(List.replicate m its).flatten.toArray:=λ m=>by
   have:=ZEg its m []
   rw [List.nil_append] at this
   exact this
  rw [f0]
  cases its with
  | nil=>simp
  | cons a r'=>rw [if_neg (by simp)]
 refine wpAny_binaryOp_repeat_ref (T:="list") (U:="int") (by decide) ⟨_,e,rfl⟩ (λ s'=>typeIs_int s' k t) noFill_list_mul F.fills_int_mul F.slot_int_rmul repeat_list F.slot_int_index.lookup
  (call_meets F.slot_int_rmul (typeIs_int s k t) F.entry_int_rmul (F.args_int_rmul_2 _ _) (int___rmul___int_list k t l its.toArray n)
   ⟨e,rfl,⟨_,e,rfl⟩,call_meets F.slot_list_mul ⟨_,e,rfl⟩ F.entry_list_mul (F.args_list_mul_2 _ _) (AutoListH.list___mul___list_int_3 l its.toArray n k t hfit hcap hlong) ⟨e,?_⟩⟩)
 rw [hnew]
 exact ⟨.ref _,_,I.lnew (t':=s.toks) (r.rep k.toNat) (by rw [ZJc,Nat.mul_comm]; exact hz),rfl,q _ I.fresh⟩
end
section
variable {prog:Program} {w:World} {A:Around} {E:Value->Shared->Prop} {s:Shared}
end
section
variable {X:Cx}
end
end L2
namespace Att
open PySem PySem.W PySem.Calls PyProof.Rows
theorem ZFG {P:Params} {h:Heap}:∀ (ns:List Int) (vs:List Value),WellAll P h vs (ns.map WData.int)->IntsAre vs ns:=by
 intro ns
 induction ns with
 | nil =>
  intro vs w
  rw [List.map_nil] at w
  cases w
  exact .nil
 | cons n ns ih =>
  intro vs w
  rw [List.map_cons] at w
  cases w with
  | cons a b =>
   cases a
   exact .cons _ _ (ih _ b)
theorem ZKJ {l:OpenLaw} {n:Nat} (hn:l.most=some n) {P:Params} {h:Heap} {args:List WData} {vals:List Value}
  (hpre:l.row.toRowW.claim.pre args=true) (hwl:WellAll P h vals args) :
  ∃ a vs ns,vals=[Value.ref a]/\args=[WData.list (ns.map WData.int)]/\h.get? a=some { cls:=.type "list",data:=.seq vs.toArray }/\IntsAre vs ns/\ns.length<=n:=by
 have hsh:WShape.hasAll [] args [.list .int]=true:=(pre_splitW hpre).1
 have hc:l.pre.holds [] { args:=args }=true:=(pre_splitW hpre).2
 obtain ⟨d,r,rfl,h1,h2⟩:=hasAllW_cons hsh
 obtain rfl:=hasAllW_nil h2
 obtain ⟨xs,rfl,h3⟩:=hasW_list h1
 obtain ⟨ns,rfl⟩:=items_int h3
 have hlen:ns.length<=n:=by
  unfold OpenLaw.pre at hc
  have h4:(WTm.not (.lt (.lit (.int (n:Int))) (.len (.arg 0)))).holds [] { args:=[.list (ns.map .int)] }=true:=by
   have h4:=(holds_andW hc).1
   rw [hn] at h4
   exact h4
  have h5:=condW_of h4 (w_not (w_lt w_lit (w_len_list (w_arg rfl))))
  rw [List.length_map] at h5
  refine Nat.le_of_not_lt λ q=>?_
  have q':(n:Int) < ((ns.length:Nat):Int):=by omega
  first
   | (rw [decide_eq_true q'] at h5; exact absurd h5 (by decide))
   | (simp at h5; omega)
 cases hwl with
 | cons w1 w2 =>
  cases w2
  cases w1 with
  | list ho hall=>exact ⟨_,_,ns,rfl,rfl,ho,ZFG ns _ hall,hlen⟩
theorem ZKc (l:OpenLaw) (args:List WData):l.row.toRowW.claim.post args (.bool true) args=true :=
 postW_of (r:=l.row.toRowW) (X:=(true == true))
  (show WShape.has [] (.bool true) .bool=true by first | rfl | decide | simp [WShape.has,WShape.arms,WShape.armsAll])
  (show (WTm.eq .res (.lit (.bool true))).value [] { args:=args,res:=some (.bool true),after:=args }=some (.bool (true == true)) from w_eq_bool (w_res rfl) w_lit) rfl
theorem attach_call {l:OpenLaw} {n:Nat} {q:Program} {loose:List Str} {XP:(Str->Option Value)->Heap->Prop} {YP:World->Heap->Prop} {d:DefRec}
  (hn:l.most=some n) (hdf:d.params.defaults=[])
  (call:∀ (w:World) (s₀ s₁ : Shared) (mg mb:Str->Option Value) (fa:Addr) (o:Obj) (pm cd doc:Value) (a:Addr) (vs:List Value) (ns:List Int),
   Ground q loose [] XP w s₀ mg mb s₁.heap->YP w s₁.heap ->
   s₁.heap.get? fa=some o->o.data=.func (docDef d.name d.params d.body d.scope pm cd doc)->s₁.heap.CodeRec cd d.name->mg d.name=some (.ref fa) ->
   s₁.heap.get? a=some { cls:=.type "list",data:=.seq vs.toArray }->IntsAre vs ns->ns.length<=n->s₁.gens = #[] ->
   codeAny (model l.prog w) callerA (.call (.ref fa) ⟨[.ref a],[]⟩) (λ r s'=>r=.ok (.ret (.bool true))/\OldK s₁.heap s'.heap/\s'.os=s₁.os/\AllBare s'.gens) s₁) :
  WalkO q loose XP YP l.row.toRowW d [] (λ f vs=>PySem.call f vs):=by
 intro w s₀ s₁ mg mb G Y fa o pm cd doc dV kV ho hd hcd hD hmg hg args vals as hpre hlay hrd hwl hlo
 obtain rfl:dV=.none:=Dflts.none hD hdf
 obtain rfl:kV=.none:=Dflts.noKw hD
 obtain ⟨a,vs,ns,rfl,rfl,hobj,hints,hlen⟩:=ZKJ hn hpre hwl
 refine enter_call (codeAny_mono (call w s₀ s₁ mg mb fa o pm cd doc a vs ns G Y ho (fd_plain hd) hcd hmg hobj hints hlen hg) λ r s' hq=>?_)
 obtain ⟨rfl,h2,h3,h4⟩:=hq
 exact ⟨.inl ⟨.bool true,.bool true,[],rfl,λ _=>rfl,.bool true,ZKc l _,λ _=>⟨List.Pairwise.nil,λ _ hm=>(nomatch hm)⟩⟩,h2,h3,h4⟩
section
variable {prog:Program} {w:World} {A:Around} {E:Value->Shared->Prop} {s:Shared} {K:Frag}
end
end Att
namespace L2
open PySem PySem.Spec PyProof.Rows
theorem ZGW:∀ {vs:List Value} {ns:List Int},IntsAre vs ns->Zp (ns.map V.int) vs
 | _,_,.nil=>.nil
 | _,_,.cons n t h=>.cons ⟨t,rfl⟩ (ZGW h)
def ZPJ (H:Hp):Prop:=∀ b,H b=none ∨ ∃ o xs,H b=some (.frz o (.lst xs))
theorem ZKy {P:Program} {w:World} {K:PySem.W.Frag} {mg mb:Str->Option Value} {CX:CXT} {k:Nat} {fa a:Addr} {fd:FuncData} {x:Str} {sp:Sp} {s₁ : Shared} {vs:List Value} {ns:List Int}
  (KX:K.In s₁.heap) (hns:s₁.heap.Ns mainGlobals mg) (hb:s₁.heap.Ns builtinsNs mb) (hbb:∀ x:Str,x ≠ "__name__"->mb x=bootBuiltins x) (hlim:s₁.heap.NoLimit) (hg:s₁.gens = #[])
  (ha:s₁.heap.get? a=some { cls:=.type "list",data:=.seq vs.toArray }) (hi:IntsAre vs ns) (hl:ns.length<=sizeLine) (hr:Room k callerA)
  (F:∀ base:Heap,K.In base->base.Ns mainGlobals mg->FnOk P w K mg base CX k fa fd [x] sp) (hbind:∀ (s:Shared) (u:Value),BindsTo s fd ⟨[u],[]⟩ [(x,u)])
  (hsp:∀ H:Hp,ZPJ H->SqL K H a (ns.map V.int)->sp [.ref a] H (λ v _=>v=.bl true) λ _ _ _=>False)
  (hCX:∀ H e s',CX [] H s₁ (λ _ _ _=>False) e s'->False) :
  codeAny (model P w) callerA (.call (.ref fa) ⟨[.ref a],[]⟩) (λ r s'=>r=.ok (.ret (.bool true))/\OldK s₁.heap s'.heap/\s'.os=s₁.os/\AllBare s'.gens) s₁:=by
 have rv:=ZGW hi
 have lenV:=hi.length
 -- from an abstract heap in which nothing but the script may be tracked
 have core:∀ H:Hp,ZPJ H->SqL K H a (ns.map V.int)->HOk P w H s₁.heap->(∀ b,H b ≠ none->b=a)->(H a ≠ none->K.lookup a=none) ->
   codeAny (model P w) callerA (.call (.ref fa) ⟨[.ref a],[]⟩) (λ r s'=>r=.ok (.ret (.bool true))/\OldK s₁.heap s'.heap/\s'.os=s₁.os/\AllBare s'.gens) s₁:=by
  intro H hO hS hok hA hK
  have base_of:∀ {b:Addr} {o:Obj},s₁.heap.get? b=some o->H b=none->(ZHa s₁.heap H).get? b=some o:=λ e n=>ZL2 e n
  have noA:∀ {b:Addr} {o:Obj} {es:Array DictEntry} {ep:Nat},s₁.heap.get? b=some o->o.data=.dict es ep->H b=none:=λ {b o es ep} e d=>by
   cases q:H b with
   | none=>rfl
   | some u =>
    have e':b=a:=hA b (by rw [q]; simp)
    subst e'
    rw [ha] at e; cases e
    have d':Data.seq vs.toArray _=Data.dict es ep:=d
    cases d'
  have nsK:∀ {b:Addr} {m:Str->Option Value},s₁.heap.Ns b m->(ZHa s₁.heap H).Ns b m:=λ {b m} ⟨o,es,ep,e,d,r⟩=>⟨o,es,ep,base_of e (noA e d),d,r⟩
  have hKb:K.In (ZHa s₁.heap H):=λ b o e=>base_of (KX b o e) (by
   cases q:H b with
   | none=>rfl
   | some u =>
    have e':b=a:=hA b (by rw [q]; simp)
    subst e'
    rw [hK (by rw [q]; simp)] at e; cases e)
  have hM:Mod K mg (ZHa s₁.heap H):=⟨hKb,nsK hns,⟨mb,nsK hb,hbb⟩,let ⟨mc,h1,h2⟩:=hlim; ⟨mc,nsK h1,h2⟩⟩
  have e0:Env0 P w K mg (ZHa s₁.heap H) callerA [] s₁ H:=⟨rfl,hM,λ b o e=>ZNJ e,Nat.le_of_eq (ZJ5 _ _),trivial,λ b hb=>absurd (show b ∈ ([]:List Addr) from hb) (by simp),hok,.of_eq hg⟩
  refine codeAny_mono ((F _ hKb (nsK hns)).run callerA [] s₁ H ⟨[.ref a],[]⟩ [.ref a] [.ref a] _ _ hr e0 (hbind s₁ (.ref a)) (.cons rfl .nil) (hsp H hO hS)) λ r s' h=>?_
  cases r with
  | error e=>exact (hCX H e s' h).elim
  | ok fl =>
   cases fl with
   | next=>exact False.elim h
   | brk=>exact False.elim h
   | cont=>exact False.elim h
   | ret u =>
    obtain ⟨v,H',os,bare,un,hok',r',q⟩:=h
    have q':v=.bl true:=q
    subst q'
    obtain rfl:u=Value.bool true:=r'
    refine ⟨rfl,OldK.of_keep λ b o e=>?_,os,bare⟩
    cases q:H b with
    | none=>exact un.keep b o e q (by intro z; exact absurd (show b ∈ ([]:List Addr) from z) (by simp)) (by simp)
    | some u =>
     rcases hO b with z | ⟨ob,xs,z⟩
     ·rw [q] at z; cases z
     ·have z2:=un.frzs b ob _ z
      obtain ⟨e1,_⟩:=hok b _ z
      obtain ⟨e2,_⟩:=hok' b _ z2
      rw [e] at e1; cases e1
      exact e2
 cases hk:K.lookup a with
 | some o =>
  -- the script is one of the module's own objects
  have e:=KX a o hk
  rw [ha] at e
  cases e
  refine core (λ _=>none) (λ _=>.inl rfl) (.inr ⟨_,vs.toArray,_,hk,rfl,rfl,rfl,by rw [List.size_toArray,lenV]; exact hl,by simpa using rv⟩) (λ b u z=>by have z':(none:Option HO)=some u:=z; cases z') (λ b z=>absurd rfl z) λ z=>absurd rfl z
 | none =>
  refine core (λ b=>if b=a then some (.frz { cls:=.type "list",data:=.seq vs.toArray } (.lst (ns.map V.int))) else none) (λ b=>?_) (.inl (.inr ⟨{ cls:=.type "list",data:=.seq vs.toArray },if_pos rfl⟩)) (λ b u z=>?_) (λ b z=>?_) λ _=>hk
  ·by_cases hb:b=a
   ·exact .inr ⟨_,_,if_pos hb⟩
   ·exact .inl (if_neg hb)
  ·by_cases hb:b=a
   ·have z':=(if_pos hb).symm.trans z
    cases z'
    subst hb
    exact ⟨ha,by rw [List.length_map]; exact hl,vs,_,rv,ha⟩
   ·have z':=(if_neg hb).symm.trans z
    cases z'
  ·by_cases hb:b=a
   ·exact hb
   ·exact absurd (if_neg hb) z
end L2
namespace L2
open PySem PySem.Spec PyProof.Rows
theorem walk_of {l:PySem.W.OpenLaw} {n k:Nat} {q:Program} {loose:List Str} {XP:(Str->Option Value)->Heap->Prop} {YP:World->Heap->Prop} {d:DefRec} {K:Params->PySem.W.Frag} {CX:World->CXT} {sp:World->Sp} {x:Str}
  (hn:l.most=some n) (hn2:n<=sizeLine) (hdf:d.params.defaults=[]) (hr:Room k callerA)
  (hY:∀ (w:World) (h:Heap),YP w h->(K w.params).In h)
  (F:∀ (w:World) (mg:Str->Option Value) (fa:Addr) (h:Heap),(K w.params).In h->h.Ns mainGlobals mg->mg d.name=some (.ref fa) ->
   ∃ fd:FuncData,(∀ (s:Shared) (u:Value),BindsTo s fd ⟨[u],[]⟩ [(x,u)]) /\
    ∀ base:Heap,(K w.params).In base->base.Ns mainGlobals mg->FnOk l.prog w (K w.params) mg base (CX w) k fa fd [x] (sp w))
  (hsp:∀ (w:World) (H:Hp) (a:Addr) (ns:List Int),ns.length<=n->ZPJ H->SqL (K w.params) H a (ns.map V.int)->sp w [.ref a] H (λ v _=>v=.bl true) λ _ _ _=>False)
  (hCX:∀ (w:World) (H:Hp) (s:Shared) (e:Value) (s':Shared),CX w [] H s (λ _ _ _=>False) e s'->False) :
  PySem.W.WalkO q loose XP YP l.row.toRowW d [] (λ f vs=>PySem.call f vs):=by
 refine Att.attach_call hn hdf λ w s₀ s₁ mg mb fa o pm cd doc a vs ns G Y ho hd hcd hmg hobj hints hlen hg=>?_
 have KX:=hY w _ Y
 obtain ⟨fd,hb,hF⟩:=F w mg fa _ KX G.T.g hmg
 exact ZKy KX G.T.g G.T.b G.T.builtins G.T.nolimit hg hobj hints (Nat.le_trans hlen hn2) hr hF hb (λ H hO hS=>hsp w H a ns hlen hO hS) λ H e s'=>hCX w H s₁ e s'
end L2
namespace L2
open PySem PySem.Spec PyProof.Rows
def ZCX (s:Stmt) (j:Nat):Stmt:=match s with
 | .ClassDef _ _ _ body _ _ _ _ _ _ _=>body.getD j (.Pass ⟨0,0,0,0⟩)
 | _=>.Pass ⟨0,0,0,0⟩
def ZCx (s:Stmt):Arguments:=match s with
 | .FunctionDef _ a _ _ _ _ _ _ _ _=>a
 | _=>{ posonlyargs:=[],args:=[],vararg:=none,kwonlyargs:=[],kw_defaults:=[],kwarg:=none,defaults:=[] }
def ZBm (s:Stmt):List Stmt:=match s with
 | .FunctionDef _ _ b _ _ _ _ _ _ _=>b
 | _=>[]
def ZM (s:Stmt):Scope:=match s with
 | .FunctionDef _ _ _ _ _ _ sc _ _ _=>sc
 | _=>{ kind:=.function,names:=[],isGenerator:=false,isCoroutine:=false }
abbrev CX0:CXT:=λ _ _ _ _ _ _=>False
abbrev E0:XK:=λ _ _ _=>False
theorem ZLt {X:Cx}:ZEp CX0 X E0:=λ _ _ _ _ _ _ _ h=>h.elim
structure Fun (K:PySem.W.Frag) (x qual:Str) (st:Stmt) (f:Addr) (fd:FuncData):Prop where
 ex:∃ (oc:Value) (od:Option Addr) (kV doc pm:Value) (an:Option Addr) (cdv ct:Value) (osl:Array (Option Value)),
  fd=PySem.W.fnOf x qual (ZCx st) (ZBm st) (ZM st) .none kV doc pm an cdv ct/\K.lookup f=some ⟨oc,od,.func fd,osl⟩/\PySem.W.codeIn K cdv qual=true
 kp:PySem.W.keepIn K (.ref f)=true
section
variable {P:Program} {w:World} {K:PySem.W.Frag} {mg:Str->Option Value} {base:Heap}
theorem Fun.ok {x qual:Str} {st:Stmt} {f:Addr} {fd:FuncData} {N ps:List Str} {k:Nat} {sp:Sp} (F:Fun K x qual st f fd) (S:FnScope N ps (ZM st)) (len:∀ vs H Q E,sp vs H Q E->vs.length=ps.length)
  (hbody:∀ (cdv:Value) (A:Around) (outer:List Env) (s:Shared) (H:Hp) (vs:List V) (Q:VK) (E:XK),Room k (A.deeper (envOfC qual (ZM st) s.heap.objs.size f cdv))->sp vs H Q E ->
   ∃ t,PSs (ZHm CX0 P w K mg base N qual (ZM st) f cdv A outer s H E).nox (ZBm st) t/\t { nx:=λ _ H'=>Q .non H',rt:=Q } (ZES N vs) H):FnOk P w K mg base CX0 (k+1) f fd ps sp:=by
 obtain ⟨oc,od,kV,doc,pm,an,cdv,ct,osl,rfl,lk,hcd⟩:=F.ex
 refine fn_of lk hcd S len λ A outer s H vs Q E hr hsp=>?_
 obtain ⟨t,h,q⟩:=hbody cdv A outer s H vs Q E hr hsp
 exact ⟨t,h.nox,q⟩
theorem Fun.binds {x qual:Str} {st:Stmt} {f:Addr} {fd:FuncData} {ps:List Str} (F:Fun K x qual st f fd)
  (h:∀ (kV doc pm:Value) (an:Option Addr) (cdv ct:Value) (us:List Value),us.length=ps.length->bindArgs (PySem.W.fnOf x qual (ZCx st) (ZBm st) (ZM st) .none kV doc pm an cdv ct) ⟨us,[]⟩=pure (ps.zip us)):ZDp K fd ps []:=by
 obtain ⟨oc,od,kV,doc,pm,an,cdv,ct,osl,rfl,lk,hcd⟩:=F.ex
 exact .all (h kV doc pm an cdv ct)
theorem ZLc {x qual:Str} {st:Stmt} {f:Addr} {oc:Value} {od an:Option Addr} {osl:Array (Option Value)} {kV doc pm cdv ct:Value} (l:K.lookup f=some ⟨oc,od,.func (PySem.W.fnOf x qual (ZCx st) (ZBm st) (ZM st) .none kV doc pm an cdv ct),osl⟩)
  (c:PySem.W.codeIn K cdv qual=true) (k:PySem.W.keepIn K (.ref f)=true):Fun K x qual st f (PySem.W.fnOf x qual (ZCx st) (ZBm st) (ZM st) .none kV doc pm an cdv ct):=⟨⟨oc,od,kV,doc,pm,an,cdv,ct,osl,rfl,l,c⟩,k⟩
end
theorem Z0 {n:Nat} (h:n<=1000):n < sizeLine:=Nat.lt_of_le_of_lt h (by decide)
section
variable {X:Cx}
end
theorem iteF {A B:Prop} (h:B):if false=true then A else B:=by
 rw [if_neg Bool.false_ne_true]
 exact h
theorem iteT {A B:Prop} (h:A):if true=true then A else B:=by
 rw [if_pos rfl]
 exact h
def Same (H H':Hp):Prop:=∀ b o,H b=some o->H' b=some o
theorem Same.refl (H:Hp):Same H H:=λ _ _ h=>h
end L2
namespace HT
open PySem PyProof.Rows
def lexGt:List Int->List Int->Bool
 | [],[]=>false
 | [],_ :: _=>false
 | _ :: _,[]=>true
 | x :: xs,y :: ys=>if x=y then lexGt xs ys else decide (y < x)
theorem ZIZ (x y:Int) (xs ys:List Int):lexGt (x :: xs) (y :: ys)=if x=y then lexGt xs ys else decide (y < x):=rfl
theorem ZGE:lexGt [] []=false:=rfl
theorem ZF6 (y:Int) (ys:List Int):lexGt [] (y :: ys)=false:=rfl
theorem ZFS (x:Int) (xs:List Int):lexGt (x :: xs) []=true:=rfl
theorem ZLV (A:Around) (s:Shared) (a:Int) (t:Tok) (c:Int) (u:Tok) (prog:Program) (w:World) (E:Value->Shared->Prop) (Q:Value->Shared->Prop) (h:Q (.bool (decide (c < a))) s) :
  wpAny (model prog w) A (richCompare .Gt (.int a t) (.int c u)) Q E s :=
 (PyProof.Rows.gt_int h:wpAny (model prog w) A (compareOp .Gt (.int a t) (.int c u)) Q E s)
section
open PySem.SeqAt
open PySem.AutoSeq1 (wpAny_loadPart')
open PySem.MeetsSeq PySem.MeetsSeq2 PySem.MeetsSeq3
theorem ZGV (l b:Addr) (items items2:Array Value) (n n2:Nat) (dd dd2:Option Addr) (sl sl2:Array (Option Value)) (ns ms:List Int) (hi:IntsAre items.toList ns) (hj:IntsAre items2.toList ms) :
  Meets (Builtin.«tuple.__gt__» ⟨[.ref l,.ref b],[]⟩)
   (λ _ R s=>s.heap.get? l=some { cls:=.type "tuple",dict:=dd,data:=.seq items n,slots:=sl }/\s.heap.get? b=some { cls:=.type "tuple",dict:=dd2,data:=.seq items2 n2,slots:=sl2 } /\
    R (.ok (.ret (.bool (lexGt ns ms)))) s) :=
 .of_wp λ prog w A R s h=>by
  obtain ⟨hp,g,d,tk,os⟩:=s; obtain ⟨hl,hb,h⟩:=h
  have f2:=AutoSeq1.sub_tuple_tuple
  have z1:items.size=ns.length:=by rw [← hi.length]; simp
  have z2:items2.size=ms.length:=by rw [← hj.length]; simp
  wp_walk using wpAny_loadPart' hl,wpAny_loadPart' hb,wpAny_forIn_list _ (λ rest b s'=>b.1=none/\s'=⟨hp,g,d,tk,os⟩/\∃ (vs ws:List Value) (ns' ms':List Int),rest=vs.zip ws /\
   IntsAre vs ns'/\IntsAre ws ms'/\ns'.length+items2.size=ms'.length+items.size/\R (.ok (.ret (.bool (lexGt ns' ms')))) ⟨hp,g,d,tk,os⟩) _
  case turn =>
   rintro ⟨y,x⟩ rest b s' ⟨hb',rfl,vs,ws,ns',ms',hz,hvi,hwi,hlen,hR⟩
   cases hvi with
   | nil=>rw [List.zip_nil_left] at hz; cases hz
   | cons a t hvi' =>
    cases hwi with
    | nil=>rw [List.zip_nil_right] at hz; cases hz
    | cons c u hwi' =>
     rw [List.zip_cons_cons] at hz
     injection hz with hyx hrest
     injection hyx with hy hx
     subst hy hx
     rw [ZIZ] at hR
     simp only [List.length_cons] at hlen
     obtain ⟨e,he,hiff⟩:=ZFV A.in1 ⟨hp,g,d,tk,os⟩ a t c u
     refine wpAny_bind (he prog w _ _ ?_)
     cases e with
     | true =>
      rw [if_pos (hiff.mp rfl)] at hR
      wp_walk
      exact ⟨rfl,rfl,_,_,_,_,hrest,hvi',hwi',by omega,hR⟩
     | false =>
      rw [if_neg (λ q=>absurd (hiff.mpr q) Bool.false_ne_true)] at hR
      have hri:=ZLV A.in1 ⟨hp,g,d,tk,os⟩ a t c u prog w
      wp_walk using hri
      exact ⟨_,rfl,by simpa using hR⟩
  case fin =>
   rintro ⟨b1,b2⟩ s' ⟨hb',rfl,vs,ws,ns',ms',hz,hvi,hwi,hlen,hR⟩
   simp only at hb'
   subst hb'
   have hv:lexGt ns' ms'=decide (items.size > items2.size):=by
    cases hvi with
    | nil =>
     cases hwi with
     | nil =>
      simp only [List.length_nil] at hlen
      rw [ZGE]
      exact (decide_eq_false (by omega)).symm
     | cons c u hw =>
      simp only [List.length_nil,List.length_cons] at hlen
      rw [ZF6]
      exact (decide_eq_false (by omega)).symm
    | cons a t hv =>
     cases hwi with
     | nil =>
      simp only [List.length_nil,List.length_cons] at hlen
      rw [ZFS]
      exact (decide_eq_true (by omega)).symm
     | cons c u hw =>
      rw [List.zip_cons_cons] at hz
      cases hz
   rw [hv] at hR
   wp_walk
   exact ⟨_,rfl,by simpa [Builtin.Tuple.tupleCompareSizes] using hR⟩
  case h =>
   exact ⟨rfl,rfl,items.toList,items2.toList,ns,ms,rfl,hi,hj,by omega,h⟩
end
section
variable {prog:Program} {w:World} {A:Around} {E:Value->Shared->Prop} {s:Shared}
theorem gt_tupInts {l b:Addr} {items items2:Array Value} {ns ms:List Int} {Q:Value->Shared->Prop} (hl:IsTup s.heap l items) (hb:IsTup s.heap b items2) (hi:IntsAre items.toList ns) (hj:IntsAre items2.toList ms)
  (hu:A.units < cLine) (h:Q (.bool (lexGt ns ms)) s):wpAny (model prog w) A (compareOp .Gt (.ref l) (.ref b)) Q E s:=by
 obtain ⟨⟨cls,dd,data,sl⟩,ho,hc,n,hd⟩:=id hl
 obtain ⟨⟨cls2,dd2,data2,sl2⟩,ho2,hc2,n2,hd2⟩:=id hb
 simp only at hc hd hc2 hd2
 subst hc hd hc2 hd2
 exact richCompare_meets_room (op:=.Gt) ⟨_,ho,rfl⟩ ⟨_,ho2,rfl⟩ PySem.F.slot_tuple_gt PySem.F.entry_tuple_gt (PySem.F.args_tuple_gt_2 _ _) (ZGV l b items items2 n n2 dd dd2 sl sl2 ns ms hi hj)
  ⟨ho,ho2,show Value.bool (lexGt ns ms) ≠ Value.notImplemented/\Q (.bool (lexGt ns ms)) s from ⟨(λ x=>nomatch x),h⟩⟩ hu
end
end HT
namespace L2
open PySem PySem.Spec PyProof.Rows
section
variable {X:Cx} {a b:Expr} {ta tb:TE} {pos:Pos}
def rGtT (K:PySem.W.Frag):R2:=λ x y H Q=>∃ a b ns ms,x=.ref a/\y=.ref b/\SqT K H a (ns.map V.int)/\SqT K H b (ms.map V.int)/\Q (.bl (HT.lexGt ns ms)) H
theorem ZN7 (hu:X.A.units < cLine):OpR X (compareOp .Gt) (rGtT X.K):=by
 intro pins s σ H x y v u Q I rx ry h
 obtain ⟨a,b,ns,ms,rfl,rfl,ha,hb,q⟩:=h
 cases rx
 cases ry
 obtain ⟨its,r1,p1,_⟩:=I.tuple ha
 obtain ⟨its2,r2,p2,_⟩:=I.tuple hb
 have i1:IntsAre its.toArray.toList ns:=ZBL r1
 have i2:IntsAre its2.toArray.toList ms:=ZBL r2
 exact HT.gt_tupInts p1 p2 i1 i2 hu ⟨.bl (HT.lexGt ns ms),H,I,rfl,q⟩
def CDivL (i j:Int):Prop:=0 < j/\j < 2 ^ 64
theorem ZLm:OpR X (binaryOp .FloorDiv) (rI CDivL λ i j=>.int (i / j)):=opI λ i j _ _ _ _ _ hc q=>by
 have h1:(0:Int) < j:=hc.1
 have h2:j < 2 ^ 64:=hc.2
 have e:i.fdiv j=i / j:=Int.fdiv_eq_ediv_of_nonneg i (Int.le_of_lt h1)
 refine floordiv_int (by omega) (by rw [e]; exact q) (.inl (PyProof.noPylong_of_log2 ?_))
 have h3:j.natAbs < 2 ^ 64:=by omega
 have h4:j.natAbs ≠ 0:=by omega
 have h5:j.natAbs.log2 < 64:=(Nat.log2_lt h4).mpr h3
 omega
end
end L2
namespace H1
open PySem PySem.Spec PyProof.Rows L2
structure Def (K:PySem.W.Frag) (mg:Str->Option Value) (x:Str) (st:Stmt) (ps:List Str) (f:Addr) (fd:FuncData):Prop where
 at_:mg x=some (.ref f)
 fn:Fun K x x st f fd
 bd:ZDp K fd ps []
theorem pcall {X:Cx} {x:Str} {st:Stmt} {ps:List Str} {f:Addr} {fd:FuncData} {sp:Sp} {k:Nat} {e:Expr} {es:List Expr} {t:TA} {p pos:Pos} (D:Def X.K X.mg x st ps f fd) (G:FnOk X.prog X.w X.K X.mg X.base CX0 k f fd ps sp) (hr:Room k X.A)
  (ha:PA X (e :: es) t) (hg:Gl X x:=by rfl) (hdb:(x == ("__debug__" : Str))=false:=by decide) (he:starEach (e :: es) X.env=(false,eval e X.env) :: starEach es X.env:=by rfl) (hpl:(backTo pos (starEach es X.env)).any (·.1)=false:=by rfl) :
  PE X (.Call (.Name x p) (e :: es) [] pos) (ZNh sp [] E0 t):=ZNN G hr hg D.at_ D.fn.kp D.bd .nil ZLt ha hdb he hpl
theorem Same.upd {H:Hp} {p:Addr} {o:HO} (h:H p=none):Same H (upd H p o):=λ a u e=>by rw [Zb (Zf e h)]; exact e
theorem ib1 (k:Bool) : -(2 ^ 64) < (if k=true then (1:Int) else 0)/\(if k=true then (1:Int) else 0) < 2 ^ 64:=by cases k <;> decide
end H1
set_option maxHeartbeats 4000000
namespace HI
open PySem PyProof.Rows
section
variable {prog:Program} {w:World} {A:Around} {E:Value->Shared->Prop} {s:Shared}
theorem drawT {j t:Addr} {i:Nat} {its:Array Value} {x:Value} {Q:Value->Shared->Prop} (hj:s.heap.IsTupleIter j t i) (ht:s.heap.IsTuple t its) (hx:its[i]? = some x)
  (k:∀ h',h'.IsTupleIter j t (i+1)->Heap.SameBut j s.heap h'->Q x { s with heap:=h' }):wpAny (model prog w) A (Builtin.SmallTypes.nextOf (.ref j)) Q E s:=by
 obtain ⟨oj,ej,cj,dj⟩:=id hj; obtain ⟨ot,et,_,nt,dt⟩:=ht
 unfold Builtin.SmallTypes.nextOf
 refine wpAny_bind (wpAny_callSpecial?_slot (name:=Str.ofString "__next__") hj.typeIs F.slot_tuple_iterator_next (wpAny_call_entry F.slot_tuple_iterator_next hj.typeIs F.entry_tuple_iterator_next ?_ (F.args_tuple_iterator_next_1 _)))
 refine wpAny_bind (m:=field (.ref j) 0) (wpAny_field ej dj (x:=.ref t) rfl ?_)
 show wpAny _ _ (if (Value.ref t == Value.none)=true then _ else field (.ref j) 1 >>= _) _ _ s
 rw [if_neg (by intro z; cases z)]
 refine wpAny_bind (m:=field (.ref j) 1) (wpAny_field ej dj (x:=.int i 0) rfl (wpAny_bind (m:=seqItems? (.ref t)) (wpAny_seqItems et dt ?_)))
 simp only [Int.toNat_natCast,hx]
 refine wpAny_bind (wpAny_setField ej dj (by simp) (wpAny_pure ⟨_,rfl,wpAny_pure (k _ ?_ (Heap.SameBut.update ..))⟩))
 refine ⟨_,Heap.get?_update_self _ ej (Obj.isFreed_of_fields (Obj.data_mapFields dj _)),(Obj.cls_mapFields ..).trans cj,?_⟩
 rw [Obj.data_mapFields dj]
 simp [rawInt]
theorem ZGr {j t:Addr} {i:Nat} {its:Array Value} {Q:Value->Shared->Prop} (hh:A.handled=none) (hj:s.heap.IsTupleIter j t i) (ht:s.heap.IsTuple t its) (hx:its[i]? = none)
  (k:∀ h' e,Heap.ExtBut j s.heap h'->(∃ o,h'.get? e=some o/\o.cls=.type "StopIteration")->E (.ref e) { s with heap:=h' }):wpAny (model prog w) A (Builtin.SmallTypes.nextOf (.ref j)) Q E s:=by
 obtain ⟨oj,ej,cj,dj⟩:=id hj; obtain ⟨ot,et,_,nt,dt⟩:=ht
 unfold Builtin.SmallTypes.nextOf
 refine wpAny_bind (wpAny_callSpecial?_slot (name:=Str.ofString "__next__") hj.typeIs F.slot_tuple_iterator_next (wpAny_call_entry F.slot_tuple_iterator_next hj.typeIs F.entry_tuple_iterator_next ?_ (F.args_tuple_iterator_next_1 _)))
 refine wpAny_bind (m:=field (.ref j) 0) (wpAny_field ej dj (x:=.ref t) rfl ?_)
 show wpAny _ _ (if (Value.ref t == Value.none)=true then _ else field (.ref j) 1 >>= _) _ _ s
 rw [if_neg (by intro z; cases z)]
 refine wpAny_bind (m:=field (.ref j) 1) (wpAny_field ej dj (x:=.int i 0) rfl (wpAny_bind (m:=seqItems? (.ref t)) (wpAny_seqItems et dt ?_)))
 simp only [Int.toNat_natCast,hx]
 refine wpAny_bind (wpAny_rule (wpAny_bind (wpAny_setField ej dj (by simp) ?_)))
 refine wpAny_bind (m:=newExc (.type "StopIteration") []) ?_
 simp only [newExc,newTuple]
 refine wpAny_bind (wpAny_newObj_type (wpAny_bind (m:=firstArgMember _ _) (wpAny_of_eq (a:=Value.none) (by first | rfl | (simp only [firstArgMember]; rfl)) (wpAny_newObj_type ?_ (by size_fits)))) (by size_fits))
 simp only [raiseNew]
 refine wpAny_bind (wpAny_handled ?_)
 first
  | rw [show A.in1.handled=none from hh]
  | rw [hh]
 exact wpAny_bind (wpAny_pure (wpAny_throw (k _ _ (((Heap.SameBut.update ..).extBut.push _).push _) ⟨_,Heap.get?_push_size _ rfl,rfl⟩)))
end
theorem drawsT {prog:Program} {w:World} {A:Around} (hh:A.handled=none) (j t:Addr) (ne:t ≠ j) (its:Array Value) :
  Draws prog w A j [j,t] its.size (λ i v=>its[i]? = some v) (λ i h=>h.IsTupleIter j t i/\h.IsTuple t its) where
 live:=λ _ _ st=>by
  obtain ⟨⟨o,e,_⟩,_⟩:=st
  exact ⟨o,e⟩
 frame:=λ _ _ _ st hk=>by
  obtain ⟨⟨o,e,r⟩,⟨u,f,q⟩⟩:=st
  exact ⟨⟨o,hk j (by simp) o e,r⟩,⟨u,hk t (by simp) u f,q⟩⟩
 item:=λ i s Q E hi st hQ=>by
  refine drawT st.1 st.2 (x:=its[i]) (by simp [hi]) λ h' h1 h2=>?_
  obtain ⟨u,f,q⟩:=st.2
  exact hQ _ h' s.toks (by simp [hi]) ⟨h1,⟨u,(h2.2 t ne).trans f,q⟩⟩ h2
 done:=λ s Q E st hE=>ZGr hh st.1 st.2 (by simp) hE
theorem drawsT_fin {prog:Program} {w:World} {A:Around} (hh:A.handled=none) (j t:Addr) (its:Array Value) (i:Nat) (hi:its.size<=i) :
  Draws prog w A j [j,t] 0 (λ _ _=>False) (λ _ h=>h.IsTupleIter j t i/\h.IsTuple t its) where
 live:=λ _ _ st=>by
  obtain ⟨⟨o,e,_⟩,_⟩:=st
  exact ⟨o,e⟩
 frame:=λ _ _ _ st hk=>by
  obtain ⟨⟨o,e,r⟩,⟨u,f,q⟩⟩:=st
  exact ⟨⟨o,hk j (by simp) o e,r⟩,⟨u,hk t (by simp) u f,q⟩⟩
 item:=λ i s Q E hi st hQ=>absurd hi (Nat.not_lt_zero _)
 done:=λ s Q E st hE=>ZGr hh st.1 st.2 (by simp [hi]) hE
open AutoSeq1 (wpAny_loadPart') in
theorem ZLk (l:Addr) (its:Array Value) (n:Nat) (dct:Option Addr) (sl:Array (Option Value)) :
  Meets (Builtin.«enumerate.__new__» ⟨[.type "enumerate",.ref l],[]⟩) (λ _ R s=>s.heap.get? l=some { cls:=.type "tuple",dict:=dct,data:=.seq its n,slots:=sl } /\
   R (.ok (.ret (.ref (s.heap.push { cls:=.type "tuple_iterator",data:=.fields #[.ref l,.int 0 0] }).objs.size)))
    { s with heap:=(s.heap.push { cls:=.type "tuple_iterator",data:=.fields #[.ref l,.int 0 0] }).push { cls:=.type "enumerate",data:=.fields #[.none,.bool false,.ref s.heap.objs.size,rawInt 0,.none,.none] } }) :=
 .of_wp λ prog w A R s h=>by
  obtain ⟨hp,g,d,tk,os⟩:=s
  obtain ⟨hl,h⟩:=h
  have hsub:=sub_enumerate
  have hT:Heap.IsTuple (Shared.heap ⟨hp,g,d,tk,os⟩) l its:=⟨_,hl,rfl,n,rfl⟩
  wp_walk using wpAny_loadPart' hl
  refine wpAny_stack_any λ st=>wpAny_pure ?_
  split
  ·rename_i c _ _ _ _ _
   cases (c == Value.type "enumerate")
   all_goals
    wp_walk using wpAny_loadPart' hl,wpAny_pyIter_tuple hT
    exact ⟨_,rfl,h⟩
  ·wp_walk using wpAny_loadPart' hl,wpAny_pyIter_tuple hT
   exact ⟨_,rfl,h⟩
section
variable {prog:Program} {w:World} {A:Around} {E:Value->Shared->Prop} {s:Shared}
theorem callEnumT {l:Addr} {its:Array Value} {Q:Value->Shared->Prop} (hL:s.heap.IsTuple l its)
  (h:∀ h',IsEnum h' (s.heap.objs.size+1) s.heap.objs.size 0 .none->h'.IsTupleIter s.heap.objs.size l 0->h'.objs.size=s.heap.objs.size+2 ->
   (∀ b o,s.heap.get? b=some o->h'.get? b=some o)->Q (.ref (s.heap.objs.size+1)) { s with heap:=h' }):wpAny (model prog w) A (call (.type "enumerate") [.ref l]) Q E s:=by
 obtain ⟨⟨c,dct,dt,sl⟩,hl,hc,n,hd⟩:=hL
 replace hc:c=.type "tuple":=hc
 replace hd:dt=.seq its n:=hd
 subst hc hd
 refine callType_new F.called_enumerate (by decide) (F.typeCall_enumerate_1 _) (F.newCall_enumerate_1 _) (λ obj=>F.args_object_init_2 obj _) F.entry_enumerate_new (ZLk l its n dct sl) ⟨hl,?_⟩
 have hz:(s.heap.push { cls:=.type "tuple_iterator",data:=.fields #[.ref l,.int 0 0] }).objs.size=s.heap.objs.size+1:=Heap.size_push ..
 show _/\_
 rw [hz]
 have he:IsEnum ((s.heap.push { cls:=.type "tuple_iterator",data:=.fields #[.ref l,.int 0 0] }).push { cls:=.type "enumerate",data:=.fields #[.none,.bool false,.ref s.heap.objs.size,rawInt 0,.none,.none] }) (s.heap.objs.size+1) s.heap.objs.size 0 .none:=by
  have e:=Heap.get?_push_size (s.heap.push { cls:=.type "tuple_iterator",data:=.fields #[.ref l,.int 0 0] }) (o:={ cls:=.type "enumerate",data:=.fields #[.none,.bool false,.ref s.heap.objs.size,rawInt 0,.none,.none] }) rfl
  rw [hz] at e
  exact e
 exact ⟨⟨_,he,rfl⟩,h _ he ⟨_,Heap.get?_push_of_some _ (Heap.get?_push_size _ rfl),rfl,rfl⟩ (by rw [Heap.size_push,hz]) λ b o x=>Heap.get?_push_of_some _ (Heap.get?_push_of_some _ x)⟩
end
end HI
namespace L2
open PySem PySem.Spec PyProof.Rows
def Ite (K:PySem.W.Frag) (a:Addr):It :=
 ⟨λ i H=>∃ xs x,SqT K H a xs/\xs[i]? = some x,λ i H v H'=>∃ p x,v=.ref p/\H p=none/\H'=upd H p (.tup [.int i,x])/\∀ xs,SqT K H a xs->xs[i]? = some x,λ i H=>∃ xs,SqT K H a xs/\xs.length<=i⟩
theorem ZKa {P:Program} {w:World} {K:PySem.W.Frag} {es:List Expr} {k:Nat} {pos:Pos} (a it e:Addr) (hei:e ≠ it) :
  Turn P w K (.Tuple es k pos) (Ite K a) [e,it] e (λ i h=>(∃ old,IsEnum h e it i old)/\h.IsTupleIter it a i) where
 mem:=by simp
 obj:=λ i h st b hb=>by
  obtain ⟨⟨old,he⟩,o,ho,c,d⟩:=st
  rcases List.mem_cons.mp hb with rfl | hb
  ·exact ⟨_,he,λ v z=>by cases z⟩
  ·rw [List.mem_singleton.mp hb]
   exact ⟨o,ho,λ v z=>by rw [d] at z; cases z⟩
 keep:=λ i h h' st kk=>by
  obtain ⟨⟨old,he⟩,o,ho,r⟩:=st
  exact ⟨⟨old,kk e (by simp) _ he⟩,o,kk it (by simp) o ho,r⟩
 item:=by
  intro X hP hw hK hc i pins s σ H E I hf st hg
  subst hP hw hK
  obtain ⟨xs,x,hq,hx⟩:=hg
  obtain ⟨its,rv,p,hz⟩:=I.tuple hq
  obtain ⟨u,hu,ru⟩:=rv.get hx
  obtain ⟨f0,f1,f2,f3,f4,f5⟩:=hf e (by simp)
  obtain ⟨g0,g1,g2,g3,g4,g5⟩:=hf it (by simp)
  obtain ⟨⟨old,he⟩,hit⟩:=st
  have hilt:i < its.length:=(List.getElem?_eq_some_iff.mp hu).1
  have hai:a ≠ it:=by
   intro z
   obtain ⟨o,eo,co,_⟩:=p
   obtain ⟨o2,eo2,co2,_⟩:=hit
   rw [z,eo2] at eo
   cases eo
   rw [co2] at co
   exact absurd co (by decide)
  have hae:e ≠ a:=by
   intro z
   obtain ⟨o,eo,co,_⟩:=p
   rw [← z,he] at eo
   cases eo
   have co':Value.type "enumerate" = Value.type "tuple":=co
   exact absurd co' (by decide)
  refine wpAny_pyNext_enum_itemD (HI.drawsT (prog:=X.prog) (w:=X.w) (A:=X.A.in1) (show X.A.in1.handled=none from I.ok.hd hc) it a hai its.toArray) he ⟨hit,p⟩ (by simpa using hilt) hei (by simp [hei,hae]) λ x' h' tk hP ho hs hT hsz hk=>?_
  have ex:x'=u:=by
   have q:its[i]? = some x':=by simpa using hP
   rw [hu] at q
   exact (Option.some.inj q).symm
  subst ex
  refine ⟨_,rfl,?_⟩
  refine wpAny_letOwnedTupleGo_enum ho λ h2 he2 hs2=>?_
  have nT:H s.heap.objs.size=none:=I.hok.fresh (Nat.le_refl _)
  have heS:e < s.heap.objs.size:=Heap.lt_size he
  have hiS:it < s.heap.objs.size:=by obtain ⟨o,ho,_⟩:=hit; exact Heap.lt_size ho
  have hT2:h2.get? s.heap.objs.size=some { cls:=.type "tuple",data:=.seq #[.int i tk,x'] }:=(hs2.2 _ (Nat.ne_of_gt heS)).trans hT
  have kk:∀ b o,b ≠ e->b ≠ it->s.heap.get? b=some o->h2.get? b=some o:=λ b o h1 h2' q=>(hs2.2 b h1).trans (hk b o h1 h2' q)
  have nit:∀ b u,H b=some u->b ≠ e/\b ≠ it:=λ b u q=>⟨λ z=>(by rw [z,f0] at q; cases q),λ z=>(by rw [z,g0] at q; cases q)⟩
  have ne1:∀ b u,H b=some u->b ≠ s.heap.objs.size:=λ b u q=>Zf q nT
  have hok:HOk X.prog X.w (upd H s.heap.objs.size (.tup [.int i,x])) h2:=λ b ob q=>by
   by_cases hb:b=s.heap.objs.size
   ·subst hb
    rw [Zo] at q
    cases q
    exact ⟨by show 2<=sizeLine; decide,[.int i tk,x'],.cons ⟨tk,rfl⟩ (.cons ru .nil),⟨_,hT2,rfl,_,rfl⟩⟩
   ·rw [Zb hb] at q
    refine (I.hok b ob q).stay (λ c v hc' r=>?_) (λ c r=>by rw [Zb (ne1 _ _ r)]; exact r) λ c ys r=>by rw [Zb (ne1 _ _ r)]; exact r
    have nc:c ≠ e/\c ≠ it:=by
     rcases hc' with z | z
     ·rw [z]; exact nit b ob q
     ·exact nit c _ z
    exact kk c v nc.1 nc.2 r
  have I2:Inv X pins σ (upd H s.heap.objs.size (.tup [.int i,x])) { s with heap:=h2,toks:=tk+1 }:=by
   refine I.step (g':=s.gens) (d':=s.drawn) (ch:=[e,it]) (λ b hb=>?_) (λ b o _ _ hc' q _=>kk b o (λ z=>hc' (by simp [z])) (λ z=>hc' (by simp [z])) q) (λ b o _ _ hc' q _=>⟨o.slots,kk b o (λ z=>hc' (by simp [z])) (λ z=>hc' (by simp [z])) q⟩)
    (λ b o _ q n=>by rw [Zb (Nat.ne_of_lt (Heap.lt_size q))]; exact n) (λ b o hc' q=>⟨o,kk b o (λ z=>hc' (by simp [z])) (λ z=>hc' (by simp [z])) q⟩) (λ b ys q=>by rw [Zb (ne1 _ _ q)]; exact q) (λ b o u q=>by rw [Zb (ne1 _ _ q)]; exact q)
    (λ b ps q=>⟨#[],by rw [Zb (ne1 _ _ q),q]; simp⟩) (λ m hm=>?_) hok I.bare
   ·rcases List.mem_cons.mp hb with rfl | hb
    ·exact ⟨f3,f1,f4,f5⟩
    ·rw [List.mem_singleton.mp hb]
     exact ⟨g3,g1,g4,g5⟩
   ·obtain ⟨o,es',ep,ho',r⟩:=hm
    exact ⟨o,es',ep,kk _ o (Ne.symm f1) (Ne.symm g1) ho',r⟩
  refine ⟨.ref s.heap.objs.size,_,I2,rfl,⟨_,x,rfl,nT,rfl,λ ys hy=>by rw [I.tuple_inj hy hq]; exact hx⟩,⟨⟨x',by simpa using he2⟩,?_⟩,λ b hb=>?_⟩
  ·obtain ⟨⟨o,eo,r⟩,_⟩:=hs
   exact ⟨o,(hs2.2 it (Ne.symm hei)).trans eo,r⟩
  ·rcases List.mem_cons.mp hb with rfl | hb
   ·rw [Zb (Nat.ne_of_lt heS)]; exact f0
   ·rw [List.mem_singleton.mp hb,Zb (Nat.ne_of_lt hiS)]; exact g0
 done:=by
  intro X hP hw hK hc i pins s σ H E I hf st hg
  subst hP hw hK
  obtain ⟨xs,hq,hx⟩:=hg
  obtain ⟨its,rv,p,hz⟩:=I.tuple hq
  obtain ⟨g0,g1,g2,g3,g4,g5⟩:=hf it (by simp)
  obtain ⟨⟨old,he⟩,hit⟩:=st
  have hl:=rv.length
  exact wpAny_pyNext_enum_endD (HI.drawsT_fin (prog:=X.prog) (w:=X.w) (A:=X.A.in1) (show X.A.in1.handled=none from I.ok.hd hc) it a its.toArray i (by simp; omega)) he ⟨hit,p⟩ λ h' eb=>⟨rfl,I.turned (t':=s.toks) (λ b o hb e=>eb b o hb e) g0 g1 g3 g4 g5⟩
 self:=λ _ _ _ _ _ st h=>by
  obtain ⟨⟨old,he⟩,_⟩:=st
  exact wpAny_pyIter_enum he h
section
variable {X:Cx}
def iEnum (K:PySem.W.Frag) (ta:TA):TI:=λ σ H R=>ta σ H λ vs H1=>∃ a,vs=[.ref a]/\(∃ xs,SqT K H1 a xs)/\R (Ite K a) H1
theorem ZHf {es:List Expr} {k:Nat} {tpos:Pos} {a:Expr} {ta:TA} {p pos:Pos} (hg:Gl X "enumerate") (hm:X.mg "enumerate" = none) (ha:PA X [a] ta) (hs:starEach [a] X.env=[(false,eval a X.env)]:=by rfl) :
  PI X (.Tuple es k tpos) (.Call (.Name "enumerate" p) [a] [] pos) (iEnum X.K ta):=by
 intro pins s σ H R I h
 refine Call_ (ZFT I hg hm boot_enumerate (PyProof.Rows.callWith_type1 (thn (ha pos pins s σ H _ I h) λ us s1 ⟨vs,H1,I1,r1,q1⟩=>?_) hs rfl))
 obtain ⟨l,e,⟨xs,hq⟩,q⟩:=q1
 subst e
 cases r1 with
 | cons r rr =>
  cases rr
  cases r
  obtain ⟨its,rv,pt,hz⟩:=I1.tuple hq
  refine HI.callEnumT (show s1.heap.IsTuple l its.toArray from pt) λ h' he hit hsz hk=>?_
  have I2:Inv X pins σ H1 { s1 with heap:=h' }:=I1.kept (t':=s1.toks) hk
  refine wpAny_pyIter_enum he ⟨s1.heap.objs.size+1,[s1.heap.objs.size+1,s1.heap.objs.size],_,_,H1,rfl,I2,ZKa l s1.heap.objs.size _ (Nat.succ_ne_self _),⟨⟨_,he⟩,hit⟩,λ b hb=>?_,q⟩
  have hb':s1.heap.objs.size<=b:=by
   rcases List.mem_cons.mp hb with e | hb
   ·rw [e]; exact Nat.le_succ _
   ·rw [List.mem_singleton.mp hb]; exact Nat.le_refl _
  have F0:=I1.fpOk hb' (I1.hok.fresh hb')
  exact F0
end
end L2
namespace L2
open PySem PySem.Spec PyProof.Rows
theorem ZMr {env:Env} (ns:List (Str × NameKind)) (h:∀ x ∈ ns,x.2=.free->∃ c,env.cells.lookup x.1=some c):∀ cs:List (Str × Addr),
  ∃ cl:List (Str × Addr),(forIn ns cs λ x r=>do
   let mut cs:=r
   if x.2 == .free then cs:=(x.1,← cellOf env x.1) :: cs
   pure (ForInStep.yield cs):Sem (List (Str × Addr)))=pure cl /\
   (∀ x c,cl.lookup x=some c->cs.lookup x=some c ∨ env.cells.lookup x=some c) /\
   (∀ x,(cs.lookup x).isSome=true->(cl.lookup x).isSome=true)/\∀ x,(x,NameKind.free) ∈ ns->(cl.lookup x).isSome=true:=by
 induction ns with
 | nil=>exact λ cs=>⟨cs,rfl,λ _ _ e=>.inl e,λ _ e=>e,λ _ z=>nomatch z⟩
 | cons y r ih =>
  intro cs
  obtain ⟨n,k⟩:=y
  have ih:=ih λ x hx=>h x (List.mem_cons_of_mem _ hx)
  by_cases hk:k=.free
  ·subst hk
   obtain ⟨c,hc⟩:=h (n,.free) List.mem_cons_self rfl
   obtain ⟨cl,e,p1,p2,p3⟩:=ih ((n,c) :: cs)
   refine ⟨cl,?_,λ x c' q=>?_,λ x q=>p2 x ?_,λ x q=>?_⟩
   ·rw [List.forIn_cons]
    have hce:cellOf env n=pure c:=by
     unfold cellOf
     rw [show env.cells.lookup n=some c from hc]
    simp only [beq_self_eq_true,if_true]
    rw [hce]
    exact e
   ·rcases p1 x c' q with q | q
    ·rw [List.lookup_cons] at q
     cases hx:x == n with
     | true=>rw [hx] at q; cases q; rw [eq_of_beq hx]; exact .inr hc
     | false=>rw [hx] at q; exact .inl q
    ·exact .inr q
   ·rw [List.lookup_cons]
    cases hx:x == n with
    | true=>rfl
    | false=>exact q
   ·rcases List.mem_cons.mp q with z | z
    ·cases z
     exact p2 _ (by rw [List.lookup_cons]; simp)
    ·exact p3 x z
  ·obtain ⟨cl,e,p1,p2,p3⟩:=ih cs
   refine ⟨cl,?_,p1,p2,λ x q=>?_⟩
   ·rw [List.forIn_cons]
    have hb:(k == NameKind.free)=false:=by simpa using hk
    simp only [hb]
    exact e
   ·rcases List.mem_cons.mp q with z | z
    ·cases z; exact absurd rfl hk
    ·exact p3 x z
theorem ZDo {env:Env} {scope:Scope} (h:∀ x ∈ scope.names,x.2=.free->∃ c,env.cells.lookup x.1=some c) :
  ∃ cl:List (Str × Addr),closureFor scope env=pure cl/\(∀ x c,cl.lookup x=some c->env.cells.lookup x=some c)/\∀ x,(x,NameKind.free) ∈ scope.names->(cl.lookup x).isSome=true:=by
 obtain ⟨cl,e,p1,_,p3⟩:=ZMr scope.names h []
 refine ⟨cl,?_,λ x c q=>(p1 x c q).elim (λ z=>by cases z) id,p3⟩
 unfold closureFor
 have e2:(forIn scope.names ([]:List (Str × Addr)) λ x r=>do
   let mut cs:=r
   if x.2 == .free then cs:=(x.1,← cellOf env x.1) :: cs
   pure (ForInStep.yield cs):Sem (List (Str × Addr))) >>= (λ cs=>pure cs)=pure cl:=by rw [e]; rfl
 exact e2
abbrev blk (X:Cx) (N:List Str) (env:Env) (s:Shared) (H:Hp) (ex:List Addr):Cx:={ X with N:=N,s₀:=s,H₀:=H,env:=env,outer:=X.stack,stack:=X.stack,ex:=ex,fn:=λ _=>false,pn:=[],xe:=λ _ _=>False }
section
variable {X:Cx} {pins:List (Addr × Obj)} {σ : St} {H:Hp} {s:Shared} {fp:List Addr} {env:Env} {N:List Str}
theorem ZPR (I:Inv X pins σ H s) (hf:∀ b ∈ fp,ZFC X pins H b) (hob:∀ b ∈ fp,∃ o,s.heap.get? b=some o) (hC:s.heap.objs.size<=env.locals) (hk:env.scope.kind=.function) (hg:env.globals=X.env.globals) (hb:env.builtins=X.env.builtins)
  (hsub:∀ x c,env.cells.lookup x=some c->X.env.cells.lookup x=some c) (hhas:∀ x,(env.kindOf x=some .cell ∨ env.kindOf x=some .free)->∃ c,env.cells.lookup x=some c):(blk X N env s H fp).Ok where
 mod:=I.ok.mod
 kind:=hk
 glob:=hg.trans I.ok.glob
 blt:=hb.trans I.ok.blt
 above:=hC
 inj:=λ x y c e1 e2=>I.ok.inj x y c (hsub x c e1) (hsub y c e2)
 has:=hhas
 cab:=λ _ _ z=>by cases z
 hd:=I.ok.hd
 frames:=I.ok.frames
 stk:=.inl rfl
 exf:=λ b hb'=>by
  obtain ⟨o,e⟩:=hob b hb'
  exact ⟨Nat.ne_of_lt (Nat.lt_of_lt_of_le (Heap.lt_size e) hC),λ x c q=>(hf b hb').2.2.2.2.1 x c (hsub x c q)⟩
 bs:=I.bs
 bsz:=Nat.le_trans I.ok.bsz I.sz
 noex:=λ b o e hb'=>by
  rcases (hf b hb').2.2.2.1 with z | z
  ·exact I.ok.noex b o e z
  ·exact absurd (Nat.lt_of_lt_of_le (Heap.lt_size e) (Nat.le_trans I.ok.bsz z)) (Nat.lt_irrefl _)
 exfs:=λ b hb' z=>by
  rcases List.mem_cons.mp (I.stkSub b z) with q | q
  ·exact (hf b hb').2.1 q
  ·exact (hf b hb').2.2.1 q
 funs:=I.stack
 frf:=I.stkFree
theorem ZM5 {h1:Heap} {tk:Nat} {σ':St} {m:Str->Option Value} (I:Inv X pins σ H s) (hf:∀ b ∈ fp,ZFC X pins H b) (hob:∀ b ∈ fp,∃ o,s.heap.get? b=some o) (hC:s.heap.objs.size<=env.locals) (hk:env.scope.kind=.function) (hg:env.globals=X.env.globals) (hb:env.builtins=X.env.builtins)
  (hsub:∀ x c,env.cells.lookup x=some c->X.env.cells.lookup x=some c) (hhas:∀ x,(env.kindOf x=some .cell ∨ env.kindOf x=some .free)->∃ c,env.cells.lookup x=some c)
  (keep:∀ b u,s.heap.get? b=some u->h1.get? b=some u) (hn:h1.Ns env.locals m) (hlen : σ'.length=N.length)
  (hcap:∀ (i:Nat) (x:Str) (v:V),N[i]? = some x->σ'[i]? = some (some v)->(env.kindOf x=some .cell ∨ env.kindOf x=some .free)/\X.env.kindOf x ≠ some .local/\Vis X.env.scope x/\∃ j:Nat,X.N[j]? = some x/\σ[j]? = some (some v)) :
  Inv (blk X N env s H fp) [] σ' H { s with heap:=h1,toks:=tk } where
 ok:=ZPR I hf hob hC hk hg hb hsub hhas
 os:=rfl
 bare:=I.bare
 base:=Un.kept keep
 loc:=⟨m,hn,λ i x v e1 e2 _=>by
  obtain ⟨k1,k2,k3,j,e3,e4⟩:=hcap i x v e1 e2
  obtain ⟨m0,_,hl⟩:=I.loc
  obtain ⟨u,r,l⟩:=hl j x v e3 e4 k3
  refine ⟨u,r,?_⟩
  rcases l with ⟨z,_⟩ | ⟨_,c,ec,o,ho,hd⟩
  ·exact absurd z k2
  ·obtain ⟨c',ec'⟩:=hhas x k1
   have ee:c'=c:=by
    have q:=hsub x c' ec'
    rw [ec] at q
    exact (Option.some.inj q).symm
   subst ee
   exact .inr ⟨k1,c',ec',o,keep _ _ ho,hd⟩⟩
 cell:=λ x c e=>by
  obtain ⟨v,o,ho,hd⟩:=I.cell x c (hsub x c e)
  exact ⟨v,o,keep _ _ ho,hd⟩
 free:=I.hok.fresh hC
 freeC:=λ x c e=>I.freeC x c (hsub x c e)
 pin:=λ p hp=>by cases hp
 hok:=I.hok.kept keep
 len:=hlen
theorem Un.but {fs ex:List Addr} {H H':Hp} {h h1 h2:Heap} {C:Addr} (u:Un fs ex H H' h h1) (sb:Heap.SameBut C h1 h2) (hC:h.objs.size<=C):Un fs ex H H' h h2:=by
 have k:∀ b o,h.get? b=some o->h2.get? b=h1.get? b:=λ b o e=>sb.2 b (Nat.ne_of_lt (Nat.lt_of_lt_of_le (Heap.lt_size e) hC))
 exact ⟨λ b o e n h3 h4=>(k b o e).trans (u.keep b o e n h3 h4),λ b o e n h3 h4=>by
  obtain ⟨sl,q⟩:=u.slot b o e n h3 h4
  exact ⟨sl,(k b o e).trans q⟩,u.free,λ b o e h3=>by
  obtain ⟨o',q⟩:=u.there b o e h3
  exact ⟨o',(k b o e).trans q⟩,u.tups,u.frzs,u.tbls⟩
theorem ZNG {σ':St} {H':Hp} {s':Shared} {h2:Heap} (I:Inv X pins σ H s) (hf:∀ b ∈ fp,ZFC X pins H b) (hC:s.heap.objs.size<=env.locals) (J:Inv (blk X N env s H fp) [] σ' H' s') (sb:Heap.SameBut env.locals s'.heap h2):Inv X pins σ H' { s' with heap:=h2 }:=by
 refine I.call' (ch:=fp) J.os (J.base.but sb hC) (λ b u e=>?_) J.bare λ b hb=>⟨(hf b hb).2.2.2.1,(hf b hb).2.1,(hf b hb).2.2.2.2.1,(hf b hb).2.2.2.2.2⟩
 refine (J.hok b u e).stay (λ c v hc q=>(sb.2 c ?_).trans q) (λ _ q=>q) λ _ _ q=>q
 intro z
 have n:=J.free
 rcases hc with q | q
 ·rw [← q,z] at e
  rw [e] at n; cases n
 ·rw [z] at q
  rw [q] at n; cases n
end
def Wk (a b:St):Prop:=a.length=b.length/\∀ (i:Nat) (v:V),a[i]? = some (some v)->b[i]? = some (some v)
def PTs (X:Cx) (ifs:List Expr) (t:TT):Prop :=
 ∀ (pins:List (Addr × Obj)) (s:Shared) (σ : St) (H:Hp) (Q:Bool->Hp->Prop),Inv X pins σ H s->t σ H Q ->
  wpAny (model X.prog X.w) X.A (forIn ifs true λ c r=>if r=true then do let ok ← isTrue c X.env (eval c X.env); pure (ForInStep.yield ok) else pure (ForInStep.yield r)) (TP X pins σ Q) X.xe s
def tYes:TT:=λ _ H Q=>Q true H
theorem ZMn {X:Cx}:PTs X [] tYes:=λ _ _ _ H _ I h=>wpAny_tests_nil ⟨H,I,h⟩
theorem ZMM {X:Cx} {c:Expr} {t:TT} (h:PT X c t):PTs X [c] t:=λ pins s σ H Q I hw=>wpAny_tests_one (h pins s σ H Q I hw)
def ZLJ (J:It) (g:TG) (tt:TT) (te:TE) (σ0:St) (D:Addr) (Q:VK) (H1:Hp):Prop :=
 ∃ W:Nat->Nat->List V->Hp->Prop,(∃ m,W 0 m [] H1)/\∀ i m acc H,W i m acc H ->
  (J.stop i H/\Q (.ref D) H) ∨ (J.go i H/\∃ N:List V->Hp->Prop,(∀ acc' H',N acc' H'->∃ m',m' < m/\W (i+1) m' acc' H') /\
   ∀ x H',J.yld i H x H'->g x σ0 H' λ σ2 H2=>Wk σ0 σ2/\tt σ2 H2 λ b H3=>if b=true then te σ2 H3 λ y H4=>H4 D=some (.lst acc)/\acc.length < sizeLine/\N (acc ++ [y]) (upd H4 D (.lst (acc ++ [y]))) else N acc H3)
theorem ZJ9 {Y:Cx} {tg elt iter:Expr} {ifs:List Expr} {scope:Scope} {pos:Pos} {it D:Addr} {J:It} {fp:List Addr} {tn:Nat->Heap->Prop} {g:TG} {tt:TT} {te:TE} {σ0:St} {Q:VK} {R:Result->Shared->Prop} {H:Hp} {s:Shared}
  (hc:Y.calm=true) (T:Turn Y.prog Y.w Y.K tg J fp it tn) (hfp:∀ H,(∀ b ∈ fp,H b=none)->∀ b ∈ fp,ZFC Y [] H b) (hg:PG Y tg g) (ht:PTs Y ifs tt) (he:PE Y elt te) (hxe:∀ e s,¬ Y.xe e s)
  (hR:∀ H' s',Inv Y [] σ0 H' s'->Q (.ref D) H'->R (.ok .next) s') (I:Inv Y [] σ0 H s) (st:tn 0 s.heap) (fr:∀ b ∈ fp,H b=none) (hw:ZLJ J g tt te σ0 D Q H) :
  codeAny (model Y.prog Y.w) Y.A (.compLoop (.ListComp elt [⟨tg,iter,ifs,0⟩] scope pos) 0 (.ref it) (.ref D) Y.env) R s:=by
 obtain ⟨W,⟨m0,w0⟩,turn⟩:=hw
 refine codeAny_loop rfl (λ n s'=>∃ i H' acc,Inv Y [] σ0 H' s'/\tn i s'.heap/\(∀ b ∈ fp,H' b=none)/\W i n acc H') ?_ m0 ⟨0,H,[],I,st,fr,w0⟩
 rintro n s3 ⟨i,H3,acc,I3,st3,fr3,w3⟩
 show wpAny _ Y.A ((compTurn (.ListComp elt [⟨tg,iter,ifs,0⟩] scope pos) 0 (.ref it) (.ref D) Y.env).onRaise (λ x=>do noteFrame x Y.env; theTreesLotGoes x)) _ _ s3
 refine wpAny_noted ?_
 rw [compTurn_list]
 refine wpAny_bind (wpAny_standAt (wpAny_bind ?_))
 rcases turn i n acc H3 w3 with ⟨stop,qn⟩ | ⟨go,N,hN,step⟩
 ·refine thn (T.done Y rfl rfl rfl hc i [] s3 σ0 H3 _ I3 (hfp H3 fr3) st3 stop) λ r s4 ⟨hr,I4⟩=>?_
  subst hr
  exact wpAny_pure (hR H3 s4 I4 qn)
 ·refine thn (T.item Y rfl rfl rfl hc i [] s3 σ0 H3 _ I3 (hfp H3 fr3) st3 go) λ r s4 ⟨u,hr,h4⟩=>?_
  subst hr
  refine wpAny_bind (thn h4 λ _ s5 ⟨x,H5,I5,r5,y5,st5,fr5⟩=>?_)
  have I5':Inv Y (ZEt fp s5.heap) σ0 H5 s5:=by
   have q:=I5.pinned (hfp H5 fr5) (T.obj _ _ st5)
   rwa [List.nil_append] at q
  have again:∀ {σ7:St} {H7:Hp} {acc7:List V} {s7:Shared},Inv Y (ZEt fp s5.heap) σ7 H7 s7->Wk σ0 σ7->N acc7 H7->∃ m,m < n/\∃ i H' acc,Inv Y [] σ0 H' s7/\tn i s7.heap/\(∀ b ∈ fp,H' b=none)/\W i m acc H':=λ {σ7 H7 acc7 s7} I7 wk n7=>by
   obtain ⟨m',hm,w7⟩:=hN acc7 H7 n7
   have I8:Inv Y [] σ0 H7 s7:=(I7.weak wk.1 wk.2).pins_of λ p hp=>nomatch hp
   refine ⟨m',hm,i+1,H7,acc7,I8,T.keep _ _ _ st5 λ b hb o e=>(I7.pin (b,o) (List.mem_append_right _ (ZCu hb e))).1,λ b hb=>?_,w7⟩
   obtain ⟨o,e,d⟩:=T.obj _ _ st5 b hb
   exact (I7.pin (b,o) (List.mem_append_right _ (ZCu hb e))).2.1
  refine wpAny_bind (wpAny_mono (hg _ s5 σ0 H5 x u _ I5' r5 (step x H5 y5)) (λ _ s6 ⟨σ6,H6,I6,wk,q6⟩=>?_) λ _ _ z=>(hxe _ _ z).elim)
  refine wpAny_bind (wpAny_mono (ht _ s6 σ6 H6 _ I6 q6) (λ ok s7 ⟨H7,I7,q7⟩=>?_) λ _ _ z=>(hxe _ _ z).elim)
  cases ok with
  | false=>exact wpAny_pure ⟨rfl,again I7 wk q7⟩
  | true =>
   refine wpAny_bind (wpAny_bind (wpAny_mono (he _ s7 σ6 H7 _ I7 q7) (λ y s8 ⟨v,H8,I8,r8,hD,hz,q8⟩=>?_) λ _ _ z=>(hxe _ _ z).elim))
   refine wpAny_bind (wpAny_mono (ZGj _ s8 σ6 H8 (.ref D) [v] (.ref D) [y] (λ _ H9=>N (acc ++ [v]) H9) I8 rfl (.cons r8 .nil) ⟨D,acc,v,rfl,rfl,hD,hz,q8⟩) (λ _ s9 ⟨_,H9,I9,_,q9⟩=>?_) λ _ _ z=>(hxe _ _ z).elim)
   exact wpAny_pure (wpAny_pure ⟨rfl,again I9 wk q9⟩)
def ZH1 (sc scope:Scope) (NX N:List Str) (own:Nat) (cap:List Nat):Bool :=
 (scope.kind == .function) && scope.names.all (λ y=>y.2 != .cell && (y.2 != .local || scope.names.lookup y.1 == some .local) && (y.2 != .free || sc.names.lookup y.1 == some .cell || sc.names.lookup y.1 == some .free)) &&
 (N.length == own+cap.length) && ((N.drop own).zip cap).all (λ p=>NX[p.2]? == some p.1 && scope.names.lookup p.1 == some .free && (sc.names.lookup p.1 == some .cell || sc.names.lookup p.1 == some .free))
structure CapOk (sc scope:Scope) (NX N:List Str) (own:Nat) (cap:List Nat):Prop where
 kind:scope.kind=.function
 nocell:∀ y ∈ scope.names,y.2 ≠ .cell
 names:∀ y ∈ scope.names,y.2=.local->scope.names.lookup y.1=some .local
 free:∀ y ∈ scope.names,y.2=.free->sc.names.lookup y.1=some .cell ∨ sc.names.lookup y.1=some .free
 len:N.length=own+cap.length
 caps:∀ p ∈ (N.drop own).zip cap,NX[p.2]? = some p.1/\scope.names.lookup p.1=some .free/\(sc.names.lookup p.1=some .cell ∨ sc.names.lookup p.1=some .free)
theorem ZIA {sc scope:Scope} {NX N:List Str} {own:Nat} {cap:List Nat} (h:ZH1 sc scope NX N own cap=true):CapOk sc scope NX N own cap:=by
 unfold ZH1 at h
 simp only [Bool.and_eq_true,List.all_eq_true,Bool.or_eq_true,beq_iff_eq,bne_iff_ne,ne_eq] at h
 obtain ⟨⟨⟨h1,h2⟩,h3⟩,h4⟩:=h
 refine ⟨h1,λ y hy=>(h2 y hy).1.1,λ y hy e=>?_,λ y hy e=>?_,h3,λ p hp=>?_⟩
 ·rcases (h2 y hy).1.2 with z | z
  ·exact absurd e z
  ·exact z
 ·rcases (h2 y hy).2 with (z | z) | z
  ·exact absurd e z
  ·exact .inl z
  ·exact .inr z
 ·obtain ⟨⟨a,b⟩,c⟩:=h4 p hp
  exact ⟨a,b,c⟩
def ZEc (own:Nat) (cap:List Nat) (σ : St):St:=List.replicate own none ++ cap.map λ j=>(σ[j]?).join
theorem ZDL {env:Env}:∀ {names:List (Str × NameKind)} {x:Str} {k:NameKind},(names.map λ (n,k)=>if (k == NameKind.free && env.scope.kind == .function && env.kindOf n == some .cell) then (n,NameKind.cell) else (n,k)).lookup x=some k ->
  ∃ k0,names.lookup x=some k0/\(k=k0 ∨ (k0=.free/\k=.cell))
 | [],_,_,h=>by simp at h
 | (n,k0) :: r,x,k,h=>by
  have h':List.lookup x ((if (k0 == NameKind.free && env.scope.kind == .function && env.kindOf n == some .cell)=true then (n,NameKind.cell) else (n,k0)) :: (r.map λ (n,k)=>if (k == NameKind.free && env.scope.kind == .function && env.kindOf n == some .cell) then (n,NameKind.cell) else (n,k)))=some k:=h
  cases hx:x == n with
  | true =>
   by_cases hc:(k0 == NameKind.free && env.scope.kind == .function && env.kindOf n == some .cell)=true
   ·rw [if_pos hc,List.lookup_cons,hx] at h'
    cases h'
    rw [Bool.and_eq_true,Bool.and_eq_true] at hc
    exact ⟨k0,by rw [List.lookup_cons,hx],.inr ⟨by simpa using hc.1.1,rfl⟩⟩
   ·rw [if_neg hc,List.lookup_cons,hx] at h'
    cases h'
    exact ⟨k0,by rw [List.lookup_cons,hx],.inl rfl⟩
  | false =>
   have h2:(r.map λ (n,k)=>if (k == NameKind.free && env.scope.kind == .function && env.kindOf n == some .cell) then (n,NameKind.cell) else (n,k)).lookup x=some k:=by
    by_cases hc:(k0 == NameKind.free && env.scope.kind == .function && env.kindOf n == some .cell)=true
    ·rw [if_pos hc,List.lookup_cons,hx] at h'; exact h'
    ·rw [if_neg hc,List.lookup_cons,hx] at h'; exact h'
   obtain ⟨k1,e1,r1⟩:=ZDL h2
   exact ⟨k1,by rw [List.lookup_cons,hx]; exact e1,r1⟩
theorem ZB3 {env:Env}:∀ {names:List (Str × NameKind)} {x:Str},names.lookup x=some .free ->
  (names.map λ (n,k)=>if (k == NameKind.free && env.scope.kind == .function && env.kindOf n == some .cell) then (n,NameKind.cell) else (n,k)).lookup x=some .cell ∨ (names.map λ (n,k)=>if (k == NameKind.free && env.scope.kind == .function && env.kindOf n == some .cell) then (n,NameKind.cell) else (n,k)).lookup x=some .free
 | [],_,h=>by simp at h
 | (n,k0) :: r,x,h=>by
  show List.lookup x ((if (k0 == NameKind.free && env.scope.kind == .function && env.kindOf n == some .cell)=true then (n,NameKind.cell) else (n,k0)) :: _)=_ ∨ List.lookup x ((if (k0 == NameKind.free && env.scope.kind == .function && env.kindOf n == some .cell)=true then (n,NameKind.cell) else (n,k0)) :: _)=_
  rw [List.lookup_cons] at h
  cases hx:x == n with
  | true =>
   rw [hx] at h
   cases h
   by_cases hc:(NameKind.free == NameKind.free && env.scope.kind == .function && env.kindOf n == some .cell)=true
   ·rw [if_pos hc,List.lookup_cons,hx]; exact .inl rfl
   ·rw [if_neg hc,List.lookup_cons,hx]; exact .inr rfl
  | false =>
   rw [hx] at h
   have ih:=ZB3 (env:=env) h
   by_cases hc:(k0 == NameKind.free && env.scope.kind == .function && env.kindOf n == some .cell)=true
   ·rw [if_pos hc,List.lookup_cons,hx]; exact ih
   ·rw [if_neg hc,List.lookup_cons,hx]; exact ih
def ZLy (own:Nat) (cap:List Nat) (wi:TI) (g:TG) (tt:TT) (te:TE):TE:=λ σ H Q=>wi σ H λ J H1=>∀ D,H1 D=none->ZLJ J g tt te (ZEc own cap σ) D Q (upd H1 D (.lst []))
section
variable {X:Cx} {tg elt iter:Expr} {ifs:List Expr} {scope sc:Scope} {pos:Pos} {wi:TI} {g:TG} {tt:TT} {te:TE} {N NX:List Str} {own:Nat} {cap:List Nat}
theorem ZFj {pins:List (Addr × Obj)} {σ : St} {s2:Shared} {itv:Value} {Q:VK} {E:Value->Shared->Prop} {R:Value->Addr->Result->Shared->Prop} {cl:List (Str × Addr)} (hc:X.calm=true) (hsc:X.env.scope=sc) (hNX:X.N=NX) (co:CapOk sc scope NX N own cap)
  (hsub:∀ x c,cl.lookup x=some c->X.env.cells.lookup x=some c) (hall:∀ x,(x,NameKind.free) ∈ scope.names->(cl.lookup x).isSome=true)
  (hb:∀ cl C s0 H0 fp,PG (blk X N (compEnvC scope cl C X.env) s0 H0 fp) tg g/\PTs (blk X N (compEnvC scope cl C X.env) s0 H0 fp) ifs tt/\PE (blk X N (compEnvC scope cl C X.env) s0 H0 fp) elt te)
  (h2:PIE X pins σ tg (λ J H1=>∀ D,H1 D=none->ZLJ J g tt te (ZEc own cap σ) D Q (upd H1 D (.lst []))) itv s2)
  (hR:∀ D C H' s',ZFC X pins H' C->(∃ m,s'.heap.Ns C m)->(∀ h',Heap.SameBut C s'.heap h'->Inv X pins σ H' { s' with heap:=h' })->Q (.ref D) H'->R (.ref D) C (.ok .next) s') :
  wpAny (model X.prog X.w) X.A (newList []) (λ acc s3=>wpAny (model X.prog X.w) X.A (newFunctionEnv scope X.env.globals cl [] X.env.qual none .none (some X.env)) (λ cenv s4 =>
   codeAny (model X.prog X.w) X.A (.compStart (.ListComp elt [⟨tg,iter,ifs,0⟩] scope pos) 0 itv acc { cenv with scope:=relabel scope X.env }) (R acc cenv.locals) s4) E s3) E s2:=by
 obtain ⟨it,fp,tn,J,H2,rfl,I2,T,st2,f2,hloop⟩:=h2
 refine wpAny_newObj_type (wpAny_newFunctionEnv co.nocell (by intro y hy; simp at hy) (λ h1 hns hsb=>?_) co.kind)
 have fD:H2 s2.heap.objs.size=none:=I2.hok.fresh (Nat.le_refl _)
 have I3:Inv X pins σ (upd H2 s2.heap.objs.size (.lst [])) { s2 with heap:=s2.heap.push { cls:=.type "list",data:=.seq ([]:List Value).toArray } }:=I2.laid (t':=s2.toks) (λ b u e=>Heap.get?_push_of_some _ e) (Nat.le_refl _) ⟨Nat.zero_le _,[],0,.nil,Heap.get?_push_size _ rfl⟩
 have hq:=hloop s2.heap.objs.size fD
 generalize hHD:s2.heap.objs.size=D at *
 generalize hs3:s2.heap.push { cls:=.type "list",data:=.seq ([]:List Value).toArray }=h3 at *
 dsimp only at hns hsb ⊢
 have hsz:h3.objs.size=D+1:=by rw [← hs3,Heap.size_push,hHD]
 have ob2:∀ b ∈ fp,∃ o,s2.heap.get? b=some o:=λ b hb'=>let ⟨o,e,_⟩:=T.obj _ _ st2 b hb'; ⟨o,e⟩
 have k23:∀ b o,s2.heap.get? b=some o->h3.get? b=some o:=λ b o e=>by rw [← hs3]; exact Heap.get?_push_of_some _ e
 have k34:∀ b o,h3.get? b=some o->h1.get? b=some o:=λ b o e=>(hsb.2 b (Nat.ne_of_lt (Heap.lt_size e))).trans (Heap.get?_push_of_some _ e)
 have f3:∀ b ∈ fp,ZFC X pins (upd H2 D (.lst [])) b:=λ b hb'=>by
  obtain ⟨o,e⟩:=ob2 b hb'
  exact ⟨by rw [Zb (Nat.ne_of_lt (by rw [← hHD]; exact Heap.lt_size e))]; exact (f2 b hb').1,(f2 b hb').2⟩
 have ob3:∀ b ∈ fp,∃ o,h3.get? b=some o:=λ b hb'=>let ⟨o,e⟩:=ob2 b hb'; ⟨o,k23 b o e⟩
 have hhas:∀ x,((compEnvC scope cl h3.objs.size X.env).kindOf x=some .cell ∨ (compEnvC scope cl h3.objs.size X.env).kindOf x=some .free)->∃ c,(compEnvC scope cl h3.objs.size X.env).cells.lookup x=some c:=λ x hx=>by
  have q:∃ k,(k=NameKind.cell ∨ k=NameKind.free)/\(relabel scope X.env).names.lookup x=some k:=by
   rcases hx with z | z
   ·exact ⟨_,.inl rfl,z⟩
   ·exact ⟨_,.inr rfl,z⟩
  obtain ⟨k,hk,e⟩:=q
  obtain ⟨k0,e0,r0⟩:=ZDL e
  have hm:=PySem.mem_of_lookup e0
  have hf0:k0=.free:=by
   rcases r0 with z | z
   ·rcases hk with y | y
    ·exact absurd (z.symm.trans y) (co.nocell _ hm)
    ·exact z.symm.trans y
   ·exact z.1
  subst hf0
  have:=hall x hm
  exact Option.isSome_iff_exists.mp this
 have hcap:∀ (i:Nat) (x:Str) (v:V),N[i]? = some x->(ZEc own cap σ)[i]? = some (some v)->((compEnvC scope cl h3.objs.size X.env).kindOf x=some .cell ∨ (compEnvC scope cl h3.objs.size X.env).kindOf x=some .free)/\X.env.kindOf x ≠ some .local/\Vis X.env.scope x/\∃ j:Nat,X.N[j]? = some x/\σ[j]? = some (some v):=λ i x v e1 e2=>by
  unfold ZEc at e2
  by_cases hi:i < own
  ·rw [List.getElem?_append_left (by simpa using hi),List.getElem?_replicate] at e2
   split at e2 <;> cases e2
  ·rw [List.getElem?_append_right (by simpa using hi),List.length_replicate,List.getElem?_map] at e2
   cases ej:cap[i - own]? with
   | none=>rw [ej] at e2; cases e2
   | some j =>
    rw [ej] at e2
    have e3:(σ[j]?).join=some v:=Option.some.inj e2
    have hd:(N.drop own)[i - own]? = some x:=by rw [List.getElem?_drop,show own+(i - own)=i by omega]; exact e1
    have hz:(x,j) ∈ (N.drop own).zip cap:=List.mem_of_getElem? (i:=i - own) (by rw [List.getElem?_zip_eq_some]; exact ⟨hd,ej⟩)
    obtain ⟨c1,c2,c3⟩:=co.caps (x,j) hz
    have c3':X.env.kindOf x=some .cell ∨ X.env.kindOf x=some .free:=by unfold Env.kindOf; rw [hsc]; exact c3
    refine ⟨ZB3 c2,λ z=>?_,?_,j,by rw [hNX]; exact c1,?_⟩
    ·rcases c3' with y | y <;> (rw [y] at z; cases z)
    ·rcases c3' with y | y
     ·exact .inr (.inl y)
     ·exact .inr (.inr y)
    ·cases es : σ[j]? with
     | none=>rw [es] at e3; cases e3
     | some w=>rw [es] at e3; exact congrArg some e3
 have I4:Inv (blk X N (compEnvC scope cl h3.objs.size X.env) { s2 with heap:=h3 } (upd H2 D (.lst [])) fp) [] (ZEc own cap σ) (upd H2 D (.lst [])) { s2 with heap:=h1,toks:=s2.toks+([]:List (Str × Value)).length } :=
  ZM5 I3 f3 ob3 (Nat.le_refl _) co.kind rfl rfl hsub hhas k34 hns (by unfold ZEc; rw [List.length_append,List.length_replicate,List.length_map,co.len]) hcap
 obtain ⟨hg,ht,he⟩:=hb cl h3.objs.size { s2 with heap:=h3 } (upd H2 D (.lst [])) fp
 have loop:codeAny (model X.prog X.w) X.A (.compLoop (.ListComp elt [⟨tg,iter,ifs,0⟩] scope pos) 0 (.ref it) (.ref D) (compEnvC scope cl h3.objs.size X.env)) (R (.ref D) h3.objs.size) { s2 with heap:=h1,toks:=s2.toks+([]:List (Str × Value)).length }:=by
  refine ZJ9 (Y:=blk X N (compEnvC scope cl h3.objs.size X.env) { s2 with heap:=h3 } (upd H2 D (.lst [])) fp) (Q:=Q) hc T (λ H0 fr b hb'=>?_) hg ht he (λ _ _ z=>z) (λ H' s' J' q=>?_) I4 (T.keep _ _ _ st2 λ b _ o e=>k34 b o (k23 b o e)) (λ b hb'=>(f3 b hb').1) hq
  ·obtain ⟨o,e⟩:=ob3 b hb'
   exact ⟨fr b hb',Nat.ne_of_lt (Heap.lt_size e),λ z=>(List.mem_cons.mp (I3.stkSub b z)).elim (f3 b hb').2.1 (f3 b hb').2.2.1,.inl hb',λ x c ec=>(f3 b hb').2.2.2.2.1 x c (hsub x c ec),λ p hp=>nomatch hp⟩
  ·exact hR D h3.objs.size H' s' (I3.fpOk (Nat.le_refl _) J'.free) (let ⟨m,hm,_⟩:=J'.loc; ⟨m,hm⟩) (λ h' sb=>ZNG (env:=compEnvC scope cl h3.objs.size X.env) I3 f3 (Nat.le_refl _) J' sb) q
 exact codeAny_compStart_list loop (T.self _ 0 _ _ _ (T.keep _ _ _ st2 λ b _ o e=>k34 b o (k23 b o e)) loop)
theorem ZMQ (hc:X.calm=true) (hi:PI X tg iter wi) (hsc:X.env.scope=sc) (hNX:X.N=NX)
  (hb:∀ cl C s0 H0 fp,PG (blk X N (compEnvC scope cl C X.env) s0 H0 fp) tg g/\PTs (blk X N (compEnvC scope cl C X.env) s0 H0 fp) ifs tt/\PE (blk X N (compEnvC scope cl C X.env) s0 H0 fp) elt te)
  (co:ZH1 sc scope NX N own cap=true) (hs:∀ x,foldedSetIterable iter X.env x=pure x:=by intro _; rfl):PE X (.ListComp elt [⟨tg,iter,ifs,0⟩] scope pos) (ZLy own cap wi g tt te):=by
 intro pins s σ H Q I h
 have co:=ZIA co
 obtain ⟨cl,hcl,hsub,hall⟩:=ZDo (env:=X.env) (scope:=scope) λ y hy e=>I.ok.has y.1 (by unfold Env.kindOf; rw [hsc]; exact co.free y hy e)
 rw [eval_ListComp]
 refine wpAny_comprehension_free (use:=none) rfl hs hcl co.kind co.names (thn (hi pins s σ H _ I h) λ v s1 h1=>thn h1 λ itv s2 h2=>?_)
 refine ZFj (Q:=Q) (R:=λ acc C=>compPost (model X.prog X.w) X.A X.xe none (EP X pins σ Q) acc C) hc hsc hNX co hsub hall hb h2 λ D C H' s' _ ⟨m,hm⟩ hi' q=>?_
 exact ⟨m,hm,λ h' sb=>⟨.ref D,H',hi' h' sb,rfl,q⟩⟩
theorem ZMU {i:Nat} {x:Str} {py spos:Pos} (hN:X.N.Nodup) (hi:X.N[i]? = some x) (hx:Loc X.env.scope x) (hc:X.calm=true) (hit:PI X tg iter wi) (hsc:X.env.scope=sc) (hNX:X.N=NX)
  (hb:∀ cl C s0 H0 fp,PG (blk X N (compEnvC scope cl C X.env) s0 H0 fp) tg g/\PTs (blk X N (compEnvC scope cl C X.env) s0 H0 fp) ifs tt/\PE (blk X N (compEnvC scope cl C X.env) s0 H0 fp) elt te)
  (co:ZH1 sc scope NX N own cap=true) (hsw:swapsWith (.ListComp elt [⟨tg,iter,ifs,0⟩] scope pos) (some (.Name x py)) spos.line X.env=pure true:=by rfl) (hs:∀ x,foldedSetIterable iter X.env x=pure x:=by intro _; rfl)
  (hf:X.fn x=true ∨ X.env.scope.names.lookup x=some .local:=by first | exact .inl rfl | exact .inr rfl | assumption) :
  PS X (.Assign [.Name x py] (.ListComp elt [⟨tg,iter,ifs,0⟩] scope pos) spos) (ZOG (ZLy own cap wi g tt te) (ZH9 i)):=by
 intro pins s σ H D I h
 have co:=ZIA co
 obtain ⟨cl,hcl,hsub,hall⟩:=ZDo (env:=X.env) (scope:=scope) λ y hy e=>I.ok.has y.1 (by unfold Env.kindOf; rw [hsc]; exact co.free y hy e)
 rw [exec_Assign_Name_used _ _ _ _ hsw]
 refine wpAny_bind (wpAny_standAt (wpAny_bind ?_))
 show wpAny (model X.prog X.w) X.A (comprehension (.ListComp elt [⟨tg,iter,ifs,0⟩] scope pos) scope X.env _ (newList []) false (eval iter X.env) (some (assign (.Name x py) X.env)) >>= λ _=>pure ()) _ _ s
 refine wpAny_bind (thn (wpAny_comprehension_free (use:=some (assign (.Name x py) X.env)) (Q:=λ _ s'=>SP X pins D .next s') rfl hs hcl co.kind co.names (thn (hit pins s σ H _ I h) λ v s1 h1=>thn h1 λ itv s2 h2=>?_)) λ _ s' q=>wpAny_pure (wpAny_pure q))
 refine ZFj (Q:=λ v H1=>ZH9 i v σ H1 D.nx) (R:=λ acc C=>compPost (model X.prog X.w) X.A X.xe (some (assign (.Name x py) X.env)) (λ _ s'=>SP X pins D .next s') acc C) hc hsc hNX co hsub hall hb h2 λ Da C H' s' fC ⟨m,hm⟩ hi' q=>?_
 have I1:Inv X pins σ H' s':=hi' s'.heap (Heap.SameBut.refl ..)
 show wpAny _ _ (assign (.Name x py) X.env (.ref Da)) _ _ s'
 refine wpAny_assign_Name (ZGl I1 hN hi hx (v:=.ref Da) rfl (λ s3 I3 ⟨a,sb,ha⟩=>?_) hf)
 obtain ⟨f0,f1,f2,f3,f4,f5⟩:=fC
 have nC:C ≠ a:=by
  rcases ha with z | z
  ·rw [z]; exact f1
  ·exact Ne.symm (f4 _ _ z)
 exact ⟨m,hm.sameBut sb nC,λ h' sb2=>⟨_,H',I3.turned (t':=s3.toks) (λ b o hb' e=>(sb2.2 b hb').trans e) f0 f1 f3 f4 f5,q⟩⟩
end
end L2
namespace L2
open PySem PySem.Spec PyProof.Rows
section
variable {X:Cx}
theorem ZK9 (hc:X.calm=true):ZAG X (.builtin "all") (λ xs H Q=>∃ (p:Addr) (bs:List Bool),xs=[.ref p]/\SqL X.K H p (bs.map V.bl)/\Q (.bl (bs.all id)) H):=by
 intro pins s σ H xs us Q I r h
 obtain ⟨p,bs,rfl,hq,q⟩:=h
 obtain ⟨u,rfl,ru⟩:=ZDm r
 cases ru
 obtain ⟨its,rv,pl,hz⟩:=I.list hq
 have hlen:=rv.length
 rw [List.length_map] at hlen
 have hpl:p < s.heap.objs.size:=by
  obtain ⟨o,n,e,_⟩:=pl
  exact Heap.lt_size e
 refine call_all_walk (wpAny_pyIter_list pl.isList ⟨s.heap.objs.size,_,_,_,_,_,λ i=>bs.getD i false,rfl,Walks.list (A:=X.A.in1) (show X.A.in1.handled=none from I.ok.hd hc) s.heap.objs.size p (Nat.ne_of_lt hpl) its.toArray,?_,?_,λ h' tk k=>?_⟩)
 ·exact ⟨⟨_,Heap.get?_push_size _ rfl,rfl,rfl⟩,pl.isList.at λ o e=>Heap.get?_push_of_some _ e⟩
 ·intro i v s' Q' E' hv hQ
  have hv':its[i]? = some v:=by simpa using hv
  have hi:i < bs.length:=by rw [hlen]; exact (List.getElem?_eq_some_iff.mp hv').1
  obtain ⟨u,hu,ru⟩:=rv.get (i:=i) (x:=V.bl bs[i]) (by simp [hi])
  rw [hv'] at hu
  cases hu
  cases ru
  have e:bs.getD i false=bs[i]:=by simp [List.getD,hi]
  dsimp only at hQ
  rw [e] at hQ
  exact wpAny_truthy_bool hQ
 ·have e:((List.range its.toArray.size).all λ i=>bs.getD i false)=bs.all id:=by
   rw [Bool.eq_iff_iff,List.all_eq_true,List.all_eq_true]
   constructor
   ·intro z b hb
    obtain ⟨i,hi,rfl⟩:=List.mem_iff_getElem.mp hb
    have:=z i (by simp [← hlen,hi])
    simpa [List.getD,hi] using this
   ·intro z i hi
    have hi':i < bs.length:=by simpa [← hlen] using hi
    have:=z bs[i] (List.getElem_mem hi')
    simpa [List.getD,hi'] using this
  rw [e]
  exact ⟨.bl (bs.all id),H,I.kept λ b o q=>k b o (by simp; exact Nat.ne_of_lt (Heap.lt_size q)) (Heap.get?_push_of_some _ q),rfl,q⟩
end
end L2
namespace L2
open PySem PySem.Spec PyProof.Rows
section
variable {X:Cx}
theorem ZHp:ZAG X (.type "range") (λ xs H Q=>∃ j,xs=[.int j]/\∀ p,H p=none->Q (.ref p) (upd H p (.rng 0 j))):=by
 intro pins s σ H xs us Q I r h
 obtain ⟨j,rfl,q⟩:=h
 obtain ⟨u,rfl,ru⟩:=ZDm r
 obtain ⟨t,rfl⟩:=ru
 refine call_range_1 ⟨.ref s.heap.objs.size,_,I.laid (t':=s.toks+1+1) (λ b o e=>Heap.get?_push_of_some _ e) (Nat.le_refl _) (o:=.rng 0 j) ?_,rfl,q _ (I.hok.fresh (Nat.le_refl _))⟩
 exact ⟨_,_,_,Heap.get?_push_size _ rfl⟩
def ZGz (n:Nat):List V:=(List.range n).map λ (i:Nat)=>V.int (i:Int)
theorem ZIS:∀ {ns:List Int} {ys:List Value},CarriedAll ys (ns.map PyData.int)->Zp (ns.map V.int) ys
 | [],_,h=>by cases h; exact .nil
 | n :: r,_,h=>by
  cases h with
  | cons a b =>
   cases a
   exact .cons ⟨_,rfl⟩ (ZIS b)
end
section
variable {X:Cx} {K:PySem.W.Frag}
end
end L2
namespace L2
open PySem PySem.Spec PyProof.Rows
section
variable {X:Cx}
end
end L2
namespace L2
open PySem PySem.Spec PyProof.Rows H1
def ZY (w:Int × Int):PyData:=.tuple [.int w.1,.int w.2]
def Zv (ws:List (Int × Int)):PyData:=.tuple (ws.map ZY)
def ZJd (n:Nat × (Int × Int)):PyData:=.tuple [.int (n.1:Int),ZY n.2]
def ZHE (ns:List (Nat × (Int × Int))):PyData:=.tuple (ns.map ZJd)
def gtW (a b:Int × Int):Bool:=HT.lexGt [a.1,a.2] [b.1,b.2]
theorem ZCT {a b:Int × Int}:gtW a b=true ↔ b.1 < a.1 ∨ (a.1=b.1/\b.2 < a.2):=by
 have e:gtW a b=if a.1=b.1 then (if a.2=b.2 then false else decide (b.2 < a.2)) else decide (b.1 < a.1):=rfl
 rw [e]
 split
 ·split
  ·constructor
   ·intro z; cases z
   ·intro z; omega
  ·rw [decide_eq_true_iff]; omega
 ·rw [decide_eq_true_iff]; omega
end L2
namespace HI
open PySem PyProof.Rows
section
variable {prog:Program} {w:World} {A:Around} {E:Value->Shared->Prop} {s:Shared}
end
end HI
namespace L2
open PySem PySem.Spec PyProof.Rows
def Itz (K:PySem.W.Frag) (a b:Addr):It :=
 ⟨λ i H=>∃ xs ys x y,SqT K H a xs/\SqT K H b ys/\xs[i]? = some x/\ys[i]? = some y,λ i H v H'=>∃ p x y,v=.ref p/\H p=none/\H'=upd H p (.tup [x,y])/\∀ xs ys,SqT K H a xs->SqT K H b ys->xs[i]? = some x/\ys[i]? = some y,
  λ i H=>∃ xs ys,SqT K H a xs/\SqT K H b ys/\(xs.length<=i ∨ ys.length<=i)⟩
section
variable {X:Cx}
end
end L2
namespace HIl
open PySem PyProof.Rows HI
section
variable {prog:Program} {w:World} {A:Around} {E:Value->Shared->Prop} {s:Shared}
end
end HIl
namespace L2
open PySem PySem.Spec PyProof.Rows
def Itzl (K:PySem.W.Frag) (a b:Addr):It :=
 ⟨λ i H=>∃ xs ys x y,SqL K H a xs/\SqL K H b ys/\xs[i]? = some x/\ys[i]? = some y,λ i H v H'=>∃ p x y,v=.ref p/\H p=none/\H'=upd H p (.tup [x,y])/\∀ xs ys,SqL K H a xs->SqL K H b ys->xs[i]? = some x/\ys[i]? = some y,
  λ i H=>∃ xs ys,SqL K H a xs/\SqL K H b ys/\(xs.length<=i ∨ ys.length<=i)⟩
section
variable {X:Cx}
end
end L2
namespace HI
open PySem PyProof.Rows
section
variable {prog:Program} {w:World} {A:Around} {E:Value->Shared->Prop} {s:Shared} {R:Result->Shared->Prop}
end
end HI
namespace L2
open PySem PySem.Spec PyProof.Rows
section
variable {X:Cx}
end
end L2
namespace L2
open PySem PySem.Spec PyProof.Rows
section
variable {X:Cx} {pos:Pos}
def ZNb (i j l:Nat) (ta:TA):TS:=λ D σ H=>ta σ H λ vs H1=>∃ v w z,vs=[v,w,z]/\D.nx (((σ.set l (some z)).set j (some w)).set i (some v)) H1
theorem ZMh {i j l:Nat} {x y z:Str} {a b c:Expr} {ta:TA} {px py pz pt:Pos} {kt k2 pt2} (hc:X.calm=true) (hN:X.N.Nodup) (hi:X.N[i]? = some x) (hj:X.N[j]? = some y) (hl:X.N[l]? = some z)
  (hx:X.env.scope.names.lookup x=some .local) (hy:X.env.scope.names.lookup y=some .local) (hz:X.env.scope.names.lookup z=some .local) (ha:PA X [a,b,c] ta)
  (hw:swappedStores [.Tuple [.Name x px,.Name y py,.Name z pz] kt pt] (.Tuple [a,b,c] k2 pt2) X.env=pure (some [x,y,z]):=by rfl)
  (hs:swapsWithSole [.Tuple [.Name x px,.Name y py,.Name z pz] kt pt] (.Tuple [a,b,c] k2 pt2) pos.line X.env=pure false:=by rfl) :
  PS X (.Assign [.Tuple [.Name x px,.Name y py,.Name z pz] kt pt] (.Tuple [a,b,c] k2 pt2) pos) (ZNb i j l ta):=by
 intro pins s σ H D I h
 rw [exec_Assign_arm]
 refine wpAny_bind (wpAny_standAt ?_)
 rw [hs]
 refine wpAny_bind (wpAny_pure ?_)
 rw [if_neg (by decide)]
 refine wpAny_bind (Tuple_ (thn (ha _ pins s σ H _ I h) λ us s1 ⟨vs,H1,I1,r1,q1⟩=>?_))
 obtain ⟨v,w,v3,e1,q1⟩:=q1
 subst e1
 obtain ⟨u1,u2,u3,rfl,rv,rw',rz⟩:∃ u1 u2 u3,us=[u1,u2,u3]/\Z8 v u1/\Z8 w u2/\Z8 v3 u3:=by
  cases r1 with
  | cons p q =>
   cases q with
   | cons p' q' =>
    cases q' with
    | cons p2 q2 =>
     cases q2
     exact ⟨_,_,_,rfl,p,p',p2⟩
 refine wpAny_newObj_type ?_ (by show 3<=sizeLine; decide)
 have I2:Inv X pins σ H1 { s1 with heap:=s1.heap.push { cls:=.type "tuple",data:=.seq [u1,u2,u3].toArray } }:=I1.kept (t':=s1.toks) λ b o e=>Heap.get?_push_of_some _ e
 rw [hw]
 refine wpAny_bind (wpAny_pure ?_)
 show wpAny (model X.prog X.w) X.A (do rule "assign.swapped-stores"; let items ← unpackItems (.ref s1.heap.objs.size) 3 none; assignInOrder [λ v=>bindName X.env z v,λ v=>bindName X.env y v,λ v=>bindName X.env x v] items.reverse; pure Flow.next) _ _ _
 refine wpAny_bind (wpAny_rule (wpAny_bind (unpackItems_tuple (items:=#[u1,u2,u3]) (I.ok.hd hc) (IsTup.new s1.heap _) λ h' hx'=>?_)))
 have I3:=I2.kept (h':=h') (t':=s1.toks) λ b o e=>hx' b o (Nat.ne_of_lt (Heap.lt_size e)) e
 show wpAny _ _ (assignInOrder [λ v=>bindName X.env z v,λ v=>bindName X.env y v,λ v=>bindName X.env x v] [u3,u2,u1] >>= λ _=>pure Flow.next) _ _ _
 refine wpAny_bind (assignInOrder_cons (wpAny_bindName (ZBr I3 hN hl (.inl hz) rz (λ s2 I4=>?_) (.inr hz))))
 refine assignInOrder_cons (wpAny_bindName (ZBr I4 hN hj (.inl hy) rw' (λ s3 I5=>?_) (.inr hy)))
 refine assignInOrder_cons (wpAny_bindName (ZBr I5 hN hi (.inl hx) rv (λ s4 I6=>assignInOrder_nil (wpAny_pure ?_)) (.inr hx)))
 exact ⟨_,H1,I6,q1⟩
end
end L2
namespace HT
open PySem PyProof.Rows
section
variable {prog:Program} {w:World} {A:Around} {E:Value->Shared->Prop} {s:Shared}
theorem getItem_tuple_whole {t sl:Addr} {items:Array Value} {vl vu:Value} {lo hi:Option Int} {Q:Value->Shared->Prop} (ht:IsTup s.heap t items) (hs:s.heap.IsSliceOf sl vl vu .none) (pl:IsPart vl lo) (pu:IsPart vu hi)
  (hw:sIx items.size 0 lo=0/\sIx items.size items.size hi=items.size) (h:Q (.ref t) s):wpAny (model prog w) A (getItem (.ref t) (.ref sl)) Q E s:=by
 obtain ⟨os,hos,hcs,hds⟩:=id hs
 have hTs:s.TypeIs (.ref sl) "slice":=⟨os,hos,hcs⟩
 unfold getItem
 try with_reducible refine wpAny_holding ?_
 first | refine wpAny_bind (wpAny_pure ?_) | skip
 refine wpAny_bind (wpAny_sequenceKey ht.typeIs (by decide) ?_)
 refine wpAny_bind (wpAny_callSpecial?_slot (name:=Str.ofString "__getitem__") ht.typeIs PyProof.Rows.slot_tuple_getitem
  (wpAny_call_entry PyProof.Rows.slot_tuple_getitem ht.typeIs entry_tuple_getitem ?_ (args_tuple_getitem _ _)))
 show wpAny _ _ (Builtin.Tuple.tupleItemsOf (.ref t) >>= _) _ _ s
 refine wpAny_bind (tupleItemsOf_ ht ?_)
 refine wpAny_bind (wpAny_typeOf hTs ?_)
 rw [if_pos (by decide)]
 refine wpAny_bind (ZCm hs pl pu ?_)
 show wpAny _ _ (if (((sIx items.size 0 lo:Nat):Int) == 0 && (1:Int) == 1 && (sIx items.size items.size hi - sIx items.size 0 lo) == items.size)=true then _ else _) _ _ s
 have hyes:(((sIx items.size 0 lo:Nat):Int) == 0 && (1:Int) == 1 && (sIx items.size items.size hi - sIx items.size 0 lo) == items.size)=true:=by
  rw [hw.1,hw.2]
  simp
 rw [if_pos hyes]
 unfold Builtin.Tuple.tupleIsExact
 refine wpAny_bind (wpAny_bind (wpAny_typeOf ht.typeIs (wpAny_pure ?_)))
 rw [if_pos (by rfl)]
 exact wpAny_bind (wpAny_rule (wpAny_pure ⟨_,rfl,wpAny_pure h⟩))
end
end HT
namespace L2
open PySem PySem.Spec PyProof.Rows
section
variable {X:Cx}
theorem ZMz:SlR X (λ x lo hi H Q=>∃ a xs,x=.ref a/\SqT X.K H a xs/\((HT.sIx xs.length 0 lo=0/\HT.sIx xs.length xs.length hi=xs.length)->Q (.ref a) H) /\
  (¬ (HT.sIx xs.length 0 lo=0/\HT.sIx xs.length xs.length hi=xs.length)->∀ p,H p=none->Q (.ref p) (upd H p (.tup (ZGv xs lo hi))))):=by
 intro pins s σ H x v vl vu lo hi sl Q I rx hs pl pu h
 obtain ⟨a,xs,rfl,hx,q1,q2⟩:=h
 by_cases hw:HT.sIx xs.length 0 lo=0/\HT.sIx xs.length xs.length hi=xs.length
 ·cases rx
  obtain ⟨its,r,ht,hz⟩:=I.tuple hx
  have hlen:its.toArray.size=xs.length:=by rw [List.size_toArray]; exact r.length.symm
  refine ⟨"tuple",_,PyProof.Rows.slot_tuple_getitem.lookup,ht.typeIs,?_⟩
  exact HT.getItem_tuple_whole ht hs pl pu (by rw [hlen]; exact hw) ⟨.ref a,H,I,rfl,q1 hw⟩
 ·exact ZOa pins s σ H (.ref a) v vl vu lo hi sl Q I rx hs pl pu ⟨a,xs,rfl,hx,hw,q2 hw⟩
end
end L2
namespace L2
open PySem PySem.Spec PyProof.Rows
section
variable {X:Cx} {e m:Expr} {te tm:TE} {pos p2:Pos}
end
end L2
namespace L2
open PySem PySem.Spec PyProof.Rows H1
end L2
namespace HT
open PySem PyProof.Rows
section
variable {prog:Program} {w:World} {A:Around} {E:Value->Shared->Prop} {s:Shared}
end
end HT
namespace L2
open PySem PySem.Spec PyProof.Rows
def DictO (a:Addr):HO:=.ext λ h=>∃ o,h.get? a=some o/\o.cls=.type "dict"
section
variable {X:Cx} {pos p2:Pos}
def ZIp (mg:Str->Option Value) (x:Str) (n:Int):Prop:=∃ t,mg x=some (.int n t)
theorem ZLn {x:Str} {n:Int} (hg:Gl X x) (h:ZIp X.mg x n) (hd:(x == ("__debug__" : Str))=false:=by decide):PE X (.Name x pos) (tC (.int n)):=by
 obtain ⟨t,e⟩:=h
 exact ZNY hg e ⟨t,rfl⟩ hd
end
end L2
namespace L2
open PySem PySem.Spec PyProof.Rows H1
end L2
namespace L2
open PySem PySem.Spec PyProof.Rows
section
variable {X:Cx} {es:List Expr} {te:TE} {t:TA}
end
end L2
namespace HT
open PySem PyProof.Rows
open Builtin
section
variable {prog:Program} {w:World} {A:Around} {E:Value->Shared->Prop} {s:Shared}
theorem cat_tupA {t b:Addr} {vs ws:List Value} {Q:Value->Shared->Prop} (ht:IsTup s.heap t vs.toArray) (hb:IsTup s.heap b ws.toArray)
  (h0:vs=[]->Q (.ref b) s) (h1:vs ≠ []->ws=[]->Q (.ref t) s) (h2:vs ≠ []->ws ≠ []->Q (.ref s.heap.objs.size) { s with heap:=s.heap.push { cls:=.type "tuple",data:=.seq (vs ++ ws).toArray } })
  (hsz:vs.length+ws.length<=sizeLine):wpAny (model prog w) A (binaryOp .Add (.ref t) (.ref b)) Q E s:=by
 by_cases hv:vs=[]
 ·obtain ⟨⟨cls,dd,data,sl⟩,ho,hc,n,hd⟩:=id ht
  obtain ⟨⟨cls2,dd2,data2,sl2⟩,ho2,hc2,n2,hd2⟩:=id hb
  simp only at hc hd hc2 hd2
  subst hc hd hc2 hd2
  exact concat_meets ⟨_,ho,rfl⟩ ⟨_,ho2,rfl⟩ noFill_tuple_add seq_tuple_add PySem.F.slot_tuple_add PySem.F.entry_tuple_add (PySem.F.args_tuple_add_2 _ _)
   (tuple_addW0 t b vs.toArray ws.toArray n n2 dd dd2 sl sl2 (by simp [hv])) ⟨ho,ho2,h0 hv⟩
 ·exact ZNH ht hb hv (h1 hv) (h2 hv) hsz
theorem noFill_tuple_mul:fillsNumberSlot (.type "tuple") "mul" = pure false :=
 PySem.fillsNumberSlot_seq (id:="tuple.__mul__") (r:=some (.builtin "tuple.__rmul__")) F.slot_tuple_mul.lookup (by decide +kernel) F.slot_tuple_rmul.lookup (by decide +kernel)
theorem repeat_tuple:seqRepeat? (.type "tuple")=pure (some (.builtin "tuple.__mul__")):=by
 unfold seqRepeat?
 rw [PySem.seqSlot_of (T:="tuple") (name:="__mul__") (id:="tuple.__mul__") F.slot_tuple_mul.lookup (by decide +kernel),PySem.seqSlot_of (T:="tuple") (name:="__rmul__") (id:="tuple.__rmul__") F.slot_tuple_rmul.lookup (by decide +kernel)]
 rfl
theorem rmul_tup (a:Int) (t:Tok) (l:Addr) (items:Array Value) (n:Nat) (dd:Option Addr) (sl:Array (Option Value)) :
  Meets (Builtin.«int.__rmul__» ⟨[.int a t,.ref l],[]⟩) (λ _ R s=>s.heap.get? l=some { cls:=.type "tuple",dict:=dd,data:=.seq items n,slots:=sl }/\R (.ok (.ret Value.notImplemented)) s) :=
 .of_wp λ prog w A R s h=>by obtain ⟨hp,g,d,tk,os⟩:=s; obtain ⟨hl,h⟩:=h; wp_walk; exact ⟨_,rfl,h⟩
theorem tuple_mulW (l:Addr) (items:Array Value) (n:Nat) (dd:Option Addr) (sl:Array (Option Value)) (k:Int) (t:Tok) (hc0 : ¬ (decide (k < -(2 ^ 63)) || decide (k ≥ 2 ^ 63))=true) (hc1 : ¬ (items.isEmpty || k == 1)=true) (hc2 : ¬ (decide (k<=0) || items.isEmpty)=true)
  (hc3 : ¬ ((items.size:Int) * k > (2 ^ 63 - 1) / 8)) (hc4 : ¬ Builtin.Tuple.tupleTooMany ((items.size:Int) * k)=true) (hsz:((List.replicate k.toNat items).foldl (· ++ ·) #[]).size<=sizeLine) :
  Meets (Builtin.«tuple.__mul__» ⟨[.ref l,.int k t],[]⟩) (λ _ R s=>s.heap.get? l=some { cls:=.type "tuple",dict:=dd,data:=.seq items n,slots:=sl }/\R (.ok (.ret (Value.ref s.heap.objs.size))) { s with heap:=s.heap.push { cls:=Value.type "tuple",data:=Data.seq ((List.replicate k.toNat items).foldl (· ++ ·) #[]) },toks:=s.toks }) :=
 .of_wp λ prog w A R s h=>by
  obtain ⟨hp,g,d,tk,os⟩:=s
  obtain ⟨hl,h⟩:=h
  have f1:=AutoSeq1.idx_int
  have f2:=AutoSeq1.sub_tuple_tuple
  wp_walk using wpAny_loadPart' hl
  rw [if_neg hc0]
  wp_walk using wpAny_loadPart' hl
  rw [if_neg hc3]
  wp_walk using wpAny_loadPart' hl
  exact ⟨_,rfl,h⟩
end
end HT
namespace L2
open PySem PySem.Spec PyProof.Rows
section
variable {X:Cx}
end
end L2
namespace L2
open PySem PySem.Spec PyProof.Rows H1
section
variable {X:Cx} {K:PySem.W.Frag}
end
end L2
namespace L2
open PySem PySem.Spec PyProof.Rows H1
section
variable {X:Cx}
end
end L2
namespace L2
open PySem PySem.Spec PyProof.Rows H1
abbrev Hs:=Int × List (Int × Int) × List Int × List Int
def ZZ (ns:List Int):PyData:=.tuple (ns.map .int)
def Zu (h:Hs):PyData:=.tuple [.int h.1,Zv h.2.1,ZZ h.2.2.1,ZZ h.2.2.2]
def Zs (t:Int) (hs:List Hs):PyData:=.tuple [.int t,.tuple (hs.map Zu)]
end L2
namespace L2
open PySem PySem.Spec PyProof.Rows H1
structure Ru where
 o:Int
 w:Int
 t:Int
 c:Int
 cl:List Str
def clD (cl:List Str):PyData:=.tuple (cl.map .str)
def ruD (r:Ru):PyData:=.tuple [.int r.o,.int r.w,.int r.t,.int r.c,clD r.cl]
structure RuOk (r:Ru):Prop where
 o : 0<=r.o/\r.o<=3
 w : 1<=r.w/\r.w<=9
 t : 0<=r.t/\r.t<=9
 c : 0<=r.c/\r.c<=8
 l:r.cl.length<=7
def ZId (c:Int × Int):Prop:=1<=c.1/\c.1<=4/\0<=c.2/\c.2 < c.1
end L2
namespace L2
open PySem PySem.Spec PyProof.Rows H1
def ZDY (cl:List Str) (x:Str):Bool:=inV (.str x) (cl.map V.str)
theorem ZLd (a b:Int × Int):(ZY a).eqv (ZY b)=decide (a=b):=by
 show ((a.1 == b.1) && ((a.2 == b.2) && true))=decide (a=b)
 rw [Bool.eq_iff_iff,Bool.and_true,Bool.and_eq_true,beq_iff_eq,beq_iff_eq,decide_eq_true_iff,Prod.ext_iff]
def ZHJ (cl:List Str) (old word:Int × Int):Bool:=if ZDY cl "newer" = true then gtW word old else !decide (word=old)
def ZLO (cl:List Str) (h:Hs) (y:Nat) (w:Int × Int):Hs:=if h.1=1/\ZDY cl "refute" = true/\gtW w (h.2.1.getD y (0,0))=true then (h.1,h.2.1.set y (w.1+1,0),h.2.2.1.set y 0,h.2.2.2) else h
def ZK5 (cl:List Str) (h:Hs) (o:Nat) (w:Int × Int):Hs:=if ZHJ cl (h.2.1.getD o (0,0)) w=true then (h.1,h.2.1.set o w,h.2.2.1.set o 0,if w.2=1 then h.2.2.2 else h.2.2.2.set o 0) else h
def ZET (cl:List Str) (y:Nat) (h:Hs) (n:Nat × (Int × Int)):Hs:=if n.1=y then ZLO cl h y n.2 else ZK5 cl h n.1 n.2
def ZCb (cl:List Str) (y:Nat) (h:Hs) (ns:List (Nat × (Int × Int))):Hs:=ns.foldl (ZET cl y) h
theorem ZIe {α : Type} {xs:List α} {i:Nat} {x y : α} {P : α->Prop} (h:∀ z ∈ xs,P z) (hx:P x):y ∈ xs.set i x->P y:=λ hy=>by
 rcases List.mem_or_eq_of_mem_set hy with z | z
 ·exact h y z
 ·rw [z]; exact hx
theorem ZIW {cl:List Str} {y i:Nat} {h:Hs} {ns:List (Nat × (Int × Int))} {x:Nat × (Int × Int)} (e:ns[i]? = some x):ZCb cl y h (ns.take (i+1))=ZET cl y (ZCb cl y h (ns.take i)) x:=by
 unfold ZCb
 rw [List.take_add_one,e,List.foldl_append]
 rfl
end L2
namespace HU
open PySem PyProof.Rows
section
variable {prog:Program} {w:World} {A:Around} {E:Value->Shared->Prop}
variable {st:Shared}
end
end HU
namespace L2
open PySem PySem.Spec PyProof.Rows H1
section
variable {X:Cx} {pos:Pos}
end
end L2
namespace L2
open PySem PySem.Spec PyProof.Rows H1
end L2
namespace L2
open PySem PySem.Spec PyProof.Rows H1
end L2
namespace L2
open PySem PySem.Spec PyProof.Rows H1
end L2
namespace L2
open PySem PySem.Spec PyProof.Rows H1
section
variable {X:Cx} {K:PySem.W.Frag}
end
end L2
namespace L2
open PySem PySem.Spec PyProof.Rows H1
end L2
namespace L2
open PySem PySem.Spec PyProof.Rows H1
structure HV (r:Ru) (n i:Nat) (h:Hs):Prop where
 up : 0<=h.1/\h.1<=1
 bl:h.2.1.length=n
 bs:∀ w ∈ h.2.1,(0<=w.1/\w.1<=1000000)/\0<=w.2/\w.2<=3
 tl:h.2.2.1.length=n
 ts:∀ k ∈ h.2.2.1,0<=k/\k<=r.t
 ml:h.2.2.2.length=n
 ms:∀ k ∈ h.2.2.2,0<=k/\k<=r.w
 m0:h.2.2.2[i]? = some 0
 mu:h.1=1 ∨ ∀ k ∈ h.2.2.2,k=0
end L2
namespace L2
open PySem PySem.Spec PyProof.Rows H1
theorem snocV {r:Ru} {n:Nat} {hs:List Hs} {h:Hs} (hv:∀ i h,hs[i]? = some h->HV r n i h) (hn:HV r n hs.length h):∀ i x,(hs ++ [h])[i]? = some x->HV r n i x:=λ i x e=>by
 by_cases hj:i < hs.length
 ·rw [List.getElem?_append_left hj] at e
  exact hv i x e
 ·rw [List.getElem?_append_right (by omega)] at e
  have hj0:i - hs.length=0:=by
   have:=(List.getElem?_eq_some_iff.mp e).1
   simp at this
   omega
  rw [hj0] at e
  cases e
  have:i=hs.length:=by omega
  rw [this]
  exact hn
end L2
namespace L2
open PySem PySem.Spec PyProof.Rows H1
end L2
namespace L2
open PySem PySem.Spec PyProof.Rows H1
end L2
namespace L2
open PySem PySem.Spec PyProof.Rows H1
end L2
namespace HT
open PySem PyProof.Rows
def lexGe:List Int->List Int->Bool
 | [],[]=>true
 | [],_ :: _=>false
 | _ :: _,[]=>true
 | x :: xs,y :: ys=>if x=y then lexGe xs ys else decide (y<=x)
theorem ZIz (x y:Int) (xs ys:List Int):lexGe (x :: xs) (y :: ys)=if x=y then lexGe xs ys else decide (y<=x):=rfl
theorem ZGK:lexGe [] []=true:=rfl
theorem ZFx (y:Int) (ys:List Int):lexGe [] (y :: ys)=false:=rfl
theorem ZFZ (x:Int) (xs:List Int):lexGe (x :: xs) []=true:=rfl
theorem ZKt (A:Around) (s:Shared) (a:Int) (t:Tok) (c:Int) (u:Tok) (prog:Program) (w:World) (E:Value->Shared->Prop) (Q:Value->Shared->Prop) (h:Q (.bool (decide (c<=a))) s) :
  wpAny (model prog w) A (richCompare .GtE (.int a t) (.int c u)) Q E s :=
 (PyProof.Rows.ge_int h:wpAny (model prog w) A (compareOp .GtE (.int a t) (.int c u)) Q E s)
section
open PySem.SeqAt
open PySem.AutoSeq1 (wpAny_loadPart')
open PySem.MeetsSeq PySem.MeetsSeq2 PySem.MeetsSeq3
theorem ZGQ (l b:Addr) (items items2:Array Value) (n n2:Nat) (dd dd2:Option Addr) (sl sl2:Array (Option Value)) (ns ms:List Int) (hi:IntsAre items.toList ns) (hj:IntsAre items2.toList ms) :
  Meets (Builtin.«tuple.__ge__» ⟨[.ref l,.ref b],[]⟩)
   (λ _ R s=>s.heap.get? l=some { cls:=.type "tuple",dict:=dd,data:=.seq items n,slots:=sl }/\s.heap.get? b=some { cls:=.type "tuple",dict:=dd2,data:=.seq items2 n2,slots:=sl2 } /\
    R (.ok (.ret (.bool (lexGe ns ms)))) s) :=
 .of_wp λ prog w A R s h=>by
  obtain ⟨hp,g,d,tk,os⟩:=s; obtain ⟨hl,hb,h⟩:=h
  have f2:=AutoSeq1.sub_tuple_tuple
  have z1:items.size=ns.length:=by rw [← hi.length]; simp
  have z2:items2.size=ms.length:=by rw [← hj.length]; simp
  wp_walk using wpAny_loadPart' hl,wpAny_loadPart' hb,wpAny_forIn_list _ (λ rest b s'=>b.1=none/\s'=⟨hp,g,d,tk,os⟩/\∃ (vs ws:List Value) (ns' ms':List Int),rest=vs.zip ws /\
   IntsAre vs ns'/\IntsAre ws ms'/\ns'.length+items2.size=ms'.length+items.size/\R (.ok (.ret (.bool (lexGe ns' ms')))) ⟨hp,g,d,tk,os⟩) _
  case turn =>
   rintro ⟨y,x⟩ rest b s' ⟨hb',rfl,vs,ws,ns',ms',hz,hvi,hwi,hlen,hR⟩
   cases hvi with
   | nil=>rw [List.zip_nil_left] at hz; cases hz
   | cons a t hvi' =>
    cases hwi with
    | nil=>rw [List.zip_nil_right] at hz; cases hz
    | cons c u hwi' =>
     rw [List.zip_cons_cons] at hz
     injection hz with hyx hrest
     injection hyx with hy hx
     subst hy hx
     rw [ZIz] at hR
     simp only [List.length_cons] at hlen
     obtain ⟨e,he,hiff⟩:=ZFV A.in1 ⟨hp,g,d,tk,os⟩ a t c u
     refine wpAny_bind (he prog w _ _ ?_)
     cases e with
     | true =>
      rw [if_pos (hiff.mp rfl)] at hR
      wp_walk
      exact ⟨rfl,rfl,_,_,_,_,hrest,hvi',hwi',by omega,hR⟩
     | false =>
      rw [if_neg (λ q=>absurd (hiff.mpr q) Bool.false_ne_true)] at hR
      have hri:=ZKt A.in1 ⟨hp,g,d,tk,os⟩ a t c u prog w
      wp_walk using hri
      exact ⟨_,rfl,by simpa using hR⟩
  case fin =>
   rintro ⟨b1,b2⟩ s' ⟨hb',rfl,vs,ws,ns',ms',hz,hvi,hwi,hlen,hR⟩
   simp only at hb'
   subst hb'
   have hv:lexGe ns' ms'=decide (items.size ≥ items2.size):=by
    cases hvi with
    | nil =>
     cases hwi with
     | nil =>
      simp only [List.length_nil] at hlen
      rw [ZGK]
      exact (decide_eq_true (by omega)).symm
     | cons c u hw =>
      simp only [List.length_nil,List.length_cons] at hlen
      rw [ZFx]
      exact (decide_eq_false (by omega)).symm
    | cons a t hv =>
     cases hwi with
     | nil =>
      simp only [List.length_nil,List.length_cons] at hlen
      rw [ZFZ]
      exact (decide_eq_true (by omega)).symm
     | cons c u hw =>
      rw [List.zip_cons_cons] at hz
      cases hz
   rw [hv] at hR
   wp_walk
   exact ⟨_,rfl,by simpa [Builtin.Tuple.tupleCompareSizes] using hR⟩
  case h =>
   exact ⟨rfl,rfl,items.toList,items2.toList,ns,ms,rfl,hi,hj,by omega,h⟩
end
section
variable {prog:Program} {w:World} {A:Around} {E:Value->Shared->Prop} {s:Shared}
theorem ge_tupInts {l b:Addr} {items items2:Array Value} {ns ms:List Int} {Q:Value->Shared->Prop} (hl:IsTup s.heap l items) (hb:IsTup s.heap b items2) (hi:IntsAre items.toList ns) (hj:IntsAre items2.toList ms)
  (hu:A.units < cLine) (h:Q (.bool (lexGe ns ms)) s):wpAny (model prog w) A (compareOp .GtE (.ref l) (.ref b)) Q E s:=by
 obtain ⟨⟨cls,dd,data,sl⟩,ho,hc,n,hd⟩:=id hl
 obtain ⟨⟨cls2,dd2,data2,sl2⟩,ho2,hc2,n2,hd2⟩:=id hb
 simp only at hc hd hc2 hd2
 subst hc hd hc2 hd2
 exact richCompare_meets_room (op:=.GtE) ⟨_,ho,rfl⟩ ⟨_,ho2,rfl⟩ PySem.F.slot_tuple_ge PySem.F.entry_tuple_ge (PySem.F.args_tuple_ge_2 _ _) (ZGQ l b items items2 n n2 dd dd2 sl sl2 ns ms hi hj)
  ⟨ho,ho2,show Value.bool (lexGe ns ms) ≠ Value.notImplemented/\Q (.bool (lexGe ns ms)) s from ⟨(λ x=>nomatch x),h⟩⟩ hu
end
end HT
namespace L2
open PySem PySem.Spec PyProof.Rows
section
variable {X:Cx} {a b:Expr} {ta tb:TE} {pos:Pos}
def rGeT (K:PySem.W.Frag):R2:=λ x y H Q=>∃ a b ns ms,x=.ref a/\y=.ref b/\SqT K H a (ns.map V.int)/\SqT K H b (ms.map V.int)/\Q (.bl (HT.lexGe ns ms)) H
theorem ZOz (hu:X.A.units < cLine):OpR X (compareOp .GtE) (rGeT X.K):=by
 intro pins s σ H x y v u Q I rx ry h
 obtain ⟨a,b,ns,ms,rfl,rfl,ha,hb,q⟩:=h
 cases rx
 cases ry
 obtain ⟨its,r1,p1,_⟩:=I.tuple ha
 obtain ⟨its2,r2,p2,_⟩:=I.tuple hb
 have i1:IntsAre its.toArray.toList ns:=ZBL r1
 have i2:IntsAre its2.toArray.toList ms:=ZBL r2
 exact HT.ge_tupInts p1 p2 i1 i2 hu ⟨.bl (HT.lexGe ns ms),H,I,rfl,q⟩
end
end L2
namespace L2
open PySem PySem.Spec PyProof.Rows H1
section
variable {X:Cx} {K:PySem.W.Frag}
end
end L2
namespace L2
open PySem PySem.Spec PyProof.Rows H1
end L2
namespace L2
open PySem PySem.Spec PyProof.Rows H1
end L2
namespace L2
open PySem PySem.Spec PyProof.Rows H1
section
variable {X:Cx}
end
end L2
namespace L2
open PySem PySem.Spec PyProof.Rows H1
end L2
namespace L2
open PySem PySem.Spec PyProof.Rows H1
end L2
namespace L2
open PySem PySem.W PyProof.Rows H1
def ZKB {α : Type} (f:Nat->Nat->Option Bool):KasT α->Option α
 | .ret a=>some a
 | .ask i j k=>match f i j with
  | some b=>ZKB f (k b)
  | none=>none
theorem ZJV {α : Type} {cmp:Nat->Nat->(Bool->Shared->Prop)->Shared->Prop} {f:Nat->Nat->Option Bool} {s:Shared} {Q : α->Shared->Prop} (hc:∀ i j b (C:Bool->Shared->Prop),f i j=some b->C b s->cmp i j C s):∀ (t:KasT α) {a : α},ZKB f t=some a->Q a s->t.kasWp cmp Q s
 | .ret a,b,h,q=>by
  cases h
  exact q
 | .ask i j k,a,h,q=>by
  show cmp i j (λ b s'=>(k b).kasWp cmp Q s') s
  unfold ZKB at h
  cases hf:f i j with
  | none=>rw [hf] at h; cases h
  | some b =>
   rw [hf] at h
   exact hc i j b _ hf (ZJV hc (k b) h q)
def rkF (π : List Nat) (i j:Nat):Option Bool:=if (Nat.blt i π.length && Nat.blt j π.length)=true then some (Nat.blt (π.getD i 0) (π.getD j 0)) else none
def chk (π : List Nat):Bool:=match ZKB (rkF π) (kas_sort π.length) with
 | none=>false
 | some p=>p.toList.isPerm (List.range π.length) && (p.toList.map (λ i=>π.getD i 0) == List.range π.length)
def pl (n:Nat):Nat->List (List Nat)
 | 0=>[[]]
 | k+1=>(pl n k).flatMap λ l=>((List.range n).filter λ x=>!l.contains x).map λ x=>x :: l
theorem ZLX {n:Nat}:∀ {π : List Nat},π.Nodup->(∀ x ∈ π,x < n)->π ∈ pl n π.length
 | [],_,_=>List.mem_singleton.mpr rfl
 | x :: r,hn,hl=>by
  obtain ⟨h1,h2⟩:=List.nodup_cons.mp hn
  show x :: r ∈ (pl n r.length).flatMap _
  rw [List.mem_flatMap]
  refine ⟨r,ZLX h2 λ y hy=>hl y (List.mem_cons_of_mem _ hy),List.mem_map.mpr ⟨x,List.mem_filter.mpr ⟨List.mem_range.mpr (hl x (List.mem_cons_self ..)),?_⟩,rfl⟩⟩
  simpa using h1
theorem chk2:(pl 2 2).all chk=true:=by decide +kernel
theorem chk3:(pl 3 3).all chk=true:=by decide +kernel
theorem chk4:(pl 4 4).all chk=true:=by decide +kernel
theorem chk5:(pl 5 5).all chk=true:=by decide +kernel
theorem chk6:(pl 6 6).all chk=true:=by decide +kernel
theorem ZMB {n:Nat} (h2 : 2<=n) (h6:n<=6):(pl n n).all chk=true:=by
 obtain rfl | rfl | rfl | rfl | rfl:n=2 ∨ n=3 ∨ n=4 ∨ n=5 ∨ n=6:=by omega
 ·exact chk2
 ·exact chk3
 ·exact chk4
 ·exact chk5
 ·exact chk6
theorem ZBH {α : Type} {p q : α->Bool}:∀ {l:List α},(∀ x ∈ l,p x=true->q x=true)->(∃ x,x ∈ l/\q x=true/\p x=false)->l.countP p < l.countP q
 | [],_,⟨_,z,_⟩=>nomatch z
 | a :: r,h,⟨x,hx,hq,hp⟩=>by
  rw [List.countP_cons,List.countP_cons]
  have hle:r.countP p<=r.countP q:=List.countP_mono_left λ y hy=>h y (List.mem_cons_of_mem _ hy)
  have ha:=h a (List.mem_cons_self ..)
  rcases List.mem_cons.mp hx with rfl | hx
  ·rw [hq,hp,if_pos rfl,if_neg (by decide)]
   omega
  ·have:=ZBH (λ y hy=>h y (List.mem_cons_of_mem _ hy)) ⟨x,hx,hq,hp⟩
   by_cases c:p a=true
   ·rw [c,ha c]
    omega
   ·rw [if_neg c]
    omega
theorem ZGu (a:Int × Int):gtW a a=false:=by
 cases h:gtW a a with
 | false=>rfl
 | true =>
  rcases ZCT.mp h with z | z
  ·omega
  ·omega
theorem ZKD {a b c:Int × Int} (h1:gtW a b=true) (h2:gtW b c=true):gtW a c=true:=by
 rw [ZCT] at *
 omega
theorem ZJm {a b:Int × Int} (h:a ≠ b):gtW a b=true ∨ gtW b a=true:=by
 rw [ZCT,ZCT]
 by_cases c:a.1=b.1
 ·by_cases d:a.2=b.2
  ·exact absurd (Prod.ext c d) h
  ·omega
 ·omega
def ZC8 (ks:List (Int × Int)) (k:Int × Int):Nat:=ks.countP λ x=>gtW k x
theorem ZNW {ks:List (Int × Int)} {k:Int × Int} (h:k ∈ ks):ZC8 ks k < ks.length:=by
 have:=ZBH (p:=λ x=>gtW k x) (q:=λ _=>true) (l:=ks) (λ _ _ _=>rfl) ⟨k,h,rfl,ZGu k⟩
 rw [List.countP_true] at this
 exact this
theorem ZDg {ks:List (Int × Int)} {a b:Int × Int} (h:a ∈ ks) (g:gtW b a=true):ZC8 ks a < ZC8 ks b :=
 ZBH (λ _ _ e=>ZKD g e) ⟨a,h,g,ZGu a⟩
theorem ZH7 {ks:List (Int × Int)} {a b:Int × Int} (ha:a ∈ ks) (hb:b ∈ ks):Nat.blt (ZC8 ks a) (ZC8 ks b)=gtW b a:=by
 cases h:gtW b a with
 | true=>exact Nat.blt_eq.mpr (ZDg ha h)
 | false =>
  cases c:Nat.blt (ZC8 ks a) (ZC8 ks b) with
  | false=>rfl
  | true =>
   have c:=Nat.blt_eq.mp c
   by_cases e:a=b
   ·rw [e] at c
    exact absurd c (Nat.lt_irrefl _)
   ·rcases ZJm e with z | z
    ·have:=ZDg hb z
     omega
    ·rw [h] at z
     cases z
def ZJ1 (ks:List (Int × Int)) (i j:Nat):Option Bool:=if (Nat.blt i ks.length && Nat.blt j ks.length)=true then some (gtW (ks.getD j (0,0)) (ks.getD i (0,0))) else none
theorem ZE1 {α : Type} {xs:List α} {i:Nat} {d : α} (h:i < xs.length):xs.getD i d ∈ xs:=by
 rw [List.getD_eq_getElem?_getD,List.getElem?_eq_getElem h]
 exact List.getElem_mem h
theorem ZDd {ks:List (Int × Int)} {g:Int × Int->Nat} {i:Nat} (h:i < ks.length):(ks.map g).getD i 0=g (ks.getD i (0,0)):=by
 rw [List.getD_eq_getElem?_getD,List.getD_eq_getElem?_getD,List.getElem?_map,List.getElem?_eq_getElem h]
 rfl
theorem ZMZ (ks:List (Int × Int)):ZJ1 ks=rkF (ks.map (ZC8 ks)):=by
 funext i j
 unfold ZJ1 rkF
 rw [List.length_map]
 by_cases c:(Nat.blt i ks.length && Nat.blt j ks.length)=true
 ·rw [if_pos c,if_pos c]
  have c':=c
  rw [Bool.and_eq_true,Nat.blt_eq,Nat.blt_eq] at c'
  rw [ZDd c'.1,ZDd c'.2,ZH7 (ZE1 c'.1) (ZE1 c'.2)]
 ·rw [if_neg c,if_neg c]
theorem ZJO {ks:List (Int × Int)} (hn:ks.Nodup) (h2 : 2<=ks.length) (h6:ks.length<=6):∃ p:Array Nat,ZKB (ZJ1 ks) (kas_sort ks.length)=some p/\p.toList.Perm (List.range ks.length)/\(p.toList.map λ i=>ks.getD i (0,0)).Pairwise (λ a b=>gtW b a=true):=by
 have hN:(ks.map (ZC8 ks)).Nodup:=by
  unfold List.Nodup
  rw [List.pairwise_map]
  refine List.Pairwise.imp_of_mem (λ {a b} ha hb hab e=>?_) hn
  rcases ZJm hab with z | z
  ·have:=ZDg hb z
   omega
  ·have:=ZDg ha z
   omega
 have hL:∀ x ∈ ks.map (ZC8 ks),x < ks.length:=λ x hx=>by
  obtain ⟨k,hk,rfl⟩:=List.mem_map.mp hx
  exact ZNW hk
 have hm:=ZLX hN hL
 rw [List.length_map] at hm
 have hc:=List.all_eq_true.mp (ZMB h2 h6) _ hm
 unfold chk at hc
 rw [← ZMZ,List.length_map] at hc
 cases hr:ZKB (ZJ1 ks) (kas_sort ks.length) with
 | none=>rw [hr] at hc; cases hc
 | some p =>
  rw [hr] at hc
  have hc:=Bool.and_eq_true_iff.mp hc
  have hp:p.toList.Perm (List.range ks.length):=List.isPerm_iff.mp hc.1
  have he:p.toList.map (λ i=>(ks.map (ZC8 ks)).getD i 0)=List.range ks.length:=eq_of_beq hc.2
  refine ⟨p,rfl,hp,?_⟩
  have hw:(p.toList.map (λ i=>(ks.map (ZC8 ks)).getD i 0)).Pairwise (· < ·):=by
   rw [he]
   exact List.pairwise_lt_range
  rw [List.pairwise_map] at hw ⊢
  refine List.Pairwise.imp_of_mem (λ {a b} ha hb hab=>?_) hw
  have ha':=List.mem_range.mp (hp.mem_iff.mp ha)
  have hb':=List.mem_range.mp (hp.mem_iff.mp hb)
  rw [ZDd ha',ZDd hb'] at hab
  rw [← ZH7 (ZE1 ha') (ZE1 hb')]
  exact Nat.blt_eq.mpr hab
end L2
namespace L2
open PySem PySem.Spec PySem.W PyProof.Rows H1
inductive PairsIn (h:Heap):List Value->List (Int × Int)->Prop
 | nil:PairsIn h [] []
 | cons {a:Addr} {k:Int × Int} {t u:Tok} {vs:List Value} {ks:List (Int × Int)}:IsTup h a #[.int k.1 t,.int k.2 u]->PairsIn h vs ks->PairsIn h (.ref a :: vs) (k :: ks)
theorem PairsIn.keep {h h':Heap} (g:∀ a its,IsTup h a its->IsTup h' a its):∀ {vs:List Value} {ks:List (Int × Int)},PairsIn h vs ks->PairsIn h' vs ks
 | _,_,.nil=>.nil
 | _,_,.cons a b=>.cons (g _ _ a) (PairsIn.keep g b)
theorem PairsIn.len {h:Heap}:∀ {vs:List Value} {ks:List (Int × Int)},PairsIn h vs ks->vs.length=ks.length
 | _,_,.nil=>rfl
 | _,_,.cons _ b=>congrArg Nat.succ b.len
theorem PairsIn.at {h:Heap}:∀ {vs:List Value} {ks:List (Int × Int)},PairsIn h vs ks->∀ {i:Nat},i < ks.length->∃ a t u,vs.getD i Value.none=.ref a/\IsTup h a #[.int (ks.getD i (0,0)).1 t,.int (ks.getD i (0,0)).2 u]
 | _,_,.nil,i,z=>absurd z (Nat.not_lt_zero _)
 | _,_,.cons a b,0,_=>⟨_,_,_,rfl,a⟩
 | _,_,.cons a b,i+1,z=>b.at (Nat.lt_of_succ_lt_succ z)
theorem PairsIn.firsts {h:Heap}:∀ {vs:List Value} {ks:List (Int × Int)},PairsIn h vs ks->∃ fs,KatTups h vs fs/\fs.length=ks.length/\∀ v ∈ fs,∃ n t,v=Value.int n t
 | _,_,.nil=>⟨[],KatTups.nil,rfl,λ _ z=>nomatch z⟩
 | _,_,.cons a b=>by
  obtain ⟨o,h1,h2,n,h3⟩:=a
  obtain ⟨fs,f1,f2,f3⟩:=b.firsts
  refine ⟨_ :: fs,KatTups.cons h1 h2 h3 rfl f1,congrArg Nat.succ f2,λ v hv=>?_⟩
  rcases List.mem_cons.mp hv with rfl | hv
  ·exact ⟨_,_,rfl⟩
  ·exact f3 v hv
section
variable {prog:Program} {w:World} {A:Around} {E:Value->Shared->Prop} {s:Shared}
theorem ZMg {a b:Addr} {x y:Int × Int} {t u t' u':Tok} {C:Bool->Shared->Prop} (ha:IsTup s.heap a #[.int x.1 t,.int x.2 u]) (hb:IsTup s.heap b #[.int y.1 t',.int y.2 u']) (h:C (gtW y x) s) :
  wpAny (model prog w) A (keyLt' (tuples' true) (.ref a) (.ref b)) C E s:=by
 obtain ⟨o,h1,_,n,h2⟩:=ha
 obtain ⟨o',h1',_,n',h2'⟩:=hb
 refine kat_lt h1 h2 h1' h2' ?_
 show KatLex prog w A true (decide ((2:Nat) < 2)) C [(.int x.1 t,.int y.1 t'),(.int x.2 u,.int y.2 u')] 0 s
 refine kat_cons (wpAny_eqBool_int (kat_go (λ e=>kat_yes (kat_cons (wpAny_eqBool_int (kat_go (λ e2=>kat_yes (kat_nil ?_)) (λ e2=>kat_no (kat_one _ _ (wpAny_lt_int ?_))))))) (λ e=>kat_no ?_)))
 ·have e:=eq_of_beq e
  have e2:=eq_of_beq e2
  have:gtW y x=false:=by
   rw [show y=x from (Prod.ext e e2).symm]
   exact ZGu x
  rw [this] at h
  exact h
 ·have e:=eq_of_beq e
  show C (decide (x.2 < y.2)) s
  have:gtW y x=decide (x.2 < y.2):=by
   rw [Bool.eq_iff_iff,ZCT,decide_eq_true_eq]
   omega
  rw [← this]
  exact h
 ·have e : ¬ x.1=y.1:=by simpa using e
  show wpAny (model prog w) A (oneLt' true (.int x.1 t) (.int y.1 t')) C (λ _ _=>False) s
  refine oneLt_int ?_
  have:gtW y x=decide (x.1 < y.1):=by
   rw [Bool.eq_iff_iff,ZCT,decide_eq_true_eq]
   omega
  rw [← this]
  exact h
theorem ZJJ {vs:List Value} {ks:List (Int × Int)} {Q:SortKind->Shared->Prop} (hp:PairsIn s.heap vs ks) (h0 : 0 < ks.length) (h:Q (tuples' true) s):wpAny (model prog w) A (keyKind' vs.toArray) Q E s:=by
 obtain ⟨fs,f1,f2,f3⟩:=hp.firsts
 refine kat_kind (T:=.type "int") f1 (by omega) (λ v hv=>?_) rfl h
 obtain ⟨n,t,rfl⟩:=f3 v hv
 exact λ A Q E s _ q=>wpAny_pure q
theorem ZCL {α : Type} (xs:List α) (d : α):(List.range xs.length).map (λ i=>xs.getD i d)=xs:=by
 refine List.ext_getElem (by simp) λ i h1 h2=>?_
 simp [h2]
theorem ZFF {a:Addr} {vs:List Value} {ks:List (Int × Int)} {n:Nat} {P:PySem.Fin->Shared->Prop} (ho:s.heap.get? a=some (seqObj "list" vs.toArray n)) (hp:PairsIn s.heap vs ks) (hn:ks.Nodup) (h6:ks.length<=6)
  (h:∀ p:List Nat,p.Perm (List.range ks.length)->(p.map λ i=>ks.getD i (0,0)).Pairwise (λ a b=>gtW b a=true)->P (.done (.ret .none)) { s with heap:=sortedHeap s.heap a vs (p.map λ i=>vs.getD i Value.none).toArray }) :
  wpAny (model prog w) A (Builtin.«list.sort» ⟨[.ref a],[]⟩) P E s:=by
 have hlen:=hp.len
 rw [list_sort_plain]
 have ha:a < s.heap.objs.size:=Heap.lt_size ho
 refine wpAny_bind (listItems_at ho rfl ?_)
 refine wpAny_bind (listUpdate_at ho rfl ?_)
 obtain ⟨e1,ho1⟩:∃ e1,(s.heap.update a (Obj.mapSeq λ _=>#[])).get? a=some (seqObj "list" #[] e1):=⟨_,get?_update_seq ho (λ _=>#[])⟩
 refine wpAny_bind (seqEpoch_at ho1 rfl ?_)
 refine wpAny_bind (wpAny_newTuple ?_)
 refine wpAny_bind (wpAny_newList ?_)
 refine wpAny_holding ?_
 have old:∀ b,b ≠ a->b < s.heap.objs.size->(((s.heap.update a (Obj.mapSeq λ _=>#[])).push (seqObj "tuple" vs.toArray 0)).push (seqObj "list" #[] 0)).get? b=s.heap.get? b:=λ b hb hlt=>by
  rw [Heap.get?_push_ne _ _ _ (by rw [size_push',Heap.size_update]; exact Nat.ne_of_lt (Nat.lt_succ_of_lt hlt)),Heap.get?_push_ne _ _ _ (by rw [Heap.size_update]; exact Nat.ne_of_lt hlt),Heap.get?_update_ne _ _ _ _ hb]
 have ho6:(((s.heap.update a (Obj.mapSeq λ _=>#[])).push (seqObj "tuple" vs.toArray 0)).push (seqObj "list" #[] 0)).get? a=some (seqObj "list" #[] e1):=by
  rw [Heap.get?_push_ne _ _ _ (by rw [size_push',Heap.size_update]; exact Nat.ne_of_lt (Nat.lt_succ_of_lt ha)),Heap.get?_push_ne _ _ _ (by rw [Heap.size_update]; exact Nat.ne_of_lt ha)]
  exact ho1
 have hp6:PairsIn (((s.heap.update a (Obj.mapSeq λ _=>#[])).push (seqObj "tuple" vs.toArray 0)).push (seqObj "list" #[] 0)) vs ks:=hp.keep λ b its hb=>by
  obtain ⟨o,h1,h2,h3⟩:=hb
  refine ⟨o,?_,h2,h3⟩
  rw [old b (λ e=>?_) (Heap.lt_size h1)]
  ·exact h1
  ·rw [e,ho] at h1
   cases h1
   exact absurd (show Value.type "list" = Value.type "tuple" from h2) (by decide)
 show wpAny (model prog w) A _ P E { s with heap:=((s.heap.update a (Obj.mapSeq λ _=>#[])).push (seqObj "tuple" vs.toArray 0)).push (seqObj "list" #[] 0) }
 dsimp only
 have hsz:vs.toArray.size=vs.length:=by simp
 by_cases h2:vs.toArray.size < 2
 ·rw [if_pos h2,if_pos h2]
  refine wpAny_bind (wpAny_pure ?_)
  rw [StateT.run_pure]
  refine wpAny_bind (wpAny_pure ?_)
  dsimp only
  refine wpAny_bind (seqEpoch_at ho6 rfl ?_)
  refine wpAny_bind (listUpdate_at ho6 rfl ?_ (hsz2:=by rw [Array.size_map]; show (pairsOf vs).size<=_; rw [pairsOf_size,sizeLine_eq]; omega))
  simp only [bne_self_eq_false,Bool.false_eq_true,if_false]
  have e:(arrOf (SortSt.mk' general' (vs.toArray.zip vs.toArray) #[] 7 none)).map (·.2)=((List.range ks.length).map λ i=>vs.getD i Value.none).toArray:=by
   rw [← hlen,ZCL]
   show (vs.toArray.zip vs.toArray).map (·.2)=vs.toArray
   apply Array.toList_inj.mp
   simp
   rw [← List.unzip_snd,List.unzip_zip rfl]
  have q:=h (List.range ks.length) (List.Perm.refl _) (by
   rw [ZCL]
   match ks,(show ks.length < 2 by omega) with
   | [],_=>exact .nil
   | [x],_=>exact List.pairwise_singleton _ _
   | x :: y :: r,z=>exact absurd z (by simp))
  rw [← e] at q
  exact wpAny_pure q
 ·rw [if_neg h2,if_neg h2]
  obtain ⟨p,hr,hpp,hps⟩:=ZJO hn (by omega) h6
  refine wpAny_bind (ZJJ (s:={ s with heap:=((s.heap.update a (Obj.mapSeq λ _=>#[])).push (seqObj "tuple" vs.toArray 0)).push (seqObj "list" #[] 0) }) hp6 (by omega) ?_)
  refine wpAny_bind (wpAny_mono (kat_run (ks:=vs) (vs:=vs) (κ:=tuples' true) (G:=λ p' s'=>p'=p/\s'={ s with heap:=((s.heap.update a (Obj.mapSeq λ _=>#[])).push (seqObj "tuple" vs.toArray 0)).push (seqObj "list" #[] 0) })
   (Q:=λ st' s'=>s'={ s with heap:=((s.heap.update a (Obj.mapSeq λ _=>#[])).push (seqObj "tuple" vs.toArray 0)).push (seqObj "list" #[] 0) }/\failedOf st'=none/\(arrOf st').map (·.2)=(p.toList.map λ i=>vs.getD i Value.none).toArray) rfl (by omega) (by omega) (λ p' st' s' hz har hf hG=>⟨hG.2,hf,by rw [← hG.1]; exact kat_snds rfl har⟩)
   (ZJV (f:=ZJ1 ks) (λ i j b C hf hC=>?_) _ (by rw [hlen]; exact hr) ⟨rfl,rfl⟩)) (λ r s' hr'=>?_) λ _ _ e=>e)
  ·unfold ZJ1 at hf
   by_cases c:(Nat.blt i ks.length && Nat.blt j ks.length)=true
   ·rw [if_pos c] at hf
    cases hf
    rw [Bool.and_eq_true,Nat.blt_eq,Nat.blt_eq] at c
    obtain ⟨x,t,u,e,hx⟩:=hp6.at c.1
    obtain ⟨y,t',u',e',hy⟩:=hp6.at c.2
    unfold kas_ask
    rw [e,e']
    exact ZMg hx hy hC
   ·rw [if_neg c] at hf
    cases hf
  ·obtain ⟨⟨⟩,st'⟩:=r
   obtain ⟨rfl,hf,hm⟩:=hr'
   dsimp only at hf hm ⊢
   have hpl:p.toList.length=ks.length:=by rw [hpp.length_eq,List.length_range]
   refine wpAny_bind (seqEpoch_at ho6 rfl ?_)
   refine wpAny_bind (listUpdate_at ho6 rfl ?_ (hsz2:=by rw [hm]; simp; rw [sizeLine_eq,← Array.length_toList]; omega))
   rw [hf]
   simp only [bne_self_eq_false,Bool.false_eq_true,if_false]
   have q:=h p.toList hpp hps
   rw [← hm] at q
   exact wpAny_pure q
theorem ZG5 {l:Addr} {vs:List Value} {ks:List (Int × Int)} {Q:Value->Shared->Prop} (hl:s.heap.IsList l vs.toArray) (hp:PairsIn s.heap vs ks) (hn:ks.Nodup) (h6:ks.length<=6)
  (h:∀ p:List Nat,p.Perm (List.range ks.length)->(p.map λ i=>ks.getD i (0,0)).Pairwise (λ a b=>gtW b a=true)->Q (.ref (s.heap.objs.size+1)) { s with heap:=sortedAll s.heap vs (p.map λ i=>vs.getD i Value.none).toArray }) :
  wpAny (model prog w) A (call (.builtin "sorted") [.ref l]) Q E s:=by
 have hlen:=hp.len
 refine Calls.call_function_entry kind_sorted plain_sorted entry_sorted (args_sorted1 _) ?_
 unfold Builtin.«sorted»
 refine wpAny_bind (m:=checkCount "sorted" 1 1 _) (wpAny_pure ?_)
 refine wpAny_bind (collect_list hl ?_ (by rw [sizeLine_eq]; omega))
 refine wpAny_bind (wpAny_newList ?_ (by rw [sizeLine_eq]; omega))
 have hsz:((s.heap.push (seqObj "list" #[] 0)).update s.heap.objs.size (Obj.mapSeq (· ++ vs.toArray))).objs.size=s.heap.objs.size+1:=by
  rw [Heap.size_update,size_push']
 have hoL:(((s.heap.push (seqObj "list" #[] 0)).update s.heap.objs.size (Obj.mapSeq (· ++ vs.toArray))).push (seqObj "list" vs.toArray 0)).get? (s.heap.objs.size+1)=some (seqObj "list" vs.toArray 0):=by
  rw [← hsz]
  exact Heap.get?_push_size _ rfl
 have hp2:PairsIn (((s.heap.push (seqObj "list" #[] 0)).update s.heap.objs.size (Obj.mapSeq (· ++ vs.toArray))).push (seqObj "list" vs.toArray 0)) vs ks:=hp.keep λ b its hb=>by
  obtain ⟨o,h1,h2⟩:=hb
  have hlt:b < s.heap.objs.size:=Heap.lt_size h1
  refine ⟨o,?_,h2⟩
  rw [Heap.get?_push_ne _ _ _ (by rw [hsz]; exact Nat.ne_of_lt (Nat.lt_succ_of_lt hlt)),Heap.get?_update_ne _ _ _ _ (Nat.ne_of_lt hlt),Heap.get?_push_ne _ _ _ (Nat.ne_of_lt hlt)]
  exact h1
 show wpAny _ _ _ _ _ { s with heap:=((s.heap.push (seqObj "list" #[] 0)).update s.heap.objs.size (Obj.mapSeq (· ++ vs.toArray))).push (seqObj "list" vs.toArray 0) }
 rw [hsz]
 refine wpAny_bind (wpAny_holding (wpAny_call_entry slot_list_sort ⟨_,hoL,rfl⟩ entry_list_sort (ZFF hoL hp2 hn h6 λ p a1 a2=>⟨_,rfl,?_⟩) (args_list_sort _)))
 exact wpAny_pure ⟨_,rfl,h p a1 a2⟩
end
end L2
namespace L2
open PySem PySem.Spec PyProof.Rows H1
section
variable {X:Cx} {pins:List (Addr × Obj)} {σ : St} {H:Hp} {s:Shared}
theorem ZJe:∀ {ys:List V} {its:List Value},Zp ys its->∀ {i:Nat},i < ys.length->Z8 (ys.getD i .non) (its.getD i .none)
 | _,_,.nil,_,z=>absurd z (Nat.not_lt_zero _)
 | _,_,.cons r _,0,_=>r
 | _,_,.cons _ r,i+1,z=>ZJe r (Nat.lt_of_succ_lt_succ z)
theorem ZGk {ys:List V} {its:List Value} (r:Zp ys its):∀ {p:List Nat},(∀ i ∈ p,i < ys.length)->Zp (p.map λ i=>ys.getD i .non) (p.map λ i=>its.getD i .none)
 | [],_=>.nil
 | i :: p,h=>.cons (ZJe r (h i (List.mem_cons_self ..))) (ZGk r λ j hj=>h j (List.mem_cons_of_mem _ hj))
end
section
variable {X:Cx}
end
end L2
namespace L2
open PySem PySem.Spec PyProof.Rows H1
def ZDA (c:Int × Int) (n:Int):Int:=if n < c.2 then 0 else (n - c.2) / c.1+1
def ZBe (cl:List Str) (x y a:Int):List Int:=(y :: if ZDY cl "own" = true then [x] else []) ++ if ZDY cl "about" = true/\a ≠ x then [a] else []
def ZFp (told:List Int) (most x:Int) (due:List Int) (m:Nat):List (Int × Int):=((List.range m).filter λ j=>decide (told.getD j 0 < most) && (!decide ((j:Int)=x) && !due.contains (j:Int))).map λ j=>(told.getD j 0,(j:Int))
def ZBg (told:List Int) (most x:Int) (due:List Int):List (Int × Int):=ZFp told most x due told.length
theorem ZHV (told:List Int) (most x:Int) (due:List Int):(ZBg told most x due).Nodup:=by
 unfold ZBg ZFp List.Nodup
 rw [List.pairwise_map]
 refine List.Pairwise.imp (λ {a b} h e=>?_) (List.Pairwise.filter _ List.pairwise_lt_range)
 have:=congrArg Prod.snd e
 have:(a:Int)=(b:Int):=this
 omega
section
variable {X:Cx} {K:PySem.W.Frag}
end
end L2
namespace L2
open PySem PySem.Spec PyProof.Rows H1
end L2
namespace L2
open PySem PySem.Spec PyProof.Rows H1
theorem ZKP {told:List Int} {most x y:Int} {due:List Int} {i j:Nat} (hx:x=(i:Int)) (hy:y=(j:Int)) (hi:i < told.length) (hj:j < told.length) (hne:j ≠ i) (hm:y ∈ due):(ZBg told most x due).length+2<=told.length:=by
 unfold ZBg ZFp
 rw [List.length_map,← List.countP_eq_length_filter]
 have h1:=ZBH (l:=List.range told.length) (p:=λ j=>decide (told.getD j 0 < most) && (!decide ((j:Int)=x) && !due.contains (j:Int))) (q:=λ j=>!decide ((j:Int)=x)) (λ z _ e=>by
  rw [Bool.and_eq_true,Bool.and_eq_true] at e
  exact e.2.1) ⟨j,List.mem_range.mpr hj,by rw [hx,decide_eq_false (by omega)]; rfl,by
   rw [← hy,List.contains_iff_mem.mpr hm]
   simp⟩
 have h2:=ZBH (l:=List.range told.length) (p:=λ j:Nat=>!decide ((j:Int)=x)) (q:=λ _=>true) (λ _ _ _=>rfl) ⟨i,List.mem_range.mpr hi,rfl,by rw [hx,decide_eq_true rfl]; rfl⟩
 rw [List.countP_true,List.length_range] at h2
 omega
def ZEB (book:List (Int × Int)) (due news:List Int) (m:Nat):List (Nat × (Int × Int)):=((List.range m).filter λ j:Nat=>due.contains (j:Int) || news.contains (j:Int)).map λ j=>(j,book.getD j (0,0))
def ZBE (told:List Int) (news:List Int):List Int:=news.foldl (λ t k=>t.set k.toNat (t.getD k.toNat 0+1)) told
theorem ZCo:∀ {news told:List Int},(ZBE told news).length=told.length
 | [],_=>rfl
 | k :: r,told=>by
  show (ZBE (told.set k.toNat (told.getD k.toNat 0+1)) r).length=told.length
  rw [ZCo,List.length_set]
theorem ZKO {told:List Int} {most x:Int} {due:List Int} {p:Int × Int} (h:p ∈ ZBg told most x due) : 0<=p.2/\p.2.toNat < told.length:=by
 unfold ZBg ZFp at h
 obtain ⟨j,hj,rfl⟩:=List.mem_map.mp h
 have:=List.mem_range.mp (List.mem_filter.mp hj).1
 exact ⟨by show (0:Int)<=(j:Int); omega,by show (j:Int).toNat < _; omega⟩
end L2
namespace L2
open PySem PySem.Spec PyProof.Rows H1
theorem ZIu (told news:List Int) (k:Int):ZBE told (news ++ [k])=(ZBE told news).set k.toNat ((ZBE told news).getD k.toNat 0+1):=by
 unfold ZBE
 rw [List.foldl_append]
 rfl
end L2
namespace L2
open PySem PySem.Spec PyProof.Rows H1
end L2
namespace L2
open PySem PySem.Spec PyProof.Rows
section
variable {X:Cx}
theorem ZII:ZAG X (.builtin "sorted") (λ xs H Q=>∃ (p:Addr) (ns:List Int),xs=[.ref p]/\SqL X.K H p (ns.map V.int)/\ns.length < 64/\∀ l (ms:List Int),H l=none->ms.Perm ns->ms.Pairwise (· <= ·)->Q (.ref l) (upd H l (.lst (ms.map V.int)))):=by
 intro pins s σ H xs us Q I r h
 obtain ⟨p,ns,rfl,hq,hn,q⟩:=h
 obtain ⟨u,rfl,ru⟩:=ZDm r
 cases ru
 obtain ⟨its,rv,pl,hz⟩:=I.list hq
 have hlen:=rv.length
 rw [List.length_map] at hlen
 refine sorted_ints (vs:=its) (ns:=ns) pl.isList (ZBL rv) (by omega) λ out ns' ia pm pw=>?_
 obtain ⟨e,he⟩:=sortedAll_at s.heap its out
 have rv':Zp (ns'.map V.int) out.toList:=by
  clear pm pw he
  generalize out.toList=l at ia
  induction ia with
  | nil=>exact .nil
  | cons a t h ih=>exact .cons ⟨t,rfl⟩ ih
 refine ⟨.ref (s.heap.objs.size+1),_,I.laid (t':=s.toks) (λ b o e=>sortedAll_old e) (Nat.le_succ _) (o:=.lst (ns'.map V.int)) ⟨?_,out.toList,e,rv',by simpa using he⟩,rfl,q _ ns' (I.hok.fresh (Nat.le_succ _)) pm pw⟩
 rw [List.length_map,pm.length_eq]
 exact Nat.le_of_lt (Z0 (by omega))
end
end L2
namespace L2
open PySem PySem.Spec PyProof.Rows H1
section
variable {X:Cx} {K:PySem.W.Frag}
end
end L2
namespace L2
open PySem PySem.Spec PyProof.Rows H1
inductive W where
 | dat (d:PyData)
 | ref (n:Nat)
 | inp (ns:List Int)
 | ty (n:String)
 | tup (ws:List W)
structure CD where
 nm:Str
 fs:List Str
inductive Cell where
 | pl (ds:List PyData)
 | rl (ws:List W)
 | ob (c:CD) (ws:List W)
abbrev G:=List Cell
structure Rh where
 c:List Addr
 h:List Addr
def Rh.mem (ρ : Rh) (a:Addr):Prop:=a ∈ ρ.c ∨ a ∈ ρ.h
abbrev Sd:=List (Option W)
def KL (K:PySem.W.Frag) (a:Addr) (xs:List V):Prop:=∃ (o:Obj) (its:Array Value) (n:Nat),K.lookup a=some o/\o.cls=.type "list"/\o.dict=none/\o.data=.seq its n/\its.size<=sizeLine/\Zp xs its.toList
def KT (K:PySem.W.Frag) (a:Addr) (xs:List V):Prop:=∃ (o:Obj) (its:Array Value) (n:Nat),K.lookup a=some o/\o.cls=.type "tuple"/\o.data=.seq its n/\its.size<=sizeLine/\Zp xs its.toList
def FzL (K:PySem.W.Frag) (ρ : Rh) (H:Hp) (a:Addr) (xs:List V):Prop:=(Rd H a (.lst xs)/\¬ ρ.mem a) ∨ KL K a xs
def FzT (K:PySem.W.Frag) (ρ : Rh) (H:Hp) (a:Addr) (xs:List V):Prop:=(Rd H a (.tup xs)/\¬ ρ.mem a) ∨ KT K a xs
theorem FzL.sq {K:PySem.W.Frag} {ρ : Rh} {H:Hp} {a:Addr} {xs:List V} (h:FzL K ρ H a xs):SqL K H a xs:=h.elim (λ z=>.inl z.1) .inr
theorem FzT.sq {K:PySem.W.Frag} {ρ : Rh} {H:Hp} {a:Addr} {xs:List V} (h:FzT K ρ H a xs):SqT K H a xs:=h.elim (λ z=>.inl z.1) .inr
mutual
inductive RelD (K:PySem.W.Frag) (ρ : Rh) (H:Hp):V->PyData->Prop
 | non:RelD K ρ H .non .none
 | bl (b:Bool):RelD K ρ H (.bl b) (.bool b)
 | int (i:Int):RelD K ρ H (.int i) (.int i)
 | str (x:Str):RelD K ρ H (.str x) (.str x)
 | tup {a:Addr} {xs:List V} {ds:List PyData}:FzT K ρ H a xs->RelDL K ρ H xs ds->RelD K ρ H (.ref a) (.tuple ds)
 | lst {a:Addr} {xs:List V} {ds:List PyData}:H a=some (.lst xs)->¬ ρ.mem a->RelDL K ρ H xs ds->RelD K ρ H (.ref a) (.list ds)
 | dct {a:Addr}:H a=some (DictO a)->¬ ρ.mem a->RelD K ρ H (.ref a) (.dict [])
inductive RelDL (K:PySem.W.Frag) (ρ : Rh) (H:Hp):List V->List PyData->Prop
 | nil:RelDL K ρ H [] []
 | cons {x:V} {d:PyData} {xs:List V} {ds:List PyData}:RelD K ρ H x d->RelDL K ρ H xs ds->RelDL K ρ H (x :: xs) (d :: ds)
end
mutual
inductive Rel (K:PySem.W.Frag) (ρ : Rh) (H:Hp):V->W->Prop
 | dat {v:V} {d:PyData}:RelD K ρ H v d->Rel K ρ H v (.dat d)
 | ref {a:Addr} {n:Nat} : ρ.c[n]? = some a->Rel K ρ H (.ref a) (.ref n)
 | inp {a:Addr} {ns:List Int}:FzL K ρ H a (ns.map V.int)->Rel K ρ H (.ref a) (.inp ns)
 | ty {n:String}:Rel K ρ H (.ty n) (.ty n)
 | tup {a:Addr} {xs:List V} {ws:List W}:FzT K ρ H a xs->RelL K ρ H xs ws->Rel K ρ H (.ref a) (.tup ws)
inductive RelL (K:PySem.W.Frag) (ρ : Rh) (H:Hp):List V->List W->Prop
 | nil:RelL K ρ H [] []
 | cons {v:V} {x:W} {vs:List V} {xs:List W}:Rel K ρ H v x->RelL K ρ H vs xs->RelL K ρ H (v :: vs) (x :: xs)
end
inductive RelF (K:PySem.W.Frag) (ρ : Rh) (H:Hp):List Str->List (Str × V)->List W->Prop
 | nil {ns:List Str}:RelF K ρ H ns [] []
 | cons {f:Str} {ns:List Str} {v:V} {x:W} {vs:List (Str × V)} {xs:List W}:Rel K ρ H v x->RelF K ρ H ns vs xs->RelF K ρ H (f :: ns) ((f,v) :: vs) (x :: xs)
def ZBY (K:PySem.W.Frag) (ρ : Rh) (H:Hp) (a:Addr):Cell->Prop
 | .pl ds=>∃ vs,H a=some (.lst vs)/\RelDL K ρ H vs ds
 | .rl ws=>∃ vs,H a=some (.lst vs)/\RelL K ρ H vs ws
 | .ob c fs=>∃ C dx vs,PySem.W.nsIn K mainGlobals c.nm=some (some (.ref C))/\H a=some (.ins C dx vs)/\RelF K ρ H c.fs vs fs
def kdO:HO->Nat
 | .lst _=>0
 | .ins _ _ _=>1
 | _=>2
structure Stp (ρ : Rh) (H:Hp) (ρ':Rh) (H':Hp):Prop where
 pre:∃ r,ρ'.c = ρ.c ++ r
 hid : ρ'.h = ρ.h
 frm:∀ a o,H a=some o->a ∉ ρ.c->H' a=some o
 fre:∀ a ∈ ρ'.c,a ∈ ρ.c ∨ H a=none
 kd:∀ a o,H a=some o->∃ o',H' a=some o'/\kdO o'=kdO o
section
variable {K:PySem.W.Frag} {ρ ρ' ρ2:Rh} {H H' H2:Hp}
theorem Stp.refl:Stp ρ H ρ H:=⟨⟨[],(List.append_nil _).symm⟩,rfl,λ _ _ h _=>h,λ _ h=>.inl h,λ a o h=>⟨o,h,rfl⟩⟩
theorem Stp.ninc {a:Addr} {o:HO} (s:Stp ρ H ρ' H') (h:H a=some o) (n:a ∉ ρ.c):a ∉ ρ'.c:=λ z=>(s.fre a z).elim n λ e=>by rw [h] at e; cases e
theorem Stp.nin {a:Addr} {o:HO} (s:Stp ρ H ρ' H') (h:H a=some o) (n : ¬ ρ.mem a) : ¬ ρ'.mem a:=λ z=>z.elim (s.ninc h λ q=>n (.inl q)) λ z=>n (.inr (by rw [← s.hid]; exact z))
theorem Stp.trans (s:Stp ρ H ρ' H') (t:Stp ρ' H' ρ2 H2):Stp ρ H ρ2 H2:=by
 refine ⟨?_,t.hid.trans s.hid,λ a o h n=>t.frm a o (s.frm a o h n) (s.ninc h n),λ a h=>?_,λ a o h=>?_⟩
 ·obtain ⟨r,e⟩:=s.pre
  obtain ⟨q,e'⟩:=t.pre
  exact ⟨r ++ q,by rw [e',e,List.append_assoc]⟩
 ·rcases t.fre a h with z | z
  ·exact s.fre a z
  ·by_cases n:a ∈ ρ.c
   ·exact .inl n
   ·cases e:H a with
    | none=>exact .inr rfl
    | some o=>rw [s.frm a o e n] at z; cases z
 ·obtain ⟨o1,h1,k1⟩:=s.kd a o h
  obtain ⟨o2,h2,k2⟩:=t.kd a o1 h1
  exact ⟨o2,h2,k2.trans k1⟩
theorem Stp.same (s:Same H H'):Stp ρ H ρ H':=⟨⟨[],(List.append_nil _).symm⟩,rfl,λ a o h _=>s a o h,λ _ h=>.inl h,λ a o h=>⟨o,s a o h,rfl⟩⟩
theorem Rd.stp {a:Addr} {u:HO} (s:Stp ρ H ρ' H') (h:Rd H a u) (n : ¬ ρ.mem a):Rd H' a u/\¬ ρ'.mem a:=by
 rcases h with h | ⟨o,h⟩
 ·exact ⟨.inl (s.frm _ _ h λ z=>n (.inl z)),s.nin h n⟩
 ·exact ⟨.inr ⟨o,s.frm _ _ h λ z=>n (.inl z)⟩,s.nin h n⟩
theorem FzL.mono {a:Addr} {xs:List V} (s:Stp ρ H ρ' H') (h:FzL K ρ H a xs):FzL K ρ' H' a xs:=h.elim (λ z=>.inl (Rd.stp s z.1 z.2)) .inr
theorem FzT.mono {a:Addr} {xs:List V} (s:Stp ρ H ρ' H') (h:FzT K ρ H a xs):FzT K ρ' H' a xs:=h.elim (λ z=>.inl (Rd.stp s z.1 z.2)) .inr
mutual
theorem RelD.mono (s:Stp ρ H ρ' H'):∀ {v:V} {d:PyData},RelD K ρ H v d->RelD K ρ' H' v d
 | _,_,.non=>.non
 | _,_,.bl b=>.bl b
 | _,_,.int i=>.int i
 | _,_,.str x=>.str x
 | _,_,.tup h hl=>.tup (h.mono s) (RelDL.mono s hl)
 | _,_,.lst h n hl=>.lst (s.frm _ _ h λ z=>n (.inl z)) (s.nin h n) (RelDL.mono s hl)
 | _,_,.dct h n=>.dct (s.frm _ _ h λ z=>n (.inl z)) (s.nin h n)
theorem RelDL.mono (s:Stp ρ H ρ' H'):∀ {vs:List V} {ds:List PyData},RelDL K ρ H vs ds->RelDL K ρ' H' vs ds
 | _,_,.nil=>.nil
 | _,_,.cons h hl=>.cons (RelD.mono s h) (RelDL.mono s hl)
end
theorem ZDK (s:Stp ρ H ρ' H') {a:Addr} {n:Nat} (h : ρ.c[n]? = some a) : ρ'.c[n]? = some a:=by
 obtain ⟨r,e⟩:=s.pre
 rw [e,List.getElem?_append_left (List.getElem?_eq_some_iff.mp h).1]
 exact h
mutual
theorem Rel.mono (s:Stp ρ H ρ' H'):∀ {v:V} {x:W},Rel K ρ H v x->Rel K ρ' H' v x
 | _,_,.dat h=>.dat (h.mono s)
 | _,_,.ref h=>.ref (ZDK s h)
 | _,_,.inp h=>.inp (h.mono s)
 | _,_,.ty=>.ty
 | _,_,.tup h t=>.tup (h.mono s) (RelL.mono s t)
theorem RelL.mono (s:Stp ρ H ρ' H'):∀ {vs:List V} {xs:List W},RelL K ρ H vs xs->RelL K ρ' H' vs xs
 | _,_,.nil=>.nil
 | _,_,.cons h t=>.cons (Rel.mono s h) (RelL.mono s t)
end
theorem RelF.mono (s:Stp ρ H ρ' H'):∀ {ns:List Str} {vs:List (Str × V)} {xs:List W},RelF K ρ H ns vs xs->RelF K ρ' H' ns vs xs
 | _,_,_,.nil=>.nil
 | _,_,_,.cons h t=>.cons (h.mono s) (t.mono s)
theorem FzL.less {a:Addr} {xs:List V} (s:∀ a,ρ'.mem a->ρ.mem a) (h:FzL K ρ H a xs):FzL K ρ' H a xs:=h.elim (λ z=>.inl ⟨z.1,λ q=>z.2 (s _ q)⟩) .inr
theorem FzT.less {a:Addr} {xs:List V} (s:∀ a,ρ'.mem a->ρ.mem a) (h:FzT K ρ H a xs):FzT K ρ' H a xs:=h.elim (λ z=>.inl ⟨z.1,λ q=>z.2 (s _ q)⟩) .inr
mutual
theorem RelD.less (s:∀ a,ρ'.mem a->ρ.mem a):∀ {v:V} {d:PyData},RelD K ρ H v d->RelD K ρ' H v d
 | _,_,.non=>.non
 | _,_,.bl b=>.bl b
 | _,_,.int i=>.int i
 | _,_,.str x=>.str x
 | _,_,.tup h hl=>.tup (h.less s) (RelDL.less s hl)
 | _,_,.lst h n hl=>.lst h (λ z=>n (s _ z)) (RelDL.less s hl)
 | _,_,.dct h n=>.dct h λ z=>n (s _ z)
theorem RelDL.less (s:∀ a,ρ'.mem a->ρ.mem a):∀ {vs:List V} {ds:List PyData},RelDL K ρ H vs ds->RelDL K ρ' H vs ds
 | _,_,.nil=>.nil
 | _,_,.cons h hl=>.cons (RelD.less s h) (RelDL.less s hl)
end
mutual
theorem Rel.less (hc : ρ'.c = ρ.c) (s:∀ a,ρ'.mem a->ρ.mem a):∀ {v:V} {x:W},Rel K ρ H v x->Rel K ρ' H v x
 | _,_,.dat h=>.dat (h.less s)
 | _,_,.ref h=>.ref (by rw [hc]; exact h)
 | _,_,.inp h=>.inp (h.less s)
 | _,_,.ty=>.ty
 | _,_,.tup h t=>.tup (h.less s) (RelL.less hc s t)
theorem RelL.less (hc : ρ'.c = ρ.c) (s:∀ a,ρ'.mem a->ρ.mem a):∀ {vs:List V} {xs:List W},RelL K ρ H vs xs->RelL K ρ' H vs xs
 | _,_,.nil=>.nil
 | _,_,.cons h t=>.cons (Rel.less hc s h) (RelL.less hc s t)
end
theorem RelF.less (hc : ρ'.c = ρ.c) (s:∀ a,ρ'.mem a->ρ.mem a):∀ {ns:List Str} {vs:List (Str × V)} {xs:List W},RelF K ρ H ns vs xs->RelF K ρ' H ns vs xs
 | _,_,_,.nil=>.nil
 | _,_,_,.cons h t=>.cons (h.less hc s) (t.less hc s)
theorem RelDL.length:∀ {vs:List V} {ds:List PyData},RelDL K ρ H vs ds->vs.length=ds.length
 | _,_,.nil=>rfl
 | _,_,.cons _ h=>by rw [List.length_cons,List.length_cons,h.length]
theorem RelDL.getD:∀ {vs:List V} {ds:List PyData} {i:Nat} {d:PyData},RelDL K ρ H vs ds->ds[i]? = some d->∃ v,vs[i]? = some v/\RelD K ρ H v d
 | _,_,_,_,.nil,h=>by simp at h
 | _,_,0,_,.cons t _,h=>by cases h; exact ⟨_,rfl,t⟩
 | _,_,i+1,_,.cons _ t,h=>t.getD (i:=i) (by simpa using h)
theorem RelDL.append:∀ {vs us:List V} {ds es:List PyData},RelDL K ρ H vs ds->RelDL K ρ H us es->RelDL K ρ H (vs ++ us) (ds ++ es)
 | _,_,_,_,.nil,h=>h
 | _,_,_,_,.cons t r,h=>.cons t (r.append h)
theorem RelDL.set {v:V} {d:PyData} (t:RelD K ρ H v d):∀ {vs:List V} {ds:List PyData} (i:Nat),RelDL K ρ H vs ds->RelDL K ρ H (vs.set i v) (ds.set i d)
 | _,_,_,.nil=>.nil
 | _,_,0,.cons _ r=>.cons t r
 | _,_,i+1,.cons u r=>.cons u (RelDL.set t i r)
theorem RelDL.take:∀ {vs:List V} {ds:List PyData} (n:Nat),RelDL K ρ H vs ds->RelDL K ρ H (vs.take n) (ds.take n)
 | _,_,0,_=>.nil
 | _,_,_+1,.nil=>.nil
 | _,_,n+1,.cons r t=>.cons r (RelDL.take n t)
theorem RelDL.drop:∀ {vs:List V} {ds:List PyData} (n:Nat),RelDL K ρ H vs ds->RelDL K ρ H (vs.drop n) (ds.drop n)
 | _,_,0,r=>r
 | _,_,_+1,.nil=>.nil
 | _,_,n+1,.cons _ t=>RelDL.drop n t
theorem RelDL.rep {vs:List V} {ds:List PyData} (t:RelDL K ρ H vs ds):∀ k:Nat,RelDL K ρ H (List.replicate k vs).flatten (List.replicate k ds).flatten
 | 0=>.nil
 | k+1=>by rw [List.replicate_succ,List.replicate_succ,List.flatten_cons,List.flatten_cons]; exact t.append (t.rep k)
theorem RelDL.ints:∀ {vs:List V} {ns:List Int},RelDL K ρ H vs (ns.map .int)->vs=ns.map V.int
 | _,[],.nil=>rfl
 | _,n :: ns,.cons (.int _) t=>by rw [t.ints]; rfl
theorem RelDL.ofInts:∀ {ns:List Int},RelDL K ρ H (ns.map V.int) (ns.map .int)
 | []=>.nil
 | n :: ns=>.cons (.int n) RelDL.ofInts
theorem RelL.length:∀ {vs:List V} {ws:List W},RelL K ρ H vs ws->vs.length=ws.length
 | _,_,.nil=>rfl
 | _,_,.cons _ h=>by rw [List.length_cons,List.length_cons,h.length]
theorem RelL.append:∀ {vs us:List V} {ds es:List W},RelL K ρ H vs ds->RelL K ρ H us es->RelL K ρ H (vs ++ us) (ds ++ es)
 | _,_,_,_,.nil,h=>h
 | _,_,_,_,.cons t r,h=>.cons t (r.append h)
theorem RelL.set {v:V} {d:W} (t:Rel K ρ H v d):∀ {vs:List V} {ds:List W} (i:Nat),RelL K ρ H vs ds->RelL K ρ H (vs.set i v) (ds.set i d)
 | _,_,_,.nil=>.nil
 | _,_,0,.cons _ r=>.cons t r
 | _,_,i+1,.cons u r=>.cons u (RelL.set t i r)
theorem RelL.getD:∀ {vs:List V} {ds:List W} {i:Nat} {d:W},RelL K ρ H vs ds->ds[i]? = some d->∃ v,vs[i]? = some v/\Rel K ρ H v d
 | _,_,_,_,.nil,h=>by simp at h
 | _,_,0,_,.cons t _,h=>by cases h; exact ⟨_,rfl,t⟩
 | _,_,i+1,_,.cons _ t,h=>t.getD (i:=i) (by simpa using h)
theorem ZBY.mono (s:Stp ρ H ρ' H') {a:Addr} {c:Cell} (e:H' a=H a) (h:ZBY K ρ H a c):ZBY K ρ' H' a c:=by
 cases c with
 | pl ds=>obtain ⟨vs,h1,h2⟩:=h; exact ⟨vs,by rw [e]; exact h1,h2.mono s⟩
 | rl ws=>obtain ⟨vs,h1,h2⟩:=h; exact ⟨vs,by rw [e]; exact h1,h2.mono s⟩
 | ob c fs=>obtain ⟨C,dx,vs,h0,h1,h2⟩:=h; exact ⟨C,dx,vs,h0,by rw [e]; exact h1,h2.mono s⟩
theorem ZBY.less (hc : ρ'.c = ρ.c) (s:∀ a,ρ'.mem a->ρ.mem a) {a:Addr} {c:Cell} (h:ZBY K ρ H a c):ZBY K ρ' H a c:=by
 cases c with
 | pl ds=>obtain ⟨vs,h1,h2⟩:=h; exact ⟨vs,h1,h2.less s⟩
 | rl ws=>obtain ⟨vs,h1,h2⟩:=h; exact ⟨vs,h1,h2.less hc s⟩
 | ob c fs=>obtain ⟨C,dx,vs,h0,h1,h2⟩:=h; exact ⟨C,dx,vs,h0,h1,h2.less hc s⟩
theorem ZBY.has {a:Addr} {c:Cell} (h:ZBY K ρ H a c):∃ o,H a=some o:=by
 cases c with
 | pl ds=>obtain ⟨vs,h1,h2⟩:=h; exact ⟨_,h1⟩
 | rl ws=>obtain ⟨vs,h1,h2⟩:=h; exact ⟨_,h1⟩
 | ob c fs=>obtain ⟨C,dx,vs,h0,h1,h2⟩:=h; exact ⟨_,h1⟩
structure HR (K:PySem.W.Frag) (ρ : Rh) (H:Hp) (g:G):Prop where
 len : ρ.c.length=g.length
 nd : ρ.c.Nodup
 ce:∀ (n:Nat) (c:Cell),g[n]? = some c->∃ a,ρ.c[n]? = some a/\ZBY K ρ H a c
 hid:∀ a ∈ ρ.h,a ∉ ρ.c/\∃ o,H a=some o
theorem HR.at_ {g:G} (h:HR K ρ H g):∀ (n:Nat) (ds:List PyData),g[n]? = some (.pl ds)->∃ a vs,ρ.c[n]? = some a/\H a=some (.lst vs)/\RelDL K ρ H vs ds:=λ n ds e=>by
 obtain ⟨a,h1,vs,h2,h3⟩:=h.ce n _ e
 exact ⟨a,vs,h1,h2,h3⟩
theorem HR.has {g:G} (h:HR K ρ H g) {a:Addr} (ha:a ∈ ρ.c):∃ o,H a=some o:=by
 obtain ⟨n,hn⟩:=List.mem_iff_getElem?.mp ha
 have hl:=(List.getElem?_eq_some_iff.mp hn).1
 rw [h.len] at hl
 obtain ⟨a',e,hv⟩:=h.ce n _ (List.getElem?_eq_getElem hl)
 rw [hn] at e
 cases e
 exact hv.has
theorem HR.nin {g:G} (h:HR K ρ H g) {p:Addr} (hp:H p=none) : ¬ ρ.mem p:=λ z=>by
 rcases z with z | z
 ·obtain ⟨vs,e⟩:=h.has z
  rw [hp] at e
  cases e
 ·obtain ⟨_,o,e⟩:=h.hid _ z
  rw [hp] at e
  cases e
theorem HR.same {g:G} (s:Same H H') (h:HR K ρ H g):HR K ρ H' g:=⟨h.len,h.nd,λ n ds e=>by
 obtain ⟨a,h1,h2⟩:=h.ce n ds e
 obtain ⟨o,h3⟩:=h2.has
 exact ⟨a,h1,h2.mono (Stp.same s) (by rw [h3]; exact s _ _ h3)⟩,λ a z=>by
 obtain ⟨h1,o,e⟩:=h.hid a z
 exact ⟨h1,o,s _ _ e⟩⟩
def Rh.add (ρ : Rh) (p:Addr):Rh:=⟨ρ.c ++ [p],ρ.h⟩
theorem HR.allocC {g:G} (h:HR K ρ H g) {p:Addr} (hp:H p=none) {o:HO} {c:Cell} (t:Stp ρ H (ρ.add p) (upd H p o)->ZBY K (ρ.add p) (upd H p o) p c):HR K (ρ.add p) (upd H p o) (g ++ [c])/\Stp ρ H (ρ.add p) (upd H p o):=by
 have s:Stp ρ H (ρ.add p) (upd H p o):=⟨⟨[p],rfl⟩,rfl,λ a o e _=>by rw [Zb (Zf e hp)]; exact e,λ a z=>by
  rcases List.mem_append.mp z with z | z
  ·exact .inl z
  ·rw [List.mem_singleton.mp z]; exact .inr hp,λ a u e=>⟨u,by rw [Zb (Zf e hp)]; exact e,rfl⟩⟩
 refine ⟨⟨by show (ρ.c ++ [p]).length=_; rw [List.length_append,List.length_append,h.len]; rfl,?_,λ n d e=>?_,λ a z=>?_⟩,s⟩
 ·show (ρ.c ++ [p]).Nodup
  rw [List.nodup_append]
  refine ⟨h.nd,by simp,λ a ha b hb=>?_⟩
  rw [List.mem_singleton.mp hb]
  intro z
  rw [z] at ha
  exact h.nin hp (.inl ha)
 ·show ∃ a,(ρ.c ++ [p])[n]? = some a/\_
  by_cases hn:n < g.length
  ·rw [List.getElem?_append_left hn] at e
   obtain ⟨a,h1,h2⟩:=h.ce n d e
   obtain ⟨u,h3⟩:=h2.has
   exact ⟨a,by rw [List.getElem?_append_left (by rw [h.len]; exact hn)]; exact h1,h2.mono s (Zb (Zf h3 hp))⟩
  ·have hl:n < (g ++ [c]).length:=(List.getElem?_eq_some_iff.mp e).1
   have hn':n=g.length:=by rw [List.length_append] at hl; simp at hl; omega
   rw [hn',List.getElem?_append_right (Nat.le_refl _)] at e
   simp at e
   subst e
   refine ⟨p,?_,t s⟩
   rw [hn',← h.len,List.getElem?_append_right (Nat.le_refl _)]
   simp
 ·obtain ⟨h1,u,e⟩:=h.hid a z
  refine ⟨λ q=>?_,u,by rw [Zb (Zf e hp)]; exact e⟩
  rcases List.mem_append.mp q with q | q
  ·exact h1 q
  ·rw [List.mem_singleton.mp q] at e; rw [e] at hp; cases hp
theorem HR.alloc {g:G} (h:HR K ρ H g) {p:Addr} (hp:H p=none) {vs:List V} {ds:List PyData} (t:RelDL K ρ H vs ds):HR K (ρ.add p) (upd H p (.lst vs)) (g ++ [.pl ds])/\Stp ρ H (ρ.add p) (upd H p (.lst vs)):=h.allocC hp λ s=>⟨vs,Zo,t.mono s⟩
theorem HR.writeC {g:G} (h:HR K ρ H g) {n:Nat} {a:Addr} (ha : ρ.c[n]? = some a) {o:HO} {c:Cell} (hk:∀ u,H a=some u->kdO o=kdO u) (t:Stp ρ H ρ (upd H a o)->ZBY K ρ (upd H a o) a c):HR K ρ (upd H a o) (g.set n c)/\Stp ρ H ρ (upd H a o):=by
 have hm:a ∈ ρ.c:=List.mem_of_getElem? ha
 have s:Stp ρ H ρ (upd H a o):=⟨⟨[],(List.append_nil _).symm⟩,rfl,λ b o e nb=>by rw [Zb (λ z=>nb (by rw [z]; exact hm))]; exact e,λ _ z=>.inl z,λ b u e=>by
  by_cases q:b=a
  ·subst q; exact ⟨o,Zo,hk u e⟩
  ·exact ⟨u,by rw [Zb q]; exact e,rfl⟩⟩
 refine ⟨⟨by rw [List.length_set,h.len],h.nd,λ m d e=>?_,λ b z=>?_⟩,s⟩
 ·by_cases hnm:n=m
  ·subst hnm
   have hl:n < g.length:=by have:=(List.getElem?_eq_some_iff.mp e).1; rw [List.length_set] at this; exact this
   rw [List.getElem?_set_self hl] at e
   cases e
   exact ⟨a,ha,t s⟩
  ·rw [List.getElem?_set_ne hnm] at e
   obtain ⟨b,h1,h2⟩:=h.ce m d e
   have:b ≠ a:=λ z=>by
    rw [z] at h1
    have l1:=(List.getElem?_eq_some_iff.mp h1).1
    have e1:=(List.getElem?_eq_some_iff.mp h1).2
    have l2:=(List.getElem?_eq_some_iff.mp ha).1
    have e2:=(List.getElem?_eq_some_iff.mp ha).2
    rcases Nat.lt_or_gt_of_ne hnm with q | q
    ·exact (List.pairwise_iff_getElem.mp h.nd n m l2 l1 q) (by rw [e1,e2])
    ·exact (List.pairwise_iff_getElem.mp h.nd m n l1 l2 q) (by rw [e1,e2])
   exact ⟨b,h1,h2.mono s (Zb this)⟩
 ·obtain ⟨h1,u,e⟩:=h.hid b z
  exact ⟨h1,u,by rw [Zb (λ q=>h1 (by rw [q]; exact hm))]; exact e⟩
theorem HR.write {g:G} (h:HR K ρ H g) {n:Nat} {a:Addr} (ha : ρ.c[n]? = some a) {us:List V} (hl:H a=some (.lst us)) {vs:List V} {ds:List PyData} (t:RelDL K ρ H vs ds):HR K ρ (upd H a (.lst vs)) (g.set n (.pl ds))/\Stp ρ H ρ (upd H a (.lst vs)):=h.writeC ha (λ u e=>by rw [hl] at e; cases e; rfl) λ s=>⟨vs,Zo,t.mono s⟩
theorem ZCH {g:G} (h:HR K ρ H g) {p:Addr} {o:HO} (hp:H p=none):Same H (upd H p o)/\HR K ρ (upd H p o) g/\¬ ρ.mem p:=⟨H1.Same.upd hp,h.same (H1.Same.upd hp),h.nin hp⟩
def Rh.hide (ρ : Rh) (p:Addr):Rh:=⟨ρ.c,p :: ρ.h⟩
theorem FzL.hide {a p:Addr} {xs:List V} (hp:H p=none) (h:FzL K ρ H a xs):FzL K (ρ.hide p) (upd H p o) a xs:=by
 rcases h with ⟨h,n⟩ | h
 ·have hn:a ≠ p:=by
   rcases h with h | ⟨_,h⟩ <;> exact Zf h hp
  refine .inl ⟨?_,λ z=>z.elim (λ q=>n (.inl q)) λ q=>(List.mem_cons.mp q).elim hn λ q=>n (.inr q)⟩
  unfold Rd
  rw [Zb hn]
  exact h
 ·exact .inr h
theorem FzT.hide {a p:Addr} {xs:List V} (hp:H p=none) (h:FzT K ρ H a xs):FzT K (ρ.hide p) (upd H p o) a xs:=by
 rcases h with ⟨h,n⟩ | h
 ·have hn:a ≠ p:=by
   rcases h with h | ⟨_,h⟩ <;> exact Zf h hp
  refine .inl ⟨?_,λ z=>z.elim (λ q=>n (.inl q)) λ q=>(List.mem_cons.mp q).elim hn λ q=>n (.inr q)⟩
  unfold Rd
  rw [Zb hn]
  exact h
 ·exact .inr h
mutual
theorem RelD.hide {p:Addr} {o:HO} (hp:H p=none):∀ {v:V} {d:PyData},RelD K ρ H v d->RelD K (ρ.hide p) (upd H p o) v d
 | _,_,.non=>.non
 | _,_,.bl b=>.bl b
 | _,_,.int i=>.int i
 | _,_,.str x=>.str x
 | _,_,.tup h hl=>.tup (h.hide hp) (RelDL.hide hp hl)
 | _,_,.lst h n hl=>.lst (by rw [Zb (Zf h hp)]; exact h) (λ z=>z.elim (λ q=>n (.inl q)) λ q=>(List.mem_cons.mp q).elim (Zf h hp) λ q=>n (.inr q)) (RelDL.hide hp hl)
 | _,_,.dct h n=>.dct (by rw [Zb (Zf h hp)]; exact h) λ z=>z.elim (λ q=>n (.inl q)) λ q=>(List.mem_cons.mp q).elim (Zf h hp) λ q=>n (.inr q)
theorem RelDL.hide {p:Addr} {o:HO} (hp:H p=none):∀ {vs:List V} {ds:List PyData},RelDL K ρ H vs ds->RelDL K (ρ.hide p) (upd H p o) vs ds
 | _,_,.nil=>.nil
 | _,_,.cons h hl=>.cons (RelD.hide hp h) (RelDL.hide hp hl)
end
mutual
theorem Rel.hide {p:Addr} {o:HO} (hp:H p=none):∀ {v:V} {x:W},Rel K ρ H v x->Rel K (ρ.hide p) (upd H p o) v x
 | _,_,.dat h=>.dat (h.hide hp)
 | _,_,.ref h=>.ref h
 | _,_,.inp h=>.inp (h.hide hp)
 | _,_,.ty=>.ty
 | _,_,.tup h t=>.tup (h.hide hp) (RelL.hide hp t)
theorem RelL.hide {p:Addr} {o:HO} (hp:H p=none):∀ {vs:List V} {xs:List W},RelL K ρ H vs xs->RelL K (ρ.hide p) (upd H p o) vs xs
 | _,_,.nil=>.nil
 | _,_,.cons h t=>.cons (Rel.hide hp h) (RelL.hide hp t)
end
theorem RelF.hide {p:Addr} {o:HO} (hp:H p=none):∀ {ns:List Str} {vs:List (Str × V)} {xs:List W},RelF K ρ H ns vs xs->RelF K (ρ.hide p) (upd H p o) ns vs xs
 | _,_,_,.nil=>.nil
 | _,_,_,.cons h t=>.cons (h.hide hp) (t.hide hp)
theorem ZBY.hide {p:Addr} {o:HO} (hp:H p=none) {a:Addr} {c:Cell} (h:ZBY K ρ H a c):ZBY K (ρ.hide p) (upd H p o) a c:=by
 obtain ⟨u,hu⟩:=h.has
 have e:upd H p o a=H a:=Zb (Zf hu hp)
 cases c with
 | pl ds=>obtain ⟨vs,h1,h2⟩:=h; exact ⟨vs,by rw [e]; exact h1,h2.hide hp⟩
 | rl ws=>obtain ⟨vs,h1,h2⟩:=h; exact ⟨vs,by rw [e]; exact h1,h2.hide hp⟩
 | ob c fs=>obtain ⟨C,dx,vs,h0,h1,h2⟩:=h; exact ⟨C,dx,vs,h0,by rw [e]; exact h1,h2.hide hp⟩
theorem HR.hide {g:G} {p:Addr} {o:HO} (hp:H p=none) (h:HR K ρ H g):HR K (ρ.hide p) (upd H p o) g:=⟨h.len,h.nd,λ n ds e=>by
 obtain ⟨a,h1,h2⟩:=h.ce n ds e
 exact ⟨a,h1,h2.hide hp⟩,λ a z=>by
 rcases List.mem_cons.mp z with rfl | z
 ·exact ⟨λ q=>h.nin hp (.inl q),o,Zo⟩
 ·obtain ⟨h1,u,e⟩:=h.hid a z
  exact ⟨h1,u,by rw [Zb (Zf e hp)]; exact e⟩⟩
theorem FzL.grow {a p:Addr} {xs:List V} (hp:p ∈ ρ.h) (h:FzL K ρ H a xs):FzL K ρ (upd H p o) a xs:=by
 rcases h with ⟨h,n⟩ | h
 ·refine .inl ⟨?_,n⟩
  unfold Rd
  rw [Zb λ z=>n (.inr (by rw [z]; exact hp))]
  exact h
 ·exact .inr h
theorem FzT.grow {a p:Addr} {xs:List V} (hp:p ∈ ρ.h) (h:FzT K ρ H a xs):FzT K ρ (upd H p o) a xs:=by
 rcases h with ⟨h,n⟩ | h
 ·refine .inl ⟨?_,n⟩
  unfold Rd
  rw [Zb λ z=>n (.inr (by rw [z]; exact hp))]
  exact h
 ·exact .inr h
mutual
theorem RelD.grow {p:Addr} {o:HO} (hp:p ∈ ρ.h):∀ {v:V} {d:PyData},RelD K ρ H v d->RelD K ρ (upd H p o) v d
 | _,_,.non=>.non
 | _,_,.bl b=>.bl b
 | _,_,.int i=>.int i
 | _,_,.str x=>.str x
 | _,_,.tup h hl=>.tup (h.grow hp) (RelDL.grow hp hl)
 | _,_,.lst h n hl=>.lst (by rw [Zb λ z=>n (.inr (by rw [z]; exact hp))]; exact h) n (RelDL.grow hp hl)
 | _,_,.dct h n=>.dct (by rw [Zb λ z=>n (.inr (by rw [z]; exact hp))]; exact h) n
theorem RelDL.grow {p:Addr} {o:HO} (hp:p ∈ ρ.h):∀ {vs:List V} {ds:List PyData},RelDL K ρ H vs ds->RelDL K ρ (upd H p o) vs ds
 | _,_,.nil=>.nil
 | _,_,.cons h hl=>.cons (RelD.grow hp h) (RelDL.grow hp hl)
end
mutual
theorem Rel.grow {p:Addr} {o:HO} (hp:p ∈ ρ.h):∀ {v:V} {x:W},Rel K ρ H v x->Rel K ρ (upd H p o) v x
 | _,_,.dat h=>.dat (h.grow hp)
 | _,_,.ref h=>.ref h
 | _,_,.inp h=>.inp (h.grow hp)
 | _,_,.ty=>.ty
 | _,_,.tup h t=>.tup (h.grow hp) (RelL.grow hp t)
theorem RelL.grow {p:Addr} {o:HO} (hp:p ∈ ρ.h):∀ {vs:List V} {xs:List W},RelL K ρ H vs xs->RelL K ρ (upd H p o) vs xs
 | _,_,.nil=>.nil
 | _,_,.cons h t=>.cons (Rel.grow hp h) (RelL.grow hp t)
end
theorem RelF.grow {p:Addr} {o:HO} (hp:p ∈ ρ.h):∀ {ns:List Str} {vs:List (Str × V)} {xs:List W},RelF K ρ H ns vs xs->RelF K ρ (upd H p o) ns vs xs
 | _,_,_,.nil=>.nil
 | _,_,_,.cons h t=>.cons (h.grow hp) (t.grow hp)
theorem HR.grow {g:G} {p:Addr} {o:HO} (hp:p ∈ ρ.h) (h:HR K ρ H g):HR K ρ (upd H p o) g:=⟨h.len,h.nd,λ n ds e=>by
 obtain ⟨a,h1,h2⟩:=h.ce n ds e
 have eh:upd H p o a=H a:=Zb λ z=>(h.hid p hp).1 (by rw [← z]; exact List.mem_of_getElem? h1)
 refine ⟨a,h1,?_⟩
 cases ds with
 | pl ds=>obtain ⟨vs,h1,h2⟩:=h2; exact ⟨vs,by rw [eh]; exact h1,h2.grow hp⟩
 | rl ws=>obtain ⟨vs,h1,h2⟩:=h2; exact ⟨vs,by rw [eh]; exact h1,h2.grow hp⟩
 | ob c fs=>obtain ⟨C,dx,vs,h0,h1,h2⟩:=h2; exact ⟨C,dx,vs,h0,by rw [eh]; exact h1,h2.grow hp⟩,λ a z=>by
 obtain ⟨h1,u,e⟩:=h.hid a z
 by_cases q:a=p
 ·subst q; exact ⟨h1,o,Zo⟩
 ·exact ⟨h1,u,by rw [Zb q]; exact e⟩⟩
theorem HR.shown {g:G} {p:Addr} (h:HR K (ρ.hide p) H g):HR K ρ H g:=⟨h.len,h.nd,λ n ds e=>by
 obtain ⟨a,h1,h2⟩:=h.ce n ds e
 exact ⟨a,h1,h2.less (ρ':=ρ) (ρ:=ρ.hide p) rfl (λ _ z=>z.elim .inl λ q=>.inr (List.mem_cons_of_mem _ q))⟩,λ a z=>h.hid a (List.mem_cons_of_mem _ z)⟩
end
structure Rst (K:PySem.W.Frag) (ρ : Rh) (H:Hp) (σ : St) (sd:Sd) (g:G):Prop where
 len : σ.length=sd.length
 env:∀ (i:Nat) (x:W),sd[i]? = some (some x)->∃ v,σ[i]? = some (some v)/\Rel K ρ H v x
 hr:HR K ρ H g
theorem Rst.step {K:PySem.W.Frag} {ρ ρ':Rh} {H H':Hp} {σ : St} {sd:Sd} {g g':G} (r:Rst K ρ H σ sd g) (s:Stp ρ H ρ' H') (h:HR K ρ' H' g'):Rst K ρ' H' σ sd g':=⟨r.len,λ i x e=>by
 obtain ⟨v,h1,h2⟩:=r.env i x e
 exact ⟨v,h1,h2.mono s⟩,h⟩
theorem Rst.set {K:PySem.W.Frag} {ρ : Rh} {H:Hp} {σ : St} {sd:Sd} {g:G} (r:Rst K ρ H σ sd g) {v:V} {x:W} (t:Rel K ρ H v x) (i:Nat):Rst K ρ H (σ.set i (some v)) (sd.set i (some x)) g:=⟨by rw [List.length_set,List.length_set,r.len],λ j y e=>by
 by_cases hj:i=j
 ·subst hj
  have hl:i < sd.length:=by have:=(List.getElem?_eq_some_iff.mp e).1; rw [List.length_set] at this; exact this
  rw [List.getElem?_set_self hl] at e
  cases e
  exact ⟨v,by rw [List.getElem?_set_self (by rw [r.len]; exact hl)],t⟩
 ·rw [List.getElem?_set_ne hj] at e
  obtain ⟨u,h1,h2⟩:=r.env j y e
  exact ⟨u,by rw [List.getElem?_set_ne hj]; exact h1,h2⟩,r.hr⟩
abbrev DE:=Sd->G->Option (W × G)
abbrev DB:=Sd->G->Option (Bool × G)
abbrev DA:=Sd->G->Option (List W × G)
def Pv (K:PySem.W.Frag) (ρ : Rh) (H:Hp) (x:W) (g:G) (Q:VK):Prop:=∀ v H' ρ',Stp ρ H ρ' H'->HR K ρ' H' g->Rel K ρ' H' v x->Q v H'
theorem Pv.step {K:PySem.W.Frag} {ρ ρ':Rh} {H H':Hp} {x:W} {g:G} {Q:VK} (p:Pv K ρ H x g Q) (s:Stp ρ H ρ' H'):Pv K ρ' H' x g Q:=λ v H2 ρ2 s2 h r=>p v H2 ρ2 (s.trans s2) h r
def tE (K:PySem.W.Frag) (d:DE):TE:=λ σ H Q=>∃ ρ sd g x g',Rst K ρ H σ sd g/\d sd g=some (x,g')/\Pv K ρ H x g' Q
def tT (K:PySem.W.Frag) (d:DB):TT:=λ σ H Q=>∃ ρ sd g b g',Rst K ρ H σ sd g/\d sd g=some (b,g')/\∀ H' ρ',Stp ρ H ρ' H'->HR K ρ' H' g'->Q b H'
def tA (K:PySem.W.Frag) (d:DA):TA:=λ σ H Q=>∃ ρ sd g xs g',Rst K ρ H σ sd g/\d sd g=some (xs,g')/\∀ vs H' ρ',Stp ρ H ρ' H'->HR K ρ' H' g'->RelL K ρ' H' vs xs->Q vs H'
theorem PE.imp {X:Cx} {e:Expr} {t u:TE} (h:PE X e t) (k:∀ σ H Q,u σ H Q->t σ H Q):PE X e u:=λ pins s σ H Q I q=>h pins s σ H Q I (k σ H Q q)
theorem PT.imp {X:Cx} {e:Expr} {t u:TT} (h:PT X e t) (k:∀ σ H Q,u σ H Q->t σ H Q):PT X e u:=λ pins s σ H Q I q=>h pins s σ H Q I (k σ H Q q)
theorem PW.imp {X:Cx} {e:Expr} {t u:TT} (h:PW X e t) (k:∀ σ H Q,u σ H Q->t σ H Q):PW X e u:=λ wh pins s σ H Q I q=>h wh pins s σ H Q I (k σ H Q q)
theorem PA.imp {X:Cx} {e:List Expr} {t u:TA} (h:PA X e t) (k:∀ σ H Q,u σ H Q->t σ H Q):PA X e u:=λ pos pins s σ H Q I q=>h pos pins s σ H Q I (k σ H Q q)
theorem PS.imp {X:Cx} {e:Stmt} {t u:TS} (h:PS X e t) (k:∀ D σ H,u D σ H->t D σ H):PS X e u:=λ pins s σ H D I q=>h pins s σ H D I (k D σ H q)
theorem PSs.imp {X:Cx} {e:List Stmt} {t u:TS} (h:PSs X e t) (k:∀ D σ H,u D σ H->t D σ H):PSs X e u:=λ pins s σ H D I q=>h pins s σ H D I (k D σ H q)
theorem OpR.imp {X:Cx} {f:Value->Value->Sem Value} {r r':R2} (h:OpR X f r) (k:∀ x y H Q,r' x y H Q->r x y H Q):OpR X f r':=λ pins s σ H x y v u Q I rx ry q=>h pins s σ H x y v u Q I rx ry (k x y H Q q)
theorem ZAG.imp {X:Cx} {f:Value} {r r':List V->Hp->VK->Prop} (h:ZAG X f r) (k:∀ xs H Q,r' xs H Q->r xs H Q):ZAG X f r':=λ pins s σ H xs us Q I rx q=>h pins s σ H xs us Q I rx (k xs H Q q)
end L2
namespace L2
open PySem PySem.Spec PyProof.Rows H1
def ZD (i:Nat):DE:=λ sd g=>match sd.getD i none with | some x=>some (x,g) | none=>none
def dC (d:PyData):DE:=λ _ g=>some (.dat d,g)
def dOp (f:W->W->G->Option (W × G)) (da db:DE):DE:=λ sd g=>(da sd g).bind λ p=>(db sd p.2).bind λ q=>f p.1 q.1 q.2
def bW:W × G->Option (Bool × G)
 | (.dat (.bool b),g)=>some (b,g)
 | _=>none
def dB (d:DE):DB:=λ sd g=>(d sd g).bind bW
def ZHR (d:DB):DB:=λ sd g=>(d sd g).map λ p=>(!p.1,p.2)
def ZCK (d e:DB):DB:=λ sd g=>(d sd g).bind λ p=>if p.1=true then e sd p.2 else some (false,p.2)
def dOr (d e:DB):DB:=λ sd g=>(d sd g).bind λ p=>if p.1=true then some (true,p.2) else e sd p.2
def ZL:DA:=λ _ g=>some ([],g)
def ZC (d:DE) (a:DA):DA:=λ sd g=>(d sd g).bind λ p=>(a sd p.2).map λ q=>(p.1 :: q.1,q.2)
def dF (f:List W->G->Option (W × G)) (a:DA):DE:=λ sd g=>(a sd g).bind λ p=>f p.1 p.2
def ZLv:List W->Option (List PyData)
 | []=>some []
 | .dat d :: r=>(ZLv r).map λ ds=>d :: ds
 | _ :: _=>none
def Z7 (ws:List W) (g:G):Option (W × G):=(ZLv ws).bind λ ds=>if ds.length<=1000 then some (.dat (.tuple ds),g) else none
def ZEW (ws:List W) (g:G):Option (W × G):=(ZLv ws).bind λ ds=>if ds.length<=1000 then some (.dat (.list ds),g) else none
def ZCW (ws:List W) (g:G):Option (W × G):=(ZLv ws).bind λ ds=>if ds.length<=1000 then some (.ref g.length,g ++ [.pl ds]) else none
def rOp (K:PySem.W.Frag) (f:W->W->G->Option (W × G)):R2:=λ x y H Q=>∃ ρ a b g z g',HR K ρ H g/\Rel K ρ H x a/\Rel K ρ H y b/\f a b g=some (z,g')/\Pv K ρ H z g' Q
def rF (K:PySem.W.Frag) (f:List W->G->Option (W × G)):List V->Hp->VK->Prop:=λ xs H Q=>∃ ρ ws g z g',HR K ρ H g/\RelL K ρ H xs ws/\f ws g=some (z,g')/\Pv K ρ H z g' Q
theorem bnd {α β : Type} {o:Option α} {f : α->Option β} {y : β} (h:o.bind f=some y):∃ x,o=some x/\f x=some y:=by
 cases o with
 | none=>cases h
 | some x=>exact ⟨x,rfl,h⟩
theorem mp {α β : Type} {o:Option α} {f : α->β} {y : β} (h:o.map f=some y):∃ x,o=some x/\f x=y:=by
 cases o with
 | none=>cases h
 | some x=>exact ⟨x,rfl,Option.some.inj h⟩
theorem ZEP {K:PySem.W.Frag} {ρ : Rh} {H:Hp}:∀ {vs:List V} {ws:List W} {ds:List PyData},RelL K ρ H vs ws->ZLv ws=some ds->RelDL K ρ H vs ds
 | _,[],_,.nil,e=>by cases e; exact .nil
 | _,.dat d :: r,_,.cons (.dat h) t,e=>by
  obtain ⟨x,e1,rfl⟩:=mp e
  exact .cons h (ZEP t e1)
 | _,.ref _ :: _,_,.cons _ _,e=>by cases e
 | _,.inp _ :: _,_,.cons _ _,e=>by cases e
 | _,.ty _ :: _,_,.cons _ _,e=>by cases e
 | _,.tup _ :: _,_,.cons _ _,e=>by cases e
section
variable {X:Cx} {a b c e:Expr} {es:List Expr} {da db dc d:DE} {ta tb:DB} {aa:DA} {pos p2:Pos} {f f':W->W->G->Option (W × G)}
theorem ZPQ (i:Nat) {x:Str} {pos:Pos} (hN:X.N[i]? = some x:=by rfl) (hv:Vis X.env.scope x:=by first | exact Or.inl rfl | exact Or.inr (Or.inl rfl) | exact Or.inr (Or.inr rfl)) (hd:(x == ("__debug__" : Str))=false:=by decide)
  (hcd:(x == ("__classdict__" : Str))=false:=by decide):PE X (.Name x pos) (tE X.K (ZD i)):=(ZOK hN hv hd hcd).imp λ σ H Q ⟨ρ,sd,g,y,g',r,e,q⟩=>by
 unfold ZD at e
 cases h:sd.getD i none with
 | none=>rw [h] at e; cases e
 | some z =>
  rw [h] at e
  cases e
  have h':sd[i]? = some (some y):=by
   rw [List.getD_eq_getElem?_getD] at h
   cases k:sd[i]? with
   | none=>rw [k] at h; cases h
   | some w=>rw [k] at h; exact congrArg some h
  obtain ⟨v,h1,h2⟩:=r.env i y h'
  exact ⟨v,h1,q v H ρ .refl r.hr h2⟩
theorem ZKs {v:V} {d:PyData} (h:PE X e (tC v)) (r:∀ ρ H,RelD X.K ρ H v d):PE X e (tE X.K (dC d)):=h.imp λ σ H Q ⟨ρ,sd,g,y,g',hr,e,q⟩=>by
 cases e
 exact q v H ρ .refl hr.hr (.dat (r ρ H))
theorem ZO2 {i j pos}:PE X (.Constant (.int i) j pos) (tE X.K (dC (.int i))):=ZKs ZI5 λ _ _=>.int i
theorem de_bl {b j pos}:PE X (.Constant (.bool b) j pos) (tE X.K (dC (.bool b))):=ZKs pe_bl λ _ _=>.bl b
theorem ZOD {j pos}:PE X (.Constant .none j pos) (tE X.K (dC .none)):=ZKs ZOO λ _ _=>.non
theorem ZPd {x j pos}:PE X (.Constant (.str x) j pos) (tE X.K (dC (.str x))):=ZKs ZO6 λ _ _=>.str x
theorem ZKk {x:Str} {n:Int} (hg:Gl X x) (h:ZIp X.mg x n) (hd:(x == ("__debug__" : Str))=false:=by decide):PE X (.Name x pos) (tE X.K (dC (.int n))):=ZKs (ZLn hg h hd) λ _ _=>.int n
theorem ZJl {σ : St} {H:Hp} {Q:VK} (h:tE X.K (dOp f da db) σ H Q):tOp (rOp X.K f) (tE X.K da) (tE X.K db) σ H Q:=by
 obtain ⟨ρ,sd,g,x,g',r,e,q⟩:=h
 obtain ⟨⟨y,g1⟩,e1,e⟩:=bnd e
 obtain ⟨⟨z,g2⟩,e2,e⟩:=bnd e
 refine ⟨ρ,sd,g,y,g1,r,e1,λ v H1 ρ1 s1 h1 r1=>⟨ρ1,sd,g1,z,g2,r.step s1 h1,e2,λ w H2 ρ2 s2 h2 r2=>?_⟩⟩
 exact ⟨ρ2,y,z,g2,x,g',h2,r1.mono s2,r2,e,q.step (s1.trans s2)⟩
theorem de_op {op:Operator} (ho:OpR X (binaryOp op) (rOp X.K f)) (ha:PE X a (tE X.K da)) (hb:PE X b (tE X.K db)):PE X (.BinOp a op b pos) (tE X.K (dOp f da db)):=(ZNl ho ha hb).imp λ _ _ _ h=>ZJl h
theorem ZPM {op:CmpOp} (ho:OpR X (compareOp op) (rOp X.K f)) (ha:PE X a (tE X.K da)) (hb:PE X b (tE X.K db)) (hm:behindInMarks op b=false):PE X (.Compare a [op] [b] pos) (tE X.K (dOp f da db)):=(ZM1 ho ha hb hm).imp λ _ _ _ h=>ZJl h
theorem de_ix (ho:IxR X (rOp X.K f)) (ha:PE X a (tE X.K da)) (hb:PE X b (tE X.K db)) (hs:ZEL b):PE X (.Subscript a b pos) (tE X.K (dOp f da db)):=(ZNk ho ha hb hs).imp λ _ _ _ h=>ZJl h
theorem ZIx {K:PySem.W.Frag} {ρ : Rh} {H:Hp} {v:V} {x:W} {g g':G} {k:Bool} (r:Rel K ρ H v x) (h:bW (x,g)=some (k,g')):v=.bl k/\g=g':=by
 cases r with
 | ref _=>cases h
 | inp _=>cases h
 | ty=>cases h
 | tup _ _=>cases h
 | dat r =>
  cases r with
  | bl c=>cases h; exact ⟨rfl,rfl⟩
  | _=>cases h
theorem ZJg {σ : St} {H:Hp} {Q:Bool->Hp->Prop} {t:TE} (k:∀ σ H Q,tE X.K d σ H Q->t σ H Q) (h:tT X.K (dB d) σ H Q):ZNd t σ H Q:=by
 obtain ⟨ρ,sd,g,b,g',r,e,q⟩:=h
 obtain ⟨⟨y,g1⟩,e1,e⟩:=bnd e
 refine k _ _ _ ⟨ρ,sd,g,y,g1,r,e1,λ v H1 ρ1 s1 h1 r1=>?_⟩
 obtain ⟨rfl,rfl⟩:=ZIx r1 e
 exact ⟨b,rfl,q H1 ρ1 s1 h1⟩
theorem ZOE {op:CmpOp} (ho:OpR X (compareOp op) (rOp X.K f)) (ha:PE X a (tE X.K da)) (hb:PE X b (tE X.K db)) (hm:behindInMarks op b=false):PT X (.Compare a [op] [b] pos) (tT X.K (dB (dOp f da db))):=(ZM9 ho ha hb hm).imp λ _ _ _ h=>ZJg (λ _ _ _ h=>ZJl h) h
theorem ZPF (h:PE X e (tE X.K d)) (he:∀ whole,isTrue e X.env whole=(do let v ← whole; standAt e.pos; holding [v] (truthy v)):=by intro _; rfl):PT X e (tT X.K (dB d)):=(ZOy h he).imp λ _ _ _ h=>ZJg (λ _ _ _ h=>h) h
theorem ZPB (h:PT X a (tT X.K ta)):PT X (.UnaryOp .Not a pos) (tT X.K (ZHR ta)):=(ZPc h).imp λ σ H Q ⟨ρ,sd,g,b,g',r,e,q⟩=>by
 obtain ⟨⟨y,g1⟩,e1,e⟩:=mp e
 cases e
 exact ⟨ρ,sd,g,y,g1,r,e1,q⟩
theorem ZMe (h:PT X a (tT X.K ta)):PW X (.BoolOp .And [a] pos) (tT X.K ta):=ZNA h
theorem ZPK (h:PT X a (tT X.K ta)):PW X (.BoolOp .Or [a] pos) (tT X.K ta):=ZOd h
theorem ZO1 {rest:List Expr} (ha:PT X a (tT X.K ta)) (hb:PW X (.BoolOp .And (b :: rest) pos) (tT X.K tb)):PW X (.BoolOp .And (a :: b :: rest) pos) (tT X.K (ZCK ta tb)):=(ZOP ha hb).imp λ σ H Q ⟨ρ,sd,g,b,g',r,e,q⟩=>by
 obtain ⟨⟨y,g1⟩,e1,e⟩:=bnd e
 refine ⟨ρ,sd,g,y,g1,r,e1,λ H1 ρ1 s1 h1=>?_⟩
 cases y with
 | true=>exact ⟨ρ1,sd,g1,b,g',r.step s1 h1,e,λ H2 ρ2 s2 h2=>q H2 ρ2 (s1.trans s2) h2⟩
 | false=>cases e; exact q H1 ρ1 s1 h1
theorem dw_or {rest:List Expr} (ha:PT X a (tT X.K ta)) (hb:PW X (.BoolOp .Or (b :: rest) pos) (tT X.K tb)):PW X (.BoolOp .Or (a :: b :: rest) pos) (tT X.K (dOr ta tb)):=(pw_or ha hb).imp λ σ H Q ⟨ρ,sd,g,b,g',r,e,q⟩=>by
 obtain ⟨⟨y,g1⟩,e1,e⟩:=bnd e
 refine ⟨ρ,sd,g,y,g1,r,e1,λ H1 ρ1 s1 h1=>?_⟩
 cases y with
 | false=>exact ⟨ρ1,sd,g1,b,g',r.step s1 h1,e,λ H2 ρ2 s2 h2=>q H2 ρ2 (s1.trans s2) h2⟩
 | true=>cases e; exact q H1 ρ1 s1 h1
def ZEa (a b:DE):DE:=λ sd g=>((a sd g).bind bW).bind λ p=>if p.1=true then b sd p.2 else some (.dat (.bool false),p.2)
def ZIC (a b:DE):DE:=λ sd g=>((a sd g).bind bW).bind λ p=>if p.1=true then some (.dat (.bool true),p.2) else b sd p.2
theorem ZOS {op} (h:PE X a (tE X.K da)):PE X (.BoolOp op [a] pos) (tE X.K da):=ZOn h
theorem ZN3 {rest:List Expr} (ha:PE X a (tE X.K da)) (hb:PE X (.BoolOp .And (b :: rest) pos) (tE X.K db)):PE X (.BoolOp .And (a :: b :: rest) pos) (tE X.K (ZEa da db)):=(ZO4 ha hb).imp λ σ H Q ⟨ρ,sd,g,x,g',r,e,q⟩=>by
 obtain ⟨⟨k,g2⟩,e1,e⟩:=bnd e
 obtain ⟨⟨y,g1⟩,e1,e2⟩:=bnd e1
 refine ⟨ρ,sd,g,y,g1,r,e1,λ v H1 ρ1 s1 h1 r1=>?_⟩
 obtain ⟨rfl,rfl⟩:=ZIx r1 e2
 refine ⟨k,rfl,?_⟩
 cases k with
 | true=>exact ⟨ρ1,sd,g1,x,g',r.step s1 h1,e,q.step s1⟩
 | false=>cases e; exact q _ H1 ρ1 s1 h1 (.dat (.bl false))
theorem de_or {rest:List Expr} (ha:PE X a (tE X.K da)) (hb:PE X (.BoolOp .Or (b :: rest) pos) (tE X.K db)):PE X (.BoolOp .Or (a :: b :: rest) pos) (tE X.K (ZIC da db)):=(pe_or ha hb).imp λ σ H Q ⟨ρ,sd,g,x,g',r,e,q⟩=>by
 obtain ⟨⟨k,g2⟩,e1,e⟩:=bnd e
 obtain ⟨⟨y,g1⟩,e1,e2⟩:=bnd e1
 refine ⟨ρ,sd,g,y,g1,r,e1,λ v H1 ρ1 s1 h1 r1=>?_⟩
 obtain ⟨rfl,rfl⟩:=ZIx r1 e2
 refine ⟨k,rfl,?_⟩
 cases k with
 | false=>exact ⟨ρ1,sd,g1,x,g',r.step s1 h1,e,q.step s1⟩
 | true=>cases e; exact q _ H1 ρ1 s1 h1 (.dat (.bl true))
theorem ZIa:PA X [] (tA X.K ZL):=ZI9.imp λ σ H Q ⟨ρ,sd,g,xs,g',r,e,q⟩=>by
 cases e
 exact q [] H ρ .refl r.hr .nil
theorem ZHC (ha:PE X e (tE X.K d)) (hr:PA X es (tA X.K aa)) (hs:starEach (e :: es) X.env=(false,eval e X.env) :: starEach es X.env:=by rfl):PA X (e :: es) (tA X.K (ZC d aa)):=(ZHI ha hr hs).imp λ σ H Q ⟨ρ,sd,g,xs,g',r,e,q⟩=>by
 obtain ⟨⟨y,g1⟩,e1,e⟩:=bnd e
 obtain ⟨⟨ys,g2⟩,e2,e⟩:=mp e
 cases e
 exact ⟨ρ,sd,g,y,g1,r,e1,λ v H1 ρ1 s1 h1 r1=>⟨ρ1,sd,g1,ys,g2,r.step s1 h1,e2,λ vs H2 ρ2 s2 h2 r2=>q (v :: vs) H2 ρ2 (s1.trans s2) h2 (.cons (r1.mono s2) r2)⟩⟩
theorem ZOc {x1} (h:PA X es (tA X.K aa)):PE X (.Tuple es x1 pos) (tE X.K (dF Z7 aa)):=(ZPZ h).imp λ σ H Q ⟨ρ,sd,g,x,g',r,e,q⟩=>by
 obtain ⟨⟨ws,g1⟩,e1,e⟩:=bnd e
 refine ⟨ρ,sd,g,ws,g1,r,e1,λ vs H1 ρ1 s1 h1 r1=>?_⟩
 obtain ⟨ds,e2,e⟩:=bnd e
 have rd:=ZEP r1 e2
 by_cases hz:ds.length<=1000
 ·simp only [if_pos hz] at e
  cases e
  refine ⟨by rw [rd.length]; exact Nat.le_of_lt (Z0 hz),λ p hp=>?_⟩
  obtain ⟨sm,hr2,hn⟩:=ZCH (o:=.tup vs) h1 hp
  exact q _ _ ρ1 (s1.trans (.same sm)) hr2 (.dat (.tup (.inl ⟨.inl Zo,hn⟩) (rd.mono (.same sm))))
 ·simp only [if_neg hz] at e
  cases e
theorem ZOF (h:PA X es (tA X.K aa)):PE X (.List es pos) (tE X.K (dF ZEW aa)):=(ZJL h).imp λ σ H Q ⟨ρ,sd,g,x,g',r,e,q⟩=>by
 obtain ⟨⟨ws,g1⟩,e1,e⟩:=bnd e
 refine ⟨ρ,sd,g,ws,g1,r,e1,λ vs H1 ρ1 s1 h1 r1=>?_⟩
 obtain ⟨ds,e2,e⟩:=bnd e
 have rd:=ZEP r1 e2
 by_cases hz:ds.length<=1000
 ·simp only [if_pos hz] at e
  cases e
  refine ⟨by rw [rd.length]; exact Nat.le_of_lt (Z0 hz),λ p hp=>?_⟩
  obtain ⟨sm,hr2,hn⟩:=ZCH (o:=.lst vs) h1 hp
  exact q _ _ ρ1 (s1.trans (.same sm)) hr2 (.dat (.lst Zo hn (rd.mono (.same sm))))
 ·simp only [if_neg hz] at e
  cases e
theorem ZNF (h:PA X es (tA X.K aa)):PE X (.List es pos) (tE X.K (dF ZCW aa)):=(ZJL h).imp λ σ H Q ⟨ρ,sd,g,x,g',r,e,q⟩=>by
 obtain ⟨⟨ws,g1⟩,e1,e⟩:=bnd e
 refine ⟨ρ,sd,g,ws,g1,r,e1,λ vs H1 ρ1 s1 h1 r1=>?_⟩
 obtain ⟨ds,e2,e⟩:=bnd e
 have rd:=ZEP r1 e2
 by_cases hz:ds.length<=1000
 ·simp only [if_pos hz] at e
  cases e
  refine ⟨by rw [rd.length]; exact Nat.le_of_lt (Z0 hz),λ p hp=>?_⟩
  obtain ⟨hr2,st⟩:=h1.alloc hp rd
  exact q _ _ _ (s1.trans st) hr2 (.ref (by show (ρ1.c ++ [p])[_]? = _; rw [← h1.len]; simp))
 ·simp only [if_neg hz] at e
  cases e
theorem ZPj {fn:List W->G->Option (W × G)} {σ : St} {H:Hp} {Q:VK} (h:tE X.K (dF fn aa) σ H Q):tA X.K aa σ H λ vs H1=>rF X.K fn vs H1 Q:=by
 obtain ⟨ρ,sd,g,x,g',r,e,q⟩:=h
 obtain ⟨⟨ws,g1⟩,e1,e⟩:=bnd e
 exact ⟨ρ,sd,g,ws,g1,r,e1,λ vs H1 ρ1 s1 h1 r1=>⟨ρ1,ws,g1,x,g',h1,r1,e,q.step s1⟩⟩
end
end L2
namespace L2
open PySem PySem.Spec PyProof.Rows H1
section
variable {X:Cx} {x:Str} {p pos:Pos} {e:Expr} {es:List Expr} {aa:DA} {id T:String} {fn:List W->G->Option (W × G)}
theorem ZL3 (hc:ZAG X (.builtin id) (rF X.K fn)) (hg:Gl X x) (hm:X.mg x=none) (hv:bootBuiltins x=some (.builtin id)) (ha:PA X (e :: es) (tA X.K aa)) (hn:x ≠ "__name__":=by decide) (hdb:(x == ("__debug__" : Str))=false:=by decide)
  (he:starEach (e :: es) X.env=(false,eval e X.env) :: starEach es X.env:=by rfl) (hpl:(backTo pos (starEach es X.env)).any (·.1)=false:=by rfl):PE X (.Call (.Name x p) (e :: es) [] pos) (tE X.K (dF fn aa)):=(ZLF hc hg hm hv ha hn hdb he hpl).imp λ _ _ _ h=>ZPj h
theorem ZJq (hc:ZAG X (.type T) (rF X.K fn)) (hg:Gl X x) (hm:X.mg x=none) (hv:bootBuiltins x=some (.type T)) (ha:PA X (e :: es) (tA X.K aa)) (hn:x ≠ "__name__":=by decide) (hdb:(x == ("__debug__" : Str))=false:=by decide)
  (he:starEach (e :: es) X.env=(false,eval e X.env) :: starEach es X.env:=by rfl) (hpl:(backTo pos (starEach es X.env)).any (·.1)=false:=by rfl):PE X (.Call (.Name x p) (e :: es) [] pos) (tE X.K (dF fn aa)):=(ZEu hc hg hm hv ha hn hdb he hpl).imp λ _ _ _ h=>ZPj h
def spD (K:PySem.W.Frag) (n:Nat) (fn:List W->G->Option (W × G)):Sp:=λ vs H Q _=>vs.length=n/\rF K fn vs H Q
inductive Many:DA->Nat->Prop
 | nil:Many ZL 0
 | cons {d:DE} {a:DA} {n:Nat}:Many a n->Many (ZC d a) (n+1)
theorem Many.len {a:DA} {n:Nat} (m:Many a n):∀ {sd:Sd} {g g':G} {ws:List W},a sd g=some (ws,g')->ws.length=n:=by
 induction m with
 | nil=>intro sd g g' ws e; cases e; rfl
 | cons m ih =>
  intro sd g g' ws e
  obtain ⟨⟨y,g1⟩,e1,e⟩:=bnd e
  obtain ⟨⟨ys,g2⟩,e2,e⟩:=mp e
  cases e
  rw [List.length_cons,ih e2]
theorem ZMV {st:Stmt} {ps:List Str} {f:Addr} {fd:FuncData} {k n:Nat} (D:Def X.K X.mg x st ps f fd) (F:FnOk X.prog X.w X.K X.mg X.base CX0 k f fd ps (spD X.K n fn)) (hr:Room k X.A)
  (ha:PA X (e :: es) (tA X.K aa)) (hm:Many aa n) (hg:Gl X x:=by rfl) (hdb:(x == ("__debug__" : Str))=false:=by decide) (he:starEach (e :: es) X.env=(false,eval e X.env) :: starEach es X.env:=by rfl) (hpl:(backTo pos (starEach es X.env)).any (·.1)=false:=by rfl) :
  PE X (.Call (.Name x p) (e :: es) [] pos) (tE X.K (dF fn aa)):=(pcall D F hr ha hg hdb he hpl).imp λ σ H Q h=>by
 obtain ⟨ρ,sd,g,x,g',r,e,q⟩:=h
 obtain ⟨⟨ws,g1⟩,e1,e⟩:=bnd e
 refine ⟨ρ,sd,g,ws,g1,r,e1,λ vs H1 ρ1 s1 h1 r1=>?_⟩
 show spD X.K n fn (vs ++ []) H1 Q E0
 rw [List.append_nil]
 exact ⟨by rw [r1.length]; exact hm.len e1,ρ1,ws,g1,x,g',h1,r1,e,q.step s1⟩
end
mutual
inductive Pat where
 | nm (i:Nat)
 | tp (ps:Pats)
inductive Pats where
 | nil
 | cons (p:Pat) (r:Pats)
end
def Pats.len:Pats->Nat
 | .nil=>0
 | .cons _ r=>r.len+1
mutual
def Pat.all (f:Nat->Bool):Pat->Bool
 | .nm i=>f i
 | .tp ps=>ps.all f
def Pats.all (f:Nat->Bool):Pats->Bool
 | .nil=>true
 | .cons p r=>p.all f && r.all f
end
mutual
def gP (K:PySem.W.Frag):Pat->TG
 | .nm i=>ZH9 i
 | .tp ps=>ZPh K ps.len (gPs K ps)
def gPs (K:PySem.W.Frag):Pats->TGs
 | .nil=>ZPg
 | .cons p r=>ZNg (gP K p) (gPs K r)
end
mutual
def Zr:Pat->W->Sd->Option Sd
 | .nm i,x,sd=>some (sd.set i (some x))
 | .tp ps,.dat (.tuple ds),sd=>ZCI ps ds sd
 | .tp ps,.tup ws,sd=>ZBS ps ws sd
 | .tp _,_,_=>none
def ZBS:Pats->List W->Sd->Option Sd
 | .nil,[],sd=>some sd
 | .cons p r,d :: ds,sd=>(Zr p d sd).bind λ sd'=>ZBS r ds sd'
 | _,_,_=>none
def ZCI:Pats->List PyData->Sd->Option Sd
 | .nil,[],sd=>some sd
 | .cons p r,d :: ds,sd=>(Zr p (.dat d) sd).bind λ sd'=>ZCI r ds sd'
 | _,_,_=>none
end
def ZHh (f:Nat->Bool) (σ σ':St):Prop:=σ.length = σ'.length/\∀ i,f i=false->σ'[i]? = σ[i]?
theorem ZHh.refl {f:Nat->Bool} {σ : St}:ZHh f σ σ:=⟨rfl,λ _ _=>rfl⟩
theorem ZHh.trans {f:Nat->Bool} {σ σ1 σ2:St} (h:ZHh f σ σ1) (k:ZHh f σ1 σ2):ZHh f σ σ2:=⟨h.1.trans k.1,λ i e=>(k.2 i e).trans (h.2 i e)⟩
mutual
theorem ZIO {K:PySem.W.Frag} {ρ : Rh} {H:Hp} {g:G} {f:Nat->Bool}:∀ {p:Pat} {x:W} {sd sd':Sd} {σ : St} {v:V} {Q:St->Hp->Prop},p.all f=true->Zr p x sd=some sd'->Rst K ρ H σ sd g->Rel K ρ H v x->(∀ σ',Rst K ρ H σ' sd' g->ZHh f σ σ'->Q σ' H)->gP K p v σ H Q
 | .nm i,x,sd,sd',σ,v,Q,hf,e,r,rv,q=>by
  rw [Zr] at e
  cases e
  rw [gP]
  refine q _ (r.set rv i) ⟨by rw [List.length_set],λ j hj=>?_⟩
  have:i ≠ j:=λ z=>by rw [Pat.all,z,hj] at hf; cases hf
  rw [List.getElem?_set_ne this]
 | .tp ps,.dat (.tuple ds),sd,sd',σ,_,Q,hf,e,r,.dat (.tup h hl),q=>by
  rw [Zr] at e
  rw [Pat.all] at hf
  rw [gP]
  exact ⟨_,_,rfl,h.sq,hl.length.trans (ZF8 e),ZLj hf e r hl q⟩
 | .tp ps,.tup ws,sd,sd',σ,_,Q,hf,e,r,.tup h hl,q=>by
  rw [Zr] at e
  rw [Pat.all] at hf
  rw [gP]
  exact ⟨_,_,rfl,h.sq,hl.length.trans (ZE9 e),ZJT hf e r hl q⟩
 | .tp _,.dat .none,_,_,_,_,_,_,e,_,_,_=>by simp [Zr] at e
 | .tp _,.dat (.bool _),_,_,_,_,_,_,e,_,_,_=>by simp [Zr] at e
 | .tp _,.dat (.int _),_,_,_,_,_,_,e,_,_,_=>by simp [Zr] at e
 | .tp _,.dat (.str _),_,_,_,_,_,_,e,_,_,_=>by simp [Zr] at e
 | .tp _,.dat (.list _),_,_,_,_,_,_,e,_,_,_=>by simp [Zr] at e
 | .tp _,.dat (.dict _),_,_,_,_,_,_,e,_,_,_=>by simp [Zr] at e
 | .tp _,.ref _,_,_,_,_,_,_,e,_,_,_=>by simp [Zr] at e
 | .tp _,.inp _,_,_,_,_,_,_,e,_,_,_=>by simp [Zr] at e
 | .tp _,.ty _,_,_,_,_,_,_,e,_,_,_=>by simp [Zr] at e
theorem ZLj {K:PySem.W.Frag} {ρ : Rh} {H:Hp} {g:G} {f:Nat->Bool}:∀ {ps:Pats} {ds:List PyData} {sd sd':Sd} {σ : St} {vs:List V} {Q:St->Hp->Prop},ps.all f=true->ZCI ps ds sd=some sd'->Rst K ρ H σ sd g->RelDL K ρ H vs ds->(∀ σ',Rst K ρ H σ' sd' g->ZHh f σ σ'->Q σ' H)->gPs K ps vs σ H Q
 | .nil,[],sd,sd',σ,_,Q,hf,e,r,.nil,q=>by
  rw [ZCI] at e
  cases e
  rw [gPs]
  exact ⟨rfl,q _ r .refl⟩
 | .cons p ps,d :: ds,sd,sd',σ,_,Q,hf,e,r,.cons (x:=v) (xs:=vs) h t,q=>by
  rw [ZCI] at e
  obtain ⟨sd1,e1,e⟩:=bnd e
  rw [Pats.all,Bool.and_eq_true] at hf
  rw [gPs]
  exact ⟨v,vs,rfl,ZIO hf.1 e1 r (.dat h) λ σ1 r1 k1=>ZLj hf.2 e r1 t λ σ2 r2 k2=>q σ2 r2 (k1.trans k2)⟩
 | .nil,_ :: _,_,_,_,_,_,_,e,_,_,_=>by simp [ZCI] at e
 | .cons _ _,[],_,_,_,_,_,_,e,_,_,_=>by simp [ZCI] at e
theorem ZJT {K:PySem.W.Frag} {ρ : Rh} {H:Hp} {g:G} {f:Nat->Bool}:∀ {ps:Pats} {ds:List W} {sd sd':Sd} {σ : St} {vs:List V} {Q:St->Hp->Prop},ps.all f=true->ZBS ps ds sd=some sd'->Rst K ρ H σ sd g->RelL K ρ H vs ds->(∀ σ',Rst K ρ H σ' sd' g->ZHh f σ σ'->Q σ' H)->gPs K ps vs σ H Q
 | .nil,[],sd,sd',σ,_,Q,hf,e,r,.nil,q=>by
  rw [ZBS] at e
  cases e
  rw [gPs]
  exact ⟨rfl,q _ r .refl⟩
 | .cons p ps,d :: ds,sd,sd',σ,_,Q,hf,e,r,.cons (v:=v) (vs:=vs) h t,q=>by
  rw [ZBS] at e
  obtain ⟨sd1,e1,e⟩:=bnd e
  rw [Pats.all,Bool.and_eq_true] at hf
  rw [gPs]
  exact ⟨v,vs,rfl,ZIO hf.1 e1 r h λ σ1 r1 k1=>ZJT hf.2 e r1 t λ σ2 r2 k2=>q σ2 r2 (k1.trans k2)⟩
 | .nil,_ :: _,_,_,_,_,_,_,e,_,_,_=>by simp [ZBS] at e
 | .cons _ _,[],_,_,_,_,_,_,e,_,_,_=>by simp [ZBS] at e
theorem ZE9:∀ {ps:Pats} {ds:List W} {sd sd':Sd},ZBS ps ds sd=some sd'->ds.length=ps.len
 | .nil,[],_,_,_=>rfl
 | .cons p ps,d :: ds,sd,sd',e=>by
  rw [ZBS] at e
  obtain ⟨sd1,e1,e⟩:=bnd e
  rw [List.length_cons,ZE9 e,Pats.len]
 | .nil,_ :: _,_,_,e=>by simp [ZBS] at e
 | .cons _ _,[],_,_,e=>by simp [ZBS] at e
theorem ZF8:∀ {ps:Pats} {ds:List PyData} {sd sd':Sd},ZCI ps ds sd=some sd'->ds.length=ps.len
 | .nil,[],_,_,_=>rfl
 | .cons p ps,d :: ds,sd,sd',e=>by
  rw [ZCI] at e
  obtain ⟨sd1,e1,e⟩:=bnd e
  rw [List.length_cons,ZF8 e,Pats.len]
 | .nil,_ :: _,_,_,e=>by simp [ZCI] at e
 | .cons _ _,[],_,_,e=>by simp [ZCI] at e
end
section
variable {X:Cx} {pos:Pos}
theorem dg_nm {i:Nat} {x:Str} (hN:X.N.Nodup) (hi:X.N[i]? = some x) (hx:Loc X.env.scope x) (hf:X.fn x=true ∨ X.env.scope.names.lookup x=some .local:=by first | exact .inl rfl | exact .inr rfl | assumption):PG X (.Name x pos) (gP X.K (.nm i)):=by
 rw [gP]
 exact ZNT hN hi hx hf
theorem dg_tp {es:List Expr} {k:Nat} {ps:Pats} (hc:X.calm=true) (h:PGs X es (gPs X.K ps)) (hn:(assignEach es X.env).length=ps.len:=by rfl) (hst:(assignEach es X.env).findIdx? (·.1)=none:=by rfl):PG X (.Tuple es k pos) (gP X.K (.tp ps)):=by
 rw [gP]
 exact ZPb hc h hn hst
theorem ZPL:PGs X [] (gPs X.K .nil):=by
 rw [gPs]
 exact ZMp
theorem ZMy {e:Expr} {es:List Expr} {p:Pat} {ps:Pats} (h1:PG X e (gP X.K p)) (h2:PGs X es (gPs X.K ps)) (hs:(assignEach (e :: es) X.env).map (·.2)=assign e X.env :: (assignEach es X.env).map (·.2):=by rfl):PGs X (e :: es) (gPs X.K (.cons p ps)):=by
 rw [gPs]
 exact ZKh h1 h2 hs
end
inductive Out where
 | nx (sd:Sd) (g:G)
 | rt (x:W) (g:G)
 | bk (sd:Sd) (g:G)
 | ct (sd:Sd) (g:G)
abbrev DS:=Sd->G->Option Out
def ZGo (K:PySem.W.Frag) (ρ : Rh) (H:Hp) (E:Ends):Out->Prop
 | .nx sd g=>∀ σ' H' ρ',Stp ρ H ρ' H'->Rst K ρ' H' σ' sd g->E.nx σ' H'
 | .rt x g=>Pv K ρ H x g E.rt
 | .bk sd g=>∀ σ' H' ρ',Stp ρ H ρ' H'->Rst K ρ' H' σ' sd g->E.bk σ' H'
 | .ct sd g=>∀ σ' H' ρ',Stp ρ H ρ' H'->Rst K ρ' H' σ' sd g->E.ct σ' H'
theorem ZGo.step {K:PySem.W.Frag} {ρ ρ':Rh} {H H':Hp} {E:Ends} {o:Out} (h:ZGo K ρ H E o) (s:Stp ρ H ρ' H'):ZGo K ρ' H' E o:=by
 cases o with
 | nx sd g=>exact λ σ2 H2 ρ2 s2 r=>h σ2 H2 ρ2 (s.trans s2) r
 | rt x g=>exact Pv.step h s
 | bk sd g=>exact λ σ2 H2 ρ2 s2 r=>h σ2 H2 ρ2 (s.trans s2) r
 | ct sd g=>exact λ σ2 H2 ρ2 s2 r=>h σ2 H2 ρ2 (s.trans s2) r
def tS (K:PySem.W.Frag) (d:DS):TS:=λ E σ H=>∃ ρ sd g o,Rst K ρ H σ sd g/\d sd g=some o/\ZGo K ρ H E o
def dNx:DS:=λ sd g=>some (.nx sd g)
def ZP (a b:DS):DS:=λ sd g=>(a sd g).bind λ o=>match o with | .nx sd' g'=>b sd' g' | o=>some o
def Zq (i:Nat) (d:DE):DS:=λ sd g=>(d sd g).bind λ p=>some (.nx (sd.set i (some p.1)) p.2)
def ZAv (pt:Pat) (d:DE):DS:=λ sd g=>(d sd g).bind λ p=>(Zr pt p.1 sd).map λ sd'=>.nx sd' p.2
def Zd (d:DE):DS:=λ sd g=>(d sd g).map λ p=>.rt p.1 p.2
def ZAx (d:DE):DS:=λ sd g=>(d sd g).map λ p=>.nx sd p.2
def ZAE (c:DB) (a b:DS):DS:=λ sd g=>(c sd g).bind λ p=>if p.1=true then a sd p.2 else b sd p.2
section
variable {X:Cx} {pos:Pos} {st:Stmt} {rest ss:List Stmt} {a b:DS} {d:DE} {e c:Expr} {tc:DB}
theorem ZMF:PSs X [] (tS X.K dNx):=ZM6.imp λ D σ H ⟨ρ,sd,g,o,r,e,q⟩=>by
 cases e
 exact q σ H ρ .refl r
theorem ZNM (h:PS X st (tS X.K a)):PSs X [st] (tS X.K a):=ZMO h
theorem ZKf (h1:PS X st (tS X.K a)) (h2:PSs X rest (tS X.K b)):PSs X (st :: rest) (tS X.K (ZP a b)):=(ZLp h1 h2).imp λ D σ H ⟨ρ,sd,g,o,r,e,q⟩=>by
 obtain ⟨o1,e1,e⟩:=bnd e
 refine ⟨ρ,sd,g,o1,r,e1,?_⟩
 cases o1 with
 | nx sd1 g1=>exact λ σ1 H1 ρ1 s1 r1=>⟨ρ1,sd1,g1,o,r1,e,q.step s1⟩
 | rt x g1=>cases e; exact q
 | bk _ _=>cases e; exact q
 | ct _ _=>cases e; exact q
theorem ZPY {i:Nat} {x:Str} {pos':Pos} (hN:X.N.Nodup) (hi:X.N[i]? = some x) (hx:Loc X.env.scope x) (he:PE X e (tE X.K d)) (hs:swapsWith e (some (.Name x pos')) pos.line X.env=pure false:=by rfl) (hf:X.fn x=true ∨ X.env.scope.names.lookup x=some .local:=by first | exact .inl rfl | exact .inr rfl | assumption) :
  PS X (.Assign [.Name x pos'] e pos) (tS X.K (Zq i d)):=(ZOx hN hi hx he hs hf).imp λ D σ H ⟨ρ,sd,g,o,r,e,q⟩=>by
 obtain ⟨⟨y,g1⟩,e1,e⟩:=bnd e
 cases e
 exact ⟨ρ,sd,g,y,g1,r,e1,λ v H1 ρ1 s1 h1 r1=>q _ H1 ρ1 s1 ((r.step s1 h1).set r1 i)⟩
theorem ZNy {tg:Expr} {pt:Pat} (he:PE X e (tE X.K d)) (hg:PG X tg (gP X.K pt)) (hs:swapsWithSole [tg] e pos.line X.env=pure false:=by rfl) (hw:swappedStores [tg] e X.env=pure none:=by rfl)
  (h1:(assignEach [tg] X.env).map (·.2)=[assign tg X.env]:=by rfl):PS X (.Assign [tg] e pos) (tS X.K (ZAv pt d)):=(ZLl he hg hs hw h1).imp λ D σ H ⟨ρ,sd,g,o,r,e,q⟩=>by
 obtain ⟨⟨y,g1⟩,e1,e⟩:=bnd e
 obtain ⟨sd1,e2,e⟩:=mp e
 cases e
 refine ⟨ρ,sd,g,y,g1,r,e1,λ v H1 ρ1 s1 h1 r1=>ZIO (f:=λ _=>true) ?_ e2 (r.step s1 h1) r1 λ σ2 r2 _=>q _ H1 ρ1 s1 r2⟩
 clear e2 hg
 exact Pat.rec (motive_1:=λ p=>p.all (λ _=>true)=true) (motive_2:=λ p=>p.all (λ _=>true)=true) (λ i=>by rw [Pat.all]) (λ ps h=>by rw [Pat.all]; exact h) (by rw [Pats.all]) (λ p r h1 h2=>by rw [Pats.all,h1,h2]; rfl) pt
theorem ZOq (he:PE X e (tE X.K d)):PS X (.Return (some e) pos) (tS X.K (Zd d)):=(ZOZ he).imp λ D σ H ⟨ρ,sd,g,o,r,e,q⟩=>by
 obtain ⟨⟨y,g1⟩,e1,e⟩:=mp e
 cases e
 exact ⟨ρ,sd,g,y,g1,r,e1,q⟩
theorem ZMC (he:PE X e (tE X.K d)) (hs:swapsWith e none pos.line X.env=pure false:=by rfl):PS X (.Expr e pos) (tS X.K (ZAx d)):=(ZMY he hs).imp λ D σ H ⟨ρ,sd,g,o,r,e,q⟩=>by
 obtain ⟨⟨y,g1⟩,e1,e⟩:=mp e
 cases e
 exact ⟨ρ,sd,g,y,g1,r,e1,λ v H1 ρ1 s1 h1 r1=>q σ H1 ρ1 s1 (r.step s1 h1)⟩
theorem ds_if {sa sb:List Stmt} (hc:PT X c (tT X.K tc)) (ha:PSs X sa (tS X.K a)) (hb:PSs X sb (tS X.K b)):PS X (.If c sa sb pos) (tS X.K (ZAE tc a b)):=(ps_if hc ha hb).imp λ D σ H ⟨ρ,sd,g,o,r,e,q⟩=>by
 obtain ⟨⟨k,g1⟩,e1,e⟩:=bnd e
 refine ⟨ρ,sd,g,k,g1,r,e1,λ H1 ρ1 s1 h1=>?_⟩
 cases k with
 | true=>exact ⟨ρ1,sd,g1,o,r.step s1 h1,e,q.step s1⟩
 | false=>exact ⟨ρ1,sd,g1,o,r.step s1 h1,e,q.step s1⟩
end
abbrev DI:=Sd->G->Option (List PyData × Option Nat × G)
def ZBc (src:Option Nat) (xs:List PyData) (g:G):Prop:=match src with | none=>True | some n=>g[n]? = some (.pl xs)
def lk (g:G) (n:Nat):Option (List PyData):=match g[n]? with | some (.pl ds)=>some ds | _=>none
theorem ZEG {g:G} {n:Nat} {ds:List PyData} (h:lk g n=some ds):g[n]? = some (.pl ds):=by
 unfold lk at h
 split at h
 ·rename_i e; cases h; exact e
 ·cases h
theorem ZE7 {g:G} {n:Nat} {ds:List PyData} (h:g[n]? = some (.pl ds)):lk g n=some ds:=by
 unfold lk
 rw [h]
def ZBy (n:Nat) (lo:Int):List PyData:=(List.range n).map λ (i:Nat)=>.int (lo+(i:Int))
def ZCR:Nat->List PyData->List PyData
 | _,[]=>[]
 | i,x :: r=>.tuple [.int (i:Int),x] :: ZCR (i+1) r
def ZFE:List PyData->List PyData->List PyData
 | x :: r,y :: q=>.tuple [x,y] :: ZFE r q
 | _,_=>[]
theorem ZGm:∀ {xs:List PyData} {k i:Nat} {x:PyData},(ZCR k xs)[i]? = some x->∃ y,xs[i]? = some y/\x=.tuple [.int ((k+i:Nat):Int),y]
 | [],_,_,_,e=>by simp [ZCR] at e
 | y :: r,k,0,x,e=>by
  rw [ZCR] at e
  simp at e
  exact ⟨y,rfl,e.symm⟩
 | y :: r,k,i+1,x,e=>by
  rw [ZCR,List.getElem?_cons_succ] at e
  obtain ⟨z,e1,e2⟩:=ZGm e
  exact ⟨z,by simpa using e1,by rw [e2]; congr 4; omega⟩
theorem ZBl:∀ {xs:List PyData} {k:Nat},(ZCR k xs).length=xs.length
 | [],_=>rfl
 | y :: r,k=>by rw [ZCR,List.length_cons,List.length_cons,ZBl]
theorem ZFR:∀ {xs ys:List PyData} {i:Nat} {x:PyData},(ZFE xs ys)[i]? = some x->∃ y z,xs[i]? = some y/\ys[i]? = some z/\x=.tuple [y,z]
 | [],_,_,_,e=>by simp [ZFE] at e
 | _ :: _,[],_,_,e=>by simp [ZFE] at e
 | y :: r,z :: q,0,x,e=>by
  rw [ZFE] at e
  simp at e
  exact ⟨y,z,rfl,rfl,e.symm⟩
 | y :: r,z :: q,i+1,x,e=>by
  rw [ZFE,List.getElem?_cons_succ] at e
  obtain ⟨u,v,e1,e2,e3⟩:=ZFR e
  exact ⟨u,v,by simpa using e1,by simpa using e2,e3⟩
theorem ZFq:∀ {xs ys:List PyData},(ZFE xs ys).length=min xs.length ys.length
 | [],_=>by simp [ZFE]
 | _ :: _,[]=>by simp [ZFE]
 | y :: r,z :: q=>by rw [ZFE,List.length_cons,List.length_cons,List.length_cons,ZFq]; omega
inductive ItOk (K:PySem.W.Frag) (ρ : Rh) (H:Hp):It->List PyData->Option Nat->Prop
 | list {a:Addr} {vs:List V} {ds:List PyData}:FzL K ρ H a vs->RelDL K ρ H vs ds->ItOk K ρ H (Itl K a) ds none
 | tup {a:Addr} {vs:List V} {ds:List PyData}:FzT K ρ H a vs->RelDL K ρ H vs ds->ItOk K ρ H (Itt K a) ds none
 | cell {a:Addr} {n:Nat} {ds:List PyData} : ρ.c[n]? = some a->ItOk K ρ H (Itl K a) ds (some n)
 | rng {lo:Int} {n:Nat}:ItOk K ρ H (Itr lo n) (ZBy n lo) none
 | enum {a:Addr} {vs:List V} {ds:List PyData}:FzT K ρ H a vs->RelDL K ρ H vs ds->ItOk K ρ H (Ite K a) (ZCR 0 ds) none
 | zip {a b:Addr} {vs us:List V} {ds es:List PyData}:FzT K ρ H a vs->RelDL K ρ H vs ds->FzT K ρ H b us->RelDL K ρ H us es->ItOk K ρ H (Itz K a b) (ZFE ds es) none
 | zipl {a b:Addr} {vs us:List V} {ds es:List PyData}:FzL K ρ H a vs->RelDL K ρ H vs ds->FzL K ρ H b us->RelDL K ρ H us es->ItOk K ρ H (Itzl K a b) (ZFE ds es) none
section
variable {K:PySem.W.Frag} {ρ ρ':Rh} {H H':Hp} {J:It} {xs:List PyData} {src:Option Nat}
theorem ItOk.mono (s:Stp ρ H ρ' H') (h:ItOk K ρ H J xs src):ItOk K ρ' H' J xs src:=by
 cases h with
 | list f t=>exact .list (f.mono s) (t.mono s)
 | tup f t=>exact .tup (f.mono s) (t.mono s)
 | cell h =>
  obtain ⟨r,e⟩:=s.pre
  exact .cell (by rw [e,List.getElem?_append_left (List.getElem?_eq_some_iff.mp h).1]; exact h)
 | rng=>exact .rng
 | enum f t=>exact .enum (f.mono s) (t.mono s)
 | zip f t f2 t2=>exact .zip (f.mono s) (t.mono s) (f2.mono s) (t2.mono s)
 | zipl f t f2 t2=>exact .zipl (f.mono s) (t.mono s) (f2.mono s) (t2.mono s)
theorem ItOk.hide {p:Addr} {o:HO} (hp:H p=none) (h:ItOk K ρ H J xs src):ItOk K (ρ.hide p) (upd H p o) J xs src:=by
 cases h with
 | list f t=>exact .list (f.hide hp) (t.hide hp)
 | tup f t=>exact .tup (f.hide hp) (t.hide hp)
 | cell h=>exact .cell h
 | rng=>exact .rng
 | enum f t=>exact .enum (f.hide hp) (t.hide hp)
 | zip f t f2 t2=>exact .zip (f.hide hp) (t.hide hp) (f2.hide hp) (t2.hide hp)
 | zipl f t f2 t2=>exact .zipl (f.hide hp) (t.hide hp) (f2.hide hp) (t2.hide hp)
theorem ItOk.grow {p:Addr} {o:HO} (hp:p ∈ ρ.h) (h:ItOk K ρ H J xs src):ItOk K ρ (upd H p o) J xs src:=by
 cases h with
 | list f t=>exact .list (f.grow hp) (t.grow hp)
 | tup f t=>exact .tup (f.grow hp) (t.grow hp)
 | cell h=>exact .cell h
 | rng=>exact .rng
 | enum f t=>exact .enum (f.grow hp) (t.grow hp)
 | zip f t f2 t2=>exact .zip (f.grow hp) (t.grow hp) (f2.grow hp) (t2.grow hp)
 | zipl f t f2 t2=>exact .zipl (f.grow hp) (t.grow hp) (f2.grow hp) (t2.grow hp)
theorem ItOk.use {g:G} (h:ItOk K ρ H J xs src) (h':HR K ρ H g) (so:ZBc src xs g):(∀ (i:Nat) x,xs[i]? = some x->J.go i H/\∀ v H2,J.yld i H v H2->Same H H2/\RelD K ρ H2 v x)/\∀ i,xs.length<=i->J.stop i H:=by
 cases h with
 | @list a vs ds f t =>
  refine ⟨λ i x e=>?_,λ i hi=>⟨vs,f.sq,by rw [t.length]; exact hi⟩⟩
  obtain ⟨v,e1,r1⟩:=t.getD e
  refine ⟨⟨vs,v,f.sq,e1⟩,λ u H2 y=>?_⟩
  obtain ⟨rfl,y⟩:=y
  have:=y vs f.sq
  rw [e1] at this
  cases this
  exact ⟨Same.refl _,r1⟩
 | @tup a vs ds f t =>
  refine ⟨λ i x e=>?_,λ i hi=>⟨vs,f.sq,by rw [t.length]; exact hi⟩⟩
  obtain ⟨v,e1,r1⟩:=t.getD e
  refine ⟨⟨vs,v,f.sq,e1⟩,λ u H2 y=>?_⟩
  obtain ⟨rfl,y⟩:=y
  have:=y vs f.sq
  rw [e1] at this
  cases this
  exact ⟨Same.refl _,r1⟩
 | @cell a n ds h =>
  obtain ⟨b,vs,e1,e2,tq⟩:=h'.at_ n _ so
  rw [h] at e1
  cases e1
  have hq:SqL K H a vs:=SqL.of e2
  refine ⟨λ i x e=>?_,λ i hi=>⟨vs,hq,by rw [tq.length]; exact hi⟩⟩
  obtain ⟨v,e1,r1⟩:=tq.getD e
  refine ⟨⟨vs,v,hq,e1⟩,λ u H2 y=>?_⟩
  obtain ⟨rfl,y⟩:=y
  have:=y vs hq
  rw [e1] at this
  cases this
  exact ⟨Same.refl _,r1⟩
 | @rng lo n =>
  refine ⟨λ i x e=>?_,λ i hi=>?_⟩
  ·unfold ZBy at e
   rw [List.getElem?_map] at e
   obtain ⟨k,e1,rfl⟩:=mp e
   obtain ⟨hl,hk⟩:=List.getElem?_eq_some_iff.mp e1
   rw [List.getElem_range] at hk
   subst hk
   rw [List.length_range] at hl
   refine ⟨hl,λ u H2 y=>?_⟩
   obtain ⟨rfl,rfl⟩:=y
   exact ⟨Same.refl _,.int _⟩
  ·unfold ZBy at hi
   rw [List.length_map,List.length_range] at hi
   exact hi
 | @enum a vs ds f t =>
  refine ⟨λ i x e=>?_,λ i hi=>⟨vs,f.sq,by rw [t.length]; rw [ZBl] at hi; exact hi⟩⟩
  obtain ⟨y,e2,rfl⟩:=ZGm e
  obtain ⟨v,e3,r1⟩:=t.getD e2
  refine ⟨⟨vs,v,f.sq,e3⟩,λ u H2 yy=>?_⟩
  obtain ⟨pp,x',rfl,hp,rfl,yy⟩:=yy
  have:=yy vs f.sq
  rw [e3] at this
  cases this
  obtain ⟨sm,hr2,hn2⟩:=ZCH (o:=.tup [.int i,v]) h' hp
  refine ⟨sm,.tup (.inl ⟨.inl Zo,hn2⟩) (.cons ?_ (.cons (r1.mono (.same sm)) .nil))⟩
  rw [Nat.zero_add]
  exact .int _
 | @zip a b vs us ds es f t f2 t2 =>
  refine ⟨λ i x e=>?_,λ i hi=>⟨vs,us,f.sq,f2.sq,by rw [t.length,t2.length]; rw [ZFq] at hi; omega⟩⟩
  obtain ⟨y,z,e2,e3,rfl⟩:=ZFR e
  obtain ⟨v,e4,r4⟩:=t.getD e2
  obtain ⟨w,e5,r5⟩:=t2.getD e3
  refine ⟨⟨vs,us,v,w,f.sq,f2.sq,e4,e5⟩,λ u H2 yy=>?_⟩
  obtain ⟨pp,x',y',rfl,hp,rfl,yy⟩:=yy
  obtain ⟨y1,y2⟩:=yy vs us f.sq f2.sq
  rw [e4] at y1
  rw [e5] at y2
  cases y1
  cases y2
  obtain ⟨sm,hr2,hn2⟩:=ZCH (o:=.tup [v,w]) h' hp
  exact ⟨sm,.tup (.inl ⟨.inl Zo,hn2⟩) (.cons (r4.mono (.same sm)) (.cons (r5.mono (.same sm)) .nil))⟩
 | @zipl a b vs us ds es f t f2 t2 =>
  refine ⟨λ i x e=>?_,λ i hi=>⟨vs,us,f.sq,f2.sq,by rw [t.length,t2.length]; rw [ZFq] at hi; omega⟩⟩
  obtain ⟨y,z,e2,e3,rfl⟩:=ZFR e
  obtain ⟨v,e4,r4⟩:=t.getD e2
  obtain ⟨w,e5,r5⟩:=t2.getD e3
  refine ⟨⟨vs,us,v,w,f.sq,f2.sq,e4,e5⟩,λ u H2 yy=>?_⟩
  obtain ⟨pp,x',y',rfl,hp,rfl,yy⟩:=yy
  obtain ⟨y1,y2⟩:=yy vs us f.sq f2.sq
  rw [e4] at y1
  rw [e5] at y2
  cases y1
  cases y2
  obtain ⟨sm,hr2,hn2⟩:=ZCH (o:=.tup [v,w]) h' hp
  exact ⟨sm,.tup (.inl ⟨.inl Zo,hn2⟩) (.cons (r4.mono (.same sm)) (.cons (r5.mono (.same sm)) .nil))⟩
end
def tI (K:PySem.W.Frag) (d:DI):TI:=λ σ H R=>∃ ρ sd g xs src g',Rst K ρ H σ sd g/\d sd g=some (xs,src,g')/\∀ J H' ρ',Stp ρ H ρ' H'->HR K ρ' H' g'->ZBc src xs g'/\ItOk K ρ' H' J xs src->R J H'
def ZLr:W->G->Option (List PyData × Option Nat × G)
 | .dat (.list ds),g=>some (ds,none,g)
 | .dat (.tuple ds),g=>some (ds,none,g)
 | .ref n,g=>(lk g n).map λ ds=>(ds,some n,g)
 | .inp ns,g=>some (ns.map .int,none,g)
 | _,_=>none
def ZCf (d:DE):DI:=λ sd g=>(d sd g).bind λ p=>ZLr p.1 p.2
theorem PI.imp {X:Cx} {tg e:Expr} {t u:TI} (h:PI X tg e t) (k:∀ σ H Q,u σ H Q->t σ H Q):PI X tg e u:=λ pins s σ H Q I q=>h pins s σ H Q I (k σ H Q q)
def ZMs (K:PySem.W.Frag) (tl:TE):TI:=λ σ H R=>tl σ H λ x H1=>(∃ a,x=.ref a/\(∃ xs,SqL K H1 a xs)/\R (Itl K a) H1) ∨ (∃ a,x=.ref a/\(∃ xs,SqT K H1 a xs)/\R (Itt K a) H1)
section
variable {X:Cx} {tg:Expr} {pos:Pos}
theorem ZJ8 {l:Expr} {tl:TE} (hl:PE X l tl):PI X tg l (ZMs X.K tl):=by
 intro pins s σ H R I h
 refine thn (hl pins s σ H _ I h) λ v s1 ⟨x,H1,I1,r1,q1⟩=>?_
 rcases q1 with ⟨a,e,⟨xs,hq⟩,q⟩ | ⟨a,e,⟨xs,hq⟩,q⟩
 ·subst e
  cases r1
  obtain ⟨its,rv,p,hz⟩:=I1.list hq
  refine wpAny_pyIter_list p.isList ?_
  refine ⟨s1.heap.objs.size,[s1.heap.objs.size],_,_,H1,rfl,I1.kept (t':=s1.toks) λ b o e=>Heap.get?_push_of_some _ e,ZKX a _,⟨_,Heap.get?_push_size _ rfl,rfl,rfl⟩,λ b hb=>?_,q⟩
  have e:b=s1.heap.objs.size:=by simpa using hb
  subst e
  exact I1.fpOk (Nat.le_refl _) (I1.hok.fresh (Nat.le_refl _))
 ·subst e
  cases r1
  obtain ⟨its,rv,p,hz⟩:=I1.tuple hq
  refine wpAny_pyIter_tuple (show s1.heap.IsTuple a its.toArray from p) ?_
  refine ⟨s1.heap.objs.size,[s1.heap.objs.size],_,_,H1,rfl,I1.kept (t':=s1.toks) λ b o e=>Heap.get?_push_of_some _ e,ZJI a _,⟨_,Heap.get?_push_size _ rfl,rfl,rfl⟩,λ b hb=>?_,q⟩
  have e:b=s1.heap.objs.size:=by simpa using hb
  subst e
  exact I1.fpOk (Nat.le_refl _) (I1.hok.fresh (Nat.le_refl _))
theorem ZPU {l:Expr} {d:DE} (hl:PE X l (tE X.K d)):PI X tg l (tI X.K (ZCf d)):=(ZJ8 hl).imp λ σ H R ⟨ρ,sd,g,xs,src,g',r,e,q⟩=>by
 obtain ⟨⟨y,g1⟩,e1,e⟩:=bnd e
 refine ⟨ρ,sd,g,y,g1,r,e1,λ v H1 ρ1 s1 h1 r1=>?_⟩
 cases r1 with
 | ref h =>
  obtain ⟨ds,e2,e⟩:=mp e
  cases e
  have e2:=ZEG e2
  obtain ⟨b,vs,e3,e4,tq⟩:=h1.at_ _ _ e2
  rw [h] at e3
  cases e3
  exact .inl ⟨_,rfl,⟨vs,SqL.of e4⟩,q _ H1 ρ1 s1 h1 ⟨e2,ItOk.cell h⟩⟩
 | ty=>cases e
 | tup _ _=>cases e
 | inp h=>cases e; exact .inl ⟨_,rfl,⟨_,h.sq⟩,q _ H1 ρ1 s1 h1 ⟨trivial,ItOk.list h RelDL.ofInts⟩⟩
 | dat h =>
  cases h with
  | tup h t=>cases e; exact .inr ⟨_,rfl,⟨_,h.sq⟩,q _ H1 ρ1 s1 h1 ⟨trivial,ItOk.tup h t⟩⟩
  | lst h n t=>cases e; exact .inl ⟨_,rfl,⟨_,SqL.of h⟩,q _ H1 ρ1 s1 h1 ⟨trivial,ItOk.list (.inl ⟨.inl h,n⟩) t⟩⟩
  | _=>cases e
def ZAI (a:DA):DI:=λ sd g=>(a sd g).bind λ p=>match p.1 with
 | [.dat (.int j)]=>if j<=1000/\-1000<=j then some (ZBy j.toNat 0,none,p.2) else none
 | [.dat (.int i),.dat (.int j)]=>if (j<=1000/\-1000<=j)/\(i<=1000/\-1000<=i) then some (ZBy (j - i).toNat i,none,p.2) else none
 | _=>none
theorem ZJ6 {a:Expr} {da:DA} {p pos:Pos} (hg:Gl X "range") (hm:X.mg "range" = none) (ha:PA X [a] (tA X.K da)) (hs:starEach [a] X.env=[(false,eval a X.env)]:=by rfl) (hn:Many da 1):PI X tg (.Call (.Name "range" p) [a] [] pos) (tI X.K (ZAI da)):=(ZKN hg hm ha hs).imp λ σ H R ⟨ρ,sd,g,xs,src,g',r,e,q⟩=>by
 obtain ⟨⟨ws,g1⟩,e1,e⟩:=bnd e
 refine ⟨ρ,sd,g,ws,g1,r,e1,λ vs H1 ρ1 s1 h1 r1=>?_⟩
 have hl:=hn.len e1
 cases r1 with
 | nil=>cases hl
 | cons h t =>
  cases t with
  | cons _ _=>cases hl
  | nil =>
   cases h with
   | ref _=>cases e
   | inp _=>cases e
   | ty=>cases e
   | tup _ _=>cases e
   | dat h =>
    cases h with
    | int j =>
     dsimp only at e
     split at e
     ·rename_i hj
      cases e
      exact ⟨j,rfl,by omega,by omega,q _ H1 ρ1 s1 h1 ⟨trivial,ItOk.rng⟩⟩
     ·cases e
    | _=>cases e
theorem ZKE {a b:Expr} {da:DA} {p pos:Pos} (hg:Gl X "range") (hm:X.mg "range" = none) (ha:PA X [a,b] (tA X.K da)) (hs:starEach [a,b] X.env=[(false,eval a X.env),(false,eval b X.env)]:=by rfl) (hs2:starEach [b] X.env=[(false,eval b X.env)]:=by rfl) (hn:Many da 2) :
  PI X tg (.Call (.Name "range" p) [a,b] [] pos) (tI X.K (ZAI da)):=(ZKG hg hm ha hs hs2).imp λ σ H R ⟨ρ,sd,g,xs,src,g',r,e,q⟩=>by
 obtain ⟨⟨ws,g1⟩,e1,e⟩:=bnd e
 refine ⟨ρ,sd,g,ws,g1,r,e1,λ vs H1 ρ1 s1 h1 r1=>?_⟩
 have hl:=hn.len e1
 cases r1 with
 | nil=>cases hl
 | cons h t =>
  cases t with
  | nil=>cases hl
  | cons h2 t =>
   cases t with
   | cons _ _=>cases hl
   | nil =>
    cases h with
    | ref _=>cases e
    | inp _=>cases e
    | ty=>cases e
    | tup _ _=>cases e
    | dat h =>
     cases h with
     | int i =>
      cases h2 with
      | ref _=>cases e
      | inp _=>cases e
      | ty=>cases e
      | tup _ _=>cases e
      | dat h2 =>
       cases h2 with
       | int j =>
        dsimp only at e
        split at e
        ·rename_i hj
         cases e
         exact ⟨i,j,rfl,by omega,q _ H1 ρ1 s1 h1 ⟨trivial,ItOk.rng⟩⟩
        ·cases e
       | _=>cases e
     | _=>cases e
def ZC1 (a:DA):DI:=λ sd g=>(a sd g).bind λ p=>match p.1 with
 | [.dat (.tuple ds)]=>some (ZCR 0 ds,none,p.2)
 | _=>none
theorem ZMb {es:List Expr} {k:Nat} {tpos:Pos} {a:Expr} {da:DA} {p pos:Pos} (hg:Gl X "enumerate") (hm:X.mg "enumerate" = none) (ha:PA X [a] (tA X.K da)) (hs:starEach [a] X.env=[(false,eval a X.env)]:=by rfl) (hn:Many da 1) :
  PI X (.Tuple es k tpos) (.Call (.Name "enumerate" p) [a] [] pos) (tI X.K (ZC1 da)):=(ZHf hg hm ha hs).imp λ σ H R ⟨ρ,sd,g,xs,src,g',r,e,q⟩=>by
 obtain ⟨⟨ws,g1⟩,e1,e⟩:=bnd e
 refine ⟨ρ,sd,g,ws,g1,r,e1,λ vs H1 ρ1 s1 h1 r1=>?_⟩
 have hl:=hn.len e1
 cases r1 with
 | nil=>cases hl
 | cons h t =>
  cases t with
  | cons _ _=>cases hl
  | nil =>
   cases h with
   | ref _=>cases e
   | inp _=>cases e
   | ty=>cases e
   | tup _ _=>cases e
   | dat h =>
    cases h with
    | @tup a' us ds h t =>
     cases e
     exact ⟨_,rfl,⟨_,h.sq⟩,q _ H1 ρ1 s1 h1 ⟨trivial,ItOk.enum h t⟩⟩
    | _=>cases e
end
end L2
namespace L2
open PySem PySem.Spec PyProof.Rows H1
open Classical in
noncomputable def ZCP {α : Type} (src:Option Nat) (xs:List PyData) (g:G) (k:Option α):Option α:=match src with | none=>k | some n=>if g[n]? = some (.pl xs) then k else none
theorem ZCt {α : Type} {src:Option Nat} {xs:List PyData} {g:G} {k:Option α} {y : α} (h:ZCP src xs g k=some y):ZBc src xs g/\k=some y:=by
 unfold ZCP at h
 cases src with
 | none=>exact ⟨trivial,h⟩
 | some n =>
  dsimp only at h
  split at h
  ·rename_i q; exact ⟨q,h⟩
  ·cases h
noncomputable def ZAg (src:Option Nat) (xs:List PyData) (pt:Pat) (db:DS):List PyData->Sd->G->Option Out
 | [],sd,g=>some (.nx sd g)
 | x :: r,sd,g=>(Zr pt (.dat x) sd).bind λ sd1=>(db sd1 g).bind λ o=>match o with
  | .nx sd2 g2=>ZCP src xs g2 (ZAg src xs pt db r sd2 g2)
  | .ct sd2 g2=>ZCP src xs g2 (ZAg src xs pt db r sd2 g2)
  | .bk sd2 g2=>some (.nx sd2 g2)
  | .rt y g2=>some (.rt y g2)
noncomputable def ZCn (pt:Pat) (di:DI) (db:DS):DS:=λ sd g=>(di sd g).bind λ t=>ZAg t.2.1 t.1 pt db t.1 sd t.2.2
theorem ZL9 (pt:Pat):pt.all (λ _=>true)=true:=Pat.rec (motive_1:=λ p=>p.all (λ _=>true)=true) (motive_2:=λ p=>p.all (λ _=>true)=true) (λ i=>by rw [Pat.all]) (λ ps h=>by rw [Pat.all]; exact h) (by rw [Pats.all]) (λ p r h1 h2=>by rw [Pats.all,h1,h2]; rfl) pt
section
variable {X:Cx} {tg iter:Expr} {pos:Pos} {di:DI} {pt:Pat} {db:DS}
theorem ZOT {body:List Stmt} (hp:PassesOwn (model X.prog X.w) X.A X.env X.xe) (hc:X.calm=true) (hi:PI X tg iter (tI X.K di)) (hg:PG X tg (gP X.K pt)) (hb:PSs X body (tS X.K db))
  (hs:∀ x,foldedSetIterable iter X.env x=pure x:=by intro _; rfl):PS X (.For tg iter body [] pos) (tS X.K (ZCn pt di db)):=(ZN8 hp hc hi hg hb hs).imp λ D σ H ⟨ρ,sd,g,o,r,e,q⟩=>by
 obtain ⟨⟨xs,src,g1⟩,e1,e⟩:=bnd e
 refine ⟨ρ,sd,g,xs,src,g1,r,e1,λ J H1 ρ1 s1 h1 ⟨so,it⟩=>?_⟩
 refine ⟨λ i m σ' H'=>m=xs.length - i/\i<=xs.length/\∃ ρ' sd' g',Stp ρ1 H1 ρ' H'/\Rst X.K ρ' H' σ' sd' g'/\ZBc src xs g'/\ZAg src xs pt db (xs.drop i) sd' g'=some o,⟨xs.length,rfl,Nat.zero_le _,ρ1,sd,g1,.refl,r.step s1 h1,so,e⟩,?_⟩
 rintro i m σ' H' ⟨rfl,hi,ρ',sd',g',s',r',so',e'⟩
 obtain ⟨hgo,hst⟩:=(it.mono s').use r'.hr so'
 by_cases hlt:i < xs.length
 ·rw [List.drop_eq_getElem_cons hlt] at e'
  rw [ZAg] at e'
  obtain ⟨sd1,e2,e'⟩:=bnd e'
  obtain ⟨o1,e3,e'⟩:=bnd e'
  obtain ⟨hg1,hy⟩:=hgo i xs[i] (List.getElem?_eq_getElem hlt)
  refine .inr ⟨hg1,λ σ2 H2=>∃ ρ2 sd2 g2,Stp ρ1 H1 ρ2 H2/\Rst X.K ρ2 H2 σ2 sd2 g2/\ZBc src xs g2/\ZAg src xs pt db (xs.drop (i+1)) sd2 g2=some o,λ σ2 H2 ⟨ρ2,sd2,g2,k1,k2,k3,k4⟩=>⟨xs.length - (i+1),by omega,rfl,hlt,ρ2,sd2,g2,k1,k2,k3,k4⟩,λ v H2 y=>?_⟩
  obtain ⟨sm,rv⟩:=hy v H2 y
  have s2:Stp ρ' H' ρ' H2:=.same sm
  refine ZIO (f:=λ _=>true) (ZL9 pt) e2 (r'.step s2 (r'.hr.same sm)) (.dat rv) λ σ3 r3 _=>⟨ρ',sd1,g',o1,r3,e3,?_⟩
  have s02:=s1.trans (s'.trans s2)
  cases o1 with
  | nx sd2 g2 =>
   obtain ⟨so2,e4⟩:=ZCt e'
   exact λ σ4 H4 ρ4 s4 r4=>⟨ρ4,sd2,g2,(s'.trans s2).trans s4,r4,so2,e4⟩
  | ct sd2 g2 =>
   obtain ⟨so2,e4⟩:=ZCt e'
   exact λ σ4 H4 ρ4 s4 r4=>⟨ρ4,sd2,g2,(s'.trans s2).trans s4,r4,so2,e4⟩
  | bk sd2 g2 =>
   cases e'
   exact ZGo.step q s02
  | rt y g2 =>
   cases e'
   exact ZGo.step q s02
 ·have ei:i=xs.length:=by omega
  subst ei
  rw [List.drop_length,ZAg] at e'
  cases e'
  exact .inl ⟨hst _ (Nat.le_refl _),q σ' H' ρ' (s1.trans s') r'⟩
end
def ZGH (own:Nat) (cap:List Nat) (sd:Sd):Sd:=List.replicate own none ++ cap.map λ j=>(sd[j]?).join
noncomputable def ZBW (src:Option Nat) (xs:List PyData) (pt:Pat) (dt:DB) (de:DE) (sd0:Sd):List PyData->G->Option (List PyData × G)
 | [],g=>some ([],g)
 | x :: r,g=>(Zr pt (.dat x) sd0).bind λ sd1=>(dt sd1 g).bind λ b=>if b.1=true then (de sd1 b.2).bind λ y=>match y.1 with
   | .dat d=>ZCP src xs y.2 ((ZBW src xs pt dt de sd0 r y.2).map λ q=>(d :: q.1,q.2))
   | _=>none
  else ZCP src xs b.2 (ZBW src xs pt dt de sd0 r b.2)
noncomputable def ZAa (own:Nat) (cap:List Nat) (pt:Pat) (di:DI) (dt:DB) (de:DE):DE:=λ sd g=>(di sd g).bind λ t=>if t.1.length<=1000 then (ZBW t.2.1 t.1 pt dt de (ZGH own cap sd) t.1 t.2.2).map λ p=>(.dat (.list p.1),p.2) else none
def ZDk:DB:=λ _ g=>some (true,g)
theorem ZNL {K:PySem.W.Frag} {ρ : Rh} {H:Hp} {σ : St} {sd:Sd} {g:G} (r:Rst K ρ H σ sd g) (own:Nat) (cap:List Nat):Rst K ρ H (ZEc own cap σ) (ZGH own cap sd) g:=by
 refine ⟨by unfold ZEc ZGH; simp,λ i x e=>?_,r.hr⟩
 unfold ZGH at e
 unfold ZEc
 by_cases hi:i < own
 ·rw [List.getElem?_append_left (by simpa using hi),List.getElem?_replicate] at e
  split at e <;> cases e
 ·rw [List.getElem?_append_right (by simpa using hi),List.length_replicate,List.getElem?_map] at e
  rw [List.getElem?_append_right (by simpa using hi),List.length_replicate,List.getElem?_map]
  obtain ⟨j,e1,e⟩:=mp e
  rw [e1]
  cases k:sd[j]? with
  | none=>rw [k] at e; cases e
  | some w =>
   rw [k] at e
   have e:w=some x:=e
   subst e
   obtain ⟨v,h1,h2⟩:=r.env j x k
   exact ⟨v,by show some ((σ[j]?).join)=_; rw [h1]; rfl,h2⟩
theorem ZLT {own:Nat} {cap:List Nat} {σ : St} {i:Nat} (h:i < own):(ZEc own cap σ)[i]? = some none:=by
 unfold ZEc
 rw [List.getElem?_append_left (by simpa using h),List.getElem?_replicate,if_pos h]
theorem PTs.imp {X:Cx} {ifs:List Expr} {t u:TT} (h:PTs X ifs t) (k:∀ σ H Q,u σ H Q->t σ H Q):PTs X ifs u:=λ pins s σ H Q I q=>h pins s σ H Q I (k σ H Q q)
theorem ZMj {X:Cx}:PTs X [] (tT X.K ZDk):=ZMn.imp λ σ H Q ⟨ρ,sd,g,b,g',r,e,q⟩=>by
 cases e
 exact q H ρ .refl r.hr
theorem ZNO {X:Cx} {c:Expr} {d:DB} (h:PT X c (tT X.K d)):PTs X [c] (tT X.K d):=ZMM h
theorem Stp.grow {ρ ρ':Rh} {H H':Hp} {p:Addr} {o:HO} (hp:H p=none) (s:Stp ρ H ρ' H'):Stp ρ H ρ' (upd H' p o):=⟨s.pre,s.hid,λ a u e n=>by rw [Zb (Zf e hp)]; exact s.frm a u e n,s.fre,λ a u e=>by rw [Zb (Zf e hp)]; exact s.kd a u e⟩
theorem Stp.unhide {ρ ρ':Rh} {H H':Hp} {p:Addr} (s:Stp (ρ.hide p) H ρ' H'):Stp ρ H ⟨ρ'.c,ρ.h⟩ H'/\ρ'=(⟨ρ'.c,ρ.h⟩:Rh).hide p:=⟨⟨s.pre,rfl,s.frm,s.fre,s.kd⟩,by
 have:=s.hid
 obtain ⟨c,h⟩:=ρ'
 have e:h=p :: ρ.h:=this
 subst e
 rfl⟩
theorem Rst.hide {K:PySem.W.Frag} {ρ : Rh} {H:Hp} {σ : St} {sd:Sd} {g:G} {p:Addr} {o:HO} (hp:H p=none) (r:Rst K ρ H σ sd g):Rst K (ρ.hide p) (upd H p o) σ sd g:=⟨r.len,λ i x e=>by
 obtain ⟨v,h1,h2⟩:=r.env i x e
 exact ⟨v,h1,h2.hide hp⟩,r.hr.hide hp⟩
theorem Rst.grow {K:PySem.W.Frag} {ρ : Rh} {H:Hp} {σ : St} {sd:Sd} {g:G} {p:Addr} {o:HO} (hp:p ∈ ρ.h) (r:Rst K ρ H σ sd g):Rst K ρ (upd H p o) σ sd g:=⟨r.len,λ i x e=>by
 obtain ⟨v,h1,h2⟩:=r.env i x e
 exact ⟨v,h1,h2.grow hp⟩,r.hr.grow hp⟩
section
variable {X:Cx} {tg elt iter:Expr} {ifs:List Expr} {scope sc:Scope} {pos:Pos} {di:DI} {pt:Pat} {dt:DB} {de:DE} {N NX:List Str} {own:Nat} {cap:List Nat}
theorem ZJk {K:PySem.W.Frag} {σ : St} {H:Hp} {Q:VK} (hp:pt.all (λ i=>decide (i < own))=true) (h:tE K (ZAa own cap pt di dt de) σ H Q):ZLy own cap (tI K di) (gP K pt) (tT K dt) (tE K de) σ H Q:=by
 obtain ⟨ρ,sd,g,x,gz,r,e,q⟩:=h
 obtain ⟨⟨xs,src,g1⟩,e1,e⟩:=bnd e
 by_cases hz:xs.length<=1000
 ·dsimp only at e
  rw [if_pos hz] at e
  obtain ⟨⟨zs,g2⟩,e2,e⟩:=mp e
  cases e
  refine ⟨ρ,sd,g,xs,src,g1,r,e1,λ J H1 ρ1 s1 h1 ⟨so,it⟩ D hD=>?_⟩
  have hnh:D ∉ ρ1.h:=λ z=>h1.nin hD (.inr z)
  have r1:=ZNL (r.step s1 h1) own cap
  refine ⟨λ i m acc H'=>m=xs.length - i/\i<=xs.length/\acc.length<=i/\∃ ρ' g' ads ys,Stp ρ1 H1 ρ' H'/\Rst K (ρ'.hide D) H' (ZEc own cap σ) (ZGH own cap sd) g'/\ZBc src xs g'/\H' D=some (.lst acc)/\RelDL K (ρ'.hide D) H' acc ads/\ItOk K (ρ'.hide D) H' J xs src/\ZBW src xs pt dt de (ZGH own cap sd) (xs.drop i) g'=some (ys,g2)/\ads ++ ys=zs,⟨xs.length,rfl,Nat.zero_le _,Nat.le_refl _,ρ1,g1,[],zs,.same (_root_.H1.Same.upd hD),r1.hide hD,so,Zo,.nil,it.hide hD,e2,rfl⟩,?_⟩
  rintro i m acc H' ⟨rfl,hi,ha,ρ',g',ads,ys,s',r',so',hacc,ra,it',e',ez⟩
  have hr':HR K ρ' H' g':=r'.hr.shown
  obtain ⟨hgo,hst⟩:=it'.use r'.hr so'
  have hDm:∀ {ρx:Rh},D ∈ (ρx.hide D).h:=λ {ρx}=>List.mem_cons_self ..
  by_cases hlt:i < xs.length
  ·rw [List.drop_eq_getElem_cons hlt] at e'
   rw [ZBW] at e'
   obtain ⟨sd1,e2,e'⟩:=bnd e'
   obtain ⟨⟨b,g3⟩,e3,e'⟩:=bnd e'
   obtain ⟨hg1,hy⟩:=hgo i xs[i] (List.getElem?_eq_getElem hlt)
   refine .inr ⟨hg1,λ acc2 H2=>acc2.length<=i+1/\∃ ρ' g' ads ys,Stp ρ1 H1 ρ' H2/\Rst K (ρ'.hide D) H2 (ZEc own cap σ) (ZGH own cap sd) g'/\ZBc src xs g'/\H2 D=some (.lst acc2)/\RelDL K (ρ'.hide D) H2 acc2 ads/\ItOk K (ρ'.hide D) H2 J xs src/\ZBW src xs pt dt de (ZGH own cap sd) (xs.drop (i+1)) g'=some (ys,g2)/\ads ++ ys=zs,λ acc2 H2 ⟨k0,ρ2,g2',ads2,ys2,k1,k2,k3,k4,k5,k6,k7,k8⟩=>⟨xs.length - (i+1),by omega,rfl,hlt,k0,ρ2,g2',ads2,ys2,k1,k2,k3,k4,k5,k6,k7,k8⟩,λ v H2 y=>?_⟩
   obtain ⟨sm,rv⟩:=hy v H2 y
   have s2:Stp (ρ'.hide D) H' (ρ'.hide D) H2:=.same sm
   refine ZIO (f:=λ i=>decide (i < own)) hp e2 (r'.step s2 (r'.hr.same sm)) (.dat rv) λ σ3 r3 kp=>⟨⟨kp.1,λ i v e=>?_⟩,ρ'.hide D,sd1,g',b,g3,r3,e3,λ H3 ρ3 s3 h3=>?_⟩
   ·by_cases hi:i < own
    ·rw [ZLT hi] at e; cases e
    ·rw [kp.2 i (decide_eq_false hi)]; exact e
   have s23:=s2.trans s3
   obtain ⟨u3,e3h⟩:=s23.unhide
   have hD3:H3 D=some (.lst acc):=s23.frm _ _ hacc (r'.hr.hid D hDm).1
   have r3':=r3.step s3 h3
   rw [e3h] at r3' h3 s3 s23
   cases b with
   | false =>
    rw [if_neg Bool.false_ne_true] at e'
    obtain ⟨so3,e4⟩:=ZCt e'
    refine iteF ?_
    exact ⟨Nat.le_succ_of_le ha,⟨ρ3.c,ρ'.h⟩,g3,ads,ys,s'.trans u3,r'.step s23 h3,so3,hD3,ra.mono s23,it'.mono s23,e4,ez⟩
   | true =>
    rw [if_pos rfl] at e'
    obtain ⟨⟨w,g4⟩,e4,e'⟩:=bnd e'
    refine iteT ?_
    refine ⟨(⟨ρ3.c,ρ'.h⟩:Rh).hide D,sd1,g3,w,g4,r3',e4,λ y4 H4 ρ4 s4 h4 r4=>?_⟩
    obtain ⟨u4,e4h⟩:=s4.unhide
    rw [e4h] at h4 r4 s4
    have s24:=s23.trans s4
    have hD4:H4 D=some (.lst acc):=s4.frm _ _ hD3 (h3.hid D hDm).1
    cases r4 with
    | ref _=>cases e'
    | inp _=>cases e'
    | ty=>cases e'
    | tup _ _=>cases e'
    | @dat _ d r4 =>
     obtain ⟨so4,e5⟩:=ZCt e'
     obtain ⟨⟨ys',g5⟩,e6,e5⟩:=mp e5
     cases e5
     refine ⟨hD4,Nat.lt_of_le_of_lt ha (Z0 (by omega)),?_⟩
     refine ⟨by rw [List.length_append]; exact Nat.add_le_add_right ha 1,⟨ρ4.c,ρ'.h⟩,g4,ads ++ [d],ys',((s'.trans u3).trans u4).grow hD,(r'.step s24 h4).grow hDm,so4,Zo,((ra.mono s24).append (.cons r4 .nil)).grow hDm,(it'.mono s24).grow hDm,e6,?_⟩
     rw [List.append_assoc]
     exact ez
  ·have ei:i=xs.length:=by omega
   subst ei
   rw [List.drop_length,ZBW] at e'
   cases e'
   rw [List.append_nil] at ez
   subst ez
   refine .inl ⟨hst _ (Nat.le_refl _),q _ H' ρ' (s1.trans s') hr' (.dat (.lst hacc (λ z=>?_) (ra.less (ρ':=ρ') (ρ:=ρ'.hide D) λ _ z=>z.elim .inl λ q=>.inr (List.mem_cons_of_mem _ q))))⟩
   rcases z with z | z
   ·exact (r'.hr.hid D (List.mem_cons_self ..)).1 z
   ·rw [s'.hid] at z
    exact hnh z
 ·dsimp only at e
  rw [if_neg hz] at e
  cases e
theorem ZMX (hc:X.calm=true) (hi:PI X tg iter (tI X.K di)) (hsc:X.env.scope=sc) (hNX:X.N=NX)
  (hb:∀ cl C s0 H0 fp,PG (blk X N (compEnvC scope cl C X.env) s0 H0 fp) tg (gP X.K pt)/\PTs (blk X N (compEnvC scope cl C X.env) s0 H0 fp) ifs (tT X.K dt)/\PE (blk X N (compEnvC scope cl C X.env) s0 H0 fp) elt (tE X.K de))
  (co:ZH1 sc scope NX N own cap=true) (hp:pt.all (λ i=>decide (i < own))=true) (hs:∀ x,foldedSetIterable iter X.env x=pure x:=by intro _; rfl):PE X (.ListComp elt [⟨tg,iter,ifs,0⟩] scope pos) (tE X.K (ZAa own cap pt di dt de)) :=
 (ZMQ hc hi hsc hNX hb co hs).imp λ _ _ _ h=>ZJk hp h
theorem ZML {i:Nat} {x:Str} {py spos:Pos} (hN:X.N.Nodup) (hi:X.N[i]? = some x) (hx:Loc X.env.scope x) (hc:X.calm=true) (hit:PI X tg iter (tI X.K di)) (hsc:X.env.scope=sc) (hNX:X.N=NX)
  (hb:∀ cl C s0 H0 fp,PG (blk X N (compEnvC scope cl C X.env) s0 H0 fp) tg (gP X.K pt)/\PTs (blk X N (compEnvC scope cl C X.env) s0 H0 fp) ifs (tT X.K dt)/\PE (blk X N (compEnvC scope cl C X.env) s0 H0 fp) elt (tE X.K de))
  (co:ZH1 sc scope NX N own cap=true) (hp:pt.all (λ i=>decide (i < own))=true) (hsw:swapsWith (.ListComp elt [⟨tg,iter,ifs,0⟩] scope pos) (some (.Name x py)) spos.line X.env=pure true:=by rfl) (hs:∀ x,foldedSetIterable iter X.env x=pure x:=by intro _; rfl)
  (hf:X.fn x=true ∨ X.env.scope.names.lookup x=some .local:=by first | exact .inl rfl | exact .inr rfl | assumption) :
  PS X (.Assign [.Name x py] (.ListComp elt [⟨tg,iter,ifs,0⟩] scope pos) spos) (tS X.K (Zq i (ZAa own cap pt di dt de))):=(ZMU hN hi hx hc hit hsc hNX hb co hsw hs hf).imp λ D σ H ⟨ρ,sd,g,o,r,e,q⟩=>by
 obtain ⟨⟨y,g1⟩,e1,e⟩:=bnd e
 cases e
 exact ZJk hp ⟨ρ,sd,g,y,g1,r,e1,λ v H1 ρ1 s1 h1 r1=>q _ H1 ρ1 s1 ((r.step s1 h1).set r1 i)⟩
end
def ZAL (n:Nat) (d:DS) (ws:List W) (g:G):Option (W × G):=match d (ws.map some ++ List.replicate (n - ws.length) none) g with
 | some (.rt x g')=>some (x,g')
 | some (.nx _ g')=>some (.dat .none,g')
 | _=>none
theorem ZGq {K:PySem.W.Frag} {ρ : Rh} {H:Hp} {g:G} (h:HR K ρ H g) (k:Nat):∀ {vs:List V} {ws:List W},RelL K ρ H vs ws->Rst K ρ H (vs.map some ++ List.replicate k none) (ws.map some ++ List.replicate k none) g
 | _,_,.nil=>by
  refine ⟨by simp,λ i x e=>?_,h⟩
  simp only [List.map_nil,List.nil_append] at e
  rw [List.getElem?_replicate] at e
  split at e <;> cases e
 | v :: vs,w :: ws,.cons r t=>by
  have q:=ZGq h k t
  refine ⟨by have:=q.len; simp at this ⊢; exact this,λ i x e=>?_,h⟩
  cases i with
  | zero=>simp at e; subst e; exact ⟨v,by simp,r⟩
  | succ i =>
   simp at e
   obtain ⟨u,h1,h2⟩:=q.env i x (by simpa using e)
   exact ⟨u,by simpa using h1,h2⟩
theorem ZPN {P:Program} {w:World} {K:PySem.W.Frag} {mg:Str->Option Value} {base:Heap} {x qual:Str} {st:Stmt} {f:Addr} {fd:FuncData} {N ps:List Str} {k:Nat} {d:DS} (F:Fun K x qual st f fd) (S:FnScope N ps (ZM st))
  (hb:∀ (cdv:Value) (A:Around) (outer:List Env) (s:Shared) (H:Hp) (E:XK),Room k (A.deeper (envOfC qual (ZM st) s.heap.objs.size f cdv))->PSs (ZHm CX0 P w K mg base N qual (ZM st) f cdv A outer s H E).nox (ZBm st) (tS K d)) :
  FnOk P w K mg base CX0 (k+1) f fd ps (spD K ps.length (ZAL N.length d)):=by
 refine F.ok S (λ vs H Q E h=>h.1) (λ cdv A outer s H vs Q E hr h=>⟨_,hb cdv A outer s H E hr,?_⟩)
 obtain ⟨hl,ρ,ws,g,z,gz,hR,rl,e,q⟩:=h
 unfold ZAL at e
 have hlw:=rl.length
 unfold ZES
 rw [hlw]
 cases ho:d (ws.map some ++ List.replicate (N.length - ws.length) none) g with
 | none=>rw [ho] at e; cases e
 | some o =>
  rw [ho] at e
  refine ⟨ρ,_,g,o,ZGq hR _ rl,ho,?_⟩
  cases o with
  | nx sd g' =>
   cases e
   intro σ' H' ρ' s' r'
   exact q .non H' ρ' s' r'.hr (.dat .non)
  | rt y g' =>
   cases e
   exact q
  | bk _ _=>cases e
  | ct _ _=>cases e
end L2
namespace L2
open PySem PySem.Spec PyProof.Rows H1
mutual
theorem RelD.reads {X:Cx} {pins:List (Addr × Obj)} {σ : St} {ρ : Rh} {H:Hp} {s:Shared} (I:Inv X pins σ H s):∀ {v:V} {d:PyData} {u:Value},RelD X.K ρ H v d->d.canLay0=true->Z8 v u->∃ as,Reads s.heap u d as
 | _,_,_,.non,_,r=>by cases r; exact ⟨_,.none⟩
 | _,_,_,.bl b,_,r=>by cases r; exact ⟨_,.bool b⟩
 | _,_,_,.int i,_,r=>by obtain ⟨t,rfl⟩:=r; exact ⟨_,.int i t⟩
 | _,_,_,.str x,_,r=>by obtain ⟨t,rfl⟩:=r; exact ⟨_,.str x t⟩
 | _,_,_,.tup h hl,c,r=>by
  cases r
  obtain ⟨its,rv,⟨o,ho,hc,n,hd⟩,_⟩:=I.tuple h.sq
  obtain ⟨as,ra⟩:=RelDL.reads I hl (by rw [PyData.canLay0] at c; exact c) rv
  exact ⟨as,.tuple ho hc hd (by simpa using ra)⟩
 | _,_,_,.lst h _ hl,c,r=>by
  cases r
  obtain ⟨_,its,n,rv,e⟩:=I.hok _ _ h
  obtain ⟨as,ra⟩:=RelDL.reads I hl (by rw [PyData.canLay0] at c; exact c) rv
  exact ⟨_,.list e rfl rfl (by simpa using ra)⟩
 | _,_,_,.dct h _,c,r=>by rw [PyData.canLay0] at c; cases c
theorem RelDL.reads {X:Cx} {pins:List (Addr × Obj)} {σ : St} {ρ : Rh} {H:Hp} {s:Shared} (I:Inv X pins σ H s):∀ {vs:List V} {ds:List PyData} {us:List Value},RelDL X.K ρ H vs ds->PyData.canLayAll0 ds=true->Zp vs us->∃ as,ReadsAll s.heap us ds as
 | _,_,_,.nil,_,r=>by cases r; exact ⟨_,.nil⟩
 | _,_,_,.cons h hl,c,r=>by
  rw [PyData.canLayAll0,Bool.and_eq_true] at c
  cases r with
  | cons r1 r2 =>
   obtain ⟨as,ra⟩:=RelD.reads I h c.1 r1
   obtain ⟨bs,rb⟩:=RelDL.reads I hl c.2 r2
   exact ⟨_,.cons ra rb⟩
end
def ZBb:W->G->Option (List PyData)
 | .dat (.list ds),_=>some ds
 | .ref n,g=>lk g n
 | _,_=>none
theorem ZBC {K:PySem.W.Frag} {ρ : Rh} {H:Hp} {g:G} {v:V} {w:W} {ds:List PyData} (hR:HR K ρ H g) (r:Rel K ρ H v w) (e:ZBb w g=some ds):∃ a vs,v=.ref a/\H a=some (.lst vs)/\RelDL K ρ H vs ds:=by
 cases r with
 | ty=>cases e
 | tup _ _=>cases e
 | inp _=>cases e
 | ref h =>
  obtain ⟨a,vs,h1,h2,h3⟩:=hR.at_ _ _ (ZEG e)
  rw [h] at h1
  cases h1
  exact ⟨_,vs,rfl,h2,h3⟩
 | dat h =>
  cases h with
  | lst h n t=>cases e; exact ⟨_,_,rfl,h,t⟩
  | _=>cases e
theorem Pv.at {K:PySem.W.Frag} {ρ : Rh} {H:Hp} {g:G} {x:W} {v:V} {Q:VK} (q:Pv K ρ H x g Q) (h:HR K ρ H g) (r:Rel K ρ H v x):Q v H:=q v H ρ .refl h r
theorem Pv.new {K:PySem.W.Frag} {ρ : Rh} {H:Hp} {g:G} {ds:List PyData} {vs:List V} {Q:VK} (q:Pv K ρ H (.dat (.list ds)) g Q) (h:HR K ρ H g) (r:RelDL K ρ H vs ds) {p:Addr} (hp:H p=none):Q (.ref p) (upd H p (.lst vs)):=by
 obtain ⟨sm,hr2,hn⟩:=ZCH (o:=.lst vs) h hp
 exact q _ _ ρ (.same sm) hr2 (.dat (.lst Zo hn (r.mono (.same sm))))
theorem Pv.newT {K:PySem.W.Frag} {ρ : Rh} {H:Hp} {g:G} {ds:List PyData} {vs:List V} {Q:VK} (q:Pv K ρ H (.dat (.tuple ds)) g Q) (h:HR K ρ H g) (r:RelDL K ρ H vs ds) {p:Addr} (hp:H p=none):Q (.ref p) (upd H p (.tup vs)):=by
 obtain ⟨sm,hr2,hn⟩:=ZCH (o:=.tup vs) h hp
 exact q _ _ ρ (.same sm) hr2 (.dat (.tup (.inl ⟨.inl Zo,hn⟩) (r.mono (.same sm))))
def Z3:W->W->G->Option (W × G)
 | .dat (.int i),.dat (.int j),g=>some (.dat (.int (i+j)),g)
 | .dat (.tuple xs),.dat (.tuple ys),g=>if xs.length+ys.length<=1000 then some (.dat (.tuple (xs ++ ys)),g) else none
 | .dat (.str a),.dat (.str b),g=>if a.length+b.length<=1000 then some (.dat (.str (a ++ b)),g) else none
 | a,b,g=>(ZBb a g).bind λ xs=>(ZBb b g).bind λ ys=>if xs.length+ys.length<=1000 then some (.dat (.list (xs ++ ys)),g) else none
def opZ (c:Int->Int->Bool) (f:Int->Int->PyData):W->W->G->Option (W × G)
 | .dat (.int i),.dat (.int j),g=>if c i j=true then some (.dat (f i j),g) else none
 | _,_,_=>none
def ZEb:=opZ (λ _ _=>true) λ i j=>.int (i - j)
def ZCG:=opZ (λ _ j=>decide (0 < j)) λ i j=>.int (i % j)
def ZEo:=opZ (λ _ j=>decide (0 < j) && decide (j < 2 ^ 64)) λ i j=>.int (i / j)
def ZG0 (i j:Int):Bool:=(decide (-(2 ^ 64) < i) && decide (i < 2 ^ 64)) || (decide (-(2 ^ 64) < j) && decide (j < 2 ^ 64))
def ZBq:W->W->G->Option (W × G)
 | .dat (.int i),.dat (.int j),g=>if ZG0 i j=true then some (.dat (.int (i * j)),g) else none
 | .dat (.tuple xs),.dat (.int k),g=>if ((decide (2<=k) && decide (k<=20)) && (!xs.isEmpty && decide (xs.length<=20)))=true then some (.dat (.tuple (List.replicate k.toNat xs).flatten),g) else none
 | a,.dat (.int k),g=>(ZBb a g).bind λ xs=>if k<=1000/\-1000<=k/\xs.length<=1000 then some (.dat (.list (List.replicate k.toNat xs).flatten),g) else none
 | _,_,_=>none
section
variable {X:Cx}
theorem ZBB:OpR X (binaryOp .Add) (rOp X.K Z3):=by
 intro pins s σ H x y v u Q I rx ry h
 obtain ⟨ρ,a,b,g,z,g',hR,ra,rb,e,q⟩:=h
 have lists:((ZBb a g).bind λ xs=>(ZBb b g).bind λ ys=>if xs.length+ys.length<=1000 then some (W.dat (.list (xs ++ ys)),g) else none)=some (z,g')->wpAny (model X.prog X.w) X.A (binaryOp .Add v u) (EP X pins σ Q) X.xe s:=λ e=>by
  obtain ⟨xs,e1,e⟩:=bnd e
  obtain ⟨ys,e2,e⟩:=bnd e
  obtain ⟨l,vs,rfl,h1,t1⟩:=ZBC hR ra e1
  obtain ⟨l',us,rfl,h2,t2⟩:=ZBC hR rb e2
  split at e
  ·rename_i hz
   cases e
   exact ZNt pins s σ H _ _ v u Q I rx ry ⟨l,l',vs,us,rfl,rfl,h1,h2,by rw [t1.length,t2.length]; exact Nat.le_of_lt (Z0 hz),λ p hp=>q.new hR (t1.append t2) hp⟩
  ·cases e
 cases ra with
 | ref h=>exact lists e
 | inp h=>exact lists e
 | ty=>cases e
 | tup _ _=>cases e
 | dat ra =>
  cases ra with
  | int i =>
   cases rb with
   | dat rb =>
    cases rb with
    | int j=>cases e; exact ZPT pins s σ H _ _ v u Q I rx ry ⟨i,j,rfl,rfl,q.at hR (.dat (.int _))⟩
    | _=>cases e
   | _=>cases e
  | str i =>
   cases rb with
   | dat rb =>
    cases rb with
    | str j =>
     change (if i.length+j.length<=1000 then some (W.dat (.str (i ++ j)),g) else none)=some (z,g') at e
     split at e
     ·rename_i hz
      cases e
      exact ZI6 pins s σ H _ _ v u Q I rx ry ⟨i,j,rfl,rfl,Nat.le_of_lt (Z0 hz),q.at hR (.dat (.str _))⟩
     ·cases e
    | _=>cases e
   | _=>cases e
  | @tup a1 xs ds f1 t1 =>
   cases rb with
   | dat rb =>
    cases rb with
    | @tup a2 ys es f2 t2 =>
     change (if ds.length+es.length<=1000 then some (W.dat (.tuple (ds ++ es)),g) else none)=some (z,g') at e
     split at e
     ·rename_i hz
      cases e
      have hz':xs.length+ys.length<=sizeLine:=by rw [t1.length,t2.length]; exact Nat.le_of_lt (Z0 hz)
      cases rx
      cases ry
      obtain ⟨its,r1,p1,_⟩:=I.tuple f1.sq
      obtain ⟨its2,r2,p2,_⟩:=I.tuple f2.sq
      refine HT.cat_tupA p1 p2 (λ z=>⟨.ref a2,H,I,rfl,q.at hR (.dat ?_)⟩) (λ _ z=>⟨.ref a1,H,I,rfl,q.at hR (.dat ?_)⟩) (λ _ z=>?_) (by rw [← r1.length,← r2.length]; exact hz')
      ·have:=r1.nil_iff.mp z
       subst this
       cases t1
       exact .tup f2 t2
      ·have:=r2.nil_iff.mp z
       subst this
       cases t2
       rw [List.append_nil]
       exact .tup f1 t1
      ·exact ⟨.ref s.heap.objs.size,_,I.laid (t':=s.toks) (o:=.tup (xs ++ ys)) (λ b ob q=>Heap.get?_push_of_some _ q) (Nat.le_refl _) ⟨by rw [List.length_append]; exact hz',_,r1.append r2,IsTup.new _ _⟩,rfl,q.newT hR (t1.append t2) (I.hok.fresh (Nat.le_refl _))⟩
     ·cases e
    | _=>cases e
   | _=>cases e
  | lst h n t=>exact lists e
  | _=>cases e
theorem oI {op:Operator} {C:Int->Int->Prop} {c:Int->Int->Bool} {f:Int->Int->Int} (h:OpR X (binaryOp op) (rI C λ i j=>.int (f i j))) (hc:∀ i j,c i j=true->C i j):OpR X (binaryOp op) (rOp X.K (opZ c λ i j=>.int (f i j))):=by
 intro pins s σ H x y v u Q I rx ry hh
 obtain ⟨ρ,a,b,g,z,g',hR,ra,rb,e,q⟩:=hh
 cases ra with
 | dat ra =>
  cases ra with
  | int i =>
   cases rb with
   | dat rb =>
    cases rb with
    | int j =>
     change (if c i j=true then some (W.dat (.int (f i j)),g) else none)=some (z,g') at e
     split at e
     ·rename_i hz
      cases e
      exact h pins s σ H _ _ v u Q I rx ry ⟨i,j,rfl,rfl,hc i j hz,q.at hR (.dat (.int _))⟩
     ·cases e
    | _=>cases e
   | _=>cases e
  | _=>cases e
 | _=>cases e
theorem ZI0:OpR X (binaryOp .Sub) (rOp X.K ZEb):=oI (C:=λ _ _=>True) (ZOH.imp λ x y H Q ⟨i,j,e1,e2,_,q⟩=>⟨i,j,e1,e2,q⟩) λ _ _ _=>trivial
theorem ZFA:OpR X (binaryOp .Mod) (rOp X.K ZCG):=oI ZOj λ i j h=>of_decide_eq_true h
theorem ZJf:OpR X (binaryOp .FloorDiv) (rOp X.K ZEo):=oI ZLm λ i j h=>by
 rw [Bool.and_eq_true] at h
 exact ⟨of_decide_eq_true h.1,of_decide_eq_true h.2⟩
theorem ZNI {i j:Int} (h:ZG0 i j=true):ZMA i j:=by
 unfold ZG0 at h
 rw [Bool.or_eq_true,Bool.and_eq_true,Bool.and_eq_true] at h
 rcases h with h | h
 ·exact .inl ⟨of_decide_eq_true h.1,of_decide_eq_true h.2⟩
 ·exact .inr ⟨of_decide_eq_true h.1,of_decide_eq_true h.2⟩
theorem ZMI:OpR X (binaryOp .Mult) (λ x y H Q=>∃ (a:Addr) (k:Int) (xs:List V),x=.ref a/\y=.int k/\SqT X.K H a xs/\(2<=k/\k<=20)/\(xs ≠ []/\xs.length<=20)/\∀ p,H p=none->Q (.ref p) (upd H p (.tup (List.replicate k.toNat xs).flatten))):=by
 intro pins s σ H x y v u Q I rx ry h
 obtain ⟨a,k,xs,rfl,rfl,ha,⟨k2,k20⟩,⟨hne,h20⟩,q⟩:=h
 cases rx
 obtain ⟨t,rfl⟩:=ry
 obtain ⟨its,r,p1,_⟩:=I.tuple ha
 obtain ⟨⟨cls,dd,data,sl⟩,ho,hc,n,hd⟩:=id p1
 simp only at hc hd
 subst hc hd
 have hlen:its.length=xs.length:=r.length.symm
 have hine:its.toArray.isEmpty=false:=by
  cases its with
  | nil=>exact absurd (r.nil_iff.mp rfl) hne
  | cons _ _=>rfl
 have hmul:(List.replicate k.toNat xs).flatten.length<=400:=by
  rw [ZJc]
  exact Nat.le_trans (Nat.mul_le_mul (show k.toNat<=20 by omega) h20) (by decide)
 have hnew:List.foldl (λ x1 x2=>x1 ++ x2) #[] (List.replicate k.toNat its.toArray)=(List.replicate k.toNat its).flatten.toArray:=by
  have:=ZEg its k.toNat []
  rw [List.nil_append] at this
  exact this
 have hmI:(its.toArray.size:Int) * k<=400:=by
  rw [List.size_toArray,hlen]
  have:(xs.length:Int) * k<=20 * 20:=Int.mul_le_mul (by omega) k20 (by omega) (by decide)
  omega
 refine wpAny_binaryOp_repeat_ref (T:="tuple") (U:="int") (by decide) ⟨_,ho,rfl⟩ (λ s'=>typeIs_int s' k t) HT.noFill_tuple_mul F.fills_int_mul F.slot_int_rmul HT.repeat_tuple F.slot_int_index.lookup
  (call_meets F.slot_int_rmul (typeIs_int s k t) F.entry_int_rmul (F.args_int_rmul_2 _ _) (HT.rmul_tup k t a its.toArray n dd sl)
   ⟨ho,rfl,⟨_,ho,rfl⟩,call_meets F.slot_tuple_mul ⟨_,ho,rfl⟩ F.entry_tuple_mul (F.args_tuple_mul_2 _ _) (HT.tuple_mulW a its.toArray n dd sl k t ?_ ?_ ?_ ?_ ?_ ?_) ⟨ho,?_⟩⟩)
 ·simp; omega
 ·rw [hine]; simp; omega
 ·rw [hine]; simp; omega
 ·omega
 ·unfold Builtin.Tuple.tupleTooMany
  have:(400:Int)<=(sizeLine:Int):=by decide
  rw [decide_eq_true_iff]
  omega
 ·rw [hnew,List.size_toArray,← (r.rep k.toNat).length]
  exact Nat.le_trans hmul (by decide)
 rw [hnew]
 exact ⟨.ref s.heap.objs.size,_,I.laid (t':=s.toks) (o:=.tup (List.replicate k.toNat xs).flatten) (λ b ob q=>Heap.get?_push_of_some _ q) (Nat.le_refl _) ⟨Nat.le_trans hmul (by decide),_,r.rep k.toNat,IsTup.new _ _⟩,rfl,q _ (I.hok.fresh (Nat.le_refl _))⟩
theorem ZEl:OpR X (binaryOp .Mult) (rOp X.K ZBq):=by
 intro pins s σ H x y v u Q I rx ry h
 obtain ⟨ρ,a,b,g,z,g',hR,ra,rb,e,q⟩:=h
 have lists:∀ {k:Int},y=.int k->((ZBb a g).bind λ xs=>if k<=1000/\-1000<=k/\xs.length<=1000 then some (W.dat (.list (List.replicate k.toNat xs).flatten),g) else none)=some (z,g')->wpAny (model X.prog X.w) X.A (binaryOp .Mult v u) (EP X pins σ Q) X.xe s:=λ {k} hy e=>by
  obtain ⟨xs,e1,e⟩:=bnd e
  obtain ⟨l,vs,rfl,h1,t1⟩:=ZBC hR ra e1
  split at e
  ·rename_i hz
   obtain ⟨z1,z2,z3⟩:=hz
   cases e
   refine ZNp pins s σ H _ _ v u Q I rx ry ⟨l,k,vs,rfl,hy,h1,by omega,by omega,?_,λ p hp=>q.new hR (t1.rep _) hp⟩
   rw [t1.length]
   exact Nat.le_trans (Nat.mul_le_mul z3 (show k.toNat<=1000 by omega)) (by decide)
  ·cases e
 cases rb with
 | dat rb =>
  cases rb with
  | int j =>
   cases ra with
   | ref h=>exact lists rfl e
   | inp h=>exact lists rfl e
   | ty=>exact lists rfl e
   | tup _ _=>exact lists rfl e
   | dat ra =>
    cases ra with
    | int i =>
     change (if ZG0 i j=true then some (W.dat (.int (i * j)),g) else none)=some (z,g') at e
     split at e
     ·rename_i hz
      cases e
      exact ZNz pins s σ H _ _ v u Q I rx ry ⟨i,j,rfl,rfl,ZNI hz,q.at hR (.dat (.int _))⟩
     ·cases e
    | @tup a1 xs ds f1 t1 =>
     change (if ((decide (2<=j) && decide (j<=20)) && (!ds.isEmpty && decide (ds.length<=20)))=true then some (W.dat (.tuple (List.replicate j.toNat ds).flatten),g) else none)=some (z,g') at e
     split at e
     ·rename_i hz
      cases e
      simp only [Bool.and_eq_true,decide_eq_true_eq,Bool.not_eq_true'] at hz
      obtain ⟨⟨z1,z2⟩,z3,z4⟩:=hz
      refine ZMI pins s σ H _ _ v u Q I rx ry ⟨a1,j,xs,rfl,rfl,f1.sq,⟨z1,z2⟩,⟨λ z=>?_,by rw [t1.length]; exact z4⟩,λ p hp=>q.newT hR (t1.rep _) hp⟩
      subst z
      cases t1
      cases z3
     ·cases e
    | lst h n t=>exact lists rfl e
    | _=>exact lists rfl e
  | _=>cases ra with
   | dat ra=>cases ra <;> cases e
   | _=>cases e
 | _=>cases ra with
  | dat ra=>cases ra <;> cases e
  | _=>cases e
end
end L2
namespace L2
open PySem PySem.Spec PyProof.Rows H1
def ok0 (d:PyData):Bool:=d.canLay0 && decide (d.depth<=40)
def ZC9:W->G->Option PyData
 | .dat d,_=>some d
 | .ref n,g=>(lk g n).map .list
 | _,_=>none
def ZB0 (a b:W) (g:G):Option (W × G):=(ZC9 a g).bind λ x=>(ZC9 b g).bind λ y=>if (ok0 x && ok0 y)=true then some (.dat (.bool (x.eqv y)),g) else none
def ZBi (a b:W) (g:G):Option (W × G):=(ZC9 a g).bind λ x=>(ZC9 b g).bind λ y=>if (ok0 x && ok0 y)=true then some (.dat (.bool !x.eqv y),g) else none
def ZPH:W->G->Option (List PyData)
 | .dat (.tuple ys),_=>some ys
 | b,g=>ZBb b g
def ZCl (a b:W) (g:G):Option (W × G):=(ZC9 a g).bind λ x=>(ZPH b g).bind λ ys=>if (ok0 x && PyData.canLayAll0 ys)=true then some (.dat (.bool (ys.any λ y=>y.eqv x)),g) else none
def ZB9 (a b:W) (g:G):Option (W × G):=(ZC9 a g).bind λ x=>(ZPH b g).bind λ ys=>if (ok0 x && PyData.canLayAll0 ys)=true then some (.dat (.bool !ys.any λ y=>y.eqv x),g) else none
section
variable {X:Cx}
theorem ZA6 {pins:List (Addr × Obj)} {σ : St} {ρ : Rh} {H:Hp} {s:Shared} {g:G} {v:V} {w:W} {d:PyData} {u:Value} (I:Inv X pins σ H s) (hR:HR X.K ρ H g) (r:Rel X.K ρ H v w) (e:ZC9 w g=some d) (c:d.canLay0=true) (ru:Z8 v u):∃ as,Reads s.heap u d as:=by
 cases r with
 | ty=>cases e
 | tup _ _=>cases e
 | inp _=>cases e
 | dat r=>cases e; exact r.reads I c ru
 | ref h =>
  obtain ⟨ds,e1,rfl⟩:=mp e
  obtain ⟨a,vs,h1,h2,h3⟩:=hR.at_ _ _ (ZEG e1)
  rw [h] at h1
  cases h1
  cases ru
  obtain ⟨_,its,n,rv,e⟩:=I.hok _ _ h2
  obtain ⟨as,ra⟩:=h3.reads I (by rw [PyData.canLay0] at c; exact c) rv
  exact ⟨_,.list e rfl rfl (by simpa using ra)⟩
theorem oEq (hu:X.A.units+64 < cLine):OpR X (compareOp .Eq) (rOp X.K ZB0):=by
 intro pins s σ H x y v u Q I rx ry h
 obtain ⟨ρ,a,b,g,z,g',hR,ra,rb,e,q⟩:=h
 obtain ⟨d1,e1,e⟩:=bnd e
 obtain ⟨d2,e2,e⟩:=bnd e
 split at e
 ·rename_i hz
  cases e
  unfold ok0 at hz
  simp only [Bool.and_eq_true,decide_eq_true_eq] at hz
  obtain ⟨as,r1⟩:=ZA6 I hR ra e1 hz.1.1 rx
  obtain ⟨bs,r2⟩:=ZA6 I hR rb e2 hz.2.1 ry
  exact PySem.SeqAt.compareEq_reads r1 r2 hz.1.1 hz.2.1 (by have:=hz.1.2; omega) ⟨.bl _,H,I,rfl,q.at hR (.dat (.bl _))⟩
 ·cases e
theorem oNe (hu:X.A.units+64 < cLine):OpR X (compareOp .NotEq) (rOp X.K ZBi):=by
 intro pins s σ H x y v u Q I rx ry h
 obtain ⟨ρ,a,b,g,z,g',hR,ra,rb,e,q⟩:=h
 obtain ⟨d1,e1,e⟩:=bnd e
 obtain ⟨d2,e2,e⟩:=bnd e
 split at e
 ·rename_i hz
  cases e
  unfold ok0 at hz
  simp only [Bool.and_eq_true,decide_eq_true_eq] at hz
  obtain ⟨as,r1⟩:=ZA6 I hR ra e1 hz.1.1 rx
  obtain ⟨bs,r2⟩:=ZA6 I hR rb e2 hz.2.1 ry
  exact PySem.SeqAt.compareNe_reads r1 r2 hz.1.1 hz.2.1 (by have:=hz.1.2; omega) ⟨.bl _,H,I,rfl,q.at hR (.dat (.bl _))⟩
 ·cases e
theorem ZGe {pins:List (Addr × Obj)} {σ : St} {ρ : Rh} {H:Hp} {s:Shared} {g:G} {v:V} {w:W} {ds:List PyData} {u:Value} (I:Inv X pins σ H s) (hR:HR X.K ρ H g) (r:Rel X.K ρ H v w) (e:ZPH w g=some ds) (c:PyData.canLayAll0 ds=true) (ru:Z8 v u):(∃ as,Reads s.heap u (.list ds) as) ∨ ∃ as,Reads s.heap u (.tuple ds) as:=by
 cases r with
 | ty=>cases e
 | tup _ _=>cases e
 | inp _=>cases e
 | ref h=>exact .inl (ZA6 I hR (.ref h) (show ZC9 (.ref _) g=some (.list ds) by show (lk g _).map PyData.list=_; rw [show lk g _=some ds from e]; rfl) (by rw [PyData.canLay0]; exact c) ru)
 | dat r =>
  cases r with
  | tup f t=>cases e; exact .inr ((RelD.tup f t).reads I (by rw [PyData.canLay0]; exact c) ru)
  | lst h n t=>cases e; exact .inl ((RelD.lst h n t).reads I (by rw [PyData.canLay0]; exact c) ru)
  | _=>cases e
theorem oIn (hu:X.A.units+64 < cLine):OpR X (compareOp .In) (rOp X.K ZCl):=by
 intro pins s σ H x y v u Q I rx ry h
 obtain ⟨ρ,a,b,g,z,g',hR,ra,rb,e,q⟩:=h
 obtain ⟨d1,e1,e⟩:=bnd e
 obtain ⟨ds,e2,e⟩:=bnd e
 split at e
 ·rename_i hz
  cases e
  unfold ok0 at hz
  simp only [Bool.and_eq_true,decide_eq_true_eq] at hz
  obtain ⟨as,r1⟩:=ZA6 I hR ra e1 hz.1.1 rx
  have hd:X.A.units+1+min (PyData.depthAll ds) d1.depth < cLine:=by have:=hz.1.2; have:=Nat.min_le_right (PyData.depthAll ds) d1.depth; omega
  rcases ZGe I hR rb e2 hz.2 ry with ⟨bs,r2⟩ | ⟨bs,r2⟩
  ·exact PySem.SeqAt.in_list_reads r2 r1 hz.2 hz.1.1 hd ⟨.bl _,H,I,rfl,q.at hR (.dat (.bl _))⟩
  ·exact PySem.SeqAt.in_tuple_reads r2 r1 hz.2 hz.1.1 hd ⟨.bl _,H,I,rfl,q.at hR (.dat (.bl _))⟩
 ·cases e
theorem ZF7 (hu:X.A.units+64 < cLine):OpR X (compareOp .NotIn) (rOp X.K ZB9):=by
 intro pins s σ H x y v u Q I rx ry h
 obtain ⟨ρ,a,b,g,z,g',hR,ra,rb,e,q⟩:=h
 obtain ⟨d1,e1,e⟩:=bnd e
 obtain ⟨ds,e2,e⟩:=bnd e
 split at e
 ·rename_i hz
  cases e
  unfold ok0 at hz
  simp only [Bool.and_eq_true,decide_eq_true_eq] at hz
  obtain ⟨as,r1⟩:=ZA6 I hR ra e1 hz.1.1 rx
  have hd:X.A.units+1+min (PyData.depthAll ds) d1.depth < cLine:=by have:=hz.1.2; have:=Nat.min_le_right (PyData.depthAll ds) d1.depth; omega
  rcases ZGe I hR rb e2 hz.2 ry with ⟨bs,r2⟩ | ⟨bs,r2⟩
  ·exact PySem.SeqAt.notIn_list_reads r2 r1 hz.2 hz.1.1 hd ⟨.bl _,H,I,rfl,q.at hR (.dat (.bl _))⟩
  ·exact PySem.SeqAt.notIn_tuple_reads r2 r1 hz.2 hz.1.1 hd ⟨.bl _,H,I,rfl,q.at hR (.dat (.bl _))⟩
 ·cases e
end
def ZBK:List PyData->Option (List Int)
 | []=>some []
 | .int i :: r=>(ZBK r).map λ ns=>i :: ns
 | _ :: _=>none
theorem ZA8 {K:PySem.W.Frag} {ρ : Rh} {H:Hp}:∀ {vs:List V} {ds:List PyData} {ns:List Int},RelDL K ρ H vs ds->ZBK ds=some ns->vs=ns.map V.int
 | _,_,_,.nil,e=>by cases e; rfl
 | _,_,_,.cons (.int i) t,e=>by
  obtain ⟨ms,e1,rfl⟩:=mp e
  rw [ZA8 t e1]
  rfl
 | _,_,_,.cons .non _,e=>by cases e
 | _,_,_,.cons (.bl _) _,e=>by cases e
 | _,_,_,.cons (.str _) _,e=>by cases e
 | _,_,_,.cons (.tup _ _) _,e=>by cases e
 | _,_,_,.cons (.lst _ _ _) _,e=>by cases e
 | _,_,_,.cons (.dct _ _) _,e=>by cases e
def ZGA:W->W->G->Option (W × G)
 | .dat (.int i),.dat (.int j),g=>some (.dat (.bool (decide (i < j))),g)
 | .dat (.tuple xs),.dat (.tuple ys),g=>(ZBK xs).bind λ ns=>(ZBK ys).map λ ms=>(.dat (.bool (HT.lexLt ns ms)),g)
 | .dat (.str a),.dat (.str b),g=>some (.dat (.bool (decide (a.cps.toList < b.cps.toList))),g)
 | _,_,_=>none
def ZLG:W->W->G->Option (W × G)
 | .dat (.int i),.dat (.int j),g=>some (.dat (.bool (decide (j < i))),g)
 | .dat (.tuple xs),.dat (.tuple ys),g=>(ZBK xs).bind λ ns=>(ZBK ys).map λ ms=>(.dat (.bool (HT.lexGt ns ms)),g)
 | _,_,_=>none
def ZPA:W->W->G->Option (W × G)
 | .dat (.int i),.dat (.int j),g=>some (.dat (.bool (decide (j<=i))),g)
 | .dat (.tuple xs),.dat (.tuple ys),g=>(ZBK xs).bind λ ns=>(ZBK ys).map λ ms=>(.dat (.bool (HT.lexGe ns ms)),g)
 | _,_,_=>none
section
variable {X:Cx}
theorem oLt (hu:X.A.units+64 < cLine):OpR X (compareOp .Lt) (rOp X.K ZGA):=by
 intro pins s σ H x y v u Q I rx ry h
 obtain ⟨ρ,a,b,g,z,g',hR,ra,rb,e,q⟩:=h
 cases ra with
 | dat ra =>
  cases rb with
  | dat rb =>
   cases ra with
   | int i =>
    cases rb with
    | int j=>cases e; exact op_lt pins s σ H _ _ v u Q I rx ry ⟨i,j,rfl,rfl,q.at hR (.dat (.bl _))⟩
    | _=>cases e
   | str i =>
    cases rb with
    | str j=>cases e; exact ZKZ pins s σ H _ _ v u Q I rx ry ⟨i,j,rfl,rfl,q.at hR (.dat (.bl _))⟩
    | _=>cases e
   | tup f1 t1 =>
    cases rb with
    | tup f2 t2 =>
     obtain ⟨ns,e1,e⟩:=bnd e
     obtain ⟨ms,e2,e⟩:=mp e
     cases e
     have i1:=ZA8 t1 e1
     have i2:=ZA8 t2 e2
     subst i1 i2
     exact ZO8 (by omega) pins s σ H _ _ v u Q I rx ry ⟨_,_,ns,ms,rfl,rfl,f1.sq,f2.sq,q.at hR (.dat (.bl _))⟩
    | _=>cases e
   | _=>cases e
  | _=>cases ra <;> cases e
 | _=>cases e
theorem oGt (hu:X.A.units+64 < cLine):OpR X (compareOp .Gt) (rOp X.K ZLG):=by
 intro pins s σ H x y v u Q I rx ry h
 obtain ⟨ρ,a,b,g,z,g',hR,ra,rb,e,q⟩:=h
 cases ra with
 | dat ra =>
  cases rb with
  | dat rb =>
   cases ra with
   | int i =>
    cases rb with
    | int j=>cases e; exact op_gt pins s σ H _ _ v u Q I rx ry ⟨i,j,rfl,rfl,q.at hR (.dat (.bl _))⟩
    | _=>cases e
   | tup f1 t1 =>
    cases rb with
    | tup f2 t2 =>
     obtain ⟨ns,e1,e⟩:=bnd e
     obtain ⟨ms,e2,e⟩:=mp e
     cases e
     have i1:=ZA8 t1 e1
     have i2:=ZA8 t2 e2
     subst i1 i2
     exact ZN7 (by omega) pins s σ H _ _ v u Q I rx ry ⟨_,_,ns,ms,rfl,rfl,f1.sq,f2.sq,q.at hR (.dat (.bl _))⟩
    | _=>cases e
   | _=>cases e
  | _=>cases ra <;> cases e
 | _=>cases e
theorem oGe (hu:X.A.units+64 < cLine):OpR X (compareOp .GtE) (rOp X.K ZPA):=by
 intro pins s σ H x y v u Q I rx ry h
 obtain ⟨ρ,a,b,g,z,g',hR,ra,rb,e,q⟩:=h
 cases ra with
 | dat ra =>
  cases rb with
  | dat rb =>
   cases ra with
   | int i =>
    cases rb with
    | int j=>cases e; exact op_ge pins s σ H _ _ v u Q I rx ry ⟨i,j,rfl,rfl,q.at hR (.dat (.bl _))⟩
    | _=>cases e
   | tup f1 t1 =>
    cases rb with
    | tup f2 t2 =>
     obtain ⟨ns,e1,e⟩:=bnd e
     obtain ⟨ms,e2,e⟩:=mp e
     cases e
     have i1:=ZA8 t1 e1
     have i2:=ZA8 t2 e2
     subst i1 i2
     exact ZOz (by omega) pins s σ H _ _ v u Q I rx ry ⟨_,_,ns,ms,rfl,rfl,f1.sq,f2.sq,q.at hR (.dat (.bl _))⟩
    | _=>cases e
   | _=>cases e
  | _=>cases ra <;> cases e
 | _=>cases e
def Zm:W->W->G->Option (W × G)
 | .dat (.tuple ds),.dat (.int i),g=>(atI ds i).map λ d=>(.dat d,g)
 | .inp ns,.dat (.int i),g=>(atI ns i).map λ d=>(.dat (.int d),g)
 | .tup ws,.dat (.int i),g=>(atI ws i).map λ w=>(w,g)
 | .ref n,.dat (.int i),g=>match g[n]? with
  | some (.pl ds)=>(atI ds i).map λ d=>(.dat d,g)
  | some (.rl ws)=>(atI ws i).map λ w=>(w,g)
  | _=>none
 | a,.dat (.int i),g=>(ZBb a g).bind λ ds=>(atI ds i).map λ d=>(.dat d,g)
 | _,_,_=>none
theorem ZG4 {K:PySem.W.Frag} {ρ : Rh} {H:Hp} {vs:List V} {ds:List PyData} {i:Int} {d:PyData} (t:RelDL K ρ H vs ds) (e:atI ds i=some d):∃ v,atI vs i=some v/\RelD K ρ H v d:=by
 unfold atI at *
 rw [t.length]
 obtain ⟨j,e1,e2⟩:=bnd e
 rw [e1]
 exact t.getD e2
theorem ZH4 {K:PySem.W.Frag} {ρ : Rh} {H:Hp} {vs:List V} {ds:List W} {i:Int} {d:W} (t:RelL K ρ H vs ds) (e:atI ds i=some d):∃ v,atI vs i=some v/\Rel K ρ H v d:=by
 unfold atI at *
 rw [t.length]
 obtain ⟨j,e1,e2⟩:=bnd e
 rw [e1]
 exact t.getD e2
theorem oIx:IxR X (rOp X.K Zm):=by
 intro value slice pins s σ H x y v u Q I rx ry h hs
 obtain ⟨ρ,a,b,g,z,g',hR,ra,rb,e,q⟩:=h
 cases rb with
 | dat rb =>
  cases rb with
  | int i =>
   have lists:((ZBb a g).bind λ ds=>(atI ds i).map λ d=>(W.dat d,g))=some (z,g')->wpAny (model X.prog X.w) X.A (subscriptTail value slice v u) (EP X pins σ Q) X.xe s:=λ e=>by
    obtain ⟨xs,e1,e⟩:=bnd e
    obtain ⟨d,e2,e⟩:=mp e
    cases e
    obtain ⟨l,vs,rfl,h1,t1⟩:=ZBC hR ra e1
    obtain ⟨w,e3,r3⟩:=ZG4 t1 e2
    exact ZEQ value slice pins s σ H _ _ v u Q I rx ry ⟨l,vs,i,w,rfl,rfl,SqL.of h1,e3,q.at hR (.dat r3)⟩ hs
   cases ra with
   | @ref a n h =>
    change (match g[n]? with | some (.pl ds)=>(atI ds i).map λ d=>(W.dat d,g) | some (.rl ws)=>(atI ws i).map λ w=>(w,g) | _=>none)=some (z,g') at e
    split at e
    ·rename_i ds e1
     obtain ⟨d,e2,e⟩:=mp e
     cases e
     obtain ⟨a',vs,k1,k2,k3⟩:=hR.at_ _ _ e1
     rw [h] at k1
     cases k1
     obtain ⟨w,e3,r3⟩:=ZG4 k3 e2
     exact ZEQ value slice pins s σ H _ _ v u Q I rx ry ⟨a,vs,i,w,rfl,rfl,SqL.of k2,e3,q.at hR (.dat r3)⟩ hs
    ·rename_i ws e1
     obtain ⟨d,e2,e⟩:=mp e
     cases e
     obtain ⟨a',k1,vs,k2,k3⟩:=hR.ce _ _ e1
     rw [h] at k1
     cases k1
     obtain ⟨w,e3,r3⟩:=ZH4 k3 e2
     exact ZEQ value slice pins s σ H _ _ v u Q I rx ry ⟨a,vs,i,w,rfl,rfl,SqL.of k2,e3,q.at hR r3⟩ hs
    ·cases e
   | ty=>exact lists e
   | tup f t =>
    obtain ⟨d,e2,e⟩:=mp e
    cases e
    obtain ⟨w,e3,r3⟩:=ZH4 t e2
    exact ZLB value slice pins s σ H _ _ v u Q I rx ry ⟨_,_,i,w,rfl,rfl,f.sq,e3,q.at hR r3⟩ hs
   | @inp a ns h =>
    obtain ⟨d,e2,e⟩:=mp e
    cases e
    refine ZEQ value slice pins s σ H _ _ v u Q I rx ry ⟨a,_,i,.int d,rfl,rfl,h.sq,?_,q.at hR (.dat (.int _))⟩ hs
    unfold atI at *
    rw [List.length_map]
    obtain ⟨j,e1,e2⟩:=bnd e2
    rw [e1]
    show (ns.map V.int)[j]? = _
    rw [List.getElem?_map,e2]
    rfl
   | dat ra =>
    cases ra with
    | tup f t =>
     obtain ⟨d,e2,e⟩:=mp e
     cases e
     obtain ⟨w,e3,r3⟩:=ZG4 t e2
     exact ZLB value slice pins s σ H _ _ v u Q I rx ry ⟨_,_,i,w,rfl,rfl,f.sq,e3,q.at hR (.dat r3)⟩ hs
    | lst h n t=>exact lists e
    | _=>exact lists e
  | _=>cases ra with
   | dat ra=>cases ra <;> cases e
   | _=>cases e
 | _=>cases ra with
  | dat ra=>cases ra <;> cases e
  | _=>cases e
abbrev DO:=Sd->G->Option (Option Int × G)
def tO (K:PySem.W.Frag) (d:DO):TO:=λ σ H Q=>∃ ρ sd g i g',Rst K ρ H σ sd g/\d sd g=some (i,g')/\∀ H' ρ',Stp ρ H ρ' H'->HR K ρ' H' g'->Q i H'
theorem PO.imp {e:Option Expr} {t u:TO} (h:PO X e t) (k:∀ σ H Q,u σ H Q->t σ H Q):PO X e u:=λ pins s σ H Q I q=>h pins s σ H Q I (k σ H Q q)
def ZAj:DO:=λ _ g=>some (none,g)
def ZB2 (d:DE):DO:=λ sd g=>(d sd g).bind λ p=>match p.1 with | .dat (.int i)=>some (some i,p.2) | _=>none
theorem ZMH:PO X none (tO X.K ZAj):=ZMJ.imp λ σ H Q ⟨ρ,sd,g,i,g',r,e,q⟩=>by
 cases e
 exact q H ρ .refl r.hr
theorem ZNK {e:Expr} {d:DE} (h:PE X e (tE X.K d)):PO X (some e) (tO X.K (ZB2 d)):=(ZL6 h).imp λ σ H Q ⟨ρ,sd,g,i,g',r,e,q⟩=>by
 obtain ⟨⟨x,g1⟩,e1,e⟩:=bnd e
 refine ⟨ρ,sd,g,x,g1,r,e1,λ v H1 ρ1 s1 h1 r1=>?_⟩
 cases r1 with
 | dat r1 =>
  cases r1 with
  | int j=>cases e; exact ⟨j,rfl,q H1 ρ1 s1 h1⟩
  | _=>cases e
 | _=>cases e
def ZBz {α : Type} (xs:List α) (lo hi:Option Int):List α:=(xs.drop (HT.sIx xs.length 0 lo)).take (HT.sIx xs.length xs.length hi - HT.sIx xs.length 0 lo)
def slO (w:W) (lo hi:Option Int) (g:G):Option (W × G):=match w with
 | .dat (.tuple ds)=>some (.dat (.tuple (ZBz ds lo hi)),g)
 | .inp ns=>some (.dat (.list (ZBz (ns.map .int) lo hi)),g)
 | w=>(ZBb w g).map λ ds=>(.dat (.list (ZBz ds lo hi)),g)
def dSl (d:DE) (l h:DO):DE:=λ sd g=>(d sd g).bind λ p=>(l sd p.2).bind λ a=>(h sd a.2).bind λ b=>slO p.1 a.1 b.1 b.2
theorem ZHc {K:PySem.W.Frag} {ρ : Rh} {H:Hp} {vs:List V} {ds:List PyData} (t:RelDL K ρ H vs ds) (lo hi:Option Int):RelDL K ρ H (ZGv vs lo hi) (ZBz ds lo hi):=by
 unfold ZGv ZBz
 rw [t.length]
 exact (t.drop _).take _
theorem ZOw:SlR X (λ x lo hi H Q=>∃ ρ w g z g',HR X.K ρ H g/\Rel X.K ρ H x w/\slO w lo hi g=some (z,g')/\Pv X.K ρ H z g' Q):=by
 intro pins s σ H x v vl vu lo hi sl Q I rx hs pl pu h
 obtain ⟨ρ,w,g,z,g',hR,rw_,e,q⟩:=h
 have lists:((ZBb w g).map λ ds=>(W.dat (.list (ZBz ds lo hi)),g))=some (z,g')->∃ T id,typeLookup (.type T) "__getitem__" = pure (some (.builtin id))/\s.TypeIs v T/\wpAny (model X.prog X.w) X.A (getItem v (.ref sl)) (EP X pins σ Q) X.xe s:=λ e=>by
  obtain ⟨ds,e1,e⟩:=mp e
  cases e
  obtain ⟨l,vs,rfl,h1,t1⟩:=ZBC hR rw_ e1
  exact ZJi pins s σ H _ v vl vu lo hi sl Q I rx hs pl pu ⟨l,vs,rfl,SqL.of h1,λ p hp=>q.new hR (ZHc t1 lo hi) hp⟩
 cases rw_ with
 | ref h=>exact lists e
 | ty=>exact lists e
 | tup _ _=>exact lists e
 | inp h =>
  cases e
  exact ZJi pins s σ H _ v vl vu lo hi sl Q I rx hs pl pu ⟨_,_,rfl,h.sq,λ p hp=>q.new hR (ZHc RelDL.ofInts lo hi) hp⟩
 | dat r =>
  cases r with
  | @tup a xs ds f t =>
   cases e
   refine ZMz pins s σ H _ v vl vu lo hi sl Q I rx hs pl pu ⟨_,_,rfl,f.sq,λ hw=>?_,λ _ p hp=>q.newT hR (ZHc t lo hi) hp⟩
   refine q.at hR (.dat ?_)
   have e:ZBz ds lo hi=ds:=by
    unfold ZBz
    rw [← t.length,hw.1,hw.2,t.length]
    simp
   rw [e]
   exact .tup f t
  | lst h n t=>exact lists e
  | _=>exact lists e
theorem de_sl {e:Expr} {lo hi:Option Expr} {d:DE} {l h:DO} {pos p2:Pos} (he:PE X e (tE X.K d)) (hl:PO X lo (tO X.K l)) (hh:PO X hi (tO X.K h)):PE X (.Subscript e (.Slice lo hi none p2) pos) (tE X.K (dSl d l h)):=(ZLq ZOw he hl hh).imp λ σ H Q ⟨ρ,sd,g,x,g',r,e,q⟩=>by
 obtain ⟨⟨y,g1⟩,e1,e⟩:=bnd e
 obtain ⟨⟨i,g2⟩,e2,e⟩:=bnd e
 obtain ⟨⟨j,g3⟩,e3,e⟩:=bnd e
 refine ⟨ρ,sd,g,y,g1,r,e1,λ v H1 ρ1 s1 h1 r1=>⟨ρ1,sd,g1,i,g2,r.step s1 h1,e2,λ H2 ρ2 s2 h2=>⟨ρ2,sd,g2,j,g3,r.step (s1.trans s2) h2,e3,λ H3 ρ3 s3 h3=>?_⟩⟩⟩
 exact ⟨ρ3,y,g3,x,g',h3,r1.mono (s2.trans s3),e,q.step (s1.trans (s2.trans s3))⟩
end
end L2
namespace L2
open PySem PySem.Spec PyProof.Rows H1
def f1 (f:W->G->Option (W × G)):List W->G->Option (W × G)
 | [w],g=>f w g
 | _,_=>none
def ZCi:W->G->Option (W × G)
 | .dat (.tuple ds),g=>some (.dat (.int (ds.length:Int)),g)
 | .inp ns,g=>some (.dat (.int (ns.length:Int)),g)
 | .ref n,g=>match g[n]? with
  | some (.pl ds)=>some (.dat (.int (ds.length:Int)),g)
  | some (.rl ws)=>some (.dat (.int (ws.length:Int)),g)
  | _=>none
 | w,g=>(ZBb w g).map λ ds=>(.dat (.int (ds.length:Int)),g)
def ZJM:W->G->Option (W × G)
 | .dat (.int i),g=>some (.dat (.int i),g)
 | .dat (.bool b),g=>some (.dat (.int (if b=true then 1 else 0)),g)
 | _,_=>none
def ZOb:W->G->Option (W × G)
 | .dat (.int i),g=>some (.dat (.int (if i < 0 then -i else i)),g)
 | _,_=>none
def ZDR:W->G->Option (W × G)
 | .dat (.tuple ds),g=>some (.dat (.tuple ds),g)
 | w,g=>(ZBb w g).map λ ds=>(.dat (.tuple ds),g)
def ZDe:List PyData->Option (List Bool)
 | []=>some []
 | .bool i :: r=>(ZDe r).map λ ns=>i :: ns
 | _ :: _=>none
def ZJw (w:W) (g:G):Option (W × G):=(ZBb w g).bind λ ds=>(ZDe ds).map λ bs=>(.dat (.bool (bs.all id)),g)
def ZPm:List W->G->Option (W × G)
 | [.dat (.int i),.dat (.int j)],g=>some (.dat (.int (if j < i then j else i)),g)
 | _,_=>none
section
variable {X:Cx}
theorem c1 {f:Value} {fn:W->G->Option (W × G)} {r:List V->Hp->VK->Prop} (h:ZAG X f r) (k:∀ ρ H g x w z g' Q,HR X.K ρ H g->Rel X.K ρ H x w->fn w g=some (z,g')->Pv X.K ρ H z g' Q->r [x] H Q):ZAG X f (rF X.K (f1 fn)):=h.imp λ xs H Q ⟨ρ,ws,g,z,g',hR,rl,e,q⟩=>by
 cases rl with
 | nil=>cases e
 | cons r1 t =>
  cases t with
  | nil=>exact k ρ H g _ _ z g' Q hR r1 e q
  | cons _ _=>cases e
theorem ZDF:ZAG X (.builtin "len") (rF X.K (f1 ZCi)):=c1 ZHB λ ρ H g x w z g' Q hR r e q=>by
 have lists:((ZBb w g).map λ ds=>(W.dat (.int (ds.length:Int)),g))=some (z,g')->∃ p ys,[x]=[V.ref p]/\(SqL X.K H p ys ∨ SqT X.K H p ys)/\Q (.int ys.length) H:=λ e=>by
  obtain ⟨ds,e1,e⟩:=mp e
  cases e
  obtain ⟨l,vs,rfl,h1,t1⟩:=ZBC hR r e1
  exact ⟨l,vs,rfl,.inl (SqL.of h1),q.at hR (by rw [t1.length]; exact .dat (.int _))⟩
 cases r with
 | @ref a n h =>
  change (match g[n]? with | some (.pl ds)=>some (W.dat (.int (ds.length:Int)),g) | some (.rl ws)=>some (W.dat (.int (ws.length:Int)),g) | _=>none)=some (z,g') at e
  split at e
  ·rename_i ds e1
   cases e
   obtain ⟨a',vs,k1,k2,k3⟩:=hR.at_ _ _ e1
   rw [h] at k1
   cases k1
   exact ⟨a,vs,rfl,.inl (SqL.of k2),q.at hR (by rw [k3.length]; exact .dat (.int _))⟩
  ·rename_i ds e1
   cases e
   obtain ⟨a',k1,vs,k2,k3⟩:=hR.ce _ _ e1
   rw [h] at k1
   cases k1
   exact ⟨a,vs,rfl,.inl (SqL.of k2),q.at hR (by rw [k3.length]; exact .dat (.int _))⟩
  ·cases e
 | ty=>exact lists e
 | tup _ _=>exact lists e
 | inp h=>cases e; exact ⟨_,_,rfl,.inl h.sq,q.at hR (by rw [List.length_map]; exact .dat (.int _))⟩
 | dat r =>
  cases r with
  | tup f t=>cases e; exact ⟨_,_,rfl,.inr f.sq,q.at hR (by rw [t.length]; exact .dat (.int _))⟩
  | lst h n t=>exact lists e
  | _=>exact lists e
theorem ZKT:ZAG X (.type "int") (rF X.K (f1 ZJM)):=c1 ZKA λ ρ H g x w z g' Q hR r e q=>by
 cases r with
 | dat r =>
  cases r with
  | int i=>cases e; exact .inl ⟨i,rfl,q.at hR (.dat (.int _))⟩
  | bl b=>cases e; exact .inr ⟨b,rfl,q.at hR (.dat (.int _))⟩
  | _=>cases e
 | _=>cases e
theorem ZPn:ZAG X (.builtin "abs") (rF X.K (f1 ZOb)):=c1 ZLN λ ρ H g x w z g' Q hR r e q=>by
 cases r with
 | dat r =>
  cases r with
  | int i=>cases e; exact ⟨i,rfl,q.at hR (.dat (.int _))⟩
  | _=>cases e
 | _=>cases e
theorem ZDy:ZAG X (.type "tuple") (rF X.K (f1 ZDR)):=c1 ZGN λ ρ H g x w z g' Q hR r e q=>by
 have lists:((ZBb w g).map λ ds=>(W.dat (.tuple ds),g))=some (z,g')->∃ p ys,[x]=[V.ref p]/\((SqL X.K H p ys/\∀ l,H l=none->Q (.ref l) (upd H l (.tup ys))) ∨ (SqT X.K H p ys/\Q (.ref p) H)):=λ e=>by
  obtain ⟨ds,e1,e⟩:=mp e
  cases e
  obtain ⟨l,vs,rfl,h1,t1⟩:=ZBC hR r e1
  exact ⟨l,vs,rfl,.inl ⟨SqL.of h1,λ p hp=>q.newT hR t1 hp⟩⟩
 cases r with
 | ref h=>exact lists e
 | ty=>exact lists e
 | tup _ _=>exact lists e
 | inp h=>exact lists e
 | dat r =>
  cases r with
  | tup f t=>cases e; exact ⟨_,_,rfl,.inr ⟨f.sq,q.at hR (.dat (.tup f t))⟩⟩
  | lst h n t=>exact lists e
  | _=>exact lists e
theorem ZEy {K:PySem.W.Frag} {ρ : Rh} {H:Hp}:∀ {vs:List V} {ds:List PyData} {ns:List Bool},RelDL K ρ H vs ds->ZDe ds=some ns->vs=ns.map V.bl
 | _,_,_,.nil,e=>by cases e; rfl
 | _,_,_,.cons (.bl i) t,e=>by
  obtain ⟨ms,e1,rfl⟩:=mp e
  rw [ZEy t e1]
  rfl
 | _,_,_,.cons .non _,e=>by cases e
 | _,_,_,.cons (.int _) _,e=>by cases e
 | _,_,_,.cons (.str _) _,e=>by cases e
 | _,_,_,.cons (.tup _ _) _,e=>by cases e
 | _,_,_,.cons (.lst _ _ _) _,e=>by cases e
 | _,_,_,.cons (.dct _ _) _,e=>by cases e
theorem cAll (hc:X.calm=true):ZAG X (.builtin "all") (rF X.K (f1 ZJw)):=c1 (ZK9 hc) λ ρ H g x w z g' Q hR r e q=>by
 obtain ⟨ds,e1,e⟩:=bnd e
 obtain ⟨bs,e2,e⟩:=mp e
 cases e
 obtain ⟨l,vs,rfl,h1,t1⟩:=ZBC hR r e1
 have:=ZEy t1 e2
 subst this
 exact ⟨l,bs,rfl,SqL.of h1,q.at hR (.dat (.bl _))⟩
theorem cMin (hc:X.calm=true):ZAG X (.builtin "min") (rF X.K ZPm):=(ZKF hc).imp λ xs H Q ⟨ρ,ws,g,z,g',hR,rl,e,q⟩=>by
 cases rl with
 | nil=>cases e
 | cons r1 t =>
  cases t with
  | nil=>cases r1 with
   | dat r1=>cases r1 <;> cases e
   | _=>cases e
  | cons r2 t =>
   cases r1 with
   | dat r1 =>
    cases r1 with
    | int i =>
     cases r2 with
     | dat r2 =>
      cases r2 with
      | int j =>
       cases t with
       | nil=>cases e; exact ⟨i,j,rfl,q.at hR (.dat (.int _))⟩
       | cons _ _=>cases e
      | _=>cases e
     | _=>cases e
    | _=>cases e
   | _=>cases e
end
end L2
namespace L2
open PySem PySem.Spec PyProof.Rows H1
def ZIR (ns:List Int):List Int:=ns.mergeSort λ a b=>decide (a<=b)
theorem ZLg {ns ms:List Int} (pm:ms.Perm ns) (pw:ms.Pairwise (· <= ·)):ms=ZIR ns:=by
 refine List.Perm.eq_of_pairwise (le:=λ a b:Int=>a<=b) (λ a b _ _ h1 h2=>Int.le_antisymm h1 h2) pw ?_ (pm.trans (List.mergeSort_perm _ _).symm)
 refine List.Pairwise.imp (λ {a b} h=>of_decide_eq_true h) (List.pairwise_mergeSort (le:=λ a b:Int=>decide (a<=b)) (λ a b c h1 h2=>?_) (λ a b=>?_) ns)
 ·exact decide_eq_true (Int.le_trans (of_decide_eq_true h1) (of_decide_eq_true h2))
 ·rw [Bool.or_eq_true,decide_eq_true_iff,decide_eq_true_iff]
  exact Int.le_total a b
def ZEx (ks:List (Int × Int)):List (Int × Int):=ks.mergeSort λ a b=>!gtW a b
theorem ZLa {ks js:List (Int × Int)} (pm:js.Perm ks) (pw:js.Pairwise (λ a b=>gtW b a=true)):js=ZEx ks:=by
 have ha:∀ a b:Int × Int,(!gtW a b)=true ↔ a.1 < b.1 ∨ (a.1=b.1/\a.2<=b.2):=λ a b=>by
  rw [Bool.not_eq_true',← Bool.not_eq_true,ZCT]
  omega
 refine List.Perm.eq_of_pairwise (le:=λ a b:Int × Int=>(!gtW a b)=true) (λ a b _ _ h1 h2=>?_) (pw.imp λ {a b} h=>?_) ?_ (pm.trans (List.mergeSort_perm _ _).symm)
 ·rw [ha] at h1 h2
  exact Prod.ext (by omega) (by omega)
 ·rw [ha]
  rw [ZCT] at h
  omega
 ·refine List.pairwise_mergeSort (le:=λ a b=>!gtW a b) (λ a b c h1 h2=>?_) (λ a b=>?_) ks
  ·rw [ha] at *
   omega
  ·rw [Bool.or_eq_true,ha,ha]
   omega
def ZJN:PyData->Option (Int × Int)
 | .tuple [.int i,.int j]=>some (i,j)
 | _=>none
theorem ZKb {d:PyData} {k:Int × Int} (h:ZJN d=some k):d=ZY k:=by
 unfold ZJN at h
 split at h
 ·cases h; rfl
 ·cases h
def pairsOf:List PyData->Option (List (Int × Int))
 | []=>some []
 | d :: r=>(ZJN d).bind λ k=>(pairsOf r).map λ ns=>k :: ns
theorem ZFW:∀ {ds:List PyData} {ks:List (Int × Int)},pairsOf ds=some ks->ds=ks.map ZY
 | [],_,e=>by cases e; rfl
 | d :: r,_,e=>by
  rw [pairsOf] at e
  obtain ⟨k,e0,e⟩:=bnd e
  obtain ⟨ms,e1,rfl⟩:=mp e
  rw [ZFW e1,ZKb e0]
  rfl
def ZHg (w:W) (g:G):Option (W × G):=(ZBb w g).bind λ ds=>match ZBK ds with
 | some ns=>if ns.length < 64 then some (.dat (.list ((ZIR ns).map .int)),g) else none
 | none=>(pairsOf ds).bind λ ks=>if ks.Nodup/\ks.length<=6 then some (.dat (.list ((ZEx ks).map ZY)),g) else none
section
variable {X:Cx} {pins:List (Addr × Obj)} {σ : St} {H:Hp} {s:Shared} {ρ : Rh}
theorem RelD.tupI {K:PySem.W.Frag} {v:V} {ds:List PyData} (h:RelD K ρ H v (.tuple ds)):∃ a xs,v=.ref a/\FzT K ρ H a xs/\RelDL K ρ H xs ds:=by
 cases h with
 | tup f t=>exact ⟨_,_,rfl,f,t⟩
theorem RelD.pairI {K:PySem.W.Frag} {v:V} {k:Int × Int} (h:RelD K ρ H v (ZY k)):∃ a,v=.ref a/\FzT K ρ H a [.int k.1,.int k.2]:=by
 obtain ⟨a,xs,rfl,f,t⟩:=RelD.tupI (ds:=[.int k.1,.int k.2]) h
 have:=RelDL.ints (ns:=[k.1,k.2]) t
 subst this
 exact ⟨a,rfl,f⟩
theorem ZKY (I:Inv X pins σ H s):∀ {ks:List (Int × Int)} {ys:List V} {its:List Value},RelDL X.K ρ H ys (ks.map ZY)->Zp ys its->PairsIn s.heap its ks:=by
 intro ks
 induction ks with
 | nil =>
  intro ys its t r
  cases t
  cases r
  exact .nil
 | cons k ks ih =>
  intro ys its t r
  rw [List.map_cons] at t
  cases t with
  | cons t1 t2 =>
   obtain ⟨a,rfl,f⟩:=RelD.pairI t1
   cases r with
   | cons r1 r2 =>
    cases r1
    obtain ⟨i2,v,it,_⟩:=I.tuple f.sq
    cases v with
    | cons v1 v2=>cases v2 with
     | cons v2 v3 =>
      cases v3
      obtain ⟨t,rfl⟩:=v1
      obtain ⟨u,rfl⟩:=v2
      exact .cons it (ih t2 r2)
theorem ZPP {K:PySem.W.Frag}:∀ {ks:List (Int × Int)} {ys:List V},RelDL K ρ H ys (ks.map ZY)->∀ {i:Nat},i < ks.length->RelD K ρ H (ys.getD i .non) (ZY (ks.getD i (0,0))):=by
 intro ks
 induction ks with
 | nil=>intro ys t i z; exact absurd z (Nat.not_lt_zero _)
 | cons k ks ih =>
  intro ys t i z
  rw [List.map_cons] at t
  cases t with
  | cons t1 t2 =>
   cases i with
   | zero=>exact t1
   | succ i=>exact ih t2 (Nat.lt_of_succ_lt_succ z)
theorem ZHu {K:PySem.W.Frag} {ys:List V} {ks:List (Int × Int)} (t:RelDL K ρ H ys (ks.map ZY)):∀ {p:List Nat},(∀ i ∈ p,i < ks.length)->RelDL K ρ H (p.map λ i=>ys.getD i .non) ((p.map λ i=>ks.getD i (0,0)).map ZY)
 | [],_=>.nil
 | i :: p,h=>.cons (ZPP t (h i (List.mem_cons_self ..))) (ZHu t λ j hj=>h j (List.mem_cons_of_mem _ hj))
end
section
variable {X:Cx}
theorem ZHY:ZAG X (.builtin "sorted") (λ xs H Q=>∃ (ρ : Rh) (p:Addr) (ys:List V) (ks:List (Int × Int)),xs=[.ref p]/\SqL X.K H p ys/\RelDL X.K ρ H ys (ks.map ZY)/\ks.Nodup/\ks.length<=6/\∀ l (zs:List V) (js:List (Int × Int)),H l=none->RelDL X.K ρ H zs (js.map ZY)->js.Perm ks->js.Pairwise (λ a b=>gtW b a=true)->Q (.ref l) (upd H l (.lst zs))):=by
 intro pins s σ H xs us Q I r h
 obtain ⟨ρ,p,ys,ks,rfl,hq,ht,hn,h6,q⟩:=h
 obtain ⟨u,rfl,ru⟩:=ZDm r
 cases ru
 obtain ⟨its,rv,pl,hz⟩:=I.list hq
 have hP:=ZKY I ht rv
 have hyl:ys.length=ks.length:=by rw [ht.length,List.length_map]
 refine ZG5 pl.isList hP hn h6 λ p hpp hps=>?_
 have hin:∀ i ∈ p,i < ks.length:=λ i hi=>List.mem_range.mp (hpp.mem_iff.mp hi)
 obtain ⟨e,he⟩:=sortedAll_at s.heap its (p.map λ i=>its.getD i Value.none).toArray
 have rv':=ZGk rv (p:=p) (λ i hi=>by rw [hyl]; exact hin i hi)
 have pm:(p.map λ i=>ks.getD i (0,0)).Perm ks:=by
  have:=hpp.map λ i=>ks.getD i (0,0)
  rw [ZCL] at this
  exact this
 refine ⟨.ref (s.heap.objs.size+1),_,I.laid (t':=s.toks) (λ b o e=>sortedAll_old e) (Nat.le_succ _) (o:=.lst (p.map λ i=>ys.getD i .non)) ⟨?_,_,e,rv',he⟩,rfl,q _ _ (p.map λ i=>ks.getD i (0,0)) (I.hok.fresh (Nat.le_succ _)) (ZHu ht hin) pm hps⟩
 rw [List.length_map,hpp.length_eq,List.length_range]
 exact Nat.le_of_lt (Z0 (by omega))
theorem ZPf:ZAG X (.builtin "sorted") (rF X.K (f1 ZHg)):=c1 (ZII.or ZHY) λ ρ H g x w z g' Q hR r e q=>by
 obtain ⟨ds,e1,e⟩:=bnd e
 obtain ⟨l,vs,rfl,h1,t1⟩:=ZBC hR r e1
 cases hi:ZBK ds with
 | some ns =>
  rw [hi] at e
  have:=ZA8 t1 hi
  subst this
  dsimp only at e
  split at e
  ·rename_i hz
   cases e
   refine .inl ⟨l,ns,rfl,SqL.of h1,hz,λ p ms hp pm pw=>?_⟩
   rw [ZLg pm pw]
   exact q.new hR RelDL.ofInts hp
  ·cases e
 | none =>
  rw [hi] at e
  obtain ⟨ks,e2,e'⟩:=bnd e
  have:=ZFW e2
  subst this
  clear e
  have e:=e'
  clear e'
  split at e
  ·rename_i hz
   cases e
   refine .inr ⟨ρ,l,vs,ks,rfl,SqL.of h1,t1,hz.1,hz.2,λ p zs js hp tz pm pw=>?_⟩
   rw [ZLa pm pw] at tz
   exact q.new hR tz hp
  ·cases e
end
end L2
namespace L2
open PySem PySem.Spec PyProof.Rows H1
section
variable {X:Cx}
def isL (g:G) (n:Nat):Bool:=match g[n]? with | some (.pl _)=>true | some (.rl _)=>true | _=>false
theorem ZL0 {g:G} {n:Nat} {ds:List PyData} (h:g[n]? = some (.pl ds)):isL g n=true:=by
 unfold isL
 rw [h]
theorem ZLS {K:PySem.W.Frag} {ρ : Rh} {H:Hp} {g:G} {n:Nat} {a:Addr} (h:isL g n=true) (hR:HR K ρ H g) (ha : ρ.c[n]? = some a):∃ vs,H a=some (.lst vs):=by
 unfold isL at h
 split at h
 ·rename_i ds e
  obtain ⟨b,h1,vs,h2,_⟩:=hR.ce _ _ e
  rw [ha] at h1
  cases h1
  exact ⟨vs,h2⟩
 ·rename_i ds e
  obtain ⟨b,h1,vs,h2,_⟩:=hR.ce _ _ e
  rw [ha] at h1
  cases h1
  exact ⟨vs,h2⟩
 ·cases h
def ZEH (dl d:DE):DE:=λ sd g=>(dl sd g).bind λ l=>match l.1 with
 | .ref n=>if isL l.2 n=true then (d sd l.2).bind λ p=>match p.1 with
  | .dat x=>match p.2[n]? with
   | some (.pl ds)=>if ds.length < 1000 then some (.dat .none,p.2.set n (.pl (ds ++ [x]))) else none
   | some (.rl ws)=>if ws.length < 1000 then some (.dat .none,p.2.set n (.rl (ws ++ [.dat x]))) else none
   | _=>none
  | x=>match p.2[n]? with
   | some (.rl ws)=>if ws.length < 1000 then some (.dat .none,p.2.set n (.rl (ws ++ [x]))) else none
   | _=>none
  else none
 | _=>none
theorem ZPX {o e:Expr} {dl d:DE} {apos cpos:Pos} (ho:PE X o (tE X.K dl)) (he:PE X e (tE X.K d)) (hbase:attributeBase o "append" X.env (eval o X.env)=eval o X.env:=by rfl)
  (hfew:((backTo cpos (starEach [e] X.env)).all (λ x=>!x.1) && (backToKw cpos (keywordEach [] X.env)).all (λ x=>x.1.isSome)
   && decide ([e].length+([]:List Keyword).length+(if ([]:List Keyword).isEmpty then 0 else 1) < 30))=true:=by rfl)
  (hline:(apos.endLine == cpos.line)=true:=by rfl) (hs:starEach [e] X.env=(false,eval e X.env) :: starEach [] X.env:=by rfl) (hplain:(backTo cpos (starEach [] X.env)).any (·.1)=false:=by rfl) :
  PE X (.Call (.Attribute o "append" apos) [e] [] cpos) (tE X.K (ZEH dl d)):=(ZNe PySem.F.plainAttrs_list PySem.F.slot_list_append PySem.F.type_list_append ZGj ho (ZHC he ZIa hs) hbase hfew hline hs hplain).imp λ σ H Q ⟨ρ,sd,g,x,g',r,e,q⟩=>by
 obtain ⟨⟨y,g1⟩,e1,e⟩:=bnd e
 refine ⟨ρ,sd,g,y,g1,r,e1,λ v H1 ρ1 s1 h1 r1=>?_⟩
 cases r1 with
 | @ref la ln hn =>
  dsimp only at e
  split at e
  case isFalse=>cases e
  rename_i hil
  obtain ⟨⟨p,g2⟩,e2,e⟩:=bnd e
  have rich:∀ {H2:Hp} {ρ2:Rh} {v2:V} {ws:List W},Stp ρ1 H1 ρ2 H2->HR X.K ρ2 H2 g2->Rel X.K ρ2 H2 v2 p->g2[ln]? = some (.rl ws)->(if ws.length < 1000 then some (W.dat .none,g2.set ln (.rl (ws ++ [p]))) else none)=some (x,g')->∃ us,H2 la=some (.lst us)/\us.length < sizeLine/\Q .non (upd H2 la (.lst (us ++ [v2]))):=λ {H2 ρ2 v2 ws} s2 h2 r2 e3 e=>by
   split at e
   ·rename_i hz
    cases e
    obtain ⟨a',k1,us,k2,k3⟩:=h2.ce _ _ e3
    have hn2:=ZDK s2 hn
    rw [hn2] at k1
    cases k1
    obtain ⟨hw,sw⟩:=h2.writeC hn2 (o:=.lst (us ++ [v2])) (c:=.rl (ws ++ [p])) (λ u e=>by rw [k2] at e; cases e; rfl) (λ s=>⟨_,Zo,(k3.append (.cons r2 .nil)).mono s⟩)
    exact ⟨us,k2,by rw [k3.length]; exact Z0 (by omega),q _ _ ρ2 (s1.trans (s2.trans sw)) hw (.dat .non)⟩
   ·cases e
  have plain:∀ {H2:Hp} {ρ2:Rh} {v2:V} {d:PyData} {ds:List PyData},Stp ρ1 H1 ρ2 H2->HR X.K ρ2 H2 g2->RelD X.K ρ2 H2 v2 d->g2[ln]? = some (.pl ds)->(if ds.length < 1000 then some (W.dat .none,g2.set ln (.pl (ds ++ [d]))) else none)=some (x,g')->∃ us,H2 la=some (.lst us)/\us.length < sizeLine/\Q .non (upd H2 la (.lst (us ++ [v2]))):=λ {H2 ρ2 v2 d ds} s2 h2 r2 e3 e=>by
   split at e
   ·rename_i hz
    cases e
    obtain ⟨a',us,k1,k2,k3⟩:=h2.at_ _ _ e3
    have hn2:=ZDK s2 hn
    rw [hn2] at k1
    cases k1
    obtain ⟨hw,sw⟩:=h2.write hn2 k2 (k3.append (.cons r2 .nil))
    exact ⟨us,k2,by rw [k3.length]; exact Z0 (by omega),q _ _ ρ2 (s1.trans (s2.trans sw)) hw (.dat .non)⟩
   ·cases e
  have both:∀ {H2:Hp} {ρ2:Rh} {v2:V},Stp ρ1 H1 ρ2 H2->HR X.K ρ2 H2 g2->Rel X.K ρ2 H2 v2 p->∃ us,H2 la=some (.lst us)/\us.length < sizeLine/\Q .non (upd H2 la (.lst (us ++ [v2]))):=λ {H2 ρ2 v2} s2 h2 r2=>by
   have rest:∀ {w},p=w->(match g2[ln]? with | some (.rl ws)=>if ws.length < 1000 then some (W.dat .none,g2.set ln (.rl (ws ++ [w]))) else none | _=>none)=some (x,g')->∃ us,H2 la=some (.lst us)/\us.length < sizeLine/\Q .non (upd H2 la (.lst (us ++ [v2]))):=λ {w} ew e=>by
    split at e
    ·rename_i ws e3
     exact rich s2 h2 r2 e3 (by rw [ew]; exact e)
    ·cases e
   cases p with
   | dat d =>
    dsimp only at e
    cases r2 with
    | dat r2 =>
     split at e
     ·rename_i ds e3
      exact plain s2 h2 r2 e3 e
     ·rename_i ws e3
      exact rich s2 h2 (.dat r2) e3 e
     ·cases e
   | ref n=>exact rest rfl e
   | inp n=>exact rest rfl e
   | ty n=>exact rest rfl e
   | tup n=>exact rest rfl e
  obtain ⟨us0,h0⟩:=ZLS hil h1 hn
  refine ⟨.inl ⟨rfl,_,SqL.of h0⟩,ρ1,sd,g1,[p],g2,r.step s1 h1,by show (d sd g1).bind _=_; rw [e2]; rfl,λ vs H2 ρ2 s2 h2 r2=>?_⟩
  cases r2 with
  | cons r2 t =>
   cases t
   obtain ⟨us,k1,k2,k3⟩:=both s2 h2 r2
   exact ⟨_,us,_,rfl,rfl,k1,k2,k3⟩
 | dat r1=>cases r1 <;> cases e
 | _=>cases e
def ZI8 (dl di d:DE):DS:=λ sd g=>(d sd g).bind λ v=>(dl sd v.2).bind λ l=>(di sd l.2).bind λ i=>match l.1,i.1,v.1 with
 | .ref n,.dat (.int k),.dat x=>match i.2[n]? with
  | some (.pl ds)=>(ixN ds.length k).map λ j=>.nx sd (i.2.set n (.pl (ds.set j x)))
  | some (.rl ws)=>(ixN ws.length k).map λ j=>.nx sd (i.2.set n (.rl (ws.set j (.dat x))))
  | _=>none
 | .ref n,.dat (.int k),x=>match i.2[n]? with
  | some (.rl ws)=>(ixN ws.length k).map λ j=>.nx sd (i.2.set n (.rl (ws.set j x)))
  | _=>none
 | _,_,_=>none
theorem ZNr {o i e:Expr} {dl di d:DE} {pos tpos:Pos} (he:PE X e (tE X.K d)) (ho:PE X o (tE X.K dl)) (hi:PE X i (tE X.K di)) (ha:∀ v,assign (.Subscript o i tpos) X.env v=(do
   let ov ← holding [v] (eval o X.env)
   let iv ← holding [v,ov] (eval i X.env)
   standAt tpos
   holding [v,ov,iv] (setItem ov iv v)
   release [v,ov,iv] []):=by intro _; rfl) (hs:swapsWithSole [.Subscript o i tpos] e pos.line X.env=pure false:=by rfl) (hw:swappedStores [.Subscript o i tpos] e X.env=pure none:=by rfl)
  (h1:(assignEach [.Subscript o i tpos] X.env).map (·.2)=[assign (.Subscript o i tpos) X.env]:=by rfl):PS X (.Assign [.Subscript o i tpos] e pos) (tS X.K (ZI8 dl di d)):=(ZLl he (ZOm ho hi ZLb ha) hs hw h1).imp λ D σ H ⟨ρ,sd,g,oo,r,e,q⟩=>by
 obtain ⟨⟨y,g1⟩,e1,e⟩:=bnd e
 obtain ⟨⟨l,g2⟩,e2,e⟩:=bnd e
 obtain ⟨⟨k,g3⟩,e3,e⟩:=bnd e
 refine ⟨ρ,sd,g,y,g1,r,e1,λ v H1 ρ1 s1 h1 r1=>⟨ρ1,sd,g1,l,g2,r.step s1 h1,e2,λ u H2 ρ2 s2 h2 r2=>⟨ρ2,sd,g2,k,g3,r.step (s1.trans s2) h2,e3,λ t H3 ρ3 s3 h3 r3=>?_⟩⟩⟩
 have r1':=(r1.mono s2).mono s3
 have r2':=r2.mono s3
 have sall:=s1.trans (s2.trans s3)
 cases r2' with
 | @ref la ln hn =>
  cases r3 with
  | dat r3 =>
   cases r3 with
   | int kk =>
    have rich:∀ {ws:List W},g3[ln]? = some (.rl ws)->((ixN ws.length kk).map λ j=>Out.nx sd (g3.set ln (.rl (ws.set j y))))=some oo->∃ p xs k n,V.ref la=V.ref p/\V.int kk=V.int k/\H3 p=some (.lst xs)/\ixN xs.length k=some n/\D.nx σ (upd H3 p (.lst (xs.set n v))):=λ {ws} e4 e=>by
     obtain ⟨j,e5,e⟩:=mp e
     cases e
     obtain ⟨a',k1,us,k2,k3⟩:=h3.ce _ _ e4
     rw [hn] at k1
     cases k1
     obtain ⟨hw,sw⟩:=h3.writeC hn (o:=.lst (us.set j v)) (c:=.rl (ws.set j y)) (λ u e=>by rw [k2] at e; cases e; rfl) (λ s=>⟨_,Zo,(k3.set r1' j).mono s⟩)
     exact ⟨_,us,kk,j,rfl,rfl,k2,by rw [k3.length]; exact e5,q σ _ ρ3 (sall.trans sw) (r.step (sall.trans sw) hw)⟩
    have rest:∀ {w},y=w->(match g3[ln]? with | some (.rl ws)=>((ixN ws.length kk).map λ j=>Out.nx sd (g3.set ln (.rl (ws.set j w)))) | _=>none)=some oo->∃ p xs k n,V.ref la=V.ref p/\V.int kk=V.int k/\H3 p=some (.lst xs)/\ixN xs.length k=some n/\D.nx σ (upd H3 p (.lst (xs.set n v))):=λ {w} ew e=>by
     split at e
     ·rename_i ws e4
      exact rich e4 (by rw [ew]; exact e)
     ·cases e
    cases y with
    | dat d =>
     dsimp only at e
     split at e
     ·rename_i ds e4
      obtain ⟨j,e5,e⟩:=mp e
      cases e
      obtain ⟨a',us,k1,k2,k3⟩:=h3.at_ _ _ e4
      rw [hn] at k1
      cases k1
      cases r1' with
      | dat r1' =>
       obtain ⟨hw,sw⟩:=h3.write hn k2 (k3.set r1' j)
       exact ⟨_,us,kk,j,rfl,rfl,k2,by rw [k3.length]; exact e5,q σ _ ρ3 (sall.trans sw) (r.step (sall.trans sw) hw)⟩
     ·rename_i ws e4
      exact rich e4 e
     ·cases e
    | ref n=>exact rest rfl e
    | inp n=>exact rest rfl e
    | ty n=>exact rest rfl e
    | tup n=>exact rest rfl e
   | _=>cases e
  | _=>cases e
 | dat r2=>cases e
 | _=>cases e
def ZKv (i j:Nat) (a:DA):DS:=λ sd g=>(a sd g).bind λ p=>match p.1 with | [x,y]=>some (.nx ((sd.set i (some x)).set j (some y)) p.2) | _=>none
theorem ZPW {i j:Nat} {aa:DA} {D:Ends} {σ : St} {H:Hp} (h:tS X.K (ZKv i j aa) D σ H):ZPk i j (tA X.K aa) D σ H:=by
 obtain ⟨ρ,sd,g,oo,r,e,q⟩:=h
 obtain ⟨⟨ws,g1⟩,e1,e⟩:=bnd e
 refine ⟨ρ,sd,g,ws,g1,r,e1,λ vs H1 ρ1 s1 h1 r1=>?_⟩
 cases r1 with
 | nil=>cases e
 | cons a t =>
  cases t with
  | nil=>cases e
  | cons b t =>
   cases t with
   | nil=>cases e; exact ⟨_,_,rfl,q _ H1 ρ1 s1 (((r.step s1 h1).set a i).set b j)⟩
   | cons _ _=>cases e
end
end L2
namespace L2
open PySem PySem.Spec PyProof.Rows H1
structure JE (X:Cx) (e:Expr) (d:DE):Prop where
 h:PE X e (tE X.K d)
structure JT (X:Cx) (e:Expr) (d:DB):Prop where
 h:PT X e (tT X.K d)
structure JW (X:Cx) (e:Expr) (d:DB):Prop where
 h:PW X e (tT X.K d)
structure JA (X:Cx) (e:List Expr) (d:DA):Prop where
 h:PA X e (tA X.K d)
structure JS (X:Cx) (e:Stmt) (d:DS):Prop where
 h:PS X e (tS X.K d)
structure JSs (X:Cx) (e:List Stmt) (d:DS):Prop where
 h:PSs X e (tS X.K d)
structure JG (X:Cx) (e:Expr) (d:Pat):Prop where
 h:PG X e (gP X.K d)
structure JGs (X:Cx) (e:List Expr) (d:Pats):Prop where
 h:PGs X e (gPs X.K d)
structure JI (X:Cx) (tg e:Expr) (d:DI):Prop where
 h:PI X tg e (tI X.K d)
structure JO (X:Cx) (e:Option Expr) (d:DO):Prop where
 h:PO X e (tO X.K d)
structure JTs (X:Cx) (e:List Expr) (d:DB):Prop where
 h:PTs X e (tT X.K d)
theorem JW.pt {X:Cx} {e:Expr} {d:DB} (j:JW X e d):JT X e d:=⟨j.h.pt⟩
section
variable {X:Cx} {a b c e:Expr} {es:List Expr} {da db dc d:DE} {ta tb:DB} {aa:DA} {pos p2:Pos} {f f':W->W->G->Option (W × G)}
theorem ZA (i:Nat) {x:Str} {pos:Pos} (hN:X.N[i]? = some x:=by rfl) (hv:Vis X.env.scope x:=by first | exact Or.inl rfl | exact Or.inr (Or.inl rfl) | exact Or.inr (Or.inr rfl)) (hd:(x == ("__debug__" : Str))=false:=by decide) (hcd:(x == ("__classdict__" : Str))=false:=by decide):JE X (.Name x pos) (ZD i):=⟨ZPQ i hN hv hd hcd⟩
theorem ZG {i j pos}:JE X (.Constant (.int i) j pos) (dC (.int i)):=⟨ZO2 ⟩
theorem ZBV {b j pos}:JE X (.Constant (.bool b) j pos) (dC (.bool b)):=⟨de_bl ⟩
theorem ZJj {j pos}:JE X (.Constant .none j pos) (dC .none):=⟨ZOD ⟩
theorem ZAy {x j pos}:JE X (.Constant (.str x) j pos) (dC (.str x)):=⟨ZPd ⟩
theorem ZAd {x:Str} {n:Int} (hg:Gl X x) (h:ZIp X.mg x n) (hd:(x == ("__debug__" : Str))=false:=by decide):JE X (.Name x pos) (dC (.int n)):=⟨ZKk hg h hd⟩
theorem ZR {op:Operator} (ho:OpR X (binaryOp op) (rOp X.K f)) (ha:JE X a da) (hb:JE X b db):JE X (.BinOp a op b pos) (dOp f da db):=⟨de_op ho ha.h hb.h⟩
theorem Zz {op:CmpOp} (ho:OpR X (compareOp op) (rOp X.K f)) (ha:JE X a da) (hb:JE X b db) (hm:behindInMarks op b=false):JE X (.Compare a [op] [b] pos) (dOp f da db):=⟨ZPM ho ha.h hb.h hm⟩
theorem ZQ (ho:IxR X (rOp X.K f)) (ha:JE X a da) (hb:JE X b db) (hs:ZEL b):JE X (.Subscript a b pos) (dOp f da db):=⟨de_ix ho ha.h hb.h hs⟩
theorem ZT {op:CmpOp} (ho:OpR X (compareOp op) (rOp X.K f)) (ha:JE X a da) (hb:JE X b db) (hm:behindInMarks op b=false):JT X (.Compare a [op] [b] pos) (dB (dOp f da db)):=⟨ZOE ho ha.h hb.h hm⟩
theorem ZAX (h:JE X e d) (he:∀ whole,isTrue e X.env whole=(do let v ← whole; standAt e.pos; holding [v] (truthy v)):=by intro _; rfl):JT X e (dB d):=⟨ZPF h.h he⟩
theorem ZFN (h:JT X a ta):JT X (.UnaryOp .Not a pos) (ZHR ta):=⟨ZPB h.h⟩
theorem ZAc (h:JT X a ta):JW X (.BoolOp .And [a] pos) ta:=⟨ZMe h.h⟩
theorem ZDh (h:JT X a ta):JW X (.BoolOp .Or [a] pos) ta:=⟨ZPK h.h⟩
theorem ZAQ {rest:List Expr} (ha:JT X a ta) (hb:JW X (.BoolOp .And (b :: rest) pos) tb):JW X (.BoolOp .And (a :: b :: rest) pos) (ZCK ta tb):=⟨ZO1 ha.h hb.h⟩
theorem ZEd {rest:List Expr} (ha:JT X a ta) (hb:JW X (.BoolOp .Or (b :: rest) pos) tb):JW X (.BoolOp .Or (a :: b :: rest) pos) (dOr ta tb):=⟨dw_or ha.h hb.h⟩
theorem ZCw {op} (h:JE X a da):JE X (.BoolOp op [a] pos) da:=⟨ZOS h.h⟩
theorem ZFL {rest:List Expr} (ha:JE X a da) (hb:JE X (.BoolOp .And (b :: rest) pos) db):JE X (.BoolOp .And (a :: b :: rest) pos) (ZEa da db):=⟨ZN3 ha.h hb.h⟩
theorem ZIg {rest:List Expr} (ha:JE X a da) (hb:JE X (.BoolOp .Or (b :: rest) pos) db):JE X (.BoolOp .Or (a :: b :: rest) pos) (ZIC da db):=⟨de_or ha.h hb.h⟩
theorem ZE  : JA X [] ZL:=⟨ZIa ⟩
theorem ZB (ha:JE X e d) (hr:JA X es aa) (hs:starEach (e :: es) X.env=(false,eval e X.env) :: starEach es X.env:=by rfl):JA X (e :: es) (ZC d aa):=⟨ZHC ha.h hr.h hs⟩
theorem ZU {x1} (h:JA X es aa):JE X (.Tuple es x1 pos) (dF Z7 aa):=⟨ZOc h.h⟩
theorem ZBI (h:JA X es aa):JE X (.List es pos) (dF ZEW aa):=⟨ZOF h.h⟩
theorem ZAp (h:JA X es aa):JE X (.List es pos) (dF ZCW aa):=⟨ZNF h.h⟩
end
section
variable {X:Cx} {x:Str} {p pos:Pos} {e:Expr} {es:List Expr} {aa:DA} {id T:String} {fn:List W->G->Option (W × G)}
theorem Zk (hc:ZAG X (.builtin id) (rF X.K fn)) (hg:Gl X x) (hm:X.mg x=none) (hv:bootBuiltins x=some (.builtin id)) (ha:JA X (e :: es) aa) (hn:x ≠ "__name__":=by decide) (hdb:(x == ("__debug__" : Str))=false:=by decide) (he:starEach (e :: es) X.env=(false,eval e X.env) :: starEach es X.env:=by rfl) (hpl:(backTo pos (starEach es X.env)).any (·.1)=false:=by rfl):JE X (.Call (.Name x p) (e :: es) [] pos) (dF fn aa):=⟨ZL3 hc hg hm hv ha.h hn hdb he hpl⟩
theorem Zh (hc:ZAG X (.type T) (rF X.K fn)) (hg:Gl X x) (hm:X.mg x=none) (hv:bootBuiltins x=some (.type T)) (ha:JA X (e :: es) aa) (hn:x ≠ "__name__":=by decide) (hdb:(x == ("__debug__" : Str))=false:=by decide) (he:starEach (e :: es) X.env=(false,eval e X.env) :: starEach es X.env:=by rfl) (hpl:(backTo pos (starEach es X.env)).any (·.1)=false:=by rfl):JE X (.Call (.Name x p) (e :: es) [] pos) (dF fn aa):=⟨ZJq hc hg hm hv ha.h hn hdb he hpl⟩
theorem ZJ {st:Stmt} {ps:List Str} {f:Addr} {fd:FuncData} {k n:Nat} (D:Def X.K X.mg x st ps f fd) (F:FnOk X.prog X.w X.K X.mg X.base CX0 k f fd ps (spD X.K n fn)) (hr:Room k X.A) (ha:JA X (e :: es) aa) (hm:Many aa n) (hg:Gl X x:=by rfl) (hdb:(x == ("__debug__" : Str))=false:=by decide) (he:starEach (e :: es) X.env=(false,eval e X.env) :: starEach es X.env:=by rfl) (hpl:(backTo pos (starEach es X.env)).any (·.1)=false:=by rfl):JE X (.Call (.Name x p) (e :: es) [] pos) (dF fn aa):=⟨ZMV D F hr ha.h hm hg hdb he hpl⟩
end
section
variable {X:Cx} {pos:Pos}
theorem ZK {i:Nat} {x:Str} (hN:X.N.Nodup) (hi:X.N[i]? = some x) (hx:Loc X.env.scope x) (hf:X.fn x=true ∨ X.env.scope.names.lookup x=some .local:=by first | exact .inl rfl | exact .inr rfl | assumption):JG X (.Name x pos) (.nm i):=⟨dg_nm hN hi hx hf⟩
theorem Zg {es:List Expr} {k:Nat} {ps:Pats} (hc:X.calm=true) (h:JGs X es ps) (hn:(assignEach es X.env).length=ps.len:=by rfl) (hst:(assignEach es X.env).findIdx? (·.1)=none:=by rfl):JG X (.Tuple es k pos) (.tp ps):=⟨dg_tp hc h.h hn hst⟩
theorem ZX  : JGs X [] .nil:=⟨ZPL ⟩
theorem ZH {e:Expr} {es:List Expr} {p:Pat} {ps:Pats} (h1:JG X e p) (h2:JGs X es ps) (hs:(assignEach (e :: es) X.env).map (·.2)=assign e X.env :: (assignEach es X.env).map (·.2):=by rfl):JGs X (e :: es) (.cons p ps):=⟨ZMy h1.h h2.h hs⟩
end
section
variable {X:Cx} {pos:Pos} {st:Stmt} {rest ss:List Stmt} {a b:DS} {d:DE} {e c:Expr} {tc:DB}
theorem Zc  : JSs X [] dNx:=⟨ZMF ⟩
theorem ZI (h:JS X st a):JSs X [st] a:=⟨ZNM h.h⟩
theorem ZF (h1:JS X st a) (h2:JSs X rest b):JSs X (st :: rest) (ZP a b):=⟨ZKf h1.h h2.h⟩
theorem ZO {i:Nat} {x:Str} {pos':Pos} (hN:X.N.Nodup) (hi:X.N[i]? = some x) (hx:Loc X.env.scope x) (he:JE X e d) (hs:swapsWith e (some (.Name x pos')) pos.line X.env=pure false:=by rfl) (hf:X.fn x=true ∨ X.env.scope.names.lookup x=some .local:=by first | exact .inl rfl | exact .inr rfl | assumption):JS X (.Assign [.Name x pos'] e pos) (Zq i d):=⟨ZPY hN hi hx he.h hs hf⟩
theorem Zi {tg:Expr} {pt:Pat} (he:JE X e d) (hg:JG X tg pt) (hs:swapsWithSole [tg] e pos.line X.env=pure false:=by rfl) (hw:swappedStores [tg] e X.env=pure none:=by rfl) (h1:(assignEach [tg] X.env).map (·.2)=[assign tg X.env]:=by rfl):JS X (.Assign [tg] e pos) (ZAv pt d):=⟨ZNy he.h hg.h hs hw h1⟩
theorem ZS (he:JE X e d):JS X (.Return (some e) pos) (Zd d):=⟨ZOq he.h⟩
theorem ZAO (he:JE X e d) (hs:swapsWith e none pos.line X.env=pure false:=by rfl):JS X (.Expr e pos) (ZAx d):=⟨ZMC he.h hs⟩
theorem Zn {sa sb:List Stmt} (hc:JT X c tc) (ha:JSs X sa a) (hb:JSs X sb b):JS X (.If c sa sb pos) (ZAE tc a b):=⟨ds_if hc.h ha.h hb.h⟩
end
section
variable {X:Cx} {tg:Expr} {pos:Pos}
theorem ZAZ {l:Expr} {d:DE} (hl:JE X l d):JI X tg l (ZCf d):=⟨ZPU hl.h⟩
theorem Z4 {a:Expr} {da:DA} {p pos:Pos} (hg:Gl X "range") (hm:X.mg "range" = none) (ha:JA X [a] da) (hs:starEach [a] X.env=[(false,eval a X.env)]:=by rfl) (hn:Many da 1):JI X tg (.Call (.Name "range" p) [a] [] pos) (ZAI da):=⟨ZJ6 hg hm ha.h hs hn⟩
theorem ZJC {a b:Expr} {da:DA} {p pos:Pos} (hg:Gl X "range") (hm:X.mg "range" = none) (ha:JA X [a,b] da) (hs:starEach [a,b] X.env=[(false,eval a X.env),(false,eval b X.env)]:=by rfl) (hs2:starEach [b] X.env=[(false,eval b X.env)]:=by rfl) (hn:Many da 2):JI X tg (.Call (.Name "range" p) [a,b] [] pos) (ZAI da):=⟨ZKE hg hm ha.h hs hs2 hn⟩
theorem ZDQ {es:List Expr} {k:Nat} {tpos:Pos} {a:Expr} {da:DA} {p pos:Pos} (hg:Gl X "enumerate") (hm:X.mg "enumerate" = none) (ha:JA X [a] da) (hs:starEach [a] X.env=[(false,eval a X.env)]:=by rfl) (hn:Many da 1):JI X (.Tuple es k tpos) (.Call (.Name "enumerate" p) [a] [] pos) (ZC1 da):=⟨ZMb hg hm ha.h hs hn⟩
end
section
variable {X:Cx} {tg iter:Expr} {pos:Pos} {di:DI} {pt:Pat} {db:DS}
theorem ZAY {body:List Stmt} (hp:PassesOwn (model X.prog X.w) X.A X.env X.xe) (hc:X.calm=true) (hi:JI X tg iter di) (hg:JG X tg pt) (hb:JSs X body db) (hs:∀ x,foldedSetIterable iter X.env x=pure x:=by intro _; rfl):JS X (.For tg iter body [] pos) (ZCn pt di db):=⟨ZOT hp hc hi.h hg.h hb.h hs⟩
theorem ZAz {X:Cx}:JTs X [] ZDk:=⟨ZMj ⟩
theorem ZBu {X:Cx} {c:Expr} {d:DB} (h:JT X c d):JTs X [c] d:=⟨ZNO h.h⟩
end
section
variable {X:Cx} {tg elt iter:Expr} {ifs:List Expr} {scope sc:Scope} {pos:Pos} {di:DI} {pt:Pat} {dt:DB} {de:DE} {N NX:List Str} {own:Nat} {cap:List Nat}
theorem ZAA (hc:X.calm=true) (hi:JI X tg iter di) (hsc:X.env.scope=sc) (hNX:X.N=NX) (hb:∀ cl C s0 H0 fp,JG (blk X N (compEnvC scope cl C X.env) s0 H0 fp) tg pt/\JTs (blk X N (compEnvC scope cl C X.env) s0 H0 fp) ifs dt/\JE (blk X N (compEnvC scope cl C X.env) s0 H0 fp) elt de) (co:ZH1 sc scope NX N own cap=true) (hp:pt.all (λ i=>decide (i < own))=true) (hs:∀ x,foldedSetIterable iter X.env x=pure x:=by intro _; rfl):JE X (.ListComp elt [⟨tg,iter,ifs,0⟩] scope pos) (ZAa own cap pt di dt de):=⟨ZMX hc hi.h hsc hNX (λ cl C s0 H0 fp=>⟨(hb cl C s0 H0 fp).1.h,(hb cl C s0 H0 fp).2.1.h,(hb cl C s0 H0 fp).2.2.h⟩) co hp hs⟩
theorem ZIP {i:Nat} {x:Str} {py spos:Pos} (hN:X.N.Nodup) (hi:X.N[i]? = some x) (hx:Loc X.env.scope x) (hc:X.calm=true) (hit:JI X tg iter di) (hsc:X.env.scope=sc) (hNX:X.N=NX) (hb:∀ cl C s0 H0 fp,JG (blk X N (compEnvC scope cl C X.env) s0 H0 fp) tg pt/\JTs (blk X N (compEnvC scope cl C X.env) s0 H0 fp) ifs dt/\JE (blk X N (compEnvC scope cl C X.env) s0 H0 fp) elt de) (co:ZH1 sc scope NX N own cap=true) (hp:pt.all (λ i=>decide (i < own))=true) (hsw:swapsWith (.ListComp elt [⟨tg,iter,ifs,0⟩] scope pos) (some (.Name x py)) spos.line X.env=pure true:=by rfl) (hs:∀ x,foldedSetIterable iter X.env x=pure x:=by intro _; rfl) (hf:X.fn x=true ∨ X.env.scope.names.lookup x=some .local:=by first | exact .inl rfl | exact .inr rfl | assumption):JS X (.Assign [.Name x py] (.ListComp elt [⟨tg,iter,ifs,0⟩] scope pos) spos) (Zq i (ZAa own cap pt di dt de)):=⟨ZML hN hi hx hc hit.h hsc hNX (λ cl C s0 H0 fp=>⟨(hb cl C s0 H0 fp).1.h,(hb cl C s0 H0 fp).2.1.h,(hb cl C s0 H0 fp).2.2.h⟩) co hp hsw hs hf⟩
end
section
variable {X:Cx}
theorem ZAr  : JO X none ZAj:=⟨ZMH ⟩
theorem ZAs {e:Expr} {d:DE} (h:JE X e d):JO X (some e) (ZB2 d):=⟨ZNK h.h⟩
theorem ZBx {e:Expr} {lo hi:Option Expr} {d:DE} {l h:DO} {pos p2:Pos} (he:JE X e d) (hl:JO X lo l) (hh:JO X hi h):JE X (.Subscript e (.Slice lo hi none p2) pos) (dSl d l h):=⟨de_sl he.h hl.h hh.h⟩
theorem ZB7 {o e:Expr} {dl d:DE} {apos cpos:Pos} (ho:JE X o dl) (he:JE X e d) (hbase:attributeBase o "append" X.env (eval o X.env)=eval o X.env:=by rfl) (hfew:((backTo cpos (starEach [e] X.env)).all (λ x=>!x.1) && (backToKw cpos (keywordEach [] X.env)).all (λ x=>x.1.isSome)
   && decide ([e].length+([]:List Keyword).length+(if ([]:List Keyword).isEmpty then 0 else 1) < 30))=true:=by rfl) (hline:(apos.endLine == cpos.line)=true:=by rfl) (hs:starEach [e] X.env=(false,eval e X.env) :: starEach [] X.env:=by rfl) (hplain:(backTo cpos (starEach [] X.env)).any (·.1)=false:=by rfl):JE X (.Call (.Attribute o "append" apos) [e] [] cpos) (ZEH dl d):=⟨ZPX ho.h he.h hbase hfew hline hs hplain⟩
theorem ZHH {o i e:Expr} {dl di d:DE} {pos tpos:Pos} (he:JE X e d) (ho:JE X o dl) (hi:JE X i di) (ha:∀ v,assign (.Subscript o i tpos) X.env v=(do
   let ov ← holding [v] (eval o X.env)
   let iv ← holding [v,ov] (eval i X.env)
   standAt tpos
   holding [v,ov,iv] (setItem ov iv v)
   release [v,ov,iv] []):=by intro _; rfl) (hs:swapsWithSole [.Subscript o i tpos] e pos.line X.env=pure false:=by rfl) (hw:swappedStores [.Subscript o i tpos] e X.env=pure none:=by rfl) (h1:(assignEach [.Subscript o i tpos] X.env).map (·.2)=[assign (.Subscript o i tpos) X.env]:=by rfl):JS X (.Assign [.Subscript o i tpos] e pos) (ZI8 dl di d):=⟨ZNr he.h ho.h hi.h ha hs hw h1⟩
end
theorem Za {P:Program} {w:World} {K:PySem.W.Frag} {mg:Str->Option Value} {base:Heap} {x qual:Str} {st:Stmt} {f:Addr} {fd:FuncData} {N ps:List Str} {k n m:Nat} {d:DS} {r:List W->G->Option (W × G)} (e:r=ZAL n d) (hn:N.length=n) (hm:ps.length=m) (F:Fun K x qual st f fd) (S:FnScope N ps (ZM st))
  (hb:∀ (cdv:Value) (A:Around) (outer:List Env) (s:Shared) (H:Hp) (E:XK),Room k (A.deeper (envOfC qual (ZM st) s.heap.objs.size f cdv))->JSs (ZHm CX0 P w K mg base N qual (ZM st) f cdv A outer s H E).nox (ZBm st) d) :
  FnOk P w K mg base CX0 (k+1) f fd ps (spD K m r):=by
 subst e hn hm
 exact ZPN F S λ cdv A outer s H E hr=>(hb cdv A outer s H E hr).h
theorem ZEN {X:Cx} {a b c:Int} {j1 j2} {p1 p2 pos:Pos} (hc:ZPi a b) (h:a ^ b.toNat=c):JE X (.BinOp (.Constant (.int a) j1 p1) .Pow (.Constant (.int b) j2 p2) pos) (dC (.int c)):=⟨(ZNl ZOC ZI5 ZI5).imp λ σ H Q ⟨ρ,sd,g,x,g',r,e,q⟩=>by
 cases e
 exact ⟨a,b,rfl,rfl,hc,by show Q (.int (a ^ b.toNat)) H; rw [h]; exact q _ H ρ .refl r.hr (.dat (.int _))⟩⟩
end L2
namespace L2
open PySem PySem.Spec PyProof.Rows H1
section
variable {α β : Type}
end
structure EvP {α : Type} (o:Option (α × G)) (P : α->G->Prop):Prop where
 h:∃ x g,o=some (x,g)/\P x g
section
variable {α : Type} {P : α->G->Prop} {g:G}
theorem ZCZ {x : α} (h:P x g):EvP (some (x,g)) P:=⟨x,g,rfl,h⟩
theorem ZLw {o:Option (α × G)} {x : α} (e:o=some (x,g)) (h:P x g):EvP o P:=⟨x,g,e,h⟩
theorem EvP.imp {o:Option (α × G)} {Q : α->G->Prop} (h:EvP o P) (k:∀ x g,P x g->Q x g):EvP o Q:=by
 obtain ⟨x,g,e,h⟩:=h
 exact ⟨x,g,e,k x g h⟩
theorem ZCr {c:Prop} [Decidable c] {A B:Option (α × G)} (h:c) (h1:EvP A P):EvP (if c then A else B) P:=by rw [if_pos h]; exact h1
theorem ZHA {β : Type} {o:Option β} {y : β} {f : β->α × G} {x : α} (e:o=some y) (e2:f y=(x,g)) (h:P x g):EvP (o.map f) P:=by
 subst e
 exact ⟨x,g,congrArg some e2,h⟩
end
section
variable {sd:Sd} {g:G} {da db dc d:DE} {ta tb:DB} {aa:DA} {f f':W->W->G->Option (W × G)} {P:W->G->Prop} {PB:Bool->G->Prop} {PA':List W->G->Prop}
theorem ZF1 {i:Nat} {x:W} (e:sd.getD i none=some x) (h:P x g):EvP (ZD i sd g) P:=⟨x,g,by unfold ZD; rw [e],h⟩
theorem x_c {d:PyData} (h:P (.dat d) g):EvP (dC d sd g) P:=⟨_,_,rfl,h⟩
theorem x_op (h:EvP (da sd g) λ x g1=>EvP (db sd g1) λ y g2=>EvP (f x y g2) P):EvP (dOp f da db sd g) P:=by
 obtain ⟨x,g1,e1,y,g2,e2,z,g3,e3,h⟩:=h
 exact ⟨z,g3,by unfold dOp; rw [e1]; show (db sd g1).bind _=_; rw [e2]; exact e3,h⟩
structure asB (PB:Bool->G->Prop) (x:W) (g:G):Prop where
 h:∃ b,x=.dat (.bool b)/\PB b g
theorem as_b {b:Bool} (h:PB b g):asB PB (.dat (.bool b)) g:=⟨b,rfl,h⟩
theorem x_b (h:EvP (d sd g) (asB PB)):EvP (dB d sd g) PB:=by
 obtain ⟨x,g1,e1,b,rfl,h⟩:=h
 exact ⟨b,g1,by unfold dB; rw [e1]; rfl,h⟩
theorem x_not (h:EvP (ta sd g) λ b g1=>PB (!b) g1):EvP (ZHR ta sd g) PB:=by
 obtain ⟨x,g1,e1,h⟩:=h
 exact ⟨_,g1,by unfold ZHR; rw [e1]; rfl,h⟩
theorem x_and (h:EvP (ta sd g) λ b g1=>(b=true->EvP (tb sd g1) PB)/\(b=false->PB false g1)):EvP (ZCK ta tb sd g) PB:=by
 obtain ⟨x,g1,e1,h1,h2⟩:=h
 cases x with
 | true =>
  obtain ⟨y,g2,e2,h⟩:=h1 rfl
  exact ⟨y,g2,by unfold ZCK; rw [e1]; exact e2,h⟩
 | false=>exact ⟨false,g1,by unfold ZCK; rw [e1]; rfl,h2 rfl⟩
theorem x_or (h:EvP (ta sd g) λ b g1=>(b=true->PB true g1)/\(b=false->EvP (tb sd g1) PB)):EvP (dOr ta tb sd g) PB:=by
 obtain ⟨x,g1,e1,h1,h2⟩:=h
 cases x with
 | false =>
  obtain ⟨y,g2,e2,h⟩:=h2 rfl
  exact ⟨y,g2,by unfold dOr; rw [e1]; exact e2,h⟩
 | true=>exact ⟨true,g1,by unfold dOr; rw [e1]; rfl,h1 rfl⟩
theorem ZOp (h:EvP (da sd g) (asB λ b g1=>(b=true->EvP (db sd g1) P)/\(b=false->P (.dat (.bool false)) g1))):EvP (ZEa da db sd g) P:=by
 obtain ⟨x,g1,e1,b,rfl,h1,h2⟩:=h
 cases b with
 | true =>
  obtain ⟨y,g2,e2,h⟩:=h1 rfl
  exact ⟨y,g2,by unfold ZEa; rw [e1]; exact e2,h⟩
 | false=>exact ⟨_,g1,by unfold ZEa; rw [e1]; rfl,h2 rfl⟩
theorem x_orV (h:EvP (da sd g) (asB λ b g1=>(b=true->P (.dat (.bool true)) g1)/\(b=false->EvP (db sd g1) P))):EvP (ZIC da db sd g) P:=by
 obtain ⟨x,g1,e1,b,rfl,h1,h2⟩:=h
 cases b with
 | false =>
  obtain ⟨y,g2,e2,h⟩:=h2 rfl
  exact ⟨y,g2,by unfold ZIC; rw [e1]; exact e2,h⟩
 | true=>exact ⟨_,g1,by unfold ZIC; rw [e1]; rfl,h1 rfl⟩
theorem ZNi (h:PA' [] g):EvP (ZL sd g) PA':=⟨_,_,rfl,h⟩
theorem ZD1 (h:EvP (d sd g) λ x g1=>EvP (aa sd g1) λ xs g2=>PA' (x :: xs) g2):EvP (ZC d aa sd g) PA':=by
 obtain ⟨x,g1,e1,y,g2,e2,h⟩:=h
 exact ⟨_,g2,by unfold ZC; rw [e1]; show (aa sd g1).map _=_; rw [e2]; rfl,h⟩
theorem x_f {fn:List W->G->Option (W × G)} (h:EvP (aa sd g) λ xs g1=>EvP (fn xs g1) P):EvP (dF fn aa sd g) P:=by
 obtain ⟨x,g1,e1,y,g2,e2,h⟩:=h
 exact ⟨y,g2,by unfold dF; rw [e1]; exact e2,h⟩
theorem ZKu {PO':Option Int->G->Prop} (h:PO' none g):EvP (ZAj sd g) PO':=⟨_,_,rfl,h⟩
structure asI (PO':Option Int->G->Prop) (x:W) (g:G):Prop where
 h:∃ i,x=.dat (.int i)/\PO' (some i) g
theorem as_i {PO':Option Int->G->Prop} {i:Int} (h:PO' (some i) g):asI PO' (.dat (.int i)) g:=⟨i,rfl,h⟩
theorem ZOl {PO':Option Int->G->Prop} (h:EvP (d sd g) (asI PO')):EvP (ZB2 d sd g) PO':=by
 obtain ⟨x,g1,e1,i,rfl,h⟩:=h
 exact ⟨some i,g1,by unfold ZB2; rw [e1]; rfl,h⟩
theorem x_sl {l u:DO} (h:EvP (d sd g) λ x g1=>EvP (l sd g1) λ i g2=>EvP (u sd g2) λ j g3=>EvP (slO x i j g3) P):EvP (dSl d l u sd g) P:=by
 obtain ⟨x,g1,e1,i,g2,e2,j,g3,e3,z,g4,e4,h⟩:=h
 exact ⟨z,g4,by unfold dSl; rw [e1]; show (l sd g1).bind _=_; rw [e2]; show (u sd g2).bind _=_; rw [e3]; exact e4,h⟩
structure EvI (o:Option (List PyData × Option Nat × G)) (P:List PyData->Option Nat->G->Prop):Prop where
 h:∃ xs src g,o=some (xs,src,g)/\P xs src g
theorem ZO7 {PI':List PyData->Option Nat->G->Prop} {xs:List PyData} {src:Option Nat} (h:PI' xs src g):EvI (some (xs,src,g)) PI':=⟨_,_,_,rfl,h⟩
theorem ZNs {PI':List PyData->Option Nat->G->Prop} (h:EvP (d sd g) λ x g1=>EvI (ZLr x g1) PI'):EvI (ZCf d sd g) PI':=by
 obtain ⟨x,g1,e1,xs,src,g2,e2,h⟩:=h
 exact ⟨xs,src,g2,by unfold ZCf; rw [e1]; exact e2,h⟩
theorem ZAe {PI':List PyData->Option Nat->G->Prop} {j:Int} {g1:G} (h:EvP (aa sd g) λ ws g1=>∃ j:Int,ws=[.dat (.int j)]/\(j<=1000/\-1000<=j)/\PI' (ZBy j.toNat 0) none g1):EvI (ZAI aa sd g) PI':=by
 obtain ⟨ws,g1,e1,j,rfl,hj,h⟩:=h
 exact ⟨_,_,g1,by unfold ZAI; rw [e1]; exact if_pos hj,h⟩
theorem ZMc {PI':List PyData->Option Nat->G->Prop} (h:EvP (aa sd g) λ ws g1=>∃ ds:List PyData,ws=[.dat (.tuple ds)]/\PI' (ZCR 0 ds) none g1):EvI (ZC1 aa sd g) PI':=by
 obtain ⟨ws,g1,e1,j,rfl,h⟩:=h
 exact ⟨_,_,g1,by unfold ZC1; rw [e1]; rfl,h⟩
theorem ZOQ {own:Nat} {cap:List Nat} {pt:Pat} {di:DI} {dt:DB} {de:DE} (h:EvI (di sd g) λ xs src g1=>xs.length<=1000/\EvP (ZBW src xs pt dt de (ZGH own cap sd) xs g1) λ ys g2=>P (.dat (.list ys)) g2):EvP (ZAa own cap pt di dt de sd g) P:=by
 obtain ⟨xs,src,g1,e1,hl,ys,g2,e2,h⟩:=h
 refine ⟨_,g2,?_,h⟩
 unfold ZAa
 rw [e1]
 show (if xs.length<=1000 then _ else _)=_
 rw [if_pos hl]
 show (ZBW src xs pt dt de (ZGH own cap sd) xs g1).map _=_
 rw [e2]
 rfl
structure EvS (o:Option Out) (P:Out->Prop):Prop where
 h:∃ x,o=some x/\P x
variable {PS':Out->Prop} {a b:DS}
inductive seqP (b:DS) (P:Out->Prop):Out->Prop
 | nx {sd:Sd} {g:G}:EvS (b sd g) P->seqP b P (.nx sd g)
 | rt {x:W} {g:G}:P (.rt x g)->seqP b P (.rt x g)
 | bk {sd:Sd} {g:G}:P (.bk sd g)->seqP b P (.bk sd g)
 | ct {sd:Sd} {g:G}:P (.ct sd g)->seqP b P (.ct sd g)
theorem ZPS (h:EvS (b sd g) PS'):seqP b PS' (.nx sd g):=.nx h
theorem ZPD {x:W} (h:PS' (.rt x g)):seqP b PS' (.rt x g):=.rt h
theorem x_seq (h:EvS (a sd g) (seqP b PS')):EvS (ZP a b sd g) PS':=by
 obtain ⟨o,e,h⟩:=h
 cases h with
 | nx h =>
  obtain ⟨o,e2,h⟩:=h
  exact ⟨o,by unfold ZP; rw [e]; exact e2,h⟩
 | rt h=>exact ⟨_,by unfold ZP; rw [e]; rfl,h⟩
 | bk h=>exact ⟨_,by unfold ZP; rw [e]; rfl,h⟩
 | ct h=>exact ⟨_,by unfold ZP; rw [e]; rfl,h⟩
theorem x_nx (h:PS' (.nx sd g)):EvS (dNx sd g) PS':=⟨_,rfl,h⟩
theorem x_set {i:Nat} (h:EvP (d sd g) λ x g1=>PS' (.nx (sd.set i (some x)) g1)):EvS (Zq i d sd g) PS':=by
 obtain ⟨x,g1,e,h⟩:=h
 exact ⟨_,by unfold Zq; rw [e]; rfl,h⟩
theorem x_asg {pt:Pat} (h:EvP (d sd g) λ x g1=>∃ sd1,Zr pt x sd=some sd1/\PS' (.nx sd1 g1)):EvS (ZAv pt d sd g) PS':=by
 obtain ⟨x,g1,e,sd1,e1,h⟩:=h
 exact ⟨_,by unfold ZAv; rw [e]; show (Zr pt x sd).map _=_; rw [e1]; rfl,h⟩
theorem ZNc (h:EvP (d sd g) λ x g1=>PS' (.rt x g1)):EvS (Zd d sd g) PS':=by
 obtain ⟨x,g1,e,h⟩:=h
 exact ⟨_,by unfold Zd; rw [e]; rfl,h⟩
theorem ZOU (h:EvP (d sd g) λ x g1=>PS' (.nx sd g1)):EvS (ZAx d sd g) PS':=by
 obtain ⟨x,g1,e,h⟩:=h
 exact ⟨_,by unfold ZAx; rw [e]; rfl,h⟩
theorem x_ifS (h:EvP (ta sd g) λ k g1=>(k=true->EvS (a sd g1) PS')/\(k=false->EvS (b sd g1) PS')):EvS (ZAE ta a b sd g) PS':=by
 obtain ⟨k,g1,e,h1,h2⟩:=h
 cases k with
 | true =>
  obtain ⟨o,e2,h⟩:=h1 rfl
  exact ⟨o,by unfold ZAE; rw [e]; exact e2,h⟩
 | false =>
  obtain ⟨o,e2,h⟩:=h2 rfl
  exact ⟨o,by unfold ZAE; rw [e]; exact e2,h⟩
theorem x_for {pt:Pat} {di:DI} (h:EvI (di sd g) λ xs src g1=>EvS (ZAg src xs pt b xs sd g1) PS'):EvS (ZCn pt di b sd g) PS':=by
 obtain ⟨xs,src,g1,e1,o,e2,h⟩:=h
 exact ⟨o,by unfold ZCn; rw [e1]; exact e2,h⟩
theorem x_app {dl:DE} (h:EvP (dl sd g) λ l g1=>∃ n,l=.ref n/\isL g1 n=true/\EvP (d sd g1) λ x g2=>∃ y,x=.dat y/\∃ ds,g2[n]? = some (.pl ds)/\ds.length < 1000/\P (.dat .none) (g2.set n (.pl (ds ++ [y])))):EvP (ZEH dl d sd g) P:=by
 obtain ⟨l,g1,e1,n,rfl,hil,x,g2,e2,y,rfl,ds,e3,hl,h⟩:=h
 refine ⟨_,_,?_,h⟩
 unfold ZEH
 rw [e1]
 show (if isL g1 n=true then _ else _)=_
 rw [if_pos hil]
 show (d sd g1).bind _=_
 rw [e2]
 show (match g2[n]? with | some (.pl ds)=>_ | some (.rl ws)=>_ | _=>_)=_
 rw [e3]
 exact if_pos hl
theorem x_sto {dl di:DE} (h:EvP (d sd g) λ v g1=>∃ x,v=.dat x/\EvP (dl sd g1) λ l g2=>∃ n,l=.ref n/\EvP (di sd g2) λ i g3=>∃ k,i=.dat (.int k)/\∃ ds,g3[n]? = some (.pl ds)/\∃ j,ixN ds.length k=some j/\PS' (.nx sd (g3.set n (.pl (ds.set j x))))):EvS (ZI8 dl di d sd g) PS':=by
 obtain ⟨v,g1,e1,x,rfl,l,g2,e2,n,rfl,i,g3,e3,k,rfl,ds,e4,j,e5,h⟩:=h
 refine ⟨_,?_,h⟩
 unfold ZI8
 rw [e1]
 show (dl sd g1).bind _=_
 rw [e2]
 show (di sd g2).bind _=_
 rw [e3]
 show (match g3[n]? with | some (.pl ds)=>_ | some (.rl ws)=>_ | _=>_)=_
 rw [e4]
 show (ixN ds.length k).map _=_
 rw [e5]
 rfl
end
inductive runP (P:W->G->Prop):Out->Prop
 | rt {x:W} {g':G}:P x g'->runP P (.rt x g')
 | nx {sd:Sd} {g':G}:P (.dat .none) g'->runP P (.nx sd g')
theorem ZOe {x:W} {g':G} {P:W->G->Prop} (h:P x g'):runP P (.rt x g'):=.rt h
theorem ZOg {sd:Sd} {g':G} {P:W->G->Prop} (h:P (.dat .none) g'):runP P (.nx sd g'):=.nx h
theorem Zl {n:Nat} {d:DS} {ws:List W} {g:G} {P:W->G->Prop} (h:EvS (d (ws.map some ++ List.replicate (n - ws.length) none) g) (runP P)):EvP (ZAL n d ws g) P:=by
 obtain ⟨o,e,h⟩:=h
 unfold ZAL
 rw [e]
 cases h with
 | rt h=>exact ⟨_,_,rfl,h⟩
 | nx h=>exact ⟨_,_,rfl,h⟩
def ZNa (src:Option Nat) (xs:List PyData) (I:Sd->G->Prop) (P:Out->Prop):Out->Prop
 | .nx sd g=>ZBc src xs g/\I sd g
 | .ct sd g=>ZBc src xs g/\I sd g
 | .bk sd g=>P (.nx sd g)
 | .rt x g=>P (.rt x g)
theorem ZBo {α : Type} {src:Option Nat} {xs:List PyData} {g:G} {k:Option α} (h:ZBc src xs g):ZCP src xs g k=k:=by
 unfold ZCP
 cases src with
 | none=>rfl
 | some n=>exact if_pos h
theorem ZCU {src:Option Nat} {xs:List PyData} {pt:Pat} {db:DS} {P:Out->Prop} (I:Nat->Sd->G->Prop) {sd:Sd} {g:G} (h0:I 0 sd g)
  (hs:∀ i x sd g,xs[i]? = some x->I i sd g->∃ sd1,Zr pt (.dat x) sd=some sd1/\EvS (db sd1 g) (ZNa src xs (I (i+1)) P)) (hd:∀ sd g,I xs.length sd g->P (.nx sd g)):EvS (ZAg src xs pt db xs sd g) P:=by
 have go:∀ (k i:Nat) sd g,i+k=xs.length->I i sd g->EvS (ZAg src xs pt db (xs.drop i) sd g) P:=by
  intro k
  induction k with
  | zero =>
   intro i sd g hi h
   have:i=xs.length:=by omega
   subst this
   rw [List.drop_length,ZAg]
   exact ⟨_,rfl,hd sd g h⟩
  | succ k ih =>
   intro i sd g hi h
   have hlt:i < xs.length:=by omega
   rw [List.drop_eq_getElem_cons hlt,ZAg]
   obtain ⟨sd1,e1,o,e2,h2⟩:=hs i xs[i] sd g (List.getElem?_eq_getElem hlt) h
   rw [e1]
   show EvS ((db sd1 g).bind _) P
   rw [e2]
   cases o with
   | nx sd2 g2=>show EvS (ZCP _ _ _ _) P; rw [ZBo h2.1]; exact ih (i+1) sd2 g2 (by omega) h2.2
   | ct sd2 g2=>show EvS (ZCP _ _ _ _) P; rw [ZBo h2.1]; exact ih (i+1) sd2 g2 (by omega) h2.2
   | bk sd2 g2=>exact ⟨_,rfl,h2⟩
   | rt x g2=>exact ⟨_,rfl,h2⟩
 exact go xs.length 0 sd g (by omega) h0
theorem ZLo {α : Type} {src:Option Nat} {xs:List PyData} {pt:Pat} {dt:DB} {de:DE} {sd0:Sd} {g:G} (enc : α->PyData) (c : α->Bool) (f : α->PyData) (so:ZBc src xs g):∀ L:List α,
  (∀ a ∈ L,∃ sd1,Zr pt (.dat (enc a)) sd0=some sd1/\EvP (dt sd1 g) λ b g1=>b=c a/\g1=g/\(c a=true->EvP (de sd1 g) λ y g2=>y=.dat (f a)/\g2=g))->ZBW src xs pt dt de sd0 (L.map enc) g=some ((L.filter c).map f,g)
 | [],_=>rfl
 | a :: L,h=>by
  obtain ⟨sd1,e1,b,g1,e2,rfl,rfl,h2⟩:=h a (List.mem_cons_self ..)
  rw [List.map_cons,ZBW,e1]
  show ((dt sd1 g1).bind _)=_
  rw [e2]
  show (if c a=true then _ else _)=_
  have ih:=ZLo enc c f so L λ z hz=>h z (List.mem_cons_of_mem _ hz)
  cases hc:c a with
  | true =>
   rw [if_pos rfl]
   obtain ⟨y,g2,e3,rfl,rfl⟩:=h2 hc
   rw [e3]
   show ZCP src xs g2 _=_
   rw [ZBo so,ih,List.filter_cons_of_pos hc]
   rfl
  | false =>
   rw [if_neg Bool.false_ne_true,ZBo so,ih,List.filter_cons_of_neg (by rw [hc]; exact Bool.false_ne_true)]
theorem ZC5 {α : Type} {src:Option Nat} {xs:List PyData} {pt:Pat} {dt:DB} {de:DE} {sd0:Sd} {g:G} {P:List PyData->G->Prop} (enc : α->PyData) (c : α->Bool) (f : α->PyData) (L:List α) (e:xs=L.map enc) (so:ZBc src xs g)
  (h:∀ a ∈ L,∃ sd1,Zr pt (.dat (enc a)) sd0=some sd1/\EvP (dt sd1 g) λ b g1=>b=c a/\g1=g/\(c a=true->EvP (de sd1 g) λ y g2=>y=.dat (f a)/\g2=g)) (hP:P ((L.filter c).map f) g):EvP (ZBW src xs pt dt de sd0 xs g) P:=by
 refine ⟨_,g,?_,hP⟩
 conv=>lhs; arg 7; rw [e]
 exact ZLo enc c f so L h
theorem ZBX {α : Type} {src:Option Nat} {xs:List PyData} {pt:Pat} {de:DE} {sd0:Sd} {g:G} {P:List PyData->G->Prop} (enc : α->PyData) (f : α->PyData) (L:List α) (e:xs=L.map enc) (so:ZBc src xs g)
  (h:∀ a ∈ L,∃ sd1,Zr pt (.dat (enc a)) sd0=some sd1/\EvP (de sd1 g) λ y g2=>y=.dat (f a)/\g2=g) (hP:P (L.map f) g):EvP (ZBW src xs pt ZDk de sd0 xs g) P:=by
 refine ZC5 enc (λ _=>true) f L e so (λ a ha=>?_) ?_
 ·obtain ⟨sd1,e1,h1⟩:=h a ha
  exact ⟨sd1,e1,true,g,rfl,rfl,rfl,λ _=>h1⟩
 ·rw [List.filter_eq_self.mpr λ _ _=>rfl]
  exact hP
theorem ZEX {src:Option Nat} {xs:List PyData} {pt:Pat} {dt:DB} {de:DE} {sd0:Sd} {P:List PyData->G->Prop} (I:G->Prop) (R:Nat->List PyData->Prop) {g:G} (h0:I g) (hR0:R 0 [])
  (h:∀ i x g acc,xs[i]? = some x->I g->R i acc->∃ sd1,Zr pt (.dat x) sd0=some sd1/\EvP (dt sd1 g) λ b g1=>(b=true->EvP (de sd1 g1) λ y g2=>∃ d,y=.dat d/\ZBc src xs g2/\I g2/\R (i+1) (acc ++ [d]))/\(b=false->ZBc src xs g1/\I g1/\R (i+1) acc))
  (hP:∀ acc g,I g->R xs.length acc->P acc g):EvP (ZBW src xs pt dt de sd0 xs g) P:=by
 have go:∀ (k i:Nat) acc g,i+k=xs.length->I g->R i acc->EvP (ZBW src xs pt dt de sd0 (xs.drop i) g) λ ys g2=>P (acc ++ ys) g2:=by
  intro k
  induction k with
  | zero =>
   intro i acc g hi h1 h2
   have:i=xs.length:=by omega
   subst this
   rw [List.drop_length,ZBW]
   exact ⟨_,_,rfl,by show P (acc ++ []) g; rw [List.append_nil]; exact hP acc g h1 h2⟩
  | succ k ih =>
   intro i acc g hi h1 h2
   have hlt:i < xs.length:=by omega
   rw [List.drop_eq_getElem_cons hlt,ZBW]
   obtain ⟨sd1,e1,b,g1,e2,kt,kf⟩:=h i xs[i] g acc (List.getElem?_eq_getElem hlt) h1 h2
   rw [e1]
   show EvP ((dt sd1 g).bind _) _
   rw [e2]
   show EvP (if b=true then _ else _) _
   cases b with
   | true =>
    obtain ⟨y,g2,e3,d,rfl,so,i2,r2⟩:=kt rfl
    rw [if_pos rfl,e3]
    show EvP (ZCP _ _ _ _) _
    rw [ZBo so]
    obtain ⟨ys,g3,e4,hp⟩:=ih (i+1) (acc ++ [d]) g2 (by omega) i2 r2
    rw [e4]
    refine ⟨_,g3,rfl,?_⟩
    rw [List.append_assoc] at hp
    exact hp
   | false =>
    obtain ⟨so,i2,r2⟩:=kf rfl
    rw [if_neg Bool.false_ne_true,ZBo so]
    exact ih (i+1) acc g1 (by omega) i2 r2
 have:=go xs.length 0 [] g (by omega) h0 hR0
 rw [List.drop_zero] at this
 exact this
section
variable {g:G} {P:W->G->Prop}
theorem ZEm {xs ys:List PyData} (h:xs.length+ys.length<=1000) (q:P (.dat (.tuple (xs ++ ys))) g):EvP (Z3 (.dat (.tuple xs)) (.dat (.tuple ys)) g) P:=ZCr h (ZCZ q)
theorem ZLP {xs ys:List PyData} (h:xs.length+ys.length<=1000) (q:P (.dat (.list (xs ++ ys))) g):EvP (Z3 (.dat (.list xs)) (.dat (.list ys)) g) P:=ZLw (if_pos h) q
theorem ZE3 {i j:Int} (h:ZG0 i j=true) (q:P (.dat (.int (i * j))) g):EvP (ZBq (.dat (.int i)) (.dat (.int j)) g) P:=ZCr h (ZCZ q)
theorem ZEJ {i j:Int} (h : 0 < j) (q:P (.dat (.int (i % j))) g):EvP (ZCG (.dat (.int i)) (.dat (.int j)) g) P:=ZCr (decide_eq_true h) (ZCZ q)
theorem ZNj {i j:Int} (h : 0 < j) (h2:j < 2 ^ 64) (q:P (.dat (.int (i / j))) g):EvP (ZEo (.dat (.int i)) (.dat (.int j)) g) P:=ZCr (by show (decide (0 < j) && decide (j < 2 ^ 64))=true; rw [decide_eq_true h,decide_eq_true h2]; rfl) (ZCZ q)
theorem ZNu {xs:List PyData} {k:Int} (h:k<=1000/\-1000<=k/\xs.length<=1000) (q:P (.dat (.list (List.replicate k.toNat xs).flatten)) g):EvP (ZBq (.dat (.list xs)) (.dat (.int k)) g) P:=ZLw (if_pos h) q
theorem ZAq {xs:List PyData} {i:Int} {d:PyData} (h:atI xs i=some d) (q:P (.dat d) g):EvP (Zm (.dat (.tuple xs)) (.dat (.int i)) g) P:=ZHA h rfl q
theorem y_ixL {xs:List PyData} {i:Int} {d:PyData} (h:atI xs i=some d) (q:P (.dat d) g):EvP (Zm (.dat (.list xs)) (.dat (.int i)) g) P:=ZHA h rfl q
theorem ZE2 {n:Nat} {xs:List PyData} {i:Int} {d:PyData} (hn:g[n]? = some (.pl xs)) (h:atI xs i=some d) (q:P (.dat d) g):EvP (Zm (.ref n) (.dat (.int i)) g) P:=by
 refine ⟨_,_,?_,q⟩
 show (match g[n]? with | some (.pl ds)=>(atI ds i).map λ d=>(W.dat d,g) | some (.rl ws)=>(atI ws i).map λ w=>(w,g) | _=>none)=_
 rw [hn]
 show (atI xs i).map _=_
 rw [h]
 rfl
theorem ZIb {n:Nat} {xs:List PyData} (hn:g[n]? = some (.pl xs)) (q:P (.dat (.int (xs.length:Int))) g):EvP (f1 ZCi [.ref n] g) P:=by
 refine ⟨_,_,?_,q⟩
 show (match g[n]? with | some (.pl ds)=>some (W.dat (.int (ds.length:Int)),g) | some (.rl ws)=>some (W.dat (.int (ws.length:Int)),g) | _=>none)=_
 rw [hn]
theorem ZEC {n:Nat} {xs:List PyData} (hn:g[n]? = some (.pl xs)) (q:P (.dat (.tuple xs)) g):EvP (f1 ZDR [.ref n] g) P:=ZHA (y:=xs) (ZE7 hn) rfl q
theorem ZO0 {n:Nat} {xs:List PyData} {PI':List PyData->Option Nat->G->Prop} (hn:g[n]? = some (.pl xs)) (q:PI' xs (some n) g):EvI (ZLr (.ref n) g) PI':=by
 refine ⟨xs,some n,g,?_,q⟩
 show (lk g n).map _=_
 rw [ZE7 hn]
 rfl
theorem ZME {x y:PyData} (h:(ok0 x && ok0 y)=true) (q:P (.dat (.bool (!x.eqv y))) g):EvP (ZBi (.dat x) (.dat y) g) P:=ZCr h (ZCZ q)
theorem ZDn {x:PyData} {ys:List PyData} (h:(ok0 x && PyData.canLayAll0 ys)=true) (q:P (.dat (.bool (ys.any λ y=>y.eqv x))) g):EvP (ZCl (.dat x) (.dat (.tuple ys)) g) P:=ZCr h (ZCZ q)
theorem y_inL {x:PyData} {ys:List PyData} (h:(ok0 x && PyData.canLayAll0 ys)=true) (q:P (.dat (.bool (ys.any λ y=>y.eqv x))) g):EvP (ZCl (.dat x) (.dat (.list ys)) g) P:=ZCr h (ZCZ q)
theorem ZIi {x:PyData} {ys:List PyData} (h:(ok0 x && PyData.canLayAll0 ys)=true) (q:P (.dat (.bool (!ys.any λ y=>y.eqv x))) g):EvP (ZB9 (.dat x) (.dat (.tuple ys)) g) P:=ZCr h (ZCZ q)
end
theorem ZBU (ns:List Int):PyData.canLayAll0 (ns.map .int)=true:=by
 induction ns with
 | nil=>rfl
 | cons n ns ih=>show (true && PyData.canLayAll0 (ns.map .int))=true; rw [ih]; rfl
theorem any_ints {ns:List Int} {k:Int}:((ns.map PyData.int).any λ y=>y.eqv (.int k))=ns.contains k:=by
 induction ns with
 | nil=>rfl
 | cons n ns ih =>
  rw [List.map_cons,List.any_cons,ih,List.contains_cons]
  congr 1
  show (n == k)=(k == n)
  exact Bool.beq_comm
theorem Zj {i j:Int}:(PyData.int i).eqv (.int j)=decide (i=j):=by
 show (i == j)=_
 exact rfl
theorem ZG9 {α : Type} {enc : α->PyData} {L:List α} {i:Nat} {a : α} (h:L[i]? = some a):atI (L.map enc) (i:Int)=some (enc a):=ZFQ (by rw [List.getElem?_map,h]; rfl)
theorem Zt {α : Type} {enc : α->PyData} {L:List α} {i:Nat} {a : α} (h:i < L.length):atI (L.map enc) (i:Int)=some (enc (L.getD i a)):=ZG9 (by rw [List.getD_eq_getElem?_getD,List.getElem?_eq_getElem h]; rfl)
def ZCJ:List Str:=["about","again","newer","others","own","refute","wait"]
theorem ok7:∀ s ∈ ZCJ,ok0 (.str s)=true:=by decide +kernel
theorem ZEv {i j:Int} (h : -(2 ^ 64) < j/\j < 2 ^ 64):ZG0 i j=true:=by
 unfold ZG0
 rw [decide_eq_true h.1,decide_eq_true h.2]
 simp
theorem ZLY {i j:Int} (h : -(2 ^ 64) < i/\i < 2 ^ 64):ZG0 i j=true:=by
 unfold ZG0
 rw [decide_eq_true h.1,decide_eq_true h.2]
 simp
theorem ZBA {α : Type} {g:List α} {b:Nat} {x : α} (h:b < g.length):(g.set b x)[b]? = some x:=List.getElem?_set_self h
def Bx (g:G) (b:Nat):Prop:=∃ x n c:Int,g[b]? = some (.pl [.int x,.int n,.int c])
theorem Bx.lt {g:G} {b:Nat} (h:Bx g b):b < g.length:=by
 obtain ⟨x,n,c,e⟩:=h
 exact (List.getElem?_eq_some_iff.mp e).1
structure Dr (b:Nat) (g g':G):Prop where
 bx:Bx g' b
 len:g.length<=g'.length
 kp:∀ n,n < g.length->n ≠ b->g'[n]? = g[n]?
theorem Dr.refl {b:Nat} {g:G} (h:Bx g b):Dr b g g:=⟨h,Nat.le_refl _,λ _ _ _=>rfl⟩
theorem Dr.trans {b:Nat} {g g1 g2:G} (h:Dr b g g1) (k:Dr b g1 g2):Dr b g g2:=⟨k.bx,Nat.le_trans h.len k.len,λ n h1 hn=>(k.kp n (Nat.lt_of_lt_of_le h1 h.len) hn).trans (h.kp n h1 hn)⟩
theorem Dr.set {b:Nat} {g:G} {x n c:Int} (h:b < g.length):Dr b g (g.set b (.pl [.int x,.int n,.int c])):=⟨⟨x,n,c,ZBA h⟩,by rw [List.length_set]; exact Nat.le_refl _,λ m _ hm=>List.getElem?_set_ne (Ne.symm hm)⟩
theorem Dr.put {b n:Nat} {g gx:G} {c:Cell} (h:Dr b g gx) (hb:b < g.length) (hn:g.length<=n):Dr b g (gx.set n c):=⟨by
 obtain ⟨x,y,z,e⟩:=h.bx
 exact ⟨x,y,z,by rw [List.getElem?_set_ne (by omega)]; exact e⟩,by rw [List.length_set]; exact h.len,λ m h1 h2=>by rw [List.getElem?_set_ne (by omega)]; exact h.kp m h1 h2⟩
theorem Dr.app {b:Nat} {g gx:G} {c:Cell} (h:Dr b g gx):Dr b g (gx ++ [c]):=⟨by
 obtain ⟨x,y,z,e⟩:=h.bx
 exact ⟨x,y,z,by rw [List.getElem?_append_left h.bx.lt]; exact e⟩,by have:=h.len; rw [List.length_append]; omega,λ m h1 h2=>by rw [List.getElem?_append_left (by have:=h.len; omega)]; exact h.kp m h1 h2⟩
structure Ex (g g':G):Prop where
 len:g.length<=g'.length
 kp:∀ n,n < g.length->g'[n]? = g[n]?
theorem Ex.refl {g:G}:Ex g g:=⟨Nat.le_refl _,λ _ _=>rfl⟩
theorem Ex.app {g gx:G} {c:Cell} (h:Ex g gx):Ex g (gx ++ [c]):=⟨by have:=h.len; rw [List.length_append]; omega,λ m h1=>by rw [List.getElem?_append_left (by have:=h.len; omega)]; exact h.kp m h1⟩
theorem Dr.ex {b:Nat} {g g1 g2:G} (h:Dr b g g1) (k:Ex g1 g2):Dr b g g2:=⟨by
 obtain ⟨x,y,z,e⟩:=h.bx
 exact ⟨x,y,z,by rw [k.kp _ h.bx.lt]; exact e⟩,Nat.le_trans h.len k.len,λ n h1 h2=>by rw [k.kp n (Nat.lt_of_lt_of_le h1 h.len)]; exact h.kp n h1 h2⟩
theorem Z2 {g:G} {c:Cell}:(g ++ [c])[g.length]? = some c:=by
 rw [List.getElem?_append_right (Nat.le_refl _),Nat.sub_self]
 rfl
theorem ZO9 {P:Program} {w:World} {K:PySem.W.Frag} {mg:Str->Option Value} {base:Heap} {k:Nat} {f:Addr} {fd:FuncData} {ps:List Str} {r:List W->G->Option (W × G)} (F:FnOk P w K mg base CX0 k f fd ps (spD K 1 r))
  (h:∀ ns:List Int,ns.length<=63->∃ g',r [.inp ns] []=some (.dat (.bool true),g')):FnOk P w K mg base CX0 k f fd ps (λ vs H Q _=>∃ (a:Addr) (ns:List Int),vs=[.ref a]/\SqL K H a (ns.map V.int)/\ns.length<=63/\∀ H',Q (.bl true) H'):=F.imp λ vs H Q E ⟨a,ns,e,hS,hl,q⟩=>by
 subst e
 obtain ⟨g',eg⟩:=h ns hl
 refine ⟨rfl,⟨[],[]⟩,[.inp ns],[],.dat (.bool true),g',⟨rfl,List.nodup_nil,λ n ds e=>by simp at e,λ a z=>by cases z⟩,.cons (.inp ?_) .nil,eg,λ v H' ρ' s' h' r'=>?_⟩
 ·rcases hS with z | z
  ·exact .inl ⟨z,λ q=>q.elim (λ z=>by cases z) λ z=>by cases z⟩
  ·exact .inr z
 ·cases r' with
  | dat r' =>
   cases r' with
   | bl b=>exact q H'
end L2
namespace L2
open PySem PySem.Spec PyProof.Rows H1
def ZER (r:Ru) (told:List Int) (x:Int) (due:List Int):List Int:=((ZEx (ZBg told r.t x due)).take r.c.toNat).map λ p=>p.2
theorem ZJK (ns:List Int):ZBK (ns.map .int)=some ns:=by
 induction ns with
 | nil=>rfl
 | cons n ns ih=>rw [List.map_cons,ZBK,ih]; rfl
theorem ZHq (ns:List Bool):ZDe (ns.map .bool)=some ns:=by
 induction ns with
 | nil=>rfl
 | cons n ns ih=>rw [List.map_cons,ZDe,ih]; rfl
section
variable {g:G} {P:W->G->Prop}
theorem y_all {bs:List Bool} (q:P (.dat (.bool (bs.all id))) g):EvP (f1 ZJw [.dat (.list (bs.map .bool))] g) P:=by
 refine ZLw ?_ q
 show ZJw _ g=_
 unfold ZJw
 show ((ZDe (bs.map .bool)).map _)=_
 rw [ZHq]
 rfl
end
theorem ZB4 (n:Nat):ZBy n 0=(List.range n).map λ j:Nat=>PyData.int (j:Int):=by
 unfold ZBy
 refine List.map_congr_left λ j _=>?_
 rw [Int.zero_add]
end L2
namespace L2
open PySem PySem.Spec PyProof.Rows H1
section
variable {X:Cx}
end
section
variable {sd:Sd} {g:G} {dl di d:DE} {PS':Out->Prop}
end
end L2
namespace L2
open PySem PySem.Spec PyProof.Rows H1
section
variable {X:Cx}
end
end L2
namespace L2
open PySem PySem.Spec PyProof.Rows H1
section
variable {X:Cx}
def ZJr (dl d:DE):DE:=λ sd g=>(dl sd g).bind λ l=>match l.1 with
 | .ref n=>if isL l.2 n=true then (d sd l.2).bind λ p=>match p.1 with
  | .dat (.list es)=>(lk p.2 n).bind λ ds=>if ds.length+es.length<=1000 then some (.dat .none,p.2.set n (.pl (ds ++ es))) else none
  | _=>none
  else none
 | _=>none
theorem ZO5 {o e:Expr} {dl d:DE} {apos cpos:Pos} (ho:PE X o (tE X.K dl)) (he:PE X e (tE X.K d)) (hbase:attributeBase o "extend" X.env (eval o X.env)=eval o X.env:=by rfl)
  (hfew:((backTo cpos (starEach [e] X.env)).all (λ x=>!x.1) && (backToKw cpos (keywordEach [] X.env)).all (λ x=>x.1.isSome)
   && decide ([e].length+([]:List Keyword).length+(if ([]:List Keyword).isEmpty then 0 else 1) < 30))=true:=by rfl)
  (hline:(apos.endLine == cpos.line)=true:=by rfl) (hs:starEach [e] X.env=(false,eval e X.env) :: starEach [] X.env:=by rfl) (hplain:(backTo cpos (starEach [] X.env)).any (·.1)=false:=by rfl) :
  PE X (.Call (.Attribute o "extend" apos) [e] [] cpos) (tE X.K (ZJr dl d)):=(ZNe PySem.F.plainAttrs_list PySem.F.slot_list_extend PySem.F.type_list_extend ZKS ho (ZHC he ZIa hs) hbase hfew hline hs hplain).imp λ σ H Q ⟨ρ,sd,g,x,g',r,e,q⟩=>by
 obtain ⟨⟨y,g1⟩,e1,e⟩:=bnd e
 refine ⟨ρ,sd,g,y,g1,r,e1,λ v H1 ρ1 s1 h1 r1=>?_⟩
 cases r1 with
 | @ref la ln hn =>
  dsimp only at e
  split at e
  case isFalse=>cases e
  rename_i hil
  obtain ⟨⟨p,g2⟩,e2,e⟩:=bnd e
  obtain ⟨vs0,h0⟩:=ZLS hil h1 hn
  refine ⟨.inl ⟨rfl,_,SqL.of h0⟩,ρ1,sd,g1,[p],g2,r.step s1 h1,by show (d sd g1).bind _=_; rw [e2]; rfl,λ vs H2 ρ2 s2 h2 r2=>?_⟩
  cases r2 with
  | cons r2 t =>
   cases t
   cases r2 with
   | dat r2 =>
    cases r2 with
    | lst hl nl tl =>
     obtain ⟨ds,e3,e⟩:=bnd e
     dsimp only at e
     split at e
     ·rename_i hz
      cases e
      obtain ⟨a',us,k1,k2,k3⟩:=h2.at_ _ _ (ZEG e3)
      have hn2 : ρ2.c[ln]? = some la:=by
       obtain ⟨rr,ee⟩:=s2.pre
       rw [ee,List.getElem?_append_left (List.getElem?_eq_some_iff.mp hn).1]
       exact hn
      rw [hn2] at k1
      cases k1
      obtain ⟨hw,sw⟩:=h2.write hn2 k2 (k3.append tl)
      exact ⟨_,_,us,_,rfl,rfl,k2,hl,by rw [k3.length,tl.length]; exact Nat.le_of_lt (Z0 hz),q _ _ ρ2 (s1.trans (s2.trans sw)) hw (.dat .non)⟩
     ·cases e
    | _=>cases e
   | _=>cases e
 | dat r1=>cases r1 <;> cases e
 | _=>cases e
def ZH0 (aa:DA) (d:DE):DE:=λ sd g=>(aa sd g).bind λ p=>(d sd p.2).bind λ i=>match i.1 with
 | .dat (.int k)=>if p.1.length<=1000 then (atI p.1 k).map λ x=>(x,i.2) else none
 | _=>none
theorem ZJn {K:PySem.W.Frag} {ρ : Rh} {H:Hp}:∀ {vs:List V} {ws:List W} {i:Nat} {w:W},RelL K ρ H vs ws->ws[i]? = some w->∃ v,vs[i]? = some v/\Rel K ρ H v w
 | _,_,_,_,.nil,h=>by simp at h
 | _,_,0,_,.cons t _,h=>by cases h; exact ⟨_,rfl,t⟩
 | _,_,i+1,_,.cons _ t,h=>ZJn (i:=i) t (by simpa using h)
theorem ZMo {es:List Expr} {b:Expr} {aa:DA} {d:DE} {pos lpos:Pos} (ha:PA X es (tA X.K aa)) (hb:PE X b (tE X.K d)) (hs:ZEL b):PE X (.Subscript (.List es lpos) b pos) (tE X.K (ZH0 aa d)):=(ZNk ZEQ (ZJL ha) hb hs).imp λ σ H Q ⟨ρ,sd,g,x,g',r,e,q⟩=>by
 obtain ⟨⟨ws,g1⟩,e1,e⟩:=bnd e
 obtain ⟨⟨i,g2⟩,e2,e⟩:=bnd e
 refine ⟨ρ,sd,g,ws,g1,r,e1,λ vs H1 ρ1 s1 h1 r1=>?_⟩
 have hl:vs.length=ws.length:=r1.length
 cases i with
 | dat i =>
  cases i with
  | int k =>
   dsimp only at e
   split at e
   ·rename_i hz
    obtain ⟨w,e3,e⟩:=mp e
    cases e
    refine ⟨by rw [hl]; exact Nat.le_of_lt (Z0 hz),λ p hp=>?_⟩
    obtain ⟨sm,hr2,hn⟩:=ZCH (o:=.lst vs) h1 hp
    have s2:Stp ρ1 H1 ρ1 (upd H1 p (.lst vs)):=.same sm
    refine ⟨ρ1,sd,g1,_,g',r.step (s1.trans s2) hr2,e2,λ v H3 ρ3 s3 h3 r3=>?_⟩
    cases r3 with
    | dat r3 =>
     cases r3 with
     | int _ =>
      have hp3:H3 p=some (.lst vs):=s3.frm _ _ Zo λ z=>hn (.inl z)
      unfold atI at e3
      obtain ⟨j,ej,ew⟩:=bnd e3
      obtain ⟨v,hv,rv⟩:=ZJn r1 ew
      refine ⟨p,vs,k,v,rfl,rfl,SqL.of hp3,?_,q v H3 ρ3 (s1.trans (s2.trans s3)) h3 ((rv.mono s2).mono s3)⟩
      unfold atI
      rw [hl,ej]
      exact hv
   ·cases e
  | _=>cases e
 | _=>cases e
theorem ZMT {o e:Expr} {dl d:DE} {apos cpos:Pos} (ho:JE X o dl) (he:JE X e d) (hbase:attributeBase o "extend" X.env (eval o X.env)=eval o X.env:=by rfl)
  (hfew:((backTo cpos (starEach [e] X.env)).all (λ x=>!x.1) && (backToKw cpos (keywordEach [] X.env)).all (λ x=>x.1.isSome)
   && decide ([e].length+([]:List Keyword).length+(if ([]:List Keyword).isEmpty then 0 else 1) < 30))=true:=by rfl)
  (hline:(apos.endLine == cpos.line)=true:=by rfl) (hs:starEach [e] X.env=(false,eval e X.env) :: starEach [] X.env:=by rfl) (hplain:(backTo cpos (starEach [] X.env)).any (·.1)=false:=by rfl) :
  JE X (.Call (.Attribute o "extend" apos) [e] [] cpos) (ZJr dl d):=⟨ZO5 ho.h he.h hbase hfew hline hs hplain⟩
theorem ZKj {es:List Expr} {b:Expr} {aa:DA} {d:DE} {pos lpos:Pos} (ha:JA X es aa) (hb:JE X b d) (hs:ZEL b):JE X (.Subscript (.List es lpos) b pos) (ZH0 aa d):=⟨ZMo ha.h hb.h hs⟩
end
section
variable {sd:Sd} {g:G} {P:W->G->Prop} {d:DE}
theorem x_ext {dl:DE} (h:EvP (dl sd g) λ l g1=>∃ n,l=.ref n/\isL g1 n=true/\EvP (d sd g1) λ x g2=>∃ es,x=.dat (.list es)/\∃ ds,g2[n]? = some (.pl ds)/\ds.length+es.length<=1000/\P (.dat .none) (g2.set n (.pl (ds ++ es)))):EvP (ZJr dl d sd g) P:=by
 obtain ⟨l,g1,e1,n,rfl,hil,x,g2,e2,es,rfl,ds,e3,hz,h⟩:=h
 refine ⟨_,_,?_,h⟩
 unfold ZJr
 rw [e1]
 show (if isL g1 n=true then _ else _)=_
 rw [if_pos hil]
 show (d sd g1).bind _=_
 rw [e2]
 show (lk g2 n).bind _=_
 rw [ZE7 e3]
 exact if_pos hz
theorem ZPE {aa:DA} (h:EvP (aa sd g) λ ws g1=>EvP (d sd g1) λ x g2=>∃ i:Int,x=.dat (.int i)/\ws.length<=1000/\∃ w,atI ws i=some w/\P w g2):EvP (ZH0 aa d sd g) P:=by
 obtain ⟨ws,g1,e1,x,g2,e2,i,rfl,hz,w,e3,h⟩:=h
 refine ⟨_,_,?_,h⟩
 unfold ZH0
 rw [e1]
 show (d sd g1).bind _=_
 rw [e2]
 show (if ws.length<=1000 then (atI ws i).map λ x=>(x,g2) else none)=_
 rw [if_pos hz,e3]
 rfl
end
end L2
namespace L2
open PySem PySem.Spec PyProof.Rows H1
open AutoSeq1 (wpAny_loadPart')
section
variable {prog:Program} {w:World} {A:Around} {E:Value->Shared->Prop} {s:Shared}
theorem ZDl {Q:List Value->Shared->Prop} {r:Addr} {a b c:Int} {t u v:Tok} {n:Nat} (hh:A.handled=none) (hr:IsRange s.heap r a b c t u v) (hsmall:Builtin.Range.small a b c=true)
  (hn:Builtin.Range.rangeSize a b c=n) (hlen:n<=2 ^ 24)
  (hQ:∀ (h':Heap) tk (acc:Array Value),(∀ b o,s.heap.get? b=some o->h'.get? b=some o)->ItemsOf (λ i v=>∃ t,v=.int (a+i * c) t) acc n->Q acc.toList { s with heap:=h',toks:=tk }):wpAny (model prog w) A (collect (.ref r)) Q E s:=by
 have hS₁ : (s.heap.push { cls:=.type "list",data:=.seq ([]:List Value).toArray }).get? s.heap.objs.size=some { cls:=.type "list",data:=.seq #[] }:=Heap.get?_push_size _ rfl
 have key:∀ R:Result->Shared->Prop,(∀ (h':Heap) tk (acc':Array Value) c',(∀ b o,s.heap.get? b=some o->h'.get? b=some o)->h'.get? s.heap.objs.size=some { cls:=.type "list",dict:=none,data:=.seq acc' c',slots:=#[] }->ItemsOf (λ i v=>∃ t,v=.int (a+i * c) t) acc' n->R (.ok (.ret (.ref s.heap.objs.size))) { s with heap:=h',toks:=tk })->codeAny (model prog w) A (.builtin "proto.collect" ⟨[.ref r],[]⟩) R s:=by
  intro R hR
  refine codeAny_builtin F.entry_proto_collect ?_
  rw [Around.under_plainId F.plain_proto_collect _]
  show wpAny _ A.in1 (newList [] >>= λ l=>again (.builtin "list.__iadd__" ⟨[l,.ref r],[]⟩)) _ _ s
  refine wpAny_bind (wpAny_newObj_type ?_)
  refine wpAny_pure ⟨plainId_quiet F.plain_list_iadd _,codeAny_builtin F.entry_list_iadd ?_⟩
  rw [Around.under_plainId F.plain_list_iadd _]
  exact wpAny_extend_range (R:=R) (s:={ s with heap:=s.heap.push { cls:=.type "list",data:=.seq ([]:List Value).toArray } }) hh (Heap.get?_push_of_some _ hr) hsmall hn hlen s.heap.objs.size (.ref s.heap.objs.size) 0 hS₁ λ h' tk acc' c' hk hS' hacc=>hR h' tk acc' c' (λ b o e=>hk b o (Nat.ne_of_lt (Heap.lt_size e)) (Heap.get?_push_of_some _ e)) hS' hacc
 unfold collect
 refine wpAny_bind (wpAny_runValue (key _ λ h' tk acc' c' hk hS' hacc=>?_))
 show wpAny _ A (load s.heap.objs.size >>= _) _ _ _
 refine wpAny_bind (wpAny_load hS' ?_)
 exact wpAny_pure (hQ h' tk acc' hk hacc)
theorem ZDX {Q₁ : Value->Shared->Prop} {r:Addr} {a b c:Int} {t u v:Tok} {n:Nat} (hh:A.handled=none) (hr:IsRange s.heap r a b c t u v) (hsmall:Builtin.Range.small a b c=true)
  (hn:Builtin.Range.rangeSize a b c=n) (hlen:n<=2 ^ 24) (hsz:n<=sizeLine)
  (h:∀ (h':Heap) tk (acc:Array Value),(∀ b o,s.heap.get? b=some o->h'.get? b=some o)->ItemsOf (λ i v=>∃ t,v=.int (a+i * c) t) acc n->Q₁ (.ref h'.objs.size) { s with heap:=h'.push { cls:=.type "tuple",data:=.seq acc },toks:=tk }) :
  codeAny (model prog w) A (.call (.builtin "tuple.__new__") ⟨[.type "tuple",.ref r],[]⟩) (wants Q₁ E) s:=by
 refine codeAny_of_tree ?_
 show wpAny _ A.in1 (do checkBuiltinCall "tuple.__new__" ⟨[.type "tuple",.ref r],[]⟩; again (.builtin "tuple.__new__" ⟨[.type "tuple",.ref r],[]⟩)) _ _ s
 refine wpAny_bind (wpAny_of_eq (F.newCall_tuple_1 _) (wpAny_pure ⟨plainId_quiet F.plain_tuple_new _,codeAny_builtin F.entry_tuple_new ?_⟩))
 rw [Around.under_plainId F.plain_tuple_new _]
 have hsub:=sub_tuple_self
 have hinit:=init_tuple_lookup
 have hmh:=madeHere_tuple
 have hTI:s.TypeIs (.ref r) "range":=⟨_,hr,rfl⟩
 have hh1:A.in1.handled=none:=hh
 wp_walk using wpAny_typeOf hTI,ZDl hh1 hr hsmall hn hlen
 intro h' tk acc hm hacc
 show wpAny _ _ (Builtin.Tuple.tupleExact acc.toList.toArray >>= λ v=>ret v) _ _ _
 unfold Builtin.Tuple.tupleExact
 refine wpAny_bind (wpAny_newObj_type ?_ (by show acc.toList.toArray.size<=sizeLine; simp only [Array.toArray_toList]; rw [hacc.1]; exact hsz))
 refine wpAny_pure ?_
 have e:acc.toList.toArray=acc:=by simp
 rw [e]
 exact h h' tk acc hm hacc
theorem ZEs {Q:Value->Shared->Prop} {r:Addr} {a b c:Int} {t u v:Tok} {n:Nat} (hh:A.handled=none) (hr:IsRange s.heap r a b c t u v) (hsmall:Builtin.Range.small a b c=true)
  (hn:Builtin.Range.rangeSize a b c=n) (hlen:n<=2 ^ 24) (hsz:n<=sizeLine)
  (hQ:∀ (h':Heap) tk (acc:Array Value),(∀ b o,s.heap.get? b=some o->h'.get? b=some o)->ItemsOf (λ i v=>∃ t,v=.int (a+i * c) t) acc n->Q (.ref h'.objs.size) { s with heap:=h'.push { cls:=.type "tuple",data:=.seq acc },toks:=tk }) :
  wpAny (model prog w) A (call (.type "tuple") [.ref r]) Q E s:=by
 refine callType_codes (Q₁:=λ obj s₁=>s₁.TypeIs obj "tuple"/\Q obj s₁) F.called_tuple (F.typeCall_tuple_1 _) F.entry_object_init
  (ZDX hh hr hsmall hn hlen hsz λ h' tk acc hm hacc=>⟨⟨_,Heap.get?_push_size _ rfl,rfl⟩,hQ h' tk acc hm hacc⟩) λ obj s₁ h₁=>?_
 exact ⟨h₁.1,F.args_object_init_2 obj _,object_init_meets F.called_tuple.init.lookup F.called_tuple.made (by decide) prog w A.in1 _ s₁ ⟨h₁.1,rfl,h₁.2⟩⟩
end
end L2
namespace L2
open PySem PySem.Spec PyProof.Rows H1
section
variable {X:Cx}
theorem ZFa (hc:X.calm=true):ZAG X (.type "tuple") (λ xs H Q=>∃ p j,xs=[.ref p]/\H p=some (.rng 0 j)/\(0<=j/\j<=1000)/\∀ l,H l=none->Q (.ref l) (upd H l (.tup (ZGz j.toNat)))):=by
 intro pins s σ H xs us Q I r h
 obtain ⟨p,j,rfl,hp,⟨h0,h1⟩,q⟩:=h
 obtain ⟨u,rfl,ru⟩:=ZDm r
 cases ru
 obtain ⟨t,u,v,ho⟩:=I.hok p _ hp
 have hj:(j.toNat:Int)=j:=Int.toNat_of_nonneg h0
 have hl:(ZGz j.toNat).length=j.toNat:=by unfold ZGz; simp
 refine ZEs (n:=j.toNat) (I.ok.hd hc) (show IsRange s.heap p 0 j 1 t u v from ho) (small_one (by omega) (by omega) (by omega) (by omega)) (by rw [rangeSize_one]; split <;> omega) (by omega) (Nat.le_of_lt (Z0 (by omega))) λ h' tk acc kp hacc=>?_
 have e:(rangeInts 0 1 j.toNat)=(List.range j.toNat).map λ (i:Nat)=>(i:Int):=by
  unfold rangeInts
  apply List.map_congr_left
  intro a _
  omega
 have ca:CarriedAll acc.toList ((rangeInts 0 1 j.toNat).map .int):=carriedAll_of_get _ _ (by simp [hacc.1,rangeInts_length]) λ i v hv=>by
  have hv':acc[i]? = some v:=by simpa using hv
  obtain ⟨tk,rfl⟩:=hacc.2 i v hv'
  have hi:i < j.toNat:=by
   have:=(Array.getElem?_eq_some_iff.mp hv').1
   rw [hacc.1] at this; exact this
  exact ⟨.int (0+(i:Nat) * 1),by simp [rangeInts_get hi],.int _ _⟩
 have ev:Zp (ZGz j.toNat) acc.toList:=by
  have:=ZIS ca
  rw [e,List.map_map] at this
  exact this
 have I1:Inv X pins σ H { s with heap:=h',toks:=tk }:=I.kept (t':=tk) kp
 have I2:Inv X pins σ (upd H h'.objs.size (.tup (ZGz j.toNat))) { s with heap:=h'.push { cls:=.type "tuple",data:=.seq acc },toks:=tk } :=
  I1.laid (t':=tk) (λ b o e=>Heap.get?_push_of_some _ e) (Nat.le_refl _) (show ZCD X.prog X.w _ _ _ (.tup (ZGz j.toNat)) from ⟨by rw [hl]; exact Nat.le_of_lt (Z0 (by omega)),acc.toList,ev,IsTup.new _ _⟩)
 exact ⟨.ref h'.objs.size,_,I2,rfl,q _ (I1.hok.fresh (Nat.le_refl _))⟩
end
end L2
namespace L2
open PySem PySem.Spec PyProof.Rows H1
section
variable {X:Cx}
def ZHy (d:DE):DE:=λ sd g=>(d sd g).bind λ p=>match p.1 with
 | .dat (.int j)=>if 0<=j/\j<=1000 then some (.dat (.tuple (ZBy j.toNat 0)),p.2) else none
 | _=>none
theorem ZHv {K:PySem.W.Frag} {ρ : Rh} {H:Hp} {α : Type} (f : α->Int):∀ L:List α,RelDL K ρ H (L.map λ i=>V.int (f i)) (L.map λ i=>PyData.int (f i))
 | []=>.nil
 | a :: r=>.cons (.int _) (ZHv f r)
theorem ZM0 {K:PySem.W.Frag} {ρ : Rh} {H:Hp} (n:Nat):RelDL K ρ H (ZGz n) (ZBy n 0):=by
 rw [ZB4]
 unfold ZGz
 exact ZHv (λ j:Nat=>(j:Int)) _
theorem ZJs {e:Expr} {d:DE} {p p2 pos pos2:Pos} (hc:X.calm=true) (hg:Gl X "tuple") (hm:X.mg "tuple" = none) (hgr:Gl X "range") (hmr:X.mg "range" = none) (ha:PE X e (tE X.K d))
  (hs1:starEach [.Call (.Name "range" p2) [e] [] pos2] X.env=(false,eval (.Call (.Name "range" p2) [e] [] pos2) X.env) :: starEach [] X.env:=by rfl) (hs2:starEach [e] X.env=(false,eval e X.env) :: starEach [] X.env:=by rfl)
  (hpl:(backTo pos (starEach [] X.env)).any (·.1)=false:=by rfl) (hpl2:(backTo pos2 (starEach [] X.env)).any (·.1)=false:=by rfl) :
  PE X (.Call (.Name "tuple" p) [.Call (.Name "range" p2) [e] [] pos2] [] pos) (tE X.K (ZHy d)) :=
 (ZEu (ZFa hc) hg hm boot_tuple (ZHI (ZEu (T:="range") ZHp hgr hmr rfl (ZHI ha ZI9 hs2) (by decide) (by decide) hs2 hpl2) ZI9 hs1) (by decide) (by decide) hs1 hpl).imp λ σ H Q ⟨ρ,sd,g,x,g',r,e,q⟩=>by
  obtain ⟨⟨y,g1⟩,e1,e⟩:=bnd e
  cases y with
  | dat y =>
   cases y with
   | int j =>
    dsimp only at e
    split at e
    ·rename_i hj
     cases e
     refine ⟨ρ,sd,g,.dat (.int j),_,r,e1,λ v H1 ρ1 s1 h1 r1=>?_⟩
     cases r1 with
     | dat r1 =>
      cases r1 with
      | int _ =>
       refine ⟨j,rfl,λ a hp=>?_⟩
       obtain ⟨sm,hr2,hn⟩:=ZCH (o:=.rng 0 j) h1 hp
       refine ⟨a,j,rfl,Zo,hj,λ l hl=>?_⟩
       obtain ⟨sm2,hr3,hn3⟩:=ZCH (o:=.tup (ZGz j.toNat)) hr2 hl
       exact q _ _ ρ1 (s1.trans ((Stp.same sm).trans (.same sm2))) hr3 (.dat (.tup (.inl ⟨.inl Zo,hn3⟩) (ZM0 _)))
    ·cases e
   | _=>cases e
  | _=>cases e
theorem ZI2 {e:Expr} {d:DE} {p p2 pos pos2:Pos} (hc:X.calm=true) (hg:Gl X "tuple") (hm:X.mg "tuple" = none) (hgr:Gl X "range") (hmr:X.mg "range" = none) (ha:JE X e d)
  (hs1:starEach [.Call (.Name "range" p2) [e] [] pos2] X.env=(false,eval (.Call (.Name "range" p2) [e] [] pos2) X.env) :: starEach [] X.env:=by rfl) (hs2:starEach [e] X.env=(false,eval e X.env) :: starEach [] X.env:=by rfl)
  (hpl:(backTo pos (starEach [] X.env)).any (·.1)=false:=by rfl) (hpl2:(backTo pos2 (starEach [] X.env)).any (·.1)=false:=by rfl) :
  JE X (.Call (.Name "tuple" p) [.Call (.Name "range" p2) [e] [] pos2] [] pos) (ZHy d):=⟨ZJs hc hg hm hgr hmr ha.h hs1 hs2 hpl hpl2⟩
end
section
variable {sd:Sd} {g:G} {P:W->G->Prop} {d:DE}
theorem ZNx (h:EvP (d sd g) λ x g1=>∃ j:Int,x=.dat (.int j)/\(0<=j/\j<=1000)/\P (.dat (.tuple (ZBy j.toNat 0))) g1):EvP (ZHy d sd g) P:=by
 obtain ⟨x,g1,e1,j,rfl,hz,h⟩:=h
 refine ⟨_,_,?_,h⟩
 unfold ZHy
 rw [e1]
 exact if_pos hz
end
end L2
namespace L2
open PySem PySem.Spec PyProof.Rows H1
section
variable {X:Cx} {pos:Pos}
def ZGX (i j l:Nat) (a:DA):DS:=λ sd g=>(a sd g).bind λ p=>match p.1 with | [x,y,z]=>some (.nx (((sd.set l (some z)).set j (some y)).set i (some x)) p.2) | _=>none
theorem ZL5 {i j l:Nat} {aa:DA} {D:Ends} {σ : St} {H:Hp} (h:tS X.K (ZGX i j l aa) D σ H):ZNb i j l (tA X.K aa) D σ H:=by
 obtain ⟨ρ,sd,g,oo,r,e,q⟩:=h
 obtain ⟨⟨ws,g1⟩,e1,e⟩:=bnd e
 refine ⟨ρ,sd,g,ws,g1,r,e1,λ vs H1 ρ1 s1 h1 r1=>?_⟩
 cases r1 with
 | nil=>cases e
 | cons a t =>
  cases t with
  | nil=>cases e
  | cons b t =>
   cases t with
   | nil=>cases e
   | cons c t =>
    cases t with
    | nil=>cases e; exact ⟨_,_,_,rfl,q _ H1 ρ1 s1 ((((r.step s1 h1).set c l).set b j).set a i)⟩
    | cons _ _=>cases e
theorem ZHl {i j l:Nat} {x y z:Str} {a b c:Expr} {aa:DA} {px py pz pt:Pos} {kt k2 pt2} (hc:X.calm=true) (hN:X.N.Nodup) (hi:X.N[i]? = some x) (hj:X.N[j]? = some y) (hl:X.N[l]? = some z)
  (hx:X.env.scope.names.lookup x=some .local) (hy:X.env.scope.names.lookup y=some .local) (hz:X.env.scope.names.lookup z=some .local) (ha:JA X [a,b,c] aa)
  (hw:swappedStores [.Tuple [.Name x px,.Name y py,.Name z pz] kt pt] (.Tuple [a,b,c] k2 pt2) X.env=pure (some [x,y,z]):=by rfl)
  (hs:swapsWithSole [.Tuple [.Name x px,.Name y py,.Name z pz] kt pt] (.Tuple [a,b,c] k2 pt2) pos.line X.env=pure false:=by rfl) :
  JS X (.Assign [.Tuple [.Name x px,.Name y py,.Name z pz] kt pt] (.Tuple [a,b,c] k2 pt2) pos) (ZGX i j l aa):=⟨(ZMh hc hN hi hj hl hx hy hz ha.h hw hs).imp λ _ _ _ h=>ZL5 h⟩
theorem ZMi {i j:Nat} {x y:Str} {a b:Expr} {aa:DA} {px py pt:Pos} {kt k2 pt2} (hc:X.calm=true) (hN:X.N.Nodup) (hi:X.N[i]? = some x) (hj:X.N[j]? = some y) (hij:i ≠ j)
  (hx:X.env.scope.names.lookup x=some .local) (hy:X.env.scope.names.lookup y=some .local) (ha:JA X [a,b] aa)
  (hw:swappedStores [.Tuple [.Name x px,.Name y py] kt pt] (.Tuple [a,b] k2 pt2) X.env=pure (some [x,y]))
  (hs:swapsWithSole [.Tuple [.Name x px,.Name y py] kt pt] (.Tuple [a,b] k2 pt2) pos.line X.env=pure false:=by rfl) :
  JS X (.Assign [.Tuple [.Name x px,.Name y py] kt pt] (.Tuple [a,b] k2 pt2) pos) (ZKv i j aa):=⟨(ZOk hc hN hi hj hij hx hy ha.h hw hs).imp λ _ _ _ h=>ZPW h⟩
end
section
variable {sd:Sd} {g:G} {aa:DA} {PS':Out->Prop}
theorem ZOf {i j l:Nat} (h:EvP (aa sd g) λ ws g1=>∃ x y z,ws=[x,y,z]/\PS' (.nx (((sd.set l (some z)).set j (some y)).set i (some x)) g1)):EvS (ZGX i j l aa sd g) PS':=by
 obtain ⟨ws,g1,e1,x,y,z,rfl,h⟩:=h
 exact ⟨_,by unfold ZGX; rw [e1]; rfl,h⟩
theorem x_par {i j:Nat} (h:EvP (aa sd g) λ ws g1=>∃ x y,ws=[x,y]/\PS' (.nx ((sd.set i (some x)).set j (some y)) g1)):EvS (ZKv i j aa sd g) PS':=by
 obtain ⟨ws,g1,e1,x,y,rfl,h⟩:=h
 exact ⟨_,by unfold ZKv; rw [e1]; rfl,h⟩
end
end L2
namespace L2
open PySem PySem.Spec PyProof.Rows H1
structure Kls (K:PySem.W.Frag) (mg:Str->Option Value) (c:CD) (C:Addr):Prop where
 ns:PySem.W.nsIn K mainGlobals c.nm=some (some (.ref C))
 mg_:mg c.nm=some (.ref C)
 cl:Cls K C
 nd:c.fs.Nodup
 na:∀ f ∈ c.fs,ZDZ K C f
structure MDef (K:PySem.W.Frag) (C:Addr) (x qual:Str) (st:Stmt) (ps:List Str) (f:Addr) (fd:FuncData):Prop where
 me:Meth K C x f
 fn:Fun K x qual st f fd
 bd:ZDp K fd ps []
section
variable {K:PySem.W.Frag} {ρ : Rh} {H:Hp}
theorem RelF.look:∀ {ns:List Str} {vs:List (Str × V)} {ws:List W} {i:Nat} {f:Str} {w:W},ns.Nodup->RelF K ρ H ns vs ws->ns[i]? = some f->ws[i]? = some w->∃ v,vs.lookup f=some v/\Rel K ρ H v w
 | _,_,_,_,_,_,_,.nil,_,e=>by simp at e
 | _,_,_,0,_,_,_,.cons (v:=v) h t,e1,e2=>by
  cases e1
  cases e2
  exact ⟨v,by simp [List.lookup],h⟩
 | f0 :: ns,_,_,i+1,f,w,nd,.cons (v:=v) h t,e1,e2=>by
  rw [List.nodup_cons] at nd
  have e1':ns[i]? = some f:=by simpa using e1
  obtain ⟨v,h1,h2⟩:=RelF.look nd.2 t e1' (by simpa using e2)
  have hne:(f == f0)=false:=beq_eq_false_iff_ne.mpr λ z=>nd.1 (by rw [← z]; exact List.mem_of_getElem? e1')
  exact ⟨v,by rw [List.lookup,hne]; exact h1,h2⟩
theorem RelF.no:∀ {ns:List Str} {vs:List (Str × V)} {ws:List W} {m:Str},RelF K ρ H ns vs ws->m ∉ ns->vs.lookup m=none
 | _,_,_,_,.nil,_=>rfl
 | f0 :: ns,_,_,m,.cons h t,hn=>by
  have hne:(m == f0)=false:=beq_eq_false_iff_ne.mpr λ z=>hn (by rw [z]; exact List.mem_cons_self ..)
  rw [List.lookup,hne]
  exact t.no λ z=>hn (List.mem_cons_of_mem _ z)
theorem RelF.len:∀ {ns:List Str} {vs:List (Str × V)} {ws:List W},RelF K ρ H ns vs ws->vs.length=ws.length
 | _,_,_,.nil=>rfl
 | _,_,_,.cons h t=>by rw [List.length_cons,List.length_cons,t.len]
theorem RelF.set {v:V} {w:W} (r:Rel K ρ H v w):∀ {ns:List Str} {vs:List (Str × V)} {ws:List W} {i:Nat} {f:Str},ns.Nodup->RelF K ρ H ns vs ws->ns[i]? = some f->i < ws.length->RelF K ρ H ns (ZCk f v vs) (ws.set i w)
 | _,_,_,_,_,_,.nil,_,e=>by simp at e
 | f0 :: ns,_,_,0,_,_,.cons h t,e1,e2=>by
  cases e1
  show RelF K ρ H _ (if f0=f0 then _ else _) _
  rw [if_pos rfl]
  exact .cons r t
 | f0 :: ns,_,_,i+1,f,nd,.cons (v:=v0) (vs:=vs) h t,e1,e2=>by
  rw [List.nodup_cons] at nd
  have e1':ns[i]? = some f:=by simpa using e1
  have hne : ¬ f0=f:=λ z=>nd.1 (by rw [z]; exact List.mem_of_getElem? e1')
  show RelF K ρ H _ (if f0=f then _ else _) _
  rw [if_neg hne]
  exact .cons h (RelF.set r nd.2 t e1' (by simpa using e2))
theorem RelF.snoc {v:V} {w:W} (r:Rel K ρ H v w):∀ {ns:List Str} {vs:List (Str × V)} {ws:List W} {f:Str},ns.Nodup->RelF K ρ H ns vs ws->ns[ws.length]? = some f->RelF K ρ H ns (ZCk f v vs) (ws ++ [w])
 | [],_,_,_,_,.nil,e=>by simp at e
 | f0 :: ns,_,_,_,_,.nil,e=>by
  cases e
  exact .cons r .nil
 | f0 :: ns,_,_,f,nd,.cons (v:=v0) (vs:=vs) (xs:=xs) h t,e1=>by
  rw [List.nodup_cons] at nd
  have e1':ns[xs.length]? = some f:=by simpa using e1
  have hne : ¬ f0=f:=λ z=>nd.1 (by rw [z]; exact List.mem_of_getElem? e1')
  show RelF K ρ H _ (if f0=f then _ else _) _
  rw [if_neg hne]
  exact .cons h (RelF.snoc r nd.2 t e1')
end
open Classical in
noncomputable def ZGO (c:CD) (w:W) (g:G):Option (List W):=match w with
 | .ref n=>match g[n]? with
  | some (.ob c' ws)=>if c'=c then some ws else none
  | _=>none
 | _=>none
theorem ZGx {c:CD} {n:Nat} {g:G} {ws:List W} (h:g[n]? = some (.ob c ws)):ZGO c (.ref n) g=some ws:=by
 unfold ZGO
 dsimp only
 rw [h]
 exact if_pos rfl
theorem ZFw {K:PySem.W.Frag} {ρ : Rh} {H:Hp} {c:CD} {w:W} {g:G} {ws:List W} {v:V} (h:ZGO c w g=some ws) (hR:HR K ρ H g) (r:Rel K ρ H v w):∃ n a C dx vs,w=.ref n/\ρ.c[n]? = some a/\g[n]? = some (.ob c ws)/\v=.ref a/\PySem.W.nsIn K mainGlobals c.nm=some (some (.ref C))/\H a=some (.ins C dx vs)/\RelF K ρ H c.fs vs ws:=by
 unfold ZGO at h
 cases w with
 | ref n =>
  dsimp only at h
  split at h
  ·rename_i c' ws' e
   split at h
   ·rename_i ec
    cases h
    subst ec
    cases r with
    | ref hn =>
     obtain ⟨b,h1,C,dx,vs,h2,h3,h4⟩:=hR.ce _ _ e
     rw [hn] at h1
     cases h1
     exact ⟨n,_,C,dx,vs,rfl,hn,e,rfl,h2,h3,h4⟩
   ·cases h
  ·cases h
 | _=>cases h
section
variable {X:Cx} {pos:Pos}
noncomputable def ZBM (c:CD) (i:Nat) (d:DE):DE:=λ sd g=>(d sd g).bind λ p=>(ZGO c p.1 p.2).bind λ ws=>(ws[i]?).map λ w=>(w,p.2)
theorem ZOM {o:Expr} {c:CD} {C:Addr} {i:Nat} {f:Str} {d:DE} (k:Kls X.K X.mg c C) (hf:c.fs[i]? = some f) (ho:PE X o (tE X.K d)) (hb:attributeBase o f X.env (eval o X.env)=eval o X.env:=by rfl) :
  PE X (.Attribute o f pos) (tE X.K (ZBM c i d)):=(ZPC ho hb).imp λ σ H Q ⟨ρ,sd,g,x,g',r,e,q⟩=>by
 obtain ⟨⟨y,g1⟩,e1,e⟩:=bnd e
 obtain ⟨ws,e2,e⟩:=bnd e
 obtain ⟨w,e3,e⟩:=mp e
 cases e
 refine ⟨ρ,sd,g,y,g1,r,e1,λ v H1 ρ1 s1 h1 r1=>?_⟩
 obtain ⟨n,a,C',dx,vs,rfl,hn,hg,rfl,hC,ha,hF⟩:=ZFw e2 h1 r1
 rw [k.ns] at hC
 cases hC
 obtain ⟨u,l1,l2⟩:=hF.look k.nd hf e3
 exact ⟨a,C,dx,vs,u,rfl,ha,k.cl,k.na f (List.mem_of_getElem? hf),l1,q u H1 ρ1 s1 h1 l2⟩
theorem Z9 {o:Expr} {c:CD} {C:Addr} {i:Nat} {f:Str} {d:DE} (k:Kls X.K X.mg c C) (hf:c.fs[i]? = some f) (ho:JE X o d) (hb:attributeBase o f X.env (eval o X.env)=eval o X.env:=by rfl):JE X (.Attribute o f pos) (ZBM c i d):=⟨ZOM k hf ho.h hb⟩
def ZMt (i:Nat) (w:W) (ws:List W):Option (List W):=if i < ws.length then some (ws.set i w) else if i=ws.length then some (ws ++ [w]) else none
noncomputable def ZCQ (c:CD) (i:Nat) (dobj d:DE):DS:=λ sd g=>(d sd g).bind λ v=>(dobj sd v.2).bind λ o=>(ZGO c o.1 o.2).bind λ ws=>match o.1 with
 | .ref n=>if ws.length < 1000 then (ZMt i v.1 ws).map λ us=>.nx sd (o.2.set n (.ob c us)) else none
 | _=>none
theorem ZOv {o e:Expr} {c:CD} {C:Addr} {i:Nat} {f:Str} {dobj d:DE} {pos':Pos} (k:Kls X.K X.mg c C) (hf:c.fs[i]? = some f) (ho:PE X o (tE X.K dobj)) (he:PE X e (tE X.K d)) (hs:swapsWith e (some (.Attribute o f pos')) pos.line X.env=pure false:=by rfl) :
  PS X (.Assign [.Attribute o f pos'] e pos) (tS X.K (ZCQ c i dobj d)):=(ZPI ho he hs).imp λ D σ H ⟨ρ,sd,g,oo,r,e,q⟩=>by
 obtain ⟨⟨y,g1⟩,e1,e⟩:=bnd e
 obtain ⟨⟨z,g2⟩,e2,e⟩:=bnd e
 obtain ⟨ws,e3,e⟩:=bnd e
 refine ⟨ρ,sd,g,y,g1,r,e1,λ v H1 ρ1 s1 h1 r1=>⟨ρ1,sd,g1,z,g2,r.step s1 h1,e2,λ u H2 ρ2 s2 h2 r2=>?_⟩⟩
 obtain ⟨n,a,C',dx,vs,rfl,hn,hg,rfl,hC,ha,hF⟩:=ZFw e3 h2 r2
 rw [k.ns] at hC
 cases hC
 dsimp only at e
 split at e
 ·rename_i hz
  obtain ⟨us,e4,e⟩:=mp e
  cases e
  have r1':=r1.mono s2
  have hF2:RelF X.K ρ2 H2 c.fs (ZCk f v vs) us:=by
   unfold ZMt at e4
   split at e4
   ·rename_i hi
    cases e4
    exact hF.set r1' k.nd hf hi
   ·split at e4
    ·rename_i hi
     cases e4
     subst hi
     exact hF.snoc r1' k.nd hf
    ·cases e4
  obtain ⟨hw,sw⟩:=h2.writeC hn (o:=.ins C dx (ZCk f v vs)) (c:=.ob c us) (λ u e=>by rw [ha] at e; cases e; rfl) (λ s=>⟨C,dx,_,k.ns,Zo,hF2.mono s⟩)
  exact ⟨a,C,dx,vs,rfl,ha,k.cl,k.na f (List.mem_of_getElem? hf),by rw [hF.len]; exact hz,q σ _ ρ2 (s1.trans (s2.trans sw)) (r.step (s1.trans (s2.trans sw)) hw)⟩
 ·cases e
theorem ZB5 {o e:Expr} {c:CD} {C:Addr} {i:Nat} {f:Str} {dobj d:DE} {pos':Pos} (k:Kls X.K X.mg c C) (hf:c.fs[i]? = some f) (ho:JE X o dobj) (he:JE X e d) (hs:swapsWith e (some (.Attribute o f pos')) pos.line X.env=pure false:=by rfl) :
  JS X (.Assign [.Attribute o f pos'] e pos) (ZCQ c i dobj d):=⟨ZOv k hf ho.h he.h hs⟩
noncomputable def ZEz (c:CD) (fn:List W->G->Option (W × G)) (dobj:DE) (aa:DA):DE:=λ sd g=>(dobj sd g).bind λ o=>(ZGO c o.1 o.2).bind λ _=>(aa sd o.2).bind λ p=>fn (o.1 :: p.1) p.2
theorem ZMu {o e:Expr} {es:List Expr} {c:CD} {C:Addr} {m qual:Str} {st:Stmt} {ps:List Str} {f:Addr} {fd:FuncData} {k n:Nat} {fn:List W->G->Option (W × G)} {dobj:DE} {aa:DA} {apos:Pos} {pl:Sem Bool} (kl:Kls X.K X.mg c C) (D:MDef X.K C m qual st ps f fd) (F:FnOk X.prog X.w X.K X.mg X.base CX0 k f fd ps (spD X.K (n+1) fn)) (hr:Room k X.A) (hm:m ∉ c.fs)
  (ho:PE X o (tE X.K dobj)) (ha:PA X (e :: es) (tA X.K aa)) (hn:Many aa n) (hst:starEach (e :: es) X.env=(false,eval e X.env) :: starEach es X.env:=by rfl) (hpl:(backTo pos (starEach es X.env)).any (·.1)=false:=by rfl)
  (ht:eval (.Call (.Attribute o m apos) (e :: es) [] pos) X.env=(do
   let ov ← eval o X.env
   standAt apos.atName
   let (f,first) ← holding [ov] (getMethod ov m pl)
   callWith pos f first (backTo pos (starEach (e :: es) X.env)) (backToKw pos (keywordEach [] X.env))):=by rfl) :
  PE X (.Call (.Attribute o m apos) (e :: es) [] pos) (tE X.K (ZEz c fn dobj aa)):=(ZM7 (pl:=pl) ho kl.cl D.me F hr D.bd .nil ZLt ha hst hpl ht).imp λ σ H Q ⟨ρ,sd,g,x,g',r,e,q⟩=>by
 obtain ⟨⟨y,g1⟩,e1,e⟩:=bnd e
 obtain ⟨ws,e2,e⟩:=bnd e
 obtain ⟨⟨us,g2⟩,e3,e⟩:=bnd e
 refine ⟨ρ,sd,g,y,g1,r,e1,λ v H1 ρ1 s1 h1 r1=>?_⟩
 obtain ⟨n',a,C',dx,vs,rfl,hn',hg,rfl,hC,ha,hF⟩:=ZFw e2 h1 r1
 rw [kl.ns] at hC
 cases hC
 refine ⟨a,dx,vs,rfl,ha,hF.no hm,ρ1,sd,g1,us,g2,r.step s1 h1,e3,λ vs2 H2 ρ2 s2 h2 r2=>?_⟩
 show spD X.K (n+1) fn (V.ref a :: (vs2 ++ [])) H2 Q E0
 rw [List.append_nil]
 exact ⟨by rw [List.length_cons,r2.length,hn.len e3],ρ2,_,g2,x,g',h2,.cons (r1.mono s2) r2,e,q.step (s1.trans s2)⟩
theorem ZHo {o e:Expr} {es:List Expr} {c:CD} {C:Addr} {m qual:Str} {st:Stmt} {ps:List Str} {f:Addr} {fd:FuncData} {k n:Nat} {fn:List W->G->Option (W × G)} {dobj:DE} {aa:DA} {apos:Pos} {pl:Sem Bool} (kl:Kls X.K X.mg c C) (D:MDef X.K C m qual st ps f fd) (F:FnOk X.prog X.w X.K X.mg X.base CX0 k f fd ps (spD X.K (n+1) fn)) (hr:Room k X.A) (hm:m ∉ c.fs)
  (ho:JE X o dobj) (ha:JA X (e :: es) aa) (hn:Many aa n) (hst:starEach (e :: es) X.env=(false,eval e X.env) :: starEach es X.env:=by rfl) (hpl:(backTo pos (starEach es X.env)).any (·.1)=false:=by rfl)
  (ht:eval (.Call (.Attribute o m apos) (e :: es) [] pos) X.env=(do
   let ov ← eval o X.env
   standAt apos.atName
   let (f,first) ← holding [ov] (getMethod ov m pl)
   callWith pos f first (backTo pos (starEach (e :: es) X.env)) (backToKw pos (keywordEach [] X.env))):=by rfl) :
  JE X (.Call (.Attribute o m apos) (e :: es) [] pos) (ZEz c fn dobj aa):=⟨ZMu (pl:=pl) kl D F hr hm ho.h ha.h hn hst hpl ht⟩
def ZIM (c:CD) (fn:List W->G->Option (W × G)) (aa:DA):DE:=λ sd g=>(aa sd g).bind λ p=>(fn (.ref p.2.length :: p.1) (p.2 ++ [.ob c []])).bind λ z=>match z.1 with
 | .dat .none=>some (.ref p.2.length,z.2)
 | _=>none
theorem ZMD {x:Str} {p:Pos} {e:Expr} {es:List Expr} {c:CD} {C:Addr} {qual:Str} {st:Stmt} {ps:List Str} {f:Addr} {fd:FuncData} {k n:Nat} {fn:List W->G->Option (W × G)} {aa:DA} (kl:Kls X.K X.mg c C) (hx:x=c.nm) (M:Mk X.K C f) (D:MDef X.K C "__init__" qual st ps f fd) (F:FnOk X.prog X.w X.K X.mg X.base CX0 k f fd ps (spD X.K (n+1) fn)) (hr:Room (k+1) X.A)
  (ha:PA X (e :: es) (tA X.K aa)) (hn:Many aa n) (hg:Gl X x:=by rfl) (hdb:(x == ("__debug__" : Str))=false:=by decide) (he:starEach (e :: es) X.env=(false,eval e X.env) :: starEach es X.env:=by rfl) (hpl:(backTo pos (starEach es X.env)).any (·.1)=false:=by rfl) :
  PE X (.Call (.Name x p) (e :: es) [] pos) (tE X.K (ZIM c fn aa)):=(ZNR M F hr hg (by rw [hx]; exact kl.mg_) D.bd .nil ZLt ha hdb he hpl).imp λ σ H Q ⟨ρ,sd,g,z,g',r,e,q⟩=>by
 obtain ⟨⟨ws,g1⟩,e1,e⟩:=bnd e
 obtain ⟨⟨z2,g2⟩,e2,e⟩:=bnd e
 refine ⟨ρ,sd,g,ws,g1,r,e1,λ vs H1 ρ1 s1 h1 r1=>?_⟩
 intro a dx na ndx ne
 obtain ⟨sm,hr2,hnm⟩:=ZCH (o:=.own a) h1 ndx
 have s2:Stp ρ1 H1 ρ1 (upd H1 dx (.own a)):=.same sm
 obtain ⟨hr3,s3⟩:=hr2.allocC (p:=a) (by rw [Zb (Ne.symm ne)]; exact na) (o:=.ins C dx []) (c:=.ob c []) λ s=>⟨C,dx,[],kl.ns,Zo,.nil⟩
 have r1':=(r1.mono s2).mono s3
 show spD X.K (n+1) fn (V.ref a :: (vs ++ [])) _ _ E0
 rw [List.append_nil]
 have ha':(ρ1.add a).c[g1.length]? = some a:=by show (ρ1.c ++ [a])[_]? = _; rw [← h1.len]; simp
 refine ⟨by rw [List.length_cons,r1.length,hn.len e1],ρ1.add a,_,_,z2,g2,hr3,.cons (.ref ha') r1',e2,λ v H4 ρ4 s4 h4 r4=>?_⟩
 cases r4 with
 | dat r4 =>
  cases r4 with
  | non =>
   cases e
   exact ⟨rfl,q _ H4 ρ4 (s1.trans (s2.trans (s3.trans s4))) h4 (.ref (ZDK s4 ha'))⟩
  | _=>cases e
 | _=>cases e
theorem ZKw {x:Str} {p:Pos} {e:Expr} {es:List Expr} {c:CD} {C:Addr} {qual:Str} {st:Stmt} {ps:List Str} {f:Addr} {fd:FuncData} {k n:Nat} {fn:List W->G->Option (W × G)} {aa:DA} (kl:Kls X.K X.mg c C) (hx:x=c.nm) (M:Mk X.K C f) (D:MDef X.K C "__init__" qual st ps f fd) (F:FnOk X.prog X.w X.K X.mg X.base CX0 k f fd ps (spD X.K (n+1) fn)) (hr:Room (k+1) X.A)
  (ha:JA X (e :: es) aa) (hn:Many aa n) (hg:Gl X x:=by rfl) (hdb:(x == ("__debug__" : Str))=false:=by decide) (he:starEach (e :: es) X.env=(false,eval e X.env) :: starEach es X.env:=by rfl) (hpl:(backTo pos (starEach es X.env)).any (·.1)=false:=by rfl) :
  JE X (.Call (.Name x p) (e :: es) [] pos) (ZIM c fn aa):=⟨ZMD kl hx M D F hr ha.h hn hg hdb he hpl⟩
end
section
variable {sd:Sd} {g:G} {P:W->G->Prop} {PS':Out->Prop} {d dobj:DE} {aa:DA} {c:CD}
theorem x_fld {i:Nat} (h:EvP (d sd g) λ x g1=>∃ n ws w,x=.ref n/\g1[n]? = some (.ob c ws)/\ws[i]? = some w/\P w g1):EvP (ZBM c i d sd g) P:=by
 obtain ⟨x,g1,e1,n,ws,w,rfl,e2,e3,h⟩:=h
 refine ⟨w,g1,?_,h⟩
 unfold ZBM
 rw [e1]
 show (ZGO c (.ref n) g1).bind _=_
 rw [ZGx e2]
 show (ws[i]?).map _=_
 rw [e3]
 rfl
theorem ZOV {i:Nat} (h:EvP (d sd g) λ v g1=>EvP (dobj sd g1) λ x g2=>∃ n ws us,x=.ref n/\g2[n]? = some (.ob c ws)/\ws.length < 1000/\ZMt i v ws=some us/\PS' (.nx sd (g2.set n (.ob c us)))):EvS (ZCQ c i dobj d sd g) PS':=by
 obtain ⟨v,g1,e1,x,g2,e2,n,ws,us,rfl,e3,hz,e4,h⟩:=h
 refine ⟨_,?_,h⟩
 unfold ZCQ
 rw [e1]
 show (dobj sd g1).bind _=_
 rw [e2]
 show (ZGO c (.ref n) g2).bind _=_
 rw [ZGx e3]
 show (if ws.length < 1000 then _ else _)=_
 rw [if_pos hz]
 show (ZMt i v ws).map _=_
 rw [e4]
 rfl
theorem ZNq {fn:List W->G->Option (W × G)} (h:EvP (dobj sd g) λ x g1=>∃ n ws,x=.ref n/\g1[n]? = some (.ob c ws)/\EvP (aa sd g1) λ vs g2=>EvP (fn (.ref n :: vs) g2) P):EvP (ZEz c fn dobj aa sd g) P:=by
 obtain ⟨x,g1,e1,n,ws,rfl,e2,vs,g2,e3,y,g3,e4,h⟩:=h
 refine ⟨y,g3,?_,h⟩
 unfold ZEz
 rw [e1]
 show (ZGO c (.ref n) g1).bind _=_
 rw [ZGx e2]
 show (aa sd g1).bind _=_
 rw [e3]
 exact e4
theorem ZPO {fn:List W->G->Option (W × G)} (h:EvP (aa sd g) λ vs g1=>EvP (fn (.ref g1.length :: vs) (g1 ++ [.ob c []])) λ z g2=>z=.dat .none/\P (.ref g1.length) g2):EvP (ZIM c fn aa sd g) P:=by
 obtain ⟨vs,g1,e1,z,g2,e2,rfl,h⟩:=h
 refine ⟨_,g2,?_,h⟩
 unfold ZIM
 rw [e1]
 show (fn _ _).bind _=_
 rw [e2]
 rfl
end
end L2
namespace L2
open PySem PySem.Spec PyProof.Rows H1
theorem ZFm {M:Model} {A:Around} {E:Value->Shared->Prop} {s:Shared} {a b:Value} {T id:String} {Q:Value->Shared->Prop} (ha:s.TypeIs a T) (hb:s.TypeIs b T)
  (hI:typeLookup (.type T) (dunderI "add")=pure (some (.builtin id))) (hS:isSeqSlot (some (.builtin id))=true) (hfill:fillsNumberSlot (.type T) "add" = pure false)
  (hc:wpAny M A (call (.builtin id) [a,b]) Q E s):wpAny M A (inplaceOp .Add a b) Q E s:=by
 unfold inplaceOp
 refine wpAny_holding ?_
 have hfi:fillsInplaceSlot (.type T) "add" (Operator.Add == .Add)=pure false:=by
  unfold fillsInplaceSlot
  show (typeLookup (.type T) (dunderI "add") >>= λ fi=>pure (fi.isSome && !isSeqSlot fi))=pure false
  rw [hI,pure_bind,hS]
  rfl
 have hsi:seqSlot? (.type T) (dunderI "add")=pure (some (.builtin id)):=PySem.seqSlot_of hI hS
 refine wpAny_bind (wpAny_typeOf ha (wpAny_bind (wpAny_of_eq hfi ?_)))
 show wpAny M A (if false=true then _ else _) Q E s
 rw [if_neg Bool.false_ne_true]
 refine wpAny_bind (wpAny_binaryOp1_none (nm:="add") ha hb hfill ?_)
 refine wpAny_bind (wpAny_of_eq hsi ?_)
 exact wpAny_bind (wpAny_rule hc)
section
variable {X:Cx}
def ipExt:TIp:=λ x y H Q=>∃ l b xs zs,x=.ref l/\y=.ref b/\H l=some (.lst xs)/\H b=some (.lst zs)/\xs.length+zs.length<=sizeLine/\Q (.ref l) (upd H l (.lst (xs ++ zs)))
theorem ZN9:PIp X .Add ipExt:=by
 intro pins s σ H x y v u Q I rx ry h
 obtain ⟨l,b,xs,zs,rfl,rfl,hH,hB,hz,q⟩:=h
 cases rx
 cases ry
 obtain ⟨z,its,n,r,hl,e⟩:=I.lstM hH
 obtain ⟨z2,its2,n2,r2,hl2,e2⟩:=I.lstM hB
 have hsz:its.toArray.size+its2.toArray.size<=sizeLine:=by rw [List.size_toArray,List.size_toArray]; omega
 have hlong : ¬ (!its.toArray.isEmpty && Builtin.List.listTooLong (its.toArray.size+its2.toArray.size))=true:=by
  rw [ZFg hsz,Bool.and_false]
  exact Bool.false_ne_true
 refine ZFm (T:="list") ⟨_,e,rfl⟩ ⟨_,e2,rfl⟩ F.slot_list_iadd.lookup (by decide +kernel) PySem.noFill_list_add ?_
 refine call_meets F.slot_list_iadd ⟨_,e,rfl⟩ F.entry_list_iadd (F.args_list_iadd_2 _ _)
  (AutoSeq1.list___iadd___list_list_0 l its.toArray n b its2.toArray n2 hlong (by rw [List.size_toArray]; omega) (by omega)) ⟨e,e2,?_⟩
 refine ⟨.ref l,_,I.lset (its':=its ++ its2) hH e (by simp) (r.append r2) ?_,rfl,q⟩
 rw [List.length_append]
 omega
def ZGb (i:Nat) (d:DE):DS:=λ sd g=>match sd.getD i none with
 | some (.ref n)=>(d sd g).bind λ p=>match p.1 with
  | .dat (.list es)=>(lk p.2 n).bind λ ds=>if ds.length+es.length<=1000 then some (.nx (sd.set i (some (.ref n))) (p.2.set n (.pl (ds ++ es)))) else none
  | _=>none
 | _=>none
theorem ZMk {i:Nat} {x:Str} {e:Expr} {d:DE} {pos pos':Pos} (hN:X.N.Nodup) (hi:X.N[i]? = some x) (hx:Loc X.env.scope x) (he:PE X e (tE X.K d)) (hf:X.fn x=true ∨ X.env.scope.names.lookup x=some .local:=by first | exact .inl rfl | exact .inr rfl | assumption) :
  PS X (.AugAssign (.Name x pos') .Add e pos) (tS X.K (ZGb i d)):=(ZOL hN hi hx he ZN9 hf).imp λ D σ H ⟨ρ,sd,g,oo,r,e,q⟩=>by
 unfold ZGb at e
 cases h:sd.getD i none with
 | none=>rw [h] at e; cases e
 | some w =>
  rw [h] at e
  have h':sd[i]? = some (some w):=by
   rw [List.getD_eq_getElem?_getD] at h
   cases k:sd[i]? with
   | none=>rw [k] at h; cases h
   | some w=>rw [k] at h; exact congrArg some h
  obtain ⟨v,h1,h2⟩:=r.env i w h'
  refine ⟨v,h1,?_⟩
  cases h2 with
  | @ref a n hn =>
   obtain ⟨⟨y,g1⟩,e1,e⟩:=bnd e
   refine ⟨ρ,sd,g,y,g1,r,e1,λ v H1 ρ1 s1 h1 r1=>?_⟩
   cases r1 with
   | dat r1 =>
    cases r1 with
    | @lst b vs ds hb nb t =>
     obtain ⟨es,e2,e⟩:=bnd e
     dsimp only at e
     split at e
     ·rename_i hz
      cases e
      obtain ⟨a',us,k1,k2,k3⟩:=h1.at_ _ _ (ZEG e2)
      have hn2:=ZDK s1 hn
      rw [hn2] at k1
      cases k1
      obtain ⟨hw,sw⟩:=h1.write hn2 k2 (k3.append t)
      exact ⟨_,_,us,vs,rfl,rfl,k2,hb,by rw [k3.length,t.length]; exact Nat.le_of_lt (Z0 hz),q _ _ ρ1 (s1.trans sw) ((r.step (s1.trans sw) hw).set (.ref hn2) i)⟩
     ·cases e
    | _=>cases e
   | _=>cases e
  | _=>cases e
theorem ZK2 {i:Nat} {x:Str} {e:Expr} {d:DE} {pos pos':Pos} (hN:X.N.Nodup) (hi:X.N[i]? = some x) (hx:Loc X.env.scope x) (he:JE X e d) (hf:X.fn x=true ∨ X.env.scope.names.lookup x=some .local:=by first | exact .inl rfl | exact .inr rfl | assumption) :
  JS X (.AugAssign (.Name x pos') .Add e pos) (ZGb i d):=⟨ZMk hN hi hx he.h hf⟩
end
theorem ZOW {sd:Sd} {g:G} {PS':Out->Prop} {d:DE} {i n:Nat} (hi:sd.getD i none=some (.ref n)) (h:EvP (d sd g) λ x g1=>∃ es,x=.dat (.list es)/\∃ ds,g1[n]? = some (.pl ds)/\ds.length+es.length<=1000/\PS' (.nx (sd.set i (some (.ref n))) (g1.set n (.pl (ds ++ es))))):EvS (ZGb i d sd g) PS':=by
 obtain ⟨x,g1,e1,es,rfl,ds,e2,hz,h⟩:=h
 refine ⟨_,?_,h⟩
 unfold ZGb
 rw [hi]
 show (d sd g).bind _=_
 rw [e1]
 show (lk g1 n).bind _=_
 rw [ZE7 e2]
 exact if_pos hz
end L2
namespace L2
open PySem PySem.Spec PyProof.Rows H1
def ZNf:W->Bool
 | .dat .none=>true
 | _=>false
def ZNm:W->W->G->Option (W × G)
 | x,.dat .none,g=>some (.dat (.bool (ZNf x)),g)
 | _,_,_=>none
theorem ZJ3 {K:PySem.W.Frag} {ρ : Rh} {H:Hp} {x:V} {w:W} {v:Value} (r:Rel K ρ H x w) (rx:Z8 x v):(v == Value.none)=ZNf w:=by
 cases r with
 | dat r =>
  cases r with
  | non=>cases rx; rfl
  | bl b=>cases rx; rfl
  | int i=>obtain ⟨t,rfl⟩:=rx; rfl
  | str i=>obtain ⟨t,rfl⟩:=rx; rfl
  | tup _ _=>cases rx; rfl
  | lst _ _ _=>cases rx; rfl
  | dct _ _=>cases rx; rfl
 | ref _=>cases rx; rfl
 | inp _=>cases rx; rfl
 | ty=>cases rx; rfl
 | tup _ _=>cases rx; rfl
section
variable {X:Cx}
theorem oIsN:OpR X (compareOp .Is) (rOp X.K ZNm):=by
 intro pins s σ H x y v u Q I rx ry h
 obtain ⟨ρ,a,b,g,z,g',hR,ra,rb,e,q⟩:=h
 cases rb with
 | dat rb =>
  cases rb with
  | non =>
   cases e
   cases ry
   exact is_none_gen ⟨.bl _,H,I,by rw [ZJ3 ra rx]; rfl,q.at hR (.dat (.bl _))⟩
  | _=>cases e
 | _=>cases e
end
end L2
namespace L2
open PySem PySem.Spec PyProof.Rows H1
def H0:Hs:=(0,[],[],[])
structure En where
 r:Ru
 ts:List (Int × Int)
 tn:Int
 lo:List Int
abbrev Lt:=Int × Int × Bool
def ltD (l:Lt):PyData:=.tuple [.int l.1,.int l.2.1,.bool l.2.2]
structure Rw where
 hs:List Hs
 le:List Lt
def abF (b:List (Int × Int)) (h:Nat):Bool:=decide ((b.getD h (0,0)).2 < 2)
section
variable (e:En)
def ZL4 (x y:Nat):List Int:=ZBe e.r.cl x y (ZDA (e.ts.getD x (0,0)) e.tn % ((e.ts.length:Nat):Int))
def ZJa (h:Hs) (x y:Nat):List Int:=ZER e.r h.2.2.1 x (ZL4 e x y)
def ZEV (x y:Nat) (hs:List Hs):List Hs:=hs.set x ((hs.getD x H0).1,(hs.getD x H0).2.1,ZBE (hs.getD x H0).2.2.1 (ZJa e (hs.getD x H0) x y),(hs.getD x H0).2.2.2)
def ZFu (x y:Nat) (hs:List Hs):List Hs:=(ZEV e x y hs).set y (ZCb e.r.cl y (hs.getD y H0) (ZEB (hs.getD x H0).2.1 (ZL4 e x y) (ZJa e (hs.getD x H0) x y) e.ts.length))
def ZAJ (x y:Nat) (R:Rw):Bool × Rw :=
 if e.lo.contains (R.le.length:Int)=true then (false,⟨ZEV e x y R.hs,R.le ++ [((x:Int),(y:Int),true)]⟩)
 else if (R.hs.getD y H0).1=0 then (false,⟨ZEV e x y R.hs,R.le ++ [((x:Int),(y:Int),false)]⟩)
 else (true,⟨ZFu e x y R.hs,R.le ++ [((x:Int),(y:Int),false)]⟩)
def ZB8:List (Nat × Nat)->Rw->Bool × Rw
 | [],R=>(true,R)
 | p :: w,R=>if (ZAJ e p.1 p.2 R).1=true then ZB8 w (ZAJ e p.1 p.2 R).2 else (false,(ZAJ e p.1 p.2 R).2)
def ZAb:List (List (Nat × Nat))->Rw->Bool × Rw
 | [],R=>(false,R)
 | w :: ws,R=>if (ZB8 e w R).1=true then (true,(ZB8 e w R).2) else ZAb ws (ZB8 e w R).2
def ZE8 (book:List (Int × Int)) (a b:Nat):List Nat:=((((List.range (book.length - 1)).map λ k=>(a+(k+1)) % book.length).filter λ h=>!decide (h=b) && abF book h)).take e.r.o.toNat
def ZBR (hs:List Hs) (a b:Nat):List (List (Nat × Nat)):=[(a,b),(b,a)] ::
 (if (ZDY e.r.cl "others" && abF (hs.getD a H0).2.1 b)=true then (ZE8 e (hs.getD a H0).2.1 a b).map λ h=>[(a,h),(h,b),(b,h),(h,a)] else [])
def ZKR (b:Nat) (ans:Bool) (h:Hs):Hs :=
 if ans=true then (h.1,h.2.1,h.2.2.1,h.2.2.2.set b 0)
 else if (abF h.2.1 b && (!ZDY e.r.cl "wait" || decide (h.2.2.2.getD b 0=1)))=true then (h.1,h.2.1.set b ((h.2.1.getD b (0,0)).1,2),h.2.2.1.set b 0,h.2.2.2.set b 0)
 else if (abF h.2.1 b && decide (h.2.2.2.getD b 0=0))=true then
  (if (h.2.1.getD b (0,0)).2=0 then (h.1,h.2.1.set b ((h.2.1.getD b (0,0)).1,1),h.2.2.1.set b 0,h.2.2.2.set b e.r.w) else (h.1,h.2.1,h.2.2.1,h.2.2.2.set b e.r.w))
 else if abF h.2.1 b=true then (h.1,h.2.1,h.2.2.1,h.2.2.2.set b (h.2.2.2.getD b 0 - 1))
 else h
def ZI1 (a b:Nat) (ans:Bool) (hs:List Hs):List Hs:=hs.set a (ZKR e b ans (hs.getD a H0))
def tgF (a:Nat):Nat:=(((a:Int)+1+(ZDA (e.ts.getD a (0,0)) e.tn - 1) % ((e.ts.length:Int) - 1)) % (e.ts.length:Int)).toNat
def ZK6 (a b:Nat) (hs:List Hs):Bool:=if b=tgF e a then ZDY e.r.cl "again" || abF (hs.getD a H0).2.1 b else decide (0 < (hs.getD a H0).2.2.2.getD b 0)
def ZDM (a b:Nat) (R:Rw):Rw:=if ZK6 e a b R.hs=true then ⟨ZI1 e a b (ZAb e (ZBR e R.hs a b) R).1 (ZAb e (ZBR e R.hs a b) R).2.hs,(ZAb e (ZBR e R.hs a b) R).2.le⟩ else R
def ZGS (a:Nat):List Nat:=tgF e a :: (List.range e.ts.length).filter λ b=>!decide (b=a) && !decide (b=tgF e a)
def ZIw (a:Nat) (R:Rw):Rw:=(ZGS e a).foldl (λ R b=>ZDM e a b R) R
def ZOo (c:Int × Int) (n:Int):Bool:=decide (c.2<=n) && decide ((n - c.2) % c.1=0)
def ZIL (a:Nat) (hs:List Hs):Bool:=decide ((hs.getD a H0).1=1) && ZOo (e.ts.getD a (0,0)) e.tn
def ZBZ (a:Nat) (R:Rw):Rw:=if ZIL e a R.hs=true then ZIw e a R else R
def ZIB (R:Rw):Rw:=(List.range e.ts.length).foldl (λ R a=>ZBZ e a R) R
def ZAK (x:Nat) (R:Rw):Rw:=(List.range e.ts.length).foldl (λ R y=>if y=x then R else (ZAJ e x y R).2) R
end
def ZBa (x:Nat) (hs:List Hs):List Hs:=hs.set x (0,(hs.getD x H0).2.1,(hs.getD x H0).2.2.1,(hs.getD x H0).2.2.2)
def doH (fa le co:List Int) (i:Nat) (h:Hs):Hs :=
 if fa.contains (i:Int)=true then (0,h.2.1,h.2.2.1,List.replicate h.2.2.2.length 0)
 else if le.contains (i:Int)=true then (h.1,h.2.1.set i ((h.2.1.getD i (0,0)).1,3),h.2.2.1.set i 0,List.replicate h.2.2.2.length 0)
 else if co.contains (i:Int)=true then (1,h.2.1.set i ((h.2.1.getD i (0,0)).1+1,0),h.2.2.1.set i 0,h.2.2.2)
 else h
def ZAN (fa le co:List Int) (hs:List Hs):List Hs:=(List.range hs.length).map λ i=>doH fa le co i (hs.getD i H0)
def ZBG (r:Ru) (ts:List (Int × Int)) (tn:Int) (hs:List Hs) (lo fa le co:List Int):Rw :=
 let e:En:=⟨r,ts,tn,lo⟩
 let R1:=(le ++ co).foldl (λ R x=>ZAK e x.toNat R) ⟨ZAN fa le co hs,[]⟩
 ZIB e ⟨le.foldl (λ hs x=>ZBa x.toNat hs) R1.hs,R1.le⟩
structure HL (n:Nat) (h:Hs):Prop where
 up:h.1=0 ∨ h.1=1
 bl:h.2.1.length=n
 tl:h.2.2.1.length=n
 ml:h.2.2.2.length=n
structure HsL (n:Nat) (hs:List Hs):Prop where
 len:hs.length=n
 all:∀ h ∈ hs,HL n h
theorem HsL.get {n:Nat} {hs:List Hs} (w:HsL n hs) {i:Nat} (hi:i < n):HL n (hs.getD i H0):=w.all _ (ZE1 (d:=H0) (by rw [w.len]; exact hi))
theorem HsL.set {n i:Nat} {hs:List Hs} {h:Hs} (w:HsL n hs) (hh:HL n h):HsL n (hs.set i h):=⟨by rw [List.length_set]; exact w.len,λ z hz=>ZIe w.all hh hz⟩
theorem ZNE {cl:List Str} {y n:Nat} {h:Hs} {x:Nat × (Int × Int)} (w:HL n h):HL n (ZET cl y h x):=by
 unfold ZET
 split
 ·unfold ZLO
  split
  ·exact ⟨w.up,by rw [List.length_set]; exact w.bl,by rw [List.length_set]; exact w.tl,w.ml⟩
  ·exact w
 ·unfold ZK5
  split
  ·refine ⟨w.up,by rw [List.length_set]; exact w.bl,by rw [List.length_set]; exact w.tl,?_⟩
   show (if x.2.2=1 then h.2.2.2 else h.2.2.2.set x.1 0).length=n
   split
   ·exact w.ml
   ·rw [List.length_set]; exact w.ml
  ·exact w
theorem ZF0 {cl:List Str} {y n:Nat}:∀ {ns:List (Nat × (Int × Int))} {h:Hs},HL n h->HL n (ZCb cl y h ns)
 | [],_,w=>w
 | x :: r,h,w=>by
  show HL n (ZCb cl y (ZET cl y h x) r)
  exact ZF0 (ZNE w)
section
variable {e:En} {n:Nat}
theorem ZG3 {x y:Nat} {hs:List Hs} (w:HsL n hs) (hx:x < n):HsL n (ZEV e x y hs):=w.set ⟨(w.get hx).up,(w.get hx).bl,by rw [show ∀ (a:Int) b c d,((a,b,c,d):Hs).2.2.1=c from λ _ _ _ _=>rfl,ZCo]; exact (w.get hx).tl,(w.get hx).ml⟩
theorem ZMS {x y:Nat} {hs:List Hs} (w:HsL n hs) (hx:x < n) (hy:y < n):HsL n (ZFu e x y hs):=(ZG3 w hx).set (ZF0 (w.get hy))
theorem ZC6 {x y:Nat} {R:Rw} (w:HsL n R.hs) (hx:x < n) (hy:y < n):HsL n (ZAJ e x y R).2.hs:=by
 unfold ZAJ
 split
 ·exact ZG3 w hx
 ·split
  ·exact ZG3 w hx
  ·exact ZMS w hx hy
theorem ZEO {x y:Nat} {R:Rw}:(ZAJ e x y R).2.le.length=R.le.length+1:=by
 unfold ZAJ
 split
 ·simp
 ·split <;> simp
theorem ZG1:∀ {w:List (Nat × Nat)} {R:Rw},HsL n R.hs->(∀ p ∈ w,p.1 < n/\p.2 < n)->HsL n (ZB8 e w R).2.hs/\(ZB8 e w R).2.le.length<=R.le.length+w.length
 | [],R,h,_=>⟨h,Nat.le_refl _⟩
 | p :: w,R,h,hp=>by
  have hp0:=hp p (List.mem_cons_self ..)
  have h1:=ZC6 (e:=e) h hp0.1 hp0.2
  have h2:=ZEO (e:=e) (x:=p.1) (y:=p.2) (R:=R)
  rw [ZB8]
  split
  ·obtain ⟨h3,h4⟩:=ZG1 (w:=w) h1 λ q hq=>hp q (List.mem_cons_of_mem _ hq)
   exact ⟨h3,by rw [List.length_cons]; omega⟩
  ·exact ⟨h1,by rw [List.length_cons]; show (ZAJ e p.1 p.2 R).2.le.length<=_; omega⟩
theorem ZF3:∀ {ws:List (List (Nat × Nat))} {R:Rw},HsL n R.hs->(∀ w ∈ ws,∀ p ∈ w,p.1 < n/\p.2 < n)->HsL n (ZAb e ws R).2.hs/\(ZAb e ws R).2.le.length<=R.le.length+(ws.map List.length).sum
 | [],R,h,_=>⟨h,Nat.le_refl _⟩
 | w :: ws,R,h,hp=>by
  obtain ⟨h1,h2⟩:=ZG1 (e:=e) (w:=w) h (hp w (List.mem_cons_self ..))
  rw [ZAb]
  split
  ·exact ⟨h1,by rw [List.map_cons,List.sum_cons]; show (ZB8 e w R).2.le.length<=_; omega⟩
  ·obtain ⟨h3,h4⟩:=ZF3 (ws:=ws) h1 λ q hq=>hp q (List.mem_cons_of_mem _ hq)
   exact ⟨h3,by rw [List.map_cons,List.sum_cons]; omega⟩
theorem ZGt {book:List (Int × Int)} {a b h:Nat} (hh:h ∈ ZE8 e book a b) (hn : 0 < book.length):h < book.length/\h ≠ b/\∃ k,k < book.length - 1/\h=(a+(k+1)) % book.length:=by
 unfold ZE8 at hh
 have h1:=List.mem_filter.mp (List.mem_of_mem_take hh)
 obtain ⟨k,hk,rfl⟩:=List.mem_map.mp h1.1
 refine ⟨Nat.mod_lt _ hn,λ z=>?_,k,List.mem_range.mp hk,rfl⟩
 have h2:=h1.2
 rw [z,decide_eq_true rfl] at h2
 cases h2
theorem ZLH {book:List (Int × Int)} {a b h:Nat} (hh:h ∈ ZE8 e book a b) (ha:a < book.length):h ≠ a:=by
 obtain ⟨h1,h2,k,hk,rfl⟩:=ZGt hh (by omega)
 by_cases z:a+(k+1) < book.length
 ·rw [Nat.mod_eq_of_lt z]; omega
 ·rw [Nat.mod_eq_sub_mod (by omega),Nat.mod_eq_of_lt (by omega)]; omega
theorem ZGa {book:List (Int × Int)} {a b:Nat} (ho : 0<=e.r.o/\e.r.o<=3):(ZE8 e book a b).length<=3:=by
 unfold ZE8
 rw [List.length_take]
 omega
theorem ZCg {hs:List Hs} {a b:Nat} (w:HsL n hs) (ha:a < n) (hb:b < n) (hab:a ≠ b):∀ v ∈ ZBR e hs a b,∀ p ∈ v,(p.1 < n/\p.2 < n)/\p.1 ≠ p.2:=by
 have hbl:=(w.get ha).bl
 intro v hv p hp
 unfold ZBR at hv
 rcases List.mem_cons.mp hv with rfl | hv
 ·simp only [List.mem_cons,List.not_mem_nil,or_false] at hp
  rcases hp with rfl | rfl
  ·exact ⟨⟨ha,hb⟩,hab⟩
  ·exact ⟨⟨hb,ha⟩,λ z=>hab z.symm⟩
 ·split at hv
  ·obtain ⟨h,hh,rfl⟩:=List.mem_map.mp hv
   have h1:=ZGt hh (by rw [hbl]; omega)
   have h2:=ZLH hh (by rw [hbl]; exact ha)
   rw [hbl] at h1
   simp only [List.mem_cons,List.not_mem_nil,or_false] at hp
   rcases hp with rfl | rfl | rfl | rfl
   ·exact ⟨⟨ha,h1.1⟩,λ z=>h2 z.symm⟩
   ·exact ⟨⟨h1.1,hb⟩,h1.2.1⟩
   ·exact ⟨⟨hb,h1.1⟩,λ z=>h1.2.1 z.symm⟩
   ·exact ⟨⟨h1.1,ha⟩,h2⟩
  ·cases hv
theorem ZGn {hs:List Hs} {a b:Nat} (ho : 0<=e.r.o/\e.r.o<=3):((ZBR e hs a b).map List.length).sum<=14:=by
 unfold ZBR
 rw [List.map_cons,List.sum_cons]
 split
 ·rw [List.map_map]
  have:∀ L:List Nat,(L.map (List.length ∘ λ h=>[(a,h),(h,b),(b,h),(h,a)])).sum=4 * L.length:=by
   intro L
   induction L with
   | nil=>rfl
   | cons x r ih=>rw [List.map_cons,List.sum_cons,ih,List.length_cons]; show 4+_=_; omega
  rw [this]
  have:=ZGa (e:=e) (book:=(hs.getD a H0).2.1) (a:=a) (b:=b) ho
  show 2+_<=14
  omega
 ·show 2+0<=14
  omega
theorem ZOh {b:Nat} {ans:Bool} {h:Hs} (w:HL n h):HL n (ZKR e b ans h):=by
 unfold ZKR
 have sl:∀ {α : Type} {xs:List α} {i:Nat} {v : α},(xs.set i v).length=xs.length:=List.length_set
 split
 ·exact ⟨w.up,w.bl,w.tl,sl.trans w.ml⟩
 ·split
  ·exact ⟨w.up,sl.trans w.bl,sl.trans w.tl,sl.trans w.ml⟩
  ·split
   ·split
    ·exact ⟨w.up,sl.trans w.bl,sl.trans w.tl,sl.trans w.ml⟩
    ·exact ⟨w.up,w.bl,w.tl,sl.trans w.ml⟩
   ·split
    ·exact ⟨w.up,w.bl,w.tl,sl.trans w.ml⟩
    ·exact w
theorem ZPV {a b:Nat} {ans:Bool} {hs:List Hs} (w:HsL n hs) (ha:a < n):HsL n (ZI1 e a b ans hs):=w.set (ZOh (w.get ha))
theorem ZOA {a:Nat} (hn : 2<=e.ts.length):tgF e a < e.ts.length:=by
 unfold tgF
 have h1:=Int.emod_nonneg ((a:Int)+1+(ZDA (e.ts.getD a (0,0)) e.tn - 1) % ((e.ts.length:Int) - 1)) (show (e.ts.length:Int) ≠ 0 by omega)
 have h2:=Int.emod_lt_of_pos ((a:Int)+1+(ZDA (e.ts.getD a (0,0)) e.tn - 1) % ((e.ts.length:Int) - 1)) (show (0:Int) < e.ts.length by omega)
 omega
theorem ZOt {a:Nat} (hn : 2<=e.ts.length) (ha:a < e.ts.length):tgF e a ≠ a:=by
 unfold tgF
 have h1:=Int.emod_nonneg (ZDA (e.ts.getD a (0,0)) e.tn - 1) (show (e.ts.length:Int) - 1 ≠ 0 by omega)
 have h2:=Int.emod_lt_of_pos (ZDA (e.ts.getD a (0,0)) e.tn - 1) (show (0:Int) < (e.ts.length:Int) - 1 by omega)
 generalize (ZDA (e.ts.getD a (0,0)) e.tn - 1) % ((e.ts.length:Int) - 1)=k at *
 by_cases z:(a:Int)+1+k < e.ts.length
 ·rw [Int.emod_eq_of_lt (by omega) z]; omega
 ·have:((a:Int)+1+k) % (e.ts.length:Int)=(a:Int)+1+k - e.ts.length:=by
   rw [← Int.sub_emod_right,Int.emod_eq_of_lt (by omega) (by omega)]
  rw [this]; omega
theorem ZDa {a b:Nat} {R:Rw} (ho : 0<=e.r.o/\e.r.o<=3) (w:HsL n R.hs) (ha:a < n) (hb:b < n) (hab:a ≠ b):HsL n (ZDM e a b R).hs/\(ZDM e a b R).le.length<=R.le.length+14:=by
 unfold ZDM
 split
 ·obtain ⟨h1,h2⟩:=ZF3 (e:=e) (ws:=ZBR e R.hs a b) w λ v hv p hp=>(ZCg w ha hb hab v hv p hp).1
  have:=ZGn (e:=e) (hs:=R.hs) (a:=a) (b:=b) ho
  exact ⟨ZPV h1 ha,by show (ZAb e (ZBR e R.hs a b) R).2.le.length<=_; omega⟩
 ·exact ⟨w,by omega⟩
theorem ZAw {a b:Nat} (hn : 2<=e.ts.length) (ha:a < e.ts.length) (hb:b ∈ ZGS e a):b < e.ts.length/\a ≠ b:=by
 unfold ZGS at hb
 rcases List.mem_cons.mp hb with rfl | hb
 ·exact ⟨ZOA hn,λ z=>ZOt hn ha z.symm⟩
 ·obtain ⟨h1,h2⟩:=List.mem_filter.mp hb
  refine ⟨List.mem_range.mp h1,λ z=>?_⟩
  rw [z,decide_eq_true rfl] at h2
  cases h2
theorem ZFl {a:Nat} (hn : 2<=e.ts.length) (ha:a < e.ts.length):(ZGS e a).length<=e.ts.length:=by
 unfold ZGS
 rw [List.length_cons]
 have:=(List.length_filter_lt_length_iff_exists (l:=List.range e.ts.length) (p:=λ b=>!decide (b=a) && !decide (b=tgF e a))).mpr ⟨a,List.mem_range.mpr ha,show ¬ (!decide (a=a) && !decide (a=tgF e a))=true by rw [decide_eq_true rfl]; exact Bool.false_ne_true⟩
 rw [List.length_range] at this
 exact this
theorem ZBs {α : Type} {f:Rw->α->Rw} {m:Nat}:∀ {L:List α} {R:Rw},HsL n R.hs->(∀ x ∈ L,∀ R,HsL n R.hs->HsL n (f R x).hs/\(f R x).le.length<=R.le.length+m)->HsL n (L.foldl f R).hs/\(L.foldl f R).le.length<=R.le.length+m * L.length
 | [],R,h,_=>⟨h,Nat.le_refl _⟩
 | x :: L,R,h,hf=>by
  obtain ⟨h1,h2⟩:=hf x (List.mem_cons_self ..) R h
  obtain ⟨h3,h4⟩:=ZBs (L:=L) h1 λ y hy=>hf y (List.mem_cons_of_mem _ hy)
  refine ⟨h3,?_⟩
  rw [List.foldl_cons,List.length_cons,Nat.mul_succ]
  omega
theorem ZMa {a:Nat} {R:Rw} (ho : 0<=e.r.o/\e.r.o<=3) (hn : 2<=e.ts.length) (w:HsL e.ts.length R.hs) (ha:a < e.ts.length):HsL e.ts.length (ZIw e a R).hs/\(ZIw e a R).le.length<=R.le.length+14 * e.ts.length:=by
 obtain ⟨h1,h2⟩:=ZBs (f:=λ R b=>ZDM e a b R) (m:=14) (L:=ZGS e a) w λ b hb R w=>ZDa ho w ha (ZAw hn ha hb).1 (ZAw hn ha hb).2
 refine ⟨h1,Nat.le_trans h2 ?_⟩
 have:=ZFl hn ha
 have:=Nat.mul_le_mul_left 14 this
 omega
theorem ZDV {a:Nat} {R:Rw} (ho : 0<=e.r.o/\e.r.o<=3) (hn : 2<=e.ts.length) (w:HsL e.ts.length R.hs) (ha:a < e.ts.length):HsL e.ts.length (ZBZ e a R).hs/\(ZBZ e a R).le.length<=R.le.length+14 * e.ts.length:=by
 unfold ZBZ
 split
 ·exact ZMa ho hn w ha
 ·exact ⟨w,by omega⟩
theorem ZCB {x:Nat} {R:Rw} (w:HsL e.ts.length R.hs) (hx:x < e.ts.length):HsL e.ts.length (ZAK e x R).hs/\(ZAK e x R).le.length<=R.le.length+e.ts.length:=by
 obtain ⟨h1,h2⟩:=ZBs (f:=λ R y=>if y=x then R else (ZAJ e x y R).2) (m:=1) (L:=List.range e.ts.length) w λ y hy R w=>by
  by_cases z:y=x
  ·rw [if_pos z]; exact ⟨w,by omega⟩
  ·rw [if_neg z]; exact ⟨ZC6 w hx (List.mem_range.mp hy),by rw [ZEO]; omega⟩
 refine ⟨h1,Nat.le_trans h2 ?_⟩
 rw [List.length_range]
 omega
end
theorem ZJY {n x:Nat} {hs:List Hs} (w:HsL n hs) (hx:x < n):HsL n (ZBa x hs):=w.set ⟨.inl rfl,(w.get hx).bl,(w.get hx).tl,(w.get hx).ml⟩
theorem doH_L {fa le co:List Int} {n i:Nat} {h:Hs} (w:HL n h):HL n (doH fa le co i h):=by
 unfold doH
 have sl:∀ {α : Type} {xs:List α} {i:Nat} {v : α},(xs.set i v).length=xs.length:=List.length_set
 split
 ·exact ⟨.inl rfl,w.bl,w.tl,by rw [show ∀ (a:Int) b c d,((a,b,c,d):Hs).2.2.2=d from λ _ _ _ _=>rfl,List.length_replicate]; exact w.ml⟩
 ·split
  ·exact ⟨w.up,sl.trans w.bl,sl.trans w.tl,by rw [show ∀ (a:Int) b c d,((a,b,c,d):Hs).2.2.2=d from λ _ _ _ _=>rfl,List.length_replicate]; exact w.ml⟩
  ·split
   ·exact ⟨.inr rfl,sl.trans w.bl,sl.trans w.tl,w.ml⟩
   ·exact w
theorem ZFK {fa le co:List Int} {n:Nat} {hs:List Hs} (w:HsL n hs):HsL n (ZAN fa le co hs):=⟨by unfold ZAN; rw [List.length_map,List.length_range]; exact w.len,λ h hh=>by
 unfold ZAN at hh
 obtain ⟨i,hi,rfl⟩:=List.mem_map.mp hh
 exact doH_L (w.get (by rw [← w.len]; exact List.mem_range.mp hi))⟩
theorem ZEM {n:Nat}:∀ {L:List Int} {hs:List Hs},HsL n hs->(∀ x ∈ L,x.toNat < n)->HsL n (L.foldl (λ hs x=>ZBa x.toNat hs) hs)
 | [],_,h,_=>h
 | x :: L,hs,h,hx=>ZEM (L:=L) (ZJY h (hx x (List.mem_cons_self ..))) λ y hy=>hx y (List.mem_cons_of_mem _ hy)
inductive loopP (src:Option Nat) (xs:List PyData) (pt:Pat) (db:DS) (r:List PyData) (P:Out->Prop):Out->Prop
 | nx {sd:Sd} {g:G}:ZBc src xs g->EvS (ZAg src xs pt db r sd g) P->loopP src xs pt db r P (.nx sd g)
 | ct {sd:Sd} {g:G}:ZBc src xs g->EvS (ZAg src xs pt db r sd g) P->loopP src xs pt db r P (.ct sd g)
 | bk {sd:Sd} {g:G}:P (.nx sd g)->loopP src xs pt db r P (.bk sd g)
 | rt {x:W} {g:G}:P (.rt x g)->loopP src xs pt db r P (.rt x g)
theorem ZDI {src:Option Nat} {xs:List PyData} {pt:Pat} {db:DS} {P:Out->Prop} {sd:Sd} {g:G} (h:P (.nx sd g)):EvS (ZAg src xs pt db [] sd g) P:=by
 rw [ZAg]
 exact ⟨_,rfl,h⟩
theorem ZCM {src:Option Nat} {xs:List PyData} {pt:Pat} {db:DS} {P:Out->Prop} {sd sd1:Sd} {g:G} {x:PyData} {r:List PyData} (e:Zr pt (.dat x) sd=some sd1) (h:EvS (db sd1 g) (loopP src xs pt db r P)):EvS (ZAg src xs pt db (x :: r) sd g) P:=by
 rw [ZAg,e]
 obtain ⟨o,e2,h⟩:=h
 show EvS ((db sd1 g).bind _) P
 rw [e2]
 cases h with
 | nx so h=>show EvS (ZCP _ _ _ _) P; rw [ZBo so]; exact h
 | ct so h=>show EvS (ZCP _ _ _ _) P; rw [ZBo so]; exact h
 | bk h=>exact ⟨_,rfl,h⟩
 | rt h=>exact ⟨_,rfl,h⟩
theorem ZKe {aa:DA} {sd:Sd} {g:G} {PI':List PyData->Option Nat->G->Prop} (h:EvP (aa sd g) λ ws g1=>∃ i j:Int,ws=[.dat (.int i),.dat (.int j)]/\((j<=1000/\-1000<=j)/\(i<=1000/\-1000<=i))/\PI' (ZBy (j - i).toNat i) none g1):EvI (ZAI aa sd g) PI':=by
 obtain ⟨ws,g1,e1,i,j,rfl,hj,h⟩:=h
 exact ⟨_,_,g1,by unfold ZAI; rw [e1]; exact if_pos hj,h⟩
def prD (p:Nat × Nat):PyData:=.tuple [.int (p.1:Int),.int (p.2:Int)]
def wyD (w:List (Nat × Nat)):PyData:=.tuple (w.map prD)
theorem ZKx {r:Ru} {ts:List (Int × Int)} {tn:Int} {hs:List Hs} {lo fa le co:List Int} (ho : 0<=r.o/\r.o<=3) (n2 : 2<=ts.length) (n8:ts.length<=8) (w:HsL ts.length hs) (hle:∀ k ∈ le,0<=k/\k < ts.length) (hco:∀ k ∈ co,0<=k/\k < ts.length) (hlc:le.length+co.length<=ts.length) :
  HsL ts.length (ZBG r ts tn hs lo fa le co).hs/\(ZBG r ts tn hs lo fa le co).le.length<=960:=by
 have k1:=ZBs (f:=λ (R:Rw) (x:Int)=>ZAK ⟨r,ts,tn,lo⟩ x.toNat R) (n:=ts.length) (m:=ts.length) (L:=le ++ co) (R:=⟨ZAN fa le co hs,[]⟩) (ZFK w) λ x hx R w=>ZCB (e:=⟨r,ts,tn,lo⟩) w (by
  show x.toNat < ts.length
  rcases List.mem_append.mp hx with h | h
  ·have:=hle x h; omega
  ·have:=hco x h; omega)
 have k2:=ZEM (L:=le) k1.1 λ x hx=>by have:=hle x hx; omega
 have k3:=ZBs (f:=λ (R:Rw) (a:Nat)=>ZBZ ⟨r,ts,tn,lo⟩ a R) (n:=ts.length) (m:=14 * ts.length) (L:=List.range ts.length) (R:=⟨le.foldl (λ hs x=>ZBa x.toNat hs) ((le ++ co).foldl (λ (R:Rw) (x:Int)=>ZAK ⟨r,ts,tn,lo⟩ x.toNat R) ⟨ZAN fa le co hs,[]⟩).hs,((le ++ co).foldl (λ (R:Rw) (x:Int)=>ZAK ⟨r,ts,tn,lo⟩ x.toNat R) ⟨ZAN fa le co hs,[]⟩).le⟩) k2 λ a ha R w=>ZDV (e:=⟨r,ts,tn,lo⟩) ho n2 w (List.mem_range.mp ha)
 refine ⟨k3.1,?_⟩
 have h1:((le ++ co).foldl (λ (R:Rw) (x:Int)=>ZAK ⟨r,ts,tn,lo⟩ x.toNat R) ⟨ZAN fa le co hs,[]⟩).le.length<=64:=by
  have h0:_<=0+ts.length * (le ++ co).length:=k1.2
  have:ts.length * (le ++ co).length<=8 * 8:=Nat.mul_le_mul n8 (by rw [List.length_append]; omega)
  exact Nat.le_trans h0 (by omega)
 have h2 : 14 * ts.length * (List.range ts.length).length<=896:=by
  rw [List.length_range]
  have:=Nat.mul_le_mul (Nat.mul_le_mul_left 14 n8) n8
  omega
 exact Nat.le_trans k3.2 (Nat.le_trans (Nat.add_le_add h1 h2) (by decide))
abbrev Sx:=Int × List Hs
def stX (s:Sx):PyData:=Zs s.1 s.2
theorem bT {A B:Prop} (h:A):(true=true->A)/\(true=false->B):=⟨λ _=>h,λ z=>by cases z⟩
theorem bF {A B:Prop} (h:B):(false=true->A)/\(false=false->B):=⟨(λ z=>by cases z),λ _=>h⟩
def ZAf (K:PySem.W.Frag) (x ql:Str) (st:Stmt) (f:Addr):Prop:=∃ fd,Fun K x ql st f fd
theorem fnAt_mk {K:PySem.W.Frag} {x qual:Str} {st:Stmt} {f:Addr} {oc:Value} {od an:Option Addr} {osl:Array (Option Value)} {kV doc pm cdv ct:Value} (l:K.lookup f=some ⟨oc,od,.func (PySem.W.fnOf x qual (ZCx st) (ZBm st) (ZM st) .none kV doc pm an cdv ct),osl⟩)
  (c:PySem.W.codeIn K cdv qual=true) (k:PySem.W.keepIn K (.ref f)=true):ZAf K x qual st f:=⟨_,ZLc l c k⟩
end L2
namespace L2
open PySem PySem.Spec PyProof.Rows H1
def ZDj (hs:List Hs):List Int:=hs.map (·.1)
theorem ZHF {hs:List Hs} {i:Nat} {h:Hs} (e:h.1=(hs.getD i H0).1):ZDj (hs.set i h)=ZDj hs:=by
 unfold ZDj
 rw [List.map_set,e]
 by_cases hi:i < hs.length
 ·rw [List.getD_eq_getElem?_getD,List.getElem?_eq_getElem hi]
  apply List.ext_getElem?
  intro j
  by_cases hj:i=j
  ·subst hj
   rw [List.getElem?_set_self (by rw [List.length_map]; exact hi),List.getElem?_map,List.getElem?_eq_getElem hi]
   rfl
  ·rw [List.getElem?_set_ne hj]
 ·rw [List.set_eq_of_length_le (by rw [List.length_map]; omega)]
theorem ZI3 {hs hs':List Hs} (h:ZDj hs'=ZDj hs) (i:Nat):(hs'.getD i H0).1=(hs.getD i H0).1:=by
 have e:∀ l:List Hs,(l.getD i H0).1=(ZDj l).getD i 0:=λ l=>by
  unfold ZDj
  rw [List.getD_eq_getElem?_getD,List.getD_eq_getElem?_getD,List.getElem?_map]
  cases l[i]? <;> rfl
 rw [e,e,h]
def ZIs (lo:List Int) (n:Nat):List Bool:=(List.range n).map λ k:Nat=>lo.contains (k:Int)
structure Grow (e:En) (R R':Rw):Prop where
 ex:∃ ex:List Lt,R'.le=R.le ++ ex/\∀ l ∈ ex,l.1 ≠ l.2.1
 fl:R.le.map (·.2.2)=ZIs e.lo R.le.length->R'.le.map (·.2.2)=ZIs e.lo R'.le.length
 up:ZDj R'.hs=ZDj R.hs
section
variable {e:En} {n:Nat}
theorem Grow.refl {R:Rw}:Grow e R R:=⟨⟨[],(List.append_nil _).symm,λ l hl=>by cases hl⟩,id,rfl⟩
theorem Grow.trans {R R1 R2:Rw} (h:Grow e R R1) (k:Grow e R1 R2):Grow e R R2:=by
 obtain ⟨a,ea,ha⟩:=h.ex
 obtain ⟨b,eb,hb⟩:=k.ex
 refine ⟨⟨a ++ b,by rw [eb,ea,List.append_assoc],λ l hl=>(List.mem_append.mp hl).elim (ha l) (hb l)⟩,λ z=>k.fl (h.fl z),k.up.trans h.up⟩
theorem ZFO {x y:Nat} {hs:List Hs}:ZDj (ZEV e x y hs)=ZDj hs:=ZHF rfl
theorem ZGY {cl:List Str} {y:Nat}:∀ {ns:List (Nat × (Int × Int))} {h:Hs},(ZCb cl y h ns).1=h.1
 | [],_=>rfl
 | x :: r,h=>by
  show (ZCb cl y (ZET cl y h x) r).1=h.1
  rw [ZGY]
  unfold ZET ZLO ZK5
  split <;> split <;> rfl
theorem ZM3 {x y:Nat} {hs:List Hs} (hxy:x ≠ y):ZDj (ZFu e x y hs)=ZDj hs:=by
 unfold ZFu
 rw [ZHF,ZFO]
 rw [ZGY]
 exact (ZI3 (ZFO (e:=e) (x:=x) (y:=y) (hs:=hs)) y).symm
theorem ZFo {lo:List Int} {L:List Lt} {x y:Int} {b:Bool} (hb:lo.contains (L.length:Int)=b) (h:L.map (·.2.2)=ZIs lo L.length):(L ++ [(x,y,b)]).map (·.2.2)=ZIs lo (L ++ [(x,y,b)]).length:=by
 rw [List.map_append,h,List.length_append]
 unfold ZIs
 show _=(List.range (L.length+1)).map _
 rw [List.range_succ,List.map_append,← hb]
 rfl
theorem ZCA {x y:Nat} {R:Rw} (hxy:x ≠ y):Grow e R (ZAJ e x y R).2:=by
 have hne:∀ {b:Bool},∀ l ∈ [(((x:Int),(y:Int),b):Lt)],l.1 ≠ l.2.1:=λ l hl=>by
  rw [List.mem_singleton.mp hl]
  show (x:Int) ≠ (y:Int)
  omega
 unfold ZAJ
 split
 ·rename_i h
  exact ⟨⟨_,rfl,hne⟩,ZFo h,ZFO⟩
 ·rename_i h
  have h:e.lo.contains (R.le.length:Int)=false:=by simpa using h
  split
  ·exact ⟨⟨_,rfl,hne⟩,ZFo h,ZFO⟩
  ·exact ⟨⟨_,rfl,hne⟩,ZFo h,ZM3 hxy⟩
theorem ZEZ:∀ {w:List (Nat × Nat)} {R:Rw},(∀ p ∈ w,p.1 ≠ p.2)->Grow e R (ZB8 e w R).2
 | [],R,_=>.refl
 | p :: w,R,hp=>by
  have h1:=ZCA (e:=e) (R:=R) (hp p (List.mem_cons_self ..))
  rw [ZB8]
  split
  ·exact h1.trans (ZEZ λ q hq=>hp q (List.mem_cons_of_mem _ hq))
  ·exact h1
theorem ZDi:∀ {ws:List (List (Nat × Nat))} {R:Rw},(∀ w ∈ ws,∀ p ∈ w,p.1 ≠ p.2)->Grow e R (ZAb e ws R).2
 | [],R,_=>.refl
 | w :: ws,R,hp=>by
  have h1:=ZEZ (e:=e) (R:=R) (hp w (List.mem_cons_self ..))
  rw [ZAb]
  split
  ·exact h1
  ·exact h1.trans (ZDi λ q hq=>hp q (List.mem_cons_of_mem _ hq))
theorem ZND {b:Nat} {ans:Bool} {h:Hs}:(ZKR e b ans h).1=h.1:=by
 unfold ZKR
 split
 ·rfl
 ·split
  ·rfl
  ·split
   ·split <;> rfl
   ·split <;> rfl
theorem ZDf {a b:Nat} {R:Rw} (w:HsL n R.hs) (ha:a < n) (hb:b < n) (hab:a ≠ b):Grow e R (ZDM e a b R):=by
 unfold ZDM
 split
 ·have h1:=ZDi (e:=e) (ws:=ZBR e R.hs a b) (R:=R) λ v hv p hp=>(ZCg w ha hb hab v hv p hp).2
  refine ⟨h1.ex,h1.fl,?_⟩
  show ZDj (ZI1 e a b _ _)=_
  unfold ZI1
  rw [ZHF ZND]
  exact h1.up
 ·exact .refl
theorem ZBk {α : Type} {f:Rw->α->Rw}:∀ {L:List α} {R:Rw},HsL n R.hs->(∀ x ∈ L,∀ R,HsL n R.hs->HsL n (f R x).hs/\Grow e R (f R x))->Grow e R (L.foldl f R)
 | [],R,_,_=>.refl
 | x :: L,R,w,hf=>by
  obtain ⟨h1,h2⟩:=hf x (List.mem_cons_self ..) R w
  exact h2.trans (ZBk h1 λ y hy=>hf y (List.mem_cons_of_mem _ hy))
theorem ZKz {a:Nat} {R:Rw} (ho : 0<=e.r.o/\e.r.o<=3) (hn : 2<=e.ts.length) (w:HsL e.ts.length R.hs) (ha:a < e.ts.length):Grow e R (ZIw e a R):=ZBk w λ b hb R w=>⟨(ZDa ho w ha (ZAw hn ha hb).1 (ZAw hn ha hb).2).1,ZDf w ha (ZAw hn ha hb).1 (ZAw hn ha hb).2⟩
theorem ZDz {a:Nat} {R:Rw} (ho : 0<=e.r.o/\e.r.o<=3) (hn : 2<=e.ts.length) (w:HsL e.ts.length R.hs) (ha:a < e.ts.length):Grow e R (ZBZ e a R):=by
 unfold ZBZ
 split
 ·exact ZKz ho hn w ha
 ·exact .refl
theorem ZEr {R:Rw} (ho : 0<=e.r.o/\e.r.o<=3) (hn : 2<=e.ts.length) (w:HsL e.ts.length R.hs):Grow e R (ZIB e R):=ZBk w λ a ha R w=>⟨(ZDV ho hn w (List.mem_range.mp ha)).1,ZDz ho hn w (List.mem_range.mp ha)⟩
theorem ZGs {x:Nat} {R:Rw} (w:HsL e.ts.length R.hs) (hx:x < e.ts.length):Grow e R (ZAK e x R):=ZBk (f:=λ R y=>if y=x then R else (ZAJ e x y R).2) w λ y hy R w=>by
 by_cases z:y=x
 ·rw [if_pos z]; exact ⟨w,.refl⟩
 ·rw [if_neg z]; exact ⟨ZC6 w hx (List.mem_range.mp hy),ZCA λ h=>z h.symm⟩
def Hd (A:Int->Prop) (R R':Rw):Prop:=R'.le=R.le ∨ ∃ l ex,R'.le=R.le ++ l :: ex/\A l.1
theorem Hd.trans {A:Int->Prop} {R R1 R2:Rw} (h:Hd A R R1) (k:Hd A R1 R2):Hd A R R2:=by
 rcases h with h | ⟨l,ex,h,ha⟩
 ·rcases k with k | ⟨l,ex,k,ha⟩
  ·exact .inl (k.trans h)
  ·exact .inr ⟨l,ex,by rw [k,h],ha⟩
 ·rcases k with k | ⟨l2,ex2,k,_⟩
  ·exact .inr ⟨l,ex,k.trans h,ha⟩
  ·exact .inr ⟨l,ex ++ l2 :: ex2,by rw [k,h,List.append_assoc]; rfl,ha⟩
theorem ZMG {x y:Nat} {R:Rw}:∃ l,(ZAJ e x y R).2.le=R.le ++ [l]/\l.1=(x:Int):=by
 unfold ZAJ
 split
 ·exact ⟨_,rfl,rfl⟩
 ·split <;> exact ⟨_,rfl,rfl⟩
theorem ZNQ {a b:Nat} {R:Rw} {ws:List (List (Nat × Nat))} (hp:∀ w ∈ ([(a,b),(b,a)] :: ws),∀ p ∈ w,p.1 ≠ p.2):Hd (λ x=>x=(a:Int)) R (ZAb e ([(a,b),(b,a)] :: ws) R).2:=by
 obtain ⟨l,e1,e2⟩:=ZMG (e:=e) (x:=a) (y:=b) (R:=R)
 have k:Grow e (ZAJ e a b R).2 (ZAb e ([(a,b),(b,a)] :: ws) R).2:=by
  have hp0:=hp _ (List.mem_cons_self ..)
  have hrest:∀ R,Grow e R (ZAb e ws R).2:=λ R=>ZDi λ w hw=>hp w (List.mem_cons_of_mem _ hw)
  have h2:Grow e (ZAJ e a b R).2 (ZB8 e [(a,b),(b,a)] R).2:=by
   rw [ZB8]
   split
   ·exact ZEZ λ p h=>hp0 p (List.mem_cons_of_mem _ h)
   ·exact .refl
  rw [ZAb]
  split
  ·exact h2
  ·exact h2.trans (hrest _)
 obtain ⟨ex,e3,_⟩:=k.ex
 exact .inr ⟨l,ex,by rw [e3,e1,List.append_assoc]; rfl,e2⟩
theorem ZM8 {a b:Nat} {R:Rw} (w:HsL n R.hs) (ha:a < n) (hb:b < n) (hab:a ≠ b):Hd (λ x=>x=(a:Int)) R (ZDM e a b R):=by
 unfold ZDM
 split
 ·have:=ZNQ (e:=e) (a:=a) (b:=b) (R:=R) (ws:=if (ZDY e.r.cl "others" && abF (R.hs.getD a H0).2.1 b)=true then (ZE8 e (R.hs.getD a H0).2.1 a b).map λ h=>[(a,h),(h,b),(b,h),(h,a)] else []) λ v hv p hp=>(ZCg (e:=e) w ha hb hab v hv p hp).2
  exact this
 ·exact .inl rfl
theorem ZHX {α : Type} {f:Rw->α->Rw} {A:Int->Prop}:∀ {L:List α} {R:Rw} (U:List Int),ZDj R.hs=U->HsL n R.hs->(∀ x ∈ L,∀ R,HsL n R.hs->ZDj R.hs=U->HsL n (f R x).hs/\Grow e R (f R x)/\Hd A R (f R x))->Hd A R (L.foldl f R)
 | [],R,U,_,_,_=>.inl rfl
 | x :: L,R,U,hu,w,hf=>by
  obtain ⟨h1,h2,h3⟩:=hf x (List.mem_cons_self ..) R w hu
  exact h3.trans (ZHX U (h2.up.trans hu) h1 λ y hy=>hf y (List.mem_cons_of_mem _ hy))
theorem ZOX {a:Nat} {R:Rw} (ho : 0<=e.r.o/\e.r.o<=3) (hn : 2<=e.ts.length) (w:HsL e.ts.length R.hs) (ha:a < e.ts.length):Hd (λ x=>x=(a:Int)) R (ZIw e a R):=ZHX (e:=e) (f:=λ R b=>ZDM e a b R) _ rfl w λ b hb R w _=>⟨(ZDa ho w ha (ZAw hn ha hb).1 (ZAw hn ha hb).2).1,ZDf w ha (ZAw hn ha hb).1 (ZAw hn ha hb).2,ZM8 w ha (ZAw hn ha hb).1 (ZAw hn ha hb).2⟩
theorem ZMK {R:Rw} (ho : 0<=e.r.o/\e.r.o<=3) (hn : 2<=e.ts.length) (w:HsL e.ts.length R.hs):Hd (λ x=>∃ a:Nat,x=(a:Int)/\a < e.ts.length/\ZIL e a R.hs=true) R (ZIB e R):=ZHX (e:=e) (f:=λ R a=>ZBZ e a R) _ rfl w λ a ha R' w' hu=>by
 have ha:=List.mem_range.mp ha
 refine ⟨(ZDV ho hn w' ha).1,ZDz ho hn w' ha,?_⟩
 unfold ZBZ
 split
 ·rename_i h
  rcases ZOX ho hn w' ha with z | ⟨l,ex,z,hz⟩
  ·exact .inl z
  ·refine .inr ⟨l,ex,z,a,hz,ha,?_⟩
   unfold ZIL at h ⊢
   rw [← ZI3 hu a]
   exact h
 ·exact .inl rfl
def prL (L:List Lt):List (Int × Int):=L.map λ l=>(l.1,l.2.1)
theorem ZNB {x y:Nat} {R:Rw}:prL (ZAJ e x y R).2.le=prL R.le ++ [((x:Int),(y:Int))]:=by
 unfold ZAJ prL
 split
 ·rw [List.map_append]; rfl
 ·split <;> rw [List.map_append] <;> rfl
def ZGP (n:Nat) (x:Int):List (Int × Int):=((List.range n).filter λ y:Nat=>!decide ((y:Int)=x)).map λ y:Nat=>(x,(y:Int))
theorem ZJQ {x:Nat}:∀ {L:List Nat} {R:Rw},prL (L.foldl (λ R y=>if y=x then R else (ZAJ e x y R).2) R).le=prL R.le ++ (L.filter λ y:Nat=>!decide ((y:Int)=(x:Int))).map λ y:Nat=>((x:Int),(y:Int))
 | [],R=>(List.append_nil _).symm
 | y :: L,R=>by
  rw [List.foldl_cons,ZJQ]
  by_cases z:y=x
  ·rw [if_pos z,List.filter_cons_of_neg (by rw [z,decide_eq_true rfl]; exact Bool.false_ne_true)]
  ·rw [if_neg z,ZNB,List.filter_cons_of_pos (by rw [decide_eq_false (by omega)]; rfl),List.append_assoc]
   rfl
theorem ZH6:∀ {L:List Int} {R:Rw},(∀ k ∈ L,0<=k)->prL (L.foldl (λ (R:Rw) (x:Int)=>ZAK e x.toNat R) R).le=prL R.le ++ (L.map (ZGP e.ts.length)).flatten
 | [],R,_=>(List.append_nil _).symm
 | x :: L,R,h=>by
  have h0:=h x (List.mem_cons_self ..)
  rw [List.foldl_cons,ZH6 λ k hk=>h k (List.mem_cons_of_mem _ hk),List.map_cons,List.flatten_cons,← List.append_assoc]
  congr 1
  show prL (ZAK e x.toNat R).le=_
  unfold ZAK ZGP
  rw [ZJQ,Int.toNat_of_nonneg h0]
end
def Pre (at_:Nat) (R R':Rw):Prop:=R=R' ∨ (at_<=R.le.length/\at_<=R'.le.length/\R.le.take at_=R'.le.take at_)
theorem Pre.more {at_:Nat} {R R' S S':Rw} (h:at_<=R.le.length/\at_<=R'.le.length/\R.le.take at_=R'.le.take at_) (k:∃ ex,S.le=R.le ++ ex) (k':∃ ex,S'.le=R'.le ++ ex):Pre at_ S S':=by
 obtain ⟨a,ea⟩:=k
 obtain ⟨b,eb⟩:=k'
 refine .inr ⟨by rw [ea,List.length_append]; omega,by rw [eb,List.length_append]; omega,?_⟩
 rw [ea,eb,List.take_append_of_le_length h.1,List.take_append_of_le_length h.2.1]
 exact h.2.2
def ZOJ (at_:Nat) (p p':Bool × Rw):Prop:=p=p' ∨ (at_<=p.2.le.length/\at_<=p'.2.le.length/\p.2.le.take at_=p'.2.le.take at_)
section
variable {r:Ru} {ts:List (Int × Int)} {tn:Int} {lo lo':List Int} {at_ n:Nat}
theorem ZKV {R S S':Rw} (h:at_<=R.le.length) (k:∃ ex,S.le=R.le ++ ex) (k':∃ ex,S'.le=R.le ++ ex):at_<=S.le.length/\at_<=S'.le.length/\S.le.take at_=S'.le.take at_:=by
 obtain ⟨a,ea⟩:=k
 obtain ⟨b,eb⟩:=k'
 refine ⟨by rw [ea,List.length_append]; omega,by rw [eb,List.length_append]; omega,?_⟩
 rw [ea,eb,List.take_append_of_le_length h,List.take_append_of_le_length h]
theorem Grow.ext {e:En} {R R':Rw} (h:Grow e R R'):∃ ex,R'.le=R.le ++ ex:=let ⟨ex,a,_⟩:=h.ex; ⟨ex,a⟩
theorem ZHn (hk:∀ k:Nat,k < at_->lo'.contains (k:Int)=lo.contains (k:Int)) {x y:Nat} {R:Rw} (hxy:x ≠ y):ZOJ at_ (ZAJ ⟨r,ts,tn,lo⟩ x y R) (ZAJ ⟨r,ts,tn,lo'⟩ x y R):=by
 by_cases h:R.le.length < at_
 ·refine .inl ?_
  unfold ZAJ
  show (if lo.contains (R.le.length:Int)=true then _ else _)=(if lo'.contains (R.le.length:Int)=true then _ else _)
  rw [hk _ h]
  rfl
 ·exact .inr (ZKV (by omega) (ZCA hxy).ext (ZCA hxy).ext)
theorem ZJP (hk:∀ k:Nat,k < at_->lo'.contains (k:Int)=lo.contains (k:Int)):∀ {w:List (Nat × Nat)} {R:Rw},(∀ p ∈ w,p.1 ≠ p.2)->ZOJ at_ (ZB8 ⟨r,ts,tn,lo⟩ w R) (ZB8 ⟨r,ts,tn,lo'⟩ w R)
 | [],R,_=>.inl rfl
 | p :: w,R,hp=>by
  have hp0:=hp p (List.mem_cons_self ..)
  have hpr:∀ q ∈ w,q.1 ≠ q.2:=λ q hq=>hp q (List.mem_cons_of_mem _ hq)
  rcases ZHn (r:=r) (ts:=ts) (tn:=tn) hk (R:=R) hp0 with h | h
  ·rw [ZB8,ZB8,← h]
   split
   ·exact ZJP hk hpr
   ·exact .inl rfl
  ·have k:∀ lo,∃ ex,(ZB8 ⟨r,ts,tn,lo⟩ (p :: w) R).2.le=(ZAJ ⟨r,ts,tn,lo⟩ p.1 p.2 R).2.le ++ ex:=λ lo=>by
    rw [ZB8]
    split
    ·exact (ZEZ hpr).ext
    ·exact ⟨[],(List.append_nil _).symm⟩
   rcases Pre.more h (k lo) (k lo') with z | z
   ·exact .inr ⟨by obtain ⟨a,ea⟩:=k lo; rw [ea,List.length_append]; omega,by obtain ⟨a,ea⟩:=k lo'; rw [ea,List.length_append]; omega,by rw [z]⟩
   ·exact .inr z
theorem ZIG (hk:∀ k:Nat,k < at_->lo'.contains (k:Int)=lo.contains (k:Int)):∀ {ws:List (List (Nat × Nat))} {R:Rw},(∀ w ∈ ws,∀ p ∈ w,p.1 ≠ p.2)->ZOJ at_ (ZAb ⟨r,ts,tn,lo⟩ ws R) (ZAb ⟨r,ts,tn,lo'⟩ ws R)
 | [],R,_=>.inl rfl
 | w :: ws,R,hp=>by
  have hp0:=hp w (List.mem_cons_self ..)
  have hpr:∀ q ∈ ws,∀ p ∈ q,p.1 ≠ p.2:=λ q hq=>hp q (List.mem_cons_of_mem _ hq)
  rcases ZJP (r:=r) (ts:=ts) (tn:=tn) hk (R:=R) hp0 with h | h
  ·rw [ZAb,ZAb,← h]
   split
   ·exact .inl rfl
   ·exact ZIG hk hpr
  ·have k:∀ lo,∃ ex,(ZAb ⟨r,ts,tn,lo⟩ (w :: ws) R).2.le=(ZB8 ⟨r,ts,tn,lo⟩ w R).2.le ++ ex:=λ lo=>by
    rw [ZAb]
    split
    ·exact ⟨[],(List.append_nil _).symm⟩
    ·exact (ZDi hpr).ext
   rcases Pre.more h (k lo) (k lo') with z | z
   ·exact .inr ⟨by obtain ⟨a,ea⟩:=k lo; rw [ea,List.length_append]; omega,by obtain ⟨a,ea⟩:=k lo'; rw [ea,List.length_append]; omega,by rw [z]⟩
   ·exact .inr z
theorem ZK1 (hk:∀ k:Nat,k < at_->lo'.contains (k:Int)=lo.contains (k:Int)) {a b:Nat} {R:Rw} (w:HsL n R.hs) (ha:a < n) (hb:b < n) (hab:a ≠ b):Pre at_ (ZDM ⟨r,ts,tn,lo⟩ a b R) (ZDM ⟨r,ts,tn,lo'⟩ a b R):=by
 unfold ZDM
 have e1:ZK6 ⟨r,ts,tn,lo'⟩ a b R.hs=ZK6 ⟨r,ts,tn,lo⟩ a b R.hs:=rfl
 have e2:ZBR ⟨r,ts,tn,lo'⟩ R.hs a b=ZBR ⟨r,ts,tn,lo⟩ R.hs a b:=rfl
 rw [e1,e2]
 split
 ·rcases ZIG (r:=r) (ts:=ts) (tn:=tn) hk (R:=R) (ws:=ZBR ⟨r,ts,tn,lo⟩ R.hs a b) λ v hv p hp=>(ZCg w ha hb hab v hv p hp).2 with h | h
  ·rw [← h]
   exact .inl rfl
  ·exact .inr h
 ·exact .inl rfl
theorem ZDD {α : Type} {f f':Rw->α->Rw} {e e':En}:∀ {L:List α} {R:Rw},HsL n R.hs->(∀ x ∈ L,∀ R,HsL n R.hs->(HsL n (f R x).hs/\Grow e R (f R x))/\(HsL n (f' R x).hs/\Grow e' R (f' R x))/\Pre at_ (f R x) (f' R x))->Pre at_ (L.foldl f R) (L.foldl f' R)
 | [],R,_,_=>.inl rfl
 | x :: L,R,w,hf=>by
  obtain ⟨h1,h2,h3⟩:=hf x (List.mem_cons_self ..) R w
  have hr:=λ y hy=>hf y (List.mem_cons_of_mem x hy)
  rw [List.foldl_cons,List.foldl_cons]
  rcases h3 with h | h
  ·rw [← h]
   exact ZDD h1.1 hr
  ·exact Pre.more h (ZBk (e:=e) h1.1 λ y hy R w=>(hr y hy R w).1).ext (ZBk (e:=e') h2.1 λ y hy R w=>(hr y hy R w).2.1).ext
theorem ZKn {hs:List Hs} {fa le co:List Int} (ho : 0<=r.o/\r.o<=3) (n2 : 2<=ts.length) (w:HsL ts.length hs) (hle:∀ k ∈ le,0<=k/\k < ts.length) (hco:∀ k ∈ co,0<=k/\k < ts.length) (hk:∀ k:Nat,k < at_->lo'.contains (k:Int)=lo.contains (k:Int)) :
  Pre at_ (ZBG r ts tn hs lo fa le co) (ZBG r ts tn hs lo' fa le co):=by
 have hx:∀ x ∈ le ++ co,x.toNat < ts.length:=λ x hx=>by
  rcases List.mem_append.mp hx with h | h
  ·have:=hle x h; omega
  ·have:=hco x h; omega
 have wr:∀ lo:List Int,∀ x ∈ le ++ co,∀ R:Rw,HsL ts.length R.hs->HsL ts.length (ZAK ⟨r,ts,tn,lo⟩ x.toNat R).hs/\Grow ⟨r,ts,tn,lo⟩ R (ZAK ⟨r,ts,tn,lo⟩ x.toNat R):=λ lo x h R w=>⟨(ZCB (e:=⟨r,ts,tn,lo⟩) w (hx x h)).1,ZGs (e:=⟨r,ts,tn,lo⟩) w (hx x h)⟩
 have tr:∀ lo:List Int,∀ a ∈ List.range ts.length,∀ R:Rw,HsL ts.length R.hs->HsL ts.length (ZBZ ⟨r,ts,tn,lo⟩ a R).hs/\Grow ⟨r,ts,tn,lo⟩ R (ZBZ ⟨r,ts,tn,lo⟩ a R):=λ lo a h R w=>⟨(ZDV (e:=⟨r,ts,tn,lo⟩) ho n2 w (List.mem_range.mp h)).1,ZDz (e:=⟨r,ts,tn,lo⟩) ho n2 w (List.mem_range.mp h)⟩
 have wd:=ZFK (fa:=fa) (le:=le) (co:=co) w
 have p1:Pre at_ ((le ++ co).foldl (λ (R:Rw) (x:Int)=>ZAK ⟨r,ts,tn,lo⟩ x.toNat R) ⟨ZAN fa le co hs,[]⟩) ((le ++ co).foldl (λ (R:Rw) (x:Int)=>ZAK ⟨r,ts,tn,lo'⟩ x.toNat R) ⟨ZAN fa le co hs,[]⟩):=ZDD (n:=ts.length) (e:=⟨r,ts,tn,lo⟩) (e':=⟨r,ts,tn,lo'⟩) wd λ x h R w=>⟨wr lo x h R w,wr lo' x h R w,ZDD (n:=ts.length) (e:=⟨r,ts,tn,lo⟩) (e':=⟨r,ts,tn,lo'⟩) (f:=λ R y=>if y=x.toNat then R else (ZAJ ⟨r,ts,tn,lo⟩ x.toNat y R).2) (f':=λ R y=>if y=x.toNat then R else (ZAJ ⟨r,ts,tn,lo'⟩ x.toNat y R).2) w λ y hy R w=>by
  have hy:=List.mem_range.mp hy
  by_cases z:y=x.toNat
  ·rw [if_pos z,if_pos z]; exact ⟨⟨w,.refl⟩,⟨w,.refl⟩,.inl rfl⟩
  ·rw [if_neg z,if_neg z]
   have hne:x.toNat ≠ y:=λ h=>z h.symm
   refine ⟨⟨ZC6 w (hx x h) hy,ZCA hne⟩,⟨ZC6 w (hx x h) hy,ZCA hne⟩,?_⟩
   rcases ZHn (r:=r) (ts:=ts) (tn:=tn) hk (R:=R) hne with h | h
   ·exact .inl (congrArg Prod.snd h)
   ·exact .inr h⟩
 have k1:∀ lo:List Int,HsL ts.length ((le ++ co).foldl (λ (R:Rw) (x:Int)=>ZAK ⟨r,ts,tn,lo⟩ x.toNat R) ⟨ZAN fa le co hs,[]⟩).hs:=λ lo=>(ZBs (f:=λ (R:Rw) (x:Int)=>ZAK ⟨r,ts,tn,lo⟩ x.toNat R) (n:=ts.length) (m:=ts.length) wd λ x h R w=>ZCB (e:=⟨r,ts,tn,lo⟩) w (hx x h)).1
 have k2:∀ lo:List Int,HsL ts.length (le.foldl (λ hs x=>ZBa x.toNat hs) ((le ++ co).foldl (λ (R:Rw) (x:Int)=>ZAK ⟨r,ts,tn,lo⟩ x.toNat R) ⟨ZAN fa le co hs,[]⟩).hs):=λ lo=>ZEM (L:=le) (k1 lo) λ x h=>hx x (List.mem_append_left _ h)
 unfold ZBG
 rcases p1 with h | h
 ·dsimp only
  rw [← h]
  exact ZDD (n:=ts.length) (e:=⟨r,ts,tn,lo⟩) (e':=⟨r,ts,tn,lo'⟩) (f:=λ R a=>ZBZ ⟨r,ts,tn,lo⟩ a R) (f':=λ R a=>ZBZ ⟨r,ts,tn,lo'⟩ a R) (k2 lo) λ a ha R w=>⟨tr lo a ha R w,tr lo' a ha R w,by
   have ha':=List.mem_range.mp ha
   have e1:ZIL ⟨r,ts,tn,lo'⟩ a R.hs=ZIL ⟨r,ts,tn,lo⟩ a R.hs:=rfl
   unfold ZBZ
   rw [e1]
   split
   ·exact ZDD (n:=ts.length) (e:=⟨r,ts,tn,lo⟩) (e':=⟨r,ts,tn,lo'⟩) (f:=λ R b=>ZDM ⟨r,ts,tn,lo⟩ a b R) (f':=λ R b=>ZDM ⟨r,ts,tn,lo'⟩ a b R) w λ b hb R w=>by
     have hb1:=ZAw (e:=⟨r,ts,tn,lo⟩) n2 ha' hb
     exact ⟨⟨(ZDa (e:=⟨r,ts,tn,lo⟩) ho w ha' hb1.1 hb1.2).1,ZDf w ha' hb1.1 hb1.2⟩,⟨(ZDa (e:=⟨r,ts,tn,lo'⟩) ho w ha' hb1.1 hb1.2).1,ZDf w ha' hb1.1 hb1.2⟩,ZK1 hk w ha' hb1.1 hb1.2⟩
   ·exact .inl rfl⟩
 ·exact Pre.more h (ZEr (e:=⟨r,ts,tn,lo⟩) ho n2 (k2 lo)).ext (ZEr (e:=⟨r,ts,tn,lo'⟩) ho n2 (k2 lo')).ext
end
theorem ZLs {le:List Int}:∀ {hs:List Hs} {a:Nat},a < hs.length->(∀ k ∈ le,0<=k)->((le.foldl (λ hs x=>ZBa x.toNat hs) hs).getD a H0).1=if (a:Int) ∈ le then 0 else (hs.getD a H0).1:=by
 induction le with
 | nil=>intro hs a _ _; rfl
 | cons x le ih =>
  intro hs a ha hk
  rw [List.foldl_cons,ih (by unfold ZBa; rw [List.length_set]; exact ha) λ k h=>hk k (List.mem_cons_of_mem _ h)]
  have h0:=hk x (List.mem_cons_self ..)
  by_cases h1:(a:Int) ∈ le
  ·rw [if_pos h1,if_pos (List.mem_cons_of_mem _ h1)]
  ·rw [if_neg h1]
   by_cases h2:(a:Int)=x
   ·rw [if_pos (by rw [h2]; exact List.mem_cons_self ..)]
    unfold ZBa
    rw [List.getD_eq_getElem?_getD,show x.toNat=a by omega,List.getElem?_set_self ha]
    rfl
   ·rw [if_neg (λ z=>(List.mem_cons.mp z).elim h2 h1)]
    unfold ZBa
    rw [List.getD_eq_getElem?_getD,List.getElem?_set_ne (by omega),← List.getD_eq_getElem?_getD]
theorem ZNV {fa le co:List Int} {hs:List Hs} {a:Nat} (ha:a < hs.length):((ZAN fa le co hs).getD a H0).1=if (a:Int) ∈ fa then 0 else if (a:Int) ∈ le then (hs.getD a H0).1 else if (a:Int) ∈ co then 1 else (hs.getD a H0).1:=by
 unfold ZAN
 rw [List.getD_eq_getElem?_getD,List.getElem?_map,List.getElem?_range ha]
 show (doH fa le co a (hs.getD a H0)).1=_
 unfold doH
 simp only [List.contains_iff_mem]
 split
 ·rfl
 ·split
  ·rfl
  ·split <;> rfl
structure LtOk (ts:List (Int × Int)) (tn:Int) (hs:List Hs) (lo fa le co:List Int) (L:List Lt):Prop where
 fl:L.map (·.2.2)=ZIs lo L.length
 ne:∀ l ∈ L,l.1 ≠ l.2.1
 cut:∃ L1 L2,L=L1 ++ L2/\prL L1=((le ++ co).map (ZGP ts.length)).flatten/\(L2=[] ∨ ∃ l ex,L2=l :: ex/\∃ a:Nat,l.1=(a:Int)/\a < ts.length/\((a:Int) ∉ fa/\(a:Int) ∉ le/\((a:Int) ∈ co ∨ (hs.getD a H0).1=1))/\(tn - (ts.getD a (0,0)).2) % (ts.getD a (0,0)).1=0)
theorem ZNZ {r:Ru} {ts:List (Int × Int)} {tn:Int} {hs:List Hs} {lo fa le co:List Int} (ho : 0<=r.o/\r.o<=3) (n2 : 2<=ts.length) (w:HsL ts.length hs) (hle:∀ k ∈ le,0<=k/\k < ts.length) (hco:∀ k ∈ co,0<=k/\k < ts.length):LtOk ts tn hs lo fa le co (ZBG r ts tn hs lo fa le co).le:=by
 have hx:∀ x ∈ le ++ co,x.toNat < ts.length:=λ x hx=>by
  rcases List.mem_append.mp hx with h | h
  ·have:=hle x h; omega
  ·have:=hco x h; omega
 have h0:∀ x ∈ le ++ co,0<=x:=λ x hx=>by
  rcases List.mem_append.mp hx with h | h
  ·exact (hle x h).1
  ·exact (hco x h).1
 have wd:=ZFK (fa:=fa) (le:=le) (co:=co) w
 have g1:Grow ⟨r,ts,tn,lo⟩ ⟨ZAN fa le co hs,[]⟩ ((le ++ co).foldl (λ (R:Rw) (x:Int)=>ZAK ⟨r,ts,tn,lo⟩ x.toNat R) ⟨ZAN fa le co hs,[]⟩):=ZBk (n:=ts.length) (f:=λ (R:Rw) (x:Int)=>ZAK ⟨r,ts,tn,lo⟩ x.toNat R) wd λ x h R w=>⟨(ZCB (e:=⟨r,ts,tn,lo⟩) w (hx x h)).1,ZGs (e:=⟨r,ts,tn,lo⟩) w (hx x h)⟩
 have k1:HsL ts.length ((le ++ co).foldl (λ (R:Rw) (x:Int)=>ZAK ⟨r,ts,tn,lo⟩ x.toNat R) ⟨ZAN fa le co hs,[]⟩).hs:=(ZBs (f:=λ (R:Rw) (x:Int)=>ZAK ⟨r,ts,tn,lo⟩ x.toNat R) (n:=ts.length) (m:=ts.length) wd λ x h R w=>ZCB (e:=⟨r,ts,tn,lo⟩) w (hx x h)).1
 have p1:=ZH6 (e:=⟨r,ts,tn,lo⟩) (L:=le ++ co) (R:=⟨ZAN fa le co hs,[]⟩) h0
 generalize hR1:(le ++ co).foldl (λ (R:Rw) (x:Int)=>ZAK ⟨r,ts,tn,lo⟩ x.toNat R) ⟨ZAN fa le co hs,[]⟩=R1 at *
 have k2:=ZEM (L:=le) k1 λ x h=>hx x (List.mem_append_left _ h)
 have g2:=ZEr (e:=⟨r,ts,tn,lo⟩) (R:=⟨le.foldl (λ hs x=>ZBa x.toNat hs) R1.hs,R1.le⟩) ho n2 k2
 have hd:=ZMK (e:=⟨r,ts,tn,lo⟩) (R:=⟨le.foldl (λ hs x=>ZBa x.toNat hs) R1.hs,R1.le⟩) ho n2 k2
 have es:ZBG r ts tn hs lo fa le co=ZIB ⟨r,ts,tn,lo⟩ ⟨le.foldl (λ hs x=>ZBa x.toNat hs) R1.hs,R1.le⟩:=by
  unfold ZBG
  dsimp only
  rw [hR1]
 rw [es]
 obtain ⟨a1,e1,n1⟩:=g1.ex
 obtain ⟨a2,e2,n2'⟩:=g2.ex
 have e1:R1.le=a1:=e1
 have e2:(ZIB ⟨r,ts,tn,lo⟩ ⟨le.foldl (λ hs x=>ZBa x.toNat hs) R1.hs,R1.le⟩).le=R1.le ++ a2:=e2
 refine ⟨g2.fl (g1.fl rfl),λ l hl=>?_,R1.le,a2,e2,p1,?_⟩
 ·rw [e2,e1] at hl
  exact (List.mem_append.mp hl).elim (n1 l) (n2' l)
 ·rcases hd with z | ⟨l,ex,z,a,ha1,ha2,ha3⟩
  ·left
   rw [e2] at z
   have z:R1.le ++ a2=R1.le:=z
   simpa using z
  ·right
   rw [e2] at z
   have z:R1.le ++ a2=R1.le ++ l :: ex:=z
   refine ⟨l,ex,List.append_cancel_left z,a,ha1,ha2,?_⟩
   unfold ZIL ZOo at ha3
   rw [Bool.and_eq_true,Bool.and_eq_true] at ha3
   have hu:=of_decide_eq_true ha3.1
   have ha2:a < ts.length:=ha2
   have hu:((le.foldl (λ hs x=>ZBa x.toNat hs) R1.hs).getD a H0).1=1:=hu
   rw [ZLs (by rw [k1.len]; exact ha2) λ k hk=>(hle k hk).1,ZI3 g1.up a,show (⟨ZAN fa le co hs,[]⟩:Rw).hs=ZAN fa le co hs from rfl,ZNV (by rw [w.len]; exact ha2)] at hu
   refine ⟨?_,of_decide_eq_true ha3.2.2⟩
   by_cases h1:(a:Int) ∈ le
   ·rw [if_pos h1] at hu; cases hu
   ·rw [if_neg h1] at hu
    by_cases h2:(a:Int) ∈ fa
    ·rw [if_pos h2] at hu; cases hu
    ·rw [if_neg h2] at hu
     rw [if_neg h1] at hu
     refine ⟨h2,h1,?_⟩
     by_cases h3:(a:Int) ∈ co
     ·exact .inl h3
     ·rw [if_neg h3] at hu
      exact .inr hu
end L2
namespace L2
open PySem PySem.Spec PyProof.Rows H1
section
variable {e:En} {n:Nat}
end
end L2
namespace L2
open PySem PySem.Spec PyProof.Rows H1
section
variable {e:En} {n:Nat}
end
end L2
namespace L2
open PySem PySem.Spec PyProof.Rows H1
section
variable {e:En}
end
end L2
namespace L2
open PySem PySem.Spec PyProof.Rows H1
section
variable {X:Cx}
end
section
variable {sd:Sd} {g:G} {P:W->G->Prop} {d:DE}
end
section
variable {X:Cx}
end
section
variable {g:G} {P:W->G->Prop}
end
end L2
namespace L2
open PySem PySem.Spec PyProof.Rows H1
section
variable {K:PySem.W.Frag} {ρ ρ':Rh} {H:Hp}
end
section
variable {X:Cx} {tg elt iter:Expr} {ifs:List Expr} {scope sc:Scope} {pos:Pos} {di:DI} {pt:Pat} {dt:DB} {de:DE} {N NX:List Str} {own:Nat} {cap:List Nat}
end
section
variable {sd:Sd} {g:G} {P:W->G->Prop}
end
end L2
namespace L2
open PySem PySem.Spec PyProof.Rows H1
section
variable {K:PySem.W.Frag} {ρ ρ':Rh} {H H':Hp} {J:It} {n:Nat}
end
section
variable {X:Cx} {tg elt iter:Expr} {ifs:List Expr} {scope sc:Scope} {pos:Pos} {di:DIW} {pt:Pat} {dt:DB} {de:DE} {N NX:List Str} {own:Nat} {cap:List Nat}
end
section
variable {sd:Sd} {g:G} {P:W->G->Prop}
end
end L2
namespace L2
open PySem PySem.Spec PyProof.Rows H1
section
variable {X:Cx} {pos:Pos}
end
section
variable {X:Cx} {tg elt iter:Expr} {ifs:List Expr} {scope sc:Scope} {pos:Pos} {di:DIW} {pt:Pat} {dt:DB} {de:DE} {N NX:List Str} {own:Nat} {cap:List Nat}
end
section
variable {X:Cx} {tg:Expr} {pos:Pos}
end
section
variable {sd:Sd} {g:G} {dl di d:DE} {aa:DA} {PS':Out->Prop} {P:W->G->Prop}
end
end L2
namespace K31
open PySem PySem.Spec PyProof.Rows L2 H1
abbrev ZV:CD:=⟨"Road",["rules","town","state","lost","letters"]⟩
def top (i:Nat):Stmt:=PySem.Challenge.pw_hearsaybook_k31_letters_in_order.main.body.getD i (.Pass ⟨0,0,0,0⟩)
structure Adr where
 (c_Road:Addr)
 (f_put f_newer f_ticks f_ticks_by f_target f_notes_of f_due_houses f_news_houses f_taken f_refuted f_noted f_gives_way f_posted f_with_house f_asks_any f_asked_in_order f_asks_now f_is_about f_ways f_helpers f_judged f_stepped f_done f_write_to_all f_stop f_ask_all f_is_answered f_comes_through f__law_box f__law_take f__law_rules f__law_town f__law_state f__law_lost f__law_doings f__law_askers f__law_right f_Road____init__ f_Road__sends:Addr)
 (fd_put fd_newer fd_ticks fd_ticks_by fd_target fd_notes_of fd_due_houses fd_news_houses fd_taken fd_refuted fd_noted fd_gives_way fd_posted fd_with_house fd_asks_any fd_asked_in_order fd_asks_now fd_is_about fd_ways fd_helpers fd_judged fd_stepped fd_done fd_write_to_all fd_stop fd_ask_all fd_is_answered fd_comes_through fd__law_box fd__law_take fd__law_rules fd__law_town fd__law_state fd__law_lost fd__law_doings fd__law_askers fd__law_right fd_Road____init__ fd_Road__sends:FuncData)
structure Txt (K:PySem.W.Frag) (mg:Str->Option Value) (A:Adr):Prop where
 z_abs:mg "abs" = none
 z_all:mg "all" = none
 z_enumerate:mg "enumerate" = none
 z_int:mg "int" = none
 z_len:mg "len" = none
 z_min:mg "min" = none
 z_range:mg "range" = none
 z_sorted:mg "sorted" = none
 z_tuple:mg "tuple" = none
 g_ALIVE:ZIp mg "ALIVE" 0
 g_SUSPECT:ZIp mg "SUSPECT" 1
 g_GONE:ZIp mg "GONE" 2
 g_LEFT:ZIp mg "LEFT" 3
 k_Road:Kls K mg ZV A.c_Road
 m_Road:Mk K A.c_Road A.f_Road____init__
 D_put:Def K mg "put" (top 1) ["things","place","thing"] A.f_put A.fd_put
 D_newer:Def K mg "newer" (top 7) ["one","other"] A.f_newer A.fd_newer
 D_ticks:Def K mg "ticks" (top 9) ["town","house","turn"] A.f_ticks A.fd_ticks
 D_ticks_by:Def K mg "ticks_by" (top 10) ["town","house","turn"] A.f_ticks_by A.fd_ticks_by
 D_target:Def K mg "target" (top 11) ["town","house","turn"] A.f_target A.fd_target
 D_notes_of:Def K mg "notes_of" (top 13) ["rules","town","state","x","y"] A.f_notes_of A.fd_notes_of
 D_due_houses:Def K mg "due_houses" (top 14) ["rules","town","turn","x","y"] A.f_due_houses A.fd_due_houses
 D_news_houses:Def K mg "news_houses" (top 15) ["rules","told","x","due"] A.f_news_houses A.fd_news_houses
 D_taken:Def K mg "taken" (top 16) ["rules","house","y","notes"] A.f_taken A.fd_taken
 D_refuted:Def K mg "refuted" (top 17) ["rules","house","y","word"] A.f_refuted A.fd_refuted
 D_noted:Def K mg "noted" (top 18) ["rules","house","about","word"] A.f_noted A.fd_noted
 D_gives_way:Def K mg "gives_way" (top 19) ["rules","old","word"] A.f_gives_way A.fd_gives_way
 D_posted:Def K mg "posted" (top 21) ["rules","town","state","x","y"] A.f_posted A.fd_posted
 D_with_house:Def K mg "with_house" (top 22) ["state","at","house"] A.f_with_house A.fd_with_house
 D_asks_any:Def K mg "asks_any" (top 23) ["town","state","a"] A.f_asks_any A.fd_asks_any
 D_asked_in_order:Def K mg "asked_in_order" (top 24) ["town","turn","a"] A.f_asked_in_order A.fd_asked_in_order
 D_asks_now:Def K mg "asks_now" (top 25) ["rules","town","state","a","b"] A.f_asks_now A.fd_asks_now
 D_is_about:Def K mg "is_about" (top 26) ["book","house"] A.f_is_about A.fd_is_about
 D_ways:Def K mg "ways" (top 27) ["rules","state","a","b"] A.f_ways A.fd_ways
 D_helpers:Def K mg "helpers" (top 28) ["rules","book","a","b"] A.f_helpers A.fd_helpers
 D_judged:Def K mg "judged" (top 29) ["rules","state","a","b","answered"] A.f_judged A.fd_judged
 D_stepped:Def K mg "stepped" (top 32) ["rules","town","state","doings"] A.f_stepped A.fd_stepped
 D_done:Def K mg "done" (top 33) ["houses","doings"] A.f_done A.fd_done
 D_write_to_all:Def K mg "write_to_all" (top 34) ["road","x"] A.f_write_to_all A.fd_write_to_all
 D_stop:Def K mg "stop" (top 35) ["road","x"] A.f_stop A.fd_stop
 D_ask_all:Def K mg "ask_all" (top 36) ["road","a"] A.f_ask_all A.fd_ask_all
 D_is_answered:Def K mg "is_answered" (top 37) ["road","a","b"] A.f_is_answered A.fd_is_answered
 D_comes_through:Def K mg "comes_through" (top 38) ["road","way"] A.f_comes_through A.fd_comes_through
 D__law_box:Def K mg "_law_box" (top 40) ["_law_script","_law_k"] A.f__law_box A.fd__law_box
 D__law_take:Def K mg "_law_take" (top 41) ["_law_box_here","_law_many"] A.f__law_take A.fd__law_take
 D__law_rules:Def K mg "_law_rules" (top 42) ["_law_box_here","_law_whole"] A.f__law_rules A.fd__law_rules
 D__law_town:Def K mg "_law_town" (top 43) ["_law_box_here","_law_most"] A.f__law_town A.fd__law_town
 D__law_state:Def K mg "_law_state" (top 44) ["_law_box_here","_law_rules_here","_law_town_here"] A.f__law_state A.fd__law_state
 D__law_lost:Def K mg "_law_lost" (top 45) ["_law_box_here","_law_most"] A.f__law_lost A.fd__law_lost
 D__law_doings:Def K mg "_law_doings" (top 46) ["_law_box_here","_law_state_here","_law_moves"] A.f__law_doings A.fd__law_doings
 D__law_askers:Def K mg "_law_askers" (top 47) ["_law_town_here","_law_state_here","_law_doings_here"] A.f__law_askers A.fd__law_askers
 D__law_right:Def K mg "_law_right" (top 48) ["_law_town_here","_law_state_here","_law_doings_here","_law_letters"] A.f__law_right A.fd__law_right
 D_Road____init__:MDef K A.c_Road "__init__" "Road.__init__" (ZCX (top 31) 0) ["self","rules","town","state","lost"] A.f_Road____init__ A.fd_Road____init__
 D_Road__sends:MDef K A.c_Road "sends" "Road.sends" (ZCX (top 31) 1) ["self","x","y"] A.f_Road__sends A.fd_Road__sends
@[reducible] noncomputable def ZLU:DS :=
 (Zd (dOp Z3 (dOp Z3 (dSl (ZD 0) ZAj (ZB2 (ZD 1))) (dF Z7 (ZC (ZD 2) ZL))) (dSl (ZD 0) (ZB2 (dOp Z3 (ZD 1) (dC (.int 1)))) ZAj)))
@[irreducible] noncomputable def ZAh:List W->G->Option (W × G):=ZAL 3 ZLU
theorem ZNv {a0 a1 a2:W} {g:G} {P:W->G->Prop} (h:EvS (ZLU [some a0,some a1,some a2] g) (runP P)):EvP (ZAh [a0,a1,a2] g) P:=by
 unfold ZAh
 exact Zl h
@[reducible] noncomputable def ZHi:DS :=
 (Zd (dOp ZLG (ZD 0) (ZD 1)))
@[irreducible] noncomputable def ZCN:List W->G->Option (W × G):=ZAL 2 ZHi
theorem ZKr {a0 a1:W} {g:G} {P:W->G->Prop} (h:EvS (ZHi [some a0,some a1] g) (runP P)):EvP (ZCN [a0,a1] g) P:=by
 unfold ZCN
 exact Zl h
@[reducible] noncomputable def ZHd:DS :=
 (ZP (ZAv (.tp (.cons (.nm 3) (.cons (.nm 4) .nil))) (dOp Zm (ZD 0) (ZD 1)))
 (Zd (ZEa (dOp ZPA (ZD 2) (ZD 4)) (dOp ZB0 (dOp ZCG (dOp ZEb (ZD 2) (ZD 4)) (ZD 3)) (dC (.int 0))))))
@[irreducible] noncomputable def ZDc:List W->G->Option (W × G):=ZAL 5 ZHd
theorem ZLR {a0 a1 a2:W} {g:G} {P:W->G->Prop} (h:EvS (ZHd [some a0,some a1,some a2,none,none] g) (runP P)):EvP (ZDc [a0,a1,a2] g) P:=by
 unfold ZDc
 exact Zl h
@[reducible] noncomputable def ZD2:DS :=
 (ZP (ZAv (.tp (.cons (.nm 3) (.cons (.nm 4) .nil))) (dOp Zm (ZD 0) (ZD 1)))
 (ZP (ZAE (dB (dOp ZGA (ZD 2) (ZD 4)))
 (Zd (dC (.int 0)))
 dNx)
 (Zd (dOp Z3 (dOp ZEo (dOp ZEb (ZD 2) (ZD 4)) (ZD 3)) (dC (.int 1))))))
@[irreducible] noncomputable def ZA2:List W->G->Option (W × G):=ZAL 5 ZD2
theorem ZH3 {a0 a1 a2:W} {g:G} {P:W->G->Prop} (h:EvS (ZD2 [some a0,some a1,some a2,none,none] g) (runP P)):EvP (ZA2 [a0,a1,a2] g) P:=by
 unfold ZA2
 exact Zl h
@[reducible] noncomputable def ZFb:DS :=
 (ZP (Zq 3 (dF (f1 ZCi) (ZC (ZD 0) ZL)))
 (ZP (Zq 4 (dOp ZEb (dF ZA2 (ZC (ZD 0) (ZC (ZD 1) (ZC (ZD 2) ZL)))) (dC (.int 1))))
 (Zd (dOp ZCG (dOp Z3 (dOp Z3 (ZD 1) (dC (.int 1))) (dOp ZCG (ZD 4) (dOp ZEb (ZD 3) (dC (.int 1))))) (ZD 3)))))
@[irreducible] noncomputable def ZBt:List W->G->Option (W × G):=ZAL 5 ZFb
theorem ZJz {a0 a1 a2:W} {g:G} {P:W->G->Prop} (h:EvS (ZFb [some a0,some a1,some a2,none,none] g) (runP P)):EvP (ZBt [a0,a1,a2] g) P:=by
 unfold ZBt
 exact Zl h
@[reducible] noncomputable def ZC0:DS :=
 (ZP (Zq 5 (dOp Zm (ZD 0) (dC (.int 4))))
 (ZP (Zq 6 (dF ZCW (ZC (ZD 4) ZL)))
 (ZP (ZAE (dB (dOp ZCl (dC (.str "own")) (ZD 5)))
 (ZAx (ZEH (ZD 6) (ZD 3)))
 dNx)
 (ZP (Zq 7 (dOp ZCG (dF ZA2 (ZC (ZD 1) (ZC (ZD 3) (ZC (ZD 2) ZL)))) (dF (f1 ZCi) (ZC (ZD 1) ZL))))
 (ZP (ZAE (ZCK (dB (dOp ZCl (dC (.str "about")) (ZD 5))) (dB (dOp ZBi (ZD 7) (ZD 3))))
 (ZAx (ZEH (ZD 6) (ZD 7)))
 dNx)
 (Zd (ZD 6)))))))
@[irreducible] noncomputable def ZAk:List W->G->Option (W × G):=ZAL 8 ZC0
theorem ZGT {a0 a1 a2 a3 a4:W} {g:G} {P:W->G->Prop} (h:EvS (ZC0 [some a0,some a1,some a2,some a3,some a4,none,none,none] g) (runP P)):EvP (ZAk [a0,a1,a2,a3,a4] g) P:=by
 unfold ZAk
 exact Zl h
@[reducible] noncomputable def ZCd:DS :=
 (ZP (ZAv (.tp (.cons (.nm 4) (.cons (.nm 5) (.cons (.nm 6) (.cons (.nm 7) (.cons (.nm 8) .nil)))))) (ZD 0))
 (ZP (Zq 9 (ZAa 2 [6,2,3] (.tp (.cons (.nm 0) (.cons (.nm 1) .nil))) (ZC1 (ZC (ZD 1) ZL)) (ZCK (dB (dOp ZGA (ZD 1) (ZD 2))) (ZCK (dB (dOp ZBi (ZD 0) (ZD 3))) (dB (dOp ZB9 (ZD 0) (ZD 4))))) (dF Z7 (ZC (ZD 1) (ZC (ZD 0) ZL)))))
 (Zd (ZAa 2 [] (.tp (.cons (.nm 0) (.cons (.nm 1) .nil))) (ZCf (dSl (dF (f1 ZHg) (ZC (ZD 9) ZL)) ZAj (ZB2 (ZD 7)))) ZDk (ZD 1)))))
@[irreducible] noncomputable def ZAT:List W->G->Option (W × G):=ZAL 10 ZCd
theorem ZFy {a0 a1 a2 a3:W} {g:G} {P:W->G->Prop} (h:EvS (ZCd [some a0,some a1,some a2,some a3,none,none,none,none,none,none] g) (runP P)):EvP (ZAT [a0,a1,a2,a3] g) P:=by
 unfold ZAT
 exact Zl h
@[reducible] noncomputable def ZD0:DS :=
 (ZP (ZAv (.tp (.cons (.nm 5) (.cons (.nm 6) .nil))) (ZD 2))
 (ZP (ZAv (.tp (.cons (.nm 7) (.cons (.nm 8) (.cons (.nm 9) (.cons (.nm 10) .nil))))) (dOp Zm (ZD 6) (ZD 3)))
 (ZP (Zq 11 (dF ZAk (ZC (ZD 0) (ZC (ZD 1) (ZC (ZD 5) (ZC (ZD 3) (ZC (ZD 4) ZL)))))))
 (ZP (Zq 12 (dF ZAT (ZC (ZD 0) (ZC (ZD 9) (ZC (ZD 3) (ZC (ZD 11) ZL))))))
 (ZP (Zq 13 (dF (f1 ZDR) (ZC (ZAa 2 [11,12] (.tp (.cons (.nm 0) (.cons (.nm 1) .nil))) (ZC1 (ZC (ZD 8) ZL)) (dOr (dB (dOp ZCl (ZD 0) (ZD 2))) (dB (dOp ZCl (ZD 0) (ZD 3)))) (dF Z7 (ZC (ZD 0) (ZC (ZD 1) ZL)))) ZL)))
 (ZP (ZCn (.nm 14) (ZCf (ZD 12))
 (Zq 9 (dF ZAh (ZC (ZD 9) (ZC (ZD 14) (ZC (dOp Z3 (dOp Zm (ZD 9) (ZD 14)) (dC (.int 1))) ZL))))))
 (Zd (dF Z7 (ZC (ZD 13) (ZC (ZD 9) ZL))))))))))
@[irreducible] noncomputable def ZBO:List W->G->Option (W × G):=ZAL 15 ZD0
theorem ZHw {a0 a1 a2 a3 a4:W} {g:G} {P:W->G->Prop} (h:EvS (ZD0 [some a0,some a1,some a2,some a3,some a4,none,none,none,none,none,none,none,none,none,none] g) (runP P)):EvP (ZBO [a0,a1,a2,a3,a4] g) P:=by
 unfold ZBO
 exact Zl h
@[reducible] noncomputable def ZEj:DS :=
 (ZP (ZAv (.tp (.cons (.nm 4) (.cons (.nm 5) (.cons (.nm 6) (.cons (.nm 7) .nil))))) (ZD 1))
 (ZP (ZAE (ZCK (dB (dOp ZB0 (ZD 4) (dC (.int 1)))) (ZCK (dB (dOp ZCl (dC (.str "refute")) (dOp Zm (ZD 0) (dC (.int 4))))) (dB (dF ZCN (ZC (ZD 3) (ZC (dOp Zm (ZD 5) (ZD 2)) ZL))))))
 (ZP (ZAv (.tp (.cons (.nm 8) (.cons (.nm 9) .nil))) (ZD 3))
 (Zd (dF Z7 (ZC (ZD 4) (ZC (dF ZAh (ZC (ZD 5) (ZC (ZD 2) (ZC (dF Z7 (ZC (dOp Z3 (ZD 8) (dC (.int 1))) (ZC (dC (.int 0)) ZL))) ZL)))) (ZC (dF ZAh (ZC (ZD 6) (ZC (ZD 2) (ZC (dC (.int 0)) ZL)))) (ZC (ZD 7) ZL)))))))
 dNx)
 (Zd (ZD 1))))
@[irreducible] noncomputable def ZBP:List W->G->Option (W × G):=ZAL 10 ZEj
theorem ZJH {a0 a1 a2 a3:W} {g:G} {P:W->G->Prop} (h:EvS (ZEj [some a0,some a1,some a2,some a3,none,none,none,none,none,none] g) (runP P)):EvP (ZBP [a0,a1,a2,a3] g) P:=by
 unfold ZBP
 exact Zl h
@[reducible] noncomputable def ZDJ:DS :=
 (ZP (ZAE (dB (dOp ZCl (dC (.str "newer")) (dOp Zm (ZD 0) (dC (.int 4)))))
 (Zd (dF ZCN (ZC (ZD 2) (ZC (ZD 1) ZL))))
 dNx)
 (Zd (dOp ZBi (ZD 2) (ZD 1))))
@[irreducible] noncomputable def ZA4:List W->G->Option (W × G):=ZAL 3 ZDJ
theorem ZGw {a0 a1 a2:W} {g:G} {P:W->G->Prop} (h:EvS (ZDJ [some a0,some a1,some a2] g) (runP P)):EvP (ZA4 [a0,a1,a2] g) P:=by
 unfold ZA4
 exact Zl h
@[reducible] noncomputable def ZHZ:DS :=
 (ZP (ZAv (.tp (.cons (.nm 4) (.cons (.nm 5) (.cons (.nm 6) (.cons (.nm 7) .nil))))) (ZD 1))
 (ZP (ZAE (ZHR (dB (dF ZA4 (ZC (ZD 0) (ZC (dOp Zm (ZD 5) (ZD 2)) (ZC (ZD 3) ZL))))))
 (Zd (ZD 1))
 dNx)
 (ZP (ZAv (.tp (.cons (.nm 8) (.cons (.nm 9) .nil))) (ZD 3))
 (ZP (ZAE (dB (dOp ZBi (ZD 9) (dC (.int 1))))
 (Zq 7 (dF ZAh (ZC (ZD 7) (ZC (ZD 2) (ZC (dC (.int 0)) ZL)))))
 dNx)
 (Zd (dF Z7 (ZC (ZD 4) (ZC (dF ZAh (ZC (ZD 5) (ZC (ZD 2) (ZC (ZD 3) ZL)))) (ZC (dF ZAh (ZC (ZD 6) (ZC (ZD 2) (ZC (dC (.int 0)) ZL)))) (ZC (ZD 7) ZL))))))))))
@[irreducible] noncomputable def ZCO:List W->G->Option (W × G):=ZAL 10 ZHZ
theorem ZLD {a0 a1 a2 a3:W} {g:G} {P:W->G->Prop} (h:EvS (ZHZ [some a0,some a1,some a2,some a3,none,none,none,none,none,none] g) (runP P)):EvP (ZCO [a0,a1,a2,a3] g) P:=by
 unfold ZCO
 exact Zl h
@[reducible] noncomputable def ZHP:DS :=
 (ZP (ZCn (.tp (.cons (.nm 4) (.cons (.nm 5) .nil))) (ZCf (ZD 3))
 (ZAE (dB (dOp ZB0 (ZD 4) (ZD 2)))
 (Zq 1 (dF ZBP (ZC (ZD 0) (ZC (ZD 1) (ZC (ZD 2) (ZC (ZD 5) ZL))))))
 (Zq 1 (dF ZCO (ZC (ZD 0) (ZC (ZD 1) (ZC (ZD 4) (ZC (ZD 5) ZL))))))))
 (Zd (ZD 1)))
@[irreducible] noncomputable def ZCz:List W->G->Option (W × G):=ZAL 6 ZHP
theorem ZKl {a0 a1 a2 a3:W} {g:G} {P:W->G->Prop} (h:EvS (ZHP [some a0,some a1,some a2,some a3,none,none] g) (runP P)):EvP (ZCz [a0,a1,a2,a3] g) P:=by
 unfold ZCz
 exact Zl h
@[reducible] noncomputable def ZCp:DS :=
 (ZP (ZAv (.tp (.cons (.nm 3) (.cons (.nm 4) .nil))) (ZD 0))
 (Zd (dF Z7 (ZC (ZD 3) (ZC (dF ZAh (ZC (ZD 4) (ZC (ZD 1) (ZC (ZD 2) ZL)))) ZL)))))
@[irreducible] noncomputable def Zx:List W->G->Option (W × G):=ZAL 5 ZCp
theorem ZGC {a0 a1 a2:W} {g:G} {P:W->G->Prop} (h:EvS (ZCp [some a0,some a1,some a2,none,none] g) (runP P)):EvP (Zx [a0,a1,a2] g) P:=by
 unfold Zx
 exact Zl h
@[reducible] noncomputable def ZFs:DS :=
 (ZP (ZAv (.tp (.cons (.nm 5) (.cons (.nm 6) .nil))) (ZD 2))
 (ZP (ZAv (.tp (.cons (.nm 7) (.cons (.nm 8) .nil))) (dF ZBO (ZC (ZD 0) (ZC (ZD 1) (ZC (ZD 2) (ZC (ZD 3) (ZC (ZD 4) ZL)))))))
 (ZP (ZAv (.tp (.cons (.nm 9) (.cons (.nm 10) (.cons (.nm 11) (.cons (.nm 12) .nil))))) (dOp Zm (ZD 6) (ZD 3)))
 (ZP (Zq 13 (dF Z7 (ZC (ZD 5) (ZC (dF ZAh (ZC (ZD 6) (ZC (ZD 3) (ZC (dF Z7 (ZC (ZD 9) (ZC (ZD 10) (ZC (ZD 8) (ZC (ZD 12) ZL))))) ZL)))) ZL))))
 (ZP (ZAE (dB (dOp ZB0 (dOp Zm (dOp Zm (ZD 6) (ZD 4)) (dC (.int 0))) (dC (.int 0))))
 (Zd (dF Z7 (ZC (ZD 13) (ZC (dC .none) ZL))))
 dNx)
 (Zd (dF Z7 (ZC (ZD 13) (ZC (dF Zx (ZC (ZD 13) (ZC (ZD 4) (ZC (dF ZCz (ZC (ZD 0) (ZC (dOp Zm (ZD 6) (ZD 4)) (ZC (ZD 4) (ZC (ZD 7) ZL))))) ZL)))) ZL)))))))))
@[irreducible] noncomputable def ZCC:List W->G->Option (W × G):=ZAL 14 ZFs
theorem ZJu {a0 a1 a2 a3 a4:W} {g:G} {P:W->G->Prop} (h:EvS (ZFs [some a0,some a1,some a2,some a3,some a4,none,none,none,none,none,none,none,none,none] g) (runP P)):EvP (ZCC [a0,a1,a2,a3,a4] g) P:=by
 unfold ZCC
 exact Zl h
@[reducible] noncomputable def ZDt:DS :=
 (ZP (ZAv (.tp (.cons (.nm 3) (.cons (.nm 4) .nil))) (ZD 1))
 (Zd (ZEa (dOp ZB0 (dOp Zm (dOp Zm (ZD 4) (ZD 2)) (dC (.int 0))) (dC (.int 1))) (dF ZDc (ZC (ZD 0) (ZC (ZD 2) (ZC (ZD 3) ZL)))))))
@[irreducible] noncomputable def ZA5:List W->G->Option (W × G):=ZAL 5 ZDt
theorem ZIU {a0 a1 a2:W} {g:G} {P:W->G->Prop} (h:EvS (ZDt [some a0,some a1,some a2,none,none] g) (runP P)):EvP (ZA5 [a0,a1,a2] g) P:=by
 unfold ZA5
 exact Zl h
@[reducible] noncomputable def ZBj:DS :=
 (ZP (Zq 3 (dF ZBt (ZC (ZD 0) (ZC (ZD 2) (ZC (ZD 1) ZL)))))
 (Zd (dOp Z3 (dF ZEW (ZC (ZD 3) ZL)) (ZAa 1 [2,3] (.nm 0) (ZAI (ZC (dF (f1 ZCi) (ZC (ZD 0) ZL)) ZL)) (ZCK (dB (dOp ZBi (ZD 0) (ZD 1))) (dB (dOp ZBi (ZD 0) (ZD 2)))) (ZD 0)))))
@[irreducible] noncomputable def Z5:List W->G->Option (W × G):=ZAL 4 ZBj
theorem ZEE {a0 a1 a2:W} {g:G} {P:W->G->Prop} (h:EvS (ZBj [some a0,some a1,some a2,none] g) (runP P)):EvP (Z5 [a0,a1,a2] g) P:=by
 unfold Z5
 exact Zl h
@[reducible] noncomputable def ZED:DS :=
 (ZP (ZAv (.tp (.cons (.nm 2) (.cons (.nm 3) .nil))) (dOp Zm (ZD 0) (ZD 1)))
 (Zd (dOp ZGA (ZD 3) (dC (.int 2)))))
@[irreducible] noncomputable def ZAl:List W->G->Option (W × G):=ZAL 4 ZED
theorem ZHk {a0 a1:W} {g:G} {P:W->G->Prop} (h:EvS (ZED [some a0,some a1,none,none] g) (runP P)):EvP (ZAl [a0,a1] g) P:=by
 unfold ZAl
 exact Zl h
@[reducible] noncomputable def ZDw:DS :=
 (ZP (ZAv (.tp (.cons (.nm 5) (.cons (.nm 6) .nil))) (ZD 2))
 (ZP (ZAv (.tp (.cons (.nm 7) (.cons (.nm 8) (.cons (.nm 9) (.cons (.nm 10) .nil))))) (dOp Zm (ZD 6) (ZD 3)))
 (ZP (ZAE (dB (dOp ZB0 (ZD 4) (dF ZBt (ZC (ZD 1) (ZC (ZD 3) (ZC (ZD 5) ZL))))))
 (Zd (ZIC (dOp ZCl (dC (.str "again")) (dOp Zm (ZD 0) (dC (.int 4)))) (dF ZAl (ZC (ZD 8) (ZC (ZD 4) ZL)))))
 dNx)
 (Zd (dOp ZLG (dOp Zm (ZD 10) (ZD 4)) (dC (.int 0)))))))
@[irreducible] noncomputable def ZA3:List W->G->Option (W × G):=ZAL 11 ZDw
theorem ZHx {a0 a1 a2 a3 a4:W} {g:G} {P:W->G->Prop} (h:EvS (ZDw [some a0,some a1,some a2,some a3,some a4,none,none,none,none,none,none] g) (runP P)):EvP (ZA3 [a0,a1,a2,a3,a4] g) P:=by
 unfold ZA3
 exact Zl h
@[reducible] noncomputable def ZEq:DS :=
 (ZP (Zq 4 (dF (f1 ZCi) (ZC (ZD 1) ZL)))
 (ZP (Zq 5 (ZAa 1 [4,2] (.nm 0) (ZAI (ZC (dC (.int 1)) (ZC (ZD 4) ZL))) ZDk (dOp ZCG (dOp Z3 (ZD 2) (ZD 0)) (ZD 1))))
 (Zd (dSl (ZAa 1 [3,1] (.nm 0) (ZCf (ZD 5)) (ZCK (dB (dOp ZBi (ZD 0) (ZD 1))) (dB (dF ZAl (ZC (ZD 2) (ZC (ZD 0) ZL))))) (ZD 0)) ZAj (ZB2 (dOp Zm (ZD 0) (dC (.int 0))))))))
@[irreducible] noncomputable def ZBf:List W->G->Option (W × G):=ZAL 6 ZEq
theorem ZI4 {a0 a1 a2 a3:W} {g:G} {P:W->G->Prop} (h:EvS (ZEq [some a0,some a1,some a2,some a3,none,none] g) (runP P)):EvP (ZBf [a0,a1,a2,a3] g) P:=by
 unfold ZBf
 exact Zl h
@[reducible] noncomputable def ZIl:DS :=
 (ZP (ZAv (.tp (.cons (.nm 4) (.cons (.nm 5) .nil))) (ZD 1))
 (ZP (ZAv (.tp (.cons (.nm 6) (.cons (.nm 7) (.cons (.nm 8) (.cons (.nm 9) .nil))))) (dOp Zm (ZD 5) (ZD 2)))
 (ZP (Zq 10 (dF ZCW (ZC (dF Z7 (ZC (dF Z7 (ZC (ZD 2) (ZC (ZD 3) ZL))) (ZC (dF Z7 (ZC (ZD 3) (ZC (ZD 2) ZL))) ZL))) ZL)))
 (ZP (ZAE (ZCK (dB (dOp ZCl (dC (.str "others")) (dOp Zm (ZD 0) (dC (.int 4))))) (dB (dF ZAl (ZC (ZD 7) (ZC (ZD 3) ZL)))))
 (ZGb 10 (ZAa 1 [2,3] (.nm 0) (ZCf (dF ZBf (ZC (ZD 0) (ZC (ZD 7) (ZC (ZD 2) (ZC (ZD 3) ZL)))))) ZDk (dF Z7 (ZC (dF Z7 (ZC (ZD 1) (ZC (ZD 0) ZL))) (ZC (dF Z7 (ZC (ZD 0) (ZC (ZD 2) ZL))) (ZC (dF Z7 (ZC (ZD 2) (ZC (ZD 0) ZL))) (ZC (dF Z7 (ZC (ZD 0) (ZC (ZD 1) ZL))) ZL)))))))
 dNx)
 (Zd (ZD 10))))))
@[irreducible] noncomputable def ZEA:List W->G->Option (W × G):=ZAL 11 ZIl
theorem ZMN {a0 a1 a2 a3:W} {g:G} {P:W->G->Prop} (h:EvS (ZIl [some a0,some a1,some a2,some a3,none,none,none,none,none,none,none] g) (runP P)):EvP (ZEA [a0,a1,a2,a3] g) P:=by
 unfold ZEA
 exact Zl h
@[reducible] noncomputable def ZFn:DS :=
 (ZP (ZAv (.tp (.cons (.nm 5) (.cons (.nm 6) .nil))) (ZD 1))
 (ZP (ZAv (.tp (.cons (.nm 7) (.cons (.nm 8) (.cons (.nm 9) (.cons (.nm 10) .nil))))) (dOp Zm (ZD 6) (ZD 2)))
 (ZP (ZAv (.tp (.cons (.nm 11) (.cons (.nm 12) .nil))) (dOp Zm (ZD 8) (ZD 3)))
 (ZP (ZAE (dB (ZD 4))
 (Zq 10 (dF ZAh (ZC (ZD 10) (ZC (ZD 3) (ZC (dC (.int 0)) ZL)))))
 (ZAE (ZCK (dB (dOp ZGA (ZD 12) (dC (.int 2)))) (dOr (dB (dOp ZB9 (dC (.str "wait")) (dOp Zm (ZD 0) (dC (.int 4))))) (dB (dOp ZB0 (dOp Zm (ZD 10) (ZD 3)) (dC (.int 1))))))
 (ZGX 8 9 10 (ZC (dF ZAh (ZC (ZD 8) (ZC (ZD 3) (ZC (dF Z7 (ZC (ZD 11) (ZC (dC (.int 2)) ZL))) ZL)))) (ZC (dF ZAh (ZC (ZD 9) (ZC (ZD 3) (ZC (dC (.int 0)) ZL)))) (ZC (dF ZAh (ZC (ZD 10) (ZC (ZD 3) (ZC (dC (.int 0)) ZL)))) ZL))))
 (ZAE (ZCK (dB (dOp ZGA (ZD 12) (dC (.int 2)))) (dB (dOp ZB0 (dOp Zm (ZD 10) (ZD 3)) (dC (.int 0)))))
 (ZP (ZAE (dB (dOp ZB0 (ZD 12) (dC (.int 0))))
 (ZKv 8 9 (ZC (dF ZAh (ZC (ZD 8) (ZC (ZD 3) (ZC (dF Z7 (ZC (ZD 11) (ZC (dC (.int 1)) ZL))) ZL)))) (ZC (dF ZAh (ZC (ZD 9) (ZC (ZD 3) (ZC (dC (.int 0)) ZL)))) ZL)))
 dNx)
 (Zq 10 (dF ZAh (ZC (ZD 10) (ZC (ZD 3) (ZC (dOp Zm (ZD 0) (dC (.int 1))) ZL))))))
 (ZAE (dB (dOp ZGA (ZD 12) (dC (.int 2))))
 (Zq 10 (dF ZAh (ZC (ZD 10) (ZC (ZD 3) (ZC (dOp ZEb (dOp Zm (ZD 10) (ZD 3)) (dC (.int 1))) ZL)))))
 dNx))))
 (Zd (dF Zx (ZC (ZD 1) (ZC (ZD 2) (ZC (dF Z7 (ZC (ZD 7) (ZC (ZD 8) (ZC (ZD 9) (ZC (ZD 10) ZL))))) ZL)))))))))
@[irreducible] noncomputable def ZBp:List W->G->Option (W × G):=ZAL 13 ZFn
theorem ZJt {a0 a1 a2 a3 a4:W} {g:G} {P:W->G->Prop} (h:EvS (ZFn [some a0,some a1,some a2,some a3,some a4,none,none,none,none,none,none,none,none] g) (runP P)):EvP (ZBp [a0,a1,a2,a3,a4] g) P:=by
 unfold ZBp
 exact Zl h
@[reducible] noncomputable def ZBd:DS :=
 (ZP (ZCQ ZV 0 (ZD 0) (ZD 1))
 (ZP (ZCQ ZV 1 (ZD 0) (ZD 2))
 (ZP (ZCQ ZV 2 (ZD 0) (ZD 3))
 (ZP (ZCQ ZV 3 (ZD 0) (ZD 4))
 (ZCQ ZV 4 (ZD 0) (dF ZCW ZL))))))
@[irreducible] noncomputable def Z6:List W->G->Option (W × G):=ZAL 5 ZBd
theorem ZEI {a0 a1 a2 a3 a4:W} {g:G} {P:W->G->Prop} (h:EvS (ZBd [some a0,some a1,some a2,some a3,some a4] g) (runP P)):EvP (Z6 [a0,a1,a2,a3,a4] g) P:=by
 unfold Z6
 exact Zl h
@[reducible] noncomputable def ZCe:DS :=
 (ZP (Zq 3 (dOp ZCl (dF (f1 ZCi) (ZC (ZBM ZV 4 (ZD 0)) ZL)) (ZBM ZV 3 (ZD 0))))
 (ZP (ZAx (ZEH (ZBM ZV 4 (ZD 0)) (dF Z7 (ZC (ZD 1) (ZC (ZD 2) (ZC (ZD 3) ZL))))))
 (ZP (ZAv (.tp (.cons (.nm 4) (.cons (.nm 5) .nil))) (dF ZCC (ZC (ZBM ZV 0 (ZD 0)) (ZC (ZBM ZV 1 (ZD 0)) (ZC (ZBM ZV 2 (ZD 0)) (ZC (ZD 1) (ZC (ZD 2) ZL)))))))
 (ZP (ZAE (dOr (dB (ZD 3)) (dB (dOp ZNm (ZD 5) (dC .none))))
 (ZP (ZCQ ZV 2 (ZD 0) (ZD 4))
 (Zd (dC (.bool false))))
 dNx)
 (ZP (ZCQ ZV 2 (ZD 0) (ZD 5))
 (Zd (dC (.bool true))))))))
@[irreducible] noncomputable def Zw:List W->G->Option (W × G):=ZAL 6 ZCe
theorem ZFr {a0 a1 a2:W} {g:G} {P:W->G->Prop} (h:EvS (ZCe [some a0,some a1,some a2,none,none,none] g) (runP P)):EvP (Zw [a0,a1,a2] g) P:=by
 unfold Zw
 exact Zl h
@[reducible] noncomputable def ZCE:DS :=
 (ZCn (.nm 2) (ZAI (ZC (dF (f1 ZCi) (ZC (ZBM ZV 1 (ZD 0)) ZL)) ZL))
 (ZAE (dB (dOp ZBi (ZD 2) (ZD 1)))
 (ZAx (ZEz ZV Zw (ZD 0) (ZC (ZD 1) (ZC (ZD 2) ZL))))
 dNx))
@[irreducible] noncomputable def ZAB:List W->G->Option (W × G):=ZAL 3 ZCE
theorem ZFB {a0 a1:W} {g:G} {P:W->G->Prop} (h:EvS (ZCE [some a0,some a1,none] g) (runP P)):EvP (ZAB [a0,a1] g) P:=by
 unfold ZAB
 exact Zl h
@[reducible] noncomputable def ZI7:DS :=
 (ZP (ZAv (.tp (.cons (.nm 2) (.cons (.nm 3) .nil))) (ZBM ZV 2 (ZD 0)))
 (ZP (ZAv (.tp (.cons (.nm 4) (.cons (.nm 5) (.cons (.nm 6) (.cons (.nm 7) .nil))))) (dOp Zm (ZD 3) (ZD 1)))
 (ZCQ ZV 2 (ZD 0) (dF Zx (ZC (ZBM ZV 2 (ZD 0)) (ZC (ZD 1) (ZC (dF Z7 (ZC (dC (.int 0)) (ZC (ZD 5) (ZC (ZD 6) (ZC (ZD 7) ZL))))) ZL)))))))
@[irreducible] noncomputable def ZDB:List W->G->Option (W × G):=ZAL 8 ZI7
theorem ZL8 {a0 a1:W} {g:G} {P:W->G->Prop} (h:EvS (ZI7 [some a0,some a1,none,none,none,none,none,none] g) (runP P)):EvP (ZDB [a0,a1] g) P:=by
 unfold ZDB
 exact Zl h
@[reducible] noncomputable def ZIj:DS :=
 (ZP (ZAv (.tp (.cons (.nm 2) (.cons (.nm 3) (.cons (.nm 4) (.cons (.nm 5) .nil))))) (ZD 1))
 (ZP (Zq 6 (dF ZCW ZL))
 (ZP (ZCn (.tp (.cons (.nm 7) (.cons (.nm 8) .nil))) (ZC1 (ZC (ZD 0) ZL))
 (ZP (ZAv (.tp (.cons (.nm 9) (.cons (.nm 10) (.cons (.nm 11) (.cons (.nm 12) .nil))))) (ZD 8))
 (ZP (ZAv (.tp (.cons (.nm 13) (.cons (.nm 14) .nil))) (dOp Zm (ZD 10) (ZD 7)))
 (ZP (ZAE (dB (dOp ZCl (ZD 7) (ZD 3)))
 (Zq 8 (dF Z7 (ZC (dC (.int 0)) (ZC (ZD 10) (ZC (ZD 11) (ZC (dOp ZBq (dF Z7 (ZC (dC (.int 0)) ZL)) (dF (f1 ZCi) (ZC (ZD 12) ZL))) ZL))))))
 (ZAE (dB (dOp ZCl (ZD 7) (ZD 4)))
 (Zq 8 (dF Z7 (ZC (ZD 9) (ZC (dF ZAh (ZC (ZD 10) (ZC (ZD 7) (ZC (dF Z7 (ZC (ZD 13) (ZC (dC (.int 3)) ZL))) ZL)))) (ZC (dF ZAh (ZC (ZD 11) (ZC (ZD 7) (ZC (dC (.int 0)) ZL)))) (ZC (dOp ZBq (dF Z7 (ZC (dC (.int 0)) ZL)) (dF (f1 ZCi) (ZC (ZD 12) ZL))) ZL))))))
 (ZAE (dB (dOp ZCl (ZD 7) (ZD 5)))
 (Zq 8 (dF Z7 (ZC (dC (.int 1)) (ZC (dF ZAh (ZC (ZD 10) (ZC (ZD 7) (ZC (dF Z7 (ZC (dOp Z3 (ZD 13) (dC (.int 1))) (ZC (dC (.int 0)) ZL))) ZL)))) (ZC (dF ZAh (ZC (ZD 11) (ZC (ZD 7) (ZC (dC (.int 0)) ZL)))) (ZC (ZD 12) ZL))))))
 dNx)))
 (ZAx (ZEH (ZD 6) (ZD 8)))))))
 (Zd (dF (f1 ZDR) (ZC (ZD 6) ZL))))))
@[irreducible] noncomputable def ZD8:List W->G->Option (W × G):=ZAL 15 ZIj
theorem ZM2 {a0 a1:W} {g:G} {P:W->G->Prop} (h:EvS (ZIj [some a0,some a1,none,none,none,none,none,none,none,none,none,none,none,none,none] g) (runP P)):EvP (ZD8 [a0,a1] g) P:=by
 unfold ZD8
 exact Zl h
@[reducible] noncomputable def ZBw:DS :=
 (ZP (ZCn (.tp (.cons (.nm 2) (.cons (.nm 3) .nil))) (ZCf (ZD 1))
 (ZAE (ZHR (dB (ZEz ZV Zw (ZD 0) (ZC (ZD 2) (ZC (ZD 3) ZL)))))
 (Zd (dC (.bool false)))
 dNx))
 (Zd (dC (.bool true))))
@[irreducible] noncomputable def Z1:List W->G->Option (W × G):=ZAL 4 ZBw
theorem ZEw {a0 a1:W} {g:G} {P:W->G->Prop} (h:EvS (ZBw [some a0,some a1,none,none] g) (runP P)):EvP (Z1 [a0,a1] g) P:=by
 unfold Z1
 exact Zl h
@[reducible] noncomputable def ZCc:DS :=
 (ZP (ZCn (.nm 3) (ZCf (dF ZEA (ZC (ZBM ZV 0 (ZD 0)) (ZC (ZBM ZV 2 (ZD 0)) (ZC (ZD 1) (ZC (ZD 2) ZL))))))
 (ZAE (dB (dF Z1 (ZC (ZD 0) (ZC (ZD 3) ZL))))
 (Zd (dC (.bool true)))
 dNx))
 (Zd (dC (.bool false))))
@[irreducible] noncomputable def ZAF:List W->G->Option (W × G):=ZAL 4 ZCc
theorem ZFv {a0 a1 a2:W} {g:G} {P:W->G->Prop} (h:EvS (ZCc [some a0,some a1,some a2,none] g) (runP P)):EvP (ZAF [a0,a1,a2] g) P:=by
 unfold ZAF
 exact Zl h
@[reducible] noncomputable def ZEi:DS :=
 (ZP (ZAv (.tp (.cons (.nm 2) (.cons (.nm 3) .nil))) (ZBM ZV 2 (ZD 0)))
 (ZCn (.nm 4) (ZCf (dF Z5 (ZC (ZBM ZV 1 (ZD 0)) (ZC (ZD 2) (ZC (ZD 1) ZL)))))
 (ZAE (dB (dF ZA3 (ZC (ZBM ZV 0 (ZD 0)) (ZC (ZBM ZV 1 (ZD 0)) (ZC (ZBM ZV 2 (ZD 0)) (ZC (ZD 1) (ZC (ZD 4) ZL)))))))
 (ZP (Zq 5 (dF ZAF (ZC (ZD 0) (ZC (ZD 1) (ZC (ZD 4) ZL)))))
 (ZCQ ZV 2 (ZD 0) (dF ZBp (ZC (ZBM ZV 0 (ZD 0)) (ZC (ZBM ZV 2 (ZD 0)) (ZC (ZD 1) (ZC (ZD 4) (ZC (ZD 5) ZL))))))))
 dNx)))
@[irreducible] noncomputable def ZBQ:List W->G->Option (W × G):=ZAL 6 ZEi
theorem ZIY {a0 a1:W} {g:G} {P:W->G->Prop} (h:EvS (ZEi [some a0,some a1,none,none,none,none] g) (runP P)):EvP (ZBQ [a0,a1] g) P:=by
 unfold ZBQ
 exact Zl h
@[reducible] noncomputable def ZEk:DS :=
 (ZP (ZAv (.tp (.cons (.nm 4) (.cons (.nm 5) .nil))) (ZD 2))
 (ZP (ZAv (.tp (.cons (.nm 6) (.cons (.nm 7) (.cons (.nm 8) (.cons (.nm 9) .nil))))) (ZD 3))
 (ZP (Zq 10 (ZIM ZV Z6 (ZC (ZD 0) (ZC (ZD 1) (ZC (dF Z7 (ZC (ZD 4) (ZC (dF ZD8 (ZC (ZD 5) (ZC (ZD 3) ZL))) ZL))) (ZC (ZD 6) ZL))))))
 (ZP (ZCn (.nm 11) (ZCf (dOp Z3 (ZD 8) (ZD 9)))
 (ZAx (dF ZAB (ZC (ZD 10) (ZC (ZD 11) ZL)))))
 (ZP (ZCn (.nm 11) (ZCf (ZD 8))
 (ZAx (dF ZDB (ZC (ZD 10) (ZC (ZD 11) ZL)))))
 (ZP (ZCn (.nm 12) (ZAI (ZC (dF (f1 ZCi) (ZC (ZD 1) ZL)) ZL))
 (ZAE (dB (dF ZA5 (ZC (ZD 1) (ZC (ZBM ZV 2 (ZD 10)) (ZC (ZD 12) ZL)))))
 (ZAx (dF ZBQ (ZC (ZD 10) (ZC (ZD 12) ZL))))
 dNx))
 (ZP (ZAv (.tp (.cons (.nm 4) (.cons (.nm 5) .nil))) (ZBM ZV 2 (ZD 10)))
 (Zd (dF Z7 (ZC (dF Z7 (ZC (dOp Z3 (ZD 4) (dC (.int 1))) (ZC (ZD 5) ZL))) (ZC (dF (f1 ZDR) (ZC (ZBM ZV 4 (ZD 10)) ZL)) ZL)))))))))))
@[irreducible] noncomputable def ZA9:List W->G->Option (W × G):=ZAL 13 ZEk
theorem ZIf {a0 a1 a2 a3:W} {g:G} {P:W->G->Prop} (h:EvS (ZEk [some a0,some a1,some a2,some a3,none,none,none,none,none,none,none,none,none] g) (runP P)):EvP (ZA9 [a0,a1,a2,a3] g) P:=by
 unfold ZA9
 exact Zl h
@[reducible] noncomputable def ZD9:DS :=
 (ZP (Zq 2 (dC (.int 0)))
 (ZP (ZAE (dB (dOp ZGA (ZD 1) (dF (f1 ZCi) (ZC (ZD 0) ZL))))
 (Zq 2 (dOp Zm (ZD 0) (ZD 1)))
 dNx)
 (Zd (dF ZCW (ZC (dOp ZBq (dOp ZCG (dF (f1 ZOb) (ZC (ZD 2) ZL)) (dC (.int 1000000000000000000000000000000000000000000000000000000000000))) (dF (f1 ZJM) (ZC (dOp ZPA (dF (f1 ZOb) (ZC (ZD 2) ZL)) (dC (.int 1000000000000000000))) ZL))) (ZC (dOp ZCG (dOp Z3 (dOp Z3 (ZD 2) (dOp ZBq (dOp ZBq (dC (.int 613)) (ZD 1)) (ZD 1))) (dOp ZBq (dC (.int 29)) (ZD 1))) (dC (.int 2147483647))) (ZC (dC (.int 0)) ZL)))))))
@[irreducible] noncomputable def ZBN:List W->G->Option (W × G):=ZAL 3 ZD9
theorem ZIF {a0 a1:W} {g:G} {P:W->G->Prop} (h:EvS (ZD9 [some a0,some a1,none] g) (runP P)):EvP (ZBN [a0,a1] g) P:=by
 unfold ZBN
 exact Zl h
@[reducible] noncomputable def ZDO:DS :=
 (ZP (ZAE (dB (dOp ZLG (dOp Zm (ZD 0) (dC (.int 0))) (dC (.int 0))))
 (ZP (Zq 2 (dOp ZCG (dOp Zm (ZD 0) (dC (.int 0))) (ZD 1)))
 (ZP (ZI8 (ZD 0) (dC (.int 0)) (dOp ZEo (dOp Zm (ZD 0) (dC (.int 0))) (ZD 1)))
 (Zd (ZD 2))))
 dNx)
 (ZP (ZI8 (ZD 0) (dC (.int 2)) (dOp Z3 (dOp Zm (ZD 0) (dC (.int 2))) (dC (.int 1))))
 (ZP (Zq 3 (dOp ZCG (dOp Z3 (dOp Z3 (dOp ZBq (dOp Zm (ZD 0) (dC (.int 1))) (dC (.int 48271))) (dOp ZBq (dC (.int 8191)) (dOp Zm (ZD 0) (dC (.int 2))))) (dC (.int 17))) (dC (.int 2147483647))))
 (ZP (ZI8 (ZD 0) (dC (.int 1)) (dOp ZCG (dOp Z3 (dOp ZBq (ZD 3) (ZD 3)) (dOp Zm (ZD 0) (dC (.int 2)))) (dC (.int 2147483629))))
 (Zd (dOp ZCG (dOp ZEo (dOp Zm (ZD 0) (dC (.int 1))) (dC (.int 13))) (ZD 1)))))))
@[irreducible] noncomputable def ZN:List W->G->Option (W × G):=ZAL 4 ZDO
theorem ZHN {a0 a1:W} {g:G} {P:W->G->Prop} (h:EvS (ZDO [some a0,some a1,none,none] g) (runP P)):EvP (ZN [a0,a1] g) P:=by
 unfold ZN
 exact Zl h
@[reducible] noncomputable def ZCq:DS :=
 (ZP (Zq 2 (dOp Zm (dF ZEW (ZC (dF ZN (ZC (ZD 0) (ZC (dC (.int 3)) ZL))) (ZC (dF ZN (ZC (ZD 0) (ZC (dC (.int 10)) ZL))) ZL))) (dF ZN (ZC (ZD 0) (ZC (dC (.int 2)) ZL)))))
 (ZP (Zq 3 (dOp Zm (dF ZEW (ZC (dF ZN (ZC (ZD 0) (ZC (dC (.int 3)) ZL))) (ZC (dF ZN (ZC (ZD 0) (ZC (dC (.int 9)) ZL))) ZL))) (dF ZN (ZC (ZD 0) (ZC (dC (.int 2)) ZL)))))
 (ZP (Zq 4 (dOp Z3 (dC (.int 1)) (dOp Zm (dF ZEW (ZC (dF ZN (ZC (ZD 0) (ZC (dC (.int 3)) ZL))) (ZC (dF ZN (ZC (ZD 0) (ZC (dC (.int 9)) ZL))) ZL))) (dOp ZEo (dF ZN (ZC (ZD 0) (ZC (dC (.int 4)) ZL))) (dC (.int 3))))))
 (ZP (Zq 5 (dF Z7 (ZC (dC (.str "about")) (ZC (dC (.str "again")) (ZC (dC (.str "newer")) (ZC (dC (.str "others")) (ZC (dC (.str "own")) (ZC (dC (.str "refute")) (ZC (dC (.str "wait")) ZL)))))))))
 (ZP (Zq 6 (dF ZN (ZC (ZD 0) (ZC (dC (.int 3)) ZL))))
 (ZP (ZAE (dOr (dB (ZD 1)) (dB (dOp ZB0 (ZD 6) (dC (.int 0)))))
 (Zd (dF Z7 (ZC (dF ZN (ZC (ZD 0) (ZC (dC (.int 4)) ZL))) (ZC (ZD 4) (ZC (ZD 2) (ZC (ZD 3) (ZC (ZD 5) ZL)))))))
 dNx)
 (ZP (Zq 7 (dOp Zm (ZD 5) (dF ZN (ZC (ZD 0) (ZC (dC (.int 7)) ZL)))))
 (ZP (Zq 8 (dF (f1 ZDR) (ZC (ZAa 1 [7,6,0] (.nm 0) (ZCf (ZD 5)) (ZCK (dB (dOp ZBi (ZD 0) (ZD 1))) (dOr (dB (dOp ZB0 (ZD 2) (dC (.int 1)))) (dB (dOp ZB0 (dF ZN (ZC (ZD 3) (ZC (dC (.int 2)) ZL))) (dC (.int 0)))))) (ZD 0)) ZL)))
 (Zd (dF Z7 (ZC (dF ZN (ZC (ZD 0) (ZC (dC (.int 4)) ZL))) (ZC (ZD 4) (ZC (ZD 2) (ZC (ZD 3) (ZC (ZD 8) ZL)))))))))))))))
@[irreducible] noncomputable def ZAo:List W->G->Option (W × G):=ZAL 9 ZCq
theorem ZGG {a0 a1:W} {g:G} {P:W->G->Prop} (h:EvS (ZCq [some a0,some a1,none,none,none,none,none,none,none] g) (runP P)):EvP (ZAo [a0,a1] g) P:=by
 unfold ZAo
 exact Zl h
@[reducible] noncomputable def ZDW:DS :=
 (ZP (Zq 2 (dF ZPm (ZC (ZD 1) (ZC (dOp Zm (dF ZEW (ZC (dC (.int 2)) (ZC (dC (.int 3)) (ZC (dC (.int 4)) (ZC (dC (.int 3)) (ZC (dC (.int 5)) (ZC (dOp Z3 (dC (.int 2)) (dF ZN (ZC (ZD 0) (ZC (dC (.int 7)) ZL)))) ZL))))))) (dF ZN (ZC (ZD 0) (ZC (dC (.int 6)) ZL)))) ZL))))
 (ZP (Zq 3 (dF ZCW ZL))
 (ZP (ZCn (.nm 4) (ZAI (ZC (ZD 2) ZL))
 (ZP (Zq 5 (dOp Zm (dF ZEW (ZC (dC (.int 1)) (ZC (dOp Z3 (dC (.int 1)) (dF ZN (ZC (ZD 0) (ZC (dC (.int 4)) ZL)))) ZL))) (dF ZN (ZC (ZD 0) (ZC (dC (.int 2)) ZL)))))
 (ZAx (ZEH (ZD 3) (dF Z7 (ZC (ZD 5) (ZC (dF ZN (ZC (ZD 0) (ZC (ZD 5) ZL))) ZL)))))))
 (Zd (dF (f1 ZDR) (ZC (ZD 3) ZL))))))
@[irreducible] noncomputable def ZA1:List W->G->Option (W × G):=ZAL 6 ZDW
theorem ZHG {a0 a1:W} {g:G} {P:W->G->Prop} (h:EvS (ZDW [some a0,some a1,none,none,none,none] g) (runP P)):EvP (ZA1 [a0,a1] g) P:=by
 unfold ZA1
 exact Zl h
@[reducible] noncomputable def ZCy:DS :=
 (ZP (Zq 3 (dF (f1 ZCi) (ZC (ZD 2) ZL)))
 (ZP (Zq 4 (dOp Zm (dF ZEW (ZC (dC (.int 0)) (ZC (dC (.int 0)) (ZC (dC (.int 999000)) (ZC (dF ZN (ZC (ZD 0) (ZC (dC (.int 1000)) ZL))) ZL))))) (dF ZN (ZC (ZD 0) (ZC (dC (.int 4)) ZL)))))
 (ZP (Zq 5 (dF ZN (ZC (ZD 0) (ZC (dC (.int 3)) ZL))))
 (ZP (Zq 6 (dF ZCW ZL))
 (ZP (ZCn (.nm 7) (ZAI (ZC (ZD 3) ZL))
 (ZP (Zq 8 (dF (f1 ZJM) (ZC (dOp ZLG (dF ZN (ZC (ZD 0) (ZC (dC (.int 5)) ZL))) (dC (.int 0))) ZL)))
 (ZP (Zq 9 (dF (f1 ZDR) (ZC (ZAa 1 [4,0,5] (.nm 0) (ZAI (ZC (ZD 3) ZL)) ZDk (dF Z7 (ZC (dOp Z3 (ZD 1) (dF ZN (ZC (ZD 2) (ZC (dC (.int 3)) ZL)))) (ZC (dOp Zm (dF ZEW (ZC (dF ZN (ZC (ZD 2) (ZC (dC (.int 4)) ZL))) (ZC (dC (.int 0)) ZL))) (dF (f1 ZJM) (ZC (dOp ZB0 (ZD 3) (dC (.int 0))) ZL))) ZL)))) ZL)))
 (ZP (Zq 10 (dF (f1 ZDR) (ZC (ZAa 1 [0,1] (.nm 0) (ZAI (ZC (ZD 3) ZL)) ZDk (dF ZN (ZC (ZD 1) (ZC (dOp Z3 (dOp Zm (ZD 2) (dC (.int 2))) (dC (.int 1))) ZL)))) ZL)))
 (ZP (Zq 11 (dF (f1 ZDR) (ZC (ZAa 1 [0,1] (.nm 0) (ZAI (ZC (ZD 3) ZL)) ZDk (dOp ZBq (dF ZN (ZC (ZD 1) (ZC (dOp Z3 (dOp Zm (ZD 2) (dC (.int 1))) (dC (.int 1))) ZL))) (dF (f1 ZJM) (ZC (dOp ZB0 (dF ZN (ZC (ZD 1) (ZC (dC (.int 3)) ZL))) (dC (.int 0))) ZL)))) ZL)))
 (ZP (Zq 11 (dF (f1 ZDR) (ZC (ZAa 1 [8,11,7] (.nm 0) (ZAI (ZC (ZD 3) ZL)) ZDk (dOp ZBq (dOp ZBq (dOp Zm (ZD 2) (ZD 0)) (ZD 1)) (dF (f1 ZJM) (ZC (dOp ZBi (ZD 0) (ZD 3)) ZL)))) ZL)))
 (ZAx (ZEH (ZD 6) (dF Z7 (ZC (ZD 8) (ZC (ZD 9) (ZC (ZD 10) (ZC (ZD 11) ZL)))))))))))))
 (Zd (dF Z7 (ZC (dF ZN (ZC (ZD 0) (ZC (dOp Zm (dF ZEW (ZC (dC (.int 5)) (ZC (dC (.int 100)) (ZC (dC (.int 100000)) ZL)))) (dF ZN (ZC (ZD 0) (ZC (dC (.int 3)) ZL)))) ZL))) (ZC (dF (f1 ZDR) (ZC (ZD 6) ZL)) ZL)))))))))
@[irreducible] noncomputable def ZAm:List W->G->Option (W × G):=ZAL 12 ZCy
theorem ZGB {a0 a1 a2:W} {g:G} {P:W->G->Prop} (h:EvS (ZCy [some a0,some a1,some a2,none,none,none,none,none,none,none,none,none] g) (runP P)):EvP (ZAm [a0,a1,a2] g) P:=by
 unfold ZAm
 exact Zl h
@[reducible] noncomputable def ZDE:DS :=
 (ZP (Zq 2 (dF ZN (ZC (ZD 0) (ZC (dC (.int 5)) ZL))))
 (ZP (ZAE (dB (dOp ZB0 (ZD 2) (dC (.int 0))))
 (Zd (dF Z7 ZL))
 dNx)
 (ZP (ZAE (dB (dOp ZB0 (ZD 2) (dC (.int 1))))
 (Zd (ZHy (ZD 1)))
 dNx)
 (Zd (dF (f1 ZDR) (ZC (ZAa 1 [0,2] (.nm 0) (ZAI (ZC (ZD 1) ZL)) (dB (dOp ZB0 (dF ZN (ZC (ZD 1) (ZC (dOp Zm (dF ZEW (ZC (dC (.int 2)) (ZC (dC (.int 3)) (ZC (dC (.int 8)) ZL)))) (dOp ZEb (ZD 2) (dC (.int 2)))) ZL))) (dC (.int 0)))) (ZD 0)) ZL))))))
@[irreducible] noncomputable def ZA7:List W->G->Option (W × G):=ZAL 3 ZDE
theorem ZG8 {a0 a1:W} {g:G} {P:W->G->Prop} (h:EvS (ZDE [some a0,some a1,none] g) (runP P)):EvP (ZA7 [a0,a1] g) P:=by
 unfold ZA7
 exact Zl h
@[reducible] noncomputable def ZCa:DS :=
 (ZP (ZGX 3 4 5 (ZC (dF ZCW ZL) (ZC (dF ZCW ZL) (ZC (dF ZCW ZL) ZL))))
 (ZP (ZCn (.tp (.cons (.nm 6) (.cons (.nm 7) .nil))) (ZC1 (ZC (dOp Zm (ZD 1) (dC (.int 1))) ZL))
 (ZP (Zq 8 (dF ZN (ZC (ZD 0) (ZC (dC (.int 8)) ZL))))
 (ZP (ZAE (ZCK (dB (ZD 2)) (ZCK (dB (dOp ZB0 (dOp Zm (ZD 7) (dC (.int 0))) (dC (.int 1)))) (dB (dOp ZGA (ZD 8) (dC (.int 2))))))
 (ZAx (ZEH (ZH0 (ZC (ZD 3) (ZC (ZD 4) ZL)) (ZD 8)) (ZD 6)))
 dNx)
 (ZAE (ZCK (dB (ZD 2)) (ZCK (dB (dOp ZB0 (dOp Zm (ZD 7) (dC (.int 0))) (dC (.int 0)))) (dB (dOp ZGA (ZD 8) (dC (.int 3))))))
 (ZAx (ZEH (ZD 5) (ZD 6)))
 dNx))))
 (Zd (dF Z7 (ZC (dF ZA7 (ZC (ZD 0) (ZC (dC (.int 60)) ZL))) (ZC (dF (f1 ZDR) (ZC (ZD 3) ZL)) (ZC (dF (f1 ZDR) (ZC (ZD 4) ZL)) (ZC (dF (f1 ZDR) (ZC (ZD 5) ZL)) ZL))))))))
@[irreducible] noncomputable def ZAV:List W->G->Option (W × G):=ZAL 9 ZCa
theorem ZF5 {a0 a1 a2:W} {g:G} {P:W->G->Prop} (h:EvS (ZCa [some a0,some a1,some a2,none,none,none,none,none,none] g) (runP P)):EvP (ZAV [a0,a1,a2] g) P:=by
 unfold ZAV
 exact Zl h
@[reducible] noncomputable def ZCY:DS :=
 (ZP (Zq 3 (dF ZCW ZL))
 (ZP (ZCn (.tp (.cons (.nm 4) (.cons (.tp (.cons (.nm 5) (.cons (.nm 6) .nil))) .nil))) (ZC1 (ZC (ZD 0) ZL))
 (ZP (Zq 7 (ZIC (ZEa (dOp ZB0 (dOp Zm (dOp Zm (dOp Zm (ZD 1) (dC (.int 1))) (ZD 4)) (dC (.int 0))) (dC (.int 1))) (dOp ZB9 (ZD 4) (dOp Z3 (dOp Zm (ZD 2) (dC (.int 1))) (dOp Zm (ZD 2) (dC (.int 2)))))) (dOp ZCl (ZD 4) (dOp Zm (ZD 2) (dC (.int 3))))))
 (ZAE (ZCK (dB (ZD 7)) (dB (dOp ZB0 (dOp ZCG (dOp ZEb (dOp Zm (ZD 1) (dC (.int 0))) (ZD 6)) (ZD 5)) (dC (.int 0)))))
 (ZAx (ZEH (ZD 3) (ZD 4)))
 dNx)))
 (Zd (ZD 3))))
@[irreducible] noncomputable def ZAU:List W->G->Option (W × G):=ZAL 8 ZCY
theorem ZF2 {a0 a1 a2:W} {g:G} {P:W->G->Prop} (h:EvS (ZCY [some a0,some a1,some a2,none,none,none,none,none] g) (runP P)):EvP (ZAU [a0,a1,a2] g) P:=by
 unfold ZAU
 exact Zl h
@[reducible] noncomputable def ZC4:DS :=
 (ZP (Zq 4 (dF ZCW ZL))
 (ZP (ZCn (.nm 5) (ZCf (dOp Z3 (dOp Zm (ZD 2) (dC (.int 2))) (dOp Zm (ZD 2) (dC (.int 3)))))
 (ZAx (ZJr (ZD 4) (ZAa 1 [5] (.nm 0) (ZAI (ZC (dF (f1 ZCi) (ZC (ZD 0) ZL)) ZL)) (dB (dOp ZBi (ZD 0) (ZD 1))) (dF Z7 (ZC (ZD 1) (ZC (ZD 0) ZL)))))))
 (ZP (ZAE (dB (dOp ZBi (ZAa 1 [] (.nm 0) (ZCf (dSl (ZD 3) ZAj (ZB2 (dF (f1 ZCi) (ZC (ZD 4) ZL))))) ZDk (dSl (ZD 0) ZAj (ZB2 (dC (.int 2))))) (ZD 4)))
 (Zd (dC (.bool false)))
 dNx)
 (ZP (ZAE (dB (dOp ZBi (ZAa 1 [] (.nm 0) (ZCf (ZD 3)) ZDk (dOp Zm (ZD 0) (dC (.int 2)))) (ZAa 1 [2] (.nm 0) (ZAI (ZC (dF (f1 ZCi) (ZC (ZD 3) ZL)) ZL)) ZDk (dOp ZCl (ZD 0) (dOp Zm (ZD 1) (dC (.int 0)))))))
 (Zd (dC (.bool false)))
 dNx)
 (ZP (Zq 6 (dF ZAU (ZC (ZD 0) (ZC (ZD 1) (ZC (ZD 2) ZL)))))
 (ZP (Zq 7 (dSl (ZD 3) (ZB2 (dF (f1 ZCi) (ZC (ZD 4) ZL))) ZAj))
 (ZP (ZAE (ZCK (dB (dOp ZBi (ZD 7) (dF Z7 ZL))) (dB (dOp ZB9 (dOp Zm (dOp Zm (ZD 7) (dC (.int 0))) (dC (.int 0))) (ZD 6))))
 (Zd (dC (.bool false)))
 dNx)
 (Zd (ZEa (dF (f1 ZJw) (ZC (ZAa 3 [] (.tp (.cons (.nm 0) (.cons (.nm 1) (.cons (.nm 2) .nil)))) (ZCf (ZD 3)) ZDk (dOp ZBi (ZD 0) (ZD 1))) ZL)) (ZIC (dOp ZBi (ZD 6) (dF ZEW ZL)) (dOp ZB0 (ZD 7) (dF Z7 ZL))))))))))))
@[irreducible] noncomputable def ZAP:List W->G->Option (W × G):=ZAL 8 ZC4
theorem ZGD {a0 a1 a2 a3:W} {g:G} {P:W->G->Prop} (h:EvS (ZC4 [some a0,some a1,some a2,some a3,none,none,none,none] g) (runP P)):EvP (ZAP [a0,a1,a2,a3] g) P:=by
 unfold ZAP
 exact Zl h
@[reducible] noncomputable def ZLe:DS :=
 (ZP (ZCn (.nm 1) (ZAI (ZC (dOp Z3 (dC (.int 1)) (dF (f1 ZCi) (ZC (dSl (ZD 0) ZAj (ZB2 (dC (.int 6)))) ZL))) ZL))
 (ZP (Zq 2 (dF ZBN (ZC (ZD 0) (ZC (ZD 1) ZL))))
 (ZP (Zq 3 (dF ZAo (ZC (ZD 2) (ZC (dC (.bool false)) ZL))))
 (ZP (Zq 4 (dF ZA1 (ZC (ZD 2) (ZC (dC (.int 8)) ZL))))
 (ZP (Zq 5 (dF ZAm (ZC (ZD 2) (ZC (ZD 3) (ZC (ZD 4) ZL)))))
 (ZP (Zq 6 (dF ZAV (ZC (ZD 2) (ZC (ZD 5) (ZC (dOp ZB0 (dF ZN (ZC (ZD 2) (ZC (dC (.int 2)) ZL))) (dC (.int 0))) ZL)))))
 (ZP (ZAv (.tp (.cons (.nm 7) (.cons (.nm 8) .nil))) (dF ZA9 (ZC (ZD 3) (ZC (ZD 4) (ZC (ZD 5) (ZC (ZD 6) ZL))))))
 (ZP (ZAE (ZHR (dB (dF ZAP (ZC (ZD 4) (ZC (ZD 5) (ZC (ZD 6) (ZC (ZD 8) ZL)))))))
 (Zd (dC (.bool false)))
 dNx)
 (ZP (Zq 9 (dOp Z3 (dF Z7 (ZC (dOp Z3 (dOp Zm (ZD 6) (dC (.int 0))) (dF Z7 (ZC (dC (.int 1000000)) (ZC (dOp Z3 (dC (.int 1000000)) (dC (.int 5))) ZL)))) ZL)) (dSl (ZD 6) (ZB2 (dC (.int 1))) ZAj)))
 (ZP (ZAE (dB (dOp ZBi (dF ZA9 (ZC (ZD 3) (ZC (ZD 4) (ZC (ZD 5) (ZC (ZD 9) ZL))))) (dF Z7 (ZC (ZD 7) (ZC (ZD 8) ZL)))))
 (Zd (dC (.bool false)))
 dNx)
 (ZP (Zq 10 (dF ZN (ZC (ZD 2) (ZC (dOp Z3 (dF (f1 ZCi) (ZC (ZD 8) ZL)) (dC (.int 1))) ZL))))
 (ZP (Zq 11 (dF (f1 ZDR) (ZC (dF (f1 ZHg) (ZC (dOp Z3 (ZAa 1 [10] (.nm 0) (ZCf (dOp Zm (ZD 6) (dC (.int 0)))) (dB (dOp ZBi (ZD 0) (ZD 1))) (ZD 0)) (dOp ZBq (dF ZEW (ZC (ZD 10) ZL)) (dF (f1 ZJM) (ZC (dOp ZB9 (ZD 10) (dOp Zm (ZD 6) (dC (.int 0)))) ZL)))) ZL)) ZL)))
 (ZP (Zq 6 (dOp Z3 (dF Z7 (ZC (ZD 11) ZL)) (dSl (ZD 6) (ZB2 (dC (.int 1))) ZAj)))
 (ZP (Zq 12 (dOp Zm (dF ZA9 (ZC (ZD 3) (ZC (ZD 4) (ZC (ZD 5) (ZC (ZD 6) ZL))))) (dC (.int 1))))
 (ZAE (dOr (dB (dOp ZBi (dSl (ZD 12) ZAj (ZB2 (ZD 10))) (dSl (ZD 8) ZAj (ZB2 (ZD 10))))) (ZHR (dB (dF ZAP (ZC (ZD 4) (ZC (ZD 5) (ZC (ZD 6) (ZC (ZD 12) ZL))))))))
 (Zd (dC (.bool false)))
 dNx)))))))))))))))
 (Zd (dC (.bool true))))
@[irreducible] noncomputable def ZFt:List W->G->Option (W × G):=ZAL 13 ZLe
theorem ZON {a0:W} {g:G} {P:W->G->Prop} (h:EvS (ZLe [some a0,none,none,none,none,none,none,none,none,none,none,none,none] g) (runP P)):EvP (ZFt [a0] g) P:=by
 unfold ZFt
 exact Zl h
local macro_rules
 | `(tactic| and_intros) => `(tactic| repeat (first
  | with_reducible (first
   | refine ZD1 ?_ | refine ZNi ?_ | refine x_c ?_ | refine x_op ?_ | refine x_f ?_ | refine as_b ?_ | refine x_b ?_ | refine ZPS ?_ | refine x_seq ?_ | refine x_set ?_ | refine x_ifS ?_ | refine x_and ?_ | refine x_or ?_ | refine x_not ?_
   | refine ZPD ?_ | refine as_i ?_ | refine x_asg ?_ | refine ZNc ?_ | refine ZOU ?_ | refine x_for ?_ | refine x_nx ?_ | refine x_retN ?_
   | refine x_un ?_ | refine ZOp ?_ | refine x_orV ?_ | refine x_notV ?_ | refine x_if ?_ | refine x_chain ?_
   | refine x_sl ?_ | refine ZKu ?_ | refine ZOl ?_ | refine ZOQ ?_ | refine ZNs ?_ | refine ZMc ?_ | refine x_izip ?_ | refine x_app ?_ | refine x_sto ?_ | refine x_augS ?_ | refine ZPO ?_ | refine x_fld ?_ | refine ZOV ?_ | refine ZNq ?_ | refine ZNx ?_ | refine x_par ?_ | refine ZOf ?_ | refine ZPE ?_ | refine x_ext ?_ | refine x_ins ?_)
  | ((with_reducible refine ZF1 ?_ ?_); exact rfl)
  | refine ZOe ?_ | refine ZOg ?_ | refine Exists.intro _ (And.intro rfl ?_)
  | refine Exists.intro _ (Exists.intro _ (Exists.intro _ (And.intro rfl (And.intro (by assumption) (And.intro rfl ?_)))))
  | refine Exists.intro _ (Exists.intro _ (Exists.intro _ (And.intro rfl (And.intro (by assumption) (And.intro (of_decide_eq_true rfl) (And.intro rfl ?_))))))
  | refine Exists.intro _ (Exists.intro _ (And.intro rfl (And.intro (by assumption) ?_)))
  | refine And.intro (ZL0 (by assumption)) ?_ | refine And.intro (ZL0 Z2) ?_ | refine ZCZ ?_ | refine ZO7 ?_))
theorem ZFM {α P:Prop} (_ : α) (h:P):P:=h
theorem ZAi (n:Nat) (lo:Int):(ZBy n lo).length=n:=by unfold ZBy; rw [List.length_map,List.length_range]
theorem Ze {b:Nat} {m:Int} {g:G} {P:W->G->Prop} (hb:Bx g b) (h0 : 0 < m) (h1:m < 2 ^ 62) (q:∀ d g',0<=d->d < m->Dr b g g'->P (.dat (.int d)) g'):EvP (ZN [.ref b,.dat (.int m)] g) P:=by
 have hl:=hb.lt
 obtain ⟨x,n,c,e⟩:=hb
 refine ZHN ?_
 and_intros
 refine ZE2 e rfl ?_
 and_intros
 refine ⟨λ hx=>?_,λ hx=>?_⟩
 ·and_intros
  refine ZE2 e rfl ?_
  and_intros
  refine ZEJ h0 ?_
  and_intros
  refine ZE2 e rfl ?_
  and_intros
  refine ZNj h0 (by omega) ?_
  and_intros
  refine ⟨_,e,?_⟩
  and_intros
  exact q _ _ (Int.emod_nonneg _ (by omega)) (Int.emod_lt_of_pos _ h0) (.set hl)
 ·and_intros
  refine ZE2 e rfl ?_
  and_intros
  refine ⟨_,e,?_⟩
  and_intros
  refine ZE2 (ZBA hl) rfl ?_
  and_intros
  refine ZE3 (ZEv (by decide)) ?_
  and_intros
  refine ZE2 (ZBA hl) rfl ?_
  and_intros
  generalize hz:(n * 48271+8191 * (c+1)+17) % 2147483647=z
  have z0 : 0<=z:=by rw [← hz]; exact Int.emod_nonneg _ (by decide)
  have z1:z < 2147483647:=by rw [← hz]; exact Int.emod_lt_of_pos _ (by decide)
  refine ZE3 (ZLY (by omega)) ?_
  and_intros
  refine ZE2 (ZBA hl) rfl ?_
  and_intros
  refine ⟨_,ZBA hl,?_⟩
  and_intros
  refine ZE2 (ZBA (by rw [List.length_set]; exact hl)) rfl ?_
  and_intros
  refine ZEJ h0 ?_
  and_intros
  refine q _ _ (Int.emod_nonneg _ (by omega)) (Int.emod_lt_of_pos _ h0) ?_
  rw [List.set_set]
  exact .set hl
theorem ZOr {ns:List Int} {k:Int} {g:G} {P:W->G->Prop} (hk : 0<=k/\k<=100) (q:∀ g',g'.length=g.length+1->(∀ n,n < g.length->g'[n]? = g[n]?)->Bx g' g.length->P (.ref g.length) g'):EvP (ZBN [.inp ns,.dat (.int k)] g) P:=by
 refine ZIF ?_
 and_intros
 refine ⟨λ hx=>?_,λ hx=>?_⟩
 ·have hk2:k.toNat < ns.length:=by have:=of_decide_eq_true hx; omega
  and_intros
  refine ZHA (y:=ns.getD k.toNat 0) (x:=.dat (.int (ns.getD k.toNat 0))) (g:=g) (by have:=ZFQ (xs:=ns) (j:=k.toNat) (v:=ns.getD k.toNat 0) (by rw [List.getD_eq_getElem?_getD,List.getElem?_eq_getElem hk2]; rfl); rwa [Int.toNat_of_nonneg hk.1] at this) rfl ?_
  and_intros
  refine ZE3 (ZEv (ib1 _)) ?_
  and_intros
  refine ZE3 (ZEv (by omega)) ?_
  and_intros
  exact q _ (by simp) (λ n hn=>List.getElem?_append_left hn) ⟨_,_,_,Z2⟩
 ·and_intros
  refine ZE3 (ZEv (by omega)) ?_
  and_intros
  exact q _ (by simp) (λ n hn=>List.getElem?_append_left hn) ⟨_,_,_,Z2⟩
theorem ZEF {xs:List PyData} {d:Int} {g:G} {P:W->G->Prop} (h0 : 0<=d) (h1:d < xs.length) (q:∀ x ∈ xs,P (.dat x) g):EvP (Zm (.dat (.list xs)) (.dat (.int d)) g) P:=by
 have hn:d.toNat < xs.length:=by omega
 refine y_ixL (d:=xs[d.toNat]) ?_ (q _ (List.getElem_mem hn))
 have h:=ZFQ (xs:=xs) (j:=d.toNat) (v:=xs[d.toNat]) (by simp [hn])
 rwa [Int.toNat_of_nonneg h0] at h
theorem ZLE {xs:List PyData} {d:Int} {g:G} {P:W->G->Prop} (h0 : 0<=d) (h1:d < xs.length) (q:∀ x ∈ xs,P (.dat x) g):EvP (Zm (.dat (.tuple xs)) (.dat (.int d)) g) P:=by
 have hn:d.toNat < xs.length:=by omega
 refine ZAq (d:=xs[d.toNat]) ?_ (q _ (List.getElem_mem hn))
 have h:=ZFQ (xs:=xs) (j:=d.toNat) (v:=xs[d.toNat]) (by simp [hn])
 rwa [Int.toNat_of_nonneg h0] at h
theorem ZDS {a b d:Int} {g:G} {P:W->G->Prop} (h0 : 0<=d) (h1:d < 2) (q:∀ x,x=a ∨ x=b->P (.dat (.int x)) g):EvP (Zm (.dat (.list [.int a,.int b])) (.dat (.int d)) g) P:=ZEF h0 h1 λ x hx=>by
 simp only [List.mem_cons,List.not_mem_nil,or_false] at hx
 rcases hx with rfl | rfl
 ·exact q _ (.inl rfl)
 ·exact q _ (.inr rfl)
theorem ZLz {b:Nat} {wh:Bool} {g:G} {P:W->G->Prop} (hb:Bx g b) (q:∀ r g',RuOk r->r.cl.Sublist ZCJ->(wh=true->r.cl=ZCJ)->Dr b g g'->P (.dat (ruD r)) g'):EvP (ZAo [.ref b,.dat (.bool wh)] g) P:=by
 refine ZGG ?_
 and_intros
 refine Ze hb (by decide) (by decide) λ d1 g1 l1 u1 D1=>?_
 and_intros
 refine Ze D1.bx (by decide) (by decide) λ d2 g2 l2 u2 D2=>?_
 and_intros
 refine Ze D2.bx (by decide) (by decide) λ d3 g3 l3 u3 D3=>?_
 and_intros
 refine ZDS l3 u3 λ t ht=>?_
 and_intros
 refine Ze D3.bx (by decide) (by decide) λ d4 g4 l4 u4 D4=>?_
 and_intros
 refine Ze D4.bx (by decide) (by decide) λ d5 g5 l5 u5 D5=>?_
 and_intros
 refine Ze D5.bx (by decide) (by decide) λ d6 g6 l6 u6 D6=>?_
 and_intros
 refine ZDS l6 u6 λ c hc=>?_
 and_intros
 refine Ze D6.bx (by decide) (by decide) λ d7 g7 l7 u7 D7=>?_
 and_intros
 refine Ze D7.bx (by decide) (by decide) λ d8 g8 l8 u8 D8=>?_
 and_intros
 refine Ze D8.bx (by decide) (by decide) λ d9 g9 l9 u9 D9=>?_
 and_intros
 refine ZDS (by omega) (by omega) λ w hw=>?_
 and_intros
 refine Ze D9.bx (by decide) (by decide) λ m gm lm um Dm=>?_
 and_intros
 have DD:=D1.trans (D2.trans (D3.trans (D4.trans (D5.trans (D6.trans (D7.trans (D8.trans (D9.trans Dm))))))))
 have rok:∀ (o:Int) (cl:List Str),0<=o->o < 4->cl.length<=7->RuOk ⟨o,1+w,t,c,cl⟩:=λ o cl h1 h2 h3=>⟨⟨h1,by show o<=3; omega⟩,⟨by show 1<=1+w; omega,by show 1+w<=9; omega⟩,⟨by show 0<=t; omega,by show t<=9; omega⟩,⟨by show 0<=c; omega,by show c<=8; omega⟩,h3⟩
 have whole:∀ (sdx:Sd) (rest:DS),sdx.getD 0 none=some (.ref b)->sdx.getD 2 none=some (.dat (.int t))->sdx.getD 3 none=some (.dat (.int c))->sdx.getD 4 none=some (.dat (.int (1+w)))->sdx.getD 5 none=some (.dat (clD ZCJ)) ->
   EvS (Zd (dF Z7 (ZC (dF ZN (ZC (ZD 0) (ZC (dC (.int 4)) ZL))) (ZC (ZD 4) (ZC (ZD 2) (ZC (ZD 3) (ZC (ZD 5) ZL)))))) sdx gm) (seqP rest (runP P)):=λ sdx rest e0 e2 e3 e4 e5=>by
  refine ZNc (x_f (ZD1 (x_f (ZD1 (ZF1 e0 ?_)))))
  and_intros
  refine Ze Dm.bx (by decide) (by decide) λ o go lo uo Do=>?_
  refine ZD1 (ZF1 e4 (ZD1 (ZF1 e2 (ZD1 (ZF1 e3 (ZD1 (ZF1 e5 (ZNi ?_))))))))
  and_intros
  exact ZFM (DD.trans Do).len (q ⟨o,1+w,t,c,ZCJ⟩ _ (rok o _ lo uo (by decide)) (List.Sublist.refl _) (λ _=>rfl) (DD.trans Do))
 refine ⟨λ _=>⟨λ _=>whole _ _ rfl rfl rfl rfl rfl,(λ z=>by cases z)⟩,λ hwh=>?_⟩
 and_intros
 refine ⟨λ _=>whole _ _ rfl rfl rfl rfl rfl,λ hm=>?_⟩
 clear whole
 and_intros
 refine Ze Dm.bx (by decide) (by decide) λ d10 g10 l10 u10 D10=>?_
 refine ZLE (xs:=ZCJ.map .str) l10 u10 λ z hz=>?_
 obtain ⟨z,hz0,rfl⟩:=List.mem_map.mp hz
 have hok:=ok7
 and_intros
 refine ⟨by decide,?_⟩
 refine ZEX (λ gx=>Dr b g gx) (λ i acc=>∃ l:List Str,acc=l.map .str/\l.Sublist (ZCJ.take i)) (DD.trans D10) ⟨[],rfl,List.Sublist.refl _⟩ ?_ ?_
 ·rintro i x gx acc hx Dx ⟨l,rfl,hl⟩
  have hx':(ZCJ.map PyData.str)[i]? = some x:=hx
  rw [List.getElem?_map] at hx'
  obtain ⟨s,hs,rfl⟩:=mp hx'
  have hs2:=List.mem_of_getElem? hs
  have hi:=(List.getElem?_eq_some_iff.mp hs).1
  have hsn:(l ++ [s]).Sublist (ZCJ.take (i+1)):=by
   rw [List.take_add_one,hs]
   exact hl.append (List.Sublist.refl _)
  have hsk:l.Sublist (ZCJ.take (i+1)):=hl.trans (List.take_sublist_take_left (Nat.le_succ i))
  and_intros
  refine ZME (by rw [hok s hs2,hok z hz0]; rfl) ?_
  and_intros
  refine ⟨λ c1=>?_,λ c1=>⟨(λ z=>by cases z),λ _=>⟨trivial,Dx,l,rfl,hsk⟩⟩⟩
  and_intros
  have yes:∀ (sdy:Sd) (gy:G),sdy.getD 0 none=some (.dat (.str s))->Dr b g gy->EvP (ZD 0 sdy gy) λ y g2=>∃ d,y=.dat d/\ZBc none (ZCJ.map PyData.str) g2/\Dr b g g2/\∃ l':List Str,l.map PyData.str ++ [d]=l'.map .str/\l'.Sublist (ZCJ.take (i+1)):=λ sdy gy e D=>ZF1 e ⟨_,rfl,trivial,D,l ++ [s],by rw [List.map_append]; rfl,hsn⟩
  refine ⟨λ c2=>⟨λ _=>yes _ _ rfl Dx,(λ z=>by cases z)⟩,λ c2=>?_⟩
  and_intros
  refine Ze Dx.bx (by decide) (by decide) λ d11 g11 l11 u11 D11=>?_
  and_intros
  refine ⟨λ c3=>yes _ _ rfl (Dx.trans D11),λ c3=>⟨trivial,Dx.trans D11,l,rfl,hsk⟩⟩
 ·rintro acc gx Dx ⟨l,rfl,hl⟩
  and_intros
  refine Ze Dx.bx (by decide) (by decide) λ o go lo uo Do=>?_
  and_intros
  have hl7:l.Sublist ZCJ:=hl
  refine ZFM (Dx.trans Do).len (q ⟨o,1+w,t,c,l⟩ _ (rok o _ lo uo hl7.length_le) hl7 (λ z=>by rw [hwh] at z; cases z) (Dx.trans Do))
theorem ZMP {b:Nat} {m:Int} {g:G} {P:W->G->Prop} (hb:Bx g b) (hm : 2<=m/\m<=8) (q:∀ ts g',2<=ts.length->(ts.length:Int)<=m->(∀ c ∈ ts,ZId c)->Dr b g g'->P (.dat (Zv ts)) g'):EvP (ZA1 [.ref b,.dat (.int m)] g) P:=by
 refine ZHG ?_
 and_intros
 refine Ze hb (by decide) (by decide) λ d1 g1 l1 u1 D1=>?_
 and_intros
 refine Ze D1.bx (by decide) (by decide) λ d2 g2 l2 u2 D2=>?_
 refine ZEF l2 u2 λ x hx=>?_
 obtain ⟨n0,rfl,hn0⟩:∃ n0,x=.int n0/\2<=n0/\n0<=8:=by
  simp only [List.mem_cons,List.not_mem_nil,or_false] at hx
  rcases hx with rfl | rfl | rfl | rfl | rfl | rfl <;> exact ⟨_,rfl,by omega,by omega⟩
 have D12:=D1.trans D2
 and_intros
 have hnn : 2<=(if n0 < m then n0 else m)/\(if n0 < m then n0 else m)<=m:=by split <;> omega
 generalize (if n0 < m then n0 else m)=n at *
 refine ZAe (j:=n) (g1:=g2) ?_
 and_intros
 refine ⟨by omega,?_⟩
 refine ZCU (λ i sd gx=>∃ ts hs pc,Dr b g gx/\g2.length < gx.length/\gx[g2.length]? = some (.pl ((ts:List (Int × Int)).map ZY))/\ts.length=i/\(∀ c ∈ ts,ZId c)/\sd=[some (.ref b),some (.dat (.int m)),some (.dat (.int n)),some (.ref g2.length),hs,pc]) ⟨[],none,none,D12.app,by simp,Z2,rfl,(λ c hc=>by cases hc),rfl⟩ ?_ ?_
 ·rintro i x sd gx hx ⟨ts,hs,pc,D3,l3,c3,rfl,hts,rfl⟩
  have hbl:=hb.lt
  have hg2:=D12.len
  refine ⟨_,rfl,?_⟩
  and_intros
  refine Ze D3.bx (by decide) (by decide) λ d3 g4 l3 u3 D4=>?_
  and_intros
  refine Ze D4.bx (by decide) (by decide) λ d4 g5 l4 u4 D5=>?_
  and_intros
  refine ZDS l4 u4 λ p hp=>?_
  have hp4 : 1<=p/\p<=4:=by omega
  and_intros
  have D35:=D4.trans D5
  have c5:g5[g2.length]? = some (.pl (ts.map ZY)):=by rw [D35.kp _ (by omega) (by omega)]; exact c3
  and_intros
  refine Ze D5.bx (by omega) (by omega) λ st g6 l5 u5 D6=>?_
  have D36:=D35.trans D6
  have c6:g6[g2.length]? = some (.pl (ts.map ZY)):=by rw [D36.kp _ (by omega) (by omega)]; exact c3
  and_intros
  refine ⟨_,c6,?_,?_⟩
  ·rw [List.length_map]
   have:=(List.getElem?_eq_some_iff.mp hx).1
   rw [ZAi] at this
   omega
  have l6:=D36.len
  refine ⟨trivial,ts ++ [(p,st)],_,_,(D3.trans D36).put hbl hg2,by rw [List.length_set]; omega,?_,by rw [List.length_append]; rfl,λ c hc=>?_,rfl⟩
  ·rw [ZBA (by omega),List.map_append]
   rfl
  ·rcases List.mem_append.mp hc with hc | hc
   ·exact hts c hc
   ·rw [List.mem_singleton.mp hc]
    exact ⟨hp4.1,hp4.2,l5,u5⟩
 ·rintro sd gx ⟨ts,hs,pc,D3,l3,c3,hl,hts,rfl⟩
  rw [ZAi] at hl
  and_intros
  refine ZEC c3 ?_
  and_intros
  exact q ts gx (by omega) (by omega) hts D3
theorem ZGi {b n:Nat} {g0:G} {m:Int} {sd0:Sd} {de:DE} {P:List PyData->G->Prop} (R:Int->Prop) (hb:Bx g0 b) (hd:∀ (i:Nat) gx,Dr b g0 gx->EvP (de (sd0.set 0 (some (.dat (.int (0+(i:Int)))))) gx) λ y g2=>∃ k,y=.dat (.int k)/\R k/\Dr b g0 g2)
  (q:∀ (ks:List Int) gx,ks.length=n->(∀ k ∈ ks,R k)->Dr b g0 gx->P (ks.map .int) gx):EvP (ZBW none (ZBy n 0) (.nm 0) ZDk de sd0 (ZBy n 0) g0) P:=by
 refine ZEX (λ gx=>Dr b g0 gx) (λ i acc=>∃ ks:List Int,acc=ks.map .int/\ks.length=i/\∀ k ∈ ks,R k) (.refl hb) ⟨[],rfl,rfl,(λ k hk=>by cases hk)⟩ ?_ ?_
 ·rintro i x gx acc hx Dx ⟨ks,rfl,hl,hk⟩
  unfold ZBy at hx
  rw [List.getElem?_map] at hx
  obtain ⟨j,hj,rfl⟩:=mp hx
  obtain ⟨hj1,hj2⟩:=List.getElem?_eq_some_iff.mp hj
  rw [List.getElem_range] at hj2
  subst hj2
  refine ⟨_,by rw [Zr],true,gx,rfl,λ _=>(hd i gx Dx).imp λ y g2 ⟨k,e,hk2,D2⟩=>⟨.int k,e,trivial,D2,ks ++ [k],by rw [List.map_append]; rfl,by rw [List.length_append,hl]; rfl,λ z hz=>?_⟩,λ z=>by cases z⟩
  rcases List.mem_append.mp hz with hz | hz
  ·exact hk z hz
  ·rw [List.mem_singleton.mp hz]; exact hk2
 ·rintro acc gx Dx ⟨ks,rfl,hl,hk⟩
  unfold ZBy at hl
  rw [List.length_map,List.length_range] at hl
  exact q ks gx hl hk Dx
theorem ZJ7 {b n:Nat} {g0:G} {sd0:Sd} {de:DE} {P:List PyData->G->Prop} (R:Int × Int->Prop) (hb:Bx g0 b) (hd:∀ (i:Nat) gx,Dr b g0 gx->EvP (de (sd0.set 0 (some (.dat (.int (0+(i:Int)))))) gx) λ y g2=>∃ k,y=.dat (ZY k)/\R k/\Dr b g0 g2)
  (q:∀ (ks:List (Int × Int)) gx,ks.length=n->(∀ k ∈ ks,R k)->Dr b g0 gx->P (ks.map ZY) gx):EvP (ZBW none (ZBy n 0) (.nm 0) ZDk de sd0 (ZBy n 0) g0) P:=by
 refine ZEX (λ gx=>Dr b g0 gx) (λ i acc=>∃ ks:List (Int × Int),acc=ks.map ZY/\ks.length=i/\∀ k ∈ ks,R k) (.refl hb) ⟨[],rfl,rfl,(λ k hk=>by cases hk)⟩ ?_ ?_
 ·rintro i x gx acc hx Dx ⟨ks,rfl,hl,hk⟩
  unfold ZBy at hx
  rw [List.getElem?_map] at hx
  obtain ⟨j,hj,rfl⟩:=mp hx
  obtain ⟨hj1,hj2⟩:=List.getElem?_eq_some_iff.mp hj
  rw [List.getElem_range] at hj2
  subst hj2
  refine ⟨_,by rw [Zr],true,gx,rfl,λ _=>(hd i gx Dx).imp λ y g2 ⟨k,e,hk2,D2⟩=>⟨ZY k,e,trivial,D2,ks ++ [k],by rw [List.map_append]; rfl,by rw [List.length_append,hl]; rfl,λ z hz=>?_⟩,λ z=>by cases z⟩
  rcases List.mem_append.mp hz with hz | hz
  ·exact hk z hz
  ·rw [List.mem_singleton.mp hz]; exact hk2
 ·rintro acc gx Dx ⟨ks,rfl,hl,hk⟩
  unfold ZBy at hl
  rw [List.length_map,List.length_range] at hl
  exact q ks gx hl hk Dx
theorem ZKq {b:Nat} {r:Ru} {ts:List (Int × Int)} {g:G} {P:W->G->Prop} (hb:Bx g b) (hr:RuOk r) (ht : 2<=ts.length/\ts.length<=8) (q:∀ tn hs g',hs.length=ts.length->0<=tn->tn<=100000->(∀ i h,hs[i]? = some h->HV r ts.length i h)->Dr b g g'->P (.dat (Zs tn hs)) g'):EvP (ZAm [.ref b,.dat (ruD r),.dat (Zv ts)] g) P:=by
 have rt:=hr.t
 have rw_:=hr.w
 refine ZGB ?_
 and_intros
 rw [List.length_map]
 refine Ze hb (by decide) (by decide) λ d1 g1 l1 u1 D1=>?_
 and_intros
 refine Ze D1.bx (by decide) (by decide) λ d2 g2 l2 u2 D2=>?_
 refine ZEF l2 u2 λ x hx=>?_
 obtain ⟨far,rfl,hfar⟩:∃ n0,x=.int n0/\0<=n0/\n0<=999000:=by
  simp only [List.mem_cons,List.not_mem_nil,or_false] at hx
  rcases hx with rfl | rfl | rfl | rfl <;> exact ⟨_,rfl,by omega,by omega⟩
 and_intros
 refine Ze D2.bx (by decide) (by decide) λ calm g3 l3 u3 D3=>?_
 have D13:=D1.trans (D2.trans D3)
 and_intros
 refine ZAe (j:=ts.length) (g1:=g3) ?_
 and_intros
 refine ⟨by omega,?_⟩
 rw [show ((ts.length:Nat):Int).toNat=ts.length by omega]
 have hbxl:=hb.lt
 have hg3:=D13.len
 refine ZCU (λ i sd gx=>∃ hs z1 z2 z3 z4 z5,Dr b g gx/\g3.length < gx.length/\gx[g3.length]? = some (.pl ((hs:List Hs).map Zu))/\hs.length=i/\(∀ j h,hs[j]? = some h->HV r ts.length j h)/\sd=[some (.ref b),some (.dat (ruD r)),some (.dat (Zv ts)),some (.dat (.int (ts.length:Int))),some (.dat (.int far)),some (.dat (.int calm)),some (.ref g3.length),z1,z2,z3,z4,z5]) ⟨[],none,none,none,none,none,D13.app,by simp,Z2,rfl,(λ j h e=>by simp at e),rfl⟩ ?_ ?_
 ·rintro i x sd gx hx ⟨hs,z1,z2,z3,z4,z5,D4,hl4,c4,rfl,hv,rfl⟩
  have hi:hs.length < ts.length:=by have:=(List.getElem?_eq_some_iff.mp hx).1; rw [ZAi] at this; exact this
  have hx2:x=.int (hs.length:Int):=by
   unfold ZBy at hx
   rw [List.getElem?_map] at hx
   obtain ⟨j,hj,rfl⟩:=mp hx
   obtain ⟨hj1,hj2⟩:=List.getElem?_eq_some_iff.mp hj
   rw [List.getElem_range] at hj2
   subst hj2
   rw [Int.zero_add]
  subst hx2
  refine ⟨_,rfl,?_⟩
  and_intros
  refine Ze D4.bx (by decide) (by decide) λ d5 g5 l5 u5 D5=>?_
  and_intros
  have hup : 0<=(if decide (0 < d5)=true then (1:Int) else 0)/\(if decide (0 < d5)=true then (1:Int) else 0)<=1:=by split <;> omega
  generalize (if decide (0 < d5)=true then (1:Int) else 0)=up at *
  refine ZAe (j:=ts.length) (g1:=g5) ?_
  and_intros
  refine ⟨by omega,?_⟩
  rw [show ((ts.length:Nat):Int).toNat=ts.length by omega]
  refine ⟨by rw [ZAi]; omega,?_⟩
  refine ZJ7 (b:=b) (λ w=>(0<=w.1/\w.1<=1000000)/\0<=w.2/\w.2<=3) D5.bx (λ j gx Dx=>?_) λ bk g6 hbl hbs D6=>?_
  ·and_intros
   refine Ze Dx.bx (by decide) (by decide) λ e1 h1 m1 n1 E1=>?_
   and_intros
   refine Ze E1.bx (by decide) (by decide) λ e2 h2 m2 n2 E2=>?_
   and_intros
   refine ZDS (by split <;> omega) (by split <;> omega) λ mk hmk=>?_
   and_intros
   exact ⟨(far+e1,mk),rfl,⟨⟨by show (0:Int)<=far+e1; omega,by show far+e1<=1000000; omega⟩,by show 0<=mk; omega,by show mk<=3; omega⟩,Dx.trans (E1.trans E2)⟩
  and_intros
  refine ZAe (j:=ts.length) (g1:=g6) ?_
  and_intros
  refine ⟨by omega,?_⟩
  rw [show ((ts.length:Nat):Int).toNat=ts.length by omega]
  refine ⟨by rw [ZAi]; omega,?_⟩
  refine ZGi (b:=b) (m:=0) (λ k=>0<=k/\k<=r.t) D6.bx (λ j gx Dx=>?_) λ tl g7 htl hts D7=>?_
  ·and_intros
   refine Ze Dx.bx (by omega) (by omega) λ e1 h1 m1 n1 E1=>?_
   exact ⟨e1,rfl,⟨m1,by omega⟩,Dx.trans E1⟩
  and_intros
  refine ZAe (j:=ts.length) (g1:=g7) ?_
  and_intros
  refine ⟨by omega,?_⟩
  rw [show ((ts.length:Nat):Int).toNat=ts.length by omega]
  refine ⟨by rw [ZAi]; omega,?_⟩
  refine ZGi (b:=b) (m:=0) (λ k=>0<=k/\k<=r.w) D7.bx (λ j gx Dx=>?_) λ tm g8 hml hms D8=>?_
  ·and_intros
   refine Ze Dx.bx (by omega) (by omega) λ e1 h1 m1 n1 E1=>?_
   and_intros
   refine Ze E1.bx (by decide) (by decide) λ e2 h2 m2 n2 E2=>?_
   and_intros
   refine ZE3 (ZEv (ib1 _)) ?_
   refine ⟨_,rfl,?_,Dx.trans (E1.trans E2)⟩
   split <;> omega
  and_intros
  refine ZAe (j:=ts.length) (g1:=g8) ?_
  and_intros
  refine ⟨by omega,?_⟩
  rw [show ((ts.length:Nat):Int).toNat=ts.length by omega]
  refine ⟨by rw [ZAi]; omega,?_⟩
  refine ZBX (λ j:Nat=>PyData.int (j:Int)) (λ j:Nat=>PyData.int (tm.getD j 0 * up * (if (j:Int)=(hs.length:Int) then 0 else 1))) (List.range ts.length) (by unfold ZBy; refine List.map_congr_left λ j _=>?_; rw [Int.zero_add]) trivial (λ j hj=>?_) ?_
  ·have hj:=List.mem_range.mp hj
   refine ⟨_,by rw [Zr],?_⟩
   and_intros
   refine ZAq (Zt (a:=(0:Int)) (by omega)) ?_
   and_intros
   have htb : 0<=tm.getD j 0/\tm.getD j 0<=r.w:=by
    rw [List.getD_eq_getElem?_getD,List.getElem?_eq_getElem (show j < tm.length by omega)]
    exact hms _ (List.getElem_mem _)
   generalize tm.getD j 0=tk at *
   refine ZE3 (ZLY (by omega)) ?_
   and_intros
   refine ZE3 (ZEv (ib1 _)) ?_
   refine ⟨?_,rfl⟩
   rw [Zj]
   congr 2
   by_cases hjj:(j:Int)=(hs.length:Int)
   ·rw [if_pos hjj,decide_eq_true hjj]; rfl
   ·rw [if_neg hjj,decide_eq_false hjj]; rfl
  generalize htm2:((List.range ts.length).map λ j:Nat=>tm.getD j 0 * up * (if (j:Int)=(hs.length:Int) then 0 else 1))=tm2
  have hcv:((List.range ts.length).map λ j:Nat=>PyData.int (tm.getD j 0 * up * (if (j:Int)=(hs.length:Int) then 0 else 1)))=tm2.map .int:=by
   rw [← htm2,List.map_map]
   rfl
  rw [hcv]
  have DA:=D5.trans (D6.trans (D7.trans D8))
  have c9:g8[g3.length]? = some (.pl (hs.map Zu)):=by rw [DA.kp _ (by omega) (by omega)]; exact c4
  have l9:=DA.len
  and_intros
  refine ⟨_,c9,by rw [List.length_map]; omega,?_⟩
  refine ⟨trivial,hs ++ [(up,bk,tl,tm2)],_,_,_,_,_,(D4.trans DA).put hbxl hg3,by rw [List.length_set]; omega,?_,by rw [List.length_append]; rfl,snocV hv ?_,rfl⟩
  ·rw [ZBA (by omega),List.map_append]
   rfl
  have hm2:∀ k ∈ tm2,(0<=k/\k<=r.w)/\(up=1 ∨ k=0):=λ k hk=>by
   rw [← htm2] at hk
   obtain ⟨j,hj,rfl⟩:=List.mem_map.mp hk
   have hj:=List.mem_range.mp hj
   have htb : 0<=tm.getD j 0/\tm.getD j 0<=r.w:=by
    rw [List.getD_eq_getElem?_getD,List.getElem?_eq_getElem (show j < tm.length by omega)]
    exact hms _ (List.getElem_mem _)
   generalize tm.getD j 0=tk at *
   have hu:up=0 ∨ up=1:=by omega
   rcases hu with rfl | rfl
   ·simp; omega
   ·split <;> simp <;> omega
  refine ⟨hup,hbl,hbs,htl,hts,?_,λ k hk=>(hm2 k hk).1,?_,?_⟩
  ·show tm2.length=_
   rw [← htm2,List.length_map,List.length_range]
  ·show tm2[hs.length]? = some 0
   rw [← htm2,List.getElem?_map,List.getElem?_range hi]
   show some (_ * _ * _)=some 0
   rw [if_pos rfl,Int.mul_zero]
  ·show up=1 ∨ ∀ k ∈ tm2,k=0
   by_cases hu:up=1
   ·exact .inl hu
   ·exact .inr λ k hk=>((hm2 k hk).2).resolve_left hu
 ·rintro sd gx ⟨hs,z1,z2,z3,z4,z5,D4,hl4,c4,hl,hv,rfl⟩
  rw [ZAi] at hl
  and_intros
  refine Ze D4.bx (by decide) (by decide) λ e1 h1 m1 n1 E1=>?_
  refine ZEF m1 n1 λ x hx=>?_
  obtain ⟨tm,rfl,htm⟩:∃ n0,x=.int n0/\0 < n0/\n0<=100000:=by
   simp only [List.mem_cons,List.not_mem_nil,or_false] at hx
   rcases hx with rfl | rfl | rfl <;> exact ⟨_,rfl,by omega,by omega⟩
  and_intros
  refine Ze E1.bx (by omega) (by omega) λ tn h2 m2 n2 E2=>?_
  have E12:=E1.trans E2
  have c9:h2[g3.length]? = some (.pl (hs.map Zu)):=by rw [E12.kp _ (by omega) (by omega)]; exact c4
  and_intros
  refine ZEC c9 ?_
  and_intros
  exact q tn hs h2 hl m2 (by omega) hv (D4.trans E12)
theorem ZMl {ds:List PyData} {i:Nat} {d:PyData} (hi:i < ds.length):ZBz ds none (some (i:Int)) ++ [d] ++ ZBz ds (some ((i:Int)+1)) none=ds.set i d:=by
 have e1:ZBz ds none (some (i:Int))=ds.take i:=by
  have h1:HT.sIx ds.length ds.length (some (i:Int))=i:=by
   show (if (i:Int) < 0 then ((i:Int)+(ds.length:Int)).toNat else min (i:Int).toNat ds.length)=i
   rw [if_neg (by omega)]
   omega
  have h2:HT.sIx ds.length 0 none=0:=rfl
  unfold ZBz
  rw [h1,h2,List.drop_zero,Nat.sub_zero]
 have e2:ZBz ds (some ((i:Int)+1)) none=ds.drop (i+1):=by
  have h1:HT.sIx ds.length 0 (some ((i:Int)+1))=i+1:=by
   show (if (i:Int)+1 < 0 then ((i:Int)+1+(ds.length:Int)).toNat else min ((i:Int)+1).toNat ds.length)=i+1
   rw [if_neg (by omega)]
   omega
  have h2:HT.sIx ds.length ds.length none=ds.length:=rfl
  unfold ZBz
  rw [h1,h2,List.take_of_length_le (by rw [List.length_drop]; omega)]
 rw [e1,e2,List.set_eq_take_append_cons_drop,if_pos hi,List.append_assoc]
 rfl
theorem ZHK {ds:List PyData} (lo hi:Option Int):(ZBz ds lo hi).length<=ds.length:=by
 unfold ZBz
 rw [List.length_take,List.length_drop]
 omega
theorem ZAC {ds:List PyData} {i:Nat} {d:PyData} {g:G} {P:W->G->Prop} (hi:i < ds.length) (hl:ds.length<=400) (q:P (.dat (.tuple (ds.set i d))) g):EvP (ZAh [.dat (.tuple ds),.dat (.int (i:Int)),.dat d] g) P:=by
 refine ZNv ?_
 and_intros
 have h1:=ZHK (ds:=ds) none (some (i:Int))
 have h2:=ZHK (ds:=ds) (some ((i:Int)+1)) none
 refine ZEm (show _+1<=1000 by omega) ?_
 and_intros
 refine ZEm (by rw [List.length_append]; show _+1+_<=1000; omega) ?_
 and_intros
 have e:=ZMl (d:=d) hi
 rw [show ZBz ds none (some (i:Int)) ++ (λ ds=>d :: ds) [] ++ ZBz ds (some ((i:Int)+1)) none=ds.set i d from e]
 exact q
theorem ZFd {ts:List (Int × Int)} {i:Nat} {n:Int} {g:G} {P:W->G->Prop} (hi:i < ts.length) (hc : 0 < (ts.getD i (0,0)).1/\(ts.getD i (0,0)).1 < 2 ^ 60) (q:P (.dat (.int (ZDA (ts.getD i (0,0)) n))) g):EvP (ZA2 [.dat (Zv ts),.dat (.int (i:Int)),.dat (.int n)] g) P:=by
 refine ZH3 ?_
 and_intros
 refine ZAq (Zt (a:=(0,0)) hi) ?_
 and_intros
 unfold ZDA at q
 refine ⟨λ h=>?_,λ h=>?_⟩
 ·rw [if_pos (of_decide_eq_true h)] at q
  and_intros
  exact q
 ·rw [if_neg (of_decide_eq_false h)] at q
  and_intros
  refine ZNj hc.1 (by omega) ?_
  and_intros
  exact q
theorem ZDG {ss:List Str} {s:Str}:((ss.map PyData.str).any λ y=>y.eqv (.str s))=ZDY ss s:=by
 unfold ZDY inV
 induction ss with
 | nil=>rfl
 | cons a r ih =>
  rw [List.map_cons,List.any_cons,ih,List.map_cons,List.any_cons]
  rfl
theorem ZDN {ss:List Str} (h:ss.Sublist ZCJ):PyData.canLayAll0 (ss.map .str)=true:=by
 have h2:∀ s ∈ ss,ok0 (.str s)=true:=λ s hs=>ok7 s (h.mem hs)
 clear h
 induction ss with
 | nil=>rfl
 | cons a r ih =>
  have h3:=h2 a (List.mem_cons_self ..)
  unfold ok0 at h3
  rw [Bool.and_eq_true] at h3
  show (PyData.canLay0 (.str a) && PyData.canLayAll0 (r.map .str))=true
  rw [h3.1,ih λ s hs=>h2 s (List.mem_cons_of_mem _ hs)]
  rfl
theorem ZAn {g:G} {c c':Cell}:(g ++ [c]).set g.length c'=g ++ [c']:=by
 rw [List.set_append_right _ _ (Nat.le_refl _),Nat.sub_self]
 rfl
theorem ZO3 {r:Ru} {ts:List (Int × Int)} {i:Nat} {n y:Int} {g:G} {P:W->G->Prop} (hcl:r.cl.Sublist ZCJ) (hi:i < ts.length) (h8:ts.length<=8) (hck:∀ c ∈ ts,ZId c) (q:P (.ref g.length) (g ++ [.pl ((ZBe r.cl i y (ZDA (ts.getD i (0,0)) n % ((ts.length:Nat):Int))).map .int)])):EvP (ZAk [.dat (ruD r),.dat (Zv ts),.dat (.int n),.dat (.int (i:Int)),.dat (.int y)] g) P:=by
 have hc:=hck _ (ZE1 (d:=(0,0)) hi)
 refine ZGT ?_
 and_intros
 refine ZDn (by rw [ZDN hcl]; decide +kernel) ?_
 rw [ZDG]
 generalize hfar:ZDA (ts.getD i (0,0)) n % ((ts.length:Nat):Int)=far at *
 and_intros
 refine ⟨λ ho=>?_,λ ho=>?_⟩
 ·and_intros
  refine ⟨_,Z2,by show (1:Nat) < 1000; decide,?_⟩
  rw [ZAn]
  and_intros
  refine ZFd hi ⟨by have:=hc.1; omega,by have:=hc.2.1; omega⟩ ?_
  and_intros
  rw [List.length_map]
  refine ZEJ (by omega) ?_
  rw [hfar]
  and_intros
  refine ZDn (by rw [ZDN hcl]; decide +kernel) ?_
  rw [ZDG]
  and_intros
  refine ⟨λ ha=>?_,λ ha=>?_⟩
  ·and_intros
   rw [Zj]
   refine ⟨λ hn=>?_,λ hn=>?_⟩
   ·have hn : ¬ far=(i:Int):=by simpa using hn
    and_intros
    refine ⟨_,Z2,by show (2:Nat) < 1000; decide,?_⟩
    rw [ZAn]
    and_intros
    rw [show ZBe r.cl i y far=[y,(i:Int)] ++ [far] by unfold ZBe; rw [if_pos ho,if_pos ⟨ha,hn⟩]] at q
    exact q
   ·have hn:far=(i:Int):=by simpa using hn
    and_intros
    rw [show ZBe r.cl i y far=[y,(i:Int)] by unfold ZBe; rw [if_pos ho,if_neg (λ z=>z.2 hn)]; rfl] at q
    exact q
  ·rw [show ZBe r.cl i y far=[y,(i:Int)] by unfold ZBe; rw [if_pos ho,if_neg (λ z=>by rw [ha] at z; cases z.1)]; rfl] at q
   and_intros
   refine bF ?_
   and_intros
   exact q
 ·skip
  and_intros
  refine ZFd hi ⟨by have:=hc.1; omega,by have:=hc.2.1; omega⟩ ?_
  and_intros
  rw [List.length_map]
  refine ZEJ (by omega) ?_
  rw [hfar]
  and_intros
  refine ZDn (by rw [ZDN hcl]; decide +kernel) ?_
  rw [ZDG]
  and_intros
  refine ⟨λ ha=>?_,λ ha=>?_⟩
  ·and_intros
   rw [Zj]
   refine ⟨λ hn=>?_,λ hn=>?_⟩
   ·have hn : ¬ far=(i:Int):=by simpa using hn
    and_intros
    refine ⟨_,Z2,by show (1:Nat) < 1000; decide,?_⟩
    rw [ZAn]
    and_intros
    rw [show ZBe r.cl i y far=[y] ++ [far] by unfold ZBe; rw [if_neg (by rw [ho]; exact Bool.false_ne_true),if_pos ⟨ha,hn⟩]] at q
    exact q
   ·have hn:far=(i:Int):=by simpa using hn
    and_intros
    rw [show ZBe r.cl i y far=[y] by unfold ZBe; rw [if_neg (by rw [ho]; exact Bool.false_ne_true),if_neg (λ z=>z.2 hn)]; rfl] at q
    exact q
  ·rw [show ZBe r.cl i y far=[y] by unfold ZBe; rw [if_neg (by rw [ho]; exact Bool.false_ne_true),if_neg (λ z=>by rw [ha] at z; cases z.1)]; rfl] at q
   and_intros
   refine bF ?_
   and_intros
   exact q
theorem y_inR {x:PyData} {n:Nat} {ys:List PyData} {g:G} {P:W->G->Prop} (hn:g[n]? = some (.pl ys)) (h:(ok0 x && PyData.canLayAll0 ys)=true) (q:P (.dat (.bool (ys.any λ y=>y.eqv x))) g):EvP (ZCl (.dat x) (.ref n) g) P:=by
 refine ⟨_,_,?_,q⟩
 show ((lk g n).bind λ ys=>if (ok0 x && PyData.canLayAll0 ys)=true then some (W.dat (.bool (ys.any λ y=>y.eqv x)),g) else none)=_
 rw [ZE7 hn]
 exact if_pos h
theorem ZLh {x:PyData} {n:Nat} {ys:List PyData} {g:G} {P:W->G->Prop} (hn:g[n]? = some (.pl ys)) (h:(ok0 x && PyData.canLayAll0 ys)=true) (q:P (.dat (.bool (!ys.any λ y=>y.eqv x))) g):EvP (ZB9 (.dat x) (.ref n) g) P:=by
 refine ⟨_,_,?_,q⟩
 show ((lk g n).bind λ ys=>if (ok0 x && PyData.canLayAll0 ys)=true then some (W.dat (.bool !(ys.any λ y=>y.eqv x)),g) else none)=_
 rw [ZE7 hn]
 exact if_pos h
theorem ZIJ {α : Type} {enc : α->PyData} {d : α}:∀ (L:List α) (k:Nat),ZCR k (L.map enc)=(List.range L.length).map λ j:Nat=>PyData.tuple [.int ((k+j:Nat):Int),enc (L.getD j d)]
 | [],_=>rfl
 | a :: L,k=>by
  rw [List.map_cons,ZCR,ZIJ L (k+1),List.length_cons,List.range_succ_eq_map,List.map_cons,List.map_map]
  congr 1
  refine List.map_congr_left λ j _=>?_
  show PyData.tuple [.int ((k+1+j:Nat):Int),enc (L.getD j d)]=.tuple [.int ((k+(j+1):Nat):Int),enc ((a :: L).getD (j+1) d)]
  rw [show k+1+j=k+(j+1) by omega]
  rfl
theorem ZIE {α : Type} {enc : α->PyData} (d : α) (L:List α):ZCR 0 (L.map enc)=(List.range L.length).map λ j:Nat=>PyData.tuple [.int (j:Int),enc (L.getD j d)]:=by
 rw [ZIJ (d:=d)]
 refine List.map_congr_left λ j _=>?_
 rw [Nat.zero_add]
theorem ZNo {ks:List (Int × Int)} {g:G} {P:W->G->Prop} (hn:ks.Nodup) (hl:ks.length<=6) (q:P (.dat (.list ((ZEx ks).map ZY))) g):EvP (f1 ZHg [.dat (.list (ks.map ZY))] g) P:=by
 refine ZLw ?_ q
 show ZHg (.dat (.list (ks.map ZY))) g=_
 unfold ZHg
 show (match ZBK (ks.map ZY) with | some ns=>_ | none=>_)=_
 have hp:∀ ks:List (Int × Int),L2.pairsOf (ks.map ZY)=some ks:=by
  intro ks
  induction ks with
  | nil=>rfl
  | cons k ks ih=>rw [List.map_cons,L2.pairsOf,ih]; rfl
 cases ks with
 | nil=>simp [ZBK,ZIR,ZEx,List.mergeSort_nil]
 | cons k ks =>
  show ((L2.pairsOf ((k :: ks).map ZY)).bind _)=_
  rw [hp]
  exact if_pos ⟨hn,hl⟩
theorem ZDU {ds:List PyData} {c:Int} (h : 0<=c):ZBz ds none (some c)=ds.take c.toNat:=by
 have h1:HT.sIx ds.length ds.length (some c)=min c.toNat ds.length:=by
  show (if c < 0 then (c+(ds.length:Int)).toNat else min c.toNat ds.length)=_
  rw [if_neg (by omega)]
 have h2:HT.sIx ds.length 0 none=0:=rfl
 unfold ZBz
 rw [h1,h2,List.drop_zero,Nat.sub_zero]
 by_cases z:c.toNat<=ds.length
 ·rw [Nat.min_eq_left z]
 ·rw [List.take_of_length_le (by omega),List.take_of_length_le (by omega)]
theorem ZMq {r:Ru} {told due:List Int} {x:Int} {g:G} {P:W->G->Prop} (h0 : 0<=r.c) (h8:told.length<=8) (h6:(ZBg told r.t x due).length<=6) {dn:Nat} (hd:g[dn]? = some (.pl (due.map .int))) (q:P (.dat (.list ((ZER r told x due).map .int))) g):EvP (ZAT [.dat (ruD r),.dat (ZZ told),.dat (.int x),.ref dn] g) P:=by
 refine ZFy ?_
 and_intros
 refine ⟨by rw [ZBl,List.length_map]; omega,?_⟩
 refine ZC5 (λ j:Nat=>PyData.tuple [.int (j:Int),.int (told.getD j 0)]) (λ j:Nat=>decide (told.getD j 0 < r.t) && (!decide ((j:Int)=x) && !due.contains (j:Int))) (λ j:Nat=>PyData.tuple [.int (told.getD j 0),.int (j:Int)]) (List.range told.length) (ZIE 0 told) trivial (λ j hj=>?_) ?_
 ·refine ⟨_,rfl,?_⟩
  and_intros
  refine ⟨λ h1=>?_,λ h1=>⟨by rw [h1]; rfl,rfl,λ z=>by rw [h1] at z; cases z⟩⟩
  and_intros
  rw [Zj]
  refine ⟨λ h2=>?_,λ h2=>⟨by rw [h1,h2]; rfl,rfl,λ z=>by rw [h1,h2] at z; cases z⟩⟩
  and_intros
  refine ZLh hd (by rw [ZBU]; rfl) ?_
  rw [L2.any_ints]
  and_intros
  refine ⟨by rw [h1,h2]; rfl,rfl,λ _=>?_⟩
  and_intros
  exact ⟨rfl,rfl⟩
 have hfr:((List.range told.length).filter (λ j:Nat=>decide (told.getD j 0 < r.t) && (!decide ((j:Int)=x) && !due.contains (j:Int)))).map (λ j:Nat=>PyData.tuple [.int (told.getD j 0),.int (j:Int)])=(ZBg told r.t x due).map ZY:=by
  unfold ZBg ZFp
  rw [List.map_map]
  rfl
 rw [hfr]
 and_intros
 refine ZNo (ZHV ..) h6 ?_
 and_intros
 rw [ZDU h0,← List.map_take]
 have hsl:(ZEx (ZBg told r.t x due)).length<=6:=by
  unfold ZEx
  rw [(List.mergeSort_perm _ _).length_eq]
  exact h6
 refine ⟨by rw [List.length_map,List.length_take]; omega,?_⟩
 refine ZBX ZY (λ p:Int × Int=>PyData.int p.2) _ rfl trivial (λ p _=>⟨_,rfl,?_⟩) ?_
 ·and_intros
  exact ⟨rfl,rfl⟩
 have e:((ZEx (ZBg told r.t x due)).take r.c.toNat).map (λ p:Int × Int=>PyData.int p.2)=(ZER r told x due).map .int:=by
  unfold ZER
  rw [List.map_map]
  rfl
 rw [e]
 and_intros
 exact q
theorem ZJy {r:Ru} {told due:List Int} {x k:Int} (h:k ∈ ZER r told x due) : 0<=k/\k.toNat < told.length:=by
 unfold ZER at h
 obtain ⟨p,hp,rfl⟩:=List.mem_map.mp h
 exact ZKO ((List.mergeSort_perm _ _).mem_iff.mp (List.mem_of_mem_take hp))
theorem ZJA {r:Ru} {ts:List (Int × Int)} {tn:Int} {hs:List Hs} {h:Hs} {i j:Nat} {g:G} {P:W->G->Prop} (hcl:r.cl.Sublist ZCJ) (h0 : 0<=r.c) (hi:i < ts.length) (hj:j < ts.length) (hne:j ≠ i) (h8:ts.length<=8) (hck:∀ c ∈ ts,ZId c) (hh:hs[i]? = some h) (hbl:h.2.1.length=ts.length) (htl:h.2.2.1.length=ts.length)
  (q:∀ far news,far=ZDA (ts.getD i (0,0)) tn % ((ts.length:Nat):Int)->news=ZER r h.2.2.1 i (ZBe r.cl i j far)->∀ g',Ex g g'->P (.dat (.tuple [ZHE (ZEB h.2.1 (ZBe r.cl i j far) news ts.length),ZZ (ZBE h.2.2.1 news)])) g'):EvP (ZBO [.dat (ruD r),.dat (Zv ts),.dat (Zs tn hs),.dat (.int (i:Int)),.dat (.int (j:Int))] g) P:=by
 obtain ⟨up,book,told,timers⟩:=h
 refine ZHw ?_
 and_intros
 refine ZAq (ZG9 hh) ?_
 and_intros
 refine ZO3 hcl hi h8 hck ?_
 and_intros
 have q:=q _ _ rfl rfl _ (Ex.refl.app (c:=.pl ((ZBe r.cl (i:Int) (j:Int) (ZDA (ts.getD i (0,0)) tn % ((ts.length:Nat):Int))).map .int)))
 have hd:(g ++ [Cell.pl ((ZBe r.cl (i:Int) (j:Int) (ZDA (ts.getD i (0,0)) tn % ((ts.length:Nat):Int))).map .int)])[g.length]? = some (.pl ((ZBe r.cl (i:Int) (j:Int) (ZDA (ts.getD i (0,0)) tn % ((ts.length:Nat):Int))).map .int)):=Z2
 generalize hgg:g ++ [Cell.pl ((ZBe r.cl (i:Int) (j:Int) (ZDA (ts.getD i (0,0)) tn % ((ts.length:Nat):Int))).map .int)]=gg at *
 clear hgg
 generalize hfar:ZDA (ts.getD i (0,0)) tn % ((ts.length:Nat):Int)=far at *
 have htl:told.length=ts.length:=htl
 have hbl:book.length=ts.length:=hbl
 have h6:(ZBg told r.t i (ZBe r.cl i j far)).length<=6:=by
  have:=ZKP (told:=told) (most:=r.t) (x:=i) (y:=j) (due:=ZBe r.cl i j far) (i:=i) (j:=j) rfl rfl (by rw [htl]; exact hi) (by rw [htl]; exact hj) hne (by unfold ZBe; exact List.mem_append_left _ (List.mem_cons_self ..))
  omega
 refine ZMq h0 (by omega) h6 hd ?_
 have hmem:∀ k ∈ ZER r told i (ZBe r.cl i j far),0<=k/\k.toNat < told.length:=λ k=>ZJy
 generalize ZER r told i (ZBe r.cl i j far)=news at *
 generalize ZBe r.cl i j far=due at *
 and_intros
 refine ⟨by rw [ZBl,List.length_map]; omega,?_⟩
 refine ZC5 (λ k:Nat=>PyData.tuple [.int (k:Int),ZY (book.getD k (0,0))]) (λ k:Nat=>due.contains (k:Int) || news.contains (k:Int)) (λ k:Nat=>ZJd (k,book.getD k (0,0))) (List.range book.length) (ZIE (0,0) book) trivial (λ k hk=>?_) ?_
 ·refine ⟨_,rfl,?_⟩
  and_intros
  refine y_inR hd (by rw [ZBU]; rfl) ?_
  rw [L2.any_ints]
  and_intros
  refine ⟨λ h1=>⟨by rw [h1]; rfl,rfl,λ _=>?_⟩,λ h1=>?_⟩
  ·and_intros
   exact ⟨rfl,rfl⟩
  and_intros
  refine y_inL (by rw [ZBU]; rfl) ?_
  rw [L2.any_ints]
  and_intros
  refine ⟨by rw [h1]; rfl,rfl,λ _=>?_⟩
  and_intros
  exact ⟨rfl,rfl⟩
 have hnt:((List.range book.length).filter (λ k:Nat=>due.contains (k:Int) || news.contains (k:Int))).map (λ k:Nat=>ZJd (k,book.getD k (0,0)))=(ZEB book due news ts.length).map ZJd:=by
  unfold ZEB
  rw [List.map_map,hbl]
  rfl
 rw [hnt]
 and_intros
 refine ZCU (λ n sd gx=>gx=gg/\∃ z,sd=[some (.dat (ruD r)),some (.dat (Zv ts)),some (.dat (Zs tn hs)),some (.dat (.int (i:Int))),some (.dat (.int (j:Int))),some (.dat (.int tn)),some (.dat (.tuple (hs.map Zu))),some (.dat (.int up)),some (.dat (Zv book)),some (.dat (ZZ (ZBE told (news.take n)))),some (.dat (ZZ timers)),some (.ref g.length),some (.dat (.list (news.map .int))),some (.dat (ZHE (ZEB book due news ts.length))),z]) ⟨rfl,_,rfl⟩ ?_ ?_
 ·rintro n x sd gx hx ⟨rfl,z,rfl⟩
  rw [List.getElem?_map] at hx
  obtain ⟨k,hk,rfl⟩:=mp hx
  obtain ⟨k0,k1⟩:=hmem k (List.mem_of_getElem? hk)
  obtain ⟨m,rfl⟩:∃ m:Nat,k=(m:Int):=⟨k.toNat,by omega⟩
  have hm:m < (ZBE told (news.take n)).length:=by rw [ZCo]; omega
  refine ⟨_,rfl,?_⟩
  and_intros
  refine ZAq (Zt (a:=(0:Int)) hm) ?_
  and_intros
  refine ZAC (by rw [List.length_map]; exact hm) (by rw [List.length_map,ZCo]; omega) ?_
  and_intros
  refine ⟨trivial,rfl,some (.dat (.int (m:Int))),?_⟩
  have e:(((ZBE told (news.take n)).map PyData.int).set m (.int ((ZBE told (news.take n)).getD m 0+1)))=(ZBE told (news.take (n+1))).map .int:=by
   rw [List.take_add_one,hk]
   show _=(ZBE told (news.take n ++ [(m:Int)])).map PyData.int
   rw [ZIu,List.map_set]
   rfl
  rw [e]
  rfl
 ·rintro sd gx ⟨rfl,z,rfl⟩
  rw [List.length_map,List.take_length]
  and_intros
  exact q
theorem ZHt {a b:Int × Int} {g:G} {P:W->G->Prop} (q:P (.dat (.bool (gtW a b))) g):EvP (ZCN [.dat (ZY a),.dat (ZY b)] g) P:=by
 refine ZKr ?_
 and_intros
 exact q
theorem ZJU {cl:List Str} {s:Str} {g:G} {P:W->G->Prop} (hcl:cl.Sublist ZCJ) (hs:ok0 (.str s)=true) (q:P (.dat (.bool (ZDY cl s))) g):EvP (ZCl (.dat (.str s)) (.dat (clD cl)) g) P:=by
 refine ZDn (by rw [ZDN hcl,hs]; rfl) ?_
 rw [ZDG]
 exact q
theorem ZOi {cl:List Str} {s:Str} {g:G} {P:W->G->Prop} (hcl:cl.Sublist ZCJ) (hs:ok0 (.str s)=true) (q:P (.dat (.bool (!ZDY cl s))) g):EvP (ZB9 (.dat (.str s)) (.dat (clD cl)) g) P:=by
 refine ZIi (by rw [ZDN hcl,hs]; rfl) ?_
 rw [ZDG]
 exact q
theorem ZLI {r:Ru} {old w:Int × Int} {g:G} {P:W->G->Prop} (hcl:r.cl.Sublist ZCJ) (q:P (.dat (.bool (ZHJ r.cl old w))) g):EvP (ZA4 [.dat (ruD r),.dat (ZY old),.dat (ZY w)] g) P:=by
 refine ZGw ?_
 unfold ZHJ at q
 and_intros
 refine ZJU hcl (by decide +kernel) ?_
 and_intros
 refine ⟨λ h=>?_,λ h=>?_⟩
 ·rw [if_pos h] at q
  and_intros
  refine ZHt ?_
  and_intros
  exact q
 ·rw [if_neg (by rw [h]; exact Bool.false_ne_true)] at q
  and_intros
  have e:=ZLd w old
  have e':(!(ZY w).eqv (ZY old)) = !decide (w=old):=by rw [e]
  rw [← e'] at q
  exact q
theorem ZIk {r:Ru} {h:Hs} {y n:Nat} {w:Int × Int} {g:G} {P:W->G->Prop} (hcl:r.cl.Sublist ZCJ) (hl:HL n h) (hy:y < n) (hn:n<=8) (q:P (.dat (Zu (ZLO r.cl h y w))) g):EvP (ZBP [.dat (ruD r),.dat (Zu h),.dat (.int (y:Int)),.dat (ZY w)] g) P:=by
 obtain ⟨up,bk,td,tm⟩:=h
 have hbl:bk.length=n:=hl.bl
 have htl:td.length=n:=hl.tl
 show EvP (ZBP [.dat (ruD r),.dat (.tuple [.int up,Zv bk,ZZ td,ZZ tm]),.dat (.int (y:Int)),.dat (ZY w)] g) P
 refine ZJH ?_
 unfold ZLO at q
 have q:P (.dat (Zu (if up=1/\ZDY r.cl "refute" = true/\gtW w (bk.getD y (0,0))=true then (up,bk.set y (w.1+1,0),td.set y 0,tm) else (up,bk,td,tm)))) g:=q
 and_intros
 rw [Zj]
 refine ⟨λ h1=>?_,λ h1=>?_⟩
 ·have h1:up=1:=of_decide_eq_true h1
  and_intros
  refine ZJU hcl (by decide +kernel) ?_
  and_intros
  refine ⟨λ h2=>?_,λ h2=>?_⟩
  ·and_intros
   refine ZAq (Zt (a:=(0,0)) (by omega)) ?_
   and_intros
   refine ZHt ?_
   and_intros
   refine ⟨λ h3=>?_,λ h3=>?_⟩
   ·rw [if_pos ⟨h1,h2,h3⟩] at q
    and_intros
    refine ZAC (by rw [List.length_map]; omega) (by rw [List.length_map]; omega) ?_
    and_intros
    refine ZAC (by rw [List.length_map]; omega) (by rw [List.length_map]; omega) ?_
    and_intros
    have e1:(bk.map ZY).set y (.tuple [.int (w.1+1),.int 0])=(bk.set y (w.1+1,0)).map ZY:=by rw [List.map_set]; rfl
    have e2:(td.map PyData.int).set y (.int 0)=(td.set y 0).map .int:=by rw [List.map_set]
    rw [show (λ ds=>PyData.int (w.1+1) :: ds) ((λ ds=>PyData.int 0 :: ds) [])=[PyData.int (w.1+1),PyData.int 0] from rfl,e1,e2]
    exact q
   ·rw [if_neg (λ z=>by rw [h3] at z; cases z.2.2)] at q
    and_intros
    exact q
  ·rw [if_neg (λ z=>by rw [h2] at z; cases z.2.1)] at q
   and_intros
   refine bF ?_
   and_intros
   exact q
 ·rw [if_neg (λ z=>of_decide_eq_false h1 z.1)] at q
  and_intros
  refine bF ?_
  and_intros
  exact q
theorem ZLM {r:Ru} {h:Hs} {o n:Nat} {w:Int × Int} {g:G} {P:W->G->Prop} (hcl:r.cl.Sublist ZCJ) (hl:HL n h) (hy:o < n) (hn:n<=8) (q:P (.dat (Zu (ZK5 r.cl h o w))) g):EvP (ZCO [.dat (ruD r),.dat (Zu h),.dat (.int (o:Int)),.dat (ZY w)] g) P:=by
 obtain ⟨up,bk,td,tm⟩:=h
 have hbl:bk.length=n:=hl.bl
 have htl:td.length=n:=hl.tl
 have hml:tm.length=n:=hl.ml
 show EvP (ZCO [.dat (ruD r),.dat (.tuple [.int up,Zv bk,ZZ td,ZZ tm]),.dat (.int (o:Int)),.dat (ZY w)] g) P
 refine ZLD ?_
 unfold ZK5 at q
 have q:P (.dat (Zu (if ZHJ r.cl (bk.getD o (0,0)) w=true then (up,bk.set o w,td.set o 0,if w.2=1 then tm else tm.set o 0) else (up,bk,td,tm)))) g:=q
 and_intros
 refine ZAq (Zt (a:=(0,0)) (by omega)) ?_
 and_intros
 refine ZLI hcl ?_
 and_intros
 have e1:(bk.map ZY).set o (ZY w)=(bk.set o w).map ZY:=by rw [List.map_set]
 have e2:(td.map PyData.int).set o (.int 0)=(td.set o 0).map .int:=by rw [List.map_set]
 have e3:(tm.map PyData.int).set o (.int 0)=(tm.set o 0).map .int:=by rw [List.map_set]
 refine ⟨λ h1=>?_,λ h1=>?_⟩
 ·rw [Bool.not_eq_true'] at h1
  rw [if_neg (by rw [h1]; exact Bool.false_ne_true)] at q
  and_intros
  exact q
 ·rw [Bool.not_eq_false'] at h1
  rw [if_pos h1] at q
  and_intros
  rw [Zj]
  refine ⟨λ h2=>?_,λ h2=>?_⟩
  ·have h2 : ¬ w.2=1:=by simpa using h2
   rw [if_neg h2] at q
   and_intros
   refine ZAC (by rw [List.length_map]; omega) (by rw [List.length_map]; omega) ?_
   and_intros
   refine ZAC (by rw [List.length_map]; omega) (by rw [List.length_map]; omega) ?_
   and_intros
   refine ZAC (by rw [List.length_map]; omega) (by rw [List.length_map]; omega) ?_
   and_intros
   rw [e1,e2,e3]
   exact q
  ·have h2:w.2=1:=by simpa using h2
   rw [if_pos h2] at q
   and_intros
   refine ZAC (by rw [List.length_map]; omega) (by rw [List.length_map]; omega) ?_
   and_intros
   refine ZAC (by rw [List.length_map]; omega) (by rw [List.length_map]; omega) ?_
   and_intros
   rw [e1,e2]
   exact q
theorem ZKm {r:Ru} {h:Hs} {y n:Nat} {ns:List (Nat × (Int × Int))} {g:G} {P:W->G->Prop} (hcl:r.cl.Sublist ZCJ) (hl:HL n h) (hy:y < n) (hn:n<=8) (hns:∀ x ∈ ns,x.1 < n) (q:P (.dat (Zu (ZCb r.cl y h ns))) g):EvP (ZCz [.dat (ruD r),.dat (Zu h),.dat (.int (y:Int)),.dat (ZHE ns)] g) P:=by
 refine ZKl ?_
 and_intros
 refine ZCU (λ i sd gx=>gx=g/\∃ z4 z5,sd=[some (.dat (ruD r)),some (.dat (Zu (ZCb r.cl y h (ns.take i)))),some (.dat (.int (y:Int))),some (.dat (ZHE ns)),z4,z5]) ⟨rfl,_,_,rfl⟩ ?_ ?_
 ·rintro i x sd gx hx ⟨rfl,z4,z5,rfl⟩
  rw [List.getElem?_map] at hx
  obtain ⟨k,hk,rfl⟩:=mp hx
  have hkn:=hns k (List.mem_of_getElem? hk)
  have hL:=ZF0 (cl:=r.cl) (y:=y) (ns:=ns.take i) hl
  have e:=ZIW (cl:=r.cl) (y:=y) (h:=h) hk
  refine ⟨_,rfl,?_⟩
  and_intros
  rw [Zj]
  refine ⟨λ h1=>?_,λ h1=>?_⟩
  ·have h1:k.1=y:=by have:=of_decide_eq_true h1; omega
   and_intros
   refine ZIk hcl hL hy hn ?_
   and_intros
   refine ⟨trivial,rfl,some (.dat (.int (k.1:Int))),some (.dat (ZY k.2)),?_⟩
   rw [e]
   unfold ZET
   rw [if_pos h1]
   rfl
  ·have h1 : ¬ k.1=y:=by have:=of_decide_eq_false h1; omega
   and_intros
   refine ZLM hcl hL hkn hn ?_
   and_intros
   refine ⟨trivial,rfl,some (.dat (.int (k.1:Int))),some (.dat (ZY k.2)),?_⟩
   rw [e]
   unfold ZET
   rw [if_neg h1]
   rfl
 ·rintro sd gx ⟨rfl,z4,z5,rfl⟩
  rw [List.length_map,List.take_length]
  and_intros
  exact q
theorem ZHU {tn:Int} {hs:List Hs} {h:Hs} {i:Nat} {g:G} {P:W->G->Prop} (hi:i < hs.length) (hn:hs.length<=8) (q:P (.dat (Zs tn (hs.set i h))) g):EvP (Zx [.dat (Zs tn hs),.dat (.int (i:Int)),.dat (Zu h)] g) P:=by
 refine ZGC ?_
 and_intros
 refine ZAC (by rw [List.length_map]; omega) (by rw [List.length_map]; omega) ?_
 and_intros
 rw [← List.map_set]
 exact q
structure EnOk (e:En):Prop where
 cl:e.r.cl.Sublist ZCJ
 ru:RuOk e.r
 n2 : 2<=e.ts.length
 n8:e.ts.length<=8
 ck:∀ c ∈ e.ts,ZId c
theorem ZKU {book:List (Int × Int)} {due news:List Int} {m:Nat}:∀ x ∈ ZEB book due news m,x.1 < m:=λ x hx=>by
 unfold ZEB at hx
 obtain ⟨j,hj,rfl⟩:=List.mem_map.mp hx
 exact List.mem_range.mp (List.mem_filter.mp hj).1
theorem ZJ4 {e:En} {hs:List Hs} {x y:Nat} {g:G} {P:W->G->Prop} (ok:EnOk e) (w:HsL e.ts.length hs) (hx:x < e.ts.length) (hy:y < e.ts.length) (hne:y ≠ x)
  (q:∀ g',Ex g g'->P (.dat (.tuple [Zs e.tn (ZEV e x y hs),if (hs.getD y H0).1=0 then .none else Zs e.tn (ZFu e x y hs)])) g'):EvP (ZCC [.dat (ruD e.r),.dat (Zv e.ts),.dat (Zs e.tn hs),.dat (.int (x:Int)),.dat (.int (y:Int))] g) P:=by
 have hxl:x < hs.length:=by rw [w.len]; exact hx
 have hyl:y < hs.length:=by rw [w.len]; exact hy
 have wx:=w.get hx
 have wy:=w.get hy
 have h8:=ok.n8
 have ex:hs[x]? = some (hs.getD x H0):=by rw [List.getD_eq_getElem?_getD,List.getElem?_eq_getElem hxl]; rfl
 refine ZJu ?_
 and_intros
 refine ZJA (h:=hs.getD x H0) ok.cl ok.ru.c.1 hx hy hne h8 ok.ck ex wx.bl wx.tl λ far news hfar hnews g' E=>?_
 have q:=q g' E
 unfold ZFu ZEV at q
 rw [show ZJa e (hs.getD x H0) x y=news by unfold ZJa ZL4; rw [hnews,hfar],show ZL4 e x y=ZBe e.r.cl x y far by unfold ZL4; rw [hfar]] at q
 have wl:=w.len
 generalize hs.getD x H0=h0 at *
 obtain ⟨up,bk,td,tm⟩:=h0
 and_intros
 refine ZAq (ZG9 ex) ?_
 and_intros
 refine ZAC (by rw [List.length_map]; exact hxl) (by rw [List.length_map]; omega) ?_
 and_intros
 have e1:(hs.map Zu).set x (.tuple [.int up,Zv bk,ZZ (ZBE td news),ZZ tm])=(hs.set x (up,bk,ZBE td news,tm)).map Zu:=by rw [List.map_set]; rfl
 rw [show (λ ds=>PyData.int up :: ds) ((λ ds=>Zv bk :: ds) ((λ ds=>ZZ (ZBE td news) :: ds) ((λ ds=>ZZ tm :: ds) [])))=[PyData.int up,Zv bk,ZZ (ZBE td news),ZZ tm] from rfl,e1]
 have wm:HsL e.ts.length (hs.set x (up,bk,ZBE td news,tm)):=w.set ⟨wx.up,wx.bl,by show (ZBE td news).length=_; rw [ZCo]; exact wx.tl,wx.ml⟩
 and_intros
 refine ZAq (Zt (a:=H0) hyl) ?_
 and_intros
 rw [Zj]
 refine ⟨λ h1=>?_,λ h1=>?_⟩
 ·rw [if_pos (of_decide_eq_true h1)] at q
  and_intros
  exact q
 ·rw [if_neg (of_decide_eq_false h1)] at q
  and_intros
  refine ZAq (Zt (a:=H0) hyl) ?_
  and_intros
  refine ZKm ok.cl wy hy h8 ZKU ?_
  and_intros
  refine ZHU (hs:=hs.set x (up,bk,ZBE td news,tm)) (by rw [List.length_set]; exact hyl) (by rw [List.length_set]; omega) ?_
  and_intros
  exact q
structure RdAt (n m:Nat) (e:En) (R:Rw) (g:G):Prop where
 ob:g[n]? = some (.ob ZV [.dat (ruD e.r),.dat (Zv e.ts),.dat (Zs e.tn R.hs),.dat (ZZ e.lo),.ref m])
 le:g[m]? = some (.pl (R.le.map ltD))
 ne:n ≠ m
structure Fr (n m:Nat) (g g':G):Prop where
 len:g.length<=g'.length
 kp:∀ k,k < g.length->k ≠ n->k ≠ m->g'[k]? = g[k]?
theorem Fr.refl {n m:Nat} {g:G}:Fr n m g g:=⟨Nat.le_refl _,λ _ _ _ _=>rfl⟩
theorem Fr.trans {n m:Nat} {g g1 g2:G} (h:Fr n m g g1) (k:Fr n m g1 g2):Fr n m g g2:=⟨Nat.le_trans h.len k.len,λ i h1 h2 h3=>(k.kp i (Nat.lt_of_lt_of_le h1 h.len) h2 h3).trans (h.kp i h1 h2 h3)⟩
theorem Fr.ex {n m:Nat} {g g':G} (h:Ex g g'):Fr n m g g':=⟨h.len,λ k h1 _ _=>h.kp k h1⟩
theorem Fr.setn {n m:Nat} {g:G} {c:Cell}:Fr n m g (g.set n c):=⟨by rw [List.length_set]; exact Nat.le_refl _,λ k _ h2 _=>List.getElem?_set_ne (Ne.symm h2)⟩
theorem Fr.setm {n m:Nat} {g:G} {c:Cell}:Fr n m g (g.set m c):=⟨by rw [List.length_set]; exact Nat.le_refl _,λ k _ _ h3=>List.getElem?_set_ne (Ne.symm h3)⟩
theorem ZDC {g:G} {n:Nat} {c:Cell} (h:g[n]? = some c):n < g.length:=(List.getElem?_eq_some_iff.mp h).1
theorem RdAt.ex {n m:Nat} {e:En} {R:Rw} {g g':G} (h:RdAt n m e R g) (x:Ex g g'):RdAt n m e R g':=⟨by rw [x.kp _ (ZDC h.ob)]; exact h.ob,by rw [x.kp _ (ZDC h.le)]; exact h.le,h.ne⟩
theorem RdAt.st {n m:Nat} {e:En} {R:Rw} {g:G} {hs:List Hs} (h:RdAt n m e R g):RdAt n m e ⟨hs,R.le⟩ (g.set n (.ob ZV [.dat (ruD e.r),.dat (Zv e.ts),.dat (Zs e.tn hs),.dat (ZZ e.lo),.ref m])):=⟨ZBA (ZDC h.ob),by rw [List.getElem?_set_ne h.ne]; exact h.le,h.ne⟩
theorem RdAt.lt {n m:Nat} {e:En} {R:Rw} {g:G} {L:List Lt} (h:RdAt n m e R g):RdAt n m e ⟨R.hs,L⟩ (g.set m (.pl (L.map ltD))):=⟨by rw [List.getElem?_set_ne (Ne.symm h.ne)]; exact h.ob,ZBA (ZDC h.le),h.ne⟩
theorem ZJh {n m:Nat} {e:En} {R:Rw} {x y:Nat} {g:G} {P:W->G->Prop} (ok:EnOk e) (w:HsL e.ts.length R.hs) (hx:x < e.ts.length) (hy:y < e.ts.length) (hne:x ≠ y) (hl:R.le.length < 1000) (ra:RdAt n m e R g)
  (q:∀ g',RdAt n m e (ZAJ e x y R).2 g'->Fr n m g g'->P (.dat (.bool (ZAJ e x y R).1)) g'):EvP (Zw [.ref n,.dat (.int (x:Int)),.dat (.int (y:Int))] g) P:=by
 have ob:=ra.ob
 have le:=ra.le
 refine ZFr ?_
 and_intros
 refine ZIb le ?_
 and_intros
 refine ZDn (by rw [ZBU]; rfl) ?_
 rw [L2.any_ints,List.length_map]
 and_intros
 refine ⟨_,le,by rw [List.length_map]; exact hl,?_⟩
 rw [show R.le.map ltD ++ [PyData.tuple ((λ ds=>PyData.int (x:Int) :: ds) ((λ ds=>PyData.int (y:Int) :: ds) ((λ ds=>PyData.bool (e.lo.contains (R.le.length:Int)) :: ds) [])))]=(R.le ++ [((x:Int),(y:Int),e.lo.contains (R.le.length:Int))]).map ltD by rw [List.map_append]; rfl]
 have r1:=ra.lt (L:=R.le ++ [((x:Int),(y:Int),e.lo.contains (R.le.length:Int))])
 have f1:Fr n m g (g.set m (.pl ((R.le ++ [((x:Int),(y:Int),e.lo.contains (R.le.length:Int))]).map ltD))):=.setm
 generalize g.set m (.pl ((R.le ++ [((x:Int),(y:Int),e.lo.contains (R.le.length:Int))]).map ltD))=g1 at *
 have ob1:=r1.ob
 and_intros
 refine ZJ4 ok w hx hy (Ne.symm hne) λ g2 E=>?_
 have r2:=r1.ex E
 have f2:=f1.trans (.ex E)
 have ob2:=r2.ob
 unfold ZAJ at q
 cases hb:e.lo.contains (R.le.length:Int) with
 | true =>
  rw [if_pos hb] at q
  rw [hb] at r2 ob2
  and_intros
  refine ⟨λ _=>⟨λ _=>?_,(λ z=>by cases z)⟩,(λ z=>by cases z)⟩
  and_intros
  exact q _ (r2.st (hs:=ZEV e x y R.hs)) (f2.trans .setn)
 | false =>
  rw [if_neg (by rw [hb]; exact Bool.false_ne_true)] at q
  rw [hb] at r2 ob2
  by_cases hu:(R.hs.getD y H0).1=0
  ·rw [if_pos hu] at q
   rw [if_pos hu]
   and_intros
   refine bF ?_
   and_intros
   refine bT ?_
   and_intros
   exact q _ (r2.st (hs:=ZEV e x y R.hs)) (f2.trans .setn)
  ·rw [if_neg hu] at q
   rw [if_neg hu]
   and_intros
   refine bF ?_
   and_intros
   refine bF ?_
   and_intros
   exact q _ (r2.st (hs:=ZFu e x y R.hs)) (f2.trans .setn)
theorem ZFX {b:List (Int × Int)} {h:Nat} {g:G} {P:W->G->Prop} (hl:h < b.length) (q:P (.dat (.bool (abF b h))) g):EvP (ZAl [.dat (Zv b),.dat (.int (h:Int))] g) P:=by
 refine ZHk ?_
 and_intros
 refine ZAq (Zt (a:=(0,0)) hl) ?_
 and_intros
 exact q
theorem ZJG {e:En} {b:List (Int × Int)} {x y:Nat} {g:G} {P:W->G->Prop} (ho : 0<=e.r.o) (h2 : 2<=b.length) (h8:b.length<=8) (q:P (.dat (.list ((ZE8 e b x y).map λ h:Nat=>PyData.int (h:Int)))) g):EvP (ZBf [.dat (ruD e.r),.dat (Zv b),.dat (.int (x:Int)),.dat (.int (y:Int))] g) P:=by
 refine ZI4 ?_
 and_intros
 rw [List.length_map]
 refine ZKe ?_
 and_intros
 refine ⟨1,_,rfl,by omega,?_⟩
 refine ⟨by rw [ZAi]; omega,?_⟩
 refine ZBX (λ i:Nat=>PyData.int (1+(i:Int))) (λ i:Nat=>PyData.int (((x+(i+1)) % b.length:Nat):Int)) (List.range ((b.length:Int) - 1).toNat) rfl trivial (λ i hi=>⟨_,by rw [Zr],?_⟩) ?_
 ·and_intros
  refine ZEJ (by omega) ?_
  refine ⟨?_,rfl⟩
  rw [show (x:Int)+(1+(i:Int))=((x+(i+1):Nat):Int) by omega]
  rfl
 and_intros
 refine ⟨by rw [List.length_map,List.length_range]; omega,?_⟩
 refine ZC5 (λ h:Nat=>PyData.int (h:Int)) (λ h=>!decide (h=y) && abF b h) (λ h:Nat=>PyData.int (h:Int)) ((List.range (b.length - 1)).map λ k=>(x+(k+1)) % b.length) ?_ trivial (λ h hh=>⟨_,by rw [Zr],?_⟩) ?_
 ·rw [List.map_map,show ((b.length:Int) - 1).toNat=b.length - 1 by omega]
  rfl
 ·obtain ⟨k,hk,rfl⟩:=List.mem_map.mp hh
  have hlt:(x+(k+1)) % b.length < b.length:=Nat.mod_lt _ (by omega)
  generalize (x+(k+1)) % b.length=h at *
  and_intros
  rw [Zj,show decide ((h:Int)=(y:Int))=decide (h=y) from decide_eq_decide.mpr ⟨λ z=>by omega,λ z=>by omega⟩]
  refine ⟨λ h1=>?_,λ h1=>⟨by rw [h1]; rfl,rfl,λ z=>by rw [h1] at z; cases z⟩⟩
  and_intros
  refine ZFX hlt ?_
  and_intros
  refine ⟨by rw [h1]; rfl,rfl,λ _=>?_⟩
  and_intros
  exact ⟨rfl,rfl⟩
 and_intros
 rw [ZDU ho,← List.map_take]
 exact q
theorem ZMw {e:En} {hs:List Hs} {a b:Nat} {g:G} {P:W->G->Prop} (ok:EnOk e) (w:HsL e.ts.length hs) (ha:a < e.ts.length) (hb:b < e.ts.length) (q:P (.ref g.length) (g ++ [.pl ((ZBR e hs a b).map wyD)])):EvP (ZEA [.dat (ruD e.r),.dat (Zs e.tn hs),.dat (.int (a:Int)),.dat (.int (b:Int))] g) P:=by
 have wa:=w.get ha
 have hal:a < hs.length:=by rw [w.len]; exact ha
 have n2:=ok.n2
 have n8:=ok.n8
 refine ZMN ?_
 unfold ZBR at q
 and_intros
 refine ZAq (Zt (a:=H0) hal) ?_
 generalize hs.getD a H0=h at *
 obtain ⟨up,bk,td,tm⟩:=h
 have hbl:bk.length=e.ts.length:=wa.bl
 and_intros
 refine ZJU ok.cl (by decide +kernel) ?_
 and_intros
 refine ⟨λ h1=>?_,λ h1=>?_⟩
 ·and_intros
  refine ZFX (b:=bk) (by omega) ?_
  and_intros
  refine ⟨λ h2=>?_,λ h2=>?_⟩
  ·rw [if_pos (by show (ZDY e.r.cl "others" && abF bk b)=true; rw [h1,h2]; rfl)] at q
   refine ZOW (n:=g.length) rfl ?_
   and_intros
   refine ZJG (b:=bk) ok.ru.o.1 (by omega) (by omega) ?_
   and_intros
   have hl3:=ZGa (e:=e) (book:=bk) (a:=a) (b:=b) ok.ru.o
   refine ⟨by rw [List.length_map]; omega,?_⟩
   refine ZBX (λ h:Nat=>PyData.int (h:Int)) (λ h:Nat=>wyD [(a,h),(h,b),(b,h),(h,a)]) _ rfl trivial (λ h hh=>⟨_,by rw [Zr],?_⟩) ?_
   ·and_intros
    exact ⟨rfl,rfl⟩
   and_intros
   refine ⟨_,Z2,by rw [List.length_map]; show 1+_<=1000; omega,?_⟩
   rw [ZAn]
   and_intros
   rw [List.map_cons,List.map_map] at q
   exact q
  ·rw [if_neg (by show ¬ (ZDY e.r.cl "others" && abF bk b)=true; rw [h1,h2]; exact Bool.false_ne_true)] at q
   and_intros
   exact q
 ·rw [if_neg (by show ¬ (ZDY e.r.cl "others" && abF bk b)=true; rw [h1]; exact Bool.false_ne_true)] at q
  and_intros
  refine bF ?_
  and_intros
  exact q
theorem ZKp {n m:Nat} {e:En} {P:W->G->Prop} {xs:List PyData} {wd:W} (ok:EnOk e):∀ (L:List (Nat × Nat)) (R:Rw) (g:G) (z2 z3:Option W),HsL e.ts.length R.hs->(∀ p ∈ L,(p.1 < e.ts.length/\p.2 < e.ts.length)/\p.1 ≠ p.2)->R.le.length+L.length<=1000->RdAt n m e R g ->
  (∀ g',RdAt n m e (ZB8 e L R).2 g'->Fr n m g g'->P (.dat (.bool (ZB8 e L R).1)) g') ->
  EvS (ZAg none xs (.tp (.cons (.nm 2) (.cons (.nm 3) .nil))) (ZAE (ZHR (dB (ZEz ZV Zw (ZD 0) (ZC (ZD 2) (ZC (ZD 3) ZL))))) (Zd (dC (.bool false))) dNx) (L.map prD) [some (.ref n),some wd,z2,z3] g) (seqP (Zd (dC (.bool true))) (runP P))
 | [],R,g,z2,z3,w,hp,hl,ra,q=>by
  refine ZDI ?_
  and_intros
  exact q g ra .refl
 | p :: L,R,g,z2,z3,w,hp,hl,ra,q=>by
  have hp0:=hp p (List.mem_cons_self ..)
  have ob:=ra.ob
  rw [List.length_cons] at hl
  refine ZCM rfl ?_
  and_intros
  refine ZJh ok w hp0.1.1 hp0.1.2 hp0.2 (by omega) ra λ g1 r1 f1=>?_
  rw [ZB8] at q
  and_intros
  refine ⟨λ h1=>?_,λ h1=>?_⟩
  ·rw [Bool.not_eq_true'] at h1
   rw [if_neg (by rw [h1]; exact Bool.false_ne_true)] at q
   and_intros
   refine .rt (.rt (.rt ?_))
   exact q g1 r1 f1
  ·rw [Bool.not_eq_false'] at h1
   rw [if_pos h1] at q
   and_intros
   refine .nx trivial ?_
   exact ZKp ok L _ g1 _ _ (ZC6 w hp0.1.1 hp0.1.2) (λ p hp2=>hp p (List.mem_cons_of_mem _ hp2)) (by rw [ZEO]; omega) r1 λ g' r' f'=>q g' r' (f1.trans f')
theorem ZIh {n m:Nat} {e:En} {R:Rw} {L:List (Nat × Nat)} {g:G} {P:W->G->Prop} (ok:EnOk e) (w:HsL e.ts.length R.hs) (hp:∀ p ∈ L,(p.1 < e.ts.length/\p.2 < e.ts.length)/\p.1 ≠ p.2) (hl:R.le.length+L.length<=1000) (ra:RdAt n m e R g)
  (q:∀ g',RdAt n m e (ZB8 e L R).2 g'->Fr n m g g'->P (.dat (.bool (ZB8 e L R).1)) g'):EvP (Z1 [.ref n,.dat (wyD L)] g) P:=by
 refine ZEw ?_
 and_intros
 exact ZKp ok L R g _ _ w hp hl ra q
theorem ZK0 {n m k:Nat} {e:En} {P:W->G->Prop} {xs:List PyData} {w1 w2:W} (ok:EnOk e) (hkn:k ≠ n) (hkm:k ≠ m):∀ (L:List (List (Nat × Nat))) (R:Rw) (g:G) (z3:Option W),HsL e.ts.length R.hs->(∀ v ∈ L,∀ p ∈ v,(p.1 < e.ts.length/\p.2 < e.ts.length)/\p.1 ≠ p.2)->R.le.length+(L.map List.length).sum<=1000->RdAt n m e R g->g[k]? = some (.pl xs) ->
  (∀ g',RdAt n m e (ZAb e L R).2 g'->Fr n m g g'->P (.dat (.bool (ZAb e L R).1)) g') ->
  EvS (ZAg (some k) xs (.nm 3) (ZAE (dB (dF Z1 (ZC (ZD 0) (ZC (ZD 3) ZL)))) (Zd (dC (.bool true))) dNx) (L.map wyD) [some (.ref n),some w1,some w2,z3] g) (seqP (Zd (dC (.bool false))) (runP P))
 | [],R,g,z3,w,hp,hl,ra,hk,q=>by
  refine ZDI ?_
  and_intros
  exact q g ra .refl
 | v :: L,R,g,z3,w,hp,hl,ra,hk,q=>by
  have hp0:=hp v (List.mem_cons_self ..)
  rw [List.map_cons,List.sum_cons] at hl
  refine ZCM (by rw [Zr]) ?_
  and_intros
  refine ZIh ok w hp0 (by omega) ra λ g1 r1 f1=>?_
  have w1:=ZG1 (e:=e) (w:=v) w λ p hp=>(hp0 p hp).1
  rw [ZAb] at q
  and_intros
  refine ⟨λ h1=>?_,λ h1=>?_⟩
  ·rw [if_pos h1] at q
   and_intros
   refine .rt (.rt (.rt ?_))
   exact q g1 r1 f1
  ·rw [if_neg (by rw [h1]; exact Bool.false_ne_true)] at q
   have hk1:g1[k]? = some (.pl xs):=by rw [f1.kp _ (ZDC hk) hkn hkm]; exact hk
   and_intros
   refine .nx hk1 ?_
   exact ZK0 ok hkn hkm L _ g1 _ w1.1 (λ v hv=>hp v (List.mem_cons_of_mem _ hv)) (by have:=w1.2; omega) r1 hk1 λ g' r' f'=>q g' r' (f1.trans f')
theorem ZHr {n m:Nat} {e:En} {R:Rw} {a b:Nat} {g:G} {P:W->G->Prop} (ok:EnOk e) (w:HsL e.ts.length R.hs) (ha:a < e.ts.length) (hb:b < e.ts.length) (hab:a ≠ b) (hl:R.le.length+14<=1000) (ra:RdAt n m e R g)
  (q:∀ g',RdAt n m e (ZAb e (ZBR e R.hs a b) R).2 g'->Fr n m g g'->P (.dat (.bool (ZAb e (ZBR e R.hs a b) R).1)) g'):EvP (ZAF [.ref n,.dat (.int (a:Int)),.dat (.int (b:Int))] g) P:=by
 have ob:=ra.ob
 refine ZFv ?_
 and_intros
 refine ZMw ok w ha hb ?_
 refine ZO0 Z2 ?_
 have hs:=ZGn (e:=e) (hs:=R.hs) (a:=a) (b:=b) ok.ru.o
 have hln:=ZDC ra.ob
 have hlm:=ZDC ra.le
 exact ZK0 ok (by omega) (by omega) _ R _ _ w (ZCg w ha hb hab) (by omega) (ra.ex (Ex.refl.app)) Z2 λ g' r' f'=>q g' r' ((Fr.ex (Ex.refl.app)).trans f')
theorem ZJx {e:En} {hs:List Hs} {a b:Nat} {ans:Bool} {g:G} {P:W->G->Prop} (ok:EnOk e) (w:HsL e.ts.length hs) (ha:a < e.ts.length) (hb:b < e.ts.length) (q:P (.dat (Zs e.tn (ZI1 e a b ans hs))) g):EvP (ZBp [.dat (ruD e.r),.dat (Zs e.tn hs),.dat (.int (a:Int)),.dat (.int (b:Int)),.dat (.bool ans)] g) P:=by
 have wa:=w.get ha
 have hal:a < hs.length:=by rw [w.len]; exact ha
 have n8:=ok.n8
 have hl8:hs.length<=8:=by rw [w.len]; exact n8
 refine ZJt ?_
 unfold ZI1 ZKR at q
 and_intros
 refine ZAq (Zt (a:=H0) hal) ?_
 generalize hs.getD a H0=h at *
 obtain ⟨up,bk,td,tm⟩:=h
 rw [show Zu (up,bk,td,tm)=.tuple [.int up,Zv bk,ZZ td,ZZ tm] from rfl]
 have hbl:bk.length=e.ts.length:=wa.bl
 have htl:td.length=e.ts.length:=wa.tl
 have hml:tm.length=e.ts.length:=wa.ml
 have q:P (.dat (Zs e.tn (hs.set a (if ans=true then (up,bk,td,tm.set b 0)
  else if (abF bk b && (!ZDY e.r.cl "wait" || decide (tm.getD b 0=1)))=true then (up,bk.set b ((bk.getD b (0,0)).1,2),td.set b 0,tm.set b 0)
  else if (abF bk b && decide (tm.getD b 0=0))=true then
   (if (bk.getD b (0,0)).2=0 then (up,bk.set b ((bk.getD b (0,0)).1,1),td.set b 0,tm.set b e.r.w) else (up,bk,td,tm.set b e.r.w))
  else if abF bk b=true then (up,bk,td,tm.set b (tm.getD b 0 - 1))
  else (up,bk,td,tm))))) g:=q
 have eb:∀ v:Int × Int,(bk.map ZY).set b (ZY v)=(bk.set b v).map ZY:=λ v=>by rw [List.map_set]
 have et:(td.map PyData.int).set b (.int 0)=(td.set b 0).map .int:=by rw [List.map_set]
 have em:∀ v:Int,(tm.map PyData.int).set b (.int v)=(tm.set b v).map .int:=λ v=>by rw [List.map_set]
 have fin:∀ {P':W->G->Prop} {bk':List (Int × Int)} {td' tm':List Int},P' (.dat (Zs e.tn (hs.set a (up,bk',td',tm')))) g->EvP (Zx [.dat (Zs e.tn hs),.dat (.int (a:Int)),.dat (.tuple [.int up,Zv bk',ZZ td',ZZ tm'])] g) P':=λ z=>ZHU hal hl8 z
 have abe:abF bk b=decide ((bk.getD b (0,0)).2 < 2):=rfl
 and_intros
 refine ZAq (Zt (a:=(0,0)) (by omega)) ?_
 and_intros
 refine ⟨λ h1=>?_,λ h1=>?_⟩
 ·rw [if_pos h1] at q
  and_intros
  refine ZAC (by rw [List.length_map]; omega) (by rw [List.length_map]; omega) ?_
  rw [em]
  and_intros
  refine fin ?_
  and_intros
  exact q
 rw [if_neg (by rw [h1]; exact Bool.false_ne_true)] at q
 and_intros
 refine ⟨λ h2=>?_,λ h2=>?_⟩
 ·have h2':abF bk b=true:=by rw [abe]; exact h2
  rw [h2',Bool.true_and,Bool.true_and] at q
  and_intros
  refine ZOi ok.cl (by decide +kernel) ?_
  and_intros
  have gone:∀ {P':W->G->Prop},P' (.dat (Zs e.tn (hs.set a (up,bk.set b ((bk.getD b (0,0)).1,2),td.set b 0,tm.set b 0)))) g->EvP (Zx [.dat (Zs e.tn hs),.dat (.int (a:Int)),.dat (.tuple [.int up,.tuple ((bk.map ZY).set b (.tuple [.int (bk.getD b (0,0)).1,.int 2])),.tuple ((td.map PyData.int).set b (.int 0)),.tuple ((tm.map PyData.int).set b (.int 0))])] g) P':=λ z=>by
   rw [show PyData.tuple [.int (bk.getD b (0,0)).1,.int 2]=ZY ((bk.getD b (0,0)).1,2) from rfl,eb,et,em]
   exact fin z
  refine ⟨λ h3=>⟨λ _=>?_,(λ z=>by cases z)⟩,λ h3=>?_⟩
  ·rw [if_pos (by rw [h3]; rfl)] at q
   and_intros
   refine ZAC (by rw [List.length_map]; omega) (by rw [List.length_map]; omega) ?_
   and_intros
   refine ZAC (by rw [List.length_map]; omega) (by rw [List.length_map]; omega) ?_
   and_intros
   refine ZAC (by rw [List.length_map]; omega) (by rw [List.length_map]; omega) ?_
   and_intros
   refine ⟨_,_,_,rfl,?_⟩
   and_intros
   refine gone ?_
   and_intros
   exact q
  ·and_intros
   refine ZAq (Zt (a:=(0:Int)) (by omega)) ?_
   and_intros
   rw [Zj]
   refine ⟨λ h4=>?_,λ h4=>?_⟩
   ·rw [if_pos (by rw [h4]; exact Bool.or_true _)] at q
    and_intros
    refine ZAC (by rw [List.length_map]; omega) (by rw [List.length_map]; omega) ?_
    and_intros
    refine ZAC (by rw [List.length_map]; omega) (by rw [List.length_map]; omega) ?_
    and_intros
    refine ZAC (by rw [List.length_map]; omega) (by rw [List.length_map]; omega) ?_
    and_intros
    refine ⟨_,_,_,rfl,?_⟩
    and_intros
    refine gone ?_
    and_intros
    exact q
   ·rw [if_neg (by rw [h3,h4]; exact Bool.false_ne_true)] at q
    and_intros
    refine ⟨λ _=>?_,(λ z=>by rw [h2] at z; cases z)⟩
    and_intros
    refine ZAq (Zt (a:=(0:Int)) (by omega)) ?_
    and_intros
    rw [Zj]
    refine ⟨λ h5=>?_,λ h5=>?_⟩
    ·rw [if_pos h5] at q
     and_intros
     rw [Zj]
     refine ⟨λ h6=>?_,λ h6=>?_⟩
     ·rw [if_pos (of_decide_eq_true h6)] at q
      and_intros
      refine ZAC (by rw [List.length_map]; omega) (by rw [List.length_map]; omega) ?_
      and_intros
      refine ZAC (by rw [List.length_map]; omega) (by rw [List.length_map]; omega) ?_
      and_intros
      refine ⟨_,_,rfl,?_⟩
      and_intros
      refine ZAC (by rw [List.length_map]; omega) (by rw [List.length_map]; omega) ?_
      and_intros
      rw [show PyData.tuple ((λ ds=>PyData.int (bk.getD b (0,0)).1 :: ds) ((λ ds=>PyData.int 1 :: ds) []))=ZY ((bk.getD b (0,0)).1,1) from rfl,eb,et,em]
      refine fin ?_
      and_intros
      exact q
     ·rw [if_neg (of_decide_eq_false h6)] at q
      and_intros
      refine ZAC (by rw [List.length_map]; omega) (by rw [List.length_map]; omega) ?_
      and_intros
      rw [em]
      refine fin ?_
      and_intros
      exact q
    ·rw [if_neg (by rw [h5]; exact Bool.false_ne_true),if_pos rfl] at q
     and_intros
     refine ⟨λ _=>?_,(λ z=>by rw [h2] at z; cases z)⟩
     and_intros
     refine ZAq (Zt (a:=(0:Int)) (by omega)) ?_
     and_intros
     refine ZAC (by rw [List.length_map]; omega) (by rw [List.length_map]; omega) ?_
     and_intros
     rw [em]
     refine fin ?_
     and_intros
     exact q
 ·have h2':abF bk b=false:=by rw [abe]; exact h2
  rw [h2',Bool.false_and,Bool.false_and,if_neg Bool.false_ne_true,if_neg Bool.false_ne_true,if_neg Bool.false_ne_true] at q
  refine bF ?_
  and_intros
  refine ⟨(λ z=>by rw [h2] at z; cases z),λ _=>⟨(λ z=>by cases z),λ _=>?_⟩⟩
  and_intros
  refine ⟨(λ z=>by rw [h2] at z; cases z),λ _=>?_⟩
  and_intros
  refine fin ?_
  and_intros
  exact q
theorem ZJZ {e:En} (ok:EnOk e) {a:Nat} (ha:a < e.ts.length) : 0 < (e.ts.getD a (0,0)).1/\(e.ts.getD a (0,0)).1 < 2 ^ 60:=by
 have hc:=ok.ck _ (ZE1 (d:=(0,0)) ha)
 exact ⟨by have:=hc.1; omega,by have:=hc.2.1; omega⟩
theorem ZGZ {e:En} {a:Nat} {g:G} {P:W->G->Prop} (ok:EnOk e) (ha:a < e.ts.length) (q:P (.dat (.int (tgF e a:Int))) g):EvP (ZBt [.dat (Zv e.ts),.dat (.int (a:Int)),.dat (.int e.tn)] g) P:=by
 have n2:=ok.n2
 refine ZJz ?_
 and_intros
 rw [List.length_map]
 refine ZFd ha (ZJZ ok ha) ?_
 and_intros
 refine ZEJ (by omega) ?_
 and_intros
 refine ZEJ (by omega) ?_
 and_intros
 have e1:((a:Int)+1+(ZDA (e.ts.getD a (0,0)) e.tn - 1) % ((e.ts.length:Int) - 1)) % (e.ts.length:Int)=(tgF e a:Int):=by
  unfold tgF
  rw [Int.toNat_of_nonneg (Int.emod_nonneg _ (by omega))]
 rw [e1]
 exact q
theorem ZHD {a b:Nat}:decide ((a:Int)=(b:Int))=decide (a=b):=decide_eq_decide.mpr ⟨λ z=>by omega,λ z=>by omega⟩
theorem ZKo {e:En} {a:Nat} {g:G} {P:W->G->Prop} (ok:EnOk e) (ha:a < e.ts.length) (q:P (.dat (.list ((ZGS e a).map λ b:Nat=>PyData.int (b:Int)))) g):EvP (Z5 [.dat (Zv e.ts),.dat (.int e.tn),.dat (.int (a:Int))] g) P:=by
 have n8:=ok.n8
 refine ZEE ?_
 and_intros
 refine ZGZ ok ha ?_
 and_intros
 refine ZAe (j:=e.ts.length) (g1:=g) ?_
 and_intros
 rw [List.length_map]
 refine ⟨by omega,?_⟩
 refine ⟨by rw [ZAi]; omega,?_⟩
 refine ZC5 (λ b:Nat=>PyData.int (b:Int)) (λ b=>!decide (b=a) && !decide (b=tgF e a)) (λ b:Nat=>PyData.int (b:Int)) (List.range e.ts.length) (by rw [ZB4]; rfl) trivial (λ b hb=>⟨_,by rw [Zr],?_⟩) ?_
 ·and_intros
  rw [Zj,ZHD]
  refine ⟨λ h1=>?_,λ h1=>⟨by rw [h1]; rfl,rfl,λ z=>by rw [h1] at z; cases z⟩⟩
  and_intros
  rw [Zj,ZHD]
  refine ⟨by rw [h1]; rfl,rfl,λ _=>?_⟩
  and_intros
  exact ⟨rfl,rfl⟩
 and_intros
 have hl:=ZFl ok.n2 ha
 unfold ZGS at hl
 rw [List.length_cons] at hl
 refine ZLP (by rw [List.length_map]; show 1+_<=1000; omega) ?_
 and_intros
 unfold ZGS at q
 rw [List.map_cons] at q
 exact q
theorem ZN4 {e:En} {hs:List Hs} {a b:Nat} {g:G} {P:W->G->Prop} (ok:EnOk e) (w:HsL e.ts.length hs) (ha:a < e.ts.length) (hb:b < e.ts.length) (q:P (.dat (.bool (ZK6 e a b hs))) g):EvP (ZA3 [.dat (ruD e.r),.dat (Zv e.ts),.dat (Zs e.tn hs),.dat (.int (a:Int)),.dat (.int (b:Int))] g) P:=by
 have wa:=w.get ha
 have hal:a < hs.length:=by rw [w.len]; exact ha
 refine ZHx ?_
 unfold ZK6 at q
 and_intros
 refine ZAq (Zt (a:=H0) hal) ?_
 generalize hs.getD a H0=h at *
 obtain ⟨up,bk,td,tm⟩:=h
 rw [show Zu (up,bk,td,tm)=.tuple [.int up,Zv bk,ZZ td,ZZ tm] from rfl]
 have hbl:bk.length=e.ts.length:=wa.bl
 have hml:tm.length=e.ts.length:=wa.ml
 and_intros
 refine ZGZ ok ha ?_
 and_intros
 rw [Zj,ZHD]
 refine ⟨λ h1=>?_,λ h1=>?_⟩
 ·rw [if_pos (of_decide_eq_true h1)] at q
  and_intros
  refine ZJU ok.cl (by decide +kernel) ?_
  and_intros
  refine ⟨λ h2=>?_,λ h2=>?_⟩
  ·rw [h2,Bool.true_or] at q
   and_intros
   exact q
  ·rw [h2,Bool.false_or] at q
   and_intros
   refine ZFX (b:=bk) (by omega) ?_
   and_intros
   exact q
 ·rw [if_neg (of_decide_eq_false h1)] at q
  and_intros
  refine ZAq (Zt (a:=(0:Int)) (by omega)) ?_
  and_intros
  exact q
theorem ZOu {e:En} {hs:List Hs} {a:Nat} {g:G} {P:W->G->Prop} (ok:EnOk e) (w:HsL e.ts.length hs) (ha:a < e.ts.length) (q:P (.dat (.bool (ZIL e a hs))) g):EvP (ZA5 [.dat (Zv e.ts),.dat (Zs e.tn hs),.dat (.int (a:Int))] g) P:=by
 have hal:a < hs.length:=by rw [w.len]; exact ha
 refine ZIU ?_
 unfold ZIL at q
 and_intros
 refine ZAq (Zt (a:=H0) hal) ?_
 and_intros
 rw [Zj]
 refine ⟨λ h1=>?_,λ h1=>?_⟩
 ·rw [h1,Bool.true_and] at q
  and_intros
  refine ZLR ?_
  unfold ZOo at q
  have hc:=ZJZ ok ha
  and_intros
  refine ZAq (Zt (a:=(0,0)) ha) ?_
  and_intros
  refine ⟨λ h2=>?_,λ h2=>?_⟩
  ·rw [h2,Bool.true_and] at q
   and_intros
   refine ZEJ hc.1 ?_
   and_intros
   rw [Zj]
   exact q
  ·rw [h2,Bool.false_and] at q
   and_intros
   exact q
 ·rw [h1,Bool.false_and] at q
  and_intros
  exact q
theorem ZIX {n m:Nat} {e:En} {a:Nat} {P:W->G->Prop} {xs:List PyData} {w2 w3:W} (ok:EnOk e) (ha:a < e.ts.length):∀ (L:List Nat) (R:Rw) (g:G) (z4 z5:Option W),HsL e.ts.length R.hs->(∀ b ∈ L,b < e.ts.length/\a ≠ b)->R.le.length+14 * L.length<=1000->RdAt n m e R g ->
  (∀ g',RdAt n m e (L.foldl (λ R b=>ZDM e a b R) R) g'->Fr n m g g'->P (.dat .none) g') ->
  EvS (ZAg none xs (.nm 4) (ZAE (dB (dF ZA3 (ZC (ZBM ZV 0 (ZD 0)) (ZC (ZBM ZV 1 (ZD 0)) (ZC (ZBM ZV 2 (ZD 0)) (ZC (ZD 1) (ZC (ZD 4) ZL)))))))
 (ZP (Zq 5 (dF ZAF (ZC (ZD 0) (ZC (ZD 1) (ZC (ZD 4) ZL)))))
 (ZCQ ZV 2 (ZD 0) (dF ZBp (ZC (ZBM ZV 0 (ZD 0)) (ZC (ZBM ZV 2 (ZD 0)) (ZC (ZD 1) (ZC (ZD 4) (ZC (ZD 5) ZL))))))))
 dNx) (L.map λ b:Nat=>PyData.int (b:Int)) [some (.ref n),some (.dat (.int (a:Int))),some w2,some w3,z4,z5] g) (runP P)
 | [],R,g,z4,z5,w,hp,hl,ra,q=>by
  refine ZDI ?_
  and_intros
  exact q g ra .refl
 | b :: L,R,g,z4,z5,w,hp,hl,ra,q=>by
  have hp0:=hp b (List.mem_cons_self ..)
  have ob:=ra.ob
  rw [List.length_cons,Nat.mul_succ] at hl
  rw [List.foldl_cons] at q
  have k1:=ZDa (e:=e) (a:=a) (b:=b) ok.ru.o w ha hp0.1 hp0.2
  unfold ZDM at q k1
  refine ZCM (by rw [Zr]) ?_
  and_intros
  refine ZN4 ok w ha hp0.1 ?_
  and_intros
  refine ⟨λ h1=>?_,λ h1=>?_⟩
  ·rw [if_pos h1] at q k1
   and_intros
   refine ZHr ok w ha hp0.1 hp0.2 (by omega) ra λ g1 r1 f1=>?_
   have w1:=ZF3 (e:=e) (ws:=ZBR e R.hs a b) w λ v hv p hp=>(ZCg w ha hp0.1 hp0.2 v hv p hp).1
   have ob1:=r1.ob
   and_intros
   refine ZJx ok w1.1 ha hp0.1 ?_
   and_intros
   refine .nx trivial ?_
   exact ZIX ok ha L _ _ _ _ k1.1 (λ b hb=>hp b (List.mem_cons_of_mem _ hb)) (by have:=k1.2; omega) (r1.st (hs:=ZI1 e a b (ZAb e (ZBR e R.hs a b) R).1 (ZAb e (ZBR e R.hs a b) R).2.hs)) λ g' r' f'=>q g' r' ((f1.trans .setn).trans f')
  ·rw [if_neg (by rw [h1]; exact Bool.false_ne_true)] at q k1
   and_intros
   refine .nx trivial ?_
   exact ZIX ok ha L R g _ _ w (λ b hb=>hp b (List.mem_cons_of_mem _ hb)) (by omega) ra q
theorem ZKC {n m:Nat} {e:En} {R:Rw} {a:Nat} {g:G} {P:W->G->Prop} (ok:EnOk e) (w:HsL e.ts.length R.hs) (ha:a < e.ts.length) (hl:R.le.length+14 * e.ts.length<=1000) (ra:RdAt n m e R g)
  (q:∀ g',RdAt n m e (ZIw e a R) g'->Fr n m g g'->P (.dat .none) g'):EvP (ZBQ [.ref n,.dat (.int (a:Int))] g) P:=by
 have ob:=ra.ob
 refine ZIY ?_
 and_intros
 refine ZKo ok ha ?_
 and_intros
 have h1:=ZFl ok.n2 ha
 have h2:=Nat.mul_le_mul_left 14 h1
 exact ZIX ok ha (ZGS e a) R g _ _ w (λ b hb=>ZAw ok.n2 ha hb) (by omega) ra q
theorem ZK3 {xs:List PyData} {k:Int} {g:G} {P:W->G->Prop} (h1 : 2<=k) (h2:k<=20) (h3:xs.isEmpty=false) (h4:xs.length<=20) (q:P (.dat (.tuple (List.replicate k.toNat xs).flatten)) g):EvP (ZBq (.dat (.tuple xs)) (.dat (.int k)) g) P:=ZCr (by rw [decide_eq_true h1,decide_eq_true h2,decide_eq_true h4,h3]; rfl) (ZCZ q)
theorem ZK7:∀ n:Nat,(List.replicate n [PyData.int 0]).flatten=(List.replicate n (0:Int)).map .int
 | 0=>rfl
 | n+1=>by
  rw [List.replicate_succ,List.flatten_cons,ZK7 n,List.replicate_succ]
  rfl
theorem ZNS {hs:List Hs} {n:Nat} {lo fa le co:List Int} {g:G} {P:W->G->Prop} (w:HsL n hs) (n2 : 2<=n) (n8:n<=8) (q:P (.dat (.tuple ((ZAN fa le co hs).map Zu))) (g ++ [.pl ((ZAN fa le co hs).map Zu)])):EvP (ZD8 [.dat (.tuple (hs.map Zu)),.dat (.tuple [ZZ lo,ZZ fa,ZZ le,ZZ co])] g) P:=by
 refine ZM2 ?_
 and_intros
 refine ZCU (λ i sd gx=>gx=g ++ [.pl (((List.range i).map λ j=>doH fa le co j (hs.getD j H0)).map Zu)]/\∃ z7 z8 z9 z10 z11 z12 z13 z14,sd=[some (.dat (.tuple (hs.map Zu))),some (.dat (.tuple [ZZ lo,ZZ fa,ZZ le,ZZ co])),some (.dat (ZZ lo)),some (.dat (ZZ fa)),some (.dat (ZZ le)),some (.dat (ZZ co)),some (.ref g.length),z7,z8,z9,z10,z11,z12,z13,z14]) ⟨rfl,_,_,_,_,_,_,_,_,rfl⟩ ?_ ?_
 ·rintro i x sd gx hx ⟨rfl,z7,z8,z9,z10,z11,z12,z13,z14,rfl⟩
  rw [ZIE H0 hs,List.getElem?_map] at hx
  obtain ⟨j,hj,rfl⟩:=mp hx
  obtain ⟨hj1,hj2⟩:=List.getElem?_eq_some_iff.mp hj
  rw [List.getElem_range] at hj2
  subst hj2
  rw [List.length_range,w.len] at hj1
  have wi:=w.get hj1
  have lenb:((((List.range i).map λ j=>doH fa le co j (hs.getD j H0)).map Zu)).length < 1000:=by rw [List.length_map,List.length_map,List.length_range]; omega
  have nxt:∀ {h:Hs},doH fa le co i (hs.getD i H0)=h->g ++ [Cell.pl (((List.range i).map λ j=>doH fa le co j (hs.getD j H0)).map Zu ++ [Zu h])]=g ++ [.pl (((List.range (i+1)).map λ j=>doH fa le co j (hs.getD j H0)).map Zu)]:=λ {h} eh=>by
   rw [List.range_succ,List.map_append,List.map_append,← eh]
   rfl
  revert nxt
  generalize hs.getD i H0=h at *
  intro nxt
  obtain ⟨up,bk,td,tm⟩:=h
  have hbl:bk.length=n:=wi.bl
  have htl:td.length=n:=wi.tl
  have hml:tm.length=n:=wi.ml
  rw [show Zu (up,bk,td,tm)=.tuple [.int up,Zv bk,ZZ td,ZZ tm] from rfl]
  have eb:∀ v:Int × Int,(bk.map ZY).set i (ZY v)=(bk.set i v).map ZY:=λ v=>by rw [List.map_set]
  have et:(td.map PyData.int).set i (.int 0)=(td.set i 0).map .int:=by rw [List.map_set]
  refine ⟨_,rfl,?_⟩
  and_intros
  refine ZAq (Zt (a:=(0,0)) (by omega)) ?_
  and_intros
  refine ZDn (by rw [ZBU]; rfl) ?_
  rw [L2.any_ints]
  and_intros
  refine ⟨λ h1=>?_,λ h1=>?_⟩
  ·and_intros
   rw [List.length_map]
   refine ZK3 (by omega) (by omega) rfl (by show (1:Nat)<=20; decide) ?_
   rw [ZK7,Int.toNat_natCast]
   and_intros
   refine ⟨_,Z2,lenb,?_⟩
   rw [ZAn]
   exact ⟨trivial,nxt (show doH fa le co i (up,bk,td,tm)=_ from if_pos h1),_,_,_,_,_,_,_,_,rfl⟩
  and_intros
  refine ZDn (by rw [ZBU]; rfl) ?_
  rw [L2.any_ints]
  and_intros
  have h1' : ¬ fa.contains (i:Int)=true:=by rw [h1]; exact Bool.false_ne_true
  refine ⟨λ h2=>?_,λ h2=>?_⟩
  ·and_intros
   refine ZAC (by rw [List.length_map]; omega) (by rw [List.length_map]; omega) ?_
   and_intros
   refine ZAC (by rw [List.length_map]; omega) (by rw [List.length_map]; omega) ?_
   and_intros
   rw [List.length_map]
   refine ZK3 (by omega) (by omega) rfl (by show (1:Nat)<=20; decide) ?_
   rw [ZK7,Int.toNat_natCast]
   and_intros
   rw [show PyData.tuple ((λ ds=>PyData.int (bk.getD i (0,0)).1 :: ds) ((λ ds=>PyData.int 3 :: ds) []))=ZY ((bk.getD i (0,0)).1,3) from rfl,eb,et]
   refine ⟨_,Z2,lenb,?_⟩
   rw [ZAn]
   exact ⟨trivial,nxt (show doH fa le co i (up,bk,td,tm)=_ from (if_neg h1').trans (if_pos h2)),_,_,_,_,_,_,_,_,rfl⟩
  and_intros
  refine ZDn (by rw [ZBU]; rfl) ?_
  rw [L2.any_ints]
  and_intros
  have h2' : ¬ le.contains (i:Int)=true:=by rw [h2]; exact Bool.false_ne_true
  refine ⟨λ h3=>?_,λ h3=>?_⟩
  ·and_intros
   refine ZAC (by rw [List.length_map]; omega) (by rw [List.length_map]; omega) ?_
   and_intros
   refine ZAC (by rw [List.length_map]; omega) (by rw [List.length_map]; omega) ?_
   and_intros
   rw [show PyData.tuple ((λ ds=>PyData.int ((bk.getD i (0,0)).1+1) :: ds) ((λ ds=>PyData.int 0 :: ds) []))=ZY ((bk.getD i (0,0)).1+1,0) from rfl,eb,et]
   refine ⟨_,Z2,lenb,?_⟩
   rw [ZAn]
   exact ⟨trivial,nxt (show doH fa le co i (up,bk,td,tm)=_ from (if_neg h1').trans ((if_neg h2').trans (if_pos h3))),_,_,_,_,_,_,_,_,rfl⟩
  ·have h3' : ¬ co.contains (i:Int)=true:=by rw [h3]; exact Bool.false_ne_true
   and_intros
   refine ⟨_,Z2,lenb,?_⟩
   rw [ZAn]
   exact ⟨trivial,nxt (show doH fa le co i (up,bk,td,tm)=_ from (if_neg h1').trans ((if_neg h2').trans (if_neg h3'))),_,_,_,_,_,_,_,_,rfl⟩
 ·rintro sd gx ⟨rfl,z7,z8,z9,z10,z11,z12,z13,z14,rfl⟩
  rw [ZBl,List.length_map]
  and_intros
  refine ZEC Z2 ?_
  and_intros
  exact q
theorem ZMR {e:En} {hs:List Hs} {g:G} {P:W->G->Prop} (q:∀ g',RdAt g.length (g.length+1) e ⟨hs,[]⟩ g'->Ex g g'->P (.dat .none) g'):EvP (Z6 [.ref g.length,.dat (ruD e.r),.dat (Zv e.ts),.dat (Zs e.tn hs),.dat (ZZ e.lo)] (g ++ [.ob ZV []])) P:=by
 refine ZEI ?_
 and_intros
 refine ⟨_,_,_,rfl,Z2,of_decide_eq_true rfl,rfl,?_⟩
 rw [ZAn]
 and_intros
 refine ⟨_,_,_,rfl,Z2,of_decide_eq_true rfl,rfl,?_⟩
 rw [ZAn]
 and_intros
 refine ⟨_,_,_,rfl,Z2,of_decide_eq_true rfl,rfl,?_⟩
 rw [ZAn]
 and_intros
 refine ⟨_,_,_,rfl,Z2,of_decide_eq_true rfl,rfl,?_⟩
 rw [ZAn]
 and_intros
 refine ⟨_,_,_,rfl,(by rw [List.getElem?_append_left (by simp)]; exact Z2),of_decide_eq_true rfl,rfl,?_⟩
 rw [show ∀ (A B C:Cell),(g ++ [A] ++ [B]).set g.length C=g ++ [C] ++ [B] from λ A B C=>by rw [List.set_append_left _ _ (by simp),ZAn]]
 and_intros
 have hl:∀ A:Cell,(g ++ [A]).length=g.length+1:=λ A=>by simp
 refine q _ ⟨?_,?_,by omega⟩ (Ex.refl.app.app)
 ·rw [List.getElem?_append_left (by simp),Z2,hl]
  rfl
 ·rw [show g.length+1=(g ++ [Cell.ob ZV ([W.dat (ruD e.r),W.dat (Zv e.ts),W.dat (Zs e.tn hs),W.dat (ZZ e.lo)] ++ [W.ref (g ++ [Cell.ob ZV [W.dat (ruD e.r),W.dat (Zv e.ts),W.dat (Zs e.tn hs),W.dat (ZZ e.lo)]]).length])]).length by simp]
  exact Z2
theorem ZFk {n m:Nat} {e:En} {x:Nat} {P:W->G->Prop} {xs:List PyData} (ok:EnOk e) (hx:x < e.ts.length):∀ (L:List Nat) (R:Rw) (g:G) (z2:Option W),HsL e.ts.length R.hs->(∀ y ∈ L,y < e.ts.length)->R.le.length+L.length<=1000->RdAt n m e R g ->
  (∀ g',RdAt n m e (L.foldl (λ R y=>if y=x then R else (ZAJ e x y R).2) R) g'->Fr n m g g'->P (.dat .none) g') ->
  EvS (ZAg none xs (.nm 2) (ZAE (dB (dOp ZBi (ZD 2) (ZD 1))) (ZAx (ZEz ZV Zw (ZD 0) (ZC (ZD 1) (ZC (ZD 2) ZL)))) dNx) (L.map λ b:Nat=>PyData.int (b:Int)) [some (.ref n),some (.dat (.int (x:Int))),z2] g) (runP P)
 | [],R,g,z2,w,hp,hl,ra,q=>by
  refine ZDI ?_
  and_intros
  exact q g ra .refl
 | y :: L,R,g,z2,w,hp,hl,ra,q=>by
  have hp0:=hp y (List.mem_cons_self ..)
  have ob:=ra.ob
  rw [List.length_cons] at hl
  rw [List.foldl_cons] at q
  refine ZCM (by rw [Zr]) ?_
  and_intros
  rw [Zj,ZHD]
  refine ⟨λ h1=>?_,λ h1=>?_⟩
  ·have h1 : ¬ y=x:=by simpa using h1
   rw [if_neg h1] at q
   and_intros
   refine ZJh ok w hx hp0 (λ z=>h1 z.symm) (by omega) ra λ g1 r1 f1=>?_
   refine .nx trivial ?_
   exact ZFk ok hx L _ g1 _ (ZC6 w hx hp0) (λ b hb=>hp b (List.mem_cons_of_mem _ hb)) (by rw [ZEO]; omega) r1 λ g' r' f'=>q g' r' (f1.trans f')
  ·have h1:y=x:=by simpa using h1
   rw [if_pos h1] at q
   and_intros
   refine .nx trivial ?_
   exact ZFk ok hx L R g _ w (λ b hb=>hp b (List.mem_cons_of_mem _ hb)) (by omega) ra q
theorem ZL1 {n m:Nat} {e:En} {R:Rw} {x:Nat} {g:G} {P:W->G->Prop} (ok:EnOk e) (w:HsL e.ts.length R.hs) (hx:x < e.ts.length) (hl:R.le.length+e.ts.length<=1000) (ra:RdAt n m e R g)
  (q:∀ g',RdAt n m e (ZAK e x R) g'->Fr n m g g'->P (.dat .none) g'):EvP (ZAB [.ref n,.dat (.int (x:Int))] g) P:=by
 have ob:=ra.ob
 have n8:=ok.n8
 refine ZFB ?_
 and_intros
 refine ZAe (j:=e.ts.length) (g1:=g) ?_
 and_intros
 rw [List.length_map]
 refine ⟨by omega,?_⟩
 rw [ZB4,Int.toNat_natCast]
 exact ZFk ok hx (List.range e.ts.length) R g _ w (λ y hy=>List.mem_range.mp hy) (by rw [List.length_range]; exact hl) ra q
theorem ZNP {n m:Nat} {e:En} {R:Rw} {x:Nat} {g:G} {P:W->G->Prop} (ok:EnOk e) (w:HsL e.ts.length R.hs) (hx:x < e.ts.length) (ra:RdAt n m e R g)
  (q:∀ g',RdAt n m e ⟨ZBa x R.hs,R.le⟩ g'->Fr n m g g'->P (.dat .none) g'):EvP (ZDB [.ref n,.dat (.int (x:Int))] g) P:=by
 have ob:=ra.ob
 have n8:=ok.n8
 have hxl:x < R.hs.length:=by rw [w.len]; exact hx
 refine ZL8 ?_
 and_intros
 refine ZAq (Zt (a:=H0) hxl) ?_
 and_intros
 refine ZHU (h:=(0,(R.hs.getD x H0).2.1,(R.hs.getD x H0).2.2.1,(R.hs.getD x H0).2.2.2)) hxl (by rw [w.len]; exact n8) ?_
 and_intros
 exact q _ (ra.st (hs:=ZBa x R.hs)) .setn
theorem ZGp {n m:Nat} {e:En} {P:Out->Prop} {xs:List PyData} {x0 x1 x2 x3 x4 x5 x6 x7 x8 x9 z12:Option W} (ok:EnOk e):∀ (L:List Int) (R:Rw) (g:G) (z11:Option W),HsL e.ts.length R.hs->(∀ k ∈ L,0<=k/\k < e.ts.length)->R.le.length+e.ts.length * L.length<=1000->RdAt n m e R g ->
  (∀ g' z,RdAt n m e (L.foldl (λ R x=>ZAK e x.toNat R) R) g'->Fr n m g g'->P (.nx [x0,x1,x2,x3,x4,x5,x6,x7,x8,x9,some (.ref n),z,z12] g')) ->
  EvS (ZAg none xs (.nm 11) (ZAx (dF ZAB (ZC (ZD 10) (ZC (ZD 11) ZL)))) (L.map PyData.int) [x0,x1,x2,x3,x4,x5,x6,x7,x8,x9,some (.ref n),z11,z12] g) P
 | [],R,g,z11,w,hp,hl,ra,q=>ZDI (q g z11 ra .refl)
 | k :: L,R,g,z11,w,hp,hl,ra,q=>by
  have hp0:=hp k (List.mem_cons_self ..)
  rw [List.length_cons,Nat.mul_succ] at hl
  rw [List.foldl_cons] at q
  obtain ⟨x,rfl⟩:∃ x:Nat,k=(x:Int):=⟨k.toNat,by omega⟩
  rw [Int.toNat_natCast] at q
  have hx:x < e.ts.length:=by omega
  have k1:=ZCB (e:=e) (x:=x) w hx
  refine ZCM (by rw [Zr]) ?_
  and_intros
  refine ZL1 ok w hx (by omega) ra λ g1 r1 f1=>?_
  refine .nx trivial ?_
  exact ZGp ok L _ g1 _ k1.1 (λ b hb=>hp b (List.mem_cons_of_mem _ hb)) (by have:=k1.2; omega) r1 λ g' z r' f'=>q g' z r' (f1.trans f')
theorem ZHj {n m:Nat} {e:En} {P:Out->Prop} {xs:List PyData} {x0 x1 x2 x3 x4 x5 x6 x7 x8 x9 z12:Option W} (ok:EnOk e):∀ (L:List Int) (R:Rw) (g:G) (z11:Option W),HsL e.ts.length R.hs->(∀ k ∈ L,0<=k/\k < e.ts.length)->RdAt n m e R g ->
  (∀ g' z,RdAt n m e ⟨L.foldl (λ hs x=>ZBa x.toNat hs) R.hs,R.le⟩ g'->Fr n m g g'->P (.nx [x0,x1,x2,x3,x4,x5,x6,x7,x8,x9,some (.ref n),z,z12] g')) ->
  EvS (ZAg none xs (.nm 11) (ZAx (dF ZDB (ZC (ZD 10) (ZC (ZD 11) ZL)))) (L.map PyData.int) [x0,x1,x2,x3,x4,x5,x6,x7,x8,x9,some (.ref n),z11,z12] g) P
 | [],R,g,z11,w,hp,ra,q=>ZDI (q g z11 ra .refl)
 | k :: L,R,g,z11,w,hp,ra,q=>by
  have hp0:=hp k (List.mem_cons_self ..)
  rw [List.foldl_cons] at q
  obtain ⟨x,rfl⟩:∃ x:Nat,k=(x:Int):=⟨k.toNat,by omega⟩
  rw [Int.toNat_natCast] at q
  have hx:x < e.ts.length:=by omega
  refine ZCM (by rw [Zr]) ?_
  and_intros
  refine ZNP ok w hx ra λ g1 r1 f1=>?_
  refine .nx trivial ?_
  exact ZHj ok L ⟨ZBa x R.hs,R.le⟩ g1 _ (ZJY w hx) (λ b hb=>hp b (List.mem_cons_of_mem _ hb)) r1 λ g' z r' f'=>q g' z r' (f1.trans f')
theorem ZFY {n m:Nat} {e:En} {P:Out->Prop} {xs:List PyData} {x0 x2 x3 x4 x5 x6 x7 x8 x9 z11:Option W} (ok:EnOk e):∀ (L:List Nat) (R:Rw) (g:G) (z12:Option W),HsL e.ts.length R.hs->(∀ k ∈ L,k < e.ts.length)->R.le.length+14 * e.ts.length * L.length<=1000->RdAt n m e R g ->
  (∀ g' z,RdAt n m e (L.foldl (λ R a=>ZBZ e a R) R) g'->Fr n m g g'->P (.nx [x0,some (.dat (Zv e.ts)),x2,x3,x4,x5,x6,x7,x8,x9,some (.ref n),z11,z] g')) ->
  EvS (ZAg none xs (.nm 12) (ZAE (dB (dF ZA5 (ZC (ZD 1) (ZC (ZBM ZV 2 (ZD 10)) (ZC (ZD 12) ZL)))))
 (ZAx (dF ZBQ (ZC (ZD 10) (ZC (ZD 12) ZL))))
 dNx) (L.map λ b:Nat=>PyData.int (b:Int)) [x0,some (.dat (Zv e.ts)),x2,x3,x4,x5,x6,x7,x8,x9,some (.ref n),z11,z12] g) P
 | [],R,g,z12,w,hp,hl,ra,q=>ZDI (q g z12 ra .refl)
 | a :: L,R,g,z12,w,hp,hl,ra,q=>by
  have ha:=hp a (List.mem_cons_self ..)
  have ob:=ra.ob
  rw [List.length_cons,Nat.mul_succ] at hl
  rw [List.foldl_cons] at q
  have k1:=ZDV (e:=e) (a:=a) ok.ru.o ok.n2 w ha
  unfold ZBZ at k1
  refine ZCM (by rw [Zr]) ?_
  and_intros
  refine ZOu ok w ha ?_
  and_intros
  refine ⟨λ h1=>?_,λ h1=>?_⟩
  ·rw [if_pos h1] at k1
   rw [show ZBZ e a R=ZIw e a R from if_pos h1] at q
   and_intros
   refine ZKC ok w ha (by omega) ra λ g1 r1 f1=>?_
   refine .nx trivial ?_
   exact ZFY ok L _ g1 _ k1.1 (λ b hb=>hp b (List.mem_cons_of_mem _ hb)) (by have:=k1.2; omega) r1 λ g' z r' f'=>q g' z r' (f1.trans f')
  ·rw [show ZBZ e a R=R from if_neg (by rw [h1]; exact Bool.false_ne_true)] at q
   and_intros
   refine .nx trivial ?_
   exact ZFY ok L R g _ w (λ b hb=>hp b (List.mem_cons_of_mem _ hb)) (by omega) ra q
theorem ZLx {e:En}:∀ {L:List Int} {R:Rw},HsL e.ts.length R.hs->(∀ k ∈ L,0<=k/\k < e.ts.length)->HsL e.ts.length (L.foldl (λ R x=>ZAK e x.toNat R) R).hs/\(L.foldl (λ R x=>ZAK e x.toNat R) R).le.length<=R.le.length+e.ts.length * L.length:=λ {L R} w hp=>ZBs (f:=λ (R:Rw) (x:Int)=>ZAK e x.toNat R) w λ x hx R w=>ZCB w (by have:=hp x hx; omega)
theorem ZD3 {r:Ru} {ts:List (Int × Int)} {tn:Int} {hs:List Hs} {lo fa le co:List Int} {g:G} {P:W->G->Prop} (ok:EnOk ⟨r,ts,tn,lo⟩) (w:HsL ts.length hs) (hle:∀ k ∈ le,0<=k/\k < ts.length) (hco:∀ k ∈ co,0<=k/\k < ts.length) (hlc:le.length+co.length<=ts.length)
  (q:∀ g',Ex g g'->P (.dat (.tuple [Zs (tn+1) (ZBG r ts tn hs lo fa le co).hs,.tuple ((ZBG r ts tn hs lo fa le co).le.map ltD)])) g'):EvP (ZA9 [.dat (ruD r),.dat (Zv ts),.dat (Zs tn hs),.dat (.tuple [ZZ lo,ZZ fa,ZZ le,ZZ co])] g) P:=by
 have n2 : 2<=ts.length:=ok.n2
 have n8:ts.length<=8:=ok.n8
 have hlc2:∀ k ∈ le ++ co,0<=k/\k < ts.length:=λ k hk=>(List.mem_append.mp hk).elim (hle k) (hco k)
 have hmul:ts.length * (le ++ co).length<=64:=by
  rw [List.length_append]
  exact Nat.le_trans (Nat.mul_le_mul n8 (Nat.le_trans hlc n8)) (by decide)
 have hmul2 : 14 * ts.length * ts.length<=896:=by
  have:=Nat.mul_le_mul (Nat.mul_le_mul_left 14 n8) n8
  omega
 refine ZIf ?_
 and_intros
 refine ZNS w n2 n8 ?_
 and_intros
 generalize hg1:g ++ [Cell.pl ((ZAN fa le co hs).map Zu)]=g1
 have E1:Ex g g1:=by rw [← hg1]; exact Ex.refl.app
 refine ZMR (e:=⟨r,ts,tn,lo⟩) (hs:=ZAN fa le co hs) λ g2 ra E2=>⟨rfl,?_⟩
 have wd:=ZFK (fa:=fa) (le:=le) (co:=co) w
 and_intros
 refine ZEm (by rw [List.length_map,List.length_map]; omega) ?_
 and_intros
 rw [← List.map_append]
 have k1:=ZLx (e:=⟨r,ts,tn,lo⟩) (L:=le ++ co) (R:=⟨ZAN fa le co hs,[]⟩) wd hlc2
 refine ZGp ok (le ++ co) ⟨ZAN fa le co hs,[]⟩ g2 _ wd hlc2 (by show 0+ts.length * _<=1000; omega) ra λ g3 z3 r3 f3=>?_
 and_intros
 refine ZHj ok le _ g3 _ k1.1 hle r3 λ g4 z4 r4 f4=>?_
 have k2:=ZEM (L:=le) k1.1 λ x hx=>by show x.toNat < ts.length; have:=hle x hx; omega
 have kl:((le ++ co).foldl (λ R x=>ZAK ⟨r,ts,tn,lo⟩ x.toNat R) ⟨ZAN fa le co hs,[]⟩).le.length<=64:=by
  have h0:(List.foldl (λ (R:Rw) (x:Int)=>ZAK ⟨r,ts,tn,lo⟩ x.toNat R) ⟨ZAN fa le co hs,[]⟩ (le ++ co)).le.length<=0+ts.length * (le ++ co).length:=k1.2
  exact Nat.le_trans h0 (by omega)
 and_intros
 refine ZAe (j:=ts.length) (g1:=g4) ?_
 and_intros
 rw [List.length_map]
 refine ⟨by omega,?_⟩
 rw [ZB4,Int.toNat_natCast]
 refine ZFY ok (List.range ts.length) _ g4 _ k2 (λ y hy=>List.mem_range.mp hy) (by rw [List.length_range]; exact Nat.le_trans (Nat.add_le_add kl hmul2) (by decide)) r4 λ g5 z5 r5 f5=>?_
 have ob5:=r5.ob
 have le5:=r5.le
 and_intros
 refine ZEC le5 ?_
 and_intros
 refine q g5 ?_
 have f25:=f3.trans (f4.trans f5)
 have l2:=E2.len
 have l1:=E1.len
 refine ⟨by have:=f25.len; omega,λ k hk=>?_⟩
 rw [f25.kp k (by omega) (by omega) (by omega),E2.kp k (by omega),E1.kp k hk]
structure RisN (ks:List Int) (m:Int):Prop where
 up:ks.Pairwise (· < ·)
 lo:∀ k ∈ ks,0<=k
 hi:∀ k ∈ ks,k < m
theorem RisN.nil {m:Int}:RisN [] m:=⟨.nil,(λ k hk=>by cases hk),λ k hk=>by cases hk⟩
theorem RisN.more {ks:List Int} {m n:Int} (h:RisN ks m) (hn:m<=n):RisN ks n:=⟨h.up,h.lo,λ k hk=>by have:=h.hi k hk; omega⟩
theorem RisN.snoc {ks:List Int} {m:Int} (h:RisN ks m) (hm : 0<=m):RisN (ks ++ [m]) (m+1):=⟨by
 rw [List.pairwise_append]
 exact ⟨h.up,List.pairwise_singleton _ _,λ a ha c hc=>by rw [List.mem_singleton.mp hc]; exact h.hi a ha⟩,λ k hk=>by
 rcases List.mem_append.mp hk with hk | hk
 ·exact h.lo k hk
 ·rw [List.mem_singleton.mp hk]; exact hm,λ k hk=>by
 rcases List.mem_append.mp hk with hk | hk
 ·have:=h.hi k hk; omega
 ·rw [List.mem_singleton.mp hk]; omega⟩
theorem RisN.rng:∀ n:Nat,RisN ((List.range n).map λ j:Nat=>(j:Int)) n
 | 0=>.nil
 | n+1=>by
  rw [List.range_succ,List.map_append]
  have:=(RisN.rng n).snoc (by omega)
  exact this.more (by omega)
theorem RisN.len_go:∀ (ks:List Int) (lo:Int) (m:Int),ks.Pairwise (· < ·)->(∀ k ∈ ks,lo<=k/\k < m)->lo<=m->(ks.length:Int)<=m - lo
 | [],lo,m,_,_,h=>by show (0:Int)<=_; omega
 | a :: r,lo,m,hp,hk,h=>by
  have ha:=hk a (List.mem_cons_self ..)
  rw [List.pairwise_cons] at hp
  have:=RisN.len_go r (a+1) m hp.2 (λ k hk2=>⟨by have:=hp.1 k hk2; omega,(hk k (List.mem_cons_of_mem _ hk2)).2⟩) (by omega)
  rw [List.length_cons]
  omega
theorem RisN.len {ks:List Int} {m:Int} (h:RisN ks m) (hm : 0<=m):(ks.length:Int)<=m:=by
 have:=RisN.len_go ks 0 m h.up (λ k hk=>⟨h.lo k hk,h.hi k hk⟩) hm
 omega
theorem ZM4 {b:Nat} {m:Int} {g:G} {P:W->G->Prop} (hb:Bx g b) (hm : 0<=m/\m<=1000) (q:∀ ks g',RisN ks m->Dr b g g'->P (.dat (ZZ ks)) g'):EvP (ZA7 [.ref b,.dat (.int m)] g) P:=by
 refine ZG8 ?_
 and_intros
 refine Ze hb (by decide) (by decide) λ d g1 l1 u1 D1=>?_
 and_intros
 rw [Zj]
 refine ⟨λ h=>?_,λ h=>?_⟩
 ·and_intros
  exact ZFM D1.len (q [] g1 .nil D1)
 have h0 : ¬ d=0:=of_decide_eq_false h
 and_intros
 rw [Zj]
 refine ⟨λ h=>?_,λ h=>?_⟩
 ·and_intros
  refine ⟨hm,?_⟩
  and_intros
  have e:ZBy m.toNat 0=((List.range m.toNat).map λ j:Nat=>(j:Int)).map .int:=by rw [ZB4,List.map_map]; rfl
  rw [e]
  exact q _ g1 ((RisN.rng m.toNat).more (by omega)) D1
 have h1 : ¬ d=1:=of_decide_eq_false h
 and_intros
 refine ZAe (j:=m) (g1:=g1) ?_
 and_intros
 refine ⟨by omega,?_⟩
 refine ⟨by rw [ZAi]; omega,?_⟩
 refine ZEX (λ gx=>Dr b g gx) (λ i acc=>∃ ks:List Int,acc=ks.map .int/\RisN ks i) D1 ⟨[],rfl,.nil⟩ ?_ ?_
 ·rintro i x gx acc hx Dx ⟨ks,rfl,hk⟩
  rw [ZB4,List.getElem?_map] at hx
  obtain ⟨j,hj,rfl⟩:=mp hx
  obtain ⟨hj1,hj2⟩:=List.getElem?_eq_some_iff.mp hj
  rw [List.getElem_range] at hj2
  subst hj2
  refine ⟨_,by rw [Zr],?_⟩
  and_intros
  refine ZEF (by omega) (by show d - 2 < 3; omega) λ x hx=>?_
  obtain ⟨t,rfl,ht⟩:∃ n0:Int,x=.int n0/\2<=n0/\n0<=8:=by
   simp only [List.mem_cons,List.not_mem_nil,or_false] at hx
   rcases hx with rfl | rfl | rfl <;> exact ⟨_,rfl,by omega,by omega⟩
  and_intros
  refine Ze Dx.bx (by omega) (by omega) λ d2 g2 l2 u2 D2=>?_
  and_intros
  refine ⟨λ _=>?_,λ _=>⟨trivial,Dx.trans D2,ks,rfl,hk.more (by omega)⟩⟩
  and_intros
  exact ⟨trivial,Dx.trans D2,ks ++ [(i:Int)],by rw [List.map_append]; rfl,hk.snoc (by omega)⟩
 ·rintro acc gx Dx ⟨ks,rfl,hk⟩
  rw [ZAi] at hk
  and_intros
  exact ZFM Dx.len (q ks gx (hk.more (by omega)) Dx)
structure HsN (hs:List Hs) (u:Int) (ks:List Int):Prop where
 pr:RisN ks hs.length
 pu:∀ k ∈ ks,(hs.getD k.toNat H0).1=u
structure DoOk (hs:List Hs) (lo fa le co:List Int):Prop where
 plo:RisN lo 60
 pfa:HsN hs 1 fa
 ple:HsN hs 1 le
 pco:HsN hs 0 co
 pap:∀ k ∈ fa,k ∉ le
def doD (lo fa le co:List Int):PyData:=.tuple [ZZ lo,ZZ fa,ZZ le,ZZ co]
structure DoI (hs:List Hs) (i:Nat) (fa le co:List Int):Prop where
 ifa:RisN fa i
 ile:RisN le i
 ico:RisN co i
 fu:∀ k ∈ fa,(hs.getD k.toNat H0).1=1
 lu:∀ k ∈ le,(hs.getD k.toNat H0).1=1
 cu:∀ k ∈ co,(hs.getD k.toNat H0).1=0
 ap:∀ k ∈ fa,k ∉ le
theorem ZHL {ks:List Int} {a k:Int} {p:Int->Prop} (h:∀ k ∈ ks,p k) (ha:p a):∀ k ∈ ks ++ [a],p k:=λ k hk=>by
 rcases List.mem_append.mp hk with hk | hk
 ·exact h k hk
 ·rw [List.mem_singleton.mp hk]; exact ha
theorem DoI.f {hs:List Hs} {i:Nat} {fa le co:List Int} (h:DoI hs i fa le co) (hu:(hs.getD i H0).1=1):DoI hs (i+1) (fa ++ [(i:Int)]) le co:=⟨h.ifa.snoc (by omega),h.ile.more (by omega),h.ico.more (by omega),ZHL (k:=0) h.fu (by rw [Int.toNat_natCast]; exact hu),h.lu,h.cu,ZHL (k:=0) h.ap λ z=>by have:=h.ile.hi _ z; omega⟩
theorem DoI.l {hs:List Hs} {i:Nat} {fa le co:List Int} (h:DoI hs i fa le co) (hu:(hs.getD i H0).1=1):DoI hs (i+1) fa (le ++ [(i:Int)]) co:=⟨h.ifa.more (by omega),h.ile.snoc (by omega),h.ico.more (by omega),h.fu,ZHL (k:=0) h.lu (by rw [Int.toNat_natCast]; exact hu),h.cu,λ k hk z=>by
 rcases List.mem_append.mp z with z | z
 ·exact h.ap k hk z
 ·rw [List.mem_singleton.mp z] at hk
  have:=h.ifa.hi _ hk
  omega⟩
theorem DoI.c {hs:List Hs} {i:Nat} {fa le co:List Int} (h:DoI hs i fa le co) (hu:(hs.getD i H0).1=0):DoI hs (i+1) fa le (co ++ [(i:Int)]):=⟨h.ifa.more (by omega),h.ile.more (by omega),h.ico.snoc (by omega),h.fu,h.lu,ZHL (k:=0) h.cu (by rw [Int.toNat_natCast]; exact hu),h.ap⟩
theorem DoI.n {hs:List Hs} {i:Nat} {fa le co:List Int} (h:DoI hs i fa le co):DoI hs (i+1) fa le co:=⟨h.ifa.more (by omega),h.ile.more (by omega),h.ico.more (by omega),h.fu,h.lu,h.cu,h.ap⟩
theorem ZHO {i:Nat} {ks:List Int} (h:RisN ks i) (hi:i < 1000):(ks.map PyData.int).length < 1000:=by
 rw [List.length_map]
 have:=h.len (by omega)
 omega
theorem ZKd {b:Nat} {tn:Int} {hs:List Hs} {mv:Bool} {g:G} {P:W->G->Prop} (hb:Bx g b) (hl:hs.length<=900) (q:∀ lo fa le co g',DoOk hs lo fa le co->Dr b g g'->P (.dat (doD lo fa le co)) g'):EvP (ZAV [.ref b,.dat (Zs tn hs),.dat (.bool mv)] g) P:=by
 have hlb:=hb.lt
 refine ZF5 ?_
 and_intros
 refine ⟨_,_,_,rfl,?_⟩
 and_intros
 refine ZCU (λ i sd gx=>∃ fa le co z6 z7 z8,Dr b g gx/\g.length+3<=gx.length/\gx[g.length]? = some (.pl (fa.map .int))/\gx[g.length+1]? = some (.pl (le.map .int))/\gx[g.length+2]? = some (.pl (co.map .int))/\DoI hs i fa le co/\sd=[some (.ref b),some (.dat (Zs tn hs)),some (.dat (.bool mv)),some (.ref g.length),some (.ref (g.length+1)),some (.ref (g.length+2)),z6,z7,z8]) ?_ ?_ ?_
 ·refine ⟨[],[],[],none,none,none,(((Dr.refl hb).app).app).app,by simp,by simp,by simp,by simp,⟨.nil,.nil,.nil,(λ k hk=>by cases hk),(λ k hk=>by cases hk),(λ k hk=>by cases hk),(λ k hk=>by cases hk)⟩,?_⟩
  simp
 ·rintro i x sd gx hx ⟨fa,le,co,z6,z7,z8,K1,L1,F1,E1,C1,I1,rfl⟩
  rw [ZIE H0 hs,List.getElem?_map] at hx
  obtain ⟨j,hj,rfl⟩:=mp hx
  obtain ⟨hj1,hj2⟩:=List.getElem?_eq_some_iff.mp hj
  rw [List.getElem_range] at hj2
  subst hj2
  rw [List.length_range] at hj1
  refine ⟨_,rfl,?_⟩
  and_intros
  refine Ze K1.bx (by decide) (by decide) λ w g2 l2 u2 D2=>?_
  have K2:=K1.trans D2
  have L2':g.length+3<=g2.length:=by have:=D2.len; omega
  have F2:g2[g.length]? = some (.pl (fa.map .int)):=by rw [D2.kp _ (by omega) (by omega)]; exact F1
  have E2:g2[g.length+1]? = some (.pl (le.map .int)):=by rw [D2.kp _ (by omega) (by omega)]; exact E1
  have C2:g2[g.length+2]? = some (.pl (co.map .int)):=by rw [D2.kp _ (by omega) (by omega)]; exact C1
  cases mv with
  | false =>
   and_intros
   refine ⟨(λ z=>by cases z),λ _=>⟨(λ z=>by cases z),λ _=>?_⟩⟩
   and_intros
   refine ⟨(λ z=>by cases z),λ _=>⟨(λ z=>by cases z),λ _=>?_⟩⟩
   and_intros
   exact ⟨trivial,fa,le,co,_,_,_,K2,L2',F2,E2,C2,I1.n,rfl⟩
  | true =>
   and_intros
   refine bT ?_
   and_intros
   rw [Zj]
   refine ⟨λ hu=>?_,λ hu=>?_⟩
   ·have hu:(hs.getD i H0).1=1:=of_decide_eq_true hu
    and_intros
    refine ⟨λ hw=>?_,λ hw=>?_⟩
    ·have hw:w < 2:=of_decide_eq_true hw
     and_intros
     refine ⟨by show (2:Nat)<=1000; decide,?_⟩
     rcases (show w=0 ∨ w=1 by omega) with rfl | rfl
     ·refine ⟨_,rfl,_,rfl,?_⟩
      and_intros
      refine ⟨_,F2,ZHO I1.ifa (by omega),?_⟩
      and_intros
      refine bT ?_
      and_intros
      rw [Zj,hu]
      refine ⟨(λ z=>by cases z),λ _=>⟨(λ z=>by cases z),λ _=>?_⟩⟩
      and_intros
      refine ⟨trivial,fa ++ [(i:Int)],le,co,_,_,_,K2.put hlb (Nat.le_refl _),by rw [List.length_set]; exact L2',?_,?_,?_,I1.f hu,rfl⟩
      ·rw [ZBA (by omega),List.map_append]; rfl
      ·rw [List.getElem?_set_ne (by omega)]; exact E2
      ·rw [List.getElem?_set_ne (by omega)]; exact C2
     ·refine ⟨_,rfl,_,rfl,?_⟩
      and_intros
      refine ⟨_,E2,ZHO I1.ile (by omega),?_⟩
      and_intros
      refine bT ?_
      and_intros
      rw [Zj,hu]
      refine ⟨(λ z=>by cases z),λ _=>⟨(λ z=>by cases z),λ _=>?_⟩⟩
      and_intros
      refine ⟨trivial,fa,le ++ [(i:Int)],co,_,_,_,K2.put hlb (by omega),by rw [List.length_set]; exact L2',?_,?_,?_,I1.l hu,rfl⟩
      ·rw [List.getElem?_set_ne (by omega)]; exact F2
      ·rw [ZBA (by omega),List.map_append]; rfl
      ·rw [List.getElem?_set_ne (by omega)]; exact C2
    ·and_intros
     refine bT ?_
     and_intros
     rw [Zj,hu]
     refine ⟨(λ z=>by cases z),λ _=>⟨(λ z=>by cases z),λ _=>?_⟩⟩
     and_intros
     exact ⟨trivial,fa,le,co,_,_,_,K2,L2',F2,E2,C2,I1.n,rfl⟩
   ·refine bF ?_
    and_intros
    refine bT ?_
    and_intros
    rw [Zj]
    refine ⟨λ hu=>?_,λ hu=>⟨(λ z=>by cases z),λ _=>?_⟩⟩
    ·have hu:(hs.getD i H0).1=0:=of_decide_eq_true hu
     and_intros
     refine ⟨λ hw=>?_,λ hw=>?_⟩
     ·and_intros
      refine ⟨_,C2,ZHO I1.ico (by omega),?_⟩
      refine ⟨trivial,fa,le,co ++ [(i:Int)],_,_,_,K2.put hlb (by omega),by rw [List.length_set]; exact L2',?_,?_,?_,I1.c hu,rfl⟩
      ·rw [List.getElem?_set_ne (by omega)]; exact F2
      ·rw [List.getElem?_set_ne (by omega)]; exact E2
      ·rw [ZBA (by omega),List.map_append]; rfl
     ·and_intros
      exact ⟨trivial,fa,le,co,_,_,_,K2,L2',F2,E2,C2,I1.n,rfl⟩
    ·and_intros
     exact ⟨trivial,fa,le,co,_,_,_,K2,L2',F2,E2,C2,I1.n,rfl⟩
 ·rintro sd gx ⟨fa,le,co,z6,z7,z8,K1,L1,F1,E1,C1,I1,rfl⟩
  rw [ZBl,List.length_map] at I1
  and_intros
  refine ZM4 K1.bx (by decide) λ lo g2 hlo D2=>?_
  have K2:=K1.trans D2
  have F2:g2[g.length]? = some (.pl (fa.map .int)):=by rw [D2.kp _ (by omega) (by omega)]; exact F1
  have E2:g2[g.length+1]? = some (.pl (le.map .int)):=by rw [D2.kp _ (by omega) (by omega)]; exact E1
  have C2:g2[g.length+2]? = some (.pl (co.map .int)):=by rw [D2.kp _ (by omega) (by omega)]; exact C1
  and_intros
  refine ZEC F2 ?_
  and_intros
  refine ZEC E2 ?_
  and_intros
  refine ZEC C2 ?_
  and_intros
  exact q lo fa le co _ ⟨hlo,⟨I1.ifa,I1.fu⟩,⟨I1.ile,I1.lu⟩,⟨I1.ico,I1.cu⟩,I1.ap⟩ K2
theorem DoOk.few {hs:List Hs} {lo fa le co:List Int} (h:DoOk hs lo fa le co):le.length+co.length<=hs.length:=by
 have nd:(le ++ co).Nodup:=by
  rw [List.nodup_append]
  refine ⟨h.ple.pr.up.imp (λ z=>by omega),h.pco.pr.up.imp (λ z=>by omega),λ a ha b hb z=>?_⟩
  subst z
  have h1:=h.ple.pu a ha
  have h2:=h.pco.pu a hb
  rw [h1] at h2
  cases h2
 have key:∀ (L:List Int) (n:Nat),L.Nodup->(∀ k ∈ L,0<=k/\k < n)->L.length<=n:=by
  intro L n
  induction n generalizing L with
  | zero =>
   intro _ hk
   cases L with
   | nil=>exact Nat.le_refl _
   | cons a r=>have:=hk a (List.mem_cons_self ..); omega
  | succ n ih =>
   intro hd hk
   have h1:=ih (L.erase (n:Int)) (hd.erase _) λ k hk2=>by
    have hm:=(hd.mem_erase_iff).mp hk2
    have:=hk k hm.2
    have:k ≠ (n:Int):=hm.1
    omega
   have h2:=List.length_erase (a:=(n:Int)) (l:=L)
   split at h2 <;> omega
 have:=key (le ++ co) hs.length nd λ k hk=>by
  rcases List.mem_append.mp hk with hk | hk
  ·exact ⟨h.ple.pr.lo k hk,h.ple.pr.hi k hk⟩
  ·exact ⟨h.pco.pr.lo k hk,h.pco.pr.hi k hk⟩
 rw [List.length_append] at this
 exact this
inductive TIB:Nat->PyData->Prop
 | int {n:Nat} (i:Int):TIB (n+1) (.int i)
 | bl {n:Nat} (b:Bool):TIB (n+1) (.bool b)
 | tup {n:Nat} (ds:List PyData):ds.length<=1000->(∀ d ∈ ds,TIB n d)->TIB (n+1) (.tuple ds)
theorem ZLf {a b:Bool}:(PyData.bool a).eqv (.bool b)=decide (a=b):=by
 cases a <;> cases b <;> rfl
theorem ZIK {n:Nat} {L:List Int} (h:L.length<=1000):TIB (n+2) (ZZ L):=.tup _ (by rw [List.length_map]; exact h) λ d hd=>by
 obtain ⟨k,_,rfl⟩:=List.mem_map.mp hd
 exact .int k
theorem ZKK {n m:Nat} {s:Sx} (w:HsL m s.2) (hm:m<=8):TIB (n+6) (stX s):=.tup _ (by show (2:Nat)<=1000; decide) λ d hd=>by
 simp only [List.mem_cons,List.not_mem_nil,or_false] at hd
 rcases hd with rfl | rfl
 ·exact .int _
 refine .tup _ (by rw [List.length_map,w.len]; omega) λ d hd=>?_
 obtain ⟨h,hh,rfl⟩:=List.mem_map.mp hd
 have v:=w.all h hh
 refine .tup _ (by show (4:Nat)<=1000; decide) λ d hd=>?_
 simp only [List.mem_cons,List.not_mem_nil,or_false] at hd
 rcases hd with rfl | rfl | rfl | rfl
 ·exact .int _
 ·refine .tup _ (by rw [List.length_map,v.bl]; omega) λ d hd=>?_
  obtain ⟨x,_,rfl⟩:=List.mem_map.mp hd
  refine .tup _ (by show (2:Nat)<=1000; decide) λ d hd=>?_
  simp only [List.mem_cons,List.not_mem_nil,or_false] at hd
  rcases hd with rfl | rfl <;> exact .int _
 ·exact ZIK (by rw [v.tl]; omega)
 ·exact ZIK (by rw [v.ml]; omega)
theorem ZFP {xs:List PyData} (h:∀ x ∈ xs,x.canLay0=true):PyData.canLayAll0 xs=true:=by
 induction xs with
 | nil=>rfl
 | cons x r ih =>
  show (x.canLay0 && PyData.canLayAll0 r)=true
  rw [h x (List.mem_cons_self ..),ih λ y hy=>h y (List.mem_cons_of_mem _ hy)]
  rfl
theorem ZHT {k:Nat} {xs:List PyData} (h:∀ x ∈ xs,x.depth<=k):PyData.depthAll xs<=k:=by
 induction xs with
 | nil=>exact Nat.zero_le _
 | cons x r ih =>
  rw [PyData.depthAll.eq_2]
  exact Nat.max_le.mpr ⟨h x (List.mem_cons_self ..),ih λ y hy=>h y (List.mem_cons_of_mem _ hy)⟩
theorem ZDT:∀ {m:Nat} {t:PyData},TIB m t->t.canLay0=true/\t.depth<=m
 | 0,_,h=>by cases h
 | m+1,_,.int i=>⟨rfl,Nat.zero_le _⟩
 | m+1,_,.bl i=>⟨rfl,Nat.zero_le _⟩
 | m+1,_,.tup ds _ h=>⟨ZFP λ x hx=>(ZDT (h x hx)).1,by rw [PyData.depth.eq_2]; have:=ZHT (k:=m) λ x hx=>(ZDT (h x hx)).2; omega⟩
mutual
theorem ZIT:∀ {m:Nat} {t:PyData},TIB m t->t.eqv t=true
 | 0,_,h=>by cases h
 | m+1,_,.int i=>by rw [Zj]; exact decide_eq_true rfl
 | m+1,_,.bl i=>by rw [ZLf]; exact decide_eq_true rfl
 | m+1,_,.tup ds _ h=>by
  rw [PyData.eqv]
  exact ZDb ds h
theorem ZDb {m:Nat}:∀ (ds:List PyData),(∀ d ∈ ds,TIB m d)->PyData.eqvAll ds ds=true
 | [],_=>rfl
 | d :: r,h=>by
  rw [PyData.eqvAll,ZIT (h d (List.mem_cons_self ..)),ZDb r λ x hx=>h x (List.mem_cons_of_mem _ hx)]
  rfl
end
theorem ZK4 {m:Nat} {t:PyData} {g:G} {P:W->G->Prop} (h:TIB m t) (hm:m<=8) (q:P (.dat (.bool false)) g):EvP (ZBi (.dat t) (.dat t) g) P:=by
 have h1:=ZDT h
 have h2:ok0 t=true:=by
  unfold ok0
  rw [h1.1,decide_eq_true (by omega)]
  rfl
 refine ZME (by rw [h2]; rfl) ?_
 rw [ZIT h]
 exact q
theorem ZG7 {m:Nat} {xs:List PyData} (h:∀ x ∈ xs,TIB m x) (hm:m<=8):ok0 (.list xs)=true:=by
 unfold ok0
 rw [show (PyData.list xs).canLay0=true from ZFP λ x hx=>(ZDT (h x hx)).1,decide_eq_true (by
  rw [PyData.depth.eq_1]
  have:=ZHT (k:=m) λ x hx=>(ZDT (h x hx)).2
  omega)]
 rfl
theorem y_neL {m:Nat} {xs ys:List PyData} {g:G} {P:W->G->Prop} (h:∀ x ∈ xs,TIB m x) (hm:m<=8) (e:ys=xs) (q:P (.dat (.bool false)) g):EvP (ZBi (.dat (.list xs)) (.dat (.list ys)) g) P:=by
 subst e
 refine ZME (by rw [ZG7 h hm]; rfl) ?_
 rw [show (PyData.list ys).eqv (.list ys)=true by rw [PyData.eqv]; exact ZDb ys h]
 exact q
theorem ZN2 {m n:Nat} {xs ys:List PyData} {g:G} {P:W->G->Prop} (hn:g[n]? = some (.pl ys)) (h:∀ x ∈ xs,TIB m x) (hm:m<=8) (e:ys=xs) (q:P (.dat (.bool false)) g):EvP (ZBi (.dat (.list xs)) (.ref n) g) P:=by
 subst e
 refine ⟨_,_,?_,q⟩
 show ((ZC9 (.ref n) g).bind λ y=>if (ok0 (.list ys) && ok0 y)=true then some (W.dat (.bool !(PyData.list ys).eqv y),g) else none)=_
 rw [show ZC9 (.ref n) g=some (.list ys) by show (lk g n).map PyData.list=_; rw [ZE7 hn]; rfl]
 show (if (ok0 (.list ys) && ok0 (.list ys))=true then some (W.dat (.bool !(PyData.list ys).eqv (.list ys)),g) else none)=_
 rw [ZG7 h hm,if_pos (show (true && true)=true from rfl),show (PyData.list ys).eqv (.list ys)=true by rw [PyData.eqv]; exact ZDb ys h]
 rfl
theorem ZLi {m n:Nat} {ys:List PyData} {g:G} {P:W->G->Prop} (hn:g[n]? = some (.pl ys)) (h:∀ x ∈ ys,TIB m x) (hm:m<=8) (q:P (.dat (.bool (!ys.isEmpty))) g):EvP (ZBi (.ref n) (.dat (.list [])) g) P:=by
 refine ⟨_,_,?_,q⟩
 show ((ZC9 (.ref n) g).bind λ x=>if (ok0 x && ok0 (.list []))=true then some (W.dat (.bool !x.eqv (.list [])),g) else none)=_
 rw [show ZC9 (.ref n) g=some (.list ys) by show (lk g n).map PyData.list=_; rw [ZE7 hn]; rfl]
 show (if (ok0 (.list ys) && ok0 (.list []))=true then some (W.dat (.bool !(PyData.list ys).eqv (.list [])),g) else none)=_
 rw [ZG7 h hm,if_pos (by decide +kernel)]
 cases ys with
 | nil=>rfl
 | cons a r=>rfl
def ZDx (tn:Int) (hs:List Hs) (ts:List (Int × Int)) (fa le co:List Int) (a:Nat):Bool:=((decide ((hs.getD a H0).1=1) && !((fa ++ le).contains (a:Int))) || co.contains (a:Int)) && decide ((tn - (ts.getD a (0,0)).2) % (ts.getD a (0,0)).1=0)
theorem ZJo {tn:Int} {hs:List Hs} {ts:List (Int × Int)} {lo fa le co:List Int} {g:G} {P:W->G->Prop} (w:HsL ts.length hs) (n8:ts.length<=8) (hck:∀ c ∈ ts,ZId c) (hl:fa.length+le.length<=900) (q:P (.ref g.length) (g ++ [.pl (((List.range ts.length).filter (ZDx tn hs ts fa le co)).map λ a:Nat=>PyData.int (a:Int))])):EvP (ZAU [.dat (Zv ts),.dat (Zs tn hs),.dat (.tuple [ZZ lo,ZZ fa,ZZ le,ZZ co])] g) P:=by
 refine ZF2 ?_
 and_intros
 refine ZCU (λ i sd gx=>gx=g ++ [.pl (((List.range i).filter (ZDx tn hs ts fa le co)).map λ a:Nat=>PyData.int (a:Int))]/\∃ z4 z5 z6 z7,sd=[some (.dat (Zv ts)),some (.dat (Zs tn hs)),some (.dat (.tuple [ZZ lo,ZZ fa,ZZ le,ZZ co])),some (.ref g.length),z4,z5,z6,z7]) ⟨rfl,_,_,_,_,rfl⟩ ?_ ?_
 ·rintro i x sd gx hx ⟨rfl,z4,z5,z6,z7,rfl⟩
  rw [ZIE (0,0) ts,List.getElem?_map] at hx
  obtain ⟨j,hj,rfl⟩:=mp hx
  obtain ⟨hj1,hj2⟩:=List.getElem?_eq_some_iff.mp hj
  rw [List.getElem_range] at hj2
  subst hj2
  rw [List.length_range] at hj1
  have hc:=hck _ (ZE1 (d:=(0,0)) hj1)
  have hil:i < hs.length:=by rw [w.len]; exact hj1
  have lenb:(((List.range i).filter (ZDx tn hs ts fa le co)).map λ a:Nat=>PyData.int (a:Int)).length < 1000:=by
   rw [List.length_map]
   have:=List.length_filter_le (ZDx tn hs ts fa le co) (List.range i)
   rw [List.length_range] at this
   omega
  have yes:ZDx tn hs ts fa le co i=true->g ++ [Cell.pl (((List.range i).filter (ZDx tn hs ts fa le co)).map (λ a:Nat=>PyData.int (a:Int)) ++ [PyData.int (i:Int)])]=g ++ [.pl (((List.range (i+1)).filter (ZDx tn hs ts fa le co)).map λ a:Nat=>PyData.int (a:Int))]:=λ h=>by
   rw [List.range_succ,List.filter_append,List.filter_cons_of_pos h,List.map_append]
   rfl
  have no:ZDx tn hs ts fa le co i=false->g ++ [Cell.pl (((List.range i).filter (ZDx tn hs ts fa le co)).map (λ a:Nat=>PyData.int (a:Int)))]=g ++ [.pl (((List.range (i+1)).filter (ZDx tn hs ts fa le co)).map λ a:Nat=>PyData.int (a:Int))]:=λ h=>by
   rw [List.range_succ,List.filter_append,List.filter_cons_of_neg (by rw [h]; exact Bool.false_ne_true)]
   simp
  have fin:∀ (b:Bool) (z5 z6:Option W),(((decide ((hs.getD i H0).1=1) && !((fa ++ le).contains (i:Int))) || co.contains (i:Int))=b)->EvS ((ZAE (ZCK (dB (ZD 7)) (dB (dOp ZB0 (dOp ZCG (dOp ZEb (dOp Zm (ZD 1) (dC (.int 0))) (ZD 6)) (ZD 5)) (dC (.int 0))))) (ZAx (ZEH (ZD 3) (ZD 4))) dNx) [some (.dat (Zv ts)),some (.dat (Zs tn hs)),some (.dat (.tuple [ZZ lo,ZZ fa,ZZ le,ZZ co])),some (.ref g.length),some (.dat (.int (i:Int))),some (.dat (.int (ts.getD i (0,0)).1)),some (.dat (.int (ts.getD i (0,0)).2)),some (.dat (.bool b))] (g ++ [.pl (((List.range i).filter (ZDx tn hs ts fa le co)).map λ a:Nat=>PyData.int (a:Int))])) (ZNa none (ZCR 0 (ts.map ZY)) (λ sd gx=>gx=g ++ [.pl (((List.range (i+1)).filter (ZDx tn hs ts fa le co)).map λ a:Nat=>PyData.int (a:Int))]/\∃ z4 z5 z6 z7,sd=[some (.dat (Zv ts)),some (.dat (Zs tn hs)),some (.dat (.tuple [ZZ lo,ZZ fa,ZZ le,ZZ co])),some (.ref g.length),z4,z5,z6,z7]) (seqP (Zd (ZD 3)) (runP P))):=by
   intro b z5 z6 hb
   unfold ZDx at yes no
   rw [hb] at yes no
   and_intros
   refine ⟨λ h1=>?_,λ h1=>?_⟩
   ·rw [h1,Bool.true_and] at yes no
    and_intros
    refine ZEJ (by have:=hc.1; omega) ?_
    and_intros
    rw [Zj]
    refine ⟨λ h2=>?_,λ h2=>?_⟩
    ·and_intros
     refine ⟨_,Z2,lenb,?_⟩
     rw [ZAn]
     exact ⟨trivial,yes h2,_,_,_,_,rfl⟩
    ·and_intros
     exact ⟨trivial,no h2,_,_,_,_,rfl⟩
   ·rw [h1,Bool.false_and] at no
    and_intros
    refine bF ?_
    and_intros
    exact ⟨trivial,no rfl,_,_,_,_,rfl⟩
  refine ⟨_,rfl,?_⟩
  and_intros
  refine ZAq (Zt (a:=H0) hil) ?_
  and_intros
  rw [Zj]
  have inco:∀ {P':W->G->Prop} {gx:G},P' (.dat (.bool (co.contains (i:Int)))) gx->EvP (ZCl (.dat (.int (i:Int))) (.dat (ZZ co)) gx) P':=λ h=>ZDn (by rw [ZBU]; rfl) (by rw [L2.any_ints]; exact h)
  refine ⟨λ h1=>?_,λ h1=>?_⟩
  ·and_intros
   refine ZEm (by rw [List.length_map,List.length_map]; omega) ?_
   and_intros
   rw [← List.map_append]
   refine ZIi (by rw [ZBU]; rfl) ?_
   rw [L2.any_ints]
   and_intros
   refine ⟨λ h2=>?_,λ h2=>?_⟩
   ·exact .nx (fin true none none (by rw [h1,h2]; rfl))
   ·and_intros
    refine inco ?_
    exact .nx (fin _ none none (by rw [h1,h2]; rfl))
  ·and_intros
   refine bF ?_
   and_intros
   refine inco ?_
   exact .nx (fin _ none none (by rw [h1]; rfl))
 ·rintro sd gx ⟨rfl,z4,z5,z6,z7,rfl⟩
  rw [ZBl,List.length_map]
  and_intros
  exact q
theorem ZJ0 {ds:List PyData} {k:Nat} (h:k<=ds.length):ZBz ds (some (k:Int)) none=ds.drop k:=by
 have h1:HT.sIx ds.length 0 (some (k:Int))=k:=by
  show (if (k:Int) < 0 then ((k:Int)+(ds.length:Int)).toNat else min (k:Int).toNat ds.length)=k
  rw [if_neg (by omega)]
  omega
 have h2:HT.sIx ds.length ds.length none=ds.length:=rfl
 unfold ZBz
 rw [h1,h2,List.take_of_length_le (by rw [List.length_drop]; omega)]
theorem hv_hl {r:Ru} {n i:Nat} {h:Hs} (v:HV r n i h):HL n h:=⟨by have:=v.up; omega,v.bl,v.tl,v.ml⟩
theorem ZNC (L:List Lt):(L.map λ l=>PyData.tuple [.int l.1,.int l.2.1])=(prL L).map ZY:=by
 unfold prL
 rw [List.map_map]
 rfl
theorem ZK8 {n c:Nat} {P:Out->Prop} {xs:List PyData} {x1 x2 x3 x6 x7:Option W} {ts:List (Int × Int)} (n8:ts.length<=8) (hn:ts.length=n) {g0:G} (hc:c=g0.length):∀ (L:List Int) (acc:List (Int × Int)) (z5:Option W),acc.length+8 * L.length<=1000 ->
  (∀ z,P (.nx [some (.dat (Zv ts)),x1,x2,x3,some (.ref c),z,x6,x7] (g0 ++ [.pl ((acc ++ (L.map (ZGP n)).flatten).map ZY)]))) ->
  EvS (ZAg none xs (.nm 5) (ZAx (ZJr (ZD 4) (ZAa 1 [5] (.nm 0) (ZAI (ZC (dF (f1 ZCi) (ZC (ZD 0) ZL)) ZL)) (dB (dOp ZBi (ZD 0) (ZD 1))) (dF Z7 (ZC (ZD 1) (ZC (ZD 0) ZL)))))) (L.map PyData.int) [some (.dat (Zv ts)),x1,x2,x3,some (.ref c),z5,x6,x7] (g0 ++ [.pl (acc.map ZY)])) P
 | [],acc,z5,hl,q=>ZDI (by have:=q z5; rw [List.map_nil,List.flatten_nil,List.append_nil] at this; exact this)
 | x :: L,acc,z5,hl,q=>by
  subst hc
  rw [List.length_cons] at hl
  have hfl:(ZGP n x).length<=8:=by
   unfold ZGP
   rw [List.length_map]
   have:=List.length_filter_le (λ y:Nat=>!decide ((y:Int)=x)) (List.range n)
   rw [List.length_range] at this
   omega
  refine ZCM (by rw [Zr]) ?_
  and_intros
  refine ZAe (j:=ts.length) (g1:=[]) ?_
  and_intros
  rw [List.length_map]
  refine ⟨by omega,?_⟩
  refine ⟨by rw [ZAi]; omega,?_⟩
  refine ZC5 (λ y:Nat=>PyData.int (y:Int)) (λ y:Nat=>!decide ((y:Int)=x)) (λ y:Nat=>ZY (x,(y:Int))) (List.range n) (by rw [ZB4,Int.toNat_natCast,hn]) trivial (λ y hy=>⟨_,by rw [Zr],?_⟩) ?_
  ·and_intros
   rw [Zj]
   refine ⟨rfl,rfl,λ _=>?_⟩
   and_intros
   exact ⟨rfl,rfl⟩
  have e1:((List.range n).filter λ y:Nat=>!decide ((y:Int)=x)).map (λ y:Nat=>ZY (x,(y:Int)))=(ZGP n x).map ZY:=by
   unfold ZGP
   rw [List.map_map]
   rfl
  rw [e1]
  and_intros
  refine ⟨_,Z2,by rw [List.length_map,List.length_map]; omega,?_⟩
  rw [ZAn,← List.map_append]
  refine .nx trivial ?_
  refine ZK8 n8 hn rfl L (acc ++ ZGP n x) _ (by rw [List.length_append]; omega) λ z=>?_
  have:=q z
  rw [List.map_cons,List.flatten_cons] at this
  rw [List.append_assoc]
  exact this
theorem ZJE {n:Nat} (l:Lt):TIB (n+2) (ltD l):=.tup _ (by show (3:Nat)<=1000; decide) λ d hd=>by
 simp only [List.mem_cons,List.not_mem_nil,or_false] at hd
 rcases hd with rfl | rfl | rfl
 ·exact .int _
 ·exact .int _
 ·exact .bl _
theorem tib_w {n:Nat} (p:Int × Int):TIB (n+2) (ZY p):=.tup _ (by show (2:Nat)<=1000; decide) λ d hd=>by
 simp only [List.mem_cons,List.not_mem_nil,or_false] at hd
 rcases hd with rfl | rfl <;> exact .int _
theorem ZH2 {tn:Int} {hs:List Hs} {ts:List (Int × Int)} {lo fa le co:List Int} {L:List Lt} {g:G} {P:W->G->Prop} (w:HsL ts.length hs) (n8:ts.length<=8) (hck:∀ c ∈ ts,ZId c) (h:LtOk ts tn hs lo fa le co L) (hl:L.length<=960) (hf:fa.length<=8) (hlc:le.length+co.length<=8) (q:∀ g',Ex g g'->P (.dat (.bool true)) g'):EvP (ZAP [.dat (Zv ts),.dat (Zs tn hs),.dat (.tuple [ZZ lo,ZZ fa,ZZ le,ZZ co]),.dat (.tuple (L.map ltD))] g) P:=by
 obtain ⟨L1,Lb,eL,e1,h2⟩:=h.cut
 have hfl:=h.fl
 have hne:=h.ne
 have hk:L1.length=((le ++ co).map (ZGP ts.length)).flatten.length:=by rw [← e1]; unfold prL; rw [List.length_map]
 refine ZGD ?_
 and_intros
 refine ZEm (by rw [List.length_map,List.length_map]; omega) ?_
 and_intros
 rw [← List.map_append]
 refine ZK8 (n:=ts.length) n8 rfl rfl (le ++ co) [] _ (by rw [List.length_append]; show 0+_<=1000; omega) λ z=>?_
 rw [List.nil_append,← e1]
 have c1:(g ++ [Cell.pl ((prL L1).map ZY)])[g.length]? = some (.pl ((prL L1).map ZY)):=Z2
 generalize hg1:g ++ [Cell.pl ((prL L1).map ZY)]=g1 at *
 have E1:Ex g g1:=by rw [← hg1]; exact Ex.refl.app
 have hpl:((prL L1).map ZY).length=L1.length:=by unfold prL; rw [List.length_map,List.length_map]
 and_intros
 refine ZIb c1 ?_
 rw [hpl]
 and_intros
 rw [ZDU (by omega),Int.toNat_natCast,← List.map_take,show L.take L1.length=L1 by rw [eL,List.take_left' rfl]]
 have hL1:L1.length<=L.length:=by rw [eL,List.length_append]; omega
 refine ⟨by rw [List.length_map]; omega,?_⟩
 refine ZBX ltD (λ l:Lt=>PyData.tuple [.int l.1,.int l.2.1]) L1 rfl trivial (λ l hl=>⟨_,by rw [Zr],?_⟩) ?_
 ·and_intros
  exact ⟨rfl,rfl⟩
 and_intros
 rw [ZNC]
 refine ZN2 (m:=2) c1 (λ x hx=>by obtain ⟨p,_,rfl⟩:=List.mem_map.mp hx; exact tib_w p) (by decide) rfl ?_
 and_intros
 refine bF ?_
 and_intros
 refine ⟨by rw [List.length_map]; omega,?_⟩
 refine ZBX ltD (λ l:Lt=>PyData.bool l.2.2) L rfl trivial (λ l hl=>⟨_,by rw [Zr],?_⟩) ?_
 ·and_intros
  exact ⟨rfl,rfl⟩
 and_intros
 refine ZAe (j:=L.length) (g1:=[]) ?_
 and_intros
 rw [List.length_map]
 refine ⟨by omega,?_⟩
 refine ⟨by rw [ZAi]; omega,?_⟩
 refine ZBX (λ k:Nat=>PyData.int (k:Int)) (λ k:Nat=>PyData.bool (lo.contains (k:Int))) (List.range L.length) (by rw [ZB4,Int.toNat_natCast]) trivial (λ k hk=>⟨_,by rw [Zr],?_⟩) ?_
 ·and_intros
  refine ZDn (by rw [ZBU]; rfl) ?_
  rw [L2.any_ints]
  exact ⟨rfl,rfl⟩
 and_intros
 refine y_neL (m:=1) (λ x hx=>by obtain ⟨p,_,rfl⟩:=List.mem_map.mp hx; exact .bl _) (by decide) ?_ ?_
 ·have:=congrArg (List.map PyData.bool) hfl
  rw [List.map_map] at this
  unfold ZIs at this
  rw [List.map_map] at this
  exact this.symm
 and_intros
 refine bF ?_
 and_intros
 refine ZJo w n8 hck (by omega) ?_
 generalize hA:((List.range ts.length).filter (ZDx tn hs ts fa le co))=A
 have c2:(g1 ++ [Cell.pl (A.map λ a:Nat=>PyData.int (a:Int))])[g1.length]? = some (.pl (A.map λ a:Nat=>PyData.int (a:Int))):=Z2
 have c1':(g1 ++ [Cell.pl (A.map λ a:Nat=>PyData.int (a:Int))])[g.length]? = some (.pl ((prL L1).map ZY)):=by rw [List.getElem?_append_left (ZDC c1)]; exact c1
 have E2:Ex g (g1 ++ [Cell.pl (A.map λ a:Nat=>PyData.int (a:Int))]):=E1.app
 generalize g1 ++ [Cell.pl (A.map λ a:Nat=>PyData.int (a:Int))]=g2 at *
 and_intros
 refine ZIb c1' ?_
 rw [hpl]
 and_intros
 rw [ZJ0 (by rw [List.length_map,eL,List.length_append]; omega),← List.map_drop,show L.drop L1.length=Lb by rw [eL,List.drop_left' rfl]]
 have hLb:∀ x ∈ Lb.map ltD,TIB 2 x:=λ x hx=>by obtain ⟨p,_,rfl⟩:=List.mem_map.mp hx; exact ZJE p
 have ZL9:∀ {gx:G} {P':W->G->Prop},P' (.dat (.bool true)) gx->EvP (f1 ZJw [.dat (.list (L.map λ l:Lt=>PyData.bool (!decide (l.1=l.2.1))))] gx) P':=λ {gx P'} z=>by
  rw [show (L.map λ l:Lt=>PyData.bool (!decide (l.1=l.2.1)))=(L.map λ l:Lt=>!decide (l.1=l.2.1)).map PyData.bool by rw [List.map_map]; rfl]
  refine y_all ?_
  rw [List.all_map,List.all_eq_true.mpr λ l hl=>by show (!decide (l.1=l.2.1))=true; rw [decide_eq_false (hne l hl)]; rfl]
  exact z
 have hA1:∀ x ∈ A.map (λ a:Nat=>PyData.int (a:Int)),TIB 1 x:=λ x hx=>by obtain ⟨p,_,rfl⟩:=List.mem_map.mp hx; exact .int _
 rcases h2 with rfl | ⟨l,ex,rfl,a,ha1,ha2,ha3,ha4⟩
 ·and_intros
  refine bF ?_
  and_intros
  refine bF ?_
  and_intros
  refine ⟨by rw [List.length_map]; omega,?_⟩
  refine ZBX ltD (λ l:Lt=>PyData.bool (!decide (l.1=l.2.1))) L rfl trivial (λ l hl=>⟨_,rfl,?_⟩) ?_
  ·and_intros
   rw [Zj]
   exact ⟨rfl,rfl⟩
  and_intros
  refine ZL9 ?_
  and_intros
  refine bT ?_
  and_intros
  refine ZLi c2 hA1 (by decide) ?_
  and_intros
  refine ⟨λ z=>?_,λ z=>?_⟩
  ·and_intros
   exact q g2 E2
  ·and_intros
   exact q g2 E2
 ·have hmem:a ∈ A:=by
   rw [← hA]
   refine List.mem_filter.mpr ⟨List.mem_range.mpr ha2,?_⟩
   unfold ZDx
   rw [decide_eq_true ha4,Bool.and_true]
   rcases ha3.2.2 with z | z
   ·rw [show co.contains (a:Int)=true by simpa using z]
    exact Bool.or_true _
   ·rw [decide_eq_true z,show (fa ++ le).contains (a:Int)=false by
     rw [← Bool.not_eq_true,List.contains_iff_mem,List.mem_append]
     exact λ z=>z.elim ha3.1 ha3.2.1]
    rfl
  have hin:((A.map λ a:Nat=>PyData.int (a:Int)).any λ y=>y.eqv (.int l.1))=true:=by
   rw [List.any_map,List.any_eq_true]
   refine ⟨a,hmem,?_⟩
   show (PyData.int (a:Int)).eqv (.int l.1)=true
   rw [Zj,decide_eq_true ha1.symm]
  have canA:PyData.canLayAll0 (A.map λ a:Nat=>PyData.int (a:Int))=true:=ZFP λ x hx=>(ZDT (hA1 x hx)).1
  have hok:ok0 (.tuple ((l :: ex).map ltD))=true:=by
   unfold ok0
   rw [show (PyData.tuple ((l :: ex).map ltD)).canLay0=true from ZFP λ x hx=>(ZDT (hLb x hx)).1,decide_eq_true (by
    rw [PyData.depth.eq_2]
    have:=ZHT (k:=2) λ x hx=>(ZDT (hLb x hx)).2
    omega)]
   rfl
  and_intros
  refine ZME (by rw [hok]; rfl) ?_
  and_intros
  refine bT ?_
  and_intros
  refine ZAq (show atI ((l :: ex).map ltD) 0=some (ltD l) by
   unfold atI ixN
   rw [if_pos (by decide),if_pos (by rw [List.length_map,List.length_cons]; omega)]
   rfl) ?_
  and_intros
  refine ZLh (x:=.int l.1) c2 (by rw [canA]; rfl) ?_
  rw [hin]
  and_intros
  refine bF ?_
  and_intros
  refine ⟨by rw [List.length_map]; omega,?_⟩
  refine ZBX ltD (λ l:Lt=>PyData.bool (!decide (l.1=l.2.1))) L rfl trivial (λ l hl=>⟨_,rfl,?_⟩) ?_
  ·and_intros
   rw [Zj]
   exact ⟨rfl,rfl⟩
  and_intros
  refine ZL9 ?_
  and_intros
  refine bT ?_
  and_intros
  refine ZLi c2 hA1 (by decide) ?_
  rw [show (A.map λ a:Nat=>PyData.int (a:Int)).isEmpty=false by cases A with | nil=>cases hmem | cons _ _=>rfl]
  and_intros
  refine bT ?_
  and_intros
  exact q g2 E2
def ZD4 (a:Int) (lo:List Int):List Int:=ZIR (lo.filter (λ k=>!decide (k=a)) ++ if lo.contains a then [] else [a])
theorem ZKI {a:Int} {lo:List Int} {k:Int} (h:k ≠ a):(ZD4 a lo).contains k=lo.contains k:=by
 have e:∀ x,x ∈ ZD4 a lo ↔ x ∈ lo.filter (λ k=>!decide (k=a)) ++ (if lo.contains a then [] else [a]):=λ x=>(List.mergeSort_perm _ _).mem_iff
 rw [Bool.eq_iff_iff,List.contains_iff_mem,List.contains_iff_mem,e,List.mem_append,List.mem_filter,decide_eq_false h]
 constructor
 ·rintro (z | z)
  ·exact z.1
  ·split at z
   ·cases z
   ·exact absurd (List.mem_singleton.mp z) h
 ·exact λ z=>.inl ⟨z,rfl⟩
theorem ZKQ {a:Int} {lo:List Int}:(lo.filter (λ k=>!decide (k=a)) ++ if lo.contains a then [] else [a]).length<=lo.length+1:=by
 rw [List.length_append]
 have:=List.length_filter_le (λ k=>!decide (k=a)) lo
 have:(if lo.contains a then [] else [a]:List Int).length<=1:=by split <;> simp
 omega
theorem ZL7 {ns:List Int} {g:G} {P:W->G->Prop} (hl:ns.length < 64) (q:P (.dat (.list ((ZIR ns).map .int))) g):EvP (f1 ZHg [.dat (.list (ns.map .int))] g) P:=by
 refine ZLw ?_ q
 show ZHg (.dat (.list (ns.map .int))) g=_
 unfold ZHg
 show (match ZBK (ns.map .int) with | some ns=>_ | none=>_)=_
 rw [ZJK]
 show (if ns.length < 64 then _ else _)=_
 rw [if_pos hl]
theorem ZN6 {ns:List Int} (hns:ns.length<=63):∃ g',ZFt [.inp ns] []=some (.dat (.bool true),g'):=by
 suffices h:EvP (ZFt [.inp ns] []) λ x _=>x=.dat (.bool true) by
  obtain ⟨x,g',e,rfl⟩:=h
  exact ⟨g',e⟩
 refine ZON ?_
 and_intros
 refine ZAe (j:=0) (g1:=[]) ?_
 and_intros
 have hm : 0<=(1:Int)+(ZBz (ns.map PyData.int) none (some 6)).length/\(1:Int)+(ZBz (ns.map PyData.int) none (some 6)).length<=64:=by
  have:=ZHK (ds:=ns.map PyData.int) none (some 6)
  rw [List.length_map] at this
  omega
 generalize (1:Int)+(ZBz (ns.map PyData.int) none (some 6)).length=len at *
 refine ⟨by omega,?_⟩
 refine ZCU (λ n sd gx=>∃ z1 z2 z3 z4 z5 z6 z7 z8 z9 z10 z11 z12,sd=[some (.inp ns),z1,z2,z3,z4,z5,z6,z7,z8,z9,z10,z11,z12]) ⟨_,_,_,_,_,_,_,_,_,_,_,_,rfl⟩ ?_ ?_
 ·rintro n x sd g0 hx ⟨z1,z2,z3,z4,z5,z6,z7,z8,z9,z10,z11,z12,rfl⟩
  have hn:n < 64:=by
   have:=(List.getElem?_eq_some_iff.mp hx).1
   rw [ZAi] at this
   omega
  rw [ZB4,List.getElem?_map] at hx
  obtain ⟨k,hk,rfl⟩:=mp hx
  obtain ⟨hk1,hk2⟩:=List.getElem?_eq_some_iff.mp hk
  rw [List.getElem_range] at hk2
  subst hk2
  refine ⟨_,rfl,?_⟩
  and_intros
  generalize hb:List.length g0=b
  refine ZOr (by omega) λ g1 hl1 hg1 B1=>?_
  rw [hb] at B1
  rw [hb]
  and_intros
  refine ZLz B1 λ r g2 hr hcs _ D2=>?_
  and_intros
  refine ZMP D2.bx (by decide) λ ts g3 ht2 ht8 htc D3=>?_
  have n8:ts.length<=8:=by omega
  and_intros
  refine ZKq D3.bx hr ⟨ht2,n8⟩ λ tn hs g4 hhl htn0 htn hhv D4=>?_
  have w:HsL ts.length hs:=⟨hhl,λ h hh=>by
   obtain ⟨i,hi,e⟩:=List.mem_iff_getElem.mp hh
   exact hv_hl (hhv i h (by rw [List.getElem?_eq_getElem hi,e]))⟩
  and_intros
  refine Ze D4.bx (by decide) (by decide) λ d5 g5 l5 u5 D5=>?_
  and_intros
  refine ZKd (tn:=tn) D5.bx (by rw [w.len]; omega) λ lo fa le co g6 hdo D6=>?_
  have hle:∀ k ∈ le,0<=k/\k < ts.length:=λ k hk=>⟨hdo.ple.pr.lo k hk,by have:=hdo.ple.pr.hi k hk; rw [w.len] at this; exact this⟩
  have hco:∀ k ∈ co,0<=k/\k < ts.length:=λ k hk=>⟨hdo.pco.pr.lo k hk,by have:=hdo.pco.pr.hi k hk; rw [w.len] at this; exact this⟩
  have hlc:le.length+co.length<=ts.length:=by have:=hdo.few; rw [w.len] at this; exact this
  have hfa:fa.length<=8:=by have:=hdo.pfa.pr.len (by omega); rw [w.len] at this; omega
  have hlo:=hdo.plo.len (by decide)
  have en:∀ lo,EnOk ⟨r,ts,tn,lo⟩:=λ lo=>⟨hcs,hr,ht2,n8,htc⟩
  have hok:∀ lo,HsL ts.length (ZBG r ts tn hs lo fa le co).hs/\(ZBG r ts tn hs lo fa le co).le.length<=960:=λ lo=>ZKx hr.o ht2 n8 w hle hco hlc
  have hlt:∀ lo,LtOk ts tn hs lo fa le co (ZBG r ts tn hs lo fa le co).le:=λ lo=>ZNZ hr.o ht2 w hle hco
  have hpre:∀ (lo':List Int) (at_:Nat),(∀ k:Nat,k < at_->lo'.contains (k:Int)=lo.contains (k:Int))->Pre at_ (ZBG r ts tn hs lo fa le co) (ZBG r ts tn hs lo' fa le co):=λ lo' at_=>ZKn hr.o ht2 w hle hco
  and_intros
  refine ZD3 (en lo) w hle hco hlc λ g7 E7=>?_
  and_intros
  refine ZH2 w n8 htc (hlt lo) (hok lo).2 hfa (by omega) λ g8 E8=>?_
  and_intros
  refine bF ?_
  and_intros
  refine ZEm (ys:=[.int 1000000,.int (1000000+5)]) (by rw [List.length_map]; show _+2<=1000; omega) ?_
  and_intros
  have same:ZBG r ts tn hs (lo ++ [1000000,1000005]) fa le co=ZBG r ts tn hs lo fa le co:=by
   rcases hpre (lo ++ [1000000,1000005]) 961 (λ k hk=>by
    rw [Bool.eq_iff_iff,List.contains_iff_mem,List.contains_iff_mem,List.mem_append,List.mem_cons,List.mem_singleton]
    constructor
    ·rintro (z | z | z)
     ·exact z
     ·omega
     ·omega
    ·exact .inl) with z | z
   ·exact z.symm
   ·have:=(hok lo).2
    omega
  have e1:lo.map PyData.int ++ [PyData.int 1000000,PyData.int (1000000+5)]=(lo ++ [1000000,1000005]).map PyData.int:=by rw [List.map_append]; rfl
  rw [e1]
  have D8:=(D6.ex E7).ex E8
  refine ZD3 (en _) w hle hco hlc λ g9 E9=>?_
  rw [same]
  have D9:=D8.ex E9
  have tib:TIB 7 (.tuple [Zs (tn+1) (ZBG r ts tn hs lo fa le co).hs,.tuple ((ZBG r ts tn hs lo fa le co).le.map ltD)]):=.tup _ (by show (2:Nat)<=1000; decide) λ d hd=>by
   simp only [List.mem_cons,List.not_mem_nil,or_false] at hd
   rcases hd with rfl | rfl
   ·exact ZKK (n:=0) (s:=(tn+1,_)) (hok lo).1 n8
   ·exact .tup _ (by rw [List.length_map]; have:=(hok lo).2; omega) λ d hd=>by
     obtain ⟨x,_,rfl⟩:=List.mem_map.mp hd
     exact ZJE (n:=3) x
  and_intros
  refine ZK4 tib (by decide) ?_
  and_intros
  refine bF ?_
  have hl0:=(hok lo).2
  and_intros
  rw [List.length_map]
  refine Ze D9.bx (by omega) (by omega) λ at_ g10 l10 u10 D10=>?_
  obtain ⟨a,rfl⟩:∃ a:Nat,at_=(a:Int):=⟨at_.toNat,by omega⟩
  and_intros
  refine ⟨by rw [List.length_map]; omega,?_⟩
  refine ZC5 PyData.int (λ k=>!decide (k=(a:Int))) PyData.int lo rfl trivial (λ k hk=>⟨_,by rw [Zr],?_⟩) ?_
  ·and_intros
   rw [Zj]
   refine ⟨rfl,rfl,λ _=>?_⟩
   and_intros
   exact ⟨rfl,rfl⟩
  and_intros
  refine ZIi (by rw [ZBU]; rfl) ?_
  rw [L2.any_ints]
  and_intros
  refine ZNu ?_ ?_
  ·refine ⟨?_,?_,by show 1<=1000; decide⟩ <;> cases lo.contains (a:Int) <;> decide
  and_intros
  have e2:(List.replicate (Int.toNat (if (!lo.contains (a:Int))=true then 1 else 0)) [PyData.int (a:Int)]).flatten=(if lo.contains (a:Int) then [] else [(a:Int)]).map PyData.int:=by cases lo.contains (a:Int) <;> rfl
  rw [e2]
  have hol:=ZKQ (a:=(a:Int)) (lo:=lo)
  refine ZLP ?_ ?_
  ·rw [List.length_append] at hol
   rw [List.length_map,List.length_map]
   omega
  rw [← List.map_append]
  and_intros
  refine ZL7 (by omega) ?_
  and_intros
  refine ZD3 (lo:=ZD4 (a:Int) lo) (en _) w hle hco hlc λ g11 E11=>?_
  and_intros
  have hp:=hpre (ZD4 (a:Int) lo) a λ k hk=>ZKI (by omega)
  have hl1:=(hok (ZD4 (a:Int) lo)).2
  have et:(ZBG r ts tn hs (ZD4 (a:Int) lo) fa le co).le.take a=(ZBG r ts tn hs lo fa le co).le.take a:=by
   rcases hp with z | z
   ·rw [z]
   ·exact z.2.2.symm
  rw [ZDU (by omega),ZDU (by omega),Int.toNat_natCast,← List.map_take,← List.map_take,et]
  refine ZK4 (m:=4) (.tup _ (by rw [List.length_map,List.length_take]; omega) λ d hd=>by
   obtain ⟨x,_,rfl⟩:=List.mem_map.mp hd
   exact ZJE (n:=1) x) (by decide) ?_
  and_intros
  refine bF ?_
  and_intros
  refine ZH2 w n8 htc (hlt (ZD4 (a:Int) lo)) hl1 hfa (by omega) λ g12 E12=>?_
  and_intros
  refine bF ?_
  and_intros
  exact ⟨trivial,_,_,_,_,_,_,_,_,_,_,_,_,rfl⟩
 ·rintro sd gx ⟨z1,z2,z3,z4,z5,z6,z7,z8,z9,z10,z11,z12,rfl⟩
  and_intros
  rfl
section
variable {P:Program} {w:World} {K:PySem.W.Frag} {mg:Str->Option Value} {base:Heap} {A:Adr}
theorem scput:FnScope ["things","place","thing"] ["things","place","thing"] (ZM (top 1)):=⟨rfl,rfl,rfl,by decide +kernel,rfl,by decide +kernel,by decide +kernel⟩
theorem ZCs (T:Txt K mg A):FnOk P w K mg base CX0 1 A.f_put A.fd_put ["things","place","thing"] (spD K 3 ZAh):=by
 exact Za (d:=ZLU) (r:=ZAh) (n:=3) (by unfold ZAh; rfl) rfl rfl T.D_put.fn scput λ cdv A outer s H E hr=>(
(ZI (ZS (ZR ZBB (ZR ZBB (ZBx (ZA 0) ZAr (ZAs (ZA 1))) (ZU (ZB (ZA 2) ZE))) (ZBx (ZA 0) (ZAs (ZR ZBB (ZA 1) ZG)) ZAr)))))
theorem ZNX:FnScope ["one","other"] ["one","other"] (ZM (top 7)):=⟨rfl,rfl,rfl,by decide +kernel,rfl,by decide +kernel,by decide +kernel⟩
theorem ZGf (T:Txt K mg A):FnOk P w K mg base CX0 1 A.f_newer A.fd_newer ["one","other"] (spD K 2 ZCN):=by
 exact Za (d:=ZHi) (r:=ZCN) (n:=2) (by unfold ZCN; rfl) rfl rfl T.D_newer.fn ZNX λ cdv A outer s H E hr=>(
(ZI (ZS (Zz (oGt hr.units) (ZA 0) (ZA 1) (ZW _)))))
theorem ZG2:FnScope ["town","house","turn","pace","start"] ["town","house","turn"] (ZM (top 9)):=⟨rfl,rfl,rfl,by decide +kernel,rfl,by decide +kernel,by decide +kernel⟩
theorem ZKH (T:Txt K mg A):FnOk P w K mg base CX0 1 A.f_ticks A.fd_ticks ["town","house","turn"] (spD K 3 ZDc):=by
 exact Za (d:=ZHd) (r:=ZDc) (n:=5) (by unfold ZDc; rfl) rfl rfl T.D_ticks.fn ZG2 λ cdv A outer s H E hr=>(
(ZF (Zi (ZQ oIx (ZA 0) (ZA 1) (λ _ _=>rfl)) (Zg rfl (ZH (ZK (i:=3) ZG2.nd rfl (Or.inl rfl)) (ZH (ZK (i:=4) ZG2.nd rfl (Or.inl rfl)) ZX))))
(ZI (ZS (ZFL (Zz (oGe hr.units) (ZA 2) (ZA 4) (ZW _)) (ZCw (Zz (oEq hr.units) (ZR ZFA (ZR ZI0 (ZA 2) (ZA 4)) (ZA 3)) ZG (ZW _))))))))
theorem ZDs:FnScope ["town","house","turn","pace","start"] ["town","house","turn"] (ZM (top 10)):=⟨rfl,rfl,rfl,by decide +kernel,rfl,by decide +kernel,by decide +kernel⟩
theorem ZEY (T:Txt K mg A):FnOk P w K mg base CX0 1 A.f_ticks_by A.fd_ticks_by ["town","house","turn"] (spD K 3 ZA2):=by
 exact Za (d:=ZD2) (r:=ZA2) (n:=5) (by unfold ZA2; rfl) rfl rfl T.D_ticks_by.fn ZDs λ cdv A outer s H E hr=>(
(ZF (Zi (ZQ oIx (ZA 0) (ZA 1) (λ _ _=>rfl)) (Zg rfl (ZH (ZK (i:=3) ZDs.nd rfl (Or.inl rfl)) (ZH (ZK (i:=4) ZDs.nd rfl (Or.inl rfl)) ZX))))
(ZF (Zn (ZT (oLt hr.units) (ZA 2) (ZA 4) (ZW _))
(ZI (ZS ZG))
Zc)
(ZI (ZS (ZR ZBB (ZR ZJf (ZR ZI0 (ZA 2) (ZA 4)) (ZA 3)) ZG))))))
theorem ZFz:FnScope ["town","house","turn","many","ahead"] ["town","house","turn"] (ZM (top 11)):=⟨rfl,rfl,rfl,by decide +kernel,rfl,by decide +kernel,by decide +kernel⟩
theorem ZFh (T:Txt K mg A):FnOk P w K mg base CX0 2 A.f_target A.fd_target ["town","house","turn"] (spD K 3 ZBt):=by
 have Gticks_by:=ZEY (P:=P) (w:=w) (base:=base) T
 exact Za (d:=ZFb) (r:=ZBt) (n:=5) (by unfold ZBt; rfl) rfl rfl T.D_target.fn ZFz λ cdv A outer s H E hr=>(
(ZF (ZO (i:=3) ZFz.nd rfl (Or.inl rfl) (Zk ZDF rfl T.z_len boot_len (ZB (ZA 0) ZE)))
(ZF (ZO (i:=4) ZFz.nd rfl (Or.inl rfl) (ZR ZI0 (ZJ T.D_ticks_by Gticks_by (hr.mono (by decide)) (ZB (ZA 0) (ZB (ZA 1) (ZB (ZA 2) ZE))) (.cons (.cons (.cons .nil)))) ZG))
(ZI (ZS (ZR ZFA (ZR ZBB (ZR ZBB (ZA 1) ZG) (ZR ZFA (ZA 4) (ZR ZI0 (ZA 3) ZG))) (ZA 3)))))))
theorem ZB6:FnScope ["rules","town","turn","x","y","clauses","due","about"] ["rules","town","turn","x","y"] (ZM (top 14)):=⟨rfl,rfl,rfl,by decide +kernel,rfl,by decide +kernel,by decide +kernel⟩
theorem ZFi (T:Txt K mg A):FnOk P w K mg base CX0 2 A.f_due_houses A.fd_due_houses ["rules","town","turn","x","y"] (spD K 5 ZAk):=by
 have Gticks_by:=ZEY (P:=P) (w:=w) (base:=base) T
 exact Za (d:=ZC0) (r:=ZAk) (n:=8) (by unfold ZAk; rfl) rfl rfl T.D_due_houses.fn ZB6 λ cdv A outer s H E hr=>(
(ZF (ZO (i:=5) ZB6.nd rfl (Or.inl rfl) (ZQ oIx (ZA 0) ZG (λ _ _=>rfl)))
(ZF (ZO (i:=6) ZB6.nd rfl (Or.inl rfl) (ZAp (ZB (ZA 4) ZE)))
(ZF (Zn (ZT (oIn hr.units) ZAy (ZA 5) (by with_unfolding_all rfl))
(ZI (ZAO (ZB7 (ZA 6) (ZA 3))))
Zc)
(ZF (ZO (i:=7) ZB6.nd rfl (Or.inl rfl) (ZR ZFA (ZJ T.D_ticks_by Gticks_by (hr.mono (by decide)) (ZB (ZA 1) (ZB (ZA 3) (ZB (ZA 2) ZE))) (.cons (.cons (.cons .nil)))) (Zk ZDF rfl T.z_len boot_len (ZB (ZA 1) ZE))))
(ZF (Zn (JW.pt (ZAQ (ZT (oIn hr.units) ZAy (ZA 5) (by with_unfolding_all rfl)) (ZAc (ZT (oNe hr.units) (ZA 7) (ZA 3) (ZW _)))))
(ZI (ZAO (ZB7 (ZA 6) (ZA 7))))
Zc)
(ZI (ZS (ZA 6)))))))))
theorem ZAW:FnScope ["rules","told","x","due","others","wait","most","carry","clauses","fresh"] ["rules","told","x","due"] (ZM (top 15)):=⟨rfl,rfl,rfl,by decide +kernel,rfl,by decide +kernel,by decide +kernel⟩
theorem ZFJ (T:Txt K mg A):FnOk P w K mg base CX0 1 A.f_news_houses A.fd_news_houses ["rules","told","x","due"] (spD K 4 ZAT):=by
 exact Za (d:=ZCd) (r:=ZAT) (n:=10) (by unfold ZAT; rfl) rfl rfl T.D_news_houses.fn ZAW λ cdv A outer s H E hr=>(
(ZF (Zi (ZA 0) (Zg rfl (ZH (ZK (i:=4) ZAW.nd rfl (Or.inl rfl)) (ZH (ZK (i:=5) ZAW.nd rfl (Or.inl rfl)) (ZH (ZK (i:=6) ZAW.nd rfl (Or.inr rfl)) (ZH (ZK (i:=7) ZAW.nd rfl (Or.inl rfl)) (ZH (ZK (i:=8) ZAW.nd rfl (Or.inl rfl)) ZX)))))))
(ZF (ZIP (i:=9) (sc:=ZM (top 15)) (NX:=["rules","told","x","due","others","wait","most","carry","clauses","fresh"]) (N:=["house","many","most","x","due"]) (own:=2) (cap:=[6,2,3]) ZAW.nd rfl (Or.inl rfl) rfl (ZDQ rfl T.z_enumerate (ZB (ZA 1) ZE) (hn:=(.cons .nil))) rfl rfl (λ cl C s0 H0 fp=>⟨(Zg rfl (ZH (ZK (i:=0) (by show (["house","many","most","x","due"]:List Str).Nodup; decide +kernel) rfl (Or.inl rfl)) (ZH (ZK (i:=1) (by show (["house","many","most","x","due"]:List Str).Nodup; decide +kernel) rfl (Or.inl rfl)) ZX))),(ZBu (JW.pt (ZAQ (ZT (oLt hr.units) (ZA 1) (ZA 2) (ZW _)) (ZAQ (ZT (oNe hr.units) (ZA 0) (ZA 3) (ZW _)) (ZAc (ZT (ZF7 hr.units) (ZA 0) (ZA 4) (by with_unfolding_all rfl))))))),(ZU (ZB (ZA 1) (ZB (ZA 0) ZE)))⟩) (by decide +kernel) rfl)
(ZI (ZS (ZAA (sc:=ZM (top 15)) (NX:=["rules","told","x","due","others","wait","most","carry","clauses","fresh"]) (N:=["many","house"]) (own:=2) (cap:=[]) rfl (ZAZ (ZBx (Zk ZPf rfl T.z_sorted boot_sorted (ZB (ZA 9) ZE)) ZAr (ZAs (ZA 7)))) rfl rfl (λ cl C s0 H0 fp=>⟨(Zg rfl (ZH (ZK (i:=0) (by show (["many","house"]:List Str).Nodup; decide +kernel) rfl (Or.inl rfl)) (ZH (ZK (i:=1) (by show (["many","house"]:List Str).Nodup; decide +kernel) rfl (Or.inl rfl)) ZX))),ZAz,(ZA 1)⟩) (by decide +kernel) rfl))))))
theorem ZAD:FnScope ["rules","town","state","x","y","turn","houses","up","book","told","timers","due","news","notes","house"] ["rules","town","state","x","y"] (ZM (top 13)):=⟨rfl,rfl,rfl,by decide +kernel,rfl,by decide +kernel,by decide +kernel⟩
theorem ZHe (T:Txt K mg A):FnOk P w K mg base CX0 3 A.f_notes_of A.fd_notes_of ["rules","town","state","x","y"] (spD K 5 ZBO):=by
 have Gdue_houses:=ZFi (P:=P) (w:=w) (base:=base) T
 have Gnews_houses:=ZFJ (P:=P) (w:=w) (base:=base) T
 have Gput:=ZCs (P:=P) (w:=w) (base:=base) T
 exact Za (d:=ZD0) (r:=ZBO) (n:=15) (by unfold ZBO; rfl) rfl rfl T.D_notes_of.fn ZAD λ cdv A outer s H E hr=>(
(ZF (Zi (ZA 2) (Zg rfl (ZH (ZK (i:=5) ZAD.nd rfl (Or.inl rfl)) (ZH (ZK (i:=6) ZAD.nd rfl (Or.inl rfl)) ZX))))
(ZF (Zi (ZQ oIx (ZA 6) (ZA 3) (λ _ _=>rfl)) (Zg rfl (ZH (ZK (i:=7) ZAD.nd rfl (Or.inl rfl)) (ZH (ZK (i:=8) ZAD.nd rfl (Or.inl rfl)) (ZH (ZK (i:=9) ZAD.nd rfl (Or.inl rfl)) (ZH (ZK (i:=10) ZAD.nd rfl (Or.inl rfl)) ZX))))))
(ZF (ZO (i:=11) ZAD.nd rfl (Or.inr rfl) (ZJ T.D_due_houses Gdue_houses (hr.mono (by decide)) (ZB (ZA 0) (ZB (ZA 1) (ZB (ZA 5) (ZB (ZA 3) (ZB (ZA 4) ZE))))) (.cons (.cons (.cons (.cons (.cons .nil)))))))
(ZF (ZO (i:=12) ZAD.nd rfl (Or.inr rfl) (ZJ T.D_news_houses Gnews_houses (hr.mono (by decide)) (ZB (ZA 0) (ZB (ZA 9) (ZB (ZA 3) (ZB (ZA 11) ZE)))) (.cons (.cons (.cons (.cons .nil))))))
(ZF (ZO (i:=13) ZAD.nd rfl (Or.inl rfl) (Zh ZDy rfl T.z_tuple boot_tuple (ZB (ZAA (sc:=ZM (top 13)) (NX:=["rules","town","state","x","y","turn","houses","up","book","told","timers","due","news","notes","house"]) (N:=["house","word","due","news"]) (own:=2) (cap:=[11,12]) rfl (ZDQ rfl T.z_enumerate (ZB (ZA 8) ZE) (hn:=(.cons .nil))) rfl rfl (λ cl C s0 H0 fp=>⟨(Zg rfl (ZH (ZK (i:=0) (by show (["house","word","due","news"]:List Str).Nodup; decide +kernel) rfl (Or.inl rfl)) (ZH (ZK (i:=1) (by show (["house","word","due","news"]:List Str).Nodup; decide +kernel) rfl (Or.inl rfl)) ZX))),(ZBu (JW.pt (ZEd (ZT (oIn hr.units) (ZA 0) (ZA 2) (by with_unfolding_all rfl)) (ZDh (ZT (oIn hr.units) (ZA 0) (ZA 3) (by with_unfolding_all rfl)))))),(ZU (ZB (ZA 0) (ZB (ZA 1) ZE)))⟩) (by decide +kernel) rfl) ZE)))
(ZF (ZAY PassesOwn.never rfl (ZAZ (ZA 12)) (ZK (i:=14) ZAD.nd rfl (Or.inl rfl))
(ZI (ZO (i:=9) ZAD.nd rfl (Or.inl rfl) (ZJ T.D_put Gput (hr.mono (by decide)) (ZB (ZA 9) (ZB (ZA 14) (ZB (ZR ZBB (ZQ oIx (ZA 9) (ZA 14) (λ _ _=>rfl)) ZG) ZE))) (.cons (.cons (.cons .nil)))))))
(ZI (ZS (ZU (ZB (ZA 13) (ZB (ZA 9) ZE))))))))))))
theorem ZBh:FnScope ["rules","house","y","word","up","book","told","timers","number","mark"] ["rules","house","y","word"] (ZM (top 17)):=⟨rfl,rfl,rfl,by decide +kernel,rfl,by decide +kernel,by decide +kernel⟩
theorem ZH8 (T:Txt K mg A):FnOk P w K mg base CX0 2 A.f_refuted A.fd_refuted ["rules","house","y","word"] (spD K 4 ZBP):=by
 have Gnewer:=ZGf (P:=P) (w:=w) (base:=base) T
 have Gput:=ZCs (P:=P) (w:=w) (base:=base) T
 exact Za (d:=ZEj) (r:=ZBP) (n:=10) (by unfold ZBP; rfl) rfl rfl T.D_refuted.fn ZBh λ cdv A outer s H E hr=>(
(ZF (Zi (ZA 1) (Zg rfl (ZH (ZK (i:=4) ZBh.nd rfl (Or.inl rfl)) (ZH (ZK (i:=5) ZBh.nd rfl (Or.inl rfl)) (ZH (ZK (i:=6) ZBh.nd rfl (Or.inl rfl)) (ZH (ZK (i:=7) ZBh.nd rfl (Or.inl rfl)) ZX))))))
(ZF (Zn (JW.pt (ZAQ (ZT (oEq hr.units) (ZA 4) ZG (ZW _)) (ZAQ (ZT (oIn hr.units) ZAy (ZQ oIx (ZA 0) ZG (λ _ _=>rfl)) (by with_unfolding_all rfl)) (ZAc (ZAX (ZJ T.D_newer Gnewer (hr.mono (by decide)) (ZB (ZA 3) (ZB (ZQ oIx (ZA 5) (ZA 2) (λ _ _=>rfl)) ZE)) (.cons (.cons .nil))))))))
(ZF (Zi (ZA 3) (Zg rfl (ZH (ZK (i:=8) ZBh.nd rfl (Or.inl rfl)) (ZH (ZK (i:=9) ZBh.nd rfl (Or.inl rfl)) ZX))))
(ZI (ZS (ZU (ZB (ZA 4) (ZB (ZJ T.D_put Gput (hr.mono (by decide)) (ZB (ZA 5) (ZB (ZA 2) (ZB (ZU (ZB (ZR ZBB (ZA 8) ZG) (ZB (ZAd rfl T.g_ALIVE) ZE))) ZE))) (.cons (.cons (.cons .nil)))) (ZB (ZJ T.D_put Gput (hr.mono (by decide)) (ZB (ZA 6) (ZB (ZA 2) (ZB ZG ZE))) (.cons (.cons (.cons .nil)))) (ZB (ZA 7) ZE))))))))
Zc)
(ZI (ZS (ZA 1))))))
theorem ZIH:FnScope ["rules","old","word"] ["rules","old","word"] (ZM (top 19)):=⟨rfl,rfl,rfl,by decide +kernel,rfl,by decide +kernel,by decide +kernel⟩
theorem ZGU (T:Txt K mg A):FnOk P w K mg base CX0 2 A.f_gives_way A.fd_gives_way ["rules","old","word"] (spD K 3 ZA4):=by
 have Gnewer:=ZGf (P:=P) (w:=w) (base:=base) T
 exact Za (d:=ZDJ) (r:=ZA4) (n:=3) (by unfold ZA4; rfl) rfl rfl T.D_gives_way.fn ZIH λ cdv A outer s H E hr=>(
(ZF (Zn (ZT (oIn hr.units) ZAy (ZQ oIx (ZA 0) ZG (λ _ _=>rfl)) (by with_unfolding_all rfl))
(ZI (ZS (ZJ T.D_newer Gnewer (hr.mono (by decide)) (ZB (ZA 2) (ZB (ZA 1) ZE)) (.cons (.cons .nil)))))
Zc)
(ZI (ZS (Zz (oNe hr.units) (ZA 2) (ZA 1) (ZW _))))))
theorem ZCV:FnScope ["rules","house","about","word","up","book","told","timers","number","mark"] ["rules","house","about","word"] (ZM (top 18)):=⟨rfl,rfl,rfl,by decide +kernel,rfl,by decide +kernel,by decide +kernel⟩
theorem ZJ2 (T:Txt K mg A):FnOk P w K mg base CX0 3 A.f_noted A.fd_noted ["rules","house","about","word"] (spD K 4 ZCO):=by
 have Ggives_way:=ZGU (P:=P) (w:=w) (base:=base) T
 have Gput:=ZCs (P:=P) (w:=w) (base:=base) T
 exact Za (d:=ZHZ) (r:=ZCO) (n:=10) (by unfold ZCO; rfl) rfl rfl T.D_noted.fn ZCV λ cdv A outer s H E hr=>(
(ZF (Zi (ZA 1) (Zg rfl (ZH (ZK (i:=4) ZCV.nd rfl (Or.inl rfl)) (ZH (ZK (i:=5) ZCV.nd rfl (Or.inl rfl)) (ZH (ZK (i:=6) ZCV.nd rfl (Or.inl rfl)) (ZH (ZK (i:=7) ZCV.nd rfl (Or.inl rfl)) ZX))))))
(ZF (Zn (ZFN (ZAX (ZJ T.D_gives_way Ggives_way (hr.mono (by decide)) (ZB (ZA 0) (ZB (ZQ oIx (ZA 5) (ZA 2) (λ _ _=>rfl)) (ZB (ZA 3) ZE))) (.cons (.cons (.cons .nil))))))
(ZI (ZS (ZA 1)))
Zc)
(ZF (Zi (ZA 3) (Zg rfl (ZH (ZK (i:=8) ZCV.nd rfl (Or.inl rfl)) (ZH (ZK (i:=9) ZCV.nd rfl (Or.inl rfl)) ZX))))
(ZF (Zn (ZT (oNe hr.units) (ZA 9) (ZAd rfl T.g_SUSPECT) (ZW _))
(ZI (ZO (i:=7) ZCV.nd rfl (Or.inl rfl) (ZJ T.D_put Gput (hr.mono (by decide)) (ZB (ZA 7) (ZB (ZA 2) (ZB ZG ZE))) (.cons (.cons (.cons .nil))))))
Zc)
(ZI (ZS (ZU (ZB (ZA 4) (ZB (ZJ T.D_put Gput (hr.mono (by decide)) (ZB (ZA 5) (ZB (ZA 2) (ZB (ZA 3) ZE))) (.cons (.cons (.cons .nil)))) (ZB (ZJ T.D_put Gput (hr.mono (by decide)) (ZB (ZA 6) (ZB (ZA 2) (ZB ZG ZE))) (.cons (.cons (.cons .nil)))) (ZB (ZA 7) ZE))))))))))))
theorem ZEK:FnScope ["rules","house","y","notes","about","word"] ["rules","house","y","notes"] (ZM (top 16)):=⟨rfl,rfl,rfl,by decide +kernel,rfl,by decide +kernel,by decide +kernel⟩
theorem ZJv (T:Txt K mg A):FnOk P w K mg base CX0 4 A.f_taken A.fd_taken ["rules","house","y","notes"] (spD K 4 ZCz):=by
 have Grefuted:=ZH8 (P:=P) (w:=w) (base:=base) T
 have Gnoted:=ZJ2 (P:=P) (w:=w) (base:=base) T
 exact Za (d:=ZHP) (r:=ZCz) (n:=6) (by unfold ZCz; rfl) rfl rfl T.D_taken.fn ZEK λ cdv A outer s H E hr=>(
(ZF (ZAY PassesOwn.never rfl (ZAZ (ZA 3)) (Zg rfl (ZH (ZK (i:=4) ZEK.nd rfl (Or.inl rfl)) (ZH (ZK (i:=5) ZEK.nd rfl (Or.inl rfl)) ZX)))
(ZI (Zn (ZT (oEq hr.units) (ZA 4) (ZA 2) (ZW _))
(ZI (ZO (i:=1) ZEK.nd rfl (Or.inl rfl) (ZJ T.D_refuted Grefuted (hr.mono (by decide)) (ZB (ZA 0) (ZB (ZA 1) (ZB (ZA 2) (ZB (ZA 5) ZE)))) (.cons (.cons (.cons (.cons .nil)))))))
(ZI (ZO (i:=1) ZEK.nd rfl (Or.inl rfl) (ZJ T.D_noted Gnoted (hr.mono (by decide)) (ZB (ZA 0) (ZB (ZA 1) (ZB (ZA 4) (ZB (ZA 5) ZE)))) (.cons (.cons (.cons (.cons .nil))))))))))
(ZI (ZS (ZA 1)))))
theorem ZCv:FnScope ["state","at","house","turn","houses"] ["state","at","house"] (ZM (top 22)):=⟨rfl,rfl,rfl,by decide +kernel,rfl,by decide +kernel,by decide +kernel⟩
theorem ZCF (T:Txt K mg A):FnOk P w K mg base CX0 2 A.f_with_house A.fd_with_house ["state","at","house"] (spD K 3 Zx):=by
 have Gput:=ZCs (P:=P) (w:=w) (base:=base) T
 exact Za (d:=ZCp) (r:=Zx) (n:=5) (by unfold Zx; rfl) rfl rfl T.D_with_house.fn ZCv λ cdv A outer s H E hr=>(
(ZF (Zi (ZA 0) (Zg rfl (ZH (ZK (i:=3) ZCv.nd rfl (Or.inl rfl)) (ZH (ZK (i:=4) ZCv.nd rfl (Or.inl rfl)) ZX))))
(ZI (ZS (ZU (ZB (ZA 3) (ZB (ZJ T.D_put Gput (hr.mono (by decide)) (ZB (ZA 4) (ZB (ZA 1) (ZB (ZA 2) ZE))) (.cons (.cons (.cons .nil)))) ZE)))))))
theorem ZBF:FnScope ["rules","town","state","x","y","turn","houses","notes","told","up","book","old","timers","missed"] ["rules","town","state","x","y"] (ZM (top 21)):=⟨rfl,rfl,rfl,by decide +kernel,rfl,by decide +kernel,by decide +kernel⟩
theorem ZJD (T:Txt K mg A):FnOk P w K mg base CX0 5 A.f_posted A.fd_posted ["rules","town","state","x","y"] (spD K 5 ZCC):=by
 have Gnotes_of:=ZHe (P:=P) (w:=w) (base:=base) T
 have Gput:=ZCs (P:=P) (w:=w) (base:=base) T
 have Gwith_house:=ZCF (P:=P) (w:=w) (base:=base) T
 have Gtaken:=ZJv (P:=P) (w:=w) (base:=base) T
 exact Za (d:=ZFs) (r:=ZCC) (n:=14) (by unfold ZCC; rfl) rfl rfl T.D_posted.fn ZBF λ cdv A outer s H E hr=>(
(ZF (Zi (ZA 2) (Zg rfl (ZH (ZK (i:=5) ZBF.nd rfl (Or.inl rfl)) (ZH (ZK (i:=6) ZBF.nd rfl (Or.inl rfl)) ZX))))
(ZF (Zi (ZJ T.D_notes_of Gnotes_of (hr.mono (by decide)) (ZB (ZA 0) (ZB (ZA 1) (ZB (ZA 2) (ZB (ZA 3) (ZB (ZA 4) ZE))))) (.cons (.cons (.cons (.cons (.cons .nil)))))) (Zg rfl (ZH (ZK (i:=7) ZBF.nd rfl (Or.inl rfl)) (ZH (ZK (i:=8) ZBF.nd rfl (Or.inl rfl)) ZX))))
(ZF (Zi (ZQ oIx (ZA 6) (ZA 3) (λ _ _=>rfl)) (Zg rfl (ZH (ZK (i:=9) ZBF.nd rfl (Or.inl rfl)) (ZH (ZK (i:=10) ZBF.nd rfl (Or.inl rfl)) (ZH (ZK (i:=11) ZBF.nd rfl (Or.inl rfl)) (ZH (ZK (i:=12) ZBF.nd rfl (Or.inl rfl)) ZX))))))
(ZF (ZO (i:=13) ZBF.nd rfl (Or.inl rfl) (ZU (ZB (ZA 5) (ZB (ZJ T.D_put Gput (hr.mono (by decide)) (ZB (ZA 6) (ZB (ZA 3) (ZB (ZU (ZB (ZA 9) (ZB (ZA 10) (ZB (ZA 8) (ZB (ZA 12) ZE))))) ZE))) (.cons (.cons (.cons .nil)))) ZE))))
(ZF (Zn (ZT (oEq hr.units) (ZQ oIx (ZQ oIx (ZA 6) (ZA 4) (λ _ _=>rfl)) ZG (λ _ _=>rfl)) ZG (ZW _))
(ZI (ZS (ZU (ZB (ZA 13) (ZB ZJj ZE)))))
Zc)
(ZI (ZS (ZU (ZB (ZA 13) (ZB (ZJ T.D_with_house Gwith_house (hr.mono (by decide)) (ZB (ZA 13) (ZB (ZA 4) (ZB (ZJ T.D_taken Gtaken (hr.mono (by decide)) (ZB (ZA 0) (ZB (ZQ oIx (ZA 6) (ZA 4) (λ _ _=>rfl)) (ZB (ZA 4) (ZB (ZA 7) ZE)))) (.cons (.cons (.cons (.cons .nil))))) ZE))) (.cons (.cons (.cons .nil)))) ZE)))))))))))
theorem ZD6:FnScope ["town","state","a","turn","houses"] ["town","state","a"] (ZM (top 23)):=⟨rfl,rfl,rfl,by decide +kernel,rfl,by decide +kernel,by decide +kernel⟩
theorem ZHW (T:Txt K mg A):FnOk P w K mg base CX0 2 A.f_asks_any A.fd_asks_any ["town","state","a"] (spD K 3 ZA5):=by
 have Gticks:=ZKH (P:=P) (w:=w) (base:=base) T
 exact Za (d:=ZDt) (r:=ZA5) (n:=5) (by unfold ZA5; rfl) rfl rfl T.D_asks_any.fn ZD6 λ cdv A outer s H E hr=>(
(ZF (Zi (ZA 1) (Zg rfl (ZH (ZK (i:=3) ZD6.nd rfl (Or.inl rfl)) (ZH (ZK (i:=4) ZD6.nd rfl (Or.inl rfl)) ZX))))
(ZI (ZS (ZFL (Zz (oEq hr.units) (ZQ oIx (ZQ oIx (ZA 4) (ZA 2) (λ _ _=>rfl)) ZG (λ _ _=>rfl)) ZG (ZW _)) (ZCw (ZJ T.D_ticks Gticks (hr.mono (by decide)) (ZB (ZA 0) (ZB (ZA 2) (ZB (ZA 3) ZE))) (.cons (.cons (.cons .nil))))))))))
theorem ZCh:FnScope ["town","turn","a","first"] ["town","turn","a"] (ZM (top 24)):=⟨rfl,rfl,rfl,by decide +kernel,rfl,by decide +kernel,by decide +kernel⟩
theorem ZDr (T:Txt K mg A):FnOk P w K mg base CX0 3 A.f_asked_in_order A.fd_asked_in_order ["town","turn","a"] (spD K 3 Z5):=by
 have Gtarget:=ZFh (P:=P) (w:=w) (base:=base) T
 exact Za (d:=ZBj) (r:=Z5) (n:=4) (by unfold Z5; rfl) rfl rfl T.D_asked_in_order.fn ZCh λ cdv A outer s H E hr=>(
(ZF (ZO (i:=3) ZCh.nd rfl (Or.inr rfl) (ZJ T.D_target Gtarget (hr.mono (by decide)) (ZB (ZA 0) (ZB (ZA 2) (ZB (ZA 1) ZE))) (.cons (.cons (.cons .nil)))))
(ZI (ZS (ZR ZBB (ZBI (ZB (ZA 3) ZE)) (ZAA (sc:=ZM (top 24)) (NX:=["town","turn","a","first"]) (N:=["b","a","first"]) (own:=1) (cap:=[2,3]) rfl (Z4 rfl T.z_range (ZB (Zk ZDF rfl T.z_len boot_len (ZB (ZA 0) ZE)) ZE) (hn:=(.cons .nil))) rfl rfl (λ cl C s0 H0 fp=>⟨(ZK (i:=0) (by show (["b","a","first"]:List Str).Nodup; decide +kernel) rfl (Or.inl rfl)),(ZBu (JW.pt (ZAQ (ZT (oNe hr.units) (ZA 0) (ZA 1) (ZW _)) (ZAc (ZT (oNe hr.units) (ZA 0) (ZA 2) (ZW _)))))),(ZA 0)⟩) (by decide +kernel) rfl))))))
theorem ZDu:FnScope ["book","house","number","mark"] ["book","house"] (ZM (top 26)):=⟨rfl,rfl,rfl,by decide +kernel,rfl,by decide +kernel,by decide +kernel⟩
theorem ZC3 (T:Txt K mg A):FnOk P w K mg base CX0 1 A.f_is_about A.fd_is_about ["book","house"] (spD K 2 ZAl):=by
 exact Za (d:=ZED) (r:=ZAl) (n:=4) (by unfold ZAl; rfl) rfl rfl T.D_is_about.fn ZDu λ cdv A outer s H E hr=>(
(ZF (Zi (ZQ oIx (ZA 0) (ZA 1) (λ _ _=>rfl)) (Zg rfl (ZH (ZK (i:=2) ZDu.nd rfl (Or.inl rfl)) (ZH (ZK (i:=3) ZDu.nd rfl (Or.inl rfl)) ZX))))
(ZI (ZS (Zz (oLt hr.units) (ZA 3) (ZAd rfl T.g_GONE) (ZW _))))))
theorem ZBJ:FnScope ["rules","town","state","a","b","turn","houses","up","book","told","timers"] ["rules","town","state","a","b"] (ZM (top 25)):=⟨rfl,rfl,rfl,by decide +kernel,rfl,by decide +kernel,by decide +kernel⟩
theorem ZHM (T:Txt K mg A):FnOk P w K mg base CX0 3 A.f_asks_now A.fd_asks_now ["rules","town","state","a","b"] (spD K 5 ZA3):=by
 have Gtarget:=ZFh (P:=P) (w:=w) (base:=base) T
 have Gis_about:=ZC3 (P:=P) (w:=w) (base:=base) T
 exact Za (d:=ZDw) (r:=ZA3) (n:=11) (by unfold ZA3; rfl) rfl rfl T.D_asks_now.fn ZBJ λ cdv A outer s H E hr=>(
(ZF (Zi (ZA 2) (Zg rfl (ZH (ZK (i:=5) ZBJ.nd rfl (Or.inl rfl)) (ZH (ZK (i:=6) ZBJ.nd rfl (Or.inl rfl)) ZX))))
(ZF (Zi (ZQ oIx (ZA 6) (ZA 3) (λ _ _=>rfl)) (Zg rfl (ZH (ZK (i:=7) ZBJ.nd rfl (Or.inl rfl)) (ZH (ZK (i:=8) ZBJ.nd rfl (Or.inl rfl)) (ZH (ZK (i:=9) ZBJ.nd rfl (Or.inl rfl)) (ZH (ZK (i:=10) ZBJ.nd rfl (Or.inl rfl)) ZX))))))
(ZF (Zn (ZT (oEq hr.units) (ZA 4) (ZJ T.D_target Gtarget (hr.mono (by decide)) (ZB (ZA 1) (ZB (ZA 3) (ZB (ZA 5) ZE))) (.cons (.cons (.cons .nil)))) (ZW _))
(ZI (ZS (ZIg (Zz (oIn hr.units) ZAy (ZQ oIx (ZA 0) ZG (λ _ _=>rfl)) (by with_unfolding_all rfl)) (ZCw (ZJ T.D_is_about Gis_about (hr.mono (by decide)) (ZB (ZA 8) (ZB (ZA 4) ZE)) (.cons (.cons .nil)))))))
Zc)
(ZI (ZS (Zz (oGt hr.units) (ZQ oIx (ZA 10) (ZA 4) (λ _ _=>rfl)) ZG (ZW _))))))))
theorem ZEn:FnScope ["rules","book","a","b","many","behind"] ["rules","book","a","b"] (ZM (top 28)):=⟨rfl,rfl,rfl,by decide +kernel,rfl,by decide +kernel,by decide +kernel⟩
theorem ZHz (T:Txt K mg A):FnOk P w K mg base CX0 2 A.f_helpers A.fd_helpers ["rules","book","a","b"] (spD K 4 ZBf):=by
 have Gis_about:=ZC3 (P:=P) (w:=w) (base:=base) T
 exact Za (d:=ZEq) (r:=ZBf) (n:=6) (by unfold ZBf; rfl) rfl rfl T.D_helpers.fn ZEn λ cdv A outer s H E hr=>(
(ZF (ZO (i:=4) ZEn.nd rfl (Or.inr rfl) (Zk ZDF rfl T.z_len boot_len (ZB (ZA 1) ZE)))
(ZF (ZIP (i:=5) (sc:=ZM (top 28)) (NX:=["rules","book","a","b","many","behind"]) (N:=["step","many","a"]) (own:=1) (cap:=[4,2]) ZEn.nd rfl (Or.inl rfl) rfl (ZJC rfl T.z_range (ZB ZG (ZB (ZA 4) ZE)) (hn:=(.cons (.cons .nil)))) rfl rfl (λ cl C s0 H0 fp=>⟨(ZK (i:=0) (by show (["step","many","a"]:List Str).Nodup; decide +kernel) rfl (Or.inl rfl)),ZAz,(ZR ZFA (ZR ZBB (ZA 2) (ZA 0)) (ZA 1))⟩) (by decide +kernel) rfl)
(ZI (ZS (ZBx (ZAA (sc:=ZM (top 28)) (NX:=["rules","book","a","b","many","behind"]) (N:=["h","b","book"]) (own:=1) (cap:=[3,1]) rfl (ZAZ (ZA 5)) rfl rfl (λ cl C s0 H0 fp=>⟨(ZK (i:=0) (by show (["h","b","book"]:List Str).Nodup; decide +kernel) rfl (Or.inl rfl)),(ZBu (JW.pt (ZAQ (ZT (oNe hr.units) (ZA 0) (ZA 1) (ZW _)) (ZAc (ZAX (ZJ T.D_is_about Gis_about (hr.mono (by decide)) (ZB (ZA 2) (ZB (ZA 0) ZE)) (.cons (.cons .nil)))))))),(ZA 0)⟩) (by decide +kernel) rfl) ZAr (ZAs (ZQ oIx (ZA 0) ZG (λ _ _=>rfl)))))))))
theorem ZC2:FnScope ["rules","state","a","b","turn","houses","up","book","told","timers","found"] ["rules","state","a","b"] (ZM (top 27)):=⟨rfl,rfl,rfl,by decide +kernel,rfl,by decide +kernel,by decide +kernel⟩
theorem ZKi (T:Txt K mg A):FnOk P w K mg base CX0 3 A.f_ways A.fd_ways ["rules","state","a","b"] (spD K 4 ZEA):=by
 have Gis_about:=ZC3 (P:=P) (w:=w) (base:=base) T
 have Ghelpers:=ZHz (P:=P) (w:=w) (base:=base) T
 exact Za (d:=ZIl) (r:=ZEA) (n:=11) (by unfold ZEA; rfl) rfl rfl T.D_ways.fn ZC2 λ cdv A outer s H E hr=>(
(ZF (Zi (ZA 1) (Zg rfl (ZH (ZK (i:=4) ZC2.nd rfl (Or.inl rfl)) (ZH (ZK (i:=5) ZC2.nd rfl (Or.inl rfl)) ZX))))
(ZF (Zi (ZQ oIx (ZA 5) (ZA 2) (λ _ _=>rfl)) (Zg rfl (ZH (ZK (i:=6) ZC2.nd rfl (Or.inl rfl)) (ZH (ZK (i:=7) ZC2.nd rfl (Or.inl rfl)) (ZH (ZK (i:=8) ZC2.nd rfl (Or.inl rfl)) (ZH (ZK (i:=9) ZC2.nd rfl (Or.inl rfl)) ZX))))))
(ZF (ZO (i:=10) ZC2.nd rfl (Or.inl rfl) (ZAp (ZB (ZU (ZB (ZU (ZB (ZA 2) (ZB (ZA 3) ZE))) (ZB (ZU (ZB (ZA 3) (ZB (ZA 2) ZE))) ZE))) ZE)))
(ZF (Zn (JW.pt (ZAQ (ZT (oIn hr.units) ZAy (ZQ oIx (ZA 0) ZG (λ _ _=>rfl)) (by with_unfolding_all rfl)) (ZAc (ZAX (ZJ T.D_is_about Gis_about (hr.mono (by decide)) (ZB (ZA 7) (ZB (ZA 3) ZE)) (.cons (.cons .nil)))))))
(ZI (ZK2 (i:=10) ZC2.nd rfl (Or.inl rfl) (ZAA (sc:=ZM (top 27)) (NX:=["rules","state","a","b","turn","houses","up","book","told","timers","found"]) (N:=["h","a","b"]) (own:=1) (cap:=[2,3]) rfl (ZAZ (ZJ T.D_helpers Ghelpers (hr.mono (by decide)) (ZB (ZA 0) (ZB (ZA 7) (ZB (ZA 2) (ZB (ZA 3) ZE)))) (.cons (.cons (.cons (.cons .nil)))))) rfl rfl (λ cl C s0 H0 fp=>⟨(ZK (i:=0) (by show (["h","a","b"]:List Str).Nodup; decide +kernel) rfl (Or.inl rfl)),ZAz,(ZU (ZB (ZU (ZB (ZA 1) (ZB (ZA 0) ZE))) (ZB (ZU (ZB (ZA 0) (ZB (ZA 2) ZE))) (ZB (ZU (ZB (ZA 2) (ZB (ZA 0) ZE))) (ZB (ZU (ZB (ZA 0) (ZB (ZA 1) ZE))) ZE)))))⟩) (by decide +kernel) rfl)))
Zc)
(ZI (ZS (ZA 10))))))))
theorem ZAR:FnScope ["rules","state","a","b","answered","turn","houses","up","book","told","timers","number","mark"] ["rules","state","a","b","answered"] (ZM (top 29)):=⟨rfl,rfl,rfl,by decide +kernel,rfl,by decide +kernel,by decide +kernel⟩
theorem ZIv (T:Txt K mg A):FnOk P w K mg base CX0 3 A.f_judged A.fd_judged ["rules","state","a","b","answered"] (spD K 5 ZBp):=by
 have Gwith_house:=ZCF (P:=P) (w:=w) (base:=base) T
 have Gput:=ZCs (P:=P) (w:=w) (base:=base) T
 exact Za (d:=ZFn) (r:=ZBp) (n:=13) (by unfold ZBp; rfl) rfl rfl T.D_judged.fn ZAR λ cdv A outer s H E hr=>(
(ZF (Zi (ZA 1) (Zg rfl (ZH (ZK (i:=5) ZAR.nd rfl (Or.inl rfl)) (ZH (ZK (i:=6) ZAR.nd rfl (Or.inl rfl)) ZX))))
(ZF (Zi (ZQ oIx (ZA 6) (ZA 2) (λ _ _=>rfl)) (Zg rfl (ZH (ZK (i:=7) ZAR.nd rfl (Or.inl rfl)) (ZH (ZK (i:=8) ZAR.nd rfl (Or.inl rfl)) (ZH (ZK (i:=9) ZAR.nd rfl (Or.inl rfl)) (ZH (ZK (i:=10) ZAR.nd rfl (Or.inl rfl)) ZX))))))
(ZF (Zi (ZQ oIx (ZA 8) (ZA 3) (λ _ _=>rfl)) (Zg rfl (ZH (ZK (i:=11) ZAR.nd rfl (Or.inl rfl)) (ZH (ZK (i:=12) ZAR.nd rfl (Or.inl rfl)) ZX))))
(ZF (Zn (ZAX (ZA 4))
(ZI (ZO (i:=10) ZAR.nd rfl (Or.inl rfl) (ZJ T.D_put Gput (hr.mono (by decide)) (ZB (ZA 10) (ZB (ZA 3) (ZB ZG ZE))) (.cons (.cons (.cons .nil))))))
(ZI (Zn (JW.pt (ZAQ (ZT (oLt hr.units) (ZA 12) (ZAd rfl T.g_GONE) (ZW _)) (ZAc (JW.pt (ZEd (ZT (ZF7 hr.units) ZAy (ZQ oIx (ZA 0) ZG (λ _ _=>rfl)) (by with_unfolding_all rfl)) (ZDh (ZT (oEq hr.units) (ZQ oIx (ZA 10) (ZA 3) (λ _ _=>rfl)) ZG (ZW _))))))))
(ZI (ZHl (i:=8) (j:=9) (l:=10) rfl ZAR.nd rfl rfl rfl rfl rfl rfl (ZB (ZJ T.D_put Gput (hr.mono (by decide)) (ZB (ZA 8) (ZB (ZA 3) (ZB (ZU (ZB (ZA 11) (ZB (ZAd rfl T.g_GONE) ZE))) ZE))) (.cons (.cons (.cons .nil)))) (ZB (ZJ T.D_put Gput (hr.mono (by decide)) (ZB (ZA 9) (ZB (ZA 3) (ZB ZG ZE))) (.cons (.cons (.cons .nil)))) (ZB (ZJ T.D_put Gput (hr.mono (by decide)) (ZB (ZA 10) (ZB (ZA 3) (ZB ZG ZE))) (.cons (.cons (.cons .nil)))) ZE))) (hw:=by kernel_rfl) (hs:=by kernel_rfl)))
(ZI (Zn (JW.pt (ZAQ (ZT (oLt hr.units) (ZA 12) (ZAd rfl T.g_GONE) (ZW _)) (ZAc (ZT (oEq hr.units) (ZQ oIx (ZA 10) (ZA 3) (λ _ _=>rfl)) ZG (ZW _)))))
(ZF (Zn (ZT (oEq hr.units) (ZA 12) (ZAd rfl T.g_ALIVE) (ZW _))
(ZI (ZMi (i:=8) (j:=9) rfl ZAR.nd rfl rfl (by decide) rfl rfl (ZB (ZJ T.D_put Gput (hr.mono (by decide)) (ZB (ZA 8) (ZB (ZA 3) (ZB (ZU (ZB (ZA 11) (ZB (ZAd rfl T.g_SUSPECT) ZE))) ZE))) (.cons (.cons (.cons .nil)))) (ZB (ZJ T.D_put Gput (hr.mono (by decide)) (ZB (ZA 9) (ZB (ZA 3) (ZB ZG ZE))) (.cons (.cons (.cons .nil)))) ZE)) rfl))
Zc)
(ZI (ZO (i:=10) ZAR.nd rfl (Or.inl rfl) (ZJ T.D_put Gput (hr.mono (by decide)) (ZB (ZA 10) (ZB (ZA 3) (ZB (ZQ oIx (ZA 0) ZG (λ _ _=>rfl)) ZE))) (.cons (.cons (.cons .nil)))))))
(ZI (Zn (ZT (oLt hr.units) (ZA 12) (ZAd rfl T.g_GONE) (ZW _))
(ZI (ZO (i:=10) ZAR.nd rfl (Or.inl rfl) (ZJ T.D_put Gput (hr.mono (by decide)) (ZB (ZA 10) (ZB (ZA 3) (ZB (ZR ZI0 (ZQ oIx (ZA 10) (ZA 3) (λ _ _=>rfl)) ZG) ZE))) (.cons (.cons (.cons .nil))))))
Zc)))))))
(ZI (ZS (ZJ T.D_with_house Gwith_house (hr.mono (by decide)) (ZB (ZA 1) (ZB (ZA 2) (ZB (ZU (ZB (ZA 7) (ZB (ZA 8) (ZB (ZA 9) (ZB (ZA 10) ZE))))) ZE))) (.cons (.cons (.cons .nil)))))))))))
theorem ZEe:FnScope ["self","rules","town","state","lost"] ["self","rules","town","state","lost"] (ZM (ZCX (top 31) 0)):=⟨rfl,rfl,rfl,by decide +kernel,rfl,by decide +kernel,by decide +kernel⟩
theorem ZD7 (T:Txt K mg A):FnOk P w K mg base CX0 1 A.f_Road____init__ A.fd_Road____init__ ["self","rules","town","state","lost"] (spD K 5 Z6):=by
 exact Za (d:=ZBd) (r:=Z6) (n:=5) (by unfold Z6; rfl) rfl rfl T.D_Road____init__.fn ZEe λ cdv A outer s H E hr=>(
(ZF (ZB5 (i:=0) T.k_Road rfl (ZA 0) (ZA 1))
(ZF (ZB5 (i:=1) T.k_Road rfl (ZA 0) (ZA 2))
(ZF (ZB5 (i:=2) T.k_Road rfl (ZA 0) (ZA 3))
(ZF (ZB5 (i:=3) T.k_Road rfl (ZA 0) (ZA 4))
(ZI (ZB5 (i:=4) T.k_Road rfl (ZA 0) (ZAp ZE))))))))
theorem ZBn:FnScope ["self","x","y","lost","missed","came"] ["self","x","y"] (ZM (ZCX (top 31) 1)):=⟨rfl,rfl,rfl,by decide +kernel,rfl,by decide +kernel,by decide +kernel⟩
theorem ZC7 (T:Txt K mg A):FnOk P w K mg base CX0 6 A.f_Road__sends A.fd_Road__sends ["self","x","y"] (spD K 3 Zw):=by
 have Gposted:=ZJD (P:=P) (w:=w) (base:=base) T
 exact Za (d:=ZCe) (r:=Zw) (n:=6) (by unfold Zw; rfl) rfl rfl T.D_Road__sends.fn ZBn λ cdv A outer s H E hr=>(
(ZF (ZO (i:=3) ZBn.nd rfl (Or.inl rfl) (Zz (oIn hr.units) (Zk ZDF rfl T.z_len boot_len (ZB (Z9 (i:=4) T.k_Road rfl (ZA 0)) ZE)) (Z9 (i:=3) T.k_Road rfl (ZA 0)) (by with_unfolding_all rfl)))
(ZF (ZAO (ZB7 (Z9 (i:=4) T.k_Road rfl (ZA 0)) (ZU (ZB (ZA 1) (ZB (ZA 2) (ZB (ZA 3) ZE))))))
(ZF (Zi (ZJ T.D_posted Gposted (hr.mono (by decide)) (ZB (Z9 (i:=0) T.k_Road rfl (ZA 0)) (ZB (Z9 (i:=1) T.k_Road rfl (ZA 0)) (ZB (Z9 (i:=2) T.k_Road rfl (ZA 0)) (ZB (ZA 1) (ZB (ZA 2) ZE))))) (.cons (.cons (.cons (.cons (.cons .nil)))))) (Zg rfl (ZH (ZK (i:=4) ZBn.nd rfl (Or.inl rfl)) (ZH (ZK (i:=5) ZBn.nd rfl (Or.inl rfl)) ZX))))
(ZF (Zn (JW.pt (ZEd (ZAX (ZA 3)) (ZDh (ZT oIsN (ZA 5) ZJj (ZW _)))))
(ZF (ZB5 (i:=2) T.k_Road rfl (ZA 0) (ZA 4))
(ZI (ZS ZBV)))
Zc)
(ZF (ZB5 (i:=2) T.k_Road rfl (ZA 0) (ZA 5))
(ZI (ZS ZBV))))))))
theorem ZDH:FnScope ["road","x","y"] ["road","x"] (ZM (top 34)):=⟨rfl,rfl,rfl,by decide +kernel,rfl,by decide +kernel,by decide +kernel⟩
theorem ZEf (T:Txt K mg A):FnOk P w K mg base CX0 7 A.f_write_to_all A.fd_write_to_all ["road","x"] (spD K 2 ZAB):=by
 have GRoad__sends:=ZC7 (P:=P) (w:=w) (base:=base) T
 exact Za (d:=ZCE) (r:=ZAB) (n:=3) (by unfold ZAB; rfl) rfl rfl T.D_write_to_all.fn ZDH λ cdv A outer s H E hr=>(
(ZI (ZAY PassesOwn.never rfl (Z4 rfl T.z_range (ZB (Zk ZDF rfl T.z_len boot_len (ZB (Z9 (i:=1) T.k_Road rfl (ZA 0)) ZE)) ZE) (hn:=(.cons .nil))) (ZK (i:=2) ZDH.nd rfl (Or.inl rfl))
(ZI (Zn (ZT (oNe hr.units) (ZA 2) (ZA 1) (ZW _))
(ZI (ZAO (ZHo T.k_Road T.D_Road__sends GRoad__sends (hr.mono (by decide)) (by decide +kernel) (ZA 0) (ZB (ZA 1) (ZB (ZA 2) ZE)) (.cons (.cons .nil)))))
Zc)))))
theorem ZDv:FnScope ["road","x","turn","houses","up","book","told","timers"] ["road","x"] (ZM (top 35)):=⟨rfl,rfl,rfl,by decide +kernel,rfl,by decide +kernel,by decide +kernel⟩
theorem ZLK (T:Txt K mg A):FnOk P w K mg base CX0 3 A.f_stop A.fd_stop ["road","x"] (spD K 2 ZDB):=by
 have Gwith_house:=ZCF (P:=P) (w:=w) (base:=base) T
 exact Za (d:=ZI7) (r:=ZDB) (n:=8) (by unfold ZDB; rfl) rfl rfl T.D_stop.fn ZDv λ cdv A outer s H E hr=>(
(ZF (Zi (Z9 (i:=2) T.k_Road rfl (ZA 0)) (Zg rfl (ZH (ZK (i:=2) ZDv.nd rfl (Or.inl rfl)) (ZH (ZK (i:=3) ZDv.nd rfl (Or.inl rfl)) ZX))))
(ZF (Zi (ZQ oIx (ZA 3) (ZA 1) (λ _ _=>rfl)) (Zg rfl (ZH (ZK (i:=4) ZDv.nd rfl (Or.inl rfl)) (ZH (ZK (i:=5) ZDv.nd rfl (Or.inl rfl)) (ZH (ZK (i:=6) ZDv.nd rfl (Or.inl rfl)) (ZH (ZK (i:=7) ZDv.nd rfl (Or.inl rfl)) ZX))))))
(ZI (ZB5 (i:=2) T.k_Road rfl (ZA 0) (ZJ T.D_with_house Gwith_house (hr.mono (by decide)) (ZB (Z9 (i:=2) T.k_Road rfl (ZA 0)) (ZB (ZA 1) (ZB (ZU (ZB ZG (ZB (ZA 5) (ZB (ZA 6) (ZB (ZA 7) ZE))))) ZE))) (.cons (.cons (.cons .nil)))))))))
theorem ZA0:FnScope ["houses","doings","lost","falls","leaves","comes","behind","at","house","up","book","told","timers","number","mark"] ["houses","doings"] (ZM (top 33)):=⟨rfl,rfl,rfl,by decide +kernel,rfl,by decide +kernel,by decide +kernel⟩
theorem ZLL (T:Txt K mg A):FnOk P w K mg base CX0 2 A.f_done A.fd_done ["houses","doings"] (spD K 2 ZD8):=by
 have Gput:=ZCs (P:=P) (w:=w) (base:=base) T
 exact Za (d:=ZIj) (r:=ZD8) (n:=15) (by unfold ZD8; rfl) rfl rfl T.D_done.fn ZA0 λ cdv A outer s H E hr=>(
(ZF (Zi (ZA 1) (Zg rfl (ZH (ZK (i:=2) ZA0.nd rfl (Or.inl rfl)) (ZH (ZK (i:=3) ZA0.nd rfl (Or.inl rfl)) (ZH (ZK (i:=4) ZA0.nd rfl (Or.inl rfl)) (ZH (ZK (i:=5) ZA0.nd rfl (Or.inl rfl)) ZX))))))
(ZF (ZO (i:=6) ZA0.nd rfl (Or.inl rfl) (ZAp ZE))
(ZF (ZAY PassesOwn.never rfl (ZDQ rfl T.z_enumerate (ZB (ZA 0) ZE) (hn:=(.cons .nil))) (Zg rfl (ZH (ZK (i:=7) ZA0.nd rfl (Or.inl rfl)) (ZH (ZK (i:=8) ZA0.nd rfl (Or.inl rfl)) ZX)))
(ZF (Zi (ZA 8) (Zg rfl (ZH (ZK (i:=9) ZA0.nd rfl (Or.inl rfl)) (ZH (ZK (i:=10) ZA0.nd rfl (Or.inl rfl)) (ZH (ZK (i:=11) ZA0.nd rfl (Or.inl rfl)) (ZH (ZK (i:=12) ZA0.nd rfl (Or.inl rfl)) ZX))))))
(ZF (Zi (ZQ oIx (ZA 10) (ZA 7) (λ _ _=>rfl)) (Zg rfl (ZH (ZK (i:=13) ZA0.nd rfl (Or.inl rfl)) (ZH (ZK (i:=14) ZA0.nd rfl (Or.inl rfl)) ZX))))
(ZF (Zn (ZT (oIn hr.units) (ZA 7) (ZA 3) (by with_unfolding_all rfl))
(ZI (ZO (i:=8) ZA0.nd rfl (Or.inl rfl) (ZU (ZB ZG (ZB (ZA 10) (ZB (ZA 11) (ZB (ZR ZEl (ZU (ZB ZG ZE)) (Zk ZDF rfl T.z_len boot_len (ZB (ZA 12) ZE))) ZE)))))))
(ZI (Zn (ZT (oIn hr.units) (ZA 7) (ZA 4) (by with_unfolding_all rfl))
(ZI (ZO (i:=8) ZA0.nd rfl (Or.inl rfl) (ZU (ZB (ZA 9) (ZB (ZJ T.D_put Gput (hr.mono (by decide)) (ZB (ZA 10) (ZB (ZA 7) (ZB (ZU (ZB (ZA 13) (ZB (ZAd rfl T.g_LEFT) ZE))) ZE))) (.cons (.cons (.cons .nil)))) (ZB (ZJ T.D_put Gput (hr.mono (by decide)) (ZB (ZA 11) (ZB (ZA 7) (ZB ZG ZE))) (.cons (.cons (.cons .nil)))) (ZB (ZR ZEl (ZU (ZB ZG ZE)) (Zk ZDF rfl T.z_len boot_len (ZB (ZA 12) ZE))) ZE)))))))
(ZI (Zn (ZT (oIn hr.units) (ZA 7) (ZA 5) (by with_unfolding_all rfl))
(ZI (ZO (i:=8) ZA0.nd rfl (Or.inl rfl) (ZU (ZB ZG (ZB (ZJ T.D_put Gput (hr.mono (by decide)) (ZB (ZA 10) (ZB (ZA 7) (ZB (ZU (ZB (ZR ZBB (ZA 13) ZG) (ZB (ZAd rfl T.g_ALIVE) ZE))) ZE))) (.cons (.cons (.cons .nil)))) (ZB (ZJ T.D_put Gput (hr.mono (by decide)) (ZB (ZA 11) (ZB (ZA 7) (ZB ZG ZE))) (.cons (.cons (.cons .nil)))) (ZB (ZA 12) ZE)))))))
Zc)))))
(ZI (ZAO (ZB7 (ZA 6) (ZA 8))))))))
(ZI (ZS (Zh ZDy rfl T.z_tuple boot_tuple (ZB (ZA 6) ZE))))))))
theorem ZB1:FnScope ["road","way","x","y"] ["road","way"] (ZM (top 38)):=⟨rfl,rfl,rfl,by decide +kernel,rfl,by decide +kernel,by decide +kernel⟩
theorem ZEU (T:Txt K mg A):FnOk P w K mg base CX0 7 A.f_comes_through A.fd_comes_through ["road","way"] (spD K 2 Z1):=by
 have GRoad__sends:=ZC7 (P:=P) (w:=w) (base:=base) T
 exact Za (d:=ZBw) (r:=Z1) (n:=4) (by unfold Z1; rfl) rfl rfl T.D_comes_through.fn ZB1 λ cdv A outer s H E hr=>(
(ZF (ZAY PassesOwn.never rfl (ZAZ (ZA 1)) (Zg rfl (ZH (ZK (i:=2) ZB1.nd rfl (Or.inl rfl)) (ZH (ZK (i:=3) ZB1.nd rfl (Or.inl rfl)) ZX)))
(ZI (Zn (ZFN (ZAX (ZHo T.k_Road T.D_Road__sends GRoad__sends (hr.mono (by decide)) (by decide +kernel) (ZA 0) (ZB (ZA 2) (ZB (ZA 3) ZE)) (.cons (.cons .nil)))))
(ZI (ZS ZBV))
Zc)))
(ZI (ZS ZBV))))
theorem ZDq:FnScope ["road","a","b","way"] ["road","a","b"] (ZM (top 37)):=⟨rfl,rfl,rfl,by decide +kernel,rfl,by decide +kernel,by decide +kernel⟩
theorem ZFD (T:Txt K mg A):FnOk P w K mg base CX0 8 A.f_is_answered A.fd_is_answered ["road","a","b"] (spD K 3 ZAF):=by
 have Gways:=ZKi (P:=P) (w:=w) (base:=base) T
 have Gcomes_through:=ZEU (P:=P) (w:=w) (base:=base) T
 exact Za (d:=ZCc) (r:=ZAF) (n:=4) (by unfold ZAF; rfl) rfl rfl T.D_is_answered.fn ZDq λ cdv A outer s H E hr=>(
(ZF (ZAY PassesOwn.never rfl (ZAZ (ZJ T.D_ways Gways (hr.mono (by decide)) (ZB (Z9 (i:=0) T.k_Road rfl (ZA 0)) (ZB (Z9 (i:=2) T.k_Road rfl (ZA 0)) (ZB (ZA 1) (ZB (ZA 2) ZE)))) (.cons (.cons (.cons (.cons .nil)))))) (ZK (i:=3) ZDq.nd rfl (Or.inl rfl))
(ZI (Zn (ZAX (ZJ T.D_comes_through Gcomes_through (hr.mono (by decide)) (ZB (ZA 0) (ZB (ZA 3) ZE)) (.cons (.cons .nil))))
(ZI (ZS ZBV))
Zc)))
(ZI (ZS ZBV))))
theorem ZCj:FnScope ["road","a","turn","houses","b","answered"] ["road","a"] (ZM (top 36)):=⟨rfl,rfl,rfl,by decide +kernel,rfl,by decide +kernel,by decide +kernel⟩
theorem ZIQ (T:Txt K mg A):FnOk P w K mg base CX0 9 A.f_ask_all A.fd_ask_all ["road","a"] (spD K 2 ZBQ):=by
 have Gasked_in_order:=ZDr (P:=P) (w:=w) (base:=base) T
 have Gasks_now:=ZHM (P:=P) (w:=w) (base:=base) T
 have Gis_answered:=ZFD (P:=P) (w:=w) (base:=base) T
 have Gjudged:=ZIv (P:=P) (w:=w) (base:=base) T
 exact Za (d:=ZEi) (r:=ZBQ) (n:=6) (by unfold ZBQ; rfl) rfl rfl T.D_ask_all.fn ZCj λ cdv A outer s H E hr=>(
(ZF (Zi (Z9 (i:=2) T.k_Road rfl (ZA 0)) (Zg rfl (ZH (ZK (i:=2) ZCj.nd rfl (Or.inl rfl)) (ZH (ZK (i:=3) ZCj.nd rfl (Or.inl rfl)) ZX))))
(ZI (ZAY PassesOwn.never rfl (ZAZ (ZJ T.D_asked_in_order Gasked_in_order (hr.mono (by decide)) (ZB (Z9 (i:=1) T.k_Road rfl (ZA 0)) (ZB (ZA 2) (ZB (ZA 1) ZE))) (.cons (.cons (.cons .nil))))) (ZK (i:=4) ZCj.nd rfl (Or.inl rfl))
(ZI (Zn (ZAX (ZJ T.D_asks_now Gasks_now (hr.mono (by decide)) (ZB (Z9 (i:=0) T.k_Road rfl (ZA 0)) (ZB (Z9 (i:=1) T.k_Road rfl (ZA 0)) (ZB (Z9 (i:=2) T.k_Road rfl (ZA 0)) (ZB (ZA 1) (ZB (ZA 4) ZE))))) (.cons (.cons (.cons (.cons (.cons .nil)))))))
(ZF (ZO (i:=5) ZCj.nd rfl (Or.inl rfl) (ZJ T.D_is_answered Gis_answered (hr.mono (by decide)) (ZB (ZA 0) (ZB (ZA 1) (ZB (ZA 4) ZE))) (.cons (.cons (.cons .nil)))))
(ZI (ZB5 (i:=2) T.k_Road rfl (ZA 0) (ZJ T.D_judged Gjudged (hr.mono (by decide)) (ZB (Z9 (i:=0) T.k_Road rfl (ZA 0)) (ZB (Z9 (i:=2) T.k_Road rfl (ZA 0)) (ZB (ZA 1) (ZB (ZA 4) (ZB (ZA 5) ZE))))) (.cons (.cons (.cons (.cons (.cons .nil)))))))))
Zc))))))
theorem ZAH:FnScope ["rules","town","state","doings","turn","houses","lost","falls","leaves","comes","road","x","a"] ["rules","town","state","doings"] (ZM (top 32)):=⟨rfl,rfl,rfl,by decide +kernel,rfl,by decide +kernel,by decide +kernel⟩
theorem ZHs (T:Txt K mg A):FnOk P w K mg base CX0 10 A.f_stepped A.fd_stepped ["rules","town","state","doings"] (spD K 4 ZA9):=by
 have GRoad____init__:=ZD7 (P:=P) (w:=w) (base:=base) T
 have Gwrite_to_all:=ZEf (P:=P) (w:=w) (base:=base) T
 have Gstop:=ZLK (P:=P) (w:=w) (base:=base) T
 have Gasks_any:=ZHW (P:=P) (w:=w) (base:=base) T
 have Gdone:=ZLL (P:=P) (w:=w) (base:=base) T
 have Gask_all:=ZIQ (P:=P) (w:=w) (base:=base) T
 exact Za (d:=ZEk) (r:=ZA9) (n:=13) (by unfold ZA9; rfl) rfl rfl T.D_stepped.fn ZAH λ cdv A outer s H E hr=>(
(ZF (Zi (ZA 2) (Zg rfl (ZH (ZK (i:=4) ZAH.nd rfl (Or.inl rfl)) (ZH (ZK (i:=5) ZAH.nd rfl (Or.inl rfl)) ZX))))
(ZF (Zi (ZA 3) (Zg rfl (ZH (ZK (i:=6) ZAH.nd rfl (Or.inl rfl)) (ZH (ZK (i:=7) ZAH.nd rfl (Or.inl rfl)) (ZH (ZK (i:=8) ZAH.nd rfl (Or.inl rfl)) (ZH (ZK (i:=9) ZAH.nd rfl (Or.inl rfl)) ZX))))))
(ZF (ZO (i:=10) ZAH.nd rfl (Or.inl rfl) (ZKw T.k_Road rfl T.m_Road T.D_Road____init__ GRoad____init__ (hr.mono (by decide)) (ZB (ZA 0) (ZB (ZA 1) (ZB (ZU (ZB (ZA 4) (ZB (ZJ T.D_done Gdone (hr.mono (by decide)) (ZB (ZA 5) (ZB (ZA 3) ZE)) (.cons (.cons .nil))) ZE))) (ZB (ZA 6) ZE)))) (.cons (.cons (.cons (.cons .nil))))))
(ZF (ZAY PassesOwn.never rfl (ZAZ (ZR ZBB (ZA 8) (ZA 9))) (ZK (i:=11) ZAH.nd rfl (Or.inl rfl))
(ZI (ZAO (ZJ T.D_write_to_all Gwrite_to_all (hr.mono (by decide)) (ZB (ZA 10) (ZB (ZA 11) ZE)) (.cons (.cons .nil))))))
(ZF (ZAY PassesOwn.never rfl (ZAZ (ZA 8)) (ZK (i:=11) ZAH.nd rfl (Or.inl rfl))
(ZI (ZAO (ZJ T.D_stop Gstop (hr.mono (by decide)) (ZB (ZA 10) (ZB (ZA 11) ZE)) (.cons (.cons .nil))))))
(ZF (ZAY PassesOwn.never rfl (Z4 rfl T.z_range (ZB (Zk ZDF rfl T.z_len boot_len (ZB (ZA 1) ZE)) ZE) (hn:=(.cons .nil))) (ZK (i:=12) ZAH.nd rfl (Or.inl rfl))
(ZI (Zn (ZAX (ZJ T.D_asks_any Gasks_any (hr.mono (by decide)) (ZB (ZA 1) (ZB (Z9 (i:=2) T.k_Road rfl (ZA 10)) (ZB (ZA 12) ZE))) (.cons (.cons (.cons .nil)))))
(ZI (ZAO (ZJ T.D_ask_all Gask_all (hr.mono (by decide)) (ZB (ZA 10) (ZB (ZA 12) ZE)) (.cons (.cons .nil)))))
Zc)))
(ZF (Zi (Z9 (i:=2) T.k_Road rfl (ZA 10)) (Zg rfl (ZH (ZK (i:=4) ZAH.nd rfl (Or.inl rfl)) (ZH (ZK (i:=5) ZAH.nd rfl (Or.inl rfl)) ZX))))
(ZI (ZS (ZU (ZB (ZU (ZB (ZR ZBB (ZA 4) ZG) (ZB (ZA 5) ZE))) (ZB (Zh ZDy rfl T.z_tuple boot_tuple (ZB (Z9 (i:=4) T.k_Road rfl (ZA 10)) ZE)) ZE)))))))))))))
theorem ZD5:FnScope ["_law_script","_law_k","_law_cell"] ["_law_script","_law_k"] (ZM (top 40)):=⟨rfl,rfl,rfl,by decide +kernel,rfl,by decide +kernel,by decide +kernel⟩
theorem ZHS (T:Txt K mg A):FnOk P w K mg base CX0 1 A.f__law_box A.fd__law_box ["_law_script","_law_k"] (spD K 2 ZBN):=by
 exact Za (d:=ZD9) (r:=ZBN) (n:=3) (by unfold ZBN; rfl) rfl rfl T.D__law_box.fn ZD5 λ cdv A outer s H E hr=>(
(ZF (ZO (i:=2) ZD5.nd rfl (Or.inl rfl) ZG)
(ZF (Zn (ZT (oLt hr.units) (ZA 1) (Zk ZDF rfl T.z_len boot_len (ZB (ZA 0) ZE)) (ZW _))
(ZI (ZO (i:=2) ZD5.nd rfl (Or.inl rfl) (ZQ oIx (ZA 0) (ZA 1) (λ _ _=>rfl))))
Zc)
(ZI (ZS (ZAp (ZB (ZR ZEl (ZR ZFA (Zk ZPn rfl T.z_abs boot_abs (ZB (ZA 2) ZE)) (ZEN (a:=10) (b:=60) ⟨by decide,by decide,by decide⟩ (by decide +kernel))) (Zh ZKT rfl T.z_int boot_int (ZB (Zz (oGe hr.units) (Zk ZPn rfl T.z_abs boot_abs (ZB (ZA 2) ZE)) (ZEN (a:=10) (b:=18) ⟨by decide,by decide,by decide⟩ (by decide +kernel)) (ZW _)) ZE))) (ZB (ZR ZFA (ZR ZBB (ZR ZBB (ZA 2) (ZR ZEl (ZR ZEl ZG (ZA 1)) (ZA 1))) (ZR ZEl ZG (ZA 1))) ZG) (ZB ZG ZE)))))))))
theorem ZDP:FnScope ["_law_box_here","_law_many","_law_told","_law_once"] ["_law_box_here","_law_many"] (ZM (top 41)):=⟨rfl,rfl,rfl,by decide +kernel,rfl,by decide +kernel,by decide +kernel⟩
theorem ZAt (T:Txt K mg A):FnOk P w K mg base CX0 1 A.f__law_take A.fd__law_take ["_law_box_here","_law_many"] (spD K 2 ZN):=by
 exact Za (d:=ZDO) (r:=ZN) (n:=4) (by unfold ZN; rfl) rfl rfl T.D__law_take.fn ZDP λ cdv A outer s H E hr=>(
(ZF (Zn (ZT (oGt hr.units) (ZQ oIx (ZA 0) ZG (λ _ _=>rfl)) ZG (ZW _))
(ZF (ZO (i:=2) ZDP.nd rfl (Or.inl rfl) (ZR ZFA (ZQ oIx (ZA 0) ZG (λ _ _=>rfl)) (ZA 1)))
(ZF (ZHH (ZR ZJf (ZQ oIx (ZA 0) ZG (λ _ _=>rfl)) (ZA 1)) (ZA 0) ZG)
(ZI (ZS (ZA 2)))))
Zc)
(ZF (ZHH (ZR ZBB (ZQ oIx (ZA 0) ZG (λ _ _=>rfl)) ZG) (ZA 0) ZG)
(ZF (ZO (i:=3) ZDP.nd rfl (Or.inl rfl) (ZR ZFA (ZR ZBB (ZR ZBB (ZR ZEl (ZQ oIx (ZA 0) ZG (λ _ _=>rfl)) ZG) (ZR ZEl ZG (ZQ oIx (ZA 0) ZG (λ _ _=>rfl)))) ZG) ZG))
(ZF (ZHH (ZR ZFA (ZR ZBB (ZR ZEl (ZA 3) (ZA 3)) (ZQ oIx (ZA 0) ZG (λ _ _=>rfl))) ZG) (ZA 0) ZG)
(ZI (ZS (ZR ZFA (ZR ZJf (ZQ oIx (ZA 0) ZG (λ _ _=>rfl)) ZG) (ZA 1)))))))))
theorem ZAM:FnScope ["_law_box_here","_law_whole","_law_told","_law_carry","_law_wait","_law_words","_law_mode","_law_gone_one","_law_some"] ["_law_box_here","_law_whole"] (ZM (top 42)):=⟨rfl,rfl,rfl,by decide +kernel,rfl,by decide +kernel,by decide +kernel⟩
theorem ZFc (T:Txt K mg A):FnOk P w K mg base CX0 2 A.f__law_rules A.fd__law_rules ["_law_box_here","_law_whole"] (spD K 2 ZAo):=by
 have G_law_take:=ZAt (P:=P) (w:=w) (base:=base) T
 exact Za (d:=ZCq) (r:=ZAo) (n:=9) (by unfold ZAo; rfl) rfl rfl T.D__law_rules.fn ZAM λ cdv A outer s H E hr=>(
(ZF (ZO (i:=2) ZAM.nd rfl (Or.inl rfl) (ZQ oIx (ZBI (ZB (ZJ T.D__law_take G_law_take (hr.mono (by decide)) (ZB (ZA 0) (ZB ZG ZE)) (.cons (.cons .nil))) (ZB (ZJ T.D__law_take G_law_take (hr.mono (by decide)) (ZB (ZA 0) (ZB ZG ZE)) (.cons (.cons .nil))) ZE))) (ZJ T.D__law_take G_law_take (hr.mono (by decide)) (ZB (ZA 0) (ZB ZG ZE)) (.cons (.cons .nil))) (λ _ _=>rfl)))
(ZF (ZO (i:=3) ZAM.nd rfl (Or.inl rfl) (ZQ oIx (ZBI (ZB (ZJ T.D__law_take G_law_take (hr.mono (by decide)) (ZB (ZA 0) (ZB ZG ZE)) (.cons (.cons .nil))) (ZB (ZJ T.D__law_take G_law_take (hr.mono (by decide)) (ZB (ZA 0) (ZB ZG ZE)) (.cons (.cons .nil))) ZE))) (ZJ T.D__law_take G_law_take (hr.mono (by decide)) (ZB (ZA 0) (ZB ZG ZE)) (.cons (.cons .nil))) (λ _ _=>rfl)))
(ZF (ZO (i:=4) ZAM.nd rfl (Or.inl rfl) (ZR ZBB ZG (ZQ oIx (ZBI (ZB (ZJ T.D__law_take G_law_take (hr.mono (by decide)) (ZB (ZA 0) (ZB ZG ZE)) (.cons (.cons .nil))) (ZB (ZJ T.D__law_take G_law_take (hr.mono (by decide)) (ZB (ZA 0) (ZB ZG ZE)) (.cons (.cons .nil))) ZE))) (ZR ZJf (ZJ T.D__law_take G_law_take (hr.mono (by decide)) (ZB (ZA 0) (ZB ZG ZE)) (.cons (.cons .nil))) ZG) (λ _ _=>rfl))))
(ZF (ZO (i:=5) ZAM.nd rfl (Or.inl rfl) (ZU (ZB ZAy (ZB ZAy (ZB ZAy (ZB ZAy (ZB ZAy (ZB ZAy (ZB ZAy ZE)))))))))
(ZF (ZO (i:=6) ZAM.nd rfl (Or.inr rfl) (ZJ T.D__law_take G_law_take (hr.mono (by decide)) (ZB (ZA 0) (ZB ZG ZE)) (.cons (.cons .nil))))
(ZF (Zn (JW.pt (ZEd (ZAX (ZA 1)) (ZDh (ZT (oEq hr.units) (ZA 6) ZG (ZW _)))))
(ZI (ZS (ZU (ZB (ZJ T.D__law_take G_law_take (hr.mono (by decide)) (ZB (ZA 0) (ZB ZG ZE)) (.cons (.cons .nil))) (ZB (ZA 4) (ZB (ZA 2) (ZB (ZA 3) (ZB (ZA 5) ZE))))))))
Zc)
(ZF (ZO (i:=7) ZAM.nd rfl (Or.inr rfl) (ZQ oIx (ZA 5) (ZJ T.D__law_take G_law_take (hr.mono (by decide)) (ZB (ZA 0) (ZB ZG ZE)) (.cons (.cons .nil))) (λ _ _=>rfl)))
(ZF (ZO (i:=8) ZAM.nd rfl (Or.inl rfl) (Zh ZDy rfl T.z_tuple boot_tuple (ZB (ZAA (sc:=ZM (top 42)) (NX:=["_law_box_here","_law_whole","_law_told","_law_carry","_law_wait","_law_words","_law_mode","_law_gone_one","_law_some"]) (N:=["_law_word","_law_gone_one","_law_mode","_law_box_here"]) (own:=1) (cap:=[7,6,0]) rfl (ZAZ (ZA 5)) rfl rfl (λ cl C s0 H0 fp=>⟨(ZK (i:=0) (by show (["_law_word","_law_gone_one","_law_mode","_law_box_here"]:List Str).Nodup; decide +kernel) rfl (Or.inl rfl)),(ZBu (JW.pt (ZAQ (ZT (oNe hr.units) (ZA 0) (ZA 1) (ZW _)) (ZAc (JW.pt (ZEd (ZT (oEq hr.units) (ZA 2) ZG (ZW _)) (ZDh (ZT (oEq hr.units) (ZJ T.D__law_take G_law_take (hr.mono (by decide)) (ZB (ZA 3) (ZB ZG ZE)) (.cons (.cons .nil))) ZG (ZW _))))))))),(ZA 0)⟩) (by decide +kernel) rfl) ZE)))
(ZI (ZS (ZU (ZB (ZJ T.D__law_take G_law_take (hr.mono (by decide)) (ZB (ZA 0) (ZB ZG ZE)) (.cons (.cons .nil))) (ZB (ZA 4) (ZB (ZA 2) (ZB (ZA 3) (ZB (ZA 8) ZE)))))))))))))))))
theorem ZBv:FnScope ["_law_box_here","_law_most","_law_n","_law_found","_law_house","_law_pace"] ["_law_box_here","_law_most"] (ZM (top 43)):=⟨rfl,rfl,rfl,by decide +kernel,rfl,by decide +kernel,by decide +kernel⟩
theorem ZGI (T:Txt K mg A):FnOk P w K mg base CX0 2 A.f__law_town A.fd__law_town ["_law_box_here","_law_most"] (spD K 2 ZA1):=by
 have G_law_take:=ZAt (P:=P) (w:=w) (base:=base) T
 exact Za (d:=ZDW) (r:=ZA1) (n:=6) (by unfold ZA1; rfl) rfl rfl T.D__law_town.fn ZBv λ cdv A outer s H E hr=>(
(ZF (ZO (i:=2) ZBv.nd rfl (Or.inl rfl) (Zk (cMin rfl) rfl T.z_min boot_min (ZB (ZA 1) (ZB (ZQ oIx (ZBI (ZB ZG (ZB ZG (ZB ZG (ZB ZG (ZB ZG (ZB (ZR ZBB ZG (ZJ T.D__law_take G_law_take (hr.mono (by decide)) (ZB (ZA 0) (ZB ZG ZE)) (.cons (.cons .nil)))) ZE))))))) (ZJ T.D__law_take G_law_take (hr.mono (by decide)) (ZB (ZA 0) (ZB ZG ZE)) (.cons (.cons .nil))) (λ _ _=>rfl)) ZE))))
(ZF (ZO (i:=3) ZBv.nd rfl (Or.inl rfl) (ZAp ZE))
(ZF (ZAY PassesOwn.never rfl (Z4 rfl T.z_range (ZB (ZA 2) ZE) (hn:=(.cons .nil))) (ZK (i:=4) ZBv.nd rfl (Or.inl rfl))
(ZF (ZO (i:=5) ZBv.nd rfl (Or.inl rfl) (ZQ oIx (ZBI (ZB ZG (ZB (ZR ZBB ZG (ZJ T.D__law_take G_law_take (hr.mono (by decide)) (ZB (ZA 0) (ZB ZG ZE)) (.cons (.cons .nil)))) ZE))) (ZJ T.D__law_take G_law_take (hr.mono (by decide)) (ZB (ZA 0) (ZB ZG ZE)) (.cons (.cons .nil))) (λ _ _=>rfl)))
(ZI (ZAO (ZB7 (ZA 3) (ZU (ZB (ZA 5) (ZB (ZJ T.D__law_take G_law_take (hr.mono (by decide)) (ZB (ZA 0) (ZB (ZA 5) ZE)) (.cons (.cons .nil))) ZE))))))))
(ZI (ZS (Zh ZDy rfl T.z_tuple boot_tuple (ZB (ZA 3) ZE))))))))
theorem Zy:FnScope ["_law_box_here","_law_rules_here","_law_town_here","_law_n","_law_far","_law_calm","_law_houses","_law_house","_law_up","_law_book","_law_told","_law_timers"] ["_law_box_here","_law_rules_here","_law_town_here"] (ZM (top 44)):=⟨rfl,rfl,rfl,by decide +kernel,rfl,by decide +kernel,by decide +kernel⟩
theorem ZF9 (T:Txt K mg A):FnOk P w K mg base CX0 2 A.f__law_state A.fd__law_state ["_law_box_here","_law_rules_here","_law_town_here"] (spD K 3 ZAm):=by
 have G_law_take:=ZAt (P:=P) (w:=w) (base:=base) T
 exact Za (d:=ZCy) (r:=ZAm) (n:=12) (by unfold ZAm; rfl) rfl rfl T.D__law_state.fn Zy λ cdv A outer s H E hr=>(
(ZF (ZO (i:=3) Zy.nd rfl (Or.inl rfl) (Zk ZDF rfl T.z_len boot_len (ZB (ZA 2) ZE)))
(ZF (ZO (i:=4) Zy.nd rfl (Or.inr rfl) (ZQ oIx (ZBI (ZB ZG (ZB ZG (ZB ZG (ZB (ZJ T.D__law_take G_law_take (hr.mono (by decide)) (ZB (ZA 0) (ZB ZG ZE)) (.cons (.cons .nil))) ZE))))) (ZJ T.D__law_take G_law_take (hr.mono (by decide)) (ZB (ZA 0) (ZB ZG ZE)) (.cons (.cons .nil))) (λ _ _=>rfl)))
(ZF (ZO (i:=5) Zy.nd rfl (Or.inr rfl) (ZJ T.D__law_take G_law_take (hr.mono (by decide)) (ZB (ZA 0) (ZB ZG ZE)) (.cons (.cons .nil))))
(ZF (ZO (i:=6) Zy.nd rfl (Or.inl rfl) (ZAp ZE))
(ZF (ZAY PassesOwn.never rfl (Z4 rfl T.z_range (ZB (ZA 3) ZE) (hn:=(.cons .nil))) (ZK (i:=7) Zy.nd rfl (Or.inr rfl))
(ZF (ZO (i:=8) Zy.nd rfl (Or.inr rfl) (Zh ZKT rfl T.z_int boot_int (ZB (Zz (oGt hr.units) (ZJ T.D__law_take G_law_take (hr.mono (by decide)) (ZB (ZA 0) (ZB ZG ZE)) (.cons (.cons .nil))) ZG (ZW _)) ZE)))
(ZF (ZO (i:=9) Zy.nd rfl (Or.inl rfl) (Zh ZDy rfl T.z_tuple boot_tuple (ZB (ZAA (sc:=ZM (top 44)) (NX:=["_law_box_here","_law_rules_here","_law_town_here","_law_n","_law_far","_law_calm","_law_houses","_law_house","_law_up","_law_book","_law_told","_law_timers"]) (N:=["_law_k","_law_far","_law_box_here","_law_calm"]) (own:=1) (cap:=[4,0,5]) rfl (Z4 rfl T.z_range (ZB (ZA 3) ZE) (hn:=(.cons .nil))) rfl rfl (λ cl C s0 H0 fp=>⟨(ZK (i:=0) (by show (["_law_k","_law_far","_law_box_here","_law_calm"]:List Str).Nodup; decide +kernel) rfl (Or.inl rfl)),ZAz,(ZU (ZB (ZR ZBB (ZA 1) (ZJ T.D__law_take G_law_take (hr.mono (by decide)) (ZB (ZA 2) (ZB ZG ZE)) (.cons (.cons .nil)))) (ZB (ZQ oIx (ZBI (ZB (ZJ T.D__law_take G_law_take (hr.mono (by decide)) (ZB (ZA 2) (ZB ZG ZE)) (.cons (.cons .nil))) (ZB ZG ZE))) (Zh ZKT rfl T.z_int boot_int (ZB (Zz (oEq hr.units) (ZA 3) ZG (ZW _)) ZE)) (λ _ _=>rfl)) ZE)))⟩) (by decide +kernel) rfl) ZE)))
(ZF (ZO (i:=10) Zy.nd rfl (Or.inl rfl) (Zh ZDy rfl T.z_tuple boot_tuple (ZB (ZAA (sc:=ZM (top 44)) (NX:=["_law_box_here","_law_rules_here","_law_town_here","_law_n","_law_far","_law_calm","_law_houses","_law_house","_law_up","_law_book","_law_told","_law_timers"]) (N:=["_law_k","_law_box_here","_law_rules_here"]) (own:=1) (cap:=[0,1]) rfl (Z4 rfl T.z_range (ZB (ZA 3) ZE) (hn:=(.cons .nil))) rfl rfl (λ cl C s0 H0 fp=>⟨(ZK (i:=0) (by show (["_law_k","_law_box_here","_law_rules_here"]:List Str).Nodup; decide +kernel) rfl (Or.inl rfl)),ZAz,(ZJ T.D__law_take G_law_take (hr.mono (by decide)) (ZB (ZA 1) (ZB (ZR ZBB (ZQ oIx (ZA 2) ZG (λ _ _=>rfl)) ZG) ZE)) (.cons (.cons .nil)))⟩) (by decide +kernel) rfl) ZE)))
(ZF (ZO (i:=11) Zy.nd rfl (Or.inr rfl) (Zh ZDy rfl T.z_tuple boot_tuple (ZB (ZAA (sc:=ZM (top 44)) (NX:=["_law_box_here","_law_rules_here","_law_town_here","_law_n","_law_far","_law_calm","_law_houses","_law_house","_law_up","_law_book","_law_told","_law_timers"]) (N:=["_law_k","_law_box_here","_law_rules_here"]) (own:=1) (cap:=[0,1]) rfl (Z4 rfl T.z_range (ZB (ZA 3) ZE) (hn:=(.cons .nil))) rfl rfl (λ cl C s0 H0 fp=>⟨(ZK (i:=0) (by show (["_law_k","_law_box_here","_law_rules_here"]:List Str).Nodup; decide +kernel) rfl (Or.inl rfl)),ZAz,(ZR ZEl (ZJ T.D__law_take G_law_take (hr.mono (by decide)) (ZB (ZA 1) (ZB (ZR ZBB (ZQ oIx (ZA 2) ZG (λ _ _=>rfl)) ZG) ZE)) (.cons (.cons .nil))) (Zh ZKT rfl T.z_int boot_int (ZB (Zz (oEq hr.units) (ZJ T.D__law_take G_law_take (hr.mono (by decide)) (ZB (ZA 1) (ZB ZG ZE)) (.cons (.cons .nil))) ZG (ZW _)) ZE)))⟩) (by decide +kernel) rfl) ZE)))
(ZF (ZO (i:=11) Zy.nd rfl (Or.inr rfl) (Zh ZDy rfl T.z_tuple boot_tuple (ZB (ZAA (sc:=ZM (top 44)) (NX:=["_law_box_here","_law_rules_here","_law_town_here","_law_n","_law_far","_law_calm","_law_houses","_law_house","_law_up","_law_book","_law_told","_law_timers"]) (N:=["_law_k","_law_up","_law_timers","_law_house"]) (own:=1) (cap:=[8,11,7]) rfl (Z4 rfl T.z_range (ZB (ZA 3) ZE) (hn:=(.cons .nil))) rfl rfl (λ cl C s0 H0 fp=>⟨(ZK (i:=0) (by show (["_law_k","_law_up","_law_timers","_law_house"]:List Str).Nodup; decide +kernel) rfl (Or.inl rfl)),ZAz,(ZR ZEl (ZR ZEl (ZQ oIx (ZA 2) (ZA 0) (λ _ _=>rfl)) (ZA 1)) (Zh ZKT rfl T.z_int boot_int (ZB (Zz (oNe hr.units) (ZA 0) (ZA 3) (ZW _)) ZE)))⟩) (by decide +kernel) rfl) ZE)))
(ZI (ZAO (ZB7 (ZA 6) (ZU (ZB (ZA 8) (ZB (ZA 9) (ZB (ZA 10) (ZB (ZA 11) ZE))))))))))))))
(ZI (ZS (ZU (ZB (ZJ T.D__law_take G_law_take (hr.mono (by decide)) (ZB (ZA 0) (ZB (ZQ oIx (ZBI (ZB ZG (ZB ZG (ZB (ZEN (a:=10) (b:=5) ⟨by decide,by decide,by decide⟩ (by decide +kernel)) ZE)))) (ZJ T.D__law_take G_law_take (hr.mono (by decide)) (ZB (ZA 0) (ZB ZG ZE)) (.cons (.cons .nil))) (λ _ _=>rfl)) ZE)) (.cons (.cons .nil))) (ZB (Zh ZDy rfl T.z_tuple boot_tuple (ZB (ZA 6) ZE)) ZE)))))))))))
theorem ZE0:FnScope ["_law_box_here","_law_most","_law_mode"] ["_law_box_here","_law_most"] (ZM (top 45)):=⟨rfl,rfl,rfl,by decide +kernel,rfl,by decide +kernel,by decide +kernel⟩
theorem ZGM (T:Txt K mg A):FnOk P w K mg base CX0 2 A.f__law_lost A.fd__law_lost ["_law_box_here","_law_most"] (spD K 2 ZA7):=by
 have G_law_take:=ZAt (P:=P) (w:=w) (base:=base) T
 exact Za (d:=ZDE) (r:=ZA7) (n:=3) (by unfold ZA7; rfl) rfl rfl T.D__law_lost.fn ZE0 λ cdv A outer s H E hr=>(
(ZF (ZO (i:=2) ZE0.nd rfl (Or.inr rfl) (ZJ T.D__law_take G_law_take (hr.mono (by decide)) (ZB (ZA 0) (ZB ZG ZE)) (.cons (.cons .nil))))
(ZF (Zn (ZT (oEq hr.units) (ZA 2) ZG (ZW _))
(ZI (ZS (ZU ZE)))
Zc)
(ZF (Zn (ZT (oEq hr.units) (ZA 2) ZG (ZW _))
(ZI (ZS (ZI2 rfl rfl T.z_tuple rfl T.z_range (ZA 1))))
Zc)
(ZI (ZS (Zh ZDy rfl T.z_tuple boot_tuple (ZB (ZAA (sc:=ZM (top 45)) (NX:=["_law_box_here","_law_most","_law_mode"]) (N:=["_law_k","_law_box_here","_law_mode"]) (own:=1) (cap:=[0,2]) rfl (Z4 rfl T.z_range (ZB (ZA 1) ZE) (hn:=(.cons .nil))) rfl rfl (λ cl C s0 H0 fp=>⟨(ZK (i:=0) (by show (["_law_k","_law_box_here","_law_mode"]:List Str).Nodup; decide +kernel) rfl (Or.inl rfl)),(ZBu (ZT (oEq hr.units) (ZJ T.D__law_take G_law_take (hr.mono (by decide)) (ZB (ZA 1) (ZB (ZQ oIx (ZBI (ZB ZG (ZB ZG (ZB ZG ZE)))) (ZR ZI0 (ZA 2) ZG) (λ _ _=>rfl)) ZE)) (.cons (.cons .nil))) ZG (ZW _))),(ZA 0)⟩) (by decide +kernel) rfl) ZE))))))))
theorem ZBD:FnScope ["_law_box_here","_law_state_here","_law_moves","_law_falls","_law_leaves","_law_comes","_law_house","_law_told","_law_way"] ["_law_box_here","_law_state_here","_law_moves"] (ZM (top 46)):=⟨rfl,rfl,rfl,by decide +kernel,rfl,by decide +kernel,by decide +kernel⟩
theorem ZFI (T:Txt K mg A):FnOk P w K mg base CX0 3 A.f__law_doings A.fd__law_doings ["_law_box_here","_law_state_here","_law_moves"] (spD K 3 ZAV):=by
 have G_law_take:=ZAt (P:=P) (w:=w) (base:=base) T
 have G_law_lost:=ZGM (P:=P) (w:=w) (base:=base) T
 exact Za (d:=ZCa) (r:=ZAV) (n:=9) (by unfold ZAV; rfl) rfl rfl T.D__law_doings.fn ZBD λ cdv A outer s H E hr=>(
(ZF (ZHl (i:=3) (j:=4) (l:=5) rfl ZBD.nd rfl rfl rfl rfl rfl rfl (ZB (ZAp ZE) (ZB (ZAp ZE) (ZB (ZAp ZE) ZE))) (hw:=by kernel_rfl) (hs:=by kernel_rfl))
(ZF (ZAY PassesOwn.never rfl (ZDQ rfl T.z_enumerate (ZB (ZQ oIx (ZA 1) ZG (λ _ _=>rfl)) ZE) (hn:=(.cons .nil))) (Zg rfl (ZH (ZK (i:=6) ZBD.nd rfl (Or.inl rfl)) (ZH (ZK (i:=7) ZBD.nd rfl (Or.inl rfl)) ZX)))
(ZF (ZO (i:=8) ZBD.nd rfl (Or.inl rfl) (ZJ T.D__law_take G_law_take (hr.mono (by decide)) (ZB (ZA 0) (ZB ZG ZE)) (.cons (.cons .nil))))
(ZF (Zn (JW.pt (ZAQ (ZAX (ZA 2)) (ZAQ (ZT (oEq hr.units) (ZQ oIx (ZA 7) ZG (λ _ _=>rfl)) ZG (ZW _)) (ZAc (ZT (oLt hr.units) (ZA 8) ZG (ZW _))))))
(ZI (ZAO (ZB7 (ZKj (ZB (ZA 3) (ZB (ZA 4) ZE)) (ZA 8) (λ _ _=>rfl)) (ZA 6))))
Zc)
(ZI (Zn (JW.pt (ZAQ (ZAX (ZA 2)) (ZAQ (ZT (oEq hr.units) (ZQ oIx (ZA 7) ZG (λ _ _=>rfl)) ZG (ZW _)) (ZAc (ZT (oLt hr.units) (ZA 8) ZG (ZW _))))))
(ZI (ZAO (ZB7 (ZA 5) (ZA 6))))
Zc)))))
(ZI (ZS (ZU (ZB (ZJ T.D__law_lost G_law_lost (hr.mono (by decide)) (ZB (ZA 0) (ZB ZG ZE)) (.cons (.cons .nil))) (ZB (Zh ZDy rfl T.z_tuple boot_tuple (ZB (ZA 3) ZE)) (ZB (Zh ZDy rfl T.z_tuple boot_tuple (ZB (ZA 4) ZE)) (ZB (Zh ZDy rfl T.z_tuple boot_tuple (ZB (ZA 5) ZE)) ZE))))))))))
theorem ZAu:FnScope ["_law_town_here","_law_state_here","_law_doings_here","_law_found","_law_house","_law_pace","_law_start","_law_up"] ["_law_town_here","_law_state_here","_law_doings_here"] (ZM (top 47)):=⟨rfl,rfl,rfl,by decide +kernel,rfl,by decide +kernel,by decide +kernel⟩
theorem ZFH (T:Txt K mg A):FnOk P w K mg base CX0 1 A.f__law_askers A.fd__law_askers ["_law_town_here","_law_state_here","_law_doings_here"] (spD K 3 ZAU):=by
 exact Za (d:=ZCY) (r:=ZAU) (n:=8) (by unfold ZAU; rfl) rfl rfl T.D__law_askers.fn ZAu λ cdv A outer s H E hr=>(
(ZF (ZO (i:=3) ZAu.nd rfl (Or.inl rfl) (ZAp ZE))
(ZF (ZAY PassesOwn.never rfl (ZDQ rfl T.z_enumerate (ZB (ZA 0) ZE) (hn:=(.cons .nil))) (Zg rfl (ZH (ZK (i:=4) ZAu.nd rfl (Or.inl rfl)) (ZH (Zg rfl (ZH (ZK (i:=5) ZAu.nd rfl (Or.inl rfl)) (ZH (ZK (i:=6) ZAu.nd rfl (Or.inl rfl)) ZX))) ZX)))
(ZF (ZO (i:=7) ZAu.nd rfl (Or.inl rfl) (ZIg (ZFL (Zz (oEq hr.units) (ZQ oIx (ZQ oIx (ZQ oIx (ZA 1) ZG (λ _ _=>rfl)) (ZA 4) (λ _ _=>rfl)) ZG (λ _ _=>rfl)) ZG (ZW _)) (ZCw (Zz (ZF7 hr.units) (ZA 4) (ZR ZBB (ZQ oIx (ZA 2) ZG (λ _ _=>rfl)) (ZQ oIx (ZA 2) ZG (λ _ _=>rfl))) (by with_unfolding_all rfl)))) (ZCw (Zz (oIn hr.units) (ZA 4) (ZQ oIx (ZA 2) ZG (λ _ _=>rfl)) (by with_unfolding_all rfl)))))
(ZI (Zn (JW.pt (ZAQ (ZAX (ZA 7)) (ZAc (ZT (oEq hr.units) (ZR ZFA (ZR ZI0 (ZQ oIx (ZA 1) ZG (λ _ _=>rfl)) (ZA 6)) (ZA 5)) ZG (ZW _)))))
(ZI (ZAO (ZB7 (ZA 3) (ZA 4))))
Zc))))
(ZI (ZS (ZA 3))))))
theorem ZBT:FnScope ["_law_town_here","_law_state_here","_law_doings_here","_law_letters","_law_first","_law_x","_law_askers_here","_law_left"] ["_law_town_here","_law_state_here","_law_doings_here","_law_letters"] (ZM (top 48)):=⟨rfl,rfl,rfl,by decide +kernel,rfl,by decide +kernel,by decide +kernel⟩
theorem ZFe (T:Txt K mg A):FnOk P w K mg base CX0 2 A.f__law_right A.fd__law_right ["_law_town_here","_law_state_here","_law_doings_here","_law_letters"] (spD K 4 ZAP):=by
 have G_law_askers:=ZFH (P:=P) (w:=w) (base:=base) T
 exact Za (d:=ZC4) (r:=ZAP) (n:=8) (by unfold ZAP; rfl) rfl rfl T.D__law_right.fn ZBT λ cdv A outer s H E hr=>(
(ZF (ZO (i:=4) ZBT.nd rfl (Or.inl rfl) (ZAp ZE))
(ZF (ZAY PassesOwn.never rfl (ZAZ (ZR ZBB (ZQ oIx (ZA 2) ZG (λ _ _=>rfl)) (ZQ oIx (ZA 2) ZG (λ _ _=>rfl)))) (ZK (i:=5) ZBT.nd rfl (Or.inr rfl))
(ZI (ZAO (ZMT (ZA 4) (ZAA (sc:=ZM (top 48)) (NX:=["_law_town_here","_law_state_here","_law_doings_here","_law_letters","_law_first","_law_x","_law_askers_here","_law_left"]) (N:=["_law_y","_law_x"]) (own:=1) (cap:=[5]) rfl (Z4 rfl T.z_range (ZB (Zk ZDF rfl T.z_len boot_len (ZB (ZA 0) ZE)) ZE) (hn:=(.cons .nil))) rfl rfl (λ cl C s0 H0 fp=>⟨(ZK (i:=0) (by show (["_law_y","_law_x"]:List Str).Nodup; decide +kernel) rfl (Or.inl rfl)),(ZBu (ZT (oNe hr.units) (ZA 0) (ZA 1) (ZW _))),(ZU (ZB (ZA 1) (ZB (ZA 0) ZE)))⟩) (by decide +kernel) rfl)))))
(ZF (Zn (ZT (oNe hr.units) (ZAA (sc:=ZM (top 48)) (NX:=["_law_town_here","_law_state_here","_law_doings_here","_law_letters","_law_first","_law_x","_law_askers_here","_law_left"]) (N:=["_law_letter"]) (own:=1) (cap:=[]) rfl (ZAZ (ZBx (ZA 3) ZAr (ZAs (Zk ZDF rfl T.z_len boot_len (ZB (ZA 4) ZE))))) rfl rfl (λ cl C s0 H0 fp=>⟨(ZK (i:=0) (by show (["_law_letter"]:List Str).Nodup; decide +kernel) rfl (Or.inl rfl)),ZAz,(ZBx (ZA 0) ZAr (ZAs ZG))⟩) (by decide +kernel) rfl) (ZA 4) (ZW _))
(ZI (ZS ZBV))
Zc)
(ZF (Zn (ZT (oNe hr.units) (ZAA (sc:=ZM (top 48)) (NX:=["_law_town_here","_law_state_here","_law_doings_here","_law_letters","_law_first","_law_x","_law_askers_here","_law_left"]) (N:=["_law_letter"]) (own:=1) (cap:=[]) rfl (ZAZ (ZA 3)) rfl rfl (λ cl C s0 H0 fp=>⟨(ZK (i:=0) (by show (["_law_letter"]:List Str).Nodup; decide +kernel) rfl (Or.inl rfl)),ZAz,(ZQ oIx (ZA 0) ZG (λ _ _=>rfl))⟩) (by decide +kernel) rfl) (ZAA (sc:=ZM (top 48)) (NX:=["_law_town_here","_law_state_here","_law_doings_here","_law_letters","_law_first","_law_x","_law_askers_here","_law_left"]) (N:=["_law_k","_law_doings_here"]) (own:=1) (cap:=[2]) rfl (Z4 rfl T.z_range (ZB (Zk ZDF rfl T.z_len boot_len (ZB (ZA 3) ZE)) ZE) (hn:=(.cons .nil))) rfl rfl (λ cl C s0 H0 fp=>⟨(ZK (i:=0) (by show (["_law_k","_law_doings_here"]:List Str).Nodup; decide +kernel) rfl (Or.inl rfl)),ZAz,(Zz (oIn hr.units) (ZA 0) (ZQ oIx (ZA 1) ZG (λ _ _=>rfl)) (by with_unfolding_all rfl))⟩) (by decide +kernel) rfl) (ZW _))
(ZI (ZS ZBV))
Zc)
(ZF (ZO (i:=6) ZBT.nd rfl (Or.inl rfl) (ZJ T.D__law_askers G_law_askers (hr.mono (by decide)) (ZB (ZA 0) (ZB (ZA 1) (ZB (ZA 2) ZE))) (.cons (.cons (.cons .nil)))))
(ZF (ZO (i:=7) ZBT.nd rfl (Or.inl rfl) (ZBx (ZA 3) (ZAs (Zk ZDF rfl T.z_len boot_len (ZB (ZA 4) ZE))) ZAr))
(ZF (Zn (JW.pt (ZAQ (ZT (oNe hr.units) (ZA 7) (ZU ZE) (ZW _)) (ZAc (ZT (ZF7 hr.units) (ZQ oIx (ZQ oIx (ZA 7) ZG (λ _ _=>rfl)) ZG (λ _ _=>rfl)) (ZA 6) (by with_unfolding_all rfl)))))
(ZI (ZS ZBV))
Zc)
(ZI (ZS (ZFL (Zk (cAll rfl) rfl T.z_all boot_all (ZB (ZAA (sc:=ZM (top 48)) (NX:=["_law_town_here","_law_state_here","_law_doings_here","_law_letters","_law_first","_law_x","_law_askers_here","_law_left"]) (N:=["_law_x","_law_y","_law_gone_one"]) (own:=3) (cap:=[]) rfl (ZAZ (ZA 3)) rfl rfl (λ cl C s0 H0 fp=>⟨(Zg rfl (ZH (ZK (i:=0) (by show (["_law_x","_law_y","_law_gone_one"]:List Str).Nodup; decide +kernel) rfl (Or.inl rfl)) (ZH (ZK (i:=1) (by show (["_law_x","_law_y","_law_gone_one"]:List Str).Nodup; decide +kernel) rfl (Or.inl rfl)) (ZH (ZK (i:=2) (by show (["_law_x","_law_y","_law_gone_one"]:List Str).Nodup; decide +kernel) rfl (Or.inl rfl)) ZX)))),ZAz,(Zz (oNe hr.units) (ZA 0) (ZA 1) (ZW _))⟩) (by decide +kernel) rfl) ZE)) (ZCw (ZIg (Zz (oNe hr.units) (ZA 6) (ZBI ZE) (ZW _)) (ZCw (Zz (oEq hr.units) (ZA 7) (ZU ZE) (ZW _))))))))))))))))
theorem ZCS:FnScope ["_law_script","_law_k","_law_box_here","_law_rules_here","_law_town_here","_law_state_here","_law_doings_here","_law_later","_law_letters","_law_beyond","_law_at","_law_lost_here","_law_other"] ["_law_script"] (ZM (top 49)):=⟨rfl,rfl,rfl,by decide +kernel,rfl,by decide +kernel,by decide +kernel⟩
theorem ZMW (T:Txt K mg A) {f:Addr} {fd:FuncData} (F:Fun K "law" "law" (top 49) f fd):FnOk P w K mg base CX0 11 f fd ["_law_script"] (spD K 1 ZFt):=by
 have G_law_box:=ZHS (P:=P) (w:=w) (base:=base) T
 have G_law_rules:=ZFc (P:=P) (w:=w) (base:=base) T
 have G_law_town:=ZGI (P:=P) (w:=w) (base:=base) T
 have G_law_state:=ZF9 (P:=P) (w:=w) (base:=base) T
 have G_law_doings:=ZFI (P:=P) (w:=w) (base:=base) T
 have Gstepped:=ZHs (P:=P) (w:=w) (base:=base) T
 have G_law_take:=ZAt (P:=P) (w:=w) (base:=base) T
 have G_law_right:=ZFe (P:=P) (w:=w) (base:=base) T
 exact Za (d:=ZLe) (r:=ZFt) (n:=13) (by unfold ZFt; rfl) rfl rfl F ZCS λ cdv A outer s H E hr=>(
(ZF (ZAY PassesOwn.never rfl (Z4 rfl T.z_range (ZB (ZR ZBB ZG (Zk ZDF rfl T.z_len boot_len (ZB (ZBx (ZA 0) ZAr (ZAs ZG)) ZE))) ZE) (hn:=(.cons .nil))) (ZK (i:=1) ZCS.nd rfl (Or.inl rfl))
(ZF (ZO (i:=2) ZCS.nd rfl (Or.inl rfl) (ZJ T.D__law_box G_law_box (hr.mono (by decide)) (ZB (ZA 0) (ZB (ZA 1) ZE)) (.cons (.cons .nil))))
(ZF (ZO (i:=3) ZCS.nd rfl (Or.inl rfl) (ZJ T.D__law_rules G_law_rules (hr.mono (by decide)) (ZB (ZA 2) (ZB ZBV ZE)) (.cons (.cons .nil))))
(ZF (ZO (i:=4) ZCS.nd rfl (Or.inl rfl) (ZJ T.D__law_town G_law_town (hr.mono (by decide)) (ZB (ZA 2) (ZB ZG ZE)) (.cons (.cons .nil))))
(ZF (ZO (i:=5) ZCS.nd rfl (Or.inl rfl) (ZJ T.D__law_state G_law_state (hr.mono (by decide)) (ZB (ZA 2) (ZB (ZA 3) (ZB (ZA 4) ZE))) (.cons (.cons (.cons .nil)))))
(ZF (ZO (i:=6) ZCS.nd rfl (Or.inl rfl) (ZJ T.D__law_doings G_law_doings (hr.mono (by decide)) (ZB (ZA 2) (ZB (ZA 5) (ZB (Zz (oEq hr.units) (ZJ T.D__law_take G_law_take (hr.mono (by decide)) (ZB (ZA 2) (ZB ZG ZE)) (.cons (.cons .nil))) ZG (ZW _)) ZE))) (.cons (.cons (.cons .nil)))))
(ZF (Zi (ZJ T.D_stepped Gstepped (hr.mono (by decide)) (ZB (ZA 3) (ZB (ZA 4) (ZB (ZA 5) (ZB (ZA 6) ZE)))) (.cons (.cons (.cons (.cons .nil))))) (Zg rfl (ZH (ZK (i:=7) ZCS.nd rfl (Or.inl rfl)) (ZH (ZK (i:=8) ZCS.nd rfl (Or.inl rfl)) ZX))))
(ZF (Zn (ZFN (ZAX (ZJ T.D__law_right G_law_right (hr.mono (by decide)) (ZB (ZA 4) (ZB (ZA 5) (ZB (ZA 6) (ZB (ZA 8) ZE)))) (.cons (.cons (.cons (.cons .nil)))))))
(ZI (ZS ZBV))
Zc)
(ZF (ZO (i:=9) ZCS.nd rfl (Or.inl rfl) (ZR ZBB (ZU (ZB (ZR ZBB (ZQ oIx (ZA 6) ZG (λ _ _=>rfl)) (ZU (ZB (ZEN (a:=10) (b:=6) ⟨by decide,by decide,by decide⟩ (by decide +kernel)) (ZB (ZR ZBB (ZEN (a:=10) (b:=6) ⟨by decide,by decide,by decide⟩ (by decide +kernel)) ZG) ZE)))) ZE)) (ZBx (ZA 6) (ZAs ZG) ZAr)))
(ZF (Zn (ZT (oNe hr.units) (ZJ T.D_stepped Gstepped (hr.mono (by decide)) (ZB (ZA 3) (ZB (ZA 4) (ZB (ZA 5) (ZB (ZA 9) ZE)))) (.cons (.cons (.cons (.cons .nil))))) (ZU (ZB (ZA 7) (ZB (ZA 8) ZE))) (ZW _))
(ZI (ZS ZBV))
Zc)
(ZF (ZO (i:=10) ZCS.nd rfl (Or.inr rfl) (ZJ T.D__law_take G_law_take (hr.mono (by decide)) (ZB (ZA 2) (ZB (ZR ZBB (Zk ZDF rfl T.z_len boot_len (ZB (ZA 8) ZE)) ZG) ZE)) (.cons (.cons .nil))))
(ZF (ZO (i:=11) ZCS.nd rfl (Or.inl rfl) (Zh ZDy rfl T.z_tuple boot_tuple (ZB (Zk ZPf rfl T.z_sorted boot_sorted (ZB (ZR ZBB (ZAA (sc:=ZM (top 49)) (NX:=["_law_script","_law_k","_law_box_here","_law_rules_here","_law_town_here","_law_state_here","_law_doings_here","_law_later","_law_letters","_law_beyond","_law_at","_law_lost_here","_law_other"]) (N:=["_law_number","_law_at"]) (own:=1) (cap:=[10]) rfl (ZAZ (ZQ oIx (ZA 6) ZG (λ _ _=>rfl))) rfl rfl (λ cl C s0 H0 fp=>⟨(ZK (i:=0) (by show (["_law_number","_law_at"]:List Str).Nodup; decide +kernel) rfl (Or.inl rfl)),(ZBu (ZT (oNe hr.units) (ZA 0) (ZA 1) (ZW _))),(ZA 0)⟩) (by decide +kernel) rfl) (ZR ZEl (ZBI (ZB (ZA 10) ZE)) (Zh ZKT rfl T.z_int boot_int (ZB (Zz (ZF7 hr.units) (ZA 10) (ZQ oIx (ZA 6) ZG (λ _ _=>rfl)) (by with_unfolding_all rfl)) ZE)))) ZE)) ZE)))
(ZF (ZO (i:=6) ZCS.nd rfl (Or.inl rfl) (ZR ZBB (ZU (ZB (ZA 11) ZE)) (ZBx (ZA 6) (ZAs ZG) ZAr)))
(ZF (ZO (i:=12) ZCS.nd rfl (Or.inl rfl) (ZQ oIx (ZJ T.D_stepped Gstepped (hr.mono (by decide)) (ZB (ZA 3) (ZB (ZA 4) (ZB (ZA 5) (ZB (ZA 6) ZE)))) (.cons (.cons (.cons (.cons .nil))))) ZG (λ _ _=>rfl)))
(ZI (Zn (JW.pt (ZEd (ZT (oNe hr.units) (ZBx (ZA 12) ZAr (ZAs (ZA 10))) (ZBx (ZA 8) ZAr (ZAs (ZA 10))) (ZW _)) (ZDh (ZFN (ZAX (ZJ T.D__law_right G_law_right (hr.mono (by decide)) (ZB (ZA 4) (ZB (ZA 5) (ZB (ZA 6) (ZB (ZA 12) ZE)))) (.cons (.cons (.cons (.cons .nil))))))))))
(ZI (ZS ZBV))
Zc))))))))))))))))
(ZI (ZS ZBV))))
def ZJS (K:PySem.W.Frag):Sp:=λ vs H Q _=>∃ (a:Addr) (ns:List Int),vs=[.ref a]/\SqL K H a (ns.map V.int)/\ns.length<=63/\∀ H',Q (.bl true) H'
theorem ZOs (T:Txt K mg A) {f:Addr} {fd:FuncData} (F:Fun K "law" "law" (top 49) f fd):FnOk P w K mg base CX0 11 f fd ["_law_script"] (ZJS K):=ZO9 (ZMW T F) λ ns hl=>ZN6 hl
end
theorem all_mk {l:PySem.W.OpenLaw} {w:World} {K:PySem.W.Frag} {h:Heap} {mg:Str->Option Value} {fa:Addr} (X:K.In h) (G:h.Ns mainGlobals mg) (hfa:mg "law" = some (.ref fa))
  {cRoad:Addr} (acRoad:PySem.W.nsIn K mainGlobals "Road" = some (some (.ref cRoad))) (pgRoad:PySem.W.plainGet K cRoad Str.empty=true) (hdRoad:PySem.W.hasDictIn K cRoad=true) (poRoad:PySem.W.plainOver K cRoad=true) (saRoad:PySem.W.findIn K (.ref cRoad) "__setattr__" = some (some (.builtin "object.__setattr__"))) (mkRoad:PySem.W.makesIn K cRoad=true) (kcRoad:PySem.W.keepIn K (.ref cRoad)=true) (naRoad0:PySem.W.findIn K (.ref cRoad) "rules" = some none) (naRoad1:PySem.W.findIn K (.ref cRoad) "town" = some none) (naRoad2:PySem.W.findIn K (.ref cRoad) "state" = some none) (naRoad3:PySem.W.findIn K (.ref cRoad) "lost" = some none) (naRoad4:PySem.W.findIn K (.ref cRoad) "letters" = some none)
  {f0:Addr}
  (a0:PySem.W.nsIn K mainGlobals "put" = some (some (.ref f0)))
  (h0:ZAf K "put" "put" (top 1) f0)
  {f1:Addr}
  (a1:PySem.W.nsIn K mainGlobals "newer" = some (some (.ref f1)))
  (h1:ZAf K "newer" "newer" (top 7) f1)
  {f2:Addr}
  (a2:PySem.W.nsIn K mainGlobals "ticks" = some (some (.ref f2)))
  (h2:ZAf K "ticks" "ticks" (top 9) f2)
  {f3:Addr}
  (a3:PySem.W.nsIn K mainGlobals "ticks_by" = some (some (.ref f3)))
  (h3:ZAf K "ticks_by" "ticks_by" (top 10) f3)
  {f4:Addr}
  (a4:PySem.W.nsIn K mainGlobals "target" = some (some (.ref f4)))
  (h4:ZAf K "target" "target" (top 11) f4)
  {f5:Addr}
  (a5:PySem.W.nsIn K mainGlobals "notes_of" = some (some (.ref f5)))
  (h5:ZAf K "notes_of" "notes_of" (top 13) f5)
  {f6:Addr}
  (a6:PySem.W.nsIn K mainGlobals "due_houses" = some (some (.ref f6)))
  (h6:ZAf K "due_houses" "due_houses" (top 14) f6)
  {f7:Addr}
  (a7:PySem.W.nsIn K mainGlobals "news_houses" = some (some (.ref f7)))
  (h7:ZAf K "news_houses" "news_houses" (top 15) f7)
  {f8:Addr}
  (a8:PySem.W.nsIn K mainGlobals "taken" = some (some (.ref f8)))
  (h8:ZAf K "taken" "taken" (top 16) f8)
  {f9:Addr}
  (a9:PySem.W.nsIn K mainGlobals "refuted" = some (some (.ref f9)))
  (h9:ZAf K "refuted" "refuted" (top 17) f9)
  {f10:Addr}
  (a10:PySem.W.nsIn K mainGlobals "noted" = some (some (.ref f10)))
  (h10:ZAf K "noted" "noted" (top 18) f10)
  {f11:Addr}
  (a11:PySem.W.nsIn K mainGlobals "gives_way" = some (some (.ref f11)))
  (h11:ZAf K "gives_way" "gives_way" (top 19) f11)
  {f12:Addr}
  (a12:PySem.W.nsIn K mainGlobals "posted" = some (some (.ref f12)))
  (h12:ZAf K "posted" "posted" (top 21) f12)
  {f13:Addr}
  (a13:PySem.W.nsIn K mainGlobals "with_house" = some (some (.ref f13)))
  (h13:ZAf K "with_house" "with_house" (top 22) f13)
  {f14:Addr}
  (a14:PySem.W.nsIn K mainGlobals "asks_any" = some (some (.ref f14)))
  (h14:ZAf K "asks_any" "asks_any" (top 23) f14)
  {f15:Addr}
  (a15:PySem.W.nsIn K mainGlobals "asked_in_order" = some (some (.ref f15)))
  (h15:ZAf K "asked_in_order" "asked_in_order" (top 24) f15)
  {f16:Addr}
  (a16:PySem.W.nsIn K mainGlobals "asks_now" = some (some (.ref f16)))
  (h16:ZAf K "asks_now" "asks_now" (top 25) f16)
  {f17:Addr}
  (a17:PySem.W.nsIn K mainGlobals "is_about" = some (some (.ref f17)))
  (h17:ZAf K "is_about" "is_about" (top 26) f17)
  {f18:Addr}
  (a18:PySem.W.nsIn K mainGlobals "ways" = some (some (.ref f18)))
  (h18:ZAf K "ways" "ways" (top 27) f18)
  {f19:Addr}
  (a19:PySem.W.nsIn K mainGlobals "helpers" = some (some (.ref f19)))
  (h19:ZAf K "helpers" "helpers" (top 28) f19)
  {f20:Addr}
  (a20:PySem.W.nsIn K mainGlobals "judged" = some (some (.ref f20)))
  (h20:ZAf K "judged" "judged" (top 29) f20)
  {f21:Addr}
  (a21:PySem.W.nsIn K mainGlobals "stepped" = some (some (.ref f21)))
  (h21:ZAf K "stepped" "stepped" (top 32) f21)
  {f22:Addr}
  (a22:PySem.W.nsIn K mainGlobals "done" = some (some (.ref f22)))
  (h22:ZAf K "done" "done" (top 33) f22)
  {f23:Addr}
  (a23:PySem.W.nsIn K mainGlobals "write_to_all" = some (some (.ref f23)))
  (h23:ZAf K "write_to_all" "write_to_all" (top 34) f23)
  {f24:Addr}
  (a24:PySem.W.nsIn K mainGlobals "stop" = some (some (.ref f24)))
  (h24:ZAf K "stop" "stop" (top 35) f24)
  {f25:Addr}
  (a25:PySem.W.nsIn K mainGlobals "ask_all" = some (some (.ref f25)))
  (h25:ZAf K "ask_all" "ask_all" (top 36) f25)
  {f26:Addr}
  (a26:PySem.W.nsIn K mainGlobals "is_answered" = some (some (.ref f26)))
  (h26:ZAf K "is_answered" "is_answered" (top 37) f26)
  {f27:Addr}
  (a27:PySem.W.nsIn K mainGlobals "comes_through" = some (some (.ref f27)))
  (h27:ZAf K "comes_through" "comes_through" (top 38) f27)
  {f28:Addr}
  (a28:PySem.W.nsIn K mainGlobals "_law_box" = some (some (.ref f28)))
  (h28:ZAf K "_law_box" "_law_box" (top 40) f28)
  {f29:Addr}
  (a29:PySem.W.nsIn K mainGlobals "_law_take" = some (some (.ref f29)))
  (h29:ZAf K "_law_take" "_law_take" (top 41) f29)
  {f30:Addr}
  (a30:PySem.W.nsIn K mainGlobals "_law_rules" = some (some (.ref f30)))
  (h30:ZAf K "_law_rules" "_law_rules" (top 42) f30)
  {f31:Addr}
  (a31:PySem.W.nsIn K mainGlobals "_law_town" = some (some (.ref f31)))
  (h31:ZAf K "_law_town" "_law_town" (top 43) f31)
  {f32:Addr}
  (a32:PySem.W.nsIn K mainGlobals "_law_state" = some (some (.ref f32)))
  (h32:ZAf K "_law_state" "_law_state" (top 44) f32)
  {f33:Addr}
  (a33:PySem.W.nsIn K mainGlobals "_law_lost" = some (some (.ref f33)))
  (h33:ZAf K "_law_lost" "_law_lost" (top 45) f33)
  {f34:Addr}
  (a34:PySem.W.nsIn K mainGlobals "_law_doings" = some (some (.ref f34)))
  (h34:ZAf K "_law_doings" "_law_doings" (top 46) f34)
  {f35:Addr}
  (a35:PySem.W.nsIn K mainGlobals "_law_askers" = some (some (.ref f35)))
  (h35:ZAf K "_law_askers" "_law_askers" (top 47) f35)
  {f36:Addr}
  (a36:PySem.W.nsIn K mainGlobals "_law_right" = some (some (.ref f36)))
  (h36:ZAf K "_law_right" "_law_right" (top 48) f36)
  {f37:Addr} {od37 an37:Option Addr} {sl37:Array (Option Value)} {oc37 kV37 dc37 pm37 cd37 ct37:Value}
  (a37:PySem.W.nsIn K mainGlobals "law" = some (some (.ref f37)))
  (l37:K.lookup f37=some ⟨oc37,od37,.func (PySem.W.fnOf "law" "law" (ZCx (top 49)) (ZBm (top 49)) (ZM (top 49)) .none kV37 dc37 pm37 an37 cd37 ct37),sl37⟩) (c37:PySem.W.codeIn K cd37 "law" = true) (k37:PySem.W.keepIn K (.ref f37)=true)
  {f38:Addr}
  (a38:PySem.W.findIn K (.ref cRoad) "__init__" = some (some (.ref f38))) (n38:PySem.W.isFn K (.ref f38)=true)
  (h38:ZAf K "__init__" "Road.__init__" (ZCX (top 31) 0) f38)
  {f39:Addr}
  (a39:PySem.W.findIn K (.ref cRoad) "sends" = some (some (.ref f39))) (n39:PySem.W.isFn K (.ref f39)=true)
  (h39:ZAf K "sends" "Road.sends" (ZCX (top 31) 1) f39)
  {gt0:Tok} (glob0:PySem.W.nsIn K mainGlobals "ALIVE" = some (some (.int 0 gt0)))
  {gt1:Tok} (glob1:PySem.W.nsIn K mainGlobals "SUSPECT" = some (some (.int 1 gt1)))
  {gt2:Tok} (glob2:PySem.W.nsIn K mainGlobals "GONE" = some (some (.int 2 gt2)))
  {gt3:Tok} (glob3:PySem.W.nsIn K mainGlobals "LEFT" = some (some (.int 3 gt3)))
  (z0:PySem.W.nsIn K mainGlobals "abs" = some none)
  (z1:PySem.W.nsIn K mainGlobals "all" = some none)
  (z2:PySem.W.nsIn K mainGlobals "enumerate" = some none)
  (z3:PySem.W.nsIn K mainGlobals "int" = some none)
  (z4:PySem.W.nsIn K mainGlobals "len" = some none)
  (z5:PySem.W.nsIn K mainGlobals "min" = some none)
  (z6:PySem.W.nsIn K mainGlobals "range" = some none)
  (z7:PySem.W.nsIn K mainGlobals "sorted" = some none)
  (z8:PySem.W.nsIn K mainGlobals "tuple" = some none)
  : ∃ fd:FuncData,(∀ (s:Shared) (v:Value),BindsTo s fd ⟨[v],[]⟩ [("_law_script",v)])/\∀ base:Heap,K.In base->base.Ns mainGlobals mg->FnOk l.prog w K mg base CX0 11 fa fd ["_law_script"] (ZJS K):=by
 have e:=hfa.symm.trans (PySem.W.mg_of X G a37)
 cases e
 have NARoad:∀ f ∈ ZV.fs,ZDZ K cRoad f:=by
  intro f hf
  simp only [ZV,List.mem_cons,List.not_mem_nil,or_false] at hf
  rcases hf with rfl | rfl | rfl | rfl | rfl
  ·exact naRoad0
  ·exact naRoad1
  ·exact naRoad2
  ·exact naRoad3
  ·exact naRoad4
 obtain ⟨_,F0⟩:=h0
 have D0:Def K mg "put" (top 1) ["things","place","thing"] f0 _:=⟨PySem.W.mg_of X G a0,F0,F0.binds (ps:=["things","place","thing"]) λ _ _ _ _ _ _ us hl=>match us,hl with | [_,_,_],_=>rfl⟩
 obtain ⟨_,F1⟩:=h1
 have D1:Def K mg "newer" (top 7) ["one","other"] f1 _:=⟨PySem.W.mg_of X G a1,F1,F1.binds (ps:=["one","other"]) λ _ _ _ _ _ _ us hl=>match us,hl with | [_,_],_=>rfl⟩
 obtain ⟨_,F2⟩:=h2
 have D2:Def K mg "ticks" (top 9) ["town","house","turn"] f2 _:=⟨PySem.W.mg_of X G a2,F2,F2.binds (ps:=["town","house","turn"]) λ _ _ _ _ _ _ us hl=>match us,hl with | [_,_,_],_=>rfl⟩
 obtain ⟨_,F3⟩:=h3
 have D3:Def K mg "ticks_by" (top 10) ["town","house","turn"] f3 _:=⟨PySem.W.mg_of X G a3,F3,F3.binds (ps:=["town","house","turn"]) λ _ _ _ _ _ _ us hl=>match us,hl with | [_,_,_],_=>rfl⟩
 obtain ⟨_,F4⟩:=h4
 have D4:Def K mg "target" (top 11) ["town","house","turn"] f4 _:=⟨PySem.W.mg_of X G a4,F4,F4.binds (ps:=["town","house","turn"]) λ _ _ _ _ _ _ us hl=>match us,hl with | [_,_,_],_=>rfl⟩
 obtain ⟨_,F5⟩:=h5
 have D5:Def K mg "notes_of" (top 13) ["rules","town","state","x","y"] f5 _:=⟨PySem.W.mg_of X G a5,F5,F5.binds (ps:=["rules","town","state","x","y"]) λ _ _ _ _ _ _ us hl=>match us,hl with | [_,_,_,_,_],_=>rfl⟩
 obtain ⟨_,F6⟩:=h6
 have D6:Def K mg "due_houses" (top 14) ["rules","town","turn","x","y"] f6 _:=⟨PySem.W.mg_of X G a6,F6,F6.binds (ps:=["rules","town","turn","x","y"]) λ _ _ _ _ _ _ us hl=>match us,hl with | [_,_,_,_,_],_=>rfl⟩
 obtain ⟨_,F7⟩:=h7
 have D7:Def K mg "news_houses" (top 15) ["rules","told","x","due"] f7 _:=⟨PySem.W.mg_of X G a7,F7,F7.binds (ps:=["rules","told","x","due"]) λ _ _ _ _ _ _ us hl=>match us,hl with | [_,_,_,_],_=>rfl⟩
 obtain ⟨_,F8⟩:=h8
 have D8:Def K mg "taken" (top 16) ["rules","house","y","notes"] f8 _:=⟨PySem.W.mg_of X G a8,F8,F8.binds (ps:=["rules","house","y","notes"]) λ _ _ _ _ _ _ us hl=>match us,hl with | [_,_,_,_],_=>rfl⟩
 obtain ⟨_,F9⟩:=h9
 have D9:Def K mg "refuted" (top 17) ["rules","house","y","word"] f9 _:=⟨PySem.W.mg_of X G a9,F9,F9.binds (ps:=["rules","house","y","word"]) λ _ _ _ _ _ _ us hl=>match us,hl with | [_,_,_,_],_=>rfl⟩
 obtain ⟨_,F10⟩:=h10
 have D10:Def K mg "noted" (top 18) ["rules","house","about","word"] f10 _:=⟨PySem.W.mg_of X G a10,F10,F10.binds (ps:=["rules","house","about","word"]) λ _ _ _ _ _ _ us hl=>match us,hl with | [_,_,_,_],_=>rfl⟩
 obtain ⟨_,F11⟩:=h11
 have D11:Def K mg "gives_way" (top 19) ["rules","old","word"] f11 _:=⟨PySem.W.mg_of X G a11,F11,F11.binds (ps:=["rules","old","word"]) λ _ _ _ _ _ _ us hl=>match us,hl with | [_,_,_],_=>rfl⟩
 obtain ⟨_,F12⟩:=h12
 have D12:Def K mg "posted" (top 21) ["rules","town","state","x","y"] f12 _:=⟨PySem.W.mg_of X G a12,F12,F12.binds (ps:=["rules","town","state","x","y"]) λ _ _ _ _ _ _ us hl=>match us,hl with | [_,_,_,_,_],_=>rfl⟩
 obtain ⟨_,F13⟩:=h13
 have D13:Def K mg "with_house" (top 22) ["state","at","house"] f13 _:=⟨PySem.W.mg_of X G a13,F13,F13.binds (ps:=["state","at","house"]) λ _ _ _ _ _ _ us hl=>match us,hl with | [_,_,_],_=>rfl⟩
 obtain ⟨_,F14⟩:=h14
 have D14:Def K mg "asks_any" (top 23) ["town","state","a"] f14 _:=⟨PySem.W.mg_of X G a14,F14,F14.binds (ps:=["town","state","a"]) λ _ _ _ _ _ _ us hl=>match us,hl with | [_,_,_],_=>rfl⟩
 obtain ⟨_,F15⟩:=h15
 have D15:Def K mg "asked_in_order" (top 24) ["town","turn","a"] f15 _:=⟨PySem.W.mg_of X G a15,F15,F15.binds (ps:=["town","turn","a"]) λ _ _ _ _ _ _ us hl=>match us,hl with | [_,_,_],_=>rfl⟩
 obtain ⟨_,F16⟩:=h16
 have D16:Def K mg "asks_now" (top 25) ["rules","town","state","a","b"] f16 _:=⟨PySem.W.mg_of X G a16,F16,F16.binds (ps:=["rules","town","state","a","b"]) λ _ _ _ _ _ _ us hl=>match us,hl with | [_,_,_,_,_],_=>rfl⟩
 obtain ⟨_,F17⟩:=h17
 have D17:Def K mg "is_about" (top 26) ["book","house"] f17 _:=⟨PySem.W.mg_of X G a17,F17,F17.binds (ps:=["book","house"]) λ _ _ _ _ _ _ us hl=>match us,hl with | [_,_],_=>rfl⟩
 obtain ⟨_,F18⟩:=h18
 have D18:Def K mg "ways" (top 27) ["rules","state","a","b"] f18 _:=⟨PySem.W.mg_of X G a18,F18,F18.binds (ps:=["rules","state","a","b"]) λ _ _ _ _ _ _ us hl=>match us,hl with | [_,_,_,_],_=>rfl⟩
 obtain ⟨_,F19⟩:=h19
 have D19:Def K mg "helpers" (top 28) ["rules","book","a","b"] f19 _:=⟨PySem.W.mg_of X G a19,F19,F19.binds (ps:=["rules","book","a","b"]) λ _ _ _ _ _ _ us hl=>match us,hl with | [_,_,_,_],_=>rfl⟩
 obtain ⟨_,F20⟩:=h20
 have D20:Def K mg "judged" (top 29) ["rules","state","a","b","answered"] f20 _:=⟨PySem.W.mg_of X G a20,F20,F20.binds (ps:=["rules","state","a","b","answered"]) λ _ _ _ _ _ _ us hl=>match us,hl with | [_,_,_,_,_],_=>rfl⟩
 obtain ⟨_,F21⟩:=h21
 have D21:Def K mg "stepped" (top 32) ["rules","town","state","doings"] f21 _:=⟨PySem.W.mg_of X G a21,F21,F21.binds (ps:=["rules","town","state","doings"]) λ _ _ _ _ _ _ us hl=>match us,hl with | [_,_,_,_],_=>rfl⟩
 obtain ⟨_,F22⟩:=h22
 have D22:Def K mg "done" (top 33) ["houses","doings"] f22 _:=⟨PySem.W.mg_of X G a22,F22,F22.binds (ps:=["houses","doings"]) λ _ _ _ _ _ _ us hl=>match us,hl with | [_,_],_=>rfl⟩
 obtain ⟨_,F23⟩:=h23
 have D23:Def K mg "write_to_all" (top 34) ["road","x"] f23 _:=⟨PySem.W.mg_of X G a23,F23,F23.binds (ps:=["road","x"]) λ _ _ _ _ _ _ us hl=>match us,hl with | [_,_],_=>rfl⟩
 obtain ⟨_,F24⟩:=h24
 have D24:Def K mg "stop" (top 35) ["road","x"] f24 _:=⟨PySem.W.mg_of X G a24,F24,F24.binds (ps:=["road","x"]) λ _ _ _ _ _ _ us hl=>match us,hl with | [_,_],_=>rfl⟩
 obtain ⟨_,F25⟩:=h25
 have D25:Def K mg "ask_all" (top 36) ["road","a"] f25 _:=⟨PySem.W.mg_of X G a25,F25,F25.binds (ps:=["road","a"]) λ _ _ _ _ _ _ us hl=>match us,hl with | [_,_],_=>rfl⟩
 obtain ⟨_,F26⟩:=h26
 have D26:Def K mg "is_answered" (top 37) ["road","a","b"] f26 _:=⟨PySem.W.mg_of X G a26,F26,F26.binds (ps:=["road","a","b"]) λ _ _ _ _ _ _ us hl=>match us,hl with | [_,_,_],_=>rfl⟩
 obtain ⟨_,F27⟩:=h27
 have D27:Def K mg "comes_through" (top 38) ["road","way"] f27 _:=⟨PySem.W.mg_of X G a27,F27,F27.binds (ps:=["road","way"]) λ _ _ _ _ _ _ us hl=>match us,hl with | [_,_],_=>rfl⟩
 obtain ⟨_,F28⟩:=h28
 have D28:Def K mg "_law_box" (top 40) ["_law_script","_law_k"] f28 _:=⟨PySem.W.mg_of X G a28,F28,F28.binds (ps:=["_law_script","_law_k"]) λ _ _ _ _ _ _ us hl=>match us,hl with | [_,_],_=>rfl⟩
 obtain ⟨_,F29⟩:=h29
 have D29:Def K mg "_law_take" (top 41) ["_law_box_here","_law_many"] f29 _:=⟨PySem.W.mg_of X G a29,F29,F29.binds (ps:=["_law_box_here","_law_many"]) λ _ _ _ _ _ _ us hl=>match us,hl with | [_,_],_=>rfl⟩
 obtain ⟨_,F30⟩:=h30
 have D30:Def K mg "_law_rules" (top 42) ["_law_box_here","_law_whole"] f30 _:=⟨PySem.W.mg_of X G a30,F30,F30.binds (ps:=["_law_box_here","_law_whole"]) λ _ _ _ _ _ _ us hl=>match us,hl with | [_,_],_=>rfl⟩
 obtain ⟨_,F31⟩:=h31
 have D31:Def K mg "_law_town" (top 43) ["_law_box_here","_law_most"] f31 _:=⟨PySem.W.mg_of X G a31,F31,F31.binds (ps:=["_law_box_here","_law_most"]) λ _ _ _ _ _ _ us hl=>match us,hl with | [_,_],_=>rfl⟩
 obtain ⟨_,F32⟩:=h32
 have D32:Def K mg "_law_state" (top 44) ["_law_box_here","_law_rules_here","_law_town_here"] f32 _:=⟨PySem.W.mg_of X G a32,F32,F32.binds (ps:=["_law_box_here","_law_rules_here","_law_town_here"]) λ _ _ _ _ _ _ us hl=>match us,hl with | [_,_,_],_=>rfl⟩
 obtain ⟨_,F33⟩:=h33
 have D33:Def K mg "_law_lost" (top 45) ["_law_box_here","_law_most"] f33 _:=⟨PySem.W.mg_of X G a33,F33,F33.binds (ps:=["_law_box_here","_law_most"]) λ _ _ _ _ _ _ us hl=>match us,hl with | [_,_],_=>rfl⟩
 obtain ⟨_,F34⟩:=h34
 have D34:Def K mg "_law_doings" (top 46) ["_law_box_here","_law_state_here","_law_moves"] f34 _:=⟨PySem.W.mg_of X G a34,F34,F34.binds (ps:=["_law_box_here","_law_state_here","_law_moves"]) λ _ _ _ _ _ _ us hl=>match us,hl with | [_,_,_],_=>rfl⟩
 obtain ⟨_,F35⟩:=h35
 have D35:Def K mg "_law_askers" (top 47) ["_law_town_here","_law_state_here","_law_doings_here"] f35 _:=⟨PySem.W.mg_of X G a35,F35,F35.binds (ps:=["_law_town_here","_law_state_here","_law_doings_here"]) λ _ _ _ _ _ _ us hl=>match us,hl with | [_,_,_],_=>rfl⟩
 obtain ⟨_,F36⟩:=h36
 have D36:Def K mg "_law_right" (top 48) ["_law_town_here","_law_state_here","_law_doings_here","_law_letters"] f36 _:=⟨PySem.W.mg_of X G a36,F36,F36.binds (ps:=["_law_town_here","_law_state_here","_law_doings_here","_law_letters"]) λ _ _ _ _ _ _ us hl=>match us,hl with | [_,_,_,_],_=>rfl⟩
 have F37:=ZLc (st:=(top 49)) l37 c37 k37
 obtain ⟨_,F38⟩:=h38
 have D38:MDef K cRoad "__init__" "Road.__init__" (ZCX (top 31) 0) ["self","rules","town","state","lost"] f38 _:=⟨⟨a38,n38,F38.kp⟩,F38,F38.binds (ps:=["self","rules","town","state","lost"]) λ _ _ _ _ _ _ us hl=>match us,hl with | [_,_,_,_,_],_=>rfl⟩
 obtain ⟨_,F39⟩:=h39
 have D39:MDef K cRoad "sends" "Road.sends" (ZCX (top 31) 1) ["self","x","y"] f39 _:=⟨⟨a39,n39,F39.kp⟩,F39,F39.binds (ps:=["self","x","y"]) λ _ _ _ _ _ _ us hl=>match us,hl with | [_,_,_],_=>rfl⟩
 have T:Txt K mg ⟨cRoad,f0,f1,f2,f3,f4,f5,f6,f7,f8,f9,f10,f11,f12,f13,f14,f15,f16,f17,f18,f19,f20,f21,f22,f23,f24,f25,f26,f27,f28,f29,f30,f31,f32,f33,f34,f35,f36,f38,f39,_,_,_,_,_,_,_,_,_,_,_,_,_,_,_,_,_,_,_,_,_,_,_,_,_,_,_,_,_,_,_,_,_,_,_,_,_,_,_⟩:=⟨PySem.W.mg_none_of X G z0,PySem.W.mg_none_of X G z1,PySem.W.mg_none_of X G z2,PySem.W.mg_none_of X G z3,PySem.W.mg_none_of X G z4,PySem.W.mg_none_of X G z5,PySem.W.mg_none_of X G z6,PySem.W.mg_none_of X G z7,PySem.W.mg_none_of X G z8,⟨_,PySem.W.mg_of X G glob0⟩,⟨_,PySem.W.mg_of X G glob1⟩,⟨_,PySem.W.mg_of X G glob2⟩,⟨_,PySem.W.mg_of X G glob3⟩,⟨acRoad,PySem.W.mg_of X G acRoad,⟨pgRoad,hdRoad,poRoad,saRoad⟩,by decide +kernel,NARoad⟩,⟨mkRoad,a38,n38,kcRoad⟩,D0,D1,D2,D3,D4,D5,D6,D7,D8,D9,D10,D11,D12,D13,D14,D15,D16,D17,D18,D19,D20,D21,D22,D23,D24,D25,D26,D27,D28,D29,D30,D31,D32,D33,D34,D35,D36,D38,D39⟩
 exact ⟨PySem.W.fnOf "law" "law" (ZCx (top 49)) (ZBm (top 49)) (ZM (top 49)) .none kV37 dc37 pm37 an37 cd37 ct37,λ s v=>.of_eq rfl,λ base _ _=>ZOs T F37⟩
theorem walk {l:PySem.W.OpenLaw} {q:Program} {loose:List Str} {XP:(Str->Option Value)->Heap->Prop} {YP:World->Heap->Prop} {d:DefRec} {K:Params->PySem.W.Frag} (hn:l.most=some 63) (hdf:d.params.defaults=[])
  (hY:∀ (w:World) (h:Heap),YP w h->(K w.params).In h)
  (F:∀ (w:World) (mg:Str->Option Value) (fa:Addr) (h:Heap),(K w.params).In h->h.Ns mainGlobals mg->mg d.name=some (.ref fa) ->
   ∃ fd:FuncData,(∀ (s:Shared) (u:Value),BindsTo s fd ⟨[u],[]⟩ [("_law_script",u)])/\∀ base:Heap,(K w.params).In base->base.Ns mainGlobals mg->FnOk l.prog w (K w.params) mg base CX0 11 fa fd ["_law_script"] (ZJS (K w.params))) :
  PySem.W.WalkO q loose XP YP l.row.toRowW d [] (λ f vs=>PySem.call f vs) :=
 L2.walk_of (n:=63) (k:=11) (x:="_law_script") (CX:=λ _=>CX0) (sp:=λ w=>ZJS (K w.params)) hn (by decide) hdf ⟨rfl,by decide,by decide,rfl⟩ hY F (λ _ _ a ns hl _ hS=>⟨a,ns,rfl,hS,hl,λ _=>rfl⟩) λ _ _ _ _ _ z=>z
end K31
open PySem PySem.W PyProof.Rows
local macro_rules
 | `(tactic| and_intros) => `(tactic| (refine' L2.fnAt_mk ?l ?c ?k; (case l => k_is); (case c => k_is); (case k => k_is)))
namespace PySem.W.Fast
end PySem.W.Fast
namespace PySem.W.Fast
def tw15500715325336493758 := 0
def tw2223285637035565128 := 0
def tw7443908170693704310 := 0
def tw14481632948729041253 := 0
def tw8112019035711654483 := 0
def tw10791008751508571388 := 0
def tw6413092920772767285 := 0
def tw18009189351200054363 := 0
def tw5110167194164883330 := 0
def tw14571436633070344442 := 0
def tw9777585771277133799 := 0
def tw14482584688787162229 := 0
def tw13730949913232560449 := 0
def tw11620130677354478643 := 0
def tw7289090925715225486 := 0
def tw11740871637396770351 := 0
def tw12227543611970491469 := 0
def tw12096383565352508192 := 0
def tw6903047435180801705 := 0
def tw10168571663993377898 := 0
def tw15274718303253097356 := 0
def tw11764022146498212029 := 0
def tw18366024130871672976 := 0
def tw9516115266100783345 := 0
def tw15676552623661715494 := 0
def tw2926027687354127124 := 0
def tw11985678084456773311 := 0
def tw3591098778954952273 := 0
def tw12836806913572554961 := 0
def tw8089867111529555137 := 0
def tw16112966945499466266 := 0
def tw12667961694597777133 := 0
def tw15087063234505213649 := 0
def tw16925827439051756814 := 0
def tw11620233972203495472 := 0
def tw8901870425035822319 := 0
def tw5083327114220419899 := 0
def tw10827776195890952084 := 0
def tw16967602339881476921 := 0
def tw8932727704531531871 := 0
def tw14730083495179715120 := 0
def tw12452133929388249083 := 0
def tw17477981359632011889 := 0
def tw14619889569496717344 := 0
def tw5927853739335395954 := 0
def tw16395272247198529662 := 0
def tw7488173541633698695 := 0
def tw10380769583204093265 := 0
def tw7353566441590274291 := 0
def tw14021725943499828847 := 0
def tw11286466574651724806 := 0
def tw8410363830251607090 := 0
def tw1267185461185761286 := 0
def tw7529591146854078420 := 0
def tw15814324609331431367 := 0
def tw12202429953168057875 := 0
def tw10314141180125116556 := 0
def tw16981812902267571328 := 0
def tw451316843591641194 := 0
def tw4508569237115422530 := 0
def tw10767349006534960533 := 0
def tw12542706256253818134 := 0
def tw9032611633237021366 := 0
def tw4699335039965951936 := 0
def tw2951006696789166892 := 0
def tw10115064422839843068 := 0
def tw10939542176914100086 := 0
def tw7104297943826235400 := 0
def tw18241467772183503287 := 0
def tw13016226837079509018 := 0
def tw1100051025342743731 := 0
def tw8323840514105371070 := 0
def tw17932383695530301721 := 0
def tw9652346019071703458 := 0
def tw8223882518456052273 := 0
def tw5532912668388221837 := 0
def tw10225492784338454827 := 0
def tw1552444680453246070 := 0
def tw8965948936521086461 := 0
def tw17287291774101048944 := 0
def tw13880513122303632278 := 0
def tw15538522987229108586 := 0
def tw15682048673995376839 := 0
def tw12610157789586651816 := 0
def tw3814719841724646577 := 0
def tw12974479043437239342 := 0
def tw1795473625460747173 := 0
def tw5501242298962602494 := 0
def tw2022040275767141493 := 0
def tw307352241518690931 := 0
def tw9230285810715796605 := 0
def tw101976525775783624 := 0
def tw16932140714912224029 := 0
def tw8313716340777335738 := 0
def tw10332282230403658742 := 0
def tw11422808611348414343 := 0
def tw4728554906473594043 := 0
def tw9660865015780591918 := 0
def tw16352750301302980748 := 0
def tw17377105183220782826 := 0
def tw8628573893851659893 := 0
def tw10204010821235883987 := 0
def tw15326970284274389059 := 0
def tw9470783769339813981 := 0
def tw3464737042300622728 := 0
def tw6883674457360612110 := 0
def tw18137601336048521915 := 0
def tw10685381880135567344 := 0
def tw17302150233781935257 := 0
def tw1212209780403868151 := 0
def tw9565484510720628968 := 0
def tw7346337108812174054 := 0
def tw1702423997873095293 := 0
def tw745917102818101317 := 0
def tw11613834929113520623 := 0
def tw11663649443112305647 := 0
def tw7905201331650608561 := 0
def tw13847941052478393295 := 0
def tw3292495838598519849 := 0
def tw7373830213368518043 := 0
def tw17888239513591228376 := 0
def tw1408792961836696227 := 0
def tw5166982666471943434 := 0
def tw5012994690228059082 := 0
def tw5908657569643366845 := 0
def tw11786066284133981870 := 0
def tw14949156651377751944 := 0
def tw16164225579595353569 := 0
def tw8084932458851273129 := 0
def tw2728544712718253881 := 0
def tw4419265580597178236 := 0
def tw12960253681691981453 := 0
def tw10309788237184817944 := 0
def tw10978092945253293030 := 0
def tw17155981874090998957 := 0
def tw1047940220592150006 := 0
def tw15420343588933849495 := 0
def tw11423894327636256202 := 0
def tw11777191089023540279 := 0
def tw4951565154903711804 := 0
def tw15289013998276389277 := 0
def tw17111652329252698953 := 0
def tw7238082333692906713 := 0
def tw11419743675551046562 := 0
def tw5078149545984377494 := 0
def tw10178103380273465704 := 0
def tw18063141684267698661 := 0
def tw17227805945600879240 := 0
def tw14754009595101494670 := 0
def tw673556249349855975 := 0
def tw12988455583068421907 := 0
def tw6141688532572966125 := 0
def tw8459714161894669675 := 0
def tw7778061354127387183 := 0
def tw16493628432683230738 := 0
def tw6690629871761452245 := 0
def tw15439842286504778554 := 0
def tw481010531034703113 := 0
def tw18366048216435114594 := 0
def tw3539154984914241096 := 0
def tw11262582335152641739 := 0
def tw13784645519660504094 := 0
def tw11349859134304841749 := 0
def tw9486187405060986014 := 0
def tw1638800228791344566 := 0
def tw7045691415119627639 := 0
def tw16869849877597759649 := 0
def tw5836640820951043859 := 0
def tw1867072668716183635 := 0
def tw8754983146884221243 := 0
def tw17481950684724940441 := 0
def tw579074609284100681 := 0
def tw13774683914426111725 := 0
def tw6205517372779655652 := 0
def tw17229025466842231043 := 0
def tw16583713317327126451 := 0
def tw13855687560498658384 := 0
def tw10544242420114479499 := 0
def tw4053902622874157024 := 0
def tw4135810761065131915 := 0
def tw2579198665223585751 := 0
def tw12438138716210517039 := 0
def tw14914493043893498444 := 0
def tw3211351239543385617 := 0
def tw16817646843587090085 := 0
def tw345532510311518696 := 0
def tw7328433804953300896 := 0
def tw6124962017668742042 := 0
def tw5405703721733073771 := 0
def tw17540607362031754660 := 0
def tw1694552412585686059 := 0
def tw5544484669844064203 := 0
def tw7596371838432799706 := 0
def tw1821294363049080927 := 0
def tw9215340266333031329 := 0
def tw2273254379183214902 := 0
def tw5222137032033867214 := 0
def tw2230267005128960253 := 0
def tw3449593840356862864 := 0
def tw1714995418956257125 := 0
def tw15356336064353418265 := 0
def tw17781574224309426236 := 0
def tw809537940906634489 := 0
def tw15164940401631968232 := 0
def tw6583229470116280817 := 0
def tw2193378127567558297 := 0
def tw1145714277547734287 := 0
def tw11668157749914894108 := 0
def tw12833019601852511593 := 0
def tw9369611098588965992 := 0
def tw8796106534956082384 := 0
def tw4478234971908585687 := 0
def tw618219742497449586 := 0
def tw16895074652788329724 := 0
def tw7279079762852071964 := 0
def tw13334001742127791949 := 0
def tw5473239998229580653 := 0
def tw17112304007776089892 := 0
def tw9473338886975095304 := 0
def tw10958542236855720850 := 0
def tw8111032204863050043 := 0
def tw12092680362681780941 := 0
def tw13144051088590670970 := 0
def tw5043266056782433993 := 0
def tw924940785457981369 := 0
def tw10420378074923844632 := 0
def tw13009732680342702559 := 0
def tw1883744029859338131 := 0
def tw16372949238405340 := 0
def tw15607099334115112457 := 0
def tw2815584658844035014 := 0
def tw14997791408135883875 := 0
def tw16631990613750624095 := 0
def tw14762253728444879926 := 0
def tw4124878066985785079 := 0
def tw10810439635748153538 := 0
def tw15679772447094921800 := 0
def tw13168191964706810344 := 0
def tw442433693574061898 := 0
def tw8028316910831419204 := 0
def tw11388397859582739726 := 0
def tw219583935251397318 := 0
def tw16935868717059110278 := 0
def tw7210097549248506497 := 0
def tw5503777603812256049 := 0
def tw13553145679749151522 := 0
def tw12749098262330479645 := 0
def tw10669734379283305197 := 0
def tw8398921980141022017 := 0
def tw3368672089845093793 := 0
def tw15737268663554487899 := 0
def tw4009762781806893018 := 0
def tw5373744885776800069 := 0
def tw3877458630989958104 := 0
def tw7349226392614376776 := 0
def tw12933631459359166024 := 0
def tw3499205686626487920 := 0
def tw12714108428211765865 := 0
def tw13587810496200887396 := 0
end PySem.W.Fast
set_option maxRecDepth 100000 in
set_option maxHeartbeats 0 in
theorem PySem.Challenge.cw_hearsaybook_k31_letters_in_order_holds : PySem.Challenge.rw_hearsaybook_k31_letters_in_order.Holds := by
 w_on; o_law; k_head; (case hw=>w_witness2)
 k_fill
 refine K31.walk (l:=PySem.Challenge.rw_hearsaybook_k31_letters_in_order) rfl rfl (λ w h Y=>PySem.W.kIn_of Y) ?F
 case F =>
  intro w mg fa h KX G hmg
  refine' K31.all_mk KX G hmg ?acRoad ?pgRoad ?hdRoad ?poRoad ?saRoad ?mkRoad ?kcRoad ?naRoad0 ?naRoad1 ?naRoad2 ?naRoad3 ?naRoad4 ?a0 ?h0 ?a1 ?h1 ?a2 ?h2 ?a3 ?h3 ?a4 ?h4 ?a5 ?h5 ?a6 ?h6 ?a7 ?h7 ?a8 ?h8 ?a9 ?h9 ?a10 ?h10 ?a11 ?h11 ?a12 ?h12 ?a13 ?h13 ?a14 ?h14 ?a15 ?h15 ?a16 ?h16 ?a17 ?h17 ?a18 ?h18 ?a19 ?h19 ?a20 ?h20 ?a21 ?h21 ?a22 ?h22 ?a23 ?h23 ?a24 ?h24 ?a25 ?h25 ?a26 ?h26 ?a27 ?h27 ?a28 ?h28 ?a29 ?h29 ?a30 ?h30 ?a31 ?h31 ?a32 ?h32 ?a33 ?h33 ?a34 ?h34 ?a35 ?h35 ?a36 ?h36 ?a37 ?l37 ?c37 ?k37 ?a38 ?n38 ?h38 ?a39 ?n39 ?h39 ?glob0 ?glob1 ?glob2 ?glob3 ?z0 ?z1 ?z2 ?z3 ?z4 ?z5 ?z6 ?z7 ?z8
  (case acRoad=>k_is)
  (case pgRoad=>k_is)
  (case hdRoad=>k_is)
  (case poRoad=>k_is)
  (case saRoad=>k_is)
  (case mkRoad=>k_is)
  (case kcRoad=>k_is)
  (case naRoad0=>k_is)
  (case naRoad1=>k_is)
  (case naRoad2=>k_is)
  (case naRoad3=>k_is)
  (case naRoad4=>k_is)
  (case a0=>k_is)
  (case h0=>and_intros)
  (case a1=>k_is)
  (case h1=>and_intros)
  (case a2=>k_is)
  (case h2=>and_intros)
  (case a3=>k_is)
  (case h3=>and_intros)
  (case a4=>k_is)
  (case h4=>and_intros)
  (case a5=>k_is)
  (case h5=>and_intros)
  (case a6=>k_is)
  (case h6=>and_intros)
  (case a7=>k_is)
  (case h7=>and_intros)
  (case a8=>k_is)
  (case h8=>and_intros)
  (case a9=>k_is)
  (case h9=>and_intros)
  (case a10=>k_is)
  (case h10=>and_intros)
  (case a11=>k_is)
  (case h11=>and_intros)
  (case a12=>k_is)
  (case h12=>and_intros)
  (case a13=>k_is)
  (case h13=>and_intros)
  (case a14=>k_is)
  (case h14=>and_intros)
  (case a15=>k_is)
  (case h15=>and_intros)
  (case a16=>k_is)
  (case h16=>and_intros)
  (case a17=>k_is)
  (case h17=>and_intros)
  (case a18=>k_is)
  (case h18=>and_intros)
  (case a19=>k_is)
  (case h19=>and_intros)
  (case a20=>k_is)
  (case h20=>and_intros)
  (case a21=>k_is)
  (case h21=>and_intros)
  (case a22=>k_is)
  (case h22=>and_intros)
  (case a23=>k_is)
  (case h23=>and_intros)
  (case a24=>k_is)
  (case h24=>and_intros)
  (case a25=>k_is)
  (case h25=>and_intros)
  (case a26=>k_is)
  (case h26=>and_intros)
  (case a27=>k_is)
  (case h27=>and_intros)
  (case a28=>k_is)
  (case h28=>and_intros)
  (case a29=>k_is)
  (case h29=>and_intros)
  (case a30=>k_is)
  (case h30=>and_intros)
  (case a31=>k_is)
  (case h31=>and_intros)
  (case a32=>k_is)
  (case h32=>and_intros)
  (case a33=>k_is)
  (case h33=>and_intros)
  (case a34=>k_is)
  (case h34=>and_intros)
  (case a35=>k_is)
  (case h35=>and_intros)
  (case a36=>k_is)
  (case h36=>and_intros)
  (case a37=>k_is)
  (case l37=>k_is)
  (case c37=>k_is)
  (case k37=>k_is)
  (case a38=>k_is)
  (case n38=>k_is)
  (case h38=>and_intros)
  (case a39=>k_is)
  (case n39=>k_is)
  (case h39=>and_intros)
  (case glob0=>k_is)
  (case glob1=>k_is)
  (case glob2=>k_is)
  (case glob3=>k_is)
  (case z0=>k_is)
  (case z1=>k_is)
  (case z2=>k_is)
  (case z3=>k_is)
  (case z4=>k_is)
  (case z5=>k_is)
  (case z6=>k_is)
  (case z7=>k_is)
  (case z8=>k_is)
