import PyProof.Rows.All
import Wide.All
import OpenK.AllK
import Wide.FinOn
import Lean
import PyProof.EqAt
import PyProof.EqKinds
import PyProof.TupleCall
import PyProof.NeKinds
import PyProof.IsiPairs
import PyProof.EnumMake
import PyProof.Draws
import PyProof.CompFree
import PyProof.CompUse
import PyProof.ConsumeWalk
import PyProof.NeData
import PyProof.P3In
import PyProof.Rows.ReprR
import PyProof.ZipIter
import PyProof.MinMaxWalk
import PyProof.Rows.TupAdd
import PyProof.ListMulRoad
import PyProof.FactsAll.tuple_2
import PyProof.Rows.FStr
import PyProof.StrCalls2
import PyProof.Rows.StrWeight2
import PyProof.Rows.StrSplitJoin
import PyProof.Rows.TupIter
import PyProof.Rows.SortStr
import KE.KSortTup
import PyProof.Rows.SortWalkRead
import PyProof.ListRange
import PyProof.TupleOfGen
import PySem.Challenge.RW_hearsaybook_k91_whole_no_more_letters
set_option Elab.async false
set_option linter.all false
set_option maxRecDepth 100000
namespace L2
open PySem PySem.Spec PyProof.Rows
abbrev Key:=Sum Int Str
def ZQU:Key->Value->Bool
 | .inl k,v=>Value.isInt k v
 | .inr x,v=>Value.isStrOf x v
def keyH (w:World):Key->Int
 | .inl k=>hashInt k
 | .inr x=>hashStr w x
theorem ZAY:∀ {k:Key} {v:Value},ZQU k v=true->(∃ i t,k=Sum.inl i/\v=Value.int i t) ∨ (∃ x t,k=Sum.inr x/\v=Value.str x t)
 | .inl i,v,h=>by
  obtain ⟨t,e⟩:=Value.isInt_shape (k:=i) (v:=v) h
  exact .inl ⟨i,t,rfl,e⟩
 | .inr x,v,h=>by
  obtain ⟨t,e⟩:=Value.isStrOf_shape (x:=x) (v:=v) h
  exact .inr ⟨x,t,rfl,e⟩
theorem ZQs (a b:Int):decide ((Sum.inl a:Key)=Sum.inl b)=(a == b):=by
 by_cases e:a=b
 ·subst e; simp
 ·have h : ¬ (Sum.inl a:Key)=Sum.inl b:=λ q=>e (Sum.inl.inj q)
  rw [decide_eq_false h]
  exact (beq_eq_false_iff_ne.mpr e).symm
theorem ZRc (a b:Str):decide ((Sum.inr a:Key)=Sum.inr b)=decide (a=b):=by
 by_cases e:a=b
 ·subst e; simp
 ·have h : ¬ (Sum.inr a:Key)=Sum.inr b:=λ q=>e (Sum.inr.inj q)
  rw [decide_eq_false h,decide_eq_false e]
theorem ZRP (a:Int) (b:Str):decide ((Sum.inl a:Key)=Sum.inr b)=false:=decide_eq_false (λ q=>nomatch q)
theorem ZQ3 (a:Str) (b:Int):decide ((Sum.inr a:Key)=Sum.inl b)=false:=decide_eq_false (λ q=>nomatch q)
def ZK9 (prog:Program) (w:World):PySem.KeyKind prog w Key where
 is:=ZQU
 hash:=keyH w
 inj:=λ v a b ha hb=>by
  rcases ZAY ha with ⟨i,t,rfl,rfl⟩ | ⟨x,t,rfl,rfl⟩
  ·rcases ZAY hb with ⟨j,u,rfl,e⟩ | ⟨y,u,rfl,e⟩
   ·injection e with e1 _; rw [e1]
   ·exact nomatch e
  ·rcases ZAY hb with ⟨j,u,rfl,e⟩ | ⟨y,u,rfl,e⟩
   ·exact nomatch e
   ·injection e with e1 _; rw [e1]
 byValue:=λ k v h=>by
  rcases ZAY h with ⟨i,t,rfl,rfl⟩ | ⟨x,t,rfl,rfl⟩ <;> rfl
 pyHash:=λ hv h=>by
  rcases ZAY hv with ⟨i,t,rfl,rfl⟩ | ⟨x,t,rfl,rfl⟩
  ·exact wpAny_pyHash_int h
  ·exact wpAny_pyHash_str h
 eqBool:=λ hu hv h=>by
  rcases ZAY hu with ⟨i,t,rfl,rfl⟩ | ⟨x,t,rfl,rfl⟩
  ·rcases ZAY hv with ⟨j,u,rfl,rfl⟩ | ⟨y,u,rfl,rfl⟩
   ·rw [ZQs] at h; exact wpAny_eqBool_int h
   ·rw [ZRP] at h; exact SeqAt.EqAt.int_str i t y u _ _ _ _ h
  ·rcases ZAY hv with ⟨j,u,rfl,rfl⟩ | ⟨y,u,rfl,rfl⟩
   ·rw [ZQ3] at h; exact SeqAt.EqAt.str_int x t j u _ _ _ _ h
   ·rw [ZRc] at h; exact wpAny_eqBool_str h
 «strs»:=λ k x t v h=>by
  rcases ZAY h with ⟨i,u,rfl,e⟩ | ⟨y,u,rfl,e⟩
  ·exact nomatch e
  ·injection e with e1 _
   subst e1
   cases v <;> rfl
end L2
namespace L2
open PySem PySem.Spec PyProof.Rows
inductive V where
 | non | bl (b:Bool) | int (i:Int) | str (x:Str) | byt (b:Array UInt8) | flt (b:UInt64) | ref (a:Addr) | ty (n:String)
 deriving DecidableEq
def Z9:V->Value->Prop
 | .non,u=>u=Value.none
 | .bl b,u=>u=Value.bool b
 | .int i,u=>∃ t,u=Value.int i t
 | .str x,u=>∃ t,u=Value.str x t
 | .byt b,u=>∃ t,u=Value.bytes b t
 | .flt b,u=>∃ t,u=Value.float b t
 | .ref a,u=>u=Value.ref a
 | .ty n,u=>u=Value.type n
abbrev Zu:List V->List Value->Prop:=Paired Z9
theorem Zu.length {xs:List V} {us:List Value} (r:Zu xs us):xs.length=us.length:=Paired.length r
theorem Zu.get:∀ {xs:List V} {us:List Value} {i:Nat} {x:V},Zu xs us->xs[i]? = some x->∃ u,us[i]? = some u/\Z9 x u
 | _,_,_,_,.nil,e=>by simp at e
 | _,_,0,_,.cons r _,e=>by simp at e; subst e; exact ⟨_,rfl,r⟩
 | _,_,i+1,x,.cons _ t,e=>by
  obtain ⟨u,h1,h2⟩:=Zu.get (i:=i) (x:=x) t (by simpa using e)
  exact ⟨u,by simpa using h1,h2⟩
theorem Zu.set {x:V} {u:Value} (r:Z9 x u):∀ {xs:List V} {us:List Value} (i:Nat),Zu xs us->Zu (xs.set i x) (us.set i u)
 | _,_,_,.nil=>.nil
 | _,_,0,.cons _ t=>.cons r t
 | _,_,i+1,.cons q t=>.cons q (Zu.set r i t)
theorem Zu.append:∀ {xs ys:List V} {us ws:List Value},Zu xs us->Zu ys ws->Zu (xs ++ ys) (us ++ ws)
 | _,_,_,_,.nil,s=>s
 | _,_,_,_,.cons r t,s=>.cons r (Zu.append t s)
theorem Zu.take:∀ {xs:List V} {us:List Value} (n:Nat),Zu xs us->Zu (xs.take n) (us.take n)
 | _,_,0,_=>.nil
 | _,_,_+1,.nil=>.nil
 | _,_,n+1,.cons r t=>.cons r (Zu.take n t)
theorem Zu.drop:∀ {xs:List V} {us:List Value} (n:Nat),Zu xs us->Zu (xs.drop n) (us.drop n)
 | _,_,0,r=>r
 | _,_,_+1,.nil=>.nil
 | _,_,n+1,.cons _ t=>Zu.drop n t
def ZHH:Option V->Option Value->Prop
 | some v,some u=>Z9 v u
 | none,none=>True
 | _,_=>False
def KV {κ : Type}:List (κ × V)->List (κ × Value)->Prop:=Paired λ (p : κ × V) (q : κ × Value)=>p.1=q.1/\Z9 p.2 q.2
def kV:Key->V
 | .inl i=>.int i
 | .inr x=>.str x
inductive HO where
 /-- a list -/
 | lst (xs:List V)
 /-- a tuple (never changes) -/
 | tup (xs:List V)
 /-- a dict whose keys are ints and texts; one whose keys are tuples of ints and texts (the empty one is both) -/
 | dK (kvs:List (Key × V)) | dT (kvs:List (List Key × V))
 /-- a set of ints: its members,its size -/
 | set (S:Int->Bool) (n:Nat)
 /-- an instance of the class at C,its dict at dx,its attributes -/
 | ins (C dx:Addr) (fs:List (Str × V))
 /-- the dict of the instance at x -/
 | own (x:Addr)
 /-- the dict of an exception -/
 | xd (fs:List (Str × V))
 /-- a bound method,f of x -/
 | met (f x:Addr)
 /-- a range object lo,lo+1,.. below hi -/
 | rng (lo hi:Int)
 /-- a thing that is known to the object (the script; a dict while a loop walks it): read,never written while it is so -/
 | frz (o:Obj) (u:HO)
 /-- a code object's table -/
 | tbl (ps:Array Value)
 /-- any other thing,by what is true of its one object (a def of one's own: SetO a S n:=HO.ext λ h=>..) -/
 | ext (φ : Heap->Prop)
abbrev Hp:=Addr->Option HO
def upd (H:Hp) (a:Addr) (o:HO):Hp:=λ b=>if b=a then some o else H b
theorem Zt {H:Hp} {a:Addr} {o:HO}:upd H a o a=some o:=by unfold upd; rw [if_pos rfl]
theorem Zb {H:Hp} {a b:Addr} {o:HO} (h:b ≠ a):upd H a o b=H b:=by unfold upd; rw [if_neg h]
theorem Zl {H:Hp} {a b:Addr} {o:HO} (h:H a=some o) (h':H b=none):a ≠ b:=by
 intro e; subst e; rw [h] at h'; cases h'
section
variable (P:Program) (w:World)
def ZB7 (H:Hp) (h:Heap) (a:Addr):HO->Prop
 | .lst xs=>xs.length<=sizeLine/\∃ (its:List Value) (n:Nat),Zu xs its/\h.get? a=some { cls:=.type "list",data:=.seq its.toArray n }
 | .tup xs=>xs.length<=sizeLine/\∃ its:List Value,Zu xs its/\IsTup h a its.toArray
 | .dK kvs=>kvs.length<=sizeLine/\(a == sysModules)=false/\∃ vs,KV kvs vs/\h.DictOf (ZK9 P w) a vs
 | .dT kvs=>kvs.length<=sizeLine/\(a == sysModules)=false/\∃ xs:List (List Key × Addr × Value),
   Paired (λ (p:List Key × V) (q:List Key × Addr × Value)=>p.1=q.1/\H q.2.1=some (.tup (p.1.map kV))/\Z9 p.2 q.2.2) kvs xs /\
   ∃ o es ep,h.get? a=some o/\o.ExactDict/\o.data=.dict es ep/\es.toList=xs.map (entryOfKey (tupleKind (ZK9 P w)))/\(xs.map (·.1)).Nodup
 | .set S n=>h.SetOf (intKind P w) a S n
 | .ins C dx fs=>H dx=some (.own a)/\fs.length<=1000/\dx ≠ a/\h.get? a=some (PySem.W.instObj C dx) /\
   ∃ mA,h.Ns1 dx mA/\(∀ f,ZHH (fs.lookup f) (mA f))/\PySem.Within mA (fs.map (·.1))
 | .own _=>∃ o,h.get? a=some o
 | .xd fs=>∃ mA,h.Ns1 a mA/\∀ f,ZHH (fs.lookup f) (mA f)
 | .rng lo hi=>∃ t u v,h.get? a=some { cls:=.type "range",data:=.fields #[.int lo t,.int hi u,.int 1 v] }
 | .frz o u=>h.get? a=some o/\ZB7 H h a u
 | .tbl ps=>h.get? a=some { cls:=.none,data:=.fields ps }
 | .met f x=>h.get? a=some (PySem.W.methodObj (.ref f) (.ref x))
 | .ext φ=>φ h/\(∃ o,h.get? a=some o)/\∀ h1 h2:Heap,φ h1->(∀ o,h1.get? a=some o->h2.get? a=some o)->φ h2
def HOk (H:Hp) (h:Heap):Prop:=∀ a o,H a=some o->ZB7 P w H h a o
end
section
variable {P:Program} {w:World} {H H':Hp} {h h':Heap} {a:Addr} {o:HO}
theorem ZB7.lt (x:ZB7 P w H h a o):a < h.objs.size:=by
 cases o with
 | lst xs=>obtain ⟨_,_,_,_,e⟩:=x; exact Heap.lt_size e
 | tup xs=>obtain ⟨_,_,_,p⟩:=x; exact p.lt
 | dK kvs=>obtain ⟨_,_,_,_,o,_,_,e,_⟩:=x; exact Heap.lt_size e
 | dT kvs=>obtain ⟨_,_,_,_,o,_,_,e,_⟩:=x; exact Heap.lt_size e
 | set S n=>obtain ⟨o,_,_,_,e,_⟩:=x; exact Heap.lt_size e
 | ins C dx fs=>obtain ⟨_,_,_,e,_⟩:=x; exact Heap.lt_size e
 | own y=>obtain ⟨_,e⟩:=x; exact Heap.lt_size e
 | xd fs=>obtain ⟨_,⟨_,_,_,e,_⟩,_⟩:=x; exact Heap.lt_size e
 | rng lo hi=>obtain ⟨_,_,_,e⟩:=x; exact Heap.lt_size e
 | frz ob u=>obtain ⟨e,_⟩:=x; exact Heap.lt_size e
 | tbl ps=>exact Heap.lt_size (show h.get? a=some _ from x)
 | met f y=>exact Heap.lt_size (show h.get? a=some _ from x)
 | ext φ=>obtain ⟨_,⟨_,e⟩,_⟩:=x; exact Heap.lt_size e
theorem Paired.mapP {α β : Type} {F G : α->β->Prop}:∀ {l₁ : List α} {l₂ : List β},Paired F l₁ l₂->(∀ a b,F a b->G a b)->Paired G l₁ l₂
 | _,_,.nil,_=>.nil
 | _,_,.cons r t,f=>.cons (f _ _ r) (Paired.mapP t f)
theorem ZB7.stay (x:ZB7 P w H h a o) (k:∀ b u,(b=a ∨ H b=some (.own a))->h.get? b=some u->h'.get? b=some u)
  (ho:∀ b,H b=some (.own a)->H' b=some (.own a)) (ht:∀ b xs,H b=some (.tup xs)->H' b=some (.tup xs)):ZB7 P w H' h' a o:=by
 induction o with
 | lst xs=>obtain ⟨z,its,n,r,e⟩:=x; exact ⟨z,its,n,r,k _ _ (.inl rfl) e⟩
 | tup xs=>obtain ⟨z,its,r,ob,e,c⟩:=x; exact ⟨z,its,r,ob,k _ _ (.inl rfl) e,c⟩
 | dK kvs=>obtain ⟨z,y,vs,r,ob,es,ep,e,c⟩:=x; exact ⟨z,y,vs,r,ob,es,ep,k _ _ (.inl rfl) e,c⟩
 | dT kvs =>
  obtain ⟨z,y,xs,r,ob,es,ep,e,c⟩:=x
  exact ⟨z,y,xs,Paired.mapP r λ p q z=>⟨z.1,ht _ _ z.2.1,z.2.2⟩,ob,es,ep,k _ _ (.inl rfl) e,c⟩
 | set S n=>obtain ⟨ob,es,ep,t,e,c⟩:=x; exact ⟨ob,es,ep,t,k _ _ (.inl rfl) e,c⟩
 | ins C dx fs =>
  obtain ⟨d,z,ne,e,mA,⟨od,es,ep,e2,c⟩,r⟩:=x
  exact ⟨ho _ d,z,ne,k _ _ (.inl rfl) e,mA,⟨od,es,ep,k _ _ (.inr d) e2,c⟩,r⟩
 | own y=>obtain ⟨ob,e⟩:=x; exact ⟨ob,k _ _ (.inl rfl) e⟩
 | xd fs=>obtain ⟨mA,⟨od,es,ep,e,c⟩,r⟩:=x; exact ⟨mA,⟨od,es,ep,k _ _ (.inl rfl) e,c⟩,r⟩
 | rng lo hi=>obtain ⟨t,u,v,e⟩:=x; exact ⟨t,u,v,k _ _ (.inl rfl) e⟩
 | frz ob u ih=>obtain ⟨e,q⟩:=x; exact ⟨k _ _ (.inl rfl) e,ih q⟩
 | tbl ps =>
  have e:h.get? a=some { cls:=.none,data:=.fields ps }:=x
  show h'.get? a=some { cls:=.none,data:=.fields ps }
  exact k a _ (.inl rfl) e
 | met f y =>
  have e:h.get? a=some (PySem.W.methodObj (.ref f) (.ref y)):=x
  show h'.get? a=some (PySem.W.methodObj (.ref f) (.ref y))
  exact k a _ (.inl rfl) e
 | ext φ=>obtain ⟨p,⟨o,e⟩,st⟩:=x; exact ⟨st _ _ p λ o q=>k _ _ (.inl rfl) q,⟨o,k _ _ (.inl rfl) e⟩,st⟩
theorem HOk.lt (x:HOk P w H h) (e:H a=some o):a < h.objs.size:=(x a o e).lt
theorem HOk.fresh (x:HOk P w H h) (e:h.objs.size<=a):H a=none:=by
 cases q:H a with
 | none=>rfl
 | some u=>exact absurd (Nat.lt_of_lt_of_le (x.lt q) e) (Nat.lt_irrefl _)
theorem HOk.kept (x:HOk P w H h) (k:∀ b u,h.get? b=some u->h'.get? b=some u):HOk P w H h':=λ a o e =>
 (x a o e).stay (λ b u _ q=>k b u q) (λ _ q=>q) λ _ _ q=>q
theorem HOk.laid (x:HOk P w H h) (k:∀ b u,h.get? b=some u->h'.get? b=some u) (hp:h.objs.size<=a) (new:ZB7 P w (upd H a o) h' a o):HOk P w (upd H a o) h':=λ b u e=>by
 have hn:=x.fresh hp
 by_cases hb:b=a
 ·subst hb; rw [Zt] at e; cases e; exact new
 ·rw [Zb hb] at e
  exact (x b u e).stay (λ c v _ q=>k c v q) (λ c q=>by rw [Zb (Zl q hn)]; exact q) λ c xs q=>by rw [Zb (Zl q hn)]; exact q
end
def Rd (H:Hp) (a:Addr) (u:HO):Prop:=H a=some u ∨ ∃ o,H a=some (.frz o u)
theorem Rd.ok {P:Program} {w:World} {H:Hp} {h:Heap} {a:Addr} {u:HO} (r:Rd H a u) (x:HOk P w H h):ZB7 P w H h a u:=by
 rcases r with r | ⟨o,r⟩
 ·exact x a u r
 ·obtain ⟨_,q⟩:=x a _ r
  exact q
def Mut:Option HO->Prop
 | some (.lst _)=>True
 | some (.dK _)=>True
 | some (.dT _)=>True
 | some (.set _ _)=>True
 | some (.ins _ _ _)=>True
 | some (.ext _)=>True
 | _=>False
section
variable {P:Program} {w:World} {H:Hp} {h h':Heap} {x e:Addr} {o':HO}
theorem HOk.write (ok:HOk P w H h) (mu:Mut (H x)) (he:e=x ∨ H e=some (.own x)) (k:∀ b u,b ≠ e->h.get? b=some u->h'.get? b=some u) (heo:∃ u,h'.get? e=some u)
  (new:ZB7 P w (upd H x o') h' x o'):HOk P w (upd H x o') h':=λ b u q=>by
 have nown:∀ c y,H c=some (.own y)->c ≠ x:=λ c y r z=>by subst z; rw [r] at mu; exact mu
 have ntup:∀ c xs,H c=some (.tup xs)->c ≠ x:=λ c xs r z=>by subst z; rw [r] at mu; exact mu
 by_cases hb:b=x
 ·subst hb; rw [Zt] at q; cases q; exact new
 ·rw [Zb hb] at q
  by_cases hbe:b=e
  ·have q':H b=some (.own x):=by
    rcases he with z | z
    ·exact absurd (hbe.trans z) hb
    ·rw [hbe]; exact z
   rw [q] at q'; cases q'
   obtain ⟨v,hv⟩:=heo
   exact ⟨v,by rw [hbe]; exact hv⟩
  ·refine (ok b u q).stay (λ c v hc r=>k c v ?_ r) (λ c r=>by rw [Zb (nown c b r)]; exact r) λ c xs r=>by rw [Zb (ntup c xs r)]; exact r
   rcases hc with rfl | hc
   ·exact hbe
   ·rintro rfl
    rcases he with z | z
    ·exact nown c b hc z
    ·rw [hc] at z; cases z; exact hb rfl
end
structure Un (fs ex:List Addr) (H H':Hp) (h h':Heap):Prop where
 keep:∀ b o,h.get? b=some o->H b=none->b ∉ fs->b ∉ ex->h'.get? b=some o
 slot:∀ b o,h.get? b=some o->H b=none->b ∈ fs->b ∉ ex->∃ sl,h'.get? b=some { o with slots:=sl }
 free:∀ b o,h.get? b=some o->H b=none->b ∉ ex->H' b=none
 there:∀ b o,h.get? b=some o->b ∉ ex->∃ o',h'.get? b=some o'
 tups:∀ b xs,H b=some (.tup xs)->H' b=some (.tup xs)
 frzs:∀ b o u,H b=some (.frz o u)->H' b=some (.frz o u)
 tbls:∀ b ps,H b=some (.tbl ps)->∃ more,H' b=some (.tbl (ps ++ more))
section
variable {fs fs' ex ex':List Addr} {H H1 H2:Hp} {h h1 h2 h':Heap} {a x e:Addr} {o:HO}
theorem Un.any (u:Un fs ex H H1 h h1) {b:Addr} {ob:Obj} (q:h.get? b=some ob) (n:H b=none) (hx:b ∉ ex):∃ sl,h1.get? b=some { ob with slots:=sl }:=by
 by_cases hb:b ∈ fs
 ·exact u.slot b ob q n hb hx
 ·exact ⟨ob.slots,u.keep b ob q n hb hx⟩
theorem Un.kept (k:∀ b u,h.get? b=some u->h'.get? b=some u):Un fs ex H H h h' :=
 ⟨λ b ob q _ _ _=>k b ob q,λ b ob q _ _ _=>⟨ob.slots,k b ob q⟩,λ _ _ _ n _=>n,λ b ob q _=>⟨ob,k b ob q⟩,λ _ _ q=>q,λ _ _ _ q=>q,λ _ ps q=>⟨#[],by rw [q]; simp⟩⟩
theorem Un.refl:Un fs ex H H h h:=Un.kept λ _ _ q=>q
theorem Un.laid (k:∀ b u,h.get? b=some u->h'.get? b=some u) (hp:h.objs.size<=a) (hn:H a=none):Un fs ex H (upd H a o) h h' where
 keep:=λ b u q _ _ _=>k b u q
 slot:=λ b u q _ _ _=>⟨u.slots,k b u q⟩
 free:=λ b u q n _=>by rw [Zb (Nat.ne_of_lt (Nat.lt_of_lt_of_le (Heap.lt_size q) hp))]; exact n
 there:=λ b u q _=>⟨u,k b u q⟩
 tups:=λ b xs q=>by rw [Zb (Zl q hn)]; exact q
 frzs:=λ b u xs q=>by rw [Zb (Zl q hn)]; exact q
 tbls:=λ b ps q=>⟨#[],by rw [Zb (Zl q hn),q]; simp⟩
theorem Un.write (mu:Mut (H x)) (he:e=x ∨ H e=some (.own x)) (k:∀ b u,b ≠ e->h.get? b=some u->h'.get? b=some u) (heo:∃ u,h'.get? e=some u):Un fs ex H (upd H x o) h h':=by
 have hx:∀ b,H b=none->b ≠ x:=λ b n z=>by subst z; rw [n] at mu; exact mu
 have hb:∀ b,H b=none->b ≠ e:=λ b n z=>by
  subst z
  rcases he with r | r
  ·exact hx b n r
  ·rw [n] at r; cases r
 have hm:∀ b u,H b=some u->¬ Mut (some u)->b ≠ x:=λ b u q nm z=>by subst z; rw [q] at mu; exact nm mu
 refine ⟨λ b u q n _ _=>k b u (hb b n) q,λ b u q n _ _=>⟨u.slots,k b u (hb b n) q⟩,λ b u q n _=>by rw [Zb (hx b n)]; exact n,λ b u q _=>?_,
  λ b xs q=>by rw [Zb (hm b _ q λ z=>z)]; exact q,λ b u xs q=>by rw [Zb (hm b _ q λ z=>z)]; exact q,λ b ps q=>⟨#[],by rw [Zb (hm b _ q λ z=>z),q]; simp⟩⟩
 by_cases hbe:b=e
 ·subst hbe; exact heo
 ·exact ⟨u,k b u hbe q⟩
end
def trk (h:Heap) (H:Hp):List Addr:=(List.range h.objs.size).filter λ a=>(H a).isSome
def ZIC (h:Heap) (H:Hp):Heap:=PySem.W.hideAll h (trk h H)
theorem ZMD (h:Heap) (H:Hp):(ZIC h H).objs.size=h.objs.size:=PySem.W.hideAll_size _ _
theorem ZNi {h:Heap} {H:Hp} {b:Addr} {o:Obj} (e:h.get? b=some o) (n:H b=none):(ZIC h H).get? b=some o :=
 PySem.W.hideAll_get _ e λ hm=>by
  have q:(H b).isSome=true:=(List.mem_filter.mp hm).2
  rw [n] at q; simp at q
theorem ZPX {h:Heap} {H:Hp} {b:Addr} {o:Obj} (e:(ZIC h H).get? b=some o):h.get? b=some o/\H b=none:=by
 have e':h.get? b=some o:=PySem.W.of_hideAll (trk h H) e
 refine ⟨e',?_⟩
 cases q:H b with
 | none=>rfl
 | some x =>
  have hm:b ∈ trk h H:=List.mem_filter.mpr ⟨List.mem_range.mpr (Heap.lt_size e'),by simp [q]⟩
  have z:(ZIC h H).get? b=none:=PySem.W.hideAll_none (trk h H) hm
  rw [z] at e; cases e
end L2
namespace L2
open PySem PySem.Spec PyProof.Rows
structure Mod (K:PySem.W.Frag) (mg:Str->Option Value) (base:Heap):Prop where
 kin:K.In base
 glob:base.Ns mainGlobals mg
 blt:∃ mb,base.Ns builtinsNs mb/\∀ x:Str,x ≠ "__name__"->mb x=bootBuiltins x
 nolimit:base.NoLimit
structure Cx where
 prog:Program
 w:World
 K:PySem.W.Frag
 mg:Str->Option Value
 base:Heap
 A:Around
 N:List Str
 s₀ : Shared
 H₀ : Hp
 env:Env
 outer:List Env
 stack:List Env
 ex:List Addr
 fn:Str->Bool
 calm:Bool
 pn:List (Addr × Obj)
 xe:Value->Shared->Prop
def frs (l:List Env):List Addr:=l.filterMap (·.frame)
abbrev Cx.fs (X:Cx):List Addr:=frs X.outer
def Vis (sc:Scope) (x:Str):Prop:=sc.names.lookup x=some .local ∨ sc.names.lookup x=some .cell ∨ sc.names.lookup x=some .free
def Loc (sc:Scope) (x:Str):Prop:=sc.names.lookup x=some .local ∨ sc.names.lookup x=some .cell
def Look (env:Env) (h:Heap) (m:Str->Option Value) (x:Str) (u:Value):Prop :=
 (env.kindOf x=some .local/\m x=some u) ∨ ((env.kindOf x=some .cell ∨ env.kindOf x=some .free)/\∃ c,env.cells.lookup x=some c/\h.IsCell c (some u))
structure Cx.Ok (X:Cx):Prop where
 mod:Mod X.K X.mg X.base
 kind:X.env.scope.kind=.function
 glob:X.env.globals=mainGlobals
 blt:X.env.builtins=builtinsNs
 above:X.s₀.heap.objs.size<=X.env.locals
 inj:∀ x y c,X.env.cells.lookup x=some c->X.env.cells.lookup y=some c->x=y
 has:∀ x,(X.env.kindOf x=some .cell ∨ X.env.kindOf x=some .free)->∃ c,X.env.cells.lookup x=some c
 cab:∀ x c,X.fn x=true->X.env.cells.lookup x=some c->X.s₀.heap.objs.size<=c
 hd:X.calm=true->X.A.handled=none
 frames:X.A.frames=some X.stack
 stk:X.stack=X.outer ∨ (X.stack=X.env :: X.outer/\X.env.frame=some X.env.locals)
 exf:∀ b ∈ X.ex,b ≠ X.env.locals/\∀ x c,X.env.cells.lookup x=some c->c ≠ b
 bs:∀ b o,X.base.get? b=some o->X.s₀.heap.get? b=some o/\X.H₀ b=none
 bsz:X.base.objs.size<=X.s₀.heap.objs.size
 noex:∀ b o,X.base.get? b=some o->b ∉ X.ex
 exfs:∀ b ∈ X.ex,b ∉ X.fs
 funs:X.s₀.heap.FunFrames X.base X.outer
 frf:∀ b ∈ X.fs,X.H₀ b=none
structure Inv (X:Cx) (pins:List (Addr × Obj)) (σ : List (Option V)) (H:Hp) (s:Shared):Prop where
 ok:X.Ok
 os:s.os=X.s₀.os
 bare:AllBare s.gens
 base:Un X.fs X.ex X.H₀ H X.s₀.heap s.heap
 loc:∃ m,s.heap.Ns X.env.locals m/\∀ (i:Nat) (x:Str) (v:V),X.N[i]? = some x->σ[i]? = some (some v)->Vis X.env.scope x->∃ u,Z9 v u/\Look X.env s.heap m x u
 cell:∀ x c,X.env.cells.lookup x=some c->∃ v,s.heap.IsCell c v
 free:H X.env.locals=none
 freeC:∀ x c,X.env.cells.lookup x=some c->H c=none
 pin:∀ p ∈ X.pn ++ pins,s.heap.get? p.1=some p.2/\H p.1=none/\p.1 ≠ X.env.locals/\p.1 ∉ X.fs/\∀ v,p.2.data ≠ .cell v
 hok:HOk X.prog X.w H s.heap
 len : σ.length=X.N.length
section
variable {X:Cx} {pins:List (Addr × Obj)} {σ : List (Option V)} {H H':Hp} {s:Shared} {h':Heap}
theorem Cx.Ok.nofr (ok:X.Ok) {b:Addr} {o:Obj} (e:X.base.get? b=some o):b ∉ X.fs:=λ hb=>by
 have:=(ok.funs.mem hb).1
 rw [e] at this; cases this
theorem Inv.bs (I:Inv X pins σ H s):∀ b o,X.base.get? b=some o->s.heap.get? b=some o/\H b=none:=λ b o e =>
 ⟨I.base.keep b o (I.ok.bs b o e).1 (I.ok.bs b o e).2 (I.ok.nofr e) (I.ok.noex b o e),I.base.free b o (I.ok.bs b o e).1 (I.ok.bs b o e).2 (I.ok.noex b o e)⟩
theorem Inv.bk (I:Inv X pins σ H s):∀ b o,X.base.get? b=some o->s.heap.get? b=some o:=λ b o e=>(I.bs b o e).1
theorem Inv.mod (I:Inv X pins σ H s):Mod X.K X.mg X.base:=I.ok.mod
theorem Inv.kIn (I:Inv X pins σ H s):X.K.In s.heap:=I.ok.mod.kin.keeps I.bk
theorem Inv.lt (I:Inv X pins σ H s):X.env.locals < s.heap.objs.size:=let ⟨_,hn,_⟩:=I.loc; hn.lt
theorem Inv.sz (I:Inv X pins σ H s):X.s₀.heap.objs.size<=s.heap.objs.size:=Nat.le_trans I.ok.above (Nat.le_of_lt I.lt)
theorem Inv.nofs (I:Inv X pins σ H s) {a:Addr} (h:s.heap.objs.size<=a):a ∉ X.fs:=λ hb=>by
 obtain ⟨_,o,ho,_⟩:=I.ok.funs.mem hb
 exact absurd (Nat.lt_of_lt_of_le (Heap.lt_size ho) (Nat.le_trans I.sz h)) (Nat.lt_irrefl _)
theorem Inv.cne (I:Inv X pins σ H s):∀ x c,X.env.cells.lookup x=some c->c ≠ X.env.locals:=λ x c e z=>by
 obtain ⟨v,o,ho,hd⟩:=I.cell x c e
 obtain ⟨m,⟨o',es,ep,ho',hd',_⟩,_⟩:=I.loc
 rw [z,ho'] at ho; cases ho; rw [hd'] at hd; cases hd
theorem Inv.funs (I:Inv X pins σ H s):s.heap.FunFrames X.base X.outer:=by
 have all:∀ (l:List Env),(∀ b ∈ frs l,b ∈ X.fs)->X.s₀.heap.FunFrames X.base l->s.heap.FunFrames X.base l:=by
  intro l
  induction l with
  | nil=>intro _ _; trivial
  | cons env r ih =>
   intro hs hl
   obtain ⟨hk,⟨L,o,hf,hn,ho,hd⟩,hr⟩:=hl
   have hL:L ∈ X.fs:=hs L (by unfold frs; rw [List.filterMap_cons,hf]; exact List.mem_cons_self)
   obtain ⟨sl,e⟩:=I.base.slot L o ho (I.ok.frf L hL) hL λ z=>I.ok.exfs L z hL
   exact ⟨hk,⟨L,_,hf,hn,e,hd⟩,ih (λ b hb=>hs b (by unfold frs; rw [List.filterMap_cons,hf]; exact List.mem_cons_of_mem _ hb)) hr⟩
 exact all X.outer (λ _ hb=>hb) I.ok.funs
theorem Inv.stack (I:Inv X pins σ H s):s.heap.FunFrames X.base X.stack:=by
 rcases I.ok.stk with e | ⟨e,hf⟩
 ·rw [e]; exact I.funs
 ·rw [e]
  obtain ⟨m,hn,_⟩:=I.loc
  refine .cons (by rw [I.ok.kind]; decide) hf hn ?_ I.funs
  exact Heap.get?_none_of_le (Nat.le_trans I.ok.bsz I.ok.above)
theorem Inv.stkSub (I:Inv X pins σ H s):∀ b ∈ frs X.stack,b ∈ X.env.locals :: X.fs:=λ b hb=>by
 rcases I.ok.stk with e | ⟨e,hf⟩
 ·rw [e] at hb; exact List.mem_cons_of_mem _ hb
 ·rw [e] at hb
  unfold frs at hb
  rw [List.filterMap_cons,hf] at hb
  exact hb
theorem Inv.stkFree (I:Inv X pins σ H s):∀ b ∈ frs X.stack,H b=none:=λ b hb=>by
 rcases List.mem_cons.mp (I.stkSub b hb) with e | hb
 ·rw [e]; exact I.free
 ·obtain ⟨_,o,ho,_⟩:=I.ok.funs.mem hb
  exact I.base.free b o ho (I.ok.frf b hb) λ z=>I.ok.exfs b z hb
theorem Inv.step {g':Array GenState} {t':Nat} {d':Drawn} {ch:List Addr} (I:Inv X pins σ H s)
  (hch:∀ b ∈ ch,(b ∈ X.ex ∨ X.s₀.heap.objs.size<=b)/\b ≠ X.env.locals/\(∀ x c,X.env.cells.lookup x=some c->c ≠ b)/\∀ p ∈ X.pn ++ pins,p.1 ≠ b)
  (keep:∀ b o,b ≠ X.env.locals->b ∉ X.fs->b ∉ ch->s.heap.get? b=some o->H b=none->h'.get? b=some o)
  (slot:∀ b o,b ≠ X.env.locals->b ∈ X.fs->b ∉ ch->s.heap.get? b=some o->H b=none->∃ sl,h'.get? b=some { o with slots:=sl }) (free:∀ b o,b ∉ ch->s.heap.get? b=some o->H b=none->H' b=none)
  (there:∀ b o,b ∉ ch->s.heap.get? b=some o->∃ o',h'.get? b=some o')
  (tups:∀ b xs,H b=some (.tup xs)->H' b=some (.tup xs)) (frzs:∀ b o u,H b=some (.frz o u)->H' b=some (.frz o u)) (tbls:∀ b ps,H b=some (.tbl ps)->∃ more,H' b=some (.tbl (ps ++ more)))
  (ns:∀ m,s.heap.Ns X.env.locals m->h'.Ns X.env.locals m) (hok:HOk X.prog X.w H' h') (hg:AllBare g') :
  Inv X pins σ H' { s with heap:=h',gens:=g',drawn:=d',toks:=t' }:=by
 have neL:∀ b o,X.s₀.heap.get? b=some o->b ≠ X.env.locals:=λ b o e=>Nat.ne_of_lt (Nat.lt_of_lt_of_le (Heap.lt_size e) I.ok.above)
 have neC:∀ b o,X.s₀.heap.get? b=some o->b ∉ X.ex->b ∉ ch:=λ b o e hx hb=>by
  rcases (hch b hb).1 with z | z
  ·exact hx z
  ·exact absurd (Nat.lt_of_lt_of_le (Heap.lt_size e) z) (Nat.lt_irrefl _)
 have cellK:∀ x c,X.env.cells.lookup x=some c->∀ v,s.heap.IsCell c v->h'.IsCell c v:=λ x c e v ⟨o,ho,hd⟩=>by
  have nch:c ∉ ch:=λ z=>(hch c z).2.2.1 x c e rfl
  by_cases hc:c ∈ X.fs
  ·obtain ⟨sl,q⟩:=slot c o (I.cne x c e) hc nch ho (I.freeC x c e)
   exact ⟨_,q,hd⟩
  ·exact ⟨o,keep c o (I.cne x c e) hc nch ho (I.freeC x c e),hd⟩
 refine ⟨I.ok,I.os,hg,⟨λ b o e n hb hx=>?_,λ b o e n hb hx=>?_,λ b o e n hx=>?_,λ b o e hx=>?_,λ b xs e=>tups b xs (I.base.tups b xs e),λ b o xs e=>frzs b o xs (I.base.frzs b o xs e),λ b ps e=>?_⟩,?_,λ x c e=>?_,?_,λ x c e=>?_,λ p hp=>?_,hok,I.len⟩
 ·exact keep b o (neL b o e) hb (neC b o e hx) (I.base.keep b o e n hb hx) (I.base.free b o e n hx)
 ·obtain ⟨sl,e1⟩:=I.base.slot b o e n hb hx
  obtain ⟨sl',e2⟩:=slot b _ (neL b o e) hb (neC b o e hx) e1 (I.base.free b o e n hx)
  exact ⟨sl',e2⟩
 ·obtain ⟨o',e1⟩:=I.base.there b o e hx
  exact free b o' (neC b o e hx) e1 (I.base.free b o e n hx)
 ·obtain ⟨o',e1⟩:=I.base.there b o e hx
  exact there b o' (neC b o e hx) e1
 ·obtain ⟨m1,e1⟩:=I.base.tbls b ps e
  obtain ⟨m2,e2⟩:=tbls b _ e1
  exact ⟨m1 ++ m2,by rw [e2,Array.append_assoc]⟩
 ·obtain ⟨m,hn,hl⟩:=I.loc
  refine ⟨m,ns m hn,λ i x v e1 e2 e3=>?_⟩
  obtain ⟨u,r,l⟩:=hl i x v e1 e2 e3
  refine ⟨u,r,?_⟩
  rcases l with l | ⟨k,c,e,z⟩
  ·exact .inl l
  ·exact .inr ⟨k,c,e,cellK x c e _ z⟩
 ·obtain ⟨v,z⟩:=I.cell x c e
  exact ⟨v,cellK x c e v z⟩
 ·obtain ⟨m,⟨o,_,_,ho,_⟩,_⟩:=I.loc
  exact free _ o (λ z=>(hch _ z).2.1 rfl) ho I.free
 ·obtain ⟨v,o,ho,hd⟩:=I.cell x c e
  exact free c o (λ z=>(hch c z).2.2.1 x c e rfl) ho (I.freeC x c e)
 ·obtain ⟨e,n,ne,nf,d⟩:=I.pin p hp
  have nch:p.1 ∉ ch:=λ z=>(hch p.1 z).2.2.2 p hp rfl
  exact ⟨keep p.1 p.2 ne nf nch e n,free p.1 p.2 nch e n,ne,nf,d⟩
theorem Inv.un {t':Nat} (I:Inv X pins σ H s) (u:Un X.fs [] H H' s.heap h') (hok:HOk X.prog X.w H' h'):Inv X pins σ H' { s with heap:=h',toks:=t' }:=by
 obtain ⟨m,⟨o,es,ep,ho,r⟩,_⟩:=id I.loc
 obtain ⟨sl,hL⟩:=u.any ho I.free (by simp)
 exact I.step (g':=s.gens) (d':=s.drawn) (ch:=[]) (λ _ z=>nomatch z) (λ b o _ hb _ e n=>u.keep b o e n hb (by simp)) (λ b o _ hb _ e n=>u.slot b o e n hb (by simp)) (λ b o _ e n=>u.free b o e n (by simp)) (λ b o _ e=>u.there b o e (by simp)) u.tups u.frzs u.tbls (λ m' hm=>by
  obtain ⟨o',es',ep',ho',r'⟩:=hm
  rw [ho] at ho'; cases ho'
  exact ⟨_,es',ep',hL,r'⟩) hok I.bare
theorem Inv.call {g':Array GenState} {t':Nat} {d':Drawn} {ch:List Addr} (I:Inv X pins σ H s) (u:Un (frs X.stack) ch H H' s.heap h') (hok:HOk X.prog X.w H' h') (hg:AllBare g')
  (hch:∀ b ∈ ch,(b ∈ X.ex ∨ X.s₀.heap.objs.size<=b)/\b ≠ X.env.locals/\(∀ x c,X.env.cells.lookup x=some c->c ≠ b)/\∀ p ∈ X.pn ++ pins,p.1 ≠ b) :
  Inv X pins σ H' { s with heap:=h',gens:=g',drawn:=d',toks:=t' }:=by
 obtain ⟨m,⟨o,es,ep,ho,r⟩,_⟩:=id I.loc
 obtain ⟨sl,hL⟩:=u.any ho I.free λ z=>(hch _ z).2.1 rfl
 exact I.step (ch:=ch) hch (λ b o hL hb hc e n=>u.keep b o e n (λ z=>(List.mem_cons.mp (I.stkSub b z)).elim hL hb) hc) (λ b o _ _ hc e n=>u.any e n hc) (λ b o hc e n=>u.free b o e n hc) (λ b o hc e=>u.there b o e hc) u.tups u.frzs u.tbls (λ m' hm=>by
  obtain ⟨o',es',ep',ho',r'⟩:=hm
  rw [ho] at ho'; cases ho'
  exact ⟨_,es',ep',hL,r'⟩) hok hg
theorem Inv.turned {t':Nat} {it:Addr} (I:Inv X pins σ H s) (k:∀ b o,b ≠ it->s.heap.get? b=some o->h'.get? b=some o) (hn:H it=none) (hL:it ≠ X.env.locals)
  (h1:it ∈ X.ex ∨ X.s₀.heap.objs.size<=it) (h2:∀ x c,X.env.cells.lookup x=some c->c ≠ it) (h3:∀ p ∈ X.pn ++ pins,p.1 ≠ it):Inv X pins σ H { s with heap:=h',toks:=t' }:=by
 have nit:∀ b u,H b=some u->b ≠ it:=λ b u e z=>by rw [z,hn] at e; cases e
 refine I.step (g':=s.gens) (d':=s.drawn) (ch:=[it]) (λ b hb=>?_) (λ b o _ _ hc e _=>k b o (λ z=>hc (by simp [z])) e) (λ b o _ _ hc e _=>⟨o.slots,k b o (λ z=>hc (by simp [z])) e⟩) (λ _ _ _ _ n=>n)
  (λ b o hc e=>⟨o,k b o (λ z=>hc (by simp [z])) e⟩) (λ _ _ e=>e) (λ _ _ _ e=>e) (λ b ps e=>⟨#[],by rw [e]; simp⟩) (λ m hm=>?_) (λ b u e=>?_) I.bare
 ·have e:b=it:=by simpa using hb
  subst e
  exact ⟨h1,hL,h2,h3⟩
 ·obtain ⟨o,es,ep,ho,r⟩:=hm
  exact ⟨o,es,ep,k _ o (Ne.symm hL) ho,r⟩
 ·refine (I.hok b u e).stay (λ c v hc q=>k c v ?_ q) (λ _ q=>q) λ _ _ q=>q
  rcases hc with z | z
  ·rw [z]; exact nit b u e
  ·exact nit c _ z
theorem Inv.tok (I:Inv X pins σ H s) (t:Nat):Inv X pins σ H { s with toks:=t }:=I.un (h':=s.heap) (t':=t) Un.refl I.hok
theorem Inv.kept {t':Nat} (I:Inv X pins σ H s) (k:∀ b u,s.heap.get? b=some u->h'.get? b=some u):Inv X pins σ H { s with heap:=h',toks:=t' }:=I.un (Un.kept k) (I.hok.kept k)
theorem Inv.laid {a:Addr} {o:HO} {t':Nat} (I:Inv X pins σ H s) (k:∀ b u,s.heap.get? b=some u->h'.get? b=some u) (hp:s.heap.objs.size<=a) (new:ZB7 X.prog X.w (upd H a o) h' a o) :
  Inv X pins σ (upd H a o) { s with heap:=h',toks:=t' }:=I.un (Un.laid k hp (I.hok.fresh hp)) (I.hok.laid k hp new)
theorem Inv.write {x e:Addr} {o:HO} {t':Nat} (I:Inv X pins σ H s) (mu:Mut (H x)) (he:e=x ∨ H e=some (.own x)) (k:∀ b u,b ≠ e->s.heap.get? b=some u->h'.get? b=some u) (heo:∃ u,h'.get? e=some u)
  (new:ZB7 X.prog X.w (upd H x o) h' x o):Inv X pins σ (upd H x o) { s with heap:=h',toks:=t' }:=I.un (Un.write mu he k heo) (I.hok.write mu he k heo new)
theorem Inv.weak {σ':List (Option V)} (I:Inv X pins σ H s) (hl : σ'.length = σ.length) (w:∀ (i:Nat) v,σ'[i]? = some (some v)->σ[i]? = some (some v)):Inv X pins σ' H s :=
 ⟨I.ok,I.os,I.bare,I.base,let ⟨m,hn,hl'⟩:=I.loc; ⟨m,hn,λ i x v e1 e2 e3=>hl' i x v e1 (w i v e2) e3⟩,I.cell,I.free,I.freeC,I.pin,I.hok,hl.trans I.len⟩
theorem Inv.pins_of {pins':List (Addr × Obj)} (I:Inv X pins σ H s) (h:∀ p ∈ pins',s.heap.get? p.1=some p.2/\H p.1=none/\p.1 ≠ X.env.locals/\p.1 ∉ X.fs/\∀ v,p.2.data ≠ .cell v):Inv X pins' σ H s :=
 ⟨I.ok,I.os,I.bare,I.base,I.loc,I.cell,I.free,I.freeC,λ p hp=>(List.mem_append.mp hp).elim (λ z=>I.pin p (List.mem_append_left _ z)) (h p),I.hok,I.len⟩
theorem ZI7 {N:List Str} (hN:N.Nodup) {i j:Nat} {x:Str} (a:N[i]? = some x) (b:N[j]? = some x):i=j:=by
 obtain ⟨h1,e1⟩:=List.getElem?_eq_some_iff.mp a
 obtain ⟨h2,e2⟩:=List.getElem?_eq_some_iff.mp b
 exact (List.getElem_inj hN).mp (e1.trans e2.symm)
theorem ZHo {M:Model} {A:Around} {E:Value->Shared->Prop} {i:Nat} {x:Str} {v:V} {u:Value} {Q:Unit->Shared->Prop} (I:Inv X pins σ H s) (hN:X.N.Nodup) (hi:X.N[i]? = some x) (hx:Loc X.env.scope x) (r:Z9 v u)
  (h:∀ s',Inv X pins (σ.set i (some v)) H s'->(∃ a,Heap.SameBut a s.heap s'.heap/\(a=X.env.locals ∨ X.env.cells.lookup x=some a))->Q () s') (hf:X.fn x=true ∨ X.env.scope.names.lookup x=some .local:=by first | exact .inl rfl | exact .inr rfl | assumption):wpAny M A (storeName X.env x u) Q E s:=by
 obtain ⟨m,hn,hl⟩:=id I.loc
 have hcls:(X.env.scope.kind == .class || (X.env.scope.kind == .module && X.env.locals != X.env.globals))=false:=by rw [I.ok.kind]; rfl
 have hiσ : i < σ.length:=by rw [I.len]; exact (List.getElem?_eq_some_iff.mp hi).1
 have cne:=I.cne
 have tracked:∀ {a:Addr} {h':Heap},(∃ o,s.heap.get? a=some o/\H a=none)->Heap.SameBut a s.heap h'->HOk X.prog X.w H h':=λ {a h'} ha hs b ob e=>by
  obtain ⟨_,_,hfree⟩:=ha
  refine (I.hok b ob e).stay (λ c w' hc q=>(hs.2 c ?_).trans q) (λ _ q=>q) λ _ _ q=>q
  rintro rfl
  rcases hc with rfl | hc
  ·rw [hfree] at e; cases e
  ·rw [hfree] at hc; cases hc
 rcases hx with hk | hk
 ·refine wpAny_storeName_local hk hn (λ h' hn' hs=>?_) hcls
  obtain ⟨oL,_,_,hoL,_⟩:=id hn
  refine h _ ⟨I.ok,I.os,I.bare,⟨λ b o e n hb hx=>?_,λ b o e n hb hx=>?_,I.base.free,λ b o e hx=>?_,I.base.tups,I.base.frzs,I.base.tbls⟩,⟨_,hn',λ j y v' e1 e2 e3=>?_⟩,λ y c e=>?_,I.free,I.freeC,λ p hp=>?_,tracked ⟨oL,hoL,I.free⟩ hs,by simpa using I.len⟩ ⟨_,hs,.inl rfl⟩
  ·exact (hs.2 b (Nat.ne_of_lt (Nat.lt_of_lt_of_le (Heap.lt_size e) I.ok.above))).trans (I.base.keep b o e n hb hx)
  ·obtain ⟨sl,e1⟩:=I.base.slot b o e n hb hx
   exact ⟨sl,(hs.2 b (Nat.ne_of_lt (Nat.lt_of_lt_of_le (Heap.lt_size e) I.ok.above))).trans e1⟩
  ·obtain ⟨o',e1⟩:=I.base.there b o e hx
   exact ⟨o',(hs.2 b (Nat.ne_of_lt (Nat.lt_of_lt_of_le (Heap.lt_size e) I.ok.above))).trans e1⟩
  ·by_cases hj:j=i
   ·subst hj
    rw [hi] at e1; cases e1
    rw [List.getElem?_set_self hiσ] at e2
    cases e2
    exact ⟨u,r,.inl ⟨hk,by simp⟩⟩
   ·rw [List.getElem?_set_ne (Ne.symm hj)] at e2
    obtain ⟨u',r',q⟩:=hl j y v' e1 e2 e3
    refine ⟨u',r',?_⟩
    rcases q with ⟨k,e⟩ | ⟨k,c,e,z⟩
    ·refine .inl ⟨k,?_⟩
     have:y ≠ x:=λ e=>hj (ZI7 hN e1 (e ▸ hi))
     simp [this,e]
    ·exact .inr ⟨k,c,e,z.sameBut hs (cne y c e)⟩
  ·obtain ⟨w',z⟩:=I.cell y c e
   exact ⟨w',z.sameBut hs (cne y c e)⟩
  ·obtain ⟨e,n,ne,nf,d⟩:=I.pin p hp
   exact ⟨(hs.2 p.1 ne).trans e,n,ne,nf,d⟩
 ·have hfn:X.fn x=true:=by
   rcases hf with z | z
   ·exact z
   ·rw [z] at hk; cases hk
  obtain ⟨c,hc⟩:=I.ok.has x (.inl hk)
  obtain ⟨w',z⟩:=I.cell x c hc
  refine wpAny_storeName_cell I.ok.kind hk hc z (λ h' hc' hs=>?_)
  obtain ⟨oc,hoc,hocd⟩:=id z
  refine h { s with heap:=h' } ⟨I.ok,I.os,I.bare,⟨λ b o e n hb hx=>?_,λ b o e n hb hx=>?_,I.base.free,λ b o e hx=>?_,I.base.tups,I.base.frzs,I.base.tbls⟩,⟨m,hn.sameBut hs (Ne.symm (cne x c hc)),λ j y v' e1 e2 e3=>?_⟩,λ y c' e=>?_,I.free,I.freeC,λ p hp=>?_,tracked ⟨oc,hoc,I.freeC x c hc⟩ hs,by simpa using I.len⟩ ⟨c,hs,.inr hc⟩
  ·exact (hs.2 b (Nat.ne_of_lt (Nat.lt_of_lt_of_le (Heap.lt_size e) (I.ok.cab x c hfn hc)))).trans (I.base.keep b o e n hb hx)
  ·obtain ⟨sl,e1⟩:=I.base.slot b o e n hb hx
   exact ⟨sl,(hs.2 b (Nat.ne_of_lt (Nat.lt_of_lt_of_le (Heap.lt_size e) (I.ok.cab x c hfn hc)))).trans e1⟩
  ·obtain ⟨o',e1⟩:=I.base.there b o e hx
   exact ⟨o',(hs.2 b (Nat.ne_of_lt (Nat.lt_of_lt_of_le (Heap.lt_size e) (I.ok.cab x c hfn hc)))).trans e1⟩
  ·by_cases hj:j=i
   ·subst hj
    rw [hi] at e1; cases e1
    rw [List.getElem?_set_self hiσ] at e2
    cases e2
    exact ⟨u,r,.inr ⟨.inl hk,c,hc,hc'⟩⟩
   ·rw [List.getElem?_set_ne (Ne.symm hj)] at e2
    obtain ⟨u',r',q⟩:=hl j y v' e1 e2 e3
    refine ⟨u',r',?_⟩
    rcases q with q | ⟨k,c',e,z'⟩
    ·exact .inl q
    ·refine .inr ⟨k,c',e,z'.sameBut hs ?_⟩
     rintro rfl
     exact hj (ZI7 hN e1 (I.ok.inj _ _ _ e hc ▸ hi))
  ·by_cases hcc:c'=c
   ·subst hcc; exact ⟨_,hc'⟩
   ·obtain ⟨w2,z2⟩:=I.cell y c' e
    exact ⟨w2,z2.sameBut hs hcc⟩
  ·obtain ⟨e,n,ne,nf,d⟩:=I.pin p hp
   refine ⟨(hs.2 p.1 ?_).trans e,n,ne,nf,d⟩
   intro q
   rw [q,hoc] at e
   have q':oc=p.2:=Option.some.inj e
   exact d w' (by rw [← q']; exact hocd)
theorem ZB9 {M:Model} {A:Around} {E:Value->Shared->Prop} {i:Nat} {x:Str} {v:V} {u:Value} {Q:Unit->Shared->Prop} (I:Inv X pins σ H s) (hN:X.N.Nodup) (hi:X.N[i]? = some x) (hx:Loc X.env.scope x) (r:Z9 v u)
  (h:∀ s',Inv X pins (σ.set i (some v)) H s'->Q () s') (hf:X.fn x=true ∨ X.env.scope.names.lookup x=some .local:=by first | exact .inl rfl | exact .inr rfl | assumption):wpAny M A (storeName X.env x u) Q E s :=
 ZHo I hN hi hx r (λ s' I' _=>h s' I') hf
theorem Inv.call' {s':Shared} {ch:List Addr} (I:Inv X pins σ H s) (ho:s'.os=s.os) (u:Un (frs X.stack) ch H H' s.heap s'.heap) (hok:HOk X.prog X.w H' s'.heap) (hg:AllBare s'.gens)
  (hch:∀ b ∈ ch,(b ∈ X.ex ∨ X.s₀.heap.objs.size<=b)/\b ≠ X.env.locals/\(∀ x c,X.env.cells.lookup x=some c->c ≠ b)/\∀ p ∈ X.pn ++ pins,p.1 ≠ b):Inv X pins σ H' s':=by
 obtain ⟨h',g',d',t',o'⟩:=s'
 have e:o'=s.os:=ho
 subst e
 exact I.call (g':=g') (t':=t') (d':=d') u hok hg hch
end
abbrev XK:=Value->Option Addr->Hp->Prop
abbrev St:=List (Option V)
abbrev VK:=V->Hp->Prop
abbrev TE:=St->Hp->VK->Prop
abbrev TT:=St->Hp->(Bool->Hp->Prop)->Prop
abbrev TA:=St->Hp->(List V->Hp->Prop)->Prop
structure Ends where
 nx:St->Hp->Prop
 rt:VK
 bk:St->Hp->Prop:=λ _ _=>False
 ct:St->Hp->Prop:=λ _ _=>False
abbrev TS:=Ends->St->Hp->Prop
def EP (X:Cx) (pins:List (Addr × Obj)) (σ : St) (Q:VK) (u:Value) (s':Shared):Prop:=∃ v H',Inv X pins σ H' s'/\Z9 v u/\Q v H'
def TP (X:Cx) (pins:List (Addr × Obj)) (σ : St) (Q:Bool->Hp->Prop) (b:Bool) (s':Shared):Prop:=∃ H',Inv X pins σ H' s'/\Q b H'
def AP (X:Cx) (pins:List (Addr × Obj)) (σ : St) (Q:List V->Hp->Prop) (us:List Value) (s':Shared):Prop:=∃ vs H',Inv X pins σ H' s'/\Zu vs us/\Q vs H'
def SP (X:Cx) (pins:List (Addr × Obj)) (D:Ends) (f:Flow) (s':Shared):Prop :=
 match f with
 | .next=>∃ σ' H',Inv X pins σ' H' s'/\D.nx σ' H'
 | .brk=>∃ σ' H',Inv X pins σ' H' s'/\D.bk σ' H'
 | .cont=>∃ σ' H',Inv X pins σ' H' s'/\D.ct σ' H'
 | .ret u=>∃ v σ' H',Inv X pins σ' H' s'/\Z9 v u/\D.rt v H'
def PE (X:Cx) (e:Expr) (t:TE):Prop :=
 ∀ (pins:List (Addr × Obj)) (s:Shared) (σ : St) (H:Hp) (Q:VK),Inv X pins σ H s->t σ H Q->wpAny (model X.prog X.w) X.A (eval e X.env) (EP X pins σ Q) X.xe s
def PT (X:Cx) (e:Expr) (t:TT):Prop :=
 ∀ (pins:List (Addr × Obj)) (s:Shared) (σ : St) (H:Hp) (Q:Bool->Hp->Prop),Inv X pins σ H s->t σ H Q->wpAny (model X.prog X.w) X.A (isTrue e X.env (eval e X.env)) (TP X pins σ Q) X.xe s
def PW (X:Cx) (e:Expr) (t:TT):Prop :=
 ∀ (whole:Sem Value) (pins:List (Addr × Obj)) (s:Shared) (σ : St) (H:Hp) (Q:Bool->Hp->Prop),Inv X pins σ H s->t σ H Q->wpAny (model X.prog X.w) X.A (isTrue e X.env whole) (TP X pins σ Q) X.xe s
theorem PW.pt {X:Cx} {e:Expr} {t:TT} (h:PW X e t):PT X e t:=h _
def PA (X:Cx) (es:List Expr) (t:TA):Prop :=
 ∀ (pos:Pos) (pins:List (Addr × Obj)) (s:Shared) (σ : St) (H:Hp) (Q:List V->Hp->Prop),Inv X pins σ H s->t σ H Q->wpAny (model X.prog X.w) X.A (spliced (backTo pos (starEach es X.env))) (AP X pins σ Q) X.xe s
def PS (X:Cx) (st:Stmt) (t:TS):Prop :=
 ∀ (pins:List (Addr × Obj)) (s:Shared) (σ : St) (H:Hp) (D:Ends),Inv X pins σ H s->t D σ H->wpAny (model X.prog X.w) X.A (exec st X.env) (SP X pins D) X.xe s
def PSs (X:Cx) (st:List Stmt) (t:TS):Prop :=
 ∀ (pins:List (Addr × Obj)) (s:Shared) (σ : St) (H:Hp) (D:Ends),Inv X pins σ H s->t D σ H->wpAny (model X.prog X.w) X.A (execs st X.env) (SP X pins D) X.xe s
theorem thn {α : Type} {t:Sem α} {Q Q' : α->Shared->Prop} {M:Model} {A:Around} {E:Value->Shared->Prop} {s:Shared} (h:wpAny M A t Q E s) (hQ:∀ a s,Q a s->Q' a s):wpAny M A t Q' E s:=wpAny_mono h hQ λ _ _ x=>x
end L2
namespace L2
open PySem PySem.Spec PyProof.Rows
section
variable {X:Cx}
def tVar (i:Nat):TE:=λ σ H Q=>∃ v,σ[i]? = some (some v)/\Q v H
def tC (v:V):TE:=λ _ H Q=>Q v H
theorem ZR0 {i:Nat} {x:Str} {pos:Pos} (hN:X.N[i]? = some x) (hv:Vis X.env.scope x) (hd:(x == ("__debug__" : Str))=false:=by decide) (hcd:(x == ("__classdict__" : Str))=false:=by decide):PE X (.Name x pos) (tVar i):=by
 intro pins s σ H Q I h
 obtain ⟨v,e,h⟩:=h
 obtain ⟨m,hn,hl⟩:=I.loc
 obtain ⟨u,r,l⟩:=hl i x v hN e hv
 have fin:EP X pins σ Q u s:=⟨v,H,I,r,h⟩
 rcases l with ⟨hk,hm⟩ | ⟨hk,c,hc,hcell⟩
 ·exact wpAny_Name (wpAny_loadName_local I.ok.kind hk hn hm fin) hd
 ·rcases hk with hk | hk
  ·exact wpAny_Name (wpAny_loadName_cell I.ok.kind hk hc hcell fin) hd
  ·exact wpAny_Name (wpAny_loadName_free I.ok.kind hk hc hcell fin hcd) hd
theorem ZK2 {i j pos}:PE X (.Constant (.int i) j pos) (tC (.int i)):=λ _ _ _ H _ I h=>wpAny_Constant_int ⟨.int i,H,I.tok _,⟨_,rfl⟩,h⟩
theorem pe_bl {b j pos}:PE X (.Constant (.bool b) j pos) (tC (.bl b)):=λ _ _ _ H _ I h=>Constant_bool ⟨.bl b,H,I,rfl,h⟩
theorem ZR4 {j pos}:PE X (.Constant .none j pos) (tC .non):=λ _ _ _ H _ I h=>Constant_none ⟨.non,H,I,rfl,h⟩
theorem ZQl {x j pos}:PE X (.Constant (.str x) j pos) (tC (.str x)):=λ _ _ _ H _ I h=>Calls.Constant_str ⟨.str x,H,I.tok _,⟨_,rfl⟩,h⟩
def Gl (X:Cx) (x:Str):Prop:=X.env.kindOf x=some .globalImplicit
theorem ZIH {E:Value->Shared->Prop} {pins:List (Addr × Obj)} {s:Shared} {σ : St} {H:Hp} {x:Str} {u:Value} {pos:Pos} {Q:Value->Shared->Prop} (I:Inv X pins σ H s) (hg:Gl X x) (hm:X.mg x=some u) (h:Q u s)
  (hd:(x == ("__debug__" : Str))=false:=by decide):wpAny (model X.prog X.w) X.A (eval (.Name x pos) X.env) Q E s :=
 Calls.Name_function_global I.ok.kind hg (Calls.loadGlobal_global (by rw [I.ok.glob]; exact I.mod.glob.keeps I.bk) hm h) hd
theorem ZEf {E:Value->Shared->Prop} {pins:List (Addr × Obj)} {s:Shared} {σ : St} {H:Hp} {x:Str} {u:Value} {pos:Pos} {Q:Value->Shared->Prop} (I:Inv X pins σ H s) (hg:Gl X x) (hm:X.mg x=none) (hv:bootBuiltins x=some u) (h:Q u s)
  (hn:x ≠ "__name__":=by decide) (hd:(x == ("__debug__" : Str))=false:=by decide):wpAny (model X.prog X.w) X.A (eval (.Name x pos) X.env) Q E s:=by
 obtain ⟨mb,h1,h2⟩:=I.mod.blt
 exact Calls.Name_function_global I.ok.kind hg (Calls.loadGlobal_builtin (by rw [I.ok.glob]; exact I.mod.glob.keeps I.bk) hm (by rw [I.ok.blt]; exact h1.keeps I.bk) ((h2 x hn).trans hv) h) hd
theorem ZPJ {x:Str} {v:V} {u:Value} {pos:Pos} (hg:Gl X x) (hm:X.mg x=some u) (r:Z9 v u) (hd:(x == ("__debug__" : Str))=false:=by decide):PE X (.Name x pos) (tC v) :=
 λ _ _ _ H _ I h=>ZIH I hg hm ⟨v,H,I,r,h⟩ hd
theorem ZPu {x:Str} {v:V} {u:Value} {pos:Pos} (hg:Gl X x) (hm:X.mg x=none) (hv:bootBuiltins x=some u) (r:Z9 v u) (hn:x ≠ "__name__":=by decide) (hd:(x == ("__debug__" : Str))=false:=by decide):PE X (.Name x pos) (tC v) :=
 λ _ _ _ H _ I h=>ZEf I hg hm hv ⟨v,H,I,r,h⟩ hn hd
variable {a b:Expr} {ta tb:TE} {pos:Pos}
def tB (t:TE):TT:=λ σ H Q=>t σ H λ x H1=>∃ c,x=.bl c/\Q c H1
theorem ZQd {e:Expr} {t:TE} (h:PE X e t) (he:∀ whole,isTrue e X.env whole=(do let v ← whole; standAt e.pos; holding [v] (truthy v)):=by intro _; rfl):PT X e (tB t):=by
 intro pins s σ H Q I hw
 refine isTrue_plain (thn (h pins s σ H _ I hw) λ v s1 ⟨x,H1,I1,r1,q1⟩=>?_) (he _)
 obtain ⟨d,rfl,q⟩:=q1
 cases r1
 exact wpAny_truthy_bool ⟨H1,I1,q⟩
variable {tA tB':TT} {rest:List Expr}
def tAnd (t u:TT):TT:=λ σ H Q=>t σ H λ c H1=>if c=true then u σ H1 Q else Q false H1
def tOr (t u:TT):TT:=λ σ H Q=>t σ H λ c H1=>if c=true then Q true H1 else u σ H1 Q
def tNot (t:TT):TT:=λ σ H Q=>t σ H λ c H1=>Q (!c) H1
theorem ZPs (ha:PT X a tA):PW X (.BoolOp .And [a] pos) tA:=by
 intro wh pins s σ H Q I h
 refine isTrue_and (thn (ha pins s σ H Q I h) λ c s1 e=>?_)
 cases c with
 | true=>exact isTrue_and_nil e
 | false=>exact e
theorem ZQc (ha:PT X a tA):PW X (.BoolOp .Or [a] pos) tA:=by
 intro wh pins s σ H Q I h
 refine isTrue_or (thn (ha pins s σ H Q I h) λ c s1 e=>?_)
 cases c with
 | false=>exact isTrue_or_nil e
 | true=>exact e
theorem ZRK (ha:PT X a tA) (hb:PW X (.BoolOp .And (b :: rest) pos) tB'):PW X (.BoolOp .And (a :: b :: rest) pos) (tAnd tA tB'):=by
 intro wh pins s σ H Q I h
 refine isTrue_and (thn (ha pins s σ H _ I h) λ c s1 ⟨H1,I1,q1⟩=>?_)
 cases c with
 | true=>exact hb wh pins s1 σ H1 Q I1 q1
 | false=>exact ⟨H1,I1,q1⟩
theorem pw_or (ha:PT X a tA) (hb:PW X (.BoolOp .Or (b :: rest) pos) tB'):PW X (.BoolOp .Or (a :: b :: rest) pos) (tOr tA tB'):=by
 intro wh pins s σ H Q I h
 refine isTrue_or (thn (ha pins s σ H _ I h) λ c s1 ⟨H1,I1,q1⟩=>?_)
 cases c with
 | true=>exact ⟨H1,I1,q1⟩
 | false=>exact hb wh pins s1 σ H1 Q I1 q1
theorem ZRd (ha:PT X a tA):PT X (.UnaryOp .Not a pos) (tNot tA):=by
 intro pins s σ H Q I h
 exact isTrue_not (ha pins s σ H (λ c H1=>Q (!c) H1) I h)
def tAndV (ta tb:TE):TE:=λ σ H Q=>ta σ H λ x H1=>∃ c,x=.bl c/\if c=true then tb σ H1 Q else Q (.bl false) H1
def tOrV (ta tb:TE):TE:=λ σ H Q=>ta σ H λ x H1=>∃ c,x=.bl c/\if c=true then Q (.bl true) H1 else tb σ H1 Q
def tNotV (ta:TE):TE:=λ σ H Q=>ta σ H λ x H1=>∃ c,x=.bl c/\Q (.bl (!c)) H1
theorem ZSD {op} {t:TE} (h:PE X a t):PE X (.BoolOp op [a] pos) t:=λ pins s σ H Q I hw=>BoolOp_one (h pins s σ H Q I hw)
theorem ZRy (ha:PE X a ta) (hb:PE X (.BoolOp .And (b :: rest) pos) tb):PE X (.BoolOp .And (a :: b :: rest) pos) (tAndV ta tb):=by
 intro pins s σ H Q I h
 refine BoolOp_and (thn (ha pins s σ H _ I h) λ v s1 ⟨x,H1,I1,r1,q1⟩=>?_)
 obtain ⟨c,rfl,q1⟩:=q1
 cases r1
 refine wpAny_truthy_bool ?_
 cases c with
 | true=>exact hb pins s1 σ H1 Q I1 q1
 | false=>exact ⟨.bl false,H1,I1,rfl,q1⟩
theorem pe_or (ha:PE X a ta) (hb:PE X (.BoolOp .Or (b :: rest) pos) tb):PE X (.BoolOp .Or (a :: b :: rest) pos) (tOrV ta tb):=by
 intro pins s σ H Q I h
 refine BoolOp_or (thn (ha pins s σ H _ I h) λ v s1 ⟨x,H1,I1,r1,q1⟩=>?_)
 obtain ⟨c,rfl,q1⟩:=q1
 cases r1
 refine wpAny_truthy_bool ?_
 cases c with
 | false=>exact hb pins s1 σ H1 Q I1 q1
 | true=>exact ⟨.bl true,H1,I1,rfl,q1⟩
theorem ZSI (ha:PE X a ta):PE X (.UnaryOp .Not a pos) (tNotV ta):=by
 intro pins s σ H Q I h
 refine UnaryOp_ (thn (ha pins s σ H _ I h) λ v s1 ⟨x,H1,I1,r1,q1⟩=>?_)
 obtain ⟨c,rfl,q1⟩:=q1
 cases r1
 exact not_of (wpAny_truthy_bool ⟨.bl (!c),H1,I1,rfl,q1⟩)
end
end L2
namespace L2
open PySem PySem.Spec PyProof.Rows
def SqL (K:PySem.W.Frag) (H:Hp) (a:Addr) (xs:List V):Prop :=
 Rd H a (.lst xs) ∨
  ∃ (o:Obj) (its:Array Value) (n:Nat),K.lookup a=some o/\o.cls=.type "list"/\o.dict=none/\o.data=.seq its n/\its.size<=sizeLine/\Zu xs its.toList
def SqT (K:PySem.W.Frag) (H:Hp) (a:Addr) (xs:List V):Prop :=
 Rd H a (.tup xs) ∨
  ∃ (o:Obj) (its:Array Value) (n:Nat),K.lookup a=some o/\o.cls=.type "tuple"/\o.data=.seq its n/\its.size<=sizeLine/\Zu xs its.toList
def absV:Value->Option V
 | .none=>some .non
 | .bool b=>some (.bl b)
 | .int i _=>some (.int i)
 | .str x _=>some (.str x)
 | .bytes b _=>some (.byt b)
 | .float b _=>some (.flt b)
 | .ref a=>some (.ref a)
 | .type n=>some (.ty n)
 | _=>none
theorem Z9.abs {x:V} {u:Value} (r:Z9 x u):absV u=some x:=by
 cases x with
 | non=>cases r; rfl
 | bl _=>cases r; rfl
 | int _=>obtain ⟨t,rfl⟩:=r; rfl
 | str _=>obtain ⟨t,rfl⟩:=r; rfl
 | byt _=>obtain ⟨t,rfl⟩:=r; rfl
 | flt _=>obtain ⟨t,rfl⟩:=r; rfl
 | ref _=>cases r; rfl
 | ty _=>cases r; rfl
theorem Z9.inj {x y:V} {u:Value} (r:Z9 x u) (q:Z9 y u):x=y:=Option.some.inj (r.abs.symm.trans q.abs)
theorem Zu.inj:∀ {xs ys:List V} {us:List Value},Zu xs us->Zu ys us->xs=ys
 | _,_,_,.nil,.nil=>rfl
 | _,_,_,.cons r t,.cons r' t'=>by rw [r.inj r',Zu.inj t t']
section
variable {X:Cx} {pins:List (Addr × Obj)} {σ : St} {H:Hp} {s:Shared} {a:Addr} {xs ys:List V}
theorem SqL.of {K:PySem.W.Frag} (h:H a=some (.lst xs)):SqL K H a xs:=.inl (.inl h)
theorem Inv.list (I:Inv X pins σ H s) (h:SqL X.K H a xs):∃ its:List Value,Zu xs its/\PlainL s.heap a its.toArray/\xs.length<=sizeLine:=by
 rcases h with h | ⟨o,its,n,hk,hc,hd,hs,hz,r⟩
 ·obtain ⟨z,its,n,r,e⟩:=h.ok I.hok
  exact ⟨its,r,⟨_,n,e,rfl,rfl,rfl⟩,z⟩
 ·refine ⟨its.toList,r,⟨o,n,I.kIn a o hk,hc,hd,by simpa using hs⟩,?_⟩
  have e:=r.length
  simp only [Array.length_toList] at e
  omega
theorem Inv.tuple (I:Inv X pins σ H s) (h:SqT X.K H a xs):∃ its:List Value,Zu xs its/\IsTup s.heap a its.toArray/\xs.length<=sizeLine:=by
 rcases h with h | ⟨o,its,n,hk,hc,hs,hz,r⟩
 ·obtain ⟨z,its,r,p⟩:=h.ok I.hok
  exact ⟨its,r,p,z⟩
 ·refine ⟨its.toList,r,⟨o,I.kIn a o hk,hc,n,by simpa using hs⟩,?_⟩
  have e:=r.length
  simp only [Array.length_toList] at e
  omega
theorem Inv.list_inj (I:Inv X pins σ H s) (h:SqL X.K H a xs) (h':SqL X.K H a ys):xs=ys:=by
 obtain ⟨its,r,⟨o,n,e,_,_,d⟩,_⟩:=I.list h
 obtain ⟨its',r',⟨o',n',e',_,_,d'⟩,_⟩:=I.list h'
 rw [e] at e'; cases e'
 rw [d] at d'
 injection d' with d1 _
 have:its=its':=by simpa using congrArg Array.toList d1
 subst this
 exact r.inj r'
theorem Inv.tuple_inj (I:Inv X pins σ H s) (h:SqT X.K H a xs) (h':SqT X.K H a ys):xs=ys:=by
 obtain ⟨its,r,⟨o,e,_,n,d⟩,_⟩:=I.tuple h
 obtain ⟨its',r',⟨o',e',_,n',d'⟩,_⟩:=I.tuple h'
 rw [e] at e'; cases e'
 rw [d] at d'
 injection d' with d1 _
 have:its=its':=by simpa using congrArg Array.toList d1
 subst this
 exact r.inj r'
end
abbrev Cx.wish (X:Cx) (E:Value->Shared->Prop):Cx:={ X with xe:=E }
abbrev Cx.nox (X:Cx):Cx:=X.wish λ _ _=>False
theorem Cx.Ok.wish {X:Cx} (ok:X.Ok) (E:Value->Shared->Prop):(X.wish E).Ok :=
 ⟨ok.mod,ok.kind,ok.glob,ok.blt,ok.above,ok.inj,ok.has,ok.cab,ok.hd,ok.frames,ok.stk,ok.exf,ok.bs,ok.bsz,ok.noex,ok.exfs,ok.funs,ok.frf⟩
theorem Cx.Ok.unwish {X:Cx} {E:Value->Shared->Prop} (ok:(X.wish E).Ok):X.Ok :=
 ⟨ok.mod,ok.kind,ok.glob,ok.blt,ok.above,ok.inj,ok.has,ok.cab,ok.hd,ok.frames,ok.stk,ok.exf,ok.bs,ok.bsz,ok.noex,ok.exfs,ok.funs,ok.frf⟩
section
variable {X:Cx} {pins:List (Addr × Obj)} {σ : St} {H:Hp} {s:Shared} {E:Value->Shared->Prop}
theorem Inv.wish (I:Inv X pins σ H s) (E:Value->Shared->Prop):Inv (X.wish E) pins σ H s:=⟨I.ok.wish E,I.os,I.bare,I.base,I.loc,I.cell,I.free,I.freeC,I.pin,I.hok,I.len⟩
theorem Inv.unwish (I:Inv (X.wish E) pins σ H s):Inv X pins σ H s:=⟨I.ok.unwish,I.os,I.bare,I.base,I.loc,I.cell,I.free,I.freeC,I.pin,I.hok,I.len⟩
theorem SP.unwish {D:Ends} {f:Flow} {s':Shared} (h:SP (X.wish E) pins D f s'):SP X pins D f s':=by
 cases f with
 | next=>obtain ⟨σ',H',I,q⟩:=h; exact ⟨σ',H',I.unwish,q⟩
 | brk=>obtain ⟨σ',H',I,q⟩:=h; exact ⟨σ',H',I.unwish,q⟩
 | cont=>obtain ⟨σ',H',I,q⟩:=h; exact ⟨σ',H',I.unwish,q⟩
 | ret u=>obtain ⟨v,σ',H',I,r,q⟩:=h; exact ⟨v,σ',H',I.unwish,r,q⟩
theorem PSs.nox {st:List Stmt} {t:TS} (h:PSs X.nox st t):PSs X st t:=λ pins s σ H D I hw =>
 wpAny_mono (h pins s σ H D (I.wish _) hw) (λ _ _ q=>q.unwish) λ _ _ z=>False.elim z
end
section
variable {X:Cx} {st:Stmt} {rest:List Stmt} {t u:TS} {e:Expr} {te:TE} {pos:Pos}
def tNext:TS:=λ D σ H=>D.nx σ H
def tSeq (t u:TS):TS:=λ D σ H=>t { D with nx:=u D } σ H
theorem ZPz:PSs X [] tNext:=λ _ _ σ H _ I h=>wpAny_execs_nil ⟨σ,H,I,h⟩
theorem ZM5 (h1:PS X st t) (h2:PSs X rest u):PSs X (st :: rest) (tSeq t u):=by
 intro pins s σ H D I h
 refine wpAny_execs_cons (thn (h1 pins s σ H { D with nx:=u D } I h) λ f s1 q=>?_)
 cases f with
 | next =>
  obtain ⟨σ',H',I',q⟩:=q
  exact h2 pins s1 σ' H' D I' q
 | ret v=>exact q
 | brk=>exact q
 | cont=>exact q
theorem ZP3 (h1:PS X st t):PSs X [st] t:=by
 intro pins s σ H D I h
 refine wpAny_execs_cons (thn (h1 pins s σ H D I h) λ f s1 q=>?_)
 cases f with
 | next=>exact wpAny_execs_nil q
 | ret v=>exact q
 | brk=>exact q
 | cont=>exact q
theorem Inv.quiet {pins:List (Addr × Obj)} {σ : St} {H:Hp} {s:Shared} (I:Inv X pins σ H s):interactive X.env=false:=by simp [interactive,I.ok.kind]
def tDrop (te:TE):TS:=λ D σ H=>te σ H λ _ H1=>D.nx σ H1
theorem ZPx (he:PE X e te) (hs:swapsWith e none pos.line X.env=pure false:=by rfl):PS X (.Expr e pos) (tDrop te):=by
 intro pins s σ H D I h
 exact wpAny_Expr_any (thn (he pins s σ H _ I h) λ v s1 ⟨x,H1,I1,r1,q1⟩=>⟨σ,H1,I1,q1⟩) I.quiet hs
def tRet (te:TE):TS:=λ D σ H=>te σ H D.rt
theorem ZR2 (he:PE X e te):PS X (.Return (some e) pos) (tRet te):=by
 intro pins s σ H D I h
 exact wpAny_Return_some (thn (he pins s σ H _ I h) λ v s1 ⟨x,H1,I1,r1,q1⟩=>⟨x,σ,H1,I1,r1,q1⟩)
def tIfS (c:TT) (t u:TS):TS:=λ D σ H=>c σ H λ b H1=>if b=true then t D σ H1 else u D σ H1
theorem ps_if {c:Expr} {a b:List Stmt} {tc:TT} (hc:PT X c tc) (ha:PSs X a t) (hb:PSs X b u):PS X (.If c a b pos) (tIfS tc t u):=by
 intro pins s σ H D I h
 refine wpAny_If (thn (hc pins s σ H _ I h) λ d s1 ⟨H1,I1,q1⟩=>?_)
 cases d with
 | true=>exact ha pins s1 σ H1 D I1 q1
 | false=>exact hb pins s1 σ H1 D I1 q1
end
abbrev TG:=V->St->Hp->(St->Hp->Prop)->Prop
abbrev TGs:=List V->St->Hp->(St->Hp->Prop)->Prop
def PG (X:Cx) (target:Expr) (t:TG):Prop :=
 ∀ (pins:List (Addr × Obj)) (s:Shared) (σ : St) (H:Hp) (v:V) (u:Value) (Q:St->Hp->Prop),Inv X pins σ H s->Z9 v u->t v σ H Q ->
  wpAny (model X.prog X.w) X.A (assign target X.env u) (λ _ s'=>∃ σ' H',Inv X pins σ' H' s'/\Q σ' H') X.xe s
def PGs (X:Cx) (ts:List Expr) (t:TGs):Prop :=
 ∀ (pins:List (Addr × Obj)) (s:Shared) (σ : St) (H:Hp) (vs:List V) (us:List Value) (Q:St->Hp->Prop),Inv X pins σ H s->Zu vs us->t vs σ H Q ->
  wpAny (model X.prog X.w) X.A (assignInOrder ((assignEach ts X.env).map (·.2)) us) (λ _ s'=>∃ σ' H',Inv X pins σ' H' s'/\Q σ' H') X.xe s
abbrev ZRm:=V->V->V->Hp->(Hp->Prop)->Prop
def ZSV (X:Cx) (t:ZRm):Prop :=
 ∀ (pins:List (Addr × Obj)) (s:Shared) (σ : St) (H:Hp) (o i v:V) (ov iv u:Value) (Q:Hp->Prop),Inv X pins σ H s->Z9 o ov->Z9 i iv->Z9 v u->t o i v H Q ->
  wpAny (model X.prog X.w) X.A (setItem ov iv u) (λ _ s'=>∃ H',Inv X pins σ H' s'/\Q H') X.xe s
abbrev TIp:=V->V->Hp->VK->Prop
def PIp (X:Cx) (op:Operator) (t:TIp):Prop :=
 ∀ (pins:List (Addr × Obj)) (s:Shared) (σ : St) (H:Hp) (x y:V) (v u:Value) (Q:VK),Inv X pins σ H s->Z9 x v->Z9 y u->t x y H Q ->
  wpAny (model X.prog X.w) X.A (inplaceOp op v u) (EP X pins σ Q) X.xe s
section
variable {X:Cx} {pos:Pos}
def ZJo (i:Nat):TG:=λ v σ H Q=>Q (σ.set i (some v)) H
theorem ZPR {i:Nat} {x:Str} (hN:X.N.Nodup) (hi:X.N[i]? = some x) (hx:Loc X.env.scope x) (hf:X.fn x=true ∨ X.env.scope.names.lookup x=some .local:=by first | exact .inl rfl | exact .inr rfl | assumption):PG X (.Name x pos) (ZJo i):=by
 intro pins s σ H v u Q I r h
 exact wpAny_assign_Name (ZB9 I hN hi hx r (λ s' I'=>⟨_,H,I',h⟩) hf)
def ZSM:TGs:=λ vs σ H Q=>vs=[]/\Q σ H
def ZQM (t:TG) (u:TGs):TGs:=λ vs σ H Q=>∃ v r,vs=v :: r/\t v σ H λ σ' H'=>u r σ' H' Q
theorem ZOk:PGs X [] ZSM:=by
 intro pins s σ H vs us Q I r h
 obtain ⟨e,h⟩:=h
 subst e
 cases r
 exact assignInOrder_nil ⟨σ,H,I,h⟩
theorem ZNv {e:Expr} {es:List Expr} {t:TG} {u:TGs} (h1:PG X e t) (h2:PGs X es u)
  (hs:(assignEach (e :: es) X.env).map (·.2)=assign e X.env :: (assignEach es X.env).map (·.2):=by rfl):PGs X (e :: es) (ZQM t u):=by
 intro pins s σ H vs us Q I r h
 obtain ⟨v,vr,e1,h⟩:=h
 subst e1
 cases r with
 | cons r rr =>
  rw [hs]
  refine assignInOrder_cons (thn (h1 pins s σ H _ _ _ I r h) λ _ s1 ⟨σ1,H1,I1,q1⟩=>?_)
  exact h2 pins s1 σ1 H1 _ _ Q I1 rr q1
def ZSS (K:PySem.W.Frag) (n:Nat) (t:TGs):TG:=λ v σ H Q=>∃ a xs,v=.ref a/\SqT K H a xs/\xs.length=n/\t xs σ H Q
theorem ZQp {es:List Expr} {k:Nat} {t:TGs} {n:Nat} (hc:X.calm=true) (h:PGs X es t)
  (hn:(assignEach es X.env).length=n:=by rfl) (hst:(assignEach es X.env).findIdx? (·.1)=none:=by rfl):PG X (.Tuple es k pos) (ZSS X.K n t):=by
 intro pins s σ H v u Q I r hw
 obtain ⟨a,xs,e1,hq,hl,hw⟩:=hw
 subst e1
 cases r
 obtain ⟨its,rv,ht,hz⟩:=I.tuple hq
 refine assign_Tuple_tuple (I.ok.hd hc) ht (by simp [hn,← hl,rv.length]) hst λ h' hx=>?_
 have I1:Inv X pins σ H { s with heap:=h' }:=I.kept (t':=s.toks) λ b o e=>hx b o (Nat.ne_of_lt (Heap.lt_size e)) e
 exact h pins _ σ H xs _ Q I1 (by simpa using rv) hw
def gSub (to ti:TE) (t:ZRm):TG:=λ v σ H Q=>to σ H λ o H1=>ti σ H1 λ i H2=>t o i v H2 λ H3=>Q σ H3
theorem ZRR {o i:Expr} {to ti:TE} {t:ZRm} (ho:PE X o to) (hi:PE X i ti) (hs:ZSV X t)
  (ha:∀ v,assign (.Subscript o i pos) X.env v=(do
   let ov ← holding [v] (eval o X.env)
   let iv ← holding [v,ov] (eval i X.env)
   standAt pos
   holding [v,ov,iv] (setItem ov iv v)
   release [v,ov,iv] []):=by intro _; rfl):PG X (.Subscript o i pos) (gSub to ti t):=by
 intro pins s σ H v u Q I r h
 rw [ha]
 refine wpAny_bind (wpAny_holding (thn (ho pins s σ H _ I h) λ ov s1 ⟨x,H1,I1,r1,q1⟩=>?_))
 refine wpAny_bind (wpAny_holding (thn (hi pins s1 σ H1 _ I1 q1) λ iv s2 ⟨y,H2,I2,r2,q2⟩=>?_))
 refine wpAny_bind (wpAny_standAt (wpAny_bind (wpAny_holding (thn (hs pins s2 σ H2 x y v ov iv u _ I2 r1 r2 r q2) λ _ s3 ⟨H3,I3,q3⟩=>?_))))
 exact wpAny_release ⟨σ,H3,I3,q3⟩
def ZRM (te:TE) (g:TG):TS:=λ D σ H=>te σ H λ x H1=>g x σ H1 D.nx
theorem ZMv {tg e:Expr} {te:TE} {g:TG} (he:PE X e te) (hg:PG X tg g) (hs:swapsWithSole [tg] e pos.line X.env=pure false:=by rfl) (hw:swappedStores [tg] e X.env=pure none:=by rfl)
  (h1:(assignEach [tg] X.env).map (·.2)=[assign tg X.env]:=by rfl):PS X (.Assign [tg] e pos) (ZRM te g):=by
 intro pins s σ H D I h
 refine wpAny_Assign_stores (thn (he pins s σ H _ I h) λ v s1 ⟨x,H1,I1,r1,q1⟩=>?_) hs hw
 rw [h1]
 exact thn (hg pins s1 σ H1 x v _ I1 r1 q1) λ _ s2 q=>q
theorem ZRL {i:Nat} {x:Str} {e:Expr} {te:TE} {pos':Pos} (hN:X.N.Nodup) (hi:X.N[i]? = some x) (hx:Loc X.env.scope x) (he:PE X e te) (hs:swapsWith e (some (.Name x pos')) pos.line X.env=pure false:=by rfl) (hf:X.fn x=true ∨ X.env.scope.names.lookup x=some .local:=by first | exact .inl rfl | exact .inr rfl | assumption) :
  PS X (.Assign [.Name x pos'] e pos) (ZRM te (ZJo i)):=by
 intro pins s σ H D I h
 refine wpAny_Assign_Name (thn (he pins s σ H _ I h) λ v s1 ⟨y,H1,I1,r1,q1⟩=>?_) hs
 exact ZB9 I1 hN hi hx r1 (λ s2 I2=>⟨_,H1,I2,q1⟩) hf
def ZSO (i j:Nat) (ta:TA):TS:=λ D σ H=>ta σ H λ vs H1=>∃ v w,vs=[v,w]/\D.nx ((σ.set i (some v)).set j (some w)) H1
theorem ZRV {i j:Nat} {x y:Str} {a b:Expr} {ta:TA} {px py pt:Pos} {kt k2 pt2} (hc:X.calm=true) (hN:X.N.Nodup) (hi:X.N[i]? = some x) (hj:X.N[j]? = some y) (hij:i ≠ j)
  (hx:X.env.scope.names.lookup x=some .local) (hy:X.env.scope.names.lookup y=some .local) (ha:PA X [a,b] ta)
  (hw:swappedStores [.Tuple [.Name x px,.Name y py] kt pt] (.Tuple [a,b] k2 pt2) X.env=pure (some [x,y]))
  (hs:swapsWithSole [.Tuple [.Name x px,.Name y py] kt pt] (.Tuple [a,b] k2 pt2) pos.line X.env=pure false:=by rfl) :
  PS X (.Assign [.Tuple [.Name x px,.Name y py] kt pt] (.Tuple [a,b] k2 pt2) pos) (ZSO i j ta):=by
 intro pins s σ H D I h
 rw [exec_Assign_arm]
 refine wpAny_bind (wpAny_standAt ?_)
 rw [hs]
 refine wpAny_bind (wpAny_pure ?_)
 rw [if_neg (by decide)]
 refine wpAny_bind (Tuple_ (thn (ha _ pins s σ H _ I h) λ us s1 ⟨vs,H1,I1,r1,q1⟩=>?_))
 obtain ⟨v,w,e1,q1⟩:=q1
 subst e1
 obtain ⟨u1,u2,rfl,rv,rw'⟩:∃ u1 u2,us=[u1,u2]/\Z9 v u1/\Z9 w u2:=by
  cases r1 with
  | cons p q =>
   cases q with
   | cons p' q' =>
    cases q'
    exact ⟨_,_,rfl,p,p'⟩
 refine wpAny_newObj_type ?_ (by show 2<=sizeLine; decide)
 have I2:Inv X pins σ H1 { s1 with heap:=s1.heap.push { cls:=.type "tuple",data:=.seq [u1,u2].toArray } }:=I1.kept (t':=s1.toks) λ b o e=>Heap.get?_push_of_some _ e
 rw [hw]
 refine wpAny_bind (wpAny_pure ?_)
 show wpAny (model X.prog X.w) X.A (do rule "assign.swapped-stores"; let items ← unpackItems (.ref s1.heap.objs.size) 2 none; assignInOrder [λ v=>bindName X.env y v,λ v=>bindName X.env x v] items.reverse; pure Flow.next) _ _ _
 refine wpAny_bind (wpAny_rule (wpAny_bind (unpackItems_tuple (items:=#[u1,u2]) (I.ok.hd hc) (IsTup.new s1.heap _) λ h' hx'=>?_)))
 have I3:=I2.kept (h':=h') (t':=s1.toks) λ b o e=>hx' b o (Nat.ne_of_lt (Heap.lt_size e)) e
 show wpAny _ _ (assignInOrder [λ v=>bindName X.env y v,λ v=>bindName X.env x v] [u2,u1] >>= λ _=>pure Flow.next) _ _ _
 refine wpAny_bind (assignInOrder_cons (wpAny_bindName (ZB9 I3 hN hj (.inl hy) rw' (λ s2 I4=>?_) (.inr hy))))
 refine assignInOrder_cons (wpAny_bindName (ZB9 I4 hN hi (.inl hx) rv (λ s3 I5=>assignInOrder_nil (wpAny_pure ?_)) (.inr hx)))
 rw [List.set_comm _ _ (Ne.symm hij)] at I5
 exact ⟨_,H1,I5,q1⟩
def tAug (i:Nat) (te:TE) (ti:TIp):TS:=λ D σ H=>∃ x,σ[i]? = some (some x)/\te σ H λ y H1=>ti x y H1 λ z H2=>D.nx (σ.set i (some z)) H2
theorem ZMi {i:Nat} {x:Str} {e:Expr} {te:TE} {op:Operator} {ti:TIp} {pos':Pos} (hN:X.N.Nodup) (hi:X.N[i]? = some x) (hx:Loc X.env.scope x) (he:PE X e te) (ho:PIp X op ti) (hf:X.fn x=true ∨ X.env.scope.names.lookup x=some .local:=by first | exact .inl rfl | exact .inr rfl | assumption) :
  PS X (.AugAssign (.Name x pos') op e pos) (tAug i te ti):=by
 intro pins s σ H D I h
 obtain ⟨v,e1,h⟩:=h
 obtain ⟨m,hn,hl⟩:=I.loc
 have vis:Vis X.env.scope x:=by rcases hx with k | k; exact .inl k; exact .inr (.inl k)
 obtain ⟨u,r,l⟩:=hl i x v hi e1 vis
 refine wpAny_AugAssign_Name ?_
 have go:wpAny (model X.prog X.w) X.A (eval e X.env) (λ w s₂=>wpAny (model X.prog X.w) X.A (inplaceOp op u w) (λ r s₃=>wpAny (model X.prog X.w) X.A (storeName X.env x r) (λ _=>SP X pins D .next) X.xe s₃) X.xe s₂) X.xe s:=by
  refine thn (he pins s σ H _ I h) λ w s1 ⟨y,H1,I1,r1,q1⟩=>?_
  refine thn (ho pins s1 σ H1 v y u w _ I1 r r1 q1) λ z s2 ⟨zv,H2,I2,r2,q2⟩=>?_
  exact ZB9 I2 hN hi hx r2 (λ s3 I3=>⟨_,H2,I3,q2⟩) hf
 rcases l with ⟨hk,hm⟩ | ⟨hk,c,hc,hcell⟩
 ·exact wpAny_loadName_local I.ok.kind hk hn hm go
 ·rcases hk with hk | hk
  ·exact wpAny_loadName_cell I.ok.kind hk hc hcell go
  ·rcases hx with k | k
   ·have:X.env.scope.names.lookup x=some .free:=hk
    rw [k] at this; cases this
   ·have:X.env.scope.names.lookup x=some .free:=hk
    rw [k] at this; cases this
def ipI (f:Int->Int->Int):TIp:=λ x y H Q=>∃ i j,x=.int i/\y=.int j/\Q (.int (f i j)) H
theorem ZR9:PIp X .Add (ipI λ i j=>i+j):=by
 intro pins s σ H x y v u Q I r1 r2 h
 obtain ⟨i,j,e1,e2,q⟩:=h
 subst e1; subst e2
 obtain ⟨t,rfl⟩:=r1
 obtain ⟨t',rfl⟩:=r2
 exact iadd_int ⟨.int _,H,I.tok _,⟨_,rfl⟩,q⟩
end
section
variable {X:Cx} {pos:Pos}
end
structure It where
 go:Nat->Hp->Prop
 yld:Nat->Hp->V->Hp->Prop
 stop:Nat->Hp->Prop
def ZFq (X:Cx) (pins:List (Addr × Obj)) (H:Hp) (b:Addr):Prop :=
 H b=none/\b ≠ X.env.locals/\b ∉ X.fs/\(b ∈ X.ex ∨ X.s₀.heap.objs.size<=b)/\(∀ x c,X.env.cells.lookup x=some c->c ≠ b)/\∀ p ∈ X.pn ++ pins,p.1 ≠ b
theorem Inv.fpOk {X:Cx} {pins:List (Addr × Obj)} {σ : St} {H H':Hp} {s:Shared} {b:Addr} (I:Inv X pins σ H s) (hb:s.heap.objs.size<=b) (hn:H' b=none):ZFq X pins H' b:=by
 refine ⟨hn,Nat.ne_of_gt (Nat.lt_of_lt_of_le I.lt hb),I.nofs hb,.inr (Nat.le_trans I.sz hb),λ x c e z=>?_,λ p hp z=>?_⟩
 ·obtain ⟨v,q⟩:=I.cell x c e
  exact absurd (Nat.lt_of_lt_of_le q.lt (by rw [z]; exact hb)) (Nat.lt_irrefl _)
 ·exact absurd (Nat.lt_of_lt_of_le (Heap.lt_size (I.pin p hp).1) (by rw [z]; exact hb)) (Nat.lt_irrefl _)
structure Turn (P:Program) (w:World) (K:PySem.W.Frag) (tg:Expr) (J:It) (fp:List Addr) (it:Addr) (tn:Nat->Heap->Prop):Prop where
  mem:it ∈ fp
  obj:∀ i h,tn i h->∀ b ∈ fp,∃ o,h.get? b=some o/\∀ v,o.data ≠ .cell v
  keep:∀ i h h',tn i h->(∀ b ∈ fp,∀ o,h.get? b=some o->h'.get? b=some o)->tn i h'
  item:∀ (X:Cx),X.prog=P->X.w=w->X.K=K->X.calm=true->∀ (i:Nat) (pins:List (Addr × Obj)) (s:Shared) (σ : St) (H:Hp) (E:Value->Shared->Prop),Inv X pins σ H s->(∀ b ∈ fp,ZFq X pins H b)->tn i s.heap->J.go i H ->
    wpAny (model P w) X.A (pyNext (.ref it)) (λ r s1=>∃ u,r=some u /\
      wpAny (model P w) X.A (letOwnedTupleGo tg (.ref it) u) (λ _ s2=>∃ x H',Inv X pins σ H' s2/\Z9 x u/\J.yld i H x H'/\tn (i+1) s2.heap/\∀ b ∈ fp,H' b=none) E s1) E s
  done:∀ (X:Cx),X.prog=P->X.w=w->X.K=K->X.calm=true->∀ (i:Nat) (pins:List (Addr × Obj)) (s:Shared) (σ : St) (H:Hp) (E:Value->Shared->Prop),Inv X pins σ H s->(∀ b ∈ fp,ZFq X pins H b)->tn i s.heap->J.stop i H ->
    wpAny (model P w) X.A (pyNext (.ref it)) (λ r s1=>r=none/\Inv X pins σ H s1) E s
  self:∀ (A:Around) (i:Nat) (s:Shared) (Q:Value->Shared->Prop) (E:Value->Shared->Prop),tn i s.heap->Q (.ref it) s->wpAny (model P w) A (pyIter (.ref it)) Q E s
abbrev TI:=St->Hp->(It->Hp->Prop)->Prop
def PIE (X:Cx) (pins:List (Addr × Obj)) (σ : St) (tg:Expr) (R:It->Hp->Prop) (itv:Value) (s2:Shared):Prop :=
 ∃ (it:Addr) (fp:List Addr) (tn:Nat->Heap->Prop) (J:It) (H':Hp),itv=.ref it/\Inv X pins σ H' s2/\Turn X.prog X.w X.K tg J fp it tn/\tn 0 s2.heap/\(∀ b ∈ fp,ZFq X pins H' b)/\R J H'
def PI (X:Cx) (tg iter:Expr) (wi:TI):Prop :=
 ∀ (pins:List (Addr × Obj)) (s:Shared) (σ : St) (H:Hp) (R:It->Hp->Prop),Inv X pins σ H s->wi σ H R ->
  wpAny (model X.prog X.w) X.A (eval iter X.env) (λ v s1=>wpAny (model X.prog X.w) X.A (pyIter v) (PIE X pins σ tg R) X.xe s1) X.xe s
theorem ZOO {M:Model} {A:Around} {E:Value->Shared->Prop} {s:Shared} {tg:Expr} {it:Addr} {u:Value} {o:Obj} {n:String} {vs:Array Value} {Q:Unit->Shared->Prop} (ho:s.heap.get? it=some o) (hc:o.cls=.type n) (hd:o.data=.fields vs)
    (hn:["enumerate","zip","dict_itemiterator","dict_reverseitemiterator","odict_iterator","itertools.zip_longest","itertools.pairwise"].contains n=false) (hQ:Q () s):wpAny M A (letOwnedTupleGo tg (.ref it) u) Q E s:=by
  unfold letOwnedTupleGo
  cases tg <;> first
    | exact wpAny_pure hQ
    | (cases u <;> first
        | exact wpAny_pure hQ
        | (refine wpAny_bind (wpAny_load ho ?_)
           rw [hc,hd]
           show wpAny M A (if (["enumerate","zip","dict_itemiterator","dict_reverseitemiterator","odict_iterator","itertools.zip_longest","itertools.pairwise"].contains n && vs[0]? == some (rawInt _))=true then _ else _) Q E s
           rw [if_neg (by intro h; rw [hn,Bool.false_and] at h; cases h)]
           exact wpAny_pure hQ))
def Itl (K:PySem.W.Frag) (a:Addr):It :=
 ⟨λ i H=>∃ xs x,SqL K H a xs/\xs[i]? = some x,λ i H x H'=>H'=H/\∀ xs,SqL K H a xs->xs[i]? = some x,λ i H=>∃ xs,SqL K H a xs/\xs.length<=i⟩
def Itt (K:PySem.W.Frag) (a:Addr):It :=
 ⟨λ i H=>∃ xs x,SqT K H a xs/\xs[i]? = some x,λ i H x H'=>H'=H/\∀ xs,SqT K H a xs->xs[i]? = some x,λ i H=>∃ xs,SqT K H a xs/\xs.length<=i⟩
def Itr (lo:Int) (n:Nat):It:=⟨λ i _=>i < n,λ i H x H'=>H'=H/\x=.int (lo+i),λ i _=>n<=i⟩
theorem ZMP {P:Program} {w:World} {K:PySem.W.Frag} {tg:Expr} (a it:Addr):Turn P w K tg (Itl K a) [it] it (λ i h=>h.IsListIter it a i) where
 mem:=by simp
 obj:=λ i h st b hb=>by
  have e:b=it:=by simpa using hb
  subst e
  obtain ⟨o,e,c,d⟩:=st
  exact ⟨o,e,λ v z=>by rw [d] at z; cases z⟩
 keep:=λ i h h' st k=>st.at λ o e=>k it (by simp) o e
 item:=by
  intro X hP hw hK hc i pins s σ H E I hf st hg
  subst hP hw hK
  obtain ⟨xs,x,hq,hx⟩:=hg
  obtain ⟨its,rv,p,hz⟩:=I.list hq
  obtain ⟨u,hu,ru⟩:=rv.get hx
  obtain ⟨f0,f1,f2,f3,f4,f5⟩:=hf it (by simp)
  refine wpAny_pyNext_list_item st p.isList (x:=u) (by simpa using hu) λ h' st' sb=>?_
  have I1:Inv X pins σ H { s with heap:=h' }:=I.turned (t':=s.toks) (λ b o hb e=>(sb.2 b hb).trans e) f0 f1 f3 f4 f5
  obtain ⟨o,e,c,d⟩:=id st'
  exact ⟨u,rfl,ZOO (s:={ s with heap:=h' }) e c d (by decide) ⟨x,H,I1,ru,⟨rfl,λ ys hy=>by rw [I.list_inj hy hq]; exact hx⟩,st',λ b hb=>(hf b hb).1⟩⟩
 done:=by
  intro X hP hw hK hc i pins s σ H E I hf st hg
  subst hP hw hK
  obtain ⟨xs,hq,hx⟩:=hg
  obtain ⟨its,rv,p,hz⟩:=I.list hq
  obtain ⟨f0,f1,f2,f3,f4,f5⟩:=hf it (by simp)
  have hl:=rv.length
  exact wpAny_pyNext_list_end (I.ok.hd hc) st p.isList (by simp; omega) λ h' eb=>⟨rfl,I.turned (t':=s.toks) (λ b o hb e=>eb b o hb e) f0 f1 f3 f4 f5⟩
 self:=λ _ _ _ _ _ st h=>wpAny_pyIter_listiter st h
theorem ZKa {P:Program} {w:World} {K:PySem.W.Frag} {tg:Expr} (a it:Addr):Turn P w K tg (Itt K a) [it] it (λ i h=>h.IsTupleIter it a i) where
 mem:=by simp
 obj:=λ i h st b hb=>by
  have e:b=it:=by simpa using hb
  subst e
  obtain ⟨o,e,c,d⟩:=st
  exact ⟨o,e,λ v z=>by rw [d] at z; cases z⟩
 keep:=λ i h h' st k=>st.at λ o e=>k it (by simp) o e
 item:=by
  intro X hP hw hK hc i pins s σ H E I hf st hg
  subst hP hw hK
  obtain ⟨xs,x,hq,hx⟩:=hg
  obtain ⟨its,rv,p,hz⟩:=I.tuple hq
  obtain ⟨u,hu,ru⟩:=rv.get hx
  obtain ⟨f0,f1,f2,f3,f4,f5⟩:=hf it (by simp)
  refine wpAny_pyNext_tuple_item st (show s.heap.IsTuple a its.toArray from p) (x:=u) (by simpa using hu) λ h' st' sb=>?_
  have I1:Inv X pins σ H { s with heap:=h' }:=I.turned (t':=s.toks) (λ b o hb e=>(sb.2 b hb).trans e) f0 f1 f3 f4 f5
  obtain ⟨o,e,c,d⟩:=id st'
  exact ⟨u,rfl,ZOO (s:={ s with heap:=h' }) e c d (by decide) ⟨x,H,I1,ru,⟨rfl,λ ys hy=>by rw [I.tuple_inj hy hq]; exact hx⟩,st',λ b hb=>(hf b hb).1⟩⟩
 done:=by
  intro X hP hw hK hc i pins s σ H E I hf st hg
  subst hP hw hK
  obtain ⟨xs,hq,hx⟩:=hg
  obtain ⟨its,rv,p,hz⟩:=I.tuple hq
  obtain ⟨f0,f1,f2,f3,f4,f5⟩:=hf it (by simp)
  have hl:=rv.length
  exact wpAny_pyNext_tuple_end (I.ok.hd hc) st (show s.heap.IsTuple a its.toArray from p) (by simp; omega) λ h' eb=>⟨rfl,I.turned (t':=s.toks) (λ b o hb e=>eb b o hb e) f0 f1 f3 f4 f5⟩
 self:=λ _ _ _ _ _ st h=>wpAny_pyIter_tupleiter st h
theorem ZKo {P:Program} {w:World} {K:PySem.W.Frag} {tg:Expr} (it:Addr) (lo:Int) (n:Nat):Turn P w K tg (Itr lo n) [it] it (λ i h=>IsRangeIter h it (lo+(i:Nat) * 1) ((n:Int) - (i:Nat)) 1) where
 mem:=by simp
 obj:=λ i h st b hb=>by
  have e:b=it:=by simpa using hb
  subst e
  exact ⟨_,st,λ v z=>by
   have z':Data.fields _=Data.cell v:=z
   cases z'⟩
 keep:=λ i h h' st k=>k it (by simp) _ st
 item:=by
  intro X hP hw hK hc i pins s σ H E I hf st hg
  subst hP hw hK
  obtain ⟨f0,f1,f2,f3,f4,f5⟩:=hf it (by simp)
  have W:=Walks.range (prog:=X.prog) (w:=X.w) (I.ok.hd hc) it lo 1 n
  refine W.item i s _ _ hg st λ v h' tk hv st' kk=>?_
  obtain ⟨t,rfl⟩:=hv
  have I1:Inv X pins σ H { s with heap:=h',toks:=tk }:=I.turned (λ b o hb e=>kk b o (by simpa using hb) e) f0 f1 f3 f4 f5
  refine ⟨_,rfl,ZOO (s:={ s with heap:=h',toks:=tk }) (n:="range_iterator") st' rfl rfl (by decide) ⟨.int (lo+i),H,I1,⟨t,?_⟩,⟨rfl,rfl⟩,st',λ b hb=>(hf b hb).1⟩⟩
  rw [Int.mul_one]
 done:=by
  intro X hP hw hK hc i pins s σ H E I hf st hg
  subst hP hw hK
  obtain ⟨f0,f1,f2,f3,f4,f5⟩:=hf it (by simp)
  exact wpAny_pyNext_range_end (I.ok.hd hc) st (by have:n<=i:=hg; omega) λ h' eb=>⟨rfl,I.turned (t':=s.toks) (λ b o hb e=>eb b o hb e) f0 f1 f3 f4 f5⟩
 self:=λ _ _ _ _ _ st h=>wpAny_pyIter_rangeiter st h
end L2
namespace L2
open PySem PySem.Spec PyProof.Rows
section
variable {X:Cx} {tg:Expr}
theorem ZJu {pins:List (Addr × Obj)} {σ : St} {H:Hp} {s:Shared} {R:It->Hp->Prop} {E:Value->Shared->Prop} {lo hi:Int} {t u v:Tok} {tk:Nat} (I:Inv X pins σ H s) (h1 : -(2 ^ 62)<=lo) (h2:lo < 2 ^ 62) (h3 : -(2 ^ 62)<=hi) (h4:hi < 2 ^ 62)
  (q:R (Itr lo (hi - lo).toNat) H):wpAny (model X.prog X.w) X.A (pyIter (.ref s.heap.objs.size)) (PIE X pins σ tg R) E { s with heap:=s.heap.push { cls:=.type "range",data:=.fields #[.int lo t,.int hi u,.int 1 v] },toks:=tk }:=by
 refine wpAny_pyIter_range (IsRange.new ..) (small_one h1 h2 h3 h4) ?_
 have I1:Inv X pins σ H { s with heap:=s.heap.push { cls:=.type "range",data:=.fields #[.int lo t,.int hi u,.int 1 v] },toks:=tk }:=I.kept λ b o e=>Heap.get?_push_of_some _ e
 refine ⟨(s.heap.push { cls:=.type "range",data:=.fields #[.int lo t,.int hi u,.int 1 v] }).objs.size,[(s.heap.push { cls:=.type "range",data:=.fields #[.int lo t,.int hi u,.int 1 v] }).objs.size],_,_,H,rfl,
  I1.kept (t':=tk) λ b o e=>Heap.get?_push_of_some _ e,ZKo _ lo (hi - lo).toNat,?_,λ b hb=>?_,q⟩
 ·have e1:lo+((0:Nat):Int) * 1=lo:=by simp
  have e2:(((hi - lo).toNat:Nat):Int) - ((0:Nat):Int)=Builtin.Range.rangeSize lo hi 1:=by rw [rangeSize_one]; split <;> omega
  show IsRangeIter _ _ (lo+((0:Nat):Int) * 1) ((((hi - lo).toNat:Nat):Int) - ((0:Nat):Int)) 1
  rw [e1,e2]
  exact Heap.get?_push_size _ rfl
 ·have e:b=(s.heap.push { cls:=.type "range",data:=.fields #[.int lo t,.int hi u,.int 1 v] }).objs.size:=by simpa using hb
  subst e
  exact I1.fpOk (Nat.le_refl _) (I1.hok.fresh (Nat.le_refl _))
def iRng1 (ta:TA):TI:=λ σ H R=>ta σ H λ vs H1=>∃ j:Int,vs=[.int j]/\-(2 ^ 62)<=j/\j < 2 ^ 62/\R (Itr 0 j.toNat) H1
def iRng2 (ta:TA):TI:=λ σ H R=>ta σ H λ vs H1=>∃ i j:Int,vs=[.int i,.int j]/\(-(2 ^ 62)<=i/\i < 2 ^ 62/\-(2 ^ 62)<=j/\j < 2 ^ 62)/\R (Itr i (j - i).toNat) H1
theorem ZL3 {a:Expr} {ta:TA} {p pos:Pos} (hg:Gl X "range") (hm:X.mg "range" = none) (ha:PA X [a] ta) (hs:starEach [a] X.env=[(false,eval a X.env)]:=by rfl):PI X tg (.Call (.Name "range" p) [a] [] pos) (iRng1 ta):=by
 intro pins s σ H R I h
 refine Call_ (ZEf I hg hm boot_range (PyProof.Rows.callWith_type1 (thn (ha pos pins s σ H _ I h) λ us s1 ⟨vs,H1,I1,r1,q1⟩=>?_) hs rfl))
 obtain ⟨j,e,q1,q2,q⟩:=q1
 subst e
 cases r1 with
 | cons r rr =>
  cases rr
  obtain ⟨t,rfl⟩:=r
  exact call_range_1 (ZJu I1 (by omega) (by omega) q1 q2 (by simpa using q))
theorem ZLu {a b:Expr} {ta:TA} {p pos:Pos} (hg:Gl X "range") (hm:X.mg "range" = none) (ha:PA X [a,b] ta) (hs:starEach [a,b] X.env=[(false,eval a X.env),(false,eval b X.env)]:=by rfl) (hs2:starEach [b] X.env=[(false,eval b X.env)]:=by rfl) :
  PI X tg (.Call (.Name "range" p) [a,b] [] pos) (iRng2 ta):=by
 intro pins s σ H R I h
 refine Call_ (ZEf I hg hm boot_range (PyProof.Rows.callWith_type1 (thn (ha pos pins s σ H _ I h) λ us s1 ⟨vs,H1,I1,r1,q1⟩=>?_) (by rw [hs,hs2]) (by rw [hs2]; rfl)))
 obtain ⟨i,j,e,⟨q1,q2,q3,q4⟩,q⟩:=q1
 subst e
 cases r1 with
 | cons r rr =>
  cases rr with
  | cons r' rr =>
   cases rr
   obtain ⟨t,rfl⟩:=r
   obtain ⟨t',rfl⟩:=r'
   exact call_range_2 (ZJu I1 q1 q2 q3 q4 q)
def tFor (wi:TI) (g:TG) (tb:TS):TS:=λ D σ H=>wi σ H λ J H1=>∃ W:Nat->Nat->St->Hp->Prop,(∃ m,W 0 m σ H1)/\∀ i m σ H,W i m σ H ->
 (J.stop i H/\D.nx σ H) ∨ (J.go i H/\∃ N:St->Hp->Prop,(∀ σ' H',N σ' H'->∃ m',m' < m/\W (i+1) m' σ' H')/\∀ x H',J.yld i H x H'->g x σ H' λ σ2 H2=>tb { D with nx:=N,ct:=N,bk:=D.nx } σ2 H2)
def ZFT (fp:List Addr) (h:Heap):List (Addr × Obj):=fp.filterMap λ b=>(h.get? b).map λ o=>(b,o)
theorem ZDX {fp:List Addr} {h:Heap} {b:Addr} {o:Obj} (hb:b ∈ fp) (e:h.get? b=some o):(b,o) ∈ ZFT fp h:=List.mem_filterMap.mpr ⟨b,hb,by rw [e]; rfl⟩
theorem ZMC {fp:List Addr} {h:Heap} {p:Addr × Obj} (hp:p ∈ ZFT fp h):p.1 ∈ fp/\h.get? p.1=some p.2:=by
 obtain ⟨b,hb,e⟩:=List.mem_filterMap.mp hp
 cases q:h.get? b with
 | none=>rw [q] at e; cases e
 | some o =>
  rw [q] at e
  have e':(b,o)=p:=Option.some.inj e
  subst e'
  exact ⟨hb,q⟩
theorem Inv.pinned {pins:List (Addr × Obj)} {σ : St} {H:Hp} {s:Shared} {fp:List Addr} (I:Inv X pins σ H s) (hf:∀ b ∈ fp,ZFq X pins H b) (ho:∀ b ∈ fp,∃ o,s.heap.get? b=some o/\∀ v,o.data ≠ .cell v):Inv X (pins ++ ZFT fp s.heap) σ H s :=
 I.pins_of λ p hp=>(List.mem_append.mp hp).elim (λ z=>I.pin p (List.mem_append_right _ z)) λ z=>by
  obtain ⟨hb,e⟩:=ZMC z
  obtain ⟨f0,f1,f2,_⟩:=hf p.1 hb
  obtain ⟨o,e',d⟩:=ho p.1 hb
  rw [e] at e'; cases e'
  exact ⟨e,f0,f1,f2,d⟩
theorem Inv.unpinned {pins pl:List (Addr × Obj)} {σ : St} {H:Hp} {s:Shared} (I:Inv X (pins ++ pl) σ H s):Inv X pins σ H s:=I.pins_of λ p hp=>I.pin p (List.mem_append_right _ (List.mem_append_left _ hp))
theorem ZRY {iter:Expr} {body:List Stmt} {wi:TI} {g:TG} {tb:TS} {pos:Pos} (hp:PassesOwn (model X.prog X.w) X.A X.env X.xe) (hc:X.calm=true) (hi:PI X tg iter wi) (hg:PG X tg g) (hb:PSs X body tb)
  (hs:∀ x,foldedSetIterable iter X.env x=pure x:=by intro _; rfl):PS X (.For tg iter body [] pos) (tFor wi g tb):=by
 intro pins s σ H D I h
 refine wpAny_For (thn (hi pins s σ H _ I h) λ v s1 h1=>thn h1 λ itv s2 h2=>?_) hs
 obtain ⟨it,fp,tn,J,H2,e,I2,T,st2,f2,W,⟨m0,w0⟩,turn⟩:=h2
 subst e
 -- what stays true of the iterator's objects through the loop
 have stat:∀ {H':Hp},(∀ b ∈ fp,H' b=none)->∀ b ∈ fp,ZFq X pins H' b:=λ hn b hb=>⟨hn b hb,(f2 b hb).2⟩
 refine codeAny_forLoop_any (λ n s'=>∃ i σ' H',Inv X pins σ' H' s'/\tn i s'.heap/\(∀ b ∈ fp,H' b=none)/\W i n σ' H') ?_ m0 ⟨0,σ,H2,I2,st2,λ b hb=>(f2 b hb).1,w0⟩
 rintro n s3 ⟨i,σ3,H3,I3,st3,fr3,w3⟩
 rcases turn i n σ3 H3 w3 with ⟨stop,qn⟩ | ⟨go,N,hN,step⟩
 ·refine wpAny_passesOwn hp (thn (T.done X rfl rfl rfl hc i pins s3 σ3 H3 X.xe I3 (stat fr3) st3 stop) λ r s4 ⟨hr,I4⟩=>?_)
  subst hr
  exact wpAny_execs_nil ⟨σ3,H3,I4,qn⟩
 ·refine wpAny_passesOwn hp (thn (T.item X rfl rfl rfl hc i pins s3 σ3 H3 X.xe I3 (stat fr3) st3 go) λ r s4 ⟨u,hr,h4⟩=>?_)
  subst hr
  refine wpAny_passesOwn hp (thn h4 λ _ s5 ⟨x,H5,I5,r5,y5,st5,fr5⟩=>?_)
  have I5':=I5.pinned (stat fr5) (T.obj _ _ st5)
  refine wpAny_passesOwn hp (thn (hg _ s5 σ3 H5 x u _ I5' r5 (step x H5 y5)) λ _ s6 ⟨σ6,H6,I6,q6⟩=>?_)
  refine wpAny_passesOwn hp (thn (hb _ s6 σ6 H6 _ I6 q6) λ f s7 q7=>?_)
  have again:∀ {σ7:St} {H7:Hp},Inv X (pins ++ ZFT fp s5.heap) σ7 H7 s7->N σ7 H7->∃ m,m < n/\∃ i σ' H',Inv X pins σ' H' s7/\tn i s7.heap/\(∀ b ∈ fp,H' b=none)/\W i m σ' H':=λ {σ7 H7} I7 n7=>by
   obtain ⟨m',hm,w7⟩:=hN σ7 H7 n7
   refine ⟨m',hm,i+1,σ7,H7,I7.unpinned,T.keep _ _ _ st5 λ b hb o e=>(I7.pin (b,o) (List.mem_append_right _ (List.mem_append_right _ (ZDX hb e)))).1,λ b hb=>?_,w7⟩
   obtain ⟨o,e,d⟩:=T.obj _ _ st5 b hb
   exact (I7.pin (b,o) (List.mem_append_right _ (List.mem_append_right _ (ZDX hb e)))).2.1
  cases f with
  | next=>obtain ⟨σ7,H7,I7,n7⟩:=q7; exact again I7 n7
  | cont=>obtain ⟨σ7,H7,I7,n7⟩:=q7; exact again I7 n7
  | brk=>obtain ⟨σ7,H7,I7,q7⟩:=q7; exact ⟨σ7,H7,I7.unpinned,q7⟩
  | ret v=>obtain ⟨x7,σ7,H7,I7,r7,q7⟩:=q7; exact ⟨x7,σ7,H7,I7.unpinned,r7,q7⟩
end
end L2
namespace L2
open PySem PySem.Spec PyProof.Rows
abbrev R2:=V->V->Hp->VK->Prop
def OpR (X:Cx) (f:Value->Value->Sem Value) (r:R2):Prop :=
 ∀ (pins:List (Addr × Obj)) (s:Shared) (σ : St) (H:Hp) (x y:V) (v u:Value) (Q:VK),Inv X pins σ H s->Z9 x v->Z9 y u->r x y H Q ->
  wpAny (model X.prog X.w) X.A (f v u) (EP X pins σ Q) X.xe s
def ZAG (X:Cx) (f:Value) (r:List V->Hp->VK->Prop):Prop :=
 ∀ (pins:List (Addr × Obj)) (s:Shared) (σ : St) (H:Hp) (xs:List V) (us:List Value) (Q:VK),Inv X pins σ H s->Zu xs us->r xs H Q ->
  wpAny (model X.prog X.w) X.A (call f us) (EP X pins σ Q) X.xe s
def tOp (r:R2) (ta tb:TE):TE:=λ σ H Q=>ta σ H λ x H1=>tb σ H1 λ y H2=>r x y H2 Q
def rI (C:Int->Int->Prop) (g:Int->Int->V):R2:=λ x y H Q=>∃ i j,x=.int i/\y=.int j/\C i j/\Q (g i j) H
def rI0 (g:Int->Int->V):R2:=λ x y H Q=>∃ i j,x=.int i/\y=.int j/\Q (g i j) H
section
variable {X:Cx} {a b c:Expr} {ta tb tc:TE} {pos:Pos}
theorem ZRX (ha:PE X a ta) (hb:PE X b tb) {pins:List (Addr × Obj)} {s:Shared} {σ : St} {H:Hp} {R:V->V->Hp->Prop} (I:Inv X pins σ H s)
  (h:ta σ H λ x H1=>tb σ H1 λ y H2=>R x y H2) {Q:Value->Shared->Prop} {f:Value->Value->Sem Value}
  (hf:∀ v u s2 x y H2,Inv X pins σ H2 s2->Z9 x v->Z9 y u->R x y H2->wpAny (model X.prog X.w) X.A (f v u) Q X.xe s2) :
  wpAny (model X.prog X.w) X.A (eval a X.env) (λ v s₁=>wpAny (model X.prog X.w) X.A (eval b X.env) (λ u s₂=>wpAny (model X.prog X.w) X.A (f v u) Q X.xe s₂) X.xe s₁) X.xe s:=by
 refine thn (ha pins s σ H _ I h) λ v s1 ⟨x,H1,I1,r1,q1⟩=>?_
 refine thn (hb pins s1 σ H1 _ I1 q1) λ u s2 ⟨y,H2,I2,r2,q2⟩=>?_
 exact hf v u s2 x y H2 I2 r1 r2 q2
theorem ZQW {op:Operator} {r:R2} (ho:OpR X (binaryOp op) r) (ha:PE X a ta) (hb:PE X b tb):PE X (.BinOp a op b pos) (tOp r ta tb):=by
 intro pins s σ H Q I h
 exact wpAny_BinOp (ZRX ha hb I h λ v u s2 x y H2 I2 rx ry q=>ho pins s2 σ H2 x y v u Q I2 rx ry q)
theorem opI {f:Value->Value->Sem Value} {C:Int->Int->Prop} {g:Int->Int->Int}
  (rule:∀ (i j:Int) (t u:Tok) (s:Shared) (Q:Value->Shared->Prop) (E:Value->Shared->Prop),C i j->Q (.int (g i j) s.toks) { s with toks:=s.toks+1 }->wpAny (model X.prog X.w) X.A (f (.int i t) (.int j u)) Q E s) :
  OpR X f (rI C λ i j=>.int (g i j)):=by
 intro pins s σ H x y v u Q I rx ry h
 obtain ⟨i,j,rfl,rfl,hc,q⟩:=h
 obtain ⟨t,rfl⟩:=rx
 obtain ⟨t',rfl⟩:=ry
 exact rule i j t t' s _ _ hc ⟨.int (g i j),H,I.tok _,⟨_,rfl⟩,q⟩
theorem ZSX {f:Value->Value->Sem Value} {g:Int->Int->Int}
  (rule:∀ (i j:Int) (t u:Tok) (s:Shared) (Q:Value->Shared->Prop) (E:Value->Shared->Prop),Q (.int (g i j) s.toks) { s with toks:=s.toks+1 }->wpAny (model X.prog X.w) X.A (f (.int i t) (.int j u)) Q E s) :
  OpR X f (rI0 λ i j=>.int (g i j)):=by
 intro pins s σ H x y v u Q I rx ry h
 obtain ⟨i,j,rfl,rfl,q⟩:=h
 obtain ⟨t,rfl⟩:=rx
 obtain ⟨t',rfl⟩:=ry
 exact rule i j t t' s _ _ ⟨.int (g i j),H,I.tok _,⟨_,rfl⟩,q⟩
theorem ZPA {f:Value->Value->Sem Value} {g:Int->Int->Bool}
  (rule:∀ (i j:Int) (t u:Tok) (s:Shared) (Q:Value->Shared->Prop) (E:Value->Shared->Prop),Q (.bool (g i j)) s->wpAny (model X.prog X.w) X.A (f (.int i t) (.int j u)) Q E s) :
  OpR X f (rI0 λ i j=>.bl (g i j)):=by
 intro pins s σ H x y v u Q I rx ry h
 obtain ⟨i,j,rfl,rfl,q⟩:=h
 obtain ⟨t,rfl⟩:=rx
 obtain ⟨t',rfl⟩:=ry
 exact rule i j t t' s _ _ ⟨.bl (g i j),H,I,rfl,q⟩
def ZSQ (i j:Int):Prop:=0<=j/\j<=1000000/\i.natAbs < 2 ^ 64
def ZPP (i j:Int):Prop:=(-(2 ^ 64) < i/\i < 2 ^ 64) ∨ (-(2 ^ 64) < j/\j < 2 ^ 64)
theorem ZPP.ok {i j:Int} (h:ZPP i j):IntMulOk i j:=by
 rcases h with ⟨h1,h2⟩ | ⟨h1,h2⟩
 ·exact .of_left (intBits_le_64 h1 h2)
 ·exact .of_right (intBits_le_64 h1 h2)
theorem ZQn:OpR X (binaryOp .Add) (rI0 λ i j=>.int (i+j)):=ZSX λ _ _ _ _ _ _ _ q=>add_int q
theorem ZRI:OpR X (binaryOp .Sub) (rI0 λ i j=>.int (i - j)):=ZSX λ _ _ _ _ _ _ _ q=>sub_int q
theorem ZRF:OpR X (binaryOp .Mult) (rI ZPP λ i j=>.int (i * j)):=opI λ _ _ _ _ _ _ _ hc q=>mul_int q hc.ok
theorem ZRG:OpR X (binaryOp .Mod) (rI (λ _ j=>0 < j) λ i j=>.int (i % j)):=opI λ i j _ _ _ _ _ hc q=>by
 have h1:(0:Int) < j:=hc
 exact mod_int' (by omega) (by rw [Int.fmod_eq_emod_of_nonneg i (by omega)]; exact q)
theorem ZR5:OpR X (binaryOp .Pow) (rI ZSQ λ i j=>.int (i ^ j.toNat)):=opI λ _ _ _ _ _ _ _ hc q=>pow_int_small hc.1 hc.2.1 hc.2.2 q
end
section
variable {X:Cx} {a b c:Expr} {ta tb tc:TE} {pos:Pos}
theorem ZQi {pins:List (Addr × Obj)} {σ : St} {H:Hp} {s:Shared} {Q:VK} {k k':Bool} (I:Inv X pins σ H s) (q:Q (.bl k) H) (e:k=k'):EP X pins σ Q (.bool k') s:=by
 subst e
 exact ⟨.bl k,H,I,rfl,q⟩
theorem op_lt:OpR X (compareOp .Lt) (rI0 λ i j=>.bl (decide (i < j))):=ZPA λ _ _ _ _ _ _ _ q=>lt_int q
theorem op_le:OpR X (compareOp .LtE) (rI0 λ i j=>.bl (decide (i<=j))):=ZPA λ _ _ _ _ _ _ _ q=>le_int q
theorem op_gt:OpR X (compareOp .Gt) (rI0 λ i j=>.bl (decide (j < i))):=ZPA λ _ _ _ _ _ _ _ q=>gt_int q
theorem op_ge:OpR X (compareOp .GtE) (rI0 λ i j=>.bl (decide (j<=i))):=ZPA λ _ _ _ _ _ _ _ q=>ge_int q
theorem ZLn:OpR X (compareOp .Lt) (λ x y H Q=>∃ i j,x=.str i/\y=.str j/\Q (.bl (decide (i.cps.toList < j.cps.toList))) H):=by
 intro pins s σ H x y v u Q I rx ry h
 obtain ⟨i,j,rfl,rfl,q⟩:=h
 obtain ⟨t,rfl⟩:=rx
 obtain ⟨t',rfl⟩:=ry
 exact lt_str (ZQi I q rfl)
theorem ZZ (b:Expr) {op:CmpOp} (h:op ≠ .In:=by decide) (h2:op ≠ .NotIn:=by decide):behindInMarks op b=false:=by
 have e1:(op == CmpOp.In)=false:=by cases op <;> first | rfl | exact absurd rfl h
 have e2:(op == CmpOp.NotIn)=false:=by cases op <;> first | rfl | exact absurd rfl h2
 cases b <;> simp [behindInMarks,e1,e2]
theorem ZP9 {op:CmpOp} {r:R2} (ho:OpR X (compareOp op) r) (ha:PE X a ta) (hb:PE X b tb) (hm:behindInMarks op b=false):PE X (.Compare a [op] [b] pos) (tOp r ta tb):=by
 intro pins s σ H Q I h
 exact wpAny_Compare1 (ZRX ha hb I h λ v u s2 x y H2 I2 rx ry q=>ho pins s2 σ H2 x y v u Q I2 rx ry q) hm
def ZQX (t:TE):TT:=λ σ H Q=>t σ H λ x H'=>∃ k,x=.bl k/\Q k H'
theorem ZO2 {op:CmpOp} {r:R2} (ho:OpR X (compareOp op) r) (ha:PE X a ta) (hb:PE X b tb) (hm:behindInMarks op b=false):PT X (.Compare a [op] [b] pos) (ZQX (tOp r ta tb)):=by
 intro pins s σ H Q I h
 refine wpAny_isTrue_Compare1 (thn (ha pins s σ H _ I h) λ v s1 ⟨x,H1,I1,r1,q1⟩=>thn (hb pins s1 σ H1 _ I1 q1) λ u s2 ⟨y,H2,I2,r2,q2⟩ =>
  thn (ho pins s2 σ H2 x y v u _ I2 r1 r2 q2) λ c s3 ⟨z,H3,I3,r3,k,e,q3⟩=>?_) hm
 subst e
 cases r3
 exact wpAny_truthy_bool ⟨H3,I3,q3⟩
theorem ZIA:(sizeLine:Nat) < 2 ^ 63:=by rw [sizeLine_eq]; decide
theorem ZKf:OpR X (binaryOp .Add) (λ x y H Q=>∃ i j,x=.str i/\y=.str j/\i.length+j.length<=sizeLine/\Q (.str (i ++ j)) H):=by
 intro pins s σ H x y v u Q I rx ry h
 obtain ⟨i,j,rfl,rfl,hz,q⟩:=h
 obtain ⟨t,rfl⟩:=rx
 obtain ⟨t',rfl⟩:=ry
 exact add_str (λ t' tk=>⟨.str (i ++ j),H,I.tok _,⟨_,rfl⟩,q⟩) hz
theorem ZEM {x:V} {us:List Value} (r:Zu [x] us):∃ u,us=[u]/\Z9 x u:=by
 cases r with
 | cons r1 r2=>cases r2; exact ⟨_,rfl,r1⟩
theorem ZQQ {x y:V} {us:List Value} (r:Zu [x,y] us):∃ u w',us=[u,w']/\Z9 x u/\Z9 y w':=by
 cases r with
 | cons r1 r2 =>
  cases r2 with
  | cons r3 r4=>cases r4; exact ⟨_,_,rfl,r1,r3⟩
theorem ZN8:ZAG X (.builtin "abs") (λ xs H Q=>∃ i,xs=[.int i]/\Q (.int (if i < 0 then -i else i)) H):=by
 intro pins s σ H xs us Q I r h
 obtain ⟨i,rfl,q⟩:=h
 obtain ⟨u,rfl,t,rfl⟩:=ZEM r
 exact call_abs_int λ u tk=>⟨.int (if i < 0 then -i else i),H,I.tok _,⟨_,rfl⟩,q⟩
theorem ZLf (hc:X.calm=true):ZAG X (.builtin "min") (λ xs H Q=>∃ i j,xs=[.int i,.int j]/\Q (.int (if j < i then j else i)) H):=by
 intro pins s σ H xs us Q I r h
 obtain ⟨i,j,rfl,q⟩:=h
 obtain ⟨u,w',rfl,⟨t,rfl⟩,⟨t',rfl⟩⟩:=ZQQ r
 refine min_two_ints (I.ok.hd hc) λ h' tk k=>⟨_,H,I.kept k,?_,q⟩
 by_cases hj:j < i
 ·rw [if_pos hj,if_pos hj]; exact ⟨_,rfl⟩
 ·rw [if_neg hj,if_neg hj]; exact ⟨_,rfl⟩
theorem ZMU:ZAG X (.type "int") (λ xs H Q=>(∃ i,xs=[.int i]/\Q (.int i) H) ∨ ∃ k,xs=[.bl k]/\Q (.int (if k then 1 else 0)) H):=by
 intro pins s σ H xs us Q I r h
 rcases h with ⟨i,rfl,q⟩ | ⟨k,rfl,q⟩
 ·obtain ⟨u,rfl,t,rfl⟩:=ZEM r
  exact call_int_int ⟨.int i,H,I,⟨_,rfl⟩,q⟩
 ·obtain ⟨u,rfl,r1⟩:=ZEM r
  cases r1
  exact call_int_bool ⟨.int (if k then 1 else 0),H,I.tok _,⟨_,rfl⟩,q⟩
end
end L2
namespace L2
open PySem PySem.Spec PyProof.Rows
structure ObjM (h:Heap) (x dx C:Addr) (mA:Str->Option Value):Prop where
 obj:h.get? x=some (PySem.W.instObj C dx)
 ns:h.Ns1 dx mA
 ne:dx ≠ x
theorem ZMQ {h:Heap} {dx:Addr} {mA:Str->Option Value} (n:h.Ns1 dx mA):∃ od,h.get? dx=some od/\∀ name,PySem.W.lookIn name od=some (mA name):=by
 obtain ⟨o,es,ep,ho,hd,hk,_,hm⟩:=n
 refine ⟨o,ho,λ name=>?_⟩
 have e:=hm name
 unfold nsFind findBy at e
 rw [← Array.find?_toList] at e
 unfold PySem.W.lookIn
 rw [hd]
 dsimp only
 split
 ·rename_i y q
  rw [q] at e
  exact congrArg some e
 ·rename_i q
  rw [q] at e
  have a:es.toList.any (·.refKey)=false:=by
   rw [List.any_eq_false]
   intro y hy
   obtain ⟨z,t,hkey⟩:=hk y (Array.mem_toList_iff.mp hy)
   simp [DictEntry.refKey,hkey]
  have a' : ¬ es.toList.any (·.refKey)=true:=by rw [a]; exact Bool.false_ne_true
  rw [if_neg a']
  exact congrArg some e
theorem ObjM.look {h:Heap} {x dx C:Addr} {mA:Str->Option Value} (I:ObjM h x dx C mA):∃ od,PySem.W.InstAt h x (PySem.W.instObj C dx) C (some od)/\∀ name,PySem.W.lookIn name od=some (mA name) :=
 let ⟨od,ho,hl⟩:=ZMQ I.ns
 ⟨od,⟨I.obj,rfl,rfl,ho⟩,hl⟩
section
variable {prog:Program} {w:World} {A:Around} {E:Value->Shared->Prop} {s:Shared} {K:PySem.W.Frag} {x dx C f:Addr} {mA:Str->Option Value} {name:Str} {v:Value}
theorem ZOY {expr:Bool} {Q:Value->Shared->Prop} (X:K.In s.heap) (I:ObjM s.heap x dx C mA) (hg:PySem.W.plainGet K C name=true) (hh:PySem.W.hasDictIn K C=true)
  (ha:PySem.W.findIn K (.ref C) name=some none) (hv:mA name=some v) (hv':PySem.W.handedIn v=true) (h:Q v { s with toks:=s.toks+1 }) :
  wpAny (model prog w) A (getAttr (.ref x) name expr) Q E s:=by
 obtain ⟨od,J,hl⟩:=I.look
 exact PySem.W.get_value X J (PySem.W.plainGet_of hg).1 (PySem.W.findObj_own hh ha rfl (by rw [hl,hv])) hv' h
theorem ZM4 {pl:Sem Bool} {Q:Value × List Value->Shared->Prop} (X:K.In s.heap) (I:ObjM s.heap x dx C mA) (hg:PySem.W.plainGet K C name=true)
  (hf:PySem.W.findIn K (.ref C) name=some (some (.ref f))) (ht:PySem.W.isFn K (.ref f)=true) (hv:mA name=none) (h:Q (.ref f,[.ref x]) s) :
  wpAny (model prog w) A (getMethod (.ref x) name pl) Q E s:=by
 obtain ⟨od,J,hl⟩:=I.look
 exact PySem.W.method_fn X J (PySem.W.plainGet_of hg).1 (PySem.W.plainGet_of hg).2 hf (beq_iff_eq.mp ht) (by show (PySem.W.lookIn name od).map (·.isSome)=some false; rw [hl,hv]; rfl) h
theorem ZO9 {ns:List Str} {Q:Unit->Shared->Prop} (X:K.In s.heap) (I:ObjM s.heap x dx C mA)
  (hs:PySem.W.findIn K (.ref C) "__setattr__" = some (some (.builtin "object.__setattr__"))) (hp:PySem.W.plainOver K C=true) (ht:PySem.W.takerIn K C name=some none) (hh:PySem.W.hasDictIn K C=true)
  (hw:PySem.Within mA ns) (hsz:ns.length<=sizeLine)
  (h:∀ h',ObjM h' x dx C (λ y=>if y=name then some v else mA y)->Heap.SameBut dx s.heap h'->Q () { s with heap:=h',toks:=s.toks+2 }) :
  wpAny (model prog w) A (setAttr (.ref x) name v) Q E s:=by
 obtain ⟨od,J,hl⟩:=I.look
 refine PySem.W.set_plain X J hs (PySem.W.osa_open (s:={ s with toks:=s.toks+1 }) (r:=none) X J hp ht λ b=>?_)
 obtain ⟨cd,hc,hd'⟩:=PySem.W.any_some hh
 have hx:s.heap.get? x=some ⟨.ref C,some dx,.plain,#[]⟩:=I.obj
 refine wpAny_bind (wpAny_pure (wpAny_bind (wpAny_bind (wpAny_loadPart hx (wpAny_bind (PySem.W.Looks.here (s:={ s with toks:=s.toks+1 }) (PySem.W.looks_clsIn X hc) ?_))))))
 rw [hd']
 refine wpAny_pure (a:=some dx) (wpAny_bind (wpAny_pure (wpAny_bind ?_)))
 refine wpAny_nsSet1 (s:={ s with toks:=s.toks+1 }) I.ns λ h' hn2 hs2=>?_
 obtain ⟨oD,esD,epD,hoD,hdD,hcD⟩:=hn2.count (PySem.Within.cons name v hw)
 refine wpAny_bind (wpAny_lookBehind hoD (by rw [hdD]; exact pastItsLine_dict (Nat.le_trans hcD (by rw [List.length_cons]; omega))) ?_)
 exact wpAny_pure (h _ ⟨(hs2.2 _ (Ne.symm I.ne)).trans I.obj,hn2,I.ne⟩ hs2)
theorem ZND {R:Result->Shared->Prop} {vs:List Value} {kw:List (Str × Value)} (X:K.In s.heap) (hm:PySem.W.makesIn K C=true)
  (hi:PySem.W.findIn K (.ref C) "__init__" = some (some (.ref f))) (hf:PySem.W.typeIn K (.ref f)=some (.type "function"))
  (h:codeAny (model prog w) (A.under (.builtin "type.__call__" ⟨.ref C :: vs,kw⟩)) (.call (.ref f) ⟨.ref (s.heap.objs.size+1) :: vs,kw⟩) (PySem.W.InitBack (s.heap.objs.size+1) R)
   { s with heap:=(s.heap.push PySem.W.emptyDict).push (PySem.W.instObj C s.heap.objs.size) }) :
  codeAny (model prog w) A (.call (.ref C) ⟨vs,kw⟩) R s:=by
 obtain ⟨hh,g,d,t,os⟩:=s
 exact PySem.W.make_core (PySem.W.makes_of X hm) (PySem.W.looks_findIn X hi) (λ self=>PySem.W.bind_fn X self hf) (.inl rfl) h
end
def ZC7 (f:Str) (v:V):List (Str × V)->List (Str × V)
 | []=>[(f,v)]
 | (g,x) :: r=>if g=f then (g,v) :: r else (g,x) :: ZC7 f v r
theorem ZFa (f g:Str) (v:V):∀ fs:List (Str × V),(ZC7 f v fs).lookup g=if g=f then some v else fs.lookup g
 | []=>by
  show List.lookup g [(f,v)]=_
  by_cases h:g=f
  ·have hb:(g == f)=true:=beq_iff_eq.mpr h
   simp only [List.lookup,hb,if_pos h]
  ·have hb:(g == f)=false:=beq_eq_false_iff_ne.mpr h
   simp only [List.lookup,hb,if_neg h]
 | (k,x) :: r=>by
  have ih:=ZFa f g v r
  rw [show ZC7 f v ((k,x) :: r)=(if k=f then (k,v) :: r else (k,x) :: ZC7 f v r) from rfl]
  by_cases hk:k=f
  ·rw [if_pos hk]
   by_cases h:g=k
   ·have hb:(g == k)=true:=beq_iff_eq.mpr h
    simp only [List.lookup,hb,if_pos (h.trans hk)]
   ·have hb:(g == k)=false:=beq_eq_false_iff_ne.mpr h
    simp only [List.lookup,hb,if_neg (λ e:g=f=>h (e.trans hk.symm))]
  ·rw [if_neg hk]
   by_cases h:g=k
   ·have hb:(g == k)=true:=beq_iff_eq.mpr h
    simp only [List.lookup,hb,if_neg (λ e:g=f=>hk (h.symm.trans e))]
   ·have hb:(g == k)=false:=beq_eq_false_iff_ne.mpr h
    simp only [List.lookup,hb]
    exact ih
theorem ZFK (f:Str) (v:V):∀ fs:List (Str × V),f ∈ (ZC7 f v fs).map (·.1)/\∀ g,g ∈ fs.map (·.1)->g ∈ (ZC7 f v fs).map (·.1)
 | []=>⟨by simp [ZC7],λ g h=>by simp at h⟩
 | (k,x) :: r=>by
  obtain ⟨i1,i2⟩:=ZFK f v r
  rw [show ZC7 f v ((k,x) :: r)=(if k=f then (k,v) :: r else (k,x) :: ZC7 f v r) from rfl]
  by_cases hk:k=f
  ·rw [if_pos hk]
   subst hk
   exact ⟨by simp,λ g h=>by simpa using h⟩
  ·rw [if_neg hk]
   refine ⟨?_,λ g h=>?_⟩
   ·rw [List.map_cons]
    exact List.mem_cons_of_mem _ i1
   ·rw [List.map_cons] at h ⊢
    rcases List.mem_cons.mp h with e | e
    ·exact List.mem_cons.mpr (.inl e)
    ·exact List.mem_cons_of_mem _ (i2 g e)
theorem ZFe (f:Str) (v:V):∀ fs:List (Str × V),(ZC7 f v fs).length<=fs.length+1
 | []=>by simp [ZC7]
 | (k,x) :: r=>by
  have ih:=ZFe f v r
  rw [show ZC7 f v ((k,x) :: r)=(if k=f then (k,v) :: r else (k,x) :: ZC7 f v r) from rfl]
  by_cases hk:k=f
  ·rw [if_pos hk,List.length_cons,List.length_cons]; omega
  ·rw [if_neg hk,List.length_cons,List.length_cons]; omega
theorem ZHH.some_of {v:V} {o:Option Value} (r:ZHH (some v) o):∃ u,o=some u/\Z9 v u:=by
 cases o with
 | none=>exact (show False from r).elim
 | some u=>exact ⟨u,rfl,r⟩
theorem ZHH.none_of {o:Option Value} (r:ZHH none o):o=none:=by
 cases o with
 | none=>rfl
 | some u=>exact (show False from r).elim
theorem ZMK {v:V} {u:Value} (r:Z9 v u):PySem.W.handedIn u=true:=by
 cases v with
 | non=>cases (show u=Value.none from r); rfl
 | bl b=>cases (show u=Value.bool b from r); rfl
 | int i=>obtain ⟨t,e⟩:=(show ∃ t,u=Value.int i t from r); cases e; rfl
 | str x=>obtain ⟨t,e⟩:=(show ∃ t,u=Value.str x t from r); cases e; rfl
 | byt b=>obtain ⟨t,e⟩:=(show ∃ t,u=Value.bytes b t from r); cases e; rfl
 | flt b=>obtain ⟨t,e⟩:=(show ∃ t,u=Value.float b t from r); cases e; rfl
 | ref a=>cases (show u=Value.ref a from r); rfl
 | ty n=>cases (show u=Value.type n from r); rfl
section
variable {P:Program} {w:World} {H H':Hp} {h h':Heap} {a C dx:Addr} {fs fs':List (Str × V)}
theorem ZIl (hok:HOk P w H h) (e:H a=some (.ins C dx fs)):∃ mA,ObjM h a dx C mA/\(∀ f,ZHH (fs.lookup f) (mA f))/\PySem.Within mA (fs.map (·.1))/\fs.length<=1000/\H dx=some (.own a):=by
 obtain ⟨d,z,ne,ob,mA,n,r,q⟩:=(show ZB7 P w H h a (.ins C dx fs) from hok a _ e)
 exact ⟨mA,⟨ob,n,ne⟩,r,q,z,d⟩
end
structure Cls (K:PySem.W.Frag) (C:Addr):Prop where
 pg:PySem.W.plainGet K C Str.empty=true
 hd:PySem.W.hasDictIn K C=true
 po:PySem.W.plainOver K C=true
 sa:PySem.W.findIn K (.ref C) "__setattr__" = some (some (.builtin "object.__setattr__"))
theorem Cls.get {K:PySem.W.Frag} {C:Addr} (c:Cls K C) (f:Str):PySem.W.plainGet K C f=true:=c.pg
def ZDn (K:PySem.W.Frag) (C:Addr) (f:Str):Prop:=PySem.W.findIn K (.ref C) f=some none
theorem ZDn.taker {K:PySem.W.Frag} {C:Addr} {f:Str} (n:ZDn K C f):PySem.W.takerIn K C f=some none:=by
 unfold PySem.W.takerIn
 rw [show PySem.W.findIn K (.ref C) f=some none from n]
 rfl
structure Meth (K:PySem.W.Frag) (C:Addr) (m:Str) (f:Addr):Prop where
 at_:PySem.W.findIn K (.ref C) m=some (some (.ref f))
 fn:PySem.W.isFn K (.ref f)=true
 kp:PySem.W.keepIn K (.ref f)=true
section
variable {X:Cx} {pins:List (Addr × Obj)} {σ : St} {H:Hp} {s:Shared} {a C dx:Addr} {fs:List (Str × V)} {f:Str} {v:V} {A:Around} {E:Value->Shared->Prop}
theorem ZK0 {b:Bool} {Q:Value->Shared->Prop} (I:Inv X pins σ H s) (e:H a=some (.ins C dx fs)) (c:Cls X.K C) (n:ZDn X.K C f) (l:fs.lookup f=some v)
  (h:∀ u s',Inv X pins σ H s'->Z9 v u->Q u s'):wpAny (model X.prog X.w) A (getAttr (.ref a) f b) Q E s:=by
 obtain ⟨mA,O,r,_,_,_⟩:=ZIl I.hok e
 obtain ⟨u,hu,ru⟩:=ZHH.some_of (v:=v) (o:=mA f) (by rw [← l]; exact r f)
 exact ZOY I.kIn O (c.get f) c.hd n hu (ZMK ru) (h u _ (I.tok _) ru)
theorem ZKN {m:Str} {g:Addr} {pl:Sem Bool} {Q:Value × List Value->Shared->Prop} (I:Inv X pins σ H s) (e:H a=some (.ins C dx fs)) (c:Cls X.K C) (k:Meth X.K C m g) (l:fs.lookup m=none)
  (h:Q (.ref g,[.ref a]) s):wpAny (model X.prog X.w) A (getMethod (.ref a) m pl) Q E s:=by
 obtain ⟨mA,O,r,_,_,_⟩:=ZIl I.hok e
 have hn:mA m=none:=ZHH.none_of (by rw [← l]; exact r m)
 exact ZM4 I.kIn O (c.get m) k.at_ k.fn hn h
theorem ZKs {y:V} {u:Value} {Q:Unit->Shared->Prop} (I:Inv X pins σ H s) (e:H a=some (.ins C dx fs)) (c:Cls X.K C) (n:ZDn X.K C f) (hl:fs.length < 1000) (ry:Z9 y u)
  (h:∀ s',Inv X pins σ (upd H a (.ins C dx (ZC7 f y fs))) s'->Q () s'):wpAny (model X.prog X.w) A (setAttr (.ref a) f u) Q E s:=by
 obtain ⟨mA,O,r,wi,_,ho⟩:=ZIl I.hok e
 have hz:(fs.map (·.1)).length<=sizeLine:=by rw [List.length_map,sizeLine_eq]; omega
 refine ZO9 I.kIn O c.sa c.po n.taker c.hd wi hz λ h' O' sb=>h _ ?_
 have hd:∃ o,h'.get? dx=some o:=let ⟨o,_,_,e',_⟩:=O'.ns; ⟨o,e'⟩
 refine I.write (x:=a) (e:=dx) (by rw [e]; exact True.intro) (.inr ho) (λ b q hb z=>(sb.2 b hb).trans z) hd ?_
 refine ⟨by rw [Zb O.ne]; exact ho,?_,O.ne,O'.obj,_,O'.ns,λ g=>?_,λ g hg=>?_⟩
 ·have:=ZFe f y fs; omega
 ·show ZHH ((ZC7 f y fs).lookup g) (if g=f then some u else mA g)
  rw [ZFa]
  by_cases q:g=f
  ·rw [if_pos q,if_pos q]; exact ry
  ·rw [if_neg q,if_neg q]; exact r g
 ·by_cases q:g=f
  ·rw [q]; exact (ZFK f y fs).1
  ·refine (ZFK f y fs).2 g (wi g λ z=>hg ?_)
   show (if g=f then some u else mA g)=none
   rw [if_neg q]; exact z
theorem Inv.made (I:Inv X pins σ H s):Inv X pins σ (upd (upd H s.heap.objs.size (.own (s.heap.objs.size+1))) (s.heap.objs.size+1) (.ins C s.heap.objs.size []))
  { s with heap:=(s.heap.push PySem.W.emptyDict).push (PySem.W.instObj C s.heap.objs.size) }:=by
 have e1:(s.heap.push PySem.W.emptyDict).get? s.heap.objs.size=some PySem.W.emptyDict:=Heap.get?_push_size s.heap rfl
 have e2:((s.heap.push PySem.W.emptyDict).push (PySem.W.instObj C s.heap.objs.size)).get? (s.heap.objs.size+1)=some (PySem.W.instObj C s.heap.objs.size):=by
  have:=Heap.get?_push_size (s.heap.push PySem.W.emptyDict) (o:=PySem.W.instObj C s.heap.objs.size) rfl
  rwa [Heap.size_push] at this
 have e3:(s.heap.push PySem.W.emptyDict).Ns s.heap.objs.size (λ _=>none):=⟨PySem.W.emptyDict,#[],_,e1,rfl,(λ e he=>absurd he (by simp)),λ _=>rfl⟩
 have I1:=I.laid (a:=s.heap.objs.size) (o:=.own (s.heap.objs.size+1)) (h':=s.heap.push PySem.W.emptyDict) (t':=s.toks) (λ b u q=>Heap.get?_push_of_some _ q) (Nat.le_refl _) ⟨_,e1⟩
 refine I1.laid (a:=s.heap.objs.size+1) (o:=.ins C s.heap.objs.size []) (t':=s.toks) (λ b u q=>Heap.get?_push_of_some _ q) (Nat.le_of_eq (Heap.size_push _ _)) ?_
 have ne:s.heap.objs.size ≠ s.heap.objs.size+1:=Nat.ne_of_lt (Nat.lt_succ_self _)
 refine ⟨by rw [Zb ne,Zt],Nat.zero_le _,ne,e2,λ _=>none,(Heap.Ns1.of_empty e3).at λ o q=>Heap.get?_push_of_some _ q,λ _=>True.intro,λ y hy=>absurd rfl hy⟩
theorem ZPV {prog:Program} {w:World} {env:Env} {e:Expr} {f:Str} {pos:Pos} {s:Shared} {Q:Value->Shared->Prop} (hb:attributeBase e f env (eval e env)=eval e env)
  (h:wpAny (model prog w) A (eval e env) (λ o s₁=>wpAny (model prog w) A (getAttr o f true) Q E s₁) E s):wpAny (model prog w) A (eval (.Attribute e f pos) env) Q E s :=
 Attribute_any_ h (by rw [arm_eval_Attribute,hb])
end
def tFld (K:PySem.W.Frag) (ta:TE) (f:Str):TE:=λ σ H Q=>ta σ H λ x H1=>∃ a C dx fs v,x=.ref a/\H1 a=some (.ins C dx fs)/\Cls K C/\ZDn K C f/\fs.lookup f=some v/\Q v H1
def sFld (K:PySem.W.Frag) (ta tv:TE) (f:Str):TS:=λ D σ H=>tv σ H λ y H1=>ta σ H1 λ x H2=>∃ a C dx fs,x=.ref a/\H2 a=some (.ins C dx fs)/\Cls K C/\ZDn K C f/\fs.length < 1000 /\
 D.nx σ (upd H2 a (.ins C dx (ZC7 f y fs)))
section
variable {X:Cx} {o e value:Expr} {f:Str} {pos pos' tpos:Pos} {ta tv:TE}
theorem ZRt (he:PE X e ta) (hb:attributeBase e f X.env (eval e X.env)=eval e X.env):PE X (.Attribute e f pos) (tFld X.K ta f):=by
 intro pins s σ H Q I h
 refine ZPV hb (thn (he pins s σ H _ I h) λ u s1 ⟨x,H1,I1,rx,a,C,dx,fs,v,ex,ea,c,n,l,q⟩=>?_)
 subst ex
 obtain rfl:u=Value.ref a:=rx
 exact ZK0 I1 ea c n l λ u' s2 I2 ru=>⟨v,H1,I2,ru,q⟩
theorem ZRD (ha:PE X o ta) (hv:PE X value tv) (hs:swapsWith value (some (.Attribute o f pos')) pos.line X.env=pure false):PS X (.Assign [.Attribute o f pos'] value pos) (sFld X.K ta tv f):=by
 intro pins s σ H D I h
 refine plainObj_wpAny_Assign_Attribute (thn (hv pins s σ H _ I h) λ u s1 ⟨y,H1,I1,ry,q⟩=>thn (ha pins s1 σ H1 _ I1 q) λ ov s2 ⟨x,H2,I2,rx,a,C,dx,fs,ex,ea,c,n,l,q2⟩=>?_) hs
 subst ex
 obtain rfl:ov=Value.ref a:=rx
 exact ZKs I2 ea c n l ry λ s3 I3=>⟨σ,_,I3,q2⟩
end
section
variable {X:Cx} {pins:List (Addr × Obj)} {σ : St} {H:Hp} {s:Shared} {A:Around} {E:Value->Shared->Prop} {Q:Value->Shared->Prop} {c:Value} {b:Bool}
end
end L2
namespace L2
open PySem PySem.Spec PyProof.Rows
structure Room (k:Nat) (A:Around):Prop where
 hd:A.handled=none
 dp:A.depth+3 * k+5 < recursionLimit
 un:A.units+16 * k+200 < cLine
 gd:A.guards=some []
theorem Room.mono {j k:Nat} {A:Around} (r:Room k A) (h:j<=k):Room j A:=⟨r.hd,by have:=r.dp; omega,by have:=r.un; omega,r.gd⟩
theorem Room.deeper {k:Nat} {A:Around} (r:Room (k+1) A) (env:Env):Room k (A.deeper env) :=
 ⟨r.hd,by have:=r.dp; show A.depth+1+3 * k+5 < _; omega,by have:=r.un; show A.units+3+16 * k+200 < _; omega,r.gd⟩
theorem ZKZ {A:Around} {C:Addr} {us:List Value} {kw:List (Str × Value)}:(A.under (.builtin "type.__call__" ⟨.ref C :: us,kw⟩)).depth=A.depth+1:=by
 first | rfl | simp [Around.under,Code.weight,Code.isCreation,Code.isGuard,Code.isCaller,Code.frames,Code.isFrame,guardIds]
theorem ZKh {A:Around} {C:Addr} {us:List Value} {kw:List (Str × Value)}:(A.under (.builtin "type.__call__" ⟨.ref C :: us,kw⟩)).units=A.units+1:=by
 first | rfl | simp [Around.under,Code.cUnits,Code.frames,Code.isFrame]
theorem ZJc {A:Around} {C:Addr} {us:List Value} {kw:List (Str × Value)}:(A.under (.builtin "type.__call__" ⟨.ref C :: us,kw⟩)).guards=A.guards:=by
 first | rfl | simp [Around.under]
theorem Room.make {k:Nat} {A:Around} (r:Room (k+1) A) (C:Addr) (us:List Value) (kw:List (Str × Value)):Room k (A.under (.builtin "type.__call__" ⟨.ref C :: us,kw⟩)) :=
 ⟨r.hd,by have:=r.dp; rw [ZKZ]; omega,by have:=r.un; rw [ZKh]; omega,ZJc.trans r.gd⟩
theorem Room.depth {k:Nat} {A:Around} (r:Room k A):A.depth < recursionLimit:=by have:=r.dp; omega
theorem Room.units {k:Nat} {A:Around} (r:Room k A):A.units+64 < cLine:=by have:=r.un; omega
def tNil:TA:=λ _ H Q=>Q [] H
def tCons (ta:TE) (tr:TA):TA:=λ σ H Q=>ta σ H λ x H1=>tr σ H1 λ xs H2=>Q (x :: xs) H2
section
variable {X:Cx} {e:Expr} {es:List Expr} {te:TE} {t:TA} {pos:Pos}
theorem ZK3:PA X [] tNil:=λ _ _ _ _ H Q I h=>Calls.spliced_nil ⟨[],H,I,.nil,h⟩
theorem ZIS (ha:PE X e te) (hr:PA X es t) (hs:starEach (e :: es) X.env=(false,eval e X.env) :: starEach es X.env:=by rfl):PA X (e :: es) (tCons te t):=by
 intro pos pins s σ H Q I h
 rw [hs]
 show wpAny _ _ (spliced ((false,eval e X.env) :: backTo pos (starEach es X.env))) _ _ s
 refine Calls.spliced_cons (thn (ha pins s σ H _ I h) λ u s1 ⟨x,H1,I1,r1,q1⟩=>?_)
 exact thn (hr pos pins s1 σ H1 _ I1 q1) λ us s2 ⟨xs,H2,I2,r2,q2⟩=>⟨x :: xs,H2,I2,.cons r1 r2,q2⟩
def tTup (t:TA):TE:=λ σ H Q=>t σ H λ xs H1=>xs.length<=sizeLine/\∀ p,H1 p=none->Q (.ref p) (upd H1 p (.tup xs))
def tLst (t:TA):TE:=λ σ H Q=>t σ H λ xs H1=>xs.length<=sizeLine/\∀ p,H1 p=none->Q (.ref p) (upd H1 p (.lst xs))
theorem ZRh {x1} (h:PA X es t):PE X (.Tuple es x1 pos) (tTup t):=by
 intro pins s σ H Q I hq
 refine wpAny_Tuple_spliced (thn (h pos pins s σ H _ I hq) λ us s1 ⟨xs,H1,I1,r,z,q⟩=>⟨by rw [← r.length]; exact z,?_⟩)
 have hf:H1 s1.heap.objs.size=none:=I1.hok.fresh (Nat.le_refl _)
 refine ⟨.ref s1.heap.objs.size,upd H1 s1.heap.objs.size (.tup xs),I1.laid (t':=s1.toks) (λ b u e=>Heap.get?_push_of_some _ e) (Nat.le_refl _) ?_,rfl,q _ hf⟩
 exact ⟨z,us,r,⟨_,Heap.get?_push_size _ rfl,rfl,_,rfl⟩⟩
theorem ZKd (h:PA X es t):PE X (.List es pos) (tLst t):=by
 intro pins s σ H Q I hq
 refine wpAny_List_spliced (thn (h pos pins s σ H _ I hq) λ us s1 ⟨xs,H1,I1,r,z,q⟩=>⟨by rw [← r.length]; exact z,?_⟩)
 have hf:H1 s1.heap.objs.size=none:=I1.hok.fresh (Nat.le_refl _)
 refine ⟨.ref s1.heap.objs.size,upd H1 s1.heap.objs.size (.lst xs),I1.laid (t':=s1.toks) (λ b u e=>Heap.get?_push_of_some _ e) (Nat.le_refl _) ?_,rfl,q _ hf⟩
 exact ⟨z,us,0,r,Heap.get?_push_size _ rfl⟩
end
abbrev Sp:=List V->Hp->VK->XK->Prop
abbrev CXT:=List Env->Hp->Shared->XK->Value->Shared->Prop
structure Env0 (P:Program) (w:World) (K:PySem.W.Frag) (mg:Str->Option Value) (base:Heap) (A:Around) (outer:List Env) (s:Shared) (H:Hp):Prop where
 frames:A.frames=some outer
 mod:Mod K mg base
 bs:∀ b o,base.get? b=some o->s.heap.get? b=some o/\H b=none
 bsz:base.objs.size<=s.heap.objs.size
 funs:s.heap.FunFrames base outer
 frf:∀ b ∈ frs outer,H b=none
 hok:HOk P w H s.heap
 bare:AllBare s.gens
def CE (outer:List Env) (P:Program) (w:World) (H:Hp) (s:Shared) (Q:VK) (u:Value) (s':Shared):Prop :=
 ∃ v H',s'.os=s.os/\AllBare s'.gens/\Un (frs outer) [] H H' s.heap s'.heap/\HOk P w H' s'.heap/\Z9 v u/\Q v H'
def CR (CX:CXT) (outer:List Env) (P:Program) (w:World) (H:Hp) (s:Shared) (Q:VK) (E:XK) (r:Result) (s':Shared):Prop :=
 match r with
 | .ok (.ret u)=>CE outer P w H s Q u s'
 | .ok _=>False
 | .error e=>CX outer H s E e s'
structure FnOk (P:Program) (w:World) (K:PySem.W.Frag) (mg:Str->Option Value) (base:Heap) (CX:CXT) (k:Nat) (f:Addr) (fd:FuncData) (ps:List Str) (sp:Sp):Prop where
 len:∀ vs H Q E,sp vs H Q E->vs.length=ps.length
 run:∀ (A:Around) (outer:List Env) (s:Shared) (H:Hp) (args:Args) (us:List Value) (vs:List V) (Q:VK) (E:XK),Room k A->Env0 P w K mg base A outer s H->BindsTo s fd args (ps.zip us)->Zu vs us->sp vs H Q E ->
  codeAny (model P w) A (.call (.ref f) args) (CR CX outer P w H s Q E) s
theorem FnOk.imp {P:Program} {w:World} {K:PySem.W.Frag} {mg:Str->Option Value} {base:Heap} {CX:CXT} {k:Nat} {f:Addr} {fd:FuncData} {ps:List Str} {sp sp':Sp} (F:FnOk P w K mg base CX k f fd ps sp)
  (h:∀ vs H Q E,sp' vs H Q E->sp vs H Q E):FnOk P w K mg base CX k f fd ps sp' :=
 ⟨λ vs H Q E q=>F.len vs H Q E (h _ _ _ _ q),λ A outer s H args us vs Q E hr he hb hv hs=>F.run A outer s H args us vs Q E hr he hb hv (h _ _ _ _ hs)⟩
theorem Env0.make {P:Program} {w:World} {K:PySem.W.Frag} {mg:Str->Option Value} {base:Heap} {A:Around} {outer:List Env} {s:Shared} {H:Hp} (e:Env0 P w K mg base A outer s H) (C:Addr) (us:List Value) (kw:List (Str × Value)) :
  Env0 P w K mg base (A.under (.builtin "type.__call__" ⟨.ref C :: us,kw⟩)) outer s H:=⟨by first | exact e.frames | (simpa [Around.under,Code.envs,Code.isFrame,pushEnvs] using e.frames),e.mod,e.bs,e.bsz,e.funs,e.frf,e.hok,e.bare⟩
section
variable {X:Cx} {pins:List (Addr × Obj)} {σ : St} {H:Hp} {s s':Shared}
theorem Inv.env0 (I:Inv X pins σ H s):Env0 X.prog X.w X.K X.mg X.base X.A X.stack s H :=
 ⟨I.ok.frames,I.ok.mod,I.bs,Nat.le_trans I.ok.bsz I.sz,I.stack,I.stkFree,I.hok,I.bare⟩
theorem Inv.after {Q:VK} {u:Value} (I:Inv X pins σ H s) (h:CE X.stack X.prog X.w H s Q u s'):EP X pins σ Q u s':=by
 obtain ⟨v,H',os,bare,un,hok,r,q⟩:=h
 obtain ⟨hh,g,d,t,os'⟩:=s'
 obtain rfl:os'=s.os:=os
 exact ⟨v,H',I.call (h':=hh) (g':=g) (d':=d) (t':=t) (ch:=[]) un hok bare (λ b z=>absurd z (by simp)),r,q⟩
end
def ZQS (sp:Sp) (dvs:List V) (E:XK) (t:TA):TE:=λ σ H Q=>t σ H λ vs H1=>sp (vs ++ dvs) H1 Q E
def tMeth (C:Addr) (m:Str) (sp:Sp) (dvs:List V) (E:XK) (ta:TE) (t:TA):TE:=λ σ H Q=>ta σ H λ x H1=>∃ a dx fs,x=.ref a/\H1 a=some (.ins C dx fs)/\fs.lookup m=none /\
 t σ H1 λ vs H2=>sp (x :: (vs ++ dvs)) H2 Q E
def tMake (C:Addr) (sp:Sp) (dvs:List V) (E:XK) (t:TA):TE:=λ σ H Q=>t σ H λ vs H1=>∀ x dx,H1 x=none->H1 dx=none->dx ≠ x ->
 sp (.ref x :: (vs ++ dvs)) (upd (upd H1 dx (.own x)) x (.ins C dx [])) (λ v H2=>v=.non/\Q (.ref x) H2) E
def ZEN (K:PySem.W.Frag) (fd:FuncData) (ps:List Str) (ds:List Value):Prop :=
 ∀ (s:Shared) (us:List Value),K.In s.heap->(us ++ ds).length=ps.length->BindsTo s fd ⟨us,[]⟩ (ps.zip (us ++ ds))
theorem ZEN.all {K:PySem.W.Frag} {fd:FuncData} {ps:List Str} (h:∀ us:List Value,us.length=ps.length->bindArgs fd ⟨us,[]⟩=pure (ps.zip us)):ZEN K fd ps []:=λ s us _ hl=>by
 rw [List.append_nil] at hl ⊢
 exact .of_eq (h us hl)
def ZFJ (CX:CXT) (X:Cx) (E:XK):Prop:=∀ (pins:List (Addr × Obj)) (σ : St) (H:Hp) (s:Shared) (e:Value) (s':Shared),Inv X pins σ H s->CX X.stack H s E e s'->X.xe e s'
section
variable {X:Cx} {CX:CXT} {k:Nat} {f C:Addr} {fd:FuncData} {ps:List Str} {sp:Sp} {dvs:List V} {ds:List Value} {E:XK} {x m:Str} {p pos apos:Pos} {e o:Expr} {es:List Expr} {ta:TE} {t:TA}
theorem ZNf {pins:List (Addr × Obj)} {σ : St} {H:Hp} {s:Shared} {Q:VK} {us:List Value} {vs:List V} (F:FnOk X.prog X.w X.K X.mg X.base CX k f fd ps sp) (hr:Room k X.A) (hb:ZEN X.K fd ps ds) (hd:Zu dvs ds) (hx:ZFJ CX X E)
  (I:Inv X pins σ H s) (r:Zu vs us) (h:sp (vs ++ dvs) H Q E):wpAny (model X.prog X.w) X.A (call (.ref f) us) (EP X pins σ Q) X.xe s:=by
 have r2:Zu (vs ++ dvs) (us ++ ds):=r.append hd
 have hl:(us ++ ds).length=ps.length:=by rw [← r2.length]; exact F.len _ _ _ _ h
 refine wpAny_call (codeAny_mono (F.run X.A X.stack s H ⟨us,[]⟩ (us ++ ds) (vs ++ dvs) Q E hr I.env0 (hb s us I.kIn hl) r2 h) λ r s' hq=>?_)
 cases r with
 | error e=>exact hx pins σ H s e s' I hq
 | ok fl =>
  cases fl with
  | ret u=>exact I.after hq
  | next=>exact False.elim hq
  | brk=>exact False.elim hq
  | cont=>exact False.elim hq
theorem ZO6 (F:FnOk X.prog X.w X.K X.mg X.base CX k f fd ps sp) (hr:Room k X.A) (hg:Gl X x) (hm:X.mg x=some (.ref f)) (hk:PySem.W.keepIn X.K (.ref f)=true) (hb:ZEN X.K fd ps ds) (hd:Zu dvs ds) (hx:ZFJ CX X E)
  (ha:PA X (e :: es) t) (hdb:(x == ("__debug__" : Str))=false:=by decide) (he:starEach (e :: es) X.env=(false,eval e X.env) :: starEach es X.env:=by rfl) (hpl:(backTo pos (starEach es X.env)).any (·.1)=false:=by rfl) :
  PE X (.Call (.Name x p) (e :: es) [] pos) (ZQS sp dvs E t):=by
 intro pins s σ H Q I h
 refine wpAny_Call_Name_kw (ZIH I hg hm ?_ hdb)
 refine PySem.W.callWith_K (h₀:=X.base) I.ok.mod.kin hk (thn (ha pos pins s σ H _ I h) λ us s1 ⟨vs,H1,I1,r,q⟩=>⟨I1.kIn,?_⟩) he hpl
 exact ZNf F hr hb hd hx I1 r q
theorem ZOp {pl:Sem Bool} (he:PE X o ta) (c:Cls X.K C) (hm:Meth X.K C m f) (F:FnOk X.prog X.w X.K X.mg X.base CX k f fd ps sp) (hr:Room k X.A) (hb:ZEN X.K fd ps ds) (hd:Zu dvs ds) (hx:ZFJ CX X E) (ha:PA X (e :: es) t)
  (hst:starEach (e :: es) X.env=(false,eval e X.env) :: starEach es X.env:=by rfl) (hpl:(backTo pos (starEach es X.env)).any (·.1)=false:=by rfl)
  (ht:eval (.Call (.Attribute o m apos) (e :: es) [] pos) X.env=(do
   let ov ← eval o X.env
   standAt apos.atName
   let (f,first) ← holding [ov] (getMethod ov m pl)
   callWith pos f first (backTo pos (starEach (e :: es) X.env)) (backToKw pos (keywordEach [] X.env))):=by rfl) :
  PE X (.Call (.Attribute o m apos) (e :: es) [] pos) (tMeth C m sp dvs E ta t):=by
 intro pins s σ H Q I h
 refine PySem.W.methodCall_KW (pl:=pl) (thn (he pins s σ H _ I h) λ u s1 ⟨x,H1,I1,rx,a,dx,fs,ex,ea,l,q⟩=>?_) ht
 subst ex
 obtain rfl:u=Value.ref a:=rx
 refine ZKN I1 ea c hm l ?_
 refine PySem.W.callWith_K (first:=[.ref a]) (h₀:=X.base) I.ok.mod.kin hm.kp (thn (ha pos pins s1 σ H1 _ I1 q) λ us s2 ⟨vs,H2,I2,r,q2⟩=>⟨I2.kIn,?_⟩) hst hpl
 exact ZNf (us:=.ref a :: us) (vs:=.ref a :: vs) F hr hb hd hx I2 (.cons rfl r) q2
structure Mk (K:PySem.W.Frag) (C f:Addr):Prop where
 makes:PySem.W.makesIn K C=true
 init:PySem.W.findIn K (.ref C) "__init__" = some (some (.ref f))
 fn:PySem.W.isFn K (.ref f)=true
 kp:PySem.W.keepIn K (.ref C)=true
theorem ZNj {pins:List (Addr × Obj)} {σ : St} {H:Hp} {s:Shared} {Q:VK} {us:List Value} {vs:List V} (M:Mk X.K C f) (F:FnOk X.prog X.w X.K X.mg X.base CX k f fd ps sp) (hr:Room (k+1) X.A) (hb:ZEN X.K fd ps ds) (hd:Zu dvs ds)
  (hx:ZFJ CX X E) (I:Inv X pins σ H s) (r:Zu vs us)
  (h:∀ x dx,H x=none->H dx=none->dx ≠ x->sp (.ref x :: (vs ++ dvs)) (upd (upd H dx (.own x)) x (.ins C dx [])) (λ v H2=>v=.non/\Q (.ref x) H2) E) :
  wpAny (model X.prog X.w) X.A (call (.ref C) us) (EP X pins σ Q) X.xe s:=by
 have hq:=h (s.heap.objs.size+1) s.heap.objs.size (I.hok.fresh (Nat.le_succ _)) (I.hok.fresh (Nat.le_refl _)) (Nat.ne_of_lt (Nat.lt_succ_self _))
 have I2:=Inv.made (C:=C) I
 have r2:Zu (V.ref (s.heap.objs.size+1) :: (vs ++ dvs)) (Value.ref (s.heap.objs.size+1) :: (us ++ ds)):=.cons rfl (r.append hd)
 have hl:(Value.ref (s.heap.objs.size+1) :: us ++ ds).length=ps.length:=by
  have e:=r2.length
  rw [F.len _ _ _ _ hq] at e
  exact e.symm
 refine wpAny_call (ZND (f:=f) I.kIn M.makes M.init (beq_iff_eq.mp M.fn) (codeAny_mono (F.run _ X.stack _ _ ⟨Value.ref (s.heap.objs.size+1) :: us,[]⟩ (Value.ref (s.heap.objs.size+1) :: (us ++ ds)) _ _ E (hr.make C us [])
  (I2.env0.make C us []) (hb _ (Value.ref (s.heap.objs.size+1) :: us) I2.kIn hl) r2 hq) λ r s' hq'=>?_))
 cases r with
 | error e=>exact hx pins σ _ _ e s' I2 hq'
 | ok fl =>
  cases fl with
  | ret u =>
   obtain ⟨v,H',I3,rv,ev,q3⟩:=I2.after hq'
   subst ev
   exact ⟨rv,⟨V.ref (s.heap.objs.size+1),H',I3,rfl,q3⟩⟩
  | next=>exact False.elim hq'
  | brk=>exact False.elim hq'
  | cont=>exact False.elim hq'
theorem ZPE (M:Mk X.K C f) (F:FnOk X.prog X.w X.K X.mg X.base CX k f fd ps sp) (hr:Room (k+1) X.A) (hg:Gl X x) (hm:X.mg x=some (.ref C)) (hb:ZEN X.K fd ps ds) (hd:Zu dvs ds) (hx:ZFJ CX X E)
  (ha:PA X (e :: es) t) (hdb:(x == ("__debug__" : Str))=false:=by decide) (he:starEach (e :: es) X.env=(false,eval e X.env) :: starEach es X.env:=by rfl) (hpl:(backTo pos (starEach es X.env)).any (·.1)=false:=by rfl) :
  PE X (.Call (.Name x p) (e :: es) [] pos) (tMake C sp dvs E t):=by
 intro pins s σ H Q I h
 refine wpAny_Call_Name_kw (ZIH I hg hm ?_ hdb)
 refine PySem.W.callWith_K (h₀:=X.base) I.ok.mod.kin M.kp (thn (ha pos pins s σ H _ I h) λ us s1 ⟨vs,H1,I1,r,q⟩=>⟨I1.kIn,?_⟩) he hpl
 exact ZNj M F hr hb hd hx I1 r q
end
section
variable {X:Cx} {CX:CXT} {k:Nat} {f C:Addr} {fd:FuncData} {ps ks:List Str} {sp:Sp} {E:XK} {x m:Str} {p pos apos kpos:Pos} {e o:Expr} {es:List Expr} {kws:List Keyword} {te ta:TE} {t tk:TA} {nm:Option Str}
variable {g:List Value->List Value->List Value} {gV:List V->List V->List V}
end
structure FnScope (N P:List Str) (sc:Scope):Prop where
 kind:sc.kind=.function
 co:sc.isCoroutine=false
 gen:sc.isGenerator=false
 nd:N.Nodup
 pre:N.take P.length=P
 par:∀ x ∈ P,sc.names.lookup x=some .local ∨ sc.names.lookup x=some .cell
 nofree:∀ y ∈ sc.names,y.2 ≠ .free
theorem ZHQ {kindOf:Str->Option NameKind} {x:Str}:∀ {binds:List (Str × Value)} {m:Str->Option Value},(∀ v,(x,v) ∉ binds)->bindL kindOf binds m x=m x
 | [],_,_=>rfl
 | (n,v) :: r,m,h=>by
  unfold bindL
  rw [ZHQ λ w hw=>h w (List.mem_cons_of_mem _ hw)]
  split
  ·have:x ≠ n:=by rintro rfl; exact h v List.mem_cons_self
   simp [this]
  ·rfl
theorem ZHl {kindOf:Str->Option NameKind} {x:Str}:∀ {binds:List (Str × Value)} {m:Str->Option Value},(∀ v,(x,v) ∉ binds)->bindC kindOf binds m x=m x
 | [],_,_=>rfl
 | (n,v) :: r,m,h=>by
  unfold bindC
  rw [ZHl λ w hw=>h w (List.mem_cons_of_mem _ hw)]
  split
  ·rfl
  ·have:x ≠ n:=by rintro rfl; exact h v List.mem_cons_self
   simp [this]
theorem ZHp {kindOf:Str->Option NameKind} {x:Str} {v:Value}:∀ {P:List Str} {vs:List Value} {i:Nat} {m:Str->Option Value},P.Nodup->P[i]? = some x->vs[i]? = some v->kindOf x=some .local ->
  bindL kindOf (P.zip vs) m x=some v
 | [],_,_,_,_,h,_,_=>by simp at h
 | _ :: _,[],_,_,_,_,h,_=>by simp at h
 | p :: P,w :: vs,0,m,nd,h1,h2,hk=>by
  simp at h1 h2; subst h1; subst h2
  show bindL kindOf ((p,w) :: P.zip vs) m p=_
  unfold bindL
  rw [ZHQ λ v hv=>(List.nodup_cons.mp nd).1 (List.of_mem_zip hv).1,if_pos hk]
  simp
 | p :: P,w :: vs,i+1,m,nd,h1,h2,hk=>by
  show bindL kindOf ((p,w) :: P.zip vs) m x=_
  unfold bindL
  exact ZHp (i:=i) (List.nodup_cons.mp nd).2 (by simpa using h1) (by simpa using h2) hk
theorem ZHr {kindOf:Str->Option NameKind} {x:Str} {v:Value}:∀ {P:List Str} {vs:List Value} {i:Nat} {m:Str->Option Value},P.Nodup->P[i]? = some x->vs[i]? = some v->kindOf x ≠ some .local ->
  bindC kindOf (P.zip vs) m x=some v
 | [],_,_,_,_,h,_,_=>by simp at h
 | _ :: _,[],_,_,_,_,h,_=>by simp at h
 | p :: P,w :: vs,0,m,nd,h1,h2,hk=>by
  simp at h1 h2; subst h1; subst h2
  show bindC kindOf ((p,w) :: P.zip vs) m p=_
  unfold bindC
  rw [ZHl λ v hv=>(List.nodup_cons.mp nd).1 (List.of_mem_zip hv).1,if_neg hk]
  simp
 | p :: P,w :: vs,i+1,m,nd,h1,h2,hk=>by
  show bindC kindOf ((p,w) :: P.zip vs) m x=_
  unfold bindC
  exact ZHr (i:=i) (List.nodup_cons.mp nd).2 (by simpa using h1) (by simpa using h2) hk
def ZE5 (N:List Str) (vs:List V):St:=vs.map some ++ List.replicate (N.length - vs.length) none
def ZJf (CX:CXT) (P:Program) (w:World) (K:PySem.W.Frag) (mg:Str->Option Value) (base:Heap) (N:List Str) (qual:Str) (scope:Scope) (f:Addr) (cd:Value) (A:Around) (outer:List Env) (s:Shared) (H:Hp) (E:XK):Cx where
 prog:=P
 w:=w
 K:=K
 mg:=mg
 base:=base
 A:=A.deeper (envOfC qual scope s.heap.objs.size f cd)
 N:=N
 s₀:=s
 H₀:=H
 env:=envOfC qual scope s.heap.objs.size f cd
 outer:=outer
 stack:=envOfC qual scope s.heap.objs.size f cd :: outer
 ex:=[]
 calm:=true
 fn:=λ _=>true
 pn:=[]
 xe:=λ e s'=>wpAny (model P w) (A.deeper (envOfC qual scope s.heap.objs.size f cd)) (leaving (envOfC qual scope s.heap.objs.size f cd) e) (λ _ s''=>CX outer H s E e s'') (λ e' s''=>CX outer H s E e' s'') s'
theorem ZJD {sc:Scope} {n:Nat} {x:Str} (h:sc.names.lookup x=some .cell):∃ c,(cellsFrom n sc.names []).lookup x=some c:=by
 have q:=PySem.W.cellsFrom_some sc.names n [] (.inl h)
 exact Option.isSome_iff_exists.mp q
theorem ZLy {CX:CXT} {P:Program} {w:World} {K:PySem.W.Frag} {mg:Str->Option Value} {base:Heap} {N ps:List Str} {qual:Str} {scope:Scope} {f:Addr} {cd:Value} {A:Around} {outer:List Env} {s s1:Shared} {H:Hp} {E:XK} {us:List Value} {vs:List V}
  (S:FnScope N ps scope) (hd:A.handled=none) (e0:Env0 P w K mg base A outer s H) (hl:vs.length=ps.length) (r:Zu vs us)
  (x:InCallC s s.heap.objs.size (bindL (envOfC qual scope s.heap.objs.size f cd).kindOf (ps.zip us) λ _=>none) (cellsFrom (s.heap.objs.size+1) scope.names []) (bindC (envOfC qual scope s.heap.objs.size f cd).kindOf (ps.zip us) λ _=>none) s1) :
  Inv (ZJf CX P w K mg base N qual scope f cd A outer s H E) [] (ZE5 N vs) H s1:=by
 have hpl:ps.length<=N.length:=by have:=congrArg List.length S.pre; rw [List.length_take] at this; omega
 obtain ⟨h1,tk,rfl,hk⟩:=x.done
 have noA:∀ b:Addr,b ∉ (ZJf CX P w K mg base N qual scope f cd A outer s H E).ex:=λ b z=>absurd (show b ∈ ([]:List Addr) from z) (by simp)
 refine ⟨⟨e0.mod,S.kind,rfl,rfl,Nat.le_refl _,λ y z c h1 h2=>?_,λ y hy=>?_,λ y c _ h=>?_,λ _=>hd,Around.frames_deeper e0.frames,.inr ⟨rfl,rfl⟩,λ b z=>absurd z (noA b),e0.bs,e0.bsz,λ b _ _=>noA b,λ b z=>absurd z (noA b),e0.funs,e0.frf⟩,
  rfl,e0.bare,Un.kept hk,⟨_,x.toInCall.ns,λ i y v h1 h2 h3=>?_⟩,λ y c h=>⟨_,x.cell y c h⟩,e0.hok.fresh (Nat.le_refl _),λ y c h=>?_,λ p hp=>absurd (show p ∈ ([]:List (Addr × Obj)) from hp) (by simp),e0.hok.kept hk,?_⟩
 ·exact name_of_addr x.apart (PySem.mem_of_lookup h1) (PySem.mem_of_lookup h2)
 ·have hy:scope.names.lookup y=some .cell ∨ scope.names.lookup y=some .free:=hy
  rcases hy with hy | hy
  ·exact ZJD hy
  ·exact absurd rfl (S.nofree _ (PySem.mem_of_lookup hy))
 ·exact Nat.le_of_lt (x.above y c (PySem.mem_of_lookup h))
 ·have hi:i < vs.length:=by
   unfold ZE5 at h2
   by_cases hi:i < vs.length
   ·exact hi
   ·rw [List.getElem?_append_right (by simpa using hi)] at h2
    rw [List.getElem?_replicate] at h2
    split at h2 <;> cases h2
  have ha:vs[i]? = some v:=by
   unfold ZE5 at h2
   rw [List.getElem?_append_left (by simpa using hi),List.getElem?_map] at h2
   cases e:vs[i]? with
   | none=>rw [e] at h2; cases h2
   | some a=>rw [e] at h2; cases h2; rfl
  obtain ⟨u,hu,rv⟩:=r.get ha
  have hp:ps[i]? = some y:=by
   rw [← S.pre,List.getElem?_take_of_lt (by omega)]; exact h1
  have ndP:ps.Nodup:=by rw [← S.pre]; exact S.nd.sublist (List.take_sublist _ _)
  refine ⟨u,rv,?_⟩
  rcases S.par y (List.mem_of_getElem? hp) with k | k
  ·exact .inl ⟨k,ZHp ndP hp hu k⟩
  ·obtain ⟨c,e⟩:=ZJD (n:=s.heap.objs.size+1) k
   refine .inr ⟨.inl k,c,e,?_⟩
   have q:=x.cell y c e
   rw [ZHr ndP hp hu (by show scope.names.lookup y ≠ _; rw [k]; decide)] at q
   exact q
 ·exact e0.hok.fresh (Nat.le_of_lt (x.above y c (PySem.mem_of_lookup h)))
 ·unfold ZE5
  show _=N.length
  rw [List.length_append,List.length_map,List.length_replicate]
  omega
theorem fn_of {CX:CXT} {P:Program} {w:World} {K:PySem.W.Frag} {mg:Str->Option Value} {base:Heap} {k:Nat} {f:Addr} {name qual:Str} {params:Arguments} {body:List Stmt} {scope:Scope} {dV kV doc pm cdv ct oc:Value} {an od:Option Addr}
  {osl:Array (Option Value)} {N ps:List Str} {sp:Sp} (lk:K.lookup f=some ⟨oc,od,.func (PySem.W.fnOf name qual params body scope dV kV doc pm an cdv ct),osl⟩) (hcd:PySem.W.codeIn K cdv qual=true) (S:FnScope N ps scope)
  (len:∀ vs H Q E,sp vs H Q E->vs.length=ps.length)
  (hbody:∀ (A:Around) (outer:List Env) (s:Shared) (H:Hp) (vs:List V) (Q:VK) (E:XK),Room k (A.deeper (envOfC qual scope s.heap.objs.size f cdv))->sp vs H Q E ->
   ∃ t,PSs (ZJf CX P w K mg base N qual scope f cdv A outer s H E) body t/\t { nx:=λ _ H'=>Q .non H',rt:=Q } (ZE5 N vs) H) :
  FnOk P w K mg base CX (k+1) f (PySem.W.fnOf name qual params body scope dV kV doc pm an cdv ct) ps sp:=by
 refine ⟨len,λ A outer s H args us vs Q E hr e0 hb r hsp=>?_⟩
 have hl:=len _ _ _ _ hsp
 have KX:K.In s.heap:=e0.mod.kin.keeps λ b o e=>(e0.bs b o e).1
 have lim:s.heap.NoLimit:=e0.mod.nolimit.keeps λ b o e=>(e0.bs b o e).1
 have hkind:∀ y ∈ ps.zip us,scope.names.lookup y.1=some .local ∨ (scope.names.lookup y.1=some .cell/\((cellsFrom (s.heap.objs.size+1) scope.names []).lookup y.1).isSome=true):=λ ⟨n,v⟩ hy=>by
  rcases S.par n (List.of_mem_zip hy).1 with q | q
  ·exact .inl q
  ·exact .inr ⟨q,PySem.W.cellsFrom_some _ _ _ (.inl q)⟩
 refine codeAny_call_function hr.depth (KX _ _ lk) rfl S.co S.gen rfl (PySem.W.codeRec_of KX hcd) (hb _ _ _ _ ?_)
 refine wpAny_newFunctionEnv_cells S.kind hkind λ env he s1 x=>?_
 subst he
 refine ⟨lim.keeps x.toInCall.keep,codeAny_func ?_⟩
 obtain ⟨t,ht,hq⟩:=hbody A outer s H vs Q E (hr.deeper _) hsp
 have I:Inv (ZJf CX P w K mg base N qual scope f cdv A outer s H E) [] (ZE5 N vs) H s1:=ZLy S hr.hd e0 hl r x
 refine wpAny_mono (ht [] s1 (ZE5 N vs) H _ I hq) (λ fl s' hs=>?_) λ e s' hs=>hs
 have fin:∀ {σ':St} {H':Hp} {v:V} {u:Value},Inv (ZJf CX P w K mg base N qual scope f cdv A outer s H E) [] σ' H' s'->Z9 v u->Q v H'->CE outer P w H s Q u s' :=
  λ {σ' H' v u} J rv q=>⟨v,H',J.os,J.bare,J.base,J.hok,rv,q⟩
 cases fl with
 | ret u =>
  obtain ⟨v,σ',H',J,rv,q⟩:=hs
  exact fin J rv q
 | next =>
  obtain ⟨σ',H',J,q⟩:=hs
  exact fin (v:=V.non) (u:=Value.none) J rfl q
 | brk =>
  obtain ⟨_,_,_,q⟩:=hs
  exact False.elim q
 | cont =>
  obtain ⟨_,_,_,q⟩:=hs
  exact False.elim q
end L2
namespace L2
open PySem PySem.Spec PyProof.Rows
section
variable {X:Cx} {x:Str} {p pos:Pos} {e:Expr} {es:List Expr} {t:TA} {id T:String} {r:List V->Hp->VK->Prop}
def tCB (r:List V->Hp->VK->Prop) (t:TA):TE:=λ σ H Q=>t σ H λ vs H1=>r vs H1 Q
theorem ZOJ (hc:ZAG X (.builtin id) r) (hg:Gl X x) (hm:X.mg x=none) (hv:bootBuiltins x=some (.builtin id)) (ha:PA X (e :: es) t) (hn:x ≠ "__name__":=by decide) (hdb:(x == ("__debug__" : Str))=false:=by decide)
  (he:starEach (e :: es) X.env=(false,eval e X.env) :: starEach es X.env:=by rfl) (hpl:(backTo pos (starEach es X.env)).any (·.1)=false:=by rfl):PE X (.Call (.Name x p) (e :: es) [] pos) (tCB r t):=by
 intro pins s σ H Q I h
 refine wpAny_Call_Name_kw (ZEf I hg hm hv ?_ hn hdb)
 exact PyProof.Rows.callWith_builtin1 (thn (ha pos pins s σ H _ I h) λ us s1 ⟨vs,H1,I1,r1,q1⟩=>hc pins s1 σ H1 vs us Q I1 r1 q1) he hpl
theorem ZFH (hc:ZAG X (.type T) r) (hg:Gl X x) (hm:X.mg x=none) (hv:bootBuiltins x=some (.type T)) (ha:PA X (e :: es) t) (hn:x ≠ "__name__":=by decide) (hdb:(x == ("__debug__" : Str))=false:=by decide)
  (he:starEach (e :: es) X.env=(false,eval e X.env) :: starEach es X.env:=by rfl) (hpl:(backTo pos (starEach es X.env)).any (·.1)=false:=by rfl):PE X (.Call (.Name x p) (e :: es) [] pos) (tCB r t):=by
 intro pins s σ H Q I h
 refine wpAny_Call_Name_kw (ZEf I hg hm hv ?_ hn hdb)
 exact PyProof.Rows.callWith_type1 (thn (ha pos pins s σ H _ I h) λ us s1 ⟨vs,H1,I1,r1,q1⟩=>hc pins s1 σ H1 vs us Q I1 r1 q1) he hpl
end
end L2
namespace HT
open PySem PyProof.Rows
def lexLt:List Int->List Int->Bool
 | [],[]=>false
 | [],_ :: _=>true
 | _ :: _,[]=>false
 | x :: xs,y :: ys=>if x=y then lexLt xs ys else decide (x < y)
theorem ZKA (x y:Int) (xs ys:List Int):lexLt (x :: xs) (y :: ys)=if x=y then lexLt xs ys else decide (x < y):=rfl
theorem ZHI:lexLt [] []=false:=rfl
theorem ZGm (y:Int) (ys:List Int):lexLt [] (y :: ys)=true:=rfl
theorem ZF8 (x:Int) (xs:List Int):lexLt (x :: xs) []=false:=rfl
theorem ZGT (A:Around) (s:Shared) (a:Int) (t:Tok) (c:Int) (u:Tok):∃ e,SeqAt.EqAt A s (.int a t) (.int c u) e/\(e=true ↔ a=c) :=
 ⟨(a == c),SeqAt.EqAt.int_int a t c u,by simp⟩
theorem ZOA (A:Around) (s:Shared) (a:Int) (t:Tok) (c:Int) (u:Tok) (prog:Program) (w:World) (E:Value->Shared->Prop) (Q:Value->Shared->Prop) (h:Q (.bool (decide (a < c))) s) :
  wpAny (model prog w) A (richCompare .Lt (.int a t) (.int c u)) Q E s :=
 (PyProof.Rows.lt_int h:wpAny (model prog w) A (compareOp .Lt (.int a t) (.int c u)) Q E s)
section
open PySem.SeqAt
open PySem.AutoSeq1 (wpAny_loadPart')
open PySem.MeetsSeq PySem.MeetsSeq2 PySem.MeetsSeq3
theorem ZG6 (l b:Addr) (items items2:Array Value) (n n2:Nat) (dd dd2:Option Addr) (sl sl2:Array (Option Value)) (ns ms:List Int) (hi:IntsAre items.toList ns) (hj:IntsAre items2.toList ms) :
  Meets (Builtin.«tuple.__lt__» ⟨[.ref l,.ref b],[]⟩)
   (λ _ R s=>s.heap.get? l=some { cls:=.type "tuple",dict:=dd,data:=.seq items n,slots:=sl }/\s.heap.get? b=some { cls:=.type "tuple",dict:=dd2,data:=.seq items2 n2,slots:=sl2 } /\
    R (.ok (.ret (.bool (lexLt ns ms)))) s) :=
 .of_wp λ prog w A R s h=>by
  obtain ⟨hp,g,d,tk,os⟩:=s; obtain ⟨hl,hb,h⟩:=h
  have f2:=AutoSeq1.sub_tuple_tuple
  have z1:items.size=ns.length:=by rw [← hi.length]; simp
  have z2:items2.size=ms.length:=by rw [← hj.length]; simp
  wp_walk using wpAny_loadPart' hl,wpAny_loadPart' hb,wpAny_forIn_list _ (λ rest b s'=>b.1=none/\s'=⟨hp,g,d,tk,os⟩/\∃ (vs ws:List Value) (ns' ms':List Int),rest=vs.zip ws /\
   IntsAre vs ns'/\IntsAre ws ms'/\ns'.length+items2.size=ms'.length+items.size/\R (.ok (.ret (.bool (lexLt ns' ms')))) ⟨hp,g,d,tk,os⟩) _
  case turn =>
   rintro ⟨y,x⟩ rest b s' ⟨hb',rfl,vs,ws,ns',ms',hz,hvi,hwi,hlen,hR⟩
   cases hvi with
   | nil=>rw [List.zip_nil_left] at hz; cases hz
   | cons a t hvi' =>
    cases hwi with
    | nil=>rw [List.zip_nil_right] at hz; cases hz
    | cons c u hwi' =>
     rw [List.zip_cons_cons] at hz
     injection hz with hyx hrest
     injection hyx with hy hx
     subst hy hx
     rw [ZKA] at hR
     simp only [List.length_cons] at hlen
     obtain ⟨e,he,hiff⟩:=ZGT A.in1 ⟨hp,g,d,tk,os⟩ a t c u
     refine wpAny_bind (he prog w _ _ ?_)
     cases e with
     | true =>
      rw [if_pos (hiff.mp rfl)] at hR
      wp_walk
      exact ⟨rfl,rfl,_,_,_,_,hrest,hvi',hwi',by omega,hR⟩
     | false =>
      rw [if_neg (λ q=>absurd (hiff.mpr q) Bool.false_ne_true)] at hR
      have hri:=ZOA A.in1 ⟨hp,g,d,tk,os⟩ a t c u prog w
      wp_walk using hri
      exact ⟨_,rfl,by simpa using hR⟩
  case fin =>
   rintro ⟨b1,b2⟩ s' ⟨hb',rfl,vs,ws,ns',ms',hz,hvi,hwi,hlen,hR⟩
   simp only at hb'
   subst hb'
   have hv:lexLt ns' ms'=decide (items.size < items2.size):=by
    cases hvi with
    | nil =>
     cases hwi with
     | nil =>
      simp only [List.length_nil] at hlen
      rw [ZHI]
      exact (decide_eq_false (by omega)).symm
     | cons c u hw =>
      simp only [List.length_nil,List.length_cons] at hlen
      rw [ZGm]
      exact (decide_eq_true (by omega)).symm
    | cons a t hv =>
     cases hwi with
     | nil =>
      simp only [List.length_nil,List.length_cons] at hlen
      rw [ZF8]
      exact (decide_eq_false (by omega)).symm
     | cons c u hw =>
      rw [List.zip_cons_cons] at hz
      cases hz
   rw [hv] at hR
   wp_walk
   exact ⟨_,rfl,by simpa [Builtin.Tuple.tupleCompareSizes] using hR⟩
  case h =>
   exact ⟨rfl,rfl,items.toList,items2.toList,ns,ms,rfl,hi,hj,by omega,h⟩
end
section
variable {prog:Program} {w:World} {A:Around} {E:Value->Shared->Prop} {s:Shared}
theorem lt_tupInts {l b:Addr} {items items2:Array Value} {ns ms:List Int} {Q:Value->Shared->Prop} (hl:IsTup s.heap l items) (hb:IsTup s.heap b items2) (hi:IntsAre items.toList ns) (hj:IntsAre items2.toList ms)
  (hu:A.units < cLine) (h:Q (.bool (lexLt ns ms)) s):wpAny (model prog w) A (compareOp .Lt (.ref l) (.ref b)) Q E s:=by
 obtain ⟨⟨cls,dd,data,sl⟩,ho,hc,n,hd⟩:=id hl
 obtain ⟨⟨cls2,dd2,data2,sl2⟩,ho2,hc2,n2,hd2⟩:=id hb
 simp only at hc hd hc2 hd2
 subst hc hd hc2 hd2
 exact richCompare_meets_room (op:=.Lt) ⟨_,ho,rfl⟩ ⟨_,ho2,rfl⟩ PySem.F.slot_tuple_lt PySem.F.entry_tuple_lt (PySem.F.args_tuple_lt_2 _ _) (ZG6 l b items items2 n n2 dd dd2 sl sl2 ns ms hi hj)
  ⟨ho,ho2,show Value.bool (lexLt ns ms) ≠ Value.notImplemented/\Q (.bool (lexLt ns ms)) s from ⟨(λ x=>nomatch x),h⟩⟩ hu
theorem ZPd {t b:Addr} {vs ws:List Value} {Q:Value->Shared->Prop} (ht:IsTup s.heap t vs.toArray) (hb:IsTup s.heap b ws.toArray) (hv:vs ≠ [])
  (h1:ws=[]->Q (.ref t) s) (h2:ws ≠ []->Q (.ref s.heap.objs.size) { s with heap:=s.heap.push { cls:=.type "tuple",data:=.seq (vs ++ ws).toArray } })
  (hsz:vs.length+ws.length<=sizeLine):wpAny (model prog w) A (binaryOp .Add (.ref t) (.ref b)) Q E s:=by
 obtain ⟨⟨cls,dd,data,sl⟩,ho,hc,n,hd⟩:=id ht
 obtain ⟨⟨cls2,dd2,data2,sl2⟩,ho2,hc2,n2,hd2⟩:=id hb
 simp only at hc hd hc2 hd2
 subst hc hd hc2 hd2
 have e:vs.toArray ++ ws.toArray=(vs ++ ws).toArray:=by simp
 by_cases hw:ws=[]
 ·exact concat_meets ⟨_,ho,rfl⟩ ⟨_,ho2,rfl⟩ noFill_tuple_add seq_tuple_add PySem.F.slot_tuple_add PySem.F.entry_tuple_add (PySem.F.args_tuple_add_2 _ _)
   (tuple_addW1 t b vs.toArray ws.toArray n n2 dd dd2 sl sl2 (by simpa using hv) (by simp [hw])) ⟨ho,ho2,h1 hw⟩
 ·refine concat_meets ⟨_,ho,rfl⟩ ⟨_,ho2,rfl⟩ noFill_tuple_add seq_tuple_add PySem.F.slot_tuple_add PySem.F.entry_tuple_add (PySem.F.args_tuple_add_2 _ _)
   (tuple_addW2 t b vs.toArray ws.toArray n n2 dd dd2 sl sl2 (by simpa using hv) (by simpa using hw) (by rw [List.size_toArray,List.size_toArray]; exact hsz)) ⟨ho,ho2,?_⟩
  rw [e]
  exact h2 hw
def sIx (n d:Nat):Option Int->Nat
 | none=>d
 | some v=>if v < 0 then (v+(n:Int)).toNat else min v.toNat n
theorem ZQ0 (n d:Nat) (hd:d<=n) (o:Option Int):sIx n d o<=n:=by
 cases o with
 | none=>exact hd
 | some v =>
  show (if v < 0 then (v+(n:Int)).toNat else min v.toNat n)<=n
  by_cases hv:v < 0
  ·rw [if_pos hv]; omega
  ·rw [if_neg hv]; exact Nat.min_le_right _ _
theorem ZLG (v:Int) (n d:Nat):(if v < 0 then max (v+(n:Int)) 0 else min v (n:Int))=((sIx n d (some v):Nat):Int):=by
 show (if v < 0 then max (v+(n:Int)) 0 else min v (n:Int))=(((if v < 0 then (v+(n:Int)).toNat else min v.toNat n):Nat):Int)
 by_cases hv:v < 0
 ·simp only [if_pos hv]; omega
 ·simp only [if_neg hv]; omega
theorem ZKB (lo hi:Option Int) (n:Nat):Builtin.Slice.sliceAdjust lo hi 1 (n:Int)=(((sIx n 0 lo:Nat):Int),((sIx n n hi:Nat):Int)):=by
 have h1 : ¬ ((1:Int) < 0):=by omega
 unfold Builtin.Slice.sliceAdjust
 simp only [h1,if_false]
 refine Prod.ext ?_ ?_
 ·cases lo with
  | none=>rfl
  | some v=>exact ZLG v n 0
 ·cases hi with
  | none=>rfl
  | some v=>exact ZLG v n n
theorem ZKj (i j:Nat):Builtin.Slice.slicePlaces (i:Int) (j:Int) 1=j - i:=by
 unfold Builtin.Slice.slicePlaces
 have h1:(1:Int) > 0:=by omega
 simp only [h1,if_true,Int.ediv_one]
 split <;> omega
theorem ZGw {v:Value} {o:Option Int} {Q:Option Int->Shared->Prop} (p:IsPart v o) (h:Q o s):wpAny (model prog w) A (Builtin.Slice.slicePartIndex v) Q E s:=by
 cases p with
 | none=>exact slicePart_none h
 | int i t=>exact slicePart_int h
theorem ZDA {sl:Addr} {vl vu:Value} {lo hi:Option Int} {n:Nat} {Q:Int × Int × Nat->Shared->Prop} (hs:s.heap.IsSliceOf sl vl vu .none) (pl:IsPart vl lo) (pu:IsPart vu hi)
  (h:Q (((sIx n 0 lo:Nat):Int),1,sIx n n hi - sIx n 0 lo) s):wpAny (model prog w) A (Builtin.Slice.sliceApplied (.ref sl) (pure (n:Int))) Q E s:=by
 obtain ⟨os,hos,hcs,hds⟩:=id hs
 unfold Builtin.Slice.sliceApplied Builtin.Slice.sliceFields
 refine wpAny_bind (wpAny_bind (wpAny_field hos hds (x:=vl) rfl (wpAny_bind (wpAny_field hos hds (x:=vu) rfl (wpAny_bind (wpAny_field hos hds (x:=.none) rfl (wpAny_pure ?_)))))))
 refine wpAny_bind (slicePart_none ?_)
 show wpAny _ _ (if ((1:Int) == 0)=true then _ else _) _ _ s
 rw [if_neg (by decide)]
 refine wpAny_bind (ZGw pl (wpAny_bind (ZGw pu (wpAny_bind (wpAny_pure ?_)))))
 show wpAny _ _ (match Builtin.Slice.sliceAdjust lo hi 1 (n:Int) with | (lo,hi)=>pure (lo,(1:Int),Builtin.Slice.slicePlaces lo hi 1)) _ _ s
 rw [ZKB lo hi n]
 show wpAny _ _ (pure (((sIx n 0 lo:Nat):Int),(1:Int),Builtin.Slice.slicePlaces ((sIx n 0 lo:Nat):Int) ((sIx n n hi:Nat):Int) 1)) _ _ s
 rw [ZKj]
 exact wpAny_pure h
theorem ZMr (xs:Array Value) (i k:Nat):((List.range k).filterMap λ (m:Nat)=>xs[((i:Int)+(m:Int) * 1).toNat]?).toArray=((xs.toList.drop i).take k).toArray:=by
 have e:(λ (m:Nat)=>xs[((i:Int)+(m:Int) * 1).toNat]?) = λ m=>xs[i+m]?:=by
  funext m
  have:((i:Int)+(m:Int) * 1).toNat=i+m:=by omega
  rw [this]
 rw [e]
 have:=pick_run xs i k
 rw [List.filterMap_map] at this
 have e2:((λ x=>xs[x]?) ∘ λ x=>i+x) = λ m=>xs[i+m]?:=rfl
 rw [e2] at this
 rw [this]
theorem getItem_tuple_cut {t sl:Addr} {items:Array Value} {vl vu:Value} {lo hi:Option Int} {Q:Value->Shared->Prop} (ht:IsTup s.heap t items) (hs:s.heap.IsSliceOf sl vl vu .none) (pl:IsPart vl lo) (pu:IsPart vu hi)
  (hw : ¬ (sIx items.size 0 lo=0/\sIx items.size items.size hi=items.size))
  (h:Q (.ref s.heap.objs.size) { s with heap:=s.heap.push { cls:=.type "tuple",data:=.seq ((items.toList.drop (sIx items.size 0 lo)).take (sIx items.size items.size hi - sIx items.size 0 lo)).toArray } })
  (hsz:items.size<=sizeLine):wpAny (model prog w) A (getItem (.ref t) (.ref sl)) Q E s:=by
 have htake:sizeOk (.seq ((items.toList.drop (sIx items.size 0 lo)).take (sIx items.size items.size hi - sIx items.size 0 lo)).toArray):=by
  show ((items.toList.drop (sIx items.size 0 lo)).take (sIx items.size items.size hi - sIx items.size 0 lo)).toArray.size<=sizeLine
  rw [List.size_toArray,List.length_take,List.length_drop,Array.length_toList]
  omega
 have hj:sIx items.size items.size hi<=items.size:=ZQ0 _ _ (Nat.le_refl _) hi
 obtain ⟨os,hos,hcs,hds⟩:=id hs
 have hTs:s.TypeIs (.ref sl) "slice":=⟨os,hos,hcs⟩
 unfold getItem
 try with_reducible refine wpAny_holding ?_
 first | refine wpAny_bind (wpAny_pure ?_) | skip
 refine wpAny_bind (wpAny_sequenceKey ht.typeIs (by decide) ?_)
 refine wpAny_bind (wpAny_callSpecial?_slot (name:=Str.ofString "__getitem__") ht.typeIs PyProof.Rows.slot_tuple_getitem
  (wpAny_call_entry PyProof.Rows.slot_tuple_getitem ht.typeIs entry_tuple_getitem ?_ (args_tuple_getitem _ _)))
 show wpAny _ _ (Builtin.Tuple.tupleItemsOf (.ref t) >>= _) _ _ s
 refine wpAny_bind (tupleItemsOf_ ht ?_)
 refine wpAny_bind (wpAny_typeOf hTs ?_)
 rw [if_pos (by decide)]
 refine wpAny_bind (ZDA hs pl pu ?_)
 have hno : ¬ ((((sIx items.size 0 lo:Nat):Int) == 0 && (1:Int) == 1 && (sIx items.size items.size hi - sIx items.size 0 lo) == items.size)=true):=by
  intro q
  rw [Bool.and_eq_true,Bool.and_eq_true] at q
  have q1:((sIx items.size 0 lo:Nat):Int)=0:=eq_of_beq q.1.1
  have q2:sIx items.size items.size hi - sIx items.size 0 lo=items.size:=eq_of_beq q.2
  exact hw ⟨by omega,by omega⟩
 show wpAny _ _ (if (((sIx items.size 0 lo:Nat):Int) == 0 && (1:Int) == 1 && (sIx items.size items.size hi - sIx items.size 0 lo) == items.size)=true then _ else _) _ _ s
 rw [if_neg hno,ZMr]
 first
  | exact wpAny_bind (m:=Builtin.Tuple.tupleExact _) (wpAny_newObj_type (wpAny_pure ⟨_,rfl,wpAny_pure h⟩) htake)
  | exact wpAny_bind (m:=Builtin.Tuple.tupleExact _) (wpAny_newObj_type (wpAny_bind (wpAny_pure (wpAny_pure ⟨_,rfl,wpAny_pure h⟩))) htake)
  | exact wpAny_bind (wpAny_bind (m:=Builtin.Tuple.tupleExact _) (wpAny_newObj_type (wpAny_pure (wpAny_pure ⟨_,rfl,wpAny_pure h⟩)) htake))
  | exact wpAny_bind (wpAny_bind (m:=Builtin.Tuple.tupleExact _) (wpAny_newObj_type (wpAny_pure ⟨_,rfl,wpAny_pure h⟩) htake))
end
end HT
namespace L2
open PySem PySem.Spec PyProof.Rows
abbrev TO:=St->Hp->(Option Int->Hp->Prop)->Prop
def PO (X:Cx) (e:Option Expr) (t:TO):Prop :=
 ∀ (pins:List (Addr × Obj)) (s:Shared) (σ : St) (H:Hp) (Q:Option Int->Hp->Prop),Inv X pins σ H s->t σ H Q ->
  wpAny (model X.prog X.w) X.A (evalPart e X.env) (λ u s'=>∃ o H',Inv X pins σ H' s'/\IsPart u o/\Q o H') X.xe s
def ZOl:TO:=λ _ H Q=>Q none H
def tPart (t:TE):TO:=λ σ H Q=>t σ H λ x H1=>∃ i,x=.int i/\Q (some i) H1
theorem ZBQ {ns:List Int}:∀ {us:List Value},Zu (ns.map V.int) us->IntsAre us ns:=by
 induction ns with
 | nil=>intro us r; rw [List.map_nil] at r; cases r; exact .nil
 | cons n ns ih =>
  intro us r
  rw [List.map_cons] at r
  cases r with
  | cons r1 r2 =>
   obtain ⟨t,e⟩:=r1
   subst e
   exact .cons n t (ih r2)
section
variable {X:Cx} {e:Expr} {te:TE} {lo hi:Option Expr} {tl th:TO} {pos p2:Pos}
theorem ZPQ:PO X none ZOl:=by
 intro pins s σ H Q I h
 rw [evalPart_none]
 exact wpAny_pure ⟨none,H,I,.none,h⟩
theorem ZPg (h:PE X e te):PO X (some e) (tPart te):=by
 intro pins s σ H Q I hw
 rw [evalPart_some]
 refine thn (h pins s σ H _ I hw) λ u s1 ⟨x,H1,I1,r1,q1⟩=>?_
 obtain ⟨i,rfl,q⟩:=q1
 obtain ⟨t,rfl⟩:=r1
 exact ⟨some i,H1,I1,.int i t,q⟩
def SlR (X:Cx) (r:V->Option Int->Option Int->Hp->VK->Prop):Prop :=
 ∀ (pins:List (Addr × Obj)) (s:Shared) (σ : St) (H:Hp) (x:V) (v vl vu:Value) (lo hi:Option Int) (sl:Addr) (Q:VK),Inv X pins σ H s->Z9 x v->s.heap.IsSliceOf sl vl vu .none->IsPart vl lo->IsPart vu hi->r x lo hi H Q ->
  ∃ T id,typeLookup (.type T) "__getitem__" = pure (some (.builtin id))/\s.TypeIs v T/\wpAny (model X.prog X.w) X.A (getItem v (.ref sl)) (EP X pins σ Q) X.xe s
def tSl (r:V->Option Int->Option Int->Hp->VK->Prop) (te:TE) (tl th:TO):TE:=λ σ H Q=>te σ H λ x H1=>tl σ H1 λ l H2=>th σ H2 λ u H3=>r x l u H3 Q
theorem ZMe {r:V->Option Int->Option Int->Hp->VK->Prop} (hr:SlR X r) (he:PE X e te) (hl:PO X lo tl) (hu:PO X hi th):PE X (.Subscript e (.Slice lo hi none p2) pos) (tSl r te tl th):=by
 intro pins s σ H Q I h
 refine Subscript_ (thn (he pins s σ H _ I h) λ v s1 ⟨x,H1,I1,r1,q1⟩=>?_)
 refine wpAny_Slice (thn (hl pins s1 σ H1 _ I1 q1) λ vl s2 ⟨l,H2,I2,pl,q2⟩=>thn (hu pins s2 σ H2 _ I2 q2) λ vu s3 ⟨u,H3,I3,pu,q3⟩=>?_)
 rw [evalPart_none]
 refine wpAny_pure ?_
 have I4:Inv X pins σ H3 { s3 with heap:=s3.heap.push { cls:=.type "slice",data:=.fields #[vl,vu,.none] } }:=I3.kept (t':=s3.toks) λ b ob q=>Heap.get?_push_of_some _ q
 obtain ⟨T,id,hT,ht,hg⟩:=hr pins { s3 with heap:=s3.heap.push { cls:=.type "slice",data:=.fields #[vl,vu,.none] } } σ H3 x v vl vu l u s3.heap.objs.size Q I4 r1 (Heap.IsSliceOf.new ..) pl pu q3
 show wpAny (model X.prog X.w) X.A (subscriptTail e (.Slice lo hi none p2) v (.ref s3.heap.objs.size)) (EP X pins σ Q) X.xe { s3 with heap:=s3.heap.push { cls:=.type "slice",data:=.fields #[vl,vu,.none] } }
 exact tail_any (ops:=[.ref s3.heap.objs.size,v]) ht hT hg (by with_unfolding_all rfl)
def ZIf (xs:List V) (lo hi:Option Int):List V:=(xs.drop (HT.sIx xs.length 0 lo)).take (HT.sIx xs.length xs.length hi - HT.sIx xs.length 0 lo)
theorem ZFZ (xs:List V) (lo hi:Option Int):(ZIf xs lo hi).length<=xs.length:=by
 unfold ZIf
 rw [List.length_take,List.length_drop]
 omega
def rSlT (K:PySem.W.Frag):V->Option Int->Option Int->Hp->VK->Prop:=λ x lo hi H Q=>∃ a xs,x=.ref a/\SqT K H a xs /\
 ¬ (HT.sIx xs.length 0 lo=0/\HT.sIx xs.length xs.length hi=xs.length)/\∀ p,H p=none->Q (.ref p) (upd H p (.tup (ZIf xs lo hi)))
theorem ZRq:SlR X (rSlT X.K):=by
 intro pins s σ H x v vl vu lo hi sl Q I rx hs pl pu h
 obtain ⟨a,xs,rfl,hx,hw,q⟩:=h
 cases rx
 obtain ⟨its,r,ht,hz⟩:=I.tuple hx
 have hlen:its.toArray.size=xs.length:=by rw [List.size_toArray]; exact r.length.symm
 refine ⟨"tuple",_,PyProof.Rows.slot_tuple_getitem.lookup,ht.typeIs,?_⟩
 refine HT.getItem_tuple_cut ht hs pl pu (by rw [hlen]; exact hw) ?_ (by rw [hlen]; exact hz)
 rw [hlen]
 refine ⟨.ref s.heap.objs.size,_,I.laid (t':=s.toks) (o:=.tup (ZIf xs lo hi)) (λ b ob q=>Heap.get?_push_of_some _ q) (Nat.le_refl _) ?_,rfl,q _ (I.hok.fresh (Nat.le_refl _))⟩
 exact ⟨Nat.le_trans (ZFZ xs lo hi) hz,_,(r.drop (HT.sIx xs.length 0 lo)).take (HT.sIx xs.length xs.length hi - HT.sIx xs.length 0 lo),IsTup.new _ _⟩
def rLtT (K:PySem.W.Frag):R2:=λ x y H Q=>∃ a b ns ms,x=.ref a/\y=.ref b/\SqT K H a (ns.map V.int)/\SqT K H b (ms.map V.int)/\Q (.bl (HT.lexLt ns ms)) H
theorem ZRj (hu:X.A.units < cLine):OpR X (compareOp .Lt) (rLtT X.K):=by
 intro pins s σ H x y v u Q I rx ry h
 obtain ⟨a,b,ns,ms,rfl,rfl,ha,hb,q⟩:=h
 cases rx
 cases ry
 obtain ⟨its,r1,p1,_⟩:=I.tuple ha
 obtain ⟨its2,r2,p2,_⟩:=I.tuple hb
 have i1:IntsAre its.toArray.toList ns:=ZBQ r1
 have i2:IntsAre its2.toArray.toList ms:=ZBQ r2
 exact HT.lt_tupInts p1 p2 i1 i2 hu ⟨.bl (HT.lexLt ns ms),H,I,rfl,q⟩
theorem Zu.nil_iff {xs:List V} {us:List Value} (r:Zu xs us):us=[] ↔ xs=[]:=by
 cases r with
 | nil=>simp
 | cons _ _=>simp
end
end L2
namespace L2
open PySem PySem.Spec PyProof.Rows
def ixN (n:Nat) (i:Int):Option Nat:=if 0<=i then (if i < n then some i.toNat else none) else if -(n:Int)<=i then some (i+n).toNat else none
def atI {α : Type} (xs:List α) (i:Int):Option α:=(ixN xs.length i).bind λ j=>xs[j]?
theorem ZLT {n:Nat} {i:Int} {j:Nat} (h:ixN n i=some j):seqIndex? i n=some j/\j < n/\-(n:Int)<=i/\i < n:=by
 unfold ixN at h
 by_cases h0 : 0<=i
 ·rw [if_pos h0] at h
  by_cases h1:i < n
  ·rw [if_pos h1] at h
   have e:i.toNat=j:=Option.some.inj h
   exact ⟨by rw [seqIndex_of h0 h1,e],by omega,by omega,h1⟩
  ·rw [if_neg h1] at h; cases h
 ·rw [if_neg h0] at h
  by_cases h1 : -(n:Int)<=i
  ·rw [if_pos h1] at h
   have e:(i+n).toNat=j:=Option.some.inj h
   exact ⟨by rw [seqIndex_neg (by omega) h1,e],by omega,h1,by omega⟩
  ·rw [if_neg h1] at h; cases h
theorem ZLS {α : Type} {xs:List α} {i:Int} {v : α} (h:atI xs i=some v):∃ j,seqIndex? i xs.length=some j/\xs[j]? = some v/\j < xs.length/\-(xs.length:Int)<=i/\i < xs.length:=by
 unfold atI at h
 cases e:ixN xs.length i with
 | none=>rw [e] at h; cases h
 | some j =>
  rw [e] at h
  obtain ⟨h1,h2,h3,h4⟩:=ZLT e
  exact ⟨j,h1,h,h2,h3,h4⟩
theorem ZF1 {α : Type} {xs:List α} {j:Nat} {v : α} (h:xs[j]? = some v):atI xs (j:Int)=some v:=by
 have hj:j < xs.length:=(List.getElem?_eq_some_iff.mp h).1
 have e:ixN xs.length (j:Int)=some j:=by
  unfold ixN
  rw [if_pos (by omega),if_pos (by omega)]; simp
 unfold atI; rw [e]; exact h
def ZE3 (b:Expr):Prop:=∀ o i,subscripted b false o i=operate [o,i] (getItem o i)
def IxR (X:Cx) (r:R2):Prop :=
 ∀ (value slice:Expr) (pins:List (Addr × Obj)) (s:Shared) (σ : St) (H:Hp) (x y:V) (v u:Value) (Q:VK),Inv X pins σ H s->Z9 x v->Z9 y u->r x y H Q ->
  subscripted slice false v u=operate [v,u] (getItem v u)->wpAny (model X.prog X.w) X.A (subscriptTail value slice v u) (EP X pins σ Q) X.xe s
def MtR (X:Cx) (id:String) (r:V->List V->Hp->VK->Prop):Prop :=
 ∀ (pins:List (Addr × Obj)) (s:Shared) (σ : St) (H:Hp) (x:V) (xs:List V) (v:Value) (us:List Value) (Q:VK),Inv X pins σ H s->Z9 x v->Zu xs us->r x xs H Q ->
  wpAny (model X.prog X.w) X.A (call (.builtin id) (v :: us)) (EP X pins σ Q) X.xe s
section
variable {X:Cx} {a b:Expr} {ta tb:TE} {pos:Pos}
theorem ZQZ {r:R2} (hr:IxR X r) (ha:PE X a ta) (hb:PE X b tb) (hs:ZE3 b):PE X (.Subscript a b pos) (tOp r ta tb):=by
 intro pins s σ H Q I h
 exact Subscript_ (ZRX ha hb I h λ v u s2 x y H2 I2 rx ry q=>hr a b pins s2 σ H2 x y v u Q I2 rx ry q (hs _ _))
def rIxL (K:PySem.W.Frag):R2:=λ x y H Q=>∃ p xs i v,x=.ref p/\y=.int i/\SqL K H p xs/\atI xs i=some v/\Q v H
def rIxT (K:PySem.W.Frag):R2:=λ x y H Q=>∃ p xs i v,x=.ref p/\y=.int i/\SqT K H p xs/\atI xs i=some v/\Q v H
theorem ZEs:IxR X (rIxL X.K):=by
 intro value slice pins s σ H x y v u Q I rx ry h hs
 obtain ⟨p,xs,i,z,rfl,rfl,hq,he,q⟩:=h
 cases rx
 obtain ⟨t,rfl⟩:=ry
 obtain ⟨its,r,pl,hz⟩:=I.list hq
 obtain ⟨j,h1,h2,h3,h4,h5⟩:=ZLS he
 obtain ⟨w,ew,rw'⟩:=r.get h2
 have hl:=r.length
 have hn:=ZIA
 have fin:EP X pins σ Q w s:=⟨z,H,I,rw',q⟩
 by_cases h0 : 0<=i
 ·have hj:i.toNat=j:=by
   rw [seqIndex_of h0 h5] at h1
   exact Option.some.inj h1
  exact item_listR pl.isList h0 (by omega) (by rw [hj]; simpa using ew) fin hs
 ·have hj:(i+(its.toArray.size:Int)).toNat=j:=by
   rw [seqIndex_neg (by omega) h4] at h1
   rw [List.size_toArray,← hl]
   exact Option.some.inj h1
  exact subscriptTail_builtinR (x:=w) pl.isList.typeIs slot_list_getitem.lookup
   (wpAny_getItem_list_neg (Q:=λ r s'=>r=w/\EP X pins σ Q r s') pl.isList (by omega) (by rw [List.size_toArray] <;> omega) (by omega) (by rw [hj]; simpa using ew) ⟨rfl,fin⟩) hs
theorem ZN7:IxR X (rIxT X.K):=by
 intro value slice pins s σ H x y v u Q I rx ry h hs
 obtain ⟨p,xs,i,z,rfl,rfl,hq,he,q⟩:=h
 cases rx
 obtain ⟨t,rfl⟩:=ry
 obtain ⟨its,r,pl,hz⟩:=I.tuple hq
 obtain ⟨j,h1,h2,h3,h4,h5⟩:=ZLS he
 obtain ⟨w,ew,rw'⟩:=r.get h2
 have hl:=r.length
 have hn:=ZIA
 have fin:EP X pins σ Q w s:=⟨z,H,I,rw',q⟩
 exact subscriptTail_builtinR (x:=w) pl.typeIs slot_tuple_getitem.lookup
  (getItem_tuple (j:=j) (Q:=λ r s'=>r=w/\EP X pins σ Q r s') pl (by omega) (by omega) (by rw [List.size_toArray,← hl]; exact h1) (by simpa using ew) ⟨rfl,fin⟩) hs
theorem ZKz (its:List Value) (n j:Nat) (u:Value):Obj.mapSeq (·.setIfInBounds j u) { cls:=.type "list",data:=.seq its.toArray n }={ cls:=.type "list",data:=.seq (its.set j u).toArray n }:=by
 simp [Obj.mapSeq]
theorem Inv.lst {pins:List (Addr × Obj)} {σ : St} {H:Hp} {s:Shared} {p:Addr} {xs:List V} (I:Inv X pins σ H s) (h:H p=some (.lst xs)) :
  ∃ (its:List Value) (n:Nat),Zu xs its/\s.heap.get? p=some { cls:=.type "list",data:=.seq its.toArray n }/\xs.length<=sizeLine:=by
 obtain ⟨z,its,n,r,e⟩:=I.hok p _ h
 exact ⟨its,n,r,e,z⟩
theorem Inv.lstUpd {pins:List (Addr × Obj)} {σ : St} {H:Hp} {s:Shared} {p:Addr} {xs ys:List V} {its its':List Value} {n n':Nat} {f:Obj->Obj} (I:Inv X pins σ H s) (h:H p=some (.lst xs))
  (ho:s.heap.get? p=some { cls:=.type "list",data:=.seq its.toArray n }) (hf:f { cls:=.type "list",data:=.seq its.toArray n }={ cls:=.type "list",data:=.seq its'.toArray n' }) (r:Zu ys its') (hz:ys.length<=sizeLine) (t:Nat) :
  Inv X pins σ (upd H p (.lst ys)) { s with heap:=s.heap.update p f,toks:=t }:=by
 have e:(s.heap.update p f).get? p=some { cls:=.type "list",data:=.seq its'.toArray n' }:=by
  rw [Heap.get?_update_self f ho (by rw [hf] <;> rfl),hf]
 refine I.write (x:=p) (e:=p) (by rw [h]; trivial) (.inl rfl) (λ b u hb q=>(Heap.get?_update_other _ _ (Ne.symm hb)).trans q) ⟨_,e⟩ ?_
 exact ⟨hz,its',n',r,e⟩
def rSetL:V->V->V->Hp->(Hp->Prop)->Prop:=λ o i v H Q=>∃ p xs k j,o=.ref p/\i=.int k/\H p=some (.lst xs)/\ixN xs.length k=some j/\Q (upd H p (.lst (xs.set j v)))
theorem ZOW:ZSV X rSetL:=by
 intro pins s σ H o i v ov iv u Q I ro ri rv h
 obtain ⟨p,xs,k,j,rfl,rfl,hp,hj,q⟩:=h
 cases ro
 obtain ⟨t,rfl⟩:=ri
 obtain ⟨its,n,r,ho,hz⟩:=I.lst hp
 obtain ⟨h1,h2,h3,h4⟩:=ZLT hj
 have hl:=r.length
 have hn:=ZIA
 have I':Inv X pins σ (upd H p (.lst (xs.set j v))) { s with heap:=s.heap.update p (Obj.mapSeq (·.setIfInBounds j u)) } :=
  I.lstUpd hp ho (ZKz its n j u) (r.set rv j) (by rw [List.length_set]; exact hz) s.toks
 by_cases h0 : 0<=k
 ·have hk:k.toNat=j:=by
   rw [seqIndex_of h0 h4] at h1
   exact Option.some.inj h1
  exact PySem.W.ki_setAt ho h0 (by omega) (by rw [List.size_toArray,← hl]; exact h4) (by rw [hk]; exact ⟨_,I',q⟩)
 ·have hk:(k+(its.toArray.size:Int)).toNat=j:=by
   rw [seqIndex_neg (by omega) h3] at h1
   rw [List.size_toArray,← hl]
   exact Option.some.inj h1
  exact PySem.W.ki_setBack ho (by omega) (by rw [List.size_toArray,← hl]; exact h3) (by omega) (by rw [hk]; exact ⟨_,I',q⟩)
theorem ZIw (lo hi:Option Int) (n:Nat):(sliceBounds lo hi none n).1=((HT.sIx n 0 lo:Nat):Int)/\(sliceBounds lo hi none n).2.1=((HT.sIx n n hi:Nat):Int)/\(sliceBounds lo hi none n).2.2=1:=by
 refine ⟨?_,?_,rfl⟩
 ·cases lo with
  | none=>simp [sliceBounds,HT.sIx]
  | some i =>
   simp only [sliceBounds,HT.sIx,Option.getD_none,show (1:Int) > 0 by decide,if_true]
   by_cases h:i < 0
   ·simp only [h,if_true] <;> omega
   ·simp only [h,if_false] <;> omega
 ·cases hi with
  | none=>simp [sliceBounds,HT.sIx]
  | some i =>
   simp only [sliceBounds,HT.sIx,Option.getD_none,show (1:Int) > 0 by decide,if_true]
   by_cases h:i < 0
   ·simp only [h,if_true] <;> omega
   ·simp only [h,if_false] <;> omega
theorem ZHB (its:List Value) (lo hi:Option Int):slicePick its.toArray lo hi none=((its.drop (HT.sIx its.length 0 lo)).take (HT.sIx its.length its.length hi - HT.sIx its.length 0 lo)).toArray:=by
 obtain ⟨h1,h2,h3⟩:=ZIw lo hi its.toArray.size
 unfold slicePick
 rw [h1,h2,h3]
 simp only [sliceRange_one,pick_run,List.size_toArray] <;> rfl
def rSlL (K:PySem.W.Frag):V->Option Int->Option Int->Hp->VK->Prop:=λ x lo hi H Q=>∃ a xs,x=.ref a/\SqL K H a xs/\∀ p,H p=none->Q (.ref p) (upd H p (.lst (ZIf xs lo hi)))
theorem ZLX:SlR X (rSlL X.K):=by
 intro pins s σ H x v vl vu lo hi sl Q I rx hs pl pu h
 obtain ⟨a,xs,rfl,hx,q⟩:=h
 cases rx
 obtain ⟨its,r,ht,hz⟩:=I.list hx
 have hlen:=r.length
 refine ⟨"list",_,slot_list_getitem.lookup,ht.isList.typeIs,?_⟩
 refine wpAny_getItem_list_slice ht.isList hs pl pu .none (by simp) ?_ (by rw [List.size_toArray] <;> omega)
 rw [ZHB,← hlen]
 refine ⟨.ref s.heap.objs.size,_,I.laid (t':=s.toks) (o:=.lst (ZIf xs lo hi)) (λ b ob q=>Heap.get?_push_of_some _ q) (Nat.le_refl _) ?_,rfl,q _ (I.hok.fresh (Nat.le_refl _))⟩
 exact ⟨Nat.le_trans (ZFZ xs lo hi) hz,_,0,(r.drop (HT.sIx xs.length 0 lo)).take (HT.sIx xs.length xs.length hi - HT.sIx xs.length 0 lo),Heap.get?_push_size _ rfl⟩
def eqV:V->V->Bool
 | .non,.non=>true
 | .bl a,.bl b=>a == b
 | .bl a,.int b=>(if a then 1 else 0) == b
 | .int a,.bl b=>a == (if b then 1 else 0)
 | .int a,.int b=>a == b
 | .str a,.str b=>a == b
 | _,_=>false
def inV (x:V) (xs:List V):Bool:=xs.any λ y=>eqV y x
theorem ZIX:ZAG X (.builtin "len") (λ xs H Q=>∃ p ys,xs=[.ref p]/\(SqL X.K H p ys ∨ SqT X.K H p ys)/\Q (.int ys.length) H):=by
 intro pins s σ H xs us Q I r h
 obtain ⟨p,ys,rfl,hq,q⟩:=h
 obtain ⟨u,rfl,rx⟩:=ZEM r
 cases rx
 have hn:=ZIA
 rcases hq with hq | hq
 ·obtain ⟨its,r',pl,hz⟩:=I.list hq
  have hlen:=r'.length
  exact Calls.call_len_list pl.isList (by simp only [List.size_toArray] <;> omega) ⟨.int ys.length,H,I.tok _,⟨s.toks+1,by rw [List.size_toArray,hlen]⟩,q⟩
 ·obtain ⟨its,r',pl,hz⟩:=I.tuple hq
  have hlen:=r'.length
  exact len_tuple pl (by simp only [List.size_toArray] <;> omega) ⟨.int ys.length,H,I.tok _,⟨s.toks+1,by rw [List.size_toArray,hlen]⟩,q⟩
theorem ZAG.or {f:Value} {r r':List V->Hp->VK->Prop} (h:ZAG X f r) (h':ZAG X f r'):ZAG X f (λ xs H Q=>r xs H Q ∨ r' xs H Q):=by
 intro pins s σ H xs us Q I rs q
 rcases q with q | q
 ·exact h pins s σ H xs us Q I rs q
 ·exact h' pins s σ H xs us Q I rs q
theorem ZHP:ZAG X (.type "tuple") (λ xs H Q=>∃ p ys,xs=[.ref p]/\((SqL X.K H p ys/\∀ l,H l=none->Q (.ref l) (upd H l (.tup ys))) ∨ (SqT X.K H p ys/\Q (.ref p) H))):=by
 intro pins s σ H xs us Q I r h
 obtain ⟨p,ys,rfl,h⟩:=h
 obtain ⟨u,rfl,rx⟩:=ZEM r
 cases rx
 rcases h with ⟨hq,q⟩ | ⟨hq,q⟩
 ·obtain ⟨its,r',pl,hz⟩:=I.list hq
  have hlen:=r'.length
  refine call_tuple_list pl.isList (λ h' kp=>?_) (by simp only [List.size_toArray] <;> omega)
  have I1:Inv X pins σ H { s with heap:=h' }:=I.kept (t':=s.toks) kp
  have I2:Inv X pins σ (upd H h'.objs.size (.tup ys)) { s with heap:=h'.push { cls:=.type "tuple",data:=.seq its.toArray } } :=
   I1.laid (t':=s.toks) (λ b o e=>Heap.get?_push_of_some _ e) (Nat.le_refl _) (show ZB7 X.prog X.w _ _ _ (.tup ys) from ⟨hz,its,r',IsTup.new _ _⟩)
  exact ⟨.ref h'.objs.size,_,I2,rfl,q _ (I1.hok.fresh (Nat.le_refl _))⟩
 ·obtain ⟨its,r',pl,hz⟩:=I.tuple hq
  exact call_tuple_same pl ⟨.ref p,H,I,rfl,q⟩
def tyV (K:PySem.W.Frag) (T:String) (x:V) (H:Hp):Prop:=match x with
 | .str _=>T = "str"
 | .int _=>T = "int"
 | .ref p=>(T = "list"/\∃ xs,SqL K H p xs) ∨ (T = "tuple"/\∃ o,K.lookup p=some o/\o.cls=.type "tuple"/\o.dict=none) ∨
   (T = "dict"/\((∃ kvs,H p=some (.dK kvs)) ∨ ∃ kvs,H p=some (.dT kvs))) ∨ (T = "set"/\∃ S n,H p=some (.set S n))
 | _=>False
theorem ZRf {pins:List (Addr × Obj)} {σ : St} {H:Hp} {s:Shared} {T:String} {x:V} {v:Value} (I:Inv X pins σ H s) (r:Z9 x v) (ty:tyV X.K T x H) :
  s.TypeIs v T/\∀ a,v=.ref a->∃ ob,s.heap.get? a=some ob/\ob.dict=none:=by
 cases x with
 | str z =>
  obtain ⟨t,rfl⟩:=r
  cases (show T = "str" from ty)
  exact ⟨typeIs_str s z t,λ _ e=>nomatch e⟩
 | int i =>
  obtain ⟨t,rfl⟩:=r
  cases (show T = "int" from ty)
  exact ⟨typeIs_int s i t,λ _ e=>nomatch e⟩
 | ref p =>
  cases r
  rcases ty with ⟨rfl,xs,hq⟩ | ⟨rfl,o,hk,hc,hd⟩ | ⟨rfl,hk⟩ | ⟨rfl,S,n,hk⟩
  ·obtain ⟨its,_,pl,_⟩:=I.list hq
   refine ⟨pl.isList.typeIs,λ a e=>?_⟩
   cases e
   obtain ⟨o,n,e,c,hd,_⟩:=pl
   exact ⟨o,e,hd⟩
  ·refine ⟨⟨o,I.kIn p o hk,hc⟩,λ a e=>?_⟩
   cases e
   exact ⟨o,I.kIn _ o hk,hd⟩
  ·have z:∃ o,s.heap.get? p=some o/\o.ExactDict:=by
    rcases hk with ⟨kvs,hk⟩ | ⟨kvs,hk⟩
    ·obtain ⟨_,_,_,_,o,_,_,e,ex,_⟩:=I.hok p _ hk
     exact ⟨o,e,ex⟩
    ·obtain ⟨_,_,_,_,o,_,_,e,ex,_⟩:=I.hok p _ hk
     exact ⟨o,e,ex⟩
   obtain ⟨o,e,ex⟩:=z
   refine ⟨⟨o,e,ex.1⟩,λ a e2=>?_⟩
   cases e2
   exact ⟨o,e,ex.2.1⟩
  ·obtain ⟨o,_,_,_,e,ex,_⟩:=I.hok p _ hk
   refine ⟨⟨o,e,ex.1⟩,λ a e2=>?_⟩
   cases e2
   exact ⟨o,e,ex.2.1⟩
 | _=>exact False.elim ty
def tBM (K:PySem.W.Frag) (T:String) (r:V->List V->Hp->VK->Prop) (to:TE) (t:TA):TE:=λ σ H Q=>to σ H λ x H1=>tyV K T x H1/\t σ H1 λ xs H2=>r x xs H2 Q
variable {o e:Expr} {es:List Expr} {to:TE} {t:TA} {name:Str} {apos cpos:Pos} {T id:String} {r:V->List V->Hp->VK->Prop}
theorem pe_bm (pa:PlainAttrs T) (slot:Slot T name id) (hty:typeOf (.builtin id)=pure (.type "method_descriptor")) (hm:MtR X id r) (ho:PE X o to) (ha:PA X (e :: es) t)
  (hbase:attributeBase o name X.env (eval o X.env)=eval o X.env:=by rfl)
  (hfew:((backTo cpos (starEach (e :: es) X.env)).all (λ x=>!x.1) && (backToKw cpos (keywordEach [] X.env)).all (λ x=>x.1.isSome)
   && decide ((e :: es).length+([]:List Keyword).length+(if ([]:List Keyword).isEmpty then 0 else 1) < 30))=true:=by rfl)
  (hline:(apos.endLine == cpos.line)=true:=by rfl) (hs:starEach (e :: es) X.env=(false,eval e X.env) :: starEach es X.env:=by rfl) (hplain:(backTo cpos (starEach es X.env)).any (·.1)=false:=by rfl) :
  PE X (.Call (.Attribute o name apos) (e :: es) [] cpos) (tBM X.K T r to t):=by
 intro pins s σ H Q I h
 refine wpAny_Call_method_late hbase hfew hline rfl (thn (ho pins s σ H _ I h) λ v s1 ⟨x,H1,I1,r1,ty,q1⟩=>?_)
 obtain ⟨h1,h2⟩:=ZRf I1 r1 ty
 refine ⟨T,id,pa,slot,hty,h1,h2,?_⟩
 have hA:=ha cpos pins s1 σ H1 _ I1 q1
 rw [hs] at hA ⊢
 refine Calls.callWith_builtin (by show (false || (backTo cpos (starEach es X.env)).any (·.1))=false; rw [hplain] <;> rfl) (Calls.evalArgs_plain ?_)
 exact thn hA λ us s2 ⟨vs,H2,I2,r2,q2⟩=>hm pins s2 σ H2 x vs v us Q I2 r1 r2 q2
end
end L2
namespace L2
open PySem PySem.Spec PyProof.Rows
def MtM (X:Cx) (id:String) (r:V->List V->Hp->VK->Prop):Prop :=
 ∀ (pins:List (Addr × Obj)) (s:Shared) (σ : St) (H:Hp) (x:V) (xs:List V) (v:Value) (us:List Value) (Q:VK),Inv X pins σ H s->Z9 x v->Zu xs us->r x xs H Q ->
  wpAny (model X.prog X.w) X.A (call (.builtin id) (v :: us)) (EP X pins σ Q) X.xe s
theorem Zu.one:∀ {x:V} {us:List Value},Zu [x] us->∃ u,us=[u]/\Z9 x u
 | _,_,.cons r .nil=>⟨_,rfl,r⟩
theorem Zu.rep {xs:List V} {us:List Value} (h:Zu xs us):∀ k:Nat,Zu (List.replicate k xs).flatten (List.replicate k us).flatten
 | 0=>.nil
 | k+1=>by
  rw [List.replicate_succ,List.replicate_succ,List.flatten_cons,List.flatten_cons]
  exact Zu.append h (Zu.rep h k)
theorem ZFN (its:List Value):∀ (k:Nat) (acc:List Value),
  List.foldl (λ x1 x2=>x1 ++ x2) acc.toArray (List.replicate k its.toArray)=(acc ++ (List.replicate k its).flatten).toArray
 | 0,acc=>by simp
 | k+1,acc=>by
  have e:acc.toArray ++ its.toArray=(acc ++ its).toArray:=by simp
  have e2:(acc ++ its) ++ (List.replicate k its).flatten=acc ++ (List.replicate (k+1) its).flatten:=by
   rw [List.replicate_succ,List.flatten_cons,List.append_assoc]
  rw [← e2,← ZFN its k (acc ++ its),← e,List.replicate_succ,List.foldl_cons]
section
variable {X:Cx} {pins:List (Addr × Obj)} {σ : St} {H:Hp} {s:Shared} {l b:Addr} {xs ys zs:List V}
theorem Inv.lset {its its':List Value} {n:Nat} {f:Array Value->Array Value} {t':Nat} (I:Inv X pins σ H s) (hH:H l=some (.lst xs))
  (e:s.heap.get? l=some { cls:=.type "list",data:=.seq its.toArray n }) (hf:f its.toArray=its'.toArray) (hv:Zu ys its') (hz:ys.length<=sizeLine) :
  Inv X pins σ (upd H l (.lst ys)) { s with heap:=s.heap.update l (Obj.mapSeq f),toks:=t' }:=by
 have q:=PySem.IsL.update e f
 rw [hf] at q
 refine I.write (x:=l) (e:=l) (by rw [hH]; exact trivial) (.inl rfl) (λ b' u hb hu=>(Heap.get?_update_other s.heap (Obj.mapSeq f) (Ne.symm hb)).trans hu) ⟨_,q⟩ ?_
 exact ⟨hz,its',_,hv,q⟩
theorem Inv.lnew {its:List Value} {t':Nat} (I:Inv X pins σ H s) (hv:Zu ys its) (hz:ys.length<=sizeLine) :
  Inv X pins σ (upd H s.heap.objs.size (.lst ys)) { s with heap:=s.heap.push { cls:=.type "list",data:=.seq its.toArray },toks:=t' } :=
 I.laid (λ _ _ q=>Heap.get?_push_of_some _ q) (Nat.le_refl _) ⟨hz,its,0,hv,Heap.get?_push_size _ rfl⟩
theorem Inv.fresh (I:Inv X pins σ H s):H s.heap.objs.size=none:=I.hok.fresh (Nat.le_refl _)
theorem Inv.lstM (I:Inv X pins σ H s) (hH:H l=some (.lst xs)):xs.length<=sizeLine/\∃ (its:List Value) (n:Nat),Zu xs its/\xs.length=its.length/\s.heap.get? l=some { cls:=.type "list",data:=.seq its.toArray n }:=by
 obtain ⟨z,its,n,r,e⟩:=I.hok l _ hH
 exact ⟨z,its,n,r,r.length,e⟩
theorem ZJR {n:Nat} (h:n<=sizeLine):Builtin.List.listTooLong n=false:=by
 unfold Builtin.List.listTooLong
 exact decide_eq_false (by omega)
end
section
variable {X:Cx}
def ZP8:V->List V->Hp->VK->Prop:=λ x vs H Q=>∃ l xs y,x=.ref l/\vs=[y]/\H l=some (.lst xs)/\xs.length < sizeLine/\Q .non (upd H l (.lst (xs ++ [y])))
theorem ZHY:MtM X "list.append" ZP8:=by
 intro pins s σ H x vs v us Q I rx rv h
 obtain ⟨l,xs,y,rfl,rfl,hH,hz,q⟩:=h
 cases rx
 obtain ⟨u,rfl,ru⟩:=rv.one
 obtain ⟨z,its,n,r,hl,e⟩:=I.lstM hH
 refine call_meets F.slot_list_append ⟨_,e,rfl⟩ F.entry_list_append (F.args_list_append_2 _ _) (PySem.list_append l its.toArray n u (by rw [List.size_toArray]; omega)) ⟨e,?_⟩
 refine ⟨.non,_,I.lset (its':=its ++ [u]) hH e (by simp) (r.append (.cons ru .nil)) ?_,rfl,q⟩
 rw [List.length_append,List.length_singleton]
 omega
def rCat:R2:=λ x y H Q=>∃ l b xs zs,x=.ref l/\y=.ref b/\H l=some (.lst xs)/\H b=some (.lst zs)/\xs.length+zs.length<=sizeLine/\∀ p,H p=none->Q (.ref p) (upd H p (.lst (xs ++ zs)))
theorem ZR1:OpR X (binaryOp .Add) rCat:=by
 intro pins s σ H x y v u Q I rx ry h
 obtain ⟨l,b,xs,zs,rfl,rfl,hH,hB,hz,q⟩:=h
 cases rx
 cases ry
 obtain ⟨z,its,n,r,hl,e⟩:=I.lstM hH
 obtain ⟨z2,its2,n2,r2,hl2,e2⟩:=I.lstM hB
 refine PySem.P.add_list e e2 ?_ (by rw [List.size_toArray,List.size_toArray]; omega)
 have ea:its.toArray ++ its2.toArray=(its ++ its2).toArray:=by simp
 rw [ea]
 exact ⟨.ref _,_,I.lnew (t':=s.toks) (r.append r2) (by rw [List.length_append]; omega),rfl,q _ I.fresh⟩
def rRep:R2:=λ x y H Q=>∃ l k xs,x=.ref l/\y=.int k/\H l=some (.lst xs)/\-(2 ^ 63)<=k/\k < 2 ^ 63/\xs.length * k.toNat<=sizeLine /\
 ∀ p,H p=none->Q (.ref p) (upd H p (.lst (List.replicate k.toNat xs).flatten))
theorem ZLN {α : Type} (xs:List α) (k:Nat):(List.replicate k xs).flatten.length=k * xs.length:=by
 induction k with
 | zero=>simp
 | succ k ih=>rw [List.replicate_succ,List.flatten_cons,List.length_append,ih,Nat.succ_mul,Nat.add_comm]
theorem ZQz:OpR X (binaryOp .Mult) rRep:=by
 intro pins s σ H x y v u Q I rx ry h
 obtain ⟨l,k,xs,rfl,rfl,hH,h1,h2,hz,q⟩:=h
 cases rx
 obtain ⟨t,rfl⟩:=ry
 obtain ⟨z,its,n,r,hl,e⟩:=I.lstM hH
 have hlen:its.toArray.size * k.toNat<=sizeLine:=by rw [List.size_toArray,← hl]; exact hz
 have hcap : ¬ its.toArray.size * k.toNat > (2 ^ 63 - 1) / 8:=by
  have:(sizeLine:Nat)<=(2 ^ 63 - 1) / 8:=by decide
  omega
 have hfit : ¬ (!Builtin.List.listFitsIndex k)=true:=by
  rw [fitsIndex_both h1 h2]
  exact Bool.false_ne_true
 have hlong : ¬ Builtin.List.listTooLong (its.toArray.size * k.toNat)=true:=by
  rw [ZJR hlen]
  exact Bool.false_ne_true
 have hnew:List.foldl (λ x1 x2=>x1 ++ x2) #[] (List.replicate (if its.toArray.isEmpty=true then 0 else k.toNat) its.toArray)=(List.replicate k.toNat its).flatten.toArray:=by
  have f0:∀ m:Nat,List.foldl (λ x1 x2=>x1 ++ x2) #[] (List.replicate m its.toArray)=(List.replicate m its).flatten.toArray:=λ m=>by
   have:=ZFN its m []
   rw [List.nil_append] at this
   exact this
  rw [f0]
  cases its with
  | nil=>simp
  | cons a r'=>rw [if_neg (by simp)]
 refine wpAny_binaryOp_repeat_ref (T:="list") (U:="int") (by decide) ⟨_,e,rfl⟩ (λ s'=>typeIs_int s' k t) noFill_list_mul F.fills_int_mul F.slot_int_rmul repeat_list F.slot_int_index.lookup
  (call_meets F.slot_int_rmul (typeIs_int s k t) F.entry_int_rmul (F.args_int_rmul_2 _ _) (int___rmul___int_list k t l its.toArray n)
   ⟨e,rfl,⟨_,e,rfl⟩,call_meets F.slot_list_mul ⟨_,e,rfl⟩ F.entry_list_mul (F.args_list_mul_2 _ _) (AutoListH.list___mul___list_int_3 l its.toArray n k t hfit hcap hlong) ⟨e,?_⟩⟩)
 rw [hnew]
 exact ⟨.ref _,_,I.lnew (t':=s.toks) (r.rep k.toNat) (by rw [ZLN,Nat.mul_comm]; exact hz),rfl,q _ I.fresh⟩
end
section
variable {prog:Program} {w:World} {A:Around} {E:Value->Shared->Prop} {s:Shared}
end
section
variable {X:Cx}
end
end L2
namespace Att
open PySem PySem.W PySem.Calls PyProof.Rows
theorem ZFu {P:Params} {h:Heap}:∀ (ns:List Int) (vs:List Value),WellAll P h vs (ns.map WData.int)->IntsAre vs ns:=by
 intro ns
 induction ns with
 | nil =>
  intro vs w
  rw [List.map_nil] at w
  cases w
  exact .nil
 | cons n ns ih =>
  intro vs w
  rw [List.map_cons] at w
  cases w with
  | cons a b =>
   cases a
   exact .cons _ _ (ih _ b)
theorem ZLt {l:OpenLaw} {n:Nat} (hn:l.most=some n) {P:Params} {h:Heap} {args:List WData} {vals:List Value}
  (hpre:l.row.toRowW.claim.pre args=true) (hwl:WellAll P h vals args) :
  ∃ a vs ns,vals=[Value.ref a]/\args=[WData.list (ns.map WData.int)]/\h.get? a=some { cls:=.type "list",data:=.seq vs.toArray }/\IntsAre vs ns/\ns.length<=n:=by
 have hsh:WShape.hasAll [] args [.list .int]=true:=(pre_splitW hpre).1
 have hc:l.pre.holds [] { args:=args }=true:=(pre_splitW hpre).2
 obtain ⟨d,r,rfl,h1,h2⟩:=hasAllW_cons hsh
 obtain rfl:=hasAllW_nil h2
 obtain ⟨xs,rfl,h3⟩:=hasW_list h1
 obtain ⟨ns,rfl⟩:=items_int h3
 have hlen:ns.length<=n:=by
  unfold OpenLaw.pre at hc
  have h4:(WTm.not (.lt (.lit (.int (n:Int))) (.len (.arg 0)))).holds [] { args:=[.list (ns.map .int)] }=true:=by
   have h4:=(holds_andW hc).1
   rw [hn] at h4
   exact h4
  have h5:=condW_of h4 (w_not (w_lt w_lit (w_len_list (w_arg rfl))))
  rw [List.length_map] at h5
  refine Nat.le_of_not_lt λ q=>?_
  have q':(n:Int) < ((ns.length:Nat):Int):=by omega
  first
   | (rw [decide_eq_true q'] at h5; exact absurd h5 (by decide))
   | (simp at h5; omega)
 cases hwl with
 | cons w1 w2 =>
  cases w2
  cases w1 with
  | list ho hall=>exact ⟨_,_,ns,rfl,rfl,ho,ZFu ns _ hall,hlen⟩
theorem ZLg (l:OpenLaw) (args:List WData):l.row.toRowW.claim.post args (.bool true) args=true :=
 postW_of (r:=l.row.toRowW) (X:=(true == true))
  (show WShape.has [] (.bool true) .bool=true by first | rfl | decide | simp [WShape.has,WShape.arms,WShape.armsAll])
  (show (WTm.eq .res (.lit (.bool true))).value [] { args:=args,res:=some (.bool true),after:=args }=some (.bool (true == true)) from w_eq_bool (w_res rfl) w_lit) rfl
theorem attach_call {l:OpenLaw} {n:Nat} {q:Program} {loose:List Str} {XP:(Str->Option Value)->Heap->Prop} {YP:World->Heap->Prop} {d:DefRec}
  (hn:l.most=some n) (hdf:d.params.defaults=[])
  (call:∀ (w:World) (s₀ s₁ : Shared) (mg mb:Str->Option Value) (fa:Addr) (o:Obj) (pm cd doc:Value) (a:Addr) (vs:List Value) (ns:List Int),
   Ground q loose [] XP w s₀ mg mb s₁.heap->YP w s₁.heap ->
   s₁.heap.get? fa=some o->o.data=.func (docDef d.name d.params d.body d.scope pm cd doc)->s₁.heap.CodeRec cd d.name->mg d.name=some (.ref fa) ->
   s₁.heap.get? a=some { cls:=.type "list",data:=.seq vs.toArray }->IntsAre vs ns->ns.length<=n->s₁.gens = #[] ->
   codeAny (model l.prog w) callerA (.call (.ref fa) ⟨[.ref a],[]⟩) (λ r s'=>r=.ok (.ret (.bool true))/\OldK s₁.heap s'.heap/\s'.os=s₁.os/\AllBare s'.gens) s₁) :
  WalkO q loose XP YP l.row.toRowW d [] (λ f vs=>PySem.call f vs):=by
 intro w s₀ s₁ mg mb G Y fa o pm cd doc dV kV ho hd hcd hD hmg hg args vals as hpre hlay hrd hwl hlo
 obtain rfl:dV=.none:=Dflts.none hD hdf
 obtain rfl:kV=.none:=Dflts.noKw hD
 obtain ⟨a,vs,ns,rfl,rfl,hobj,hints,hlen⟩:=ZLt hn hpre hwl
 refine enter_call (codeAny_mono (call w s₀ s₁ mg mb fa o pm cd doc a vs ns G Y ho (fd_plain hd) hcd hmg hobj hints hlen hg) λ r s' hq=>?_)
 obtain ⟨rfl,h2,h3,h4⟩:=hq
 exact ⟨.inl ⟨.bool true,.bool true,[],rfl,λ _=>rfl,.bool true,ZLg l _,λ _=>⟨List.Pairwise.nil,λ _ hm=>(nomatch hm)⟩⟩,h2,h3,h4⟩
section
variable {prog:Program} {w:World} {A:Around} {E:Value->Shared->Prop} {s:Shared} {K:Frag}
end
end Att
namespace L2
open PySem PySem.Spec PyProof.Rows
theorem ZHh:∀ {vs:List Value} {ns:List Int},IntsAre vs ns->Zu (ns.map V.int) vs
 | _,_,.nil=>.nil
 | _,_,.cons n t h=>.cons ⟨t,rfl⟩ (ZHh h)
def ZQv (H:Hp):Prop:=∀ b,H b=none ∨ ∃ o xs,H b=some (.frz o (.lst xs))
theorem ZOR {P:Program} {w:World} {K:PySem.W.Frag} {mg mb:Str->Option Value} {CX:CXT} {k:Nat} {fa a:Addr} {fd:FuncData} {x:Str} {sp:Sp} {s₁ : Shared} {vs:List Value} {ns:List Int}
  (KX:K.In s₁.heap) (hns:s₁.heap.Ns mainGlobals mg) (hb:s₁.heap.Ns builtinsNs mb) (hbb:∀ x:Str,x ≠ "__name__"->mb x=bootBuiltins x) (hlim:s₁.heap.NoLimit) (hg:s₁.gens = #[])
  (ha:s₁.heap.get? a=some { cls:=.type "list",data:=.seq vs.toArray }) (hi:IntsAre vs ns) (hl:ns.length<=sizeLine) (hr:Room k callerA)
  (F:∀ base:Heap,K.In base->base.Ns mainGlobals mg->FnOk P w K mg base CX k fa fd [x] sp) (hbind:∀ (s:Shared) (u:Value),BindsTo s fd ⟨[u],[]⟩ [(x,u)])
  (hsp:∀ H:Hp,ZQv H->SqL K H a (ns.map V.int)->sp [.ref a] H (λ v _=>v=.bl true) λ _ _ _=>False)
  (hCX:∀ H e s',CX [] H s₁ (λ _ _ _=>False) e s'->False) :
  codeAny (model P w) callerA (.call (.ref fa) ⟨[.ref a],[]⟩) (λ r s'=>r=.ok (.ret (.bool true))/\OldK s₁.heap s'.heap/\s'.os=s₁.os/\AllBare s'.gens) s₁:=by
 have rv:=ZHh hi
 have lenV:=hi.length
 -- from an abstract heap in which nothing but the script may be tracked
 have core:∀ H:Hp,ZQv H->SqL K H a (ns.map V.int)->HOk P w H s₁.heap->(∀ b,H b ≠ none->b=a)->(H a ≠ none->K.lookup a=none) ->
   codeAny (model P w) callerA (.call (.ref fa) ⟨[.ref a],[]⟩) (λ r s'=>r=.ok (.ret (.bool true))/\OldK s₁.heap s'.heap/\s'.os=s₁.os/\AllBare s'.gens) s₁:=by
  intro H hO hS hok hA hK
  have base_of:∀ {b:Addr} {o:Obj},s₁.heap.get? b=some o->H b=none->(ZIC s₁.heap H).get? b=some o:=λ e n=>ZNi e n
  have noA:∀ {b:Addr} {o:Obj} {es:Array DictEntry} {ep:Nat},s₁.heap.get? b=some o->o.data=.dict es ep->H b=none:=λ {b o es ep} e d=>by
   cases q:H b with
   | none=>rfl
   | some u =>
    have e':b=a:=hA b (by rw [q]; simp)
    subst e'
    rw [ha] at e; cases e
    have d':Data.seq vs.toArray _=Data.dict es ep:=d
    cases d'
  have nsK:∀ {b:Addr} {m:Str->Option Value},s₁.heap.Ns b m->(ZIC s₁.heap H).Ns b m:=λ {b m} ⟨o,es,ep,e,d,r⟩=>⟨o,es,ep,base_of e (noA e d),d,r⟩
  have hKb:K.In (ZIC s₁.heap H):=λ b o e=>base_of (KX b o e) (by
   cases q:H b with
   | none=>rfl
   | some u =>
    have e':b=a:=hA b (by rw [q]; simp)
    subst e'
    rw [hK (by rw [q]; simp)] at e; cases e)
  have hM:Mod K mg (ZIC s₁.heap H):=⟨hKb,nsK hns,⟨mb,nsK hb,hbb⟩,let ⟨mc,h1,h2⟩:=hlim; ⟨mc,nsK h1,h2⟩⟩
  have e0:Env0 P w K mg (ZIC s₁.heap H) callerA [] s₁ H:=⟨rfl,hM,λ b o e=>ZPX e,Nat.le_of_eq (ZMD _ _),trivial,λ b hb=>absurd (show b ∈ ([]:List Addr) from hb) (by simp),hok,.of_eq hg⟩
  refine codeAny_mono ((F _ hKb (nsK hns)).run callerA [] s₁ H ⟨[.ref a],[]⟩ [.ref a] [.ref a] _ _ hr e0 (hbind s₁ (.ref a)) (.cons rfl .nil) (hsp H hO hS)) λ r s' h=>?_
  cases r with
  | error e=>exact (hCX H e s' h).elim
  | ok fl =>
   cases fl with
   | next=>exact False.elim h
   | brk=>exact False.elim h
   | cont=>exact False.elim h
   | ret u =>
    obtain ⟨v,H',os,bare,un,hok',r',q⟩:=h
    have q':v=.bl true:=q
    subst q'
    obtain rfl:u=Value.bool true:=r'
    refine ⟨rfl,OldK.of_keep λ b o e=>?_,os,bare⟩
    cases q:H b with
    | none=>exact un.keep b o e q (by intro z; exact absurd (show b ∈ ([]:List Addr) from z) (by simp)) (by simp)
    | some u =>
     rcases hO b with z | ⟨ob,xs,z⟩
     ·rw [q] at z; cases z
     ·have z2:=un.frzs b ob _ z
      obtain ⟨e1,_⟩:=hok b _ z
      obtain ⟨e2,_⟩:=hok' b _ z2
      rw [e] at e1; cases e1
      exact e2
 cases hk:K.lookup a with
 | some o =>
  -- the script is one of the module's own objects
  have e:=KX a o hk
  rw [ha] at e
  cases e
  refine core (λ _=>none) (λ _=>.inl rfl) (.inr ⟨_,vs.toArray,_,hk,rfl,rfl,rfl,by rw [List.size_toArray,lenV]; exact hl,by simpa using rv⟩) (λ b u z=>by have z':(none:Option HO)=some u:=z; cases z') (λ b z=>absurd rfl z) λ z=>absurd rfl z
 | none =>
  refine core (λ b=>if b=a then some (.frz { cls:=.type "list",data:=.seq vs.toArray } (.lst (ns.map V.int))) else none) (λ b=>?_) (.inl (.inr ⟨{ cls:=.type "list",data:=.seq vs.toArray },if_pos rfl⟩)) (λ b u z=>?_) (λ b z=>?_) λ _=>hk
  ·by_cases hb:b=a
   ·exact .inr ⟨_,_,if_pos hb⟩
   ·exact .inl (if_neg hb)
  ·by_cases hb:b=a
   ·have z':=(if_pos hb).symm.trans z
    cases z'
    subst hb
    exact ⟨ha,by rw [List.length_map]; exact hl,vs,_,rv,ha⟩
   ·have z':=(if_neg hb).symm.trans z
    cases z'
  ·by_cases hb:b=a
   ·exact hb
   ·exact absurd (if_neg hb) z
end L2
namespace L2
open PySem PySem.Spec PyProof.Rows
theorem walk_of {l:PySem.W.OpenLaw} {n k:Nat} {q:Program} {loose:List Str} {XP:(Str->Option Value)->Heap->Prop} {YP:World->Heap->Prop} {d:DefRec} {K:Params->PySem.W.Frag} {CX:World->CXT} {sp:World->Sp} {x:Str}
  (hn:l.most=some n) (hn2:n<=sizeLine) (hdf:d.params.defaults=[]) (hr:Room k callerA)
  (hY:∀ (w:World) (h:Heap),YP w h->(K w.params).In h)
  (F:∀ (w:World) (mg:Str->Option Value) (fa:Addr) (h:Heap),(K w.params).In h->h.Ns mainGlobals mg->mg d.name=some (.ref fa) ->
   ∃ fd:FuncData,(∀ (s:Shared) (u:Value),BindsTo s fd ⟨[u],[]⟩ [(x,u)]) /\
    ∀ base:Heap,(K w.params).In base->base.Ns mainGlobals mg->FnOk l.prog w (K w.params) mg base (CX w) k fa fd [x] (sp w))
  (hsp:∀ (w:World) (H:Hp) (a:Addr) (ns:List Int),ns.length<=n->ZQv H->SqL (K w.params) H a (ns.map V.int)->sp w [.ref a] H (λ v _=>v=.bl true) λ _ _ _=>False)
  (hCX:∀ (w:World) (H:Hp) (s:Shared) (e:Value) (s':Shared),CX w [] H s (λ _ _ _=>False) e s'->False) :
  PySem.W.WalkO q loose XP YP l.row.toRowW d [] (λ f vs=>PySem.call f vs):=by
 refine Att.attach_call hn hdf λ w s₀ s₁ mg mb fa o pm cd doc a vs ns G Y ho hd hcd hmg hobj hints hlen hg=>?_
 have KX:=hY w _ Y
 obtain ⟨fd,hb,hF⟩:=F w mg fa _ KX G.T.g hmg
 exact ZOR KX G.T.g G.T.b G.T.builtins G.T.nolimit hg hobj hints (Nat.le_trans hlen hn2) hr hF hb (λ H hO hS=>hsp w H a ns hlen hO hS) λ H e s'=>hCX w H s₁ e s'
end L2
namespace L2
open PySem PySem.Spec PyProof.Rows
def ZCp (s:Stmt) (j:Nat):Stmt:=match s with
 | .ClassDef _ _ _ body _ _ _ _ _ _ _=>body.getD j (.Pass ⟨0,0,0,0⟩)
 | _=>.Pass ⟨0,0,0,0⟩
def ZDO (s:Stmt):Arguments:=match s with
 | .FunctionDef _ a _ _ _ _ _ _ _ _=>a
 | _=>{ posonlyargs:=[],args:=[],vararg:=none,kwonlyargs:=[],kw_defaults:=[],kwarg:=none,defaults:=[] }
def ZBy (s:Stmt):List Stmt:=match s with
 | .FunctionDef _ _ b _ _ _ _ _ _ _=>b
 | _=>[]
def ZM (s:Stmt):Scope:=match s with
 | .FunctionDef _ _ _ _ _ _ sc _ _ _=>sc
 | _=>{ kind:=.function,names:=[],isGenerator:=false,isCoroutine:=false }
abbrev CX0:CXT:=λ _ _ _ _ _ _=>False
abbrev E0:XK:=λ _ _ _=>False
theorem ZMx {X:Cx}:ZFJ CX0 X E0:=λ _ _ _ _ _ _ _ h=>h.elim
structure Fun (K:PySem.W.Frag) (x qual:Str) (st:Stmt) (f:Addr) (fd:FuncData):Prop where
 ex:∃ (oc:Value) (od:Option Addr) (kV doc pm:Value) (an:Option Addr) (cdv ct:Value) (osl:Array (Option Value)),
  fd=PySem.W.fnOf x qual (ZDO st) (ZBy st) (ZM st) .none kV doc pm an cdv ct/\K.lookup f=some ⟨oc,od,.func fd,osl⟩/\PySem.W.codeIn K cdv qual=true
 kp:PySem.W.keepIn K (.ref f)=true
section
variable {P:Program} {w:World} {K:PySem.W.Frag} {mg:Str->Option Value} {base:Heap}
theorem Fun.ok {x qual:Str} {st:Stmt} {f:Addr} {fd:FuncData} {N ps:List Str} {k:Nat} {sp:Sp} (F:Fun K x qual st f fd) (S:FnScope N ps (ZM st)) (len:∀ vs H Q E,sp vs H Q E->vs.length=ps.length)
  (hbody:∀ (cdv:Value) (A:Around) (outer:List Env) (s:Shared) (H:Hp) (vs:List V) (Q:VK) (E:XK),Room k (A.deeper (envOfC qual (ZM st) s.heap.objs.size f cdv))->sp vs H Q E ->
   ∃ t,PSs (ZJf CX0 P w K mg base N qual (ZM st) f cdv A outer s H E).nox (ZBy st) t/\t { nx:=λ _ H'=>Q .non H',rt:=Q } (ZE5 N vs) H):FnOk P w K mg base CX0 (k+1) f fd ps sp:=by
 obtain ⟨oc,od,kV,doc,pm,an,cdv,ct,osl,rfl,lk,hcd⟩:=F.ex
 refine fn_of lk hcd S len λ A outer s H vs Q E hr hsp=>?_
 obtain ⟨t,h,q⟩:=hbody cdv A outer s H vs Q E hr hsp
 exact ⟨t,h.nox,q⟩
theorem Fun.binds {x qual:Str} {st:Stmt} {f:Addr} {fd:FuncData} {ps:List Str} (F:Fun K x qual st f fd)
  (h:∀ (kV doc pm:Value) (an:Option Addr) (cdv ct:Value) (us:List Value),us.length=ps.length->bindArgs (PySem.W.fnOf x qual (ZDO st) (ZBy st) (ZM st) .none kV doc pm an cdv ct) ⟨us,[]⟩=pure (ps.zip us)):ZEN K fd ps []:=by
 obtain ⟨oc,od,kV,doc,pm,an,cdv,ct,osl,rfl,lk,hcd⟩:=F.ex
 exact .all (h kV doc pm an cdv ct)
theorem ZNN {x qual:Str} {st:Stmt} {f:Addr} {oc:Value} {od an:Option Addr} {osl:Array (Option Value)} {kV doc pm cdv ct:Value} (l:K.lookup f=some ⟨oc,od,.func (PySem.W.fnOf x qual (ZDO st) (ZBy st) (ZM st) .none kV doc pm an cdv ct),osl⟩)
  (c:PySem.W.codeIn K cdv qual=true) (k:PySem.W.keepIn K (.ref f)=true):Fun K x qual st f (PySem.W.fnOf x qual (ZDO st) (ZBy st) (ZM st) .none kV doc pm an cdv ct):=⟨⟨oc,od,kV,doc,pm,an,cdv,ct,osl,rfl,l,c⟩,k⟩
end
theorem Z7 {n:Nat} (h:n<=1000):n < sizeLine:=Nat.lt_of_le_of_lt h (by decide)
section
variable {X:Cx}
end
theorem iteF {A B:Prop} (h:B):if false=true then A else B:=by
 rw [if_neg Bool.false_ne_true]
 exact h
theorem iteT {A B:Prop} (h:A):if true=true then A else B:=by
 rw [if_pos rfl]
 exact h
def Same (H H':Hp):Prop:=∀ b o,H b=some o->H' b=some o
theorem Same.refl (H:Hp):Same H H:=λ _ _ h=>h
end L2
namespace HT
open PySem PyProof.Rows
def lexGt:List Int->List Int->Bool
 | [],[]=>false
 | [],_ :: _=>false
 | _ :: _,[]=>true
 | x :: xs,y :: ys=>if x=y then lexGt xs ys else decide (y < x)
theorem ZKC (x y:Int) (xs ys:List Int):lexGt (x :: xs) (y :: ys)=if x=y then lexGt xs ys else decide (y < x):=rfl
theorem ZHC:lexGt [] []=false:=rfl
theorem ZGj (y:Int) (ys:List Int):lexGt [] (y :: ys)=false:=rfl
theorem ZGa (x:Int) (xs:List Int):lexGt (x :: xs) []=true:=rfl
theorem ZOT (A:Around) (s:Shared) (a:Int) (t:Tok) (c:Int) (u:Tok) (prog:Program) (w:World) (E:Value->Shared->Prop) (Q:Value->Shared->Prop) (h:Q (.bool (decide (c < a))) s) :
  wpAny (model prog w) A (richCompare .Gt (.int a t) (.int c u)) Q E s :=
 (PyProof.Rows.gt_int h:wpAny (model prog w) A (compareOp .Gt (.int a t) (.int c u)) Q E s)
section
open PySem.SeqAt
open PySem.AutoSeq1 (wpAny_loadPart')
open PySem.MeetsSeq PySem.MeetsSeq2 PySem.MeetsSeq3
theorem ZHD (l b:Addr) (items items2:Array Value) (n n2:Nat) (dd dd2:Option Addr) (sl sl2:Array (Option Value)) (ns ms:List Int) (hi:IntsAre items.toList ns) (hj:IntsAre items2.toList ms) :
  Meets (Builtin.«tuple.__gt__» ⟨[.ref l,.ref b],[]⟩)
   (λ _ R s=>s.heap.get? l=some { cls:=.type "tuple",dict:=dd,data:=.seq items n,slots:=sl }/\s.heap.get? b=some { cls:=.type "tuple",dict:=dd2,data:=.seq items2 n2,slots:=sl2 } /\
    R (.ok (.ret (.bool (lexGt ns ms)))) s) :=
 .of_wp λ prog w A R s h=>by
  obtain ⟨hp,g,d,tk,os⟩:=s; obtain ⟨hl,hb,h⟩:=h
  have f2:=AutoSeq1.sub_tuple_tuple
  have z1:items.size=ns.length:=by rw [← hi.length]; simp
  have z2:items2.size=ms.length:=by rw [← hj.length]; simp
  wp_walk using wpAny_loadPart' hl,wpAny_loadPart' hb,wpAny_forIn_list _ (λ rest b s'=>b.1=none/\s'=⟨hp,g,d,tk,os⟩/\∃ (vs ws:List Value) (ns' ms':List Int),rest=vs.zip ws /\
   IntsAre vs ns'/\IntsAre ws ms'/\ns'.length+items2.size=ms'.length+items.size/\R (.ok (.ret (.bool (lexGt ns' ms')))) ⟨hp,g,d,tk,os⟩) _
  case turn =>
   rintro ⟨y,x⟩ rest b s' ⟨hb',rfl,vs,ws,ns',ms',hz,hvi,hwi,hlen,hR⟩
   cases hvi with
   | nil=>rw [List.zip_nil_left] at hz; cases hz
   | cons a t hvi' =>
    cases hwi with
    | nil=>rw [List.zip_nil_right] at hz; cases hz
    | cons c u hwi' =>
     rw [List.zip_cons_cons] at hz
     injection hz with hyx hrest
     injection hyx with hy hx
     subst hy hx
     rw [ZKC] at hR
     simp only [List.length_cons] at hlen
     obtain ⟨e,he,hiff⟩:=ZGT A.in1 ⟨hp,g,d,tk,os⟩ a t c u
     refine wpAny_bind (he prog w _ _ ?_)
     cases e with
     | true =>
      rw [if_pos (hiff.mp rfl)] at hR
      wp_walk
      exact ⟨rfl,rfl,_,_,_,_,hrest,hvi',hwi',by omega,hR⟩
     | false =>
      rw [if_neg (λ q=>absurd (hiff.mpr q) Bool.false_ne_true)] at hR
      have hri:=ZOT A.in1 ⟨hp,g,d,tk,os⟩ a t c u prog w
      wp_walk using hri
      exact ⟨_,rfl,by simpa using hR⟩
  case fin =>
   rintro ⟨b1,b2⟩ s' ⟨hb',rfl,vs,ws,ns',ms',hz,hvi,hwi,hlen,hR⟩
   simp only at hb'
   subst hb'
   have hv:lexGt ns' ms'=decide (items.size > items2.size):=by
    cases hvi with
    | nil =>
     cases hwi with
     | nil =>
      simp only [List.length_nil] at hlen
      rw [ZHC]
      exact (decide_eq_false (by omega)).symm
     | cons c u hw =>
      simp only [List.length_nil,List.length_cons] at hlen
      rw [ZGj]
      exact (decide_eq_false (by omega)).symm
    | cons a t hv =>
     cases hwi with
     | nil =>
      simp only [List.length_nil,List.length_cons] at hlen
      rw [ZGa]
      exact (decide_eq_true (by omega)).symm
     | cons c u hw =>
      rw [List.zip_cons_cons] at hz
      cases hz
   rw [hv] at hR
   wp_walk
   exact ⟨_,rfl,by simpa [Builtin.Tuple.tupleCompareSizes] using hR⟩
  case h =>
   exact ⟨rfl,rfl,items.toList,items2.toList,ns,ms,rfl,hi,hj,by omega,h⟩
end
section
variable {prog:Program} {w:World} {A:Around} {E:Value->Shared->Prop} {s:Shared}
theorem gt_tupInts {l b:Addr} {items items2:Array Value} {ns ms:List Int} {Q:Value->Shared->Prop} (hl:IsTup s.heap l items) (hb:IsTup s.heap b items2) (hi:IntsAre items.toList ns) (hj:IntsAre items2.toList ms)
  (hu:A.units < cLine) (h:Q (.bool (lexGt ns ms)) s):wpAny (model prog w) A (compareOp .Gt (.ref l) (.ref b)) Q E s:=by
 obtain ⟨⟨cls,dd,data,sl⟩,ho,hc,n,hd⟩:=id hl
 obtain ⟨⟨cls2,dd2,data2,sl2⟩,ho2,hc2,n2,hd2⟩:=id hb
 simp only at hc hd hc2 hd2
 subst hc hd hc2 hd2
 exact richCompare_meets_room (op:=.Gt) ⟨_,ho,rfl⟩ ⟨_,ho2,rfl⟩ PySem.F.slot_tuple_gt PySem.F.entry_tuple_gt (PySem.F.args_tuple_gt_2 _ _) (ZHD l b items items2 n n2 dd dd2 sl sl2 ns ms hi hj)
  ⟨ho,ho2,show Value.bool (lexGt ns ms) ≠ Value.notImplemented/\Q (.bool (lexGt ns ms)) s from ⟨(λ x=>nomatch x),h⟩⟩ hu
end
end HT
namespace L2
open PySem PySem.Spec PyProof.Rows
section
variable {X:Cx} {a b:Expr} {ta tb:TE} {pos:Pos}
def rGtT (K:PySem.W.Frag):R2:=λ x y H Q=>∃ a b ns ms,x=.ref a/\y=.ref b/\SqT K H a (ns.map V.int)/\SqT K H b (ms.map V.int)/\Q (.bl (HT.lexGt ns ms)) H
theorem ZRC (hu:X.A.units < cLine):OpR X (compareOp .Gt) (rGtT X.K):=by
 intro pins s σ H x y v u Q I rx ry h
 obtain ⟨a,b,ns,ms,rfl,rfl,ha,hb,q⟩:=h
 cases rx
 cases ry
 obtain ⟨its,r1,p1,_⟩:=I.tuple ha
 obtain ⟨its2,r2,p2,_⟩:=I.tuple hb
 have i1:IntsAre its.toArray.toList ns:=ZBQ r1
 have i2:IntsAre its2.toArray.toList ms:=ZBQ r2
 exact HT.gt_tupInts p1 p2 i1 i2 hu ⟨.bl (HT.lexGt ns ms),H,I,rfl,q⟩
def CDivL (i j:Int):Prop:=0 < j/\j < 2 ^ 64
theorem ZNO:OpR X (binaryOp .FloorDiv) (rI CDivL λ i j=>.int (i / j)):=opI λ i j _ _ _ _ _ hc q=>by
 have h1:(0:Int) < j:=hc.1
 have h2:j < 2 ^ 64:=hc.2
 have e:i.fdiv j=i / j:=Int.fdiv_eq_ediv_of_nonneg i (Int.le_of_lt h1)
 refine floordiv_int (by omega) (by rw [e]; exact q) (.inl (PyProof.noPylong_of_log2 ?_))
 have h3:j.natAbs < 2 ^ 64:=by omega
 have h4:j.natAbs ≠ 0:=by omega
 have h5:j.natAbs.log2 < 64:=(Nat.log2_lt h4).mpr h3
 omega
end
end L2
namespace H1
open PySem PySem.Spec PyProof.Rows L2
structure Def (K:PySem.W.Frag) (mg:Str->Option Value) (x:Str) (st:Stmt) (ps:List Str) (f:Addr) (fd:FuncData):Prop where
 at_:mg x=some (.ref f)
 fn:Fun K x x st f fd
 bd:ZEN K fd ps []
theorem pcall {X:Cx} {x:Str} {st:Stmt} {ps:List Str} {f:Addr} {fd:FuncData} {sp:Sp} {k:Nat} {e:Expr} {es:List Expr} {t:TA} {p pos:Pos} (D:Def X.K X.mg x st ps f fd) (G:FnOk X.prog X.w X.K X.mg X.base CX0 k f fd ps sp) (hr:Room k X.A)
  (ha:PA X (e :: es) t) (hg:Gl X x:=by rfl) (hdb:(x == ("__debug__" : Str))=false:=by decide) (he:starEach (e :: es) X.env=(false,eval e X.env) :: starEach es X.env:=by rfl) (hpl:(backTo pos (starEach es X.env)).any (·.1)=false:=by rfl) :
  PE X (.Call (.Name x p) (e :: es) [] pos) (ZQS sp [] E0 t):=ZO6 G hr hg D.at_ D.fn.kp D.bd .nil ZMx ha hdb he hpl
theorem Same.upd {H:Hp} {p:Addr} {o:HO} (h:H p=none):Same H (upd H p o):=λ a u e=>by rw [Zb (Zl e h)]; exact e
theorem ib1 (k:Bool) : -(2 ^ 64) < (if k=true then (1:Int) else 0)/\(if k=true then (1:Int) else 0) < 2 ^ 64:=by cases k <;> decide
end H1
set_option maxHeartbeats 4000000
namespace HI
open PySem PyProof.Rows
section
variable {prog:Program} {w:World} {A:Around} {E:Value->Shared->Prop} {s:Shared}
theorem ZGY {j t:Addr} {i:Nat} {its:Array Value} {x:Value} {Q:Value->Shared->Prop} (hj:s.heap.IsTupleIter j t i) (ht:s.heap.IsTuple t its) (hx:its[i]? = some x)
  (k:∀ h',h'.IsTupleIter j t (i+1)->Heap.SameBut j s.heap h'->Q x { s with heap:=h' }):wpAny (model prog w) A (Builtin.SmallTypes.nextOf (.ref j)) Q E s:=by
 obtain ⟨oj,ej,cj,dj⟩:=id hj; obtain ⟨ot,et,_,nt,dt⟩:=ht
 unfold Builtin.SmallTypes.nextOf
 refine wpAny_bind (wpAny_callSpecial?_slot (name:=Str.ofString "__next__") hj.typeIs F.slot_tuple_iterator_next (wpAny_call_entry F.slot_tuple_iterator_next hj.typeIs F.entry_tuple_iterator_next ?_ (F.args_tuple_iterator_next_1 _)))
 refine wpAny_bind (m:=field (.ref j) 0) (wpAny_field ej dj (x:=.ref t) rfl ?_)
 show wpAny _ _ (if (Value.ref t == Value.none)=true then _ else field (.ref j) 1 >>= _) _ _ s
 rw [if_neg (by intro z; cases z)]
 refine wpAny_bind (m:=field (.ref j) 1) (wpAny_field ej dj (x:=.int i 0) rfl (wpAny_bind (m:=seqItems? (.ref t)) (wpAny_seqItems et dt ?_)))
 simp only [Int.toNat_natCast,hx]
 refine wpAny_bind (wpAny_setField ej dj (by simp) (wpAny_pure ⟨_,rfl,wpAny_pure (k _ ?_ (Heap.SameBut.update ..))⟩))
 refine ⟨_,Heap.get?_update_self _ ej (Obj.isFreed_of_fields (Obj.data_mapFields dj _)),(Obj.cls_mapFields ..).trans cj,?_⟩
 rw [Obj.data_mapFields dj]
 simp [rawInt]
theorem ZCQ {j t:Addr} {i:Nat} {its:Array Value} {Q:Value->Shared->Prop} (hh:A.handled=none) (hj:s.heap.IsTupleIter j t i) (ht:s.heap.IsTuple t its) (hx:its[i]? = none)
  (k:∀ h' e,Heap.ExtBut j s.heap h'->(∃ o,h'.get? e=some o/\o.cls=.type "StopIteration")->E (.ref e) { s with heap:=h' }):wpAny (model prog w) A (Builtin.SmallTypes.nextOf (.ref j)) Q E s:=by
 obtain ⟨oj,ej,cj,dj⟩:=id hj; obtain ⟨ot,et,_,nt,dt⟩:=ht
 unfold Builtin.SmallTypes.nextOf
 refine wpAny_bind (wpAny_callSpecial?_slot (name:=Str.ofString "__next__") hj.typeIs F.slot_tuple_iterator_next (wpAny_call_entry F.slot_tuple_iterator_next hj.typeIs F.entry_tuple_iterator_next ?_ (F.args_tuple_iterator_next_1 _)))
 refine wpAny_bind (m:=field (.ref j) 0) (wpAny_field ej dj (x:=.ref t) rfl ?_)
 show wpAny _ _ (if (Value.ref t == Value.none)=true then _ else field (.ref j) 1 >>= _) _ _ s
 rw [if_neg (by intro z; cases z)]
 refine wpAny_bind (m:=field (.ref j) 1) (wpAny_field ej dj (x:=.int i 0) rfl (wpAny_bind (m:=seqItems? (.ref t)) (wpAny_seqItems et dt ?_)))
 simp only [Int.toNat_natCast,hx]
 refine wpAny_bind (wpAny_rule (wpAny_bind (wpAny_setField ej dj (by simp) ?_)))
 refine wpAny_bind (m:=newExc (.type "StopIteration") []) ?_
 simp only [newExc,newTuple]
 refine wpAny_bind (wpAny_newObj_type (wpAny_bind (m:=firstArgMember _ _) (wpAny_of_eq (a:=Value.none) (by first | rfl | (simp only [firstArgMember]; rfl)) (wpAny_newObj_type ?_ (by size_fits)))) (by size_fits))
 simp only [raiseNew]
 refine wpAny_bind (wpAny_handled ?_)
 first
  | rw [show A.in1.handled=none from hh]
  | rw [hh]
 exact wpAny_bind (wpAny_pure (wpAny_throw (k _ _ (((Heap.SameBut.update ..).extBut.push _).push _) ⟨_,Heap.get?_push_size _ rfl,rfl⟩)))
end
theorem drawsT {prog:Program} {w:World} {A:Around} (hh:A.handled=none) (j t:Addr) (ne:t ≠ j) (its:Array Value) :
  Draws prog w A j [j,t] its.size (λ i v=>its[i]? = some v) (λ i h=>h.IsTupleIter j t i/\h.IsTuple t its) where
 live:=λ _ _ st=>by
  obtain ⟨⟨o,e,_⟩,_⟩:=st
  exact ⟨o,e⟩
 frame:=λ _ _ _ st hk=>by
  obtain ⟨⟨o,e,r⟩,⟨u,f,q⟩⟩:=st
  exact ⟨⟨o,hk j (by simp) o e,r⟩,⟨u,hk t (by simp) u f,q⟩⟩
 item:=λ i s Q E hi st hQ=>by
  refine ZGY st.1 st.2 (x:=its[i]) (by simp [hi]) λ h' h1 h2=>?_
  obtain ⟨u,f,q⟩:=st.2
  exact hQ _ h' s.toks (by simp [hi]) ⟨h1,⟨u,(h2.2 t ne).trans f,q⟩⟩ h2
 done:=λ s Q E st hE=>ZCQ hh st.1 st.2 (by simp) hE
theorem drawsT_fin {prog:Program} {w:World} {A:Around} (hh:A.handled=none) (j t:Addr) (its:Array Value) (i:Nat) (hi:its.size<=i) :
  Draws prog w A j [j,t] 0 (λ _ _=>False) (λ _ h=>h.IsTupleIter j t i/\h.IsTuple t its) where
 live:=λ _ _ st=>by
  obtain ⟨⟨o,e,_⟩,_⟩:=st
  exact ⟨o,e⟩
 frame:=λ _ _ _ st hk=>by
  obtain ⟨⟨o,e,r⟩,⟨u,f,q⟩⟩:=st
  exact ⟨⟨o,hk j (by simp) o e,r⟩,⟨u,hk t (by simp) u f,q⟩⟩
 item:=λ i s Q E hi st hQ=>absurd hi (Nat.not_lt_zero _)
 done:=λ s Q E st hE=>ZCQ hh st.1 st.2 (by simp [hi]) hE
open AutoSeq1 (wpAny_loadPart') in
theorem ZMy (l:Addr) (its:Array Value) (n:Nat) (dct:Option Addr) (sl:Array (Option Value)) :
  Meets (Builtin.«enumerate.__new__» ⟨[.type "enumerate",.ref l],[]⟩) (λ _ R s=>s.heap.get? l=some { cls:=.type "tuple",dict:=dct,data:=.seq its n,slots:=sl } /\
   R (.ok (.ret (.ref (s.heap.push { cls:=.type "tuple_iterator",data:=.fields #[.ref l,.int 0 0] }).objs.size)))
    { s with heap:=(s.heap.push { cls:=.type "tuple_iterator",data:=.fields #[.ref l,.int 0 0] }).push { cls:=.type "enumerate",data:=.fields #[.none,.bool false,.ref s.heap.objs.size,rawInt 0,.none,.none] } }) :=
 .of_wp λ prog w A R s h=>by
  obtain ⟨hp,g,d,tk,os⟩:=s
  obtain ⟨hl,h⟩:=h
  have hsub:=sub_enumerate
  have hT:Heap.IsTuple (Shared.heap ⟨hp,g,d,tk,os⟩) l its:=⟨_,hl,rfl,n,rfl⟩
  wp_walk using wpAny_loadPart' hl
  refine wpAny_stack_any λ st=>wpAny_pure ?_
  split
  ·rename_i c _ _ _ _ _
   cases (c == Value.type "enumerate")
   all_goals
    wp_walk using wpAny_loadPart' hl,wpAny_pyIter_tuple hT
    exact ⟨_,rfl,h⟩
  ·wp_walk using wpAny_loadPart' hl,wpAny_pyIter_tuple hT
   exact ⟨_,rfl,h⟩
section
variable {prog:Program} {w:World} {A:Around} {E:Value->Shared->Prop} {s:Shared}
theorem callEnumT {l:Addr} {its:Array Value} {Q:Value->Shared->Prop} (hL:s.heap.IsTuple l its)
  (h:∀ h',IsEnum h' (s.heap.objs.size+1) s.heap.objs.size 0 .none->h'.IsTupleIter s.heap.objs.size l 0->h'.objs.size=s.heap.objs.size+2 ->
   (∀ b o,s.heap.get? b=some o->h'.get? b=some o)->Q (.ref (s.heap.objs.size+1)) { s with heap:=h' }):wpAny (model prog w) A (call (.type "enumerate") [.ref l]) Q E s:=by
 obtain ⟨⟨c,dct,dt,sl⟩,hl,hc,n,hd⟩:=hL
 replace hc:c=.type "tuple":=hc
 replace hd:dt=.seq its n:=hd
 subst hc hd
 refine callType_new F.called_enumerate (by decide) (F.typeCall_enumerate_1 _) (F.newCall_enumerate_1 _) (λ obj=>F.args_object_init_2 obj _) F.entry_enumerate_new (ZMy l its n dct sl) ⟨hl,?_⟩
 have hz:(s.heap.push { cls:=.type "tuple_iterator",data:=.fields #[.ref l,.int 0 0] }).objs.size=s.heap.objs.size+1:=Heap.size_push ..
 show _/\_
 rw [hz]
 have he:IsEnum ((s.heap.push { cls:=.type "tuple_iterator",data:=.fields #[.ref l,.int 0 0] }).push { cls:=.type "enumerate",data:=.fields #[.none,.bool false,.ref s.heap.objs.size,rawInt 0,.none,.none] }) (s.heap.objs.size+1) s.heap.objs.size 0 .none:=by
  have e:=Heap.get?_push_size (s.heap.push { cls:=.type "tuple_iterator",data:=.fields #[.ref l,.int 0 0] }) (o:={ cls:=.type "enumerate",data:=.fields #[.none,.bool false,.ref s.heap.objs.size,rawInt 0,.none,.none] }) rfl
  rw [hz] at e
  exact e
 exact ⟨⟨_,he,rfl⟩,h _ he ⟨_,Heap.get?_push_of_some _ (Heap.get?_push_size _ rfl),rfl,rfl⟩ (by rw [Heap.size_push,hz]) λ b o x=>Heap.get?_push_of_some _ (Heap.get?_push_of_some _ x)⟩
end
end HI
namespace L2
open PySem PySem.Spec PyProof.Rows
def Ite (K:PySem.W.Frag) (a:Addr):It :=
 ⟨λ i H=>∃ xs x,SqT K H a xs/\xs[i]? = some x,λ i H v H'=>∃ p x,v=.ref p/\H p=none/\H'=upd H p (.tup [.int i,x])/\∀ xs,SqT K H a xs->xs[i]? = some x,λ i H=>∃ xs,SqT K H a xs/\xs.length<=i⟩
theorem ZL9 {P:Program} {w:World} {K:PySem.W.Frag} {es:List Expr} {k:Nat} {pos:Pos} (a it e:Addr) (hei:e ≠ it) :
  Turn P w K (.Tuple es k pos) (Ite K a) [e,it] e (λ i h=>(∃ old,IsEnum h e it i old)/\h.IsTupleIter it a i) where
 mem:=by simp
 obj:=λ i h st b hb=>by
  obtain ⟨⟨old,he⟩,o,ho,c,d⟩:=st
  rcases List.mem_cons.mp hb with rfl | hb
  ·exact ⟨_,he,λ v z=>by cases z⟩
  ·rw [List.mem_singleton.mp hb]
   exact ⟨o,ho,λ v z=>by rw [d] at z; cases z⟩
 keep:=λ i h h' st kk=>by
  obtain ⟨⟨old,he⟩,o,ho,r⟩:=st
  exact ⟨⟨old,kk e (by simp) _ he⟩,o,kk it (by simp) o ho,r⟩
 item:=by
  intro X hP hw hK hc i pins s σ H E I hf st hg
  subst hP hw hK
  obtain ⟨xs,x,hq,hx⟩:=hg
  obtain ⟨its,rv,p,hz⟩:=I.tuple hq
  obtain ⟨u,hu,ru⟩:=rv.get hx
  obtain ⟨f0,f1,f2,f3,f4,f5⟩:=hf e (by simp)
  obtain ⟨g0,g1,g2,g3,g4,g5⟩:=hf it (by simp)
  obtain ⟨⟨old,he⟩,hit⟩:=st
  have hilt:i < its.length:=(List.getElem?_eq_some_iff.mp hu).1
  have hai:a ≠ it:=by
   intro z
   obtain ⟨o,eo,co,_⟩:=p
   obtain ⟨o2,eo2,co2,_⟩:=hit
   rw [z,eo2] at eo
   cases eo
   rw [co2] at co
   exact absurd co (by decide)
  have hae:e ≠ a:=by
   intro z
   obtain ⟨o,eo,co,_⟩:=p
   rw [← z,he] at eo
   cases eo
   have co':Value.type "enumerate" = Value.type "tuple":=co
   exact absurd co' (by decide)
  refine wpAny_pyNext_enum_itemD (HI.drawsT (prog:=X.prog) (w:=X.w) (A:=X.A.in1) (show X.A.in1.handled=none from I.ok.hd hc) it a hai its.toArray) he ⟨hit,p⟩ (by simpa using hilt) hei (by simp [hei,hae]) λ x' h' tk hP ho hs hT hsz hk=>?_
  have ex:x'=u:=by
   have q:its[i]? = some x':=by simpa using hP
   rw [hu] at q
   exact (Option.some.inj q).symm
  subst ex
  refine ⟨_,rfl,?_⟩
  refine wpAny_letOwnedTupleGo_enum ho λ h2 he2 hs2=>?_
  have nT:H s.heap.objs.size=none:=I.hok.fresh (Nat.le_refl _)
  have heS:e < s.heap.objs.size:=Heap.lt_size he
  have hiS:it < s.heap.objs.size:=by obtain ⟨o,ho,_⟩:=hit; exact Heap.lt_size ho
  have hT2:h2.get? s.heap.objs.size=some { cls:=.type "tuple",data:=.seq #[.int i tk,x'] }:=(hs2.2 _ (Nat.ne_of_gt heS)).trans hT
  have kk:∀ b o,b ≠ e->b ≠ it->s.heap.get? b=some o->h2.get? b=some o:=λ b o h1 h2' q=>(hs2.2 b h1).trans (hk b o h1 h2' q)
  have nit:∀ b u,H b=some u->b ≠ e/\b ≠ it:=λ b u q=>⟨λ z=>(by rw [z,f0] at q; cases q),λ z=>(by rw [z,g0] at q; cases q)⟩
  have ne1:∀ b u,H b=some u->b ≠ s.heap.objs.size:=λ b u q=>Zl q nT
  have hok:HOk X.prog X.w (upd H s.heap.objs.size (.tup [.int i,x])) h2:=λ b ob q=>by
   by_cases hb:b=s.heap.objs.size
   ·subst hb
    rw [Zt] at q
    cases q
    exact ⟨by show 2<=sizeLine; decide,[.int i tk,x'],.cons ⟨tk,rfl⟩ (.cons ru .nil),⟨_,hT2,rfl,_,rfl⟩⟩
   ·rw [Zb hb] at q
    refine (I.hok b ob q).stay (λ c v hc' r=>?_) (λ c r=>by rw [Zb (ne1 _ _ r)]; exact r) λ c ys r=>by rw [Zb (ne1 _ _ r)]; exact r
    have nc:c ≠ e/\c ≠ it:=by
     rcases hc' with z | z
     ·rw [z]; exact nit b ob q
     ·exact nit c _ z
    exact kk c v nc.1 nc.2 r
  have I2:Inv X pins σ (upd H s.heap.objs.size (.tup [.int i,x])) { s with heap:=h2,toks:=tk+1 }:=by
   refine I.step (g':=s.gens) (d':=s.drawn) (ch:=[e,it]) (λ b hb=>?_) (λ b o _ _ hc' q _=>kk b o (λ z=>hc' (by simp [z])) (λ z=>hc' (by simp [z])) q) (λ b o _ _ hc' q _=>⟨o.slots,kk b o (λ z=>hc' (by simp [z])) (λ z=>hc' (by simp [z])) q⟩)
    (λ b o _ q n=>by rw [Zb (Nat.ne_of_lt (Heap.lt_size q))]; exact n) (λ b o hc' q=>⟨o,kk b o (λ z=>hc' (by simp [z])) (λ z=>hc' (by simp [z])) q⟩) (λ b ys q=>by rw [Zb (ne1 _ _ q)]; exact q) (λ b o u q=>by rw [Zb (ne1 _ _ q)]; exact q)
    (λ b ps q=>⟨#[],by rw [Zb (ne1 _ _ q),q]; simp⟩) (λ m hm=>?_) hok I.bare
   ·rcases List.mem_cons.mp hb with rfl | hb
    ·exact ⟨f3,f1,f4,f5⟩
    ·rw [List.mem_singleton.mp hb]
     exact ⟨g3,g1,g4,g5⟩
   ·obtain ⟨o,es',ep,ho',r⟩:=hm
    exact ⟨o,es',ep,kk _ o (Ne.symm f1) (Ne.symm g1) ho',r⟩
  refine ⟨.ref s.heap.objs.size,_,I2,rfl,⟨_,x,rfl,nT,rfl,λ ys hy=>by rw [I.tuple_inj hy hq]; exact hx⟩,⟨⟨x',by simpa using he2⟩,?_⟩,λ b hb=>?_⟩
  ·obtain ⟨⟨o,eo,r⟩,_⟩:=hs
   exact ⟨o,(hs2.2 it (Ne.symm hei)).trans eo,r⟩
  ·rcases List.mem_cons.mp hb with rfl | hb
   ·rw [Zb (Nat.ne_of_lt heS)]; exact f0
   ·rw [List.mem_singleton.mp hb,Zb (Nat.ne_of_lt hiS)]; exact g0
 done:=by
  intro X hP hw hK hc i pins s σ H E I hf st hg
  subst hP hw hK
  obtain ⟨xs,hq,hx⟩:=hg
  obtain ⟨its,rv,p,hz⟩:=I.tuple hq
  obtain ⟨g0,g1,g2,g3,g4,g5⟩:=hf it (by simp)
  obtain ⟨⟨old,he⟩,hit⟩:=st
  have hl:=rv.length
  exact wpAny_pyNext_enum_endD (HI.drawsT_fin (prog:=X.prog) (w:=X.w) (A:=X.A.in1) (show X.A.in1.handled=none from I.ok.hd hc) it a its.toArray i (by simp; omega)) he ⟨hit,p⟩ λ h' eb=>⟨rfl,I.turned (t':=s.toks) (λ b o hb e=>eb b o hb e) g0 g1 g3 g4 g5⟩
 self:=λ _ _ _ _ _ st h=>by
  obtain ⟨⟨old,he⟩,_⟩:=st
  exact wpAny_pyIter_enum he h
section
variable {X:Cx}
def iEnum (K:PySem.W.Frag) (ta:TA):TI:=λ σ H R=>ta σ H λ vs H1=>∃ a,vs=[.ref a]/\(∃ xs,SqT K H1 a xs)/\R (Ite K a) H1
theorem ZH9 {es:List Expr} {k:Nat} {tpos:Pos} {a:Expr} {ta:TA} {p pos:Pos} (hg:Gl X "enumerate") (hm:X.mg "enumerate" = none) (ha:PA X [a] ta) (hs:starEach [a] X.env=[(false,eval a X.env)]:=by rfl) :
  PI X (.Tuple es k tpos) (.Call (.Name "enumerate" p) [a] [] pos) (iEnum X.K ta):=by
 intro pins s σ H R I h
 refine Call_ (ZEf I hg hm boot_enumerate (PyProof.Rows.callWith_type1 (thn (ha pos pins s σ H _ I h) λ us s1 ⟨vs,H1,I1,r1,q1⟩=>?_) hs rfl))
 obtain ⟨l,e,⟨xs,hq⟩,q⟩:=q1
 subst e
 cases r1 with
 | cons r rr =>
  cases rr
  cases r
  obtain ⟨its,rv,pt,hz⟩:=I1.tuple hq
  refine HI.callEnumT (show s1.heap.IsTuple l its.toArray from pt) λ h' he hit hsz hk=>?_
  have I2:Inv X pins σ H1 { s1 with heap:=h' }:=I1.kept (t':=s1.toks) hk
  refine wpAny_pyIter_enum he ⟨s1.heap.objs.size+1,[s1.heap.objs.size+1,s1.heap.objs.size],_,_,H1,rfl,I2,ZL9 l s1.heap.objs.size _ (Nat.succ_ne_self _),⟨⟨_,he⟩,hit⟩,λ b hb=>?_,q⟩
  have hb':s1.heap.objs.size<=b:=by
   rcases List.mem_cons.mp hb with e | hb
   ·rw [e]; exact Nat.le_succ _
   ·rw [List.mem_singleton.mp hb]; exact Nat.le_refl _
  have F0:=I1.fpOk hb' (I1.hok.fresh hb')
  exact F0
end
end L2
namespace L2
open PySem PySem.Spec PyProof.Rows
theorem ZOx {env:Env} (ns:List (Str × NameKind)) (h:∀ x ∈ ns,x.2=.free->∃ c,env.cells.lookup x.1=some c):∀ cs:List (Str × Addr),
  ∃ cl:List (Str × Addr),(forIn ns cs λ x r=>do
   let mut cs:=r
   if x.2 == .free then cs:=(x.1,← cellOf env x.1) :: cs
   pure (ForInStep.yield cs):Sem (List (Str × Addr)))=pure cl /\
   (∀ x c,cl.lookup x=some c->cs.lookup x=some c ∨ env.cells.lookup x=some c) /\
   (∀ x,(cs.lookup x).isSome=true->(cl.lookup x).isSome=true)/\∀ x,(x,NameKind.free) ∈ ns->(cl.lookup x).isSome=true:=by
 induction ns with
 | nil=>exact λ cs=>⟨cs,rfl,λ _ _ e=>.inl e,λ _ e=>e,λ _ z=>nomatch z⟩
 | cons y r ih =>
  intro cs
  obtain ⟨n,k⟩:=y
  have ih:=ih λ x hx=>h x (List.mem_cons_of_mem _ hx)
  by_cases hk:k=.free
  ·subst hk
   obtain ⟨c,hc⟩:=h (n,.free) List.mem_cons_self rfl
   obtain ⟨cl,e,p1,p2,p3⟩:=ih ((n,c) :: cs)
   refine ⟨cl,?_,λ x c' q=>?_,λ x q=>p2 x ?_,λ x q=>?_⟩
   ·rw [List.forIn_cons]
    have hce:cellOf env n=pure c:=by
     unfold cellOf
     rw [show env.cells.lookup n=some c from hc]
    simp only [beq_self_eq_true,if_true]
    rw [hce]
    exact e
   ·rcases p1 x c' q with q | q
    ·rw [List.lookup_cons] at q
     cases hx:x == n with
     | true=>rw [hx] at q; cases q; rw [eq_of_beq hx]; exact .inr hc
     | false=>rw [hx] at q; exact .inl q
    ·exact .inr q
   ·rw [List.lookup_cons]
    cases hx:x == n with
    | true=>rfl
    | false=>exact q
   ·rcases List.mem_cons.mp q with z | z
    ·cases z
     exact p2 _ (by rw [List.lookup_cons]; simp)
    ·exact p3 x z
  ·obtain ⟨cl,e,p1,p2,p3⟩:=ih cs
   refine ⟨cl,?_,p1,p2,λ x q=>?_⟩
   ·rw [List.forIn_cons]
    have hb:(k == NameKind.free)=false:=by simpa using hk
    simp only [hb]
    exact e
   ·rcases List.mem_cons.mp q with z | z
    ·cases z; exact absurd rfl hk
    ·exact p3 x z
theorem ZES {env:Env} {scope:Scope} (h:∀ x ∈ scope.names,x.2=.free->∃ c,env.cells.lookup x.1=some c) :
  ∃ cl:List (Str × Addr),closureFor scope env=pure cl/\(∀ x c,cl.lookup x=some c->env.cells.lookup x=some c)/\∀ x,(x,NameKind.free) ∈ scope.names->(cl.lookup x).isSome=true:=by
 obtain ⟨cl,e,p1,_,p3⟩:=ZOx scope.names h []
 refine ⟨cl,?_,λ x c q=>(p1 x c q).elim (λ z=>by cases z) id,p3⟩
 unfold closureFor
 have e2:(forIn scope.names ([]:List (Str × Addr)) λ x r=>do
   let mut cs:=r
   if x.2 == .free then cs:=(x.1,← cellOf env x.1) :: cs
   pure (ForInStep.yield cs):Sem (List (Str × Addr))) >>= (λ cs=>pure cs)=pure cl:=by rw [e]; rfl
 exact e2
abbrev blk (X:Cx) (N:List Str) (env:Env) (s:Shared) (H:Hp) (ex:List Addr):Cx:={ X with N:=N,s₀:=s,H₀:=H,env:=env,outer:=X.stack,stack:=X.stack,ex:=ex,fn:=λ _=>false,pn:=[],xe:=λ _ _=>False }
section
variable {X:Cx} {pins:List (Addr × Obj)} {σ : St} {H:Hp} {s:Shared} {fp:List Addr} {env:Env} {N:List Str}
theorem ZQt (I:Inv X pins σ H s) (hf:∀ b ∈ fp,ZFq X pins H b) (hob:∀ b ∈ fp,∃ o,s.heap.get? b=some o) (hC:s.heap.objs.size<=env.locals) (hk:env.scope.kind=.function) (hg:env.globals=X.env.globals) (hb:env.builtins=X.env.builtins)
  (hsub:∀ x c,env.cells.lookup x=some c->X.env.cells.lookup x=some c) (hhas:∀ x,(env.kindOf x=some .cell ∨ env.kindOf x=some .free)->∃ c,env.cells.lookup x=some c):(blk X N env s H fp).Ok where
 mod:=I.ok.mod
 kind:=hk
 glob:=hg.trans I.ok.glob
 blt:=hb.trans I.ok.blt
 above:=hC
 inj:=λ x y c e1 e2=>I.ok.inj x y c (hsub x c e1) (hsub y c e2)
 has:=hhas
 cab:=λ _ _ z=>by cases z
 hd:=I.ok.hd
 frames:=I.ok.frames
 stk:=.inl rfl
 exf:=λ b hb'=>by
  obtain ⟨o,e⟩:=hob b hb'
  exact ⟨Nat.ne_of_lt (Nat.lt_of_lt_of_le (Heap.lt_size e) hC),λ x c q=>(hf b hb').2.2.2.2.1 x c (hsub x c q)⟩
 bs:=I.bs
 bsz:=Nat.le_trans I.ok.bsz I.sz
 noex:=λ b o e hb'=>by
  rcases (hf b hb').2.2.2.1 with z | z
  ·exact I.ok.noex b o e z
  ·exact absurd (Nat.lt_of_lt_of_le (Heap.lt_size e) (Nat.le_trans I.ok.bsz z)) (Nat.lt_irrefl _)
 exfs:=λ b hb' z=>by
  rcases List.mem_cons.mp (I.stkSub b z) with q | q
  ·exact (hf b hb').2.1 q
  ·exact (hf b hb').2.2.1 q
 funs:=I.stack
 frf:=I.stkFree
theorem ZPp {h1:Heap} {tk:Nat} {σ':St} {m:Str->Option Value} (I:Inv X pins σ H s) (hf:∀ b ∈ fp,ZFq X pins H b) (hob:∀ b ∈ fp,∃ o,s.heap.get? b=some o) (hC:s.heap.objs.size<=env.locals) (hk:env.scope.kind=.function) (hg:env.globals=X.env.globals) (hb:env.builtins=X.env.builtins)
  (hsub:∀ x c,env.cells.lookup x=some c->X.env.cells.lookup x=some c) (hhas:∀ x,(env.kindOf x=some .cell ∨ env.kindOf x=some .free)->∃ c,env.cells.lookup x=some c)
  (keep:∀ b u,s.heap.get? b=some u->h1.get? b=some u) (hn:h1.Ns env.locals m) (hlen : σ'.length=N.length)
  (hcap:∀ (i:Nat) (x:Str) (v:V),N[i]? = some x->σ'[i]? = some (some v)->(env.kindOf x=some .cell ∨ env.kindOf x=some .free)/\X.env.kindOf x ≠ some .local/\Vis X.env.scope x/\∃ j:Nat,X.N[j]? = some x/\σ[j]? = some (some v)) :
  Inv (blk X N env s H fp) [] σ' H { s with heap:=h1,toks:=tk } where
 ok:=ZQt I hf hob hC hk hg hb hsub hhas
 os:=rfl
 bare:=I.bare
 base:=Un.kept keep
 loc:=⟨m,hn,λ i x v e1 e2 _=>by
  obtain ⟨k1,k2,k3,j,e3,e4⟩:=hcap i x v e1 e2
  obtain ⟨m0,_,hl⟩:=I.loc
  obtain ⟨u,r,l⟩:=hl j x v e3 e4 k3
  refine ⟨u,r,?_⟩
  rcases l with ⟨z,_⟩ | ⟨_,c,ec,o,ho,hd⟩
  ·exact absurd z k2
  ·obtain ⟨c',ec'⟩:=hhas x k1
   have ee:c'=c:=by
    have q:=hsub x c' ec'
    rw [ec] at q
    exact (Option.some.inj q).symm
   subst ee
   exact .inr ⟨k1,c',ec',o,keep _ _ ho,hd⟩⟩
 cell:=λ x c e=>by
  obtain ⟨v,o,ho,hd⟩:=I.cell x c (hsub x c e)
  exact ⟨v,o,keep _ _ ho,hd⟩
 free:=I.hok.fresh hC
 freeC:=λ x c e=>I.freeC x c (hsub x c e)
 pin:=λ p hp=>by cases hp
 hok:=I.hok.kept keep
 len:=hlen
theorem Un.but {fs ex:List Addr} {H H':Hp} {h h1 h2:Heap} {C:Addr} (u:Un fs ex H H' h h1) (sb:Heap.SameBut C h1 h2) (hC:h.objs.size<=C):Un fs ex H H' h h2:=by
 have k:∀ b o,h.get? b=some o->h2.get? b=h1.get? b:=λ b o e=>sb.2 b (Nat.ne_of_lt (Nat.lt_of_lt_of_le (Heap.lt_size e) hC))
 exact ⟨λ b o e n h3 h4=>(k b o e).trans (u.keep b o e n h3 h4),λ b o e n h3 h4=>by
  obtain ⟨sl,q⟩:=u.slot b o e n h3 h4
  exact ⟨sl,(k b o e).trans q⟩,u.free,λ b o e h3=>by
  obtain ⟨o',q⟩:=u.there b o e h3
  exact ⟨o',(k b o e).trans q⟩,u.tups,u.frzs,u.tbls⟩
theorem ZPi {σ':St} {H':Hp} {s':Shared} {h2:Heap} (I:Inv X pins σ H s) (hf:∀ b ∈ fp,ZFq X pins H b) (hC:s.heap.objs.size<=env.locals) (J:Inv (blk X N env s H fp) [] σ' H' s') (sb:Heap.SameBut env.locals s'.heap h2):Inv X pins σ H' { s' with heap:=h2 }:=by
 refine I.call' (ch:=fp) J.os (J.base.but sb hC) (λ b u e=>?_) J.bare λ b hb=>⟨(hf b hb).2.2.2.1,(hf b hb).2.1,(hf b hb).2.2.2.2.1,(hf b hb).2.2.2.2.2⟩
 refine (J.hok b u e).stay (λ c v hc q=>(sb.2 c ?_).trans q) (λ _ q=>q) λ _ _ q=>q
 intro z
 have n:=J.free
 rcases hc with q | q
 ·rw [← q,z] at e
  rw [e] at n; cases n
 ·rw [z] at q
  rw [q] at n; cases n
end
def Wk (a b:St):Prop:=a.length=b.length/\∀ (i:Nat) (v:V),a[i]? = some (some v)->b[i]? = some (some v)
def PTs (X:Cx) (ifs:List Expr) (t:TT):Prop :=
 ∀ (pins:List (Addr × Obj)) (s:Shared) (σ : St) (H:Hp) (Q:Bool->Hp->Prop),Inv X pins σ H s->t σ H Q ->
  wpAny (model X.prog X.w) X.A (forIn ifs true λ c r=>if r=true then do let ok ← isTrue c X.env (eval c X.env); pure (ForInStep.yield ok) else pure (ForInStep.yield r)) (TP X pins σ Q) X.xe s
def tYes:TT:=λ _ H Q=>Q true H
theorem ZPH {X:Cx}:PTs X [] tYes:=λ _ _ _ H _ I h=>wpAny_tests_nil ⟨H,I,h⟩
theorem ZPt {X:Cx} {c:Expr} {t:TT} (h:PT X c t):PTs X [c] t:=λ pins s σ H Q I hw=>wpAny_tests_one (h pins s σ H Q I hw)
def ZN2 (J:It) (g:TG) (tt:TT) (te:TE) (σ0:St) (D:Addr) (Q:VK) (H1:Hp):Prop :=
 ∃ W:Nat->Nat->List V->Hp->Prop,(∃ m,W 0 m [] H1)/\∀ i m acc H,W i m acc H ->
  (J.stop i H/\Q (.ref D) H) ∨ (J.go i H/\∃ N:List V->Hp->Prop,(∀ acc' H',N acc' H'->∃ m',m' < m/\W (i+1) m' acc' H') /\
   ∀ x H',J.yld i H x H'->g x σ0 H' λ σ2 H2=>Wk σ0 σ2/\tt σ2 H2 λ b H3=>if b=true then te σ2 H3 λ y H4=>H4 D=some (.lst acc)/\acc.length < sizeLine/\N (acc ++ [y]) (upd H4 D (.lst (acc ++ [y]))) else N acc H3)
theorem ZLl {Y:Cx} {tg elt iter:Expr} {ifs:List Expr} {scope:Scope} {pos:Pos} {it D:Addr} {J:It} {fp:List Addr} {tn:Nat->Heap->Prop} {g:TG} {tt:TT} {te:TE} {σ0:St} {Q:VK} {R:Result->Shared->Prop} {H:Hp} {s:Shared}
  (hc:Y.calm=true) (T:Turn Y.prog Y.w Y.K tg J fp it tn) (hfp:∀ H,(∀ b ∈ fp,H b=none)->∀ b ∈ fp,ZFq Y [] H b) (hg:PG Y tg g) (ht:PTs Y ifs tt) (he:PE Y elt te) (hxe:∀ e s,¬ Y.xe e s)
  (hR:∀ H' s',Inv Y [] σ0 H' s'->Q (.ref D) H'->R (.ok .next) s') (I:Inv Y [] σ0 H s) (st:tn 0 s.heap) (fr:∀ b ∈ fp,H b=none) (hw:ZN2 J g tt te σ0 D Q H) :
  codeAny (model Y.prog Y.w) Y.A (.compLoop (.ListComp elt [⟨tg,iter,ifs,0⟩] scope pos) 0 (.ref it) (.ref D) Y.env) R s:=by
 obtain ⟨W,⟨m0,w0⟩,turn⟩:=hw
 refine codeAny_loop rfl (λ n s'=>∃ i H' acc,Inv Y [] σ0 H' s'/\tn i s'.heap/\(∀ b ∈ fp,H' b=none)/\W i n acc H') ?_ m0 ⟨0,H,[],I,st,fr,w0⟩
 rintro n s3 ⟨i,H3,acc,I3,st3,fr3,w3⟩
 show wpAny _ Y.A ((compTurn (.ListComp elt [⟨tg,iter,ifs,0⟩] scope pos) 0 (.ref it) (.ref D) Y.env).onRaise (λ x=>do noteFrame x Y.env; theTreesLotGoes x)) _ _ s3
 refine wpAny_noted ?_
 rw [compTurn_list]
 refine wpAny_bind (wpAny_standAt (wpAny_bind ?_))
 rcases turn i n acc H3 w3 with ⟨stop,qn⟩ | ⟨go,N,hN,step⟩
 ·refine thn (T.done Y rfl rfl rfl hc i [] s3 σ0 H3 _ I3 (hfp H3 fr3) st3 stop) λ r s4 ⟨hr,I4⟩=>?_
  subst hr
  exact wpAny_pure (hR H3 s4 I4 qn)
 ·refine thn (T.item Y rfl rfl rfl hc i [] s3 σ0 H3 _ I3 (hfp H3 fr3) st3 go) λ r s4 ⟨u,hr,h4⟩=>?_
  subst hr
  refine wpAny_bind (thn h4 λ _ s5 ⟨x,H5,I5,r5,y5,st5,fr5⟩=>?_)
  have I5':Inv Y (ZFT fp s5.heap) σ0 H5 s5:=by
   have q:=I5.pinned (hfp H5 fr5) (T.obj _ _ st5)
   rwa [List.nil_append] at q
  have again:∀ {σ7:St} {H7:Hp} {acc7:List V} {s7:Shared},Inv Y (ZFT fp s5.heap) σ7 H7 s7->Wk σ0 σ7->N acc7 H7->∃ m,m < n/\∃ i H' acc,Inv Y [] σ0 H' s7/\tn i s7.heap/\(∀ b ∈ fp,H' b=none)/\W i m acc H':=λ {σ7 H7 acc7 s7} I7 wk n7=>by
   obtain ⟨m',hm,w7⟩:=hN acc7 H7 n7
   have I8:Inv Y [] σ0 H7 s7:=(I7.weak wk.1 wk.2).pins_of λ p hp=>nomatch hp
   refine ⟨m',hm,i+1,H7,acc7,I8,T.keep _ _ _ st5 λ b hb o e=>(I7.pin (b,o) (List.mem_append_right _ (ZDX hb e))).1,λ b hb=>?_,w7⟩
   obtain ⟨o,e,d⟩:=T.obj _ _ st5 b hb
   exact (I7.pin (b,o) (List.mem_append_right _ (ZDX hb e))).2.1
  refine wpAny_bind (wpAny_mono (hg _ s5 σ0 H5 x u _ I5' r5 (step x H5 y5)) (λ _ s6 ⟨σ6,H6,I6,wk,q6⟩=>?_) λ _ _ z=>(hxe _ _ z).elim)
  refine wpAny_bind (wpAny_mono (ht _ s6 σ6 H6 _ I6 q6) (λ ok s7 ⟨H7,I7,q7⟩=>?_) λ _ _ z=>(hxe _ _ z).elim)
  cases ok with
  | false=>exact wpAny_pure ⟨rfl,again I7 wk q7⟩
  | true =>
   refine wpAny_bind (wpAny_bind (wpAny_mono (he _ s7 σ6 H7 _ I7 q7) (λ y s8 ⟨v,H8,I8,r8,hD,hz,q8⟩=>?_) λ _ _ z=>(hxe _ _ z).elim))
   refine wpAny_bind (wpAny_mono (ZHY _ s8 σ6 H8 (.ref D) [v] (.ref D) [y] (λ _ H9=>N (acc ++ [v]) H9) I8 rfl (.cons r8 .nil) ⟨D,acc,v,rfl,rfl,hD,hz,q8⟩) (λ _ s9 ⟨_,H9,I9,_,q9⟩=>?_) λ _ _ z=>(hxe _ _ z).elim)
   exact wpAny_pure (wpAny_pure ⟨rfl,again I9 wk q9⟩)
def ZJx (sc scope:Scope) (NX N:List Str) (own:Nat) (cap:List Nat):Bool :=
 (scope.kind == .function) && scope.names.all (λ y=>y.2 != .cell && (y.2 != .local || scope.names.lookup y.1 == some .local) && (y.2 != .free || sc.names.lookup y.1 == some .cell || sc.names.lookup y.1 == some .free)) &&
 (N.length == own+cap.length) && ((N.drop own).zip cap).all (λ p=>NX[p.2]? == some p.1 && scope.names.lookup p.1 == some .free && (sc.names.lookup p.1 == some .cell || sc.names.lookup p.1 == some .free))
structure CapOk (sc scope:Scope) (NX N:List Str) (own:Nat) (cap:List Nat):Prop where
 kind:scope.kind=.function
 nocell:∀ y ∈ scope.names,y.2 ≠ .cell
 names:∀ y ∈ scope.names,y.2=.local->scope.names.lookup y.1=some .local
 free:∀ y ∈ scope.names,y.2=.free->sc.names.lookup y.1=some .cell ∨ sc.names.lookup y.1=some .free
 len:N.length=own+cap.length
 caps:∀ p ∈ (N.drop own).zip cap,NX[p.2]? = some p.1/\scope.names.lookup p.1=some .free/\(sc.names.lookup p.1=some .cell ∨ sc.names.lookup p.1=some .free)
theorem ZI8 {sc scope:Scope} {NX N:List Str} {own:Nat} {cap:List Nat} (h:ZJx sc scope NX N own cap=true):CapOk sc scope NX N own cap:=by
 unfold ZJx at h
 simp only [Bool.and_eq_true,List.all_eq_true,Bool.or_eq_true,beq_iff_eq,bne_iff_ne,ne_eq] at h
 obtain ⟨⟨⟨h1,h2⟩,h3⟩,h4⟩:=h
 refine ⟨h1,λ y hy=>(h2 y hy).1.1,λ y hy e=>?_,λ y hy e=>?_,h3,λ p hp=>?_⟩
 ·rcases (h2 y hy).1.2 with z | z
  ·exact absurd e z
  ·exact z
 ·rcases (h2 y hy).2 with (z | z) | z
  ·exact absurd e z
  ·exact .inl z
  ·exact .inr z
 ·obtain ⟨⟨a,b⟩,c⟩:=h4 p hp
  exact ⟨a,b,c⟩
def ZFW (own:Nat) (cap:List Nat) (σ : St):St:=List.replicate own none ++ cap.map λ j=>(σ[j]?).join
theorem ZDx {env:Env}:∀ {names:List (Str × NameKind)} {x:Str} {k:NameKind},(names.map λ (n,k)=>if (k == NameKind.free && env.scope.kind == .function && env.kindOf n == some .cell) then (n,NameKind.cell) else (n,k)).lookup x=some k ->
  ∃ k0,names.lookup x=some k0/\(k=k0 ∨ (k0=.free/\k=.cell))
 | [],_,_,h=>by simp at h
 | (n,k0) :: r,x,k,h=>by
  have h':List.lookup x ((if (k0 == NameKind.free && env.scope.kind == .function && env.kindOf n == some .cell)=true then (n,NameKind.cell) else (n,k0)) :: (r.map λ (n,k)=>if (k == NameKind.free && env.scope.kind == .function && env.kindOf n == some .cell) then (n,NameKind.cell) else (n,k)))=some k:=h
  cases hx:x == n with
  | true =>
   by_cases hc:(k0 == NameKind.free && env.scope.kind == .function && env.kindOf n == some .cell)=true
   ·rw [if_pos hc,List.lookup_cons,hx] at h'
    cases h'
    rw [Bool.and_eq_true,Bool.and_eq_true] at hc
    exact ⟨k0,by rw [List.lookup_cons,hx],.inr ⟨by simpa using hc.1.1,rfl⟩⟩
   ·rw [if_neg hc,List.lookup_cons,hx] at h'
    cases h'
    exact ⟨k0,by rw [List.lookup_cons,hx],.inl rfl⟩
  | false =>
   have h2:(r.map λ (n,k)=>if (k == NameKind.free && env.scope.kind == .function && env.kindOf n == some .cell) then (n,NameKind.cell) else (n,k)).lookup x=some k:=by
    by_cases hc:(k0 == NameKind.free && env.scope.kind == .function && env.kindOf n == some .cell)=true
    ·rw [if_pos hc,List.lookup_cons,hx] at h'; exact h'
    ·rw [if_neg hc,List.lookup_cons,hx] at h'; exact h'
   obtain ⟨k1,e1,r1⟩:=ZDx h2
   exact ⟨k1,by rw [List.lookup_cons,hx]; exact e1,r1⟩
theorem ZCH {env:Env}:∀ {names:List (Str × NameKind)} {x:Str},names.lookup x=some .free ->
  (names.map λ (n,k)=>if (k == NameKind.free && env.scope.kind == .function && env.kindOf n == some .cell) then (n,NameKind.cell) else (n,k)).lookup x=some .cell ∨ (names.map λ (n,k)=>if (k == NameKind.free && env.scope.kind == .function && env.kindOf n == some .cell) then (n,NameKind.cell) else (n,k)).lookup x=some .free
 | [],_,h=>by simp at h
 | (n,k0) :: r,x,h=>by
  show List.lookup x ((if (k0 == NameKind.free && env.scope.kind == .function && env.kindOf n == some .cell)=true then (n,NameKind.cell) else (n,k0)) :: _)=_ ∨ List.lookup x ((if (k0 == NameKind.free && env.scope.kind == .function && env.kindOf n == some .cell)=true then (n,NameKind.cell) else (n,k0)) :: _)=_
  rw [List.lookup_cons] at h
  cases hx:x == n with
  | true =>
   rw [hx] at h
   cases h
   by_cases hc:(NameKind.free == NameKind.free && env.scope.kind == .function && env.kindOf n == some .cell)=true
   ·rw [if_pos hc,List.lookup_cons,hx]; exact .inl rfl
   ·rw [if_neg hc,List.lookup_cons,hx]; exact .inr rfl
  | false =>
   rw [hx] at h
   have ih:=ZCH (env:=env) h
   by_cases hc:(k0 == NameKind.free && env.scope.kind == .function && env.kindOf n == some .cell)=true
   ·rw [if_pos hc,List.lookup_cons,hx]; exact ih
   ·rw [if_neg hc,List.lookup_cons,hx]; exact ih
def ZNT (own:Nat) (cap:List Nat) (wi:TI) (g:TG) (tt:TT) (te:TE):TE:=λ σ H Q=>wi σ H λ J H1=>∀ D,H1 D=none->ZN2 J g tt te (ZFW own cap σ) D Q (upd H1 D (.lst []))
section
variable {X:Cx} {tg elt iter:Expr} {ifs:List Expr} {scope sc:Scope} {pos:Pos} {wi:TI} {g:TG} {tt:TT} {te:TE} {N NX:List Str} {own:Nat} {cap:List Nat}
theorem ZGR {pins:List (Addr × Obj)} {σ : St} {s2:Shared} {itv:Value} {Q:VK} {E:Value->Shared->Prop} {R:Value->Addr->Result->Shared->Prop} {cl:List (Str × Addr)} (hc:X.calm=true) (hsc:X.env.scope=sc) (hNX:X.N=NX) (co:CapOk sc scope NX N own cap)
  (hsub:∀ x c,cl.lookup x=some c->X.env.cells.lookup x=some c) (hall:∀ x,(x,NameKind.free) ∈ scope.names->(cl.lookup x).isSome=true)
  (hb:∀ cl C s0 H0 fp,PG (blk X N (compEnvC scope cl C X.env) s0 H0 fp) tg g/\PTs (blk X N (compEnvC scope cl C X.env) s0 H0 fp) ifs tt/\PE (blk X N (compEnvC scope cl C X.env) s0 H0 fp) elt te)
  (h2:PIE X pins σ tg (λ J H1=>∀ D,H1 D=none->ZN2 J g tt te (ZFW own cap σ) D Q (upd H1 D (.lst []))) itv s2)
  (hR:∀ D C H' s',ZFq X pins H' C->(∃ m,s'.heap.Ns C m)->(∀ h',Heap.SameBut C s'.heap h'->Inv X pins σ H' { s' with heap:=h' })->Q (.ref D) H'->R (.ref D) C (.ok .next) s') :
  wpAny (model X.prog X.w) X.A (newList []) (λ acc s3=>wpAny (model X.prog X.w) X.A (newFunctionEnv scope X.env.globals cl [] X.env.qual none .none (some X.env)) (λ cenv s4 =>
   codeAny (model X.prog X.w) X.A (.compStart (.ListComp elt [⟨tg,iter,ifs,0⟩] scope pos) 0 itv acc { cenv with scope:=relabel scope X.env }) (R acc cenv.locals) s4) E s3) E s2:=by
 obtain ⟨it,fp,tn,J,H2,rfl,I2,T,st2,f2,hloop⟩:=h2
 refine wpAny_newObj_type (wpAny_newFunctionEnv co.nocell (by intro y hy; simp at hy) (λ h1 hns hsb=>?_) co.kind)
 have fD:H2 s2.heap.objs.size=none:=I2.hok.fresh (Nat.le_refl _)
 have I3:Inv X pins σ (upd H2 s2.heap.objs.size (.lst [])) { s2 with heap:=s2.heap.push { cls:=.type "list",data:=.seq ([]:List Value).toArray } }:=I2.laid (t':=s2.toks) (λ b u e=>Heap.get?_push_of_some _ e) (Nat.le_refl _) ⟨Nat.zero_le _,[],0,.nil,Heap.get?_push_size _ rfl⟩
 have hq:=hloop s2.heap.objs.size fD
 generalize hHD:s2.heap.objs.size=D at *
 generalize hs3:s2.heap.push { cls:=.type "list",data:=.seq ([]:List Value).toArray }=h3 at *
 dsimp only at hns hsb ⊢
 have hsz:h3.objs.size=D+1:=by rw [← hs3,Heap.size_push,hHD]
 have ob2:∀ b ∈ fp,∃ o,s2.heap.get? b=some o:=λ b hb'=>let ⟨o,e,_⟩:=T.obj _ _ st2 b hb'; ⟨o,e⟩
 have k23:∀ b o,s2.heap.get? b=some o->h3.get? b=some o:=λ b o e=>by rw [← hs3]; exact Heap.get?_push_of_some _ e
 have k34:∀ b o,h3.get? b=some o->h1.get? b=some o:=λ b o e=>(hsb.2 b (Nat.ne_of_lt (Heap.lt_size e))).trans (Heap.get?_push_of_some _ e)
 have f3:∀ b ∈ fp,ZFq X pins (upd H2 D (.lst [])) b:=λ b hb'=>by
  obtain ⟨o,e⟩:=ob2 b hb'
  exact ⟨by rw [Zb (Nat.ne_of_lt (by rw [← hHD]; exact Heap.lt_size e))]; exact (f2 b hb').1,(f2 b hb').2⟩
 have ob3:∀ b ∈ fp,∃ o,h3.get? b=some o:=λ b hb'=>let ⟨o,e⟩:=ob2 b hb'; ⟨o,k23 b o e⟩
 have hhas:∀ x,((compEnvC scope cl h3.objs.size X.env).kindOf x=some .cell ∨ (compEnvC scope cl h3.objs.size X.env).kindOf x=some .free)->∃ c,(compEnvC scope cl h3.objs.size X.env).cells.lookup x=some c:=λ x hx=>by
  have q:∃ k,(k=NameKind.cell ∨ k=NameKind.free)/\(relabel scope X.env).names.lookup x=some k:=by
   rcases hx with z | z
   ·exact ⟨_,.inl rfl,z⟩
   ·exact ⟨_,.inr rfl,z⟩
  obtain ⟨k,hk,e⟩:=q
  obtain ⟨k0,e0,r0⟩:=ZDx e
  have hm:=PySem.mem_of_lookup e0
  have hf0:k0=.free:=by
   rcases r0 with z | z
   ·rcases hk with y | y
    ·exact absurd (z.symm.trans y) (co.nocell _ hm)
    ·exact z.symm.trans y
   ·exact z.1
  subst hf0
  have:=hall x hm
  exact Option.isSome_iff_exists.mp this
 have hcap:∀ (i:Nat) (x:Str) (v:V),N[i]? = some x->(ZFW own cap σ)[i]? = some (some v)->((compEnvC scope cl h3.objs.size X.env).kindOf x=some .cell ∨ (compEnvC scope cl h3.objs.size X.env).kindOf x=some .free)/\X.env.kindOf x ≠ some .local/\Vis X.env.scope x/\∃ j:Nat,X.N[j]? = some x/\σ[j]? = some (some v):=λ i x v e1 e2=>by
  unfold ZFW at e2
  by_cases hi:i < own
  ·rw [List.getElem?_append_left (by simpa using hi),List.getElem?_replicate] at e2
   split at e2 <;> cases e2
  ·rw [List.getElem?_append_right (by simpa using hi),List.length_replicate,List.getElem?_map] at e2
   cases ej:cap[i - own]? with
   | none=>rw [ej] at e2; cases e2
   | some j =>
    rw [ej] at e2
    have e3:(σ[j]?).join=some v:=Option.some.inj e2
    have hd:(N.drop own)[i - own]? = some x:=by rw [List.getElem?_drop,show own+(i - own)=i by omega]; exact e1
    have hz:(x,j) ∈ (N.drop own).zip cap:=List.mem_of_getElem? (i:=i - own) (by rw [List.getElem?_zip_eq_some]; exact ⟨hd,ej⟩)
    obtain ⟨c1,c2,c3⟩:=co.caps (x,j) hz
    have c3':X.env.kindOf x=some .cell ∨ X.env.kindOf x=some .free:=by unfold Env.kindOf; rw [hsc]; exact c3
    refine ⟨ZCH c2,λ z=>?_,?_,j,by rw [hNX]; exact c1,?_⟩
    ·rcases c3' with y | y <;> (rw [y] at z; cases z)
    ·rcases c3' with y | y
     ·exact .inr (.inl y)
     ·exact .inr (.inr y)
    ·cases es : σ[j]? with
     | none=>rw [es] at e3; cases e3
     | some w=>rw [es] at e3; exact congrArg some e3
 have I4:Inv (blk X N (compEnvC scope cl h3.objs.size X.env) { s2 with heap:=h3 } (upd H2 D (.lst [])) fp) [] (ZFW own cap σ) (upd H2 D (.lst [])) { s2 with heap:=h1,toks:=s2.toks+([]:List (Str × Value)).length } :=
  ZPp I3 f3 ob3 (Nat.le_refl _) co.kind rfl rfl hsub hhas k34 hns (by unfold ZFW; rw [List.length_append,List.length_replicate,List.length_map,co.len]) hcap
 obtain ⟨hg,ht,he⟩:=hb cl h3.objs.size { s2 with heap:=h3 } (upd H2 D (.lst [])) fp
 have loop:codeAny (model X.prog X.w) X.A (.compLoop (.ListComp elt [⟨tg,iter,ifs,0⟩] scope pos) 0 (.ref it) (.ref D) (compEnvC scope cl h3.objs.size X.env)) (R (.ref D) h3.objs.size) { s2 with heap:=h1,toks:=s2.toks+([]:List (Str × Value)).length }:=by
  refine ZLl (Y:=blk X N (compEnvC scope cl h3.objs.size X.env) { s2 with heap:=h3 } (upd H2 D (.lst [])) fp) (Q:=Q) hc T (λ H0 fr b hb'=>?_) hg ht he (λ _ _ z=>z) (λ H' s' J' q=>?_) I4 (T.keep _ _ _ st2 λ b _ o e=>k34 b o (k23 b o e)) (λ b hb'=>(f3 b hb').1) hq
  ·obtain ⟨o,e⟩:=ob3 b hb'
   exact ⟨fr b hb',Nat.ne_of_lt (Heap.lt_size e),λ z=>(List.mem_cons.mp (I3.stkSub b z)).elim (f3 b hb').2.1 (f3 b hb').2.2.1,.inl hb',λ x c ec=>(f3 b hb').2.2.2.2.1 x c (hsub x c ec),λ p hp=>nomatch hp⟩
  ·exact hR D h3.objs.size H' s' (I3.fpOk (Nat.le_refl _) J'.free) (let ⟨m,hm,_⟩:=J'.loc; ⟨m,hm⟩) (λ h' sb=>ZPi (env:=compEnvC scope cl h3.objs.size X.env) I3 f3 (Nat.le_refl _) J' sb) q
 exact codeAny_compStart_list loop (T.self _ 0 _ _ _ (T.keep _ _ _ st2 λ b _ o e=>k34 b o (k23 b o e)) loop)
theorem ZPw (hc:X.calm=true) (hi:PI X tg iter wi) (hsc:X.env.scope=sc) (hNX:X.N=NX)
  (hb:∀ cl C s0 H0 fp,PG (blk X N (compEnvC scope cl C X.env) s0 H0 fp) tg g/\PTs (blk X N (compEnvC scope cl C X.env) s0 H0 fp) ifs tt/\PE (blk X N (compEnvC scope cl C X.env) s0 H0 fp) elt te)
  (co:ZJx sc scope NX N own cap=true) (hs:∀ x,foldedSetIterable iter X.env x=pure x:=by intro _; rfl):PE X (.ListComp elt [⟨tg,iter,ifs,0⟩] scope pos) (ZNT own cap wi g tt te):=by
 intro pins s σ H Q I h
 have co:=ZI8 co
 obtain ⟨cl,hcl,hsub,hall⟩:=ZES (env:=X.env) (scope:=scope) λ y hy e=>I.ok.has y.1 (by unfold Env.kindOf; rw [hsc]; exact co.free y hy e)
 rw [eval_ListComp]
 refine wpAny_comprehension_free (use:=none) rfl hs hcl co.kind co.names (thn (hi pins s σ H _ I h) λ v s1 h1=>thn h1 λ itv s2 h2=>?_)
 refine ZGR (Q:=Q) (R:=λ acc C=>compPost (model X.prog X.w) X.A X.xe none (EP X pins σ Q) acc C) hc hsc hNX co hsub hall hb h2 λ D C H' s' _ ⟨m,hm⟩ hi' q=>?_
 exact ⟨m,hm,λ h' sb=>⟨.ref D,H',hi' h' sb,rfl,q⟩⟩
theorem ZQA {i:Nat} {x:Str} {py spos:Pos} (hN:X.N.Nodup) (hi:X.N[i]? = some x) (hx:Loc X.env.scope x) (hc:X.calm=true) (hit:PI X tg iter wi) (hsc:X.env.scope=sc) (hNX:X.N=NX)
  (hb:∀ cl C s0 H0 fp,PG (blk X N (compEnvC scope cl C X.env) s0 H0 fp) tg g/\PTs (blk X N (compEnvC scope cl C X.env) s0 H0 fp) ifs tt/\PE (blk X N (compEnvC scope cl C X.env) s0 H0 fp) elt te)
  (co:ZJx sc scope NX N own cap=true) (hsw:swapsWith (.ListComp elt [⟨tg,iter,ifs,0⟩] scope pos) (some (.Name x py)) spos.line X.env=pure true:=by rfl) (hs:∀ x,foldedSetIterable iter X.env x=pure x:=by intro _; rfl)
  (hf:X.fn x=true ∨ X.env.scope.names.lookup x=some .local:=by first | exact .inl rfl | exact .inr rfl | assumption) :
  PS X (.Assign [.Name x py] (.ListComp elt [⟨tg,iter,ifs,0⟩] scope pos) spos) (ZRM (ZNT own cap wi g tt te) (ZJo i)):=by
 intro pins s σ H D I h
 have co:=ZI8 co
 obtain ⟨cl,hcl,hsub,hall⟩:=ZES (env:=X.env) (scope:=scope) λ y hy e=>I.ok.has y.1 (by unfold Env.kindOf; rw [hsc]; exact co.free y hy e)
 rw [exec_Assign_Name_used _ _ _ _ hsw]
 refine wpAny_bind (wpAny_standAt (wpAny_bind ?_))
 show wpAny (model X.prog X.w) X.A (comprehension (.ListComp elt [⟨tg,iter,ifs,0⟩] scope pos) scope X.env _ (newList []) false (eval iter X.env) (some (assign (.Name x py) X.env)) >>= λ _=>pure ()) _ _ s
 refine wpAny_bind (thn (wpAny_comprehension_free (use:=some (assign (.Name x py) X.env)) (Q:=λ _ s'=>SP X pins D .next s') rfl hs hcl co.kind co.names (thn (hit pins s σ H _ I h) λ v s1 h1=>thn h1 λ itv s2 h2=>?_)) λ _ s' q=>wpAny_pure (wpAny_pure q))
 refine ZGR (Q:=λ v H1=>ZJo i v σ H1 D.nx) (R:=λ acc C=>compPost (model X.prog X.w) X.A X.xe (some (assign (.Name x py) X.env)) (λ _ s'=>SP X pins D .next s') acc C) hc hsc hNX co hsub hall hb h2 λ Da C H' s' fC ⟨m,hm⟩ hi' q=>?_
 have I1:Inv X pins σ H' s':=hi' s'.heap (Heap.SameBut.refl ..)
 show wpAny _ _ (assign (.Name x py) X.env (.ref Da)) _ _ s'
 refine wpAny_assign_Name (ZHo I1 hN hi hx (v:=.ref Da) rfl (λ s3 I3 ⟨a,sb,ha⟩=>?_) hf)
 obtain ⟨f0,f1,f2,f3,f4,f5⟩:=fC
 have nC:C ≠ a:=by
  rcases ha with z | z
  ·rw [z]; exact f1
  ·exact Ne.symm (f4 _ _ z)
 exact ⟨m,hm.sameBut sb nC,λ h' sb2=>⟨_,H',I3.turned (t':=s3.toks) (λ b o hb' e=>(sb2.2 b hb').trans e) f0 f1 f3 f4 f5,q⟩⟩
end
end L2
namespace L2
open PySem PySem.Spec PyProof.Rows
section
variable {X:Cx}
theorem ZNJ (hc:X.calm=true):ZAG X (.builtin "all") (λ xs H Q=>∃ (p:Addr) (bs:List Bool),xs=[.ref p]/\SqL X.K H p (bs.map V.bl)/\Q (.bl (bs.all id)) H):=by
 intro pins s σ H xs us Q I r h
 obtain ⟨p,bs,rfl,hq,q⟩:=h
 obtain ⟨u,rfl,ru⟩:=ZEM r
 cases ru
 obtain ⟨its,rv,pl,hz⟩:=I.list hq
 have hlen:=rv.length
 rw [List.length_map] at hlen
 have hpl:p < s.heap.objs.size:=by
  obtain ⟨o,n,e,_⟩:=pl
  exact Heap.lt_size e
 refine call_all_walk (wpAny_pyIter_list pl.isList ⟨s.heap.objs.size,_,_,_,_,_,λ i=>bs.getD i false,rfl,Walks.list (A:=X.A.in1) (show X.A.in1.handled=none from I.ok.hd hc) s.heap.objs.size p (Nat.ne_of_lt hpl) its.toArray,?_,?_,λ h' tk k=>?_⟩)
 ·exact ⟨⟨_,Heap.get?_push_size _ rfl,rfl,rfl⟩,pl.isList.at λ o e=>Heap.get?_push_of_some _ e⟩
 ·intro i v s' Q' E' hv hQ
  have hv':its[i]? = some v:=by simpa using hv
  have hi:i < bs.length:=by rw [hlen]; exact (List.getElem?_eq_some_iff.mp hv').1
  obtain ⟨u,hu,ru⟩:=rv.get (i:=i) (x:=V.bl bs[i]) (by simp [hi])
  rw [hv'] at hu
  cases hu
  cases ru
  have e:bs.getD i false=bs[i]:=by simp [List.getD,hi]
  dsimp only at hQ
  rw [e] at hQ
  exact wpAny_truthy_bool hQ
 ·have e:((List.range its.toArray.size).all λ i=>bs.getD i false)=bs.all id:=by
   rw [Bool.eq_iff_iff,List.all_eq_true,List.all_eq_true]
   constructor
   ·intro z b hb
    obtain ⟨i,hi,rfl⟩:=List.mem_iff_getElem.mp hb
    have:=z i (by simp [← hlen,hi])
    simpa [List.getD,hi] using this
   ·intro z i hi
    have hi':i < bs.length:=by simpa [← hlen] using hi
    have:=z bs[i] (List.getElem_mem hi')
    simpa [List.getD,hi'] using this
  rw [e]
  exact ⟨.bl (bs.all id),H,I.kept λ b o q=>k b o (by simp; exact Nat.ne_of_lt (Heap.lt_size q)) (Heap.get?_push_of_some _ q),rfl,q⟩
end
end L2
namespace L2
open PySem PySem.Spec PyProof.Rows
section
variable {X:Cx}
theorem ZJ4:ZAG X (.type "range") (λ xs H Q=>∃ j,xs=[.int j]/\∀ p,H p=none->Q (.ref p) (upd H p (.rng 0 j))):=by
 intro pins s σ H xs us Q I r h
 obtain ⟨j,rfl,q⟩:=h
 obtain ⟨u,rfl,ru⟩:=ZEM r
 obtain ⟨t,rfl⟩:=ru
 refine call_range_1 ⟨.ref s.heap.objs.size,_,I.laid (t':=s.toks+1+1) (λ b o e=>Heap.get?_push_of_some _ e) (Nat.le_refl _) (o:=.rng 0 j) ?_,rfl,q _ (I.hok.fresh (Nat.le_refl _))⟩
 exact ⟨_,_,_,Heap.get?_push_size _ rfl⟩
def ZIe (n:Nat):List V:=(List.range n).map λ (i:Nat)=>V.int (i:Int)
theorem ZJ3:∀ {ns:List Int} {ys:List Value},CarriedAll ys (ns.map PyData.int)->Zu (ns.map V.int) ys
 | [],_,h=>by cases h; exact .nil
 | n :: r,_,h=>by
  cases h with
  | cons a b =>
   cases a
   exact .cons ⟨_,rfl⟩ (ZJ3 b)
end
section
variable {X:Cx} {K:PySem.W.Frag}
end
end L2
namespace L2
open PySem PySem.Spec PyProof.Rows
section
variable {X:Cx}
end
end L2
namespace L2
open PySem PySem.Spec PyProof.Rows H1
def Zk (w:Int × Int):PyData:=.tuple [.int w.1,.int w.2]
def Zr (ws:List (Int × Int)):PyData:=.tuple (ws.map Zk)
def ZLY (n:Nat × (Int × Int)):PyData:=.tuple [.int (n.1:Int),Zk n.2]
def ZIK (ns:List (Nat × (Int × Int))):PyData:=.tuple (ns.map ZLY)
def gtW (a b:Int × Int):Bool:=HT.lexGt [a.1,a.2] [b.1,b.2]
theorem ZCl {a b:Int × Int}:gtW a b=true ↔ b.1 < a.1 ∨ (a.1=b.1/\b.2 < a.2):=by
 have e:gtW a b=if a.1=b.1 then (if a.2=b.2 then false else decide (b.2 < a.2)) else decide (b.1 < a.1):=rfl
 rw [e]
 split
 ·split
  ·constructor
   ·intro z; cases z
   ·intro z; omega
  ·rw [decide_eq_true_iff]; omega
 ·rw [decide_eq_true_iff]; omega
end L2
namespace HI
open PySem PyProof.Rows
def ZBz (h:Heap) (z TI TO:Addr) (f0 f1:Value):Prop:=h.get? z=some { cls:=.type "zip",data:=.fields #[f0,f1,.bool false,.ref TI,.ref TO] }
section
variable {prog:Program} {w:World} {A:Around} {E:Value->Shared->Prop} {s:Shared}
theorem ZMh {z TI TO i1 i2 l1 l2:Addr} {k1 k2:Nat} {xs ys:Array Value} {x y a b f0 f1:Value} {Q:Value->Shared->Prop} (ap:ZipApart z TI TO i1 i2 l1 l2) (hz:ZBz s.heap z TI TO f0 f1) (hfree:∀ Q:Bool->Shared->Prop,Q true s->wpAny (model prog w) A (Builtin.SmallTypes.ownedTupleIsFree (.ref z)) Q E s) (hTI:IsPair s.heap TI (.ref i1) (.ref i2)) (hTO:IsPair s.heap TO a b)
  (h1:s.heap.IsTupleIter i1 l1 k1) (h2:s.heap.IsTupleIter i2 l2 k2) (hl1:s.heap.IsTuple l1 xs) (hl2:s.heap.IsTuple l2 ys) (hx:xs[k1]? = some x) (hy:ys[k2]? = some y)
  (k:∀ h',ZBz h' z TI TO (rawInt s.heap.objs.size) (.bool false)->IsPair h' TO x y->h'.IsTupleIter i1 l1 (k1+1)->h'.IsTupleIter i2 l2 (k2+1)->IsPair h' s.heap.objs.size x y->h'.objs.size=s.heap.objs.size+1 ->
   (∀ c o,c ≠ z->c ≠ TO->c ≠ i1->c ≠ i2->s.heap.get? c=some o->h'.get? c=some o)->Q (.ref s.heap.objs.size) { s with heap:=h' }) :
  wpAny (model prog w) A (Builtin.«zip.__next__» ⟨[.ref z],[]⟩) (λ fin s'=>∃ v,fin=.done (.ret v)/\Q v s') E s:=by
 unfold Builtin.«zip.__next__»
 refine wpAny_bind (m:=slotArgs "__next__" 0 ⟨[.ref z],[]⟩) (wpAny_of_eq (a:=(Value.ref z,[])) (by rfl) ?_)
 refine wpAny_bind (m:=field (.ref z) 2) (wpAny_field hz rfl (x:=.bool false) rfl ?_)
 refine wpAny_bind (m:=field (.ref z) 3) (wpAny_field hz rfl (x:=.ref TI) rfl ?_)
 refine wpAny_bind (m:=seqItems? (.ref TI)) (wpAny_seqItems hTI rfl ?_)
 dsimp only
 rw [if_neg (by intro z; cases z)]
 refine wpAny_bind (m:=Builtin.SmallTypes.ownedTupleIsFree (.ref z)) (hfree _ ?_)
 rw [if_pos rfl]
 refine wpAny_bind (wpAny_rule ?_)
 refine wpAny_bind (m:=field (.ref z) 4) (wpAny_field hz rfl (x:=.ref TO) rfl ?_)
 dsimp only
 refine wpAny_bind (wpAny_setField hz rfl (by simp) ?_)
 have nz:=ap
 obtain ⟨TIz,TOz,i1z,i2z,TITO,TIi1,TIi2,TOi1,TOi2,i12,l1z,l1TO,l1i1,l1i2,l2z,l2TO,l2i1,l2i2⟩:=nz
 have sA:=Heap.SameBut.update (h:=s.heap) z (Obj.mapFields λ (x:Array Value)=>x.setIfInBounds 0 Value.ellipsis)
 have zA:ZBz (s.heap.update z (Obj.mapFields λ (x:Array Value)=>x.setIfInBounds 0 Value.ellipsis)) z TI TO .ellipsis f1:=Heap.get?_update_self _ hz rfl
 generalize hHA:s.heap.update z (Obj.mapFields λ (x:Array Value)=>x.setIfInBounds 0 Value.ellipsis)=HA at *
 refine wpAny_bind ?_
 show wpAny _ _ (forIn [(Value.ref i1,0),(Value.ref i2,1)] _ _) _ _ _
 simp only [List.forIn_cons,List.forIn_nil]
 refine wpAny_bind (wpAny_bind (wpAny_onRaise ?_))
 show wpAny _ _ (Builtin.SmallTypes.nextOf (.ref i1) >>= λ v=>pure (some v)) _ _ _
 have h1A:HA.IsTupleIter i1 l1 k1:=let ⟨o,e,r⟩:=h1; ⟨o,(sA.2 i1 i1z).trans e,r⟩
 have h2A:HA.IsTupleIter i2 l2 k2:=let ⟨o,e,r⟩:=h2; ⟨o,(sA.2 i2 i2z).trans e,r⟩
 have hl1A:HA.IsTuple l1 xs:=let ⟨o,e,r⟩:=hl1; ⟨o,(sA.2 l1 l1z).trans e,r⟩
 have hl2A:HA.IsTuple l2 ys:=let ⟨o,e,r⟩:=hl2; ⟨o,(sA.2 l2 l2z).trans e,r⟩
 have hTOA:IsPair HA TO a b:=(sA.2 TO TOz).trans hTO
 refine wpAny_bind (ZGY (s:={ s with heap:=HA }) h1A hl1A hx λ HB h1B sB=>wpAny_pure ?_)
 dsimp only at sB ⊢
 have h2B:HB.IsTupleIter i2 l2 k2:=let ⟨o,e,r⟩:=h2A; ⟨o,(sB.2 i2 (Ne.symm i12)).trans e,r⟩
 have hl2B:HB.IsTuple l2 ys:=let ⟨o,e,r⟩:=hl2A; ⟨o,(sB.2 l2 l2i1).trans e,r⟩
 have hTOB:IsPair HB TO a b:=(sB.2 TO TOi1).trans hTOA
 have zB:ZBz HB z TI TO .ellipsis f1:=(sB.2 z (Ne.symm i1z)).trans zA
 refine wpAny_bind (m:=seqItems? (.ref TO)) (wpAny_seqItems hTOB rfl ?_)
 dsimp only
 refine wpAny_bind (wpAny_updateSeq hTOB rfl ?_ (by show 2<=sizeLine; decide) (by show 2<=_; decide))
 have sC:=Heap.SameBut.update (h:=HB) TO (Obj.mapSeq λ (x_2:Array Value)=>x_2.setIfInBounds 0 x)
 have hTOC:IsPair (HB.update TO (Obj.mapSeq λ (x_2:Array Value)=>x_2.setIfInBounds 0 x)) TO x b:=Heap.get?_update_self _ hTOB rfl
 generalize HB.update TO (Obj.mapSeq λ (x_2:Array Value)=>x_2.setIfInBounds 0 x)=HC at *
 refine wpAny_bind (wpAny_letGo (wpAny_pure ?_))
 dsimp only
 have h1C:HC.IsTupleIter i1 l1 (k1+1):=let ⟨o,e,r⟩:=h1B; ⟨o,(sC.2 i1 (Ne.symm TOi1)).trans e,r⟩
 have h2C:HC.IsTupleIter i2 l2 k2:=let ⟨o,e,r⟩:=h2B; ⟨o,(sC.2 i2 (Ne.symm TOi2)).trans e,r⟩
 have hl2C:HC.IsTuple l2 ys:=let ⟨o,e,r⟩:=hl2B; ⟨o,(sC.2 l2 l2TO).trans e,r⟩
 have zC:ZBz HC z TI TO .ellipsis f1:=(sC.2 z (Ne.symm TOz)).trans zB
 refine wpAny_bind (wpAny_bind (wpAny_onRaise ?_))
 show wpAny _ _ (Builtin.SmallTypes.nextOf (.ref i2) >>= λ v=>pure (some v)) _ _ _
 refine wpAny_bind (ZGY (s:={ s with heap:=HC }) h2C hl2C hy λ HD h2D sD=>wpAny_pure ?_)
 dsimp only at sD ⊢
 have h1D:HD.IsTupleIter i1 l1 (k1+1):=let ⟨o,e,r⟩:=h1C; ⟨o,(sD.2 i1 i12).trans e,r⟩
 have hTOD:IsPair HD TO x b:=(sD.2 TO TOi2).trans hTOC
 have zD:ZBz HD z TI TO .ellipsis f1:=(sD.2 z (Ne.symm i2z)).trans zC
 refine wpAny_bind (m:=seqItems? (.ref TO)) (wpAny_seqItems hTOD rfl ?_)
 dsimp only
 refine wpAny_bind (wpAny_updateSeq hTOD rfl ?_ (by show 2<=sizeLine; decide) (by show 2<=_; decide))
 have sE:=Heap.SameBut.update (h:=HD) TO (Obj.mapSeq λ (x_2:Array Value)=>x_2.setIfInBounds 1 y)
 have hTOE:IsPair (HD.update TO (Obj.mapSeq λ (x_2:Array Value)=>x_2.setIfInBounds 1 y)) TO x y:=Heap.get?_update_self _ hTOD rfl
 generalize HD.update TO (Obj.mapSeq λ (x_2:Array Value)=>x_2.setIfInBounds 1 y)=HE at *
 refine wpAny_bind (wpAny_letGo (wpAny_pure (wpAny_pure ?_)))
 dsimp only
 have h1E:HE.IsTupleIter i1 l1 (k1+1):=let ⟨o,e,r⟩:=h1D; ⟨o,(sE.2 i1 (Ne.symm TOi1)).trans e,r⟩
 have h2E:HE.IsTupleIter i2 l2 (k2+1):=let ⟨o,e,r⟩:=h2D; ⟨o,(sE.2 i2 (Ne.symm TOi2)).trans e,r⟩
 have zE:ZBz HE z TI TO .ellipsis f1:=(sE.2 z (Ne.symm TOz)).trans zD
 have hsz:HE.objs.size=s.heap.objs.size:=by rw [sE.1,sD.1,sC.1,sB.1,sA.1]
 have kE:∀ c o,c ≠ z->c ≠ TO->c ≠ i1->c ≠ i2->s.heap.get? c=some o->HE.get? c=some o:=λ c o n1 n2 n3 n4 e=>by
  rw [sE.2 c n2,sD.2 c n4,sC.2 c n2,sB.2 c n3,sA.2 c n1]
  exact e
 refine wpAny_bind (m:=seqItems? (.ref TO)) (wpAny_seqItems hTOE rfl ?_)
 dsimp only
 refine wpAny_bind (m:=newTuple [x,y]) (wpAny_newObj_type ?_ (by show 2<=sizeLine; decide))
 have hzs:z < HE.objs.size:=Heap.lt_size zE
 have hF:IsPair (HE.push { cls:=.type "tuple",data:=.seq #[x,y] }) s.heap.objs.size x y:=by rw [← hsz]; exact Heap.get?_push_size _ rfl
 have kF:∀ c o,HE.get? c=some o->(HE.push { cls:=.type "tuple",data:=.seq #[x,y] }).get? c=some o:=λ c o e=>Heap.get?_push_of_some _ e
 have szF:(HE.push { cls:=.type "tuple",data:=.seq #[x,y] }).objs.size=s.heap.objs.size+1:=by rw [Heap.size_push,hsz]
 have zF:=kF _ _ zE
 generalize hHF:HE.push { cls:=.type "tuple",data:=.seq #[x,y] }=HF at *
 dsimp only
 rw [hsz]
 unfold Builtin.SmallTypes.ownedTupleHandOut
 refine wpAny_bind (wpAny_bind (wpAny_setField zF rfl (by simp) ?_))
 have sG:=Heap.SameBut.update (h:=HF) z (Obj.mapFields λ (q:Array Value)=>q.setIfInBounds 0 (rawInt (s.heap.objs.size:Int)))
 have zG:ZBz (HF.update z (Obj.mapFields λ (q:Array Value)=>q.setIfInBounds 0 (rawInt (s.heap.objs.size:Int)))) z TI TO (rawInt (s.heap.objs.size:Int)) f1:=Heap.get?_update_self _ zF rfl
 generalize HF.update z (Obj.mapFields λ (q:Array Value)=>q.setIfInBounds 0 (rawInt (s.heap.objs.size:Int)))=HG at *
 refine wpAny_setField zG rfl (by simp) ?_
 have sH:=Heap.SameBut.update (h:=HG) z (Obj.mapFields λ (q:Array Value)=>q.setIfInBounds 1 (.bool false))
 have zH:ZBz (HG.update z (Obj.mapFields λ (q:Array Value)=>q.setIfInBounds 1 (.bool false))) z TI TO (rawInt (s.heap.objs.size:Int)) (.bool false):=Heap.get?_update_self _ zG rfl
 generalize HG.update z (Obj.mapFields λ (q:Array Value)=>q.setIfInBounds 1 (.bool false))=HH at *
 have kH:∀ c o,c ≠ z->HF.get? c=some o->HH.get? c=some o:=λ c o n e=>by
  rw [sH.2 c n,sG.2 c n]
  exact e
 have zlt:z ≠ s.heap.objs.size:=Nat.ne_of_lt (by rw [← hsz]; exact hzs)
 refine wpAny_pure ⟨_,rfl,k HH zH (kH _ _ TOz (kF _ _ hTOE)) ?_ ?_ (kH _ _ (Ne.symm zlt) hF) (by rw [sH.1,sG.1,szF]) λ c o n1 n2 n3 n4 e=>kH c o n1 (kF c o (kE c o n1 n2 n3 n4 e))⟩
 ·obtain ⟨o,e,r⟩:=h1E
  exact ⟨o,kH _ _ i1z (kF _ _ e),r⟩
 ·obtain ⟨o,e,r⟩:=h2E
  exact ⟨o,kH _ _ i2z (kF _ _ e),r⟩
theorem ZQR {M:Model} {a:Addr} {Q:Option Obj->Shared->Prop} (h:Q (s.heap.get? a) s):wpAny M A (loadIfAlive a) Q E s:=λ Γ p _=>by
 unfold loadIfAlive
 rw [Sem.wp_loadIfAlive]
 exact h
theorem ZHt {z TI TO:Addr} {f1:Value} (hz:ZBz s.heap z TI TO .none f1) (Q:Bool->Shared->Prop) (q:Q true s):wpAny (model prog w) A (Builtin.SmallTypes.ownedTupleIsFree (.ref z)) Q E s:=by
 unfold Builtin.SmallTypes.ownedTupleIsFree
 exact wpAny_bind (m:=field (.ref z) 0) (wpAny_field hz rfl (x:=.none) rfl (wpAny_pure q))
theorem ZHa {z TI TO:Addr} {f1:Value} {T:Nat} (hz:ZBz s.heap z TI TO (rawInt (T:Int)) f1) (hT:s.heap.get? T=none) (Q:Bool->Shared->Prop) (q:Q true s):wpAny (model prog w) A (Builtin.SmallTypes.ownedTupleIsFree (.ref z)) Q E s:=by
 unfold Builtin.SmallTypes.ownedTupleIsFree
 refine wpAny_bind (m:=field (.ref z) 0) (wpAny_field hz rfl (x:=rawInt (T:Int)) rfl ?_)
 refine wpAny_bind (m:=loadIfAlive (T:Int).toNat) (ZQR ?_)
 rw [Int.toNat_natCast,hT]
 exact wpAny_pure q
theorem ZSK {z TI TO:Addr} {f1:Value} {T:Nat} {o:Obj} {Q:Bool->Shared->Prop} (hz:ZBz s.heap z TI TO (rawInt (T:Int)) f1) (hT:s.heap.get? T=some o)
  (q:∀ h' f1',ZBz h' z TI TO (rawInt (T:Int)) f1'->Heap.SameBut z s.heap h'->Q false { s with heap:=h' }):wpAny (model prog w) A (Builtin.SmallTypes.ownedTupleIsFree (.ref z)) Q E s:=by
 unfold Builtin.SmallTypes.ownedTupleIsFree
 refine wpAny_bind (m:=field (.ref z) 0) (wpAny_field hz rfl (x:=rawInt (T:Int)) rfl ?_)
 refine wpAny_bind (m:=loadIfAlive (T:Int).toNat) (ZQR ?_)
 rw [Int.toNat_natCast,hT]
 show wpAny _ _ (field (.ref z) 1 >>= _) _ _ _
 refine wpAny_bind (m:=field (.ref z) 1) (wpAny_field hz rfl (x:=f1) rfl ?_)
 by_cases c:(f1 != Value.bool true)=true
 ·rw [if_pos c]
  refine wpAny_bind (wpAny_setField hz rfl (by simp) (wpAny_pure (q _ (.bool true) ?_ (Heap.SameBut.update ..))))
  exact Heap.get?_update_self _ hz rfl
 ·rw [if_neg c]
  exact wpAny_pure (q s.heap f1 hz (Heap.SameBut.refl ..))
theorem ZN0 {z TI TO i1 i2 l1 l2:Addr} {k1 k2 T:Nat} {o:Obj} {xs ys:Array Value} {x y f1:Value} {Q:Value->Shared->Prop} (ap:ZipApart z TI TO i1 i2 l1 l2) (hz:ZBz s.heap z TI TO (rawInt (T:Int)) f1) (hT:s.heap.get? T=some o) (hTI:IsPair s.heap TI (.ref i1) (.ref i2))
  (h1:s.heap.IsTupleIter i1 l1 k1) (h2:s.heap.IsTupleIter i2 l2 k2) (hl1:s.heap.IsTuple l1 xs) (hl2:s.heap.IsTuple l2 ys) (hx:xs[k1]? = some x) (hy:ys[k2]? = some y)
  (k:∀ h' f1',ZBz h' z TI TO (rawInt (T:Int)) f1'->h'.IsTupleIter i1 l1 (k1+1)->h'.IsTupleIter i2 l2 (k2+1)->IsPair h' s.heap.objs.size x y->h'.objs.size=s.heap.objs.size+1 ->
   (∀ c o,c ≠ z->c ≠ i1->c ≠ i2->s.heap.get? c=some o->h'.get? c=some o)->Q (.ref s.heap.objs.size) { s with heap:=h' }) :
  wpAny (model prog w) A (Builtin.«zip.__next__» ⟨[.ref z],[]⟩) (λ fin s'=>∃ v,fin=.done (.ret v)/\Q v s') E s:=by
 unfold Builtin.«zip.__next__»
 refine wpAny_bind (m:=slotArgs "__next__" 0 ⟨[.ref z],[]⟩) (wpAny_of_eq (a:=(Value.ref z,[])) (by rfl) ?_)
 refine wpAny_bind (m:=field (.ref z) 2) (wpAny_field hz rfl (x:=.bool false) rfl ?_)
 refine wpAny_bind (m:=field (.ref z) 3) (wpAny_field hz rfl (x:=.ref TI) rfl ?_)
 refine wpAny_bind (m:=seqItems? (.ref TI)) (wpAny_seqItems hTI rfl ?_)
 dsimp only
 rw [if_neg (by intro z; cases z)]
 obtain ⟨TIz,TOz,i1z,i2z,TITO,TIi1,TIi2,TOi1,TOi2,i12,l1z,l1TO,l1i1,l1i2,l2z,l2TO,l2i1,l2i2⟩:=ap
 refine wpAny_bind (m:=Builtin.SmallTypes.ownedTupleIsFree (.ref z)) (ZSK hz hT λ HA f1' zA sA=>?_)
 rw [if_neg (by intro z; cases z)]
 have h1A:HA.IsTupleIter i1 l1 k1:=let ⟨o,e,r⟩:=h1; ⟨o,(sA.2 i1 i1z).trans e,r⟩
 have h2A:HA.IsTupleIter i2 l2 k2:=let ⟨o,e,r⟩:=h2; ⟨o,(sA.2 i2 i2z).trans e,r⟩
 have hl1A:HA.IsTuple l1 xs:=let ⟨o,e,r⟩:=hl1; ⟨o,(sA.2 l1 l1z).trans e,r⟩
 have hl2A:HA.IsTuple l2 ys:=let ⟨o,e,r⟩:=hl2; ⟨o,(sA.2 l2 l2z).trans e,r⟩
 refine wpAny_bind ?_
 rw [← Array.forIn_toList]
 show wpAny _ _ (forIn [Value.ref i1,Value.ref i2] _ _) _ _ _
 simp only [List.forIn_cons,List.forIn_nil]
 refine wpAny_bind (wpAny_bind (wpAny_holding ?_))
 show wpAny _ _ (Builtin.SmallTypes.nextOf (.ref i1) >>= λ v=>pure (some v)) _ _ _
 refine wpAny_bind (ZGY (s:={ s with heap:=HA }) h1A hl1A hx λ HB h1B sB=>wpAny_pure ?_)
 dsimp only at sB ⊢
 have h2B:HB.IsTupleIter i2 l2 k2:=let ⟨o,e,r⟩:=h2A; ⟨o,(sB.2 i2 (Ne.symm i12)).trans e,r⟩
 have hl2B:HB.IsTuple l2 ys:=let ⟨o,e,r⟩:=hl2A; ⟨o,(sB.2 l2 l2i1).trans e,r⟩
 have zB:ZBz HB z TI TO (rawInt (T:Int)) f1':=(sB.2 z (Ne.symm i1z)).trans zA
 refine wpAny_pure (wpAny_bind (wpAny_bind (wpAny_holding ?_)))
 show wpAny _ _ (Builtin.SmallTypes.nextOf (.ref i2) >>= λ v=>pure (some v)) _ _ _
 refine wpAny_bind (ZGY (s:={ s with heap:=HB }) h2B hl2B hy λ HC h2C sC=>wpAny_pure ?_)
 dsimp only at sC ⊢
 have h1C:HC.IsTupleIter i1 l1 (k1+1):=let ⟨o,e,r⟩:=h1B; ⟨o,(sC.2 i1 i12).trans e,r⟩
 have zC:ZBz HC z TI TO (rawInt (T:Int)) f1':=(sC.2 z (Ne.symm i2z)).trans zB
 refine wpAny_pure (wpAny_pure ?_)
 dsimp only
 have hsz:HC.objs.size=s.heap.objs.size:=by rw [sC.1,sB.1,sA.1]
 have kC:∀ c o,c ≠ z->c ≠ i1->c ≠ i2->s.heap.get? c=some o->HC.get? c=some o:=λ c o n1 n3 n4 e=>by
  rw [sC.2 c n4,sB.2 c n3,sA.2 c n1]
  exact e
 refine wpAny_bind (m:=newTuple [x,y]) (wpAny_newObj_type ?_ (by show 2<=sizeLine; decide))
 have hF:IsPair (HC.push { cls:=.type "tuple",data:=.seq #[x,y] }) s.heap.objs.size x y:=by rw [← hsz]; exact Heap.get?_push_size _ rfl
 have kF:∀ c o,HC.get? c=some o->(HC.push { cls:=.type "tuple",data:=.seq #[x,y] }).get? c=some o:=λ c o e=>Heap.get?_push_of_some _ e
 have szF:(HC.push { cls:=.type "tuple",data:=.seq #[x,y] }).objs.size=s.heap.objs.size+1:=by rw [Heap.size_push,hsz]
 have zF:=kF _ _ zC
 refine wpAny_pure ⟨_,rfl,?_⟩
 dsimp only
 rw [hsz]
 refine k _ f1' zF ?_ ?_ hF szF λ c o n1 n3 n4 e=>kF c o (kC c o n1 n3 n4 e)
 ·obtain ⟨o,e,r⟩:=h1C
  exact ⟨o,kF _ _ e,r⟩
 ·obtain ⟨o,e,r⟩:=h2C
  exact ⟨o,kF _ _ e,r⟩
theorem ZLU {z TI TO i1 i2 l1 l2:Addr} {k1 k2:Nat} {xs ys:Array Value} {a b f0 f1:Value} {Q:PySem.Fin->Shared->Prop} (hh:A.handled=none) (ap:ZipApart z TI TO i1 i2 l1 l2) (hz:ZBz s.heap z TI TO f0 f1) (hfree:∀ Q:Bool->Shared->Prop,Q true s->wpAny (model prog w) A (Builtin.SmallTypes.ownedTupleIsFree (.ref z)) Q E s) (hTI:IsPair s.heap TI (.ref i1) (.ref i2)) (hTO:IsPair s.heap TO a b)
  (h1:s.heap.IsTupleIter i1 l1 k1) (h2:s.heap.IsTupleIter i2 l2 k2) (hl1:s.heap.IsTuple l1 xs) (hl2:s.heap.IsTuple l2 ys) (hx:xs[k1]? = none ∨ ys[k2]? = none)
  (k:∀ h' e,(∀ c o,c ≠ z->c ≠ TO->c ≠ i1->c ≠ i2->s.heap.get? c=some o->h'.get? c=some o)->(∃ o,h'.get? e=some o/\o.cls=.type "StopIteration")->E (.ref e) { s with heap:=h' }) :
  wpAny (model prog w) A (Builtin.«zip.__next__» ⟨[.ref z],[]⟩) Q E s:=by
 unfold Builtin.«zip.__next__»
 refine wpAny_bind (m:=slotArgs "__next__" 0 ⟨[.ref z],[]⟩) (wpAny_of_eq (a:=(Value.ref z,[])) (by rfl) ?_)
 refine wpAny_bind (m:=field (.ref z) 2) (wpAny_field hz rfl (x:=.bool false) rfl ?_)
 refine wpAny_bind (m:=field (.ref z) 3) (wpAny_field hz rfl (x:=.ref TI) rfl ?_)
 refine wpAny_bind (m:=seqItems? (.ref TI)) (wpAny_seqItems hTI rfl ?_)
 dsimp only
 rw [if_neg (by intro z; cases z)]
 refine wpAny_bind (m:=Builtin.SmallTypes.ownedTupleIsFree (.ref z)) (hfree _ ?_)
 rw [if_pos rfl]
 refine wpAny_bind (wpAny_rule ?_)
 refine wpAny_bind (m:=field (.ref z) 4) (wpAny_field hz rfl (x:=.ref TO) rfl ?_)
 dsimp only
 refine wpAny_bind (wpAny_setField hz rfl (by simp) ?_)
 obtain ⟨TIz,TOz,i1z,i2z,TITO,TIi1,TIi2,TOi1,TOi2,i12,l1z,l1TO,l1i1,l1i2,l2z,l2TO,l2i1,l2i2⟩:=ap
 have sA:=Heap.SameBut.update (h:=s.heap) z (Obj.mapFields λ (x:Array Value)=>x.setIfInBounds 0 Value.ellipsis)
 have zA:ZBz (s.heap.update z (Obj.mapFields λ (x:Array Value)=>x.setIfInBounds 0 Value.ellipsis)) z TI TO .ellipsis f1:=Heap.get?_update_self _ hz rfl
 generalize hHA:s.heap.update z (Obj.mapFields λ (x:Array Value)=>x.setIfInBounds 0 Value.ellipsis)=HA at *
 refine wpAny_bind ?_
 show wpAny _ _ (forIn [(Value.ref i1,0),(Value.ref i2,1)] _ _) _ _ _
 simp only [List.forIn_cons,List.forIn_nil]
 refine wpAny_bind (wpAny_bind (wpAny_onRaise ?_))
 show wpAny _ _ (Builtin.SmallTypes.nextOf (.ref i1) >>= λ v=>pure (some v)) _ _ _
 have h1A:HA.IsTupleIter i1 l1 k1:=let ⟨o,e,r⟩:=h1; ⟨o,(sA.2 i1 i1z).trans e,r⟩
 have h2A:HA.IsTupleIter i2 l2 k2:=let ⟨o,e,r⟩:=h2; ⟨o,(sA.2 i2 i2z).trans e,r⟩
 have hl1A:HA.IsTuple l1 xs:=let ⟨o,e,r⟩:=hl1; ⟨o,(sA.2 l1 l1z).trans e,r⟩
 have hl2A:HA.IsTuple l2 ys:=let ⟨o,e,r⟩:=hl2; ⟨o,(sA.2 l2 l2z).trans e,r⟩
 have hTOA:IsPair HA TO a b:=(sA.2 TO TOz).trans hTO
 have last:∀ (h':Heap) (e:Addr) (g1:Value),ZBz h' z TI TO .ellipsis g1->(∀ c o,c ≠ z->c ≠ TO->c ≠ i1->c ≠ i2->s.heap.get? c=some o->h'.get? c=some o)->(∃ o,h'.get? e=some o/\o.cls=.type "StopIteration") ->
   wpAny (model prog w) A (setField (.ref z) 0 Value.none) (λ _ s''=>E (.ref e) s'') E { s with heap:=h' }:=λ h' e g1 hz' kp he=>by
  have se:=Heap.SameBut.update (h:=h') z (Obj.mapFields λ (x:Array Value)=>x.setIfInBounds 0 Value.none)
  refine wpAny_setField hz' rfl (by simp) (k _ e (λ c o n1 n2 n3 n4 q=>(se.2 c n1).trans (kp c o n1 n2 n3 n4 q)) ?_)
  obtain ⟨o,ho,hc⟩:=he
  have nz:e ≠ z:=by
   intro q
   rw [q,hz'] at ho
   cases ho
   have hc':Value.type "zip" = Value.type "StopIteration":=hc
   exact absurd hc' (by decide)
  exact ⟨o,(se.2 e nz).trans ho,hc⟩
 cases hxk:xs[k1]? with
 | none =>
  refine wpAny_bind (ZCQ (s:={ s with heap:=HA }) hh h1A hl1A hxk λ h' e eb he=>?_)
  exact last h' e f1 (eb z _ (Ne.symm i1z) zA) (λ c o n1 n2 n3 n4 q=>eb c o n3 ((sA.2 c n1).trans q)) he
 | some x =>
  have hyk:ys[k2]? = none:=by
   rcases hx with q | q
   ·rw [hxk] at q; cases q
   ·exact q
  refine wpAny_bind (ZGY (s:={ s with heap:=HA }) h1A hl1A hxk λ HB h1B sB=>wpAny_pure ?_)
  dsimp only at sB ⊢
  have h2B:HB.IsTupleIter i2 l2 k2:=let ⟨o,e,r⟩:=h2A; ⟨o,(sB.2 i2 (Ne.symm i12)).trans e,r⟩
  have hl2B:HB.IsTuple l2 ys:=let ⟨o,e,r⟩:=hl2A; ⟨o,(sB.2 l2 l2i1).trans e,r⟩
  have hTOB:IsPair HB TO a b:=(sB.2 TO TOi1).trans hTOA
  have zB:ZBz HB z TI TO .ellipsis f1:=(sB.2 z (Ne.symm i1z)).trans zA
  refine wpAny_bind (m:=seqItems? (.ref TO)) (wpAny_seqItems hTOB rfl ?_)
  dsimp only
  refine wpAny_bind (wpAny_updateSeq hTOB rfl ?_ (by show 2<=sizeLine; decide) (by show 2<=_; decide))
  have sC:=Heap.SameBut.update (h:=HB) TO (Obj.mapSeq λ (x_2:Array Value)=>x_2.setIfInBounds 0 x)
  generalize HB.update TO (Obj.mapSeq λ (x_2:Array Value)=>x_2.setIfInBounds 0 x)=HC at *
  refine wpAny_bind (wpAny_letGo (wpAny_pure ?_))
  dsimp only
  have h2C:HC.IsTupleIter i2 l2 k2:=let ⟨o,e,r⟩:=h2B; ⟨o,(sC.2 i2 (Ne.symm TOi2)).trans e,r⟩
  have hl2C:HC.IsTuple l2 ys:=let ⟨o,e,r⟩:=hl2B; ⟨o,(sC.2 l2 l2TO).trans e,r⟩
  have zC:ZBz HC z TI TO .ellipsis f1:=(sC.2 z (Ne.symm TOz)).trans zB
  refine wpAny_bind (wpAny_bind (wpAny_onRaise ?_))
  show wpAny _ _ (Builtin.SmallTypes.nextOf (.ref i2) >>= λ v=>pure (some v)) _ _ _
  refine wpAny_bind (ZCQ (s:={ s with heap:=HC }) hh h2C hl2C hyk λ h' e eb he=>?_)
  exact last h' e f1 (eb z _ (Ne.symm i2z) zC) (λ c o n1 n2 n3 n4 q=>eb c o n4 ((sC.2 c n2).trans ((sB.2 c n3).trans ((sA.2 c n1).trans q)))) he
theorem ZPZ {z TI TO i1 i2 l1 l2:Addr} {k1 k2 T:Nat} {o:Obj} {xs ys:Array Value} {f1:Value} {Q:PySem.Fin->Shared->Prop} (hh:A.handled=none) (ap:ZipApart z TI TO i1 i2 l1 l2) (hz:ZBz s.heap z TI TO (rawInt (T:Int)) f1) (hT:s.heap.get? T=some o) (hTI:IsPair s.heap TI (.ref i1) (.ref i2))
  (h1:s.heap.IsTupleIter i1 l1 k1) (h2:s.heap.IsTupleIter i2 l2 k2) (hl1:s.heap.IsTuple l1 xs) (hl2:s.heap.IsTuple l2 ys) (hx:xs[k1]? = none ∨ ys[k2]? = none)
  (k:∀ h' e,(∀ c o,c ≠ z->c ≠ TO->c ≠ i1->c ≠ i2->s.heap.get? c=some o->h'.get? c=some o)->(∃ o,h'.get? e=some o/\o.cls=.type "StopIteration")->E (.ref e) { s with heap:=h' }) :
  wpAny (model prog w) A (Builtin.«zip.__next__» ⟨[.ref z],[]⟩) Q E s:=by
 unfold Builtin.«zip.__next__»
 refine wpAny_bind (m:=slotArgs "__next__" 0 ⟨[.ref z],[]⟩) (wpAny_of_eq (a:=(Value.ref z,[])) (by rfl) ?_)
 refine wpAny_bind (m:=field (.ref z) 2) (wpAny_field hz rfl (x:=.bool false) rfl ?_)
 refine wpAny_bind (m:=field (.ref z) 3) (wpAny_field hz rfl (x:=.ref TI) rfl ?_)
 refine wpAny_bind (m:=seqItems? (.ref TI)) (wpAny_seqItems hTI rfl ?_)
 dsimp only
 rw [if_neg (by intro z; cases z)]
 obtain ⟨TIz,TOz,i1z,i2z,TITO,TIi1,TIi2,TOi1,TOi2,i12,l1z,l1TO,l1i1,l1i2,l2z,l2TO,l2i1,l2i2⟩:=ap
 refine wpAny_bind (m:=Builtin.SmallTypes.ownedTupleIsFree (.ref z)) (ZSK hz hT λ HA f1' zA sA=>?_)
 rw [if_neg (by intro z; cases z)]
 have h1A:HA.IsTupleIter i1 l1 k1:=let ⟨o,e,r⟩:=h1; ⟨o,(sA.2 i1 i1z).trans e,r⟩
 have h2A:HA.IsTupleIter i2 l2 k2:=let ⟨o,e,r⟩:=h2; ⟨o,(sA.2 i2 i2z).trans e,r⟩
 have hl1A:HA.IsTuple l1 xs:=let ⟨o,e,r⟩:=hl1; ⟨o,(sA.2 l1 l1z).trans e,r⟩
 have hl2A:HA.IsTuple l2 ys:=let ⟨o,e,r⟩:=hl2; ⟨o,(sA.2 l2 l2z).trans e,r⟩
 refine wpAny_bind ?_
 rw [← Array.forIn_toList]
 show wpAny _ _ (forIn [Value.ref i1,Value.ref i2] _ _) _ _ _
 simp only [List.forIn_cons,List.forIn_nil]
 refine wpAny_bind (wpAny_bind (wpAny_holding ?_))
 show wpAny _ _ (Builtin.SmallTypes.nextOf (.ref i1) >>= λ v=>pure (some v)) _ _ _
 cases hxk:xs[k1]? with
 | none =>
  refine wpAny_bind (ZCQ (s:={ s with heap:=HA }) hh h1A hl1A hxk λ h' e eb he=>?_)
  exact k h' e (λ c o n1 n2 n3 n4 q=>eb c o n3 ((sA.2 c n1).trans q)) he
 | some x =>
  have hyk:ys[k2]? = none:=by
   rcases hx with q | q
   ·rw [hxk] at q; cases q
   ·exact q
  refine wpAny_bind (ZGY (s:={ s with heap:=HA }) h1A hl1A hxk λ HB h1B sB=>wpAny_pure ?_)
  dsimp only at sB ⊢
  have h2B:HB.IsTupleIter i2 l2 k2:=let ⟨o,e,r⟩:=h2A; ⟨o,(sB.2 i2 (Ne.symm i12)).trans e,r⟩
  have hl2B:HB.IsTuple l2 ys:=let ⟨o,e,r⟩:=hl2A; ⟨o,(sB.2 l2 l2i1).trans e,r⟩
  refine wpAny_pure (wpAny_bind (wpAny_bind (wpAny_holding ?_)))
  show wpAny _ _ (Builtin.SmallTypes.nextOf (.ref i2) >>= λ v=>pure (some v)) _ _ _
  refine wpAny_bind (ZCQ (s:={ s with heap:=HB }) hh h2B hl2B hyk λ h' e eb he=>?_)
  exact k h' e (λ c o n1 n2 n3 n4 q=>eb c o n4 ((sB.2 c n3).trans ((sA.2 c n1).trans q))) he
structure ZipS (h:Heap) (z TI TO i1 i2 l1 l2:Addr) (i:Nat):Prop where
 zo:∃ f0 f1,ZBz h z TI TO f0 f1/\(f0=.none ∨ ∃ T:Nat,f0=rawInt (T:Int))
 ti:IsPair h TI (.ref i1) (.ref i2)
 to:∃ a b,IsPair h TO a b
 it1:h.IsTupleIter i1 l1 i
 it2:h.IsTupleIter i2 l2 i
theorem nextZip {z TI TO i1 i2 l1 l2:Addr} {i:Nat} {xs ys:Array Value} {x y:Value} {Q:Option Value->Shared->Prop} (ap:ZipApart z TI TO i1 i2 l1 l2) (S:ZipS s.heap z TI TO i1 i2 l1 l2 i) (hl1:s.heap.IsTuple l1 xs) (hl2:s.heap.IsTuple l2 ys) (hx:xs[i]? = some x) (hy:ys[i]? = some y)
  (k:∀ h',ZipS h' z TI TO i1 i2 l1 l2 (i+1)->IsPair h' s.heap.objs.size x y->h'.objs.size=s.heap.objs.size+1->(∀ c o,c ≠ z->c ≠ TO->c ≠ i1->c ≠ i2->s.heap.get? c=some o->h'.get? c=some o)->Q (some (.ref s.heap.objs.size)) { s with heap:=h' }) :
  wpAny (model prog w) A (pyNext (.ref z)) Q E s:=by
 obtain ⟨⟨f0,f1,hz,hf⟩,hti,⟨a,b,hto⟩,h1,h2⟩:=S
 have ty:s.TypeIs (.ref z) "zip":=⟨_,hz,rfl⟩
 unfold pyNext
 refine wpAny_bind (wpAny_attempt ?_)
 refine wpAny_callSpecial?_slot (name:=Str.ofString "__next__") ty F.slot_zip_next (wpAny_call_entry F.slot_zip_next ty F.entry_zip_next ?_ (F.args_zip_next_1 _))
 have own:∀ (E':Value->Shared->Prop) (A':Around),(∀ Q:Bool->Shared->Prop,Q true s->wpAny (model prog w) A' (Builtin.SmallTypes.ownedTupleIsFree (.ref z)) Q E' s)->wpAny (model prog w) A' (Builtin.«zip.__next__» ⟨[.ref z],[]⟩) (λ fin s'=>∃ v,fin=.done (.ret v)/\wpAny (model prog w) A (pure (some v)) Q E s') E' s:=λ E' A' fr=>by
  refine ZMh ap hz fr hti hto h1 h2 hl1 hl2 hx hy λ h' z' to' t1 t2 pr sz kp=>wpAny_pure (k h' ⟨⟨_,_,z',.inr ⟨_,rfl⟩⟩,kp _ _ ap.TIz ap.TITO ap.TIi1 ap.TIi2 hti,⟨_,_,to'⟩,t1,t2⟩ pr sz kp)
 rcases hf with rfl | ⟨T,rfl⟩
 ·exact own _ _ λ Q q=>ZHt hz Q q
 ·cases hT:s.heap.get? T with
  | none=>exact own _ _ λ Q q=>ZHa hz hT Q q
  | some o =>
   refine ZN0 ap hz hT hti h1 h2 hl1 hl2 hx hy λ h' f1' z' t1 t2 pr sz kp=>wpAny_pure (k h' ⟨⟨_,_,z',.inr ⟨_,rfl⟩⟩,kp _ _ ap.TIz ap.TIi1 ap.TIi2 hti,⟨a,b,kp _ _ ap.TOz ap.TOi1 ap.TOi2 hto⟩,t1,t2⟩ pr sz λ c o n1 n2 n3 n4 q=>kp c o n1 n3 n4 q)
theorem endZip {z TI TO i1 i2 l1 l2:Addr} {i:Nat} {xs ys:Array Value} {Q:Option Value->Shared->Prop} (hh:A.handled=none) (ap:ZipApart z TI TO i1 i2 l1 l2) (S:ZipS s.heap z TI TO i1 i2 l1 l2 i) (hl1:s.heap.IsTuple l1 xs) (hl2:s.heap.IsTuple l2 ys) (hx:xs[i]? = none ∨ ys[i]? = none)
  (k:∀ h',(∀ c o,c ≠ z->c ≠ TO->c ≠ i1->c ≠ i2->s.heap.get? c=some o->h'.get? c=some o)->Q none { s with heap:=h' }) :
  wpAny (model prog w) A (pyNext (.ref z)) Q E s:=by
 obtain ⟨⟨f0,f1,hz,hf⟩,hti,⟨a,b,hto⟩,h1,h2⟩:=S
 have ty:s.TypeIs (.ref z) "zip":=⟨_,hz,rfl⟩
 unfold pyNext
 refine wpAny_bind (wpAny_attempt ?_)
 refine wpAny_callSpecial?_slot (name:=Str.ofString "__next__") ty F.slot_zip_next (wpAny_call_entry F.slot_zip_next ty F.entry_zip_next ?_ (F.args_zip_next_1 _))
 have stop:∀ (h':Heap) (e:Addr),(∀ c o,c ≠ z->c ≠ TO->c ≠ i1->c ≠ i2->s.heap.get? c=some o->h'.get? c=some o)->(∃ o,h'.get? e=some o/\o.cls=.type "StopIteration") ->
   wpAny (model prog w) A (isInstance (.ref e) (.type "StopIteration") >>= λ d=>if d=true then pure none else throw (.ref e)) Q E { s with heap:=h' }:=λ h' e kp he=>by
  obtain ⟨o,ho,hc⟩:=he
  refine wpAny_bind (wpAny_isInstance (T:="StopIteration") (b:=true) ⟨o,ho,hc⟩ rfl ?_)
  rw [if_pos rfl]
  exact wpAny_pure (k h' kp)
 rcases hf with rfl | ⟨T,rfl⟩
 ·exact ZLU hh ap hz (λ Q q=>ZHt hz Q q) hti hto h1 h2 hl1 hl2 hx stop
 ·cases hT:s.heap.get? T with
  | none=>exact ZLU hh ap hz (λ Q q=>ZHa hz hT Q q) hti hto h1 h2 hl1 hl2 hx stop
  | some o=>exact ZPZ hh ap hz hT hti h1 h2 hl1 hl2 hx stop
theorem letGoZip {tg:Expr} {z TI TO i1 i2 l1 l2 a:Addr} {i:Nat} {Q:Unit->Shared->Prop} (ap:ZipApart z TI TO i1 i2 l1 l2) (S:ZipS s.heap z TI TO i1 i2 l1 l2 i) (k:∀ h',ZipS h' z TI TO i1 i2 l1 l2 i->Heap.SameBut z s.heap h'->Q () { s with heap:=h' }) :
    wpAny (model prog w) A (letOwnedTupleGo tg (.ref z) (.ref a)) Q E s:=by
  have S':=S
  obtain ⟨⟨f0,f1,hz,hf⟩,hti,⟨b,c,hto⟩,h1,h2⟩:=S'
  have way:wpAny (model prog w) A (load z >>= λ o=>match o.cls,o.data with
        | Value.type n,Data.fields vs=>if (["enumerate","zip","dict_itemiterator","dict_reverseitemiterator","odict_iterator","itertools.zip_longest","itertools.pairwise"].contains n && vs[0]? == some (rawInt (a:Int)))=true then do
            rule "for.unpacks-the-owned-tuple"
            updateField z 0 Value.none
          else pure ()
        | _,_=>pure ()) Q E s:=by
    refine wpAny_bind (wpAny_load hz ?_)
    dsimp only
    split
    · refine wpAny_bind (wpAny_rule ?_)
      have sA:=Heap.SameBut.update (h:=s.heap) z (Obj.mapFields λ (x:Array Value)=>x.setIfInBounds 0 Value.none)
      have zA:ZBz (s.heap.update z (Obj.mapFields λ (x:Array Value)=>x.setIfInBounds 0 Value.none)) z TI TO .none f1:=Heap.get?_update_self _ hz rfl
      show wpAny _ _ (setField (.ref z) 0 Value.none) _ _ _
      refine wpAny_setField hz rfl (by simp) (k _ ⟨⟨_,_,zA,.inl rfl⟩,(sA.2 _ ap.TIz).trans hti,⟨b,c,(sA.2 _ ap.TOz).trans hto⟩,?_,?_⟩ sA)
      · obtain ⟨o,e,r⟩:=h1
        exact ⟨o,(sA.2 _ ap.i1z).trans e,r⟩
      · obtain ⟨o,e,r⟩:=h2
        exact ⟨o,(sA.2 _ ap.i2z).trans e,r⟩
    · exact wpAny_pure (k _ S (Heap.SameBut.refl ..))
  cases tg with
  | Tuple=>exact way
  | List=>exact way
  | _=>exact wpAny_pure (k _ S (Heap.SameBut.refl ..))
theorem apart_new (n a b:Nat) (ha:a < n) (hb:b < n):ZipApart (n+4) (n+2) (n+3) n (n+1) a b:=by
 constructor <;> (intro q; have q':(_:Nat)=_:=q; omega)
theorem iterZip {z TI TO:Addr} {f0 f1:Value} {Q:Value->Shared->Prop} (hz:ZBz s.heap z TI TO f0 f1) (q:Q (.ref z) s):wpAny (model prog w) A (pyIter (.ref z)) Q E s:=by
 have ty:s.TypeIs (.ref z) "zip":=⟨_,hz,rfl⟩
 refine wpAny_pyIter_slot ty F.slot_zip_iter (wpAny_call_entry F.slot_zip_iter ty F.entry_zip_iter ?_ (F.args_zip_iter_1 _))
 unfold Builtin.«dict_keyiterator.__iter__»
 refine wpAny_bind (m:=slotArgs "__iter__" 0 ⟨[.ref z],[]⟩) (wpAny_of_eq (a:=(Value.ref z,[])) (by rfl) ?_)
 exact wpAny_pure ⟨_,rfl,"zip",_,ty,F.slot_zip_next.lookup,q⟩
abbrev zT1 (h:Heap) (l1:Addr):Heap:=h.push { cls:=.type "tuple_iterator",data:=.fields #[.ref l1,.int 0 0] }
abbrev zT2 (h:Heap) (l1 l2:Addr):Heap:=(zT1 h l1).push { cls:=.type "tuple_iterator",data:=.fields #[.ref l2,.int 0 0] }
abbrev zT3 (h:Heap) (l1 l2:Addr):Heap:=(zT2 h l1 l2).push { cls:=.type "tuple",data:=.seq #[.ref h.objs.size,.ref (zT1 h l1).objs.size] }
abbrev zT4 (h:Heap) (l1 l2:Addr):Heap:=(zT3 h l1 l2).push { cls:=.type "tuple",data:=.seq #[.none,.none] }
abbrev zT5 (h:Heap) (l1 l2:Addr):Heap:=(zT4 h l1 l2).push { cls:=.type "zip",data:=.fields #[.none,.bool false,.bool false,.ref (zT2 h l1 l2).objs.size,.ref (zT3 h l1 l2).objs.size] }
theorem ZOq (l1 l2:Addr) (xs ys:Array Value) :
  Meets (Builtin.«zip.__new__» ⟨[.type "zip",.ref l1,.ref l2],[]⟩) (λ _ R s=>s.heap.IsTuple l1 xs/\s.heap.IsTuple l2 ys/\R (.ok (.ret (.ref (zT4 s.heap l1 l2).objs.size))) { s with heap:=zT5 s.heap l1 l2 }) :=
 .of_wp λ prog w A R s h=>by
  obtain ⟨hp,g,d,tk,os⟩:=s
  obtain ⟨hl1,hl2,h⟩:=h
  have hsub:=sub_zip
  have hT2:Heap.IsTuple (zT1 hp l1) l2 ys:=let ⟨o,e,r⟩:=hl2; ⟨o,Heap.get?_push_of_some _ e,r⟩
  wp_walk using wpAny_pyIter_tuple hl1,wpAny_pyIter_tuple (s:=⟨zT1 hp l1,g,d,tk,os⟩) hT2
  exact ⟨_,rfl,h⟩
theorem callZipT {l1 l2:Addr} {xs ys:Array Value} {Q:Value->Shared->Prop} (hL1:s.heap.IsTuple l1 xs) (hL2:s.heap.IsTuple l2 ys)
  (k:∀ h',ZipS h' (s.heap.objs.size+4) (s.heap.objs.size+2) (s.heap.objs.size+3) s.heap.objs.size (s.heap.objs.size+1) l1 l2 0->h'.objs.size=s.heap.objs.size+5->(∀ c o,s.heap.get? c=some o->h'.get? c=some o)->Q (.ref (s.heap.objs.size+4)) { s with heap:=h' }) :
  wpAny (model prog w) A (call (.type "zip") [.ref l1,.ref l2]) Q E s:=by
 refine callType_new F.called_zip (by decide) (F.typeCall_zip_2 _ _) (F.newCall_zip_2 _ _) (λ obj=>F.args_object_init_3 obj _ _) F.entry_zip_new (ZOq l1 l2 xs ys) ⟨hL1,hL2,?_⟩
 have z1:(zT1 s.heap l1).objs.size=s.heap.objs.size+1:=Heap.size_push ..
 have z2:(zT2 s.heap l1 l2).objs.size=s.heap.objs.size+2:=by rw [Heap.size_push,z1]
 have z3:(zT3 s.heap l1 l2).objs.size=s.heap.objs.size+3:=by rw [Heap.size_push,z2]
 have z4:(zT4 s.heap l1 l2).objs.size=s.heap.objs.size+4:=by rw [Heap.size_push,z3]
 have e1:(zT1 s.heap l1).get? s.heap.objs.size=some { cls:=.type "tuple_iterator",data:=.fields #[.ref l1,.int 0 0] }:=Heap.get?_push_size _ rfl
 have e2:(zT2 s.heap l1 l2).get? (s.heap.objs.size+1)=some { cls:=.type "tuple_iterator",data:=.fields #[.ref l2,.int 0 0] }:=by rw [← z1]; exact Heap.get?_push_size _ rfl
 have e3:(zT3 s.heap l1 l2).get? (s.heap.objs.size+2)=some { cls:=.type "tuple",data:=.seq #[.ref s.heap.objs.size,.ref (zT1 s.heap l1).objs.size] }:=by rw [← z2]; exact Heap.get?_push_size _ rfl
 have e4:(zT4 s.heap l1 l2).get? (s.heap.objs.size+3)=some { cls:=.type "tuple",data:=.seq #[.none,.none] }:=by rw [← z3]; exact Heap.get?_push_size _ rfl
 have e5:(zT5 s.heap l1 l2).get? (s.heap.objs.size+4)=some { cls:=.type "zip",data:=.fields #[.none,.bool false,.bool false,.ref (zT2 s.heap l1 l2).objs.size,.ref (zT3 s.heap l1 l2).objs.size] }:=by rw [← z4]; exact Heap.get?_push_size _ rfl
 rw [z2,z3] at e5
 rw [z1] at e3
 have up:∀ {h:Heap} {o u:Obj} {c:Addr},h.get? c=some u->(h.push o).get? c=some u:=λ q=>Heap.get?_push_of_some _ q
 show _/\_
 rw [z4]
 refine ⟨⟨_,e5,rfl⟩,k _ ⟨⟨_,_,e5,.inl rfl⟩,up (up e3),⟨_,_,up e4⟩,⟨_,up (up (up (up e1))),rfl,rfl⟩,⟨_,up (up (up e2)),rfl,rfl⟩⟩ (by rw [Heap.size_push,z4]) λ c o q=>up (up (up (up (up q))))⟩
end
end HI
namespace L2
open PySem PySem.Spec PyProof.Rows
def Itz (K:PySem.W.Frag) (a b:Addr):It :=
 ⟨λ i H=>∃ xs ys x y,SqT K H a xs/\SqT K H b ys/\xs[i]? = some x/\ys[i]? = some y,λ i H v H'=>∃ p x y,v=.ref p/\H p=none/\H'=upd H p (.tup [x,y])/\∀ xs ys,SqT K H a xs->SqT K H b ys->xs[i]? = some x/\ys[i]? = some y,
  λ i H=>∃ xs ys,SqT K H a xs/\SqT K H b ys/\(xs.length<=i ∨ ys.length<=i)⟩
theorem ZNW {P:Program} {w:World} {K:PySem.W.Frag} {tg:Expr} (a b z TI TO i1 i2:Addr) (ap:ZipApart z TI TO i1 i2 a b) :
  Turn P w K tg (Itz K a b) [z,TI,TO,i1,i2] z (λ i h=>HI.ZipS h z TI TO i1 i2 a b i) where
 mem:=by simp
 obj:=λ i h st c hc=>by
  obtain ⟨⟨f0,f1,hz,_⟩,hti,⟨u,v,hto⟩,⟨o1,e1,c1,d1⟩,⟨o2,e2,c2,d2⟩⟩:=st
  simp only [List.mem_cons,List.not_mem_nil,or_false] at hc
  rcases hc with rfl | rfl | rfl | rfl | rfl
  ·exact ⟨_,hz,λ v q=>by cases q⟩
  ·exact ⟨_,hti,λ v q=>by cases q⟩
  ·exact ⟨_,hto,λ v q=>by cases q⟩
  ·exact ⟨_,e1,λ v q=>by rw [d1] at q; cases q⟩
  ·exact ⟨_,e2,λ v q=>by rw [d2] at q; cases q⟩
 keep:=λ i h h' st kk=>by
  obtain ⟨⟨f0,f1,hz,hf⟩,hti,⟨u,v,hto⟩,⟨o1,e1,r1⟩,⟨o2,e2,r2⟩⟩:=st
  exact ⟨⟨f0,f1,kk z (by simp) _ hz,hf⟩,kk TI (by simp) _ hti,⟨u,v,kk TO (by simp) _ hto⟩,⟨o1,kk i1 (by simp) _ e1,r1⟩,⟨o2,kk i2 (by simp) _ e2,r2⟩⟩
 item:=by
  intro X hP hw hK hc i pins s σ H E I hf st hg
  subst hP hw hK
  obtain ⟨xs,ys,x,y,hq,hq2,hx,hy⟩:=hg
  obtain ⟨its,rv,p,hz⟩:=I.tuple hq
  obtain ⟨its2,rv2,p2,hz2⟩:=I.tuple hq2
  obtain ⟨u,hu,ru⟩:=rv.get hx
  obtain ⟨u2,hu2,ru2⟩:=rv2.get hy
  refine HI.nextZip (xs:=its.toArray) (ys:=its2.toArray) ap st p p2 (by simpa using hu) (by simpa using hu2) λ h' S' pr sz kp=>?_
  refine ⟨_,rfl,HI.letGoZip ap S' λ h2 S2 sb=>?_⟩
  have nT:H s.heap.objs.size=none:=I.hok.fresh (Nat.le_refl _)
  have zlt:z < s.heap.objs.size:=by obtain ⟨⟨f0,f1,q,_⟩,_⟩:=st; exact Heap.lt_size q
  have kk:∀ c o,c ∉ [z,TI,TO,i1,i2]->s.heap.get? c=some o->h2.get? c=some o:=λ c o hn q=>by
   simp only [List.mem_cons,List.not_mem_nil,or_false,not_or] at hn
   exact (sb.2 c hn.1).trans (kp c o hn.1 hn.2.2.1 hn.2.2.2.1 hn.2.2.2.2 q)
  have nit:∀ c v,H c=some v->c ∉ [z,TI,TO,i1,i2]:=λ c v q hm=>by
   have:=(hf c hm).1
   rw [this] at q
   cases q
  have hT2:h2.get? s.heap.objs.size=some { cls:=.type "tuple",data:=.seq #[u,u2] }:=(sb.2 _ (Nat.ne_of_gt zlt)).trans pr
  have ne1:∀ c v,H c=some v->c ≠ s.heap.objs.size:=λ c v q=>Zl q nT
  have hok:HOk X.prog X.w (upd H s.heap.objs.size (.tup [x,y])) h2:=λ c ob q=>by
   by_cases hb:c=s.heap.objs.size
   ·subst hb
    rw [Zt] at q
    cases q
    exact ⟨by show 2<=sizeLine; decide,[u,u2],.cons ru (.cons ru2 .nil),⟨_,hT2,rfl,_,rfl⟩⟩
   ·rw [Zb hb] at q
    refine (I.hok c ob q).stay (λ d v hd r=>?_) (λ d r=>by rw [Zb (ne1 _ _ r)]; exact r) λ d ys r=>by rw [Zb (ne1 _ _ r)]; exact r
    have nc:d ∉ [z,TI,TO,i1,i2]:=by
     rcases hd with e | e
     ·rw [e]; exact nit c ob q
     ·exact nit d _ e
    exact kk d v nc r
  have I2:Inv X pins σ (upd H s.heap.objs.size (.tup [x,y])) { s with heap:=h2 }:=by
   refine I.step (g':=s.gens) (d':=s.drawn) (t':=s.toks) (ch:=[z,TI,TO,i1,i2]) (λ c hc'=>?_) (λ c o _ _ hc' q _=>kk c o hc' q) (λ c o _ _ hc' q _=>⟨o.slots,kk c o hc' q⟩)
    (λ c o _ q n=>by rw [Zb (Nat.ne_of_lt (Heap.lt_size q))]; exact n) (λ c o hc' q=>⟨o,kk c o hc' q⟩) (λ c ys q=>by rw [Zb (ne1 _ _ q)]; exact q) (λ c o u q=>by rw [Zb (ne1 _ _ q)]; exact q)
    (λ c ps q=>⟨#[],by rw [Zb (ne1 _ _ q),q]; simp⟩) (λ m hm=>?_) hok I.bare
   ·obtain ⟨f0,f1,f2,f3,f4,f5⟩:=hf c hc'
    exact ⟨f3,f1,f4,f5⟩
   ·obtain ⟨o,es',ep,ho',r⟩:=hm
    refine ⟨o,es',ep,kk _ o (λ hm'=>?_) ho',r⟩
    exact (hf _ hm').2.1 rfl
  refine ⟨.ref s.heap.objs.size,_,I2,rfl,⟨_,x,y,rfl,nT,rfl,λ zs ws hz' hw'=>by rw [I.tuple_inj hz' hq,I.tuple_inj hw' hq2]; exact ⟨hx,hy⟩⟩,S2,λ c hc'=>?_⟩
  have h0:=(hf c hc').1
  have hlt:c < s.heap.objs.size:=by
   obtain ⟨⟨f0,f1,q,_⟩,hti,⟨_,_,hto⟩,⟨o1,e1,_⟩,⟨o2,e2,_⟩⟩:=st
   simp only [List.mem_cons,List.not_mem_nil,or_false] at hc'
   rcases hc' with rfl | rfl | rfl | rfl | rfl
   ·exact Heap.lt_size q
   ·exact Heap.lt_size hti
   ·exact Heap.lt_size hto
   ·exact Heap.lt_size e1
   ·exact Heap.lt_size e2
  rw [Zb (Nat.ne_of_lt hlt)]
  exact h0
 done:=by
  intro X hP hw hK hc i pins s σ H E I hf st hg
  subst hP hw hK
  obtain ⟨xs,ys,hq,hq2,hx⟩:=hg
  obtain ⟨its,rv,p,hz⟩:=I.tuple hq
  obtain ⟨its2,rv2,p2,hz2⟩:=I.tuple hq2
  have l1:=rv.length
  have l2:=rv2.length
  refine HI.endZip (xs:=its.toArray) (ys:=its2.toArray) (I.ok.hd hc) ap st p p2 (by
   rcases hx with q | q
   ·exact .inl (by simp; omega)
   ·exact .inr (by simp; omega)) λ h' kp=>⟨rfl,?_⟩
  refine I.step (g':=s.gens) (d':=s.drawn) (t':=s.toks) (ch:=[z,TI,TO,i1,i2]) (H':=H) (λ c hc'=>?_) (λ c o _ _ hc' q _=>?_) (λ c o _ _ hc' q _=>?_) (λ c o _ q n=>n) (λ c o hc' q=>?_) (λ c ys q=>q) (λ c o u q=>q) (λ c ps q=>⟨#[],by rw [q]; simp⟩) (λ m hm=>?_) (λ c ob q=>?_) I.bare
  ·obtain ⟨f0,f1,f2,f3,f4,f5⟩:=hf c hc'
   exact ⟨f3,f1,f4,f5⟩
  ·simp only [List.mem_cons,List.not_mem_nil,or_false,not_or] at hc'
   exact kp c o hc'.1 hc'.2.2.1 hc'.2.2.2.1 hc'.2.2.2.2 q
  ·simp only [List.mem_cons,List.not_mem_nil,or_false,not_or] at hc'
   exact ⟨o.slots,kp c o hc'.1 hc'.2.2.1 hc'.2.2.2.1 hc'.2.2.2.2 q⟩
  ·simp only [List.mem_cons,List.not_mem_nil,or_false,not_or] at hc'
   exact ⟨o,kp c o hc'.1 hc'.2.2.1 hc'.2.2.2.1 hc'.2.2.2.2 q⟩
  ·obtain ⟨o,es',ep,ho',r⟩:=hm
   have nl:∀ c ∈ [z,TI,TO,i1,i2],X.env.locals ≠ c:=λ c hc' e=>(hf c hc').2.1 e.symm
   exact ⟨o,es',ep,kp _ o (nl z (by simp)) (nl TO (by simp)) (nl i1 (by simp)) (nl i2 (by simp)) ho',r⟩
  ·refine (I.hok c ob q).stay (λ d v hd r=>?_) (λ d r=>r) λ d ys r=>r
   have nd:∀ e,H d=some e->∀ c ∈ [z,TI,TO,i1,i2],d ≠ c:=λ e q' c hc' e'=>by
    have:=(hf c hc').1
    rw [← e',q'] at this
    cases this
   have hd':∃ e,H d=some e:=by
    rcases hd with e | e
    ·rw [e]; exact ⟨_,q⟩
    ·exact ⟨_,e⟩
   obtain ⟨e,he⟩:=hd'
   exact kp d v (nd e he z (by simp)) (nd e he TO (by simp)) (nd e he i1 (by simp)) (nd e he i2 (by simp)) r
 self:=λ _ _ _ _ _ st h=>by
  obtain ⟨⟨f0,f1,hz,_⟩,_⟩:=st
  exact HI.iterZip hz h
section
variable {X:Cx}
def iZip (K:PySem.W.Frag) (ta:TA):TI:=λ σ H R=>ta σ H λ vs H1=>∃ a b,vs=[.ref a,.ref b]/\(∃ xs ys,SqT K H1 a xs/\SqT K H1 b ys)/\R (Itz K a b) H1
theorem ZSC {tg a b:Expr} {ta:TA} {p pos:Pos} (hg:Gl X "zip") (hm:X.mg "zip" = none) (ha:PA X [a,b] ta) (hs:starEach [a,b] X.env=[(false,eval a X.env),(false,eval b X.env)]:=by rfl) (hs2:starEach [b] X.env=[(false,eval b X.env)]:=by rfl) :
  PI X tg (.Call (.Name "zip" p) [a,b] [] pos) (iZip X.K ta):=by
 intro pins s σ H R I h
 refine Call_ (ZEf I hg hm boot_zip (PyProof.Rows.callWith_type1 (thn (ha pos pins s σ H _ I h) λ us s1 ⟨vs,H1,I1,r1,q1⟩=>?_) (by rw [hs,hs2]) (by rw [hs2]; rfl)))
 obtain ⟨l1,l2,e,⟨xs,ys,hq1,hq2⟩,q⟩:=q1
 subst e
 cases r1 with
 | cons r rr =>
  cases rr with
  | cons r' rr =>
   cases rr
   cases r
   cases r'
   obtain ⟨its,rv,pt,hz⟩:=I1.tuple hq1
   obtain ⟨its2,rv2,pt2,hz2⟩:=I1.tuple hq2
   have lt1:l1 < s1.heap.objs.size:=by obtain ⟨o,e,_⟩:=pt; exact Heap.lt_size e
   have lt2:l2 < s1.heap.objs.size:=by obtain ⟨o,e,_⟩:=pt2; exact Heap.lt_size e
   refine HI.callZipT (show s1.heap.IsTuple l1 its.toArray from pt) (show s1.heap.IsTuple l2 its2.toArray from pt2) λ h' S' hsz hk=>?_
   have I2:Inv X pins σ H1 { s1 with heap:=h' }:=I1.kept (t':=s1.toks) hk
   obtain ⟨f0,f1,zo,hf⟩:=S'.zo
   have ap:ZipApart (s1.heap.objs.size+4) (s1.heap.objs.size+2) (s1.heap.objs.size+3) s1.heap.objs.size (s1.heap.objs.size+1) l1 l2:=HI.apart_new _ _ _ lt1 lt2
   refine HI.iterZip zo ⟨s1.heap.objs.size+4,[s1.heap.objs.size+4,s1.heap.objs.size+2,s1.heap.objs.size+3,s1.heap.objs.size,s1.heap.objs.size+1],_,_,H1,rfl,I2,ZNW l1 l2 _ _ _ _ _ ap,S',λ b hb=>?_,q⟩
   have hb':s1.heap.objs.size<=b:=by
    simp only [List.mem_cons,List.not_mem_nil,or_false] at hb
    rcases hb with rfl | rfl | rfl | rfl | rfl
    ·exact Nat.le_add_right _ _
    ·exact Nat.le_add_right _ _
    ·exact Nat.le_add_right _ _
    ·exact Nat.le_refl _
    ·exact Nat.le_add_right _ _
   exact I1.fpOk hb' (I1.hok.fresh hb')
end
end L2
namespace HI
open PySem PyProof.Rows
section
variable {prog:Program} {w:World} {A:Around} {E:Value->Shared->Prop} {s:Shared} {R:Result->Shared->Prop}
end
end HI
namespace L2
open PySem PySem.Spec PyProof.Rows
section
variable {X:Cx}
end
end L2
namespace L2
open PySem PySem.Spec PyProof.Rows
section
variable {X:Cx} {pos:Pos}
def ZQB (i j l:Nat) (ta:TA):TS:=λ D σ H=>ta σ H λ vs H1=>∃ v w z,vs=[v,w,z]/\D.nx (((σ.set l (some z)).set j (some w)).set i (some v)) H1
theorem ZO5 {i j l:Nat} {x y z:Str} {a b c:Expr} {ta:TA} {px py pz pt:Pos} {kt k2 pt2} (hc:X.calm=true) (hN:X.N.Nodup) (hi:X.N[i]? = some x) (hj:X.N[j]? = some y) (hl:X.N[l]? = some z)
  (hx:X.env.scope.names.lookup x=some .local) (hy:X.env.scope.names.lookup y=some .local) (hz:X.env.scope.names.lookup z=some .local) (ha:PA X [a,b,c] ta)
  (hw:swappedStores [.Tuple [.Name x px,.Name y py,.Name z pz] kt pt] (.Tuple [a,b,c] k2 pt2) X.env=pure (some [x,y,z]):=by rfl)
  (hs:swapsWithSole [.Tuple [.Name x px,.Name y py,.Name z pz] kt pt] (.Tuple [a,b,c] k2 pt2) pos.line X.env=pure false:=by rfl) :
  PS X (.Assign [.Tuple [.Name x px,.Name y py,.Name z pz] kt pt] (.Tuple [a,b,c] k2 pt2) pos) (ZQB i j l ta):=by
 intro pins s σ H D I h
 rw [exec_Assign_arm]
 refine wpAny_bind (wpAny_standAt ?_)
 rw [hs]
 refine wpAny_bind (wpAny_pure ?_)
 rw [if_neg (by decide)]
 refine wpAny_bind (Tuple_ (thn (ha _ pins s σ H _ I h) λ us s1 ⟨vs,H1,I1,r1,q1⟩=>?_))
 obtain ⟨v,w,v3,e1,q1⟩:=q1
 subst e1
 obtain ⟨u1,u2,u3,rfl,rv,rw',rz⟩:∃ u1 u2 u3,us=[u1,u2,u3]/\Z9 v u1/\Z9 w u2/\Z9 v3 u3:=by
  cases r1 with
  | cons p q =>
   cases q with
   | cons p' q' =>
    cases q' with
    | cons p2 q2 =>
     cases q2
     exact ⟨_,_,_,rfl,p,p',p2⟩
 refine wpAny_newObj_type ?_ (by show 3<=sizeLine; decide)
 have I2:Inv X pins σ H1 { s1 with heap:=s1.heap.push { cls:=.type "tuple",data:=.seq [u1,u2,u3].toArray } }:=I1.kept (t':=s1.toks) λ b o e=>Heap.get?_push_of_some _ e
 rw [hw]
 refine wpAny_bind (wpAny_pure ?_)
 show wpAny (model X.prog X.w) X.A (do rule "assign.swapped-stores"; let items ← unpackItems (.ref s1.heap.objs.size) 3 none; assignInOrder [λ v=>bindName X.env z v,λ v=>bindName X.env y v,λ v=>bindName X.env x v] items.reverse; pure Flow.next) _ _ _
 refine wpAny_bind (wpAny_rule (wpAny_bind (unpackItems_tuple (items:=#[u1,u2,u3]) (I.ok.hd hc) (IsTup.new s1.heap _) λ h' hx'=>?_)))
 have I3:=I2.kept (h':=h') (t':=s1.toks) λ b o e=>hx' b o (Nat.ne_of_lt (Heap.lt_size e)) e
 show wpAny _ _ (assignInOrder [λ v=>bindName X.env z v,λ v=>bindName X.env y v,λ v=>bindName X.env x v] [u3,u2,u1] >>= λ _=>pure Flow.next) _ _ _
 refine wpAny_bind (assignInOrder_cons (wpAny_bindName (ZB9 I3 hN hl (.inl hz) rz (λ s2 I4=>?_) (.inr hz))))
 refine assignInOrder_cons (wpAny_bindName (ZB9 I4 hN hj (.inl hy) rw' (λ s3 I5=>?_) (.inr hy)))
 refine assignInOrder_cons (wpAny_bindName (ZB9 I5 hN hi (.inl hx) rv (λ s4 I6=>assignInOrder_nil (wpAny_pure ?_)) (.inr hx)))
 exact ⟨_,H1,I6,q1⟩
end
end L2
namespace HT
open PySem PyProof.Rows
section
variable {prog:Program} {w:World} {A:Around} {E:Value->Shared->Prop} {s:Shared}
theorem getItem_tuple_whole {t sl:Addr} {items:Array Value} {vl vu:Value} {lo hi:Option Int} {Q:Value->Shared->Prop} (ht:IsTup s.heap t items) (hs:s.heap.IsSliceOf sl vl vu .none) (pl:IsPart vl lo) (pu:IsPart vu hi)
  (hw:sIx items.size 0 lo=0/\sIx items.size items.size hi=items.size) (h:Q (.ref t) s):wpAny (model prog w) A (getItem (.ref t) (.ref sl)) Q E s:=by
 obtain ⟨os,hos,hcs,hds⟩:=id hs
 have hTs:s.TypeIs (.ref sl) "slice":=⟨os,hos,hcs⟩
 unfold getItem
 try with_reducible refine wpAny_holding ?_
 first | refine wpAny_bind (wpAny_pure ?_) | skip
 refine wpAny_bind (wpAny_sequenceKey ht.typeIs (by decide) ?_)
 refine wpAny_bind (wpAny_callSpecial?_slot (name:=Str.ofString "__getitem__") ht.typeIs PyProof.Rows.slot_tuple_getitem
  (wpAny_call_entry PyProof.Rows.slot_tuple_getitem ht.typeIs entry_tuple_getitem ?_ (args_tuple_getitem _ _)))
 show wpAny _ _ (Builtin.Tuple.tupleItemsOf (.ref t) >>= _) _ _ s
 refine wpAny_bind (tupleItemsOf_ ht ?_)
 refine wpAny_bind (wpAny_typeOf hTs ?_)
 rw [if_pos (by decide)]
 refine wpAny_bind (ZDA hs pl pu ?_)
 show wpAny _ _ (if (((sIx items.size 0 lo:Nat):Int) == 0 && (1:Int) == 1 && (sIx items.size items.size hi - sIx items.size 0 lo) == items.size)=true then _ else _) _ _ s
 have hyes:(((sIx items.size 0 lo:Nat):Int) == 0 && (1:Int) == 1 && (sIx items.size items.size hi - sIx items.size 0 lo) == items.size)=true:=by
  rw [hw.1,hw.2]
  simp
 rw [if_pos hyes]
 unfold Builtin.Tuple.tupleIsExact
 refine wpAny_bind (wpAny_bind (wpAny_typeOf ht.typeIs (wpAny_pure ?_)))
 rw [if_pos (by rfl)]
 exact wpAny_bind (wpAny_rule (wpAny_pure ⟨_,rfl,wpAny_pure h⟩))
end
end HT
namespace L2
open PySem PySem.Spec PyProof.Rows
section
variable {X:Cx}
theorem ZP5:SlR X (λ x lo hi H Q=>∃ a xs,x=.ref a/\SqT X.K H a xs/\((HT.sIx xs.length 0 lo=0/\HT.sIx xs.length xs.length hi=xs.length)->Q (.ref a) H) /\
  (¬ (HT.sIx xs.length 0 lo=0/\HT.sIx xs.length xs.length hi=xs.length)->∀ p,H p=none->Q (.ref p) (upd H p (.tup (ZIf xs lo hi))))):=by
 intro pins s σ H x v vl vu lo hi sl Q I rx hs pl pu h
 obtain ⟨a,xs,rfl,hx,q1,q2⟩:=h
 by_cases hw:HT.sIx xs.length 0 lo=0/\HT.sIx xs.length xs.length hi=xs.length
 ·cases rx
  obtain ⟨its,r,ht,hz⟩:=I.tuple hx
  have hlen:its.toArray.size=xs.length:=by rw [List.size_toArray]; exact r.length.symm
  refine ⟨"tuple",_,PyProof.Rows.slot_tuple_getitem.lookup,ht.typeIs,?_⟩
  exact HT.getItem_tuple_whole ht hs pl pu (by rw [hlen]; exact hw) ⟨.ref a,H,I,rfl,q1 hw⟩
 ·exact ZRq pins s σ H (.ref a) v vl vu lo hi sl Q I rx hs pl pu ⟨a,xs,rfl,hx,hw,q2 hw⟩
end
end L2
namespace L2
open PySem PySem.Spec PyProof.Rows
section
variable {X:Cx} {e m:Expr} {te tm:TE} {pos p2:Pos}
end
end L2
namespace L2
open PySem PySem.Spec PyProof.Rows H1
end L2
namespace HT
open PySem PyProof.Rows
section
variable {prog:Program} {w:World} {A:Around} {E:Value->Shared->Prop} {s:Shared}
end
end HT
namespace L2
open PySem PySem.Spec PyProof.Rows
def ZNH (a:Addr):HO:=.ext λ h=>∃ o,h.get? a=some o/\o.cls=.type "dict"
inductive Kd (K:PySem.W.Frag) (H:Hp):V->String->Prop
 | non:Kd K H .non "NoneType"
 | bl (b:Bool):Kd K H (.bl b) "bool"
 | int (i:Int):Kd K H (.int i) "int"
 | str (x:Str):Kd K H (.str x) "str"
 | lst {a:Addr} {xs:List V}:H a=some (.lst xs)->Kd K H (.ref a) "list"
 | tup {a:Addr} {xs:List V}:SqT K H a xs->Kd K H (.ref a) "tuple"
 | dct {a:Addr}:H a=some (ZNH a)->Kd K H (.ref a) "dict"
def isi (k T:String):Bool:=decide (k=T) || (decide (k = "bool") && decide (T = "int"))
section
variable {X:Cx} {pos p2:Pos}
theorem ZME:ZAG X (.builtin "isinstance") (λ xs H Q=>∃ (x:V) (T k:String),xs=[x,.ty T]/\Kd X.K H x k/\(T = "int" ∨ T = "bool" ∨ T = "tuple" ∨ T = "str")/\Q (.bl (isi k T)) H):=by
 intro pins s σ H xs us Q I r h
 obtain ⟨x,T,k,rfl,kd,hT,q⟩:=h
 obtain ⟨u,w',rfl,ru,rw'⟩:=ZQQ r
 cases rw'
 have fin:∀ (t:Value),PySem.W.kitOne X.K t (.type T)=some (isi k T)->∀ {HH:Heap->Prop},PySem.W.KitX X.K u t HH->HH s.heap->(u ≠ Value.builtin "__main__.__loader__#opaque")->wpAny (model X.prog X.w) X.A (call (.builtin "isinstance") [u,.type T]) (EP X pins σ Q) X.xe s:=λ t e _ kx hh hu =>
  PySem.W.kia_one kx I.kIn hh e hu λ tk=>⟨.bl _,H,I.tok tk,rfl,q⟩
 cases kd with
 | non=>cases ru; exact fin (.type "NoneType") (by rcases hT with rfl | rfl | rfl | rfl <;> rfl) PySem.W.kitx_none True.intro (λ z=>nomatch z)
 | bl y=>cases ru; exact fin (.type "bool") (by rcases hT with rfl | rfl | rfl | rfl <;> rfl) PySem.W.kitx_bool True.intro (λ z=>nomatch z)
 | int i=>obtain ⟨t,rfl⟩:=ru; exact fin (.type "int") (by rcases hT with rfl | rfl | rfl | rfl <;> rfl) PySem.W.kitx_int True.intro (λ z=>nomatch z)
 | str y=>obtain ⟨t,rfl⟩:=ru; exact fin (.type "str") (by rcases hT with rfl | rfl | rfl | rfl <;> rfl) PySem.W.kitx_str True.intro (λ z=>nomatch z)
 | @lst a xs ea =>
  cases ru
  obtain ⟨_,_,n,_,h1⟩:=(show ZB7 X.prog X.w H s.heap a (.lst xs) from I.hok a _ ea)
  exact fin (.type "list") (by rcases hT with rfl | rfl | rfl | rfl <;> rfl) PySem.W.kitx_list ⟨_,h1,rfl⟩ (λ z=>nomatch z)
 | @tup a xs ea =>
  cases ru
  obtain ⟨_,_,⟨o,h1,h2,_⟩,_⟩:=I.tuple ea
  exact fin (.type "tuple") (by rcases hT with rfl | rfl | rfl | rfl <;> rfl) PySem.W.kitx_tuple ⟨o,h1,h2⟩ (λ z=>nomatch z)
 | @dct a ea =>
  cases ru
  obtain ⟨⟨o,h1,h2⟩,_⟩:=(show ZB7 X.prog X.w H s.heap a (ZNH a) from I.hok a _ ea)
  exact fin (.type "dict") (by rcases hT with rfl | rfl | rfl | rfl <;> rfl) PySem.W.kitx_dict ⟨o,h1,h2⟩ (λ z=>nomatch z)
def ZKS (mg:Str->Option Value) (x:Str) (n:Int):Prop:=∃ t,mg x=some (.int n t)
theorem ZNB {x:Str} {n:Int} (hg:Gl X x) (h:ZKS X.mg x n) (hd:(x == ("__debug__" : Str))=false:=by decide):PE X (.Name x pos) (tC (.int n)):=by
 obtain ⟨t,e⟩:=h
 exact ZPJ hg e ⟨t,rfl⟩ hd
end
end L2
namespace L2
open PySem PySem.Spec PyProof.Rows H1
end L2
namespace L2
open PySem PySem.Spec PyProof.Rows
section
variable {X:Cx} {es:List Expr} {te:TE} {t:TA}
end
end L2
namespace HT
open PySem PyProof.Rows
open Builtin
section
variable {prog:Program} {w:World} {A:Around} {E:Value->Shared->Prop} {s:Shared}
theorem cat_tupA {t b:Addr} {vs ws:List Value} {Q:Value->Shared->Prop} (ht:IsTup s.heap t vs.toArray) (hb:IsTup s.heap b ws.toArray)
  (h0:vs=[]->Q (.ref b) s) (h1:vs ≠ []->ws=[]->Q (.ref t) s) (h2:vs ≠ []->ws ≠ []->Q (.ref s.heap.objs.size) { s with heap:=s.heap.push { cls:=.type "tuple",data:=.seq (vs ++ ws).toArray } })
  (hsz:vs.length+ws.length<=sizeLine):wpAny (model prog w) A (binaryOp .Add (.ref t) (.ref b)) Q E s:=by
 by_cases hv:vs=[]
 ·obtain ⟨⟨cls,dd,data,sl⟩,ho,hc,n,hd⟩:=id ht
  obtain ⟨⟨cls2,dd2,data2,sl2⟩,ho2,hc2,n2,hd2⟩:=id hb
  simp only at hc hd hc2 hd2
  subst hc hd hc2 hd2
  exact concat_meets ⟨_,ho,rfl⟩ ⟨_,ho2,rfl⟩ noFill_tuple_add seq_tuple_add PySem.F.slot_tuple_add PySem.F.entry_tuple_add (PySem.F.args_tuple_add_2 _ _)
   (tuple_addW0 t b vs.toArray ws.toArray n n2 dd dd2 sl sl2 (by simp [hv])) ⟨ho,ho2,h0 hv⟩
 ·exact ZPd ht hb hv (h1 hv) (h2 hv) hsz
theorem noFill_tuple_mul:fillsNumberSlot (.type "tuple") "mul" = pure false :=
 PySem.fillsNumberSlot_seq (id:="tuple.__mul__") (r:=some (.builtin "tuple.__rmul__")) F.slot_tuple_mul.lookup (by decide +kernel) F.slot_tuple_rmul.lookup (by decide +kernel)
theorem repeat_tuple:seqRepeat? (.type "tuple")=pure (some (.builtin "tuple.__mul__")):=by
 unfold seqRepeat?
 rw [PySem.seqSlot_of (T:="tuple") (name:="__mul__") (id:="tuple.__mul__") F.slot_tuple_mul.lookup (by decide +kernel),PySem.seqSlot_of (T:="tuple") (name:="__rmul__") (id:="tuple.__rmul__") F.slot_tuple_rmul.lookup (by decide +kernel)]
 rfl
theorem rmul_tup (a:Int) (t:Tok) (l:Addr) (items:Array Value) (n:Nat) (dd:Option Addr) (sl:Array (Option Value)) :
  Meets (Builtin.«int.__rmul__» ⟨[.int a t,.ref l],[]⟩) (λ _ R s=>s.heap.get? l=some { cls:=.type "tuple",dict:=dd,data:=.seq items n,slots:=sl }/\R (.ok (.ret Value.notImplemented)) s) :=
 .of_wp λ prog w A R s h=>by obtain ⟨hp,g,d,tk,os⟩:=s; obtain ⟨hl,h⟩:=h; wp_walk; exact ⟨_,rfl,h⟩
theorem tuple_mulW (l:Addr) (items:Array Value) (n:Nat) (dd:Option Addr) (sl:Array (Option Value)) (k:Int) (t:Tok) (hc0 : ¬ (decide (k < -(2 ^ 63)) || decide (k ≥ 2 ^ 63))=true) (hc1 : ¬ (items.isEmpty || k == 1)=true) (hc2 : ¬ (decide (k<=0) || items.isEmpty)=true)
  (hc3 : ¬ ((items.size:Int) * k > (2 ^ 63 - 1) / 8)) (hc4 : ¬ Builtin.Tuple.tupleTooMany ((items.size:Int) * k)=true) (hsz:((List.replicate k.toNat items).foldl (· ++ ·) #[]).size<=sizeLine) :
  Meets (Builtin.«tuple.__mul__» ⟨[.ref l,.int k t],[]⟩) (λ _ R s=>s.heap.get? l=some { cls:=.type "tuple",dict:=dd,data:=.seq items n,slots:=sl }/\R (.ok (.ret (Value.ref s.heap.objs.size))) { s with heap:=s.heap.push { cls:=Value.type "tuple",data:=Data.seq ((List.replicate k.toNat items).foldl (· ++ ·) #[]) },toks:=s.toks }) :=
 .of_wp λ prog w A R s h=>by
  obtain ⟨hp,g,d,tk,os⟩:=s
  obtain ⟨hl,h⟩:=h
  have f1:=AutoSeq1.idx_int
  have f2:=AutoSeq1.sub_tuple_tuple
  wp_walk using wpAny_loadPart' hl
  rw [if_neg hc0]
  wp_walk using wpAny_loadPart' hl
  rw [if_neg hc3]
  wp_walk using wpAny_loadPart' hl
  exact ⟨_,rfl,h⟩
end
end HT
namespace L2
open PySem PySem.Spec PyProof.Rows
section
variable {X:Cx}
end
end L2
namespace L2
open PySem PySem.Spec PyProof.Rows H1
section
variable {X:Cx} {K:PySem.W.Frag}
end
end L2
namespace L2
open PySem PySem.Spec PyProof.Rows H1
section
variable {X:Cx}
end
end L2
namespace L2
open PySem PySem.Spec PyProof.Rows H1
abbrev Hs:=Int × List (Int × Int) × List Int × List Int
def Zc (ns:List Int):PyData:=.tuple (ns.map .int)
def Zz (h:Hs):PyData:=.tuple [.int h.1,Zr h.2.1,Zc h.2.2.1,Zc h.2.2.2]
def Zq (t:Int) (hs:List Hs):PyData:=.tuple [.int t,.tuple (hs.map Zz)]
end L2
namespace L2
open PySem PySem.Spec PyProof.Rows H1
structure Ru where
 o:Int
 w:Int
 t:Int
 c:Int
 cl:List Str
def clD (cl:List Str):PyData:=.tuple (cl.map .str)
def ruD (r:Ru):PyData:=.tuple [.int r.o,.int r.w,.int r.t,.int r.c,clD r.cl]
structure RuOk (r:Ru):Prop where
 o : 0<=r.o/\r.o<=3
 w : 1<=r.w/\r.w<=9
 t : 0<=r.t/\r.t<=9
 c : 0<=r.c/\r.c<=8
 l:r.cl.length<=7
def ZHE (c:Int × Int):Prop:=1<=c.1/\c.1<=4/\0<=c.2/\c.2 < c.1
end L2
namespace L2
open PySem PySem.Spec PyProof.Rows H1
def ZEJ (cl:List Str) (x:Str):Bool:=inV (.str x) (cl.map V.str)
theorem ZMz (a b:Int × Int):(Zk a).eqv (Zk b)=decide (a=b):=by
 show ((a.1 == b.1) && ((a.2 == b.2) && true))=decide (a=b)
 rw [Bool.eq_iff_iff,Bool.and_true,Bool.and_eq_true,beq_iff_eq,beq_iff_eq,decide_eq_true_iff,Prod.ext_iff]
def ZH7 (cl:List Str) (old word:Int × Int):Bool:=if ZEJ cl "newer" = true then gtW word old else !decide (word=old)
def ZLv (cl:List Str) (h:Hs) (y:Nat) (w:Int × Int):Hs:=if h.1=1/\ZEJ cl "refute" = true/\gtW w (h.2.1.getD y (0,0))=true then (h.1,h.2.1.set y (w.1+1,0),h.2.2.1.set y 0,h.2.2.2) else h
def ZL7 (cl:List Str) (h:Hs) (o:Nat) (w:Int × Int):Hs:=if ZH7 cl (h.2.1.getD o (0,0)) w=true then (h.1,h.2.1.set o w,h.2.2.1.set o 0,if w.2=1 then h.2.2.2 else h.2.2.2.set o 0) else h
def ZDq (cl:List Str) (y:Nat) (h:Hs) (n:Nat × (Int × Int)):Hs:=if n.1=y then ZLv cl h y n.2 else ZL7 cl h n.1 n.2
def ZCE (cl:List Str) (y:Nat) (h:Hs) (ns:List (Nat × (Int × Int))):Hs:=ns.foldl (ZDq cl y) h
theorem ZKq {α : Type} {xs:List α} {i:Nat} {x y : α} {P : α->Prop} (h:∀ z ∈ xs,P z) (hx:P x):y ∈ xs.set i x->P y:=λ hy=>by
 rcases List.mem_or_eq_of_mem_set hy with z | z
 ·exact h y z
 ·rw [z]; exact hx
theorem ZJH {cl:List Str} {y i:Nat} {h:Hs} {ns:List (Nat × (Int × Int))} {x:Nat × (Int × Int)} (e:ns[i]? = some x):ZCE cl y h (ns.take (i+1))=ZDq cl y (ZCE cl y h (ns.take i)) x:=by
 unfold ZCE
 rw [List.take_add_one,e,List.foldl_append]
 rfl
end L2
namespace HU
open PySem PyProof.Rows
section
variable {prog:Program} {w:World} {A:Around} {E:Value->Shared->Prop}
variable {st:Shared}
end
end HU
namespace L2
open PySem PySem.Spec PyProof.Rows H1
section
variable {X:Cx} {pos:Pos}
end
end L2
namespace L2
open PySem PySem.Spec PyProof.Rows H1
end L2
namespace L2
open PySem PySem.Spec PyProof.Rows H1
end L2
namespace L2
open PySem PySem.Spec PyProof.Rows H1
end L2
namespace L2
open PySem PySem.Spec PyProof.Rows H1
section
variable {X:Cx} {K:PySem.W.Frag}
end
end L2
namespace L2
open PySem PySem.Spec PyProof.Rows H1
end L2
namespace L2
open PySem PySem.Spec PyProof.Rows H1
structure HV (r:Ru) (n i:Nat) (h:Hs):Prop where
 up : 0<=h.1/\h.1<=1
 bl:h.2.1.length=n
 bs:∀ w ∈ h.2.1,(0<=w.1/\w.1<=1000000)/\0<=w.2/\w.2<=3
 tl:h.2.2.1.length=n
 ts:∀ k ∈ h.2.2.1,0<=k/\k<=r.t
 ml:h.2.2.2.length=n
 ms:∀ k ∈ h.2.2.2,0<=k/\k<=r.w
 m0:h.2.2.2[i]? = some 0
 mu:h.1=1 ∨ ∀ k ∈ h.2.2.2,k=0
def ZGI (t:Int) (n:Nat):Hs:=(1,List.replicate n (0,0),List.replicate n t,List.replicate n 0)
end L2
namespace L2
open PySem PySem.Spec PyProof.Rows H1
theorem snocV {r:Ru} {n:Nat} {hs:List Hs} {h:Hs} (hv:∀ i h,hs[i]? = some h->HV r n i h) (hn:HV r n hs.length h):∀ i x,(hs ++ [h])[i]? = some x->HV r n i x:=λ i x e=>by
 by_cases hj:i < hs.length
 ·rw [List.getElem?_append_left hj] at e
  exact hv i x e
 ·rw [List.getElem?_append_right (by omega)] at e
  have hj0:i - hs.length=0:=by
   have:=(List.getElem?_eq_some_iff.mp e).1
   simp at this
   omega
  rw [hj0] at e
  cases e
  have:i=hs.length:=by omega
  rw [this]
  exact hn
end L2
namespace L2
open PySem PySem.Spec PyProof.Rows H1
end L2
namespace L2
open PySem PySem.Spec PyProof.Rows H1
end L2
namespace L2
open PySem PySem.Spec PyProof.Rows H1
end L2
namespace HT
open PySem PyProof.Rows
def lexGe:List Int->List Int->Bool
 | [],[]=>true
 | [],_ :: _=>false
 | _ :: _,[]=>true
 | x :: xs,y :: ys=>if x=y then lexGe xs ys else decide (y<=x)
theorem ZKw (x y:Int) (xs ys:List Int):lexGe (x :: xs) (y :: ys)=if x=y then lexGe xs ys else decide (y<=x):=rfl
theorem ZHJ:lexGe [] []=true:=rfl
theorem ZGi (y:Int) (ys:List Int):lexGe [] (y :: ys)=false:=rfl
theorem ZGP (x:Int) (xs:List Int):lexGe (x :: xs) []=true:=rfl
theorem ZNt (A:Around) (s:Shared) (a:Int) (t:Tok) (c:Int) (u:Tok) (prog:Program) (w:World) (E:Value->Shared->Prop) (Q:Value->Shared->Prop) (h:Q (.bool (decide (c<=a))) s) :
  wpAny (model prog w) A (richCompare .GtE (.int a t) (.int c u)) Q E s :=
 (PyProof.Rows.ge_int h:wpAny (model prog w) A (compareOp .GtE (.int a t) (.int c u)) Q E s)
section
open PySem.SeqAt
open PySem.AutoSeq1 (wpAny_loadPart')
open PySem.MeetsSeq PySem.MeetsSeq2 PySem.MeetsSeq3
theorem ZHF (l b:Addr) (items items2:Array Value) (n n2:Nat) (dd dd2:Option Addr) (sl sl2:Array (Option Value)) (ns ms:List Int) (hi:IntsAre items.toList ns) (hj:IntsAre items2.toList ms) :
  Meets (Builtin.«tuple.__ge__» ⟨[.ref l,.ref b],[]⟩)
   (λ _ R s=>s.heap.get? l=some { cls:=.type "tuple",dict:=dd,data:=.seq items n,slots:=sl }/\s.heap.get? b=some { cls:=.type "tuple",dict:=dd2,data:=.seq items2 n2,slots:=sl2 } /\
    R (.ok (.ret (.bool (lexGe ns ms)))) s) :=
 .of_wp λ prog w A R s h=>by
  obtain ⟨hp,g,d,tk,os⟩:=s; obtain ⟨hl,hb,h⟩:=h
  have f2:=AutoSeq1.sub_tuple_tuple
  have z1:items.size=ns.length:=by rw [← hi.length]; simp
  have z2:items2.size=ms.length:=by rw [← hj.length]; simp
  wp_walk using wpAny_loadPart' hl,wpAny_loadPart' hb,wpAny_forIn_list _ (λ rest b s'=>b.1=none/\s'=⟨hp,g,d,tk,os⟩/\∃ (vs ws:List Value) (ns' ms':List Int),rest=vs.zip ws /\
   IntsAre vs ns'/\IntsAre ws ms'/\ns'.length+items2.size=ms'.length+items.size/\R (.ok (.ret (.bool (lexGe ns' ms')))) ⟨hp,g,d,tk,os⟩) _
  case turn =>
   rintro ⟨y,x⟩ rest b s' ⟨hb',rfl,vs,ws,ns',ms',hz,hvi,hwi,hlen,hR⟩
   cases hvi with
   | nil=>rw [List.zip_nil_left] at hz; cases hz
   | cons a t hvi' =>
    cases hwi with
    | nil=>rw [List.zip_nil_right] at hz; cases hz
    | cons c u hwi' =>
     rw [List.zip_cons_cons] at hz
     injection hz with hyx hrest
     injection hyx with hy hx
     subst hy hx
     rw [ZKw] at hR
     simp only [List.length_cons] at hlen
     obtain ⟨e,he,hiff⟩:=ZGT A.in1 ⟨hp,g,d,tk,os⟩ a t c u
     refine wpAny_bind (he prog w _ _ ?_)
     cases e with
     | true =>
      rw [if_pos (hiff.mp rfl)] at hR
      wp_walk
      exact ⟨rfl,rfl,_,_,_,_,hrest,hvi',hwi',by omega,hR⟩
     | false =>
      rw [if_neg (λ q=>absurd (hiff.mpr q) Bool.false_ne_true)] at hR
      have hri:=ZNt A.in1 ⟨hp,g,d,tk,os⟩ a t c u prog w
      wp_walk using hri
      exact ⟨_,rfl,by simpa using hR⟩
  case fin =>
   rintro ⟨b1,b2⟩ s' ⟨hb',rfl,vs,ws,ns',ms',hz,hvi,hwi,hlen,hR⟩
   simp only at hb'
   subst hb'
   have hv:lexGe ns' ms'=decide (items.size ≥ items2.size):=by
    cases hvi with
    | nil =>
     cases hwi with
     | nil =>
      simp only [List.length_nil] at hlen
      rw [ZHJ]
      exact (decide_eq_true (by omega)).symm
     | cons c u hw =>
      simp only [List.length_nil,List.length_cons] at hlen
      rw [ZGi]
      exact (decide_eq_false (by omega)).symm
    | cons a t hv =>
     cases hwi with
     | nil =>
      simp only [List.length_nil,List.length_cons] at hlen
      rw [ZGP]
      exact (decide_eq_true (by omega)).symm
     | cons c u hw =>
      rw [List.zip_cons_cons] at hz
      cases hz
   rw [hv] at hR
   wp_walk
   exact ⟨_,rfl,by simpa [Builtin.Tuple.tupleCompareSizes] using hR⟩
  case h =>
   exact ⟨rfl,rfl,items.toList,items2.toList,ns,ms,rfl,hi,hj,by omega,h⟩
end
section
variable {prog:Program} {w:World} {A:Around} {E:Value->Shared->Prop} {s:Shared}
theorem ge_tupInts {l b:Addr} {items items2:Array Value} {ns ms:List Int} {Q:Value->Shared->Prop} (hl:IsTup s.heap l items) (hb:IsTup s.heap b items2) (hi:IntsAre items.toList ns) (hj:IntsAre items2.toList ms)
  (hu:A.units < cLine) (h:Q (.bool (lexGe ns ms)) s):wpAny (model prog w) A (compareOp .GtE (.ref l) (.ref b)) Q E s:=by
 obtain ⟨⟨cls,dd,data,sl⟩,ho,hc,n,hd⟩:=id hl
 obtain ⟨⟨cls2,dd2,data2,sl2⟩,ho2,hc2,n2,hd2⟩:=id hb
 simp only at hc hd hc2 hd2
 subst hc hd hc2 hd2
 exact richCompare_meets_room (op:=.GtE) ⟨_,ho,rfl⟩ ⟨_,ho2,rfl⟩ PySem.F.slot_tuple_ge PySem.F.entry_tuple_ge (PySem.F.args_tuple_ge_2 _ _) (ZHF l b items items2 n n2 dd dd2 sl sl2 ns ms hi hj)
  ⟨ho,ho2,show Value.bool (lexGe ns ms) ≠ Value.notImplemented/\Q (.bool (lexGe ns ms)) s from ⟨(λ x=>nomatch x),h⟩⟩ hu
end
end HT
namespace L2
open PySem PySem.Spec PyProof.Rows
section
variable {X:Cx} {a b:Expr} {ta tb:TE} {pos:Pos}
def rGeT (K:PySem.W.Frag):R2:=λ x y H Q=>∃ a b ns ms,x=.ref a/\y=.ref b/\SqT K H a (ns.map V.int)/\SqT K H b (ms.map V.int)/\Q (.bl (HT.lexGe ns ms)) H
theorem ZQf (hu:X.A.units < cLine):OpR X (compareOp .GtE) (rGeT X.K):=by
 intro pins s σ H x y v u Q I rx ry h
 obtain ⟨a,b,ns,ms,rfl,rfl,ha,hb,q⟩:=h
 cases rx
 cases ry
 obtain ⟨its,r1,p1,_⟩:=I.tuple ha
 obtain ⟨its2,r2,p2,_⟩:=I.tuple hb
 have i1:IntsAre its.toArray.toList ns:=ZBQ r1
 have i2:IntsAre its2.toArray.toList ms:=ZBQ r2
 exact HT.ge_tupInts p1 p2 i1 i2 hu ⟨.bl (HT.lexGe ns ms),H,I,rfl,q⟩
end
end L2
namespace L2
open PySem PySem.Spec PyProof.Rows H1
section
variable {X:Cx} {K:PySem.W.Frag}
end
end L2
namespace L2
open PySem PySem.Spec PyProof.Rows H1
end L2
namespace L2
open PySem PySem.Spec PyProof.Rows H1
end L2
namespace L2
open PySem PySem.Spec PyProof.Rows H1
section
variable {X:Cx}
end
end L2
namespace L2
open PySem PySem.Spec PyProof.Rows H1
end L2
namespace L2
open PySem PySem.Spec PyProof.Rows H1
end L2
namespace L2
open PySem PySem.W PyProof.Rows H1
def ZMM {α : Type} (f:Nat->Nat->Option Bool):KasT α->Option α
 | .ret a=>some a
 | .ask i j k=>match f i j with
  | some b=>ZMM f (k b)
  | none=>none
theorem ZLR {α : Type} {cmp:Nat->Nat->(Bool->Shared->Prop)->Shared->Prop} {f:Nat->Nat->Option Bool} {s:Shared} {Q : α->Shared->Prop} (hc:∀ i j b (C:Bool->Shared->Prop),f i j=some b->C b s->cmp i j C s):∀ (t:KasT α) {a : α},ZMM f t=some a->Q a s->t.kasWp cmp Q s
 | .ret a,b,h,q=>by
  cases h
  exact q
 | .ask i j k,a,h,q=>by
  show cmp i j (λ b s'=>(k b).kasWp cmp Q s') s
  unfold ZMM at h
  cases hf:f i j with
  | none=>rw [hf] at h; cases h
  | some b =>
   rw [hf] at h
   exact hc i j b _ hf (ZLR hc (k b) h q)
def rkF (π : List Nat) (i j:Nat):Option Bool:=if (Nat.blt i π.length && Nat.blt j π.length)=true then some (Nat.blt (π.getD i 0) (π.getD j 0)) else none
def chk (π : List Nat):Bool:=match ZMM (rkF π) (kas_sort π.length) with
 | none=>false
 | some p=>p.toList.isPerm (List.range π.length) && (p.toList.map (λ i=>π.getD i 0) == List.range π.length)
def pl (n:Nat):Nat->List (List Nat)
 | 0=>[[]]
 | k+1=>(pl n k).flatMap λ l=>((List.range n).filter λ x=>!l.contains x).map λ x=>x :: l
theorem ZMl {n:Nat}:∀ {π : List Nat},π.Nodup->(∀ x ∈ π,x < n)->π ∈ pl n π.length
 | [],_,_=>List.mem_singleton.mpr rfl
 | x :: r,hn,hl=>by
  obtain ⟨h1,h2⟩:=List.nodup_cons.mp hn
  show x :: r ∈ (pl n r.length).flatMap _
  rw [List.mem_flatMap]
  refine ⟨r,ZMl h2 λ y hy=>hl y (List.mem_cons_of_mem _ hy),List.mem_map.mpr ⟨x,List.mem_filter.mpr ⟨List.mem_range.mpr (hl x (List.mem_cons_self ..)),?_⟩,rfl⟩⟩
  simpa using h1
theorem chk2:(pl 2 2).all chk=true:=by decide +kernel
theorem chk3:(pl 3 3).all chk=true:=by decide +kernel
theorem chk4:(pl 4 4).all chk=true:=by decide +kernel
theorem chk5:(pl 5 5).all chk=true:=by decide +kernel
theorem chk6:(pl 6 6).all chk=true:=by decide +kernel
theorem ZPI {n:Nat} (h2 : 2<=n) (h6:n<=6):(pl n n).all chk=true:=by
 obtain rfl | rfl | rfl | rfl | rfl:n=2 ∨ n=3 ∨ n=4 ∨ n=5 ∨ n=6:=by omega
 ·exact chk2
 ·exact chk3
 ·exact chk4
 ·exact chk5
 ·exact chk6
theorem ZBK {α : Type} {p q : α->Bool}:∀ {l:List α},(∀ x ∈ l,p x=true->q x=true)->(∃ x,x ∈ l/\q x=true/\p x=false)->l.countP p < l.countP q
 | [],_,⟨_,z,_⟩=>nomatch z
 | a :: r,h,⟨x,hx,hq,hp⟩=>by
  rw [List.countP_cons,List.countP_cons]
  have hle:r.countP p<=r.countP q:=List.countP_mono_left λ y hy=>h y (List.mem_cons_of_mem _ hy)
  have ha:=h a (List.mem_cons_self ..)
  rcases List.mem_cons.mp hx with rfl | hx
  ·rw [hq,hp,if_pos rfl,if_neg (by decide)]
   omega
  ·have:=ZBK (λ y hy=>h y (List.mem_cons_of_mem _ hy)) ⟨x,hx,hq,hp⟩
   by_cases c:p a=true
   ·rw [c,ha c]
    omega
   ·rw [if_neg c]
    omega
theorem ZIP (a:Int × Int):gtW a a=false:=by
 cases h:gtW a a with
 | false=>rfl
 | true =>
  rcases ZCl.mp h with z | z
  ·omega
  ·omega
theorem ZLh {a b c:Int × Int} (h1:gtW a b=true) (h2:gtW b c=true):gtW a c=true:=by
 rw [ZCl] at *
 omega
theorem ZLA {a b:Int × Int} (h:a ≠ b):gtW a b=true ∨ gtW b a=true:=by
 rw [ZCl,ZCl]
 by_cases c:a.1=b.1
 ·by_cases d:a.2=b.2
  ·exact absurd (Prod.ext c d) h
  ·omega
 ·omega
def ZDa (ks:List (Int × Int)) (k:Int × Int):Nat:=ks.countP λ x=>gtW k x
theorem ZOZ {ks:List (Int × Int)} {k:Int × Int} (h:k ∈ ks):ZDa ks k < ks.length:=by
 have:=ZBK (p:=λ x=>gtW k x) (q:=λ _=>true) (l:=ks) (λ _ _ _=>rfl) ⟨k,h,rfl,ZIP k⟩
 rw [List.countP_true] at this
 exact this
theorem ZEA {ks:List (Int × Int)} {a b:Int × Int} (h:a ∈ ks) (g:gtW b a=true):ZDa ks a < ZDa ks b :=
 ZBK (λ _ _ e=>ZLh g e) ⟨a,h,g,ZIP a⟩
theorem ZJq {ks:List (Int × Int)} {a b:Int × Int} (ha:a ∈ ks) (hb:b ∈ ks):Nat.blt (ZDa ks a) (ZDa ks b)=gtW b a:=by
 cases h:gtW b a with
 | true=>exact Nat.blt_eq.mpr (ZEA ha h)
 | false =>
  cases c:Nat.blt (ZDa ks a) (ZDa ks b) with
  | false=>rfl
  | true =>
   have c:=Nat.blt_eq.mp c
   by_cases e:a=b
   ·rw [e] at c
    exact absurd c (Nat.lt_irrefl _)
   ·rcases ZLA e with z | z
    ·have:=ZEA hb z
     omega
    ·rw [h] at z
     cases z
def ZL2 (ks:List (Int × Int)) (i j:Nat):Option Bool:=if (Nat.blt i ks.length && Nat.blt j ks.length)=true then some (gtW (ks.getD j (0,0)) (ks.getD i (0,0))) else none
theorem ZEu {α : Type} {xs:List α} {i:Nat} {d : α} (h:i < xs.length):xs.getD i d ∈ xs:=by
 rw [List.getD_eq_getElem?_getD,List.getElem?_eq_getElem h]
 exact List.getElem_mem h
theorem ZD7 {ks:List (Int × Int)} {g:Int × Int->Nat} {i:Nat} (h:i < ks.length):(ks.map g).getD i 0=g (ks.getD i (0,0)):=by
 rw [List.getD_eq_getElem?_getD,List.getD_eq_getElem?_getD,List.getElem?_map,List.getElem?_eq_getElem h]
 rfl
theorem ZPn (ks:List (Int × Int)):ZL2 ks=rkF (ks.map (ZDa ks)):=by
 funext i j
 unfold ZL2 rkF
 rw [List.length_map]
 by_cases c:(Nat.blt i ks.length && Nat.blt j ks.length)=true
 ·rw [if_pos c,if_pos c]
  have c':=c
  rw [Bool.and_eq_true,Nat.blt_eq,Nat.blt_eq] at c'
  rw [ZD7 c'.1,ZD7 c'.2,ZJq (ZEu c'.1) (ZEu c'.2)]
 ·rw [if_neg c,if_neg c]
theorem ZKM {ks:List (Int × Int)} (hn:ks.Nodup) (h2 : 2<=ks.length) (h6:ks.length<=6):∃ p:Array Nat,ZMM (ZL2 ks) (kas_sort ks.length)=some p/\p.toList.Perm (List.range ks.length)/\(p.toList.map λ i=>ks.getD i (0,0)).Pairwise (λ a b=>gtW b a=true):=by
 have hN:(ks.map (ZDa ks)).Nodup:=by
  unfold List.Nodup
  rw [List.pairwise_map]
  refine List.Pairwise.imp_of_mem (λ {a b} ha hb hab e=>?_) hn
  rcases ZLA hab with z | z
  ·have:=ZEA hb z
   omega
  ·have:=ZEA ha z
   omega
 have hL:∀ x ∈ ks.map (ZDa ks),x < ks.length:=λ x hx=>by
  obtain ⟨k,hk,rfl⟩:=List.mem_map.mp hx
  exact ZOZ hk
 have hm:=ZMl hN hL
 rw [List.length_map] at hm
 have hc:=List.all_eq_true.mp (ZPI h2 h6) _ hm
 unfold chk at hc
 rw [← ZPn,List.length_map] at hc
 cases hr:ZMM (ZL2 ks) (kas_sort ks.length) with
 | none=>rw [hr] at hc; cases hc
 | some p =>
  rw [hr] at hc
  have hc:=Bool.and_eq_true_iff.mp hc
  have hp:p.toList.Perm (List.range ks.length):=List.isPerm_iff.mp hc.1
  have he:p.toList.map (λ i=>(ks.map (ZDa ks)).getD i 0)=List.range ks.length:=eq_of_beq hc.2
  refine ⟨p,rfl,hp,?_⟩
  have hw:(p.toList.map (λ i=>(ks.map (ZDa ks)).getD i 0)).Pairwise (· < ·):=by
   rw [he]
   exact List.pairwise_lt_range
  rw [List.pairwise_map] at hw ⊢
  refine List.Pairwise.imp_of_mem (λ {a b} ha hb hab=>?_) hw
  have ha':=List.mem_range.mp (hp.mem_iff.mp ha)
  have hb':=List.mem_range.mp (hp.mem_iff.mp hb)
  rw [ZD7 ha',ZD7 hb'] at hab
  rw [← ZJq (ZEu ha') (ZEu hb')]
  exact Nat.blt_eq.mpr hab
end L2
namespace L2
open PySem PySem.Spec PySem.W PyProof.Rows H1
inductive PairsIn (h:Heap):List Value->List (Int × Int)->Prop
 | nil:PairsIn h [] []
 | cons {a:Addr} {k:Int × Int} {t u:Tok} {vs:List Value} {ks:List (Int × Int)}:IsTup h a #[.int k.1 t,.int k.2 u]->PairsIn h vs ks->PairsIn h (.ref a :: vs) (k :: ks)
theorem PairsIn.keep {h h':Heap} (g:∀ a its,IsTup h a its->IsTup h' a its):∀ {vs:List Value} {ks:List (Int × Int)},PairsIn h vs ks->PairsIn h' vs ks
 | _,_,.nil=>.nil
 | _,_,.cons a b=>.cons (g _ _ a) (PairsIn.keep g b)
theorem PairsIn.len {h:Heap}:∀ {vs:List Value} {ks:List (Int × Int)},PairsIn h vs ks->vs.length=ks.length
 | _,_,.nil=>rfl
 | _,_,.cons _ b=>congrArg Nat.succ b.len
theorem PairsIn.at {h:Heap}:∀ {vs:List Value} {ks:List (Int × Int)},PairsIn h vs ks->∀ {i:Nat},i < ks.length->∃ a t u,vs.getD i Value.none=.ref a/\IsTup h a #[.int (ks.getD i (0,0)).1 t,.int (ks.getD i (0,0)).2 u]
 | _,_,.nil,i,z=>absurd z (Nat.not_lt_zero _)
 | _,_,.cons a b,0,_=>⟨_,_,_,rfl,a⟩
 | _,_,.cons a b,i+1,z=>b.at (Nat.lt_of_succ_lt_succ z)
theorem PairsIn.firsts {h:Heap}:∀ {vs:List Value} {ks:List (Int × Int)},PairsIn h vs ks->∃ fs,KatTups h vs fs/\fs.length=ks.length/\∀ v ∈ fs,∃ n t,v=Value.int n t
 | _,_,.nil=>⟨[],KatTups.nil,rfl,λ _ z=>nomatch z⟩
 | _,_,.cons a b=>by
  obtain ⟨o,h1,h2,n,h3⟩:=a
  obtain ⟨fs,f1,f2,f3⟩:=b.firsts
  refine ⟨_ :: fs,KatTups.cons h1 h2 h3 rfl f1,congrArg Nat.succ f2,λ v hv=>?_⟩
  rcases List.mem_cons.mp hv with rfl | hv
  ·exact ⟨_,_,rfl⟩
  ·exact f3 v hv
section
variable {prog:Program} {w:World} {A:Around} {E:Value->Shared->Prop} {s:Shared}
theorem ZPT {a b:Addr} {x y:Int × Int} {t u t' u':Tok} {C:Bool->Shared->Prop} (ha:IsTup s.heap a #[.int x.1 t,.int x.2 u]) (hb:IsTup s.heap b #[.int y.1 t',.int y.2 u']) (h:C (gtW y x) s) :
  wpAny (model prog w) A (keyLt' (tuples' true) (.ref a) (.ref b)) C E s:=by
 obtain ⟨o,h1,_,n,h2⟩:=ha
 obtain ⟨o',h1',_,n',h2'⟩:=hb
 refine kat_lt h1 h2 h1' h2' ?_
 show KatLex prog w A true (decide ((2:Nat) < 2)) C [(.int x.1 t,.int y.1 t'),(.int x.2 u,.int y.2 u')] 0 s
 refine kat_cons (wpAny_eqBool_int (kat_go (λ e=>kat_yes (kat_cons (wpAny_eqBool_int (kat_go (λ e2=>kat_yes (kat_nil ?_)) (λ e2=>kat_no (kat_one _ _ (wpAny_lt_int ?_))))))) (λ e=>kat_no ?_)))
 ·have e:=eq_of_beq e
  have e2:=eq_of_beq e2
  have:gtW y x=false:=by
   rw [show y=x from (Prod.ext e e2).symm]
   exact ZIP x
  rw [this] at h
  exact h
 ·have e:=eq_of_beq e
  show C (decide (x.2 < y.2)) s
  have:gtW y x=decide (x.2 < y.2):=by
   rw [Bool.eq_iff_iff,ZCl,decide_eq_true_eq]
   omega
  rw [← this]
  exact h
 ·have e : ¬ x.1=y.1:=by simpa using e
  show wpAny (model prog w) A (oneLt' true (.int x.1 t) (.int y.1 t')) C (λ _ _=>False) s
  refine oneLt_int ?_
  have:gtW y x=decide (x.1 < y.1):=by
   rw [Bool.eq_iff_iff,ZCl,decide_eq_true_eq]
   omega
  rw [← this]
  exact h
theorem ZKn {vs:List Value} {ks:List (Int × Int)} {Q:SortKind->Shared->Prop} (hp:PairsIn s.heap vs ks) (h0 : 0 < ks.length) (h:Q (tuples' true) s):wpAny (model prog w) A (keyKind' vs.toArray) Q E s:=by
 obtain ⟨fs,f1,f2,f3⟩:=hp.firsts
 refine kat_kind (T:=.type "int") f1 (by omega) (λ v hv=>?_) rfl h
 obtain ⟨n,t,rfl⟩:=f3 v hv
 exact λ A Q E s _ q=>wpAny_pure q
theorem ZCS {α : Type} (xs:List α) (d : α):(List.range xs.length).map (λ i=>xs.getD i d)=xs:=by
 refine List.ext_getElem (by simp) λ i h1 h2=>?_
 simp [h2]
theorem ZFw {a:Addr} {vs:List Value} {ks:List (Int × Int)} {n:Nat} {P:PySem.Fin->Shared->Prop} (ho:s.heap.get? a=some (seqObj "list" vs.toArray n)) (hp:PairsIn s.heap vs ks) (hn:ks.Nodup) (h6:ks.length<=6)
  (h:∀ p:List Nat,p.Perm (List.range ks.length)->(p.map λ i=>ks.getD i (0,0)).Pairwise (λ a b=>gtW b a=true)->P (.done (.ret .none)) { s with heap:=sortedHeap s.heap a vs (p.map λ i=>vs.getD i Value.none).toArray }) :
  wpAny (model prog w) A (Builtin.«list.sort» ⟨[.ref a],[]⟩) P E s:=by
 have hlen:=hp.len
 rw [list_sort_plain]
 have ha:a < s.heap.objs.size:=Heap.lt_size ho
 refine wpAny_bind (listItems_at ho rfl ?_)
 refine wpAny_bind (listUpdate_at ho rfl ?_)
 obtain ⟨e1,ho1⟩:∃ e1,(s.heap.update a (Obj.mapSeq λ _=>#[])).get? a=some (seqObj "list" #[] e1):=⟨_,get?_update_seq ho (λ _=>#[])⟩
 refine wpAny_bind (seqEpoch_at ho1 rfl ?_)
 refine wpAny_bind (wpAny_newTuple ?_)
 refine wpAny_bind (wpAny_newList ?_)
 refine wpAny_holding ?_
 have old:∀ b,b ≠ a->b < s.heap.objs.size->(((s.heap.update a (Obj.mapSeq λ _=>#[])).push (seqObj "tuple" vs.toArray 0)).push (seqObj "list" #[] 0)).get? b=s.heap.get? b:=λ b hb hlt=>by
  rw [Heap.get?_push_ne _ _ _ (by rw [size_push',Heap.size_update]; exact Nat.ne_of_lt (Nat.lt_succ_of_lt hlt)),Heap.get?_push_ne _ _ _ (by rw [Heap.size_update]; exact Nat.ne_of_lt hlt),Heap.get?_update_ne _ _ _ _ hb]
 have ho6:(((s.heap.update a (Obj.mapSeq λ _=>#[])).push (seqObj "tuple" vs.toArray 0)).push (seqObj "list" #[] 0)).get? a=some (seqObj "list" #[] e1):=by
  rw [Heap.get?_push_ne _ _ _ (by rw [size_push',Heap.size_update]; exact Nat.ne_of_lt (Nat.lt_succ_of_lt ha)),Heap.get?_push_ne _ _ _ (by rw [Heap.size_update]; exact Nat.ne_of_lt ha)]
  exact ho1
 have hp6:PairsIn (((s.heap.update a (Obj.mapSeq λ _=>#[])).push (seqObj "tuple" vs.toArray 0)).push (seqObj "list" #[] 0)) vs ks:=hp.keep λ b its hb=>by
  obtain ⟨o,h1,h2,h3⟩:=hb
  refine ⟨o,?_,h2,h3⟩
  rw [old b (λ e=>?_) (Heap.lt_size h1)]
  ·exact h1
  ·rw [e,ho] at h1
   cases h1
   exact absurd (show Value.type "list" = Value.type "tuple" from h2) (by decide)
 show wpAny (model prog w) A _ P E { s with heap:=((s.heap.update a (Obj.mapSeq λ _=>#[])).push (seqObj "tuple" vs.toArray 0)).push (seqObj "list" #[] 0) }
 dsimp only
 have hsz:vs.toArray.size=vs.length:=by simp
 by_cases h2:vs.toArray.size < 2
 ·rw [if_pos h2,if_pos h2]
  refine wpAny_bind (wpAny_pure ?_)
  rw [StateT.run_pure]
  refine wpAny_bind (wpAny_pure ?_)
  dsimp only
  refine wpAny_bind (seqEpoch_at ho6 rfl ?_)
  refine wpAny_bind (listUpdate_at ho6 rfl ?_ (hsz2:=by rw [Array.size_map]; show (pairsOf vs).size<=_; rw [pairsOf_size,sizeLine_eq]; omega))
  simp only [bne_self_eq_false,Bool.false_eq_true,if_false]
  have e:(arrOf (SortSt.mk' general' (vs.toArray.zip vs.toArray) #[] 7 none)).map (·.2)=((List.range ks.length).map λ i=>vs.getD i Value.none).toArray:=by
   rw [← hlen,ZCS]
   show (vs.toArray.zip vs.toArray).map (·.2)=vs.toArray
   apply Array.toList_inj.mp
   simp
   rw [← List.unzip_snd,List.unzip_zip rfl]
  have q:=h (List.range ks.length) (List.Perm.refl _) (by
   rw [ZCS]
   match ks,(show ks.length < 2 by omega) with
   | [],_=>exact .nil
   | [x],_=>exact List.pairwise_singleton _ _
   | x :: y :: r,z=>exact absurd z (by simp))
  rw [← e] at q
  exact wpAny_pure q
 ·rw [if_neg h2,if_neg h2]
  obtain ⟨p,hr,hpp,hps⟩:=ZKM hn (by omega) h6
  refine wpAny_bind (ZKn (s:={ s with heap:=((s.heap.update a (Obj.mapSeq λ _=>#[])).push (seqObj "tuple" vs.toArray 0)).push (seqObj "list" #[] 0) }) hp6 (by omega) ?_)
  refine wpAny_bind (wpAny_mono (kat_run (ks:=vs) (vs:=vs) (κ:=tuples' true) (G:=λ p' s'=>p'=p/\s'={ s with heap:=((s.heap.update a (Obj.mapSeq λ _=>#[])).push (seqObj "tuple" vs.toArray 0)).push (seqObj "list" #[] 0) })
   (Q:=λ st' s'=>s'={ s with heap:=((s.heap.update a (Obj.mapSeq λ _=>#[])).push (seqObj "tuple" vs.toArray 0)).push (seqObj "list" #[] 0) }/\failedOf st'=none/\(arrOf st').map (·.2)=(p.toList.map λ i=>vs.getD i Value.none).toArray) rfl (by omega) (by omega) (λ p' st' s' hz har hf hG=>⟨hG.2,hf,by rw [← hG.1]; exact kat_snds rfl har⟩)
   (ZLR (f:=ZL2 ks) (λ i j b C hf hC=>?_) _ (by rw [hlen]; exact hr) ⟨rfl,rfl⟩)) (λ r s' hr'=>?_) λ _ _ e=>e)
  ·unfold ZL2 at hf
   by_cases c:(Nat.blt i ks.length && Nat.blt j ks.length)=true
   ·rw [if_pos c] at hf
    cases hf
    rw [Bool.and_eq_true,Nat.blt_eq,Nat.blt_eq] at c
    obtain ⟨x,t,u,e,hx⟩:=hp6.at c.1
    obtain ⟨y,t',u',e',hy⟩:=hp6.at c.2
    unfold kas_ask
    rw [e,e']
    exact ZPT hx hy hC
   ·rw [if_neg c] at hf
    cases hf
  ·obtain ⟨⟨⟩,st'⟩:=r
   obtain ⟨rfl,hf,hm⟩:=hr'
   dsimp only at hf hm ⊢
   have hpl:p.toList.length=ks.length:=by rw [hpp.length_eq,List.length_range]
   refine wpAny_bind (seqEpoch_at ho6 rfl ?_)
   refine wpAny_bind (listUpdate_at ho6 rfl ?_ (hsz2:=by rw [hm]; simp; rw [sizeLine_eq,← Array.length_toList]; omega))
   rw [hf]
   simp only [bne_self_eq_false,Bool.false_eq_true,if_false]
   have q:=h p.toList hpp hps
   rw [← hm] at q
   exact wpAny_pure q
theorem ZII {l:Addr} {vs:List Value} {ks:List (Int × Int)} {Q:Value->Shared->Prop} (hl:s.heap.IsList l vs.toArray) (hp:PairsIn s.heap vs ks) (hn:ks.Nodup) (h6:ks.length<=6)
  (h:∀ p:List Nat,p.Perm (List.range ks.length)->(p.map λ i=>ks.getD i (0,0)).Pairwise (λ a b=>gtW b a=true)->Q (.ref (s.heap.objs.size+1)) { s with heap:=sortedAll s.heap vs (p.map λ i=>vs.getD i Value.none).toArray }) :
  wpAny (model prog w) A (call (.builtin "sorted") [.ref l]) Q E s:=by
 have hlen:=hp.len
 refine Calls.call_function_entry kind_sorted plain_sorted entry_sorted (args_sorted1 _) ?_
 unfold Builtin.«sorted»
 refine wpAny_bind (m:=checkCount "sorted" 1 1 _) (wpAny_pure ?_)
 refine wpAny_bind (collect_list hl ?_ (by rw [sizeLine_eq]; omega))
 refine wpAny_bind (wpAny_newList ?_ (by rw [sizeLine_eq]; omega))
 have hsz:((s.heap.push (seqObj "list" #[] 0)).update s.heap.objs.size (Obj.mapSeq (· ++ vs.toArray))).objs.size=s.heap.objs.size+1:=by
  rw [Heap.size_update,size_push']
 have hoL:(((s.heap.push (seqObj "list" #[] 0)).update s.heap.objs.size (Obj.mapSeq (· ++ vs.toArray))).push (seqObj "list" vs.toArray 0)).get? (s.heap.objs.size+1)=some (seqObj "list" vs.toArray 0):=by
  rw [← hsz]
  exact Heap.get?_push_size _ rfl
 have hp2:PairsIn (((s.heap.push (seqObj "list" #[] 0)).update s.heap.objs.size (Obj.mapSeq (· ++ vs.toArray))).push (seqObj "list" vs.toArray 0)) vs ks:=hp.keep λ b its hb=>by
  obtain ⟨o,h1,h2⟩:=hb
  have hlt:b < s.heap.objs.size:=Heap.lt_size h1
  refine ⟨o,?_,h2⟩
  rw [Heap.get?_push_ne _ _ _ (by rw [hsz]; exact Nat.ne_of_lt (Nat.lt_succ_of_lt hlt)),Heap.get?_update_ne _ _ _ _ (Nat.ne_of_lt hlt),Heap.get?_push_ne _ _ _ (Nat.ne_of_lt hlt)]
  exact h1
 show wpAny _ _ _ _ _ { s with heap:=((s.heap.push (seqObj "list" #[] 0)).update s.heap.objs.size (Obj.mapSeq (· ++ vs.toArray))).push (seqObj "list" vs.toArray 0) }
 rw [hsz]
 refine wpAny_bind (wpAny_holding (wpAny_call_entry slot_list_sort ⟨_,hoL,rfl⟩ entry_list_sort (ZFw hoL hp2 hn h6 λ p a1 a2=>⟨_,rfl,?_⟩) (args_list_sort _)))
 exact wpAny_pure ⟨_,rfl,h p a1 a2⟩
end
end L2
namespace L2
open PySem PySem.Spec PyProof.Rows H1
section
variable {X:Cx} {pins:List (Addr × Obj)} {σ : St} {H:Hp} {s:Shared}
theorem ZLB:∀ {ys:List V} {its:List Value},Zu ys its->∀ {i:Nat},i < ys.length->Z9 (ys.getD i .non) (its.getD i .none)
 | _,_,.nil,_,z=>absurd z (Nat.not_lt_zero _)
 | _,_,.cons r _,0,_=>r
 | _,_,.cons _ r,i+1,z=>ZLB r (Nat.lt_of_succ_lt_succ z)
theorem ZHW {ys:List V} {its:List Value} (r:Zu ys its):∀ {p:List Nat},(∀ i ∈ p,i < ys.length)->Zu (p.map λ i=>ys.getD i .non) (p.map λ i=>its.getD i .none)
 | [],_=>.nil
 | i :: p,h=>.cons (ZLB r (h i (List.mem_cons_self ..))) (ZHW r λ j hj=>h j (List.mem_cons_of_mem _ hj))
end
section
variable {X:Cx}
end
end L2
namespace L2
open PySem PySem.Spec PyProof.Rows H1
def ZDb (c:Int × Int) (n:Int):Int:=if n < c.2 then 0 else (n - c.2) / c.1+1
def ZBp (cl:List Str) (x y a:Int):List Int:=(y :: if ZEJ cl "own" = true then [x] else []) ++ if ZEJ cl "about" = true/\a ≠ x then [a] else []
def ZGS (told:List Int) (most x:Int) (due:List Int) (m:Nat):List (Int × Int):=((List.range m).filter λ j=>decide (told.getD j 0 < most) && (!decide ((j:Int)=x) && !due.contains (j:Int))).map λ j=>(told.getD j 0,(j:Int))
def ZBm (told:List Int) (most x:Int) (due:List Int):List (Int × Int):=ZGS told most x due told.length
theorem ZIW (told:List Int) (most x:Int) (due:List Int):(ZBm told most x due).Nodup:=by
 unfold ZBm ZGS List.Nodup
 rw [List.pairwise_map]
 refine List.Pairwise.imp (λ {a b} h e=>?_) (List.Pairwise.filter _ List.pairwise_lt_range)
 have:=congrArg Prod.snd e
 have:(a:Int)=(b:Int):=this
 omega
section
variable {X:Cx} {K:PySem.W.Frag}
end
end L2
namespace L2
open PySem PySem.Spec PyProof.Rows H1
end L2
namespace L2
open PySem PySem.Spec PyProof.Rows H1
theorem ZLq {told:List Int} {most x y:Int} {due:List Int} {i j:Nat} (hx:x=(i:Int)) (hy:y=(j:Int)) (hi:i < told.length) (hj:j < told.length) (hne:j ≠ i) (hm:y ∈ due):(ZBm told most x due).length+2<=told.length:=by
 unfold ZBm ZGS
 rw [List.length_map,← List.countP_eq_length_filter]
 have h1:=ZBK (l:=List.range told.length) (p:=λ j=>decide (told.getD j 0 < most) && (!decide ((j:Int)=x) && !due.contains (j:Int))) (q:=λ j=>!decide ((j:Int)=x)) (λ z _ e=>by
  rw [Bool.and_eq_true,Bool.and_eq_true] at e
  exact e.2.1) ⟨j,List.mem_range.mpr hj,by rw [hx,decide_eq_false (by omega)]; rfl,by
   rw [← hy,List.contains_iff_mem.mpr hm]
   simp⟩
 have h2:=ZBK (l:=List.range told.length) (p:=λ j:Nat=>!decide ((j:Int)=x)) (q:=λ _=>true) (λ _ _ _=>rfl) ⟨i,List.mem_range.mpr hi,rfl,by rw [hx,decide_eq_true rfl]; rfl⟩
 rw [List.countP_true,List.length_range] at h2
 omega
def ZEo (book:List (Int × Int)) (due news:List Int) (m:Nat):List (Nat × (Int × Int)):=((List.range m).filter λ j:Nat=>due.contains (j:Int) || news.contains (j:Int)).map λ j=>(j,book.getD j (0,0))
def ZBJ (told:List Int) (news:List Int):List Int:=news.foldl (λ t k=>t.set k.toNat (t.getD k.toNat 0+1)) told
theorem ZC5:∀ {news told:List Int},(ZBJ told news).length=told.length
 | [],_=>rfl
 | k :: r,told=>by
  show (ZBJ (told.set k.toNat (told.getD k.toNat 0+1)) r).length=told.length
  rw [ZC5,List.length_set]
theorem ZL5 {told:List Int} {most x:Int} {due:List Int} {p:Int × Int} (h:p ∈ ZBm told most x due) : 0<=p.2/\p.2.toNat < told.length:=by
 unfold ZBm ZGS at h
 obtain ⟨j,hj,rfl⟩:=List.mem_map.mp h
 have:=List.mem_range.mp (List.mem_filter.mp hj).1
 exact ⟨by show (0:Int)<=(j:Int); omega,by show (j:Int).toNat < _; omega⟩
end L2
namespace L2
open PySem PySem.Spec PyProof.Rows H1
theorem ZKF (told news:List Int) (k:Int):ZBJ told (news ++ [k])=(ZBJ told news).set k.toNat ((ZBJ told news).getD k.toNat 0+1):=by
 unfold ZBJ
 rw [List.foldl_append]
 rfl
end L2
namespace L2
open PySem PySem.Spec PyProof.Rows H1
end L2
namespace L2
open PySem PySem.Spec PyProof.Rows
section
variable {X:Cx}
theorem ZI9:ZAG X (.builtin "sorted") (λ xs H Q=>∃ (p:Addr) (ns:List Int),xs=[.ref p]/\SqL X.K H p (ns.map V.int)/\ns.length < 64/\∀ l (ms:List Int),H l=none->ms.Perm ns->ms.Pairwise (· <= ·)->Q (.ref l) (upd H l (.lst (ms.map V.int)))):=by
 intro pins s σ H xs us Q I r h
 obtain ⟨p,ns,rfl,hq,hn,q⟩:=h
 obtain ⟨u,rfl,ru⟩:=ZEM r
 cases ru
 obtain ⟨its,rv,pl,hz⟩:=I.list hq
 have hlen:=rv.length
 rw [List.length_map] at hlen
 refine sorted_ints (vs:=its) (ns:=ns) pl.isList (ZBQ rv) (by omega) λ out ns' ia pm pw=>?_
 obtain ⟨e,he⟩:=sortedAll_at s.heap its out
 have rv':Zu (ns'.map V.int) out.toList:=by
  clear pm pw he
  generalize out.toList=l at ia
  induction ia with
  | nil=>exact .nil
  | cons a t h ih=>exact .cons ⟨t,rfl⟩ ih
 refine ⟨.ref (s.heap.objs.size+1),_,I.laid (t':=s.toks) (λ b o e=>sortedAll_old e) (Nat.le_succ _) (o:=.lst (ns'.map V.int)) ⟨?_,out.toList,e,rv',by simpa using he⟩,rfl,q _ ns' (I.hok.fresh (Nat.le_succ _)) pm pw⟩
 rw [List.length_map,pm.length_eq]
 exact Nat.le_of_lt (Z7 (by omega))
end
end L2
namespace L2
open PySem PySem.Spec PyProof.Rows H1
section
variable {X:Cx} {K:PySem.W.Frag}
end
end L2
namespace L2
open PySem PySem.Spec PyProof.Rows H1
inductive W where
 | dat (d:PyData)
 | ref (n:Nat)
 | inp (ns:List Int)
 | ty (n:String)
 | tup (ws:List W)
structure CD where
 nm:Str
 fs:List Str
inductive Cell where
 | pl (ds:List PyData)
 | rl (ws:List W)
 | ob (c:CD) (ws:List W)
abbrev G:=List Cell
structure Rh where
 c:List Addr
 h:List Addr
def Rh.mem (ρ : Rh) (a:Addr):Prop:=a ∈ ρ.c ∨ a ∈ ρ.h
abbrev Sd:=List (Option W)
def KL (K:PySem.W.Frag) (a:Addr) (xs:List V):Prop:=∃ (o:Obj) (its:Array Value) (n:Nat),K.lookup a=some o/\o.cls=.type "list"/\o.dict=none/\o.data=.seq its n/\its.size<=sizeLine/\Zu xs its.toList
def KT (K:PySem.W.Frag) (a:Addr) (xs:List V):Prop:=∃ (o:Obj) (its:Array Value) (n:Nat),K.lookup a=some o/\o.cls=.type "tuple"/\o.data=.seq its n/\its.size<=sizeLine/\Zu xs its.toList
def FzL (K:PySem.W.Frag) (ρ : Rh) (H:Hp) (a:Addr) (xs:List V):Prop:=(Rd H a (.lst xs)/\¬ ρ.mem a) ∨ KL K a xs
def FzT (K:PySem.W.Frag) (ρ : Rh) (H:Hp) (a:Addr) (xs:List V):Prop:=(Rd H a (.tup xs)/\¬ ρ.mem a) ∨ KT K a xs
theorem FzL.sq {K:PySem.W.Frag} {ρ : Rh} {H:Hp} {a:Addr} {xs:List V} (h:FzL K ρ H a xs):SqL K H a xs:=h.elim (λ z=>.inl z.1) .inr
theorem FzT.sq {K:PySem.W.Frag} {ρ : Rh} {H:Hp} {a:Addr} {xs:List V} (h:FzT K ρ H a xs):SqT K H a xs:=h.elim (λ z=>.inl z.1) .inr
mutual
inductive RelD (K:PySem.W.Frag) (ρ : Rh) (H:Hp):V->PyData->Prop
 | non:RelD K ρ H .non .none
 | bl (b:Bool):RelD K ρ H (.bl b) (.bool b)
 | int (i:Int):RelD K ρ H (.int i) (.int i)
 | str (x:Str):RelD K ρ H (.str x) (.str x)
 | tup {a:Addr} {xs:List V} {ds:List PyData}:FzT K ρ H a xs->RelDL K ρ H xs ds->RelD K ρ H (.ref a) (.tuple ds)
 | lst {a:Addr} {xs:List V} {ds:List PyData}:H a=some (.lst xs)->¬ ρ.mem a->RelDL K ρ H xs ds->RelD K ρ H (.ref a) (.list ds)
 | dct {a:Addr}:H a=some (ZNH a)->¬ ρ.mem a->RelD K ρ H (.ref a) (.dict [])
inductive RelDL (K:PySem.W.Frag) (ρ : Rh) (H:Hp):List V->List PyData->Prop
 | nil:RelDL K ρ H [] []
 | cons {x:V} {d:PyData} {xs:List V} {ds:List PyData}:RelD K ρ H x d->RelDL K ρ H xs ds->RelDL K ρ H (x :: xs) (d :: ds)
end
mutual
inductive Rel (K:PySem.W.Frag) (ρ : Rh) (H:Hp):V->W->Prop
 | dat {v:V} {d:PyData}:RelD K ρ H v d->Rel K ρ H v (.dat d)
 | ref {a:Addr} {n:Nat} : ρ.c[n]? = some a->Rel K ρ H (.ref a) (.ref n)
 | inp {a:Addr} {ns:List Int}:FzL K ρ H a (ns.map V.int)->Rel K ρ H (.ref a) (.inp ns)
 | ty {n:String}:Rel K ρ H (.ty n) (.ty n)
 | tup {a:Addr} {xs:List V} {ws:List W}:FzT K ρ H a xs->RelL K ρ H xs ws->Rel K ρ H (.ref a) (.tup ws)
inductive RelL (K:PySem.W.Frag) (ρ : Rh) (H:Hp):List V->List W->Prop
 | nil:RelL K ρ H [] []
 | cons {v:V} {x:W} {vs:List V} {xs:List W}:Rel K ρ H v x->RelL K ρ H vs xs->RelL K ρ H (v :: vs) (x :: xs)
end
inductive RelF (K:PySem.W.Frag) (ρ : Rh) (H:Hp):List Str->List (Str × V)->List W->Prop
 | nil {ns:List Str}:RelF K ρ H ns [] []
 | cons {f:Str} {ns:List Str} {v:V} {x:W} {vs:List (Str × V)} {xs:List W}:Rel K ρ H v x->RelF K ρ H ns vs xs->RelF K ρ H (f :: ns) ((f,v) :: vs) (x :: xs)
def ZBc (K:PySem.W.Frag) (ρ : Rh) (H:Hp) (a:Addr):Cell->Prop
 | .pl ds=>∃ vs,H a=some (.lst vs)/\RelDL K ρ H vs ds
 | .rl ws=>∃ vs,H a=some (.lst vs)/\RelL K ρ H vs ws
 | .ob c fs=>∃ C dx vs,PySem.W.nsIn K mainGlobals c.nm=some (some (.ref C))/\H a=some (.ins C dx vs)/\RelF K ρ H c.fs vs fs
def kdO:HO->Nat
 | .lst _=>0
 | .ins _ _ _=>1
 | _=>2
structure Stp (ρ : Rh) (H:Hp) (ρ':Rh) (H':Hp):Prop where
 pre:∃ r,ρ'.c = ρ.c ++ r
 hid : ρ'.h = ρ.h
 frm:∀ a o,H a=some o->a ∉ ρ.c->H' a=some o
 fre:∀ a ∈ ρ'.c,a ∈ ρ.c ∨ H a=none
 kd:∀ a o,H a=some o->∃ o',H' a=some o'/\kdO o'=kdO o
section
variable {K:PySem.W.Frag} {ρ ρ' ρ2:Rh} {H H' H2:Hp}
theorem Stp.refl:Stp ρ H ρ H:=⟨⟨[],(List.append_nil _).symm⟩,rfl,λ _ _ h _=>h,λ _ h=>.inl h,λ a o h=>⟨o,h,rfl⟩⟩
theorem Stp.ninc {a:Addr} {o:HO} (s:Stp ρ H ρ' H') (h:H a=some o) (n:a ∉ ρ.c):a ∉ ρ'.c:=λ z=>(s.fre a z).elim n λ e=>by rw [h] at e; cases e
theorem Stp.nin {a:Addr} {o:HO} (s:Stp ρ H ρ' H') (h:H a=some o) (n : ¬ ρ.mem a) : ¬ ρ'.mem a:=λ z=>z.elim (s.ninc h λ q=>n (.inl q)) λ z=>n (.inr (by rw [← s.hid]; exact z))
theorem Stp.trans (s:Stp ρ H ρ' H') (t:Stp ρ' H' ρ2 H2):Stp ρ H ρ2 H2:=by
 refine ⟨?_,t.hid.trans s.hid,λ a o h n=>t.frm a o (s.frm a o h n) (s.ninc h n),λ a h=>?_,λ a o h=>?_⟩
 ·obtain ⟨r,e⟩:=s.pre
  obtain ⟨q,e'⟩:=t.pre
  exact ⟨r ++ q,by rw [e',e,List.append_assoc]⟩
 ·rcases t.fre a h with z | z
  ·exact s.fre a z
  ·by_cases n:a ∈ ρ.c
   ·exact .inl n
   ·cases e:H a with
    | none=>exact .inr rfl
    | some o=>rw [s.frm a o e n] at z; cases z
 ·obtain ⟨o1,h1,k1⟩:=s.kd a o h
  obtain ⟨o2,h2,k2⟩:=t.kd a o1 h1
  exact ⟨o2,h2,k2.trans k1⟩
theorem Stp.same (s:Same H H'):Stp ρ H ρ H':=⟨⟨[],(List.append_nil _).symm⟩,rfl,λ a o h _=>s a o h,λ _ h=>.inl h,λ a o h=>⟨o,s a o h,rfl⟩⟩
theorem Rd.stp {a:Addr} {u:HO} (s:Stp ρ H ρ' H') (h:Rd H a u) (n : ¬ ρ.mem a):Rd H' a u/\¬ ρ'.mem a:=by
 rcases h with h | ⟨o,h⟩
 ·exact ⟨.inl (s.frm _ _ h λ z=>n (.inl z)),s.nin h n⟩
 ·exact ⟨.inr ⟨o,s.frm _ _ h λ z=>n (.inl z)⟩,s.nin h n⟩
theorem FzL.mono {a:Addr} {xs:List V} (s:Stp ρ H ρ' H') (h:FzL K ρ H a xs):FzL K ρ' H' a xs:=h.elim (λ z=>.inl (Rd.stp s z.1 z.2)) .inr
theorem FzT.mono {a:Addr} {xs:List V} (s:Stp ρ H ρ' H') (h:FzT K ρ H a xs):FzT K ρ' H' a xs:=h.elim (λ z=>.inl (Rd.stp s z.1 z.2)) .inr
mutual
theorem RelD.mono (s:Stp ρ H ρ' H'):∀ {v:V} {d:PyData},RelD K ρ H v d->RelD K ρ' H' v d
 | _,_,.non=>.non
 | _,_,.bl b=>.bl b
 | _,_,.int i=>.int i
 | _,_,.str x=>.str x
 | _,_,.tup h hl=>.tup (h.mono s) (RelDL.mono s hl)
 | _,_,.lst h n hl=>.lst (s.frm _ _ h λ z=>n (.inl z)) (s.nin h n) (RelDL.mono s hl)
 | _,_,.dct h n=>.dct (s.frm _ _ h λ z=>n (.inl z)) (s.nin h n)
theorem RelDL.mono (s:Stp ρ H ρ' H'):∀ {vs:List V} {ds:List PyData},RelDL K ρ H vs ds->RelDL K ρ' H' vs ds
 | _,_,.nil=>.nil
 | _,_,.cons h hl=>.cons (RelD.mono s h) (RelDL.mono s hl)
end
theorem ZDy (s:Stp ρ H ρ' H') {a:Addr} {n:Nat} (h : ρ.c[n]? = some a) : ρ'.c[n]? = some a:=by
 obtain ⟨r,e⟩:=s.pre
 rw [e,List.getElem?_append_left (List.getElem?_eq_some_iff.mp h).1]
 exact h
mutual
theorem Rel.mono (s:Stp ρ H ρ' H'):∀ {v:V} {x:W},Rel K ρ H v x->Rel K ρ' H' v x
 | _,_,.dat h=>.dat (h.mono s)
 | _,_,.ref h=>.ref (ZDy s h)
 | _,_,.inp h=>.inp (h.mono s)
 | _,_,.ty=>.ty
 | _,_,.tup h t=>.tup (h.mono s) (RelL.mono s t)
theorem RelL.mono (s:Stp ρ H ρ' H'):∀ {vs:List V} {xs:List W},RelL K ρ H vs xs->RelL K ρ' H' vs xs
 | _,_,.nil=>.nil
 | _,_,.cons h t=>.cons (Rel.mono s h) (RelL.mono s t)
end
theorem RelF.mono (s:Stp ρ H ρ' H'):∀ {ns:List Str} {vs:List (Str × V)} {xs:List W},RelF K ρ H ns vs xs->RelF K ρ' H' ns vs xs
 | _,_,_,.nil=>.nil
 | _,_,_,.cons h t=>.cons (h.mono s) (t.mono s)
theorem FzL.less {a:Addr} {xs:List V} (s:∀ a,ρ'.mem a->ρ.mem a) (h:FzL K ρ H a xs):FzL K ρ' H a xs:=h.elim (λ z=>.inl ⟨z.1,λ q=>z.2 (s _ q)⟩) .inr
theorem FzT.less {a:Addr} {xs:List V} (s:∀ a,ρ'.mem a->ρ.mem a) (h:FzT K ρ H a xs):FzT K ρ' H a xs:=h.elim (λ z=>.inl ⟨z.1,λ q=>z.2 (s _ q)⟩) .inr
mutual
theorem RelD.less (s:∀ a,ρ'.mem a->ρ.mem a):∀ {v:V} {d:PyData},RelD K ρ H v d->RelD K ρ' H v d
 | _,_,.non=>.non
 | _,_,.bl b=>.bl b
 | _,_,.int i=>.int i
 | _,_,.str x=>.str x
 | _,_,.tup h hl=>.tup (h.less s) (RelDL.less s hl)
 | _,_,.lst h n hl=>.lst h (λ z=>n (s _ z)) (RelDL.less s hl)
 | _,_,.dct h n=>.dct h λ z=>n (s _ z)
theorem RelDL.less (s:∀ a,ρ'.mem a->ρ.mem a):∀ {vs:List V} {ds:List PyData},RelDL K ρ H vs ds->RelDL K ρ' H vs ds
 | _,_,.nil=>.nil
 | _,_,.cons h hl=>.cons (RelD.less s h) (RelDL.less s hl)
end
mutual
theorem Rel.less (hc : ρ'.c = ρ.c) (s:∀ a,ρ'.mem a->ρ.mem a):∀ {v:V} {x:W},Rel K ρ H v x->Rel K ρ' H v x
 | _,_,.dat h=>.dat (h.less s)
 | _,_,.ref h=>.ref (by rw [hc]; exact h)
 | _,_,.inp h=>.inp (h.less s)
 | _,_,.ty=>.ty
 | _,_,.tup h t=>.tup (h.less s) (RelL.less hc s t)
theorem RelL.less (hc : ρ'.c = ρ.c) (s:∀ a,ρ'.mem a->ρ.mem a):∀ {vs:List V} {xs:List W},RelL K ρ H vs xs->RelL K ρ' H vs xs
 | _,_,.nil=>.nil
 | _,_,.cons h t=>.cons (Rel.less hc s h) (RelL.less hc s t)
end
theorem RelF.less (hc : ρ'.c = ρ.c) (s:∀ a,ρ'.mem a->ρ.mem a):∀ {ns:List Str} {vs:List (Str × V)} {xs:List W},RelF K ρ H ns vs xs->RelF K ρ' H ns vs xs
 | _,_,_,.nil=>.nil
 | _,_,_,.cons h t=>.cons (h.less hc s) (t.less hc s)
theorem RelDL.length:∀ {vs:List V} {ds:List PyData},RelDL K ρ H vs ds->vs.length=ds.length
 | _,_,.nil=>rfl
 | _,_,.cons _ h=>by rw [List.length_cons,List.length_cons,h.length]
theorem RelDL.getD:∀ {vs:List V} {ds:List PyData} {i:Nat} {d:PyData},RelDL K ρ H vs ds->ds[i]? = some d->∃ v,vs[i]? = some v/\RelD K ρ H v d
 | _,_,_,_,.nil,h=>by simp at h
 | _,_,0,_,.cons t _,h=>by cases h; exact ⟨_,rfl,t⟩
 | _,_,i+1,_,.cons _ t,h=>t.getD (i:=i) (by simpa using h)
theorem RelDL.append:∀ {vs us:List V} {ds es:List PyData},RelDL K ρ H vs ds->RelDL K ρ H us es->RelDL K ρ H (vs ++ us) (ds ++ es)
 | _,_,_,_,.nil,h=>h
 | _,_,_,_,.cons t r,h=>.cons t (r.append h)
theorem RelDL.set {v:V} {d:PyData} (t:RelD K ρ H v d):∀ {vs:List V} {ds:List PyData} (i:Nat),RelDL K ρ H vs ds->RelDL K ρ H (vs.set i v) (ds.set i d)
 | _,_,_,.nil=>.nil
 | _,_,0,.cons _ r=>.cons t r
 | _,_,i+1,.cons u r=>.cons u (RelDL.set t i r)
theorem RelDL.take:∀ {vs:List V} {ds:List PyData} (n:Nat),RelDL K ρ H vs ds->RelDL K ρ H (vs.take n) (ds.take n)
 | _,_,0,_=>.nil
 | _,_,_+1,.nil=>.nil
 | _,_,n+1,.cons r t=>.cons r (RelDL.take n t)
theorem RelDL.drop:∀ {vs:List V} {ds:List PyData} (n:Nat),RelDL K ρ H vs ds->RelDL K ρ H (vs.drop n) (ds.drop n)
 | _,_,0,r=>r
 | _,_,_+1,.nil=>.nil
 | _,_,n+1,.cons _ t=>RelDL.drop n t
theorem RelDL.rep {vs:List V} {ds:List PyData} (t:RelDL K ρ H vs ds):∀ k:Nat,RelDL K ρ H (List.replicate k vs).flatten (List.replicate k ds).flatten
 | 0=>.nil
 | k+1=>by rw [List.replicate_succ,List.replicate_succ,List.flatten_cons,List.flatten_cons]; exact t.append (t.rep k)
theorem RelDL.ints:∀ {vs:List V} {ns:List Int},RelDL K ρ H vs (ns.map .int)->vs=ns.map V.int
 | _,[],.nil=>rfl
 | _,n :: ns,.cons (.int _) t=>by rw [t.ints]; rfl
theorem RelDL.ofInts:∀ {ns:List Int},RelDL K ρ H (ns.map V.int) (ns.map .int)
 | []=>.nil
 | n :: ns=>.cons (.int n) RelDL.ofInts
theorem RelL.length:∀ {vs:List V} {ws:List W},RelL K ρ H vs ws->vs.length=ws.length
 | _,_,.nil=>rfl
 | _,_,.cons _ h=>by rw [List.length_cons,List.length_cons,h.length]
theorem RelL.append:∀ {vs us:List V} {ds es:List W},RelL K ρ H vs ds->RelL K ρ H us es->RelL K ρ H (vs ++ us) (ds ++ es)
 | _,_,_,_,.nil,h=>h
 | _,_,_,_,.cons t r,h=>.cons t (r.append h)
theorem RelL.set {v:V} {d:W} (t:Rel K ρ H v d):∀ {vs:List V} {ds:List W} (i:Nat),RelL K ρ H vs ds->RelL K ρ H (vs.set i v) (ds.set i d)
 | _,_,_,.nil=>.nil
 | _,_,0,.cons _ r=>.cons t r
 | _,_,i+1,.cons u r=>.cons u (RelL.set t i r)
theorem RelL.getD:∀ {vs:List V} {ds:List W} {i:Nat} {d:W},RelL K ρ H vs ds->ds[i]? = some d->∃ v,vs[i]? = some v/\Rel K ρ H v d
 | _,_,_,_,.nil,h=>by simp at h
 | _,_,0,_,.cons t _,h=>by cases h; exact ⟨_,rfl,t⟩
 | _,_,i+1,_,.cons _ t,h=>t.getD (i:=i) (by simpa using h)
theorem ZBc.mono (s:Stp ρ H ρ' H') {a:Addr} {c:Cell} (e:H' a=H a) (h:ZBc K ρ H a c):ZBc K ρ' H' a c:=by
 cases c with
 | pl ds=>obtain ⟨vs,h1,h2⟩:=h; exact ⟨vs,by rw [e]; exact h1,h2.mono s⟩
 | rl ws=>obtain ⟨vs,h1,h2⟩:=h; exact ⟨vs,by rw [e]; exact h1,h2.mono s⟩
 | ob c fs=>obtain ⟨C,dx,vs,h0,h1,h2⟩:=h; exact ⟨C,dx,vs,h0,by rw [e]; exact h1,h2.mono s⟩
theorem ZBc.less (hc : ρ'.c = ρ.c) (s:∀ a,ρ'.mem a->ρ.mem a) {a:Addr} {c:Cell} (h:ZBc K ρ H a c):ZBc K ρ' H a c:=by
 cases c with
 | pl ds=>obtain ⟨vs,h1,h2⟩:=h; exact ⟨vs,h1,h2.less s⟩
 | rl ws=>obtain ⟨vs,h1,h2⟩:=h; exact ⟨vs,h1,h2.less hc s⟩
 | ob c fs=>obtain ⟨C,dx,vs,h0,h1,h2⟩:=h; exact ⟨C,dx,vs,h0,h1,h2.less hc s⟩
theorem ZBc.has {a:Addr} {c:Cell} (h:ZBc K ρ H a c):∃ o,H a=some o:=by
 cases c with
 | pl ds=>obtain ⟨vs,h1,h2⟩:=h; exact ⟨_,h1⟩
 | rl ws=>obtain ⟨vs,h1,h2⟩:=h; exact ⟨_,h1⟩
 | ob c fs=>obtain ⟨C,dx,vs,h0,h1,h2⟩:=h; exact ⟨_,h1⟩
structure HR (K:PySem.W.Frag) (ρ : Rh) (H:Hp) (g:G):Prop where
 len : ρ.c.length=g.length
 nd : ρ.c.Nodup
 ce:∀ (n:Nat) (c:Cell),g[n]? = some c->∃ a,ρ.c[n]? = some a/\ZBc K ρ H a c
 hid:∀ a ∈ ρ.h,a ∉ ρ.c/\∃ o,H a=some o
theorem HR.at_ {g:G} (h:HR K ρ H g):∀ (n:Nat) (ds:List PyData),g[n]? = some (.pl ds)->∃ a vs,ρ.c[n]? = some a/\H a=some (.lst vs)/\RelDL K ρ H vs ds:=λ n ds e=>by
 obtain ⟨a,h1,vs,h2,h3⟩:=h.ce n _ e
 exact ⟨a,vs,h1,h2,h3⟩
theorem HR.has {g:G} (h:HR K ρ H g) {a:Addr} (ha:a ∈ ρ.c):∃ o,H a=some o:=by
 obtain ⟨n,hn⟩:=List.mem_iff_getElem?.mp ha
 have hl:=(List.getElem?_eq_some_iff.mp hn).1
 rw [h.len] at hl
 obtain ⟨a',e,hv⟩:=h.ce n _ (List.getElem?_eq_getElem hl)
 rw [hn] at e
 cases e
 exact hv.has
theorem HR.nin {g:G} (h:HR K ρ H g) {p:Addr} (hp:H p=none) : ¬ ρ.mem p:=λ z=>by
 rcases z with z | z
 ·obtain ⟨vs,e⟩:=h.has z
  rw [hp] at e
  cases e
 ·obtain ⟨_,o,e⟩:=h.hid _ z
  rw [hp] at e
  cases e
theorem HR.same {g:G} (s:Same H H') (h:HR K ρ H g):HR K ρ H' g:=⟨h.len,h.nd,λ n ds e=>by
 obtain ⟨a,h1,h2⟩:=h.ce n ds e
 obtain ⟨o,h3⟩:=h2.has
 exact ⟨a,h1,h2.mono (Stp.same s) (by rw [h3]; exact s _ _ h3)⟩,λ a z=>by
 obtain ⟨h1,o,e⟩:=h.hid a z
 exact ⟨h1,o,s _ _ e⟩⟩
def Rh.add (ρ : Rh) (p:Addr):Rh:=⟨ρ.c ++ [p],ρ.h⟩
theorem HR.allocC {g:G} (h:HR K ρ H g) {p:Addr} (hp:H p=none) {o:HO} {c:Cell} (t:Stp ρ H (ρ.add p) (upd H p o)->ZBc K (ρ.add p) (upd H p o) p c):HR K (ρ.add p) (upd H p o) (g ++ [c])/\Stp ρ H (ρ.add p) (upd H p o):=by
 have s:Stp ρ H (ρ.add p) (upd H p o):=⟨⟨[p],rfl⟩,rfl,λ a o e _=>by rw [Zb (Zl e hp)]; exact e,λ a z=>by
  rcases List.mem_append.mp z with z | z
  ·exact .inl z
  ·rw [List.mem_singleton.mp z]; exact .inr hp,λ a u e=>⟨u,by rw [Zb (Zl e hp)]; exact e,rfl⟩⟩
 refine ⟨⟨by show (ρ.c ++ [p]).length=_; rw [List.length_append,List.length_append,h.len]; rfl,?_,λ n d e=>?_,λ a z=>?_⟩,s⟩
 ·show (ρ.c ++ [p]).Nodup
  rw [List.nodup_append]
  refine ⟨h.nd,by simp,λ a ha b hb=>?_⟩
  rw [List.mem_singleton.mp hb]
  intro z
  rw [z] at ha
  exact h.nin hp (.inl ha)
 ·show ∃ a,(ρ.c ++ [p])[n]? = some a/\_
  by_cases hn:n < g.length
  ·rw [List.getElem?_append_left hn] at e
   obtain ⟨a,h1,h2⟩:=h.ce n d e
   obtain ⟨u,h3⟩:=h2.has
   exact ⟨a,by rw [List.getElem?_append_left (by rw [h.len]; exact hn)]; exact h1,h2.mono s (Zb (Zl h3 hp))⟩
  ·have hl:n < (g ++ [c]).length:=(List.getElem?_eq_some_iff.mp e).1
   have hn':n=g.length:=by rw [List.length_append] at hl; simp at hl; omega
   rw [hn',List.getElem?_append_right (Nat.le_refl _)] at e
   simp at e
   subst e
   refine ⟨p,?_,t s⟩
   rw [hn',← h.len,List.getElem?_append_right (Nat.le_refl _)]
   simp
 ·obtain ⟨h1,u,e⟩:=h.hid a z
  refine ⟨λ q=>?_,u,by rw [Zb (Zl e hp)]; exact e⟩
  rcases List.mem_append.mp q with q | q
  ·exact h1 q
  ·rw [List.mem_singleton.mp q] at e; rw [e] at hp; cases hp
theorem HR.alloc {g:G} (h:HR K ρ H g) {p:Addr} (hp:H p=none) {vs:List V} {ds:List PyData} (t:RelDL K ρ H vs ds):HR K (ρ.add p) (upd H p (.lst vs)) (g ++ [.pl ds])/\Stp ρ H (ρ.add p) (upd H p (.lst vs)):=h.allocC hp λ s=>⟨vs,Zt,t.mono s⟩
theorem HR.writeC {g:G} (h:HR K ρ H g) {n:Nat} {a:Addr} (ha : ρ.c[n]? = some a) {o:HO} {c:Cell} (hk:∀ u,H a=some u->kdO o=kdO u) (t:Stp ρ H ρ (upd H a o)->ZBc K ρ (upd H a o) a c):HR K ρ (upd H a o) (g.set n c)/\Stp ρ H ρ (upd H a o):=by
 have hm:a ∈ ρ.c:=List.mem_of_getElem? ha
 have s:Stp ρ H ρ (upd H a o):=⟨⟨[],(List.append_nil _).symm⟩,rfl,λ b o e nb=>by rw [Zb (λ z=>nb (by rw [z]; exact hm))]; exact e,λ _ z=>.inl z,λ b u e=>by
  by_cases q:b=a
  ·subst q; exact ⟨o,Zt,hk u e⟩
  ·exact ⟨u,by rw [Zb q]; exact e,rfl⟩⟩
 refine ⟨⟨by rw [List.length_set,h.len],h.nd,λ m d e=>?_,λ b z=>?_⟩,s⟩
 ·by_cases hnm:n=m
  ·subst hnm
   have hl:n < g.length:=by have:=(List.getElem?_eq_some_iff.mp e).1; rw [List.length_set] at this; exact this
   rw [List.getElem?_set_self hl] at e
   cases e
   exact ⟨a,ha,t s⟩
  ·rw [List.getElem?_set_ne hnm] at e
   obtain ⟨b,h1,h2⟩:=h.ce m d e
   have:b ≠ a:=λ z=>by
    rw [z] at h1
    have l1:=(List.getElem?_eq_some_iff.mp h1).1
    have e1:=(List.getElem?_eq_some_iff.mp h1).2
    have l2:=(List.getElem?_eq_some_iff.mp ha).1
    have e2:=(List.getElem?_eq_some_iff.mp ha).2
    rcases Nat.lt_or_gt_of_ne hnm with q | q
    ·exact (List.pairwise_iff_getElem.mp h.nd n m l2 l1 q) (by rw [e1,e2])
    ·exact (List.pairwise_iff_getElem.mp h.nd m n l1 l2 q) (by rw [e1,e2])
   exact ⟨b,h1,h2.mono s (Zb this)⟩
 ·obtain ⟨h1,u,e⟩:=h.hid b z
  exact ⟨h1,u,by rw [Zb (λ q=>h1 (by rw [q]; exact hm))]; exact e⟩
theorem HR.write {g:G} (h:HR K ρ H g) {n:Nat} {a:Addr} (ha : ρ.c[n]? = some a) {us:List V} (hl:H a=some (.lst us)) {vs:List V} {ds:List PyData} (t:RelDL K ρ H vs ds):HR K ρ (upd H a (.lst vs)) (g.set n (.pl ds))/\Stp ρ H ρ (upd H a (.lst vs)):=h.writeC ha (λ u e=>by rw [hl] at e; cases e; rfl) λ s=>⟨vs,Zt,t.mono s⟩
theorem ZC4 {g:G} (h:HR K ρ H g) {p:Addr} {o:HO} (hp:H p=none):Same H (upd H p o)/\HR K ρ (upd H p o) g/\¬ ρ.mem p:=⟨H1.Same.upd hp,h.same (H1.Same.upd hp),h.nin hp⟩
def Rh.hide (ρ : Rh) (p:Addr):Rh:=⟨ρ.c,p :: ρ.h⟩
theorem FzL.hide {a p:Addr} {xs:List V} (hp:H p=none) (h:FzL K ρ H a xs):FzL K (ρ.hide p) (upd H p o) a xs:=by
 rcases h with ⟨h,n⟩ | h
 ·have hn:a ≠ p:=by
   rcases h with h | ⟨_,h⟩ <;> exact Zl h hp
  refine .inl ⟨?_,λ z=>z.elim (λ q=>n (.inl q)) λ q=>(List.mem_cons.mp q).elim hn λ q=>n (.inr q)⟩
  unfold Rd
  rw [Zb hn]
  exact h
 ·exact .inr h
theorem FzT.hide {a p:Addr} {xs:List V} (hp:H p=none) (h:FzT K ρ H a xs):FzT K (ρ.hide p) (upd H p o) a xs:=by
 rcases h with ⟨h,n⟩ | h
 ·have hn:a ≠ p:=by
   rcases h with h | ⟨_,h⟩ <;> exact Zl h hp
  refine .inl ⟨?_,λ z=>z.elim (λ q=>n (.inl q)) λ q=>(List.mem_cons.mp q).elim hn λ q=>n (.inr q)⟩
  unfold Rd
  rw [Zb hn]
  exact h
 ·exact .inr h
mutual
theorem RelD.hide {p:Addr} {o:HO} (hp:H p=none):∀ {v:V} {d:PyData},RelD K ρ H v d->RelD K (ρ.hide p) (upd H p o) v d
 | _,_,.non=>.non
 | _,_,.bl b=>.bl b
 | _,_,.int i=>.int i
 | _,_,.str x=>.str x
 | _,_,.tup h hl=>.tup (h.hide hp) (RelDL.hide hp hl)
 | _,_,.lst h n hl=>.lst (by rw [Zb (Zl h hp)]; exact h) (λ z=>z.elim (λ q=>n (.inl q)) λ q=>(List.mem_cons.mp q).elim (Zl h hp) λ q=>n (.inr q)) (RelDL.hide hp hl)
 | _,_,.dct h n=>.dct (by rw [Zb (Zl h hp)]; exact h) λ z=>z.elim (λ q=>n (.inl q)) λ q=>(List.mem_cons.mp q).elim (Zl h hp) λ q=>n (.inr q)
theorem RelDL.hide {p:Addr} {o:HO} (hp:H p=none):∀ {vs:List V} {ds:List PyData},RelDL K ρ H vs ds->RelDL K (ρ.hide p) (upd H p o) vs ds
 | _,_,.nil=>.nil
 | _,_,.cons h hl=>.cons (RelD.hide hp h) (RelDL.hide hp hl)
end
mutual
theorem Rel.hide {p:Addr} {o:HO} (hp:H p=none):∀ {v:V} {x:W},Rel K ρ H v x->Rel K (ρ.hide p) (upd H p o) v x
 | _,_,.dat h=>.dat (h.hide hp)
 | _,_,.ref h=>.ref h
 | _,_,.inp h=>.inp (h.hide hp)
 | _,_,.ty=>.ty
 | _,_,.tup h t=>.tup (h.hide hp) (RelL.hide hp t)
theorem RelL.hide {p:Addr} {o:HO} (hp:H p=none):∀ {vs:List V} {xs:List W},RelL K ρ H vs xs->RelL K (ρ.hide p) (upd H p o) vs xs
 | _,_,.nil=>.nil
 | _,_,.cons h t=>.cons (Rel.hide hp h) (RelL.hide hp t)
end
theorem RelF.hide {p:Addr} {o:HO} (hp:H p=none):∀ {ns:List Str} {vs:List (Str × V)} {xs:List W},RelF K ρ H ns vs xs->RelF K (ρ.hide p) (upd H p o) ns vs xs
 | _,_,_,.nil=>.nil
 | _,_,_,.cons h t=>.cons (h.hide hp) (t.hide hp)
theorem ZBc.hide {p:Addr} {o:HO} (hp:H p=none) {a:Addr} {c:Cell} (h:ZBc K ρ H a c):ZBc K (ρ.hide p) (upd H p o) a c:=by
 obtain ⟨u,hu⟩:=h.has
 have e:upd H p o a=H a:=Zb (Zl hu hp)
 cases c with
 | pl ds=>obtain ⟨vs,h1,h2⟩:=h; exact ⟨vs,by rw [e]; exact h1,h2.hide hp⟩
 | rl ws=>obtain ⟨vs,h1,h2⟩:=h; exact ⟨vs,by rw [e]; exact h1,h2.hide hp⟩
 | ob c fs=>obtain ⟨C,dx,vs,h0,h1,h2⟩:=h; exact ⟨C,dx,vs,h0,by rw [e]; exact h1,h2.hide hp⟩
theorem HR.hide {g:G} {p:Addr} {o:HO} (hp:H p=none) (h:HR K ρ H g):HR K (ρ.hide p) (upd H p o) g:=⟨h.len,h.nd,λ n ds e=>by
 obtain ⟨a,h1,h2⟩:=h.ce n ds e
 exact ⟨a,h1,h2.hide hp⟩,λ a z=>by
 rcases List.mem_cons.mp z with rfl | z
 ·exact ⟨λ q=>h.nin hp (.inl q),o,Zt⟩
 ·obtain ⟨h1,u,e⟩:=h.hid a z
  exact ⟨h1,u,by rw [Zb (Zl e hp)]; exact e⟩⟩
theorem FzL.grow {a p:Addr} {xs:List V} (hp:p ∈ ρ.h) (h:FzL K ρ H a xs):FzL K ρ (upd H p o) a xs:=by
 rcases h with ⟨h,n⟩ | h
 ·refine .inl ⟨?_,n⟩
  unfold Rd
  rw [Zb λ z=>n (.inr (by rw [z]; exact hp))]
  exact h
 ·exact .inr h
theorem FzT.grow {a p:Addr} {xs:List V} (hp:p ∈ ρ.h) (h:FzT K ρ H a xs):FzT K ρ (upd H p o) a xs:=by
 rcases h with ⟨h,n⟩ | h
 ·refine .inl ⟨?_,n⟩
  unfold Rd
  rw [Zb λ z=>n (.inr (by rw [z]; exact hp))]
  exact h
 ·exact .inr h
mutual
theorem RelD.grow {p:Addr} {o:HO} (hp:p ∈ ρ.h):∀ {v:V} {d:PyData},RelD K ρ H v d->RelD K ρ (upd H p o) v d
 | _,_,.non=>.non
 | _,_,.bl b=>.bl b
 | _,_,.int i=>.int i
 | _,_,.str x=>.str x
 | _,_,.tup h hl=>.tup (h.grow hp) (RelDL.grow hp hl)
 | _,_,.lst h n hl=>.lst (by rw [Zb λ z=>n (.inr (by rw [z]; exact hp))]; exact h) n (RelDL.grow hp hl)
 | _,_,.dct h n=>.dct (by rw [Zb λ z=>n (.inr (by rw [z]; exact hp))]; exact h) n
theorem RelDL.grow {p:Addr} {o:HO} (hp:p ∈ ρ.h):∀ {vs:List V} {ds:List PyData},RelDL K ρ H vs ds->RelDL K ρ (upd H p o) vs ds
 | _,_,.nil=>.nil
 | _,_,.cons h hl=>.cons (RelD.grow hp h) (RelDL.grow hp hl)
end
mutual
theorem Rel.grow {p:Addr} {o:HO} (hp:p ∈ ρ.h):∀ {v:V} {x:W},Rel K ρ H v x->Rel K ρ (upd H p o) v x
 | _,_,.dat h=>.dat (h.grow hp)
 | _,_,.ref h=>.ref h
 | _,_,.inp h=>.inp (h.grow hp)
 | _,_,.ty=>.ty
 | _,_,.tup h t=>.tup (h.grow hp) (RelL.grow hp t)
theorem RelL.grow {p:Addr} {o:HO} (hp:p ∈ ρ.h):∀ {vs:List V} {xs:List W},RelL K ρ H vs xs->RelL K ρ (upd H p o) vs xs
 | _,_,.nil=>.nil
 | _,_,.cons h t=>.cons (Rel.grow hp h) (RelL.grow hp t)
end
theorem RelF.grow {p:Addr} {o:HO} (hp:p ∈ ρ.h):∀ {ns:List Str} {vs:List (Str × V)} {xs:List W},RelF K ρ H ns vs xs->RelF K ρ (upd H p o) ns vs xs
 | _,_,_,.nil=>.nil
 | _,_,_,.cons h t=>.cons (h.grow hp) (t.grow hp)
theorem HR.grow {g:G} {p:Addr} {o:HO} (hp:p ∈ ρ.h) (h:HR K ρ H g):HR K ρ (upd H p o) g:=⟨h.len,h.nd,λ n ds e=>by
 obtain ⟨a,h1,h2⟩:=h.ce n ds e
 have eh:upd H p o a=H a:=Zb λ z=>(h.hid p hp).1 (by rw [← z]; exact List.mem_of_getElem? h1)
 refine ⟨a,h1,?_⟩
 cases ds with
 | pl ds=>obtain ⟨vs,h1,h2⟩:=h2; exact ⟨vs,by rw [eh]; exact h1,h2.grow hp⟩
 | rl ws=>obtain ⟨vs,h1,h2⟩:=h2; exact ⟨vs,by rw [eh]; exact h1,h2.grow hp⟩
 | ob c fs=>obtain ⟨C,dx,vs,h0,h1,h2⟩:=h2; exact ⟨C,dx,vs,h0,by rw [eh]; exact h1,h2.grow hp⟩,λ a z=>by
 obtain ⟨h1,u,e⟩:=h.hid a z
 by_cases q:a=p
 ·subst q; exact ⟨h1,o,Zt⟩
 ·exact ⟨h1,u,by rw [Zb q]; exact e⟩⟩
theorem HR.shown {g:G} {p:Addr} (h:HR K (ρ.hide p) H g):HR K ρ H g:=⟨h.len,h.nd,λ n ds e=>by
 obtain ⟨a,h1,h2⟩:=h.ce n ds e
 exact ⟨a,h1,h2.less (ρ':=ρ) (ρ:=ρ.hide p) rfl (λ _ z=>z.elim .inl λ q=>.inr (List.mem_cons_of_mem _ q))⟩,λ a z=>h.hid a (List.mem_cons_of_mem _ z)⟩
end
structure Rst (K:PySem.W.Frag) (ρ : Rh) (H:Hp) (σ : St) (sd:Sd) (g:G):Prop where
 len : σ.length=sd.length
 env:∀ (i:Nat) (x:W),sd[i]? = some (some x)->∃ v,σ[i]? = some (some v)/\Rel K ρ H v x
 hr:HR K ρ H g
theorem Rst.step {K:PySem.W.Frag} {ρ ρ':Rh} {H H':Hp} {σ : St} {sd:Sd} {g g':G} (r:Rst K ρ H σ sd g) (s:Stp ρ H ρ' H') (h:HR K ρ' H' g'):Rst K ρ' H' σ sd g':=⟨r.len,λ i x e=>by
 obtain ⟨v,h1,h2⟩:=r.env i x e
 exact ⟨v,h1,h2.mono s⟩,h⟩
theorem Rst.set {K:PySem.W.Frag} {ρ : Rh} {H:Hp} {σ : St} {sd:Sd} {g:G} (r:Rst K ρ H σ sd g) {v:V} {x:W} (t:Rel K ρ H v x) (i:Nat):Rst K ρ H (σ.set i (some v)) (sd.set i (some x)) g:=⟨by rw [List.length_set,List.length_set,r.len],λ j y e=>by
 by_cases hj:i=j
 ·subst hj
  have hl:i < sd.length:=by have:=(List.getElem?_eq_some_iff.mp e).1; rw [List.length_set] at this; exact this
  rw [List.getElem?_set_self hl] at e
  cases e
  exact ⟨v,by rw [List.getElem?_set_self (by rw [r.len]; exact hl)],t⟩
 ·rw [List.getElem?_set_ne hj] at e
  obtain ⟨u,h1,h2⟩:=r.env j y e
  exact ⟨u,by rw [List.getElem?_set_ne hj]; exact h1,h2⟩,r.hr⟩
abbrev DE:=Sd->G->Option (W × G)
abbrev DB:=Sd->G->Option (Bool × G)
abbrev DA:=Sd->G->Option (List W × G)
def Pv (K:PySem.W.Frag) (ρ : Rh) (H:Hp) (x:W) (g:G) (Q:VK):Prop:=∀ v H' ρ',Stp ρ H ρ' H'->HR K ρ' H' g->Rel K ρ' H' v x->Q v H'
theorem Pv.step {K:PySem.W.Frag} {ρ ρ':Rh} {H H':Hp} {x:W} {g:G} {Q:VK} (p:Pv K ρ H x g Q) (s:Stp ρ H ρ' H'):Pv K ρ' H' x g Q:=λ v H2 ρ2 s2 h r=>p v H2 ρ2 (s.trans s2) h r
def tE (K:PySem.W.Frag) (d:DE):TE:=λ σ H Q=>∃ ρ sd g x g',Rst K ρ H σ sd g/\d sd g=some (x,g')/\Pv K ρ H x g' Q
def tT (K:PySem.W.Frag) (d:DB):TT:=λ σ H Q=>∃ ρ sd g b g',Rst K ρ H σ sd g/\d sd g=some (b,g')/\∀ H' ρ',Stp ρ H ρ' H'->HR K ρ' H' g'->Q b H'
def tA (K:PySem.W.Frag) (d:DA):TA:=λ σ H Q=>∃ ρ sd g xs g',Rst K ρ H σ sd g/\d sd g=some (xs,g')/\∀ vs H' ρ',Stp ρ H ρ' H'->HR K ρ' H' g'->RelL K ρ' H' vs xs->Q vs H'
theorem PE.imp {X:Cx} {e:Expr} {t u:TE} (h:PE X e t) (k:∀ σ H Q,u σ H Q->t σ H Q):PE X e u:=λ pins s σ H Q I q=>h pins s σ H Q I (k σ H Q q)
theorem PT.imp {X:Cx} {e:Expr} {t u:TT} (h:PT X e t) (k:∀ σ H Q,u σ H Q->t σ H Q):PT X e u:=λ pins s σ H Q I q=>h pins s σ H Q I (k σ H Q q)
theorem PW.imp {X:Cx} {e:Expr} {t u:TT} (h:PW X e t) (k:∀ σ H Q,u σ H Q->t σ H Q):PW X e u:=λ wh pins s σ H Q I q=>h wh pins s σ H Q I (k σ H Q q)
theorem PA.imp {X:Cx} {e:List Expr} {t u:TA} (h:PA X e t) (k:∀ σ H Q,u σ H Q->t σ H Q):PA X e u:=λ pos pins s σ H Q I q=>h pos pins s σ H Q I (k σ H Q q)
theorem PS.imp {X:Cx} {e:Stmt} {t u:TS} (h:PS X e t) (k:∀ D σ H,u D σ H->t D σ H):PS X e u:=λ pins s σ H D I q=>h pins s σ H D I (k D σ H q)
theorem PSs.imp {X:Cx} {e:List Stmt} {t u:TS} (h:PSs X e t) (k:∀ D σ H,u D σ H->t D σ H):PSs X e u:=λ pins s σ H D I q=>h pins s σ H D I (k D σ H q)
theorem OpR.imp {X:Cx} {f:Value->Value->Sem Value} {r r':R2} (h:OpR X f r) (k:∀ x y H Q,r' x y H Q->r x y H Q):OpR X f r':=λ pins s σ H x y v u Q I rx ry q=>h pins s σ H x y v u Q I rx ry (k x y H Q q)
theorem ZAG.imp {X:Cx} {f:Value} {r r':List V->Hp->VK->Prop} (h:ZAG X f r) (k:∀ xs H Q,r' xs H Q->r xs H Q):ZAG X f r':=λ pins s σ H xs us Q I rx q=>h pins s σ H xs us Q I rx (k xs H Q q)
end L2
namespace L2
open PySem PySem.Spec PyProof.Rows H1
def ZD (i:Nat):DE:=λ sd g=>match sd.getD i none with | some x=>some (x,g) | none=>none
def dC (d:PyData):DE:=λ _ g=>some (.dat d,g)
def dOp (f:W->W->G->Option (W × G)) (da db:DE):DE:=λ sd g=>(da sd g).bind λ p=>(db sd p.2).bind λ q=>f p.1 q.1 q.2
def bW:W × G->Option (Bool × G)
 | (.dat (.bool b),g)=>some (b,g)
 | _=>none
def dB (d:DE):DB:=λ sd g=>(d sd g).bind bW
def ZE6 (d:DB):DB:=λ sd g=>(d sd g).map λ p=>(!p.1,p.2)
def ZCG (d e:DB):DB:=λ sd g=>(d sd g).bind λ p=>if p.1=true then e sd p.2 else some (false,p.2)
def dOr (d e:DB):DB:=λ sd g=>(d sd g).bind λ p=>if p.1=true then some (true,p.2) else e sd p.2
def ZL:DA:=λ _ g=>some ([],g)
def ZC (d:DE) (a:DA):DA:=λ sd g=>(d sd g).bind λ p=>(a sd p.2).map λ q=>(p.1 :: q.1,q.2)
def dF (f:List W->G->Option (W × G)) (a:DA):DE:=λ sd g=>(a sd g).bind λ p=>f p.1 p.2
def ZNe:List W->Option (List PyData)
 | []=>some []
 | .dat d :: r=>(ZNe r).map λ ds=>d :: ds
 | _ :: _=>none
def Zw (ws:List W) (g:G):Option (W × G):=(ZNe ws).bind λ ds=>if ds.length<=1000 then some (.dat (.tuple ds),g) else none
def ZFx (ws:List W) (g:G):Option (W × G):=(ZNe ws).bind λ ds=>if ds.length<=1000 then some (.dat (.list ds),g) else none
def ZCq (ws:List W) (g:G):Option (W × G):=(ZNe ws).bind λ ds=>if ds.length<=1000 then some (.ref g.length,g ++ [.pl ds]) else none
def rOp (K:PySem.W.Frag) (f:W->W->G->Option (W × G)):R2:=λ x y H Q=>∃ ρ a b g z g',HR K ρ H g/\Rel K ρ H x a/\Rel K ρ H y b/\f a b g=some (z,g')/\Pv K ρ H z g' Q
def rF (K:PySem.W.Frag) (f:List W->G->Option (W × G)):List V->Hp->VK->Prop:=λ xs H Q=>∃ ρ ws g z g',HR K ρ H g/\RelL K ρ H xs ws/\f ws g=some (z,g')/\Pv K ρ H z g' Q
theorem bnd {α β : Type} {o:Option α} {f : α->Option β} {y : β} (h:o.bind f=some y):∃ x,o=some x/\f x=some y:=by
 cases o with
 | none=>cases h
 | some x=>exact ⟨x,rfl,h⟩
theorem mp {α β : Type} {o:Option α} {f : α->β} {y : β} (h:o.map f=some y):∃ x,o=some x/\f x=y:=by
 cases o with
 | none=>cases h
 | some x=>exact ⟨x,rfl,Option.some.inj h⟩
theorem ZE7 {K:PySem.W.Frag} {ρ : Rh} {H:Hp}:∀ {vs:List V} {ws:List W} {ds:List PyData},RelL K ρ H vs ws->ZNe ws=some ds->RelDL K ρ H vs ds
 | _,[],_,.nil,e=>by cases e; exact .nil
 | _,.dat d :: r,_,.cons (.dat h) t,e=>by
  obtain ⟨x,e1,rfl⟩:=mp e
  exact .cons h (ZE7 t e1)
 | _,.ref _ :: _,_,.cons _ _,e=>by cases e
 | _,.inp _ :: _,_,.cons _ _,e=>by cases e
 | _,.ty _ :: _,_,.cons _ _,e=>by cases e
 | _,.tup _ :: _,_,.cons _ _,e=>by cases e
section
variable {X:Cx} {a b c e:Expr} {es:List Expr} {da db dc d:DE} {ta tb:DB} {aa:DA} {pos p2:Pos} {f f':W->W->G->Option (W × G)}
theorem ZR6 (i:Nat) {x:Str} {pos:Pos} (hN:X.N[i]? = some x:=by rfl) (hv:Vis X.env.scope x:=by first | exact Or.inl rfl | exact Or.inr (Or.inl rfl) | exact Or.inr (Or.inr rfl)) (hd:(x == ("__debug__" : Str))=false:=by decide)
  (hcd:(x == ("__classdict__" : Str))=false:=by decide):PE X (.Name x pos) (tE X.K (ZD i)):=(ZR0 hN hv hd hcd).imp λ σ H Q ⟨ρ,sd,g,y,g',r,e,q⟩=>by
 unfold ZD at e
 cases h:sd.getD i none with
 | none=>rw [h] at e; cases e
 | some z =>
  rw [h] at e
  cases e
  have h':sd[i]? = some (some y):=by
   rw [List.getD_eq_getElem?_getD] at h
   cases k:sd[i]? with
   | none=>rw [k] at h; cases h
   | some w=>rw [k] at h; exact congrArg some h
  obtain ⟨v,h1,h2⟩:=r.env i y h'
  exact ⟨v,h1,q v H ρ .refl r.hr h2⟩
theorem ZN9 {v:V} {d:PyData} (h:PE X e (tC v)) (r:∀ ρ H,RelD X.K ρ H v d):PE X e (tE X.K (dC d)):=h.imp λ σ H Q ⟨ρ,sd,g,y,g',hr,e,q⟩=>by
 cases e
 exact q v H ρ .refl hr.hr (.dat (r ρ H))
theorem ZRr {i j pos}:PE X (.Constant (.int i) j pos) (tE X.K (dC (.int i))):=ZN9 ZK2 λ _ _=>.int i
theorem de_bl {b j pos}:PE X (.Constant (.bool b) j pos) (tE X.K (dC (.bool b))):=ZN9 pe_bl λ _ _=>.bl b
theorem ZQm {j pos}:PE X (.Constant .none j pos) (tE X.K (dC .none)):=ZN9 ZR4 λ _ _=>.non
theorem ZQ5 {x j pos}:PE X (.Constant (.str x) j pos) (tE X.K (dC (.str x))):=ZN9 ZQl λ _ _=>.str x
theorem ZNa {x:Str} {n:Int} (hg:Gl X x) (h:ZKS X.mg x n) (hd:(x == ("__debug__" : Str))=false:=by decide):PE X (.Name x pos) (tE X.K (dC (.int n))):=ZN9 (ZNB hg h hd) λ _ _=>.int n
theorem ZLD {σ : St} {H:Hp} {Q:VK} (h:tE X.K (dOp f da db) σ H Q):tOp (rOp X.K f) (tE X.K da) (tE X.K db) σ H Q:=by
 obtain ⟨ρ,sd,g,x,g',r,e,q⟩:=h
 obtain ⟨⟨y,g1⟩,e1,e⟩:=bnd e
 obtain ⟨⟨z,g2⟩,e2,e⟩:=bnd e
 refine ⟨ρ,sd,g,y,g1,r,e1,λ v H1 ρ1 s1 h1 r1=>⟨ρ1,sd,g1,z,g2,r.step s1 h1,e2,λ w H2 ρ2 s2 h2 r2=>?_⟩⟩
 exact ⟨ρ2,y,z,g2,x,g',h2,r1.mono s2,r2,e,q.step (s1.trans s2)⟩
theorem de_op {op:Operator} (ho:OpR X (binaryOp op) (rOp X.K f)) (ha:PE X a (tE X.K da)) (hb:PE X b (tE X.K db)):PE X (.BinOp a op b pos) (tE X.K (dOp f da db)):=(ZQW ho ha hb).imp λ _ _ _ h=>ZLD h
theorem ZRT {op:CmpOp} (ho:OpR X (compareOp op) (rOp X.K f)) (ha:PE X a (tE X.K da)) (hb:PE X b (tE X.K db)) (hm:behindInMarks op b=false):PE X (.Compare a [op] [b] pos) (tE X.K (dOp f da db)):=(ZP9 ho ha hb hm).imp λ _ _ _ h=>ZLD h
theorem de_ix (ho:IxR X (rOp X.K f)) (ha:PE X a (tE X.K da)) (hb:PE X b (tE X.K db)) (hs:ZE3 b):PE X (.Subscript a b pos) (tE X.K (dOp f da db)):=(ZQZ ho ha hb hs).imp λ _ _ _ h=>ZLD h
theorem ZIL {K:PySem.W.Frag} {ρ : Rh} {H:Hp} {v:V} {x:W} {g g':G} {k:Bool} (r:Rel K ρ H v x) (h:bW (x,g)=some (k,g')):v=.bl k/\g=g':=by
 cases r with
 | ref _=>cases h
 | inp _=>cases h
 | ty=>cases h
 | tup _ _=>cases h
 | dat r =>
  cases r with
  | bl c=>cases h; exact ⟨rfl,rfl⟩
  | _=>cases h
theorem ZK6 {σ : St} {H:Hp} {Q:Bool->Hp->Prop} {t:TE} (k:∀ σ H Q,tE X.K d σ H Q->t σ H Q) (h:tT X.K (dB d) σ H Q):ZQX t σ H Q:=by
 obtain ⟨ρ,sd,g,b,g',r,e,q⟩:=h
 obtain ⟨⟨y,g1⟩,e1,e⟩:=bnd e
 refine k _ _ _ ⟨ρ,sd,g,y,g1,r,e1,λ v H1 ρ1 s1 h1 r1=>?_⟩
 obtain ⟨rfl,rfl⟩:=ZIL r1 e
 exact ⟨b,rfl,q H1 ρ1 s1 h1⟩
theorem ZRW {op:CmpOp} (ho:OpR X (compareOp op) (rOp X.K f)) (ha:PE X a (tE X.K da)) (hb:PE X b (tE X.K db)) (hm:behindInMarks op b=false):PT X (.Compare a [op] [b] pos) (tT X.K (dB (dOp f da db))):=(ZO2 ho ha hb hm).imp λ _ _ _ h=>ZK6 (λ _ _ _ h=>ZLD h) h
theorem ZRQ (h:PE X e (tE X.K d)) (he:∀ whole,isTrue e X.env whole=(do let v ← whole; standAt e.pos; holding [v] (truthy v)):=by intro _; rfl):PT X e (tT X.K (dB d)):=(ZQd h he).imp λ _ _ _ h=>ZK6 (λ _ _ _ h=>h) h
theorem ZRk (h:PT X a (tT X.K ta)):PT X (.UnaryOp .Not a pos) (tT X.K (ZE6 ta)):=(ZRd h).imp λ σ H Q ⟨ρ,sd,g,b,g',r,e,q⟩=>by
 obtain ⟨⟨y,g1⟩,e1,e⟩:=mp e
 cases e
 exact ⟨ρ,sd,g,y,g1,r,e1,q⟩
theorem ZP6 (h:PT X a (tT X.K ta)):PW X (.BoolOp .And [a] pos) (tT X.K ta):=ZPs h
theorem ZQg (h:PT X a (tT X.K ta)):PW X (.BoolOp .Or [a] pos) (tT X.K ta):=ZQc h
theorem ZQo {rest:List Expr} (ha:PT X a (tT X.K ta)) (hb:PW X (.BoolOp .And (b :: rest) pos) (tT X.K tb)):PW X (.BoolOp .And (a :: b :: rest) pos) (tT X.K (ZCG ta tb)):=(ZRK ha hb).imp λ σ H Q ⟨ρ,sd,g,b,g',r,e,q⟩=>by
 obtain ⟨⟨y,g1⟩,e1,e⟩:=bnd e
 refine ⟨ρ,sd,g,y,g1,r,e1,λ H1 ρ1 s1 h1=>?_⟩
 cases y with
 | true=>exact ⟨ρ1,sd,g1,b,g',r.step s1 h1,e,λ H2 ρ2 s2 h2=>q H2 ρ2 (s1.trans s2) h2⟩
 | false=>cases e; exact q H1 ρ1 s1 h1
theorem dw_or {rest:List Expr} (ha:PT X a (tT X.K ta)) (hb:PW X (.BoolOp .Or (b :: rest) pos) (tT X.K tb)):PW X (.BoolOp .Or (a :: b :: rest) pos) (tT X.K (dOr ta tb)):=(pw_or ha hb).imp λ σ H Q ⟨ρ,sd,g,b,g',r,e,q⟩=>by
 obtain ⟨⟨y,g1⟩,e1,e⟩:=bnd e
 refine ⟨ρ,sd,g,y,g1,r,e1,λ H1 ρ1 s1 h1=>?_⟩
 cases y with
 | false=>exact ⟨ρ1,sd,g1,b,g',r.step s1 h1,e,λ H2 ρ2 s2 h2=>q H2 ρ2 (s1.trans s2) h2⟩
 | true=>cases e; exact q H1 ρ1 s1 h1
def ZBg (a b:DE):DE:=λ sd g=>((a sd g).bind bW).bind λ p=>if p.1=true then b sd p.2 else some (.dat (.bool false),p.2)
def ZKH (a b:DE):DE:=λ sd g=>((a sd g).bind bW).bind λ p=>if p.1=true then some (.dat (.bool true),p.2) else b sd p.2
def ZHc (a:DE):DE:=λ sd g=>((a sd g).bind bW).map λ p=>(.dat (.bool !p.1),p.2)
theorem ZSE {op} (h:PE X a (tE X.K da)):PE X (.BoolOp op [a] pos) (tE X.K da):=ZSD h
theorem ZRz {rest:List Expr} (ha:PE X a (tE X.K da)) (hb:PE X (.BoolOp .And (b :: rest) pos) (tE X.K db)):PE X (.BoolOp .And (a :: b :: rest) pos) (tE X.K (ZBg da db)):=(ZRy ha hb).imp λ σ H Q ⟨ρ,sd,g,x,g',r,e,q⟩=>by
 obtain ⟨⟨k,g2⟩,e1,e⟩:=bnd e
 obtain ⟨⟨y,g1⟩,e1,e2⟩:=bnd e1
 refine ⟨ρ,sd,g,y,g1,r,e1,λ v H1 ρ1 s1 h1 r1=>?_⟩
 obtain ⟨rfl,rfl⟩:=ZIL r1 e2
 refine ⟨k,rfl,?_⟩
 cases k with
 | true=>exact ⟨ρ1,sd,g1,x,g',r.step s1 h1,e,q.step s1⟩
 | false=>cases e; exact q _ H1 ρ1 s1 h1 (.dat (.bl false))
theorem de_or {rest:List Expr} (ha:PE X a (tE X.K da)) (hb:PE X (.BoolOp .Or (b :: rest) pos) (tE X.K db)):PE X (.BoolOp .Or (a :: b :: rest) pos) (tE X.K (ZKH da db)):=(pe_or ha hb).imp λ σ H Q ⟨ρ,sd,g,x,g',r,e,q⟩=>by
 obtain ⟨⟨k,g2⟩,e1,e⟩:=bnd e
 obtain ⟨⟨y,g1⟩,e1,e2⟩:=bnd e1
 refine ⟨ρ,sd,g,y,g1,r,e1,λ v H1 ρ1 s1 h1 r1=>?_⟩
 obtain ⟨rfl,rfl⟩:=ZIL r1 e2
 refine ⟨k,rfl,?_⟩
 cases k with
 | false=>exact ⟨ρ1,sd,g1,x,g',r.step s1 h1,e,q.step s1⟩
 | true=>cases e; exact q _ H1 ρ1 s1 h1 (.dat (.bl true))
theorem ZRg (ha:PE X a (tE X.K da)):PE X (.UnaryOp .Not a pos) (tE X.K (ZHc da)):=(ZSI ha).imp λ σ H Q ⟨ρ,sd,g,x,g',r,e,q⟩=>by
 obtain ⟨⟨k,g2⟩,e1,e⟩:=mp e
 obtain ⟨⟨y,g1⟩,e1,e2⟩:=bnd e1
 refine ⟨ρ,sd,g,y,g1,r,e1,λ v H1 ρ1 s1 h1 r1=>?_⟩
 obtain ⟨rfl,rfl⟩:=ZIL r1 e2
 cases e
 exact ⟨k,rfl,q _ H1 ρ1 s1 h1 (.dat (.bl _))⟩
theorem ZOE:PA X [] (tA X.K ZL):=ZK3.imp λ σ H Q ⟨ρ,sd,g,xs,g',r,e,q⟩=>by
 cases e
 exact q [] H ρ .refl r.hr .nil
theorem ZLP (ha:PE X e (tE X.K d)) (hr:PA X es (tA X.K aa)) (hs:starEach (e :: es) X.env=(false,eval e X.env) :: starEach es X.env:=by rfl):PA X (e :: es) (tA X.K (ZC d aa)):=(ZIS ha hr hs).imp λ σ H Q ⟨ρ,sd,g,xs,g',r,e,q⟩=>by
 obtain ⟨⟨y,g1⟩,e1,e⟩:=bnd e
 obtain ⟨⟨ys,g2⟩,e2,e⟩:=mp e
 cases e
 exact ⟨ρ,sd,g,y,g1,r,e1,λ v H1 ρ1 s1 h1 r1=>⟨ρ1,sd,g1,ys,g2,r.step s1 h1,e2,λ vs H2 ρ2 s2 h2 r2=>q (v :: vs) H2 ρ2 (s1.trans s2) h2 (.cons (r1.mono s2) r2)⟩⟩
theorem ZQj {x1} (h:PA X es (tA X.K aa)):PE X (.Tuple es x1 pos) (tE X.K (dF Zw aa)):=(ZRh h).imp λ σ H Q ⟨ρ,sd,g,x,g',r,e,q⟩=>by
 obtain ⟨⟨ws,g1⟩,e1,e⟩:=bnd e
 refine ⟨ρ,sd,g,ws,g1,r,e1,λ vs H1 ρ1 s1 h1 r1=>?_⟩
 obtain ⟨ds,e2,e⟩:=bnd e
 have rd:=ZE7 r1 e2
 by_cases hz:ds.length<=1000
 ·simp only [if_pos hz] at e
  cases e
  refine ⟨by rw [rd.length]; exact Nat.le_of_lt (Z7 hz),λ p hp=>?_⟩
  obtain ⟨sm,hr2,hn⟩:=ZC4 (o:=.tup vs) h1 hp
  exact q _ _ ρ1 (s1.trans (.same sm)) hr2 (.dat (.tup (.inl ⟨.inl Zt,hn⟩) (rd.mono (.same sm))))
 ·simp only [if_neg hz] at e
  cases e
theorem ZRs (h:PA X es (tA X.K aa)):PE X (.List es pos) (tE X.K (dF ZFx aa)):=(ZKd h).imp λ σ H Q ⟨ρ,sd,g,x,g',r,e,q⟩=>by
 obtain ⟨⟨ws,g1⟩,e1,e⟩:=bnd e
 refine ⟨ρ,sd,g,ws,g1,r,e1,λ vs H1 ρ1 s1 h1 r1=>?_⟩
 obtain ⟨ds,e2,e⟩:=bnd e
 have rd:=ZE7 r1 e2
 by_cases hz:ds.length<=1000
 ·simp only [if_pos hz] at e
  cases e
  refine ⟨by rw [rd.length]; exact Nat.le_of_lt (Z7 hz),λ p hp=>?_⟩
  obtain ⟨sm,hr2,hn⟩:=ZC4 (o:=.lst vs) h1 hp
  exact q _ _ ρ1 (s1.trans (.same sm)) hr2 (.dat (.lst Zt hn (rd.mono (.same sm))))
 ·simp only [if_neg hz] at e
  cases e
theorem ZPe (h:PA X es (tA X.K aa)):PE X (.List es pos) (tE X.K (dF ZCq aa)):=(ZKd h).imp λ σ H Q ⟨ρ,sd,g,x,g',r,e,q⟩=>by
 obtain ⟨⟨ws,g1⟩,e1,e⟩:=bnd e
 refine ⟨ρ,sd,g,ws,g1,r,e1,λ vs H1 ρ1 s1 h1 r1=>?_⟩
 obtain ⟨ds,e2,e⟩:=bnd e
 have rd:=ZE7 r1 e2
 by_cases hz:ds.length<=1000
 ·simp only [if_pos hz] at e
  cases e
  refine ⟨by rw [rd.length]; exact Nat.le_of_lt (Z7 hz),λ p hp=>?_⟩
  obtain ⟨hr2,st⟩:=h1.alloc hp rd
  exact q _ _ _ (s1.trans st) hr2 (.ref (by show (ρ1.c ++ [p])[_]? = _; rw [← h1.len]; simp))
 ·simp only [if_neg hz] at e
  cases e
theorem ZSN {fn:List W->G->Option (W × G)} {σ : St} {H:Hp} {Q:VK} (h:tE X.K (dF fn aa) σ H Q):tA X.K aa σ H λ vs H1=>rF X.K fn vs H1 Q:=by
 obtain ⟨ρ,sd,g,x,g',r,e,q⟩:=h
 obtain ⟨⟨ws,g1⟩,e1,e⟩:=bnd e
 exact ⟨ρ,sd,g,ws,g1,r,e1,λ vs H1 ρ1 s1 h1 r1=>⟨ρ1,ws,g1,x,g',h1,r1,e,q.step s1⟩⟩
end
end L2
namespace L2
open PySem PySem.Spec PyProof.Rows H1
section
variable {X:Cx} {x:Str} {p pos:Pos} {e:Expr} {es:List Expr} {aa:DA} {id T:String} {fn:List W->G->Option (W × G)}
theorem ZNK (hc:ZAG X (.builtin id) (rF X.K fn)) (hg:Gl X x) (hm:X.mg x=none) (hv:bootBuiltins x=some (.builtin id)) (ha:PA X (e :: es) (tA X.K aa)) (hn:x ≠ "__name__":=by decide) (hdb:(x == ("__debug__" : Str))=false:=by decide)
  (he:starEach (e :: es) X.env=(false,eval e X.env) :: starEach es X.env:=by rfl) (hpl:(backTo pos (starEach es X.env)).any (·.1)=false:=by rfl):PE X (.Call (.Name x p) (e :: es) [] pos) (tE X.K (dF fn aa)):=(ZOJ hc hg hm hv ha hn hdb he hpl).imp λ _ _ _ h=>ZSN h
theorem ZMR (hc:ZAG X (.type T) (rF X.K fn)) (hg:Gl X x) (hm:X.mg x=none) (hv:bootBuiltins x=some (.type T)) (ha:PA X (e :: es) (tA X.K aa)) (hn:x ≠ "__name__":=by decide) (hdb:(x == ("__debug__" : Str))=false:=by decide)
  (he:starEach (e :: es) X.env=(false,eval e X.env) :: starEach es X.env:=by rfl) (hpl:(backTo pos (starEach es X.env)).any (·.1)=false:=by rfl):PE X (.Call (.Name x p) (e :: es) [] pos) (tE X.K (dF fn aa)):=(ZFH hc hg hm hv ha hn hdb he hpl).imp λ _ _ _ h=>ZSN h
def spD (K:PySem.W.Frag) (n:Nat) (fn:List W->G->Option (W × G)):Sp:=λ vs H Q _=>vs.length=n/\rF K fn vs H Q
inductive Many:DA->Nat->Prop
 | nil:Many ZL 0
 | cons {d:DE} {a:DA} {n:Nat}:Many a n->Many (ZC d a) (n+1)
theorem Many.len {a:DA} {n:Nat} (m:Many a n):∀ {sd:Sd} {g g':G} {ws:List W},a sd g=some (ws,g')->ws.length=n:=by
 induction m with
 | nil=>intro sd g g' ws e; cases e; rfl
 | cons m ih =>
  intro sd g g' ws e
  obtain ⟨⟨y,g1⟩,e1,e⟩:=bnd e
  obtain ⟨⟨ys,g2⟩,e2,e⟩:=mp e
  cases e
  rw [List.length_cons,ih e2]
theorem ZOj {st:Stmt} {ps:List Str} {f:Addr} {fd:FuncData} {k n:Nat} (D:Def X.K X.mg x st ps f fd) (F:FnOk X.prog X.w X.K X.mg X.base CX0 k f fd ps (spD X.K n fn)) (hr:Room k X.A)
  (ha:PA X (e :: es) (tA X.K aa)) (hm:Many aa n) (hg:Gl X x:=by rfl) (hdb:(x == ("__debug__" : Str))=false:=by decide) (he:starEach (e :: es) X.env=(false,eval e X.env) :: starEach es X.env:=by rfl) (hpl:(backTo pos (starEach es X.env)).any (·.1)=false:=by rfl) :
  PE X (.Call (.Name x p) (e :: es) [] pos) (tE X.K (dF fn aa)):=(pcall D F hr ha hg hdb he hpl).imp λ σ H Q h=>by
 obtain ⟨ρ,sd,g,x,g',r,e,q⟩:=h
 obtain ⟨⟨ws,g1⟩,e1,e⟩:=bnd e
 refine ⟨ρ,sd,g,ws,g1,r,e1,λ vs H1 ρ1 s1 h1 r1=>?_⟩
 show spD X.K n fn (vs ++ []) H1 Q E0
 rw [List.append_nil]
 exact ⟨by rw [r1.length]; exact hm.len e1,ρ1,ws,g1,x,g',h1,r1,e,q.step s1⟩
end
mutual
inductive Pat where
 | nm (i:Nat)
 | tp (ps:Pats)
inductive Pats where
 | nil
 | cons (p:Pat) (r:Pats)
end
def Pats.len:Pats->Nat
 | .nil=>0
 | .cons _ r=>r.len+1
mutual
def Pat.all (f:Nat->Bool):Pat->Bool
 | .nm i=>f i
 | .tp ps=>ps.all f
def Pats.all (f:Nat->Bool):Pats->Bool
 | .nil=>true
 | .cons p r=>p.all f && r.all f
end
mutual
def gP (K:PySem.W.Frag):Pat->TG
 | .nm i=>ZJo i
 | .tp ps=>ZSS K ps.len (gPs K ps)
def gPs (K:PySem.W.Frag):Pats->TGs
 | .nil=>ZSM
 | .cons p r=>ZQM (gP K p) (gPs K r)
end
mutual
def Zx:Pat->W->Sd->Option Sd
 | .nm i,x,sd=>some (sd.set i (some x))
 | .tp ps,.dat (.tuple ds),sd=>ZCR ps ds sd
 | .tp ps,.tup ws,sd=>ZBd ps ws sd
 | .tp _,_,_=>none
def ZBd:Pats->List W->Sd->Option Sd
 | .nil,[],sd=>some sd
 | .cons p r,d :: ds,sd=>(Zx p d sd).bind λ sd'=>ZBd r ds sd'
 | _,_,_=>none
def ZCR:Pats->List PyData->Sd->Option Sd
 | .nil,[],sd=>some sd
 | .cons p r,d :: ds,sd=>(Zx p (.dat d) sd).bind λ sd'=>ZCR r ds sd'
 | _,_,_=>none
end
def ZIB (f:Nat->Bool) (σ σ':St):Prop:=σ.length = σ'.length/\∀ i,f i=false->σ'[i]? = σ[i]?
theorem ZIB.refl {f:Nat->Bool} {σ : St}:ZIB f σ σ:=⟨rfl,λ _ _=>rfl⟩
theorem ZIB.trans {f:Nat->Bool} {σ σ1 σ2:St} (h:ZIB f σ σ1) (k:ZIB f σ1 σ2):ZIB f σ σ2:=⟨h.1.trans k.1,λ i e=>(k.2 i e).trans (h.2 i e)⟩
mutual
theorem ZJl {K:PySem.W.Frag} {ρ : Rh} {H:Hp} {g:G} {f:Nat->Bool}:∀ {p:Pat} {x:W} {sd sd':Sd} {σ : St} {v:V} {Q:St->Hp->Prop},p.all f=true->Zx p x sd=some sd'->Rst K ρ H σ sd g->Rel K ρ H v x->(∀ σ',Rst K ρ H σ' sd' g->ZIB f σ σ'->Q σ' H)->gP K p v σ H Q
 | .nm i,x,sd,sd',σ,v,Q,hf,e,r,rv,q=>by
  rw [Zx] at e
  cases e
  rw [gP]
  refine q _ (r.set rv i) ⟨by rw [List.length_set],λ j hj=>?_⟩
  have:i ≠ j:=λ z=>by rw [Pat.all,z,hj] at hf; cases hf
  rw [List.getElem?_set_ne this]
 | .tp ps,.dat (.tuple ds),sd,sd',σ,_,Q,hf,e,r,.dat (.tup h hl),q=>by
  rw [Zx] at e
  rw [Pat.all] at hf
  rw [gP]
  exact ⟨_,_,rfl,h.sq,hl.length.trans (ZGQ e),ZNA hf e r hl q⟩
 | .tp ps,.tup ws,sd,sd',σ,_,Q,hf,e,r,.tup h hl,q=>by
  rw [Zx] at e
  rw [Pat.all] at hf
  rw [gP]
  exact ⟨_,_,rfl,h.sq,hl.length.trans (ZFj e),ZLI hf e r hl q⟩
 | .tp _,.dat .none,_,_,_,_,_,_,e,_,_,_=>by simp [Zx] at e
 | .tp _,.dat (.bool _),_,_,_,_,_,_,e,_,_,_=>by simp [Zx] at e
 | .tp _,.dat (.int _),_,_,_,_,_,_,e,_,_,_=>by simp [Zx] at e
 | .tp _,.dat (.str _),_,_,_,_,_,_,e,_,_,_=>by simp [Zx] at e
 | .tp _,.dat (.list _),_,_,_,_,_,_,e,_,_,_=>by simp [Zx] at e
 | .tp _,.dat (.dict _),_,_,_,_,_,_,e,_,_,_=>by simp [Zx] at e
 | .tp _,.ref _,_,_,_,_,_,_,e,_,_,_=>by simp [Zx] at e
 | .tp _,.inp _,_,_,_,_,_,_,e,_,_,_=>by simp [Zx] at e
 | .tp _,.ty _,_,_,_,_,_,_,e,_,_,_=>by simp [Zx] at e
theorem ZNA {K:PySem.W.Frag} {ρ : Rh} {H:Hp} {g:G} {f:Nat->Bool}:∀ {ps:Pats} {ds:List PyData} {sd sd':Sd} {σ : St} {vs:List V} {Q:St->Hp->Prop},ps.all f=true->ZCR ps ds sd=some sd'->Rst K ρ H σ sd g->RelDL K ρ H vs ds->(∀ σ',Rst K ρ H σ' sd' g->ZIB f σ σ'->Q σ' H)->gPs K ps vs σ H Q
 | .nil,[],sd,sd',σ,_,Q,hf,e,r,.nil,q=>by
  rw [ZCR] at e
  cases e
  rw [gPs]
  exact ⟨rfl,q _ r .refl⟩
 | .cons p ps,d :: ds,sd,sd',σ,_,Q,hf,e,r,.cons (x:=v) (xs:=vs) h t,q=>by
  rw [ZCR] at e
  obtain ⟨sd1,e1,e⟩:=bnd e
  rw [Pats.all,Bool.and_eq_true] at hf
  rw [gPs]
  exact ⟨v,vs,rfl,ZJl hf.1 e1 r (.dat h) λ σ1 r1 k1=>ZNA hf.2 e r1 t λ σ2 r2 k2=>q σ2 r2 (k1.trans k2)⟩
 | .nil,_ :: _,_,_,_,_,_,_,e,_,_,_=>by simp [ZCR] at e
 | .cons _ _,[],_,_,_,_,_,_,e,_,_,_=>by simp [ZCR] at e
theorem ZLI {K:PySem.W.Frag} {ρ : Rh} {H:Hp} {g:G} {f:Nat->Bool}:∀ {ps:Pats} {ds:List W} {sd sd':Sd} {σ : St} {vs:List V} {Q:St->Hp->Prop},ps.all f=true->ZBd ps ds sd=some sd'->Rst K ρ H σ sd g->RelL K ρ H vs ds->(∀ σ',Rst K ρ H σ' sd' g->ZIB f σ σ'->Q σ' H)->gPs K ps vs σ H Q
 | .nil,[],sd,sd',σ,_,Q,hf,e,r,.nil,q=>by
  rw [ZBd] at e
  cases e
  rw [gPs]
  exact ⟨rfl,q _ r .refl⟩
 | .cons p ps,d :: ds,sd,sd',σ,_,Q,hf,e,r,.cons (v:=v) (vs:=vs) h t,q=>by
  rw [ZBd] at e
  obtain ⟨sd1,e1,e⟩:=bnd e
  rw [Pats.all,Bool.and_eq_true] at hf
  rw [gPs]
  exact ⟨v,vs,rfl,ZJl hf.1 e1 r h λ σ1 r1 k1=>ZLI hf.2 e r1 t λ σ2 r2 k2=>q σ2 r2 (k1.trans k2)⟩
 | .nil,_ :: _,_,_,_,_,_,_,e,_,_,_=>by simp [ZBd] at e
 | .cons _ _,[],_,_,_,_,_,_,e,_,_,_=>by simp [ZBd] at e
theorem ZFj:∀ {ps:Pats} {ds:List W} {sd sd':Sd},ZBd ps ds sd=some sd'->ds.length=ps.len
 | .nil,[],_,_,_=>rfl
 | .cons p ps,d :: ds,sd,sd',e=>by
  rw [ZBd] at e
  obtain ⟨sd1,e1,e⟩:=bnd e
  rw [List.length_cons,ZFj e,Pats.len]
 | .nil,_ :: _,_,_,e=>by simp [ZBd] at e
 | .cons _ _,[],_,_,e=>by simp [ZBd] at e
theorem ZGQ:∀ {ps:Pats} {ds:List PyData} {sd sd':Sd},ZCR ps ds sd=some sd'->ds.length=ps.len
 | .nil,[],_,_,_=>rfl
 | .cons p ps,d :: ds,sd,sd',e=>by
  rw [ZCR] at e
  obtain ⟨sd1,e1,e⟩:=bnd e
  rw [List.length_cons,ZGQ e,Pats.len]
 | .nil,_ :: _,_,_,e=>by simp [ZCR] at e
 | .cons _ _,[],_,_,e=>by simp [ZCR] at e
end
section
variable {X:Cx} {pos:Pos}
theorem dg_nm {i:Nat} {x:Str} (hN:X.N.Nodup) (hi:X.N[i]? = some x) (hx:Loc X.env.scope x) (hf:X.fn x=true ∨ X.env.scope.names.lookup x=some .local:=by first | exact .inl rfl | exact .inr rfl | assumption):PG X (.Name x pos) (gP X.K (.nm i)):=by
 rw [gP]
 exact ZPR hN hi hx hf
theorem dg_tp {es:List Expr} {k:Nat} {ps:Pats} (hc:X.calm=true) (h:PGs X es (gPs X.K ps)) (hn:(assignEach es X.env).length=ps.len:=by rfl) (hst:(assignEach es X.env).findIdx? (·.1)=none:=by rfl):PG X (.Tuple es k pos) (gP X.K (.tp ps)):=by
 rw [gP]
 exact ZQp hc h hn hst
theorem ZRH:PGs X [] (gPs X.K .nil):=by
 rw [gPs]
 exact ZOk
theorem ZPK {e:Expr} {es:List Expr} {p:Pat} {ps:Pats} (h1:PG X e (gP X.K p)) (h2:PGs X es (gPs X.K ps)) (hs:(assignEach (e :: es) X.env).map (·.2)=assign e X.env :: (assignEach es X.env).map (·.2):=by rfl):PGs X (e :: es) (gPs X.K (.cons p ps)):=by
 rw [gPs]
 exact ZNv h1 h2 hs
end
inductive Out where
 | nx (sd:Sd) (g:G)
 | rt (x:W) (g:G)
 | bk (sd:Sd) (g:G)
 | ct (sd:Sd) (g:G)
abbrev DS:=Sd->G->Option Out
def ZHb (K:PySem.W.Frag) (ρ : Rh) (H:Hp) (E:Ends):Out->Prop
 | .nx sd g=>∀ σ' H' ρ',Stp ρ H ρ' H'->Rst K ρ' H' σ' sd g->E.nx σ' H'
 | .rt x g=>Pv K ρ H x g E.rt
 | .bk sd g=>∀ σ' H' ρ',Stp ρ H ρ' H'->Rst K ρ' H' σ' sd g->E.bk σ' H'
 | .ct sd g=>∀ σ' H' ρ',Stp ρ H ρ' H'->Rst K ρ' H' σ' sd g->E.ct σ' H'
theorem ZHb.step {K:PySem.W.Frag} {ρ ρ':Rh} {H H':Hp} {E:Ends} {o:Out} (h:ZHb K ρ H E o) (s:Stp ρ H ρ' H'):ZHb K ρ' H' E o:=by
 cases o with
 | nx sd g=>exact λ σ2 H2 ρ2 s2 r=>h σ2 H2 ρ2 (s.trans s2) r
 | rt x g=>exact Pv.step h s
 | bk sd g=>exact λ σ2 H2 ρ2 s2 r=>h σ2 H2 ρ2 (s.trans s2) r
 | ct sd g=>exact λ σ2 H2 ρ2 s2 r=>h σ2 H2 ρ2 (s.trans s2) r
def tS (K:PySem.W.Frag) (d:DS):TS:=λ E σ H=>∃ ρ sd g o,Rst K ρ H σ sd g/\d sd g=some o/\ZHb K ρ H E o
def dNx:DS:=λ sd g=>some (.nx sd g)
def ZP (a b:DS):DS:=λ sd g=>(a sd g).bind λ o=>match o with | .nx sd' g'=>b sd' g' | o=>some o
def Zi (i:Nat) (d:DE):DS:=λ sd g=>(d sd g).bind λ p=>some (.nx (sd.set i (some p.1)) p.2)
def ZAO (pt:Pat) (d:DE):DS:=λ sd g=>(d sd g).bind λ p=>(Zx pt p.1 sd).map λ sd'=>.nx sd' p.2
def Za (d:DE):DS:=λ sd g=>(d sd g).map λ p=>.rt p.1 p.2
def ZA3 (d:DE):DS:=λ sd g=>(d sd g).map λ p=>.nx sd p.2
def Z5 (c:DB) (a b:DS):DS:=λ sd g=>(c sd g).bind λ p=>if p.1=true then a sd p.2 else b sd p.2
section
variable {X:Cx} {pos:Pos} {st:Stmt} {rest ss:List Stmt} {a b:DS} {d:DE} {e c:Expr} {tc:DB}
theorem ZOa:PSs X [] (tS X.K dNx):=ZPz.imp λ D σ H ⟨ρ,sd,g,o,r,e,q⟩=>by
 cases e
 exact q σ H ρ .refl r
theorem ZOd (h:PS X st (tS X.K a)):PSs X [st] (tS X.K a):=ZP3 h
theorem ZNC (h1:PS X st (tS X.K a)) (h2:PSs X rest (tS X.K b)):PSs X (st :: rest) (tS X.K (ZP a b)):=(ZM5 h1 h2).imp λ D σ H ⟨ρ,sd,g,o,r,e,q⟩=>by
 obtain ⟨o1,e1,e⟩:=bnd e
 refine ⟨ρ,sd,g,o1,r,e1,?_⟩
 cases o1 with
 | nx sd1 g1=>exact λ σ1 H1 ρ1 s1 r1=>⟨ρ1,sd1,g1,o,r1,e,q.step s1⟩
 | rt x g1=>cases e; exact q
 | bk _ _=>cases e; exact q
 | ct _ _=>cases e; exact q
theorem ZRn {i:Nat} {x:Str} {pos':Pos} (hN:X.N.Nodup) (hi:X.N[i]? = some x) (hx:Loc X.env.scope x) (he:PE X e (tE X.K d)) (hs:swapsWith e (some (.Name x pos')) pos.line X.env=pure false:=by rfl) (hf:X.fn x=true ∨ X.env.scope.names.lookup x=some .local:=by first | exact .inl rfl | exact .inr rfl | assumption) :
  PS X (.Assign [.Name x pos'] e pos) (tS X.K (Zi i d)):=(ZRL hN hi hx he hs hf).imp λ D σ H ⟨ρ,sd,g,o,r,e,q⟩=>by
 obtain ⟨⟨y,g1⟩,e1,e⟩:=bnd e
 cases e
 exact ⟨ρ,sd,g,y,g1,r,e1,λ v H1 ρ1 s1 h1 r1=>q _ H1 ρ1 s1 ((r.step s1 h1).set r1 i)⟩
theorem ZRB {tg:Expr} {pt:Pat} (he:PE X e (tE X.K d)) (hg:PG X tg (gP X.K pt)) (hs:swapsWithSole [tg] e pos.line X.env=pure false:=by rfl) (hw:swappedStores [tg] e X.env=pure none:=by rfl)
  (h1:(assignEach [tg] X.env).map (·.2)=[assign tg X.env]:=by rfl):PS X (.Assign [tg] e pos) (tS X.K (ZAO pt d)):=(ZMv he hg hs hw h1).imp λ D σ H ⟨ρ,sd,g,o,r,e,q⟩=>by
 obtain ⟨⟨y,g1⟩,e1,e⟩:=bnd e
 obtain ⟨sd1,e2,e⟩:=mp e
 cases e
 refine ⟨ρ,sd,g,y,g1,r,e1,λ v H1 ρ1 s1 h1 r1=>ZJl (f:=λ _=>true) ?_ e2 (r.step s1 h1) r1 λ σ2 r2 _=>q _ H1 ρ1 s1 r2⟩
 clear e2 hg
 exact Pat.rec (motive_1:=λ p=>p.all (λ _=>true)=true) (motive_2:=λ p=>p.all (λ _=>true)=true) (λ i=>by rw [Pat.all]) (λ ps h=>by rw [Pat.all]; exact h) (by rw [Pats.all]) (λ p r h1 h2=>by rw [Pats.all,h1,h2]; rfl) pt
theorem ZRJ (he:PE X e (tE X.K d)):PS X (.Return (some e) pos) (tS X.K (Za d)):=(ZR2 he).imp λ D σ H ⟨ρ,sd,g,o,r,e,q⟩=>by
 obtain ⟨⟨y,g1⟩,e1,e⟩:=mp e
 cases e
 exact ⟨ρ,sd,g,y,g1,r,e1,q⟩
theorem ZOf (he:PE X e (tE X.K d)) (hs:swapsWith e none pos.line X.env=pure false:=by rfl):PS X (.Expr e pos) (tS X.K (ZA3 d)):=(ZPx he hs).imp λ D σ H ⟨ρ,sd,g,o,r,e,q⟩=>by
 obtain ⟨⟨y,g1⟩,e1,e⟩:=mp e
 cases e
 exact ⟨ρ,sd,g,y,g1,r,e1,λ v H1 ρ1 s1 h1 r1=>q σ H1 ρ1 s1 (r.step s1 h1)⟩
theorem ds_if {sa sb:List Stmt} (hc:PT X c (tT X.K tc)) (ha:PSs X sa (tS X.K a)) (hb:PSs X sb (tS X.K b)):PS X (.If c sa sb pos) (tS X.K (Z5 tc a b)):=(ps_if hc ha hb).imp λ D σ H ⟨ρ,sd,g,o,r,e,q⟩=>by
 obtain ⟨⟨k,g1⟩,e1,e⟩:=bnd e
 refine ⟨ρ,sd,g,k,g1,r,e1,λ H1 ρ1 s1 h1=>?_⟩
 cases k with
 | true=>exact ⟨ρ1,sd,g1,o,r.step s1 h1,e,q.step s1⟩
 | false=>exact ⟨ρ1,sd,g1,o,r.step s1 h1,e,q.step s1⟩
end
abbrev DI:=Sd->G->Option (List PyData × Option Nat × G)
def ZBk (src:Option Nat) (xs:List PyData) (g:G):Prop:=match src with | none=>True | some n=>g[n]? = some (.pl xs)
def lk (g:G) (n:Nat):Option (List PyData):=match g[n]? with | some (.pl ds)=>some ds | _=>none
theorem ZF2 {g:G} {n:Nat} {ds:List PyData} (h:lk g n=some ds):g[n]? = some (.pl ds):=by
 unfold lk at h
 split at h
 ·rename_i e; cases h; exact e
 ·cases h
theorem ZJA {g:G} {n:Nat} {ds:List PyData} (h:g[n]? = some (.pl ds)):lk g n=some ds:=by
 unfold lk
 rw [h]
def ZBn (n:Nat) (lo:Int):List PyData:=(List.range n).map λ (i:Nat)=>.int (lo+(i:Int))
def ZCI:Nat->List PyData->List PyData
 | _,[]=>[]
 | i,x :: r=>.tuple [.int (i:Int),x] :: ZCI (i+1) r
def ZEI:List PyData->List PyData->List PyData
 | x :: r,y :: q=>.tuple [x,y] :: ZEI r q
 | _,_=>[]
theorem ZHy:∀ {xs:List PyData} {k i:Nat} {x:PyData},(ZCI k xs)[i]? = some x->∃ y,xs[i]? = some y/\x=.tuple [.int ((k+i:Nat):Int),y]
 | [],_,_,_,e=>by simp [ZCI] at e
 | y :: r,k,0,x,e=>by
  rw [ZCI] at e
  simp at e
  exact ⟨y,rfl,e.symm⟩
 | y :: r,k,i+1,x,e=>by
  rw [ZCI,List.getElem?_cons_succ] at e
  obtain ⟨z,e1,e2⟩:=ZHy e
  exact ⟨z,by simpa using e1,by rw [e2]; congr 4; omega⟩
theorem ZBW:∀ {xs:List PyData} {k:Nat},(ZCI k xs).length=xs.length
 | [],_=>rfl
 | y :: r,k=>by rw [ZCI,List.length_cons,List.length_cons,ZBW]
theorem ZJT:∀ {xs ys:List PyData} {i:Nat} {x:PyData},(ZEI xs ys)[i]? = some x->∃ y z,xs[i]? = some y/\ys[i]? = some z/\x=.tuple [y,z]
 | [],_,_,_,e=>by simp [ZEI] at e
 | _ :: _,[],_,_,e=>by simp [ZEI] at e
 | y :: r,z :: q,0,x,e=>by
  rw [ZEI] at e
  simp at e
  exact ⟨y,z,rfl,rfl,e.symm⟩
 | y :: r,z :: q,i+1,x,e=>by
  rw [ZEI,List.getElem?_cons_succ] at e
  obtain ⟨u,v,e1,e2,e3⟩:=ZJT e
  exact ⟨u,v,by simpa using e1,by simpa using e2,e3⟩
theorem ZF9:∀ {xs ys:List PyData},(ZEI xs ys).length=min xs.length ys.length
 | [],_=>by simp [ZEI]
 | _ :: _,[]=>by simp [ZEI]
 | y :: r,z :: q=>by rw [ZEI,List.length_cons,List.length_cons,List.length_cons,ZF9]; omega
inductive ItOk (K:PySem.W.Frag) (ρ : Rh) (H:Hp):It->List PyData->Option Nat->Prop
 | list {a:Addr} {vs:List V} {ds:List PyData}:FzL K ρ H a vs->RelDL K ρ H vs ds->ItOk K ρ H (Itl K a) ds none
 | tup {a:Addr} {vs:List V} {ds:List PyData}:FzT K ρ H a vs->RelDL K ρ H vs ds->ItOk K ρ H (Itt K a) ds none
 | cell {a:Addr} {n:Nat} {ds:List PyData} : ρ.c[n]? = some a->ItOk K ρ H (Itl K a) ds (some n)
 | rng {lo:Int} {n:Nat}:ItOk K ρ H (Itr lo n) (ZBn n lo) none
 | enum {a:Addr} {vs:List V} {ds:List PyData}:FzT K ρ H a vs->RelDL K ρ H vs ds->ItOk K ρ H (Ite K a) (ZCI 0 ds) none
 | zip {a b:Addr} {vs us:List V} {ds es:List PyData}:FzT K ρ H a vs->RelDL K ρ H vs ds->FzT K ρ H b us->RelDL K ρ H us es->ItOk K ρ H (Itz K a b) (ZEI ds es) none
section
variable {K:PySem.W.Frag} {ρ ρ':Rh} {H H':Hp} {J:It} {xs:List PyData} {src:Option Nat}
theorem ItOk.mono (s:Stp ρ H ρ' H') (h:ItOk K ρ H J xs src):ItOk K ρ' H' J xs src:=by
 cases h with
 | list f t=>exact .list (f.mono s) (t.mono s)
 | tup f t=>exact .tup (f.mono s) (t.mono s)
 | cell h =>
  obtain ⟨r,e⟩:=s.pre
  exact .cell (by rw [e,List.getElem?_append_left (List.getElem?_eq_some_iff.mp h).1]; exact h)
 | rng=>exact .rng
 | enum f t=>exact .enum (f.mono s) (t.mono s)
 | zip f t f2 t2=>exact .zip (f.mono s) (t.mono s) (f2.mono s) (t2.mono s)
theorem ItOk.hide {p:Addr} {o:HO} (hp:H p=none) (h:ItOk K ρ H J xs src):ItOk K (ρ.hide p) (upd H p o) J xs src:=by
 cases h with
 | list f t=>exact .list (f.hide hp) (t.hide hp)
 | tup f t=>exact .tup (f.hide hp) (t.hide hp)
 | cell h=>exact .cell h
 | rng=>exact .rng
 | enum f t=>exact .enum (f.hide hp) (t.hide hp)
 | zip f t f2 t2=>exact .zip (f.hide hp) (t.hide hp) (f2.hide hp) (t2.hide hp)
theorem ItOk.grow {p:Addr} {o:HO} (hp:p ∈ ρ.h) (h:ItOk K ρ H J xs src):ItOk K ρ (upd H p o) J xs src:=by
 cases h with
 | list f t=>exact .list (f.grow hp) (t.grow hp)
 | tup f t=>exact .tup (f.grow hp) (t.grow hp)
 | cell h=>exact .cell h
 | rng=>exact .rng
 | enum f t=>exact .enum (f.grow hp) (t.grow hp)
 | zip f t f2 t2=>exact .zip (f.grow hp) (t.grow hp) (f2.grow hp) (t2.grow hp)
theorem ItOk.use {g:G} (h:ItOk K ρ H J xs src) (h':HR K ρ H g) (so:ZBk src xs g):(∀ (i:Nat) x,xs[i]? = some x->J.go i H/\∀ v H2,J.yld i H v H2->Same H H2/\RelD K ρ H2 v x)/\∀ i,xs.length<=i->J.stop i H:=by
 cases h with
 | @list a vs ds f t =>
  refine ⟨λ i x e=>?_,λ i hi=>⟨vs,f.sq,by rw [t.length]; exact hi⟩⟩
  obtain ⟨v,e1,r1⟩:=t.getD e
  refine ⟨⟨vs,v,f.sq,e1⟩,λ u H2 y=>?_⟩
  obtain ⟨rfl,y⟩:=y
  have:=y vs f.sq
  rw [e1] at this
  cases this
  exact ⟨Same.refl _,r1⟩
 | @tup a vs ds f t =>
  refine ⟨λ i x e=>?_,λ i hi=>⟨vs,f.sq,by rw [t.length]; exact hi⟩⟩
  obtain ⟨v,e1,r1⟩:=t.getD e
  refine ⟨⟨vs,v,f.sq,e1⟩,λ u H2 y=>?_⟩
  obtain ⟨rfl,y⟩:=y
  have:=y vs f.sq
  rw [e1] at this
  cases this
  exact ⟨Same.refl _,r1⟩
 | @cell a n ds h =>
  obtain ⟨b,vs,e1,e2,tq⟩:=h'.at_ n _ so
  rw [h] at e1
  cases e1
  have hq:SqL K H a vs:=SqL.of e2
  refine ⟨λ i x e=>?_,λ i hi=>⟨vs,hq,by rw [tq.length]; exact hi⟩⟩
  obtain ⟨v,e1,r1⟩:=tq.getD e
  refine ⟨⟨vs,v,hq,e1⟩,λ u H2 y=>?_⟩
  obtain ⟨rfl,y⟩:=y
  have:=y vs hq
  rw [e1] at this
  cases this
  exact ⟨Same.refl _,r1⟩
 | @rng lo n =>
  refine ⟨λ i x e=>?_,λ i hi=>?_⟩
  ·unfold ZBn at e
   rw [List.getElem?_map] at e
   obtain ⟨k,e1,rfl⟩:=mp e
   obtain ⟨hl,hk⟩:=List.getElem?_eq_some_iff.mp e1
   rw [List.getElem_range] at hk
   subst hk
   rw [List.length_range] at hl
   refine ⟨hl,λ u H2 y=>?_⟩
   obtain ⟨rfl,rfl⟩:=y
   exact ⟨Same.refl _,.int _⟩
  ·unfold ZBn at hi
   rw [List.length_map,List.length_range] at hi
   exact hi
 | @enum a vs ds f t =>
  refine ⟨λ i x e=>?_,λ i hi=>⟨vs,f.sq,by rw [t.length]; rw [ZBW] at hi; exact hi⟩⟩
  obtain ⟨y,e2,rfl⟩:=ZHy e
  obtain ⟨v,e3,r1⟩:=t.getD e2
  refine ⟨⟨vs,v,f.sq,e3⟩,λ u H2 yy=>?_⟩
  obtain ⟨pp,x',rfl,hp,rfl,yy⟩:=yy
  have:=yy vs f.sq
  rw [e3] at this
  cases this
  obtain ⟨sm,hr2,hn2⟩:=ZC4 (o:=.tup [.int i,v]) h' hp
  refine ⟨sm,.tup (.inl ⟨.inl Zt,hn2⟩) (.cons ?_ (.cons (r1.mono (.same sm)) .nil))⟩
  rw [Nat.zero_add]
  exact .int _
 | @zip a b vs us ds es f t f2 t2 =>
  refine ⟨λ i x e=>?_,λ i hi=>⟨vs,us,f.sq,f2.sq,by rw [t.length,t2.length]; rw [ZF9] at hi; omega⟩⟩
  obtain ⟨y,z,e2,e3,rfl⟩:=ZJT e
  obtain ⟨v,e4,r4⟩:=t.getD e2
  obtain ⟨w,e5,r5⟩:=t2.getD e3
  refine ⟨⟨vs,us,v,w,f.sq,f2.sq,e4,e5⟩,λ u H2 yy=>?_⟩
  obtain ⟨pp,x',y',rfl,hp,rfl,yy⟩:=yy
  obtain ⟨y1,y2⟩:=yy vs us f.sq f2.sq
  rw [e4] at y1
  rw [e5] at y2
  cases y1
  cases y2
  obtain ⟨sm,hr2,hn2⟩:=ZC4 (o:=.tup [v,w]) h' hp
  exact ⟨sm,.tup (.inl ⟨.inl Zt,hn2⟩) (.cons (r4.mono (.same sm)) (.cons (r5.mono (.same sm)) .nil))⟩
end
def tI (K:PySem.W.Frag) (d:DI):TI:=λ σ H R=>∃ ρ sd g xs src g',Rst K ρ H σ sd g/\d sd g=some (xs,src,g')/\∀ J H' ρ',Stp ρ H ρ' H'->HR K ρ' H' g'->ZBk src xs g'/\ItOk K ρ' H' J xs src->R J H'
def ZMZ:W->G->Option (List PyData × Option Nat × G)
 | .dat (.list ds),g=>some (ds,none,g)
 | .dat (.tuple ds),g=>some (ds,none,g)
 | .ref n,g=>(lk g n).map λ ds=>(ds,some n,g)
 | .inp ns,g=>some (ns.map .int,none,g)
 | _,_=>none
def ZCb (d:DE):DI:=λ sd g=>(d sd g).bind λ p=>ZMZ p.1 p.2
theorem PI.imp {X:Cx} {tg e:Expr} {t u:TI} (h:PI X tg e t) (k:∀ σ H Q,u σ H Q->t σ H Q):PI X tg e u:=λ pins s σ H Q I q=>h pins s σ H Q I (k σ H Q q)
def ZOi (K:PySem.W.Frag) (tl:TE):TI:=λ σ H R=>tl σ H λ x H1=>(∃ a,x=.ref a/\(∃ xs,SqL K H1 a xs)/\R (Itl K a) H1) ∨ (∃ a,x=.ref a/\(∃ xs,SqT K H1 a xs)/\R (Itt K a) H1)
section
variable {X:Cx} {tg:Expr} {pos:Pos}
theorem ZLe {l:Expr} {tl:TE} (hl:PE X l tl):PI X tg l (ZOi X.K tl):=by
 intro pins s σ H R I h
 refine thn (hl pins s σ H _ I h) λ v s1 ⟨x,H1,I1,r1,q1⟩=>?_
 rcases q1 with ⟨a,e,⟨xs,hq⟩,q⟩ | ⟨a,e,⟨xs,hq⟩,q⟩
 ·subst e
  cases r1
  obtain ⟨its,rv,p,hz⟩:=I1.list hq
  refine wpAny_pyIter_list p.isList ?_
  refine ⟨s1.heap.objs.size,[s1.heap.objs.size],_,_,H1,rfl,I1.kept (t':=s1.toks) λ b o e=>Heap.get?_push_of_some _ e,ZMP a _,⟨_,Heap.get?_push_size _ rfl,rfl,rfl⟩,λ b hb=>?_,q⟩
  have e:b=s1.heap.objs.size:=by simpa using hb
  subst e
  exact I1.fpOk (Nat.le_refl _) (I1.hok.fresh (Nat.le_refl _))
 ·subst e
  cases r1
  obtain ⟨its,rv,p,hz⟩:=I1.tuple hq
  refine wpAny_pyIter_tuple (show s1.heap.IsTuple a its.toArray from p) ?_
  refine ⟨s1.heap.objs.size,[s1.heap.objs.size],_,_,H1,rfl,I1.kept (t':=s1.toks) λ b o e=>Heap.get?_push_of_some _ e,ZKa a _,⟨_,Heap.get?_push_size _ rfl,rfl,rfl⟩,λ b hb=>?_,q⟩
  have e:b=s1.heap.objs.size:=by simpa using hb
  subst e
  exact I1.fpOk (Nat.le_refl _) (I1.hok.fresh (Nat.le_refl _))
theorem ZQ8 {l:Expr} {d:DE} (hl:PE X l (tE X.K d)):PI X tg l (tI X.K (ZCb d)):=(ZLe hl).imp λ σ H R ⟨ρ,sd,g,xs,src,g',r,e,q⟩=>by
 obtain ⟨⟨y,g1⟩,e1,e⟩:=bnd e
 refine ⟨ρ,sd,g,y,g1,r,e1,λ v H1 ρ1 s1 h1 r1=>?_⟩
 cases r1 with
 | ref h =>
  obtain ⟨ds,e2,e⟩:=mp e
  cases e
  have e2:=ZF2 e2
  obtain ⟨b,vs,e3,e4,tq⟩:=h1.at_ _ _ e2
  rw [h] at e3
  cases e3
  exact .inl ⟨_,rfl,⟨vs,SqL.of e4⟩,q _ H1 ρ1 s1 h1 ⟨e2,ItOk.cell h⟩⟩
 | ty=>cases e
 | tup _ _=>cases e
 | inp h=>cases e; exact .inl ⟨_,rfl,⟨_,h.sq⟩,q _ H1 ρ1 s1 h1 ⟨trivial,ItOk.list h RelDL.ofInts⟩⟩
 | dat h =>
  cases h with
  | tup h t=>cases e; exact .inr ⟨_,rfl,⟨_,h.sq⟩,q _ H1 ρ1 s1 h1 ⟨trivial,ItOk.tup h t⟩⟩
  | lst h n t=>cases e; exact .inl ⟨_,rfl,⟨_,SqL.of h⟩,q _ H1 ρ1 s1 h1 ⟨trivial,ItOk.list (.inl ⟨.inl h,n⟩) t⟩⟩
  | _=>cases e
def ZAV (a:DA):DI:=λ sd g=>(a sd g).bind λ p=>match p.1 with
 | [.dat (.int j)]=>if j<=1000/\-1000<=j then some (ZBn j.toNat 0,none,p.2) else none
 | [.dat (.int i),.dat (.int j)]=>if (j<=1000/\-1000<=j)/\(i<=1000/\-1000<=i) then some (ZBn (j - i).toNat i,none,p.2) else none
 | _=>none
theorem ZLc {a:Expr} {da:DA} {p pos:Pos} (hg:Gl X "range") (hm:X.mg "range" = none) (ha:PA X [a] (tA X.K da)) (hs:starEach [a] X.env=[(false,eval a X.env)]:=by rfl) (hn:Many da 1):PI X tg (.Call (.Name "range" p) [a] [] pos) (tI X.K (ZAV da)):=(ZL3 hg hm ha hs).imp λ σ H R ⟨ρ,sd,g,xs,src,g',r,e,q⟩=>by
 obtain ⟨⟨ws,g1⟩,e1,e⟩:=bnd e
 refine ⟨ρ,sd,g,ws,g1,r,e1,λ vs H1 ρ1 s1 h1 r1=>?_⟩
 have hl:=hn.len e1
 cases r1 with
 | nil=>cases hl
 | cons h t =>
  cases t with
  | cons _ _=>cases hl
  | nil =>
   cases h with
   | ref _=>cases e
   | inp _=>cases e
   | ty=>cases e
   | tup _ _=>cases e
   | dat h =>
    cases h with
    | int j =>
     dsimp only at e
     split at e
     ·rename_i hj
      cases e
      exact ⟨j,rfl,by omega,by omega,q _ H1 ρ1 s1 h1 ⟨trivial,ItOk.rng⟩⟩
     ·cases e
    | _=>cases e
theorem ZLd {a b:Expr} {da:DA} {p pos:Pos} (hg:Gl X "range") (hm:X.mg "range" = none) (ha:PA X [a,b] (tA X.K da)) (hs:starEach [a,b] X.env=[(false,eval a X.env),(false,eval b X.env)]:=by rfl) (hs2:starEach [b] X.env=[(false,eval b X.env)]:=by rfl) (hn:Many da 2) :
  PI X tg (.Call (.Name "range" p) [a,b] [] pos) (tI X.K (ZAV da)):=(ZLu hg hm ha hs hs2).imp λ σ H R ⟨ρ,sd,g,xs,src,g',r,e,q⟩=>by
 obtain ⟨⟨ws,g1⟩,e1,e⟩:=bnd e
 refine ⟨ρ,sd,g,ws,g1,r,e1,λ vs H1 ρ1 s1 h1 r1=>?_⟩
 have hl:=hn.len e1
 cases r1 with
 | nil=>cases hl
 | cons h t =>
  cases t with
  | nil=>cases hl
  | cons h2 t =>
   cases t with
   | cons _ _=>cases hl
   | nil =>
    cases h with
    | ref _=>cases e
    | inp _=>cases e
    | ty=>cases e
    | tup _ _=>cases e
    | dat h =>
     cases h with
     | int i =>
      cases h2 with
      | ref _=>cases e
      | inp _=>cases e
      | ty=>cases e
      | tup _ _=>cases e
      | dat h2 =>
       cases h2 with
       | int j =>
        dsimp only at e
        split at e
        ·rename_i hj
         cases e
         exact ⟨i,j,rfl,by omega,q _ H1 ρ1 s1 h1 ⟨trivial,ItOk.rng⟩⟩
        ·cases e
       | _=>cases e
     | _=>cases e
def ZCe (a:DA):DI:=λ sd g=>(a sd g).bind λ p=>match p.1 with
 | [.dat (.tuple ds)]=>some (ZCI 0 ds,none,p.2)
 | _=>none
theorem ZPL {es:List Expr} {k:Nat} {tpos:Pos} {a:Expr} {da:DA} {p pos:Pos} (hg:Gl X "enumerate") (hm:X.mg "enumerate" = none) (ha:PA X [a] (tA X.K da)) (hs:starEach [a] X.env=[(false,eval a X.env)]:=by rfl) (hn:Many da 1) :
  PI X (.Tuple es k tpos) (.Call (.Name "enumerate" p) [a] [] pos) (tI X.K (ZCe da)):=(ZH9 hg hm ha hs).imp λ σ H R ⟨ρ,sd,g,xs,src,g',r,e,q⟩=>by
 obtain ⟨⟨ws,g1⟩,e1,e⟩:=bnd e
 refine ⟨ρ,sd,g,ws,g1,r,e1,λ vs H1 ρ1 s1 h1 r1=>?_⟩
 have hl:=hn.len e1
 cases r1 with
 | nil=>cases hl
 | cons h t =>
  cases t with
  | cons _ _=>cases hl
  | nil =>
   cases h with
   | ref _=>cases e
   | inp _=>cases e
   | ty=>cases e
   | tup _ _=>cases e
   | dat h =>
    cases h with
    | @tup a' us ds h t =>
     cases e
     exact ⟨_,rfl,⟨_,h.sq⟩,q _ H1 ρ1 s1 h1 ⟨trivial,ItOk.enum h t⟩⟩
    | _=>cases e
def ZI4 (a:DA):DI:=λ sd g=>(a sd g).bind λ p=>match p.1 with
 | [.dat (.tuple ds),.dat (.tuple es)]=>some (ZEI ds es,none,p.2)
 | _=>none
theorem ZQw {a b:Expr} {da:DA} {p pos:Pos} (hg:Gl X "zip") (hm:X.mg "zip" = none) (ha:PA X [a,b] (tA X.K da)) (hs:starEach [a,b] X.env=[(false,eval a X.env),(false,eval b X.env)]:=by rfl) (hs2:starEach [b] X.env=[(false,eval b X.env)]:=by rfl) (hn:Many da 2) :
  PI X tg (.Call (.Name "zip" p) [a,b] [] pos) (tI X.K (ZI4 da)):=(ZSC hg hm ha hs hs2).imp λ σ H R ⟨ρ,sd,g,xs,src,g',r,e,q⟩=>by
 obtain ⟨⟨ws,g1⟩,e1,e⟩:=bnd e
 refine ⟨ρ,sd,g,ws,g1,r,e1,λ vs H1 ρ1 s1 h1 r1=>?_⟩
 have hl:=hn.len e1
 cases r1 with
 | nil=>cases hl
 | cons h t =>
  cases t with
  | nil=>cases hl
  | cons h2 t =>
   cases t with
   | cons _ _=>cases hl
   | nil =>
    cases h with
    | ref _=>cases e
    | inp _=>cases e
    | ty=>cases e
    | tup _ _=>cases e
    | dat h =>
     cases h with
     | @tup a1 us1 ds1 f1 t1 =>
      cases h2 with
      | ref _=>cases e
      | inp _=>cases e
      | ty=>cases e
      | tup _ _=>cases e
      | dat h2 =>
       cases h2 with
       | @tup a2 us2 ds2 f2 t2 =>
        cases e
        exact ⟨_,_,rfl,⟨_,_,f1.sq,f2.sq⟩,q _ H1 ρ1 s1 h1 ⟨trivial,ItOk.zip f1 t1 f2 t2⟩⟩
       | _=>cases e
     | _=>cases e
end
end L2
namespace L2
open PySem PySem.Spec PyProof.Rows H1
open Classical in
noncomputable def ZCu {α : Type} (src:Option Nat) (xs:List PyData) (g:G) (k:Option α):Option α:=match src with | none=>k | some n=>if g[n]? = some (.pl xs) then k else none
theorem ZDR {α : Type} {src:Option Nat} {xs:List PyData} {g:G} {k:Option α} {y : α} (h:ZCu src xs g k=some y):ZBk src xs g/\k=some y:=by
 unfold ZCu at h
 cases src with
 | none=>exact ⟨trivial,h⟩
 | some n =>
  dsimp only at h
  split at h
  ·rename_i q; exact ⟨q,h⟩
  ·cases h
noncomputable def ZAl (src:Option Nat) (xs:List PyData) (pt:Pat) (db:DS):List PyData->Sd->G->Option Out
 | [],sd,g=>some (.nx sd g)
 | x :: r,sd,g=>(Zx pt (.dat x) sd).bind λ sd1=>(db sd1 g).bind λ o=>match o with
  | .nx sd2 g2=>ZCu src xs g2 (ZAl src xs pt db r sd2 g2)
  | .ct sd2 g2=>ZCu src xs g2 (ZAl src xs pt db r sd2 g2)
  | .bk sd2 g2=>some (.nx sd2 g2)
  | .rt y g2=>some (.rt y g2)
noncomputable def ZCK (pt:Pat) (di:DI) (db:DS):DS:=λ sd g=>(di sd g).bind λ t=>ZAl t.2.1 t.1 pt db t.1 sd t.2.2
theorem allT (pt:Pat):pt.all (λ _=>true)=true:=Pat.rec (motive_1:=λ p=>p.all (λ _=>true)=true) (motive_2:=λ p=>p.all (λ _=>true)=true) (λ i=>by rw [Pat.all]) (λ ps h=>by rw [Pat.all]; exact h) (by rw [Pats.all]) (λ p r h1 h2=>by rw [Pats.all,h1,h2]; rfl) pt
section
variable {X:Cx} {tg iter:Expr} {pos:Pos} {di:DI} {pt:Pat} {db:DS}
theorem ZQh {body:List Stmt} (hp:PassesOwn (model X.prog X.w) X.A X.env X.xe) (hc:X.calm=true) (hi:PI X tg iter (tI X.K di)) (hg:PG X tg (gP X.K pt)) (hb:PSs X body (tS X.K db))
  (hs:∀ x,foldedSetIterable iter X.env x=pure x:=by intro _; rfl):PS X (.For tg iter body [] pos) (tS X.K (ZCK pt di db)):=(ZRY hp hc hi hg hb hs).imp λ D σ H ⟨ρ,sd,g,o,r,e,q⟩=>by
 obtain ⟨⟨xs,src,g1⟩,e1,e⟩:=bnd e
 refine ⟨ρ,sd,g,xs,src,g1,r,e1,λ J H1 ρ1 s1 h1 ⟨so,it⟩=>?_⟩
 refine ⟨λ i m σ' H'=>m=xs.length - i/\i<=xs.length/\∃ ρ' sd' g',Stp ρ1 H1 ρ' H'/\Rst X.K ρ' H' σ' sd' g'/\ZBk src xs g'/\ZAl src xs pt db (xs.drop i) sd' g'=some o,⟨xs.length,rfl,Nat.zero_le _,ρ1,sd,g1,.refl,r.step s1 h1,so,e⟩,?_⟩
 rintro i m σ' H' ⟨rfl,hi,ρ',sd',g',s',r',so',e'⟩
 obtain ⟨hgo,hst⟩:=(it.mono s').use r'.hr so'
 by_cases hlt:i < xs.length
 ·rw [List.drop_eq_getElem_cons hlt] at e'
  rw [ZAl] at e'
  obtain ⟨sd1,e2,e'⟩:=bnd e'
  obtain ⟨o1,e3,e'⟩:=bnd e'
  obtain ⟨hg1,hy⟩:=hgo i xs[i] (List.getElem?_eq_getElem hlt)
  refine .inr ⟨hg1,λ σ2 H2=>∃ ρ2 sd2 g2,Stp ρ1 H1 ρ2 H2/\Rst X.K ρ2 H2 σ2 sd2 g2/\ZBk src xs g2/\ZAl src xs pt db (xs.drop (i+1)) sd2 g2=some o,λ σ2 H2 ⟨ρ2,sd2,g2,k1,k2,k3,k4⟩=>⟨xs.length - (i+1),by omega,rfl,hlt,ρ2,sd2,g2,k1,k2,k3,k4⟩,λ v H2 y=>?_⟩
  obtain ⟨sm,rv⟩:=hy v H2 y
  have s2:Stp ρ' H' ρ' H2:=.same sm
  refine ZJl (f:=λ _=>true) (allT pt) e2 (r'.step s2 (r'.hr.same sm)) (.dat rv) λ σ3 r3 _=>⟨ρ',sd1,g',o1,r3,e3,?_⟩
  have s02:=s1.trans (s'.trans s2)
  cases o1 with
  | nx sd2 g2 =>
   obtain ⟨so2,e4⟩:=ZDR e'
   exact λ σ4 H4 ρ4 s4 r4=>⟨ρ4,sd2,g2,(s'.trans s2).trans s4,r4,so2,e4⟩
  | ct sd2 g2 =>
   obtain ⟨so2,e4⟩:=ZDR e'
   exact λ σ4 H4 ρ4 s4 r4=>⟨ρ4,sd2,g2,(s'.trans s2).trans s4,r4,so2,e4⟩
  | bk sd2 g2 =>
   cases e'
   exact ZHb.step q s02
  | rt y g2 =>
   cases e'
   exact ZHb.step q s02
 ·have ei:i=xs.length:=by omega
  subst ei
  rw [List.drop_length,ZAl] at e'
  cases e'
  exact .inl ⟨hst _ (Nat.le_refl _),q σ' H' ρ' (s1.trans s') r'⟩
end
def ZG3 (own:Nat) (cap:List Nat) (sd:Sd):Sd:=List.replicate own none ++ cap.map λ j=>(sd[j]?).join
noncomputable def ZBf (src:Option Nat) (xs:List PyData) (pt:Pat) (dt:DB) (de:DE) (sd0:Sd):List PyData->G->Option (List PyData × G)
 | [],g=>some ([],g)
 | x :: r,g=>(Zx pt (.dat x) sd0).bind λ sd1=>(dt sd1 g).bind λ b=>if b.1=true then (de sd1 b.2).bind λ y=>match y.1 with
   | .dat d=>ZCu src xs y.2 ((ZBf src xs pt dt de sd0 r y.2).map λ q=>(d :: q.1,q.2))
   | _=>none
  else ZCu src xs b.2 (ZBf src xs pt dt de sd0 r b.2)
noncomputable def ZAh (own:Nat) (cap:List Nat) (pt:Pat) (di:DI) (dt:DB) (de:DE):DE:=λ sd g=>(di sd g).bind λ t=>if t.1.length<=1000 then (ZBf t.2.1 t.1 pt dt de (ZG3 own cap sd) t.1 t.2.2).map λ p=>(.dat (.list p.1),p.2) else none
def ZDf:DB:=λ _ g=>some (true,g)
theorem ZPq {K:PySem.W.Frag} {ρ : Rh} {H:Hp} {σ : St} {sd:Sd} {g:G} (r:Rst K ρ H σ sd g) (own:Nat) (cap:List Nat):Rst K ρ H (ZFW own cap σ) (ZG3 own cap sd) g:=by
 refine ⟨by unfold ZFW ZG3; simp,λ i x e=>?_,r.hr⟩
 unfold ZG3 at e
 unfold ZFW
 by_cases hi:i < own
 ·rw [List.getElem?_append_left (by simpa using hi),List.getElem?_replicate] at e
  split at e <;> cases e
 ·rw [List.getElem?_append_right (by simpa using hi),List.length_replicate,List.getElem?_map] at e
  rw [List.getElem?_append_right (by simpa using hi),List.length_replicate,List.getElem?_map]
  obtain ⟨j,e1,e⟩:=mp e
  rw [e1]
  cases k:sd[j]? with
  | none=>rw [k] at e; cases e
  | some w =>
   rw [k] at e
   have e:w=some x:=e
   subst e
   obtain ⟨v,h1,h2⟩:=r.env j x k
   exact ⟨v,by show some ((σ[j]?).join)=_; rw [h1]; rfl,h2⟩
theorem ZOV {own:Nat} {cap:List Nat} {σ : St} {i:Nat} (h:i < own):(ZFW own cap σ)[i]? = some none:=by
 unfold ZFW
 rw [List.getElem?_append_left (by simpa using h),List.getElem?_replicate,if_pos h]
theorem PTs.imp {X:Cx} {ifs:List Expr} {t u:TT} (h:PTs X ifs t) (k:∀ σ H Q,u σ H Q->t σ H Q):PTs X ifs u:=λ pins s σ H Q I q=>h pins s σ H Q I (k σ H Q q)
theorem ZOz {X:Cx}:PTs X [] (tT X.K ZDf):=ZPH.imp λ σ H Q ⟨ρ,sd,g,b,g',r,e,q⟩=>by
 cases e
 exact q H ρ .refl r.hr
theorem ZPS {X:Cx} {c:Expr} {d:DB} (h:PT X c (tT X.K d)):PTs X [c] (tT X.K d):=ZPt h
theorem Stp.grow {ρ ρ':Rh} {H H':Hp} {p:Addr} {o:HO} (hp:H p=none) (s:Stp ρ H ρ' H'):Stp ρ H ρ' (upd H' p o):=⟨s.pre,s.hid,λ a u e n=>by rw [Zb (Zl e hp)]; exact s.frm a u e n,s.fre,λ a u e=>by rw [Zb (Zl e hp)]; exact s.kd a u e⟩
theorem Stp.unhide {ρ ρ':Rh} {H H':Hp} {p:Addr} (s:Stp (ρ.hide p) H ρ' H'):Stp ρ H ⟨ρ'.c,ρ.h⟩ H'/\ρ'=(⟨ρ'.c,ρ.h⟩:Rh).hide p:=⟨⟨s.pre,rfl,s.frm,s.fre,s.kd⟩,by
 have:=s.hid
 obtain ⟨c,h⟩:=ρ'
 have e:h=p :: ρ.h:=this
 subst e
 rfl⟩
theorem Rst.hide {K:PySem.W.Frag} {ρ : Rh} {H:Hp} {σ : St} {sd:Sd} {g:G} {p:Addr} {o:HO} (hp:H p=none) (r:Rst K ρ H σ sd g):Rst K (ρ.hide p) (upd H p o) σ sd g:=⟨r.len,λ i x e=>by
 obtain ⟨v,h1,h2⟩:=r.env i x e
 exact ⟨v,h1,h2.hide hp⟩,r.hr.hide hp⟩
theorem Rst.grow {K:PySem.W.Frag} {ρ : Rh} {H:Hp} {σ : St} {sd:Sd} {g:G} {p:Addr} {o:HO} (hp:p ∈ ρ.h) (r:Rst K ρ H σ sd g):Rst K ρ (upd H p o) σ sd g:=⟨r.len,λ i x e=>by
 obtain ⟨v,h1,h2⟩:=r.env i x e
 exact ⟨v,h1,h2.grow hp⟩,r.hr.grow hp⟩
section
variable {X:Cx} {tg elt iter:Expr} {ifs:List Expr} {scope sc:Scope} {pos:Pos} {di:DI} {pt:Pat} {dt:DB} {de:DE} {N NX:List Str} {own:Nat} {cap:List Nat}
theorem ZK4 {K:PySem.W.Frag} {σ : St} {H:Hp} {Q:VK} (hp:pt.all (λ i=>decide (i < own))=true) (h:tE K (ZAh own cap pt di dt de) σ H Q):ZNT own cap (tI K di) (gP K pt) (tT K dt) (tE K de) σ H Q:=by
 obtain ⟨ρ,sd,g,x,gz,r,e,q⟩:=h
 obtain ⟨⟨xs,src,g1⟩,e1,e⟩:=bnd e
 by_cases hz:xs.length<=1000
 ·dsimp only at e
  rw [if_pos hz] at e
  obtain ⟨⟨zs,g2⟩,e2,e⟩:=mp e
  cases e
  refine ⟨ρ,sd,g,xs,src,g1,r,e1,λ J H1 ρ1 s1 h1 ⟨so,it⟩ D hD=>?_⟩
  have hnh:D ∉ ρ1.h:=λ z=>h1.nin hD (.inr z)
  have r1:=ZPq (r.step s1 h1) own cap
  refine ⟨λ i m acc H'=>m=xs.length - i/\i<=xs.length/\acc.length<=i/\∃ ρ' g' ads ys,Stp ρ1 H1 ρ' H'/\Rst K (ρ'.hide D) H' (ZFW own cap σ) (ZG3 own cap sd) g'/\ZBk src xs g'/\H' D=some (.lst acc)/\RelDL K (ρ'.hide D) H' acc ads/\ItOk K (ρ'.hide D) H' J xs src/\ZBf src xs pt dt de (ZG3 own cap sd) (xs.drop i) g'=some (ys,g2)/\ads ++ ys=zs,⟨xs.length,rfl,Nat.zero_le _,Nat.le_refl _,ρ1,g1,[],zs,.same (_root_.H1.Same.upd hD),r1.hide hD,so,Zt,.nil,it.hide hD,e2,rfl⟩,?_⟩
  rintro i m acc H' ⟨rfl,hi,ha,ρ',g',ads,ys,s',r',so',hacc,ra,it',e',ez⟩
  have hr':HR K ρ' H' g':=r'.hr.shown
  obtain ⟨hgo,hst⟩:=it'.use r'.hr so'
  have hDm:∀ {ρx:Rh},D ∈ (ρx.hide D).h:=λ {ρx}=>List.mem_cons_self ..
  by_cases hlt:i < xs.length
  ·rw [List.drop_eq_getElem_cons hlt] at e'
   rw [ZBf] at e'
   obtain ⟨sd1,e2,e'⟩:=bnd e'
   obtain ⟨⟨b,g3⟩,e3,e'⟩:=bnd e'
   obtain ⟨hg1,hy⟩:=hgo i xs[i] (List.getElem?_eq_getElem hlt)
   refine .inr ⟨hg1,λ acc2 H2=>acc2.length<=i+1/\∃ ρ' g' ads ys,Stp ρ1 H1 ρ' H2/\Rst K (ρ'.hide D) H2 (ZFW own cap σ) (ZG3 own cap sd) g'/\ZBk src xs g'/\H2 D=some (.lst acc2)/\RelDL K (ρ'.hide D) H2 acc2 ads/\ItOk K (ρ'.hide D) H2 J xs src/\ZBf src xs pt dt de (ZG3 own cap sd) (xs.drop (i+1)) g'=some (ys,g2)/\ads ++ ys=zs,λ acc2 H2 ⟨k0,ρ2,g2',ads2,ys2,k1,k2,k3,k4,k5,k6,k7,k8⟩=>⟨xs.length - (i+1),by omega,rfl,hlt,k0,ρ2,g2',ads2,ys2,k1,k2,k3,k4,k5,k6,k7,k8⟩,λ v H2 y=>?_⟩
   obtain ⟨sm,rv⟩:=hy v H2 y
   have s2:Stp (ρ'.hide D) H' (ρ'.hide D) H2:=.same sm
   refine ZJl (f:=λ i=>decide (i < own)) hp e2 (r'.step s2 (r'.hr.same sm)) (.dat rv) λ σ3 r3 kp=>⟨⟨kp.1,λ i v e=>?_⟩,ρ'.hide D,sd1,g',b,g3,r3,e3,λ H3 ρ3 s3 h3=>?_⟩
   ·by_cases hi:i < own
    ·rw [ZOV hi] at e; cases e
    ·rw [kp.2 i (decide_eq_false hi)]; exact e
   have s23:=s2.trans s3
   obtain ⟨u3,e3h⟩:=s23.unhide
   have hD3:H3 D=some (.lst acc):=s23.frm _ _ hacc (r'.hr.hid D hDm).1
   have r3':=r3.step s3 h3
   rw [e3h] at r3' h3 s3 s23
   cases b with
   | false =>
    rw [if_neg Bool.false_ne_true] at e'
    obtain ⟨so3,e4⟩:=ZDR e'
    refine iteF ?_
    exact ⟨Nat.le_succ_of_le ha,⟨ρ3.c,ρ'.h⟩,g3,ads,ys,s'.trans u3,r'.step s23 h3,so3,hD3,ra.mono s23,it'.mono s23,e4,ez⟩
   | true =>
    rw [if_pos rfl] at e'
    obtain ⟨⟨w,g4⟩,e4,e'⟩:=bnd e'
    refine iteT ?_
    refine ⟨(⟨ρ3.c,ρ'.h⟩:Rh).hide D,sd1,g3,w,g4,r3',e4,λ y4 H4 ρ4 s4 h4 r4=>?_⟩
    obtain ⟨u4,e4h⟩:=s4.unhide
    rw [e4h] at h4 r4 s4
    have s24:=s23.trans s4
    have hD4:H4 D=some (.lst acc):=s4.frm _ _ hD3 (h3.hid D hDm).1
    cases r4 with
    | ref _=>cases e'
    | inp _=>cases e'
    | ty=>cases e'
    | tup _ _=>cases e'
    | @dat _ d r4 =>
     obtain ⟨so4,e5⟩:=ZDR e'
     obtain ⟨⟨ys',g5⟩,e6,e5⟩:=mp e5
     cases e5
     refine ⟨hD4,Nat.lt_of_le_of_lt ha (Z7 (by omega)),?_⟩
     refine ⟨by rw [List.length_append]; exact Nat.add_le_add_right ha 1,⟨ρ4.c,ρ'.h⟩,g4,ads ++ [d],ys',((s'.trans u3).trans u4).grow hD,(r'.step s24 h4).grow hDm,so4,Zt,((ra.mono s24).append (.cons r4 .nil)).grow hDm,(it'.mono s24).grow hDm,e6,?_⟩
     rw [List.append_assoc]
     exact ez
  ·have ei:i=xs.length:=by omega
   subst ei
   rw [List.drop_length,ZBf] at e'
   cases e'
   rw [List.append_nil] at ez
   subst ez
   refine .inl ⟨hst _ (Nat.le_refl _),q _ H' ρ' (s1.trans s') hr' (.dat (.lst hacc (λ z=>?_) (ra.less (ρ':=ρ') (ρ:=ρ'.hide D) λ _ z=>z.elim .inl λ q=>.inr (List.mem_cons_of_mem _ q))))⟩
   rcases z with z | z
   ·exact (r'.hr.hid D (List.mem_cons_self ..)).1 z
   ·rw [s'.hid] at z
    exact hnh z
 ·dsimp only at e
  rw [if_neg hz] at e
  cases e
theorem ZOu (hc:X.calm=true) (hi:PI X tg iter (tI X.K di)) (hsc:X.env.scope=sc) (hNX:X.N=NX)
  (hb:∀ cl C s0 H0 fp,PG (blk X N (compEnvC scope cl C X.env) s0 H0 fp) tg (gP X.K pt)/\PTs (blk X N (compEnvC scope cl C X.env) s0 H0 fp) ifs (tT X.K dt)/\PE (blk X N (compEnvC scope cl C X.env) s0 H0 fp) elt (tE X.K de))
  (co:ZJx sc scope NX N own cap=true) (hp:pt.all (λ i=>decide (i < own))=true) (hs:∀ x,foldedSetIterable iter X.env x=pure x:=by intro _; rfl):PE X (.ListComp elt [⟨tg,iter,ifs,0⟩] scope pos) (tE X.K (ZAh own cap pt di dt de)) :=
 (ZPw hc hi hsc hNX hb co hs).imp λ _ _ _ h=>ZK4 hp h
theorem ZP7 {i:Nat} {x:Str} {py spos:Pos} (hN:X.N.Nodup) (hi:X.N[i]? = some x) (hx:Loc X.env.scope x) (hc:X.calm=true) (hit:PI X tg iter (tI X.K di)) (hsc:X.env.scope=sc) (hNX:X.N=NX)
  (hb:∀ cl C s0 H0 fp,PG (blk X N (compEnvC scope cl C X.env) s0 H0 fp) tg (gP X.K pt)/\PTs (blk X N (compEnvC scope cl C X.env) s0 H0 fp) ifs (tT X.K dt)/\PE (blk X N (compEnvC scope cl C X.env) s0 H0 fp) elt (tE X.K de))
  (co:ZJx sc scope NX N own cap=true) (hp:pt.all (λ i=>decide (i < own))=true) (hsw:swapsWith (.ListComp elt [⟨tg,iter,ifs,0⟩] scope pos) (some (.Name x py)) spos.line X.env=pure true:=by rfl) (hs:∀ x,foldedSetIterable iter X.env x=pure x:=by intro _; rfl)
  (hf:X.fn x=true ∨ X.env.scope.names.lookup x=some .local:=by first | exact .inl rfl | exact .inr rfl | assumption) :
  PS X (.Assign [.Name x py] (.ListComp elt [⟨tg,iter,ifs,0⟩] scope pos) spos) (tS X.K (Zi i (ZAh own cap pt di dt de))):=(ZQA hN hi hx hc hit hsc hNX hb co hsw hs hf).imp λ D σ H ⟨ρ,sd,g,o,r,e,q⟩=>by
 obtain ⟨⟨y,g1⟩,e1,e⟩:=bnd e
 cases e
 exact ZK4 hp ⟨ρ,sd,g,y,g1,r,e1,λ v H1 ρ1 s1 h1 r1=>q _ H1 ρ1 s1 ((r.step s1 h1).set r1 i)⟩
end
def Z3 (n:Nat) (d:DS) (ws:List W) (g:G):Option (W × G):=match d (ws.map some ++ List.replicate (n - ws.length) none) g with
 | some (.rt x g')=>some (x,g')
 | some (.nx _ g')=>some (.dat .none,g')
 | _=>none
theorem ZHf {K:PySem.W.Frag} {ρ : Rh} {H:Hp} {g:G} (h:HR K ρ H g) (k:Nat):∀ {vs:List V} {ws:List W},RelL K ρ H vs ws->Rst K ρ H (vs.map some ++ List.replicate k none) (ws.map some ++ List.replicate k none) g
 | _,_,.nil=>by
  refine ⟨by simp,λ i x e=>?_,h⟩
  simp only [List.map_nil,List.nil_append] at e
  rw [List.getElem?_replicate] at e
  split at e <;> cases e
 | v :: vs,w :: ws,.cons r t=>by
  have q:=ZHf h k t
  refine ⟨by have:=q.len; simp at this ⊢; exact this,λ i x e=>?_,h⟩
  cases i with
  | zero=>simp at e; subst e; exact ⟨v,by simp,r⟩
  | succ i =>
   simp at e
   obtain ⟨u,h1,h2⟩:=q.env i x (by simpa using e)
   exact ⟨u,by simpa using h1,h2⟩
theorem ZRa {P:Program} {w:World} {K:PySem.W.Frag} {mg:Str->Option Value} {base:Heap} {x qual:Str} {st:Stmt} {f:Addr} {fd:FuncData} {N ps:List Str} {k:Nat} {d:DS} (F:Fun K x qual st f fd) (S:FnScope N ps (ZM st))
  (hb:∀ (cdv:Value) (A:Around) (outer:List Env) (s:Shared) (H:Hp) (E:XK),Room k (A.deeper (envOfC qual (ZM st) s.heap.objs.size f cdv))->PSs (ZJf CX0 P w K mg base N qual (ZM st) f cdv A outer s H E).nox (ZBy st) (tS K d)) :
  FnOk P w K mg base CX0 (k+1) f fd ps (spD K ps.length (Z3 N.length d)):=by
 refine F.ok S (λ vs H Q E h=>h.1) (λ cdv A outer s H vs Q E hr h=>⟨_,hb cdv A outer s H E hr,?_⟩)
 obtain ⟨hl,ρ,ws,g,z,gz,hR,rl,e,q⟩:=h
 unfold Z3 at e
 have hlw:=rl.length
 unfold ZE5
 rw [hlw]
 cases ho:d (ws.map some ++ List.replicate (N.length - ws.length) none) g with
 | none=>rw [ho] at e; cases e
 | some o =>
  rw [ho] at e
  refine ⟨ρ,_,g,o,ZHf hR _ rl,ho,?_⟩
  cases o with
  | nx sd g' =>
   cases e
   intro σ' H' ρ' s' r'
   exact q .non H' ρ' s' r'.hr (.dat .non)
  | rt y g' =>
   cases e
   exact q
  | bk _ _=>cases e
  | ct _ _=>cases e
end L2
namespace L2
open PySem PySem.Spec PyProof.Rows H1
mutual
theorem RelD.reads {X:Cx} {pins:List (Addr × Obj)} {σ : St} {ρ : Rh} {H:Hp} {s:Shared} (I:Inv X pins σ H s):∀ {v:V} {d:PyData} {u:Value},RelD X.K ρ H v d->d.canLay0=true->Z9 v u->∃ as,Reads s.heap u d as
 | _,_,_,.non,_,r=>by cases r; exact ⟨_,.none⟩
 | _,_,_,.bl b,_,r=>by cases r; exact ⟨_,.bool b⟩
 | _,_,_,.int i,_,r=>by obtain ⟨t,rfl⟩:=r; exact ⟨_,.int i t⟩
 | _,_,_,.str x,_,r=>by obtain ⟨t,rfl⟩:=r; exact ⟨_,.str x t⟩
 | _,_,_,.tup h hl,c,r=>by
  cases r
  obtain ⟨its,rv,⟨o,ho,hc,n,hd⟩,_⟩:=I.tuple h.sq
  obtain ⟨as,ra⟩:=RelDL.reads I hl (by rw [PyData.canLay0] at c; exact c) rv
  exact ⟨as,.tuple ho hc hd (by simpa using ra)⟩
 | _,_,_,.lst h _ hl,c,r=>by
  cases r
  obtain ⟨_,its,n,rv,e⟩:=I.hok _ _ h
  obtain ⟨as,ra⟩:=RelDL.reads I hl (by rw [PyData.canLay0] at c; exact c) rv
  exact ⟨_,.list e rfl rfl (by simpa using ra)⟩
 | _,_,_,.dct h _,c,r=>by rw [PyData.canLay0] at c; cases c
theorem RelDL.reads {X:Cx} {pins:List (Addr × Obj)} {σ : St} {ρ : Rh} {H:Hp} {s:Shared} (I:Inv X pins σ H s):∀ {vs:List V} {ds:List PyData} {us:List Value},RelDL X.K ρ H vs ds->PyData.canLayAll0 ds=true->Zu vs us->∃ as,ReadsAll s.heap us ds as
 | _,_,_,.nil,_,r=>by cases r; exact ⟨_,.nil⟩
 | _,_,_,.cons h hl,c,r=>by
  rw [PyData.canLayAll0,Bool.and_eq_true] at c
  cases r with
  | cons r1 r2 =>
   obtain ⟨as,ra⟩:=RelD.reads I h c.1 r1
   obtain ⟨bs,rb⟩:=RelDL.reads I hl c.2 r2
   exact ⟨_,.cons ra rb⟩
end
def ZBh:W->G->Option (List PyData)
 | .dat (.list ds),_=>some ds
 | .ref n,g=>lk g n
 | _,_=>none
theorem ZBH {K:PySem.W.Frag} {ρ : Rh} {H:Hp} {g:G} {v:V} {w:W} {ds:List PyData} (hR:HR K ρ H g) (r:Rel K ρ H v w) (e:ZBh w g=some ds):∃ a vs,v=.ref a/\H a=some (.lst vs)/\RelDL K ρ H vs ds:=by
 cases r with
 | ty=>cases e
 | tup _ _=>cases e
 | inp _=>cases e
 | ref h =>
  obtain ⟨a,vs,h1,h2,h3⟩:=hR.at_ _ _ (ZF2 e)
  rw [h] at h1
  cases h1
  exact ⟨_,vs,rfl,h2,h3⟩
 | dat h =>
  cases h with
  | lst h n t=>cases e; exact ⟨_,_,rfl,h,t⟩
  | _=>cases e
theorem Pv.at {K:PySem.W.Frag} {ρ : Rh} {H:Hp} {g:G} {x:W} {v:V} {Q:VK} (q:Pv K ρ H x g Q) (h:HR K ρ H g) (r:Rel K ρ H v x):Q v H:=q v H ρ .refl h r
theorem Pv.new {K:PySem.W.Frag} {ρ : Rh} {H:Hp} {g:G} {ds:List PyData} {vs:List V} {Q:VK} (q:Pv K ρ H (.dat (.list ds)) g Q) (h:HR K ρ H g) (r:RelDL K ρ H vs ds) {p:Addr} (hp:H p=none):Q (.ref p) (upd H p (.lst vs)):=by
 obtain ⟨sm,hr2,hn⟩:=ZC4 (o:=.lst vs) h hp
 exact q _ _ ρ (.same sm) hr2 (.dat (.lst Zt hn (r.mono (.same sm))))
theorem Pv.newT {K:PySem.W.Frag} {ρ : Rh} {H:Hp} {g:G} {ds:List PyData} {vs:List V} {Q:VK} (q:Pv K ρ H (.dat (.tuple ds)) g Q) (h:HR K ρ H g) (r:RelDL K ρ H vs ds) {p:Addr} (hp:H p=none):Q (.ref p) (upd H p (.tup vs)):=by
 obtain ⟨sm,hr2,hn⟩:=ZC4 (o:=.tup vs) h hp
 exact q _ _ ρ (.same sm) hr2 (.dat (.tup (.inl ⟨.inl Zt,hn⟩) (r.mono (.same sm))))
def Zs:W->W->G->Option (W × G)
 | .dat (.int i),.dat (.int j),g=>some (.dat (.int (i+j)),g)
 | .dat (.tuple xs),.dat (.tuple ys),g=>if xs.length+ys.length<=1000 then some (.dat (.tuple (xs ++ ys)),g) else none
 | .dat (.str a),.dat (.str b),g=>if a.length+b.length<=1000 then some (.dat (.str (a ++ b)),g) else none
 | a,b,g=>(ZBh a g).bind λ xs=>(ZBh b g).bind λ ys=>if xs.length+ys.length<=1000 then some (.dat (.list (xs ++ ys)),g) else none
def opZ (c:Int->Int->Bool) (f:Int->Int->PyData):W->W->G->Option (W × G)
 | .dat (.int i),.dat (.int j),g=>if c i j=true then some (.dat (f i j),g) else none
 | _,_,_=>none
def ZCo:=opZ (λ _ _=>true) λ i j=>.int (i - j)
def ZCd:=opZ (λ _ j=>decide (0 < j)) λ i j=>.int (i % j)
def ZFB:=opZ (λ _ j=>decide (0 < j) && decide (j < 2 ^ 64)) λ i j=>.int (i / j)
def ZFr (i j:Int):Bool:=(decide (-(2 ^ 64) < i) && decide (i < 2 ^ 64)) || (decide (-(2 ^ 64) < j) && decide (j < 2 ^ 64))
def ZAi:W->W->G->Option (W × G)
 | .dat (.int i),.dat (.int j),g=>if ZFr i j=true then some (.dat (.int (i * j)),g) else none
 | .dat (.tuple xs),.dat (.int k),g=>if ((decide (2<=k) && decide (k<=20)) && (!xs.isEmpty && decide (xs.length<=20)))=true then some (.dat (.tuple (List.replicate k.toNat xs).flatten),g) else none
 | a,.dat (.int k),g=>(ZBh a g).bind λ xs=>if k<=1000/\-1000<=k/\xs.length<=1000 then some (.dat (.list (List.replicate k.toNat xs).flatten),g) else none
 | _,_,_=>none
section
variable {X:Cx}
theorem ZAm:OpR X (binaryOp .Add) (rOp X.K Zs):=by
 intro pins s σ H x y v u Q I rx ry h
 obtain ⟨ρ,a,b,g,z,g',hR,ra,rb,e,q⟩:=h
 have lists:((ZBh a g).bind λ xs=>(ZBh b g).bind λ ys=>if xs.length+ys.length<=1000 then some (W.dat (.list (xs ++ ys)),g) else none)=some (z,g')->wpAny (model X.prog X.w) X.A (binaryOp .Add v u) (EP X pins σ Q) X.xe s:=λ e=>by
  obtain ⟨xs,e1,e⟩:=bnd e
  obtain ⟨ys,e2,e⟩:=bnd e
  obtain ⟨l,vs,rfl,h1,t1⟩:=ZBH hR ra e1
  obtain ⟨l',us,rfl,h2,t2⟩:=ZBH hR rb e2
  split at e
  ·rename_i hz
   cases e
   exact ZR1 pins s σ H _ _ v u Q I rx ry ⟨l,l',vs,us,rfl,rfl,h1,h2,by rw [t1.length,t2.length]; exact Nat.le_of_lt (Z7 hz),λ p hp=>q.new hR (t1.append t2) hp⟩
  ·cases e
 cases ra with
 | ref h=>exact lists e
 | inp h=>exact lists e
 | ty=>cases e
 | tup _ _=>cases e
 | dat ra =>
  cases ra with
  | int i =>
   cases rb with
   | dat rb =>
    cases rb with
    | int j=>cases e; exact ZQn pins s σ H _ _ v u Q I rx ry ⟨i,j,rfl,rfl,q.at hR (.dat (.int _))⟩
    | _=>cases e
   | _=>cases e
  | str i =>
   cases rb with
   | dat rb =>
    cases rb with
    | str j =>
     change (if i.length+j.length<=1000 then some (W.dat (.str (i ++ j)),g) else none)=some (z,g') at e
     split at e
     ·rename_i hz
      cases e
      exact ZKf pins s σ H _ _ v u Q I rx ry ⟨i,j,rfl,rfl,Nat.le_of_lt (Z7 hz),q.at hR (.dat (.str _))⟩
     ·cases e
    | _=>cases e
   | _=>cases e
  | @tup a1 xs ds f1 t1 =>
   cases rb with
   | dat rb =>
    cases rb with
    | @tup a2 ys es f2 t2 =>
     change (if ds.length+es.length<=1000 then some (W.dat (.tuple (ds ++ es)),g) else none)=some (z,g') at e
     split at e
     ·rename_i hz
      cases e
      have hz':xs.length+ys.length<=sizeLine:=by rw [t1.length,t2.length]; exact Nat.le_of_lt (Z7 hz)
      cases rx
      cases ry
      obtain ⟨its,r1,p1,_⟩:=I.tuple f1.sq
      obtain ⟨its2,r2,p2,_⟩:=I.tuple f2.sq
      refine HT.cat_tupA p1 p2 (λ z=>⟨.ref a2,H,I,rfl,q.at hR (.dat ?_)⟩) (λ _ z=>⟨.ref a1,H,I,rfl,q.at hR (.dat ?_)⟩) (λ _ z=>?_) (by rw [← r1.length,← r2.length]; exact hz')
      ·have:=r1.nil_iff.mp z
       subst this
       cases t1
       exact .tup f2 t2
      ·have:=r2.nil_iff.mp z
       subst this
       cases t2
       rw [List.append_nil]
       exact .tup f1 t1
      ·exact ⟨.ref s.heap.objs.size,_,I.laid (t':=s.toks) (o:=.tup (xs ++ ys)) (λ b ob q=>Heap.get?_push_of_some _ q) (Nat.le_refl _) ⟨by rw [List.length_append]; exact hz',_,r1.append r2,IsTup.new _ _⟩,rfl,q.newT hR (t1.append t2) (I.hok.fresh (Nat.le_refl _))⟩
     ·cases e
    | _=>cases e
   | _=>cases e
  | lst h n t=>exact lists e
  | _=>cases e
theorem oI {op:Operator} {C:Int->Int->Prop} {c:Int->Int->Bool} {f:Int->Int->Int} (h:OpR X (binaryOp op) (rI C λ i j=>.int (f i j))) (hc:∀ i j,c i j=true->C i j):OpR X (binaryOp op) (rOp X.K (opZ c λ i j=>.int (f i j))):=by
 intro pins s σ H x y v u Q I rx ry hh
 obtain ⟨ρ,a,b,g,z,g',hR,ra,rb,e,q⟩:=hh
 cases ra with
 | dat ra =>
  cases ra with
  | int i =>
   cases rb with
   | dat rb =>
    cases rb with
    | int j =>
     change (if c i j=true then some (W.dat (.int (f i j)),g) else none)=some (z,g') at e
     split at e
     ·rename_i hz
      cases e
      exact h pins s σ H _ _ v u Q I rx ry ⟨i,j,rfl,rfl,hc i j hz,q.at hR (.dat (.int _))⟩
     ·cases e
    | _=>cases e
   | _=>cases e
  | _=>cases e
 | _=>cases e
theorem ZGp:OpR X (binaryOp .Sub) (rOp X.K ZCo):=oI (C:=λ _ _=>True) (ZRI.imp λ x y H Q ⟨i,j,e1,e2,_,q⟩=>⟨i,j,e1,e2,q⟩) λ _ _ _=>trivial
theorem ZFp:OpR X (binaryOp .Mod) (rOp X.K ZCd):=oI ZRG λ i j h=>of_decide_eq_true h
theorem ZLO:OpR X (binaryOp .FloorDiv) (rOp X.K ZFB):=oI ZNO λ i j h=>by
 rw [Bool.and_eq_true] at h
 exact ⟨of_decide_eq_true h.1,of_decide_eq_true h.2⟩
theorem ZOv {i j:Int} (h:ZFr i j=true):ZPP i j:=by
 unfold ZFr at h
 rw [Bool.or_eq_true,Bool.and_eq_true,Bool.and_eq_true] at h
 rcases h with h | h
 ·exact .inl ⟨of_decide_eq_true h.1,of_decide_eq_true h.2⟩
 ·exact .inr ⟨of_decide_eq_true h.1,of_decide_eq_true h.2⟩
theorem ZPk:OpR X (binaryOp .Mult) (λ x y H Q=>∃ (a:Addr) (k:Int) (xs:List V),x=.ref a/\y=.int k/\SqT X.K H a xs/\(2<=k/\k<=20)/\(xs ≠ []/\xs.length<=20)/\∀ p,H p=none->Q (.ref p) (upd H p (.tup (List.replicate k.toNat xs).flatten))):=by
 intro pins s σ H x y v u Q I rx ry h
 obtain ⟨a,k,xs,rfl,rfl,ha,⟨k2,k20⟩,⟨hne,h20⟩,q⟩:=h
 cases rx
 obtain ⟨t,rfl⟩:=ry
 obtain ⟨its,r,p1,_⟩:=I.tuple ha
 obtain ⟨⟨cls,dd,data,sl⟩,ho,hc,n,hd⟩:=id p1
 simp only at hc hd
 subst hc hd
 have hlen:its.length=xs.length:=r.length.symm
 have hine:its.toArray.isEmpty=false:=by
  cases its with
  | nil=>exact absurd (r.nil_iff.mp rfl) hne
  | cons _ _=>rfl
 have hmul:(List.replicate k.toNat xs).flatten.length<=400:=by
  rw [ZLN]
  exact Nat.le_trans (Nat.mul_le_mul (show k.toNat<=20 by omega) h20) (by decide)
 have hnew:List.foldl (λ x1 x2=>x1 ++ x2) #[] (List.replicate k.toNat its.toArray)=(List.replicate k.toNat its).flatten.toArray:=by
  have:=ZFN its k.toNat []
  rw [List.nil_append] at this
  exact this
 have hmI:(its.toArray.size:Int) * k<=400:=by
  rw [List.size_toArray,hlen]
  have:(xs.length:Int) * k<=20 * 20:=Int.mul_le_mul (by omega) k20 (by omega) (by decide)
  omega
 refine wpAny_binaryOp_repeat_ref (T:="tuple") (U:="int") (by decide) ⟨_,ho,rfl⟩ (λ s'=>typeIs_int s' k t) HT.noFill_tuple_mul F.fills_int_mul F.slot_int_rmul HT.repeat_tuple F.slot_int_index.lookup
  (call_meets F.slot_int_rmul (typeIs_int s k t) F.entry_int_rmul (F.args_int_rmul_2 _ _) (HT.rmul_tup k t a its.toArray n dd sl)
   ⟨ho,rfl,⟨_,ho,rfl⟩,call_meets F.slot_tuple_mul ⟨_,ho,rfl⟩ F.entry_tuple_mul (F.args_tuple_mul_2 _ _) (HT.tuple_mulW a its.toArray n dd sl k t ?_ ?_ ?_ ?_ ?_ ?_) ⟨ho,?_⟩⟩)
 ·simp; omega
 ·rw [hine]; simp; omega
 ·rw [hine]; simp; omega
 ·omega
 ·unfold Builtin.Tuple.tupleTooMany
  have:(400:Int)<=(sizeLine:Int):=by decide
  rw [decide_eq_true_iff]
  omega
 ·rw [hnew,List.size_toArray,← (r.rep k.toNat).length]
  exact Nat.le_trans hmul (by decide)
 rw [hnew]
 exact ⟨.ref s.heap.objs.size,_,I.laid (t':=s.toks) (o:=.tup (List.replicate k.toNat xs).flatten) (λ b ob q=>Heap.get?_push_of_some _ q) (Nat.le_refl _) ⟨Nat.le_trans hmul (by decide),_,r.rep k.toNat,IsTup.new _ _⟩,rfl,q _ (I.hok.fresh (Nat.le_refl _))⟩
theorem ZCh:OpR X (binaryOp .Mult) (rOp X.K ZAi):=by
 intro pins s σ H x y v u Q I rx ry h
 obtain ⟨ρ,a,b,g,z,g',hR,ra,rb,e,q⟩:=h
 have lists:∀ {k:Int},y=.int k->((ZBh a g).bind λ xs=>if k<=1000/\-1000<=k/\xs.length<=1000 then some (W.dat (.list (List.replicate k.toNat xs).flatten),g) else none)=some (z,g')->wpAny (model X.prog X.w) X.A (binaryOp .Mult v u) (EP X pins σ Q) X.xe s:=λ {k} hy e=>by
  obtain ⟨xs,e1,e⟩:=bnd e
  obtain ⟨l,vs,rfl,h1,t1⟩:=ZBH hR ra e1
  split at e
  ·rename_i hz
   obtain ⟨z1,z2,z3⟩:=hz
   cases e
   refine ZQz pins s σ H _ _ v u Q I rx ry ⟨l,k,vs,rfl,hy,h1,by omega,by omega,?_,λ p hp=>q.new hR (t1.rep _) hp⟩
   rw [t1.length]
   exact Nat.le_trans (Nat.mul_le_mul z3 (show k.toNat<=1000 by omega)) (by decide)
  ·cases e
 cases rb with
 | dat rb =>
  cases rb with
  | int j =>
   cases ra with
   | ref h=>exact lists rfl e
   | inp h=>exact lists rfl e
   | ty=>exact lists rfl e
   | tup _ _=>exact lists rfl e
   | dat ra =>
    cases ra with
    | int i =>
     change (if ZFr i j=true then some (W.dat (.int (i * j)),g) else none)=some (z,g') at e
     split at e
     ·rename_i hz
      cases e
      exact ZRF pins s σ H _ _ v u Q I rx ry ⟨i,j,rfl,rfl,ZOv hz,q.at hR (.dat (.int _))⟩
     ·cases e
    | @tup a1 xs ds f1 t1 =>
     change (if ((decide (2<=j) && decide (j<=20)) && (!ds.isEmpty && decide (ds.length<=20)))=true then some (W.dat (.tuple (List.replicate j.toNat ds).flatten),g) else none)=some (z,g') at e
     split at e
     ·rename_i hz
      cases e
      simp only [Bool.and_eq_true,decide_eq_true_eq,Bool.not_eq_true'] at hz
      obtain ⟨⟨z1,z2⟩,z3,z4⟩:=hz
      refine ZPk pins s σ H _ _ v u Q I rx ry ⟨a1,j,xs,rfl,rfl,f1.sq,⟨z1,z2⟩,⟨λ z=>?_,by rw [t1.length]; exact z4⟩,λ p hp=>q.newT hR (t1.rep _) hp⟩
      subst z
      cases t1
      cases z3
     ·cases e
    | lst h n t=>exact lists rfl e
    | _=>exact lists rfl e
  | _=>cases ra with
   | dat ra=>cases ra <;> cases e
   | _=>cases e
 | _=>cases ra with
  | dat ra=>cases ra <;> cases e
  | _=>cases e
end
end L2
namespace L2
open PySem PySem.Spec PyProof.Rows H1
def ok0 (d:PyData):Bool:=d.canLay0 && decide (d.depth<=40)
def ZFg:W->G->Option PyData
 | .dat d,_=>some d
 | .ref n,g=>(lk g n).map .list
 | _,_=>none
def ZBL (a b:W) (g:G):Option (W × G):=(ZFg a g).bind λ x=>(ZFg b g).bind λ y=>if (ok0 x && ok0 y)=true then some (.dat (.bool (x.eqv y)),g) else none
def ZEH (a b:W) (g:G):Option (W × G):=(ZFg a g).bind λ x=>(ZFg b g).bind λ y=>if (ok0 x && ok0 y)=true then some (.dat (.bool !x.eqv y),g) else none
def ZSF:W->G->Option (List PyData)
 | .dat (.tuple ys),_=>some ys
 | b,g=>ZBh b g
def ZC0 (a b:W) (g:G):Option (W × G):=(ZFg a g).bind λ x=>(ZSF b g).bind λ ys=>if (ok0 x && PyData.canLayAll0 ys)=true then some (.dat (.bool (ys.any λ y=>y.eqv x)),g) else none
def ZCN (a b:W) (g:G):Option (W × G):=(ZFg a g).bind λ x=>(ZSF b g).bind λ ys=>if (ok0 x && PyData.canLayAll0 ys)=true then some (.dat (.bool !ys.any λ y=>y.eqv x),g) else none
section
variable {X:Cx}
theorem ZBF {pins:List (Addr × Obj)} {σ : St} {ρ : Rh} {H:Hp} {s:Shared} {g:G} {v:V} {w:W} {d:PyData} {u:Value} (I:Inv X pins σ H s) (hR:HR X.K ρ H g) (r:Rel X.K ρ H v w) (e:ZFg w g=some d) (c:d.canLay0=true) (ru:Z9 v u):∃ as,Reads s.heap u d as:=by
 cases r with
 | ty=>cases e
 | tup _ _=>cases e
 | inp _=>cases e
 | dat r=>cases e; exact r.reads I c ru
 | ref h =>
  obtain ⟨ds,e1,rfl⟩:=mp e
  obtain ⟨a,vs,h1,h2,h3⟩:=hR.at_ _ _ (ZF2 e1)
  rw [h] at h1
  cases h1
  cases ru
  obtain ⟨_,its,n,rv,e⟩:=I.hok _ _ h2
  obtain ⟨as,ra⟩:=h3.reads I (by rw [PyData.canLay0] at c; exact c) rv
  exact ⟨_,.list e rfl rfl (by simpa using ra)⟩
theorem oEq (hu:X.A.units+64 < cLine):OpR X (compareOp .Eq) (rOp X.K ZBL):=by
 intro pins s σ H x y v u Q I rx ry h
 obtain ⟨ρ,a,b,g,z,g',hR,ra,rb,e,q⟩:=h
 obtain ⟨d1,e1,e⟩:=bnd e
 obtain ⟨d2,e2,e⟩:=bnd e
 split at e
 ·rename_i hz
  cases e
  unfold ok0 at hz
  simp only [Bool.and_eq_true,decide_eq_true_eq] at hz
  obtain ⟨as,r1⟩:=ZBF I hR ra e1 hz.1.1 rx
  obtain ⟨bs,r2⟩:=ZBF I hR rb e2 hz.2.1 ry
  exact PySem.SeqAt.compareEq_reads r1 r2 hz.1.1 hz.2.1 (by have:=hz.1.2; omega) ⟨.bl _,H,I,rfl,q.at hR (.dat (.bl _))⟩
 ·cases e
theorem oNe (hu:X.A.units+64 < cLine):OpR X (compareOp .NotEq) (rOp X.K ZEH):=by
 intro pins s σ H x y v u Q I rx ry h
 obtain ⟨ρ,a,b,g,z,g',hR,ra,rb,e,q⟩:=h
 obtain ⟨d1,e1,e⟩:=bnd e
 obtain ⟨d2,e2,e⟩:=bnd e
 split at e
 ·rename_i hz
  cases e
  unfold ok0 at hz
  simp only [Bool.and_eq_true,decide_eq_true_eq] at hz
  obtain ⟨as,r1⟩:=ZBF I hR ra e1 hz.1.1 rx
  obtain ⟨bs,r2⟩:=ZBF I hR rb e2 hz.2.1 ry
  exact PySem.SeqAt.compareNe_reads r1 r2 hz.1.1 hz.2.1 (by have:=hz.1.2; omega) ⟨.bl _,H,I,rfl,q.at hR (.dat (.bl _))⟩
 ·cases e
theorem ZHs {pins:List (Addr × Obj)} {σ : St} {ρ : Rh} {H:Hp} {s:Shared} {g:G} {v:V} {w:W} {ds:List PyData} {u:Value} (I:Inv X pins σ H s) (hR:HR X.K ρ H g) (r:Rel X.K ρ H v w) (e:ZSF w g=some ds) (c:PyData.canLayAll0 ds=true) (ru:Z9 v u):(∃ as,Reads s.heap u (.list ds) as) ∨ ∃ as,Reads s.heap u (.tuple ds) as:=by
 cases r with
 | ty=>cases e
 | tup _ _=>cases e
 | inp _=>cases e
 | ref h=>exact .inl (ZBF I hR (.ref h) (show ZFg (.ref _) g=some (.list ds) by show (lk g _).map PyData.list=_; rw [show lk g _=some ds from e]; rfl) (by rw [PyData.canLay0]; exact c) ru)
 | dat r =>
  cases r with
  | tup f t=>cases e; exact .inr ((RelD.tup f t).reads I (by rw [PyData.canLay0]; exact c) ru)
  | lst h n t=>cases e; exact .inl ((RelD.lst h n t).reads I (by rw [PyData.canLay0]; exact c) ru)
  | _=>cases e
theorem oIn (hu:X.A.units+64 < cLine):OpR X (compareOp .In) (rOp X.K ZC0):=by
 intro pins s σ H x y v u Q I rx ry h
 obtain ⟨ρ,a,b,g,z,g',hR,ra,rb,e,q⟩:=h
 obtain ⟨d1,e1,e⟩:=bnd e
 obtain ⟨ds,e2,e⟩:=bnd e
 split at e
 ·rename_i hz
  cases e
  unfold ok0 at hz
  simp only [Bool.and_eq_true,decide_eq_true_eq] at hz
  obtain ⟨as,r1⟩:=ZBF I hR ra e1 hz.1.1 rx
  have hd:X.A.units+1+min (PyData.depthAll ds) d1.depth < cLine:=by have:=hz.1.2; have:=Nat.min_le_right (PyData.depthAll ds) d1.depth; omega
  rcases ZHs I hR rb e2 hz.2 ry with ⟨bs,r2⟩ | ⟨bs,r2⟩
  ·exact PySem.SeqAt.in_list_reads r2 r1 hz.2 hz.1.1 hd ⟨.bl _,H,I,rfl,q.at hR (.dat (.bl _))⟩
  ·exact PySem.SeqAt.in_tuple_reads r2 r1 hz.2 hz.1.1 hd ⟨.bl _,H,I,rfl,q.at hR (.dat (.bl _))⟩
 ·cases e
theorem ZGC (hu:X.A.units+64 < cLine):OpR X (compareOp .NotIn) (rOp X.K ZCN):=by
 intro pins s σ H x y v u Q I rx ry h
 obtain ⟨ρ,a,b,g,z,g',hR,ra,rb,e,q⟩:=h
 obtain ⟨d1,e1,e⟩:=bnd e
 obtain ⟨ds,e2,e⟩:=bnd e
 split at e
 ·rename_i hz
  cases e
  unfold ok0 at hz
  simp only [Bool.and_eq_true,decide_eq_true_eq] at hz
  obtain ⟨as,r1⟩:=ZBF I hR ra e1 hz.1.1 rx
  have hd:X.A.units+1+min (PyData.depthAll ds) d1.depth < cLine:=by have:=hz.1.2; have:=Nat.min_le_right (PyData.depthAll ds) d1.depth; omega
  rcases ZHs I hR rb e2 hz.2 ry with ⟨bs,r2⟩ | ⟨bs,r2⟩
  ·exact PySem.SeqAt.notIn_list_reads r2 r1 hz.2 hz.1.1 hd ⟨.bl _,H,I,rfl,q.at hR (.dat (.bl _))⟩
  ·exact PySem.SeqAt.notIn_tuple_reads r2 r1 hz.2 hz.1.1 hd ⟨.bl _,H,I,rfl,q.at hR (.dat (.bl _))⟩
 ·cases e
end
def ZCF:List PyData->Option (List Int)
 | []=>some []
 | .int i :: r=>(ZCF r).map λ ns=>i :: ns
 | _ :: _=>none
theorem ZA4 {K:PySem.W.Frag} {ρ : Rh} {H:Hp}:∀ {vs:List V} {ds:List PyData} {ns:List Int},RelDL K ρ H vs ds->ZCF ds=some ns->vs=ns.map V.int
 | _,_,_,.nil,e=>by cases e; rfl
 | _,_,_,.cons (.int i) t,e=>by
  obtain ⟨ms,e1,rfl⟩:=mp e
  rw [ZA4 t e1]
  rfl
 | _,_,_,.cons .non _,e=>by cases e
 | _,_,_,.cons (.bl _) _,e=>by cases e
 | _,_,_,.cons (.str _) _,e=>by cases e
 | _,_,_,.cons (.tup _ _) _,e=>by cases e
 | _,_,_,.cons (.lst _ _ _) _,e=>by cases e
 | _,_,_,.cons (.dct _ _) _,e=>by cases e
def ZFy:W->W->G->Option (W × G)
 | .dat (.int i),.dat (.int j),g=>some (.dat (.bool (decide (i < j))),g)
 | .dat (.tuple xs),.dat (.tuple ys),g=>(ZCF xs).bind λ ns=>(ZCF ys).map λ ms=>(.dat (.bool (HT.lexLt ns ms)),g)
 | .dat (.str a),.dat (.str b),g=>some (.dat (.bool (decide (a.cps.toList < b.cps.toList))),g)
 | _,_,_=>none
def ZJN:W->W->G->Option (W × G)
 | .dat (.int i),.dat (.int j),g=>some (.dat (.bool (decide (j < i))),g)
 | .dat (.tuple xs),.dat (.tuple ys),g=>(ZCF xs).bind λ ns=>(ZCF ys).map λ ms=>(.dat (.bool (HT.lexGt ns ms)),g)
 | _,_,_=>none
def ZPC:W->W->G->Option (W × G)
 | .dat (.int i),.dat (.int j),g=>some (.dat (.bool (decide (j<=i))),g)
 | .dat (.tuple xs),.dat (.tuple ys),g=>(ZCF xs).bind λ ns=>(ZCF ys).map λ ms=>(.dat (.bool (HT.lexGe ns ms)),g)
 | _,_,_=>none
def ZSR:W->W->G->Option (W × G)
 | .dat (.int i),.dat (.int j),g=>some (.dat (.bool (decide (i<=j))),g)
 | _,_,_=>none
section
variable {X:Cx}
theorem oLt (hu:X.A.units+64 < cLine):OpR X (compareOp .Lt) (rOp X.K ZFy):=by
 intro pins s σ H x y v u Q I rx ry h
 obtain ⟨ρ,a,b,g,z,g',hR,ra,rb,e,q⟩:=h
 cases ra with
 | dat ra =>
  cases rb with
  | dat rb =>
   cases ra with
   | int i =>
    cases rb with
    | int j=>cases e; exact op_lt pins s σ H _ _ v u Q I rx ry ⟨i,j,rfl,rfl,q.at hR (.dat (.bl _))⟩
    | _=>cases e
   | str i =>
    cases rb with
    | str j=>cases e; exact ZLn pins s σ H _ _ v u Q I rx ry ⟨i,j,rfl,rfl,q.at hR (.dat (.bl _))⟩
    | _=>cases e
   | tup f1 t1 =>
    cases rb with
    | tup f2 t2 =>
     obtain ⟨ns,e1,e⟩:=bnd e
     obtain ⟨ms,e2,e⟩:=mp e
     cases e
     have i1:=ZA4 t1 e1
     have i2:=ZA4 t2 e2
     subst i1 i2
     exact ZRj (by omega) pins s σ H _ _ v u Q I rx ry ⟨_,_,ns,ms,rfl,rfl,f1.sq,f2.sq,q.at hR (.dat (.bl _))⟩
    | _=>cases e
   | _=>cases e
  | _=>cases ra <;> cases e
 | _=>cases e
theorem oGt (hu:X.A.units+64 < cLine):OpR X (compareOp .Gt) (rOp X.K ZJN):=by
 intro pins s σ H x y v u Q I rx ry h
 obtain ⟨ρ,a,b,g,z,g',hR,ra,rb,e,q⟩:=h
 cases ra with
 | dat ra =>
  cases rb with
  | dat rb =>
   cases ra with
   | int i =>
    cases rb with
    | int j=>cases e; exact op_gt pins s σ H _ _ v u Q I rx ry ⟨i,j,rfl,rfl,q.at hR (.dat (.bl _))⟩
    | _=>cases e
   | tup f1 t1 =>
    cases rb with
    | tup f2 t2 =>
     obtain ⟨ns,e1,e⟩:=bnd e
     obtain ⟨ms,e2,e⟩:=mp e
     cases e
     have i1:=ZA4 t1 e1
     have i2:=ZA4 t2 e2
     subst i1 i2
     exact ZRC (by omega) pins s σ H _ _ v u Q I rx ry ⟨_,_,ns,ms,rfl,rfl,f1.sq,f2.sq,q.at hR (.dat (.bl _))⟩
    | _=>cases e
   | _=>cases e
  | _=>cases ra <;> cases e
 | _=>cases e
theorem oGe (hu:X.A.units+64 < cLine):OpR X (compareOp .GtE) (rOp X.K ZPC):=by
 intro pins s σ H x y v u Q I rx ry h
 obtain ⟨ρ,a,b,g,z,g',hR,ra,rb,e,q⟩:=h
 cases ra with
 | dat ra =>
  cases rb with
  | dat rb =>
   cases ra with
   | int i =>
    cases rb with
    | int j=>cases e; exact op_ge pins s σ H _ _ v u Q I rx ry ⟨i,j,rfl,rfl,q.at hR (.dat (.bl _))⟩
    | _=>cases e
   | tup f1 t1 =>
    cases rb with
    | tup f2 t2 =>
     obtain ⟨ns,e1,e⟩:=bnd e
     obtain ⟨ms,e2,e⟩:=mp e
     cases e
     have i1:=ZA4 t1 e1
     have i2:=ZA4 t2 e2
     subst i1 i2
     exact ZQf (by omega) pins s σ H _ _ v u Q I rx ry ⟨_,_,ns,ms,rfl,rfl,f1.sq,f2.sq,q.at hR (.dat (.bl _))⟩
    | _=>cases e
   | _=>cases e
  | _=>cases ra <;> cases e
 | _=>cases e
theorem oLe:OpR X (compareOp .LtE) (rOp X.K ZSR):=by
 intro pins s σ H x y v u Q I rx ry h
 obtain ⟨ρ,a,b,g,z,g',hR,ra,rb,e,q⟩:=h
 cases ra with
 | dat ra =>
  cases rb with
  | dat rb =>
   cases ra with
   | int i =>
    cases rb with
    | int j=>cases e; exact op_le pins s σ H _ _ v u Q I rx ry ⟨i,j,rfl,rfl,q.at hR (.dat (.bl _))⟩
    | _=>cases e
   | _=>cases e
  | _=>cases ra <;> cases e
 | _=>cases e
def Zm:W->W->G->Option (W × G)
 | .dat (.tuple ds),.dat (.int i),g=>(atI ds i).map λ d=>(.dat d,g)
 | .inp ns,.dat (.int i),g=>(atI ns i).map λ d=>(.dat (.int d),g)
 | .tup ws,.dat (.int i),g=>(atI ws i).map λ w=>(w,g)
 | .ref n,.dat (.int i),g=>match g[n]? with
  | some (.pl ds)=>(atI ds i).map λ d=>(.dat d,g)
  | some (.rl ws)=>(atI ws i).map λ w=>(w,g)
  | _=>none
 | a,.dat (.int i),g=>(ZBh a g).bind λ ds=>(atI ds i).map λ d=>(.dat d,g)
 | _,_,_=>none
theorem ZH5 {K:PySem.W.Frag} {ρ : Rh} {H:Hp} {vs:List V} {ds:List PyData} {i:Int} {d:PyData} (t:RelDL K ρ H vs ds) (e:atI ds i=some d):∃ v,atI vs i=some v/\RelD K ρ H v d:=by
 unfold atI at *
 rw [t.length]
 obtain ⟨j,e1,e2⟩:=bnd e
 rw [e1]
 exact t.getD e2
theorem ZJr {K:PySem.W.Frag} {ρ : Rh} {H:Hp} {vs:List V} {ds:List W} {i:Int} {d:W} (t:RelL K ρ H vs ds) (e:atI ds i=some d):∃ v,atI vs i=some v/\Rel K ρ H v d:=by
 unfold atI at *
 rw [t.length]
 obtain ⟨j,e1,e2⟩:=bnd e
 rw [e1]
 exact t.getD e2
theorem oIx:IxR X (rOp X.K Zm):=by
 intro value slice pins s σ H x y v u Q I rx ry h hs
 obtain ⟨ρ,a,b,g,z,g',hR,ra,rb,e,q⟩:=h
 cases rb with
 | dat rb =>
  cases rb with
  | int i =>
   have lists:((ZBh a g).bind λ ds=>(atI ds i).map λ d=>(W.dat d,g))=some (z,g')->wpAny (model X.prog X.w) X.A (subscriptTail value slice v u) (EP X pins σ Q) X.xe s:=λ e=>by
    obtain ⟨xs,e1,e⟩:=bnd e
    obtain ⟨d,e2,e⟩:=mp e
    cases e
    obtain ⟨l,vs,rfl,h1,t1⟩:=ZBH hR ra e1
    obtain ⟨w,e3,r3⟩:=ZH5 t1 e2
    exact ZEs value slice pins s σ H _ _ v u Q I rx ry ⟨l,vs,i,w,rfl,rfl,SqL.of h1,e3,q.at hR (.dat r3)⟩ hs
   cases ra with
   | @ref a n h =>
    change (match g[n]? with | some (.pl ds)=>(atI ds i).map λ d=>(W.dat d,g) | some (.rl ws)=>(atI ws i).map λ w=>(w,g) | _=>none)=some (z,g') at e
    split at e
    ·rename_i ds e1
     obtain ⟨d,e2,e⟩:=mp e
     cases e
     obtain ⟨a',vs,k1,k2,k3⟩:=hR.at_ _ _ e1
     rw [h] at k1
     cases k1
     obtain ⟨w,e3,r3⟩:=ZH5 k3 e2
     exact ZEs value slice pins s σ H _ _ v u Q I rx ry ⟨a,vs,i,w,rfl,rfl,SqL.of k2,e3,q.at hR (.dat r3)⟩ hs
    ·rename_i ws e1
     obtain ⟨d,e2,e⟩:=mp e
     cases e
     obtain ⟨a',k1,vs,k2,k3⟩:=hR.ce _ _ e1
     rw [h] at k1
     cases k1
     obtain ⟨w,e3,r3⟩:=ZJr k3 e2
     exact ZEs value slice pins s σ H _ _ v u Q I rx ry ⟨a,vs,i,w,rfl,rfl,SqL.of k2,e3,q.at hR r3⟩ hs
    ·cases e
   | ty=>exact lists e
   | tup f t =>
    obtain ⟨d,e2,e⟩:=mp e
    cases e
    obtain ⟨w,e3,r3⟩:=ZJr t e2
    exact ZN7 value slice pins s σ H _ _ v u Q I rx ry ⟨_,_,i,w,rfl,rfl,f.sq,e3,q.at hR r3⟩ hs
   | @inp a ns h =>
    obtain ⟨d,e2,e⟩:=mp e
    cases e
    refine ZEs value slice pins s σ H _ _ v u Q I rx ry ⟨a,_,i,.int d,rfl,rfl,h.sq,?_,q.at hR (.dat (.int _))⟩ hs
    unfold atI at *
    rw [List.length_map]
    obtain ⟨j,e1,e2⟩:=bnd e2
    rw [e1]
    show (ns.map V.int)[j]? = _
    rw [List.getElem?_map,e2]
    rfl
   | dat ra =>
    cases ra with
    | tup f t =>
     obtain ⟨d,e2,e⟩:=mp e
     cases e
     obtain ⟨w,e3,r3⟩:=ZH5 t e2
     exact ZN7 value slice pins s σ H _ _ v u Q I rx ry ⟨_,_,i,w,rfl,rfl,f.sq,e3,q.at hR (.dat r3)⟩ hs
    | lst h n t=>exact lists e
    | _=>exact lists e
  | _=>cases ra with
   | dat ra=>cases ra <;> cases e
   | _=>cases e
 | _=>cases ra with
  | dat ra=>cases ra <;> cases e
  | _=>cases e
abbrev DO:=Sd->G->Option (Option Int × G)
def tO (K:PySem.W.Frag) (d:DO):TO:=λ σ H Q=>∃ ρ sd g i g',Rst K ρ H σ sd g/\d sd g=some (i,g')/\∀ H' ρ',Stp ρ H ρ' H'->HR K ρ' H' g'->Q i H'
theorem PO.imp {e:Option Expr} {t u:TO} (h:PO X e t) (k:∀ σ H Q,u σ H Q->t σ H Q):PO X e u:=λ pins s σ H Q I q=>h pins s σ H Q I (k σ H Q q)
def ZBe:DO:=λ _ g=>some (none,g)
def ZDZ (d:DE):DO:=λ sd g=>(d sd g).bind λ p=>match p.1 with | .dat (.int i)=>some (some i,p.2) | _=>none
theorem ZO4:PO X none (tO X.K ZBe):=ZPQ.imp λ σ H Q ⟨ρ,sd,g,i,g',r,e,q⟩=>by
 cases e
 exact q H ρ .refl r.hr
theorem ZOg {e:Expr} {d:DE} (h:PE X e (tE X.K d)):PO X (some e) (tO X.K (ZDZ d)):=(ZPg h).imp λ σ H Q ⟨ρ,sd,g,i,g',r,e,q⟩=>by
 obtain ⟨⟨x,g1⟩,e1,e⟩:=bnd e
 refine ⟨ρ,sd,g,x,g1,r,e1,λ v H1 ρ1 s1 h1 r1=>?_⟩
 cases r1 with
 | dat r1 =>
  cases r1 with
  | int j=>cases e; exact ⟨j,rfl,q H1 ρ1 s1 h1⟩
  | _=>cases e
 | _=>cases e
def ZCA {α : Type} (xs:List α) (lo hi:Option Int):List α:=(xs.drop (HT.sIx xs.length 0 lo)).take (HT.sIx xs.length xs.length hi - HT.sIx xs.length 0 lo)
def slO (w:W) (lo hi:Option Int) (g:G):Option (W × G):=match w with
 | .dat (.tuple ds)=>some (.dat (.tuple (ZCA ds lo hi)),g)
 | .inp ns=>some (.dat (.list (ZCA (ns.map .int) lo hi)),g)
 | w=>(ZBh w g).map λ ds=>(.dat (.list (ZCA ds lo hi)),g)
def dSl (d:DE) (l h:DO):DE:=λ sd g=>(d sd g).bind λ p=>(l sd p.2).bind λ a=>(h sd a.2).bind λ b=>slO p.1 a.1 b.1 b.2
theorem ZH8 {K:PySem.W.Frag} {ρ : Rh} {H:Hp} {vs:List V} {ds:List PyData} (t:RelDL K ρ H vs ds) (lo hi:Option Int):RelDL K ρ H (ZIf vs lo hi) (ZCA ds lo hi):=by
 unfold ZIf ZCA
 rw [t.length]
 exact (t.drop _).take _
theorem ZQ6:SlR X (λ x lo hi H Q=>∃ ρ w g z g',HR X.K ρ H g/\Rel X.K ρ H x w/\slO w lo hi g=some (z,g')/\Pv X.K ρ H z g' Q):=by
 intro pins s σ H x v vl vu lo hi sl Q I rx hs pl pu h
 obtain ⟨ρ,w,g,z,g',hR,rw_,e,q⟩:=h
 have lists:((ZBh w g).map λ ds=>(W.dat (.list (ZCA ds lo hi)),g))=some (z,g')->∃ T id,typeLookup (.type T) "__getitem__" = pure (some (.builtin id))/\s.TypeIs v T/\wpAny (model X.prog X.w) X.A (getItem v (.ref sl)) (EP X pins σ Q) X.xe s:=λ e=>by
  obtain ⟨ds,e1,e⟩:=mp e
  cases e
  obtain ⟨l,vs,rfl,h1,t1⟩:=ZBH hR rw_ e1
  exact ZLX pins s σ H _ v vl vu lo hi sl Q I rx hs pl pu ⟨l,vs,rfl,SqL.of h1,λ p hp=>q.new hR (ZH8 t1 lo hi) hp⟩
 cases rw_ with
 | ref h=>exact lists e
 | ty=>exact lists e
 | tup _ _=>exact lists e
 | inp h =>
  cases e
  exact ZLX pins s σ H _ v vl vu lo hi sl Q I rx hs pl pu ⟨_,_,rfl,h.sq,λ p hp=>q.new hR (ZH8 RelDL.ofInts lo hi) hp⟩
 | dat r =>
  cases r with
  | @tup a xs ds f t =>
   cases e
   refine ZP5 pins s σ H _ v vl vu lo hi sl Q I rx hs pl pu ⟨_,_,rfl,f.sq,λ hw=>?_,λ _ p hp=>q.newT hR (ZH8 t lo hi) hp⟩
   refine q.at hR (.dat ?_)
   have e:ZCA ds lo hi=ds:=by
    unfold ZCA
    rw [← t.length,hw.1,hw.2,t.length]
    simp
   rw [e]
   exact .tup f t
  | lst h n t=>exact lists e
  | _=>exact lists e
theorem de_sl {e:Expr} {lo hi:Option Expr} {d:DE} {l h:DO} {pos p2:Pos} (he:PE X e (tE X.K d)) (hl:PO X lo (tO X.K l)) (hh:PO X hi (tO X.K h)):PE X (.Subscript e (.Slice lo hi none p2) pos) (tE X.K (dSl d l h)):=(ZMe ZQ6 he hl hh).imp λ σ H Q ⟨ρ,sd,g,x,g',r,e,q⟩=>by
 obtain ⟨⟨y,g1⟩,e1,e⟩:=bnd e
 obtain ⟨⟨i,g2⟩,e2,e⟩:=bnd e
 obtain ⟨⟨j,g3⟩,e3,e⟩:=bnd e
 refine ⟨ρ,sd,g,y,g1,r,e1,λ v H1 ρ1 s1 h1 r1=>⟨ρ1,sd,g1,i,g2,r.step s1 h1,e2,λ H2 ρ2 s2 h2=>⟨ρ2,sd,g2,j,g3,r.step (s1.trans s2) h2,e3,λ H3 ρ3 s3 h3=>?_⟩⟩⟩
 exact ⟨ρ3,y,g3,x,g',h3,r1.mono (s2.trans s3),e,q.step (s1.trans (s2.trans s3))⟩
end
end L2
namespace L2
open PySem PySem.Spec PyProof.Rows H1
def f1 (f:W->G->Option (W × G)):List W->G->Option (W × G)
 | [w],g=>f w g
 | _,_=>none
def ZBq:W->G->Option (W × G)
 | .dat (.tuple ds),g=>some (.dat (.int (ds.length:Int)),g)
 | .inp ns,g=>some (.dat (.int (ns.length:Int)),g)
 | .ref n,g=>match g[n]? with
  | some (.pl ds)=>some (.dat (.int (ds.length:Int)),g)
  | some (.rl ws)=>some (.dat (.int (ws.length:Int)),g)
  | _=>none
 | w,g=>(ZBh w g).map λ ds=>(.dat (.int (ds.length:Int)),g)
def ZLj:W->G->Option (W × G)
 | .dat (.int i),g=>some (.dat (.int i),g)
 | .dat (.bool b),g=>some (.dat (.int (if b=true then 1 else 0)),g)
 | _,_=>none
def ZSG:W->G->Option (W × G)
 | .dat (.int i),g=>some (.dat (.int (if i < 0 then -i else i)),g)
 | _,_=>none
def ZDh:W->G->Option (W × G)
 | .dat (.tuple ds),g=>some (.dat (.tuple ds),g)
 | w,g=>(ZBh w g).map λ ds=>(.dat (.tuple ds),g)
def ZD8:List PyData->Option (List Bool)
 | []=>some []
 | .bool i :: r=>(ZD8 r).map λ ns=>i :: ns
 | _ :: _=>none
def ZGD (w:W) (g:G):Option (W × G):=(ZBh w g).bind λ ds=>(ZD8 ds).map λ bs=>(.dat (.bool (bs.all id)),g)
def ZNP:List W->G->Option (W × G)
 | [.dat (.int i),.dat (.int j)],g=>some (.dat (.int (if j < i then j else i)),g)
 | _,_=>none
def ZRu:PyData->String
 | .none=>"NoneType"
 | .bool _=>"bool"
 | .int _=>"int"
 | .str _=>"str"
 | .list _=>"list"
 | .tuple _=>"tuple"
 | .dict _=>"dict"
def ZKK:List W->G->Option (W × G)
 | [.dat d,.ty T],g=>if T = "int" ∨ T = "bool" ∨ T = "tuple" ∨ T = "str" then some (.dat (.bool (isi (ZRu d) T)),g) else none
 | _,_=>none
section
variable {X:Cx}
theorem c1 {f:Value} {fn:W->G->Option (W × G)} {r:List V->Hp->VK->Prop} (h:ZAG X f r) (k:∀ ρ H g x w z g' Q,HR X.K ρ H g->Rel X.K ρ H x w->fn w g=some (z,g')->Pv X.K ρ H z g' Q->r [x] H Q):ZAG X f (rF X.K (f1 fn)):=h.imp λ xs H Q ⟨ρ,ws,g,z,g',hR,rl,e,q⟩=>by
 cases rl with
 | nil=>cases e
 | cons r1 t =>
  cases t with
  | nil=>exact k ρ H g _ _ z g' Q hR r1 e q
  | cons _ _=>cases e
theorem ZCP:ZAG X (.builtin "len") (rF X.K (f1 ZBq)):=c1 ZIX λ ρ H g x w z g' Q hR r e q=>by
 have lists:((ZBh w g).map λ ds=>(W.dat (.int (ds.length:Int)),g))=some (z,g')->∃ p ys,[x]=[V.ref p]/\(SqL X.K H p ys ∨ SqT X.K H p ys)/\Q (.int ys.length) H:=λ e=>by
  obtain ⟨ds,e1,e⟩:=mp e
  cases e
  obtain ⟨l,vs,rfl,h1,t1⟩:=ZBH hR r e1
  exact ⟨l,vs,rfl,.inl (SqL.of h1),q.at hR (by rw [t1.length]; exact .dat (.int _))⟩
 cases r with
 | @ref a n h =>
  change (match g[n]? with | some (.pl ds)=>some (W.dat (.int (ds.length:Int)),g) | some (.rl ws)=>some (W.dat (.int (ws.length:Int)),g) | _=>none)=some (z,g') at e
  split at e
  ·rename_i ds e1
   cases e
   obtain ⟨a',vs,k1,k2,k3⟩:=hR.at_ _ _ e1
   rw [h] at k1
   cases k1
   exact ⟨a,vs,rfl,.inl (SqL.of k2),q.at hR (by rw [k3.length]; exact .dat (.int _))⟩
  ·rename_i ds e1
   cases e
   obtain ⟨a',k1,vs,k2,k3⟩:=hR.ce _ _ e1
   rw [h] at k1
   cases k1
   exact ⟨a,vs,rfl,.inl (SqL.of k2),q.at hR (by rw [k3.length]; exact .dat (.int _))⟩
  ·cases e
 | ty=>exact lists e
 | tup _ _=>exact lists e
 | inp h=>cases e; exact ⟨_,_,rfl,.inl h.sq,q.at hR (by rw [List.length_map]; exact .dat (.int _))⟩
 | dat r =>
  cases r with
  | tup f t=>cases e; exact ⟨_,_,rfl,.inr f.sq,q.at hR (by rw [t.length]; exact .dat (.int _))⟩
  | lst h n t=>exact lists e
  | _=>exact lists e
theorem ZNg:ZAG X (.type "int") (rF X.K (f1 ZLj)):=c1 ZMU λ ρ H g x w z g' Q hR r e q=>by
 cases r with
 | dat r =>
  cases r with
  | int i=>cases e; exact .inl ⟨i,rfl,q.at hR (.dat (.int _))⟩
  | bl b=>cases e; exact .inr ⟨b,rfl,q.at hR (.dat (.int _))⟩
  | _=>cases e
 | _=>cases e
theorem ZSY:ZAG X (.builtin "abs") (rF X.K (f1 ZSG)):=c1 ZN8 λ ρ H g x w z g' Q hR r e q=>by
 cases r with
 | dat r =>
  cases r with
  | int i=>cases e; exact ⟨i,rfl,q.at hR (.dat (.int _))⟩
  | _=>cases e
 | _=>cases e
theorem ZEk:ZAG X (.type "tuple") (rF X.K (f1 ZDh)):=c1 ZHP λ ρ H g x w z g' Q hR r e q=>by
 have lists:((ZBh w g).map λ ds=>(W.dat (.tuple ds),g))=some (z,g')->∃ p ys,[x]=[V.ref p]/\((SqL X.K H p ys/\∀ l,H l=none->Q (.ref l) (upd H l (.tup ys))) ∨ (SqT X.K H p ys/\Q (.ref p) H)):=λ e=>by
  obtain ⟨ds,e1,e⟩:=mp e
  cases e
  obtain ⟨l,vs,rfl,h1,t1⟩:=ZBH hR r e1
  exact ⟨l,vs,rfl,.inl ⟨SqL.of h1,λ p hp=>q.newT hR t1 hp⟩⟩
 cases r with
 | ref h=>exact lists e
 | ty=>exact lists e
 | tup _ _=>exact lists e
 | inp h=>exact lists e
 | dat r =>
  cases r with
  | tup f t=>cases e; exact ⟨_,_,rfl,.inr ⟨f.sq,q.at hR (.dat (.tup f t))⟩⟩
  | lst h n t=>exact lists e
  | _=>exact lists e
theorem ZFc {K:PySem.W.Frag} {ρ : Rh} {H:Hp}:∀ {vs:List V} {ds:List PyData} {ns:List Bool},RelDL K ρ H vs ds->ZD8 ds=some ns->vs=ns.map V.bl
 | _,_,_,.nil,e=>by cases e; rfl
 | _,_,_,.cons (.bl i) t,e=>by
  obtain ⟨ms,e1,rfl⟩:=mp e
  rw [ZFc t e1]
  rfl
 | _,_,_,.cons .non _,e=>by cases e
 | _,_,_,.cons (.int _) _,e=>by cases e
 | _,_,_,.cons (.str _) _,e=>by cases e
 | _,_,_,.cons (.tup _ _) _,e=>by cases e
 | _,_,_,.cons (.lst _ _ _) _,e=>by cases e
 | _,_,_,.cons (.dct _ _) _,e=>by cases e
theorem ZNb (hc:X.calm=true):ZAG X (.builtin "all") (rF X.K (f1 ZGD)):=c1 (ZNJ hc) λ ρ H g x w z g' Q hR r e q=>by
 obtain ⟨ds,e1,e⟩:=bnd e
 obtain ⟨bs,e2,e⟩:=mp e
 cases e
 obtain ⟨l,vs,rfl,h1,t1⟩:=ZBH hR r e1
 have:=ZFc t1 e2
 subst this
 exact ⟨l,bs,rfl,SqL.of h1,q.at hR (.dat (.bl _))⟩
theorem ZRw (hc:X.calm=true):ZAG X (.builtin "min") (rF X.K ZNP):=(ZLf hc).imp λ xs H Q ⟨ρ,ws,g,z,g',hR,rl,e,q⟩=>by
 cases rl with
 | nil=>cases e
 | cons r1 t =>
  cases t with
  | nil=>cases r1 with
   | dat r1=>cases r1 <;> cases e
   | _=>cases e
  | cons r2 t =>
   cases r1 with
   | dat r1 =>
    cases r1 with
    | int i =>
     cases r2 with
     | dat r2 =>
      cases r2 with
      | int j =>
       cases t with
       | nil=>cases e; exact ⟨i,j,rfl,q.at hR (.dat (.int _))⟩
       | cons _ _=>cases e
      | _=>cases e
     | _=>cases e
    | _=>cases e
   | _=>cases e
theorem kd_of {K:PySem.W.Frag} {ρ : Rh} {H:Hp} {v:V} {d:PyData} (r:RelD K ρ H v d):Kd K H v (ZRu d):=by
 cases r with
 | non=>exact .non
 | bl b=>exact .bl b
 | int i=>exact .int i
 | str x=>exact .str x
 | tup f t=>exact .tup f.sq
 | lst h n t=>exact .lst h
 | dct h n=>exact .dct h
theorem ZLm:ZAG X (.builtin "isinstance") (rF X.K ZKK):=ZME.imp λ xs H Q ⟨ρ,ws,g,z,g',hR,rl,e,q⟩=>by
 cases rl with
 | nil=>cases e
 | cons r1 t =>
  cases r1 with
  | dat r1 =>
   cases t with
   | nil=>cases e
   | cons r2 t =>
    cases r2 with
    | @ty T =>
     cases t with
     | nil =>
      change (if T = "int" ∨ T = "bool" ∨ T = "tuple" ∨ T = "str" then some (W.dat (.bool (isi (ZRu _) T)),g) else none)=some (z,g') at e
      split at e
      ·rename_i hz
       cases e
       exact ⟨_,T,_,rfl,kd_of r1,hz,q.at hR (.dat (.bl _))⟩
      ·cases e
     | cons _ _=>cases e
    | _=>cases e
  | _=>cases e
theorem de_ty {x:Str} {n:String} {pos:Pos} (hg:Gl X x) (hm:X.mg x=none) (hv:bootBuiltins x=some (.type n)) (hn:x ≠ "__name__":=by decide) (hd:(x == ("__debug__" : Str))=false:=by decide):PE X (.Name x pos) (tE X.K λ _ g=>some (.ty n,g)):=(ZPu (v:=.ty n) hg hm hv rfl hn hd).imp λ σ H Q ⟨ρ,sd,g,y,g',hr,e,q⟩=>by
 cases e
 exact q _ H ρ .refl hr.hr .ty
end
end L2
namespace L2
open PySem PySem.Spec PyProof.Rows H1
def ZMs (ns:List Int):List Int:=ns.mergeSort λ a b=>decide (a<=b)
theorem ZN3 {ns ms:List Int} (pm:ms.Perm ns) (pw:ms.Pairwise (· <= ·)):ms=ZMs ns:=by
 refine List.Perm.eq_of_pairwise (le:=λ a b:Int=>a<=b) (λ a b _ _ h1 h2=>Int.le_antisymm h1 h2) pw ?_ (pm.trans (List.mergeSort_perm _ _).symm)
 refine List.Pairwise.imp (λ {a b} h=>of_decide_eq_true h) (List.pairwise_mergeSort (le:=λ a b:Int=>decide (a<=b)) (λ a b c h1 h2=>?_) (λ a b=>?_) ns)
 ·exact decide_eq_true (Int.le_trans (of_decide_eq_true h1) (of_decide_eq_true h2))
 ·rw [Bool.or_eq_true,decide_eq_true_iff,decide_eq_true_iff]
  exact Int.le_total a b
def ZFh (ks:List (Int × Int)):List (Int × Int):=ks.mergeSort λ a b=>!gtW a b
theorem ZOH {ks js:List (Int × Int)} (pm:js.Perm ks) (pw:js.Pairwise (λ a b=>gtW b a=true)):js=ZFh ks:=by
 have ha:∀ a b:Int × Int,(!gtW a b)=true ↔ a.1 < b.1 ∨ (a.1=b.1/\a.2<=b.2):=λ a b=>by
  rw [Bool.not_eq_true',← Bool.not_eq_true,ZCl]
  omega
 refine List.Perm.eq_of_pairwise (le:=λ a b:Int × Int=>(!gtW a b)=true) (λ a b _ _ h1 h2=>?_) (pw.imp λ {a b} h=>?_) ?_ (pm.trans (List.mergeSort_perm _ _).symm)
 ·rw [ha] at h1 h2
  exact Prod.ext (by omega) (by omega)
 ·rw [ha]
  rw [ZCl] at h
  omega
 ·refine List.pairwise_mergeSort (le:=λ a b=>!gtW a b) (λ a b c h1 h2=>?_) (λ a b=>?_) ks
  ·rw [ha] at *
   omega
  ·rw [Bool.or_eq_true,ha,ha]
   omega
def ZKe:PyData->Option (Int × Int)
 | .tuple [.int i,.int j]=>some (i,j)
 | _=>none
theorem ZML {d:PyData} {k:Int × Int} (h:ZKe d=some k):d=Zk k:=by
 unfold ZKe at h
 split at h
 ·cases h; rfl
 ·cases h
def pairsOf:List PyData->Option (List (Int × Int))
 | []=>some []
 | d :: r=>(ZKe d).bind λ k=>(pairsOf r).map λ ns=>k :: ns
theorem ZGy:∀ {ds:List PyData} {ks:List (Int × Int)},pairsOf ds=some ks->ds=ks.map Zk
 | [],_,e=>by cases e; rfl
 | d :: r,_,e=>by
  rw [pairsOf] at e
  obtain ⟨k,e0,e⟩:=bnd e
  obtain ⟨ms,e1,rfl⟩:=mp e
  rw [ZGy e1,ZML e0]
  rfl
def ZNo (w:W) (g:G):Option (W × G):=(ZBh w g).bind λ ds=>match ZCF ds with
 | some ns=>if ns.length < 64 then some (.dat (.list ((ZMs ns).map .int)),g) else none
 | none=>(pairsOf ds).bind λ ks=>if ks.Nodup/\ks.length<=6 then some (.dat (.list ((ZFh ks).map Zk)),g) else none
section
variable {X:Cx} {pins:List (Addr × Obj)} {σ : St} {H:Hp} {s:Shared} {ρ : Rh}
theorem RelD.tupI {K:PySem.W.Frag} {v:V} {ds:List PyData} (h:RelD K ρ H v (.tuple ds)):∃ a xs,v=.ref a/\FzT K ρ H a xs/\RelDL K ρ H xs ds:=by
 cases h with
 | tup f t=>exact ⟨_,_,rfl,f,t⟩
theorem RelD.pairI {K:PySem.W.Frag} {v:V} {k:Int × Int} (h:RelD K ρ H v (Zk k)):∃ a,v=.ref a/\FzT K ρ H a [.int k.1,.int k.2]:=by
 obtain ⟨a,xs,rfl,f,t⟩:=RelD.tupI (ds:=[.int k.1,.int k.2]) h
 have:=RelDL.ints (ns:=[k.1,k.2]) t
 subst this
 exact ⟨a,rfl,f⟩
theorem ZLp (I:Inv X pins σ H s):∀ {ks:List (Int × Int)} {ys:List V} {its:List Value},RelDL X.K ρ H ys (ks.map Zk)->Zu ys its->PairsIn s.heap its ks:=by
 intro ks
 induction ks with
 | nil =>
  intro ys its t r
  cases t
  cases r
  exact .nil
 | cons k ks ih =>
  intro ys its t r
  rw [List.map_cons] at t
  cases t with
  | cons t1 t2 =>
   obtain ⟨a,rfl,f⟩:=RelD.pairI t1
   cases r with
   | cons r1 r2 =>
    cases r1
    obtain ⟨i2,v,it,_⟩:=I.tuple f.sq
    cases v with
    | cons v1 v2=>cases v2 with
     | cons v2 v3 =>
      cases v3
      obtain ⟨t,rfl⟩:=v1
      obtain ⟨u,rfl⟩:=v2
      exact .cons it (ih t2 r2)
theorem ZQ1 {K:PySem.W.Frag}:∀ {ks:List (Int × Int)} {ys:List V},RelDL K ρ H ys (ks.map Zk)->∀ {i:Nat},i < ks.length->RelD K ρ H (ys.getD i .non) (Zk (ks.getD i (0,0))):=by
 intro ks
 induction ks with
 | nil=>intro ys t i z; exact absurd z (Nat.not_lt_zero _)
 | cons k ks ih =>
  intro ys t i z
  rw [List.map_cons] at t
  cases t with
  | cons t1 t2 =>
   cases i with
   | zero=>exact t1
   | succ i=>exact ih t2 (Nat.lt_of_succ_lt_succ z)
theorem ZJW {K:PySem.W.Frag} {ys:List V} {ks:List (Int × Int)} (t:RelDL K ρ H ys (ks.map Zk)):∀ {p:List Nat},(∀ i ∈ p,i < ks.length)->RelDL K ρ H (p.map λ i=>ys.getD i .non) ((p.map λ i=>ks.getD i (0,0)).map Zk)
 | [],_=>.nil
 | i :: p,h=>.cons (ZQ1 t (h i (List.mem_cons_self ..))) (ZJW t λ j hj=>h j (List.mem_cons_of_mem _ hj))
end
section
variable {X:Cx}
theorem ZIF:ZAG X (.builtin "sorted") (λ xs H Q=>∃ (ρ : Rh) (p:Addr) (ys:List V) (ks:List (Int × Int)),xs=[.ref p]/\SqL X.K H p ys/\RelDL X.K ρ H ys (ks.map Zk)/\ks.Nodup/\ks.length<=6/\∀ l (zs:List V) (js:List (Int × Int)),H l=none->RelDL X.K ρ H zs (js.map Zk)->js.Perm ks->js.Pairwise (λ a b=>gtW b a=true)->Q (.ref l) (upd H l (.lst zs))):=by
 intro pins s σ H xs us Q I r h
 obtain ⟨ρ,p,ys,ks,rfl,hq,ht,hn,h6,q⟩:=h
 obtain ⟨u,rfl,ru⟩:=ZEM r
 cases ru
 obtain ⟨its,rv,pl,hz⟩:=I.list hq
 have hP:=ZLp I ht rv
 have hyl:ys.length=ks.length:=by rw [ht.length,List.length_map]
 refine ZII pl.isList hP hn h6 λ p hpp hps=>?_
 have hin:∀ i ∈ p,i < ks.length:=λ i hi=>List.mem_range.mp (hpp.mem_iff.mp hi)
 obtain ⟨e,he⟩:=sortedAll_at s.heap its (p.map λ i=>its.getD i Value.none).toArray
 have rv':=ZHW rv (p:=p) (λ i hi=>by rw [hyl]; exact hin i hi)
 have pm:(p.map λ i=>ks.getD i (0,0)).Perm ks:=by
  have:=hpp.map λ i=>ks.getD i (0,0)
  rw [ZCS] at this
  exact this
 refine ⟨.ref (s.heap.objs.size+1),_,I.laid (t':=s.toks) (λ b o e=>sortedAll_old e) (Nat.le_succ _) (o:=.lst (p.map λ i=>ys.getD i .non)) ⟨?_,_,e,rv',he⟩,rfl,q _ _ (p.map λ i=>ks.getD i (0,0)) (I.hok.fresh (Nat.le_succ _)) (ZJW ht hin) pm hps⟩
 rw [List.length_map,hpp.length_eq,List.length_range]
 exact Nat.le_of_lt (Z7 (by omega))
theorem cSrt:ZAG X (.builtin "sorted") (rF X.K (f1 ZNo)):=c1 (ZI9.or ZIF) λ ρ H g x w z g' Q hR r e q=>by
 obtain ⟨ds,e1,e⟩:=bnd e
 obtain ⟨l,vs,rfl,h1,t1⟩:=ZBH hR r e1
 cases hi:ZCF ds with
 | some ns =>
  rw [hi] at e
  have:=ZA4 t1 hi
  subst this
  dsimp only at e
  split at e
  ·rename_i hz
   cases e
   refine .inl ⟨l,ns,rfl,SqL.of h1,hz,λ p ms hp pm pw=>?_⟩
   rw [ZN3 pm pw]
   exact q.new hR RelDL.ofInts hp
  ·cases e
 | none =>
  rw [hi] at e
  obtain ⟨ks,e2,e'⟩:=bnd e
  have:=ZGy e2
  subst this
  clear e
  have e:=e'
  clear e'
  split at e
  ·rename_i hz
   cases e
   refine .inr ⟨ρ,l,vs,ks,rfl,SqL.of h1,t1,hz.1,hz.2,λ p zs js hp tz pm pw=>?_⟩
   rw [ZOH pm pw] at tz
   exact q.new hR tz hp
  ·cases e
end
end L2
namespace L2
open PySem PySem.Spec PyProof.Rows H1
section
variable {X:Cx}
def isL (g:G) (n:Nat):Bool:=match g[n]? with | some (.pl _)=>true | some (.rl _)=>true | _=>false
theorem ZIv {g:G} {n:Nat} {ds:List PyData} (h:g[n]? = some (.pl ds)):isL g n=true:=by
 unfold isL
 rw [h]
theorem ZRU {K:PySem.W.Frag} {ρ : Rh} {H:Hp} {g:G} {n:Nat} {a:Addr} (h:isL g n=true) (hR:HR K ρ H g) (ha : ρ.c[n]? = some a):∃ vs,H a=some (.lst vs):=by
 unfold isL at h
 split at h
 ·rename_i ds e
  obtain ⟨b,h1,vs,h2,_⟩:=hR.ce _ _ e
  rw [ha] at h1
  cases h1
  exact ⟨vs,h2⟩
 ·rename_i ds e
  obtain ⟨b,h1,vs,h2,_⟩:=hR.ce _ _ e
  rw [ha] at h1
  cases h1
  exact ⟨vs,h2⟩
 ·cases h
def ZEG (dl d:DE):DE:=λ sd g=>(dl sd g).bind λ l=>match l.1 with
 | .ref n=>if isL l.2 n=true then (d sd l.2).bind λ p=>match p.1 with
  | .dat x=>match p.2[n]? with
   | some (.pl ds)=>if ds.length < 1000 then some (.dat .none,p.2.set n (.pl (ds ++ [x]))) else none
   | some (.rl ws)=>if ws.length < 1000 then some (.dat .none,p.2.set n (.rl (ws ++ [.dat x]))) else none
   | _=>none
  | x=>match p.2[n]? with
   | some (.rl ws)=>if ws.length < 1000 then some (.dat .none,p.2.set n (.rl (ws ++ [x]))) else none
   | _=>none
  else none
 | _=>none
theorem ZQr {o e:Expr} {dl d:DE} {apos cpos:Pos} (ho:PE X o (tE X.K dl)) (he:PE X e (tE X.K d)) (hbase:attributeBase o "append" X.env (eval o X.env)=eval o X.env:=by rfl)
  (hfew:((backTo cpos (starEach [e] X.env)).all (λ x=>!x.1) && (backToKw cpos (keywordEach [] X.env)).all (λ x=>x.1.isSome)
   && decide ([e].length+([]:List Keyword).length+(if ([]:List Keyword).isEmpty then 0 else 1) < 30))=true:=by rfl)
  (hline:(apos.endLine == cpos.line)=true:=by rfl) (hs:starEach [e] X.env=(false,eval e X.env) :: starEach [] X.env:=by rfl) (hplain:(backTo cpos (starEach [] X.env)).any (·.1)=false:=by rfl) :
  PE X (.Call (.Attribute o "append" apos) [e] [] cpos) (tE X.K (ZEG dl d)):=(pe_bm PySem.F.plainAttrs_list PySem.F.slot_list_append PySem.F.type_list_append ZHY ho (ZLP he ZOE hs) hbase hfew hline hs hplain).imp λ σ H Q ⟨ρ,sd,g,x,g',r,e,q⟩=>by
 obtain ⟨⟨y,g1⟩,e1,e⟩:=bnd e
 refine ⟨ρ,sd,g,y,g1,r,e1,λ v H1 ρ1 s1 h1 r1=>?_⟩
 cases r1 with
 | @ref la ln hn =>
  dsimp only at e
  split at e
  case isFalse=>cases e
  rename_i hil
  obtain ⟨⟨p,g2⟩,e2,e⟩:=bnd e
  have rich:∀ {H2:Hp} {ρ2:Rh} {v2:V} {ws:List W},Stp ρ1 H1 ρ2 H2->HR X.K ρ2 H2 g2->Rel X.K ρ2 H2 v2 p->g2[ln]? = some (.rl ws)->(if ws.length < 1000 then some (W.dat .none,g2.set ln (.rl (ws ++ [p]))) else none)=some (x,g')->∃ us,H2 la=some (.lst us)/\us.length < sizeLine/\Q .non (upd H2 la (.lst (us ++ [v2]))):=λ {H2 ρ2 v2 ws} s2 h2 r2 e3 e=>by
   split at e
   ·rename_i hz
    cases e
    obtain ⟨a',k1,us,k2,k3⟩:=h2.ce _ _ e3
    have hn2:=ZDy s2 hn
    rw [hn2] at k1
    cases k1
    obtain ⟨hw,sw⟩:=h2.writeC hn2 (o:=.lst (us ++ [v2])) (c:=.rl (ws ++ [p])) (λ u e=>by rw [k2] at e; cases e; rfl) (λ s=>⟨_,Zt,(k3.append (.cons r2 .nil)).mono s⟩)
    exact ⟨us,k2,by rw [k3.length]; exact Z7 (by omega),q _ _ ρ2 (s1.trans (s2.trans sw)) hw (.dat .non)⟩
   ·cases e
  have plain:∀ {H2:Hp} {ρ2:Rh} {v2:V} {d:PyData} {ds:List PyData},Stp ρ1 H1 ρ2 H2->HR X.K ρ2 H2 g2->RelD X.K ρ2 H2 v2 d->g2[ln]? = some (.pl ds)->(if ds.length < 1000 then some (W.dat .none,g2.set ln (.pl (ds ++ [d]))) else none)=some (x,g')->∃ us,H2 la=some (.lst us)/\us.length < sizeLine/\Q .non (upd H2 la (.lst (us ++ [v2]))):=λ {H2 ρ2 v2 d ds} s2 h2 r2 e3 e=>by
   split at e
   ·rename_i hz
    cases e
    obtain ⟨a',us,k1,k2,k3⟩:=h2.at_ _ _ e3
    have hn2:=ZDy s2 hn
    rw [hn2] at k1
    cases k1
    obtain ⟨hw,sw⟩:=h2.write hn2 k2 (k3.append (.cons r2 .nil))
    exact ⟨us,k2,by rw [k3.length]; exact Z7 (by omega),q _ _ ρ2 (s1.trans (s2.trans sw)) hw (.dat .non)⟩
   ·cases e
  have both:∀ {H2:Hp} {ρ2:Rh} {v2:V},Stp ρ1 H1 ρ2 H2->HR X.K ρ2 H2 g2->Rel X.K ρ2 H2 v2 p->∃ us,H2 la=some (.lst us)/\us.length < sizeLine/\Q .non (upd H2 la (.lst (us ++ [v2]))):=λ {H2 ρ2 v2} s2 h2 r2=>by
   have rest:∀ {w},p=w->(match g2[ln]? with | some (.rl ws)=>if ws.length < 1000 then some (W.dat .none,g2.set ln (.rl (ws ++ [w]))) else none | _=>none)=some (x,g')->∃ us,H2 la=some (.lst us)/\us.length < sizeLine/\Q .non (upd H2 la (.lst (us ++ [v2]))):=λ {w} ew e=>by
    split at e
    ·rename_i ws e3
     exact rich s2 h2 r2 e3 (by rw [ew]; exact e)
    ·cases e
   cases p with
   | dat d =>
    dsimp only at e
    cases r2 with
    | dat r2 =>
     split at e
     ·rename_i ds e3
      exact plain s2 h2 r2 e3 e
     ·rename_i ws e3
      exact rich s2 h2 (.dat r2) e3 e
     ·cases e
   | ref n=>exact rest rfl e
   | inp n=>exact rest rfl e
   | ty n=>exact rest rfl e
   | tup n=>exact rest rfl e
  obtain ⟨us0,h0⟩:=ZRU hil h1 hn
  refine ⟨.inl ⟨rfl,_,SqL.of h0⟩,ρ1,sd,g1,[p],g2,r.step s1 h1,by show (d sd g1).bind _=_; rw [e2]; rfl,λ vs H2 ρ2 s2 h2 r2=>?_⟩
  cases r2 with
  | cons r2 t =>
   cases t
   obtain ⟨us,k1,k2,k3⟩:=both s2 h2 r2
   exact ⟨_,us,_,rfl,rfl,k1,k2,k3⟩
 | dat r1=>cases r1 <;> cases e
 | _=>cases e
def ZKi (dl di d:DE):DS:=λ sd g=>(d sd g).bind λ v=>(dl sd v.2).bind λ l=>(di sd l.2).bind λ i=>match l.1,i.1,v.1 with
 | .ref n,.dat (.int k),.dat x=>match i.2[n]? with
  | some (.pl ds)=>(ixN ds.length k).map λ j=>.nx sd (i.2.set n (.pl (ds.set j x)))
  | some (.rl ws)=>(ixN ws.length k).map λ j=>.nx sd (i.2.set n (.rl (ws.set j (.dat x))))
  | _=>none
 | .ref n,.dat (.int k),x=>match i.2[n]? with
  | some (.rl ws)=>(ixN ws.length k).map λ j=>.nx sd (i.2.set n (.rl (ws.set j x)))
  | _=>none
 | _,_,_=>none
theorem ZRx {o i e:Expr} {dl di d:DE} {pos tpos:Pos} (he:PE X e (tE X.K d)) (ho:PE X o (tE X.K dl)) (hi:PE X i (tE X.K di)) (ha:∀ v,assign (.Subscript o i tpos) X.env v=(do
   let ov ← holding [v] (eval o X.env)
   let iv ← holding [v,ov] (eval i X.env)
   standAt tpos
   holding [v,ov,iv] (setItem ov iv v)
   release [v,ov,iv] []):=by intro _; rfl) (hs:swapsWithSole [.Subscript o i tpos] e pos.line X.env=pure false:=by rfl) (hw:swappedStores [.Subscript o i tpos] e X.env=pure none:=by rfl)
  (h1:(assignEach [.Subscript o i tpos] X.env).map (·.2)=[assign (.Subscript o i tpos) X.env]:=by rfl):PS X (.Assign [.Subscript o i tpos] e pos) (tS X.K (ZKi dl di d)):=(ZMv he (ZRR ho hi ZOW ha) hs hw h1).imp λ D σ H ⟨ρ,sd,g,oo,r,e,q⟩=>by
 obtain ⟨⟨y,g1⟩,e1,e⟩:=bnd e
 obtain ⟨⟨l,g2⟩,e2,e⟩:=bnd e
 obtain ⟨⟨k,g3⟩,e3,e⟩:=bnd e
 refine ⟨ρ,sd,g,y,g1,r,e1,λ v H1 ρ1 s1 h1 r1=>⟨ρ1,sd,g1,l,g2,r.step s1 h1,e2,λ u H2 ρ2 s2 h2 r2=>⟨ρ2,sd,g2,k,g3,r.step (s1.trans s2) h2,e3,λ t H3 ρ3 s3 h3 r3=>?_⟩⟩⟩
 have r1':=(r1.mono s2).mono s3
 have r2':=r2.mono s3
 have sall:=s1.trans (s2.trans s3)
 cases r2' with
 | @ref la ln hn =>
  cases r3 with
  | dat r3 =>
   cases r3 with
   | int kk =>
    have rich:∀ {ws:List W},g3[ln]? = some (.rl ws)->((ixN ws.length kk).map λ j=>Out.nx sd (g3.set ln (.rl (ws.set j y))))=some oo->∃ p xs k n,V.ref la=V.ref p/\V.int kk=V.int k/\H3 p=some (.lst xs)/\ixN xs.length k=some n/\D.nx σ (upd H3 p (.lst (xs.set n v))):=λ {ws} e4 e=>by
     obtain ⟨j,e5,e⟩:=mp e
     cases e
     obtain ⟨a',k1,us,k2,k3⟩:=h3.ce _ _ e4
     rw [hn] at k1
     cases k1
     obtain ⟨hw,sw⟩:=h3.writeC hn (o:=.lst (us.set j v)) (c:=.rl (ws.set j y)) (λ u e=>by rw [k2] at e; cases e; rfl) (λ s=>⟨_,Zt,(k3.set r1' j).mono s⟩)
     exact ⟨_,us,kk,j,rfl,rfl,k2,by rw [k3.length]; exact e5,q σ _ ρ3 (sall.trans sw) (r.step (sall.trans sw) hw)⟩
    have rest:∀ {w},y=w->(match g3[ln]? with | some (.rl ws)=>((ixN ws.length kk).map λ j=>Out.nx sd (g3.set ln (.rl (ws.set j w)))) | _=>none)=some oo->∃ p xs k n,V.ref la=V.ref p/\V.int kk=V.int k/\H3 p=some (.lst xs)/\ixN xs.length k=some n/\D.nx σ (upd H3 p (.lst (xs.set n v))):=λ {w} ew e=>by
     split at e
     ·rename_i ws e4
      exact rich e4 (by rw [ew]; exact e)
     ·cases e
    cases y with
    | dat d =>
     dsimp only at e
     split at e
     ·rename_i ds e4
      obtain ⟨j,e5,e⟩:=mp e
      cases e
      obtain ⟨a',us,k1,k2,k3⟩:=h3.at_ _ _ e4
      rw [hn] at k1
      cases k1
      cases r1' with
      | dat r1' =>
       obtain ⟨hw,sw⟩:=h3.write hn k2 (k3.set r1' j)
       exact ⟨_,us,kk,j,rfl,rfl,k2,by rw [k3.length]; exact e5,q σ _ ρ3 (sall.trans sw) (r.step (sall.trans sw) hw)⟩
     ·rename_i ws e4
      exact rich e4 e
     ·cases e
    | ref n=>exact rest rfl e
    | inp n=>exact rest rfl e
    | ty n=>exact rest rfl e
    | tup n=>exact rest rfl e
   | _=>cases e
  | _=>cases e
 | dat r2=>cases e
 | _=>cases e
def ZHe (i:Nat) (d:DE):DS:=λ sd g=>match sd.getD i none with
 | some (.dat (.int a))=>(d sd g).bind λ p=>match p.1 with | .dat (.int b)=>some (.nx (sd.set i (some (.dat (.int (a+b))))) p.2) | _=>none
 | _=>none
theorem ZR3 {i:Nat} {x:Str} {e:Expr} {d:DE} {pos pos':Pos} (hN:X.N.Nodup) (hi:X.N[i]? = some x) (hx:Loc X.env.scope x) (he:PE X e (tE X.K d)) (hf:X.fn x=true ∨ X.env.scope.names.lookup x=some .local:=by first | exact .inl rfl | exact .inr rfl | assumption) :
  PS X (.AugAssign (.Name x pos') .Add e pos) (tS X.K (ZHe i d)):=(ZMi hN hi hx he ZR9 hf).imp λ D σ H ⟨ρ,sd,g,oo,r,e,q⟩=>by
 unfold ZHe at e
 cases h:sd.getD i none with
 | none=>rw [h] at e; cases e
 | some w =>
  rw [h] at e
  have h':sd[i]? = some (some w):=by
   rw [List.getD_eq_getElem?_getD] at h
   cases k:sd[i]? with
   | none=>rw [k] at h; cases h
   | some w=>rw [k] at h; exact congrArg some h
  obtain ⟨v,h1,h2⟩:=r.env i w h'
  refine ⟨v,h1,?_⟩
  cases h2 with
  | dat h2 =>
   cases h2 with
   | int a =>
    obtain ⟨⟨y,g1⟩,e1,e⟩:=bnd e
    refine ⟨ρ,sd,g,y,g1,r,e1,λ v H1 ρ1 s1 h1 r1=>?_⟩
    cases r1 with
    | dat r1 =>
     cases r1 with
     | int b=>cases e; exact ⟨a,b,rfl,rfl,q _ H1 ρ1 s1 ((r.step s1 h1).set (.dat (.int _)) i)⟩
     | _=>cases e
    | _=>cases e
   | _=>cases e
  | _=>cases e
def ZNr (i j:Nat) (a:DA):DS:=λ sd g=>(a sd g).bind λ p=>match p.1 with | [x,y]=>some (.nx ((sd.set i (some x)).set j (some y)) p.2) | _=>none
theorem ZRi {i j:Nat} {aa:DA} {D:Ends} {σ : St} {H:Hp} (h:tS X.K (ZNr i j aa) D σ H):ZSO i j (tA X.K aa) D σ H:=by
 obtain ⟨ρ,sd,g,oo,r,e,q⟩:=h
 obtain ⟨⟨ws,g1⟩,e1,e⟩:=bnd e
 refine ⟨ρ,sd,g,ws,g1,r,e1,λ vs H1 ρ1 s1 h1 r1=>?_⟩
 cases r1 with
 | nil=>cases e
 | cons a t =>
  cases t with
  | nil=>cases e
  | cons b t =>
   cases t with
   | nil=>cases e; exact ⟨_,_,rfl,q _ H1 ρ1 s1 (((r.step s1 h1).set a i).set b j)⟩
   | cons _ _=>cases e
end
end L2
namespace L2
open PySem PySem.Spec PyProof.Rows H1
structure JE (X:Cx) (e:Expr) (d:DE):Prop where
 h:PE X e (tE X.K d)
structure JT (X:Cx) (e:Expr) (d:DB):Prop where
 h:PT X e (tT X.K d)
structure JW (X:Cx) (e:Expr) (d:DB):Prop where
 h:PW X e (tT X.K d)
structure JA (X:Cx) (e:List Expr) (d:DA):Prop where
 h:PA X e (tA X.K d)
structure JS (X:Cx) (e:Stmt) (d:DS):Prop where
 h:PS X e (tS X.K d)
structure JSs (X:Cx) (e:List Stmt) (d:DS):Prop where
 h:PSs X e (tS X.K d)
structure JG (X:Cx) (e:Expr) (d:Pat):Prop where
 h:PG X e (gP X.K d)
structure JGs (X:Cx) (e:List Expr) (d:Pats):Prop where
 h:PGs X e (gPs X.K d)
structure JI (X:Cx) (tg e:Expr) (d:DI):Prop where
 h:PI X tg e (tI X.K d)
structure JO (X:Cx) (e:Option Expr) (d:DO):Prop where
 h:PO X e (tO X.K d)
structure JTs (X:Cx) (e:List Expr) (d:DB):Prop where
 h:PTs X e (tT X.K d)
theorem JW.pt {X:Cx} {e:Expr} {d:DB} (j:JW X e d):JT X e d:=⟨j.h.pt⟩
section
variable {X:Cx} {a b c e:Expr} {es:List Expr} {da db dc d:DE} {ta tb:DB} {aa:DA} {pos p2:Pos} {f f':W->W->G->Option (W × G)}
theorem ZB (i:Nat) {x:Str} {pos:Pos} (hN:X.N[i]? = some x:=by rfl) (hv:Vis X.env.scope x:=by first | exact Or.inl rfl | exact Or.inr (Or.inl rfl) | exact Or.inr (Or.inr rfl)) (hd:(x == ("__debug__" : Str))=false:=by decide) (hcd:(x == ("__classdict__" : Str))=false:=by decide):JE X (.Name x pos) (ZD i):=⟨ZR6 i hN hv hd hcd⟩
theorem ZG {i j pos}:JE X (.Constant (.int i) j pos) (dC (.int i)):=⟨ZRr ⟩
theorem ZCC {b j pos}:JE X (.Constant (.bool b) j pos) (dC (.bool b)):=⟨de_bl ⟩
theorem ZLQ {j pos}:JE X (.Constant .none j pos) (dC .none):=⟨ZQm ⟩
theorem ZA1 {x j pos}:JE X (.Constant (.str x) j pos) (dC (.str x)):=⟨ZQ5 ⟩
theorem ZAW {x:Str} {n:Int} (hg:Gl X x) (h:ZKS X.mg x n) (hd:(x == ("__debug__" : Str))=false:=by decide):JE X (.Name x pos) (dC (.int n)):=⟨ZNa hg h hd⟩
theorem ZQ {op:Operator} (ho:OpR X (binaryOp op) (rOp X.K f)) (ha:JE X a da) (hb:JE X b db):JE X (.BinOp a op b pos) (dOp f da db):=⟨de_op ho ha.h hb.h⟩
theorem Zy {op:CmpOp} (ho:OpR X (compareOp op) (rOp X.K f)) (ha:JE X a da) (hb:JE X b db) (hm:behindInMarks op b=false):JE X (.Compare a [op] [b] pos) (dOp f da db):=⟨ZRT ho ha.h hb.h hm⟩
theorem ZU (ho:IxR X (rOp X.K f)) (ha:JE X a da) (hb:JE X b db) (hs:ZE3 b):JE X (.Subscript a b pos) (dOp f da db):=⟨de_ix ho ha.h hb.h hs⟩
theorem ZV {op:CmpOp} (ho:OpR X (compareOp op) (rOp X.K f)) (ha:JE X a da) (hb:JE X b db) (hm:behindInMarks op b=false):JT X (.Compare a [op] [b] pos) (dB (dOp f da db)):=⟨ZRW ho ha.h hb.h hm⟩
theorem ZAH (h:JE X e d) (he:∀ whole,isTrue e X.env whole=(do let v ← whole; standAt e.pos; holding [v] (truthy v)):=by intro _; rfl):JT X e (dB d):=⟨ZRQ h.h he⟩
theorem ZEE (h:JT X a ta):JT X (.UnaryOp .Not a pos) (ZE6 ta):=⟨ZRk h.h⟩
theorem ZAb (h:JT X a ta):JW X (.BoolOp .And [a] pos) ta:=⟨ZP6 h.h⟩
theorem ZEB (h:JT X a ta):JW X (.BoolOp .Or [a] pos) ta:=⟨ZQg h.h⟩
theorem ZAK {rest:List Expr} (ha:JT X a ta) (hb:JW X (.BoolOp .And (b :: rest) pos) tb):JW X (.BoolOp .And (a :: b :: rest) pos) (ZCG ta tb):=⟨ZQo ha.h hb.h⟩
theorem ZFD {rest:List Expr} (ha:JT X a ta) (hb:JW X (.BoolOp .Or (b :: rest) pos) tb):JW X (.BoolOp .Or (a :: b :: rest) pos) (dOr ta tb):=⟨dw_or ha.h hb.h⟩
theorem ZBN {op} (h:JE X a da):JE X (.BoolOp op [a] pos) da:=⟨ZSE h.h⟩
theorem ZA2 {rest:List Expr} (ha:JE X a da) (hb:JE X (.BoolOp .And (b :: rest) pos) db):JE X (.BoolOp .And (a :: b :: rest) pos) (ZBg da db):=⟨ZRz ha.h hb.h⟩
theorem ZNQ {rest:List Expr} (ha:JE X a da) (hb:JE X (.BoolOp .Or (b :: rest) pos) db):JE X (.BoolOp .Or (a :: b :: rest) pos) (ZKH da db):=⟨de_or ha.h hb.h⟩
theorem ZLK (ha:JE X a da):JE X (.UnaryOp .Not a pos) (ZHc da):=⟨ZRg ha.h⟩
theorem ZE  : JA X [] ZL:=⟨ZOE ⟩
theorem ZA (ha:JE X e d) (hr:JA X es aa) (hs:starEach (e :: es) X.env=(false,eval e X.env) :: starEach es X.env:=by rfl):JA X (e :: es) (ZC d aa):=⟨ZLP ha.h hr.h hs⟩
theorem ZS {x1} (h:JA X es aa):JE X (.Tuple es x1 pos) (dF Zw aa):=⟨ZQj h.h⟩
theorem ZBv (h:JA X es aa):JE X (.List es pos) (dF ZFx aa):=⟨ZRs h.h⟩
theorem ZAy (h:JA X es aa):JE X (.List es pos) (dF ZCq aa):=⟨ZPe h.h⟩
end
section
variable {X:Cx} {x:Str} {p pos:Pos} {e:Expr} {es:List Expr} {aa:DA} {id T:String} {fn:List W->G->Option (W × G)}
theorem ZT (hc:ZAG X (.builtin id) (rF X.K fn)) (hg:Gl X x) (hm:X.mg x=none) (hv:bootBuiltins x=some (.builtin id)) (ha:JA X (e :: es) aa) (hn:x ≠ "__name__":=by decide) (hdb:(x == ("__debug__" : Str))=false:=by decide) (he:starEach (e :: es) X.env=(false,eval e X.env) :: starEach es X.env:=by rfl) (hpl:(backTo pos (starEach es X.env)).any (·.1)=false:=by rfl):JE X (.Call (.Name x p) (e :: es) [] pos) (dF fn aa):=⟨ZNK hc hg hm hv ha.h hn hdb he hpl⟩
theorem Zo (hc:ZAG X (.type T) (rF X.K fn)) (hg:Gl X x) (hm:X.mg x=none) (hv:bootBuiltins x=some (.type T)) (ha:JA X (e :: es) aa) (hn:x ≠ "__name__":=by decide) (hdb:(x == ("__debug__" : Str))=false:=by decide) (he:starEach (e :: es) X.env=(false,eval e X.env) :: starEach es X.env:=by rfl) (hpl:(backTo pos (starEach es X.env)).any (·.1)=false:=by rfl):JE X (.Call (.Name x p) (e :: es) [] pos) (dF fn aa):=⟨ZMR hc hg hm hv ha.h hn hdb he hpl⟩
theorem ZJ {st:Stmt} {ps:List Str} {f:Addr} {fd:FuncData} {k n:Nat} (D:Def X.K X.mg x st ps f fd) (F:FnOk X.prog X.w X.K X.mg X.base CX0 k f fd ps (spD X.K n fn)) (hr:Room k X.A) (ha:JA X (e :: es) aa) (hm:Many aa n) (hg:Gl X x:=by rfl) (hdb:(x == ("__debug__" : Str))=false:=by decide) (he:starEach (e :: es) X.env=(false,eval e X.env) :: starEach es X.env:=by rfl) (hpl:(backTo pos (starEach es X.env)).any (·.1)=false:=by rfl):JE X (.Call (.Name x p) (e :: es) [] pos) (dF fn aa):=⟨ZOj D F hr ha.h hm hg hdb he hpl⟩
end
section
variable {X:Cx} {pos:Pos}
theorem ZK {i:Nat} {x:Str} (hN:X.N.Nodup) (hi:X.N[i]? = some x) (hx:Loc X.env.scope x) (hf:X.fn x=true ∨ X.env.scope.names.lookup x=some .local:=by first | exact .inl rfl | exact .inr rfl | assumption):JG X (.Name x pos) (.nm i):=⟨dg_nm hN hi hx hf⟩
theorem Zd {es:List Expr} {k:Nat} {ps:Pats} (hc:X.calm=true) (h:JGs X es ps) (hn:(assignEach es X.env).length=ps.len:=by rfl) (hst:(assignEach es X.env).findIdx? (·.1)=none:=by rfl):JG X (.Tuple es k pos) (.tp ps):=⟨dg_tp hc h.h hn hst⟩
theorem ZW  : JGs X [] .nil:=⟨ZRH ⟩
theorem ZH {e:Expr} {es:List Expr} {p:Pat} {ps:Pats} (h1:JG X e p) (h2:JGs X es ps) (hs:(assignEach (e :: es) X.env).map (·.2)=assign e X.env :: (assignEach es X.env).map (·.2):=by rfl):JGs X (e :: es) (.cons p ps):=⟨ZPK h1.h h2.h hs⟩
end
section
variable {X:Cx} {pos:Pos} {st:Stmt} {rest ss:List Stmt} {a b:DS} {d:DE} {e c:Expr} {tc:DB}
theorem Ze  : JSs X [] dNx:=⟨ZOa ⟩
theorem ZI (h:JS X st a):JSs X [st] a:=⟨ZOd h.h⟩
theorem ZF (h1:JS X st a) (h2:JSs X rest b):JSs X (st :: rest) (ZP a b):=⟨ZNC h1.h h2.h⟩
theorem ZO {i:Nat} {x:Str} {pos':Pos} (hN:X.N.Nodup) (hi:X.N[i]? = some x) (hx:Loc X.env.scope x) (he:JE X e d) (hs:swapsWith e (some (.Name x pos')) pos.line X.env=pure false:=by rfl) (hf:X.fn x=true ∨ X.env.scope.names.lookup x=some .local:=by first | exact .inl rfl | exact .inr rfl | assumption):JS X (.Assign [.Name x pos'] e pos) (Zi i d):=⟨ZRn hN hi hx he.h hs hf⟩
theorem Zg {tg:Expr} {pt:Pat} (he:JE X e d) (hg:JG X tg pt) (hs:swapsWithSole [tg] e pos.line X.env=pure false:=by rfl) (hw:swappedStores [tg] e X.env=pure none:=by rfl) (h1:(assignEach [tg] X.env).map (·.2)=[assign tg X.env]:=by rfl):JS X (.Assign [tg] e pos) (ZAO pt d):=⟨ZRB he.h hg.h hs hw h1⟩
theorem ZR (he:JE X e d):JS X (.Return (some e) pos) (Za d):=⟨ZRJ he.h⟩
theorem ZAa (he:JE X e d) (hs:swapsWith e none pos.line X.env=pure false:=by rfl):JS X (.Expr e pos) (ZA3 d):=⟨ZOf he.h hs⟩
theorem Zp {sa sb:List Stmt} (hc:JT X c tc) (ha:JSs X sa a) (hb:JSs X sb b):JS X (.If c sa sb pos) (Z5 tc a b):=⟨ds_if hc.h ha.h hb.h⟩
end
section
variable {X:Cx} {tg:Expr} {pos:Pos}
theorem ZAT {l:Expr} {d:DE} (hl:JE X l d):JI X tg l (ZCb d):=⟨ZQ8 hl.h⟩
theorem ZAI {a:Expr} {da:DA} {p pos:Pos} (hg:Gl X "range") (hm:X.mg "range" = none) (ha:JA X [a] da) (hs:starEach [a] X.env=[(false,eval a X.env)]:=by rfl) (hn:Many da 1):JI X tg (.Call (.Name "range" p) [a] [] pos) (ZAV da):=⟨ZLc hg hm ha.h hs hn⟩
theorem ZKl {a b:Expr} {da:DA} {p pos:Pos} (hg:Gl X "range") (hm:X.mg "range" = none) (ha:JA X [a,b] da) (hs:starEach [a,b] X.env=[(false,eval a X.env),(false,eval b X.env)]:=by rfl) (hs2:starEach [b] X.env=[(false,eval b X.env)]:=by rfl) (hn:Many da 2):JI X tg (.Call (.Name "range" p) [a,b] [] pos) (ZAV da):=⟨ZLd hg hm ha.h hs hs2 hn⟩
theorem ZCT {es:List Expr} {k:Nat} {tpos:Pos} {a:Expr} {da:DA} {p pos:Pos} (hg:Gl X "enumerate") (hm:X.mg "enumerate" = none) (ha:JA X [a] da) (hs:starEach [a] X.env=[(false,eval a X.env)]:=by rfl) (hn:Many da 1):JI X (.Tuple es k tpos) (.Call (.Name "enumerate" p) [a] [] pos) (ZCe da):=⟨ZPL hg hm ha.h hs hn⟩
theorem ZP2 {a b:Expr} {da:DA} {p pos:Pos} (hg:Gl X "zip") (hm:X.mg "zip" = none) (ha:JA X [a,b] da) (hs:starEach [a,b] X.env=[(false,eval a X.env),(false,eval b X.env)]:=by rfl) (hs2:starEach [b] X.env=[(false,eval b X.env)]:=by rfl) (hn:Many da 2):JI X tg (.Call (.Name "zip" p) [a,b] [] pos) (ZI4 da):=⟨ZQw hg hm ha.h hs hs2 hn⟩
end
section
variable {X:Cx} {tg iter:Expr} {pos:Pos} {di:DI} {pt:Pat} {db:DS}
theorem ZAN {body:List Stmt} (hp:PassesOwn (model X.prog X.w) X.A X.env X.xe) (hc:X.calm=true) (hi:JI X tg iter di) (hg:JG X tg pt) (hb:JSs X body db) (hs:∀ x,foldedSetIterable iter X.env x=pure x:=by intro _; rfl):JS X (.For tg iter body [] pos) (ZCK pt di db):=⟨ZQh hp hc hi.h hg.h hb.h hs⟩
theorem ZAz {X:Cx}:JTs X [] ZDf:=⟨ZOz ⟩
theorem ZB1 {X:Cx} {c:Expr} {d:DB} (h:JT X c d):JTs X [c] d:=⟨ZPS h.h⟩
end
section
variable {X:Cx} {tg elt iter:Expr} {ifs:List Expr} {scope sc:Scope} {pos:Pos} {di:DI} {pt:Pat} {dt:DB} {de:DE} {N NX:List Str} {own:Nat} {cap:List Nat}
theorem Z6 (hc:X.calm=true) (hi:JI X tg iter di) (hsc:X.env.scope=sc) (hNX:X.N=NX) (hb:∀ cl C s0 H0 fp,JG (blk X N (compEnvC scope cl C X.env) s0 H0 fp) tg pt/\JTs (blk X N (compEnvC scope cl C X.env) s0 H0 fp) ifs dt/\JE (blk X N (compEnvC scope cl C X.env) s0 H0 fp) elt de) (co:ZJx sc scope NX N own cap=true) (hp:pt.all (λ i=>decide (i < own))=true) (hs:∀ x,foldedSetIterable iter X.env x=pure x:=by intro _; rfl):JE X (.ListComp elt [⟨tg,iter,ifs,0⟩] scope pos) (ZAh own cap pt di dt de):=⟨ZOu hc hi.h hsc hNX (λ cl C s0 H0 fp=>⟨(hb cl C s0 H0 fp).1.h,(hb cl C s0 H0 fp).2.1.h,(hb cl C s0 H0 fp).2.2.h⟩) co hp hs⟩
theorem ZJK {i:Nat} {x:Str} {py spos:Pos} (hN:X.N.Nodup) (hi:X.N[i]? = some x) (hx:Loc X.env.scope x) (hc:X.calm=true) (hit:JI X tg iter di) (hsc:X.env.scope=sc) (hNX:X.N=NX) (hb:∀ cl C s0 H0 fp,JG (blk X N (compEnvC scope cl C X.env) s0 H0 fp) tg pt/\JTs (blk X N (compEnvC scope cl C X.env) s0 H0 fp) ifs dt/\JE (blk X N (compEnvC scope cl C X.env) s0 H0 fp) elt de) (co:ZJx sc scope NX N own cap=true) (hp:pt.all (λ i=>decide (i < own))=true) (hsw:swapsWith (.ListComp elt [⟨tg,iter,ifs,0⟩] scope pos) (some (.Name x py)) spos.line X.env=pure true:=by rfl) (hs:∀ x,foldedSetIterable iter X.env x=pure x:=by intro _; rfl) (hf:X.fn x=true ∨ X.env.scope.names.lookup x=some .local:=by first | exact .inl rfl | exact .inr rfl | assumption):JS X (.Assign [.Name x py] (.ListComp elt [⟨tg,iter,ifs,0⟩] scope pos) spos) (Zi i (ZAh own cap pt di dt de)):=⟨ZP7 hN hi hx hc hit.h hsc hNX (λ cl C s0 H0 fp=>⟨(hb cl C s0 H0 fp).1.h,(hb cl C s0 H0 fp).2.1.h,(hb cl C s0 H0 fp).2.2.h⟩) co hp hsw hs hf⟩
end
section
variable {X:Cx}
theorem ZCW  : JO X none ZBe:=⟨ZO4 ⟩
theorem ZCZ {e:Expr} {d:DE} (h:JE X e d):JO X (some e) (ZDZ d):=⟨ZOg h.h⟩
theorem ZEZ {e:Expr} {lo hi:Option Expr} {d:DE} {l h:DO} {pos p2:Pos} (he:JE X e d) (hl:JO X lo l) (hh:JO X hi h):JE X (.Subscript e (.Slice lo hi none p2) pos) (dSl d l h):=⟨de_sl he.h hl.h hh.h⟩
theorem ZFI {x:Str} {n:String} {pos:Pos} (hg:Gl X x) (hm:X.mg x=none) (hv:bootBuiltins x=some (.type n)) (hn:x ≠ "__name__":=by decide) (hd:(x == ("__debug__" : Str))=false:=by decide):JE X (.Name x pos) (λ _ g=>some (.ty n,g)):=⟨de_ty hg hm hv hn hd⟩
theorem ZBx {o e:Expr} {dl d:DE} {apos cpos:Pos} (ho:JE X o dl) (he:JE X e d) (hbase:attributeBase o "append" X.env (eval o X.env)=eval o X.env:=by rfl) (hfew:((backTo cpos (starEach [e] X.env)).all (λ x=>!x.1) && (backToKw cpos (keywordEach [] X.env)).all (λ x=>x.1.isSome)
   && decide ([e].length+([]:List Keyword).length+(if ([]:List Keyword).isEmpty then 0 else 1) < 30))=true:=by rfl) (hline:(apos.endLine == cpos.line)=true:=by rfl) (hs:starEach [e] X.env=(false,eval e X.env) :: starEach [] X.env:=by rfl) (hplain:(backTo cpos (starEach [] X.env)).any (·.1)=false:=by rfl):JE X (.Call (.Attribute o "append" apos) [e] [] cpos) (ZEG dl d):=⟨ZQr ho.h he.h hbase hfew hline hs hplain⟩
theorem ZIy {o i e:Expr} {dl di d:DE} {pos tpos:Pos} (he:JE X e d) (ho:JE X o dl) (hi:JE X i di) (ha:∀ v,assign (.Subscript o i tpos) X.env v=(do
   let ov ← holding [v] (eval o X.env)
   let iv ← holding [v,ov] (eval i X.env)
   standAt tpos
   holding [v,ov,iv] (setItem ov iv v)
   release [v,ov,iv] []):=by intro _; rfl) (hs:swapsWithSole [.Subscript o i tpos] e pos.line X.env=pure false:=by rfl) (hw:swappedStores [.Subscript o i tpos] e X.env=pure none:=by rfl) (h1:(assignEach [.Subscript o i tpos] X.env).map (·.2)=[assign (.Subscript o i tpos) X.env]:=by rfl):JS X (.Assign [.Subscript o i tpos] e pos) (ZKi dl di d):=⟨ZRx he.h ho.h hi.h ha hs hw h1⟩
theorem ZPa {i:Nat} {x:Str} {e:Expr} {d:DE} {pos pos':Pos} (hN:X.N.Nodup) (hi:X.N[i]? = some x) (hx:Loc X.env.scope x) (he:JE X e d) (hf:X.fn x=true ∨ X.env.scope.names.lookup x=some .local:=by first | exact .inl rfl | exact .inr rfl | assumption):JS X (.AugAssign (.Name x pos') .Add e pos) (ZHe i d):=⟨ZR3 hN hi hx he.h hf⟩
end
theorem ZX {P:Program} {w:World} {K:PySem.W.Frag} {mg:Str->Option Value} {base:Heap} {x qual:Str} {st:Stmt} {f:Addr} {fd:FuncData} {N ps:List Str} {k n m:Nat} {d:DS} {r:List W->G->Option (W × G)} (e:r=Z3 n d) (hn:N.length=n) (hm:ps.length=m) (F:Fun K x qual st f fd) (S:FnScope N ps (ZM st))
  (hb:∀ (cdv:Value) (A:Around) (outer:List Env) (s:Shared) (H:Hp) (E:XK),Room k (A.deeper (envOfC qual (ZM st) s.heap.objs.size f cdv))->JSs (ZJf CX0 P w K mg base N qual (ZM st) f cdv A outer s H E).nox (ZBy st) d) :
  FnOk P w K mg base CX0 (k+1) f fd ps (spD K m r):=by
 subst e hn hm
 exact ZRa F S λ cdv A outer s H E hr=>(hb cdv A outer s H E hr).h
theorem ZIq {X:Cx} {a b c:Int} {j1 j2} {p1 p2 pos:Pos} (hc:ZSQ a b) (h:a ^ b.toNat=c):JE X (.BinOp (.Constant (.int a) j1 p1) .Pow (.Constant (.int b) j2 p2) pos) (dC (.int c)):=⟨(ZQW ZR5 ZK2 ZK2).imp λ σ H Q ⟨ρ,sd,g,x,g',r,e,q⟩=>by
 cases e
 exact ⟨a,b,rfl,rfl,hc,by show Q (.int (a ^ b.toNat)) H; rw [h]; exact q _ H ρ .refl r.hr (.dat (.int _))⟩⟩
end L2
namespace L2
open PySem PySem.Spec PyProof.Rows H1
section
variable {α β : Type}
end
structure EvP {α : Type} (o:Option (α × G)) (P : α->G->Prop):Prop where
 h:∃ x g,o=some (x,g)/\P x g
section
variable {α : Type} {P : α->G->Prop} {g:G}
theorem ZCU {x : α} (h:P x g):EvP (some (x,g)) P:=⟨x,g,rfl,h⟩
theorem ZRo {o:Option (α × G)} {x : α} (e:o=some (x,g)) (h:P x g):EvP o P:=⟨x,g,e,h⟩
theorem EvP.imp {o:Option (α × G)} {Q : α->G->Prop} (h:EvP o P) (k:∀ x g,P x g->Q x g):EvP o Q:=by
 obtain ⟨x,g,e,h⟩:=h
 exact ⟨x,g,e,k x g h⟩
theorem ZDD {c:Prop} [Decidable c] {A B:Option (α × G)} (h:c) (h1:EvP A P):EvP (if c then A else B) P:=by rw [if_pos h]; exact h1
theorem ZIp {β : Type} {o:Option β} {y : β} {f : β->α × G} {x : α} (e:o=some y) (e2:f y=(x,g)) (h:P x g):EvP (o.map f) P:=by
 subst e
 exact ⟨x,g,congrArg some e2,h⟩
end
section
variable {sd:Sd} {g:G} {da db dc d:DE} {ta tb:DB} {aa:DA} {f f':W->W->G->Option (W × G)} {P:W->G->Prop} {PB:Bool->G->Prop} {PA':List W->G->Prop}
theorem ZFi {i:Nat} {x:W} (e:sd.getD i none=some x) (h:P x g):EvP (ZD i sd g) P:=⟨x,g,by unfold ZD; rw [e],h⟩
theorem x_c {d:PyData} (h:P (.dat d) g):EvP (dC d sd g) P:=⟨_,_,rfl,h⟩
theorem ZSL (h:EvP (da sd g) λ x g1=>EvP (db sd g1) λ y g2=>EvP (f x y g2) P):EvP (dOp f da db sd g) P:=by
 obtain ⟨x,g1,e1,y,g2,e2,z,g3,e3,h⟩:=h
 exact ⟨z,g3,by unfold dOp; rw [e1]; show (db sd g1).bind _=_; rw [e2]; exact e3,h⟩
structure asB (PB:Bool->G->Prop) (x:W) (g:G):Prop where
 h:∃ b,x=.dat (.bool b)/\PB b g
theorem ZSU {b:Bool} (h:PB b g):asB PB (.dat (.bool b)) g:=⟨b,rfl,h⟩
theorem x_b (h:EvP (d sd g) (asB PB)):EvP (dB d sd g) PB:=by
 obtain ⟨x,g1,e1,b,rfl,h⟩:=h
 exact ⟨b,g1,by unfold dB; rw [e1]; rfl,h⟩
theorem ZQK (h:EvP (ta sd g) λ b g1=>PB (!b) g1):EvP (ZE6 ta sd g) PB:=by
 obtain ⟨x,g1,e1,h⟩:=h
 exact ⟨_,g1,by unfold ZE6; rw [e1]; rfl,h⟩
theorem ZQa (h:EvP (ta sd g) λ b g1=>(b=true->EvP (tb sd g1) PB)/\(b=false->PB false g1)):EvP (ZCG ta tb sd g) PB:=by
 obtain ⟨x,g1,e1,h1,h2⟩:=h
 cases x with
 | true =>
  obtain ⟨y,g2,e2,h⟩:=h1 rfl
  exact ⟨y,g2,by unfold ZCG; rw [e1]; exact e2,h⟩
 | false=>exact ⟨false,g1,by unfold ZCG; rw [e1]; rfl,h2 rfl⟩
theorem ZSP (h:EvP (ta sd g) λ b g1=>(b=true->PB true g1)/\(b=false->EvP (tb sd g1) PB)):EvP (dOr ta tb sd g) PB:=by
 obtain ⟨x,g1,e1,h1,h2⟩:=h
 cases x with
 | false =>
  obtain ⟨y,g2,e2,h⟩:=h2 rfl
  exact ⟨y,g2,by unfold dOr; rw [e1]; exact e2,h⟩
 | true=>exact ⟨true,g1,by unfold dOr; rw [e1]; rfl,h1 rfl⟩
theorem ZON (h:EvP (da sd g) (asB λ b g1=>(b=true->EvP (db sd g1) P)/\(b=false->P (.dat (.bool false)) g1))):EvP (ZBg da db sd g) P:=by
 obtain ⟨x,g1,e1,b,rfl,h1,h2⟩:=h
 cases b with
 | true =>
  obtain ⟨y,g2,e2,h⟩:=h1 rfl
  exact ⟨y,g2,by unfold ZBg; rw [e1]; exact e2,h⟩
 | false=>exact ⟨_,g1,by unfold ZBg; rw [e1]; rfl,h2 rfl⟩
theorem ZQN (h:EvP (da sd g) (asB λ b g1=>(b=true->P (.dat (.bool true)) g1)/\(b=false->EvP (db sd g1) P))):EvP (ZKH da db sd g) P:=by
 obtain ⟨x,g1,e1,b,rfl,h1,h2⟩:=h
 cases b with
 | false =>
  obtain ⟨y,g2,e2,h⟩:=h2 rfl
  exact ⟨y,g2,by unfold ZKH; rw [e1]; exact e2,h⟩
 | true=>exact ⟨_,g1,by unfold ZKH; rw [e1]; rfl,h1 rfl⟩
theorem ZH3 (h:EvP (da sd g) (asB λ b g1=>P (.dat (.bool !b)) g1)):EvP (ZHc da sd g) P:=by
 obtain ⟨x,g1,e1,b,rfl,h⟩:=h
 exact ⟨_,g1,by unfold ZHc; rw [e1]; rfl,h⟩
theorem ZOX (h:PA' [] g):EvP (ZL sd g) PA':=⟨_,_,rfl,h⟩
theorem ZD4 (h:EvP (d sd g) λ x g1=>EvP (aa sd g1) λ xs g2=>PA' (x :: xs) g2):EvP (ZC d aa sd g) PA':=by
 obtain ⟨x,g1,e1,y,g2,e2,h⟩:=h
 exact ⟨_,g2,by unfold ZC; rw [e1]; show (aa sd g1).map _=_; rw [e2]; rfl,h⟩
theorem x_f {fn:List W->G->Option (W × G)} (h:EvP (aa sd g) λ xs g1=>EvP (fn xs g1) P):EvP (dF fn aa sd g) P:=by
 obtain ⟨x,g1,e1,y,g2,e2,h⟩:=h
 exact ⟨y,g2,by unfold dF; rw [e1]; exact e2,h⟩
theorem ZJZ {PO':Option Int->G->Prop} (h:PO' none g):EvP (ZBe sd g) PO':=⟨_,_,rfl,h⟩
structure asI (PO':Option Int->G->Prop) (x:W) (g:G):Prop where
 h:∃ i,x=.dat (.int i)/\PO' (some i) g
theorem ZST {PO':Option Int->G->Prop} {i:Int} (h:PO' (some i) g):asI PO' (.dat (.int i)) g:=⟨i,rfl,h⟩
theorem ZNF {PO':Option Int->G->Prop} (h:EvP (d sd g) (asI PO')):EvP (ZDZ d sd g) PO':=by
 obtain ⟨x,g1,e1,i,rfl,h⟩:=h
 exact ⟨some i,g1,by unfold ZDZ; rw [e1]; rfl,h⟩
theorem ZSW {l u:DO} (h:EvP (d sd g) λ x g1=>EvP (l sd g1) λ i g2=>EvP (u sd g2) λ j g3=>EvP (slO x i j g3) P):EvP (dSl d l u sd g) P:=by
 obtain ⟨x,g1,e1,i,g2,e2,j,g3,e3,z,g4,e4,h⟩:=h
 exact ⟨z,g4,by unfold dSl; rw [e1]; show (l sd g1).bind _=_; rw [e2]; show (u sd g2).bind _=_; rw [e3]; exact e4,h⟩
structure EvI (o:Option (List PyData × Option Nat × G)) (P:List PyData->Option Nat->G->Prop):Prop where
 h:∃ xs src g,o=some (xs,src,g)/\P xs src g
theorem ZNm {PI':List PyData->Option Nat->G->Prop} {xs:List PyData} {src:Option Nat} (h:PI' xs src g):EvI (some (xs,src,g)) PI':=⟨_,_,_,rfl,h⟩
theorem ZM6 {PI':List PyData->Option Nat->G->Prop} (h:EvP (d sd g) λ x g1=>EvI (ZMZ x g1) PI'):EvI (ZCb d sd g) PI':=by
 obtain ⟨x,g1,e1,xs,src,g2,e2,h⟩:=h
 exact ⟨xs,src,g2,by unfold ZCb; rw [e1]; exact e2,h⟩
theorem ZAw {PI':List PyData->Option Nat->G->Prop} {j:Int} {g1:G} (h:EvP (aa sd g) λ ws g1=>∃ j:Int,ws=[.dat (.int j)]/\(j<=1000/\-1000<=j)/\PI' (ZBn j.toNat 0) none g1):EvI (ZAV aa sd g) PI':=by
 obtain ⟨ws,g1,e1,j,rfl,hj,h⟩:=h
 exact ⟨_,_,g1,by unfold ZAV; rw [e1]; exact if_pos hj,h⟩
theorem ZLW {PI':List PyData->Option Nat->G->Prop} (h:EvP (aa sd g) λ ws g1=>∃ ds:List PyData,ws=[.dat (.tuple ds)]/\PI' (ZCI 0 ds) none g1):EvI (ZCe aa sd g) PI':=by
 obtain ⟨ws,g1,e1,j,rfl,h⟩:=h
 exact ⟨_,_,g1,by unfold ZCe; rw [e1]; rfl,h⟩
theorem ZMX {PI':List PyData->Option Nat->G->Prop} (h:EvP (aa sd g) λ ws g1=>∃ ds es:List PyData,ws=[.dat (.tuple ds),.dat (.tuple es)]/\PI' (ZEI ds es) none g1):EvI (ZI4 aa sd g) PI':=by
 obtain ⟨ws,g1,e1,j,k,rfl,h⟩:=h
 exact ⟨_,_,g1,by unfold ZI4; rw [e1]; rfl,h⟩
theorem ZMY {own:Nat} {cap:List Nat} {pt:Pat} {di:DI} {dt:DB} {de:DE} (h:EvI (di sd g) λ xs src g1=>xs.length<=1000/\EvP (ZBf src xs pt dt de (ZG3 own cap sd) xs g1) λ ys g2=>P (.dat (.list ys)) g2):EvP (ZAh own cap pt di dt de sd g) P:=by
 obtain ⟨xs,src,g1,e1,hl,ys,g2,e2,h⟩:=h
 refine ⟨_,g2,?_,h⟩
 unfold ZAh
 rw [e1]
 show (if xs.length<=1000 then _ else _)=_
 rw [if_pos hl]
 show (ZBf src xs pt dt de (ZG3 own cap sd) xs g1).map _=_
 rw [e2]
 rfl
structure EvS (o:Option Out) (P:Out->Prop):Prop where
 h:∃ x,o=some x/\P x
variable {PS':Out->Prop} {a b:DS}
inductive seqP (b:DS) (P:Out->Prop):Out->Prop
 | nx {sd:Sd} {g:G}:EvS (b sd g) P->seqP b P (.nx sd g)
 | rt {x:W} {g:G}:P (.rt x g)->seqP b P (.rt x g)
 | bk {sd:Sd} {g:G}:P (.bk sd g)->seqP b P (.bk sd g)
 | ct {sd:Sd} {g:G}:P (.ct sd g)->seqP b P (.ct sd g)
theorem ZNR (h:EvS (b sd g) PS'):seqP b PS' (.nx sd g):=.nx h
theorem ZNu {x:W} (h:PS' (.rt x g)):seqP b PS' (.rt x g):=.rt h
theorem ZQO (h:EvS (a sd g) (seqP b PS')):EvS (ZP a b sd g) PS':=by
 obtain ⟨o,e,h⟩:=h
 cases h with
 | nx h =>
  obtain ⟨o,e2,h⟩:=h
  exact ⟨o,by unfold ZP; rw [e]; exact e2,h⟩
 | rt h=>exact ⟨_,by unfold ZP; rw [e]; rfl,h⟩
 | bk h=>exact ⟨_,by unfold ZP; rw [e]; rfl,h⟩
 | ct h=>exact ⟨_,by unfold ZP; rw [e]; rfl,h⟩
theorem ZO1 (h:PS' (.nx sd g)):EvS (dNx sd g) PS':=⟨_,rfl,h⟩
theorem ZQY {i:Nat} (h:EvP (d sd g) λ x g1=>PS' (.nx (sd.set i (some x)) g1)):EvS (Zi i d sd g) PS':=by
 obtain ⟨x,g1,e,h⟩:=h
 exact ⟨_,by unfold Zi; rw [e]; rfl,h⟩
theorem ZQb {pt:Pat} (h:EvP (d sd g) λ x g1=>∃ sd1,Zx pt x sd=some sd1/\PS' (.nx sd1 g1)):EvS (ZAO pt d sd g) PS':=by
 obtain ⟨x,g1,e,sd1,e1,h⟩:=h
 exact ⟨_,by unfold ZAO; rw [e]; show (Zx pt x sd).map _=_; rw [e1]; rfl,h⟩
theorem ZOD (h:EvP (d sd g) λ x g1=>PS' (.rt x g1)):EvS (Za d sd g) PS':=by
 obtain ⟨x,g1,e,h⟩:=h
 exact ⟨_,by unfold Za; rw [e]; rfl,h⟩
theorem ZNh (h:EvP (d sd g) λ x g1=>PS' (.nx sd g1)):EvS (ZA3 d sd g) PS':=by
 obtain ⟨x,g1,e,h⟩:=h
 exact ⟨_,by unfold ZA3; rw [e]; rfl,h⟩
theorem ZQD (h:EvP (ta sd g) λ k g1=>(k=true->EvS (a sd g1) PS')/\(k=false->EvS (b sd g1) PS')):EvS (Z5 ta a b sd g) PS':=by
 obtain ⟨k,g1,e,h1,h2⟩:=h
 cases k with
 | true =>
  obtain ⟨o,e2,h⟩:=h1 rfl
  exact ⟨o,by unfold Z5; rw [e]; exact e2,h⟩
 | false =>
  obtain ⟨o,e2,h⟩:=h2 rfl
  exact ⟨o,by unfold Z5; rw [e]; exact e2,h⟩
theorem ZQF {pt:Pat} {di:DI} (h:EvI (di sd g) λ xs src g1=>EvS (ZAl src xs pt b xs sd g1) PS'):EvS (ZCK pt di b sd g) PS':=by
 obtain ⟨xs,src,g1,e1,o,e2,h⟩:=h
 exact ⟨o,by unfold ZCK; rw [e1]; exact e2,h⟩
theorem ZMb {i:Nat} {k:Int} (hk:sd.getD i none=some (.dat (.int k))) (h:EvP (d sd g) λ x g1=>∃ j,x=.dat (.int j)/\PS' (.nx (sd.set i (some (.dat (.int (k+j))))) g1)):EvS (ZHe i d sd g) PS':=by
 obtain ⟨x,g1,e,j,rfl,h⟩:=h
 exact ⟨_,by unfold ZHe; rw [hk]; show (d sd g).bind _=_; rw [e]; rfl,h⟩
theorem ZQE {dl:DE} (h:EvP (dl sd g) λ l g1=>∃ n,l=.ref n/\isL g1 n=true/\EvP (d sd g1) λ x g2=>∃ y,x=.dat y/\∃ ds,g2[n]? = some (.pl ds)/\ds.length < 1000/\P (.dat .none) (g2.set n (.pl (ds ++ [y])))):EvP (ZEG dl d sd g) P:=by
 obtain ⟨l,g1,e1,n,rfl,hil,x,g2,e2,y,rfl,ds,e3,hl,h⟩:=h
 refine ⟨_,_,?_,h⟩
 unfold ZEG
 rw [e1]
 show (if isL g1 n=true then _ else _)=_
 rw [if_pos hil]
 show (d sd g1).bind _=_
 rw [e2]
 show (match g2[n]? with | some (.pl ds)=>_ | some (.rl ws)=>_ | _=>_)=_
 rw [e3]
 exact if_pos hl
theorem ZQG {dl di:DE} (h:EvP (d sd g) λ v g1=>∃ x,v=.dat x/\EvP (dl sd g1) λ l g2=>∃ n,l=.ref n/\EvP (di sd g2) λ i g3=>∃ k,i=.dat (.int k)/\∃ ds,g3[n]? = some (.pl ds)/\∃ j,ixN ds.length k=some j/\PS' (.nx sd (g3.set n (.pl (ds.set j x))))):EvS (ZKi dl di d sd g) PS':=by
 obtain ⟨v,g1,e1,x,rfl,l,g2,e2,n,rfl,i,g3,e3,k,rfl,ds,e4,j,e5,h⟩:=h
 refine ⟨_,?_,h⟩
 unfold ZKi
 rw [e1]
 show (dl sd g1).bind _=_
 rw [e2]
 show (di sd g2).bind _=_
 rw [e3]
 show (match g3[n]? with | some (.pl ds)=>_ | some (.rl ws)=>_ | _=>_)=_
 rw [e4]
 show (ixN ds.length k).map _=_
 rw [e5]
 rfl
end
inductive runP (P:W->G->Prop):Out->Prop
 | rt {x:W} {g':G}:P x g'->runP P (.rt x g')
 | nx {sd:Sd} {g':G}:P (.dat .none) g'->runP P (.nx sd g')
theorem ZMp {x:W} {g':G} {P:W->G->Prop} (h:P x g'):runP P (.rt x g'):=.rt h
theorem ZMk {sd:Sd} {g':G} {P:W->G->Prop} (h:P (.dat .none) g'):runP P (.nx sd g'):=.nx h
theorem Zf {n:Nat} {d:DS} {ws:List W} {g:G} {P:W->G->Prop} (h:EvS (d (ws.map some ++ List.replicate (n - ws.length) none) g) (runP P)):EvP (Z3 n d ws g) P:=by
 obtain ⟨o,e,h⟩:=h
 unfold Z3
 rw [e]
 cases h with
 | rt h=>exact ⟨_,_,rfl,h⟩
 | nx h=>exact ⟨_,_,rfl,h⟩
def ZLJ (src:Option Nat) (xs:List PyData) (I:Sd->G->Prop) (P:Out->Prop):Out->Prop
 | .nx sd g=>ZBk src xs g/\I sd g
 | .ct sd g=>ZBk src xs g/\I sd g
 | .bk sd g=>P (.nx sd g)
 | .rt x g=>P (.rt x g)
theorem ZB3 {α : Type} {src:Option Nat} {xs:List PyData} {g:G} {k:Option α} (h:ZBk src xs g):ZCu src xs g k=k:=by
 unfold ZCu
 cases src with
 | none=>rfl
 | some n=>exact if_pos h
theorem ZBu {src:Option Nat} {xs:List PyData} {pt:Pat} {db:DS} {P:Out->Prop} (I:Nat->Sd->G->Prop) {sd:Sd} {g:G} (h0:I 0 sd g)
  (hs:∀ i x sd g,xs[i]? = some x->I i sd g->∃ sd1,Zx pt (.dat x) sd=some sd1/\EvS (db sd1 g) (ZLJ src xs (I (i+1)) P)) (hd:∀ sd g,I xs.length sd g->P (.nx sd g)):EvS (ZAl src xs pt db xs sd g) P:=by
 have go:∀ (k i:Nat) sd g,i+k=xs.length->I i sd g->EvS (ZAl src xs pt db (xs.drop i) sd g) P:=by
  intro k
  induction k with
  | zero =>
   intro i sd g hi h
   have:i=xs.length:=by omega
   subst this
   rw [List.drop_length,ZAl]
   exact ⟨_,rfl,hd sd g h⟩
  | succ k ih =>
   intro i sd g hi h
   have hlt:i < xs.length:=by omega
   rw [List.drop_eq_getElem_cons hlt,ZAl]
   obtain ⟨sd1,e1,o,e2,h2⟩:=hs i xs[i] sd g (List.getElem?_eq_getElem hlt) h
   rw [e1]
   show EvS ((db sd1 g).bind _) P
   rw [e2]
   cases o with
   | nx sd2 g2=>show EvS (ZCu _ _ _ _) P; rw [ZB3 h2.1]; exact ih (i+1) sd2 g2 (by omega) h2.2
   | ct sd2 g2=>show EvS (ZCu _ _ _ _) P; rw [ZB3 h2.1]; exact ih (i+1) sd2 g2 (by omega) h2.2
   | bk sd2 g2=>exact ⟨_,rfl,h2⟩
   | rt x g2=>exact ⟨_,rfl,h2⟩
 exact go xs.length 0 sd g (by omega) h0
theorem ZMq {α : Type} {src:Option Nat} {xs:List PyData} {pt:Pat} {dt:DB} {de:DE} {sd0:Sd} {g:G} (enc : α->PyData) (c : α->Bool) (f : α->PyData) (so:ZBk src xs g):∀ L:List α,
  (∀ a ∈ L,∃ sd1,Zx pt (.dat (enc a)) sd0=some sd1/\EvP (dt sd1 g) λ b g1=>b=c a/\g1=g/\(c a=true->EvP (de sd1 g) λ y g2=>y=.dat (f a)/\g2=g))->ZBf src xs pt dt de sd0 (L.map enc) g=some ((L.filter c).map f,g)
 | [],_=>rfl
 | a :: L,h=>by
  obtain ⟨sd1,e1,b,g1,e2,rfl,rfl,h2⟩:=h a (List.mem_cons_self ..)
  rw [List.map_cons,ZBf,e1]
  show ((dt sd1 g1).bind _)=_
  rw [e2]
  show (if c a=true then _ else _)=_
  have ih:=ZMq enc c f so L λ z hz=>h z (List.mem_cons_of_mem _ hz)
  cases hc:c a with
  | true =>
   rw [if_pos rfl]
   obtain ⟨y,g2,e3,rfl,rfl⟩:=h2 hc
   rw [e3]
   show ZCu src xs g2 _=_
   rw [ZB3 so,ih,List.filter_cons_of_pos hc]
   rfl
  | false =>
   rw [if_neg Bool.false_ne_true,ZB3 so,ih,List.filter_cons_of_neg (by rw [hc]; exact Bool.false_ne_true)]
theorem ZCt {α : Type} {src:Option Nat} {xs:List PyData} {pt:Pat} {dt:DB} {de:DE} {sd0:Sd} {g:G} {P:List PyData->G->Prop} (enc : α->PyData) (c : α->Bool) (f : α->PyData) (L:List α) (e:xs=L.map enc) (so:ZBk src xs g)
  (h:∀ a ∈ L,∃ sd1,Zx pt (.dat (enc a)) sd0=some sd1/\EvP (dt sd1 g) λ b g1=>b=c a/\g1=g/\(c a=true->EvP (de sd1 g) λ y g2=>y=.dat (f a)/\g2=g)) (hP:P ((L.filter c).map f) g):EvP (ZBf src xs pt dt de sd0 xs g) P:=by
 refine ⟨_,g,?_,hP⟩
 conv=>lhs; arg 7; rw [e]
 exact ZMq enc c f so L h
theorem ZBb {α : Type} {src:Option Nat} {xs:List PyData} {pt:Pat} {de:DE} {sd0:Sd} {g:G} {P:List PyData->G->Prop} (enc : α->PyData) (f : α->PyData) (L:List α) (e:xs=L.map enc) (so:ZBk src xs g)
  (h:∀ a ∈ L,∃ sd1,Zx pt (.dat (enc a)) sd0=some sd1/\EvP (de sd1 g) λ y g2=>y=.dat (f a)/\g2=g) (hP:P (L.map f) g):EvP (ZBf src xs pt ZDf de sd0 xs g) P:=by
 refine ZCt enc (λ _=>true) f L e so (λ a ha=>?_) ?_
 ·obtain ⟨sd1,e1,h1⟩:=h a ha
  exact ⟨sd1,e1,true,g,rfl,rfl,rfl,λ _=>h1⟩
 ·rw [List.filter_eq_self.mpr λ _ _=>rfl]
  exact hP
theorem ZE4 {src:Option Nat} {xs:List PyData} {pt:Pat} {dt:DB} {de:DE} {sd0:Sd} {P:List PyData->G->Prop} (I:G->Prop) (R:Nat->List PyData->Prop) {g:G} (h0:I g) (hR0:R 0 [])
  (h:∀ i x g acc,xs[i]? = some x->I g->R i acc->∃ sd1,Zx pt (.dat x) sd0=some sd1/\EvP (dt sd1 g) λ b g1=>(b=true->EvP (de sd1 g1) λ y g2=>∃ d,y=.dat d/\ZBk src xs g2/\I g2/\R (i+1) (acc ++ [d]))/\(b=false->ZBk src xs g1/\I g1/\R (i+1) acc))
  (hP:∀ acc g,I g->R xs.length acc->P acc g):EvP (ZBf src xs pt dt de sd0 xs g) P:=by
 have go:∀ (k i:Nat) acc g,i+k=xs.length->I g->R i acc->EvP (ZBf src xs pt dt de sd0 (xs.drop i) g) λ ys g2=>P (acc ++ ys) g2:=by
  intro k
  induction k with
  | zero =>
   intro i acc g hi h1 h2
   have:i=xs.length:=by omega
   subst this
   rw [List.drop_length,ZBf]
   exact ⟨_,_,rfl,by show P (acc ++ []) g; rw [List.append_nil]; exact hP acc g h1 h2⟩
  | succ k ih =>
   intro i acc g hi h1 h2
   have hlt:i < xs.length:=by omega
   rw [List.drop_eq_getElem_cons hlt,ZBf]
   obtain ⟨sd1,e1,b,g1,e2,kt,kf⟩:=h i xs[i] g acc (List.getElem?_eq_getElem hlt) h1 h2
   rw [e1]
   show EvP ((dt sd1 g).bind _) _
   rw [e2]
   show EvP (if b=true then _ else _) _
   cases b with
   | true =>
    obtain ⟨y,g2,e3,d,rfl,so,i2,r2⟩:=kt rfl
    rw [if_pos rfl,e3]
    show EvP (ZCu _ _ _ _) _
    rw [ZB3 so]
    obtain ⟨ys,g3,e4,hp⟩:=ih (i+1) (acc ++ [d]) g2 (by omega) i2 r2
    rw [e4]
    refine ⟨_,g3,rfl,?_⟩
    rw [List.append_assoc] at hp
    exact hp
   | false =>
    obtain ⟨so,i2,r2⟩:=kf rfl
    rw [if_neg Bool.false_ne_true,ZB3 so]
    exact ih (i+1) acc g1 (by omega) i2 r2
 have:=go xs.length 0 [] g (by omega) h0 hR0
 rw [List.drop_zero] at this
 exact this
section
variable {g:G} {P:W->G->Prop}
theorem ZCz {xs ys:List PyData} (h:xs.length+ys.length<=1000) (q:P (.dat (.tuple (xs ++ ys))) g):EvP (Zs (.dat (.tuple xs)) (.dat (.tuple ys)) g) P:=ZDD h (ZCU q)
theorem ZRl {xs ys:List PyData} (h:xs.length+ys.length<=1000) (q:P (.dat (.list (xs ++ ys))) g):EvP (Zs (.dat (.list xs)) (.dat (.list ys)) g) P:=ZRo (if_pos h) q
theorem ZDe {i j:Int} (h:ZFr i j=true) (q:P (.dat (.int (i * j))) g):EvP (ZAi (.dat (.int i)) (.dat (.int j)) g) P:=ZDD h (ZCU q)
theorem ZER {i j:Int} (h : 0 < j) (q:P (.dat (.int (i % j))) g):EvP (ZCd (.dat (.int i)) (.dat (.int j)) g) P:=ZDD (decide_eq_true h) (ZCU q)
theorem ZQV {i j:Int} (h : 0 < j) (h2:j < 2 ^ 64) (q:P (.dat (.int (i / j))) g):EvP (ZFB (.dat (.int i)) (.dat (.int j)) g) P:=ZDD (by show (decide (0 < j) && decide (j < 2 ^ 64))=true; rw [decide_eq_true h,decide_eq_true h2]; rfl) (ZCU q)
theorem ZAk {xs:List PyData} {i:Int} {d:PyData} (h:atI xs i=some d) (q:P (.dat d) g):EvP (Zm (.dat (.tuple xs)) (.dat (.int i)) g) P:=ZIp h rfl q
theorem y_ixL {xs:List PyData} {i:Int} {d:PyData} (h:atI xs i=some d) (q:P (.dat d) g):EvP (Zm (.dat (.list xs)) (.dat (.int i)) g) P:=ZIp h rfl q
theorem ZFb {n:Nat} {xs:List PyData} {i:Int} {d:PyData} (hn:g[n]? = some (.pl xs)) (h:atI xs i=some d) (q:P (.dat d) g):EvP (Zm (.ref n) (.dat (.int i)) g) P:=by
 refine ⟨_,_,?_,q⟩
 show (match g[n]? with | some (.pl ds)=>(atI ds i).map λ d=>(W.dat d,g) | some (.rl ws)=>(atI ws i).map λ w=>(w,g) | _=>none)=_
 rw [hn]
 show (atI xs i).map _=_
 rw [h]
 rfl
theorem ZR7 {n:Nat} {xs:List PyData} (hn:g[n]? = some (.pl xs)) (q:P (.dat (.int (xs.length:Int))) g):EvP (f1 ZBq [.ref n] g) P:=by
 refine ⟨_,_,?_,q⟩
 show (match g[n]? with | some (.pl ds)=>some (W.dat (.int (ds.length:Int)),g) | some (.rl ws)=>some (W.dat (.int (ws.length:Int)),g) | _=>none)=_
 rw [hn]
theorem ZDr {n:Nat} {xs:List PyData} (hn:g[n]? = some (.pl xs)) (q:P (.dat (.tuple xs)) g):EvP (f1 ZDh [.ref n] g) P:=ZIp (y:=xs) (ZJA hn) rfl q
theorem ZN4 {n:Nat} {xs:List PyData} {PI':List PyData->Option Nat->G->Prop} (hn:g[n]? = some (.pl xs)) (q:PI' xs (some n) g):EvI (ZMZ (.ref n) g) PI':=by
 refine ⟨xs,some n,g,?_,q⟩
 show (lk g n).map _=_
 rw [ZJA hn]
 rfl
theorem ZSJ {x y:PyData} (h:(ok0 x && ok0 y)=true) (q:P (.dat (.bool (!x.eqv y))) g):EvP (ZEH (.dat x) (.dat y) g) P:=ZDD h (ZCU q)
theorem ZEQ {x:PyData} {ys:List PyData} (h:(ok0 x && PyData.canLayAll0 ys)=true) (q:P (.dat (.bool (ys.any λ y=>y.eqv x))) g):EvP (ZC0 (.dat x) (.dat (.tuple ys)) g) P:=ZDD h (ZCU q)
theorem y_inL {x:PyData} {ys:List PyData} (h:(ok0 x && PyData.canLayAll0 ys)=true) (q:P (.dat (.bool (ys.any λ y=>y.eqv x))) g):EvP (ZC0 (.dat x) (.dat (.list ys)) g) P:=ZDD h (ZCU q)
theorem ZIi {x:PyData} {ys:List PyData} (h:(ok0 x && PyData.canLayAll0 ys)=true) (q:P (.dat (.bool (!ys.any λ y=>y.eqv x))) g):EvP (ZCN (.dat x) (.dat (.tuple ys)) g) P:=ZDD h (ZCU q)
end
theorem ZBO (ns:List Int):PyData.canLayAll0 (ns.map .int)=true:=by
 induction ns with
 | nil=>rfl
 | cons n ns ih=>show (true && PyData.canLayAll0 (ns.map .int))=true; rw [ih]; rfl
theorem any_ints {ns:List Int} {k:Int}:((ns.map PyData.int).any λ y=>y.eqv (.int k))=ns.contains k:=by
 induction ns with
 | nil=>rfl
 | cons n ns ih =>
  rw [List.map_cons,List.any_cons,ih,List.contains_cons]
  congr 1
  show (n == k)=(k == n)
  exact Bool.beq_comm
theorem Zn {i j:Int}:(PyData.int i).eqv (.int j)=decide (i=j):=by
 show (i == j)=_
 exact rfl
theorem ZIZ {α : Type} {enc : α->PyData} {L:List α} {i:Nat} {a : α} (h:L[i]? = some a):atI (L.map enc) (i:Int)=some (enc a):=ZF1 (by rw [List.getElem?_map,h]; rfl)
theorem Zv {α : Type} {enc : α->PyData} {L:List α} {i:Nat} {a : α} (h:i < L.length):atI (L.map enc) (i:Int)=some (enc (L.getD i a)):=ZIZ (by rw [List.getD_eq_getElem?_getD,List.getElem?_eq_getElem h]; rfl)
def ZCJ:List Str:=["about","again","newer","others","own","refute","wait"]
theorem ok7:∀ s ∈ ZCJ,ok0 (.str s)=true:=by decide +kernel
theorem ZFQ {i j:Int} (h : -(2 ^ 64) < j/\j < 2 ^ 64):ZFr i j=true:=by
 unfold ZFr
 rw [decide_eq_true h.1,decide_eq_true h.2]
 simp
theorem ZNw {i j:Int} (h : -(2 ^ 64) < i/\i < 2 ^ 64):ZFr i j=true:=by
 unfold ZFr
 rw [decide_eq_true h.1,decide_eq_true h.2]
 simp
theorem ZAr {α : Type} {g:List α} {b:Nat} {x : α} (h:b < g.length):(g.set b x)[b]? = some x:=List.getElem?_set_self h
def Bx (g:G) (b:Nat):Prop:=∃ x n c:Int,g[b]? = some (.pl [.int x,.int n,.int c])
theorem Bx.lt {g:G} {b:Nat} (h:Bx g b):b < g.length:=by
 obtain ⟨x,n,c,e⟩:=h
 exact (List.getElem?_eq_some_iff.mp e).1
structure Dr (b:Nat) (g g':G):Prop where
 bx:Bx g' b
 len:g.length<=g'.length
 kp:∀ n,n < g.length->n ≠ b->g'[n]? = g[n]?
theorem Dr.refl {b:Nat} {g:G} (h:Bx g b):Dr b g g:=⟨h,Nat.le_refl _,λ _ _ _=>rfl⟩
theorem Dr.trans {b:Nat} {g g1 g2:G} (h:Dr b g g1) (k:Dr b g1 g2):Dr b g g2:=⟨k.bx,Nat.le_trans h.len k.len,λ n h1 hn=>(k.kp n (Nat.lt_of_lt_of_le h1 h.len) hn).trans (h.kp n h1 hn)⟩
theorem Dr.set {b:Nat} {g:G} {x n c:Int} (h:b < g.length):Dr b g (g.set b (.pl [.int x,.int n,.int c])):=⟨⟨x,n,c,ZAr h⟩,by rw [List.length_set]; exact Nat.le_refl _,λ m _ hm=>List.getElem?_set_ne (Ne.symm hm)⟩
theorem Dr.put {b n:Nat} {g gx:G} {c:Cell} (h:Dr b g gx) (hb:b < g.length) (hn:g.length<=n):Dr b g (gx.set n c):=⟨by
 obtain ⟨x,y,z,e⟩:=h.bx
 exact ⟨x,y,z,by rw [List.getElem?_set_ne (by omega)]; exact e⟩,by rw [List.length_set]; exact h.len,λ m h1 h2=>by rw [List.getElem?_set_ne (by omega)]; exact h.kp m h1 h2⟩
theorem Dr.app {b:Nat} {g gx:G} {c:Cell} (h:Dr b g gx):Dr b g (gx ++ [c]):=⟨by
 obtain ⟨x,y,z,e⟩:=h.bx
 exact ⟨x,y,z,by rw [List.getElem?_append_left h.bx.lt]; exact e⟩,by have:=h.len; rw [List.length_append]; omega,λ m h1 h2=>by rw [List.getElem?_append_left (by have:=h.len; omega)]; exact h.kp m h1 h2⟩
structure Ex (g g':G):Prop where
 len:g.length<=g'.length
 kp:∀ n,n < g.length->g'[n]? = g[n]?
theorem Ex.refl {g:G}:Ex g g:=⟨Nat.le_refl _,λ _ _=>rfl⟩
theorem Ex.app {g gx:G} {c:Cell} (h:Ex g gx):Ex g (gx ++ [c]):=⟨by have:=h.len; rw [List.length_append]; omega,λ m h1=>by rw [List.getElem?_append_left (by have:=h.len; omega)]; exact h.kp m h1⟩
theorem Dr.ex {b:Nat} {g g1 g2:G} (h:Dr b g g1) (k:Ex g1 g2):Dr b g g2:=⟨by
 obtain ⟨x,y,z,e⟩:=h.bx
 exact ⟨x,y,z,by rw [k.kp _ h.bx.lt]; exact e⟩,Nat.le_trans h.len k.len,λ n h1 h2=>by rw [k.kp n (Nat.lt_of_lt_of_le h1 h.len)]; exact h.kp n h1 h2⟩
theorem ZAB {g:G} {c:Cell}:(g ++ [c])[g.length]? = some c:=by
 rw [List.getElem?_append_right (Nat.le_refl _),Nat.sub_self]
 rfl
theorem ZQq {P:Program} {w:World} {K:PySem.W.Frag} {mg:Str->Option Value} {base:Heap} {k:Nat} {f:Addr} {fd:FuncData} {ps:List Str} {r:List W->G->Option (W × G)} (F:FnOk P w K mg base CX0 k f fd ps (spD K 1 r))
  (h:∀ ns:List Int,ns.length<=63->∃ g',r [.inp ns] []=some (.dat (.bool true),g')):FnOk P w K mg base CX0 k f fd ps (λ vs H Q _=>∃ (a:Addr) (ns:List Int),vs=[.ref a]/\SqL K H a (ns.map V.int)/\ns.length<=63/\∀ H',Q (.bl true) H'):=F.imp λ vs H Q E ⟨a,ns,e,hS,hl,q⟩=>by
 subst e
 obtain ⟨g',eg⟩:=h ns hl
 refine ⟨rfl,⟨[],[]⟩,[.inp ns],[],.dat (.bool true),g',⟨rfl,List.nodup_nil,λ n ds e=>by simp at e,λ a z=>by cases z⟩,.cons (.inp ?_) .nil,eg,λ v H' ρ' s' h' r'=>?_⟩
 ·rcases hS with z | z
  ·exact .inl ⟨z,λ q=>q.elim (λ z=>by cases z) λ z=>by cases z⟩
  ·exact .inr z
 ·cases r' with
  | dat r' =>
   cases r' with
   | bl b=>exact q H'
end L2
namespace L2
open PySem PySem.Spec PyProof.Rows H1
def ZE1 (r:Ru) (told:List Int) (x:Int) (due:List Int):List Int:=((ZFh (ZBm told r.t x due)).take r.c.toNat).map λ p=>p.2
theorem ZJX (ns:List Bool):ZD8 (ns.map .bool)=some ns:=by
 induction ns with
 | nil=>rfl
 | cons n ns ih=>rw [List.map_cons,ZD8,ih]; rfl
section
variable {g:G} {P:W->G->Prop}
theorem ZQP {bs:List Bool} (q:P (.dat (.bool (bs.all id))) g):EvP (f1 ZGD [.dat (.list (bs.map .bool))] g) P:=by
 refine ZRo ?_ q
 show ZGD _ g=_
 unfold ZGD
 show ((ZD8 (bs.map .bool)).map _)=_
 rw [ZJX]
 rfl
end
theorem ZCv (n:Nat):ZBn n 0=(List.range n).map λ j:Nat=>PyData.int (j:Int):=by
 unfold ZBn
 refine List.map_congr_left λ j _=>?_
 rw [Int.zero_add]
end L2
namespace L2
open PySem PySem.Spec PyProof.Rows H1
section
variable {X:Cx}
end
section
variable {sd:Sd} {g:G} {dl di d:DE} {PS':Out->Prop}
end
end L2
namespace L2
open PySem PySem.Spec PyProof.Rows H1
section
variable {X:Cx}
end
end L2
namespace L2
open PySem PySem.Spec PyProof.Rows H1
section
variable {X:Cx}
def ZJ1 (aa:DA) (d:DE):DE:=λ sd g=>(aa sd g).bind λ p=>(d sd p.2).bind λ i=>match i.1 with
 | .dat (.int k)=>if p.1.length<=1000 then (atI p.1 k).map λ x=>(x,i.2) else none
 | _=>none
theorem ZLF {K:PySem.W.Frag} {ρ : Rh} {H:Hp}:∀ {vs:List V} {ws:List W} {i:Nat} {w:W},RelL K ρ H vs ws->ws[i]? = some w->∃ v,vs[i]? = some v/\Rel K ρ H v w
 | _,_,_,_,.nil,h=>by simp at h
 | _,_,0,_,.cons t _,h=>by cases h; exact ⟨_,rfl,t⟩
 | _,_,i+1,_,.cons _ t,h=>ZLF (i:=i) t (by simpa using h)
theorem ZPh {es:List Expr} {b:Expr} {aa:DA} {d:DE} {pos lpos:Pos} (ha:PA X es (tA X.K aa)) (hb:PE X b (tE X.K d)) (hs:ZE3 b):PE X (.Subscript (.List es lpos) b pos) (tE X.K (ZJ1 aa d)):=(ZQZ ZEs (ZKd ha) hb hs).imp λ σ H Q ⟨ρ,sd,g,x,g',r,e,q⟩=>by
 obtain ⟨⟨ws,g1⟩,e1,e⟩:=bnd e
 obtain ⟨⟨i,g2⟩,e2,e⟩:=bnd e
 refine ⟨ρ,sd,g,ws,g1,r,e1,λ vs H1 ρ1 s1 h1 r1=>?_⟩
 have hl:vs.length=ws.length:=r1.length
 cases i with
 | dat i =>
  cases i with
  | int k =>
   dsimp only at e
   split at e
   ·rename_i hz
    obtain ⟨w,e3,e⟩:=mp e
    cases e
    refine ⟨by rw [hl]; exact Nat.le_of_lt (Z7 hz),λ p hp=>?_⟩
    obtain ⟨sm,hr2,hn⟩:=ZC4 (o:=.lst vs) h1 hp
    have s2:Stp ρ1 H1 ρ1 (upd H1 p (.lst vs)):=.same sm
    refine ⟨ρ1,sd,g1,_,g',r.step (s1.trans s2) hr2,e2,λ v H3 ρ3 s3 h3 r3=>?_⟩
    cases r3 with
    | dat r3 =>
     cases r3 with
     | int _ =>
      have hp3:H3 p=some (.lst vs):=s3.frm _ _ Zt λ z=>hn (.inl z)
      unfold atI at e3
      obtain ⟨j,ej,ew⟩:=bnd e3
      obtain ⟨v,hv,rv⟩:=ZLF r1 ew
      refine ⟨p,vs,k,v,rfl,rfl,SqL.of hp3,?_,q v H3 ρ3 (s1.trans (s2.trans s3)) h3 ((rv.mono s2).mono s3)⟩
      unfold atI
      rw [hl,ej]
      exact hv
   ·cases e
  | _=>cases e
 | _=>cases e
theorem ZNy {es:List Expr} {b:Expr} {aa:DA} {d:DE} {pos lpos:Pos} (ha:JA X es aa) (hb:JE X b d) (hs:ZE3 b):JE X (.Subscript (.List es lpos) b pos) (ZJ1 aa d):=⟨ZPh ha.h hb.h hs⟩
end
section
variable {sd:Sd} {g:G} {P:W->G->Prop} {d:DE}
theorem ZNs {aa:DA} (h:EvP (aa sd g) λ ws g1=>EvP (d sd g1) λ x g2=>∃ i:Int,x=.dat (.int i)/\ws.length<=1000/\∃ w,atI ws i=some w/\P w g2):EvP (ZJ1 aa d sd g) P:=by
 obtain ⟨ws,g1,e1,x,g2,e2,i,rfl,hz,w,e3,h⟩:=h
 refine ⟨_,_,?_,h⟩
 unfold ZJ1
 rw [e1]
 show (d sd g1).bind _=_
 rw [e2]
 show (if ws.length<=1000 then (atI ws i).map λ x=>(x,g2) else none)=_
 rw [if_pos hz,e3]
 rfl
end
end L2
namespace L2
open PySem PySem.Spec PyProof.Rows H1
open AutoSeq1 (wpAny_loadPart')
section
variable {prog:Program} {w:World} {A:Around} {E:Value->Shared->Prop} {s:Shared}
theorem ZEF {Q:List Value->Shared->Prop} {r:Addr} {a b c:Int} {t u v:Tok} {n:Nat} (hh:A.handled=none) (hr:IsRange s.heap r a b c t u v) (hsmall:Builtin.Range.small a b c=true)
  (hn:Builtin.Range.rangeSize a b c=n) (hlen:n<=2 ^ 24)
  (hQ:∀ (h':Heap) tk (acc:Array Value),(∀ b o,s.heap.get? b=some o->h'.get? b=some o)->ItemsOf (λ i v=>∃ t,v=.int (a+i * c) t) acc n->Q acc.toList { s with heap:=h',toks:=tk }):wpAny (model prog w) A (collect (.ref r)) Q E s:=by
 have hS₁ : (s.heap.push { cls:=.type "list",data:=.seq ([]:List Value).toArray }).get? s.heap.objs.size=some { cls:=.type "list",data:=.seq #[] }:=Heap.get?_push_size _ rfl
 have key:∀ R:Result->Shared->Prop,(∀ (h':Heap) tk (acc':Array Value) c',(∀ b o,s.heap.get? b=some o->h'.get? b=some o)->h'.get? s.heap.objs.size=some { cls:=.type "list",dict:=none,data:=.seq acc' c',slots:=#[] }->ItemsOf (λ i v=>∃ t,v=.int (a+i * c) t) acc' n->R (.ok (.ret (.ref s.heap.objs.size))) { s with heap:=h',toks:=tk })->codeAny (model prog w) A (.builtin "proto.collect" ⟨[.ref r],[]⟩) R s:=by
  intro R hR
  refine codeAny_builtin F.entry_proto_collect ?_
  rw [Around.under_plainId F.plain_proto_collect _]
  show wpAny _ A.in1 (newList [] >>= λ l=>again (.builtin "list.__iadd__" ⟨[l,.ref r],[]⟩)) _ _ s
  refine wpAny_bind (wpAny_newObj_type ?_)
  refine wpAny_pure ⟨plainId_quiet F.plain_list_iadd _,codeAny_builtin F.entry_list_iadd ?_⟩
  rw [Around.under_plainId F.plain_list_iadd _]
  exact wpAny_extend_range (R:=R) (s:={ s with heap:=s.heap.push { cls:=.type "list",data:=.seq ([]:List Value).toArray } }) hh (Heap.get?_push_of_some _ hr) hsmall hn hlen s.heap.objs.size (.ref s.heap.objs.size) 0 hS₁ λ h' tk acc' c' hk hS' hacc=>hR h' tk acc' c' (λ b o e=>hk b o (Nat.ne_of_lt (Heap.lt_size e)) (Heap.get?_push_of_some _ e)) hS' hacc
 unfold collect
 refine wpAny_bind (wpAny_runValue (key _ λ h' tk acc' c' hk hS' hacc=>?_))
 show wpAny _ A (load s.heap.objs.size >>= _) _ _ _
 refine wpAny_bind (wpAny_load hS' ?_)
 exact wpAny_pure (hQ h' tk acc' hk hacc)
theorem ZDz {Q₁ : Value->Shared->Prop} {r:Addr} {a b c:Int} {t u v:Tok} {n:Nat} (hh:A.handled=none) (hr:IsRange s.heap r a b c t u v) (hsmall:Builtin.Range.small a b c=true)
  (hn:Builtin.Range.rangeSize a b c=n) (hlen:n<=2 ^ 24) (hsz:n<=sizeLine)
  (h:∀ (h':Heap) tk (acc:Array Value),(∀ b o,s.heap.get? b=some o->h'.get? b=some o)->ItemsOf (λ i v=>∃ t,v=.int (a+i * c) t) acc n->Q₁ (.ref h'.objs.size) { s with heap:=h'.push { cls:=.type "tuple",data:=.seq acc },toks:=tk }) :
  codeAny (model prog w) A (.call (.builtin "tuple.__new__") ⟨[.type "tuple",.ref r],[]⟩) (wants Q₁ E) s:=by
 refine codeAny_of_tree ?_
 show wpAny _ A.in1 (do checkBuiltinCall "tuple.__new__" ⟨[.type "tuple",.ref r],[]⟩; again (.builtin "tuple.__new__" ⟨[.type "tuple",.ref r],[]⟩)) _ _ s
 refine wpAny_bind (wpAny_of_eq (F.newCall_tuple_1 _) (wpAny_pure ⟨plainId_quiet F.plain_tuple_new _,codeAny_builtin F.entry_tuple_new ?_⟩))
 rw [Around.under_plainId F.plain_tuple_new _]
 have hsub:=sub_tuple_self
 have hinit:=init_tuple_lookup
 have hmh:=madeHere_tuple
 have hTI:s.TypeIs (.ref r) "range":=⟨_,hr,rfl⟩
 have hh1:A.in1.handled=none:=hh
 wp_walk using wpAny_typeOf hTI,ZEF hh1 hr hsmall hn hlen
 intro h' tk acc hm hacc
 show wpAny _ _ (Builtin.Tuple.tupleExact acc.toList.toArray >>= λ v=>ret v) _ _ _
 unfold Builtin.Tuple.tupleExact
 refine wpAny_bind (wpAny_newObj_type ?_ (by show acc.toList.toArray.size<=sizeLine; simp only [Array.toArray_toList]; rw [hacc.1]; exact hsz))
 refine wpAny_pure ?_
 have e:acc.toList.toArray=acc:=by simp
 rw [e]
 exact h h' tk acc hm hacc
theorem ZFV {Q:Value->Shared->Prop} {r:Addr} {a b c:Int} {t u v:Tok} {n:Nat} (hh:A.handled=none) (hr:IsRange s.heap r a b c t u v) (hsmall:Builtin.Range.small a b c=true)
  (hn:Builtin.Range.rangeSize a b c=n) (hlen:n<=2 ^ 24) (hsz:n<=sizeLine)
  (hQ:∀ (h':Heap) tk (acc:Array Value),(∀ b o,s.heap.get? b=some o->h'.get? b=some o)->ItemsOf (λ i v=>∃ t,v=.int (a+i * c) t) acc n->Q (.ref h'.objs.size) { s with heap:=h'.push { cls:=.type "tuple",data:=.seq acc },toks:=tk }) :
  wpAny (model prog w) A (call (.type "tuple") [.ref r]) Q E s:=by
 refine callType_codes (Q₁:=λ obj s₁=>s₁.TypeIs obj "tuple"/\Q obj s₁) F.called_tuple (F.typeCall_tuple_1 _) F.entry_object_init
  (ZDz hh hr hsmall hn hlen hsz λ h' tk acc hm hacc=>⟨⟨_,Heap.get?_push_size _ rfl,rfl⟩,hQ h' tk acc hm hacc⟩) λ obj s₁ h₁=>?_
 exact ⟨h₁.1,F.args_object_init_2 obj _,object_init_meets F.called_tuple.init.lookup F.called_tuple.made (by decide) prog w A.in1 _ s₁ ⟨h₁.1,rfl,h₁.2⟩⟩
end
end L2
namespace L2
open PySem PySem.Spec PyProof.Rows H1
section
variable {X:Cx}
theorem ZGF (hc:X.calm=true):ZAG X (.type "tuple") (λ xs H Q=>∃ p j,xs=[.ref p]/\H p=some (.rng 0 j)/\(0<=j/\j<=1000)/\∀ l,H l=none->Q (.ref l) (upd H l (.tup (ZIe j.toNat)))):=by
 intro pins s σ H xs us Q I r h
 obtain ⟨p,j,rfl,hp,⟨h0,h1⟩,q⟩:=h
 obtain ⟨u,rfl,ru⟩:=ZEM r
 cases ru
 obtain ⟨t,u,v,ho⟩:=I.hok p _ hp
 have hj:(j.toNat:Int)=j:=Int.toNat_of_nonneg h0
 have hl:(ZIe j.toNat).length=j.toNat:=by unfold ZIe; simp
 refine ZFV (n:=j.toNat) (I.ok.hd hc) (show IsRange s.heap p 0 j 1 t u v from ho) (small_one (by omega) (by omega) (by omega) (by omega)) (by rw [rangeSize_one]; split <;> omega) (by omega) (Nat.le_of_lt (Z7 (by omega))) λ h' tk acc kp hacc=>?_
 have e:(rangeInts 0 1 j.toNat)=(List.range j.toNat).map λ (i:Nat)=>(i:Int):=by
  unfold rangeInts
  apply List.map_congr_left
  intro a _
  omega
 have ca:CarriedAll acc.toList ((rangeInts 0 1 j.toNat).map .int):=carriedAll_of_get _ _ (by simp [hacc.1,rangeInts_length]) λ i v hv=>by
  have hv':acc[i]? = some v:=by simpa using hv
  obtain ⟨tk,rfl⟩:=hacc.2 i v hv'
  have hi:i < j.toNat:=by
   have:=(Array.getElem?_eq_some_iff.mp hv').1
   rw [hacc.1] at this; exact this
  exact ⟨.int (0+(i:Nat) * 1),by simp [rangeInts_get hi],.int _ _⟩
 have ev:Zu (ZIe j.toNat) acc.toList:=by
  have:=ZJ3 ca
  rw [e,List.map_map] at this
  exact this
 have I1:Inv X pins σ H { s with heap:=h',toks:=tk }:=I.kept (t':=tk) kp
 have I2:Inv X pins σ (upd H h'.objs.size (.tup (ZIe j.toNat))) { s with heap:=h'.push { cls:=.type "tuple",data:=.seq acc },toks:=tk } :=
  I1.laid (t':=tk) (λ b o e=>Heap.get?_push_of_some _ e) (Nat.le_refl _) (show ZB7 X.prog X.w _ _ _ (.tup (ZIe j.toNat)) from ⟨by rw [hl]; exact Nat.le_of_lt (Z7 (by omega)),acc.toList,ev,IsTup.new _ _⟩)
 exact ⟨.ref h'.objs.size,_,I2,rfl,q _ (I1.hok.fresh (Nat.le_refl _))⟩
end
end L2
namespace L2
open PySem PySem.Spec PyProof.Rows H1
section
variable {X:Cx}
def ZGO (d:DE):DE:=λ sd g=>(d sd g).bind λ p=>match p.1 with
 | .dat (.int j)=>if 0<=j/\j<=1000 then some (.dat (.tuple (ZBn j.toNat 0)),p.2) else none
 | _=>none
theorem ZJ0 {K:PySem.W.Frag} {ρ : Rh} {H:Hp} {α : Type} (f : α->Int):∀ L:List α,RelDL K ρ H (L.map λ i=>V.int (f i)) (L.map λ i=>PyData.int (f i))
 | []=>.nil
 | a :: r=>.cons (.int _) (ZJ0 f r)
theorem ZOt {K:PySem.W.Frag} {ρ : Rh} {H:Hp} (n:Nat):RelDL K ρ H (ZIe n) (ZBn n 0):=by
 rw [ZCv]
 unfold ZIe
 exact ZJ0 (λ j:Nat=>(j:Int)) _
theorem ZL8 {e:Expr} {d:DE} {p p2 pos pos2:Pos} (hc:X.calm=true) (hg:Gl X "tuple") (hm:X.mg "tuple" = none) (hgr:Gl X "range") (hmr:X.mg "range" = none) (ha:PE X e (tE X.K d))
  (hs1:starEach [.Call (.Name "range" p2) [e] [] pos2] X.env=(false,eval (.Call (.Name "range" p2) [e] [] pos2) X.env) :: starEach [] X.env:=by rfl) (hs2:starEach [e] X.env=(false,eval e X.env) :: starEach [] X.env:=by rfl)
  (hpl:(backTo pos (starEach [] X.env)).any (·.1)=false:=by rfl) (hpl2:(backTo pos2 (starEach [] X.env)).any (·.1)=false:=by rfl) :
  PE X (.Call (.Name "tuple" p) [.Call (.Name "range" p2) [e] [] pos2] [] pos) (tE X.K (ZGO d)) :=
 (ZFH (ZGF hc) hg hm boot_tuple (ZIS (ZFH (T:="range") ZJ4 hgr hmr rfl (ZIS ha ZK3 hs2) (by decide) (by decide) hs2 hpl2) ZK3 hs1) (by decide) (by decide) hs1 hpl).imp λ σ H Q ⟨ρ,sd,g,x,g',r,e,q⟩=>by
  obtain ⟨⟨y,g1⟩,e1,e⟩:=bnd e
  cases y with
  | dat y =>
   cases y with
   | int j =>
    dsimp only at e
    split at e
    ·rename_i hj
     cases e
     refine ⟨ρ,sd,g,.dat (.int j),_,r,e1,λ v H1 ρ1 s1 h1 r1=>?_⟩
     cases r1 with
     | dat r1 =>
      cases r1 with
      | int _ =>
       refine ⟨j,rfl,λ a hp=>?_⟩
       obtain ⟨sm,hr2,hn⟩:=ZC4 (o:=.rng 0 j) h1 hp
       refine ⟨a,j,rfl,Zt,hj,λ l hl=>?_⟩
       obtain ⟨sm2,hr3,hn3⟩:=ZC4 (o:=.tup (ZIe j.toNat)) hr2 hl
       exact q _ _ ρ1 (s1.trans ((Stp.same sm).trans (.same sm2))) hr3 (.dat (.tup (.inl ⟨.inl Zt,hn3⟩) (ZOt _)))
    ·cases e
   | _=>cases e
  | _=>cases e
theorem ZGf {e:Expr} {d:DE} {p p2 pos pos2:Pos} (hc:X.calm=true) (hg:Gl X "tuple") (hm:X.mg "tuple" = none) (hgr:Gl X "range") (hmr:X.mg "range" = none) (ha:JE X e d)
  (hs1:starEach [.Call (.Name "range" p2) [e] [] pos2] X.env=(false,eval (.Call (.Name "range" p2) [e] [] pos2) X.env) :: starEach [] X.env:=by rfl) (hs2:starEach [e] X.env=(false,eval e X.env) :: starEach [] X.env:=by rfl)
  (hpl:(backTo pos (starEach [] X.env)).any (·.1)=false:=by rfl) (hpl2:(backTo pos2 (starEach [] X.env)).any (·.1)=false:=by rfl) :
  JE X (.Call (.Name "tuple" p) [.Call (.Name "range" p2) [e] [] pos2] [] pos) (ZGO d):=⟨ZL8 hc hg hm hgr hmr ha.h hs1 hs2 hpl hpl2⟩
end
section
variable {sd:Sd} {g:G} {P:W->G->Prop} {d:DE}
theorem ZNq (h:EvP (d sd g) λ x g1=>∃ j:Int,x=.dat (.int j)/\(0<=j/\j<=1000)/\P (.dat (.tuple (ZBn j.toNat 0))) g1):EvP (ZGO d sd g) P:=by
 obtain ⟨x,g1,e1,j,rfl,hz,h⟩:=h
 refine ⟨_,_,?_,h⟩
 unfold ZGO
 rw [e1]
 exact if_pos hz
end
end L2
namespace L2
open PySem PySem.Spec PyProof.Rows H1
section
variable {X:Cx} {pos:Pos}
def ZHX (i j l:Nat) (a:DA):DS:=λ sd g=>(a sd g).bind λ p=>match p.1 with | [x,y,z]=>some (.nx (((sd.set l (some z)).set j (some y)).set i (some x)) p.2) | _=>none
theorem ZOs {i j l:Nat} {aa:DA} {D:Ends} {σ : St} {H:Hp} (h:tS X.K (ZHX i j l aa) D σ H):ZQB i j l (tA X.K aa) D σ H:=by
 obtain ⟨ρ,sd,g,oo,r,e,q⟩:=h
 obtain ⟨⟨ws,g1⟩,e1,e⟩:=bnd e
 refine ⟨ρ,sd,g,ws,g1,r,e1,λ vs H1 ρ1 s1 h1 r1=>?_⟩
 cases r1 with
 | nil=>cases e
 | cons a t =>
  cases t with
  | nil=>cases e
  | cons b t =>
   cases t with
   | nil=>cases e
   | cons c t =>
    cases t with
    | nil=>cases e; exact ⟨_,_,_,rfl,q _ H1 ρ1 s1 ((((r.step s1 h1).set c l).set b j).set a i)⟩
    | cons _ _=>cases e
theorem ZJL {i j l:Nat} {x y z:Str} {a b c:Expr} {aa:DA} {px py pz pt:Pos} {kt k2 pt2} (hc:X.calm=true) (hN:X.N.Nodup) (hi:X.N[i]? = some x) (hj:X.N[j]? = some y) (hl:X.N[l]? = some z)
  (hx:X.env.scope.names.lookup x=some .local) (hy:X.env.scope.names.lookup y=some .local) (hz:X.env.scope.names.lookup z=some .local) (ha:JA X [a,b,c] aa)
  (hw:swappedStores [.Tuple [.Name x px,.Name y py,.Name z pz] kt pt] (.Tuple [a,b,c] k2 pt2) X.env=pure (some [x,y,z]):=by rfl)
  (hs:swapsWithSole [.Tuple [.Name x px,.Name y py,.Name z pz] kt pt] (.Tuple [a,b,c] k2 pt2) pos.line X.env=pure false:=by rfl) :
  JS X (.Assign [.Tuple [.Name x px,.Name y py,.Name z pz] kt pt] (.Tuple [a,b,c] k2 pt2) pos) (ZHX i j l aa):=⟨(ZO5 hc hN hi hj hl hx hy hz ha.h hw hs).imp λ _ _ _ h=>ZOs h⟩
theorem ZP4 {i j:Nat} {x y:Str} {a b:Expr} {aa:DA} {px py pt:Pos} {kt k2 pt2} (hc:X.calm=true) (hN:X.N.Nodup) (hi:X.N[i]? = some x) (hj:X.N[j]? = some y) (hij:i ≠ j)
  (hx:X.env.scope.names.lookup x=some .local) (hy:X.env.scope.names.lookup y=some .local) (ha:JA X [a,b] aa)
  (hw:swappedStores [.Tuple [.Name x px,.Name y py] kt pt] (.Tuple [a,b] k2 pt2) X.env=pure (some [x,y]))
  (hs:swapsWithSole [.Tuple [.Name x px,.Name y py] kt pt] (.Tuple [a,b] k2 pt2) pos.line X.env=pure false:=by rfl) :
  JS X (.Assign [.Tuple [.Name x px,.Name y py] kt pt] (.Tuple [a,b] k2 pt2) pos) (ZNr i j aa):=⟨(ZRV hc hN hi hj hij hx hy ha.h hw hs).imp λ _ _ _ h=>ZRi h⟩
end
section
variable {sd:Sd} {g:G} {aa:DA} {PS':Out->Prop}
theorem ZM7 {i j l:Nat} (h:EvP (aa sd g) λ ws g1=>∃ x y z,ws=[x,y,z]/\PS' (.nx (((sd.set l (some z)).set j (some y)).set i (some x)) g1)):EvS (ZHX i j l aa sd g) PS':=by
 obtain ⟨ws,g1,e1,x,y,z,rfl,h⟩:=h
 exact ⟨_,by unfold ZHX; rw [e1]; rfl,h⟩
theorem ZQC {i j:Nat} (h:EvP (aa sd g) λ ws g1=>∃ x y,ws=[x,y]/\PS' (.nx ((sd.set i (some x)).set j (some y)) g1)):EvS (ZNr i j aa sd g) PS':=by
 obtain ⟨ws,g1,e1,x,y,rfl,h⟩:=h
 exact ⟨_,by unfold ZNr; rw [e1]; rfl,h⟩
end
end L2
namespace L2
open PySem PySem.Spec PyProof.Rows H1
structure Kls (K:PySem.W.Frag) (mg:Str->Option Value) (c:CD) (C:Addr):Prop where
 ns:PySem.W.nsIn K mainGlobals c.nm=some (some (.ref C))
 mg_:mg c.nm=some (.ref C)
 cl:Cls K C
 nd:c.fs.Nodup
 na:∀ f ∈ c.fs,ZDn K C f
structure MDef (K:PySem.W.Frag) (C:Addr) (x qual:Str) (st:Stmt) (ps:List Str) (f:Addr) (fd:FuncData):Prop where
 me:Meth K C x f
 fn:Fun K x qual st f fd
 bd:ZEN K fd ps []
section
variable {K:PySem.W.Frag} {ρ : Rh} {H:Hp}
theorem RelF.look:∀ {ns:List Str} {vs:List (Str × V)} {ws:List W} {i:Nat} {f:Str} {w:W},ns.Nodup->RelF K ρ H ns vs ws->ns[i]? = some f->ws[i]? = some w->∃ v,vs.lookup f=some v/\Rel K ρ H v w
 | _,_,_,_,_,_,_,.nil,_,e=>by simp at e
 | _,_,_,0,_,_,_,.cons (v:=v) h t,e1,e2=>by
  cases e1
  cases e2
  exact ⟨v,by simp [List.lookup],h⟩
 | f0 :: ns,_,_,i+1,f,w,nd,.cons (v:=v) h t,e1,e2=>by
  rw [List.nodup_cons] at nd
  have e1':ns[i]? = some f:=by simpa using e1
  obtain ⟨v,h1,h2⟩:=RelF.look nd.2 t e1' (by simpa using e2)
  have hne:(f == f0)=false:=beq_eq_false_iff_ne.mpr λ z=>nd.1 (by rw [← z]; exact List.mem_of_getElem? e1')
  exact ⟨v,by rw [List.lookup,hne]; exact h1,h2⟩
theorem RelF.no:∀ {ns:List Str} {vs:List (Str × V)} {ws:List W} {m:Str},RelF K ρ H ns vs ws->m ∉ ns->vs.lookup m=none
 | _,_,_,_,.nil,_=>rfl
 | f0 :: ns,_,_,m,.cons h t,hn=>by
  have hne:(m == f0)=false:=beq_eq_false_iff_ne.mpr λ z=>hn (by rw [z]; exact List.mem_cons_self ..)
  rw [List.lookup,hne]
  exact t.no λ z=>hn (List.mem_cons_of_mem _ z)
theorem RelF.len:∀ {ns:List Str} {vs:List (Str × V)} {ws:List W},RelF K ρ H ns vs ws->vs.length=ws.length
 | _,_,_,.nil=>rfl
 | _,_,_,.cons h t=>by rw [List.length_cons,List.length_cons,t.len]
theorem RelF.set {v:V} {w:W} (r:Rel K ρ H v w):∀ {ns:List Str} {vs:List (Str × V)} {ws:List W} {i:Nat} {f:Str},ns.Nodup->RelF K ρ H ns vs ws->ns[i]? = some f->i < ws.length->RelF K ρ H ns (ZC7 f v vs) (ws.set i w)
 | _,_,_,_,_,_,.nil,_,e=>by simp at e
 | f0 :: ns,_,_,0,_,_,.cons h t,e1,e2=>by
  cases e1
  show RelF K ρ H _ (if f0=f0 then _ else _) _
  rw [if_pos rfl]
  exact .cons r t
 | f0 :: ns,_,_,i+1,f,nd,.cons (v:=v0) (vs:=vs) h t,e1,e2=>by
  rw [List.nodup_cons] at nd
  have e1':ns[i]? = some f:=by simpa using e1
  have hne : ¬ f0=f:=λ z=>nd.1 (by rw [z]; exact List.mem_of_getElem? e1')
  show RelF K ρ H _ (if f0=f then _ else _) _
  rw [if_neg hne]
  exact .cons h (RelF.set r nd.2 t e1' (by simpa using e2))
theorem RelF.snoc {v:V} {w:W} (r:Rel K ρ H v w):∀ {ns:List Str} {vs:List (Str × V)} {ws:List W} {f:Str},ns.Nodup->RelF K ρ H ns vs ws->ns[ws.length]? = some f->RelF K ρ H ns (ZC7 f v vs) (ws ++ [w])
 | [],_,_,_,_,.nil,e=>by simp at e
 | f0 :: ns,_,_,_,_,.nil,e=>by
  cases e
  exact .cons r .nil
 | f0 :: ns,_,_,f,nd,.cons (v:=v0) (vs:=vs) (xs:=xs) h t,e1=>by
  rw [List.nodup_cons] at nd
  have e1':ns[xs.length]? = some f:=by simpa using e1
  have hne : ¬ f0=f:=λ z=>nd.1 (by rw [z]; exact List.mem_of_getElem? e1')
  show RelF K ρ H _ (if f0=f then _ else _) _
  rw [if_neg hne]
  exact .cons h (RelF.snoc r nd.2 t e1')
end
open Classical in
noncomputable def ZHN (c:CD) (w:W) (g:G):Option (List W):=match w with
 | .ref n=>match g[n]? with
  | some (.ob c' ws)=>if c'=c then some ws else none
  | _=>none
 | _=>none
theorem ZIU {c:CD} {n:Nat} {g:G} {ws:List W} (h:g[n]? = some (.ob c ws)):ZHN c (.ref n) g=some ws:=by
 unfold ZHN
 dsimp only
 rw [h]
 exact if_pos rfl
theorem ZGJ {K:PySem.W.Frag} {ρ : Rh} {H:Hp} {c:CD} {w:W} {g:G} {ws:List W} {v:V} (h:ZHN c w g=some ws) (hR:HR K ρ H g) (r:Rel K ρ H v w):∃ n a C dx vs,w=.ref n/\ρ.c[n]? = some a/\g[n]? = some (.ob c ws)/\v=.ref a/\PySem.W.nsIn K mainGlobals c.nm=some (some (.ref C))/\H a=some (.ins C dx vs)/\RelF K ρ H c.fs vs ws:=by
 unfold ZHN at h
 cases w with
 | ref n =>
  dsimp only at h
  split at h
  ·rename_i c' ws' e
   split at h
   ·rename_i ec
    cases h
    subst ec
    cases r with
    | ref hn =>
     obtain ⟨b,h1,C,dx,vs,h2,h3,h4⟩:=hR.ce _ _ e
     rw [hn] at h1
     cases h1
     exact ⟨n,_,C,dx,vs,rfl,hn,e,rfl,h2,h3,h4⟩
   ·cases h
  ·cases h
 | _=>cases h
section
variable {X:Cx} {pos:Pos}
noncomputable def ZBT (c:CD) (i:Nat) (d:DE):DE:=λ sd g=>(d sd g).bind λ p=>(ZHN c p.1 p.2).bind λ ws=>(ws[i]?).map λ w=>(w,p.2)
theorem ZRe {o:Expr} {c:CD} {C:Addr} {i:Nat} {f:Str} {d:DE} (k:Kls X.K X.mg c C) (hf:c.fs[i]? = some f) (ho:PE X o (tE X.K d)) (hb:attributeBase o f X.env (eval o X.env)=eval o X.env:=by rfl) :
  PE X (.Attribute o f pos) (tE X.K (ZBT c i d)):=(ZRt ho hb).imp λ σ H Q ⟨ρ,sd,g,x,g',r,e,q⟩=>by
 obtain ⟨⟨y,g1⟩,e1,e⟩:=bnd e
 obtain ⟨ws,e2,e⟩:=bnd e
 obtain ⟨w,e3,e⟩:=mp e
 cases e
 refine ⟨ρ,sd,g,y,g1,r,e1,λ v H1 ρ1 s1 h1 r1=>?_⟩
 obtain ⟨n,a,C',dx,vs,rfl,hn,hg,rfl,hC,ha,hF⟩:=ZGJ e2 h1 r1
 rw [k.ns] at hC
 cases hC
 obtain ⟨u,l1,l2⟩:=hF.look k.nd hf e3
 exact ⟨a,C,dx,vs,u,rfl,ha,k.cl,k.na f (List.mem_of_getElem? hf),l1,q u H1 ρ1 s1 h1 l2⟩
theorem ZAC {o:Expr} {c:CD} {C:Addr} {i:Nat} {f:Str} {d:DE} (k:Kls X.K X.mg c C) (hf:c.fs[i]? = some f) (ho:JE X o d) (hb:attributeBase o f X.env (eval o X.env)=eval o X.env:=by rfl):JE X (.Attribute o f pos) (ZBT c i d):=⟨ZRe k hf ho.h hb⟩
def ZOr (i:Nat) (w:W) (ws:List W):Option (List W):=if i < ws.length then some (ws.set i w) else if i=ws.length then some (ws ++ [w]) else none
noncomputable def ZCn (c:CD) (i:Nat) (dobj d:DE):DS:=λ sd g=>(d sd g).bind λ v=>(dobj sd v.2).bind λ o=>(ZHN c o.1 o.2).bind λ ws=>match o.1 with
 | .ref n=>if ws.length < 1000 then (ZOr i v.1 ws).map λ us=>.nx sd (o.2.set n (.ob c us)) else none
 | _=>none
theorem ZRA {o e:Expr} {c:CD} {C:Addr} {i:Nat} {f:Str} {dobj d:DE} {pos':Pos} (k:Kls X.K X.mg c C) (hf:c.fs[i]? = some f) (ho:PE X o (tE X.K dobj)) (he:PE X e (tE X.K d)) (hs:swapsWith e (some (.Attribute o f pos')) pos.line X.env=pure false:=by rfl) :
  PS X (.Assign [.Attribute o f pos'] e pos) (tS X.K (ZCn c i dobj d)):=(ZRD ho he hs).imp λ D σ H ⟨ρ,sd,g,oo,r,e,q⟩=>by
 obtain ⟨⟨y,g1⟩,e1,e⟩:=bnd e
 obtain ⟨⟨z,g2⟩,e2,e⟩:=bnd e
 obtain ⟨ws,e3,e⟩:=bnd e
 refine ⟨ρ,sd,g,y,g1,r,e1,λ v H1 ρ1 s1 h1 r1=>⟨ρ1,sd,g1,z,g2,r.step s1 h1,e2,λ u H2 ρ2 s2 h2 r2=>?_⟩⟩
 obtain ⟨n,a,C',dx,vs,rfl,hn,hg,rfl,hC,ha,hF⟩:=ZGJ e3 h2 r2
 rw [k.ns] at hC
 cases hC
 dsimp only at e
 split at e
 ·rename_i hz
  obtain ⟨us,e4,e⟩:=mp e
  cases e
  have r1':=r1.mono s2
  have hF2:RelF X.K ρ2 H2 c.fs (ZC7 f v vs) us:=by
   unfold ZOr at e4
   split at e4
   ·rename_i hi
    cases e4
    exact hF.set r1' k.nd hf hi
   ·split at e4
    ·rename_i hi
     cases e4
     subst hi
     exact hF.snoc r1' k.nd hf
    ·cases e4
  obtain ⟨hw,sw⟩:=h2.writeC hn (o:=.ins C dx (ZC7 f v vs)) (c:=.ob c us) (λ u e=>by rw [ha] at e; cases e; rfl) (λ s=>⟨C,dx,_,k.ns,Zt,hF2.mono s⟩)
  exact ⟨a,C,dx,vs,rfl,ha,k.cl,k.na f (List.mem_of_getElem? hf),by rw [hF.len]; exact hz,q σ _ ρ2 (s1.trans (s2.trans sw)) (r.step (s1.trans (s2.trans sw)) hw)⟩
 ·cases e
theorem ZCO {o e:Expr} {c:CD} {C:Addr} {i:Nat} {f:Str} {dobj d:DE} {pos':Pos} (k:Kls X.K X.mg c C) (hf:c.fs[i]? = some f) (ho:JE X o dobj) (he:JE X e d) (hs:swapsWith e (some (.Attribute o f pos')) pos.line X.env=pure false:=by rfl) :
  JS X (.Assign [.Attribute o f pos'] e pos) (ZCn c i dobj d):=⟨ZRA k hf ho.h he.h hs⟩
noncomputable def ZFf (c:CD) (fn:List W->G->Option (W × G)) (dobj:DE) (aa:DA):DE:=λ sd g=>(dobj sd g).bind λ o=>(ZHN c o.1 o.2).bind λ _=>(aa sd o.2).bind λ p=>fn (o.1 :: p.1) p.2
theorem ZO7 {o e:Expr} {es:List Expr} {c:CD} {C:Addr} {m qual:Str} {st:Stmt} {ps:List Str} {f:Addr} {fd:FuncData} {k n:Nat} {fn:List W->G->Option (W × G)} {dobj:DE} {aa:DA} {apos:Pos} {pl:Sem Bool} (kl:Kls X.K X.mg c C) (D:MDef X.K C m qual st ps f fd) (F:FnOk X.prog X.w X.K X.mg X.base CX0 k f fd ps (spD X.K (n+1) fn)) (hr:Room k X.A) (hm:m ∉ c.fs)
  (ho:PE X o (tE X.K dobj)) (ha:PA X (e :: es) (tA X.K aa)) (hn:Many aa n) (hst:starEach (e :: es) X.env=(false,eval e X.env) :: starEach es X.env:=by rfl) (hpl:(backTo pos (starEach es X.env)).any (·.1)=false:=by rfl)
  (ht:eval (.Call (.Attribute o m apos) (e :: es) [] pos) X.env=(do
   let ov ← eval o X.env
   standAt apos.atName
   let (f,first) ← holding [ov] (getMethod ov m pl)
   callWith pos f first (backTo pos (starEach (e :: es) X.env)) (backToKw pos (keywordEach [] X.env))):=by rfl) :
  PE X (.Call (.Attribute o m apos) (e :: es) [] pos) (tE X.K (ZFf c fn dobj aa)):=(ZOp (pl:=pl) ho kl.cl D.me F hr D.bd .nil ZMx ha hst hpl ht).imp λ σ H Q ⟨ρ,sd,g,x,g',r,e,q⟩=>by
 obtain ⟨⟨y,g1⟩,e1,e⟩:=bnd e
 obtain ⟨ws,e2,e⟩:=bnd e
 obtain ⟨⟨us,g2⟩,e3,e⟩:=bnd e
 refine ⟨ρ,sd,g,y,g1,r,e1,λ v H1 ρ1 s1 h1 r1=>?_⟩
 obtain ⟨n',a,C',dx,vs,rfl,hn',hg,rfl,hC,ha,hF⟩:=ZGJ e2 h1 r1
 rw [kl.ns] at hC
 cases hC
 refine ⟨a,dx,vs,rfl,ha,hF.no hm,ρ1,sd,g1,us,g2,r.step s1 h1,e3,λ vs2 H2 ρ2 s2 h2 r2=>?_⟩
 show spD X.K (n+1) fn (V.ref a :: (vs2 ++ [])) H2 Q E0
 rw [List.append_nil]
 exact ⟨by rw [List.length_cons,r2.length,hn.len e3],ρ2,_,g2,x,g',h2,.cons (r1.mono s2) r2,e,q.step (s1.trans s2)⟩
theorem ZJY {o e:Expr} {es:List Expr} {c:CD} {C:Addr} {m qual:Str} {st:Stmt} {ps:List Str} {f:Addr} {fd:FuncData} {k n:Nat} {fn:List W->G->Option (W × G)} {dobj:DE} {aa:DA} {apos:Pos} {pl:Sem Bool} (kl:Kls X.K X.mg c C) (D:MDef X.K C m qual st ps f fd) (F:FnOk X.prog X.w X.K X.mg X.base CX0 k f fd ps (spD X.K (n+1) fn)) (hr:Room k X.A) (hm:m ∉ c.fs)
  (ho:JE X o dobj) (ha:JA X (e :: es) aa) (hn:Many aa n) (hst:starEach (e :: es) X.env=(false,eval e X.env) :: starEach es X.env:=by rfl) (hpl:(backTo pos (starEach es X.env)).any (·.1)=false:=by rfl)
  (ht:eval (.Call (.Attribute o m apos) (e :: es) [] pos) X.env=(do
   let ov ← eval o X.env
   standAt apos.atName
   let (f,first) ← holding [ov] (getMethod ov m pl)
   callWith pos f first (backTo pos (starEach (e :: es) X.env)) (backToKw pos (keywordEach [] X.env))):=by rfl) :
  JE X (.Call (.Attribute o m apos) (e :: es) [] pos) (ZFf c fn dobj aa):=⟨ZO7 (pl:=pl) kl D F hr hm ho.h ha.h hn hst hpl ht⟩
def ZJa (c:CD) (fn:List W->G->Option (W × G)) (aa:DA):DE:=λ sd g=>(aa sd g).bind λ p=>(fn (.ref p.2.length :: p.1) (p.2 ++ [.ob c []])).bind λ z=>match z.1 with
 | .dat .none=>some (.ref p.2.length,z.2)
 | _=>none
theorem ZOc {x:Str} {p:Pos} {e:Expr} {es:List Expr} {c:CD} {C:Addr} {qual:Str} {st:Stmt} {ps:List Str} {f:Addr} {fd:FuncData} {k n:Nat} {fn:List W->G->Option (W × G)} {aa:DA} (kl:Kls X.K X.mg c C) (hx:x=c.nm) (M:Mk X.K C f) (D:MDef X.K C "__init__" qual st ps f fd) (F:FnOk X.prog X.w X.K X.mg X.base CX0 k f fd ps (spD X.K (n+1) fn)) (hr:Room (k+1) X.A)
  (ha:PA X (e :: es) (tA X.K aa)) (hn:Many aa n) (hg:Gl X x:=by rfl) (hdb:(x == ("__debug__" : Str))=false:=by decide) (he:starEach (e :: es) X.env=(false,eval e X.env) :: starEach es X.env:=by rfl) (hpl:(backTo pos (starEach es X.env)).any (·.1)=false:=by rfl) :
  PE X (.Call (.Name x p) (e :: es) [] pos) (tE X.K (ZJa c fn aa)):=(ZPE M F hr hg (by rw [hx]; exact kl.mg_) D.bd .nil ZMx ha hdb he hpl).imp λ σ H Q ⟨ρ,sd,g,z,g',r,e,q⟩=>by
 obtain ⟨⟨ws,g1⟩,e1,e⟩:=bnd e
 obtain ⟨⟨z2,g2⟩,e2,e⟩:=bnd e
 refine ⟨ρ,sd,g,ws,g1,r,e1,λ vs H1 ρ1 s1 h1 r1=>?_⟩
 intro a dx na ndx ne
 obtain ⟨sm,hr2,hnm⟩:=ZC4 (o:=.own a) h1 ndx
 have s2:Stp ρ1 H1 ρ1 (upd H1 dx (.own a)):=.same sm
 obtain ⟨hr3,s3⟩:=hr2.allocC (p:=a) (by rw [Zb (Ne.symm ne)]; exact na) (o:=.ins C dx []) (c:=.ob c []) λ s=>⟨C,dx,[],kl.ns,Zt,.nil⟩
 have r1':=(r1.mono s2).mono s3
 show spD X.K (n+1) fn (V.ref a :: (vs ++ [])) _ _ E0
 rw [List.append_nil]
 have ha':(ρ1.add a).c[g1.length]? = some a:=by show (ρ1.c ++ [a])[_]? = _; rw [← h1.len]; simp
 refine ⟨by rw [List.length_cons,r1.length,hn.len e1],ρ1.add a,_,_,z2,g2,hr3,.cons (.ref ha') r1',e2,λ v H4 ρ4 s4 h4 r4=>?_⟩
 cases r4 with
 | dat r4 =>
  cases r4 with
  | non =>
   cases e
   exact ⟨rfl,q _ H4 ρ4 (s1.trans (s2.trans (s3.trans s4))) h4 (.ref (ZDy s4 ha'))⟩
  | _=>cases e
 | _=>cases e
theorem ZOF {x:Str} {p:Pos} {e:Expr} {es:List Expr} {c:CD} {C:Addr} {qual:Str} {st:Stmt} {ps:List Str} {f:Addr} {fd:FuncData} {k n:Nat} {fn:List W->G->Option (W × G)} {aa:DA} (kl:Kls X.K X.mg c C) (hx:x=c.nm) (M:Mk X.K C f) (D:MDef X.K C "__init__" qual st ps f fd) (F:FnOk X.prog X.w X.K X.mg X.base CX0 k f fd ps (spD X.K (n+1) fn)) (hr:Room (k+1) X.A)
  (ha:JA X (e :: es) aa) (hn:Many aa n) (hg:Gl X x:=by rfl) (hdb:(x == ("__debug__" : Str))=false:=by decide) (he:starEach (e :: es) X.env=(false,eval e X.env) :: starEach es X.env:=by rfl) (hpl:(backTo pos (starEach es X.env)).any (·.1)=false:=by rfl) :
  JE X (.Call (.Name x p) (e :: es) [] pos) (ZJa c fn aa):=⟨ZOc kl hx M D F hr ha.h hn hg hdb he hpl⟩
def ZRO:DS:=λ _ _=>none
theorem ZPj {st:Stmt}:JS X st ZRO:=⟨λ pins s σ H D I h=>by obtain ⟨_,_,_,_,_,e,_⟩:=h; cases e⟩
end
section
variable {sd:Sd} {g:G} {P:W->G->Prop} {PS':Out->Prop} {d dobj:DE} {aa:DA} {c:CD}
theorem ZQT {i:Nat} (h:EvP (d sd g) λ x g1=>∃ n ws w,x=.ref n/\g1[n]? = some (.ob c ws)/\ws[i]? = some w/\P w g1):EvP (ZBT c i d sd g) P:=by
 obtain ⟨x,g1,e1,n,ws,w,rfl,e2,e3,h⟩:=h
 refine ⟨w,g1,?_,h⟩
 unfold ZBT
 rw [e1]
 show (ZHN c (.ref n) g1).bind _=_
 rw [ZIU e2]
 show (ws[i]?).map _=_
 rw [e3]
 rfl
theorem ZMW {i:Nat} (h:EvP (d sd g) λ v g1=>EvP (dobj sd g1) λ x g2=>∃ n ws us,x=.ref n/\g2[n]? = some (.ob c ws)/\ws.length < 1000/\ZOr i v ws=some us/\PS' (.nx sd (g2.set n (.ob c us)))):EvS (ZCn c i dobj d sd g) PS':=by
 obtain ⟨v,g1,e1,x,g2,e2,n,ws,us,rfl,e3,hz,e4,h⟩:=h
 refine ⟨_,?_,h⟩
 unfold ZCn
 rw [e1]
 show (dobj sd g1).bind _=_
 rw [e2]
 show (ZHN c (.ref n) g2).bind _=_
 rw [ZIU e3]
 show (if ws.length < 1000 then _ else _)=_
 rw [if_pos hz]
 show (ZOr i v ws).map _=_
 rw [e4]
 rfl
theorem ZNU {fn:List W->G->Option (W × G)} (h:EvP (dobj sd g) λ x g1=>∃ n ws,x=.ref n/\g1[n]? = some (.ob c ws)/\EvP (aa sd g1) λ vs g2=>EvP (fn (.ref n :: vs) g2) P):EvP (ZFf c fn dobj aa sd g) P:=by
 obtain ⟨x,g1,e1,n,ws,rfl,e2,vs,g2,e3,y,g3,e4,h⟩:=h
 refine ⟨y,g3,?_,h⟩
 unfold ZFf
 rw [e1]
 show (ZHN c (.ref n) g1).bind _=_
 rw [ZIU e2]
 show (aa sd g1).bind _=_
 rw [e3]
 exact e4
theorem ZNX {fn:List W->G->Option (W × G)} (h:EvP (aa sd g) λ vs g1=>EvP (fn (.ref g1.length :: vs) (g1 ++ [.ob c []])) λ z g2=>z=.dat .none/\P (.ref g1.length) g2):EvP (ZJa c fn aa sd g) P:=by
 obtain ⟨vs,g1,e1,z,g2,e2,rfl,h⟩:=h
 refine ⟨_,g2,?_,h⟩
 unfold ZJa
 rw [e1]
 show (fn _ _).bind _=_
 rw [e2]
 rfl
end
end L2
namespace L2
open PySem PySem.Spec PyProof.Rows H1
theorem ZGs {M:Model} {A:Around} {E:Value->Shared->Prop} {s:Shared} {a b:Value} {T id:String} {Q:Value->Shared->Prop} (ha:s.TypeIs a T) (hb:s.TypeIs b T)
  (hI:typeLookup (.type T) (dunderI "add")=pure (some (.builtin id))) (hS:isSeqSlot (some (.builtin id))=true) (hfill:fillsNumberSlot (.type T) "add" = pure false)
  (hc:wpAny M A (call (.builtin id) [a,b]) Q E s):wpAny M A (inplaceOp .Add a b) Q E s:=by
 unfold inplaceOp
 refine wpAny_holding ?_
 have hfi:fillsInplaceSlot (.type T) "add" (Operator.Add == .Add)=pure false:=by
  unfold fillsInplaceSlot
  show (typeLookup (.type T) (dunderI "add") >>= λ fi=>pure (fi.isSome && !isSeqSlot fi))=pure false
  rw [hI,pure_bind,hS]
  rfl
 have hsi:seqSlot? (.type T) (dunderI "add")=pure (some (.builtin id)):=PySem.seqSlot_of hI hS
 refine wpAny_bind (wpAny_typeOf ha (wpAny_bind (wpAny_of_eq hfi ?_)))
 show wpAny M A (if false=true then _ else _) Q E s
 rw [if_neg Bool.false_ne_true]
 refine wpAny_bind (wpAny_binaryOp1_none (nm:="add") ha hb hfill ?_)
 refine wpAny_bind (wpAny_of_eq hsi ?_)
 exact wpAny_bind (wpAny_rule hc)
section
variable {X:Cx}
def ipExt:TIp:=λ x y H Q=>∃ l b xs zs,x=.ref l/\y=.ref b/\H l=some (.lst xs)/\H b=some (.lst zs)/\xs.length+zs.length<=sizeLine/\Q (.ref l) (upd H l (.lst (xs ++ zs)))
theorem ZRZ:PIp X .Add ipExt:=by
 intro pins s σ H x y v u Q I rx ry h
 obtain ⟨l,b,xs,zs,rfl,rfl,hH,hB,hz,q⟩:=h
 cases rx
 cases ry
 obtain ⟨z,its,n,r,hl,e⟩:=I.lstM hH
 obtain ⟨z2,its2,n2,r2,hl2,e2⟩:=I.lstM hB
 have hsz:its.toArray.size+its2.toArray.size<=sizeLine:=by rw [List.size_toArray,List.size_toArray]; omega
 have hlong : ¬ (!its.toArray.isEmpty && Builtin.List.listTooLong (its.toArray.size+its2.toArray.size))=true:=by
  rw [ZJR hsz,Bool.and_false]
  exact Bool.false_ne_true
 refine ZGs (T:="list") ⟨_,e,rfl⟩ ⟨_,e2,rfl⟩ F.slot_list_iadd.lookup (by decide +kernel) PySem.noFill_list_add ?_
 refine call_meets F.slot_list_iadd ⟨_,e,rfl⟩ F.entry_list_iadd (F.args_list_iadd_2 _ _)
  (AutoSeq1.list___iadd___list_list_0 l its.toArray n b its2.toArray n2 hlong (by rw [List.size_toArray]; omega) (by omega)) ⟨e,e2,?_⟩
 refine ⟨.ref l,_,I.lset (its':=its ++ its2) hH e (by simp) (r.append r2) ?_,rfl,q⟩
 rw [List.length_append]
 omega
def ZHz (i:Nat) (d:DE):DS:=λ sd g=>match sd.getD i none with
 | some (.ref n)=>(d sd g).bind λ p=>match p.1 with
  | .dat (.list es)=>(lk p.2 n).bind λ ds=>if ds.length+es.length<=1000 then some (.nx (sd.set i (some (.ref n))) (p.2.set n (.pl (ds ++ es)))) else none
  | _=>none
 | _=>none
theorem ZPo {i:Nat} {x:Str} {e:Expr} {d:DE} {pos pos':Pos} (hN:X.N.Nodup) (hi:X.N[i]? = some x) (hx:Loc X.env.scope x) (he:PE X e (tE X.K d)) (hf:X.fn x=true ∨ X.env.scope.names.lookup x=some .local:=by first | exact .inl rfl | exact .inr rfl | assumption) :
  PS X (.AugAssign (.Name x pos') .Add e pos) (tS X.K (ZHz i d)):=(ZMi hN hi hx he ZRZ hf).imp λ D σ H ⟨ρ,sd,g,oo,r,e,q⟩=>by
 unfold ZHz at e
 cases h:sd.getD i none with
 | none=>rw [h] at e; cases e
 | some w =>
  rw [h] at e
  have h':sd[i]? = some (some w):=by
   rw [List.getD_eq_getElem?_getD] at h
   cases k:sd[i]? with
   | none=>rw [k] at h; cases h
   | some w=>rw [k] at h; exact congrArg some h
  obtain ⟨v,h1,h2⟩:=r.env i w h'
  refine ⟨v,h1,?_⟩
  cases h2 with
  | @ref a n hn =>
   obtain ⟨⟨y,g1⟩,e1,e⟩:=bnd e
   refine ⟨ρ,sd,g,y,g1,r,e1,λ v H1 ρ1 s1 h1 r1=>?_⟩
   cases r1 with
   | dat r1 =>
    cases r1 with
    | @lst b vs ds hb nb t =>
     obtain ⟨es,e2,e⟩:=bnd e
     dsimp only at e
     split at e
     ·rename_i hz
      cases e
      obtain ⟨a',us,k1,k2,k3⟩:=h1.at_ _ _ (ZF2 e2)
      have hn2:=ZDy s1 hn
      rw [hn2] at k1
      cases k1
      obtain ⟨hw,sw⟩:=h1.write hn2 k2 (k3.append t)
      exact ⟨_,_,us,vs,rfl,rfl,k2,hb,by rw [k3.length,t.length]; exact Nat.le_of_lt (Z7 hz),q _ _ ρ1 (s1.trans sw) ((r.step (s1.trans sw) hw).set (.ref hn2) i)⟩
     ·cases e
    | _=>cases e
   | _=>cases e
  | _=>cases e
theorem ZNS {i:Nat} {x:Str} {e:Expr} {d:DE} {pos pos':Pos} (hN:X.N.Nodup) (hi:X.N[i]? = some x) (hx:Loc X.env.scope x) (he:JE X e d) (hf:X.fn x=true ∨ X.env.scope.names.lookup x=some .local:=by first | exact .inl rfl | exact .inr rfl | assumption) :
  JS X (.AugAssign (.Name x pos') .Add e pos) (ZHz i d):=⟨ZPo hN hi hx he.h hf⟩
end
theorem ZQ9 {sd:Sd} {g:G} {PS':Out->Prop} {d:DE} {i n:Nat} (hi:sd.getD i none=some (.ref n)) (h:EvP (d sd g) λ x g1=>∃ es,x=.dat (.list es)/\∃ ds,g1[n]? = some (.pl ds)/\ds.length+es.length<=1000/\PS' (.nx (sd.set i (some (.ref n))) (g1.set n (.pl (ds ++ es))))):EvS (ZHz i d sd g) PS':=by
 obtain ⟨x,g1,e1,es,rfl,ds,e2,hz,h⟩:=h
 refine ⟨_,?_,h⟩
 unfold ZHz
 rw [hi]
 show (d sd g).bind _=_
 rw [e1]
 show (lk g1 n).bind _=_
 rw [ZJA e2]
 exact if_pos hz
end L2
namespace L2
open PySem PySem.Spec PyProof.Rows H1
def ZQJ:W->Bool
 | .dat .none=>true
 | _=>false
def ZQH:W->W->G->Option (W × G)
 | x,.dat .none,g=>some (.dat (.bool (ZQJ x)),g)
 | _,_,_=>none
theorem ZLr {K:PySem.W.Frag} {ρ : Rh} {H:Hp} {x:V} {w:W} {v:Value} (r:Rel K ρ H x w) (rx:Z9 x v):(v == Value.none)=ZQJ w:=by
 cases r with
 | dat r =>
  cases r with
  | non=>cases rx; rfl
  | bl b=>cases rx; rfl
  | int i=>obtain ⟨t,rfl⟩:=rx; rfl
  | str i=>obtain ⟨t,rfl⟩:=rx; rfl
  | tup _ _=>cases rx; rfl
  | lst _ _ _=>cases rx; rfl
  | dct _ _=>cases rx; rfl
 | ref _=>cases rx; rfl
 | inp _=>cases rx; rfl
 | ty=>cases rx; rfl
 | tup _ _=>cases rx; rfl
section
variable {X:Cx}
theorem oIsN:OpR X (compareOp .Is) (rOp X.K ZQH):=by
 intro pins s σ H x y v u Q I rx ry h
 obtain ⟨ρ,a,b,g,z,g',hR,ra,rb,e,q⟩:=h
 cases rb with
 | dat rb =>
  cases rb with
  | non =>
   cases e
   cases ry
   exact is_none_gen ⟨.bl _,H,I,by rw [ZLr ra rx]; rfl,q.at hR (.dat (.bl _))⟩
  | _=>cases e
 | _=>cases e
end
end L2
namespace L2
open PySem PySem.Spec PyProof.Rows H1
def H0:Hs:=(0,[],[],[])
structure En where
 r:Ru
 ts:List (Int × Int)
 tn:Int
 lo:List Int
abbrev Lt:=Int × Int × Bool
def ltD (l:Lt):PyData:=.tuple [.int l.1,.int l.2.1,.bool l.2.2]
structure Rw where
 hs:List Hs
 le:List Lt
def abF (b:List (Int × Int)) (h:Nat):Bool:=decide ((b.getD h (0,0)).2 < 2)
section
variable (e:En)
def ZOQ (x y:Nat):List Int:=ZBp e.r.cl x y (ZDb (e.ts.getD x (0,0)) e.tn % ((e.ts.length:Nat):Int))
def ZLa (h:Hs) (x y:Nat):List Int:=ZE1 e.r h.2.2.1 x (ZOQ e x y)
def ZDv (x y:Nat) (hs:List Hs):List Hs:=hs.set x ((hs.getD x H0).1,(hs.getD x H0).2.1,ZBJ (hs.getD x H0).2.2.1 (ZLa e (hs.getD x H0) x y),(hs.getD x H0).2.2.2)
def ZEp (x y:Nat) (hs:List Hs):List Hs:=(ZDv e x y hs).set y (ZCE e.r.cl y (hs.getD y H0) (ZEo (hs.getD x H0).2.1 (ZOQ e x y) (ZLa e (hs.getD x H0) x y) e.ts.length))
def ZBD (x y:Nat) (R:Rw):Bool × Rw :=
 if e.lo.contains (R.le.length:Int)=true then (false,⟨ZDv e x y R.hs,R.le ++ [((x:Int),(y:Int),true)]⟩)
 else if (R.hs.getD y H0).1=0 then (false,⟨ZDv e x y R.hs,R.le ++ [((x:Int),(y:Int),false)]⟩)
 else (true,⟨ZEp e x y R.hs,R.le ++ [((x:Int),(y:Int),false)]⟩)
def ZDu:List (Nat × Nat)->Rw->Bool × Rw
 | [],R=>(true,R)
 | p :: w,R=>if (ZBD e p.1 p.2 R).1=true then ZDu w (ZBD e p.1 p.2 R).2 else (false,(ZBD e p.1 p.2 R).2)
def ZBa:List (List (Nat × Nat))->Rw->Bool × Rw
 | [],R=>(false,R)
 | w :: ws,R=>if (ZDu e w R).1=true then (true,(ZDu e w R).2) else ZBa ws (ZDu e w R).2
def ZE2 (book:List (Int × Int)) (a b:Nat):List Nat:=((((List.range (book.length - 1)).map λ k=>(a+(k+1)) % book.length).filter λ h=>!decide (h=b) && abF book h)).take e.r.o.toNat
def ZBY (hs:List Hs) (a b:Nat):List (List (Nat × Nat)):=[(a,b),(b,a)] ::
 (if (ZEJ e.r.cl "others" && abF (hs.getD a H0).2.1 b)=true then (ZE2 e (hs.getD a H0).2.1 a b).map λ h=>[(a,h),(h,b),(b,h),(h,a)] else [])
def ZJJ (b:Nat) (ans:Bool) (h:Hs):Hs :=
 if ans=true then (h.1,h.2.1,h.2.2.1,h.2.2.2.set b 0)
 else if (abF h.2.1 b && (!ZEJ e.r.cl "wait" || decide (h.2.2.2.getD b 0=1)))=true then (h.1,h.2.1.set b ((h.2.1.getD b (0,0)).1,2),h.2.2.1.set b 0,h.2.2.2.set b 0)
 else if (abF h.2.1 b && decide (h.2.2.2.getD b 0=0))=true then
  (if (h.2.1.getD b (0,0)).2=0 then (h.1,h.2.1.set b ((h.2.1.getD b (0,0)).1,1),h.2.2.1.set b 0,h.2.2.2.set b e.r.w) else (h.1,h.2.1,h.2.2.1,h.2.2.2.set b e.r.w))
 else if abF h.2.1 b=true then (h.1,h.2.1,h.2.2.1,h.2.2.2.set b (h.2.2.2.getD b 0 - 1))
 else h
def ZIt (a b:Nat) (ans:Bool) (hs:List Hs):List Hs:=hs.set a (ZJJ e b ans (hs.getD a H0))
def tgF (a:Nat):Nat:=(((a:Int)+1+(ZDb (e.ts.getD a (0,0)) e.tn - 1) % ((e.ts.length:Int) - 1)) % (e.ts.length:Int)).toNat
def ZKU (a b:Nat) (hs:List Hs):Bool:=if b=tgF e a then ZEJ e.r.cl "again" || abF (hs.getD a H0).2.1 b else decide (0 < (hs.getD a H0).2.2.2.getD b 0)
def ZEK (a b:Nat) (R:Rw):Rw:=if ZKU e a b R.hs=true then ⟨ZIt e a b (ZBa e (ZBY e R.hs a b) R).1 (ZBa e (ZBY e R.hs a b) R).2.hs,(ZBa e (ZBY e R.hs a b) R).2.le⟩ else R
def ZFU (a:Nat):List Nat:=tgF e a :: (List.range e.ts.length).filter λ b=>!decide (b=a) && !decide (b=tgF e a)
def ZKx (a:Nat) (R:Rw):Rw:=(ZFU e a).foldl (λ R b=>ZEK e a b R) R
def ZJQ (c:Int × Int) (n:Int):Bool:=decide (c.2<=n) && decide ((n - c.2) % c.1=0)
def ZIk (a:Nat) (hs:List Hs):Bool:=decide ((hs.getD a H0).1=1) && ZJQ (e.ts.getD a (0,0)) e.tn
def ZB5 (a:Nat) (R:Rw):Rw:=if ZIk e a R.hs=true then ZKx e a R else R
def ZQL (R:Rw):Rw:=(List.range e.ts.length).foldl (λ R a=>ZB5 e a R) R
def ZAx (x:Nat) (R:Rw):Rw:=(List.range e.ts.length).foldl (λ R y=>if y=x then R else (ZBD e x y R).2) R
end
def ZBj (x:Nat) (hs:List Hs):List Hs:=hs.set x (0,(hs.getD x H0).2.1,(hs.getD x H0).2.2.1,(hs.getD x H0).2.2.2)
def doH (fa le co:List Int) (i:Nat) (h:Hs):Hs :=
 if fa.contains (i:Int)=true then (0,h.2.1,h.2.2.1,List.replicate h.2.2.2.length 0)
 else if le.contains (i:Int)=true then (h.1,h.2.1.set i ((h.2.1.getD i (0,0)).1,3),h.2.2.1.set i 0,List.replicate h.2.2.2.length 0)
 else if co.contains (i:Int)=true then (1,h.2.1.set i ((h.2.1.getD i (0,0)).1+1,0),h.2.2.1.set i 0,h.2.2.2)
 else h
def ZAU (fa le co:List Int) (hs:List Hs):List Hs:=(List.range hs.length).map λ i=>doH fa le co i (hs.getD i H0)
def ZEO (r:Ru) (ts:List (Int × Int)) (tn:Int) (hs:List Hs) (lo fa le co:List Int):Rw :=
 let e:En:=⟨r,ts,tn,lo⟩
 let R1:=(le ++ co).foldl (λ R x=>ZAx e x.toNat R) ⟨ZAU fa le co hs,[]⟩
 ZQL e ⟨le.foldl (λ hs x=>ZBj x.toNat hs) R1.hs,R1.le⟩
structure HL (n:Nat) (h:Hs):Prop where
 up:h.1=0 ∨ h.1=1
 bl:h.2.1.length=n
 tl:h.2.2.1.length=n
 ml:h.2.2.2.length=n
structure HsL (n:Nat) (hs:List Hs):Prop where
 len:hs.length=n
 all:∀ h ∈ hs,HL n h
theorem HsL.get {n:Nat} {hs:List Hs} (w:HsL n hs) {i:Nat} (hi:i < n):HL n (hs.getD i H0):=w.all _ (ZEu (d:=H0) (by rw [w.len]; exact hi))
theorem HsL.set {n i:Nat} {hs:List Hs} {h:Hs} (w:HsL n hs) (hh:HL n h):HsL n (hs.set i h):=⟨by rw [List.length_set]; exact w.len,λ z hz=>ZKq w.all hh hz⟩
theorem ZPr {cl:List Str} {y n:Nat} {h:Hs} {x:Nat × (Int × Int)} (w:HL n h):HL n (ZDq cl y h x):=by
 unfold ZDq
 split
 ·unfold ZLv
  split
  ·exact ⟨w.up,by rw [List.length_set]; exact w.bl,by rw [List.length_set]; exact w.tl,w.ml⟩
  ·exact w
 ·unfold ZL7
  split
  ·refine ⟨w.up,by rw [List.length_set]; exact w.bl,by rw [List.length_set]; exact w.tl,?_⟩
   show (if x.2.2=1 then h.2.2.2 else h.2.2.2.set x.1 0).length=n
   split
   ·exact w.ml
   ·rw [List.length_set]; exact w.ml
  ·exact w
theorem ZGz {cl:List Str} {y n:Nat}:∀ {ns:List (Nat × (Int × Int))} {h:Hs},HL n h->HL n (ZCE cl y h ns)
 | [],_,w=>w
 | x :: r,h,w=>by
  show HL n (ZCE cl y (ZDq cl y h x) r)
  exact ZGz (ZPr w)
section
variable {e:En} {n:Nat}
theorem ZIN {x y:Nat} {hs:List Hs} (w:HsL n hs) (hx:x < n):HsL n (ZDv e x y hs):=w.set ⟨(w.get hx).up,(w.get hx).bl,by rw [show ∀ (a:Int) b c d,((a,b,c,d):Hs).2.2.1=c from λ _ _ _ _=>rfl,ZC5]; exact (w.get hx).tl,(w.get hx).ml⟩
theorem ZPN {x y:Nat} {hs:List Hs} (w:HsL n hs) (hx:x < n) (hy:y < n):HsL n (ZEp e x y hs):=(ZIN w hx).set (ZGz (w.get hy))
theorem ZEw {x y:Nat} {R:Rw} (w:HsL n R.hs) (hx:x < n) (hy:y < n):HsL n (ZBD e x y R).2.hs:=by
 unfold ZBD
 split
 ·exact ZIN w hx
 ·split
  ·exact ZIN w hx
  ·exact ZPN w hx hy
theorem ZEx {x y:Nat} {R:Rw}:(ZBD e x y R).2.le.length=R.le.length+1:=by
 unfold ZBD
 split
 ·simp
 ·split <;> simp
theorem ZH6:∀ {w:List (Nat × Nat)} {R:Rw},HsL n R.hs->(∀ p ∈ w,p.1 < n/\p.2 < n)->HsL n (ZDu e w R).2.hs/\(ZDu e w R).2.le.length<=R.le.length+w.length
 | [],R,h,_=>⟨h,Nat.le_refl _⟩
 | p :: w,R,h,hp=>by
  have hp0:=hp p (List.mem_cons_self ..)
  have h1:=ZEw (e:=e) h hp0.1 hp0.2
  have h2:=ZEx (e:=e) (x:=p.1) (y:=p.2) (R:=R)
  rw [ZDu]
  split
  ·obtain ⟨h3,h4⟩:=ZH6 (w:=w) h1 λ q hq=>hp q (List.mem_cons_of_mem _ hq)
   exact ⟨h3,by rw [List.length_cons]; omega⟩
  ·exact ⟨h1,by rw [List.length_cons]; show (ZBD e p.1 p.2 R).2.le.length<=_; omega⟩
theorem ZEr:∀ {ws:List (List (Nat × Nat))} {R:Rw},HsL n R.hs->(∀ w ∈ ws,∀ p ∈ w,p.1 < n/\p.2 < n)->HsL n (ZBa e ws R).2.hs/\(ZBa e ws R).2.le.length<=R.le.length+(ws.map List.length).sum
 | [],R,h,_=>⟨h,Nat.le_refl _⟩
 | w :: ws,R,h,hp=>by
  obtain ⟨h1,h2⟩:=ZH6 (e:=e) (w:=w) h (hp w (List.mem_cons_self ..))
  rw [ZBa]
  split
  ·exact ⟨h1,by rw [List.map_cons,List.sum_cons]; show (ZDu e w R).2.le.length<=_; omega⟩
  ·obtain ⟨h3,h4⟩:=ZEr (ws:=ws) h1 λ q hq=>hp q (List.mem_cons_of_mem _ hq)
   exact ⟨h3,by rw [List.map_cons,List.sum_cons]; omega⟩
theorem ZHV {book:List (Int × Int)} {a b h:Nat} (hh:h ∈ ZE2 e book a b) (hn : 0 < book.length):h < book.length/\h ≠ b/\∃ k,k < book.length - 1/\h=(a+(k+1)) % book.length:=by
 unfold ZE2 at hh
 have h1:=List.mem_filter.mp (List.mem_of_mem_take hh)
 obtain ⟨k,hk,rfl⟩:=List.mem_map.mp h1.1
 refine ⟨Nat.mod_lt _ hn,λ z=>?_,k,List.mem_range.mp hk,rfl⟩
 have h2:=h1.2
 rw [z,decide_eq_true rfl] at h2
 cases h2
theorem ZOU {book:List (Int × Int)} {a b h:Nat} (hh:h ∈ ZE2 e book a b) (ha:a < book.length):h ≠ a:=by
 obtain ⟨h1,h2,k,hk,rfl⟩:=ZHV hh (by omega)
 by_cases z:a+(k+1) < book.length
 ·rw [Nat.mod_eq_of_lt z]; omega
 ·rw [Nat.mod_eq_sub_mod (by omega),Nat.mod_eq_of_lt (by omega)]; omega
theorem ZHi {book:List (Int × Int)} {a b:Nat} (ho : 0<=e.r.o/\e.r.o<=3):(ZE2 e book a b).length<=3:=by
 unfold ZE2
 rw [List.length_take]
 omega
theorem ZDo {hs:List Hs} {a b:Nat} (w:HsL n hs) (ha:a < n) (hb:b < n) (hab:a ≠ b):∀ v ∈ ZBY e hs a b,∀ p ∈ v,(p.1 < n/\p.2 < n)/\p.1 ≠ p.2:=by
 have hbl:=(w.get ha).bl
 intro v hv p hp
 unfold ZBY at hv
 rcases List.mem_cons.mp hv with rfl | hv
 ·simp only [List.mem_cons,List.not_mem_nil,or_false] at hp
  rcases hp with rfl | rfl
  ·exact ⟨⟨ha,hb⟩,hab⟩
  ·exact ⟨⟨hb,ha⟩,λ z=>hab z.symm⟩
 ·split at hv
  ·obtain ⟨h,hh,rfl⟩:=List.mem_map.mp hv
   have h1:=ZHV hh (by rw [hbl]; omega)
   have h2:=ZOU hh (by rw [hbl]; exact ha)
   rw [hbl] at h1
   simp only [List.mem_cons,List.not_mem_nil,or_false] at hp
   rcases hp with rfl | rfl | rfl | rfl
   ·exact ⟨⟨ha,h1.1⟩,λ z=>h2 z.symm⟩
   ·exact ⟨⟨h1.1,hb⟩,h1.2.1⟩
   ·exact ⟨⟨hb,h1.1⟩,λ z=>h1.2.1 z.symm⟩
   ·exact ⟨⟨h1.1,ha⟩,h2⟩
  ·cases hv
theorem ZHj {hs:List Hs} {a b:Nat} (ho : 0<=e.r.o/\e.r.o<=3):((ZBY e hs a b).map List.length).sum<=14:=by
 unfold ZBY
 rw [List.map_cons,List.sum_cons]
 split
 ·rw [List.map_map]
  have:∀ L:List Nat,(L.map (List.length ∘ λ h=>[(a,h),(h,b),(b,h),(h,a)])).sum=4 * L.length:=by
   intro L
   induction L with
   | nil=>rfl
   | cons x r ih=>rw [List.map_cons,List.sum_cons,ih,List.length_cons]; show 4+_=_; omega
  rw [this]
  have:=ZHi (e:=e) (book:=(hs.getD a H0).2.1) (a:=a) (b:=b) ho
  show 2+_<=14
  omega
 ·show 2+0<=14
  omega
theorem ZQu {b:Nat} {ans:Bool} {h:Hs} (w:HL n h):HL n (ZJJ e b ans h):=by
 unfold ZJJ
 have sl:∀ {α : Type} {xs:List α} {i:Nat} {v : α},(xs.set i v).length=xs.length:=List.length_set
 split
 ·exact ⟨w.up,w.bl,w.tl,sl.trans w.ml⟩
 ·split
  ·exact ⟨w.up,sl.trans w.bl,sl.trans w.tl,sl.trans w.ml⟩
  ·split
   ·split
    ·exact ⟨w.up,sl.trans w.bl,sl.trans w.tl,sl.trans w.ml⟩
    ·exact ⟨w.up,w.bl,w.tl,sl.trans w.ml⟩
   ·split
    ·exact ⟨w.up,w.bl,w.tl,sl.trans w.ml⟩
    ·exact w
theorem ZQe {a b:Nat} {ans:Bool} {hs:List Hs} (w:HsL n hs) (ha:a < n):HsL n (ZIt e a b ans hs):=w.set (ZQu (w.get ha))
theorem ZQx {a:Nat} (hn : 2<=e.ts.length):tgF e a < e.ts.length:=by
 unfold tgF
 have h1:=Int.emod_nonneg ((a:Int)+1+(ZDb (e.ts.getD a (0,0)) e.tn - 1) % ((e.ts.length:Int) - 1)) (show (e.ts.length:Int) ≠ 0 by omega)
 have h2:=Int.emod_lt_of_pos ((a:Int)+1+(ZDb (e.ts.getD a (0,0)) e.tn - 1) % ((e.ts.length:Int) - 1)) (show (0:Int) < e.ts.length by omega)
 omega
theorem ZQ7 {a:Nat} (hn : 2<=e.ts.length) (ha:a < e.ts.length):tgF e a ≠ a:=by
 unfold tgF
 have h1:=Int.emod_nonneg (ZDb (e.ts.getD a (0,0)) e.tn - 1) (show (e.ts.length:Int) - 1 ≠ 0 by omega)
 have h2:=Int.emod_lt_of_pos (ZDb (e.ts.getD a (0,0)) e.tn - 1) (show (0:Int) < (e.ts.length:Int) - 1 by omega)
 generalize (ZDb (e.ts.getD a (0,0)) e.tn - 1) % ((e.ts.length:Int) - 1)=k at *
 by_cases z:(a:Int)+1+k < e.ts.length
 ·rw [Int.emod_eq_of_lt (by omega) z]; omega
 ·have:((a:Int)+1+k) % (e.ts.length:Int)=(a:Int)+1+k - e.ts.length:=by
   rw [← Int.sub_emod_right,Int.emod_eq_of_lt (by omega) (by omega)]
  rw [this]; omega
theorem ZF5 {a b:Nat} {R:Rw} (ho : 0<=e.r.o/\e.r.o<=3) (w:HsL n R.hs) (ha:a < n) (hb:b < n) (hab:a ≠ b):HsL n (ZEK e a b R).hs/\(ZEK e a b R).le.length<=R.le.length+14:=by
 unfold ZEK
 split
 ·obtain ⟨h1,h2⟩:=ZEr (e:=e) (ws:=ZBY e R.hs a b) w λ v hv p hp=>(ZDo w ha hb hab v hv p hp).1
  have:=ZHj (e:=e) (hs:=R.hs) (a:=a) (b:=b) ho
  exact ⟨ZQe h1 ha,by show (ZBa e (ZBY e R.hs a b) R).2.le.length<=_; omega⟩
 ·exact ⟨w,by omega⟩
theorem ZCr {a b:Nat} (hn : 2<=e.ts.length) (ha:a < e.ts.length) (hb:b ∈ ZFU e a):b < e.ts.length/\a ≠ b:=by
 unfold ZFU at hb
 rcases List.mem_cons.mp hb with rfl | hb
 ·exact ⟨ZQx hn,λ z=>ZQ7 hn ha z.symm⟩
 ·obtain ⟨h1,h2⟩:=List.mem_filter.mp hb
  refine ⟨List.mem_range.mp h1,λ z=>?_⟩
  rw [z,decide_eq_true rfl] at h2
  cases h2
theorem ZGn {a:Nat} (hn : 2<=e.ts.length) (ha:a < e.ts.length):(ZFU e a).length<=e.ts.length:=by
 unfold ZFU
 rw [List.length_cons]
 have:=(List.length_filter_lt_length_iff_exists (l:=List.range e.ts.length) (p:=λ b=>!decide (b=a) && !decide (b=tgF e a))).mpr ⟨a,List.mem_range.mpr ha,show ¬ (!decide (a=a) && !decide (a=tgF e a))=true by rw [decide_eq_true rfl]; exact Bool.false_ne_true⟩
 rw [List.length_range] at this
 exact this
theorem ZCf {α : Type} {f:Rw->α->Rw} {m:Nat}:∀ {L:List α} {R:Rw},HsL n R.hs->(∀ x ∈ L,∀ R,HsL n R.hs->HsL n (f R x).hs/\(f R x).le.length<=R.le.length+m)->HsL n (L.foldl f R).hs/\(L.foldl f R).le.length<=R.le.length+m * L.length
 | [],R,h,_=>⟨h,Nat.le_refl _⟩
 | x :: L,R,h,hf=>by
  obtain ⟨h1,h2⟩:=hf x (List.mem_cons_self ..) R h
  obtain ⟨h3,h4⟩:=ZCf (L:=L) h1 λ y hy=>hf y (List.mem_cons_of_mem _ hy)
  refine ⟨h3,?_⟩
  rw [List.foldl_cons,List.length_cons,Nat.mul_succ]
  omega
theorem ZPy {a:Nat} {R:Rw} (ho : 0<=e.r.o/\e.r.o<=3) (hn : 2<=e.ts.length) (w:HsL e.ts.length R.hs) (ha:a < e.ts.length):HsL e.ts.length (ZKx e a R).hs/\(ZKx e a R).le.length<=R.le.length+14 * e.ts.length:=by
 obtain ⟨h1,h2⟩:=ZCf (f:=λ R b=>ZEK e a b R) (m:=14) (L:=ZFU e a) w λ b hb R w=>ZF5 ho w ha (ZCr hn ha hb).1 (ZCr hn ha hb).2
 refine ⟨h1,Nat.le_trans h2 ?_⟩
 have:=ZGn hn ha
 have:=Nat.mul_le_mul_left 14 this
 omega
theorem ZGK {a:Nat} {R:Rw} (ho : 0<=e.r.o/\e.r.o<=3) (hn : 2<=e.ts.length) (w:HsL e.ts.length R.hs) (ha:a < e.ts.length):HsL e.ts.length (ZB5 e a R).hs/\(ZB5 e a R).le.length<=R.le.length+14 * e.ts.length:=by
 unfold ZB5
 split
 ·exact ZPy ho hn w ha
 ·exact ⟨w,by omega⟩
theorem ZD1 {x:Nat} {R:Rw} (w:HsL e.ts.length R.hs) (hx:x < e.ts.length):HsL e.ts.length (ZAx e x R).hs/\(ZAx e x R).le.length<=R.le.length+e.ts.length:=by
 obtain ⟨h1,h2⟩:=ZCf (f:=λ R y=>if y=x then R else (ZBD e x y R).2) (m:=1) (L:=List.range e.ts.length) w λ y hy R w=>by
  by_cases z:y=x
  ·rw [if_pos z]; exact ⟨w,by omega⟩
  ·rw [if_neg z]; exact ⟨ZEw w hx (List.mem_range.mp hy),by rw [ZEx]; omega⟩
 refine ⟨h1,Nat.le_trans h2 ?_⟩
 rw [List.length_range]
 omega
end
theorem ZK7 {n x:Nat} {hs:List Hs} (w:HsL n hs) (hx:x < n):HsL n (ZBj x hs):=w.set ⟨.inl rfl,(w.get hx).bl,(w.get hx).tl,(w.get hx).ml⟩
theorem doH_L {fa le co:List Int} {n i:Nat} {h:Hs} (w:HL n h):HL n (doH fa le co i h):=by
 unfold doH
 have sl:∀ {α : Type} {xs:List α} {i:Nat} {v : α},(xs.set i v).length=xs.length:=List.length_set
 split
 ·exact ⟨.inl rfl,w.bl,w.tl,by rw [show ∀ (a:Int) b c d,((a,b,c,d):Hs).2.2.2=d from λ _ _ _ _=>rfl,List.length_replicate]; exact w.ml⟩
 ·split
  ·exact ⟨w.up,sl.trans w.bl,sl.trans w.tl,by rw [show ∀ (a:Int) b c d,((a,b,c,d):Hs).2.2.2=d from λ _ _ _ _=>rfl,List.length_replicate]; exact w.ml⟩
  ·split
   ·exact ⟨.inr rfl,sl.trans w.bl,sl.trans w.tl,w.ml⟩
   ·exact w
theorem ZIu {fa le co:List Int} {n:Nat} {hs:List Hs} (w:HsL n hs):HsL n (ZAU fa le co hs):=⟨by unfold ZAU; rw [List.length_map,List.length_range]; exact w.len,λ h hh=>by
 unfold ZAU at hh
 obtain ⟨i,hi,rfl⟩:=List.mem_map.mp hh
 exact doH_L (w.get (by rw [← w.len]; exact List.mem_range.mp hi))⟩
theorem ZF3 {n:Nat}:∀ {L:List Int} {hs:List Hs},HsL n hs->(∀ x ∈ L,x.toNat < n)->HsL n (L.foldl (λ hs x=>ZBj x.toNat hs) hs)
 | [],_,h,_=>h
 | x :: L,hs,h,hx=>ZF3 (L:=L) (ZK7 h (hx x (List.mem_cons_self ..))) λ y hy=>hx y (List.mem_cons_of_mem _ hy)
inductive loopP (src:Option Nat) (xs:List PyData) (pt:Pat) (db:DS) (r:List PyData) (P:Out->Prop):Out->Prop
 | nx {sd:Sd} {g:G}:ZBk src xs g->EvS (ZAl src xs pt db r sd g) P->loopP src xs pt db r P (.nx sd g)
 | ct {sd:Sd} {g:G}:ZBk src xs g->EvS (ZAl src xs pt db r sd g) P->loopP src xs pt db r P (.ct sd g)
 | bk {sd:Sd} {g:G}:P (.nx sd g)->loopP src xs pt db r P (.bk sd g)
 | rt {x:W} {g:G}:P (.rt x g)->loopP src xs pt db r P (.rt x g)
theorem ZDW {src:Option Nat} {xs:List PyData} {pt:Pat} {db:DS} {P:Out->Prop} {sd:Sd} {g:G} (h:P (.nx sd g)):EvS (ZAl src xs pt db [] sd g) P:=by
 rw [ZAl]
 exact ⟨_,rfl,h⟩
theorem ZCL {src:Option Nat} {xs:List PyData} {pt:Pat} {db:DS} {P:Out->Prop} {sd sd1:Sd} {g:G} {x:PyData} {r:List PyData} (e:Zx pt (.dat x) sd=some sd1) (h:EvS (db sd1 g) (loopP src xs pt db r P)):EvS (ZAl src xs pt db (x :: r) sd g) P:=by
 rw [ZAl,e]
 obtain ⟨o,e2,h⟩:=h
 show EvS ((db sd1 g).bind _) P
 rw [e2]
 cases h with
 | nx so h=>show EvS (ZCu _ _ _ _) P; rw [ZB3 so]; exact h
 | ct so h=>show EvS (ZCu _ _ _ _) P; rw [ZB3 so]; exact h
 | bk h=>exact ⟨_,rfl,h⟩
 | rt h=>exact ⟨_,rfl,h⟩
theorem ZLs {aa:DA} {sd:Sd} {g:G} {PI':List PyData->Option Nat->G->Prop} (h:EvP (aa sd g) λ ws g1=>∃ i j:Int,ws=[.dat (.int i),.dat (.int j)]/\((j<=1000/\-1000<=j)/\(i<=1000/\-1000<=i))/\PI' (ZBn (j - i).toNat i) none g1):EvI (ZAV aa sd g) PI':=by
 obtain ⟨ws,g1,e1,i,j,rfl,hj,h⟩:=h
 exact ⟨_,_,g1,by unfold ZAV; rw [e1]; exact if_pos hj,h⟩
def prD (p:Nat × Nat):PyData:=.tuple [.int (p.1:Int),.int (p.2:Int)]
def wyD (w:List (Nat × Nat)):PyData:=.tuple (w.map prD)
theorem ZN5 {r:Ru} {ts:List (Int × Int)} {tn:Int} {hs:List Hs} {lo fa le co:List Int} (ho : 0<=r.o/\r.o<=3) (n2 : 2<=ts.length) (n8:ts.length<=8) (w:HsL ts.length hs) (hle:∀ k ∈ le,0<=k/\k < ts.length) (hco:∀ k ∈ co,0<=k/\k < ts.length) (hlc:le.length+co.length<=ts.length) :
  HsL ts.length (ZEO r ts tn hs lo fa le co).hs/\(ZEO r ts tn hs lo fa le co).le.length<=960:=by
 have k1:=ZCf (f:=λ (R:Rw) (x:Int)=>ZAx ⟨r,ts,tn,lo⟩ x.toNat R) (n:=ts.length) (m:=ts.length) (L:=le ++ co) (R:=⟨ZAU fa le co hs,[]⟩) (ZIu w) λ x hx R w=>ZD1 (e:=⟨r,ts,tn,lo⟩) w (by
  show x.toNat < ts.length
  rcases List.mem_append.mp hx with h | h
  ·have:=hle x h; omega
  ·have:=hco x h; omega)
 have k2:=ZF3 (L:=le) k1.1 λ x hx=>by have:=hle x hx; omega
 have k3:=ZCf (f:=λ (R:Rw) (a:Nat)=>ZB5 ⟨r,ts,tn,lo⟩ a R) (n:=ts.length) (m:=14 * ts.length) (L:=List.range ts.length) (R:=⟨le.foldl (λ hs x=>ZBj x.toNat hs) ((le ++ co).foldl (λ (R:Rw) (x:Int)=>ZAx ⟨r,ts,tn,lo⟩ x.toNat R) ⟨ZAU fa le co hs,[]⟩).hs,((le ++ co).foldl (λ (R:Rw) (x:Int)=>ZAx ⟨r,ts,tn,lo⟩ x.toNat R) ⟨ZAU fa le co hs,[]⟩).le⟩) k2 λ a ha R w=>ZGK (e:=⟨r,ts,tn,lo⟩) ho n2 w (List.mem_range.mp ha)
 refine ⟨k3.1,?_⟩
 have h1:((le ++ co).foldl (λ (R:Rw) (x:Int)=>ZAx ⟨r,ts,tn,lo⟩ x.toNat R) ⟨ZAU fa le co hs,[]⟩).le.length<=64:=by
  have h0:_<=0+ts.length * (le ++ co).length:=k1.2
  have:ts.length * (le ++ co).length<=8 * 8:=Nat.mul_le_mul n8 (by rw [List.length_append]; omega)
  exact Nat.le_trans h0 (by omega)
 have h2 : 14 * ts.length * (List.range ts.length).length<=896:=by
  rw [List.length_range]
  have:=Nat.mul_le_mul (Nat.mul_le_mul_left 14 n8) n8
  omega
 exact Nat.le_trans k3.2 (Nat.le_trans (Nat.add_le_add h1 h2) (by decide))
abbrev Do4:=List Int × List Int × List Int × List Int
def doX (d:Do4):PyData:=.tuple [Zc d.1,Zc d.2.1,Zc d.2.2.1,Zc d.2.2.2]
def ZFm (L:List Lt):PyData:=.tuple (L.map ltD)
abbrev Sx:=Int × List Hs
def stX (s:Sx):PyData:=Zq s.1 s.2
def nxR (r:Ru) (ts:List (Int × Int)) (s:Sx) (d:Do4):Rw:=ZEO r ts s.1 s.2 d.1 d.2.1 d.2.2.1 d.2.2.2
def nxS (r:Ru) (ts:List (Int × Int)) (s:Sx) (d:Do4):Sx:=(s.1+1,(nxR r ts s d).hs)
def ZDI (r:Ru) (ts:List (Int × Int)) (s:Sx) (ds:List Do4):Sx:=ds.foldl (nxS r ts) s
def ZDi (r:Ru) (ts:List (Int × Int)):Sx->List Do4->List (List Lt)
 | _,[]=>[]
 | s,d :: ds=>(nxR r ts s d).le :: ZDi r ts (nxS r ts s d) ds
def ZKk (r:Ru) (ts:List (Int × Int)):Sx->List Do4->List (Sx × List Lt)
 | _,[]=>[]
 | s,d :: ds=>(nxS r ts s d,(nxR r ts s d).le) :: ZKk r ts (nxS r ts s d) ds
def tsX (p:Sx × List Lt):PyData:=.tuple [stX p.1,ZFm p.2]
theorem ZGb {r:Ru} {ts:List (Int × Int)}:∀ {a b:List Do4} {s:Sx},ZDi r ts s (a ++ b)=ZDi r ts s a ++ ZDi r ts (ZDI r ts s a) b
 | [],b,s=>rfl
 | d :: a,b,s=>by
  rw [List.cons_append,ZDi,ZDi,ZGb]
  rfl
theorem ZJw {r:Ru} {ts:List (Int × Int)} {a b:List Do4} {s:Sx}:ZDI r ts s (a ++ b)=ZDI r ts (ZDI r ts s a) b:=List.foldl_append
theorem ZEt {r:Ru} {ts:List (Int × Int)}:∀ {a:List Do4} {s:Sx},(ZDi r ts s a).length=a.length
 | [],_=>rfl
 | d :: a,s=>by rw [ZDi,List.length_cons,List.length_cons,ZEt]
theorem bT {A B:Prop} (h:A):(true=true->A)/\(true=false->B):=⟨λ _=>h,λ z=>by cases z⟩
theorem bF {A B:Prop} (h:B):(false=true->A)/\(false=false->B):=⟨(λ z=>by cases z),λ _=>h⟩
def ZAD (K:PySem.W.Frag) (x ql:Str) (st:Stmt) (f:Addr):Prop:=∃ fd,Fun K x ql st f fd
theorem fnAt_mk {K:PySem.W.Frag} {x qual:Str} {st:Stmt} {f:Addr} {oc:Value} {od an:Option Addr} {osl:Array (Option Value)} {kV doc pm cdv ct:Value} (l:K.lookup f=some ⟨oc,od,.func (PySem.W.fnOf x qual (ZDO st) (ZBy st) (ZM st) .none kV doc pm an cdv ct),osl⟩)
  (c:PySem.W.codeIn K cdv qual=true) (k:PySem.W.keepIn K (.ref f)=true):ZAD K x qual st f:=⟨_,ZNN l c k⟩
end L2
namespace L2
open PySem PySem.Spec PyProof.Rows H1
def ZEL (hs:List Hs):List Int:=hs.map (·.1)
theorem ZIM {hs:List Hs} {i:Nat} {h:Hs} (e:h.1=(hs.getD i H0).1):ZEL (hs.set i h)=ZEL hs:=by
 unfold ZEL
 rw [List.map_set,e]
 by_cases hi:i < hs.length
 ·rw [List.getD_eq_getElem?_getD,List.getElem?_eq_getElem hi]
  apply List.ext_getElem?
  intro j
  by_cases hj:i=j
  ·subst hj
   rw [List.getElem?_set_self (by rw [List.length_map]; exact hi),List.getElem?_map,List.getElem?_eq_getElem hi]
   rfl
  ·rw [List.getElem?_set_ne hj]
 ·rw [List.set_eq_of_length_le (by rw [List.length_map]; omega)]
theorem ZKJ {hs hs':List Hs} (h:ZEL hs'=ZEL hs) (i:Nat):(hs'.getD i H0).1=(hs.getD i H0).1:=by
 have e:∀ l:List Hs,(l.getD i H0).1=(ZEL l).getD i 0:=λ l=>by
  unfold ZEL
  rw [List.getD_eq_getElem?_getD,List.getD_eq_getElem?_getD,List.getElem?_map]
  cases l[i]? <;> rfl
 rw [e,e,h]
def ZOG (lo:List Int) (n:Nat):List Bool:=(List.range n).map λ k:Nat=>lo.contains (k:Int)
structure Grow (e:En) (R R':Rw):Prop where
 ex:∃ ex:List Lt,R'.le=R.le ++ ex/\∀ l ∈ ex,l.1 ≠ l.2.1
 fl:R.le.map (·.2.2)=ZOG e.lo R.le.length->R'.le.map (·.2.2)=ZOG e.lo R'.le.length
 up:ZEL R'.hs=ZEL R.hs
section
variable {e:En} {n:Nat}
theorem Grow.refl {R:Rw}:Grow e R R:=⟨⟨[],(List.append_nil _).symm,λ l hl=>by cases hl⟩,id,rfl⟩
theorem Grow.trans {R R1 R2:Rw} (h:Grow e R R1) (k:Grow e R1 R2):Grow e R R2:=by
 obtain ⟨a,ea,ha⟩:=h.ex
 obtain ⟨b,eb,hb⟩:=k.ex
 refine ⟨⟨a ++ b,by rw [eb,ea,List.append_assoc],λ l hl=>(List.mem_append.mp hl).elim (ha l) (hb l)⟩,λ z=>k.fl (h.fl z),k.up.trans h.up⟩
theorem ZF4 {x y:Nat} {hs:List Hs}:ZEL (ZDv e x y hs)=ZEL hs:=ZIM rfl
theorem ZH1 {cl:List Str} {y:Nat}:∀ {ns:List (Nat × (Int × Int))} {h:Hs},(ZCE cl y h ns).1=h.1
 | [],_=>rfl
 | x :: r,h=>by
  show (ZCE cl y (ZDq cl y h x) r).1=h.1
  rw [ZH1]
  unfold ZDq ZLv ZL7
  split <;> split <;> rfl
theorem ZPM {x y:Nat} {hs:List Hs} (hxy:x ≠ y):ZEL (ZEp e x y hs)=ZEL hs:=by
 unfold ZEp
 rw [ZIM,ZF4]
 rw [ZH1]
 exact (ZKJ (ZF4 (e:=e) (x:=x) (y:=y) (hs:=hs)) y).symm
theorem ZGM {lo:List Int} {L:List Lt} {x y:Int} {b:Bool} (hb:lo.contains (L.length:Int)=b) (h:L.map (·.2.2)=ZOG lo L.length):(L ++ [(x,y,b)]).map (·.2.2)=ZOG lo (L ++ [(x,y,b)]).length:=by
 rw [List.map_append,h,List.length_append]
 unfold ZOG
 show _=(List.range (L.length+1)).map _
 rw [List.range_succ,List.map_append,← hb]
 rfl
theorem ZHn {x y:Nat} {R:Rw} (hxy:x ≠ y):Grow e R (ZBD e x y R).2:=by
 have hne:∀ {b:Bool},∀ l ∈ [(((x:Int),(y:Int),b):Lt)],l.1 ≠ l.2.1:=λ l hl=>by
  rw [List.mem_singleton.mp hl]
  show (x:Int) ≠ (y:Int)
  omega
 unfold ZBD
 split
 ·rename_i h
  exact ⟨⟨_,rfl,hne⟩,ZGM h,ZF4⟩
 ·rename_i h
  have h:e.lo.contains (R.le.length:Int)=false:=by simpa using h
  split
  ·exact ⟨⟨_,rfl,hne⟩,ZGM h,ZF4⟩
  ·exact ⟨⟨_,rfl,hne⟩,ZGM h,ZPM hxy⟩
theorem ZI6:∀ {w:List (Nat × Nat)} {R:Rw},(∀ p ∈ w,p.1 ≠ p.2)->Grow e R (ZDu e w R).2
 | [],R,_=>.refl
 | p :: w,R,hp=>by
  have h1:=ZHn (e:=e) (R:=R) (hp p (List.mem_cons_self ..))
  rw [ZDu]
  split
  ·exact h1.trans (ZI6 λ q hq=>hp q (List.mem_cons_of_mem _ hq))
  ·exact h1
theorem ZHg:∀ {ws:List (List (Nat × Nat))} {R:Rw},(∀ w ∈ ws,∀ p ∈ w,p.1 ≠ p.2)->Grow e R (ZBa e ws R).2
 | [],R,_=>.refl
 | w :: ws,R,hp=>by
  have h1:=ZI6 (e:=e) (R:=R) (hp w (List.mem_cons_self ..))
  rw [ZBa]
  split
  ·exact h1
  ·exact h1.trans (ZHg λ q hq=>hp q (List.mem_cons_of_mem _ hq))
theorem ZO0 {b:Nat} {ans:Bool} {h:Hs}:(ZJJ e b ans h).1=h.1:=by
 unfold ZJJ
 split
 ·rfl
 ·split
  ·rfl
  ·split
   ·split <;> rfl
   ·split <;> rfl
theorem ZMB {a b:Nat} {R:Rw} (w:HsL n R.hs) (ha:a < n) (hb:b < n) (hab:a ≠ b):Grow e R (ZEK e a b R):=by
 unfold ZEK
 split
 ·have h1:=ZHg (e:=e) (ws:=ZBY e R.hs a b) (R:=R) λ v hv p hp=>(ZDo w ha hb hab v hv p hp).2
  refine ⟨h1.ex,h1.fl,?_⟩
  show ZEL (ZIt e a b _ _)=_
  unfold ZIt
  rw [ZIM ZO0]
  exact h1.up
 ·exact .refl
theorem ZD6 {α : Type} {f:Rw->α->Rw}:∀ {L:List α} {R:Rw},HsL n R.hs->(∀ x ∈ L,∀ R,HsL n R.hs->HsL n (f R x).hs/\Grow e R (f R x))->Grow e R (L.foldl f R)
 | [],R,_,_=>.refl
 | x :: L,R,w,hf=>by
  obtain ⟨h1,h2⟩:=hf x (List.mem_cons_self ..) R w
  exact h2.trans (ZD6 h1 λ y hy=>hf y (List.mem_cons_of_mem _ hy))
theorem ZNd {a:Nat} {R:Rw} (ho : 0<=e.r.o/\e.r.o<=3) (hn : 2<=e.ts.length) (w:HsL e.ts.length R.hs) (ha:a < e.ts.length):Grow e R (ZKx e a R):=ZD6 w λ b hb R w=>⟨(ZF5 ho w ha (ZCr hn ha hb).1 (ZCr hn ha hb).2).1,ZMB w ha (ZCr hn ha hb).1 (ZCr hn ha hb).2⟩
theorem ZKY {a:Nat} {R:Rw} (ho : 0<=e.r.o/\e.r.o<=3) (hn : 2<=e.ts.length) (w:HsL e.ts.length R.hs) (ha:a < e.ts.length):Grow e R (ZB5 e a R):=by
 unfold ZB5
 split
 ·exact ZNd ho hn w ha
 ·exact .refl
theorem ZLo {x:Nat} {R:Rw} (w:HsL e.ts.length R.hs) (hx:x < e.ts.length):Grow e R (ZAx e x R):=ZD6 (f:=λ R y=>if y=x then R else (ZBD e x y R).2) w λ y hy R w=>by
 by_cases z:y=x
 ·rw [if_pos z]; exact ⟨w,.refl⟩
 ·rw [if_neg z]; exact ⟨ZEw w hx (List.mem_range.mp hy),ZHn λ h=>z h.symm⟩
def prL (L:List Lt):List (Int × Int):=L.map λ l=>(l.1,l.2.1)
theorem ZPY {x y:Nat} {R:Rw}:prL (ZBD e x y R).2.le=prL R.le ++ [((x:Int),(y:Int))]:=by
 unfold ZBD prL
 split
 ·rw [List.map_append]; rfl
 ·split <;> rw [List.map_append] <;> rfl
def ZNl (n:Nat) (x:Int):List (Int × Int):=((List.range n).filter λ y:Nat=>!decide ((y:Int)=x)).map λ y:Nat=>(x,(y:Int))
theorem ZK5 {x:Nat}:∀ {L:List Nat} {R:Rw},prL (L.foldl (λ R y=>if y=x then R else (ZBD e x y R).2) R).le=prL R.le ++ (L.filter λ y:Nat=>!decide ((y:Int)=(x:Int))).map λ y:Nat=>((x:Int),(y:Int))
 | [],R=>(List.append_nil _).symm
 | y :: L,R=>by
  rw [List.foldl_cons,ZK5]
  by_cases z:y=x
  ·rw [if_pos z,List.filter_cons_of_neg (by rw [z,decide_eq_true rfl]; exact Bool.false_ne_true)]
  ·rw [if_neg z,ZPY,List.filter_cons_of_pos (by rw [decide_eq_false (by omega)]; rfl),List.append_assoc]
   rfl
theorem ZJO:∀ {L:List Int} {R:Rw},(∀ k ∈ L,0<=k)->prL (L.foldl (λ (R:Rw) (x:Int)=>ZAx e x.toNat R) R).le=prL R.le ++ (L.map (ZNl e.ts.length)).flatten
 | [],R,_=>(List.append_nil _).symm
 | x :: L,R,h=>by
  have h0:=h x (List.mem_cons_self ..)
  rw [List.foldl_cons,ZJO λ k hk=>h k (List.mem_cons_of_mem _ hk),List.map_cons,List.flatten_cons,← List.append_assoc]
  congr 1
  show prL (ZAx e x.toNat R).le=_
  unfold ZAx ZNl
  rw [ZK5,Int.toNat_of_nonneg h0]
end
section
variable {r:Ru} {ts:List (Int × Int)} {tn:Int} {lo lo':List Int} {at_ n:Nat}
end
theorem ZM9 {le:List Int}:∀ {hs:List Hs} {a:Nat},a < hs.length->(∀ k ∈ le,0<=k)->((le.foldl (λ hs x=>ZBj x.toNat hs) hs).getD a H0).1=if (a:Int) ∈ le then 0 else (hs.getD a H0).1:=by
 induction le with
 | nil=>intro hs a _ _; rfl
 | cons x le ih =>
  intro hs a ha hk
  rw [List.foldl_cons,ih (by unfold ZBj; rw [List.length_set]; exact ha) λ k h=>hk k (List.mem_cons_of_mem _ h)]
  have h0:=hk x (List.mem_cons_self ..)
  by_cases h1:(a:Int) ∈ le
  ·rw [if_pos h1,if_pos (List.mem_cons_of_mem _ h1)]
  ·rw [if_neg h1]
   by_cases h2:(a:Int)=x
   ·rw [if_pos (by rw [h2]; exact List.mem_cons_self ..)]
    unfold ZBj
    rw [List.getD_eq_getElem?_getD,show x.toNat=a by omega,List.getElem?_set_self ha]
    rfl
   ·rw [if_neg (λ z=>(List.mem_cons.mp z).elim h2 h1)]
    unfold ZBj
    rw [List.getD_eq_getElem?_getD,List.getElem?_set_ne (by omega),← List.getD_eq_getElem?_getD]
theorem ZP1 {fa le co:List Int} {hs:List Hs} {a:Nat} (ha:a < hs.length):((ZAU fa le co hs).getD a H0).1=if (a:Int) ∈ fa then 0 else if (a:Int) ∈ le then (hs.getD a H0).1 else if (a:Int) ∈ co then 1 else (hs.getD a H0).1:=by
 unfold ZAU
 rw [List.getD_eq_getElem?_getD,List.getElem?_map,List.getElem?_range ha]
 show (doH fa le co a (hs.getD a H0)).1=_
 unfold doH
 simp only [List.contains_iff_mem]
 split
 ·rfl
 ·split
  ·rfl
  ·split <;> rfl
end L2
namespace L2
open PySem PySem.Spec PyProof.Rows H1
def tmr (hs:List Hs) (a b:Nat):Int:=(hs.getD a H0).2.2.2.getD b 0
def Shr (hs hs':List Hs) (a b:Nat):Prop:=0 < tmr hs' a b->0 < tmr hs a b
theorem Shr.refl {hs:List Hs} {a b:Nat}:Shr hs hs a b:=id
theorem Shr.trans {h1 h2 h3:List Hs} {a b:Nat} (h:Shr h1 h2 a b) (k:Shr h2 h3 a b):Shr h1 h3 a b:=λ z=>h (k z)
theorem ZK8 {α : Type} {l:List α} {i j:Nat} {x d : α}:(l.set i x).getD j d=if i=j/\j < l.length then x else l.getD j d:=by
 rw [List.getD_eq_getElem?_getD,List.getD_eq_getElem?_getD]
 by_cases h:i=j
 ·subst h
  by_cases hi:i < l.length
  ·rw [List.getElem?_set_self hi,if_pos ⟨rfl,hi⟩]; rfl
  ·rw [if_neg (λ z=>hi z.2),List.set_eq_of_length_le (by omega)]
 ·rw [List.getElem?_set_ne h,if_neg (λ z=>h z.1)]
theorem ZF7 {hs:List Hs} {x:Nat} {h:Hs} {a b:Nat} (k:a=x->0 < h.2.2.2.getD b 0->0 < tmr hs a b):Shr hs (hs.set x h) a b:=by
 unfold Shr tmr
 rw [ZK8]
 split
 ·rename_i z
  exact k z.1.symm
 ·exact id
section
variable {e:En} {n:Nat}
theorem ZGH {x y a b:Nat} {hs:List Hs}:Shr hs (ZDv e x y hs) a b:=ZF7 λ z h=>by subst z; exact h
theorem ZHx {cl:List Str} {y b:Nat}:∀ {ns:List (Nat × (Int × Int))} {h:Hs},0 < (ZCE cl y h ns).2.2.2.getD b 0->0 < h.2.2.2.getD b 0
 | [],_,z=>z
 | x :: r,h,z=>by
  have z : 0 < (ZCE cl y (ZDq cl y h x) r).2.2.2.getD b 0:=z
  have z:=ZHx z
  unfold ZDq ZLv ZL7 at z
  split at z
  ·split at z <;> exact z
  ·split at z
   ·dsimp only at z
    split at z
    ·exact z
    ·rw [ZK8] at z
     split at z
     ·cases z
     ·exact z
   ·exact z
theorem ZMa {x y a b:Nat} {hs:List Hs}:Shr hs (ZEp e x y hs) a b:=by
 unfold ZEp
 refine Shr.trans (ZGH (e:=e) (x:=x) (y:=y)) (ZF7 λ z h=>?_)
 subst z
 have h:=ZHx h
 unfold tmr ZDv
 rw [ZK8]
 split
 ·rename_i z
  rw [z.1]
  exact h
 ·exact h
theorem ZGk {x y a b:Nat} {R:Rw}:Shr R.hs (ZBD e x y R).2.hs a b:=by
 unfold ZBD
 split
 ·exact ZGH
 ·split
  ·exact ZGH
  ·exact ZMa
theorem ZI2 {a b:Nat}:∀ {w:List (Nat × Nat)} {R:Rw},Shr R.hs (ZDu e w R).2.hs a b
 | [],R=>.refl
 | p :: w,R=>by
  rw [ZDu]
  split
  ·exact ZGk.trans ZI2
  ·exact ZGk
theorem ZJG {a b:Nat}:∀ {ws:List (List (Nat × Nat))} {R:Rw},Shr R.hs (ZBa e ws R).2.hs a b
 | [],R=>.refl
 | w :: ws,R=>by
  rw [ZBa]
  split
  ·exact ZI2
  ·exact ZI2.trans ZJG
theorem ZPW {b c:Nat} {ans:Bool} {h:Hs} (hc:c ≠ b):(ZJJ e b ans h).2.2.2.getD c 0=h.2.2.2.getD c 0:=by
 have k:∀ x:Int,(h.2.2.2.set b x).getD c 0=h.2.2.2.getD c 0:=λ x=>by rw [ZK8,if_neg λ z=>hc z.1.symm]
 unfold ZJJ
 split
 ·exact k _
 ·split
  ·exact k _
  ·split
   ·split <;> exact k _
   ·split
    ·exact k _
    ·rfl
theorem ZJk {a b c d:Nat} {R:Rw} (h:c ≠ a ∨ d ≠ b):Shr R.hs (ZEK e a b R).hs c d:=by
 unfold ZEK
 split
 ·refine Shr.trans (ZJG (e:=e) (ws:=ZBY e R.hs a b) (R:=R)) ?_
  show Shr _ (ZIt e a b _ _) c d
  unfold ZIt
  refine ZF7 λ z k=>?_
  subst z
  rw [ZPW (h.resolve_left λ z=>z rfl)] at k
  exact k
 ·exact .refl
theorem ZKc {n a b:Nat} (ha:a < n) (hb:b < n) (hab:a ≠ b):b ∈ (List.range (n - 1)).map λ k=>(a+(k+1)) % n:=by
 rw [List.mem_map]
 by_cases h:a < b
 ·exact ⟨b - a - 1,List.mem_range.mpr (by omega),by rw [show a+(b - a - 1+1)=b by omega,Nat.mod_eq_of_lt hb]⟩
 ·exact ⟨b+n - a - 1,List.mem_range.mpr (by omega),by rw [show a+(b+n - a - 1+1)=b+n by omega,Nat.add_mod_right,Nat.mod_eq_of_lt hb]⟩
theorem ZOB {book:List (Int × Int)} {a b:Nat} (ha:a < book.length) (hb:b < book.length) (hab:a ≠ b):(ZE2 e book a b).length<=min e.r.o.toNat (book.length - 2):=by
 unfold ZE2
 rw [List.length_take]
 have:=(List.length_filter_lt_length_iff_exists (l:=(List.range (book.length - 1)).map λ k=>(a+(k+1)) % book.length) (p:=λ h=>!decide (h=b) && abF book h)).mpr ⟨b,ZKc ha hb hab,show ¬ (!decide (b=b) && abF book b)=true by rw [decide_eq_true rfl]; exact Bool.false_ne_true⟩
 rw [List.length_map,List.length_range] at this
 omega
def ZBl (r:Ru) (n:Nat):Nat:=2+4 * min r.o.toNat (n - 2)
theorem ZET {α : Type} {f : α->Nat} {k:Nat}:∀ {l:List α},(∀ x ∈ l,f x=k)->(l.map f).sum=k * l.length
 | [],_=>rfl
 | x :: l,h=>by
  rw [List.map_cons,List.sum_cons,h x (List.mem_cons_self ..),ZET λ y hy=>h y (List.mem_cons_of_mem _ hy),List.length_cons,Nat.mul_succ,Nat.add_comm]
theorem ZNL {a b:Nat} {R:Rw} (w:HsL n R.hs) (ha:a < n) (hb:b < n) (hab:a ≠ b):(ZEK e a b R).le.length<=R.le.length+if ZKU e a b R.hs=true then ZBl e.r n else 0:=by
 unfold ZEK
 split
 ·obtain ⟨h1,h2⟩:=ZEr (e:=e) (ws:=ZBY e R.hs a b) w λ v hv p hp=>(ZDo w ha hb hab v hv p hp).1
  refine Nat.le_trans h2 (Nat.add_le_add_left ?_ _)
  have hbl:=(w.get ha).bl
  have hh:=ZOB (e:=e) (book:=(R.hs.getD a H0).2.1) (a:=a) (b:=b) (by rw [hbl]; exact ha) (by rw [hbl]; exact hb) hab
  rw [hbl] at hh
  unfold ZBY ZBl
  rw [List.map_cons,List.sum_cons]
  split
  ·rw [List.map_map,ZET (f:=List.length ∘ λ h:Nat=>[(a,h),(h,b),(b,h),(h,a)]) (k:=4) λ x _=>rfl]
   show 2+4 * _<=_
   omega
  ·show 2+0<=_
   omega
 ·exact Nat.le_refl _
def ZGU (e:En) (hs:List Hs) (a b:Nat):Bool:=decide (b=tgF e a) || decide (0 < tmr hs a b)
theorem ZOh {a b:Nat} {hs:List Hs} (h:ZKU e a b hs=true):ZGU e hs a b=true:=by
 unfold ZKU at h
 unfold ZGU
 split at h
 ·rename_i z
  rw [decide_eq_true z]
  rfl
 ·unfold tmr
  rw [h,Bool.or_true]
theorem ZED {α : Type} {p q : α->Bool}:∀ {l:List α},(∀ x ∈ l,p x=true->q x=true)->(l.filter p).length<=(l.filter q).length
 | [],_=>Nat.le_refl _
 | x :: l,h=>by
  have ih:=ZED (l:=l) λ y hy=>h y (List.mem_cons_of_mem _ hy)
  have h0:=h x (List.mem_cons_self ..)
  by_cases hp:p x=true
  ·rw [List.filter_cons_of_pos hp,List.filter_cons_of_pos (h0 hp),List.length_cons,List.length_cons]
   omega
  ·rw [List.filter_cons_of_neg hp]
   by_cases hq:q x=true
   ·rw [List.filter_cons_of_pos hq,List.length_cons]; omega
   ·rw [List.filter_cons_of_neg hq]; exact ih
theorem ZJ5 {a:Nat} (ho : 0<=e.r.o/\e.r.o<=3) (ha:a < n):∀ {L:List Nat} {R:Rw},HsL n R.hs->L.Nodup->(∀ b ∈ L,b < n/\a ≠ b)->(L.foldl (λ R b=>ZEK e a b R) R).le.length<=R.le.length+ZBl e.r n * (L.filter (ZGU e R.hs a)).length
 | [],R,_,_,_=>Nat.le_refl _
 | b :: L,R,w,nd,hb=>by
  obtain ⟨hb1,hb2⟩:=hb b (List.mem_cons_self ..)
  have w1:=(ZF5 ho w ha hb1 hb2).1
  have f1:=ZNL (e:=e) w ha hb1 hb2
  have nd:=List.nodup_cons.mp nd
  have ih:=ZJ5 (L:=L) ho ha w1 nd.2 λ c hc=>hb c (List.mem_cons_of_mem _ hc)
  have fl:(L.filter (ZGU e (ZEK e a b R).hs a)).length<=(L.filter (ZGU e R.hs a)).length:=ZED λ c hc z=>by
   unfold ZGU at z ⊢
   rw [Bool.or_eq_true] at z ⊢
   refine z.imp id λ z=>decide_eq_true ?_
   exact ZJk (a:=a) (b:=b) (.inr λ h:c=b=>nd.1 (h ▸ hc)) (of_decide_eq_true z)
  rw [List.foldl_cons]
  have fl:=Nat.mul_le_mul_left (ZBl e.r n) fl
  by_cases hn:ZKU e a b R.hs=true
  ·rw [if_pos hn] at f1
   rw [List.filter_cons_of_pos (ZOh hn),List.length_cons,Nat.mul_succ]
   omega
  ·rw [if_neg hn] at f1
   have:ZBl e.r n * (L.filter (ZGU e R.hs a)).length<=ZBl e.r n * ((b :: L).filter (ZGU e R.hs a)).length:=Nat.mul_le_mul_left _ (by rw [List.filter_cons]; split <;> simp)
   omega
def ZFn (hs:List Hs) (a:Nat):Nat:=((hs.getD a H0).2.2.2.filter λ t=>decide (0 < t)).length
theorem ZKm {l:List Int}:(l.filter λ t=>decide (0 < t)).length=((List.range l.length).filter λ b=>decide (0 < l.getD b 0)).length:=by
 have e:l=(List.range l.length).map λ b=>l.getD b 0:=by
  apply List.ext_getElem?
  intro i
  rw [List.getElem?_map]
  by_cases h:i < l.length
  ·rw [List.getElem?_range h,List.getElem?_eq_getElem h]
   show _=some (l.getD i 0)
   rw [List.getD_eq_getElem?_getD,List.getElem?_eq_getElem h]
   rfl
  ·rw [List.getElem?_eq_none (by omega),List.getElem?_eq_none (by rw [List.length_range]; omega)]
   rfl
 conv=>lhs; rw [e,List.filter_map,List.length_map]
 rfl
theorem ZOy {a:Nat} {R:Rw} (ho : 0<=e.r.o/\e.r.o<=3) (hn : 2<=e.ts.length) (w:HsL e.ts.length R.hs) (ha:a < e.ts.length):(ZKx e a R).le.length<=R.le.length+ZBl e.r e.ts.length * (1+ZFn R.hs a):=by
 have nd:(ZFU e a).Nodup:=by
  unfold ZFU
  refine List.nodup_cons.mpr ⟨λ z=>?_,List.nodup_range.filter _⟩
  have:=(List.mem_filter.mp z).2
  rw [decide_eq_true (rfl:tgF e a=tgF e a),Bool.not_true,Bool.and_false] at this
  cases this
 refine Nat.le_trans (ZJ5 ho ha w nd λ b hb=>ZCr hn ha hb) (Nat.add_le_add_left (Nat.mul_le_mul_left _ ?_) _)
 unfold ZFU ZFn
 rw [List.filter_cons_of_pos (show ZGU e R.hs a (tgF e a)=true by unfold ZGU; rw [decide_eq_true rfl]; rfl),List.length_cons,ZKm,(w.get ha).ml,List.filter_filter,Nat.add_comm]
 refine Nat.add_le_add_left (ZED λ b hb z=>?_) _
 rw [Bool.and_eq_true,Bool.and_eq_true] at z
 obtain ⟨z1,z2,z3⟩:=z
 unfold ZGU at z1
 rw [Bool.or_eq_true] at z1
 rcases z1 with z1 | z1
 ·rw [z1] at z3; cases z3
 ·exact z1
theorem ZJV {hs hs':List Hs} {a:Nat} (w:HsL n hs) (w':HsL n hs') (ha:a < n) (h:∀ b,Shr hs hs' a b):ZFn hs' a<=ZFn hs a:=by
 unfold ZFn
 rw [ZKm,ZKm,(w.get ha).ml,(w'.get ha).ml]
 exact ZED λ b _ z=>decide_eq_true (h b (of_decide_eq_true z))
theorem ZJi {a c d:Nat} (hc:c ≠ a):∀ {L:List Nat} {R:Rw},Shr R.hs (L.foldl (λ R b=>ZEK e a b R) R).hs c d
 | [],R=>.refl
 | b :: L,R=>by
  rw [List.foldl_cons]
  exact Shr.trans (ZJk (e:=e) (a:=a) (b:=b) (R:=R) (.inl hc)) (ZJi hc)
theorem ZMS {a c d:Nat} {R:Rw} (hc:c ≠ a):Shr R.hs (ZB5 e a R).hs c d:=by
 unfold ZB5
 split
 ·exact ZJi hc
 ·exact .refl
def ZHm (r:Ru) (n:Nat) (hs:List Hs) (a:Nat):Nat:=ZBl r n * (1+ZFn hs a)
theorem ZHS {h0:List Hs} (ho : 0<=e.r.o/\e.r.o<=3) (hn : 2<=e.ts.length) (w0:HsL e.ts.length h0):∀ {L:List Nat} {R:Rw},HsL e.ts.length R.hs->ZEL R.hs=ZEL h0->L.Nodup->(∀ a ∈ L,a < e.ts.length)->(∀ a ∈ L,∀ b,Shr h0 R.hs a b) ->
  (L.foldl (λ R a=>ZB5 e a R) R).le.length<=R.le.length+(L.map λ a=>if ZIk e a h0=true then ZHm e.r e.ts.length h0 a else 0).sum
 | [],R,_,_,_,_,_=>Nat.le_refl _
 | a :: L,R,w,hu,nd,hl,hs=>by
  have ha:=hl a (List.mem_cons_self ..)
  have nd:=List.nodup_cons.mp nd
  have ih:=ZHS (R:=ZB5 e a R) ho hn w0 (ZGK ho hn w ha).1 ((ZKY ho hn w ha).up.trans hu) nd.2 (λ c hc=>hl c (List.mem_cons_of_mem _ hc)) λ c hc b=>(hs c (List.mem_cons_of_mem _ hc) b).trans (ZMS λ z:c=a=>nd.1 (z ▸ hc))
  rw [List.foldl_cons,List.map_cons,List.sum_cons]
  have h1:(ZB5 e a R).le.length<=R.le.length+if ZIk e a h0=true then ZHm e.r e.ts.length h0 a else 0:=by
   have ea:ZIk e a R.hs=ZIk e a h0:=by
    unfold ZIk
    rw [ZKJ hu a]
   unfold ZB5
   rw [ea]
   split
   ·have:=ZOy ho hn w ha
    have pm:=Nat.mul_le_mul_left (ZBl e.r e.ts.length) (Nat.add_le_add_left (ZJV w0 w ha (hs a (List.mem_cons_self ..))) 1)
    unfold ZHm
    omega
   ·exact Nat.le_refl _
  omega
theorem ZHd {x a b:Nat}:∀ {L:List Nat} {R:Rw},Shr R.hs (L.foldl (λ R y=>if y=x then R else (ZBD e x y R).2) R).hs a b
 | [],R=>.refl
 | y :: L,R=>by
  rw [List.foldl_cons]
  refine Shr.trans ?_ (ZHd (L:=L))
  split
  ·exact .refl
  ·exact ZGk
theorem ZHk {a b:Nat}:∀ {L:List Int} {R:Rw},Shr R.hs (L.foldl (λ (R:Rw) (x:Int)=>ZAx e x.toNat R) R).hs a b
 | [],R=>.refl
 | y :: L,R=>by
  rw [List.foldl_cons]
  exact Shr.trans (ZHd (e:=e) (x:=y.toNat) (L:=List.range e.ts.length) (R:=R)) (ZHk (L:=L))
end
theorem ZHv {a b:Nat}:∀ {L:List Int} {hs:List Hs},Shr hs (L.foldl (λ hs x=>ZBj x.toNat hs) hs) a b
 | [],_=>.refl
 | x :: L,hs=>by
  rw [List.foldl_cons]
  refine Shr.trans ?_ (ZHv (L:=L))
  unfold ZBj
  exact ZF7 λ z h=>by subst z; exact h
theorem ZI3 {n b:Nat}:(List.replicate n (0:Int)).getD b 0=0:=by
 rw [List.getD_eq_getElem?_getD,List.getElem?_replicate]
 split <;> rfl
theorem ZNY {fa le co:List Int} {hs:List Hs} {a b:Nat} (ha:a < hs.length):Shr hs (ZAU fa le co hs) a b:=by
 unfold Shr tmr ZAU
 rw [List.getD_eq_getElem?_getD (l:=List.map _ _),List.getElem?_map,List.getElem?_range ha]
 show 0 < (doH fa le co a (hs.getD a H0)).2.2.2.getD b 0->_
 unfold doH
 split
 ·intro z
  dsimp only at z
  rw [ZI3] at z
  cases z
 ·split
  ·intro z
   dsimp only at z
   rw [ZI3] at z
   cases z
  ·split <;> exact id
def ZFl (tn:Int) (hs:List Hs) (ts:List (Int × Int)) (fa le co:List Int) (a:Nat):Bool:=((decide ((hs.getD a H0).1=1) && !((fa ++ le).contains (a:Int))) || co.contains (a:Int)) && decide ((tn - (ts.getD a (0,0)).2) % (ts.getD a (0,0)).1=0)
theorem ZOS {n:Nat} {x:Int} (h : 0<=x/\x < n):(ZNl n x).length=n - 1:=by
 unfold ZNl
 rw [List.length_map]
 have e:∀ m:Nat,((List.range m).filter λ y:Nat=>!decide ((y:Int)=x)).length=if x < m then m - 1 else m:=by
  intro m
  induction m with
  | zero=>rw [if_neg (by omega)]; rfl
  | succ m ih =>
   rw [List.range_succ,List.filter_append,List.length_append,ih]
   by_cases z:(m:Int)=x
   ·rw [List.filter_cons_of_neg (by rw [decide_eq_true z]; exact Bool.false_ne_true),if_neg (by omega),if_pos (by omega)]
    rfl
   ·rw [List.filter_cons_of_pos (by rw [decide_eq_false z]; rfl)]
    show _+1=_
    split <;> split <;> omega
 rw [e,if_pos h.2]
theorem ZJ9 {n:Nat}:∀ {L:List Int},(∀ x ∈ L,0<=x/\x < n)->((L.map (ZNl n)).flatten).length=(n - 1) * L.length
 | [],_=>rfl
 | x :: L,h=>by
  rw [List.map_cons,List.flatten_cons,List.length_append,ZOS (h x (List.mem_cons_self ..)),ZJ9 λ y hy=>h y (List.mem_cons_of_mem _ hy),List.length_cons,Nat.mul_succ,Nat.add_comm]
theorem ZJF {α : Type} {f g : α->Nat}:∀ {L:List α},(∀ x ∈ L,f x<=g x)->(L.map f).sum<=(L.map g).sum
 | [],_=>Nat.le_refl _
 | x :: L,h=>by
  rw [List.map_cons,List.map_cons,List.sum_cons,List.sum_cons]
  exact Nat.add_le_add (h x (List.mem_cons_self ..)) (ZJF λ y hy=>h y (List.mem_cons_of_mem _ hy))
theorem ZMj {r:Ru} {ts:List (Int × Int)} {tn:Int} {hs:List Hs} {lo fa le co:List Int} (ho : 0<=r.o/\r.o<=3) (n2 : 2<=ts.length) (w:HsL ts.length hs) (hle:∀ k ∈ le,0<=k/\k < ts.length) (hco:∀ k ∈ co,0<=k/\k < ts.length) :
  (ZEO r ts tn hs lo fa le co).le.length<=(ts.length - 1) * (le ++ co).length+((List.range ts.length).map λ a=>if ZFl tn hs ts fa le co a=true then ZHm r ts.length hs a else 0).sum:=by
 have hx0:∀ x ∈ le ++ co,0<=x/\x < ts.length:=λ x hx=>(List.mem_append.mp hx).elim (hle x) (hco x)
 have hx:∀ x ∈ le ++ co,x.toNat < ts.length:=λ x hx=>by
  have:=hx0 x hx
  omega
 have wd:=ZIu (fa:=fa) (le:=le) (co:=co) w
 have g1:Grow ⟨r,ts,tn,lo⟩ ⟨ZAU fa le co hs,[]⟩ ((le ++ co).foldl (λ (R:Rw) (x:Int)=>ZAx ⟨r,ts,tn,lo⟩ x.toNat R) ⟨ZAU fa le co hs,[]⟩):=ZD6 (n:=ts.length) (f:=λ (R:Rw) (x:Int)=>ZAx ⟨r,ts,tn,lo⟩ x.toNat R) wd λ x h R w=>⟨(ZD1 (e:=⟨r,ts,tn,lo⟩) w (hx x h)).1,ZLo (e:=⟨r,ts,tn,lo⟩) w (hx x h)⟩
 have s1:∀ a b,Shr (ZAU fa le co hs) ((le ++ co).foldl (λ (R:Rw) (x:Int)=>ZAx ⟨r,ts,tn,lo⟩ x.toNat R) ⟨ZAU fa le co hs,[]⟩).hs a b:=λ a b=>ZHk (e:=⟨r,ts,tn,lo⟩) (R:=⟨ZAU fa le co hs,[]⟩)
 have k1:HsL ts.length ((le ++ co).foldl (λ (R:Rw) (x:Int)=>ZAx ⟨r,ts,tn,lo⟩ x.toNat R) ⟨ZAU fa le co hs,[]⟩).hs:=(ZCf (f:=λ (R:Rw) (x:Int)=>ZAx ⟨r,ts,tn,lo⟩ x.toNat R) (n:=ts.length) (m:=ts.length) wd λ x h R w=>ZD1 (e:=⟨r,ts,tn,lo⟩) w (hx x h)).1
 have p1:=ZJO (e:=⟨r,ts,tn,lo⟩) (L:=le ++ co) (R:=⟨ZAU fa le co hs,[]⟩) λ x h=>(hx0 x h).1
 generalize hR1:(le ++ co).foldl (λ (R:Rw) (x:Int)=>ZAx ⟨r,ts,tn,lo⟩ x.toNat R) ⟨ZAU fa le co hs,[]⟩=R1 at *
 have k2:=ZF3 (L:=le) k1 λ x h=>hx x (List.mem_append_left _ h)
 have tf:=ZHS (e:=⟨r,ts,tn,lo⟩) (R:=⟨le.foldl (λ hs x=>ZBj x.toNat hs) R1.hs,R1.le⟩) ho n2 k2 k2 rfl List.nodup_range (λ a ha=>List.mem_range.mp ha) λ a _ b=>.refl
 have es:ZEO r ts tn hs lo fa le co=ZQL ⟨r,ts,tn,lo⟩ ⟨le.foldl (λ hs x=>ZBj x.toNat hs) R1.hs,R1.le⟩:=by
  unfold ZEO
  dsimp only
  rw [hR1]
 have l1:R1.le.length=(ts.length - 1) * (le ++ co).length:=by
  have:=congrArg List.length p1
  unfold prL at this
  rw [List.length_map,List.length_append] at this
  rw [this]
  exact (Nat.zero_add _).trans (ZJ9 hx0)
 rw [es]
 refine Nat.le_trans tf ?_
 show R1.le.length+_<=_
 rw [l1]
 refine Nat.add_le_add_left (ZJF λ a ha=>?_) _
 have ha:a < ts.length:=List.mem_range.mp ha
 split
 ·rename_i h3
  have pm:ZFn (le.foldl (λ hs x=>ZBj x.toNat hs) R1.hs) a<=ZFn hs a:=ZJV w k2 ha λ b=>(ZNY (by rw [w.len]; exact ha)).trans ((s1 a b).trans ZHv)
  have yes:ZFl tn hs ts fa le co a=true:=by
   unfold ZIk ZJQ at h3
   rw [Bool.and_eq_true,Bool.and_eq_true] at h3
   have hu:((le.foldl (λ hs x=>ZBj x.toNat hs) R1.hs).getD a H0).1=1:=of_decide_eq_true h3.1
   rw [ZM9 (by rw [k1.len]; exact ha) λ k hk=>(hle k hk).1,ZKJ g1.up a,show (⟨ZAU fa le co hs,[]⟩:Rw).hs=ZAU fa le co hs from rfl,ZP1 (by rw [w.len]; exact ha)] at hu
   unfold ZFl
   rw [show decide ((tn - (ts.getD a (0,0)).2) % (ts.getD a (0,0)).1=0)=true from h3.2.2,Bool.and_true]
   by_cases h1:(a:Int) ∈ le
   ·rw [if_pos h1] at hu; cases hu
   ·rw [if_neg h1] at hu
    by_cases h2:(a:Int) ∈ fa
    ·rw [if_pos h2] at hu; cases hu
    ·rw [if_neg h2] at hu
     rw [if_neg h1] at hu
     by_cases h3:(a:Int) ∈ co
     ·rw [show co.contains (a:Int)=true by simpa using h3,Bool.or_true]
     ·rw [if_neg h3] at hu
      rw [decide_eq_true hu,show (fa ++ le).contains (a:Int)=false by
       rw [← Bool.not_eq_true,List.contains_iff_mem,List.mem_append]
       exact λ z=>z.elim h2 h1]
      rfl
  rw [if_pos yes]
  exact Nat.mul_le_mul_left _ (Nat.add_le_add_left pm 1)
 ·exact Nat.zero_le _
end L2
namespace L2
open PySem PySem.Spec PyProof.Rows H1
section
variable {e:En} {n:Nat}
end
end L2
namespace L2
open PySem PySem.Spec PyProof.Rows H1
section
variable {e:En}
end
end L2
namespace L2
open PySem PySem.Spec PyProof.Rows H1
section
variable {X:Cx}
end
section
variable {sd:Sd} {g:G} {P:W->G->Prop} {d:DE}
end
section
variable {X:Cx}
end
section
variable {g:G} {P:W->G->Prop}
end
end L2
namespace K91
open PySem PySem.Spec PyProof.Rows L2 H1
abbrev ZY:CD:=⟨"Road",["rules","town","state","lost","letters"]⟩
def top (i:Nat):Stmt:=PySem.Challenge.pw_hearsaybook_k91_whole_no_more_letters.main.body.getD i (.Pass ⟨0,0,0,0⟩)
structure Adr where
 (c_Road:Addr)
 (f_is_whole f_is_count f_is_tuple_of f_rises f_put f_newer f_ticks f_ticks_by f_target f_notes_of f_due_houses f_news_houses f_taken f_refuted f_noted f_gives_way f_posted f_with_house f_asks_any f_asked_in_order f_asks_now f_is_about f_ways f_helpers f_judged f_is_doings f_are_rising f_are_apart f_are_houses f_stepped f_done f_write_to_all f_stop f_ask_all f_is_answered f_comes_through f_walked f_trail f_most_helpers f_letters_most f_begun f__law_box f__law_take f__law_rules f__law_town f__law_state f__law_lost f__law_doings f__law_most f__law_right f_Road____init__ f_Road__sends:Addr)
 (fd_is_whole fd_is_count fd_is_tuple_of fd_rises fd_put fd_newer fd_ticks fd_ticks_by fd_target fd_notes_of fd_due_houses fd_news_houses fd_taken fd_refuted fd_noted fd_gives_way fd_posted fd_with_house fd_asks_any fd_asked_in_order fd_asks_now fd_is_about fd_ways fd_helpers fd_judged fd_is_doings fd_are_rising fd_are_apart fd_are_houses fd_stepped fd_done fd_write_to_all fd_stop fd_ask_all fd_is_answered fd_comes_through fd_walked fd_trail fd_most_helpers fd_letters_most fd_begun fd__law_box fd__law_take fd__law_rules fd__law_town fd__law_state fd__law_lost fd__law_doings fd__law_most fd__law_right fd_Road____init__ fd_Road__sends:FuncData)
structure Txt (K:PySem.W.Frag) (mg:Str->Option Value) (A:Adr):Prop where
 z_abs:mg "abs" = none
 z_all:mg "all" = none
 z_bool:mg "bool" = none
 z_enumerate:mg "enumerate" = none
 z_int:mg "int" = none
 z_isinstance:mg "isinstance" = none
 z_len:mg "len" = none
 z_min:mg "min" = none
 z_range:mg "range" = none
 z_sorted:mg "sorted" = none
 z_tuple:mg "tuple" = none
 z_zip:mg "zip" = none
 g_ALIVE:ZKS mg "ALIVE" 0
 g_SUSPECT:ZKS mg "SUSPECT" 1
 g_GONE:ZKS mg "GONE" 2
 g_LEFT:ZKS mg "LEFT" 3
 k_Road:Kls K mg ZY A.c_Road
 m_Road:Mk K A.c_Road A.f_Road____init__
 D_is_whole:Def K mg "is_whole" (top 1) ["thing"] A.f_is_whole A.fd_is_whole
 D_is_count:Def K mg "is_count" (top 2) ["thing"] A.f_is_count A.fd_is_count
 D_is_tuple_of:Def K mg "is_tuple_of" (top 3) ["thing","length"] A.f_is_tuple_of A.fd_is_tuple_of
 D_rises:Def K mg "rises" (top 4) ["things"] A.f_rises A.fd_rises
 D_put:Def K mg "put" (top 5) ["things","place","thing"] A.f_put A.fd_put
 D_newer:Def K mg "newer" (top 11) ["one","other"] A.f_newer A.fd_newer
 D_ticks:Def K mg "ticks" (top 13) ["town","house","turn"] A.f_ticks A.fd_ticks
 D_ticks_by:Def K mg "ticks_by" (top 14) ["town","house","turn"] A.f_ticks_by A.fd_ticks_by
 D_target:Def K mg "target" (top 15) ["town","house","turn"] A.f_target A.fd_target
 D_notes_of:Def K mg "notes_of" (top 17) ["rules","town","state","x","y"] A.f_notes_of A.fd_notes_of
 D_due_houses:Def K mg "due_houses" (top 18) ["rules","town","turn","x","y"] A.f_due_houses A.fd_due_houses
 D_news_houses:Def K mg "news_houses" (top 19) ["rules","told","x","due"] A.f_news_houses A.fd_news_houses
 D_taken:Def K mg "taken" (top 20) ["rules","house","y","notes"] A.f_taken A.fd_taken
 D_refuted:Def K mg "refuted" (top 21) ["rules","house","y","word"] A.f_refuted A.fd_refuted
 D_noted:Def K mg "noted" (top 22) ["rules","house","about","word"] A.f_noted A.fd_noted
 D_gives_way:Def K mg "gives_way" (top 23) ["rules","old","word"] A.f_gives_way A.fd_gives_way
 D_posted:Def K mg "posted" (top 25) ["rules","town","state","x","y"] A.f_posted A.fd_posted
 D_with_house:Def K mg "with_house" (top 26) ["state","at","house"] A.f_with_house A.fd_with_house
 D_asks_any:Def K mg "asks_any" (top 27) ["town","state","a"] A.f_asks_any A.fd_asks_any
 D_asked_in_order:Def K mg "asked_in_order" (top 28) ["town","turn","a"] A.f_asked_in_order A.fd_asked_in_order
 D_asks_now:Def K mg "asks_now" (top 29) ["rules","town","state","a","b"] A.f_asks_now A.fd_asks_now
 D_is_about:Def K mg "is_about" (top 30) ["book","house"] A.f_is_about A.fd_is_about
 D_ways:Def K mg "ways" (top 31) ["rules","state","a","b"] A.f_ways A.fd_ways
 D_helpers:Def K mg "helpers" (top 32) ["rules","book","a","b"] A.f_helpers A.fd_helpers
 D_judged:Def K mg "judged" (top 33) ["rules","state","a","b","answered"] A.f_judged A.fd_judged
 D_is_doings:Def K mg "is_doings" (top 35) ["state","thing"] A.f_is_doings A.fd_is_doings
 D_are_rising:Def K mg "are_rising" (top 36) ["thing"] A.f_are_rising A.fd_are_rising
 D_are_apart:Def K mg "are_apart" (top 37) ["some","others"] A.f_are_apart A.fd_are_apart
 D_are_houses:Def K mg "are_houses" (top 38) ["state","numbers","up"] A.f_are_houses A.fd_are_houses
 D_stepped:Def K mg "stepped" (top 44) ["rules","town","state","doings"] A.f_stepped A.fd_stepped
 D_done:Def K mg "done" (top 45) ["houses","doings"] A.f_done A.fd_done
 D_write_to_all:Def K mg "write_to_all" (top 46) ["road","x"] A.f_write_to_all A.fd_write_to_all
 D_stop:Def K mg "stop" (top 47) ["road","x"] A.f_stop A.fd_stop
 D_ask_all:Def K mg "ask_all" (top 48) ["road","a"] A.f_ask_all A.fd_ask_all
 D_is_answered:Def K mg "is_answered" (top 49) ["road","a","b"] A.f_is_answered A.fd_is_answered
 D_comes_through:Def K mg "comes_through" (top 50) ["road","way"] A.f_comes_through A.fd_comes_through
 D_walked:Def K mg "walked" (top 51) ["rules","town","state","row"] A.f_walked A.fd_walked
 D_trail:Def K mg "trail" (top 52) ["rules","town","state","row"] A.f_trail A.fd_trail
 D_most_helpers:Def K mg "most_helpers" (top 54) ["rules","town"] A.f_most_helpers A.fd_most_helpers
 D_letters_most:Def K mg "letters_most" (top 55) ["rules","town","state","doings"] A.f_letters_most A.fd_letters_most
 D_begun:Def K mg "begun" (top 57) ["rules","town"] A.f_begun A.fd_begun
 D__law_box:Def K mg "_law_box" (top 59) ["_law_script","_law_k"] A.f__law_box A.fd__law_box
 D__law_take:Def K mg "_law_take" (top 60) ["_law_box_here","_law_many"] A.f__law_take A.fd__law_take
 D__law_rules:Def K mg "_law_rules" (top 61) ["_law_box_here","_law_whole"] A.f__law_rules A.fd__law_rules
 D__law_town:Def K mg "_law_town" (top 62) ["_law_box_here","_law_most_here"] A.f__law_town A.fd__law_town
 D__law_state:Def K mg "_law_state" (top 63) ["_law_box_here","_law_rules_here","_law_town_here"] A.f__law_state A.fd__law_state
 D__law_lost:Def K mg "_law_lost" (top 64) ["_law_box_here","_law_most_here"] A.f__law_lost A.fd__law_lost
 D__law_doings:Def K mg "_law_doings" (top 65) ["_law_box_here","_law_state_here","_law_moves"] A.f__law_doings A.fd__law_doings
 D__law_most:Def K mg "_law_most" (top 66) ["_law_rules_here","_law_town_here","_law_state_here","_law_doings_here"] A.f__law_most A.fd__law_most
 D__law_right:Def K mg "_law_right" (top 67) ["_law_rules_here","_law_town_here","_law_state_here","_law_doings_here","_law_letters"] A.f__law_right A.fd__law_right
 D_Road____init__:MDef K A.c_Road "__init__" "Road.__init__" (ZCp (top 43) 0) ["self","rules","town","state","lost"] A.f_Road____init__ A.fd_Road____init__
 D_Road__sends:MDef K A.c_Road "sends" "Road.sends" (ZCp (top 43) 1) ["self","x","y"] A.f_Road__sends A.fd_Road__sends
@[reducible] noncomputable def ZEh:DS :=
 (Za (ZBg (dF ZKK (ZC (ZD 0) (ZC (λ _ g=>some (.ty "int",g)) ZL))) (ZHc (dF ZKK (ZC (ZD 0) (ZC (λ _ g=>some (.ty "bool",g)) ZL))))))
@[irreducible] noncomputable def ZBP:List W->G->Option (W × G):=Z3 1 ZEh
theorem ZJ8 {a0:W} {g:G} {P:W->G->Prop} (h:EvS (ZEh [some a0] g) (runP P)):EvP (ZBP [a0] g) P:=by
 unfold ZBP
 exact Zf h
@[reducible] noncomputable def ZEV:DS :=
 (Za (ZBg (dF ZBP (ZC (ZD 0) ZL)) (dOp ZPC (ZD 0) (dC (.int 0)))))
@[irreducible] noncomputable def ZBR:List W->G->Option (W × G):=Z3 1 ZEV
theorem ZJU {a0:W} {g:G} {P:W->G->Prop} (h:EvS (ZEV [some a0] g) (runP P)):EvP (ZBR [a0] g) P:=by
 unfold ZBR
 exact Zf h
@[reducible] noncomputable def ZCx:DS :=
 (Za (ZBg (dF ZKK (ZC (ZD 0) (ZC (λ _ g=>some (.ty "tuple",g)) ZL))) (dOp ZBL (dF (f1 ZBq) (ZC (ZD 0) ZL)) (ZD 1))))
@[irreducible] noncomputable def ZAe:List W->G->Option (W × G):=Z3 2 ZCx
theorem ZGh {a0 a1:W} {g:G} {P:W->G->Prop} (h:EvS (ZCx [some a0,some a1] g) (runP P)):EvP (ZAe [a0,a1] g) P:=by
 unfold ZAe
 exact Zf h
@[reducible] noncomputable def ZIs:DS :=
 (Za (dF (f1 ZGD) (ZC (ZAh 2 [] (.tp (.cons (.nm 0) (.cons (.nm 1) .nil))) (ZI4 (ZC (ZD 0) (ZC (dSl (ZD 0) (ZDZ (dC (.int 1))) ZBe) ZL))) ZDf (dOp ZFy (ZD 0) (ZD 1))) ZL)))
@[irreducible] noncomputable def ZDM:List W->G->Option (W × G):=Z3 1 ZIs
theorem ZM0 {a0:W} {g:G} {P:W->G->Prop} (h:EvS (ZIs [some a0] g) (runP P)):EvP (ZDM [a0] g) P:=by
 unfold ZDM
 exact Zf h
@[reducible] noncomputable def ZMf:DS :=
 (Za (dOp Zs (dOp Zs (dSl (ZD 0) ZBe (ZDZ (ZD 1))) (dF Zw (ZC (ZD 2) ZL))) (dSl (ZD 0) (ZDZ (dOp Zs (ZD 1) (dC (.int 1)))) ZBe)))
@[irreducible] noncomputable def ZAo:List W->G->Option (W × G):=Z3 3 ZMf
theorem ZRS {a0 a1 a2:W} {g:G} {P:W->G->Prop} (h:EvS (ZMf [some a0,some a1,some a2] g) (runP P)):EvP (ZAo [a0,a1,a2] g) P:=by
 unfold ZAo
 exact Zf h
@[reducible] noncomputable def ZIc:DS :=
 (Za (dOp ZJN (ZD 0) (ZD 1)))
@[irreducible] noncomputable def ZCm:List W->G->Option (W × G):=Z3 2 ZIc
theorem ZNx {a0 a1:W} {g:G} {P:W->G->Prop} (h:EvS (ZIc [some a0,some a1] g) (runP P)):EvP (ZCm [a0,a1] g) P:=by
 unfold ZCm
 exact Zf h
@[reducible] noncomputable def ZIE:DS :=
 (ZP (ZAO (.tp (.cons (.nm 3) (.cons (.nm 4) .nil))) (dOp Zm (ZD 0) (ZD 1)))
 (Za (ZBg (dOp ZPC (ZD 2) (ZD 4)) (dOp ZBL (dOp ZCd (dOp ZCo (ZD 2) (ZD 4)) (ZD 3)) (dC (.int 0))))))
@[irreducible] noncomputable def ZCj:List W->G->Option (W × G):=Z3 5 ZIE
theorem ZJm {a0 a1 a2:W} {g:G} {P:W->G->Prop} (h:EvS (ZIE [some a0,some a1,some a2,none,none] g) (runP P)):EvP (ZCj [a0,a1,a2] g) P:=by
 unfold ZCj
 exact Zf h
@[reducible] noncomputable def ZEj:DS :=
 (ZP (ZAO (.tp (.cons (.nm 3) (.cons (.nm 4) .nil))) (dOp Zm (ZD 0) (ZD 1)))
 (ZP (Z5 (dB (dOp ZFy (ZD 2) (ZD 4)))
 (Za (dC (.int 0)))
 dNx)
 (Za (dOp Zs (dOp ZFB (dOp ZCo (ZD 2) (ZD 4)) (ZD 3)) (dC (.int 1))))))
@[irreducible] noncomputable def ZBB:List W->G->Option (W × G):=Z3 5 ZEj
theorem ZJh {a0 a1 a2:W} {g:G} {P:W->G->Prop} (h:EvS (ZEj [some a0,some a1,some a2,none,none] g) (runP P)):EvP (ZBB [a0,a1,a2] g) P:=by
 unfold ZBB
 exact Zf h
@[reducible] noncomputable def ZGx:DS :=
 (ZP (Zi 3 (dF (f1 ZBq) (ZC (ZD 0) ZL)))
 (ZP (Zi 4 (dOp ZCo (dF ZBB (ZC (ZD 0) (ZC (ZD 1) (ZC (ZD 2) ZL)))) (dC (.int 1))))
 (Za (dOp ZCd (dOp Zs (dOp Zs (ZD 1) (dC (.int 1))) (dOp ZCd (ZD 4) (dOp ZCo (ZD 3) (dC (.int 1))))) (ZD 3)))))
@[irreducible] noncomputable def ZB6:List W->G->Option (W × G):=Z3 5 ZGx
theorem ZMJ {a0 a1 a2:W} {g:G} {P:W->G->Prop} (h:EvS (ZGx [some a0,some a1,some a2,none,none] g) (runP P)):EvP (ZB6 [a0,a1,a2] g) P:=by
 unfold ZB6
 exact Zf h
@[reducible] noncomputable def ZDV:DS :=
 (ZP (Zi 5 (dOp Zm (ZD 0) (dC (.int 4))))
 (ZP (Zi 6 (dF ZCq (ZC (ZD 4) ZL)))
 (ZP (Z5 (dB (dOp ZC0 (dC (.str "own")) (ZD 5)))
 (ZA3 (ZEG (ZD 6) (ZD 3)))
 dNx)
 (ZP (Zi 7 (dOp ZCd (dF ZBB (ZC (ZD 1) (ZC (ZD 3) (ZC (ZD 2) ZL)))) (dF (f1 ZBq) (ZC (ZD 1) ZL))))
 (ZP (Z5 (ZCG (dB (dOp ZC0 (dC (.str "about")) (ZD 5))) (dB (dOp ZEH (ZD 7) (ZD 3))))
 (ZA3 (ZEG (ZD 6) (ZD 7)))
 dNx)
 (Za (ZD 6)))))))
@[irreducible] noncomputable def ZAt:List W->G->Option (W × G):=Z3 8 ZDV
theorem ZG5 {a0 a1 a2 a3 a4:W} {g:G} {P:W->G->Prop} (h:EvS (ZDV [some a0,some a1,some a2,some a3,some a4,none,none,none] g) (runP P)):EvP (ZAt [a0,a1,a2,a3,a4] g) P:=by
 unfold ZAt
 exact Zf h
@[reducible] noncomputable def ZCw:DS :=
 (ZP (ZAO (.tp (.cons (.nm 4) (.cons (.nm 5) (.cons (.nm 6) (.cons (.nm 7) (.cons (.nm 8) .nil)))))) (ZD 0))
 (ZP (Zi 9 (ZAh 2 [6,2,3] (.tp (.cons (.nm 0) (.cons (.nm 1) .nil))) (ZCe (ZC (ZD 1) ZL)) (ZCG (dB (dOp ZFy (ZD 1) (ZD 2))) (ZCG (dB (dOp ZEH (ZD 0) (ZD 3))) (dB (dOp ZCN (ZD 0) (ZD 4))))) (dF Zw (ZC (ZD 1) (ZC (ZD 0) ZL)))))
 (Za (ZAh 2 [] (.tp (.cons (.nm 0) (.cons (.nm 1) .nil))) (ZCb (dSl (dF (f1 ZNo) (ZC (ZD 9) ZL)) ZBe (ZDZ (ZD 7)))) ZDf (ZD 1)))))
@[irreducible] noncomputable def ZAg:List W->G->Option (W × G):=Z3 10 ZCw
theorem ZGd {a0 a1 a2 a3:W} {g:G} {P:W->G->Prop} (h:EvS (ZCw [some a0,some a1,some a2,some a3,none,none,none,none,none,none] g) (runP P)):EvP (ZAg [a0,a1,a2,a3] g) P:=by
 unfold ZAg
 exact Zf h
@[reducible] noncomputable def ZEi:DS :=
 (ZP (ZAO (.tp (.cons (.nm 5) (.cons (.nm 6) .nil))) (ZD 2))
 (ZP (ZAO (.tp (.cons (.nm 7) (.cons (.nm 8) (.cons (.nm 9) (.cons (.nm 10) .nil))))) (dOp Zm (ZD 6) (ZD 3)))
 (ZP (Zi 11 (dF ZAt (ZC (ZD 0) (ZC (ZD 1) (ZC (ZD 5) (ZC (ZD 3) (ZC (ZD 4) ZL)))))))
 (ZP (Zi 12 (dF ZAg (ZC (ZD 0) (ZC (ZD 9) (ZC (ZD 3) (ZC (ZD 11) ZL))))))
 (ZP (Zi 13 (dF (f1 ZDh) (ZC (ZAh 2 [11,12] (.tp (.cons (.nm 0) (.cons (.nm 1) .nil))) (ZCe (ZC (ZD 8) ZL)) (dOr (dB (dOp ZC0 (ZD 0) (ZD 2))) (dB (dOp ZC0 (ZD 0) (ZD 3)))) (dF Zw (ZC (ZD 0) (ZC (ZD 1) ZL)))) ZL)))
 (ZP (ZCK (.nm 14) (ZCb (ZD 12))
 (Zi 9 (dF ZAo (ZC (ZD 9) (ZC (ZD 14) (ZC (dOp Zs (dOp Zm (ZD 9) (ZD 14)) (dC (.int 1))) ZL))))))
 (Za (dF Zw (ZC (ZD 13) (ZC (ZD 9) ZL))))))))))
@[irreducible] noncomputable def ZBV:List W->G->Option (W × G):=Z3 15 ZEi
theorem ZJn {a0 a1 a2 a3 a4:W} {g:G} {P:W->G->Prop} (h:EvS (ZEi [some a0,some a1,some a2,some a3,some a4,none,none,none,none,none,none,none,none,none,none] g) (runP P)):EvP (ZBV [a0,a1,a2,a3,a4] g) P:=by
 unfold ZBV
 exact Zf h
@[reducible] noncomputable def ZFR:DS :=
 (ZP (ZAO (.tp (.cons (.nm 4) (.cons (.nm 5) (.cons (.nm 6) (.cons (.nm 7) .nil))))) (ZD 1))
 (ZP (Z5 (ZCG (dB (dOp ZBL (ZD 4) (dC (.int 1)))) (ZCG (dB (dOp ZC0 (dC (.str "refute")) (dOp Zm (ZD 0) (dC (.int 4))))) (dB (dF ZCm (ZC (ZD 3) (ZC (dOp Zm (ZD 5) (ZD 2)) ZL))))))
 (ZP (ZAO (.tp (.cons (.nm 8) (.cons (.nm 9) .nil))) (ZD 3))
 (Za (dF Zw (ZC (ZD 4) (ZC (dF ZAo (ZC (ZD 5) (ZC (ZD 2) (ZC (dF Zw (ZC (dOp Zs (ZD 8) (dC (.int 1))) (ZC (dC (.int 0)) ZL))) ZL)))) (ZC (dF ZAo (ZC (ZD 6) (ZC (ZD 2) (ZC (dC (.int 0)) ZL)))) (ZC (ZD 7) ZL)))))))
 dNx)
 (Za (ZD 1))))
@[irreducible] noncomputable def ZBX:List W->G->Option (W × G):=Z3 10 ZFR
theorem ZKV {a0 a1 a2 a3:W} {g:G} {P:W->G->Prop} (h:EvS (ZFR [some a0,some a1,some a2,some a3,none,none,none,none,none,none] g) (runP P)):EvP (ZBX [a0,a1,a2,a3] g) P:=by
 unfold ZBX
 exact Zf h
@[reducible] noncomputable def ZDj:DS :=
 (ZP (Z5 (dB (dOp ZC0 (dC (.str "newer")) (dOp Zm (ZD 0) (dC (.int 4)))))
 (Za (dF ZCm (ZC (ZD 2) (ZC (ZD 1) ZL))))
 dNx)
 (Za (dOp ZEH (ZD 2) (ZD 1))))
@[irreducible] noncomputable def ZBE:List W->G->Option (W × G):=Z3 3 ZDj
theorem ZIY {a0 a1 a2:W} {g:G} {P:W->G->Prop} (h:EvS (ZDj [some a0,some a1,some a2] g) (runP P)):EvP (ZBE [a0,a1,a2] g) P:=by
 unfold ZBE
 exact Zf h
@[reducible] noncomputable def ZIj:DS :=
 (ZP (ZAO (.tp (.cons (.nm 4) (.cons (.nm 5) (.cons (.nm 6) (.cons (.nm 7) .nil))))) (ZD 1))
 (ZP (Z5 (ZE6 (dB (dF ZBE (ZC (ZD 0) (ZC (dOp Zm (ZD 5) (ZD 2)) (ZC (ZD 3) ZL))))))
 (Za (ZD 1))
 dNx)
 (ZP (ZAO (.tp (.cons (.nm 8) (.cons (.nm 9) .nil))) (ZD 3))
 (ZP (Z5 (dB (dOp ZEH (ZD 9) (dC (.int 1))))
 (Zi 7 (dF ZAo (ZC (ZD 7) (ZC (ZD 2) (ZC (dC (.int 0)) ZL)))))
 dNx)
 (Za (dF Zw (ZC (ZD 4) (ZC (dF ZAo (ZC (ZD 5) (ZC (ZD 2) (ZC (ZD 3) ZL)))) (ZC (dF ZAo (ZC (ZD 6) (ZC (ZD 2) (ZC (dC (.int 0)) ZL)))) (ZC (ZD 7) ZL))))))))))
@[irreducible] noncomputable def ZCi:List W->G->Option (W × G):=Z3 10 ZIj
theorem ZM1 {a0 a1 a2 a3:W} {g:G} {P:W->G->Prop} (h:EvS (ZIj [some a0,some a1,some a2,some a3,none,none,none,none,none,none] g) (runP P)):EvP (ZCi [a0,a1,a2,a3] g) P:=by
 unfold ZCi
 exact Zf h
@[reducible] noncomputable def ZIQ:DS :=
 (ZP (ZCK (.tp (.cons (.nm 4) (.cons (.nm 5) .nil))) (ZCb (ZD 3))
 (Z5 (dB (dOp ZBL (ZD 4) (ZD 2)))
 (Zi 1 (dF ZBX (ZC (ZD 0) (ZC (ZD 1) (ZC (ZD 2) (ZC (ZD 5) ZL))))))
 (Zi 1 (dF ZCi (ZC (ZD 0) (ZC (ZD 1) (ZC (ZD 4) (ZC (ZD 5) ZL))))))))
 (Za (ZD 1)))
@[irreducible] noncomputable def ZDK:List W->G->Option (W × G):=Z3 6 ZIQ
theorem ZNE {a0 a1 a2 a3:W} {g:G} {P:W->G->Prop} (h:EvS (ZIQ [some a0,some a1,some a2,some a3,none,none] g) (runP P)):EvP (ZDK [a0,a1,a2,a3] g) P:=by
 unfold ZDK
 exact Zf h
@[reducible] noncomputable def ZDH:DS :=
 (ZP (ZAO (.tp (.cons (.nm 3) (.cons (.nm 4) .nil))) (ZD 0))
 (Za (dF Zw (ZC (ZD 3) (ZC (dF ZAo (ZC (ZD 4) (ZC (ZD 1) (ZC (ZD 2) ZL)))) ZL)))))
@[irreducible] noncomputable def Z1:List W->G->Option (W × G):=Z3 5 ZDH
theorem ZG4 {a0 a1 a2:W} {g:G} {P:W->G->Prop} (h:EvS (ZDH [some a0,some a1,some a2,none,none] g) (runP P)):EvP (Z1 [a0,a1,a2] g) P:=by
 unfold Z1
 exact Zf h
@[reducible] noncomputable def ZGW:DS :=
 (ZP (ZAO (.tp (.cons (.nm 5) (.cons (.nm 6) .nil))) (ZD 2))
 (ZP (ZAO (.tp (.cons (.nm 7) (.cons (.nm 8) .nil))) (dF ZBV (ZC (ZD 0) (ZC (ZD 1) (ZC (ZD 2) (ZC (ZD 3) (ZC (ZD 4) ZL)))))))
 (ZP (ZAO (.tp (.cons (.nm 9) (.cons (.nm 10) (.cons (.nm 11) (.cons (.nm 12) .nil))))) (dOp Zm (ZD 6) (ZD 3)))
 (ZP (Zi 13 (dF Zw (ZC (ZD 5) (ZC (dF ZAo (ZC (ZD 6) (ZC (ZD 3) (ZC (dF Zw (ZC (ZD 9) (ZC (ZD 10) (ZC (ZD 8) (ZC (ZD 12) ZL))))) ZL)))) ZL))))
 (ZP (Z5 (dB (dOp ZBL (dOp Zm (dOp Zm (ZD 6) (ZD 4)) (dC (.int 0))) (dC (.int 0))))
 (Za (dF Zw (ZC (ZD 13) (ZC (dC .none) ZL))))
 dNx)
 (Za (dF Zw (ZC (ZD 13) (ZC (dF Z1 (ZC (ZD 13) (ZC (ZD 4) (ZC (dF ZDK (ZC (ZD 0) (ZC (dOp Zm (ZD 6) (ZD 4)) (ZC (ZD 4) (ZC (ZD 7) ZL))))) ZL)))) ZL)))))))))
@[irreducible] noncomputable def ZCa:List W->G->Option (W × G):=Z3 14 ZGW
theorem ZLi {a0 a1 a2 a3 a4:W} {g:G} {P:W->G->Prop} (h:EvS (ZGW [some a0,some a1,some a2,some a3,some a4,none,none,none,none,none,none,none,none,none] g) (runP P)):EvP (ZCa [a0,a1,a2,a3,a4] g) P:=by
 unfold ZCa
 exact Zf h
@[reducible] noncomputable def ZEa:DS :=
 (ZP (ZAO (.tp (.cons (.nm 3) (.cons (.nm 4) .nil))) (ZD 1))
 (Za (ZBg (dOp ZBL (dOp Zm (dOp Zm (ZD 4) (ZD 2)) (dC (.int 0))) (dC (.int 1))) (dF ZCj (ZC (ZD 0) (ZC (ZD 2) (ZC (ZD 3) ZL)))))))
@[irreducible] noncomputable def ZA5:List W->G->Option (W × G):=Z3 5 ZEa
theorem ZJS {a0 a1 a2:W} {g:G} {P:W->G->Prop} (h:EvS (ZEa [some a0,some a1,some a2,none,none] g) (runP P)):EvP (ZA5 [a0,a1,a2] g) P:=by
 unfold ZA5
 exact Zf h
@[reducible] noncomputable def ZBr:DS :=
 (ZP (Zi 3 (dF ZB6 (ZC (ZD 0) (ZC (ZD 2) (ZC (ZD 1) ZL)))))
 (Za (dOp Zs (dF ZFx (ZC (ZD 3) ZL)) (ZAh 1 [2,3] (.nm 0) (ZAV (ZC (dF (f1 ZBq) (ZC (ZD 0) ZL)) ZL)) (ZCG (dB (dOp ZEH (ZD 0) (ZD 1))) (dB (dOp ZEH (ZD 0) (ZD 2)))) (ZD 0)))))
@[irreducible] noncomputable def Z8:List W->G->Option (W × G):=Z3 4 ZBr
theorem ZEq {a0 a1 a2:W} {g:G} {P:W->G->Prop} (h:EvS (ZBr [some a0,some a1,some a2,none] g) (runP P)):EvP (Z8 [a0,a1,a2] g) P:=by
 unfold Z8
 exact Zf h
@[reducible] noncomputable def ZEn:DS :=
 (ZP (ZAO (.tp (.cons (.nm 2) (.cons (.nm 3) .nil))) (dOp Zm (ZD 0) (ZD 1)))
 (Za (dOp ZFy (ZD 3) (dC (.int 2)))))
@[irreducible] noncomputable def ZAs:List W->G->Option (W × G):=Z3 4 ZEn
theorem ZJv {a0 a1:W} {g:G} {P:W->G->Prop} (h:EvS (ZEn [some a0,some a1,none,none] g) (runP P)):EvP (ZAs [a0,a1] g) P:=by
 unfold ZAs
 exact Zf h
@[reducible] noncomputable def ZEm:DS :=
 (ZP (ZAO (.tp (.cons (.nm 5) (.cons (.nm 6) .nil))) (ZD 2))
 (ZP (ZAO (.tp (.cons (.nm 7) (.cons (.nm 8) (.cons (.nm 9) (.cons (.nm 10) .nil))))) (dOp Zm (ZD 6) (ZD 3)))
 (ZP (Z5 (dB (dOp ZBL (ZD 4) (dF ZB6 (ZC (ZD 1) (ZC (ZD 3) (ZC (ZD 5) ZL))))))
 (Za (ZKH (dOp ZC0 (dC (.str "again")) (dOp Zm (ZD 0) (dC (.int 4)))) (dF ZAs (ZC (ZD 8) (ZC (ZD 4) ZL)))))
 dNx)
 (Za (dOp ZJN (dOp Zm (ZD 10) (ZD 4)) (dC (.int 0)))))))
@[irreducible] noncomputable def ZA6:List W->G->Option (W × G):=Z3 11 ZEm
theorem ZJ7 {a0 a1 a2 a3 a4:W} {g:G} {P:W->G->Prop} (h:EvS (ZEm [some a0,some a1,some a2,some a3,some a4,none,none,none,none,none,none] g) (runP P)):EvP (ZA6 [a0,a1,a2,a3,a4] g) P:=by
 unfold ZA6
 exact Zf h
@[reducible] noncomputable def ZFP:DS :=
 (ZP (Zi 4 (dF (f1 ZBq) (ZC (ZD 1) ZL)))
 (ZP (Zi 5 (ZAh 1 [4,2] (.nm 0) (ZAV (ZC (dC (.int 1)) (ZC (ZD 4) ZL))) ZDf (dOp ZCd (dOp Zs (ZD 2) (ZD 0)) (ZD 1))))
 (Za (dSl (ZAh 1 [3,1] (.nm 0) (ZCb (ZD 5)) (ZCG (dB (dOp ZEH (ZD 0) (ZD 1))) (dB (dF ZAs (ZC (ZD 2) (ZC (ZD 0) ZL))))) (ZD 0)) ZBe (ZDZ (dOp Zm (ZD 0) (dC (.int 0))))))))
@[irreducible] noncomputable def ZBs:List W->G->Option (W × G):=Z3 6 ZFP
theorem ZKu {a0 a1 a2 a3:W} {g:G} {P:W->G->Prop} (h:EvS (ZFP [some a0,some a1,some a2,some a3,none,none] g) (runP P)):EvP (ZBs [a0,a1,a2,a3] g) P:=by
 unfold ZBs
 exact Zf h
@[reducible] noncomputable def ZKO:DS :=
 (ZP (ZAO (.tp (.cons (.nm 4) (.cons (.nm 5) .nil))) (ZD 1))
 (ZP (ZAO (.tp (.cons (.nm 6) (.cons (.nm 7) (.cons (.nm 8) (.cons (.nm 9) .nil))))) (dOp Zm (ZD 5) (ZD 2)))
 (ZP (Zi 10 (dF ZCq (ZC (dF Zw (ZC (dF Zw (ZC (ZD 2) (ZC (ZD 3) ZL))) (ZC (dF Zw (ZC (ZD 3) (ZC (ZD 2) ZL))) ZL))) ZL)))
 (ZP (Z5 (ZCG (dB (dOp ZC0 (dC (.str "others")) (dOp Zm (ZD 0) (dC (.int 4))))) (dB (dF ZAs (ZC (ZD 7) (ZC (ZD 3) ZL)))))
 (ZHz 10 (ZAh 1 [2,3] (.nm 0) (ZCb (dF ZBs (ZC (ZD 0) (ZC (ZD 7) (ZC (ZD 2) (ZC (ZD 3) ZL)))))) ZDf (dF Zw (ZC (dF Zw (ZC (ZD 1) (ZC (ZD 0) ZL))) (ZC (dF Zw (ZC (ZD 0) (ZC (ZD 2) ZL))) (ZC (dF Zw (ZC (ZD 2) (ZC (ZD 0) ZL))) (ZC (dF Zw (ZC (ZD 0) (ZC (ZD 1) ZL))) ZL)))))))
 dNx)
 (Za (ZD 10))))))
@[irreducible] noncomputable def ZEb:List W->G->Option (W × G):=Z3 11 ZKO
theorem ZOb {a0 a1 a2 a3:W} {g:G} {P:W->G->Prop} (h:EvS (ZKO [some a0,some a1,some a2,some a3,none,none,none,none,none,none,none] g) (runP P)):EvP (ZEb [a0,a1,a2,a3] g) P:=by
 unfold ZEb
 exact Zf h
@[reducible] noncomputable def ZGG:DS :=
 (ZP (ZAO (.tp (.cons (.nm 5) (.cons (.nm 6) .nil))) (ZD 1))
 (ZP (ZAO (.tp (.cons (.nm 7) (.cons (.nm 8) (.cons (.nm 9) (.cons (.nm 10) .nil))))) (dOp Zm (ZD 6) (ZD 2)))
 (ZP (ZAO (.tp (.cons (.nm 11) (.cons (.nm 12) .nil))) (dOp Zm (ZD 8) (ZD 3)))
 (ZP (Z5 (dB (ZD 4))
 (Zi 10 (dF ZAo (ZC (ZD 10) (ZC (ZD 3) (ZC (dC (.int 0)) ZL)))))
 (Z5 (ZCG (dB (dOp ZFy (ZD 12) (dC (.int 2)))) (dOr (dB (dOp ZCN (dC (.str "wait")) (dOp Zm (ZD 0) (dC (.int 4))))) (dB (dOp ZBL (dOp Zm (ZD 10) (ZD 3)) (dC (.int 1))))))
 (ZHX 8 9 10 (ZC (dF ZAo (ZC (ZD 8) (ZC (ZD 3) (ZC (dF Zw (ZC (ZD 11) (ZC (dC (.int 2)) ZL))) ZL)))) (ZC (dF ZAo (ZC (ZD 9) (ZC (ZD 3) (ZC (dC (.int 0)) ZL)))) (ZC (dF ZAo (ZC (ZD 10) (ZC (ZD 3) (ZC (dC (.int 0)) ZL)))) ZL))))
 (Z5 (ZCG (dB (dOp ZFy (ZD 12) (dC (.int 2)))) (dB (dOp ZBL (dOp Zm (ZD 10) (ZD 3)) (dC (.int 0)))))
 (ZP (Z5 (dB (dOp ZBL (ZD 12) (dC (.int 0))))
 (ZNr 8 9 (ZC (dF ZAo (ZC (ZD 8) (ZC (ZD 3) (ZC (dF Zw (ZC (ZD 11) (ZC (dC (.int 1)) ZL))) ZL)))) (ZC (dF ZAo (ZC (ZD 9) (ZC (ZD 3) (ZC (dC (.int 0)) ZL)))) ZL)))
 dNx)
 (Zi 10 (dF ZAo (ZC (ZD 10) (ZC (ZD 3) (ZC (dOp Zm (ZD 0) (dC (.int 1))) ZL))))))
 (Z5 (dB (dOp ZFy (ZD 12) (dC (.int 2))))
 (Zi 10 (dF ZAo (ZC (ZD 10) (ZC (ZD 3) (ZC (dOp ZCo (dOp Zm (ZD 10) (ZD 3)) (dC (.int 1))) ZL)))))
 dNx))))
 (Za (dF Z1 (ZC (ZD 1) (ZC (ZD 2) (ZC (dF Zw (ZC (ZD 7) (ZC (ZD 8) (ZC (ZD 9) (ZC (ZD 10) ZL))))) ZL)))))))))
@[irreducible] noncomputable def ZB4:List W->G->Option (W × G):=Z3 13 ZGG
theorem ZL4 {a0 a1 a2 a3 a4:W} {g:G} {P:W->G->Prop} (h:EvS (ZGG [some a0,some a1,some a2,some a3,some a4,none,none,none,none,none,none,none,none] g) (runP P)):EvP (ZB4 [a0,a1,a2,a3,a4] g) P:=by
 unfold ZB4
 exact Zf h
@[reducible] noncomputable def ZDm:DS :=
 (Za (dF (f1 ZGD) (ZC (ZAh 1 [1] (.nm 0) (ZCb (ZD 0)) ZDf (dOp ZCN (ZD 0) (ZD 1))) ZL)))
@[irreducible] noncomputable def ZBA:List W->G->Option (W × G):=Z3 2 ZDm
theorem ZID {a0 a1:W} {g:G} {P:W->G->Prop} (h:EvS (ZDm [some a0,some a1] g) (runP P)):EvP (ZBA [a0,a1] g) P:=by
 unfold ZBA
 exact Zf h
@[reducible] noncomputable def ZDE:DS :=
 (ZP (ZAO (.tp (.cons (.nm 3) (.cons (.nm 4) .nil))) (ZD 0))
 (Za (dF (f1 ZGD) (ZC (ZAh 1 [2,4] (.nm 0) (ZCb (ZD 1)) ZDf (ZBg (dOp ZFy (ZD 0) (dF (f1 ZBq) (ZC (ZD 2) ZL))) (dOp ZBL (dOp Zm (dOp Zm (ZD 2) (ZD 0)) (dC (.int 0))) (ZD 1)))) ZL))))
@[irreducible] noncomputable def ZAL:List W->G->Option (W × G):=Z3 5 ZDE
theorem ZG9 {a0 a1 a2:W} {g:G} {P:W->G->Prop} (h:EvS (ZDE [some a0,some a1,some a2,none,none] g) (runP P)):EvP (ZAL [a0,a1,a2] g) P:=by
 unfold ZAL
 exact Zf h
@[reducible] noncomputable def ZDS:DS :=
 (Za (ZBg (dF ZKK (ZC (ZD 0) (ZC (λ _ g=>some (.ty "tuple",g)) ZL))) (ZBg (dF (f1 ZGD) (ZC (ZAh 1 [] (.nm 0) (ZCb (ZD 0)) ZDf (dF ZBR (ZC (ZD 0) ZL))) ZL)) (dF ZDM (ZC (ZD 0) ZL)))))
@[irreducible] noncomputable def ZAp:List W->G->Option (W × G):=Z3 1 ZDS
theorem ZG1 {a0:W} {g:G} {P:W->G->Prop} (h:EvS (ZDS [some a0] g) (runP P)):EvP (ZAp [a0] g) P:=by
 unfold ZAp
 exact Zf h
@[reducible] noncomputable def ZDd:DS :=
 (ZP (Z5 (ZE6 (ZCG (dB (dF ZAe (ZC (ZD 1) (ZC (dC (.int 4)) ZL)))) (dB (dF (f1 ZGD) (ZC (ZAh 1 [] (.nm 0) (ZCb (ZD 1)) ZDf (dF ZAp (ZC (ZD 0) ZL))) ZL)))))
 (Za (dC (.bool false)))
 dNx)
 (ZP (ZAO (.tp (.cons (.nm 2) (.cons (.nm 3) (.cons (.nm 4) (.cons (.nm 5) .nil))))) (ZD 1))
 (ZP (Z5 (ZE6 (dB (dF ZBA (ZC (ZD 3) (ZC (ZD 4) ZL)))))
 (Za (dC (.bool false)))
 dNx)
 (Za (ZBg (dF ZAL (ZC (ZD 0) (ZC (ZD 3) (ZC (dC (.int 1)) ZL)))) (ZBg (dF ZAL (ZC (ZD 0) (ZC (ZD 4) (ZC (dC (.int 1)) ZL)))) (dF ZAL (ZC (ZD 0) (ZC (ZD 5) (ZC (dC (.int 0)) ZL))))))))))
@[irreducible] noncomputable def ZAn:List W->G->Option (W × G):=Z3 6 ZDd
theorem ZIG {a0 a1:W} {g:G} {P:W->G->Prop} (h:EvS (ZDd [some a0,some a1,none,none,none,none] g) (runP P)):EvP (ZAn [a0,a1] g) P:=by
 unfold ZAn
 exact Zf h
@[reducible] noncomputable def ZBt:DS :=
 (ZP (ZCn ZY 0 (ZD 0) (ZD 1))
 (ZP (ZCn ZY 1 (ZD 0) (ZD 2))
 (ZP (ZCn ZY 2 (ZD 0) (ZD 3))
 (ZP (ZCn ZY 3 (ZD 0) (ZD 4))
 (ZCn ZY 4 (ZD 0) (dF ZCq ZL))))))
@[irreducible] noncomputable def ZAA:List W->G->Option (W × G):=Z3 5 ZBt
theorem ZE0 {a0 a1 a2 a3 a4:W} {g:G} {P:W->G->Prop} (h:EvS (ZBt [some a0,some a1,some a2,some a3,some a4] g) (runP P)):EvP (ZAA [a0,a1,a2,a3,a4] g) P:=by
 unfold ZAA
 exact Zf h
@[reducible] noncomputable def ZCy:DS :=
 (ZP (Zi 3 (dOp ZC0 (dF (f1 ZBq) (ZC (ZBT ZY 4 (ZD 0)) ZL)) (ZBT ZY 3 (ZD 0))))
 (ZP (ZA3 (ZEG (ZBT ZY 4 (ZD 0)) (dF Zw (ZC (ZD 1) (ZC (ZD 2) (ZC (ZD 3) ZL))))))
 (ZP (ZAO (.tp (.cons (.nm 4) (.cons (.nm 5) .nil))) (dF ZCa (ZC (ZBT ZY 0 (ZD 0)) (ZC (ZBT ZY 1 (ZD 0)) (ZC (ZBT ZY 2 (ZD 0)) (ZC (ZD 1) (ZC (ZD 2) ZL)))))))
 (ZP (Z5 (dOr (dB (ZD 3)) (dB (dOp ZQH (ZD 5) (dC .none))))
 (ZP (ZCn ZY 2 (ZD 0) (ZD 4))
 (Za (dC (.bool false))))
 dNx)
 (ZP (ZCn ZY 2 (ZD 0) (ZD 5))
 (Za (dC (.bool true))))))))
@[irreducible] noncomputable def Z0:List W->G->Option (W × G):=Z3 6 ZCy
theorem ZGc {a0 a1 a2:W} {g:G} {P:W->G->Prop} (h:EvS (ZCy [some a0,some a1,some a2,none,none,none] g) (runP P)):EvP (Z0 [a0,a1,a2] g) P:=by
 unfold Z0
 exact Zf h
@[reducible] noncomputable def ZCY:DS :=
 (ZCK (.nm 2) (ZAV (ZC (dF (f1 ZBq) (ZC (ZBT ZY 1 (ZD 0)) ZL)) ZL))
 (Z5 (dB (dOp ZEH (ZD 2) (ZD 1)))
 (ZA3 (ZFf ZY Z0 (ZD 0) (ZC (ZD 1) (ZC (ZD 2) ZL))))
 dNx))
@[irreducible] noncomputable def ZAE:List W->G->Option (W × G):=Z3 3 ZCY
theorem ZFs {a0 a1:W} {g:G} {P:W->G->Prop} (h:EvS (ZCY [some a0,some a1,none] g) (runP P)):EvP (ZAE [a0,a1] g) P:=by
 unfold ZAE
 exact Zf h
@[reducible] noncomputable def ZKE:DS :=
 (ZP (ZAO (.tp (.cons (.nm 2) (.cons (.nm 3) .nil))) (ZBT ZY 2 (ZD 0)))
 (ZP (ZAO (.tp (.cons (.nm 4) (.cons (.nm 5) (.cons (.nm 6) (.cons (.nm 7) .nil))))) (dOp Zm (ZD 3) (ZD 1)))
 (ZCn ZY 2 (ZD 0) (dF Z1 (ZC (ZBT ZY 2 (ZD 0)) (ZC (ZD 1) (ZC (dF Zw (ZC (dC (.int 0)) (ZC (ZD 5) (ZC (ZD 6) (ZC (ZD 7) ZL))))) ZL)))))))
@[irreducible] noncomputable def ZDw:List W->G->Option (W × G):=Z3 8 ZKE
theorem ZPF {a0 a1:W} {g:G} {P:W->G->Prop} (h:EvS (ZKE [some a0,some a1,none,none,none,none,none,none] g) (runP P)):EvP (ZDw [a0,a1] g) P:=by
 unfold ZDw
 exact Zf h
@[reducible] noncomputable def ZKI:DS :=
 (ZP (ZAO (.tp (.cons (.nm 2) (.cons (.nm 3) (.cons (.nm 4) (.cons (.nm 5) .nil))))) (ZD 1))
 (ZP (Zi 6 (dF ZCq ZL))
 (ZP (ZCK (.tp (.cons (.nm 7) (.cons (.nm 8) .nil))) (ZCe (ZC (ZD 0) ZL))
 (ZP (ZAO (.tp (.cons (.nm 9) (.cons (.nm 10) (.cons (.nm 11) (.cons (.nm 12) .nil))))) (ZD 8))
 (ZP (ZAO (.tp (.cons (.nm 13) (.cons (.nm 14) .nil))) (dOp Zm (ZD 10) (ZD 7)))
 (ZP (Z5 (dB (dOp ZC0 (ZD 7) (ZD 3)))
 (Zi 8 (dF Zw (ZC (dC (.int 0)) (ZC (ZD 10) (ZC (ZD 11) (ZC (dOp ZAi (dF Zw (ZC (dC (.int 0)) ZL)) (dF (f1 ZBq) (ZC (ZD 12) ZL))) ZL))))))
 (Z5 (dB (dOp ZC0 (ZD 7) (ZD 4)))
 (Zi 8 (dF Zw (ZC (ZD 9) (ZC (dF ZAo (ZC (ZD 10) (ZC (ZD 7) (ZC (dF Zw (ZC (ZD 13) (ZC (dC (.int 3)) ZL))) ZL)))) (ZC (dF ZAo (ZC (ZD 11) (ZC (ZD 7) (ZC (dC (.int 0)) ZL)))) (ZC (dOp ZAi (dF Zw (ZC (dC (.int 0)) ZL)) (dF (f1 ZBq) (ZC (ZD 12) ZL))) ZL))))))
 (Z5 (dB (dOp ZC0 (ZD 7) (ZD 5)))
 (Zi 8 (dF Zw (ZC (dC (.int 1)) (ZC (dF ZAo (ZC (ZD 10) (ZC (ZD 7) (ZC (dF Zw (ZC (dOp Zs (ZD 13) (dC (.int 1))) (ZC (dC (.int 0)) ZL))) ZL)))) (ZC (dF ZAo (ZC (ZD 11) (ZC (ZD 7) (ZC (dC (.int 0)) ZL)))) (ZC (ZD 12) ZL))))))
 dNx)))
 (ZA3 (ZEG (ZD 6) (ZD 8)))))))
 (Za (dF (f1 ZDh) (ZC (ZD 6) ZL))))))
@[irreducible] noncomputable def ZEl:List W->G->Option (W × G):=Z3 15 ZKI
theorem ZPm {a0 a1:W} {g:G} {P:W->G->Prop} (h:EvS (ZKI [some a0,some a1,none,none,none,none,none,none,none,none,none,none,none,none,none] g) (runP P)):EvP (ZEl [a0,a1] g) P:=by
 unfold ZEl
 exact Zf h
@[reducible] noncomputable def ZCD:DS :=
 (ZP (ZCK (.tp (.cons (.nm 2) (.cons (.nm 3) .nil))) (ZCb (ZD 1))
 (Z5 (ZE6 (dB (ZFf ZY Z0 (ZD 0) (ZC (ZD 2) (ZC (ZD 3) ZL)))))
 (Za (dC (.bool false)))
 dNx))
 (Za (dC (.bool true))))
@[irreducible] noncomputable def Z4:List W->G->Option (W × G):=Z3 4 ZCD
theorem ZFX {a0 a1:W} {g:G} {P:W->G->Prop} (h:EvS (ZCD [some a0,some a1,none,none] g) (runP P)):EvP (Z4 [a0,a1] g) P:=by
 unfold Z4
 exact Zf h
@[reducible] noncomputable def ZC2:DS :=
 (ZP (ZCK (.nm 3) (ZCb (dF ZEb (ZC (ZBT ZY 0 (ZD 0)) (ZC (ZBT ZY 2 (ZD 0)) (ZC (ZD 1) (ZC (ZD 2) ZL))))))
 (Z5 (dB (dF Z4 (ZC (ZD 0) (ZC (ZD 3) ZL))))
 (Za (dC (.bool true)))
 dNx))
 (Za (dC (.bool false))))
@[irreducible] noncomputable def ZAQ:List W->G->Option (W × G):=Z3 4 ZC2
theorem ZGB {a0 a1 a2:W} {g:G} {P:W->G->Prop} (h:EvS (ZC2 [some a0,some a1,some a2,none] g) (runP P)):EvP (ZAQ [a0,a1,a2] g) P:=by
 unfold ZAQ
 exact Zf h
@[reducible] noncomputable def ZFG:DS :=
 (ZP (ZAO (.tp (.cons (.nm 2) (.cons (.nm 3) .nil))) (ZBT ZY 2 (ZD 0)))
 (ZCK (.nm 4) (ZCb (dF Z8 (ZC (ZBT ZY 1 (ZD 0)) (ZC (ZD 2) (ZC (ZD 1) ZL)))))
 (Z5 (dB (dF ZA6 (ZC (ZBT ZY 0 (ZD 0)) (ZC (ZBT ZY 1 (ZD 0)) (ZC (ZBT ZY 2 (ZD 0)) (ZC (ZD 1) (ZC (ZD 4) ZL)))))))
 (ZP (Zi 5 (dF ZAQ (ZC (ZD 0) (ZC (ZD 1) (ZC (ZD 4) ZL)))))
 (ZCn ZY 2 (ZD 0) (dF ZB4 (ZC (ZBT ZY 0 (ZD 0)) (ZC (ZBT ZY 2 (ZD 0)) (ZC (ZD 1) (ZC (ZD 4) (ZC (ZD 5) ZL))))))))
 dNx)))
@[irreducible] noncomputable def ZBZ:List W->G->Option (W × G):=Z3 6 ZFG
theorem ZKy {a0 a1:W} {g:G} {P:W->G->Prop} (h:EvS (ZFG [some a0,some a1,none,none,none,none] g) (runP P)):EvP (ZBZ [a0,a1] g) P:=by
 unfold ZBZ
 exact Zf h
@[reducible] noncomputable def ZFF:DS :=
 (ZP (ZAO (.tp (.cons (.nm 4) (.cons (.nm 5) .nil))) (ZD 2))
 (ZP (ZAO (.tp (.cons (.nm 6) (.cons (.nm 7) (.cons (.nm 8) (.cons (.nm 9) .nil))))) (ZD 3))
 (ZP (Zi 10 (ZJa ZY ZAA (ZC (ZD 0) (ZC (ZD 1) (ZC (dF Zw (ZC (ZD 4) (ZC (dF ZEl (ZC (ZD 5) (ZC (ZD 3) ZL))) ZL))) (ZC (ZD 6) ZL))))))
 (ZP (ZCK (.nm 11) (ZCb (dOp Zs (ZD 8) (ZD 9)))
 (ZA3 (dF ZAE (ZC (ZD 10) (ZC (ZD 11) ZL)))))
 (ZP (ZCK (.nm 11) (ZCb (ZD 8))
 (ZA3 (dF ZDw (ZC (ZD 10) (ZC (ZD 11) ZL)))))
 (ZP (ZCK (.nm 12) (ZAV (ZC (dF (f1 ZBq) (ZC (ZD 1) ZL)) ZL))
 (Z5 (dB (dF ZA5 (ZC (ZD 1) (ZC (ZBT ZY 2 (ZD 10)) (ZC (ZD 12) ZL)))))
 (ZA3 (dF ZBZ (ZC (ZD 10) (ZC (ZD 12) ZL))))
 dNx))
 (ZP (ZAO (.tp (.cons (.nm 4) (.cons (.nm 5) .nil))) (ZBT ZY 2 (ZD 10)))
 (Za (dF Zw (ZC (dF Zw (ZC (dOp Zs (ZD 4) (dC (.int 1))) (ZC (ZD 5) ZL))) (ZC (dF (f1 ZDh) (ZC (ZBT ZY 4 (ZD 10)) ZL)) ZL)))))))))))
@[irreducible] noncomputable def ZAX:List W->G->Option (W × G):=Z3 13 ZFF
theorem ZKg {a0 a1 a2 a3:W} {g:G} {P:W->G->Prop} (h:EvS (ZFF [some a0,some a1,some a2,some a3,none,none,none,none,none,none,none,none,none] g) (runP P)):EvP (ZAX [a0,a1,a2,a3] g) P:=by
 unfold ZAX
 exact Zf h
@[reducible] noncomputable def ZIn:DS :=
 (ZP (Zi 4 (dF ZCq ZL))
 (ZP (ZCK (.tp (.cons (.nm 5) (.cons (.nm 6) .nil))) (ZCe (ZC (ZD 3) ZL))
 (ZP (Z5 (ZE6 (dB (dF ZAn (ZC (ZD 2) (ZC (ZD 6) ZL)))))
 ZRO
 dNx)
 (ZP (ZAO (.tp (.cons (.nm 2) (.cons (.nm 7) .nil))) (dF ZAX (ZC (ZD 0) (ZC (ZD 1) (ZC (ZD 2) (ZC (ZD 6) ZL))))))
 (ZA3 (ZEG (ZD 4) (dF Zw (ZC (ZD 2) (ZC (ZD 7) ZL))))))))
 (Za (ZD 4))))
@[irreducible] noncomputable def ZDG:List W->G->Option (W × G):=Z3 8 ZIn
theorem ZM3 {a0 a1 a2 a3:W} {g:G} {P:W->G->Prop} (h:EvS (ZIn [some a0,some a1,some a2,some a3,none,none,none,none] g) (runP P)):EvP (ZDG [a0,a1,a2,a3] g) P:=by
 unfold ZDG
 exact Zf h
@[reducible] noncomputable def ZGe:DS :=
 (ZP (Zi 4 (dF ZCq ZL))
 (ZP (ZCK (.tp (.cons (.nm 5) (.cons (.nm 6) .nil))) (ZCb (dF ZDG (ZC (ZD 0) (ZC (ZD 1) (ZC (ZD 2) (ZC (ZD 3) ZL))))))
 (ZP (Zi 2 (ZD 5))
 (ZA3 (ZEG (ZD 4) (ZD 6)))))
 (Za (dF Zw (ZC (ZD 2) (ZC (dF (f1 ZDh) (ZC (ZD 4) ZL)) ZL))))))
@[irreducible] noncomputable def ZB2:List W->G->Option (W × G):=Z3 7 ZGe
theorem ZLw {a0 a1 a2 a3:W} {g:G} {P:W->G->Prop} (h:EvS (ZGe [some a0,some a1,some a2,some a3,none,none,none] g) (runP P)):EvP (ZB2 [a0,a1,a2,a3] g) P:=by
 unfold ZB2
 exact Zf h
@[reducible] noncomputable def ZCX:DS :=
 (Za (dF ZNP (ZC (dOp Zm (ZD 0) (dC (.int 0))) (ZC (dOp ZCo (dF (f1 ZBq) (ZC (ZD 1) ZL)) (dC (.int 2))) ZL))))
@[irreducible] noncomputable def ZAj:List W->G->Option (W × G):=Z3 2 ZCX
theorem ZFk {a0 a1:W} {g:G} {P:W->G->Prop} (h:EvS (ZCX [some a0,some a1] g) (runP P)):EvP (ZAj [a0,a1] g) P:=by
 unfold ZAj
 exact Zf h
@[reducible] noncomputable def ZCc:DS :=
 (ZP (ZAO (.tp (.cons (.nm 4) (.cons (.nm 5) .nil))) (ZD 2))
 (ZP (ZAO (.tp (.cons (.nm 6) (.cons (.nm 7) (.cons (.nm 8) (.cons (.nm 9) .nil))))) (ZD 3))
 (ZP (Zi 10 (dC (.int 0)))
 (ZP (ZCK (.tp (.cons (.nm 11) (.cons (.nm 12) .nil))) (ZCe (ZC (ZD 5) ZL))
 (ZP (ZAO (.tp (.cons (.nm 13) (.cons (.nm 14) (.cons (.nm 15) (.cons (.nm 16) .nil))))) (ZD 12))
 (Z5 (ZCG (dB (dOp ZCN (ZD 11) (dOp Zs (ZD 7) (ZD 8)))) (ZCG (dOr (dB (dOp ZBL (ZD 13) (dC (.int 1)))) (dB (dOp ZC0 (ZD 11) (ZD 9)))) (dB (dF ZCj (ZC (ZD 1) (ZC (ZD 11) (ZC (ZD 4) ZL)))))))
 (ZHe 10 (dOp Zs (dC (.int 1)) (dF (f1 ZBq) (ZC (ZAh 1 [] (.nm 0) (ZCb (ZD 16)) (dB (dOp ZJN (ZD 0) (dC (.int 0)))) (ZD 0)) ZL))))
 dNx)))
 (ZP (Zi 17 (dOp Zs (dC (.int 2)) (dOp ZAi (dC (.int 4)) (dF ZAj (ZC (ZD 0) (ZC (ZD 1) ZL))))))
 (Za (dOp Zs (dOp ZAi (ZD 10) (ZD 17)) (dOp ZAi (dOp ZCo (dF (f1 ZBq) (ZC (ZD 1) ZL)) (dC (.int 1))) (dF (f1 ZBq) (ZC (dOp Zs (ZD 8) (ZD 9)) ZL))))))))))
@[irreducible] noncomputable def ZAS:List W->G->Option (W × G):=Z3 18 ZCc
theorem ZFv {a0 a1 a2 a3:W} {g:G} {P:W->G->Prop} (h:EvS (ZCc [some a0,some a1,some a2,some a3,none,none,none,none,none,none,none,none,none,none,none,none,none,none] g) (runP P)):EvP (ZAS [a0,a1,a2,a3] g) P:=by
 unfold ZAS
 exact Zf h
@[reducible] noncomputable def ZId:DS :=
 (ZP (ZAO (.tp (.cons (.nm 2) (.cons (.nm 3) (.cons (.nm 4) (.cons (.nm 5) (.cons (.nm 6) .nil)))))) (ZD 0))
 (ZP (Zi 7 (dF (f1 ZBq) (ZC (ZD 1) ZL)))
 (ZP (Zi 8 (dF Zw (ZC (dC (.int 1)) (ZC (dOp ZAi (dF Zw (ZC (dF Zw (ZC (dC (.int 0)) (ZC (dC (.int 0)) ZL))) ZL)) (ZD 7)) (ZC (dOp ZAi (dF Zw (ZC (ZD 4) ZL)) (ZD 7)) (ZC (dOp ZAi (dF Zw (ZC (dC (.int 0)) ZL)) (ZD 7)) ZL))))))
 (Za (dF Zw (ZC (dC (.int 0)) (ZC (dOp ZAi (dF Zw (ZC (ZD 8) ZL)) (ZD 7)) ZL)))))))
@[irreducible] noncomputable def ZDF:List W->G->Option (W × G):=Z3 9 ZId
theorem ZMu {a0 a1:W} {g:G} {P:W->G->Prop} (h:EvS (ZId [some a0,some a1,none,none,none,none,none,none,none] g) (runP P)):EvP (ZDF [a0,a1] g) P:=by
 unfold ZDF
 exact Zf h
@[reducible] noncomputable def ZEe:DS :=
 (ZP (Zi 2 (dC (.int 0)))
 (ZP (Z5 (dB (dOp ZFy (ZD 1) (dF (f1 ZBq) (ZC (ZD 0) ZL))))
 (Zi 2 (dOp Zm (ZD 0) (ZD 1)))
 dNx)
 (Za (dF ZCq (ZC (dOp ZAi (dOp ZCd (dF (f1 ZSG) (ZC (ZD 2) ZL)) (dC (.int 1000000000000000000000000000000000000000000000000000000000000))) (dF (f1 ZLj) (ZC (dOp ZPC (dF (f1 ZSG) (ZC (ZD 2) ZL)) (dC (.int 1000000000000000000))) ZL))) (ZC (dOp ZCd (dOp Zs (dOp Zs (ZD 2) (dOp ZAi (dOp ZAi (dC (.int 613)) (ZD 1)) (ZD 1))) (dOp ZAi (dC (.int 29)) (ZD 1))) (dC (.int 2147483647))) (ZC (dC (.int 0)) ZL)))))))
@[irreducible] noncomputable def ZBU:List W->G->Option (W × G):=Z3 3 ZEe
theorem ZJC {a0 a1:W} {g:G} {P:W->G->Prop} (h:EvS (ZEe [some a0,some a1,none] g) (runP P)):EvP (ZBU [a0,a1] g) P:=by
 unfold ZBU
 exact Zf h
@[reducible] noncomputable def ZD5:DS :=
 (ZP (Z5 (dB (dOp ZJN (dOp Zm (ZD 0) (dC (.int 0))) (dC (.int 0))))
 (ZP (Zi 2 (dOp ZCd (dOp Zm (ZD 0) (dC (.int 0))) (ZD 1)))
 (ZP (ZKi (ZD 0) (dC (.int 0)) (dOp ZFB (dOp Zm (ZD 0) (dC (.int 0))) (ZD 1)))
 (Za (ZD 2))))
 dNx)
 (ZP (ZKi (ZD 0) (dC (.int 2)) (dOp Zs (dOp Zm (ZD 0) (dC (.int 2))) (dC (.int 1))))
 (ZP (Zi 3 (dOp ZCd (dOp Zs (dOp Zs (dOp ZAi (dOp Zm (ZD 0) (dC (.int 1))) (dC (.int 48271))) (dOp ZAi (dC (.int 8191)) (dOp Zm (ZD 0) (dC (.int 2))))) (dC (.int 17))) (dC (.int 2147483647))))
 (ZP (ZKi (ZD 0) (dC (.int 1)) (dOp ZCd (dOp Zs (dOp ZAi (ZD 3) (ZD 3)) (dOp Zm (ZD 0) (dC (.int 2)))) (dC (.int 2147483629))))
 (Za (dOp ZCd (dOp ZFB (dOp Zm (ZD 0) (dC (.int 1))) (dC (.int 13))) (ZD 1)))))))
@[irreducible] noncomputable def ZN:List W->G->Option (W × G):=Z3 4 ZD5
theorem ZIT {a0 a1:W} {g:G} {P:W->G->Prop} (h:EvS (ZD5 [some a0,some a1,none,none] g) (runP P)):EvP (ZN [a0,a1] g) P:=by
 unfold ZN
 exact Zf h
@[reducible] noncomputable def ZDC:DS :=
 (ZP (Zi 2 (dOp Zm (dF ZFx (ZC (dF ZN (ZC (ZD 0) (ZC (dC (.int 3)) ZL))) (ZC (dF ZN (ZC (ZD 0) (ZC (dC (.int 10)) ZL))) ZL))) (dF ZN (ZC (ZD 0) (ZC (dC (.int 2)) ZL)))))
 (ZP (Zi 3 (dOp Zm (dF ZFx (ZC (dF ZN (ZC (ZD 0) (ZC (dC (.int 3)) ZL))) (ZC (dF ZN (ZC (ZD 0) (ZC (dC (.int 9)) ZL))) ZL))) (dF ZN (ZC (ZD 0) (ZC (dC (.int 2)) ZL)))))
 (ZP (Zi 4 (dOp Zs (dC (.int 1)) (dOp Zm (dF ZFx (ZC (dF ZN (ZC (ZD 0) (ZC (dC (.int 3)) ZL))) (ZC (dF ZN (ZC (ZD 0) (ZC (dC (.int 9)) ZL))) ZL))) (dOp ZFB (dF ZN (ZC (ZD 0) (ZC (dC (.int 4)) ZL))) (dC (.int 3))))))
 (ZP (Zi 5 (dF Zw (ZC (dC (.str "about")) (ZC (dC (.str "again")) (ZC (dC (.str "newer")) (ZC (dC (.str "others")) (ZC (dC (.str "own")) (ZC (dC (.str "refute")) (ZC (dC (.str "wait")) ZL)))))))))
 (ZP (Zi 6 (dF ZN (ZC (ZD 0) (ZC (dC (.int 3)) ZL))))
 (ZP (Z5 (dOr (dB (ZD 1)) (dB (dOp ZBL (ZD 6) (dC (.int 0)))))
 (Za (dF Zw (ZC (dF ZN (ZC (ZD 0) (ZC (dC (.int 4)) ZL))) (ZC (ZD 4) (ZC (ZD 2) (ZC (ZD 3) (ZC (ZD 5) ZL)))))))
 dNx)
 (ZP (Zi 7 (dOp Zm (ZD 5) (dF ZN (ZC (ZD 0) (ZC (dC (.int 7)) ZL)))))
 (ZP (Zi 8 (dF (f1 ZDh) (ZC (ZAh 1 [7,6,0] (.nm 0) (ZCb (ZD 5)) (ZCG (dB (dOp ZEH (ZD 0) (ZD 1))) (dOr (dB (dOp ZBL (ZD 2) (dC (.int 1)))) (dB (dOp ZBL (dF ZN (ZC (ZD 3) (ZC (dC (.int 2)) ZL))) (dC (.int 0)))))) (ZD 0)) ZL)))
 (Za (dF Zw (ZC (dF ZN (ZC (ZD 0) (ZC (dC (.int 4)) ZL))) (ZC (ZD 4) (ZC (ZD 2) (ZC (ZD 3) (ZC (ZD 8) ZL)))))))))))))))
@[irreducible] noncomputable def ZAv:List W->G->Option (W × G):=Z3 9 ZDC
theorem ZHO {a0 a1:W} {g:G} {P:W->G->Prop} (h:EvS (ZDC [some a0,some a1,none,none,none,none,none,none,none] g) (runP P)):EvP (ZAv [a0,a1] g) P:=by
 unfold ZAv
 exact Zf h
@[reducible] noncomputable def ZDl:DS :=
 (ZP (Zi 2 (dF ZNP (ZC (ZD 1) (ZC (dOp Zm (dF ZFx (ZC (dC (.int 2)) (ZC (dC (.int 3)) (ZC (dC (.int 4)) (ZC (dC (.int 3)) (ZC (dC (.int 5)) (ZC (dOp Zs (dC (.int 2)) (dF ZN (ZC (ZD 0) (ZC (dC (.int 7)) ZL)))) ZL))))))) (dF ZN (ZC (ZD 0) (ZC (dC (.int 6)) ZL)))) ZL))))
 (ZP (Zi 3 (dF ZCq ZL))
 (ZP (ZCK (.nm 4) (ZAV (ZC (ZD 2) ZL))
 (ZP (Zi 5 (dOp Zm (dF ZFx (ZC (dC (.int 1)) (ZC (dOp Zs (dC (.int 1)) (dF ZN (ZC (ZD 0) (ZC (dC (.int 4)) ZL)))) ZL))) (dF ZN (ZC (ZD 0) (ZC (dC (.int 2)) ZL)))))
 (ZA3 (ZEG (ZD 3) (dF Zw (ZC (ZD 5) (ZC (dF ZN (ZC (ZD 0) (ZC (ZD 5) ZL))) ZL)))))))
 (Za (dF (f1 ZDh) (ZC (ZD 3) ZL))))))
@[irreducible] noncomputable def ZA7:List W->G->Option (W × G):=Z3 6 ZDl
theorem ZIr {a0 a1:W} {g:G} {P:W->G->Prop} (h:EvS (ZDl [some a0,some a1,none,none,none,none] g) (runP P)):EvP (ZA7 [a0,a1] g) P:=by
 unfold ZA7
 exact Zf h
@[reducible] noncomputable def ZDL:DS :=
 (ZP (Zi 3 (dF (f1 ZBq) (ZC (ZD 2) ZL)))
 (ZP (Zi 4 (dOp Zm (dF ZFx (ZC (dC (.int 0)) (ZC (dC (.int 0)) (ZC (dC (.int 999000)) (ZC (dF ZN (ZC (ZD 0) (ZC (dC (.int 1000)) ZL))) ZL))))) (dF ZN (ZC (ZD 0) (ZC (dC (.int 4)) ZL)))))
 (ZP (Zi 5 (dF ZN (ZC (ZD 0) (ZC (dC (.int 3)) ZL))))
 (ZP (Zi 6 (dF ZCq ZL))
 (ZP (ZCK (.nm 7) (ZAV (ZC (ZD 3) ZL))
 (ZP (Zi 8 (dF (f1 ZLj) (ZC (dOp ZJN (dF ZN (ZC (ZD 0) (ZC (dC (.int 5)) ZL))) (dC (.int 0))) ZL)))
 (ZP (Zi 9 (dF (f1 ZDh) (ZC (ZAh 1 [4,0,5] (.nm 0) (ZAV (ZC (ZD 3) ZL)) ZDf (dF Zw (ZC (dOp Zs (ZD 1) (dF ZN (ZC (ZD 2) (ZC (dC (.int 3)) ZL)))) (ZC (dOp Zm (dF ZFx (ZC (dF ZN (ZC (ZD 2) (ZC (dC (.int 4)) ZL))) (ZC (dC (.int 0)) ZL))) (dF (f1 ZLj) (ZC (dOp ZBL (ZD 3) (dC (.int 0))) ZL))) ZL)))) ZL)))
 (ZP (Zi 10 (dF (f1 ZDh) (ZC (ZAh 1 [0,1] (.nm 0) (ZAV (ZC (ZD 3) ZL)) ZDf (dF ZN (ZC (ZD 1) (ZC (dOp Zs (dOp Zm (ZD 2) (dC (.int 2))) (dC (.int 1))) ZL)))) ZL)))
 (ZP (Zi 11 (dF (f1 ZDh) (ZC (ZAh 1 [0,1] (.nm 0) (ZAV (ZC (ZD 3) ZL)) ZDf (dOp ZAi (dF ZN (ZC (ZD 1) (ZC (dOp Zs (dOp Zm (ZD 2) (dC (.int 1))) (dC (.int 1))) ZL))) (dF (f1 ZLj) (ZC (dOp ZBL (dF ZN (ZC (ZD 1) (ZC (dC (.int 3)) ZL))) (dC (.int 0))) ZL)))) ZL)))
 (ZP (Zi 11 (dF (f1 ZDh) (ZC (ZAh 1 [8,11,7] (.nm 0) (ZAV (ZC (ZD 3) ZL)) ZDf (dOp ZAi (dOp ZAi (dOp Zm (ZD 2) (ZD 0)) (ZD 1)) (dF (f1 ZLj) (ZC (dOp ZEH (ZD 0) (ZD 3)) ZL)))) ZL)))
 (ZA3 (ZEG (ZD 6) (dF Zw (ZC (ZD 8) (ZC (ZD 9) (ZC (ZD 10) (ZC (ZD 11) ZL)))))))))))))
 (Za (dF Zw (ZC (dF ZN (ZC (ZD 0) (ZC (dOp Zm (dF ZFx (ZC (dC (.int 5)) (ZC (dC (.int 100)) (ZC (dC (.int 100000)) ZL)))) (dF ZN (ZC (ZD 0) (ZC (dC (.int 3)) ZL)))) ZL))) (ZC (dF (f1 ZDh) (ZC (ZD 6) ZL)) ZL)))))))))
@[irreducible] noncomputable def ZAu:List W->G->Option (W × G):=Z3 12 ZDL
theorem ZHM {a0 a1 a2:W} {g:G} {P:W->G->Prop} (h:EvS (ZDL [some a0,some a1,some a2,none,none,none,none,none,none,none,none,none] g) (runP P)):EvP (ZAu [a0,a1,a2] g) P:=by
 unfold ZAu
 exact Zf h
@[reducible] noncomputable def ZDs:DS :=
 (ZP (Zi 2 (dF ZN (ZC (ZD 0) (ZC (dC (.int 5)) ZL))))
 (ZP (Z5 (dB (dOp ZBL (ZD 2) (dC (.int 0))))
 (Za (dF Zw ZL))
 dNx)
 (ZP (Z5 (dB (dOp ZBL (ZD 2) (dC (.int 1))))
 (Za (ZGO (ZD 1)))
 dNx)
 (Za (dF (f1 ZDh) (ZC (ZAh 1 [0,2] (.nm 0) (ZAV (ZC (ZD 1) ZL)) (dB (dOp ZBL (dF ZN (ZC (ZD 1) (ZC (dOp Zm (dF ZFx (ZC (dC (.int 2)) (ZC (dC (.int 3)) (ZC (dC (.int 8)) ZL)))) (dOp ZCo (ZD 2) (dC (.int 2)))) ZL))) (dC (.int 0)))) (ZD 0)) ZL))))))
@[irreducible] noncomputable def ZBC:List W->G->Option (W × G):=Z3 3 ZDs
theorem ZI1 {a0 a1:W} {g:G} {P:W->G->Prop} (h:EvS (ZDs [some a0,some a1,none] g) (runP P)):EvP (ZBC [a0,a1] g) P:=by
 unfold ZBC
 exact Zf h
@[reducible] noncomputable def ZC3:DS :=
 (ZP (ZHX 3 4 5 (ZC (dF ZCq ZL) (ZC (dF ZCq ZL) (ZC (dF ZCq ZL) ZL))))
 (ZP (ZCK (.tp (.cons (.nm 6) (.cons (.nm 7) .nil))) (ZCe (ZC (dOp Zm (ZD 1) (dC (.int 1))) ZL))
 (ZP (Zi 8 (dF ZN (ZC (ZD 0) (ZC (dC (.int 8)) ZL))))
 (ZP (Z5 (ZCG (dB (ZD 2)) (ZCG (dB (dOp ZBL (dOp Zm (ZD 7) (dC (.int 0))) (dC (.int 1)))) (dB (dOp ZFy (ZD 8) (dC (.int 2))))))
 (ZA3 (ZEG (ZJ1 (ZC (ZD 3) (ZC (ZD 4) ZL)) (ZD 8)) (ZD 6)))
 dNx)
 (Z5 (ZCG (dB (ZD 2)) (ZCG (dB (dOp ZBL (dOp Zm (ZD 7) (dC (.int 0))) (dC (.int 0)))) (dB (dOp ZFy (ZD 8) (dC (.int 3))))))
 (ZA3 (ZEG (ZD 5) (ZD 6)))
 dNx))))
 (Za (dF Zw (ZC (dF ZBC (ZC (ZD 0) (ZC (dC (.int 60)) ZL))) (ZC (dF (f1 ZDh) (ZC (ZD 3) ZL)) (ZC (dF (f1 ZDh) (ZC (ZD 4) ZL)) (ZC (dF (f1 ZDh) (ZC (ZD 5) ZL)) ZL))))))))
@[irreducible] noncomputable def ZAP:List W->G->Option (W × G):=Z3 9 ZC3
theorem ZGq {a0 a1 a2:W} {g:G} {P:W->G->Prop} (h:EvS (ZC3 [some a0,some a1,some a2,none,none,none,none,none,none] g) (runP P)):EvP (ZAP [a0,a1,a2] g) P:=by
 unfold ZAP
 exact Zf h
@[reducible] noncomputable def ZDg:DS :=
 (ZP (Zi 4 (dF (f1 ZBq) (ZC (ZD 1) ZL)))
 (ZP (Zi 5 (dOp ZAi (dOp ZCo (ZD 4) (dC (.int 1))) (dOp Zs (dF (f1 ZBq) (ZC (dOp Zm (ZD 3) (dC (.int 2))) ZL)) (dF (f1 ZBq) (ZC (dOp Zm (ZD 3) (dC (.int 3))) ZL)))))
 (ZP (ZCK (.tp (.cons (.nm 6) (.cons (.tp (.cons (.nm 7) (.cons (.nm 8) .nil))) .nil))) (ZCe (ZC (ZD 1) ZL))
 (ZP (Zi 9 (ZKH (ZBg (dOp ZBL (dOp Zm (dOp Zm (dOp Zm (ZD 2) (dC (.int 1))) (ZD 6)) (dC (.int 0))) (dC (.int 1))) (dOp ZCN (ZD 6) (dOp Zs (dOp Zm (ZD 3) (dC (.int 1))) (dOp Zm (ZD 3) (dC (.int 2)))))) (dOp ZC0 (ZD 6) (dOp Zm (ZD 3) (dC (.int 3))))))
 (Z5 (ZCG (dB (ZD 9)) (dB (dOp ZBL (dOp ZCd (dOp ZCo (dOp Zm (ZD 2) (dC (.int 0))) (ZD 8)) (ZD 7)) (dC (.int 0)))))
 (ZP (Zi 10 (dOp Zs (dC (.int 1)) (dF (f1 ZBq) (ZC (ZAh 1 [] (.nm 0) (ZCb (dOp Zm (dOp Zm (dOp Zm (ZD 2) (dC (.int 1))) (ZD 6)) (dC (.int 3)))) (dB (dOp ZJN (ZD 0) (dC (.int 0)))) (ZD 0)) ZL))))
 (Zi 5 (dOp Zs (ZD 5) (dOp ZAi (ZD 10) (dOp Zs (dC (.int 2)) (dOp ZAi (dC (.int 4)) (dF ZNP (ZC (dOp Zm (ZD 0) (dC (.int 0))) (ZC (dOp ZCo (ZD 4) (dC (.int 2))) ZL)))))))))
 dNx)))
 (Za (ZD 5)))))
@[irreducible] noncomputable def ZA9:List W->G->Option (W × G):=Z3 11 ZDg
theorem ZH4 {a0 a1 a2 a3:W} {g:G} {P:W->G->Prop} (h:EvS (ZDg [some a0,some a1,some a2,some a3,none,none,none,none,none,none,none] g) (runP P)):EvP (ZA9 [a0,a1,a2,a3] g) P:=by
 unfold ZA9
 exact Zf h
@[reducible] noncomputable def ZDN:DS :=
 (ZP (Zi 5 (dF ZA9 (ZC (ZD 0) (ZC (ZD 1) (ZC (ZD 2) (ZC (ZD 3) ZL))))))
 (ZP (Zi 6 (dF ZAS (ZC (ZD 0) (ZC (ZD 1) (ZC (ZD 2) (ZC (ZD 3) ZL))))))
 (Za (ZBg (dF ZKK (ZC (ZD 6) (ZC (λ _ g=>some (.ty "int",g)) ZL))) (ZBg (ZHc (dF ZKK (ZC (ZD 6) (ZC (λ _ g=>some (.ty "bool",g)) ZL)))) (ZBg (dOp ZBL (ZD 6) (ZD 5)) (dOp ZSR (dF (f1 ZBq) (ZC (ZD 4) ZL)) (ZD 5))))))))
@[irreducible] noncomputable def ZAM:List W->G->Option (W × G):=Z3 7 ZDN
theorem ZG0 {a0 a1 a2 a3 a4:W} {g:G} {P:W->G->Prop} (h:EvS (ZDN [some a0,some a1,some a2,some a3,some a4,none,none] g) (runP P)):EvP (ZAM [a0,a1,a2,a3,a4] g) P:=by
 unfold ZAM
 exact Zf h
@[reducible] noncomputable def ZMm:DS :=
 (ZP (ZCK (.nm 1) (ZAV (ZC (dOp Zs (dC (.int 1)) (dF (f1 ZBq) (ZC (dSl (ZD 0) ZBe (ZDZ (dC (.int 6)))) ZL))) ZL))
 (ZP (Zi 2 (dF ZBU (ZC (ZD 0) (ZC (ZD 1) ZL))))
 (ZP (Zi 3 (dF ZAv (ZC (ZD 2) (ZC (dC (.bool false)) ZL))))
 (ZP (Zi 4 (dF ZA7 (ZC (ZD 2) (ZC (dC (.int 8)) ZL))))
 (ZP (Zi 5 (dF ZDF (ZC (ZD 3) (ZC (ZD 4) ZL))))
 (ZP (Z5 (dB (dOp ZBL (dF ZN (ZC (ZD 2) (ZC (dC (.int 2)) ZL))) (dC (.int 0))))
 (Zi 5 (dF ZAu (ZC (ZD 2) (ZC (ZD 3) (ZC (ZD 4) ZL)))))
 dNx)
 (ZP (Zi 6 (ZD 5))
 (ZP (ZAO (.tp (.cons (.nm 7) (.cons (.nm 8) .nil))) (dF Zw (ZC (dF Zw ZL) (ZC (dF Zw ZL) ZL))))
 (ZP (ZCK (.nm 9) (ZAV (ZC (dOp Zs (dC (.int 1)) (dF ZN (ZC (ZD 2) (ZC (dC (.int 10)) ZL)))) ZL))
 (ZP (Zi 10 (dF ZAP (ZC (ZD 2) (ZC (ZD 6) (ZC (dOp ZBL (dF ZN (ZC (ZD 2) (ZC (dC (.int 3)) ZL))) (dC (.int 0))) ZL)))))
 (ZP (Z5 (dB (dOp ZBL (dF ZN (ZC (ZD 2) (ZC (dC (.int 4)) ZL))) (dC (.int 0))))
 (Zi 10 (dOp Zs (dF Zw (ZC (ZGO (dC (.int 120))) ZL)) (dSl (ZD 10) (ZDZ (dC (.int 1))) ZBe)))
 dNx)
 (ZP (ZAO (.tp (.cons (.nm 11) (.cons (.nm 12) .nil))) (dF ZAX (ZC (ZD 3) (ZC (ZD 4) (ZC (ZD 6) (ZC (ZD 10) ZL))))))
 (ZP (Z5 (ZE6 (dB (dF ZAM (ZC (ZD 3) (ZC (ZD 4) (ZC (ZD 6) (ZC (ZD 10) (ZC (ZD 12) ZL))))))))
 (Za (dC (.bool false)))
 dNx)
 (ZP (Zi 7 (dOp Zs (ZD 7) (dF Zw (ZC (ZD 10) ZL))))
 (ZP (Zi 8 (dOp Zs (ZD 8) (dF Zw (ZC (ZD 12) ZL))))
 (Zi 6 (ZD 11)))))))))
 (Z5 (dB (dOp ZEH (dF ZB2 (ZC (ZD 3) (ZC (ZD 4) (ZC (ZD 5) (ZC (ZD 7) ZL))))) (dF Zw (ZC (ZD 6) (ZC (ZD 8) ZL)))))
 (Za (dC (.bool false)))
 dNx))))))))))
 (Za (dC (.bool true))))
@[irreducible] noncomputable def ZGu:List W->G->Option (W × G):=Z3 13 ZMm
theorem ZQ4 {a0:W} {g:G} {P:W->G->Prop} (h:EvS (ZMm [some a0,none,none,none,none,none,none,none,none,none,none,none,none] g) (runP P)):EvP (ZGu [a0] g) P:=by
 unfold ZGu
 exact Zf h
local macro_rules
 | `(tactic| and_intros) => `(tactic| repeat (first
  | with_reducible (first
   | refine ZD4 ?_ | refine ZOX ?_ | refine x_c ?_ | refine ZSL ?_ | refine x_f ?_ | refine ZSU ?_ | refine x_b ?_ | refine ZNR ?_ | refine ZQO ?_ | refine ZQY ?_ | refine ZQD ?_ | refine ZQa ?_ | refine ZSP ?_ | refine ZQK ?_
   | refine ZNu ?_ | refine ZST ?_ | refine ZQb ?_ | refine ZOD ?_ | refine ZNh ?_ | refine ZQF ?_ | refine ZO1 ?_ | refine x_retN ?_
   | refine x_un ?_ | refine ZON ?_ | refine ZQN ?_ | refine ZH3 ?_ | refine x_if ?_ | refine x_chain ?_
   | refine ZSW ?_ | refine ZJZ ?_ | refine ZNF ?_ | refine ZMY ?_ | refine ZM6 ?_ | refine ZLW ?_ | refine ZMX ?_ | refine ZQE ?_ | refine ZQG ?_ | refine x_augS ?_ | refine ZNX ?_ | refine ZQT ?_ | refine ZMW ?_ | refine ZNU ?_ | refine ZNq ?_ | refine ZQC ?_ | refine ZM7 ?_ | refine ZNs ?_ | refine x_ext ?_ | refine x_ins ?_)
  | ((with_reducible refine ZFi ?_ ?_); exact rfl)
  | refine ZMp ?_ | refine ZMk ?_ | refine Exists.intro _ (And.intro rfl ?_)
  | refine Exists.intro _ (Exists.intro _ (Exists.intro _ (And.intro rfl (And.intro (by assumption) (And.intro rfl ?_)))))
  | refine Exists.intro _ (Exists.intro _ (Exists.intro _ (And.intro rfl (And.intro (by assumption) (And.intro (of_decide_eq_true rfl) (And.intro rfl ?_))))))
  | refine Exists.intro _ (Exists.intro _ (And.intro rfl (And.intro (by assumption) ?_)))
  | refine And.intro (ZIv (by assumption)) ?_ | refine And.intro (ZIv ZAB) ?_ | refine ZCU ?_ | refine ZNm ?_))
theorem ZF6 {α P:Prop} (_ : α) (h:P):P:=h
theorem ZAq (n:Nat) (lo:Int):(ZBn n lo).length=n:=by unfold ZBn; rw [List.length_map,List.length_range]
theorem Zj {b:Nat} {m:Int} {g:G} {P:W->G->Prop} (hb:Bx g b) (h0 : 0 < m) (h1:m < 2 ^ 62) (q:∀ d g',0<=d->d < m->Dr b g g'->P (.dat (.int d)) g'):EvP (ZN [.ref b,.dat (.int m)] g) P:=by
 have hl:=hb.lt
 obtain ⟨x,n,c,e⟩:=hb
 refine ZIT ?_
 and_intros
 refine ZFb e rfl ?_
 and_intros
 refine ⟨λ hx=>?_,λ hx=>?_⟩
 ·and_intros
  refine ZFb e rfl ?_
  and_intros
  refine ZER h0 ?_
  and_intros
  refine ZFb e rfl ?_
  and_intros
  refine ZQV h0 (by omega) ?_
  and_intros
  refine ⟨_,e,?_⟩
  and_intros
  exact q _ _ (Int.emod_nonneg _ (by omega)) (Int.emod_lt_of_pos _ h0) (.set hl)
 ·and_intros
  refine ZFb e rfl ?_
  and_intros
  refine ⟨_,e,?_⟩
  and_intros
  refine ZFb (ZAr hl) rfl ?_
  and_intros
  refine ZDe (ZFQ (by decide)) ?_
  and_intros
  refine ZFb (ZAr hl) rfl ?_
  and_intros
  generalize hz:(n * 48271+8191 * (c+1)+17) % 2147483647=z
  have z0 : 0<=z:=by rw [← hz]; exact Int.emod_nonneg _ (by decide)
  have z1:z < 2147483647:=by rw [← hz]; exact Int.emod_lt_of_pos _ (by decide)
  refine ZDe (ZNw (by omega)) ?_
  and_intros
  refine ZFb (ZAr hl) rfl ?_
  and_intros
  refine ⟨_,ZAr hl,?_⟩
  and_intros
  refine ZFb (ZAr (by rw [List.length_set]; exact hl)) rfl ?_
  and_intros
  refine ZER h0 ?_
  and_intros
  refine q _ _ (Int.emod_nonneg _ (by omega)) (Int.emod_lt_of_pos _ h0) ?_
  rw [List.set_set]
  exact .set hl
theorem ZSA {ns:List Int} {k:Int} {g:G} {P:W->G->Prop} (hk : 0<=k/\k<=100) (q:∀ g',g'.length=g.length+1->(∀ n,n < g.length->g'[n]? = g[n]?)->Bx g' g.length->P (.ref g.length) g'):EvP (ZBU [.inp ns,.dat (.int k)] g) P:=by
 refine ZJC ?_
 and_intros
 refine ⟨λ hx=>?_,λ hx=>?_⟩
 ·have hk2:k.toNat < ns.length:=by have:=of_decide_eq_true hx; omega
  and_intros
  refine ZIp (y:=ns.getD k.toNat 0) (x:=.dat (.int (ns.getD k.toNat 0))) (g:=g) (by have:=ZF1 (xs:=ns) (j:=k.toNat) (v:=ns.getD k.toNat 0) (by rw [List.getD_eq_getElem?_getD,List.getElem?_eq_getElem hk2]; rfl); rwa [Int.toNat_of_nonneg hk.1] at this) rfl ?_
  and_intros
  refine ZDe (ZFQ (ib1 _)) ?_
  and_intros
  refine ZDe (ZFQ (by omega)) ?_
  and_intros
  exact q _ (by simp) (λ n hn=>List.getElem?_append_left hn) ⟨_,_,_,ZAB⟩
 ·and_intros
  refine ZDe (ZFQ (by omega)) ?_
  and_intros
  exact q _ (by simp) (λ n hn=>List.getElem?_append_left hn) ⟨_,_,_,ZAB⟩
theorem ZE8 {xs:List PyData} {d:Int} {g:G} {P:W->G->Prop} (h0 : 0<=d) (h1:d < xs.length) (q:∀ x ∈ xs,P (.dat x) g):EvP (Zm (.dat (.list xs)) (.dat (.int d)) g) P:=by
 have hn:d.toNat < xs.length:=by omega
 refine y_ixL (d:=xs[d.toNat]) ?_ (q _ (List.getElem_mem hn))
 have h:=ZF1 (xs:=xs) (j:=d.toNat) (v:=xs[d.toNat]) (by simp [hn])
 rwa [Int.toNat_of_nonneg h0] at h
theorem ZN1 {xs:List PyData} {d:Int} {g:G} {P:W->G->Prop} (h0 : 0<=d) (h1:d < xs.length) (q:∀ x ∈ xs,P (.dat x) g):EvP (Zm (.dat (.tuple xs)) (.dat (.int d)) g) P:=by
 have hn:d.toNat < xs.length:=by omega
 refine ZAk (d:=xs[d.toNat]) ?_ (q _ (List.getElem_mem hn))
 have h:=ZF1 (xs:=xs) (j:=d.toNat) (v:=xs[d.toNat]) (by simp [hn])
 rwa [Int.toNat_of_nonneg h0] at h
theorem ZD0 {a b d:Int} {g:G} {P:W->G->Prop} (h0 : 0<=d) (h1:d < 2) (q:∀ x,x=a ∨ x=b->P (.dat (.int x)) g):EvP (Zm (.dat (.list [.int a,.int b])) (.dat (.int d)) g) P:=ZE8 h0 h1 λ x hx=>by
 simp only [List.mem_cons,List.not_mem_nil,or_false] at hx
 rcases hx with rfl | rfl
 ·exact q _ (.inl rfl)
 ·exact q _ (.inr rfl)
theorem ZOC {b:Nat} {wh:Bool} {g:G} {P:W->G->Prop} (hb:Bx g b) (q:∀ r g',RuOk r->r.cl.Sublist ZCJ->(wh=true->r.cl=ZCJ)->Dr b g g'->P (.dat (ruD r)) g'):EvP (ZAv [.ref b,.dat (.bool wh)] g) P:=by
 refine ZHO ?_
 and_intros
 refine Zj hb (by decide) (by decide) λ d1 g1 l1 u1 D1=>?_
 and_intros
 refine Zj D1.bx (by decide) (by decide) λ d2 g2 l2 u2 D2=>?_
 and_intros
 refine Zj D2.bx (by decide) (by decide) λ d3 g3 l3 u3 D3=>?_
 and_intros
 refine ZD0 l3 u3 λ t ht=>?_
 and_intros
 refine Zj D3.bx (by decide) (by decide) λ d4 g4 l4 u4 D4=>?_
 and_intros
 refine Zj D4.bx (by decide) (by decide) λ d5 g5 l5 u5 D5=>?_
 and_intros
 refine Zj D5.bx (by decide) (by decide) λ d6 g6 l6 u6 D6=>?_
 and_intros
 refine ZD0 l6 u6 λ c hc=>?_
 and_intros
 refine Zj D6.bx (by decide) (by decide) λ d7 g7 l7 u7 D7=>?_
 and_intros
 refine Zj D7.bx (by decide) (by decide) λ d8 g8 l8 u8 D8=>?_
 and_intros
 refine Zj D8.bx (by decide) (by decide) λ d9 g9 l9 u9 D9=>?_
 and_intros
 refine ZD0 (by omega) (by omega) λ w hw=>?_
 and_intros
 refine Zj D9.bx (by decide) (by decide) λ m gm lm um Dm=>?_
 and_intros
 have DD:=D1.trans (D2.trans (D3.trans (D4.trans (D5.trans (D6.trans (D7.trans (D8.trans (D9.trans Dm))))))))
 have rok:∀ (o:Int) (cl:List Str),0<=o->o < 4->cl.length<=7->RuOk ⟨o,1+w,t,c,cl⟩:=λ o cl h1 h2 h3=>⟨⟨h1,by show o<=3; omega⟩,⟨by show 1<=1+w; omega,by show 1+w<=9; omega⟩,⟨by show 0<=t; omega,by show t<=9; omega⟩,⟨by show 0<=c; omega,by show c<=8; omega⟩,h3⟩
 have whole:∀ (sdx:Sd) (rest:DS),sdx.getD 0 none=some (.ref b)->sdx.getD 2 none=some (.dat (.int t))->sdx.getD 3 none=some (.dat (.int c))->sdx.getD 4 none=some (.dat (.int (1+w)))->sdx.getD 5 none=some (.dat (clD ZCJ)) ->
   EvS (Za (dF Zw (ZC (dF ZN (ZC (ZD 0) (ZC (dC (.int 4)) ZL))) (ZC (ZD 4) (ZC (ZD 2) (ZC (ZD 3) (ZC (ZD 5) ZL)))))) sdx gm) (seqP rest (runP P)):=λ sdx rest e0 e2 e3 e4 e5=>by
  refine ZOD (x_f (ZD4 (x_f (ZD4 (ZFi e0 ?_)))))
  and_intros
  refine Zj Dm.bx (by decide) (by decide) λ o go lo uo Do=>?_
  refine ZD4 (ZFi e4 (ZD4 (ZFi e2 (ZD4 (ZFi e3 (ZD4 (ZFi e5 (ZOX ?_))))))))
  and_intros
  exact ZF6 (DD.trans Do).len (q ⟨o,1+w,t,c,ZCJ⟩ _ (rok o _ lo uo (by decide)) (List.Sublist.refl _) (λ _=>rfl) (DD.trans Do))
 refine ⟨λ _=>⟨λ _=>whole _ _ rfl rfl rfl rfl rfl,(λ z=>by cases z)⟩,λ hwh=>?_⟩
 and_intros
 refine ⟨λ _=>whole _ _ rfl rfl rfl rfl rfl,λ hm=>?_⟩
 clear whole
 and_intros
 refine Zj Dm.bx (by decide) (by decide) λ d10 g10 l10 u10 D10=>?_
 refine ZN1 (xs:=ZCJ.map .str) l10 u10 λ z hz=>?_
 obtain ⟨z,hz0,rfl⟩:=List.mem_map.mp hz
 have hok:=ok7
 and_intros
 refine ⟨by decide,?_⟩
 refine ZE4 (λ gx=>Dr b g gx) (λ i acc=>∃ l:List Str,acc=l.map .str/\l.Sublist (ZCJ.take i)) (DD.trans D10) ⟨[],rfl,List.Sublist.refl _⟩ ?_ ?_
 ·rintro i x gx acc hx Dx ⟨l,rfl,hl⟩
  have hx':(ZCJ.map PyData.str)[i]? = some x:=hx
  rw [List.getElem?_map] at hx'
  obtain ⟨s,hs,rfl⟩:=mp hx'
  have hs2:=List.mem_of_getElem? hs
  have hi:=(List.getElem?_eq_some_iff.mp hs).1
  have hsn:(l ++ [s]).Sublist (ZCJ.take (i+1)):=by
   rw [List.take_add_one,hs]
   exact hl.append (List.Sublist.refl _)
  have hsk:l.Sublist (ZCJ.take (i+1)):=hl.trans (List.take_sublist_take_left (Nat.le_succ i))
  and_intros
  refine ZSJ (by rw [hok s hs2,hok z hz0]; rfl) ?_
  and_intros
  refine ⟨λ c1=>?_,λ c1=>⟨(λ z=>by cases z),λ _=>⟨trivial,Dx,l,rfl,hsk⟩⟩⟩
  and_intros
  have yes:∀ (sdy:Sd) (gy:G),sdy.getD 0 none=some (.dat (.str s))->Dr b g gy->EvP (ZD 0 sdy gy) λ y g2=>∃ d,y=.dat d/\ZBk none (ZCJ.map PyData.str) g2/\Dr b g g2/\∃ l':List Str,l.map PyData.str ++ [d]=l'.map .str/\l'.Sublist (ZCJ.take (i+1)):=λ sdy gy e D=>ZFi e ⟨_,rfl,trivial,D,l ++ [s],by rw [List.map_append]; rfl,hsn⟩
  refine ⟨λ c2=>⟨λ _=>yes _ _ rfl Dx,(λ z=>by cases z)⟩,λ c2=>?_⟩
  and_intros
  refine Zj Dx.bx (by decide) (by decide) λ d11 g11 l11 u11 D11=>?_
  and_intros
  refine ⟨λ c3=>yes _ _ rfl (Dx.trans D11),λ c3=>⟨trivial,Dx.trans D11,l,rfl,hsk⟩⟩
 ·rintro acc gx Dx ⟨l,rfl,hl⟩
  and_intros
  refine Zj Dx.bx (by decide) (by decide) λ o go lo uo Do=>?_
  and_intros
  have hl7:l.Sublist ZCJ:=hl
  refine ZF6 (Dx.trans Do).len (q ⟨o,1+w,t,c,l⟩ _ (rok o _ lo uo hl7.length_le) hl7 (λ z=>by rw [hwh] at z; cases z) (Dx.trans Do))
theorem ZOw {b:Nat} {m:Int} {g:G} {P:W->G->Prop} (hb:Bx g b) (hm : 2<=m/\m<=8) (q:∀ ts g',2<=ts.length->(ts.length:Int)<=m->(∀ c ∈ ts,ZHE c)->Dr b g g'->P (.dat (Zr ts)) g'):EvP (ZA7 [.ref b,.dat (.int m)] g) P:=by
 refine ZIr ?_
 and_intros
 refine Zj hb (by decide) (by decide) λ d1 g1 l1 u1 D1=>?_
 and_intros
 refine Zj D1.bx (by decide) (by decide) λ d2 g2 l2 u2 D2=>?_
 refine ZE8 l2 u2 λ x hx=>?_
 obtain ⟨n0,rfl,hn0⟩:∃ n0,x=.int n0/\2<=n0/\n0<=8:=by
  simp only [List.mem_cons,List.not_mem_nil,or_false] at hx
  rcases hx with rfl | rfl | rfl | rfl | rfl | rfl <;> exact ⟨_,rfl,by omega,by omega⟩
 have D12:=D1.trans D2
 and_intros
 have hnn : 2<=(if n0 < m then n0 else m)/\(if n0 < m then n0 else m)<=m:=by split <;> omega
 generalize (if n0 < m then n0 else m)=n at *
 refine ZAw (j:=n) (g1:=g2) ?_
 and_intros
 refine ⟨by omega,?_⟩
 refine ZBu (λ i sd gx=>∃ ts hs pc,Dr b g gx/\g2.length < gx.length/\gx[g2.length]? = some (.pl ((ts:List (Int × Int)).map Zk))/\ts.length=i/\(∀ c ∈ ts,ZHE c)/\sd=[some (.ref b),some (.dat (.int m)),some (.dat (.int n)),some (.ref g2.length),hs,pc]) ⟨[],none,none,D12.app,by simp,ZAB,rfl,(λ c hc=>by cases hc),rfl⟩ ?_ ?_
 ·rintro i x sd gx hx ⟨ts,hs,pc,D3,l3,c3,rfl,hts,rfl⟩
  have hbl:=hb.lt
  have hg2:=D12.len
  refine ⟨_,rfl,?_⟩
  and_intros
  refine Zj D3.bx (by decide) (by decide) λ d3 g4 l3 u3 D4=>?_
  and_intros
  refine Zj D4.bx (by decide) (by decide) λ d4 g5 l4 u4 D5=>?_
  and_intros
  refine ZD0 l4 u4 λ p hp=>?_
  have hp4 : 1<=p/\p<=4:=by omega
  and_intros
  have D35:=D4.trans D5
  have c5:g5[g2.length]? = some (.pl (ts.map Zk)):=by rw [D35.kp _ (by omega) (by omega)]; exact c3
  and_intros
  refine Zj D5.bx (by omega) (by omega) λ st g6 l5 u5 D6=>?_
  have D36:=D35.trans D6
  have c6:g6[g2.length]? = some (.pl (ts.map Zk)):=by rw [D36.kp _ (by omega) (by omega)]; exact c3
  and_intros
  refine ⟨_,c6,?_,?_⟩
  ·rw [List.length_map]
   have:=(List.getElem?_eq_some_iff.mp hx).1
   rw [ZAq] at this
   omega
  have l6:=D36.len
  refine ⟨trivial,ts ++ [(p,st)],_,_,(D3.trans D36).put hbl hg2,by rw [List.length_set]; omega,?_,by rw [List.length_append]; rfl,λ c hc=>?_,rfl⟩
  ·rw [ZAr (by omega),List.map_append]
   rfl
  ·rcases List.mem_append.mp hc with hc | hc
   ·exact hts c hc
   ·rw [List.mem_singleton.mp hc]
    exact ⟨hp4.1,hp4.2,l5,u5⟩
 ·rintro sd gx ⟨ts,hs,pc,D3,l3,c3,hl,hts,rfl⟩
  rw [ZAq] at hl
  and_intros
  refine ZDr c3 ?_
  and_intros
  exact q ts gx (by omega) (by omega) hts D3
theorem ZHU {b n:Nat} {g0:G} {m:Int} {sd0:Sd} {de:DE} {P:List PyData->G->Prop} (R:Int->Prop) (hb:Bx g0 b) (hd:∀ (i:Nat) gx,Dr b g0 gx->EvP (de (sd0.set 0 (some (.dat (.int (0+(i:Int)))))) gx) λ y g2=>∃ k,y=.dat (.int k)/\R k/\Dr b g0 g2)
  (q:∀ (ks:List Int) gx,ks.length=n->(∀ k ∈ ks,R k)->Dr b g0 gx->P (ks.map .int) gx):EvP (ZBf none (ZBn n 0) (.nm 0) ZDf de sd0 (ZBn n 0) g0) P:=by
 refine ZE4 (λ gx=>Dr b g0 gx) (λ i acc=>∃ ks:List Int,acc=ks.map .int/\ks.length=i/\∀ k ∈ ks,R k) (.refl hb) ⟨[],rfl,rfl,(λ k hk=>by cases hk)⟩ ?_ ?_
 ·rintro i x gx acc hx Dx ⟨ks,rfl,hl,hk⟩
  unfold ZBn at hx
  rw [List.getElem?_map] at hx
  obtain ⟨j,hj,rfl⟩:=mp hx
  obtain ⟨hj1,hj2⟩:=List.getElem?_eq_some_iff.mp hj
  rw [List.getElem_range] at hj2
  subst hj2
  refine ⟨_,by rw [Zx],true,gx,rfl,λ _=>(hd i gx Dx).imp λ y g2 ⟨k,e,hk2,D2⟩=>⟨.int k,e,trivial,D2,ks ++ [k],by rw [List.map_append]; rfl,by rw [List.length_append,hl]; rfl,λ z hz=>?_⟩,λ z=>by cases z⟩
  rcases List.mem_append.mp hz with hz | hz
  ·exact hk z hz
  ·rw [List.mem_singleton.mp hz]; exact hk2
 ·rintro acc gx Dx ⟨ks,rfl,hl,hk⟩
  unfold ZBn at hl
  rw [List.length_map,List.length_range] at hl
  exact q ks gx hl hk Dx
theorem ZL1 {b n:Nat} {g0:G} {sd0:Sd} {de:DE} {P:List PyData->G->Prop} (R:Int × Int->Prop) (hb:Bx g0 b) (hd:∀ (i:Nat) gx,Dr b g0 gx->EvP (de (sd0.set 0 (some (.dat (.int (0+(i:Int)))))) gx) λ y g2=>∃ k,y=.dat (Zk k)/\R k/\Dr b g0 g2)
  (q:∀ (ks:List (Int × Int)) gx,ks.length=n->(∀ k ∈ ks,R k)->Dr b g0 gx->P (ks.map Zk) gx):EvP (ZBf none (ZBn n 0) (.nm 0) ZDf de sd0 (ZBn n 0) g0) P:=by
 refine ZE4 (λ gx=>Dr b g0 gx) (λ i acc=>∃ ks:List (Int × Int),acc=ks.map Zk/\ks.length=i/\∀ k ∈ ks,R k) (.refl hb) ⟨[],rfl,rfl,(λ k hk=>by cases hk)⟩ ?_ ?_
 ·rintro i x gx acc hx Dx ⟨ks,rfl,hl,hk⟩
  unfold ZBn at hx
  rw [List.getElem?_map] at hx
  obtain ⟨j,hj,rfl⟩:=mp hx
  obtain ⟨hj1,hj2⟩:=List.getElem?_eq_some_iff.mp hj
  rw [List.getElem_range] at hj2
  subst hj2
  refine ⟨_,by rw [Zx],true,gx,rfl,λ _=>(hd i gx Dx).imp λ y g2 ⟨k,e,hk2,D2⟩=>⟨Zk k,e,trivial,D2,ks ++ [k],by rw [List.map_append]; rfl,by rw [List.length_append,hl]; rfl,λ z hz=>?_⟩,λ z=>by cases z⟩
  rcases List.mem_append.mp hz with hz | hz
  ·exact hk z hz
  ·rw [List.mem_singleton.mp hz]; exact hk2
 ·rintro acc gx Dx ⟨ks,rfl,hl,hk⟩
  unfold ZBn at hl
  rw [List.length_map,List.length_range] at hl
  exact q ks gx hl hk Dx
theorem ZMn {b:Nat} {r:Ru} {ts:List (Int × Int)} {g:G} {P:W->G->Prop} (hb:Bx g b) (hr:RuOk r) (ht : 2<=ts.length/\ts.length<=8) (q:∀ tn hs g',hs.length=ts.length->0<=tn->tn<=100000->(∀ i h,hs[i]? = some h->HV r ts.length i h)->Dr b g g'->P (.dat (Zq tn hs)) g'):EvP (ZAu [.ref b,.dat (ruD r),.dat (Zr ts)] g) P:=by
 have rt:=hr.t
 have rw_:=hr.w
 refine ZHM ?_
 and_intros
 rw [List.length_map]
 refine Zj hb (by decide) (by decide) λ d1 g1 l1 u1 D1=>?_
 and_intros
 refine Zj D1.bx (by decide) (by decide) λ d2 g2 l2 u2 D2=>?_
 refine ZE8 l2 u2 λ x hx=>?_
 obtain ⟨far,rfl,hfar⟩:∃ n0,x=.int n0/\0<=n0/\n0<=999000:=by
  simp only [List.mem_cons,List.not_mem_nil,or_false] at hx
  rcases hx with rfl | rfl | rfl | rfl <;> exact ⟨_,rfl,by omega,by omega⟩
 and_intros
 refine Zj D2.bx (by decide) (by decide) λ calm g3 l3 u3 D3=>?_
 have D13:=D1.trans (D2.trans D3)
 and_intros
 refine ZAw (j:=ts.length) (g1:=g3) ?_
 and_intros
 refine ⟨by omega,?_⟩
 rw [show ((ts.length:Nat):Int).toNat=ts.length by omega]
 have hbxl:=hb.lt
 have hg3:=D13.len
 refine ZBu (λ i sd gx=>∃ hs z1 z2 z3 z4 z5,Dr b g gx/\g3.length < gx.length/\gx[g3.length]? = some (.pl ((hs:List Hs).map Zz))/\hs.length=i/\(∀ j h,hs[j]? = some h->HV r ts.length j h)/\sd=[some (.ref b),some (.dat (ruD r)),some (.dat (Zr ts)),some (.dat (.int (ts.length:Int))),some (.dat (.int far)),some (.dat (.int calm)),some (.ref g3.length),z1,z2,z3,z4,z5]) ⟨[],none,none,none,none,none,D13.app,by simp,ZAB,rfl,(λ j h e=>by simp at e),rfl⟩ ?_ ?_
 ·rintro i x sd gx hx ⟨hs,z1,z2,z3,z4,z5,D4,hl4,c4,rfl,hv,rfl⟩
  have hi:hs.length < ts.length:=by have:=(List.getElem?_eq_some_iff.mp hx).1; rw [ZAq] at this; exact this
  have hx2:x=.int (hs.length:Int):=by
   unfold ZBn at hx
   rw [List.getElem?_map] at hx
   obtain ⟨j,hj,rfl⟩:=mp hx
   obtain ⟨hj1,hj2⟩:=List.getElem?_eq_some_iff.mp hj
   rw [List.getElem_range] at hj2
   subst hj2
   rw [Int.zero_add]
  subst hx2
  refine ⟨_,rfl,?_⟩
  and_intros
  refine Zj D4.bx (by decide) (by decide) λ d5 g5 l5 u5 D5=>?_
  and_intros
  have hup : 0<=(if decide (0 < d5)=true then (1:Int) else 0)/\(if decide (0 < d5)=true then (1:Int) else 0)<=1:=by split <;> omega
  generalize (if decide (0 < d5)=true then (1:Int) else 0)=up at *
  refine ZAw (j:=ts.length) (g1:=g5) ?_
  and_intros
  refine ⟨by omega,?_⟩
  rw [show ((ts.length:Nat):Int).toNat=ts.length by omega]
  refine ⟨by rw [ZAq]; omega,?_⟩
  refine ZL1 (b:=b) (λ w=>(0<=w.1/\w.1<=1000000)/\0<=w.2/\w.2<=3) D5.bx (λ j gx Dx=>?_) λ bk g6 hbl hbs D6=>?_
  ·and_intros
   refine Zj Dx.bx (by decide) (by decide) λ e1 h1 m1 n1 E1=>?_
   and_intros
   refine Zj E1.bx (by decide) (by decide) λ e2 h2 m2 n2 E2=>?_
   and_intros
   refine ZD0 (by split <;> omega) (by split <;> omega) λ mk hmk=>?_
   and_intros
   exact ⟨(far+e1,mk),rfl,⟨⟨by show (0:Int)<=far+e1; omega,by show far+e1<=1000000; omega⟩,by show 0<=mk; omega,by show mk<=3; omega⟩,Dx.trans (E1.trans E2)⟩
  and_intros
  refine ZAw (j:=ts.length) (g1:=g6) ?_
  and_intros
  refine ⟨by omega,?_⟩
  rw [show ((ts.length:Nat):Int).toNat=ts.length by omega]
  refine ⟨by rw [ZAq]; omega,?_⟩
  refine ZHU (b:=b) (m:=0) (λ k=>0<=k/\k<=r.t) D6.bx (λ j gx Dx=>?_) λ tl g7 htl hts D7=>?_
  ·and_intros
   refine Zj Dx.bx (by omega) (by omega) λ e1 h1 m1 n1 E1=>?_
   exact ⟨e1,rfl,⟨m1,by omega⟩,Dx.trans E1⟩
  and_intros
  refine ZAw (j:=ts.length) (g1:=g7) ?_
  and_intros
  refine ⟨by omega,?_⟩
  rw [show ((ts.length:Nat):Int).toNat=ts.length by omega]
  refine ⟨by rw [ZAq]; omega,?_⟩
  refine ZHU (b:=b) (m:=0) (λ k=>0<=k/\k<=r.w) D7.bx (λ j gx Dx=>?_) λ tm g8 hml hms D8=>?_
  ·and_intros
   refine Zj Dx.bx (by omega) (by omega) λ e1 h1 m1 n1 E1=>?_
   and_intros
   refine Zj E1.bx (by decide) (by decide) λ e2 h2 m2 n2 E2=>?_
   and_intros
   refine ZDe (ZFQ (ib1 _)) ?_
   refine ⟨_,rfl,?_,Dx.trans (E1.trans E2)⟩
   split <;> omega
  and_intros
  refine ZAw (j:=ts.length) (g1:=g8) ?_
  and_intros
  refine ⟨by omega,?_⟩
  rw [show ((ts.length:Nat):Int).toNat=ts.length by omega]
  refine ⟨by rw [ZAq]; omega,?_⟩
  refine ZBb (λ j:Nat=>PyData.int (j:Int)) (λ j:Nat=>PyData.int (tm.getD j 0 * up * (if (j:Int)=(hs.length:Int) then 0 else 1))) (List.range ts.length) (by unfold ZBn; refine List.map_congr_left λ j _=>?_; rw [Int.zero_add]) trivial (λ j hj=>?_) ?_
  ·have hj:=List.mem_range.mp hj
   refine ⟨_,by rw [Zx],?_⟩
   and_intros
   refine ZAk (Zv (a:=(0:Int)) (by omega)) ?_
   and_intros
   have htb : 0<=tm.getD j 0/\tm.getD j 0<=r.w:=by
    rw [List.getD_eq_getElem?_getD,List.getElem?_eq_getElem (show j < tm.length by omega)]
    exact hms _ (List.getElem_mem _)
   generalize tm.getD j 0=tk at *
   refine ZDe (ZNw (by omega)) ?_
   and_intros
   refine ZDe (ZFQ (ib1 _)) ?_
   refine ⟨?_,rfl⟩
   rw [Zn]
   congr 2
   by_cases hjj:(j:Int)=(hs.length:Int)
   ·rw [if_pos hjj,decide_eq_true hjj]; rfl
   ·rw [if_neg hjj,decide_eq_false hjj]; rfl
  generalize htm2:((List.range ts.length).map λ j:Nat=>tm.getD j 0 * up * (if (j:Int)=(hs.length:Int) then 0 else 1))=tm2
  have hcv:((List.range ts.length).map λ j:Nat=>PyData.int (tm.getD j 0 * up * (if (j:Int)=(hs.length:Int) then 0 else 1)))=tm2.map .int:=by
   rw [← htm2,List.map_map]
   rfl
  rw [hcv]
  have DA:=D5.trans (D6.trans (D7.trans D8))
  have c9:g8[g3.length]? = some (.pl (hs.map Zz)):=by rw [DA.kp _ (by omega) (by omega)]; exact c4
  have l9:=DA.len
  and_intros
  refine ⟨_,c9,by rw [List.length_map]; omega,?_⟩
  refine ⟨trivial,hs ++ [(up,bk,tl,tm2)],_,_,_,_,_,(D4.trans DA).put hbxl hg3,by rw [List.length_set]; omega,?_,by rw [List.length_append]; rfl,snocV hv ?_,rfl⟩
  ·rw [ZAr (by omega),List.map_append]
   rfl
  have hm2:∀ k ∈ tm2,(0<=k/\k<=r.w)/\(up=1 ∨ k=0):=λ k hk=>by
   rw [← htm2] at hk
   obtain ⟨j,hj,rfl⟩:=List.mem_map.mp hk
   have hj:=List.mem_range.mp hj
   have htb : 0<=tm.getD j 0/\tm.getD j 0<=r.w:=by
    rw [List.getD_eq_getElem?_getD,List.getElem?_eq_getElem (show j < tm.length by omega)]
    exact hms _ (List.getElem_mem _)
   generalize tm.getD j 0=tk at *
   have hu:up=0 ∨ up=1:=by omega
   rcases hu with rfl | rfl
   ·simp; omega
   ·split <;> simp <;> omega
  refine ⟨hup,hbl,hbs,htl,hts,?_,λ k hk=>(hm2 k hk).1,?_,?_⟩
  ·show tm2.length=_
   rw [← htm2,List.length_map,List.length_range]
  ·show tm2[hs.length]? = some 0
   rw [← htm2,List.getElem?_map,List.getElem?_range hi]
   show some (_ * _ * _)=some 0
   rw [if_pos rfl,Int.mul_zero]
  ·show up=1 ∨ ∀ k ∈ tm2,k=0
   by_cases hu:up=1
   ·exact .inl hu
   ·exact .inr λ k hk=>((hm2 k hk).2).resolve_left hu
 ·rintro sd gx ⟨hs,z1,z2,z3,z4,z5,D4,hl4,c4,hl,hv,rfl⟩
  rw [ZAq] at hl
  and_intros
  refine Zj D4.bx (by decide) (by decide) λ e1 h1 m1 n1 E1=>?_
  refine ZE8 m1 n1 λ x hx=>?_
  obtain ⟨tm,rfl,htm⟩:∃ n0,x=.int n0/\0 < n0/\n0<=100000:=by
   simp only [List.mem_cons,List.not_mem_nil,or_false] at hx
   rcases hx with rfl | rfl | rfl <;> exact ⟨_,rfl,by omega,by omega⟩
  and_intros
  refine Zj E1.bx (by omega) (by omega) λ tn h2 m2 n2 E2=>?_
  have E12:=E1.trans E2
  have c9:h2[g3.length]? = some (.pl (hs.map Zz)):=by rw [E12.kp _ (by omega) (by omega)]; exact c4
  and_intros
  refine ZDr c9 ?_
  and_intros
  exact q tn hs h2 hl m2 (by omega) hv (D4.trans E12)
theorem ZPv {ds:List PyData} {i:Nat} {d:PyData} (hi:i < ds.length):ZCA ds none (some (i:Int)) ++ [d] ++ ZCA ds (some ((i:Int)+1)) none=ds.set i d:=by
 have e1:ZCA ds none (some (i:Int))=ds.take i:=by
  have h1:HT.sIx ds.length ds.length (some (i:Int))=i:=by
   show (if (i:Int) < 0 then ((i:Int)+(ds.length:Int)).toNat else min (i:Int).toNat ds.length)=i
   rw [if_neg (by omega)]
   omega
  have h2:HT.sIx ds.length 0 none=0:=rfl
  unfold ZCA
  rw [h1,h2,List.drop_zero,Nat.sub_zero]
 have e2:ZCA ds (some ((i:Int)+1)) none=ds.drop (i+1):=by
  have h1:HT.sIx ds.length 0 (some ((i:Int)+1))=i+1:=by
   show (if (i:Int)+1 < 0 then ((i:Int)+1+(ds.length:Int)).toNat else min ((i:Int)+1).toNat ds.length)=i+1
   rw [if_neg (by omega)]
   omega
  have h2:HT.sIx ds.length ds.length none=ds.length:=rfl
  unfold ZCA
  rw [h1,h2,List.take_of_length_le (by rw [List.length_drop]; omega)]
 rw [e1,e2,List.set_eq_take_append_cons_drop,if_pos hi,List.append_assoc]
 rfl
theorem ZIm {ds:List PyData} (lo hi:Option Int):(ZCA ds lo hi).length<=ds.length:=by
 unfold ZCA
 rw [List.length_take,List.length_drop]
 omega
theorem ZAF {ds:List PyData} {i:Nat} {d:PyData} {g:G} {P:W->G->Prop} (hi:i < ds.length) (hl:ds.length<=400) (q:P (.dat (.tuple (ds.set i d))) g):EvP (ZAo [.dat (.tuple ds),.dat (.int (i:Int)),.dat d] g) P:=by
 refine ZRS ?_
 and_intros
 have h1:=ZIm (ds:=ds) none (some (i:Int))
 have h2:=ZIm (ds:=ds) (some ((i:Int)+1)) none
 refine ZCz (show _+1<=1000 by omega) ?_
 and_intros
 refine ZCz (by rw [List.length_append]; show _+1+_<=1000; omega) ?_
 and_intros
 have e:=ZPv (d:=d) hi
 rw [show ZCA ds none (some (i:Int)) ++ (λ ds=>d :: ds) [] ++ ZCA ds (some ((i:Int)+1)) none=ds.set i d from e]
 exact q
theorem ZGA {ts:List (Int × Int)} {i:Nat} {n:Int} {g:G} {P:W->G->Prop} (hi:i < ts.length) (hc : 0 < (ts.getD i (0,0)).1/\(ts.getD i (0,0)).1 < 2 ^ 60) (q:P (.dat (.int (ZDb (ts.getD i (0,0)) n))) g):EvP (ZBB [.dat (Zr ts),.dat (.int (i:Int)),.dat (.int n)] g) P:=by
 refine ZJh ?_
 and_intros
 refine ZAk (Zv (a:=(0,0)) hi) ?_
 and_intros
 unfold ZDb at q
 refine ⟨λ h=>?_,λ h=>?_⟩
 ·rw [if_pos (of_decide_eq_true h)] at q
  and_intros
  exact q
 ·rw [if_neg (of_decide_eq_false h)] at q
  and_intros
  refine ZQV hc.1 (by omega) ?_
  and_intros
  exact q
theorem ZDt {ss:List Str} {s:Str}:((ss.map PyData.str).any λ y=>y.eqv (.str s))=ZEJ ss s:=by
 unfold ZEJ inV
 induction ss with
 | nil=>rfl
 | cons a r ih =>
  rw [List.map_cons,List.any_cons,ih,List.map_cons,List.any_cons]
  rfl
theorem ZD2 {ss:List Str} (h:ss.Sublist ZCJ):PyData.canLayAll0 (ss.map .str)=true:=by
 have h2:∀ s ∈ ss,ok0 (.str s)=true:=λ s hs=>ok7 s (h.mem hs)
 clear h
 induction ss with
 | nil=>rfl
 | cons a r ih =>
  have h3:=h2 a (List.mem_cons_self ..)
  unfold ok0 at h3
  rw [Bool.and_eq_true] at h3
  show (PyData.canLay0 (.str a) && PyData.canLayAll0 (r.map .str))=true
  rw [h3.1,ih λ s hs=>h2 s (List.mem_cons_of_mem _ hs)]
  rfl
theorem ZBG {g:G} {c c':Cell}:(g ++ [c]).set g.length c'=g ++ [c']:=by
 rw [List.set_append_right _ _ (Nat.le_refl _),Nat.sub_self]
 rfl
theorem ZQy {r:Ru} {ts:List (Int × Int)} {i:Nat} {n y:Int} {g:G} {P:W->G->Prop} (hcl:r.cl.Sublist ZCJ) (hi:i < ts.length) (h8:ts.length<=8) (hck:∀ c ∈ ts,ZHE c) (q:P (.ref g.length) (g ++ [.pl ((ZBp r.cl i y (ZDb (ts.getD i (0,0)) n % ((ts.length:Nat):Int))).map .int)])):EvP (ZAt [.dat (ruD r),.dat (Zr ts),.dat (.int n),.dat (.int (i:Int)),.dat (.int y)] g) P:=by
 have hc:=hck _ (ZEu (d:=(0,0)) hi)
 refine ZG5 ?_
 and_intros
 refine ZEQ (by rw [ZD2 hcl]; decide +kernel) ?_
 rw [ZDt]
 generalize hfar:ZDb (ts.getD i (0,0)) n % ((ts.length:Nat):Int)=far at *
 and_intros
 refine ⟨λ ho=>?_,λ ho=>?_⟩
 ·and_intros
  refine ⟨_,ZAB,by show (1:Nat) < 1000; decide,?_⟩
  rw [ZBG]
  and_intros
  refine ZGA hi ⟨by have:=hc.1; omega,by have:=hc.2.1; omega⟩ ?_
  and_intros
  rw [List.length_map]
  refine ZER (by omega) ?_
  rw [hfar]
  and_intros
  refine ZEQ (by rw [ZD2 hcl]; decide +kernel) ?_
  rw [ZDt]
  and_intros
  refine ⟨λ ha=>?_,λ ha=>?_⟩
  ·and_intros
   rw [Zn]
   refine ⟨λ hn=>?_,λ hn=>?_⟩
   ·have hn : ¬ far=(i:Int):=by simpa using hn
    and_intros
    refine ⟨_,ZAB,by show (2:Nat) < 1000; decide,?_⟩
    rw [ZBG]
    and_intros
    rw [show ZBp r.cl i y far=[y,(i:Int)] ++ [far] by unfold ZBp; rw [if_pos ho,if_pos ⟨ha,hn⟩]] at q
    exact q
   ·have hn:far=(i:Int):=by simpa using hn
    and_intros
    rw [show ZBp r.cl i y far=[y,(i:Int)] by unfold ZBp; rw [if_pos ho,if_neg (λ z=>z.2 hn)]; rfl] at q
    exact q
  ·rw [show ZBp r.cl i y far=[y,(i:Int)] by unfold ZBp; rw [if_pos ho,if_neg (λ z=>by rw [ha] at z; cases z.1)]; rfl] at q
   and_intros
   refine bF ?_
   and_intros
   exact q
 ·skip
  and_intros
  refine ZGA hi ⟨by have:=hc.1; omega,by have:=hc.2.1; omega⟩ ?_
  and_intros
  rw [List.length_map]
  refine ZER (by omega) ?_
  rw [hfar]
  and_intros
  refine ZEQ (by rw [ZD2 hcl]; decide +kernel) ?_
  rw [ZDt]
  and_intros
  refine ⟨λ ha=>?_,λ ha=>?_⟩
  ·and_intros
   rw [Zn]
   refine ⟨λ hn=>?_,λ hn=>?_⟩
   ·have hn : ¬ far=(i:Int):=by simpa using hn
    and_intros
    refine ⟨_,ZAB,by show (1:Nat) < 1000; decide,?_⟩
    rw [ZBG]
    and_intros
    rw [show ZBp r.cl i y far=[y] ++ [far] by unfold ZBp; rw [if_neg (by rw [ho]; exact Bool.false_ne_true),if_pos ⟨ha,hn⟩]] at q
    exact q
   ·have hn:far=(i:Int):=by simpa using hn
    and_intros
    rw [show ZBp r.cl i y far=[y] by unfold ZBp; rw [if_neg (by rw [ho]; exact Bool.false_ne_true),if_neg (λ z=>z.2 hn)]; rfl] at q
    exact q
  ·rw [show ZBp r.cl i y far=[y] by unfold ZBp; rw [if_neg (by rw [ho]; exact Bool.false_ne_true),if_neg (λ z=>by rw [ha] at z; cases z.1)]; rfl] at q
   and_intros
   refine bF ?_
   and_intros
   exact q
theorem y_inR {x:PyData} {n:Nat} {ys:List PyData} {g:G} {P:W->G->Prop} (hn:g[n]? = some (.pl ys)) (h:(ok0 x && PyData.canLayAll0 ys)=true) (q:P (.dat (.bool (ys.any λ y=>y.eqv x))) g):EvP (ZC0 (.dat x) (.ref n) g) P:=by
 refine ⟨_,_,?_,q⟩
 show ((lk g n).bind λ ys=>if (ok0 x && PyData.canLayAll0 ys)=true then some (W.dat (.bool (ys.any λ y=>y.eqv x)),g) else none)=_
 rw [ZJA hn]
 exact if_pos h
theorem ZRv {x:PyData} {n:Nat} {ys:List PyData} {g:G} {P:W->G->Prop} (hn:g[n]? = some (.pl ys)) (h:(ok0 x && PyData.canLayAll0 ys)=true) (q:P (.dat (.bool (!ys.any λ y=>y.eqv x))) g):EvP (ZCN (.dat x) (.ref n) g) P:=by
 refine ⟨_,_,?_,q⟩
 show ((lk g n).bind λ ys=>if (ok0 x && PyData.canLayAll0 ys)=true then some (W.dat (.bool !(ys.any λ y=>y.eqv x)),g) else none)=_
 rw [ZJA hn]
 exact if_pos h
theorem ZJy {α : Type} {enc : α->PyData} {d : α}:∀ (L:List α) (k:Nat),ZCI k (L.map enc)=(List.range L.length).map λ j:Nat=>PyData.tuple [.int ((k+j:Nat):Int),enc (L.getD j d)]
 | [],_=>rfl
 | a :: L,k=>by
  rw [List.map_cons,ZCI,ZJy L (k+1),List.length_cons,List.range_succ_eq_map,List.map_cons,List.map_map]
  congr 1
  refine List.map_congr_left λ j _=>?_
  show PyData.tuple [.int ((k+1+j:Nat):Int),enc (L.getD j d)]=.tuple [.int ((k+(j+1):Nat):Int),enc ((a :: L).getD (j+1) d)]
  rw [show k+1+j=k+(j+1) by omega]
  rfl
theorem ZHR {α : Type} {enc : α->PyData} (d : α) (L:List α):ZCI 0 (L.map enc)=(List.range L.length).map λ j:Nat=>PyData.tuple [.int (j:Int),enc (L.getD j d)]:=by
 rw [ZJy (d:=d)]
 refine List.map_congr_left λ j _=>?_
 rw [Nat.zero_add]
theorem ZQk {ks:List (Int × Int)} {g:G} {P:W->G->Prop} (hn:ks.Nodup) (hl:ks.length<=6) (q:P (.dat (.list ((ZFh ks).map Zk))) g):EvP (f1 ZNo [.dat (.list (ks.map Zk))] g) P:=by
 refine ZRo ?_ q
 show ZNo (.dat (.list (ks.map Zk))) g=_
 unfold ZNo
 show (match ZCF (ks.map Zk) with | some ns=>_ | none=>_)=_
 have hp:∀ ks:List (Int × Int),L2.pairsOf (ks.map Zk)=some ks:=by
  intro ks
  induction ks with
  | nil=>rfl
  | cons k ks ih=>rw [List.map_cons,L2.pairsOf,ih]; rfl
 cases ks with
 | nil=>simp [ZCF,ZMs,ZFh,List.mergeSort_nil]
 | cons k ks =>
  show ((L2.pairsOf ((k :: ks).map Zk)).bind _)=_
  rw [hp]
  exact if_pos ⟨hn,hl⟩
theorem ZJb {ds:List PyData} {c:Int} (h : 0<=c):ZCA ds none (some c)=ds.take c.toNat:=by
 have h1:HT.sIx ds.length ds.length (some c)=min c.toNat ds.length:=by
  show (if c < 0 then (c+(ds.length:Int)).toNat else min c.toNat ds.length)=_
  rw [if_neg (by omega)]
 have h2:HT.sIx ds.length 0 none=0:=rfl
 unfold ZCA
 rw [h1,h2,List.drop_zero,Nat.sub_zero]
 by_cases z:c.toNat<=ds.length
 ·rw [Nat.min_eq_left z]
 ·rw [List.take_of_length_le (by omega),List.take_of_length_le (by omega)]
theorem ZPl {r:Ru} {told due:List Int} {x:Int} {g:G} {P:W->G->Prop} (h0 : 0<=r.c) (h8:told.length<=8) (h6:(ZBm told r.t x due).length<=6) {dn:Nat} (hd:g[dn]? = some (.pl (due.map .int))) (q:P (.dat (.list ((ZE1 r told x due).map .int))) g):EvP (ZAg [.dat (ruD r),.dat (Zc told),.dat (.int x),.ref dn] g) P:=by
 refine ZGd ?_
 and_intros
 refine ⟨by rw [ZBW,List.length_map]; omega,?_⟩
 refine ZCt (λ j:Nat=>PyData.tuple [.int (j:Int),.int (told.getD j 0)]) (λ j:Nat=>decide (told.getD j 0 < r.t) && (!decide ((j:Int)=x) && !due.contains (j:Int))) (λ j:Nat=>PyData.tuple [.int (told.getD j 0),.int (j:Int)]) (List.range told.length) (ZHR 0 told) trivial (λ j hj=>?_) ?_
 ·refine ⟨_,rfl,?_⟩
  and_intros
  refine ⟨λ h1=>?_,λ h1=>⟨by rw [h1]; rfl,rfl,λ z=>by rw [h1] at z; cases z⟩⟩
  and_intros
  rw [Zn]
  refine ⟨λ h2=>?_,λ h2=>⟨by rw [h1,h2]; rfl,rfl,λ z=>by rw [h1,h2] at z; cases z⟩⟩
  and_intros
  refine ZRv hd (by rw [ZBO]; rfl) ?_
  rw [L2.any_ints]
  and_intros
  refine ⟨by rw [h1,h2]; rfl,rfl,λ _=>?_⟩
  and_intros
  exact ⟨rfl,rfl⟩
 have hfr:((List.range told.length).filter (λ j:Nat=>decide (told.getD j 0 < r.t) && (!decide ((j:Int)=x) && !due.contains (j:Int)))).map (λ j:Nat=>PyData.tuple [.int (told.getD j 0),.int (j:Int)])=(ZBm told r.t x due).map Zk:=by
  unfold ZBm ZGS
  rw [List.map_map]
  rfl
 rw [hfr]
 and_intros
 refine ZQk (ZIW ..) h6 ?_
 and_intros
 rw [ZJb h0,← List.map_take]
 have hsl:(ZFh (ZBm told r.t x due)).length<=6:=by
  unfold ZFh
  rw [(List.mergeSort_perm _ _).length_eq]
  exact h6
 refine ⟨by rw [List.length_map,List.length_take]; omega,?_⟩
 refine ZBb Zk (λ p:Int × Int=>PyData.int p.2) _ rfl trivial (λ p _=>⟨_,rfl,?_⟩) ?_
 ·and_intros
  exact ⟨rfl,rfl⟩
 have e:((ZFh (ZBm told r.t x due)).take r.c.toNat).map (λ p:Int × Int=>PyData.int p.2)=(ZE1 r told x due).map .int:=by
  unfold ZE1
  rw [List.map_map]
  rfl
 rw [e]
 and_intros
 exact q
theorem ZMI {r:Ru} {told due:List Int} {x k:Int} (h:k ∈ ZE1 r told x due) : 0<=k/\k.toNat < told.length:=by
 unfold ZE1 at h
 obtain ⟨p,hp,rfl⟩:=List.mem_map.mp h
 exact ZL5 ((List.mergeSort_perm _ _).mem_iff.mp (List.mem_of_mem_take hp))
theorem ZKR {r:Ru} {ts:List (Int × Int)} {tn:Int} {hs:List Hs} {h:Hs} {i j:Nat} {g:G} {P:W->G->Prop} (hcl:r.cl.Sublist ZCJ) (h0 : 0<=r.c) (hi:i < ts.length) (hj:j < ts.length) (hne:j ≠ i) (h8:ts.length<=8) (hck:∀ c ∈ ts,ZHE c) (hh:hs[i]? = some h) (hbl:h.2.1.length=ts.length) (htl:h.2.2.1.length=ts.length)
  (q:∀ far news,far=ZDb (ts.getD i (0,0)) tn % ((ts.length:Nat):Int)->news=ZE1 r h.2.2.1 i (ZBp r.cl i j far)->∀ g',Ex g g'->P (.dat (.tuple [ZIK (ZEo h.2.1 (ZBp r.cl i j far) news ts.length),Zc (ZBJ h.2.2.1 news)])) g'):EvP (ZBV [.dat (ruD r),.dat (Zr ts),.dat (Zq tn hs),.dat (.int (i:Int)),.dat (.int (j:Int))] g) P:=by
 obtain ⟨up,book,told,timers⟩:=h
 refine ZJn ?_
 and_intros
 refine ZAk (ZIZ hh) ?_
 and_intros
 refine ZQy hcl hi h8 hck ?_
 and_intros
 have q:=q _ _ rfl rfl _ (Ex.refl.app (c:=.pl ((ZBp r.cl (i:Int) (j:Int) (ZDb (ts.getD i (0,0)) tn % ((ts.length:Nat):Int))).map .int)))
 have hd:(g ++ [Cell.pl ((ZBp r.cl (i:Int) (j:Int) (ZDb (ts.getD i (0,0)) tn % ((ts.length:Nat):Int))).map .int)])[g.length]? = some (.pl ((ZBp r.cl (i:Int) (j:Int) (ZDb (ts.getD i (0,0)) tn % ((ts.length:Nat):Int))).map .int)):=ZAB
 generalize hgg:g ++ [Cell.pl ((ZBp r.cl (i:Int) (j:Int) (ZDb (ts.getD i (0,0)) tn % ((ts.length:Nat):Int))).map .int)]=gg at *
 clear hgg
 generalize hfar:ZDb (ts.getD i (0,0)) tn % ((ts.length:Nat):Int)=far at *
 have htl:told.length=ts.length:=htl
 have hbl:book.length=ts.length:=hbl
 have h6:(ZBm told r.t i (ZBp r.cl i j far)).length<=6:=by
  have:=ZLq (told:=told) (most:=r.t) (x:=i) (y:=j) (due:=ZBp r.cl i j far) (i:=i) (j:=j) rfl rfl (by rw [htl]; exact hi) (by rw [htl]; exact hj) hne (by unfold ZBp; exact List.mem_append_left _ (List.mem_cons_self ..))
  omega
 refine ZPl h0 (by omega) h6 hd ?_
 have hmem:∀ k ∈ ZE1 r told i (ZBp r.cl i j far),0<=k/\k.toNat < told.length:=λ k=>ZMI
 generalize ZE1 r told i (ZBp r.cl i j far)=news at *
 generalize ZBp r.cl i j far=due at *
 and_intros
 refine ⟨by rw [ZBW,List.length_map]; omega,?_⟩
 refine ZCt (λ k:Nat=>PyData.tuple [.int (k:Int),Zk (book.getD k (0,0))]) (λ k:Nat=>due.contains (k:Int) || news.contains (k:Int)) (λ k:Nat=>ZLY (k,book.getD k (0,0))) (List.range book.length) (ZHR (0,0) book) trivial (λ k hk=>?_) ?_
 ·refine ⟨_,rfl,?_⟩
  and_intros
  refine y_inR hd (by rw [ZBO]; rfl) ?_
  rw [L2.any_ints]
  and_intros
  refine ⟨λ h1=>⟨by rw [h1]; rfl,rfl,λ _=>?_⟩,λ h1=>?_⟩
  ·and_intros
   exact ⟨rfl,rfl⟩
  and_intros
  refine y_inL (by rw [ZBO]; rfl) ?_
  rw [L2.any_ints]
  and_intros
  refine ⟨by rw [h1]; rfl,rfl,λ _=>?_⟩
  and_intros
  exact ⟨rfl,rfl⟩
 have hnt:((List.range book.length).filter (λ k:Nat=>due.contains (k:Int) || news.contains (k:Int))).map (λ k:Nat=>ZLY (k,book.getD k (0,0)))=(ZEo book due news ts.length).map ZLY:=by
  unfold ZEo
  rw [List.map_map,hbl]
  rfl
 rw [hnt]
 and_intros
 refine ZBu (λ n sd gx=>gx=gg/\∃ z,sd=[some (.dat (ruD r)),some (.dat (Zr ts)),some (.dat (Zq tn hs)),some (.dat (.int (i:Int))),some (.dat (.int (j:Int))),some (.dat (.int tn)),some (.dat (.tuple (hs.map Zz))),some (.dat (.int up)),some (.dat (Zr book)),some (.dat (Zc (ZBJ told (news.take n)))),some (.dat (Zc timers)),some (.ref g.length),some (.dat (.list (news.map .int))),some (.dat (ZIK (ZEo book due news ts.length))),z]) ⟨rfl,_,rfl⟩ ?_ ?_
 ·rintro n x sd gx hx ⟨rfl,z,rfl⟩
  rw [List.getElem?_map] at hx
  obtain ⟨k,hk,rfl⟩:=mp hx
  obtain ⟨k0,k1⟩:=hmem k (List.mem_of_getElem? hk)
  obtain ⟨m,rfl⟩:∃ m:Nat,k=(m:Int):=⟨k.toNat,by omega⟩
  have hm:m < (ZBJ told (news.take n)).length:=by rw [ZC5]; omega
  refine ⟨_,rfl,?_⟩
  and_intros
  refine ZAk (Zv (a:=(0:Int)) hm) ?_
  and_intros
  refine ZAF (by rw [List.length_map]; exact hm) (by rw [List.length_map,ZC5]; omega) ?_
  and_intros
  refine ⟨trivial,rfl,some (.dat (.int (m:Int))),?_⟩
  have e:(((ZBJ told (news.take n)).map PyData.int).set m (.int ((ZBJ told (news.take n)).getD m 0+1)))=(ZBJ told (news.take (n+1))).map .int:=by
   rw [List.take_add_one,hk]
   show _=(ZBJ told (news.take n ++ [(m:Int)])).map PyData.int
   rw [ZKF,List.map_set]
   rfl
  rw [e]
  rfl
 ·rintro sd gx ⟨rfl,z,rfl⟩
  rw [List.length_map,List.take_length]
  and_intros
  exact q
theorem ZJP {a b:Int × Int} {g:G} {P:W->G->Prop} (q:P (.dat (.bool (gtW a b))) g):EvP (ZCm [.dat (Zk a),.dat (Zk b)] g) P:=by
 refine ZNx ?_
 and_intros
 exact q
theorem ZLE {cl:List Str} {s:Str} {g:G} {P:W->G->Prop} (hcl:cl.Sublist ZCJ) (hs:ok0 (.str s)=true) (q:P (.dat (.bool (ZEJ cl s))) g):EvP (ZC0 (.dat (.str s)) (.dat (clD cl)) g) P:=by
 refine ZEQ (by rw [ZD2 hcl,hs]; rfl) ?_
 rw [ZDt]
 exact q
theorem ZR8 {cl:List Str} {s:Str} {g:G} {P:W->G->Prop} (hcl:cl.Sublist ZCJ) (hs:ok0 (.str s)=true) (q:P (.dat (.bool (!ZEJ cl s))) g):EvP (ZCN (.dat (.str s)) (.dat (clD cl)) g) P:=by
 refine ZIi (by rw [ZD2 hcl,hs]; rfl) ?_
 rw [ZDt]
 exact q
theorem ZOK {r:Ru} {old w:Int × Int} {g:G} {P:W->G->Prop} (hcl:r.cl.Sublist ZCJ) (q:P (.dat (.bool (ZH7 r.cl old w))) g):EvP (ZBE [.dat (ruD r),.dat (Zk old),.dat (Zk w)] g) P:=by
 refine ZIY ?_
 unfold ZH7 at q
 and_intros
 refine ZLE hcl (by decide +kernel) ?_
 and_intros
 refine ⟨λ h=>?_,λ h=>?_⟩
 ·rw [if_pos h] at q
  and_intros
  refine ZJP ?_
  and_intros
  exact q
 ·rw [if_neg (by rw [h]; exact Bool.false_ne_true)] at q
  and_intros
  have e:=ZMz w old
  have e':(!(Zk w).eqv (Zk old)) = !decide (w=old):=by rw [e]
  rw [← e'] at q
  exact q
theorem ZKT {r:Ru} {h:Hs} {y n:Nat} {w:Int × Int} {g:G} {P:W->G->Prop} (hcl:r.cl.Sublist ZCJ) (hl:HL n h) (hy:y < n) (hn:n<=8) (q:P (.dat (Zz (ZLv r.cl h y w))) g):EvP (ZBX [.dat (ruD r),.dat (Zz h),.dat (.int (y:Int)),.dat (Zk w)] g) P:=by
 obtain ⟨up,bk,td,tm⟩:=h
 have hbl:bk.length=n:=hl.bl
 have htl:td.length=n:=hl.tl
 show EvP (ZBX [.dat (ruD r),.dat (.tuple [.int up,Zr bk,Zc td,Zc tm]),.dat (.int (y:Int)),.dat (Zk w)] g) P
 refine ZKV ?_
 unfold ZLv at q
 have q:P (.dat (Zz (if up=1/\ZEJ r.cl "refute" = true/\gtW w (bk.getD y (0,0))=true then (up,bk.set y (w.1+1,0),td.set y 0,tm) else (up,bk,td,tm)))) g:=q
 and_intros
 rw [Zn]
 refine ⟨λ h1=>?_,λ h1=>?_⟩
 ·have h1:up=1:=of_decide_eq_true h1
  and_intros
  refine ZLE hcl (by decide +kernel) ?_
  and_intros
  refine ⟨λ h2=>?_,λ h2=>?_⟩
  ·and_intros
   refine ZAk (Zv (a:=(0,0)) (by omega)) ?_
   and_intros
   refine ZJP ?_
   and_intros
   refine ⟨λ h3=>?_,λ h3=>?_⟩
   ·rw [if_pos ⟨h1,h2,h3⟩] at q
    and_intros
    refine ZAF (by rw [List.length_map]; omega) (by rw [List.length_map]; omega) ?_
    and_intros
    refine ZAF (by rw [List.length_map]; omega) (by rw [List.length_map]; omega) ?_
    and_intros
    have e1:(bk.map Zk).set y (.tuple [.int (w.1+1),.int 0])=(bk.set y (w.1+1,0)).map Zk:=by rw [List.map_set]; rfl
    have e2:(td.map PyData.int).set y (.int 0)=(td.set y 0).map .int:=by rw [List.map_set]
    rw [show (λ ds=>PyData.int (w.1+1) :: ds) ((λ ds=>PyData.int 0 :: ds) [])=[PyData.int (w.1+1),PyData.int 0] from rfl,e1,e2]
    exact q
   ·rw [if_neg (λ z=>by rw [h3] at z; cases z.2.2)] at q
    and_intros
    exact q
  ·rw [if_neg (λ z=>by rw [h2] at z; cases z.2.1)] at q
   and_intros
   refine bF ?_
   and_intros
   exact q
 ·rw [if_neg (λ z=>of_decide_eq_false h1 z.1)] at q
  and_intros
  refine bF ?_
  and_intros
  exact q
theorem ZNG {r:Ru} {h:Hs} {o n:Nat} {w:Int × Int} {g:G} {P:W->G->Prop} (hcl:r.cl.Sublist ZCJ) (hl:HL n h) (hy:o < n) (hn:n<=8) (q:P (.dat (Zz (ZL7 r.cl h o w))) g):EvP (ZCi [.dat (ruD r),.dat (Zz h),.dat (.int (o:Int)),.dat (Zk w)] g) P:=by
 obtain ⟨up,bk,td,tm⟩:=h
 have hbl:bk.length=n:=hl.bl
 have htl:td.length=n:=hl.tl
 have hml:tm.length=n:=hl.ml
 show EvP (ZCi [.dat (ruD r),.dat (.tuple [.int up,Zr bk,Zc td,Zc tm]),.dat (.int (o:Int)),.dat (Zk w)] g) P
 refine ZM1 ?_
 unfold ZL7 at q
 have q:P (.dat (Zz (if ZH7 r.cl (bk.getD o (0,0)) w=true then (up,bk.set o w,td.set o 0,if w.2=1 then tm else tm.set o 0) else (up,bk,td,tm)))) g:=q
 and_intros
 refine ZAk (Zv (a:=(0,0)) (by omega)) ?_
 and_intros
 refine ZOK hcl ?_
 and_intros
 have e1:(bk.map Zk).set o (Zk w)=(bk.set o w).map Zk:=by rw [List.map_set]
 have e2:(td.map PyData.int).set o (.int 0)=(td.set o 0).map .int:=by rw [List.map_set]
 have e3:(tm.map PyData.int).set o (.int 0)=(tm.set o 0).map .int:=by rw [List.map_set]
 refine ⟨λ h1=>?_,λ h1=>?_⟩
 ·rw [Bool.not_eq_true'] at h1
  rw [if_neg (by rw [h1]; exact Bool.false_ne_true)] at q
  and_intros
  exact q
 ·rw [Bool.not_eq_false'] at h1
  rw [if_pos h1] at q
  and_intros
  rw [Zn]
  refine ⟨λ h2=>?_,λ h2=>?_⟩
  ·have h2 : ¬ w.2=1:=by simpa using h2
   rw [if_neg h2] at q
   and_intros
   refine ZAF (by rw [List.length_map]; omega) (by rw [List.length_map]; omega) ?_
   and_intros
   refine ZAF (by rw [List.length_map]; omega) (by rw [List.length_map]; omega) ?_
   and_intros
   refine ZAF (by rw [List.length_map]; omega) (by rw [List.length_map]; omega) ?_
   and_intros
   rw [e1,e2,e3]
   exact q
  ·have h2:w.2=1:=by simpa using h2
   rw [if_pos h2] at q
   and_intros
   refine ZAF (by rw [List.length_map]; omega) (by rw [List.length_map]; omega) ?_
   and_intros
   refine ZAF (by rw [List.length_map]; omega) (by rw [List.length_map]; omega) ?_
   and_intros
   rw [e1,e2]
   exact q
theorem ZMd {r:Ru} {h:Hs} {y n:Nat} {ns:List (Nat × (Int × Int))} {g:G} {P:W->G->Prop} (hcl:r.cl.Sublist ZCJ) (hl:HL n h) (hy:y < n) (hn:n<=8) (hns:∀ x ∈ ns,x.1 < n) (q:P (.dat (Zz (ZCE r.cl y h ns))) g):EvP (ZDK [.dat (ruD r),.dat (Zz h),.dat (.int (y:Int)),.dat (ZIK ns)] g) P:=by
 refine ZNE ?_
 and_intros
 refine ZBu (λ i sd gx=>gx=g/\∃ z4 z5,sd=[some (.dat (ruD r)),some (.dat (Zz (ZCE r.cl y h (ns.take i)))),some (.dat (.int (y:Int))),some (.dat (ZIK ns)),z4,z5]) ⟨rfl,_,_,rfl⟩ ?_ ?_
 ·rintro i x sd gx hx ⟨rfl,z4,z5,rfl⟩
  rw [List.getElem?_map] at hx
  obtain ⟨k,hk,rfl⟩:=mp hx
  have hkn:=hns k (List.mem_of_getElem? hk)
  have hL:=ZGz (cl:=r.cl) (y:=y) (ns:=ns.take i) hl
  have e:=ZJH (cl:=r.cl) (y:=y) (h:=h) hk
  refine ⟨_,rfl,?_⟩
  and_intros
  rw [Zn]
  refine ⟨λ h1=>?_,λ h1=>?_⟩
  ·have h1:k.1=y:=by have:=of_decide_eq_true h1; omega
   and_intros
   refine ZKT hcl hL hy hn ?_
   and_intros
   refine ⟨trivial,rfl,some (.dat (.int (k.1:Int))),some (.dat (Zk k.2)),?_⟩
   rw [e]
   unfold ZDq
   rw [if_pos h1]
   rfl
  ·have h1 : ¬ k.1=y:=by have:=of_decide_eq_false h1; omega
   and_intros
   refine ZNG hcl hL hkn hn ?_
   and_intros
   refine ⟨trivial,rfl,some (.dat (.int (k.1:Int))),some (.dat (Zk k.2)),?_⟩
   rw [e]
   unfold ZDq
   rw [if_neg h1]
   rfl
 ·rintro sd gx ⟨rfl,z4,z5,rfl⟩
  rw [List.length_map,List.take_length]
  and_intros
  exact q
theorem ZI0 {tn:Int} {hs:List Hs} {h:Hs} {i:Nat} {g:G} {P:W->G->Prop} (hi:i < hs.length) (hn:hs.length<=8) (q:P (.dat (Zq tn (hs.set i h))) g):EvP (Z1 [.dat (Zq tn hs),.dat (.int (i:Int)),.dat (Zz h)] g) P:=by
 refine ZG4 ?_
 and_intros
 refine ZAF (by rw [List.length_map]; omega) (by rw [List.length_map]; omega) ?_
 and_intros
 rw [← List.map_set]
 exact q
structure EnOk (e:En):Prop where
 cl:e.r.cl.Sublist ZCJ
 ru:RuOk e.r
 n2 : 2<=e.ts.length
 n8:e.ts.length<=8
 ck:∀ c ∈ e.ts,ZHE c
theorem ZMN {book:List (Int × Int)} {due news:List Int} {m:Nat}:∀ x ∈ ZEo book due news m,x.1 < m:=λ x hx=>by
 unfold ZEo at hx
 obtain ⟨j,hj,rfl⟩:=List.mem_map.mp hx
 exact List.mem_range.mp (List.mem_filter.mp hj).1
theorem ZMF {e:En} {hs:List Hs} {x y:Nat} {g:G} {P:W->G->Prop} (ok:EnOk e) (w:HsL e.ts.length hs) (hx:x < e.ts.length) (hy:y < e.ts.length) (hne:y ≠ x)
  (q:∀ g',Ex g g'->P (.dat (.tuple [Zq e.tn (ZDv e x y hs),if (hs.getD y H0).1=0 then .none else Zq e.tn (ZEp e x y hs)])) g'):EvP (ZCa [.dat (ruD e.r),.dat (Zr e.ts),.dat (Zq e.tn hs),.dat (.int (x:Int)),.dat (.int (y:Int))] g) P:=by
 have hxl:x < hs.length:=by rw [w.len]; exact hx
 have hyl:y < hs.length:=by rw [w.len]; exact hy
 have wx:=w.get hx
 have wy:=w.get hy
 have h8:=ok.n8
 have ex:hs[x]? = some (hs.getD x H0):=by rw [List.getD_eq_getElem?_getD,List.getElem?_eq_getElem hxl]; rfl
 refine ZLi ?_
 and_intros
 refine ZKR (h:=hs.getD x H0) ok.cl ok.ru.c.1 hx hy hne h8 ok.ck ex wx.bl wx.tl λ far news hfar hnews g' E=>?_
 have q:=q g' E
 unfold ZEp ZDv at q
 rw [show ZLa e (hs.getD x H0) x y=news by unfold ZLa ZOQ; rw [hnews,hfar],show ZOQ e x y=ZBp e.r.cl x y far by unfold ZOQ; rw [hfar]] at q
 have wl:=w.len
 generalize hs.getD x H0=h0 at *
 obtain ⟨up,bk,td,tm⟩:=h0
 and_intros
 refine ZAk (ZIZ ex) ?_
 and_intros
 refine ZAF (by rw [List.length_map]; exact hxl) (by rw [List.length_map]; omega) ?_
 and_intros
 have e1:(hs.map Zz).set x (.tuple [.int up,Zr bk,Zc (ZBJ td news),Zc tm])=(hs.set x (up,bk,ZBJ td news,tm)).map Zz:=by rw [List.map_set]; rfl
 rw [show (λ ds=>PyData.int up :: ds) ((λ ds=>Zr bk :: ds) ((λ ds=>Zc (ZBJ td news) :: ds) ((λ ds=>Zc tm :: ds) [])))=[PyData.int up,Zr bk,Zc (ZBJ td news),Zc tm] from rfl,e1]
 have wm:HsL e.ts.length (hs.set x (up,bk,ZBJ td news,tm)):=w.set ⟨wx.up,wx.bl,by show (ZBJ td news).length=_; rw [ZC5]; exact wx.tl,wx.ml⟩
 and_intros
 refine ZAk (Zv (a:=H0) hyl) ?_
 and_intros
 rw [Zn]
 refine ⟨λ h1=>?_,λ h1=>?_⟩
 ·rw [if_pos (of_decide_eq_true h1)] at q
  and_intros
  exact q
 ·rw [if_neg (of_decide_eq_false h1)] at q
  and_intros
  refine ZAk (Zv (a:=H0) hyl) ?_
  and_intros
  refine ZMd ok.cl wy hy h8 ZMN ?_
  and_intros
  refine ZI0 (hs:=hs.set x (up,bk,ZBJ td news,tm)) (by rw [List.length_set]; exact hyl) (by rw [List.length_set]; omega) ?_
  and_intros
  exact q
structure RdAt (n m:Nat) (e:En) (R:Rw) (g:G):Prop where
 ob:g[n]? = some (.ob ZY [.dat (ruD e.r),.dat (Zr e.ts),.dat (Zq e.tn R.hs),.dat (Zc e.lo),.ref m])
 le:g[m]? = some (.pl (R.le.map ltD))
 ne:n ≠ m
structure Fr (n m:Nat) (g g':G):Prop where
 len:g.length<=g'.length
 kp:∀ k,k < g.length->k ≠ n->k ≠ m->g'[k]? = g[k]?
theorem Fr.refl {n m:Nat} {g:G}:Fr n m g g:=⟨Nat.le_refl _,λ _ _ _ _=>rfl⟩
theorem Fr.trans {n m:Nat} {g g1 g2:G} (h:Fr n m g g1) (k:Fr n m g1 g2):Fr n m g g2:=⟨Nat.le_trans h.len k.len,λ i h1 h2 h3=>(k.kp i (Nat.lt_of_lt_of_le h1 h.len) h2 h3).trans (h.kp i h1 h2 h3)⟩
theorem Fr.ex {n m:Nat} {g g':G} (h:Ex g g'):Fr n m g g':=⟨h.len,λ k h1 _ _=>h.kp k h1⟩
theorem Fr.setn {n m:Nat} {g:G} {c:Cell}:Fr n m g (g.set n c):=⟨by rw [List.length_set]; exact Nat.le_refl _,λ k _ h2 _=>List.getElem?_set_ne (Ne.symm h2)⟩
theorem Fr.setm {n m:Nat} {g:G} {c:Cell}:Fr n m g (g.set m c):=⟨by rw [List.length_set]; exact Nat.le_refl _,λ k _ _ h3=>List.getElem?_set_ne (Ne.symm h3)⟩
theorem ZC1 {g:G} {n:Nat} {c:Cell} (h:g[n]? = some c):n < g.length:=(List.getElem?_eq_some_iff.mp h).1
theorem RdAt.ex {n m:Nat} {e:En} {R:Rw} {g g':G} (h:RdAt n m e R g) (x:Ex g g'):RdAt n m e R g':=⟨by rw [x.kp _ (ZC1 h.ob)]; exact h.ob,by rw [x.kp _ (ZC1 h.le)]; exact h.le,h.ne⟩
theorem RdAt.st {n m:Nat} {e:En} {R:Rw} {g:G} {hs:List Hs} (h:RdAt n m e R g):RdAt n m e ⟨hs,R.le⟩ (g.set n (.ob ZY [.dat (ruD e.r),.dat (Zr e.ts),.dat (Zq e.tn hs),.dat (Zc e.lo),.ref m])):=⟨ZAr (ZC1 h.ob),by rw [List.getElem?_set_ne h.ne]; exact h.le,h.ne⟩
theorem RdAt.lt {n m:Nat} {e:En} {R:Rw} {g:G} {L:List Lt} (h:RdAt n m e R g):RdAt n m e ⟨R.hs,L⟩ (g.set m (.pl (L.map ltD))):=⟨by rw [List.getElem?_set_ne (Ne.symm h.ne)]; exact h.ob,ZAr (ZC1 h.le),h.ne⟩
theorem ZLb {n m:Nat} {e:En} {R:Rw} {x y:Nat} {g:G} {P:W->G->Prop} (ok:EnOk e) (w:HsL e.ts.length R.hs) (hx:x < e.ts.length) (hy:y < e.ts.length) (hne:x ≠ y) (hl:R.le.length < 1000) (ra:RdAt n m e R g)
  (q:∀ g',RdAt n m e (ZBD e x y R).2 g'->Fr n m g g'->P (.dat (.bool (ZBD e x y R).1)) g'):EvP (Z0 [.ref n,.dat (.int (x:Int)),.dat (.int (y:Int))] g) P:=by
 have ob:=ra.ob
 have le:=ra.le
 refine ZGc ?_
 and_intros
 refine ZR7 le ?_
 and_intros
 refine ZEQ (by rw [ZBO]; rfl) ?_
 rw [L2.any_ints,List.length_map]
 and_intros
 refine ⟨_,le,by rw [List.length_map]; exact hl,?_⟩
 rw [show R.le.map ltD ++ [PyData.tuple ((λ ds=>PyData.int (x:Int) :: ds) ((λ ds=>PyData.int (y:Int) :: ds) ((λ ds=>PyData.bool (e.lo.contains (R.le.length:Int)) :: ds) [])))]=(R.le ++ [((x:Int),(y:Int),e.lo.contains (R.le.length:Int))]).map ltD by rw [List.map_append]; rfl]
 have r1:=ra.lt (L:=R.le ++ [((x:Int),(y:Int),e.lo.contains (R.le.length:Int))])
 have f1:Fr n m g (g.set m (.pl ((R.le ++ [((x:Int),(y:Int),e.lo.contains (R.le.length:Int))]).map ltD))):=.setm
 generalize g.set m (.pl ((R.le ++ [((x:Int),(y:Int),e.lo.contains (R.le.length:Int))]).map ltD))=g1 at *
 have ob1:=r1.ob
 and_intros
 refine ZMF ok w hx hy (Ne.symm hne) λ g2 E=>?_
 have r2:=r1.ex E
 have f2:=f1.trans (.ex E)
 have ob2:=r2.ob
 unfold ZBD at q
 cases hb:e.lo.contains (R.le.length:Int) with
 | true =>
  rw [if_pos hb] at q
  rw [hb] at r2 ob2
  and_intros
  refine ⟨λ _=>⟨λ _=>?_,(λ z=>by cases z)⟩,(λ z=>by cases z)⟩
  and_intros
  exact q _ (r2.st (hs:=ZDv e x y R.hs)) (f2.trans .setn)
 | false =>
  rw [if_neg (by rw [hb]; exact Bool.false_ne_true)] at q
  rw [hb] at r2 ob2
  by_cases hu:(R.hs.getD y H0).1=0
  ·rw [if_pos hu] at q
   rw [if_pos hu]
   and_intros
   refine bF ?_
   and_intros
   refine bT ?_
   and_intros
   exact q _ (r2.st (hs:=ZDv e x y R.hs)) (f2.trans .setn)
  ·rw [if_neg hu] at q
   rw [if_neg hu]
   and_intros
   refine bF ?_
   and_intros
   refine bF ?_
   and_intros
   exact q _ (r2.st (hs:=ZEp e x y R.hs)) (f2.trans .setn)
theorem ZGZ {b:List (Int × Int)} {h:Nat} {g:G} {P:W->G->Prop} (hl:h < b.length) (q:P (.dat (.bool (abF b h))) g):EvP (ZAs [.dat (Zr b),.dat (.int (h:Int))] g) P:=by
 refine ZJv ?_
 and_intros
 refine ZAk (Zv (a:=(0,0)) hl) ?_
 and_intros
 exact q
theorem ZKb {e:En} {b:List (Int × Int)} {x y:Nat} {g:G} {P:W->G->Prop} (ho : 0<=e.r.o) (h2 : 2<=b.length) (h8:b.length<=8) (q:P (.dat (.list ((ZE2 e b x y).map λ h:Nat=>PyData.int (h:Int)))) g):EvP (ZBs [.dat (ruD e.r),.dat (Zr b),.dat (.int (x:Int)),.dat (.int (y:Int))] g) P:=by
 refine ZKu ?_
 and_intros
 rw [List.length_map]
 refine ZLs ?_
 and_intros
 refine ⟨1,_,rfl,by omega,?_⟩
 refine ⟨by rw [ZAq]; omega,?_⟩
 refine ZBb (λ i:Nat=>PyData.int (1+(i:Int))) (λ i:Nat=>PyData.int (((x+(i+1)) % b.length:Nat):Int)) (List.range ((b.length:Int) - 1).toNat) rfl trivial (λ i hi=>⟨_,by rw [Zx],?_⟩) ?_
 ·and_intros
  refine ZER (by omega) ?_
  refine ⟨?_,rfl⟩
  rw [show (x:Int)+(1+(i:Int))=((x+(i+1):Nat):Int) by omega]
  rfl
 and_intros
 refine ⟨by rw [List.length_map,List.length_range]; omega,?_⟩
 refine ZCt (λ h:Nat=>PyData.int (h:Int)) (λ h=>!decide (h=y) && abF b h) (λ h:Nat=>PyData.int (h:Int)) ((List.range (b.length - 1)).map λ k=>(x+(k+1)) % b.length) ?_ trivial (λ h hh=>⟨_,by rw [Zx],?_⟩) ?_
 ·rw [List.map_map,show ((b.length:Int) - 1).toNat=b.length - 1 by omega]
  rfl
 ·obtain ⟨k,hk,rfl⟩:=List.mem_map.mp hh
  have hlt:(x+(k+1)) % b.length < b.length:=Nat.mod_lt _ (by omega)
  generalize (x+(k+1)) % b.length=h at *
  and_intros
  rw [Zn,show decide ((h:Int)=(y:Int))=decide (h=y) from decide_eq_decide.mpr ⟨λ z=>by omega,λ z=>by omega⟩]
  refine ⟨λ h1=>?_,λ h1=>⟨by rw [h1]; rfl,rfl,λ z=>by rw [h1] at z; cases z⟩⟩
  and_intros
  refine ZGZ hlt ?_
  and_intros
  refine ⟨by rw [h1]; rfl,rfl,λ _=>?_⟩
  and_intros
  exact ⟨rfl,rfl⟩
 and_intros
 rw [ZJb ho,← List.map_take]
 exact q
theorem ZOe {e:En} {hs:List Hs} {a b:Nat} {g:G} {P:W->G->Prop} (ok:EnOk e) (w:HsL e.ts.length hs) (ha:a < e.ts.length) (hb:b < e.ts.length) (q:P (.ref g.length) (g ++ [.pl ((ZBY e hs a b).map wyD)])):EvP (ZEb [.dat (ruD e.r),.dat (Zq e.tn hs),.dat (.int (a:Int)),.dat (.int (b:Int))] g) P:=by
 have wa:=w.get ha
 have hal:a < hs.length:=by rw [w.len]; exact ha
 have n2:=ok.n2
 have n8:=ok.n8
 refine ZOb ?_
 unfold ZBY at q
 and_intros
 refine ZAk (Zv (a:=H0) hal) ?_
 generalize hs.getD a H0=h at *
 obtain ⟨up,bk,td,tm⟩:=h
 have hbl:bk.length=e.ts.length:=wa.bl
 and_intros
 refine ZLE ok.cl (by decide +kernel) ?_
 and_intros
 refine ⟨λ h1=>?_,λ h1=>?_⟩
 ·and_intros
  refine ZGZ (b:=bk) (by omega) ?_
  and_intros
  refine ⟨λ h2=>?_,λ h2=>?_⟩
  ·rw [if_pos (by show (ZEJ e.r.cl "others" && abF bk b)=true; rw [h1,h2]; rfl)] at q
   refine ZQ9 (n:=g.length) rfl ?_
   and_intros
   refine ZKb (b:=bk) ok.ru.o.1 (by omega) (by omega) ?_
   and_intros
   have hl3:=ZHi (e:=e) (book:=bk) (a:=a) (b:=b) ok.ru.o
   refine ⟨by rw [List.length_map]; omega,?_⟩
   refine ZBb (λ h:Nat=>PyData.int (h:Int)) (λ h:Nat=>wyD [(a,h),(h,b),(b,h),(h,a)]) _ rfl trivial (λ h hh=>⟨_,by rw [Zx],?_⟩) ?_
   ·and_intros
    exact ⟨rfl,rfl⟩
   and_intros
   refine ⟨_,ZAB,by rw [List.length_map]; show 1+_<=1000; omega,?_⟩
   rw [ZBG]
   and_intros
   rw [List.map_cons,List.map_map] at q
   exact q
  ·rw [if_neg (by show ¬ (ZEJ e.r.cl "others" && abF bk b)=true; rw [h1,h2]; exact Bool.false_ne_true)] at q
   and_intros
   exact q
 ·rw [if_neg (by show ¬ (ZEJ e.r.cl "others" && abF bk b)=true; rw [h1]; exact Bool.false_ne_true)] at q
  and_intros
  refine bF ?_
  and_intros
  exact q
theorem ZNk {n m:Nat} {e:En} {P:W->G->Prop} {xs:List PyData} {wd:W} (ok:EnOk e):∀ (L:List (Nat × Nat)) (R:Rw) (g:G) (z2 z3:Option W),HsL e.ts.length R.hs->(∀ p ∈ L,(p.1 < e.ts.length/\p.2 < e.ts.length)/\p.1 ≠ p.2)->R.le.length+L.length<=1000->RdAt n m e R g ->
  (∀ g',RdAt n m e (ZDu e L R).2 g'->Fr n m g g'->P (.dat (.bool (ZDu e L R).1)) g') ->
  EvS (ZAl none xs (.tp (.cons (.nm 2) (.cons (.nm 3) .nil))) (Z5 (ZE6 (dB (ZFf ZY Z0 (ZD 0) (ZC (ZD 2) (ZC (ZD 3) ZL))))) (Za (dC (.bool false))) dNx) (L.map prD) [some (.ref n),some wd,z2,z3] g) (seqP (Za (dC (.bool true))) (runP P))
 | [],R,g,z2,z3,w,hp,hl,ra,q=>by
  refine ZDW ?_
  and_intros
  exact q g ra .refl
 | p :: L,R,g,z2,z3,w,hp,hl,ra,q=>by
  have hp0:=hp p (List.mem_cons_self ..)
  have ob:=ra.ob
  rw [List.length_cons] at hl
  refine ZCL rfl ?_
  and_intros
  refine ZLb ok w hp0.1.1 hp0.1.2 hp0.2 (by omega) ra λ g1 r1 f1=>?_
  rw [ZDu] at q
  and_intros
  refine ⟨λ h1=>?_,λ h1=>?_⟩
  ·rw [Bool.not_eq_true'] at h1
   rw [if_neg (by rw [h1]; exact Bool.false_ne_true)] at q
   and_intros
   refine .rt (.rt (.rt ?_))
   exact q g1 r1 f1
  ·rw [Bool.not_eq_false'] at h1
   rw [if_pos h1] at q
   and_intros
   refine .nx trivial ?_
   exact ZNk ok L _ g1 _ _ (ZEw w hp0.1.1 hp0.1.2) (λ p hp2=>hp p (List.mem_cons_of_mem _ hp2)) (by rw [ZEx]; omega) r1 λ g' r' f'=>q g' r' (f1.trans f')
theorem ZKr {n m:Nat} {e:En} {R:Rw} {L:List (Nat × Nat)} {g:G} {P:W->G->Prop} (ok:EnOk e) (w:HsL e.ts.length R.hs) (hp:∀ p ∈ L,(p.1 < e.ts.length/\p.2 < e.ts.length)/\p.1 ≠ p.2) (hl:R.le.length+L.length<=1000) (ra:RdAt n m e R g)
  (q:∀ g',RdAt n m e (ZDu e L R).2 g'->Fr n m g g'->P (.dat (.bool (ZDu e L R).1)) g'):EvP (Z4 [.ref n,.dat (wyD L)] g) P:=by
 refine ZFX ?_
 and_intros
 exact ZNk ok L R g _ _ w hp hl ra q
theorem ZMt {n m k:Nat} {e:En} {P:W->G->Prop} {xs:List PyData} {w1 w2:W} (ok:EnOk e) (hkn:k ≠ n) (hkm:k ≠ m):∀ (L:List (List (Nat × Nat))) (R:Rw) (g:G) (z3:Option W),HsL e.ts.length R.hs->(∀ v ∈ L,∀ p ∈ v,(p.1 < e.ts.length/\p.2 < e.ts.length)/\p.1 ≠ p.2)->R.le.length+(L.map List.length).sum<=1000->RdAt n m e R g->g[k]? = some (.pl xs) ->
  (∀ g',RdAt n m e (ZBa e L R).2 g'->Fr n m g g'->P (.dat (.bool (ZBa e L R).1)) g') ->
  EvS (ZAl (some k) xs (.nm 3) (Z5 (dB (dF Z4 (ZC (ZD 0) (ZC (ZD 3) ZL)))) (Za (dC (.bool true))) dNx) (L.map wyD) [some (.ref n),some w1,some w2,z3] g) (seqP (Za (dC (.bool false))) (runP P))
 | [],R,g,z3,w,hp,hl,ra,hk,q=>by
  refine ZDW ?_
  and_intros
  exact q g ra .refl
 | v :: L,R,g,z3,w,hp,hl,ra,hk,q=>by
  have hp0:=hp v (List.mem_cons_self ..)
  rw [List.map_cons,List.sum_cons] at hl
  refine ZCL (by rw [Zx]) ?_
  and_intros
  refine ZKr ok w hp0 (by omega) ra λ g1 r1 f1=>?_
  have w1:=ZH6 (e:=e) (w:=v) w λ p hp=>(hp0 p hp).1
  rw [ZBa] at q
  and_intros
  refine ⟨λ h1=>?_,λ h1=>?_⟩
  ·rw [if_pos h1] at q
   and_intros
   refine .rt (.rt (.rt ?_))
   exact q g1 r1 f1
  ·rw [if_neg (by rw [h1]; exact Bool.false_ne_true)] at q
   have hk1:g1[k]? = some (.pl xs):=by rw [f1.kp _ (ZC1 hk) hkn hkm]; exact hk
   and_intros
   refine .nx hk1 ?_
   exact ZMt ok hkn hkm L _ g1 _ w1.1 (λ v hv=>hp v (List.mem_cons_of_mem _ hv)) (by have:=w1.2; omega) r1 hk1 λ g' r' f'=>q g' r' (f1.trans f')
theorem ZJB {n m:Nat} {e:En} {R:Rw} {a b:Nat} {g:G} {P:W->G->Prop} (ok:EnOk e) (w:HsL e.ts.length R.hs) (ha:a < e.ts.length) (hb:b < e.ts.length) (hab:a ≠ b) (hl:R.le.length+14<=1000) (ra:RdAt n m e R g)
  (q:∀ g',RdAt n m e (ZBa e (ZBY e R.hs a b) R).2 g'->Fr n m g g'->P (.dat (.bool (ZBa e (ZBY e R.hs a b) R).1)) g'):EvP (ZAQ [.ref n,.dat (.int (a:Int)),.dat (.int (b:Int))] g) P:=by
 have ob:=ra.ob
 refine ZGB ?_
 and_intros
 refine ZOe ok w ha hb ?_
 refine ZN4 ZAB ?_
 have hs:=ZHj (e:=e) (hs:=R.hs) (a:=a) (b:=b) ok.ru.o
 have hln:=ZC1 ra.ob
 have hlm:=ZC1 ra.le
 exact ZMt ok (by omega) (by omega) _ R _ _ w (ZDo w ha hb hab) (by omega) (ra.ex (Ex.refl.app)) ZAB λ g' r' f'=>q g' r' ((Fr.ex (Ex.refl.app)).trans f')
theorem ZL0 {e:En} {hs:List Hs} {a b:Nat} {ans:Bool} {g:G} {P:W->G->Prop} (ok:EnOk e) (w:HsL e.ts.length hs) (ha:a < e.ts.length) (hb:b < e.ts.length) (q:P (.dat (Zq e.tn (ZIt e a b ans hs))) g):EvP (ZB4 [.dat (ruD e.r),.dat (Zq e.tn hs),.dat (.int (a:Int)),.dat (.int (b:Int)),.dat (.bool ans)] g) P:=by
 have wa:=w.get ha
 have hal:a < hs.length:=by rw [w.len]; exact ha
 have n8:=ok.n8
 have hl8:hs.length<=8:=by rw [w.len]; exact n8
 refine ZL4 ?_
 unfold ZIt ZJJ at q
 and_intros
 refine ZAk (Zv (a:=H0) hal) ?_
 generalize hs.getD a H0=h at *
 obtain ⟨up,bk,td,tm⟩:=h
 rw [show Zz (up,bk,td,tm)=.tuple [.int up,Zr bk,Zc td,Zc tm] from rfl]
 have hbl:bk.length=e.ts.length:=wa.bl
 have htl:td.length=e.ts.length:=wa.tl
 have hml:tm.length=e.ts.length:=wa.ml
 have q:P (.dat (Zq e.tn (hs.set a (if ans=true then (up,bk,td,tm.set b 0)
  else if (abF bk b && (!ZEJ e.r.cl "wait" || decide (tm.getD b 0=1)))=true then (up,bk.set b ((bk.getD b (0,0)).1,2),td.set b 0,tm.set b 0)
  else if (abF bk b && decide (tm.getD b 0=0))=true then
   (if (bk.getD b (0,0)).2=0 then (up,bk.set b ((bk.getD b (0,0)).1,1),td.set b 0,tm.set b e.r.w) else (up,bk,td,tm.set b e.r.w))
  else if abF bk b=true then (up,bk,td,tm.set b (tm.getD b 0 - 1))
  else (up,bk,td,tm))))) g:=q
 have eb:∀ v:Int × Int,(bk.map Zk).set b (Zk v)=(bk.set b v).map Zk:=λ v=>by rw [List.map_set]
 have et:(td.map PyData.int).set b (.int 0)=(td.set b 0).map .int:=by rw [List.map_set]
 have em:∀ v:Int,(tm.map PyData.int).set b (.int v)=(tm.set b v).map .int:=λ v=>by rw [List.map_set]
 have fin:∀ {P':W->G->Prop} {bk':List (Int × Int)} {td' tm':List Int},P' (.dat (Zq e.tn (hs.set a (up,bk',td',tm')))) g->EvP (Z1 [.dat (Zq e.tn hs),.dat (.int (a:Int)),.dat (.tuple [.int up,Zr bk',Zc td',Zc tm'])] g) P':=λ z=>ZI0 hal hl8 z
 have abe:abF bk b=decide ((bk.getD b (0,0)).2 < 2):=rfl
 and_intros
 refine ZAk (Zv (a:=(0,0)) (by omega)) ?_
 and_intros
 refine ⟨λ h1=>?_,λ h1=>?_⟩
 ·rw [if_pos h1] at q
  and_intros
  refine ZAF (by rw [List.length_map]; omega) (by rw [List.length_map]; omega) ?_
  rw [em]
  and_intros
  refine fin ?_
  and_intros
  exact q
 rw [if_neg (by rw [h1]; exact Bool.false_ne_true)] at q
 and_intros
 refine ⟨λ h2=>?_,λ h2=>?_⟩
 ·have h2':abF bk b=true:=by rw [abe]; exact h2
  rw [h2',Bool.true_and,Bool.true_and] at q
  and_intros
  refine ZR8 ok.cl (by decide +kernel) ?_
  and_intros
  have gone:∀ {P':W->G->Prop},P' (.dat (Zq e.tn (hs.set a (up,bk.set b ((bk.getD b (0,0)).1,2),td.set b 0,tm.set b 0)))) g->EvP (Z1 [.dat (Zq e.tn hs),.dat (.int (a:Int)),.dat (.tuple [.int up,.tuple ((bk.map Zk).set b (.tuple [.int (bk.getD b (0,0)).1,.int 2])),.tuple ((td.map PyData.int).set b (.int 0)),.tuple ((tm.map PyData.int).set b (.int 0))])] g) P':=λ z=>by
   rw [show PyData.tuple [.int (bk.getD b (0,0)).1,.int 2]=Zk ((bk.getD b (0,0)).1,2) from rfl,eb,et,em]
   exact fin z
  refine ⟨λ h3=>⟨λ _=>?_,(λ z=>by cases z)⟩,λ h3=>?_⟩
  ·rw [if_pos (by rw [h3]; rfl)] at q
   and_intros
   refine ZAF (by rw [List.length_map]; omega) (by rw [List.length_map]; omega) ?_
   and_intros
   refine ZAF (by rw [List.length_map]; omega) (by rw [List.length_map]; omega) ?_
   and_intros
   refine ZAF (by rw [List.length_map]; omega) (by rw [List.length_map]; omega) ?_
   and_intros
   refine ⟨_,_,_,rfl,?_⟩
   and_intros
   refine gone ?_
   and_intros
   exact q
  ·and_intros
   refine ZAk (Zv (a:=(0:Int)) (by omega)) ?_
   and_intros
   rw [Zn]
   refine ⟨λ h4=>?_,λ h4=>?_⟩
   ·rw [if_pos (by rw [h4]; exact Bool.or_true _)] at q
    and_intros
    refine ZAF (by rw [List.length_map]; omega) (by rw [List.length_map]; omega) ?_
    and_intros
    refine ZAF (by rw [List.length_map]; omega) (by rw [List.length_map]; omega) ?_
    and_intros
    refine ZAF (by rw [List.length_map]; omega) (by rw [List.length_map]; omega) ?_
    and_intros
    refine ⟨_,_,_,rfl,?_⟩
    and_intros
    refine gone ?_
    and_intros
    exact q
   ·rw [if_neg (by rw [h3,h4]; exact Bool.false_ne_true)] at q
    and_intros
    refine ⟨λ _=>?_,(λ z=>by rw [h2] at z; cases z)⟩
    and_intros
    refine ZAk (Zv (a:=(0:Int)) (by omega)) ?_
    and_intros
    rw [Zn]
    refine ⟨λ h5=>?_,λ h5=>?_⟩
    ·rw [if_pos h5] at q
     and_intros
     rw [Zn]
     refine ⟨λ h6=>?_,λ h6=>?_⟩
     ·rw [if_pos (of_decide_eq_true h6)] at q
      and_intros
      refine ZAF (by rw [List.length_map]; omega) (by rw [List.length_map]; omega) ?_
      and_intros
      refine ZAF (by rw [List.length_map]; omega) (by rw [List.length_map]; omega) ?_
      and_intros
      refine ⟨_,_,rfl,?_⟩
      and_intros
      refine ZAF (by rw [List.length_map]; omega) (by rw [List.length_map]; omega) ?_
      and_intros
      rw [show PyData.tuple ((λ ds=>PyData.int (bk.getD b (0,0)).1 :: ds) ((λ ds=>PyData.int 1 :: ds) []))=Zk ((bk.getD b (0,0)).1,1) from rfl,eb,et,em]
      refine fin ?_
      and_intros
      exact q
     ·rw [if_neg (of_decide_eq_false h6)] at q
      and_intros
      refine ZAF (by rw [List.length_map]; omega) (by rw [List.length_map]; omega) ?_
      and_intros
      rw [em]
      refine fin ?_
      and_intros
      exact q
    ·rw [if_neg (by rw [h5]; exact Bool.false_ne_true),if_pos rfl] at q
     and_intros
     refine ⟨λ _=>?_,(λ z=>by rw [h2] at z; cases z)⟩
     and_intros
     refine ZAk (Zv (a:=(0:Int)) (by omega)) ?_
     and_intros
     refine ZAF (by rw [List.length_map]; omega) (by rw [List.length_map]; omega) ?_
     and_intros
     rw [em]
     refine fin ?_
     and_intros
     exact q
 ·have h2':abF bk b=false:=by rw [abe]; exact h2
  rw [h2',Bool.false_and,Bool.false_and,if_neg Bool.false_ne_true,if_neg Bool.false_ne_true,if_neg Bool.false_ne_true] at q
  refine bF ?_
  and_intros
  refine ⟨(λ z=>by rw [h2] at z; cases z),λ _=>⟨(λ z=>by cases z),λ _=>?_⟩⟩
  and_intros
  refine ⟨(λ z=>by rw [h2] at z; cases z),λ _=>?_⟩
  and_intros
  refine fin ?_
  and_intros
  exact q
theorem ZLL {e:En} (ok:EnOk e) {a:Nat} (ha:a < e.ts.length) : 0 < (e.ts.getD a (0,0)).1/\(e.ts.getD a (0,0)).1 < 2 ^ 60:=by
 have hc:=ok.ck _ (ZEu (d:=(0,0)) ha)
 exact ⟨by have:=hc.1; omega,by have:=hc.2.1; omega⟩
theorem ZH0 {e:En} {a:Nat} {g:G} {P:W->G->Prop} (ok:EnOk e) (ha:a < e.ts.length) (q:P (.dat (.int (tgF e a:Int))) g):EvP (ZB6 [.dat (Zr e.ts),.dat (.int (a:Int)),.dat (.int e.tn)] g) P:=by
 have n2:=ok.n2
 refine ZMJ ?_
 and_intros
 rw [List.length_map]
 refine ZGA ha (ZLL ok ha) ?_
 and_intros
 refine ZER (by omega) ?_
 and_intros
 refine ZER (by omega) ?_
 and_intros
 have e1:((a:Int)+1+(ZDb (e.ts.getD a (0,0)) e.tn - 1) % ((e.ts.length:Int) - 1)) % (e.ts.length:Int)=(tgF e a:Int):=by
  unfold tgF
  rw [Int.toNat_of_nonneg (Int.emod_nonneg _ (by omega))]
 rw [e1]
 exact q
theorem ZIJ {a b:Nat}:decide ((a:Int)=(b:Int))=decide (a=b):=decide_eq_decide.mpr ⟨λ z=>by omega,λ z=>by omega⟩
theorem ZMc {e:En} {a:Nat} {g:G} {P:W->G->Prop} (ok:EnOk e) (ha:a < e.ts.length) (q:P (.dat (.list ((ZFU e a).map λ b:Nat=>PyData.int (b:Int)))) g):EvP (Z8 [.dat (Zr e.ts),.dat (.int e.tn),.dat (.int (a:Int))] g) P:=by
 have n8:=ok.n8
 refine ZEq ?_
 and_intros
 refine ZH0 ok ha ?_
 and_intros
 refine ZAw (j:=e.ts.length) (g1:=g) ?_
 and_intros
 rw [List.length_map]
 refine ⟨by omega,?_⟩
 refine ⟨by rw [ZAq]; omega,?_⟩
 refine ZCt (λ b:Nat=>PyData.int (b:Int)) (λ b=>!decide (b=a) && !decide (b=tgF e a)) (λ b:Nat=>PyData.int (b:Int)) (List.range e.ts.length) (by rw [ZCv]; rfl) trivial (λ b hb=>⟨_,by rw [Zx],?_⟩) ?_
 ·and_intros
  rw [Zn,ZIJ]
  refine ⟨λ h1=>?_,λ h1=>⟨by rw [h1]; rfl,rfl,λ z=>by rw [h1] at z; cases z⟩⟩
  and_intros
  rw [Zn,ZIJ]
  refine ⟨by rw [h1]; rfl,rfl,λ _=>?_⟩
  and_intros
  exact ⟨rfl,rfl⟩
 and_intros
 have hl:=ZGn ok.n2 ha
 unfold ZFU at hl
 rw [List.length_cons] at hl
 refine ZRl (by rw [List.length_map]; show 1+_<=1000; omega) ?_
 and_intros
 unfold ZFU at q
 rw [List.map_cons] at q
 exact q
theorem ZQ2 {e:En} {hs:List Hs} {a b:Nat} {g:G} {P:W->G->Prop} (ok:EnOk e) (w:HsL e.ts.length hs) (ha:a < e.ts.length) (hb:b < e.ts.length) (q:P (.dat (.bool (ZKU e a b hs))) g):EvP (ZA6 [.dat (ruD e.r),.dat (Zr e.ts),.dat (Zq e.tn hs),.dat (.int (a:Int)),.dat (.int (b:Int))] g) P:=by
 have wa:=w.get ha
 have hal:a < hs.length:=by rw [w.len]; exact ha
 refine ZJ7 ?_
 unfold ZKU at q
 and_intros
 refine ZAk (Zv (a:=H0) hal) ?_
 generalize hs.getD a H0=h at *
 obtain ⟨up,bk,td,tm⟩:=h
 rw [show Zz (up,bk,td,tm)=.tuple [.int up,Zr bk,Zc td,Zc tm] from rfl]
 have hbl:bk.length=e.ts.length:=wa.bl
 have hml:tm.length=e.ts.length:=wa.ml
 and_intros
 refine ZH0 ok ha ?_
 and_intros
 rw [Zn,ZIJ]
 refine ⟨λ h1=>?_,λ h1=>?_⟩
 ·rw [if_pos (of_decide_eq_true h1)] at q
  and_intros
  refine ZLE ok.cl (by decide +kernel) ?_
  and_intros
  refine ⟨λ h2=>?_,λ h2=>?_⟩
  ·rw [h2,Bool.true_or] at q
   and_intros
   exact q
  ·rw [h2,Bool.false_or] at q
   and_intros
   refine ZGZ (b:=bk) (by omega) ?_
   and_intros
   exact q
 ·rw [if_neg (of_decide_eq_false h1)] at q
  and_intros
  refine ZAk (Zv (a:=(0:Int)) (by omega)) ?_
  and_intros
  exact q
theorem ZRb {e:En} {hs:List Hs} {a:Nat} {g:G} {P:W->G->Prop} (ok:EnOk e) (w:HsL e.ts.length hs) (ha:a < e.ts.length) (q:P (.dat (.bool (ZIk e a hs))) g):EvP (ZA5 [.dat (Zr e.ts),.dat (Zq e.tn hs),.dat (.int (a:Int))] g) P:=by
 have hal:a < hs.length:=by rw [w.len]; exact ha
 refine ZJS ?_
 unfold ZIk at q
 and_intros
 refine ZAk (Zv (a:=H0) hal) ?_
 and_intros
 rw [Zn]
 refine ⟨λ h1=>?_,λ h1=>?_⟩
 ·rw [h1,Bool.true_and] at q
  and_intros
  refine ZJm ?_
  unfold ZJQ at q
  have hc:=ZLL ok ha
  and_intros
  refine ZAk (Zv (a:=(0,0)) ha) ?_
  and_intros
  refine ⟨λ h2=>?_,λ h2=>?_⟩
  ·rw [h2,Bool.true_and] at q
   and_intros
   refine ZER hc.1 ?_
   and_intros
   rw [Zn]
   exact q
  ·rw [h2,Bool.false_and] at q
   and_intros
   exact q
 ·rw [h1,Bool.false_and] at q
  and_intros
  exact q
theorem ZKX {n m:Nat} {e:En} {a:Nat} {P:W->G->Prop} {xs:List PyData} {w2 w3:W} (ok:EnOk e) (ha:a < e.ts.length):∀ (L:List Nat) (R:Rw) (g:G) (z4 z5:Option W),HsL e.ts.length R.hs->(∀ b ∈ L,b < e.ts.length/\a ≠ b)->R.le.length+14 * L.length<=1000->RdAt n m e R g ->
  (∀ g',RdAt n m e (L.foldl (λ R b=>ZEK e a b R) R) g'->Fr n m g g'->P (.dat .none) g') ->
  EvS (ZAl none xs (.nm 4) (Z5 (dB (dF ZA6 (ZC (ZBT ZY 0 (ZD 0)) (ZC (ZBT ZY 1 (ZD 0)) (ZC (ZBT ZY 2 (ZD 0)) (ZC (ZD 1) (ZC (ZD 4) ZL)))))))
 (ZP (Zi 5 (dF ZAQ (ZC (ZD 0) (ZC (ZD 1) (ZC (ZD 4) ZL)))))
 (ZCn ZY 2 (ZD 0) (dF ZB4 (ZC (ZBT ZY 0 (ZD 0)) (ZC (ZBT ZY 2 (ZD 0)) (ZC (ZD 1) (ZC (ZD 4) (ZC (ZD 5) ZL))))))))
 dNx) (L.map λ b:Nat=>PyData.int (b:Int)) [some (.ref n),some (.dat (.int (a:Int))),some w2,some w3,z4,z5] g) (runP P)
 | [],R,g,z4,z5,w,hp,hl,ra,q=>by
  refine ZDW ?_
  and_intros
  exact q g ra .refl
 | b :: L,R,g,z4,z5,w,hp,hl,ra,q=>by
  have hp0:=hp b (List.mem_cons_self ..)
  have ob:=ra.ob
  rw [List.length_cons,Nat.mul_succ] at hl
  rw [List.foldl_cons] at q
  have k1:=ZF5 (e:=e) (a:=a) (b:=b) ok.ru.o w ha hp0.1 hp0.2
  unfold ZEK at q k1
  refine ZCL (by rw [Zx]) ?_
  and_intros
  refine ZQ2 ok w ha hp0.1 ?_
  and_intros
  refine ⟨λ h1=>?_,λ h1=>?_⟩
  ·rw [if_pos h1] at q k1
   and_intros
   refine ZJB ok w ha hp0.1 hp0.2 (by omega) ra λ g1 r1 f1=>?_
   have w1:=ZEr (e:=e) (ws:=ZBY e R.hs a b) w λ v hv p hp=>(ZDo w ha hp0.1 hp0.2 v hv p hp).1
   have ob1:=r1.ob
   and_intros
   refine ZL0 ok w1.1 ha hp0.1 ?_
   and_intros
   refine .nx trivial ?_
   exact ZKX ok ha L _ _ _ _ k1.1 (λ b hb=>hp b (List.mem_cons_of_mem _ hb)) (by have:=k1.2; omega) (r1.st (hs:=ZIt e a b (ZBa e (ZBY e R.hs a b) R).1 (ZBa e (ZBY e R.hs a b) R).2.hs)) λ g' r' f'=>q g' r' ((f1.trans .setn).trans f')
  ·rw [if_neg (by rw [h1]; exact Bool.false_ne_true)] at q k1
   and_intros
   refine .nx trivial ?_
   exact ZKX ok ha L R g _ _ w (λ b hb=>hp b (List.mem_cons_of_mem _ hb)) (by omega) ra q
theorem ZLk {n m:Nat} {e:En} {R:Rw} {a:Nat} {g:G} {P:W->G->Prop} (ok:EnOk e) (w:HsL e.ts.length R.hs) (ha:a < e.ts.length) (hl:R.le.length+14 * e.ts.length<=1000) (ra:RdAt n m e R g)
  (q:∀ g',RdAt n m e (ZKx e a R) g'->Fr n m g g'->P (.dat .none) g'):EvP (ZBZ [.ref n,.dat (.int (a:Int))] g) P:=by
 have ob:=ra.ob
 refine ZKy ?_
 and_intros
 refine ZMc ok ha ?_
 and_intros
 have h1:=ZGn ok.n2 ha
 have h2:=Nat.mul_le_mul_left 14 h1
 exact ZKX ok ha (ZFU e a) R g _ _ w (λ b hb=>ZCr ok.n2 ha hb) (by omega) ra q
theorem ZFE {xs:List PyData} {k:Int} {g:G} {P:W->G->Prop} (h1 : 2<=k) (h2:k<=20) (h3:xs.isEmpty=false) (h4:xs.length<=20) (q:P (.dat (.tuple (List.replicate k.toNat xs).flatten)) g):EvP (ZAi (.dat (.tuple xs)) (.dat (.int k)) g) P:=ZDD (by rw [decide_eq_true h1,decide_eq_true h2,decide_eq_true h4,h3]; rfl) (ZCU q)
theorem ZOP:∀ n:Nat,(List.replicate n [PyData.int 0]).flatten=(List.replicate n (0:Int)).map .int
 | 0=>rfl
 | n+1=>by
  rw [List.replicate_succ,List.flatten_cons,ZOP n,List.replicate_succ]
  rfl
theorem ZPc {hs:List Hs} {n:Nat} {lo fa le co:List Int} {g:G} {P:W->G->Prop} (w:HsL n hs) (n2 : 2<=n) (n8:n<=8) (q:P (.dat (.tuple ((ZAU fa le co hs).map Zz))) (g ++ [.pl ((ZAU fa le co hs).map Zz)])):EvP (ZEl [.dat (.tuple (hs.map Zz)),.dat (.tuple [Zc lo,Zc fa,Zc le,Zc co])] g) P:=by
 refine ZPm ?_
 and_intros
 refine ZBu (λ i sd gx=>gx=g ++ [.pl (((List.range i).map λ j=>doH fa le co j (hs.getD j H0)).map Zz)]/\∃ z7 z8 z9 z10 z11 z12 z13 z14,sd=[some (.dat (.tuple (hs.map Zz))),some (.dat (.tuple [Zc lo,Zc fa,Zc le,Zc co])),some (.dat (Zc lo)),some (.dat (Zc fa)),some (.dat (Zc le)),some (.dat (Zc co)),some (.ref g.length),z7,z8,z9,z10,z11,z12,z13,z14]) ⟨rfl,_,_,_,_,_,_,_,_,rfl⟩ ?_ ?_
 ·rintro i x sd gx hx ⟨rfl,z7,z8,z9,z10,z11,z12,z13,z14,rfl⟩
  rw [ZHR H0 hs,List.getElem?_map] at hx
  obtain ⟨j,hj,rfl⟩:=mp hx
  obtain ⟨hj1,hj2⟩:=List.getElem?_eq_some_iff.mp hj
  rw [List.getElem_range] at hj2
  subst hj2
  rw [List.length_range,w.len] at hj1
  have wi:=w.get hj1
  have lenb:((((List.range i).map λ j=>doH fa le co j (hs.getD j H0)).map Zz)).length < 1000:=by rw [List.length_map,List.length_map,List.length_range]; omega
  have nxt:∀ {h:Hs},doH fa le co i (hs.getD i H0)=h->g ++ [Cell.pl (((List.range i).map λ j=>doH fa le co j (hs.getD j H0)).map Zz ++ [Zz h])]=g ++ [.pl (((List.range (i+1)).map λ j=>doH fa le co j (hs.getD j H0)).map Zz)]:=λ {h} eh=>by
   rw [List.range_succ,List.map_append,List.map_append,← eh]
   rfl
  revert nxt
  generalize hs.getD i H0=h at *
  intro nxt
  obtain ⟨up,bk,td,tm⟩:=h
  have hbl:bk.length=n:=wi.bl
  have htl:td.length=n:=wi.tl
  have hml:tm.length=n:=wi.ml
  rw [show Zz (up,bk,td,tm)=.tuple [.int up,Zr bk,Zc td,Zc tm] from rfl]
  have eb:∀ v:Int × Int,(bk.map Zk).set i (Zk v)=(bk.set i v).map Zk:=λ v=>by rw [List.map_set]
  have et:(td.map PyData.int).set i (.int 0)=(td.set i 0).map .int:=by rw [List.map_set]
  refine ⟨_,rfl,?_⟩
  and_intros
  refine ZAk (Zv (a:=(0,0)) (by omega)) ?_
  and_intros
  refine ZEQ (by rw [ZBO]; rfl) ?_
  rw [L2.any_ints]
  and_intros
  refine ⟨λ h1=>?_,λ h1=>?_⟩
  ·and_intros
   rw [List.length_map]
   refine ZFE (by omega) (by omega) rfl (by show (1:Nat)<=20; decide) ?_
   rw [ZOP,Int.toNat_natCast]
   and_intros
   refine ⟨_,ZAB,lenb,?_⟩
   rw [ZBG]
   exact ⟨trivial,nxt (show doH fa le co i (up,bk,td,tm)=_ from if_pos h1),_,_,_,_,_,_,_,_,rfl⟩
  and_intros
  refine ZEQ (by rw [ZBO]; rfl) ?_
  rw [L2.any_ints]
  and_intros
  have h1' : ¬ fa.contains (i:Int)=true:=by rw [h1]; exact Bool.false_ne_true
  refine ⟨λ h2=>?_,λ h2=>?_⟩
  ·and_intros
   refine ZAF (by rw [List.length_map]; omega) (by rw [List.length_map]; omega) ?_
   and_intros
   refine ZAF (by rw [List.length_map]; omega) (by rw [List.length_map]; omega) ?_
   and_intros
   rw [List.length_map]
   refine ZFE (by omega) (by omega) rfl (by show (1:Nat)<=20; decide) ?_
   rw [ZOP,Int.toNat_natCast]
   and_intros
   rw [show PyData.tuple ((λ ds=>PyData.int (bk.getD i (0,0)).1 :: ds) ((λ ds=>PyData.int 3 :: ds) []))=Zk ((bk.getD i (0,0)).1,3) from rfl,eb,et]
   refine ⟨_,ZAB,lenb,?_⟩
   rw [ZBG]
   exact ⟨trivial,nxt (show doH fa le co i (up,bk,td,tm)=_ from (if_neg h1').trans (if_pos h2)),_,_,_,_,_,_,_,_,rfl⟩
  and_intros
  refine ZEQ (by rw [ZBO]; rfl) ?_
  rw [L2.any_ints]
  and_intros
  have h2' : ¬ le.contains (i:Int)=true:=by rw [h2]; exact Bool.false_ne_true
  refine ⟨λ h3=>?_,λ h3=>?_⟩
  ·and_intros
   refine ZAF (by rw [List.length_map]; omega) (by rw [List.length_map]; omega) ?_
   and_intros
   refine ZAF (by rw [List.length_map]; omega) (by rw [List.length_map]; omega) ?_
   and_intros
   rw [show PyData.tuple ((λ ds=>PyData.int ((bk.getD i (0,0)).1+1) :: ds) ((λ ds=>PyData.int 0 :: ds) []))=Zk ((bk.getD i (0,0)).1+1,0) from rfl,eb,et]
   refine ⟨_,ZAB,lenb,?_⟩
   rw [ZBG]
   exact ⟨trivial,nxt (show doH fa le co i (up,bk,td,tm)=_ from (if_neg h1').trans ((if_neg h2').trans (if_pos h3))),_,_,_,_,_,_,_,_,rfl⟩
  ·have h3' : ¬ co.contains (i:Int)=true:=by rw [h3]; exact Bool.false_ne_true
   and_intros
   refine ⟨_,ZAB,lenb,?_⟩
   rw [ZBG]
   exact ⟨trivial,nxt (show doH fa le co i (up,bk,td,tm)=_ from (if_neg h1').trans ((if_neg h2').trans (if_neg h3'))),_,_,_,_,_,_,_,_,rfl⟩
 ·rintro sd gx ⟨rfl,z7,z8,z9,z10,z11,z12,z13,z14,rfl⟩
  rw [ZBW,List.length_map]
  and_intros
  refine ZDr ZAB ?_
  and_intros
  exact q
theorem ZOo {e:En} {hs:List Hs} {g:G} {P:W->G->Prop} (q:∀ g',RdAt g.length (g.length+1) e ⟨hs,[]⟩ g'->Ex g g'->P (.dat .none) g'):EvP (ZAA [.ref g.length,.dat (ruD e.r),.dat (Zr e.ts),.dat (Zq e.tn hs),.dat (Zc e.lo)] (g ++ [.ob ZY []])) P:=by
 refine ZE0 ?_
 and_intros
 refine ⟨_,_,_,rfl,ZAB,of_decide_eq_true rfl,rfl,?_⟩
 rw [ZBG]
 and_intros
 refine ⟨_,_,_,rfl,ZAB,of_decide_eq_true rfl,rfl,?_⟩
 rw [ZBG]
 and_intros
 refine ⟨_,_,_,rfl,ZAB,of_decide_eq_true rfl,rfl,?_⟩
 rw [ZBG]
 and_intros
 refine ⟨_,_,_,rfl,ZAB,of_decide_eq_true rfl,rfl,?_⟩
 rw [ZBG]
 and_intros
 refine ⟨_,_,_,rfl,(by rw [List.getElem?_append_left (by simp)]; exact ZAB),of_decide_eq_true rfl,rfl,?_⟩
 rw [show ∀ (A B C:Cell),(g ++ [A] ++ [B]).set g.length C=g ++ [C] ++ [B] from λ A B C=>by rw [List.set_append_left _ _ (by simp),ZBG]]
 and_intros
 have hl:∀ A:Cell,(g ++ [A]).length=g.length+1:=λ A=>by simp
 refine q _ ⟨?_,?_,by omega⟩ (Ex.refl.app.app)
 ·rw [List.getElem?_append_left (by simp),ZAB,hl]
  rfl
 ·rw [show g.length+1=(g ++ [Cell.ob ZY ([W.dat (ruD e.r),W.dat (Zr e.ts),W.dat (Zq e.tn hs),W.dat (Zc e.lo)] ++ [W.ref (g ++ [Cell.ob ZY [W.dat (ruD e.r),W.dat (Zr e.ts),W.dat (Zq e.tn hs),W.dat (Zc e.lo)]]).length])]).length by simp]
  exact ZAB
theorem ZGN {n m:Nat} {e:En} {x:Nat} {P:W->G->Prop} {xs:List PyData} (ok:EnOk e) (hx:x < e.ts.length):∀ (L:List Nat) (R:Rw) (g:G) (z2:Option W),HsL e.ts.length R.hs->(∀ y ∈ L,y < e.ts.length)->R.le.length+L.length<=1000->RdAt n m e R g ->
  (∀ g',RdAt n m e (L.foldl (λ R y=>if y=x then R else (ZBD e x y R).2) R) g'->Fr n m g g'->P (.dat .none) g') ->
  EvS (ZAl none xs (.nm 2) (Z5 (dB (dOp ZEH (ZD 2) (ZD 1))) (ZA3 (ZFf ZY Z0 (ZD 0) (ZC (ZD 1) (ZC (ZD 2) ZL)))) dNx) (L.map λ b:Nat=>PyData.int (b:Int)) [some (.ref n),some (.dat (.int (x:Int))),z2] g) (runP P)
 | [],R,g,z2,w,hp,hl,ra,q=>by
  refine ZDW ?_
  and_intros
  exact q g ra .refl
 | y :: L,R,g,z2,w,hp,hl,ra,q=>by
  have hp0:=hp y (List.mem_cons_self ..)
  have ob:=ra.ob
  rw [List.length_cons] at hl
  rw [List.foldl_cons] at q
  refine ZCL (by rw [Zx]) ?_
  and_intros
  rw [Zn,ZIJ]
  refine ⟨λ h1=>?_,λ h1=>?_⟩
  ·have h1 : ¬ y=x:=by simpa using h1
   rw [if_neg h1] at q
   and_intros
   refine ZLb ok w hx hp0 (λ z=>h1 z.symm) (by omega) ra λ g1 r1 f1=>?_
   refine .nx trivial ?_
   exact ZGN ok hx L _ g1 _ (ZEw w hx hp0) (λ b hb=>hp b (List.mem_cons_of_mem _ hb)) (by rw [ZEx]; omega) r1 λ g' r' f'=>q g' r' (f1.trans f')
  ·have h1:y=x:=by simpa using h1
   rw [if_pos h1] at q
   and_intros
   refine .nx trivial ?_
   exact ZGN ok hx L R g _ w (λ b hb=>hp b (List.mem_cons_of_mem _ hb)) (by omega) ra q
theorem ZOM {n m:Nat} {e:En} {R:Rw} {x:Nat} {g:G} {P:W->G->Prop} (ok:EnOk e) (w:HsL e.ts.length R.hs) (hx:x < e.ts.length) (hl:R.le.length+e.ts.length<=1000) (ra:RdAt n m e R g)
  (q:∀ g',RdAt n m e (ZAx e x R) g'->Fr n m g g'->P (.dat .none) g'):EvP (ZAE [.ref n,.dat (.int (x:Int))] g) P:=by
 have ob:=ra.ob
 have n8:=ok.n8
 refine ZFs ?_
 and_intros
 refine ZAw (j:=e.ts.length) (g1:=g) ?_
 and_intros
 rw [List.length_map]
 refine ⟨by omega,?_⟩
 rw [ZCv,Int.toNat_natCast]
 exact ZGN ok hx (List.range e.ts.length) R g _ w (λ y hy=>List.mem_range.mp hy) (by rw [List.length_range]; exact hl) ra q
theorem ZPf {n m:Nat} {e:En} {R:Rw} {x:Nat} {g:G} {P:W->G->Prop} (ok:EnOk e) (w:HsL e.ts.length R.hs) (hx:x < e.ts.length) (ra:RdAt n m e R g)
  (q:∀ g',RdAt n m e ⟨ZBj x R.hs,R.le⟩ g'->Fr n m g g'->P (.dat .none) g'):EvP (ZDw [.ref n,.dat (.int (x:Int))] g) P:=by
 have ob:=ra.ob
 have n8:=ok.n8
 have hxl:x < R.hs.length:=by rw [w.len]; exact hx
 refine ZPF ?_
 and_intros
 refine ZAk (Zv (a:=H0) hxl) ?_
 and_intros
 refine ZI0 (h:=(0,(R.hs.getD x H0).2.1,(R.hs.getD x H0).2.2.1,(R.hs.getD x H0).2.2.2)) hxl (by rw [w.len]; exact n8) ?_
 and_intros
 exact q _ (ra.st (hs:=ZBj x R.hs)) .setn
theorem ZHu {n m:Nat} {e:En} {P:Out->Prop} {xs:List PyData} {x0 x1 x2 x3 x4 x5 x6 x7 x8 x9 z12:Option W} (ok:EnOk e):∀ (L:List Int) (R:Rw) (g:G) (z11:Option W),HsL e.ts.length R.hs->(∀ k ∈ L,0<=k/\k < e.ts.length)->R.le.length+e.ts.length * L.length<=1000->RdAt n m e R g ->
  (∀ g' z,RdAt n m e (L.foldl (λ R x=>ZAx e x.toNat R) R) g'->Fr n m g g'->P (.nx [x0,x1,x2,x3,x4,x5,x6,x7,x8,x9,some (.ref n),z,z12] g')) ->
  EvS (ZAl none xs (.nm 11) (ZA3 (dF ZAE (ZC (ZD 10) (ZC (ZD 11) ZL)))) (L.map PyData.int) [x0,x1,x2,x3,x4,x5,x6,x7,x8,x9,some (.ref n),z11,z12] g) P
 | [],R,g,z11,w,hp,hl,ra,q=>ZDW (q g z11 ra .refl)
 | k :: L,R,g,z11,w,hp,hl,ra,q=>by
  have hp0:=hp k (List.mem_cons_self ..)
  rw [List.length_cons,Nat.mul_succ] at hl
  rw [List.foldl_cons] at q
  obtain ⟨x,rfl⟩:∃ x:Nat,k=(x:Int):=⟨k.toNat,by omega⟩
  rw [Int.toNat_natCast] at q
  have hx:x < e.ts.length:=by omega
  have k1:=ZD1 (e:=e) (x:=x) w hx
  refine ZCL (by rw [Zx]) ?_
  and_intros
  refine ZOM ok w hx (by omega) ra λ g1 r1 f1=>?_
  refine .nx trivial ?_
  exact ZHu ok L _ g1 _ k1.1 (λ b hb=>hp b (List.mem_cons_of_mem _ hb)) (by have:=k1.2; omega) r1 λ g' z r' f'=>q g' z r' (f1.trans f')
theorem ZJg {n m:Nat} {e:En} {P:Out->Prop} {xs:List PyData} {x0 x1 x2 x3 x4 x5 x6 x7 x8 x9 z12:Option W} (ok:EnOk e):∀ (L:List Int) (R:Rw) (g:G) (z11:Option W),HsL e.ts.length R.hs->(∀ k ∈ L,0<=k/\k < e.ts.length)->RdAt n m e R g ->
  (∀ g' z,RdAt n m e ⟨L.foldl (λ hs x=>ZBj x.toNat hs) R.hs,R.le⟩ g'->Fr n m g g'->P (.nx [x0,x1,x2,x3,x4,x5,x6,x7,x8,x9,some (.ref n),z,z12] g')) ->
  EvS (ZAl none xs (.nm 11) (ZA3 (dF ZDw (ZC (ZD 10) (ZC (ZD 11) ZL)))) (L.map PyData.int) [x0,x1,x2,x3,x4,x5,x6,x7,x8,x9,some (.ref n),z11,z12] g) P
 | [],R,g,z11,w,hp,ra,q=>ZDW (q g z11 ra .refl)
 | k :: L,R,g,z11,w,hp,ra,q=>by
  have hp0:=hp k (List.mem_cons_self ..)
  rw [List.foldl_cons] at q
  obtain ⟨x,rfl⟩:∃ x:Nat,k=(x:Int):=⟨k.toNat,by omega⟩
  rw [Int.toNat_natCast] at q
  have hx:x < e.ts.length:=by omega
  refine ZCL (by rw [Zx]) ?_
  and_intros
  refine ZPf ok w hx ra λ g1 r1 f1=>?_
  refine .nx trivial ?_
  exact ZJg ok L ⟨ZBj x R.hs,R.le⟩ g1 _ (ZK7 w hx) (λ b hb=>hp b (List.mem_cons_of_mem _ hb)) r1 λ g' z r' f'=>q g' z r' (f1.trans f')
theorem ZGr {n m:Nat} {e:En} {P:Out->Prop} {xs:List PyData} {x0 x2 x3 x4 x5 x6 x7 x8 x9 z11:Option W} (ok:EnOk e):∀ (L:List Nat) (R:Rw) (g:G) (z12:Option W),HsL e.ts.length R.hs->(∀ k ∈ L,k < e.ts.length)->R.le.length+14 * e.ts.length * L.length<=1000->RdAt n m e R g ->
  (∀ g' z,RdAt n m e (L.foldl (λ R a=>ZB5 e a R) R) g'->Fr n m g g'->P (.nx [x0,some (.dat (Zr e.ts)),x2,x3,x4,x5,x6,x7,x8,x9,some (.ref n),z11,z] g')) ->
  EvS (ZAl none xs (.nm 12) (Z5 (dB (dF ZA5 (ZC (ZD 1) (ZC (ZBT ZY 2 (ZD 10)) (ZC (ZD 12) ZL)))))
 (ZA3 (dF ZBZ (ZC (ZD 10) (ZC (ZD 12) ZL))))
 dNx) (L.map λ b:Nat=>PyData.int (b:Int)) [x0,some (.dat (Zr e.ts)),x2,x3,x4,x5,x6,x7,x8,x9,some (.ref n),z11,z12] g) P
 | [],R,g,z12,w,hp,hl,ra,q=>ZDW (q g z12 ra .refl)
 | a :: L,R,g,z12,w,hp,hl,ra,q=>by
  have ha:=hp a (List.mem_cons_self ..)
  have ob:=ra.ob
  rw [List.length_cons,Nat.mul_succ] at hl
  rw [List.foldl_cons] at q
  have k1:=ZGK (e:=e) (a:=a) ok.ru.o ok.n2 w ha
  unfold ZB5 at k1
  refine ZCL (by rw [Zx]) ?_
  and_intros
  refine ZRb ok w ha ?_
  and_intros
  refine ⟨λ h1=>?_,λ h1=>?_⟩
  ·rw [if_pos h1] at k1
   rw [show ZB5 e a R=ZKx e a R from if_pos h1] at q
   and_intros
   refine ZLk ok w ha (by omega) ra λ g1 r1 f1=>?_
   refine .nx trivial ?_
   exact ZGr ok L _ g1 _ k1.1 (λ b hb=>hp b (List.mem_cons_of_mem _ hb)) (by have:=k1.2; omega) r1 λ g' z r' f'=>q g' z r' (f1.trans f')
  ·rw [show ZB5 e a R=R from if_neg (by rw [h1]; exact Bool.false_ne_true)] at q
   and_intros
   refine .nx trivial ?_
   exact ZGr ok L R g _ w (λ b hb=>hp b (List.mem_cons_of_mem _ hb)) (by omega) ra q
theorem ZNn {e:En}:∀ {L:List Int} {R:Rw},HsL e.ts.length R.hs->(∀ k ∈ L,0<=k/\k < e.ts.length)->HsL e.ts.length (L.foldl (λ R x=>ZAx e x.toNat R) R).hs/\(L.foldl (λ R x=>ZAx e x.toNat R) R).le.length<=R.le.length+e.ts.length * L.length:=λ {L R} w hp=>ZCf (f:=λ (R:Rw) (x:Int)=>ZAx e x.toNat R) w λ x hx R w=>ZD1 w (by have:=hp x hx; omega)
theorem ZKv {r:Ru} {ts:List (Int × Int)} {tn:Int} {hs:List Hs} {lo fa le co:List Int} {g:G} {P:W->G->Prop} (ok:EnOk ⟨r,ts,tn,lo⟩) (w:HsL ts.length hs) (hle:∀ k ∈ le,0<=k/\k < ts.length) (hco:∀ k ∈ co,0<=k/\k < ts.length) (hlc:le.length+co.length<=ts.length)
  (q:∀ g',Ex g g'->P (.dat (.tuple [Zq (tn+1) (ZEO r ts tn hs lo fa le co).hs,.tuple ((ZEO r ts tn hs lo fa le co).le.map ltD)])) g'):EvP (ZAX [.dat (ruD r),.dat (Zr ts),.dat (Zq tn hs),.dat (.tuple [Zc lo,Zc fa,Zc le,Zc co])] g) P:=by
 have n2 : 2<=ts.length:=ok.n2
 have n8:ts.length<=8:=ok.n8
 have hlc2:∀ k ∈ le ++ co,0<=k/\k < ts.length:=λ k hk=>(List.mem_append.mp hk).elim (hle k) (hco k)
 have hmul:ts.length * (le ++ co).length<=64:=by
  rw [List.length_append]
  exact Nat.le_trans (Nat.mul_le_mul n8 (Nat.le_trans hlc n8)) (by decide)
 have hmul2 : 14 * ts.length * ts.length<=896:=by
  have:=Nat.mul_le_mul (Nat.mul_le_mul_left 14 n8) n8
  omega
 refine ZKg ?_
 and_intros
 refine ZPc w n2 n8 ?_
 and_intros
 generalize hg1:g ++ [Cell.pl ((ZAU fa le co hs).map Zz)]=g1
 have E1:Ex g g1:=by rw [← hg1]; exact Ex.refl.app
 refine ZOo (e:=⟨r,ts,tn,lo⟩) (hs:=ZAU fa le co hs) λ g2 ra E2=>⟨rfl,?_⟩
 have wd:=ZIu (fa:=fa) (le:=le) (co:=co) w
 and_intros
 refine ZCz (by rw [List.length_map,List.length_map]; omega) ?_
 and_intros
 rw [← List.map_append]
 have k1:=ZNn (e:=⟨r,ts,tn,lo⟩) (L:=le ++ co) (R:=⟨ZAU fa le co hs,[]⟩) wd hlc2
 refine ZHu ok (le ++ co) ⟨ZAU fa le co hs,[]⟩ g2 _ wd hlc2 (by show 0+ts.length * _<=1000; omega) ra λ g3 z3 r3 f3=>?_
 and_intros
 refine ZJg ok le _ g3 _ k1.1 hle r3 λ g4 z4 r4 f4=>?_
 have k2:=ZF3 (L:=le) k1.1 λ x hx=>by show x.toNat < ts.length; have:=hle x hx; omega
 have kl:((le ++ co).foldl (λ R x=>ZAx ⟨r,ts,tn,lo⟩ x.toNat R) ⟨ZAU fa le co hs,[]⟩).le.length<=64:=by
  have h0:(List.foldl (λ (R:Rw) (x:Int)=>ZAx ⟨r,ts,tn,lo⟩ x.toNat R) ⟨ZAU fa le co hs,[]⟩ (le ++ co)).le.length<=0+ts.length * (le ++ co).length:=k1.2
  exact Nat.le_trans h0 (by omega)
 and_intros
 refine ZAw (j:=ts.length) (g1:=g4) ?_
 and_intros
 rw [List.length_map]
 refine ⟨by omega,?_⟩
 rw [ZCv,Int.toNat_natCast]
 refine ZGr ok (List.range ts.length) _ g4 _ k2 (λ y hy=>List.mem_range.mp hy) (by rw [List.length_range]; exact Nat.le_trans (Nat.add_le_add kl hmul2) (by decide)) r4 λ g5 z5 r5 f5=>?_
 have ob5:=r5.ob
 have le5:=r5.le
 and_intros
 refine ZDr le5 ?_
 and_intros
 refine q g5 ?_
 have f25:=f3.trans (f4.trans f5)
 have l2:=E2.len
 have l1:=E1.len
 refine ⟨by have:=f25.len; omega,λ k hk=>?_⟩
 rw [f25.kp k (by omega) (by omega) (by omega),E2.kp k (by omega),E1.kp k hk]
structure RisN (ks:List Int) (m:Int):Prop where
 up:ks.Pairwise (· < ·)
 lo:∀ k ∈ ks,0<=k
 hi:∀ k ∈ ks,k < m
theorem RisN.nil {m:Int}:RisN [] m:=⟨.nil,(λ k hk=>by cases hk),λ k hk=>by cases hk⟩
theorem RisN.more {ks:List Int} {m n:Int} (h:RisN ks m) (hn:m<=n):RisN ks n:=⟨h.up,h.lo,λ k hk=>by have:=h.hi k hk; omega⟩
theorem RisN.snoc {ks:List Int} {m:Int} (h:RisN ks m) (hm : 0<=m):RisN (ks ++ [m]) (m+1):=⟨by
 rw [List.pairwise_append]
 exact ⟨h.up,List.pairwise_singleton _ _,λ a ha c hc=>by rw [List.mem_singleton.mp hc]; exact h.hi a ha⟩,λ k hk=>by
 rcases List.mem_append.mp hk with hk | hk
 ·exact h.lo k hk
 ·rw [List.mem_singleton.mp hk]; exact hm,λ k hk=>by
 rcases List.mem_append.mp hk with hk | hk
 ·have:=h.hi k hk; omega
 ·rw [List.mem_singleton.mp hk]; omega⟩
theorem RisN.rng:∀ n:Nat,RisN ((List.range n).map λ j:Nat=>(j:Int)) n
 | 0=>.nil
 | n+1=>by
  rw [List.range_succ,List.map_append]
  have:=(RisN.rng n).snoc (by omega)
  exact this.more (by omega)
theorem RisN.len_go:∀ (ks:List Int) (lo:Int) (m:Int),ks.Pairwise (· < ·)->(∀ k ∈ ks,lo<=k/\k < m)->lo<=m->(ks.length:Int)<=m - lo
 | [],lo,m,_,_,h=>by show (0:Int)<=_; omega
 | a :: r,lo,m,hp,hk,h=>by
  have ha:=hk a (List.mem_cons_self ..)
  rw [List.pairwise_cons] at hp
  have:=RisN.len_go r (a+1) m hp.2 (λ k hk2=>⟨by have:=hp.1 k hk2; omega,(hk k (List.mem_cons_of_mem _ hk2)).2⟩) (by omega)
  rw [List.length_cons]
  omega
theorem RisN.len {ks:List Int} {m:Int} (h:RisN ks m) (hm : 0<=m):(ks.length:Int)<=m:=by
 have:=RisN.len_go ks 0 m h.up (λ k hk=>⟨h.lo k hk,h.hi k hk⟩) hm
 omega
theorem ZO8 {b:Nat} {m:Int} {g:G} {P:W->G->Prop} (hb:Bx g b) (hm : 0<=m/\m<=1000) (q:∀ ks g',RisN ks m->Dr b g g'->P (.dat (Zc ks)) g'):EvP (ZBC [.ref b,.dat (.int m)] g) P:=by
 refine ZI1 ?_
 and_intros
 refine Zj hb (by decide) (by decide) λ d g1 l1 u1 D1=>?_
 and_intros
 rw [Zn]
 refine ⟨λ h=>?_,λ h=>?_⟩
 ·and_intros
  exact ZF6 D1.len (q [] g1 .nil D1)
 have h0 : ¬ d=0:=of_decide_eq_false h
 and_intros
 rw [Zn]
 refine ⟨λ h=>?_,λ h=>?_⟩
 ·and_intros
  refine ⟨hm,?_⟩
  and_intros
  have e:ZBn m.toNat 0=((List.range m.toNat).map λ j:Nat=>(j:Int)).map .int:=by rw [ZCv,List.map_map]; rfl
  rw [e]
  exact q _ g1 ((RisN.rng m.toNat).more (by omega)) D1
 have h1 : ¬ d=1:=of_decide_eq_false h
 and_intros
 refine ZAw (j:=m) (g1:=g1) ?_
 and_intros
 refine ⟨by omega,?_⟩
 refine ⟨by rw [ZAq]; omega,?_⟩
 refine ZE4 (λ gx=>Dr b g gx) (λ i acc=>∃ ks:List Int,acc=ks.map .int/\RisN ks i) D1 ⟨[],rfl,.nil⟩ ?_ ?_
 ·rintro i x gx acc hx Dx ⟨ks,rfl,hk⟩
  rw [ZCv,List.getElem?_map] at hx
  obtain ⟨j,hj,rfl⟩:=mp hx
  obtain ⟨hj1,hj2⟩:=List.getElem?_eq_some_iff.mp hj
  rw [List.getElem_range] at hj2
  subst hj2
  refine ⟨_,by rw [Zx],?_⟩
  and_intros
  refine ZE8 (by omega) (by show d - 2 < 3; omega) λ x hx=>?_
  obtain ⟨t,rfl,ht⟩:∃ n0:Int,x=.int n0/\2<=n0/\n0<=8:=by
   simp only [List.mem_cons,List.not_mem_nil,or_false] at hx
   rcases hx with rfl | rfl | rfl <;> exact ⟨_,rfl,by omega,by omega⟩
  and_intros
  refine Zj Dx.bx (by omega) (by omega) λ d2 g2 l2 u2 D2=>?_
  and_intros
  refine ⟨λ _=>?_,λ _=>⟨trivial,Dx.trans D2,ks,rfl,hk.more (by omega)⟩⟩
  and_intros
  exact ⟨trivial,Dx.trans D2,ks ++ [(i:Int)],by rw [List.map_append]; rfl,hk.snoc (by omega)⟩
 ·rintro acc gx Dx ⟨ks,rfl,hk⟩
  rw [ZAq] at hk
  and_intros
  exact ZF6 Dx.len (q ks gx (hk.more (by omega)) Dx)
structure HsN (hs:List Hs) (u:Int) (ks:List Int):Prop where
 pr:RisN ks hs.length
 pu:∀ k ∈ ks,(hs.getD k.toNat H0).1=u
structure DoOk (hs:List Hs) (lo fa le co:List Int):Prop where
 plo:RisN lo 120
 pfa:HsN hs 1 fa
 ple:HsN hs 1 le
 pco:HsN hs 0 co
 pap:∀ k ∈ fa,k ∉ le
def doD (lo fa le co:List Int):PyData:=.tuple [Zc lo,Zc fa,Zc le,Zc co]
structure DoI (hs:List Hs) (i:Nat) (fa le co:List Int):Prop where
 ifa:RisN fa i
 ile:RisN le i
 ico:RisN co i
 fu:∀ k ∈ fa,(hs.getD k.toNat H0).1=1
 lu:∀ k ∈ le,(hs.getD k.toNat H0).1=1
 cu:∀ k ∈ co,(hs.getD k.toNat H0).1=0
 ap:∀ k ∈ fa,k ∉ le
theorem ZIV {ks:List Int} {a k:Int} {p:Int->Prop} (h:∀ k ∈ ks,p k) (ha:p a):∀ k ∈ ks ++ [a],p k:=λ k hk=>by
 rcases List.mem_append.mp hk with hk | hk
 ·exact h k hk
 ·rw [List.mem_singleton.mp hk]; exact ha
theorem DoI.f {hs:List Hs} {i:Nat} {fa le co:List Int} (h:DoI hs i fa le co) (hu:(hs.getD i H0).1=1):DoI hs (i+1) (fa ++ [(i:Int)]) le co:=⟨h.ifa.snoc (by omega),h.ile.more (by omega),h.ico.more (by omega),ZIV (k:=0) h.fu (by rw [Int.toNat_natCast]; exact hu),h.lu,h.cu,ZIV (k:=0) h.ap λ z=>by have:=h.ile.hi _ z; omega⟩
theorem DoI.l {hs:List Hs} {i:Nat} {fa le co:List Int} (h:DoI hs i fa le co) (hu:(hs.getD i H0).1=1):DoI hs (i+1) fa (le ++ [(i:Int)]) co:=⟨h.ifa.more (by omega),h.ile.snoc (by omega),h.ico.more (by omega),h.fu,ZIV (k:=0) h.lu (by rw [Int.toNat_natCast]; exact hu),h.cu,λ k hk z=>by
 rcases List.mem_append.mp z with z | z
 ·exact h.ap k hk z
 ·rw [List.mem_singleton.mp z] at hk
  have:=h.ifa.hi _ hk
  omega⟩
theorem DoI.c {hs:List Hs} {i:Nat} {fa le co:List Int} (h:DoI hs i fa le co) (hu:(hs.getD i H0).1=0):DoI hs (i+1) fa le (co ++ [(i:Int)]):=⟨h.ifa.more (by omega),h.ile.more (by omega),h.ico.snoc (by omega),h.fu,h.lu,ZIV (k:=0) h.cu (by rw [Int.toNat_natCast]; exact hu),h.ap⟩
theorem DoI.n {hs:List Hs} {i:Nat} {fa le co:List Int} (h:DoI hs i fa le co):DoI hs (i+1) fa le co:=⟨h.ifa.more (by omega),h.ile.more (by omega),h.ico.more (by omega),h.fu,h.lu,h.cu,h.ap⟩
theorem ZH2 {i:Nat} {ks:List Int} (h:RisN ks i) (hi:i < 1000):(ks.map PyData.int).length < 1000:=by
 rw [List.length_map]
 have:=h.len (by omega)
 omega
theorem ZLx {b:Nat} {tn:Int} {hs:List Hs} {mv:Bool} {g:G} {P:W->G->Prop} (hb:Bx g b) (hl:hs.length<=900) (q:∀ lo fa le co g',DoOk hs lo fa le co->Dr b g g'->P (.dat (doD lo fa le co)) g'):EvP (ZAP [.ref b,.dat (Zq tn hs),.dat (.bool mv)] g) P:=by
 have hlb:=hb.lt
 refine ZGq ?_
 and_intros
 refine ⟨_,_,_,rfl,?_⟩
 and_intros
 refine ZBu (λ i sd gx=>∃ fa le co z6 z7 z8,Dr b g gx/\g.length+3<=gx.length/\gx[g.length]? = some (.pl (fa.map .int))/\gx[g.length+1]? = some (.pl (le.map .int))/\gx[g.length+2]? = some (.pl (co.map .int))/\DoI hs i fa le co/\sd=[some (.ref b),some (.dat (Zq tn hs)),some (.dat (.bool mv)),some (.ref g.length),some (.ref (g.length+1)),some (.ref (g.length+2)),z6,z7,z8]) ?_ ?_ ?_
 ·refine ⟨[],[],[],none,none,none,(((Dr.refl hb).app).app).app,by simp,by simp,by simp,by simp,⟨.nil,.nil,.nil,(λ k hk=>by cases hk),(λ k hk=>by cases hk),(λ k hk=>by cases hk),(λ k hk=>by cases hk)⟩,?_⟩
  simp
 ·rintro i x sd gx hx ⟨fa,le,co,z6,z7,z8,K1,L1,F1,E1,C1,I1,rfl⟩
  rw [ZHR H0 hs,List.getElem?_map] at hx
  obtain ⟨j,hj,rfl⟩:=mp hx
  obtain ⟨hj1,hj2⟩:=List.getElem?_eq_some_iff.mp hj
  rw [List.getElem_range] at hj2
  subst hj2
  rw [List.length_range] at hj1
  refine ⟨_,rfl,?_⟩
  and_intros
  refine Zj K1.bx (by decide) (by decide) λ w g2 l2 u2 D2=>?_
  have K2:=K1.trans D2
  have L2':g.length+3<=g2.length:=by have:=D2.len; omega
  have F2:g2[g.length]? = some (.pl (fa.map .int)):=by rw [D2.kp _ (by omega) (by omega)]; exact F1
  have E2:g2[g.length+1]? = some (.pl (le.map .int)):=by rw [D2.kp _ (by omega) (by omega)]; exact E1
  have C2:g2[g.length+2]? = some (.pl (co.map .int)):=by rw [D2.kp _ (by omega) (by omega)]; exact C1
  cases mv with
  | false =>
   and_intros
   refine ⟨(λ z=>by cases z),λ _=>⟨(λ z=>by cases z),λ _=>?_⟩⟩
   and_intros
   refine ⟨(λ z=>by cases z),λ _=>⟨(λ z=>by cases z),λ _=>?_⟩⟩
   and_intros
   exact ⟨trivial,fa,le,co,_,_,_,K2,L2',F2,E2,C2,I1.n,rfl⟩
  | true =>
   and_intros
   refine bT ?_
   and_intros
   rw [Zn]
   refine ⟨λ hu=>?_,λ hu=>?_⟩
   ·have hu:(hs.getD i H0).1=1:=of_decide_eq_true hu
    and_intros
    refine ⟨λ hw=>?_,λ hw=>?_⟩
    ·have hw:w < 2:=of_decide_eq_true hw
     and_intros
     refine ⟨by show (2:Nat)<=1000; decide,?_⟩
     rcases (show w=0 ∨ w=1 by omega) with rfl | rfl
     ·refine ⟨_,rfl,_,rfl,?_⟩
      and_intros
      refine ⟨_,F2,ZH2 I1.ifa (by omega),?_⟩
      and_intros
      refine bT ?_
      and_intros
      rw [Zn,hu]
      refine ⟨(λ z=>by cases z),λ _=>⟨(λ z=>by cases z),λ _=>?_⟩⟩
      and_intros
      refine ⟨trivial,fa ++ [(i:Int)],le,co,_,_,_,K2.put hlb (Nat.le_refl _),by rw [List.length_set]; exact L2',?_,?_,?_,I1.f hu,rfl⟩
      ·rw [ZAr (by omega),List.map_append]; rfl
      ·rw [List.getElem?_set_ne (by omega)]; exact E2
      ·rw [List.getElem?_set_ne (by omega)]; exact C2
     ·refine ⟨_,rfl,_,rfl,?_⟩
      and_intros
      refine ⟨_,E2,ZH2 I1.ile (by omega),?_⟩
      and_intros
      refine bT ?_
      and_intros
      rw [Zn,hu]
      refine ⟨(λ z=>by cases z),λ _=>⟨(λ z=>by cases z),λ _=>?_⟩⟩
      and_intros
      refine ⟨trivial,fa,le ++ [(i:Int)],co,_,_,_,K2.put hlb (by omega),by rw [List.length_set]; exact L2',?_,?_,?_,I1.l hu,rfl⟩
      ·rw [List.getElem?_set_ne (by omega)]; exact F2
      ·rw [ZAr (by omega),List.map_append]; rfl
      ·rw [List.getElem?_set_ne (by omega)]; exact C2
    ·and_intros
     refine bT ?_
     and_intros
     rw [Zn,hu]
     refine ⟨(λ z=>by cases z),λ _=>⟨(λ z=>by cases z),λ _=>?_⟩⟩
     and_intros
     exact ⟨trivial,fa,le,co,_,_,_,K2,L2',F2,E2,C2,I1.n,rfl⟩
   ·refine bF ?_
    and_intros
    refine bT ?_
    and_intros
    rw [Zn]
    refine ⟨λ hu=>?_,λ hu=>⟨(λ z=>by cases z),λ _=>?_⟩⟩
    ·have hu:(hs.getD i H0).1=0:=of_decide_eq_true hu
     and_intros
     refine ⟨λ hw=>?_,λ hw=>?_⟩
     ·and_intros
      refine ⟨_,C2,ZH2 I1.ico (by omega),?_⟩
      refine ⟨trivial,fa,le,co ++ [(i:Int)],_,_,_,K2.put hlb (by omega),by rw [List.length_set]; exact L2',?_,?_,?_,I1.c hu,rfl⟩
      ·rw [List.getElem?_set_ne (by omega)]; exact F2
      ·rw [List.getElem?_set_ne (by omega)]; exact E2
      ·rw [ZAr (by omega),List.map_append]; rfl
     ·and_intros
      exact ⟨trivial,fa,le,co,_,_,_,K2,L2',F2,E2,C2,I1.n,rfl⟩
    ·and_intros
     exact ⟨trivial,fa,le,co,_,_,_,K2,L2',F2,E2,C2,I1.n,rfl⟩
 ·rintro sd gx ⟨fa,le,co,z6,z7,z8,K1,L1,F1,E1,C1,I1,rfl⟩
  rw [ZBW,List.length_map] at I1
  and_intros
  refine ZO8 K1.bx (by decide) λ lo g2 hlo D2=>?_
  have K2:=K1.trans D2
  have F2:g2[g.length]? = some (.pl (fa.map .int)):=by rw [D2.kp _ (by omega) (by omega)]; exact F1
  have E2:g2[g.length+1]? = some (.pl (le.map .int)):=by rw [D2.kp _ (by omega) (by omega)]; exact E1
  have C2:g2[g.length+2]? = some (.pl (co.map .int)):=by rw [D2.kp _ (by omega) (by omega)]; exact C1
  and_intros
  refine ZDr F2 ?_
  and_intros
  refine ZDr E2 ?_
  and_intros
  refine ZDr C2 ?_
  and_intros
  exact q lo fa le co _ ⟨hlo.more (by decide),⟨I1.ifa,I1.fu⟩,⟨I1.ile,I1.lu⟩,⟨I1.ico,I1.cu⟩,I1.ap⟩ K2
theorem DoOk.few {hs:List Hs} {lo fa le co:List Int} (h:DoOk hs lo fa le co):le.length+co.length<=hs.length:=by
 have nd:(le ++ co).Nodup:=by
  rw [List.nodup_append]
  refine ⟨h.ple.pr.up.imp (λ z=>by omega),h.pco.pr.up.imp (λ z=>by omega),λ a ha b hb z=>?_⟩
  subst z
  have h1:=h.ple.pu a ha
  have h2:=h.pco.pu a hb
  rw [h1] at h2
  cases h2
 have key:∀ (L:List Int) (n:Nat),L.Nodup->(∀ k ∈ L,0<=k/\k < n)->L.length<=n:=by
  intro L n
  induction n generalizing L with
  | zero =>
   intro _ hk
   cases L with
   | nil=>exact Nat.le_refl _
   | cons a r=>have:=hk a (List.mem_cons_self ..); omega
  | succ n ih =>
   intro hd hk
   have h1:=ih (L.erase (n:Int)) (hd.erase _) λ k hk2=>by
    have hm:=(hd.mem_erase_iff).mp hk2
    have:=hk k hm.2
    have:k ≠ (n:Int):=hm.1
    omega
   have h2:=List.length_erase (a:=(n:Int)) (l:=L)
   split at h2 <;> omega
 have:=key (le ++ co) hs.length nd λ k hk=>by
  rcases List.mem_append.mp hk with hk | hk
  ·exact ⟨h.ple.pr.lo k hk,h.ple.pr.hi k hk⟩
  ·exact ⟨h.pco.pr.lo k hk,h.pco.pr.hi k hk⟩
 rw [List.length_append] at this
 exact this
def isI:PyData->Bool
 | .int _=>true
 | _=>false
def tof (n:Nat):PyData->Bool
 | .tuple ds=>decide (ds.length=n)
 | _=>false
theorem ZMw {d:PyData} {g:G} {P:W->G->Prop} (q:P (.dat (.bool (isI d))) g):EvP (ZBP [.dat d] g) P:=by
 refine ZJ8 ?_
 and_intros
 cases d with
 | int i=>exact ⟨λ _=>ZH3 (by and_intros; exact q),(λ z=>by cases z)⟩
 | bool b=>exact ⟨λ _=>ZH3 (by and_intros; exact q),(λ z=>by cases z)⟩
 | _=>exact ⟨(λ z=>by cases z),λ _=>(by and_intros; exact q)⟩
theorem ZSH {d:PyData} {n:Nat} {g:G} {P:W->G->Prop} (q:P (.dat (.bool (tof n d))) g):EvP (ZAe [.dat d,.dat (.int n)] g) P:=by
 refine ZGh ?_
 and_intros
 cases d with
 | tuple ds =>
  refine bT ?_
  and_intros
  rw [Zn,show decide ((ds.length:Int)=(n:Int))=decide (ds.length=n) from decide_eq_decide.mpr ⟨λ z=>by omega,λ z=>by omega⟩]
  exact q
 | _=>exact ⟨(λ z=>by cases z),λ _=>(by and_intros; exact q)⟩
def cnt:PyData->Bool
 | .int i=>decide (0<=i)
 | _=>false
theorem ZNp {d:PyData} {g:G} {P:W->G->Prop} (q:P (.dat (.bool (cnt d))) g):EvP (ZBR [.dat d] g) P:=by
 refine ZJU ?_
 and_intros
 refine ZMw ?_
 and_intros
 cases d with
 | int i =>
  refine bT ?_
  and_intros
  exact q
 | _=>exact ⟨(λ z=>by cases z),λ _=>(by and_intros; exact q)⟩
def its:PyData->List PyData
 | .tuple ds=>ds
 | _=>[]
theorem ZRp {ds:List PyData} {c:PyData->Bool} {g:G} {P:W->G->Prop} (q:P (.dat (.bool (ds.all c))) g):EvP (f1 ZGD [.dat (.list (ds.map λ x=>.bool (c x)))] g) P:=by
 rw [show ds.map (λ x=>PyData.bool (c x))=(ds.map c).map .bool by rw [List.map_map]; rfl]
 exact ZQP (by rw [List.all_map]; exact q)
def upI:PyData->Int
 | .int i=>i
 | _=>0
theorem ZI5:∀ (ds:List PyData),ZEI ds (ds.drop 1)=(ds.zip (ds.drop 1)).map λ p=>PyData.tuple [p.1,p.2]
 | []=>rfl
 | [a]=>rfl
 | a :: b :: r=>by
  have:=ZI5 (b :: r)
  show PyData.tuple [a,b] :: ZEI (b :: r) r=_
  rw [show ZEI (b :: r) r=_ from this]
  rfl
theorem cut1 (ds:List PyData):ZCA ds (some 1) none=ds.drop 1:=by
 have h1:HT.sIx ds.length 0 (some 1)=min 1 ds.length:=rfl
 have h2:HT.sIx ds.length ds.length none=ds.length:=rfl
 unfold ZCA
 rw [h1,h2]
 cases ds with
 | nil=>rfl
 | cons d ds =>
  rw [show min 1 (d :: ds).length=1 by simp,List.take_of_length_le (by rw [List.length_drop]; exact Nat.le_refl _)]
theorem ZKP {α : Type} {L:List α} {c : α->Bool} {g:G} {P:W->G->Prop} (q:P (.dat (.bool (L.all c))) g):EvP (f1 ZGD [.dat (.list (L.map λ x=>.bool (c x)))] g) P:=by
 rw [show L.map (λ x=>PyData.bool (c x))=(L.map c).map .bool by rw [List.map_map]; rfl]
 exact ZQP (by rw [List.all_map]; exact q)
def ris (ds:List PyData):Bool:=(ds.zip (ds.drop 1)).all λ p=>decide (upI p.1 < upI p.2)
theorem ZLZ {d:PyData} (h:cnt d=true):d=.int (upI d)/\0<=upI d:=by
 cases d with
 | int a=>exact ⟨rfl,of_decide_eq_true h⟩
 | _=>cases h
theorem ZMV {ds:List PyData} {g:G} {P:W->G->Prop} (hl:ds.length<=1000) (hi:∀ x ∈ ds,cnt x=true) (q:P (.dat (.bool (ris ds))) g):EvP (ZDM [.dat (.tuple ds)] g) P:=by
 refine ZM0 ?_
 and_intros
 rw [cut1]
 refine ⟨_,_,rfl,by rw [ZF9]; omega,?_⟩
 refine ZBb (λ p:PyData × PyData=>PyData.tuple [p.1,p.2]) (λ p=>.bool (decide (upI p.1 < upI p.2))) _ (ZI5 ds) trivial (λ p hp=>⟨_,rfl,?_⟩) ?_
 ·obtain ⟨h1,h2⟩:=List.of_mem_zip (show (p.1,p.2) ∈ _ from hp)
  have e1:=(ZLZ (hi _ h1)).1
  have e2:=(ZLZ (hi _ (List.mem_of_mem_drop h2))).1
  rw [e1,e2]
  and_intros
  exact ⟨rfl,rfl⟩
 and_intros
 refine ZKP ?_
 and_intros
 exact q
def isT:PyData->Bool
 | .tuple _=>true
 | _=>false
def arR (d:PyData):Bool:=isT d && ((its d).all cnt && ris (its d))
theorem ZKW {d:PyData} {g:G} {P:W->G->Prop} (hl:(its d).length<=1000) (q:P (.dat (.bool (arR d))) g):EvP (ZAp [.dat d] g) P:=by
 refine ZG1 ?_
 unfold arR at q
 and_intros
 cases d with
 | tuple ds =>
  have hl:ds.length<=1000:=hl
  have q:P (.dat (.bool (ds.all cnt && ris ds))) g:=q
  refine bT ?_
  and_intros
  refine ⟨hl,?_⟩
  refine ZBb id (λ x=>.bool (cnt x)) ds (List.map_id _).symm trivial (λ x hx=>⟨_,by rw [Zx],?_⟩) ?_
  ·and_intros
   refine ZNp ?_
   exact ⟨rfl,rfl⟩
  and_intros
  refine ZRp ?_
  and_intros
  cases h:ds.all cnt with
  | false =>
   rw [h,Bool.false_and] at q
   refine bF ?_
   and_intros
   exact q
  | true =>
   rw [h,Bool.true_and] at q
   refine bT ?_
   and_intros
   refine ZMV hl (List.all_eq_true.mp h) ?_
   and_intros
   exact q
 | _=>exact ⟨(λ z=>by cases z),λ _=>(by and_intros; exact q)⟩
theorem ZJj:∀ (ks:List Int),ks.Pairwise (· < ·)->ris (ks.map .int)=true
 | [],_=>rfl
 | [a],_=>rfl
 | a :: c :: r,h=>by
  rw [List.pairwise_cons] at h
  have ih:=ZJj (c :: r) h.2
  unfold ris at ih ⊢
  show (decide (a < c) && _)=true
  rw [decide_eq_true (h.1 c (List.mem_cons_self ..)),Bool.true_and]
  exact ih
theorem ZNI {ks:List Int} (h:∀ k ∈ ks,0<=k):(ks.map PyData.int).all cnt=true:=by
 rw [List.all_eq_true]
 intro x hx
 obtain ⟨k,hk,rfl⟩:=List.mem_map.mp hx
 exact decide_eq_true (h k hk)
theorem ZEy {ks:List Int} {m:Int} (h:RisN ks m):arR (Zc ks)=true:=by
 show (true && ((ks.map PyData.int).all cnt && ris (ks.map .int)))=true
 rw [ZNI h.lo,ZJj ks h.up]
 rfl
theorem ZNc {fa le:List Int} {g:G} {P:W->G->Prop} (hl:fa.length<=1000) (h:∀ k ∈ fa,k ∉ le) (q:P (.dat (.bool true)) g):EvP (ZBA [.dat (Zc fa),.dat (Zc le)] g) P:=by
 refine ZID ?_
 and_intros
 refine ⟨by rw [List.length_map]; exact hl,?_⟩
 refine ZBb PyData.int (λ k=>.bool (!le.contains k)) fa rfl trivial (λ k hk=>⟨_,by rw [Zx],?_⟩) ?_
 ·and_intros
  refine ZIi (by rw [ZBO]; rfl) ?_
  rw [L2.any_ints]
  exact ⟨rfl,rfl⟩
 and_intros
 refine ZKP ?_
 rw [List.all_eq_true.mpr λ k hk=>by simp [h k hk]]
 and_intros
 exact q
theorem ZFS {tn u:Int} {hs:List Hs} {ks:List Int} {g:G} {P:W->G->Prop} (hl:hs.length<=900) (h:HsN hs u ks) (q:P (.dat (.bool true)) g):EvP (ZAL [.dat (Zq tn hs),.dat (Zc ks),.dat (.int u)] g) P:=by
 refine ZG9 ?_
 and_intros
 refine ⟨by rw [List.length_map]; have:=h.pr.len (by omega); omega,?_⟩
 refine ZBb PyData.int (λ k=>.bool true) ks rfl trivial (λ k hk=>⟨_,by rw [Zx],?_⟩) ?_
 ·have h1:=h.pr.lo k hk
  have h2:=h.pr.hi k hk
  have h3:=h.pu k hk
  obtain ⟨m,rfl⟩:∃ m:Nat,k=(m:Int):=⟨k.toNat,by omega⟩
  and_intros
  rw [List.length_map,decide_eq_true h2]
  refine bT ?_
  and_intros
  refine ZAk (Zv (a:=H0) (by omega)) ?_
  and_intros
  rw [Int.toNat_natCast] at h3
  rw [Zn,h3,decide_eq_true rfl]
  exact ⟨rfl,rfl⟩
 and_intros
 refine ZKP ?_
 rw [List.all_eq_true.mpr λ k hk=>rfl]
 and_intros
 exact q
theorem ZNz {tn:Int} {hs:List Hs} {lo fa le co:List Int} {g:G} {P:W->G->Prop} (hl:hs.length<=900) (h:DoOk hs lo fa le co) (q:P (.dat (.bool true)) g):EvP (ZAn [.dat (Zq tn hs),.dat (doD lo fa le co)] g) P:=by
 have hll:∀ {ks:List Int} {m:Int},0<=m->m<=900->RisN ks m->ks.length<=1000:=λ h0 h1 h2=>by have:=h2.len h0; omega
 refine ZIG ?_
 and_intros
 refine ZSH (n:=4) ?_
 and_intros
 refine bT ?_
 and_intros
 refine ⟨by show (4:Nat)<=1000; decide,?_⟩
 refine ZBb id (λ x=>.bool (arR x)) [Zc lo,Zc fa,Zc le,Zc co] rfl trivial (λ x hx=>⟨_,by rw [Zx],?_⟩) ?_
 ·and_intros
  refine ZKW ?_ ⟨rfl,rfl⟩
  simp only [List.mem_cons,List.not_mem_nil,or_false] at hx
  have hb:∀ ks:List Int,(its (Zc ks)).length=ks.length:=λ ks=>List.length_map ..
  rcases hx with rfl | rfl | rfl | rfl
  ·show (its (Zc lo)).length<=1000; rw [hb]; exact hll (m:=120) (by decide) (by decide) h.plo
  ·show (its (Zc fa)).length<=1000; rw [hb]; exact hll (by omega) (by omega) h.pfa.pr
  ·show (its (Zc le)).length<=1000; rw [hb]; exact hll (by omega) (by omega) h.ple.pr
  ·show (its (Zc co)).length<=1000; rw [hb]; exact hll (by omega) (by omega) h.pco.pr
 and_intros
 rw [ZEy h.plo,ZEy h.pfa.pr,ZEy h.ple.pr,ZEy h.pco.pr]
 refine bF ?_
 and_intros
 refine ZNc (hll (by omega) (by omega) h.pfa.pr) h.pap ?_
 and_intros
 refine bF ?_
 and_intros
 refine ZFS hl h.pfa ?_
 and_intros
 refine bT ?_
 and_intros
 refine ZFS hl h.ple ?_
 and_intros
 refine bT ?_
 and_intros
 refine ZFS hl h.pco ?_
 and_intros
 exact q
theorem ZJt {d:PyData}:∀ n:Nat,(List.replicate n [d]).flatten=List.replicate n d
 | 0=>rfl
 | n+1=>by
  rw [List.replicate_succ,List.flatten_cons,ZJt n,List.replicate_succ]
  rfl
theorem ZNM {r:Ru} {ts:List (Int × Int)} {g:G} {P:W->G->Prop} (n2 : 2<=ts.length) (n8:ts.length<=8) (q:P (.dat (Zq 0 (List.replicate ts.length (ZGI r.t ts.length)))) g):EvP (ZDF [.dat (ruD r),.dat (Zr ts)] g) P:=by
 refine ZMu ?_
 and_intros
 rw [List.length_map]
 refine ZFE (by omega) (by omega) rfl (by show (1:Nat)<=20; decide) ?_
 and_intros
 refine ZFE (by omega) (by omega) rfl (by show (1:Nat)<=20; decide) ?_
 and_intros
 refine ZFE (by omega) (by omega) rfl (by show (1:Nat)<=20; decide) ?_
 and_intros
 refine ZFE (by omega) (by omega) rfl (by show (1:Nat)<=20; decide) ?_
 and_intros
 rw [Int.toNat_natCast]
 have e:Zq 0 (List.replicate ts.length (ZGI r.t ts.length))=.tuple [.int 0,.tuple (List.replicate ts.length (.tuple [.int 1,.tuple (List.replicate ts.length (Zk (0,0))),.tuple (List.replicate ts.length (.int r.t)),.tuple (List.replicate ts.length (.int 0))]))]:=by
  unfold Zq ZGI
  rw [List.map_replicate]
  show PyData.tuple [.int 0,.tuple (List.replicate ts.length (PyData.tuple [.int 1,.tuple ((List.replicate ts.length ((0:Int),(0:Int))).map Zk),.tuple ((List.replicate ts.length r.t).map .int),.tuple ((List.replicate ts.length (0:Int)).map .int)]))]=_
  rw [List.map_replicate,List.map_replicate,List.map_replicate]
 rw [e] at q
 rw [ZJt,ZJt,ZJt,ZJt]
 exact q
theorem ZPG {t:Int} {n:Nat}:HsL n (List.replicate n (ZGI t n)):=⟨List.length_replicate,λ h hh=>by
 rw [(List.mem_replicate.mp hh).2]
 exact ⟨.inr rfl,List.length_replicate,List.length_replicate,List.length_replicate⟩⟩
def ZDc (r:Ru) (ts:List (Int × Int)):Sx->List Do4->Prop
 | _,[]=>True
 | s,d :: ds=>DoOk s.2 d.1 d.2.1 d.2.2.1 d.2.2.2/\ZDc r ts (nxS r ts s d) ds
structure TnOk (r:Ru) (ts:List (Int × Int)):Prop where
 cl:r.cl.Sublist ZCJ
 ru:RuOk r
 n2 : 2<=ts.length
 n8:ts.length<=8
 ck:∀ c ∈ ts,ZHE c
theorem TnOk.en {r:Ru} {ts:List (Int × Int)} (t:TnOk r ts) {tn:Int} {lo:List Int}:EnOk ⟨r,ts,tn,lo⟩:=⟨t.cl,t.ru,t.n2,t.n8,t.ck⟩
theorem ZQI {r:Ru} {ts:List (Int × Int)} {s:Sx} {d:Do4} (t:TnOk r ts) (w:HsL ts.length s.2) (h:DoOk s.2 d.1 d.2.1 d.2.2.1 d.2.2.2):HsL ts.length (nxS r ts s d).2/\(nxR r ts s d).le.length<=960:=by
 have hle:∀ k ∈ d.2.2.1,0<=k/\k < ts.length:=λ k hk=>⟨h.ple.pr.lo k hk,by have:=h.ple.pr.hi k hk; rw [w.len] at this; exact this⟩
 have hco:∀ k ∈ d.2.2.2,0<=k/\k < ts.length:=λ k hk=>⟨h.pco.pr.lo k hk,by have:=h.pco.pr.hi k hk; rw [w.len] at this; exact this⟩
 exact ZN5 t.ru.o t.n2 t.n8 w hle hco (by have:=h.few; rw [w.len] at this; exact this)
theorem ZIo {r:Ru} {ts:List (Int × Int)} {s:Sx} {d:Do4} {g:G} {P:W->G->Prop} (t:TnOk r ts) (w:HsL ts.length s.2) (h:DoOk s.2 d.1 d.2.1 d.2.2.1 d.2.2.2) (q:∀ g',Ex g g'->P (.dat (tsX (nxS r ts s d,(nxR r ts s d).le))) g'):EvP (ZAX [.dat (ruD r),.dat (Zr ts),.dat (stX s),.dat (doX d)] g) P:=by
 have hle:∀ k ∈ d.2.2.1,0<=k/\k < ts.length:=λ k hk=>⟨h.ple.pr.lo k hk,by have:=h.ple.pr.hi k hk; rw [w.len] at this; exact this⟩
 have hco:∀ k ∈ d.2.2.2,0<=k/\k < ts.length:=λ k hk=>⟨h.pco.pr.lo k hk,by have:=h.pco.pr.hi k hk; rw [w.len] at this; exact this⟩
 exact ZKv t.en w hle hco (by have:=h.few; rw [w.len] at this; exact this) q
theorem ZDc.snoc {r:Ru} {ts:List (Int × Int)}:∀ {ds:List Do4} {s:Sx} {d:Do4},ZDc r ts s ds->DoOk (ZDI r ts s ds).2 d.1 d.2.1 d.2.2.1 d.2.2.2->ZDc r ts s (ds ++ [d])
 | [],s,d,_,h=>⟨h,trivial⟩
 | x :: ds,s,d,h,k=>⟨h.1,ZDc.snoc h.2 k⟩
theorem ZM8 {r:Ru} {ts:List (Int × Int)} (t:TnOk r ts):∀ {ds:List Do4} {s:Sx},HsL ts.length s.2->ZDc r ts s ds->HsL ts.length (ZDI r ts s ds).2/\∀ L ∈ ZDi r ts s ds,L.length<=960
 | [],s,w,h=>⟨w,λ L hL=>by cases hL⟩
 | x :: ds,s,w,h=>by
  have k:=ZQI t w h.1
  obtain ⟨h1,h2⟩:=ZM8 t (ds:=ds) k.1 h.2
  refine ⟨h1,λ L hL=>?_⟩
  rw [ZDi] at hL
  rcases List.mem_cons.mp hL with rfl | hL
  ·exact k.2
  ·exact h2 L hL
structure Fc (c:Nat) (g g':G):Prop where
 len:g.length<=g'.length
 kp:∀ n,n < g.length->n ≠ c->g'[n]? = g[n]?
theorem Fc.refl {c:Nat} {g:G}:Fc c g g:=⟨Nat.le_refl _,λ _ _ _=>rfl⟩
theorem Fc.trans {c:Nat} {g g1 g2:G} (h:Fc c g g1) (k:Fc c g1 g2):Fc c g g2:=⟨Nat.le_trans h.len k.len,λ i h1 h2=>(k.kp i (Nat.lt_of_lt_of_le h1 h.len) h2).trans (h.kp i h1 h2)⟩
theorem Fc.ex {c:Nat} {g g':G} (h:Ex g g'):Fc c g g':=⟨h.len,λ k h1 _=>h.kp k h1⟩
theorem Fc.set {c:Nat} {g:G} {x:Cell}:Fc c g (g.set c x):=⟨by rw [List.length_set]; exact Nat.le_refl _,λ k _ h2=>List.getElem?_set_ne (Ne.symm h2)⟩
theorem ZJe {r:Ru} {ts:List (Int × Int)} {c:Nat} {P:Out->Prop} {xs:List PyData} {x3:Option W} (t:TnOk r ts):∀ (ds:List Do4) (s:Sx) (g:G) (k:Nat) (acc:List PyData) (z5 z6 z7:Option W),HsL ts.length s.2->ZDc r ts s ds->acc.length+ds.length<=1000->g[c]? = some (.pl acc) ->
  (∀ g' z2 z5 z6 z7,Fc c g g'->g'[c]? = some (.pl (acc ++ (ZKk r ts s ds).map tsX))->P (.nx [some (.dat (ruD r)),some (.dat (Zr ts)),z2,x3,some (.ref c),z5,z6,z7] g')) ->
  EvS (ZAl none xs (.tp (.cons (.nm 5) (.cons (.nm 6) .nil))) (ZP (Z5 (ZE6 (dB (dF ZAn (ZC (ZD 2) (ZC (ZD 6) ZL))))) ZRO dNx) (ZP (ZAO (.tp (.cons (.nm 2) (.cons (.nm 7) .nil))) (dF ZAX (ZC (ZD 0) (ZC (ZD 1) (ZC (ZD 2) (ZC (ZD 6) ZL)))))) (ZA3 (ZEG (ZD 4) (dF Zw (ZC (ZD 2) (ZC (ZD 7) ZL))))))) (ZCI k (ds.map doX)) [some (.dat (ruD r)),some (.dat (Zr ts)),some (.dat (stX s)),x3,some (.ref c),z5,z6,z7] g) P
 | [],s,g,k,acc,z5,z6,z7,w,ho,hl,hc,q=>ZDW (q g _ z5 z6 z7 .refl (by rw [ZKk,List.map_nil,List.append_nil]; exact hc))
 | d :: ds,s,g,k,acc,z5,z6,z7,w,ho,hl,hc,q=>by
  rw [List.length_cons] at hl
  have n8:=t.n8
  have kk:=ZQI t w ho.1
  rw [List.map_cons,ZCI]
  refine ZCL rfl ?_
  and_intros
  refine ZNz (tn:=s.1) (by rw [w.len]; omega) ho.1 ?_
  and_intros
  refine bF ?_
  and_intros
  refine ZIo t w ho.1 λ g1 E1=>?_
  have hc1:g1[c]? = some (.pl acc):=by rw [E1.kp _ (ZC1 hc)]; exact hc
  and_intros
  refine ⟨_,hc1,by omega,?_⟩
  refine .nx trivial ?_
  refine ZJe t ds (nxS r ts s d) _ (k+1) (acc ++ [tsX (nxS r ts s d,(nxR r ts s d).le)]) _ _ _ kk.1 ho.2 (by rw [List.length_append]; show acc.length+1+_<=1000; omega) (ZAr (ZC1 hc1)) λ g' y2 y5 y6 y7 f h'=>?_
  refine q g' y2 y5 y6 y7 (((Fc.ex E1).trans .set).trans f) ?_
  rw [h',ZKk,List.map_cons,List.append_assoc]
  rfl
theorem ZNV {r:Ru} {ts:List (Int × Int)} {s:Sx} {ds:List Do4} {g:G} {P:W->G->Prop} (t:TnOk r ts) (w:HsL ts.length s.2) (ho:ZDc r ts s ds) (hl:ds.length<=1000) (q:∀ g',Ex g g'->g'[g.length]? = some (.pl ((ZKk r ts s ds).map tsX))->P (.ref g.length) g'):EvP (ZDG [.dat (ruD r),.dat (Zr ts),.dat (stX s),.dat (.tuple (ds.map doX))] g) P:=by
 refine ZM3 ?_
 and_intros
 refine ZJe t ds s _ 0 [] _ _ _ w ho (by show 0+_<=1000; omega) ZAB λ g' z2 z5 z6 z7 f h=>?_
 and_intros
 refine q g' ⟨by have:=f.len; rw [List.length_append] at this; omega,λ n hn=>?_⟩ h
 rw [f.kp n (by rw [List.length_append]; omega) (by omega),List.getElem?_append_left hn]
theorem ZLH {r:Ru} {ts:List (Int × Int)} {c e:Nat} {P:Out->Prop} {xs:List PyData} {x3:Option W} (hce:e ≠ c):∀ (ds:List Do4) (s:Sx) (g:G) (acc:List PyData) (z5 z6:Option W),acc.length+ds.length<=1000->g[c]? = some (.pl acc)->g[e]? = some (.pl xs) ->
  (∀ g' z5 z6,Fc c g g'->g'[c]? = some (.pl (acc ++ (ZDi r ts s ds).map ZFm))->P (.nx [some (.dat (ruD r)),some (.dat (Zr ts)),some (.dat (stX (ZDI r ts s ds))),x3,some (.ref c),z5,z6] g')) ->
  EvS (ZAl (some e) xs (.tp (.cons (.nm 5) (.cons (.nm 6) .nil))) (ZP (Zi 2 (ZD 5)) (ZA3 (ZEG (ZD 4) (ZD 6)))) ((ZKk r ts s ds).map tsX) [some (.dat (ruD r)),some (.dat (Zr ts)),some (.dat (stX s)),x3,some (.ref c),z5,z6] g) P
 | [],s,g,acc,z5,z6,hl,hc,he,q=>ZDW (q g z5 z6 .refl (by rw [ZDi,List.map_nil,List.append_nil]; exact hc))
 | d :: ds,s,g,acc,z5,z6,hl,hc,he,q=>by
  rw [List.length_cons] at hl
  rw [ZKk,List.map_cons]
  refine ZCL rfl ?_
  and_intros
  refine ⟨_,hc,by omega,?_⟩
  have he1:(g.set c (.pl (acc ++ [ZFm (nxR r ts s d).le])))[e]? = some (.pl xs):=by rw [List.getElem?_set_ne (Ne.symm hce)]; exact he
  refine .nx he1 ?_
  refine ZLH hce ds (nxS r ts s d) _ (acc ++ [ZFm (nxR r ts s d).le]) _ _ (by rw [List.length_append]; show acc.length+1+_<=1000; omega) (ZAr (ZC1 hc)) he1 λ g' y5 y6 f h'=>?_
  refine q g' y5 y6 (Fc.set.trans f) ?_
  rw [h',ZDi,List.map_cons,List.append_assoc]
  rfl
theorem ZLz {r:Ru} {ts:List (Int × Int)} {s:Sx} {ds:List Do4} {g:G} {P:W->G->Prop} (t:TnOk r ts) (w:HsL ts.length s.2) (ho:ZDc r ts s ds) (hl:ds.length<=1000) (q:∀ g',Ex g g'->P (.dat (.tuple [stX (ZDI r ts s ds),.tuple ((ZDi r ts s ds).map ZFm)])) g'):EvP (ZB2 [.dat (ruD r),.dat (Zr ts),.dat (stX s),.dat (.tuple (ds.map doX))] g) P:=by
 refine ZLw ?_
 and_intros
 refine ZNV t w ho hl λ g1 E1 h1=>?_
 have hc:g1[g.length]? = some (.pl []):=by rw [E1.kp _ (by simp)]; exact ZAB
 have hne:(g ++ [Cell.pl []]).length ≠ g.length:=by simp
 refine ZN4 h1 ?_
 refine ZLH hne ds s g1 [] _ _ (by show 0+_<=1000; omega) hc h1 λ g2 z5 z6 f h2=>?_
 and_intros
 refine ZDr h2 ?_
 and_intros
 refine q g2 ⟨by have:=f.len; have:=E1.len; rw [List.length_append] at this; omega,λ n hn=>?_⟩
 have:=E1.len
 rw [List.length_append] at this
 rw [f.kp n (by omega) (by omega),E1.kp n (by rw [List.length_append]; omega),List.getElem?_append_left hn]
inductive TIB:Nat->PyData->Prop
 | int {n:Nat} (i:Int):TIB (n+1) (.int i)
 | bl {n:Nat} (b:Bool):TIB (n+1) (.bool b)
 | tup {n:Nat} (ds:List PyData):ds.length<=1000->(∀ d ∈ ds,TIB n d)->TIB (n+1) (.tuple ds)
theorem ZMg {a b:Bool}:(PyData.bool a).eqv (.bool b)=decide (a=b):=by
 cases a <;> cases b <;> rfl
theorem ZJ2 {n:Nat} {L:List Int} (h:L.length<=1000):TIB (n+2) (Zc L):=.tup _ (by rw [List.length_map]; exact h) λ d hd=>by
 obtain ⟨k,_,rfl⟩:=List.mem_map.mp hd
 exact .int k
theorem ZMT {n m:Nat} {s:Sx} (w:HsL m s.2) (hm:m<=8):TIB (n+6) (stX s):=.tup _ (by show (2:Nat)<=1000; decide) λ d hd=>by
 simp only [List.mem_cons,List.not_mem_nil,or_false] at hd
 rcases hd with rfl | rfl
 ·exact .int _
 refine .tup _ (by rw [List.length_map,w.len]; omega) λ d hd=>?_
 obtain ⟨h,hh,rfl⟩:=List.mem_map.mp hd
 have v:=w.all h hh
 refine .tup _ (by show (4:Nat)<=1000; decide) λ d hd=>?_
 simp only [List.mem_cons,List.not_mem_nil,or_false] at hd
 rcases hd with rfl | rfl | rfl | rfl
 ·exact .int _
 ·refine .tup _ (by rw [List.length_map,v.bl]; omega) λ d hd=>?_
  obtain ⟨x,_,rfl⟩:=List.mem_map.mp hd
  refine .tup _ (by show (2:Nat)<=1000; decide) λ d hd=>?_
  simp only [List.mem_cons,List.not_mem_nil,or_false] at hd
  rcases hd with rfl | rfl <;> exact .int _
 ·exact ZJ2 (by rw [v.tl]; omega)
 ·exact ZJ2 (by rw [v.ml]; omega)
theorem ZPU {n:Nat} {LL:List (List Lt)} (h:LL.length<=1000) (hL:∀ L ∈ LL,L.length<=960):TIB (n+4) (.tuple (LL.map ZFm)):=.tup _ (by rw [List.length_map]; exact h) λ d hd=>by
 obtain ⟨L,hl,rfl⟩:=List.mem_map.mp hd
 refine .tup _ (by rw [List.length_map]; have:=hL L hl; omega) λ d hd=>?_
 obtain ⟨x,_,rfl⟩:=List.mem_map.mp hd
 refine .tup _ (by show (3:Nat)<=1000; decide) λ d hd=>?_
 simp only [List.mem_cons,List.not_mem_nil,or_false] at hd
 rcases hd with rfl | rfl | rfl
 ·exact .int _
 ·exact .int _
 ·exact .bl _
theorem ZNZ {n m:Nat} {s:Sx} {LL:List (List Lt)} (w:HsL m s.2) (hm:m<=8) (h:LL.length<=1000) (hL:∀ L ∈ LL,L.length<=960):TIB (n+7) (.tuple [stX s,.tuple (LL.map ZFm)]):=.tup _ (by show (2:Nat)<=1000; decide) λ d hd=>by
 simp only [List.mem_cons,List.not_mem_nil,or_false] at hd
 rcases hd with rfl | rfl
 ·exact ZMT w hm
 ·exact ZPU (n:=n+2) h hL
theorem ZP0 {xs:List PyData} (h:∀ x ∈ xs,x.canLay0=true):PyData.canLayAll0 xs=true:=by
 induction xs with
 | nil=>rfl
 | cons x r ih =>
  show (x.canLay0 && PyData.canLayAll0 r)=true
  rw [h x (List.mem_cons_self ..),ih λ y hy=>h y (List.mem_cons_of_mem _ hy)]
  rfl
theorem ZPB {k:Nat} {xs:List PyData} (h:∀ x ∈ xs,x.depth<=k):PyData.depthAll xs<=k:=by
 induction xs with
 | nil=>exact Nat.zero_le _
 | cons x r ih =>
  rw [PyData.depthAll.eq_2]
  exact Nat.max_le.mpr ⟨h x (List.mem_cons_self ..),ih λ y hy=>h y (List.mem_cons_of_mem _ hy)⟩
theorem ZKL:∀ {m:Nat} {t:PyData},TIB m t->t.canLay0=true/\t.depth<=m
 | 0,_,h=>by cases h
 | m+1,_,.int i=>⟨rfl,Nat.zero_le _⟩
 | m+1,_,.bl i=>⟨rfl,Nat.zero_le _⟩
 | m+1,_,.tup ds _ h=>⟨ZP0 λ x hx=>(ZKL (h x hx)).1,by rw [PyData.depth.eq_2]; have:=ZPB (k:=m) λ x hx=>(ZKL (h x hx)).2; omega⟩
mutual
theorem ZJz:∀ {m:Nat} {t:PyData},TIB m t->t.eqv t=true
 | 0,_,h=>by cases h
 | m+1,_,.int i=>by rw [Zn]; exact decide_eq_true rfl
 | m+1,_,.bl i=>by rw [ZMg]; exact decide_eq_true rfl
 | m+1,_,.tup ds _ h=>by
  rw [PyData.eqv]
  exact ZHq ds h
theorem ZHq {m:Nat}:∀ (ds:List PyData),(∀ d ∈ ds,TIB m d)->PyData.eqvAll ds ds=true
 | [],_=>rfl
 | d :: r,h=>by
  rw [PyData.eqvAll,ZJz (h d (List.mem_cons_self ..)),ZHq r λ x hx=>h x (List.mem_cons_of_mem _ hx)]
  rfl
end
theorem ZRN {m:Nat} {t:PyData} {g:G} {P:W->G->Prop} (h:TIB m t) (hm:m<=8) (q:P (.dat (.bool false)) g):EvP (ZEH (.dat t) (.dat t) g) P:=by
 have h1:=ZKL h
 have h2:ok0 t=true:=by
  unfold ok0
  rw [h1.1,decide_eq_true (by omega)]
  rfl
 refine ZSJ (by rw [h2]; rfl) ?_
 rw [ZJz h]
 exact q
theorem ZLV {r:Ru} {n:Nat} (ho : 0<=r.o) (n2 : 2<=n):(2:Int)+4 * (if (n:Int) - 2 < r.o then (n:Int) - 2 else r.o)=(ZBl r n:Nat):=by
 unfold ZBl
 split <;> omega
def ZKt (tn:Int) (hs:List Hs) (ts:List (Int × Int)) (fa le co:List Int) (a:Nat):Nat:=if ZFl tn hs ts fa le co a=true then 1+ZFn hs a else 0
def ZCg (tn:Int) (hs:List Hs) (ts:List (Int × Int)) (fa le co:List Int) (i:Nat):Nat:=((List.range i).map (ZKt tn hs ts fa le co)).sum
theorem ZD9 {tn:Int} {hs:List Hs} {ts:List (Int × Int)} {fa le co:List Int} {i:Nat}:ZCg tn hs ts fa le co (i+1)=ZCg tn hs ts fa le co i+ZKt tn hs ts fa le co i:=by
 unfold ZCg
 rw [List.range_succ,List.map_append,List.sum_append]
 rfl
theorem ZLC {α : Type} {f : α->Nat} {k:Nat}:∀ {L:List α},(L.map λ a=>k * f a).sum=k * (L.map f).sum
 | []=>rfl
 | x :: L=>by rw [List.map_cons,List.map_cons,List.sum_cons,List.sum_cons,ZLC,Nat.mul_add]
def ZJI (r:Ru) (tn:Int) (hs:List Hs) (ts:List (Int × Int)) (fa le co:List Int):Int:=((ts.length:Int) - 1) * ((le.length:Int)+(co.length:Int))+(ZCg tn hs ts fa le co ts.length:Nat) * (ZBl r ts.length:Nat)
theorem ZMo {r:Ru} {ts:List (Int × Int)} {tn:Int} {hs:List Hs} {lo fa le co:List Int} (ho : 0<=r.o/\r.o<=3) (n2 : 2<=ts.length) (w:HsL ts.length hs) (hle:∀ k ∈ le,0<=k/\k < ts.length) (hco:∀ k ∈ co,0<=k/\k < ts.length):((ZEO r ts tn hs lo fa le co).le.length:Int)<=ZJI r tn hs ts fa le co:=by
 have h:=ZMj (r:=r) (tn:=tn) (lo:=lo) (fa:=fa) ho n2 w hle hco
 have e:((List.range ts.length).map λ a=>if ZFl tn hs ts fa le co a=true then ZHm r ts.length hs a else 0).sum=ZBl r ts.length * ZCg tn hs ts fa le co ts.length:=by
  unfold ZCg
  rw [← ZLC]
  congr 1
  apply List.map_congr_left
  intro a _
  unfold ZKt ZHm
  split
  ·rfl
  ·rw [Nat.mul_zero]
 rw [e,List.length_append] at h
 unfold ZJI
 have e2:((ts.length:Int) - 1) * ((le.length:Int)+(co.length:Int))=(((ts.length - 1) * (le.length+co.length):Nat):Int):=by
  rw [Int.natCast_mul,Int.natCast_add,Int.natCast_sub (by omega)]
  rfl
 have e3:((ZCg tn hs ts fa le co ts.length:Nat):Int) * ((ZBl r ts.length:Nat):Int)=((ZBl r ts.length * ZCg tn hs ts fa le co ts.length:Nat):Int):=by
  rw [Int.natCast_mul,Int.mul_comm]
 rw [e2,e3]
 omega
theorem ZC9 {i j:Int} (h : -100<=i/\i<=100 ∨ -100<=j/\j<=100):ZFr i j=true:=by
 unfold ZFr
 rcases h with h | h
 ·rw [decide_eq_true (show -(2 ^ 64) < i by omega),decide_eq_true (show i < 2 ^ 64 by omega)]
  rfl
 ·rw [decide_eq_true (show -(2 ^ 64) < j by omega),decide_eq_true (show j < 2 ^ 64 by omega)]
  exact Bool.or_true _
theorem mul4 {j:Int}:ZFr 4 j=true:=ZC9 (.inl (by omega))
local macro_rules
 | `(tactic| and_intros) => `(tactic| repeat (first
  | (with_reducible refine ZDe (by first | exact mul4 | exact ZC9 (.inl (by omega)) | exact ZC9 (.inr (by split <;> omega))) ?_)
  | with_reducible (first
   | refine ZD4 ?_ | refine ZOX ?_ | refine x_c ?_ | refine ZSL ?_ | refine x_f ?_ | refine ZSU ?_ | refine x_b ?_ | refine ZNR ?_ | refine ZQO ?_ | refine ZQY ?_ | refine ZQD ?_ | refine ZQa ?_ | refine ZSP ?_ | refine ZQK ?_
   | refine ZNu ?_ | refine ZST ?_ | refine ZQb ?_ | refine ZOD ?_ | refine ZNh ?_ | refine ZQF ?_ | refine ZO1 ?_ | refine x_retN ?_
   | refine x_un ?_ | refine ZON ?_ | refine ZQN ?_ | refine ZH3 ?_ | refine x_if ?_ | refine x_chain ?_
   | refine ZSW ?_ | refine ZJZ ?_ | refine ZNF ?_ | refine ZMY ?_ | refine ZM6 ?_ | refine ZLW ?_ | refine ZMX ?_ | refine ZQE ?_ | refine ZQG ?_ | refine x_augS ?_ | refine ZNX ?_ | refine ZQT ?_ | refine ZMW ?_ | refine ZNU ?_ | refine ZNq ?_ | refine ZQC ?_ | refine ZM7 ?_ | refine ZNs ?_ | refine x_ext ?_ | refine x_ins ?_)
  | ((with_reducible refine ZFi ?_ ?_); exact rfl)
  | refine ZMp ?_ | refine ZMk ?_ | refine Exists.intro _ (And.intro rfl ?_)
  | refine Exists.intro _ (Exists.intro _ (Exists.intro _ (And.intro rfl (And.intro (by assumption) (And.intro rfl ?_)))))
  | refine Exists.intro _ (Exists.intro _ (Exists.intro _ (And.intro rfl (And.intro (by assumption) (And.intro (of_decide_eq_true rfl) (And.intro rfl ?_))))))
  | refine Exists.intro _ (Exists.intro _ (And.intro rfl (And.intro (by assumption) ?_)))
  | refine And.intro (ZIv (by assumption)) ?_ | refine And.intro (ZIv ZAB) ?_ | refine ZCU ?_ | refine ZNm ?_))
theorem ZO3 {r:Ru} {tn:Int} {hs:List Hs} {ts:List (Int × Int)} {lo fa le co:List Int} {g:G} {P:W->G->Prop} (hr:RuOk r) (w:HsL ts.length hs) (n2 : 2<=ts.length) (n8:ts.length<=8) (hck:∀ c ∈ ts,ZHE c) (hl:fa.length+le.length<=900) (q:P (.dat (.int (ZJI r tn hs ts fa le co))) g):EvP (ZA9 [.dat (ruD r),.dat (Zr ts),.dat (Zq tn hs),.dat (doD lo fa le co)] g) P:=by
 have ho:=hr.o
 refine ZH4 ?_
 and_intros
 simp only [List.length_map]
 refine ZDe (ZC9 (.inl (by omega))) ?_
 and_intros
 refine ZBu (λ i sd gx=>gx=g/\∃ z6 z7 z8 z9 z10,sd=[some (.dat (ruD r)),some (.dat (Zr ts)),some (.dat (Zq tn hs)),some (.dat (doD lo fa le co)),some (.dat (.int (ts.length:Int))),some (.dat (.int (((ts.length:Int) - 1) * ((le.length:Int)+(co.length:Int))+(ZCg tn hs ts fa le co i:Nat) * (ZBl r ts.length:Nat)))),z6,z7,z8,z9,z10]) ?_ ?_ ?_
 ·refine ⟨rfl,none,none,none,none,none,?_⟩
  rw [show ((ZCg tn hs ts fa le co 0:Nat):Int)=0 from rfl,Int.zero_mul,Int.add_zero]
  rfl
 ·rintro i x sd gx hx ⟨rfl,z6,z7,z8,z9,z10,rfl⟩
  rw [ZHR (0,0) ts,List.getElem?_map] at hx
  obtain ⟨j,hj,rfl⟩:=mp hx
  obtain ⟨hj1,hj2⟩:=List.getElem?_eq_some_iff.mp hj
  rw [List.getElem_range] at hj2
  subst hj2
  rw [List.length_range] at hj1
  have hc:=hck _ (ZEu (d:=(0,0)) hj1)
  have hil:i < hs.length:=by rw [w.len]; exact hj1
  have hml:=(w.get hj1).ml
  have yes:ZFl tn hs ts fa le co i=true->((ZCg tn hs ts fa le co (i+1):Nat):Int)=(ZCg tn hs ts fa le co i:Nat)+(1+(ZFn hs i:Nat)):=λ h=>by
   rw [ZD9]
   unfold ZKt
   rw [if_pos h]
   omega
  have no:ZFl tn hs ts fa le co i=false->((ZCg tn hs ts fa le co (i+1):Nat):Int)=(ZCg tn hs ts fa le co i:Nat):=λ h=>by
   rw [ZD9]
   unfold ZKt
   rw [if_neg (by rw [h]; exact Bool.false_ne_true)]
   omega
  have fin:∀ (b:Bool) (z10:Option W),(((decide ((hs.getD i H0).1=1) && !((fa ++ le).contains (i:Int))) || co.contains (i:Int))=b)->EvS ((Z5 (ZCG (dB (ZD 9)) (dB (dOp ZBL (dOp ZCd (dOp ZCo (dOp Zm (ZD 2) (dC (.int 0))) (ZD 8)) (ZD 7)) (dC (.int 0))))) (ZP (Zi 10 (dOp Zs (dC (.int 1)) (dF (f1 ZBq) (ZC (ZAh 1 [] (.nm 0) (ZCb (dOp Zm (dOp Zm (dOp Zm (ZD 2) (dC (.int 1))) (ZD 6)) (dC (.int 3)))) (dB (dOp ZJN (ZD 0) (dC (.int 0)))) (ZD 0)) ZL)))) (Zi 5 (dOp Zs (ZD 5) (dOp ZAi (ZD 10) (dOp Zs (dC (.int 2)) (dOp ZAi (dC (.int 4)) (dF ZNP (ZC (dOp Zm (ZD 0) (dC (.int 0))) (ZC (dOp ZCo (ZD 4) (dC (.int 2))) ZL))))))))) dNx) [some (.dat (ruD r)),some (.dat (Zr ts)),some (.dat (Zq tn hs)),some (.dat (doD lo fa le co)),some (.dat (.int (ts.length:Int))),some (.dat (.int (((ts.length:Int) - 1) * ((le.length:Int)+(co.length:Int))+(ZCg tn hs ts fa le co i:Nat) * (ZBl r ts.length:Nat)))),some (.dat (.int (i:Int))),some (.dat (.int (ts.getD i (0,0)).1)),some (.dat (.int (ts.getD i (0,0)).2)),some (.dat (.bool b)),z10] gx) (ZLJ none (ZCI 0 (ts.map Zk)) (λ sd gy=>gy=gx/\∃ z6 z7 z8 z9 z10,sd=[some (.dat (ruD r)),some (.dat (Zr ts)),some (.dat (Zq tn hs)),some (.dat (doD lo fa le co)),some (.dat (.int (ts.length:Int))),some (.dat (.int (((ts.length:Int) - 1) * ((le.length:Int)+(co.length:Int))+(ZCg tn hs ts fa le co (i+1):Nat) * (ZBl r ts.length:Nat)))),z6,z7,z8,z9,z10]) (seqP (Za (ZD 5)) (runP P))):=by
   intro b z10 hb
   unfold ZFl at yes no
   rw [hb] at yes no
   and_intros
   refine ⟨λ h1=>?_,λ h1=>?_⟩
   ·rw [h1,Bool.true_and] at yes no
    and_intros
    refine ZER (by have:=hc.1; omega) ?_
    and_intros
    rw [Zn]
    refine ⟨λ h2=>?_,λ h2=>?_⟩
    ·and_intros
     refine ZAk (Zv (a:=H0) hil) ?_
     and_intros
     refine ⟨by rw [List.length_map,hml]; omega,?_⟩
     refine ZCt PyData.int (λ t=>decide (0 < t)) PyData.int (hs.getD i H0).2.2.2 rfl trivial (λ t ht=>⟨_,by rw [Zx],?_⟩) ?_
     ·and_intros
      refine ⟨rfl,rfl,λ _=>?_⟩
      and_intros
      exact ⟨rfl,rfl⟩
     and_intros
     rw [List.length_map,ZLV hr.o.1 n2]
     rw [yes h2,Int.add_mul ((ZCg tn hs ts fa le co i:Nat):Int) (1+((ZFn hs i:Nat):Int)),← Int.add_assoc]
     exact ⟨trivial,rfl,_,_,_,_,_,rfl⟩
    ·and_intros
     rw [no h2]
     exact ⟨trivial,rfl,_,_,_,_,_,rfl⟩
   ·rw [h1,Bool.false_and] at no
    and_intros
    refine bF ?_
    and_intros
    rw [no rfl]
    exact ⟨trivial,rfl,_,_,_,_,_,rfl⟩
  refine ⟨_,rfl,?_⟩
  and_intros
  refine ZAk (Zv (a:=H0) hil) ?_
  and_intros
  rw [Zn]
  have inco:∀ {P':W->G->Prop} {gy:G},P' (.dat (.bool (co.contains (i:Int)))) gy->EvP (ZC0 (.dat (.int (i:Int))) (.dat (Zc co)) gy) P':=λ h=>ZEQ (by rw [ZBO]; rfl) (by rw [L2.any_ints]; exact h)
  refine ⟨λ h1=>?_,λ h1=>?_⟩
  ·and_intros
   refine ZCz (by rw [List.length_map,List.length_map]; omega) ?_
   and_intros
   rw [← List.map_append]
   refine ZIi (by rw [ZBO]; rfl) ?_
   rw [L2.any_ints]
   and_intros
   refine ⟨λ h2=>?_,λ h2=>?_⟩
   ·exact .nx (fin true _ (by rw [h1,h2]; rfl))
   ·and_intros
    refine inco ?_
    exact .nx (fin _ _ (by rw [h1,h2]; rfl))
  ·and_intros
   refine bF ?_
   and_intros
   refine inco ?_
   exact .nx (fin _ _ (by rw [h1]; rfl))
 ·rintro sd gx ⟨rfl,z6,z7,z8,z9,z10,rfl⟩
  rw [ZBW,List.length_map]
  and_intros
  exact q
theorem ZPD {c:Int × Int} {n:Int} (h:ZHE c) (hn : 0<=n):ZJQ c n=decide ((n - c.2) % c.1=0):=by
 unfold ZJQ
 by_cases z:c.2<=n
 ·rw [decide_eq_true z,Bool.true_and]
 ·obtain ⟨h1,h2,h3,h4⟩:=h
  rw [decide_eq_false z,Bool.false_and,decide_eq_false]
  intro e
  have:=Int.emod_emod_of_dvd (n - c.2) (Int.dvd_refl c.1)
  have e1:(n - c.2+c.1) % c.1=0:=by rw [Int.add_emod_right]; exact e
  rw [Int.emod_eq_of_lt (by omega) (by omega)] at e1
  omega
theorem ZHw {ts:List (Int × Int)} {i:Nat} {n:Int} {g:G} {P:W->G->Prop} (hi:i < ts.length) (hc : 0 < (ts.getD i (0,0)).1) (q:P (.dat (.bool (ZJQ (ts.getD i (0,0)) n))) g):EvP (ZCj [.dat (Zr ts),.dat (.int (i:Int)),.dat (.int n)] g) P:=by
 refine ZJm ?_
 unfold ZJQ at q
 and_intros
 refine ZAk (Zv (a:=(0,0)) hi) ?_
 and_intros
 refine ⟨λ h2=>?_,λ h2=>?_⟩
 ·rw [h2,Bool.true_and] at q
  and_intros
  refine ZER hc ?_
  and_intros
  rw [Zn]
  exact q
 ·rw [h2,Bool.false_and] at q
  and_intros
  exact q
theorem ZOn {r:Ru} {tn:Int} {hs:List Hs} {ts:List (Int × Int)} {lo fa le co:List Int} {g:G} {P:W->G->Prop} (hr:RuOk r) (w:HsL ts.length hs) (n2 : 2<=ts.length) (n8:ts.length<=8) (hck:∀ c ∈ ts,ZHE c) (htn : 0<=tn) (hdo:DoOk hs lo fa le co) (q:P (.dat (.int (ZJI r tn hs ts fa le co))) g):EvP (ZAS [.dat (ruD r),.dat (Zr ts),.dat (Zq tn hs),.dat (doD lo fa le co)] g) P:=by
 have ho:=hr.o
 have hlen:∀ {u:Int} {ks:List Int},HsN hs u ks->ks.length<=8:=λ h=>by
  have:=h.pr.len (by omega)
  rw [w.len] at this
  omega
 have hfa:=hlen hdo.pfa
 have hle:=hlen hdo.ple
 have hco:=hlen hdo.pco
 refine ZFv ?_
 and_intros
 refine ZBu (λ i sd gx=>gx=g/\∃ z11 z12 z13 z14 z15 z16 z17,sd=[some (.dat (ruD r)),some (.dat (Zr ts)),some (.dat (Zq tn hs)),some (.dat (doD lo fa le co)),some (.dat (.int tn)),some (.dat (.tuple (hs.map Zz))),some (.dat (Zc lo)),some (.dat (Zc fa)),some (.dat (Zc le)),some (.dat (Zc co)),some (.dat (.int ((ZCg tn hs ts fa le co i:Nat):Int))),z11,z12,z13,z14,z15,z16,z17]) ⟨rfl,_,_,_,_,_,_,_,rfl⟩ ?_ ?_
 ·rintro i x sd gx hx ⟨rfl,z11,z12,z13,z14,z15,z16,z17,rfl⟩
  rw [ZHR H0 hs,List.getElem?_map] at hx
  obtain ⟨j,hj,rfl⟩:=mp hx
  obtain ⟨hj1,hj2⟩:=List.getElem?_eq_some_iff.mp hj
  rw [List.getElem_range] at hj2
  subst hj2
  rw [List.length_range] at hj1
  have hit:i < ts.length:=by rw [← w.len]; exact hj1
  have hc:=hck _ (ZEu (d:=(0,0)) hit)
  have hml:=(w.get hit).ml
  have cn:∀ {ks:List Int},ks.contains (i:Int)=true ↔ (i:Int) ∈ ks:=List.contains_iff_mem
  have up:∀ {u:Int} {ks:List Int},HsN hs u ks->(i:Int) ∈ ks->(hs.getD i H0).1=u:=λ h z=>by
   have:=h.pu _ z
   rw [Int.toNat_natCast] at this
   exact this
  have ask:ZFl tn hs ts fa le co i=(!(fa ++ le).contains (i:Int) && ((decide ((hs.getD i H0).1=1) || co.contains (i:Int)) && ZJQ (ts.getD i (0,0)) tn)):=by
   unfold ZFl
   rw [ZPD hc htn,← Bool.and_assoc]
   congr 1
   by_cases h:(fa ++ le).contains (i:Int)=true
   ·rw [h,Bool.not_true,Bool.and_false,Bool.false_or,Bool.false_and]
    rw [← Bool.not_eq_true]
    intro z
    have h0:=up hdo.pco (cn.mp z)
    rcases List.mem_append.mp (cn.mp h) with y | y
    ·have:=up hdo.pfa y
     omega
    ·have:=up hdo.ple y
     omega
   ·rw [Bool.not_eq_true] at h
    rw [h,Bool.not_false,Bool.and_true,Bool.true_and]
  have yes:ZFl tn hs ts fa le co i=true->((ZCg tn hs ts fa le co (i+1):Nat):Int)=(ZCg tn hs ts fa le co i:Nat)+(1+(ZFn hs i:Nat)):=λ h=>by
   rw [ZD9]
   unfold ZKt
   rw [if_pos h]
   omega
  have no:ZFl tn hs ts fa le co i=false->((ZCg tn hs ts fa le co (i+1):Nat):Int)=(ZCg tn hs ts fa le co i:Nat):=λ h=>by
   rw [ZD9]
   unfold ZKt
   rw [if_neg (by rw [h]; exact Bool.false_ne_true)]
   omega
  rw [ask] at yes no
  refine ⟨_,rfl,?_⟩
  and_intros
  refine ZCz (by rw [List.length_map,List.length_map]; omega) ?_
  and_intros
  rw [← List.map_append]
  refine ZIi (by rw [ZBO]; rfl) ?_
  rw [L2.any_ints]
  have inco:∀ {P':W->G->Prop} {gy:G},P' (.dat (.bool (co.contains (i:Int)))) gy->EvP (ZC0 (.dat (.int (i:Int))) (.dat (Zc co)) gy) P':=λ h=>ZEQ (by rw [ZBO]; rfl) (by rw [L2.any_ints]; exact h)
  and_intros
  refine ⟨λ h1=>?_,λ h1=>?_⟩
  ·and_intros
   rw [Zn]
   refine ⟨λ h2=>?_,λ h2=>?_⟩
   ·and_intros
    refine bT ?_
    and_intros
    refine ZHw hit (by have:=hc.1; omega) ?_
    and_intros
    refine ⟨λ h3=>?_,λ h3=>?_⟩
    ·rw [h1,h2,h3] at yes
     refine ZMb rfl ?_
     and_intros
     refine ⟨by rw [List.length_map,hml]; omega,?_⟩
     refine ZCt PyData.int (λ t=>decide (0 < t)) PyData.int (hs.getD i H0).2.2.2 rfl trivial (λ t ht=>⟨_,by rw [Zx],?_⟩) ?_
     ·and_intros
      refine ⟨rfl,rfl,λ _=>?_⟩
      and_intros
      exact ⟨rfl,rfl⟩
     and_intros
     rw [List.length_map,yes rfl]
     exact ⟨trivial,rfl,_,_,_,_,_,_,_,rfl⟩
    ·rw [h1,h2,h3] at no
     and_intros
     rw [no rfl]
     exact ⟨trivial,rfl,_,_,_,_,_,_,_,rfl⟩
   ·and_intros
    refine inco ?_
    and_intros
    refine ⟨λ h4=>?_,λ h4=>?_⟩
    ·and_intros
     refine ZHw hit (by have:=hc.1; omega) ?_
     and_intros
     refine ⟨λ h3=>?_,λ h3=>?_⟩
     ·rw [h1,h2,h4,h3] at yes
      refine ZMb rfl ?_
      and_intros
      refine ⟨by rw [List.length_map,hml]; omega,?_⟩
      refine ZCt PyData.int (λ t=>decide (0 < t)) PyData.int (hs.getD i H0).2.2.2 rfl trivial (λ t ht=>⟨_,by rw [Zx],?_⟩) ?_
      ·and_intros
       refine ⟨rfl,rfl,λ _=>?_⟩
       and_intros
       exact ⟨rfl,rfl⟩
      and_intros
      rw [List.length_map,yes rfl]
      exact ⟨trivial,rfl,_,_,_,_,_,_,_,rfl⟩
     ·rw [h1,h2,h4,h3] at no
      and_intros
      rw [no rfl]
      exact ⟨trivial,rfl,_,_,_,_,_,_,_,rfl⟩
    ·rw [h1,h2,h4] at no
     and_intros
     refine bF ?_
     and_intros
     rw [no rfl]
     exact ⟨trivial,rfl,_,_,_,_,_,_,_,rfl⟩
  ·rw [h1] at no
   and_intros
   refine bF ?_
   and_intros
   rw [no rfl]
   exact ⟨trivial,rfl,_,_,_,_,_,_,_,rfl⟩
 ·rintro sd gx ⟨rfl,z11,z12,z13,z14,z15,z16,z17,rfl⟩
  rw [ZBW,List.length_map,w.len]
  and_intros
  refine ZFk ?_
  and_intros
  refine ZCz (by rw [List.length_map,List.length_map]; omega) ?_
  and_intros
  simp only [List.length_append,List.length_map]
  rw [ZLV hr.o.1 n2]
  refine ZDe (ZC9 (.inl (by omega))) ?_
  and_intros
  unfold ZJI at q
  rw [Int.add_comm,Int.natCast_add]
  exact q
theorem ZJp {r:Ru} {tn:Int} {hs:List Hs} {ts:List (Int × Int)} {lo fa le co:List Int} {g:G} {P:W->G->Prop} (hr:RuOk r) (w:HsL ts.length hs) (n2 : 2<=ts.length) (n8:ts.length<=8) (hck:∀ c ∈ ts,ZHE c) (htn : 0<=tn) (hdo:DoOk hs lo fa le co) (q:P (.dat (.bool true)) g):EvP (ZAM [.dat (ruD r),.dat (Zr ts),.dat (Zq tn hs),.dat (doD lo fa le co),.dat (.tuple ((ZEO r ts tn hs lo fa le co).le.map ltD))] g) P:=by
 have hlen:∀ {u:Int} {ks:List Int},HsN hs u ks->ks.length<=8:=λ h=>by
  have:=h.pr.len (by omega)
  rw [w.len] at this
  omega
 have hfa:=hlen hdo.pfa
 have hle:=hlen hdo.ple
 have few:=ZMo (r:=r) (tn:=tn) (lo:=lo) (fa:=fa) (le:=le) (co:=co) hr.o n2 w (λ k hk=>⟨hdo.ple.pr.lo k hk,by have:=hdo.ple.pr.hi k hk; rw [w.len] at this; exact this⟩) (λ k hk=>⟨hdo.pco.pr.lo k hk,by have:=hdo.pco.pr.hi k hk; rw [w.len] at this; exact this⟩)
 refine ZG0 ?_
 and_intros
 refine ZO3 hr w n2 n8 hck (by omega) ?_
 and_intros
 refine ZOn hr w n2 n8 hck htn hdo ?_
 and_intros
 refine bT ?_
 and_intros
 refine bT ?_
 and_intros
 rw [Zn,decide_eq_true rfl]
 refine bT ?_
 and_intros
 rw [List.length_map,decide_eq_true few]
 exact q
theorem ZOL {r:Ru} {ts:List (Int × Int)}:∀ {ds:List Do4} {s:Sx},0<=s.1->0<=(ZDI r ts s ds).1
 | [],s,h=>h
 | d :: ds,s,h=>by
  refine ZOL (ds:=ds) (s:=nxS r ts s d) ?_
  show 0<=s.1+1
  omega
theorem hv_hl {r:Ru} {n i:Nat} {h:Hs} (v:HV r n i h):HL n h:=⟨by have:=v.up; omega,v.bl,v.tl,v.ml⟩
theorem ZSB {ns:List Int} (hns:ns.length<=63):∃ g',ZGu [.inp ns] []=some (.dat (.bool true),g'):=by
 suffices h:EvP (ZGu [.inp ns] []) λ x _=>x=.dat (.bool true) by
  obtain ⟨x,g',e,rfl⟩:=h
  exact ⟨g',e⟩
 refine ZQ4 ?_
 and_intros
 refine ZAw (j:=0) (g1:=[]) ?_
 and_intros
 have hm : 0<=(1:Int)+(ZCA (ns.map PyData.int) none (some 6)).length/\(1:Int)+(ZCA (ns.map PyData.int) none (some 6)).length<=64:=by
  have:=ZIm (ds:=ns.map PyData.int) none (some 6)
  rw [List.length_map] at this
  omega
 generalize (1:Int)+(ZCA (ns.map PyData.int) none (some 6)).length=len at *
 refine ⟨by omega,?_⟩
 refine ZBu (λ n sd gx=>∃ z1 z2 z3 z4 z5 z6 z7 z8 z9 z10 z11 z12,sd=[some (.inp ns),z1,z2,z3,z4,z5,z6,z7,z8,z9,z10,z11,z12]) ⟨_,_,_,_,_,_,_,_,_,_,_,_,rfl⟩ ?_ ?_
 ·rintro n x sd g0 hx ⟨z1,z2,z3,z4,z5,z6,z7,z8,z9,z10,z11,z12,rfl⟩
  have hn:n < 64:=by
   have:=(List.getElem?_eq_some_iff.mp hx).1
   rw [ZAq] at this
   omega
  rw [ZCv,List.getElem?_map] at hx
  obtain ⟨k,hk,rfl⟩:=mp hx
  obtain ⟨hk1,hk2⟩:=List.getElem?_eq_some_iff.mp hk
  rw [List.getElem_range] at hk2
  subst hk2
  refine ⟨_,rfl,?_⟩
  and_intros
  generalize hb:List.length g0=b
  refine ZSA (by omega) λ g1 hl1 hg1 B1=>?_
  rw [hb] at B1
  rw [hb]
  and_intros
  refine ZOC B1 λ r g2 hr hcs _ D2=>?_
  and_intros
  refine ZOw D2.bx (by decide) λ ts g3 ht2 ht8 htc D3=>?_
  have t:TnOk r ts:=⟨hcs,hr,ht2,by omega,htc⟩
  have n8:=t.n8
  and_intros
  refine ZNM ht2 t.n8 ?_
  and_intros
  refine Zj D3.bx (by decide) (by decide) λ d4 g4 l4 u4 D4=>?_
  and_intros
  have main:∀ (s:Sx) (g5:G) (z1:Option W),0<=s.1->HsL ts.length s.2->Bx g5 b->EvS ((ZP (Zi 6 (ZD 5)) (ZP (ZAO (.tp (.cons (.nm 7) (.cons (.nm 8) .nil))) (dF Zw (ZC (dF Zw ZL) (ZC (dF Zw ZL) ZL)))) (ZP (ZCK (.nm 9) (ZAV (ZC (dOp Zs (dC (.int 1)) (dF ZN (ZC (ZD 2) (ZC (dC (.int 10)) ZL)))) ZL)) (ZP (Zi 10 (dF ZAP (ZC (ZD 2) (ZC (ZD 6) (ZC (dOp ZBL (dF ZN (ZC (ZD 2) (ZC (dC (.int 3)) ZL))) (dC (.int 0))) ZL))))) (ZP (Z5 (dB (dOp ZBL (dF ZN (ZC (ZD 2) (ZC (dC (.int 4)) ZL))) (dC (.int 0)))) (Zi 10 (dOp Zs (dF Zw (ZC (ZGO (dC (.int 120))) ZL)) (dSl (ZD 10) (ZDZ (dC (.int 1))) ZBe))) dNx) (ZP (ZAO (.tp (.cons (.nm 11) (.cons (.nm 12) .nil))) (dF ZAX (ZC (ZD 3) (ZC (ZD 4) (ZC (ZD 6) (ZC (ZD 10) ZL)))))) (ZP (Z5 (ZE6 (dB (dF ZAM (ZC (ZD 3) (ZC (ZD 4) (ZC (ZD 6) (ZC (ZD 10) (ZC (ZD 12) ZL)))))))) (Za (dC (.bool false))) dNx) (ZP (Zi 7 (dOp Zs (ZD 7) (dF Zw (ZC (ZD 10) ZL)))) (ZP (Zi 8 (dOp Zs (ZD 8) (dF Zw (ZC (ZD 12) ZL)))) (Zi 6 (ZD 11))))))))) (Z5 (dB (dOp ZEH (dF ZB2 (ZC (ZD 3) (ZC (ZD 4) (ZC (ZD 5) (ZC (ZD 7) ZL))))) (dF Zw (ZC (ZD 6) (ZC (ZD 8) ZL))))) (Za (dC (.bool false))) dNx)))) [some (.inp ns),z1,some (.ref b),some (.dat (ruD r)),some (.dat (Zr ts)),some (.dat (stX s)),z6,z7,z8,z9,z10,z11,z12] g5) (ZLJ none (ZBn len.toNat 0) (λ sd gx=>∃ z1 z2 z3 z4 z5 z6 z7 z8 z9 z10 z11 z12,sd=[some (.inp ns),z1,z2,z3,z4,z5,z6,z7,z8,z9,z10,z11,z12]) (seqP (Za (dC (.bool true))) (runP λ x _=>x=.dat (.bool true)))):=by
   intro s g5 z1 hs0 w B5
   and_intros
   refine ZAw (j:=0) (g1:=[]) ?_
   and_intros
   refine Zj B5 (by decide) (by decide) λ d6 g6 l6 u6 D6=>?_
   and_intros
   refine ⟨by omega,?_⟩
   refine ZBu (λ i sd gx=>Bx gx b/\∃ (ds:List Do4) (z9 z10 z11 z12:Option W),ds.length=i/\ZDc r ts s ds/\sd=[some (.inp ns),z1,some (.ref b),some (.dat (ruD r)),some (.dat (Zr ts)),some (.dat (stX s)),some (.dat (stX (ZDI r ts s ds))),some (.dat (.tuple (ds.map doX))),some (.dat (.tuple ((ZDi r ts s ds).map ZFm))),z9,z10,z11,z12]) ⟨D6.bx,[],_,_,_,_,rfl,trivial,rfl⟩ ?_ ?_
   ·rintro i x sd gx hx ⟨Bx1,ds,z9,z10,z11,z12,rfl,ho,rfl⟩
    have hi:ds.length < 11:=by
     have:=(List.getElem?_eq_some_iff.mp hx).1
     rw [ZAq] at this
     omega
    have wl:=ZM8 t w ho
    have w0:=ZOL (r:=r) (ts:=ts) (ds:=ds) hs0
    refine ⟨_,by rw [Zx],?_⟩
    and_intros
    refine Zj Bx1 (by decide) (by decide) λ d7 g7 l7 u7 D7=>?_
    and_intros
    refine ZLx (tn:=(ZDI r ts s ds).1) D7.bx (by rw [wl.1.len]; omega) λ lo fa le co g8 hdo D8=>?_
    and_intros
    refine Zj D8.bx (by decide) (by decide) λ d9 g9 l9 u9 D9=>?_
    and_intros
    have go:∀ (PP:Out->Prop) (d:Do4) (z9 z11 z12:Option W),DoOk (ZDI r ts s ds).2 d.1 d.2.1 d.2.2.1 d.2.2.2->EvS ((ZP (ZAO (.tp (.cons (.nm 11) (.cons (.nm 12) .nil))) (dF ZAX (ZC (ZD 3) (ZC (ZD 4) (ZC (ZD 6) (ZC (ZD 10) ZL)))))) (ZP (Z5 (ZE6 (dB (dF ZAM (ZC (ZD 3) (ZC (ZD 4) (ZC (ZD 6) (ZC (ZD 10) (ZC (ZD 12) ZL)))))))) (Za (dC (.bool false))) dNx) (ZP (Zi 7 (dOp Zs (ZD 7) (dF Zw (ZC (ZD 10) ZL)))) (ZP (Zi 8 (dOp Zs (ZD 8) (dF Zw (ZC (ZD 12) ZL)))) (Zi 6 (ZD 11)))))) [some (.inp ns),z1,some (.ref b),some (.dat (ruD r)),some (.dat (Zr ts)),some (.dat (stX s)),some (.dat (stX (ZDI r ts s ds))),some (.dat (.tuple (ds.map doX))),some (.dat (.tuple ((ZDi r ts s ds).map ZFm))),z9,some (.dat (doX d)),z11,z12] g9) (ZLJ none (ZBn (1+d6).toNat 0) (λ sd gx=>Bx gx b/\∃ (dt:List Do4) (z9 z10 z11 z12:Option W),dt.length=ds.length+1/\ZDc r ts s dt/\sd=[some (.inp ns),z1,some (.ref b),some (.dat (ruD r)),some (.dat (Zr ts)),some (.dat (stX s)),some (.dat (stX (ZDI r ts s dt))),some (.dat (.tuple (dt.map doX))),some (.dat (.tuple ((ZDi r ts s dt).map ZFm))),z9,z10,z11,z12]) PP):=by
     intro PP d z9 z11 z12 hd
     and_intros
     refine ZIo (d:=d) t wl.1 hd λ g10 E10=>?_
     and_intros
     refine ZJp hr wl.1 ht2 n8 htc w0 hd ?_
     and_intros
     refine bF ?_
     and_intros
     refine ZCz (by rw [List.length_map]; show _+1<=1000; omega) ?_
     and_intros
     refine ZCz (by rw [List.length_map,ZEt]; show _+1<=1000; omega) ?_
     and_intros
     refine ⟨trivial,(D9.ex E10).bx,ds ++ [d],z9,some (.dat (doX d)),some (.dat (stX (nxS r ts (ZDI r ts s ds) d))),some (.dat (ZFm (nxR r ts (ZDI r ts s ds) d).le)),by rw [List.length_append]; rfl,ho.snoc hd,?_⟩
     rw [ZJw,ZGb,List.map_append,List.map_append]
     rfl
    refine ⟨λ _=>?_,λ _=>?_⟩
    ·and_intros
     refine ⟨by decide,?_⟩
     and_intros
     rw [ZCv,show (List.range (Int.toNat 120)).map (λ k:Nat=>PyData.int (k:Int))=((List.range 120).map λ j:Nat=>(j:Int)).map PyData.int by rw [List.map_map]; rfl]
     have hd:DoOk (ZDI r ts s ds).2 ((List.range 120).map λ j:Nat=>(j:Int)) fa le co:=⟨RisN.rng 120,hdo.pfa,hdo.ple,hdo.pco,hdo.pap⟩
     refine ZIo (d:=((List.range 120).map λ j:Nat=>(j:Int),fa,le,co)) t wl.1 hd λ g10 E10=>?_
     and_intros
     refine ZJp hr wl.1 ht2 n8 htc w0 hd ?_
     and_intros
     refine bF ?_
     and_intros
     refine ZCz (by rw [List.length_map]; show _+1<=1000; omega) ?_
     and_intros
     refine ZCz (by rw [List.length_map,ZEt]; show _+1<=1000; omega) ?_
     and_intros
     refine ⟨trivial,(D9.ex E10).bx,ds ++ [((List.range 120).map λ j:Nat=>(j:Int),fa,le,co)],some (.dat x),some (.dat (doX ((List.range 120).map λ j:Nat=>(j:Int),fa,le,co))),some (.dat (stX (nxS r ts (ZDI r ts s ds) ((List.range 120).map λ j:Nat=>(j:Int),fa,le,co)))),some (.dat (ZFm (nxR r ts (ZDI r ts s ds) ((List.range 120).map λ j:Nat=>(j:Int),fa,le,co)).le)),by rw [List.length_append]; rfl,ho.snoc hd,?_⟩
     rw [ZJw,ZGb,List.map_append,List.map_append]
     rfl
    ·exact ZO1 (.nx (go _ (lo,fa,le,co) _ _ _ hdo))
   ·rintro sd gx ⟨Bx1,ds,z9,z10,z11,z12,hdl,ho,rfl⟩
    rw [ZAq] at hdl
    have wl:=ZM8 t w ho
    and_intros
    refine ZLz t w ho (by omega) λ g7 E7=>?_
    and_intros
    refine ZRN (ZNZ (n:=0) wl.1 n8 (by rw [ZEt]; omega) wl.2) (by decide) ?_
    and_intros
    refine bF ?_
    and_intros
    exact ⟨trivial,_,_,_,_,_,_,_,_,_,_,_,_,rfl⟩
  refine ⟨λ _=>?_,λ _=>?_⟩
  ·and_intros
   refine ZMn D4.bx hr ⟨ht2,t.n8⟩ λ tn hs g5 hhl htn0 htn hhv D5=>?_
   refine .nx ?_
   exact main (tn,hs) g5 _ htn0 ⟨hhl,λ h hh=>by
    obtain ⟨i,hi,e⟩:=List.mem_iff_getElem.mp hh
    exact hv_hl (hhv i h (by rw [List.getElem?_eq_getElem hi,e]))⟩ D5.bx
  ·exact ZO1 (.nx (main (0,List.replicate ts.length (ZGI r.t ts.length)) g4 _ (Int.le_refl 0) ZPG D4.bx))
 ·rintro sd gx ⟨z1,z2,z3,z4,z5,z6,z7,z8,z9,z10,z11,z12,rfl⟩
  and_intros
  rfl
section
variable {P:Program} {w:World} {K:PySem.W.Frag} {mg:Str->Option Value} {base:Heap} {A:Adr}
theorem ZKG:FnScope ["thing"] ["thing"] (ZM (top 1)):=⟨rfl,rfl,rfl,by decide +kernel,rfl,by decide +kernel,by decide +kernel⟩
theorem ZIz (T:Txt K mg A):FnOk P w K mg base CX0 1 A.f_is_whole A.fd_is_whole ["thing"] (spD K 1 ZBP):=by
 exact ZX (d:=ZEh) (r:=ZBP) (n:=1) (by unfold ZBP; rfl) rfl rfl T.D_is_whole.fn ZKG λ cdv A outer s H E hr=>(
(ZI (ZR (ZA2 (ZT ZLm rfl T.z_isinstance boot_isinstance (ZA (ZB 0) (ZA (ZFI (n:="int") rfl T.z_int boot_int) ZE))) (ZBN (ZLK (ZT ZLm rfl T.z_isinstance boot_isinstance (ZA (ZB 0) (ZA (ZFI (n:="bool") rfl T.z_bool boot_bool) ZE)))))))))
theorem ZKp:FnScope ["thing"] ["thing"] (ZM (top 2)):=⟨rfl,rfl,rfl,by decide +kernel,rfl,by decide +kernel,by decide +kernel⟩
theorem ZIO (T:Txt K mg A):FnOk P w K mg base CX0 2 A.f_is_count A.fd_is_count ["thing"] (spD K 1 ZBR):=by
 have Gis_whole:=ZIz (P:=P) (w:=w) (base:=base) T
 exact ZX (d:=ZEV) (r:=ZBR) (n:=1) (by unfold ZBR; rfl) rfl rfl T.D_is_count.fn ZKp λ cdv A outer s H E hr=>(
(ZI (ZR (ZA2 (ZJ T.D_is_whole Gis_whole (hr.mono (by decide)) (ZA (ZB 0) ZE) (.cons .nil)) (ZBN (Zy (oGe hr.units) (ZB 0) ZG (ZZ _)))))))
theorem ZHL:FnScope ["thing","length"] ["thing","length"] (ZM (top 3)):=⟨rfl,rfl,rfl,by decide +kernel,rfl,by decide +kernel,by decide +kernel⟩
theorem ZFz (T:Txt K mg A):FnOk P w K mg base CX0 1 A.f_is_tuple_of A.fd_is_tuple_of ["thing","length"] (spD K 2 ZAe):=by
 exact ZX (d:=ZCx) (r:=ZAe) (n:=2) (by unfold ZAe; rfl) rfl rfl T.D_is_tuple_of.fn ZHL λ cdv A outer s H E hr=>(
(ZI (ZR (ZA2 (ZT ZLm rfl T.z_isinstance boot_isinstance (ZA (ZB 0) (ZA (ZFI (n:="tuple") rfl T.z_tuple boot_tuple) ZE))) (ZBN (Zy (oEq hr.units) (ZT ZCP rfl T.z_len boot_len (ZA (ZB 0) ZE)) (ZB 1) (ZZ _)))))))
theorem ZPb:FnScope ["things"] ["things"] (ZM (top 4)):=⟨rfl,rfl,rfl,by decide +kernel,rfl,by decide +kernel,by decide +kernel⟩
theorem ZMA (T:Txt K mg A):FnOk P w K mg base CX0 1 A.f_rises A.fd_rises ["things"] (spD K 1 ZDM):=by
 exact ZX (d:=ZIs) (r:=ZDM) (n:=1) (by unfold ZDM; rfl) rfl rfl T.D_rises.fn ZPb λ cdv A outer s H E hr=>(
(ZI (ZR (ZT (ZNb rfl) rfl T.z_all boot_all (ZA (Z6 (sc:=ZM (top 4)) (NX:=["things"]) (N:=["one","other"]) (own:=2) (cap:=[]) rfl (ZP2 rfl T.z_zip (ZA (ZB 0) (ZA (ZEZ (ZB 0) (ZCZ ZG) ZCW) ZE)) (hn:=(.cons (.cons .nil)))) rfl rfl (λ cl C s0 H0 fp=>⟨(Zd rfl (ZH (ZK (i:=0) (by show (["one","other"]:List Str).Nodup; decide +kernel) rfl (Or.inl rfl)) (ZH (ZK (i:=1) (by show (["one","other"]:List Str).Nodup; decide +kernel) rfl (Or.inl rfl)) ZW))),ZAz,(Zy (oLt hr.units) (ZB 0) (ZB 1) (ZZ _))⟩) (by decide +kernel) rfl) ZE)))))
theorem scput:FnScope ["things","place","thing"] ["things","place","thing"] (ZM (top 5)):=⟨rfl,rfl,rfl,by decide +kernel,rfl,by decide +kernel,by decide +kernel⟩
theorem ZDQ (T:Txt K mg A):FnOk P w K mg base CX0 1 A.f_put A.fd_put ["things","place","thing"] (spD K 3 ZAo):=by
 exact ZX (d:=ZMf) (r:=ZAo) (n:=3) (by unfold ZAo; rfl) rfl rfl T.D_put.fn scput λ cdv A outer s H E hr=>(
(ZI (ZR (ZQ ZAm (ZQ ZAm (ZEZ (ZB 0) ZCW (ZCZ (ZB 1))) (ZS (ZA (ZB 2) ZE))) (ZEZ (ZB 0) (ZCZ (ZQ ZAm (ZB 1) ZG)) ZCW)))))
theorem ZOm:FnScope ["one","other"] ["one","other"] (ZM (top 11)):=⟨rfl,rfl,rfl,by decide +kernel,rfl,by decide +kernel,by decide +kernel⟩
theorem ZHZ (T:Txt K mg A):FnOk P w K mg base CX0 1 A.f_newer A.fd_newer ["one","other"] (spD K 2 ZCm):=by
 exact ZX (d:=ZIc) (r:=ZCm) (n:=2) (by unfold ZCm; rfl) rfl rfl T.D_newer.fn ZOm λ cdv A outer s H E hr=>(
(ZI (ZR (Zy (oGt hr.units) (ZB 0) (ZB 1) (ZZ _)))))
theorem ZIh:FnScope ["town","house","turn","pace","start"] ["town","house","turn"] (ZM (top 13)):=⟨rfl,rfl,rfl,by decide +kernel,rfl,by decide +kernel,by decide +kernel⟩
theorem ZHT (T:Txt K mg A):FnOk P w K mg base CX0 1 A.f_ticks A.fd_ticks ["town","house","turn"] (spD K 3 ZCj):=by
 exact ZX (d:=ZIE) (r:=ZCj) (n:=5) (by unfold ZCj; rfl) rfl rfl T.D_ticks.fn ZIh λ cdv A outer s H E hr=>(
(ZF (Zg (ZU oIx (ZB 0) (ZB 1) (λ _ _=>rfl)) (Zd rfl (ZH (ZK (i:=3) ZIh.nd rfl (Or.inl rfl)) (ZH (ZK (i:=4) ZIh.nd rfl (Or.inl rfl)) ZW))))
(ZI (ZR (ZA2 (Zy (oGe hr.units) (ZB 2) (ZB 4) (ZZ _)) (ZBN (Zy (oEq hr.units) (ZQ ZFp (ZQ ZGp (ZB 2) (ZB 4)) (ZB 3)) ZG (ZZ _))))))))
theorem ZEg:FnScope ["town","house","turn","pace","start"] ["town","house","turn"] (ZM (top 14)):=⟨rfl,rfl,rfl,by decide +kernel,rfl,by decide +kernel,by decide +kernel⟩
theorem ZEv (T:Txt K mg A):FnOk P w K mg base CX0 1 A.f_ticks_by A.fd_ticks_by ["town","house","turn"] (spD K 3 ZBB):=by
 exact ZX (d:=ZEj) (r:=ZBB) (n:=5) (by unfold ZBB; rfl) rfl rfl T.D_ticks_by.fn ZEg λ cdv A outer s H E hr=>(
(ZF (Zg (ZU oIx (ZB 0) (ZB 1) (λ _ _=>rfl)) (Zd rfl (ZH (ZK (i:=3) ZEg.nd rfl (Or.inl rfl)) (ZH (ZK (i:=4) ZEg.nd rfl (Or.inl rfl)) ZW))))
(ZF (Zp (ZV (oLt hr.units) (ZB 2) (ZB 4) (ZZ _))
(ZI (ZR ZG))
Ze)
(ZI (ZR (ZQ ZAm (ZQ ZLO (ZQ ZGp (ZB 2) (ZB 4)) (ZB 3)) ZG))))))
theorem ZGV:FnScope ["town","house","turn","many","ahead"] ["town","house","turn"] (ZM (top 15)):=⟨rfl,rfl,rfl,by decide +kernel,rfl,by decide +kernel,by decide +kernel⟩
theorem ZGl (T:Txt K mg A):FnOk P w K mg base CX0 2 A.f_target A.fd_target ["town","house","turn"] (spD K 3 ZB6):=by
 have Gticks_by:=ZEv (P:=P) (w:=w) (base:=base) T
 exact ZX (d:=ZGx) (r:=ZB6) (n:=5) (by unfold ZB6; rfl) rfl rfl T.D_target.fn ZGV λ cdv A outer s H E hr=>(
(ZF (ZO (i:=3) ZGV.nd rfl (Or.inl rfl) (ZT ZCP rfl T.z_len boot_len (ZA (ZB 0) ZE)))
(ZF (ZO (i:=4) ZGV.nd rfl (Or.inl rfl) (ZQ ZGp (ZJ T.D_ticks_by Gticks_by (hr.mono (by decide)) (ZA (ZB 0) (ZA (ZB 1) (ZA (ZB 2) ZE))) (.cons (.cons (.cons .nil)))) ZG))
(ZI (ZR (ZQ ZFp (ZQ ZAm (ZQ ZAm (ZB 1) ZG) (ZQ ZFp (ZB 4) (ZQ ZGp (ZB 3) ZG))) (ZB 3)))))))
theorem ZCM:FnScope ["rules","town","turn","x","y","clauses","due","about"] ["rules","town","turn","x","y"] (ZM (top 18)):=⟨rfl,rfl,rfl,by decide +kernel,rfl,by decide +kernel,by decide +kernel⟩
theorem ZGo (T:Txt K mg A):FnOk P w K mg base CX0 2 A.f_due_houses A.fd_due_houses ["rules","town","turn","x","y"] (spD K 5 ZAt):=by
 have Gticks_by:=ZEv (P:=P) (w:=w) (base:=base) T
 exact ZX (d:=ZDV) (r:=ZAt) (n:=8) (by unfold ZAt; rfl) rfl rfl T.D_due_houses.fn ZCM λ cdv A outer s H E hr=>(
(ZF (ZO (i:=5) ZCM.nd rfl (Or.inl rfl) (ZU oIx (ZB 0) ZG (λ _ _=>rfl)))
(ZF (ZO (i:=6) ZCM.nd rfl (Or.inl rfl) (ZAy (ZA (ZB 4) ZE)))
(ZF (Zp (ZV (oIn hr.units) ZA1 (ZB 5) (by with_unfolding_all rfl))
(ZI (ZAa (ZBx (ZB 6) (ZB 3))))
Ze)
(ZF (ZO (i:=7) ZCM.nd rfl (Or.inl rfl) (ZQ ZFp (ZJ T.D_ticks_by Gticks_by (hr.mono (by decide)) (ZA (ZB 1) (ZA (ZB 3) (ZA (ZB 2) ZE))) (.cons (.cons (.cons .nil)))) (ZT ZCP rfl T.z_len boot_len (ZA (ZB 1) ZE))))
(ZF (Zp (JW.pt (ZAK (ZV (oIn hr.units) ZA1 (ZB 5) (by with_unfolding_all rfl)) (ZAb (ZV (oNe hr.units) (ZB 7) (ZB 3) (ZZ _)))))
(ZI (ZAa (ZBx (ZB 6) (ZB 7))))
Ze)
(ZI (ZR (ZB 6)))))))))
theorem ZAf:FnScope ["rules","told","x","due","others","wait","most","carry","clauses","fresh"] ["rules","told","x","due"] (ZM (top 19)):=⟨rfl,rfl,rfl,by decide +kernel,rfl,by decide +kernel,by decide +kernel⟩
theorem ZF0 (T:Txt K mg A):FnOk P w K mg base CX0 1 A.f_news_houses A.fd_news_houses ["rules","told","x","due"] (spD K 4 ZAg):=by
 exact ZX (d:=ZCw) (r:=ZAg) (n:=10) (by unfold ZAg; rfl) rfl rfl T.D_news_houses.fn ZAf λ cdv A outer s H E hr=>(
(ZF (Zg (ZB 0) (Zd rfl (ZH (ZK (i:=4) ZAf.nd rfl (Or.inl rfl)) (ZH (ZK (i:=5) ZAf.nd rfl (Or.inl rfl)) (ZH (ZK (i:=6) ZAf.nd rfl (Or.inr rfl)) (ZH (ZK (i:=7) ZAf.nd rfl (Or.inl rfl)) (ZH (ZK (i:=8) ZAf.nd rfl (Or.inl rfl)) ZW)))))))
(ZF (ZJK (i:=9) (sc:=ZM (top 19)) (NX:=["rules","told","x","due","others","wait","most","carry","clauses","fresh"]) (N:=["house","many","most","x","due"]) (own:=2) (cap:=[6,2,3]) ZAf.nd rfl (Or.inl rfl) rfl (ZCT rfl T.z_enumerate (ZA (ZB 1) ZE) (hn:=(.cons .nil))) rfl rfl (λ cl C s0 H0 fp=>⟨(Zd rfl (ZH (ZK (i:=0) (by show (["house","many","most","x","due"]:List Str).Nodup; decide +kernel) rfl (Or.inl rfl)) (ZH (ZK (i:=1) (by show (["house","many","most","x","due"]:List Str).Nodup; decide +kernel) rfl (Or.inl rfl)) ZW))),(ZB1 (JW.pt (ZAK (ZV (oLt hr.units) (ZB 1) (ZB 2) (ZZ _)) (ZAK (ZV (oNe hr.units) (ZB 0) (ZB 3) (ZZ _)) (ZAb (ZV (ZGC hr.units) (ZB 0) (ZB 4) (by with_unfolding_all rfl))))))),(ZS (ZA (ZB 1) (ZA (ZB 0) ZE)))⟩) (by decide +kernel) rfl)
(ZI (ZR (Z6 (sc:=ZM (top 19)) (NX:=["rules","told","x","due","others","wait","most","carry","clauses","fresh"]) (N:=["many","house"]) (own:=2) (cap:=[]) rfl (ZAT (ZEZ (ZT cSrt rfl T.z_sorted boot_sorted (ZA (ZB 9) ZE)) ZCW (ZCZ (ZB 7)))) rfl rfl (λ cl C s0 H0 fp=>⟨(Zd rfl (ZH (ZK (i:=0) (by show (["many","house"]:List Str).Nodup; decide +kernel) rfl (Or.inl rfl)) (ZH (ZK (i:=1) (by show (["many","house"]:List Str).Nodup; decide +kernel) rfl (Or.inl rfl)) ZW))),ZAz,(ZB 1)⟩) (by decide +kernel) rfl))))))
theorem ZAJ:FnScope ["rules","town","state","x","y","turn","houses","up","book","told","timers","due","news","notes","house"] ["rules","town","state","x","y"] (ZM (top 17)):=⟨rfl,rfl,rfl,by decide +kernel,rfl,by decide +kernel,by decide +kernel⟩
theorem ZIb (T:Txt K mg A):FnOk P w K mg base CX0 3 A.f_notes_of A.fd_notes_of ["rules","town","state","x","y"] (spD K 5 ZBV):=by
 have Gdue_houses:=ZGo (P:=P) (w:=w) (base:=base) T
 have Gnews_houses:=ZF0 (P:=P) (w:=w) (base:=base) T
 have Gput:=ZDQ (P:=P) (w:=w) (base:=base) T
 exact ZX (d:=ZEi) (r:=ZBV) (n:=15) (by unfold ZBV; rfl) rfl rfl T.D_notes_of.fn ZAJ λ cdv A outer s H E hr=>(
(ZF (Zg (ZB 2) (Zd rfl (ZH (ZK (i:=5) ZAJ.nd rfl (Or.inl rfl)) (ZH (ZK (i:=6) ZAJ.nd rfl (Or.inl rfl)) ZW))))
(ZF (Zg (ZU oIx (ZB 6) (ZB 3) (λ _ _=>rfl)) (Zd rfl (ZH (ZK (i:=7) ZAJ.nd rfl (Or.inl rfl)) (ZH (ZK (i:=8) ZAJ.nd rfl (Or.inl rfl)) (ZH (ZK (i:=9) ZAJ.nd rfl (Or.inl rfl)) (ZH (ZK (i:=10) ZAJ.nd rfl (Or.inl rfl)) ZW))))))
(ZF (ZO (i:=11) ZAJ.nd rfl (Or.inr rfl) (ZJ T.D_due_houses Gdue_houses (hr.mono (by decide)) (ZA (ZB 0) (ZA (ZB 1) (ZA (ZB 5) (ZA (ZB 3) (ZA (ZB 4) ZE))))) (.cons (.cons (.cons (.cons (.cons .nil)))))))
(ZF (ZO (i:=12) ZAJ.nd rfl (Or.inr rfl) (ZJ T.D_news_houses Gnews_houses (hr.mono (by decide)) (ZA (ZB 0) (ZA (ZB 9) (ZA (ZB 3) (ZA (ZB 11) ZE)))) (.cons (.cons (.cons (.cons .nil))))))
(ZF (ZO (i:=13) ZAJ.nd rfl (Or.inl rfl) (Zo ZEk rfl T.z_tuple boot_tuple (ZA (Z6 (sc:=ZM (top 17)) (NX:=["rules","town","state","x","y","turn","houses","up","book","told","timers","due","news","notes","house"]) (N:=["house","word","due","news"]) (own:=2) (cap:=[11,12]) rfl (ZCT rfl T.z_enumerate (ZA (ZB 8) ZE) (hn:=(.cons .nil))) rfl rfl (λ cl C s0 H0 fp=>⟨(Zd rfl (ZH (ZK (i:=0) (by show (["house","word","due","news"]:List Str).Nodup; decide +kernel) rfl (Or.inl rfl)) (ZH (ZK (i:=1) (by show (["house","word","due","news"]:List Str).Nodup; decide +kernel) rfl (Or.inl rfl)) ZW))),(ZB1 (JW.pt (ZFD (ZV (oIn hr.units) (ZB 0) (ZB 2) (by with_unfolding_all rfl)) (ZEB (ZV (oIn hr.units) (ZB 0) (ZB 3) (by with_unfolding_all rfl)))))),(ZS (ZA (ZB 0) (ZA (ZB 1) ZE)))⟩) (by decide +kernel) rfl) ZE)))
(ZF (ZAN PassesOwn.never rfl (ZAT (ZB 12)) (ZK (i:=14) ZAJ.nd rfl (Or.inl rfl))
(ZI (ZO (i:=9) ZAJ.nd rfl (Or.inl rfl) (ZJ T.D_put Gput (hr.mono (by decide)) (ZA (ZB 9) (ZA (ZB 14) (ZA (ZQ ZAm (ZU oIx (ZB 9) (ZB 14) (λ _ _=>rfl)) ZG) ZE))) (.cons (.cons (.cons .nil)))))))
(ZI (ZR (ZS (ZA (ZB 13) (ZA (ZB 9) ZE))))))))))))
theorem ZBo:FnScope ["rules","house","y","word","up","book","told","timers","number","mark"] ["rules","house","y","word"] (ZM (top 21)):=⟨rfl,rfl,rfl,by decide +kernel,rfl,by decide +kernel,by decide +kernel⟩
theorem ZJM (T:Txt K mg A):FnOk P w K mg base CX0 2 A.f_refuted A.fd_refuted ["rules","house","y","word"] (spD K 4 ZBX):=by
 have Gnewer:=ZHZ (P:=P) (w:=w) (base:=base) T
 have Gput:=ZDQ (P:=P) (w:=w) (base:=base) T
 exact ZX (d:=ZFR) (r:=ZBX) (n:=10) (by unfold ZBX; rfl) rfl rfl T.D_refuted.fn ZBo λ cdv A outer s H E hr=>(
(ZF (Zg (ZB 1) (Zd rfl (ZH (ZK (i:=4) ZBo.nd rfl (Or.inl rfl)) (ZH (ZK (i:=5) ZBo.nd rfl (Or.inl rfl)) (ZH (ZK (i:=6) ZBo.nd rfl (Or.inl rfl)) (ZH (ZK (i:=7) ZBo.nd rfl (Or.inl rfl)) ZW))))))
(ZF (Zp (JW.pt (ZAK (ZV (oEq hr.units) (ZB 4) ZG (ZZ _)) (ZAK (ZV (oIn hr.units) ZA1 (ZU oIx (ZB 0) ZG (λ _ _=>rfl)) (by with_unfolding_all rfl)) (ZAb (ZAH (ZJ T.D_newer Gnewer (hr.mono (by decide)) (ZA (ZB 3) (ZA (ZU oIx (ZB 5) (ZB 2) (λ _ _=>rfl)) ZE)) (.cons (.cons .nil))))))))
(ZF (Zg (ZB 3) (Zd rfl (ZH (ZK (i:=8) ZBo.nd rfl (Or.inl rfl)) (ZH (ZK (i:=9) ZBo.nd rfl (Or.inl rfl)) ZW))))
(ZI (ZR (ZS (ZA (ZB 4) (ZA (ZJ T.D_put Gput (hr.mono (by decide)) (ZA (ZB 5) (ZA (ZB 2) (ZA (ZS (ZA (ZQ ZAm (ZB 8) ZG) (ZA (ZAW rfl T.g_ALIVE) ZE))) ZE))) (.cons (.cons (.cons .nil)))) (ZA (ZJ T.D_put Gput (hr.mono (by decide)) (ZA (ZB 6) (ZA (ZB 2) (ZA ZG ZE))) (.cons (.cons (.cons .nil)))) (ZA (ZB 7) ZE))))))))
Ze)
(ZI (ZR (ZB 1))))))
theorem ZJs:FnScope ["rules","old","word"] ["rules","old","word"] (ZM (top 23)):=⟨rfl,rfl,rfl,by decide +kernel,rfl,by decide +kernel,by decide +kernel⟩
theorem ZHG (T:Txt K mg A):FnOk P w K mg base CX0 2 A.f_gives_way A.fd_gives_way ["rules","old","word"] (spD K 3 ZBE):=by
 have Gnewer:=ZHZ (P:=P) (w:=w) (base:=base) T
 exact ZX (d:=ZDj) (r:=ZBE) (n:=3) (by unfold ZBE; rfl) rfl rfl T.D_gives_way.fn ZJs λ cdv A outer s H E hr=>(
(ZF (Zp (ZV (oIn hr.units) ZA1 (ZU oIx (ZB 0) ZG (λ _ _=>rfl)) (by with_unfolding_all rfl))
(ZI (ZR (ZJ T.D_newer Gnewer (hr.mono (by decide)) (ZA (ZB 2) (ZA (ZB 1) ZE)) (.cons (.cons .nil)))))
Ze)
(ZI (ZR (Zy (oNe hr.units) (ZB 2) (ZB 1) (ZZ _))))))
theorem ZCk:FnScope ["rules","house","about","word","up","book","told","timers","number","mark"] ["rules","house","about","word"] (ZM (top 22)):=⟨rfl,rfl,rfl,by decide +kernel,rfl,by decide +kernel,by decide +kernel⟩
theorem ZL6 (T:Txt K mg A):FnOk P w K mg base CX0 3 A.f_noted A.fd_noted ["rules","house","about","word"] (spD K 4 ZCi):=by
 have Ggives_way:=ZHG (P:=P) (w:=w) (base:=base) T
 have Gput:=ZDQ (P:=P) (w:=w) (base:=base) T
 exact ZX (d:=ZIj) (r:=ZCi) (n:=10) (by unfold ZCi; rfl) rfl rfl T.D_noted.fn ZCk λ cdv A outer s H E hr=>(
(ZF (Zg (ZB 1) (Zd rfl (ZH (ZK (i:=4) ZCk.nd rfl (Or.inl rfl)) (ZH (ZK (i:=5) ZCk.nd rfl (Or.inl rfl)) (ZH (ZK (i:=6) ZCk.nd rfl (Or.inl rfl)) (ZH (ZK (i:=7) ZCk.nd rfl (Or.inl rfl)) ZW))))))
(ZF (Zp (ZEE (ZAH (ZJ T.D_gives_way Ggives_way (hr.mono (by decide)) (ZA (ZB 0) (ZA (ZU oIx (ZB 5) (ZB 2) (λ _ _=>rfl)) (ZA (ZB 3) ZE))) (.cons (.cons (.cons .nil))))))
(ZI (ZR (ZB 1)))
Ze)
(ZF (Zg (ZB 3) (Zd rfl (ZH (ZK (i:=8) ZCk.nd rfl (Or.inl rfl)) (ZH (ZK (i:=9) ZCk.nd rfl (Or.inl rfl)) ZW))))
(ZF (Zp (ZV (oNe hr.units) (ZB 9) (ZAW rfl T.g_SUSPECT) (ZZ _))
(ZI (ZO (i:=7) ZCk.nd rfl (Or.inl rfl) (ZJ T.D_put Gput (hr.mono (by decide)) (ZA (ZB 7) (ZA (ZB 2) (ZA ZG ZE))) (.cons (.cons (.cons .nil))))))
Ze)
(ZI (ZR (ZS (ZA (ZB 4) (ZA (ZJ T.D_put Gput (hr.mono (by decide)) (ZA (ZB 5) (ZA (ZB 2) (ZA (ZB 3) ZE))) (.cons (.cons (.cons .nil)))) (ZA (ZJ T.D_put Gput (hr.mono (by decide)) (ZA (ZB 6) (ZA (ZB 2) (ZA ZG ZE))) (.cons (.cons (.cons .nil)))) (ZA (ZB 7) ZE))))))))))))
theorem ZEz:FnScope ["rules","house","y","notes","about","word"] ["rules","house","y","notes"] (ZM (top 20)):=⟨rfl,rfl,rfl,by decide +kernel,rfl,by decide +kernel,by decide +kernel⟩
theorem ZMO (T:Txt K mg A):FnOk P w K mg base CX0 4 A.f_taken A.fd_taken ["rules","house","y","notes"] (spD K 4 ZDK):=by
 have Grefuted:=ZJM (P:=P) (w:=w) (base:=base) T
 have Gnoted:=ZL6 (P:=P) (w:=w) (base:=base) T
 exact ZX (d:=ZIQ) (r:=ZDK) (n:=6) (by unfold ZDK; rfl) rfl rfl T.D_taken.fn ZEz λ cdv A outer s H E hr=>(
(ZF (ZAN PassesOwn.never rfl (ZAT (ZB 3)) (Zd rfl (ZH (ZK (i:=4) ZEz.nd rfl (Or.inl rfl)) (ZH (ZK (i:=5) ZEz.nd rfl (Or.inl rfl)) ZW)))
(ZI (Zp (ZV (oEq hr.units) (ZB 4) (ZB 2) (ZZ _))
(ZI (ZO (i:=1) ZEz.nd rfl (Or.inl rfl) (ZJ T.D_refuted Grefuted (hr.mono (by decide)) (ZA (ZB 0) (ZA (ZB 1) (ZA (ZB 2) (ZA (ZB 5) ZE)))) (.cons (.cons (.cons (.cons .nil)))))))
(ZI (ZO (i:=1) ZEz.nd rfl (Or.inl rfl) (ZJ T.D_noted Gnoted (hr.mono (by decide)) (ZA (ZB 0) (ZA (ZB 1) (ZA (ZB 4) (ZA (ZB 5) ZE)))) (.cons (.cons (.cons (.cons .nil))))))))))
(ZI (ZR (ZB 1)))))
theorem ZDP:FnScope ["state","at","house","turn","houses"] ["state","at","house"] (ZM (top 26)):=⟨rfl,rfl,rfl,by decide +kernel,rfl,by decide +kernel,by decide +kernel⟩
theorem ZCV (T:Txt K mg A):FnOk P w K mg base CX0 2 A.f_with_house A.fd_with_house ["state","at","house"] (spD K 3 Z1):=by
 have Gput:=ZDQ (P:=P) (w:=w) (base:=base) T
 exact ZX (d:=ZDH) (r:=Z1) (n:=5) (by unfold Z1; rfl) rfl rfl T.D_with_house.fn ZDP λ cdv A outer s H E hr=>(
(ZF (Zg (ZB 0) (Zd rfl (ZH (ZK (i:=3) ZDP.nd rfl (Or.inl rfl)) (ZH (ZK (i:=4) ZDP.nd rfl (Or.inl rfl)) ZW))))
(ZI (ZR (ZS (ZA (ZB 3) (ZA (ZJ T.D_put Gput (hr.mono (by decide)) (ZA (ZB 4) (ZA (ZB 1) (ZA (ZB 2) ZE))) (.cons (.cons (.cons .nil)))) ZE)))))))
theorem ZBI:FnScope ["rules","town","state","x","y","turn","houses","notes","told","up","book","old","timers","missed"] ["rules","town","state","x","y"] (ZM (top 25)):=⟨rfl,rfl,rfl,by decide +kernel,rfl,by decide +kernel,by decide +kernel⟩
theorem ZKQ (T:Txt K mg A):FnOk P w K mg base CX0 5 A.f_posted A.fd_posted ["rules","town","state","x","y"] (spD K 5 ZCa):=by
 have Gnotes_of:=ZIb (P:=P) (w:=w) (base:=base) T
 have Gput:=ZDQ (P:=P) (w:=w) (base:=base) T
 have Gwith_house:=ZCV (P:=P) (w:=w) (base:=base) T
 have Gtaken:=ZMO (P:=P) (w:=w) (base:=base) T
 exact ZX (d:=ZGW) (r:=ZCa) (n:=14) (by unfold ZCa; rfl) rfl rfl T.D_posted.fn ZBI λ cdv A outer s H E hr=>(
(ZF (Zg (ZB 2) (Zd rfl (ZH (ZK (i:=5) ZBI.nd rfl (Or.inl rfl)) (ZH (ZK (i:=6) ZBI.nd rfl (Or.inl rfl)) ZW))))
(ZF (Zg (ZJ T.D_notes_of Gnotes_of (hr.mono (by decide)) (ZA (ZB 0) (ZA (ZB 1) (ZA (ZB 2) (ZA (ZB 3) (ZA (ZB 4) ZE))))) (.cons (.cons (.cons (.cons (.cons .nil)))))) (Zd rfl (ZH (ZK (i:=7) ZBI.nd rfl (Or.inl rfl)) (ZH (ZK (i:=8) ZBI.nd rfl (Or.inl rfl)) ZW))))
(ZF (Zg (ZU oIx (ZB 6) (ZB 3) (λ _ _=>rfl)) (Zd rfl (ZH (ZK (i:=9) ZBI.nd rfl (Or.inl rfl)) (ZH (ZK (i:=10) ZBI.nd rfl (Or.inl rfl)) (ZH (ZK (i:=11) ZBI.nd rfl (Or.inl rfl)) (ZH (ZK (i:=12) ZBI.nd rfl (Or.inl rfl)) ZW))))))
(ZF (ZO (i:=13) ZBI.nd rfl (Or.inl rfl) (ZS (ZA (ZB 5) (ZA (ZJ T.D_put Gput (hr.mono (by decide)) (ZA (ZB 6) (ZA (ZB 3) (ZA (ZS (ZA (ZB 9) (ZA (ZB 10) (ZA (ZB 8) (ZA (ZB 12) ZE))))) ZE))) (.cons (.cons (.cons .nil)))) ZE))))
(ZF (Zp (ZV (oEq hr.units) (ZU oIx (ZU oIx (ZB 6) (ZB 4) (λ _ _=>rfl)) ZG (λ _ _=>rfl)) ZG (ZZ _))
(ZI (ZR (ZS (ZA (ZB 13) (ZA ZLQ ZE)))))
Ze)
(ZI (ZR (ZS (ZA (ZB 13) (ZA (ZJ T.D_with_house Gwith_house (hr.mono (by decide)) (ZA (ZB 13) (ZA (ZB 4) (ZA (ZJ T.D_taken Gtaken (hr.mono (by decide)) (ZA (ZB 0) (ZA (ZU oIx (ZB 6) (ZB 4) (λ _ _=>rfl)) (ZA (ZB 4) (ZA (ZB 7) ZE)))) (.cons (.cons (.cons (.cons .nil))))) ZE))) (.cons (.cons (.cons .nil)))) ZE)))))))))))
theorem ZEW:FnScope ["town","state","a","turn","houses"] ["town","state","a"] (ZM (top 27)):=⟨rfl,rfl,rfl,by decide +kernel,rfl,by decide +kernel,by decide +kernel⟩
theorem ZIx (T:Txt K mg A):FnOk P w K mg base CX0 2 A.f_asks_any A.fd_asks_any ["town","state","a"] (spD K 3 ZA5):=by
 have Gticks:=ZHT (P:=P) (w:=w) (base:=base) T
 exact ZX (d:=ZEa) (r:=ZA5) (n:=5) (by unfold ZA5; rfl) rfl rfl T.D_asks_any.fn ZEW λ cdv A outer s H E hr=>(
(ZF (Zg (ZB 1) (Zd rfl (ZH (ZK (i:=3) ZEW.nd rfl (Or.inl rfl)) (ZH (ZK (i:=4) ZEW.nd rfl (Or.inl rfl)) ZW))))
(ZI (ZR (ZA2 (Zy (oEq hr.units) (ZU oIx (ZU oIx (ZB 4) (ZB 2) (λ _ _=>rfl)) ZG (λ _ _=>rfl)) ZG (ZZ _)) (ZBN (ZJ T.D_ticks Gticks (hr.mono (by decide)) (ZA (ZB 0) (ZA (ZB 2) (ZA (ZB 3) ZE))) (.cons (.cons (.cons .nil))))))))))
theorem ZC8:FnScope ["town","turn","a","first"] ["town","turn","a"] (ZM (top 28)):=⟨rfl,rfl,rfl,by decide +kernel,rfl,by decide +kernel,by decide +kernel⟩
theorem ZEc (T:Txt K mg A):FnOk P w K mg base CX0 3 A.f_asked_in_order A.fd_asked_in_order ["town","turn","a"] (spD K 3 Z8):=by
 have Gtarget:=ZGl (P:=P) (w:=w) (base:=base) T
 exact ZX (d:=ZBr) (r:=Z8) (n:=4) (by unfold Z8; rfl) rfl rfl T.D_asked_in_order.fn ZC8 λ cdv A outer s H E hr=>(
(ZF (ZO (i:=3) ZC8.nd rfl (Or.inr rfl) (ZJ T.D_target Gtarget (hr.mono (by decide)) (ZA (ZB 0) (ZA (ZB 2) (ZA (ZB 1) ZE))) (.cons (.cons (.cons .nil)))))
(ZI (ZR (ZQ ZAm (ZBv (ZA (ZB 3) ZE)) (Z6 (sc:=ZM (top 28)) (NX:=["town","turn","a","first"]) (N:=["b","a","first"]) (own:=1) (cap:=[2,3]) rfl (ZAI rfl T.z_range (ZA (ZT ZCP rfl T.z_len boot_len (ZA (ZB 0) ZE)) ZE) (hn:=(.cons .nil))) rfl rfl (λ cl C s0 H0 fp=>⟨(ZK (i:=0) (by show (["b","a","first"]:List Str).Nodup; decide +kernel) rfl (Or.inl rfl)),(ZB1 (JW.pt (ZAK (ZV (oNe hr.units) (ZB 0) (ZB 1) (ZZ _)) (ZAb (ZV (oNe hr.units) (ZB 0) (ZB 2) (ZZ _)))))),(ZB 0)⟩) (by decide +kernel) rfl))))))
theorem ZEX:FnScope ["book","house","number","mark"] ["book","house"] (ZM (top 30)):=⟨rfl,rfl,rfl,by decide +kernel,rfl,by decide +kernel,by decide +kernel⟩
theorem ZDJ (T:Txt K mg A):FnOk P w K mg base CX0 1 A.f_is_about A.fd_is_about ["book","house"] (spD K 2 ZAs):=by
 exact ZX (d:=ZEn) (r:=ZAs) (n:=4) (by unfold ZAs; rfl) rfl rfl T.D_is_about.fn ZEX λ cdv A outer s H E hr=>(
(ZF (Zg (ZU oIx (ZB 0) (ZB 1) (λ _ _=>rfl)) (Zd rfl (ZH (ZK (i:=2) ZEX.nd rfl (Or.inl rfl)) (ZH (ZK (i:=3) ZEX.nd rfl (Or.inl rfl)) ZW))))
(ZI (ZR (Zy (oLt hr.units) (ZB 3) (ZAW rfl T.g_GONE) (ZZ _))))))
theorem ZBS:FnScope ["rules","town","state","a","b","turn","houses","up","book","told","timers"] ["rules","town","state","a","b"] (ZM (top 29)):=⟨rfl,rfl,rfl,by decide +kernel,rfl,by decide +kernel,by decide +kernel⟩
theorem ZIa (T:Txt K mg A):FnOk P w K mg base CX0 3 A.f_asks_now A.fd_asks_now ["rules","town","state","a","b"] (spD K 5 ZA6):=by
 have Gtarget:=ZGl (P:=P) (w:=w) (base:=base) T
 have Gis_about:=ZDJ (P:=P) (w:=w) (base:=base) T
 exact ZX (d:=ZEm) (r:=ZA6) (n:=11) (by unfold ZA6; rfl) rfl rfl T.D_asks_now.fn ZBS λ cdv A outer s H E hr=>(
(ZF (Zg (ZB 2) (Zd rfl (ZH (ZK (i:=5) ZBS.nd rfl (Or.inl rfl)) (ZH (ZK (i:=6) ZBS.nd rfl (Or.inl rfl)) ZW))))
(ZF (Zg (ZU oIx (ZB 6) (ZB 3) (λ _ _=>rfl)) (Zd rfl (ZH (ZK (i:=7) ZBS.nd rfl (Or.inl rfl)) (ZH (ZK (i:=8) ZBS.nd rfl (Or.inl rfl)) (ZH (ZK (i:=9) ZBS.nd rfl (Or.inl rfl)) (ZH (ZK (i:=10) ZBS.nd rfl (Or.inl rfl)) ZW))))))
(ZF (Zp (ZV (oEq hr.units) (ZB 4) (ZJ T.D_target Gtarget (hr.mono (by decide)) (ZA (ZB 1) (ZA (ZB 3) (ZA (ZB 5) ZE))) (.cons (.cons (.cons .nil)))) (ZZ _))
(ZI (ZR (ZNQ (Zy (oIn hr.units) ZA1 (ZU oIx (ZB 0) ZG (λ _ _=>rfl)) (by with_unfolding_all rfl)) (ZBN (ZJ T.D_is_about Gis_about (hr.mono (by decide)) (ZA (ZB 8) (ZA (ZB 4) ZE)) (.cons (.cons .nil)))))))
Ze)
(ZI (ZR (Zy (oGt hr.units) (ZU oIx (ZB 10) (ZB 4) (λ _ _=>rfl)) ZG (ZZ _))))))))
theorem ZFC:FnScope ["rules","book","a","b","many","behind"] ["rules","book","a","b"] (ZM (top 32)):=⟨rfl,rfl,rfl,by decide +kernel,rfl,by decide +kernel,by decide +kernel⟩
theorem ZJd (T:Txt K mg A):FnOk P w K mg base CX0 2 A.f_helpers A.fd_helpers ["rules","book","a","b"] (spD K 4 ZBs):=by
 have Gis_about:=ZDJ (P:=P) (w:=w) (base:=base) T
 exact ZX (d:=ZFP) (r:=ZBs) (n:=6) (by unfold ZBs; rfl) rfl rfl T.D_helpers.fn ZFC λ cdv A outer s H E hr=>(
(ZF (ZO (i:=4) ZFC.nd rfl (Or.inr rfl) (ZT ZCP rfl T.z_len boot_len (ZA (ZB 1) ZE)))
(ZF (ZJK (i:=5) (sc:=ZM (top 32)) (NX:=["rules","book","a","b","many","behind"]) (N:=["step","many","a"]) (own:=1) (cap:=[4,2]) ZFC.nd rfl (Or.inl rfl) rfl (ZKl rfl T.z_range (ZA ZG (ZA (ZB 4) ZE)) (hn:=(.cons (.cons .nil)))) rfl rfl (λ cl C s0 H0 fp=>⟨(ZK (i:=0) (by show (["step","many","a"]:List Str).Nodup; decide +kernel) rfl (Or.inl rfl)),ZAz,(ZQ ZFp (ZQ ZAm (ZB 2) (ZB 0)) (ZB 1))⟩) (by decide +kernel) rfl)
(ZI (ZR (ZEZ (Z6 (sc:=ZM (top 32)) (NX:=["rules","book","a","b","many","behind"]) (N:=["h","b","book"]) (own:=1) (cap:=[3,1]) rfl (ZAT (ZB 5)) rfl rfl (λ cl C s0 H0 fp=>⟨(ZK (i:=0) (by show (["h","b","book"]:List Str).Nodup; decide +kernel) rfl (Or.inl rfl)),(ZB1 (JW.pt (ZAK (ZV (oNe hr.units) (ZB 0) (ZB 1) (ZZ _)) (ZAb (ZAH (ZJ T.D_is_about Gis_about (hr.mono (by decide)) (ZA (ZB 2) (ZA (ZB 0) ZE)) (.cons (.cons .nil)))))))),(ZB 0)⟩) (by decide +kernel) rfl) ZCW (ZCZ (ZU oIx (ZB 0) ZG (λ _ _=>rfl)))))))))
theorem ZDB:FnScope ["rules","state","a","b","turn","houses","up","book","told","timers","found"] ["rules","state","a","b"] (ZM (top 31)):=⟨rfl,rfl,rfl,by decide +kernel,rfl,by decide +kernel,by decide +kernel⟩
theorem ZM2 (T:Txt K mg A):FnOk P w K mg base CX0 3 A.f_ways A.fd_ways ["rules","state","a","b"] (spD K 4 ZEb):=by
 have Gis_about:=ZDJ (P:=P) (w:=w) (base:=base) T
 have Ghelpers:=ZJd (P:=P) (w:=w) (base:=base) T
 exact ZX (d:=ZKO) (r:=ZEb) (n:=11) (by unfold ZEb; rfl) rfl rfl T.D_ways.fn ZDB λ cdv A outer s H E hr=>(
(ZF (Zg (ZB 1) (Zd rfl (ZH (ZK (i:=4) ZDB.nd rfl (Or.inl rfl)) (ZH (ZK (i:=5) ZDB.nd rfl (Or.inl rfl)) ZW))))
(ZF (Zg (ZU oIx (ZB 5) (ZB 2) (λ _ _=>rfl)) (Zd rfl (ZH (ZK (i:=6) ZDB.nd rfl (Or.inl rfl)) (ZH (ZK (i:=7) ZDB.nd rfl (Or.inl rfl)) (ZH (ZK (i:=8) ZDB.nd rfl (Or.inl rfl)) (ZH (ZK (i:=9) ZDB.nd rfl (Or.inl rfl)) ZW))))))
(ZF (ZO (i:=10) ZDB.nd rfl (Or.inl rfl) (ZAy (ZA (ZS (ZA (ZS (ZA (ZB 2) (ZA (ZB 3) ZE))) (ZA (ZS (ZA (ZB 3) (ZA (ZB 2) ZE))) ZE))) ZE)))
(ZF (Zp (JW.pt (ZAK (ZV (oIn hr.units) ZA1 (ZU oIx (ZB 0) ZG (λ _ _=>rfl)) (by with_unfolding_all rfl)) (ZAb (ZAH (ZJ T.D_is_about Gis_about (hr.mono (by decide)) (ZA (ZB 7) (ZA (ZB 3) ZE)) (.cons (.cons .nil)))))))
(ZI (ZNS (i:=10) ZDB.nd rfl (Or.inl rfl) (Z6 (sc:=ZM (top 31)) (NX:=["rules","state","a","b","turn","houses","up","book","told","timers","found"]) (N:=["h","a","b"]) (own:=1) (cap:=[2,3]) rfl (ZAT (ZJ T.D_helpers Ghelpers (hr.mono (by decide)) (ZA (ZB 0) (ZA (ZB 7) (ZA (ZB 2) (ZA (ZB 3) ZE)))) (.cons (.cons (.cons (.cons .nil)))))) rfl rfl (λ cl C s0 H0 fp=>⟨(ZK (i:=0) (by show (["h","a","b"]:List Str).Nodup; decide +kernel) rfl (Or.inl rfl)),ZAz,(ZS (ZA (ZS (ZA (ZB 1) (ZA (ZB 0) ZE))) (ZA (ZS (ZA (ZB 0) (ZA (ZB 2) ZE))) (ZA (ZS (ZA (ZB 2) (ZA (ZB 0) ZE))) (ZA (ZS (ZA (ZB 0) (ZA (ZB 1) ZE))) ZE)))))⟩) (by decide +kernel) rfl)))
Ze)
(ZI (ZR (ZB 10))))))))
theorem ZAd:FnScope ["rules","state","a","b","answered","turn","houses","up","book","told","timers","number","mark"] ["rules","state","a","b","answered"] (ZM (top 33)):=⟨rfl,rfl,rfl,by decide +kernel,rfl,by decide +kernel,by decide +kernel⟩
theorem ZK1 (T:Txt K mg A):FnOk P w K mg base CX0 3 A.f_judged A.fd_judged ["rules","state","a","b","answered"] (spD K 5 ZB4):=by
 have Gwith_house:=ZCV (P:=P) (w:=w) (base:=base) T
 have Gput:=ZDQ (P:=P) (w:=w) (base:=base) T
 exact ZX (d:=ZGG) (r:=ZB4) (n:=13) (by unfold ZB4; rfl) rfl rfl T.D_judged.fn ZAd λ cdv A outer s H E hr=>(
(ZF (Zg (ZB 1) (Zd rfl (ZH (ZK (i:=5) ZAd.nd rfl (Or.inl rfl)) (ZH (ZK (i:=6) ZAd.nd rfl (Or.inl rfl)) ZW))))
(ZF (Zg (ZU oIx (ZB 6) (ZB 2) (λ _ _=>rfl)) (Zd rfl (ZH (ZK (i:=7) ZAd.nd rfl (Or.inl rfl)) (ZH (ZK (i:=8) ZAd.nd rfl (Or.inl rfl)) (ZH (ZK (i:=9) ZAd.nd rfl (Or.inl rfl)) (ZH (ZK (i:=10) ZAd.nd rfl (Or.inl rfl)) ZW))))))
(ZF (Zg (ZU oIx (ZB 8) (ZB 3) (λ _ _=>rfl)) (Zd rfl (ZH (ZK (i:=11) ZAd.nd rfl (Or.inl rfl)) (ZH (ZK (i:=12) ZAd.nd rfl (Or.inl rfl)) ZW))))
(ZF (Zp (ZAH (ZB 4))
(ZI (ZO (i:=10) ZAd.nd rfl (Or.inl rfl) (ZJ T.D_put Gput (hr.mono (by decide)) (ZA (ZB 10) (ZA (ZB 3) (ZA ZG ZE))) (.cons (.cons (.cons .nil))))))
(ZI (Zp (JW.pt (ZAK (ZV (oLt hr.units) (ZB 12) (ZAW rfl T.g_GONE) (ZZ _)) (ZAb (JW.pt (ZFD (ZV (ZGC hr.units) ZA1 (ZU oIx (ZB 0) ZG (λ _ _=>rfl)) (by with_unfolding_all rfl)) (ZEB (ZV (oEq hr.units) (ZU oIx (ZB 10) (ZB 3) (λ _ _=>rfl)) ZG (ZZ _))))))))
(ZI (ZJL (i:=8) (j:=9) (l:=10) rfl ZAd.nd rfl rfl rfl rfl rfl rfl (ZA (ZJ T.D_put Gput (hr.mono (by decide)) (ZA (ZB 8) (ZA (ZB 3) (ZA (ZS (ZA (ZB 11) (ZA (ZAW rfl T.g_GONE) ZE))) ZE))) (.cons (.cons (.cons .nil)))) (ZA (ZJ T.D_put Gput (hr.mono (by decide)) (ZA (ZB 9) (ZA (ZB 3) (ZA ZG ZE))) (.cons (.cons (.cons .nil)))) (ZA (ZJ T.D_put Gput (hr.mono (by decide)) (ZA (ZB 10) (ZA (ZB 3) (ZA ZG ZE))) (.cons (.cons (.cons .nil)))) ZE)))))
(ZI (Zp (JW.pt (ZAK (ZV (oLt hr.units) (ZB 12) (ZAW rfl T.g_GONE) (ZZ _)) (ZAb (ZV (oEq hr.units) (ZU oIx (ZB 10) (ZB 3) (λ _ _=>rfl)) ZG (ZZ _)))))
(ZF (Zp (ZV (oEq hr.units) (ZB 12) (ZAW rfl T.g_ALIVE) (ZZ _))
(ZI (ZP4 (i:=8) (j:=9) rfl ZAd.nd rfl rfl (by decide) rfl rfl (ZA (ZJ T.D_put Gput (hr.mono (by decide)) (ZA (ZB 8) (ZA (ZB 3) (ZA (ZS (ZA (ZB 11) (ZA (ZAW rfl T.g_SUSPECT) ZE))) ZE))) (.cons (.cons (.cons .nil)))) (ZA (ZJ T.D_put Gput (hr.mono (by decide)) (ZA (ZB 9) (ZA (ZB 3) (ZA ZG ZE))) (.cons (.cons (.cons .nil)))) ZE)) rfl))
Ze)
(ZI (ZO (i:=10) ZAd.nd rfl (Or.inl rfl) (ZJ T.D_put Gput (hr.mono (by decide)) (ZA (ZB 10) (ZA (ZB 3) (ZA (ZU oIx (ZB 0) ZG (λ _ _=>rfl)) ZE))) (.cons (.cons (.cons .nil)))))))
(ZI (Zp (ZV (oLt hr.units) (ZB 12) (ZAW rfl T.g_GONE) (ZZ _))
(ZI (ZO (i:=10) ZAd.nd rfl (Or.inl rfl) (ZJ T.D_put Gput (hr.mono (by decide)) (ZA (ZB 10) (ZA (ZB 3) (ZA (ZQ ZGp (ZU oIx (ZB 10) (ZB 3) (λ _ _=>rfl)) ZG) ZE))) (.cons (.cons (.cons .nil))))))
Ze)))))))
(ZI (ZR (ZJ T.D_with_house Gwith_house (hr.mono (by decide)) (ZA (ZB 1) (ZA (ZB 2) (ZA (ZS (ZA (ZB 7) (ZA (ZB 8) (ZA (ZB 9) (ZA (ZB 10) ZE))))) ZE))) (.cons (.cons (.cons .nil)))))))))))
theorem ZJ6:FnScope ["some","others"] ["some","others"] (ZM (top 37)):=⟨rfl,rfl,rfl,by decide +kernel,rfl,by decide +kernel,by decide +kernel⟩
theorem ZHA (T:Txt K mg A):FnOk P w K mg base CX0 1 A.f_are_apart A.fd_are_apart ["some","others"] (spD K 2 ZBA):=by
 exact ZX (d:=ZDm) (r:=ZBA) (n:=2) (by unfold ZBA; rfl) rfl rfl T.D_are_apart.fn ZJ6 λ cdv A outer s H E hr=>(
(ZI (ZR (ZT (ZNb rfl) rfl T.z_all boot_all (ZA (Z6 (sc:=ZM (top 37)) (NX:=["some","others"]) (N:=["each","others"]) (own:=1) (cap:=[1]) rfl (ZAT (ZB 0)) rfl rfl (λ cl C s0 H0 fp=>⟨(ZK (i:=0) (by show (["each","others"]:List Str).Nodup; decide +kernel) rfl (Or.inl rfl)),ZAz,(Zy (ZGC hr.units) (ZB 0) (ZB 1) (by with_unfolding_all rfl))⟩) (by decide +kernel) rfl) ZE)))))
theorem ZDU:FnScope ["state","numbers","up","turn","houses"] ["state","numbers","up"] (ZM (top 38)):=⟨rfl,rfl,rfl,by decide +kernel,rfl,by decide +kernel,by decide +kernel⟩
theorem ZGt (T:Txt K mg A):FnOk P w K mg base CX0 1 A.f_are_houses A.fd_are_houses ["state","numbers","up"] (spD K 3 ZAL):=by
 exact ZX (d:=ZDE) (r:=ZAL) (n:=5) (by unfold ZAL; rfl) rfl rfl T.D_are_houses.fn ZDU λ cdv A outer s H E hr=>(
(ZF (Zg (ZB 0) (Zd rfl (ZH (ZK (i:=3) ZDU.nd rfl (Or.inl rfl)) (ZH (ZK (i:=4) ZDU.nd rfl (Or.inr rfl)) ZW))))
(ZI (ZR (ZT (ZNb rfl) rfl T.z_all boot_all (ZA (Z6 (sc:=ZM (top 38)) (NX:=["state","numbers","up","turn","houses"]) (N:=["number","up","houses"]) (own:=1) (cap:=[2,4]) rfl (ZAT (ZB 1)) rfl rfl (λ cl C s0 H0 fp=>⟨(ZK (i:=0) (by show (["number","up","houses"]:List Str).Nodup; decide +kernel) rfl (Or.inl rfl)),ZAz,(ZA2 (Zy (oLt hr.units) (ZB 0) (ZT ZCP rfl T.z_len boot_len (ZA (ZB 2) ZE)) (ZZ _)) (ZBN (Zy (oEq hr.units) (ZU oIx (ZU oIx (ZB 2) (ZB 0) (λ _ _=>rfl)) ZG (λ _ _=>rfl)) (ZB 1) (ZZ _))))⟩) (by decide +kernel) rfl) ZE))))))
theorem ZIR:FnScope ["thing"] ["thing"] (ZM (top 36)):=⟨rfl,rfl,rfl,by decide +kernel,rfl,by decide +kernel,by decide +kernel⟩
theorem ZGE (T:Txt K mg A):FnOk P w K mg base CX0 3 A.f_are_rising A.fd_are_rising ["thing"] (spD K 1 ZAp):=by
 have Grises:=ZMA (P:=P) (w:=w) (base:=base) T
 have Gis_count:=ZIO (P:=P) (w:=w) (base:=base) T
 exact ZX (d:=ZDS) (r:=ZAp) (n:=1) (by unfold ZAp; rfl) rfl rfl T.D_are_rising.fn ZIR λ cdv A outer s H E hr=>(
(ZI (ZR (ZA2 (ZT ZLm rfl T.z_isinstance boot_isinstance (ZA (ZB 0) (ZA (ZFI (n:="tuple") rfl T.z_tuple boot_tuple) ZE))) (ZA2 (ZT (ZNb rfl) rfl T.z_all boot_all (ZA (Z6 (sc:=ZM (top 36)) (NX:=["thing"]) (N:=["each"]) (own:=1) (cap:=[]) rfl (ZAT (ZB 0)) rfl rfl (λ cl C s0 H0 fp=>⟨(ZK (i:=0) (by show (["each"]:List Str).Nodup; decide +kernel) rfl (Or.inl rfl)),ZAz,(ZJ T.D_is_count Gis_count (hr.mono (by decide)) (ZA (ZB 0) ZE) (.cons .nil))⟩) (by decide +kernel) rfl) ZE)) (ZBN (ZJ T.D_rises Grises (hr.mono (by decide)) (ZA (ZB 0) ZE) (.cons .nil))))))))
theorem ZB8:FnScope ["state","thing","lost","falls","leaves","comes"] ["state","thing"] (ZM (top 35)):=⟨rfl,rfl,rfl,by decide +kernel,rfl,by decide +kernel,by decide +kernel⟩
theorem ZG7 (T:Txt K mg A):FnOk P w K mg base CX0 4 A.f_is_doings A.fd_is_doings ["state","thing"] (spD K 2 ZAn):=by
 have Gare_apart:=ZHA (P:=P) (w:=w) (base:=base) T
 have Gare_houses:=ZGt (P:=P) (w:=w) (base:=base) T
 have Gis_tuple_of:=ZFz (P:=P) (w:=w) (base:=base) T
 have Gare_rising:=ZGE (P:=P) (w:=w) (base:=base) T
 exact ZX (d:=ZDd) (r:=ZAn) (n:=6) (by unfold ZAn; rfl) rfl rfl T.D_is_doings.fn ZB8 λ cdv A outer s H E hr=>(
(ZF (Zp (ZEE (JW.pt (ZAK (ZAH (ZJ T.D_is_tuple_of Gis_tuple_of (hr.mono (by decide)) (ZA (ZB 1) (ZA ZG ZE)) (.cons (.cons .nil)))) (ZAb (ZAH (ZT (ZNb rfl) rfl T.z_all boot_all (ZA (Z6 (sc:=ZM (top 35)) (NX:=["state","thing","lost","falls","leaves","comes"]) (N:=["each"]) (own:=1) (cap:=[]) rfl (ZAT (ZB 1)) rfl rfl (λ cl C s0 H0 fp=>⟨(ZK (i:=0) (by show (["each"]:List Str).Nodup; decide +kernel) rfl (Or.inl rfl)),ZAz,(ZJ T.D_are_rising Gare_rising (hr.mono (by decide)) (ZA (ZB 0) ZE) (.cons .nil))⟩) (by decide +kernel) rfl) ZE)))))))
(ZI (ZR ZCC))
Ze)
(ZF (Zg (ZB 1) (Zd rfl (ZH (ZK (i:=2) ZB8.nd rfl (Or.inl rfl)) (ZH (ZK (i:=3) ZB8.nd rfl (Or.inl rfl)) (ZH (ZK (i:=4) ZB8.nd rfl (Or.inl rfl)) (ZH (ZK (i:=5) ZB8.nd rfl (Or.inl rfl)) ZW))))))
(ZF (Zp (ZEE (ZAH (ZJ T.D_are_apart Gare_apart (hr.mono (by decide)) (ZA (ZB 3) (ZA (ZB 4) ZE)) (.cons (.cons .nil)))))
(ZI (ZR ZCC))
Ze)
(ZI (ZR (ZA2 (ZJ T.D_are_houses Gare_houses (hr.mono (by decide)) (ZA (ZB 0) (ZA (ZB 3) (ZA ZG ZE))) (.cons (.cons (.cons .nil)))) (ZA2 (ZJ T.D_are_houses Gare_houses (hr.mono (by decide)) (ZA (ZB 0) (ZA (ZB 4) (ZA ZG ZE))) (.cons (.cons (.cons .nil)))) (ZBN (ZJ T.D_are_houses Gare_houses (hr.mono (by decide)) (ZA (ZB 0) (ZA (ZB 5) (ZA ZG ZE))) (.cons (.cons (.cons .nil)))))))))))))
theorem ZFO:FnScope ["self","rules","town","state","lost"] ["self","rules","town","state","lost"] (ZM (ZCp (top 43) 0)):=⟨rfl,rfl,rfl,by decide +kernel,rfl,by decide +kernel,by decide +kernel⟩
theorem ZEY (T:Txt K mg A):FnOk P w K mg base CX0 1 A.f_Road____init__ A.fd_Road____init__ ["self","rules","town","state","lost"] (spD K 5 ZAA):=by
 exact ZX (d:=ZBt) (r:=ZAA) (n:=5) (by unfold ZAA; rfl) rfl rfl T.D_Road____init__.fn ZFO λ cdv A outer s H E hr=>(
(ZF (ZCO (i:=0) T.k_Road rfl (ZB 0) (ZB 1))
(ZF (ZCO (i:=1) T.k_Road rfl (ZB 0) (ZB 2))
(ZF (ZCO (i:=2) T.k_Road rfl (ZB 0) (ZB 3))
(ZF (ZCO (i:=3) T.k_Road rfl (ZB 0) (ZB 4))
(ZI (ZCO (i:=4) T.k_Road rfl (ZB 0) (ZAy ZE))))))))
theorem ZBw:FnScope ["self","x","y","lost","missed","came"] ["self","x","y"] (ZM (ZCp (top 43) 1)):=⟨rfl,rfl,rfl,by decide +kernel,rfl,by decide +kernel,by decide +kernel⟩
theorem ZDY (T:Txt K mg A):FnOk P w K mg base CX0 6 A.f_Road__sends A.fd_Road__sends ["self","x","y"] (spD K 3 Z0):=by
 have Gposted:=ZKQ (P:=P) (w:=w) (base:=base) T
 exact ZX (d:=ZCy) (r:=Z0) (n:=6) (by unfold Z0; rfl) rfl rfl T.D_Road__sends.fn ZBw λ cdv A outer s H E hr=>(
(ZF (ZO (i:=3) ZBw.nd rfl (Or.inl rfl) (Zy (oIn hr.units) (ZT ZCP rfl T.z_len boot_len (ZA (ZAC (i:=4) T.k_Road rfl (ZB 0)) ZE)) (ZAC (i:=3) T.k_Road rfl (ZB 0)) (by with_unfolding_all rfl)))
(ZF (ZAa (ZBx (ZAC (i:=4) T.k_Road rfl (ZB 0)) (ZS (ZA (ZB 1) (ZA (ZB 2) (ZA (ZB 3) ZE))))))
(ZF (Zg (ZJ T.D_posted Gposted (hr.mono (by decide)) (ZA (ZAC (i:=0) T.k_Road rfl (ZB 0)) (ZA (ZAC (i:=1) T.k_Road rfl (ZB 0)) (ZA (ZAC (i:=2) T.k_Road rfl (ZB 0)) (ZA (ZB 1) (ZA (ZB 2) ZE))))) (.cons (.cons (.cons (.cons (.cons .nil)))))) (Zd rfl (ZH (ZK (i:=4) ZBw.nd rfl (Or.inl rfl)) (ZH (ZK (i:=5) ZBw.nd rfl (Or.inl rfl)) ZW))))
(ZF (Zp (JW.pt (ZFD (ZAH (ZB 3)) (ZEB (ZV oIsN (ZB 5) ZLQ (ZZ _)))))
(ZF (ZCO (i:=2) T.k_Road rfl (ZB 0) (ZB 4))
(ZI (ZR ZCC)))
Ze)
(ZF (ZCO (i:=2) T.k_Road rfl (ZB 0) (ZB 5))
(ZI (ZR ZCC))))))))
theorem ZDk:FnScope ["road","x","y"] ["road","x"] (ZM (top 46)):=⟨rfl,rfl,rfl,by decide +kernel,rfl,by decide +kernel,by decide +kernel⟩
theorem ZFM (T:Txt K mg A):FnOk P w K mg base CX0 7 A.f_write_to_all A.fd_write_to_all ["road","x"] (spD K 2 ZAE):=by
 have GRoad__sends:=ZDY (P:=P) (w:=w) (base:=base) T
 exact ZX (d:=ZCY) (r:=ZAE) (n:=3) (by unfold ZAE; rfl) rfl rfl T.D_write_to_all.fn ZDk λ cdv A outer s H E hr=>(
(ZI (ZAN PassesOwn.never rfl (ZAI rfl T.z_range (ZA (ZT ZCP rfl T.z_len boot_len (ZA (ZAC (i:=1) T.k_Road rfl (ZB 0)) ZE)) ZE) (hn:=(.cons .nil))) (ZK (i:=2) ZDk.nd rfl (Or.inl rfl))
(ZI (Zp (ZV (oNe hr.units) (ZB 2) (ZB 1) (ZZ _))
(ZI (ZAa (ZJY T.k_Road T.D_Road__sends GRoad__sends (hr.mono (by decide)) (by decide +kernel) (ZB 0) (ZA (ZB 1) (ZA (ZB 2) ZE)) (.cons (.cons .nil)))))
Ze)))))
theorem ZEU:FnScope ["road","x","turn","houses","up","book","told","timers"] ["road","x"] (ZM (top 47)):=⟨rfl,rfl,rfl,by decide +kernel,rfl,by decide +kernel,by decide +kernel⟩
theorem ZOI (T:Txt K mg A):FnOk P w K mg base CX0 3 A.f_stop A.fd_stop ["road","x"] (spD K 2 ZDw):=by
 have Gwith_house:=ZCV (P:=P) (w:=w) (base:=base) T
 exact ZX (d:=ZKE) (r:=ZDw) (n:=8) (by unfold ZDw; rfl) rfl rfl T.D_stop.fn ZEU λ cdv A outer s H E hr=>(
(ZF (Zg (ZAC (i:=2) T.k_Road rfl (ZB 0)) (Zd rfl (ZH (ZK (i:=2) ZEU.nd rfl (Or.inl rfl)) (ZH (ZK (i:=3) ZEU.nd rfl (Or.inl rfl)) ZW))))
(ZF (Zg (ZU oIx (ZB 3) (ZB 1) (λ _ _=>rfl)) (Zd rfl (ZH (ZK (i:=4) ZEU.nd rfl (Or.inl rfl)) (ZH (ZK (i:=5) ZEU.nd rfl (Or.inl rfl)) (ZH (ZK (i:=6) ZEU.nd rfl (Or.inl rfl)) (ZH (ZK (i:=7) ZEU.nd rfl (Or.inl rfl)) ZW))))))
(ZI (ZCO (i:=2) T.k_Road rfl (ZB 0) (ZJ T.D_with_house Gwith_house (hr.mono (by decide)) (ZA (ZAC (i:=2) T.k_Road rfl (ZB 0)) (ZA (ZB 1) (ZA (ZS (ZA ZG (ZA (ZB 5) (ZA (ZB 6) (ZA (ZB 7) ZE))))) ZE))) (.cons (.cons (.cons .nil)))))))))
theorem ZA8:FnScope ["houses","doings","lost","falls","leaves","comes","behind","at","house","up","book","told","timers","number","mark"] ["houses","doings"] (ZM (top 45)):=⟨rfl,rfl,rfl,by decide +kernel,rfl,by decide +kernel,by decide +kernel⟩
theorem ZN6 (T:Txt K mg A):FnOk P w K mg base CX0 2 A.f_done A.fd_done ["houses","doings"] (spD K 2 ZEl):=by
 have Gput:=ZDQ (P:=P) (w:=w) (base:=base) T
 exact ZX (d:=ZKI) (r:=ZEl) (n:=15) (by unfold ZEl; rfl) rfl rfl T.D_done.fn ZA8 λ cdv A outer s H E hr=>(
(ZF (Zg (ZB 1) (Zd rfl (ZH (ZK (i:=2) ZA8.nd rfl (Or.inl rfl)) (ZH (ZK (i:=3) ZA8.nd rfl (Or.inl rfl)) (ZH (ZK (i:=4) ZA8.nd rfl (Or.inl rfl)) (ZH (ZK (i:=5) ZA8.nd rfl (Or.inl rfl)) ZW))))))
(ZF (ZO (i:=6) ZA8.nd rfl (Or.inl rfl) (ZAy ZE))
(ZF (ZAN PassesOwn.never rfl (ZCT rfl T.z_enumerate (ZA (ZB 0) ZE) (hn:=(.cons .nil))) (Zd rfl (ZH (ZK (i:=7) ZA8.nd rfl (Or.inl rfl)) (ZH (ZK (i:=8) ZA8.nd rfl (Or.inl rfl)) ZW)))
(ZF (Zg (ZB 8) (Zd rfl (ZH (ZK (i:=9) ZA8.nd rfl (Or.inl rfl)) (ZH (ZK (i:=10) ZA8.nd rfl (Or.inl rfl)) (ZH (ZK (i:=11) ZA8.nd rfl (Or.inl rfl)) (ZH (ZK (i:=12) ZA8.nd rfl (Or.inl rfl)) ZW))))))
(ZF (Zg (ZU oIx (ZB 10) (ZB 7) (λ _ _=>rfl)) (Zd rfl (ZH (ZK (i:=13) ZA8.nd rfl (Or.inl rfl)) (ZH (ZK (i:=14) ZA8.nd rfl (Or.inl rfl)) ZW))))
(ZF (Zp (ZV (oIn hr.units) (ZB 7) (ZB 3) (by with_unfolding_all rfl))
(ZI (ZO (i:=8) ZA8.nd rfl (Or.inl rfl) (ZS (ZA ZG (ZA (ZB 10) (ZA (ZB 11) (ZA (ZQ ZCh (ZS (ZA ZG ZE)) (ZT ZCP rfl T.z_len boot_len (ZA (ZB 12) ZE))) ZE)))))))
(ZI (Zp (ZV (oIn hr.units) (ZB 7) (ZB 4) (by with_unfolding_all rfl))
(ZI (ZO (i:=8) ZA8.nd rfl (Or.inl rfl) (ZS (ZA (ZB 9) (ZA (ZJ T.D_put Gput (hr.mono (by decide)) (ZA (ZB 10) (ZA (ZB 7) (ZA (ZS (ZA (ZB 13) (ZA (ZAW rfl T.g_LEFT) ZE))) ZE))) (.cons (.cons (.cons .nil)))) (ZA (ZJ T.D_put Gput (hr.mono (by decide)) (ZA (ZB 11) (ZA (ZB 7) (ZA ZG ZE))) (.cons (.cons (.cons .nil)))) (ZA (ZQ ZCh (ZS (ZA ZG ZE)) (ZT ZCP rfl T.z_len boot_len (ZA (ZB 12) ZE))) ZE)))))))
(ZI (Zp (ZV (oIn hr.units) (ZB 7) (ZB 5) (by with_unfolding_all rfl))
(ZI (ZO (i:=8) ZA8.nd rfl (Or.inl rfl) (ZS (ZA ZG (ZA (ZJ T.D_put Gput (hr.mono (by decide)) (ZA (ZB 10) (ZA (ZB 7) (ZA (ZS (ZA (ZQ ZAm (ZB 13) ZG) (ZA (ZAW rfl T.g_ALIVE) ZE))) ZE))) (.cons (.cons (.cons .nil)))) (ZA (ZJ T.D_put Gput (hr.mono (by decide)) (ZA (ZB 11) (ZA (ZB 7) (ZA ZG ZE))) (.cons (.cons (.cons .nil)))) (ZA (ZB 12) ZE)))))))
Ze)))))
(ZI (ZAa (ZBx (ZB 6) (ZB 8))))))))
(ZI (ZR (Zo ZEk rfl T.z_tuple boot_tuple (ZA (ZB 6) ZE))))))))
theorem ZCB:FnScope ["road","way","x","y"] ["road","way"] (ZM (top 50)):=⟨rfl,rfl,rfl,by decide +kernel,rfl,by decide +kernel,by decide +kernel⟩
theorem ZE9 (T:Txt K mg A):FnOk P w K mg base CX0 7 A.f_comes_through A.fd_comes_through ["road","way"] (spD K 2 Z4):=by
 have GRoad__sends:=ZDY (P:=P) (w:=w) (base:=base) T
 exact ZX (d:=ZCD) (r:=Z4) (n:=4) (by unfold Z4; rfl) rfl rfl T.D_comes_through.fn ZCB λ cdv A outer s H E hr=>(
(ZF (ZAN PassesOwn.never rfl (ZAT (ZB 1)) (Zd rfl (ZH (ZK (i:=2) ZCB.nd rfl (Or.inl rfl)) (ZH (ZK (i:=3) ZCB.nd rfl (Or.inl rfl)) ZW)))
(ZI (Zp (ZEE (ZAH (ZJY T.k_Road T.D_Road__sends GRoad__sends (hr.mono (by decide)) (by decide +kernel) (ZB 0) (ZA (ZB 2) (ZA (ZB 3) ZE)) (.cons (.cons .nil)))))
(ZI (ZR ZCC))
Ze)))
(ZI (ZR ZCC))))
theorem ZEP:FnScope ["road","a","b","way"] ["road","a","b"] (ZM (top 49)):=⟨rfl,rfl,rfl,by decide +kernel,rfl,by decide +kernel,by decide +kernel⟩
theorem ZFt (T:Txt K mg A):FnOk P w K mg base CX0 8 A.f_is_answered A.fd_is_answered ["road","a","b"] (spD K 3 ZAQ):=by
 have Gways:=ZM2 (P:=P) (w:=w) (base:=base) T
 have Gcomes_through:=ZE9 (P:=P) (w:=w) (base:=base) T
 exact ZX (d:=ZC2) (r:=ZAQ) (n:=4) (by unfold ZAQ; rfl) rfl rfl T.D_is_answered.fn ZEP λ cdv A outer s H E hr=>(
(ZF (ZAN PassesOwn.never rfl (ZAT (ZJ T.D_ways Gways (hr.mono (by decide)) (ZA (ZAC (i:=0) T.k_Road rfl (ZB 0)) (ZA (ZAC (i:=2) T.k_Road rfl (ZB 0)) (ZA (ZB 1) (ZA (ZB 2) ZE)))) (.cons (.cons (.cons (.cons .nil)))))) (ZK (i:=3) ZEP.nd rfl (Or.inl rfl))
(ZI (Zp (ZAH (ZJ T.D_comes_through Gcomes_through (hr.mono (by decide)) (ZA (ZB 0) (ZA (ZB 3) ZE)) (.cons (.cons .nil))))
(ZI (ZR ZCC))
Ze)))
(ZI (ZR ZCC))))
theorem ZC6:FnScope ["road","a","turn","houses","b","answered"] ["road","a"] (ZM (top 48)):=⟨rfl,rfl,rfl,by decide +kernel,rfl,by decide +kernel,by decide +kernel⟩
theorem ZJE (T:Txt K mg A):FnOk P w K mg base CX0 9 A.f_ask_all A.fd_ask_all ["road","a"] (spD K 2 ZBZ):=by
 have Gasked_in_order:=ZEc (P:=P) (w:=w) (base:=base) T
 have Gasks_now:=ZIa (P:=P) (w:=w) (base:=base) T
 have Gis_answered:=ZFt (P:=P) (w:=w) (base:=base) T
 have Gjudged:=ZK1 (P:=P) (w:=w) (base:=base) T
 exact ZX (d:=ZFG) (r:=ZBZ) (n:=6) (by unfold ZBZ; rfl) rfl rfl T.D_ask_all.fn ZC6 λ cdv A outer s H E hr=>(
(ZF (Zg (ZAC (i:=2) T.k_Road rfl (ZB 0)) (Zd rfl (ZH (ZK (i:=2) ZC6.nd rfl (Or.inl rfl)) (ZH (ZK (i:=3) ZC6.nd rfl (Or.inl rfl)) ZW))))
(ZI (ZAN PassesOwn.never rfl (ZAT (ZJ T.D_asked_in_order Gasked_in_order (hr.mono (by decide)) (ZA (ZAC (i:=1) T.k_Road rfl (ZB 0)) (ZA (ZB 2) (ZA (ZB 1) ZE))) (.cons (.cons (.cons .nil))))) (ZK (i:=4) ZC6.nd rfl (Or.inl rfl))
(ZI (Zp (ZAH (ZJ T.D_asks_now Gasks_now (hr.mono (by decide)) (ZA (ZAC (i:=0) T.k_Road rfl (ZB 0)) (ZA (ZAC (i:=1) T.k_Road rfl (ZB 0)) (ZA (ZAC (i:=2) T.k_Road rfl (ZB 0)) (ZA (ZB 1) (ZA (ZB 4) ZE))))) (.cons (.cons (.cons (.cons (.cons .nil)))))))
(ZF (ZO (i:=5) ZC6.nd rfl (Or.inl rfl) (ZJ T.D_is_answered Gis_answered (hr.mono (by decide)) (ZA (ZB 0) (ZA (ZB 1) (ZA (ZB 4) ZE))) (.cons (.cons (.cons .nil)))))
(ZI (ZCO (i:=2) T.k_Road rfl (ZB 0) (ZJ T.D_judged Gjudged (hr.mono (by decide)) (ZA (ZAC (i:=0) T.k_Road rfl (ZB 0)) (ZA (ZAC (i:=2) T.k_Road rfl (ZB 0)) (ZA (ZB 1) (ZA (ZB 4) (ZA (ZB 5) ZE))))) (.cons (.cons (.cons (.cons (.cons .nil)))))))))
Ze))))))
theorem ZAR:FnScope ["rules","town","state","doings","turn","houses","lost","falls","leaves","comes","road","x","a"] ["rules","town","state","doings"] (ZM (top 44)):=⟨rfl,rfl,rfl,by decide +kernel,rfl,by decide +kernel,by decide +kernel⟩
theorem ZFd (T:Txt K mg A):FnOk P w K mg base CX0 10 A.f_stepped A.fd_stepped ["rules","town","state","doings"] (spD K 4 ZAX):=by
 have GRoad____init__:=ZEY (P:=P) (w:=w) (base:=base) T
 have Gwrite_to_all:=ZFM (P:=P) (w:=w) (base:=base) T
 have Gstop:=ZOI (P:=P) (w:=w) (base:=base) T
 have Gasks_any:=ZIx (P:=P) (w:=w) (base:=base) T
 have Gdone:=ZN6 (P:=P) (w:=w) (base:=base) T
 have Gask_all:=ZJE (P:=P) (w:=w) (base:=base) T
 exact ZX (d:=ZFF) (r:=ZAX) (n:=13) (by unfold ZAX; rfl) rfl rfl T.D_stepped.fn ZAR λ cdv A outer s H E hr=>(
(ZF (Zg (ZB 2) (Zd rfl (ZH (ZK (i:=4) ZAR.nd rfl (Or.inl rfl)) (ZH (ZK (i:=5) ZAR.nd rfl (Or.inl rfl)) ZW))))
(ZF (Zg (ZB 3) (Zd rfl (ZH (ZK (i:=6) ZAR.nd rfl (Or.inl rfl)) (ZH (ZK (i:=7) ZAR.nd rfl (Or.inl rfl)) (ZH (ZK (i:=8) ZAR.nd rfl (Or.inl rfl)) (ZH (ZK (i:=9) ZAR.nd rfl (Or.inl rfl)) ZW))))))
(ZF (ZO (i:=10) ZAR.nd rfl (Or.inl rfl) (ZOF T.k_Road rfl T.m_Road T.D_Road____init__ GRoad____init__ (hr.mono (by decide)) (ZA (ZB 0) (ZA (ZB 1) (ZA (ZS (ZA (ZB 4) (ZA (ZJ T.D_done Gdone (hr.mono (by decide)) (ZA (ZB 5) (ZA (ZB 3) ZE)) (.cons (.cons .nil))) ZE))) (ZA (ZB 6) ZE)))) (.cons (.cons (.cons (.cons .nil))))))
(ZF (ZAN PassesOwn.never rfl (ZAT (ZQ ZAm (ZB 8) (ZB 9))) (ZK (i:=11) ZAR.nd rfl (Or.inl rfl))
(ZI (ZAa (ZJ T.D_write_to_all Gwrite_to_all (hr.mono (by decide)) (ZA (ZB 10) (ZA (ZB 11) ZE)) (.cons (.cons .nil))))))
(ZF (ZAN PassesOwn.never rfl (ZAT (ZB 8)) (ZK (i:=11) ZAR.nd rfl (Or.inl rfl))
(ZI (ZAa (ZJ T.D_stop Gstop (hr.mono (by decide)) (ZA (ZB 10) (ZA (ZB 11) ZE)) (.cons (.cons .nil))))))
(ZF (ZAN PassesOwn.never rfl (ZAI rfl T.z_range (ZA (ZT ZCP rfl T.z_len boot_len (ZA (ZB 1) ZE)) ZE) (hn:=(.cons .nil))) (ZK (i:=12) ZAR.nd rfl (Or.inl rfl))
(ZI (Zp (ZAH (ZJ T.D_asks_any Gasks_any (hr.mono (by decide)) (ZA (ZB 1) (ZA (ZAC (i:=2) T.k_Road rfl (ZB 10)) (ZA (ZB 12) ZE))) (.cons (.cons (.cons .nil)))))
(ZI (ZAa (ZJ T.D_ask_all Gask_all (hr.mono (by decide)) (ZA (ZB 10) (ZA (ZB 12) ZE)) (.cons (.cons .nil)))))
Ze)))
(ZF (Zg (ZAC (i:=2) T.k_Road rfl (ZB 10)) (Zd rfl (ZH (ZK (i:=4) ZAR.nd rfl (Or.inl rfl)) (ZH (ZK (i:=5) ZAR.nd rfl (Or.inl rfl)) ZW))))
(ZI (ZR (ZS (ZA (ZS (ZA (ZQ ZAm (ZB 4) ZG) (ZA (ZB 5) ZE))) (ZA (Zo ZEk rfl T.z_tuple boot_tuple (ZA (ZAC (i:=4) T.k_Road rfl (ZB 10)) ZE)) ZE)))))))))))))
theorem ZEC:FnScope ["rules","town","state","row","steps","at","doings","letters"] ["rules","town","state","row"] (ZM (top 52)):=⟨rfl,rfl,rfl,by decide +kernel,rfl,by decide +kernel,by decide +kernel⟩
theorem ZMH (T:Txt K mg A):FnOk P w K mg base CX0 11 A.f_trail A.fd_trail ["rules","town","state","row"] (spD K 4 ZDG):=by
 have Gstepped:=ZFd (P:=P) (w:=w) (base:=base) T
 have Gis_doings:=ZG7 (P:=P) (w:=w) (base:=base) T
 exact ZX (d:=ZIn) (r:=ZDG) (n:=8) (by unfold ZDG; rfl) rfl rfl T.D_trail.fn ZEC λ cdv A outer s H E hr=>(
(ZF (ZO (i:=4) ZEC.nd rfl (Or.inl rfl) (ZAy ZE))
(ZF (ZAN PassesOwn.never rfl (ZCT rfl T.z_enumerate (ZA (ZB 3) ZE) (hn:=(.cons .nil))) (Zd rfl (ZH (ZK (i:=5) ZEC.nd rfl (Or.inl rfl)) (ZH (ZK (i:=6) ZEC.nd rfl (Or.inl rfl)) ZW)))
(ZF (Zp (ZEE (ZAH (ZJ T.D_is_doings Gis_doings (hr.mono (by decide)) (ZA (ZB 2) (ZA (ZB 6) ZE)) (.cons (.cons .nil)))))
(ZI ZPj)
Ze)
(ZF (Zg (ZJ T.D_stepped Gstepped (hr.mono (by decide)) (ZA (ZB 0) (ZA (ZB 1) (ZA (ZB 2) (ZA (ZB 6) ZE)))) (.cons (.cons (.cons (.cons .nil))))) (Zd rfl (ZH (ZK (i:=2) ZEC.nd rfl (Or.inl rfl)) (ZH (ZK (i:=7) ZEC.nd rfl (Or.inl rfl)) ZW))))
(ZI (ZAa (ZBx (ZB 4) (ZS (ZA (ZB 2) (ZA (ZB 7) ZE)))))))))
(ZI (ZR (ZB 4))))))
theorem ZDp:FnScope ["rules","town","state","row","sent","behind","letters"] ["rules","town","state","row"] (ZM (top 51)):=⟨rfl,rfl,rfl,by decide +kernel,rfl,by decide +kernel,by decide +kernel⟩
theorem ZKD (T:Txt K mg A):FnOk P w K mg base CX0 12 A.f_walked A.fd_walked ["rules","town","state","row"] (spD K 4 ZB2):=by
 have Gtrail:=ZMH (P:=P) (w:=w) (base:=base) T
 exact ZX (d:=ZGe) (r:=ZB2) (n:=7) (by unfold ZB2; rfl) rfl rfl T.D_walked.fn ZDp λ cdv A outer s H E hr=>(
(ZF (ZO (i:=4) ZDp.nd rfl (Or.inl rfl) (ZAy ZE))
(ZF (ZAN PassesOwn.never rfl (ZAT (ZJ T.D_trail Gtrail (hr.mono (by decide)) (ZA (ZB 0) (ZA (ZB 1) (ZA (ZB 2) (ZA (ZB 3) ZE)))) (.cons (.cons (.cons (.cons .nil)))))) (Zd rfl (ZH (ZK (i:=5) ZDp.nd rfl (Or.inl rfl)) (ZH (ZK (i:=6) ZDp.nd rfl (Or.inl rfl)) ZW)))
(ZF (ZO (i:=2) ZDp.nd rfl (Or.inl rfl) (ZB 5))
(ZI (ZAa (ZBx (ZB 4) (ZB 6))))))
(ZI (ZR (ZS (ZA (ZB 2) (ZA (Zo ZEk rfl T.z_tuple boot_tuple (ZA (ZB 4) ZE)) ZE))))))))
theorem ZGL:FnScope ["rules","town"] ["rules","town"] (ZM (top 54)):=⟨rfl,rfl,rfl,by decide +kernel,rfl,by decide +kernel,by decide +kernel⟩
theorem ZFA (T:Txt K mg A):FnOk P w K mg base CX0 1 A.f_most_helpers A.fd_most_helpers ["rules","town"] (spD K 2 ZAj):=by
 exact ZX (d:=ZCX) (r:=ZAj) (n:=2) (by unfold ZAj; rfl) rfl rfl T.D_most_helpers.fn ZGL λ cdv A outer s H E hr=>(
(ZI (ZR (ZT (ZRw rfl) rfl T.z_min boot_min (ZA (ZU oIx (ZB 0) ZG (λ _ _=>rfl)) (ZA (ZQ ZGp (ZT ZCP rfl T.z_len boot_len (ZA (ZB 1) ZE)) ZG) ZE))))))
theorem Zh:FnScope ["rules","town","state","doings","turn","houses","lost","falls","leaves","comes","asked","at","house","up","book","told","timers","each"] ["rules","town","state","doings"] (ZM (top 55)):=⟨rfl,rfl,rfl,by decide +kernel,rfl,by decide +kernel,by decide +kernel⟩
theorem ZFL (T:Txt K mg A):FnOk P w K mg base CX0 2 A.f_letters_most A.fd_letters_most ["rules","town","state","doings"] (spD K 4 ZAS):=by
 have Gticks:=ZHT (P:=P) (w:=w) (base:=base) T
 have Gmost_helpers:=ZFA (P:=P) (w:=w) (base:=base) T
 exact ZX (d:=ZCc) (r:=ZAS) (n:=18) (by unfold ZAS; rfl) rfl rfl T.D_letters_most.fn Zh λ cdv A outer s H E hr=>(
(ZF (Zg (ZB 2) (Zd rfl (ZH (ZK (i:=4) Zh.nd rfl (Or.inl rfl)) (ZH (ZK (i:=5) Zh.nd rfl (Or.inl rfl)) ZW))))
(ZF (Zg (ZB 3) (Zd rfl (ZH (ZK (i:=6) Zh.nd rfl (Or.inl rfl)) (ZH (ZK (i:=7) Zh.nd rfl (Or.inl rfl)) (ZH (ZK (i:=8) Zh.nd rfl (Or.inl rfl)) (ZH (ZK (i:=9) Zh.nd rfl (Or.inl rfl)) ZW))))))
(ZF (ZO (i:=10) Zh.nd rfl (Or.inl rfl) ZG)
(ZF (ZAN PassesOwn.never rfl (ZCT rfl T.z_enumerate (ZA (ZB 5) ZE) (hn:=(.cons .nil))) (Zd rfl (ZH (ZK (i:=11) Zh.nd rfl (Or.inl rfl)) (ZH (ZK (i:=12) Zh.nd rfl (Or.inl rfl)) ZW)))
(ZF (Zg (ZB 12) (Zd rfl (ZH (ZK (i:=13) Zh.nd rfl (Or.inl rfl)) (ZH (ZK (i:=14) Zh.nd rfl (Or.inl rfl)) (ZH (ZK (i:=15) Zh.nd rfl (Or.inl rfl)) (ZH (ZK (i:=16) Zh.nd rfl (Or.inl rfl)) ZW))))))
(ZI (Zp (JW.pt (ZAK (ZV (ZGC hr.units) (ZB 11) (ZQ ZAm (ZB 7) (ZB 8)) (by with_unfolding_all rfl)) (ZAK (JW.pt (ZFD (ZV (oEq hr.units) (ZB 13) ZG (ZZ _)) (ZEB (ZV (oIn hr.units) (ZB 11) (ZB 9) (by with_unfolding_all rfl))))) (ZAb (ZAH (ZJ T.D_ticks Gticks (hr.mono (by decide)) (ZA (ZB 1) (ZA (ZB 11) (ZA (ZB 4) ZE))) (.cons (.cons (.cons .nil)))))))))
(ZI (ZPa (i:=10) Zh.nd rfl (Or.inl rfl) (ZQ ZAm ZG (ZT ZCP rfl T.z_len boot_len (ZA (Z6 (sc:=ZM (top 55)) (NX:=["rules","town","state","doings","turn","houses","lost","falls","leaves","comes","asked","at","house","up","book","told","timers","each"]) (N:=["timer"]) (own:=1) (cap:=[]) rfl (ZAT (ZB 16)) rfl rfl (λ cl C s0 H0 fp=>⟨(ZK (i:=0) (by show (["timer"]:List Str).Nodup; decide +kernel) rfl (Or.inl rfl)),(ZB1 (ZV (oGt hr.units) (ZB 0) ZG (ZZ _))),(ZB 0)⟩) (by decide +kernel) rfl) ZE)))))
Ze))))
(ZF (ZO (i:=17) Zh.nd rfl (Or.inl rfl) (ZQ ZAm ZG (ZQ ZCh ZG (ZJ T.D_most_helpers Gmost_helpers (hr.mono (by decide)) (ZA (ZB 0) (ZA (ZB 1) ZE)) (.cons (.cons .nil))))))
(ZI (ZR (ZQ ZAm (ZQ ZCh (ZB 10) (ZB 17)) (ZQ ZCh (ZQ ZGp (ZT ZCP rfl T.z_len boot_len (ZA (ZB 1) ZE)) ZG) (ZT ZCP rfl T.z_len boot_len (ZA (ZQ ZAm (ZB 8) (ZB 9)) ZE))))))))))))
theorem ZCs:FnScope ["rules","town","others","wait","told","carry","clauses","many","house"] ["rules","town"] (ZM (top 57)):=⟨rfl,rfl,rfl,by decide +kernel,rfl,by decide +kernel,by decide +kernel⟩
theorem ZMG (T:Txt K mg A):FnOk P w K mg base CX0 1 A.f_begun A.fd_begun ["rules","town"] (spD K 2 ZDF):=by
 exact ZX (d:=ZId) (r:=ZDF) (n:=9) (by unfold ZDF; rfl) rfl rfl T.D_begun.fn ZCs λ cdv A outer s H E hr=>(
(ZF (Zg (ZB 0) (Zd rfl (ZH (ZK (i:=2) ZCs.nd rfl (Or.inl rfl)) (ZH (ZK (i:=3) ZCs.nd rfl (Or.inl rfl)) (ZH (ZK (i:=4) ZCs.nd rfl (Or.inl rfl)) (ZH (ZK (i:=5) ZCs.nd rfl (Or.inl rfl)) (ZH (ZK (i:=6) ZCs.nd rfl (Or.inl rfl)) ZW)))))))
(ZF (ZO (i:=7) ZCs.nd rfl (Or.inl rfl) (ZT ZCP rfl T.z_len boot_len (ZA (ZB 1) ZE)))
(ZF (ZO (i:=8) ZCs.nd rfl (Or.inl rfl) (ZS (ZA ZG (ZA (ZQ ZCh (ZS (ZA (ZS (ZA ZG (ZA (ZAW rfl T.g_ALIVE) ZE))) ZE)) (ZB 7)) (ZA (ZQ ZCh (ZS (ZA (ZB 4) ZE)) (ZB 7)) (ZA (ZQ ZCh (ZS (ZA ZG ZE)) (ZB 7)) ZE))))))
(ZI (ZR (ZS (ZA ZG (ZA (ZQ ZCh (ZS (ZA (ZB 8) ZE)) (ZB 7)) ZE)))))))))
theorem ZEd:FnScope ["_law_script","_law_k","_law_cell"] ["_law_script","_law_k"] (ZM (top 59)):=⟨rfl,rfl,rfl,by decide +kernel,rfl,by decide +kernel,by decide +kernel⟩
theorem ZIg (T:Txt K mg A):FnOk P w K mg base CX0 1 A.f__law_box A.fd__law_box ["_law_script","_law_k"] (spD K 2 ZBU):=by
 exact ZX (d:=ZEe) (r:=ZBU) (n:=3) (by unfold ZBU; rfl) rfl rfl T.D__law_box.fn ZEd λ cdv A outer s H E hr=>(
(ZF (ZO (i:=2) ZEd.nd rfl (Or.inl rfl) ZG)
(ZF (Zp (ZV (oLt hr.units) (ZB 1) (ZT ZCP rfl T.z_len boot_len (ZA (ZB 0) ZE)) (ZZ _))
(ZI (ZO (i:=2) ZEd.nd rfl (Or.inl rfl) (ZU oIx (ZB 0) (ZB 1) (λ _ _=>rfl))))
Ze)
(ZI (ZR (ZAy (ZA (ZQ ZCh (ZQ ZFp (ZT ZSY rfl T.z_abs boot_abs (ZA (ZB 2) ZE)) (ZIq (a:=10) (b:=60) ⟨by decide,by decide,by decide⟩ (by decide +kernel))) (Zo ZNg rfl T.z_int boot_int (ZA (Zy (oGe hr.units) (ZT ZSY rfl T.z_abs boot_abs (ZA (ZB 2) ZE)) (ZIq (a:=10) (b:=18) ⟨by decide,by decide,by decide⟩ (by decide +kernel)) (ZZ _)) ZE))) (ZA (ZQ ZFp (ZQ ZAm (ZQ ZAm (ZB 2) (ZQ ZCh (ZQ ZCh ZG (ZB 1)) (ZB 1))) (ZQ ZCh ZG (ZB 1))) ZG) (ZA ZG ZE)))))))))
theorem ZD3:FnScope ["_law_box_here","_law_many","_law_told","_law_once"] ["_law_box_here","_law_many"] (ZM (top 60)):=⟨rfl,rfl,rfl,by decide +kernel,rfl,by decide +kernel,by decide +kernel⟩
theorem ZA0 (T:Txt K mg A):FnOk P w K mg base CX0 1 A.f__law_take A.fd__law_take ["_law_box_here","_law_many"] (spD K 2 ZN):=by
 exact ZX (d:=ZD5) (r:=ZN) (n:=4) (by unfold ZN; rfl) rfl rfl T.D__law_take.fn ZD3 λ cdv A outer s H E hr=>(
(ZF (Zp (ZV (oGt hr.units) (ZU oIx (ZB 0) ZG (λ _ _=>rfl)) ZG (ZZ _))
(ZF (ZO (i:=2) ZD3.nd rfl (Or.inl rfl) (ZQ ZFp (ZU oIx (ZB 0) ZG (λ _ _=>rfl)) (ZB 1)))
(ZF (ZIy (ZQ ZLO (ZU oIx (ZB 0) ZG (λ _ _=>rfl)) (ZB 1)) (ZB 0) ZG)
(ZI (ZR (ZB 2)))))
Ze)
(ZF (ZIy (ZQ ZAm (ZU oIx (ZB 0) ZG (λ _ _=>rfl)) ZG) (ZB 0) ZG)
(ZF (ZO (i:=3) ZD3.nd rfl (Or.inl rfl) (ZQ ZFp (ZQ ZAm (ZQ ZAm (ZQ ZCh (ZU oIx (ZB 0) ZG (λ _ _=>rfl)) ZG) (ZQ ZCh ZG (ZU oIx (ZB 0) ZG (λ _ _=>rfl)))) ZG) ZG))
(ZF (ZIy (ZQ ZFp (ZQ ZAm (ZQ ZCh (ZB 3) (ZB 3)) (ZU oIx (ZB 0) ZG (λ _ _=>rfl))) ZG) (ZB 0) ZG)
(ZI (ZR (ZQ ZFp (ZQ ZLO (ZU oIx (ZB 0) ZG (λ _ _=>rfl)) ZG) (ZB 1)))))))))
theorem ZAc:FnScope ["_law_box_here","_law_whole","_law_told","_law_carry","_law_wait","_law_words","_law_mode","_law_gone_one","_law_some"] ["_law_box_here","_law_whole"] (ZM (top 61)):=⟨rfl,rfl,rfl,by decide +kernel,rfl,by decide +kernel,by decide +kernel⟩
theorem ZGv (T:Txt K mg A):FnOk P w K mg base CX0 2 A.f__law_rules A.fd__law_rules ["_law_box_here","_law_whole"] (spD K 2 ZAv):=by
 have G_law_take:=ZA0 (P:=P) (w:=w) (base:=base) T
 exact ZX (d:=ZDC) (r:=ZAv) (n:=9) (by unfold ZAv; rfl) rfl rfl T.D__law_rules.fn ZAc λ cdv A outer s H E hr=>(
(ZF (ZO (i:=2) ZAc.nd rfl (Or.inl rfl) (ZU oIx (ZBv (ZA (ZJ T.D__law_take G_law_take (hr.mono (by decide)) (ZA (ZB 0) (ZA ZG ZE)) (.cons (.cons .nil))) (ZA (ZJ T.D__law_take G_law_take (hr.mono (by decide)) (ZA (ZB 0) (ZA ZG ZE)) (.cons (.cons .nil))) ZE))) (ZJ T.D__law_take G_law_take (hr.mono (by decide)) (ZA (ZB 0) (ZA ZG ZE)) (.cons (.cons .nil))) (λ _ _=>rfl)))
(ZF (ZO (i:=3) ZAc.nd rfl (Or.inl rfl) (ZU oIx (ZBv (ZA (ZJ T.D__law_take G_law_take (hr.mono (by decide)) (ZA (ZB 0) (ZA ZG ZE)) (.cons (.cons .nil))) (ZA (ZJ T.D__law_take G_law_take (hr.mono (by decide)) (ZA (ZB 0) (ZA ZG ZE)) (.cons (.cons .nil))) ZE))) (ZJ T.D__law_take G_law_take (hr.mono (by decide)) (ZA (ZB 0) (ZA ZG ZE)) (.cons (.cons .nil))) (λ _ _=>rfl)))
(ZF (ZO (i:=4) ZAc.nd rfl (Or.inl rfl) (ZQ ZAm ZG (ZU oIx (ZBv (ZA (ZJ T.D__law_take G_law_take (hr.mono (by decide)) (ZA (ZB 0) (ZA ZG ZE)) (.cons (.cons .nil))) (ZA (ZJ T.D__law_take G_law_take (hr.mono (by decide)) (ZA (ZB 0) (ZA ZG ZE)) (.cons (.cons .nil))) ZE))) (ZQ ZLO (ZJ T.D__law_take G_law_take (hr.mono (by decide)) (ZA (ZB 0) (ZA ZG ZE)) (.cons (.cons .nil))) ZG) (λ _ _=>rfl))))
(ZF (ZO (i:=5) ZAc.nd rfl (Or.inl rfl) (ZS (ZA ZA1 (ZA ZA1 (ZA ZA1 (ZA ZA1 (ZA ZA1 (ZA ZA1 (ZA ZA1 ZE)))))))))
(ZF (ZO (i:=6) ZAc.nd rfl (Or.inr rfl) (ZJ T.D__law_take G_law_take (hr.mono (by decide)) (ZA (ZB 0) (ZA ZG ZE)) (.cons (.cons .nil))))
(ZF (Zp (JW.pt (ZFD (ZAH (ZB 1)) (ZEB (ZV (oEq hr.units) (ZB 6) ZG (ZZ _)))))
(ZI (ZR (ZS (ZA (ZJ T.D__law_take G_law_take (hr.mono (by decide)) (ZA (ZB 0) (ZA ZG ZE)) (.cons (.cons .nil))) (ZA (ZB 4) (ZA (ZB 2) (ZA (ZB 3) (ZA (ZB 5) ZE))))))))
Ze)
(ZF (ZO (i:=7) ZAc.nd rfl (Or.inr rfl) (ZU oIx (ZB 5) (ZJ T.D__law_take G_law_take (hr.mono (by decide)) (ZA (ZB 0) (ZA ZG ZE)) (.cons (.cons .nil))) (λ _ _=>rfl)))
(ZF (ZO (i:=8) ZAc.nd rfl (Or.inl rfl) (Zo ZEk rfl T.z_tuple boot_tuple (ZA (Z6 (sc:=ZM (top 61)) (NX:=["_law_box_here","_law_whole","_law_told","_law_carry","_law_wait","_law_words","_law_mode","_law_gone_one","_law_some"]) (N:=["_law_word","_law_gone_one","_law_mode","_law_box_here"]) (own:=1) (cap:=[7,6,0]) rfl (ZAT (ZB 5)) rfl rfl (λ cl C s0 H0 fp=>⟨(ZK (i:=0) (by show (["_law_word","_law_gone_one","_law_mode","_law_box_here"]:List Str).Nodup; decide +kernel) rfl (Or.inl rfl)),(ZB1 (JW.pt (ZAK (ZV (oNe hr.units) (ZB 0) (ZB 1) (ZZ _)) (ZAb (JW.pt (ZFD (ZV (oEq hr.units) (ZB 2) ZG (ZZ _)) (ZEB (ZV (oEq hr.units) (ZJ T.D__law_take G_law_take (hr.mono (by decide)) (ZA (ZB 3) (ZA ZG ZE)) (.cons (.cons .nil))) ZG (ZZ _))))))))),(ZB 0)⟩) (by decide +kernel) rfl) ZE)))
(ZI (ZR (ZS (ZA (ZJ T.D__law_take G_law_take (hr.mono (by decide)) (ZA (ZB 0) (ZA ZG ZE)) (.cons (.cons .nil))) (ZA (ZB 4) (ZA (ZB 2) (ZA (ZB 3) (ZA (ZB 8) ZE)))))))))))))))))
theorem ZB0:FnScope ["_law_box_here","_law_most_here","_law_n","_law_found","_law_house","_law_pace"] ["_law_box_here","_law_most_here"] (ZM (top 62)):=⟨rfl,rfl,rfl,by decide +kernel,rfl,by decide +kernel,by decide +kernel⟩
theorem ZHK (T:Txt K mg A):FnOk P w K mg base CX0 2 A.f__law_town A.fd__law_town ["_law_box_here","_law_most_here"] (spD K 2 ZA7):=by
 have G_law_take:=ZA0 (P:=P) (w:=w) (base:=base) T
 exact ZX (d:=ZDl) (r:=ZA7) (n:=6) (by unfold ZA7; rfl) rfl rfl T.D__law_town.fn ZB0 λ cdv A outer s H E hr=>(
(ZF (ZO (i:=2) ZB0.nd rfl (Or.inl rfl) (ZT (ZRw rfl) rfl T.z_min boot_min (ZA (ZB 1) (ZA (ZU oIx (ZBv (ZA ZG (ZA ZG (ZA ZG (ZA ZG (ZA ZG (ZA (ZQ ZAm ZG (ZJ T.D__law_take G_law_take (hr.mono (by decide)) (ZA (ZB 0) (ZA ZG ZE)) (.cons (.cons .nil)))) ZE))))))) (ZJ T.D__law_take G_law_take (hr.mono (by decide)) (ZA (ZB 0) (ZA ZG ZE)) (.cons (.cons .nil))) (λ _ _=>rfl)) ZE))))
(ZF (ZO (i:=3) ZB0.nd rfl (Or.inl rfl) (ZAy ZE))
(ZF (ZAN PassesOwn.never rfl (ZAI rfl T.z_range (ZA (ZB 2) ZE) (hn:=(.cons .nil))) (ZK (i:=4) ZB0.nd rfl (Or.inl rfl))
(ZF (ZO (i:=5) ZB0.nd rfl (Or.inl rfl) (ZU oIx (ZBv (ZA ZG (ZA (ZQ ZAm ZG (ZJ T.D__law_take G_law_take (hr.mono (by decide)) (ZA (ZB 0) (ZA ZG ZE)) (.cons (.cons .nil)))) ZE))) (ZJ T.D__law_take G_law_take (hr.mono (by decide)) (ZA (ZB 0) (ZA ZG ZE)) (.cons (.cons .nil))) (λ _ _=>rfl)))
(ZI (ZAa (ZBx (ZB 3) (ZS (ZA (ZB 5) (ZA (ZJ T.D__law_take G_law_take (hr.mono (by decide)) (ZA (ZB 0) (ZA (ZB 5) ZE)) (.cons (.cons .nil))) ZE))))))))
(ZI (ZR (Zo ZEk rfl T.z_tuple boot_tuple (ZA (ZB 3) ZE))))))))
theorem Z2:FnScope ["_law_box_here","_law_rules_here","_law_town_here","_law_n","_law_far","_law_calm","_law_houses","_law_house","_law_up","_law_book","_law_told","_law_timers"] ["_law_box_here","_law_rules_here","_law_town_here"] (ZM (top 63)):=⟨rfl,rfl,rfl,by decide +kernel,rfl,by decide +kernel,by decide +kernel⟩
theorem ZGg (T:Txt K mg A):FnOk P w K mg base CX0 2 A.f__law_state A.fd__law_state ["_law_box_here","_law_rules_here","_law_town_here"] (spD K 3 ZAu):=by
 have G_law_take:=ZA0 (P:=P) (w:=w) (base:=base) T
 exact ZX (d:=ZDL) (r:=ZAu) (n:=12) (by unfold ZAu; rfl) rfl rfl T.D__law_state.fn Z2 λ cdv A outer s H E hr=>(
(ZF (ZO (i:=3) Z2.nd rfl (Or.inl rfl) (ZT ZCP rfl T.z_len boot_len (ZA (ZB 2) ZE)))
(ZF (ZO (i:=4) Z2.nd rfl (Or.inr rfl) (ZU oIx (ZBv (ZA ZG (ZA ZG (ZA ZG (ZA (ZJ T.D__law_take G_law_take (hr.mono (by decide)) (ZA (ZB 0) (ZA ZG ZE)) (.cons (.cons .nil))) ZE))))) (ZJ T.D__law_take G_law_take (hr.mono (by decide)) (ZA (ZB 0) (ZA ZG ZE)) (.cons (.cons .nil))) (λ _ _=>rfl)))
(ZF (ZO (i:=5) Z2.nd rfl (Or.inr rfl) (ZJ T.D__law_take G_law_take (hr.mono (by decide)) (ZA (ZB 0) (ZA ZG ZE)) (.cons (.cons .nil))))
(ZF (ZO (i:=6) Z2.nd rfl (Or.inl rfl) (ZAy ZE))
(ZF (ZAN PassesOwn.never rfl (ZAI rfl T.z_range (ZA (ZB 3) ZE) (hn:=(.cons .nil))) (ZK (i:=7) Z2.nd rfl (Or.inr rfl))
(ZF (ZO (i:=8) Z2.nd rfl (Or.inr rfl) (Zo ZNg rfl T.z_int boot_int (ZA (Zy (oGt hr.units) (ZJ T.D__law_take G_law_take (hr.mono (by decide)) (ZA (ZB 0) (ZA ZG ZE)) (.cons (.cons .nil))) ZG (ZZ _)) ZE)))
(ZF (ZO (i:=9) Z2.nd rfl (Or.inl rfl) (Zo ZEk rfl T.z_tuple boot_tuple (ZA (Z6 (sc:=ZM (top 63)) (NX:=["_law_box_here","_law_rules_here","_law_town_here","_law_n","_law_far","_law_calm","_law_houses","_law_house","_law_up","_law_book","_law_told","_law_timers"]) (N:=["_law_k","_law_far","_law_box_here","_law_calm"]) (own:=1) (cap:=[4,0,5]) rfl (ZAI rfl T.z_range (ZA (ZB 3) ZE) (hn:=(.cons .nil))) rfl rfl (λ cl C s0 H0 fp=>⟨(ZK (i:=0) (by show (["_law_k","_law_far","_law_box_here","_law_calm"]:List Str).Nodup; decide +kernel) rfl (Or.inl rfl)),ZAz,(ZS (ZA (ZQ ZAm (ZB 1) (ZJ T.D__law_take G_law_take (hr.mono (by decide)) (ZA (ZB 2) (ZA ZG ZE)) (.cons (.cons .nil)))) (ZA (ZU oIx (ZBv (ZA (ZJ T.D__law_take G_law_take (hr.mono (by decide)) (ZA (ZB 2) (ZA ZG ZE)) (.cons (.cons .nil))) (ZA ZG ZE))) (Zo ZNg rfl T.z_int boot_int (ZA (Zy (oEq hr.units) (ZB 3) ZG (ZZ _)) ZE)) (λ _ _=>rfl)) ZE)))⟩) (by decide +kernel) rfl) ZE)))
(ZF (ZO (i:=10) Z2.nd rfl (Or.inl rfl) (Zo ZEk rfl T.z_tuple boot_tuple (ZA (Z6 (sc:=ZM (top 63)) (NX:=["_law_box_here","_law_rules_here","_law_town_here","_law_n","_law_far","_law_calm","_law_houses","_law_house","_law_up","_law_book","_law_told","_law_timers"]) (N:=["_law_k","_law_box_here","_law_rules_here"]) (own:=1) (cap:=[0,1]) rfl (ZAI rfl T.z_range (ZA (ZB 3) ZE) (hn:=(.cons .nil))) rfl rfl (λ cl C s0 H0 fp=>⟨(ZK (i:=0) (by show (["_law_k","_law_box_here","_law_rules_here"]:List Str).Nodup; decide +kernel) rfl (Or.inl rfl)),ZAz,(ZJ T.D__law_take G_law_take (hr.mono (by decide)) (ZA (ZB 1) (ZA (ZQ ZAm (ZU oIx (ZB 2) ZG (λ _ _=>rfl)) ZG) ZE)) (.cons (.cons .nil)))⟩) (by decide +kernel) rfl) ZE)))
(ZF (ZO (i:=11) Z2.nd rfl (Or.inr rfl) (Zo ZEk rfl T.z_tuple boot_tuple (ZA (Z6 (sc:=ZM (top 63)) (NX:=["_law_box_here","_law_rules_here","_law_town_here","_law_n","_law_far","_law_calm","_law_houses","_law_house","_law_up","_law_book","_law_told","_law_timers"]) (N:=["_law_k","_law_box_here","_law_rules_here"]) (own:=1) (cap:=[0,1]) rfl (ZAI rfl T.z_range (ZA (ZB 3) ZE) (hn:=(.cons .nil))) rfl rfl (λ cl C s0 H0 fp=>⟨(ZK (i:=0) (by show (["_law_k","_law_box_here","_law_rules_here"]:List Str).Nodup; decide +kernel) rfl (Or.inl rfl)),ZAz,(ZQ ZCh (ZJ T.D__law_take G_law_take (hr.mono (by decide)) (ZA (ZB 1) (ZA (ZQ ZAm (ZU oIx (ZB 2) ZG (λ _ _=>rfl)) ZG) ZE)) (.cons (.cons .nil))) (Zo ZNg rfl T.z_int boot_int (ZA (Zy (oEq hr.units) (ZJ T.D__law_take G_law_take (hr.mono (by decide)) (ZA (ZB 1) (ZA ZG ZE)) (.cons (.cons .nil))) ZG (ZZ _)) ZE)))⟩) (by decide +kernel) rfl) ZE)))
(ZF (ZO (i:=11) Z2.nd rfl (Or.inr rfl) (Zo ZEk rfl T.z_tuple boot_tuple (ZA (Z6 (sc:=ZM (top 63)) (NX:=["_law_box_here","_law_rules_here","_law_town_here","_law_n","_law_far","_law_calm","_law_houses","_law_house","_law_up","_law_book","_law_told","_law_timers"]) (N:=["_law_k","_law_up","_law_timers","_law_house"]) (own:=1) (cap:=[8,11,7]) rfl (ZAI rfl T.z_range (ZA (ZB 3) ZE) (hn:=(.cons .nil))) rfl rfl (λ cl C s0 H0 fp=>⟨(ZK (i:=0) (by show (["_law_k","_law_up","_law_timers","_law_house"]:List Str).Nodup; decide +kernel) rfl (Or.inl rfl)),ZAz,(ZQ ZCh (ZQ ZCh (ZU oIx (ZB 2) (ZB 0) (λ _ _=>rfl)) (ZB 1)) (Zo ZNg rfl T.z_int boot_int (ZA (Zy (oNe hr.units) (ZB 0) (ZB 3) (ZZ _)) ZE)))⟩) (by decide +kernel) rfl) ZE)))
(ZI (ZAa (ZBx (ZB 6) (ZS (ZA (ZB 8) (ZA (ZB 9) (ZA (ZB 10) (ZA (ZB 11) ZE))))))))))))))
(ZI (ZR (ZS (ZA (ZJ T.D__law_take G_law_take (hr.mono (by decide)) (ZA (ZB 0) (ZA (ZU oIx (ZBv (ZA ZG (ZA ZG (ZA (ZIq (a:=10) (b:=5) ⟨by decide,by decide,by decide⟩ (by decide +kernel)) ZE)))) (ZJ T.D__law_take G_law_take (hr.mono (by decide)) (ZA (ZB 0) (ZA ZG ZE)) (.cons (.cons .nil))) (λ _ _=>rfl)) ZE)) (.cons (.cons .nil))) (ZA (Zo ZEk rfl T.z_tuple boot_tuple (ZA (ZB 6) ZE)) ZE)))))))))))
theorem ZFY:FnScope ["_law_box_here","_law_most_here","_law_mode"] ["_law_box_here","_law_most_here"] (ZM (top 64)):=⟨rfl,rfl,rfl,by decide +kernel,rfl,by decide +kernel,by decide +kernel⟩
theorem ZG2 (T:Txt K mg A):FnOk P w K mg base CX0 2 A.f__law_lost A.fd__law_lost ["_law_box_here","_law_most_here"] (spD K 2 ZBC):=by
 have G_law_take:=ZA0 (P:=P) (w:=w) (base:=base) T
 exact ZX (d:=ZDs) (r:=ZBC) (n:=3) (by unfold ZBC; rfl) rfl rfl T.D__law_lost.fn ZFY λ cdv A outer s H E hr=>(
(ZF (ZO (i:=2) ZFY.nd rfl (Or.inr rfl) (ZJ T.D__law_take G_law_take (hr.mono (by decide)) (ZA (ZB 0) (ZA ZG ZE)) (.cons (.cons .nil))))
(ZF (Zp (ZV (oEq hr.units) (ZB 2) ZG (ZZ _))
(ZI (ZR (ZS ZE)))
Ze)
(ZF (Zp (ZV (oEq hr.units) (ZB 2) ZG (ZZ _))
(ZI (ZR (ZGf rfl rfl T.z_tuple rfl T.z_range (ZB 1))))
Ze)
(ZI (ZR (Zo ZEk rfl T.z_tuple boot_tuple (ZA (Z6 (sc:=ZM (top 64)) (NX:=["_law_box_here","_law_most_here","_law_mode"]) (N:=["_law_k","_law_box_here","_law_mode"]) (own:=1) (cap:=[0,2]) rfl (ZAI rfl T.z_range (ZA (ZB 1) ZE) (hn:=(.cons .nil))) rfl rfl (λ cl C s0 H0 fp=>⟨(ZK (i:=0) (by show (["_law_k","_law_box_here","_law_mode"]:List Str).Nodup; decide +kernel) rfl (Or.inl rfl)),(ZB1 (ZV (oEq hr.units) (ZJ T.D__law_take G_law_take (hr.mono (by decide)) (ZA (ZB 1) (ZA (ZU oIx (ZBv (ZA ZG (ZA ZG (ZA ZG ZE)))) (ZQ ZGp (ZB 2) ZG) (λ _ _=>rfl)) ZE)) (.cons (.cons .nil))) ZG (ZZ _))),(ZB 0)⟩) (by decide +kernel) rfl) ZE))))))))
theorem ZBM:FnScope ["_law_box_here","_law_state_here","_law_moves","_law_falls","_law_leaves","_law_comes","_law_house","_law_told","_law_way"] ["_law_box_here","_law_state_here","_law_moves"] (ZM (top 65)):=⟨rfl,rfl,rfl,by decide +kernel,rfl,by decide +kernel,by decide +kernel⟩
theorem ZFo (T:Txt K mg A):FnOk P w K mg base CX0 3 A.f__law_doings A.fd__law_doings ["_law_box_here","_law_state_here","_law_moves"] (spD K 3 ZAP):=by
 have G_law_take:=ZA0 (P:=P) (w:=w) (base:=base) T
 have G_law_lost:=ZG2 (P:=P) (w:=w) (base:=base) T
 exact ZX (d:=ZC3) (r:=ZAP) (n:=9) (by unfold ZAP; rfl) rfl rfl T.D__law_doings.fn ZBM λ cdv A outer s H E hr=>(
(ZF (ZJL (i:=3) (j:=4) (l:=5) rfl ZBM.nd rfl rfl rfl rfl rfl rfl (ZA (ZAy ZE) (ZA (ZAy ZE) (ZA (ZAy ZE) ZE))))
(ZF (ZAN PassesOwn.never rfl (ZCT rfl T.z_enumerate (ZA (ZU oIx (ZB 1) ZG (λ _ _=>rfl)) ZE) (hn:=(.cons .nil))) (Zd rfl (ZH (ZK (i:=6) ZBM.nd rfl (Or.inl rfl)) (ZH (ZK (i:=7) ZBM.nd rfl (Or.inl rfl)) ZW)))
(ZF (ZO (i:=8) ZBM.nd rfl (Or.inl rfl) (ZJ T.D__law_take G_law_take (hr.mono (by decide)) (ZA (ZB 0) (ZA ZG ZE)) (.cons (.cons .nil))))
(ZF (Zp (JW.pt (ZAK (ZAH (ZB 2)) (ZAK (ZV (oEq hr.units) (ZU oIx (ZB 7) ZG (λ _ _=>rfl)) ZG (ZZ _)) (ZAb (ZV (oLt hr.units) (ZB 8) ZG (ZZ _))))))
(ZI (ZAa (ZBx (ZNy (ZA (ZB 3) (ZA (ZB 4) ZE)) (ZB 8) (λ _ _=>rfl)) (ZB 6))))
Ze)
(ZI (Zp (JW.pt (ZAK (ZAH (ZB 2)) (ZAK (ZV (oEq hr.units) (ZU oIx (ZB 7) ZG (λ _ _=>rfl)) ZG (ZZ _)) (ZAb (ZV (oLt hr.units) (ZB 8) ZG (ZZ _))))))
(ZI (ZAa (ZBx (ZB 5) (ZB 6))))
Ze)))))
(ZI (ZR (ZS (ZA (ZJ T.D__law_lost G_law_lost (hr.mono (by decide)) (ZA (ZB 0) (ZA ZG ZE)) (.cons (.cons .nil))) (ZA (Zo ZEk rfl T.z_tuple boot_tuple (ZA (ZB 3) ZE)) (ZA (Zo ZEk rfl T.z_tuple boot_tuple (ZA (ZB 4) ZE)) (ZA (Zo ZEk rfl T.z_tuple boot_tuple (ZA (ZB 5) ZE)) ZE))))))))))
theorem ZAZ:FnScope ["_law_rules_here","_law_town_here","_law_state_here","_law_doings_here","_law_n","_law_many","_law_house","_law_pace","_law_start","_law_up","_law_asked"] ["_law_rules_here","_law_town_here","_law_state_here","_law_doings_here"] (ZM (top 66)):=⟨rfl,rfl,rfl,by decide +kernel,rfl,by decide +kernel,by decide +kernel⟩
theorem ZG8 (T:Txt K mg A):FnOk P w K mg base CX0 1 A.f__law_most A.fd__law_most ["_law_rules_here","_law_town_here","_law_state_here","_law_doings_here"] (spD K 4 ZA9):=by
 exact ZX (d:=ZDg) (r:=ZA9) (n:=11) (by unfold ZA9; rfl) rfl rfl T.D__law_most.fn ZAZ λ cdv A outer s H E hr=>(
(ZF (ZO (i:=4) ZAZ.nd rfl (Or.inl rfl) (ZT ZCP rfl T.z_len boot_len (ZA (ZB 1) ZE)))
(ZF (ZO (i:=5) ZAZ.nd rfl (Or.inl rfl) (ZQ ZCh (ZQ ZGp (ZB 4) ZG) (ZQ ZAm (ZT ZCP rfl T.z_len boot_len (ZA (ZU oIx (ZB 3) ZG (λ _ _=>rfl)) ZE)) (ZT ZCP rfl T.z_len boot_len (ZA (ZU oIx (ZB 3) ZG (λ _ _=>rfl)) ZE)))))
(ZF (ZAN PassesOwn.never rfl (ZCT rfl T.z_enumerate (ZA (ZB 1) ZE) (hn:=(.cons .nil))) (Zd rfl (ZH (ZK (i:=6) ZAZ.nd rfl (Or.inl rfl)) (ZH (Zd rfl (ZH (ZK (i:=7) ZAZ.nd rfl (Or.inl rfl)) (ZH (ZK (i:=8) ZAZ.nd rfl (Or.inl rfl)) ZW))) ZW)))
(ZF (ZO (i:=9) ZAZ.nd rfl (Or.inl rfl) (ZNQ (ZA2 (Zy (oEq hr.units) (ZU oIx (ZU oIx (ZU oIx (ZB 2) ZG (λ _ _=>rfl)) (ZB 6) (λ _ _=>rfl)) ZG (λ _ _=>rfl)) ZG (ZZ _)) (ZBN (Zy (ZGC hr.units) (ZB 6) (ZQ ZAm (ZU oIx (ZB 3) ZG (λ _ _=>rfl)) (ZU oIx (ZB 3) ZG (λ _ _=>rfl))) (by with_unfolding_all rfl)))) (ZBN (Zy (oIn hr.units) (ZB 6) (ZU oIx (ZB 3) ZG (λ _ _=>rfl)) (by with_unfolding_all rfl)))))
(ZI (Zp (JW.pt (ZAK (ZAH (ZB 9)) (ZAb (ZV (oEq hr.units) (ZQ ZFp (ZQ ZGp (ZU oIx (ZB 2) ZG (λ _ _=>rfl)) (ZB 8)) (ZB 7)) ZG (ZZ _)))))
(ZF (ZO (i:=10) ZAZ.nd rfl (Or.inl rfl) (ZQ ZAm ZG (ZT ZCP rfl T.z_len boot_len (ZA (Z6 (sc:=ZM (top 66)) (NX:=["_law_rules_here","_law_town_here","_law_state_here","_law_doings_here","_law_n","_law_many","_law_house","_law_pace","_law_start","_law_up","_law_asked"]) (N:=["_law_timer"]) (own:=1) (cap:=[]) rfl (ZAT (ZU oIx (ZU oIx (ZU oIx (ZB 2) ZG (λ _ _=>rfl)) (ZB 6) (λ _ _=>rfl)) ZG (λ _ _=>rfl))) rfl rfl (λ cl C s0 H0 fp=>⟨(ZK (i:=0) (by show (["_law_timer"]:List Str).Nodup; decide +kernel) rfl (Or.inl rfl)),(ZB1 (ZV (oGt hr.units) (ZB 0) ZG (ZZ _))),(ZB 0)⟩) (by decide +kernel) rfl) ZE))))
(ZI (ZO (i:=5) ZAZ.nd rfl (Or.inl rfl) (ZQ ZAm (ZB 5) (ZQ ZCh (ZB 10) (ZQ ZAm ZG (ZQ ZCh ZG (ZT (ZRw rfl) rfl T.z_min boot_min (ZA (ZU oIx (ZB 0) ZG (λ _ _=>rfl)) (ZA (ZQ ZGp (ZB 4) ZG) ZE))))))))))
Ze))))
(ZI (ZR (ZB 5)))))))
theorem ZDT:FnScope ["_law_rules_here","_law_town_here","_law_state_here","_law_doings_here","_law_letters","_law_due","_law_found"] ["_law_rules_here","_law_town_here","_law_state_here","_law_doings_here","_law_letters"] (ZM (top 67)):=⟨rfl,rfl,rfl,by decide +kernel,rfl,by decide +kernel,by decide +kernel⟩
theorem ZGX (T:Txt K mg A):FnOk P w K mg base CX0 3 A.f__law_right A.fd__law_right ["_law_rules_here","_law_town_here","_law_state_here","_law_doings_here","_law_letters"] (spD K 5 ZAM):=by
 have G_law_most:=ZG8 (P:=P) (w:=w) (base:=base) T
 have Gletters_most:=ZFL (P:=P) (w:=w) (base:=base) T
 exact ZX (d:=ZDN) (r:=ZAM) (n:=7) (by unfold ZAM; rfl) rfl rfl T.D__law_right.fn ZDT λ cdv A outer s H E hr=>(
(ZF (ZO (i:=5) ZDT.nd rfl (Or.inl rfl) (ZJ T.D__law_most G_law_most (hr.mono (by decide)) (ZA (ZB 0) (ZA (ZB 1) (ZA (ZB 2) (ZA (ZB 3) ZE)))) (.cons (.cons (.cons (.cons .nil))))))
(ZF (ZO (i:=6) ZDT.nd rfl (Or.inl rfl) (ZJ T.D_letters_most Gletters_most (hr.mono (by decide)) (ZA (ZB 0) (ZA (ZB 1) (ZA (ZB 2) (ZA (ZB 3) ZE)))) (.cons (.cons (.cons (.cons .nil))))))
(ZI (ZR (ZA2 (ZT ZLm rfl T.z_isinstance boot_isinstance (ZA (ZB 6) (ZA (ZFI (n:="int") rfl T.z_int boot_int) ZE))) (ZA2 (ZLK (ZT ZLm rfl T.z_isinstance boot_isinstance (ZA (ZB 6) (ZA (ZFI (n:="bool") rfl T.z_bool boot_bool) ZE)))) (ZA2 (Zy (oEq hr.units) (ZB 6) (ZB 5) (ZZ _)) (ZBN (Zy oLe (ZT ZCP rfl T.z_len boot_len (ZA (ZB 4) ZE)) (ZB 5) (ZZ _)))))))))))
theorem ZBi:FnScope ["_law_script","_law_k","_law_box_here","_law_rules_here","_law_town_here","_law_first","_law_state_here","_law_row","_law_sent","_law_turn","_law_doings_here","_law_later","_law_letters"] ["_law_script"] (ZM (top 68)):=⟨rfl,rfl,rfl,by decide +kernel,rfl,by decide +kernel,by decide +kernel⟩
theorem ZPO (T:Txt K mg A) {f:Addr} {fd:FuncData} (F:Fun K "law" "law" (top 68) f fd):FnOk P w K mg base CX0 13 f fd ["_law_script"] (spD K 1 ZGu):=by
 have G_law_box:=ZIg (P:=P) (w:=w) (base:=base) T
 have G_law_rules:=ZGv (P:=P) (w:=w) (base:=base) T
 have G_law_town:=ZHK (P:=P) (w:=w) (base:=base) T
 have Gbegun:=ZMG (P:=P) (w:=w) (base:=base) T
 have G_law_take:=ZA0 (P:=P) (w:=w) (base:=base) T
 have G_law_state:=ZGg (P:=P) (w:=w) (base:=base) T
 have G_law_doings:=ZFo (P:=P) (w:=w) (base:=base) T
 have Gstepped:=ZFd (P:=P) (w:=w) (base:=base) T
 have Gwalked:=ZKD (P:=P) (w:=w) (base:=base) T
 have G_law_right:=ZGX (P:=P) (w:=w) (base:=base) T
 exact ZX (d:=ZMm) (r:=ZGu) (n:=13) (by unfold ZGu; rfl) rfl rfl F ZBi λ cdv A outer s H E hr=>(
(ZF (ZAN PassesOwn.never rfl (ZAI rfl T.z_range (ZA (ZQ ZAm ZG (ZT ZCP rfl T.z_len boot_len (ZA (ZEZ (ZB 0) ZCW (ZCZ ZG)) ZE))) ZE) (hn:=(.cons .nil))) (ZK (i:=1) ZBi.nd rfl (Or.inl rfl))
(ZF (ZO (i:=2) ZBi.nd rfl (Or.inl rfl) (ZJ T.D__law_box G_law_box (hr.mono (by decide)) (ZA (ZB 0) (ZA (ZB 1) ZE)) (.cons (.cons .nil))))
(ZF (ZO (i:=3) ZBi.nd rfl (Or.inl rfl) (ZJ T.D__law_rules G_law_rules (hr.mono (by decide)) (ZA (ZB 2) (ZA ZCC ZE)) (.cons (.cons .nil))))
(ZF (ZO (i:=4) ZBi.nd rfl (Or.inl rfl) (ZJ T.D__law_town G_law_town (hr.mono (by decide)) (ZA (ZB 2) (ZA ZG ZE)) (.cons (.cons .nil))))
(ZF (ZO (i:=5) ZBi.nd rfl (Or.inl rfl) (ZJ T.D_begun Gbegun (hr.mono (by decide)) (ZA (ZB 3) (ZA (ZB 4) ZE)) (.cons (.cons .nil))))
(ZF (Zp (ZV (oEq hr.units) (ZJ T.D__law_take G_law_take (hr.mono (by decide)) (ZA (ZB 2) (ZA ZG ZE)) (.cons (.cons .nil))) ZG (ZZ _))
(ZI (ZO (i:=5) ZBi.nd rfl (Or.inl rfl) (ZJ T.D__law_state G_law_state (hr.mono (by decide)) (ZA (ZB 2) (ZA (ZB 3) (ZA (ZB 4) ZE))) (.cons (.cons (.cons .nil))))))
Ze)
(ZF (ZO (i:=6) ZBi.nd rfl (Or.inl rfl) (ZB 5))
(ZF (Zg (ZS (ZA (ZS ZE) (ZA (ZS ZE) ZE))) (Zd rfl (ZH (ZK (i:=7) ZBi.nd rfl (Or.inl rfl)) (ZH (ZK (i:=8) ZBi.nd rfl (Or.inl rfl)) ZW))))
(ZF (ZAN PassesOwn.never rfl (ZAI rfl T.z_range (ZA (ZQ ZAm ZG (ZJ T.D__law_take G_law_take (hr.mono (by decide)) (ZA (ZB 2) (ZA ZG ZE)) (.cons (.cons .nil)))) ZE) (hn:=(.cons .nil))) (ZK (i:=9) ZBi.nd rfl (Or.inl rfl))
(ZF (ZO (i:=10) ZBi.nd rfl (Or.inl rfl) (ZJ T.D__law_doings G_law_doings (hr.mono (by decide)) (ZA (ZB 2) (ZA (ZB 6) (ZA (Zy (oEq hr.units) (ZJ T.D__law_take G_law_take (hr.mono (by decide)) (ZA (ZB 2) (ZA ZG ZE)) (.cons (.cons .nil))) ZG (ZZ _)) ZE))) (.cons (.cons (.cons .nil)))))
(ZF (Zp (ZV (oEq hr.units) (ZJ T.D__law_take G_law_take (hr.mono (by decide)) (ZA (ZB 2) (ZA ZG ZE)) (.cons (.cons .nil))) ZG (ZZ _))
(ZI (ZO (i:=10) ZBi.nd rfl (Or.inl rfl) (ZQ ZAm (ZS (ZA (ZGf rfl rfl T.z_tuple rfl T.z_range ZG) ZE)) (ZEZ (ZB 10) (ZCZ ZG) ZCW))))
Ze)
(ZF (Zg (ZJ T.D_stepped Gstepped (hr.mono (by decide)) (ZA (ZB 3) (ZA (ZB 4) (ZA (ZB 6) (ZA (ZB 10) ZE)))) (.cons (.cons (.cons (.cons .nil))))) (Zd rfl (ZH (ZK (i:=11) ZBi.nd rfl (Or.inl rfl)) (ZH (ZK (i:=12) ZBi.nd rfl (Or.inl rfl)) ZW))))
(ZF (Zp (ZEE (ZAH (ZJ T.D__law_right G_law_right (hr.mono (by decide)) (ZA (ZB 3) (ZA (ZB 4) (ZA (ZB 6) (ZA (ZB 10) (ZA (ZB 12) ZE))))) (.cons (.cons (.cons (.cons (.cons .nil))))))))
(ZI (ZR ZCC))
Ze)
(ZF (ZO (i:=7) ZBi.nd rfl (Or.inl rfl) (ZQ ZAm (ZB 7) (ZS (ZA (ZB 10) ZE))))
(ZF (ZO (i:=8) ZBi.nd rfl (Or.inl rfl) (ZQ ZAm (ZB 8) (ZS (ZA (ZB 12) ZE))))
(ZI (ZO (i:=6) ZBi.nd rfl (Or.inl rfl) (ZB 11))))))))))
(ZI (Zp (ZV (oNe hr.units) (ZJ T.D_walked Gwalked (hr.mono (by decide)) (ZA (ZB 3) (ZA (ZB 4) (ZA (ZB 5) (ZA (ZB 7) ZE)))) (.cons (.cons (.cons (.cons .nil))))) (ZS (ZA (ZB 6) (ZA (ZB 8) ZE))) (ZZ _))
(ZI (ZR ZCC))
Ze)))))))))))
(ZI (ZR ZCC))))
def ZLM (K:PySem.W.Frag):Sp:=λ vs H Q _=>∃ (a:Addr) (ns:List Int),vs=[.ref a]/\SqL K H a (ns.map V.int)/\ns.length<=63/\∀ H',Q (.bl true) H'
theorem ZRE (T:Txt K mg A) {f:Addr} {fd:FuncData} (F:Fun K "law" "law" (top 68) f fd):FnOk P w K mg base CX0 13 f fd ["_law_script"] (ZLM K):=ZQq (ZPO T F) λ ns hl=>ZSB hl
end
theorem all_mk {l:PySem.W.OpenLaw} {w:World} {K:PySem.W.Frag} {h:Heap} {mg:Str->Option Value} {fa:Addr} (X:K.In h) (G:h.Ns mainGlobals mg) (hfa:mg "law" = some (.ref fa))
  {cRoad:Addr} (acRoad:PySem.W.nsIn K mainGlobals "Road" = some (some (.ref cRoad))) (pgRoad:PySem.W.plainGet K cRoad Str.empty=true) (hdRoad:PySem.W.hasDictIn K cRoad=true) (poRoad:PySem.W.plainOver K cRoad=true) (saRoad:PySem.W.findIn K (.ref cRoad) "__setattr__" = some (some (.builtin "object.__setattr__"))) (mkRoad:PySem.W.makesIn K cRoad=true) (kcRoad:PySem.W.keepIn K (.ref cRoad)=true) (naRoad0:PySem.W.findIn K (.ref cRoad) "rules" = some none) (naRoad1:PySem.W.findIn K (.ref cRoad) "town" = some none) (naRoad2:PySem.W.findIn K (.ref cRoad) "state" = some none) (naRoad3:PySem.W.findIn K (.ref cRoad) "lost" = some none) (naRoad4:PySem.W.findIn K (.ref cRoad) "letters" = some none)
  {f0:Addr}
  (a0:PySem.W.nsIn K mainGlobals "is_whole" = some (some (.ref f0)))
  (h0:ZAD K "is_whole" "is_whole" (top 1) f0)
  {f1:Addr}
  (a1:PySem.W.nsIn K mainGlobals "is_count" = some (some (.ref f1)))
  (h1:ZAD K "is_count" "is_count" (top 2) f1)
  {f2:Addr}
  (a2:PySem.W.nsIn K mainGlobals "is_tuple_of" = some (some (.ref f2)))
  (h2:ZAD K "is_tuple_of" "is_tuple_of" (top 3) f2)
  {f3:Addr}
  (a3:PySem.W.nsIn K mainGlobals "rises" = some (some (.ref f3)))
  (h3:ZAD K "rises" "rises" (top 4) f3)
  {f4:Addr}
  (a4:PySem.W.nsIn K mainGlobals "put" = some (some (.ref f4)))
  (h4:ZAD K "put" "put" (top 5) f4)
  {f5:Addr}
  (a5:PySem.W.nsIn K mainGlobals "newer" = some (some (.ref f5)))
  (h5:ZAD K "newer" "newer" (top 11) f5)
  {f6:Addr}
  (a6:PySem.W.nsIn K mainGlobals "ticks" = some (some (.ref f6)))
  (h6:ZAD K "ticks" "ticks" (top 13) f6)
  {f7:Addr}
  (a7:PySem.W.nsIn K mainGlobals "ticks_by" = some (some (.ref f7)))
  (h7:ZAD K "ticks_by" "ticks_by" (top 14) f7)
  {f8:Addr}
  (a8:PySem.W.nsIn K mainGlobals "target" = some (some (.ref f8)))
  (h8:ZAD K "target" "target" (top 15) f8)
  {f9:Addr}
  (a9:PySem.W.nsIn K mainGlobals "notes_of" = some (some (.ref f9)))
  (h9:ZAD K "notes_of" "notes_of" (top 17) f9)
  {f10:Addr}
  (a10:PySem.W.nsIn K mainGlobals "due_houses" = some (some (.ref f10)))
  (h10:ZAD K "due_houses" "due_houses" (top 18) f10)
  {f11:Addr}
  (a11:PySem.W.nsIn K mainGlobals "news_houses" = some (some (.ref f11)))
  (h11:ZAD K "news_houses" "news_houses" (top 19) f11)
  {f12:Addr}
  (a12:PySem.W.nsIn K mainGlobals "taken" = some (some (.ref f12)))
  (h12:ZAD K "taken" "taken" (top 20) f12)
  {f13:Addr}
  (a13:PySem.W.nsIn K mainGlobals "refuted" = some (some (.ref f13)))
  (h13:ZAD K "refuted" "refuted" (top 21) f13)
  {f14:Addr}
  (a14:PySem.W.nsIn K mainGlobals "noted" = some (some (.ref f14)))
  (h14:ZAD K "noted" "noted" (top 22) f14)
  {f15:Addr}
  (a15:PySem.W.nsIn K mainGlobals "gives_way" = some (some (.ref f15)))
  (h15:ZAD K "gives_way" "gives_way" (top 23) f15)
  {f16:Addr}
  (a16:PySem.W.nsIn K mainGlobals "posted" = some (some (.ref f16)))
  (h16:ZAD K "posted" "posted" (top 25) f16)
  {f17:Addr}
  (a17:PySem.W.nsIn K mainGlobals "with_house" = some (some (.ref f17)))
  (h17:ZAD K "with_house" "with_house" (top 26) f17)
  {f18:Addr}
  (a18:PySem.W.nsIn K mainGlobals "asks_any" = some (some (.ref f18)))
  (h18:ZAD K "asks_any" "asks_any" (top 27) f18)
  {f19:Addr}
  (a19:PySem.W.nsIn K mainGlobals "asked_in_order" = some (some (.ref f19)))
  (h19:ZAD K "asked_in_order" "asked_in_order" (top 28) f19)
  {f20:Addr}
  (a20:PySem.W.nsIn K mainGlobals "asks_now" = some (some (.ref f20)))
  (h20:ZAD K "asks_now" "asks_now" (top 29) f20)
  {f21:Addr}
  (a21:PySem.W.nsIn K mainGlobals "is_about" = some (some (.ref f21)))
  (h21:ZAD K "is_about" "is_about" (top 30) f21)
  {f22:Addr}
  (a22:PySem.W.nsIn K mainGlobals "ways" = some (some (.ref f22)))
  (h22:ZAD K "ways" "ways" (top 31) f22)
  {f23:Addr}
  (a23:PySem.W.nsIn K mainGlobals "helpers" = some (some (.ref f23)))
  (h23:ZAD K "helpers" "helpers" (top 32) f23)
  {f24:Addr}
  (a24:PySem.W.nsIn K mainGlobals "judged" = some (some (.ref f24)))
  (h24:ZAD K "judged" "judged" (top 33) f24)
  {f25:Addr}
  (a25:PySem.W.nsIn K mainGlobals "is_doings" = some (some (.ref f25)))
  (h25:ZAD K "is_doings" "is_doings" (top 35) f25)
  {f26:Addr}
  (a26:PySem.W.nsIn K mainGlobals "are_rising" = some (some (.ref f26)))
  (h26:ZAD K "are_rising" "are_rising" (top 36) f26)
  {f27:Addr}
  (a27:PySem.W.nsIn K mainGlobals "are_apart" = some (some (.ref f27)))
  (h27:ZAD K "are_apart" "are_apart" (top 37) f27)
  {f28:Addr}
  (a28:PySem.W.nsIn K mainGlobals "are_houses" = some (some (.ref f28)))
  (h28:ZAD K "are_houses" "are_houses" (top 38) f28)
  {f29:Addr}
  (a29:PySem.W.nsIn K mainGlobals "stepped" = some (some (.ref f29)))
  (h29:ZAD K "stepped" "stepped" (top 44) f29)
  {f30:Addr}
  (a30:PySem.W.nsIn K mainGlobals "done" = some (some (.ref f30)))
  (h30:ZAD K "done" "done" (top 45) f30)
  {f31:Addr}
  (a31:PySem.W.nsIn K mainGlobals "write_to_all" = some (some (.ref f31)))
  (h31:ZAD K "write_to_all" "write_to_all" (top 46) f31)
  {f32:Addr}
  (a32:PySem.W.nsIn K mainGlobals "stop" = some (some (.ref f32)))
  (h32:ZAD K "stop" "stop" (top 47) f32)
  {f33:Addr}
  (a33:PySem.W.nsIn K mainGlobals "ask_all" = some (some (.ref f33)))
  (h33:ZAD K "ask_all" "ask_all" (top 48) f33)
  {f34:Addr}
  (a34:PySem.W.nsIn K mainGlobals "is_answered" = some (some (.ref f34)))
  (h34:ZAD K "is_answered" "is_answered" (top 49) f34)
  {f35:Addr}
  (a35:PySem.W.nsIn K mainGlobals "comes_through" = some (some (.ref f35)))
  (h35:ZAD K "comes_through" "comes_through" (top 50) f35)
  {f36:Addr}
  (a36:PySem.W.nsIn K mainGlobals "walked" = some (some (.ref f36)))
  (h36:ZAD K "walked" "walked" (top 51) f36)
  {f37:Addr}
  (a37:PySem.W.nsIn K mainGlobals "trail" = some (some (.ref f37)))
  (h37:ZAD K "trail" "trail" (top 52) f37)
  {f38:Addr}
  (a38:PySem.W.nsIn K mainGlobals "most_helpers" = some (some (.ref f38)))
  (h38:ZAD K "most_helpers" "most_helpers" (top 54) f38)
  {f39:Addr}
  (a39:PySem.W.nsIn K mainGlobals "letters_most" = some (some (.ref f39)))
  (h39:ZAD K "letters_most" "letters_most" (top 55) f39)
  {f40:Addr}
  (a40:PySem.W.nsIn K mainGlobals "begun" = some (some (.ref f40)))
  (h40:ZAD K "begun" "begun" (top 57) f40)
  {f41:Addr}
  (a41:PySem.W.nsIn K mainGlobals "_law_box" = some (some (.ref f41)))
  (h41:ZAD K "_law_box" "_law_box" (top 59) f41)
  {f42:Addr}
  (a42:PySem.W.nsIn K mainGlobals "_law_take" = some (some (.ref f42)))
  (h42:ZAD K "_law_take" "_law_take" (top 60) f42)
  {f43:Addr}
  (a43:PySem.W.nsIn K mainGlobals "_law_rules" = some (some (.ref f43)))
  (h43:ZAD K "_law_rules" "_law_rules" (top 61) f43)
  {f44:Addr}
  (a44:PySem.W.nsIn K mainGlobals "_law_town" = some (some (.ref f44)))
  (h44:ZAD K "_law_town" "_law_town" (top 62) f44)
  {f45:Addr}
  (a45:PySem.W.nsIn K mainGlobals "_law_state" = some (some (.ref f45)))
  (h45:ZAD K "_law_state" "_law_state" (top 63) f45)
  {f46:Addr}
  (a46:PySem.W.nsIn K mainGlobals "_law_lost" = some (some (.ref f46)))
  (h46:ZAD K "_law_lost" "_law_lost" (top 64) f46)
  {f47:Addr}
  (a47:PySem.W.nsIn K mainGlobals "_law_doings" = some (some (.ref f47)))
  (h47:ZAD K "_law_doings" "_law_doings" (top 65) f47)
  {f48:Addr}
  (a48:PySem.W.nsIn K mainGlobals "_law_most" = some (some (.ref f48)))
  (h48:ZAD K "_law_most" "_law_most" (top 66) f48)
  {f49:Addr}
  (a49:PySem.W.nsIn K mainGlobals "_law_right" = some (some (.ref f49)))
  (h49:ZAD K "_law_right" "_law_right" (top 67) f49)
  {f50:Addr} {od50 an50:Option Addr} {sl50:Array (Option Value)} {oc50 kV50 dc50 pm50 cd50 ct50:Value}
  (a50:PySem.W.nsIn K mainGlobals "law" = some (some (.ref f50)))
  (l50:K.lookup f50=some ⟨oc50,od50,.func (PySem.W.fnOf "law" "law" (ZDO (top 68)) (ZBy (top 68)) (ZM (top 68)) .none kV50 dc50 pm50 an50 cd50 ct50),sl50⟩) (c50:PySem.W.codeIn K cd50 "law" = true) (k50:PySem.W.keepIn K (.ref f50)=true)
  {f51:Addr}
  (a51:PySem.W.findIn K (.ref cRoad) "__init__" = some (some (.ref f51))) (n51:PySem.W.isFn K (.ref f51)=true)
  (h51:ZAD K "__init__" "Road.__init__" (ZCp (top 43) 0) f51)
  {f52:Addr}
  (a52:PySem.W.findIn K (.ref cRoad) "sends" = some (some (.ref f52))) (n52:PySem.W.isFn K (.ref f52)=true)
  (h52:ZAD K "sends" "Road.sends" (ZCp (top 43) 1) f52)
  {gt0:Tok} (glob0:PySem.W.nsIn K mainGlobals "ALIVE" = some (some (.int 0 gt0)))
  {gt1:Tok} (glob1:PySem.W.nsIn K mainGlobals "SUSPECT" = some (some (.int 1 gt1)))
  {gt2:Tok} (glob2:PySem.W.nsIn K mainGlobals "GONE" = some (some (.int 2 gt2)))
  {gt3:Tok} (glob3:PySem.W.nsIn K mainGlobals "LEFT" = some (some (.int 3 gt3)))
  (z0:PySem.W.nsIn K mainGlobals "abs" = some none)
  (z1:PySem.W.nsIn K mainGlobals "all" = some none)
  (z2:PySem.W.nsIn K mainGlobals "bool" = some none)
  (z3:PySem.W.nsIn K mainGlobals "enumerate" = some none)
  (z4:PySem.W.nsIn K mainGlobals "int" = some none)
  (z5:PySem.W.nsIn K mainGlobals "isinstance" = some none)
  (z6:PySem.W.nsIn K mainGlobals "len" = some none)
  (z7:PySem.W.nsIn K mainGlobals "min" = some none)
  (z8:PySem.W.nsIn K mainGlobals "range" = some none)
  (z9:PySem.W.nsIn K mainGlobals "sorted" = some none)
  (z10:PySem.W.nsIn K mainGlobals "tuple" = some none)
  (z11:PySem.W.nsIn K mainGlobals "zip" = some none)
  : ∃ fd:FuncData,(∀ (s:Shared) (v:Value),BindsTo s fd ⟨[v],[]⟩ [("_law_script",v)])/\∀ base:Heap,K.In base->base.Ns mainGlobals mg->FnOk l.prog w K mg base CX0 13 fa fd ["_law_script"] (ZLM K):=by
 have e:=hfa.symm.trans (PySem.W.mg_of X G a50)
 cases e
 have NARoad:∀ f ∈ ZY.fs,ZDn K cRoad f:=by
  intro f hf
  simp only [ZY,List.mem_cons,List.not_mem_nil,or_false] at hf
  rcases hf with rfl | rfl | rfl | rfl | rfl
  ·exact naRoad0
  ·exact naRoad1
  ·exact naRoad2
  ·exact naRoad3
  ·exact naRoad4
 obtain ⟨_,F0⟩:=h0
 have D0:Def K mg "is_whole" (top 1) ["thing"] f0 _:=⟨PySem.W.mg_of X G a0,F0,F0.binds (ps:=["thing"]) λ _ _ _ _ _ _ us hl=>match us,hl with | [_],_=>rfl⟩
 obtain ⟨_,F1⟩:=h1
 have D1:Def K mg "is_count" (top 2) ["thing"] f1 _:=⟨PySem.W.mg_of X G a1,F1,F1.binds (ps:=["thing"]) λ _ _ _ _ _ _ us hl=>match us,hl with | [_],_=>rfl⟩
 obtain ⟨_,F2⟩:=h2
 have D2:Def K mg "is_tuple_of" (top 3) ["thing","length"] f2 _:=⟨PySem.W.mg_of X G a2,F2,F2.binds (ps:=["thing","length"]) λ _ _ _ _ _ _ us hl=>match us,hl with | [_,_],_=>rfl⟩
 obtain ⟨_,F3⟩:=h3
 have D3:Def K mg "rises" (top 4) ["things"] f3 _:=⟨PySem.W.mg_of X G a3,F3,F3.binds (ps:=["things"]) λ _ _ _ _ _ _ us hl=>match us,hl with | [_],_=>rfl⟩
 obtain ⟨_,F4⟩:=h4
 have D4:Def K mg "put" (top 5) ["things","place","thing"] f4 _:=⟨PySem.W.mg_of X G a4,F4,F4.binds (ps:=["things","place","thing"]) λ _ _ _ _ _ _ us hl=>match us,hl with | [_,_,_],_=>rfl⟩
 obtain ⟨_,F5⟩:=h5
 have D5:Def K mg "newer" (top 11) ["one","other"] f5 _:=⟨PySem.W.mg_of X G a5,F5,F5.binds (ps:=["one","other"]) λ _ _ _ _ _ _ us hl=>match us,hl with | [_,_],_=>rfl⟩
 obtain ⟨_,F6⟩:=h6
 have D6:Def K mg "ticks" (top 13) ["town","house","turn"] f6 _:=⟨PySem.W.mg_of X G a6,F6,F6.binds (ps:=["town","house","turn"]) λ _ _ _ _ _ _ us hl=>match us,hl with | [_,_,_],_=>rfl⟩
 obtain ⟨_,F7⟩:=h7
 have D7:Def K mg "ticks_by" (top 14) ["town","house","turn"] f7 _:=⟨PySem.W.mg_of X G a7,F7,F7.binds (ps:=["town","house","turn"]) λ _ _ _ _ _ _ us hl=>match us,hl with | [_,_,_],_=>rfl⟩
 obtain ⟨_,F8⟩:=h8
 have D8:Def K mg "target" (top 15) ["town","house","turn"] f8 _:=⟨PySem.W.mg_of X G a8,F8,F8.binds (ps:=["town","house","turn"]) λ _ _ _ _ _ _ us hl=>match us,hl with | [_,_,_],_=>rfl⟩
 obtain ⟨_,F9⟩:=h9
 have D9:Def K mg "notes_of" (top 17) ["rules","town","state","x","y"] f9 _:=⟨PySem.W.mg_of X G a9,F9,F9.binds (ps:=["rules","town","state","x","y"]) λ _ _ _ _ _ _ us hl=>match us,hl with | [_,_,_,_,_],_=>rfl⟩
 obtain ⟨_,F10⟩:=h10
 have D10:Def K mg "due_houses" (top 18) ["rules","town","turn","x","y"] f10 _:=⟨PySem.W.mg_of X G a10,F10,F10.binds (ps:=["rules","town","turn","x","y"]) λ _ _ _ _ _ _ us hl=>match us,hl with | [_,_,_,_,_],_=>rfl⟩
 obtain ⟨_,F11⟩:=h11
 have D11:Def K mg "news_houses" (top 19) ["rules","told","x","due"] f11 _:=⟨PySem.W.mg_of X G a11,F11,F11.binds (ps:=["rules","told","x","due"]) λ _ _ _ _ _ _ us hl=>match us,hl with | [_,_,_,_],_=>rfl⟩
 obtain ⟨_,F12⟩:=h12
 have D12:Def K mg "taken" (top 20) ["rules","house","y","notes"] f12 _:=⟨PySem.W.mg_of X G a12,F12,F12.binds (ps:=["rules","house","y","notes"]) λ _ _ _ _ _ _ us hl=>match us,hl with | [_,_,_,_],_=>rfl⟩
 obtain ⟨_,F13⟩:=h13
 have D13:Def K mg "refuted" (top 21) ["rules","house","y","word"] f13 _:=⟨PySem.W.mg_of X G a13,F13,F13.binds (ps:=["rules","house","y","word"]) λ _ _ _ _ _ _ us hl=>match us,hl with | [_,_,_,_],_=>rfl⟩
 obtain ⟨_,F14⟩:=h14
 have D14:Def K mg "noted" (top 22) ["rules","house","about","word"] f14 _:=⟨PySem.W.mg_of X G a14,F14,F14.binds (ps:=["rules","house","about","word"]) λ _ _ _ _ _ _ us hl=>match us,hl with | [_,_,_,_],_=>rfl⟩
 obtain ⟨_,F15⟩:=h15
 have D15:Def K mg "gives_way" (top 23) ["rules","old","word"] f15 _:=⟨PySem.W.mg_of X G a15,F15,F15.binds (ps:=["rules","old","word"]) λ _ _ _ _ _ _ us hl=>match us,hl with | [_,_,_],_=>rfl⟩
 obtain ⟨_,F16⟩:=h16
 have D16:Def K mg "posted" (top 25) ["rules","town","state","x","y"] f16 _:=⟨PySem.W.mg_of X G a16,F16,F16.binds (ps:=["rules","town","state","x","y"]) λ _ _ _ _ _ _ us hl=>match us,hl with | [_,_,_,_,_],_=>rfl⟩
 obtain ⟨_,F17⟩:=h17
 have D17:Def K mg "with_house" (top 26) ["state","at","house"] f17 _:=⟨PySem.W.mg_of X G a17,F17,F17.binds (ps:=["state","at","house"]) λ _ _ _ _ _ _ us hl=>match us,hl with | [_,_,_],_=>rfl⟩
 obtain ⟨_,F18⟩:=h18
 have D18:Def K mg "asks_any" (top 27) ["town","state","a"] f18 _:=⟨PySem.W.mg_of X G a18,F18,F18.binds (ps:=["town","state","a"]) λ _ _ _ _ _ _ us hl=>match us,hl with | [_,_,_],_=>rfl⟩
 obtain ⟨_,F19⟩:=h19
 have D19:Def K mg "asked_in_order" (top 28) ["town","turn","a"] f19 _:=⟨PySem.W.mg_of X G a19,F19,F19.binds (ps:=["town","turn","a"]) λ _ _ _ _ _ _ us hl=>match us,hl with | [_,_,_],_=>rfl⟩
 obtain ⟨_,F20⟩:=h20
 have D20:Def K mg "asks_now" (top 29) ["rules","town","state","a","b"] f20 _:=⟨PySem.W.mg_of X G a20,F20,F20.binds (ps:=["rules","town","state","a","b"]) λ _ _ _ _ _ _ us hl=>match us,hl with | [_,_,_,_,_],_=>rfl⟩
 obtain ⟨_,F21⟩:=h21
 have D21:Def K mg "is_about" (top 30) ["book","house"] f21 _:=⟨PySem.W.mg_of X G a21,F21,F21.binds (ps:=["book","house"]) λ _ _ _ _ _ _ us hl=>match us,hl with | [_,_],_=>rfl⟩
 obtain ⟨_,F22⟩:=h22
 have D22:Def K mg "ways" (top 31) ["rules","state","a","b"] f22 _:=⟨PySem.W.mg_of X G a22,F22,F22.binds (ps:=["rules","state","a","b"]) λ _ _ _ _ _ _ us hl=>match us,hl with | [_,_,_,_],_=>rfl⟩
 obtain ⟨_,F23⟩:=h23
 have D23:Def K mg "helpers" (top 32) ["rules","book","a","b"] f23 _:=⟨PySem.W.mg_of X G a23,F23,F23.binds (ps:=["rules","book","a","b"]) λ _ _ _ _ _ _ us hl=>match us,hl with | [_,_,_,_],_=>rfl⟩
 obtain ⟨_,F24⟩:=h24
 have D24:Def K mg "judged" (top 33) ["rules","state","a","b","answered"] f24 _:=⟨PySem.W.mg_of X G a24,F24,F24.binds (ps:=["rules","state","a","b","answered"]) λ _ _ _ _ _ _ us hl=>match us,hl with | [_,_,_,_,_],_=>rfl⟩
 obtain ⟨_,F25⟩:=h25
 have D25:Def K mg "is_doings" (top 35) ["state","thing"] f25 _:=⟨PySem.W.mg_of X G a25,F25,F25.binds (ps:=["state","thing"]) λ _ _ _ _ _ _ us hl=>match us,hl with | [_,_],_=>rfl⟩
 obtain ⟨_,F26⟩:=h26
 have D26:Def K mg "are_rising" (top 36) ["thing"] f26 _:=⟨PySem.W.mg_of X G a26,F26,F26.binds (ps:=["thing"]) λ _ _ _ _ _ _ us hl=>match us,hl with | [_],_=>rfl⟩
 obtain ⟨_,F27⟩:=h27
 have D27:Def K mg "are_apart" (top 37) ["some","others"] f27 _:=⟨PySem.W.mg_of X G a27,F27,F27.binds (ps:=["some","others"]) λ _ _ _ _ _ _ us hl=>match us,hl with | [_,_],_=>rfl⟩
 obtain ⟨_,F28⟩:=h28
 have D28:Def K mg "are_houses" (top 38) ["state","numbers","up"] f28 _:=⟨PySem.W.mg_of X G a28,F28,F28.binds (ps:=["state","numbers","up"]) λ _ _ _ _ _ _ us hl=>match us,hl with | [_,_,_],_=>rfl⟩
 obtain ⟨_,F29⟩:=h29
 have D29:Def K mg "stepped" (top 44) ["rules","town","state","doings"] f29 _:=⟨PySem.W.mg_of X G a29,F29,F29.binds (ps:=["rules","town","state","doings"]) λ _ _ _ _ _ _ us hl=>match us,hl with | [_,_,_,_],_=>rfl⟩
 obtain ⟨_,F30⟩:=h30
 have D30:Def K mg "done" (top 45) ["houses","doings"] f30 _:=⟨PySem.W.mg_of X G a30,F30,F30.binds (ps:=["houses","doings"]) λ _ _ _ _ _ _ us hl=>match us,hl with | [_,_],_=>rfl⟩
 obtain ⟨_,F31⟩:=h31
 have D31:Def K mg "write_to_all" (top 46) ["road","x"] f31 _:=⟨PySem.W.mg_of X G a31,F31,F31.binds (ps:=["road","x"]) λ _ _ _ _ _ _ us hl=>match us,hl with | [_,_],_=>rfl⟩
 obtain ⟨_,F32⟩:=h32
 have D32:Def K mg "stop" (top 47) ["road","x"] f32 _:=⟨PySem.W.mg_of X G a32,F32,F32.binds (ps:=["road","x"]) λ _ _ _ _ _ _ us hl=>match us,hl with | [_,_],_=>rfl⟩
 obtain ⟨_,F33⟩:=h33
 have D33:Def K mg "ask_all" (top 48) ["road","a"] f33 _:=⟨PySem.W.mg_of X G a33,F33,F33.binds (ps:=["road","a"]) λ _ _ _ _ _ _ us hl=>match us,hl with | [_,_],_=>rfl⟩
 obtain ⟨_,F34⟩:=h34
 have D34:Def K mg "is_answered" (top 49) ["road","a","b"] f34 _:=⟨PySem.W.mg_of X G a34,F34,F34.binds (ps:=["road","a","b"]) λ _ _ _ _ _ _ us hl=>match us,hl with | [_,_,_],_=>rfl⟩
 obtain ⟨_,F35⟩:=h35
 have D35:Def K mg "comes_through" (top 50) ["road","way"] f35 _:=⟨PySem.W.mg_of X G a35,F35,F35.binds (ps:=["road","way"]) λ _ _ _ _ _ _ us hl=>match us,hl with | [_,_],_=>rfl⟩
 obtain ⟨_,F36⟩:=h36
 have D36:Def K mg "walked" (top 51) ["rules","town","state","row"] f36 _:=⟨PySem.W.mg_of X G a36,F36,F36.binds (ps:=["rules","town","state","row"]) λ _ _ _ _ _ _ us hl=>match us,hl with | [_,_,_,_],_=>rfl⟩
 obtain ⟨_,F37⟩:=h37
 have D37:Def K mg "trail" (top 52) ["rules","town","state","row"] f37 _:=⟨PySem.W.mg_of X G a37,F37,F37.binds (ps:=["rules","town","state","row"]) λ _ _ _ _ _ _ us hl=>match us,hl with | [_,_,_,_],_=>rfl⟩
 obtain ⟨_,F38⟩:=h38
 have D38:Def K mg "most_helpers" (top 54) ["rules","town"] f38 _:=⟨PySem.W.mg_of X G a38,F38,F38.binds (ps:=["rules","town"]) λ _ _ _ _ _ _ us hl=>match us,hl with | [_,_],_=>rfl⟩
 obtain ⟨_,F39⟩:=h39
 have D39:Def K mg "letters_most" (top 55) ["rules","town","state","doings"] f39 _:=⟨PySem.W.mg_of X G a39,F39,F39.binds (ps:=["rules","town","state","doings"]) λ _ _ _ _ _ _ us hl=>match us,hl with | [_,_,_,_],_=>rfl⟩
 obtain ⟨_,F40⟩:=h40
 have D40:Def K mg "begun" (top 57) ["rules","town"] f40 _:=⟨PySem.W.mg_of X G a40,F40,F40.binds (ps:=["rules","town"]) λ _ _ _ _ _ _ us hl=>match us,hl with | [_,_],_=>rfl⟩
 obtain ⟨_,F41⟩:=h41
 have D41:Def K mg "_law_box" (top 59) ["_law_script","_law_k"] f41 _:=⟨PySem.W.mg_of X G a41,F41,F41.binds (ps:=["_law_script","_law_k"]) λ _ _ _ _ _ _ us hl=>match us,hl with | [_,_],_=>rfl⟩
 obtain ⟨_,F42⟩:=h42
 have D42:Def K mg "_law_take" (top 60) ["_law_box_here","_law_many"] f42 _:=⟨PySem.W.mg_of X G a42,F42,F42.binds (ps:=["_law_box_here","_law_many"]) λ _ _ _ _ _ _ us hl=>match us,hl with | [_,_],_=>rfl⟩
 obtain ⟨_,F43⟩:=h43
 have D43:Def K mg "_law_rules" (top 61) ["_law_box_here","_law_whole"] f43 _:=⟨PySem.W.mg_of X G a43,F43,F43.binds (ps:=["_law_box_here","_law_whole"]) λ _ _ _ _ _ _ us hl=>match us,hl with | [_,_],_=>rfl⟩
 obtain ⟨_,F44⟩:=h44
 have D44:Def K mg "_law_town" (top 62) ["_law_box_here","_law_most_here"] f44 _:=⟨PySem.W.mg_of X G a44,F44,F44.binds (ps:=["_law_box_here","_law_most_here"]) λ _ _ _ _ _ _ us hl=>match us,hl with | [_,_],_=>rfl⟩
 obtain ⟨_,F45⟩:=h45
 have D45:Def K mg "_law_state" (top 63) ["_law_box_here","_law_rules_here","_law_town_here"] f45 _:=⟨PySem.W.mg_of X G a45,F45,F45.binds (ps:=["_law_box_here","_law_rules_here","_law_town_here"]) λ _ _ _ _ _ _ us hl=>match us,hl with | [_,_,_],_=>rfl⟩
 obtain ⟨_,F46⟩:=h46
 have D46:Def K mg "_law_lost" (top 64) ["_law_box_here","_law_most_here"] f46 _:=⟨PySem.W.mg_of X G a46,F46,F46.binds (ps:=["_law_box_here","_law_most_here"]) λ _ _ _ _ _ _ us hl=>match us,hl with | [_,_],_=>rfl⟩
 obtain ⟨_,F47⟩:=h47
 have D47:Def K mg "_law_doings" (top 65) ["_law_box_here","_law_state_here","_law_moves"] f47 _:=⟨PySem.W.mg_of X G a47,F47,F47.binds (ps:=["_law_box_here","_law_state_here","_law_moves"]) λ _ _ _ _ _ _ us hl=>match us,hl with | [_,_,_],_=>rfl⟩
 obtain ⟨_,F48⟩:=h48
 have D48:Def K mg "_law_most" (top 66) ["_law_rules_here","_law_town_here","_law_state_here","_law_doings_here"] f48 _:=⟨PySem.W.mg_of X G a48,F48,F48.binds (ps:=["_law_rules_here","_law_town_here","_law_state_here","_law_doings_here"]) λ _ _ _ _ _ _ us hl=>match us,hl with | [_,_,_,_],_=>rfl⟩
 obtain ⟨_,F49⟩:=h49
 have D49:Def K mg "_law_right" (top 67) ["_law_rules_here","_law_town_here","_law_state_here","_law_doings_here","_law_letters"] f49 _:=⟨PySem.W.mg_of X G a49,F49,F49.binds (ps:=["_law_rules_here","_law_town_here","_law_state_here","_law_doings_here","_law_letters"]) λ _ _ _ _ _ _ us hl=>match us,hl with | [_,_,_,_,_],_=>rfl⟩
 have F50:=ZNN (st:=(top 68)) l50 c50 k50
 obtain ⟨_,F51⟩:=h51
 have D51:MDef K cRoad "__init__" "Road.__init__" (ZCp (top 43) 0) ["self","rules","town","state","lost"] f51 _:=⟨⟨a51,n51,F51.kp⟩,F51,F51.binds (ps:=["self","rules","town","state","lost"]) λ _ _ _ _ _ _ us hl=>match us,hl with | [_,_,_,_,_],_=>rfl⟩
 obtain ⟨_,F52⟩:=h52
 have D52:MDef K cRoad "sends" "Road.sends" (ZCp (top 43) 1) ["self","x","y"] f52 _:=⟨⟨a52,n52,F52.kp⟩,F52,F52.binds (ps:=["self","x","y"]) λ _ _ _ _ _ _ us hl=>match us,hl with | [_,_,_],_=>rfl⟩
 have T:Txt K mg ⟨cRoad,f0,f1,f2,f3,f4,f5,f6,f7,f8,f9,f10,f11,f12,f13,f14,f15,f16,f17,f18,f19,f20,f21,f22,f23,f24,f25,f26,f27,f28,f29,f30,f31,f32,f33,f34,f35,f36,f37,f38,f39,f40,f41,f42,f43,f44,f45,f46,f47,f48,f49,f51,f52,_,_,_,_,_,_,_,_,_,_,_,_,_,_,_,_,_,_,_,_,_,_,_,_,_,_,_,_,_,_,_,_,_,_,_,_,_,_,_,_,_,_,_,_,_,_,_,_,_,_,_,_⟩:=⟨PySem.W.mg_none_of X G z0,PySem.W.mg_none_of X G z1,PySem.W.mg_none_of X G z2,PySem.W.mg_none_of X G z3,PySem.W.mg_none_of X G z4,PySem.W.mg_none_of X G z5,PySem.W.mg_none_of X G z6,PySem.W.mg_none_of X G z7,PySem.W.mg_none_of X G z8,PySem.W.mg_none_of X G z9,PySem.W.mg_none_of X G z10,PySem.W.mg_none_of X G z11,⟨_,PySem.W.mg_of X G glob0⟩,⟨_,PySem.W.mg_of X G glob1⟩,⟨_,PySem.W.mg_of X G glob2⟩,⟨_,PySem.W.mg_of X G glob3⟩,⟨acRoad,PySem.W.mg_of X G acRoad,⟨pgRoad,hdRoad,poRoad,saRoad⟩,by decide +kernel,NARoad⟩,⟨mkRoad,a51,n51,kcRoad⟩,D0,D1,D2,D3,D4,D5,D6,D7,D8,D9,D10,D11,D12,D13,D14,D15,D16,D17,D18,D19,D20,D21,D22,D23,D24,D25,D26,D27,D28,D29,D30,D31,D32,D33,D34,D35,D36,D37,D38,D39,D40,D41,D42,D43,D44,D45,D46,D47,D48,D49,D51,D52⟩
 exact ⟨PySem.W.fnOf "law" "law" (ZDO (top 68)) (ZBy (top 68)) (ZM (top 68)) .none kV50 dc50 pm50 an50 cd50 ct50,λ s v=>.of_eq rfl,λ base _ _=>ZRE T F50⟩
theorem walk {l:PySem.W.OpenLaw} {q:Program} {loose:List Str} {XP:(Str->Option Value)->Heap->Prop} {YP:World->Heap->Prop} {d:DefRec} {K:Params->PySem.W.Frag} (hn:l.most=some 63) (hdf:d.params.defaults=[])
  (hY:∀ (w:World) (h:Heap),YP w h->(K w.params).In h)
  (F:∀ (w:World) (mg:Str->Option Value) (fa:Addr) (h:Heap),(K w.params).In h->h.Ns mainGlobals mg->mg d.name=some (.ref fa) ->
   ∃ fd:FuncData,(∀ (s:Shared) (u:Value),BindsTo s fd ⟨[u],[]⟩ [("_law_script",u)])/\∀ base:Heap,(K w.params).In base->base.Ns mainGlobals mg->FnOk l.prog w (K w.params) mg base CX0 13 fa fd ["_law_script"] (ZLM (K w.params))) :
  PySem.W.WalkO q loose XP YP l.row.toRowW d [] (λ f vs=>PySem.call f vs) :=
 L2.walk_of (n:=63) (k:=13) (x:="_law_script") (CX:=λ _=>CX0) (sp:=λ w=>ZLM (K w.params)) hn (by decide) hdf ⟨rfl,by decide,by decide,rfl⟩ hY F (λ _ _ a ns hl _ hS=>⟨a,ns,rfl,hS,hl,λ _=>rfl⟩) λ _ _ _ _ _ z=>z
end K91
open PySem PySem.W PyProof.Rows
local macro_rules
 | `(tactic| and_intros) => `(tactic| (refine' L2.fnAt_mk ?l ?c ?k; (case l => k_is); (case c => k_is); (case k => k_is)))
namespace PySem.W.Fast
end PySem.W.Fast
namespace PySem.W.Fast
def tw7670974804436557814 := 0
def tw12477211915440105429 := 0
def tw7378248988055563834 := 0
def tw2228448283171689416 := 0
def tw16334939651533883520 := 0
def tw11948531673560209203 := 0
def tw7761837354783386226 := 0
def tw8362450346589116442 := 0
def tw14513191173867931774 := 0
def tw14070365679756541271 := 0
def tw17699305966474714174 := 0
def tw5629139813146442935 := 0
def tw8037207701586995865 := 0
def tw12701323496972013231 := 0
def tw10706149801829454030 := 0
def tw5556489387968650731 := 0
def tw13671718068577387504 := 0
def tw13753444857284473476 := 0
def tw17241090253813587570 := 0
def tw15003707626485526316 := 0
def tw673452050077353325 := 0
def tw5649965675839491396 := 0
def tw1890261859936626262 := 0
def tw16327620125303361245 := 0
def tw6466333786716006549 := 0
def tw4860934711610710268 := 0
def tw5218889390133432535 := 0
def tw16650439003973661788 := 0
def tw2679568284473581598 := 0
def tw1987858649509706071 := 0
def tw672293472450684359 := 0
def tw5090332521516371555 := 0
def tw9382830748628161920 := 0
def tw429623714874047106 := 0
def tw11438844824286274726 := 0
def tw4669666217950799422 := 0
def tw4661281793188180851 := 0
def tw3134783254167980481 := 0
def tw16027215263524901639 := 0
def tw17535705598318655977 := 0
def tw15911721938978392140 := 0
def tw2322719769320126984 := 0
def tw4434272612710551691 := 0
def tw7292920939466670252 := 0
def tw11444097035230438078 := 0
def tw8709346532579283718 := 0
def tw2226975636615776791 := 0
def tw15481102453708768375 := 0
def tw954880015155508932 := 0
def tw3044786160938585847 := 0
def tw5703242544925179654 := 0
def tw5895273530239289485 := 0
def tw12087347554953731900 := 0
def tw1563029917717359916 := 0
def tw10261641921372462636 := 0
def tw11734522949065942960 := 0
def tw11813957303241981962 := 0
def tw4516777511517452015 := 0
def tw16881531771780334308 := 0
def tw16574773220206691343 := 0
def tw4015975851276584553 := 0
def tw3111285125281329624 := 0
def tw15209883566232051895 := 0
def tw13365833756053526692 := 0
def tw1354965220099086468 := 0
def tw555347715855782652 := 0
def tw15801199909254808099 := 0
def tw1852988131055165395 := 0
def tw368338565643332340 := 0
def tw7792012205235169954 := 0
def tw16314475879671310360 := 0
def tw17431416794198953219 := 0
def tw11764914062599429218 := 0
def tw2196045175973598277 := 0
def tw17365380385102947055 := 0
def tw2307352186511734932 := 0
def tw2851952402501362258 := 0
def tw6544055799561937985 := 0
def tw14667736017110630733 := 0
def tw9000562277964686072 := 0
def tw8697694941903713266 := 0
def tw5299802951319104597 := 0
def tw5341363038124862850 := 0
def tw7508038390924411072 := 0
def tw6971277241462880413 := 0
def tw9818979123309290048 := 0
def tw143742538890806655 := 0
def tw10401854733277699475 := 0
def tw7333878610957151314 := 0
def tw17109632856930043529 := 0
def tw12260820892945769609 := 0
def tw15232092795310962726 := 0
def tw6533690867984059287 := 0
def tw109182258043590118 := 0
def tw3068821133828027507 := 0
def tw7067413907264884838 := 0
def tw59367602439304820 := 0
def tw13080357384796082006 := 0
def tw16093669854704822060 := 0
def tw8442073782172813872 := 0
def tw13649108301964411382 := 0
def tw3177957912407420419 := 0
def tw17509948790707753849 := 0
def tw5531488531202034343 := 0
def tw10451013412987875832 := 0
def tw11866248242585498805 := 0
def tw8360664440483126236 := 0
def tw10697089249917025245 := 0
def tw18160766105510941113 := 0
def tw16489397371546648467 := 0
def tw557294209331457975 := 0
def tw661881832299975991 := 0
def tw17922874089563143273 := 0
def tw16287057833240103154 := 0
def tw934539661541899966 := 0
def tw6853951979117506532 := 0
def tw12352678207221940666 := 0
def tw17384567960805904740 := 0
def tw7493931012830098077 := 0
def tw7578560087788246306 := 0
def tw5423078496317660067 := 0
def tw6226970909205935102 := 0
def tw9662748139107205618 := 0
def tw9745845026502792860 := 0
def tw13237631166003355330 := 0
def tw4896003827388002782 := 0
def tw12120049114622986719 := 0
def tw13517015153855045928 := 0
def tw16945921557919304977 := 0
def tw15409083096131487463 := 0
def tw14279637594295336995 := 0
def tw13458159199165611778 := 0
def tw10454513431041651856 := 0
def tw5770050909031306719 := 0
def tw427745684483162091 := 0
def tw5496719974248047177 := 0
def tw16296642234879849961 := 0
def tw12409095532248393461 := 0
def tw5467502300349310927 := 0
def tw15652298956708005372 := 0
def tw8746737152695005741 := 0
def tw13287783342269708760 := 0
def tw14056018076073874282 := 0
def tw15174974454759243436 := 0
def tw15587210307248366614 := 0
def tw18429251277659986575 := 0
def tw1382600723386082708 := 0
def tw11619625892044111330 := 0
def tw18417073526958981146 := 0
def tw11258152950909653118 := 0
def tw4726383699661878109 := 0
def tw438366772683197798 := 0
def tw10241759054210863985 := 0
def tw7696018039877286725 := 0
def tw4332294897697511062 := 0
def tw2947452342659533673 := 0
def tw8061574807131148405 := 0
def tw6779971312444502009 := 0
def tw551513888692594175 := 0
def tw18375756970924832768 := 0
def tw13814101667281659489 := 0
def tw4261021376586190043 := 0
def tw8431444719163729090 := 0
def tw3144609219956066377 := 0
def tw12788986324099673971 := 0
def tw4274569018564947619 := 0
def tw5005380343060242531 := 0
def tw5407324571127208829 := 0
def tw7737447501355195661 := 0
def tw15798282879172190263 := 0
def tw11469612897217149433 := 0
def tw2847113233568237797 := 0
def tw5530343926652356908 := 0
def tw5735222683023641120 := 0
def tw12527936081313217995 := 0
def tw48342758582294732 := 0
def tw16283297627252316300 := 0
def tw12226263488400642718 := 0
def tw10604139286337420608 := 0
def tw9035321510888296069 := 0
def tw11953406310354240205 := 0
def tw16391892296511711449 := 0
def tw13068950685242980510 := 0
def tw12400855897577607063 := 0
def tw18179469662603154837 := 0
def tw11564886514842562400 := 0
def tw10626803768608412837 := 0
def tw11243088305899389269 := 0
def tw11129518815251033227 := 0
def tw6651277334652789626 := 0
def tw157368780531853163 := 0
def tw3636028027110569976 := 0
def tw14102284613354202272 := 0
def tw7462337614039263286 := 0
def tw4173648784595807061 := 0
def tw12759019227293352341 := 0
def tw11742532099657321957 := 0
def tw8144749073857241302 := 0
def tw11985325882168860299 := 0
def tw4003112066950660083 := 0
def tw16402238831863292520 := 0
def tw9688678477266183508 := 0
def tw16205524688243032149 := 0
def tw3871266239641029237 := 0
def tw10940832626467635074 := 0
def tw9785299647492795465 := 0
def tw7684691969422730317 := 0
def tw18414998473320786492 := 0
def tw1471480707487500335 := 0
def tw4318043347605177047 := 0
def tw8480490180117644557 := 0
def tw17721308885019849902 := 0
def tw5714325780651226524 := 0
def tw274449495325250804 := 0
def tw4576043828097917563 := 0
def tw9085536320607400017 := 0
def tw13676101914488662109 := 0
def tw3785969373316966637 := 0
def tw3882034452506649804 := 0
def tw1419400875162885594 := 0
def tw9987370248076509921 := 0
def tw5987866166209229438 := 0
def tw10848683576760316493 := 0
def tw1274322873688103475 := 0
def tw798330671205537696 := 0
def tw4435257209512242123 := 0
def tw8056053743077863732 := 0
def tw16041543807658954862 := 0
def tw5818557495529994946 := 0
def tw7530597331587541987 := 0
def tw15907222052182435253 := 0
def tw5326759788810442972 := 0
def tw1336540700209247034 := 0
def tw13393925186059058339 := 0
def tw15892976995725004466 := 0
def tw7395488317455548329 := 0
def tw3203718840634981101 := 0
def tw2997208875652667940 := 0
def tw294756031534080096 := 0
def tw10074668263068978635 := 0
def tw51304097353366965 := 0
def tw13129751252673511592 := 0
def tw7939512859500339988 := 0
def tw1411431242950776588 := 0
def tw4778146362817491658 := 0
def tw11370958919522012293 := 0
def tw8728971859990166763 := 0
def tw5146149700476918243 := 0
def tw13740086917486465280 := 0
def tw3441374234873296593 := 0
def tw3082170567602988925 := 0
def tw8384995307058540398 := 0
def tw5652803561144963330 := 0
def tw401019703468804437 := 0
def tw2541044625250605097 := 0
def tw17941445015879983530 := 0
def tw5448319250457625443 := 0
def tw6071257978627646706 := 0
def tw4136836374604248469 := 0
def tw13993225961682212056 := 0
def tw10391758715001195690 := 0
def tw14978705392510373307 := 0
def tw10087868473031288526 := 0
def tw3845701644733261078 := 0
def tw1769331755032574865 := 0
def tw14625888283550611256 := 0
def tw10608112856030851758 := 0
def tw2278185582493535527 := 0
def tw2644640790201026814 := 0
def tw4593308823013819730 := 0
def tw10919167068406031849 := 0
def tw10634515934175928226 := 0
def tw1404018824926191840 := 0
def tw14385313783232968087 := 0
def tw8890789708635587828 := 0
def tw7876980488761154623 := 0
def tw6642932616107504965 := 0
def tw5251774645149912250 := 0
def tw14800590498278371797 := 0
def tw14937668972670794606 := 0
def tw6833556563214839282 := 0
def tw4685773554024823221 := 0
def tw15474174969904442017 := 0
def tw5444518503174751604 := 0
def tw15119900789368462747 := 0
def tw9700441145556210195 := 0
def tw17559500872633456453 := 0
def tw14532893139701346564 := 0
def tw15428084727376505127 := 0
def tw17173819935538073280 := 0
def tw6671310677337218276 := 0
def tw16443691932743532298 := 0
def tw7441748401272183293 := 0
def tw13837006131369365813 := 0
def tw5316442448507107095 := 0
def tw12740086892438010449 := 0
def tw6815507564407657771 := 0
def tw6457641208515333516 := 0
def tw10816582317663084080 := 0
def tw10551450195669395413 := 0
def tw14139370886406080245 := 0
def tw3029413503164954709 := 0
def tw15616516813221916646 := 0
def tw7165780606139379077 := 0
def tw3145432546603275221 := 0
def tw9882096125152122985 := 0
def tw8957922465749310374 := 0
def tw29281648852199924 := 0
def tw13773726729400199701 := 0
def tw15928111520591734149 := 0
def tw15979530452425544231 := 0
def tw70034352003062497 := 0
def tw12544661671497039824 := 0
def tw10771829892505499347 := 0
def tw1497401958453859422 := 0
def tw13380463390031295623 := 0
def tw558961715191362093 := 0
def tw5158533808777845877 := 0
def tw883588791293607651 := 0
def tw18216357433061067974 := 0
def tw14818294526726638051 := 0
def tw17011774232196604803 := 0
def tw1704271161574808915 := 0
def tw8808465197886448044 := 0
def tw9564796963024112931 := 0
def tw7952560249671087574 := 0
def tw18389736203675561848 := 0
def tw11990762886164037946 := 0
def tw62431665647304484 := 0
def tw5558889364420666895 := 0
def tw4833077498348910925 := 0
def tw9998568715034055087 := 0
def tw3214403727381622461 := 0
def tw15054103198511319848 := 0
def tw6089037964261269006 := 0
def tw9331782692979443625 := 0
def tw7134595178157301591 := 0
def tw428656967964234282 := 0
def tw1645967168132433044 := 0
def tw3707567977480915445 := 0
def tw15991496251675444171 := 0
def tw7579465750994751024 := 0
def tw12970836401488930728 := 0
def tw1850183582659697313 := 0
def tw16010700859975254460 := 0
def tw4571326291988603841 := 0
def tw14461114398953061421 := 0
def tw8514013253494106300 := 0
def tw17683819824585464569 := 0
def tw14207591395837904987 := 0
def tw16312458626512088710 := 0
def tw14462480885063157530 := 0
def tw8324330332612642116 := 0
def tw2209616212428571959 := 0
def tw11004725652520853151 := 0
def tw12392184958434075753 := 0
def tw8612343219295486125 := 0
def tw11903090504275241176 := 0
def tw13538903550318511152 := 0
def tw13106722517169631205 := 0
def tw18263517713035481820 := 0
def tw10441696443923807040 := 0
def tw14459341176175433306 := 0
def tw13717041514460797223 := 0
def tw6836573204822588271 := 0
def tw16411093702678346851 := 0
end PySem.W.Fast
set_option maxRecDepth 100000 in
set_option maxHeartbeats 0 in
theorem PySem.Challenge.cw_hearsaybook_k91_whole_no_more_letters_holds : PySem.Challenge.rw_hearsaybook_k91_whole_no_more_letters.Holds := by
 w_on; o_law; k_head; (case hw=>w_witness2)
 k_fill
 refine K91.walk (l:=PySem.Challenge.rw_hearsaybook_k91_whole_no_more_letters) rfl rfl (λ w h Y=>PySem.W.kIn_of Y) ?F
 case F =>
  intro w mg fa h KX G hmg
  refine' K91.all_mk KX G hmg ?acRoad ?pgRoad ?hdRoad ?poRoad ?saRoad ?mkRoad ?kcRoad ?naRoad0 ?naRoad1 ?naRoad2 ?naRoad3 ?naRoad4 ?a0 ?h0 ?a1 ?h1 ?a2 ?h2 ?a3 ?h3 ?a4 ?h4 ?a5 ?h5 ?a6 ?h6 ?a7 ?h7 ?a8 ?h8 ?a9 ?h9 ?a10 ?h10 ?a11 ?h11 ?a12 ?h12 ?a13 ?h13 ?a14 ?h14 ?a15 ?h15 ?a16 ?h16 ?a17 ?h17 ?a18 ?h18 ?a19 ?h19 ?a20 ?h20 ?a21 ?h21 ?a22 ?h22 ?a23 ?h23 ?a24 ?h24 ?a25 ?h25 ?a26 ?h26 ?a27 ?h27 ?a28 ?h28 ?a29 ?h29 ?a30 ?h30 ?a31 ?h31 ?a32 ?h32 ?a33 ?h33 ?a34 ?h34 ?a35 ?h35 ?a36 ?h36 ?a37 ?h37 ?a38 ?h38 ?a39 ?h39 ?a40 ?h40 ?a41 ?h41 ?a42 ?h42 ?a43 ?h43 ?a44 ?h44 ?a45 ?h45 ?a46 ?h46 ?a47 ?h47 ?a48 ?h48 ?a49 ?h49 ?a50 ?l50 ?c50 ?k50 ?a51 ?n51 ?h51 ?a52 ?n52 ?h52 ?glob0 ?glob1 ?glob2 ?glob3 ?z0 ?z1 ?z2 ?z3 ?z4 ?z5 ?z6 ?z7 ?z8 ?z9 ?z10 ?z11
  (case acRoad=>k_is)
  (case pgRoad=>k_is)
  (case hdRoad=>k_is)
  (case poRoad=>k_is)
  (case saRoad=>k_is)
  (case mkRoad=>k_is)
  (case kcRoad=>k_is)
  (case naRoad0=>k_is)
  (case naRoad1=>k_is)
  (case naRoad2=>k_is)
  (case naRoad3=>k_is)
  (case naRoad4=>k_is)
  (case a0=>k_is)
  (case h0=>and_intros)
  (case a1=>k_is)
  (case h1=>and_intros)
  (case a2=>k_is)
  (case h2=>and_intros)
  (case a3=>k_is)
  (case h3=>and_intros)
  (case a4=>k_is)
  (case h4=>and_intros)
  (case a5=>k_is)
  (case h5=>and_intros)
  (case a6=>k_is)
  (case h6=>and_intros)
  (case a7=>k_is)
  (case h7=>and_intros)
  (case a8=>k_is)
  (case h8=>and_intros)
  (case a9=>k_is)
  (case h9=>and_intros)
  (case a10=>k_is)
  (case h10=>and_intros)
  (case a11=>k_is)
  (case h11=>and_intros)
  (case a12=>k_is)
  (case h12=>and_intros)
  (case a13=>k_is)
  (case h13=>and_intros)
  (case a14=>k_is)
  (case h14=>and_intros)
  (case a15=>k_is)
  (case h15=>and_intros)
  (case a16=>k_is)
  (case h16=>and_intros)
  (case a17=>k_is)
  (case h17=>and_intros)
  (case a18=>k_is)
  (case h18=>and_intros)
  (case a19=>k_is)
  (case h19=>and_intros)
  (case a20=>k_is)
  (case h20=>and_intros)
  (case a21=>k_is)
  (case h21=>and_intros)
  (case a22=>k_is)
  (case h22=>and_intros)
  (case a23=>k_is)
  (case h23=>and_intros)
  (case a24=>k_is)
  (case h24=>and_intros)
  (case a25=>k_is)
  (case h25=>and_intros)
  (case a26=>k_is)
  (case h26=>and_intros)
  (case a27=>k_is)
  (case h27=>and_intros)
  (case a28=>k_is)
  (case h28=>and_intros)
  (case a29=>k_is)
  (case h29=>and_intros)
  (case a30=>k_is)
  (case h30=>and_intros)
  (case a31=>k_is)
  (case h31=>and_intros)
  (case a32=>k_is)
  (case h32=>and_intros)
  (case a33=>k_is)
  (case h33=>and_intros)
  (case a34=>k_is)
  (case h34=>and_intros)
  (case a35=>k_is)
  (case h35=>and_intros)
  (case a36=>k_is)
  (case h36=>and_intros)
  (case a37=>k_is)
  (case h37=>and_intros)
  (case a38=>k_is)
  (case h38=>and_intros)
  (case a39=>k_is)
  (case h39=>and_intros)
  (case a40=>k_is)
  (case h40=>and_intros)
  (case a41=>k_is)
  (case h41=>and_intros)
  (case a42=>k_is)
  (case h42=>and_intros)
  (case a43=>k_is)
  (case h43=>and_intros)
  (case a44=>k_is)
  (case h44=>and_intros)
  (case a45=>k_is)
  (case h45=>and_intros)
  (case a46=>k_is)
  (case h46=>and_intros)
  (case a47=>k_is)
  (case h47=>and_intros)
  (case a48=>k_is)
  (case h48=>and_intros)
  (case a49=>k_is)
  (case h49=>and_intros)
  (case a50=>k_is)
  (case l50=>k_is)
  (case c50=>k_is)
  (case k50=>k_is)
  (case a51=>k_is)
  (case n51=>k_is)
  (case h51=>and_intros)
  (case a52=>k_is)
  (case n52=>k_is)
  (case h52=>and_intros)
  (case glob0=>k_is)
  (case glob1=>k_is)
  (case glob2=>k_is)
  (case glob3=>k_is)
  (case z0=>k_is)
  (case z1=>k_is)
  (case z2=>k_is)
  (case z3=>k_is)
  (case z4=>k_is)
  (case z5=>k_is)
  (case z6=>k_is)
  (case z7=>k_is)
  (case z8=>k_is)
  (case z9=>k_is)
  (case z10=>k_is)
  (case z11=>k_is)
