import PyProof.Rows.All
import Wide.All
import OpenK.AllK
import Wide.FinOn
import Lean
import PyProof.EqAt
import PyProof.EqKinds
import PyProof.TupleCall
import PyProof.NeKinds
import PyProof.IsiPairs
import PyProof.EnumMake
import PyProof.Draws
import PyProof.CompFree
import PyProof.CompUse
import PyProof.ConsumeWalk
import PyProof.NeData
import PyProof.P3In
import PyProof.Rows.ReprR
import PyProof.ZipIter
import PyProof.MinMaxWalk
import PyProof.Rows.TupAdd
import PyProof.ListMulRoad
import PyProof.FactsAll.tuple_2
import PyProof.Rows.FStr
import PyProof.StrCalls2
import PyProof.Rows.StrWeight2
import PyProof.Rows.StrSplitJoin
import PyProof.Rows.TupIter
import PyProof.Rows.SortStr
import KE.KSortTup
import PyProof.Rows.SortWalkRead
import PyProof.ListRange
import PyProof.TupleOfGen
import PySem.Challenge.RW_hearsaybook_k18_states_that_come
set_option Elab.async false
set_option linter.all false
set_option maxRecDepth 100000
namespace L2
open PySem PySem.Spec PyProof.Rows
abbrev Key:=Sum Int Str
def ZPw:Key->Value->Bool
 | .inl k,v=>Value.isInt k v
 | .inr x,v=>Value.isStrOf x v
def keyH (w:World):Key->Int
 | .inl k=>hashInt k
 | .inr x=>hashStr w x
theorem ZAh:∀ {k:Key} {v:Value},ZPw k v=true->(∃ i t,k=Sum.inl i/\v=Value.int i t) ∨ (∃ x t,k=Sum.inr x/\v=Value.str x t)
 | .inl i,v,h=>by
  obtain ⟨t,e⟩:=Value.isInt_shape (k:=i) (v:=v) h
  exact .inl ⟨i,t,rfl,e⟩
 | .inr x,v,h=>by
  obtain ⟨t,e⟩:=Value.isStrOf_shape (x:=x) (v:=v) h
  exact .inr ⟨x,t,rfl,e⟩
theorem ZQs (a b:Int):decide ((Sum.inl a:Key)=Sum.inl b)=(a == b):=by
 by_cases e:a=b
 ·subst e; simp
 ·have h : ¬ (Sum.inl a:Key)=Sum.inl b:=λ q=>e (Sum.inl.inj q)
  rw [decide_eq_false h]
  exact (beq_eq_false_iff_ne.mpr e).symm
theorem ZRB (a b:Str):decide ((Sum.inr a:Key)=Sum.inr b)=decide (a=b):=by
 by_cases e:a=b
 ·subst e; simp
 ·have h : ¬ (Sum.inr a:Key)=Sum.inr b:=λ q=>e (Sum.inr.inj q)
  rw [decide_eq_false h,decide_eq_false e]
theorem ZRD (a:Int) (b:Str):decide ((Sum.inl a:Key)=Sum.inr b)=false:=decide_eq_false (λ q=>nomatch q)
theorem ZQW (a:Str) (b:Int):decide ((Sum.inr a:Key)=Sum.inl b)=false:=decide_eq_false (λ q=>nomatch q)
def ZLV (prog:Program) (w:World):PySem.KeyKind prog w Key where
 is:=ZPw
 hash:=keyH w
 inj:=λ v a b ha hb=>by
  rcases ZAh ha with ⟨i,t,rfl,rfl⟩ | ⟨x,t,rfl,rfl⟩
  ·rcases ZAh hb with ⟨j,u,rfl,e⟩ | ⟨y,u,rfl,e⟩
   ·injection e with e1 _; rw [e1]
   ·exact nomatch e
  ·rcases ZAh hb with ⟨j,u,rfl,e⟩ | ⟨y,u,rfl,e⟩
   ·exact nomatch e
   ·injection e with e1 _; rw [e1]
 byValue:=λ k v h=>by
  rcases ZAh h with ⟨i,t,rfl,rfl⟩ | ⟨x,t,rfl,rfl⟩ <;> rfl
 pyHash:=λ hv h=>by
  rcases ZAh hv with ⟨i,t,rfl,rfl⟩ | ⟨x,t,rfl,rfl⟩
  ·exact wpAny_pyHash_int h
  ·exact wpAny_pyHash_str h
 eqBool:=λ hu hv h=>by
  rcases ZAh hu with ⟨i,t,rfl,rfl⟩ | ⟨x,t,rfl,rfl⟩
  ·rcases ZAh hv with ⟨j,u,rfl,rfl⟩ | ⟨y,u,rfl,rfl⟩
   ·rw [ZQs] at h; exact wpAny_eqBool_int h
   ·rw [ZRD] at h; exact SeqAt.EqAt.int_str i t y u _ _ _ _ h
  ·rcases ZAh hv with ⟨j,u,rfl,rfl⟩ | ⟨y,u,rfl,rfl⟩
   ·rw [ZQW] at h; exact SeqAt.EqAt.str_int x t j u _ _ _ _ h
   ·rw [ZRB] at h; exact wpAny_eqBool_str h
 «strs»:=λ k x t v h=>by
  rcases ZAh h with ⟨i,u,rfl,e⟩ | ⟨y,u,rfl,e⟩
  ·exact nomatch e
  ·injection e with e1 _
   subst e1
   cases v <;> rfl
end L2
namespace L2
open PySem PySem.Spec PyProof.Rows
inductive V where
 | non | bl (b:Bool) | int (i:Int) | str (x:Str) | byt (b:Array UInt8) | flt (b:UInt64) | ref (a:Addr) | ty (n:String)
 deriving DecidableEq
def ZAD:V->Value->Prop
 | .non,u=>u=Value.none
 | .bl b,u=>u=Value.bool b
 | .int i,u=>∃ t,u=Value.int i t
 | .str x,u=>∃ t,u=Value.str x t
 | .byt b,u=>∃ t,u=Value.bytes b t
 | .flt b,u=>∃ t,u=Value.float b t
 | .ref a,u=>u=Value.ref a
 | .ty n,u=>u=Value.type n
abbrev Zs:List V->List Value->Prop:=Paired ZAD
theorem Zs.length {xs:List V} {us:List Value} (r:Zs xs us):xs.length=us.length:=Paired.length r
theorem Zs.get:∀ {xs:List V} {us:List Value} {i:Nat} {x:V},Zs xs us->xs[i]? = some x->∃ u,us[i]? = some u/\ZAD x u
 | _,_,_,_,.nil,e=>by simp at e
 | _,_,0,_,.cons r _,e=>by simp at e; subst e; exact ⟨_,rfl,r⟩
 | _,_,i+1,x,.cons _ t,e=>by
  obtain ⟨u,h1,h2⟩:=Zs.get (i:=i) (x:=x) t (by simpa using e)
  exact ⟨u,by simpa using h1,h2⟩
theorem Zs.set {x:V} {u:Value} (r:ZAD x u):∀ {xs:List V} {us:List Value} (i:Nat),Zs xs us->Zs (xs.set i x) (us.set i u)
 | _,_,_,.nil=>.nil
 | _,_,0,.cons _ t=>.cons r t
 | _,_,i+1,.cons q t=>.cons q (Zs.set r i t)
theorem Zs.append:∀ {xs ys:List V} {us ws:List Value},Zs xs us->Zs ys ws->Zs (xs ++ ys) (us ++ ws)
 | _,_,_,_,.nil,s=>s
 | _,_,_,_,.cons r t,s=>.cons r (Zs.append t s)
theorem Zs.take:∀ {xs:List V} {us:List Value} (n:Nat),Zs xs us->Zs (xs.take n) (us.take n)
 | _,_,0,_=>.nil
 | _,_,_+1,.nil=>.nil
 | _,_,n+1,.cons r t=>.cons r (Zs.take n t)
theorem Zs.drop:∀ {xs:List V} {us:List Value} (n:Nat),Zs xs us->Zs (xs.drop n) (us.drop n)
 | _,_,0,r=>r
 | _,_,_+1,.nil=>.nil
 | _,_,n+1,.cons _ t=>Zs.drop n t
def ZHB:Option V->Option Value->Prop
 | some v,some u=>ZAD v u
 | none,none=>True
 | _,_=>False
def KV {κ : Type}:List (κ × V)->List (κ × Value)->Prop:=Paired λ (p : κ × V) (q : κ × Value)=>p.1=q.1/\ZAD p.2 q.2
def kV:Key->V
 | .inl i=>.int i
 | .inr x=>.str x
inductive HO where
 /-- a list -/
 | lst (xs:List V)
 /-- a tuple (never changes) -/
 | tup (xs:List V)
 /-- a dict whose keys are ints and texts; one whose keys are tuples of ints and texts (the empty one is both) -/
 | dK (kvs:List (Key × V)) | dT (kvs:List (List Key × V))
 /-- a set of ints: its members,its size -/
 | set (S:Int->Bool) (n:Nat)
 /-- an instance of the class at C,its dict at dx,its attributes -/
 | ins (C dx:Addr) (fs:List (Str × V))
 /-- the dict of the instance at x -/
 | own (x:Addr)
 /-- the dict of an exception -/
 | xd (fs:List (Str × V))
 /-- a bound method,f of x -/
 | met (f x:Addr)
 /-- a range object lo,lo+1,.. below hi -/
 | rng (lo hi:Int)
 /-- a thing that is known to the object (the script; a dict while a loop walks it): read,never written while it is so -/
 | frz (o:Obj) (u:HO)
 /-- a code object's table -/
 | tbl (ps:Array Value)
 /-- any other thing,by what is true of its one object (a def of one's own: SetO a S n:=HO.ext λ h=>..) -/
 | ext (φ : Heap->Prop)
abbrev Hp:=Addr->Option HO
def upd (H:Hp) (a:Addr) (o:HO):Hp:=λ b=>if b=a then some o else H b
theorem Zt {H:Hp} {a:Addr} {o:HO}:upd H a o a=some o:=by unfold upd; rw [if_pos rfl]
theorem Zg {H:Hp} {a b:Addr} {o:HO} (h:b ≠ a):upd H a o b=H b:=by unfold upd; rw [if_neg h]
theorem Zo {H:Hp} {a b:Addr} {o:HO} (h:H a=some o) (h':H b=none):a ≠ b:=by
 intro e; subst e; rw [h] at h'; cases h'
section
variable (P:Program) (w:World)
def ZBw (H:Hp) (h:Heap) (a:Addr):HO->Prop
 | .lst xs=>xs.length<=sizeLine/\∃ (its:List Value) (n:Nat),Zs xs its/\h.get? a=some { cls:=.type "list",data:=.seq its.toArray n }
 | .tup xs=>xs.length<=sizeLine/\∃ its:List Value,Zs xs its/\IsTup h a its.toArray
 | .dK kvs=>kvs.length<=sizeLine/\(a == sysModules)=false/\∃ vs,KV kvs vs/\h.DictOf (ZLV P w) a vs
 | .dT kvs=>kvs.length<=sizeLine/\(a == sysModules)=false/\∃ xs:List (List Key × Addr × Value),
   Paired (λ (p:List Key × V) (q:List Key × Addr × Value)=>p.1=q.1/\H q.2.1=some (.tup (p.1.map kV))/\ZAD p.2 q.2.2) kvs xs /\
   ∃ o es ep,h.get? a=some o/\o.ExactDict/\o.data=.dict es ep/\es.toList=xs.map (entryOfKey (tupleKind (ZLV P w)))/\(xs.map (·.1)).Nodup
 | .set S n=>h.SetOf (intKind P w) a S n
 | .ins C dx fs=>H dx=some (.own a)/\fs.length<=1000/\dx ≠ a/\h.get? a=some (PySem.W.instObj C dx) /\
   ∃ mA,h.Ns1 dx mA/\(∀ f,ZHB (fs.lookup f) (mA f))/\PySem.Within mA (fs.map (·.1))
 | .own _=>∃ o,h.get? a=some o
 | .xd fs=>∃ mA,h.Ns1 a mA/\∀ f,ZHB (fs.lookup f) (mA f)
 | .rng lo hi=>∃ t u v,h.get? a=some { cls:=.type "range",data:=.fields #[.int lo t,.int hi u,.int 1 v] }
 | .frz o u=>h.get? a=some o/\ZBw H h a u
 | .tbl ps=>h.get? a=some { cls:=.none,data:=.fields ps }
 | .met f x=>h.get? a=some (PySem.W.methodObj (.ref f) (.ref x))
 | .ext φ=>φ h/\(∃ o,h.get? a=some o)/\∀ h1 h2:Heap,φ h1->(∀ o,h1.get? a=some o->h2.get? a=some o)->φ h2
def HOk (H:Hp) (h:Heap):Prop:=∀ a o,H a=some o->ZBw P w H h a o
end
section
variable {P:Program} {w:World} {H H':Hp} {h h':Heap} {a:Addr} {o:HO}
theorem ZBw.lt (x:ZBw P w H h a o):a < h.objs.size:=by
 cases o with
 | lst xs=>obtain ⟨_,_,_,_,e⟩:=x; exact Heap.lt_size e
 | tup xs=>obtain ⟨_,_,_,p⟩:=x; exact p.lt
 | dK kvs=>obtain ⟨_,_,_,_,o,_,_,e,_⟩:=x; exact Heap.lt_size e
 | dT kvs=>obtain ⟨_,_,_,_,o,_,_,e,_⟩:=x; exact Heap.lt_size e
 | set S n=>obtain ⟨o,_,_,_,e,_⟩:=x; exact Heap.lt_size e
 | ins C dx fs=>obtain ⟨_,_,_,e,_⟩:=x; exact Heap.lt_size e
 | own y=>obtain ⟨_,e⟩:=x; exact Heap.lt_size e
 | xd fs=>obtain ⟨_,⟨_,_,_,e,_⟩,_⟩:=x; exact Heap.lt_size e
 | rng lo hi=>obtain ⟨_,_,_,e⟩:=x; exact Heap.lt_size e
 | frz ob u=>obtain ⟨e,_⟩:=x; exact Heap.lt_size e
 | tbl ps=>exact Heap.lt_size (show h.get? a=some _ from x)
 | met f y=>exact Heap.lt_size (show h.get? a=some _ from x)
 | ext φ=>obtain ⟨_,⟨_,e⟩,_⟩:=x; exact Heap.lt_size e
theorem Paired.mapP {α β : Type} {F G : α->β->Prop}:∀ {l₁ : List α} {l₂ : List β},Paired F l₁ l₂->(∀ a b,F a b->G a b)->Paired G l₁ l₂
 | _,_,.nil,_=>.nil
 | _,_,.cons r t,f=>.cons (f _ _ r) (Paired.mapP t f)
theorem ZBw.stay (x:ZBw P w H h a o) (k:∀ b u,(b=a ∨ H b=some (.own a))->h.get? b=some u->h'.get? b=some u)
  (ho:∀ b,H b=some (.own a)->H' b=some (.own a)) (ht:∀ b xs,H b=some (.tup xs)->H' b=some (.tup xs)):ZBw P w H' h' a o:=by
 induction o with
 | lst xs=>obtain ⟨z,its,n,r,e⟩:=x; exact ⟨z,its,n,r,k _ _ (.inl rfl) e⟩
 | tup xs=>obtain ⟨z,its,r,ob,e,c⟩:=x; exact ⟨z,its,r,ob,k _ _ (.inl rfl) e,c⟩
 | dK kvs=>obtain ⟨z,y,vs,r,ob,es,ep,e,c⟩:=x; exact ⟨z,y,vs,r,ob,es,ep,k _ _ (.inl rfl) e,c⟩
 | dT kvs =>
  obtain ⟨z,y,xs,r,ob,es,ep,e,c⟩:=x
  exact ⟨z,y,xs,Paired.mapP r λ p q z=>⟨z.1,ht _ _ z.2.1,z.2.2⟩,ob,es,ep,k _ _ (.inl rfl) e,c⟩
 | set S n=>obtain ⟨ob,es,ep,t,e,c⟩:=x; exact ⟨ob,es,ep,t,k _ _ (.inl rfl) e,c⟩
 | ins C dx fs =>
  obtain ⟨d,z,ne,e,mA,⟨od,es,ep,e2,c⟩,r⟩:=x
  exact ⟨ho _ d,z,ne,k _ _ (.inl rfl) e,mA,⟨od,es,ep,k _ _ (.inr d) e2,c⟩,r⟩
 | own y=>obtain ⟨ob,e⟩:=x; exact ⟨ob,k _ _ (.inl rfl) e⟩
 | xd fs=>obtain ⟨mA,⟨od,es,ep,e,c⟩,r⟩:=x; exact ⟨mA,⟨od,es,ep,k _ _ (.inl rfl) e,c⟩,r⟩
 | rng lo hi=>obtain ⟨t,u,v,e⟩:=x; exact ⟨t,u,v,k _ _ (.inl rfl) e⟩
 | frz ob u ih=>obtain ⟨e,q⟩:=x; exact ⟨k _ _ (.inl rfl) e,ih q⟩
 | tbl ps =>
  have e:h.get? a=some { cls:=.none,data:=.fields ps }:=x
  show h'.get? a=some { cls:=.none,data:=.fields ps }
  exact k a _ (.inl rfl) e
 | met f y =>
  have e:h.get? a=some (PySem.W.methodObj (.ref f) (.ref y)):=x
  show h'.get? a=some (PySem.W.methodObj (.ref f) (.ref y))
  exact k a _ (.inl rfl) e
 | ext φ=>obtain ⟨p,⟨o,e⟩,st⟩:=x; exact ⟨st _ _ p λ o q=>k _ _ (.inl rfl) q,⟨o,k _ _ (.inl rfl) e⟩,st⟩
theorem HOk.lt (x:HOk P w H h) (e:H a=some o):a < h.objs.size:=(x a o e).lt
theorem HOk.fresh (x:HOk P w H h) (e:h.objs.size<=a):H a=none:=by
 cases q:H a with
 | none=>rfl
 | some u=>exact absurd (Nat.lt_of_lt_of_le (x.lt q) e) (Nat.lt_irrefl _)
theorem HOk.kept (x:HOk P w H h) (k:∀ b u,h.get? b=some u->h'.get? b=some u):HOk P w H h':=λ a o e =>
 (x a o e).stay (λ b u _ q=>k b u q) (λ _ q=>q) λ _ _ q=>q
theorem HOk.laid (x:HOk P w H h) (k:∀ b u,h.get? b=some u->h'.get? b=some u) (hp:h.objs.size<=a) (new:ZBw P w (upd H a o) h' a o):HOk P w (upd H a o) h':=λ b u e=>by
 have hn:=x.fresh hp
 by_cases hb:b=a
 ·subst hb; rw [Zt] at e; cases e; exact new
 ·rw [Zg hb] at e
  exact (x b u e).stay (λ c v _ q=>k c v q) (λ c q=>by rw [Zg (Zo q hn)]; exact q) λ c xs q=>by rw [Zg (Zo q hn)]; exact q
end
def Rd (H:Hp) (a:Addr) (u:HO):Prop:=H a=some u ∨ ∃ o,H a=some (.frz o u)
theorem Rd.ok {P:Program} {w:World} {H:Hp} {h:Heap} {a:Addr} {u:HO} (r:Rd H a u) (x:HOk P w H h):ZBw P w H h a u:=by
 rcases r with r | ⟨o,r⟩
 ·exact x a u r
 ·obtain ⟨_,q⟩:=x a _ r
  exact q
def Mut:Option HO->Prop
 | some (.lst _)=>True
 | some (.dK _)=>True
 | some (.dT _)=>True
 | some (.set _ _)=>True
 | some (.ins _ _ _)=>True
 | some (.ext _)=>True
 | _=>False
section
variable {P:Program} {w:World} {H:Hp} {h h':Heap} {x e:Addr} {o':HO}
theorem HOk.write (ok:HOk P w H h) (mu:Mut (H x)) (he:e=x ∨ H e=some (.own x)) (k:∀ b u,b ≠ e->h.get? b=some u->h'.get? b=some u) (heo:∃ u,h'.get? e=some u)
  (new:ZBw P w (upd H x o') h' x o'):HOk P w (upd H x o') h':=λ b u q=>by
 have nown:∀ c y,H c=some (.own y)->c ≠ x:=λ c y r z=>by subst z; rw [r] at mu; exact mu
 have ntup:∀ c xs,H c=some (.tup xs)->c ≠ x:=λ c xs r z=>by subst z; rw [r] at mu; exact mu
 by_cases hb:b=x
 ·subst hb; rw [Zt] at q; cases q; exact new
 ·rw [Zg hb] at q
  by_cases hbe:b=e
  ·have q':H b=some (.own x):=by
    rcases he with z | z
    ·exact absurd (hbe.trans z) hb
    ·rw [hbe]; exact z
   rw [q] at q'; cases q'
   obtain ⟨v,hv⟩:=heo
   exact ⟨v,by rw [hbe]; exact hv⟩
  ·refine (ok b u q).stay (λ c v hc r=>k c v ?_ r) (λ c r=>by rw [Zg (nown c b r)]; exact r) λ c xs r=>by rw [Zg (ntup c xs r)]; exact r
   rcases hc with rfl | hc
   ·exact hbe
   ·rintro rfl
    rcases he with z | z
    ·exact nown c b hc z
    ·rw [hc] at z; cases z; exact hb rfl
end
structure Un (fs ex:List Addr) (H H':Hp) (h h':Heap):Prop where
 keep:∀ b o,h.get? b=some o->H b=none->b ∉ fs->b ∉ ex->h'.get? b=some o
 slot:∀ b o,h.get? b=some o->H b=none->b ∈ fs->b ∉ ex->∃ sl,h'.get? b=some { o with slots:=sl }
 free:∀ b o,h.get? b=some o->H b=none->b ∉ ex->H' b=none
 there:∀ b o,h.get? b=some o->b ∉ ex->∃ o',h'.get? b=some o'
 tups:∀ b xs,H b=some (.tup xs)->H' b=some (.tup xs)
 frzs:∀ b o u,H b=some (.frz o u)->H' b=some (.frz o u)
 tbls:∀ b ps,H b=some (.tbl ps)->∃ more,H' b=some (.tbl (ps ++ more))
section
variable {fs fs' ex ex':List Addr} {H H1 H2:Hp} {h h1 h2 h':Heap} {a x e:Addr} {o:HO}
theorem Un.any (u:Un fs ex H H1 h h1) {b:Addr} {ob:Obj} (q:h.get? b=some ob) (n:H b=none) (hx:b ∉ ex):∃ sl,h1.get? b=some { ob with slots:=sl }:=by
 by_cases hb:b ∈ fs
 ·exact u.slot b ob q n hb hx
 ·exact ⟨ob.slots,u.keep b ob q n hb hx⟩
theorem Un.kept (k:∀ b u,h.get? b=some u->h'.get? b=some u):Un fs ex H H h h' :=
 ⟨λ b ob q _ _ _=>k b ob q,λ b ob q _ _ _=>⟨ob.slots,k b ob q⟩,λ _ _ _ n _=>n,λ b ob q _=>⟨ob,k b ob q⟩,λ _ _ q=>q,λ _ _ _ q=>q,λ _ ps q=>⟨#[],by rw [q]; simp⟩⟩
theorem Un.refl:Un fs ex H H h h:=Un.kept λ _ _ q=>q
theorem Un.laid (k:∀ b u,h.get? b=some u->h'.get? b=some u) (hp:h.objs.size<=a) (hn:H a=none):Un fs ex H (upd H a o) h h' where
 keep:=λ b u q _ _ _=>k b u q
 slot:=λ b u q _ _ _=>⟨u.slots,k b u q⟩
 free:=λ b u q n _=>by rw [Zg (Nat.ne_of_lt (Nat.lt_of_lt_of_le (Heap.lt_size q) hp))]; exact n
 there:=λ b u q _=>⟨u,k b u q⟩
 tups:=λ b xs q=>by rw [Zg (Zo q hn)]; exact q
 frzs:=λ b u xs q=>by rw [Zg (Zo q hn)]; exact q
 tbls:=λ b ps q=>⟨#[],by rw [Zg (Zo q hn),q]; simp⟩
theorem Un.write (mu:Mut (H x)) (he:e=x ∨ H e=some (.own x)) (k:∀ b u,b ≠ e->h.get? b=some u->h'.get? b=some u) (heo:∃ u,h'.get? e=some u):Un fs ex H (upd H x o) h h':=by
 have hx:∀ b,H b=none->b ≠ x:=λ b n z=>by subst z; rw [n] at mu; exact mu
 have hb:∀ b,H b=none->b ≠ e:=λ b n z=>by
  subst z
  rcases he with r | r
  ·exact hx b n r
  ·rw [n] at r; cases r
 have hm:∀ b u,H b=some u->¬ Mut (some u)->b ≠ x:=λ b u q nm z=>by subst z; rw [q] at mu; exact nm mu
 refine ⟨λ b u q n _ _=>k b u (hb b n) q,λ b u q n _ _=>⟨u.slots,k b u (hb b n) q⟩,λ b u q n _=>by rw [Zg (hx b n)]; exact n,λ b u q _=>?_,
  λ b xs q=>by rw [Zg (hm b _ q λ z=>z)]; exact q,λ b u xs q=>by rw [Zg (hm b _ q λ z=>z)]; exact q,λ b ps q=>⟨#[],by rw [Zg (hm b _ q λ z=>z),q]; simp⟩⟩
 by_cases hbe:b=e
 ·subst hbe; exact heo
 ·exact ⟨u,k b u hbe q⟩
end
def trk (h:Heap) (H:Hp):List Addr:=(List.range h.objs.size).filter λ a=>(H a).isSome
def ZIY (h:Heap) (H:Hp):Heap:=PySem.W.hideAll h (trk h H)
theorem ZLk (h:Heap) (H:Hp):(ZIY h H).objs.size=h.objs.size:=PySem.W.hideAll_size _ _
theorem ZNu {h:Heap} {H:Hp} {b:Addr} {o:Obj} (e:h.get? b=some o) (n:H b=none):(ZIY h H).get? b=some o :=
 PySem.W.hideAll_get _ e λ hm=>by
  have q:(H b).isSome=true:=(List.mem_filter.mp hm).2
  rw [n] at q; simp at q
theorem ZPM {h:Heap} {H:Hp} {b:Addr} {o:Obj} (e:(ZIY h H).get? b=some o):h.get? b=some o/\H b=none:=by
 have e':h.get? b=some o:=PySem.W.of_hideAll (trk h H) e
 refine ⟨e',?_⟩
 cases q:H b with
 | none=>rfl
 | some x =>
  have hm:b ∈ trk h H:=List.mem_filter.mpr ⟨List.mem_range.mpr (Heap.lt_size e'),by simp [q]⟩
  have z:(ZIY h H).get? b=none:=PySem.W.hideAll_none (trk h H) hm
  rw [z] at e; cases e
end L2
namespace L2
open PySem PySem.Spec PyProof.Rows
structure Mod (K:PySem.W.Frag) (mg:Str->Option Value) (base:Heap):Prop where
 kin:K.In base
 glob:base.Ns mainGlobals mg
 blt:∃ mb,base.Ns builtinsNs mb/\∀ x:Str,x ≠ "__name__"->mb x=bootBuiltins x
 nolimit:base.NoLimit
structure Cx where
 prog:Program
 w:World
 K:PySem.W.Frag
 mg:Str->Option Value
 base:Heap
 A:Around
 N:List Str
 s₀ : Shared
 H₀ : Hp
 env:Env
 outer:List Env
 stack:List Env
 ex:List Addr
 fn:Str->Bool
 calm:Bool
 pn:List (Addr × Obj)
 xe:Value->Shared->Prop
def frs (l:List Env):List Addr:=l.filterMap (·.frame)
abbrev Cx.fs (X:Cx):List Addr:=frs X.outer
def Vis (sc:Scope) (x:Str):Prop:=sc.names.lookup x=some .local ∨ sc.names.lookup x=some .cell ∨ sc.names.lookup x=some .free
def Loc (sc:Scope) (x:Str):Prop:=sc.names.lookup x=some .local ∨ sc.names.lookup x=some .cell
def Look (env:Env) (h:Heap) (m:Str->Option Value) (x:Str) (u:Value):Prop :=
 (env.kindOf x=some .local/\m x=some u) ∨ ((env.kindOf x=some .cell ∨ env.kindOf x=some .free)/\∃ c,env.cells.lookup x=some c/\h.IsCell c (some u))
structure Cx.Ok (X:Cx):Prop where
 mod:Mod X.K X.mg X.base
 kind:X.env.scope.kind=.function
 glob:X.env.globals=mainGlobals
 blt:X.env.builtins=builtinsNs
 above:X.s₀.heap.objs.size<=X.env.locals
 inj:∀ x y c,X.env.cells.lookup x=some c->X.env.cells.lookup y=some c->x=y
 has:∀ x,(X.env.kindOf x=some .cell ∨ X.env.kindOf x=some .free)->∃ c,X.env.cells.lookup x=some c
 cab:∀ x c,X.fn x=true->X.env.cells.lookup x=some c->X.s₀.heap.objs.size<=c
 hd:X.calm=true->X.A.handled=none
 frames:X.A.frames=some X.stack
 stk:X.stack=X.outer ∨ (X.stack=X.env :: X.outer/\X.env.frame=some X.env.locals)
 exf:∀ b ∈ X.ex,b ≠ X.env.locals/\∀ x c,X.env.cells.lookup x=some c->c ≠ b
 bs:∀ b o,X.base.get? b=some o->X.s₀.heap.get? b=some o/\X.H₀ b=none
 bsz:X.base.objs.size<=X.s₀.heap.objs.size
 noex:∀ b o,X.base.get? b=some o->b ∉ X.ex
 exfs:∀ b ∈ X.ex,b ∉ X.fs
 funs:X.s₀.heap.FunFrames X.base X.outer
 frf:∀ b ∈ X.fs,X.H₀ b=none
structure Inv (X:Cx) (pins:List (Addr × Obj)) (σ : List (Option V)) (H:Hp) (s:Shared):Prop where
 ok:X.Ok
 os:s.os=X.s₀.os
 bare:AllBare s.gens
 base:Un X.fs X.ex X.H₀ H X.s₀.heap s.heap
 loc:∃ m,s.heap.Ns X.env.locals m/\∀ (i:Nat) (x:Str) (v:V),X.N[i]? = some x->σ[i]? = some (some v)->Vis X.env.scope x->∃ u,ZAD v u/\Look X.env s.heap m x u
 cell:∀ x c,X.env.cells.lookup x=some c->∃ v,s.heap.IsCell c v
 free:H X.env.locals=none
 freeC:∀ x c,X.env.cells.lookup x=some c->H c=none
 pin:∀ p ∈ X.pn ++ pins,s.heap.get? p.1=some p.2/\H p.1=none/\p.1 ≠ X.env.locals/\p.1 ∉ X.fs/\∀ v,p.2.data ≠ .cell v
 hok:HOk X.prog X.w H s.heap
 len : σ.length=X.N.length
section
variable {X:Cx} {pins:List (Addr × Obj)} {σ : List (Option V)} {H H':Hp} {s:Shared} {h':Heap}
theorem Cx.Ok.nofr (ok:X.Ok) {b:Addr} {o:Obj} (e:X.base.get? b=some o):b ∉ X.fs:=λ hb=>by
 have:=(ok.funs.mem hb).1
 rw [e] at this; cases this
theorem Inv.bs (I:Inv X pins σ H s):∀ b o,X.base.get? b=some o->s.heap.get? b=some o/\H b=none:=λ b o e =>
 ⟨I.base.keep b o (I.ok.bs b o e).1 (I.ok.bs b o e).2 (I.ok.nofr e) (I.ok.noex b o e),I.base.free b o (I.ok.bs b o e).1 (I.ok.bs b o e).2 (I.ok.noex b o e)⟩
theorem Inv.bk (I:Inv X pins σ H s):∀ b o,X.base.get? b=some o->s.heap.get? b=some o:=λ b o e=>(I.bs b o e).1
theorem Inv.mod (I:Inv X pins σ H s):Mod X.K X.mg X.base:=I.ok.mod
theorem Inv.kIn (I:Inv X pins σ H s):X.K.In s.heap:=I.ok.mod.kin.keeps I.bk
theorem Inv.lt (I:Inv X pins σ H s):X.env.locals < s.heap.objs.size:=let ⟨_,hn,_⟩:=I.loc; hn.lt
theorem Inv.sz (I:Inv X pins σ H s):X.s₀.heap.objs.size<=s.heap.objs.size:=Nat.le_trans I.ok.above (Nat.le_of_lt I.lt)
theorem Inv.nofs (I:Inv X pins σ H s) {a:Addr} (h:s.heap.objs.size<=a):a ∉ X.fs:=λ hb=>by
 obtain ⟨_,o,ho,_⟩:=I.ok.funs.mem hb
 exact absurd (Nat.lt_of_lt_of_le (Heap.lt_size ho) (Nat.le_trans I.sz h)) (Nat.lt_irrefl _)
theorem Inv.cne (I:Inv X pins σ H s):∀ x c,X.env.cells.lookup x=some c->c ≠ X.env.locals:=λ x c e z=>by
 obtain ⟨v,o,ho,hd⟩:=I.cell x c e
 obtain ⟨m,⟨o',es,ep,ho',hd',_⟩,_⟩:=I.loc
 rw [z,ho'] at ho; cases ho; rw [hd'] at hd; cases hd
theorem Inv.funs (I:Inv X pins σ H s):s.heap.FunFrames X.base X.outer:=by
 have all:∀ (l:List Env),(∀ b ∈ frs l,b ∈ X.fs)->X.s₀.heap.FunFrames X.base l->s.heap.FunFrames X.base l:=by
  intro l
  induction l with
  | nil=>intro _ _; trivial
  | cons env r ih =>
   intro hs hl
   obtain ⟨hk,⟨L,o,hf,hn,ho,hd⟩,hr⟩:=hl
   have hL:L ∈ X.fs:=hs L (by unfold frs; rw [List.filterMap_cons,hf]; exact List.mem_cons_self)
   obtain ⟨sl,e⟩:=I.base.slot L o ho (I.ok.frf L hL) hL λ z=>I.ok.exfs L z hL
   exact ⟨hk,⟨L,_,hf,hn,e,hd⟩,ih (λ b hb=>hs b (by unfold frs; rw [List.filterMap_cons,hf]; exact List.mem_cons_of_mem _ hb)) hr⟩
 exact all X.outer (λ _ hb=>hb) I.ok.funs
theorem Inv.stack (I:Inv X pins σ H s):s.heap.FunFrames X.base X.stack:=by
 rcases I.ok.stk with e | ⟨e,hf⟩
 ·rw [e]; exact I.funs
 ·rw [e]
  obtain ⟨m,hn,_⟩:=I.loc
  refine .cons (by rw [I.ok.kind]; decide) hf hn ?_ I.funs
  exact Heap.get?_none_of_le (Nat.le_trans I.ok.bsz I.ok.above)
theorem Inv.stkSub (I:Inv X pins σ H s):∀ b ∈ frs X.stack,b ∈ X.env.locals :: X.fs:=λ b hb=>by
 rcases I.ok.stk with e | ⟨e,hf⟩
 ·rw [e] at hb; exact List.mem_cons_of_mem _ hb
 ·rw [e] at hb
  unfold frs at hb
  rw [List.filterMap_cons,hf] at hb
  exact hb
theorem Inv.stkFree (I:Inv X pins σ H s):∀ b ∈ frs X.stack,H b=none:=λ b hb=>by
 rcases List.mem_cons.mp (I.stkSub b hb) with e | hb
 ·rw [e]; exact I.free
 ·obtain ⟨_,o,ho,_⟩:=I.ok.funs.mem hb
  exact I.base.free b o ho (I.ok.frf b hb) λ z=>I.ok.exfs b z hb
theorem Inv.step {g':Array GenState} {t':Nat} {d':Drawn} {ch:List Addr} (I:Inv X pins σ H s)
  (hch:∀ b ∈ ch,(b ∈ X.ex ∨ X.s₀.heap.objs.size<=b)/\b ≠ X.env.locals/\(∀ x c,X.env.cells.lookup x=some c->c ≠ b)/\∀ p ∈ X.pn ++ pins,p.1 ≠ b)
  (keep:∀ b o,b ≠ X.env.locals->b ∉ X.fs->b ∉ ch->s.heap.get? b=some o->H b=none->h'.get? b=some o)
  (slot:∀ b o,b ≠ X.env.locals->b ∈ X.fs->b ∉ ch->s.heap.get? b=some o->H b=none->∃ sl,h'.get? b=some { o with slots:=sl }) (free:∀ b o,b ∉ ch->s.heap.get? b=some o->H b=none->H' b=none)
  (there:∀ b o,b ∉ ch->s.heap.get? b=some o->∃ o',h'.get? b=some o')
  (tups:∀ b xs,H b=some (.tup xs)->H' b=some (.tup xs)) (frzs:∀ b o u,H b=some (.frz o u)->H' b=some (.frz o u)) (tbls:∀ b ps,H b=some (.tbl ps)->∃ more,H' b=some (.tbl (ps ++ more)))
  (ns:∀ m,s.heap.Ns X.env.locals m->h'.Ns X.env.locals m) (hok:HOk X.prog X.w H' h') (hg:AllBare g') :
  Inv X pins σ H' { s with heap:=h',gens:=g',drawn:=d',toks:=t' }:=by
 have neL:∀ b o,X.s₀.heap.get? b=some o->b ≠ X.env.locals:=λ b o e=>Nat.ne_of_lt (Nat.lt_of_lt_of_le (Heap.lt_size e) I.ok.above)
 have neC:∀ b o,X.s₀.heap.get? b=some o->b ∉ X.ex->b ∉ ch:=λ b o e hx hb=>by
  rcases (hch b hb).1 with z | z
  ·exact hx z
  ·exact absurd (Nat.lt_of_lt_of_le (Heap.lt_size e) z) (Nat.lt_irrefl _)
 have cellK:∀ x c,X.env.cells.lookup x=some c->∀ v,s.heap.IsCell c v->h'.IsCell c v:=λ x c e v ⟨o,ho,hd⟩=>by
  have nch:c ∉ ch:=λ z=>(hch c z).2.2.1 x c e rfl
  by_cases hc:c ∈ X.fs
  ·obtain ⟨sl,q⟩:=slot c o (I.cne x c e) hc nch ho (I.freeC x c e)
   exact ⟨_,q,hd⟩
  ·exact ⟨o,keep c o (I.cne x c e) hc nch ho (I.freeC x c e),hd⟩
 refine ⟨I.ok,I.os,hg,⟨λ b o e n hb hx=>?_,λ b o e n hb hx=>?_,λ b o e n hx=>?_,λ b o e hx=>?_,λ b xs e=>tups b xs (I.base.tups b xs e),λ b o xs e=>frzs b o xs (I.base.frzs b o xs e),λ b ps e=>?_⟩,?_,λ x c e=>?_,?_,λ x c e=>?_,λ p hp=>?_,hok,I.len⟩
 ·exact keep b o (neL b o e) hb (neC b o e hx) (I.base.keep b o e n hb hx) (I.base.free b o e n hx)
 ·obtain ⟨sl,e1⟩:=I.base.slot b o e n hb hx
  obtain ⟨sl',e2⟩:=slot b _ (neL b o e) hb (neC b o e hx) e1 (I.base.free b o e n hx)
  exact ⟨sl',e2⟩
 ·obtain ⟨o',e1⟩:=I.base.there b o e hx
  exact free b o' (neC b o e hx) e1 (I.base.free b o e n hx)
 ·obtain ⟨o',e1⟩:=I.base.there b o e hx
  exact there b o' (neC b o e hx) e1
 ·obtain ⟨m1,e1⟩:=I.base.tbls b ps e
  obtain ⟨m2,e2⟩:=tbls b _ e1
  exact ⟨m1 ++ m2,by rw [e2,Array.append_assoc]⟩
 ·obtain ⟨m,hn,hl⟩:=I.loc
  refine ⟨m,ns m hn,λ i x v e1 e2 e3=>?_⟩
  obtain ⟨u,r,l⟩:=hl i x v e1 e2 e3
  refine ⟨u,r,?_⟩
  rcases l with l | ⟨k,c,e,z⟩
  ·exact .inl l
  ·exact .inr ⟨k,c,e,cellK x c e _ z⟩
 ·obtain ⟨v,z⟩:=I.cell x c e
  exact ⟨v,cellK x c e v z⟩
 ·obtain ⟨m,⟨o,_,_,ho,_⟩,_⟩:=I.loc
  exact free _ o (λ z=>(hch _ z).2.1 rfl) ho I.free
 ·obtain ⟨v,o,ho,hd⟩:=I.cell x c e
  exact free c o (λ z=>(hch c z).2.2.1 x c e rfl) ho (I.freeC x c e)
 ·obtain ⟨e,n,ne,nf,d⟩:=I.pin p hp
  have nch:p.1 ∉ ch:=λ z=>(hch p.1 z).2.2.2 p hp rfl
  exact ⟨keep p.1 p.2 ne nf nch e n,free p.1 p.2 nch e n,ne,nf,d⟩
theorem Inv.un {t':Nat} (I:Inv X pins σ H s) (u:Un X.fs [] H H' s.heap h') (hok:HOk X.prog X.w H' h'):Inv X pins σ H' { s with heap:=h',toks:=t' }:=by
 obtain ⟨m,⟨o,es,ep,ho,r⟩,_⟩:=id I.loc
 obtain ⟨sl,hL⟩:=u.any ho I.free (by simp)
 exact I.step (g':=s.gens) (d':=s.drawn) (ch:=[]) (λ _ z=>nomatch z) (λ b o _ hb _ e n=>u.keep b o e n hb (by simp)) (λ b o _ hb _ e n=>u.slot b o e n hb (by simp)) (λ b o _ e n=>u.free b o e n (by simp)) (λ b o _ e=>u.there b o e (by simp)) u.tups u.frzs u.tbls (λ m' hm=>by
  obtain ⟨o',es',ep',ho',r'⟩:=hm
  rw [ho] at ho'; cases ho'
  exact ⟨_,es',ep',hL,r'⟩) hok I.bare
theorem Inv.call {g':Array GenState} {t':Nat} {d':Drawn} {ch:List Addr} (I:Inv X pins σ H s) (u:Un (frs X.stack) ch H H' s.heap h') (hok:HOk X.prog X.w H' h') (hg:AllBare g')
  (hch:∀ b ∈ ch,(b ∈ X.ex ∨ X.s₀.heap.objs.size<=b)/\b ≠ X.env.locals/\(∀ x c,X.env.cells.lookup x=some c->c ≠ b)/\∀ p ∈ X.pn ++ pins,p.1 ≠ b) :
  Inv X pins σ H' { s with heap:=h',gens:=g',drawn:=d',toks:=t' }:=by
 obtain ⟨m,⟨o,es,ep,ho,r⟩,_⟩:=id I.loc
 obtain ⟨sl,hL⟩:=u.any ho I.free λ z=>(hch _ z).2.1 rfl
 exact I.step (ch:=ch) hch (λ b o hL hb hc e n=>u.keep b o e n (λ z=>(List.mem_cons.mp (I.stkSub b z)).elim hL hb) hc) (λ b o _ _ hc e n=>u.any e n hc) (λ b o hc e n=>u.free b o e n hc) (λ b o hc e=>u.there b o e hc) u.tups u.frzs u.tbls (λ m' hm=>by
  obtain ⟨o',es',ep',ho',r'⟩:=hm
  rw [ho] at ho'; cases ho'
  exact ⟨_,es',ep',hL,r'⟩) hok hg
theorem Inv.turned {t':Nat} {it:Addr} (I:Inv X pins σ H s) (k:∀ b o,b ≠ it->s.heap.get? b=some o->h'.get? b=some o) (hn:H it=none) (hL:it ≠ X.env.locals)
  (h1:it ∈ X.ex ∨ X.s₀.heap.objs.size<=it) (h2:∀ x c,X.env.cells.lookup x=some c->c ≠ it) (h3:∀ p ∈ X.pn ++ pins,p.1 ≠ it):Inv X pins σ H { s with heap:=h',toks:=t' }:=by
 have nit:∀ b u,H b=some u->b ≠ it:=λ b u e z=>by rw [z,hn] at e; cases e
 refine I.step (g':=s.gens) (d':=s.drawn) (ch:=[it]) (λ b hb=>?_) (λ b o _ _ hc e _=>k b o (λ z=>hc (by simp [z])) e) (λ b o _ _ hc e _=>⟨o.slots,k b o (λ z=>hc (by simp [z])) e⟩) (λ _ _ _ _ n=>n)
  (λ b o hc e=>⟨o,k b o (λ z=>hc (by simp [z])) e⟩) (λ _ _ e=>e) (λ _ _ _ e=>e) (λ b ps e=>⟨#[],by rw [e]; simp⟩) (λ m hm=>?_) (λ b u e=>?_) I.bare
 ·have e:b=it:=by simpa using hb
  subst e
  exact ⟨h1,hL,h2,h3⟩
 ·obtain ⟨o,es,ep,ho,r⟩:=hm
  exact ⟨o,es,ep,k _ o (Ne.symm hL) ho,r⟩
 ·refine (I.hok b u e).stay (λ c v hc q=>k c v ?_ q) (λ _ q=>q) λ _ _ q=>q
  rcases hc with z | z
  ·rw [z]; exact nit b u e
  ·exact nit c _ z
theorem Inv.tok (I:Inv X pins σ H s) (t:Nat):Inv X pins σ H { s with toks:=t }:=I.un (h':=s.heap) (t':=t) Un.refl I.hok
theorem Inv.kept {t':Nat} (I:Inv X pins σ H s) (k:∀ b u,s.heap.get? b=some u->h'.get? b=some u):Inv X pins σ H { s with heap:=h',toks:=t' }:=I.un (Un.kept k) (I.hok.kept k)
theorem Inv.laid {a:Addr} {o:HO} {t':Nat} (I:Inv X pins σ H s) (k:∀ b u,s.heap.get? b=some u->h'.get? b=some u) (hp:s.heap.objs.size<=a) (new:ZBw X.prog X.w (upd H a o) h' a o) :
  Inv X pins σ (upd H a o) { s with heap:=h',toks:=t' }:=I.un (Un.laid k hp (I.hok.fresh hp)) (I.hok.laid k hp new)
theorem Inv.write {x e:Addr} {o:HO} {t':Nat} (I:Inv X pins σ H s) (mu:Mut (H x)) (he:e=x ∨ H e=some (.own x)) (k:∀ b u,b ≠ e->s.heap.get? b=some u->h'.get? b=some u) (heo:∃ u,h'.get? e=some u)
  (new:ZBw X.prog X.w (upd H x o) h' x o):Inv X pins σ (upd H x o) { s with heap:=h',toks:=t' }:=I.un (Un.write mu he k heo) (I.hok.write mu he k heo new)
theorem Inv.weak {σ':List (Option V)} (I:Inv X pins σ H s) (hl : σ'.length = σ.length) (w:∀ (i:Nat) v,σ'[i]? = some (some v)->σ[i]? = some (some v)):Inv X pins σ' H s :=
 ⟨I.ok,I.os,I.bare,I.base,let ⟨m,hn,hl'⟩:=I.loc; ⟨m,hn,λ i x v e1 e2 e3=>hl' i x v e1 (w i v e2) e3⟩,I.cell,I.free,I.freeC,I.pin,I.hok,hl.trans I.len⟩
theorem Inv.pins_of {pins':List (Addr × Obj)} (I:Inv X pins σ H s) (h:∀ p ∈ pins',s.heap.get? p.1=some p.2/\H p.1=none/\p.1 ≠ X.env.locals/\p.1 ∉ X.fs/\∀ v,p.2.data ≠ .cell v):Inv X pins' σ H s :=
 ⟨I.ok,I.os,I.bare,I.base,I.loc,I.cell,I.free,I.freeC,λ p hp=>(List.mem_append.mp hp).elim (λ z=>I.pin p (List.mem_append_left _ z)) (h p),I.hok,I.len⟩
theorem ZJk {N:List Str} (hN:N.Nodup) {i j:Nat} {x:Str} (a:N[i]? = some x) (b:N[j]? = some x):i=j:=by
 obtain ⟨h1,e1⟩:=List.getElem?_eq_some_iff.mp a
 obtain ⟨h2,e2⟩:=List.getElem?_eq_some_iff.mp b
 exact (List.getElem_inj hN).mp (e1.trans e2.symm)
theorem ZHw {M:Model} {A:Around} {E:Value->Shared->Prop} {i:Nat} {x:Str} {v:V} {u:Value} {Q:Unit->Shared->Prop} (I:Inv X pins σ H s) (hN:X.N.Nodup) (hi:X.N[i]? = some x) (hx:Loc X.env.scope x) (r:ZAD v u)
  (h:∀ s',Inv X pins (σ.set i (some v)) H s'->(∃ a,Heap.SameBut a s.heap s'.heap/\(a=X.env.locals ∨ X.env.cells.lookup x=some a))->Q () s') (hf:X.fn x=true ∨ X.env.scope.names.lookup x=some .local:=by first | exact .inl rfl | exact .inr rfl | assumption):wpAny M A (storeName X.env x u) Q E s:=by
 obtain ⟨m,hn,hl⟩:=id I.loc
 have hcls:(X.env.scope.kind == .class || (X.env.scope.kind == .module && X.env.locals != X.env.globals))=false:=by rw [I.ok.kind]; rfl
 have hiσ : i < σ.length:=by rw [I.len]; exact (List.getElem?_eq_some_iff.mp hi).1
 have cne:=I.cne
 have tracked:∀ {a:Addr} {h':Heap},(∃ o,s.heap.get? a=some o/\H a=none)->Heap.SameBut a s.heap h'->HOk X.prog X.w H h':=λ {a h'} ha hs b ob e=>by
  obtain ⟨_,_,hfree⟩:=ha
  refine (I.hok b ob e).stay (λ c w' hc q=>(hs.2 c ?_).trans q) (λ _ q=>q) λ _ _ q=>q
  rintro rfl
  rcases hc with rfl | hc
  ·rw [hfree] at e; cases e
  ·rw [hfree] at hc; cases hc
 rcases hx with hk | hk
 ·refine wpAny_storeName_local hk hn (λ h' hn' hs=>?_) hcls
  obtain ⟨oL,_,_,hoL,_⟩:=id hn
  refine h _ ⟨I.ok,I.os,I.bare,⟨λ b o e n hb hx=>?_,λ b o e n hb hx=>?_,I.base.free,λ b o e hx=>?_,I.base.tups,I.base.frzs,I.base.tbls⟩,⟨_,hn',λ j y v' e1 e2 e3=>?_⟩,λ y c e=>?_,I.free,I.freeC,λ p hp=>?_,tracked ⟨oL,hoL,I.free⟩ hs,by simpa using I.len⟩ ⟨_,hs,.inl rfl⟩
  ·exact (hs.2 b (Nat.ne_of_lt (Nat.lt_of_lt_of_le (Heap.lt_size e) I.ok.above))).trans (I.base.keep b o e n hb hx)
  ·obtain ⟨sl,e1⟩:=I.base.slot b o e n hb hx
   exact ⟨sl,(hs.2 b (Nat.ne_of_lt (Nat.lt_of_lt_of_le (Heap.lt_size e) I.ok.above))).trans e1⟩
  ·obtain ⟨o',e1⟩:=I.base.there b o e hx
   exact ⟨o',(hs.2 b (Nat.ne_of_lt (Nat.lt_of_lt_of_le (Heap.lt_size e) I.ok.above))).trans e1⟩
  ·by_cases hj:j=i
   ·subst hj
    rw [hi] at e1; cases e1
    rw [List.getElem?_set_self hiσ] at e2
    cases e2
    exact ⟨u,r,.inl ⟨hk,by simp⟩⟩
   ·rw [List.getElem?_set_ne (Ne.symm hj)] at e2
    obtain ⟨u',r',q⟩:=hl j y v' e1 e2 e3
    refine ⟨u',r',?_⟩
    rcases q with ⟨k,e⟩ | ⟨k,c,e,z⟩
    ·refine .inl ⟨k,?_⟩
     have:y ≠ x:=λ e=>hj (ZJk hN e1 (e ▸ hi))
     simp [this,e]
    ·exact .inr ⟨k,c,e,z.sameBut hs (cne y c e)⟩
  ·obtain ⟨w',z⟩:=I.cell y c e
   exact ⟨w',z.sameBut hs (cne y c e)⟩
  ·obtain ⟨e,n,ne,nf,d⟩:=I.pin p hp
   exact ⟨(hs.2 p.1 ne).trans e,n,ne,nf,d⟩
 ·have hfn:X.fn x=true:=by
   rcases hf with z | z
   ·exact z
   ·rw [z] at hk; cases hk
  obtain ⟨c,hc⟩:=I.ok.has x (.inl hk)
  obtain ⟨w',z⟩:=I.cell x c hc
  refine wpAny_storeName_cell I.ok.kind hk hc z (λ h' hc' hs=>?_)
  obtain ⟨oc,hoc,hocd⟩:=id z
  refine h { s with heap:=h' } ⟨I.ok,I.os,I.bare,⟨λ b o e n hb hx=>?_,λ b o e n hb hx=>?_,I.base.free,λ b o e hx=>?_,I.base.tups,I.base.frzs,I.base.tbls⟩,⟨m,hn.sameBut hs (Ne.symm (cne x c hc)),λ j y v' e1 e2 e3=>?_⟩,λ y c' e=>?_,I.free,I.freeC,λ p hp=>?_,tracked ⟨oc,hoc,I.freeC x c hc⟩ hs,by simpa using I.len⟩ ⟨c,hs,.inr hc⟩
  ·exact (hs.2 b (Nat.ne_of_lt (Nat.lt_of_lt_of_le (Heap.lt_size e) (I.ok.cab x c hfn hc)))).trans (I.base.keep b o e n hb hx)
  ·obtain ⟨sl,e1⟩:=I.base.slot b o e n hb hx
   exact ⟨sl,(hs.2 b (Nat.ne_of_lt (Nat.lt_of_lt_of_le (Heap.lt_size e) (I.ok.cab x c hfn hc)))).trans e1⟩
  ·obtain ⟨o',e1⟩:=I.base.there b o e hx
   exact ⟨o',(hs.2 b (Nat.ne_of_lt (Nat.lt_of_lt_of_le (Heap.lt_size e) (I.ok.cab x c hfn hc)))).trans e1⟩
  ·by_cases hj:j=i
   ·subst hj
    rw [hi] at e1; cases e1
    rw [List.getElem?_set_self hiσ] at e2
    cases e2
    exact ⟨u,r,.inr ⟨.inl hk,c,hc,hc'⟩⟩
   ·rw [List.getElem?_set_ne (Ne.symm hj)] at e2
    obtain ⟨u',r',q⟩:=hl j y v' e1 e2 e3
    refine ⟨u',r',?_⟩
    rcases q with q | ⟨k,c',e,z'⟩
    ·exact .inl q
    ·refine .inr ⟨k,c',e,z'.sameBut hs ?_⟩
     rintro rfl
     exact hj (ZJk hN e1 (I.ok.inj _ _ _ e hc ▸ hi))
  ·by_cases hcc:c'=c
   ·subst hcc; exact ⟨_,hc'⟩
   ·obtain ⟨w2,z2⟩:=I.cell y c' e
    exact ⟨w2,z2.sameBut hs hcc⟩
  ·obtain ⟨e,n,ne,nf,d⟩:=I.pin p hp
   refine ⟨(hs.2 p.1 ?_).trans e,n,ne,nf,d⟩
   intro q
   rw [q,hoc] at e
   have q':oc=p.2:=Option.some.inj e
   exact d w' (by rw [← q']; exact hocd)
theorem ZB9 {M:Model} {A:Around} {E:Value->Shared->Prop} {i:Nat} {x:Str} {v:V} {u:Value} {Q:Unit->Shared->Prop} (I:Inv X pins σ H s) (hN:X.N.Nodup) (hi:X.N[i]? = some x) (hx:Loc X.env.scope x) (r:ZAD v u)
  (h:∀ s',Inv X pins (σ.set i (some v)) H s'->Q () s') (hf:X.fn x=true ∨ X.env.scope.names.lookup x=some .local:=by first | exact .inl rfl | exact .inr rfl | assumption):wpAny M A (storeName X.env x u) Q E s :=
 ZHw I hN hi hx r (λ s' I' _=>h s' I') hf
theorem Inv.call' {s':Shared} {ch:List Addr} (I:Inv X pins σ H s) (ho:s'.os=s.os) (u:Un (frs X.stack) ch H H' s.heap s'.heap) (hok:HOk X.prog X.w H' s'.heap) (hg:AllBare s'.gens)
  (hch:∀ b ∈ ch,(b ∈ X.ex ∨ X.s₀.heap.objs.size<=b)/\b ≠ X.env.locals/\(∀ x c,X.env.cells.lookup x=some c->c ≠ b)/\∀ p ∈ X.pn ++ pins,p.1 ≠ b):Inv X pins σ H' s':=by
 obtain ⟨h',g',d',t',o'⟩:=s'
 have e:o'=s.os:=ho
 subst e
 exact I.call (g':=g') (t':=t') (d':=d') u hok hg hch
end
abbrev XK:=Value->Option Addr->Hp->Prop
abbrev St:=List (Option V)
abbrev VK:=V->Hp->Prop
abbrev TE:=St->Hp->VK->Prop
abbrev TT:=St->Hp->(Bool->Hp->Prop)->Prop
abbrev TA:=St->Hp->(List V->Hp->Prop)->Prop
structure Ends where
 nx:St->Hp->Prop
 rt:VK
 bk:St->Hp->Prop:=λ _ _=>False
 ct:St->Hp->Prop:=λ _ _=>False
abbrev TS:=Ends->St->Hp->Prop
def EP (X:Cx) (pins:List (Addr × Obj)) (σ : St) (Q:VK) (u:Value) (s':Shared):Prop:=∃ v H',Inv X pins σ H' s'/\ZAD v u/\Q v H'
def TP (X:Cx) (pins:List (Addr × Obj)) (σ : St) (Q:Bool->Hp->Prop) (b:Bool) (s':Shared):Prop:=∃ H',Inv X pins σ H' s'/\Q b H'
def AP (X:Cx) (pins:List (Addr × Obj)) (σ : St) (Q:List V->Hp->Prop) (us:List Value) (s':Shared):Prop:=∃ vs H',Inv X pins σ H' s'/\Zs vs us/\Q vs H'
def SP (X:Cx) (pins:List (Addr × Obj)) (D:Ends) (f:Flow) (s':Shared):Prop :=
 match f with
 | .next=>∃ σ' H',Inv X pins σ' H' s'/\D.nx σ' H'
 | .brk=>∃ σ' H',Inv X pins σ' H' s'/\D.bk σ' H'
 | .cont=>∃ σ' H',Inv X pins σ' H' s'/\D.ct σ' H'
 | .ret u=>∃ v σ' H',Inv X pins σ' H' s'/\ZAD v u/\D.rt v H'
def PE (X:Cx) (e:Expr) (t:TE):Prop :=
 ∀ (pins:List (Addr × Obj)) (s:Shared) (σ : St) (H:Hp) (Q:VK),Inv X pins σ H s->t σ H Q->wpAny (model X.prog X.w) X.A (eval e X.env) (EP X pins σ Q) X.xe s
def PT (X:Cx) (e:Expr) (t:TT):Prop :=
 ∀ (pins:List (Addr × Obj)) (s:Shared) (σ : St) (H:Hp) (Q:Bool->Hp->Prop),Inv X pins σ H s->t σ H Q->wpAny (model X.prog X.w) X.A (isTrue e X.env (eval e X.env)) (TP X pins σ Q) X.xe s
def PW (X:Cx) (e:Expr) (t:TT):Prop :=
 ∀ (whole:Sem Value) (pins:List (Addr × Obj)) (s:Shared) (σ : St) (H:Hp) (Q:Bool->Hp->Prop),Inv X pins σ H s->t σ H Q->wpAny (model X.prog X.w) X.A (isTrue e X.env whole) (TP X pins σ Q) X.xe s
theorem PW.pt {X:Cx} {e:Expr} {t:TT} (h:PW X e t):PT X e t:=h _
def PA (X:Cx) (es:List Expr) (t:TA):Prop :=
 ∀ (pos:Pos) (pins:List (Addr × Obj)) (s:Shared) (σ : St) (H:Hp) (Q:List V->Hp->Prop),Inv X pins σ H s->t σ H Q->wpAny (model X.prog X.w) X.A (spliced (backTo pos (starEach es X.env))) (AP X pins σ Q) X.xe s
def PS (X:Cx) (st:Stmt) (t:TS):Prop :=
 ∀ (pins:List (Addr × Obj)) (s:Shared) (σ : St) (H:Hp) (D:Ends),Inv X pins σ H s->t D σ H->wpAny (model X.prog X.w) X.A (exec st X.env) (SP X pins D) X.xe s
def PSs (X:Cx) (st:List Stmt) (t:TS):Prop :=
 ∀ (pins:List (Addr × Obj)) (s:Shared) (σ : St) (H:Hp) (D:Ends),Inv X pins σ H s->t D σ H->wpAny (model X.prog X.w) X.A (execs st X.env) (SP X pins D) X.xe s
theorem thn {α : Type} {t:Sem α} {Q Q' : α->Shared->Prop} {M:Model} {A:Around} {E:Value->Shared->Prop} {s:Shared} (h:wpAny M A t Q E s) (hQ:∀ a s,Q a s->Q' a s):wpAny M A t Q' E s:=wpAny_mono h hQ λ _ _ x=>x
end L2
namespace L2
open PySem PySem.Spec PyProof.Rows
section
variable {X:Cx}
def tVar (i:Nat):TE:=λ σ H Q=>∃ v,σ[i]? = some (some v)/\Q v H
def tC (v:V):TE:=λ _ H Q=>Q v H
theorem ZRs {i:Nat} {x:Str} {pos:Pos} (hN:X.N[i]? = some x) (hv:Vis X.env.scope x) (hd:(x == ("__debug__" : Str))=false:=by decide) (hcd:(x == ("__classdict__" : Str))=false:=by decide):PE X (.Name x pos) (tVar i):=by
 intro pins s σ H Q I h
 obtain ⟨v,e,h⟩:=h
 obtain ⟨m,hn,hl⟩:=I.loc
 obtain ⟨u,r,l⟩:=hl i x v hN e hv
 have fin:EP X pins σ Q u s:=⟨v,H,I,r,h⟩
 rcases l with ⟨hk,hm⟩ | ⟨hk,c,hc,hcell⟩
 ·exact wpAny_Name (wpAny_loadName_local I.ok.kind hk hn hm fin) hd
 ·rcases hk with hk | hk
  ·exact wpAny_Name (wpAny_loadName_cell I.ok.kind hk hc hcell fin) hd
  ·exact wpAny_Name (wpAny_loadName_free I.ok.kind hk hc hcell fin hcd) hd
theorem ZKC {i j pos}:PE X (.Constant (.int i) j pos) (tC (.int i)):=λ _ _ _ H _ I h=>wpAny_Constant_int ⟨.int i,H,I.tok _,⟨_,rfl⟩,h⟩
theorem pe_bl {b j pos}:PE X (.Constant (.bool b) j pos) (tC (.bl b)):=λ _ _ _ H _ I h=>Constant_bool ⟨.bl b,H,I,rfl,h⟩
theorem ZQb {j pos}:PE X (.Constant .none j pos) (tC .non):=λ _ _ _ H _ I h=>Constant_none ⟨.non,H,I,rfl,h⟩
theorem ZQS {x j pos}:PE X (.Constant (.str x) j pos) (tC (.str x)):=λ _ _ _ H _ I h=>Calls.Constant_str ⟨.str x,H,I.tok _,⟨_,rfl⟩,h⟩
def Gl (X:Cx) (x:Str):Prop:=X.env.kindOf x=some .globalImplicit
theorem ZIf {E:Value->Shared->Prop} {pins:List (Addr × Obj)} {s:Shared} {σ : St} {H:Hp} {x:Str} {u:Value} {pos:Pos} {Q:Value->Shared->Prop} (I:Inv X pins σ H s) (hg:Gl X x) (hm:X.mg x=some u) (h:Q u s)
  (hd:(x == ("__debug__" : Str))=false:=by decide):wpAny (model X.prog X.w) X.A (eval (.Name x pos) X.env) Q E s :=
 Calls.Name_function_global I.ok.kind hg (Calls.loadGlobal_global (by rw [I.ok.glob]; exact I.mod.glob.keeps I.bk) hm h) hd
theorem ZFZ {E:Value->Shared->Prop} {pins:List (Addr × Obj)} {s:Shared} {σ : St} {H:Hp} {x:Str} {u:Value} {pos:Pos} {Q:Value->Shared->Prop} (I:Inv X pins σ H s) (hg:Gl X x) (hm:X.mg x=none) (hv:bootBuiltins x=some u) (h:Q u s)
  (hn:x ≠ "__name__":=by decide) (hd:(x == ("__debug__" : Str))=false:=by decide):wpAny (model X.prog X.w) X.A (eval (.Name x pos) X.env) Q E s:=by
 obtain ⟨mb,h1,h2⟩:=I.mod.blt
 exact Calls.Name_function_global I.ok.kind hg (Calls.loadGlobal_builtin (by rw [I.ok.glob]; exact I.mod.glob.keeps I.bk) hm (by rw [I.ok.blt]; exact h1.keeps I.bk) ((h2 x hn).trans hv) h) hd
theorem ZPN {x:Str} {v:V} {u:Value} {pos:Pos} (hg:Gl X x) (hm:X.mg x=some u) (r:ZAD v u) (hd:(x == ("__debug__" : Str))=false:=by decide):PE X (.Name x pos) (tC v) :=
 λ _ _ _ H _ I h=>ZIf I hg hm ⟨v,H,I,r,h⟩ hd
theorem ZPp {x:Str} {v:V} {u:Value} {pos:Pos} (hg:Gl X x) (hm:X.mg x=none) (hv:bootBuiltins x=some u) (r:ZAD v u) (hn:x ≠ "__name__":=by decide) (hd:(x == ("__debug__" : Str))=false:=by decide):PE X (.Name x pos) (tC v) :=
 λ _ _ _ H _ I h=>ZFZ I hg hm hv ⟨v,H,I,r,h⟩ hn hd
variable {a b:Expr} {ta tb:TE} {pos:Pos}
def tB (t:TE):TT:=λ σ H Q=>t σ H λ x H1=>∃ c,x=.bl c/\Q c H1
theorem ZRN {e:Expr} {t:TE} (h:PE X e t) (he:∀ whole,isTrue e X.env whole=(do let v ← whole; standAt e.pos; holding [v] (truthy v)):=by intro _; rfl):PT X e (tB t):=by
 intro pins s σ H Q I hw
 refine isTrue_plain (thn (h pins s σ H _ I hw) λ v s1 ⟨x,H1,I1,r1,q1⟩=>?_) (he _)
 obtain ⟨d,rfl,q⟩:=q1
 cases r1
 exact wpAny_truthy_bool ⟨H1,I1,q⟩
variable {tA tB':TT} {rest:List Expr}
def tAnd (t u:TT):TT:=λ σ H Q=>t σ H λ c H1=>if c=true then u σ H1 Q else Q false H1
def tOr (t u:TT):TT:=λ σ H Q=>t σ H λ c H1=>if c=true then Q true H1 else u σ H1 Q
def tNot (t:TT):TT:=λ σ H Q=>t σ H λ c H1=>Q (!c) H1
theorem ZPq (ha:PT X a tA):PW X (.BoolOp .And [a] pos) tA:=by
 intro wh pins s σ H Q I h
 refine isTrue_and (thn (ha pins s σ H Q I h) λ c s1 e=>?_)
 cases c with
 | true=>exact isTrue_and_nil e
 | false=>exact e
theorem ZRO (ha:PT X a tA):PW X (.BoolOp .Or [a] pos) tA:=by
 intro wh pins s σ H Q I h
 refine isTrue_or (thn (ha pins s σ H Q I h) λ c s1 e=>?_)
 cases c with
 | false=>exact isTrue_or_nil e
 | true=>exact e
theorem ZQR (ha:PT X a tA) (hb:PW X (.BoolOp .And (b :: rest) pos) tB'):PW X (.BoolOp .And (a :: b :: rest) pos) (tAnd tA tB'):=by
 intro wh pins s σ H Q I h
 refine isTrue_and (thn (ha pins s σ H _ I h) λ c s1 ⟨H1,I1,q1⟩=>?_)
 cases c with
 | true=>exact hb wh pins s1 σ H1 Q I1 q1
 | false=>exact ⟨H1,I1,q1⟩
theorem pw_or (ha:PT X a tA) (hb:PW X (.BoolOp .Or (b :: rest) pos) tB'):PW X (.BoolOp .Or (a :: b :: rest) pos) (tOr tA tB'):=by
 intro wh pins s σ H Q I h
 refine isTrue_or (thn (ha pins s σ H _ I h) λ c s1 ⟨H1,I1,q1⟩=>?_)
 cases c with
 | true=>exact ⟨H1,I1,q1⟩
 | false=>exact hb wh pins s1 σ H1 Q I1 q1
theorem ZQX (ha:PT X a tA):PT X (.UnaryOp .Not a pos) (tNot tA):=by
 intro pins s σ H Q I h
 exact isTrue_not (ha pins s σ H (λ c H1=>Q (!c) H1) I h)
def tAndV (ta tb:TE):TE:=λ σ H Q=>ta σ H λ x H1=>∃ c,x=.bl c/\if c=true then tb σ H1 Q else Q (.bl false) H1
def tOrV (ta tb:TE):TE:=λ σ H Q=>ta σ H λ x H1=>∃ c,x=.bl c/\if c=true then Q (.bl true) H1 else tb σ H1 Q
def tNotV (ta:TE):TE:=λ σ H Q=>ta σ H λ x H1=>∃ c,x=.bl c/\Q (.bl (!c)) H1
theorem ZR3 {op} {t:TE} (h:PE X a t):PE X (.BoolOp op [a] pos) t:=λ pins s σ H Q I hw=>BoolOp_one (h pins s σ H Q I hw)
theorem ZRG (ha:PE X a ta) (hb:PE X (.BoolOp .And (b :: rest) pos) tb):PE X (.BoolOp .And (a :: b :: rest) pos) (tAndV ta tb):=by
 intro pins s σ H Q I h
 refine BoolOp_and (thn (ha pins s σ H _ I h) λ v s1 ⟨x,H1,I1,r1,q1⟩=>?_)
 obtain ⟨c,rfl,q1⟩:=q1
 cases r1
 refine wpAny_truthy_bool ?_
 cases c with
 | true=>exact hb pins s1 σ H1 Q I1 q1
 | false=>exact ⟨.bl false,H1,I1,rfl,q1⟩
theorem pe_or (ha:PE X a ta) (hb:PE X (.BoolOp .Or (b :: rest) pos) tb):PE X (.BoolOp .Or (a :: b :: rest) pos) (tOrV ta tb):=by
 intro pins s σ H Q I h
 refine BoolOp_or (thn (ha pins s σ H _ I h) λ v s1 ⟨x,H1,I1,r1,q1⟩=>?_)
 obtain ⟨c,rfl,q1⟩:=q1
 cases r1
 refine wpAny_truthy_bool ?_
 cases c with
 | false=>exact hb pins s1 σ H1 Q I1 q1
 | true=>exact ⟨.bl true,H1,I1,rfl,q1⟩
theorem ZRC (ha:PE X a ta):PE X (.UnaryOp .Not a pos) (tNotV ta):=by
 intro pins s σ H Q I h
 refine UnaryOp_ (thn (ha pins s σ H _ I h) λ v s1 ⟨x,H1,I1,r1,q1⟩=>?_)
 obtain ⟨c,rfl,q1⟩:=q1
 cases r1
 exact not_of (wpAny_truthy_bool ⟨.bl (!c),H1,I1,rfl,q1⟩)
end
end L2
namespace L2
open PySem PySem.Spec PyProof.Rows
def SqL (K:PySem.W.Frag) (H:Hp) (a:Addr) (xs:List V):Prop :=
 Rd H a (.lst xs) ∨
  ∃ (o:Obj) (its:Array Value) (n:Nat),K.lookup a=some o/\o.cls=.type "list"/\o.dict=none/\o.data=.seq its n/\its.size<=sizeLine/\Zs xs its.toList
def SqT (K:PySem.W.Frag) (H:Hp) (a:Addr) (xs:List V):Prop :=
 Rd H a (.tup xs) ∨
  ∃ (o:Obj) (its:Array Value) (n:Nat),K.lookup a=some o/\o.cls=.type "tuple"/\o.data=.seq its n/\its.size<=sizeLine/\Zs xs its.toList
def absV:Value->Option V
 | .none=>some .non
 | .bool b=>some (.bl b)
 | .int i _=>some (.int i)
 | .str x _=>some (.str x)
 | .bytes b _=>some (.byt b)
 | .float b _=>some (.flt b)
 | .ref a=>some (.ref a)
 | .type n=>some (.ty n)
 | _=>none
theorem ZAD.abs {x:V} {u:Value} (r:ZAD x u):absV u=some x:=by
 cases x with
 | non=>cases r; rfl
 | bl _=>cases r; rfl
 | int _=>obtain ⟨t,rfl⟩:=r; rfl
 | str _=>obtain ⟨t,rfl⟩:=r; rfl
 | byt _=>obtain ⟨t,rfl⟩:=r; rfl
 | flt _=>obtain ⟨t,rfl⟩:=r; rfl
 | ref _=>cases r; rfl
 | ty _=>cases r; rfl
theorem ZAD.inj {x y:V} {u:Value} (r:ZAD x u) (q:ZAD y u):x=y:=Option.some.inj (r.abs.symm.trans q.abs)
theorem Zs.inj:∀ {xs ys:List V} {us:List Value},Zs xs us->Zs ys us->xs=ys
 | _,_,_,.nil,.nil=>rfl
 | _,_,_,.cons r t,.cons r' t'=>by rw [r.inj r',Zs.inj t t']
section
variable {X:Cx} {pins:List (Addr × Obj)} {σ : St} {H:Hp} {s:Shared} {a:Addr} {xs ys:List V}
theorem SqL.of {K:PySem.W.Frag} (h:H a=some (.lst xs)):SqL K H a xs:=.inl (.inl h)
theorem Inv.list (I:Inv X pins σ H s) (h:SqL X.K H a xs):∃ its:List Value,Zs xs its/\PlainL s.heap a its.toArray/\xs.length<=sizeLine:=by
 rcases h with h | ⟨o,its,n,hk,hc,hd,hs,hz,r⟩
 ·obtain ⟨z,its,n,r,e⟩:=h.ok I.hok
  exact ⟨its,r,⟨_,n,e,rfl,rfl,rfl⟩,z⟩
 ·refine ⟨its.toList,r,⟨o,n,I.kIn a o hk,hc,hd,by simpa using hs⟩,?_⟩
  have e:=r.length
  simp only [Array.length_toList] at e
  omega
theorem Inv.tuple (I:Inv X pins σ H s) (h:SqT X.K H a xs):∃ its:List Value,Zs xs its/\IsTup s.heap a its.toArray/\xs.length<=sizeLine:=by
 rcases h with h | ⟨o,its,n,hk,hc,hs,hz,r⟩
 ·obtain ⟨z,its,r,p⟩:=h.ok I.hok
  exact ⟨its,r,p,z⟩
 ·refine ⟨its.toList,r,⟨o,I.kIn a o hk,hc,n,by simpa using hs⟩,?_⟩
  have e:=r.length
  simp only [Array.length_toList] at e
  omega
theorem Inv.list_inj (I:Inv X pins σ H s) (h:SqL X.K H a xs) (h':SqL X.K H a ys):xs=ys:=by
 obtain ⟨its,r,⟨o,n,e,_,_,d⟩,_⟩:=I.list h
 obtain ⟨its',r',⟨o',n',e',_,_,d'⟩,_⟩:=I.list h'
 rw [e] at e'; cases e'
 rw [d] at d'
 injection d' with d1 _
 have:its=its':=by simpa using congrArg Array.toList d1
 subst this
 exact r.inj r'
theorem Inv.tuple_inj (I:Inv X pins σ H s) (h:SqT X.K H a xs) (h':SqT X.K H a ys):xs=ys:=by
 obtain ⟨its,r,⟨o,e,_,n,d⟩,_⟩:=I.tuple h
 obtain ⟨its',r',⟨o',e',_,n',d'⟩,_⟩:=I.tuple h'
 rw [e] at e'; cases e'
 rw [d] at d'
 injection d' with d1 _
 have:its=its':=by simpa using congrArg Array.toList d1
 subst this
 exact r.inj r'
end
abbrev Cx.wish (X:Cx) (E:Value->Shared->Prop):Cx:={ X with xe:=E }
abbrev Cx.nox (X:Cx):Cx:=X.wish λ _ _=>False
theorem Cx.Ok.wish {X:Cx} (ok:X.Ok) (E:Value->Shared->Prop):(X.wish E).Ok :=
 ⟨ok.mod,ok.kind,ok.glob,ok.blt,ok.above,ok.inj,ok.has,ok.cab,ok.hd,ok.frames,ok.stk,ok.exf,ok.bs,ok.bsz,ok.noex,ok.exfs,ok.funs,ok.frf⟩
theorem Cx.Ok.unwish {X:Cx} {E:Value->Shared->Prop} (ok:(X.wish E).Ok):X.Ok :=
 ⟨ok.mod,ok.kind,ok.glob,ok.blt,ok.above,ok.inj,ok.has,ok.cab,ok.hd,ok.frames,ok.stk,ok.exf,ok.bs,ok.bsz,ok.noex,ok.exfs,ok.funs,ok.frf⟩
section
variable {X:Cx} {pins:List (Addr × Obj)} {σ : St} {H:Hp} {s:Shared} {E:Value->Shared->Prop}
theorem Inv.wish (I:Inv X pins σ H s) (E:Value->Shared->Prop):Inv (X.wish E) pins σ H s:=⟨I.ok.wish E,I.os,I.bare,I.base,I.loc,I.cell,I.free,I.freeC,I.pin,I.hok,I.len⟩
theorem Inv.unwish (I:Inv (X.wish E) pins σ H s):Inv X pins σ H s:=⟨I.ok.unwish,I.os,I.bare,I.base,I.loc,I.cell,I.free,I.freeC,I.pin,I.hok,I.len⟩
theorem SP.unwish {D:Ends} {f:Flow} {s':Shared} (h:SP (X.wish E) pins D f s'):SP X pins D f s':=by
 cases f with
 | next=>obtain ⟨σ',H',I,q⟩:=h; exact ⟨σ',H',I.unwish,q⟩
 | brk=>obtain ⟨σ',H',I,q⟩:=h; exact ⟨σ',H',I.unwish,q⟩
 | cont=>obtain ⟨σ',H',I,q⟩:=h; exact ⟨σ',H',I.unwish,q⟩
 | ret u=>obtain ⟨v,σ',H',I,r,q⟩:=h; exact ⟨v,σ',H',I.unwish,r,q⟩
theorem PSs.nox {st:List Stmt} {t:TS} (h:PSs X.nox st t):PSs X st t:=λ pins s σ H D I hw =>
 wpAny_mono (h pins s σ H D (I.wish _) hw) (λ _ _ q=>q.unwish) λ _ _ z=>False.elim z
end
section
variable {X:Cx} {st:Stmt} {rest:List Stmt} {t u:TS} {e:Expr} {te:TE} {pos:Pos}
def tNext:TS:=λ D σ H=>D.nx σ H
def tSeq (t u:TS):TS:=λ D σ H=>t { D with nx:=u D } σ H
theorem ZPd:PSs X [] tNext:=λ _ _ σ H _ I h=>wpAny_execs_nil ⟨σ,H,I,h⟩
theorem ZMl (h1:PS X st t) (h2:PSs X rest u):PSs X (st :: rest) (tSeq t u):=by
 intro pins s σ H D I h
 refine wpAny_execs_cons (thn (h1 pins s σ H { D with nx:=u D } I h) λ f s1 q=>?_)
 cases f with
 | next =>
  obtain ⟨σ',H',I',q⟩:=q
  exact h2 pins s1 σ' H' D I' q
 | ret v=>exact q
 | brk=>exact q
 | cont=>exact q
theorem ZPr (h1:PS X st t):PSs X [st] t:=by
 intro pins s σ H D I h
 refine wpAny_execs_cons (thn (h1 pins s σ H D I h) λ f s1 q=>?_)
 cases f with
 | next=>exact wpAny_execs_nil q
 | ret v=>exact q
 | brk=>exact q
 | cont=>exact q
theorem Inv.quiet {pins:List (Addr × Obj)} {σ : St} {H:Hp} {s:Shared} (I:Inv X pins σ H s):interactive X.env=false:=by simp [interactive,I.ok.kind]
def tDrop (te:TE):TS:=λ D σ H=>te σ H λ _ H1=>D.nx σ H1
theorem ZOd (he:PE X e te) (hs:swapsWith e none pos.line X.env=pure false:=by rfl):PS X (.Expr e pos) (tDrop te):=by
 intro pins s σ H D I h
 exact wpAny_Expr_any (thn (he pins s σ H _ I h) λ v s1 ⟨x,H1,I1,r1,q1⟩=>⟨σ,H1,I1,q1⟩) I.quiet hs
def tRet (te:TE):TS:=λ D σ H=>te σ H D.rt
theorem ZQw (he:PE X e te):PS X (.Return (some e) pos) (tRet te):=by
 intro pins s σ H D I h
 exact wpAny_Return_some (thn (he pins s σ H _ I h) λ v s1 ⟨x,H1,I1,r1,q1⟩=>⟨x,σ,H1,I1,r1,q1⟩)
def tIfS (c:TT) (t u:TS):TS:=λ D σ H=>c σ H λ b H1=>if b=true then t D σ H1 else u D σ H1
theorem ps_if {c:Expr} {a b:List Stmt} {tc:TT} (hc:PT X c tc) (ha:PSs X a t) (hb:PSs X b u):PS X (.If c a b pos) (tIfS tc t u):=by
 intro pins s σ H D I h
 refine wpAny_If (thn (hc pins s σ H _ I h) λ d s1 ⟨H1,I1,q1⟩=>?_)
 cases d with
 | true=>exact ha pins s1 σ H1 D I1 q1
 | false=>exact hb pins s1 σ H1 D I1 q1
end
abbrev TG:=V->St->Hp->(St->Hp->Prop)->Prop
abbrev TGs:=List V->St->Hp->(St->Hp->Prop)->Prop
def PG (X:Cx) (target:Expr) (t:TG):Prop :=
 ∀ (pins:List (Addr × Obj)) (s:Shared) (σ : St) (H:Hp) (v:V) (u:Value) (Q:St->Hp->Prop),Inv X pins σ H s->ZAD v u->t v σ H Q ->
  wpAny (model X.prog X.w) X.A (assign target X.env u) (λ _ s'=>∃ σ' H',Inv X pins σ' H' s'/\Q σ' H') X.xe s
def PGs (X:Cx) (ts:List Expr) (t:TGs):Prop :=
 ∀ (pins:List (Addr × Obj)) (s:Shared) (σ : St) (H:Hp) (vs:List V) (us:List Value) (Q:St->Hp->Prop),Inv X pins σ H s->Zs vs us->t vs σ H Q ->
  wpAny (model X.prog X.w) X.A (assignInOrder ((assignEach ts X.env).map (·.2)) us) (λ _ s'=>∃ σ' H',Inv X pins σ' H' s'/\Q σ' H') X.xe s
abbrev ZQi:=V->V->V->Hp->(Hp->Prop)->Prop
def ZSE (X:Cx) (t:ZQi):Prop :=
 ∀ (pins:List (Addr × Obj)) (s:Shared) (σ : St) (H:Hp) (o i v:V) (ov iv u:Value) (Q:Hp->Prop),Inv X pins σ H s->ZAD o ov->ZAD i iv->ZAD v u->t o i v H Q ->
  wpAny (model X.prog X.w) X.A (setItem ov iv u) (λ _ s'=>∃ H',Inv X pins σ H' s'/\Q H') X.xe s
abbrev TIp:=V->V->Hp->VK->Prop
def PIp (X:Cx) (op:Operator) (t:TIp):Prop :=
 ∀ (pins:List (Addr × Obj)) (s:Shared) (σ : St) (H:Hp) (x y:V) (v u:Value) (Q:VK),Inv X pins σ H s->ZAD x v->ZAD y u->t x y H Q ->
  wpAny (model X.prog X.w) X.A (inplaceOp op v u) (EP X pins σ Q) X.xe s
section
variable {X:Cx} {pos:Pos}
def ZJQ (i:Nat):TG:=λ v σ H Q=>Q (σ.set i (some v)) H
theorem ZO3 {i:Nat} {x:Str} (hN:X.N.Nodup) (hi:X.N[i]? = some x) (hx:Loc X.env.scope x) (hf:X.fn x=true ∨ X.env.scope.names.lookup x=some .local:=by first | exact .inl rfl | exact .inr rfl | assumption):PG X (.Name x pos) (ZJQ i):=by
 intro pins s σ H v u Q I r h
 exact wpAny_assign_Name (ZB9 I hN hi hx r (λ s' I'=>⟨_,H,I',h⟩) hf)
def ZSN:TGs:=λ vs σ H Q=>vs=[]/\Q σ H
def ZP9 (t:TG) (u:TGs):TGs:=λ vs σ H Q=>∃ v r,vs=v :: r/\t v σ H λ σ' H'=>u r σ' H' Q
theorem ZO1:PGs X [] ZSN:=by
 intro pins s σ H vs us Q I r h
 obtain ⟨e,h⟩:=h
 subst e
 cases r
 exact assignInOrder_nil ⟨σ,H,I,h⟩
theorem ZNE {e:Expr} {es:List Expr} {t:TG} {u:TGs} (h1:PG X e t) (h2:PGs X es u)
  (hs:(assignEach (e :: es) X.env).map (·.2)=assign e X.env :: (assignEach es X.env).map (·.2):=by rfl):PGs X (e :: es) (ZP9 t u):=by
 intro pins s σ H vs us Q I r h
 obtain ⟨v,vr,e1,h⟩:=h
 subst e1
 cases r with
 | cons r rr =>
  rw [hs]
  refine assignInOrder_cons (thn (h1 pins s σ H _ _ _ I r h) λ _ s1 ⟨σ1,H1,I1,q1⟩=>?_)
  exact h2 pins s1 σ1 H1 _ _ Q I1 rr q1
def ZSO (K:PySem.W.Frag) (n:Nat) (t:TGs):TG:=λ v σ H Q=>∃ a xs,v=.ref a/\SqT K H a xs/\xs.length=n/\t xs σ H Q
theorem ZQk {es:List Expr} {k:Nat} {t:TGs} {n:Nat} (hc:X.calm=true) (h:PGs X es t)
  (hn:(assignEach es X.env).length=n:=by rfl) (hst:(assignEach es X.env).findIdx? (·.1)=none:=by rfl):PG X (.Tuple es k pos) (ZSO X.K n t):=by
 intro pins s σ H v u Q I r hw
 obtain ⟨a,xs,e1,hq,hl,hw⟩:=hw
 subst e1
 cases r
 obtain ⟨its,rv,ht,hz⟩:=I.tuple hq
 refine assign_Tuple_tuple (I.ok.hd hc) ht (by simp [hn,← hl,rv.length]) hst λ h' hx=>?_
 have I1:Inv X pins σ H { s with heap:=h' }:=I.kept (t':=s.toks) λ b o e=>hx b o (Nat.ne_of_lt (Heap.lt_size e)) e
 exact h pins _ σ H xs _ Q I1 (by simpa using rv) hw
def gSub (to ti:TE) (t:ZQi):TG:=λ v σ H Q=>to σ H λ o H1=>ti σ H1 λ i H2=>t o i v H2 λ H3=>Q σ H3
theorem ZQ3 {o i:Expr} {to ti:TE} {t:ZQi} (ho:PE X o to) (hi:PE X i ti) (hs:ZSE X t)
  (ha:∀ v,assign (.Subscript o i pos) X.env v=(do
   let ov ← holding [v] (eval o X.env)
   let iv ← holding [v,ov] (eval i X.env)
   standAt pos
   holding [v,ov,iv] (setItem ov iv v)
   release [v,ov,iv] []):=by intro _; rfl):PG X (.Subscript o i pos) (gSub to ti t):=by
 intro pins s σ H v u Q I r h
 rw [ha]
 refine wpAny_bind (wpAny_holding (thn (ho pins s σ H _ I h) λ ov s1 ⟨x,H1,I1,r1,q1⟩=>?_))
 refine wpAny_bind (wpAny_holding (thn (hi pins s1 σ H1 _ I1 q1) λ iv s2 ⟨y,H2,I2,r2,q2⟩=>?_))
 refine wpAny_bind (wpAny_standAt (wpAny_bind (wpAny_holding (thn (hs pins s2 σ H2 x y v ov iv u _ I2 r1 r2 r q2) λ _ s3 ⟨H3,I3,q3⟩=>?_))))
 exact wpAny_release ⟨σ,H3,I3,q3⟩
def ZQ5 (te:TE) (g:TG):TS:=λ D σ H=>te σ H λ x H1=>g x σ H1 D.nx
theorem ZNt {tg e:Expr} {te:TE} {g:TG} (he:PE X e te) (hg:PG X tg g) (hs:swapsWithSole [tg] e pos.line X.env=pure false:=by rfl) (hw:swappedStores [tg] e X.env=pure none:=by rfl)
  (h1:(assignEach [tg] X.env).map (·.2)=[assign tg X.env]:=by rfl):PS X (.Assign [tg] e pos) (ZQ5 te g):=by
 intro pins s σ H D I h
 refine wpAny_Assign_stores (thn (he pins s σ H _ I h) λ v s1 ⟨x,H1,I1,r1,q1⟩=>?_) hs hw
 rw [h1]
 exact thn (hg pins s1 σ H1 x v _ I1 r1 q1) λ _ s2 q=>q
theorem ZQJ {i:Nat} {x:Str} {e:Expr} {te:TE} {pos':Pos} (hN:X.N.Nodup) (hi:X.N[i]? = some x) (hx:Loc X.env.scope x) (he:PE X e te) (hs:swapsWith e (some (.Name x pos')) pos.line X.env=pure false:=by rfl) (hf:X.fn x=true ∨ X.env.scope.names.lookup x=some .local:=by first | exact .inl rfl | exact .inr rfl | assumption) :
  PS X (.Assign [.Name x pos'] e pos) (ZQ5 te (ZJQ i)):=by
 intro pins s σ H D I h
 refine wpAny_Assign_Name (thn (he pins s σ H _ I h) λ v s1 ⟨y,H1,I1,r1,q1⟩=>?_) hs
 exact ZB9 I1 hN hi hx r1 (λ s2 I2=>⟨_,H1,I2,q1⟩) hf
def ZSC (i j:Nat) (ta:TA):TS:=λ D σ H=>ta σ H λ vs H1=>∃ v w,vs=[v,w]/\D.nx ((σ.set i (some v)).set j (some w)) H1
theorem ZRI {i j:Nat} {x y:Str} {a b:Expr} {ta:TA} {px py pt:Pos} {kt k2 pt2} (hc:X.calm=true) (hN:X.N.Nodup) (hi:X.N[i]? = some x) (hj:X.N[j]? = some y) (hij:i ≠ j)
  (hx:X.env.scope.names.lookup x=some .local) (hy:X.env.scope.names.lookup y=some .local) (ha:PA X [a,b] ta)
  (hw:swappedStores [.Tuple [.Name x px,.Name y py] kt pt] (.Tuple [a,b] k2 pt2) X.env=pure (some [x,y]))
  (hs:swapsWithSole [.Tuple [.Name x px,.Name y py] kt pt] (.Tuple [a,b] k2 pt2) pos.line X.env=pure false:=by rfl) :
  PS X (.Assign [.Tuple [.Name x px,.Name y py] kt pt] (.Tuple [a,b] k2 pt2) pos) (ZSC i j ta):=by
 intro pins s σ H D I h
 rw [exec_Assign_arm]
 refine wpAny_bind (wpAny_standAt ?_)
 rw [hs]
 refine wpAny_bind (wpAny_pure ?_)
 rw [if_neg (by decide)]
 refine wpAny_bind (Tuple_ (thn (ha _ pins s σ H _ I h) λ us s1 ⟨vs,H1,I1,r1,q1⟩=>?_))
 obtain ⟨v,w,e1,q1⟩:=q1
 subst e1
 obtain ⟨u1,u2,rfl,rv,rw'⟩:∃ u1 u2,us=[u1,u2]/\ZAD v u1/\ZAD w u2:=by
  cases r1 with
  | cons p q =>
   cases q with
   | cons p' q' =>
    cases q'
    exact ⟨_,_,rfl,p,p'⟩
 refine wpAny_newObj_type ?_ (by show 2<=sizeLine; decide)
 have I2:Inv X pins σ H1 { s1 with heap:=s1.heap.push { cls:=.type "tuple",data:=.seq [u1,u2].toArray } }:=I1.kept (t':=s1.toks) λ b o e=>Heap.get?_push_of_some _ e
 rw [hw]
 refine wpAny_bind (wpAny_pure ?_)
 show wpAny (model X.prog X.w) X.A (do rule "assign.swapped-stores"; let items ← unpackItems (.ref s1.heap.objs.size) 2 none; assignInOrder [λ v=>bindName X.env y v,λ v=>bindName X.env x v] items.reverse; pure Flow.next) _ _ _
 refine wpAny_bind (wpAny_rule (wpAny_bind (unpackItems_tuple (items:=#[u1,u2]) (I.ok.hd hc) (IsTup.new s1.heap _) λ h' hx'=>?_)))
 have I3:=I2.kept (h':=h') (t':=s1.toks) λ b o e=>hx' b o (Nat.ne_of_lt (Heap.lt_size e)) e
 show wpAny _ _ (assignInOrder [λ v=>bindName X.env y v,λ v=>bindName X.env x v] [u2,u1] >>= λ _=>pure Flow.next) _ _ _
 refine wpAny_bind (assignInOrder_cons (wpAny_bindName (ZB9 I3 hN hj (.inl hy) rw' (λ s2 I4=>?_) (.inr hy))))
 refine assignInOrder_cons (wpAny_bindName (ZB9 I4 hN hi (.inl hx) rv (λ s3 I5=>assignInOrder_nil (wpAny_pure ?_)) (.inr hx)))
 rw [List.set_comm _ _ (Ne.symm hij)] at I5
 exact ⟨_,H1,I5,q1⟩
def tAug (i:Nat) (te:TE) (ti:TIp):TS:=λ D σ H=>∃ x,σ[i]? = some (some x)/\te σ H λ y H1=>ti x y H1 λ z H2=>D.nx (σ.set i (some z)) H2
theorem ZQG {i:Nat} {x:Str} {e:Expr} {te:TE} {op:Operator} {ti:TIp} {pos':Pos} (hN:X.N.Nodup) (hi:X.N[i]? = some x) (hx:Loc X.env.scope x) (he:PE X e te) (ho:PIp X op ti) (hf:X.fn x=true ∨ X.env.scope.names.lookup x=some .local:=by first | exact .inl rfl | exact .inr rfl | assumption) :
  PS X (.AugAssign (.Name x pos') op e pos) (tAug i te ti):=by
 intro pins s σ H D I h
 obtain ⟨v,e1,h⟩:=h
 obtain ⟨m,hn,hl⟩:=I.loc
 have vis:Vis X.env.scope x:=by rcases hx with k | k; exact .inl k; exact .inr (.inl k)
 obtain ⟨u,r,l⟩:=hl i x v hi e1 vis
 refine wpAny_AugAssign_Name ?_
 have go:wpAny (model X.prog X.w) X.A (eval e X.env) (λ w s₂=>wpAny (model X.prog X.w) X.A (inplaceOp op u w) (λ r s₃=>wpAny (model X.prog X.w) X.A (storeName X.env x r) (λ _=>SP X pins D .next) X.xe s₃) X.xe s₂) X.xe s:=by
  refine thn (he pins s σ H _ I h) λ w s1 ⟨y,H1,I1,r1,q1⟩=>?_
  refine thn (ho pins s1 σ H1 v y u w _ I1 r r1 q1) λ z s2 ⟨zv,H2,I2,r2,q2⟩=>?_
  exact ZB9 I2 hN hi hx r2 (λ s3 I3=>⟨_,H2,I3,q2⟩) hf
 rcases l with ⟨hk,hm⟩ | ⟨hk,c,hc,hcell⟩
 ·exact wpAny_loadName_local I.ok.kind hk hn hm go
 ·rcases hk with hk | hk
  ·exact wpAny_loadName_cell I.ok.kind hk hc hcell go
  ·rcases hx with k | k
   ·have:X.env.scope.names.lookup x=some .free:=hk
    rw [k] at this; cases this
   ·have:X.env.scope.names.lookup x=some .free:=hk
    rw [k] at this; cases this
end
section
variable {X:Cx} {pos:Pos}
end
structure It where
 go:Nat->Hp->Prop
 yld:Nat->Hp->V->Hp->Prop
 stop:Nat->Hp->Prop
def ZFw (X:Cx) (pins:List (Addr × Obj)) (H:Hp) (b:Addr):Prop :=
 H b=none/\b ≠ X.env.locals/\b ∉ X.fs/\(b ∈ X.ex ∨ X.s₀.heap.objs.size<=b)/\(∀ x c,X.env.cells.lookup x=some c->c ≠ b)/\∀ p ∈ X.pn ++ pins,p.1 ≠ b
theorem Inv.fpOk {X:Cx} {pins:List (Addr × Obj)} {σ : St} {H H':Hp} {s:Shared} {b:Addr} (I:Inv X pins σ H s) (hb:s.heap.objs.size<=b) (hn:H' b=none):ZFw X pins H' b:=by
 refine ⟨hn,Nat.ne_of_gt (Nat.lt_of_lt_of_le I.lt hb),I.nofs hb,.inr (Nat.le_trans I.sz hb),λ x c e z=>?_,λ p hp z=>?_⟩
 ·obtain ⟨v,q⟩:=I.cell x c e
  exact absurd (Nat.lt_of_lt_of_le q.lt (by rw [z]; exact hb)) (Nat.lt_irrefl _)
 ·exact absurd (Nat.lt_of_lt_of_le (Heap.lt_size (I.pin p hp).1) (by rw [z]; exact hb)) (Nat.lt_irrefl _)
structure Turn (P:Program) (w:World) (K:PySem.W.Frag) (tg:Expr) (J:It) (fp:List Addr) (it:Addr) (tn:Nat->Heap->Prop):Prop where
  mem:it ∈ fp
  obj:∀ i h,tn i h->∀ b ∈ fp,∃ o,h.get? b=some o/\∀ v,o.data ≠ .cell v
  keep:∀ i h h',tn i h->(∀ b ∈ fp,∀ o,h.get? b=some o->h'.get? b=some o)->tn i h'
  item:∀ (X:Cx),X.prog=P->X.w=w->X.K=K->X.calm=true->∀ (i:Nat) (pins:List (Addr × Obj)) (s:Shared) (σ : St) (H:Hp) (E:Value->Shared->Prop),Inv X pins σ H s->(∀ b ∈ fp,ZFw X pins H b)->tn i s.heap->J.go i H ->
    wpAny (model P w) X.A (pyNext (.ref it)) (λ r s1=>∃ u,r=some u /\
      wpAny (model P w) X.A (letOwnedTupleGo tg (.ref it) u) (λ _ s2=>∃ x H',Inv X pins σ H' s2/\ZAD x u/\J.yld i H x H'/\tn (i+1) s2.heap/\∀ b ∈ fp,H' b=none) E s1) E s
  done:∀ (X:Cx),X.prog=P->X.w=w->X.K=K->X.calm=true->∀ (i:Nat) (pins:List (Addr × Obj)) (s:Shared) (σ : St) (H:Hp) (E:Value->Shared->Prop),Inv X pins σ H s->(∀ b ∈ fp,ZFw X pins H b)->tn i s.heap->J.stop i H ->
    wpAny (model P w) X.A (pyNext (.ref it)) (λ r s1=>r=none/\Inv X pins σ H s1) E s
  self:∀ (A:Around) (i:Nat) (s:Shared) (Q:Value->Shared->Prop) (E:Value->Shared->Prop),tn i s.heap->Q (.ref it) s->wpAny (model P w) A (pyIter (.ref it)) Q E s
abbrev TI:=St->Hp->(It->Hp->Prop)->Prop
def PIE (X:Cx) (pins:List (Addr × Obj)) (σ : St) (tg:Expr) (R:It->Hp->Prop) (itv:Value) (s2:Shared):Prop :=
 ∃ (it:Addr) (fp:List Addr) (tn:Nat->Heap->Prop) (J:It) (H':Hp),itv=.ref it/\Inv X pins σ H' s2/\Turn X.prog X.w X.K tg J fp it tn/\tn 0 s2.heap/\(∀ b ∈ fp,ZFw X pins H' b)/\R J H'
def PI (X:Cx) (tg iter:Expr) (wi:TI):Prop :=
 ∀ (pins:List (Addr × Obj)) (s:Shared) (σ : St) (H:Hp) (R:It->Hp->Prop),Inv X pins σ H s->wi σ H R ->
  wpAny (model X.prog X.w) X.A (eval iter X.env) (λ v s1=>wpAny (model X.prog X.w) X.A (pyIter v) (PIE X pins σ tg R) X.xe s1) X.xe s
theorem ZNX {M:Model} {A:Around} {E:Value->Shared->Prop} {s:Shared} {tg:Expr} {it:Addr} {u:Value} {o:Obj} {n:String} {vs:Array Value} {Q:Unit->Shared->Prop} (ho:s.heap.get? it=some o) (hc:o.cls=.type n) (hd:o.data=.fields vs)
    (hn:["enumerate","zip","dict_itemiterator","dict_reverseitemiterator","odict_iterator","itertools.zip_longest","itertools.pairwise"].contains n=false) (hQ:Q () s):wpAny M A (letOwnedTupleGo tg (.ref it) u) Q E s:=by
  unfold letOwnedTupleGo
  cases tg <;> first
    | exact wpAny_pure hQ
    | (cases u <;> first
        | exact wpAny_pure hQ
        | (refine wpAny_bind (wpAny_load ho ?_)
           rw [hc,hd]
           show wpAny M A (if (["enumerate","zip","dict_itemiterator","dict_reverseitemiterator","odict_iterator","itertools.zip_longest","itertools.pairwise"].contains n && vs[0]? == some (rawInt _))=true then _ else _) Q E s
           rw [if_neg (by intro h; rw [hn,Bool.false_and] at h; cases h)]
           exact wpAny_pure hQ))
def Itl (K:PySem.W.Frag) (a:Addr):It :=
 ⟨λ i H=>∃ xs x,SqL K H a xs/\xs[i]? = some x,λ i H x H'=>H'=H/\∀ xs,SqL K H a xs->xs[i]? = some x,λ i H=>∃ xs,SqL K H a xs/\xs.length<=i⟩
def Itt (K:PySem.W.Frag) (a:Addr):It :=
 ⟨λ i H=>∃ xs x,SqT K H a xs/\xs[i]? = some x,λ i H x H'=>H'=H/\∀ xs,SqT K H a xs->xs[i]? = some x,λ i H=>∃ xs,SqT K H a xs/\xs.length<=i⟩
def Itr (lo:Int) (n:Nat):It:=⟨λ i _=>i < n,λ i H x H'=>H'=H/\x=.int (lo+i),λ i _=>n<=i⟩
theorem ZLp {P:Program} {w:World} {K:PySem.W.Frag} {tg:Expr} (a it:Addr):Turn P w K tg (Itl K a) [it] it (λ i h=>h.IsListIter it a i) where
 mem:=by simp
 obj:=λ i h st b hb=>by
  have e:b=it:=by simpa using hb
  subst e
  obtain ⟨o,e,c,d⟩:=st
  exact ⟨o,e,λ v z=>by rw [d] at z; cases z⟩
 keep:=λ i h h' st k=>st.at λ o e=>k it (by simp) o e
 item:=by
  intro X hP hw hK hc i pins s σ H E I hf st hg
  subst hP hw hK
  obtain ⟨xs,x,hq,hx⟩:=hg
  obtain ⟨its,rv,p,hz⟩:=I.list hq
  obtain ⟨u,hu,ru⟩:=rv.get hx
  obtain ⟨f0,f1,f2,f3,f4,f5⟩:=hf it (by simp)
  refine wpAny_pyNext_list_item st p.isList (x:=u) (by simpa using hu) λ h' st' sb=>?_
  have I1:Inv X pins σ H { s with heap:=h' }:=I.turned (t':=s.toks) (λ b o hb e=>(sb.2 b hb).trans e) f0 f1 f3 f4 f5
  obtain ⟨o,e,c,d⟩:=id st'
  exact ⟨u,rfl,ZNX (s:={ s with heap:=h' }) e c d (by decide) ⟨x,H,I1,ru,⟨rfl,λ ys hy=>by rw [I.list_inj hy hq]; exact hx⟩,st',λ b hb=>(hf b hb).1⟩⟩
 done:=by
  intro X hP hw hK hc i pins s σ H E I hf st hg
  subst hP hw hK
  obtain ⟨xs,hq,hx⟩:=hg
  obtain ⟨its,rv,p,hz⟩:=I.list hq
  obtain ⟨f0,f1,f2,f3,f4,f5⟩:=hf it (by simp)
  have hl:=rv.length
  exact wpAny_pyNext_list_end (I.ok.hd hc) st p.isList (by simp; omega) λ h' eb=>⟨rfl,I.turned (t':=s.toks) (λ b o hb e=>eb b o hb e) f0 f1 f3 f4 f5⟩
 self:=λ _ _ _ _ _ st h=>wpAny_pyIter_listiter st h
theorem ZKf {P:Program} {w:World} {K:PySem.W.Frag} {tg:Expr} (a it:Addr):Turn P w K tg (Itt K a) [it] it (λ i h=>h.IsTupleIter it a i) where
 mem:=by simp
 obj:=λ i h st b hb=>by
  have e:b=it:=by simpa using hb
  subst e
  obtain ⟨o,e,c,d⟩:=st
  exact ⟨o,e,λ v z=>by rw [d] at z; cases z⟩
 keep:=λ i h h' st k=>st.at λ o e=>k it (by simp) o e
 item:=by
  intro X hP hw hK hc i pins s σ H E I hf st hg
  subst hP hw hK
  obtain ⟨xs,x,hq,hx⟩:=hg
  obtain ⟨its,rv,p,hz⟩:=I.tuple hq
  obtain ⟨u,hu,ru⟩:=rv.get hx
  obtain ⟨f0,f1,f2,f3,f4,f5⟩:=hf it (by simp)
  refine wpAny_pyNext_tuple_item st (show s.heap.IsTuple a its.toArray from p) (x:=u) (by simpa using hu) λ h' st' sb=>?_
  have I1:Inv X pins σ H { s with heap:=h' }:=I.turned (t':=s.toks) (λ b o hb e=>(sb.2 b hb).trans e) f0 f1 f3 f4 f5
  obtain ⟨o,e,c,d⟩:=id st'
  exact ⟨u,rfl,ZNX (s:={ s with heap:=h' }) e c d (by decide) ⟨x,H,I1,ru,⟨rfl,λ ys hy=>by rw [I.tuple_inj hy hq]; exact hx⟩,st',λ b hb=>(hf b hb).1⟩⟩
 done:=by
  intro X hP hw hK hc i pins s σ H E I hf st hg
  subst hP hw hK
  obtain ⟨xs,hq,hx⟩:=hg
  obtain ⟨its,rv,p,hz⟩:=I.tuple hq
  obtain ⟨f0,f1,f2,f3,f4,f5⟩:=hf it (by simp)
  have hl:=rv.length
  exact wpAny_pyNext_tuple_end (I.ok.hd hc) st (show s.heap.IsTuple a its.toArray from p) (by simp; omega) λ h' eb=>⟨rfl,I.turned (t':=s.toks) (λ b o hb e=>eb b o hb e) f0 f1 f3 f4 f5⟩
 self:=λ _ _ _ _ _ st h=>wpAny_pyIter_tupleiter st h
theorem ZKH {P:Program} {w:World} {K:PySem.W.Frag} {tg:Expr} (it:Addr) (lo:Int) (n:Nat):Turn P w K tg (Itr lo n) [it] it (λ i h=>IsRangeIter h it (lo+(i:Nat) * 1) ((n:Int) - (i:Nat)) 1) where
 mem:=by simp
 obj:=λ i h st b hb=>by
  have e:b=it:=by simpa using hb
  subst e
  exact ⟨_,st,λ v z=>by
   have z':Data.fields _=Data.cell v:=z
   cases z'⟩
 keep:=λ i h h' st k=>k it (by simp) _ st
 item:=by
  intro X hP hw hK hc i pins s σ H E I hf st hg
  subst hP hw hK
  obtain ⟨f0,f1,f2,f3,f4,f5⟩:=hf it (by simp)
  have W:=Walks.range (prog:=X.prog) (w:=X.w) (I.ok.hd hc) it lo 1 n
  refine W.item i s _ _ hg st λ v h' tk hv st' kk=>?_
  obtain ⟨t,rfl⟩:=hv
  have I1:Inv X pins σ H { s with heap:=h',toks:=tk }:=I.turned (λ b o hb e=>kk b o (by simpa using hb) e) f0 f1 f3 f4 f5
  refine ⟨_,rfl,ZNX (s:={ s with heap:=h',toks:=tk }) (n:="range_iterator") st' rfl rfl (by decide) ⟨.int (lo+i),H,I1,⟨t,?_⟩,⟨rfl,rfl⟩,st',λ b hb=>(hf b hb).1⟩⟩
  rw [Int.mul_one]
 done:=by
  intro X hP hw hK hc i pins s σ H E I hf st hg
  subst hP hw hK
  obtain ⟨f0,f1,f2,f3,f4,f5⟩:=hf it (by simp)
  exact wpAny_pyNext_range_end (I.ok.hd hc) st (by have:n<=i:=hg; omega) λ h' eb=>⟨rfl,I.turned (t':=s.toks) (λ b o hb e=>eb b o hb e) f0 f1 f3 f4 f5⟩
 self:=λ _ _ _ _ _ st h=>wpAny_pyIter_rangeiter st h
end L2
namespace L2
open PySem PySem.Spec PyProof.Rows
section
variable {X:Cx} {tg:Expr}
theorem ZJy {pins:List (Addr × Obj)} {σ : St} {H:Hp} {s:Shared} {R:It->Hp->Prop} {E:Value->Shared->Prop} {lo hi:Int} {t u v:Tok} {tk:Nat} (I:Inv X pins σ H s) (h1 : -(2 ^ 62)<=lo) (h2:lo < 2 ^ 62) (h3 : -(2 ^ 62)<=hi) (h4:hi < 2 ^ 62)
  (q:R (Itr lo (hi - lo).toNat) H):wpAny (model X.prog X.w) X.A (pyIter (.ref s.heap.objs.size)) (PIE X pins σ tg R) E { s with heap:=s.heap.push { cls:=.type "range",data:=.fields #[.int lo t,.int hi u,.int 1 v] },toks:=tk }:=by
 refine wpAny_pyIter_range (IsRange.new ..) (small_one h1 h2 h3 h4) ?_
 have I1:Inv X pins σ H { s with heap:=s.heap.push { cls:=.type "range",data:=.fields #[.int lo t,.int hi u,.int 1 v] },toks:=tk }:=I.kept λ b o e=>Heap.get?_push_of_some _ e
 refine ⟨(s.heap.push { cls:=.type "range",data:=.fields #[.int lo t,.int hi u,.int 1 v] }).objs.size,[(s.heap.push { cls:=.type "range",data:=.fields #[.int lo t,.int hi u,.int 1 v] }).objs.size],_,_,H,rfl,
  I1.kept (t':=tk) λ b o e=>Heap.get?_push_of_some _ e,ZKH _ lo (hi - lo).toNat,?_,λ b hb=>?_,q⟩
 ·have e1:lo+((0:Nat):Int) * 1=lo:=by simp
  have e2:(((hi - lo).toNat:Nat):Int) - ((0:Nat):Int)=Builtin.Range.rangeSize lo hi 1:=by rw [rangeSize_one]; split <;> omega
  show IsRangeIter _ _ (lo+((0:Nat):Int) * 1) ((((hi - lo).toNat:Nat):Int) - ((0:Nat):Int)) 1
  rw [e1,e2]
  exact Heap.get?_push_size _ rfl
 ·have e:b=(s.heap.push { cls:=.type "range",data:=.fields #[.int lo t,.int hi u,.int 1 v] }).objs.size:=by simpa using hb
  subst e
  exact I1.fpOk (Nat.le_refl _) (I1.hok.fresh (Nat.le_refl _))
def iRng1 (ta:TA):TI:=λ σ H R=>ta σ H λ vs H1=>∃ j:Int,vs=[.int j]/\-(2 ^ 62)<=j/\j < 2 ^ 62/\R (Itr 0 j.toNat) H1
def iRng2 (ta:TA):TI:=λ σ H R=>ta σ H λ vs H1=>∃ i j:Int,vs=[.int i,.int j]/\(-(2 ^ 62)<=i/\i < 2 ^ 62/\-(2 ^ 62)<=j/\j < 2 ^ 62)/\R (Itr i (j - i).toNat) H1
theorem ZLg {a:Expr} {ta:TA} {p pos:Pos} (hg:Gl X "range") (hm:X.mg "range" = none) (ha:PA X [a] ta) (hs:starEach [a] X.env=[(false,eval a X.env)]:=by rfl):PI X tg (.Call (.Name "range" p) [a] [] pos) (iRng1 ta):=by
 intro pins s σ H R I h
 refine Call_ (ZFZ I hg hm boot_range (PyProof.Rows.callWith_type1 (thn (ha pos pins s σ H _ I h) λ us s1 ⟨vs,H1,I1,r1,q1⟩=>?_) hs rfl))
 obtain ⟨j,e,q1,q2,q⟩:=q1
 subst e
 cases r1 with
 | cons r rr =>
  cases rr
  obtain ⟨t,rfl⟩:=r
  exact call_range_1 (ZJy I1 (by omega) (by omega) q1 q2 (by simpa using q))
theorem ZMH {a b:Expr} {ta:TA} {p pos:Pos} (hg:Gl X "range") (hm:X.mg "range" = none) (ha:PA X [a,b] ta) (hs:starEach [a,b] X.env=[(false,eval a X.env),(false,eval b X.env)]:=by rfl) (hs2:starEach [b] X.env=[(false,eval b X.env)]:=by rfl) :
  PI X tg (.Call (.Name "range" p) [a,b] [] pos) (iRng2 ta):=by
 intro pins s σ H R I h
 refine Call_ (ZFZ I hg hm boot_range (PyProof.Rows.callWith_type1 (thn (ha pos pins s σ H _ I h) λ us s1 ⟨vs,H1,I1,r1,q1⟩=>?_) (by rw [hs,hs2]) (by rw [hs2]; rfl)))
 obtain ⟨i,j,e,⟨q1,q2,q3,q4⟩,q⟩:=q1
 subst e
 cases r1 with
 | cons r rr =>
  cases rr with
  | cons r' rr =>
   cases rr
   obtain ⟨t,rfl⟩:=r
   obtain ⟨t',rfl⟩:=r'
   exact call_range_2 (ZJy I1 q1 q2 q3 q4 q)
def tFor (wi:TI) (g:TG) (tb:TS):TS:=λ D σ H=>wi σ H λ J H1=>∃ W:Nat->Nat->St->Hp->Prop,(∃ m,W 0 m σ H1)/\∀ i m σ H,W i m σ H ->
 (J.stop i H/\D.nx σ H) ∨ (J.go i H/\∃ N:St->Hp->Prop,(∀ σ' H',N σ' H'->∃ m',m' < m/\W (i+1) m' σ' H')/\∀ x H',J.yld i H x H'->g x σ H' λ σ2 H2=>tb { D with nx:=N,ct:=N,bk:=D.nx } σ2 H2)
def ZFG (fp:List Addr) (h:Heap):List (Addr × Obj):=fp.filterMap λ b=>(h.get? b).map λ o=>(b,o)
theorem ZDL {fp:List Addr} {h:Heap} {b:Addr} {o:Obj} (hb:b ∈ fp) (e:h.get? b=some o):(b,o) ∈ ZFG fp h:=List.mem_filterMap.mpr ⟨b,hb,by rw [e]; rfl⟩
theorem ZLi {fp:List Addr} {h:Heap} {p:Addr × Obj} (hp:p ∈ ZFG fp h):p.1 ∈ fp/\h.get? p.1=some p.2:=by
 obtain ⟨b,hb,e⟩:=List.mem_filterMap.mp hp
 cases q:h.get? b with
 | none=>rw [q] at e; cases e
 | some o =>
  rw [q] at e
  have e':(b,o)=p:=Option.some.inj e
  subst e'
  exact ⟨hb,q⟩
theorem Inv.pinned {pins:List (Addr × Obj)} {σ : St} {H:Hp} {s:Shared} {fp:List Addr} (I:Inv X pins σ H s) (hf:∀ b ∈ fp,ZFw X pins H b) (ho:∀ b ∈ fp,∃ o,s.heap.get? b=some o/\∀ v,o.data ≠ .cell v):Inv X (pins ++ ZFG fp s.heap) σ H s :=
 I.pins_of λ p hp=>(List.mem_append.mp hp).elim (λ z=>I.pin p (List.mem_append_right _ z)) λ z=>by
  obtain ⟨hb,e⟩:=ZLi z
  obtain ⟨f0,f1,f2,_⟩:=hf p.1 hb
  obtain ⟨o,e',d⟩:=ho p.1 hb
  rw [e] at e'; cases e'
  exact ⟨e,f0,f1,f2,d⟩
theorem Inv.unpinned {pins pl:List (Addr × Obj)} {σ : St} {H:Hp} {s:Shared} (I:Inv X (pins ++ pl) σ H s):Inv X pins σ H s:=I.pins_of λ p hp=>I.pin p (List.mem_append_right _ (List.mem_append_left _ hp))
theorem ZQt {iter:Expr} {body:List Stmt} {wi:TI} {g:TG} {tb:TS} {pos:Pos} (hp:PassesOwn (model X.prog X.w) X.A X.env X.xe) (hc:X.calm=true) (hi:PI X tg iter wi) (hg:PG X tg g) (hb:PSs X body tb)
  (hs:∀ x,foldedSetIterable iter X.env x=pure x:=by intro _; rfl):PS X (.For tg iter body [] pos) (tFor wi g tb):=by
 intro pins s σ H D I h
 refine wpAny_For (thn (hi pins s σ H _ I h) λ v s1 h1=>thn h1 λ itv s2 h2=>?_) hs
 obtain ⟨it,fp,tn,J,H2,e,I2,T,st2,f2,W,⟨m0,w0⟩,turn⟩:=h2
 subst e
 -- what stays true of the iterator's objects through the loop
 have stat:∀ {H':Hp},(∀ b ∈ fp,H' b=none)->∀ b ∈ fp,ZFw X pins H' b:=λ hn b hb=>⟨hn b hb,(f2 b hb).2⟩
 refine codeAny_forLoop_any (λ n s'=>∃ i σ' H',Inv X pins σ' H' s'/\tn i s'.heap/\(∀ b ∈ fp,H' b=none)/\W i n σ' H') ?_ m0 ⟨0,σ,H2,I2,st2,λ b hb=>(f2 b hb).1,w0⟩
 rintro n s3 ⟨i,σ3,H3,I3,st3,fr3,w3⟩
 rcases turn i n σ3 H3 w3 with ⟨stop,qn⟩ | ⟨go,N,hN,step⟩
 ·refine wpAny_passesOwn hp (thn (T.done X rfl rfl rfl hc i pins s3 σ3 H3 X.xe I3 (stat fr3) st3 stop) λ r s4 ⟨hr,I4⟩=>?_)
  subst hr
  exact wpAny_execs_nil ⟨σ3,H3,I4,qn⟩
 ·refine wpAny_passesOwn hp (thn (T.item X rfl rfl rfl hc i pins s3 σ3 H3 X.xe I3 (stat fr3) st3 go) λ r s4 ⟨u,hr,h4⟩=>?_)
  subst hr
  refine wpAny_passesOwn hp (thn h4 λ _ s5 ⟨x,H5,I5,r5,y5,st5,fr5⟩=>?_)
  have I5':=I5.pinned (stat fr5) (T.obj _ _ st5)
  refine wpAny_passesOwn hp (thn (hg _ s5 σ3 H5 x u _ I5' r5 (step x H5 y5)) λ _ s6 ⟨σ6,H6,I6,q6⟩=>?_)
  refine wpAny_passesOwn hp (thn (hb _ s6 σ6 H6 _ I6 q6) λ f s7 q7=>?_)
  have again:∀ {σ7:St} {H7:Hp},Inv X (pins ++ ZFG fp s5.heap) σ7 H7 s7->N σ7 H7->∃ m,m < n/\∃ i σ' H',Inv X pins σ' H' s7/\tn i s7.heap/\(∀ b ∈ fp,H' b=none)/\W i m σ' H':=λ {σ7 H7} I7 n7=>by
   obtain ⟨m',hm,w7⟩:=hN σ7 H7 n7
   refine ⟨m',hm,i+1,σ7,H7,I7.unpinned,T.keep _ _ _ st5 λ b hb o e=>(I7.pin (b,o) (List.mem_append_right _ (List.mem_append_right _ (ZDL hb e)))).1,λ b hb=>?_,w7⟩
   obtain ⟨o,e,d⟩:=T.obj _ _ st5 b hb
   exact (I7.pin (b,o) (List.mem_append_right _ (List.mem_append_right _ (ZDL hb e)))).2.1
  cases f with
  | next=>obtain ⟨σ7,H7,I7,n7⟩:=q7; exact again I7 n7
  | cont=>obtain ⟨σ7,H7,I7,n7⟩:=q7; exact again I7 n7
  | brk=>obtain ⟨σ7,H7,I7,q7⟩:=q7; exact ⟨σ7,H7,I7.unpinned,q7⟩
  | ret v=>obtain ⟨x7,σ7,H7,I7,r7,q7⟩:=q7; exact ⟨x7,σ7,H7,I7.unpinned,r7,q7⟩
end
end L2
namespace L2
open PySem PySem.Spec PyProof.Rows
abbrev R2:=V->V->Hp->VK->Prop
def OpR (X:Cx) (f:Value->Value->Sem Value) (r:R2):Prop :=
 ∀ (pins:List (Addr × Obj)) (s:Shared) (σ : St) (H:Hp) (x y:V) (v u:Value) (Q:VK),Inv X pins σ H s->ZAD x v->ZAD y u->r x y H Q ->
  wpAny (model X.prog X.w) X.A (f v u) (EP X pins σ Q) X.xe s
def Z3 (X:Cx) (f:Value) (r:List V->Hp->VK->Prop):Prop :=
 ∀ (pins:List (Addr × Obj)) (s:Shared) (σ : St) (H:Hp) (xs:List V) (us:List Value) (Q:VK),Inv X pins σ H s->Zs xs us->r xs H Q ->
  wpAny (model X.prog X.w) X.A (call f us) (EP X pins σ Q) X.xe s
def tOp (r:R2) (ta tb:TE):TE:=λ σ H Q=>ta σ H λ x H1=>tb σ H1 λ y H2=>r x y H2 Q
def rI (C:Int->Int->Prop) (g:Int->Int->V):R2:=λ x y H Q=>∃ i j,x=.int i/\y=.int j/\C i j/\Q (g i j) H
def rI0 (g:Int->Int->V):R2:=λ x y H Q=>∃ i j,x=.int i/\y=.int j/\Q (g i j) H
section
variable {X:Cx} {a b c:Expr} {ta tb tc:TE} {pos:Pos}
theorem ZRM (ha:PE X a ta) (hb:PE X b tb) {pins:List (Addr × Obj)} {s:Shared} {σ : St} {H:Hp} {R:V->V->Hp->Prop} (I:Inv X pins σ H s)
  (h:ta σ H λ x H1=>tb σ H1 λ y H2=>R x y H2) {Q:Value->Shared->Prop} {f:Value->Value->Sem Value}
  (hf:∀ v u s2 x y H2,Inv X pins σ H2 s2->ZAD x v->ZAD y u->R x y H2->wpAny (model X.prog X.w) X.A (f v u) Q X.xe s2) :
  wpAny (model X.prog X.w) X.A (eval a X.env) (λ v s₁=>wpAny (model X.prog X.w) X.A (eval b X.env) (λ u s₂=>wpAny (model X.prog X.w) X.A (f v u) Q X.xe s₂) X.xe s₁) X.xe s:=by
 refine thn (ha pins s σ H _ I h) λ v s1 ⟨x,H1,I1,r1,q1⟩=>?_
 refine thn (hb pins s1 σ H1 _ I1 q1) λ u s2 ⟨y,H2,I2,r2,q2⟩=>?_
 exact hf v u s2 x y H2 I2 r1 r2 q2
theorem ZP2 {op:Operator} {r:R2} (ho:OpR X (binaryOp op) r) (ha:PE X a ta) (hb:PE X b tb):PE X (.BinOp a op b pos) (tOp r ta tb):=by
 intro pins s σ H Q I h
 exact wpAny_BinOp (ZRM ha hb I h λ v u s2 x y H2 I2 rx ry q=>ho pins s2 σ H2 x y v u Q I2 rx ry q)
theorem opI {f:Value->Value->Sem Value} {C:Int->Int->Prop} {g:Int->Int->Int}
  (rule:∀ (i j:Int) (t u:Tok) (s:Shared) (Q:Value->Shared->Prop) (E:Value->Shared->Prop),C i j->Q (.int (g i j) s.toks) { s with toks:=s.toks+1 }->wpAny (model X.prog X.w) X.A (f (.int i t) (.int j u)) Q E s) :
  OpR X f (rI C λ i j=>.int (g i j)):=by
 intro pins s σ H x y v u Q I rx ry h
 obtain ⟨i,j,rfl,rfl,hc,q⟩:=h
 obtain ⟨t,rfl⟩:=rx
 obtain ⟨t',rfl⟩:=ry
 exact rule i j t t' s _ _ hc ⟨.int (g i j),H,I.tok _,⟨_,rfl⟩,q⟩
theorem ZSG {f:Value->Value->Sem Value} {g:Int->Int->Int}
  (rule:∀ (i j:Int) (t u:Tok) (s:Shared) (Q:Value->Shared->Prop) (E:Value->Shared->Prop),Q (.int (g i j) s.toks) { s with toks:=s.toks+1 }->wpAny (model X.prog X.w) X.A (f (.int i t) (.int j u)) Q E s) :
  OpR X f (rI0 λ i j=>.int (g i j)):=by
 intro pins s σ H x y v u Q I rx ry h
 obtain ⟨i,j,rfl,rfl,q⟩:=h
 obtain ⟨t,rfl⟩:=rx
 obtain ⟨t',rfl⟩:=ry
 exact rule i j t t' s _ _ ⟨.int (g i j),H,I.tok _,⟨_,rfl⟩,q⟩
theorem ZPF {f:Value->Value->Sem Value} {g:Int->Int->Bool}
  (rule:∀ (i j:Int) (t u:Tok) (s:Shared) (Q:Value->Shared->Prop) (E:Value->Shared->Prop),Q (.bool (g i j)) s->wpAny (model X.prog X.w) X.A (f (.int i t) (.int j u)) Q E s) :
  OpR X f (rI0 λ i j=>.bl (g i j)):=by
 intro pins s σ H x y v u Q I rx ry h
 obtain ⟨i,j,rfl,rfl,q⟩:=h
 obtain ⟨t,rfl⟩:=rx
 obtain ⟨t',rfl⟩:=ry
 exact rule i j t t' s _ _ ⟨.bl (g i j),H,I,rfl,q⟩
def ZSH (i j:Int):Prop:=0<=j/\j<=1000000/\i.natAbs < 2 ^ 64
def ZO4 (i j:Int):Prop:=(-(2 ^ 64) < i/\i < 2 ^ 64) ∨ (-(2 ^ 64) < j/\j < 2 ^ 64)
theorem ZO4.ok {i j:Int} (h:ZO4 i j):IntMulOk i j:=by
 rcases h with ⟨h1,h2⟩ | ⟨h1,h2⟩
 ·exact .of_left (intBits_le_64 h1 h2)
 ·exact .of_right (intBits_le_64 h1 h2)
theorem ZRh:OpR X (binaryOp .Add) (rI0 λ i j=>.int (i+j)):=ZSG λ _ _ _ _ _ _ _ q=>add_int q
theorem ZR5:OpR X (binaryOp .Sub) (rI0 λ i j=>.int (i - j)):=ZSG λ _ _ _ _ _ _ _ q=>sub_int q
theorem ZQ8:OpR X (binaryOp .Mult) (rI ZO4 λ i j=>.int (i * j)):=opI λ _ _ _ _ _ _ _ hc q=>mul_int q hc.ok
theorem ZQH:OpR X (binaryOp .Mod) (rI (λ _ j=>0 < j) λ i j=>.int (i % j)):=opI λ i j _ _ _ _ _ hc q=>by
 have h1:(0:Int) < j:=hc
 exact mod_int' (by omega) (by rw [Int.fmod_eq_emod_of_nonneg i (by omega)]; exact q)
theorem ZQ9:OpR X (binaryOp .Pow) (rI ZSH λ i j=>.int (i ^ j.toNat)):=opI λ _ _ _ _ _ _ _ hc q=>pow_int_small hc.1 hc.2.1 hc.2.2 q
end
section
variable {X:Cx} {a b c:Expr} {ta tb tc:TE} {pos:Pos}
theorem ZRi {pins:List (Addr × Obj)} {σ : St} {H:Hp} {s:Shared} {Q:VK} {k k':Bool} (I:Inv X pins σ H s) (q:Q (.bl k) H) (e:k=k'):EP X pins σ Q (.bool k') s:=by
 subst e
 exact ⟨.bl k,H,I,rfl,q⟩
theorem op_lt:OpR X (compareOp .Lt) (rI0 λ i j=>.bl (decide (i < j))):=ZPF λ _ _ _ _ _ _ _ q=>lt_int q
theorem op_le:OpR X (compareOp .LtE) (rI0 λ i j=>.bl (decide (i<=j))):=ZPF λ _ _ _ _ _ _ _ q=>le_int q
theorem op_gt:OpR X (compareOp .Gt) (rI0 λ i j=>.bl (decide (j < i))):=ZPF λ _ _ _ _ _ _ _ q=>gt_int q
theorem op_ge:OpR X (compareOp .GtE) (rI0 λ i j=>.bl (decide (j<=i))):=ZPF λ _ _ _ _ _ _ _ q=>ge_int q
theorem ZLl:OpR X (compareOp .Lt) (λ x y H Q=>∃ i j,x=.str i/\y=.str j/\Q (.bl (decide (i.cps.toList < j.cps.toList))) H):=by
 intro pins s σ H x y v u Q I rx ry h
 obtain ⟨i,j,rfl,rfl,q⟩:=h
 obtain ⟨t,rfl⟩:=rx
 obtain ⟨t',rfl⟩:=ry
 exact lt_str (ZRi I q rfl)
theorem Za (b:Expr) {op:CmpOp} (h:op ≠ .In:=by decide) (h2:op ≠ .NotIn:=by decide):behindInMarks op b=false:=by
 have e1:(op == CmpOp.In)=false:=by cases op <;> first | rfl | exact absurd rfl h
 have e2:(op == CmpOp.NotIn)=false:=by cases op <;> first | rfl | exact absurd rfl h2
 cases b <;> simp [behindInMarks,e1,e2]
theorem ZOL {op:CmpOp} {r:R2} (ho:OpR X (compareOp op) r) (ha:PE X a ta) (hb:PE X b tb) (hm:behindInMarks op b=false):PE X (.Compare a [op] [b] pos) (tOp r ta tb):=by
 intro pins s σ H Q I h
 exact wpAny_Compare1 (ZRM ha hb I h λ v u s2 x y H2 I2 rx ry q=>ho pins s2 σ H2 x y v u Q I2 rx ry q) hm
def ZQC (t:TE):TT:=λ σ H Q=>t σ H λ x H'=>∃ k,x=.bl k/\Q k H'
theorem ZON {op:CmpOp} {r:R2} (ho:OpR X (compareOp op) r) (ha:PE X a ta) (hb:PE X b tb) (hm:behindInMarks op b=false):PT X (.Compare a [op] [b] pos) (ZQC (tOp r ta tb)):=by
 intro pins s σ H Q I h
 refine wpAny_isTrue_Compare1 (thn (ha pins s σ H _ I h) λ v s1 ⟨x,H1,I1,r1,q1⟩=>thn (hb pins s1 σ H1 _ I1 q1) λ u s2 ⟨y,H2,I2,r2,q2⟩ =>
  thn (ho pins s2 σ H2 x y v u _ I2 r1 r2 q2) λ c s3 ⟨z,H3,I3,r3,k,e,q3⟩=>?_) hm
 subst e
 cases r3
 exact wpAny_truthy_bool ⟨H3,I3,q3⟩
def ZNx (r r':R2) (ta tb tc:TE):TE:=λ σ H Q=>ta σ H λ x H1=>tb σ H1 λ y H2=>r x y H2 λ z H3=>∃ k,z=.bl k /\
 (if k=true then tc σ H3 λ w' H4=>r' y w' H4 Q else Q (.bl false) H3)
theorem ZNC {op op':CmpOp} {r r':R2} (ho:OpR X (compareOp op) r) (ho':OpR X (compareOp op') r') (ha:PE X a ta) (hb:PE X b tb) (hc:PE X c tc)
  (hm:lastMarks [op,op'] [b,c]=false:=by with_unfolding_all rfl):PE X (.Compare a [op,op'] [b,c] pos) (ZNx r r' ta tb tc):=by
 intro pins s σ H Q I h
 refine Compare_chain (thn (ha pins s σ H _ I h) λ v s1 ⟨x,H1,I1,r1,q1⟩=>chain_link (thn (hb pins s1 σ H1 _ I1 q1) λ u s2 ⟨y,H2,I2,r2,q2⟩ =>
  thn (ho pins s2 σ H2 x y v u _ I2 r1 r2 q2) λ d s3 ⟨z,H3,I3,r3,k,e,q3⟩=>?_)) hm
 subst e
 cases r3
 refine wpAny_truthy_bool ?_
 cases k with
 | false=>exact ite_ff ⟨.bl false,H3,I3,rfl,q3⟩
 | true=>exact ite_tt (chain_last (thn (hc pins s3 σ H3 _ I3 q3) λ w' s4 ⟨z',H4,I4,r4,q4⟩=>ho' pins s4 σ H4 y z' u w' Q I4 r2 r4 q4))
theorem ZI0:(sizeLine:Nat) < 2 ^ 63:=by rw [sizeLine_eq]; decide
theorem ZKD:OpR X (binaryOp .Add) (λ x y H Q=>∃ i j,x=.str i/\y=.str j/\i.length+j.length<=sizeLine/\Q (.str (i ++ j)) H):=by
 intro pins s σ H x y v u Q I rx ry h
 obtain ⟨i,j,rfl,rfl,hz,q⟩:=h
 obtain ⟨t,rfl⟩:=rx
 obtain ⟨t',rfl⟩:=ry
 exact add_str (λ t' tk=>⟨.str (i ++ j),H,I.tok _,⟨_,rfl⟩,q⟩) hz
theorem ZC9 {x:V} {us:List Value} (r:Zs [x] us):∃ u,us=[u]/\ZAD x u:=by
 cases r with
 | cons r1 r2=>cases r2; exact ⟨_,rfl,r1⟩
theorem ZP7 {x y:V} {us:List Value} (r:Zs [x,y] us):∃ u w',us=[u,w']/\ZAD x u/\ZAD y w':=by
 cases r with
 | cons r1 r2 =>
  cases r2 with
  | cons r3 r4=>cases r4; exact ⟨_,_,rfl,r1,r3⟩
theorem ZNm:Z3 X (.builtin "abs") (λ xs H Q=>∃ i,xs=[.int i]/\Q (.int (if i < 0 then -i else i)) H):=by
 intro pins s σ H xs us Q I r h
 obtain ⟨i,rfl,q⟩:=h
 obtain ⟨u,rfl,t,rfl⟩:=ZC9 r
 exact call_abs_int λ u tk=>⟨.int (if i < 0 then -i else i),H,I.tok _,⟨_,rfl⟩,q⟩
theorem ZMX (hc:X.calm=true):Z3 X (.builtin "min") (λ xs H Q=>∃ i j,xs=[.int i,.int j]/\Q (.int (if j < i then j else i)) H):=by
 intro pins s σ H xs us Q I r h
 obtain ⟨i,j,rfl,q⟩:=h
 obtain ⟨u,w',rfl,⟨t,rfl⟩,⟨t',rfl⟩⟩:=ZP7 r
 refine min_two_ints (I.ok.hd hc) λ h' tk k=>⟨_,H,I.kept k,?_,q⟩
 by_cases hj:j < i
 ·rw [if_pos hj,if_pos hj]; exact ⟨_,rfl⟩
 ·rw [if_neg hj,if_neg hj]; exact ⟨_,rfl⟩
theorem ZMR:Z3 X (.type "int") (λ xs H Q=>(∃ i,xs=[.int i]/\Q (.int i) H) ∨ ∃ k,xs=[.bl k]/\Q (.int (if k then 1 else 0)) H):=by
 intro pins s σ H xs us Q I r h
 rcases h with ⟨i,rfl,q⟩ | ⟨k,rfl,q⟩
 ·obtain ⟨u,rfl,t,rfl⟩:=ZC9 r
  exact call_int_int ⟨.int i,H,I,⟨_,rfl⟩,q⟩
 ·obtain ⟨u,rfl,r1⟩:=ZC9 r
  cases r1
  exact call_int_bool ⟨.int (if k then 1 else 0),H,I.tok _,⟨_,rfl⟩,q⟩
end
end L2
namespace L2
open PySem PySem.Spec PyProof.Rows
structure ObjM (h:Heap) (x dx C:Addr) (mA:Str->Option Value):Prop where
 obj:h.get? x=some (PySem.W.instObj C dx)
 ns:h.Ns1 dx mA
 ne:dx ≠ x
theorem ZL6 {h:Heap} {dx:Addr} {mA:Str->Option Value} (n:h.Ns1 dx mA):∃ od,h.get? dx=some od/\∀ name,PySem.W.lookIn name od=some (mA name):=by
 obtain ⟨o,es,ep,ho,hd,hk,_,hm⟩:=n
 refine ⟨o,ho,λ name=>?_⟩
 have e:=hm name
 unfold nsFind findBy at e
 rw [← Array.find?_toList] at e
 unfold PySem.W.lookIn
 rw [hd]
 dsimp only
 split
 ·rename_i y q
  rw [q] at e
  exact congrArg some e
 ·rename_i q
  rw [q] at e
  have a:es.toList.any (·.refKey)=false:=by
   rw [List.any_eq_false]
   intro y hy
   obtain ⟨z,t,hkey⟩:=hk y (Array.mem_toList_iff.mp hy)
   simp [DictEntry.refKey,hkey]
  have a' : ¬ es.toList.any (·.refKey)=true:=by rw [a]; exact Bool.false_ne_true
  rw [if_neg a']
  exact congrArg some e
theorem ObjM.look {h:Heap} {x dx C:Addr} {mA:Str->Option Value} (I:ObjM h x dx C mA):∃ od,PySem.W.InstAt h x (PySem.W.instObj C dx) C (some od)/\∀ name,PySem.W.lookIn name od=some (mA name) :=
 let ⟨od,ho,hl⟩:=ZL6 I.ns
 ⟨od,⟨I.obj,rfl,rfl,ho⟩,hl⟩
section
variable {prog:Program} {w:World} {A:Around} {E:Value->Shared->Prop} {s:Shared} {K:PySem.W.Frag} {x dx C f:Addr} {mA:Str->Option Value} {name:Str} {v:Value}
theorem ZOQ {expr:Bool} {Q:Value->Shared->Prop} (X:K.In s.heap) (I:ObjM s.heap x dx C mA) (hg:PySem.W.plainGet K C name=true) (hh:PySem.W.hasDictIn K C=true)
  (ha:PySem.W.findIn K (.ref C) name=some none) (hv:mA name=some v) (hv':PySem.W.handedIn v=true) (h:Q v { s with toks:=s.toks+1 }) :
  wpAny (model prog w) A (getAttr (.ref x) name expr) Q E s:=by
 obtain ⟨od,J,hl⟩:=I.look
 exact PySem.W.get_value X J (PySem.W.plainGet_of hg).1 (PySem.W.findObj_own hh ha rfl (by rw [hl,hv])) hv' h
theorem ZMj {pl:Sem Bool} {Q:Value × List Value->Shared->Prop} (X:K.In s.heap) (I:ObjM s.heap x dx C mA) (hg:PySem.W.plainGet K C name=true)
  (hf:PySem.W.findIn K (.ref C) name=some (some (.ref f))) (ht:PySem.W.isFn K (.ref f)=true) (hv:mA name=none) (h:Q (.ref f,[.ref x]) s) :
  wpAny (model prog w) A (getMethod (.ref x) name pl) Q E s:=by
 obtain ⟨od,J,hl⟩:=I.look
 exact PySem.W.method_fn X J (PySem.W.plainGet_of hg).1 (PySem.W.plainGet_of hg).2 hf (beq_iff_eq.mp ht) (by show (PySem.W.lookIn name od).map (·.isSome)=some false; rw [hl,hv]; rfl) h
theorem ZOt {ns:List Str} {Q:Unit->Shared->Prop} (X:K.In s.heap) (I:ObjM s.heap x dx C mA)
  (hs:PySem.W.findIn K (.ref C) "__setattr__" = some (some (.builtin "object.__setattr__"))) (hp:PySem.W.plainOver K C=true) (ht:PySem.W.takerIn K C name=some none) (hh:PySem.W.hasDictIn K C=true)
  (hw:PySem.Within mA ns) (hsz:ns.length<=sizeLine)
  (h:∀ h',ObjM h' x dx C (λ y=>if y=name then some v else mA y)->Heap.SameBut dx s.heap h'->Q () { s with heap:=h',toks:=s.toks+2 }) :
  wpAny (model prog w) A (setAttr (.ref x) name v) Q E s:=by
 obtain ⟨od,J,hl⟩:=I.look
 refine PySem.W.set_plain X J hs (PySem.W.osa_open (s:={ s with toks:=s.toks+1 }) (r:=none) X J hp ht λ b=>?_)
 obtain ⟨cd,hc,hd'⟩:=PySem.W.any_some hh
 have hx:s.heap.get? x=some ⟨.ref C,some dx,.plain,#[]⟩:=I.obj
 refine wpAny_bind (wpAny_pure (wpAny_bind (wpAny_bind (wpAny_loadPart hx (wpAny_bind (PySem.W.Looks.here (s:={ s with toks:=s.toks+1 }) (PySem.W.looks_clsIn X hc) ?_))))))
 rw [hd']
 refine wpAny_pure (a:=some dx) (wpAny_bind (wpAny_pure (wpAny_bind ?_)))
 refine wpAny_nsSet1 (s:={ s with toks:=s.toks+1 }) I.ns λ h' hn2 hs2=>?_
 obtain ⟨oD,esD,epD,hoD,hdD,hcD⟩:=hn2.count (PySem.Within.cons name v hw)
 refine wpAny_bind (wpAny_lookBehind hoD (by rw [hdD]; exact pastItsLine_dict (Nat.le_trans hcD (by rw [List.length_cons]; omega))) ?_)
 exact wpAny_pure (h _ ⟨(hs2.2 _ (Ne.symm I.ne)).trans I.obj,hn2,I.ne⟩ hs2)
theorem ZNK {R:Result->Shared->Prop} {vs:List Value} {kw:List (Str × Value)} (X:K.In s.heap) (hm:PySem.W.makesIn K C=true)
  (hi:PySem.W.findIn K (.ref C) "__init__" = some (some (.ref f))) (hf:PySem.W.typeIn K (.ref f)=some (.type "function"))
  (h:codeAny (model prog w) (A.under (.builtin "type.__call__" ⟨.ref C :: vs,kw⟩)) (.call (.ref f) ⟨.ref (s.heap.objs.size+1) :: vs,kw⟩) (PySem.W.InitBack (s.heap.objs.size+1) R)
   { s with heap:=(s.heap.push PySem.W.emptyDict).push (PySem.W.instObj C s.heap.objs.size) }) :
  codeAny (model prog w) A (.call (.ref C) ⟨vs,kw⟩) R s:=by
 obtain ⟨hh,g,d,t,os⟩:=s
 exact PySem.W.make_core (PySem.W.makes_of X hm) (PySem.W.looks_findIn X hi) (λ self=>PySem.W.bind_fn X self hf) (.inl rfl) h
end
def ZDC (f:Str) (v:V):List (Str × V)->List (Str × V)
 | []=>[(f,v)]
 | (g,x) :: r=>if g=f then (g,v) :: r else (g,x) :: ZDC f v r
theorem ZFq (f g:Str) (v:V):∀ fs:List (Str × V),(ZDC f v fs).lookup g=if g=f then some v else fs.lookup g
 | []=>by
  show List.lookup g [(f,v)]=_
  by_cases h:g=f
  ·have hb:(g == f)=true:=beq_iff_eq.mpr h
   simp only [List.lookup,hb,if_pos h]
  ·have hb:(g == f)=false:=beq_eq_false_iff_ne.mpr h
   simp only [List.lookup,hb,if_neg h]
 | (k,x) :: r=>by
  have ih:=ZFq f g v r
  rw [show ZDC f v ((k,x) :: r)=(if k=f then (k,v) :: r else (k,x) :: ZDC f v r) from rfl]
  by_cases hk:k=f
  ·rw [if_pos hk]
   by_cases h:g=k
   ·have hb:(g == k)=true:=beq_iff_eq.mpr h
    simp only [List.lookup,hb,if_pos (h.trans hk)]
   ·have hb:(g == k)=false:=beq_eq_false_iff_ne.mpr h
    simp only [List.lookup,hb,if_neg (λ e:g=f=>h (e.trans hk.symm))]
  ·rw [if_neg hk]
   by_cases h:g=k
   ·have hb:(g == k)=true:=beq_iff_eq.mpr h
    simp only [List.lookup,hb,if_neg (λ e:g=f=>hk (h.symm.trans e))]
   ·have hb:(g == k)=false:=beq_eq_false_iff_ne.mpr h
    simp only [List.lookup,hb]
    exact ih
theorem ZFN (f:Str) (v:V):∀ fs:List (Str × V),f ∈ (ZDC f v fs).map (·.1)/\∀ g,g ∈ fs.map (·.1)->g ∈ (ZDC f v fs).map (·.1)
 | []=>⟨by simp [ZDC],λ g h=>by simp at h⟩
 | (k,x) :: r=>by
  obtain ⟨i1,i2⟩:=ZFN f v r
  rw [show ZDC f v ((k,x) :: r)=(if k=f then (k,v) :: r else (k,x) :: ZDC f v r) from rfl]
  by_cases hk:k=f
  ·rw [if_pos hk]
   subst hk
   exact ⟨by simp,λ g h=>by simpa using h⟩
  ·rw [if_neg hk]
   refine ⟨?_,λ g h=>?_⟩
   ·rw [List.map_cons]
    exact List.mem_cons_of_mem _ i1
   ·rw [List.map_cons] at h ⊢
    rcases List.mem_cons.mp h with e | e
    ·exact List.mem_cons.mpr (.inl e)
    ·exact List.mem_cons_of_mem _ (i2 g e)
theorem ZFm (f:Str) (v:V):∀ fs:List (Str × V),(ZDC f v fs).length<=fs.length+1
 | []=>by simp [ZDC]
 | (k,x) :: r=>by
  have ih:=ZFm f v r
  rw [show ZDC f v ((k,x) :: r)=(if k=f then (k,v) :: r else (k,x) :: ZDC f v r) from rfl]
  by_cases hk:k=f
  ·rw [if_pos hk,List.length_cons,List.length_cons]; omega
  ·rw [if_neg hk,List.length_cons,List.length_cons]; omega
theorem ZHB.some_of {v:V} {o:Option Value} (r:ZHB (some v) o):∃ u,o=some u/\ZAD v u:=by
 cases o with
 | none=>exact (show False from r).elim
 | some u=>exact ⟨u,rfl,r⟩
theorem ZHB.none_of {o:Option Value} (r:ZHB none o):o=none:=by
 cases o with
 | none=>rfl
 | some u=>exact (show False from r).elim
theorem ZLj {v:V} {u:Value} (r:ZAD v u):PySem.W.handedIn u=true:=by
 cases v with
 | non=>cases (show u=Value.none from r); rfl
 | bl b=>cases (show u=Value.bool b from r); rfl
 | int i=>obtain ⟨t,e⟩:=(show ∃ t,u=Value.int i t from r); cases e; rfl
 | str x=>obtain ⟨t,e⟩:=(show ∃ t,u=Value.str x t from r); cases e; rfl
 | byt b=>obtain ⟨t,e⟩:=(show ∃ t,u=Value.bytes b t from r); cases e; rfl
 | flt b=>obtain ⟨t,e⟩:=(show ∃ t,u=Value.float b t from r); cases e; rfl
 | ref a=>cases (show u=Value.ref a from r); rfl
 | ty n=>cases (show u=Value.type n from r); rfl
section
variable {P:Program} {w:World} {H H':Hp} {h h':Heap} {a C dx:Addr} {fs fs':List (Str × V)}
theorem ZIe (hok:HOk P w H h) (e:H a=some (.ins C dx fs)):∃ mA,ObjM h a dx C mA/\(∀ f,ZHB (fs.lookup f) (mA f))/\PySem.Within mA (fs.map (·.1))/\fs.length<=1000/\H dx=some (.own a):=by
 obtain ⟨d,z,ne,ob,mA,n,r,q⟩:=(show ZBw P w H h a (.ins C dx fs) from hok a _ e)
 exact ⟨mA,⟨ob,n,ne⟩,r,q,z,d⟩
end
structure Cls (K:PySem.W.Frag) (C:Addr):Prop where
 pg:PySem.W.plainGet K C Str.empty=true
 hd:PySem.W.hasDictIn K C=true
 po:PySem.W.plainOver K C=true
 sa:PySem.W.findIn K (.ref C) "__setattr__" = some (some (.builtin "object.__setattr__"))
theorem Cls.get {K:PySem.W.Frag} {C:Addr} (c:Cls K C) (f:Str):PySem.W.plainGet K C f=true:=c.pg
def ZDs (K:PySem.W.Frag) (C:Addr) (f:Str):Prop:=PySem.W.findIn K (.ref C) f=some none
theorem ZDs.taker {K:PySem.W.Frag} {C:Addr} {f:Str} (n:ZDs K C f):PySem.W.takerIn K C f=some none:=by
 unfold PySem.W.takerIn
 rw [show PySem.W.findIn K (.ref C) f=some none from n]
 rfl
structure Meth (K:PySem.W.Frag) (C:Addr) (m:Str) (f:Addr):Prop where
 at_:PySem.W.findIn K (.ref C) m=some (some (.ref f))
 fn:PySem.W.isFn K (.ref f)=true
 kp:PySem.W.keepIn K (.ref f)=true
section
variable {X:Cx} {pins:List (Addr × Obj)} {σ : St} {H:Hp} {s:Shared} {a C dx:Addr} {fs:List (Str × V)} {f:Str} {v:V} {A:Around} {E:Value->Shared->Prop}
theorem ZKj {b:Bool} {Q:Value->Shared->Prop} (I:Inv X pins σ H s) (e:H a=some (.ins C dx fs)) (c:Cls X.K C) (n:ZDs X.K C f) (l:fs.lookup f=some v)
  (h:∀ u s',Inv X pins σ H s'->ZAD v u->Q u s'):wpAny (model X.prog X.w) A (getAttr (.ref a) f b) Q E s:=by
 obtain ⟨mA,O,r,_,_,_⟩:=ZIe I.hok e
 obtain ⟨u,hu,ru⟩:=ZHB.some_of (v:=v) (o:=mA f) (by rw [← l]; exact r f)
 exact ZOQ I.kIn O (c.get f) c.hd n hu (ZLj ru) (h u _ (I.tok _) ru)
theorem ZKr {m:Str} {g:Addr} {pl:Sem Bool} {Q:Value × List Value->Shared->Prop} (I:Inv X pins σ H s) (e:H a=some (.ins C dx fs)) (c:Cls X.K C) (k:Meth X.K C m g) (l:fs.lookup m=none)
  (h:Q (.ref g,[.ref a]) s):wpAny (model X.prog X.w) A (getMethod (.ref a) m pl) Q E s:=by
 obtain ⟨mA,O,r,_,_,_⟩:=ZIe I.hok e
 have hn:mA m=none:=ZHB.none_of (by rw [← l]; exact r m)
 exact ZMj I.kIn O (c.get m) k.at_ k.fn hn h
theorem ZKq {y:V} {u:Value} {Q:Unit->Shared->Prop} (I:Inv X pins σ H s) (e:H a=some (.ins C dx fs)) (c:Cls X.K C) (n:ZDs X.K C f) (hl:fs.length < 1000) (ry:ZAD y u)
  (h:∀ s',Inv X pins σ (upd H a (.ins C dx (ZDC f y fs))) s'->Q () s'):wpAny (model X.prog X.w) A (setAttr (.ref a) f u) Q E s:=by
 obtain ⟨mA,O,r,wi,_,ho⟩:=ZIe I.hok e
 have hz:(fs.map (·.1)).length<=sizeLine:=by rw [List.length_map,sizeLine_eq]; omega
 refine ZOt I.kIn O c.sa c.po n.taker c.hd wi hz λ h' O' sb=>h _ ?_
 have hd:∃ o,h'.get? dx=some o:=let ⟨o,_,_,e',_⟩:=O'.ns; ⟨o,e'⟩
 refine I.write (x:=a) (e:=dx) (by rw [e]; exact True.intro) (.inr ho) (λ b q hb z=>(sb.2 b hb).trans z) hd ?_
 refine ⟨by rw [Zg O.ne]; exact ho,?_,O.ne,O'.obj,_,O'.ns,λ g=>?_,λ g hg=>?_⟩
 ·have:=ZFm f y fs; omega
 ·show ZHB ((ZDC f y fs).lookup g) (if g=f then some u else mA g)
  rw [ZFq]
  by_cases q:g=f
  ·rw [if_pos q,if_pos q]; exact ry
  ·rw [if_neg q,if_neg q]; exact r g
 ·by_cases q:g=f
  ·rw [q]; exact (ZFN f y fs).1
  ·refine (ZFN f y fs).2 g (wi g λ z=>hg ?_)
   show (if g=f then some u else mA g)=none
   rw [if_neg q]; exact z
theorem Inv.made (I:Inv X pins σ H s):Inv X pins σ (upd (upd H s.heap.objs.size (.own (s.heap.objs.size+1))) (s.heap.objs.size+1) (.ins C s.heap.objs.size []))
  { s with heap:=(s.heap.push PySem.W.emptyDict).push (PySem.W.instObj C s.heap.objs.size) }:=by
 have e1:(s.heap.push PySem.W.emptyDict).get? s.heap.objs.size=some PySem.W.emptyDict:=Heap.get?_push_size s.heap rfl
 have e2:((s.heap.push PySem.W.emptyDict).push (PySem.W.instObj C s.heap.objs.size)).get? (s.heap.objs.size+1)=some (PySem.W.instObj C s.heap.objs.size):=by
  have:=Heap.get?_push_size (s.heap.push PySem.W.emptyDict) (o:=PySem.W.instObj C s.heap.objs.size) rfl
  rwa [Heap.size_push] at this
 have e3:(s.heap.push PySem.W.emptyDict).Ns s.heap.objs.size (λ _=>none):=⟨PySem.W.emptyDict,#[],_,e1,rfl,(λ e he=>absurd he (by simp)),λ _=>rfl⟩
 have I1:=I.laid (a:=s.heap.objs.size) (o:=.own (s.heap.objs.size+1)) (h':=s.heap.push PySem.W.emptyDict) (t':=s.toks) (λ b u q=>Heap.get?_push_of_some _ q) (Nat.le_refl _) ⟨_,e1⟩
 refine I1.laid (a:=s.heap.objs.size+1) (o:=.ins C s.heap.objs.size []) (t':=s.toks) (λ b u q=>Heap.get?_push_of_some _ q) (Nat.le_of_eq (Heap.size_push _ _)) ?_
 have ne:s.heap.objs.size ≠ s.heap.objs.size+1:=Nat.ne_of_lt (Nat.lt_succ_self _)
 refine ⟨by rw [Zg ne,Zt],Nat.zero_le _,ne,e2,λ _=>none,(Heap.Ns1.of_empty e3).at λ o q=>Heap.get?_push_of_some _ q,λ _=>True.intro,λ y hy=>absurd rfl hy⟩
theorem ZPO {prog:Program} {w:World} {env:Env} {e:Expr} {f:Str} {pos:Pos} {s:Shared} {Q:Value->Shared->Prop} (hb:attributeBase e f env (eval e env)=eval e env)
  (h:wpAny (model prog w) A (eval e env) (λ o s₁=>wpAny (model prog w) A (getAttr o f true) Q E s₁) E s):wpAny (model prog w) A (eval (.Attribute e f pos) env) Q E s :=
 Attribute_any_ h (by rw [arm_eval_Attribute,hb])
end
def tFld (K:PySem.W.Frag) (ta:TE) (f:Str):TE:=λ σ H Q=>ta σ H λ x H1=>∃ a C dx fs v,x=.ref a/\H1 a=some (.ins C dx fs)/\Cls K C/\ZDs K C f/\fs.lookup f=some v/\Q v H1
def sFld (K:PySem.W.Frag) (ta tv:TE) (f:Str):TS:=λ D σ H=>tv σ H λ y H1=>ta σ H1 λ x H2=>∃ a C dx fs,x=.ref a/\H2 a=some (.ins C dx fs)/\Cls K C/\ZDs K C f/\fs.length < 1000 /\
 D.nx σ (upd H2 a (.ins C dx (ZDC f y fs)))
section
variable {X:Cx} {o e value:Expr} {f:Str} {pos pos' tpos:Pos} {ta tv:TE}
theorem ZRZ (he:PE X e ta) (hb:attributeBase e f X.env (eval e X.env)=eval e X.env):PE X (.Attribute e f pos) (tFld X.K ta f):=by
 intro pins s σ H Q I h
 refine ZPO hb (thn (he pins s σ H _ I h) λ u s1 ⟨x,H1,I1,rx,a,C,dx,fs,v,ex,ea,c,n,l,q⟩=>?_)
 subst ex
 obtain rfl:u=Value.ref a:=rx
 exact ZKj I1 ea c n l λ u' s2 I2 ru=>⟨v,H1,I2,ru,q⟩
theorem ZQK (ha:PE X o ta) (hv:PE X value tv) (hs:swapsWith value (some (.Attribute o f pos')) pos.line X.env=pure false):PS X (.Assign [.Attribute o f pos'] value pos) (sFld X.K ta tv f):=by
 intro pins s σ H D I h
 refine plainObj_wpAny_Assign_Attribute (thn (hv pins s σ H _ I h) λ u s1 ⟨y,H1,I1,ry,q⟩=>thn (ha pins s1 σ H1 _ I1 q) λ ov s2 ⟨x,H2,I2,rx,a,C,dx,fs,ex,ea,c,n,l,q2⟩=>?_) hs
 subst ex
 obtain rfl:ov=Value.ref a:=rx
 exact ZKq I2 ea c n l ry λ s3 I3=>⟨σ,_,I3,q2⟩
end
section
variable {X:Cx} {pins:List (Addr × Obj)} {σ : St} {H:Hp} {s:Shared} {A:Around} {E:Value->Shared->Prop} {Q:Value->Shared->Prop} {c:Value} {b:Bool}
end
end L2
namespace L2
open PySem PySem.Spec PyProof.Rows
structure Room (k:Nat) (A:Around):Prop where
 hd:A.handled=none
 dp:A.depth+3 * k+5 < recursionLimit
 un:A.units+16 * k+200 < cLine
 gd:A.guards=some []
theorem Room.mono {j k:Nat} {A:Around} (r:Room k A) (h:j<=k):Room j A:=⟨r.hd,by have:=r.dp; omega,by have:=r.un; omega,r.gd⟩
theorem Room.deeper {k:Nat} {A:Around} (r:Room (k+1) A) (env:Env):Room k (A.deeper env) :=
 ⟨r.hd,by have:=r.dp; show A.depth+1+3 * k+5 < _; omega,by have:=r.un; show A.units+3+16 * k+200 < _; omega,r.gd⟩
theorem ZKA {A:Around} {C:Addr} {us:List Value} {kw:List (Str × Value)}:(A.under (.builtin "type.__call__" ⟨.ref C :: us,kw⟩)).depth=A.depth+1:=by
 first | rfl | simp [Around.under,Code.weight,Code.isCreation,Code.isGuard,Code.isCaller,Code.frames,Code.isFrame,guardIds]
theorem ZKm {A:Around} {C:Addr} {us:List Value} {kw:List (Str × Value)}:(A.under (.builtin "type.__call__" ⟨.ref C :: us,kw⟩)).units=A.units+1:=by
 first | rfl | simp [Around.under,Code.cUnits,Code.frames,Code.isFrame]
theorem ZJs {A:Around} {C:Addr} {us:List Value} {kw:List (Str × Value)}:(A.under (.builtin "type.__call__" ⟨.ref C :: us,kw⟩)).guards=A.guards:=by
 first | rfl | simp [Around.under]
theorem Room.make {k:Nat} {A:Around} (r:Room (k+1) A) (C:Addr) (us:List Value) (kw:List (Str × Value)):Room k (A.under (.builtin "type.__call__" ⟨.ref C :: us,kw⟩)) :=
 ⟨r.hd,by have:=r.dp; rw [ZKA]; omega,by have:=r.un; rw [ZKm]; omega,ZJs.trans r.gd⟩
theorem Room.depth {k:Nat} {A:Around} (r:Room k A):A.depth < recursionLimit:=by have:=r.dp; omega
theorem Room.units {k:Nat} {A:Around} (r:Room k A):A.units+64 < cLine:=by have:=r.un; omega
def tNil:TA:=λ _ H Q=>Q [] H
def tCons (ta:TE) (tr:TA):TA:=λ σ H Q=>ta σ H λ x H1=>tr σ H1 λ xs H2=>Q (x :: xs) H2
section
variable {X:Cx} {e:Expr} {es:List Expr} {te:TE} {t:TA} {pos:Pos}
theorem ZKQ:PA X [] tNil:=λ _ _ _ _ H Q I h=>Calls.spliced_nil ⟨[],H,I,.nil,h⟩
theorem ZIL (ha:PE X e te) (hr:PA X es t) (hs:starEach (e :: es) X.env=(false,eval e X.env) :: starEach es X.env:=by rfl):PA X (e :: es) (tCons te t):=by
 intro pos pins s σ H Q I h
 rw [hs]
 show wpAny _ _ (spliced ((false,eval e X.env) :: backTo pos (starEach es X.env))) _ _ s
 refine Calls.spliced_cons (thn (ha pins s σ H _ I h) λ u s1 ⟨x,H1,I1,r1,q1⟩=>?_)
 exact thn (hr pos pins s1 σ H1 _ I1 q1) λ us s2 ⟨xs,H2,I2,r2,q2⟩=>⟨x :: xs,H2,I2,.cons r1 r2,q2⟩
def tTup (t:TA):TE:=λ σ H Q=>t σ H λ xs H1=>xs.length<=sizeLine/\∀ p,H1 p=none->Q (.ref p) (upd H1 p (.tup xs))
def tLst (t:TA):TE:=λ σ H Q=>t σ H λ xs H1=>xs.length<=sizeLine/\∀ p,H1 p=none->Q (.ref p) (upd H1 p (.lst xs))
theorem ZQg {x1} (h:PA X es t):PE X (.Tuple es x1 pos) (tTup t):=by
 intro pins s σ H Q I hq
 refine wpAny_Tuple_spliced (thn (h pos pins s σ H _ I hq) λ us s1 ⟨xs,H1,I1,r,z,q⟩=>⟨by rw [← r.length]; exact z,?_⟩)
 have hf:H1 s1.heap.objs.size=none:=I1.hok.fresh (Nat.le_refl _)
 refine ⟨.ref s1.heap.objs.size,upd H1 s1.heap.objs.size (.tup xs),I1.laid (t':=s1.toks) (λ b u e=>Heap.get?_push_of_some _ e) (Nat.le_refl _) ?_,rfl,q _ hf⟩
 exact ⟨z,us,r,⟨_,Heap.get?_push_size _ rfl,rfl,_,rfl⟩⟩
theorem ZKU (h:PA X es t):PE X (.List es pos) (tLst t):=by
 intro pins s σ H Q I hq
 refine wpAny_List_spliced (thn (h pos pins s σ H _ I hq) λ us s1 ⟨xs,H1,I1,r,z,q⟩=>⟨by rw [← r.length]; exact z,?_⟩)
 have hf:H1 s1.heap.objs.size=none:=I1.hok.fresh (Nat.le_refl _)
 refine ⟨.ref s1.heap.objs.size,upd H1 s1.heap.objs.size (.lst xs),I1.laid (t':=s1.toks) (λ b u e=>Heap.get?_push_of_some _ e) (Nat.le_refl _) ?_,rfl,q _ hf⟩
 exact ⟨z,us,0,r,Heap.get?_push_size _ rfl⟩
end
abbrev Sp:=List V->Hp->VK->XK->Prop
abbrev CXT:=List Env->Hp->Shared->XK->Value->Shared->Prop
structure Env0 (P:Program) (w:World) (K:PySem.W.Frag) (mg:Str->Option Value) (base:Heap) (A:Around) (outer:List Env) (s:Shared) (H:Hp):Prop where
 frames:A.frames=some outer
 mod:Mod K mg base
 bs:∀ b o,base.get? b=some o->s.heap.get? b=some o/\H b=none
 bsz:base.objs.size<=s.heap.objs.size
 funs:s.heap.FunFrames base outer
 frf:∀ b ∈ frs outer,H b=none
 hok:HOk P w H s.heap
 bare:AllBare s.gens
def CE (outer:List Env) (P:Program) (w:World) (H:Hp) (s:Shared) (Q:VK) (u:Value) (s':Shared):Prop :=
 ∃ v H',s'.os=s.os/\AllBare s'.gens/\Un (frs outer) [] H H' s.heap s'.heap/\HOk P w H' s'.heap/\ZAD v u/\Q v H'
def CR (CX:CXT) (outer:List Env) (P:Program) (w:World) (H:Hp) (s:Shared) (Q:VK) (E:XK) (r:Result) (s':Shared):Prop :=
 match r with
 | .ok (.ret u)=>CE outer P w H s Q u s'
 | .ok _=>False
 | .error e=>CX outer H s E e s'
structure FnOk (P:Program) (w:World) (K:PySem.W.Frag) (mg:Str->Option Value) (base:Heap) (CX:CXT) (k:Nat) (f:Addr) (fd:FuncData) (ps:List Str) (sp:Sp):Prop where
 len:∀ vs H Q E,sp vs H Q E->vs.length=ps.length
 run:∀ (A:Around) (outer:List Env) (s:Shared) (H:Hp) (args:Args) (us:List Value) (vs:List V) (Q:VK) (E:XK),Room k A->Env0 P w K mg base A outer s H->BindsTo s fd args (ps.zip us)->Zs vs us->sp vs H Q E ->
  codeAny (model P w) A (.call (.ref f) args) (CR CX outer P w H s Q E) s
theorem FnOk.imp {P:Program} {w:World} {K:PySem.W.Frag} {mg:Str->Option Value} {base:Heap} {CX:CXT} {k:Nat} {f:Addr} {fd:FuncData} {ps:List Str} {sp sp':Sp} (F:FnOk P w K mg base CX k f fd ps sp)
  (h:∀ vs H Q E,sp' vs H Q E->sp vs H Q E):FnOk P w K mg base CX k f fd ps sp' :=
 ⟨λ vs H Q E q=>F.len vs H Q E (h _ _ _ _ q),λ A outer s H args us vs Q E hr he hb hv hs=>F.run A outer s H args us vs Q E hr he hb hv (h _ _ _ _ hs)⟩
theorem Env0.make {P:Program} {w:World} {K:PySem.W.Frag} {mg:Str->Option Value} {base:Heap} {A:Around} {outer:List Env} {s:Shared} {H:Hp} (e:Env0 P w K mg base A outer s H) (C:Addr) (us:List Value) (kw:List (Str × Value)) :
  Env0 P w K mg base (A.under (.builtin "type.__call__" ⟨.ref C :: us,kw⟩)) outer s H:=⟨by first | exact e.frames | (simpa [Around.under,Code.envs,Code.isFrame,pushEnvs] using e.frames),e.mod,e.bs,e.bsz,e.funs,e.frf,e.hok,e.bare⟩
section
variable {X:Cx} {pins:List (Addr × Obj)} {σ : St} {H:Hp} {s s':Shared}
theorem Inv.env0 (I:Inv X pins σ H s):Env0 X.prog X.w X.K X.mg X.base X.A X.stack s H :=
 ⟨I.ok.frames,I.ok.mod,I.bs,Nat.le_trans I.ok.bsz I.sz,I.stack,I.stkFree,I.hok,I.bare⟩
theorem Inv.after {Q:VK} {u:Value} (I:Inv X pins σ H s) (h:CE X.stack X.prog X.w H s Q u s'):EP X pins σ Q u s':=by
 obtain ⟨v,H',os,bare,un,hok,r,q⟩:=h
 obtain ⟨hh,g,d,t,os'⟩:=s'
 obtain rfl:os'=s.os:=os
 exact ⟨v,H',I.call (h':=hh) (g':=g) (d':=d) (t':=t) (ch:=[]) un hok bare (λ b z=>absurd z (by simp)),r,q⟩
end
def ZP3 (sp:Sp) (dvs:List V) (E:XK) (t:TA):TE:=λ σ H Q=>t σ H λ vs H1=>sp (vs ++ dvs) H1 Q E
def tMeth (C:Addr) (m:Str) (sp:Sp) (dvs:List V) (E:XK) (ta:TE) (t:TA):TE:=λ σ H Q=>ta σ H λ x H1=>∃ a dx fs,x=.ref a/\H1 a=some (.ins C dx fs)/\fs.lookup m=none /\
 t σ H1 λ vs H2=>sp (x :: (vs ++ dvs)) H2 Q E
def tMake (C:Addr) (sp:Sp) (dvs:List V) (E:XK) (t:TA):TE:=λ σ H Q=>t σ H λ vs H1=>∀ x dx,H1 x=none->H1 dx=none->dx ≠ x ->
 sp (.ref x :: (vs ++ dvs)) (upd (upd H1 dx (.own x)) x (.ins C dx [])) (λ v H2=>v=.non/\Q (.ref x) H2) E
def ZEL (K:PySem.W.Frag) (fd:FuncData) (ps:List Str) (ds:List Value):Prop :=
 ∀ (s:Shared) (us:List Value),K.In s.heap->(us ++ ds).length=ps.length->BindsTo s fd ⟨us,[]⟩ (ps.zip (us ++ ds))
theorem ZEL.all {K:PySem.W.Frag} {fd:FuncData} {ps:List Str} (h:∀ us:List Value,us.length=ps.length->bindArgs fd ⟨us,[]⟩=pure (ps.zip us)):ZEL K fd ps []:=λ s us _ hl=>by
 rw [List.append_nil] at hl ⊢
 exact .of_eq (h us hl)
def ZFW (CX:CXT) (X:Cx) (E:XK):Prop:=∀ (pins:List (Addr × Obj)) (σ : St) (H:Hp) (s:Shared) (e:Value) (s':Shared),Inv X pins σ H s->CX X.stack H s E e s'->X.xe e s'
section
variable {X:Cx} {CX:CXT} {k:Nat} {f C:Addr} {fd:FuncData} {ps:List Str} {sp:Sp} {dvs:List V} {ds:List Value} {E:XK} {x m:Str} {p pos apos:Pos} {e o:Expr} {es:List Expr} {ta:TE} {t:TA}
theorem ZM9 {pins:List (Addr × Obj)} {σ : St} {H:Hp} {s:Shared} {Q:VK} {us:List Value} {vs:List V} (F:FnOk X.prog X.w X.K X.mg X.base CX k f fd ps sp) (hr:Room k X.A) (hb:ZEL X.K fd ps ds) (hd:Zs dvs ds) (hx:ZFW CX X E)
  (I:Inv X pins σ H s) (r:Zs vs us) (h:sp (vs ++ dvs) H Q E):wpAny (model X.prog X.w) X.A (call (.ref f) us) (EP X pins σ Q) X.xe s:=by
 have r2:Zs (vs ++ dvs) (us ++ ds):=r.append hd
 have hl:(us ++ ds).length=ps.length:=by rw [← r2.length]; exact F.len _ _ _ _ h
 refine wpAny_call (codeAny_mono (F.run X.A X.stack s H ⟨us,[]⟩ (us ++ ds) (vs ++ dvs) Q E hr I.env0 (hb s us I.kIn hl) r2 h) λ r s' hq=>?_)
 cases r with
 | error e=>exact hx pins σ H s e s' I hq
 | ok fl =>
  cases fl with
  | ret u=>exact I.after hq
  | next=>exact False.elim hq
  | brk=>exact False.elim hq
  | cont=>exact False.elim hq
theorem ZOc (F:FnOk X.prog X.w X.K X.mg X.base CX k f fd ps sp) (hr:Room k X.A) (hg:Gl X x) (hm:X.mg x=some (.ref f)) (hk:PySem.W.keepIn X.K (.ref f)=true) (hb:ZEL X.K fd ps ds) (hd:Zs dvs ds) (hx:ZFW CX X E)
  (ha:PA X (e :: es) t) (hdb:(x == ("__debug__" : Str))=false:=by decide) (he:starEach (e :: es) X.env=(false,eval e X.env) :: starEach es X.env:=by rfl) (hpl:(backTo pos (starEach es X.env)).any (·.1)=false:=by rfl) :
  PE X (.Call (.Name x p) (e :: es) [] pos) (ZP3 sp dvs E t):=by
 intro pins s σ H Q I h
 refine wpAny_Call_Name_kw (ZIf I hg hm ?_ hdb)
 refine PySem.W.callWith_K (h₀:=X.base) I.ok.mod.kin hk (thn (ha pos pins s σ H _ I h) λ us s1 ⟨vs,H1,I1,r,q⟩=>⟨I1.kIn,?_⟩) he hpl
 exact ZM9 F hr hb hd hx I1 r q
theorem ZPt {pl:Sem Bool} (he:PE X o ta) (c:Cls X.K C) (hm:Meth X.K C m f) (F:FnOk X.prog X.w X.K X.mg X.base CX k f fd ps sp) (hr:Room k X.A) (hb:ZEL X.K fd ps ds) (hd:Zs dvs ds) (hx:ZFW CX X E) (ha:PA X (e :: es) t)
  (hst:starEach (e :: es) X.env=(false,eval e X.env) :: starEach es X.env:=by rfl) (hpl:(backTo pos (starEach es X.env)).any (·.1)=false:=by rfl)
  (ht:eval (.Call (.Attribute o m apos) (e :: es) [] pos) X.env=(do
   let ov ← eval o X.env
   standAt apos.atName
   let (f,first) ← holding [ov] (getMethod ov m pl)
   callWith pos f first (backTo pos (starEach (e :: es) X.env)) (backToKw pos (keywordEach [] X.env))):=by rfl) :
  PE X (.Call (.Attribute o m apos) (e :: es) [] pos) (tMeth C m sp dvs E ta t):=by
 intro pins s σ H Q I h
 refine PySem.W.methodCall_KW (pl:=pl) (thn (he pins s σ H _ I h) λ u s1 ⟨x,H1,I1,rx,a,dx,fs,ex,ea,l,q⟩=>?_) ht
 subst ex
 obtain rfl:u=Value.ref a:=rx
 refine ZKr I1 ea c hm l ?_
 refine PySem.W.callWith_K (first:=[.ref a]) (h₀:=X.base) I.ok.mod.kin hm.kp (thn (ha pos pins s1 σ H1 _ I1 q) λ us s2 ⟨vs,H2,I2,r,q2⟩=>⟨I2.kIn,?_⟩) hst hpl
 exact ZM9 (us:=.ref a :: us) (vs:=.ref a :: vs) F hr hb hd hx I2 (.cons rfl r) q2
structure Mk (K:PySem.W.Frag) (C f:Addr):Prop where
 makes:PySem.W.makesIn K C=true
 init:PySem.W.findIn K (.ref C) "__init__" = some (some (.ref f))
 fn:PySem.W.isFn K (.ref f)=true
 kp:PySem.W.keepIn K (.ref C)=true
theorem ZNQ {pins:List (Addr × Obj)} {σ : St} {H:Hp} {s:Shared} {Q:VK} {us:List Value} {vs:List V} (M:Mk X.K C f) (F:FnOk X.prog X.w X.K X.mg X.base CX k f fd ps sp) (hr:Room (k+1) X.A) (hb:ZEL X.K fd ps ds) (hd:Zs dvs ds)
  (hx:ZFW CX X E) (I:Inv X pins σ H s) (r:Zs vs us)
  (h:∀ x dx,H x=none->H dx=none->dx ≠ x->sp (.ref x :: (vs ++ dvs)) (upd (upd H dx (.own x)) x (.ins C dx [])) (λ v H2=>v=.non/\Q (.ref x) H2) E) :
  wpAny (model X.prog X.w) X.A (call (.ref C) us) (EP X pins σ Q) X.xe s:=by
 have hq:=h (s.heap.objs.size+1) s.heap.objs.size (I.hok.fresh (Nat.le_succ _)) (I.hok.fresh (Nat.le_refl _)) (Nat.ne_of_lt (Nat.lt_succ_self _))
 have I2:=Inv.made (C:=C) I
 have r2:Zs (V.ref (s.heap.objs.size+1) :: (vs ++ dvs)) (Value.ref (s.heap.objs.size+1) :: (us ++ ds)):=.cons rfl (r.append hd)
 have hl:(Value.ref (s.heap.objs.size+1) :: us ++ ds).length=ps.length:=by
  have e:=r2.length
  rw [F.len _ _ _ _ hq] at e
  exact e.symm
 refine wpAny_call (ZNK (f:=f) I.kIn M.makes M.init (beq_iff_eq.mp M.fn) (codeAny_mono (F.run _ X.stack _ _ ⟨Value.ref (s.heap.objs.size+1) :: us,[]⟩ (Value.ref (s.heap.objs.size+1) :: (us ++ ds)) _ _ E (hr.make C us [])
  (I2.env0.make C us []) (hb _ (Value.ref (s.heap.objs.size+1) :: us) I2.kIn hl) r2 hq) λ r s' hq'=>?_))
 cases r with
 | error e=>exact hx pins σ _ _ e s' I2 hq'
 | ok fl =>
  cases fl with
  | ret u =>
   obtain ⟨v,H',I3,rv,ev,q3⟩:=I2.after hq'
   subst ev
   exact ⟨rv,⟨V.ref (s.heap.objs.size+1),H',I3,rfl,q3⟩⟩
  | next=>exact False.elim hq'
  | brk=>exact False.elim hq'
  | cont=>exact False.elim hq'
theorem ZOi (M:Mk X.K C f) (F:FnOk X.prog X.w X.K X.mg X.base CX k f fd ps sp) (hr:Room (k+1) X.A) (hg:Gl X x) (hm:X.mg x=some (.ref C)) (hb:ZEL X.K fd ps ds) (hd:Zs dvs ds) (hx:ZFW CX X E)
  (ha:PA X (e :: es) t) (hdb:(x == ("__debug__" : Str))=false:=by decide) (he:starEach (e :: es) X.env=(false,eval e X.env) :: starEach es X.env:=by rfl) (hpl:(backTo pos (starEach es X.env)).any (·.1)=false:=by rfl) :
  PE X (.Call (.Name x p) (e :: es) [] pos) (tMake C sp dvs E t):=by
 intro pins s σ H Q I h
 refine wpAny_Call_Name_kw (ZIf I hg hm ?_ hdb)
 refine PySem.W.callWith_K (h₀:=X.base) I.ok.mod.kin M.kp (thn (ha pos pins s σ H _ I h) λ us s1 ⟨vs,H1,I1,r,q⟩=>⟨I1.kIn,?_⟩) he hpl
 exact ZNQ M F hr hb hd hx I1 r q
end
section
variable {X:Cx} {CX:CXT} {k:Nat} {f C:Addr} {fd:FuncData} {ps ks:List Str} {sp:Sp} {E:XK} {x m:Str} {p pos apos kpos:Pos} {e o:Expr} {es:List Expr} {kws:List Keyword} {te ta:TE} {t tk:TA} {nm:Option Str}
variable {g:List Value->List Value->List Value} {gV:List V->List V->List V}
end
structure FnScope (N P:List Str) (sc:Scope):Prop where
 kind:sc.kind=.function
 co:sc.isCoroutine=false
 gen:sc.isGenerator=false
 nd:N.Nodup
 pre:N.take P.length=P
 par:∀ x ∈ P,sc.names.lookup x=some .local ∨ sc.names.lookup x=some .cell
 nofree:∀ y ∈ sc.names,y.2 ≠ .free
theorem ZHq {kindOf:Str->Option NameKind} {x:Str}:∀ {binds:List (Str × Value)} {m:Str->Option Value},(∀ v,(x,v) ∉ binds)->bindL kindOf binds m x=m x
 | [],_,_=>rfl
 | (n,v) :: r,m,h=>by
  unfold bindL
  rw [ZHq λ w hw=>h w (List.mem_cons_of_mem _ hw)]
  split
  ·have:x ≠ n:=by rintro rfl; exact h v List.mem_cons_self
   simp [this]
  ·rfl
theorem ZHl {kindOf:Str->Option NameKind} {x:Str}:∀ {binds:List (Str × Value)} {m:Str->Option Value},(∀ v,(x,v) ∉ binds)->bindC kindOf binds m x=m x
 | [],_,_=>rfl
 | (n,v) :: r,m,h=>by
  unfold bindC
  rw [ZHl λ w hw=>h w (List.mem_cons_of_mem _ hw)]
  split
  ·rfl
  ·have:x ≠ n:=by rintro rfl; exact h v List.mem_cons_self
   simp [this]
theorem ZHr {kindOf:Str->Option NameKind} {x:Str} {v:Value}:∀ {P:List Str} {vs:List Value} {i:Nat} {m:Str->Option Value},P.Nodup->P[i]? = some x->vs[i]? = some v->kindOf x=some .local ->
  bindL kindOf (P.zip vs) m x=some v
 | [],_,_,_,_,h,_,_=>by simp at h
 | _ :: _,[],_,_,_,_,h,_=>by simp at h
 | p :: P,w :: vs,0,m,nd,h1,h2,hk=>by
  simp at h1 h2; subst h1; subst h2
  show bindL kindOf ((p,w) :: P.zip vs) m p=_
  unfold bindL
  rw [ZHq λ v hv=>(List.nodup_cons.mp nd).1 (List.of_mem_zip hv).1,if_pos hk]
  simp
 | p :: P,w :: vs,i+1,m,nd,h1,h2,hk=>by
  show bindL kindOf ((p,w) :: P.zip vs) m x=_
  unfold bindL
  exact ZHr (i:=i) (List.nodup_cons.mp nd).2 (by simpa using h1) (by simpa using h2) hk
theorem ZHd {kindOf:Str->Option NameKind} {x:Str} {v:Value}:∀ {P:List Str} {vs:List Value} {i:Nat} {m:Str->Option Value},P.Nodup->P[i]? = some x->vs[i]? = some v->kindOf x ≠ some .local ->
  bindC kindOf (P.zip vs) m x=some v
 | [],_,_,_,_,h,_,_=>by simp at h
 | _ :: _,[],_,_,_,_,h,_=>by simp at h
 | p :: P,w :: vs,0,m,nd,h1,h2,hk=>by
  simp at h1 h2; subst h1; subst h2
  show bindC kindOf ((p,w) :: P.zip vs) m p=_
  unfold bindC
  rw [ZHl λ v hv=>(List.nodup_cons.mp nd).1 (List.of_mem_zip hv).1,if_neg hk]
  simp
 | p :: P,w :: vs,i+1,m,nd,h1,h2,hk=>by
  show bindC kindOf ((p,w) :: P.zip vs) m x=_
  unfold bindC
  exact ZHd (i:=i) (List.nodup_cons.mp nd).2 (by simpa using h1) (by simpa using h2) hk
def ZEp (N:List Str) (vs:List V):St:=vs.map some ++ List.replicate (N.length - vs.length) none
def ZJl (CX:CXT) (P:Program) (w:World) (K:PySem.W.Frag) (mg:Str->Option Value) (base:Heap) (N:List Str) (qual:Str) (scope:Scope) (f:Addr) (cd:Value) (A:Around) (outer:List Env) (s:Shared) (H:Hp) (E:XK):Cx where
 prog:=P
 w:=w
 K:=K
 mg:=mg
 base:=base
 A:=A.deeper (envOfC qual scope s.heap.objs.size f cd)
 N:=N
 s₀:=s
 H₀:=H
 env:=envOfC qual scope s.heap.objs.size f cd
 outer:=outer
 stack:=envOfC qual scope s.heap.objs.size f cd :: outer
 ex:=[]
 calm:=true
 fn:=λ _=>true
 pn:=[]
 xe:=λ e s'=>wpAny (model P w) (A.deeper (envOfC qual scope s.heap.objs.size f cd)) (leaving (envOfC qual scope s.heap.objs.size f cd) e) (λ _ s''=>CX outer H s E e s'') (λ e' s''=>CX outer H s E e' s'') s'
theorem ZJv {sc:Scope} {n:Nat} {x:Str} (h:sc.names.lookup x=some .cell):∃ c,(cellsFrom n sc.names []).lookup x=some c:=by
 have q:=PySem.W.cellsFrom_some sc.names n [] (.inl h)
 exact Option.isSome_iff_exists.mp q
theorem ZMV {CX:CXT} {P:Program} {w:World} {K:PySem.W.Frag} {mg:Str->Option Value} {base:Heap} {N ps:List Str} {qual:Str} {scope:Scope} {f:Addr} {cd:Value} {A:Around} {outer:List Env} {s s1:Shared} {H:Hp} {E:XK} {us:List Value} {vs:List V}
  (S:FnScope N ps scope) (hd:A.handled=none) (e0:Env0 P w K mg base A outer s H) (hl:vs.length=ps.length) (r:Zs vs us)
  (x:InCallC s s.heap.objs.size (bindL (envOfC qual scope s.heap.objs.size f cd).kindOf (ps.zip us) λ _=>none) (cellsFrom (s.heap.objs.size+1) scope.names []) (bindC (envOfC qual scope s.heap.objs.size f cd).kindOf (ps.zip us) λ _=>none) s1) :
  Inv (ZJl CX P w K mg base N qual scope f cd A outer s H E) [] (ZEp N vs) H s1:=by
 have hpl:ps.length<=N.length:=by have:=congrArg List.length S.pre; rw [List.length_take] at this; omega
 obtain ⟨h1,tk,rfl,hk⟩:=x.done
 have noA:∀ b:Addr,b ∉ (ZJl CX P w K mg base N qual scope f cd A outer s H E).ex:=λ b z=>absurd (show b ∈ ([]:List Addr) from z) (by simp)
 refine ⟨⟨e0.mod,S.kind,rfl,rfl,Nat.le_refl _,λ y z c h1 h2=>?_,λ y hy=>?_,λ y c _ h=>?_,λ _=>hd,Around.frames_deeper e0.frames,.inr ⟨rfl,rfl⟩,λ b z=>absurd z (noA b),e0.bs,e0.bsz,λ b _ _=>noA b,λ b z=>absurd z (noA b),e0.funs,e0.frf⟩,
  rfl,e0.bare,Un.kept hk,⟨_,x.toInCall.ns,λ i y v h1 h2 h3=>?_⟩,λ y c h=>⟨_,x.cell y c h⟩,e0.hok.fresh (Nat.le_refl _),λ y c h=>?_,λ p hp=>absurd (show p ∈ ([]:List (Addr × Obj)) from hp) (by simp),e0.hok.kept hk,?_⟩
 ·exact name_of_addr x.apart (PySem.mem_of_lookup h1) (PySem.mem_of_lookup h2)
 ·have hy:scope.names.lookup y=some .cell ∨ scope.names.lookup y=some .free:=hy
  rcases hy with hy | hy
  ·exact ZJv hy
  ·exact absurd rfl (S.nofree _ (PySem.mem_of_lookup hy))
 ·exact Nat.le_of_lt (x.above y c (PySem.mem_of_lookup h))
 ·have hi:i < vs.length:=by
   unfold ZEp at h2
   by_cases hi:i < vs.length
   ·exact hi
   ·rw [List.getElem?_append_right (by simpa using hi)] at h2
    rw [List.getElem?_replicate] at h2
    split at h2 <;> cases h2
  have ha:vs[i]? = some v:=by
   unfold ZEp at h2
   rw [List.getElem?_append_left (by simpa using hi),List.getElem?_map] at h2
   cases e:vs[i]? with
   | none=>rw [e] at h2; cases h2
   | some a=>rw [e] at h2; cases h2; rfl
  obtain ⟨u,hu,rv⟩:=r.get ha
  have hp:ps[i]? = some y:=by
   rw [← S.pre,List.getElem?_take_of_lt (by omega)]; exact h1
  have ndP:ps.Nodup:=by rw [← S.pre]; exact S.nd.sublist (List.take_sublist _ _)
  refine ⟨u,rv,?_⟩
  rcases S.par y (List.mem_of_getElem? hp) with k | k
  ·exact .inl ⟨k,ZHr ndP hp hu k⟩
  ·obtain ⟨c,e⟩:=ZJv (n:=s.heap.objs.size+1) k
   refine .inr ⟨.inl k,c,e,?_⟩
   have q:=x.cell y c e
   rw [ZHd ndP hp hu (by show scope.names.lookup y ≠ _; rw [k]; decide)] at q
   exact q
 ·exact e0.hok.fresh (Nat.le_of_lt (x.above y c (PySem.mem_of_lookup h)))
 ·unfold ZEp
  show _=N.length
  rw [List.length_append,List.length_map,List.length_replicate]
  omega
theorem fn_of {CX:CXT} {P:Program} {w:World} {K:PySem.W.Frag} {mg:Str->Option Value} {base:Heap} {k:Nat} {f:Addr} {name qual:Str} {params:Arguments} {body:List Stmt} {scope:Scope} {dV kV doc pm cdv ct oc:Value} {an od:Option Addr}
  {osl:Array (Option Value)} {N ps:List Str} {sp:Sp} (lk:K.lookup f=some ⟨oc,od,.func (PySem.W.fnOf name qual params body scope dV kV doc pm an cdv ct),osl⟩) (hcd:PySem.W.codeIn K cdv qual=true) (S:FnScope N ps scope)
  (len:∀ vs H Q E,sp vs H Q E->vs.length=ps.length)
  (hbody:∀ (A:Around) (outer:List Env) (s:Shared) (H:Hp) (vs:List V) (Q:VK) (E:XK),Room k (A.deeper (envOfC qual scope s.heap.objs.size f cdv))->sp vs H Q E ->
   ∃ t,PSs (ZJl CX P w K mg base N qual scope f cdv A outer s H E) body t/\t { nx:=λ _ H'=>Q .non H',rt:=Q } (ZEp N vs) H) :
  FnOk P w K mg base CX (k+1) f (PySem.W.fnOf name qual params body scope dV kV doc pm an cdv ct) ps sp:=by
 refine ⟨len,λ A outer s H args us vs Q E hr e0 hb r hsp=>?_⟩
 have hl:=len _ _ _ _ hsp
 have KX:K.In s.heap:=e0.mod.kin.keeps λ b o e=>(e0.bs b o e).1
 have lim:s.heap.NoLimit:=e0.mod.nolimit.keeps λ b o e=>(e0.bs b o e).1
 have hkind:∀ y ∈ ps.zip us,scope.names.lookup y.1=some .local ∨ (scope.names.lookup y.1=some .cell/\((cellsFrom (s.heap.objs.size+1) scope.names []).lookup y.1).isSome=true):=λ ⟨n,v⟩ hy=>by
  rcases S.par n (List.of_mem_zip hy).1 with q | q
  ·exact .inl q
  ·exact .inr ⟨q,PySem.W.cellsFrom_some _ _ _ (.inl q)⟩
 refine codeAny_call_function hr.depth (KX _ _ lk) rfl S.co S.gen rfl (PySem.W.codeRec_of KX hcd) (hb _ _ _ _ ?_)
 refine wpAny_newFunctionEnv_cells S.kind hkind λ env he s1 x=>?_
 subst he
 refine ⟨lim.keeps x.toInCall.keep,codeAny_func ?_⟩
 obtain ⟨t,ht,hq⟩:=hbody A outer s H vs Q E (hr.deeper _) hsp
 have I:Inv (ZJl CX P w K mg base N qual scope f cdv A outer s H E) [] (ZEp N vs) H s1:=ZMV S hr.hd e0 hl r x
 refine wpAny_mono (ht [] s1 (ZEp N vs) H _ I hq) (λ fl s' hs=>?_) λ e s' hs=>hs
 have fin:∀ {σ':St} {H':Hp} {v:V} {u:Value},Inv (ZJl CX P w K mg base N qual scope f cdv A outer s H E) [] σ' H' s'->ZAD v u->Q v H'->CE outer P w H s Q u s' :=
  λ {σ' H' v u} J rv q=>⟨v,H',J.os,J.bare,J.base,J.hok,rv,q⟩
 cases fl with
 | ret u =>
  obtain ⟨v,σ',H',J,rv,q⟩:=hs
  exact fin J rv q
 | next =>
  obtain ⟨σ',H',J,q⟩:=hs
  exact fin (v:=V.non) (u:=Value.none) J rfl q
 | brk =>
  obtain ⟨_,_,_,q⟩:=hs
  exact False.elim q
 | cont =>
  obtain ⟨_,_,_,q⟩:=hs
  exact False.elim q
end L2
namespace L2
open PySem PySem.Spec PyProof.Rows
section
variable {X:Cx} {x:Str} {p pos:Pos} {e:Expr} {es:List Expr} {t:TA} {id T:String} {r:List V->Hp->VK->Prop}
def tCB (r:List V->Hp->VK->Prop) (t:TA):TE:=λ σ H Q=>t σ H λ vs H1=>r vs H1 Q
theorem ZMx (hc:Z3 X (.builtin id) r) (hg:Gl X x) (hm:X.mg x=none) (hv:bootBuiltins x=some (.builtin id)) (ha:PA X (e :: es) t) (hn:x ≠ "__name__":=by decide) (hdb:(x == ("__debug__" : Str))=false:=by decide)
  (he:starEach (e :: es) X.env=(false,eval e X.env) :: starEach es X.env:=by rfl) (hpl:(backTo pos (starEach es X.env)).any (·.1)=false:=by rfl):PE X (.Call (.Name x p) (e :: es) [] pos) (tCB r t):=by
 intro pins s σ H Q I h
 refine wpAny_Call_Name_kw (ZFZ I hg hm hv ?_ hn hdb)
 exact PyProof.Rows.callWith_builtin1 (thn (ha pos pins s σ H _ I h) λ us s1 ⟨vs,H1,I1,r1,q1⟩=>hc pins s1 σ H1 vs us Q I1 r1 q1) he hpl
theorem ZFT (hc:Z3 X (.type T) r) (hg:Gl X x) (hm:X.mg x=none) (hv:bootBuiltins x=some (.type T)) (ha:PA X (e :: es) t) (hn:x ≠ "__name__":=by decide) (hdb:(x == ("__debug__" : Str))=false:=by decide)
  (he:starEach (e :: es) X.env=(false,eval e X.env) :: starEach es X.env:=by rfl) (hpl:(backTo pos (starEach es X.env)).any (·.1)=false:=by rfl):PE X (.Call (.Name x p) (e :: es) [] pos) (tCB r t):=by
 intro pins s σ H Q I h
 refine wpAny_Call_Name_kw (ZFZ I hg hm hv ?_ hn hdb)
 exact PyProof.Rows.callWith_type1 (thn (ha pos pins s σ H _ I h) λ us s1 ⟨vs,H1,I1,r1,q1⟩=>hc pins s1 σ H1 vs us Q I1 r1 q1) he hpl
end
end L2
namespace HT
open PySem PyProof.Rows
def lexLt:List Int->List Int->Bool
 | [],[]=>false
 | [],_ :: _=>true
 | _ :: _,[]=>false
 | x :: xs,y :: ys=>if x=y then lexLt xs ys else decide (x < y)
theorem ZKw (x y:Int) (xs ys:List Int):lexLt (x :: xs) (y :: ys)=if x=y then lexLt xs ys else decide (x < y):=rfl
theorem ZHT:lexLt [] []=false:=rfl
theorem ZGu (y:Int) (ys:List Int):lexLt [] (y :: ys)=true:=rfl
theorem ZGR (x:Int) (xs:List Int):lexLt (x :: xs) []=false:=rfl
theorem ZGH (A:Around) (s:Shared) (a:Int) (t:Tok) (c:Int) (u:Tok):∃ e,SeqAt.EqAt A s (.int a t) (.int c u) e/\(e=true ↔ a=c) :=
 ⟨(a == c),SeqAt.EqAt.int_int a t c u,by simp⟩
theorem ZMq (A:Around) (s:Shared) (a:Int) (t:Tok) (c:Int) (u:Tok) (prog:Program) (w:World) (E:Value->Shared->Prop) (Q:Value->Shared->Prop) (h:Q (.bool (decide (a < c))) s) :
  wpAny (model prog w) A (richCompare .Lt (.int a t) (.int c u)) Q E s :=
 (PyProof.Rows.lt_int h:wpAny (model prog w) A (compareOp .Lt (.int a t) (.int c u)) Q E s)
section
open PySem.SeqAt
open PySem.AutoSeq1 (wpAny_loadPart')
open PySem.MeetsSeq PySem.MeetsSeq2 PySem.MeetsSeq3
theorem ZHA (l b:Addr) (items items2:Array Value) (n n2:Nat) (dd dd2:Option Addr) (sl sl2:Array (Option Value)) (ns ms:List Int) (hi:IntsAre items.toList ns) (hj:IntsAre items2.toList ms) :
  Meets (Builtin.«tuple.__lt__» ⟨[.ref l,.ref b],[]⟩)
   (λ _ R s=>s.heap.get? l=some { cls:=.type "tuple",dict:=dd,data:=.seq items n,slots:=sl }/\s.heap.get? b=some { cls:=.type "tuple",dict:=dd2,data:=.seq items2 n2,slots:=sl2 } /\
    R (.ok (.ret (.bool (lexLt ns ms)))) s) :=
 .of_wp λ prog w A R s h=>by
  obtain ⟨hp,g,d,tk,os⟩:=s; obtain ⟨hl,hb,h⟩:=h
  have f2:=AutoSeq1.sub_tuple_tuple
  have z1:items.size=ns.length:=by rw [← hi.length]; simp
  have z2:items2.size=ms.length:=by rw [← hj.length]; simp
  wp_walk using wpAny_loadPart' hl,wpAny_loadPart' hb,wpAny_forIn_list _ (λ rest b s'=>b.1=none/\s'=⟨hp,g,d,tk,os⟩/\∃ (vs ws:List Value) (ns' ms':List Int),rest=vs.zip ws /\
   IntsAre vs ns'/\IntsAre ws ms'/\ns'.length+items2.size=ms'.length+items.size/\R (.ok (.ret (.bool (lexLt ns' ms')))) ⟨hp,g,d,tk,os⟩) _
  case turn =>
   rintro ⟨y,x⟩ rest b s' ⟨hb',rfl,vs,ws,ns',ms',hz,hvi,hwi,hlen,hR⟩
   cases hvi with
   | nil=>rw [List.zip_nil_left] at hz; cases hz
   | cons a t hvi' =>
    cases hwi with
    | nil=>rw [List.zip_nil_right] at hz; cases hz
    | cons c u hwi' =>
     rw [List.zip_cons_cons] at hz
     injection hz with hyx hrest
     injection hyx with hy hx
     subst hy hx
     rw [ZKw] at hR
     simp only [List.length_cons] at hlen
     obtain ⟨e,he,hiff⟩:=ZGH A.in1 ⟨hp,g,d,tk,os⟩ a t c u
     refine wpAny_bind (he prog w _ _ ?_)
     cases e with
     | true =>
      rw [if_pos (hiff.mp rfl)] at hR
      wp_walk
      exact ⟨rfl,rfl,_,_,_,_,hrest,hvi',hwi',by omega,hR⟩
     | false =>
      rw [if_neg (λ q=>absurd (hiff.mpr q) Bool.false_ne_true)] at hR
      have hri:=ZMq A.in1 ⟨hp,g,d,tk,os⟩ a t c u prog w
      wp_walk using hri
      exact ⟨_,rfl,by simpa using hR⟩
  case fin =>
   rintro ⟨b1,b2⟩ s' ⟨hb',rfl,vs,ws,ns',ms',hz,hvi,hwi,hlen,hR⟩
   simp only at hb'
   subst hb'
   have hv:lexLt ns' ms'=decide (items.size < items2.size):=by
    cases hvi with
    | nil =>
     cases hwi with
     | nil =>
      simp only [List.length_nil] at hlen
      rw [ZHT]
      exact (decide_eq_false (by omega)).symm
     | cons c u hw =>
      simp only [List.length_nil,List.length_cons] at hlen
      rw [ZGu]
      exact (decide_eq_true (by omega)).symm
    | cons a t hv =>
     cases hwi with
     | nil =>
      simp only [List.length_nil,List.length_cons] at hlen
      rw [ZGR]
      exact (decide_eq_false (by omega)).symm
     | cons c u hw =>
      rw [List.zip_cons_cons] at hz
      cases hz
   rw [hv] at hR
   wp_walk
   exact ⟨_,rfl,by simpa [Builtin.Tuple.tupleCompareSizes] using hR⟩
  case h =>
   exact ⟨rfl,rfl,items.toList,items2.toList,ns,ms,rfl,hi,hj,by omega,h⟩
end
section
variable {prog:Program} {w:World} {A:Around} {E:Value->Shared->Prop} {s:Shared}
theorem lt_tupInts {l b:Addr} {items items2:Array Value} {ns ms:List Int} {Q:Value->Shared->Prop} (hl:IsTup s.heap l items) (hb:IsTup s.heap b items2) (hi:IntsAre items.toList ns) (hj:IntsAre items2.toList ms)
  (hu:A.units < cLine) (h:Q (.bool (lexLt ns ms)) s):wpAny (model prog w) A (compareOp .Lt (.ref l) (.ref b)) Q E s:=by
 obtain ⟨⟨cls,dd,data,sl⟩,ho,hc,n,hd⟩:=id hl
 obtain ⟨⟨cls2,dd2,data2,sl2⟩,ho2,hc2,n2,hd2⟩:=id hb
 simp only at hc hd hc2 hd2
 subst hc hd hc2 hd2
 exact richCompare_meets_room (op:=.Lt) ⟨_,ho,rfl⟩ ⟨_,ho2,rfl⟩ PySem.F.slot_tuple_lt PySem.F.entry_tuple_lt (PySem.F.args_tuple_lt_2 _ _) (ZHA l b items items2 n n2 dd dd2 sl sl2 ns ms hi hj)
  ⟨ho,ho2,show Value.bool (lexLt ns ms) ≠ Value.notImplemented/\Q (.bool (lexLt ns ms)) s from ⟨(λ x=>nomatch x),h⟩⟩ hu
theorem ZOp {t b:Addr} {vs ws:List Value} {Q:Value->Shared->Prop} (ht:IsTup s.heap t vs.toArray) (hb:IsTup s.heap b ws.toArray) (hv:vs ≠ [])
  (h1:ws=[]->Q (.ref t) s) (h2:ws ≠ []->Q (.ref s.heap.objs.size) { s with heap:=s.heap.push { cls:=.type "tuple",data:=.seq (vs ++ ws).toArray } })
  (hsz:vs.length+ws.length<=sizeLine):wpAny (model prog w) A (binaryOp .Add (.ref t) (.ref b)) Q E s:=by
 obtain ⟨⟨cls,dd,data,sl⟩,ho,hc,n,hd⟩:=id ht
 obtain ⟨⟨cls2,dd2,data2,sl2⟩,ho2,hc2,n2,hd2⟩:=id hb
 simp only at hc hd hc2 hd2
 subst hc hd hc2 hd2
 have e:vs.toArray ++ ws.toArray=(vs ++ ws).toArray:=by simp
 by_cases hw:ws=[]
 ·exact concat_meets ⟨_,ho,rfl⟩ ⟨_,ho2,rfl⟩ noFill_tuple_add seq_tuple_add PySem.F.slot_tuple_add PySem.F.entry_tuple_add (PySem.F.args_tuple_add_2 _ _)
   (tuple_addW1 t b vs.toArray ws.toArray n n2 dd dd2 sl sl2 (by simpa using hv) (by simp [hw])) ⟨ho,ho2,h1 hw⟩
 ·refine concat_meets ⟨_,ho,rfl⟩ ⟨_,ho2,rfl⟩ noFill_tuple_add seq_tuple_add PySem.F.slot_tuple_add PySem.F.entry_tuple_add (PySem.F.args_tuple_add_2 _ _)
   (tuple_addW2 t b vs.toArray ws.toArray n n2 dd dd2 sl sl2 (by simpa using hv) (by simpa using hw) (by rw [List.size_toArray,List.size_toArray]; exact hsz)) ⟨ho,ho2,?_⟩
  rw [e]
  exact h2 hw
def sIx (n d:Nat):Option Int->Nat
 | none=>d
 | some v=>if v < 0 then (v+(n:Int)).toNat else min v.toNat n
theorem ZQT (n d:Nat) (hd:d<=n) (o:Option Int):sIx n d o<=n:=by
 cases o with
 | none=>exact hd
 | some v =>
  show (if v < 0 then (v+(n:Int)).toNat else min v.toNat n)<=n
  by_cases hv:v < 0
  ·rw [if_pos hv]; omega
  ·rw [if_neg hv]; exact Nat.min_le_right _ _
theorem ZK7 (v:Int) (n d:Nat):(if v < 0 then max (v+(n:Int)) 0 else min v (n:Int))=((sIx n d (some v):Nat):Int):=by
 show (if v < 0 then max (v+(n:Int)) 0 else min v (n:Int))=(((if v < 0 then (v+(n:Int)).toNat else min v.toNat n):Nat):Int)
 by_cases hv:v < 0
 ·simp only [if_pos hv]; omega
 ·simp only [if_neg hv]; omega
theorem ZK1 (lo hi:Option Int) (n:Nat):Builtin.Slice.sliceAdjust lo hi 1 (n:Int)=(((sIx n 0 lo:Nat):Int),((sIx n n hi:Nat):Int)):=by
 have h1 : ¬ ((1:Int) < 0):=by omega
 unfold Builtin.Slice.sliceAdjust
 simp only [h1,if_false]
 refine Prod.ext ?_ ?_
 ·cases lo with
  | none=>rfl
  | some v=>exact ZK7 v n 0
 ·cases hi with
  | none=>rfl
  | some v=>exact ZK7 v n n
theorem ZKb (i j:Nat):Builtin.Slice.slicePlaces (i:Int) (j:Int) 1=j - i:=by
 unfold Builtin.Slice.slicePlaces
 have h1:(1:Int) > 0:=by omega
 simp only [h1,if_true,Int.ediv_one]
 split <;> omega
theorem ZGt {v:Value} {o:Option Int} {Q:Option Int->Shared->Prop} (p:IsPart v o) (h:Q o s):wpAny (model prog w) A (Builtin.Slice.slicePartIndex v) Q E s:=by
 cases p with
 | none=>exact slicePart_none h
 | int i t=>exact slicePart_int h
theorem ZDF {sl:Addr} {vl vu:Value} {lo hi:Option Int} {n:Nat} {Q:Int × Int × Nat->Shared->Prop} (hs:s.heap.IsSliceOf sl vl vu .none) (pl:IsPart vl lo) (pu:IsPart vu hi)
  (h:Q (((sIx n 0 lo:Nat):Int),1,sIx n n hi - sIx n 0 lo) s):wpAny (model prog w) A (Builtin.Slice.sliceApplied (.ref sl) (pure (n:Int))) Q E s:=by
 obtain ⟨os,hos,hcs,hds⟩:=id hs
 unfold Builtin.Slice.sliceApplied Builtin.Slice.sliceFields
 refine wpAny_bind (wpAny_bind (wpAny_field hos hds (x:=vl) rfl (wpAny_bind (wpAny_field hos hds (x:=vu) rfl (wpAny_bind (wpAny_field hos hds (x:=.none) rfl (wpAny_pure ?_)))))))
 refine wpAny_bind (slicePart_none ?_)
 show wpAny _ _ (if ((1:Int) == 0)=true then _ else _) _ _ s
 rw [if_neg (by decide)]
 refine wpAny_bind (ZGt pl (wpAny_bind (ZGt pu (wpAny_bind (wpAny_pure ?_)))))
 show wpAny _ _ (match Builtin.Slice.sliceAdjust lo hi 1 (n:Int) with | (lo,hi)=>pure (lo,(1:Int),Builtin.Slice.slicePlaces lo hi 1)) _ _ s
 rw [ZK1 lo hi n]
 show wpAny _ _ (pure (((sIx n 0 lo:Nat):Int),(1:Int),Builtin.Slice.slicePlaces ((sIx n 0 lo:Nat):Int) ((sIx n n hi:Nat):Int) 1)) _ _ s
 rw [ZKb]
 exact wpAny_pure h
theorem ZN8 (xs:Array Value) (i k:Nat):((List.range k).filterMap λ (m:Nat)=>xs[((i:Int)+(m:Int) * 1).toNat]?).toArray=((xs.toList.drop i).take k).toArray:=by
 have e:(λ (m:Nat)=>xs[((i:Int)+(m:Int) * 1).toNat]?) = λ m=>xs[i+m]?:=by
  funext m
  have:((i:Int)+(m:Int) * 1).toNat=i+m:=by omega
  rw [this]
 rw [e]
 have:=pick_run xs i k
 rw [List.filterMap_map] at this
 have e2:((λ x=>xs[x]?) ∘ λ x=>i+x) = λ m=>xs[i+m]?:=rfl
 rw [e2] at this
 rw [this]
theorem getItem_tuple_cut {t sl:Addr} {items:Array Value} {vl vu:Value} {lo hi:Option Int} {Q:Value->Shared->Prop} (ht:IsTup s.heap t items) (hs:s.heap.IsSliceOf sl vl vu .none) (pl:IsPart vl lo) (pu:IsPart vu hi)
  (hw : ¬ (sIx items.size 0 lo=0/\sIx items.size items.size hi=items.size))
  (h:Q (.ref s.heap.objs.size) { s with heap:=s.heap.push { cls:=.type "tuple",data:=.seq ((items.toList.drop (sIx items.size 0 lo)).take (sIx items.size items.size hi - sIx items.size 0 lo)).toArray } })
  (hsz:items.size<=sizeLine):wpAny (model prog w) A (getItem (.ref t) (.ref sl)) Q E s:=by
 have htake:sizeOk (.seq ((items.toList.drop (sIx items.size 0 lo)).take (sIx items.size items.size hi - sIx items.size 0 lo)).toArray):=by
  show ((items.toList.drop (sIx items.size 0 lo)).take (sIx items.size items.size hi - sIx items.size 0 lo)).toArray.size<=sizeLine
  rw [List.size_toArray,List.length_take,List.length_drop,Array.length_toList]
  omega
 have hj:sIx items.size items.size hi<=items.size:=ZQT _ _ (Nat.le_refl _) hi
 obtain ⟨os,hos,hcs,hds⟩:=id hs
 have hTs:s.TypeIs (.ref sl) "slice":=⟨os,hos,hcs⟩
 unfold getItem
 try with_reducible refine wpAny_holding ?_
 first | refine wpAny_bind (wpAny_pure ?_) | skip
 refine wpAny_bind (wpAny_sequenceKey ht.typeIs (by decide) ?_)
 refine wpAny_bind (wpAny_callSpecial?_slot (name:=Str.ofString "__getitem__") ht.typeIs PyProof.Rows.slot_tuple_getitem
  (wpAny_call_entry PyProof.Rows.slot_tuple_getitem ht.typeIs entry_tuple_getitem ?_ (args_tuple_getitem _ _)))
 show wpAny _ _ (Builtin.Tuple.tupleItemsOf (.ref t) >>= _) _ _ s
 refine wpAny_bind (tupleItemsOf_ ht ?_)
 refine wpAny_bind (wpAny_typeOf hTs ?_)
 rw [if_pos (by decide)]
 refine wpAny_bind (ZDF hs pl pu ?_)
 have hno : ¬ ((((sIx items.size 0 lo:Nat):Int) == 0 && (1:Int) == 1 && (sIx items.size items.size hi - sIx items.size 0 lo) == items.size)=true):=by
  intro q
  rw [Bool.and_eq_true,Bool.and_eq_true] at q
  have q1:((sIx items.size 0 lo:Nat):Int)=0:=eq_of_beq q.1.1
  have q2:sIx items.size items.size hi - sIx items.size 0 lo=items.size:=eq_of_beq q.2
  exact hw ⟨by omega,by omega⟩
 show wpAny _ _ (if (((sIx items.size 0 lo:Nat):Int) == 0 && (1:Int) == 1 && (sIx items.size items.size hi - sIx items.size 0 lo) == items.size)=true then _ else _) _ _ s
 rw [if_neg hno,ZN8]
 first
  | exact wpAny_bind (m:=Builtin.Tuple.tupleExact _) (wpAny_newObj_type (wpAny_pure ⟨_,rfl,wpAny_pure h⟩) htake)
  | exact wpAny_bind (m:=Builtin.Tuple.tupleExact _) (wpAny_newObj_type (wpAny_bind (wpAny_pure (wpAny_pure ⟨_,rfl,wpAny_pure h⟩))) htake)
  | exact wpAny_bind (wpAny_bind (m:=Builtin.Tuple.tupleExact _) (wpAny_newObj_type (wpAny_pure (wpAny_pure ⟨_,rfl,wpAny_pure h⟩)) htake))
  | exact wpAny_bind (wpAny_bind (m:=Builtin.Tuple.tupleExact _) (wpAny_newObj_type (wpAny_pure ⟨_,rfl,wpAny_pure h⟩) htake))
end
end HT
namespace L2
open PySem PySem.Spec PyProof.Rows
abbrev TO:=St->Hp->(Option Int->Hp->Prop)->Prop
def PO (X:Cx) (e:Option Expr) (t:TO):Prop :=
 ∀ (pins:List (Addr × Obj)) (s:Shared) (σ : St) (H:Hp) (Q:Option Int->Hp->Prop),Inv X pins σ H s->t σ H Q ->
  wpAny (model X.prog X.w) X.A (evalPart e X.env) (λ u s'=>∃ o H',Inv X pins σ H' s'/\IsPart u o/\Q o H') X.xe s
def ZOe:TO:=λ _ H Q=>Q none H
def tPart (t:TE):TO:=λ σ H Q=>t σ H λ x H1=>∃ i,x=.int i/\Q (some i) H1
theorem ZBh {ns:List Int}:∀ {us:List Value},Zs (ns.map V.int) us->IntsAre us ns:=by
 induction ns with
 | nil=>intro us r; rw [List.map_nil] at r; cases r; exact .nil
 | cons n ns ih =>
  intro us r
  rw [List.map_cons] at r
  cases r with
  | cons r1 r2 =>
   obtain ⟨t,e⟩:=r1
   subst e
   exact .cons n t (ih r2)
section
variable {X:Cx} {e:Expr} {te:TE} {lo hi:Option Expr} {tl th:TO} {pos p2:Pos}
theorem ZPh:PO X none ZOe:=by
 intro pins s σ H Q I h
 rw [evalPart_none]
 exact wpAny_pure ⟨none,H,I,.none,h⟩
theorem ZOu (h:PE X e te):PO X (some e) (tPart te):=by
 intro pins s σ H Q I hw
 rw [evalPart_some]
 refine thn (h pins s σ H _ I hw) λ u s1 ⟨x,H1,I1,r1,q1⟩=>?_
 obtain ⟨i,rfl,q⟩:=q1
 obtain ⟨t,rfl⟩:=r1
 exact ⟨some i,H1,I1,.int i t,q⟩
def SlR (X:Cx) (r:V->Option Int->Option Int->Hp->VK->Prop):Prop :=
 ∀ (pins:List (Addr × Obj)) (s:Shared) (σ : St) (H:Hp) (x:V) (v vl vu:Value) (lo hi:Option Int) (sl:Addr) (Q:VK),Inv X pins σ H s->ZAD x v->s.heap.IsSliceOf sl vl vu .none->IsPart vl lo->IsPart vu hi->r x lo hi H Q ->
  ∃ T id,typeLookup (.type T) "__getitem__" = pure (some (.builtin id))/\s.TypeIs v T/\wpAny (model X.prog X.w) X.A (getItem v (.ref sl)) (EP X pins σ Q) X.xe s
def tSl (r:V->Option Int->Option Int->Hp->VK->Prop) (te:TE) (tl th:TO):TE:=λ σ H Q=>te σ H λ x H1=>tl σ H1 λ l H2=>th σ H2 λ u H3=>r x l u H3 Q
theorem ZNF {r:V->Option Int->Option Int->Hp->VK->Prop} (hr:SlR X r) (he:PE X e te) (hl:PO X lo tl) (hu:PO X hi th):PE X (.Subscript e (.Slice lo hi none p2) pos) (tSl r te tl th):=by
 intro pins s σ H Q I h
 refine Subscript_ (thn (he pins s σ H _ I h) λ v s1 ⟨x,H1,I1,r1,q1⟩=>?_)
 refine wpAny_Slice (thn (hl pins s1 σ H1 _ I1 q1) λ vl s2 ⟨l,H2,I2,pl,q2⟩=>thn (hu pins s2 σ H2 _ I2 q2) λ vu s3 ⟨u,H3,I3,pu,q3⟩=>?_)
 rw [evalPart_none]
 refine wpAny_pure ?_
 have I4:Inv X pins σ H3 { s3 with heap:=s3.heap.push { cls:=.type "slice",data:=.fields #[vl,vu,.none] } }:=I3.kept (t':=s3.toks) λ b ob q=>Heap.get?_push_of_some _ q
 obtain ⟨T,id,hT,ht,hg⟩:=hr pins { s3 with heap:=s3.heap.push { cls:=.type "slice",data:=.fields #[vl,vu,.none] } } σ H3 x v vl vu l u s3.heap.objs.size Q I4 r1 (Heap.IsSliceOf.new ..) pl pu q3
 show wpAny (model X.prog X.w) X.A (subscriptTail e (.Slice lo hi none p2) v (.ref s3.heap.objs.size)) (EP X pins σ Q) X.xe { s3 with heap:=s3.heap.push { cls:=.type "slice",data:=.fields #[vl,vu,.none] } }
 exact tail_any (ops:=[.ref s3.heap.objs.size,v]) ht hT hg (by with_unfolding_all rfl)
def ZIx (xs:List V) (lo hi:Option Int):List V:=(xs.drop (HT.sIx xs.length 0 lo)).take (HT.sIx xs.length xs.length hi - HT.sIx xs.length 0 lo)
theorem ZFi (xs:List V) (lo hi:Option Int):(ZIx xs lo hi).length<=xs.length:=by
 unfold ZIx
 rw [List.length_take,List.length_drop]
 omega
def rSlT (K:PySem.W.Frag):V->Option Int->Option Int->Hp->VK->Prop:=λ x lo hi H Q=>∃ a xs,x=.ref a/\SqT K H a xs /\
 ¬ (HT.sIx xs.length 0 lo=0/\HT.sIx xs.length xs.length hi=xs.length)/\∀ p,H p=none->Q (.ref p) (upd H p (.tup (ZIx xs lo hi)))
theorem ZQ6:SlR X (rSlT X.K):=by
 intro pins s σ H x v vl vu lo hi sl Q I rx hs pl pu h
 obtain ⟨a,xs,rfl,hx,hw,q⟩:=h
 cases rx
 obtain ⟨its,r,ht,hz⟩:=I.tuple hx
 have hlen:its.toArray.size=xs.length:=by rw [List.size_toArray]; exact r.length.symm
 refine ⟨"tuple",_,PyProof.Rows.slot_tuple_getitem.lookup,ht.typeIs,?_⟩
 refine HT.getItem_tuple_cut ht hs pl pu (by rw [hlen]; exact hw) ?_ (by rw [hlen]; exact hz)
 rw [hlen]
 refine ⟨.ref s.heap.objs.size,_,I.laid (t':=s.toks) (o:=.tup (ZIx xs lo hi)) (λ b ob q=>Heap.get?_push_of_some _ q) (Nat.le_refl _) ?_,rfl,q _ (I.hok.fresh (Nat.le_refl _))⟩
 exact ⟨Nat.le_trans (ZFi xs lo hi) hz,_,(r.drop (HT.sIx xs.length 0 lo)).take (HT.sIx xs.length xs.length hi - HT.sIx xs.length 0 lo),IsTup.new _ _⟩
def rLtT (K:PySem.W.Frag):R2:=λ x y H Q=>∃ a b ns ms,x=.ref a/\y=.ref b/\SqT K H a (ns.map V.int)/\SqT K H b (ms.map V.int)/\Q (.bl (HT.lexLt ns ms)) H
theorem ZQ7 (hu:X.A.units < cLine):OpR X (compareOp .Lt) (rLtT X.K):=by
 intro pins s σ H x y v u Q I rx ry h
 obtain ⟨a,b,ns,ms,rfl,rfl,ha,hb,q⟩:=h
 cases rx
 cases ry
 obtain ⟨its,r1,p1,_⟩:=I.tuple ha
 obtain ⟨its2,r2,p2,_⟩:=I.tuple hb
 have i1:IntsAre its.toArray.toList ns:=ZBh r1
 have i2:IntsAre its2.toArray.toList ms:=ZBh r2
 exact HT.lt_tupInts p1 p2 i1 i2 hu ⟨.bl (HT.lexLt ns ms),H,I,rfl,q⟩
theorem Zs.nil_iff {xs:List V} {us:List Value} (r:Zs xs us):us=[] ↔ xs=[]:=by
 cases r with
 | nil=>simp
 | cons _ _=>simp
end
end L2
namespace L2
open PySem PySem.Spec PyProof.Rows
def ixN (n:Nat) (i:Int):Option Nat:=if 0<=i then (if i < n then some i.toNat else none) else if -(n:Int)<=i then some (i+n).toNat else none
def atI {α : Type} (xs:List α) (i:Int):Option α:=(ixN xs.length i).bind λ j=>xs[j]?
theorem ZLU {n:Nat} {i:Int} {j:Nat} (h:ixN n i=some j):seqIndex? i n=some j/\j < n/\-(n:Int)<=i/\i < n:=by
 unfold ixN at h
 by_cases h0 : 0<=i
 ·rw [if_pos h0] at h
  by_cases h1:i < n
  ·rw [if_pos h1] at h
   have e:i.toNat=j:=Option.some.inj h
   exact ⟨by rw [seqIndex_of h0 h1,e],by omega,by omega,h1⟩
  ·rw [if_neg h1] at h; cases h
 ·rw [if_neg h0] at h
  by_cases h1 : -(n:Int)<=i
  ·rw [if_pos h1] at h
   have e:(i+n).toNat=j:=Option.some.inj h
   exact ⟨by rw [seqIndex_neg (by omega) h1,e],by omega,h1,by omega⟩
  ·rw [if_neg h1] at h; cases h
theorem ZLa {α : Type} {xs:List α} {i:Int} {v : α} (h:atI xs i=some v):∃ j,seqIndex? i xs.length=some j/\xs[j]? = some v/\j < xs.length/\-(xs.length:Int)<=i/\i < xs.length:=by
 unfold atI at h
 cases e:ixN xs.length i with
 | none=>rw [e] at h; cases h
 | some j =>
  rw [e] at h
  obtain ⟨h1,h2,h3,h4⟩:=ZLU e
  exact ⟨j,h1,h,h2,h3,h4⟩
theorem ZE2 {α : Type} {xs:List α} {j:Nat} {v : α} (h:xs[j]? = some v):atI xs (j:Int)=some v:=by
 have hj:j < xs.length:=(List.getElem?_eq_some_iff.mp h).1
 have e:ixN xs.length (j:Int)=some j:=by
  unfold ixN
  rw [if_pos (by omega),if_pos (by omega)]; simp
 unfold atI; rw [e]; exact h
def ZFE (b:Expr):Prop:=∀ o i,subscripted b false o i=operate [o,i] (getItem o i)
def IxR (X:Cx) (r:R2):Prop :=
 ∀ (value slice:Expr) (pins:List (Addr × Obj)) (s:Shared) (σ : St) (H:Hp) (x y:V) (v u:Value) (Q:VK),Inv X pins σ H s->ZAD x v->ZAD y u->r x y H Q ->
  subscripted slice false v u=operate [v,u] (getItem v u)->wpAny (model X.prog X.w) X.A (subscriptTail value slice v u) (EP X pins σ Q) X.xe s
def MtR (X:Cx) (id:String) (r:V->List V->Hp->VK->Prop):Prop :=
 ∀ (pins:List (Addr × Obj)) (s:Shared) (σ : St) (H:Hp) (x:V) (xs:List V) (v:Value) (us:List Value) (Q:VK),Inv X pins σ H s->ZAD x v->Zs xs us->r x xs H Q ->
  wpAny (model X.prog X.w) X.A (call (.builtin id) (v :: us)) (EP X pins σ Q) X.xe s
section
variable {X:Cx} {a b:Expr} {ta tb:TE} {pos:Pos}
theorem ZP6 {r:R2} (hr:IxR X r) (ha:PE X a ta) (hb:PE X b tb) (hs:ZFE b):PE X (.Subscript a b pos) (tOp r ta tb):=by
 intro pins s σ H Q I h
 exact Subscript_ (ZRM ha hb I h λ v u s2 x y H2 I2 rx ry q=>hr a b pins s2 σ H2 x y v u Q I2 rx ry q (hs _ _))
def rIxL (K:PySem.W.Frag):R2:=λ x y H Q=>∃ p xs i v,x=.ref p/\y=.int i/\SqL K H p xs/\atI xs i=some v/\Q v H
def rIxT (K:PySem.W.Frag):R2:=λ x y H Q=>∃ p xs i v,x=.ref p/\y=.int i/\SqT K H p xs/\atI xs i=some v/\Q v H
theorem ZFC:IxR X (rIxL X.K):=by
 intro value slice pins s σ H x y v u Q I rx ry h hs
 obtain ⟨p,xs,i,z,rfl,rfl,hq,he,q⟩:=h
 cases rx
 obtain ⟨t,rfl⟩:=ry
 obtain ⟨its,r,pl,hz⟩:=I.list hq
 obtain ⟨j,h1,h2,h3,h4,h5⟩:=ZLa he
 obtain ⟨w,ew,rw'⟩:=r.get h2
 have hl:=r.length
 have hn:=ZI0
 have fin:EP X pins σ Q w s:=⟨z,H,I,rw',q⟩
 by_cases h0 : 0<=i
 ·have hj:i.toNat=j:=by
   rw [seqIndex_of h0 h5] at h1
   exact Option.some.inj h1
  exact item_listR pl.isList h0 (by omega) (by rw [hj]; simpa using ew) fin hs
 ·have hj:(i+(its.toArray.size:Int)).toNat=j:=by
   rw [seqIndex_neg (by omega) h4] at h1
   rw [List.size_toArray,← hl]
   exact Option.some.inj h1
  exact subscriptTail_builtinR (x:=w) pl.isList.typeIs slot_list_getitem.lookup
   (wpAny_getItem_list_neg (Q:=λ r s'=>r=w/\EP X pins σ Q r s') pl.isList (by omega) (by rw [List.size_toArray] <;> omega) (by omega) (by rw [hj]; simpa using ew) ⟨rfl,fin⟩) hs
theorem ZM5:IxR X (rIxT X.K):=by
 intro value slice pins s σ H x y v u Q I rx ry h hs
 obtain ⟨p,xs,i,z,rfl,rfl,hq,he,q⟩:=h
 cases rx
 obtain ⟨t,rfl⟩:=ry
 obtain ⟨its,r,pl,hz⟩:=I.tuple hq
 obtain ⟨j,h1,h2,h3,h4,h5⟩:=ZLa he
 obtain ⟨w,ew,rw'⟩:=r.get h2
 have hl:=r.length
 have hn:=ZI0
 have fin:EP X pins σ Q w s:=⟨z,H,I,rw',q⟩
 exact subscriptTail_builtinR (x:=w) pl.typeIs slot_tuple_getitem.lookup
  (getItem_tuple (j:=j) (Q:=λ r s'=>r=w/\EP X pins σ Q r s') pl (by omega) (by omega) (by rw [List.size_toArray,← hl]; exact h1) (by simpa using ew) ⟨rfl,fin⟩) hs
theorem ZKZ (its:List Value) (n j:Nat) (u:Value):Obj.mapSeq (·.setIfInBounds j u) { cls:=.type "list",data:=.seq its.toArray n }={ cls:=.type "list",data:=.seq (its.set j u).toArray n }:=by
 simp [Obj.mapSeq]
theorem Inv.lst {pins:List (Addr × Obj)} {σ : St} {H:Hp} {s:Shared} {p:Addr} {xs:List V} (I:Inv X pins σ H s) (h:H p=some (.lst xs)) :
  ∃ (its:List Value) (n:Nat),Zs xs its/\s.heap.get? p=some { cls:=.type "list",data:=.seq its.toArray n }/\xs.length<=sizeLine:=by
 obtain ⟨z,its,n,r,e⟩:=I.hok p _ h
 exact ⟨its,n,r,e,z⟩
theorem Inv.lstUpd {pins:List (Addr × Obj)} {σ : St} {H:Hp} {s:Shared} {p:Addr} {xs ys:List V} {its its':List Value} {n n':Nat} {f:Obj->Obj} (I:Inv X pins σ H s) (h:H p=some (.lst xs))
  (ho:s.heap.get? p=some { cls:=.type "list",data:=.seq its.toArray n }) (hf:f { cls:=.type "list",data:=.seq its.toArray n }={ cls:=.type "list",data:=.seq its'.toArray n' }) (r:Zs ys its') (hz:ys.length<=sizeLine) (t:Nat) :
  Inv X pins σ (upd H p (.lst ys)) { s with heap:=s.heap.update p f,toks:=t }:=by
 have e:(s.heap.update p f).get? p=some { cls:=.type "list",data:=.seq its'.toArray n' }:=by
  rw [Heap.get?_update_self f ho (by rw [hf] <;> rfl),hf]
 refine I.write (x:=p) (e:=p) (by rw [h]; trivial) (.inl rfl) (λ b u hb q=>(Heap.get?_update_other _ _ (Ne.symm hb)).trans q) ⟨_,e⟩ ?_
 exact ⟨hz,its',n',r,e⟩
def rSetL:V->V->V->Hp->(Hp->Prop)->Prop:=λ o i v H Q=>∃ p xs k j,o=.ref p/\i=.int k/\H p=some (.lst xs)/\ixN xs.length k=some j/\Q (upd H p (.lst (xs.set j v)))
theorem ZN3:ZSE X rSetL:=by
 intro pins s σ H o i v ov iv u Q I ro ri rv h
 obtain ⟨p,xs,k,j,rfl,rfl,hp,hj,q⟩:=h
 cases ro
 obtain ⟨t,rfl⟩:=ri
 obtain ⟨its,n,r,ho,hz⟩:=I.lst hp
 obtain ⟨h1,h2,h3,h4⟩:=ZLU hj
 have hl:=r.length
 have hn:=ZI0
 have I':Inv X pins σ (upd H p (.lst (xs.set j v))) { s with heap:=s.heap.update p (Obj.mapSeq (·.setIfInBounds j u)) } :=
  I.lstUpd hp ho (ZKZ its n j u) (r.set rv j) (by rw [List.length_set]; exact hz) s.toks
 by_cases h0 : 0<=k
 ·have hk:k.toNat=j:=by
   rw [seqIndex_of h0 h4] at h1
   exact Option.some.inj h1
  exact PySem.W.ki_setAt ho h0 (by omega) (by rw [List.size_toArray,← hl]; exact h4) (by rw [hk]; exact ⟨_,I',q⟩)
 ·have hk:(k+(its.toArray.size:Int)).toNat=j:=by
   rw [seqIndex_neg (by omega) h3] at h1
   rw [List.size_toArray,← hl]
   exact Option.some.inj h1
  exact PySem.W.ki_setBack ho (by omega) (by rw [List.size_toArray,← hl]; exact h3) (by omega) (by rw [hk]; exact ⟨_,I',q⟩)
theorem ZIv (lo hi:Option Int) (n:Nat):(sliceBounds lo hi none n).1=((HT.sIx n 0 lo:Nat):Int)/\(sliceBounds lo hi none n).2.1=((HT.sIx n n hi:Nat):Int)/\(sliceBounds lo hi none n).2.2=1:=by
 refine ⟨?_,?_,rfl⟩
 ·cases lo with
  | none=>simp [sliceBounds,HT.sIx]
  | some i =>
   simp only [sliceBounds,HT.sIx,Option.getD_none,show (1:Int) > 0 by decide,if_true]
   by_cases h:i < 0
   ·simp only [h,if_true] <;> omega
   ·simp only [h,if_false] <;> omega
 ·cases hi with
  | none=>simp [sliceBounds,HT.sIx]
  | some i =>
   simp only [sliceBounds,HT.sIx,Option.getD_none,show (1:Int) > 0 by decide,if_true]
   by_cases h:i < 0
   ·simp only [h,if_true] <;> omega
   ·simp only [h,if_false] <;> omega
theorem ZHI (its:List Value) (lo hi:Option Int):slicePick its.toArray lo hi none=((its.drop (HT.sIx its.length 0 lo)).take (HT.sIx its.length its.length hi - HT.sIx its.length 0 lo)).toArray:=by
 obtain ⟨h1,h2,h3⟩:=ZIv lo hi its.toArray.size
 unfold slicePick
 rw [h1,h2,h3]
 simp only [sliceRange_one,pick_run,List.size_toArray] <;> rfl
def rSlL (K:PySem.W.Frag):V->Option Int->Option Int->Hp->VK->Prop:=λ x lo hi H Q=>∃ a xs,x=.ref a/\SqL K H a xs/\∀ p,H p=none->Q (.ref p) (upd H p (.lst (ZIx xs lo hi)))
theorem ZLI:SlR X (rSlL X.K):=by
 intro pins s σ H x v vl vu lo hi sl Q I rx hs pl pu h
 obtain ⟨a,xs,rfl,hx,q⟩:=h
 cases rx
 obtain ⟨its,r,ht,hz⟩:=I.list hx
 have hlen:=r.length
 refine ⟨"list",_,slot_list_getitem.lookup,ht.isList.typeIs,?_⟩
 refine wpAny_getItem_list_slice ht.isList hs pl pu .none (by simp) ?_ (by rw [List.size_toArray] <;> omega)
 rw [ZHI,← hlen]
 refine ⟨.ref s.heap.objs.size,_,I.laid (t':=s.toks) (o:=.lst (ZIx xs lo hi)) (λ b ob q=>Heap.get?_push_of_some _ q) (Nat.le_refl _) ?_,rfl,q _ (I.hok.fresh (Nat.le_refl _))⟩
 exact ⟨Nat.le_trans (ZFi xs lo hi) hz,_,0,(r.drop (HT.sIx xs.length 0 lo)).take (HT.sIx xs.length xs.length hi - HT.sIx xs.length 0 lo),Heap.get?_push_size _ rfl⟩
def eqV:V->V->Bool
 | .non,.non=>true
 | .bl a,.bl b=>a == b
 | .bl a,.int b=>(if a then 1 else 0) == b
 | .int a,.bl b=>a == (if b then 1 else 0)
 | .int a,.int b=>a == b
 | .str a,.str b=>a == b
 | _,_=>false
def inV (x:V) (xs:List V):Bool:=xs.any λ y=>eqV y x
theorem ZIt:Z3 X (.builtin "len") (λ xs H Q=>∃ p ys,xs=[.ref p]/\(SqL X.K H p ys ∨ SqT X.K H p ys)/\Q (.int ys.length) H):=by
 intro pins s σ H xs us Q I r h
 obtain ⟨p,ys,rfl,hq,q⟩:=h
 obtain ⟨u,rfl,rx⟩:=ZC9 r
 cases rx
 have hn:=ZI0
 rcases hq with hq | hq
 ·obtain ⟨its,r',pl,hz⟩:=I.list hq
  have hlen:=r'.length
  exact Calls.call_len_list pl.isList (by simp only [List.size_toArray] <;> omega) ⟨.int ys.length,H,I.tok _,⟨s.toks+1,by rw [List.size_toArray,hlen]⟩,q⟩
 ·obtain ⟨its,r',pl,hz⟩:=I.tuple hq
  have hlen:=r'.length
  exact len_tuple pl (by simp only [List.size_toArray] <;> omega) ⟨.int ys.length,H,I.tok _,⟨s.toks+1,by rw [List.size_toArray,hlen]⟩,q⟩
theorem Z3.or {f:Value} {r r':List V->Hp->VK->Prop} (h:Z3 X f r) (h':Z3 X f r'):Z3 X f (λ xs H Q=>r xs H Q ∨ r' xs H Q):=by
 intro pins s σ H xs us Q I rs q
 rcases q with q | q
 ·exact h pins s σ H xs us Q I rs q
 ·exact h' pins s σ H xs us Q I rs q
theorem ZIM:Z3 X (.type "list") (λ xs H Q=>∃ p ys,xs=[.ref p]/\(SqL X.K H p ys ∨ SqT X.K H p ys)/\∀ l,H l=none->Q (.ref l) (upd H l (.lst ys))):=by
 intro pins s σ H xs us Q I r h
 obtain ⟨p,ys,rfl,hq,q⟩:=h
 obtain ⟨u,rfl,rx⟩:=ZC9 r
 cases rx
 have fin:∀ (its:List Value),Zs ys its->ys.length<=sizeLine->∀ (h':Heap) (c':Nat),(∀ b o',s.heap.get? b=some o'->h'.get? b=some o') ->
   h'.get? s.heap.objs.size=some { cls:=.type "list",dict:=none,data:=.seq its.toArray c',slots:=#[] }->EP X pins σ Q (.ref s.heap.objs.size) { s with heap:=h' }:=λ its r' hz h' c' kp e =>
  ⟨.ref s.heap.objs.size,_,I.laid (t':=s.toks) kp (Nat.le_refl _) (show ZBw X.prog X.w _ h' _ (.lst ys) from ⟨hz,its,c',r',e⟩),rfl,q _ (I.hok.fresh (Nat.le_refl _))⟩
 rcases hq with hq | hq
 ·obtain ⟨its,r',pl,hz⟩:=I.list hq
  have hlen:=r'.length
  obtain ⟨o,ho,hc,n,hd⟩:=pl.isList
  exact call_list_seq p (.inl rfl) ho hc hd (λ h' c' kp e=>fin its r' hz h' c' kp e) (by simp only [List.size_toArray] <;> omega)
 ·obtain ⟨its,r',pl,hz⟩:=I.tuple hq
  have hlen:=r'.length
  obtain ⟨o,ho,hc,n,hd⟩:=pl
  exact call_list_seq p (.inr rfl) ho hc hd (λ h' c' kp e=>fin its r' hz h' c' kp e) (by simp only [List.size_toArray] <;> omega)
theorem ZHS:Z3 X (.type "tuple") (λ xs H Q=>∃ p ys,xs=[.ref p]/\((SqL X.K H p ys/\∀ l,H l=none->Q (.ref l) (upd H l (.tup ys))) ∨ (SqT X.K H p ys/\Q (.ref p) H))):=by
 intro pins s σ H xs us Q I r h
 obtain ⟨p,ys,rfl,h⟩:=h
 obtain ⟨u,rfl,rx⟩:=ZC9 r
 cases rx
 rcases h with ⟨hq,q⟩ | ⟨hq,q⟩
 ·obtain ⟨its,r',pl,hz⟩:=I.list hq
  have hlen:=r'.length
  refine call_tuple_list pl.isList (λ h' kp=>?_) (by simp only [List.size_toArray] <;> omega)
  have I1:Inv X pins σ H { s with heap:=h' }:=I.kept (t':=s.toks) kp
  have I2:Inv X pins σ (upd H h'.objs.size (.tup ys)) { s with heap:=h'.push { cls:=.type "tuple",data:=.seq its.toArray } } :=
   I1.laid (t':=s.toks) (λ b o e=>Heap.get?_push_of_some _ e) (Nat.le_refl _) (show ZBw X.prog X.w _ _ _ (.tup ys) from ⟨hz,its,r',IsTup.new _ _⟩)
  exact ⟨.ref h'.objs.size,_,I2,rfl,q _ (I1.hok.fresh (Nat.le_refl _))⟩
 ·obtain ⟨its,r',pl,hz⟩:=I.tuple hq
  exact call_tuple_same pl ⟨.ref p,H,I,rfl,q⟩
def tyV (K:PySem.W.Frag) (T:String) (x:V) (H:Hp):Prop:=match x with
 | .str _=>T = "str"
 | .int _=>T = "int"
 | .ref p=>(T = "list"/\∃ xs,SqL K H p xs) ∨ (T = "tuple"/\∃ o,K.lookup p=some o/\o.cls=.type "tuple"/\o.dict=none) ∨
   (T = "dict"/\((∃ kvs,H p=some (.dK kvs)) ∨ ∃ kvs,H p=some (.dT kvs))) ∨ (T = "set"/\∃ S n,H p=some (.set S n))
 | _=>False
theorem ZQv {pins:List (Addr × Obj)} {σ : St} {H:Hp} {s:Shared} {T:String} {x:V} {v:Value} (I:Inv X pins σ H s) (r:ZAD x v) (ty:tyV X.K T x H) :
  s.TypeIs v T/\∀ a,v=.ref a->∃ ob,s.heap.get? a=some ob/\ob.dict=none:=by
 cases x with
 | str z =>
  obtain ⟨t,rfl⟩:=r
  cases (show T = "str" from ty)
  exact ⟨typeIs_str s z t,λ _ e=>nomatch e⟩
 | int i =>
  obtain ⟨t,rfl⟩:=r
  cases (show T = "int" from ty)
  exact ⟨typeIs_int s i t,λ _ e=>nomatch e⟩
 | ref p =>
  cases r
  rcases ty with ⟨rfl,xs,hq⟩ | ⟨rfl,o,hk,hc,hd⟩ | ⟨rfl,hk⟩ | ⟨rfl,S,n,hk⟩
  ·obtain ⟨its,_,pl,_⟩:=I.list hq
   refine ⟨pl.isList.typeIs,λ a e=>?_⟩
   cases e
   obtain ⟨o,n,e,c,hd,_⟩:=pl
   exact ⟨o,e,hd⟩
  ·refine ⟨⟨o,I.kIn p o hk,hc⟩,λ a e=>?_⟩
   cases e
   exact ⟨o,I.kIn _ o hk,hd⟩
  ·have z:∃ o,s.heap.get? p=some o/\o.ExactDict:=by
    rcases hk with ⟨kvs,hk⟩ | ⟨kvs,hk⟩
    ·obtain ⟨_,_,_,_,o,_,_,e,ex,_⟩:=I.hok p _ hk
     exact ⟨o,e,ex⟩
    ·obtain ⟨_,_,_,_,o,_,_,e,ex,_⟩:=I.hok p _ hk
     exact ⟨o,e,ex⟩
   obtain ⟨o,e,ex⟩:=z
   refine ⟨⟨o,e,ex.1⟩,λ a e2=>?_⟩
   cases e2
   exact ⟨o,e,ex.2.1⟩
  ·obtain ⟨o,_,_,_,e,ex,_⟩:=I.hok p _ hk
   refine ⟨⟨o,e,ex.1⟩,λ a e2=>?_⟩
   cases e2
   exact ⟨o,e,ex.2.1⟩
 | _=>exact False.elim ty
def tBM (K:PySem.W.Frag) (T:String) (r:V->List V->Hp->VK->Prop) (to:TE) (t:TA):TE:=λ σ H Q=>to σ H λ x H1=>tyV K T x H1/\t σ H1 λ xs H2=>r x xs H2 Q
variable {o e:Expr} {es:List Expr} {to:TE} {t:TA} {name:Str} {apos cpos:Pos} {T id:String} {r:V->List V->Hp->VK->Prop}
theorem pe_bm (pa:PlainAttrs T) (slot:Slot T name id) (hty:typeOf (.builtin id)=pure (.type "method_descriptor")) (hm:MtR X id r) (ho:PE X o to) (ha:PA X (e :: es) t)
  (hbase:attributeBase o name X.env (eval o X.env)=eval o X.env:=by rfl)
  (hfew:((backTo cpos (starEach (e :: es) X.env)).all (λ x=>!x.1) && (backToKw cpos (keywordEach [] X.env)).all (λ x=>x.1.isSome)
   && decide ((e :: es).length+([]:List Keyword).length+(if ([]:List Keyword).isEmpty then 0 else 1) < 30))=true:=by rfl)
  (hline:(apos.endLine == cpos.line)=true:=by rfl) (hs:starEach (e :: es) X.env=(false,eval e X.env) :: starEach es X.env:=by rfl) (hplain:(backTo cpos (starEach es X.env)).any (·.1)=false:=by rfl) :
  PE X (.Call (.Attribute o name apos) (e :: es) [] cpos) (tBM X.K T r to t):=by
 intro pins s σ H Q I h
 refine wpAny_Call_method_late hbase hfew hline rfl (thn (ho pins s σ H _ I h) λ v s1 ⟨x,H1,I1,r1,ty,q1⟩=>?_)
 obtain ⟨h1,h2⟩:=ZQv I1 r1 ty
 refine ⟨T,id,pa,slot,hty,h1,h2,?_⟩
 have hA:=ha cpos pins s1 σ H1 _ I1 q1
 rw [hs] at hA ⊢
 refine Calls.callWith_builtin (by show (false || (backTo cpos (starEach es X.env)).any (·.1))=false; rw [hplain] <;> rfl) (Calls.evalArgs_plain ?_)
 exact thn hA λ us s2 ⟨vs,H2,I2,r2,q2⟩=>hm pins s2 σ H2 x vs v us Q I2 r1 r2 q2
end
end L2
namespace L2
open PySem PySem.Spec PyProof.Rows
def MtM (X:Cx) (id:String) (r:V->List V->Hp->VK->Prop):Prop :=
 ∀ (pins:List (Addr × Obj)) (s:Shared) (σ : St) (H:Hp) (x:V) (xs:List V) (v:Value) (us:List Value) (Q:VK),Inv X pins σ H s->ZAD x v->Zs xs us->r x xs H Q ->
  wpAny (model X.prog X.w) X.A (call (.builtin id) (v :: us)) (EP X pins σ Q) X.xe s
theorem Zs.one:∀ {x:V} {us:List Value},Zs [x] us->∃ u,us=[u]/\ZAD x u
 | _,_,.cons r .nil=>⟨_,rfl,r⟩
theorem Zs.rep {xs:List V} {us:List Value} (h:Zs xs us):∀ k:Nat,Zs (List.replicate k xs).flatten (List.replicate k us).flatten
 | 0=>.nil
 | k+1=>by
  rw [List.replicate_succ,List.replicate_succ,List.flatten_cons,List.flatten_cons]
  exact Zs.append h (Zs.rep h k)
theorem ZFc (its:List Value):∀ (k:Nat) (acc:List Value),
  List.foldl (λ x1 x2=>x1 ++ x2) acc.toArray (List.replicate k its.toArray)=(acc ++ (List.replicate k its).flatten).toArray
 | 0,acc=>by simp
 | k+1,acc=>by
  have e:acc.toArray ++ its.toArray=(acc ++ its).toArray:=by simp
  have e2:(acc ++ its) ++ (List.replicate k its).flatten=acc ++ (List.replicate (k+1) its).flatten:=by
   rw [List.replicate_succ,List.flatten_cons,List.append_assoc]
  rw [← e2,← ZFc its k (acc ++ its),← e,List.replicate_succ,List.foldl_cons]
section
variable {X:Cx} {pins:List (Addr × Obj)} {σ : St} {H:Hp} {s:Shared} {l b:Addr} {xs ys zs:List V}
theorem Inv.lset {its its':List Value} {n:Nat} {f:Array Value->Array Value} {t':Nat} (I:Inv X pins σ H s) (hH:H l=some (.lst xs))
  (e:s.heap.get? l=some { cls:=.type "list",data:=.seq its.toArray n }) (hf:f its.toArray=its'.toArray) (hv:Zs ys its') (hz:ys.length<=sizeLine) :
  Inv X pins σ (upd H l (.lst ys)) { s with heap:=s.heap.update l (Obj.mapSeq f),toks:=t' }:=by
 have q:=PySem.IsL.update e f
 rw [hf] at q
 refine I.write (x:=l) (e:=l) (by rw [hH]; exact trivial) (.inl rfl) (λ b' u hb hu=>(Heap.get?_update_other s.heap (Obj.mapSeq f) (Ne.symm hb)).trans hu) ⟨_,q⟩ ?_
 exact ⟨hz,its',_,hv,q⟩
theorem Inv.lnew {its:List Value} {t':Nat} (I:Inv X pins σ H s) (hv:Zs ys its) (hz:ys.length<=sizeLine) :
  Inv X pins σ (upd H s.heap.objs.size (.lst ys)) { s with heap:=s.heap.push { cls:=.type "list",data:=.seq its.toArray },toks:=t' } :=
 I.laid (λ _ _ q=>Heap.get?_push_of_some _ q) (Nat.le_refl _) ⟨hz,its,0,hv,Heap.get?_push_size _ rfl⟩
theorem Inv.fresh (I:Inv X pins σ H s):H s.heap.objs.size=none:=I.hok.fresh (Nat.le_refl _)
theorem Inv.lstM (I:Inv X pins σ H s) (hH:H l=some (.lst xs)):xs.length<=sizeLine/\∃ (its:List Value) (n:Nat),Zs xs its/\xs.length=its.length/\s.heap.get? l=some { cls:=.type "list",data:=.seq its.toArray n }:=by
 obtain ⟨z,its,n,r,e⟩:=I.hok l _ hH
 exact ⟨z,its,n,r,r.length,e⟩
theorem ZJI {n:Nat} (h:n<=sizeLine):Builtin.List.listTooLong n=false:=by
 unfold Builtin.List.listTooLong
 exact decide_eq_false (by omega)
end
section
variable {X:Cx}
def ZOG:V->List V->Hp->VK->Prop:=λ x vs H Q=>∃ l xs y,x=.ref l/\vs=[y]/\H l=some (.lst xs)/\xs.length < sizeLine/\Q .non (upd H l (.lst (xs ++ [y])))
theorem ZHk:MtM X "list.append" ZOG:=by
 intro pins s σ H x vs v us Q I rx rv h
 obtain ⟨l,xs,y,rfl,rfl,hH,hz,q⟩:=h
 cases rx
 obtain ⟨u,rfl,ru⟩:=rv.one
 obtain ⟨z,its,n,r,hl,e⟩:=I.lstM hH
 refine call_meets F.slot_list_append ⟨_,e,rfl⟩ F.entry_list_append (F.args_list_append_2 _ _) (PySem.list_append l its.toArray n u (by rw [List.size_toArray]; omega)) ⟨e,?_⟩
 refine ⟨.non,_,I.lset (its':=its ++ [u]) hH e (by simp) (r.append (.cons ru .nil)) ?_,rfl,q⟩
 rw [List.length_append,List.length_singleton]
 omega
def rCat:R2:=λ x y H Q=>∃ l b xs zs,x=.ref l/\y=.ref b/\H l=some (.lst xs)/\H b=some (.lst zs)/\xs.length+zs.length<=sizeLine/\∀ p,H p=none->Q (.ref p) (upd H p (.lst (xs ++ zs)))
theorem ZQN:OpR X (binaryOp .Add) rCat:=by
 intro pins s σ H x y v u Q I rx ry h
 obtain ⟨l,b,xs,zs,rfl,rfl,hH,hB,hz,q⟩:=h
 cases rx
 cases ry
 obtain ⟨z,its,n,r,hl,e⟩:=I.lstM hH
 obtain ⟨z2,its2,n2,r2,hl2,e2⟩:=I.lstM hB
 refine PySem.P.add_list e e2 ?_ (by rw [List.size_toArray,List.size_toArray]; omega)
 have ea:its.toArray ++ its2.toArray=(its ++ its2).toArray:=by simp
 rw [ea]
 exact ⟨.ref _,_,I.lnew (t':=s.toks) (r.append r2) (by rw [List.length_append]; omega),rfl,q _ I.fresh⟩
def rRep:R2:=λ x y H Q=>∃ l k xs,x=.ref l/\y=.int k/\H l=some (.lst xs)/\-(2 ^ 63)<=k/\k < 2 ^ 63/\xs.length * k.toNat<=sizeLine /\
 ∀ p,H p=none->Q (.ref p) (upd H p (.lst (List.replicate k.toNat xs).flatten))
theorem ZK3 {α : Type} (xs:List α) (k:Nat):(List.replicate k xs).flatten.length=k * xs.length:=by
 induction k with
 | zero=>simp
 | succ k ih=>rw [List.replicate_succ,List.flatten_cons,List.length_append,ih,Nat.succ_mul,Nat.add_comm]
theorem ZR4:OpR X (binaryOp .Mult) rRep:=by
 intro pins s σ H x y v u Q I rx ry h
 obtain ⟨l,k,xs,rfl,rfl,hH,h1,h2,hz,q⟩:=h
 cases rx
 obtain ⟨t,rfl⟩:=ry
 obtain ⟨z,its,n,r,hl,e⟩:=I.lstM hH
 have hlen:its.toArray.size * k.toNat<=sizeLine:=by rw [List.size_toArray,← hl]; exact hz
 have hcap : ¬ its.toArray.size * k.toNat > (2 ^ 63 - 1) / 8:=by
  have:(sizeLine:Nat)<=(2 ^ 63 - 1) / 8:=by decide
  omega
 have hfit : ¬ (!Builtin.List.listFitsIndex k)=true:=by
  rw [fitsIndex_both h1 h2]
  exact Bool.false_ne_true
 have hlong : ¬ Builtin.List.listTooLong (its.toArray.size * k.toNat)=true:=by
  rw [ZJI hlen]
  exact Bool.false_ne_true
 have hnew:List.foldl (λ x1 x2=>x1 ++ x2) #[] (List.replicate (if its.toArray.isEmpty=true then 0 else k.toNat) its.toArray)=(List.replicate k.toNat its).flatten.toArray:=by
  have f0:∀ m:Nat,List.foldl (λ x1 x2=>x1 ++ x2) #[] (List.replicate m its.toArray)=(List.replicate m its).flatten.toArray:=λ m=>by
   have:=ZFc its m []
   rw [List.nil_append] at this
   exact this
  rw [f0]
  cases its with
  | nil=>simp
  | cons a r'=>rw [if_neg (by simp)]
 refine wpAny_binaryOp_repeat_ref (T:="list") (U:="int") (by decide) ⟨_,e,rfl⟩ (λ s'=>typeIs_int s' k t) noFill_list_mul F.fills_int_mul F.slot_int_rmul repeat_list F.slot_int_index.lookup
  (call_meets F.slot_int_rmul (typeIs_int s k t) F.entry_int_rmul (F.args_int_rmul_2 _ _) (int___rmul___int_list k t l its.toArray n)
   ⟨e,rfl,⟨_,e,rfl⟩,call_meets F.slot_list_mul ⟨_,e,rfl⟩ F.entry_list_mul (F.args_list_mul_2 _ _) (AutoListH.list___mul___list_int_3 l its.toArray n k t hfit hcap hlong) ⟨e,?_⟩⟩)
 rw [hnew]
 exact ⟨.ref _,_,I.lnew (t':=s.toks) (r.rep k.toNat) (by rw [ZK3,Nat.mul_comm]; exact hz),rfl,q _ I.fresh⟩
end
section
variable {prog:Program} {w:World} {A:Around} {E:Value->Shared->Prop} {s:Shared}
end
section
variable {X:Cx}
end
end L2
namespace Att
open PySem PySem.W PySem.Calls PyProof.Rows
theorem ZF2 {P:Params} {h:Heap}:∀ (ns:List Int) (vs:List Value),WellAll P h vs (ns.map WData.int)->IntsAre vs ns:=by
 intro ns
 induction ns with
 | nil =>
  intro vs w
  rw [List.map_nil] at w
  cases w
  exact .nil
 | cons n ns ih =>
  intro vs w
  rw [List.map_cons] at w
  cases w with
  | cons a b =>
   cases a
   exact .cons _ _ (ih _ b)
theorem ZL7 {l:OpenLaw} {n:Nat} (hn:l.most=some n) {P:Params} {h:Heap} {args:List WData} {vals:List Value}
  (hpre:l.row.toRowW.claim.pre args=true) (hwl:WellAll P h vals args) :
  ∃ a vs ns,vals=[Value.ref a]/\args=[WData.list (ns.map WData.int)]/\h.get? a=some { cls:=.type "list",data:=.seq vs.toArray }/\IntsAre vs ns/\ns.length<=n:=by
 have hsh:WShape.hasAll [] args [.list .int]=true:=(pre_splitW hpre).1
 have hc:l.pre.holds [] { args:=args }=true:=(pre_splitW hpre).2
 obtain ⟨d,r,rfl,h1,h2⟩:=hasAllW_cons hsh
 obtain rfl:=hasAllW_nil h2
 obtain ⟨xs,rfl,h3⟩:=hasW_list h1
 obtain ⟨ns,rfl⟩:=items_int h3
 have hlen:ns.length<=n:=by
  unfold OpenLaw.pre at hc
  have h4:(WTm.not (.lt (.lit (.int (n:Int))) (.len (.arg 0)))).holds [] { args:=[.list (ns.map .int)] }=true:=by
   have h4:=(holds_andW hc).1
   rw [hn] at h4
   exact h4
  have h5:=condW_of h4 (w_not (w_lt w_lit (w_len_list (w_arg rfl))))
  rw [List.length_map] at h5
  refine Nat.le_of_not_lt λ q=>?_
  have q':(n:Int) < ((ns.length:Nat):Int):=by omega
  first
   | (rw [decide_eq_true q'] at h5; exact absurd h5 (by decide))
   | (simp at h5; omega)
 cases hwl with
 | cons w1 w2 =>
  cases w2
  cases w1 with
  | list ho hall=>exact ⟨_,_,ns,rfl,rfl,ho,ZF2 ns _ hall,hlen⟩
theorem ZLr (l:OpenLaw) (args:List WData):l.row.toRowW.claim.post args (.bool true) args=true :=
 postW_of (r:=l.row.toRowW) (X:=(true == true))
  (show WShape.has [] (.bool true) .bool=true by first | rfl | decide | simp [WShape.has,WShape.arms,WShape.armsAll])
  (show (WTm.eq .res (.lit (.bool true))).value [] { args:=args,res:=some (.bool true),after:=args }=some (.bool (true == true)) from w_eq_bool (w_res rfl) w_lit) rfl
theorem attach_call {l:OpenLaw} {n:Nat} {q:Program} {loose:List Str} {XP:(Str->Option Value)->Heap->Prop} {YP:World->Heap->Prop} {d:DefRec}
  (hn:l.most=some n) (hdf:d.params.defaults=[])
  (call:∀ (w:World) (s₀ s₁ : Shared) (mg mb:Str->Option Value) (fa:Addr) (o:Obj) (pm cd doc:Value) (a:Addr) (vs:List Value) (ns:List Int),
   Ground q loose [] XP w s₀ mg mb s₁.heap->YP w s₁.heap ->
   s₁.heap.get? fa=some o->o.data=.func (docDef d.name d.params d.body d.scope pm cd doc)->s₁.heap.CodeRec cd d.name->mg d.name=some (.ref fa) ->
   s₁.heap.get? a=some { cls:=.type "list",data:=.seq vs.toArray }->IntsAre vs ns->ns.length<=n->s₁.gens = #[] ->
   codeAny (model l.prog w) callerA (.call (.ref fa) ⟨[.ref a],[]⟩) (λ r s'=>r=.ok (.ret (.bool true))/\OldK s₁.heap s'.heap/\s'.os=s₁.os/\AllBare s'.gens) s₁) :
  WalkO q loose XP YP l.row.toRowW d [] (λ f vs=>PySem.call f vs):=by
 intro w s₀ s₁ mg mb G Y fa o pm cd doc dV kV ho hd hcd hD hmg hg args vals as hpre hlay hrd hwl hlo
 obtain rfl:dV=.none:=Dflts.none hD hdf
 obtain rfl:kV=.none:=Dflts.noKw hD
 obtain ⟨a,vs,ns,rfl,rfl,hobj,hints,hlen⟩:=ZL7 hn hpre hwl
 refine enter_call (codeAny_mono (call w s₀ s₁ mg mb fa o pm cd doc a vs ns G Y ho (fd_plain hd) hcd hmg hobj hints hlen hg) λ r s' hq=>?_)
 obtain ⟨rfl,h2,h3,h4⟩:=hq
 exact ⟨.inl ⟨.bool true,.bool true,[],rfl,λ _=>rfl,.bool true,ZLr l _,λ _=>⟨List.Pairwise.nil,λ _ hm=>(nomatch hm)⟩⟩,h2,h3,h4⟩
section
variable {prog:Program} {w:World} {A:Around} {E:Value->Shared->Prop} {s:Shared} {K:Frag}
end
end Att
namespace L2
open PySem PySem.Spec PyProof.Rows
theorem ZH0:∀ {vs:List Value} {ns:List Int},IntsAre vs ns->Zs (ns.map V.int) vs
 | _,_,.nil=>.nil
 | _,_,.cons n t h=>.cons ⟨t,rfl⟩ (ZH0 h)
def ZRf (H:Hp):Prop:=∀ b,H b=none ∨ ∃ o xs,H b=some (.frz o (.lst xs))
theorem ZM3 {P:Program} {w:World} {K:PySem.W.Frag} {mg mb:Str->Option Value} {CX:CXT} {k:Nat} {fa a:Addr} {fd:FuncData} {x:Str} {sp:Sp} {s₁ : Shared} {vs:List Value} {ns:List Int}
  (KX:K.In s₁.heap) (hns:s₁.heap.Ns mainGlobals mg) (hb:s₁.heap.Ns builtinsNs mb) (hbb:∀ x:Str,x ≠ "__name__"->mb x=bootBuiltins x) (hlim:s₁.heap.NoLimit) (hg:s₁.gens = #[])
  (ha:s₁.heap.get? a=some { cls:=.type "list",data:=.seq vs.toArray }) (hi:IntsAre vs ns) (hl:ns.length<=sizeLine) (hr:Room k callerA)
  (F:∀ base:Heap,K.In base->base.Ns mainGlobals mg->FnOk P w K mg base CX k fa fd [x] sp) (hbind:∀ (s:Shared) (u:Value),BindsTo s fd ⟨[u],[]⟩ [(x,u)])
  (hsp:∀ H:Hp,ZRf H->SqL K H a (ns.map V.int)->sp [.ref a] H (λ v _=>v=.bl true) λ _ _ _=>False)
  (hCX:∀ H e s',CX [] H s₁ (λ _ _ _=>False) e s'->False) :
  codeAny (model P w) callerA (.call (.ref fa) ⟨[.ref a],[]⟩) (λ r s'=>r=.ok (.ret (.bool true))/\OldK s₁.heap s'.heap/\s'.os=s₁.os/\AllBare s'.gens) s₁:=by
 have rv:=ZH0 hi
 have lenV:=hi.length
 -- from an abstract heap in which nothing but the script may be tracked
 have core:∀ H:Hp,ZRf H->SqL K H a (ns.map V.int)->HOk P w H s₁.heap->(∀ b,H b ≠ none->b=a)->(H a ≠ none->K.lookup a=none) ->
   codeAny (model P w) callerA (.call (.ref fa) ⟨[.ref a],[]⟩) (λ r s'=>r=.ok (.ret (.bool true))/\OldK s₁.heap s'.heap/\s'.os=s₁.os/\AllBare s'.gens) s₁:=by
  intro H hO hS hok hA hK
  have base_of:∀ {b:Addr} {o:Obj},s₁.heap.get? b=some o->H b=none->(ZIY s₁.heap H).get? b=some o:=λ e n=>ZNu e n
  have noA:∀ {b:Addr} {o:Obj} {es:Array DictEntry} {ep:Nat},s₁.heap.get? b=some o->o.data=.dict es ep->H b=none:=λ {b o es ep} e d=>by
   cases q:H b with
   | none=>rfl
   | some u =>
    have e':b=a:=hA b (by rw [q]; simp)
    subst e'
    rw [ha] at e; cases e
    have d':Data.seq vs.toArray _=Data.dict es ep:=d
    cases d'
  have nsK:∀ {b:Addr} {m:Str->Option Value},s₁.heap.Ns b m->(ZIY s₁.heap H).Ns b m:=λ {b m} ⟨o,es,ep,e,d,r⟩=>⟨o,es,ep,base_of e (noA e d),d,r⟩
  have hKb:K.In (ZIY s₁.heap H):=λ b o e=>base_of (KX b o e) (by
   cases q:H b with
   | none=>rfl
   | some u =>
    have e':b=a:=hA b (by rw [q]; simp)
    subst e'
    rw [hK (by rw [q]; simp)] at e; cases e)
  have hM:Mod K mg (ZIY s₁.heap H):=⟨hKb,nsK hns,⟨mb,nsK hb,hbb⟩,let ⟨mc,h1,h2⟩:=hlim; ⟨mc,nsK h1,h2⟩⟩
  have e0:Env0 P w K mg (ZIY s₁.heap H) callerA [] s₁ H:=⟨rfl,hM,λ b o e=>ZPM e,Nat.le_of_eq (ZLk _ _),trivial,λ b hb=>absurd (show b ∈ ([]:List Addr) from hb) (by simp),hok,.of_eq hg⟩
  refine codeAny_mono ((F _ hKb (nsK hns)).run callerA [] s₁ H ⟨[.ref a],[]⟩ [.ref a] [.ref a] _ _ hr e0 (hbind s₁ (.ref a)) (.cons rfl .nil) (hsp H hO hS)) λ r s' h=>?_
  cases r with
  | error e=>exact (hCX H e s' h).elim
  | ok fl =>
   cases fl with
   | next=>exact False.elim h
   | brk=>exact False.elim h
   | cont=>exact False.elim h
   | ret u =>
    obtain ⟨v,H',os,bare,un,hok',r',q⟩:=h
    have q':v=.bl true:=q
    subst q'
    obtain rfl:u=Value.bool true:=r'
    refine ⟨rfl,OldK.of_keep λ b o e=>?_,os,bare⟩
    cases q:H b with
    | none=>exact un.keep b o e q (by intro z; exact absurd (show b ∈ ([]:List Addr) from z) (by simp)) (by simp)
    | some u =>
     rcases hO b with z | ⟨ob,xs,z⟩
     ·rw [q] at z; cases z
     ·have z2:=un.frzs b ob _ z
      obtain ⟨e1,_⟩:=hok b _ z
      obtain ⟨e2,_⟩:=hok' b _ z2
      rw [e] at e1; cases e1
      exact e2
 cases hk:K.lookup a with
 | some o =>
  -- the script is one of the module's own objects
  have e:=KX a o hk
  rw [ha] at e
  cases e
  refine core (λ _=>none) (λ _=>.inl rfl) (.inr ⟨_,vs.toArray,_,hk,rfl,rfl,rfl,by rw [List.size_toArray,lenV]; exact hl,by simpa using rv⟩) (λ b u z=>by have z':(none:Option HO)=some u:=z; cases z') (λ b z=>absurd rfl z) λ z=>absurd rfl z
 | none =>
  refine core (λ b=>if b=a then some (.frz { cls:=.type "list",data:=.seq vs.toArray } (.lst (ns.map V.int))) else none) (λ b=>?_) (.inl (.inr ⟨{ cls:=.type "list",data:=.seq vs.toArray },if_pos rfl⟩)) (λ b u z=>?_) (λ b z=>?_) λ _=>hk
  ·by_cases hb:b=a
   ·exact .inr ⟨_,_,if_pos hb⟩
   ·exact .inl (if_neg hb)
  ·by_cases hb:b=a
   ·have z':=(if_pos hb).symm.trans z
    cases z'
    subst hb
    exact ⟨ha,by rw [List.length_map]; exact hl,vs,_,rv,ha⟩
   ·have z':=(if_neg hb).symm.trans z
    cases z'
  ·by_cases hb:b=a
   ·exact hb
   ·exact absurd (if_neg hb) z
end L2
namespace L2
open PySem PySem.Spec PyProof.Rows
theorem walk_of {l:PySem.W.OpenLaw} {n k:Nat} {q:Program} {loose:List Str} {XP:(Str->Option Value)->Heap->Prop} {YP:World->Heap->Prop} {d:DefRec} {K:Params->PySem.W.Frag} {CX:World->CXT} {sp:World->Sp} {x:Str}
  (hn:l.most=some n) (hn2:n<=sizeLine) (hdf:d.params.defaults=[]) (hr:Room k callerA)
  (hY:∀ (w:World) (h:Heap),YP w h->(K w.params).In h)
  (F:∀ (w:World) (mg:Str->Option Value) (fa:Addr) (h:Heap),(K w.params).In h->h.Ns mainGlobals mg->mg d.name=some (.ref fa) ->
   ∃ fd:FuncData,(∀ (s:Shared) (u:Value),BindsTo s fd ⟨[u],[]⟩ [(x,u)]) /\
    ∀ base:Heap,(K w.params).In base->base.Ns mainGlobals mg->FnOk l.prog w (K w.params) mg base (CX w) k fa fd [x] (sp w))
  (hsp:∀ (w:World) (H:Hp) (a:Addr) (ns:List Int),ns.length<=n->ZRf H->SqL (K w.params) H a (ns.map V.int)->sp w [.ref a] H (λ v _=>v=.bl true) λ _ _ _=>False)
  (hCX:∀ (w:World) (H:Hp) (s:Shared) (e:Value) (s':Shared),CX w [] H s (λ _ _ _=>False) e s'->False) :
  PySem.W.WalkO q loose XP YP l.row.toRowW d [] (λ f vs=>PySem.call f vs):=by
 refine Att.attach_call hn hdf λ w s₀ s₁ mg mb fa o pm cd doc a vs ns G Y ho hd hcd hmg hobj hints hlen hg=>?_
 have KX:=hY w _ Y
 obtain ⟨fd,hb,hF⟩:=F w mg fa _ KX G.T.g hmg
 exact ZM3 KX G.T.g G.T.b G.T.builtins G.T.nolimit hg hobj hints (Nat.le_trans hlen hn2) hr hF hb (λ H hO hS=>hsp w H a ns hlen hO hS) λ H e s'=>hCX w H s₁ e s'
end L2
namespace L2
open PySem PySem.Spec PyProof.Rows
def ZCu (s:Stmt) (j:Nat):Stmt:=match s with
 | .ClassDef _ _ _ body _ _ _ _ _ _ _=>body.getD j (.Pass ⟨0,0,0,0⟩)
 | _=>.Pass ⟨0,0,0,0⟩
def ZDX (s:Stmt):Arguments:=match s with
 | .FunctionDef _ a _ _ _ _ _ _ _ _=>a
 | _=>{ posonlyargs:=[],args:=[],vararg:=none,kwonlyargs:=[],kw_defaults:=[],kwarg:=none,defaults:=[] }
def ZB6 (s:Stmt):List Stmt:=match s with
 | .FunctionDef _ _ b _ _ _ _ _ _ _=>b
 | _=>[]
def ZM (s:Stmt):Scope:=match s with
 | .FunctionDef _ _ _ _ _ _ sc _ _ _=>sc
 | _=>{ kind:=.function,names:=[],isGenerator:=false,isCoroutine:=false }
abbrev CX0:CXT:=λ _ _ _ _ _ _=>False
abbrev E0:XK:=λ _ _ _=>False
theorem ZMh {X:Cx}:ZFW CX0 X E0:=λ _ _ _ _ _ _ _ h=>h.elim
structure Fun (K:PySem.W.Frag) (x qual:Str) (st:Stmt) (f:Addr) (fd:FuncData):Prop where
 ex:∃ (oc:Value) (od:Option Addr) (kV doc pm:Value) (an:Option Addr) (cdv ct:Value) (osl:Array (Option Value)),
  fd=PySem.W.fnOf x qual (ZDX st) (ZB6 st) (ZM st) .none kV doc pm an cdv ct/\K.lookup f=some ⟨oc,od,.func fd,osl⟩/\PySem.W.codeIn K cdv qual=true
 kp:PySem.W.keepIn K (.ref f)=true
section
variable {P:Program} {w:World} {K:PySem.W.Frag} {mg:Str->Option Value} {base:Heap}
theorem Fun.ok {x qual:Str} {st:Stmt} {f:Addr} {fd:FuncData} {N ps:List Str} {k:Nat} {sp:Sp} (F:Fun K x qual st f fd) (S:FnScope N ps (ZM st)) (len:∀ vs H Q E,sp vs H Q E->vs.length=ps.length)
  (hbody:∀ (cdv:Value) (A:Around) (outer:List Env) (s:Shared) (H:Hp) (vs:List V) (Q:VK) (E:XK),Room k (A.deeper (envOfC qual (ZM st) s.heap.objs.size f cdv))->sp vs H Q E ->
   ∃ t,PSs (ZJl CX0 P w K mg base N qual (ZM st) f cdv A outer s H E).nox (ZB6 st) t/\t { nx:=λ _ H'=>Q .non H',rt:=Q } (ZEp N vs) H):FnOk P w K mg base CX0 (k+1) f fd ps sp:=by
 obtain ⟨oc,od,kV,doc,pm,an,cdv,ct,osl,rfl,lk,hcd⟩:=F.ex
 refine fn_of lk hcd S len λ A outer s H vs Q E hr hsp=>?_
 obtain ⟨t,h,q⟩:=hbody cdv A outer s H vs Q E hr hsp
 exact ⟨t,h.nox,q⟩
theorem Fun.binds {x qual:Str} {st:Stmt} {f:Addr} {fd:FuncData} {ps:List Str} (F:Fun K x qual st f fd)
  (h:∀ (kV doc pm:Value) (an:Option Addr) (cdv ct:Value) (us:List Value),us.length=ps.length->bindArgs (PySem.W.fnOf x qual (ZDX st) (ZB6 st) (ZM st) .none kV doc pm an cdv ct) ⟨us,[]⟩=pure (ps.zip us)):ZEL K fd ps []:=by
 obtain ⟨oc,od,kV,doc,pm,an,cdv,ct,osl,rfl,lk,hcd⟩:=F.ex
 exact .all (h kV doc pm an cdv ct)
theorem ZNG {x qual:Str} {st:Stmt} {f:Addr} {oc:Value} {od an:Option Addr} {osl:Array (Option Value)} {kV doc pm cdv ct:Value} (l:K.lookup f=some ⟨oc,od,.func (PySem.W.fnOf x qual (ZDX st) (ZB6 st) (ZM st) .none kV doc pm an cdv ct),osl⟩)
  (c:PySem.W.codeIn K cdv qual=true) (k:PySem.W.keepIn K (.ref f)=true):Fun K x qual st f (PySem.W.fnOf x qual (ZDX st) (ZB6 st) (ZM st) .none kV doc pm an cdv ct):=⟨⟨oc,od,kV,doc,pm,an,cdv,ct,osl,rfl,l,c⟩,k⟩
end
theorem ZAC {n:Nat} (h:n<=1000):n < sizeLine:=Nat.lt_of_le_of_lt h (by decide)
section
variable {X:Cx}
end
theorem iteF {A B:Prop} (h:B):if false=true then A else B:=by
 rw [if_neg Bool.false_ne_true]
 exact h
theorem iteT {A B:Prop} (h:A):if true=true then A else B:=by
 rw [if_pos rfl]
 exact h
def Same (H H':Hp):Prop:=∀ b o,H b=some o->H' b=some o
theorem Same.refl (H:Hp):Same H H:=λ _ _ h=>h
end L2
namespace HT
open PySem PyProof.Rows
def lexGt:List Int->List Int->Bool
 | [],[]=>false
 | [],_ :: _=>false
 | _ :: _,[]=>true
 | x :: xs,y :: ys=>if x=y then lexGt xs ys else decide (y < x)
theorem ZKt (x y:Int) (xs ys:List Int):lexGt (x :: xs) (y :: ys)=if x=y then lexGt xs ys else decide (y < x):=rfl
theorem ZHP:lexGt [] []=false:=rfl
theorem ZGo (y:Int) (ys:List Int):lexGt [] (y :: ys)=false:=rfl
theorem ZGw (x:Int) (xs:List Int):lexGt (x :: xs) []=true:=rfl
theorem ZNr (A:Around) (s:Shared) (a:Int) (t:Tok) (c:Int) (u:Tok) (prog:Program) (w:World) (E:Value->Shared->Prop) (Q:Value->Shared->Prop) (h:Q (.bool (decide (c < a))) s) :
  wpAny (model prog w) A (richCompare .Gt (.int a t) (.int c u)) Q E s :=
 (PyProof.Rows.gt_int h:wpAny (model prog w) A (compareOp .Gt (.int a t) (.int c u)) Q E s)
section
open PySem.SeqAt
open PySem.AutoSeq1 (wpAny_loadPart')
open PySem.MeetsSeq PySem.MeetsSeq2 PySem.MeetsSeq3
theorem ZG9 (l b:Addr) (items items2:Array Value) (n n2:Nat) (dd dd2:Option Addr) (sl sl2:Array (Option Value)) (ns ms:List Int) (hi:IntsAre items.toList ns) (hj:IntsAre items2.toList ms) :
  Meets (Builtin.«tuple.__gt__» ⟨[.ref l,.ref b],[]⟩)
   (λ _ R s=>s.heap.get? l=some { cls:=.type "tuple",dict:=dd,data:=.seq items n,slots:=sl }/\s.heap.get? b=some { cls:=.type "tuple",dict:=dd2,data:=.seq items2 n2,slots:=sl2 } /\
    R (.ok (.ret (.bool (lexGt ns ms)))) s) :=
 .of_wp λ prog w A R s h=>by
  obtain ⟨hp,g,d,tk,os⟩:=s; obtain ⟨hl,hb,h⟩:=h
  have f2:=AutoSeq1.sub_tuple_tuple
  have z1:items.size=ns.length:=by rw [← hi.length]; simp
  have z2:items2.size=ms.length:=by rw [← hj.length]; simp
  wp_walk using wpAny_loadPart' hl,wpAny_loadPart' hb,wpAny_forIn_list _ (λ rest b s'=>b.1=none/\s'=⟨hp,g,d,tk,os⟩/\∃ (vs ws:List Value) (ns' ms':List Int),rest=vs.zip ws /\
   IntsAre vs ns'/\IntsAre ws ms'/\ns'.length+items2.size=ms'.length+items.size/\R (.ok (.ret (.bool (lexGt ns' ms')))) ⟨hp,g,d,tk,os⟩) _
  case turn =>
   rintro ⟨y,x⟩ rest b s' ⟨hb',rfl,vs,ws,ns',ms',hz,hvi,hwi,hlen,hR⟩
   cases hvi with
   | nil=>rw [List.zip_nil_left] at hz; cases hz
   | cons a t hvi' =>
    cases hwi with
    | nil=>rw [List.zip_nil_right] at hz; cases hz
    | cons c u hwi' =>
     rw [List.zip_cons_cons] at hz
     injection hz with hyx hrest
     injection hyx with hy hx
     subst hy hx
     rw [ZKt] at hR
     simp only [List.length_cons] at hlen
     obtain ⟨e,he,hiff⟩:=ZGH A.in1 ⟨hp,g,d,tk,os⟩ a t c u
     refine wpAny_bind (he prog w _ _ ?_)
     cases e with
     | true =>
      rw [if_pos (hiff.mp rfl)] at hR
      wp_walk
      exact ⟨rfl,rfl,_,_,_,_,hrest,hvi',hwi',by omega,hR⟩
     | false =>
      rw [if_neg (λ q=>absurd (hiff.mpr q) Bool.false_ne_true)] at hR
      have hri:=ZNr A.in1 ⟨hp,g,d,tk,os⟩ a t c u prog w
      wp_walk using hri
      exact ⟨_,rfl,by simpa using hR⟩
  case fin =>
   rintro ⟨b1,b2⟩ s' ⟨hb',rfl,vs,ws,ns',ms',hz,hvi,hwi,hlen,hR⟩
   simp only at hb'
   subst hb'
   have hv:lexGt ns' ms'=decide (items.size > items2.size):=by
    cases hvi with
    | nil =>
     cases hwi with
     | nil =>
      simp only [List.length_nil] at hlen
      rw [ZHP]
      exact (decide_eq_false (by omega)).symm
     | cons c u hw =>
      simp only [List.length_nil,List.length_cons] at hlen
      rw [ZGo]
      exact (decide_eq_false (by omega)).symm
    | cons a t hv =>
     cases hwi with
     | nil =>
      simp only [List.length_nil,List.length_cons] at hlen
      rw [ZGw]
      exact (decide_eq_true (by omega)).symm
     | cons c u hw =>
      rw [List.zip_cons_cons] at hz
      cases hz
   rw [hv] at hR
   wp_walk
   exact ⟨_,rfl,by simpa [Builtin.Tuple.tupleCompareSizes] using hR⟩
  case h =>
   exact ⟨rfl,rfl,items.toList,items2.toList,ns,ms,rfl,hi,hj,by omega,h⟩
end
section
variable {prog:Program} {w:World} {A:Around} {E:Value->Shared->Prop} {s:Shared}
theorem gt_tupInts {l b:Addr} {items items2:Array Value} {ns ms:List Int} {Q:Value->Shared->Prop} (hl:IsTup s.heap l items) (hb:IsTup s.heap b items2) (hi:IntsAre items.toList ns) (hj:IntsAre items2.toList ms)
  (hu:A.units < cLine) (h:Q (.bool (lexGt ns ms)) s):wpAny (model prog w) A (compareOp .Gt (.ref l) (.ref b)) Q E s:=by
 obtain ⟨⟨cls,dd,data,sl⟩,ho,hc,n,hd⟩:=id hl
 obtain ⟨⟨cls2,dd2,data2,sl2⟩,ho2,hc2,n2,hd2⟩:=id hb
 simp only at hc hd hc2 hd2
 subst hc hd hc2 hd2
 exact richCompare_meets_room (op:=.Gt) ⟨_,ho,rfl⟩ ⟨_,ho2,rfl⟩ PySem.F.slot_tuple_gt PySem.F.entry_tuple_gt (PySem.F.args_tuple_gt_2 _ _) (ZG9 l b items items2 n n2 dd dd2 sl sl2 ns ms hi hj)
  ⟨ho,ho2,show Value.bool (lexGt ns ms) ≠ Value.notImplemented/\Q (.bool (lexGt ns ms)) s from ⟨(λ x=>nomatch x),h⟩⟩ hu
end
end HT
namespace L2
open PySem PySem.Spec PyProof.Rows
section
variable {X:Cx} {a b:Expr} {ta tb:TE} {pos:Pos}
def rGtT (K:PySem.W.Frag):R2:=λ x y H Q=>∃ a b ns ms,x=.ref a/\y=.ref b/\SqT K H a (ns.map V.int)/\SqT K H b (ms.map V.int)/\Q (.bl (HT.lexGt ns ms)) H
theorem ZQd (hu:X.A.units < cLine):OpR X (compareOp .Gt) (rGtT X.K):=by
 intro pins s σ H x y v u Q I rx ry h
 obtain ⟨a,b,ns,ms,rfl,rfl,ha,hb,q⟩:=h
 cases rx
 cases ry
 obtain ⟨its,r1,p1,_⟩:=I.tuple ha
 obtain ⟨its2,r2,p2,_⟩:=I.tuple hb
 have i1:IntsAre its.toArray.toList ns:=ZBh r1
 have i2:IntsAre its2.toArray.toList ms:=ZBh r2
 exact HT.gt_tupInts p1 p2 i1 i2 hu ⟨.bl (HT.lexGt ns ms),H,I,rfl,q⟩
def CDivL (i j:Int):Prop:=0 < j/\j < 2 ^ 64
theorem ZN2:OpR X (binaryOp .FloorDiv) (rI CDivL λ i j=>.int (i / j)):=opI λ i j _ _ _ _ _ hc q=>by
 have h1:(0:Int) < j:=hc.1
 have h2:j < 2 ^ 64:=hc.2
 have e:i.fdiv j=i / j:=Int.fdiv_eq_ediv_of_nonneg i (Int.le_of_lt h1)
 refine floordiv_int (by omega) (by rw [e]; exact q) (.inl (PyProof.noPylong_of_log2 ?_))
 have h3:j.natAbs < 2 ^ 64:=by omega
 have h4:j.natAbs ≠ 0:=by omega
 have h5:j.natAbs.log2 < 64:=(Nat.log2_lt h4).mpr h3
 omega
end
end L2
namespace H1
open PySem PySem.Spec PyProof.Rows L2
structure Def (K:PySem.W.Frag) (mg:Str->Option Value) (x:Str) (st:Stmt) (ps:List Str) (f:Addr) (fd:FuncData):Prop where
 at_:mg x=some (.ref f)
 fn:Fun K x x st f fd
 bd:ZEL K fd ps []
theorem pcall {X:Cx} {x:Str} {st:Stmt} {ps:List Str} {f:Addr} {fd:FuncData} {sp:Sp} {k:Nat} {e:Expr} {es:List Expr} {t:TA} {p pos:Pos} (D:Def X.K X.mg x st ps f fd) (G:FnOk X.prog X.w X.K X.mg X.base CX0 k f fd ps sp) (hr:Room k X.A)
  (ha:PA X (e :: es) t) (hg:Gl X x:=by rfl) (hdb:(x == ("__debug__" : Str))=false:=by decide) (he:starEach (e :: es) X.env=(false,eval e X.env) :: starEach es X.env:=by rfl) (hpl:(backTo pos (starEach es X.env)).any (·.1)=false:=by rfl) :
  PE X (.Call (.Name x p) (e :: es) [] pos) (ZP3 sp [] E0 t):=ZOc G hr hg D.at_ D.fn.kp D.bd .nil ZMh ha hdb he hpl
theorem Same.upd {H:Hp} {p:Addr} {o:HO} (h:H p=none):Same H (upd H p o):=λ a u e=>by rw [Zg (Zo e h)]; exact e
theorem ib1 (k:Bool) : -(2 ^ 64) < (if k=true then (1:Int) else 0)/\(if k=true then (1:Int) else 0) < 2 ^ 64:=by cases k <;> decide
end H1
set_option maxHeartbeats 4000000
namespace HI
open PySem PyProof.Rows
section
variable {prog:Program} {w:World} {A:Around} {E:Value->Shared->Prop} {s:Shared}
theorem drawT {j t:Addr} {i:Nat} {its:Array Value} {x:Value} {Q:Value->Shared->Prop} (hj:s.heap.IsTupleIter j t i) (ht:s.heap.IsTuple t its) (hx:its[i]? = some x)
  (k:∀ h',h'.IsTupleIter j t (i+1)->Heap.SameBut j s.heap h'->Q x { s with heap:=h' }):wpAny (model prog w) A (Builtin.SmallTypes.nextOf (.ref j)) Q E s:=by
 obtain ⟨oj,ej,cj,dj⟩:=id hj; obtain ⟨ot,et,_,nt,dt⟩:=ht
 unfold Builtin.SmallTypes.nextOf
 refine wpAny_bind (wpAny_callSpecial?_slot (name:=Str.ofString "__next__") hj.typeIs F.slot_tuple_iterator_next (wpAny_call_entry F.slot_tuple_iterator_next hj.typeIs F.entry_tuple_iterator_next ?_ (F.args_tuple_iterator_next_1 _)))
 refine wpAny_bind (m:=field (.ref j) 0) (wpAny_field ej dj (x:=.ref t) rfl ?_)
 show wpAny _ _ (if (Value.ref t == Value.none)=true then _ else field (.ref j) 1 >>= _) _ _ s
 rw [if_neg (by intro z; cases z)]
 refine wpAny_bind (m:=field (.ref j) 1) (wpAny_field ej dj (x:=.int i 0) rfl (wpAny_bind (m:=seqItems? (.ref t)) (wpAny_seqItems et dt ?_)))
 simp only [Int.toNat_natCast,hx]
 refine wpAny_bind (wpAny_setField ej dj (by simp) (wpAny_pure ⟨_,rfl,wpAny_pure (k _ ?_ (Heap.SameBut.update ..))⟩))
 refine ⟨_,Heap.get?_update_self _ ej (Obj.isFreed_of_fields (Obj.data_mapFields dj _)),(Obj.cls_mapFields ..).trans cj,?_⟩
 rw [Obj.data_mapFields dj]
 simp [rawInt]
theorem ZHy {j t:Addr} {i:Nat} {its:Array Value} {Q:Value->Shared->Prop} (hh:A.handled=none) (hj:s.heap.IsTupleIter j t i) (ht:s.heap.IsTuple t its) (hx:its[i]? = none)
  (k:∀ h' e,Heap.ExtBut j s.heap h'->(∃ o,h'.get? e=some o/\o.cls=.type "StopIteration")->E (.ref e) { s with heap:=h' }):wpAny (model prog w) A (Builtin.SmallTypes.nextOf (.ref j)) Q E s:=by
 obtain ⟨oj,ej,cj,dj⟩:=id hj; obtain ⟨ot,et,_,nt,dt⟩:=ht
 unfold Builtin.SmallTypes.nextOf
 refine wpAny_bind (wpAny_callSpecial?_slot (name:=Str.ofString "__next__") hj.typeIs F.slot_tuple_iterator_next (wpAny_call_entry F.slot_tuple_iterator_next hj.typeIs F.entry_tuple_iterator_next ?_ (F.args_tuple_iterator_next_1 _)))
 refine wpAny_bind (m:=field (.ref j) 0) (wpAny_field ej dj (x:=.ref t) rfl ?_)
 show wpAny _ _ (if (Value.ref t == Value.none)=true then _ else field (.ref j) 1 >>= _) _ _ s
 rw [if_neg (by intro z; cases z)]
 refine wpAny_bind (m:=field (.ref j) 1) (wpAny_field ej dj (x:=.int i 0) rfl (wpAny_bind (m:=seqItems? (.ref t)) (wpAny_seqItems et dt ?_)))
 simp only [Int.toNat_natCast,hx]
 refine wpAny_bind (wpAny_rule (wpAny_bind (wpAny_setField ej dj (by simp) ?_)))
 refine wpAny_bind (m:=newExc (.type "StopIteration") []) ?_
 simp only [newExc,newTuple]
 refine wpAny_bind (wpAny_newObj_type (wpAny_bind (m:=firstArgMember _ _) (wpAny_of_eq (a:=Value.none) (by first | rfl | (simp only [firstArgMember]; rfl)) (wpAny_newObj_type ?_ (by size_fits)))) (by size_fits))
 simp only [raiseNew]
 refine wpAny_bind (wpAny_handled ?_)
 first
  | rw [show A.in1.handled=none from hh]
  | rw [hh]
 exact wpAny_bind (wpAny_pure (wpAny_throw (k _ _ (((Heap.SameBut.update ..).extBut.push _).push _) ⟨_,Heap.get?_push_size _ rfl,rfl⟩)))
end
theorem drawsT {prog:Program} {w:World} {A:Around} (hh:A.handled=none) (j t:Addr) (ne:t ≠ j) (its:Array Value) :
  Draws prog w A j [j,t] its.size (λ i v=>its[i]? = some v) (λ i h=>h.IsTupleIter j t i/\h.IsTuple t its) where
 live:=λ _ _ st=>by
  obtain ⟨⟨o,e,_⟩,_⟩:=st
  exact ⟨o,e⟩
 frame:=λ _ _ _ st hk=>by
  obtain ⟨⟨o,e,r⟩,⟨u,f,q⟩⟩:=st
  exact ⟨⟨o,hk j (by simp) o e,r⟩,⟨u,hk t (by simp) u f,q⟩⟩
 item:=λ i s Q E hi st hQ=>by
  refine drawT st.1 st.2 (x:=its[i]) (by simp [hi]) λ h' h1 h2=>?_
  obtain ⟨u,f,q⟩:=st.2
  exact hQ _ h' s.toks (by simp [hi]) ⟨h1,⟨u,(h2.2 t ne).trans f,q⟩⟩ h2
 done:=λ s Q E st hE=>ZHy hh st.1 st.2 (by simp) hE
theorem drawsT_fin {prog:Program} {w:World} {A:Around} (hh:A.handled=none) (j t:Addr) (its:Array Value) (i:Nat) (hi:its.size<=i) :
  Draws prog w A j [j,t] 0 (λ _ _=>False) (λ _ h=>h.IsTupleIter j t i/\h.IsTuple t its) where
 live:=λ _ _ st=>by
  obtain ⟨⟨o,e,_⟩,_⟩:=st
  exact ⟨o,e⟩
 frame:=λ _ _ _ st hk=>by
  obtain ⟨⟨o,e,r⟩,⟨u,f,q⟩⟩:=st
  exact ⟨⟨o,hk j (by simp) o e,r⟩,⟨u,hk t (by simp) u f,q⟩⟩
 item:=λ i s Q E hi st hQ=>absurd hi (Nat.not_lt_zero _)
 done:=λ s Q E st hE=>ZHy hh st.1 st.2 (by simp [hi]) hE
open AutoSeq1 (wpAny_loadPart') in
theorem ZNI (l:Addr) (its:Array Value) (n:Nat) (dct:Option Addr) (sl:Array (Option Value)) :
  Meets (Builtin.«enumerate.__new__» ⟨[.type "enumerate",.ref l],[]⟩) (λ _ R s=>s.heap.get? l=some { cls:=.type "tuple",dict:=dct,data:=.seq its n,slots:=sl } /\
   R (.ok (.ret (.ref (s.heap.push { cls:=.type "tuple_iterator",data:=.fields #[.ref l,.int 0 0] }).objs.size)))
    { s with heap:=(s.heap.push { cls:=.type "tuple_iterator",data:=.fields #[.ref l,.int 0 0] }).push { cls:=.type "enumerate",data:=.fields #[.none,.bool false,.ref s.heap.objs.size,rawInt 0,.none,.none] } }) :=
 .of_wp λ prog w A R s h=>by
  obtain ⟨hp,g,d,tk,os⟩:=s
  obtain ⟨hl,h⟩:=h
  have hsub:=sub_enumerate
  have hT:Heap.IsTuple (Shared.heap ⟨hp,g,d,tk,os⟩) l its:=⟨_,hl,rfl,n,rfl⟩
  wp_walk using wpAny_loadPart' hl
  refine wpAny_stack_any λ st=>wpAny_pure ?_
  split
  ·rename_i c _ _ _ _ _
   cases (c == Value.type "enumerate")
   all_goals
    wp_walk using wpAny_loadPart' hl,wpAny_pyIter_tuple hT
    exact ⟨_,rfl,h⟩
  ·wp_walk using wpAny_loadPart' hl,wpAny_pyIter_tuple hT
   exact ⟨_,rfl,h⟩
section
variable {prog:Program} {w:World} {A:Around} {E:Value->Shared->Prop} {s:Shared}
theorem callEnumT {l:Addr} {its:Array Value} {Q:Value->Shared->Prop} (hL:s.heap.IsTuple l its)
  (h:∀ h',IsEnum h' (s.heap.objs.size+1) s.heap.objs.size 0 .none->h'.IsTupleIter s.heap.objs.size l 0->h'.objs.size=s.heap.objs.size+2 ->
   (∀ b o,s.heap.get? b=some o->h'.get? b=some o)->Q (.ref (s.heap.objs.size+1)) { s with heap:=h' }):wpAny (model prog w) A (call (.type "enumerate") [.ref l]) Q E s:=by
 obtain ⟨⟨c,dct,dt,sl⟩,hl,hc,n,hd⟩:=hL
 replace hc:c=.type "tuple":=hc
 replace hd:dt=.seq its n:=hd
 subst hc hd
 refine callType_new F.called_enumerate (by decide) (F.typeCall_enumerate_1 _) (F.newCall_enumerate_1 _) (λ obj=>F.args_object_init_2 obj _) F.entry_enumerate_new (ZNI l its n dct sl) ⟨hl,?_⟩
 have hz:(s.heap.push { cls:=.type "tuple_iterator",data:=.fields #[.ref l,.int 0 0] }).objs.size=s.heap.objs.size+1:=Heap.size_push ..
 show _/\_
 rw [hz]
 have he:IsEnum ((s.heap.push { cls:=.type "tuple_iterator",data:=.fields #[.ref l,.int 0 0] }).push { cls:=.type "enumerate",data:=.fields #[.none,.bool false,.ref s.heap.objs.size,rawInt 0,.none,.none] }) (s.heap.objs.size+1) s.heap.objs.size 0 .none:=by
  have e:=Heap.get?_push_size (s.heap.push { cls:=.type "tuple_iterator",data:=.fields #[.ref l,.int 0 0] }) (o:={ cls:=.type "enumerate",data:=.fields #[.none,.bool false,.ref s.heap.objs.size,rawInt 0,.none,.none] }) rfl
  rw [hz] at e
  exact e
 exact ⟨⟨_,he,rfl⟩,h _ he ⟨_,Heap.get?_push_of_some _ (Heap.get?_push_size _ rfl),rfl,rfl⟩ (by rw [Heap.size_push,hz]) λ b o x=>Heap.get?_push_of_some _ (Heap.get?_push_of_some _ x)⟩
end
end HI
namespace L2
open PySem PySem.Spec PyProof.Rows
def Ite (K:PySem.W.Frag) (a:Addr):It :=
 ⟨λ i H=>∃ xs x,SqT K H a xs/\xs[i]? = some x,λ i H v H'=>∃ p x,v=.ref p/\H p=none/\H'=upd H p (.tup [.int i,x])/\∀ xs,SqT K H a xs->xs[i]? = some x,λ i H=>∃ xs,SqT K H a xs/\xs.length<=i⟩
theorem ZLv {P:Program} {w:World} {K:PySem.W.Frag} {es:List Expr} {k:Nat} {pos:Pos} (a it e:Addr) (hei:e ≠ it) :
  Turn P w K (.Tuple es k pos) (Ite K a) [e,it] e (λ i h=>(∃ old,IsEnum h e it i old)/\h.IsTupleIter it a i) where
 mem:=by simp
 obj:=λ i h st b hb=>by
  obtain ⟨⟨old,he⟩,o,ho,c,d⟩:=st
  rcases List.mem_cons.mp hb with rfl | hb
  ·exact ⟨_,he,λ v z=>by cases z⟩
  ·rw [List.mem_singleton.mp hb]
   exact ⟨o,ho,λ v z=>by rw [d] at z; cases z⟩
 keep:=λ i h h' st kk=>by
  obtain ⟨⟨old,he⟩,o,ho,r⟩:=st
  exact ⟨⟨old,kk e (by simp) _ he⟩,o,kk it (by simp) o ho,r⟩
 item:=by
  intro X hP hw hK hc i pins s σ H E I hf st hg
  subst hP hw hK
  obtain ⟨xs,x,hq,hx⟩:=hg
  obtain ⟨its,rv,p,hz⟩:=I.tuple hq
  obtain ⟨u,hu,ru⟩:=rv.get hx
  obtain ⟨f0,f1,f2,f3,f4,f5⟩:=hf e (by simp)
  obtain ⟨g0,g1,g2,g3,g4,g5⟩:=hf it (by simp)
  obtain ⟨⟨old,he⟩,hit⟩:=st
  have hilt:i < its.length:=(List.getElem?_eq_some_iff.mp hu).1
  have hai:a ≠ it:=by
   intro z
   obtain ⟨o,eo,co,_⟩:=p
   obtain ⟨o2,eo2,co2,_⟩:=hit
   rw [z,eo2] at eo
   cases eo
   rw [co2] at co
   exact absurd co (by decide)
  have hae:e ≠ a:=by
   intro z
   obtain ⟨o,eo,co,_⟩:=p
   rw [← z,he] at eo
   cases eo
   have co':Value.type "enumerate" = Value.type "tuple":=co
   exact absurd co' (by decide)
  refine wpAny_pyNext_enum_itemD (HI.drawsT (prog:=X.prog) (w:=X.w) (A:=X.A.in1) (show X.A.in1.handled=none from I.ok.hd hc) it a hai its.toArray) he ⟨hit,p⟩ (by simpa using hilt) hei (by simp [hei,hae]) λ x' h' tk hP ho hs hT hsz hk=>?_
  have ex:x'=u:=by
   have q:its[i]? = some x':=by simpa using hP
   rw [hu] at q
   exact (Option.some.inj q).symm
  subst ex
  refine ⟨_,rfl,?_⟩
  refine wpAny_letOwnedTupleGo_enum ho λ h2 he2 hs2=>?_
  have nT:H s.heap.objs.size=none:=I.hok.fresh (Nat.le_refl _)
  have heS:e < s.heap.objs.size:=Heap.lt_size he
  have hiS:it < s.heap.objs.size:=by obtain ⟨o,ho,_⟩:=hit; exact Heap.lt_size ho
  have hT2:h2.get? s.heap.objs.size=some { cls:=.type "tuple",data:=.seq #[.int i tk,x'] }:=(hs2.2 _ (Nat.ne_of_gt heS)).trans hT
  have kk:∀ b o,b ≠ e->b ≠ it->s.heap.get? b=some o->h2.get? b=some o:=λ b o h1 h2' q=>(hs2.2 b h1).trans (hk b o h1 h2' q)
  have nit:∀ b u,H b=some u->b ≠ e/\b ≠ it:=λ b u q=>⟨λ z=>(by rw [z,f0] at q; cases q),λ z=>(by rw [z,g0] at q; cases q)⟩
  have ne1:∀ b u,H b=some u->b ≠ s.heap.objs.size:=λ b u q=>Zo q nT
  have hok:HOk X.prog X.w (upd H s.heap.objs.size (.tup [.int i,x])) h2:=λ b ob q=>by
   by_cases hb:b=s.heap.objs.size
   ·subst hb
    rw [Zt] at q
    cases q
    exact ⟨by show 2<=sizeLine; decide,[.int i tk,x'],.cons ⟨tk,rfl⟩ (.cons ru .nil),⟨_,hT2,rfl,_,rfl⟩⟩
   ·rw [Zg hb] at q
    refine (I.hok b ob q).stay (λ c v hc' r=>?_) (λ c r=>by rw [Zg (ne1 _ _ r)]; exact r) λ c ys r=>by rw [Zg (ne1 _ _ r)]; exact r
    have nc:c ≠ e/\c ≠ it:=by
     rcases hc' with z | z
     ·rw [z]; exact nit b ob q
     ·exact nit c _ z
    exact kk c v nc.1 nc.2 r
  have I2:Inv X pins σ (upd H s.heap.objs.size (.tup [.int i,x])) { s with heap:=h2,toks:=tk+1 }:=by
   refine I.step (g':=s.gens) (d':=s.drawn) (ch:=[e,it]) (λ b hb=>?_) (λ b o _ _ hc' q _=>kk b o (λ z=>hc' (by simp [z])) (λ z=>hc' (by simp [z])) q) (λ b o _ _ hc' q _=>⟨o.slots,kk b o (λ z=>hc' (by simp [z])) (λ z=>hc' (by simp [z])) q⟩)
    (λ b o _ q n=>by rw [Zg (Nat.ne_of_lt (Heap.lt_size q))]; exact n) (λ b o hc' q=>⟨o,kk b o (λ z=>hc' (by simp [z])) (λ z=>hc' (by simp [z])) q⟩) (λ b ys q=>by rw [Zg (ne1 _ _ q)]; exact q) (λ b o u q=>by rw [Zg (ne1 _ _ q)]; exact q)
    (λ b ps q=>⟨#[],by rw [Zg (ne1 _ _ q),q]; simp⟩) (λ m hm=>?_) hok I.bare
   ·rcases List.mem_cons.mp hb with rfl | hb
    ·exact ⟨f3,f1,f4,f5⟩
    ·rw [List.mem_singleton.mp hb]
     exact ⟨g3,g1,g4,g5⟩
   ·obtain ⟨o,es',ep,ho',r⟩:=hm
    exact ⟨o,es',ep,kk _ o (Ne.symm f1) (Ne.symm g1) ho',r⟩
  refine ⟨.ref s.heap.objs.size,_,I2,rfl,⟨_,x,rfl,nT,rfl,λ ys hy=>by rw [I.tuple_inj hy hq]; exact hx⟩,⟨⟨x',by simpa using he2⟩,?_⟩,λ b hb=>?_⟩
  ·obtain ⟨⟨o,eo,r⟩,_⟩:=hs
   exact ⟨o,(hs2.2 it (Ne.symm hei)).trans eo,r⟩
  ·rcases List.mem_cons.mp hb with rfl | hb
   ·rw [Zg (Nat.ne_of_lt heS)]; exact f0
   ·rw [List.mem_singleton.mp hb,Zg (Nat.ne_of_lt hiS)]; exact g0
 done:=by
  intro X hP hw hK hc i pins s σ H E I hf st hg
  subst hP hw hK
  obtain ⟨xs,hq,hx⟩:=hg
  obtain ⟨its,rv,p,hz⟩:=I.tuple hq
  obtain ⟨g0,g1,g2,g3,g4,g5⟩:=hf it (by simp)
  obtain ⟨⟨old,he⟩,hit⟩:=st
  have hl:=rv.length
  exact wpAny_pyNext_enum_endD (HI.drawsT_fin (prog:=X.prog) (w:=X.w) (A:=X.A.in1) (show X.A.in1.handled=none from I.ok.hd hc) it a its.toArray i (by simp; omega)) he ⟨hit,p⟩ λ h' eb=>⟨rfl,I.turned (t':=s.toks) (λ b o hb e=>eb b o hb e) g0 g1 g3 g4 g5⟩
 self:=λ _ _ _ _ _ st h=>by
  obtain ⟨⟨old,he⟩,_⟩:=st
  exact wpAny_pyIter_enum he h
section
variable {X:Cx}
def iEnum (K:PySem.W.Frag) (ta:TA):TI:=λ σ H R=>ta σ H λ vs H1=>∃ a,vs=[.ref a]/\(∃ xs,SqT K H1 a xs)/\R (Ite K a) H1
theorem ZIw {es:List Expr} {k:Nat} {tpos:Pos} {a:Expr} {ta:TA} {p pos:Pos} (hg:Gl X "enumerate") (hm:X.mg "enumerate" = none) (ha:PA X [a] ta) (hs:starEach [a] X.env=[(false,eval a X.env)]:=by rfl) :
  PI X (.Tuple es k tpos) (.Call (.Name "enumerate" p) [a] [] pos) (iEnum X.K ta):=by
 intro pins s σ H R I h
 refine Call_ (ZFZ I hg hm boot_enumerate (PyProof.Rows.callWith_type1 (thn (ha pos pins s σ H _ I h) λ us s1 ⟨vs,H1,I1,r1,q1⟩=>?_) hs rfl))
 obtain ⟨l,e,⟨xs,hq⟩,q⟩:=q1
 subst e
 cases r1 with
 | cons r rr =>
  cases rr
  cases r
  obtain ⟨its,rv,pt,hz⟩:=I1.tuple hq
  refine HI.callEnumT (show s1.heap.IsTuple l its.toArray from pt) λ h' he hit hsz hk=>?_
  have I2:Inv X pins σ H1 { s1 with heap:=h' }:=I1.kept (t':=s1.toks) hk
  refine wpAny_pyIter_enum he ⟨s1.heap.objs.size+1,[s1.heap.objs.size+1,s1.heap.objs.size],_,_,H1,rfl,I2,ZLv l s1.heap.objs.size _ (Nat.succ_ne_self _),⟨⟨_,he⟩,hit⟩,λ b hb=>?_,q⟩
  have hb':s1.heap.objs.size<=b:=by
   rcases List.mem_cons.mp hb with e | hb
   ·rw [e]; exact Nat.le_succ _
   ·rw [List.mem_singleton.mp hb]; exact Nat.le_refl _
  have F0:=I1.fpOk hb' (I1.hok.fresh hb')
  exact F0
end
end L2
namespace L2
open PySem PySem.Spec PyProof.Rows
theorem ZPC {env:Env} (ns:List (Str × NameKind)) (h:∀ x ∈ ns,x.2=.free->∃ c,env.cells.lookup x.1=some c):∀ cs:List (Str × Addr),
  ∃ cl:List (Str × Addr),(forIn ns cs λ x r=>do
   let mut cs:=r
   if x.2 == .free then cs:=(x.1,← cellOf env x.1) :: cs
   pure (ForInStep.yield cs):Sem (List (Str × Addr)))=pure cl /\
   (∀ x c,cl.lookup x=some c->cs.lookup x=some c ∨ env.cells.lookup x=some c) /\
   (∀ x,(cs.lookup x).isSome=true->(cl.lookup x).isSome=true)/\∀ x,(x,NameKind.free) ∈ ns->(cl.lookup x).isSome=true:=by
 induction ns with
 | nil=>exact λ cs=>⟨cs,rfl,λ _ _ e=>.inl e,λ _ e=>e,λ _ z=>nomatch z⟩
 | cons y r ih =>
  intro cs
  obtain ⟨n,k⟩:=y
  have ih:=ih λ x hx=>h x (List.mem_cons_of_mem _ hx)
  by_cases hk:k=.free
  ·subst hk
   obtain ⟨c,hc⟩:=h (n,.free) List.mem_cons_self rfl
   obtain ⟨cl,e,p1,p2,p3⟩:=ih ((n,c) :: cs)
   refine ⟨cl,?_,λ x c' q=>?_,λ x q=>p2 x ?_,λ x q=>?_⟩
   ·rw [List.forIn_cons]
    have hce:cellOf env n=pure c:=by
     unfold cellOf
     rw [show env.cells.lookup n=some c from hc]
    simp only [beq_self_eq_true,if_true]
    rw [hce]
    exact e
   ·rcases p1 x c' q with q | q
    ·rw [List.lookup_cons] at q
     cases hx:x == n with
     | true=>rw [hx] at q; cases q; rw [eq_of_beq hx]; exact .inr hc
     | false=>rw [hx] at q; exact .inl q
    ·exact .inr q
   ·rw [List.lookup_cons]
    cases hx:x == n with
    | true=>rfl
    | false=>exact q
   ·rcases List.mem_cons.mp q with z | z
    ·cases z
     exact p2 _ (by rw [List.lookup_cons]; simp)
    ·exact p3 x z
  ·obtain ⟨cl,e,p1,p2,p3⟩:=ih cs
   refine ⟨cl,?_,p1,p2,λ x q=>?_⟩
   ·rw [List.forIn_cons]
    have hb:(k == NameKind.free)=false:=by simpa using hk
    simp only [hb]
    exact e
   ·rcases List.mem_cons.mp q with z | z
    ·cases z; exact absurd rfl hk
    ·exact p3 x z
theorem ZEJ {env:Env} {scope:Scope} (h:∀ x ∈ scope.names,x.2=.free->∃ c,env.cells.lookup x.1=some c) :
  ∃ cl:List (Str × Addr),closureFor scope env=pure cl/\(∀ x c,cl.lookup x=some c->env.cells.lookup x=some c)/\∀ x,(x,NameKind.free) ∈ scope.names->(cl.lookup x).isSome=true:=by
 obtain ⟨cl,e,p1,_,p3⟩:=ZPC scope.names h []
 refine ⟨cl,?_,λ x c q=>(p1 x c q).elim (λ z=>by cases z) id,p3⟩
 unfold closureFor
 have e2:(forIn scope.names ([]:List (Str × Addr)) λ x r=>do
   let mut cs:=r
   if x.2 == .free then cs:=(x.1,← cellOf env x.1) :: cs
   pure (ForInStep.yield cs):Sem (List (Str × Addr))) >>= (λ cs=>pure cs)=pure cl:=by rw [e]; rfl
 exact e2
abbrev blk (X:Cx) (N:List Str) (env:Env) (s:Shared) (H:Hp) (ex:List Addr):Cx:={ X with N:=N,s₀:=s,H₀:=H,env:=env,outer:=X.stack,stack:=X.stack,ex:=ex,fn:=λ _=>false,pn:=[],xe:=λ _ _=>False }
section
variable {X:Cx} {pins:List (Addr × Obj)} {σ : St} {H:Hp} {s:Shared} {fp:List Addr} {env:Env} {N:List Str}
theorem ZQr (I:Inv X pins σ H s) (hf:∀ b ∈ fp,ZFw X pins H b) (hob:∀ b ∈ fp,∃ o,s.heap.get? b=some o) (hC:s.heap.objs.size<=env.locals) (hk:env.scope.kind=.function) (hg:env.globals=X.env.globals) (hb:env.builtins=X.env.builtins)
  (hsub:∀ x c,env.cells.lookup x=some c->X.env.cells.lookup x=some c) (hhas:∀ x,(env.kindOf x=some .cell ∨ env.kindOf x=some .free)->∃ c,env.cells.lookup x=some c):(blk X N env s H fp).Ok where
 mod:=I.ok.mod
 kind:=hk
 glob:=hg.trans I.ok.glob
 blt:=hb.trans I.ok.blt
 above:=hC
 inj:=λ x y c e1 e2=>I.ok.inj x y c (hsub x c e1) (hsub y c e2)
 has:=hhas
 cab:=λ _ _ z=>by cases z
 hd:=I.ok.hd
 frames:=I.ok.frames
 stk:=.inl rfl
 exf:=λ b hb'=>by
  obtain ⟨o,e⟩:=hob b hb'
  exact ⟨Nat.ne_of_lt (Nat.lt_of_lt_of_le (Heap.lt_size e) hC),λ x c q=>(hf b hb').2.2.2.2.1 x c (hsub x c q)⟩
 bs:=I.bs
 bsz:=Nat.le_trans I.ok.bsz I.sz
 noex:=λ b o e hb'=>by
  rcases (hf b hb').2.2.2.1 with z | z
  ·exact I.ok.noex b o e z
  ·exact absurd (Nat.lt_of_lt_of_le (Heap.lt_size e) (Nat.le_trans I.ok.bsz z)) (Nat.lt_irrefl _)
 exfs:=λ b hb' z=>by
  rcases List.mem_cons.mp (I.stkSub b z) with q | q
  ·exact (hf b hb').2.1 q
  ·exact (hf b hb').2.2.1 q
 funs:=I.stack
 frf:=I.stkFree
theorem ZO7 {h1:Heap} {tk:Nat} {σ':St} {m:Str->Option Value} (I:Inv X pins σ H s) (hf:∀ b ∈ fp,ZFw X pins H b) (hob:∀ b ∈ fp,∃ o,s.heap.get? b=some o) (hC:s.heap.objs.size<=env.locals) (hk:env.scope.kind=.function) (hg:env.globals=X.env.globals) (hb:env.builtins=X.env.builtins)
  (hsub:∀ x c,env.cells.lookup x=some c->X.env.cells.lookup x=some c) (hhas:∀ x,(env.kindOf x=some .cell ∨ env.kindOf x=some .free)->∃ c,env.cells.lookup x=some c)
  (keep:∀ b u,s.heap.get? b=some u->h1.get? b=some u) (hn:h1.Ns env.locals m) (hlen : σ'.length=N.length)
  (hcap:∀ (i:Nat) (x:Str) (v:V),N[i]? = some x->σ'[i]? = some (some v)->(env.kindOf x=some .cell ∨ env.kindOf x=some .free)/\X.env.kindOf x ≠ some .local/\Vis X.env.scope x/\∃ j:Nat,X.N[j]? = some x/\σ[j]? = some (some v)) :
  Inv (blk X N env s H fp) [] σ' H { s with heap:=h1,toks:=tk } where
 ok:=ZQr I hf hob hC hk hg hb hsub hhas
 os:=rfl
 bare:=I.bare
 base:=Un.kept keep
 loc:=⟨m,hn,λ i x v e1 e2 _=>by
  obtain ⟨k1,k2,k3,j,e3,e4⟩:=hcap i x v e1 e2
  obtain ⟨m0,_,hl⟩:=I.loc
  obtain ⟨u,r,l⟩:=hl j x v e3 e4 k3
  refine ⟨u,r,?_⟩
  rcases l with ⟨z,_⟩ | ⟨_,c,ec,o,ho,hd⟩
  ·exact absurd z k2
  ·obtain ⟨c',ec'⟩:=hhas x k1
   have ee:c'=c:=by
    have q:=hsub x c' ec'
    rw [ec] at q
    exact (Option.some.inj q).symm
   subst ee
   exact .inr ⟨k1,c',ec',o,keep _ _ ho,hd⟩⟩
 cell:=λ x c e=>by
  obtain ⟨v,o,ho,hd⟩:=I.cell x c (hsub x c e)
  exact ⟨v,o,keep _ _ ho,hd⟩
 free:=I.hok.fresh hC
 freeC:=λ x c e=>I.freeC x c (hsub x c e)
 pin:=λ p hp=>by cases hp
 hok:=I.hok.kept keep
 len:=hlen
theorem Un.but {fs ex:List Addr} {H H':Hp} {h h1 h2:Heap} {C:Addr} (u:Un fs ex H H' h h1) (sb:Heap.SameBut C h1 h2) (hC:h.objs.size<=C):Un fs ex H H' h h2:=by
 have k:∀ b o,h.get? b=some o->h2.get? b=h1.get? b:=λ b o e=>sb.2 b (Nat.ne_of_lt (Nat.lt_of_lt_of_le (Heap.lt_size e) hC))
 exact ⟨λ b o e n h3 h4=>(k b o e).trans (u.keep b o e n h3 h4),λ b o e n h3 h4=>by
  obtain ⟨sl,q⟩:=u.slot b o e n h3 h4
  exact ⟨sl,(k b o e).trans q⟩,u.free,λ b o e h3=>by
  obtain ⟨o',q⟩:=u.there b o e h3
  exact ⟨o',(k b o e).trans q⟩,u.tups,u.frzs,u.tbls⟩
theorem ZPa {σ':St} {H':Hp} {s':Shared} {h2:Heap} (I:Inv X pins σ H s) (hf:∀ b ∈ fp,ZFw X pins H b) (hC:s.heap.objs.size<=env.locals) (J:Inv (blk X N env s H fp) [] σ' H' s') (sb:Heap.SameBut env.locals s'.heap h2):Inv X pins σ H' { s' with heap:=h2 }:=by
 refine I.call' (ch:=fp) J.os (J.base.but sb hC) (λ b u e=>?_) J.bare λ b hb=>⟨(hf b hb).2.2.2.1,(hf b hb).2.1,(hf b hb).2.2.2.2.1,(hf b hb).2.2.2.2.2⟩
 refine (J.hok b u e).stay (λ c v hc q=>(sb.2 c ?_).trans q) (λ _ q=>q) λ _ _ q=>q
 intro z
 have n:=J.free
 rcases hc with q | q
 ·rw [← q,z] at e
  rw [e] at n; cases n
 ·rw [z] at q
  rw [q] at n; cases n
end
def Wk (a b:St):Prop:=a.length=b.length/\∀ (i:Nat) (v:V),a[i]? = some (some v)->b[i]? = some (some v)
def PTs (X:Cx) (ifs:List Expr) (t:TT):Prop :=
 ∀ (pins:List (Addr × Obj)) (s:Shared) (σ : St) (H:Hp) (Q:Bool->Hp->Prop),Inv X pins σ H s->t σ H Q ->
  wpAny (model X.prog X.w) X.A (forIn ifs true λ c r=>if r=true then do let ok ← isTrue c X.env (eval c X.env); pure (ForInStep.yield ok) else pure (ForInStep.yield r)) (TP X pins σ Q) X.xe s
def tYes:TT:=λ _ H Q=>Q true H
theorem ZOs {X:Cx}:PTs X [] tYes:=λ _ _ _ H _ I h=>wpAny_tests_nil ⟨H,I,h⟩
theorem ZPU {X:Cx} {c:Expr} {t:TT} (h:PT X c t):PTs X [c] t:=λ pins s σ H Q I hw=>wpAny_tests_one (h pins s σ H Q I hw)
def ZNd (J:It) (g:TG) (tt:TT) (te:TE) (σ0:St) (D:Addr) (Q:VK) (H1:Hp):Prop :=
 ∃ W:Nat->Nat->List V->Hp->Prop,(∃ m,W 0 m [] H1)/\∀ i m acc H,W i m acc H ->
  (J.stop i H/\Q (.ref D) H) ∨ (J.go i H/\∃ N:List V->Hp->Prop,(∀ acc' H',N acc' H'->∃ m',m' < m/\W (i+1) m' acc' H') /\
   ∀ x H',J.yld i H x H'->g x σ0 H' λ σ2 H2=>Wk σ0 σ2/\tt σ2 H2 λ b H3=>if b=true then te σ2 H3 λ y H4=>H4 D=some (.lst acc)/\acc.length < sizeLine/\N (acc ++ [y]) (upd H4 D (.lst (acc ++ [y]))) else N acc H3)
theorem ZLb {Y:Cx} {tg elt iter:Expr} {ifs:List Expr} {scope:Scope} {pos:Pos} {it D:Addr} {J:It} {fp:List Addr} {tn:Nat->Heap->Prop} {g:TG} {tt:TT} {te:TE} {σ0:St} {Q:VK} {R:Result->Shared->Prop} {H:Hp} {s:Shared}
  (hc:Y.calm=true) (T:Turn Y.prog Y.w Y.K tg J fp it tn) (hfp:∀ H,(∀ b ∈ fp,H b=none)->∀ b ∈ fp,ZFw Y [] H b) (hg:PG Y tg g) (ht:PTs Y ifs tt) (he:PE Y elt te) (hxe:∀ e s,¬ Y.xe e s)
  (hR:∀ H' s',Inv Y [] σ0 H' s'->Q (.ref D) H'->R (.ok .next) s') (I:Inv Y [] σ0 H s) (st:tn 0 s.heap) (fr:∀ b ∈ fp,H b=none) (hw:ZNd J g tt te σ0 D Q H) :
  codeAny (model Y.prog Y.w) Y.A (.compLoop (.ListComp elt [⟨tg,iter,ifs,0⟩] scope pos) 0 (.ref it) (.ref D) Y.env) R s:=by
 obtain ⟨W,⟨m0,w0⟩,turn⟩:=hw
 refine codeAny_loop rfl (λ n s'=>∃ i H' acc,Inv Y [] σ0 H' s'/\tn i s'.heap/\(∀ b ∈ fp,H' b=none)/\W i n acc H') ?_ m0 ⟨0,H,[],I,st,fr,w0⟩
 rintro n s3 ⟨i,H3,acc,I3,st3,fr3,w3⟩
 show wpAny _ Y.A ((compTurn (.ListComp elt [⟨tg,iter,ifs,0⟩] scope pos) 0 (.ref it) (.ref D) Y.env).onRaise (λ x=>do noteFrame x Y.env; theTreesLotGoes x)) _ _ s3
 refine wpAny_noted ?_
 rw [compTurn_list]
 refine wpAny_bind (wpAny_standAt (wpAny_bind ?_))
 rcases turn i n acc H3 w3 with ⟨stop,qn⟩ | ⟨go,N,hN,step⟩
 ·refine thn (T.done Y rfl rfl rfl hc i [] s3 σ0 H3 _ I3 (hfp H3 fr3) st3 stop) λ r s4 ⟨hr,I4⟩=>?_
  subst hr
  exact wpAny_pure (hR H3 s4 I4 qn)
 ·refine thn (T.item Y rfl rfl rfl hc i [] s3 σ0 H3 _ I3 (hfp H3 fr3) st3 go) λ r s4 ⟨u,hr,h4⟩=>?_
  subst hr
  refine wpAny_bind (thn h4 λ _ s5 ⟨x,H5,I5,r5,y5,st5,fr5⟩=>?_)
  have I5':Inv Y (ZFG fp s5.heap) σ0 H5 s5:=by
   have q:=I5.pinned (hfp H5 fr5) (T.obj _ _ st5)
   rwa [List.nil_append] at q
  have again:∀ {σ7:St} {H7:Hp} {acc7:List V} {s7:Shared},Inv Y (ZFG fp s5.heap) σ7 H7 s7->Wk σ0 σ7->N acc7 H7->∃ m,m < n/\∃ i H' acc,Inv Y [] σ0 H' s7/\tn i s7.heap/\(∀ b ∈ fp,H' b=none)/\W i m acc H':=λ {σ7 H7 acc7 s7} I7 wk n7=>by
   obtain ⟨m',hm,w7⟩:=hN acc7 H7 n7
   have I8:Inv Y [] σ0 H7 s7:=(I7.weak wk.1 wk.2).pins_of λ p hp=>nomatch hp
   refine ⟨m',hm,i+1,H7,acc7,I8,T.keep _ _ _ st5 λ b hb o e=>(I7.pin (b,o) (List.mem_append_right _ (ZDL hb e))).1,λ b hb=>?_,w7⟩
   obtain ⟨o,e,d⟩:=T.obj _ _ st5 b hb
   exact (I7.pin (b,o) (List.mem_append_right _ (ZDL hb e))).2.1
  refine wpAny_bind (wpAny_mono (hg _ s5 σ0 H5 x u _ I5' r5 (step x H5 y5)) (λ _ s6 ⟨σ6,H6,I6,wk,q6⟩=>?_) λ _ _ z=>(hxe _ _ z).elim)
  refine wpAny_bind (wpAny_mono (ht _ s6 σ6 H6 _ I6 q6) (λ ok s7 ⟨H7,I7,q7⟩=>?_) λ _ _ z=>(hxe _ _ z).elim)
  cases ok with
  | false=>exact wpAny_pure ⟨rfl,again I7 wk q7⟩
  | true =>
   refine wpAny_bind (wpAny_bind (wpAny_mono (he _ s7 σ6 H7 _ I7 q7) (λ y s8 ⟨v,H8,I8,r8,hD,hz,q8⟩=>?_) λ _ _ z=>(hxe _ _ z).elim))
   refine wpAny_bind (wpAny_mono (ZHk _ s8 σ6 H8 (.ref D) [v] (.ref D) [y] (λ _ H9=>N (acc ++ [v]) H9) I8 rfl (.cons r8 .nil) ⟨D,acc,v,rfl,rfl,hD,hz,q8⟩) (λ _ s9 ⟨_,H9,I9,_,q9⟩=>?_) λ _ _ z=>(hxe _ _ z).elim)
   exact wpAny_pure (wpAny_pure ⟨rfl,again I9 wk q9⟩)
def ZJo (sc scope:Scope) (NX N:List Str) (own:Nat) (cap:List Nat):Bool :=
 (scope.kind == .function) && scope.names.all (λ y=>y.2 != .cell && (y.2 != .local || scope.names.lookup y.1 == some .local) && (y.2 != .free || sc.names.lookup y.1 == some .cell || sc.names.lookup y.1 == some .free)) &&
 (N.length == own+cap.length) && ((N.drop own).zip cap).all (λ p=>NX[p.2]? == some p.1 && scope.names.lookup p.1 == some .free && (sc.names.lookup p.1 == some .cell || sc.names.lookup p.1 == some .free))
structure CapOk (sc scope:Scope) (NX N:List Str) (own:Nat) (cap:List Nat):Prop where
 kind:scope.kind=.function
 nocell:∀ y ∈ scope.names,y.2 ≠ .cell
 names:∀ y ∈ scope.names,y.2=.local->scope.names.lookup y.1=some .local
 free:∀ y ∈ scope.names,y.2=.free->sc.names.lookup y.1=some .cell ∨ sc.names.lookup y.1=some .free
 len:N.length=own+cap.length
 caps:∀ p ∈ (N.drop own).zip cap,NX[p.2]? = some p.1/\scope.names.lookup p.1=some .free/\(sc.names.lookup p.1=some .cell ∨ sc.names.lookup p.1=some .free)
theorem ZJu {sc scope:Scope} {NX N:List Str} {own:Nat} {cap:List Nat} (h:ZJo sc scope NX N own cap=true):CapOk sc scope NX N own cap:=by
 unfold ZJo at h
 simp only [Bool.and_eq_true,List.all_eq_true,Bool.or_eq_true,beq_iff_eq,bne_iff_ne,ne_eq] at h
 obtain ⟨⟨⟨h1,h2⟩,h3⟩,h4⟩:=h
 refine ⟨h1,λ y hy=>(h2 y hy).1.1,λ y hy e=>?_,λ y hy e=>?_,h3,λ p hp=>?_⟩
 ·rcases (h2 y hy).1.2 with z | z
  ·exact absurd e z
  ·exact z
 ·rcases (h2 y hy).2 with (z | z) | z
  ·exact absurd e z
  ·exact .inl z
  ·exact .inr z
 ·obtain ⟨⟨a,b⟩,c⟩:=h4 p hp
  exact ⟨a,b,c⟩
def ZFU (own:Nat) (cap:List Nat) (σ : St):St:=List.replicate own none ++ cap.map λ j=>(σ[j]?).join
theorem ZD2 {env:Env}:∀ {names:List (Str × NameKind)} {x:Str} {k:NameKind},(names.map λ (n,k)=>if (k == NameKind.free && env.scope.kind == .function && env.kindOf n == some .cell) then (n,NameKind.cell) else (n,k)).lookup x=some k ->
  ∃ k0,names.lookup x=some k0/\(k=k0 ∨ (k0=.free/\k=.cell))
 | [],_,_,h=>by simp at h
 | (n,k0) :: r,x,k,h=>by
  have h':List.lookup x ((if (k0 == NameKind.free && env.scope.kind == .function && env.kindOf n == some .cell)=true then (n,NameKind.cell) else (n,k0)) :: (r.map λ (n,k)=>if (k == NameKind.free && env.scope.kind == .function && env.kindOf n == some .cell) then (n,NameKind.cell) else (n,k)))=some k:=h
  cases hx:x == n with
  | true =>
   by_cases hc:(k0 == NameKind.free && env.scope.kind == .function && env.kindOf n == some .cell)=true
   ·rw [if_pos hc,List.lookup_cons,hx] at h'
    cases h'
    rw [Bool.and_eq_true,Bool.and_eq_true] at hc
    exact ⟨k0,by rw [List.lookup_cons,hx],.inr ⟨by simpa using hc.1.1,rfl⟩⟩
   ·rw [if_neg hc,List.lookup_cons,hx] at h'
    cases h'
    exact ⟨k0,by rw [List.lookup_cons,hx],.inl rfl⟩
  | false =>
   have h2:(r.map λ (n,k)=>if (k == NameKind.free && env.scope.kind == .function && env.kindOf n == some .cell) then (n,NameKind.cell) else (n,k)).lookup x=some k:=by
    by_cases hc:(k0 == NameKind.free && env.scope.kind == .function && env.kindOf n == some .cell)=true
    ·rw [if_pos hc,List.lookup_cons,hx] at h'; exact h'
    ·rw [if_neg hc,List.lookup_cons,hx] at h'; exact h'
   obtain ⟨k1,e1,r1⟩:=ZD2 h2
   exact ⟨k1,by rw [List.lookup_cons,hx]; exact e1,r1⟩
theorem ZCR {env:Env}:∀ {names:List (Str × NameKind)} {x:Str},names.lookup x=some .free ->
  (names.map λ (n,k)=>if (k == NameKind.free && env.scope.kind == .function && env.kindOf n == some .cell) then (n,NameKind.cell) else (n,k)).lookup x=some .cell ∨ (names.map λ (n,k)=>if (k == NameKind.free && env.scope.kind == .function && env.kindOf n == some .cell) then (n,NameKind.cell) else (n,k)).lookup x=some .free
 | [],_,h=>by simp at h
 | (n,k0) :: r,x,h=>by
  show List.lookup x ((if (k0 == NameKind.free && env.scope.kind == .function && env.kindOf n == some .cell)=true then (n,NameKind.cell) else (n,k0)) :: _)=_ ∨ List.lookup x ((if (k0 == NameKind.free && env.scope.kind == .function && env.kindOf n == some .cell)=true then (n,NameKind.cell) else (n,k0)) :: _)=_
  rw [List.lookup_cons] at h
  cases hx:x == n with
  | true =>
   rw [hx] at h
   cases h
   by_cases hc:(NameKind.free == NameKind.free && env.scope.kind == .function && env.kindOf n == some .cell)=true
   ·rw [if_pos hc,List.lookup_cons,hx]; exact .inl rfl
   ·rw [if_neg hc,List.lookup_cons,hx]; exact .inr rfl
  | false =>
   rw [hx] at h
   have ih:=ZCR (env:=env) h
   by_cases hc:(k0 == NameKind.free && env.scope.kind == .function && env.kindOf n == some .cell)=true
   ·rw [if_pos hc,List.lookup_cons,hx]; exact ih
   ·rw [if_neg hc,List.lookup_cons,hx]; exact ih
def ZNZ (own:Nat) (cap:List Nat) (wi:TI) (g:TG) (tt:TT) (te:TE):TE:=λ σ H Q=>wi σ H λ J H1=>∀ D,H1 D=none->ZNd J g tt te (ZFU own cap σ) D Q (upd H1 D (.lst []))
section
variable {X:Cx} {tg elt iter:Expr} {ifs:List Expr} {scope sc:Scope} {pos:Pos} {wi:TI} {g:TG} {tt:TT} {te:TE} {N NX:List Str} {own:Nat} {cap:List Nat}
theorem ZGB {pins:List (Addr × Obj)} {σ : St} {s2:Shared} {itv:Value} {Q:VK} {E:Value->Shared->Prop} {R:Value->Addr->Result->Shared->Prop} {cl:List (Str × Addr)} (hc:X.calm=true) (hsc:X.env.scope=sc) (hNX:X.N=NX) (co:CapOk sc scope NX N own cap)
  (hsub:∀ x c,cl.lookup x=some c->X.env.cells.lookup x=some c) (hall:∀ x,(x,NameKind.free) ∈ scope.names->(cl.lookup x).isSome=true)
  (hb:∀ cl C s0 H0 fp,PG (blk X N (compEnvC scope cl C X.env) s0 H0 fp) tg g/\PTs (blk X N (compEnvC scope cl C X.env) s0 H0 fp) ifs tt/\PE (blk X N (compEnvC scope cl C X.env) s0 H0 fp) elt te)
  (h2:PIE X pins σ tg (λ J H1=>∀ D,H1 D=none->ZNd J g tt te (ZFU own cap σ) D Q (upd H1 D (.lst []))) itv s2)
  (hR:∀ D C H' s',ZFw X pins H' C->(∃ m,s'.heap.Ns C m)->(∀ h',Heap.SameBut C s'.heap h'->Inv X pins σ H' { s' with heap:=h' })->Q (.ref D) H'->R (.ref D) C (.ok .next) s') :
  wpAny (model X.prog X.w) X.A (newList []) (λ acc s3=>wpAny (model X.prog X.w) X.A (newFunctionEnv scope X.env.globals cl [] X.env.qual none .none (some X.env)) (λ cenv s4 =>
   codeAny (model X.prog X.w) X.A (.compStart (.ListComp elt [⟨tg,iter,ifs,0⟩] scope pos) 0 itv acc { cenv with scope:=relabel scope X.env }) (R acc cenv.locals) s4) E s3) E s2:=by
 obtain ⟨it,fp,tn,J,H2,rfl,I2,T,st2,f2,hloop⟩:=h2
 refine wpAny_newObj_type (wpAny_newFunctionEnv co.nocell (by intro y hy; simp at hy) (λ h1 hns hsb=>?_) co.kind)
 have fD:H2 s2.heap.objs.size=none:=I2.hok.fresh (Nat.le_refl _)
 have I3:Inv X pins σ (upd H2 s2.heap.objs.size (.lst [])) { s2 with heap:=s2.heap.push { cls:=.type "list",data:=.seq ([]:List Value).toArray } }:=I2.laid (t':=s2.toks) (λ b u e=>Heap.get?_push_of_some _ e) (Nat.le_refl _) ⟨Nat.zero_le _,[],0,.nil,Heap.get?_push_size _ rfl⟩
 have hq:=hloop s2.heap.objs.size fD
 generalize hHD:s2.heap.objs.size=D at *
 generalize hs3:s2.heap.push { cls:=.type "list",data:=.seq ([]:List Value).toArray }=h3 at *
 dsimp only at hns hsb ⊢
 have hsz:h3.objs.size=D+1:=by rw [← hs3,Heap.size_push,hHD]
 have ob2:∀ b ∈ fp,∃ o,s2.heap.get? b=some o:=λ b hb'=>let ⟨o,e,_⟩:=T.obj _ _ st2 b hb'; ⟨o,e⟩
 have k23:∀ b o,s2.heap.get? b=some o->h3.get? b=some o:=λ b o e=>by rw [← hs3]; exact Heap.get?_push_of_some _ e
 have k34:∀ b o,h3.get? b=some o->h1.get? b=some o:=λ b o e=>(hsb.2 b (Nat.ne_of_lt (Heap.lt_size e))).trans (Heap.get?_push_of_some _ e)
 have f3:∀ b ∈ fp,ZFw X pins (upd H2 D (.lst [])) b:=λ b hb'=>by
  obtain ⟨o,e⟩:=ob2 b hb'
  exact ⟨by rw [Zg (Nat.ne_of_lt (by rw [← hHD]; exact Heap.lt_size e))]; exact (f2 b hb').1,(f2 b hb').2⟩
 have ob3:∀ b ∈ fp,∃ o,h3.get? b=some o:=λ b hb'=>let ⟨o,e⟩:=ob2 b hb'; ⟨o,k23 b o e⟩
 have hhas:∀ x,((compEnvC scope cl h3.objs.size X.env).kindOf x=some .cell ∨ (compEnvC scope cl h3.objs.size X.env).kindOf x=some .free)->∃ c,(compEnvC scope cl h3.objs.size X.env).cells.lookup x=some c:=λ x hx=>by
  have q:∃ k,(k=NameKind.cell ∨ k=NameKind.free)/\(relabel scope X.env).names.lookup x=some k:=by
   rcases hx with z | z
   ·exact ⟨_,.inl rfl,z⟩
   ·exact ⟨_,.inr rfl,z⟩
  obtain ⟨k,hk,e⟩:=q
  obtain ⟨k0,e0,r0⟩:=ZD2 e
  have hm:=PySem.mem_of_lookup e0
  have hf0:k0=.free:=by
   rcases r0 with z | z
   ·rcases hk with y | y
    ·exact absurd (z.symm.trans y) (co.nocell _ hm)
    ·exact z.symm.trans y
   ·exact z.1
  subst hf0
  have:=hall x hm
  exact Option.isSome_iff_exists.mp this
 have hcap:∀ (i:Nat) (x:Str) (v:V),N[i]? = some x->(ZFU own cap σ)[i]? = some (some v)->((compEnvC scope cl h3.objs.size X.env).kindOf x=some .cell ∨ (compEnvC scope cl h3.objs.size X.env).kindOf x=some .free)/\X.env.kindOf x ≠ some .local/\Vis X.env.scope x/\∃ j:Nat,X.N[j]? = some x/\σ[j]? = some (some v):=λ i x v e1 e2=>by
  unfold ZFU at e2
  by_cases hi:i < own
  ·rw [List.getElem?_append_left (by simpa using hi),List.getElem?_replicate] at e2
   split at e2 <;> cases e2
  ·rw [List.getElem?_append_right (by simpa using hi),List.length_replicate,List.getElem?_map] at e2
   cases ej:cap[i - own]? with
   | none=>rw [ej] at e2; cases e2
   | some j =>
    rw [ej] at e2
    have e3:(σ[j]?).join=some v:=Option.some.inj e2
    have hd:(N.drop own)[i - own]? = some x:=by rw [List.getElem?_drop,show own+(i - own)=i by omega]; exact e1
    have hz:(x,j) ∈ (N.drop own).zip cap:=List.mem_of_getElem? (i:=i - own) (by rw [List.getElem?_zip_eq_some]; exact ⟨hd,ej⟩)
    obtain ⟨c1,c2,c3⟩:=co.caps (x,j) hz
    have c3':X.env.kindOf x=some .cell ∨ X.env.kindOf x=some .free:=by unfold Env.kindOf; rw [hsc]; exact c3
    refine ⟨ZCR c2,λ z=>?_,?_,j,by rw [hNX]; exact c1,?_⟩
    ·rcases c3' with y | y <;> (rw [y] at z; cases z)
    ·rcases c3' with y | y
     ·exact .inr (.inl y)
     ·exact .inr (.inr y)
    ·cases es : σ[j]? with
     | none=>rw [es] at e3; cases e3
     | some w=>rw [es] at e3; exact congrArg some e3
 have I4:Inv (blk X N (compEnvC scope cl h3.objs.size X.env) { s2 with heap:=h3 } (upd H2 D (.lst [])) fp) [] (ZFU own cap σ) (upd H2 D (.lst [])) { s2 with heap:=h1,toks:=s2.toks+([]:List (Str × Value)).length } :=
  ZO7 I3 f3 ob3 (Nat.le_refl _) co.kind rfl rfl hsub hhas k34 hns (by unfold ZFU; rw [List.length_append,List.length_replicate,List.length_map,co.len]) hcap
 obtain ⟨hg,ht,he⟩:=hb cl h3.objs.size { s2 with heap:=h3 } (upd H2 D (.lst [])) fp
 have loop:codeAny (model X.prog X.w) X.A (.compLoop (.ListComp elt [⟨tg,iter,ifs,0⟩] scope pos) 0 (.ref it) (.ref D) (compEnvC scope cl h3.objs.size X.env)) (R (.ref D) h3.objs.size) { s2 with heap:=h1,toks:=s2.toks+([]:List (Str × Value)).length }:=by
  refine ZLb (Y:=blk X N (compEnvC scope cl h3.objs.size X.env) { s2 with heap:=h3 } (upd H2 D (.lst [])) fp) (Q:=Q) hc T (λ H0 fr b hb'=>?_) hg ht he (λ _ _ z=>z) (λ H' s' J' q=>?_) I4 (T.keep _ _ _ st2 λ b _ o e=>k34 b o (k23 b o e)) (λ b hb'=>(f3 b hb').1) hq
  ·obtain ⟨o,e⟩:=ob3 b hb'
   exact ⟨fr b hb',Nat.ne_of_lt (Heap.lt_size e),λ z=>(List.mem_cons.mp (I3.stkSub b z)).elim (f3 b hb').2.1 (f3 b hb').2.2.1,.inl hb',λ x c ec=>(f3 b hb').2.2.2.2.1 x c (hsub x c ec),λ p hp=>nomatch hp⟩
  ·exact hR D h3.objs.size H' s' (I3.fpOk (Nat.le_refl _) J'.free) (let ⟨m,hm,_⟩:=J'.loc; ⟨m,hm⟩) (λ h' sb=>ZPa (env:=compEnvC scope cl h3.objs.size X.env) I3 f3 (Nat.le_refl _) J' sb) q
 exact codeAny_compStart_list loop (T.self _ 0 _ _ _ (T.keep _ _ _ st2 λ b _ o e=>k34 b o (k23 b o e)) loop)
theorem ZPR (hc:X.calm=true) (hi:PI X tg iter wi) (hsc:X.env.scope=sc) (hNX:X.N=NX)
  (hb:∀ cl C s0 H0 fp,PG (blk X N (compEnvC scope cl C X.env) s0 H0 fp) tg g/\PTs (blk X N (compEnvC scope cl C X.env) s0 H0 fp) ifs tt/\PE (blk X N (compEnvC scope cl C X.env) s0 H0 fp) elt te)
  (co:ZJo sc scope NX N own cap=true) (hs:∀ x,foldedSetIterable iter X.env x=pure x:=by intro _; rfl):PE X (.ListComp elt [⟨tg,iter,ifs,0⟩] scope pos) (ZNZ own cap wi g tt te):=by
 intro pins s σ H Q I h
 have co:=ZJu co
 obtain ⟨cl,hcl,hsub,hall⟩:=ZEJ (env:=X.env) (scope:=scope) λ y hy e=>I.ok.has y.1 (by unfold Env.kindOf; rw [hsc]; exact co.free y hy e)
 rw [eval_ListComp]
 refine wpAny_comprehension_free (use:=none) rfl hs hcl co.kind co.names (thn (hi pins s σ H _ I h) λ v s1 h1=>thn h1 λ itv s2 h2=>?_)
 refine ZGB (Q:=Q) (R:=λ acc C=>compPost (model X.prog X.w) X.A X.xe none (EP X pins σ Q) acc C) hc hsc hNX co hsub hall hb h2 λ D C H' s' _ ⟨m,hm⟩ hi' q=>?_
 exact ⟨m,hm,λ h' sb=>⟨.ref D,H',hi' h' sb,rfl,q⟩⟩
theorem ZOR {i:Nat} {x:Str} {py spos:Pos} (hN:X.N.Nodup) (hi:X.N[i]? = some x) (hx:Loc X.env.scope x) (hc:X.calm=true) (hit:PI X tg iter wi) (hsc:X.env.scope=sc) (hNX:X.N=NX)
  (hb:∀ cl C s0 H0 fp,PG (blk X N (compEnvC scope cl C X.env) s0 H0 fp) tg g/\PTs (blk X N (compEnvC scope cl C X.env) s0 H0 fp) ifs tt/\PE (blk X N (compEnvC scope cl C X.env) s0 H0 fp) elt te)
  (co:ZJo sc scope NX N own cap=true) (hsw:swapsWith (.ListComp elt [⟨tg,iter,ifs,0⟩] scope pos) (some (.Name x py)) spos.line X.env=pure true:=by rfl) (hs:∀ x,foldedSetIterable iter X.env x=pure x:=by intro _; rfl)
  (hf:X.fn x=true ∨ X.env.scope.names.lookup x=some .local:=by first | exact .inl rfl | exact .inr rfl | assumption) :
  PS X (.Assign [.Name x py] (.ListComp elt [⟨tg,iter,ifs,0⟩] scope pos) spos) (ZQ5 (ZNZ own cap wi g tt te) (ZJQ i)):=by
 intro pins s σ H D I h
 have co:=ZJu co
 obtain ⟨cl,hcl,hsub,hall⟩:=ZEJ (env:=X.env) (scope:=scope) λ y hy e=>I.ok.has y.1 (by unfold Env.kindOf; rw [hsc]; exact co.free y hy e)
 rw [exec_Assign_Name_used _ _ _ _ hsw]
 refine wpAny_bind (wpAny_standAt (wpAny_bind ?_))
 show wpAny (model X.prog X.w) X.A (comprehension (.ListComp elt [⟨tg,iter,ifs,0⟩] scope pos) scope X.env _ (newList []) false (eval iter X.env) (some (assign (.Name x py) X.env)) >>= λ _=>pure ()) _ _ s
 refine wpAny_bind (thn (wpAny_comprehension_free (use:=some (assign (.Name x py) X.env)) (Q:=λ _ s'=>SP X pins D .next s') rfl hs hcl co.kind co.names (thn (hit pins s σ H _ I h) λ v s1 h1=>thn h1 λ itv s2 h2=>?_)) λ _ s' q=>wpAny_pure (wpAny_pure q))
 refine ZGB (Q:=λ v H1=>ZJQ i v σ H1 D.nx) (R:=λ acc C=>compPost (model X.prog X.w) X.A X.xe (some (assign (.Name x py) X.env)) (λ _ s'=>SP X pins D .next s') acc C) hc hsc hNX co hsub hall hb h2 λ Da C H' s' fC ⟨m,hm⟩ hi' q=>?_
 have I1:Inv X pins σ H' s':=hi' s'.heap (Heap.SameBut.refl ..)
 show wpAny _ _ (assign (.Name x py) X.env (.ref Da)) _ _ s'
 refine wpAny_assign_Name (ZHw I1 hN hi hx (v:=.ref Da) rfl (λ s3 I3 ⟨a,sb,ha⟩=>?_) hf)
 obtain ⟨f0,f1,f2,f3,f4,f5⟩:=fC
 have nC:C ≠ a:=by
  rcases ha with z | z
  ·rw [z]; exact f1
  ·exact Ne.symm (f4 _ _ z)
 exact ⟨m,hm.sameBut sb nC,λ h' sb2=>⟨_,H',I3.turned (t':=s3.toks) (λ b o hb' e=>(sb2.2 b hb').trans e) f0 f1 f3 f4 f5,q⟩⟩
end
end L2
namespace L2
open PySem PySem.Spec PyProof.Rows
section
variable {X:Cx}
theorem ZMr (hc:X.calm=true):Z3 X (.builtin "all") (λ xs H Q=>∃ (p:Addr) (bs:List Bool),xs=[.ref p]/\SqL X.K H p (bs.map V.bl)/\Q (.bl (bs.all id)) H):=by
 intro pins s σ H xs us Q I r h
 obtain ⟨p,bs,rfl,hq,q⟩:=h
 obtain ⟨u,rfl,ru⟩:=ZC9 r
 cases ru
 obtain ⟨its,rv,pl,hz⟩:=I.list hq
 have hlen:=rv.length
 rw [List.length_map] at hlen
 have hpl:p < s.heap.objs.size:=by
  obtain ⟨o,n,e,_⟩:=pl
  exact Heap.lt_size e
 refine call_all_walk (wpAny_pyIter_list pl.isList ⟨s.heap.objs.size,_,_,_,_,_,λ i=>bs.getD i false,rfl,Walks.list (A:=X.A.in1) (show X.A.in1.handled=none from I.ok.hd hc) s.heap.objs.size p (Nat.ne_of_lt hpl) its.toArray,?_,?_,λ h' tk k=>?_⟩)
 ·exact ⟨⟨_,Heap.get?_push_size _ rfl,rfl,rfl⟩,pl.isList.at λ o e=>Heap.get?_push_of_some _ e⟩
 ·intro i v s' Q' E' hv hQ
  have hv':its[i]? = some v:=by simpa using hv
  have hi:i < bs.length:=by rw [hlen]; exact (List.getElem?_eq_some_iff.mp hv').1
  obtain ⟨u,hu,ru⟩:=rv.get (i:=i) (x:=V.bl bs[i]) (by simp [hi])
  rw [hv'] at hu
  cases hu
  cases ru
  have e:bs.getD i false=bs[i]:=by simp [List.getD,hi]
  dsimp only at hQ
  rw [e] at hQ
  exact wpAny_truthy_bool hQ
 ·have e:((List.range its.toArray.size).all λ i=>bs.getD i false)=bs.all id:=by
   rw [Bool.eq_iff_iff,List.all_eq_true,List.all_eq_true]
   constructor
   ·intro z b hb
    obtain ⟨i,hi,rfl⟩:=List.mem_iff_getElem.mp hb
    have:=z i (by simp [← hlen,hi])
    simpa [List.getD,hi] using this
   ·intro z i hi
    have hi':i < bs.length:=by simpa [← hlen] using hi
    have:=z bs[i] (List.getElem_mem hi')
    simpa [List.getD,hi'] using this
  rw [e]
  exact ⟨.bl (bs.all id),H,I.kept λ b o q=>k b o (by simp; exact Nat.ne_of_lt (Heap.lt_size q)) (Heap.get?_push_of_some _ q),rfl,q⟩
end
end L2
namespace L2
open PySem PySem.Spec PyProof.Rows
section
variable {X:Cx}
theorem ZJw:Z3 X (.type "range") (λ xs H Q=>∃ j,xs=[.int j]/\∀ p,H p=none->Q (.ref p) (upd H p (.rng 0 j))):=by
 intro pins s σ H xs us Q I r h
 obtain ⟨j,rfl,q⟩:=h
 obtain ⟨u,rfl,ru⟩:=ZC9 r
 obtain ⟨t,rfl⟩:=ru
 refine call_range_1 ⟨.ref s.heap.objs.size,_,I.laid (t':=s.toks+1+1) (λ b o e=>Heap.get?_push_of_some _ e) (Nat.le_refl _) (o:=.rng 0 j) ?_,rfl,q _ (I.hok.fresh (Nat.le_refl _))⟩
 exact ⟨_,_,_,Heap.get?_push_size _ rfl⟩
def ZIE (n:Nat):List V:=(List.range n).map λ (i:Nat)=>V.int (i:Int)
theorem ZJr:∀ {ns:List Int} {ys:List Value},CarriedAll ys (ns.map PyData.int)->Zs (ns.map V.int) ys
 | [],_,h=>by cases h; exact .nil
 | n :: r,_,h=>by
  cases h with
  | cons a b =>
   cases a
   exact .cons ⟨_,rfl⟩ (ZJr b)
end
section
variable {X:Cx} {K:PySem.W.Frag}
end
end L2
namespace L2
open PySem PySem.Spec PyProof.Rows
section
variable {X:Cx}
end
end L2
namespace L2
open PySem PySem.Spec PyProof.Rows H1
def Zj (w:Int × Int):PyData:=.tuple [.int w.1,.int w.2]
def Zw (ws:List (Int × Int)):PyData:=.tuple (ws.map Zj)
def ZK6 (n:Nat × (Int × Int)):PyData:=.tuple [.int (n.1:Int),Zj n.2]
def ZH3 (ns:List (Nat × (Int × Int))):PyData:=.tuple (ns.map ZK6)
def gtW (a b:Int × Int):Bool:=HT.lexGt [a.1,a.2] [b.1,b.2]
theorem ZA6 {a b:Int × Int}:gtW a b=true ↔ b.1 < a.1 ∨ (a.1=b.1/\b.2 < a.2):=by
 have e:gtW a b=if a.1=b.1 then (if a.2=b.2 then false else decide (b.2 < a.2)) else decide (b.1 < a.1):=rfl
 rw [e]
 split
 ·split
  ·constructor
   ·intro z; cases z
   ·intro z; omega
  ·rw [decide_eq_true_iff]; omega
 ·rw [decide_eq_true_iff]; omega
end L2
namespace HI
open PySem PyProof.Rows
section
variable {prog:Program} {w:World} {A:Around} {E:Value->Shared->Prop} {s:Shared}
end
end HI
namespace L2
open PySem PySem.Spec PyProof.Rows
def Itz (K:PySem.W.Frag) (a b:Addr):It :=
 ⟨λ i H=>∃ xs ys x y,SqT K H a xs/\SqT K H b ys/\xs[i]? = some x/\ys[i]? = some y,λ i H v H'=>∃ p x y,v=.ref p/\H p=none/\H'=upd H p (.tup [x,y])/\∀ xs ys,SqT K H a xs->SqT K H b ys->xs[i]? = some x/\ys[i]? = some y,
  λ i H=>∃ xs ys,SqT K H a xs/\SqT K H b ys/\(xs.length<=i ∨ ys.length<=i)⟩
section
variable {X:Cx}
end
end L2
namespace HI
open PySem PyProof.Rows
section
variable {prog:Program} {w:World} {A:Around} {E:Value->Shared->Prop} {s:Shared} {R:Result->Shared->Prop}
end
end HI
namespace L2
open PySem PySem.Spec PyProof.Rows
section
variable {X:Cx}
end
end L2
namespace L2
open PySem PySem.Spec PyProof.Rows
section
variable {X:Cx} {pos:Pos}
def ZPy (i j l:Nat) (ta:TA):TS:=λ D σ H=>ta σ H λ vs H1=>∃ v w z,vs=[v,w,z]/\D.nx (((σ.set l (some z)).set j (some w)).set i (some v)) H1
theorem ZOI {i j l:Nat} {x y z:Str} {a b c:Expr} {ta:TA} {px py pz pt:Pos} {kt k2 pt2} (hc:X.calm=true) (hN:X.N.Nodup) (hi:X.N[i]? = some x) (hj:X.N[j]? = some y) (hl:X.N[l]? = some z)
  (hx:X.env.scope.names.lookup x=some .local) (hy:X.env.scope.names.lookup y=some .local) (hz:X.env.scope.names.lookup z=some .local) (ha:PA X [a,b,c] ta)
  (hw:swappedStores [.Tuple [.Name x px,.Name y py,.Name z pz] kt pt] (.Tuple [a,b,c] k2 pt2) X.env=pure (some [x,y,z]):=by rfl)
  (hs:swapsWithSole [.Tuple [.Name x px,.Name y py,.Name z pz] kt pt] (.Tuple [a,b,c] k2 pt2) pos.line X.env=pure false:=by rfl) :
  PS X (.Assign [.Tuple [.Name x px,.Name y py,.Name z pz] kt pt] (.Tuple [a,b,c] k2 pt2) pos) (ZPy i j l ta):=by
 intro pins s σ H D I h
 rw [exec_Assign_arm]
 refine wpAny_bind (wpAny_standAt ?_)
 rw [hs]
 refine wpAny_bind (wpAny_pure ?_)
 rw [if_neg (by decide)]
 refine wpAny_bind (Tuple_ (thn (ha _ pins s σ H _ I h) λ us s1 ⟨vs,H1,I1,r1,q1⟩=>?_))
 obtain ⟨v,w,v3,e1,q1⟩:=q1
 subst e1
 obtain ⟨u1,u2,u3,rfl,rv,rw',rz⟩:∃ u1 u2 u3,us=[u1,u2,u3]/\ZAD v u1/\ZAD w u2/\ZAD v3 u3:=by
  cases r1 with
  | cons p q =>
   cases q with
   | cons p' q' =>
    cases q' with
    | cons p2 q2 =>
     cases q2
     exact ⟨_,_,_,rfl,p,p',p2⟩
 refine wpAny_newObj_type ?_ (by show 3<=sizeLine; decide)
 have I2:Inv X pins σ H1 { s1 with heap:=s1.heap.push { cls:=.type "tuple",data:=.seq [u1,u2,u3].toArray } }:=I1.kept (t':=s1.toks) λ b o e=>Heap.get?_push_of_some _ e
 rw [hw]
 refine wpAny_bind (wpAny_pure ?_)
 show wpAny (model X.prog X.w) X.A (do rule "assign.swapped-stores"; let items ← unpackItems (.ref s1.heap.objs.size) 3 none; assignInOrder [λ v=>bindName X.env z v,λ v=>bindName X.env y v,λ v=>bindName X.env x v] items.reverse; pure Flow.next) _ _ _
 refine wpAny_bind (wpAny_rule (wpAny_bind (unpackItems_tuple (items:=#[u1,u2,u3]) (I.ok.hd hc) (IsTup.new s1.heap _) λ h' hx'=>?_)))
 have I3:=I2.kept (h':=h') (t':=s1.toks) λ b o e=>hx' b o (Nat.ne_of_lt (Heap.lt_size e)) e
 show wpAny _ _ (assignInOrder [λ v=>bindName X.env z v,λ v=>bindName X.env y v,λ v=>bindName X.env x v] [u3,u2,u1] >>= λ _=>pure Flow.next) _ _ _
 refine wpAny_bind (assignInOrder_cons (wpAny_bindName (ZB9 I3 hN hl (.inl hz) rz (λ s2 I4=>?_) (.inr hz))))
 refine assignInOrder_cons (wpAny_bindName (ZB9 I4 hN hj (.inl hy) rw' (λ s3 I5=>?_) (.inr hy)))
 refine assignInOrder_cons (wpAny_bindName (ZB9 I5 hN hi (.inl hx) rv (λ s4 I6=>assignInOrder_nil (wpAny_pure ?_)) (.inr hx)))
 exact ⟨_,H1,I6,q1⟩
end
end L2
namespace HT
open PySem PyProof.Rows
section
variable {prog:Program} {w:World} {A:Around} {E:Value->Shared->Prop} {s:Shared}
theorem getItem_tuple_whole {t sl:Addr} {items:Array Value} {vl vu:Value} {lo hi:Option Int} {Q:Value->Shared->Prop} (ht:IsTup s.heap t items) (hs:s.heap.IsSliceOf sl vl vu .none) (pl:IsPart vl lo) (pu:IsPart vu hi)
  (hw:sIx items.size 0 lo=0/\sIx items.size items.size hi=items.size) (h:Q (.ref t) s):wpAny (model prog w) A (getItem (.ref t) (.ref sl)) Q E s:=by
 obtain ⟨os,hos,hcs,hds⟩:=id hs
 have hTs:s.TypeIs (.ref sl) "slice":=⟨os,hos,hcs⟩
 unfold getItem
 try with_reducible refine wpAny_holding ?_
 first | refine wpAny_bind (wpAny_pure ?_) | skip
 refine wpAny_bind (wpAny_sequenceKey ht.typeIs (by decide) ?_)
 refine wpAny_bind (wpAny_callSpecial?_slot (name:=Str.ofString "__getitem__") ht.typeIs PyProof.Rows.slot_tuple_getitem
  (wpAny_call_entry PyProof.Rows.slot_tuple_getitem ht.typeIs entry_tuple_getitem ?_ (args_tuple_getitem _ _)))
 show wpAny _ _ (Builtin.Tuple.tupleItemsOf (.ref t) >>= _) _ _ s
 refine wpAny_bind (tupleItemsOf_ ht ?_)
 refine wpAny_bind (wpAny_typeOf hTs ?_)
 rw [if_pos (by decide)]
 refine wpAny_bind (ZDF hs pl pu ?_)
 show wpAny _ _ (if (((sIx items.size 0 lo:Nat):Int) == 0 && (1:Int) == 1 && (sIx items.size items.size hi - sIx items.size 0 lo) == items.size)=true then _ else _) _ _ s
 have hyes:(((sIx items.size 0 lo:Nat):Int) == 0 && (1:Int) == 1 && (sIx items.size items.size hi - sIx items.size 0 lo) == items.size)=true:=by
  rw [hw.1,hw.2]
  simp
 rw [if_pos hyes]
 unfold Builtin.Tuple.tupleIsExact
 refine wpAny_bind (wpAny_bind (wpAny_typeOf ht.typeIs (wpAny_pure ?_)))
 rw [if_pos (by rfl)]
 exact wpAny_bind (wpAny_rule (wpAny_pure ⟨_,rfl,wpAny_pure h⟩))
end
end HT
namespace L2
open PySem PySem.Spec PyProof.Rows
section
variable {X:Cx}
theorem ZPl:SlR X (λ x lo hi H Q=>∃ a xs,x=.ref a/\SqT X.K H a xs/\((HT.sIx xs.length 0 lo=0/\HT.sIx xs.length xs.length hi=xs.length)->Q (.ref a) H) /\
  (¬ (HT.sIx xs.length 0 lo=0/\HT.sIx xs.length xs.length hi=xs.length)->∀ p,H p=none->Q (.ref p) (upd H p (.tup (ZIx xs lo hi))))):=by
 intro pins s σ H x v vl vu lo hi sl Q I rx hs pl pu h
 obtain ⟨a,xs,rfl,hx,q1,q2⟩:=h
 by_cases hw:HT.sIx xs.length 0 lo=0/\HT.sIx xs.length xs.length hi=xs.length
 ·cases rx
  obtain ⟨its,r,ht,hz⟩:=I.tuple hx
  have hlen:its.toArray.size=xs.length:=by rw [List.size_toArray]; exact r.length.symm
  refine ⟨"tuple",_,PyProof.Rows.slot_tuple_getitem.lookup,ht.typeIs,?_⟩
  exact HT.getItem_tuple_whole ht hs pl pu (by rw [hlen]; exact hw) ⟨.ref a,H,I,rfl,q1 hw⟩
 ·exact ZQ6 pins s σ H (.ref a) v vl vu lo hi sl Q I rx hs pl pu ⟨a,xs,rfl,hx,hw,q2 hw⟩
theorem ZMk (hc:X.calm=true):Z3 X (.builtin "any") (λ xs H Q=>∃ (p:Addr) (bs:List Bool),xs=[.ref p]/\SqL X.K H p (bs.map V.bl)/\Q (.bl (bs.any id)) H):=by
 intro pins s σ H xs us Q I r h
 obtain ⟨p,bs,rfl,hq,q⟩:=h
 obtain ⟨u,rfl,ru⟩:=ZC9 r
 cases ru
 obtain ⟨its,rv,pl,hz⟩:=I.list hq
 have hlen:=rv.length
 rw [List.length_map] at hlen
 have hpl:p < s.heap.objs.size:=by
  obtain ⟨o,n,e,_⟩:=pl
  exact Heap.lt_size e
 refine call_any_walk (wpAny_pyIter_list pl.isList ⟨s.heap.objs.size,_,_,_,_,_,λ i=>bs.getD i false,rfl,Walks.list (A:=X.A.in1) (show X.A.in1.handled=none from I.ok.hd hc) s.heap.objs.size p (Nat.ne_of_lt hpl) its.toArray,?_,?_,λ h' tk k=>?_⟩)
 ·exact ⟨⟨_,Heap.get?_push_size _ rfl,rfl,rfl⟩,pl.isList.at λ o e=>Heap.get?_push_of_some _ e⟩
 ·intro i v s' Q' E' hv hQ
  have hv':its[i]? = some v:=by simpa using hv
  have hi:i < bs.length:=by rw [hlen]; exact (List.getElem?_eq_some_iff.mp hv').1
  obtain ⟨u,hu,ru⟩:=rv.get (i:=i) (x:=V.bl bs[i]) (by simp [hi])
  rw [hv'] at hu
  cases hu
  cases ru
  have e:bs.getD i false=bs[i]:=by simp [List.getD,hi]
  dsimp only at hQ
  rw [e] at hQ
  exact wpAny_truthy_bool hQ
 ·have e:((List.range its.toArray.size).any λ i=>bs.getD i false)=bs.any id:=by
   rw [Bool.eq_iff_iff,List.any_eq_true,List.any_eq_true]
   constructor
   ·rintro ⟨i,hi,z⟩
    have hi':i < bs.length:=by simpa [← hlen] using hi
    exact ⟨bs[i],List.getElem_mem hi',by simpa [List.getD,hi'] using z⟩
   ·rintro ⟨b,hb,z⟩
    obtain ⟨i,hi,rfl⟩:=List.mem_iff_getElem.mp hb
    exact ⟨i,by simp [← hlen,hi],by simpa [List.getD,hi] using z⟩
  rw [e]
  exact ⟨.bl (bs.any id),H,I.kept λ b o q=>k b o (by simp; exact Nat.ne_of_lt (Heap.lt_size q)) (Heap.get?_push_of_some _ q),rfl,q⟩
end
end L2
namespace L2
open PySem PySem.Spec PyProof.Rows
section
variable {X:Cx} {e m:Expr} {te tm:TE} {pos p2:Pos}
end
end L2
namespace L2
open PySem PySem.Spec PyProof.Rows H1
end L2
namespace HT
open PySem PyProof.Rows
section
variable {prog:Program} {w:World} {A:Around} {E:Value->Shared->Prop} {s:Shared}
end
end HT
namespace L2
open PySem PySem.Spec PyProof.Rows
def ZOA (a:Addr):HO:=.ext λ h=>∃ o,h.get? a=some o/\o.cls=.type "dict"
inductive Kd (K:PySem.W.Frag) (H:Hp):V->String->Prop
 | non:Kd K H .non "NoneType"
 | bl (b:Bool):Kd K H (.bl b) "bool"
 | int (i:Int):Kd K H (.int i) "int"
 | str (x:Str):Kd K H (.str x) "str"
 | lst {a:Addr} {xs:List V}:H a=some (.lst xs)->Kd K H (.ref a) "list"
 | tup {a:Addr} {xs:List V}:SqT K H a xs->Kd K H (.ref a) "tuple"
 | dct {a:Addr}:H a=some (ZOA a)->Kd K H (.ref a) "dict"
def isi (k T:String):Bool:=decide (k=T) || (decide (k = "bool") && decide (T = "int"))
section
variable {X:Cx} {pos p2:Pos}
theorem ZMJ:Z3 X (.builtin "isinstance") (λ xs H Q=>∃ (x:V) (T k:String),xs=[x,.ty T]/\Kd X.K H x k/\(T = "int" ∨ T = "bool" ∨ T = "tuple" ∨ T = "str")/\Q (.bl (isi k T)) H):=by
 intro pins s σ H xs us Q I r h
 obtain ⟨x,T,k,rfl,kd,hT,q⟩:=h
 obtain ⟨u,w',rfl,ru,rw'⟩:=ZP7 r
 cases rw'
 have fin:∀ (t:Value),PySem.W.kitOne X.K t (.type T)=some (isi k T)->∀ {HH:Heap->Prop},PySem.W.KitX X.K u t HH->HH s.heap->(u ≠ Value.builtin "__main__.__loader__#opaque")->wpAny (model X.prog X.w) X.A (call (.builtin "isinstance") [u,.type T]) (EP X pins σ Q) X.xe s:=λ t e _ kx hh hu =>
  PySem.W.kia_one kx I.kIn hh e hu λ tk=>⟨.bl _,H,I.tok tk,rfl,q⟩
 cases kd with
 | non=>cases ru; exact fin (.type "NoneType") (by rcases hT with rfl | rfl | rfl | rfl <;> rfl) PySem.W.kitx_none True.intro (λ z=>nomatch z)
 | bl y=>cases ru; exact fin (.type "bool") (by rcases hT with rfl | rfl | rfl | rfl <;> rfl) PySem.W.kitx_bool True.intro (λ z=>nomatch z)
 | int i=>obtain ⟨t,rfl⟩:=ru; exact fin (.type "int") (by rcases hT with rfl | rfl | rfl | rfl <;> rfl) PySem.W.kitx_int True.intro (λ z=>nomatch z)
 | str y=>obtain ⟨t,rfl⟩:=ru; exact fin (.type "str") (by rcases hT with rfl | rfl | rfl | rfl <;> rfl) PySem.W.kitx_str True.intro (λ z=>nomatch z)
 | @lst a xs ea =>
  cases ru
  obtain ⟨_,_,n,_,h1⟩:=(show ZBw X.prog X.w H s.heap a (.lst xs) from I.hok a _ ea)
  exact fin (.type "list") (by rcases hT with rfl | rfl | rfl | rfl <;> rfl) PySem.W.kitx_list ⟨_,h1,rfl⟩ (λ z=>nomatch z)
 | @tup a xs ea =>
  cases ru
  obtain ⟨_,_,⟨o,h1,h2,_⟩,_⟩:=I.tuple ea
  exact fin (.type "tuple") (by rcases hT with rfl | rfl | rfl | rfl <;> rfl) PySem.W.kitx_tuple ⟨o,h1,h2⟩ (λ z=>nomatch z)
 | @dct a ea =>
  cases ru
  obtain ⟨⟨o,h1,h2⟩,_⟩:=(show ZBw X.prog X.w H s.heap a (ZOA a) from I.hok a _ ea)
  exact fin (.type "dict") (by rcases hT with rfl | rfl | rfl | rfl <;> rfl) PySem.W.kitx_dict ⟨o,h1,h2⟩ (λ z=>nomatch z)
theorem ZLm:OpR X (compareOp .IsNot) (λ x y H Q=>∃ i j,x=.bl i/\y=.bl j/\Q (.bl (!(i == j))) H):=by
 intro pins s σ H x y v u Q I rx ry h
 obtain ⟨i,j,rfl,rfl,q⟩:=h
 cases rx
 cases ry
 exact isnot_bool ⟨.bl _,H,I,rfl,q⟩
def ZJO (mg:Str->Option Value) (x:Str) (n:Int):Prop:=∃ t,mg x=some (.int n t)
theorem ZNc {x:Str} {n:Int} (hg:Gl X x) (h:ZJO X.mg x n) (hd:(x == ("__debug__" : Str))=false:=by decide):PE X (.Name x pos) (tC (.int n)):=by
 obtain ⟨t,e⟩:=h
 exact ZPN hg e ⟨t,rfl⟩ hd
end
end L2
namespace L2
open PySem PySem.Spec PyProof.Rows H1
end L2
namespace L2
open PySem PySem.Spec PyProof.Rows
section
variable {X:Cx} {es:List Expr} {te:TE} {t:TA}
end
end L2
namespace HT
open PySem PyProof.Rows
open Builtin
section
variable {prog:Program} {w:World} {A:Around} {E:Value->Shared->Prop} {s:Shared}
theorem cat_tupA {t b:Addr} {vs ws:List Value} {Q:Value->Shared->Prop} (ht:IsTup s.heap t vs.toArray) (hb:IsTup s.heap b ws.toArray)
  (h0:vs=[]->Q (.ref b) s) (h1:vs ≠ []->ws=[]->Q (.ref t) s) (h2:vs ≠ []->ws ≠ []->Q (.ref s.heap.objs.size) { s with heap:=s.heap.push { cls:=.type "tuple",data:=.seq (vs ++ ws).toArray } })
  (hsz:vs.length+ws.length<=sizeLine):wpAny (model prog w) A (binaryOp .Add (.ref t) (.ref b)) Q E s:=by
 by_cases hv:vs=[]
 ·obtain ⟨⟨cls,dd,data,sl⟩,ho,hc,n,hd⟩:=id ht
  obtain ⟨⟨cls2,dd2,data2,sl2⟩,ho2,hc2,n2,hd2⟩:=id hb
  simp only at hc hd hc2 hd2
  subst hc hd hc2 hd2
  exact concat_meets ⟨_,ho,rfl⟩ ⟨_,ho2,rfl⟩ noFill_tuple_add seq_tuple_add PySem.F.slot_tuple_add PySem.F.entry_tuple_add (PySem.F.args_tuple_add_2 _ _)
   (tuple_addW0 t b vs.toArray ws.toArray n n2 dd dd2 sl sl2 (by simp [hv])) ⟨ho,ho2,h0 hv⟩
 ·exact ZOp ht hb hv (h1 hv) (h2 hv) hsz
theorem noFill_tuple_mul:fillsNumberSlot (.type "tuple") "mul" = pure false :=
 PySem.fillsNumberSlot_seq (id:="tuple.__mul__") (r:=some (.builtin "tuple.__rmul__")) F.slot_tuple_mul.lookup (by decide +kernel) F.slot_tuple_rmul.lookup (by decide +kernel)
theorem repeat_tuple:seqRepeat? (.type "tuple")=pure (some (.builtin "tuple.__mul__")):=by
 unfold seqRepeat?
 rw [PySem.seqSlot_of (T:="tuple") (name:="__mul__") (id:="tuple.__mul__") F.slot_tuple_mul.lookup (by decide +kernel),PySem.seqSlot_of (T:="tuple") (name:="__rmul__") (id:="tuple.__rmul__") F.slot_tuple_rmul.lookup (by decide +kernel)]
 rfl
theorem rmul_tup (a:Int) (t:Tok) (l:Addr) (items:Array Value) (n:Nat) (dd:Option Addr) (sl:Array (Option Value)) :
  Meets (Builtin.«int.__rmul__» ⟨[.int a t,.ref l],[]⟩) (λ _ R s=>s.heap.get? l=some { cls:=.type "tuple",dict:=dd,data:=.seq items n,slots:=sl }/\R (.ok (.ret Value.notImplemented)) s) :=
 .of_wp λ prog w A R s h=>by obtain ⟨hp,g,d,tk,os⟩:=s; obtain ⟨hl,h⟩:=h; wp_walk; exact ⟨_,rfl,h⟩
theorem tuple_mulW (l:Addr) (items:Array Value) (n:Nat) (dd:Option Addr) (sl:Array (Option Value)) (k:Int) (t:Tok) (hc0 : ¬ (decide (k < -(2 ^ 63)) || decide (k ≥ 2 ^ 63))=true) (hc1 : ¬ (items.isEmpty || k == 1)=true) (hc2 : ¬ (decide (k<=0) || items.isEmpty)=true)
  (hc3 : ¬ ((items.size:Int) * k > (2 ^ 63 - 1) / 8)) (hc4 : ¬ Builtin.Tuple.tupleTooMany ((items.size:Int) * k)=true) (hsz:((List.replicate k.toNat items).foldl (· ++ ·) #[]).size<=sizeLine) :
  Meets (Builtin.«tuple.__mul__» ⟨[.ref l,.int k t],[]⟩) (λ _ R s=>s.heap.get? l=some { cls:=.type "tuple",dict:=dd,data:=.seq items n,slots:=sl }/\R (.ok (.ret (Value.ref s.heap.objs.size))) { s with heap:=s.heap.push { cls:=Value.type "tuple",data:=Data.seq ((List.replicate k.toNat items).foldl (· ++ ·) #[]) },toks:=s.toks }) :=
 .of_wp λ prog w A R s h=>by
  obtain ⟨hp,g,d,tk,os⟩:=s
  obtain ⟨hl,h⟩:=h
  have f1:=AutoSeq1.idx_int
  have f2:=AutoSeq1.sub_tuple_tuple
  wp_walk using wpAny_loadPart' hl
  rw [if_neg hc0]
  wp_walk using wpAny_loadPart' hl
  rw [if_neg hc3]
  wp_walk using wpAny_loadPart' hl
  exact ⟨_,rfl,h⟩
end
end HT
namespace L2
open PySem PySem.Spec PyProof.Rows
section
variable {X:Cx}
end
end L2
namespace L2
open PySem PySem.Spec PyProof.Rows H1
section
variable {X:Cx} {K:PySem.W.Frag}
end
end L2
namespace L2
open PySem PySem.Spec PyProof.Rows H1
section
variable {X:Cx}
end
end L2
namespace L2
open PySem PySem.Spec PyProof.Rows H1
abbrev Hs:=Int × List (Int × Int) × List Int × List Int
def Zl (ns:List Int):PyData:=.tuple (ns.map .int)
def Zh (h:Hs):PyData:=.tuple [.int h.1,Zw h.2.1,Zl h.2.2.1,Zl h.2.2.2]
def Zq (t:Int) (hs:List Hs):PyData:=.tuple [.int t,.tuple (hs.map Zh)]
end L2
namespace L2
open PySem PySem.Spec PyProof.Rows H1
structure Ru where
 o:Int
 w:Int
 t:Int
 c:Int
 cl:List Str
def clD (cl:List Str):PyData:=.tuple (cl.map .str)
def ruD (r:Ru):PyData:=.tuple [.int r.o,.int r.w,.int r.t,.int r.c,clD r.cl]
structure RuOk (r:Ru):Prop where
 o : 0<=r.o/\r.o<=3
 w : 1<=r.w/\r.w<=9
 t : 0<=r.t/\r.t<=9
 c : 0<=r.c/\r.c<=8
 l:r.cl.length<=7
def ZL2 (c:Int × Int):Prop:=1<=c.1/\c.1<=4/\0<=c.2/\c.2 < c.1
end L2
namespace L2
open PySem PySem.Spec PyProof.Rows H1
def ZEI (cl:List Str) (x:Str):Bool:=inV (.str x) (cl.map V.str)
theorem ZOC (a b:Int × Int):(Zj a).eqv (Zj b)=decide (a=b):=by
 show ((a.1 == b.1) && ((a.2 == b.2) && true))=decide (a=b)
 rw [Bool.eq_iff_iff,Bool.and_true,Bool.and_eq_true,beq_iff_eq,beq_iff_eq,decide_eq_true_iff,Prod.ext_iff]
def ZIV (cl:List Str) (old word:Int × Int):Bool:=if ZEI cl "newer" = true then gtW word old else !decide (word=old)
def ZIC (cl:List Str) (h:Hs) (y:Nat) (w:Int × Int):Hs:=if h.1=1/\ZEI cl "refute" = true/\gtW w (h.2.1.getD y (0,0))=true then (h.1,h.2.1.set y (w.1+1,0),h.2.2.1.set y 0,h.2.2.2) else h
def ZIW (cl:List Str) (h:Hs) (o:Nat) (w:Int × Int):Hs:=if ZIV cl (h.2.1.getD o (0,0)) w=true then (h.1,h.2.1.set o w,h.2.2.1.set o 0,if w.2=1 then h.2.2.2 else h.2.2.2.set o 0) else h
def ZAz (cl:List Str) (y:Nat) (h:Hs) (n:Nat × (Int × Int)):Hs:=if n.1=y then ZIC cl h y n.2 else ZIW cl h n.1 n.2
def ZAR (cl:List Str) (y:Nat) (h:Hs) (ns:List (Nat × (Int × Int))):Hs:=ns.foldl (ZAz cl y) h
theorem ZKc {α : Type} {xs:List α} {i:Nat} {x y : α} {P : α->Prop} (h:∀ z ∈ xs,P z) (hx:P x):y ∈ xs.set i x->P y:=λ hy=>by
 rcases List.mem_or_eq_of_mem_set hy with z | z
 ·exact h y z
 ·rw [z]; exact hx
theorem ZJi {cl:List Str} {y i:Nat} {h:Hs} {ns:List (Nat × (Int × Int))} {x:Nat × (Int × Int)} (e:ns[i]? = some x):ZAR cl y h (ns.take (i+1))=ZAz cl y (ZAR cl y h (ns.take i)) x:=by
 unfold ZAR
 rw [List.take_add_one,e,List.foldl_append]
 rfl
end L2
namespace HU
open PySem PyProof.Rows
section
variable {prog:Program} {w:World} {A:Around} {E:Value->Shared->Prop}
variable {st:Shared}
end
end HU
namespace L2
open PySem PySem.Spec PyProof.Rows H1
section
variable {X:Cx} {pos:Pos}
end
end L2
namespace L2
open PySem PySem.Spec PyProof.Rows H1
end L2
namespace L2
open PySem PySem.Spec PyProof.Rows H1
end L2
namespace L2
open PySem PySem.Spec PyProof.Rows H1
end L2
namespace L2
open PySem PySem.Spec PyProof.Rows H1
section
variable {X:Cx} {K:PySem.W.Frag}
end
end L2
namespace L2
open PySem PySem.Spec PyProof.Rows H1
end L2
namespace L2
open PySem PySem.Spec PyProof.Rows H1
def ZFf (t:Int) (n:Nat):Hs:=(1,List.replicate n (0,0),List.replicate n t,List.replicate n 0)
end L2
namespace L2
open PySem PySem.Spec PyProof.Rows H1
end L2
namespace L2
open PySem PySem.Spec PyProof.Rows H1
end L2
namespace L2
open PySem PySem.Spec PyProof.Rows H1
end L2
namespace L2
open PySem PySem.Spec PyProof.Rows H1
end L2
namespace HT
open PySem PyProof.Rows
def lexGe:List Int->List Int->Bool
 | [],[]=>true
 | [],_ :: _=>false
 | _ :: _,[]=>true
 | x :: xs,y :: ys=>if x=y then lexGe xs ys else decide (y<=x)
theorem ZKT (x y:Int) (xs ys:List Int):lexGe (x :: xs) (y :: ys)=if x=y then lexGe xs ys else decide (y<=x):=rfl
theorem ZHG:lexGe [] []=true:=rfl
theorem ZGv (y:Int) (ys:List Int):lexGe [] (y :: ys)=false:=rfl
theorem ZGG (x:Int) (xs:List Int):lexGe (x :: xs) []=true:=rfl
theorem ZNf (A:Around) (s:Shared) (a:Int) (t:Tok) (c:Int) (u:Tok) (prog:Program) (w:World) (E:Value->Shared->Prop) (Q:Value->Shared->Prop) (h:Q (.bool (decide (c<=a))) s) :
  wpAny (model prog w) A (richCompare .GtE (.int a t) (.int c u)) Q E s :=
 (PyProof.Rows.ge_int h:wpAny (model prog w) A (compareOp .GtE (.int a t) (.int c u)) Q E s)
section
open PySem.SeqAt
open PySem.AutoSeq1 (wpAny_loadPart')
open PySem.MeetsSeq PySem.MeetsSeq2 PySem.MeetsSeq3
theorem ZG2 (l b:Addr) (items items2:Array Value) (n n2:Nat) (dd dd2:Option Addr) (sl sl2:Array (Option Value)) (ns ms:List Int) (hi:IntsAre items.toList ns) (hj:IntsAre items2.toList ms) :
  Meets (Builtin.«tuple.__ge__» ⟨[.ref l,.ref b],[]⟩)
   (λ _ R s=>s.heap.get? l=some { cls:=.type "tuple",dict:=dd,data:=.seq items n,slots:=sl }/\s.heap.get? b=some { cls:=.type "tuple",dict:=dd2,data:=.seq items2 n2,slots:=sl2 } /\
    R (.ok (.ret (.bool (lexGe ns ms)))) s) :=
 .of_wp λ prog w A R s h=>by
  obtain ⟨hp,g,d,tk,os⟩:=s; obtain ⟨hl,hb,h⟩:=h
  have f2:=AutoSeq1.sub_tuple_tuple
  have z1:items.size=ns.length:=by rw [← hi.length]; simp
  have z2:items2.size=ms.length:=by rw [← hj.length]; simp
  wp_walk using wpAny_loadPart' hl,wpAny_loadPart' hb,wpAny_forIn_list _ (λ rest b s'=>b.1=none/\s'=⟨hp,g,d,tk,os⟩/\∃ (vs ws:List Value) (ns' ms':List Int),rest=vs.zip ws /\
   IntsAre vs ns'/\IntsAre ws ms'/\ns'.length+items2.size=ms'.length+items.size/\R (.ok (.ret (.bool (lexGe ns' ms')))) ⟨hp,g,d,tk,os⟩) _
  case turn =>
   rintro ⟨y,x⟩ rest b s' ⟨hb',rfl,vs,ws,ns',ms',hz,hvi,hwi,hlen,hR⟩
   cases hvi with
   | nil=>rw [List.zip_nil_left] at hz; cases hz
   | cons a t hvi' =>
    cases hwi with
    | nil=>rw [List.zip_nil_right] at hz; cases hz
    | cons c u hwi' =>
     rw [List.zip_cons_cons] at hz
     injection hz with hyx hrest
     injection hyx with hy hx
     subst hy hx
     rw [ZKT] at hR
     simp only [List.length_cons] at hlen
     obtain ⟨e,he,hiff⟩:=ZGH A.in1 ⟨hp,g,d,tk,os⟩ a t c u
     refine wpAny_bind (he prog w _ _ ?_)
     cases e with
     | true =>
      rw [if_pos (hiff.mp rfl)] at hR
      wp_walk
      exact ⟨rfl,rfl,_,_,_,_,hrest,hvi',hwi',by omega,hR⟩
     | false =>
      rw [if_neg (λ q=>absurd (hiff.mpr q) Bool.false_ne_true)] at hR
      have hri:=ZNf A.in1 ⟨hp,g,d,tk,os⟩ a t c u prog w
      wp_walk using hri
      exact ⟨_,rfl,by simpa using hR⟩
  case fin =>
   rintro ⟨b1,b2⟩ s' ⟨hb',rfl,vs,ws,ns',ms',hz,hvi,hwi,hlen,hR⟩
   simp only at hb'
   subst hb'
   have hv:lexGe ns' ms'=decide (items.size ≥ items2.size):=by
    cases hvi with
    | nil =>
     cases hwi with
     | nil =>
      simp only [List.length_nil] at hlen
      rw [ZHG]
      exact (decide_eq_true (by omega)).symm
     | cons c u hw =>
      simp only [List.length_nil,List.length_cons] at hlen
      rw [ZGv]
      exact (decide_eq_false (by omega)).symm
    | cons a t hv =>
     cases hwi with
     | nil =>
      simp only [List.length_nil,List.length_cons] at hlen
      rw [ZGG]
      exact (decide_eq_true (by omega)).symm
     | cons c u hw =>
      rw [List.zip_cons_cons] at hz
      cases hz
   rw [hv] at hR
   wp_walk
   exact ⟨_,rfl,by simpa [Builtin.Tuple.tupleCompareSizes] using hR⟩
  case h =>
   exact ⟨rfl,rfl,items.toList,items2.toList,ns,ms,rfl,hi,hj,by omega,h⟩
end
section
variable {prog:Program} {w:World} {A:Around} {E:Value->Shared->Prop} {s:Shared}
theorem ge_tupInts {l b:Addr} {items items2:Array Value} {ns ms:List Int} {Q:Value->Shared->Prop} (hl:IsTup s.heap l items) (hb:IsTup s.heap b items2) (hi:IntsAre items.toList ns) (hj:IntsAre items2.toList ms)
  (hu:A.units < cLine) (h:Q (.bool (lexGe ns ms)) s):wpAny (model prog w) A (compareOp .GtE (.ref l) (.ref b)) Q E s:=by
 obtain ⟨⟨cls,dd,data,sl⟩,ho,hc,n,hd⟩:=id hl
 obtain ⟨⟨cls2,dd2,data2,sl2⟩,ho2,hc2,n2,hd2⟩:=id hb
 simp only at hc hd hc2 hd2
 subst hc hd hc2 hd2
 exact richCompare_meets_room (op:=.GtE) ⟨_,ho,rfl⟩ ⟨_,ho2,rfl⟩ PySem.F.slot_tuple_ge PySem.F.entry_tuple_ge (PySem.F.args_tuple_ge_2 _ _) (ZG2 l b items items2 n n2 dd dd2 sl sl2 ns ms hi hj)
  ⟨ho,ho2,show Value.bool (lexGe ns ms) ≠ Value.notImplemented/\Q (.bool (lexGe ns ms)) s from ⟨(λ x=>nomatch x),h⟩⟩ hu
end
end HT
namespace L2
open PySem PySem.Spec PyProof.Rows
section
variable {X:Cx} {a b:Expr} {ta tb:TE} {pos:Pos}
def rGeT (K:PySem.W.Frag):R2:=λ x y H Q=>∃ a b ns ms,x=.ref a/\y=.ref b/\SqT K H a (ns.map V.int)/\SqT K H b (ms.map V.int)/\Q (.bl (HT.lexGe ns ms)) H
theorem ZRH (hu:X.A.units < cLine):OpR X (compareOp .GtE) (rGeT X.K):=by
 intro pins s σ H x y v u Q I rx ry h
 obtain ⟨a,b,ns,ms,rfl,rfl,ha,hb,q⟩:=h
 cases rx
 cases ry
 obtain ⟨its,r1,p1,_⟩:=I.tuple ha
 obtain ⟨its2,r2,p2,_⟩:=I.tuple hb
 have i1:IntsAre its.toArray.toList ns:=ZBh r1
 have i2:IntsAre its2.toArray.toList ms:=ZBh r2
 exact HT.ge_tupInts p1 p2 i1 i2 hu ⟨.bl (HT.lexGe ns ms),H,I,rfl,q⟩
end
end L2
namespace L2
open PySem PySem.Spec PyProof.Rows H1
section
variable {X:Cx} {K:PySem.W.Frag}
end
end L2
namespace L2
open PySem PySem.Spec PyProof.Rows H1
end L2
namespace L2
open PySem PySem.Spec PyProof.Rows H1
end L2
namespace L2
open PySem PySem.Spec PyProof.Rows H1
section
variable {X:Cx}
end
end L2
namespace L2
open PySem PySem.Spec PyProof.Rows H1
end L2
namespace L2
open PySem PySem.Spec PyProof.Rows H1
end L2
namespace L2
open PySem PySem.W PyProof.Rows H1
def ZMQ {α : Type} (f:Nat->Nat->Option Bool):KasT α->Option α
 | .ret a=>some a
 | .ask i j k=>match f i j with
  | some b=>ZMQ f (k b)
  | none=>none
theorem ZLB {α : Type} {cmp:Nat->Nat->(Bool->Shared->Prop)->Shared->Prop} {f:Nat->Nat->Option Bool} {s:Shared} {Q : α->Shared->Prop} (hc:∀ i j b (C:Bool->Shared->Prop),f i j=some b->C b s->cmp i j C s):∀ (t:KasT α) {a : α},ZMQ f t=some a->Q a s->t.kasWp cmp Q s
 | .ret a,b,h,q=>by
  cases h
  exact q
 | .ask i j k,a,h,q=>by
  show cmp i j (λ b s'=>(k b).kasWp cmp Q s') s
  unfold ZMQ at h
  cases hf:f i j with
  | none=>rw [hf] at h; cases h
  | some b =>
   rw [hf] at h
   exact hc i j b _ hf (ZLB hc (k b) h q)
def rkF (π : List Nat) (i j:Nat):Option Bool:=if (Nat.blt i π.length && Nat.blt j π.length)=true then some (Nat.blt (π.getD i 0) (π.getD j 0)) else none
def chk (π : List Nat):Bool:=match ZMQ (rkF π) (kas_sort π.length) with
 | none=>false
 | some p=>p.toList.isPerm (List.range π.length) && (p.toList.map (λ i=>π.getD i 0) == List.range π.length)
def pl (n:Nat):Nat->List (List Nat)
 | 0=>[[]]
 | k+1=>(pl n k).flatMap λ l=>((List.range n).filter λ x=>!l.contains x).map λ x=>x :: l
theorem ZNk {n:Nat}:∀ {π : List Nat},π.Nodup->(∀ x ∈ π,x < n)->π ∈ pl n π.length
 | [],_,_=>List.mem_singleton.mpr rfl
 | x :: r,hn,hl=>by
  obtain ⟨h1,h2⟩:=List.nodup_cons.mp hn
  show x :: r ∈ (pl n r.length).flatMap _
  rw [List.mem_flatMap]
  refine ⟨r,ZNk h2 λ y hy=>hl y (List.mem_cons_of_mem _ hy),List.mem_map.mpr ⟨x,List.mem_filter.mpr ⟨List.mem_range.mpr (hl x (List.mem_cons_self ..)),?_⟩,rfl⟩⟩
  simpa using h1
theorem chk2:(pl 2 2).all chk=true:=by decide +kernel
theorem chk3:(pl 3 3).all chk=true:=by decide +kernel
theorem chk4:(pl 4 4).all chk=true:=by decide +kernel
theorem chk5:(pl 5 5).all chk=true:=by decide +kernel
theorem chk6:(pl 6 6).all chk=true:=by decide +kernel
theorem ZOH {n:Nat} (h2 : 2<=n) (h6:n<=6):(pl n n).all chk=true:=by
 obtain rfl | rfl | rfl | rfl | rfl:n=2 ∨ n=3 ∨ n=4 ∨ n=5 ∨ n=6:=by omega
 ·exact chk2
 ·exact chk3
 ·exact chk4
 ·exact chk5
 ·exact chk6
theorem ZBZ {α : Type} {p q : α->Bool}:∀ {l:List α},(∀ x ∈ l,p x=true->q x=true)->(∃ x,x ∈ l/\q x=true/\p x=false)->l.countP p < l.countP q
 | [],_,⟨_,z,_⟩=>nomatch z
 | a :: r,h,⟨x,hx,hq,hp⟩=>by
  rw [List.countP_cons,List.countP_cons]
  have hle:r.countP p<=r.countP q:=List.countP_mono_left λ y hy=>h y (List.mem_cons_of_mem _ hy)
  have ha:=h a (List.mem_cons_self ..)
  rcases List.mem_cons.mp hx with rfl | hx
  ·rw [hq,hp,if_pos rfl,if_neg (by decide)]
   omega
  ·have:=ZBZ (λ y hy=>h y (List.mem_cons_of_mem _ hy)) ⟨x,hx,hq,hp⟩
   by_cases c:p a=true
   ·rw [c,ha c]
    omega
   ·rw [if_neg c]
    omega
theorem ZID (a:Int × Int):gtW a a=false:=by
 cases h:gtW a a with
 | false=>rfl
 | true =>
  rcases ZA6.mp h with z | z
  ·omega
  ·omega
theorem ZMP {a b c:Int × Int} (h1:gtW a b=true) (h2:gtW b c=true):gtW a c=true:=by
 rw [ZA6] at *
 omega
theorem ZLM {a b:Int × Int} (h:a ≠ b):gtW a b=true ∨ gtW b a=true:=by
 rw [ZA6,ZA6]
 by_cases c:a.1=b.1
 ·by_cases d:a.2=b.2
  ·exact absurd (Prod.ext c d) h
  ·omega
 ·omega
def ZDk (ks:List (Int × Int)) (k:Int × Int):Nat:=ks.countP λ x=>gtW k x
theorem ZOg {ks:List (Int × Int)} {k:Int × Int} (h:k ∈ ks):ZDk ks k < ks.length:=by
 have:=ZBZ (p:=λ x=>gtW k x) (q:=λ _=>true) (l:=ks) (λ _ _ _=>rfl) ⟨k,h,rfl,ZID k⟩
 rw [List.countP_true] at this
 exact this
theorem ZED {ks:List (Int × Int)} {a b:Int × Int} (h:a ∈ ks) (g:gtW b a=true):ZDk ks a < ZDk ks b :=
 ZBZ (λ _ _ e=>ZMP g e) ⟨a,h,g,ZID a⟩
theorem ZI1 {ks:List (Int × Int)} {a b:Int × Int} (ha:a ∈ ks) (hb:b ∈ ks):Nat.blt (ZDk ks a) (ZDk ks b)=gtW b a:=by
 cases h:gtW b a with
 | true=>exact Nat.blt_eq.mpr (ZED ha h)
 | false =>
  cases c:Nat.blt (ZDk ks a) (ZDk ks b) with
  | false=>rfl
  | true =>
   have c:=Nat.blt_eq.mp c
   by_cases e:a=b
   ·rw [e] at c
    exact absurd c (Nat.lt_irrefl _)
   ·rcases ZLM e with z | z
    ·have:=ZED hb z
     omega
    ·rw [h] at z
     cases z
def ZLw (ks:List (Int × Int)) (i j:Nat):Option Bool:=if (Nat.blt i ks.length && Nat.blt j ks.length)=true then some (gtW (ks.getD j (0,0)) (ks.getD i (0,0))) else none
theorem ZGC {α : Type} {xs:List α} {i:Nat} {d : α} (h:i < xs.length):xs.getD i d ∈ xs:=by
 rw [List.getD_eq_getElem?_getD,List.getElem?_eq_getElem h]
 exact List.getElem_mem h
theorem ZEC {ks:List (Int × Int)} {g:Int × Int->Nat} {i:Nat} (h:i < ks.length):(ks.map g).getD i 0=g (ks.getD i (0,0)):=by
 rw [List.getD_eq_getElem?_getD,List.getD_eq_getElem?_getD,List.getElem?_map,List.getElem?_eq_getElem h]
 rfl
theorem ZOk (ks:List (Int × Int)):ZLw ks=rkF (ks.map (ZDk ks)):=by
 funext i j
 unfold ZLw rkF
 rw [List.length_map]
 by_cases c:(Nat.blt i ks.length && Nat.blt j ks.length)=true
 ·rw [if_pos c,if_pos c]
  have c':=c
  rw [Bool.and_eq_true,Nat.blt_eq,Nat.blt_eq] at c'
  rw [ZEC c'.1,ZEC c'.2,ZI1 (ZGC c'.1) (ZGC c'.2)]
 ·rw [if_neg c,if_neg c]
theorem ZKF {ks:List (Int × Int)} (hn:ks.Nodup) (h2 : 2<=ks.length) (h6:ks.length<=6):∃ p:Array Nat,ZMQ (ZLw ks) (kas_sort ks.length)=some p/\p.toList.Perm (List.range ks.length)/\(p.toList.map λ i=>ks.getD i (0,0)).Pairwise (λ a b=>gtW b a=true):=by
 have hN:(ks.map (ZDk ks)).Nodup:=by
  unfold List.Nodup
  rw [List.pairwise_map]
  refine List.Pairwise.imp_of_mem (λ {a b} ha hb hab e=>?_) hn
  rcases ZLM hab with z | z
  ·have:=ZED hb z
   omega
  ·have:=ZED ha z
   omega
 have hL:∀ x ∈ ks.map (ZDk ks),x < ks.length:=λ x hx=>by
  obtain ⟨k,hk,rfl⟩:=List.mem_map.mp hx
  exact ZOg hk
 have hm:=ZNk hN hL
 rw [List.length_map] at hm
 have hc:=List.all_eq_true.mp (ZOH h2 h6) _ hm
 unfold chk at hc
 rw [← ZOk,List.length_map] at hc
 cases hr:ZMQ (ZLw ks) (kas_sort ks.length) with
 | none=>rw [hr] at hc; cases hc
 | some p =>
  rw [hr] at hc
  have hc:=Bool.and_eq_true_iff.mp hc
  have hp:p.toList.Perm (List.range ks.length):=List.isPerm_iff.mp hc.1
  have he:p.toList.map (λ i=>(ks.map (ZDk ks)).getD i 0)=List.range ks.length:=eq_of_beq hc.2
  refine ⟨p,rfl,hp,?_⟩
  have hw:(p.toList.map (λ i=>(ks.map (ZDk ks)).getD i 0)).Pairwise (· < ·):=by
   rw [he]
   exact List.pairwise_lt_range
  rw [List.pairwise_map] at hw ⊢
  refine List.Pairwise.imp_of_mem (λ {a b} ha hb hab=>?_) hw
  have ha':=List.mem_range.mp (hp.mem_iff.mp ha)
  have hb':=List.mem_range.mp (hp.mem_iff.mp hb)
  rw [ZEC ha',ZEC hb'] at hab
  rw [← ZI1 (ZGC ha') (ZGC hb')]
  exact Nat.blt_eq.mpr hab
end L2
namespace L2
open PySem PySem.Spec PySem.W PyProof.Rows H1
inductive PairsIn (h:Heap):List Value->List (Int × Int)->Prop
 | nil:PairsIn h [] []
 | cons {a:Addr} {k:Int × Int} {t u:Tok} {vs:List Value} {ks:List (Int × Int)}:IsTup h a #[.int k.1 t,.int k.2 u]->PairsIn h vs ks->PairsIn h (.ref a :: vs) (k :: ks)
theorem PairsIn.keep {h h':Heap} (g:∀ a its,IsTup h a its->IsTup h' a its):∀ {vs:List Value} {ks:List (Int × Int)},PairsIn h vs ks->PairsIn h' vs ks
 | _,_,.nil=>.nil
 | _,_,.cons a b=>.cons (g _ _ a) (PairsIn.keep g b)
theorem PairsIn.len {h:Heap}:∀ {vs:List Value} {ks:List (Int × Int)},PairsIn h vs ks->vs.length=ks.length
 | _,_,.nil=>rfl
 | _,_,.cons _ b=>congrArg Nat.succ b.len
theorem PairsIn.at {h:Heap}:∀ {vs:List Value} {ks:List (Int × Int)},PairsIn h vs ks->∀ {i:Nat},i < ks.length->∃ a t u,vs.getD i Value.none=.ref a/\IsTup h a #[.int (ks.getD i (0,0)).1 t,.int (ks.getD i (0,0)).2 u]
 | _,_,.nil,i,z=>absurd z (Nat.not_lt_zero _)
 | _,_,.cons a b,0,_=>⟨_,_,_,rfl,a⟩
 | _,_,.cons a b,i+1,z=>b.at (Nat.lt_of_succ_lt_succ z)
theorem PairsIn.firsts {h:Heap}:∀ {vs:List Value} {ks:List (Int × Int)},PairsIn h vs ks->∃ fs,KatTups h vs fs/\fs.length=ks.length/\∀ v ∈ fs,∃ n t,v=Value.int n t
 | _,_,.nil=>⟨[],KatTups.nil,rfl,λ _ z=>nomatch z⟩
 | _,_,.cons a b=>by
  obtain ⟨o,h1,h2,n,h3⟩:=a
  obtain ⟨fs,f1,f2,f3⟩:=b.firsts
  refine ⟨_ :: fs,KatTups.cons h1 h2 h3 rfl f1,congrArg Nat.succ f2,λ v hv=>?_⟩
  rcases List.mem_cons.mp hv with rfl | hv
  ·exact ⟨_,_,rfl⟩
  ·exact f3 v hv
section
variable {prog:Program} {w:World} {A:Around} {E:Value->Shared->Prop} {s:Shared}
theorem ZOJ {a b:Addr} {x y:Int × Int} {t u t' u':Tok} {C:Bool->Shared->Prop} (ha:IsTup s.heap a #[.int x.1 t,.int x.2 u]) (hb:IsTup s.heap b #[.int y.1 t',.int y.2 u']) (h:C (gtW y x) s) :
  wpAny (model prog w) A (keyLt' (tuples' true) (.ref a) (.ref b)) C E s:=by
 obtain ⟨o,h1,_,n,h2⟩:=ha
 obtain ⟨o',h1',_,n',h2'⟩:=hb
 refine kat_lt h1 h2 h1' h2' ?_
 show KatLex prog w A true (decide ((2:Nat) < 2)) C [(.int x.1 t,.int y.1 t'),(.int x.2 u,.int y.2 u')] 0 s
 refine kat_cons (wpAny_eqBool_int (kat_go (λ e=>kat_yes (kat_cons (wpAny_eqBool_int (kat_go (λ e2=>kat_yes (kat_nil ?_)) (λ e2=>kat_no (kat_one _ _ (wpAny_lt_int ?_))))))) (λ e=>kat_no ?_)))
 ·have e:=eq_of_beq e
  have e2:=eq_of_beq e2
  have:gtW y x=false:=by
   rw [show y=x from (Prod.ext e e2).symm]
   exact ZID x
  rw [this] at h
  exact h
 ·have e:=eq_of_beq e
  show C (decide (x.2 < y.2)) s
  have:gtW y x=decide (x.2 < y.2):=by
   rw [Bool.eq_iff_iff,ZA6,decide_eq_true_eq]
   omega
  rw [← this]
  exact h
 ·have e : ¬ x.1=y.1:=by simpa using e
  show wpAny (model prog w) A (oneLt' true (.int x.1 t) (.int y.1 t')) C (λ _ _=>False) s
  refine oneLt_int ?_
  have:gtW y x=decide (x.1 < y.1):=by
   rw [Bool.eq_iff_iff,ZA6,decide_eq_true_eq]
   omega
  rw [← this]
  exact h
theorem ZKo {vs:List Value} {ks:List (Int × Int)} {Q:SortKind->Shared->Prop} (hp:PairsIn s.heap vs ks) (h0 : 0 < ks.length) (h:Q (tuples' true) s):wpAny (model prog w) A (keyKind' vs.toArray) Q E s:=by
 obtain ⟨fs,f1,f2,f3⟩:=hp.firsts
 refine kat_kind (T:=.type "int") f1 (by omega) (λ v hv=>?_) rfl h
 obtain ⟨n,t,rfl⟩:=f3 v hv
 exact λ A Q E s _ q=>wpAny_pure q
theorem ZCg {α : Type} (xs:List α) (d : α):(List.range xs.length).map (λ i=>xs.getD i d)=xs:=by
 refine List.ext_getElem (by simp) λ i h1 h2=>?_
 simp [h2]
theorem ZF3 {a:Addr} {vs:List Value} {ks:List (Int × Int)} {n:Nat} {P:PySem.Fin->Shared->Prop} (ho:s.heap.get? a=some (seqObj "list" vs.toArray n)) (hp:PairsIn s.heap vs ks) (hn:ks.Nodup) (h6:ks.length<=6)
  (h:∀ p:List Nat,p.Perm (List.range ks.length)->(p.map λ i=>ks.getD i (0,0)).Pairwise (λ a b=>gtW b a=true)->P (.done (.ret .none)) { s with heap:=sortedHeap s.heap a vs (p.map λ i=>vs.getD i Value.none).toArray }) :
  wpAny (model prog w) A (Builtin.«list.sort» ⟨[.ref a],[]⟩) P E s:=by
 have hlen:=hp.len
 rw [list_sort_plain]
 have ha:a < s.heap.objs.size:=Heap.lt_size ho
 refine wpAny_bind (listItems_at ho rfl ?_)
 refine wpAny_bind (listUpdate_at ho rfl ?_)
 obtain ⟨e1,ho1⟩:∃ e1,(s.heap.update a (Obj.mapSeq λ _=>#[])).get? a=some (seqObj "list" #[] e1):=⟨_,get?_update_seq ho (λ _=>#[])⟩
 refine wpAny_bind (seqEpoch_at ho1 rfl ?_)
 refine wpAny_bind (wpAny_newTuple ?_)
 refine wpAny_bind (wpAny_newList ?_)
 refine wpAny_holding ?_
 have old:∀ b,b ≠ a->b < s.heap.objs.size->(((s.heap.update a (Obj.mapSeq λ _=>#[])).push (seqObj "tuple" vs.toArray 0)).push (seqObj "list" #[] 0)).get? b=s.heap.get? b:=λ b hb hlt=>by
  rw [Heap.get?_push_ne _ _ _ (by rw [size_push',Heap.size_update]; exact Nat.ne_of_lt (Nat.lt_succ_of_lt hlt)),Heap.get?_push_ne _ _ _ (by rw [Heap.size_update]; exact Nat.ne_of_lt hlt),Heap.get?_update_ne _ _ _ _ hb]
 have ho6:(((s.heap.update a (Obj.mapSeq λ _=>#[])).push (seqObj "tuple" vs.toArray 0)).push (seqObj "list" #[] 0)).get? a=some (seqObj "list" #[] e1):=by
  rw [Heap.get?_push_ne _ _ _ (by rw [size_push',Heap.size_update]; exact Nat.ne_of_lt (Nat.lt_succ_of_lt ha)),Heap.get?_push_ne _ _ _ (by rw [Heap.size_update]; exact Nat.ne_of_lt ha)]
  exact ho1
 have hp6:PairsIn (((s.heap.update a (Obj.mapSeq λ _=>#[])).push (seqObj "tuple" vs.toArray 0)).push (seqObj "list" #[] 0)) vs ks:=hp.keep λ b its hb=>by
  obtain ⟨o,h1,h2,h3⟩:=hb
  refine ⟨o,?_,h2,h3⟩
  rw [old b (λ e=>?_) (Heap.lt_size h1)]
  ·exact h1
  ·rw [e,ho] at h1
   cases h1
   exact absurd (show Value.type "list" = Value.type "tuple" from h2) (by decide)
 show wpAny (model prog w) A _ P E { s with heap:=((s.heap.update a (Obj.mapSeq λ _=>#[])).push (seqObj "tuple" vs.toArray 0)).push (seqObj "list" #[] 0) }
 dsimp only
 have hsz:vs.toArray.size=vs.length:=by simp
 by_cases h2:vs.toArray.size < 2
 ·rw [if_pos h2,if_pos h2]
  refine wpAny_bind (wpAny_pure ?_)
  rw [StateT.run_pure]
  refine wpAny_bind (wpAny_pure ?_)
  dsimp only
  refine wpAny_bind (seqEpoch_at ho6 rfl ?_)
  refine wpAny_bind (listUpdate_at ho6 rfl ?_ (hsz2:=by rw [Array.size_map]; show (pairsOf vs).size<=_; rw [pairsOf_size,sizeLine_eq]; omega))
  simp only [bne_self_eq_false,Bool.false_eq_true,if_false]
  have e:(arrOf (SortSt.mk' general' (vs.toArray.zip vs.toArray) #[] 7 none)).map (·.2)=((List.range ks.length).map λ i=>vs.getD i Value.none).toArray:=by
   rw [← hlen,ZCg]
   show (vs.toArray.zip vs.toArray).map (·.2)=vs.toArray
   apply Array.toList_inj.mp
   simp
   rw [← List.unzip_snd,List.unzip_zip rfl]
  have q:=h (List.range ks.length) (List.Perm.refl _) (by
   rw [ZCg]
   match ks,(show ks.length < 2 by omega) with
   | [],_=>exact .nil
   | [x],_=>exact List.pairwise_singleton _ _
   | x :: y :: r,z=>exact absurd z (by simp))
  rw [← e] at q
  exact wpAny_pure q
 ·rw [if_neg h2,if_neg h2]
  obtain ⟨p,hr,hpp,hps⟩:=ZKF hn (by omega) h6
  refine wpAny_bind (ZKo (s:={ s with heap:=((s.heap.update a (Obj.mapSeq λ _=>#[])).push (seqObj "tuple" vs.toArray 0)).push (seqObj "list" #[] 0) }) hp6 (by omega) ?_)
  refine wpAny_bind (wpAny_mono (kat_run (ks:=vs) (vs:=vs) (κ:=tuples' true) (G:=λ p' s'=>p'=p/\s'={ s with heap:=((s.heap.update a (Obj.mapSeq λ _=>#[])).push (seqObj "tuple" vs.toArray 0)).push (seqObj "list" #[] 0) })
   (Q:=λ st' s'=>s'={ s with heap:=((s.heap.update a (Obj.mapSeq λ _=>#[])).push (seqObj "tuple" vs.toArray 0)).push (seqObj "list" #[] 0) }/\failedOf st'=none/\(arrOf st').map (·.2)=(p.toList.map λ i=>vs.getD i Value.none).toArray) rfl (by omega) (by omega) (λ p' st' s' hz har hf hG=>⟨hG.2,hf,by rw [← hG.1]; exact kat_snds rfl har⟩)
   (ZLB (f:=ZLw ks) (λ i j b C hf hC=>?_) _ (by rw [hlen]; exact hr) ⟨rfl,rfl⟩)) (λ r s' hr'=>?_) λ _ _ e=>e)
  ·unfold ZLw at hf
   by_cases c:(Nat.blt i ks.length && Nat.blt j ks.length)=true
   ·rw [if_pos c] at hf
    cases hf
    rw [Bool.and_eq_true,Nat.blt_eq,Nat.blt_eq] at c
    obtain ⟨x,t,u,e,hx⟩:=hp6.at c.1
    obtain ⟨y,t',u',e',hy⟩:=hp6.at c.2
    unfold kas_ask
    rw [e,e']
    exact ZOJ hx hy hC
   ·rw [if_neg c] at hf
    cases hf
  ·obtain ⟨⟨⟩,st'⟩:=r
   obtain ⟨rfl,hf,hm⟩:=hr'
   dsimp only at hf hm ⊢
   have hpl:p.toList.length=ks.length:=by rw [hpp.length_eq,List.length_range]
   refine wpAny_bind (seqEpoch_at ho6 rfl ?_)
   refine wpAny_bind (listUpdate_at ho6 rfl ?_ (hsz2:=by rw [hm]; simp; rw [sizeLine_eq,← Array.length_toList]; omega))
   rw [hf]
   simp only [bne_self_eq_false,Bool.false_eq_true,if_false]
   have q:=h p.toList hpp hps
   rw [← hm] at q
   exact wpAny_pure q
theorem ZIP {l:Addr} {vs:List Value} {ks:List (Int × Int)} {Q:Value->Shared->Prop} (hl:s.heap.IsList l vs.toArray) (hp:PairsIn s.heap vs ks) (hn:ks.Nodup) (h6:ks.length<=6)
  (h:∀ p:List Nat,p.Perm (List.range ks.length)->(p.map λ i=>ks.getD i (0,0)).Pairwise (λ a b=>gtW b a=true)->Q (.ref (s.heap.objs.size+1)) { s with heap:=sortedAll s.heap vs (p.map λ i=>vs.getD i Value.none).toArray }) :
  wpAny (model prog w) A (call (.builtin "sorted") [.ref l]) Q E s:=by
 have hlen:=hp.len
 refine Calls.call_function_entry kind_sorted plain_sorted entry_sorted (args_sorted1 _) ?_
 unfold Builtin.«sorted»
 refine wpAny_bind (m:=checkCount "sorted" 1 1 _) (wpAny_pure ?_)
 refine wpAny_bind (collect_list hl ?_ (by rw [sizeLine_eq]; omega))
 refine wpAny_bind (wpAny_newList ?_ (by rw [sizeLine_eq]; omega))
 have hsz:((s.heap.push (seqObj "list" #[] 0)).update s.heap.objs.size (Obj.mapSeq (· ++ vs.toArray))).objs.size=s.heap.objs.size+1:=by
  rw [Heap.size_update,size_push']
 have hoL:(((s.heap.push (seqObj "list" #[] 0)).update s.heap.objs.size (Obj.mapSeq (· ++ vs.toArray))).push (seqObj "list" vs.toArray 0)).get? (s.heap.objs.size+1)=some (seqObj "list" vs.toArray 0):=by
  rw [← hsz]
  exact Heap.get?_push_size _ rfl
 have hp2:PairsIn (((s.heap.push (seqObj "list" #[] 0)).update s.heap.objs.size (Obj.mapSeq (· ++ vs.toArray))).push (seqObj "list" vs.toArray 0)) vs ks:=hp.keep λ b its hb=>by
  obtain ⟨o,h1,h2⟩:=hb
  have hlt:b < s.heap.objs.size:=Heap.lt_size h1
  refine ⟨o,?_,h2⟩
  rw [Heap.get?_push_ne _ _ _ (by rw [hsz]; exact Nat.ne_of_lt (Nat.lt_succ_of_lt hlt)),Heap.get?_update_ne _ _ _ _ (Nat.ne_of_lt hlt),Heap.get?_push_ne _ _ _ (Nat.ne_of_lt hlt)]
  exact h1
 show wpAny _ _ _ _ _ { s with heap:=((s.heap.push (seqObj "list" #[] 0)).update s.heap.objs.size (Obj.mapSeq (· ++ vs.toArray))).push (seqObj "list" vs.toArray 0) }
 rw [hsz]
 refine wpAny_bind (wpAny_holding (wpAny_call_entry slot_list_sort ⟨_,hoL,rfl⟩ entry_list_sort (ZF3 hoL hp2 hn h6 λ p a1 a2=>⟨_,rfl,?_⟩) (args_list_sort _)))
 exact wpAny_pure ⟨_,rfl,h p a1 a2⟩
end
end L2
namespace L2
open PySem PySem.Spec PyProof.Rows H1
section
variable {X:Cx} {pins:List (Addr × Obj)} {σ : St} {H:Hp} {s:Shared}
theorem ZK8:∀ {ys:List V} {its:List Value},Zs ys its->∀ {i:Nat},i < ys.length->ZAD (ys.getD i .non) (its.getD i .none)
 | _,_,.nil,_,z=>absurd z (Nat.not_lt_zero _)
 | _,_,.cons r _,0,_=>r
 | _,_,.cons _ r,i+1,z=>ZK8 r (Nat.lt_of_succ_lt_succ z)
theorem ZHc {ys:List V} {its:List Value} (r:Zs ys its):∀ {p:List Nat},(∀ i ∈ p,i < ys.length)->Zs (p.map λ i=>ys.getD i .non) (p.map λ i=>its.getD i .none)
 | [],_=>.nil
 | i :: p,h=>.cons (ZK8 r (h i (List.mem_cons_self ..))) (ZHc r λ j hj=>h j (List.mem_cons_of_mem _ hj))
end
section
variable {X:Cx}
end
end L2
namespace L2
open PySem PySem.Spec PyProof.Rows H1
def ZDl (c:Int × Int) (n:Int):Int:=if n < c.2 then 0 else (n - c.2) / c.1+1
def ZB0 (cl:List Str) (x y a:Int):List Int:=(y :: if ZEI cl "own" = true then [x] else []) ++ if ZEI cl "about" = true/\a ≠ x then [a] else []
def ZD9 (told:List Int) (most x:Int) (due:List Int) (m:Nat):List (Int × Int):=((List.range m).filter λ j=>decide (told.getD j 0 < most) && (!decide ((j:Int)=x) && !due.contains (j:Int))).map λ j=>(told.getD j 0,(j:Int))
def ZAb (told:List Int) (most x:Int) (due:List Int):List (Int × Int):=ZD9 told most x due told.length
theorem ZFA (told:List Int) (most x:Int) (due:List Int):(ZAb told most x due).Nodup:=by
 unfold ZAb ZD9 List.Nodup
 rw [List.pairwise_map]
 refine List.Pairwise.imp (λ {a b} h e=>?_) (List.Pairwise.filter _ List.pairwise_lt_range)
 have:=congrArg Prod.snd e
 have:(a:Int)=(b:Int):=this
 omega
section
variable {X:Cx} {K:PySem.W.Frag}
end
end L2
namespace L2
open PySem PySem.Spec PyProof.Rows H1
end L2
namespace L2
open PySem PySem.Spec PyProof.Rows H1
theorem ZLx {told:List Int} {most x y:Int} {due:List Int} {i j:Nat} (hx:x=(i:Int)) (hy:y=(j:Int)) (hi:i < told.length) (hj:j < told.length) (hne:j ≠ i) (hm:y ∈ due):(ZAb told most x due).length+2<=told.length:=by
 unfold ZAb ZD9
 rw [List.length_map,← List.countP_eq_length_filter]
 have h1:=ZBZ (l:=List.range told.length) (p:=λ j=>decide (told.getD j 0 < most) && (!decide ((j:Int)=x) && !due.contains (j:Int))) (q:=λ j=>!decide ((j:Int)=x)) (λ z _ e=>by
  rw [Bool.and_eq_true,Bool.and_eq_true] at e
  exact e.2.1) ⟨j,List.mem_range.mpr hj,by rw [hx,decide_eq_false (by omega)]; rfl,by
   rw [← hy,List.contains_iff_mem.mpr hm]
   simp⟩
 have h2:=ZBZ (l:=List.range told.length) (p:=λ j:Nat=>!decide ((j:Int)=x)) (q:=λ _=>true) (λ _ _ _=>rfl) ⟨i,List.mem_range.mpr hi,rfl,by rw [hx,decide_eq_true rfl]; rfl⟩
 rw [List.countP_true,List.length_range] at h2
 omega
def ZB1 (book:List (Int × Int)) (due news:List Int) (m:Nat):List (Nat × (Int × Int)):=((List.range m).filter λ j:Nat=>due.contains (j:Int) || news.contains (j:Int)).map λ j=>(j,book.getD j (0,0))
def ZA7 (told:List Int) (news:List Int):List Int:=news.foldl (λ t k=>t.set k.toNat (t.getD k.toNat 0+1)) told
theorem ZCW:∀ {news told:List Int},(ZA7 told news).length=told.length
 | [],_=>rfl
 | k :: r,told=>by
  show (ZA7 (told.set k.toNat (told.getD k.toNat 0+1)) r).length=told.length
  rw [ZCW,List.length_set]
theorem ZLz {told:List Int} {most x:Int} {due:List Int} {p:Int × Int} (h:p ∈ ZAb told most x due) : 0<=p.2/\p.2.toNat < told.length:=by
 unfold ZAb ZD9 at h
 obtain ⟨j,hj,rfl⟩:=List.mem_map.mp h
 have:=List.mem_range.mp (List.mem_filter.mp hj).1
 exact ⟨by show (0:Int)<=(j:Int); omega,by show (j:Int).toNat < _; omega⟩
end L2
namespace L2
open PySem PySem.Spec PyProof.Rows H1
theorem ZKp (told news:List Int) (k:Int):ZA7 told (news ++ [k])=(ZA7 told news).set k.toNat ((ZA7 told news).getD k.toNat 0+1):=by
 unfold ZA7
 rw [List.foldl_append]
 rfl
end L2
namespace L2
open PySem PySem.Spec PyProof.Rows H1
end L2
namespace L2
open PySem PySem.Spec PyProof.Rows
section
variable {X:Cx}
theorem ZI8:Z3 X (.builtin "sorted") (λ xs H Q=>∃ (p:Addr) (ns:List Int),xs=[.ref p]/\SqL X.K H p (ns.map V.int)/\ns.length < 64/\∀ l (ms:List Int),H l=none->ms.Perm ns->ms.Pairwise (· <= ·)->Q (.ref l) (upd H l (.lst (ms.map V.int)))):=by
 intro pins s σ H xs us Q I r h
 obtain ⟨p,ns,rfl,hq,hn,q⟩:=h
 obtain ⟨u,rfl,ru⟩:=ZC9 r
 cases ru
 obtain ⟨its,rv,pl,hz⟩:=I.list hq
 have hlen:=rv.length
 rw [List.length_map] at hlen
 refine sorted_ints (vs:=its) (ns:=ns) pl.isList (ZBh rv) (by omega) λ out ns' ia pm pw=>?_
 obtain ⟨e,he⟩:=sortedAll_at s.heap its out
 have rv':Zs (ns'.map V.int) out.toList:=by
  clear pm pw he
  generalize out.toList=l at ia
  induction ia with
  | nil=>exact .nil
  | cons a t h ih=>exact .cons ⟨t,rfl⟩ ih
 refine ⟨.ref (s.heap.objs.size+1),_,I.laid (t':=s.toks) (λ b o e=>sortedAll_old e) (Nat.le_succ _) (o:=.lst (ns'.map V.int)) ⟨?_,out.toList,e,rv',by simpa using he⟩,rfl,q _ ns' (I.hok.fresh (Nat.le_succ _)) pm pw⟩
 rw [List.length_map,pm.length_eq]
 exact Nat.le_of_lt (ZAC (by omega))
end
end L2
namespace L2
open PySem PySem.Spec PyProof.Rows H1
theorem ZK0 {js:List (Int × Int)} (ps:js.Pairwise (λ a b=>gtW b a=true)) {c:Nat} {p h:Int × Int} (hp:p ∈ js) (hn:p ∉ js.take c) (hh:h ∈ js.take c):gtW p h=true:=by
 rw [← List.take_append_drop c js] at ps hp
 rcases List.mem_append.mp hp with z | z
 ·exact absurd z hn
 ·exact (List.pairwise_append.mp ps).2.2 h hh p z
theorem ZMb {α : Type} {js:List α} {c:Nat} (h:(js.take c).length < c):js.take c=js:=by
 rw [List.length_take] at h
 exact List.take_of_length_le (by omega)
theorem ZKz {told:List Int} {most x:Int} {due:List Int} {js:List (Int × Int)} {c:Nat} (pm:js.Perm (ZAb told most x due)):((js.take c).map λ p=>p.2).Nodup:=by
 have h1:(js.map λ p=>p.2).Nodup:=by
  refine (pm.map λ p=>p.2).nodup_iff.mpr ?_
  unfold ZAb ZD9 List.Nodup
  rw [List.map_map,List.pairwise_map]
  refine List.Pairwise.imp (λ {a b} h e=>?_) (List.Pairwise.filter _ List.pairwise_lt_range)
  have e:(a:Int)=(b:Int):=e
  omega
 exact h1.sublist ((List.take_sublist c js).map λ p=>p.2)
theorem ZJ7 {told:List Int} {most x:Int} {due:List Int} {p:Int × Int} (h:p ∈ ZAb told most x due):∃ j:Nat,p=(told.getD j 0,(j:Int))/\j < told.length/\told.getD j 0 < most/\(j:Int) ≠ x/\(j:Int) ∉ due:=by
 unfold ZAb ZD9 at h
 obtain ⟨j,hj,rfl⟩:=List.mem_map.mp h
 obtain ⟨h1,h2⟩:=List.mem_filter.mp hj
 rw [Bool.and_eq_true,Bool.and_eq_true] at h2
 exact ⟨j,rfl,List.mem_range.mp h1,of_decide_eq_true h2.1,by simpa using h2.2.1,by simpa using h2.2.2⟩
theorem ZGq {told:List Int} {most x:Int} {due:List Int} {j:Nat} (h1:j < told.length) (h2:told.getD j 0 < most) (h3:(j:Int) ≠ x) (h4:(j:Int) ∉ due):(told.getD j 0,(j:Int)) ∈ ZAb told most x due:=by
 unfold ZAb ZD9
 refine List.mem_map.mpr ⟨j,List.mem_filter.mpr ⟨List.mem_range.mpr h1,?_⟩,rfl⟩
 rw [Bool.and_eq_true,Bool.and_eq_true]
 exact ⟨decide_eq_true h2,by simpa using h3,by simpa using h4⟩
section
variable {X:Cx} {K:PySem.W.Frag}
end
end L2
namespace L2
open PySem PySem.Spec PyProof.Rows H1
inductive W where
 | dat (d:PyData)
 | ref (n:Nat)
 | inp (ns:List Int)
 | ty (n:String)
 | tup (ws:List W)
structure CD where
 nm:Str
 fs:List Str
inductive Cell where
 | pl (ds:List PyData)
 | rl (ws:List W)
 | ob (c:CD) (ws:List W)
abbrev G:=List Cell
structure Rh where
 c:List Addr
 h:List Addr
def Rh.mem (ρ : Rh) (a:Addr):Prop:=a ∈ ρ.c ∨ a ∈ ρ.h
abbrev Sd:=List (Option W)
def KL (K:PySem.W.Frag) (a:Addr) (xs:List V):Prop:=∃ (o:Obj) (its:Array Value) (n:Nat),K.lookup a=some o/\o.cls=.type "list"/\o.dict=none/\o.data=.seq its n/\its.size<=sizeLine/\Zs xs its.toList
def KT (K:PySem.W.Frag) (a:Addr) (xs:List V):Prop:=∃ (o:Obj) (its:Array Value) (n:Nat),K.lookup a=some o/\o.cls=.type "tuple"/\o.data=.seq its n/\its.size<=sizeLine/\Zs xs its.toList
def FzL (K:PySem.W.Frag) (ρ : Rh) (H:Hp) (a:Addr) (xs:List V):Prop:=(Rd H a (.lst xs)/\¬ ρ.mem a) ∨ KL K a xs
def FzT (K:PySem.W.Frag) (ρ : Rh) (H:Hp) (a:Addr) (xs:List V):Prop:=(Rd H a (.tup xs)/\¬ ρ.mem a) ∨ KT K a xs
theorem FzL.sq {K:PySem.W.Frag} {ρ : Rh} {H:Hp} {a:Addr} {xs:List V} (h:FzL K ρ H a xs):SqL K H a xs:=h.elim (λ z=>.inl z.1) .inr
theorem FzT.sq {K:PySem.W.Frag} {ρ : Rh} {H:Hp} {a:Addr} {xs:List V} (h:FzT K ρ H a xs):SqT K H a xs:=h.elim (λ z=>.inl z.1) .inr
mutual
inductive RelD (K:PySem.W.Frag) (ρ : Rh) (H:Hp):V->PyData->Prop
 | non:RelD K ρ H .non .none
 | bl (b:Bool):RelD K ρ H (.bl b) (.bool b)
 | int (i:Int):RelD K ρ H (.int i) (.int i)
 | str (x:Str):RelD K ρ H (.str x) (.str x)
 | tup {a:Addr} {xs:List V} {ds:List PyData}:FzT K ρ H a xs->RelDL K ρ H xs ds->RelD K ρ H (.ref a) (.tuple ds)
 | lst {a:Addr} {xs:List V} {ds:List PyData}:H a=some (.lst xs)->¬ ρ.mem a->RelDL K ρ H xs ds->RelD K ρ H (.ref a) (.list ds)
 | dct {a:Addr}:H a=some (ZOA a)->¬ ρ.mem a->RelD K ρ H (.ref a) (.dict [])
inductive RelDL (K:PySem.W.Frag) (ρ : Rh) (H:Hp):List V->List PyData->Prop
 | nil:RelDL K ρ H [] []
 | cons {x:V} {d:PyData} {xs:List V} {ds:List PyData}:RelD K ρ H x d->RelDL K ρ H xs ds->RelDL K ρ H (x :: xs) (d :: ds)
end
mutual
inductive Rel (K:PySem.W.Frag) (ρ : Rh) (H:Hp):V->W->Prop
 | dat {v:V} {d:PyData}:RelD K ρ H v d->Rel K ρ H v (.dat d)
 | ref {a:Addr} {n:Nat} : ρ.c[n]? = some a->Rel K ρ H (.ref a) (.ref n)
 | inp {a:Addr} {ns:List Int}:FzL K ρ H a (ns.map V.int)->Rel K ρ H (.ref a) (.inp ns)
 | ty {n:String}:Rel K ρ H (.ty n) (.ty n)
 | tup {a:Addr} {xs:List V} {ws:List W}:FzT K ρ H a xs->RelL K ρ H xs ws->Rel K ρ H (.ref a) (.tup ws)
inductive RelL (K:PySem.W.Frag) (ρ : Rh) (H:Hp):List V->List W->Prop
 | nil:RelL K ρ H [] []
 | cons {v:V} {x:W} {vs:List V} {xs:List W}:Rel K ρ H v x->RelL K ρ H vs xs->RelL K ρ H (v :: vs) (x :: xs)
end
inductive RelF (K:PySem.W.Frag) (ρ : Rh) (H:Hp):List Str->List (Str × V)->List W->Prop
 | nil {ns:List Str}:RelF K ρ H ns [] []
 | cons {f:Str} {ns:List Str} {v:V} {x:W} {vs:List (Str × V)} {xs:List W}:Rel K ρ H v x->RelF K ρ H ns vs xs->RelF K ρ H (f :: ns) ((f,v) :: vs) (x :: xs)
def ZBt (K:PySem.W.Frag) (ρ : Rh) (H:Hp) (a:Addr):Cell->Prop
 | .pl ds=>∃ vs,H a=some (.lst vs)/\RelDL K ρ H vs ds
 | .rl ws=>∃ vs,H a=some (.lst vs)/\RelL K ρ H vs ws
 | .ob c fs=>∃ C dx vs,PySem.W.nsIn K mainGlobals c.nm=some (some (.ref C))/\H a=some (.ins C dx vs)/\RelF K ρ H c.fs vs fs
def kdO:HO->Nat
 | .lst _=>0
 | .ins _ _ _=>1
 | _=>2
structure Stp (ρ : Rh) (H:Hp) (ρ':Rh) (H':Hp):Prop where
 pre:∃ r,ρ'.c = ρ.c ++ r
 hid : ρ'.h = ρ.h
 frm:∀ a o,H a=some o->a ∉ ρ.c->H' a=some o
 fre:∀ a ∈ ρ'.c,a ∈ ρ.c ∨ H a=none
 kd:∀ a o,H a=some o->∃ o',H' a=some o'/\kdO o'=kdO o
section
variable {K:PySem.W.Frag} {ρ ρ' ρ2:Rh} {H H' H2:Hp}
theorem Stp.refl:Stp ρ H ρ H:=⟨⟨[],(List.append_nil _).symm⟩,rfl,λ _ _ h _=>h,λ _ h=>.inl h,λ a o h=>⟨o,h,rfl⟩⟩
theorem Stp.ninc {a:Addr} {o:HO} (s:Stp ρ H ρ' H') (h:H a=some o) (n:a ∉ ρ.c):a ∉ ρ'.c:=λ z=>(s.fre a z).elim n λ e=>by rw [h] at e; cases e
theorem Stp.nin {a:Addr} {o:HO} (s:Stp ρ H ρ' H') (h:H a=some o) (n : ¬ ρ.mem a) : ¬ ρ'.mem a:=λ z=>z.elim (s.ninc h λ q=>n (.inl q)) λ z=>n (.inr (by rw [← s.hid]; exact z))
theorem Stp.trans (s:Stp ρ H ρ' H') (t:Stp ρ' H' ρ2 H2):Stp ρ H ρ2 H2:=by
 refine ⟨?_,t.hid.trans s.hid,λ a o h n=>t.frm a o (s.frm a o h n) (s.ninc h n),λ a h=>?_,λ a o h=>?_⟩
 ·obtain ⟨r,e⟩:=s.pre
  obtain ⟨q,e'⟩:=t.pre
  exact ⟨r ++ q,by rw [e',e,List.append_assoc]⟩
 ·rcases t.fre a h with z | z
  ·exact s.fre a z
  ·by_cases n:a ∈ ρ.c
   ·exact .inl n
   ·cases e:H a with
    | none=>exact .inr rfl
    | some o=>rw [s.frm a o e n] at z; cases z
 ·obtain ⟨o1,h1,k1⟩:=s.kd a o h
  obtain ⟨o2,h2,k2⟩:=t.kd a o1 h1
  exact ⟨o2,h2,k2.trans k1⟩
theorem Stp.same (s:Same H H'):Stp ρ H ρ H':=⟨⟨[],(List.append_nil _).symm⟩,rfl,λ a o h _=>s a o h,λ _ h=>.inl h,λ a o h=>⟨o,s a o h,rfl⟩⟩
theorem Rd.stp {a:Addr} {u:HO} (s:Stp ρ H ρ' H') (h:Rd H a u) (n : ¬ ρ.mem a):Rd H' a u/\¬ ρ'.mem a:=by
 rcases h with h | ⟨o,h⟩
 ·exact ⟨.inl (s.frm _ _ h λ z=>n (.inl z)),s.nin h n⟩
 ·exact ⟨.inr ⟨o,s.frm _ _ h λ z=>n (.inl z)⟩,s.nin h n⟩
theorem FzL.mono {a:Addr} {xs:List V} (s:Stp ρ H ρ' H') (h:FzL K ρ H a xs):FzL K ρ' H' a xs:=h.elim (λ z=>.inl (Rd.stp s z.1 z.2)) .inr
theorem FzT.mono {a:Addr} {xs:List V} (s:Stp ρ H ρ' H') (h:FzT K ρ H a xs):FzT K ρ' H' a xs:=h.elim (λ z=>.inl (Rd.stp s z.1 z.2)) .inr
mutual
theorem RelD.mono (s:Stp ρ H ρ' H'):∀ {v:V} {d:PyData},RelD K ρ H v d->RelD K ρ' H' v d
 | _,_,.non=>.non
 | _,_,.bl b=>.bl b
 | _,_,.int i=>.int i
 | _,_,.str x=>.str x
 | _,_,.tup h hl=>.tup (h.mono s) (RelDL.mono s hl)
 | _,_,.lst h n hl=>.lst (s.frm _ _ h λ z=>n (.inl z)) (s.nin h n) (RelDL.mono s hl)
 | _,_,.dct h n=>.dct (s.frm _ _ h λ z=>n (.inl z)) (s.nin h n)
theorem RelDL.mono (s:Stp ρ H ρ' H'):∀ {vs:List V} {ds:List PyData},RelDL K ρ H vs ds->RelDL K ρ' H' vs ds
 | _,_,.nil=>.nil
 | _,_,.cons h hl=>.cons (RelD.mono s h) (RelDL.mono s hl)
end
theorem ZD7 (s:Stp ρ H ρ' H') {a:Addr} {n:Nat} (h : ρ.c[n]? = some a) : ρ'.c[n]? = some a:=by
 obtain ⟨r,e⟩:=s.pre
 rw [e,List.getElem?_append_left (List.getElem?_eq_some_iff.mp h).1]
 exact h
mutual
theorem Rel.mono (s:Stp ρ H ρ' H'):∀ {v:V} {x:W},Rel K ρ H v x->Rel K ρ' H' v x
 | _,_,.dat h=>.dat (h.mono s)
 | _,_,.ref h=>.ref (ZD7 s h)
 | _,_,.inp h=>.inp (h.mono s)
 | _,_,.ty=>.ty
 | _,_,.tup h t=>.tup (h.mono s) (RelL.mono s t)
theorem RelL.mono (s:Stp ρ H ρ' H'):∀ {vs:List V} {xs:List W},RelL K ρ H vs xs->RelL K ρ' H' vs xs
 | _,_,.nil=>.nil
 | _,_,.cons h t=>.cons (Rel.mono s h) (RelL.mono s t)
end
theorem RelF.mono (s:Stp ρ H ρ' H'):∀ {ns:List Str} {vs:List (Str × V)} {xs:List W},RelF K ρ H ns vs xs->RelF K ρ' H' ns vs xs
 | _,_,_,.nil=>.nil
 | _,_,_,.cons h t=>.cons (h.mono s) (t.mono s)
theorem FzL.less {a:Addr} {xs:List V} (s:∀ a,ρ'.mem a->ρ.mem a) (h:FzL K ρ H a xs):FzL K ρ' H a xs:=h.elim (λ z=>.inl ⟨z.1,λ q=>z.2 (s _ q)⟩) .inr
theorem FzT.less {a:Addr} {xs:List V} (s:∀ a,ρ'.mem a->ρ.mem a) (h:FzT K ρ H a xs):FzT K ρ' H a xs:=h.elim (λ z=>.inl ⟨z.1,λ q=>z.2 (s _ q)⟩) .inr
mutual
theorem RelD.less (s:∀ a,ρ'.mem a->ρ.mem a):∀ {v:V} {d:PyData},RelD K ρ H v d->RelD K ρ' H v d
 | _,_,.non=>.non
 | _,_,.bl b=>.bl b
 | _,_,.int i=>.int i
 | _,_,.str x=>.str x
 | _,_,.tup h hl=>.tup (h.less s) (RelDL.less s hl)
 | _,_,.lst h n hl=>.lst h (λ z=>n (s _ z)) (RelDL.less s hl)
 | _,_,.dct h n=>.dct h λ z=>n (s _ z)
theorem RelDL.less (s:∀ a,ρ'.mem a->ρ.mem a):∀ {vs:List V} {ds:List PyData},RelDL K ρ H vs ds->RelDL K ρ' H vs ds
 | _,_,.nil=>.nil
 | _,_,.cons h hl=>.cons (RelD.less s h) (RelDL.less s hl)
end
mutual
theorem Rel.less (hc : ρ'.c = ρ.c) (s:∀ a,ρ'.mem a->ρ.mem a):∀ {v:V} {x:W},Rel K ρ H v x->Rel K ρ' H v x
 | _,_,.dat h=>.dat (h.less s)
 | _,_,.ref h=>.ref (by rw [hc]; exact h)
 | _,_,.inp h=>.inp (h.less s)
 | _,_,.ty=>.ty
 | _,_,.tup h t=>.tup (h.less s) (RelL.less hc s t)
theorem RelL.less (hc : ρ'.c = ρ.c) (s:∀ a,ρ'.mem a->ρ.mem a):∀ {vs:List V} {xs:List W},RelL K ρ H vs xs->RelL K ρ' H vs xs
 | _,_,.nil=>.nil
 | _,_,.cons h t=>.cons (Rel.less hc s h) (RelL.less hc s t)
end
theorem RelF.less (hc : ρ'.c = ρ.c) (s:∀ a,ρ'.mem a->ρ.mem a):∀ {ns:List Str} {vs:List (Str × V)} {xs:List W},RelF K ρ H ns vs xs->RelF K ρ' H ns vs xs
 | _,_,_,.nil=>.nil
 | _,_,_,.cons h t=>.cons (h.less hc s) (t.less hc s)
theorem RelDL.length:∀ {vs:List V} {ds:List PyData},RelDL K ρ H vs ds->vs.length=ds.length
 | _,_,.nil=>rfl
 | _,_,.cons _ h=>by rw [List.length_cons,List.length_cons,h.length]
theorem RelDL.getD:∀ {vs:List V} {ds:List PyData} {i:Nat} {d:PyData},RelDL K ρ H vs ds->ds[i]? = some d->∃ v,vs[i]? = some v/\RelD K ρ H v d
 | _,_,_,_,.nil,h=>by simp at h
 | _,_,0,_,.cons t _,h=>by cases h; exact ⟨_,rfl,t⟩
 | _,_,i+1,_,.cons _ t,h=>t.getD (i:=i) (by simpa using h)
theorem RelDL.append:∀ {vs us:List V} {ds es:List PyData},RelDL K ρ H vs ds->RelDL K ρ H us es->RelDL K ρ H (vs ++ us) (ds ++ es)
 | _,_,_,_,.nil,h=>h
 | _,_,_,_,.cons t r,h=>.cons t (r.append h)
theorem RelDL.set {v:V} {d:PyData} (t:RelD K ρ H v d):∀ {vs:List V} {ds:List PyData} (i:Nat),RelDL K ρ H vs ds->RelDL K ρ H (vs.set i v) (ds.set i d)
 | _,_,_,.nil=>.nil
 | _,_,0,.cons _ r=>.cons t r
 | _,_,i+1,.cons u r=>.cons u (RelDL.set t i r)
theorem RelDL.take:∀ {vs:List V} {ds:List PyData} (n:Nat),RelDL K ρ H vs ds->RelDL K ρ H (vs.take n) (ds.take n)
 | _,_,0,_=>.nil
 | _,_,_+1,.nil=>.nil
 | _,_,n+1,.cons r t=>.cons r (RelDL.take n t)
theorem RelDL.drop:∀ {vs:List V} {ds:List PyData} (n:Nat),RelDL K ρ H vs ds->RelDL K ρ H (vs.drop n) (ds.drop n)
 | _,_,0,r=>r
 | _,_,_+1,.nil=>.nil
 | _,_,n+1,.cons _ t=>RelDL.drop n t
theorem RelDL.rep {vs:List V} {ds:List PyData} (t:RelDL K ρ H vs ds):∀ k:Nat,RelDL K ρ H (List.replicate k vs).flatten (List.replicate k ds).flatten
 | 0=>.nil
 | k+1=>by rw [List.replicate_succ,List.replicate_succ,List.flatten_cons,List.flatten_cons]; exact t.append (t.rep k)
theorem RelDL.ints:∀ {vs:List V} {ns:List Int},RelDL K ρ H vs (ns.map .int)->vs=ns.map V.int
 | _,[],.nil=>rfl
 | _,n :: ns,.cons (.int _) t=>by rw [t.ints]; rfl
theorem RelDL.ofInts:∀ {ns:List Int},RelDL K ρ H (ns.map V.int) (ns.map .int)
 | []=>.nil
 | n :: ns=>.cons (.int n) RelDL.ofInts
theorem RelL.length:∀ {vs:List V} {ws:List W},RelL K ρ H vs ws->vs.length=ws.length
 | _,_,.nil=>rfl
 | _,_,.cons _ h=>by rw [List.length_cons,List.length_cons,h.length]
theorem RelL.append:∀ {vs us:List V} {ds es:List W},RelL K ρ H vs ds->RelL K ρ H us es->RelL K ρ H (vs ++ us) (ds ++ es)
 | _,_,_,_,.nil,h=>h
 | _,_,_,_,.cons t r,h=>.cons t (r.append h)
theorem RelL.set {v:V} {d:W} (t:Rel K ρ H v d):∀ {vs:List V} {ds:List W} (i:Nat),RelL K ρ H vs ds->RelL K ρ H (vs.set i v) (ds.set i d)
 | _,_,_,.nil=>.nil
 | _,_,0,.cons _ r=>.cons t r
 | _,_,i+1,.cons u r=>.cons u (RelL.set t i r)
theorem RelL.getD:∀ {vs:List V} {ds:List W} {i:Nat} {d:W},RelL K ρ H vs ds->ds[i]? = some d->∃ v,vs[i]? = some v/\Rel K ρ H v d
 | _,_,_,_,.nil,h=>by simp at h
 | _,_,0,_,.cons t _,h=>by cases h; exact ⟨_,rfl,t⟩
 | _,_,i+1,_,.cons _ t,h=>t.getD (i:=i) (by simpa using h)
theorem ZBt.mono (s:Stp ρ H ρ' H') {a:Addr} {c:Cell} (e:H' a=H a) (h:ZBt K ρ H a c):ZBt K ρ' H' a c:=by
 cases c with
 | pl ds=>obtain ⟨vs,h1,h2⟩:=h; exact ⟨vs,by rw [e]; exact h1,h2.mono s⟩
 | rl ws=>obtain ⟨vs,h1,h2⟩:=h; exact ⟨vs,by rw [e]; exact h1,h2.mono s⟩
 | ob c fs=>obtain ⟨C,dx,vs,h0,h1,h2⟩:=h; exact ⟨C,dx,vs,h0,by rw [e]; exact h1,h2.mono s⟩
theorem ZBt.less (hc : ρ'.c = ρ.c) (s:∀ a,ρ'.mem a->ρ.mem a) {a:Addr} {c:Cell} (h:ZBt K ρ H a c):ZBt K ρ' H a c:=by
 cases c with
 | pl ds=>obtain ⟨vs,h1,h2⟩:=h; exact ⟨vs,h1,h2.less s⟩
 | rl ws=>obtain ⟨vs,h1,h2⟩:=h; exact ⟨vs,h1,h2.less hc s⟩
 | ob c fs=>obtain ⟨C,dx,vs,h0,h1,h2⟩:=h; exact ⟨C,dx,vs,h0,h1,h2.less hc s⟩
theorem ZBt.has {a:Addr} {c:Cell} (h:ZBt K ρ H a c):∃ o,H a=some o:=by
 cases c with
 | pl ds=>obtain ⟨vs,h1,h2⟩:=h; exact ⟨_,h1⟩
 | rl ws=>obtain ⟨vs,h1,h2⟩:=h; exact ⟨_,h1⟩
 | ob c fs=>obtain ⟨C,dx,vs,h0,h1,h2⟩:=h; exact ⟨_,h1⟩
structure HR (K:PySem.W.Frag) (ρ : Rh) (H:Hp) (g:G):Prop where
 len : ρ.c.length=g.length
 nd : ρ.c.Nodup
 ce:∀ (n:Nat) (c:Cell),g[n]? = some c->∃ a,ρ.c[n]? = some a/\ZBt K ρ H a c
 hid:∀ a ∈ ρ.h,a ∉ ρ.c/\∃ o,H a=some o
theorem HR.at_ {g:G} (h:HR K ρ H g):∀ (n:Nat) (ds:List PyData),g[n]? = some (.pl ds)->∃ a vs,ρ.c[n]? = some a/\H a=some (.lst vs)/\RelDL K ρ H vs ds:=λ n ds e=>by
 obtain ⟨a,h1,vs,h2,h3⟩:=h.ce n _ e
 exact ⟨a,vs,h1,h2,h3⟩
theorem HR.has {g:G} (h:HR K ρ H g) {a:Addr} (ha:a ∈ ρ.c):∃ o,H a=some o:=by
 obtain ⟨n,hn⟩:=List.mem_iff_getElem?.mp ha
 have hl:=(List.getElem?_eq_some_iff.mp hn).1
 rw [h.len] at hl
 obtain ⟨a',e,hv⟩:=h.ce n _ (List.getElem?_eq_getElem hl)
 rw [hn] at e
 cases e
 exact hv.has
theorem HR.nin {g:G} (h:HR K ρ H g) {p:Addr} (hp:H p=none) : ¬ ρ.mem p:=λ z=>by
 rcases z with z | z
 ·obtain ⟨vs,e⟩:=h.has z
  rw [hp] at e
  cases e
 ·obtain ⟨_,o,e⟩:=h.hid _ z
  rw [hp] at e
  cases e
theorem HR.same {g:G} (s:Same H H') (h:HR K ρ H g):HR K ρ H' g:=⟨h.len,h.nd,λ n ds e=>by
 obtain ⟨a,h1,h2⟩:=h.ce n ds e
 obtain ⟨o,h3⟩:=h2.has
 exact ⟨a,h1,h2.mono (Stp.same s) (by rw [h3]; exact s _ _ h3)⟩,λ a z=>by
 obtain ⟨h1,o,e⟩:=h.hid a z
 exact ⟨h1,o,s _ _ e⟩⟩
def Rh.add (ρ : Rh) (p:Addr):Rh:=⟨ρ.c ++ [p],ρ.h⟩
theorem HR.allocC {g:G} (h:HR K ρ H g) {p:Addr} (hp:H p=none) {o:HO} {c:Cell} (t:Stp ρ H (ρ.add p) (upd H p o)->ZBt K (ρ.add p) (upd H p o) p c):HR K (ρ.add p) (upd H p o) (g ++ [c])/\Stp ρ H (ρ.add p) (upd H p o):=by
 have s:Stp ρ H (ρ.add p) (upd H p o):=⟨⟨[p],rfl⟩,rfl,λ a o e _=>by rw [Zg (Zo e hp)]; exact e,λ a z=>by
  rcases List.mem_append.mp z with z | z
  ·exact .inl z
  ·rw [List.mem_singleton.mp z]; exact .inr hp,λ a u e=>⟨u,by rw [Zg (Zo e hp)]; exact e,rfl⟩⟩
 refine ⟨⟨by show (ρ.c ++ [p]).length=_; rw [List.length_append,List.length_append,h.len]; rfl,?_,λ n d e=>?_,λ a z=>?_⟩,s⟩
 ·show (ρ.c ++ [p]).Nodup
  rw [List.nodup_append]
  refine ⟨h.nd,by simp,λ a ha b hb=>?_⟩
  rw [List.mem_singleton.mp hb]
  intro z
  rw [z] at ha
  exact h.nin hp (.inl ha)
 ·show ∃ a,(ρ.c ++ [p])[n]? = some a/\_
  by_cases hn:n < g.length
  ·rw [List.getElem?_append_left hn] at e
   obtain ⟨a,h1,h2⟩:=h.ce n d e
   obtain ⟨u,h3⟩:=h2.has
   exact ⟨a,by rw [List.getElem?_append_left (by rw [h.len]; exact hn)]; exact h1,h2.mono s (Zg (Zo h3 hp))⟩
  ·have hl:n < (g ++ [c]).length:=(List.getElem?_eq_some_iff.mp e).1
   have hn':n=g.length:=by rw [List.length_append] at hl; simp at hl; omega
   rw [hn',List.getElem?_append_right (Nat.le_refl _)] at e
   simp at e
   subst e
   refine ⟨p,?_,t s⟩
   rw [hn',← h.len,List.getElem?_append_right (Nat.le_refl _)]
   simp
 ·obtain ⟨h1,u,e⟩:=h.hid a z
  refine ⟨λ q=>?_,u,by rw [Zg (Zo e hp)]; exact e⟩
  rcases List.mem_append.mp q with q | q
  ·exact h1 q
  ·rw [List.mem_singleton.mp q] at e; rw [e] at hp; cases hp
theorem HR.alloc {g:G} (h:HR K ρ H g) {p:Addr} (hp:H p=none) {vs:List V} {ds:List PyData} (t:RelDL K ρ H vs ds):HR K (ρ.add p) (upd H p (.lst vs)) (g ++ [.pl ds])/\Stp ρ H (ρ.add p) (upd H p (.lst vs)):=h.allocC hp λ s=>⟨vs,Zt,t.mono s⟩
theorem HR.writeC {g:G} (h:HR K ρ H g) {n:Nat} {a:Addr} (ha : ρ.c[n]? = some a) {o:HO} {c:Cell} (hk:∀ u,H a=some u->kdO o=kdO u) (t:Stp ρ H ρ (upd H a o)->ZBt K ρ (upd H a o) a c):HR K ρ (upd H a o) (g.set n c)/\Stp ρ H ρ (upd H a o):=by
 have hm:a ∈ ρ.c:=List.mem_of_getElem? ha
 have s:Stp ρ H ρ (upd H a o):=⟨⟨[],(List.append_nil _).symm⟩,rfl,λ b o e nb=>by rw [Zg (λ z=>nb (by rw [z]; exact hm))]; exact e,λ _ z=>.inl z,λ b u e=>by
  by_cases q:b=a
  ·subst q; exact ⟨o,Zt,hk u e⟩
  ·exact ⟨u,by rw [Zg q]; exact e,rfl⟩⟩
 refine ⟨⟨by rw [List.length_set,h.len],h.nd,λ m d e=>?_,λ b z=>?_⟩,s⟩
 ·by_cases hnm:n=m
  ·subst hnm
   have hl:n < g.length:=by have:=(List.getElem?_eq_some_iff.mp e).1; rw [List.length_set] at this; exact this
   rw [List.getElem?_set_self hl] at e
   cases e
   exact ⟨a,ha,t s⟩
  ·rw [List.getElem?_set_ne hnm] at e
   obtain ⟨b,h1,h2⟩:=h.ce m d e
   have:b ≠ a:=λ z=>by
    rw [z] at h1
    have l1:=(List.getElem?_eq_some_iff.mp h1).1
    have e1:=(List.getElem?_eq_some_iff.mp h1).2
    have l2:=(List.getElem?_eq_some_iff.mp ha).1
    have e2:=(List.getElem?_eq_some_iff.mp ha).2
    rcases Nat.lt_or_gt_of_ne hnm with q | q
    ·exact (List.pairwise_iff_getElem.mp h.nd n m l2 l1 q) (by rw [e1,e2])
    ·exact (List.pairwise_iff_getElem.mp h.nd m n l1 l2 q) (by rw [e1,e2])
   exact ⟨b,h1,h2.mono s (Zg this)⟩
 ·obtain ⟨h1,u,e⟩:=h.hid b z
  exact ⟨h1,u,by rw [Zg (λ q=>h1 (by rw [q]; exact hm))]; exact e⟩
theorem HR.write {g:G} (h:HR K ρ H g) {n:Nat} {a:Addr} (ha : ρ.c[n]? = some a) {us:List V} (hl:H a=some (.lst us)) {vs:List V} {ds:List PyData} (t:RelDL K ρ H vs ds):HR K ρ (upd H a (.lst vs)) (g.set n (.pl ds))/\Stp ρ H ρ (upd H a (.lst vs)):=h.writeC ha (λ u e=>by rw [hl] at e; cases e; rfl) λ s=>⟨vs,Zt,t.mono s⟩
theorem ZCy {g:G} (h:HR K ρ H g) {p:Addr} {o:HO} (hp:H p=none):Same H (upd H p o)/\HR K ρ (upd H p o) g/\¬ ρ.mem p:=⟨H1.Same.upd hp,h.same (H1.Same.upd hp),h.nin hp⟩
def Rh.hide (ρ : Rh) (p:Addr):Rh:=⟨ρ.c,p :: ρ.h⟩
theorem FzL.hide {a p:Addr} {xs:List V} (hp:H p=none) (h:FzL K ρ H a xs):FzL K (ρ.hide p) (upd H p o) a xs:=by
 rcases h with ⟨h,n⟩ | h
 ·have hn:a ≠ p:=by
   rcases h with h | ⟨_,h⟩ <;> exact Zo h hp
  refine .inl ⟨?_,λ z=>z.elim (λ q=>n (.inl q)) λ q=>(List.mem_cons.mp q).elim hn λ q=>n (.inr q)⟩
  unfold Rd
  rw [Zg hn]
  exact h
 ·exact .inr h
theorem FzT.hide {a p:Addr} {xs:List V} (hp:H p=none) (h:FzT K ρ H a xs):FzT K (ρ.hide p) (upd H p o) a xs:=by
 rcases h with ⟨h,n⟩ | h
 ·have hn:a ≠ p:=by
   rcases h with h | ⟨_,h⟩ <;> exact Zo h hp
  refine .inl ⟨?_,λ z=>z.elim (λ q=>n (.inl q)) λ q=>(List.mem_cons.mp q).elim hn λ q=>n (.inr q)⟩
  unfold Rd
  rw [Zg hn]
  exact h
 ·exact .inr h
mutual
theorem RelD.hide {p:Addr} {o:HO} (hp:H p=none):∀ {v:V} {d:PyData},RelD K ρ H v d->RelD K (ρ.hide p) (upd H p o) v d
 | _,_,.non=>.non
 | _,_,.bl b=>.bl b
 | _,_,.int i=>.int i
 | _,_,.str x=>.str x
 | _,_,.tup h hl=>.tup (h.hide hp) (RelDL.hide hp hl)
 | _,_,.lst h n hl=>.lst (by rw [Zg (Zo h hp)]; exact h) (λ z=>z.elim (λ q=>n (.inl q)) λ q=>(List.mem_cons.mp q).elim (Zo h hp) λ q=>n (.inr q)) (RelDL.hide hp hl)
 | _,_,.dct h n=>.dct (by rw [Zg (Zo h hp)]; exact h) λ z=>z.elim (λ q=>n (.inl q)) λ q=>(List.mem_cons.mp q).elim (Zo h hp) λ q=>n (.inr q)
theorem RelDL.hide {p:Addr} {o:HO} (hp:H p=none):∀ {vs:List V} {ds:List PyData},RelDL K ρ H vs ds->RelDL K (ρ.hide p) (upd H p o) vs ds
 | _,_,.nil=>.nil
 | _,_,.cons h hl=>.cons (RelD.hide hp h) (RelDL.hide hp hl)
end
mutual
theorem Rel.hide {p:Addr} {o:HO} (hp:H p=none):∀ {v:V} {x:W},Rel K ρ H v x->Rel K (ρ.hide p) (upd H p o) v x
 | _,_,.dat h=>.dat (h.hide hp)
 | _,_,.ref h=>.ref h
 | _,_,.inp h=>.inp (h.hide hp)
 | _,_,.ty=>.ty
 | _,_,.tup h t=>.tup (h.hide hp) (RelL.hide hp t)
theorem RelL.hide {p:Addr} {o:HO} (hp:H p=none):∀ {vs:List V} {xs:List W},RelL K ρ H vs xs->RelL K (ρ.hide p) (upd H p o) vs xs
 | _,_,.nil=>.nil
 | _,_,.cons h t=>.cons (Rel.hide hp h) (RelL.hide hp t)
end
theorem RelF.hide {p:Addr} {o:HO} (hp:H p=none):∀ {ns:List Str} {vs:List (Str × V)} {xs:List W},RelF K ρ H ns vs xs->RelF K (ρ.hide p) (upd H p o) ns vs xs
 | _,_,_,.nil=>.nil
 | _,_,_,.cons h t=>.cons (h.hide hp) (t.hide hp)
theorem ZBt.hide {p:Addr} {o:HO} (hp:H p=none) {a:Addr} {c:Cell} (h:ZBt K ρ H a c):ZBt K (ρ.hide p) (upd H p o) a c:=by
 obtain ⟨u,hu⟩:=h.has
 have e:upd H p o a=H a:=Zg (Zo hu hp)
 cases c with
 | pl ds=>obtain ⟨vs,h1,h2⟩:=h; exact ⟨vs,by rw [e]; exact h1,h2.hide hp⟩
 | rl ws=>obtain ⟨vs,h1,h2⟩:=h; exact ⟨vs,by rw [e]; exact h1,h2.hide hp⟩
 | ob c fs=>obtain ⟨C,dx,vs,h0,h1,h2⟩:=h; exact ⟨C,dx,vs,h0,by rw [e]; exact h1,h2.hide hp⟩
theorem HR.hide {g:G} {p:Addr} {o:HO} (hp:H p=none) (h:HR K ρ H g):HR K (ρ.hide p) (upd H p o) g:=⟨h.len,h.nd,λ n ds e=>by
 obtain ⟨a,h1,h2⟩:=h.ce n ds e
 exact ⟨a,h1,h2.hide hp⟩,λ a z=>by
 rcases List.mem_cons.mp z with rfl | z
 ·exact ⟨λ q=>h.nin hp (.inl q),o,Zt⟩
 ·obtain ⟨h1,u,e⟩:=h.hid a z
  exact ⟨h1,u,by rw [Zg (Zo e hp)]; exact e⟩⟩
theorem FzL.grow {a p:Addr} {xs:List V} (hp:p ∈ ρ.h) (h:FzL K ρ H a xs):FzL K ρ (upd H p o) a xs:=by
 rcases h with ⟨h,n⟩ | h
 ·refine .inl ⟨?_,n⟩
  unfold Rd
  rw [Zg λ z=>n (.inr (by rw [z]; exact hp))]
  exact h
 ·exact .inr h
theorem FzT.grow {a p:Addr} {xs:List V} (hp:p ∈ ρ.h) (h:FzT K ρ H a xs):FzT K ρ (upd H p o) a xs:=by
 rcases h with ⟨h,n⟩ | h
 ·refine .inl ⟨?_,n⟩
  unfold Rd
  rw [Zg λ z=>n (.inr (by rw [z]; exact hp))]
  exact h
 ·exact .inr h
mutual
theorem RelD.grow {p:Addr} {o:HO} (hp:p ∈ ρ.h):∀ {v:V} {d:PyData},RelD K ρ H v d->RelD K ρ (upd H p o) v d
 | _,_,.non=>.non
 | _,_,.bl b=>.bl b
 | _,_,.int i=>.int i
 | _,_,.str x=>.str x
 | _,_,.tup h hl=>.tup (h.grow hp) (RelDL.grow hp hl)
 | _,_,.lst h n hl=>.lst (by rw [Zg λ z=>n (.inr (by rw [z]; exact hp))]; exact h) n (RelDL.grow hp hl)
 | _,_,.dct h n=>.dct (by rw [Zg λ z=>n (.inr (by rw [z]; exact hp))]; exact h) n
theorem RelDL.grow {p:Addr} {o:HO} (hp:p ∈ ρ.h):∀ {vs:List V} {ds:List PyData},RelDL K ρ H vs ds->RelDL K ρ (upd H p o) vs ds
 | _,_,.nil=>.nil
 | _,_,.cons h hl=>.cons (RelD.grow hp h) (RelDL.grow hp hl)
end
mutual
theorem Rel.grow {p:Addr} {o:HO} (hp:p ∈ ρ.h):∀ {v:V} {x:W},Rel K ρ H v x->Rel K ρ (upd H p o) v x
 | _,_,.dat h=>.dat (h.grow hp)
 | _,_,.ref h=>.ref h
 | _,_,.inp h=>.inp (h.grow hp)
 | _,_,.ty=>.ty
 | _,_,.tup h t=>.tup (h.grow hp) (RelL.grow hp t)
theorem RelL.grow {p:Addr} {o:HO} (hp:p ∈ ρ.h):∀ {vs:List V} {xs:List W},RelL K ρ H vs xs->RelL K ρ (upd H p o) vs xs
 | _,_,.nil=>.nil
 | _,_,.cons h t=>.cons (Rel.grow hp h) (RelL.grow hp t)
end
theorem RelF.grow {p:Addr} {o:HO} (hp:p ∈ ρ.h):∀ {ns:List Str} {vs:List (Str × V)} {xs:List W},RelF K ρ H ns vs xs->RelF K ρ (upd H p o) ns vs xs
 | _,_,_,.nil=>.nil
 | _,_,_,.cons h t=>.cons (h.grow hp) (t.grow hp)
theorem HR.grow {g:G} {p:Addr} {o:HO} (hp:p ∈ ρ.h) (h:HR K ρ H g):HR K ρ (upd H p o) g:=⟨h.len,h.nd,λ n ds e=>by
 obtain ⟨a,h1,h2⟩:=h.ce n ds e
 have eh:upd H p o a=H a:=Zg λ z=>(h.hid p hp).1 (by rw [← z]; exact List.mem_of_getElem? h1)
 refine ⟨a,h1,?_⟩
 cases ds with
 | pl ds=>obtain ⟨vs,h1,h2⟩:=h2; exact ⟨vs,by rw [eh]; exact h1,h2.grow hp⟩
 | rl ws=>obtain ⟨vs,h1,h2⟩:=h2; exact ⟨vs,by rw [eh]; exact h1,h2.grow hp⟩
 | ob c fs=>obtain ⟨C,dx,vs,h0,h1,h2⟩:=h2; exact ⟨C,dx,vs,h0,by rw [eh]; exact h1,h2.grow hp⟩,λ a z=>by
 obtain ⟨h1,u,e⟩:=h.hid a z
 by_cases q:a=p
 ·subst q; exact ⟨h1,o,Zt⟩
 ·exact ⟨h1,u,by rw [Zg q]; exact e⟩⟩
theorem HR.shown {g:G} {p:Addr} (h:HR K (ρ.hide p) H g):HR K ρ H g:=⟨h.len,h.nd,λ n ds e=>by
 obtain ⟨a,h1,h2⟩:=h.ce n ds e
 exact ⟨a,h1,h2.less (ρ':=ρ) (ρ:=ρ.hide p) rfl (λ _ z=>z.elim .inl λ q=>.inr (List.mem_cons_of_mem _ q))⟩,λ a z=>h.hid a (List.mem_cons_of_mem _ z)⟩
end
structure Rst (K:PySem.W.Frag) (ρ : Rh) (H:Hp) (σ : St) (sd:Sd) (g:G):Prop where
 len : σ.length=sd.length
 env:∀ (i:Nat) (x:W),sd[i]? = some (some x)->∃ v,σ[i]? = some (some v)/\Rel K ρ H v x
 hr:HR K ρ H g
theorem Rst.step {K:PySem.W.Frag} {ρ ρ':Rh} {H H':Hp} {σ : St} {sd:Sd} {g g':G} (r:Rst K ρ H σ sd g) (s:Stp ρ H ρ' H') (h:HR K ρ' H' g'):Rst K ρ' H' σ sd g':=⟨r.len,λ i x e=>by
 obtain ⟨v,h1,h2⟩:=r.env i x e
 exact ⟨v,h1,h2.mono s⟩,h⟩
theorem Rst.set {K:PySem.W.Frag} {ρ : Rh} {H:Hp} {σ : St} {sd:Sd} {g:G} (r:Rst K ρ H σ sd g) {v:V} {x:W} (t:Rel K ρ H v x) (i:Nat):Rst K ρ H (σ.set i (some v)) (sd.set i (some x)) g:=⟨by rw [List.length_set,List.length_set,r.len],λ j y e=>by
 by_cases hj:i=j
 ·subst hj
  have hl:i < sd.length:=by have:=(List.getElem?_eq_some_iff.mp e).1; rw [List.length_set] at this; exact this
  rw [List.getElem?_set_self hl] at e
  cases e
  exact ⟨v,by rw [List.getElem?_set_self (by rw [r.len]; exact hl)],t⟩
 ·rw [List.getElem?_set_ne hj] at e
  obtain ⟨u,h1,h2⟩:=r.env j y e
  exact ⟨u,by rw [List.getElem?_set_ne hj]; exact h1,h2⟩,r.hr⟩
abbrev DE:=Sd->G->Option (W × G)
abbrev DB:=Sd->G->Option (Bool × G)
abbrev DA:=Sd->G->Option (List W × G)
def Pv (K:PySem.W.Frag) (ρ : Rh) (H:Hp) (x:W) (g:G) (Q:VK):Prop:=∀ v H' ρ',Stp ρ H ρ' H'->HR K ρ' H' g->Rel K ρ' H' v x->Q v H'
theorem Pv.step {K:PySem.W.Frag} {ρ ρ':Rh} {H H':Hp} {x:W} {g:G} {Q:VK} (p:Pv K ρ H x g Q) (s:Stp ρ H ρ' H'):Pv K ρ' H' x g Q:=λ v H2 ρ2 s2 h r=>p v H2 ρ2 (s.trans s2) h r
def tE (K:PySem.W.Frag) (d:DE):TE:=λ σ H Q=>∃ ρ sd g x g',Rst K ρ H σ sd g/\d sd g=some (x,g')/\Pv K ρ H x g' Q
def tT (K:PySem.W.Frag) (d:DB):TT:=λ σ H Q=>∃ ρ sd g b g',Rst K ρ H σ sd g/\d sd g=some (b,g')/\∀ H' ρ',Stp ρ H ρ' H'->HR K ρ' H' g'->Q b H'
def tA (K:PySem.W.Frag) (d:DA):TA:=λ σ H Q=>∃ ρ sd g xs g',Rst K ρ H σ sd g/\d sd g=some (xs,g')/\∀ vs H' ρ',Stp ρ H ρ' H'->HR K ρ' H' g'->RelL K ρ' H' vs xs->Q vs H'
theorem PE.imp {X:Cx} {e:Expr} {t u:TE} (h:PE X e t) (k:∀ σ H Q,u σ H Q->t σ H Q):PE X e u:=λ pins s σ H Q I q=>h pins s σ H Q I (k σ H Q q)
theorem PT.imp {X:Cx} {e:Expr} {t u:TT} (h:PT X e t) (k:∀ σ H Q,u σ H Q->t σ H Q):PT X e u:=λ pins s σ H Q I q=>h pins s σ H Q I (k σ H Q q)
theorem PW.imp {X:Cx} {e:Expr} {t u:TT} (h:PW X e t) (k:∀ σ H Q,u σ H Q->t σ H Q):PW X e u:=λ wh pins s σ H Q I q=>h wh pins s σ H Q I (k σ H Q q)
theorem PA.imp {X:Cx} {e:List Expr} {t u:TA} (h:PA X e t) (k:∀ σ H Q,u σ H Q->t σ H Q):PA X e u:=λ pos pins s σ H Q I q=>h pos pins s σ H Q I (k σ H Q q)
theorem PS.imp {X:Cx} {e:Stmt} {t u:TS} (h:PS X e t) (k:∀ D σ H,u D σ H->t D σ H):PS X e u:=λ pins s σ H D I q=>h pins s σ H D I (k D σ H q)
theorem PSs.imp {X:Cx} {e:List Stmt} {t u:TS} (h:PSs X e t) (k:∀ D σ H,u D σ H->t D σ H):PSs X e u:=λ pins s σ H D I q=>h pins s σ H D I (k D σ H q)
theorem OpR.imp {X:Cx} {f:Value->Value->Sem Value} {r r':R2} (h:OpR X f r) (k:∀ x y H Q,r' x y H Q->r x y H Q):OpR X f r':=λ pins s σ H x y v u Q I rx ry q=>h pins s σ H x y v u Q I rx ry (k x y H Q q)
theorem Z3.imp {X:Cx} {f:Value} {r r':List V->Hp->VK->Prop} (h:Z3 X f r) (k:∀ xs H Q,r' xs H Q->r xs H Q):Z3 X f r':=λ pins s σ H xs us Q I rx q=>h pins s σ H xs us Q I rx (k xs H Q q)
end L2
namespace L2
open PySem PySem.Spec PyProof.Rows H1
def ZD (i:Nat):DE:=λ sd g=>match sd.getD i none with | some x=>some (x,g) | none=>none
def dC (d:PyData):DE:=λ _ g=>some (.dat d,g)
def dOp (f:W->W->G->Option (W × G)) (da db:DE):DE:=λ sd g=>(da sd g).bind λ p=>(db sd p.2).bind λ q=>f p.1 q.1 q.2
def bW:W × G->Option (Bool × G)
 | (.dat (.bool b),g)=>some (b,g)
 | _=>none
def dB (d:DE):DB:=λ sd g=>(d sd g).bind bW
def ZCB (d:DB):DB:=λ sd g=>(d sd g).map λ p=>(!p.1,p.2)
def ZCb (d e:DB):DB:=λ sd g=>(d sd g).bind λ p=>if p.1=true then e sd p.2 else some (false,p.2)
def dOr (d e:DB):DB:=λ sd g=>(d sd g).bind λ p=>if p.1=true then some (true,p.2) else e sd p.2
def ZK:DA:=λ _ g=>some ([],g)
def ZC (d:DE) (a:DA):DA:=λ sd g=>(d sd g).bind λ p=>(a sd p.2).map λ q=>(p.1 :: q.1,q.2)
def dF (f:List W->G->Option (W × G)) (a:DA):DE:=λ sd g=>(a sd g).bind λ p=>f p.1 p.2
def ZN0:List W->Option (List PyData)
 | []=>some []
 | .dat d :: r=>(ZN0 r).map λ ds=>d :: ds
 | _ :: _=>none
def Z8 (ws:List W) (g:G):Option (W × G):=(ZN0 ws).bind λ ds=>if ds.length<=1000 then some (.dat (.tuple ds),g) else none
def ZFv (ws:List W) (g:G):Option (W × G):=(ZN0 ws).bind λ ds=>if ds.length<=1000 then some (.dat (.list ds),g) else none
def ZDh (ws:List W) (g:G):Option (W × G):=(ZN0 ws).bind λ ds=>if ds.length<=1000 then some (.ref g.length,g ++ [.pl ds]) else none
def rOp (K:PySem.W.Frag) (f:W->W->G->Option (W × G)):R2:=λ x y H Q=>∃ ρ a b g z g',HR K ρ H g/\Rel K ρ H x a/\Rel K ρ H y b/\f a b g=some (z,g')/\Pv K ρ H z g' Q
def rF (K:PySem.W.Frag) (f:List W->G->Option (W × G)):List V->Hp->VK->Prop:=λ xs H Q=>∃ ρ ws g z g',HR K ρ H g/\RelL K ρ H xs ws/\f ws g=some (z,g')/\Pv K ρ H z g' Q
theorem bnd {α β : Type} {o:Option α} {f : α->Option β} {y : β} (h:o.bind f=some y):∃ x,o=some x/\f x=some y:=by
 cases o with
 | none=>cases h
 | some x=>exact ⟨x,rfl,h⟩
theorem mp {α β : Type} {o:Option α} {f : α->β} {y : β} (h:o.map f=some y):∃ x,o=some x/\f x=y:=by
 cases o with
 | none=>cases h
 | some x=>exact ⟨x,rfl,Option.some.inj h⟩
theorem ZE6 {K:PySem.W.Frag} {ρ : Rh} {H:Hp}:∀ {vs:List V} {ws:List W} {ds:List PyData},RelL K ρ H vs ws->ZN0 ws=some ds->RelDL K ρ H vs ds
 | _,[],_,.nil,e=>by cases e; exact .nil
 | _,.dat d :: r,_,.cons (.dat h) t,e=>by
  obtain ⟨x,e1,rfl⟩:=mp e
  exact .cons h (ZE6 t e1)
 | _,.ref _ :: _,_,.cons _ _,e=>by cases e
 | _,.inp _ :: _,_,.cons _ _,e=>by cases e
 | _,.ty _ :: _,_,.cons _ _,e=>by cases e
 | _,.tup _ :: _,_,.cons _ _,e=>by cases e
section
variable {X:Cx} {a b c e:Expr} {es:List Expr} {da db dc d:DE} {ta tb:DB} {aa:DA} {pos p2:Pos} {f f':W->W->G->Option (W × G)}
theorem ZRg (i:Nat) {x:Str} {pos:Pos} (hN:X.N[i]? = some x:=by rfl) (hv:Vis X.env.scope x:=by first | exact Or.inl rfl | exact Or.inr (Or.inl rfl) | exact Or.inr (Or.inr rfl)) (hd:(x == ("__debug__" : Str))=false:=by decide)
  (hcd:(x == ("__classdict__" : Str))=false:=by decide):PE X (.Name x pos) (tE X.K (ZD i)):=(ZRs hN hv hd hcd).imp λ σ H Q ⟨ρ,sd,g,y,g',r,e,q⟩=>by
 unfold ZD at e
 cases h:sd.getD i none with
 | none=>rw [h] at e; cases e
 | some z =>
  rw [h] at e
  cases e
  have h':sd[i]? = some (some y):=by
   rw [List.getD_eq_getElem?_getD] at h
   cases k:sd[i]? with
   | none=>rw [k] at h; cases h
   | some w=>rw [k] at h; exact congrArg some h
  obtain ⟨v,h1,h2⟩:=r.env i y h'
  exact ⟨v,h1,q v H ρ .refl r.hr h2⟩
theorem ZMf {v:V} {d:PyData} (h:PE X e (tC v)) (r:∀ ρ H,RelD X.K ρ H v d):PE X e (tE X.K (dC d)):=h.imp λ σ H Q ⟨ρ,sd,g,y,g',hr,e,q⟩=>by
 cases e
 exact q v H ρ .refl hr.hr (.dat (r ρ H))
theorem ZRa {i j pos}:PE X (.Constant (.int i) j pos) (tE X.K (dC (.int i))):=ZMf ZKC λ _ _=>.int i
theorem de_bl {b j pos}:PE X (.Constant (.bool b) j pos) (tE X.K (dC (.bool b))):=ZMf pe_bl λ _ _=>.bl b
theorem ZQo {j pos}:PE X (.Constant .none j pos) (tE X.K (dC .none)):=ZMf ZQb λ _ _=>.non
theorem ZQl {x j pos}:PE X (.Constant (.str x) j pos) (tE X.K (dC (.str x))):=ZMf ZQS λ _ _=>.str x
theorem ZNy {x:Str} {n:Int} (hg:Gl X x) (h:ZJO X.mg x n) (hd:(x == ("__debug__" : Str))=false:=by decide):PE X (.Name x pos) (tE X.K (dC (.int n))):=ZMf (ZNc hg h hd) λ _ _=>.int n
theorem ZLL {σ : St} {H:Hp} {Q:VK} (h:tE X.K (dOp f da db) σ H Q):tOp (rOp X.K f) (tE X.K da) (tE X.K db) σ H Q:=by
 obtain ⟨ρ,sd,g,x,g',r,e,q⟩:=h
 obtain ⟨⟨y,g1⟩,e1,e⟩:=bnd e
 obtain ⟨⟨z,g2⟩,e2,e⟩:=bnd e
 refine ⟨ρ,sd,g,y,g1,r,e1,λ v H1 ρ1 s1 h1 r1=>⟨ρ1,sd,g1,z,g2,r.step s1 h1,e2,λ w H2 ρ2 s2 h2 r2=>?_⟩⟩
 exact ⟨ρ2,y,z,g2,x,g',h2,r1.mono s2,r2,e,q.step (s1.trans s2)⟩
theorem de_op {op:Operator} (ho:OpR X (binaryOp op) (rOp X.K f)) (ha:PE X a (tE X.K da)) (hb:PE X b (tE X.K db)):PE X (.BinOp a op b pos) (tE X.K (dOp f da db)):=(ZP2 ho ha hb).imp λ _ _ _ h=>ZLL h
theorem ZQn {op:CmpOp} (ho:OpR X (compareOp op) (rOp X.K f)) (ha:PE X a (tE X.K da)) (hb:PE X b (tE X.K db)) (hm:behindInMarks op b=false):PE X (.Compare a [op] [b] pos) (tE X.K (dOp f da db)):=(ZOL ho ha hb hm).imp λ _ _ _ h=>ZLL h
theorem de_ix (ho:IxR X (rOp X.K f)) (ha:PE X a (tE X.K da)) (hb:PE X b (tE X.K db)) (hs:ZFE b):PE X (.Subscript a b pos) (tE X.K (dOp f da db)):=(ZP6 ho ha hb hs).imp λ _ _ _ h=>ZLL h
theorem ZGF {K:PySem.W.Frag} {ρ : Rh} {H:Hp} {v:V} {x:W} {g g':G} {k:Bool} (r:Rel K ρ H v x) (h:bW (x,g)=some (k,g')):v=.bl k/\g=g':=by
 cases r with
 | ref _=>cases h
 | inp _=>cases h
 | ty=>cases h
 | tup _ _=>cases h
 | dat r =>
  cases r with
  | bl c=>cases h; exact ⟨rfl,rfl⟩
  | _=>cases h
theorem ZLN {σ : St} {H:Hp} {Q:Bool->Hp->Prop} {t:TE} (k:∀ σ H Q,tE X.K d σ H Q->t σ H Q) (h:tT X.K (dB d) σ H Q):ZQC t σ H Q:=by
 obtain ⟨ρ,sd,g,b,g',r,e,q⟩:=h
 obtain ⟨⟨y,g1⟩,e1,e⟩:=bnd e
 refine k _ _ _ ⟨ρ,sd,g,y,g1,r,e1,λ v H1 ρ1 s1 h1 r1=>?_⟩
 obtain ⟨rfl,rfl⟩:=ZGF r1 e
 exact ⟨b,rfl,q H1 ρ1 s1 h1⟩
theorem ZQE {op:CmpOp} (ho:OpR X (compareOp op) (rOp X.K f)) (ha:PE X a (tE X.K da)) (hb:PE X b (tE X.K db)) (hm:behindInMarks op b=false):PT X (.Compare a [op] [b] pos) (tT X.K (dB (dOp f da db))):=(ZON ho ha hb hm).imp λ _ _ _ h=>ZLN (λ _ _ _ h=>ZLL h) h
theorem ZRe (h:PE X e (tE X.K d)) (he:∀ whole,isTrue e X.env whole=(do let v ← whole; standAt e.pos; holding [v] (truthy v)):=by intro _; rfl):PT X e (tT X.K (dB d)):=(ZRN h he).imp λ _ _ _ h=>ZLN (λ _ _ _ h=>h) h
def ZEA (f f':W->W->G->Option (W × G)) (da db dc:DE):DE:=λ sd g=>(da sd g).bind λ p=>(db sd p.2).bind λ q=>(f p.1 q.1 q.2).bind λ z=>(bW z).bind λ k=>if k.1=true then (dc sd k.2).bind λ u=>f' q.1 u.1 u.2 else some (.dat (.bool false),k.2)
theorem ZMd {σ : St} {H:Hp} {Q:VK} (h:tE X.K (ZEA f f' da db dc) σ H Q):ZNx (rOp X.K f) (rOp X.K f') (tE X.K da) (tE X.K db) (tE X.K dc) σ H Q:=by
 obtain ⟨ρ,sd,g,x,g',r,e,q⟩:=h
 obtain ⟨⟨y,g1⟩,e1,e⟩:=bnd e
 obtain ⟨⟨z,g2⟩,e2,e⟩:=bnd e
 obtain ⟨⟨u,g3⟩,e3,e⟩:=bnd e
 obtain ⟨⟨k,g4⟩,e4,e⟩:=bnd e
 refine ⟨ρ,sd,g,y,g1,r,e1,λ v H1 ρ1 s1 h1 r1=>⟨ρ1,sd,g1,z,g2,r.step s1 h1,e2,λ w H2 ρ2 s2 h2 r2=>⟨ρ2,y,z,g2,u,g3,h2,r1.mono s2,r2,e3,λ t H3 ρ3 s3 h3 r3=>?_⟩⟩⟩
 obtain ⟨rfl,rfl⟩:=ZGF r3 e4
 refine ⟨k,rfl,?_⟩
 have s13:=s1.trans (s2.trans s3)
 cases k with
 | true =>
  obtain ⟨⟨u2,g5⟩,e5,e⟩:=bnd e
  exact ⟨ρ3,sd,g3,u2,g5,r.step s13 h3,e5,λ t4 H4 ρ4 s4 h4 r4=>⟨ρ4,z,u2,g5,x,g',h4,(r2.mono s3).mono s4,r4,e,q.step (s13.trans s4)⟩⟩
 | false =>
  cases e
  exact q (.bl false) H3 ρ3 s13 h3 (.dat (.bl false))
theorem ZNO {op op':CmpOp} (ho:OpR X (compareOp op) (rOp X.K f)) (ho':OpR X (compareOp op') (rOp X.K f')) (ha:PE X a (tE X.K da)) (hb:PE X b (tE X.K db)) (hc:PE X c (tE X.K dc)) (hm:lastMarks [op,op'] [b,c]=false:=by with_unfolding_all rfl) :
  PE X (.Compare a [op,op'] [b,c] pos) (tE X.K (ZEA f f' da db dc)):=(ZNC ho ho' ha hb hc hm).imp λ _ _ _ h=>ZMd h
theorem ZQP (h:PT X a (tT X.K ta)):PT X (.UnaryOp .Not a pos) (tT X.K (ZCB ta)):=(ZQX h).imp λ σ H Q ⟨ρ,sd,g,b,g',r,e,q⟩=>by
 obtain ⟨⟨y,g1⟩,e1,e⟩:=mp e
 cases e
 exact ⟨ρ,sd,g,y,g1,r,e1,q⟩
theorem ZO6 (h:PT X a (tT X.K ta)):PW X (.BoolOp .And [a] pos) (tT X.K ta):=ZPq h
theorem ZQu (h:PT X a (tT X.K ta)):PW X (.BoolOp .Or [a] pos) (tT X.K ta):=ZRO h
theorem ZQO {rest:List Expr} (ha:PT X a (tT X.K ta)) (hb:PW X (.BoolOp .And (b :: rest) pos) (tT X.K tb)):PW X (.BoolOp .And (a :: b :: rest) pos) (tT X.K (ZCb ta tb)):=(ZQR ha hb).imp λ σ H Q ⟨ρ,sd,g,b,g',r,e,q⟩=>by
 obtain ⟨⟨y,g1⟩,e1,e⟩:=bnd e
 refine ⟨ρ,sd,g,y,g1,r,e1,λ H1 ρ1 s1 h1=>?_⟩
 cases y with
 | true=>exact ⟨ρ1,sd,g1,b,g',r.step s1 h1,e,λ H2 ρ2 s2 h2=>q H2 ρ2 (s1.trans s2) h2⟩
 | false=>cases e; exact q H1 ρ1 s1 h1
theorem dw_or {rest:List Expr} (ha:PT X a (tT X.K ta)) (hb:PW X (.BoolOp .Or (b :: rest) pos) (tT X.K tb)):PW X (.BoolOp .Or (a :: b :: rest) pos) (tT X.K (dOr ta tb)):=(pw_or ha hb).imp λ σ H Q ⟨ρ,sd,g,b,g',r,e,q⟩=>by
 obtain ⟨⟨y,g1⟩,e1,e⟩:=bnd e
 refine ⟨ρ,sd,g,y,g1,r,e1,λ H1 ρ1 s1 h1=>?_⟩
 cases y with
 | false=>exact ⟨ρ1,sd,g1,b,g',r.step s1 h1,e,λ H2 ρ2 s2 h2=>q H2 ρ2 (s1.trans s2) h2⟩
 | true=>cases e; exact q H1 ρ1 s1 h1
def ZBu (a b:DE):DE:=λ sd g=>((a sd g).bind bW).bind λ p=>if p.1=true then b sd p.2 else some (.dat (.bool false),p.2)
def ZKv (a b:DE):DE:=λ sd g=>((a sd g).bind bW).bind λ p=>if p.1=true then some (.dat (.bool true),p.2) else b sd p.2
def ZG0 (a:DE):DE:=λ sd g=>((a sd g).bind bW).map λ p=>(.dat (.bool !p.1),p.2)
theorem ZQV {op} (h:PE X a (tE X.K da)):PE X (.BoolOp op [a] pos) (tE X.K da):=ZR3 h
theorem ZQf {rest:List Expr} (ha:PE X a (tE X.K da)) (hb:PE X (.BoolOp .And (b :: rest) pos) (tE X.K db)):PE X (.BoolOp .And (a :: b :: rest) pos) (tE X.K (ZBu da db)):=(ZRG ha hb).imp λ σ H Q ⟨ρ,sd,g,x,g',r,e,q⟩=>by
 obtain ⟨⟨k,g2⟩,e1,e⟩:=bnd e
 obtain ⟨⟨y,g1⟩,e1,e2⟩:=bnd e1
 refine ⟨ρ,sd,g,y,g1,r,e1,λ v H1 ρ1 s1 h1 r1=>?_⟩
 obtain ⟨rfl,rfl⟩:=ZGF r1 e2
 refine ⟨k,rfl,?_⟩
 cases k with
 | true=>exact ⟨ρ1,sd,g1,x,g',r.step s1 h1,e,q.step s1⟩
 | false=>cases e; exact q _ H1 ρ1 s1 h1 (.dat (.bl false))
theorem de_or {rest:List Expr} (ha:PE X a (tE X.K da)) (hb:PE X (.BoolOp .Or (b :: rest) pos) (tE X.K db)):PE X (.BoolOp .Or (a :: b :: rest) pos) (tE X.K (ZKv da db)):=(pe_or ha hb).imp λ σ H Q ⟨ρ,sd,g,x,g',r,e,q⟩=>by
 obtain ⟨⟨k,g2⟩,e1,e⟩:=bnd e
 obtain ⟨⟨y,g1⟩,e1,e2⟩:=bnd e1
 refine ⟨ρ,sd,g,y,g1,r,e1,λ v H1 ρ1 s1 h1 r1=>?_⟩
 obtain ⟨rfl,rfl⟩:=ZGF r1 e2
 refine ⟨k,rfl,?_⟩
 cases k with
 | false=>exact ⟨ρ1,sd,g1,x,g',r.step s1 h1,e,q.step s1⟩
 | true=>cases e; exact q _ H1 ρ1 s1 h1 (.dat (.bl true))
theorem ZQU (ha:PE X a (tE X.K da)):PE X (.UnaryOp .Not a pos) (tE X.K (ZG0 da)):=(ZRC ha).imp λ σ H Q ⟨ρ,sd,g,x,g',r,e,q⟩=>by
 obtain ⟨⟨k,g2⟩,e1,e⟩:=mp e
 obtain ⟨⟨y,g1⟩,e1,e2⟩:=bnd e1
 refine ⟨ρ,sd,g,y,g1,r,e1,λ v H1 ρ1 s1 h1 r1=>?_⟩
 obtain ⟨rfl,rfl⟩:=ZGF r1 e2
 cases e
 exact ⟨k,rfl,q _ H1 ρ1 s1 h1 (.dat (.bl _))⟩
theorem ZMc:PA X [] (tA X.K ZK):=ZKQ.imp λ σ H Q ⟨ρ,sd,g,xs,g',r,e,q⟩=>by
 cases e
 exact q [] H ρ .refl r.hr .nil
theorem ZLT (ha:PE X e (tE X.K d)) (hr:PA X es (tA X.K aa)) (hs:starEach (e :: es) X.env=(false,eval e X.env) :: starEach es X.env:=by rfl):PA X (e :: es) (tA X.K (ZC d aa)):=(ZIL ha hr hs).imp λ σ H Q ⟨ρ,sd,g,xs,g',r,e,q⟩=>by
 obtain ⟨⟨y,g1⟩,e1,e⟩:=bnd e
 obtain ⟨⟨ys,g2⟩,e2,e⟩:=mp e
 cases e
 exact ⟨ρ,sd,g,y,g1,r,e1,λ v H1 ρ1 s1 h1 r1=>⟨ρ1,sd,g1,ys,g2,r.step s1 h1,e2,λ vs H2 ρ2 s2 h2 r2=>q (v :: vs) H2 ρ2 (s1.trans s2) h2 (.cons (r1.mono s2) r2)⟩⟩
theorem ZRT {x1} (h:PA X es (tA X.K aa)):PE X (.Tuple es x1 pos) (tE X.K (dF Z8 aa)):=(ZQg h).imp λ σ H Q ⟨ρ,sd,g,x,g',r,e,q⟩=>by
 obtain ⟨⟨ws,g1⟩,e1,e⟩:=bnd e
 refine ⟨ρ,sd,g,ws,g1,r,e1,λ vs H1 ρ1 s1 h1 r1=>?_⟩
 obtain ⟨ds,e2,e⟩:=bnd e
 have rd:=ZE6 r1 e2
 by_cases hz:ds.length<=1000
 ·simp only [if_pos hz] at e
  cases e
  refine ⟨by rw [rd.length]; exact Nat.le_of_lt (ZAC hz),λ p hp=>?_⟩
  obtain ⟨sm,hr2,hn⟩:=ZCy (o:=.tup vs) h1 hp
  exact q _ _ ρ1 (s1.trans (.same sm)) hr2 (.dat (.tup (.inl ⟨.inl Zt,hn⟩) (rd.mono (.same sm))))
 ·simp only [if_neg hz] at e
  cases e
theorem ZQq (h:PA X es (tA X.K aa)):PE X (.List es pos) (tE X.K (dF ZFv aa)):=(ZKU h).imp λ σ H Q ⟨ρ,sd,g,x,g',r,e,q⟩=>by
 obtain ⟨⟨ws,g1⟩,e1,e⟩:=bnd e
 refine ⟨ρ,sd,g,ws,g1,r,e1,λ vs H1 ρ1 s1 h1 r1=>?_⟩
 obtain ⟨ds,e2,e⟩:=bnd e
 have rd:=ZE6 r1 e2
 by_cases hz:ds.length<=1000
 ·simp only [if_pos hz] at e
  cases e
  refine ⟨by rw [rd.length]; exact Nat.le_of_lt (ZAC hz),λ p hp=>?_⟩
  obtain ⟨sm,hr2,hn⟩:=ZCy (o:=.lst vs) h1 hp
  exact q _ _ ρ1 (s1.trans (.same sm)) hr2 (.dat (.lst Zt hn (rd.mono (.same sm))))
 ·simp only [if_neg hz] at e
  cases e
theorem ZOy (h:PA X es (tA X.K aa)):PE X (.List es pos) (tE X.K (dF ZDh aa)):=(ZKU h).imp λ σ H Q ⟨ρ,sd,g,x,g',r,e,q⟩=>by
 obtain ⟨⟨ws,g1⟩,e1,e⟩:=bnd e
 refine ⟨ρ,sd,g,ws,g1,r,e1,λ vs H1 ρ1 s1 h1 r1=>?_⟩
 obtain ⟨ds,e2,e⟩:=bnd e
 have rd:=ZE6 r1 e2
 by_cases hz:ds.length<=1000
 ·simp only [if_pos hz] at e
  cases e
  refine ⟨by rw [rd.length]; exact Nat.le_of_lt (ZAC hz),λ p hp=>?_⟩
  obtain ⟨hr2,st⟩:=h1.alloc hp rd
  exact q _ _ _ (s1.trans st) hr2 (.ref (by show (ρ1.c ++ [p])[_]? = _; rw [← h1.len]; simp))
 ·simp only [if_neg hz] at e
  cases e
theorem ZSI {fn:List W->G->Option (W × G)} {σ : St} {H:Hp} {Q:VK} (h:tE X.K (dF fn aa) σ H Q):tA X.K aa σ H λ vs H1=>rF X.K fn vs H1 Q:=by
 obtain ⟨ρ,sd,g,x,g',r,e,q⟩:=h
 obtain ⟨⟨ws,g1⟩,e1,e⟩:=bnd e
 exact ⟨ρ,sd,g,ws,g1,r,e1,λ vs H1 ρ1 s1 h1 r1=>⟨ρ1,ws,g1,x,g',h1,r1,e,q.step s1⟩⟩
end
end L2
namespace L2
open PySem PySem.Spec PyProof.Rows H1
section
variable {X:Cx} {x:Str} {p pos:Pos} {e:Expr} {es:List Expr} {aa:DA} {id T:String} {fn:List W->G->Option (W × G)}
theorem ZNp (hc:Z3 X (.builtin id) (rF X.K fn)) (hg:Gl X x) (hm:X.mg x=none) (hv:bootBuiltins x=some (.builtin id)) (ha:PA X (e :: es) (tA X.K aa)) (hn:x ≠ "__name__":=by decide) (hdb:(x == ("__debug__" : Str))=false:=by decide)
  (he:starEach (e :: es) X.env=(false,eval e X.env) :: starEach es X.env:=by rfl) (hpl:(backTo pos (starEach es X.env)).any (·.1)=false:=by rfl):PE X (.Call (.Name x p) (e :: es) [] pos) (tE X.K (dF fn aa)):=(ZMx hc hg hm hv ha hn hdb he hpl).imp λ _ _ _ h=>ZSI h
theorem ZL5 (hc:Z3 X (.type T) (rF X.K fn)) (hg:Gl X x) (hm:X.mg x=none) (hv:bootBuiltins x=some (.type T)) (ha:PA X (e :: es) (tA X.K aa)) (hn:x ≠ "__name__":=by decide) (hdb:(x == ("__debug__" : Str))=false:=by decide)
  (he:starEach (e :: es) X.env=(false,eval e X.env) :: starEach es X.env:=by rfl) (hpl:(backTo pos (starEach es X.env)).any (·.1)=false:=by rfl):PE X (.Call (.Name x p) (e :: es) [] pos) (tE X.K (dF fn aa)):=(ZFT hc hg hm hv ha hn hdb he hpl).imp λ _ _ _ h=>ZSI h
def spD (K:PySem.W.Frag) (n:Nat) (fn:List W->G->Option (W × G)):Sp:=λ vs H Q _=>vs.length=n/\rF K fn vs H Q
inductive Many:DA->Nat->Prop
 | nil:Many ZK 0
 | cons {d:DE} {a:DA} {n:Nat}:Many a n->Many (ZC d a) (n+1)
theorem Many.len {a:DA} {n:Nat} (m:Many a n):∀ {sd:Sd} {g g':G} {ws:List W},a sd g=some (ws,g')->ws.length=n:=by
 induction m with
 | nil=>intro sd g g' ws e; cases e; rfl
 | cons m ih =>
  intro sd g g' ws e
  obtain ⟨⟨y,g1⟩,e1,e⟩:=bnd e
  obtain ⟨⟨ys,g2⟩,e2,e⟩:=mp e
  cases e
  rw [List.length_cons,ih e2]
theorem ZPE {st:Stmt} {ps:List Str} {f:Addr} {fd:FuncData} {k n:Nat} (D:Def X.K X.mg x st ps f fd) (F:FnOk X.prog X.w X.K X.mg X.base CX0 k f fd ps (spD X.K n fn)) (hr:Room k X.A)
  (ha:PA X (e :: es) (tA X.K aa)) (hm:Many aa n) (hg:Gl X x:=by rfl) (hdb:(x == ("__debug__" : Str))=false:=by decide) (he:starEach (e :: es) X.env=(false,eval e X.env) :: starEach es X.env:=by rfl) (hpl:(backTo pos (starEach es X.env)).any (·.1)=false:=by rfl) :
  PE X (.Call (.Name x p) (e :: es) [] pos) (tE X.K (dF fn aa)):=(pcall D F hr ha hg hdb he hpl).imp λ σ H Q h=>by
 obtain ⟨ρ,sd,g,x,g',r,e,q⟩:=h
 obtain ⟨⟨ws,g1⟩,e1,e⟩:=bnd e
 refine ⟨ρ,sd,g,ws,g1,r,e1,λ vs H1 ρ1 s1 h1 r1=>?_⟩
 show spD X.K n fn (vs ++ []) H1 Q E0
 rw [List.append_nil]
 exact ⟨by rw [r1.length]; exact hm.len e1,ρ1,ws,g1,x,g',h1,r1,e,q.step s1⟩
end
mutual
inductive Pat where
 | nm (i:Nat)
 | tp (ps:Pats)
inductive Pats where
 | nil
 | cons (p:Pat) (r:Pats)
end
def Pats.len:Pats->Nat
 | .nil=>0
 | .cons _ r=>r.len+1
mutual
def Pat.all (f:Nat->Bool):Pat->Bool
 | .nm i=>f i
 | .tp ps=>ps.all f
def Pats.all (f:Nat->Bool):Pats->Bool
 | .nil=>true
 | .cons p r=>p.all f && r.all f
end
mutual
def gP (K:PySem.W.Frag):Pat->TG
 | .nm i=>ZJQ i
 | .tp ps=>ZSO K ps.len (gPs K ps)
def gPs (K:PySem.W.Frag):Pats->TGs
 | .nil=>ZSN
 | .cons p r=>ZP9 (gP K p) (gPs K r)
end
mutual
def Zu:Pat->W->Sd->Option Sd
 | .nm i,x,sd=>some (sd.set i (some x))
 | .tp ps,.dat (.tuple ds),sd=>ZCa ps ds sd
 | .tp ps,.tup ws,sd=>ZBs ps ws sd
 | .tp _,_,_=>none
def ZBs:Pats->List W->Sd->Option Sd
 | .nil,[],sd=>some sd
 | .cons p r,d :: ds,sd=>(Zu p d sd).bind λ sd'=>ZBs r ds sd'
 | _,_,_=>none
def ZCa:Pats->List PyData->Sd->Option Sd
 | .nil,[],sd=>some sd
 | .cons p r,d :: ds,sd=>(Zu p (.dat d) sd).bind λ sd'=>ZCa r ds sd'
 | _,_,_=>none
end
def ZIj (f:Nat->Bool) (σ σ':St):Prop:=σ.length = σ'.length/\∀ i,f i=false->σ'[i]? = σ[i]?
theorem ZIj.refl {f:Nat->Bool} {σ : St}:ZIj f σ σ:=⟨rfl,λ _ _=>rfl⟩
theorem ZIj.trans {f:Nat->Bool} {σ σ1 σ2:St} (h:ZIj f σ σ1) (k:ZIj f σ1 σ2):ZIj f σ σ2:=⟨h.1.trans k.1,λ i e=>(k.2 i e).trans (h.2 i e)⟩
mutual
theorem ZJq {K:PySem.W.Frag} {ρ : Rh} {H:Hp} {g:G} {f:Nat->Bool}:∀ {p:Pat} {x:W} {sd sd':Sd} {σ : St} {v:V} {Q:St->Hp->Prop},p.all f=true->Zu p x sd=some sd'->Rst K ρ H σ sd g->Rel K ρ H v x->(∀ σ',Rst K ρ H σ' sd' g->ZIj f σ σ'->Q σ' H)->gP K p v σ H Q
 | .nm i,x,sd,sd',σ,v,Q,hf,e,r,rv,q=>by
  rw [Zu] at e
  cases e
  rw [gP]
  refine q _ (r.set rv i) ⟨by rw [List.length_set],λ j hj=>?_⟩
  have:i ≠ j:=λ z=>by rw [Pat.all,z,hj] at hf; cases hf
  rw [List.getElem?_set_ne this]
 | .tp ps,.dat (.tuple ds),sd,sd',σ,_,Q,hf,e,r,.dat (.tup h hl),q=>by
  rw [Zu] at e
  rw [Pat.all] at hf
  rw [gP]
  exact ⟨_,_,rfl,h.sq,hl.length.trans (ZGE e),ZND hf e r hl q⟩
 | .tp ps,.tup ws,sd,sd',σ,_,Q,hf,e,r,.tup h hl,q=>by
  rw [Zu] at e
  rw [Pat.all] at hf
  rw [gP]
  exact ⟨_,_,rfl,h.sq,hl.length.trans (ZFr e),ZLR hf e r hl q⟩
 | .tp _,.dat .none,_,_,_,_,_,_,e,_,_,_=>by simp [Zu] at e
 | .tp _,.dat (.bool _),_,_,_,_,_,_,e,_,_,_=>by simp [Zu] at e
 | .tp _,.dat (.int _),_,_,_,_,_,_,e,_,_,_=>by simp [Zu] at e
 | .tp _,.dat (.str _),_,_,_,_,_,_,e,_,_,_=>by simp [Zu] at e
 | .tp _,.dat (.list _),_,_,_,_,_,_,e,_,_,_=>by simp [Zu] at e
 | .tp _,.dat (.dict _),_,_,_,_,_,_,e,_,_,_=>by simp [Zu] at e
 | .tp _,.ref _,_,_,_,_,_,_,e,_,_,_=>by simp [Zu] at e
 | .tp _,.inp _,_,_,_,_,_,_,e,_,_,_=>by simp [Zu] at e
 | .tp _,.ty _,_,_,_,_,_,_,e,_,_,_=>by simp [Zu] at e
theorem ZND {K:PySem.W.Frag} {ρ : Rh} {H:Hp} {g:G} {f:Nat->Bool}:∀ {ps:Pats} {ds:List PyData} {sd sd':Sd} {σ : St} {vs:List V} {Q:St->Hp->Prop},ps.all f=true->ZCa ps ds sd=some sd'->Rst K ρ H σ sd g->RelDL K ρ H vs ds->(∀ σ',Rst K ρ H σ' sd' g->ZIj f σ σ'->Q σ' H)->gPs K ps vs σ H Q
 | .nil,[],sd,sd',σ,_,Q,hf,e,r,.nil,q=>by
  rw [ZCa] at e
  cases e
  rw [gPs]
  exact ⟨rfl,q _ r .refl⟩
 | .cons p ps,d :: ds,sd,sd',σ,_,Q,hf,e,r,.cons (x:=v) (xs:=vs) h t,q=>by
  rw [ZCa] at e
  obtain ⟨sd1,e1,e⟩:=bnd e
  rw [Pats.all,Bool.and_eq_true] at hf
  rw [gPs]
  exact ⟨v,vs,rfl,ZJq hf.1 e1 r (.dat h) λ σ1 r1 k1=>ZND hf.2 e r1 t λ σ2 r2 k2=>q σ2 r2 (k1.trans k2)⟩
 | .nil,_ :: _,_,_,_,_,_,_,e,_,_,_=>by simp [ZCa] at e
 | .cons _ _,[],_,_,_,_,_,_,e,_,_,_=>by simp [ZCa] at e
theorem ZLR {K:PySem.W.Frag} {ρ : Rh} {H:Hp} {g:G} {f:Nat->Bool}:∀ {ps:Pats} {ds:List W} {sd sd':Sd} {σ : St} {vs:List V} {Q:St->Hp->Prop},ps.all f=true->ZBs ps ds sd=some sd'->Rst K ρ H σ sd g->RelL K ρ H vs ds->(∀ σ',Rst K ρ H σ' sd' g->ZIj f σ σ'->Q σ' H)->gPs K ps vs σ H Q
 | .nil,[],sd,sd',σ,_,Q,hf,e,r,.nil,q=>by
  rw [ZBs] at e
  cases e
  rw [gPs]
  exact ⟨rfl,q _ r .refl⟩
 | .cons p ps,d :: ds,sd,sd',σ,_,Q,hf,e,r,.cons (v:=v) (vs:=vs) h t,q=>by
  rw [ZBs] at e
  obtain ⟨sd1,e1,e⟩:=bnd e
  rw [Pats.all,Bool.and_eq_true] at hf
  rw [gPs]
  exact ⟨v,vs,rfl,ZJq hf.1 e1 r h λ σ1 r1 k1=>ZLR hf.2 e r1 t λ σ2 r2 k2=>q σ2 r2 (k1.trans k2)⟩
 | .nil,_ :: _,_,_,_,_,_,_,e,_,_,_=>by simp [ZBs] at e
 | .cons _ _,[],_,_,_,_,_,_,e,_,_,_=>by simp [ZBs] at e
theorem ZFr:∀ {ps:Pats} {ds:List W} {sd sd':Sd},ZBs ps ds sd=some sd'->ds.length=ps.len
 | .nil,[],_,_,_=>rfl
 | .cons p ps,d :: ds,sd,sd',e=>by
  rw [ZBs] at e
  obtain ⟨sd1,e1,e⟩:=bnd e
  rw [List.length_cons,ZFr e,Pats.len]
 | .nil,_ :: _,_,_,e=>by simp [ZBs] at e
 | .cons _ _,[],_,_,e=>by simp [ZBs] at e
theorem ZGE:∀ {ps:Pats} {ds:List PyData} {sd sd':Sd},ZCa ps ds sd=some sd'->ds.length=ps.len
 | .nil,[],_,_,_=>rfl
 | .cons p ps,d :: ds,sd,sd',e=>by
  rw [ZCa] at e
  obtain ⟨sd1,e1,e⟩:=bnd e
  rw [List.length_cons,ZGE e,Pats.len]
 | .nil,_ :: _,_,_,e=>by simp [ZCa] at e
 | .cons _ _,[],_,_,e=>by simp [ZCa] at e
end
section
variable {X:Cx} {pos:Pos}
theorem dg_nm {i:Nat} {x:Str} (hN:X.N.Nodup) (hi:X.N[i]? = some x) (hx:Loc X.env.scope x) (hf:X.fn x=true ∨ X.env.scope.names.lookup x=some .local:=by first | exact .inl rfl | exact .inr rfl | assumption):PG X (.Name x pos) (gP X.K (.nm i)):=by
 rw [gP]
 exact ZO3 hN hi hx hf
theorem dg_tp {es:List Expr} {k:Nat} {ps:Pats} (hc:X.calm=true) (h:PGs X es (gPs X.K ps)) (hn:(assignEach es X.env).length=ps.len:=by rfl) (hst:(assignEach es X.env).findIdx? (·.1)=none:=by rfl):PG X (.Tuple es k pos) (gP X.K (.tp ps)):=by
 rw [gP]
 exact ZQk hc h hn hst
theorem ZQD:PGs X [] (gPs X.K .nil):=by
 rw [gPs]
 exact ZO1
theorem ZPs {e:Expr} {es:List Expr} {p:Pat} {ps:Pats} (h1:PG X e (gP X.K p)) (h2:PGs X es (gPs X.K ps)) (hs:(assignEach (e :: es) X.env).map (·.2)=assign e X.env :: (assignEach es X.env).map (·.2):=by rfl):PGs X (e :: es) (gPs X.K (.cons p ps)):=by
 rw [gPs]
 exact ZNE h1 h2 hs
end
inductive Out where
 | nx (sd:Sd) (g:G)
 | rt (x:W) (g:G)
 | bk (sd:Sd) (g:G)
 | ct (sd:Sd) (g:G)
abbrev DS:=Sd->G->Option Out
def ZHf (K:PySem.W.Frag) (ρ : Rh) (H:Hp) (E:Ends):Out->Prop
 | .nx sd g=>∀ σ' H' ρ',Stp ρ H ρ' H'->Rst K ρ' H' σ' sd g->E.nx σ' H'
 | .rt x g=>Pv K ρ H x g E.rt
 | .bk sd g=>∀ σ' H' ρ',Stp ρ H ρ' H'->Rst K ρ' H' σ' sd g->E.bk σ' H'
 | .ct sd g=>∀ σ' H' ρ',Stp ρ H ρ' H'->Rst K ρ' H' σ' sd g->E.ct σ' H'
theorem ZHf.step {K:PySem.W.Frag} {ρ ρ':Rh} {H H':Hp} {E:Ends} {o:Out} (h:ZHf K ρ H E o) (s:Stp ρ H ρ' H'):ZHf K ρ' H' E o:=by
 cases o with
 | nx sd g=>exact λ σ2 H2 ρ2 s2 r=>h σ2 H2 ρ2 (s.trans s2) r
 | rt x g=>exact Pv.step h s
 | bk sd g=>exact λ σ2 H2 ρ2 s2 r=>h σ2 H2 ρ2 (s.trans s2) r
 | ct sd g=>exact λ σ2 H2 ρ2 s2 r=>h σ2 H2 ρ2 (s.trans s2) r
def tS (K:PySem.W.Frag) (d:DS):TS:=λ E σ H=>∃ ρ sd g o,Rst K ρ H σ sd g/\d sd g=some o/\ZHf K ρ H E o
def dNx:DS:=λ sd g=>some (.nx sd g)
def ZR (a b:DS):DS:=λ sd g=>(a sd g).bind λ o=>match o with | .nx sd' g'=>b sd' g' | o=>some o
def Zr (i:Nat) (d:DE):DS:=λ sd g=>(d sd g).bind λ p=>some (.nx (sd.set i (some p.1)) p.2)
def ZAu (pt:Pat) (d:DE):DS:=λ sd g=>(d sd g).bind λ p=>(Zu pt p.1 sd).map λ sd'=>.nx sd' p.2
def ZU (d:DE):DS:=λ sd g=>(d sd g).map λ p=>.rt p.1 p.2
def ZBk (d:DE):DS:=λ sd g=>(d sd g).map λ p=>.nx sd p.2
def Zz (c:DB) (a b:DS):DS:=λ sd g=>(c sd g).bind λ p=>if p.1=true then a sd p.2 else b sd p.2
section
variable {X:Cx} {pos:Pos} {st:Stmt} {rest ss:List Stmt} {a b:DS} {d:DE} {e c:Expr} {tc:DB}
theorem ZPu:PSs X [] (tS X.K dNx):=ZPd.imp λ D σ H ⟨ρ,sd,g,o,r,e,q⟩=>by
 cases e
 exact q σ H ρ .refl r
theorem ZPH (h:PS X st (tS X.K a)):PSs X [st] (tS X.K a):=ZPr h
theorem ZNl (h1:PS X st (tS X.K a)) (h2:PSs X rest (tS X.K b)):PSs X (st :: rest) (tS X.K (ZR a b)):=(ZMl h1 h2).imp λ D σ H ⟨ρ,sd,g,o,r,e,q⟩=>by
 obtain ⟨o1,e1,e⟩:=bnd e
 refine ⟨ρ,sd,g,o1,r,e1,?_⟩
 cases o1 with
 | nx sd1 g1=>exact λ σ1 H1 ρ1 s1 r1=>⟨ρ1,sd1,g1,o,r1,e,q.step s1⟩
 | rt x g1=>cases e; exact q
 | bk _ _=>cases e; exact q
 | ct _ _=>cases e; exact q
theorem ZRE {i:Nat} {x:Str} {pos':Pos} (hN:X.N.Nodup) (hi:X.N[i]? = some x) (hx:Loc X.env.scope x) (he:PE X e (tE X.K d)) (hs:swapsWith e (some (.Name x pos')) pos.line X.env=pure false:=by rfl) (hf:X.fn x=true ∨ X.env.scope.names.lookup x=some .local:=by first | exact .inl rfl | exact .inr rfl | assumption) :
  PS X (.Assign [.Name x pos'] e pos) (tS X.K (Zr i d)):=(ZQJ hN hi hx he hs hf).imp λ D σ H ⟨ρ,sd,g,o,r,e,q⟩=>by
 obtain ⟨⟨y,g1⟩,e1,e⟩:=bnd e
 cases e
 exact ⟨ρ,sd,g,y,g1,r,e1,λ v H1 ρ1 s1 h1 r1=>q _ H1 ρ1 s1 ((r.step s1 h1).set r1 i)⟩
theorem ZQY {tg:Expr} {pt:Pat} (he:PE X e (tE X.K d)) (hg:PG X tg (gP X.K pt)) (hs:swapsWithSole [tg] e pos.line X.env=pure false:=by rfl) (hw:swappedStores [tg] e X.env=pure none:=by rfl)
  (h1:(assignEach [tg] X.env).map (·.2)=[assign tg X.env]:=by rfl):PS X (.Assign [tg] e pos) (tS X.K (ZAu pt d)):=(ZNt he hg hs hw h1).imp λ D σ H ⟨ρ,sd,g,o,r,e,q⟩=>by
 obtain ⟨⟨y,g1⟩,e1,e⟩:=bnd e
 obtain ⟨sd1,e2,e⟩:=mp e
 cases e
 refine ⟨ρ,sd,g,y,g1,r,e1,λ v H1 ρ1 s1 h1 r1=>ZJq (f:=λ _=>true) ?_ e2 (r.step s1 h1) r1 λ σ2 r2 _=>q _ H1 ρ1 s1 r2⟩
 clear e2 hg
 exact Pat.rec (motive_1:=λ p=>p.all (λ _=>true)=true) (motive_2:=λ p=>p.all (λ _=>true)=true) (λ i=>by rw [Pat.all]) (λ ps h=>by rw [Pat.all]; exact h) (by rw [Pats.all]) (λ p r h1 h2=>by rw [Pats.all,h1,h2]; rfl) pt
theorem ZRx (he:PE X e (tE X.K d)):PS X (.Return (some e) pos) (tS X.K (ZU d)):=(ZQw he).imp λ D σ H ⟨ρ,sd,g,o,r,e,q⟩=>by
 obtain ⟨⟨y,g1⟩,e1,e⟩:=mp e
 cases e
 exact ⟨ρ,sd,g,y,g1,r,e1,q⟩
theorem ZPc (he:PE X e (tE X.K d)) (hs:swapsWith e none pos.line X.env=pure false:=by rfl):PS X (.Expr e pos) (tS X.K (ZBk d)):=(ZOd he hs).imp λ D σ H ⟨ρ,sd,g,o,r,e,q⟩=>by
 obtain ⟨⟨y,g1⟩,e1,e⟩:=mp e
 cases e
 exact ⟨ρ,sd,g,y,g1,r,e1,λ v H1 ρ1 s1 h1 r1=>q σ H1 ρ1 s1 (r.step s1 h1)⟩
theorem ds_if {sa sb:List Stmt} (hc:PT X c (tT X.K tc)) (ha:PSs X sa (tS X.K a)) (hb:PSs X sb (tS X.K b)):PS X (.If c sa sb pos) (tS X.K (Zz tc a b)):=(ps_if hc ha hb).imp λ D σ H ⟨ρ,sd,g,o,r,e,q⟩=>by
 obtain ⟨⟨k,g1⟩,e1,e⟩:=bnd e
 refine ⟨ρ,sd,g,k,g1,r,e1,λ H1 ρ1 s1 h1=>?_⟩
 cases k with
 | true=>exact ⟨ρ1,sd,g1,o,r.step s1 h1,e,q.step s1⟩
 | false=>exact ⟨ρ1,sd,g1,o,r.step s1 h1,e,q.step s1⟩
end
abbrev DI:=Sd->G->Option (List PyData × Option Nat × G)
def ZBv (src:Option Nat) (xs:List PyData) (g:G):Prop:=match src with | none=>True | some n=>g[n]? = some (.pl xs)
def lk (g:G) (n:Nat):Option (List PyData):=match g[n]? with | some (.pl ds)=>some ds | _=>none
theorem ZF6 {g:G} {n:Nat} {ds:List PyData} (h:lk g n=some ds):g[n]? = some (.pl ds):=by
 unfold lk at h
 split at h
 ·rename_i e; cases h; exact e
 ·cases h
theorem ZJY {g:G} {n:Nat} {ds:List PyData} (h:g[n]? = some (.pl ds)):lk g n=some ds:=by
 unfold lk
 rw [h]
def ZCF (n:Nat) (lo:Int):List PyData:=(List.range n).map λ (i:Nat)=>.int (lo+(i:Int))
def ZCr:Nat->List PyData->List PyData
 | _,[]=>[]
 | i,x :: r=>.tuple [.int (i:Int),x] :: ZCr (i+1) r
def ZGV:List PyData->List PyData->List PyData
 | x :: r,y :: q=>.tuple [x,y] :: ZGV r q
 | _,_=>[]
theorem ZHt:∀ {xs:List PyData} {k i:Nat} {x:PyData},(ZCr k xs)[i]? = some x->∃ y,xs[i]? = some y/\x=.tuple [.int ((k+i:Nat):Int),y]
 | [],_,_,_,e=>by simp [ZCr] at e
 | y :: r,k,0,x,e=>by
  rw [ZCr] at e
  simp at e
  exact ⟨y,rfl,e.symm⟩
 | y :: r,k,i+1,x,e=>by
  rw [ZCr,List.getElem?_cons_succ] at e
  obtain ⟨z,e1,e2⟩:=ZHt e
  exact ⟨z,by simpa using e1,by rw [e2]; congr 4; omega⟩
theorem ZBR:∀ {xs:List PyData} {k:Nat},(ZCr k xs).length=xs.length
 | [],_=>rfl
 | y :: r,k=>by rw [ZCr,List.length_cons,List.length_cons,ZBR]
theorem ZJb:∀ {xs ys:List PyData} {i:Nat} {x:PyData},(ZGV xs ys)[i]? = some x->∃ y z,xs[i]? = some y/\ys[i]? = some z/\x=.tuple [y,z]
 | [],_,_,_,e=>by simp [ZGV] at e
 | _ :: _,[],_,_,e=>by simp [ZGV] at e
 | y :: r,z :: q,0,x,e=>by
  rw [ZGV] at e
  simp at e
  exact ⟨y,z,rfl,rfl,e.symm⟩
 | y :: r,z :: q,i+1,x,e=>by
  rw [ZGV,List.getElem?_cons_succ] at e
  obtain ⟨u,v,e1,e2,e3⟩:=ZJb e
  exact ⟨u,v,by simpa using e1,by simpa using e2,e3⟩
theorem ZJU:∀ {xs ys:List PyData},(ZGV xs ys).length=min xs.length ys.length
 | [],_=>by simp [ZGV]
 | _ :: _,[]=>by simp [ZGV]
 | y :: r,z :: q=>by rw [ZGV,List.length_cons,List.length_cons,List.length_cons,ZJU]; omega
inductive ItOk (K:PySem.W.Frag) (ρ : Rh) (H:Hp):It->List PyData->Option Nat->Prop
 | list {a:Addr} {vs:List V} {ds:List PyData}:FzL K ρ H a vs->RelDL K ρ H vs ds->ItOk K ρ H (Itl K a) ds none
 | tup {a:Addr} {vs:List V} {ds:List PyData}:FzT K ρ H a vs->RelDL K ρ H vs ds->ItOk K ρ H (Itt K a) ds none
 | cell {a:Addr} {n:Nat} {ds:List PyData} : ρ.c[n]? = some a->ItOk K ρ H (Itl K a) ds (some n)
 | rng {lo:Int} {n:Nat}:ItOk K ρ H (Itr lo n) (ZCF n lo) none
 | enum {a:Addr} {vs:List V} {ds:List PyData}:FzT K ρ H a vs->RelDL K ρ H vs ds->ItOk K ρ H (Ite K a) (ZCr 0 ds) none
 | zip {a b:Addr} {vs us:List V} {ds es:List PyData}:FzT K ρ H a vs->RelDL K ρ H vs ds->FzT K ρ H b us->RelDL K ρ H us es->ItOk K ρ H (Itz K a b) (ZGV ds es) none
section
variable {K:PySem.W.Frag} {ρ ρ':Rh} {H H':Hp} {J:It} {xs:List PyData} {src:Option Nat}
theorem ItOk.mono (s:Stp ρ H ρ' H') (h:ItOk K ρ H J xs src):ItOk K ρ' H' J xs src:=by
 cases h with
 | list f t=>exact .list (f.mono s) (t.mono s)
 | tup f t=>exact .tup (f.mono s) (t.mono s)
 | cell h =>
  obtain ⟨r,e⟩:=s.pre
  exact .cell (by rw [e,List.getElem?_append_left (List.getElem?_eq_some_iff.mp h).1]; exact h)
 | rng=>exact .rng
 | enum f t=>exact .enum (f.mono s) (t.mono s)
 | zip f t f2 t2=>exact .zip (f.mono s) (t.mono s) (f2.mono s) (t2.mono s)
theorem ItOk.hide {p:Addr} {o:HO} (hp:H p=none) (h:ItOk K ρ H J xs src):ItOk K (ρ.hide p) (upd H p o) J xs src:=by
 cases h with
 | list f t=>exact .list (f.hide hp) (t.hide hp)
 | tup f t=>exact .tup (f.hide hp) (t.hide hp)
 | cell h=>exact .cell h
 | rng=>exact .rng
 | enum f t=>exact .enum (f.hide hp) (t.hide hp)
 | zip f t f2 t2=>exact .zip (f.hide hp) (t.hide hp) (f2.hide hp) (t2.hide hp)
theorem ItOk.grow {p:Addr} {o:HO} (hp:p ∈ ρ.h) (h:ItOk K ρ H J xs src):ItOk K ρ (upd H p o) J xs src:=by
 cases h with
 | list f t=>exact .list (f.grow hp) (t.grow hp)
 | tup f t=>exact .tup (f.grow hp) (t.grow hp)
 | cell h=>exact .cell h
 | rng=>exact .rng
 | enum f t=>exact .enum (f.grow hp) (t.grow hp)
 | zip f t f2 t2=>exact .zip (f.grow hp) (t.grow hp) (f2.grow hp) (t2.grow hp)
theorem ItOk.use {g:G} (h:ItOk K ρ H J xs src) (h':HR K ρ H g) (so:ZBv src xs g):(∀ (i:Nat) x,xs[i]? = some x->J.go i H/\∀ v H2,J.yld i H v H2->Same H H2/\RelD K ρ H2 v x)/\∀ i,xs.length<=i->J.stop i H:=by
 cases h with
 | @list a vs ds f t =>
  refine ⟨λ i x e=>?_,λ i hi=>⟨vs,f.sq,by rw [t.length]; exact hi⟩⟩
  obtain ⟨v,e1,r1⟩:=t.getD e
  refine ⟨⟨vs,v,f.sq,e1⟩,λ u H2 y=>?_⟩
  obtain ⟨rfl,y⟩:=y
  have:=y vs f.sq
  rw [e1] at this
  cases this
  exact ⟨Same.refl _,r1⟩
 | @tup a vs ds f t =>
  refine ⟨λ i x e=>?_,λ i hi=>⟨vs,f.sq,by rw [t.length]; exact hi⟩⟩
  obtain ⟨v,e1,r1⟩:=t.getD e
  refine ⟨⟨vs,v,f.sq,e1⟩,λ u H2 y=>?_⟩
  obtain ⟨rfl,y⟩:=y
  have:=y vs f.sq
  rw [e1] at this
  cases this
  exact ⟨Same.refl _,r1⟩
 | @cell a n ds h =>
  obtain ⟨b,vs,e1,e2,tq⟩:=h'.at_ n _ so
  rw [h] at e1
  cases e1
  have hq:SqL K H a vs:=SqL.of e2
  refine ⟨λ i x e=>?_,λ i hi=>⟨vs,hq,by rw [tq.length]; exact hi⟩⟩
  obtain ⟨v,e1,r1⟩:=tq.getD e
  refine ⟨⟨vs,v,hq,e1⟩,λ u H2 y=>?_⟩
  obtain ⟨rfl,y⟩:=y
  have:=y vs hq
  rw [e1] at this
  cases this
  exact ⟨Same.refl _,r1⟩
 | @rng lo n =>
  refine ⟨λ i x e=>?_,λ i hi=>?_⟩
  ·unfold ZCF at e
   rw [List.getElem?_map] at e
   obtain ⟨k,e1,rfl⟩:=mp e
   obtain ⟨hl,hk⟩:=List.getElem?_eq_some_iff.mp e1
   rw [List.getElem_range] at hk
   subst hk
   rw [List.length_range] at hl
   refine ⟨hl,λ u H2 y=>?_⟩
   obtain ⟨rfl,rfl⟩:=y
   exact ⟨Same.refl _,.int _⟩
  ·unfold ZCF at hi
   rw [List.length_map,List.length_range] at hi
   exact hi
 | @enum a vs ds f t =>
  refine ⟨λ i x e=>?_,λ i hi=>⟨vs,f.sq,by rw [t.length]; rw [ZBR] at hi; exact hi⟩⟩
  obtain ⟨y,e2,rfl⟩:=ZHt e
  obtain ⟨v,e3,r1⟩:=t.getD e2
  refine ⟨⟨vs,v,f.sq,e3⟩,λ u H2 yy=>?_⟩
  obtain ⟨pp,x',rfl,hp,rfl,yy⟩:=yy
  have:=yy vs f.sq
  rw [e3] at this
  cases this
  obtain ⟨sm,hr2,hn2⟩:=ZCy (o:=.tup [.int i,v]) h' hp
  refine ⟨sm,.tup (.inl ⟨.inl Zt,hn2⟩) (.cons ?_ (.cons (r1.mono (.same sm)) .nil))⟩
  rw [Nat.zero_add]
  exact .int _
 | @zip a b vs us ds es f t f2 t2 =>
  refine ⟨λ i x e=>?_,λ i hi=>⟨vs,us,f.sq,f2.sq,by rw [t.length,t2.length]; rw [ZJU] at hi; omega⟩⟩
  obtain ⟨y,z,e2,e3,rfl⟩:=ZJb e
  obtain ⟨v,e4,r4⟩:=t.getD e2
  obtain ⟨w,e5,r5⟩:=t2.getD e3
  refine ⟨⟨vs,us,v,w,f.sq,f2.sq,e4,e5⟩,λ u H2 yy=>?_⟩
  obtain ⟨pp,x',y',rfl,hp,rfl,yy⟩:=yy
  obtain ⟨y1,y2⟩:=yy vs us f.sq f2.sq
  rw [e4] at y1
  rw [e5] at y2
  cases y1
  cases y2
  obtain ⟨sm,hr2,hn2⟩:=ZCy (o:=.tup [v,w]) h' hp
  exact ⟨sm,.tup (.inl ⟨.inl Zt,hn2⟩) (.cons (r4.mono (.same sm)) (.cons (r5.mono (.same sm)) .nil))⟩
end
def tI (K:PySem.W.Frag) (d:DI):TI:=λ σ H R=>∃ ρ sd g xs src g',Rst K ρ H σ sd g/\d sd g=some (xs,src,g')/\∀ J H' ρ',Stp ρ H ρ' H'->HR K ρ' H' g'->ZBv src xs g'/\ItOk K ρ' H' J xs src->R J H'
def ZNT:W->G->Option (List PyData × Option Nat × G)
 | .dat (.list ds),g=>some (ds,none,g)
 | .dat (.tuple ds),g=>some (ds,none,g)
 | .ref n,g=>(lk g n).map λ ds=>(ds,some n,g)
 | .inp ns,g=>some (ns.map .int,none,g)
 | _,_=>none
def ZCl (d:DE):DI:=λ sd g=>(d sd g).bind λ p=>ZNT p.1 p.2
theorem PI.imp {X:Cx} {tg e:Expr} {t u:TI} (h:PI X tg e t) (k:∀ σ H Q,u σ H Q->t σ H Q):PI X tg e u:=λ pins s σ H Q I q=>h pins s σ H Q I (k σ H Q q)
def ZPb (K:PySem.W.Frag) (tl:TE):TI:=λ σ H R=>tl σ H λ x H1=>(∃ a,x=.ref a/\(∃ xs,SqL K H1 a xs)/\R (Itl K a) H1) ∨ (∃ a,x=.ref a/\(∃ xs,SqT K H1 a xs)/\R (Itt K a) H1)
section
variable {X:Cx} {tg:Expr} {pos:Pos}
theorem ZMW {l:Expr} {tl:TE} (hl:PE X l tl):PI X tg l (ZPb X.K tl):=by
 intro pins s σ H R I h
 refine thn (hl pins s σ H _ I h) λ v s1 ⟨x,H1,I1,r1,q1⟩=>?_
 rcases q1 with ⟨a,e,⟨xs,hq⟩,q⟩ | ⟨a,e,⟨xs,hq⟩,q⟩
 ·subst e
  cases r1
  obtain ⟨its,rv,p,hz⟩:=I1.list hq
  refine wpAny_pyIter_list p.isList ?_
  refine ⟨s1.heap.objs.size,[s1.heap.objs.size],_,_,H1,rfl,I1.kept (t':=s1.toks) λ b o e=>Heap.get?_push_of_some _ e,ZLp a _,⟨_,Heap.get?_push_size _ rfl,rfl,rfl⟩,λ b hb=>?_,q⟩
  have e:b=s1.heap.objs.size:=by simpa using hb
  subst e
  exact I1.fpOk (Nat.le_refl _) (I1.hok.fresh (Nat.le_refl _))
 ·subst e
  cases r1
  obtain ⟨its,rv,p,hz⟩:=I1.tuple hq
  refine wpAny_pyIter_tuple (show s1.heap.IsTuple a its.toArray from p) ?_
  refine ⟨s1.heap.objs.size,[s1.heap.objs.size],_,_,H1,rfl,I1.kept (t':=s1.toks) λ b o e=>Heap.get?_push_of_some _ e,ZKf a _,⟨_,Heap.get?_push_size _ rfl,rfl,rfl⟩,λ b hb=>?_,q⟩
  have e:b=s1.heap.objs.size:=by simpa using hb
  subst e
  exact I1.fpOk (Nat.le_refl _) (I1.hok.fresh (Nat.le_refl _))
theorem ZQ1 {l:Expr} {d:DE} (hl:PE X l (tE X.K d)):PI X tg l (tI X.K (ZCl d)):=(ZMW hl).imp λ σ H R ⟨ρ,sd,g,xs,src,g',r,e,q⟩=>by
 obtain ⟨⟨y,g1⟩,e1,e⟩:=bnd e
 refine ⟨ρ,sd,g,y,g1,r,e1,λ v H1 ρ1 s1 h1 r1=>?_⟩
 cases r1 with
 | ref h =>
  obtain ⟨ds,e2,e⟩:=mp e
  cases e
  have e2:=ZF6 e2
  obtain ⟨b,vs,e3,e4,tq⟩:=h1.at_ _ _ e2
  rw [h] at e3
  cases e3
  exact .inl ⟨_,rfl,⟨vs,SqL.of e4⟩,q _ H1 ρ1 s1 h1 ⟨e2,ItOk.cell h⟩⟩
 | ty=>cases e
 | tup _ _=>cases e
 | inp h=>cases e; exact .inl ⟨_,rfl,⟨_,h.sq⟩,q _ H1 ρ1 s1 h1 ⟨trivial,ItOk.list h RelDL.ofInts⟩⟩
 | dat h =>
  cases h with
  | tup h t=>cases e; exact .inr ⟨_,rfl,⟨_,h.sq⟩,q _ H1 ρ1 s1 h1 ⟨trivial,ItOk.tup h t⟩⟩
  | lst h n t=>cases e; exact .inl ⟨_,rfl,⟨_,SqL.of h⟩,q _ H1 ρ1 s1 h1 ⟨trivial,ItOk.list (.inl ⟨.inl h,n⟩) t⟩⟩
  | _=>cases e
def ZAa (a:DA):DI:=λ sd g=>(a sd g).bind λ p=>match p.1 with
 | [.dat (.int j)]=>if j<=1000/\-1000<=j then some (ZCF j.toNat 0,none,p.2) else none
 | [.dat (.int i),.dat (.int j)]=>if (j<=1000/\-1000<=j)/\(i<=1000/\-1000<=i) then some (ZCF (j - i).toNat i,none,p.2) else none
 | _=>none
theorem ZLq {a:Expr} {da:DA} {p pos:Pos} (hg:Gl X "range") (hm:X.mg "range" = none) (ha:PA X [a] (tA X.K da)) (hs:starEach [a] X.env=[(false,eval a X.env)]:=by rfl) (hn:Many da 1):PI X tg (.Call (.Name "range" p) [a] [] pos) (tI X.K (ZAa da)):=(ZLg hg hm ha hs).imp λ σ H R ⟨ρ,sd,g,xs,src,g',r,e,q⟩=>by
 obtain ⟨⟨ws,g1⟩,e1,e⟩:=bnd e
 refine ⟨ρ,sd,g,ws,g1,r,e1,λ vs H1 ρ1 s1 h1 r1=>?_⟩
 have hl:=hn.len e1
 cases r1 with
 | nil=>cases hl
 | cons h t =>
  cases t with
  | cons _ _=>cases hl
  | nil =>
   cases h with
   | ref _=>cases e
   | inp _=>cases e
   | ty=>cases e
   | tup _ _=>cases e
   | dat h =>
    cases h with
    | int j =>
     dsimp only at e
     split at e
     ·rename_i hj
      cases e
      exact ⟨j,rfl,by omega,by omega,q _ H1 ρ1 s1 h1 ⟨trivial,ItOk.rng⟩⟩
     ·cases e
    | _=>cases e
theorem ZME {a b:Expr} {da:DA} {p pos:Pos} (hg:Gl X "range") (hm:X.mg "range" = none) (ha:PA X [a,b] (tA X.K da)) (hs:starEach [a,b] X.env=[(false,eval a X.env),(false,eval b X.env)]:=by rfl) (hs2:starEach [b] X.env=[(false,eval b X.env)]:=by rfl) (hn:Many da 2) :
  PI X tg (.Call (.Name "range" p) [a,b] [] pos) (tI X.K (ZAa da)):=(ZMH hg hm ha hs hs2).imp λ σ H R ⟨ρ,sd,g,xs,src,g',r,e,q⟩=>by
 obtain ⟨⟨ws,g1⟩,e1,e⟩:=bnd e
 refine ⟨ρ,sd,g,ws,g1,r,e1,λ vs H1 ρ1 s1 h1 r1=>?_⟩
 have hl:=hn.len e1
 cases r1 with
 | nil=>cases hl
 | cons h t =>
  cases t with
  | nil=>cases hl
  | cons h2 t =>
   cases t with
   | cons _ _=>cases hl
   | nil =>
    cases h with
    | ref _=>cases e
    | inp _=>cases e
    | ty=>cases e
    | tup _ _=>cases e
    | dat h =>
     cases h with
     | int i =>
      cases h2 with
      | ref _=>cases e
      | inp _=>cases e
      | ty=>cases e
      | tup _ _=>cases e
      | dat h2 =>
       cases h2 with
       | int j =>
        dsimp only at e
        split at e
        ·rename_i hj
         cases e
         exact ⟨i,j,rfl,by omega,q _ H1 ρ1 s1 h1 ⟨trivial,ItOk.rng⟩⟩
        ·cases e
       | _=>cases e
     | _=>cases e
def ZCK (a:DA):DI:=λ sd g=>(a sd g).bind λ p=>match p.1 with
 | [.dat (.tuple ds)]=>some (ZCr 0 ds,none,p.2)
 | _=>none
theorem ZPm {es:List Expr} {k:Nat} {tpos:Pos} {a:Expr} {da:DA} {p pos:Pos} (hg:Gl X "enumerate") (hm:X.mg "enumerate" = none) (ha:PA X [a] (tA X.K da)) (hs:starEach [a] X.env=[(false,eval a X.env)]:=by rfl) (hn:Many da 1) :
  PI X (.Tuple es k tpos) (.Call (.Name "enumerate" p) [a] [] pos) (tI X.K (ZCK da)):=(ZIw hg hm ha hs).imp λ σ H R ⟨ρ,sd,g,xs,src,g',r,e,q⟩=>by
 obtain ⟨⟨ws,g1⟩,e1,e⟩:=bnd e
 refine ⟨ρ,sd,g,ws,g1,r,e1,λ vs H1 ρ1 s1 h1 r1=>?_⟩
 have hl:=hn.len e1
 cases r1 with
 | nil=>cases hl
 | cons h t =>
  cases t with
  | cons _ _=>cases hl
  | nil =>
   cases h with
   | ref _=>cases e
   | inp _=>cases e
   | ty=>cases e
   | tup _ _=>cases e
   | dat h =>
    cases h with
    | @tup a' us ds h t =>
     cases e
     exact ⟨_,rfl,⟨_,h.sq⟩,q _ H1 ρ1 s1 h1 ⟨trivial,ItOk.enum h t⟩⟩
    | _=>cases e
end
end L2
namespace L2
open PySem PySem.Spec PyProof.Rows H1
open Classical in
noncomputable def ZCq {α : Type} (src:Option Nat) (xs:List PyData) (g:G) (k:Option α):Option α:=match src with | none=>k | some n=>if g[n]? = some (.pl xs) then k else none
theorem ZDR {α : Type} {src:Option Nat} {xs:List PyData} {g:G} {k:Option α} {y : α} (h:ZCq src xs g k=some y):ZBv src xs g/\k=some y:=by
 unfold ZCq at h
 cases src with
 | none=>exact ⟨trivial,h⟩
 | some n =>
  dsimp only at h
  split at h
  ·rename_i q; exact ⟨q,h⟩
  ·cases h
noncomputable def ZAn (src:Option Nat) (xs:List PyData) (pt:Pat) (db:DS):List PyData->Sd->G->Option Out
 | [],sd,g=>some (.nx sd g)
 | x :: r,sd,g=>(Zu pt (.dat x) sd).bind λ sd1=>(db sd1 g).bind λ o=>match o with
  | .nx sd2 g2=>ZCq src xs g2 (ZAn src xs pt db r sd2 g2)
  | .ct sd2 g2=>ZCq src xs g2 (ZAn src xs pt db r sd2 g2)
  | .bk sd2 g2=>some (.nx sd2 g2)
  | .rt y g2=>some (.rt y g2)
noncomputable def ZCj (pt:Pat) (di:DI) (db:DS):DS:=λ sd g=>(di sd g).bind λ t=>ZAn t.2.1 t.1 pt db t.1 sd t.2.2
theorem allT (pt:Pat):pt.all (λ _=>true)=true:=Pat.rec (motive_1:=λ p=>p.all (λ _=>true)=true) (motive_2:=λ p=>p.all (λ _=>true)=true) (λ i=>by rw [Pat.all]) (λ ps h=>by rw [Pat.all]; exact h) (by rw [Pats.all]) (λ p r h1 h2=>by rw [Pats.all,h1,h2]; rfl) pt
section
variable {X:Cx} {tg iter:Expr} {pos:Pos} {di:DI} {pt:Pat} {db:DS}
theorem ZRJ {body:List Stmt} (hp:PassesOwn (model X.prog X.w) X.A X.env X.xe) (hc:X.calm=true) (hi:PI X tg iter (tI X.K di)) (hg:PG X tg (gP X.K pt)) (hb:PSs X body (tS X.K db))
  (hs:∀ x,foldedSetIterable iter X.env x=pure x:=by intro _; rfl):PS X (.For tg iter body [] pos) (tS X.K (ZCj pt di db)):=(ZQt hp hc hi hg hb hs).imp λ D σ H ⟨ρ,sd,g,o,r,e,q⟩=>by
 obtain ⟨⟨xs,src,g1⟩,e1,e⟩:=bnd e
 refine ⟨ρ,sd,g,xs,src,g1,r,e1,λ J H1 ρ1 s1 h1 ⟨so,it⟩=>?_⟩
 refine ⟨λ i m σ' H'=>m=xs.length - i/\i<=xs.length/\∃ ρ' sd' g',Stp ρ1 H1 ρ' H'/\Rst X.K ρ' H' σ' sd' g'/\ZBv src xs g'/\ZAn src xs pt db (xs.drop i) sd' g'=some o,⟨xs.length,rfl,Nat.zero_le _,ρ1,sd,g1,.refl,r.step s1 h1,so,e⟩,?_⟩
 rintro i m σ' H' ⟨rfl,hi,ρ',sd',g',s',r',so',e'⟩
 obtain ⟨hgo,hst⟩:=(it.mono s').use r'.hr so'
 by_cases hlt:i < xs.length
 ·rw [List.drop_eq_getElem_cons hlt] at e'
  rw [ZAn] at e'
  obtain ⟨sd1,e2,e'⟩:=bnd e'
  obtain ⟨o1,e3,e'⟩:=bnd e'
  obtain ⟨hg1,hy⟩:=hgo i xs[i] (List.getElem?_eq_getElem hlt)
  refine .inr ⟨hg1,λ σ2 H2=>∃ ρ2 sd2 g2,Stp ρ1 H1 ρ2 H2/\Rst X.K ρ2 H2 σ2 sd2 g2/\ZBv src xs g2/\ZAn src xs pt db (xs.drop (i+1)) sd2 g2=some o,λ σ2 H2 ⟨ρ2,sd2,g2,k1,k2,k3,k4⟩=>⟨xs.length - (i+1),by omega,rfl,hlt,ρ2,sd2,g2,k1,k2,k3,k4⟩,λ v H2 y=>?_⟩
  obtain ⟨sm,rv⟩:=hy v H2 y
  have s2:Stp ρ' H' ρ' H2:=.same sm
  refine ZJq (f:=λ _=>true) (allT pt) e2 (r'.step s2 (r'.hr.same sm)) (.dat rv) λ σ3 r3 _=>⟨ρ',sd1,g',o1,r3,e3,?_⟩
  have s02:=s1.trans (s'.trans s2)
  cases o1 with
  | nx sd2 g2 =>
   obtain ⟨so2,e4⟩:=ZDR e'
   exact λ σ4 H4 ρ4 s4 r4=>⟨ρ4,sd2,g2,(s'.trans s2).trans s4,r4,so2,e4⟩
  | ct sd2 g2 =>
   obtain ⟨so2,e4⟩:=ZDR e'
   exact λ σ4 H4 ρ4 s4 r4=>⟨ρ4,sd2,g2,(s'.trans s2).trans s4,r4,so2,e4⟩
  | bk sd2 g2 =>
   cases e'
   exact ZHf.step q s02
  | rt y g2 =>
   cases e'
   exact ZHf.step q s02
 ·have ei:i=xs.length:=by omega
  subst ei
  rw [List.drop_length,ZAn] at e'
  cases e'
  exact .inl ⟨hst _ (Nat.le_refl _),q σ' H' ρ' (s1.trans s') r'⟩
end
def ZHH (own:Nat) (cap:List Nat) (sd:Sd):Sd:=List.replicate own none ++ cap.map λ j=>(sd[j]?).join
noncomputable def ZBq (src:Option Nat) (xs:List PyData) (pt:Pat) (dt:DB) (de:DE) (sd0:Sd):List PyData->G->Option (List PyData × G)
 | [],g=>some ([],g)
 | x :: r,g=>(Zu pt (.dat x) sd0).bind λ sd1=>(dt sd1 g).bind λ b=>if b.1=true then (de sd1 b.2).bind λ y=>match y.1 with
   | .dat d=>ZCq src xs y.2 ((ZBq src xs pt dt de sd0 r y.2).map λ q=>(d :: q.1,q.2))
   | _=>none
  else ZCq src xs b.2 (ZBq src xs pt dt de sd0 r b.2)
noncomputable def ZAl (own:Nat) (cap:List Nat) (pt:Pat) (di:DI) (dt:DB) (de:DE):DE:=λ sd g=>(di sd g).bind λ t=>if t.1.length<=1000 then (ZBq t.2.1 t.1 pt dt de (ZHH own cap sd) t.1 t.2.2).map λ p=>(.dat (.list p.1),p.2) else none
def ZC8:DB:=λ _ g=>some (true,g)
theorem ZPS {K:PySem.W.Frag} {ρ : Rh} {H:Hp} {σ : St} {sd:Sd} {g:G} (r:Rst K ρ H σ sd g) (own:Nat) (cap:List Nat):Rst K ρ H (ZFU own cap σ) (ZHH own cap sd) g:=by
 refine ⟨by unfold ZFU ZHH; simp,λ i x e=>?_,r.hr⟩
 unfold ZHH at e
 unfold ZFU
 by_cases hi:i < own
 ·rw [List.getElem?_append_left (by simpa using hi),List.getElem?_replicate] at e
  split at e <;> cases e
 ·rw [List.getElem?_append_right (by simpa using hi),List.length_replicate,List.getElem?_map] at e
  rw [List.getElem?_append_right (by simpa using hi),List.length_replicate,List.getElem?_map]
  obtain ⟨j,e1,e⟩:=mp e
  rw [e1]
  cases k:sd[j]? with
  | none=>rw [k] at e; cases e
  | some w =>
   rw [k] at e
   have e:w=some x:=e
   subst e
   obtain ⟨v,h1,h2⟩:=r.env j x k
   exact ⟨v,by show some ((σ[j]?).join)=_; rw [h1]; rfl,h2⟩
theorem ZMu {own:Nat} {cap:List Nat} {σ : St} {i:Nat} (h:i < own):(ZFU own cap σ)[i]? = some none:=by
 unfold ZFU
 rw [List.getElem?_append_left (by simpa using h),List.getElem?_replicate,if_pos h]
theorem PTs.imp {X:Cx} {ifs:List Expr} {t u:TT} (h:PTs X ifs t) (k:∀ σ H Q,u σ H Q->t σ H Q):PTs X ifs u:=λ pins s σ H Q I q=>h pins s σ H Q I (k σ H Q q)
theorem ZOm {X:Cx}:PTs X [] (tT X.K ZC8):=ZOs.imp λ σ H Q ⟨ρ,sd,g,b,g',r,e,q⟩=>by
 cases e
 exact q H ρ .refl r.hr
theorem ZO0 {X:Cx} {c:Expr} {d:DB} (h:PT X c (tT X.K d)):PTs X [c] (tT X.K d):=ZPU h
theorem Stp.grow {ρ ρ':Rh} {H H':Hp} {p:Addr} {o:HO} (hp:H p=none) (s:Stp ρ H ρ' H'):Stp ρ H ρ' (upd H' p o):=⟨s.pre,s.hid,λ a u e n=>by rw [Zg (Zo e hp)]; exact s.frm a u e n,s.fre,λ a u e=>by rw [Zg (Zo e hp)]; exact s.kd a u e⟩
theorem Stp.unhide {ρ ρ':Rh} {H H':Hp} {p:Addr} (s:Stp (ρ.hide p) H ρ' H'):Stp ρ H ⟨ρ'.c,ρ.h⟩ H'/\ρ'=(⟨ρ'.c,ρ.h⟩:Rh).hide p:=⟨⟨s.pre,rfl,s.frm,s.fre,s.kd⟩,by
 have:=s.hid
 obtain ⟨c,h⟩:=ρ'
 have e:h=p :: ρ.h:=this
 subst e
 rfl⟩
theorem Rst.hide {K:PySem.W.Frag} {ρ : Rh} {H:Hp} {σ : St} {sd:Sd} {g:G} {p:Addr} {o:HO} (hp:H p=none) (r:Rst K ρ H σ sd g):Rst K (ρ.hide p) (upd H p o) σ sd g:=⟨r.len,λ i x e=>by
 obtain ⟨v,h1,h2⟩:=r.env i x e
 exact ⟨v,h1,h2.hide hp⟩,r.hr.hide hp⟩
theorem Rst.grow {K:PySem.W.Frag} {ρ : Rh} {H:Hp} {σ : St} {sd:Sd} {g:G} {p:Addr} {o:HO} (hp:p ∈ ρ.h) (r:Rst K ρ H σ sd g):Rst K ρ (upd H p o) σ sd g:=⟨r.len,λ i x e=>by
 obtain ⟨v,h1,h2⟩:=r.env i x e
 exact ⟨v,h1,h2.grow hp⟩,r.hr.grow hp⟩
section
variable {X:Cx} {tg elt iter:Expr} {ifs:List Expr} {scope sc:Scope} {pos:Pos} {di:DI} {pt:Pat} {dt:DB} {de:DE} {N NX:List Str} {own:Nat} {cap:List Nat}
theorem ZLP {K:PySem.W.Frag} {σ : St} {H:Hp} {Q:VK} (hp:pt.all (λ i=>decide (i < own))=true) (h:tE K (ZAl own cap pt di dt de) σ H Q):ZNZ own cap (tI K di) (gP K pt) (tT K dt) (tE K de) σ H Q:=by
 obtain ⟨ρ,sd,g,x,gz,r,e,q⟩:=h
 obtain ⟨⟨xs,src,g1⟩,e1,e⟩:=bnd e
 by_cases hz:xs.length<=1000
 ·dsimp only at e
  rw [if_pos hz] at e
  obtain ⟨⟨zs,g2⟩,e2,e⟩:=mp e
  cases e
  refine ⟨ρ,sd,g,xs,src,g1,r,e1,λ J H1 ρ1 s1 h1 ⟨so,it⟩ D hD=>?_⟩
  have hnh:D ∉ ρ1.h:=λ z=>h1.nin hD (.inr z)
  have r1:=ZPS (r.step s1 h1) own cap
  refine ⟨λ i m acc H'=>m=xs.length - i/\i<=xs.length/\acc.length<=i/\∃ ρ' g' ads ys,Stp ρ1 H1 ρ' H'/\Rst K (ρ'.hide D) H' (ZFU own cap σ) (ZHH own cap sd) g'/\ZBv src xs g'/\H' D=some (.lst acc)/\RelDL K (ρ'.hide D) H' acc ads/\ItOk K (ρ'.hide D) H' J xs src/\ZBq src xs pt dt de (ZHH own cap sd) (xs.drop i) g'=some (ys,g2)/\ads ++ ys=zs,⟨xs.length,rfl,Nat.zero_le _,Nat.le_refl _,ρ1,g1,[],zs,.same (_root_.H1.Same.upd hD),r1.hide hD,so,Zt,.nil,it.hide hD,e2,rfl⟩,?_⟩
  rintro i m acc H' ⟨rfl,hi,ha,ρ',g',ads,ys,s',r',so',hacc,ra,it',e',ez⟩
  have hr':HR K ρ' H' g':=r'.hr.shown
  obtain ⟨hgo,hst⟩:=it'.use r'.hr so'
  have hDm:∀ {ρx:Rh},D ∈ (ρx.hide D).h:=λ {ρx}=>List.mem_cons_self ..
  by_cases hlt:i < xs.length
  ·rw [List.drop_eq_getElem_cons hlt] at e'
   rw [ZBq] at e'
   obtain ⟨sd1,e2,e'⟩:=bnd e'
   obtain ⟨⟨b,g3⟩,e3,e'⟩:=bnd e'
   obtain ⟨hg1,hy⟩:=hgo i xs[i] (List.getElem?_eq_getElem hlt)
   refine .inr ⟨hg1,λ acc2 H2=>acc2.length<=i+1/\∃ ρ' g' ads ys,Stp ρ1 H1 ρ' H2/\Rst K (ρ'.hide D) H2 (ZFU own cap σ) (ZHH own cap sd) g'/\ZBv src xs g'/\H2 D=some (.lst acc2)/\RelDL K (ρ'.hide D) H2 acc2 ads/\ItOk K (ρ'.hide D) H2 J xs src/\ZBq src xs pt dt de (ZHH own cap sd) (xs.drop (i+1)) g'=some (ys,g2)/\ads ++ ys=zs,λ acc2 H2 ⟨k0,ρ2,g2',ads2,ys2,k1,k2,k3,k4,k5,k6,k7,k8⟩=>⟨xs.length - (i+1),by omega,rfl,hlt,k0,ρ2,g2',ads2,ys2,k1,k2,k3,k4,k5,k6,k7,k8⟩,λ v H2 y=>?_⟩
   obtain ⟨sm,rv⟩:=hy v H2 y
   have s2:Stp (ρ'.hide D) H' (ρ'.hide D) H2:=.same sm
   refine ZJq (f:=λ i=>decide (i < own)) hp e2 (r'.step s2 (r'.hr.same sm)) (.dat rv) λ σ3 r3 kp=>⟨⟨kp.1,λ i v e=>?_⟩,ρ'.hide D,sd1,g',b,g3,r3,e3,λ H3 ρ3 s3 h3=>?_⟩
   ·by_cases hi:i < own
    ·rw [ZMu hi] at e; cases e
    ·rw [kp.2 i (decide_eq_false hi)]; exact e
   have s23:=s2.trans s3
   obtain ⟨u3,e3h⟩:=s23.unhide
   have hD3:H3 D=some (.lst acc):=s23.frm _ _ hacc (r'.hr.hid D hDm).1
   have r3':=r3.step s3 h3
   rw [e3h] at r3' h3 s3 s23
   cases b with
   | false =>
    rw [if_neg Bool.false_ne_true] at e'
    obtain ⟨so3,e4⟩:=ZDR e'
    refine iteF ?_
    exact ⟨Nat.le_succ_of_le ha,⟨ρ3.c,ρ'.h⟩,g3,ads,ys,s'.trans u3,r'.step s23 h3,so3,hD3,ra.mono s23,it'.mono s23,e4,ez⟩
   | true =>
    rw [if_pos rfl] at e'
    obtain ⟨⟨w,g4⟩,e4,e'⟩:=bnd e'
    refine iteT ?_
    refine ⟨(⟨ρ3.c,ρ'.h⟩:Rh).hide D,sd1,g3,w,g4,r3',e4,λ y4 H4 ρ4 s4 h4 r4=>?_⟩
    obtain ⟨u4,e4h⟩:=s4.unhide
    rw [e4h] at h4 r4 s4
    have s24:=s23.trans s4
    have hD4:H4 D=some (.lst acc):=s4.frm _ _ hD3 (h3.hid D hDm).1
    cases r4 with
    | ref _=>cases e'
    | inp _=>cases e'
    | ty=>cases e'
    | tup _ _=>cases e'
    | @dat _ d r4 =>
     obtain ⟨so4,e5⟩:=ZDR e'
     obtain ⟨⟨ys',g5⟩,e6,e5⟩:=mp e5
     cases e5
     refine ⟨hD4,Nat.lt_of_le_of_lt ha (ZAC (by omega)),?_⟩
     refine ⟨by rw [List.length_append]; exact Nat.add_le_add_right ha 1,⟨ρ4.c,ρ'.h⟩,g4,ads ++ [d],ys',((s'.trans u3).trans u4).grow hD,(r'.step s24 h4).grow hDm,so4,Zt,((ra.mono s24).append (.cons r4 .nil)).grow hDm,(it'.mono s24).grow hDm,e6,?_⟩
     rw [List.append_assoc]
     exact ez
  ·have ei:i=xs.length:=by omega
   subst ei
   rw [List.drop_length,ZBq] at e'
   cases e'
   rw [List.append_nil] at ez
   subst ez
   refine .inl ⟨hst _ (Nat.le_refl _),q _ H' ρ' (s1.trans s') hr' (.dat (.lst hacc (λ z=>?_) (ra.less (ρ':=ρ') (ρ:=ρ'.hide D) λ _ z=>z.elim .inl λ q=>.inr (List.mem_cons_of_mem _ q))))⟩
   rcases z with z | z
   ·exact (r'.hr.hid D (List.mem_cons_self ..)).1 z
   ·rw [s'.hid] at z
    exact hnh z
 ·dsimp only at e
  rw [if_neg hz] at e
  cases e
theorem ZOS (hc:X.calm=true) (hi:PI X tg iter (tI X.K di)) (hsc:X.env.scope=sc) (hNX:X.N=NX)
  (hb:∀ cl C s0 H0 fp,PG (blk X N (compEnvC scope cl C X.env) s0 H0 fp) tg (gP X.K pt)/\PTs (blk X N (compEnvC scope cl C X.env) s0 H0 fp) ifs (tT X.K dt)/\PE (blk X N (compEnvC scope cl C X.env) s0 H0 fp) elt (tE X.K de))
  (co:ZJo sc scope NX N own cap=true) (hp:pt.all (λ i=>decide (i < own))=true) (hs:∀ x,foldedSetIterable iter X.env x=pure x:=by intro _; rfl):PE X (.ListComp elt [⟨tg,iter,ifs,0⟩] scope pos) (tE X.K (ZAl own cap pt di dt de)) :=
 (ZPR hc hi hsc hNX hb co hs).imp λ _ _ _ h=>ZLP hp h
theorem ZOv {i:Nat} {x:Str} {py spos:Pos} (hN:X.N.Nodup) (hi:X.N[i]? = some x) (hx:Loc X.env.scope x) (hc:X.calm=true) (hit:PI X tg iter (tI X.K di)) (hsc:X.env.scope=sc) (hNX:X.N=NX)
  (hb:∀ cl C s0 H0 fp,PG (blk X N (compEnvC scope cl C X.env) s0 H0 fp) tg (gP X.K pt)/\PTs (blk X N (compEnvC scope cl C X.env) s0 H0 fp) ifs (tT X.K dt)/\PE (blk X N (compEnvC scope cl C X.env) s0 H0 fp) elt (tE X.K de))
  (co:ZJo sc scope NX N own cap=true) (hp:pt.all (λ i=>decide (i < own))=true) (hsw:swapsWith (.ListComp elt [⟨tg,iter,ifs,0⟩] scope pos) (some (.Name x py)) spos.line X.env=pure true:=by rfl) (hs:∀ x,foldedSetIterable iter X.env x=pure x:=by intro _; rfl)
  (hf:X.fn x=true ∨ X.env.scope.names.lookup x=some .local:=by first | exact .inl rfl | exact .inr rfl | assumption) :
  PS X (.Assign [.Name x py] (.ListComp elt [⟨tg,iter,ifs,0⟩] scope pos) spos) (tS X.K (Zr i (ZAl own cap pt di dt de))):=(ZOR hN hi hx hc hit hsc hNX hb co hsw hs hf).imp λ D σ H ⟨ρ,sd,g,o,r,e,q⟩=>by
 obtain ⟨⟨y,g1⟩,e1,e⟩:=bnd e
 cases e
 exact ZLP hp ⟨ρ,sd,g,y,g1,r,e1,λ v H1 ρ1 s1 h1 r1=>q _ H1 ρ1 s1 ((r.step s1 h1).set r1 i)⟩
end
def Z2 (n:Nat) (d:DS) (ws:List W) (g:G):Option (W × G):=match d (ws.map some ++ List.replicate (n - ws.length) none) g with
 | some (.rt x g')=>some (x,g')
 | some (.nx _ g')=>some (.dat .none,g')
 | _=>none
theorem ZHv {K:PySem.W.Frag} {ρ : Rh} {H:Hp} {g:G} (h:HR K ρ H g) (k:Nat):∀ {vs:List V} {ws:List W},RelL K ρ H vs ws->Rst K ρ H (vs.map some ++ List.replicate k none) (ws.map some ++ List.replicate k none) g
 | _,_,.nil=>by
  refine ⟨by simp,λ i x e=>?_,h⟩
  simp only [List.map_nil,List.nil_append] at e
  rw [List.getElem?_replicate] at e
  split at e <;> cases e
 | v :: vs,w :: ws,.cons r t=>by
  have q:=ZHv h k t
  refine ⟨by have:=q.len; simp at this ⊢; exact this,λ i x e=>?_,h⟩
  cases i with
  | zero=>simp at e; subst e; exact ⟨v,by simp,r⟩
  | succ i =>
   simp at e
   obtain ⟨u,h1,h2⟩:=q.env i x (by simpa using e)
   exact ⟨u,by simpa using h1,h2⟩
theorem ZQz {P:Program} {w:World} {K:PySem.W.Frag} {mg:Str->Option Value} {base:Heap} {x qual:Str} {st:Stmt} {f:Addr} {fd:FuncData} {N ps:List Str} {k:Nat} {d:DS} (F:Fun K x qual st f fd) (S:FnScope N ps (ZM st))
  (hb:∀ (cdv:Value) (A:Around) (outer:List Env) (s:Shared) (H:Hp) (E:XK),Room k (A.deeper (envOfC qual (ZM st) s.heap.objs.size f cdv))->PSs (ZJl CX0 P w K mg base N qual (ZM st) f cdv A outer s H E).nox (ZB6 st) (tS K d)) :
  FnOk P w K mg base CX0 (k+1) f fd ps (spD K ps.length (Z2 N.length d)):=by
 refine F.ok S (λ vs H Q E h=>h.1) (λ cdv A outer s H vs Q E hr h=>⟨_,hb cdv A outer s H E hr,?_⟩)
 obtain ⟨hl,ρ,ws,g,z,gz,hR,rl,e,q⟩:=h
 unfold Z2 at e
 have hlw:=rl.length
 unfold ZEp
 rw [hlw]
 cases ho:d (ws.map some ++ List.replicate (N.length - ws.length) none) g with
 | none=>rw [ho] at e; cases e
 | some o =>
  rw [ho] at e
  refine ⟨ρ,_,g,o,ZHv hR _ rl,ho,?_⟩
  cases o with
  | nx sd g' =>
   cases e
   intro σ' H' ρ' s' r'
   exact q .non H' ρ' s' r'.hr (.dat .non)
  | rt y g' =>
   cases e
   exact q
  | bk _ _=>cases e
  | ct _ _=>cases e
end L2
namespace L2
open PySem PySem.Spec PyProof.Rows H1
mutual
theorem RelD.reads {X:Cx} {pins:List (Addr × Obj)} {σ : St} {ρ : Rh} {H:Hp} {s:Shared} (I:Inv X pins σ H s):∀ {v:V} {d:PyData} {u:Value},RelD X.K ρ H v d->d.canLay0=true->ZAD v u->∃ as,Reads s.heap u d as
 | _,_,_,.non,_,r=>by cases r; exact ⟨_,.none⟩
 | _,_,_,.bl b,_,r=>by cases r; exact ⟨_,.bool b⟩
 | _,_,_,.int i,_,r=>by obtain ⟨t,rfl⟩:=r; exact ⟨_,.int i t⟩
 | _,_,_,.str x,_,r=>by obtain ⟨t,rfl⟩:=r; exact ⟨_,.str x t⟩
 | _,_,_,.tup h hl,c,r=>by
  cases r
  obtain ⟨its,rv,⟨o,ho,hc,n,hd⟩,_⟩:=I.tuple h.sq
  obtain ⟨as,ra⟩:=RelDL.reads I hl (by rw [PyData.canLay0] at c; exact c) rv
  exact ⟨as,.tuple ho hc hd (by simpa using ra)⟩
 | _,_,_,.lst h _ hl,c,r=>by
  cases r
  obtain ⟨_,its,n,rv,e⟩:=I.hok _ _ h
  obtain ⟨as,ra⟩:=RelDL.reads I hl (by rw [PyData.canLay0] at c; exact c) rv
  exact ⟨_,.list e rfl rfl (by simpa using ra)⟩
 | _,_,_,.dct h _,c,r=>by rw [PyData.canLay0] at c; cases c
theorem RelDL.reads {X:Cx} {pins:List (Addr × Obj)} {σ : St} {ρ : Rh} {H:Hp} {s:Shared} (I:Inv X pins σ H s):∀ {vs:List V} {ds:List PyData} {us:List Value},RelDL X.K ρ H vs ds->PyData.canLayAll0 ds=true->Zs vs us->∃ as,ReadsAll s.heap us ds as
 | _,_,_,.nil,_,r=>by cases r; exact ⟨_,.nil⟩
 | _,_,_,.cons h hl,c,r=>by
  rw [PyData.canLayAll0,Bool.and_eq_true] at c
  cases r with
  | cons r1 r2 =>
   obtain ⟨as,ra⟩:=RelD.reads I h c.1 r1
   obtain ⟨bs,rb⟩:=RelDL.reads I hl c.2 r2
   exact ⟨_,.cons ra rb⟩
end
def ZBn:W->G->Option (List PyData)
 | .dat (.list ds),_=>some ds
 | .ref n,g=>lk g n
 | _,_=>none
theorem ZAm {K:PySem.W.Frag} {ρ : Rh} {H:Hp} {g:G} {v:V} {w:W} {ds:List PyData} (hR:HR K ρ H g) (r:Rel K ρ H v w) (e:ZBn w g=some ds):∃ a vs,v=.ref a/\H a=some (.lst vs)/\RelDL K ρ H vs ds:=by
 cases r with
 | ty=>cases e
 | tup _ _=>cases e
 | inp _=>cases e
 | ref h =>
  obtain ⟨a,vs,h1,h2,h3⟩:=hR.at_ _ _ (ZF6 e)
  rw [h] at h1
  cases h1
  exact ⟨_,vs,rfl,h2,h3⟩
 | dat h =>
  cases h with
  | lst h n t=>cases e; exact ⟨_,_,rfl,h,t⟩
  | _=>cases e
theorem Pv.at {K:PySem.W.Frag} {ρ : Rh} {H:Hp} {g:G} {x:W} {v:V} {Q:VK} (q:Pv K ρ H x g Q) (h:HR K ρ H g) (r:Rel K ρ H v x):Q v H:=q v H ρ .refl h r
theorem Pv.new {K:PySem.W.Frag} {ρ : Rh} {H:Hp} {g:G} {ds:List PyData} {vs:List V} {Q:VK} (q:Pv K ρ H (.dat (.list ds)) g Q) (h:HR K ρ H g) (r:RelDL K ρ H vs ds) {p:Addr} (hp:H p=none):Q (.ref p) (upd H p (.lst vs)):=by
 obtain ⟨sm,hr2,hn⟩:=ZCy (o:=.lst vs) h hp
 exact q _ _ ρ (.same sm) hr2 (.dat (.lst Zt hn (r.mono (.same sm))))
theorem Pv.newT {K:PySem.W.Frag} {ρ : Rh} {H:Hp} {g:G} {ds:List PyData} {vs:List V} {Q:VK} (q:Pv K ρ H (.dat (.tuple ds)) g Q) (h:HR K ρ H g) (r:RelDL K ρ H vs ds) {p:Addr} (hp:H p=none):Q (.ref p) (upd H p (.tup vs)):=by
 obtain ⟨sm,hr2,hn⟩:=ZCy (o:=.tup vs) h hp
 exact q _ _ ρ (.same sm) hr2 (.dat (.tup (.inl ⟨.inl Zt,hn⟩) (r.mono (.same sm))))
def ZAQ:W->W->G->Option (W × G)
 | .dat (.int i),.dat (.int j),g=>some (.dat (.int (i+j)),g)
 | .dat (.tuple xs),.dat (.tuple ys),g=>if xs.length+ys.length<=1000 then some (.dat (.tuple (xs ++ ys)),g) else none
 | .dat (.str a),.dat (.str b),g=>if a.length+b.length<=1000 then some (.dat (.str (a ++ b)),g) else none
 | a,b,g=>(ZBn a g).bind λ xs=>(ZBn b g).bind λ ys=>if xs.length+ys.length<=1000 then some (.dat (.list (xs ++ ys)),g) else none
def opZ (c:Int->Int->Bool) (f:Int->Int->PyData):W->W->G->Option (W × G)
 | .dat (.int i),.dat (.int j),g=>if c i j=true then some (.dat (f i j),g) else none
 | _,_,_=>none
def ZGl:=opZ (λ _ _=>true) λ i j=>.int (i - j)
def ZDI:=opZ (λ _ j=>decide (0 < j)) λ i j=>.int (i % j)
def ZFV:=opZ (λ _ j=>decide (0 < j) && decide (j < 2 ^ 64)) λ i j=>.int (i / j)
def ZIz (i j:Int):Bool:=(decide (-(2 ^ 64) < i) && decide (i < 2 ^ 64)) || (decide (-(2 ^ 64) < j) && decide (j < 2 ^ 64))
def ZBW:W->W->G->Option (W × G)
 | .dat (.int i),.dat (.int j),g=>if ZIz i j=true then some (.dat (.int (i * j)),g) else none
 | .dat (.tuple xs),.dat (.int k),g=>if ((decide (2<=k) && decide (k<=20)) && (!xs.isEmpty && decide (xs.length<=20)))=true then some (.dat (.tuple (List.replicate k.toNat xs).flatten),g) else none
 | a,.dat (.int k),g=>(ZBn a g).bind λ xs=>if k<=1000/\-1000<=k/\xs.length<=1000 then some (.dat (.list (List.replicate k.toNat xs).flatten),g) else none
 | _,_,_=>none
section
variable {X:Cx}
theorem ZBp:OpR X (binaryOp .Add) (rOp X.K ZAQ):=by
 intro pins s σ H x y v u Q I rx ry h
 obtain ⟨ρ,a,b,g,z,g',hR,ra,rb,e,q⟩:=h
 have lists:((ZBn a g).bind λ xs=>(ZBn b g).bind λ ys=>if xs.length+ys.length<=1000 then some (W.dat (.list (xs ++ ys)),g) else none)=some (z,g')->wpAny (model X.prog X.w) X.A (binaryOp .Add v u) (EP X pins σ Q) X.xe s:=λ e=>by
  obtain ⟨xs,e1,e⟩:=bnd e
  obtain ⟨ys,e2,e⟩:=bnd e
  obtain ⟨l,vs,rfl,h1,t1⟩:=ZAm hR ra e1
  obtain ⟨l',us,rfl,h2,t2⟩:=ZAm hR rb e2
  split at e
  ·rename_i hz
   cases e
   exact ZQN pins s σ H _ _ v u Q I rx ry ⟨l,l',vs,us,rfl,rfl,h1,h2,by rw [t1.length,t2.length]; exact Nat.le_of_lt (ZAC hz),λ p hp=>q.new hR (t1.append t2) hp⟩
  ·cases e
 cases ra with
 | ref h=>exact lists e
 | inp h=>exact lists e
 | ty=>cases e
 | tup _ _=>cases e
 | dat ra =>
  cases ra with
  | int i =>
   cases rb with
   | dat rb =>
    cases rb with
    | int j=>cases e; exact ZRh pins s σ H _ _ v u Q I rx ry ⟨i,j,rfl,rfl,q.at hR (.dat (.int _))⟩
    | _=>cases e
   | _=>cases e
  | str i =>
   cases rb with
   | dat rb =>
    cases rb with
    | str j =>
     change (if i.length+j.length<=1000 then some (W.dat (.str (i ++ j)),g) else none)=some (z,g') at e
     split at e
     ·rename_i hz
      cases e
      exact ZKD pins s σ H _ _ v u Q I rx ry ⟨i,j,rfl,rfl,Nat.le_of_lt (ZAC hz),q.at hR (.dat (.str _))⟩
     ·cases e
    | _=>cases e
   | _=>cases e
  | @tup a1 xs ds f1 t1 =>
   cases rb with
   | dat rb =>
    cases rb with
    | @tup a2 ys es f2 t2 =>
     change (if ds.length+es.length<=1000 then some (W.dat (.tuple (ds ++ es)),g) else none)=some (z,g') at e
     split at e
     ·rename_i hz
      cases e
      have hz':xs.length+ys.length<=sizeLine:=by rw [t1.length,t2.length]; exact Nat.le_of_lt (ZAC hz)
      cases rx
      cases ry
      obtain ⟨its,r1,p1,_⟩:=I.tuple f1.sq
      obtain ⟨its2,r2,p2,_⟩:=I.tuple f2.sq
      refine HT.cat_tupA p1 p2 (λ z=>⟨.ref a2,H,I,rfl,q.at hR (.dat ?_)⟩) (λ _ z=>⟨.ref a1,H,I,rfl,q.at hR (.dat ?_)⟩) (λ _ z=>?_) (by rw [← r1.length,← r2.length]; exact hz')
      ·have:=r1.nil_iff.mp z
       subst this
       cases t1
       exact .tup f2 t2
      ·have:=r2.nil_iff.mp z
       subst this
       cases t2
       rw [List.append_nil]
       exact .tup f1 t1
      ·exact ⟨.ref s.heap.objs.size,_,I.laid (t':=s.toks) (o:=.tup (xs ++ ys)) (λ b ob q=>Heap.get?_push_of_some _ q) (Nat.le_refl _) ⟨by rw [List.length_append]; exact hz',_,r1.append r2,IsTup.new _ _⟩,rfl,q.newT hR (t1.append t2) (I.hok.fresh (Nat.le_refl _))⟩
     ·cases e
    | _=>cases e
   | _=>cases e
  | lst h n t=>exact lists e
  | _=>cases e
theorem oI {op:Operator} {C:Int->Int->Prop} {c:Int->Int->Bool} {f:Int->Int->Int} (h:OpR X (binaryOp op) (rI C λ i j=>.int (f i j))) (hc:∀ i j,c i j=true->C i j):OpR X (binaryOp op) (rOp X.K (opZ c λ i j=>.int (f i j))):=by
 intro pins s σ H x y v u Q I rx ry hh
 obtain ⟨ρ,a,b,g,z,g',hR,ra,rb,e,q⟩:=hh
 cases ra with
 | dat ra =>
  cases ra with
  | int i =>
   cases rb with
   | dat rb =>
    cases rb with
    | int j =>
     change (if c i j=true then some (W.dat (.int (f i j)),g) else none)=some (z,g') at e
     split at e
     ·rename_i hz
      cases e
      exact h pins s σ H _ _ v u Q I rx ry ⟨i,j,rfl,rfl,hc i j hz,q.at hR (.dat (.int _))⟩
     ·cases e
    | _=>cases e
   | _=>cases e
  | _=>cases e
 | _=>cases e
theorem ZLt:OpR X (binaryOp .Sub) (rOp X.K ZGl):=oI (C:=λ _ _=>True) (ZR5.imp λ x y H Q ⟨i,j,e1,e2,_,q⟩=>⟨i,j,e1,e2,q⟩) λ _ _ _=>trivial
theorem ZGX:OpR X (binaryOp .Mod) (rOp X.K ZDI):=oI ZQH λ i j h=>of_decide_eq_true h
theorem ZLF:OpR X (binaryOp .FloorDiv) (rOp X.K ZFV):=oI ZN2 λ i j h=>by
 rw [Bool.and_eq_true] at h
 exact ⟨of_decide_eq_true h.1,of_decide_eq_true h.2⟩
theorem ZPD {i j:Int} (h:ZIz i j=true):ZO4 i j:=by
 unfold ZIz at h
 rw [Bool.or_eq_true,Bool.and_eq_true,Bool.and_eq_true] at h
 rcases h with h | h
 ·exact .inl ⟨of_decide_eq_true h.1,of_decide_eq_true h.2⟩
 ·exact .inr ⟨of_decide_eq_true h.1,of_decide_eq_true h.2⟩
theorem ZPG:OpR X (binaryOp .Mult) (λ x y H Q=>∃ (a:Addr) (k:Int) (xs:List V),x=.ref a/\y=.int k/\SqT X.K H a xs/\(2<=k/\k<=20)/\(xs ≠ []/\xs.length<=20)/\∀ p,H p=none->Q (.ref p) (upd H p (.tup (List.replicate k.toNat xs).flatten))):=by
 intro pins s σ H x y v u Q I rx ry h
 obtain ⟨a,k,xs,rfl,rfl,ha,⟨k2,k20⟩,⟨hne,h20⟩,q⟩:=h
 cases rx
 obtain ⟨t,rfl⟩:=ry
 obtain ⟨its,r,p1,_⟩:=I.tuple ha
 obtain ⟨⟨cls,dd,data,sl⟩,ho,hc,n,hd⟩:=id p1
 simp only at hc hd
 subst hc hd
 have hlen:its.length=xs.length:=r.length.symm
 have hine:its.toArray.isEmpty=false:=by
  cases its with
  | nil=>exact absurd (r.nil_iff.mp rfl) hne
  | cons _ _=>rfl
 have hmul:(List.replicate k.toNat xs).flatten.length<=400:=by
  rw [ZK3]
  exact Nat.le_trans (Nat.mul_le_mul (show k.toNat<=20 by omega) h20) (by decide)
 have hnew:List.foldl (λ x1 x2=>x1 ++ x2) #[] (List.replicate k.toNat its.toArray)=(List.replicate k.toNat its).flatten.toArray:=by
  have:=ZFc its k.toNat []
  rw [List.nil_append] at this
  exact this
 have hmI:(its.toArray.size:Int) * k<=400:=by
  rw [List.size_toArray,hlen]
  have:(xs.length:Int) * k<=20 * 20:=Int.mul_le_mul (by omega) k20 (by omega) (by decide)
  omega
 refine wpAny_binaryOp_repeat_ref (T:="tuple") (U:="int") (by decide) ⟨_,ho,rfl⟩ (λ s'=>typeIs_int s' k t) HT.noFill_tuple_mul F.fills_int_mul F.slot_int_rmul HT.repeat_tuple F.slot_int_index.lookup
  (call_meets F.slot_int_rmul (typeIs_int s k t) F.entry_int_rmul (F.args_int_rmul_2 _ _) (HT.rmul_tup k t a its.toArray n dd sl)
   ⟨ho,rfl,⟨_,ho,rfl⟩,call_meets F.slot_tuple_mul ⟨_,ho,rfl⟩ F.entry_tuple_mul (F.args_tuple_mul_2 _ _) (HT.tuple_mulW a its.toArray n dd sl k t ?_ ?_ ?_ ?_ ?_ ?_) ⟨ho,?_⟩⟩)
 ·simp; omega
 ·rw [hine]; simp; omega
 ·rw [hine]; simp; omega
 ·omega
 ·unfold Builtin.Tuple.tupleTooMany
  have:(400:Int)<=(sizeLine:Int):=by decide
  rw [decide_eq_true_iff]
  omega
 ·rw [hnew,List.size_toArray,← (r.rep k.toNat).length]
  exact Nat.le_trans hmul (by decide)
 rw [hnew]
 exact ⟨.ref s.heap.objs.size,_,I.laid (t':=s.toks) (o:=.tup (List.replicate k.toNat xs).flatten) (λ b ob q=>Heap.get?_push_of_some _ q) (Nat.le_refl _) ⟨Nat.le_trans hmul (by decide),_,r.rep k.toNat,IsTup.new _ _⟩,rfl,q _ (I.hok.fresh (Nat.le_refl _))⟩
theorem ZDn:OpR X (binaryOp .Mult) (rOp X.K ZBW):=by
 intro pins s σ H x y v u Q I rx ry h
 obtain ⟨ρ,a,b,g,z,g',hR,ra,rb,e,q⟩:=h
 have lists:∀ {k:Int},y=.int k->((ZBn a g).bind λ xs=>if k<=1000/\-1000<=k/\xs.length<=1000 then some (W.dat (.list (List.replicate k.toNat xs).flatten),g) else none)=some (z,g')->wpAny (model X.prog X.w) X.A (binaryOp .Mult v u) (EP X pins σ Q) X.xe s:=λ {k} hy e=>by
  obtain ⟨xs,e1,e⟩:=bnd e
  obtain ⟨l,vs,rfl,h1,t1⟩:=ZAm hR ra e1
  split at e
  ·rename_i hz
   obtain ⟨z1,z2,z3⟩:=hz
   cases e
   refine ZR4 pins s σ H _ _ v u Q I rx ry ⟨l,k,vs,rfl,hy,h1,by omega,by omega,?_,λ p hp=>q.new hR (t1.rep _) hp⟩
   rw [t1.length]
   exact Nat.le_trans (Nat.mul_le_mul z3 (show k.toNat<=1000 by omega)) (by decide)
  ·cases e
 cases rb with
 | dat rb =>
  cases rb with
  | int j =>
   cases ra with
   | ref h=>exact lists rfl e
   | inp h=>exact lists rfl e
   | ty=>exact lists rfl e
   | tup _ _=>exact lists rfl e
   | dat ra =>
    cases ra with
    | int i =>
     change (if ZIz i j=true then some (W.dat (.int (i * j)),g) else none)=some (z,g') at e
     split at e
     ·rename_i hz
      cases e
      exact ZQ8 pins s σ H _ _ v u Q I rx ry ⟨i,j,rfl,rfl,ZPD hz,q.at hR (.dat (.int _))⟩
     ·cases e
    | @tup a1 xs ds f1 t1 =>
     change (if ((decide (2<=j) && decide (j<=20)) && (!ds.isEmpty && decide (ds.length<=20)))=true then some (W.dat (.tuple (List.replicate j.toNat ds).flatten),g) else none)=some (z,g') at e
     split at e
     ·rename_i hz
      cases e
      simp only [Bool.and_eq_true,decide_eq_true_eq,Bool.not_eq_true'] at hz
      obtain ⟨⟨z1,z2⟩,z3,z4⟩:=hz
      refine ZPG pins s σ H _ _ v u Q I rx ry ⟨a1,j,xs,rfl,rfl,f1.sq,⟨z1,z2⟩,⟨λ z=>?_,by rw [t1.length]; exact z4⟩,λ p hp=>q.newT hR (t1.rep _) hp⟩
      subst z
      cases t1
      cases z3
     ·cases e
    | lst h n t=>exact lists rfl e
    | _=>exact lists rfl e
  | _=>cases ra with
   | dat ra=>cases ra <;> cases e
   | _=>cases e
 | _=>cases ra with
  | dat ra=>cases ra <;> cases e
  | _=>cases e
end
end L2
namespace L2
open PySem PySem.Spec PyProof.Rows H1
def ok0 (d:PyData):Bool:=d.canLay0 && decide (d.depth<=40)
def ZFn:W->G->Option PyData
 | .dat d,_=>some d
 | .ref n,g=>(lk g n).map .list
 | _,_=>none
def ZCJ (a b:W) (g:G):Option (W × G):=(ZFn a g).bind λ x=>(ZFn b g).bind λ y=>if (ok0 x && ok0 y)=true then some (.dat (.bool (x.eqv y)),g) else none
def ZCN (a b:W) (g:G):Option (W × G):=(ZFn a g).bind λ x=>(ZFn b g).bind λ y=>if (ok0 x && ok0 y)=true then some (.dat (.bool !x.eqv y),g) else none
def ZMa:W->G->Option (List PyData)
 | .dat (.tuple ys),_=>some ys
 | b,g=>ZBn b g
def ZDW (a b:W) (g:G):Option (W × G):=(ZFn a g).bind λ x=>(ZMa b g).bind λ ys=>if (ok0 x && PyData.canLayAll0 ys)=true then some (.dat (.bool (ys.any λ y=>y.eqv x)),g) else none
def ZEE (a b:W) (g:G):Option (W × G):=(ZFn a g).bind λ x=>(ZMa b g).bind λ ys=>if (ok0 x && PyData.canLayAll0 ys)=true then some (.dat (.bool !ys.any λ y=>y.eqv x),g) else none
section
variable {X:Cx}
theorem ZBA {pins:List (Addr × Obj)} {σ : St} {ρ : Rh} {H:Hp} {s:Shared} {g:G} {v:V} {w:W} {d:PyData} {u:Value} (I:Inv X pins σ H s) (hR:HR X.K ρ H g) (r:Rel X.K ρ H v w) (e:ZFn w g=some d) (c:d.canLay0=true) (ru:ZAD v u):∃ as,Reads s.heap u d as:=by
 cases r with
 | ty=>cases e
 | tup _ _=>cases e
 | inp _=>cases e
 | dat r=>cases e; exact r.reads I c ru
 | ref h =>
  obtain ⟨ds,e1,rfl⟩:=mp e
  obtain ⟨a,vs,h1,h2,h3⟩:=hR.at_ _ _ (ZF6 e1)
  rw [h] at h1
  cases h1
  cases ru
  obtain ⟨_,its,n,rv,e⟩:=I.hok _ _ h2
  obtain ⟨as,ra⟩:=h3.reads I (by rw [PyData.canLay0] at c; exact c) rv
  exact ⟨_,.list e rfl rfl (by simpa using ra)⟩
theorem oEq (hu:X.A.units+64 < cLine):OpR X (compareOp .Eq) (rOp X.K ZCJ):=by
 intro pins s σ H x y v u Q I rx ry h
 obtain ⟨ρ,a,b,g,z,g',hR,ra,rb,e,q⟩:=h
 obtain ⟨d1,e1,e⟩:=bnd e
 obtain ⟨d2,e2,e⟩:=bnd e
 split at e
 ·rename_i hz
  cases e
  unfold ok0 at hz
  simp only [Bool.and_eq_true,decide_eq_true_eq] at hz
  obtain ⟨as,r1⟩:=ZBA I hR ra e1 hz.1.1 rx
  obtain ⟨bs,r2⟩:=ZBA I hR rb e2 hz.2.1 ry
  exact PySem.SeqAt.compareEq_reads r1 r2 hz.1.1 hz.2.1 (by have:=hz.1.2; omega) ⟨.bl _,H,I,rfl,q.at hR (.dat (.bl _))⟩
 ·cases e
theorem oNe (hu:X.A.units+64 < cLine):OpR X (compareOp .NotEq) (rOp X.K ZCN):=by
 intro pins s σ H x y v u Q I rx ry h
 obtain ⟨ρ,a,b,g,z,g',hR,ra,rb,e,q⟩:=h
 obtain ⟨d1,e1,e⟩:=bnd e
 obtain ⟨d2,e2,e⟩:=bnd e
 split at e
 ·rename_i hz
  cases e
  unfold ok0 at hz
  simp only [Bool.and_eq_true,decide_eq_true_eq] at hz
  obtain ⟨as,r1⟩:=ZBA I hR ra e1 hz.1.1 rx
  obtain ⟨bs,r2⟩:=ZBA I hR rb e2 hz.2.1 ry
  exact PySem.SeqAt.compareNe_reads r1 r2 hz.1.1 hz.2.1 (by have:=hz.1.2; omega) ⟨.bl _,H,I,rfl,q.at hR (.dat (.bl _))⟩
 ·cases e
theorem ZHx {pins:List (Addr × Obj)} {σ : St} {ρ : Rh} {H:Hp} {s:Shared} {g:G} {v:V} {w:W} {ds:List PyData} {u:Value} (I:Inv X pins σ H s) (hR:HR X.K ρ H g) (r:Rel X.K ρ H v w) (e:ZMa w g=some ds) (c:PyData.canLayAll0 ds=true) (ru:ZAD v u):(∃ as,Reads s.heap u (.list ds) as) ∨ ∃ as,Reads s.heap u (.tuple ds) as:=by
 cases r with
 | ty=>cases e
 | tup _ _=>cases e
 | inp _=>cases e
 | ref h=>exact .inl (ZBA I hR (.ref h) (show ZFn (.ref _) g=some (.list ds) by show (lk g _).map PyData.list=_; rw [show lk g _=some ds from e]; rfl) (by rw [PyData.canLay0]; exact c) ru)
 | dat r =>
  cases r with
  | tup f t=>cases e; exact .inr ((RelD.tup f t).reads I (by rw [PyData.canLay0]; exact c) ru)
  | lst h n t=>cases e; exact .inl ((RelD.lst h n t).reads I (by rw [PyData.canLay0]; exact c) ru)
  | _=>cases e
theorem oIn (hu:X.A.units+64 < cLine):OpR X (compareOp .In) (rOp X.K ZDW):=by
 intro pins s σ H x y v u Q I rx ry h
 obtain ⟨ρ,a,b,g,z,g',hR,ra,rb,e,q⟩:=h
 obtain ⟨d1,e1,e⟩:=bnd e
 obtain ⟨ds,e2,e⟩:=bnd e
 split at e
 ·rename_i hz
  cases e
  unfold ok0 at hz
  simp only [Bool.and_eq_true,decide_eq_true_eq] at hz
  obtain ⟨as,r1⟩:=ZBA I hR ra e1 hz.1.1 rx
  have hd:X.A.units+1+min (PyData.depthAll ds) d1.depth < cLine:=by have:=hz.1.2; have:=Nat.min_le_right (PyData.depthAll ds) d1.depth; omega
  rcases ZHx I hR rb e2 hz.2 ry with ⟨bs,r2⟩ | ⟨bs,r2⟩
  ·exact PySem.SeqAt.in_list_reads r2 r1 hz.2 hz.1.1 hd ⟨.bl _,H,I,rfl,q.at hR (.dat (.bl _))⟩
  ·exact PySem.SeqAt.in_tuple_reads r2 r1 hz.2 hz.1.1 hd ⟨.bl _,H,I,rfl,q.at hR (.dat (.bl _))⟩
 ·cases e
theorem ZM2 (hu:X.A.units+64 < cLine):OpR X (compareOp .NotIn) (rOp X.K ZEE):=by
 intro pins s σ H x y v u Q I rx ry h
 obtain ⟨ρ,a,b,g,z,g',hR,ra,rb,e,q⟩:=h
 obtain ⟨d1,e1,e⟩:=bnd e
 obtain ⟨ds,e2,e⟩:=bnd e
 split at e
 ·rename_i hz
  cases e
  unfold ok0 at hz
  simp only [Bool.and_eq_true,decide_eq_true_eq] at hz
  obtain ⟨as,r1⟩:=ZBA I hR ra e1 hz.1.1 rx
  have hd:X.A.units+1+min (PyData.depthAll ds) d1.depth < cLine:=by have:=hz.1.2; have:=Nat.min_le_right (PyData.depthAll ds) d1.depth; omega
  rcases ZHx I hR rb e2 hz.2 ry with ⟨bs,r2⟩ | ⟨bs,r2⟩
  ·exact PySem.SeqAt.notIn_list_reads r2 r1 hz.2 hz.1.1 hd ⟨.bl _,H,I,rfl,q.at hR (.dat (.bl _))⟩
  ·exact PySem.SeqAt.notIn_tuple_reads r2 r1 hz.2 hz.1.1 hd ⟨.bl _,H,I,rfl,q.at hR (.dat (.bl _))⟩
 ·cases e
end
def ZBg:List PyData->Option (List Int)
 | []=>some []
 | .int i :: r=>(ZBg r).map λ ns=>i :: ns
 | _ :: _=>none
theorem ZAt {K:PySem.W.Frag} {ρ : Rh} {H:Hp}:∀ {vs:List V} {ds:List PyData} {ns:List Int},RelDL K ρ H vs ds->ZBg ds=some ns->vs=ns.map V.int
 | _,_,_,.nil,e=>by cases e; rfl
 | _,_,_,.cons (.int i) t,e=>by
  obtain ⟨ms,e1,rfl⟩:=mp e
  rw [ZAt t e1]
  rfl
 | _,_,_,.cons .non _,e=>by cases e
 | _,_,_,.cons (.bl _) _,e=>by cases e
 | _,_,_,.cons (.str _) _,e=>by cases e
 | _,_,_,.cons (.tup _ _) _,e=>by cases e
 | _,_,_,.cons (.lst _ _ _) _,e=>by cases e
 | _,_,_,.cons (.dct _ _) _,e=>by cases e
def ZG6:W->W->G->Option (W × G)
 | .dat (.int i),.dat (.int j),g=>some (.dat (.bool (decide (i < j))),g)
 | .dat (.tuple xs),.dat (.tuple ys),g=>(ZBg xs).bind λ ns=>(ZBg ys).map λ ms=>(.dat (.bool (HT.lexLt ns ms)),g)
 | .dat (.str a),.dat (.str b),g=>some (.dat (.bool (decide (a.cps.toList < b.cps.toList))),g)
 | _,_,_=>none
def ZN4:W->W->G->Option (W × G)
 | .dat (.int i),.dat (.int j),g=>some (.dat (.bool (decide (j < i))),g)
 | .dat (.tuple xs),.dat (.tuple ys),g=>(ZBg xs).bind λ ns=>(ZBg ys).map λ ms=>(.dat (.bool (HT.lexGt ns ms)),g)
 | _,_,_=>none
def ZOO:W->W->G->Option (W × G)
 | .dat (.int i),.dat (.int j),g=>some (.dat (.bool (decide (j<=i))),g)
 | .dat (.tuple xs),.dat (.tuple ys),g=>(ZBg xs).bind λ ns=>(ZBg ys).map λ ms=>(.dat (.bool (HT.lexGe ns ms)),g)
 | _,_,_=>none
def ZLe:W->W->G->Option (W × G)
 | .dat (.int i),.dat (.int j),g=>some (.dat (.bool (decide (i<=j))),g)
 | _,_,_=>none
section
variable {X:Cx}
theorem oLt (hu:X.A.units+64 < cLine):OpR X (compareOp .Lt) (rOp X.K ZG6):=by
 intro pins s σ H x y v u Q I rx ry h
 obtain ⟨ρ,a,b,g,z,g',hR,ra,rb,e,q⟩:=h
 cases ra with
 | dat ra =>
  cases rb with
  | dat rb =>
   cases ra with
   | int i =>
    cases rb with
    | int j=>cases e; exact op_lt pins s σ H _ _ v u Q I rx ry ⟨i,j,rfl,rfl,q.at hR (.dat (.bl _))⟩
    | _=>cases e
   | str i =>
    cases rb with
    | str j=>cases e; exact ZLl pins s σ H _ _ v u Q I rx ry ⟨i,j,rfl,rfl,q.at hR (.dat (.bl _))⟩
    | _=>cases e
   | tup f1 t1 =>
    cases rb with
    | tup f2 t2 =>
     obtain ⟨ns,e1,e⟩:=bnd e
     obtain ⟨ms,e2,e⟩:=mp e
     cases e
     have i1:=ZAt t1 e1
     have i2:=ZAt t2 e2
     subst i1 i2
     exact ZQ7 (by omega) pins s σ H _ _ v u Q I rx ry ⟨_,_,ns,ms,rfl,rfl,f1.sq,f2.sq,q.at hR (.dat (.bl _))⟩
    | _=>cases e
   | _=>cases e
  | _=>cases ra <;> cases e
 | _=>cases e
theorem oGt (hu:X.A.units+64 < cLine):OpR X (compareOp .Gt) (rOp X.K ZN4):=by
 intro pins s σ H x y v u Q I rx ry h
 obtain ⟨ρ,a,b,g,z,g',hR,ra,rb,e,q⟩:=h
 cases ra with
 | dat ra =>
  cases rb with
  | dat rb =>
   cases ra with
   | int i =>
    cases rb with
    | int j=>cases e; exact op_gt pins s σ H _ _ v u Q I rx ry ⟨i,j,rfl,rfl,q.at hR (.dat (.bl _))⟩
    | _=>cases e
   | tup f1 t1 =>
    cases rb with
    | tup f2 t2 =>
     obtain ⟨ns,e1,e⟩:=bnd e
     obtain ⟨ms,e2,e⟩:=mp e
     cases e
     have i1:=ZAt t1 e1
     have i2:=ZAt t2 e2
     subst i1 i2
     exact ZQd (by omega) pins s σ H _ _ v u Q I rx ry ⟨_,_,ns,ms,rfl,rfl,f1.sq,f2.sq,q.at hR (.dat (.bl _))⟩
    | _=>cases e
   | _=>cases e
  | _=>cases ra <;> cases e
 | _=>cases e
theorem oGe (hu:X.A.units+64 < cLine):OpR X (compareOp .GtE) (rOp X.K ZOO):=by
 intro pins s σ H x y v u Q I rx ry h
 obtain ⟨ρ,a,b,g,z,g',hR,ra,rb,e,q⟩:=h
 cases ra with
 | dat ra =>
  cases rb with
  | dat rb =>
   cases ra with
   | int i =>
    cases rb with
    | int j=>cases e; exact op_ge pins s σ H _ _ v u Q I rx ry ⟨i,j,rfl,rfl,q.at hR (.dat (.bl _))⟩
    | _=>cases e
   | tup f1 t1 =>
    cases rb with
    | tup f2 t2 =>
     obtain ⟨ns,e1,e⟩:=bnd e
     obtain ⟨ms,e2,e⟩:=mp e
     cases e
     have i1:=ZAt t1 e1
     have i2:=ZAt t2 e2
     subst i1 i2
     exact ZRH (by omega) pins s σ H _ _ v u Q I rx ry ⟨_,_,ns,ms,rfl,rfl,f1.sq,f2.sq,q.at hR (.dat (.bl _))⟩
    | _=>cases e
   | _=>cases e
  | _=>cases ra <;> cases e
 | _=>cases e
theorem oLe:OpR X (compareOp .LtE) (rOp X.K ZLe):=by
 intro pins s σ H x y v u Q I rx ry h
 obtain ⟨ρ,a,b,g,z,g',hR,ra,rb,e,q⟩:=h
 cases ra with
 | dat ra =>
  cases rb with
  | dat rb =>
   cases ra with
   | int i =>
    cases rb with
    | int j=>cases e; exact op_le pins s σ H _ _ v u Q I rx ry ⟨i,j,rfl,rfl,q.at hR (.dat (.bl _))⟩
    | _=>cases e
   | _=>cases e
  | _=>cases ra <;> cases e
 | _=>cases e
def Zf:W->W->G->Option (W × G)
 | .dat (.tuple ds),.dat (.int i),g=>(atI ds i).map λ d=>(.dat d,g)
 | .inp ns,.dat (.int i),g=>(atI ns i).map λ d=>(.dat (.int d),g)
 | .tup ws,.dat (.int i),g=>(atI ws i).map λ w=>(w,g)
 | .ref n,.dat (.int i),g=>match g[n]? with
  | some (.pl ds)=>(atI ds i).map λ d=>(.dat d,g)
  | some (.rl ws)=>(atI ws i).map λ w=>(w,g)
  | _=>none
 | a,.dat (.int i),g=>(ZBn a g).bind λ ds=>(atI ds i).map λ d=>(.dat d,g)
 | _,_,_=>none
theorem ZH2 {K:PySem.W.Frag} {ρ : Rh} {H:Hp} {vs:List V} {ds:List PyData} {i:Int} {d:PyData} (t:RelDL K ρ H vs ds) (e:atI ds i=some d):∃ v,atI vs i=some v/\RelD K ρ H v d:=by
 unfold atI at *
 rw [t.length]
 obtain ⟨j,e1,e2⟩:=bnd e
 rw [e1]
 exact t.getD e2
theorem ZJ0 {K:PySem.W.Frag} {ρ : Rh} {H:Hp} {vs:List V} {ds:List W} {i:Int} {d:W} (t:RelL K ρ H vs ds) (e:atI ds i=some d):∃ v,atI vs i=some v/\Rel K ρ H v d:=by
 unfold atI at *
 rw [t.length]
 obtain ⟨j,e1,e2⟩:=bnd e
 rw [e1]
 exact t.getD e2
theorem oIx:IxR X (rOp X.K Zf):=by
 intro value slice pins s σ H x y v u Q I rx ry h hs
 obtain ⟨ρ,a,b,g,z,g',hR,ra,rb,e,q⟩:=h
 cases rb with
 | dat rb =>
  cases rb with
  | int i =>
   have lists:((ZBn a g).bind λ ds=>(atI ds i).map λ d=>(W.dat d,g))=some (z,g')->wpAny (model X.prog X.w) X.A (subscriptTail value slice v u) (EP X pins σ Q) X.xe s:=λ e=>by
    obtain ⟨xs,e1,e⟩:=bnd e
    obtain ⟨d,e2,e⟩:=mp e
    cases e
    obtain ⟨l,vs,rfl,h1,t1⟩:=ZAm hR ra e1
    obtain ⟨w,e3,r3⟩:=ZH2 t1 e2
    exact ZFC value slice pins s σ H _ _ v u Q I rx ry ⟨l,vs,i,w,rfl,rfl,SqL.of h1,e3,q.at hR (.dat r3)⟩ hs
   cases ra with
   | @ref a n h =>
    change (match g[n]? with | some (.pl ds)=>(atI ds i).map λ d=>(W.dat d,g) | some (.rl ws)=>(atI ws i).map λ w=>(w,g) | _=>none)=some (z,g') at e
    split at e
    ·rename_i ds e1
     obtain ⟨d,e2,e⟩:=mp e
     cases e
     obtain ⟨a',vs,k1,k2,k3⟩:=hR.at_ _ _ e1
     rw [h] at k1
     cases k1
     obtain ⟨w,e3,r3⟩:=ZH2 k3 e2
     exact ZFC value slice pins s σ H _ _ v u Q I rx ry ⟨a,vs,i,w,rfl,rfl,SqL.of k2,e3,q.at hR (.dat r3)⟩ hs
    ·rename_i ws e1
     obtain ⟨d,e2,e⟩:=mp e
     cases e
     obtain ⟨a',k1,vs,k2,k3⟩:=hR.ce _ _ e1
     rw [h] at k1
     cases k1
     obtain ⟨w,e3,r3⟩:=ZJ0 k3 e2
     exact ZFC value slice pins s σ H _ _ v u Q I rx ry ⟨a,vs,i,w,rfl,rfl,SqL.of k2,e3,q.at hR r3⟩ hs
    ·cases e
   | ty=>exact lists e
   | tup f t =>
    obtain ⟨d,e2,e⟩:=mp e
    cases e
    obtain ⟨w,e3,r3⟩:=ZJ0 t e2
    exact ZM5 value slice pins s σ H _ _ v u Q I rx ry ⟨_,_,i,w,rfl,rfl,f.sq,e3,q.at hR r3⟩ hs
   | @inp a ns h =>
    obtain ⟨d,e2,e⟩:=mp e
    cases e
    refine ZFC value slice pins s σ H _ _ v u Q I rx ry ⟨a,_,i,.int d,rfl,rfl,h.sq,?_,q.at hR (.dat (.int _))⟩ hs
    unfold atI at *
    rw [List.length_map]
    obtain ⟨j,e1,e2⟩:=bnd e2
    rw [e1]
    show (ns.map V.int)[j]? = _
    rw [List.getElem?_map,e2]
    rfl
   | dat ra =>
    cases ra with
    | tup f t =>
     obtain ⟨d,e2,e⟩:=mp e
     cases e
     obtain ⟨w,e3,r3⟩:=ZH2 t e2
     exact ZM5 value slice pins s σ H _ _ v u Q I rx ry ⟨_,_,i,w,rfl,rfl,f.sq,e3,q.at hR (.dat r3)⟩ hs
    | lst h n t=>exact lists e
    | _=>exact lists e
  | _=>cases ra with
   | dat ra=>cases ra <;> cases e
   | _=>cases e
 | _=>cases ra with
  | dat ra=>cases ra <;> cases e
  | _=>cases e
abbrev DO:=Sd->G->Option (Option Int × G)
def tO (K:PySem.W.Frag) (d:DO):TO:=λ σ H Q=>∃ ρ sd g i g',Rst K ρ H σ sd g/\d sd g=some (i,g')/\∀ H' ρ',Stp ρ H ρ' H'->HR K ρ' H' g'->Q i H'
theorem PO.imp {e:Option Expr} {t u:TO} (h:PO X e t) (k:∀ σ H Q,u σ H Q->t σ H Q):PO X e u:=λ pins s σ H Q I q=>h pins s σ H Q I (k σ H Q q)
def ZCT:DO:=λ _ g=>some (none,g)
def ZEN (d:DE):DO:=λ sd g=>(d sd g).bind λ p=>match p.1 with | .dat (.int i)=>some (some i,p.2) | _=>none
theorem ZOj:PO X none (tO X.K ZCT):=ZPh.imp λ σ H Q ⟨ρ,sd,g,i,g',r,e,q⟩=>by
 cases e
 exact q H ρ .refl r.hr
theorem ZOD {e:Expr} {d:DE} (h:PE X e (tE X.K d)):PO X (some e) (tO X.K (ZEN d)):=(ZOu h).imp λ σ H Q ⟨ρ,sd,g,i,g',r,e,q⟩=>by
 obtain ⟨⟨x,g1⟩,e1,e⟩:=bnd e
 refine ⟨ρ,sd,g,x,g1,r,e1,λ v H1 ρ1 s1 h1 r1=>?_⟩
 cases r1 with
 | dat r1 =>
  cases r1 with
  | int j=>cases e; exact ⟨j,rfl,q H1 ρ1 s1 h1⟩
  | _=>cases e
 | _=>cases e
def ZCc {α : Type} (xs:List α) (lo hi:Option Int):List α:=(xs.drop (HT.sIx xs.length 0 lo)).take (HT.sIx xs.length xs.length hi - HT.sIx xs.length 0 lo)
def slO (w:W) (lo hi:Option Int) (g:G):Option (W × G):=match w with
 | .dat (.tuple ds)=>some (.dat (.tuple (ZCc ds lo hi)),g)
 | .inp ns=>some (.dat (.list (ZCc (ns.map .int) lo hi)),g)
 | w=>(ZBn w g).map λ ds=>(.dat (.list (ZCc ds lo hi)),g)
def dSl (d:DE) (l h:DO):DE:=λ sd g=>(d sd g).bind λ p=>(l sd p.2).bind λ a=>(h sd a.2).bind λ b=>slO p.1 a.1 b.1 b.2
theorem ZIZ {K:PySem.W.Frag} {ρ : Rh} {H:Hp} {vs:List V} {ds:List PyData} (t:RelDL K ρ H vs ds) (lo hi:Option Int):RelDL K ρ H (ZIx vs lo hi) (ZCc ds lo hi):=by
 unfold ZIx ZCc
 rw [t.length]
 exact (t.drop _).take _
theorem ZRy:SlR X (λ x lo hi H Q=>∃ ρ w g z g',HR X.K ρ H g/\Rel X.K ρ H x w/\slO w lo hi g=some (z,g')/\Pv X.K ρ H z g' Q):=by
 intro pins s σ H x v vl vu lo hi sl Q I rx hs pl pu h
 obtain ⟨ρ,w,g,z,g',hR,rw_,e,q⟩:=h
 have lists:((ZBn w g).map λ ds=>(W.dat (.list (ZCc ds lo hi)),g))=some (z,g')->∃ T id,typeLookup (.type T) "__getitem__" = pure (some (.builtin id))/\s.TypeIs v T/\wpAny (model X.prog X.w) X.A (getItem v (.ref sl)) (EP X pins σ Q) X.xe s:=λ e=>by
  obtain ⟨ds,e1,e⟩:=mp e
  cases e
  obtain ⟨l,vs,rfl,h1,t1⟩:=ZAm hR rw_ e1
  exact ZLI pins s σ H _ v vl vu lo hi sl Q I rx hs pl pu ⟨l,vs,rfl,SqL.of h1,λ p hp=>q.new hR (ZIZ t1 lo hi) hp⟩
 cases rw_ with
 | ref h=>exact lists e
 | ty=>exact lists e
 | tup _ _=>exact lists e
 | inp h =>
  cases e
  exact ZLI pins s σ H _ v vl vu lo hi sl Q I rx hs pl pu ⟨_,_,rfl,h.sq,λ p hp=>q.new hR (ZIZ RelDL.ofInts lo hi) hp⟩
 | dat r =>
  cases r with
  | @tup a xs ds f t =>
   cases e
   refine ZPl pins s σ H _ v vl vu lo hi sl Q I rx hs pl pu ⟨_,_,rfl,f.sq,λ hw=>?_,λ _ p hp=>q.newT hR (ZIZ t lo hi) hp⟩
   refine q.at hR (.dat ?_)
   have e:ZCc ds lo hi=ds:=by
    unfold ZCc
    rw [← t.length,hw.1,hw.2,t.length]
    simp
   rw [e]
   exact .tup f t
  | lst h n t=>exact lists e
  | _=>exact lists e
theorem de_sl {e:Expr} {lo hi:Option Expr} {d:DE} {l h:DO} {pos p2:Pos} (he:PE X e (tE X.K d)) (hl:PO X lo (tO X.K l)) (hh:PO X hi (tO X.K h)):PE X (.Subscript e (.Slice lo hi none p2) pos) (tE X.K (dSl d l h)):=(ZNF ZRy he hl hh).imp λ σ H Q ⟨ρ,sd,g,x,g',r,e,q⟩=>by
 obtain ⟨⟨y,g1⟩,e1,e⟩:=bnd e
 obtain ⟨⟨i,g2⟩,e2,e⟩:=bnd e
 obtain ⟨⟨j,g3⟩,e3,e⟩:=bnd e
 refine ⟨ρ,sd,g,y,g1,r,e1,λ v H1 ρ1 s1 h1 r1=>⟨ρ1,sd,g1,i,g2,r.step s1 h1,e2,λ H2 ρ2 s2 h2=>⟨ρ2,sd,g2,j,g3,r.step (s1.trans s2) h2,e3,λ H3 ρ3 s3 h3=>?_⟩⟩⟩
 exact ⟨ρ3,y,g3,x,g',h3,r1.mono (s2.trans s3),e,q.step (s1.trans (s2.trans s3))⟩
end
end L2
namespace L2
open PySem PySem.Spec PyProof.Rows H1
def f1 (f:W->G->Option (W × G)):List W->G->Option (W × G)
 | [w],g=>f w g
 | _,_=>none
def ZCL:W->G->Option (W × G)
 | .dat (.tuple ds),g=>some (.dat (.int (ds.length:Int)),g)
 | .inp ns,g=>some (.dat (.int (ns.length:Int)),g)
 | .ref n,g=>match g[n]? with
  | some (.pl ds)=>some (.dat (.int (ds.length:Int)),g)
  | some (.rl ws)=>some (.dat (.int (ws.length:Int)),g)
  | _=>none
 | w,g=>(ZBn w g).map λ ds=>(.dat (.int (ds.length:Int)),g)
def ZKn:W->G->Option (W × G)
 | .dat (.int i),g=>some (.dat (.int i),g)
 | .dat (.bool b),g=>some (.dat (.int (if b=true then 1 else 0)),g)
 | _,_=>none
def ZRp:W->G->Option (W × G)
 | .dat (.int i),g=>some (.dat (.int (if i < 0 then -i else i)),g)
 | _,_=>none
def ZDE:W->G->Option (W × G)
 | .dat (.tuple ds),g=>some (.dat (.tuple ds),g)
 | w,g=>(ZBn w g).map λ ds=>(.dat (.tuple ds),g)
def ZRL:W->G->Option (W × G)
 | w,g=>(ZMa w g).map λ ds=>(.dat (.list ds),g)
def ZDS:List PyData->Option (List Bool)
 | []=>some []
 | .bool i :: r=>(ZDS r).map λ ns=>i :: ns
 | _ :: _=>none
def ZFt (w:W) (g:G):Option (W × G):=(ZBn w g).bind λ ds=>(ZDS ds).map λ bs=>(.dat (.bool (bs.all id)),g)
def ZSD (w:W) (g:G):Option (W × G):=(ZBn w g).bind λ ds=>(ZDS ds).map λ bs=>(.dat (.bool (bs.any id)),g)
def ZSK:List W->G->Option (W × G)
 | [.dat (.int i),.dat (.int j)],g=>some (.dat (.int (if j < i then j else i)),g)
 | _,_=>none
def ZQj:PyData->String
 | .none=>"NoneType"
 | .bool _=>"bool"
 | .int _=>"int"
 | .str _=>"str"
 | .list _=>"list"
 | .tuple _=>"tuple"
 | .dict _=>"dict"
def ZF0:List W->G->Option (W × G)
 | [.dat d,.ty T],g=>if T = "int" ∨ T = "bool" ∨ T = "tuple" ∨ T = "str" then some (.dat (.bool (isi (ZQj d) T)),g) else none
 | _,_=>none
section
variable {X:Cx}
theorem c1 {f:Value} {fn:W->G->Option (W × G)} {r:List V->Hp->VK->Prop} (h:Z3 X f r) (k:∀ ρ H g x w z g' Q,HR X.K ρ H g->Rel X.K ρ H x w->fn w g=some (z,g')->Pv X.K ρ H z g' Q->r [x] H Q):Z3 X f (rF X.K (f1 fn)):=h.imp λ xs H Q ⟨ρ,ws,g,z,g',hR,rl,e,q⟩=>by
 cases rl with
 | nil=>cases e
 | cons r1 t =>
  cases t with
  | nil=>exact k ρ H g _ _ z g' Q hR r1 e q
  | cons _ _=>cases e
theorem ZCf:Z3 X (.builtin "len") (rF X.K (f1 ZCL)):=c1 ZIt λ ρ H g x w z g' Q hR r e q=>by
 have lists:((ZBn w g).map λ ds=>(W.dat (.int (ds.length:Int)),g))=some (z,g')->∃ p ys,[x]=[V.ref p]/\(SqL X.K H p ys ∨ SqT X.K H p ys)/\Q (.int ys.length) H:=λ e=>by
  obtain ⟨ds,e1,e⟩:=mp e
  cases e
  obtain ⟨l,vs,rfl,h1,t1⟩:=ZAm hR r e1
  exact ⟨l,vs,rfl,.inl (SqL.of h1),q.at hR (by rw [t1.length]; exact .dat (.int _))⟩
 cases r with
 | @ref a n h =>
  change (match g[n]? with | some (.pl ds)=>some (W.dat (.int (ds.length:Int)),g) | some (.rl ws)=>some (W.dat (.int (ws.length:Int)),g) | _=>none)=some (z,g') at e
  split at e
  ·rename_i ds e1
   cases e
   obtain ⟨a',vs,k1,k2,k3⟩:=hR.at_ _ _ e1
   rw [h] at k1
   cases k1
   exact ⟨a,vs,rfl,.inl (SqL.of k2),q.at hR (by rw [k3.length]; exact .dat (.int _))⟩
  ·rename_i ds e1
   cases e
   obtain ⟨a',k1,vs,k2,k3⟩:=hR.ce _ _ e1
   rw [h] at k1
   cases k1
   exact ⟨a,vs,rfl,.inl (SqL.of k2),q.at hR (by rw [k3.length]; exact .dat (.int _))⟩
  ·cases e
 | ty=>exact lists e
 | tup _ _=>exact lists e
 | inp h=>cases e; exact ⟨_,_,rfl,.inl h.sq,q.at hR (by rw [List.length_map]; exact .dat (.int _))⟩
 | dat r =>
  cases r with
  | tup f t=>cases e; exact ⟨_,_,rfl,.inr f.sq,q.at hR (by rw [t.length]; exact .dat (.int _))⟩
  | lst h n t=>exact lists e
  | _=>exact lists e
theorem ZMI:Z3 X (.type "int") (rF X.K (f1 ZKn)):=c1 ZMR λ ρ H g x w z g' Q hR r e q=>by
 cases r with
 | dat r =>
  cases r with
  | int i=>cases e; exact .inl ⟨i,rfl,q.at hR (.dat (.int _))⟩
  | bl b=>cases e; exact .inr ⟨b,rfl,q.at hR (.dat (.int _))⟩
  | _=>cases e
 | _=>cases e
theorem ZSM:Z3 X (.builtin "abs") (rF X.K (f1 ZRp)):=c1 ZNm λ ρ H g x w z g' Q hR r e q=>by
 cases r with
 | dat r =>
  cases r with
  | int i=>cases e; exact ⟨i,rfl,q.at hR (.dat (.int _))⟩
  | _=>cases e
 | _=>cases e
theorem ZEH:Z3 X (.type "tuple") (rF X.K (f1 ZDE)):=c1 ZHS λ ρ H g x w z g' Q hR r e q=>by
 have lists:((ZBn w g).map λ ds=>(W.dat (.tuple ds),g))=some (z,g')->∃ p ys,[x]=[V.ref p]/\((SqL X.K H p ys/\∀ l,H l=none->Q (.ref l) (upd H l (.tup ys))) ∨ (SqT X.K H p ys/\Q (.ref p) H)):=λ e=>by
  obtain ⟨ds,e1,e⟩:=mp e
  cases e
  obtain ⟨l,vs,rfl,h1,t1⟩:=ZAm hR r e1
  exact ⟨l,vs,rfl,.inl ⟨SqL.of h1,λ p hp=>q.newT hR t1 hp⟩⟩
 cases r with
 | ref h=>exact lists e
 | ty=>exact lists e
 | tup _ _=>exact lists e
 | inp h=>exact lists e
 | dat r =>
  cases r with
  | tup f t=>cases e; exact ⟨_,_,rfl,.inr ⟨f.sq,q.at hR (.dat (.tup f t))⟩⟩
  | lst h n t=>exact lists e
  | _=>exact lists e
theorem ZNW {K:PySem.W.Frag} {ρ : Rh} {H:Hp} {g:G} {v:V} {w:W} {ds:List PyData} (hR:HR K ρ H g) (r:Rel K ρ H v w) (e:ZMa w g=some ds):∃ a vs,v=.ref a/\(SqL K H a vs ∨ SqT K H a vs)/\RelDL K ρ H vs ds:=by
 have lists:ZBn w g=some ds->∃ a vs,v=.ref a/\(SqL K H a vs ∨ SqT K H a vs)/\RelDL K ρ H vs ds:=λ e=>by
  obtain ⟨l,vs,rfl,h1,t1⟩:=ZAm hR r e
  exact ⟨l,vs,rfl,.inl (SqL.of h1),t1⟩
 cases r with
 | ref h=>exact lists e
 | ty=>exact lists e
 | tup _ _=>exact lists e
 | inp h=>exact lists e
 | dat r =>
  cases r with
  | tup f t=>cases e; exact ⟨_,_,rfl,.inr f.sq,t⟩
  | lst h n t=>exact lists e
  | _=>exact lists e
theorem cLis:Z3 X (.type "list") (rF X.K (f1 ZRL)):=c1 ZIM λ ρ H g x w z g' Q hR r e q=>by
 obtain ⟨ds,e1,e⟩:=mp e
 cases e
 obtain ⟨l,vs,rfl,h1,t1⟩:=ZNW hR r e1
 exact ⟨l,vs,rfl,h1,λ p hp=>q.new hR t1 hp⟩
theorem ZDx {K:PySem.W.Frag} {ρ : Rh} {H:Hp}:∀ {vs:List V} {ds:List PyData} {ns:List Bool},RelDL K ρ H vs ds->ZDS ds=some ns->vs=ns.map V.bl
 | _,_,_,.nil,e=>by cases e; rfl
 | _,_,_,.cons (.bl i) t,e=>by
  obtain ⟨ms,e1,rfl⟩:=mp e
  rw [ZDx t e1]
  rfl
 | _,_,_,.cons .non _,e=>by cases e
 | _,_,_,.cons (.int _) _,e=>by cases e
 | _,_,_,.cons (.str _) _,e=>by cases e
 | _,_,_,.cons (.tup _ _) _,e=>by cases e
 | _,_,_,.cons (.lst _ _ _) _,e=>by cases e
 | _,_,_,.cons (.dct _ _) _,e=>by cases e
theorem ZML (hc:X.calm=true):Z3 X (.builtin "all") (rF X.K (f1 ZFt)):=c1 (ZMr hc) λ ρ H g x w z g' Q hR r e q=>by
 obtain ⟨ds,e1,e⟩:=bnd e
 obtain ⟨bs,e2,e⟩:=mp e
 cases e
 obtain ⟨l,vs,rfl,h1,t1⟩:=ZAm hR r e1
 have:=ZDx t1 e2
 subst this
 exact ⟨l,bs,rfl,SqL.of h1,q.at hR (.dat (.bl _))⟩
theorem cMin (hc:X.calm=true):Z3 X (.builtin "min") (rF X.K ZSK):=(ZMX hc).imp λ xs H Q ⟨ρ,ws,g,z,g',hR,rl,e,q⟩=>by
 cases rl with
 | nil=>cases e
 | cons r1 t =>
  cases t with
  | nil=>cases r1 with
   | dat r1=>cases r1 <;> cases e
   | _=>cases e
  | cons r2 t =>
   cases r1 with
   | dat r1 =>
    cases r1 with
    | int i =>
     cases r2 with
     | dat r2 =>
      cases r2 with
      | int j =>
       cases t with
       | nil=>cases e; exact ⟨i,j,rfl,q.at hR (.dat (.int _))⟩
       | cons _ _=>cases e
      | _=>cases e
     | _=>cases e
    | _=>cases e
   | _=>cases e
theorem kd_of {K:PySem.W.Frag} {ρ : Rh} {H:Hp} {v:V} {d:PyData} (r:RelD K ρ H v d):Kd K H v (ZQj d):=by
 cases r with
 | non=>exact .non
 | bl b=>exact .bl b
 | int i=>exact .int i
 | str x=>exact .str x
 | tup f t=>exact .tup f.sq
 | lst h n t=>exact .lst h
 | dct h n=>exact .dct h
theorem ZGy:Z3 X (.builtin "isinstance") (rF X.K ZF0):=ZMJ.imp λ xs H Q ⟨ρ,ws,g,z,g',hR,rl,e,q⟩=>by
 cases rl with
 | nil=>cases e
 | cons r1 t =>
  cases r1 with
  | dat r1 =>
   cases t with
   | nil=>cases e
   | cons r2 t =>
    cases r2 with
    | @ty T =>
     cases t with
     | nil =>
      change (if T = "int" ∨ T = "bool" ∨ T = "tuple" ∨ T = "str" then some (W.dat (.bool (isi (ZQj _) T)),g) else none)=some (z,g') at e
      split at e
      ·rename_i hz
       cases e
       exact ⟨_,T,_,rfl,kd_of r1,hz,q.at hR (.dat (.bl _))⟩
      ·cases e
     | cons _ _=>cases e
    | _=>cases e
  | _=>cases e
theorem de_ty {x:Str} {n:String} {pos:Pos} (hg:Gl X x) (hm:X.mg x=none) (hv:bootBuiltins x=some (.type n)) (hn:x ≠ "__name__":=by decide) (hd:(x == ("__debug__" : Str))=false:=by decide):PE X (.Name x pos) (tE X.K λ _ g=>some (.ty n,g)):=(ZPp (v:=.ty n) hg hm hv rfl hn hd).imp λ σ H Q ⟨ρ,sd,g,y,g',hr,e,q⟩=>by
 cases e
 exact q _ H ρ .refl hr.hr .ty
end
end L2
namespace L2
open PySem PySem.Spec PyProof.Rows H1
def ZNi (ns:List Int):List Int:=ns.mergeSort λ a b=>decide (a<=b)
theorem ZMg {ns ms:List Int} (pm:ms.Perm ns) (pw:ms.Pairwise (· <= ·)):ms=ZNi ns:=by
 refine List.Perm.eq_of_pairwise (le:=λ a b:Int=>a<=b) (λ a b _ _ h1 h2=>Int.le_antisymm h1 h2) pw ?_ (pm.trans (List.mergeSort_perm _ _).symm)
 refine List.Pairwise.imp (λ {a b} h=>of_decide_eq_true h) (List.pairwise_mergeSort (le:=λ a b:Int=>decide (a<=b)) (λ a b c h1 h2=>?_) (λ a b=>?_) ns)
 ·exact decide_eq_true (Int.le_trans (of_decide_eq_true h1) (of_decide_eq_true h2))
 ·rw [Bool.or_eq_true,decide_eq_true_iff,decide_eq_true_iff]
  exact Int.le_total a b
def ZCx (ks:List (Int × Int)):List (Int × Int):=ks.mergeSort λ a b=>!gtW a b
theorem ZM0 {ks js:List (Int × Int)} (pm:js.Perm ks) (pw:js.Pairwise (λ a b=>gtW b a=true)):js=ZCx ks:=by
 have ha:∀ a b:Int × Int,(!gtW a b)=true ↔ a.1 < b.1 ∨ (a.1=b.1/\a.2<=b.2):=λ a b=>by
  rw [Bool.not_eq_true',← Bool.not_eq_true,ZA6]
  omega
 refine List.Perm.eq_of_pairwise (le:=λ a b:Int × Int=>(!gtW a b)=true) (λ a b _ _ h1 h2=>?_) (pw.imp λ {a b} h=>?_) ?_ (pm.trans (List.mergeSort_perm _ _).symm)
 ·rw [ha] at h1 h2
  exact Prod.ext (by omega) (by omega)
 ·rw [ha]
  rw [ZA6] at h
  omega
 ·refine List.pairwise_mergeSort (le:=λ a b=>!gtW a b) (λ a b c h1 h2=>?_) (λ a b=>?_) ks
  ·rw [ha] at *
   omega
  ·rw [Bool.or_eq_true,ha,ha]
   omega
def ZJ9:PyData->Option (Int × Int)
 | .tuple [.int i,.int j]=>some (i,j)
 | _=>none
theorem ZMM {d:PyData} {k:Int × Int} (h:ZJ9 d=some k):d=Zj k:=by
 unfold ZJ9 at h
 split at h
 ·cases h; rfl
 ·cases h
def pairsOf:List PyData->Option (List (Int × Int))
 | []=>some []
 | d :: r=>(ZJ9 d).bind λ k=>(pairsOf r).map λ ns=>k :: ns
theorem ZGP:∀ {ds:List PyData} {ks:List (Int × Int)},pairsOf ds=some ks->ds=ks.map Zj
 | [],_,e=>by cases e; rfl
 | d :: r,_,e=>by
  rw [pairsOf] at e
  obtain ⟨k,e0,e⟩:=bnd e
  obtain ⟨ms,e1,rfl⟩:=mp e
  rw [ZGP e1,ZMM e0]
  rfl
def ZMi (w:W) (g:G):Option (W × G):=(ZBn w g).bind λ ds=>match ZBg ds with
 | some ns=>if ns.length < 64 then some (.dat (.list ((ZNi ns).map .int)),g) else none
 | none=>(pairsOf ds).bind λ ks=>if ks.Nodup/\ks.length<=6 then some (.dat (.list ((ZCx ks).map Zj)),g) else none
section
variable {X:Cx} {pins:List (Addr × Obj)} {σ : St} {H:Hp} {s:Shared} {ρ : Rh}
theorem RelD.tupI {K:PySem.W.Frag} {v:V} {ds:List PyData} (h:RelD K ρ H v (.tuple ds)):∃ a xs,v=.ref a/\FzT K ρ H a xs/\RelDL K ρ H xs ds:=by
 cases h with
 | tup f t=>exact ⟨_,_,rfl,f,t⟩
theorem RelD.pairI {K:PySem.W.Frag} {v:V} {k:Int × Int} (h:RelD K ρ H v (Zj k)):∃ a,v=.ref a/\FzT K ρ H a [.int k.1,.int k.2]:=by
 obtain ⟨a,xs,rfl,f,t⟩:=RelD.tupI (ds:=[.int k.1,.int k.2]) h
 have:=RelDL.ints (ns:=[k.1,k.2]) t
 subst this
 exact ⟨a,rfl,f⟩
theorem ZL8 (I:Inv X pins σ H s):∀ {ks:List (Int × Int)} {ys:List V} {its:List Value},RelDL X.K ρ H ys (ks.map Zj)->Zs ys its->PairsIn s.heap its ks:=by
 intro ks
 induction ks with
 | nil =>
  intro ys its t r
  cases t
  cases r
  exact .nil
 | cons k ks ih =>
  intro ys its t r
  rw [List.map_cons] at t
  cases t with
  | cons t1 t2 =>
   obtain ⟨a,rfl,f⟩:=RelD.pairI t1
   cases r with
   | cons r1 r2 =>
    cases r1
    obtain ⟨i2,v,it,_⟩:=I.tuple f.sq
    cases v with
    | cons v1 v2=>cases v2 with
     | cons v2 v3 =>
      cases v3
      obtain ⟨t,rfl⟩:=v1
      obtain ⟨u,rfl⟩:=v2
      exact .cons it (ih t2 r2)
theorem ZQc {K:PySem.W.Frag}:∀ {ks:List (Int × Int)} {ys:List V},RelDL K ρ H ys (ks.map Zj)->∀ {i:Nat},i < ks.length->RelD K ρ H (ys.getD i .non) (Zj (ks.getD i (0,0))):=by
 intro ks
 induction ks with
 | nil=>intro ys t i z; exact absurd z (Nat.not_lt_zero _)
 | cons k ks ih =>
  intro ys t i z
  rw [List.map_cons] at t
  cases t with
  | cons t1 t2 =>
   cases i with
   | zero=>exact t1
   | succ i=>exact ih t2 (Nat.lt_of_succ_lt_succ z)
theorem ZJT {K:PySem.W.Frag} {ys:List V} {ks:List (Int × Int)} (t:RelDL K ρ H ys (ks.map Zj)):∀ {p:List Nat},(∀ i ∈ p,i < ks.length)->RelDL K ρ H (p.map λ i=>ys.getD i .non) ((p.map λ i=>ks.getD i (0,0)).map Zj)
 | [],_=>.nil
 | i :: p,h=>.cons (ZQc t (h i (List.mem_cons_self ..))) (ZJT t λ j hj=>h j (List.mem_cons_of_mem _ hj))
end
section
variable {X:Cx}
theorem ZH5:Z3 X (.builtin "sorted") (λ xs H Q=>∃ (ρ : Rh) (p:Addr) (ys:List V) (ks:List (Int × Int)),xs=[.ref p]/\SqL X.K H p ys/\RelDL X.K ρ H ys (ks.map Zj)/\ks.Nodup/\ks.length<=6/\∀ l (zs:List V) (js:List (Int × Int)),H l=none->RelDL X.K ρ H zs (js.map Zj)->js.Perm ks->js.Pairwise (λ a b=>gtW b a=true)->Q (.ref l) (upd H l (.lst zs))):=by
 intro pins s σ H xs us Q I r h
 obtain ⟨ρ,p,ys,ks,rfl,hq,ht,hn,h6,q⟩:=h
 obtain ⟨u,rfl,ru⟩:=ZC9 r
 cases ru
 obtain ⟨its,rv,pl,hz⟩:=I.list hq
 have hP:=ZL8 I ht rv
 have hyl:ys.length=ks.length:=by rw [ht.length,List.length_map]
 refine ZIP pl.isList hP hn h6 λ p hpp hps=>?_
 have hin:∀ i ∈ p,i < ks.length:=λ i hi=>List.mem_range.mp (hpp.mem_iff.mp hi)
 obtain ⟨e,he⟩:=sortedAll_at s.heap its (p.map λ i=>its.getD i Value.none).toArray
 have rv':=ZHc rv (p:=p) (λ i hi=>by rw [hyl]; exact hin i hi)
 have pm:(p.map λ i=>ks.getD i (0,0)).Perm ks:=by
  have:=hpp.map λ i=>ks.getD i (0,0)
  rw [ZCg] at this
  exact this
 refine ⟨.ref (s.heap.objs.size+1),_,I.laid (t':=s.toks) (λ b o e=>sortedAll_old e) (Nat.le_succ _) (o:=.lst (p.map λ i=>ys.getD i .non)) ⟨?_,_,e,rv',he⟩,rfl,q _ _ (p.map λ i=>ks.getD i (0,0)) (I.hok.fresh (Nat.le_succ _)) (ZJT ht hin) pm hps⟩
 rw [List.length_map,hpp.length_eq,List.length_range]
 exact Nat.le_of_lt (ZAC (by omega))
theorem cSrt:Z3 X (.builtin "sorted") (rF X.K (f1 ZMi)):=c1 (ZI8.or ZH5) λ ρ H g x w z g' Q hR r e q=>by
 obtain ⟨ds,e1,e⟩:=bnd e
 obtain ⟨l,vs,rfl,h1,t1⟩:=ZAm hR r e1
 cases hi:ZBg ds with
 | some ns =>
  rw [hi] at e
  have:=ZAt t1 hi
  subst this
  dsimp only at e
  split at e
  ·rename_i hz
   cases e
   refine .inl ⟨l,ns,rfl,SqL.of h1,hz,λ p ms hp pm pw=>?_⟩
   rw [ZMg pm pw]
   exact q.new hR RelDL.ofInts hp
  ·cases e
 | none =>
  rw [hi] at e
  obtain ⟨ks,e2,e'⟩:=bnd e
  have:=ZGP e2
  subst this
  clear e
  have e:=e'
  clear e'
  split at e
  ·rename_i hz
   cases e
   refine .inr ⟨ρ,l,vs,ks,rfl,SqL.of h1,t1,hz.1,hz.2,λ p zs js hp tz pm pw=>?_⟩
   rw [ZM0 pm pw] at tz
   exact q.new hR tz hp
  ·cases e
end
end L2
namespace L2
open PySem PySem.Spec PyProof.Rows H1
section
variable {X:Cx}
def isL (g:G) (n:Nat):Bool:=match g[n]? with | some (.pl _)=>true | some (.rl _)=>true | _=>false
theorem ZNz {g:G} {n:Nat} {ds:List PyData} (h:g[n]? = some (.pl ds)):isL g n=true:=by
 unfold isL
 rw [h]
theorem ZSA {K:PySem.W.Frag} {ρ : Rh} {H:Hp} {g:G} {n:Nat} {a:Addr} (h:isL g n=true) (hR:HR K ρ H g) (ha : ρ.c[n]? = some a):∃ vs,H a=some (.lst vs):=by
 unfold isL at h
 split at h
 ·rename_i ds e
  obtain ⟨b,h1,vs,h2,_⟩:=hR.ce _ _ e
  rw [ha] at h1
  cases h1
  exact ⟨vs,h2⟩
 ·rename_i ds e
  obtain ⟨b,h1,vs,h2,_⟩:=hR.ce _ _ e
  rw [ha] at h1
  cases h1
  exact ⟨vs,h2⟩
 ·cases h
def ZFu (dl d:DE):DE:=λ sd g=>(dl sd g).bind λ l=>match l.1 with
 | .ref n=>if isL l.2 n=true then (d sd l.2).bind λ p=>match p.1 with
  | .dat x=>match p.2[n]? with
   | some (.pl ds)=>if ds.length < 1000 then some (.dat .none,p.2.set n (.pl (ds ++ [x]))) else none
   | some (.rl ws)=>if ws.length < 1000 then some (.dat .none,p.2.set n (.rl (ws ++ [.dat x]))) else none
   | _=>none
  | x=>match p.2[n]? with
   | some (.rl ws)=>if ws.length < 1000 then some (.dat .none,p.2.set n (.rl (ws ++ [x]))) else none
   | _=>none
  else none
 | _=>none
theorem ZRj {o e:Expr} {dl d:DE} {apos cpos:Pos} (ho:PE X o (tE X.K dl)) (he:PE X e (tE X.K d)) (hbase:attributeBase o "append" X.env (eval o X.env)=eval o X.env:=by rfl)
  (hfew:((backTo cpos (starEach [e] X.env)).all (λ x=>!x.1) && (backToKw cpos (keywordEach [] X.env)).all (λ x=>x.1.isSome)
   && decide ([e].length+([]:List Keyword).length+(if ([]:List Keyword).isEmpty then 0 else 1) < 30))=true:=by rfl)
  (hline:(apos.endLine == cpos.line)=true:=by rfl) (hs:starEach [e] X.env=(false,eval e X.env) :: starEach [] X.env:=by rfl) (hplain:(backTo cpos (starEach [] X.env)).any (·.1)=false:=by rfl) :
  PE X (.Call (.Attribute o "append" apos) [e] [] cpos) (tE X.K (ZFu dl d)):=(pe_bm PySem.F.plainAttrs_list PySem.F.slot_list_append PySem.F.type_list_append ZHk ho (ZLT he ZMc hs) hbase hfew hline hs hplain).imp λ σ H Q ⟨ρ,sd,g,x,g',r,e,q⟩=>by
 obtain ⟨⟨y,g1⟩,e1,e⟩:=bnd e
 refine ⟨ρ,sd,g,y,g1,r,e1,λ v H1 ρ1 s1 h1 r1=>?_⟩
 cases r1 with
 | @ref la ln hn =>
  dsimp only at e
  split at e
  case isFalse=>cases e
  rename_i hil
  obtain ⟨⟨p,g2⟩,e2,e⟩:=bnd e
  have rich:∀ {H2:Hp} {ρ2:Rh} {v2:V} {ws:List W},Stp ρ1 H1 ρ2 H2->HR X.K ρ2 H2 g2->Rel X.K ρ2 H2 v2 p->g2[ln]? = some (.rl ws)->(if ws.length < 1000 then some (W.dat .none,g2.set ln (.rl (ws ++ [p]))) else none)=some (x,g')->∃ us,H2 la=some (.lst us)/\us.length < sizeLine/\Q .non (upd H2 la (.lst (us ++ [v2]))):=λ {H2 ρ2 v2 ws} s2 h2 r2 e3 e=>by
   split at e
   ·rename_i hz
    cases e
    obtain ⟨a',k1,us,k2,k3⟩:=h2.ce _ _ e3
    have hn2:=ZD7 s2 hn
    rw [hn2] at k1
    cases k1
    obtain ⟨hw,sw⟩:=h2.writeC hn2 (o:=.lst (us ++ [v2])) (c:=.rl (ws ++ [p])) (λ u e=>by rw [k2] at e; cases e; rfl) (λ s=>⟨_,Zt,(k3.append (.cons r2 .nil)).mono s⟩)
    exact ⟨us,k2,by rw [k3.length]; exact ZAC (by omega),q _ _ ρ2 (s1.trans (s2.trans sw)) hw (.dat .non)⟩
   ·cases e
  have plain:∀ {H2:Hp} {ρ2:Rh} {v2:V} {d:PyData} {ds:List PyData},Stp ρ1 H1 ρ2 H2->HR X.K ρ2 H2 g2->RelD X.K ρ2 H2 v2 d->g2[ln]? = some (.pl ds)->(if ds.length < 1000 then some (W.dat .none,g2.set ln (.pl (ds ++ [d]))) else none)=some (x,g')->∃ us,H2 la=some (.lst us)/\us.length < sizeLine/\Q .non (upd H2 la (.lst (us ++ [v2]))):=λ {H2 ρ2 v2 d ds} s2 h2 r2 e3 e=>by
   split at e
   ·rename_i hz
    cases e
    obtain ⟨a',us,k1,k2,k3⟩:=h2.at_ _ _ e3
    have hn2:=ZD7 s2 hn
    rw [hn2] at k1
    cases k1
    obtain ⟨hw,sw⟩:=h2.write hn2 k2 (k3.append (.cons r2 .nil))
    exact ⟨us,k2,by rw [k3.length]; exact ZAC (by omega),q _ _ ρ2 (s1.trans (s2.trans sw)) hw (.dat .non)⟩
   ·cases e
  have both:∀ {H2:Hp} {ρ2:Rh} {v2:V},Stp ρ1 H1 ρ2 H2->HR X.K ρ2 H2 g2->Rel X.K ρ2 H2 v2 p->∃ us,H2 la=some (.lst us)/\us.length < sizeLine/\Q .non (upd H2 la (.lst (us ++ [v2]))):=λ {H2 ρ2 v2} s2 h2 r2=>by
   have rest:∀ {w},p=w->(match g2[ln]? with | some (.rl ws)=>if ws.length < 1000 then some (W.dat .none,g2.set ln (.rl (ws ++ [w]))) else none | _=>none)=some (x,g')->∃ us,H2 la=some (.lst us)/\us.length < sizeLine/\Q .non (upd H2 la (.lst (us ++ [v2]))):=λ {w} ew e=>by
    split at e
    ·rename_i ws e3
     exact rich s2 h2 r2 e3 (by rw [ew]; exact e)
    ·cases e
   cases p with
   | dat d =>
    dsimp only at e
    cases r2 with
    | dat r2 =>
     split at e
     ·rename_i ds e3
      exact plain s2 h2 r2 e3 e
     ·rename_i ws e3
      exact rich s2 h2 (.dat r2) e3 e
     ·cases e
   | ref n=>exact rest rfl e
   | inp n=>exact rest rfl e
   | ty n=>exact rest rfl e
   | tup n=>exact rest rfl e
  obtain ⟨us0,h0⟩:=ZSA hil h1 hn
  refine ⟨.inl ⟨rfl,_,SqL.of h0⟩,ρ1,sd,g1,[p],g2,r.step s1 h1,by show (d sd g1).bind _=_; rw [e2]; rfl,λ vs H2 ρ2 s2 h2 r2=>?_⟩
  cases r2 with
  | cons r2 t =>
   cases t
   obtain ⟨us,k1,k2,k3⟩:=both s2 h2 r2
   exact ⟨_,us,_,rfl,rfl,k1,k2,k3⟩
 | dat r1=>cases r1 <;> cases e
 | _=>cases e
def ZKN (dl di d:DE):DS:=λ sd g=>(d sd g).bind λ v=>(dl sd v.2).bind λ l=>(di sd l.2).bind λ i=>match l.1,i.1,v.1 with
 | .ref n,.dat (.int k),.dat x=>match i.2[n]? with
  | some (.pl ds)=>(ixN ds.length k).map λ j=>.nx sd (i.2.set n (.pl (ds.set j x)))
  | some (.rl ws)=>(ixN ws.length k).map λ j=>.nx sd (i.2.set n (.rl (ws.set j (.dat x))))
  | _=>none
 | .ref n,.dat (.int k),x=>match i.2[n]? with
  | some (.rl ws)=>(ixN ws.length k).map λ j=>.nx sd (i.2.set n (.rl (ws.set j x)))
  | _=>none
 | _,_,_=>none
theorem ZQy {o i e:Expr} {dl di d:DE} {pos tpos:Pos} (he:PE X e (tE X.K d)) (ho:PE X o (tE X.K dl)) (hi:PE X i (tE X.K di)) (ha:∀ v,assign (.Subscript o i tpos) X.env v=(do
   let ov ← holding [v] (eval o X.env)
   let iv ← holding [v,ov] (eval i X.env)
   standAt tpos
   holding [v,ov,iv] (setItem ov iv v)
   release [v,ov,iv] []):=by intro _; rfl) (hs:swapsWithSole [.Subscript o i tpos] e pos.line X.env=pure false:=by rfl) (hw:swappedStores [.Subscript o i tpos] e X.env=pure none:=by rfl)
  (h1:(assignEach [.Subscript o i tpos] X.env).map (·.2)=[assign (.Subscript o i tpos) X.env]:=by rfl):PS X (.Assign [.Subscript o i tpos] e pos) (tS X.K (ZKN dl di d)):=(ZNt he (ZQ3 ho hi ZN3 ha) hs hw h1).imp λ D σ H ⟨ρ,sd,g,oo,r,e,q⟩=>by
 obtain ⟨⟨y,g1⟩,e1,e⟩:=bnd e
 obtain ⟨⟨l,g2⟩,e2,e⟩:=bnd e
 obtain ⟨⟨k,g3⟩,e3,e⟩:=bnd e
 refine ⟨ρ,sd,g,y,g1,r,e1,λ v H1 ρ1 s1 h1 r1=>⟨ρ1,sd,g1,l,g2,r.step s1 h1,e2,λ u H2 ρ2 s2 h2 r2=>⟨ρ2,sd,g2,k,g3,r.step (s1.trans s2) h2,e3,λ t H3 ρ3 s3 h3 r3=>?_⟩⟩⟩
 have r1':=(r1.mono s2).mono s3
 have r2':=r2.mono s3
 have sall:=s1.trans (s2.trans s3)
 cases r2' with
 | @ref la ln hn =>
  cases r3 with
  | dat r3 =>
   cases r3 with
   | int kk =>
    have rich:∀ {ws:List W},g3[ln]? = some (.rl ws)->((ixN ws.length kk).map λ j=>Out.nx sd (g3.set ln (.rl (ws.set j y))))=some oo->∃ p xs k n,V.ref la=V.ref p/\V.int kk=V.int k/\H3 p=some (.lst xs)/\ixN xs.length k=some n/\D.nx σ (upd H3 p (.lst (xs.set n v))):=λ {ws} e4 e=>by
     obtain ⟨j,e5,e⟩:=mp e
     cases e
     obtain ⟨a',k1,us,k2,k3⟩:=h3.ce _ _ e4
     rw [hn] at k1
     cases k1
     obtain ⟨hw,sw⟩:=h3.writeC hn (o:=.lst (us.set j v)) (c:=.rl (ws.set j y)) (λ u e=>by rw [k2] at e; cases e; rfl) (λ s=>⟨_,Zt,(k3.set r1' j).mono s⟩)
     exact ⟨_,us,kk,j,rfl,rfl,k2,by rw [k3.length]; exact e5,q σ _ ρ3 (sall.trans sw) (r.step (sall.trans sw) hw)⟩
    have rest:∀ {w},y=w->(match g3[ln]? with | some (.rl ws)=>((ixN ws.length kk).map λ j=>Out.nx sd (g3.set ln (.rl (ws.set j w)))) | _=>none)=some oo->∃ p xs k n,V.ref la=V.ref p/\V.int kk=V.int k/\H3 p=some (.lst xs)/\ixN xs.length k=some n/\D.nx σ (upd H3 p (.lst (xs.set n v))):=λ {w} ew e=>by
     split at e
     ·rename_i ws e4
      exact rich e4 (by rw [ew]; exact e)
     ·cases e
    cases y with
    | dat d =>
     dsimp only at e
     split at e
     ·rename_i ds e4
      obtain ⟨j,e5,e⟩:=mp e
      cases e
      obtain ⟨a',us,k1,k2,k3⟩:=h3.at_ _ _ e4
      rw [hn] at k1
      cases k1
      cases r1' with
      | dat r1' =>
       obtain ⟨hw,sw⟩:=h3.write hn k2 (k3.set r1' j)
       exact ⟨_,us,kk,j,rfl,rfl,k2,by rw [k3.length]; exact e5,q σ _ ρ3 (sall.trans sw) (r.step (sall.trans sw) hw)⟩
     ·rename_i ws e4
      exact rich e4 e
     ·cases e
    | ref n=>exact rest rfl e
    | inp n=>exact rest rfl e
    | ty n=>exact rest rfl e
    | tup n=>exact rest rfl e
   | _=>cases e
  | _=>cases e
 | dat r2=>cases e
 | _=>cases e
def ZNg (i j:Nat) (a:DA):DS:=λ sd g=>(a sd g).bind λ p=>match p.1 with | [x,y]=>some (.nx ((sd.set i (some x)).set j (some y)) p.2) | _=>none
theorem ZQI {i j:Nat} {aa:DA} {D:Ends} {σ : St} {H:Hp} (h:tS X.K (ZNg i j aa) D σ H):ZSC i j (tA X.K aa) D σ H:=by
 obtain ⟨ρ,sd,g,oo,r,e,q⟩:=h
 obtain ⟨⟨ws,g1⟩,e1,e⟩:=bnd e
 refine ⟨ρ,sd,g,ws,g1,r,e1,λ vs H1 ρ1 s1 h1 r1=>?_⟩
 cases r1 with
 | nil=>cases e
 | cons a t =>
  cases t with
  | nil=>cases e
  | cons b t =>
   cases t with
   | nil=>cases e; exact ⟨_,_,rfl,q _ H1 ρ1 s1 (((r.step s1 h1).set a i).set b j)⟩
   | cons _ _=>cases e
end
end L2
namespace L2
open PySem PySem.Spec PyProof.Rows H1
structure JE (X:Cx) (e:Expr) (d:DE):Prop where
 h:PE X e (tE X.K d)
structure JT (X:Cx) (e:Expr) (d:DB):Prop where
 h:PT X e (tT X.K d)
structure JW (X:Cx) (e:Expr) (d:DB):Prop where
 h:PW X e (tT X.K d)
structure JA (X:Cx) (e:List Expr) (d:DA):Prop where
 h:PA X e (tA X.K d)
structure JS (X:Cx) (e:Stmt) (d:DS):Prop where
 h:PS X e (tS X.K d)
structure JSs (X:Cx) (e:List Stmt) (d:DS):Prop where
 h:PSs X e (tS X.K d)
structure JG (X:Cx) (e:Expr) (d:Pat):Prop where
 h:PG X e (gP X.K d)
structure JGs (X:Cx) (e:List Expr) (d:Pats):Prop where
 h:PGs X e (gPs X.K d)
structure JI (X:Cx) (tg e:Expr) (d:DI):Prop where
 h:PI X tg e (tI X.K d)
structure JO (X:Cx) (e:Option Expr) (d:DO):Prop where
 h:PO X e (tO X.K d)
structure JTs (X:Cx) (e:List Expr) (d:DB):Prop where
 h:PTs X e (tT X.K d)
theorem JW.pt {X:Cx} {e:Expr} {d:DB} (j:JW X e d):JT X e d:=⟨j.h.pt⟩
section
variable {X:Cx} {a b c e:Expr} {es:List Expr} {da db dc d:DE} {ta tb:DB} {aa:DA} {pos p2:Pos} {f f':W->W->G->Option (W × G)}
theorem ZB (i:Nat) {x:Str} {pos:Pos} (hN:X.N[i]? = some x:=by rfl) (hv:Vis X.env.scope x:=by first | exact Or.inl rfl | exact Or.inr (Or.inl rfl) | exact Or.inr (Or.inr rfl)) (hd:(x == ("__debug__" : Str))=false:=by decide) (hcd:(x == ("__classdict__" : Str))=false:=by decide):JE X (.Name x pos) (ZD i):=⟨ZRg i hN hv hd hcd⟩
theorem ZG {i j pos}:JE X (.Constant (.int i) j pos) (dC (.int i)):=⟨ZRa ⟩
theorem Z6 {b j pos}:JE X (.Constant (.bool b) j pos) (dC (.bool b)):=⟨de_bl ⟩
theorem ZLJ {j pos}:JE X (.Constant .none j pos) (dC .none):=⟨ZQo ⟩
theorem ZA5 {x j pos}:JE X (.Constant (.str x) j pos) (dC (.str x)):=⟨ZQl ⟩
theorem ZAB {x:Str} {n:Int} (hg:Gl X x) (h:ZJO X.mg x n) (hd:(x == ("__debug__" : Str))=false:=by decide):JE X (.Name x pos) (dC (.int n)):=⟨ZNy hg h hd⟩
theorem ZW {op:Operator} (ho:OpR X (binaryOp op) (rOp X.K f)) (ha:JE X a da) (hb:JE X b db):JE X (.BinOp a op b pos) (dOp f da db):=⟨de_op ho ha.h hb.h⟩
theorem ZAF {op:CmpOp} (ho:OpR X (compareOp op) (rOp X.K f)) (ha:JE X a da) (hb:JE X b db) (hm:behindInMarks op b=false):JE X (.Compare a [op] [b] pos) (dOp f da db):=⟨ZQn ho ha.h hb.h hm⟩
theorem ZP (ho:IxR X (rOp X.K f)) (ha:JE X a da) (hb:JE X b db) (hs:ZFE b):JE X (.Subscript a b pos) (dOp f da db):=⟨de_ix ho ha.h hb.h hs⟩
theorem ZT {op:CmpOp} (ho:OpR X (compareOp op) (rOp X.K f)) (ha:JE X a da) (hb:JE X b db) (hm:behindInMarks op b=false):JT X (.Compare a [op] [b] pos) (dB (dOp f da db)):=⟨ZQE ho ha.h hb.h hm⟩
theorem Zp (h:JE X e d) (he:∀ whole,isTrue e X.env whole=(do let v ← whole; standAt e.pos; holding [v] (truthy v)):=by intro _; rfl):JT X e (dB d):=⟨ZRe h.h he⟩
theorem ZHp {op op':CmpOp} (ho:OpR X (compareOp op) (rOp X.K f)) (ho':OpR X (compareOp op') (rOp X.K f')) (ha:JE X a da) (hb:JE X b db) (hc:JE X c dc) (hm:lastMarks [op,op'] [b,c]=false:=by with_unfolding_all rfl):JE X (.Compare a [op,op'] [b,c] pos) (ZEA f f' da db dc):=⟨ZNO ho ho' ha.h hb.h hc.h hm⟩
theorem ZAJ (h:JT X a ta):JT X (.UnaryOp .Not a pos) (ZCB ta):=⟨ZQP h.h⟩
theorem ZAo (h:JT X a ta):JW X (.BoolOp .And [a] pos) ta:=⟨ZO6 h.h⟩
theorem ZBP (h:JT X a ta):JW X (.BoolOp .Or [a] pos) ta:=⟨ZQu h.h⟩
theorem ZAZ {rest:List Expr} (ha:JT X a ta) (hb:JW X (.BoolOp .And (b :: rest) pos) tb):JW X (.BoolOp .And (a :: b :: rest) pos) (ZCb ta tb):=⟨ZQO ha.h hb.h⟩
theorem ZBj {rest:List Expr} (ha:JT X a ta) (hb:JW X (.BoolOp .Or (b :: rest) pos) tb):JW X (.BoolOp .Or (a :: b :: rest) pos) (dOr ta tb):=⟨dw_or ha.h hb.h⟩
theorem ZA4 {op} (h:JE X a da):JE X (.BoolOp op [a] pos) da:=⟨ZQV h.h⟩
theorem ZA8 {rest:List Expr} (ha:JE X a da) (hb:JE X (.BoolOp .And (b :: rest) pos) db):JE X (.BoolOp .And (a :: b :: rest) pos) (ZBu da db):=⟨ZQf ha.h hb.h⟩
theorem ZN9 {rest:List Expr} (ha:JE X a da) (hb:JE X (.BoolOp .Or (b :: rest) pos) db):JE X (.BoolOp .Or (a :: b :: rest) pos) (ZKv da db):=⟨de_or ha.h hb.h⟩
theorem ZIn (ha:JE X a da):JE X (.UnaryOp .Not a pos) (ZG0 da):=⟨ZQU ha.h⟩
theorem ZE  : JA X [] ZK:=⟨ZMc ⟩
theorem ZA (ha:JE X e d) (hr:JA X es aa) (hs:starEach (e :: es) X.env=(false,eval e X.env) :: starEach es X.env:=by rfl):JA X (e :: es) (ZC d aa):=⟨ZLT ha.h hr.h hs⟩
theorem ZY {x1} (h:JA X es aa):JE X (.Tuple es x1 pos) (dF Z8 aa):=⟨ZRT h.h⟩
theorem ZB4 (h:JA X es aa):JE X (.List es pos) (dF ZFv aa):=⟨ZQq h.h⟩
theorem ZBa (h:JA X es aa):JE X (.List es pos) (dF ZDh aa):=⟨ZOy h.h⟩
end
section
variable {X:Cx} {x:Str} {p pos:Pos} {e:Expr} {es:List Expr} {aa:DA} {id T:String} {fn:List W->G->Option (W × G)}
theorem ZS (hc:Z3 X (.builtin id) (rF X.K fn)) (hg:Gl X x) (hm:X.mg x=none) (hv:bootBuiltins x=some (.builtin id)) (ha:JA X (e :: es) aa) (hn:x ≠ "__name__":=by decide) (hdb:(x == ("__debug__" : Str))=false:=by decide) (he:starEach (e :: es) X.env=(false,eval e X.env) :: starEach es X.env:=by rfl) (hpl:(backTo pos (starEach es X.env)).any (·.1)=false:=by rfl):JE X (.Call (.Name x p) (e :: es) [] pos) (dF fn aa):=⟨ZNp hc hg hm hv ha.h hn hdb he hpl⟩
theorem Zi (hc:Z3 X (.type T) (rF X.K fn)) (hg:Gl X x) (hm:X.mg x=none) (hv:bootBuiltins x=some (.type T)) (ha:JA X (e :: es) aa) (hn:x ≠ "__name__":=by decide) (hdb:(x == ("__debug__" : Str))=false:=by decide) (he:starEach (e :: es) X.env=(false,eval e X.env) :: starEach es X.env:=by rfl) (hpl:(backTo pos (starEach es X.env)).any (·.1)=false:=by rfl):JE X (.Call (.Name x p) (e :: es) [] pos) (dF fn aa):=⟨ZL5 hc hg hm hv ha.h hn hdb he hpl⟩
theorem ZI {st:Stmt} {ps:List Str} {f:Addr} {fd:FuncData} {k n:Nat} (D:Def X.K X.mg x st ps f fd) (F:FnOk X.prog X.w X.K X.mg X.base CX0 k f fd ps (spD X.K n fn)) (hr:Room k X.A) (ha:JA X (e :: es) aa) (hm:Many aa n) (hg:Gl X x:=by rfl) (hdb:(x == ("__debug__" : Str))=false:=by decide) (he:starEach (e :: es) X.env=(false,eval e X.env) :: starEach es X.env:=by rfl) (hpl:(backTo pos (starEach es X.env)).any (·.1)=false:=by rfl):JE X (.Call (.Name x p) (e :: es) [] pos) (dF fn aa):=⟨ZPE D F hr ha.h hm hg hdb he hpl⟩
end
section
variable {X:Cx} {pos:Pos}
theorem ZL {i:Nat} {x:Str} (hN:X.N.Nodup) (hi:X.N[i]? = some x) (hx:Loc X.env.scope x) (hf:X.fn x=true ∨ X.env.scope.names.lookup x=some .local:=by first | exact .inl rfl | exact .inr rfl | assumption):JG X (.Name x pos) (.nm i):=⟨dg_nm hN hi hx hf⟩
theorem Zk {es:List Expr} {k:Nat} {ps:Pats} (hc:X.calm=true) (h:JGs X es ps) (hn:(assignEach es X.env).length=ps.len:=by rfl) (hst:(assignEach es X.env).findIdx? (·.1)=none:=by rfl):JG X (.Tuple es k pos) (.tp ps):=⟨dg_tp hc h.h hn hst⟩
theorem Zc  : JGs X [] .nil:=⟨ZQD ⟩
theorem ZJ {e:Expr} {es:List Expr} {p:Pat} {ps:Pats} (h1:JG X e p) (h2:JGs X es ps) (hs:(assignEach (e :: es) X.env).map (·.2)=assign e X.env :: (assignEach es X.env).map (·.2):=by rfl):JGs X (e :: es) (.cons p ps):=⟨ZPs h1.h h2.h hs⟩
end
section
variable {X:Cx} {pos:Pos} {st:Stmt} {rest ss:List Stmt} {a b:DS} {d:DE} {e c:Expr} {tc:DB}
theorem ZV  : JSs X [] dNx:=⟨ZPu ⟩
theorem ZH (h:JS X st a):JSs X [st] a:=⟨ZPH h.h⟩
theorem ZF (h1:JS X st a) (h2:JSs X rest b):JSs X (st :: rest) (ZR a b):=⟨ZNl h1.h h2.h⟩
theorem ZQ {i:Nat} {x:Str} {pos':Pos} (hN:X.N.Nodup) (hi:X.N[i]? = some x) (hx:Loc X.env.scope x) (he:JE X e d) (hs:swapsWith e (some (.Name x pos')) pos.line X.env=pure false:=by rfl) (hf:X.fn x=true ∨ X.env.scope.names.lookup x=some .local:=by first | exact .inl rfl | exact .inr rfl | assumption):JS X (.Assign [.Name x pos'] e pos) (Zr i d):=⟨ZRE hN hi hx he.h hs hf⟩
theorem Zn {tg:Expr} {pt:Pat} (he:JE X e d) (hg:JG X tg pt) (hs:swapsWithSole [tg] e pos.line X.env=pure false:=by rfl) (hw:swappedStores [tg] e X.env=pure none:=by rfl) (h1:(assignEach [tg] X.env).map (·.2)=[assign tg X.env]:=by rfl):JS X (.Assign [tg] e pos) (ZAu pt d):=⟨ZQY he.h hg.h hs hw h1⟩
theorem ZN (he:JE X e d):JS X (.Return (some e) pos) (ZU d):=⟨ZRx he.h⟩
theorem ZA0 (he:JE X e d) (hs:swapsWith e none pos.line X.env=pure false:=by rfl):JS X (.Expr e pos) (ZBk d):=⟨ZPc he.h hs⟩
theorem Ze {sa sb:List Stmt} (hc:JT X c tc) (ha:JSs X sa a) (hb:JSs X sb b):JS X (.If c sa sb pos) (Zz tc a b):=⟨ds_if hc.h ha.h hb.h⟩
end
section
variable {X:Cx} {tg:Expr} {pos:Pos}
theorem ZAc {l:Expr} {d:DE} (hl:JE X l d):JI X tg l (ZCl d):=⟨ZQ1 hl.h⟩
theorem ZAN {a:Expr} {da:DA} {p pos:Pos} (hg:Gl X "range") (hm:X.mg "range" = none) (ha:JA X [a] da) (hs:starEach [a] X.env=[(false,eval a X.env)]:=by rfl) (hn:Many da 1):JI X tg (.Call (.Name "range" p) [a] [] pos) (ZAa da):=⟨ZLq hg hm ha.h hs hn⟩
theorem ZKV {a b:Expr} {da:DA} {p pos:Pos} (hg:Gl X "range") (hm:X.mg "range" = none) (ha:JA X [a,b] da) (hs:starEach [a,b] X.env=[(false,eval a X.env),(false,eval b X.env)]:=by rfl) (hs2:starEach [b] X.env=[(false,eval b X.env)]:=by rfl) (hn:Many da 2):JI X tg (.Call (.Name "range" p) [a,b] [] pos) (ZAa da):=⟨ZME hg hm ha.h hs hs2 hn⟩
theorem ZCC {es:List Expr} {k:Nat} {tpos:Pos} {a:Expr} {da:DA} {p pos:Pos} (hg:Gl X "enumerate") (hm:X.mg "enumerate" = none) (ha:JA X [a] da) (hs:starEach [a] X.env=[(false,eval a X.env)]:=by rfl) (hn:Many da 1):JI X (.Tuple es k tpos) (.Call (.Name "enumerate" p) [a] [] pos) (ZCK da):=⟨ZPm hg hm ha.h hs hn⟩
end
section
variable {X:Cx} {tg iter:Expr} {pos:Pos} {di:DI} {pt:Pat} {db:DS}
theorem ZAY {body:List Stmt} (hp:PassesOwn (model X.prog X.w) X.A X.env X.xe) (hc:X.calm=true) (hi:JI X tg iter di) (hg:JG X tg pt) (hb:JSs X body db) (hs:∀ x,foldedSetIterable iter X.env x=pure x:=by intro _; rfl):JS X (.For tg iter body [] pos) (ZCj pt di db):=⟨ZRJ hp hc hi.h hg.h hb.h hs⟩
theorem ZAd {X:Cx}:JTs X [] ZC8:=⟨ZOm ⟩
theorem ZDB {X:Cx} {c:Expr} {d:DB} (h:JT X c d):JTs X [c] d:=⟨ZO0 h.h⟩
end
section
variable {X:Cx} {tg elt iter:Expr} {ifs:List Expr} {scope sc:Scope} {pos:Pos} {di:DI} {pt:Pat} {dt:DB} {de:DE} {N NX:List Str} {own:Nat} {cap:List Nat}
theorem Z7 (hc:X.calm=true) (hi:JI X tg iter di) (hsc:X.env.scope=sc) (hNX:X.N=NX) (hb:∀ cl C s0 H0 fp,JG (blk X N (compEnvC scope cl C X.env) s0 H0 fp) tg pt/\JTs (blk X N (compEnvC scope cl C X.env) s0 H0 fp) ifs dt/\JE (blk X N (compEnvC scope cl C X.env) s0 H0 fp) elt de) (co:ZJo sc scope NX N own cap=true) (hp:pt.all (λ i=>decide (i < own))=true) (hs:∀ x,foldedSetIterable iter X.env x=pure x:=by intro _; rfl):JE X (.ListComp elt [⟨tg,iter,ifs,0⟩] scope pos) (ZAl own cap pt di dt de):=⟨ZOS hc hi.h hsc hNX (λ cl C s0 H0 fp=>⟨(hb cl C s0 H0 fp).1.h,(hb cl C s0 H0 fp).2.1.h,(hb cl C s0 H0 fp).2.2.h⟩) co hp hs⟩
theorem ZJz {i:Nat} {x:Str} {py spos:Pos} (hN:X.N.Nodup) (hi:X.N[i]? = some x) (hx:Loc X.env.scope x) (hc:X.calm=true) (hit:JI X tg iter di) (hsc:X.env.scope=sc) (hNX:X.N=NX) (hb:∀ cl C s0 H0 fp,JG (blk X N (compEnvC scope cl C X.env) s0 H0 fp) tg pt/\JTs (blk X N (compEnvC scope cl C X.env) s0 H0 fp) ifs dt/\JE (blk X N (compEnvC scope cl C X.env) s0 H0 fp) elt de) (co:ZJo sc scope NX N own cap=true) (hp:pt.all (λ i=>decide (i < own))=true) (hsw:swapsWith (.ListComp elt [⟨tg,iter,ifs,0⟩] scope pos) (some (.Name x py)) spos.line X.env=pure true:=by rfl) (hs:∀ x,foldedSetIterable iter X.env x=pure x:=by intro _; rfl) (hf:X.fn x=true ∨ X.env.scope.names.lookup x=some .local:=by first | exact .inl rfl | exact .inr rfl | assumption):JS X (.Assign [.Name x py] (.ListComp elt [⟨tg,iter,ifs,0⟩] scope pos) spos) (Zr i (ZAl own cap pt di dt de)):=⟨ZOv hN hi hx hc hit.h hsc hNX (λ cl C s0 H0 fp=>⟨(hb cl C s0 H0 fp).1.h,(hb cl C s0 H0 fp).2.1.h,(hb cl C s0 H0 fp).2.2.h⟩) co hp hsw hs hf⟩
end
section
variable {X:Cx}
theorem ZC6  : JO X none ZCT:=⟨ZOj ⟩
theorem ZDD {e:Expr} {d:DE} (h:JE X e d):JO X (some e) (ZEN d):=⟨ZOD h.h⟩
theorem ZFH {e:Expr} {lo hi:Option Expr} {d:DE} {l h:DO} {pos p2:Pos} (he:JE X e d) (hl:JO X lo l) (hh:JO X hi h):JE X (.Subscript e (.Slice lo hi none p2) pos) (dSl d l h):=⟨de_sl he.h hl.h hh.h⟩
theorem ZCX {x:Str} {n:String} {pos:Pos} (hg:Gl X x) (hm:X.mg x=none) (hv:bootBuiltins x=some (.type n)) (hn:x ≠ "__name__":=by decide) (hd:(x == ("__debug__" : Str))=false:=by decide):JE X (.Name x pos) (λ _ g=>some (.ty n,g)):=⟨de_ty hg hm hv hn hd⟩
theorem ZCs {o e:Expr} {dl d:DE} {apos cpos:Pos} (ho:JE X o dl) (he:JE X e d) (hbase:attributeBase o "append" X.env (eval o X.env)=eval o X.env:=by rfl) (hfew:((backTo cpos (starEach [e] X.env)).all (λ x=>!x.1) && (backToKw cpos (keywordEach [] X.env)).all (λ x=>x.1.isSome)
   && decide ([e].length+([]:List Keyword).length+(if ([]:List Keyword).isEmpty then 0 else 1) < 30))=true:=by rfl) (hline:(apos.endLine == cpos.line)=true:=by rfl) (hs:starEach [e] X.env=(false,eval e X.env) :: starEach [] X.env:=by rfl) (hplain:(backTo cpos (starEach [] X.env)).any (·.1)=false:=by rfl):JE X (.Call (.Attribute o "append" apos) [e] [] cpos) (ZFu dl d):=⟨ZRj ho.h he.h hbase hfew hline hs hplain⟩
theorem ZII {o i e:Expr} {dl di d:DE} {pos tpos:Pos} (he:JE X e d) (ho:JE X o dl) (hi:JE X i di) (ha:∀ v,assign (.Subscript o i tpos) X.env v=(do
   let ov ← holding [v] (eval o X.env)
   let iv ← holding [v,ov] (eval i X.env)
   standAt tpos
   holding [v,ov,iv] (setItem ov iv v)
   release [v,ov,iv] []):=by intro _; rfl) (hs:swapsWithSole [.Subscript o i tpos] e pos.line X.env=pure false:=by rfl) (hw:swappedStores [.Subscript o i tpos] e X.env=pure none:=by rfl) (h1:(assignEach [.Subscript o i tpos] X.env).map (·.2)=[assign (.Subscript o i tpos) X.env]:=by rfl):JS X (.Assign [.Subscript o i tpos] e pos) (ZKN dl di d):=⟨ZQy he.h ho.h hi.h ha hs hw h1⟩
end
theorem ZX {P:Program} {w:World} {K:PySem.W.Frag} {mg:Str->Option Value} {base:Heap} {x qual:Str} {st:Stmt} {f:Addr} {fd:FuncData} {N ps:List Str} {k n m:Nat} {d:DS} {r:List W->G->Option (W × G)} (e:r=Z2 n d) (hn:N.length=n) (hm:ps.length=m) (F:Fun K x qual st f fd) (S:FnScope N ps (ZM st))
  (hb:∀ (cdv:Value) (A:Around) (outer:List Env) (s:Shared) (H:Hp) (E:XK),Room k (A.deeper (envOfC qual (ZM st) s.heap.objs.size f cdv))->JSs (ZJl CX0 P w K mg base N qual (ZM st) f cdv A outer s H E).nox (ZB6 st) d) :
  FnOk P w K mg base CX0 (k+1) f fd ps (spD K m r):=by
 subst e hn hm
 exact ZQz F S λ cdv A outer s H E hr=>(hb cdv A outer s H E hr).h
theorem ZE4 {X:Cx} {a b c:Int} {j1 j2} {p1 p2 pos:Pos} (hc:ZSH a b) (h:a ^ b.toNat=c):JE X (.BinOp (.Constant (.int a) j1 p1) .Pow (.Constant (.int b) j2 p2) pos) (dC (.int c)):=⟨(ZP2 ZQ9 ZKC ZKC).imp λ σ H Q ⟨ρ,sd,g,x,g',r,e,q⟩=>by
 cases e
 exact ⟨a,b,rfl,rfl,hc,by show Q (.int (a ^ b.toNat)) H; rw [h]; exact q _ H ρ .refl r.hr (.dat (.int _))⟩⟩
end L2
namespace L2
open PySem PySem.Spec PyProof.Rows H1
section
variable {α β : Type}
end
structure EvP {α : Type} (o:Option (α × G)) (P : α->G->Prop):Prop where
 h:∃ x g,o=some (x,g)/\P x g
section
variable {α : Type} {P : α->G->Prop} {g:G}
theorem ZC2 {x : α} (h:P x g):EvP (some (x,g)) P:=⟨x,g,rfl,h⟩
theorem ZQh {o:Option (α × G)} {x : α} (e:o=some (x,g)) (h:P x g):EvP o P:=⟨x,g,e,h⟩
theorem EvP.imp {o:Option (α × G)} {Q : α->G->Prop} (h:EvP o P) (k:∀ x g,P x g->Q x g):EvP o Q:=by
 obtain ⟨x,g,e,h⟩:=h
 exact ⟨x,g,e,k x g h⟩
theorem ZDM {c:Prop} [Decidable c] {A B:Option (α × G)} (h:c) (h1:EvP A P):EvP (if c then A else B) P:=by rw [if_pos h]; exact h1
theorem ZGr {β : Type} {o:Option β} {y : β} {f : β->α × G} {x : α} (e:o=some y) (e2:f y=(x,g)) (h:P x g):EvP (o.map f) P:=by
 subst e
 exact ⟨x,g,congrArg some e2,h⟩
end
section
variable {sd:Sd} {g:G} {da db dc d:DE} {ta tb:DB} {aa:DA} {f f':W->W->G->Option (W × G)} {P:W->G->Prop} {PB:Bool->G->Prop} {PA':List W->G->Prop}
theorem ZGg {i:Nat} {x:W} (e:sd.getD i none=some x) (h:P x g):EvP (ZD i sd g) P:=⟨x,g,by unfold ZD; rw [e],h⟩
theorem x_c {d:PyData} (h:P (.dat d) g):EvP (dC d sd g) P:=⟨_,_,rfl,h⟩
theorem x_op (h:EvP (da sd g) λ x g1=>EvP (db sd g1) λ y g2=>EvP (f x y g2) P):EvP (dOp f da db sd g) P:=by
 obtain ⟨x,g1,e1,y,g2,e2,z,g3,e3,h⟩:=h
 exact ⟨z,g3,by unfold dOp; rw [e1]; show (db sd g1).bind _=_; rw [e2]; exact e3,h⟩
structure asB (PB:Bool->G->Prop) (x:W) (g:G):Prop where
 h:∃ b,x=.dat (.bool b)/\PB b g
theorem as_b {b:Bool} (h:PB b g):asB PB (.dat (.bool b)) g:=⟨b,rfl,h⟩
theorem x_b (h:EvP (d sd g) (asB PB)):EvP (dB d sd g) PB:=by
 obtain ⟨x,g1,e1,b,rfl,h⟩:=h
 exact ⟨b,g1,by unfold dB; rw [e1]; rfl,h⟩
theorem x_not (h:EvP (ta sd g) λ b g1=>PB (!b) g1):EvP (ZCB ta sd g) PB:=by
 obtain ⟨x,g1,e1,h⟩:=h
 exact ⟨_,g1,by unfold ZCB; rw [e1]; rfl,h⟩
theorem x_and (h:EvP (ta sd g) λ b g1=>(b=true->EvP (tb sd g1) PB)/\(b=false->PB false g1)):EvP (ZCb ta tb sd g) PB:=by
 obtain ⟨x,g1,e1,h1,h2⟩:=h
 cases x with
 | true =>
  obtain ⟨y,g2,e2,h⟩:=h1 rfl
  exact ⟨y,g2,by unfold ZCb; rw [e1]; exact e2,h⟩
 | false=>exact ⟨false,g1,by unfold ZCb; rw [e1]; rfl,h2 rfl⟩
theorem x_or (h:EvP (ta sd g) λ b g1=>(b=true->PB true g1)/\(b=false->EvP (tb sd g1) PB)):EvP (dOr ta tb sd g) PB:=by
 obtain ⟨x,g1,e1,h1,h2⟩:=h
 cases x with
 | false =>
  obtain ⟨y,g2,e2,h⟩:=h2 rfl
  exact ⟨y,g2,by unfold dOr; rw [e1]; exact e2,h⟩
 | true=>exact ⟨true,g1,by unfold dOr; rw [e1]; rfl,h1 rfl⟩
theorem ZQp (h:EvP (da sd g) (asB λ b g1=>(b=true->EvP (db sd g1) P)/\(b=false->P (.dat (.bool false)) g1))):EvP (ZBu da db sd g) P:=by
 obtain ⟨x,g1,e1,b,rfl,h1,h2⟩:=h
 cases b with
 | true =>
  obtain ⟨y,g2,e2,h⟩:=h1 rfl
  exact ⟨y,g2,by unfold ZBu; rw [e1]; exact e2,h⟩
 | false=>exact ⟨_,g1,by unfold ZBu; rw [e1]; rfl,h2 rfl⟩
theorem x_orV (h:EvP (da sd g) (asB λ b g1=>(b=true->P (.dat (.bool true)) g1)/\(b=false->EvP (db sd g1) P))):EvP (ZKv da db sd g) P:=by
 obtain ⟨x,g1,e1,b,rfl,h1,h2⟩:=h
 cases b with
 | false =>
  obtain ⟨y,g2,e2,h⟩:=h2 rfl
  exact ⟨y,g2,by unfold ZKv; rw [e1]; exact e2,h⟩
 | true=>exact ⟨_,g1,by unfold ZKv; rw [e1]; rfl,h1 rfl⟩
theorem ZKy (h:EvP (da sd g) (asB λ b g1=>P (.dat (.bool !b)) g1)):EvP (ZG0 da sd g) P:=by
 obtain ⟨x,g1,e1,b,rfl,h⟩:=h
 exact ⟨_,g1,by unfold ZG0; rw [e1]; rfl,h⟩
theorem ZPx (h:PA' [] g):EvP (ZK sd g) PA':=⟨_,_,rfl,h⟩
theorem ZEk (h:EvP (d sd g) λ x g1=>EvP (aa sd g1) λ xs g2=>PA' (x :: xs) g2):EvP (ZC d aa sd g) PA':=by
 obtain ⟨x,g1,e1,y,g2,e2,h⟩:=h
 exact ⟨_,g2,by unfold ZC; rw [e1]; show (aa sd g1).map _=_; rw [e2]; rfl,h⟩
theorem x_f {fn:List W->G->Option (W × G)} (h:EvP (aa sd g) λ xs g1=>EvP (fn xs g1) P):EvP (dF fn aa sd g) P:=by
 obtain ⟨x,g1,e1,y,g2,e2,h⟩:=h
 exact ⟨y,g2,by unfold dF; rw [e1]; exact e2,h⟩
theorem ZOF (h:EvP (da sd g) λ x g1=>EvP (db sd g1) λ y g2=>EvP (f x y g2) (asB λ b g3=>(b=true->EvP (dc sd g3) λ z g4=>EvP (f' y z g4) P)/\(b=false->P (.dat (.bool false)) g3))):EvP (ZEA f f' da db dc sd g) P:=by
 obtain ⟨x,g1,e1,y,g2,e2,z,g3,e3,b,rfl,h1,h2⟩:=h
 cases b with
 | true =>
  obtain ⟨u,g4,e4,v,g5,e5,h⟩:=h1 rfl
  exact ⟨v,g5,by unfold ZEA; rw [e1]; show (db sd g1).bind _=_; rw [e2]; show (f x y g2).bind _=_; rw [e3]; show (dc sd g3).bind _=_; rw [e4]; exact e5,h⟩
 | false=>exact ⟨_,g3,by unfold ZEA; rw [e1]; show (db sd g1).bind _=_; rw [e2]; show (f x y g2).bind _=_; rw [e3]; rfl,h2 rfl⟩
theorem ZMw {PO':Option Int->G->Prop} (h:PO' none g):EvP (ZCT sd g) PO':=⟨_,_,rfl,h⟩
structure asI (PO':Option Int->G->Prop) (x:W) (g:G):Prop where
 h:∃ i,x=.dat (.int i)/\PO' (some i) g
theorem as_i {PO':Option Int->G->Prop} {i:Int} (h:PO' (some i) g):asI PO' (.dat (.int i)) g:=⟨i,rfl,h⟩
theorem ZQx {PO':Option Int->G->Prop} (h:EvP (d sd g) (asI PO')):EvP (ZEN d sd g) PO':=by
 obtain ⟨x,g1,e1,i,rfl,h⟩:=h
 exact ⟨some i,g1,by unfold ZEN; rw [e1]; rfl,h⟩
theorem x_sl {l u:DO} (h:EvP (d sd g) λ x g1=>EvP (l sd g1) λ i g2=>EvP (u sd g2) λ j g3=>EvP (slO x i j g3) P):EvP (dSl d l u sd g) P:=by
 obtain ⟨x,g1,e1,i,g2,e2,j,g3,e3,z,g4,e4,h⟩:=h
 exact ⟨z,g4,by unfold dSl; rw [e1]; show (l sd g1).bind _=_; rw [e2]; show (u sd g2).bind _=_; rw [e3]; exact e4,h⟩
structure EvI (o:Option (List PyData × Option Nat × G)) (P:List PyData->Option Nat->G->Prop):Prop where
 h:∃ xs src g,o=some (xs,src,g)/\P xs src g
theorem ZRX {PI':List PyData->Option Nat->G->Prop} {xs:List PyData} {src:Option Nat} (h:PI' xs src g):EvI (some (xs,src,g)) PI':=⟨_,_,_,rfl,h⟩
theorem ZRA {PI':List PyData->Option Nat->G->Prop} (h:EvP (d sd g) λ x g1=>EvI (ZNT x g1) PI'):EvI (ZCl d sd g) PI':=by
 obtain ⟨x,g1,e1,xs,src,g2,e2,h⟩:=h
 exact ⟨xs,src,g2,by unfold ZCl; rw [e1]; exact e2,h⟩
theorem ZA2 {PI':List PyData->Option Nat->G->Prop} {j:Int} {g1:G} (h:EvP (aa sd g) λ ws g1=>∃ j:Int,ws=[.dat (.int j)]/\(j<=1000/\-1000<=j)/\PI' (ZCF j.toNat 0) none g1):EvI (ZAa aa sd g) PI':=by
 obtain ⟨ws,g1,e1,j,rfl,hj,h⟩:=h
 exact ⟨_,_,g1,by unfold ZAa; rw [e1]; exact if_pos hj,h⟩
theorem ZOl {PI':List PyData->Option Nat->G->Prop} (h:EvP (aa sd g) λ ws g1=>∃ ds:List PyData,ws=[.dat (.tuple ds)]/\PI' (ZCr 0 ds) none g1):EvI (ZCK aa sd g) PI':=by
 obtain ⟨ws,g1,e1,j,rfl,h⟩:=h
 exact ⟨_,_,g1,by unfold ZCK; rw [e1]; rfl,h⟩
theorem ZQF {own:Nat} {cap:List Nat} {pt:Pat} {di:DI} {dt:DB} {de:DE} (h:EvI (di sd g) λ xs src g1=>xs.length<=1000/\EvP (ZBq src xs pt dt de (ZHH own cap sd) xs g1) λ ys g2=>P (.dat (.list ys)) g2):EvP (ZAl own cap pt di dt de sd g) P:=by
 obtain ⟨xs,src,g1,e1,hl,ys,g2,e2,h⟩:=h
 refine ⟨_,g2,?_,h⟩
 unfold ZAl
 rw [e1]
 show (if xs.length<=1000 then _ else _)=_
 rw [if_pos hl]
 show (ZBq src xs pt dt de (ZHH own cap sd) xs g1).map _=_
 rw [e2]
 rfl
structure EvS (o:Option Out) (P:Out->Prop):Prop where
 h:∃ x,o=some x/\P x
variable {PS':Out->Prop} {a b:DS}
inductive seqP (b:DS) (P:Out->Prop):Out->Prop
 | nx {sd:Sd} {g:G}:EvS (b sd g) P->seqP b P (.nx sd g)
 | rt {x:W} {g:G}:P (.rt x g)->seqP b P (.rt x g)
 | bk {sd:Sd} {g:G}:P (.bk sd g)->seqP b P (.bk sd g)
 | ct {sd:Sd} {g:G}:P (.ct sd g)->seqP b P (.ct sd g)
theorem ZRb (h:EvS (b sd g) PS'):seqP b PS' (.nx sd g):=.nx h
theorem ZR0 {x:W} (h:PS' (.rt x g)):seqP b PS' (.rt x g):=.rt h
theorem x_seq (h:EvS (a sd g) (seqP b PS')):EvS (ZR a b sd g) PS':=by
 obtain ⟨o,e,h⟩:=h
 cases h with
 | nx h =>
  obtain ⟨o,e2,h⟩:=h
  exact ⟨o,by unfold ZR; rw [e]; exact e2,h⟩
 | rt h=>exact ⟨_,by unfold ZR; rw [e]; rfl,h⟩
 | bk h=>exact ⟨_,by unfold ZR; rw [e]; rfl,h⟩
 | ct h=>exact ⟨_,by unfold ZR; rw [e]; rfl,h⟩
theorem ZOW (h:PS' (.nx sd g)):EvS (dNx sd g) PS':=⟨_,rfl,h⟩
theorem ZP1 {i:Nat} (h:EvP (d sd g) λ x g1=>PS' (.nx (sd.set i (some x)) g1)):EvS (Zr i d sd g) PS':=by
 obtain ⟨x,g1,e,h⟩:=h
 exact ⟨_,by unfold Zr; rw [e]; rfl,h⟩
theorem x_asg {pt:Pat} (h:EvP (d sd g) λ x g1=>∃ sd1,Zu pt x sd=some sd1/\PS' (.nx sd1 g1)):EvS (ZAu pt d sd g) PS':=by
 obtain ⟨x,g1,e,sd1,e1,h⟩:=h
 exact ⟨_,by unfold ZAu; rw [e]; show (Zu pt x sd).map _=_; rw [e1]; rfl,h⟩
theorem ZQB (h:EvP (d sd g) λ x g1=>PS' (.rt x g1)):EvS (ZU d sd g) PS':=by
 obtain ⟨x,g1,e,h⟩:=h
 exact ⟨_,by unfold ZU; rw [e]; rfl,h⟩
theorem ZQL (h:EvP (d sd g) λ x g1=>PS' (.nx sd g1)):EvS (ZBk d sd g) PS':=by
 obtain ⟨x,g1,e,h⟩:=h
 exact ⟨_,by unfold ZBk; rw [e]; rfl,h⟩
theorem x_ifS (h:EvP (ta sd g) λ k g1=>(k=true->EvS (a sd g1) PS')/\(k=false->EvS (b sd g1) PS')):EvS (Zz ta a b sd g) PS':=by
 obtain ⟨k,g1,e,h1,h2⟩:=h
 cases k with
 | true =>
  obtain ⟨o,e2,h⟩:=h1 rfl
  exact ⟨o,by unfold Zz; rw [e]; exact e2,h⟩
 | false =>
  obtain ⟨o,e2,h⟩:=h2 rfl
  exact ⟨o,by unfold Zz; rw [e]; exact e2,h⟩
theorem x_for {pt:Pat} {di:DI} (h:EvI (di sd g) λ xs src g1=>EvS (ZAn src xs pt b xs sd g1) PS'):EvS (ZCj pt di b sd g) PS':=by
 obtain ⟨xs,src,g1,e1,o,e2,h⟩:=h
 exact ⟨o,by unfold ZCj; rw [e1]; exact e2,h⟩
theorem x_app {dl:DE} (h:EvP (dl sd g) λ l g1=>∃ n,l=.ref n/\isL g1 n=true/\EvP (d sd g1) λ x g2=>∃ y,x=.dat y/\∃ ds,g2[n]? = some (.pl ds)/\ds.length < 1000/\P (.dat .none) (g2.set n (.pl (ds ++ [y])))):EvP (ZFu dl d sd g) P:=by
 obtain ⟨l,g1,e1,n,rfl,hil,x,g2,e2,y,rfl,ds,e3,hl,h⟩:=h
 refine ⟨_,_,?_,h⟩
 unfold ZFu
 rw [e1]
 show (if isL g1 n=true then _ else _)=_
 rw [if_pos hil]
 show (d sd g1).bind _=_
 rw [e2]
 show (match g2[n]? with | some (.pl ds)=>_ | some (.rl ws)=>_ | _=>_)=_
 rw [e3]
 exact if_pos hl
theorem x_sto {dl di:DE} (h:EvP (d sd g) λ v g1=>∃ x,v=.dat x/\EvP (dl sd g1) λ l g2=>∃ n,l=.ref n/\EvP (di sd g2) λ i g3=>∃ k,i=.dat (.int k)/\∃ ds,g3[n]? = some (.pl ds)/\∃ j,ixN ds.length k=some j/\PS' (.nx sd (g3.set n (.pl (ds.set j x))))):EvS (ZKN dl di d sd g) PS':=by
 obtain ⟨v,g1,e1,x,rfl,l,g2,e2,n,rfl,i,g3,e3,k,rfl,ds,e4,j,e5,h⟩:=h
 refine ⟨_,?_,h⟩
 unfold ZKN
 rw [e1]
 show (dl sd g1).bind _=_
 rw [e2]
 show (di sd g2).bind _=_
 rw [e3]
 show (match g3[n]? with | some (.pl ds)=>_ | some (.rl ws)=>_ | _=>_)=_
 rw [e4]
 show (ixN ds.length k).map _=_
 rw [e5]
 rfl
end
inductive runP (P:W->G->Prop):Out->Prop
 | rt {x:W} {g':G}:P x g'->runP P (.rt x g')
 | nx {sd:Sd} {g':G}:P (.dat .none) g'->runP P (.nx sd g')
theorem ZRS {x:W} {g':G} {P:W->G->Prop} (h:P x g'):runP P (.rt x g'):=.rt h
theorem ZRF {sd:Sd} {g':G} {P:W->G->Prop} (h:P (.dat .none) g'):runP P (.nx sd g'):=.nx h
theorem Zd {n:Nat} {d:DS} {ws:List W} {g:G} {P:W->G->Prop} (h:EvS (d (ws.map some ++ List.replicate (n - ws.length) none) g) (runP P)):EvP (Z2 n d ws g) P:=by
 obtain ⟨o,e,h⟩:=h
 unfold Z2
 rw [e]
 cases h with
 | rt h=>exact ⟨_,_,rfl,h⟩
 | nx h=>exact ⟨_,_,rfl,h⟩
def ZMz (src:Option Nat) (xs:List PyData) (I:Sd->G->Prop) (P:Out->Prop):Out->Prop
 | .nx sd g=>ZBv src xs g/\I sd g
 | .ct sd g=>ZBv src xs g/\I sd g
 | .bk sd g=>P (.nx sd g)
 | .rt x g=>P (.rt x g)
theorem ZCE {α : Type} {src:Option Nat} {xs:List PyData} {g:G} {k:Option α} (h:ZBv src xs g):ZCq src xs g k=k:=by
 unfold ZCq
 cases src with
 | none=>rfl
 | some n=>exact if_pos h
theorem ZB7 {src:Option Nat} {xs:List PyData} {pt:Pat} {db:DS} {P:Out->Prop} (I:Nat->Sd->G->Prop) {sd:Sd} {g:G} (h0:I 0 sd g)
  (hs:∀ i x sd g,xs[i]? = some x->I i sd g->∃ sd1,Zu pt (.dat x) sd=some sd1/\EvS (db sd1 g) (ZMz src xs (I (i+1)) P)) (hd:∀ sd g,I xs.length sd g->P (.nx sd g)):EvS (ZAn src xs pt db xs sd g) P:=by
 have go:∀ (k i:Nat) sd g,i+k=xs.length->I i sd g->EvS (ZAn src xs pt db (xs.drop i) sd g) P:=by
  intro k
  induction k with
  | zero =>
   intro i sd g hi h
   have:i=xs.length:=by omega
   subst this
   rw [List.drop_length,ZAn]
   exact ⟨_,rfl,hd sd g h⟩
  | succ k ih =>
   intro i sd g hi h
   have hlt:i < xs.length:=by omega
   rw [List.drop_eq_getElem_cons hlt,ZAn]
   obtain ⟨sd1,e1,o,e2,h2⟩:=hs i xs[i] sd g (List.getElem?_eq_getElem hlt) h
   rw [e1]
   show EvS ((db sd1 g).bind _) P
   rw [e2]
   cases o with
   | nx sd2 g2=>show EvS (ZCq _ _ _ _) P; rw [ZCE h2.1]; exact ih (i+1) sd2 g2 (by omega) h2.2
   | ct sd2 g2=>show EvS (ZCq _ _ _ _) P; rw [ZCE h2.1]; exact ih (i+1) sd2 g2 (by omega) h2.2
   | bk sd2 g2=>exact ⟨_,rfl,h2⟩
   | rt x g2=>exact ⟨_,rfl,h2⟩
 exact go xs.length 0 sd g (by omega) h0
theorem ZNA {α : Type} {src:Option Nat} {xs:List PyData} {pt:Pat} {dt:DB} {de:DE} {sd0:Sd} {g:G} (enc : α->PyData) (c : α->Bool) (f : α->PyData) (so:ZBv src xs g):∀ L:List α,
  (∀ a ∈ L,∃ sd1,Zu pt (.dat (enc a)) sd0=some sd1/\EvP (dt sd1 g) λ b g1=>b=c a/\g1=g/\(c a=true->EvP (de sd1 g) λ y g2=>y=.dat (f a)/\g2=g))->ZBq src xs pt dt de sd0 (L.map enc) g=some ((L.filter c).map f,g)
 | [],_=>rfl
 | a :: L,h=>by
  obtain ⟨sd1,e1,b,g1,e2,rfl,rfl,h2⟩:=h a (List.mem_cons_self ..)
  rw [List.map_cons,ZBq,e1]
  show ((dt sd1 g1).bind _)=_
  rw [e2]
  show (if c a=true then _ else _)=_
  have ih:=ZNA enc c f so L λ z hz=>h z (List.mem_cons_of_mem _ hz)
  cases hc:c a with
  | true =>
   rw [if_pos rfl]
   obtain ⟨y,g2,e3,rfl,rfl⟩:=h2 hc
   rw [e3]
   show ZCq src xs g2 _=_
   rw [ZCE so,ih,List.filter_cons_of_pos hc]
   rfl
  | false =>
   rw [if_neg Bool.false_ne_true,ZCE so,ih,List.filter_cons_of_neg (by rw [hc]; exact Bool.false_ne_true)]
theorem ZEt {α : Type} {src:Option Nat} {xs:List PyData} {pt:Pat} {dt:DB} {de:DE} {sd0:Sd} {g:G} {P:List PyData->G->Prop} (enc : α->PyData) (c : α->Bool) (f : α->PyData) (L:List α) (e:xs=L.map enc) (so:ZBv src xs g)
  (h:∀ a ∈ L,∃ sd1,Zu pt (.dat (enc a)) sd0=some sd1/\EvP (dt sd1 g) λ b g1=>b=c a/\g1=g/\(c a=true->EvP (de sd1 g) λ y g2=>y=.dat (f a)/\g2=g)) (hP:P ((L.filter c).map f) g):EvP (ZBq src xs pt dt de sd0 xs g) P:=by
 refine ⟨_,g,?_,hP⟩
 conv=>lhs; arg 7; rw [e]
 exact ZNA enc c f so L h
theorem ZBC {α : Type} {src:Option Nat} {xs:List PyData} {pt:Pat} {de:DE} {sd0:Sd} {g:G} {P:List PyData->G->Prop} (enc : α->PyData) (f : α->PyData) (L:List α) (e:xs=L.map enc) (so:ZBv src xs g)
  (h:∀ a ∈ L,∃ sd1,Zu pt (.dat (enc a)) sd0=some sd1/\EvP (de sd1 g) λ y g2=>y=.dat (f a)/\g2=g) (hP:P (L.map f) g):EvP (ZBq src xs pt ZC8 de sd0 xs g) P:=by
 refine ZEt enc (λ _=>true) f L e so (λ a ha=>?_) ?_
 ·obtain ⟨sd1,e1,h1⟩:=h a ha
  exact ⟨sd1,e1,true,g,rfl,rfl,rfl,λ _=>h1⟩
 ·rw [List.filter_eq_self.mpr λ _ _=>rfl]
  exact hP
theorem ZEy {src:Option Nat} {xs:List PyData} {pt:Pat} {dt:DB} {de:DE} {sd0:Sd} {P:List PyData->G->Prop} (I:G->Prop) (R:Nat->List PyData->Prop) {g:G} (h0:I g) (hR0:R 0 [])
  (h:∀ i x g acc,xs[i]? = some x->I g->R i acc->∃ sd1,Zu pt (.dat x) sd0=some sd1/\EvP (dt sd1 g) λ b g1=>(b=true->EvP (de sd1 g1) λ y g2=>∃ d,y=.dat d/\ZBv src xs g2/\I g2/\R (i+1) (acc ++ [d]))/\(b=false->ZBv src xs g1/\I g1/\R (i+1) acc))
  (hP:∀ acc g,I g->R xs.length acc->P acc g):EvP (ZBq src xs pt dt de sd0 xs g) P:=by
 have go:∀ (k i:Nat) acc g,i+k=xs.length->I g->R i acc->EvP (ZBq src xs pt dt de sd0 (xs.drop i) g) λ ys g2=>P (acc ++ ys) g2:=by
  intro k
  induction k with
  | zero =>
   intro i acc g hi h1 h2
   have:i=xs.length:=by omega
   subst this
   rw [List.drop_length,ZBq]
   exact ⟨_,_,rfl,by show P (acc ++ []) g; rw [List.append_nil]; exact hP acc g h1 h2⟩
  | succ k ih =>
   intro i acc g hi h1 h2
   have hlt:i < xs.length:=by omega
   rw [List.drop_eq_getElem_cons hlt,ZBq]
   obtain ⟨sd1,e1,b,g1,e2,kt,kf⟩:=h i xs[i] g acc (List.getElem?_eq_getElem hlt) h1 h2
   rw [e1]
   show EvP ((dt sd1 g).bind _) _
   rw [e2]
   show EvP (if b=true then _ else _) _
   cases b with
   | true =>
    obtain ⟨y,g2,e3,d,rfl,so,i2,r2⟩:=kt rfl
    rw [if_pos rfl,e3]
    show EvP (ZCq _ _ _ _) _
    rw [ZCE so]
    obtain ⟨ys,g3,e4,hp⟩:=ih (i+1) (acc ++ [d]) g2 (by omega) i2 r2
    rw [e4]
    refine ⟨_,g3,rfl,?_⟩
    rw [List.append_assoc] at hp
    exact hp
   | false =>
    obtain ⟨so,i2,r2⟩:=kf rfl
    rw [if_neg Bool.false_ne_true,ZCE so]
    exact ih (i+1) acc g1 (by omega) i2 r2
 have:=go xs.length 0 [] g (by omega) h0 hR0
 rw [List.drop_zero] at this
 exact this
section
variable {g:G} {P:W->G->Prop}
theorem ZH7 {xs ys:List PyData} (h:xs.length+ys.length<=1000) (q:P (.dat (.tuple (xs ++ ys))) g):EvP (ZAQ (.dat (.tuple xs)) (.dat (.tuple ys)) g) P:=ZDM h (ZC2 q)
theorem ZRP {xs ys:List PyData} (h:xs.length+ys.length<=1000) (q:P (.dat (.list (xs ++ ys))) g):EvP (ZAQ (.dat (.list xs)) (.dat (.list ys)) g) P:=ZQh (if_pos h) q
theorem ZEM {i j:Int} (h:ZIz i j=true) (q:P (.dat (.int (i * j))) g):EvP (ZBW (.dat (.int i)) (.dat (.int j)) g) P:=ZDM h (ZC2 q)
theorem ZFp {i j:Int} (h : 0 < j) (q:P (.dat (.int (i % j))) g):EvP (ZDI (.dat (.int i)) (.dat (.int j)) g) P:=ZDM (decide_eq_true h) (ZC2 q)
theorem ZP5 {i j:Int} (h : 0 < j) (h2:j < 2 ^ 64) (q:P (.dat (.int (i / j))) g):EvP (ZFV (.dat (.int i)) (.dat (.int j)) g) P:=ZDM (by show (decide (0 < j) && decide (j < 2 ^ 64))=true; rw [decide_eq_true h,decide_eq_true h2]; rfl) (ZC2 q)
theorem ZA1 {xs:List PyData} {i:Int} {d:PyData} (h:atI xs i=some d) (q:P (.dat d) g):EvP (Zf (.dat (.tuple xs)) (.dat (.int i)) g) P:=ZGr h rfl q
theorem y_ixL {xs:List PyData} {i:Int} {d:PyData} (h:atI xs i=some d) (q:P (.dat d) g):EvP (Zf (.dat (.list xs)) (.dat (.int i)) g) P:=ZGr h rfl q
theorem ZFj {n:Nat} {xs:List PyData} {i:Int} {d:PyData} (hn:g[n]? = some (.pl xs)) (h:atI xs i=some d) (q:P (.dat d) g):EvP (Zf (.ref n) (.dat (.int i)) g) P:=by
 refine ⟨_,_,?_,q⟩
 show (match g[n]? with | some (.pl ds)=>(atI ds i).map λ d=>(W.dat d,g) | some (.rl ws)=>(atI ws i).map λ w=>(w,g) | _=>none)=_
 rw [hn]
 show (atI xs i).map _=_
 rw [h]
 rfl
theorem ZQM {n:Nat} {xs:List PyData} (hn:g[n]? = some (.pl xs)) (q:P (.dat (.int (xs.length:Int))) g):EvP (f1 ZCL [.ref n] g) P:=by
 refine ⟨_,_,?_,q⟩
 show (match g[n]? with | some (.pl ds)=>some (W.dat (.int (ds.length:Int)),g) | some (.rl ws)=>some (W.dat (.int (ws.length:Int)),g) | _=>none)=_
 rw [hn]
theorem ZEf {n:Nat} {xs:List PyData} (hn:g[n]? = some (.pl xs)) (q:P (.dat (.tuple xs)) g):EvP (f1 ZDE [.ref n] g) P:=ZGr (y:=xs) (ZJY hn) rfl q
theorem ZRm {n:Nat} {xs:List PyData} {PI':List PyData->Option Nat->G->Prop} (hn:g[n]? = some (.pl xs)) (q:PI' xs (some n) g):EvI (ZNT (.ref n) g) PI':=by
 refine ⟨xs,some n,g,?_,q⟩
 show (lk g n).map _=_
 rw [ZJY hn]
 rfl
theorem ZSJ {x y:PyData} (h:(ok0 x && ok0 y)=true) (q:P (.dat (.bool (!x.eqv y))) g):EvP (ZCN (.dat x) (.dat y) g) P:=ZDM h (ZC2 q)
theorem ZDr {x:PyData} {ys:List PyData} (h:(ok0 x && PyData.canLayAll0 ys)=true) (q:P (.dat (.bool (ys.any λ y=>y.eqv x))) g):EvP (ZDW (.dat x) (.dat (.tuple ys)) g) P:=ZDM h (ZC2 q)
theorem y_inL {x:PyData} {ys:List PyData} (h:(ok0 x && PyData.canLayAll0 ys)=true) (q:P (.dat (.bool (ys.any λ y=>y.eqv x))) g):EvP (ZDW (.dat x) (.dat (.list ys)) g) P:=ZDM h (ZC2 q)
theorem ZR2 {x:PyData} {ys:List PyData} (h:(ok0 x && PyData.canLayAll0 ys)=true) (q:P (.dat (.bool (!ys.any λ y=>y.eqv x))) g):EvP (ZEE (.dat x) (.dat (.tuple ys)) g) P:=ZDM h (ZC2 q)
end
theorem ZB8 (ns:List Int):PyData.canLayAll0 (ns.map .int)=true:=by
 induction ns with
 | nil=>rfl
 | cons n ns ih=>show (true && PyData.canLayAll0 (ns.map .int))=true; rw [ih]; rfl
theorem any_ints {ns:List Int} {k:Int}:((ns.map PyData.int).any λ y=>y.eqv (.int k))=ns.contains k:=by
 induction ns with
 | nil=>rfl
 | cons n ns ih =>
  rw [List.map_cons,List.any_cons,ih,List.contains_cons]
  congr 1
  show (n == k)=(k == n)
  exact Bool.beq_comm
theorem Zb {i j:Int}:(PyData.int i).eqv (.int j)=decide (i=j):=by
 show (i == j)=_
 exact rfl
theorem ZIR {α : Type} {enc : α->PyData} {L:List α} {i:Nat} {a : α} (h:L[i]? = some a):atI (L.map enc) (i:Int)=some (enc a):=ZE2 (by rw [List.getElem?_map,h]; rfl)
theorem Zx {α : Type} {enc : α->PyData} {L:List α} {i:Nat} {a : α} (h:i < L.length):atI (L.map enc) (i:Int)=some (enc (L.getD i a)):=ZIR (by rw [List.getD_eq_getElem?_getD,List.getElem?_eq_getElem h]; rfl)
def ZCS:List Str:=["about","again","newer","others","own","refute","wait"]
theorem ok7:∀ s ∈ ZCS,ok0 (.str s)=true:=by decide +kernel
theorem ZDz {i j:Int} (h : -(2 ^ 64) < j/\j < 2 ^ 64):ZIz i j=true:=by
 unfold ZIz
 rw [decide_eq_true h.1,decide_eq_true h.2]
 simp
theorem ZNs {i j:Int} (h : -(2 ^ 64) < i/\i < 2 ^ 64):ZIz i j=true:=by
 unfold ZIz
 rw [decide_eq_true h.1,decide_eq_true h.2]
 simp
theorem ZBS {α : Type} {g:List α} {b:Nat} {x : α} (h:b < g.length):(g.set b x)[b]? = some x:=List.getElem?_set_self h
def Bx (g:G) (b:Nat):Prop:=∃ x n c:Int,g[b]? = some (.pl [.int x,.int n,.int c])
theorem Bx.lt {g:G} {b:Nat} (h:Bx g b):b < g.length:=by
 obtain ⟨x,n,c,e⟩:=h
 exact (List.getElem?_eq_some_iff.mp e).1
structure Dr (b:Nat) (g g':G):Prop where
 bx:Bx g' b
 len:g.length<=g'.length
 kp:∀ n,n < g.length->n ≠ b->g'[n]? = g[n]?
theorem Dr.refl {b:Nat} {g:G} (h:Bx g b):Dr b g g:=⟨h,Nat.le_refl _,λ _ _ _=>rfl⟩
theorem Dr.trans {b:Nat} {g g1 g2:G} (h:Dr b g g1) (k:Dr b g1 g2):Dr b g g2:=⟨k.bx,Nat.le_trans h.len k.len,λ n h1 hn=>(k.kp n (Nat.lt_of_lt_of_le h1 h.len) hn).trans (h.kp n h1 hn)⟩
theorem Dr.set {b:Nat} {g:G} {x n c:Int} (h:b < g.length):Dr b g (g.set b (.pl [.int x,.int n,.int c])):=⟨⟨x,n,c,ZBS h⟩,by rw [List.length_set]; exact Nat.le_refl _,λ m _ hm=>List.getElem?_set_ne (Ne.symm hm)⟩
theorem Dr.put {b n:Nat} {g gx:G} {c:Cell} (h:Dr b g gx) (hb:b < g.length) (hn:g.length<=n):Dr b g (gx.set n c):=⟨by
 obtain ⟨x,y,z,e⟩:=h.bx
 exact ⟨x,y,z,by rw [List.getElem?_set_ne (by omega)]; exact e⟩,by rw [List.length_set]; exact h.len,λ m h1 h2=>by rw [List.getElem?_set_ne (by omega)]; exact h.kp m h1 h2⟩
theorem Dr.app {b:Nat} {g gx:G} {c:Cell} (h:Dr b g gx):Dr b g (gx ++ [c]):=⟨by
 obtain ⟨x,y,z,e⟩:=h.bx
 exact ⟨x,y,z,by rw [List.getElem?_append_left h.bx.lt]; exact e⟩,by have:=h.len; rw [List.length_append]; omega,λ m h1 h2=>by rw [List.getElem?_append_left (by have:=h.len; omega)]; exact h.kp m h1 h2⟩
structure Ex (g g':G):Prop where
 len:g.length<=g'.length
 kp:∀ n,n < g.length->g'[n]? = g[n]?
theorem Ex.refl {g:G}:Ex g g:=⟨Nat.le_refl _,λ _ _=>rfl⟩
theorem Ex.app {g gx:G} {c:Cell} (h:Ex g gx):Ex g (gx ++ [c]):=⟨by have:=h.len; rw [List.length_append]; omega,λ m h1=>by rw [List.getElem?_append_left (by have:=h.len; omega)]; exact h.kp m h1⟩
theorem Dr.ex {b:Nat} {g g1 g2:G} (h:Dr b g g1) (k:Ex g1 g2):Dr b g g2:=⟨by
 obtain ⟨x,y,z,e⟩:=h.bx
 exact ⟨x,y,z,by rw [k.kp _ h.bx.lt]; exact e⟩,Nat.le_trans h.len k.len,λ n h1 h2=>by rw [k.kp n (Nat.lt_of_lt_of_le h1 h.len)]; exact h.kp n h1 h2⟩
theorem ZAS {g:G} {c:Cell}:(g ++ [c])[g.length]? = some c:=by
 rw [List.getElem?_append_right (Nat.le_refl _),Nat.sub_self]
 rfl
theorem ZRt {P:Program} {w:World} {K:PySem.W.Frag} {mg:Str->Option Value} {base:Heap} {k:Nat} {f:Addr} {fd:FuncData} {ps:List Str} {r:List W->G->Option (W × G)} (F:FnOk P w K mg base CX0 k f fd ps (spD K 1 r))
  (h:∀ ns:List Int,ns.length<=63->∃ g',r [.inp ns] []=some (.dat (.bool true),g')):FnOk P w K mg base CX0 k f fd ps (λ vs H Q _=>∃ (a:Addr) (ns:List Int),vs=[.ref a]/\SqL K H a (ns.map V.int)/\ns.length<=63/\∀ H',Q (.bl true) H'):=F.imp λ vs H Q E ⟨a,ns,e,hS,hl,q⟩=>by
 subst e
 obtain ⟨g',eg⟩:=h ns hl
 refine ⟨rfl,⟨[],[]⟩,[.inp ns],[],.dat (.bool true),g',⟨rfl,List.nodup_nil,λ n ds e=>by simp at e,λ a z=>by cases z⟩,.cons (.inp ?_) .nil,eg,λ v H' ρ' s' h' r'=>?_⟩
 ·rcases hS with z | z
  ·exact .inl ⟨z,λ q=>q.elim (λ z=>by cases z) λ z=>by cases z⟩
  ·exact .inr z
 ·cases r' with
  | dat r' =>
   cases r' with
   | bl b=>exact q H'
end L2
namespace L2
open PySem PySem.Spec PyProof.Rows H1
theorem ZGk (ks:List (Int × Int)):(ZCx ks).Perm ks:=List.mergeSort_perm _ _
theorem ZIA {ks:List (Int × Int)} (hn:ks.Nodup):(ZCx ks).Pairwise (λ a b=>gtW b a=true):=by
 have ha:∀ a b:Int × Int,(!gtW a b)=true ↔ a.1 < b.1 ∨ (a.1=b.1/\a.2<=b.2):=λ a b=>by
  rw [Bool.not_eq_true',← Bool.not_eq_true,ZA6]
  omega
 have h1:(ZCx ks).Pairwise (λ a b=>(!gtW a b)=true):=by
  refine List.pairwise_mergeSort (le:=λ a b=>!gtW a b) (λ a b c h1 h2=>?_) (λ a b=>?_) ks
  ·rw [ha] at *
   omega
  ·rw [Bool.or_eq_true,ha,ha]
   omega
 have h2:(ZCx ks).Nodup:=(ZGk ks).nodup_iff.mpr hn
 refine List.Pairwise.imp₂ (R:=λ a b=>(!gtW a b)=true) (S:=λ a b=>a ≠ b) (λ a b z w=>?_) h1 h2
 rw [ha] at z
 rw [ZA6]
 have : ¬ (a.1=b.1/\a.2=b.2):=λ e=>w (Prod.ext e.1 e.2)
 omega
def ZCv (r:Ru) (told:List Int) (x:Int) (due:List Int):List Int:=((ZCx (ZAb told r.t x due)).take r.c.toNat).map λ p=>p.2
structure NewsOk (r:Ru) (told:List Int) (i:Nat) (due news:List Int):Prop where
 nd:news.Nodup
 mem:∀ k ∈ news,∃ n:Nat,k=(n:Int)/\n < told.length/\told.getD n 0 < r.t/\n ≠ i/\(n:Int) ∉ due
 len:news.length<=r.c.toNat
 all:news.length < r.c.toNat->∀ n:Nat,n < told.length->told.getD n 0 < r.t->n ≠ i->(n:Int) ∉ due->(n:Int) ∈ news
 later:∀ n h:Nat,n < told.length->told.getD n 0 < r.t->n ≠ i->(n:Int) ∉ due->(n:Int) ∉ news->(h:Int) ∈ news->HT.lexLt [told.getD n 0,(n:Int)] [told.getD h 0,(h:Int)]=false
theorem ZQm (r:Ru) (told:List Int) (i:Nat) (due:List Int):NewsOk r told i due (ZCv r told i due):=by
 have pm:=ZGk (ZAb told r.t i due)
 have ps:=ZIA (ZFA told r.t i due)
 have mem:∀ k ∈ ZCv r told i due,∃ n:Nat,k=(n:Int)/\n < told.length/\told.getD n 0 < r.t/\n ≠ i/\(n:Int) ∉ due/\(told.getD n 0,(n:Int)) ∈ (ZCx (ZAb told r.t i due)).take r.c.toNat:=λ k hk=>by
  unfold ZCv at hk
  obtain ⟨p,hp,rfl⟩:=List.mem_map.mp hk
  obtain ⟨n,rfl,h1,h2,h3,h4⟩:=ZJ7 (pm.mem_iff.mp (List.mem_of_mem_take hp))
  exact ⟨n,rfl,h1,h2,λ z=>h3 (by rw [z]),h4,hp⟩
 refine ⟨ZKz pm,λ k hk=>?_,?_,λ hl n h1 h2 h3 h4=>?_,λ n h h1 h2 h3 h4 h5 h6=>?_⟩
 ·obtain ⟨n,e,a,b,c,d,_⟩:=mem k hk
  exact ⟨n,e,a,b,c,d⟩
 ·unfold ZCv
  rw [List.length_map,List.length_take]
  omega
 ·unfold ZCv at hl ⊢
  rw [List.length_map] at hl
  rw [ZMb hl]
  exact List.mem_map.mpr ⟨_,pm.mem_iff.mpr (ZGq h1 h2 (λ z=>h3 (by omega)) h4),rfl⟩
 ·obtain ⟨h',e,_,_,_,_,hp⟩:=mem h h6
  have e:h=h':=by omega
  subst e
  have hn:(told.getD n 0,(n:Int)) ∉ (ZCx (ZAb told r.t i due)).take r.c.toNat:=λ z=>h5 (List.mem_map.mpr ⟨_,z,rfl⟩)
  have hg:=ZK0 ps (pm.mem_iff.mpr (ZGq h1 h2 (λ z=>h3 (by omega)) h4)) hn hp
  rw [ZA6] at hg
  show (if told.getD n 0=told.getD h 0 then (if (n:Int)=(h:Int) then false else decide ((n:Int) < (h:Int))) else decide (told.getD n 0 < told.getD h 0))=false
  dsimp only at hg
  split
  ·split
   ·rfl
   ·exact decide_eq_false (by omega)
  ·exact decide_eq_false (by omega)
theorem ZJn (ns:List Bool):ZDS (ns.map .bool)=some ns:=by
 induction ns with
 | nil=>rfl
 | cons n ns ih=>rw [List.map_cons,ZDS,ih]; rfl
section
variable {g:G} {P:W->G->Prop}
theorem ZP4 {bs:List Bool} (q:P (.dat (.bool (bs.all id))) g):EvP (f1 ZFt [.dat (.list (bs.map .bool))] g) P:=by
 refine ZQh ?_ q
 show ZFt _ g=_
 unfold ZFt
 show ((ZDS (bs.map .bool)).map _)=_
 rw [ZJn]
 rfl
end
theorem ZDc (n:Nat):ZCF n 0=(List.range n).map λ j:Nat=>PyData.int (j:Int):=by
 unfold ZCF
 refine List.map_congr_left λ j _=>?_
 rw [Int.zero_add]
end L2
namespace L2
open PySem PySem.Spec PyProof.Rows H1
section
variable {X:Cx}
end
section
variable {sd:Sd} {g:G} {dl di d:DE} {PS':Out->Prop}
end
end L2
namespace L2
open PySem PySem.Spec PyProof.Rows H1
def ZJg:W->W->G->Option (W × G)
 | .dat (.bool i),.dat (.bool j),g=>some (.dat (.bool !(i == j)),g)
 | _,_,_=>none
section
variable {X:Cx}
theorem ZPQ:OpR X (compareOp .IsNot) (rOp X.K ZJg):=by
 intro pins s σ H x y v u Q I rx ry h
 obtain ⟨ρ,a,b,g,z,g',hR,ra,rb,e,q⟩:=h
 cases ra with
 | dat ra =>
  cases rb with
  | dat rb =>
   cases ra with
   | bl i =>
    cases rb with
    | bl j=>cases e; exact ZLm pins s σ H _ _ v u Q I rx ry ⟨i,j,rfl,rfl,q.at hR (.dat (.bl _))⟩
    | _=>cases e
   | _=>cases e
  | _=>cases ra <;> cases e
 | _=>cases e
end
end L2
namespace L2
open PySem PySem.Spec PyProof.Rows H1
section
variable {X:Cx}
theorem ZMO (hc:X.calm=true):Z3 X (.builtin "any") (λ xs H Q=>∃ (p:Addr) (ns:List Int),xs=[.ref p]/\SqT X.K H p (ns.map V.int)/\Q (.bl (ns.any λ k=>k != 0)) H):=by
 intro pins s σ H xs us Q I r h
 obtain ⟨p,ns,rfl,hq,q⟩:=h
 obtain ⟨u,rfl,ru⟩:=ZC9 r
 cases ru
 obtain ⟨its,rv,pl,hz⟩:=I.tuple hq
 have hlen:=rv.length
 rw [List.length_map] at hlen
 have hpl:p < s.heap.objs.size:=by
  obtain ⟨o,e,_⟩:=pl
  exact Heap.lt_size e
 refine call_any_walk (iter_tuple pl ⟨s.heap.objs.size,_,_,_,_,_,λ i=>ns.getD i 0 != 0,rfl,Walks.tuple (A:=X.A.in1) (show X.A.in1.handled=none from I.ok.hd hc) s.heap.objs.size p (Nat.ne_of_lt hpl) its.toArray,?_,?_,λ h' tk k=>?_⟩)
 ·exact ⟨⟨_,Heap.get?_push_size _ rfl,rfl,rfl⟩,pl.push _⟩
 ·intro i v s' Q' E' hv hQ
  have hv':its[i]? = some v:=by simpa using hv
  have hi:i < ns.length:=by rw [hlen]; exact (List.getElem?_eq_some_iff.mp hv').1
  obtain ⟨u,hu,ru⟩:=rv.get (i:=i) (x:=V.int ns[i]) (by simp [hi])
  rw [hv'] at hu
  cases hu
  obtain ⟨t,rfl⟩:=ru
  have e:ns.getD i 0=ns[i]:=by simp [List.getD,hi]
  dsimp only at hQ
  rw [e] at hQ
  exact PySem.P.truthy_int hQ
 ·have e:((List.range its.toArray.size).any λ i=>ns.getD i 0 != 0)=ns.any λ k=>k != 0:=by
   rw [Bool.eq_iff_iff,List.any_eq_true,List.any_eq_true]
   constructor
   ·rintro ⟨i,hi,z⟩
    have hi':i < ns.length:=by simpa [← hlen] using hi
    exact ⟨ns[i],List.getElem_mem hi',by simpa [List.getD,hi'] using z⟩
   ·rintro ⟨b,hb,z⟩
    obtain ⟨i,hi,rfl⟩:=List.mem_iff_getElem.mp hb
    exact ⟨i,by simp [← hlen,hi],by simpa [List.getD,hi] using z⟩
  rw [e]
  exact ⟨.bl _,H,I.kept λ b o q=>k b o (by simp; exact Nat.ne_of_lt (Heap.lt_size q)) (Heap.get?_push_of_some _ q),rfl,q⟩
def ZPz:W->G->Option (W × G)
 | .dat (.tuple ds),g=>(ZBg ds).map λ ns=>(.dat (.bool (ns.any λ k=>k != 0)),g)
 | w,g=>ZSD w g
theorem cAny2 (hc:X.calm=true):Z3 X (.builtin "any") (rF X.K (f1 ZPz)):=c1 ((ZMk hc).or (ZMO hc)) λ ρ H g x w z g' Q hR r e q=>by
 have lists:ZSD w g=some (z,g')->(∃ (p:Addr) (bs:List Bool),[x]=[V.ref p]/\SqL X.K H p (bs.map V.bl)/\Q (.bl (bs.any id)) H):=λ e=>by
  obtain ⟨ds,e1,e⟩:=bnd e
  obtain ⟨bs,e2,e⟩:=mp e
  cases e
  obtain ⟨l,vs,rfl,h1,t1⟩:=ZAm hR r e1
  have:=ZDx t1 e2
  subst this
  exact ⟨l,bs,rfl,SqL.of h1,q.at hR (.dat (.bl _))⟩
 cases r with
 | ref h=>exact .inl (lists e)
 | ty=>exact .inl (lists e)
 | tup _ _=>exact .inl (lists e)
 | inp h=>exact .inl (lists e)
 | dat r =>
  cases r with
  | tup f t =>
   obtain ⟨ns,e1,e⟩:=mp e
   cases e
   have:=ZAt t e1
   subst this
   exact .inr ⟨_,ns,rfl,f.sq,q.at hR (.dat (.bl _))⟩
  | lst h n t=>exact .inl (lists e)
  | _=>exact .inl (lists e)
def ZJZ (aa:DA) (d:DE):DE:=λ sd g=>(aa sd g).bind λ p=>(d sd p.2).bind λ i=>match i.1 with
 | .dat (.int k)=>if p.1.length<=1000 then (atI p.1 k).map λ x=>(x,i.2) else none
 | _=>none
theorem ZLD {K:PySem.W.Frag} {ρ : Rh} {H:Hp}:∀ {vs:List V} {ws:List W} {i:Nat} {w:W},RelL K ρ H vs ws->ws[i]? = some w->∃ v,vs[i]? = some v/\Rel K ρ H v w
 | _,_,_,_,.nil,h=>by simp at h
 | _,_,0,_,.cons t _,h=>by cases h; exact ⟨_,rfl,t⟩
 | _,_,i+1,_,.cons _ t,h=>ZLD (i:=i) t (by simpa using h)
theorem ZOV {es:List Expr} {b:Expr} {aa:DA} {d:DE} {pos lpos:Pos} (ha:PA X es (tA X.K aa)) (hb:PE X b (tE X.K d)) (hs:ZFE b):PE X (.Subscript (.List es lpos) b pos) (tE X.K (ZJZ aa d)):=(ZP6 ZFC (ZKU ha) hb hs).imp λ σ H Q ⟨ρ,sd,g,x,g',r,e,q⟩=>by
 obtain ⟨⟨ws,g1⟩,e1,e⟩:=bnd e
 obtain ⟨⟨i,g2⟩,e2,e⟩:=bnd e
 refine ⟨ρ,sd,g,ws,g1,r,e1,λ vs H1 ρ1 s1 h1 r1=>?_⟩
 have hl:vs.length=ws.length:=r1.length
 cases i with
 | dat i =>
  cases i with
  | int k =>
   dsimp only at e
   split at e
   ·rename_i hz
    obtain ⟨w,e3,e⟩:=mp e
    cases e
    refine ⟨by rw [hl]; exact Nat.le_of_lt (ZAC hz),λ p hp=>?_⟩
    obtain ⟨sm,hr2,hn⟩:=ZCy (o:=.lst vs) h1 hp
    have s2:Stp ρ1 H1 ρ1 (upd H1 p (.lst vs)):=.same sm
    refine ⟨ρ1,sd,g1,_,g',r.step (s1.trans s2) hr2,e2,λ v H3 ρ3 s3 h3 r3=>?_⟩
    cases r3 with
    | dat r3 =>
     cases r3 with
     | int _ =>
      have hp3:H3 p=some (.lst vs):=s3.frm _ _ Zt λ z=>hn (.inl z)
      unfold atI at e3
      obtain ⟨j,ej,ew⟩:=bnd e3
      obtain ⟨v,hv,rv⟩:=ZLD r1 ew
      refine ⟨p,vs,k,v,rfl,rfl,SqL.of hp3,?_,q v H3 ρ3 (s1.trans (s2.trans s3)) h3 ((rv.mono s2).mono s3)⟩
      unfold atI
      rw [hl,ej]
      exact hv
   ·cases e
  | _=>cases e
 | _=>cases e
theorem ZNb {es:List Expr} {b:Expr} {aa:DA} {d:DE} {pos lpos:Pos} (ha:JA X es aa) (hb:JE X b d) (hs:ZFE b):JE X (.Subscript (.List es lpos) b pos) (ZJZ aa d):=⟨ZOV ha.h hb.h hs⟩
end
section
variable {sd:Sd} {g:G} {P:W->G->Prop} {d:DE}
theorem ZQZ {aa:DA} (h:EvP (aa sd g) λ ws g1=>EvP (d sd g1) λ x g2=>∃ i:Int,x=.dat (.int i)/\ws.length<=1000/\∃ w,atI ws i=some w/\P w g2):EvP (ZJZ aa d sd g) P:=by
 obtain ⟨ws,g1,e1,x,g2,e2,i,rfl,hz,w,e3,h⟩:=h
 refine ⟨_,_,?_,h⟩
 unfold ZJZ
 rw [e1]
 show (d sd g1).bind _=_
 rw [e2]
 show (if ws.length<=1000 then (atI ws i).map λ x=>(x,g2) else none)=_
 rw [if_pos hz,e3]
 rfl
end
end L2
namespace L2
open PySem PySem.Spec PyProof.Rows H1
open AutoSeq1 (wpAny_loadPart')
section
variable {prog:Program} {w:World} {A:Around} {E:Value->Shared->Prop} {s:Shared}
theorem ZEG {Q:List Value->Shared->Prop} {r:Addr} {a b c:Int} {t u v:Tok} {n:Nat} (hh:A.handled=none) (hr:IsRange s.heap r a b c t u v) (hsmall:Builtin.Range.small a b c=true)
  (hn:Builtin.Range.rangeSize a b c=n) (hlen:n<=2 ^ 24)
  (hQ:∀ (h':Heap) tk (acc:Array Value),(∀ b o,s.heap.get? b=some o->h'.get? b=some o)->ItemsOf (λ i v=>∃ t,v=.int (a+i * c) t) acc n->Q acc.toList { s with heap:=h',toks:=tk }):wpAny (model prog w) A (collect (.ref r)) Q E s:=by
 have hS₁ : (s.heap.push { cls:=.type "list",data:=.seq ([]:List Value).toArray }).get? s.heap.objs.size=some { cls:=.type "list",data:=.seq #[] }:=Heap.get?_push_size _ rfl
 have key:∀ R:Result->Shared->Prop,(∀ (h':Heap) tk (acc':Array Value) c',(∀ b o,s.heap.get? b=some o->h'.get? b=some o)->h'.get? s.heap.objs.size=some { cls:=.type "list",dict:=none,data:=.seq acc' c',slots:=#[] }->ItemsOf (λ i v=>∃ t,v=.int (a+i * c) t) acc' n->R (.ok (.ret (.ref s.heap.objs.size))) { s with heap:=h',toks:=tk })->codeAny (model prog w) A (.builtin "proto.collect" ⟨[.ref r],[]⟩) R s:=by
  intro R hR
  refine codeAny_builtin F.entry_proto_collect ?_
  rw [Around.under_plainId F.plain_proto_collect _]
  show wpAny _ A.in1 (newList [] >>= λ l=>again (.builtin "list.__iadd__" ⟨[l,.ref r],[]⟩)) _ _ s
  refine wpAny_bind (wpAny_newObj_type ?_)
  refine wpAny_pure ⟨plainId_quiet F.plain_list_iadd _,codeAny_builtin F.entry_list_iadd ?_⟩
  rw [Around.under_plainId F.plain_list_iadd _]
  exact wpAny_extend_range (R:=R) (s:={ s with heap:=s.heap.push { cls:=.type "list",data:=.seq ([]:List Value).toArray } }) hh (Heap.get?_push_of_some _ hr) hsmall hn hlen s.heap.objs.size (.ref s.heap.objs.size) 0 hS₁ λ h' tk acc' c' hk hS' hacc=>hR h' tk acc' c' (λ b o e=>hk b o (Nat.ne_of_lt (Heap.lt_size e)) (Heap.get?_push_of_some _ e)) hS' hacc
 unfold collect
 refine wpAny_bind (wpAny_runValue (key _ λ h' tk acc' c' hk hS' hacc=>?_))
 show wpAny _ A (load s.heap.objs.size >>= _) _ _ _
 refine wpAny_bind (wpAny_load hS' ?_)
 exact wpAny_pure (hQ h' tk acc' hk hacc)
theorem ZEB {Q₁ : Value->Shared->Prop} {r:Addr} {a b c:Int} {t u v:Tok} {n:Nat} (hh:A.handled=none) (hr:IsRange s.heap r a b c t u v) (hsmall:Builtin.Range.small a b c=true)
  (hn:Builtin.Range.rangeSize a b c=n) (hlen:n<=2 ^ 24) (hsz:n<=sizeLine)
  (h:∀ (h':Heap) tk (acc:Array Value),(∀ b o,s.heap.get? b=some o->h'.get? b=some o)->ItemsOf (λ i v=>∃ t,v=.int (a+i * c) t) acc n->Q₁ (.ref h'.objs.size) { s with heap:=h'.push { cls:=.type "tuple",data:=.seq acc },toks:=tk }) :
  codeAny (model prog w) A (.call (.builtin "tuple.__new__") ⟨[.type "tuple",.ref r],[]⟩) (wants Q₁ E) s:=by
 refine codeAny_of_tree ?_
 show wpAny _ A.in1 (do checkBuiltinCall "tuple.__new__" ⟨[.type "tuple",.ref r],[]⟩; again (.builtin "tuple.__new__" ⟨[.type "tuple",.ref r],[]⟩)) _ _ s
 refine wpAny_bind (wpAny_of_eq (F.newCall_tuple_1 _) (wpAny_pure ⟨plainId_quiet F.plain_tuple_new _,codeAny_builtin F.entry_tuple_new ?_⟩))
 rw [Around.under_plainId F.plain_tuple_new _]
 have hsub:=sub_tuple_self
 have hinit:=init_tuple_lookup
 have hmh:=madeHere_tuple
 have hTI:s.TypeIs (.ref r) "range":=⟨_,hr,rfl⟩
 have hh1:A.in1.handled=none:=hh
 wp_walk using wpAny_typeOf hTI,ZEG hh1 hr hsmall hn hlen
 intro h' tk acc hm hacc
 show wpAny _ _ (Builtin.Tuple.tupleExact acc.toList.toArray >>= λ v=>ret v) _ _ _
 unfold Builtin.Tuple.tupleExact
 refine wpAny_bind (wpAny_newObj_type ?_ (by show acc.toList.toArray.size<=sizeLine; simp only [Array.toArray_toList]; rw [hacc.1]; exact hsz))
 refine wpAny_pure ?_
 have e:acc.toList.toArray=acc:=by simp
 rw [e]
 exact h h' tk acc hm hacc
theorem ZFb {Q:Value->Shared->Prop} {r:Addr} {a b c:Int} {t u v:Tok} {n:Nat} (hh:A.handled=none) (hr:IsRange s.heap r a b c t u v) (hsmall:Builtin.Range.small a b c=true)
  (hn:Builtin.Range.rangeSize a b c=n) (hlen:n<=2 ^ 24) (hsz:n<=sizeLine)
  (hQ:∀ (h':Heap) tk (acc:Array Value),(∀ b o,s.heap.get? b=some o->h'.get? b=some o)->ItemsOf (λ i v=>∃ t,v=.int (a+i * c) t) acc n->Q (.ref h'.objs.size) { s with heap:=h'.push { cls:=.type "tuple",data:=.seq acc },toks:=tk }) :
  wpAny (model prog w) A (call (.type "tuple") [.ref r]) Q E s:=by
 refine callType_codes (Q₁:=λ obj s₁=>s₁.TypeIs obj "tuple"/\Q obj s₁) F.called_tuple (F.typeCall_tuple_1 _) F.entry_object_init
  (ZEB hh hr hsmall hn hlen hsz λ h' tk acc hm hacc=>⟨⟨_,Heap.get?_push_size _ rfl,rfl⟩,hQ h' tk acc hm hacc⟩) λ obj s₁ h₁=>?_
 exact ⟨h₁.1,F.args_object_init_2 obj _,object_init_meets F.called_tuple.init.lookup F.called_tuple.made (by decide) prog w A.in1 _ s₁ ⟨h₁.1,rfl,h₁.2⟩⟩
end
end L2
namespace L2
open PySem PySem.Spec PyProof.Rows H1
section
variable {X:Cx}
theorem ZGf (hc:X.calm=true):Z3 X (.type "tuple") (λ xs H Q=>∃ p j,xs=[.ref p]/\H p=some (.rng 0 j)/\(0<=j/\j<=1000)/\∀ l,H l=none->Q (.ref l) (upd H l (.tup (ZIE j.toNat)))):=by
 intro pins s σ H xs us Q I r h
 obtain ⟨p,j,rfl,hp,⟨h0,h1⟩,q⟩:=h
 obtain ⟨u,rfl,ru⟩:=ZC9 r
 cases ru
 obtain ⟨t,u,v,ho⟩:=I.hok p _ hp
 have hj:(j.toNat:Int)=j:=Int.toNat_of_nonneg h0
 have hl:(ZIE j.toNat).length=j.toNat:=by unfold ZIE; simp
 refine ZFb (n:=j.toNat) (I.ok.hd hc) (show IsRange s.heap p 0 j 1 t u v from ho) (small_one (by omega) (by omega) (by omega) (by omega)) (by rw [rangeSize_one]; split <;> omega) (by omega) (Nat.le_of_lt (ZAC (by omega))) λ h' tk acc kp hacc=>?_
 have e:(rangeInts 0 1 j.toNat)=(List.range j.toNat).map λ (i:Nat)=>(i:Int):=by
  unfold rangeInts
  apply List.map_congr_left
  intro a _
  omega
 have ca:CarriedAll acc.toList ((rangeInts 0 1 j.toNat).map .int):=carriedAll_of_get _ _ (by simp [hacc.1,rangeInts_length]) λ i v hv=>by
  have hv':acc[i]? = some v:=by simpa using hv
  obtain ⟨tk,rfl⟩:=hacc.2 i v hv'
  have hi:i < j.toNat:=by
   have:=(Array.getElem?_eq_some_iff.mp hv').1
   rw [hacc.1] at this; exact this
  exact ⟨.int (0+(i:Nat) * 1),by simp [rangeInts_get hi],.int _ _⟩
 have ev:Zs (ZIE j.toNat) acc.toList:=by
  have:=ZJr ca
  rw [e,List.map_map] at this
  exact this
 have I1:Inv X pins σ H { s with heap:=h',toks:=tk }:=I.kept (t':=tk) kp
 have I2:Inv X pins σ (upd H h'.objs.size (.tup (ZIE j.toNat))) { s with heap:=h'.push { cls:=.type "tuple",data:=.seq acc },toks:=tk } :=
  I1.laid (t':=tk) (λ b o e=>Heap.get?_push_of_some _ e) (Nat.le_refl _) (show ZBw X.prog X.w _ _ _ (.tup (ZIE j.toNat)) from ⟨by rw [hl]; exact Nat.le_of_lt (ZAC (by omega)),acc.toList,ev,IsTup.new _ _⟩)
 exact ⟨.ref h'.objs.size,_,I2,rfl,q _ (I1.hok.fresh (Nat.le_refl _))⟩
end
end L2
namespace L2
open PySem PySem.Spec PyProof.Rows H1
section
variable {X:Cx}
def ZJN (d:DE):DE:=λ sd g=>(d sd g).bind λ p=>match p.1 with
 | .dat (.int j)=>if 0<=j/\j<=1000 then some (.dat (.tuple (ZCF j.toNat 0)),p.2) else none
 | _=>none
theorem ZJd {K:PySem.W.Frag} {ρ : Rh} {H:Hp} {α : Type} (f : α->Int):∀ L:List α,RelDL K ρ H (L.map λ i=>V.int (f i)) (L.map λ i=>PyData.int (f i))
 | []=>.nil
 | a :: r=>.cons (.int _) (ZJd f r)
theorem ZPi {K:PySem.W.Frag} {ρ : Rh} {H:Hp} (n:Nat):RelDL K ρ H (ZIE n) (ZCF n 0):=by
 rw [ZDc]
 unfold ZIE
 exact ZJd (λ j:Nat=>(j:Int)) _
theorem ZL9 {e:Expr} {d:DE} {p p2 pos pos2:Pos} (hc:X.calm=true) (hg:Gl X "tuple") (hm:X.mg "tuple" = none) (hgr:Gl X "range") (hmr:X.mg "range" = none) (ha:PE X e (tE X.K d))
  (hs1:starEach [.Call (.Name "range" p2) [e] [] pos2] X.env=(false,eval (.Call (.Name "range" p2) [e] [] pos2) X.env) :: starEach [] X.env:=by rfl) (hs2:starEach [e] X.env=(false,eval e X.env) :: starEach [] X.env:=by rfl)
  (hpl:(backTo pos (starEach [] X.env)).any (·.1)=false:=by rfl) (hpl2:(backTo pos2 (starEach [] X.env)).any (·.1)=false:=by rfl) :
  PE X (.Call (.Name "tuple" p) [.Call (.Name "range" p2) [e] [] pos2] [] pos) (tE X.K (ZJN d)) :=
 (ZFT (ZGf hc) hg hm boot_tuple (ZIL (ZFT (T:="range") ZJw hgr hmr rfl (ZIL ha ZKQ hs2) (by decide) (by decide) hs2 hpl2) ZKQ hs1) (by decide) (by decide) hs1 hpl).imp λ σ H Q ⟨ρ,sd,g,x,g',r,e,q⟩=>by
  obtain ⟨⟨y,g1⟩,e1,e⟩:=bnd e
  cases y with
  | dat y =>
   cases y with
   | int j =>
    dsimp only at e
    split at e
    ·rename_i hj
     cases e
     refine ⟨ρ,sd,g,.dat (.int j),_,r,e1,λ v H1 ρ1 s1 h1 r1=>?_⟩
     cases r1 with
     | dat r1 =>
      cases r1 with
      | int _ =>
       refine ⟨j,rfl,λ a hp=>?_⟩
       obtain ⟨sm,hr2,hn⟩:=ZCy (o:=.rng 0 j) h1 hp
       refine ⟨a,j,rfl,Zt,hj,λ l hl=>?_⟩
       obtain ⟨sm2,hr3,hn3⟩:=ZCy (o:=.tup (ZIE j.toNat)) hr2 hl
       exact q _ _ ρ1 (s1.trans ((Stp.same sm).trans (.same sm2))) hr3 (.dat (.tup (.inl ⟨.inl Zt,hn3⟩) (ZPi _)))
    ·cases e
   | _=>cases e
  | _=>cases e
theorem ZKG {e:Expr} {d:DE} {p p2 pos pos2:Pos} (hc:X.calm=true) (hg:Gl X "tuple") (hm:X.mg "tuple" = none) (hgr:Gl X "range") (hmr:X.mg "range" = none) (ha:JE X e d)
  (hs1:starEach [.Call (.Name "range" p2) [e] [] pos2] X.env=(false,eval (.Call (.Name "range" p2) [e] [] pos2) X.env) :: starEach [] X.env:=by rfl) (hs2:starEach [e] X.env=(false,eval e X.env) :: starEach [] X.env:=by rfl)
  (hpl:(backTo pos (starEach [] X.env)).any (·.1)=false:=by rfl) (hpl2:(backTo pos2 (starEach [] X.env)).any (·.1)=false:=by rfl) :
  JE X (.Call (.Name "tuple" p) [.Call (.Name "range" p2) [e] [] pos2] [] pos) (ZJN d):=⟨ZL9 hc hg hm hgr hmr ha.h hs1 hs2 hpl hpl2⟩
end
section
variable {sd:Sd} {g:G} {P:W->G->Prop} {d:DE}
theorem ZRz (h:EvP (d sd g) λ x g1=>∃ j:Int,x=.dat (.int j)/\(0<=j/\j<=1000)/\P (.dat (.tuple (ZCF j.toNat 0))) g1):EvP (ZJN d sd g) P:=by
 obtain ⟨x,g1,e1,j,rfl,hz,h⟩:=h
 refine ⟨_,_,?_,h⟩
 unfold ZJN
 rw [e1]
 exact if_pos hz
end
end L2
namespace L2
open PySem PySem.Spec PyProof.Rows H1
section
variable {X:Cx} {pos:Pos}
def ZHn (i j l:Nat) (a:DA):DS:=λ sd g=>(a sd g).bind λ p=>match p.1 with | [x,y,z]=>some (.nx (((sd.set l (some z)).set j (some y)).set i (some x)) p.2) | _=>none
theorem ZOb {i j l:Nat} {aa:DA} {D:Ends} {σ : St} {H:Hp} (h:tS X.K (ZHn i j l aa) D σ H):ZPy i j l (tA X.K aa) D σ H:=by
 obtain ⟨ρ,sd,g,oo,r,e,q⟩:=h
 obtain ⟨⟨ws,g1⟩,e1,e⟩:=bnd e
 refine ⟨ρ,sd,g,ws,g1,r,e1,λ vs H1 ρ1 s1 h1 r1=>?_⟩
 cases r1 with
 | nil=>cases e
 | cons a t =>
  cases t with
  | nil=>cases e
  | cons b t =>
   cases t with
   | nil=>cases e
   | cons c t =>
    cases t with
    | nil=>cases e; exact ⟨_,_,_,rfl,q _ H1 ρ1 s1 ((((r.step s1 h1).set c l).set b j).set a i)⟩
    | cons _ _=>cases e
theorem ZJt {i j l:Nat} {x y z:Str} {a b c:Expr} {aa:DA} {px py pz pt:Pos} {kt k2 pt2} (hc:X.calm=true) (hN:X.N.Nodup) (hi:X.N[i]? = some x) (hj:X.N[j]? = some y) (hl:X.N[l]? = some z)
  (hx:X.env.scope.names.lookup x=some .local) (hy:X.env.scope.names.lookup y=some .local) (hz:X.env.scope.names.lookup z=some .local) (ha:JA X [a,b,c] aa)
  (hw:swappedStores [.Tuple [.Name x px,.Name y py,.Name z pz] kt pt] (.Tuple [a,b,c] k2 pt2) X.env=pure (some [x,y,z]):=by rfl)
  (hs:swapsWithSole [.Tuple [.Name x px,.Name y py,.Name z pz] kt pt] (.Tuple [a,b,c] k2 pt2) pos.line X.env=pure false:=by rfl) :
  JS X (.Assign [.Tuple [.Name x px,.Name y py,.Name z pz] kt pt] (.Tuple [a,b,c] k2 pt2) pos) (ZHn i j l aa):=⟨(ZOI hc hN hi hj hl hx hy hz ha.h hw hs).imp λ _ _ _ h=>ZOb h⟩
theorem ZPA {i j:Nat} {x y:Str} {a b:Expr} {aa:DA} {px py pt:Pos} {kt k2 pt2} (hc:X.calm=true) (hN:X.N.Nodup) (hi:X.N[i]? = some x) (hj:X.N[j]? = some y) (hij:i ≠ j)
  (hx:X.env.scope.names.lookup x=some .local) (hy:X.env.scope.names.lookup y=some .local) (ha:JA X [a,b] aa)
  (hw:swappedStores [.Tuple [.Name x px,.Name y py] kt pt] (.Tuple [a,b] k2 pt2) X.env=pure (some [x,y]))
  (hs:swapsWithSole [.Tuple [.Name x px,.Name y py] kt pt] (.Tuple [a,b] k2 pt2) pos.line X.env=pure false:=by rfl) :
  JS X (.Assign [.Tuple [.Name x px,.Name y py] kt pt] (.Tuple [a,b] k2 pt2) pos) (ZNg i j aa):=⟨(ZRI hc hN hi hj hij hx hy ha.h hw hs).imp λ _ _ _ h=>ZQI h⟩
end
section
variable {sd:Sd} {g:G} {aa:DA} {PS':Out->Prop}
theorem ZRq {i j l:Nat} (h:EvP (aa sd g) λ ws g1=>∃ x y z,ws=[x,y,z]/\PS' (.nx (((sd.set l (some z)).set j (some y)).set i (some x)) g1)):EvS (ZHn i j l aa sd g) PS':=by
 obtain ⟨ws,g1,e1,x,y,z,rfl,h⟩:=h
 exact ⟨_,by unfold ZHn; rw [e1]; rfl,h⟩
theorem x_par {i j:Nat} (h:EvP (aa sd g) λ ws g1=>∃ x y,ws=[x,y]/\PS' (.nx ((sd.set i (some x)).set j (some y)) g1)):EvS (ZNg i j aa sd g) PS':=by
 obtain ⟨ws,g1,e1,x,y,rfl,h⟩:=h
 exact ⟨_,by unfold ZNg; rw [e1]; rfl,h⟩
end
end L2
namespace L2
open PySem PySem.Spec PyProof.Rows H1
structure Kls (K:PySem.W.Frag) (mg:Str->Option Value) (c:CD) (C:Addr):Prop where
 ns:PySem.W.nsIn K mainGlobals c.nm=some (some (.ref C))
 mg_:mg c.nm=some (.ref C)
 cl:Cls K C
 nd:c.fs.Nodup
 na:∀ f ∈ c.fs,ZDs K C f
structure MDef (K:PySem.W.Frag) (C:Addr) (x qual:Str) (st:Stmt) (ps:List Str) (f:Addr) (fd:FuncData):Prop where
 me:Meth K C x f
 fn:Fun K x qual st f fd
 bd:ZEL K fd ps []
section
variable {K:PySem.W.Frag} {ρ : Rh} {H:Hp}
theorem RelF.look:∀ {ns:List Str} {vs:List (Str × V)} {ws:List W} {i:Nat} {f:Str} {w:W},ns.Nodup->RelF K ρ H ns vs ws->ns[i]? = some f->ws[i]? = some w->∃ v,vs.lookup f=some v/\Rel K ρ H v w
 | _,_,_,_,_,_,_,.nil,_,e=>by simp at e
 | _,_,_,0,_,_,_,.cons (v:=v) h t,e1,e2=>by
  cases e1
  cases e2
  exact ⟨v,by simp [List.lookup],h⟩
 | f0 :: ns,_,_,i+1,f,w,nd,.cons (v:=v) h t,e1,e2=>by
  rw [List.nodup_cons] at nd
  have e1':ns[i]? = some f:=by simpa using e1
  obtain ⟨v,h1,h2⟩:=RelF.look nd.2 t e1' (by simpa using e2)
  have hne:(f == f0)=false:=beq_eq_false_iff_ne.mpr λ z=>nd.1 (by rw [← z]; exact List.mem_of_getElem? e1')
  exact ⟨v,by rw [List.lookup,hne]; exact h1,h2⟩
theorem RelF.no:∀ {ns:List Str} {vs:List (Str × V)} {ws:List W} {m:Str},RelF K ρ H ns vs ws->m ∉ ns->vs.lookup m=none
 | _,_,_,_,.nil,_=>rfl
 | f0 :: ns,_,_,m,.cons h t,hn=>by
  have hne:(m == f0)=false:=beq_eq_false_iff_ne.mpr λ z=>hn (by rw [z]; exact List.mem_cons_self ..)
  rw [List.lookup,hne]
  exact t.no λ z=>hn (List.mem_cons_of_mem _ z)
theorem RelF.len:∀ {ns:List Str} {vs:List (Str × V)} {ws:List W},RelF K ρ H ns vs ws->vs.length=ws.length
 | _,_,_,.nil=>rfl
 | _,_,_,.cons h t=>by rw [List.length_cons,List.length_cons,t.len]
theorem RelF.set {v:V} {w:W} (r:Rel K ρ H v w):∀ {ns:List Str} {vs:List (Str × V)} {ws:List W} {i:Nat} {f:Str},ns.Nodup->RelF K ρ H ns vs ws->ns[i]? = some f->i < ws.length->RelF K ρ H ns (ZDC f v vs) (ws.set i w)
 | _,_,_,_,_,_,.nil,_,e=>by simp at e
 | f0 :: ns,_,_,0,_,_,.cons h t,e1,e2=>by
  cases e1
  show RelF K ρ H _ (if f0=f0 then _ else _) _
  rw [if_pos rfl]
  exact .cons r t
 | f0 :: ns,_,_,i+1,f,nd,.cons (v:=v0) (vs:=vs) h t,e1,e2=>by
  rw [List.nodup_cons] at nd
  have e1':ns[i]? = some f:=by simpa using e1
  have hne : ¬ f0=f:=λ z=>nd.1 (by rw [z]; exact List.mem_of_getElem? e1')
  show RelF K ρ H _ (if f0=f then _ else _) _
  rw [if_neg hne]
  exact .cons h (RelF.set r nd.2 t e1' (by simpa using e2))
theorem RelF.snoc {v:V} {w:W} (r:Rel K ρ H v w):∀ {ns:List Str} {vs:List (Str × V)} {ws:List W} {f:Str},ns.Nodup->RelF K ρ H ns vs ws->ns[ws.length]? = some f->RelF K ρ H ns (ZDC f v vs) (ws ++ [w])
 | [],_,_,_,_,.nil,e=>by simp at e
 | f0 :: ns,_,_,_,_,.nil,e=>by
  cases e
  exact .cons r .nil
 | f0 :: ns,_,_,f,nd,.cons (v:=v0) (vs:=vs) (xs:=xs) h t,e1=>by
  rw [List.nodup_cons] at nd
  have e1':ns[xs.length]? = some f:=by simpa using e1
  have hne : ¬ f0=f:=λ z=>nd.1 (by rw [z]; exact List.mem_of_getElem? e1')
  show RelF K ρ H _ (if f0=f then _ else _) _
  rw [if_neg hne]
  exact .cons h (RelF.snoc r nd.2 t e1')
end
open Classical in
noncomputable def ZHJ (c:CD) (w:W) (g:G):Option (List W):=match w with
 | .ref n=>match g[n]? with
  | some (.ob c' ws)=>if c'=c then some ws else none
  | _=>none
 | _=>none
theorem ZH1 {c:CD} {n:Nat} {g:G} {ws:List W} (h:g[n]? = some (.ob c ws)):ZHJ c (.ref n) g=some ws:=by
 unfold ZHJ
 dsimp only
 rw [h]
 exact if_pos rfl
theorem ZGI {K:PySem.W.Frag} {ρ : Rh} {H:Hp} {c:CD} {w:W} {g:G} {ws:List W} {v:V} (h:ZHJ c w g=some ws) (hR:HR K ρ H g) (r:Rel K ρ H v w):∃ n a C dx vs,w=.ref n/\ρ.c[n]? = some a/\g[n]? = some (.ob c ws)/\v=.ref a/\PySem.W.nsIn K mainGlobals c.nm=some (some (.ref C))/\H a=some (.ins C dx vs)/\RelF K ρ H c.fs vs ws:=by
 unfold ZHJ at h
 cases w with
 | ref n =>
  dsimp only at h
  split at h
  ·rename_i c' ws' e
   split at h
   ·rename_i ec
    cases h
    subst ec
    cases r with
    | ref hn =>
     obtain ⟨b,h1,C,dx,vs,h2,h3,h4⟩:=hR.ce _ _ e
     rw [hn] at h1
     cases h1
     exact ⟨n,_,C,dx,vs,rfl,hn,e,rfl,h2,h3,h4⟩
   ·cases h
  ·cases h
 | _=>cases h
section
variable {X:Cx} {pos:Pos}
noncomputable def ZBe (c:CD) (i:Nat) (d:DE):DE:=λ sd g=>(d sd g).bind λ p=>(ZHJ c p.1 p.2).bind λ ws=>(ws[i]?).map λ w=>(w,p.2)
theorem ZRY {o:Expr} {c:CD} {C:Addr} {i:Nat} {f:Str} {d:DE} (k:Kls X.K X.mg c C) (hf:c.fs[i]? = some f) (ho:PE X o (tE X.K d)) (hb:attributeBase o f X.env (eval o X.env)=eval o X.env:=by rfl) :
  PE X (.Attribute o f pos) (tE X.K (ZBe c i d)):=(ZRZ ho hb).imp λ σ H Q ⟨ρ,sd,g,x,g',r,e,q⟩=>by
 obtain ⟨⟨y,g1⟩,e1,e⟩:=bnd e
 obtain ⟨ws,e2,e⟩:=bnd e
 obtain ⟨w,e3,e⟩:=mp e
 cases e
 refine ⟨ρ,sd,g,y,g1,r,e1,λ v H1 ρ1 s1 h1 r1=>?_⟩
 obtain ⟨n,a,C',dx,vs,rfl,hn,hg,rfl,hC,ha,hF⟩:=ZGI e2 h1 r1
 rw [k.ns] at hC
 cases hC
 obtain ⟨u,l1,l2⟩:=hF.look k.nd hf e3
 exact ⟨a,C,dx,vs,u,rfl,ha,k.cl,k.na f (List.mem_of_getElem? hf),l1,q u H1 ρ1 s1 h1 l2⟩
theorem ZAG {o:Expr} {c:CD} {C:Addr} {i:Nat} {f:Str} {d:DE} (k:Kls X.K X.mg c C) (hf:c.fs[i]? = some f) (ho:JE X o d) (hb:attributeBase o f X.env (eval o X.env)=eval o X.env:=by rfl):JE X (.Attribute o f pos) (ZBe c i d):=⟨ZRY k hf ho.h hb⟩
def ZOX (i:Nat) (w:W) (ws:List W):Option (List W):=if i < ws.length then some (ws.set i w) else if i=ws.length then some (ws ++ [w]) else none
noncomputable def ZCm (c:CD) (i:Nat) (dobj d:DE):DS:=λ sd g=>(d sd g).bind λ v=>(dobj sd v.2).bind λ o=>(ZHJ c o.1 o.2).bind λ ws=>match o.1 with
 | .ref n=>if ws.length < 1000 then (ZOX i v.1 ws).map λ us=>.nx sd (o.2.set n (.ob c us)) else none
 | _=>none
theorem ZR8 {o e:Expr} {c:CD} {C:Addr} {i:Nat} {f:Str} {dobj d:DE} {pos':Pos} (k:Kls X.K X.mg c C) (hf:c.fs[i]? = some f) (ho:PE X o (tE X.K dobj)) (he:PE X e (tE X.K d)) (hs:swapsWith e (some (.Attribute o f pos')) pos.line X.env=pure false:=by rfl) :
  PS X (.Assign [.Attribute o f pos'] e pos) (tS X.K (ZCm c i dobj d)):=(ZQK ho he hs).imp λ D σ H ⟨ρ,sd,g,oo,r,e,q⟩=>by
 obtain ⟨⟨y,g1⟩,e1,e⟩:=bnd e
 obtain ⟨⟨z,g2⟩,e2,e⟩:=bnd e
 obtain ⟨ws,e3,e⟩:=bnd e
 refine ⟨ρ,sd,g,y,g1,r,e1,λ v H1 ρ1 s1 h1 r1=>⟨ρ1,sd,g1,z,g2,r.step s1 h1,e2,λ u H2 ρ2 s2 h2 r2=>?_⟩⟩
 obtain ⟨n,a,C',dx,vs,rfl,hn,hg,rfl,hC,ha,hF⟩:=ZGI e3 h2 r2
 rw [k.ns] at hC
 cases hC
 dsimp only at e
 split at e
 ·rename_i hz
  obtain ⟨us,e4,e⟩:=mp e
  cases e
  have r1':=r1.mono s2
  have hF2:RelF X.K ρ2 H2 c.fs (ZDC f v vs) us:=by
   unfold ZOX at e4
   split at e4
   ·rename_i hi
    cases e4
    exact hF.set r1' k.nd hf hi
   ·split at e4
    ·rename_i hi
     cases e4
     subst hi
     exact hF.snoc r1' k.nd hf
    ·cases e4
  obtain ⟨hw,sw⟩:=h2.writeC hn (o:=.ins C dx (ZDC f v vs)) (c:=.ob c us) (λ u e=>by rw [ha] at e; cases e; rfl) (λ s=>⟨C,dx,_,k.ns,Zt,hF2.mono s⟩)
  exact ⟨a,C,dx,vs,rfl,ha,k.cl,k.na f (List.mem_of_getElem? hf),by rw [hF.len]; exact hz,q σ _ ρ2 (s1.trans (s2.trans sw)) (r.step (s1.trans (s2.trans sw)) hw)⟩
 ·cases e
theorem ZCU {o e:Expr} {c:CD} {C:Addr} {i:Nat} {f:Str} {dobj d:DE} {pos':Pos} (k:Kls X.K X.mg c C) (hf:c.fs[i]? = some f) (ho:JE X o dobj) (he:JE X e d) (hs:swapsWith e (some (.Attribute o f pos')) pos.line X.env=pure false:=by rfl) :
  JS X (.Assign [.Attribute o f pos'] e pos) (ZCm c i dobj d):=⟨ZR8 k hf ho.h he.h hs⟩
noncomputable def ZFk (c:CD) (fn:List W->G->Option (W × G)) (dobj:DE) (aa:DA):DE:=λ sd g=>(dobj sd g).bind λ o=>(ZHJ c o.1 o.2).bind λ _=>(aa sd o.2).bind λ p=>fn (o.1 :: p.1) p.2
theorem ZPj {o e:Expr} {es:List Expr} {c:CD} {C:Addr} {m qual:Str} {st:Stmt} {ps:List Str} {f:Addr} {fd:FuncData} {k n:Nat} {fn:List W->G->Option (W × G)} {dobj:DE} {aa:DA} {apos:Pos} {pl:Sem Bool} (kl:Kls X.K X.mg c C) (D:MDef X.K C m qual st ps f fd) (F:FnOk X.prog X.w X.K X.mg X.base CX0 k f fd ps (spD X.K (n+1) fn)) (hr:Room k X.A) (hm:m ∉ c.fs)
  (ho:PE X o (tE X.K dobj)) (ha:PA X (e :: es) (tA X.K aa)) (hn:Many aa n) (hst:starEach (e :: es) X.env=(false,eval e X.env) :: starEach es X.env:=by rfl) (hpl:(backTo pos (starEach es X.env)).any (·.1)=false:=by rfl)
  (ht:eval (.Call (.Attribute o m apos) (e :: es) [] pos) X.env=(do
   let ov ← eval o X.env
   standAt apos.atName
   let (f,first) ← holding [ov] (getMethod ov m pl)
   callWith pos f first (backTo pos (starEach (e :: es) X.env)) (backToKw pos (keywordEach [] X.env))):=by rfl) :
  PE X (.Call (.Attribute o m apos) (e :: es) [] pos) (tE X.K (ZFk c fn dobj aa)):=(ZPt (pl:=pl) ho kl.cl D.me F hr D.bd .nil ZMh ha hst hpl ht).imp λ σ H Q ⟨ρ,sd,g,x,g',r,e,q⟩=>by
 obtain ⟨⟨y,g1⟩,e1,e⟩:=bnd e
 obtain ⟨ws,e2,e⟩:=bnd e
 obtain ⟨⟨us,g2⟩,e3,e⟩:=bnd e
 refine ⟨ρ,sd,g,y,g1,r,e1,λ v H1 ρ1 s1 h1 r1=>?_⟩
 obtain ⟨n',a,C',dx,vs,rfl,hn',hg,rfl,hC,ha,hF⟩:=ZGI e2 h1 r1
 rw [kl.ns] at hC
 cases hC
 refine ⟨a,dx,vs,rfl,ha,hF.no hm,ρ1,sd,g1,us,g2,r.step s1 h1,e3,λ vs2 H2 ρ2 s2 h2 r2=>?_⟩
 show spD X.K (n+1) fn (V.ref a :: (vs2 ++ [])) H2 Q E0
 rw [List.append_nil]
 exact ⟨by rw [List.length_cons,r2.length,hn.len e3],ρ2,_,g2,x,g',h2,.cons (r1.mono s2) r2,e,q.step (s1.trans s2)⟩
theorem ZJF {o e:Expr} {es:List Expr} {c:CD} {C:Addr} {m qual:Str} {st:Stmt} {ps:List Str} {f:Addr} {fd:FuncData} {k n:Nat} {fn:List W->G->Option (W × G)} {dobj:DE} {aa:DA} {apos:Pos} {pl:Sem Bool} (kl:Kls X.K X.mg c C) (D:MDef X.K C m qual st ps f fd) (F:FnOk X.prog X.w X.K X.mg X.base CX0 k f fd ps (spD X.K (n+1) fn)) (hr:Room k X.A) (hm:m ∉ c.fs)
  (ho:JE X o dobj) (ha:JA X (e :: es) aa) (hn:Many aa n) (hst:starEach (e :: es) X.env=(false,eval e X.env) :: starEach es X.env:=by rfl) (hpl:(backTo pos (starEach es X.env)).any (·.1)=false:=by rfl)
  (ht:eval (.Call (.Attribute o m apos) (e :: es) [] pos) X.env=(do
   let ov ← eval o X.env
   standAt apos.atName
   let (f,first) ← holding [ov] (getMethod ov m pl)
   callWith pos f first (backTo pos (starEach (e :: es) X.env)) (backToKw pos (keywordEach [] X.env))):=by rfl) :
  JE X (.Call (.Attribute o m apos) (e :: es) [] pos) (ZFk c fn dobj aa):=⟨ZPj (pl:=pl) kl D F hr hm ho.h ha.h hn hst hpl ht⟩
def ZJE (c:CD) (fn:List W->G->Option (W × G)) (aa:DA):DE:=λ sd g=>(aa sd g).bind λ p=>(fn (.ref p.2.length :: p.1) (p.2 ++ [.ob c []])).bind λ z=>match z.1 with
 | .dat .none=>some (.ref p.2.length,z.2)
 | _=>none
theorem ZPY {x:Str} {p:Pos} {e:Expr} {es:List Expr} {c:CD} {C:Addr} {qual:Str} {st:Stmt} {ps:List Str} {f:Addr} {fd:FuncData} {k n:Nat} {fn:List W->G->Option (W × G)} {aa:DA} (kl:Kls X.K X.mg c C) (hx:x=c.nm) (M:Mk X.K C f) (D:MDef X.K C "__init__" qual st ps f fd) (F:FnOk X.prog X.w X.K X.mg X.base CX0 k f fd ps (spD X.K (n+1) fn)) (hr:Room (k+1) X.A)
  (ha:PA X (e :: es) (tA X.K aa)) (hn:Many aa n) (hg:Gl X x:=by rfl) (hdb:(x == ("__debug__" : Str))=false:=by decide) (he:starEach (e :: es) X.env=(false,eval e X.env) :: starEach es X.env:=by rfl) (hpl:(backTo pos (starEach es X.env)).any (·.1)=false:=by rfl) :
  PE X (.Call (.Name x p) (e :: es) [] pos) (tE X.K (ZJE c fn aa)):=(ZOi M F hr hg (by rw [hx]; exact kl.mg_) D.bd .nil ZMh ha hdb he hpl).imp λ σ H Q ⟨ρ,sd,g,z,g',r,e,q⟩=>by
 obtain ⟨⟨ws,g1⟩,e1,e⟩:=bnd e
 obtain ⟨⟨z2,g2⟩,e2,e⟩:=bnd e
 refine ⟨ρ,sd,g,ws,g1,r,e1,λ vs H1 ρ1 s1 h1 r1=>?_⟩
 intro a dx na ndx ne
 obtain ⟨sm,hr2,hnm⟩:=ZCy (o:=.own a) h1 ndx
 have s2:Stp ρ1 H1 ρ1 (upd H1 dx (.own a)):=.same sm
 obtain ⟨hr3,s3⟩:=hr2.allocC (p:=a) (by rw [Zg (Ne.symm ne)]; exact na) (o:=.ins C dx []) (c:=.ob c []) λ s=>⟨C,dx,[],kl.ns,Zt,.nil⟩
 have r1':=(r1.mono s2).mono s3
 show spD X.K (n+1) fn (V.ref a :: (vs ++ [])) _ _ E0
 rw [List.append_nil]
 have ha':(ρ1.add a).c[g1.length]? = some a:=by show (ρ1.c ++ [a])[_]? = _; rw [← h1.len]; simp
 refine ⟨by rw [List.length_cons,r1.length,hn.len e1],ρ1.add a,_,_,z2,g2,hr3,.cons (.ref ha') r1',e2,λ v H4 ρ4 s4 h4 r4=>?_⟩
 cases r4 with
 | dat r4 =>
  cases r4 with
  | non =>
   cases e
   exact ⟨rfl,q _ H4 ρ4 (s1.trans (s2.trans (s3.trans s4))) h4 (.ref (ZD7 s4 ha'))⟩
  | _=>cases e
 | _=>cases e
theorem ZNn {x:Str} {p:Pos} {e:Expr} {es:List Expr} {c:CD} {C:Addr} {qual:Str} {st:Stmt} {ps:List Str} {f:Addr} {fd:FuncData} {k n:Nat} {fn:List W->G->Option (W × G)} {aa:DA} (kl:Kls X.K X.mg c C) (hx:x=c.nm) (M:Mk X.K C f) (D:MDef X.K C "__init__" qual st ps f fd) (F:FnOk X.prog X.w X.K X.mg X.base CX0 k f fd ps (spD X.K (n+1) fn)) (hr:Room (k+1) X.A)
  (ha:JA X (e :: es) aa) (hn:Many aa n) (hg:Gl X x:=by rfl) (hdb:(x == ("__debug__" : Str))=false:=by decide) (he:starEach (e :: es) X.env=(false,eval e X.env) :: starEach es X.env:=by rfl) (hpl:(backTo pos (starEach es X.env)).any (·.1)=false:=by rfl) :
  JE X (.Call (.Name x p) (e :: es) [] pos) (ZJE c fn aa):=⟨ZPY kl hx M D F hr ha.h hn hg hdb he hpl⟩
end
section
variable {sd:Sd} {g:G} {P:W->G->Prop} {PS':Out->Prop} {d dobj:DE} {aa:DA} {c:CD}
theorem x_fld {i:Nat} (h:EvP (d sd g) λ x g1=>∃ n ws w,x=.ref n/\g1[n]? = some (.ob c ws)/\ws[i]? = some w/\P w g1):EvP (ZBe c i d sd g) P:=by
 obtain ⟨x,g1,e1,n,ws,w,rfl,e2,e3,h⟩:=h
 refine ⟨w,g1,?_,h⟩
 unfold ZBe
 rw [e1]
 show (ZHJ c (.ref n) g1).bind _=_
 rw [ZH1 e2]
 show (ws[i]?).map _=_
 rw [e3]
 rfl
theorem ZRr {i:Nat} (h:EvP (d sd g) λ v g1=>EvP (dobj sd g1) λ x g2=>∃ n ws us,x=.ref n/\g2[n]? = some (.ob c ws)/\ws.length < 1000/\ZOX i v ws=some us/\PS' (.nx sd (g2.set n (.ob c us)))):EvS (ZCm c i dobj d sd g) PS':=by
 obtain ⟨v,g1,e1,x,g2,e2,n,ws,us,rfl,e3,hz,e4,h⟩:=h
 refine ⟨_,?_,h⟩
 unfold ZCm
 rw [e1]
 show (dobj sd g1).bind _=_
 rw [e2]
 show (ZHJ c (.ref n) g2).bind _=_
 rw [ZH1 e3]
 show (if ws.length < 1000 then _ else _)=_
 rw [if_pos hz]
 show (ZOX i v ws).map _=_
 rw [e4]
 rfl
theorem ZRn {fn:List W->G->Option (W × G)} (h:EvP (dobj sd g) λ x g1=>∃ n ws,x=.ref n/\g1[n]? = some (.ob c ws)/\EvP (aa sd g1) λ vs g2=>EvP (fn (.ref n :: vs) g2) P):EvP (ZFk c fn dobj aa sd g) P:=by
 obtain ⟨x,g1,e1,n,ws,rfl,e2,vs,g2,e3,y,g3,e4,h⟩:=h
 refine ⟨y,g3,?_,h⟩
 unfold ZFk
 rw [e1]
 show (ZHJ c (.ref n) g1).bind _=_
 rw [ZH1 e2]
 show (aa sd g1).bind _=_
 rw [e3]
 exact e4
theorem ZRl {fn:List W->G->Option (W × G)} (h:EvP (aa sd g) λ vs g1=>EvP (fn (.ref g1.length :: vs) (g1 ++ [.ob c []])) λ z g2=>z=.dat .none/\P (.ref g1.length) g2):EvP (ZJE c fn aa sd g) P:=by
 obtain ⟨vs,g1,e1,z,g2,e2,rfl,h⟩:=h
 refine ⟨_,g2,?_,h⟩
 unfold ZJE
 rw [e1]
 show (fn _ _).bind _=_
 rw [e2]
 rfl
end
end L2
namespace L2
open PySem PySem.Spec PyProof.Rows H1
theorem ZGU {M:Model} {A:Around} {E:Value->Shared->Prop} {s:Shared} {a b:Value} {T id:String} {Q:Value->Shared->Prop} (ha:s.TypeIs a T) (hb:s.TypeIs b T)
  (hI:typeLookup (.type T) (dunderI "add")=pure (some (.builtin id))) (hS:isSeqSlot (some (.builtin id))=true) (hfill:fillsNumberSlot (.type T) "add" = pure false)
  (hc:wpAny M A (call (.builtin id) [a,b]) Q E s):wpAny M A (inplaceOp .Add a b) Q E s:=by
 unfold inplaceOp
 refine wpAny_holding ?_
 have hfi:fillsInplaceSlot (.type T) "add" (Operator.Add == .Add)=pure false:=by
  unfold fillsInplaceSlot
  show (typeLookup (.type T) (dunderI "add") >>= λ fi=>pure (fi.isSome && !isSeqSlot fi))=pure false
  rw [hI,pure_bind,hS]
  rfl
 have hsi:seqSlot? (.type T) (dunderI "add")=pure (some (.builtin id)):=PySem.seqSlot_of hI hS
 refine wpAny_bind (wpAny_typeOf ha (wpAny_bind (wpAny_of_eq hfi ?_)))
 show wpAny M A (if false=true then _ else _) Q E s
 rw [if_neg Bool.false_ne_true]
 refine wpAny_bind (wpAny_binaryOp1_none (nm:="add") ha hb hfill ?_)
 refine wpAny_bind (wpAny_of_eq hsi ?_)
 exact wpAny_bind (wpAny_rule hc)
section
variable {X:Cx}
def ipExt:TIp:=λ x y H Q=>∃ l b xs zs,x=.ref l/\y=.ref b/\H l=some (.lst xs)/\H b=some (.lst zs)/\xs.length+zs.length<=sizeLine/\Q (.ref l) (upd H l (.lst (xs ++ zs)))
theorem ZQ2:PIp X .Add ipExt:=by
 intro pins s σ H x y v u Q I rx ry h
 obtain ⟨l,b,xs,zs,rfl,rfl,hH,hB,hz,q⟩:=h
 cases rx
 cases ry
 obtain ⟨z,its,n,r,hl,e⟩:=I.lstM hH
 obtain ⟨z2,its2,n2,r2,hl2,e2⟩:=I.lstM hB
 have hsz:its.toArray.size+its2.toArray.size<=sizeLine:=by rw [List.size_toArray,List.size_toArray]; omega
 have hlong : ¬ (!its.toArray.isEmpty && Builtin.List.listTooLong (its.toArray.size+its2.toArray.size))=true:=by
  rw [ZJI hsz,Bool.and_false]
  exact Bool.false_ne_true
 refine ZGU (T:="list") ⟨_,e,rfl⟩ ⟨_,e2,rfl⟩ F.slot_list_iadd.lookup (by decide +kernel) PySem.noFill_list_add ?_
 refine call_meets F.slot_list_iadd ⟨_,e,rfl⟩ F.entry_list_iadd (F.args_list_iadd_2 _ _)
  (AutoSeq1.list___iadd___list_list_0 l its.toArray n b its2.toArray n2 hlong (by rw [List.size_toArray]; omega) (by omega)) ⟨e,e2,?_⟩
 refine ⟨.ref l,_,I.lset (its':=its ++ its2) hH e (by simp) (r.append r2) ?_,rfl,q⟩
 rw [List.length_append]
 omega
def ZHj (i:Nat) (d:DE):DS:=λ sd g=>match sd.getD i none with
 | some (.ref n)=>(d sd g).bind λ p=>match p.1 with
  | .dat (.list es)=>(lk p.2 n).bind λ ds=>if ds.length+es.length<=1000 then some (.nx (sd.set i (some (.ref n))) (p.2.set n (.pl (ds ++ es)))) else none
  | _=>none
 | _=>none
theorem ZOU {i:Nat} {x:Str} {e:Expr} {d:DE} {pos pos':Pos} (hN:X.N.Nodup) (hi:X.N[i]? = some x) (hx:Loc X.env.scope x) (he:PE X e (tE X.K d)) (hf:X.fn x=true ∨ X.env.scope.names.lookup x=some .local:=by first | exact .inl rfl | exact .inr rfl | assumption) :
  PS X (.AugAssign (.Name x pos') .Add e pos) (tS X.K (ZHj i d)):=(ZQG hN hi hx he ZQ2 hf).imp λ D σ H ⟨ρ,sd,g,oo,r,e,q⟩=>by
 unfold ZHj at e
 cases h:sd.getD i none with
 | none=>rw [h] at e; cases e
 | some w =>
  rw [h] at e
  have h':sd[i]? = some (some w):=by
   rw [List.getD_eq_getElem?_getD] at h
   cases k:sd[i]? with
   | none=>rw [k] at h; cases h
   | some w=>rw [k] at h; exact congrArg some h
  obtain ⟨v,h1,h2⟩:=r.env i w h'
  refine ⟨v,h1,?_⟩
  cases h2 with
  | @ref a n hn =>
   obtain ⟨⟨y,g1⟩,e1,e⟩:=bnd e
   refine ⟨ρ,sd,g,y,g1,r,e1,λ v H1 ρ1 s1 h1 r1=>?_⟩
   cases r1 with
   | dat r1 =>
    cases r1 with
    | @lst b vs ds hb nb t =>
     obtain ⟨es,e2,e⟩:=bnd e
     dsimp only at e
     split at e
     ·rename_i hz
      cases e
      obtain ⟨a',us,k1,k2,k3⟩:=h1.at_ _ _ (ZF6 e2)
      have hn2:=ZD7 s1 hn
      rw [hn2] at k1
      cases k1
      obtain ⟨hw,sw⟩:=h1.write hn2 k2 (k3.append t)
      exact ⟨_,_,us,vs,rfl,rfl,k2,hb,by rw [k3.length,t.length]; exact Nat.le_of_lt (ZAC hz),q _ _ ρ1 (s1.trans sw) ((r.step (s1.trans sw) hw).set (.ref hn2) i)⟩
     ·cases e
    | _=>cases e
   | _=>cases e
  | _=>cases e
theorem ZM6 {i:Nat} {x:Str} {e:Expr} {d:DE} {pos pos':Pos} (hN:X.N.Nodup) (hi:X.N[i]? = some x) (hx:Loc X.env.scope x) (he:JE X e d) (hf:X.fn x=true ∨ X.env.scope.names.lookup x=some .local:=by first | exact .inl rfl | exact .inr rfl | assumption) :
  JS X (.AugAssign (.Name x pos') .Add e pos) (ZHj i d):=⟨ZOU hN hi hx he.h hf⟩
end
theorem ZRU {sd:Sd} {g:G} {PS':Out->Prop} {d:DE} {i n:Nat} (hi:sd.getD i none=some (.ref n)) (h:EvP (d sd g) λ x g1=>∃ es,x=.dat (.list es)/\∃ ds,g1[n]? = some (.pl ds)/\ds.length+es.length<=1000/\PS' (.nx (sd.set i (some (.ref n))) (g1.set n (.pl (ds ++ es))))):EvS (ZHj i d sd g) PS':=by
 obtain ⟨x,g1,e1,es,rfl,ds,e2,hz,h⟩:=h
 refine ⟨_,?_,h⟩
 unfold ZHj
 rw [hi]
 show (d sd g).bind _=_
 rw [e1]
 show (lk g1 n).bind _=_
 rw [ZJY e2]
 exact if_pos hz
end L2
namespace L2
open PySem PySem.Spec PyProof.Rows H1
def ZPv:W->Bool
 | .dat .none=>true
 | _=>false
def ZP8:W->W->G->Option (W × G)
 | x,.dat .none,g=>some (.dat (.bool (ZPv x)),g)
 | _,_,_=>none
theorem ZLh {K:PySem.W.Frag} {ρ : Rh} {H:Hp} {x:V} {w:W} {v:Value} (r:Rel K ρ H x w) (rx:ZAD x v):(v == Value.none)=ZPv w:=by
 cases r with
 | dat r =>
  cases r with
  | non=>cases rx; rfl
  | bl b=>cases rx; rfl
  | int i=>obtain ⟨t,rfl⟩:=rx; rfl
  | str i=>obtain ⟨t,rfl⟩:=rx; rfl
  | tup _ _=>cases rx; rfl
  | lst _ _ _=>cases rx; rfl
  | dct _ _=>cases rx; rfl
 | ref _=>cases rx; rfl
 | inp _=>cases rx; rfl
 | ty=>cases rx; rfl
 | tup _ _=>cases rx; rfl
section
variable {X:Cx}
theorem oIsN:OpR X (compareOp .Is) (rOp X.K ZP8):=by
 intro pins s σ H x y v u Q I rx ry h
 obtain ⟨ρ,a,b,g,z,g',hR,ra,rb,e,q⟩:=h
 cases rb with
 | dat rb =>
  cases rb with
  | non =>
   cases e
   cases ry
   exact is_none_gen ⟨.bl _,H,I,by rw [ZLh ra rx]; rfl,q.at hR (.dat (.bl _))⟩
  | _=>cases e
 | _=>cases e
end
end L2
namespace L2
open PySem PySem.Spec PyProof.Rows H1
def H0:Hs:=(0,[],[],[])
structure En where
 r:Ru
 ts:List (Int × Int)
 tn:Int
 lo:List Int
abbrev Lt:=Int × Int × Bool
def ltD (l:Lt):PyData:=.tuple [.int l.1,.int l.2.1,.bool l.2.2]
structure Rw where
 hs:List Hs
 le:List Lt
def abF (b:List (Int × Int)) (h:Nat):Bool:=decide ((b.getD h (0,0)).2 < 2)
section
variable (e:En)
def ZG1 (x y:Nat):List Int:=ZB0 e.r.cl x y (ZDl (e.ts.getD x (0,0)) e.tn % ((e.ts.length:Nat):Int))
def ZFo (h:Hs) (x y:Nat):List Int:=ZCv e.r h.2.2.1 x (ZG1 e x y)
def ZCA (x y:Nat) (hs:List Hs):List Hs:=hs.set x ((hs.getD x H0).1,(hs.getD x H0).2.1,ZA7 (hs.getD x H0).2.2.1 (ZFo e (hs.getD x H0) x y),(hs.getD x H0).2.2.2)
def ZDy (x y:Nat) (hs:List Hs):List Hs:=(ZCA e x y hs).set y (ZAR e.r.cl y (hs.getD y H0) (ZB1 (hs.getD x H0).2.1 (ZG1 e x y) (ZFo e (hs.getD x H0) x y) e.ts.length))
def ZAq (x y:Nat) (R:Rw):Bool × Rw :=
 if e.lo.contains (R.le.length:Int)=true then (false,⟨ZCA e x y R.hs,R.le ++ [((x:Int),(y:Int),true)]⟩)
 else if (R.hs.getD y H0).1=0 then (false,⟨ZCA e x y R.hs,R.le ++ [((x:Int),(y:Int),false)]⟩)
 else (true,⟨ZDy e x y R.hs,R.le ++ [((x:Int),(y:Int),false)]⟩)
def ZDO:List (Nat × Nat)->Rw->Bool × Rw
 | [],R=>(true,R)
 | p :: w,R=>if (ZAq e p.1 p.2 R).1=true then ZDO w (ZAq e p.1 p.2 R).2 else (false,(ZAq e p.1 p.2 R).2)
def ZBX:List (List (Nat × Nat))->Rw->Bool × Rw
 | [],R=>(false,R)
 | w :: ws,R=>if (ZDO e w R).1=true then (true,(ZDO e w R).2) else ZBX ws (ZDO e w R).2
def ZF9 (book:List (Int × Int)) (a b:Nat):List Nat:=((((List.range (book.length - 1)).map λ k=>(a+(k+1)) % book.length).filter λ h=>!decide (h=b) && abF book h)).take e.r.o.toNat
def ZBr (hs:List Hs) (a b:Nat):List (List (Nat × Nat)):=[(a,b),(b,a)] ::
 (if (ZEI e.r.cl "others" && abF (hs.getD a H0).2.1 b)=true then (ZF9 e (hs.getD a H0).2.1 a b).map λ h=>[(a,h),(h,b),(b,h),(h,a)] else [])
def ZHC (b:Nat) (ans:Bool) (h:Hs):Hs :=
 if ans=true then (h.1,h.2.1,h.2.2.1,h.2.2.2.set b 0)
 else if (abF h.2.1 b && (!ZEI e.r.cl "wait" || decide (h.2.2.2.getD b 0=1)))=true then (h.1,h.2.1.set b ((h.2.1.getD b (0,0)).1,2),h.2.2.1.set b 0,h.2.2.2.set b 0)
 else if (abF h.2.1 b && decide (h.2.2.2.getD b 0=0))=true then
  (if (h.2.1.getD b (0,0)).2=0 then (h.1,h.2.1.set b ((h.2.1.getD b (0,0)).1,1),h.2.2.1.set b 0,h.2.2.2.set b e.r.w) else (h.1,h.2.1,h.2.2.1,h.2.2.2.set b e.r.w))
 else if abF h.2.1 b=true then (h.1,h.2.1,h.2.2.1,h.2.2.2.set b (h.2.2.2.getD b 0 - 1))
 else h
def ZGJ (a b:Nat) (ans:Bool) (hs:List Hs):List Hs:=hs.set a (ZHC e b ans (hs.getD a H0))
def tgF (a:Nat):Nat:=(((a:Int)+1+(ZDl (e.ts.getD a (0,0)) e.tn - 1) % ((e.ts.length:Int) - 1)) % (e.ts.length:Int)).toNat
def ZR7 (a b:Nat) (hs:List Hs):Bool:=if b=tgF e a then ZEI e.r.cl "again" || abF (hs.getD a H0).2.1 b else decide (0 < (hs.getD a H0).2.2.2.getD b 0)
def ZEV (a b:Nat) (R:Rw):Rw:=if ZR7 e a b R.hs=true then ⟨ZGJ e a b (ZBX e (ZBr e R.hs a b) R).1 (ZBX e (ZBr e R.hs a b) R).2.hs,(ZBX e (ZBr e R.hs a b) R).2.le⟩ else R
def ZHQ (a:Nat):List Nat:=tgF e a :: (List.range e.ts.length).filter λ b=>!decide (b=a) && !decide (b=tgF e a)
def ZL0 (a:Nat) (R:Rw):Rw:=(ZHQ e a).foldl (λ R b=>ZEV e a b R) R
def ZSF (c:Int × Int) (n:Int):Bool:=decide (c.2<=n) && decide ((n - c.2) % c.1=0)
def ZOT (a:Nat) (hs:List Hs):Bool:=decide ((hs.getD a H0).1=1) && ZSF (e.ts.getD a (0,0)) e.tn
def ZCe (a:Nat) (R:Rw):Rw:=if ZOT e a R.hs=true then ZL0 e a R else R
def ZP0 (R:Rw):Rw:=(List.range e.ts.length).foldl (λ R a=>ZCe e a R) R
def ZBN (x:Nat) (R:Rw):Rw:=(List.range e.ts.length).foldl (λ R y=>if y=x then R else (ZAq e x y R).2) R
end
def ZBU (x:Nat) (hs:List Hs):List Hs:=hs.set x (0,(hs.getD x H0).2.1,(hs.getD x H0).2.2.1,(hs.getD x H0).2.2.2)
def doH (fa le co:List Int) (i:Nat) (h:Hs):Hs :=
 if fa.contains (i:Int)=true then (0,h.2.1,h.2.2.1,List.replicate h.2.2.2.length 0)
 else if le.contains (i:Int)=true then (h.1,h.2.1.set i ((h.2.1.getD i (0,0)).1,3),h.2.2.1.set i 0,List.replicate h.2.2.2.length 0)
 else if co.contains (i:Int)=true then (1,h.2.1.set i ((h.2.1.getD i (0,0)).1+1,0),h.2.2.1.set i 0,h.2.2.2)
 else h
def ZAK (fa le co:List Int) (hs:List Hs):List Hs:=(List.range hs.length).map λ i=>doH fa le co i (hs.getD i H0)
def ZEx (r:Ru) (ts:List (Int × Int)) (tn:Int) (hs:List Hs) (lo fa le co:List Int):Rw :=
 let e:En:=⟨r,ts,tn,lo⟩
 let R1:=(le ++ co).foldl (λ R x=>ZBN e x.toNat R) ⟨ZAK fa le co hs,[]⟩
 ZP0 e ⟨le.foldl (λ hs x=>ZBU x.toNat hs) R1.hs,R1.le⟩
structure HL (n:Nat) (h:Hs):Prop where
 up:h.1=0 ∨ h.1=1
 bl:h.2.1.length=n
 tl:h.2.2.1.length=n
 ml:h.2.2.2.length=n
structure HsL (n:Nat) (hs:List Hs):Prop where
 len:hs.length=n
 all:∀ h ∈ hs,HL n h
theorem HsL.get {n:Nat} {hs:List Hs} (w:HsL n hs) {i:Nat} (hi:i < n):HL n (hs.getD i H0):=w.all _ (ZGC (d:=H0) (by rw [w.len]; exact hi))
theorem HsL.set {n i:Nat} {hs:List Hs} {h:Hs} (w:HsL n hs) (hh:HL n h):HsL n (hs.set i h):=⟨by rw [List.length_set]; exact w.len,λ z hz=>ZKc w.all hh hz⟩
theorem ZPL {cl:List Str} {y n:Nat} {h:Hs} {x:Nat × (Int × Int)} (w:HL n h):HL n (ZAz cl y h x):=by
 unfold ZAz
 split
 ·unfold ZIC
  split
  ·exact ⟨w.up,by rw [List.length_set]; exact w.bl,by rw [List.length_set]; exact w.tl,w.ml⟩
  ·exact w
 ·unfold ZIW
  split
  ·refine ⟨w.up,by rw [List.length_set]; exact w.bl,by rw [List.length_set]; exact w.tl,?_⟩
   show (if x.2.2=1 then h.2.2.2 else h.2.2.2.set x.1 0).length=n
   split
   ·exact w.ml
   ·rw [List.length_set]; exact w.ml
  ·exact w
theorem ZGj {cl:List Str} {y n:Nat}:∀ {ns:List (Nat × (Int × Int))} {h:Hs},HL n h->HL n (ZAR cl y h ns)
 | [],_,w=>w
 | x :: r,h,w=>by
  show HL n (ZAR cl y (ZAz cl y h x) r)
  exact ZGj (ZPL w)
section
variable {e:En} {n:Nat}
theorem ZIq {x y:Nat} {hs:List Hs} (w:HsL n hs) (hx:x < n):HsL n (ZCA e x y hs):=w.set ⟨(w.get hx).up,(w.get hx).bl,by rw [show ∀ (a:Int) b c d,((a,b,c,d):Hs).2.2.1=c from λ _ _ _ _=>rfl,ZCW]; exact (w.get hx).tl,(w.get hx).ml⟩
theorem ZPI {x y:Nat} {hs:List Hs} (w:HsL n hs) (hx:x < n) (hy:y < n):HsL n (ZDy e x y hs):=(ZIq w hx).set (ZGj (w.get hy))
theorem ZFB {x y:Nat} {R:Rw} (w:HsL n R.hs) (hx:x < n) (hy:y < n):HsL n (ZAq e x y R).2.hs:=by
 unfold ZAq
 split
 ·exact ZIq w hx
 ·split
  ·exact ZIq w hx
  ·exact ZPI w hx hy
theorem ZFD {x y:Nat} {R:Rw}:(ZAq e x y R).2.le.length=R.le.length+1:=by
 unfold ZAq
 split
 ·simp
 ·split <;> simp
theorem ZIh:∀ {w:List (Nat × Nat)} {R:Rw},HsL n R.hs->(∀ p ∈ w,p.1 < n/\p.2 < n)->HsL n (ZDO e w R).2.hs/\(ZDO e w R).2.le.length<=R.le.length+w.length
 | [],R,h,_=>⟨h,Nat.le_refl _⟩
 | p :: w,R,h,hp=>by
  have hp0:=hp p (List.mem_cons_self ..)
  have h1:=ZFB (e:=e) h hp0.1 hp0.2
  have h2:=ZFD (e:=e) (x:=p.1) (y:=p.2) (R:=R)
  rw [ZDO]
  split
  ·obtain ⟨h3,h4⟩:=ZIh (w:=w) h1 λ q hq=>hp q (List.mem_cons_of_mem _ hq)
   exact ⟨h3,by rw [List.length_cons]; omega⟩
  ·exact ⟨h1,by rw [List.length_cons]; show (ZAq e p.1 p.2 R).2.le.length<=_; omega⟩
theorem ZGQ:∀ {ws:List (List (Nat × Nat))} {R:Rw},HsL n R.hs->(∀ w ∈ ws,∀ p ∈ w,p.1 < n/\p.2 < n)->HsL n (ZBX e ws R).2.hs/\(ZBX e ws R).2.le.length<=R.le.length+(ws.map List.length).sum
 | [],R,h,_=>⟨h,Nat.le_refl _⟩
 | w :: ws,R,h,hp=>by
  obtain ⟨h1,h2⟩:=ZIh (e:=e) (w:=w) h (hp w (List.mem_cons_self ..))
  rw [ZBX]
  split
  ·exact ⟨h1,by rw [List.map_cons,List.sum_cons]; show (ZDO e w R).2.le.length<=_; omega⟩
  ·obtain ⟨h3,h4⟩:=ZGQ (ws:=ws) h1 λ q hq=>hp q (List.mem_cons_of_mem _ hq)
   exact ⟨h3,by rw [List.map_cons,List.sum_cons]; omega⟩
theorem ZHm {book:List (Int × Int)} {a b h:Nat} (hh:h ∈ ZF9 e book a b) (hn : 0 < book.length):h < book.length/\h ≠ b/\∃ k,k < book.length - 1/\h=(a+(k+1)) % book.length:=by
 unfold ZF9 at hh
 have h1:=List.mem_filter.mp (List.mem_of_mem_take hh)
 obtain ⟨k,hk,rfl⟩:=List.mem_map.mp h1.1
 refine ⟨Nat.mod_lt _ hn,λ z=>?_,k,List.mem_range.mp hk,rfl⟩
 have h2:=h1.2
 rw [z,decide_eq_true rfl] at h2
 cases h2
theorem ZNa {book:List (Int × Int)} {a b h:Nat} (hh:h ∈ ZF9 e book a b) (ha:a < book.length):h ≠ a:=by
 obtain ⟨h1,h2,k,hk,rfl⟩:=ZHm hh (by omega)
 by_cases z:a+(k+1) < book.length
 ·rw [Nat.mod_eq_of_lt z]; omega
 ·rw [Nat.mod_eq_sub_mod (by omega),Nat.mod_eq_of_lt (by omega)]; omega
theorem ZHV {book:List (Int × Int)} {a b:Nat} (ho : 0<=e.r.o/\e.r.o<=3):(ZF9 e book a b).length<=3:=by
 unfold ZF9
 rw [List.length_take]
 omega
theorem ZDG {hs:List Hs} {a b:Nat} (w:HsL n hs) (ha:a < n) (hb:b < n) (hab:a ≠ b):∀ v ∈ ZBr e hs a b,∀ p ∈ v,(p.1 < n/\p.2 < n)/\p.1 ≠ p.2:=by
 have hbl:=(w.get ha).bl
 intro v hv p hp
 unfold ZBr at hv
 rcases List.mem_cons.mp hv with rfl | hv
 ·simp only [List.mem_cons,List.not_mem_nil,or_false] at hp
  rcases hp with rfl | rfl
  ·exact ⟨⟨ha,hb⟩,hab⟩
  ·exact ⟨⟨hb,ha⟩,λ z=>hab z.symm⟩
 ·split at hv
  ·obtain ⟨h,hh,rfl⟩:=List.mem_map.mp hv
   have h1:=ZHm hh (by rw [hbl]; omega)
   have h2:=ZNa hh (by rw [hbl]; exact ha)
   rw [hbl] at h1
   simp only [List.mem_cons,List.not_mem_nil,or_false] at hp
   rcases hp with rfl | rfl | rfl | rfl
   ·exact ⟨⟨ha,h1.1⟩,λ z=>h2 z.symm⟩
   ·exact ⟨⟨h1.1,hb⟩,h1.2.1⟩
   ·exact ⟨⟨hb,h1.1⟩,λ z=>h1.2.1 z.symm⟩
   ·exact ⟨⟨h1.1,ha⟩,h2⟩
  ·cases hv
theorem ZHX {hs:List Hs} {a b:Nat} (ho : 0<=e.r.o/\e.r.o<=3):((ZBr e hs a b).map List.length).sum<=14:=by
 unfold ZBr
 rw [List.map_cons,List.sum_cons]
 split
 ·rw [List.map_map]
  have:∀ L:List Nat,(L.map (List.length ∘ λ h=>[(a,h),(h,b),(b,h),(h,a)])).sum=4 * L.length:=by
   intro L
   induction L with
   | nil=>rfl
   | cons x r ih=>rw [List.map_cons,List.sum_cons,ih,List.length_cons]; show 4+_=_; omega
  rw [this]
  have:=ZHV (e:=e) (book:=(hs.getD a H0).2.1) (a:=a) (b:=b) ho
  show 2+_<=14
  omega
 ·show 2+0<=14
  omega
theorem ZRk {b:Nat} {ans:Bool} {h:Hs} (w:HL n h):HL n (ZHC e b ans h):=by
 unfold ZHC
 have sl:∀ {α : Type} {xs:List α} {i:Nat} {v : α},(xs.set i v).length=xs.length:=List.length_set
 split
 ·exact ⟨w.up,w.bl,w.tl,sl.trans w.ml⟩
 ·split
  ·exact ⟨w.up,sl.trans w.bl,sl.trans w.tl,sl.trans w.ml⟩
  ·split
   ·split
    ·exact ⟨w.up,sl.trans w.bl,sl.trans w.tl,sl.trans w.ml⟩
    ·exact ⟨w.up,w.bl,w.tl,sl.trans w.ml⟩
   ·split
    ·exact ⟨w.up,w.bl,w.tl,sl.trans w.ml⟩
    ·exact w
theorem ZRK {a b:Nat} {ans:Bool} {hs:List Hs} (w:HsL n hs) (ha:a < n):HsL n (ZGJ e a b ans hs):=w.set (ZRk (w.get ha))
theorem ZR6 {a:Nat} (hn : 2<=e.ts.length):tgF e a < e.ts.length:=by
 unfold tgF
 have h1:=Int.emod_nonneg ((a:Int)+1+(ZDl (e.ts.getD a (0,0)) e.tn - 1) % ((e.ts.length:Int) - 1)) (show (e.ts.length:Int) ≠ 0 by omega)
 have h2:=Int.emod_lt_of_pos ((a:Int)+1+(ZDl (e.ts.getD a (0,0)) e.tn - 1) % ((e.ts.length:Int) - 1)) (show (0:Int) < e.ts.length by omega)
 omega
theorem ZRv {a:Nat} (hn : 2<=e.ts.length) (ha:a < e.ts.length):tgF e a ≠ a:=by
 unfold tgF
 have h1:=Int.emod_nonneg (ZDl (e.ts.getD a (0,0)) e.tn - 1) (show (e.ts.length:Int) - 1 ≠ 0 by omega)
 have h2:=Int.emod_lt_of_pos (ZDl (e.ts.getD a (0,0)) e.tn - 1) (show (0:Int) < (e.ts.length:Int) - 1 by omega)
 generalize (ZDl (e.ts.getD a (0,0)) e.tn - 1) % ((e.ts.length:Int) - 1)=k at *
 by_cases z:(a:Int)+1+k < e.ts.length
 ·rw [Int.emod_eq_of_lt (by omega) z]; omega
 ·have:((a:Int)+1+k) % (e.ts.length:Int)=(a:Int)+1+k - e.ts.length:=by
   rw [← Int.sub_emod_right,Int.emod_eq_of_lt (by omega) (by omega)]
  rw [this]; omega
theorem ZIK {a b:Nat} {R:Rw} (ho : 0<=e.r.o/\e.r.o<=3) (w:HsL n R.hs) (ha:a < n) (hb:b < n) (hab:a ≠ b):HsL n (ZEV e a b R).hs/\(ZEV e a b R).le.length<=R.le.length+14:=by
 unfold ZEV
 split
 ·obtain ⟨h1,h2⟩:=ZGQ (e:=e) (ws:=ZBr e R.hs a b) w λ v hv p hp=>(ZDG w ha hb hab v hv p hp).1
  have:=ZHX (e:=e) (hs:=R.hs) (a:=a) (b:=b) ho
  exact ⟨ZRK h1 ha,by show (ZBX e (ZBr e R.hs a b) R).2.le.length<=_; omega⟩
 ·exact ⟨w,by omega⟩
theorem ZCn {a b:Nat} (hn : 2<=e.ts.length) (ha:a < e.ts.length) (hb:b ∈ ZHQ e a):b < e.ts.length/\a ≠ b:=by
 unfold ZHQ at hb
 rcases List.mem_cons.mp hb with rfl | hb
 ·exact ⟨ZR6 hn,λ z=>ZRv hn ha z.symm⟩
 ·obtain ⟨h1,h2⟩:=List.mem_filter.mp hb
  refine ⟨List.mem_range.mp h1,λ z=>?_⟩
  rw [z,decide_eq_true rfl] at h2
  cases h2
theorem ZEr {a:Nat} (hn : 2<=e.ts.length) (ha:a < e.ts.length):(ZHQ e a).length<=e.ts.length:=by
 unfold ZHQ
 rw [List.length_cons]
 have:=(List.length_filter_lt_length_iff_exists (l:=List.range e.ts.length) (p:=λ b=>!decide (b=a) && !decide (b=tgF e a))).mpr ⟨a,List.mem_range.mpr ha,show ¬ (!decide (a=a) && !decide (a=tgF e a))=true by rw [decide_eq_true rfl]; exact Bool.false_ne_true⟩
 rw [List.length_range] at this
 exact this
theorem ZD3 {α : Type} {f:Rw->α->Rw} {m:Nat}:∀ {L:List α} {R:Rw},HsL n R.hs->(∀ x ∈ L,∀ R,HsL n R.hs->HsL n (f R x).hs/\(f R x).le.length<=R.le.length+m)->HsL n (L.foldl f R).hs/\(L.foldl f R).le.length<=R.le.length+m * L.length
 | [],R,h,_=>⟨h,Nat.le_refl _⟩
 | x :: L,R,h,hf=>by
  obtain ⟨h1,h2⟩:=hf x (List.mem_cons_self ..) R h
  obtain ⟨h3,h4⟩:=ZD3 (L:=L) h1 λ y hy=>hf y (List.mem_cons_of_mem _ hy)
  refine ⟨h3,?_⟩
  rw [List.foldl_cons,List.length_cons,Nat.mul_succ]
  omega
theorem ZOn {a:Nat} {R:Rw} (ho : 0<=e.r.o/\e.r.o<=3) (hn : 2<=e.ts.length) (w:HsL e.ts.length R.hs) (ha:a < e.ts.length):HsL e.ts.length (ZL0 e a R).hs/\(ZL0 e a R).le.length<=R.le.length+14 * e.ts.length:=by
 obtain ⟨h1,h2⟩:=ZD3 (f:=λ R b=>ZEV e a b R) (m:=14) (L:=ZHQ e a) w λ b hb R w=>ZIK ho w ha (ZCn hn ha hb).1 (ZCn hn ha hb).2
 refine ⟨h1,Nat.le_trans h2 ?_⟩
 have:=ZEr hn ha
 have:=Nat.mul_le_mul_left 14 this
 omega
theorem ZJB {a:Nat} {R:Rw} (ho : 0<=e.r.o/\e.r.o<=3) (hn : 2<=e.ts.length) (w:HsL e.ts.length R.hs) (ha:a < e.ts.length):HsL e.ts.length (ZCe e a R).hs/\(ZCe e a R).le.length<=R.le.length+14 * e.ts.length:=by
 unfold ZCe
 split
 ·exact ZOn ho hn w ha
 ·exact ⟨w,by omega⟩
theorem ZEs {x:Nat} {R:Rw} (w:HsL e.ts.length R.hs) (hx:x < e.ts.length):HsL e.ts.length (ZBN e x R).hs/\(ZBN e x R).le.length<=R.le.length+e.ts.length:=by
 obtain ⟨h1,h2⟩:=ZD3 (f:=λ R y=>if y=x then R else (ZAq e x y R).2) (m:=1) (L:=List.range e.ts.length) w λ y hy R w=>by
  by_cases z:y=x
  ·rw [if_pos z]; exact ⟨w,by omega⟩
  ·rw [if_neg z]; exact ⟨ZFB w hx (List.mem_range.mp hy),by rw [ZFD]; omega⟩
 refine ⟨h1,Nat.le_trans h2 ?_⟩
 rw [List.length_range]
 omega
end
theorem ZK4 {n x:Nat} {hs:List Hs} (w:HsL n hs) (hx:x < n):HsL n (ZBU x hs):=w.set ⟨.inl rfl,(w.get hx).bl,(w.get hx).tl,(w.get hx).ml⟩
theorem doH_L {fa le co:List Int} {n i:Nat} {h:Hs} (w:HL n h):HL n (doH fa le co i h):=by
 unfold doH
 have sl:∀ {α : Type} {xs:List α} {i:Nat} {v : α},(xs.set i v).length=xs.length:=List.length_set
 split
 ·exact ⟨.inl rfl,w.bl,w.tl,by rw [show ∀ (a:Int) b c d,((a,b,c,d):Hs).2.2.2=d from λ _ _ _ _=>rfl,List.length_replicate]; exact w.ml⟩
 ·split
  ·exact ⟨w.up,sl.trans w.bl,sl.trans w.tl,by rw [show ∀ (a:Int) b c d,((a,b,c,d):Hs).2.2.2=d from λ _ _ _ _=>rfl,List.length_replicate]; exact w.ml⟩
  ·split
   ·exact ⟨.inr rfl,sl.trans w.bl,sl.trans w.tl,w.ml⟩
   ·exact w
theorem ZIg {fa le co:List Int} {n:Nat} {hs:List Hs} (w:HsL n hs):HsL n (ZAK fa le co hs):=⟨by unfold ZAK; rw [List.length_map,List.length_range]; exact w.len,λ h hh=>by
 unfold ZAK at hh
 obtain ⟨i,hi,rfl⟩:=List.mem_map.mp hh
 exact doH_L (w.get (by rw [← w.len]; exact List.mem_range.mp hi))⟩
theorem ZIF {n:Nat}:∀ {L:List Int} {hs:List Hs},HsL n hs->(∀ x ∈ L,x.toNat < n)->HsL n (L.foldl (λ hs x=>ZBU x.toNat hs) hs)
 | [],_,h,_=>h
 | x :: L,hs,h,hx=>ZIF (L:=L) (ZK4 h (hx x (List.mem_cons_self ..))) λ y hy=>hx y (List.mem_cons_of_mem _ hy)
inductive loopP (src:Option Nat) (xs:List PyData) (pt:Pat) (db:DS) (r:List PyData) (P:Out->Prop):Out->Prop
 | nx {sd:Sd} {g:G}:ZBv src xs g->EvS (ZAn src xs pt db r sd g) P->loopP src xs pt db r P (.nx sd g)
 | ct {sd:Sd} {g:G}:ZBv src xs g->EvS (ZAn src xs pt db r sd g) P->loopP src xs pt db r P (.ct sd g)
 | bk {sd:Sd} {g:G}:P (.nx sd g)->loopP src xs pt db r P (.bk sd g)
 | rt {x:W} {g:G}:P (.rt x g)->loopP src xs pt db r P (.rt x g)
theorem ZES {src:Option Nat} {xs:List PyData} {pt:Pat} {db:DS} {P:Out->Prop} {sd:Sd} {g:G} (h:P (.nx sd g)):EvS (ZAn src xs pt db [] sd g) P:=by
 rw [ZAn]
 exact ⟨_,rfl,h⟩
theorem ZDJ {src:Option Nat} {xs:List PyData} {pt:Pat} {db:DS} {P:Out->Prop} {sd sd1:Sd} {g:G} {x:PyData} {r:List PyData} (e:Zu pt (.dat x) sd=some sd1) (h:EvS (db sd1 g) (loopP src xs pt db r P)):EvS (ZAn src xs pt db (x :: r) sd g) P:=by
 rw [ZAn,e]
 obtain ⟨o,e2,h⟩:=h
 show EvS ((db sd1 g).bind _) P
 rw [e2]
 cases h with
 | nx so h=>show EvS (ZCq _ _ _ _) P; rw [ZCE so]; exact h
 | ct so h=>show EvS (ZCq _ _ _ _) P; rw [ZCE so]; exact h
 | bk h=>exact ⟨_,rfl,h⟩
 | rt h=>exact ⟨_,rfl,h⟩
theorem ZMS {aa:DA} {sd:Sd} {g:G} {PI':List PyData->Option Nat->G->Prop} (h:EvP (aa sd g) λ ws g1=>∃ i j:Int,ws=[.dat (.int i),.dat (.int j)]/\((j<=1000/\-1000<=j)/\(i<=1000/\-1000<=i))/\PI' (ZCF (j - i).toNat i) none g1):EvI (ZAa aa sd g) PI':=by
 obtain ⟨ws,g1,e1,i,j,rfl,hj,h⟩:=h
 exact ⟨_,_,g1,by unfold ZAa; rw [e1]; exact if_pos hj,h⟩
def prD (p:Nat × Nat):PyData:=.tuple [.int (p.1:Int),.int (p.2:Int)]
def wyD (w:List (Nat × Nat)):PyData:=.tuple (w.map prD)
abbrev Do4:=List Int × List Int × List Int × List Int
def doX (d:Do4):PyData:=.tuple [Zl d.1,Zl d.2.1,Zl d.2.2.1,Zl d.2.2.2]
def ltsD (L:List Lt):PyData:=.tuple (L.map ltD)
abbrev Sx:=Int × List Hs
def stX (s:Sx):PyData:=Zq s.1 s.2
def nxR (r:Ru) (ts:List (Int × Int)) (s:Sx) (d:Do4):Rw:=ZEx r ts s.1 s.2 d.1 d.2.1 d.2.2.1 d.2.2.2
def nxS (r:Ru) (ts:List (Int × Int)) (s:Sx) (d:Do4):Sx:=(s.1+1,(nxR r ts s d).hs)
def tsX (p:Sx × List Lt):PyData:=.tuple [stX p.1,ltsD p.2]
theorem bT {A B:Prop} (h:A):(true=true->A)/\(true=false->B):=⟨λ _=>h,λ z=>by cases z⟩
theorem bF {A B:Prop} (h:B):(false=true->A)/\(false=false->B):=⟨(λ z=>by cases z),λ _=>h⟩
def ZAE (K:PySem.W.Frag) (x ql:Str) (st:Stmt) (f:Addr):Prop:=∃ fd,Fun K x ql st f fd
theorem fnAt_mk {K:PySem.W.Frag} {x qual:Str} {st:Stmt} {f:Addr} {oc:Value} {od an:Option Addr} {osl:Array (Option Value)} {kV doc pm cdv ct:Value} (l:K.lookup f=some ⟨oc,od,.func (PySem.W.fnOf x qual (ZDX st) (ZB6 st) (ZM st) .none kV doc pm an cdv ct),osl⟩)
  (c:PySem.W.codeIn K cdv qual=true) (k:PySem.W.keepIn K (.ref f)=true):ZAE K x qual st f:=⟨_,ZNG l c k⟩
end L2
namespace L2
open PySem PySem.Spec PyProof.Rows H1
def ZE0 (hs:List Hs):List Int:=hs.map (·.1)
theorem ZIQ {hs:List Hs} {i:Nat} {h:Hs} (e:h.1=(hs.getD i H0).1):ZE0 (hs.set i h)=ZE0 hs:=by
 unfold ZE0
 rw [List.map_set,e]
 by_cases hi:i < hs.length
 ·rw [List.getD_eq_getElem?_getD,List.getElem?_eq_getElem hi]
  apply List.ext_getElem?
  intro j
  by_cases hj:i=j
  ·subst hj
   rw [List.getElem?_set_self (by rw [List.length_map]; exact hi),List.getElem?_map,List.getElem?_eq_getElem hi]
   rfl
  ·rw [List.getElem?_set_ne hj]
 ·rw [List.set_eq_of_length_le (by rw [List.length_map]; omega)]
theorem ZGN {hs hs':List Hs} (h:ZE0 hs'=ZE0 hs) (i:Nat):(hs'.getD i H0).1=(hs.getD i H0).1:=by
 have e:∀ l:List Hs,(l.getD i H0).1=(ZE0 l).getD i 0:=λ l=>by
  unfold ZE0
  rw [List.getD_eq_getElem?_getD,List.getD_eq_getElem?_getD,List.getElem?_map]
  cases l[i]? <;> rfl
 rw [e,e,h]
def ZM7 (lo:List Int) (n:Nat):List Bool:=(List.range n).map λ k:Nat=>lo.contains (k:Int)
structure Grow (e:En) (R R':Rw):Prop where
 ex:∃ ex:List Lt,R'.le=R.le ++ ex/\∀ l ∈ ex,l.1 ≠ l.2.1
 fl:R.le.map (·.2.2)=ZM7 e.lo R.le.length->R'.le.map (·.2.2)=ZM7 e.lo R'.le.length
 up:ZE0 R'.hs=ZE0 R.hs
section
variable {e:En} {n:Nat}
theorem Grow.refl {R:Rw}:Grow e R R:=⟨⟨[],(List.append_nil _).symm,λ l hl=>by cases hl⟩,id,rfl⟩
theorem Grow.trans {R R1 R2:Rw} (h:Grow e R R1) (k:Grow e R1 R2):Grow e R R2:=by
 obtain ⟨a,ea,ha⟩:=h.ex
 obtain ⟨b,eb,hb⟩:=k.ex
 refine ⟨⟨a ++ b,by rw [eb,ea,List.append_assoc],λ l hl=>(List.mem_append.mp hl).elim (ha l) (hb l)⟩,λ z=>k.fl (h.fl z),k.up.trans h.up⟩
theorem ZF8 {x y:Nat} {hs:List Hs}:ZE0 (ZCA e x y hs)=ZE0 hs:=ZIQ rfl
theorem ZHz {cl:List Str} {y:Nat}:∀ {ns:List (Nat × (Int × Int))} {h:Hs},(ZAR cl y h ns).1=h.1
 | [],_=>rfl
 | x :: r,h=>by
  show (ZAR cl y (ZAz cl y h x) r).1=h.1
  rw [ZHz]
  unfold ZAz ZIC ZIW
  split <;> split <;> rfl
theorem ZOP {x y:Nat} {hs:List Hs} (hxy:x ≠ y):ZE0 (ZDy e x y hs)=ZE0 hs:=by
 unfold ZDy
 rw [ZIQ,ZF8]
 rw [ZHz]
 exact (ZGN (ZF8 (e:=e) (x:=x) (y:=y) (hs:=hs)) y).symm
theorem ZGs {lo:List Int} {L:List Lt} {x y:Int} {b:Bool} (hb:lo.contains (L.length:Int)=b) (h:L.map (·.2.2)=ZM7 lo L.length):(L ++ [(x,y,b)]).map (·.2.2)=ZM7 lo (L ++ [(x,y,b)]).length:=by
 rw [List.map_append,h,List.length_append]
 unfold ZM7
 show _=(List.range (L.length+1)).map _
 rw [List.range_succ,List.map_append,← hb]
 rfl
theorem ZHs {x y:Nat} {R:Rw} (hxy:x ≠ y):Grow e R (ZAq e x y R).2:=by
 have hne:∀ {b:Bool},∀ l ∈ [(((x:Int),(y:Int),b):Lt)],l.1 ≠ l.2.1:=λ l hl=>by
  rw [List.mem_singleton.mp hl]
  show (x:Int) ≠ (y:Int)
  omega
 unfold ZAq
 split
 ·rename_i h
  exact ⟨⟨_,rfl,hne⟩,ZGs h,ZF8⟩
 ·rename_i h
  have h:e.lo.contains (R.le.length:Int)=false:=by simpa using h
  split
  ·exact ⟨⟨_,rfl,hne⟩,ZGs h,ZF8⟩
  ·exact ⟨⟨_,rfl,hne⟩,ZGs h,ZOP hxy⟩
theorem ZJK:∀ {w:List (Nat × Nat)} {R:Rw},(∀ p ∈ w,p.1 ≠ p.2)->Grow e R (ZDO e w R).2
 | [],R,_=>.refl
 | p :: w,R,hp=>by
  have h1:=ZHs (e:=e) (R:=R) (hp p (List.mem_cons_self ..))
  rw [ZDO]
  split
  ·exact h1.trans (ZJK λ q hq=>hp q (List.mem_cons_of_mem _ hq))
  ·exact h1
theorem ZFe:∀ {ws:List (List (Nat × Nat))} {R:Rw},(∀ w ∈ ws,∀ p ∈ w,p.1 ≠ p.2)->Grow e R (ZBX e ws R).2
 | [],R,_=>.refl
 | w :: ws,R,hp=>by
  have h1:=ZJK (e:=e) (R:=R) (hp w (List.mem_cons_self ..))
  rw [ZBX]
  split
  ·exact h1
  ·exact h1.trans (ZFe λ q hq=>hp q (List.mem_cons_of_mem _ hq))
theorem ZOK {b:Nat} {ans:Bool} {h:Hs}:(ZHC e b ans h).1=h.1:=by
 unfold ZHC
 split
 ·rfl
 ·split
  ·rfl
  ·split
   ·split <;> rfl
   ·split <;> rfl
theorem ZHi {a b:Nat} {R:Rw} (w:HsL n R.hs) (ha:a < n) (hb:b < n) (hab:a ≠ b):Grow e R (ZEV e a b R):=by
 unfold ZEV
 split
 ·have h1:=ZFe (e:=e) (ws:=ZBr e R.hs a b) (R:=R) λ v hv p hp=>(ZDG w ha hb hab v hv p hp).2
  refine ⟨h1.ex,h1.fl,?_⟩
  show ZE0 (ZGJ e a b _ _)=_
  unfold ZGJ
  rw [ZIQ ZOK]
  exact h1.up
 ·exact .refl
theorem ZDH {α : Type} {f:Rw->α->Rw}:∀ {L:List α} {R:Rw},HsL n R.hs->(∀ x ∈ L,∀ R,HsL n R.hs->HsL n (f R x).hs/\Grow e R (f R x))->Grow e R (L.foldl f R)
 | [],R,_,_=>.refl
 | x :: L,R,w,hf=>by
  obtain ⟨h1,h2⟩:=hf x (List.mem_cons_self ..) R w
  exact h2.trans (ZDH h1 λ y hy=>hf y (List.mem_cons_of_mem _ hy))
theorem ZNM {a:Nat} {R:Rw} (ho : 0<=e.r.o/\e.r.o<=3) (hn : 2<=e.ts.length) (w:HsL e.ts.length R.hs) (ha:a < e.ts.length):Grow e R (ZL0 e a R):=ZDH w λ b hb R w=>⟨(ZIK ho w ha (ZCn hn ha hb).1 (ZCn hn ha hb).2).1,ZHi w ha (ZCn hn ha hb).1 (ZCn hn ha hb).2⟩
theorem ZKu {a:Nat} {R:Rw} (ho : 0<=e.r.o/\e.r.o<=3) (hn : 2<=e.ts.length) (w:HsL e.ts.length R.hs) (ha:a < e.ts.length):Grow e R (ZCe e a R):=by
 unfold ZCe
 split
 ·exact ZNM ho hn w ha
 ·exact .refl
theorem ZLc {R:Rw} (ho : 0<=e.r.o/\e.r.o<=3) (hn : 2<=e.ts.length) (w:HsL e.ts.length R.hs):Grow e R (ZP0 e R):=ZDH w λ a ha R w=>⟨(ZJB ho hn w (List.mem_range.mp ha)).1,ZKu ho hn w (List.mem_range.mp ha)⟩
theorem ZMG {x:Nat} {R:Rw} (w:HsL e.ts.length R.hs) (hx:x < e.ts.length):Grow e R (ZBN e x R):=ZDH (f:=λ R y=>if y=x then R else (ZAq e x y R).2) w λ y hy R w=>by
 by_cases z:y=x
 ·rw [if_pos z]; exact ⟨w,.refl⟩
 ·rw [if_neg z]; exact ⟨ZFB w hx (List.mem_range.mp hy),ZHs λ h=>z h.symm⟩
end
section
variable {r:Ru} {ts:List (Int × Int)} {tn:Int} {lo lo':List Int} {at_ n:Nat}
end
theorem ZNj {le:List Int}:∀ {hs:List Hs} {a:Nat},a < hs.length->(∀ k ∈ le,0<=k)->((le.foldl (λ hs x=>ZBU x.toNat hs) hs).getD a H0).1=if (a:Int) ∈ le then 0 else (hs.getD a H0).1:=by
 induction le with
 | nil=>intro hs a _ _; rfl
 | cons x le ih =>
  intro hs a ha hk
  rw [List.foldl_cons,ih (by unfold ZBU; rw [List.length_set]; exact ha) λ k h=>hk k (List.mem_cons_of_mem _ h)]
  have h0:=hk x (List.mem_cons_self ..)
  by_cases h1:(a:Int) ∈ le
  ·rw [if_pos h1,if_pos (List.mem_cons_of_mem _ h1)]
  ·rw [if_neg h1]
   by_cases h2:(a:Int)=x
   ·rw [if_pos (by rw [h2]; exact List.mem_cons_self ..)]
    unfold ZBU
    rw [List.getD_eq_getElem?_getD,show x.toNat=a by omega,List.getElem?_set_self ha]
    rfl
   ·rw [if_neg (λ z=>(List.mem_cons.mp z).elim h2 h1)]
    unfold ZBU
    rw [List.getD_eq_getElem?_getD,List.getElem?_set_ne (by omega),← List.getD_eq_getElem?_getD]
theorem ZPo {fa le co:List Int} {hs:List Hs} {a:Nat} (ha:a < hs.length):((ZAK fa le co hs).getD a H0).1=if (a:Int) ∈ fa then 0 else if (a:Int) ∈ le then (hs.getD a H0).1 else if (a:Int) ∈ co then 1 else (hs.getD a H0).1:=by
 unfold ZAK
 rw [List.getD_eq_getElem?_getD,List.getElem?_map,List.getElem?_range ha]
 show (doH fa le co a (hs.getD a H0)).1=_
 unfold doH
 simp only [List.contains_iff_mem]
 split
 ·rfl
 ·split
  ·rfl
  ·split <;> rfl
end L2
namespace L2
open PySem PySem.Spec PyProof.Rows H1
def tmr (hs:List Hs) (a b:Nat):Int:=(hs.getD a H0).2.2.2.getD b 0
def Shr (hs hs':List Hs) (a b:Nat):Prop:=0 < tmr hs' a b->0 < tmr hs a b
theorem Shr.refl {hs:List Hs} {a b:Nat}:Shr hs hs a b:=id
theorem Shr.trans {h1 h2 h3:List Hs} {a b:Nat} (h:Shr h1 h2 a b) (k:Shr h2 h3 a b):Shr h1 h3 a b:=λ z=>h (k z)
theorem ZCi {α : Type} {l:List α} {i j:Nat} {x d : α}:(l.set i x).getD j d=if i=j/\j < l.length then x else l.getD j d:=by
 rw [List.getD_eq_getElem?_getD,List.getD_eq_getElem?_getD]
 by_cases h:i=j
 ·subst h
  by_cases hi:i < l.length
  ·rw [List.getElem?_set_self hi,if_pos ⟨rfl,hi⟩]; rfl
  ·rw [if_neg (λ z=>hi z.2),List.set_eq_of_length_le (by omega)]
 ·rw [List.getElem?_set_ne h,if_neg (λ z=>h z.1)]
theorem ZIp {hs:List Hs} {x:Nat} {h:Hs} {a b:Nat} (k:a=x->0 < h.2.2.2.getD b 0->0 < tmr hs a b):Shr hs (hs.set x h) a b:=by
 unfold Shr tmr
 rw [ZCi]
 split
 ·rename_i z
  exact k z.1.symm
 ·exact id
section
variable {e:En} {n:Nat}
theorem ZGx {x y a b:Nat} {hs:List Hs}:Shr hs (ZCA e x y hs) a b:=ZIp λ z h=>by subst z; exact h
theorem ZHb {cl:List Str} {y b:Nat}:∀ {ns:List (Nat × (Int × Int))} {h:Hs},0 < (ZAR cl y h ns).2.2.2.getD b 0->0 < h.2.2.2.getD b 0
 | [],_,z=>z
 | x :: r,h,z=>by
  have z : 0 < (ZAR cl y (ZAz cl y h x) r).2.2.2.getD b 0:=z
  have z:=ZHb z
  unfold ZAz ZIC ZIW at z
  split at z
  ·split at z <;> exact z
  ·split at z
   ·dsimp only at z
    split at z
    ·exact z
    ·rw [ZCi] at z
     split at z
     ·cases z
     ·exact z
   ·exact z
theorem ZNw {x y a b:Nat} {hs:List Hs}:Shr hs (ZDy e x y hs) a b:=by
 unfold ZDy
 refine Shr.trans (ZGx (e:=e) (x:=x) (y:=y)) (ZIp λ z h=>?_)
 subst z
 have h:=ZHb h
 unfold tmr ZCA
 rw [ZCi]
 split
 ·rename_i z
  rw [z.1]
  exact h
 ·exact h
theorem ZMo {x y a b:Nat} {R:Rw}:Shr R.hs (ZAq e x y R).2.hs a b:=by
 unfold ZAq
 split
 ·exact ZGx
 ·split
  ·exact ZGx
  ·exact ZNw
theorem ZHe {x a b:Nat}:∀ {L:List Nat} {R:Rw},Shr R.hs (L.foldl (λ R y=>if y=x then R else (ZAq e x y R).2) R).hs a b
 | [],R=>.refl
 | y :: L,R=>by
  rw [List.foldl_cons]
  refine Shr.trans ?_ (ZHe (L:=L))
  split
  ·exact .refl
  ·exact ZMo
theorem ZHo {a b:Nat}:∀ {L:List Int} {R:Rw},Shr R.hs (L.foldl (λ (R:Rw) (x:Int)=>ZBN e x.toNat R) R).hs a b
 | [],R=>.refl
 | y :: L,R=>by
  rw [List.foldl_cons]
  exact Shr.trans (ZHe (e:=e) (x:=y.toNat) (L:=List.range e.ts.length) (R:=R)) (ZHo (L:=L))
end
theorem ZHh {a b:Nat}:∀ {L:List Int} {hs:List Hs},Shr hs (L.foldl (λ hs x=>ZBU x.toNat hs) hs) a b
 | [],_=>.refl
 | x :: L,hs=>by
  rw [List.foldl_cons]
  refine Shr.trans ?_ (ZHh (L:=L))
  unfold ZBU
  exact ZIp λ z h=>by subst z; exact h
theorem ZD0 {n b:Nat}:(List.replicate n (0:Int)).getD b 0=0:=by
 rw [List.getD_eq_getElem?_getD,List.getElem?_replicate]
 split <;> rfl
end L2
namespace L2
open PySem PySem.Spec PyProof.Rows H1
structure HQ (r:Ru) (n i:Nat) (h:Hs):Prop where
 up:h.1=0 ∨ h.1=1
 bl:h.2.1.length=n
 bs:∀ w ∈ h.2.1,0<=w.1/\0<=w.2/\w.2<=3
 tl:h.2.2.1.length=n
 ts:∀ k ∈ h.2.2.1,0<=k/\k<=r.t
 ml:h.2.2.2.length=n
 ms:∀ k ∈ h.2.2.2,0<=k/\k<=r.w
 m0:h.2.2.2.getD i 0=0
 mu:h.1=1 ∨ ∀ k ∈ h.2.2.2,k=0
structure AQ (r:Ru) (n:Nat) (hs:List Hs):Prop where
 len:hs.length=n
 all:∀ i,i < n->HQ r n i (hs.getD i H0)
theorem ZDm {α : Type} {l:List α} {i:Nat} {v : α} {P : α->Prop} (h:∀ x ∈ l,P x) (hv:P v):∀ x ∈ l.set i v,P x:=λ x hx=>by
 rcases List.mem_or_eq_of_mem_set hx with z | z
 ·exact h x z
 ·rw [z]; exact hv
theorem ZKJ {α : Type} {l:List α} {i:Nat} {d : α} {P : α->Prop} (h:∀ x ∈ l,P x) (hd:P d):P (l.getD i d):=by
 rw [List.getD_eq_getElem?_getD]
 by_cases z:i < l.length
 ·rw [List.getElem?_eq_getElem z]; exact h _ (List.getElem_mem _)
 ·rw [List.getElem?_eq_none (by omega)]; exact hd
theorem AQ.set {r:Ru} {n x:Nat} {hs:List Hs} {h:Hs} (w:AQ r n hs) (k:x < n->HQ r n x h):AQ r n (hs.set x h):=⟨by rw [List.length_set]; exact w.len,λ i hi=>by
 rw [ZCi]
 split
 ·rename_i z
  rw [← z.1]
  exact k (by rw [z.1]; exact hi)
 ·exact w.all i hi⟩
theorem AQ.L {r:Ru} {n:Nat} {hs:List Hs} (w:AQ r n hs):HsL n hs:=⟨w.len,λ h hh=>by
 obtain ⟨i,hi,e⟩:=List.mem_iff_getElem.mp hh
 have:=w.all i (by rw [← w.len]; exact hi)
 rw [List.getD_eq_getElem?_getD,List.getElem?_eq_getElem hi] at this
 have this:HQ r n i hs[i]:=this
 rw [e] at this
 exact ⟨this.up,this.bl,this.tl,this.ml⟩⟩
theorem ZLQ {t:Int}:∀ {news told:List Int},news.Nodup->(∀ k ∈ news,∃ n:Nat,k=(n:Int)/\told.getD n 0 < t)->(∀ k ∈ told,0<=k/\k<=t)->0<=t->∀ k ∈ ZA7 told news,0<=k/\k<=t
 | [],told,_,_,h,_=>h
 | x :: news,told,nd,hn,h,ht=>by
  have nd:=List.nodup_cons.mp nd
  obtain ⟨m,rfl,hm⟩:=hn x (List.mem_cons_self ..)
  have h0 : 0<=told.getD m 0:=(ZKJ (P:=λ k:Int=>0<=k/\k<=t) h ⟨Int.le_refl 0,ht⟩).1
  show ∀ k ∈ ZA7 (told.set (m:Int).toNat (told.getD (m:Int).toNat 0+1)) news,0<=k/\k<=t
  rw [Int.toNat_natCast]
  refine ZLQ nd.2 (λ k hk=>?_) (ZDm h ⟨by omega,by omega⟩) ht
  obtain ⟨j,rfl,hj⟩:=hn k (List.mem_cons_of_mem _ hk)
  refine ⟨j,rfl,?_⟩
  rw [ZCi,if_neg λ z=>nd.1 (by rw [z.1]; exact hk)]
  exact hj
section
variable {e:En} {n:Nat}
theorem ZJ8 {x y:Nat} {hs:List Hs} (ht : 0<=e.r.t) (w:AQ e.r n hs):AQ e.r n (ZCA e x y hs):=w.set λ hx=>by
 have v:=w.all x hx
 have no:=ZQm e.r (hs.getD x H0).2.2.1 x (ZG1 e x y)
 refine ⟨v.up,v.bl,v.bs,?_,?_,v.ml,v.ms,v.m0,v.mu⟩
 ·show (ZA7 _ _).length=n
  rw [ZCW]
  exact v.tl
 ·refine ZLQ no.nd (λ k hk=>?_) v.ts ht
  obtain ⟨m,hm,_,h2,_⟩:=no.mem k hk
  exact ⟨m,hm,h2⟩
theorem ZRW {r:Ru} {cl:List Str} {y:Nat} {h:Hs} {p:Nat × (Int × Int)} (ht : 0<=r.t) (hw : 0<=r.w) (v:HQ r n y h) (hp : 0<=p.2.1/\0<=p.2.2/\p.2.2<=3):HQ r n y (ZAz cl y h p):=by
 have sl:∀ {α : Type} {xs:List α} {i:Nat} {v : α},(xs.set i v).length=xs.length:=List.length_set
 unfold ZAz ZIC ZIW
 split
 ·split
  ·exact ⟨v.up,sl.trans v.bl,ZDm v.bs ⟨by show 0<=p.2.1+1; omega,by show (0:Int)<=0; omega,by show (0:Int)<=3; omega⟩,sl.trans v.tl,ZDm v.ts ⟨Int.le_refl 0,ht⟩,v.ml,v.ms,v.m0,v.mu⟩
  ·exact v
 ·split
  ·have hm:(if p.2.2=1 then h.2.2.2 else h.2.2.2.set p.1 0).length=n/\(∀ k ∈ (if p.2.2=1 then h.2.2.2 else h.2.2.2.set p.1 0),0<=k/\k<=r.w)/\(if p.2.2=1 then h.2.2.2 else h.2.2.2.set p.1 0).getD y 0=0/\(h.1=1 ∨ ∀ k ∈ (if p.2.2=1 then h.2.2.2 else h.2.2.2.set p.1 0),k=0):=by
    split
    ·exact ⟨v.ml,v.ms,v.m0,v.mu⟩
    ·refine ⟨sl.trans v.ml,ZDm v.ms ⟨Int.le_refl 0,hw⟩,?_,v.mu.imp id λ z=>ZDm z rfl⟩
     rw [ZCi]
     split
     ·rfl
     ·exact v.m0
   exact ⟨v.up,sl.trans v.bl,ZDm v.bs hp,sl.trans v.tl,ZDm v.ts ⟨Int.le_refl 0,ht⟩,hm.1,hm.2.1,hm.2.2.1,hm.2.2.2⟩
  ·exact v
theorem ZLE {r:Ru} {cl:List Str} {y:Nat} (ht : 0<=r.t) (hw : 0<=r.w):∀ {ns:List (Nat × (Int × Int))} {h:Hs},HQ r n y h->(∀ p ∈ ns,0<=p.2.1/\0<=p.2.2/\p.2.2<=3)->HQ r n y (ZAR cl y h ns)
 | [],_,v,_=>v
 | p :: ns,h,v,hp=>ZLE (ns:=ns) ht hw (ZRW ht hw v (hp p (List.mem_cons_self ..))) λ q hq=>hp q (List.mem_cons_of_mem _ hq)
theorem ZI6 {book:List (Int × Int)} {due news:List Int} {m:Nat} {p:Nat × (Int × Int)} (h:p ∈ ZB1 book due news m):p.2=book.getD p.1 (0,0):=by
 unfold ZB1 at h
 obtain ⟨j,_,rfl⟩:=List.mem_map.mp h
 rfl
theorem ZNo {x y:Nat} {R:Rw} (ht : 0<=e.r.t) (hw : 0<=e.r.w) (w:AQ e.r n R.hs) (hx:x < n):AQ e.r n (ZAq e x y R).2.hs:=by
 unfold ZAq
 split
 ·exact ZJ8 ht w
 ·split
  ·exact ZJ8 ht w
  ·refine (ZJ8 ht w).set λ hy=>ZLE ht hw (w.all y hy) λ p hp=>?_
   rw [ZI6 hp]
   exact ZKJ (P:=λ w:Int × Int=>0<=w.1/\0<=w.2/\w.2<=3) (w.all x hx).bs ⟨Int.le_refl 0,Int.le_refl 0,by show (0:Int)<=3; omega⟩
theorem ZQA (ht : 0<=e.r.t) (hw : 0<=e.r.w):∀ {l:List (Nat × Nat)} {R:Rw},AQ e.r n R.hs->(∀ p ∈ l,p.1 < n)->AQ e.r n (ZDO e l R).2.hs
 | [],R,w,_=>w
 | p :: l,R,w,hp=>by
  have h1:=ZNo (y:=p.2) ht hw w (hp p (List.mem_cons_self ..))
  rw [ZDO]
  split
  ·exact ZQA ht hw h1 λ q hq=>hp q (List.mem_cons_of_mem _ hq)
  ·exact h1
theorem ZN5 (ht : 0<=e.r.t) (hw : 0<=e.r.w):∀ {ws:List (List (Nat × Nat))} {R:Rw},AQ e.r n R.hs->(∀ l ∈ ws,∀ p ∈ l,p.1 < n)->AQ e.r n (ZBX e ws R).2.hs
 | [],R,w,_=>w
 | l :: ws,R,w,hp=>by
  have h1:=ZQA ht hw w (hp l (List.mem_cons_self ..))
  rw [ZBX]
  split
  ·exact h1
  ·exact ZN5 ht hw h1 λ q hq=>hp q (List.mem_cons_of_mem _ hq)
theorem jud_q {a b:Nat} {ans:Bool} {h:Hs} (ht : 0<=e.r.t) (hw : 0<=e.r.w) (v:HQ e.r n a h) (hu:h.1=1) (hab:a ≠ b):HQ e.r n a (ZHC e b ans h):=by
 have sl:∀ {α : Type} {xs:List α} {i:Nat} {v : α},(xs.set i v).length=xs.length:=List.length_set
 have m0:∀ t:Int,(h.2.2.2.set b t).getD a 0=0:=λ t=>by rw [ZCi,if_neg λ z=>hab z.1.symm]; exact v.m0
 have wd : 0<=(h.2.1.getD b (0,0)).1:=(ZKJ (P:=λ w:Int × Int=>0<=w.1/\0<=w.2/\w.2<=3) v.bs ⟨Int.le_refl 0,Int.le_refl 0,by show (0:Int)<=3; omega⟩).1
 have tm : 0<=h.2.2.2.getD b 0/\h.2.2.2.getD b 0<=e.r.w:=ZKJ (P:=λ k:Int=>0<=k/\k<=e.r.w) v.ms ⟨Int.le_refl 0,hw⟩
 have z0:∀ k ∈ h.2.2.2.set b 0,0<=k/\k<=e.r.w:=ZDm v.ms ⟨Int.le_refl 0,hw⟩
 have zw:∀ k ∈ h.2.2.2.set b e.r.w,0<=k/\k<=e.r.w:=ZDm v.ms ⟨hw,Int.le_refl _⟩
 unfold ZHC
 split
 ·exact ⟨v.up,v.bl,v.bs,v.tl,v.ts,sl.trans v.ml,z0,m0 _,.inl hu⟩
 ·split
  ·exact ⟨v.up,sl.trans v.bl,ZDm v.bs ⟨wd,by show (0:Int)<=2; omega,by show (2:Int)<=3; omega⟩,sl.trans v.tl,ZDm v.ts ⟨Int.le_refl 0,ht⟩,sl.trans v.ml,z0,m0 _,.inl hu⟩
  ·split
   ·split
    ·exact ⟨v.up,sl.trans v.bl,ZDm v.bs ⟨wd,by show (0:Int)<=1; omega,by show (1:Int)<=3; omega⟩,sl.trans v.tl,ZDm v.ts ⟨Int.le_refl 0,ht⟩,sl.trans v.ml,zw,m0 _,.inl hu⟩
    ·exact ⟨v.up,v.bl,v.bs,v.tl,v.ts,sl.trans v.ml,zw,m0 _,.inl hu⟩
   ·split
    ·rename_i h3 h4
     have hn:h.2.2.2.getD b 0 ≠ 0:=λ z=>h3 (by rw [h4,decide_eq_true z]; rfl)
     exact ⟨v.up,v.bl,v.bs,v.tl,v.ts,sl.trans v.ml,ZDm v.ms ⟨by omega,by omega⟩,m0 _,.inl hu⟩
    ·exact v
theorem ZRc {a b:Nat} {R:Rw} (ht : 0<=e.r.t) (hw : 0<=e.r.w) (w:AQ e.r n R.hs) (ha:a < n) (hb:b < n) (hab:a ≠ b) (hu:(R.hs.getD a H0).1=1):AQ e.r n (ZEV e a b R).hs:=by
 unfold ZEV
 split
 ·have h1:=ZN5 (ws:=ZBr e R.hs a b) ht hw w λ v hv p hp=>(ZDG w.L ha hb hab v hv p hp).1.1
  have h2:=ZFe (e:=e) (ws:=ZBr e R.hs a b) (R:=R) λ v hv p hp=>(ZDG w.L ha hb hab v hv p hp).2
  show AQ e.r n (ZGJ e a b _ _)
  unfold ZGJ
  exact h1.set λ _=>jud_q ht hw (h1.all a ha) ((ZGN h2.up a).trans hu) hab
 ·exact w
theorem ZMn {a:Nat} (ht : 0<=e.r.t) (hw : 0<=e.r.w) (ha:a < n):∀ {L:List Nat} {R:Rw},AQ e.r n R.hs->(∀ b ∈ L,b < n/\a ≠ b)->(R.hs.getD a H0).1=1->AQ e.r n (L.foldl (λ R b=>ZEV e a b R) R).hs
 | [],R,w,_,_=>w
 | b :: L,R,w,hb,hu=>by
  obtain ⟨h1,h2⟩:=hb b (List.mem_cons_self ..)
  rw [List.foldl_cons]
  exact ZMn ht hw ha (ZRc ht hw w ha h1 h2 hu) (λ c hc=>hb c (List.mem_cons_of_mem _ hc)) ((ZGN (ZHi (e:=e) w.L ha h1 h2).up a).trans hu)
theorem ZLX (ht : 0<=e.r.t) (hw : 0<=e.r.w) (hn : 2<=e.ts.length):∀ {L:List Nat} {R:Rw},AQ e.r e.ts.length R.hs->(∀ a ∈ L,a < e.ts.length)->AQ e.r e.ts.length (L.foldl (λ R a=>ZCe e a R) R).hs
 | [],R,w,_=>w
 | a :: L,R,w,hl=>by
  have ha:=hl a (List.mem_cons_self ..)
  rw [List.foldl_cons]
  refine ZLX (L:=L) ht hw hn ?_ λ c hc=>hl c (List.mem_cons_of_mem _ hc)
  unfold ZCe
  split
  ·rename_i h
   unfold ZOT at h
   rw [Bool.and_eq_true] at h
   exact ZMn ht hw ha w (λ b hb=>ZCn hn ha hb) (of_decide_eq_true h.1)
  ·exact w
theorem ZLG {x:Nat} (ht : 0<=e.r.t) (hw : 0<=e.r.w) (hx:x < n):∀ {L:List Nat} {R:Rw},AQ e.r n R.hs->AQ e.r n (L.foldl (λ R y=>if y=x then R else (ZAq e x y R).2) R).hs
 | [],R,w=>w
 | y :: L,R,w=>by
  rw [List.foldl_cons]
  refine ZLG (L:=L) ht hw hx ?_
  split
  ·exact w
  ·exact ZNo ht hw w hx
theorem ZK5 (ht : 0<=e.r.t) (hw : 0<=e.r.w):∀ {L:List Int} {R:Rw},AQ e.r n R.hs->(∀ x ∈ L,x.toNat < n)->AQ e.r n (L.foldl (λ (R:Rw) (x:Int)=>ZBN e x.toNat R) R).hs
 | [],R,w,_=>w
 | x :: L,R,w,hx=>by
  rw [List.foldl_cons]
  exact ZK5 (L:=L) ht hw (ZLG ht hw (hx x (List.mem_cons_self ..)) w) λ y hy=>hx y (List.mem_cons_of_mem _ hy)
end
theorem ZSB {m:Nat} {w:Int} (hw : 0<=w):∀ k ∈ List.replicate m (0:Int),0<=k/\k<=w:=λ k hk=>by rw [(List.mem_replicate.mp hk).2]; exact ⟨Int.le_refl 0,hw⟩
theorem ZQa {r:Ru} {n:Nat} {fa le co:List Int} {hs:List Hs} (ht : 0<=r.t) (hw : 0<=r.w) (w:AQ r n hs):AQ r n (ZAK fa le co hs):=by
 have sl:∀ {α : Type} {xs:List α} {i:Nat} {v : α},(xs.set i v).length=xs.length:=List.length_set
 refine ⟨by unfold ZAK; rw [List.length_map,List.length_range]; exact w.len,λ i hi=>?_⟩
 have v:=w.all i hi
 have wd : 0<=((hs.getD i H0).2.1.getD i (0,0)).1:=(ZKJ (P:=λ w:Int × Int=>0<=w.1/\0<=w.2/\w.2<=3) v.bs ⟨Int.le_refl 0,Int.le_refl 0,by show (0:Int)<=3; omega⟩).1
 unfold ZAK
 rw [List.getD_eq_getElem?_getD,List.getElem?_map,List.getElem?_range (by rw [w.len]; exact hi)]
 show HQ r n i (doH fa le co i (hs.getD i H0))
 unfold doH
 split
 ·exact ⟨.inl rfl,v.bl,v.bs,v.tl,v.ts,List.length_replicate.trans v.ml,ZSB hw,ZD0,.inr λ k hk=>(List.mem_replicate.mp hk).2⟩
 ·split
  ·exact ⟨v.up,sl.trans v.bl,ZDm v.bs ⟨wd,by show (0:Int)<=3; omega,by show (3:Int)<=3; omega⟩,sl.trans v.tl,ZDm v.ts ⟨Int.le_refl 0,ht⟩,List.length_replicate.trans v.ml,ZSB hw,ZD0,.inr λ k hk=>(List.mem_replicate.mp hk).2⟩
  ·split
   ·exact ⟨.inr rfl,sl.trans v.bl,ZDm v.bs ⟨by show 0<=_+(1:Int); omega,by show (0:Int)<=0; omega,by show (0:Int)<=3; omega⟩,sl.trans v.tl,ZDm v.ts ⟨Int.le_refl 0,ht⟩,v.ml,v.ms,v.m0,.inl rfl⟩
   ·exact v
theorem ZLA {r:Ru} {n:Nat}:∀ {L:List Int} {hs:List Hs},AQ r n hs->(∀ x ∈ L,∀ b,¬ 0 < tmr hs x.toNat b)->AQ r n (L.foldl (λ hs x=>ZBU x.toNat hs) hs)
 | [],hs,w,_=>w
 | x :: L,hs,w,h=>by
  rw [List.foldl_cons]
  refine ZLA (L:=L) ?_ λ y hy b z=>h y (List.mem_cons_of_mem _ hy) b (ZHh (L:=[x]) z)
  unfold ZBU
  refine w.set λ hx=>?_
  have v:=w.all x.toNat hx
  refine ⟨.inl rfl,v.bl,v.bs,v.tl,v.ts,v.ml,v.ms,v.m0,.inr λ k hk=>?_⟩
  obtain ⟨i,hi,e⟩:=List.mem_iff_getElem.mp hk
  have h1:=h x (List.mem_cons_self ..) i
  have h2:=v.ms k hk
  unfold tmr at h1
  rw [List.getD_eq_getElem?_getD (i:=i),List.getElem?_eq_getElem hi] at h1
  have h1 : ¬ 0 < ((hs.getD x.toNat H0).2.2.2[i]):=h1
  have e:(hs.getD x.toNat H0).2.2.2[i]=k:=e
  omega
theorem ZRw {r:Ru} {ts:List (Int × Int)} {tn:Int} {hs:List Hs} {lo fa le co:List Int} (ht : 0<=r.t) (hw : 0<=r.w) (n2 : 2<=ts.length) (w:AQ r ts.length hs) (hle:∀ k ∈ le,0<=k/\k < ts.length) (hco:∀ k ∈ co,0<=k/\k < ts.length):AQ r ts.length (ZEx r ts tn hs lo fa le co).hs:=by
 have hx:∀ x ∈ le ++ co,x.toNat < ts.length:=λ x hx=>by
  rcases List.mem_append.mp hx with h | h
  ·have:=hle x h; omega
  ·have:=hco x h; omega
 have h1:=ZK5 (e:=⟨r,ts,tn,lo⟩) (L:=le ++ co) (R:=⟨ZAK fa le co hs,[]⟩) ht hw (ZQa (fa:=fa) (le:=le) (co:=co) ht hw w) hx
 refine ZLX (e:=⟨r,ts,tn,lo⟩) (R:=⟨le.foldl (λ hs x=>ZBU x.toNat hs) ((le ++ co).foldl (λ (R:Rw) (x:Int)=>ZBN ⟨r,ts,tn,lo⟩ x.toNat R) ⟨ZAK fa le co hs,[]⟩).hs,_⟩) ht hw n2 (ZLA h1 λ x h b z=>?_) λ a ha=>List.mem_range.mp ha
 have z : 0 < tmr (ZAK fa le co hs) x.toNat b:=ZHo (e:=⟨r,ts,tn,lo⟩) (R:=⟨ZAK fa le co hs,[]⟩) z
 have hxl:=hle x h
 unfold tmr ZAK at z
 rw [List.getD_eq_getElem?_getD (l:=List.map _ _),List.getElem?_map,List.getElem?_range (by rw [w.len]; omega)] at z
 have z : 0 < (doH fa le co x.toNat (hs.getD x.toNat H0)).2.2.2.getD b 0:=z
 unfold doH at z
 rw [Int.toNat_of_nonneg hxl.1] at z
 split at z
 ·dsimp only at z
  rw [ZD0] at z
  cases z
 ·rw [if_pos (by simpa using h)] at z
  dsimp only at z
  rw [ZD0] at z
  cases z
end L2
namespace L2
open PySem PySem.Spec PyProof.Rows H1
def wd (hs:List Hs) (i y:Nat):Int × Int:=(hs.getD i H0).2.1.getD y (0,0)
def BkN (hs:List Hs) (y:Nat) (k:Int):Prop:=∀ i,(wd hs i y).1<=k/\((wd hs i y).1=k->gtW (wd hs i y) (wd hs y y)=false)
def Nb (hs:List Hs) (y:Nat) (k:Int):Prop:=∀ i,(wd hs i y).1<=k
theorem BkN.nb {hs:List Hs} {y:Nat} {k:Int} (h:BkN hs y k):Nb hs y k:=λ i=>(h i).1
theorem Nb.bk {hs:List Hs} {y:Nat} {k:Int} (h:Nb hs y k):BkN hs y (k+1):=λ i=>⟨by have:=h i; omega,λ z=>by have:=h i; omega⟩
theorem BkN.more {hs:List Hs} {y:Nat} {k m:Int} (h:BkN hs y k) (hm:k<=m):BkN hs y m:=by
 by_cases z:k=m
 ·rw [← z]; exact h
 ·have h2:Nb hs y (m - 1):=λ i=>by have:=(h i).1; omega
  have:=h2.bk
  rw [show m - 1+1=m by omega] at this
  exact this
theorem BkN.same {hs hs':List Hs} {y:Nat} {k:Int} (h:BkN hs y k) (e:∀ i,wd hs' i y=wd hs i y):BkN hs' y k:=λ i=>by
 rw [e i,e y]
 exact h i
theorem ZGK {hs:List Hs} {x i y:Nat} {h:Hs}:wd (hs.set x h) i y=if x=i/\i < hs.length then h.2.1.getD y (0,0) else wd hs i y:=by
 unfold wd
 rw [ZCi]
 split <;> rfl
theorem ZLS {hs:List Hs} {x i y:Nat} {h:Hs} (e:h.2.1=(hs.getD x H0).2.1):wd (hs.set x h) i y=wd hs i y:=by
 rw [ZGK]
 split
 ·rename_i z
  rw [e,z.1]
  rfl
 ·rfl
section
variable {e:En}
theorem ZE5 {x y i z:Nat} {hs:List Hs}:wd (ZCA e x y hs) i z=wd hs i z:=ZLS rfl
theorem ZI4 {cl:List Str} {z y:Nat} {wx:Int × Int} (hzy:z ≠ y):∀ {ns:List (Nat × (Int × Int))} {h:Hs},(∀ p ∈ ns,p.1=y->p.2=wx)->(ZAR cl z h ns).2.1.getD y (0,0)=h.2.1.getD y (0,0) ∨ (ZAR cl z h ns).2.1.getD y (0,0)=wx
 | [],h,_=>.inl rfl
 | p :: ns,h,hp=>by
  have ih:=ZI4 (cl:=cl) hzy (ns:=ns) (h:=ZAz cl z h p) λ q hq=>hp q (List.mem_cons_of_mem _ hq)
  have h0:=hp p (List.mem_cons_self ..)
  have k:(ZAz cl z h p).2.1.getD y (0,0)=h.2.1.getD y (0,0) ∨ (ZAz cl z h p).2.1.getD y (0,0)=wx:=by
   unfold ZAz ZIC ZIW
   split
   ·split
    ·left
     dsimp only
     rw [ZCi,if_neg λ u=>hzy u.1]
    ·exact .inl rfl
   ·split
    ·dsimp only
     rw [ZCi]
     split
     ·rename_i u
      exact .inr (h0 u.1)
     ·exact .inl rfl
    ·exact .inl rfl
  show (ZAR cl z (ZAz cl z h p) ns).2.1.getD y (0,0)=_ ∨ (ZAR cl z (ZAz cl z h p) ns).2.1.getD y (0,0)=wx
  rcases ih with ih | ih
  ·rw [ih]; exact k
  ·exact .inr ih
theorem ZHW {cl:List Str} {y:Nat} {wx:Int × Int}:∀ {ns:List (Nat × (Int × Int))} {h:Hs},(∀ p ∈ ns,p.1=y->p.2=wx)->(ZAR cl y h ns).2.1.getD y (0,0)=h.2.1.getD y (0,0) ∨ ((ZAR cl y h ns).2.1.getD y (0,0)=(wx.1+1,0)/\gtW wx (h.2.1.getD y (0,0))=true)
 | [],h,_=>.inl rfl
 | p :: ns,h,hp=>by
  have ih:=ZHW (cl:=cl) (ns:=ns) (h:=ZAz cl y h p) λ q hq=>hp q (List.mem_cons_of_mem _ hq)
  have h0:=hp p (List.mem_cons_self ..)
  have k:(ZAz cl y h p).2.1.getD y (0,0)=h.2.1.getD y (0,0) ∨ ((ZAz cl y h p).2.1.getD y (0,0)=(wx.1+1,0)/\gtW wx (h.2.1.getD y (0,0))=true):=by
   unfold ZAz ZIC ZIW
   split
   ·rename_i u
    have u2:=h0 u
    split
    ·rename_i c
     dsimp only
     rw [ZCi]
     split
     ·exact .inr ⟨by rw [u2],by rw [← u2]; exact c.2.2⟩
     ·exact .inl rfl
    ·exact .inl rfl
   ·rename_i u
    split
    ·left
     dsimp only
     rw [ZCi,if_neg λ v=>u v.1]
    ·exact .inl rfl
  show (ZAR cl y (ZAz cl y h p) ns).2.1.getD y (0,0)=_ ∨ ((ZAR cl y (ZAz cl y h p) ns).2.1.getD y (0,0)=_/\_)
  rcases ih with ih | ⟨ih,_⟩
  ·rw [ih]; exact k
  ·rcases k with k | k
   ·rename_i g
    exact .inr ⟨ih,by rw [k] at g; exact g⟩
   ·exact .inr ⟨ih,k.2⟩
theorem ZPV {x z y:Nat} {hs:List Hs} {k:Int} (h:BkN hs y k):BkN (ZDy e x z hs) y k:=by
 have hp:∀ p ∈ ZB1 (hs.getD x H0).2.1 (ZG1 e x z) (ZFo e (hs.getD x H0) x z) e.ts.length,p.1=y->p.2=wd hs x y:=λ p hp u=>by
  rw [ZI6 hp,u]
  rfl
 unfold ZDy
 by_cases hzy:z=y
 ·subst hzy
  have lm:(ZCA e x z hs).length=hs.length:=by unfold ZCA; rw [List.length_set]
  have t:=ZHW (cl:=e.r.cl) (h:=hs.getD z H0) hp
  have eo:∀ i,wd ((ZCA e x z hs).set z (ZAR e.r.cl z (hs.getD z H0) (ZB1 (hs.getD x H0).2.1 (ZG1 e x z) (ZFo e (hs.getD x H0) x z) e.ts.length))) i z=if z=i/\i < hs.length then (ZAR e.r.cl z (hs.getD z H0) (ZB1 (hs.getD x H0).2.1 (ZG1 e x z) (ZFo e (hs.getD x H0) x z) e.ts.length)).2.1.getD z (0,0) else wd hs i z:=λ i=>by rw [ZGK,lm,ZE5]
  generalize ZAR e.r.cl z (hs.getD z H0) (ZB1 (hs.getD x H0).2.1 (ZG1 e x z) (ZFo e (hs.getD x H0) x z) e.ts.length)=h' at *
  rcases t with t | ⟨t,tg⟩
  ·refine h.same λ i=>?_
   rw [eo]
   split
   ·rename_i u
    rw [t,u.1]
    rfl
   ·rfl
  ·by_cases hz:z < hs.length
   ·have ox:wd ((ZCA e x z hs).set z h') z z=((wd hs x z).1+1,0):=by rw [eo,if_pos ⟨rfl,hz⟩]; exact t
    have tg:gtW (wd hs x z) (wd hs z z)=true:=tg
    have hx:=h x
    have g1:=ZA6.mp tg
    have lt:(wd hs x z).1 < k:=by
     have:=hx.1
     by_cases u:(wd hs x z).1=k
     ·rw [hx.2 u] at tg; cases tg
     ·omega
    intro i
    rw [ox]
    by_cases hi:z=i
    ·subst hi
     rw [ox]
     refine ⟨by show (wd hs x z).1+1<=k; omega,λ _=>?_⟩
     rw [← Bool.not_eq_true,ZA6]
     omega
    ·rw [eo,if_neg λ u=>hi u.1]
     refine ⟨(h i).1,λ u=>?_⟩
     have g2:=(h i).2 u
     rw [← Bool.not_eq_true,ZA6] at g2
     omega
   ·refine h.same λ i=>?_
    rw [eo,if_neg λ u=>hz (by rw [u.1]; exact u.2)]
 ·have t:=ZI4 (cl:=e.r.cl) (h:=hs.getD z H0) hzy hp
  intro i
  rw [ZGK,ZGK,if_neg (c:=z=y/\_) λ u=>hzy u.1,ZE5,ZE5]
  split
  ·rename_i u
   rcases t with t | t
   ·rw [t]; exact h z
   ·rw [t]; exact h x
  ·exact h i
theorem ZIG {x z y:Nat} {R:Rw} {k:Int} (h:BkN R.hs y k):BkN (ZAq e x z R).2.hs y k:=by
 unfold ZAq
 split
 ·exact h.same λ i=>ZE5
 ·split
  ·exact h.same λ i=>ZE5
  ·exact ZPV h
theorem ZKW {y:Nat} {k:Int}:∀ {w:List (Nat × Nat)} {R:Rw},BkN R.hs y k->BkN (ZDO e w R).2.hs y k
 | [],R,h=>h
 | p :: w,R,h=>by
  rw [ZDO]
  split
  ·exact ZKW (ZIG h)
  ·exact ZIG h
theorem ZIX {y:Nat} {k:Int}:∀ {ws:List (List (Nat × Nat))} {R:Rw},BkN R.hs y k->BkN (ZBX e ws R).2.hs y k
 | [],R,h=>h
 | w :: ws,R,h=>by
  rw [ZBX]
  split
  ·exact ZKW h
  ·exact ZIX (ZKW h)
theorem ZNv {b y:Nat} {ans:Bool} {h:Hs}:((ZHC e b ans h).2.1.getD y (0,0)).1=(h.2.1.getD y (0,0)).1:=by
 have k:∀ m:Int,((h.2.1.set b ((h.2.1.getD b (0,0)).1,m)).getD y (0,0)).1=(h.2.1.getD y (0,0)).1:=λ m=>by
  rw [ZCi]
  split
  ·rename_i z
   rw [z.1]
  ·rfl
 unfold ZHC
 split
 ·rfl
 ·split
  ·exact k _
  ·split
   ·split
    ·exact k _
    ·rfl
   ·split <;> rfl
theorem ZOf {a b y:Nat} {R:Rw} {k:Int} (h:BkN R.hs y k):BkN (ZEV e a b R).hs y (k+1):=by
 unfold ZEV
 split
 ·refine Nb.bk λ i=>?_
  show (wd (ZGJ e a b _ _) i y).1<=k
  unfold ZGJ
  rw [ZGK]
  split
  ·rw [ZNv]
   exact (ZIX h a).1
  ·exact (ZIX h i).1
 ·exact h.more (by omega)
theorem ZK9 {a y:Nat}:∀ {L:List Nat} {R:Rw} {k:Int},BkN R.hs y k->BkN (L.foldl (λ R b=>ZEV e a b R) R).hs y (k+L.length)
 | [],R,k,h=>h.more (by show k<=k+(0:Nat); omega)
 | b :: L,R,k,h=>by
  rw [List.foldl_cons]
  refine (ZK9 (L:=L) (ZOf h)).more ?_
  rw [List.length_cons]
  omega
theorem ZJh {y:Nat} (hn : 2<=e.ts.length) (n8:e.ts.length<=8):∀ {L:List Nat} {R:Rw} {k:Int},(∀ a ∈ L,a < e.ts.length)->BkN R.hs y k->BkN (L.foldl (λ R a=>ZCe e a R) R).hs y (k+8 * L.length)
 | [],R,k,_,h=>h.more (by show k<=k+8 * (0:Nat); omega)
 | a :: L,R,k,hl,h=>by
  have ha:=hl a (List.mem_cons_self ..)
  rw [List.foldl_cons]
  have h1:BkN (ZCe e a R).hs y (k+8):=by
   unfold ZCe
   split
   ·have:=ZEr (e:=e) hn ha
    exact (ZK9 h).more (by omega)
   ·exact h.more (by omega)
  refine (ZJh (L:=L) hn n8 (λ c hc=>hl c (List.mem_cons_of_mem _ hc)) h1).more ?_
  rw [List.length_cons]
  omega
theorem ZJC {x y:Nat} {k:Int}:∀ {L:List Nat} {R:Rw},BkN R.hs y k->BkN (L.foldl (λ R z=>if z=x then R else (ZAq e x z R).2) R).hs y k
 | [],R,h=>h
 | z :: L,R,h=>by
  rw [List.foldl_cons]
  refine ZJC (L:=L) ?_
  split
  ·exact h
  ·exact ZIG h
theorem ZJA {y:Nat} {k:Int}:∀ {L:List Int} {R:Rw},BkN R.hs y k->BkN (L.foldl (λ (R:Rw) (x:Int)=>ZBN e x.toNat R) R).hs y k
 | [],R,h=>h
 | x :: L,R,h=>by
  rw [List.foldl_cons]
  exact ZJA (L:=L) (ZJC h)
end
theorem ZJ5 {i y:Nat}:∀ {L:List Int} {hs:List Hs},wd (L.foldl (λ hs x=>ZBU x.toNat hs) hs) i y=wd hs i y
 | [],_=>rfl
 | x :: L,hs=>by
  rw [List.foldl_cons,ZJ5 (L:=L)]
  unfold ZBU
  exact ZLS rfl
theorem ZOw {fa le co:List Int} {hs:List Hs} {y:Nat} {k:Int} (h0 : 0<=k) (h:Nb hs y k):Nb (ZAK fa le co hs) y (k+1):=λ i=>by
 unfold wd ZAK
 rw [List.getD_eq_getElem?_getD (l:=List.map _ _),List.getElem?_map]
 by_cases hi:i < hs.length
 ·rw [List.getElem?_range hi]
  show ((doH fa le co i (hs.getD i H0)).2.1.getD y (0,0)).1<=k+1
  have hy:=h i
  have hi':=h i
  unfold wd at hy
  have ks:∀ w:Int × Int,i=y->w.1<=k+1->(((hs.getD i H0).2.1.set i w).getD y (0,0)).1<=k+1:=λ w _ hw=>by
   rw [ZCi]
   split
   ·exact hw
   ·omega
  have kn:∀ w:Int × Int,i ≠ y->(((hs.getD i H0).2.1.set i w).getD y (0,0)).1<=k+1:=λ w hn=>by
   rw [ZCi,if_neg λ z=>hn z.1]
   omega
  unfold doH
  split
  ·show ((hs.getD i H0).2.1.getD y (0,0)).1<=k+1
   omega
  ·by_cases hiy:i=y
   ·have own:((hs.getD i H0).2.1.getD i (0,0)).1<=k:=by rw [hiy] at hy ⊢; exact hy
    split
    ·exact ks _ hiy (by show _<=k+1; omega)
    ·split
     ·exact ks _ hiy (by show _+1<=k+1; omega)
     ·omega
   ·split
    ·exact kn _ hiy
    ·split
     ·exact kn _ hiy
     ·omega
 ·rw [List.getElem?_eq_none (by rw [List.length_range]; omega)]
  show (0:Int)<=k+1
  omega
theorem ZOa {r:Ru} {ts:List (Int × Int)} {tn:Int} {hs:List Hs} {lo fa le co:List Int} {y:Nat} {k:Int} (n2 : 2<=ts.length) (n8:ts.length<=8) (h0 : 0<=k) (h:Nb hs y k):Nb (ZEx r ts tn hs lo fa le co).hs y (k+66):=by
 have h1:=ZJA (e:=⟨r,ts,tn,lo⟩) (L:=le ++ co) (R:=⟨ZAK fa le co hs,[]⟩) (ZOw (fa:=fa) (le:=le) (co:=co) h0 h).bk
 have h2:BkN (le.foldl (λ hs x=>ZBU x.toNat hs) ((le ++ co).foldl (λ (R:Rw) (x:Int)=>ZBN ⟨r,ts,tn,lo⟩ x.toNat R) ⟨ZAK fa le co hs,[]⟩).hs) y (k+1+1):=h1.same λ i=>ZJ5
 have h3:=ZJh (e:=⟨r,ts,tn,lo⟩) (R:=⟨le.foldl (λ hs x=>ZBU x.toNat hs) ((le ++ co).foldl (λ (R:Rw) (x:Int)=>ZBN ⟨r,ts,tn,lo⟩ x.toNat R) ⟨ZAK fa le co hs,[]⟩).hs,((le ++ co).foldl (λ (R:Rw) (x:Int)=>ZBN ⟨r,ts,tn,lo⟩ x.toNat R) ⟨ZAK fa le co hs,[]⟩).le⟩) n2 n8 (L:=List.range ts.length) (λ a ha=>List.mem_range.mp ha) h2
 rw [List.length_range] at h3
 exact (h3.more (by omega)).nb
end L2
namespace L2
open PySem PySem.Spec PyProof.Rows H1
section
variable {X:Cx}
end
section
variable {sd:Sd} {g:G} {P:W->G->Prop} {d:DE}
end
section
variable {X:Cx}
end
section
variable {g:G} {P:W->G->Prop}
end
end L2
namespace K18
open PySem PySem.Spec PyProof.Rows L2 H1
abbrev ZZ:CD:=⟨"Road",["rules","town","state","lost","letters"]⟩
def top (i:Nat):Stmt:=PySem.Challenge.pw_hearsaybook_k18_states_that_come.main.body.getD i (.Pass ⟨0,0,0,0⟩)
structure Adr where
 (c_Road:Addr)
 (f_is_whole f_is_count f_is_between f_is_tuple_of f_put f_is_word f_newer f_ticks f_ticks_by f_target f_notes_of f_due_houses f_news_houses f_taken f_refuted f_noted f_gives_way f_posted f_with_house f_asks_any f_asked_in_order f_asks_now f_is_about f_ways f_helpers f_judged f_stepped f_done f_write_to_all f_stop f_ask_all f_is_answered f_comes_through f_begun f_is_state f_is_house f_is_state_book f_are_between f_are_timers f__law_box f__law_take f__law_rules f__law_town f__law_state f__law_lost f__law_doings f__law_whole f__law_is_house f__law_is_state f__law_told f__law_right f_Road____init__ f_Road__sends:Addr)
 (fd_is_whole fd_is_count fd_is_between fd_is_tuple_of fd_put fd_is_word fd_newer fd_ticks fd_ticks_by fd_target fd_notes_of fd_due_houses fd_news_houses fd_taken fd_refuted fd_noted fd_gives_way fd_posted fd_with_house fd_asks_any fd_asked_in_order fd_asks_now fd_is_about fd_ways fd_helpers fd_judged fd_stepped fd_done fd_write_to_all fd_stop fd_ask_all fd_is_answered fd_comes_through fd_begun fd_is_state fd_is_house fd_is_state_book fd_are_between fd_are_timers fd__law_box fd__law_take fd__law_rules fd__law_town fd__law_state fd__law_lost fd__law_doings fd__law_whole fd__law_is_house fd__law_is_state fd__law_told fd__law_right fd_Road____init__ fd_Road__sends:FuncData)
structure Txt (K:PySem.W.Frag) (mg:Str->Option Value) (A:Adr):Prop where
 z_abs:mg "abs" = none
 z_all:mg "all" = none
 z_any:mg "any" = none
 z_bool:mg "bool" = none
 z_enumerate:mg "enumerate" = none
 z_int:mg "int" = none
 z_isinstance:mg "isinstance" = none
 z_len:mg "len" = none
 z_list:mg "list" = none
 z_min:mg "min" = none
 z_range:mg "range" = none
 z_sorted:mg "sorted" = none
 z_tuple:mg "tuple" = none
 g_ALIVE:ZJO mg "ALIVE" 0
 g_SUSPECT:ZJO mg "SUSPECT" 1
 g_GONE:ZJO mg "GONE" 2
 g_LEFT:ZJO mg "LEFT" 3
 g_MOST_NUMBER:ZJO mg "MOST_NUMBER" 1000000
 k_Road:Kls K mg ZZ A.c_Road
 m_Road:Mk K A.c_Road A.f_Road____init__
 D_is_whole:Def K mg "is_whole" (top 1) ["thing"] A.f_is_whole A.fd_is_whole
 D_is_count:Def K mg "is_count" (top 2) ["thing"] A.f_is_count A.fd_is_count
 D_is_between:Def K mg "is_between" (top 3) ["thing","low","high"] A.f_is_between A.fd_is_between
 D_is_tuple_of:Def K mg "is_tuple_of" (top 4) ["thing","length"] A.f_is_tuple_of A.fd_is_tuple_of
 D_put:Def K mg "put" (top 5) ["things","place","thing"] A.f_put A.fd_put
 D_is_word:Def K mg "is_word" (top 11) ["thing"] A.f_is_word A.fd_is_word
 D_newer:Def K mg "newer" (top 12) ["one","other"] A.f_newer A.fd_newer
 D_ticks:Def K mg "ticks" (top 14) ["town","house","turn"] A.f_ticks A.fd_ticks
 D_ticks_by:Def K mg "ticks_by" (top 15) ["town","house","turn"] A.f_ticks_by A.fd_ticks_by
 D_target:Def K mg "target" (top 16) ["town","house","turn"] A.f_target A.fd_target
 D_notes_of:Def K mg "notes_of" (top 18) ["rules","town","state","x","y"] A.f_notes_of A.fd_notes_of
 D_due_houses:Def K mg "due_houses" (top 19) ["rules","town","turn","x","y"] A.f_due_houses A.fd_due_houses
 D_news_houses:Def K mg "news_houses" (top 20) ["rules","told","x","due"] A.f_news_houses A.fd_news_houses
 D_taken:Def K mg "taken" (top 21) ["rules","house","y","notes"] A.f_taken A.fd_taken
 D_refuted:Def K mg "refuted" (top 22) ["rules","house","y","word"] A.f_refuted A.fd_refuted
 D_noted:Def K mg "noted" (top 23) ["rules","house","about","word"] A.f_noted A.fd_noted
 D_gives_way:Def K mg "gives_way" (top 24) ["rules","old","word"] A.f_gives_way A.fd_gives_way
 D_posted:Def K mg "posted" (top 26) ["rules","town","state","x","y"] A.f_posted A.fd_posted
 D_with_house:Def K mg "with_house" (top 27) ["state","at","house"] A.f_with_house A.fd_with_house
 D_asks_any:Def K mg "asks_any" (top 28) ["town","state","a"] A.f_asks_any A.fd_asks_any
 D_asked_in_order:Def K mg "asked_in_order" (top 29) ["town","turn","a"] A.f_asked_in_order A.fd_asked_in_order
 D_asks_now:Def K mg "asks_now" (top 30) ["rules","town","state","a","b"] A.f_asks_now A.fd_asks_now
 D_is_about:Def K mg "is_about" (top 31) ["book","house"] A.f_is_about A.fd_is_about
 D_ways:Def K mg "ways" (top 32) ["rules","state","a","b"] A.f_ways A.fd_ways
 D_helpers:Def K mg "helpers" (top 33) ["rules","book","a","b"] A.f_helpers A.fd_helpers
 D_judged:Def K mg "judged" (top 34) ["rules","state","a","b","answered"] A.f_judged A.fd_judged
 D_stepped:Def K mg "stepped" (top 37) ["rules","town","state","doings"] A.f_stepped A.fd_stepped
 D_done:Def K mg "done" (top 38) ["houses","doings"] A.f_done A.fd_done
 D_write_to_all:Def K mg "write_to_all" (top 39) ["road","x"] A.f_write_to_all A.fd_write_to_all
 D_stop:Def K mg "stop" (top 40) ["road","x"] A.f_stop A.fd_stop
 D_ask_all:Def K mg "ask_all" (top 41) ["road","a"] A.f_ask_all A.fd_ask_all
 D_is_answered:Def K mg "is_answered" (top 42) ["road","a","b"] A.f_is_answered A.fd_is_answered
 D_comes_through:Def K mg "comes_through" (top 43) ["road","way"] A.f_comes_through A.fd_comes_through
 D_begun:Def K mg "begun" (top 46) ["rules","town"] A.f_begun A.fd_begun
 D_is_state:Def K mg "is_state" (top 47) ["rules","town","thing"] A.f_is_state A.fd_is_state
 D_is_house:Def K mg "is_house" (top 48) ["rules","many","at","thing"] A.f_is_house A.fd_is_house
 D_is_state_book:Def K mg "is_state_book" (top 49) ["thing","many"] A.f_is_state_book A.fd_is_state_book
 D_are_between:Def K mg "are_between" (top 50) ["thing","many","high"] A.f_are_between A.fd_are_between
 D_are_timers:Def K mg "are_timers" (top 51) ["rules","many","at","up","thing"] A.f_are_timers A.fd_are_timers
 D__law_box:Def K mg "_law_box" (top 53) ["_law_script","_law_k"] A.f__law_box A.fd__law_box
 D__law_take:Def K mg "_law_take" (top 54) ["_law_box_here","_law_many"] A.f__law_take A.fd__law_take
 D__law_rules:Def K mg "_law_rules" (top 55) ["_law_box_here","_law_whole_here"] A.f__law_rules A.fd__law_rules
 D__law_town:Def K mg "_law_town" (top 56) ["_law_box_here","_law_most"] A.f__law_town A.fd__law_town
 D__law_state:Def K mg "_law_state" (top 57) ["_law_box_here","_law_rules_here","_law_town_here"] A.f__law_state A.fd__law_state
 D__law_lost:Def K mg "_law_lost" (top 58) ["_law_box_here","_law_most"] A.f__law_lost A.fd__law_lost
 D__law_doings:Def K mg "_law_doings" (top 59) ["_law_box_here","_law_state_here","_law_moves"] A.f__law_doings A.fd__law_doings
 D__law_whole:Def K mg "_law_whole" (top 60) ["_law_thing","_law_least","_law_most"] A.f__law_whole A.fd__law_whole
 D__law_is_house:Def K mg "_law_is_house" (top 61) ["_law_rules_here","_law_n","_law_house","_law_thing"] A.f__law_is_house A.fd__law_is_house
 D__law_is_state:Def K mg "_law_is_state" (top 62) ["_law_rules_here","_law_town_here","_law_thing"] A.f__law_is_state A.fd__law_is_state
 D__law_told:Def K mg "_law_told" (top 63) ["_law_rules_here","_law_town_here","_law_thing"] A.f__law_told A.fd__law_told
 D__law_right:Def K mg "_law_right" (top 64) ["_law_rules_here","_law_town_here","_law_state_here","_law_doings_here","_law_later"] A.f__law_right A.fd__law_right
 D_Road____init__:MDef K A.c_Road "__init__" "Road.__init__" (ZCu (top 36) 0) ["self","rules","town","state","lost"] A.f_Road____init__ A.fd_Road____init__
 D_Road__sends:MDef K A.c_Road "sends" "Road.sends" (ZCu (top 36) 1) ["self","x","y"] A.f_Road__sends A.fd_Road__sends
@[reducible] noncomputable def ZET:DS :=
 (ZU (ZBu (dF ZF0 (ZC (ZD 0) (ZC (λ _ g=>some (.ty "int",g)) ZK))) (ZG0 (dF ZF0 (ZC (ZD 0) (ZC (λ _ g=>some (.ty "bool",g)) ZK))))))
@[irreducible] noncomputable def ZBE:List W->G->Option (W × G):=Z2 1 ZET
theorem ZJW {a0:W} {g:G} {P:W->G->Prop} (h:EvS (ZET [some a0] g) (runP P)):EvP (ZBE [a0] g) P:=by
 unfold ZBE
 exact Zd h
@[reducible] noncomputable def ZEQ:DS :=
 (ZU (ZBu (dF ZBE (ZC (ZD 0) ZK)) (dOp ZOO (ZD 0) (dC (.int 0)))))
@[irreducible] noncomputable def ZBK:List W->G->Option (W × G):=Z2 1 ZEQ
theorem ZJ2 {a0:W} {g:G} {P:W->G->Prop} (h:EvS (ZEQ [some a0] g) (runP P)):EvP (ZBK [a0] g) P:=by
 unfold ZBK
 exact Zd h
@[reducible] noncomputable def ZDe:DS :=
 (ZU (ZBu (dF ZBE (ZC (ZD 0) ZK)) (ZEA ZLe ZLe (ZD 1) (ZD 0) (ZD 2))))
@[irreducible] noncomputable def ZAT:List W->G->Option (W × G):=Z2 3 ZDe
theorem ZHL {a0 a1 a2:W} {g:G} {P:W->G->Prop} (h:EvS (ZDe [some a0,some a1,some a2] g) (runP P)):EvP (ZAT [a0,a1,a2] g) P:=by
 unfold ZAT
 exact Zd h
@[reducible] noncomputable def ZC5:DS :=
 (ZU (ZBu (dF ZF0 (ZC (ZD 0) (ZC (λ _ g=>some (.ty "tuple",g)) ZK))) (dOp ZCJ (dF (f1 ZCL) (ZC (ZD 0) ZK)) (ZD 1))))
@[irreducible] noncomputable def Zv:List W->G->Option (W × G):=Z2 2 ZC5
theorem ZGY {a0 a1:W} {g:G} {P:W->G->Prop} (h:EvS (ZC5 [some a0,some a1] g) (runP P)):EvP (Zv [a0,a1] g) P:=by
 unfold Zv
 exact Zd h
@[reducible] noncomputable def ZMy:DS :=
 (ZU (dOp ZAQ (dOp ZAQ (dSl (ZD 0) ZCT (ZEN (ZD 1))) (dF Z8 (ZC (ZD 2) ZK))) (dSl (ZD 0) (ZEN (dOp ZAQ (ZD 1) (dC (.int 1)))) ZCT)))
@[irreducible] noncomputable def ZAp:List W->G->Option (W × G):=Z2 3 ZMy
theorem ZR9 {a0 a1 a2:W} {g:G} {P:W->G->Prop} (h:EvS (ZMy [some a0,some a1,some a2] g) (runP P)):EvP (ZAp [a0,a1,a2] g) P:=by
 unfold ZAp
 exact Zd h
@[reducible] noncomputable def ZFO:DS :=
 (ZU (ZBu (dF Zv (ZC (ZD 0) (ZC (dC (.int 2)) ZK))) (ZBu (dF ZBK (ZC (dOp Zf (ZD 0) (dC (.int 0))) ZK)) (dF ZAT (ZC (dOp Zf (ZD 0) (dC (.int 1))) (ZC (dC (.int 0)) (ZC (dC (.int 3)) ZK)))))))
@[irreducible] noncomputable def ZB3:List W->G->Option (W × G):=Z2 1 ZFO
theorem ZK2 {a0:W} {g:G} {P:W->G->Prop} (h:EvS (ZFO [some a0] g) (runP P)):EvP (ZB3 [a0] g) P:=by
 unfold ZB3
 exact Zd h
@[reducible] noncomputable def ZIH:DS :=
 (ZU (dOp ZN4 (ZD 0) (ZD 1)))
@[irreducible] noncomputable def ZCw:List W->G->Option (W × G):=Z2 2 ZIH
theorem ZMv {a0 a1:W} {g:G} {P:W->G->Prop} (h:EvS (ZIH [some a0,some a1] g) (runP P)):EvP (ZCw [a0,a1] g) P:=by
 unfold ZCw
 exact Zd h
@[reducible] noncomputable def ZIm:DS :=
 (ZR (ZAu (.tp (.cons (.nm 3) (.cons (.nm 4) .nil))) (dOp Zf (ZD 0) (ZD 1)))
 (ZU (ZBu (dOp ZOO (ZD 2) (ZD 4)) (dOp ZCJ (dOp ZDI (dOp ZGl (ZD 2) (ZD 4)) (ZD 3)) (dC (.int 0))))))
@[irreducible] noncomputable def ZEF:List W->G->Option (W × G):=Z2 5 ZIm
theorem ZNH {a0 a1 a2:W} {g:G} {P:W->G->Prop} (h:EvS (ZIm [some a0,some a1,some a2,none,none] g) (runP P)):EvP (ZEF [a0,a1,a2] g) P:=by
 unfold ZEF
 exact Zd h
@[reducible] noncomputable def ZEe:DS :=
 (ZR (ZAu (.tp (.cons (.nm 3) (.cons (.nm 4) .nil))) (dOp Zf (ZD 0) (ZD 1)))
 (ZR (Zz (dB (dOp ZG6 (ZD 2) (ZD 4)))
 (ZU (dC (.int 0)))
 dNx)
 (ZU (dOp ZAQ (dOp ZFV (dOp ZGl (ZD 2) (ZD 4)) (ZD 3)) (dC (.int 1))))))
@[irreducible] noncomputable def ZBF:List W->G->Option (W × G):=Z2 5 ZEe
theorem ZI9 {a0 a1 a2:W} {g:G} {P:W->G->Prop} (h:EvS (ZEe [some a0,some a1,some a2,none,none] g) (runP P)):EvP (ZBF [a0,a1,a2] g) P:=by
 unfold ZBF
 exact Zd h
@[reducible] noncomputable def ZGT:DS :=
 (ZR (Zr 3 (dF (f1 ZCL) (ZC (ZD 0) ZK)))
 (ZR (Zr 4 (dOp ZGl (dF ZBF (ZC (ZD 0) (ZC (ZD 1) (ZC (ZD 2) ZK)))) (dC (.int 1))))
 (ZU (dOp ZDI (dOp ZAQ (dOp ZAQ (ZD 1) (dC (.int 1))) (dOp ZDI (ZD 4) (dOp ZGl (ZD 3) (dC (.int 1))))) (ZD 3)))))
@[irreducible] noncomputable def ZCG:List W->G->Option (W × G):=Z2 5 ZGT
theorem ZLf {a0 a1 a2:W} {g:G} {P:W->G->Prop} (h:EvS (ZGT [some a0,some a1,some a2,none,none] g) (runP P)):EvP (ZCG [a0,a1,a2] g) P:=by
 unfold ZCG
 exact Zd h
@[reducible] noncomputable def ZDV:DS :=
 (ZR (Zr 5 (dOp Zf (ZD 0) (dC (.int 4))))
 (ZR (Zr 6 (dF ZDh (ZC (ZD 4) ZK)))
 (ZR (Zz (dB (dOp ZDW (dC (.str "own")) (ZD 5)))
 (ZBk (ZFu (ZD 6) (ZD 3)))
 dNx)
 (ZR (Zr 7 (dOp ZDI (dF ZBF (ZC (ZD 1) (ZC (ZD 3) (ZC (ZD 2) ZK)))) (dF (f1 ZCL) (ZC (ZD 1) ZK))))
 (ZR (Zz (ZCb (dB (dOp ZDW (dC (.str "about")) (ZD 5))) (dB (dOp ZCN (ZD 7) (ZD 3))))
 (ZBk (ZFu (ZD 6) (ZD 7)))
 dNx)
 (ZU (ZD 6)))))))
@[irreducible] noncomputable def ZAx:List W->G->Option (W × G):=Z2 8 ZDV
theorem ZHD {a0 a1 a2 a3 a4:W} {g:G} {P:W->G->Prop} (h:EvS (ZDV [some a0,some a1,some a2,some a3,some a4,none,none,none] g) (runP P)):EvP (ZAx [a0,a1,a2,a3,a4] g) P:=by
 unfold ZAx
 exact Zd h
@[reducible] noncomputable def ZCz:DS :=
 (ZR (ZAu (.tp (.cons (.nm 4) (.cons (.nm 5) (.cons (.nm 6) (.cons (.nm 7) (.cons (.nm 8) .nil)))))) (ZD 0))
 (ZR (Zr 9 (ZAl 2 [6,2,3] (.tp (.cons (.nm 0) (.cons (.nm 1) .nil))) (ZCK (ZC (ZD 1) ZK)) (ZCb (dB (dOp ZG6 (ZD 1) (ZD 2))) (ZCb (dB (dOp ZCN (ZD 0) (ZD 3))) (dB (dOp ZEE (ZD 0) (ZD 4))))) (dF Z8 (ZC (ZD 1) (ZC (ZD 0) ZK)))))
 (ZU (ZAl 2 [] (.tp (.cons (.nm 0) (.cons (.nm 1) .nil))) (ZCl (dSl (dF (f1 ZMi) (ZC (ZD 9) ZK)) ZCT (ZEN (ZD 7)))) ZC8 (ZD 1)))))
@[irreducible] noncomputable def ZAj:List W->G->Option (W × G):=Z2 10 ZCz
theorem ZGc {a0 a1 a2 a3:W} {g:G} {P:W->G->Prop} (h:EvS (ZCz [some a0,some a1,some a2,some a3,none,none,none,none,none,none] g) (runP P)):EvP (ZAj [a0,a1,a2,a3] g) P:=by
 unfold ZAj
 exact Zd h
@[reducible] noncomputable def ZEc:DS :=
 (ZR (ZAu (.tp (.cons (.nm 5) (.cons (.nm 6) .nil))) (ZD 2))
 (ZR (ZAu (.tp (.cons (.nm 7) (.cons (.nm 8) (.cons (.nm 9) (.cons (.nm 10) .nil))))) (dOp Zf (ZD 6) (ZD 3)))
 (ZR (Zr 11 (dF ZAx (ZC (ZD 0) (ZC (ZD 1) (ZC (ZD 5) (ZC (ZD 3) (ZC (ZD 4) ZK)))))))
 (ZR (Zr 12 (dF ZAj (ZC (ZD 0) (ZC (ZD 9) (ZC (ZD 3) (ZC (ZD 11) ZK))))))
 (ZR (Zr 13 (dF (f1 ZDE) (ZC (ZAl 2 [11,12] (.tp (.cons (.nm 0) (.cons (.nm 1) .nil))) (ZCK (ZC (ZD 8) ZK)) (dOr (dB (dOp ZDW (ZD 0) (ZD 2))) (dB (dOp ZDW (ZD 0) (ZD 3)))) (dF Z8 (ZC (ZD 0) (ZC (ZD 1) ZK)))) ZK)))
 (ZR (ZCj (.nm 14) (ZCl (ZD 12))
 (Zr 9 (dF ZAp (ZC (ZD 9) (ZC (ZD 14) (ZC (dOp ZAQ (dOp Zf (ZD 9) (ZD 14)) (dC (.int 1))) ZK))))))
 (ZU (dF Z8 (ZC (ZD 13) (ZC (ZD 9) ZK))))))))))
@[irreducible] noncomputable def ZBd:List W->G->Option (W × G):=Z2 15 ZEc
theorem ZI2 {a0 a1 a2 a3 a4:W} {g:G} {P:W->G->Prop} (h:EvS (ZEc [some a0,some a1,some a2,some a3,some a4,none,none,none,none,none,none,none,none,none,none] g) (runP P)):EvP (ZBd [a0,a1,a2,a3,a4] g) P:=by
 unfold ZBd
 exact Zd h
@[reducible] noncomputable def ZFd:DS :=
 (ZR (ZAu (.tp (.cons (.nm 4) (.cons (.nm 5) (.cons (.nm 6) (.cons (.nm 7) .nil))))) (ZD 1))
 (ZR (Zz (ZCb (dB (dOp ZCJ (ZD 4) (dC (.int 1)))) (ZCb (dB (dOp ZDW (dC (.str "refute")) (dOp Zf (ZD 0) (dC (.int 4))))) (dB (dF ZCw (ZC (ZD 3) (ZC (dOp Zf (ZD 5) (ZD 2)) ZK))))))
 (ZR (ZAu (.tp (.cons (.nm 8) (.cons (.nm 9) .nil))) (ZD 3))
 (ZU (dF Z8 (ZC (ZD 4) (ZC (dF ZAp (ZC (ZD 5) (ZC (ZD 2) (ZC (dF Z8 (ZC (dOp ZAQ (ZD 8) (dC (.int 1))) (ZC (dC (.int 0)) ZK))) ZK)))) (ZC (dF ZAp (ZC (ZD 6) (ZC (ZD 2) (ZC (dC (.int 0)) ZK)))) (ZC (ZD 7) ZK)))))))
 dNx)
 (ZU (ZD 1))))
@[irreducible] noncomputable def ZBm:List W->G->Option (W × G):=Z2 10 ZFd
theorem ZKP {a0 a1 a2 a3:W} {g:G} {P:W->G->Prop} (h:EvS (ZFd [some a0,some a1,some a2,some a3,none,none,none,none,none,none] g) (runP P)):EvP (ZBm [a0,a1,a2,a3] g) P:=by
 unfold ZBm
 exact Zd h
@[reducible] noncomputable def ZD6:DS :=
 (ZR (Zz (dB (dOp ZDW (dC (.str "newer")) (dOp Zf (ZD 0) (dC (.int 4)))))
 (ZU (dF ZCw (ZC (ZD 2) (ZC (ZD 1) ZK))))
 dNx)
 (ZU (dOp ZCN (ZD 2) (ZD 1))))
@[irreducible] noncomputable def ZBB:List W->G->Option (W × G):=Z2 3 ZD6
theorem ZIc {a0 a1 a2:W} {g:G} {P:W->G->Prop} (h:EvS (ZD6 [some a0,some a1,some a2] g) (runP P)):EvP (ZBB [a0,a1,a2] g) P:=by
 unfold ZBB
 exact Zd h
@[reducible] noncomputable def ZIr:DS :=
 (ZR (ZAu (.tp (.cons (.nm 4) (.cons (.nm 5) (.cons (.nm 6) (.cons (.nm 7) .nil))))) (ZD 1))
 (ZR (Zz (ZCB (dB (dF ZBB (ZC (ZD 0) (ZC (dOp Zf (ZD 5) (ZD 2)) (ZC (ZD 3) ZK))))))
 (ZU (ZD 1))
 dNx)
 (ZR (ZAu (.tp (.cons (.nm 8) (.cons (.nm 9) .nil))) (ZD 3))
 (ZR (Zz (dB (dOp ZCN (ZD 9) (dC (.int 1))))
 (Zr 7 (dF ZAp (ZC (ZD 7) (ZC (ZD 2) (ZC (dC (.int 0)) ZK)))))
 dNx)
 (ZU (dF Z8 (ZC (ZD 4) (ZC (dF ZAp (ZC (ZD 5) (ZC (ZD 2) (ZC (ZD 3) ZK)))) (ZC (dF ZAp (ZC (ZD 6) (ZC (ZD 2) (ZC (dC (.int 0)) ZK)))) (ZC (ZD 7) ZK))))))))))
@[irreducible] noncomputable def ZCp:List W->G->Option (W × G):=Z2 10 ZIr
theorem ZMZ {a0 a1 a2 a3:W} {g:G} {P:W->G->Prop} (h:EvS (ZIr [some a0,some a1,some a2,some a3,none,none,none,none,none,none] g) (runP P)):EvP (ZCp [a0,a1,a2,a3] g) P:=by
 unfold ZCp
 exact Zd h
@[reducible] noncomputable def ZIk:DS :=
 (ZR (ZCj (.tp (.cons (.nm 4) (.cons (.nm 5) .nil))) (ZCl (ZD 3))
 (Zz (dB (dOp ZCJ (ZD 4) (ZD 2)))
 (Zr 1 (dF ZBm (ZC (ZD 0) (ZC (ZD 1) (ZC (ZD 2) (ZC (ZD 5) ZK))))))
 (Zr 1 (dF ZCp (ZC (ZD 0) (ZC (ZD 1) (ZC (ZD 4) (ZC (ZD 5) ZK))))))))
 (ZU (ZD 1)))
@[irreducible] noncomputable def ZDQ:List W->G->Option (W × G):=Z2 6 ZIk
theorem ZNN {a0 a1 a2 a3:W} {g:G} {P:W->G->Prop} (h:EvS (ZIk [some a0,some a1,some a2,some a3,none,none] g) (runP P)):EvP (ZDQ [a0,a1,a2,a3] g) P:=by
 unfold ZDQ
 exact Zd h
@[reducible] noncomputable def ZDK:DS :=
 (ZR (ZAu (.tp (.cons (.nm 3) (.cons (.nm 4) .nil))) (ZD 0))
 (ZU (dF Z8 (ZC (ZD 3) (ZC (dF ZAp (ZC (ZD 4) (ZC (ZD 1) (ZC (ZD 2) ZK)))) ZK)))))
@[irreducible] noncomputable def Z4:List W->G->Option (W × G):=Z2 5 ZDK
theorem ZHU {a0 a1 a2:W} {g:G} {P:W->G->Prop} (h:EvS (ZDK [some a0,some a1,some a2,none,none] g) (runP P)):EvP (Z4 [a0,a1,a2] g) P:=by
 unfold Z4
 exact Zd h
@[reducible] noncomputable def ZGS:DS :=
 (ZR (ZAu (.tp (.cons (.nm 5) (.cons (.nm 6) .nil))) (ZD 2))
 (ZR (ZAu (.tp (.cons (.nm 7) (.cons (.nm 8) .nil))) (dF ZBd (ZC (ZD 0) (ZC (ZD 1) (ZC (ZD 2) (ZC (ZD 3) (ZC (ZD 4) ZK)))))))
 (ZR (ZAu (.tp (.cons (.nm 9) (.cons (.nm 10) (.cons (.nm 11) (.cons (.nm 12) .nil))))) (dOp Zf (ZD 6) (ZD 3)))
 (ZR (Zr 13 (dF Z8 (ZC (ZD 5) (ZC (dF ZAp (ZC (ZD 6) (ZC (ZD 3) (ZC (dF Z8 (ZC (ZD 9) (ZC (ZD 10) (ZC (ZD 8) (ZC (ZD 12) ZK))))) ZK)))) ZK))))
 (ZR (Zz (dB (dOp ZCJ (dOp Zf (dOp Zf (ZD 6) (ZD 4)) (dC (.int 0))) (dC (.int 0))))
 (ZU (dF Z8 (ZC (ZD 13) (ZC (dC .none) ZK))))
 dNx)
 (ZU (dF Z8 (ZC (ZD 13) (ZC (dF Z4 (ZC (ZD 13) (ZC (ZD 4) (ZC (dF ZDQ (ZC (ZD 0) (ZC (dOp Zf (ZD 6) (ZD 4)) (ZC (ZD 4) (ZC (ZD 7) ZK))))) ZK)))) ZK)))))))))
@[irreducible] noncomputable def ZCh:List W->G->Option (W × G):=Z2 14 ZGS
theorem ZMD {a0 a1 a2 a3 a4:W} {g:G} {P:W->G->Prop} (h:EvS (ZGS [some a0,some a1,some a2,some a3,some a4,none,none,none,none,none,none,none,none,none] g) (runP P)):EvP (ZCh [a0,a1,a2,a3,a4] g) P:=by
 unfold ZCh
 exact Zd h
@[reducible] noncomputable def ZEP:DS :=
 (ZR (ZAu (.tp (.cons (.nm 3) (.cons (.nm 4) .nil))) (ZD 1))
 (ZU (ZBu (dOp ZCJ (dOp Zf (dOp Zf (ZD 4) (ZD 2)) (dC (.int 0))) (dC (.int 1))) (dF ZEF (ZC (ZD 0) (ZC (ZD 2) (ZC (ZD 3) ZK)))))))
@[irreducible] noncomputable def ZBD:List W->G->Option (W × G):=Z2 5 ZEP
theorem ZJL {a0 a1 a2:W} {g:G} {P:W->G->Prop} (h:EvS (ZEP [some a0,some a1,some a2,none,none] g) (runP P)):EvP (ZBD [a0,a1,a2] g) P:=by
 unfold ZBD
 exact Zd h
@[reducible] noncomputable def ZBx:DS :=
 (ZR (Zr 3 (dF ZCG (ZC (ZD 0) (ZC (ZD 2) (ZC (ZD 1) ZK)))))
 (ZU (dOp ZAQ (dF ZFv (ZC (ZD 3) ZK)) (ZAl 1 [2,3] (.nm 0) (ZAa (ZC (dF (f1 ZCL) (ZC (ZD 0) ZK)) ZK)) (ZCb (dB (dOp ZCN (ZD 0) (ZD 1))) (dB (dOp ZCN (ZD 0) (ZD 2)))) (ZD 0)))))
@[irreducible] noncomputable def Z9:List W->G->Option (W × G):=Z2 4 ZBx
theorem ZEu {a0 a1 a2:W} {g:G} {P:W->G->Prop} (h:EvS (ZBx [some a0,some a1,some a2,none] g) (runP P)):EvP (Z9 [a0,a1,a2] g) P:=by
 unfold Z9
 exact Zd h
@[reducible] noncomputable def ZEb:DS :=
 (ZR (ZAu (.tp (.cons (.nm 2) (.cons (.nm 3) .nil))) (dOp Zf (ZD 0) (ZD 1)))
 (ZU (dOp ZG6 (ZD 3) (dC (.int 2)))))
@[irreducible] noncomputable def ZAv:List W->G->Option (W × G):=Z2 4 ZEb
theorem ZJG {a0 a1:W} {g:G} {P:W->G->Prop} (h:EvS (ZEb [some a0,some a1,none,none] g) (runP P)):EvP (ZAv [a0,a1] g) P:=by
 unfold ZAv
 exact Zd h
@[reducible] noncomputable def ZEW:DS :=
 (ZR (ZAu (.tp (.cons (.nm 5) (.cons (.nm 6) .nil))) (ZD 2))
 (ZR (ZAu (.tp (.cons (.nm 7) (.cons (.nm 8) (.cons (.nm 9) (.cons (.nm 10) .nil))))) (dOp Zf (ZD 6) (ZD 3)))
 (ZR (Zz (dB (dOp ZCJ (ZD 4) (dF ZCG (ZC (ZD 1) (ZC (ZD 3) (ZC (ZD 5) ZK))))))
 (ZU (ZKv (dOp ZDW (dC (.str "again")) (dOp Zf (ZD 0) (dC (.int 4)))) (dF ZAv (ZC (ZD 8) (ZC (ZD 4) ZK)))))
 dNx)
 (ZU (dOp ZN4 (dOp Zf (ZD 10) (ZD 4)) (dC (.int 0)))))))
@[irreducible] noncomputable def ZBH:List W->G->Option (W × G):=Z2 11 ZEW
theorem ZJj {a0 a1 a2 a3 a4:W} {g:G} {P:W->G->Prop} (h:EvS (ZEW [some a0,some a1,some a2,some a3,some a4,none,none,none,none,none,none] g) (runP P)):EvP (ZBH [a0,a1,a2,a3,a4] g) P:=by
 unfold ZBH
 exact Zd h
@[reducible] noncomputable def ZFP:DS :=
 (ZR (Zr 4 (dF (f1 ZCL) (ZC (ZD 1) ZK)))
 (ZR (Zr 5 (ZAl 1 [4,2] (.nm 0) (ZAa (ZC (dC (.int 1)) (ZC (ZD 4) ZK))) ZC8 (dOp ZDI (dOp ZAQ (ZD 2) (ZD 0)) (ZD 1))))
 (ZU (dSl (ZAl 1 [3,1] (.nm 0) (ZCl (ZD 5)) (ZCb (dB (dOp ZCN (ZD 0) (ZD 1))) (dB (dF ZAv (ZC (ZD 2) (ZC (ZD 0) ZK))))) (ZD 0)) ZCT (ZEN (dOp Zf (ZD 0) (dC (.int 0))))))))
@[irreducible] noncomputable def ZBy:List W->G->Option (W × G):=Z2 6 ZFP
theorem ZKE {a0 a1 a2 a3:W} {g:G} {P:W->G->Prop} (h:EvS (ZFP [some a0,some a1,some a2,some a3,none,none] g) (runP P)):EvP (ZBy [a0,a1,a2,a3] g) P:=by
 unfold ZBy
 exact Zd h
@[reducible] noncomputable def ZKM:DS :=
 (ZR (ZAu (.tp (.cons (.nm 4) (.cons (.nm 5) .nil))) (ZD 1))
 (ZR (ZAu (.tp (.cons (.nm 6) (.cons (.nm 7) (.cons (.nm 8) (.cons (.nm 9) .nil))))) (dOp Zf (ZD 5) (ZD 2)))
 (ZR (Zr 10 (dF ZDh (ZC (dF Z8 (ZC (dF Z8 (ZC (ZD 2) (ZC (ZD 3) ZK))) (ZC (dF Z8 (ZC (ZD 3) (ZC (ZD 2) ZK))) ZK))) ZK)))
 (ZR (Zz (ZCb (dB (dOp ZDW (dC (.str "others")) (dOp Zf (ZD 0) (dC (.int 4))))) (dB (dF ZAv (ZC (ZD 7) (ZC (ZD 3) ZK)))))
 (ZHj 10 (ZAl 1 [2,3] (.nm 0) (ZCl (dF ZBy (ZC (ZD 0) (ZC (ZD 7) (ZC (ZD 2) (ZC (ZD 3) ZK)))))) ZC8 (dF Z8 (ZC (dF Z8 (ZC (ZD 1) (ZC (ZD 0) ZK))) (ZC (dF Z8 (ZC (ZD 0) (ZC (ZD 2) ZK))) (ZC (dF Z8 (ZC (ZD 2) (ZC (ZD 0) ZK))) (ZC (dF Z8 (ZC (ZD 0) (ZC (ZD 1) ZK))) ZK)))))))
 dNx)
 (ZU (ZD 10))))))
@[irreducible] noncomputable def ZER:List W->G->Option (W × G):=Z2 11 ZKM
theorem ZO2 {a0 a1 a2 a3:W} {g:G} {P:W->G->Prop} (h:EvS (ZKM [some a0,some a1,some a2,some a3,none,none,none,none,none,none,none] g) (runP P)):EvP (ZER [a0,a1,a2,a3] g) P:=by
 unfold ZER
 exact Zd h
@[reducible] noncomputable def ZGO:DS :=
 (ZR (ZAu (.tp (.cons (.nm 5) (.cons (.nm 6) .nil))) (ZD 1))
 (ZR (ZAu (.tp (.cons (.nm 7) (.cons (.nm 8) (.cons (.nm 9) (.cons (.nm 10) .nil))))) (dOp Zf (ZD 6) (ZD 2)))
 (ZR (ZAu (.tp (.cons (.nm 11) (.cons (.nm 12) .nil))) (dOp Zf (ZD 8) (ZD 3)))
 (ZR (Zz (dB (ZD 4))
 (Zr 10 (dF ZAp (ZC (ZD 10) (ZC (ZD 3) (ZC (dC (.int 0)) ZK)))))
 (Zz (ZCb (dB (dOp ZG6 (ZD 12) (dC (.int 2)))) (dOr (dB (dOp ZEE (dC (.str "wait")) (dOp Zf (ZD 0) (dC (.int 4))))) (dB (dOp ZCJ (dOp Zf (ZD 10) (ZD 3)) (dC (.int 1))))))
 (ZHn 8 9 10 (ZC (dF ZAp (ZC (ZD 8) (ZC (ZD 3) (ZC (dF Z8 (ZC (ZD 11) (ZC (dC (.int 2)) ZK))) ZK)))) (ZC (dF ZAp (ZC (ZD 9) (ZC (ZD 3) (ZC (dC (.int 0)) ZK)))) (ZC (dF ZAp (ZC (ZD 10) (ZC (ZD 3) (ZC (dC (.int 0)) ZK)))) ZK))))
 (Zz (ZCb (dB (dOp ZG6 (ZD 12) (dC (.int 2)))) (dB (dOp ZCJ (dOp Zf (ZD 10) (ZD 3)) (dC (.int 0)))))
 (ZR (Zz (dB (dOp ZCJ (ZD 12) (dC (.int 0))))
 (ZNg 8 9 (ZC (dF ZAp (ZC (ZD 8) (ZC (ZD 3) (ZC (dF Z8 (ZC (ZD 11) (ZC (dC (.int 1)) ZK))) ZK)))) (ZC (dF ZAp (ZC (ZD 9) (ZC (ZD 3) (ZC (dC (.int 0)) ZK)))) ZK)))
 dNx)
 (Zr 10 (dF ZAp (ZC (ZD 10) (ZC (ZD 3) (ZC (dOp Zf (ZD 0) (dC (.int 1))) ZK))))))
 (Zz (dB (dOp ZG6 (ZD 12) (dC (.int 2))))
 (Zr 10 (dF ZAp (ZC (ZD 10) (ZC (ZD 3) (ZC (dOp ZGl (dOp Zf (ZD 10) (ZD 3)) (dC (.int 1))) ZK)))))
 dNx))))
 (ZU (dF Z4 (ZC (ZD 1) (ZC (ZD 2) (ZC (dF Z8 (ZC (ZD 7) (ZC (ZD 8) (ZC (ZD 9) (ZC (ZD 10) ZK))))) ZK)))))))))
@[irreducible] noncomputable def ZCH:List W->G->Option (W × G):=Z2 13 ZGO
theorem ZLo {a0 a1 a2 a3 a4:W} {g:G} {P:W->G->Prop} (h:EvS (ZGO [some a0,some a1,some a2,some a3,some a4,none,none,none,none,none,none,none,none] g) (runP P)):EvP (ZCH [a0,a1,a2,a3,a4] g) P:=by
 unfold ZCH
 exact Zd h
@[reducible] noncomputable def ZB2:DS :=
 (ZR (ZCm ZZ 0 (ZD 0) (ZD 1))
 (ZR (ZCm ZZ 1 (ZD 0) (ZD 2))
 (ZR (ZCm ZZ 2 (ZD 0) (ZD 3))
 (ZR (ZCm ZZ 3 (ZD 0) (ZD 4))
 (ZCm ZZ 4 (ZD 0) (dF ZDh ZK))))))
@[irreducible] noncomputable def ZAA:List W->G->Option (W × G):=Z2 5 ZB2
theorem ZE7 {a0 a1 a2 a3 a4:W} {g:G} {P:W->G->Prop} (h:EvS (ZB2 [some a0,some a1,some a2,some a3,some a4] g) (runP P)):EvP (ZAA [a0,a1,a2,a3,a4] g) P:=by
 unfold ZAA
 exact Zd h
@[reducible] noncomputable def ZC0:DS :=
 (ZR (Zr 3 (dOp ZDW (dF (f1 ZCL) (ZC (ZBe ZZ 4 (ZD 0)) ZK)) (ZBe ZZ 3 (ZD 0))))
 (ZR (ZBk (ZFu (ZBe ZZ 4 (ZD 0)) (dF Z8 (ZC (ZD 1) (ZC (ZD 2) (ZC (ZD 3) ZK))))))
 (ZR (ZAu (.tp (.cons (.nm 4) (.cons (.nm 5) .nil))) (dF ZCh (ZC (ZBe ZZ 0 (ZD 0)) (ZC (ZBe ZZ 1 (ZD 0)) (ZC (ZBe ZZ 2 (ZD 0)) (ZC (ZD 1) (ZC (ZD 2) ZK)))))))
 (ZR (Zz (dOr (dB (ZD 3)) (dB (dOp ZP8 (ZD 5) (dC .none))))
 (ZR (ZCm ZZ 2 (ZD 0) (ZD 4))
 (ZU (dC (.bool false))))
 dNx)
 (ZR (ZCm ZZ 2 (ZD 0) (ZD 5))
 (ZU (dC (.bool true))))))))
@[irreducible] noncomputable def Z0:List W->G->Option (W × G):=Z2 6 ZC0
theorem ZGi {a0 a1 a2:W} {g:G} {P:W->G->Prop} (h:EvS (ZC0 [some a0,some a1,some a2,none,none,none] g) (runP P)):EvP (Z0 [a0,a1,a2] g) P:=by
 unfold Z0
 exact Zd h
@[reducible] noncomputable def ZCd:DS :=
 (ZCj (.nm 2) (ZAa (ZC (dF (f1 ZCL) (ZC (ZBe ZZ 1 (ZD 0)) ZK)) ZK))
 (Zz (dB (dOp ZCN (ZD 2) (ZD 1)))
 (ZBk (ZFk ZZ Z0 (ZD 0) (ZC (ZD 1) (ZC (ZD 2) ZK))))
 dNx))
@[irreducible] noncomputable def ZAH:List W->G->Option (W × G):=Z2 3 ZCd
theorem ZFs {a0 a1:W} {g:G} {P:W->G->Prop} (h:EvS (ZCd [some a0,some a1,none] g) (runP P)):EvP (ZAH [a0,a1] g) P:=by
 unfold ZAH
 exact Zd h
@[reducible] noncomputable def ZKd:DS :=
 (ZR (ZAu (.tp (.cons (.nm 2) (.cons (.nm 3) .nil))) (ZBe ZZ 2 (ZD 0)))
 (ZR (ZAu (.tp (.cons (.nm 4) (.cons (.nm 5) (.cons (.nm 6) (.cons (.nm 7) .nil))))) (dOp Zf (ZD 3) (ZD 1)))
 (ZCm ZZ 2 (ZD 0) (dF Z4 (ZC (ZBe ZZ 2 (ZD 0)) (ZC (ZD 1) (ZC (dF Z8 (ZC (dC (.int 0)) (ZC (ZD 5) (ZC (ZD 6) (ZC (ZD 7) ZK))))) ZK)))))))
@[irreducible] noncomputable def ZDq:List W->G->Option (W × G):=Z2 8 ZKd
theorem ZPB {a0 a1:W} {g:G} {P:W->G->Prop} (h:EvS (ZKd [some a0,some a1,none,none,none,none,none,none] g) (runP P)):EvP (ZDq [a0,a1] g) P:=by
 unfold ZDq
 exact Zd h
@[reducible] noncomputable def ZKX:DS :=
 (ZR (ZAu (.tp (.cons (.nm 2) (.cons (.nm 3) (.cons (.nm 4) (.cons (.nm 5) .nil))))) (ZD 1))
 (ZR (Zr 6 (dF ZDh ZK))
 (ZR (ZCj (.tp (.cons (.nm 7) (.cons (.nm 8) .nil))) (ZCK (ZC (ZD 0) ZK))
 (ZR (ZAu (.tp (.cons (.nm 9) (.cons (.nm 10) (.cons (.nm 11) (.cons (.nm 12) .nil))))) (ZD 8))
 (ZR (ZAu (.tp (.cons (.nm 13) (.cons (.nm 14) .nil))) (dOp Zf (ZD 10) (ZD 7)))
 (ZR (Zz (dB (dOp ZDW (ZD 7) (ZD 3)))
 (Zr 8 (dF Z8 (ZC (dC (.int 0)) (ZC (ZD 10) (ZC (ZD 11) (ZC (dOp ZBW (dF Z8 (ZC (dC (.int 0)) ZK)) (dF (f1 ZCL) (ZC (ZD 12) ZK))) ZK))))))
 (Zz (dB (dOp ZDW (ZD 7) (ZD 4)))
 (Zr 8 (dF Z8 (ZC (ZD 9) (ZC (dF ZAp (ZC (ZD 10) (ZC (ZD 7) (ZC (dF Z8 (ZC (ZD 13) (ZC (dC (.int 3)) ZK))) ZK)))) (ZC (dF ZAp (ZC (ZD 11) (ZC (ZD 7) (ZC (dC (.int 0)) ZK)))) (ZC (dOp ZBW (dF Z8 (ZC (dC (.int 0)) ZK)) (dF (f1 ZCL) (ZC (ZD 12) ZK))) ZK))))))
 (Zz (dB (dOp ZDW (ZD 7) (ZD 5)))
 (Zr 8 (dF Z8 (ZC (dC (.int 1)) (ZC (dF ZAp (ZC (ZD 10) (ZC (ZD 7) (ZC (dF Z8 (ZC (dOp ZAQ (ZD 13) (dC (.int 1))) (ZC (dC (.int 0)) ZK))) ZK)))) (ZC (dF ZAp (ZC (ZD 11) (ZC (ZD 7) (ZC (dC (.int 0)) ZK)))) (ZC (ZD 12) ZK))))))
 dNx)))
 (ZBk (ZFu (ZD 6) (ZD 8)))))))
 (ZU (dF (f1 ZDE) (ZC (ZD 6) ZK))))))
@[irreducible] noncomputable def ZEi:List W->G->Option (W × G):=Z2 15 ZKX
theorem ZOE {a0 a1:W} {g:G} {P:W->G->Prop} (h:EvS (ZKX [some a0,some a1,none,none,none,none,none,none,none,none,none,none,none,none,none] g) (runP P)):EvP (ZEi [a0,a1] g) P:=by
 unfold ZEi
 exact Zd h
@[reducible] noncomputable def ZCM:DS :=
 (ZR (ZCj (.tp (.cons (.nm 2) (.cons (.nm 3) .nil))) (ZCl (ZD 1))
 (Zz (ZCB (dB (ZFk ZZ Z0 (ZD 0) (ZC (ZD 2) (ZC (ZD 3) ZK)))))
 (ZU (dC (.bool false)))
 dNx))
 (ZU (dC (.bool true))))
@[irreducible] noncomputable def Z5:List W->G->Option (W × G):=Z2 4 ZCM
theorem ZFS {a0 a1:W} {g:G} {P:W->G->Prop} (h:EvS (ZCM [some a0,some a1,none,none] g) (runP P)):EvP (Z5 [a0,a1] g) P:=by
 unfold Z5
 exact Zd h
@[reducible] noncomputable def ZC4:DS :=
 (ZR (ZCj (.nm 3) (ZCl (dF ZER (ZC (ZBe ZZ 0 (ZD 0)) (ZC (ZBe ZZ 2 (ZD 0)) (ZC (ZD 1) (ZC (ZD 2) ZK))))))
 (Zz (dB (dF Z5 (ZC (ZD 0) (ZC (ZD 3) ZK))))
 (ZU (dC (.bool true)))
 dNx))
 (ZU (dC (.bool false))))
@[irreducible] noncomputable def ZAW:List W->G->Option (W × G):=Z2 4 ZC4
theorem ZGm {a0 a1 a2:W} {g:G} {P:W->G->Prop} (h:EvS (ZC4 [some a0,some a1,some a2,none] g) (runP P)):EvP (ZAW [a0,a1,a2] g) P:=by
 unfold ZAW
 exact Zd h
@[reducible] noncomputable def ZFY:DS :=
 (ZR (ZAu (.tp (.cons (.nm 2) (.cons (.nm 3) .nil))) (ZBe ZZ 2 (ZD 0)))
 (ZCj (.nm 4) (ZCl (dF Z9 (ZC (ZBe ZZ 1 (ZD 0)) (ZC (ZD 2) (ZC (ZD 1) ZK)))))
 (Zz (dB (dF ZBH (ZC (ZBe ZZ 0 (ZD 0)) (ZC (ZBe ZZ 1 (ZD 0)) (ZC (ZBe ZZ 2 (ZD 0)) (ZC (ZD 1) (ZC (ZD 4) ZK)))))))
 (ZR (Zr 5 (dF ZAW (ZC (ZD 0) (ZC (ZD 1) (ZC (ZD 4) ZK)))))
 (ZCm ZZ 2 (ZD 0) (dF ZCH (ZC (ZBe ZZ 0 (ZD 0)) (ZC (ZBe ZZ 2 (ZD 0)) (ZC (ZD 1) (ZC (ZD 4) (ZC (ZD 5) ZK))))))))
 dNx)))
@[irreducible] noncomputable def ZBo:List W->G->Option (W × G):=Z2 6 ZFY
theorem ZKY {a0 a1:W} {g:G} {P:W->G->Prop} (h:EvS (ZFY [some a0,some a1,none,none,none,none] g) (runP P)):EvP (ZBo [a0,a1] g) P:=by
 unfold ZBo
 exact Zd h
@[reducible] noncomputable def ZFX:DS :=
 (ZR (ZAu (.tp (.cons (.nm 4) (.cons (.nm 5) .nil))) (ZD 2))
 (ZR (ZAu (.tp (.cons (.nm 6) (.cons (.nm 7) (.cons (.nm 8) (.cons (.nm 9) .nil))))) (ZD 3))
 (ZR (Zr 10 (ZJE ZZ ZAA (ZC (ZD 0) (ZC (ZD 1) (ZC (dF Z8 (ZC (ZD 4) (ZC (dF ZEi (ZC (ZD 5) (ZC (ZD 3) ZK))) ZK))) (ZC (ZD 6) ZK))))))
 (ZR (ZCj (.nm 11) (ZCl (dOp ZAQ (ZD 8) (ZD 9)))
 (ZBk (dF ZAH (ZC (ZD 10) (ZC (ZD 11) ZK)))))
 (ZR (ZCj (.nm 11) (ZCl (ZD 8))
 (ZBk (dF ZDq (ZC (ZD 10) (ZC (ZD 11) ZK)))))
 (ZR (ZCj (.nm 12) (ZAa (ZC (dF (f1 ZCL) (ZC (ZD 1) ZK)) ZK))
 (Zz (dB (dF ZBD (ZC (ZD 1) (ZC (ZBe ZZ 2 (ZD 10)) (ZC (ZD 12) ZK)))))
 (ZBk (dF ZBo (ZC (ZD 10) (ZC (ZD 12) ZK))))
 dNx))
 (ZR (ZAu (.tp (.cons (.nm 4) (.cons (.nm 5) .nil))) (ZBe ZZ 2 (ZD 10)))
 (ZU (dF Z8 (ZC (dF Z8 (ZC (dOp ZAQ (ZD 4) (dC (.int 1))) (ZC (ZD 5) ZK))) (ZC (dF (f1 ZDE) (ZC (ZBe ZZ 4 (ZD 10)) ZK)) ZK)))))))))))
@[irreducible] noncomputable def ZBO:List W->G->Option (W × G):=Z2 13 ZFX
theorem ZKa {a0 a1 a2 a3:W} {g:G} {P:W->G->Prop} (h:EvS (ZFX [some a0,some a1,some a2,some a3,none,none,none,none,none,none,none,none,none] g) (runP P)):EvP (ZBO [a0,a1,a2,a3] g) P:=by
 unfold ZBO
 exact Zd h
@[reducible] noncomputable def ZIB:DS :=
 (ZR (ZAu (.tp (.cons (.nm 2) (.cons (.nm 3) (.cons (.nm 4) (.cons (.nm 5) (.cons (.nm 6) .nil)))))) (ZD 0))
 (ZR (Zr 7 (dF (f1 ZCL) (ZC (ZD 1) ZK)))
 (ZR (Zr 8 (dF Z8 (ZC (dC (.int 1)) (ZC (dOp ZBW (dF Z8 (ZC (dF Z8 (ZC (dC (.int 0)) (ZC (dC (.int 0)) ZK))) ZK)) (ZD 7)) (ZC (dOp ZBW (dF Z8 (ZC (ZD 4) ZK)) (ZD 7)) (ZC (dOp ZBW (dF Z8 (ZC (dC (.int 0)) ZK)) (ZD 7)) ZK))))))
 (ZU (dF Z8 (ZC (dC (.int 0)) (ZC (dOp ZBW (dF Z8 (ZC (ZD 8) ZK)) (ZD 7)) ZK)))))))
@[irreducible] noncomputable def ZDa:List W->G->Option (W × G):=Z2 9 ZIB
theorem ZNJ {a0 a1:W} {g:G} {P:W->G->Prop} (h:EvS (ZIB [some a0,some a1,none,none,none,none,none,none,none] g) (runP P)):EvP (ZDa [a0,a1] g) P:=by
 unfold ZDa
 exact Zd h
@[reducible] noncomputable def ZC3:DS :=
 (ZU (ZBu (dF Zv (ZC (ZD 0) (ZC (ZD 1) ZK))) (dF (f1 ZFt) (ZC (ZAl 1 [2] (.nm 0) (ZCl (ZD 0)) ZC8 (dF ZAT (ZC (ZD 0) (ZC (dC (.int 0)) (ZC (ZD 1) ZK))))) ZK))))
@[irreducible] noncomputable def ZAU:List W->G->Option (W × G):=Z2 3 ZC3
theorem ZGh {a0 a1 a2:W} {g:G} {P:W->G->Prop} (h:EvS (ZC3 [some a0,some a1,some a2] g) (runP P)):EvP (ZAU [a0,a1,a2] g) P:=by
 unfold ZAU
 exact Zd h
@[reducible] noncomputable def ZDf:DS :=
 (ZR (Zz (ZCB (dB (dF ZAU (ZC (ZD 4) (ZC (ZD 1) (ZC (dOp Zf (ZD 0) (dC (.int 1))) ZK))))))
 (ZU (dC (.bool false)))
 dNx)
 (ZU (ZBu (dOp ZCJ (dOp Zf (ZD 4) (ZD 2)) (dC (.int 0))) (ZKv (dOp ZCJ (ZD 3) (dC (.int 1))) (ZG0 (dF (f1 ZPz) (ZC (ZD 4) ZK)))))))
@[irreducible] noncomputable def ZAr:List W->G->Option (W × G):=Z2 5 ZDf
theorem ZG5 {a0 a1 a2 a3 a4:W} {g:G} {P:W->G->Prop} (h:EvS (ZDf [some a0,some a1,some a2,some a3,some a4] g) (runP P)):EvP (ZAr [a0,a1,a2,a3,a4] g) P:=by
 unfold ZAr
 exact Zd h
@[reducible] noncomputable def ZCQ:DS :=
 (ZR (Zz (ZCB (dB (dF Zv (ZC (ZD 0) (ZC (ZD 1) ZK)))))
 (ZU (dC (.bool false)))
 dNx)
 (ZU (dF (f1 ZFt) (ZC (ZAl 1 [] (.nm 0) (ZCl (ZD 0)) ZC8 (ZBu (dF ZB3 (ZC (ZD 0) ZK)) (dOp ZLe (dOp Zf (ZD 0) (dC (.int 0))) (dC (.int 1000000))))) ZK))))
@[irreducible] noncomputable def ZAO:List W->G->Option (W × G):=Z2 2 ZCQ
theorem ZFa {a0 a1:W} {g:G} {P:W->G->Prop} (h:EvS (ZCQ [some a0,some a1] g) (runP P)):EvP (ZAO [a0,a1] g) P:=by
 unfold ZAO
 exact Zd h
@[reducible] noncomputable def ZEg:DS :=
 (ZR (Zz (ZCB (dB (dF Zv (ZC (ZD 3) (ZC (dC (.int 4)) ZK)))))
 (ZU (dC (.bool false)))
 dNx)
 (ZR (ZAu (.tp (.cons (.nm 4) (.cons (.nm 5) (.cons (.nm 6) (.cons (.nm 7) .nil))))) (ZD 3))
 (ZR (Zz (ZCB (ZCb (dB (dF ZAT (ZC (ZD 4) (ZC (dC (.int 0)) (ZC (dC (.int 1)) ZK))))) (ZCb (dB (dF ZAO (ZC (ZD 5) (ZC (ZD 1) ZK)))) (dB (dF ZAU (ZC (ZD 6) (ZC (ZD 1) (ZC (dOp Zf (ZD 0) (dC (.int 2))) ZK))))))))
 (ZU (dC (.bool false)))
 dNx)
 (ZU (dF ZAr (ZC (ZD 0) (ZC (ZD 1) (ZC (ZD 2) (ZC (ZD 4) (ZC (ZD 7) ZK))))))))))
@[irreducible] noncomputable def ZBi:List W->G->Option (W × G):=Z2 8 ZEg
theorem ZJM {a0 a1 a2 a3:W} {g:G} {P:W->G->Prop} (h:EvS (ZEg [some a0,some a1,some a2,some a3,none,none,none,none] g) (runP P)):EvP (ZBi [a0,a1,a2,a3] g) P:=by
 unfold ZBi
 exact Zd h
@[reducible] noncomputable def ZEU:DS :=
 (ZR (Zz (ZCB (dB (dF Zv (ZC (ZD 2) (ZC (dC (.int 2)) ZK)))))
 (ZU (dC (.bool false)))
 dNx)
 (ZR (ZAu (.tp (.cons (.nm 3) (.cons (.nm 4) .nil))) (ZD 2))
 (ZR (Zz (ZCB (ZCb (dB (dF ZBK (ZC (ZD 3) ZK))) (dB (dF Zv (ZC (ZD 4) (ZC (dF (f1 ZCL) (ZC (ZD 1) ZK)) ZK))))))
 (ZU (dC (.bool false)))
 dNx)
 (ZU (dF (f1 ZFt) (ZC (ZAl 2 [0,4] (.tp (.cons (.nm 0) (.cons (.nm 1) .nil))) (ZCK (ZC (ZD 4) ZK)) ZC8 (dF ZBi (ZC (ZD 2) (ZC (dF (f1 ZCL) (ZC (ZD 3) ZK)) (ZC (ZD 0) (ZC (ZD 1) ZK)))))) ZK))))))
@[irreducible] noncomputable def ZBL:List W->G->Option (W × G):=Z2 5 ZEU
theorem ZJ6 {a0 a1 a2:W} {g:G} {P:W->G->Prop} (h:EvS (ZEU [some a0,some a1,some a2,none,none] g) (runP P)):EvP (ZBL [a0,a1,a2] g) P:=by
 unfold ZBL
 exact Zd h
@[reducible] noncomputable def ZEl:DS :=
 (ZR (Zr 2 (dC (.int 0)))
 (ZR (Zz (dB (dOp ZG6 (ZD 1) (dF (f1 ZCL) (ZC (ZD 0) ZK))))
 (Zr 2 (dOp Zf (ZD 0) (ZD 1)))
 dNx)
 (ZU (dF ZDh (ZC (dOp ZBW (dOp ZDI (dF (f1 ZRp) (ZC (ZD 2) ZK)) (dC (.int 1000000000000000000000000000000000000000000000000000000000000))) (dF (f1 ZKn) (ZC (dOp ZOO (dF (f1 ZRp) (ZC (ZD 2) ZK)) (dC (.int 1000000000000000000))) ZK))) (ZC (dOp ZDI (dOp ZAQ (dOp ZAQ (ZD 2) (dOp ZBW (dOp ZBW (dC (.int 613)) (ZD 1)) (ZD 1))) (dOp ZBW (dC (.int 29)) (ZD 1))) (dC (.int 2147483647))) (ZC (dC (.int 0)) ZK)))))))
@[irreducible] noncomputable def ZBf:List W->G->Option (W × G):=Z2 3 ZEl
theorem ZJa {a0 a1:W} {g:G} {P:W->G->Prop} (h:EvS (ZEl [some a0,some a1,none] g) (runP P)):EvP (ZBf [a0,a1] g) P:=by
 unfold ZBf
 exact Zd h
@[reducible] noncomputable def ZDp:DS :=
 (ZR (Zz (dB (dOp ZN4 (dOp Zf (ZD 0) (dC (.int 0))) (dC (.int 0))))
 (ZR (Zr 2 (dOp ZDI (dOp Zf (ZD 0) (dC (.int 0))) (ZD 1)))
 (ZR (ZKN (ZD 0) (dC (.int 0)) (dOp ZFV (dOp Zf (ZD 0) (dC (.int 0))) (ZD 1)))
 (ZU (ZD 2))))
 dNx)
 (ZR (ZKN (ZD 0) (dC (.int 2)) (dOp ZAQ (dOp Zf (ZD 0) (dC (.int 2))) (dC (.int 1))))
 (ZR (Zr 3 (dOp ZDI (dOp ZAQ (dOp ZAQ (dOp ZBW (dOp Zf (ZD 0) (dC (.int 1))) (dC (.int 48271))) (dOp ZBW (dC (.int 8191)) (dOp Zf (ZD 0) (dC (.int 2))))) (dC (.int 17))) (dC (.int 2147483647))))
 (ZR (ZKN (ZD 0) (dC (.int 1)) (dOp ZDI (dOp ZAQ (dOp ZBW (ZD 3) (ZD 3)) (dOp Zf (ZD 0) (dC (.int 2)))) (dC (.int 2147483629))))
 (ZU (dOp ZDI (dOp ZFV (dOp Zf (ZD 0) (dC (.int 1))) (dC (.int 13))) (ZD 1)))))))
@[irreducible] noncomputable def ZO:List W->G->Option (W × G):=Z2 4 ZDp
theorem ZH8 {a0 a1:W} {g:G} {P:W->G->Prop} (h:EvS (ZDp [some a0,some a1,none,none] g) (runP P)):EvP (ZO [a0,a1] g) P:=by
 unfold ZO
 exact Zd h
@[reducible] noncomputable def ZDU:DS :=
 (ZR (Zr 2 (dOp Zf (dF ZFv (ZC (dF ZO (ZC (ZD 0) (ZC (dC (.int 3)) ZK))) (ZC (dF ZO (ZC (ZD 0) (ZC (dC (.int 10)) ZK))) ZK))) (dF ZO (ZC (ZD 0) (ZC (dC (.int 2)) ZK)))))
 (ZR (Zr 3 (dOp Zf (dF ZFv (ZC (dF ZO (ZC (ZD 0) (ZC (dC (.int 3)) ZK))) (ZC (dF ZO (ZC (ZD 0) (ZC (dC (.int 9)) ZK))) ZK))) (dF ZO (ZC (ZD 0) (ZC (dC (.int 2)) ZK)))))
 (ZR (Zr 4 (dOp ZAQ (dC (.int 1)) (dOp Zf (dF ZFv (ZC (dF ZO (ZC (ZD 0) (ZC (dC (.int 3)) ZK))) (ZC (dF ZO (ZC (ZD 0) (ZC (dC (.int 9)) ZK))) ZK))) (dOp ZFV (dF ZO (ZC (ZD 0) (ZC (dC (.int 4)) ZK))) (dC (.int 3))))))
 (ZR (Zr 5 (dF Z8 (ZC (dC (.str "about")) (ZC (dC (.str "again")) (ZC (dC (.str "newer")) (ZC (dC (.str "others")) (ZC (dC (.str "own")) (ZC (dC (.str "refute")) (ZC (dC (.str "wait")) ZK)))))))))
 (ZR (Zr 6 (dF ZO (ZC (ZD 0) (ZC (dC (.int 3)) ZK))))
 (ZR (Zz (dOr (dB (ZD 1)) (dB (dOp ZCJ (ZD 6) (dC (.int 0)))))
 (ZU (dF Z8 (ZC (dF ZO (ZC (ZD 0) (ZC (dC (.int 4)) ZK))) (ZC (ZD 4) (ZC (ZD 2) (ZC (ZD 3) (ZC (ZD 5) ZK)))))))
 dNx)
 (ZR (Zr 7 (dOp Zf (ZD 5) (dF ZO (ZC (ZD 0) (ZC (dC (.int 7)) ZK)))))
 (ZR (Zr 8 (dF (f1 ZDE) (ZC (ZAl 1 [7,6,0] (.nm 0) (ZCl (ZD 5)) (ZCb (dB (dOp ZCN (ZD 0) (ZD 1))) (dOr (dB (dOp ZCJ (ZD 2) (dC (.int 1)))) (dB (dOp ZCJ (dF ZO (ZC (ZD 3) (ZC (dC (.int 2)) ZK))) (dC (.int 0)))))) (ZD 0)) ZK)))
 (ZU (dF Z8 (ZC (dF ZO (ZC (ZD 0) (ZC (dC (.int 4)) ZK))) (ZC (ZD 4) (ZC (ZD 2) (ZC (ZD 3) (ZC (ZD 8) ZK)))))))))))))))
@[irreducible] noncomputable def ZAs:List W->G->Option (W × G):=Z2 9 ZDU
theorem ZHN {a0 a1:W} {g:G} {P:W->G->Prop} (h:EvS (ZDU [some a0,some a1,none,none,none,none,none,none,none] g) (runP P)):EvP (ZAs [a0,a1] g) P:=by
 unfold ZAs
 exact Zd h
@[reducible] noncomputable def ZDu:DS :=
 (ZR (Zr 2 (dF ZSK (ZC (ZD 1) (ZC (dOp Zf (dF ZFv (ZC (dC (.int 2)) (ZC (dC (.int 3)) (ZC (dC (.int 4)) (ZC (dC (.int 3)) (ZC (dC (.int 5)) (ZC (dOp ZAQ (dC (.int 2)) (dF ZO (ZC (ZD 0) (ZC (dC (.int 7)) ZK)))) ZK))))))) (dF ZO (ZC (ZD 0) (ZC (dC (.int 6)) ZK)))) ZK))))
 (ZR (Zr 3 (dF ZDh ZK))
 (ZR (ZCj (.nm 4) (ZAa (ZC (ZD 2) ZK))
 (ZR (Zr 5 (dOp Zf (dF ZFv (ZC (dC (.int 1)) (ZC (dOp ZAQ (dC (.int 1)) (dF ZO (ZC (ZD 0) (ZC (dC (.int 4)) ZK)))) ZK))) (dF ZO (ZC (ZD 0) (ZC (dC (.int 2)) ZK)))))
 (ZBk (ZFu (ZD 3) (dF Z8 (ZC (ZD 5) (ZC (dF ZO (ZC (ZD 0) (ZC (ZD 5) ZK))) ZK)))))))
 (ZU (dF (f1 ZDE) (ZC (ZD 3) ZK))))))
@[irreducible] noncomputable def ZBG:List W->G->Option (W × G):=Z2 6 ZDu
theorem ZIN {a0 a1:W} {g:G} {P:W->G->Prop} (h:EvS (ZDu [some a0,some a1,none,none,none,none] g) (runP P)):EvP (ZBG [a0,a1] g) P:=by
 unfold ZBG
 exact Zd h
@[reducible] noncomputable def ZDT:DS :=
 (ZR (Zr 3 (dF (f1 ZCL) (ZC (ZD 2) ZK)))
 (ZR (Zr 4 (dOp Zf (dF ZFv (ZC (dC (.int 0)) (ZC (dC (.int 0)) (ZC (dC (.int 999000)) (ZC (dF ZO (ZC (ZD 0) (ZC (dC (.int 1000)) ZK))) ZK))))) (dF ZO (ZC (ZD 0) (ZC (dC (.int 4)) ZK)))))
 (ZR (Zr 5 (dF ZO (ZC (ZD 0) (ZC (dC (.int 3)) ZK))))
 (ZR (Zr 6 (dF ZDh ZK))
 (ZR (ZCj (.nm 7) (ZAa (ZC (ZD 3) ZK))
 (ZR (Zr 8 (dF (f1 ZKn) (ZC (dOp ZN4 (dF ZO (ZC (ZD 0) (ZC (dC (.int 5)) ZK))) (dC (.int 0))) ZK)))
 (ZR (Zr 9 (dF (f1 ZDE) (ZC (ZAl 1 [4,0,5] (.nm 0) (ZAa (ZC (ZD 3) ZK)) ZC8 (dF Z8 (ZC (dOp ZAQ (ZD 1) (dF ZO (ZC (ZD 2) (ZC (dC (.int 3)) ZK)))) (ZC (dOp Zf (dF ZFv (ZC (dF ZO (ZC (ZD 2) (ZC (dC (.int 4)) ZK))) (ZC (dC (.int 0)) ZK))) (dF (f1 ZKn) (ZC (dOp ZCJ (ZD 3) (dC (.int 0))) ZK))) ZK)))) ZK)))
 (ZR (Zr 10 (dF (f1 ZDE) (ZC (ZAl 1 [0,1] (.nm 0) (ZAa (ZC (ZD 3) ZK)) ZC8 (dF ZO (ZC (ZD 1) (ZC (dOp ZAQ (dOp Zf (ZD 2) (dC (.int 2))) (dC (.int 1))) ZK)))) ZK)))
 (ZR (Zr 11 (dF (f1 ZDE) (ZC (ZAl 1 [0,1] (.nm 0) (ZAa (ZC (ZD 3) ZK)) ZC8 (dOp ZBW (dF ZO (ZC (ZD 1) (ZC (dOp ZAQ (dOp Zf (ZD 2) (dC (.int 1))) (dC (.int 1))) ZK))) (dF (f1 ZKn) (ZC (dOp ZCJ (dF ZO (ZC (ZD 1) (ZC (dC (.int 3)) ZK))) (dC (.int 0))) ZK)))) ZK)))
 (ZR (Zr 11 (dF (f1 ZDE) (ZC (ZAl 1 [8,11,7] (.nm 0) (ZAa (ZC (ZD 3) ZK)) ZC8 (dOp ZBW (dOp ZBW (dOp Zf (ZD 2) (ZD 0)) (ZD 1)) (dF (f1 ZKn) (ZC (dOp ZCN (ZD 0) (ZD 3)) ZK)))) ZK)))
 (ZBk (ZFu (ZD 6) (dF Z8 (ZC (ZD 8) (ZC (ZD 9) (ZC (ZD 10) (ZC (ZD 11) ZK)))))))))))))
 (ZU (dF Z8 (ZC (dF ZO (ZC (ZD 0) (ZC (dOp Zf (dF ZFv (ZC (dC (.int 5)) (ZC (dC (.int 100)) (ZC (dC (.int 100000)) ZK)))) (dF ZO (ZC (ZD 0) (ZC (dC (.int 3)) ZK)))) ZK))) (ZC (dF (f1 ZDE) (ZC (ZD 6) ZK)) ZK)))))))))
@[irreducible] noncomputable def ZAw:List W->G->Option (W × G):=Z2 12 ZDT
theorem ZG8 {a0 a1 a2:W} {g:G} {P:W->G->Prop} (h:EvS (ZDT [some a0,some a1,some a2,none,none,none,none,none,none,none,none,none] g) (runP P)):EvP (ZAw [a0,a1,a2] g) P:=by
 unfold ZAw
 exact Zd h
@[reducible] noncomputable def ZDo:DS :=
 (ZR (Zr 2 (dF ZO (ZC (ZD 0) (ZC (dC (.int 5)) ZK))))
 (ZR (Zz (dB (dOp ZCJ (ZD 2) (dC (.int 0))))
 (ZU (dF Z8 ZK))
 dNx)
 (ZR (Zz (dB (dOp ZCJ (ZD 2) (dC (.int 1))))
 (ZU (ZJN (ZD 1)))
 dNx)
 (ZU (dF (f1 ZDE) (ZC (ZAl 1 [0,2] (.nm 0) (ZAa (ZC (ZD 1) ZK)) (dB (dOp ZCJ (dF ZO (ZC (ZD 1) (ZC (dOp Zf (dF ZFv (ZC (dC (.int 2)) (ZC (dC (.int 3)) (ZC (dC (.int 8)) ZK)))) (dOp ZGl (ZD 2) (dC (.int 2)))) ZK))) (dC (.int 0)))) (ZD 0)) ZK))))))
@[irreducible] noncomputable def ZBI:List W->G->Option (W × G):=Z2 3 ZDo
theorem ZH4 {a0 a1:W} {g:G} {P:W->G->Prop} (h:EvS (ZDo [some a0,some a1,none] g) (runP P)):EvP (ZBI [a0,a1] g) P:=by
 unfold ZBI
 exact Zd h
@[reducible] noncomputable def ZC1:DS :=
 (ZR (ZHn 3 4 5 (ZC (dF ZDh ZK) (ZC (dF ZDh ZK) (ZC (dF ZDh ZK) ZK))))
 (ZR (ZCj (.tp (.cons (.nm 6) (.cons (.nm 7) .nil))) (ZCK (ZC (dOp Zf (ZD 1) (dC (.int 1))) ZK))
 (ZR (Zr 8 (dF ZO (ZC (ZD 0) (ZC (dC (.int 8)) ZK))))
 (ZR (Zz (ZCb (dB (ZD 2)) (ZCb (dB (dOp ZCJ (dOp Zf (ZD 7) (dC (.int 0))) (dC (.int 1)))) (dB (dOp ZG6 (ZD 8) (dC (.int 2))))))
 (ZBk (ZFu (ZJZ (ZC (ZD 3) (ZC (ZD 4) ZK)) (ZD 8)) (ZD 6)))
 dNx)
 (Zz (ZCb (dB (ZD 2)) (ZCb (dB (dOp ZCJ (dOp Zf (ZD 7) (dC (.int 0))) (dC (.int 0)))) (dB (dOp ZG6 (ZD 8) (dC (.int 3))))))
 (ZBk (ZFu (ZD 5) (ZD 6)))
 dNx))))
 (ZU (dF Z8 (ZC (dF ZBI (ZC (ZD 0) (ZC (dC (.int 60)) ZK))) (ZC (dF (f1 ZDE) (ZC (ZD 3) ZK)) (ZC (dF (f1 ZDE) (ZC (ZD 4) ZK)) (ZC (dF (f1 ZDE) (ZC (ZD 5) ZK)) ZK))))))))
@[irreducible] noncomputable def ZAV:List W->G->Option (W × G):=Z2 9 ZC1
theorem ZGL {a0 a1 a2:W} {g:G} {P:W->G->Prop} (h:EvS (ZC1 [some a0,some a1,some a2,none,none,none,none,none,none] g) (runP P)):EvP (ZAV [a0,a1,a2] g) P:=by
 unfold ZAV
 exact Zd h
@[reducible] noncomputable def ZDY:DS :=
 (ZU (ZBu (dF ZF0 (ZC (ZD 0) (ZC (λ _ g=>some (.ty "int",g)) ZK))) (ZBu (ZG0 (dF ZF0 (ZC (ZD 0) (ZC (λ _ g=>some (.ty "bool",g)) ZK)))) (ZEA ZLe ZLe (ZD 1) (ZD 0) (ZD 2)))))
@[irreducible] noncomputable def Zy:List W->G->Option (W × G):=Z2 3 ZDY
theorem ZHF {a0 a1 a2:W} {g:G} {P:W->G->Prop} (h:EvS (ZDY [some a0,some a1,some a2] g) (runP P)):EvP (Zy [a0,a1,a2] g) P:=by
 unfold Zy
 exact Zd h
@[reducible] noncomputable def ZCO:DS :=
 (ZR (Zz (dOr (ZCB (dB (dF ZF0 (ZC (ZD 3) (ZC (λ _ g=>some (.ty "tuple",g)) ZK))))) (dOr (dB (dOp ZCN (dF (f1 ZCL) (ZC (ZD 3) ZK)) (dC (.int 4)))) (ZCB (dB (dF Zy (ZC (dOp Zf (ZD 3) (dC (.int 0))) (ZC (dC (.int 0)) (ZC (dC (.int 1)) ZK))))))))
 (ZU (dC (.bool false)))
 dNx)
 (ZR (ZCj (.nm 4) (ZCl (dSl (ZD 3) (ZEN (dC (.int 1))) ZCT))
 (Zz (dOr (ZCB (dB (dF ZF0 (ZC (ZD 4) (ZC (λ _ g=>some (.ty "tuple",g)) ZK))))) (dB (dOp ZCN (dF (f1 ZCL) (ZC (ZD 4) ZK)) (ZD 1))))
 (ZU (dC (.bool false)))
 dNx))
 (ZR (ZCj (.nm 5) (ZCl (dOp Zf (ZD 3) (dC (.int 1))))
 (ZR (Zz (dOr (ZCB (dB (dF ZF0 (ZC (ZD 5) (ZC (λ _ g=>some (.ty "tuple",g)) ZK))))) (dB (dOp ZCN (dF (f1 ZCL) (ZC (ZD 5) ZK)) (dC (.int 2)))))
 (ZU (dC (.bool false)))
 dNx)
 (Zz (dOr (ZCB (dB (dF Zy (ZC (dOp Zf (ZD 5) (dC (.int 0))) (ZC (dC (.int 0)) (ZC (dC (.int 1000000)) ZK)))))) (ZCB (dB (dF Zy (ZC (dOp Zf (ZD 5) (dC (.int 1))) (ZC (dC (.int 0)) (ZC (dC (.int 3)) ZK)))))))
 (ZU (dC (.bool false)))
 dNx)))
 (ZR (Zz (ZCB (dB (dF (f1 ZFt) (ZC (ZAl 1 [0] (.nm 0) (ZCl (dOp Zf (ZD 3) (dC (.int 2)))) ZC8 (dF Zy (ZC (ZD 0) (ZC (dC (.int 0)) (ZC (dOp Zf (ZD 1) (dC (.int 2))) ZK))))) ZK))))
 (ZU (dC (.bool false)))
 dNx)
 (ZR (Zr 6 (dOp ZBW (dOp Zf (ZD 0) (dC (.int 1))) (dOp Zf (ZD 3) (dC (.int 0)))))
 (ZU (dF (f1 ZFt) (ZC (ZAl 2 [6,2] (.tp (.cons (.nm 0) (.cons (.nm 1) .nil))) (ZCK (ZC (dOp Zf (ZD 3) (dC (.int 3))) ZK)) ZC8 (dF Zy (ZC (ZD 1) (ZC (dC (.int 0)) (ZC (dOp ZBW (ZD 2) (dF (f1 ZKn) (ZC (dOp ZCN (ZD 0) (ZD 3)) ZK))) ZK))))) ZK))))))))
@[irreducible] noncomputable def ZAL:List W->G->Option (W × G):=Z2 7 ZCO
theorem ZFK {a0 a1 a2 a3:W} {g:G} {P:W->G->Prop} (h:EvS (ZCO [some a0,some a1,some a2,some a3,none,none,none] g) (runP P)):EvP (ZAL [a0,a1,a2,a3] g) P:=by
 unfold ZAL
 exact Zd h
@[reducible] noncomputable def ZCP:DS :=
 (ZR (Zz (dOr (ZCB (dB (dF ZF0 (ZC (ZD 2) (ZC (λ _ g=>some (.ty "tuple",g)) ZK))))) (dOr (dB (dOp ZCN (dF (f1 ZCL) (ZC (ZD 2) ZK)) (dC (.int 2)))) (ZCB (dB (dF Zy (ZC (dOp Zf (ZD 2) (dC (.int 0))) (ZC (dC (.int 0)) (ZC (dC (.int 1000000000)) ZK))))))))
 (ZU (dC (.bool false)))
 dNx)
 (ZR (Zz (dOr (ZCB (dB (dF ZF0 (ZC (dOp Zf (ZD 2) (dC (.int 1))) (ZC (λ _ g=>some (.ty "tuple",g)) ZK))))) (dB (dOp ZCN (dF (f1 ZCL) (ZC (dOp Zf (ZD 2) (dC (.int 1))) ZK)) (dF (f1 ZCL) (ZC (ZD 1) ZK)))))
 (ZU (dC (.bool false)))
 dNx)
 (ZU (dF (f1 ZFt) (ZC (ZAl 2 [0,1] (.tp (.cons (.nm 0) (.cons (.nm 1) .nil))) (ZCK (ZC (dOp Zf (ZD 2) (dC (.int 1))) ZK)) ZC8 (dF ZAL (ZC (ZD 2) (ZC (dF (f1 ZCL) (ZC (ZD 3) ZK)) (ZC (ZD 0) (ZC (ZD 1) ZK)))))) ZK)))))
@[irreducible] noncomputable def ZAP:List W->G->Option (W × G):=Z2 3 ZCP
theorem ZFQ {a0 a1 a2:W} {g:G} {P:W->G->Prop} (h:EvS (ZCP [some a0,some a1,some a2] g) (runP P)):EvP (ZAP [a0,a1,a2] g) P:=by
 unfold ZAP
 exact Zd h
@[reducible] noncomputable def ZDt:DS :=
 (ZR (Zr 3 (dF ZBL (ZC (ZD 0) (ZC (ZD 1) (ZC (ZD 2) ZK)))))
 (ZU (ZBu (dF ZF0 (ZC (ZD 3) (ZC (λ _ g=>some (.ty "bool",g)) ZK))) (dOp ZCJ (ZD 3) (dF ZAP (ZC (ZD 0) (ZC (ZD 1) (ZC (ZD 2) ZK))))))))
@[irreducible] noncomputable def ZBJ:List W->G->Option (W × G):=Z2 4 ZDt
theorem ZIU {a0 a1 a2:W} {g:G} {P:W->G->Prop} (h:EvS (ZDt [some a0,some a1,some a2,none] g) (runP P)):EvP (ZBJ [a0,a1,a2] g) P:=by
 unfold ZBJ
 exact Zd h
@[reducible] noncomputable def ZDP:DS :=
 (ZR (Zz (dOr (ZCB (dB (dF ZBJ (ZC (ZD 0) (ZC (ZD 1) (ZC (ZD 4) ZK)))))) (dB (dOp ZJg (dF ZBL (ZC (ZD 0) (ZC (ZD 1) (ZC (ZD 4) ZK)))) (dC (.bool true)))))
 (ZU (dC (.bool false)))
 dNx)
 (ZR (Zz (dB (dOp ZCN (dOp Zf (ZD 4) (dC (.int 0))) (dOp ZAQ (dOp Zf (ZD 2) (dC (.int 0))) (dC (.int 1)))))
 (ZU (dC (.bool false)))
 dNx)
 (ZR (ZCj (.tp (.cons (.nm 5) (.cons (.nm 6) .nil))) (ZCK (ZC (dOp Zf (ZD 2) (dC (.int 1))) ZK))
 (ZR (Zr 7 (dOp Zf (ZD 6) (dC (.int 0))))
 (ZR (Zz (dB (dOp ZDW (ZD 5) (dOp ZAQ (dOp Zf (ZD 3) (dC (.int 1))) (dOp Zf (ZD 3) (dC (.int 2))))))
 (Zr 7 (dC (.int 0)))
 dNx)
 (ZR (Zz (dB (dOp ZDW (ZD 5) (dOp Zf (ZD 3) (dC (.int 3)))))
 (Zr 7 (dC (.int 1)))
 dNx)
 (Zz (dB (dOp ZCN (dOp Zf (dOp Zf (dOp Zf (ZD 4) (dC (.int 1))) (ZD 5)) (dC (.int 0))) (ZD 7)))
 (ZU (dC (.bool false)))
 dNx)))))
 (ZU (dC (.bool true))))))
@[irreducible] noncomputable def ZAe:List W->G->Option (W × G):=Z2 8 ZDP
theorem ZHO {a0 a1 a2 a3 a4:W} {g:G} {P:W->G->Prop} (h:EvS (ZDP [some a0,some a1,some a2,some a3,some a4,none,none,none] g) (runP P)):EvP (ZAe [a0,a1,a2,a3,a4] g) P:=by
 unfold ZAe
 exact Zd h
@[reducible] noncomputable def ZMm:DS :=
 (ZR (ZCj (.nm 1) (ZAa (ZC (dOp ZAQ (dC (.int 1)) (dF (f1 ZCL) (ZC (dSl (ZD 0) ZCT (ZEN (dC (.int 6)))) ZK))) ZK))
 (ZR (Zr 2 (dF ZBf (ZC (ZD 0) (ZC (ZD 1) ZK))))
 (ZR (Zr 3 (dF ZAs (ZC (ZD 2) (ZC (dC (.bool false)) ZK))))
 (ZR (Zr 4 (dF ZBG (ZC (ZD 2) (ZC (dC (.int 8)) ZK))))
 (ZR (Zr 5 (dF ZDa (ZC (ZD 3) (ZC (ZD 4) ZK))))
 (ZR (Zz (dB (dOp ZCJ (dF ZO (ZC (ZD 2) (ZC (dC (.int 2)) ZK))) (dC (.int 0))))
 (Zr 5 (dF ZAw (ZC (ZD 2) (ZC (ZD 3) (ZC (ZD 4) ZK)))))
 dNx)
 (ZCj (.nm 6) (ZAa (ZC (dOp ZAQ (dC (.int 1)) (dF ZO (ZC (ZD 2) (ZC (dC (.int 8)) ZK)))) ZK))
 (ZR (Zr 7 (dF ZAV (ZC (ZD 2) (ZC (ZD 5) (ZC (dC (.bool true)) ZK)))))
 (ZR (Zr 8 (dF Z8 (ZC (dOp Zf (ZD 5) (dC (.int 0))) (ZC (dF (f1 ZDE) (ZC (ZAl 1 [] (.nm 0) (ZCl (dOp Zf (ZD 5) (dC (.int 1)))) ZC8 (dF (f1 ZDE) (ZC (dF (f1 ZRL) (ZC (ZD 0) ZK)) ZK))) ZK)) ZK))))
 (ZR (Zr 9 (dOp Zf (dF ZBO (ZC (ZD 3) (ZC (ZD 4) (ZC (ZD 5) (ZC (ZD 7) ZK))))) (dC (.int 0))))
 (ZR (Zz (dOr (ZCB (dB (dF ZAe (ZC (ZD 3) (ZC (ZD 4) (ZC (ZD 5) (ZC (ZD 7) (ZC (ZD 9) ZK)))))))) (dB (dOp ZCN (ZD 5) (ZD 8))))
 (ZU (dC (.bool false)))
 dNx)
 (Zr 5 (ZD 9)))))))))))))
 (ZU (dC (.bool true))))
@[irreducible] noncomputable def ZGp:List W->G->Option (W × G):=Z2 10 ZMm
theorem ZRu {a0:W} {g:G} {P:W->G->Prop} (h:EvS (ZMm [some a0,none,none,none,none,none,none,none,none,none] g) (runP P)):EvP (ZGp [a0] g) P:=by
 unfold ZGp
 exact Zd h
local macro_rules
 | `(tactic| and_intros) => `(tactic| repeat (first
  | with_reducible (first
   | refine ZEk ?_ | refine ZPx ?_ | refine x_c ?_ | refine x_op ?_ | refine x_f ?_ | refine as_b ?_ | refine x_b ?_ | refine ZRb ?_ | refine x_seq ?_ | refine ZP1 ?_ | refine x_ifS ?_ | refine x_and ?_ | refine x_or ?_ | refine x_not ?_
   | refine ZR0 ?_ | refine as_i ?_ | refine x_asg ?_ | refine ZQB ?_ | refine ZQL ?_ | refine x_for ?_ | refine ZOW ?_ | refine x_retN ?_
   | refine x_un ?_ | refine ZQp ?_ | refine x_orV ?_ | refine ZKy ?_ | refine x_if ?_ | refine ZOF ?_
   | refine x_sl ?_ | refine ZMw ?_ | refine ZQx ?_ | refine ZQF ?_ | refine ZRA ?_ | refine ZOl ?_ | refine x_izip ?_ | refine x_app ?_ | refine x_sto ?_ | refine x_augS ?_ | refine ZRl ?_ | refine x_fld ?_ | refine ZRr ?_ | refine ZRn ?_ | refine ZRz ?_ | refine x_par ?_ | refine ZRq ?_ | refine ZQZ ?_ | refine x_ext ?_ | refine x_ins ?_)
  | ((with_reducible refine ZGg ?_ ?_); exact rfl)
  | refine ZRS ?_ | refine ZRF ?_ | refine Exists.intro _ (And.intro rfl ?_)
  | refine Exists.intro _ (Exists.intro _ (Exists.intro _ (And.intro rfl (And.intro (by assumption) (And.intro rfl ?_)))))
  | refine Exists.intro _ (Exists.intro _ (Exists.intro _ (And.intro rfl (And.intro (by assumption) (And.intro (of_decide_eq_true rfl) (And.intro rfl ?_))))))
  | refine Exists.intro _ (Exists.intro _ (And.intro rfl (And.intro (by assumption) ?_)))
  | refine And.intro (ZNz (by assumption)) ?_ | refine And.intro (ZNz ZAS) ?_ | refine ZC2 ?_ | refine ZRX ?_))
theorem ZF7 {α P:Prop} (_ : α) (h:P):P:=h
theorem ZA9 (n:Nat) (lo:Int):(ZCF n lo).length=n:=by unfold ZCF; rw [List.length_map,List.length_range]
theorem Zm {b:Nat} {m:Int} {g:G} {P:W->G->Prop} (hb:Bx g b) (h0 : 0 < m) (h1:m < 2 ^ 62) (q:∀ d g',0<=d->d < m->Dr b g g'->P (.dat (.int d)) g'):EvP (ZO [.ref b,.dat (.int m)] g) P:=by
 have hl:=hb.lt
 obtain ⟨x,n,c,e⟩:=hb
 refine ZH8 ?_
 and_intros
 refine ZFj e rfl ?_
 and_intros
 refine ⟨λ hx=>?_,λ hx=>?_⟩
 ·and_intros
  refine ZFj e rfl ?_
  and_intros
  refine ZFp h0 ?_
  and_intros
  refine ZFj e rfl ?_
  and_intros
  refine ZP5 h0 (by omega) ?_
  and_intros
  refine ⟨_,e,?_⟩
  and_intros
  exact q _ _ (Int.emod_nonneg _ (by omega)) (Int.emod_lt_of_pos _ h0) (.set hl)
 ·and_intros
  refine ZFj e rfl ?_
  and_intros
  refine ⟨_,e,?_⟩
  and_intros
  refine ZFj (ZBS hl) rfl ?_
  and_intros
  refine ZEM (ZDz (by decide)) ?_
  and_intros
  refine ZFj (ZBS hl) rfl ?_
  and_intros
  generalize hz:(n * 48271+8191 * (c+1)+17) % 2147483647=z
  have z0 : 0<=z:=by rw [← hz]; exact Int.emod_nonneg _ (by decide)
  have z1:z < 2147483647:=by rw [← hz]; exact Int.emod_lt_of_pos _ (by decide)
  refine ZEM (ZNs (by omega)) ?_
  and_intros
  refine ZFj (ZBS hl) rfl ?_
  and_intros
  refine ⟨_,ZBS hl,?_⟩
  and_intros
  refine ZFj (ZBS (by rw [List.length_set]; exact hl)) rfl ?_
  and_intros
  refine ZFp h0 ?_
  and_intros
  refine q _ _ (Int.emod_nonneg _ (by omega)) (Int.emod_lt_of_pos _ h0) ?_
  rw [List.set_set]
  exact .set hl
theorem ZRV {ns:List Int} {k:Int} {g:G} {P:W->G->Prop} (hk : 0<=k/\k<=100) (q:∀ g',g'.length=g.length+1->(∀ n,n < g.length->g'[n]? = g[n]?)->Bx g' g.length->P (.ref g.length) g'):EvP (ZBf [.inp ns,.dat (.int k)] g) P:=by
 refine ZJa ?_
 and_intros
 refine ⟨λ hx=>?_,λ hx=>?_⟩
 ·have hk2:k.toNat < ns.length:=by have:=of_decide_eq_true hx; omega
  and_intros
  refine ZGr (y:=ns.getD k.toNat 0) (x:=.dat (.int (ns.getD k.toNat 0))) (g:=g) (by have:=ZE2 (xs:=ns) (j:=k.toNat) (v:=ns.getD k.toNat 0) (by rw [List.getD_eq_getElem?_getD,List.getElem?_eq_getElem hk2]; rfl); rwa [Int.toNat_of_nonneg hk.1] at this) rfl ?_
  and_intros
  refine ZEM (ZDz (ib1 _)) ?_
  and_intros
  refine ZEM (ZDz (by omega)) ?_
  and_intros
  exact q _ (by simp) (λ n hn=>List.getElem?_append_left hn) ⟨_,_,_,ZAS⟩
 ·and_intros
  refine ZEM (ZDz (by omega)) ?_
  and_intros
  exact q _ (by simp) (λ n hn=>List.getElem?_append_left hn) ⟨_,_,_,ZAS⟩
theorem ZE3 {xs:List PyData} {d:Int} {g:G} {P:W->G->Prop} (h0 : 0<=d) (h1:d < xs.length) (q:∀ x ∈ xs,P (.dat x) g):EvP (Zf (.dat (.list xs)) (.dat (.int d)) g) P:=by
 have hn:d.toNat < xs.length:=by omega
 refine y_ixL (d:=xs[d.toNat]) ?_ (q _ (List.getElem_mem hn))
 have h:=ZE2 (xs:=xs) (j:=d.toNat) (v:=xs[d.toNat]) (by simp [hn])
 rwa [Int.toNat_of_nonneg h0] at h
theorem ZMY {xs:List PyData} {d:Int} {g:G} {P:W->G->Prop} (h0 : 0<=d) (h1:d < xs.length) (q:∀ x ∈ xs,P (.dat x) g):EvP (Zf (.dat (.tuple xs)) (.dat (.int d)) g) P:=by
 have hn:d.toNat < xs.length:=by omega
 refine ZA1 (d:=xs[d.toNat]) ?_ (q _ (List.getElem_mem hn))
 have h:=ZE2 (xs:=xs) (j:=d.toNat) (v:=xs[d.toNat]) (by simp [hn])
 rwa [Int.toNat_of_nonneg h0] at h
theorem ZD8 {a b d:Int} {g:G} {P:W->G->Prop} (h0 : 0<=d) (h1:d < 2) (q:∀ x,x=a ∨ x=b->P (.dat (.int x)) g):EvP (Zf (.dat (.list [.int a,.int b])) (.dat (.int d)) g) P:=ZE3 h0 h1 λ x hx=>by
 simp only [List.mem_cons,List.not_mem_nil,or_false] at hx
 rcases hx with rfl | rfl
 ·exact q _ (.inl rfl)
 ·exact q _ (.inr rfl)
theorem ZNP {b:Nat} {wh:Bool} {g:G} {P:W->G->Prop} (hb:Bx g b) (q:∀ r g',RuOk r->r.cl.Sublist ZCS->(wh=true->r.cl=ZCS)->Dr b g g'->P (.dat (ruD r)) g'):EvP (ZAs [.ref b,.dat (.bool wh)] g) P:=by
 refine ZHN ?_
 and_intros
 refine Zm hb (by decide) (by decide) λ d1 g1 l1 u1 D1=>?_
 and_intros
 refine Zm D1.bx (by decide) (by decide) λ d2 g2 l2 u2 D2=>?_
 and_intros
 refine Zm D2.bx (by decide) (by decide) λ d3 g3 l3 u3 D3=>?_
 and_intros
 refine ZD8 l3 u3 λ t ht=>?_
 and_intros
 refine Zm D3.bx (by decide) (by decide) λ d4 g4 l4 u4 D4=>?_
 and_intros
 refine Zm D4.bx (by decide) (by decide) λ d5 g5 l5 u5 D5=>?_
 and_intros
 refine Zm D5.bx (by decide) (by decide) λ d6 g6 l6 u6 D6=>?_
 and_intros
 refine ZD8 l6 u6 λ c hc=>?_
 and_intros
 refine Zm D6.bx (by decide) (by decide) λ d7 g7 l7 u7 D7=>?_
 and_intros
 refine Zm D7.bx (by decide) (by decide) λ d8 g8 l8 u8 D8=>?_
 and_intros
 refine Zm D8.bx (by decide) (by decide) λ d9 g9 l9 u9 D9=>?_
 and_intros
 refine ZD8 (by omega) (by omega) λ w hw=>?_
 and_intros
 refine Zm D9.bx (by decide) (by decide) λ m gm lm um Dm=>?_
 and_intros
 have DD:=D1.trans (D2.trans (D3.trans (D4.trans (D5.trans (D6.trans (D7.trans (D8.trans (D9.trans Dm))))))))
 have rok:∀ (o:Int) (cl:List Str),0<=o->o < 4->cl.length<=7->RuOk ⟨o,1+w,t,c,cl⟩:=λ o cl h1 h2 h3=>⟨⟨h1,by show o<=3; omega⟩,⟨by show 1<=1+w; omega,by show 1+w<=9; omega⟩,⟨by show 0<=t; omega,by show t<=9; omega⟩,⟨by show 0<=c; omega,by show c<=8; omega⟩,h3⟩
 have whole:∀ (sdx:Sd) (rest:DS),sdx.getD 0 none=some (.ref b)->sdx.getD 2 none=some (.dat (.int t))->sdx.getD 3 none=some (.dat (.int c))->sdx.getD 4 none=some (.dat (.int (1+w)))->sdx.getD 5 none=some (.dat (clD ZCS)) ->
   EvS (ZU (dF Z8 (ZC (dF ZO (ZC (ZD 0) (ZC (dC (.int 4)) ZK))) (ZC (ZD 4) (ZC (ZD 2) (ZC (ZD 3) (ZC (ZD 5) ZK)))))) sdx gm) (seqP rest (runP P)):=λ sdx rest e0 e2 e3 e4 e5=>by
  refine ZQB (x_f (ZEk (x_f (ZEk (ZGg e0 ?_)))))
  and_intros
  refine Zm Dm.bx (by decide) (by decide) λ o go lo uo Do=>?_
  refine ZEk (ZGg e4 (ZEk (ZGg e2 (ZEk (ZGg e3 (ZEk (ZGg e5 (ZPx ?_))))))))
  and_intros
  exact ZF7 (DD.trans Do).len (q ⟨o,1+w,t,c,ZCS⟩ _ (rok o _ lo uo (by decide)) (List.Sublist.refl _) (λ _=>rfl) (DD.trans Do))
 refine ⟨λ _=>⟨λ _=>whole _ _ rfl rfl rfl rfl rfl,(λ z=>by cases z)⟩,λ hwh=>?_⟩
 and_intros
 refine ⟨λ _=>whole _ _ rfl rfl rfl rfl rfl,λ hm=>?_⟩
 clear whole
 and_intros
 refine Zm Dm.bx (by decide) (by decide) λ d10 g10 l10 u10 D10=>?_
 refine ZMY (xs:=ZCS.map .str) l10 u10 λ z hz=>?_
 obtain ⟨z,hz0,rfl⟩:=List.mem_map.mp hz
 have hok:=ok7
 and_intros
 refine ⟨by decide,?_⟩
 refine ZEy (λ gx=>Dr b g gx) (λ i acc=>∃ l:List Str,acc=l.map .str/\l.Sublist (ZCS.take i)) (DD.trans D10) ⟨[],rfl,List.Sublist.refl _⟩ ?_ ?_
 ·rintro i x gx acc hx Dx ⟨l,rfl,hl⟩
  have hx':(ZCS.map PyData.str)[i]? = some x:=hx
  rw [List.getElem?_map] at hx'
  obtain ⟨s,hs,rfl⟩:=mp hx'
  have hs2:=List.mem_of_getElem? hs
  have hi:=(List.getElem?_eq_some_iff.mp hs).1
  have hsn:(l ++ [s]).Sublist (ZCS.take (i+1)):=by
   rw [List.take_add_one,hs]
   exact hl.append (List.Sublist.refl _)
  have hsk:l.Sublist (ZCS.take (i+1)):=hl.trans (List.take_sublist_take_left (Nat.le_succ i))
  and_intros
  refine ZSJ (by rw [hok s hs2,hok z hz0]; rfl) ?_
  and_intros
  refine ⟨λ c1=>?_,λ c1=>⟨(λ z=>by cases z),λ _=>⟨trivial,Dx,l,rfl,hsk⟩⟩⟩
  and_intros
  have yes:∀ (sdy:Sd) (gy:G),sdy.getD 0 none=some (.dat (.str s))->Dr b g gy->EvP (ZD 0 sdy gy) λ y g2=>∃ d,y=.dat d/\ZBv none (ZCS.map PyData.str) g2/\Dr b g g2/\∃ l':List Str,l.map PyData.str ++ [d]=l'.map .str/\l'.Sublist (ZCS.take (i+1)):=λ sdy gy e D=>ZGg e ⟨_,rfl,trivial,D,l ++ [s],by rw [List.map_append]; rfl,hsn⟩
  refine ⟨λ c2=>⟨λ _=>yes _ _ rfl Dx,(λ z=>by cases z)⟩,λ c2=>?_⟩
  and_intros
  refine Zm Dx.bx (by decide) (by decide) λ d11 g11 l11 u11 D11=>?_
  and_intros
  refine ⟨λ c3=>yes _ _ rfl (Dx.trans D11),λ c3=>⟨trivial,Dx.trans D11,l,rfl,hsk⟩⟩
 ·rintro acc gx Dx ⟨l,rfl,hl⟩
  and_intros
  refine Zm Dx.bx (by decide) (by decide) λ o go lo uo Do=>?_
  and_intros
  have hl7:l.Sublist ZCS:=hl
  refine ZF7 (Dx.trans Do).len (q ⟨o,1+w,t,c,l⟩ _ (rok o _ lo uo hl7.length_le) hl7 (λ z=>by rw [hwh] at z; cases z) (Dx.trans Do))
theorem ZOz {b:Nat} {m:Int} {g:G} {P:W->G->Prop} (hb:Bx g b) (hm : 2<=m/\m<=8) (q:∀ ts g',2<=ts.length->(ts.length:Int)<=m->(∀ c ∈ ts,ZL2 c)->Dr b g g'->P (.dat (Zw ts)) g'):EvP (ZBG [.ref b,.dat (.int m)] g) P:=by
 refine ZIN ?_
 and_intros
 refine Zm hb (by decide) (by decide) λ d1 g1 l1 u1 D1=>?_
 and_intros
 refine Zm D1.bx (by decide) (by decide) λ d2 g2 l2 u2 D2=>?_
 refine ZE3 l2 u2 λ x hx=>?_
 obtain ⟨n0,rfl,hn0⟩:∃ n0,x=.int n0/\2<=n0/\n0<=8:=by
  simp only [List.mem_cons,List.not_mem_nil,or_false] at hx
  rcases hx with rfl | rfl | rfl | rfl | rfl | rfl <;> exact ⟨_,rfl,by omega,by omega⟩
 have D12:=D1.trans D2
 and_intros
 have hnn : 2<=(if n0 < m then n0 else m)/\(if n0 < m then n0 else m)<=m:=by split <;> omega
 generalize (if n0 < m then n0 else m)=n at *
 refine ZA2 (j:=n) (g1:=g2) ?_
 and_intros
 refine ⟨by omega,?_⟩
 refine ZB7 (λ i sd gx=>∃ ts hs pc,Dr b g gx/\g2.length < gx.length/\gx[g2.length]? = some (.pl ((ts:List (Int × Int)).map Zj))/\ts.length=i/\(∀ c ∈ ts,ZL2 c)/\sd=[some (.ref b),some (.dat (.int m)),some (.dat (.int n)),some (.ref g2.length),hs,pc]) ⟨[],none,none,D12.app,by simp,ZAS,rfl,(λ c hc=>by cases hc),rfl⟩ ?_ ?_
 ·rintro i x sd gx hx ⟨ts,hs,pc,D3,l3,c3,rfl,hts,rfl⟩
  have hbl:=hb.lt
  have hg2:=D12.len
  refine ⟨_,rfl,?_⟩
  and_intros
  refine Zm D3.bx (by decide) (by decide) λ d3 g4 l3 u3 D4=>?_
  and_intros
  refine Zm D4.bx (by decide) (by decide) λ d4 g5 l4 u4 D5=>?_
  and_intros
  refine ZD8 l4 u4 λ p hp=>?_
  have hp4 : 1<=p/\p<=4:=by omega
  and_intros
  have D35:=D4.trans D5
  have c5:g5[g2.length]? = some (.pl (ts.map Zj)):=by rw [D35.kp _ (by omega) (by omega)]; exact c3
  and_intros
  refine Zm D5.bx (by omega) (by omega) λ st g6 l5 u5 D6=>?_
  have D36:=D35.trans D6
  have c6:g6[g2.length]? = some (.pl (ts.map Zj)):=by rw [D36.kp _ (by omega) (by omega)]; exact c3
  and_intros
  refine ⟨_,c6,?_,?_⟩
  ·rw [List.length_map]
   have:=(List.getElem?_eq_some_iff.mp hx).1
   rw [ZA9] at this
   omega
  have l6:=D36.len
  refine ⟨trivial,ts ++ [(p,st)],_,_,(D3.trans D36).put hbl hg2,by rw [List.length_set]; omega,?_,by rw [List.length_append]; rfl,λ c hc=>?_,rfl⟩
  ·rw [ZBS (by omega),List.map_append]
   rfl
  ·rcases List.mem_append.mp hc with hc | hc
   ·exact hts c hc
   ·rw [List.mem_singleton.mp hc]
    exact ⟨hp4.1,hp4.2,l5,u5⟩
 ·rintro sd gx ⟨ts,hs,pc,D3,l3,c3,hl,hts,rfl⟩
  rw [ZA9] at hl
  and_intros
  refine ZEf c3 ?_
  and_intros
  exact q ts gx (by omega) (by omega) hts D3
structure HV9 (r:Ru) (n i:Nat) (h:Hs):Prop where
 up : 0<=h.1/\h.1<=1
 bl:h.2.1.length=n
 bs:∀ w ∈ h.2.1,(0<=w.1/\w.1<=999002)/\0<=w.2/\w.2<=3
 tl:h.2.2.1.length=n
 ts:∀ k ∈ h.2.2.1,0<=k/\k<=r.t
 ml:h.2.2.2.length=n
 ms:∀ k ∈ h.2.2.2,0<=k/\k<=r.w
 m0:h.2.2.2[i]? = some 0
 mu:h.1=1 ∨ ∀ k ∈ h.2.2.2,k=0
theorem snoc9 {r:Ru} {n:Nat} {hs:List Hs} {h:Hs} (hv:∀ i h,hs[i]? = some h->HV9 r n i h) (hn:HV9 r n hs.length h):∀ i x,(hs ++ [h])[i]? = some x->HV9 r n i x:=λ i x e=>by
 by_cases hi:i < hs.length
 ·rw [List.getElem?_append_left hi] at e
  exact hv i x e
 ·by_cases hi2:i=hs.length
  ·subst hi2
   rw [List.getElem?_append_right (Nat.le_refl _),Nat.sub_self] at e
   cases e
   exact hn
  ·rw [List.getElem?_eq_none (by rw [List.length_append]; show hs.length+1<=i; omega)] at e
   cases e
theorem ZHg {b n:Nat} {g0:G} {m:Int} {sd0:Sd} {de:DE} {P:List PyData->G->Prop} (R:Int->Prop) (hb:Bx g0 b) (hd:∀ (i:Nat) gx,Dr b g0 gx->EvP (de (sd0.set 0 (some (.dat (.int (0+(i:Int)))))) gx) λ y g2=>∃ k,y=.dat (.int k)/\R k/\Dr b g0 g2)
  (q:∀ (ks:List Int) gx,ks.length=n->(∀ k ∈ ks,R k)->Dr b g0 gx->P (ks.map .int) gx):EvP (ZBq none (ZCF n 0) (.nm 0) ZC8 de sd0 (ZCF n 0) g0) P:=by
 refine ZEy (λ gx=>Dr b g0 gx) (λ i acc=>∃ ks:List Int,acc=ks.map .int/\ks.length=i/\∀ k ∈ ks,R k) (.refl hb) ⟨[],rfl,rfl,(λ k hk=>by cases hk)⟩ ?_ ?_
 ·rintro i x gx acc hx Dx ⟨ks,rfl,hl,hk⟩
  unfold ZCF at hx
  rw [List.getElem?_map] at hx
  obtain ⟨j,hj,rfl⟩:=mp hx
  obtain ⟨hj1,hj2⟩:=List.getElem?_eq_some_iff.mp hj
  rw [List.getElem_range] at hj2
  subst hj2
  refine ⟨_,by rw [Zu],true,gx,rfl,λ _=>(hd i gx Dx).imp λ y g2 ⟨k,e,hk2,D2⟩=>⟨.int k,e,trivial,D2,ks ++ [k],by rw [List.map_append]; rfl,by rw [List.length_append,hl]; rfl,λ z hz=>?_⟩,λ z=>by cases z⟩
  rcases List.mem_append.mp hz with hz | hz
  ·exact hk z hz
  ·rw [List.mem_singleton.mp hz]; exact hk2
 ·rintro acc gx Dx ⟨ks,rfl,hl,hk⟩
  unfold ZCF at hl
  rw [List.length_map,List.length_range] at hl
  exact q ks gx hl hk Dx
theorem ZMA {b n:Nat} {g0:G} {sd0:Sd} {de:DE} {P:List PyData->G->Prop} (R:Int × Int->Prop) (hb:Bx g0 b) (hd:∀ (i:Nat) gx,Dr b g0 gx->EvP (de (sd0.set 0 (some (.dat (.int (0+(i:Int)))))) gx) λ y g2=>∃ k,y=.dat (Zj k)/\R k/\Dr b g0 g2)
  (q:∀ (ks:List (Int × Int)) gx,ks.length=n->(∀ k ∈ ks,R k)->Dr b g0 gx->P (ks.map Zj) gx):EvP (ZBq none (ZCF n 0) (.nm 0) ZC8 de sd0 (ZCF n 0) g0) P:=by
 refine ZEy (λ gx=>Dr b g0 gx) (λ i acc=>∃ ks:List (Int × Int),acc=ks.map Zj/\ks.length=i/\∀ k ∈ ks,R k) (.refl hb) ⟨[],rfl,rfl,(λ k hk=>by cases hk)⟩ ?_ ?_
 ·rintro i x gx acc hx Dx ⟨ks,rfl,hl,hk⟩
  unfold ZCF at hx
  rw [List.getElem?_map] at hx
  obtain ⟨j,hj,rfl⟩:=mp hx
  obtain ⟨hj1,hj2⟩:=List.getElem?_eq_some_iff.mp hj
  rw [List.getElem_range] at hj2
  subst hj2
  refine ⟨_,by rw [Zu],true,gx,rfl,λ _=>(hd i gx Dx).imp λ y g2 ⟨k,e,hk2,D2⟩=>⟨Zj k,e,trivial,D2,ks ++ [k],by rw [List.map_append]; rfl,by rw [List.length_append,hl]; rfl,λ z hz=>?_⟩,λ z=>by cases z⟩
  rcases List.mem_append.mp hz with hz | hz
  ·exact hk z hz
  ·rw [List.mem_singleton.mp hz]; exact hk2
 ·rintro acc gx Dx ⟨ks,rfl,hl,hk⟩
  unfold ZCF at hl
  rw [List.length_map,List.length_range] at hl
  exact q ks gx hl hk Dx
theorem ZOB {b:Nat} {r:Ru} {ts:List (Int × Int)} {g:G} {P:W->G->Prop} (hb:Bx g b) (hr:RuOk r) (ht : 2<=ts.length/\ts.length<=8) (q:∀ tn hs g',hs.length=ts.length->0<=tn->tn<=100000->(∀ i h,hs[i]? = some h->HV9 r ts.length i h)->Dr b g g'->P (.dat (Zq tn hs)) g'):EvP (ZAw [.ref b,.dat (ruD r),.dat (Zw ts)] g) P:=by
 have rt:=hr.t
 have rw_:=hr.w
 refine ZG8 ?_
 and_intros
 rw [List.length_map]
 refine Zm hb (by decide) (by decide) λ d1 g1 l1 u1 D1=>?_
 and_intros
 refine Zm D1.bx (by decide) (by decide) λ d2 g2 l2 u2 D2=>?_
 refine ZE3 l2 u2 λ x hx=>?_
 obtain ⟨far,rfl,hfar⟩:∃ n0,x=.int n0/\0<=n0/\n0<=999000:=by
  simp only [List.mem_cons,List.not_mem_nil,or_false] at hx
  rcases hx with rfl | rfl | rfl | rfl <;> exact ⟨_,rfl,by omega,by omega⟩
 and_intros
 refine Zm D2.bx (by decide) (by decide) λ calm g3 l3 u3 D3=>?_
 have D13:=D1.trans (D2.trans D3)
 and_intros
 refine ZA2 (j:=ts.length) (g1:=g3) ?_
 and_intros
 refine ⟨by omega,?_⟩
 rw [show ((ts.length:Nat):Int).toNat=ts.length by omega]
 have hbxl:=hb.lt
 have hg3:=D13.len
 refine ZB7 (λ i sd gx=>∃ hs z1 z2 z3 z4 z5,Dr b g gx/\g3.length < gx.length/\gx[g3.length]? = some (.pl ((hs:List Hs).map Zh))/\hs.length=i/\(∀ j h,hs[j]? = some h->HV9 r ts.length j h)/\sd=[some (.ref b),some (.dat (ruD r)),some (.dat (Zw ts)),some (.dat (.int (ts.length:Int))),some (.dat (.int far)),some (.dat (.int calm)),some (.ref g3.length),z1,z2,z3,z4,z5]) ⟨[],none,none,none,none,none,D13.app,by simp,ZAS,rfl,(λ j h e=>by simp at e),rfl⟩ ?_ ?_
 ·rintro i x sd gx hx ⟨hs,z1,z2,z3,z4,z5,D4,hl4,c4,rfl,hv,rfl⟩
  have hi:hs.length < ts.length:=by have:=(List.getElem?_eq_some_iff.mp hx).1; rw [ZA9] at this; exact this
  have hx2:x=.int (hs.length:Int):=by
   unfold ZCF at hx
   rw [List.getElem?_map] at hx
   obtain ⟨j,hj,rfl⟩:=mp hx
   obtain ⟨hj1,hj2⟩:=List.getElem?_eq_some_iff.mp hj
   rw [List.getElem_range] at hj2
   subst hj2
   rw [Int.zero_add]
  subst hx2
  refine ⟨_,rfl,?_⟩
  and_intros
  refine Zm D4.bx (by decide) (by decide) λ d5 g5 l5 u5 D5=>?_
  and_intros
  have hup : 0<=(if decide (0 < d5)=true then (1:Int) else 0)/\(if decide (0 < d5)=true then (1:Int) else 0)<=1:=by split <;> omega
  generalize (if decide (0 < d5)=true then (1:Int) else 0)=up at *
  refine ZA2 (j:=ts.length) (g1:=g5) ?_
  and_intros
  refine ⟨by omega,?_⟩
  rw [show ((ts.length:Nat):Int).toNat=ts.length by omega]
  refine ⟨by rw [ZA9]; omega,?_⟩
  refine ZMA (b:=b) (λ w=>(0<=w.1/\w.1<=999002)/\0<=w.2/\w.2<=3) D5.bx (λ j gx Dx=>?_) λ bk g6 hbl hbs D6=>?_
  ·and_intros
   refine Zm Dx.bx (by decide) (by decide) λ e1 h1 m1 n1 E1=>?_
   and_intros
   refine Zm E1.bx (by decide) (by decide) λ e2 h2 m2 n2 E2=>?_
   and_intros
   refine ZD8 (by split <;> omega) (by split <;> omega) λ mk hmk=>?_
   and_intros
   exact ⟨(far+e1,mk),rfl,⟨⟨by show (0:Int)<=far+e1; omega,by show far+e1<=999002; omega⟩,by show 0<=mk; omega,by show mk<=3; omega⟩,Dx.trans (E1.trans E2)⟩
  and_intros
  refine ZA2 (j:=ts.length) (g1:=g6) ?_
  and_intros
  refine ⟨by omega,?_⟩
  rw [show ((ts.length:Nat):Int).toNat=ts.length by omega]
  refine ⟨by rw [ZA9]; omega,?_⟩
  refine ZHg (b:=b) (m:=0) (λ k=>0<=k/\k<=r.t) D6.bx (λ j gx Dx=>?_) λ tl g7 htl hts D7=>?_
  ·and_intros
   refine Zm Dx.bx (by omega) (by omega) λ e1 h1 m1 n1 E1=>?_
   exact ⟨e1,rfl,⟨m1,by omega⟩,Dx.trans E1⟩
  and_intros
  refine ZA2 (j:=ts.length) (g1:=g7) ?_
  and_intros
  refine ⟨by omega,?_⟩
  rw [show ((ts.length:Nat):Int).toNat=ts.length by omega]
  refine ⟨by rw [ZA9]; omega,?_⟩
  refine ZHg (b:=b) (m:=0) (λ k=>0<=k/\k<=r.w) D7.bx (λ j gx Dx=>?_) λ tm g8 hml hms D8=>?_
  ·and_intros
   refine Zm Dx.bx (by omega) (by omega) λ e1 h1 m1 n1 E1=>?_
   and_intros
   refine Zm E1.bx (by decide) (by decide) λ e2 h2 m2 n2 E2=>?_
   and_intros
   refine ZEM (ZDz (ib1 _)) ?_
   refine ⟨_,rfl,?_,Dx.trans (E1.trans E2)⟩
   split <;> omega
  and_intros
  refine ZA2 (j:=ts.length) (g1:=g8) ?_
  and_intros
  refine ⟨by omega,?_⟩
  rw [show ((ts.length:Nat):Int).toNat=ts.length by omega]
  refine ⟨by rw [ZA9]; omega,?_⟩
  refine ZBC (λ j:Nat=>PyData.int (j:Int)) (λ j:Nat=>PyData.int (tm.getD j 0 * up * (if (j:Int)=(hs.length:Int) then 0 else 1))) (List.range ts.length) (by unfold ZCF; refine List.map_congr_left λ j _=>?_; rw [Int.zero_add]) trivial (λ j hj=>?_) ?_
  ·have hj:=List.mem_range.mp hj
   refine ⟨_,by rw [Zu],?_⟩
   and_intros
   refine ZA1 (Zx (a:=(0:Int)) (by omega)) ?_
   and_intros
   have htb : 0<=tm.getD j 0/\tm.getD j 0<=r.w:=by
    rw [List.getD_eq_getElem?_getD,List.getElem?_eq_getElem (show j < tm.length by omega)]
    exact hms _ (List.getElem_mem _)
   generalize tm.getD j 0=tk at *
   refine ZEM (ZNs (by omega)) ?_
   and_intros
   refine ZEM (ZDz (ib1 _)) ?_
   refine ⟨?_,rfl⟩
   rw [Zb]
   congr 2
   by_cases hjj:(j:Int)=(hs.length:Int)
   ·rw [if_pos hjj,decide_eq_true hjj]; rfl
   ·rw [if_neg hjj,decide_eq_false hjj]; rfl
  generalize htm2:((List.range ts.length).map λ j:Nat=>tm.getD j 0 * up * (if (j:Int)=(hs.length:Int) then 0 else 1))=tm2
  have hcv:((List.range ts.length).map λ j:Nat=>PyData.int (tm.getD j 0 * up * (if (j:Int)=(hs.length:Int) then 0 else 1)))=tm2.map .int:=by
   rw [← htm2,List.map_map]
   rfl
  rw [hcv]
  have DA:=D5.trans (D6.trans (D7.trans D8))
  have c9:g8[g3.length]? = some (.pl (hs.map Zh)):=by rw [DA.kp _ (by omega) (by omega)]; exact c4
  have l9:=DA.len
  and_intros
  refine ⟨_,c9,by rw [List.length_map]; omega,?_⟩
  refine ⟨trivial,hs ++ [(up,bk,tl,tm2)],_,_,_,_,_,(D4.trans DA).put hbxl hg3,by rw [List.length_set]; omega,?_,by rw [List.length_append]; rfl,snoc9 hv ?_,rfl⟩
  ·rw [ZBS (by omega),List.map_append]
   rfl
  have hm2:∀ k ∈ tm2,(0<=k/\k<=r.w)/\(up=1 ∨ k=0):=λ k hk=>by
   rw [← htm2] at hk
   obtain ⟨j,hj,rfl⟩:=List.mem_map.mp hk
   have hj:=List.mem_range.mp hj
   have htb : 0<=tm.getD j 0/\tm.getD j 0<=r.w:=by
    rw [List.getD_eq_getElem?_getD,List.getElem?_eq_getElem (show j < tm.length by omega)]
    exact hms _ (List.getElem_mem _)
   generalize tm.getD j 0=tk at *
   have hu:up=0 ∨ up=1:=by omega
   rcases hu with rfl | rfl
   ·simp; omega
   ·split <;> simp <;> omega
  refine ⟨hup,hbl,hbs,htl,hts,?_,λ k hk=>(hm2 k hk).1,?_,?_⟩
  ·show tm2.length=_
   rw [← htm2,List.length_map,List.length_range]
  ·show tm2[hs.length]? = some 0
   rw [← htm2,List.getElem?_map,List.getElem?_range hi]
   show some (_ * _ * _)=some 0
   rw [if_pos rfl,Int.mul_zero]
  ·show up=1 ∨ ∀ k ∈ tm2,k=0
   by_cases hu:up=1
   ·exact .inl hu
   ·exact .inr λ k hk=>((hm2 k hk).2).resolve_left hu
 ·rintro sd gx ⟨hs,z1,z2,z3,z4,z5,D4,hl4,c4,hl,hv,rfl⟩
  rw [ZA9] at hl
  and_intros
  refine Zm D4.bx (by decide) (by decide) λ e1 h1 m1 n1 E1=>?_
  refine ZE3 m1 n1 λ x hx=>?_
  obtain ⟨tm,rfl,htm⟩:∃ n0,x=.int n0/\0 < n0/\n0<=100000:=by
   simp only [List.mem_cons,List.not_mem_nil,or_false] at hx
   rcases hx with rfl | rfl | rfl <;> exact ⟨_,rfl,by omega,by omega⟩
  and_intros
  refine Zm E1.bx (by omega) (by omega) λ tn h2 m2 n2 E2=>?_
  have E12:=E1.trans E2
  have c9:h2[g3.length]? = some (.pl (hs.map Zh)):=by rw [E12.kp _ (by omega) (by omega)]; exact c4
  and_intros
  refine ZEf c9 ?_
  and_intros
  exact q tn hs h2 hl m2 (by omega) hv (D4.trans E12)
theorem ZPT {ds:List PyData} {i:Nat} {d:PyData} (hi:i < ds.length):ZCc ds none (some (i:Int)) ++ [d] ++ ZCc ds (some ((i:Int)+1)) none=ds.set i d:=by
 have e1:ZCc ds none (some (i:Int))=ds.take i:=by
  have h1:HT.sIx ds.length ds.length (some (i:Int))=i:=by
   show (if (i:Int) < 0 then ((i:Int)+(ds.length:Int)).toNat else min (i:Int).toNat ds.length)=i
   rw [if_neg (by omega)]
   omega
  have h2:HT.sIx ds.length 0 none=0:=rfl
  unfold ZCc
  rw [h1,h2,List.drop_zero,Nat.sub_zero]
 have e2:ZCc ds (some ((i:Int)+1)) none=ds.drop (i+1):=by
  have h1:HT.sIx ds.length 0 (some ((i:Int)+1))=i+1:=by
   show (if (i:Int)+1 < 0 then ((i:Int)+1+(ds.length:Int)).toNat else min ((i:Int)+1).toNat ds.length)=i+1
   rw [if_neg (by omega)]
   omega
  have h2:HT.sIx ds.length ds.length none=ds.length:=rfl
  unfold ZCc
  rw [h1,h2,List.take_of_length_le (by rw [List.length_drop]; omega)]
 rw [e1,e2,List.set_eq_take_append_cons_drop,if_pos hi,List.append_assoc]
 rfl
theorem ZId {ds:List PyData} (lo hi:Option Int):(ZCc ds lo hi).length<=ds.length:=by
 unfold ZCc
 rw [List.length_take,List.length_drop]
 omega
theorem ZAI {ds:List PyData} {i:Nat} {d:PyData} {g:G} {P:W->G->Prop} (hi:i < ds.length) (hl:ds.length<=400) (q:P (.dat (.tuple (ds.set i d))) g):EvP (ZAp [.dat (.tuple ds),.dat (.int (i:Int)),.dat d] g) P:=by
 refine ZR9 ?_
 and_intros
 have h1:=ZId (ds:=ds) none (some (i:Int))
 have h2:=ZId (ds:=ds) (some ((i:Int)+1)) none
 refine ZH7 (show _+1<=1000 by omega) ?_
 and_intros
 refine ZH7 (by rw [List.length_append]; show _+1+_<=1000; omega) ?_
 and_intros
 have e:=ZPT (d:=d) hi
 rw [show ZCc ds none (some (i:Int)) ++ (λ ds=>d :: ds) [] ++ ZCc ds (some ((i:Int)+1)) none=ds.set i d from e]
 exact q
theorem ZGA {ts:List (Int × Int)} {i:Nat} {n:Int} {g:G} {P:W->G->Prop} (hi:i < ts.length) (hc : 0 < (ts.getD i (0,0)).1/\(ts.getD i (0,0)).1 < 2 ^ 60) (q:P (.dat (.int (ZDl (ts.getD i (0,0)) n))) g):EvP (ZBF [.dat (Zw ts),.dat (.int (i:Int)),.dat (.int n)] g) P:=by
 refine ZI9 ?_
 and_intros
 refine ZA1 (Zx (a:=(0,0)) hi) ?_
 and_intros
 unfold ZDl at q
 refine ⟨λ h=>?_,λ h=>?_⟩
 ·rw [if_pos (of_decide_eq_true h)] at q
  and_intros
  exact q
 ·rw [if_neg (of_decide_eq_false h)] at q
  and_intros
  refine ZP5 hc.1 (by omega) ?_
  and_intros
  exact q
theorem ZDw {ss:List Str} {s:Str}:((ss.map PyData.str).any λ y=>y.eqv (.str s))=ZEI ss s:=by
 unfold ZEI inV
 induction ss with
 | nil=>rfl
 | cons a r ih =>
  rw [List.map_cons,List.any_cons,ih,List.map_cons,List.any_cons]
  rfl
theorem ZDv {ss:List Str} (h:ss.Sublist ZCS):PyData.canLayAll0 (ss.map .str)=true:=by
 have h2:∀ s ∈ ss,ok0 (.str s)=true:=λ s hs=>ok7 s (h.mem hs)
 clear h
 induction ss with
 | nil=>rfl
 | cons a r ih =>
  have h3:=h2 a (List.mem_cons_self ..)
  unfold ok0 at h3
  rw [Bool.and_eq_true] at h3
  show (PyData.canLay0 (.str a) && PyData.canLayAll0 (r.map .str))=true
  rw [h3.1,ih λ s hs=>h2 s (List.mem_cons_of_mem _ hs)]
  rfl
theorem ZBQ {g:G} {c c':Cell}:(g ++ [c]).set g.length c'=g ++ [c']:=by
 rw [List.set_append_right _ _ (Nat.le_refl _),Nat.sub_self]
 rfl
theorem ZRQ {r:Ru} {ts:List (Int × Int)} {i:Nat} {n y:Int} {g:G} {P:W->G->Prop} (hcl:r.cl.Sublist ZCS) (hi:i < ts.length) (h8:ts.length<=8) (hck:∀ c ∈ ts,ZL2 c) (q:P (.ref g.length) (g ++ [.pl ((ZB0 r.cl i y (ZDl (ts.getD i (0,0)) n % ((ts.length:Nat):Int))).map .int)])):EvP (ZAx [.dat (ruD r),.dat (Zw ts),.dat (.int n),.dat (.int (i:Int)),.dat (.int y)] g) P:=by
 have hc:=hck _ (ZGC (d:=(0,0)) hi)
 refine ZHD ?_
 and_intros
 refine ZDr (by rw [ZDv hcl]; decide +kernel) ?_
 rw [ZDw]
 generalize hfar:ZDl (ts.getD i (0,0)) n % ((ts.length:Nat):Int)=far at *
 and_intros
 refine ⟨λ ho=>?_,λ ho=>?_⟩
 ·and_intros
  refine ⟨_,ZAS,by show (1:Nat) < 1000; decide,?_⟩
  rw [ZBQ]
  and_intros
  refine ZGA hi ⟨by have:=hc.1; omega,by have:=hc.2.1; omega⟩ ?_
  and_intros
  rw [List.length_map]
  refine ZFp (by omega) ?_
  rw [hfar]
  and_intros
  refine ZDr (by rw [ZDv hcl]; decide +kernel) ?_
  rw [ZDw]
  and_intros
  refine ⟨λ ha=>?_,λ ha=>?_⟩
  ·and_intros
   rw [Zb]
   refine ⟨λ hn=>?_,λ hn=>?_⟩
   ·have hn : ¬ far=(i:Int):=by simpa using hn
    and_intros
    refine ⟨_,ZAS,by show (2:Nat) < 1000; decide,?_⟩
    rw [ZBQ]
    and_intros
    rw [show ZB0 r.cl i y far=[y,(i:Int)] ++ [far] by unfold ZB0; rw [if_pos ho,if_pos ⟨ha,hn⟩]] at q
    exact q
   ·have hn:far=(i:Int):=by simpa using hn
    and_intros
    rw [show ZB0 r.cl i y far=[y,(i:Int)] by unfold ZB0; rw [if_pos ho,if_neg (λ z=>z.2 hn)]; rfl] at q
    exact q
  ·rw [show ZB0 r.cl i y far=[y,(i:Int)] by unfold ZB0; rw [if_pos ho,if_neg (λ z=>by rw [ha] at z; cases z.1)]; rfl] at q
   and_intros
   refine bF ?_
   and_intros
   exact q
 ·skip
  and_intros
  refine ZGA hi ⟨by have:=hc.1; omega,by have:=hc.2.1; omega⟩ ?_
  and_intros
  rw [List.length_map]
  refine ZFp (by omega) ?_
  rw [hfar]
  and_intros
  refine ZDr (by rw [ZDv hcl]; decide +kernel) ?_
  rw [ZDw]
  and_intros
  refine ⟨λ ha=>?_,λ ha=>?_⟩
  ·and_intros
   rw [Zb]
   refine ⟨λ hn=>?_,λ hn=>?_⟩
   ·have hn : ¬ far=(i:Int):=by simpa using hn
    and_intros
    refine ⟨_,ZAS,by show (1:Nat) < 1000; decide,?_⟩
    rw [ZBQ]
    and_intros
    rw [show ZB0 r.cl i y far=[y] ++ [far] by unfold ZB0; rw [if_neg (by rw [ho]; exact Bool.false_ne_true),if_pos ⟨ha,hn⟩]] at q
    exact q
   ·have hn:far=(i:Int):=by simpa using hn
    and_intros
    rw [show ZB0 r.cl i y far=[y] by unfold ZB0; rw [if_neg (by rw [ho]; exact Bool.false_ne_true),if_neg (λ z=>z.2 hn)]; rfl] at q
    exact q
  ·rw [show ZB0 r.cl i y far=[y] by unfold ZB0; rw [if_neg (by rw [ho]; exact Bool.false_ne_true),if_neg (λ z=>by rw [ha] at z; cases z.1)]; rfl] at q
   and_intros
   refine bF ?_
   and_intros
   exact q
theorem y_inR {x:PyData} {n:Nat} {ys:List PyData} {g:G} {P:W->G->Prop} (hn:g[n]? = some (.pl ys)) (h:(ok0 x && PyData.canLayAll0 ys)=true) (q:P (.dat (.bool (ys.any λ y=>y.eqv x))) g):EvP (ZDW (.dat x) (.ref n) g) P:=by
 refine ⟨_,_,?_,q⟩
 show ((lk g n).bind λ ys=>if (ok0 x && PyData.canLayAll0 ys)=true then some (W.dat (.bool (ys.any λ y=>y.eqv x)),g) else none)=_
 rw [ZJY hn]
 exact if_pos h
theorem ZQQ {x:PyData} {n:Nat} {ys:List PyData} {g:G} {P:W->G->Prop} (hn:g[n]? = some (.pl ys)) (h:(ok0 x && PyData.canLayAll0 ys)=true) (q:P (.dat (.bool (!ys.any λ y=>y.eqv x))) g):EvP (ZEE (.dat x) (.ref n) g) P:=by
 refine ⟨_,_,?_,q⟩
 show ((lk g n).bind λ ys=>if (ok0 x && PyData.canLayAll0 ys)=true then some (W.dat (.bool !(ys.any λ y=>y.eqv x)),g) else none)=_
 rw [ZJY hn]
 exact if_pos h
theorem ZJ1 {α : Type} {enc : α->PyData} {d : α}:∀ (L:List α) (k:Nat),ZCr k (L.map enc)=(List.range L.length).map λ j:Nat=>PyData.tuple [.int ((k+j:Nat):Int),enc (L.getD j d)]
 | [],_=>rfl
 | a :: L,k=>by
  rw [List.map_cons,ZCr,ZJ1 L (k+1),List.length_cons,List.range_succ_eq_map,List.map_cons,List.map_map]
  congr 1
  refine List.map_congr_left λ j _=>?_
  show PyData.tuple [.int ((k+1+j:Nat):Int),enc (L.getD j d)]=.tuple [.int ((k+(j+1):Nat):Int),enc ((a :: L).getD (j+1) d)]
  rw [show k+1+j=k+(j+1) by omega]
  rfl
theorem ZFg {α : Type} {enc : α->PyData} (d : α) (L:List α):ZCr 0 (L.map enc)=(List.range L.length).map λ j:Nat=>PyData.tuple [.int (j:Int),enc (L.getD j d)]:=by
 rw [ZJ1 (d:=d)]
 refine List.map_congr_left λ j _=>?_
 rw [Nat.zero_add]
theorem ZRR {ks:List (Int × Int)} {g:G} {P:W->G->Prop} (hn:ks.Nodup) (hl:ks.length<=6) (q:P (.dat (.list ((ZCx ks).map Zj))) g):EvP (f1 ZMi [.dat (.list (ks.map Zj))] g) P:=by
 refine ZQh ?_ q
 show ZMi (.dat (.list (ks.map Zj))) g=_
 unfold ZMi
 show (match ZBg (ks.map Zj) with | some ns=>_ | none=>_)=_
 have hp:∀ ks:List (Int × Int),L2.pairsOf (ks.map Zj)=some ks:=by
  intro ks
  induction ks with
  | nil=>rfl
  | cons k ks ih=>rw [List.map_cons,L2.pairsOf,ih]; rfl
 cases ks with
 | nil=>simp [ZBg,ZNi,ZCx,List.mergeSort_nil]
 | cons k ks =>
  show ((L2.pairsOf ((k :: ks).map Zj)).bind _)=_
  rw [hp]
  exact if_pos ⟨hn,hl⟩
theorem ZJm {ds:List PyData} {c:Int} (h : 0<=c):ZCc ds none (some c)=ds.take c.toNat:=by
 have h1:HT.sIx ds.length ds.length (some c)=min c.toNat ds.length:=by
  show (if c < 0 then (c+(ds.length:Int)).toNat else min c.toNat ds.length)=_
  rw [if_neg (by omega)]
 have h2:HT.sIx ds.length 0 none=0:=rfl
 unfold ZCc
 rw [h1,h2,List.drop_zero,Nat.sub_zero]
 by_cases z:c.toNat<=ds.length
 ·rw [Nat.min_eq_left z]
 ·rw [List.take_of_length_le (by omega),List.take_of_length_le (by omega)]
theorem ZPX {r:Ru} {told due:List Int} {x:Int} {g:G} {P:W->G->Prop} (h0 : 0<=r.c) (h8:told.length<=8) (h6:(ZAb told r.t x due).length<=6) {dn:Nat} (hd:g[dn]? = some (.pl (due.map .int))) (q:P (.dat (.list ((ZCv r told x due).map .int))) g):EvP (ZAj [.dat (ruD r),.dat (Zl told),.dat (.int x),.ref dn] g) P:=by
 refine ZGc ?_
 and_intros
 refine ⟨by rw [ZBR,List.length_map]; omega,?_⟩
 refine ZEt (λ j:Nat=>PyData.tuple [.int (j:Int),.int (told.getD j 0)]) (λ j:Nat=>decide (told.getD j 0 < r.t) && (!decide ((j:Int)=x) && !due.contains (j:Int))) (λ j:Nat=>PyData.tuple [.int (told.getD j 0),.int (j:Int)]) (List.range told.length) (ZFg 0 told) trivial (λ j hj=>?_) ?_
 ·refine ⟨_,rfl,?_⟩
  and_intros
  refine ⟨λ h1=>?_,λ h1=>⟨by rw [h1]; rfl,rfl,λ z=>by rw [h1] at z; cases z⟩⟩
  and_intros
  rw [Zb]
  refine ⟨λ h2=>?_,λ h2=>⟨by rw [h1,h2]; rfl,rfl,λ z=>by rw [h1,h2] at z; cases z⟩⟩
  and_intros
  refine ZQQ hd (by rw [ZB8]; rfl) ?_
  rw [L2.any_ints]
  and_intros
  refine ⟨by rw [h1,h2]; rfl,rfl,λ _=>?_⟩
  and_intros
  exact ⟨rfl,rfl⟩
 have hfr:((List.range told.length).filter (λ j:Nat=>decide (told.getD j 0 < r.t) && (!decide ((j:Int)=x) && !due.contains (j:Int)))).map (λ j:Nat=>PyData.tuple [.int (told.getD j 0),.int (j:Int)])=(ZAb told r.t x due).map Zj:=by
  unfold ZAb ZD9
  rw [List.map_map]
  rfl
 rw [hfr]
 and_intros
 refine ZRR (ZFA ..) h6 ?_
 and_intros
 rw [ZJm h0,← List.map_take]
 have hsl:(ZCx (ZAb told r.t x due)).length<=6:=by
  unfold ZCx
  rw [(List.mergeSort_perm _ _).length_eq]
  exact h6
 refine ⟨by rw [List.length_map,List.length_take]; omega,?_⟩
 refine ZBC Zj (λ p:Int × Int=>PyData.int p.2) _ rfl trivial (λ p _=>⟨_,rfl,?_⟩) ?_
 ·and_intros
  exact ⟨rfl,rfl⟩
 have e:((ZCx (ZAb told r.t x due)).take r.c.toNat).map (λ p:Int × Int=>PyData.int p.2)=(ZCv r told x due).map .int:=by
  unfold ZCv
  rw [List.map_map]
  rfl
 rw [e]
 and_intros
 exact q
theorem ZMF {r:Ru} {told due:List Int} {x k:Int} (h:k ∈ ZCv r told x due) : 0<=k/\k.toNat < told.length:=by
 unfold ZCv at h
 obtain ⟨p,hp,rfl⟩:=List.mem_map.mp h
 exact ZLz ((List.mergeSort_perm _ _).mem_iff.mp (List.mem_of_mem_take hp))
theorem ZKx {r:Ru} {ts:List (Int × Int)} {tn:Int} {hs:List Hs} {h:Hs} {i j:Nat} {g:G} {P:W->G->Prop} (hcl:r.cl.Sublist ZCS) (h0 : 0<=r.c) (hi:i < ts.length) (hj:j < ts.length) (hne:j ≠ i) (h8:ts.length<=8) (hck:∀ c ∈ ts,ZL2 c) (hh:hs[i]? = some h) (hbl:h.2.1.length=ts.length) (htl:h.2.2.1.length=ts.length)
  (q:∀ far news,far=ZDl (ts.getD i (0,0)) tn % ((ts.length:Nat):Int)->news=ZCv r h.2.2.1 i (ZB0 r.cl i j far)->∀ g',Ex g g'->P (.dat (.tuple [ZH3 (ZB1 h.2.1 (ZB0 r.cl i j far) news ts.length),Zl (ZA7 h.2.2.1 news)])) g'):EvP (ZBd [.dat (ruD r),.dat (Zw ts),.dat (Zq tn hs),.dat (.int (i:Int)),.dat (.int (j:Int))] g) P:=by
 obtain ⟨up,book,told,timers⟩:=h
 refine ZI2 ?_
 and_intros
 refine ZA1 (ZIR hh) ?_
 and_intros
 refine ZRQ hcl hi h8 hck ?_
 and_intros
 have q:=q _ _ rfl rfl _ (Ex.refl.app (c:=.pl ((ZB0 r.cl (i:Int) (j:Int) (ZDl (ts.getD i (0,0)) tn % ((ts.length:Nat):Int))).map .int)))
 have hd:(g ++ [Cell.pl ((ZB0 r.cl (i:Int) (j:Int) (ZDl (ts.getD i (0,0)) tn % ((ts.length:Nat):Int))).map .int)])[g.length]? = some (.pl ((ZB0 r.cl (i:Int) (j:Int) (ZDl (ts.getD i (0,0)) tn % ((ts.length:Nat):Int))).map .int)):=ZAS
 generalize hgg:g ++ [Cell.pl ((ZB0 r.cl (i:Int) (j:Int) (ZDl (ts.getD i (0,0)) tn % ((ts.length:Nat):Int))).map .int)]=gg at *
 clear hgg
 generalize hfar:ZDl (ts.getD i (0,0)) tn % ((ts.length:Nat):Int)=far at *
 have htl:told.length=ts.length:=htl
 have hbl:book.length=ts.length:=hbl
 have h6:(ZAb told r.t i (ZB0 r.cl i j far)).length<=6:=by
  have:=ZLx (told:=told) (most:=r.t) (x:=i) (y:=j) (due:=ZB0 r.cl i j far) (i:=i) (j:=j) rfl rfl (by rw [htl]; exact hi) (by rw [htl]; exact hj) hne (by unfold ZB0; exact List.mem_append_left _ (List.mem_cons_self ..))
  omega
 refine ZPX h0 (by omega) h6 hd ?_
 have hmem:∀ k ∈ ZCv r told i (ZB0 r.cl i j far),0<=k/\k.toNat < told.length:=λ k=>ZMF
 generalize ZCv r told i (ZB0 r.cl i j far)=news at *
 generalize ZB0 r.cl i j far=due at *
 and_intros
 refine ⟨by rw [ZBR,List.length_map]; omega,?_⟩
 refine ZEt (λ k:Nat=>PyData.tuple [.int (k:Int),Zj (book.getD k (0,0))]) (λ k:Nat=>due.contains (k:Int) || news.contains (k:Int)) (λ k:Nat=>ZK6 (k,book.getD k (0,0))) (List.range book.length) (ZFg (0,0) book) trivial (λ k hk=>?_) ?_
 ·refine ⟨_,rfl,?_⟩
  and_intros
  refine y_inR hd (by rw [ZB8]; rfl) ?_
  rw [L2.any_ints]
  and_intros
  refine ⟨λ h1=>⟨by rw [h1]; rfl,rfl,λ _=>?_⟩,λ h1=>?_⟩
  ·and_intros
   exact ⟨rfl,rfl⟩
  and_intros
  refine y_inL (by rw [ZB8]; rfl) ?_
  rw [L2.any_ints]
  and_intros
  refine ⟨by rw [h1]; rfl,rfl,λ _=>?_⟩
  and_intros
  exact ⟨rfl,rfl⟩
 have hnt:((List.range book.length).filter (λ k:Nat=>due.contains (k:Int) || news.contains (k:Int))).map (λ k:Nat=>ZK6 (k,book.getD k (0,0)))=(ZB1 book due news ts.length).map ZK6:=by
  unfold ZB1
  rw [List.map_map,hbl]
  rfl
 rw [hnt]
 and_intros
 refine ZB7 (λ n sd gx=>gx=gg/\∃ z,sd=[some (.dat (ruD r)),some (.dat (Zw ts)),some (.dat (Zq tn hs)),some (.dat (.int (i:Int))),some (.dat (.int (j:Int))),some (.dat (.int tn)),some (.dat (.tuple (hs.map Zh))),some (.dat (.int up)),some (.dat (Zw book)),some (.dat (Zl (ZA7 told (news.take n)))),some (.dat (Zl timers)),some (.ref g.length),some (.dat (.list (news.map .int))),some (.dat (ZH3 (ZB1 book due news ts.length))),z]) ⟨rfl,_,rfl⟩ ?_ ?_
 ·rintro n x sd gx hx ⟨rfl,z,rfl⟩
  rw [List.getElem?_map] at hx
  obtain ⟨k,hk,rfl⟩:=mp hx
  obtain ⟨k0,k1⟩:=hmem k (List.mem_of_getElem? hk)
  obtain ⟨m,rfl⟩:∃ m:Nat,k=(m:Int):=⟨k.toNat,by omega⟩
  have hm:m < (ZA7 told (news.take n)).length:=by rw [ZCW]; omega
  refine ⟨_,rfl,?_⟩
  and_intros
  refine ZA1 (Zx (a:=(0:Int)) hm) ?_
  and_intros
  refine ZAI (by rw [List.length_map]; exact hm) (by rw [List.length_map,ZCW]; omega) ?_
  and_intros
  refine ⟨trivial,rfl,some (.dat (.int (m:Int))),?_⟩
  have e:(((ZA7 told (news.take n)).map PyData.int).set m (.int ((ZA7 told (news.take n)).getD m 0+1)))=(ZA7 told (news.take (n+1))).map .int:=by
   rw [List.take_add_one,hk]
   show _=(ZA7 told (news.take n ++ [(m:Int)])).map PyData.int
   rw [ZKp,List.map_set]
   rfl
  rw [e]
  rfl
 ·rintro sd gx ⟨rfl,z,rfl⟩
  rw [List.length_map,List.take_length]
  and_intros
  exact q
theorem ZJ3 {a b:Int × Int} {g:G} {P:W->G->Prop} (q:P (.dat (.bool (gtW a b))) g):EvP (ZCw [.dat (Zj a),.dat (Zj b)] g) P:=by
 refine ZMv ?_
 and_intros
 exact q
theorem ZLY {cl:List Str} {s:Str} {g:G} {P:W->G->Prop} (hcl:cl.Sublist ZCS) (hs:ok0 (.str s)=true) (q:P (.dat (.bool (ZEI cl s))) g):EvP (ZDW (.dat (.str s)) (.dat (clD cl)) g) P:=by
 refine ZDr (by rw [ZDv hcl,hs]; rfl) ?_
 rw [ZDw]
 exact q
theorem ZQ0 {cl:List Str} {s:Str} {g:G} {P:W->G->Prop} (hcl:cl.Sublist ZCS) (hs:ok0 (.str s)=true) (q:P (.dat (.bool (!ZEI cl s))) g):EvP (ZEE (.dat (.str s)) (.dat (clD cl)) g) P:=by
 refine ZR2 (by rw [ZDv hcl,hs]; rfl) ?_
 rw [ZDw]
 exact q
theorem ZN7 {r:Ru} {old w:Int × Int} {g:G} {P:W->G->Prop} (hcl:r.cl.Sublist ZCS) (q:P (.dat (.bool (ZIV r.cl old w))) g):EvP (ZBB [.dat (ruD r),.dat (Zj old),.dat (Zj w)] g) P:=by
 refine ZIc ?_
 unfold ZIV at q
 and_intros
 refine ZLY hcl (by decide +kernel) ?_
 and_intros
 refine ⟨λ h=>?_,λ h=>?_⟩
 ·rw [if_pos h] at q
  and_intros
  refine ZJ3 ?_
  and_intros
  exact q
 ·rw [if_neg (by rw [h]; exact Bool.false_ne_true)] at q
  and_intros
  have e:=ZOC w old
  have e':(!(Zj w).eqv (Zj old)) = !decide (w=old):=by rw [e]
  rw [← e'] at q
  exact q
theorem ZKO {r:Ru} {h:Hs} {y n:Nat} {w:Int × Int} {g:G} {P:W->G->Prop} (hcl:r.cl.Sublist ZCS) (hl:HL n h) (hy:y < n) (hn:n<=8) (q:P (.dat (Zh (ZIC r.cl h y w))) g):EvP (ZBm [.dat (ruD r),.dat (Zh h),.dat (.int (y:Int)),.dat (Zj w)] g) P:=by
 obtain ⟨up,bk,td,tm⟩:=h
 have hbl:bk.length=n:=hl.bl
 have htl:td.length=n:=hl.tl
 show EvP (ZBm [.dat (ruD r),.dat (.tuple [.int up,Zw bk,Zl td,Zl tm]),.dat (.int (y:Int)),.dat (Zj w)] g) P
 refine ZKP ?_
 unfold ZIC at q
 have q:P (.dat (Zh (if up=1/\ZEI r.cl "refute" = true/\gtW w (bk.getD y (0,0))=true then (up,bk.set y (w.1+1,0),td.set y 0,tm) else (up,bk,td,tm)))) g:=q
 and_intros
 rw [Zb]
 refine ⟨λ h1=>?_,λ h1=>?_⟩
 ·have h1:up=1:=of_decide_eq_true h1
  and_intros
  refine ZLY hcl (by decide +kernel) ?_
  and_intros
  refine ⟨λ h2=>?_,λ h2=>?_⟩
  ·and_intros
   refine ZA1 (Zx (a:=(0,0)) (by omega)) ?_
   and_intros
   refine ZJ3 ?_
   and_intros
   refine ⟨λ h3=>?_,λ h3=>?_⟩
   ·rw [if_pos ⟨h1,h2,h3⟩] at q
    and_intros
    refine ZAI (by rw [List.length_map]; omega) (by rw [List.length_map]; omega) ?_
    and_intros
    refine ZAI (by rw [List.length_map]; omega) (by rw [List.length_map]; omega) ?_
    and_intros
    have e1:(bk.map Zj).set y (.tuple [.int (w.1+1),.int 0])=(bk.set y (w.1+1,0)).map Zj:=by rw [List.map_set]; rfl
    have e2:(td.map PyData.int).set y (.int 0)=(td.set y 0).map .int:=by rw [List.map_set]
    rw [show (λ ds=>PyData.int (w.1+1) :: ds) ((λ ds=>PyData.int 0 :: ds) [])=[PyData.int (w.1+1),PyData.int 0] from rfl,e1,e2]
    exact q
   ·rw [if_neg (λ z=>by rw [h3] at z; cases z.2.2)] at q
    and_intros
    exact q
  ·rw [if_neg (λ z=>by rw [h2] at z; cases z.2.1)] at q
   and_intros
   refine bF ?_
   and_intros
   exact q
 ·rw [if_neg (λ z=>of_decide_eq_false h1 z.1)] at q
  and_intros
  refine bF ?_
  and_intros
  exact q
theorem ZNU {r:Ru} {h:Hs} {o n:Nat} {w:Int × Int} {g:G} {P:W->G->Prop} (hcl:r.cl.Sublist ZCS) (hl:HL n h) (hy:o < n) (hn:n<=8) (q:P (.dat (Zh (ZIW r.cl h o w))) g):EvP (ZCp [.dat (ruD r),.dat (Zh h),.dat (.int (o:Int)),.dat (Zj w)] g) P:=by
 obtain ⟨up,bk,td,tm⟩:=h
 have hbl:bk.length=n:=hl.bl
 have htl:td.length=n:=hl.tl
 have hml:tm.length=n:=hl.ml
 show EvP (ZCp [.dat (ruD r),.dat (.tuple [.int up,Zw bk,Zl td,Zl tm]),.dat (.int (o:Int)),.dat (Zj w)] g) P
 refine ZMZ ?_
 unfold ZIW at q
 have q:P (.dat (Zh (if ZIV r.cl (bk.getD o (0,0)) w=true then (up,bk.set o w,td.set o 0,if w.2=1 then tm else tm.set o 0) else (up,bk,td,tm)))) g:=q
 and_intros
 refine ZA1 (Zx (a:=(0,0)) (by omega)) ?_
 and_intros
 refine ZN7 hcl ?_
 and_intros
 have e1:(bk.map Zj).set o (Zj w)=(bk.set o w).map Zj:=by rw [List.map_set]
 have e2:(td.map PyData.int).set o (.int 0)=(td.set o 0).map .int:=by rw [List.map_set]
 have e3:(tm.map PyData.int).set o (.int 0)=(tm.set o 0).map .int:=by rw [List.map_set]
 refine ⟨λ h1=>?_,λ h1=>?_⟩
 ·rw [Bool.not_eq_true'] at h1
  rw [if_neg (by rw [h1]; exact Bool.false_ne_true)] at q
  and_intros
  exact q
 ·rw [Bool.not_eq_false'] at h1
  rw [if_pos h1] at q
  and_intros
  rw [Zb]
  refine ⟨λ h2=>?_,λ h2=>?_⟩
  ·have h2 : ¬ w.2=1:=by simpa using h2
   rw [if_neg h2] at q
   and_intros
   refine ZAI (by rw [List.length_map]; omega) (by rw [List.length_map]; omega) ?_
   and_intros
   refine ZAI (by rw [List.length_map]; omega) (by rw [List.length_map]; omega) ?_
   and_intros
   refine ZAI (by rw [List.length_map]; omega) (by rw [List.length_map]; omega) ?_
   and_intros
   rw [e1,e2,e3]
   exact q
  ·have h2:w.2=1:=by simpa using h2
   rw [if_pos h2] at q
   and_intros
   refine ZAI (by rw [List.length_map]; omega) (by rw [List.length_map]; omega) ?_
   and_intros
   refine ZAI (by rw [List.length_map]; omega) (by rw [List.length_map]; omega) ?_
   and_intros
   rw [e1,e2]
   exact q
theorem ZN6 {r:Ru} {h:Hs} {y n:Nat} {ns:List (Nat × (Int × Int))} {g:G} {P:W->G->Prop} (hcl:r.cl.Sublist ZCS) (hl:HL n h) (hy:y < n) (hn:n<=8) (hns:∀ x ∈ ns,x.1 < n) (q:P (.dat (Zh (ZAR r.cl y h ns))) g):EvP (ZDQ [.dat (ruD r),.dat (Zh h),.dat (.int (y:Int)),.dat (ZH3 ns)] g) P:=by
 refine ZNN ?_
 and_intros
 refine ZB7 (λ i sd gx=>gx=g/\∃ z4 z5,sd=[some (.dat (ruD r)),some (.dat (Zh (ZAR r.cl y h (ns.take i)))),some (.dat (.int (y:Int))),some (.dat (ZH3 ns)),z4,z5]) ⟨rfl,_,_,rfl⟩ ?_ ?_
 ·rintro i x sd gx hx ⟨rfl,z4,z5,rfl⟩
  rw [List.getElem?_map] at hx
  obtain ⟨k,hk,rfl⟩:=mp hx
  have hkn:=hns k (List.mem_of_getElem? hk)
  have hL:=ZGj (cl:=r.cl) (y:=y) (ns:=ns.take i) hl
  have e:=ZJi (cl:=r.cl) (y:=y) (h:=h) hk
  refine ⟨_,rfl,?_⟩
  and_intros
  rw [Zb]
  refine ⟨λ h1=>?_,λ h1=>?_⟩
  ·have h1:k.1=y:=by have:=of_decide_eq_true h1; omega
   and_intros
   refine ZKO hcl hL hy hn ?_
   and_intros
   refine ⟨trivial,rfl,some (.dat (.int (k.1:Int))),some (.dat (Zj k.2)),?_⟩
   rw [e]
   unfold ZAz
   rw [if_pos h1]
   rfl
  ·have h1 : ¬ k.1=y:=by have:=of_decide_eq_false h1; omega
   and_intros
   refine ZNU hcl hL hkn hn ?_
   and_intros
   refine ⟨trivial,rfl,some (.dat (.int (k.1:Int))),some (.dat (Zj k.2)),?_⟩
   rw [e]
   unfold ZAz
   rw [if_neg h1]
   rfl
 ·rintro sd gx ⟨rfl,z4,z5,rfl⟩
  rw [List.length_map,List.take_length]
  and_intros
  exact q
theorem ZIa {tn:Int} {hs:List Hs} {h:Hs} {i:Nat} {g:G} {P:W->G->Prop} (hi:i < hs.length) (hn:hs.length<=8) (q:P (.dat (Zq tn (hs.set i h))) g):EvP (Z4 [.dat (Zq tn hs),.dat (.int (i:Int)),.dat (Zh h)] g) P:=by
 refine ZHU ?_
 and_intros
 refine ZAI (by rw [List.length_map]; omega) (by rw [List.length_map]; omega) ?_
 and_intros
 rw [← List.map_set]
 exact q
structure EnOk (e:En):Prop where
 cl:e.r.cl.Sublist ZCS
 ru:RuOk e.r
 n2 : 2<=e.ts.length
 n8:e.ts.length<=8
 ck:∀ c ∈ e.ts,ZL2 c
theorem ZL1 {book:List (Int × Int)} {due news:List Int} {m:Nat}:∀ x ∈ ZB1 book due news m,x.1 < m:=λ x hx=>by
 unfold ZB1 at hx
 obtain ⟨j,hj,rfl⟩:=List.mem_map.mp hx
 exact List.mem_range.mp (List.mem_filter.mp hj).1
theorem ZMK {e:En} {hs:List Hs} {x y:Nat} {g:G} {P:W->G->Prop} (ok:EnOk e) (w:HsL e.ts.length hs) (hx:x < e.ts.length) (hy:y < e.ts.length) (hne:y ≠ x)
  (q:∀ g',Ex g g'->P (.dat (.tuple [Zq e.tn (ZCA e x y hs),if (hs.getD y H0).1=0 then .none else Zq e.tn (ZDy e x y hs)])) g'):EvP (ZCh [.dat (ruD e.r),.dat (Zw e.ts),.dat (Zq e.tn hs),.dat (.int (x:Int)),.dat (.int (y:Int))] g) P:=by
 have hxl:x < hs.length:=by rw [w.len]; exact hx
 have hyl:y < hs.length:=by rw [w.len]; exact hy
 have wx:=w.get hx
 have wy:=w.get hy
 have h8:=ok.n8
 have ex:hs[x]? = some (hs.getD x H0):=by rw [List.getD_eq_getElem?_getD,List.getElem?_eq_getElem hxl]; rfl
 refine ZMD ?_
 and_intros
 refine ZKx (h:=hs.getD x H0) ok.cl ok.ru.c.1 hx hy hne h8 ok.ck ex wx.bl wx.tl λ far news hfar hnews g' E=>?_
 have q:=q g' E
 unfold ZDy ZCA at q
 rw [show ZFo e (hs.getD x H0) x y=news by unfold ZFo ZG1; rw [hnews,hfar],show ZG1 e x y=ZB0 e.r.cl x y far by unfold ZG1; rw [hfar]] at q
 have wl:=w.len
 generalize hs.getD x H0=h0 at *
 obtain ⟨up,bk,td,tm⟩:=h0
 and_intros
 refine ZA1 (ZIR ex) ?_
 and_intros
 refine ZAI (by rw [List.length_map]; exact hxl) (by rw [List.length_map]; omega) ?_
 and_intros
 have e1:(hs.map Zh).set x (.tuple [.int up,Zw bk,Zl (ZA7 td news),Zl tm])=(hs.set x (up,bk,ZA7 td news,tm)).map Zh:=by rw [List.map_set]; rfl
 rw [show (λ ds=>PyData.int up :: ds) ((λ ds=>Zw bk :: ds) ((λ ds=>Zl (ZA7 td news) :: ds) ((λ ds=>Zl tm :: ds) [])))=[PyData.int up,Zw bk,Zl (ZA7 td news),Zl tm] from rfl,e1]
 have wm:HsL e.ts.length (hs.set x (up,bk,ZA7 td news,tm)):=w.set ⟨wx.up,wx.bl,by show (ZA7 td news).length=_; rw [ZCW]; exact wx.tl,wx.ml⟩
 and_intros
 refine ZA1 (Zx (a:=H0) hyl) ?_
 and_intros
 rw [Zb]
 refine ⟨λ h1=>?_,λ h1=>?_⟩
 ·rw [if_pos (of_decide_eq_true h1)] at q
  and_intros
  exact q
 ·rw [if_neg (of_decide_eq_false h1)] at q
  and_intros
  refine ZA1 (Zx (a:=H0) hyl) ?_
  and_intros
  refine ZN6 ok.cl wy hy h8 ZL1 ?_
  and_intros
  refine ZIa (hs:=hs.set x (up,bk,ZA7 td news,tm)) (by rw [List.length_set]; exact hyl) (by rw [List.length_set]; omega) ?_
  and_intros
  exact q
structure RdAt (n m:Nat) (e:En) (R:Rw) (g:G):Prop where
 ob:g[n]? = some (.ob ZZ [.dat (ruD e.r),.dat (Zw e.ts),.dat (Zq e.tn R.hs),.dat (Zl e.lo),.ref m])
 le:g[m]? = some (.pl (R.le.map ltD))
 ne:n ≠ m
structure Fr (n m:Nat) (g g':G):Prop where
 len:g.length<=g'.length
 kp:∀ k,k < g.length->k ≠ n->k ≠ m->g'[k]? = g[k]?
theorem Fr.refl {n m:Nat} {g:G}:Fr n m g g:=⟨Nat.le_refl _,λ _ _ _ _=>rfl⟩
theorem Fr.trans {n m:Nat} {g g1 g2:G} (h:Fr n m g g1) (k:Fr n m g1 g2):Fr n m g g2:=⟨Nat.le_trans h.len k.len,λ i h1 h2 h3=>(k.kp i (Nat.lt_of_lt_of_le h1 h.len) h2 h3).trans (h.kp i h1 h2 h3)⟩
theorem Fr.ex {n m:Nat} {g g':G} (h:Ex g g'):Fr n m g g':=⟨h.len,λ k h1 _ _=>h.kp k h1⟩
theorem Fr.setn {n m:Nat} {g:G} {c:Cell}:Fr n m g (g.set n c):=⟨by rw [List.length_set]; exact Nat.le_refl _,λ k _ h2 _=>List.getElem?_set_ne (Ne.symm h2)⟩
theorem Fr.setm {n m:Nat} {g:G} {c:Cell}:Fr n m g (g.set m c):=⟨by rw [List.length_set]; exact Nat.le_refl _,λ k _ _ h3=>List.getElem?_set_ne (Ne.symm h3)⟩
theorem ZEX {g:G} {n:Nat} {c:Cell} (h:g[n]? = some c):n < g.length:=(List.getElem?_eq_some_iff.mp h).1
theorem RdAt.ex {n m:Nat} {e:En} {R:Rw} {g g':G} (h:RdAt n m e R g) (x:Ex g g'):RdAt n m e R g':=⟨by rw [x.kp _ (ZEX h.ob)]; exact h.ob,by rw [x.kp _ (ZEX h.le)]; exact h.le,h.ne⟩
theorem RdAt.st {n m:Nat} {e:En} {R:Rw} {g:G} {hs:List Hs} (h:RdAt n m e R g):RdAt n m e ⟨hs,R.le⟩ (g.set n (.ob ZZ [.dat (ruD e.r),.dat (Zw e.ts),.dat (Zq e.tn hs),.dat (Zl e.lo),.ref m])):=⟨ZBS (ZEX h.ob),by rw [List.getElem?_set_ne h.ne]; exact h.le,h.ne⟩
theorem RdAt.lt {n m:Nat} {e:En} {R:Rw} {g:G} {L:List Lt} (h:RdAt n m e R g):RdAt n m e ⟨R.hs,L⟩ (g.set m (.pl (L.map ltD))):=⟨by rw [List.getElem?_set_ne (Ne.symm h.ne)]; exact h.ob,ZBS (ZEX h.le),h.ne⟩
theorem ZLW {n m:Nat} {e:En} {R:Rw} {x y:Nat} {g:G} {P:W->G->Prop} (ok:EnOk e) (w:HsL e.ts.length R.hs) (hx:x < e.ts.length) (hy:y < e.ts.length) (hne:x ≠ y) (hl:R.le.length < 1000) (ra:RdAt n m e R g)
  (q:∀ g',RdAt n m e (ZAq e x y R).2 g'->Fr n m g g'->P (.dat (.bool (ZAq e x y R).1)) g'):EvP (Z0 [.ref n,.dat (.int (x:Int)),.dat (.int (y:Int))] g) P:=by
 have ob:=ra.ob
 have le:=ra.le
 refine ZGi ?_
 and_intros
 refine ZQM le ?_
 and_intros
 refine ZDr (by rw [ZB8]; rfl) ?_
 rw [L2.any_ints,List.length_map]
 and_intros
 refine ⟨_,le,by rw [List.length_map]; exact hl,?_⟩
 rw [show R.le.map ltD ++ [PyData.tuple ((λ ds=>PyData.int (x:Int) :: ds) ((λ ds=>PyData.int (y:Int) :: ds) ((λ ds=>PyData.bool (e.lo.contains (R.le.length:Int)) :: ds) [])))]=(R.le ++ [((x:Int),(y:Int),e.lo.contains (R.le.length:Int))]).map ltD by rw [List.map_append]; rfl]
 have r1:=ra.lt (L:=R.le ++ [((x:Int),(y:Int),e.lo.contains (R.le.length:Int))])
 have f1:Fr n m g (g.set m (.pl ((R.le ++ [((x:Int),(y:Int),e.lo.contains (R.le.length:Int))]).map ltD))):=.setm
 generalize g.set m (.pl ((R.le ++ [((x:Int),(y:Int),e.lo.contains (R.le.length:Int))]).map ltD))=g1 at *
 have ob1:=r1.ob
 and_intros
 refine ZMK ok w hx hy (Ne.symm hne) λ g2 E=>?_
 have r2:=r1.ex E
 have f2:=f1.trans (.ex E)
 have ob2:=r2.ob
 unfold ZAq at q
 cases hb:e.lo.contains (R.le.length:Int) with
 | true =>
  rw [if_pos hb] at q
  rw [hb] at r2 ob2
  and_intros
  refine ⟨λ _=>⟨λ _=>?_,(λ z=>by cases z)⟩,(λ z=>by cases z)⟩
  and_intros
  exact q _ (r2.st (hs:=ZCA e x y R.hs)) (f2.trans .setn)
 | false =>
  rw [if_neg (by rw [hb]; exact Bool.false_ne_true)] at q
  rw [hb] at r2 ob2
  by_cases hu:(R.hs.getD y H0).1=0
  ·rw [if_pos hu] at q
   rw [if_pos hu]
   and_intros
   refine bF ?_
   and_intros
   refine bT ?_
   and_intros
   exact q _ (r2.st (hs:=ZCA e x y R.hs)) (f2.trans .setn)
  ·rw [if_neg hu] at q
   rw [if_neg hu]
   and_intros
   refine bF ?_
   and_intros
   refine bF ?_
   and_intros
   exact q _ (r2.st (hs:=ZDy e x y R.hs)) (f2.trans .setn)
theorem ZGn {b:List (Int × Int)} {h:Nat} {g:G} {P:W->G->Prop} (hl:h < b.length) (q:P (.dat (.bool (abF b h))) g):EvP (ZAv [.dat (Zw b),.dat (.int (h:Int))] g) P:=by
 refine ZJG ?_
 and_intros
 refine ZA1 (Zx (a:=(0,0)) hl) ?_
 and_intros
 exact q
theorem ZKi {e:En} {b:List (Int × Int)} {x y:Nat} {g:G} {P:W->G->Prop} (ho : 0<=e.r.o) (h2 : 2<=b.length) (h8:b.length<=8) (q:P (.dat (.list ((ZF9 e b x y).map λ h:Nat=>PyData.int (h:Int)))) g):EvP (ZBy [.dat (ruD e.r),.dat (Zw b),.dat (.int (x:Int)),.dat (.int (y:Int))] g) P:=by
 refine ZKE ?_
 and_intros
 rw [List.length_map]
 refine ZMS ?_
 and_intros
 refine ⟨1,_,rfl,by omega,?_⟩
 refine ⟨by rw [ZA9]; omega,?_⟩
 refine ZBC (λ i:Nat=>PyData.int (1+(i:Int))) (λ i:Nat=>PyData.int (((x+(i+1)) % b.length:Nat):Int)) (List.range ((b.length:Int) - 1).toNat) rfl trivial (λ i hi=>⟨_,by rw [Zu],?_⟩) ?_
 ·and_intros
  refine ZFp (by omega) ?_
  refine ⟨?_,rfl⟩
  rw [show (x:Int)+(1+(i:Int))=((x+(i+1):Nat):Int) by omega]
  rfl
 and_intros
 refine ⟨by rw [List.length_map,List.length_range]; omega,?_⟩
 refine ZEt (λ h:Nat=>PyData.int (h:Int)) (λ h=>!decide (h=y) && abF b h) (λ h:Nat=>PyData.int (h:Int)) ((List.range (b.length - 1)).map λ k=>(x+(k+1)) % b.length) ?_ trivial (λ h hh=>⟨_,by rw [Zu],?_⟩) ?_
 ·rw [List.map_map,show ((b.length:Int) - 1).toNat=b.length - 1 by omega]
  rfl
 ·obtain ⟨k,hk,rfl⟩:=List.mem_map.mp hh
  have hlt:(x+(k+1)) % b.length < b.length:=Nat.mod_lt _ (by omega)
  generalize (x+(k+1)) % b.length=h at *
  and_intros
  rw [Zb,show decide ((h:Int)=(y:Int))=decide (h=y) from decide_eq_decide.mpr ⟨λ z=>by omega,λ z=>by omega⟩]
  refine ⟨λ h1=>?_,λ h1=>⟨by rw [h1]; rfl,rfl,λ z=>by rw [h1] at z; cases z⟩⟩
  and_intros
  refine ZGn hlt ?_
  and_intros
  refine ⟨by rw [h1]; rfl,rfl,λ _=>?_⟩
  and_intros
  exact ⟨rfl,rfl⟩
 and_intros
 rw [ZJm ho,← List.map_take]
 exact q
theorem ZOY {e:En} {hs:List Hs} {a b:Nat} {g:G} {P:W->G->Prop} (ok:EnOk e) (w:HsL e.ts.length hs) (ha:a < e.ts.length) (hb:b < e.ts.length) (q:P (.ref g.length) (g ++ [.pl ((ZBr e hs a b).map wyD)])):EvP (ZER [.dat (ruD e.r),.dat (Zq e.tn hs),.dat (.int (a:Int)),.dat (.int (b:Int))] g) P:=by
 have wa:=w.get ha
 have hal:a < hs.length:=by rw [w.len]; exact ha
 have n2:=ok.n2
 have n8:=ok.n8
 refine ZO2 ?_
 unfold ZBr at q
 and_intros
 refine ZA1 (Zx (a:=H0) hal) ?_
 generalize hs.getD a H0=h at *
 obtain ⟨up,bk,td,tm⟩:=h
 have hbl:bk.length=e.ts.length:=wa.bl
 and_intros
 refine ZLY ok.cl (by decide +kernel) ?_
 and_intros
 refine ⟨λ h1=>?_,λ h1=>?_⟩
 ·and_intros
  refine ZGn (b:=bk) (by omega) ?_
  and_intros
  refine ⟨λ h2=>?_,λ h2=>?_⟩
  ·rw [if_pos (by show (ZEI e.r.cl "others" && abF bk b)=true; rw [h1,h2]; rfl)] at q
   refine ZRU (n:=g.length) rfl ?_
   and_intros
   refine ZKi (b:=bk) ok.ru.o.1 (by omega) (by omega) ?_
   and_intros
   have hl3:=ZHV (e:=e) (book:=bk) (a:=a) (b:=b) ok.ru.o
   refine ⟨by rw [List.length_map]; omega,?_⟩
   refine ZBC (λ h:Nat=>PyData.int (h:Int)) (λ h:Nat=>wyD [(a,h),(h,b),(b,h),(h,a)]) _ rfl trivial (λ h hh=>⟨_,by rw [Zu],?_⟩) ?_
   ·and_intros
    exact ⟨rfl,rfl⟩
   and_intros
   refine ⟨_,ZAS,by rw [List.length_map]; show 1+_<=1000; omega,?_⟩
   rw [ZBQ]
   and_intros
   rw [List.map_cons,List.map_map] at q
   exact q
  ·rw [if_neg (by show ¬ (ZEI e.r.cl "others" && abF bk b)=true; rw [h1,h2]; exact Bool.false_ne_true)] at q
   and_intros
   exact q
 ·rw [if_neg (by show ¬ (ZEI e.r.cl "others" && abF bk b)=true; rw [h1]; exact Bool.false_ne_true)] at q
  and_intros
  refine bF ?_
  and_intros
  exact q
theorem ZNV {n m:Nat} {e:En} {P:W->G->Prop} {xs:List PyData} {wd:W} (ok:EnOk e):∀ (L:List (Nat × Nat)) (R:Rw) (g:G) (z2 z3:Option W),HsL e.ts.length R.hs->(∀ p ∈ L,(p.1 < e.ts.length/\p.2 < e.ts.length)/\p.1 ≠ p.2)->R.le.length+L.length<=1000->RdAt n m e R g ->
  (∀ g',RdAt n m e (ZDO e L R).2 g'->Fr n m g g'->P (.dat (.bool (ZDO e L R).1)) g') ->
  EvS (ZAn none xs (.tp (.cons (.nm 2) (.cons (.nm 3) .nil))) (Zz (ZCB (dB (ZFk ZZ Z0 (ZD 0) (ZC (ZD 2) (ZC (ZD 3) ZK))))) (ZU (dC (.bool false))) dNx) (L.map prD) [some (.ref n),some wd,z2,z3] g) (seqP (ZU (dC (.bool true))) (runP P))
 | [],R,g,z2,z3,w,hp,hl,ra,q=>by
  refine ZES ?_
  and_intros
  exact q g ra .refl
 | p :: L,R,g,z2,z3,w,hp,hl,ra,q=>by
  have hp0:=hp p (List.mem_cons_self ..)
  have ob:=ra.ob
  rw [List.length_cons] at hl
  refine ZDJ rfl ?_
  and_intros
  refine ZLW ok w hp0.1.1 hp0.1.2 hp0.2 (by omega) ra λ g1 r1 f1=>?_
  rw [ZDO] at q
  and_intros
  refine ⟨λ h1=>?_,λ h1=>?_⟩
  ·rw [Bool.not_eq_true'] at h1
   rw [if_neg (by rw [h1]; exact Bool.false_ne_true)] at q
   and_intros
   refine .rt (.rt (.rt ?_))
   exact q g1 r1 f1
  ·rw [Bool.not_eq_false'] at h1
   rw [if_pos h1] at q
   and_intros
   refine .nx trivial ?_
   exact ZNV ok L _ g1 _ _ (ZFB w hp0.1.1 hp0.1.2) (λ p hp2=>hp p (List.mem_cons_of_mem _ hp2)) (by rw [ZFD]; omega) r1 λ g' r' f'=>q g' r' (f1.trans f')
theorem ZKh {n m:Nat} {e:En} {R:Rw} {L:List (Nat × Nat)} {g:G} {P:W->G->Prop} (ok:EnOk e) (w:HsL e.ts.length R.hs) (hp:∀ p ∈ L,(p.1 < e.ts.length/\p.2 < e.ts.length)/\p.1 ≠ p.2) (hl:R.le.length+L.length<=1000) (ra:RdAt n m e R g)
  (q:∀ g',RdAt n m e (ZDO e L R).2 g'->Fr n m g g'->P (.dat (.bool (ZDO e L R).1)) g'):EvP (Z5 [.ref n,.dat (wyD L)] g) P:=by
 refine ZFS ?_
 and_intros
 exact ZNV ok L R g _ _ w hp hl ra q
theorem ZNR {n m k:Nat} {e:En} {P:W->G->Prop} {xs:List PyData} {w1 w2:W} (ok:EnOk e) (hkn:k ≠ n) (hkm:k ≠ m):∀ (L:List (List (Nat × Nat))) (R:Rw) (g:G) (z3:Option W),HsL e.ts.length R.hs->(∀ v ∈ L,∀ p ∈ v,(p.1 < e.ts.length/\p.2 < e.ts.length)/\p.1 ≠ p.2)->R.le.length+(L.map List.length).sum<=1000->RdAt n m e R g->g[k]? = some (.pl xs) ->
  (∀ g',RdAt n m e (ZBX e L R).2 g'->Fr n m g g'->P (.dat (.bool (ZBX e L R).1)) g') ->
  EvS (ZAn (some k) xs (.nm 3) (Zz (dB (dF Z5 (ZC (ZD 0) (ZC (ZD 3) ZK)))) (ZU (dC (.bool true))) dNx) (L.map wyD) [some (.ref n),some w1,some w2,z3] g) (seqP (ZU (dC (.bool false))) (runP P))
 | [],R,g,z3,w,hp,hl,ra,hk,q=>by
  refine ZES ?_
  and_intros
  exact q g ra .refl
 | v :: L,R,g,z3,w,hp,hl,ra,hk,q=>by
  have hp0:=hp v (List.mem_cons_self ..)
  rw [List.map_cons,List.sum_cons] at hl
  refine ZDJ (by rw [Zu]) ?_
  and_intros
  refine ZKh ok w hp0 (by omega) ra λ g1 r1 f1=>?_
  have w1:=ZIh (e:=e) (w:=v) w λ p hp=>(hp0 p hp).1
  rw [ZBX] at q
  and_intros
  refine ⟨λ h1=>?_,λ h1=>?_⟩
  ·rw [if_pos h1] at q
   and_intros
   refine .rt (.rt (.rt ?_))
   exact q g1 r1 f1
  ·rw [if_neg (by rw [h1]; exact Bool.false_ne_true)] at q
   have hk1:g1[k]? = some (.pl xs):=by rw [f1.kp _ (ZEX hk) hkn hkm]; exact hk
   and_intros
   refine .nx hk1 ?_
   exact ZNR ok hkn hkm L _ g1 _ w1.1 (λ v hv=>hp v (List.mem_cons_of_mem _ hv)) (by have:=w1.2; omega) r1 hk1 λ g' r' f'=>q g' r' (f1.trans f')
theorem ZJD {n m:Nat} {e:En} {R:Rw} {a b:Nat} {g:G} {P:W->G->Prop} (ok:EnOk e) (w:HsL e.ts.length R.hs) (ha:a < e.ts.length) (hb:b < e.ts.length) (hab:a ≠ b) (hl:R.le.length+14<=1000) (ra:RdAt n m e R g)
  (q:∀ g',RdAt n m e (ZBX e (ZBr e R.hs a b) R).2 g'->Fr n m g g'->P (.dat (.bool (ZBX e (ZBr e R.hs a b) R).1)) g'):EvP (ZAW [.ref n,.dat (.int (a:Int)),.dat (.int (b:Int))] g) P:=by
 have ob:=ra.ob
 refine ZGm ?_
 and_intros
 refine ZOY ok w ha hb ?_
 refine ZRm ZAS ?_
 have hs:=ZHX (e:=e) (hs:=R.hs) (a:=a) (b:=b) ok.ru.o
 have hln:=ZEX ra.ob
 have hlm:=ZEX ra.le
 exact ZNR ok (by omega) (by omega) _ R _ _ w (ZDG w ha hb hab) (by omega) (ra.ex (Ex.refl.app)) ZAS λ g' r' f'=>q g' r' ((Fr.ex (Ex.refl.app)).trans f')
theorem ZMT {e:En} {hs:List Hs} {a b:Nat} {ans:Bool} {g:G} {P:W->G->Prop} (ok:EnOk e) (w:HsL e.ts.length hs) (ha:a < e.ts.length) (hb:b < e.ts.length) (q:P (.dat (Zq e.tn (ZGJ e a b ans hs))) g):EvP (ZCH [.dat (ruD e.r),.dat (Zq e.tn hs),.dat (.int (a:Int)),.dat (.int (b:Int)),.dat (.bool ans)] g) P:=by
 have wa:=w.get ha
 have hal:a < hs.length:=by rw [w.len]; exact ha
 have n8:=ok.n8
 have hl8:hs.length<=8:=by rw [w.len]; exact n8
 refine ZLo ?_
 unfold ZGJ ZHC at q
 and_intros
 refine ZA1 (Zx (a:=H0) hal) ?_
 generalize hs.getD a H0=h at *
 obtain ⟨up,bk,td,tm⟩:=h
 rw [show Zh (up,bk,td,tm)=.tuple [.int up,Zw bk,Zl td,Zl tm] from rfl]
 have hbl:bk.length=e.ts.length:=wa.bl
 have htl:td.length=e.ts.length:=wa.tl
 have hml:tm.length=e.ts.length:=wa.ml
 have q:P (.dat (Zq e.tn (hs.set a (if ans=true then (up,bk,td,tm.set b 0)
  else if (abF bk b && (!ZEI e.r.cl "wait" || decide (tm.getD b 0=1)))=true then (up,bk.set b ((bk.getD b (0,0)).1,2),td.set b 0,tm.set b 0)
  else if (abF bk b && decide (tm.getD b 0=0))=true then
   (if (bk.getD b (0,0)).2=0 then (up,bk.set b ((bk.getD b (0,0)).1,1),td.set b 0,tm.set b e.r.w) else (up,bk,td,tm.set b e.r.w))
  else if abF bk b=true then (up,bk,td,tm.set b (tm.getD b 0 - 1))
  else (up,bk,td,tm))))) g:=q
 have eb:∀ v:Int × Int,(bk.map Zj).set b (Zj v)=(bk.set b v).map Zj:=λ v=>by rw [List.map_set]
 have et:(td.map PyData.int).set b (.int 0)=(td.set b 0).map .int:=by rw [List.map_set]
 have em:∀ v:Int,(tm.map PyData.int).set b (.int v)=(tm.set b v).map .int:=λ v=>by rw [List.map_set]
 have fin:∀ {P':W->G->Prop} {bk':List (Int × Int)} {td' tm':List Int},P' (.dat (Zq e.tn (hs.set a (up,bk',td',tm')))) g->EvP (Z4 [.dat (Zq e.tn hs),.dat (.int (a:Int)),.dat (.tuple [.int up,Zw bk',Zl td',Zl tm'])] g) P':=λ z=>ZIa hal hl8 z
 have abe:abF bk b=decide ((bk.getD b (0,0)).2 < 2):=rfl
 and_intros
 refine ZA1 (Zx (a:=(0,0)) (by omega)) ?_
 and_intros
 refine ⟨λ h1=>?_,λ h1=>?_⟩
 ·rw [if_pos h1] at q
  and_intros
  refine ZAI (by rw [List.length_map]; omega) (by rw [List.length_map]; omega) ?_
  rw [em]
  and_intros
  refine fin ?_
  and_intros
  exact q
 rw [if_neg (by rw [h1]; exact Bool.false_ne_true)] at q
 and_intros
 refine ⟨λ h2=>?_,λ h2=>?_⟩
 ·have h2':abF bk b=true:=by rw [abe]; exact h2
  rw [h2',Bool.true_and,Bool.true_and] at q
  and_intros
  refine ZQ0 ok.cl (by decide +kernel) ?_
  and_intros
  have gone:∀ {P':W->G->Prop},P' (.dat (Zq e.tn (hs.set a (up,bk.set b ((bk.getD b (0,0)).1,2),td.set b 0,tm.set b 0)))) g->EvP (Z4 [.dat (Zq e.tn hs),.dat (.int (a:Int)),.dat (.tuple [.int up,.tuple ((bk.map Zj).set b (.tuple [.int (bk.getD b (0,0)).1,.int 2])),.tuple ((td.map PyData.int).set b (.int 0)),.tuple ((tm.map PyData.int).set b (.int 0))])] g) P':=λ z=>by
   rw [show PyData.tuple [.int (bk.getD b (0,0)).1,.int 2]=Zj ((bk.getD b (0,0)).1,2) from rfl,eb,et,em]
   exact fin z
  refine ⟨λ h3=>⟨λ _=>?_,(λ z=>by cases z)⟩,λ h3=>?_⟩
  ·rw [if_pos (by rw [h3]; rfl)] at q
   and_intros
   refine ZAI (by rw [List.length_map]; omega) (by rw [List.length_map]; omega) ?_
   and_intros
   refine ZAI (by rw [List.length_map]; omega) (by rw [List.length_map]; omega) ?_
   and_intros
   refine ZAI (by rw [List.length_map]; omega) (by rw [List.length_map]; omega) ?_
   and_intros
   refine ⟨_,_,_,rfl,?_⟩
   and_intros
   refine gone ?_
   and_intros
   exact q
  ·and_intros
   refine ZA1 (Zx (a:=(0:Int)) (by omega)) ?_
   and_intros
   rw [Zb]
   refine ⟨λ h4=>?_,λ h4=>?_⟩
   ·rw [if_pos (by rw [h4]; exact Bool.or_true _)] at q
    and_intros
    refine ZAI (by rw [List.length_map]; omega) (by rw [List.length_map]; omega) ?_
    and_intros
    refine ZAI (by rw [List.length_map]; omega) (by rw [List.length_map]; omega) ?_
    and_intros
    refine ZAI (by rw [List.length_map]; omega) (by rw [List.length_map]; omega) ?_
    and_intros
    refine ⟨_,_,_,rfl,?_⟩
    and_intros
    refine gone ?_
    and_intros
    exact q
   ·rw [if_neg (by rw [h3,h4]; exact Bool.false_ne_true)] at q
    and_intros
    refine ⟨λ _=>?_,(λ z=>by rw [h2] at z; cases z)⟩
    and_intros
    refine ZA1 (Zx (a:=(0:Int)) (by omega)) ?_
    and_intros
    rw [Zb]
    refine ⟨λ h5=>?_,λ h5=>?_⟩
    ·rw [if_pos h5] at q
     and_intros
     rw [Zb]
     refine ⟨λ h6=>?_,λ h6=>?_⟩
     ·rw [if_pos (of_decide_eq_true h6)] at q
      and_intros
      refine ZAI (by rw [List.length_map]; omega) (by rw [List.length_map]; omega) ?_
      and_intros
      refine ZAI (by rw [List.length_map]; omega) (by rw [List.length_map]; omega) ?_
      and_intros
      refine ⟨_,_,rfl,?_⟩
      and_intros
      refine ZAI (by rw [List.length_map]; omega) (by rw [List.length_map]; omega) ?_
      and_intros
      rw [show PyData.tuple ((λ ds=>PyData.int (bk.getD b (0,0)).1 :: ds) ((λ ds=>PyData.int 1 :: ds) []))=Zj ((bk.getD b (0,0)).1,1) from rfl,eb,et,em]
      refine fin ?_
      and_intros
      exact q
     ·rw [if_neg (of_decide_eq_false h6)] at q
      and_intros
      refine ZAI (by rw [List.length_map]; omega) (by rw [List.length_map]; omega) ?_
      and_intros
      rw [em]
      refine fin ?_
      and_intros
      exact q
    ·rw [if_neg (by rw [h5]; exact Bool.false_ne_true),if_pos rfl] at q
     and_intros
     refine ⟨λ _=>?_,(λ z=>by rw [h2] at z; cases z)⟩
     and_intros
     refine ZA1 (Zx (a:=(0:Int)) (by omega)) ?_
     and_intros
     refine ZAI (by rw [List.length_map]; omega) (by rw [List.length_map]; omega) ?_
     and_intros
     rw [em]
     refine fin ?_
     and_intros
     exact q
 ·have h2':abF bk b=false:=by rw [abe]; exact h2
  rw [h2',Bool.false_and,Bool.false_and,if_neg Bool.false_ne_true,if_neg Bool.false_ne_true,if_neg Bool.false_ne_true] at q
  refine bF ?_
  and_intros
  refine ⟨(λ z=>by rw [h2] at z; cases z),λ _=>⟨(λ z=>by cases z),λ _=>?_⟩⟩
  and_intros
  refine ⟨(λ z=>by rw [h2] at z; cases z),λ _=>?_⟩
  and_intros
  refine fin ?_
  and_intros
  exact q
theorem ZLK {e:En} (ok:EnOk e) {a:Nat} (ha:a < e.ts.length) : 0 < (e.ts.getD a (0,0)).1/\(e.ts.getD a (0,0)).1 < 2 ^ 60:=by
 have hc:=ok.ck _ (ZGC (d:=(0,0)) ha)
 exact ⟨by have:=hc.1; omega,by have:=hc.2.1; omega⟩
theorem ZHu {e:En} {a:Nat} {g:G} {P:W->G->Prop} (ok:EnOk e) (ha:a < e.ts.length) (q:P (.dat (.int (tgF e a:Int))) g):EvP (ZCG [.dat (Zw e.ts),.dat (.int (a:Int)),.dat (.int e.tn)] g) P:=by
 have n2:=ok.n2
 refine ZLf ?_
 and_intros
 rw [List.length_map]
 refine ZGA ha (ZLK ok ha) ?_
 and_intros
 refine ZFp (by omega) ?_
 and_intros
 refine ZFp (by omega) ?_
 and_intros
 have e1:((a:Int)+1+(ZDl (e.ts.getD a (0,0)) e.tn - 1) % ((e.ts.length:Int) - 1)) % (e.ts.length:Int)=(tgF e a:Int):=by
  unfold tgF
  rw [Int.toNat_of_nonneg (Int.emod_nonneg _ (by omega))]
 rw [e1]
 exact q
theorem ZIs {a b:Nat}:decide ((a:Int)=(b:Int))=decide (a=b):=decide_eq_decide.mpr ⟨λ z=>by omega,λ z=>by omega⟩
theorem ZNL {e:En} {a:Nat} {g:G} {P:W->G->Prop} (ok:EnOk e) (ha:a < e.ts.length) (q:P (.dat (.list ((ZHQ e a).map λ b:Nat=>PyData.int (b:Int)))) g):EvP (Z9 [.dat (Zw e.ts),.dat (.int e.tn),.dat (.int (a:Int))] g) P:=by
 have n8:=ok.n8
 refine ZEu ?_
 and_intros
 refine ZHu ok ha ?_
 and_intros
 refine ZA2 (j:=e.ts.length) (g1:=g) ?_
 and_intros
 rw [List.length_map]
 refine ⟨by omega,?_⟩
 refine ⟨by rw [ZA9]; omega,?_⟩
 refine ZEt (λ b:Nat=>PyData.int (b:Int)) (λ b=>!decide (b=a) && !decide (b=tgF e a)) (λ b:Nat=>PyData.int (b:Int)) (List.range e.ts.length) (by rw [ZDc]; rfl) trivial (λ b hb=>⟨_,by rw [Zu],?_⟩) ?_
 ·and_intros
  rw [Zb,ZIs]
  refine ⟨λ h1=>?_,λ h1=>⟨by rw [h1]; rfl,rfl,λ z=>by rw [h1] at z; cases z⟩⟩
  and_intros
  rw [Zb,ZIs]
  refine ⟨by rw [h1]; rfl,rfl,λ _=>?_⟩
  and_intros
  exact ⟨rfl,rfl⟩
 and_intros
 have hl:=ZEr ok.n2 ha
 unfold ZHQ at hl
 rw [List.length_cons] at hl
 refine ZRP (by rw [List.length_map]; show 1+_<=1000; omega) ?_
 and_intros
 unfold ZHQ at q
 rw [List.map_cons] at q
 exact q
theorem ZRo {e:En} {hs:List Hs} {a b:Nat} {g:G} {P:W->G->Prop} (ok:EnOk e) (w:HsL e.ts.length hs) (ha:a < e.ts.length) (hb:b < e.ts.length) (q:P (.dat (.bool (ZR7 e a b hs))) g):EvP (ZBH [.dat (ruD e.r),.dat (Zw e.ts),.dat (Zq e.tn hs),.dat (.int (a:Int)),.dat (.int (b:Int))] g) P:=by
 have wa:=w.get ha
 have hal:a < hs.length:=by rw [w.len]; exact ha
 refine ZJj ?_
 unfold ZR7 at q
 and_intros
 refine ZA1 (Zx (a:=H0) hal) ?_
 generalize hs.getD a H0=h at *
 obtain ⟨up,bk,td,tm⟩:=h
 rw [show Zh (up,bk,td,tm)=.tuple [.int up,Zw bk,Zl td,Zl tm] from rfl]
 have hbl:bk.length=e.ts.length:=wa.bl
 have hml:tm.length=e.ts.length:=wa.ml
 and_intros
 refine ZHu ok ha ?_
 and_intros
 rw [Zb,ZIs]
 refine ⟨λ h1=>?_,λ h1=>?_⟩
 ·rw [if_pos (of_decide_eq_true h1)] at q
  and_intros
  refine ZLY ok.cl (by decide +kernel) ?_
  and_intros
  refine ⟨λ h2=>?_,λ h2=>?_⟩
  ·rw [h2,Bool.true_or] at q
   and_intros
   exact q
  ·rw [h2,Bool.false_or] at q
   and_intros
   refine ZGn (b:=bk) (by omega) ?_
   and_intros
   exact q
 ·rw [if_neg (of_decide_eq_false h1)] at q
  and_intros
  refine ZA1 (Zx (a:=(0:Int)) (by omega)) ?_
  and_intros
  exact q
theorem ZQe {e:En} {hs:List Hs} {a:Nat} {g:G} {P:W->G->Prop} (ok:EnOk e) (w:HsL e.ts.length hs) (ha:a < e.ts.length) (q:P (.dat (.bool (ZOT e a hs))) g):EvP (ZBD [.dat (Zw e.ts),.dat (Zq e.tn hs),.dat (.int (a:Int))] g) P:=by
 have hal:a < hs.length:=by rw [w.len]; exact ha
 refine ZJL ?_
 unfold ZOT at q
 and_intros
 refine ZA1 (Zx (a:=H0) hal) ?_
 and_intros
 rw [Zb]
 refine ⟨λ h1=>?_,λ h1=>?_⟩
 ·rw [h1,Bool.true_and] at q
  and_intros
  refine ZNH ?_
  unfold ZSF at q
  have hc:=ZLK ok ha
  and_intros
  refine ZA1 (Zx (a:=(0,0)) ha) ?_
  and_intros
  refine ⟨λ h2=>?_,λ h2=>?_⟩
  ·rw [h2,Bool.true_and] at q
   and_intros
   refine ZFp hc.1 ?_
   and_intros
   rw [Zb]
   exact q
  ·rw [h2,Bool.false_and] at q
   and_intros
   exact q
 ·rw [h1,Bool.false_and] at q
  and_intros
  exact q
theorem ZKg {n m:Nat} {e:En} {a:Nat} {P:W->G->Prop} {xs:List PyData} {w2 w3:W} (ok:EnOk e) (ha:a < e.ts.length):∀ (L:List Nat) (R:Rw) (g:G) (z4 z5:Option W),HsL e.ts.length R.hs->(∀ b ∈ L,b < e.ts.length/\a ≠ b)->R.le.length+14 * L.length<=1000->RdAt n m e R g ->
  (∀ g',RdAt n m e (L.foldl (λ R b=>ZEV e a b R) R) g'->Fr n m g g'->P (.dat .none) g') ->
  EvS (ZAn none xs (.nm 4) (Zz (dB (dF ZBH (ZC (ZBe ZZ 0 (ZD 0)) (ZC (ZBe ZZ 1 (ZD 0)) (ZC (ZBe ZZ 2 (ZD 0)) (ZC (ZD 1) (ZC (ZD 4) ZK)))))))
 (ZR (Zr 5 (dF ZAW (ZC (ZD 0) (ZC (ZD 1) (ZC (ZD 4) ZK)))))
 (ZCm ZZ 2 (ZD 0) (dF ZCH (ZC (ZBe ZZ 0 (ZD 0)) (ZC (ZBe ZZ 2 (ZD 0)) (ZC (ZD 1) (ZC (ZD 4) (ZC (ZD 5) ZK))))))))
 dNx) (L.map λ b:Nat=>PyData.int (b:Int)) [some (.ref n),some (.dat (.int (a:Int))),some w2,some w3,z4,z5] g) (runP P)
 | [],R,g,z4,z5,w,hp,hl,ra,q=>by
  refine ZES ?_
  and_intros
  exact q g ra .refl
 | b :: L,R,g,z4,z5,w,hp,hl,ra,q=>by
  have hp0:=hp b (List.mem_cons_self ..)
  have ob:=ra.ob
  rw [List.length_cons,Nat.mul_succ] at hl
  rw [List.foldl_cons] at q
  have k1:=ZIK (e:=e) (a:=a) (b:=b) ok.ru.o w ha hp0.1 hp0.2
  unfold ZEV at q k1
  refine ZDJ (by rw [Zu]) ?_
  and_intros
  refine ZRo ok w ha hp0.1 ?_
  and_intros
  refine ⟨λ h1=>?_,λ h1=>?_⟩
  ·rw [if_pos h1] at q k1
   and_intros
   refine ZJD ok w ha hp0.1 hp0.2 (by omega) ra λ g1 r1 f1=>?_
   have w1:=ZGQ (e:=e) (ws:=ZBr e R.hs a b) w λ v hv p hp=>(ZDG w ha hp0.1 hp0.2 v hv p hp).1
   have ob1:=r1.ob
   and_intros
   refine ZMT ok w1.1 ha hp0.1 ?_
   and_intros
   refine .nx trivial ?_
   exact ZKg ok ha L _ _ _ _ k1.1 (λ b hb=>hp b (List.mem_cons_of_mem _ hb)) (by have:=k1.2; omega) (r1.st (hs:=ZGJ e a b (ZBX e (ZBr e R.hs a b) R).1 (ZBX e (ZBr e R.hs a b) R).2.hs)) λ g' r' f'=>q g' r' ((f1.trans .setn).trans f')
  ·rw [if_neg (by rw [h1]; exact Bool.false_ne_true)] at q k1
   and_intros
   refine .nx trivial ?_
   exact ZKg ok ha L R g _ _ w (λ b hb=>hp b (List.mem_cons_of_mem _ hb)) (by omega) ra q
theorem ZLs {n m:Nat} {e:En} {R:Rw} {a:Nat} {g:G} {P:W->G->Prop} (ok:EnOk e) (w:HsL e.ts.length R.hs) (ha:a < e.ts.length) (hl:R.le.length+14 * e.ts.length<=1000) (ra:RdAt n m e R g)
  (q:∀ g',RdAt n m e (ZL0 e a R) g'->Fr n m g g'->P (.dat .none) g'):EvP (ZBo [.ref n,.dat (.int (a:Int))] g) P:=by
 have ob:=ra.ob
 refine ZKY ?_
 and_intros
 refine ZNL ok ha ?_
 and_intros
 have h1:=ZEr ok.n2 ha
 have h2:=Nat.mul_le_mul_left 14 h1
 exact ZKg ok ha (ZHQ e a) R g _ _ w (λ b hb=>ZCn ok.n2 ha hb) (by omega) ra q
theorem ZFJ {xs:List PyData} {k:Int} {g:G} {P:W->G->Prop} (h1 : 2<=k) (h2:k<=20) (h3:xs.isEmpty=false) (h4:xs.length<=20) (q:P (.dat (.tuple (List.replicate k.toNat xs).flatten)) g):EvP (ZBW (.dat (.tuple xs)) (.dat (.int k)) g) P:=ZDM (by rw [decide_eq_true h1,decide_eq_true h2,decide_eq_true h4,h3]; rfl) (ZC2 q)
theorem ZNS:∀ n:Nat,(List.replicate n [PyData.int 0]).flatten=(List.replicate n (0:Int)).map .int
 | 0=>rfl
 | n+1=>by
  rw [List.replicate_succ,List.flatten_cons,ZNS n,List.replicate_succ]
  rfl
theorem ZPe {hs:List Hs} {n:Nat} {lo fa le co:List Int} {g:G} {P:W->G->Prop} (w:HsL n hs) (n2 : 2<=n) (n8:n<=8) (q:P (.dat (.tuple ((ZAK fa le co hs).map Zh))) (g ++ [.pl ((ZAK fa le co hs).map Zh)])):EvP (ZEi [.dat (.tuple (hs.map Zh)),.dat (.tuple [Zl lo,Zl fa,Zl le,Zl co])] g) P:=by
 refine ZOE ?_
 and_intros
 refine ZB7 (λ i sd gx=>gx=g ++ [.pl (((List.range i).map λ j=>doH fa le co j (hs.getD j H0)).map Zh)]/\∃ z7 z8 z9 z10 z11 z12 z13 z14,sd=[some (.dat (.tuple (hs.map Zh))),some (.dat (.tuple [Zl lo,Zl fa,Zl le,Zl co])),some (.dat (Zl lo)),some (.dat (Zl fa)),some (.dat (Zl le)),some (.dat (Zl co)),some (.ref g.length),z7,z8,z9,z10,z11,z12,z13,z14]) ⟨rfl,_,_,_,_,_,_,_,_,rfl⟩ ?_ ?_
 ·rintro i x sd gx hx ⟨rfl,z7,z8,z9,z10,z11,z12,z13,z14,rfl⟩
  rw [ZFg H0 hs,List.getElem?_map] at hx
  obtain ⟨j,hj,rfl⟩:=mp hx
  obtain ⟨hj1,hj2⟩:=List.getElem?_eq_some_iff.mp hj
  rw [List.getElem_range] at hj2
  subst hj2
  rw [List.length_range,w.len] at hj1
  have wi:=w.get hj1
  have lenb:((((List.range i).map λ j=>doH fa le co j (hs.getD j H0)).map Zh)).length < 1000:=by rw [List.length_map,List.length_map,List.length_range]; omega
  have nxt:∀ {h:Hs},doH fa le co i (hs.getD i H0)=h->g ++ [Cell.pl (((List.range i).map λ j=>doH fa le co j (hs.getD j H0)).map Zh ++ [Zh h])]=g ++ [.pl (((List.range (i+1)).map λ j=>doH fa le co j (hs.getD j H0)).map Zh)]:=λ {h} eh=>by
   rw [List.range_succ,List.map_append,List.map_append,← eh]
   rfl
  revert nxt
  generalize hs.getD i H0=h at *
  intro nxt
  obtain ⟨up,bk,td,tm⟩:=h
  have hbl:bk.length=n:=wi.bl
  have htl:td.length=n:=wi.tl
  have hml:tm.length=n:=wi.ml
  rw [show Zh (up,bk,td,tm)=.tuple [.int up,Zw bk,Zl td,Zl tm] from rfl]
  have eb:∀ v:Int × Int,(bk.map Zj).set i (Zj v)=(bk.set i v).map Zj:=λ v=>by rw [List.map_set]
  have et:(td.map PyData.int).set i (.int 0)=(td.set i 0).map .int:=by rw [List.map_set]
  refine ⟨_,rfl,?_⟩
  and_intros
  refine ZA1 (Zx (a:=(0,0)) (by omega)) ?_
  and_intros
  refine ZDr (by rw [ZB8]; rfl) ?_
  rw [L2.any_ints]
  and_intros
  refine ⟨λ h1=>?_,λ h1=>?_⟩
  ·and_intros
   rw [List.length_map]
   refine ZFJ (by omega) (by omega) rfl (by show (1:Nat)<=20; decide) ?_
   rw [ZNS,Int.toNat_natCast]
   and_intros
   refine ⟨_,ZAS,lenb,?_⟩
   rw [ZBQ]
   exact ⟨trivial,nxt (show doH fa le co i (up,bk,td,tm)=_ from if_pos h1),_,_,_,_,_,_,_,_,rfl⟩
  and_intros
  refine ZDr (by rw [ZB8]; rfl) ?_
  rw [L2.any_ints]
  and_intros
  have h1' : ¬ fa.contains (i:Int)=true:=by rw [h1]; exact Bool.false_ne_true
  refine ⟨λ h2=>?_,λ h2=>?_⟩
  ·and_intros
   refine ZAI (by rw [List.length_map]; omega) (by rw [List.length_map]; omega) ?_
   and_intros
   refine ZAI (by rw [List.length_map]; omega) (by rw [List.length_map]; omega) ?_
   and_intros
   rw [List.length_map]
   refine ZFJ (by omega) (by omega) rfl (by show (1:Nat)<=20; decide) ?_
   rw [ZNS,Int.toNat_natCast]
   and_intros
   rw [show PyData.tuple ((λ ds=>PyData.int (bk.getD i (0,0)).1 :: ds) ((λ ds=>PyData.int 3 :: ds) []))=Zj ((bk.getD i (0,0)).1,3) from rfl,eb,et]
   refine ⟨_,ZAS,lenb,?_⟩
   rw [ZBQ]
   exact ⟨trivial,nxt (show doH fa le co i (up,bk,td,tm)=_ from (if_neg h1').trans (if_pos h2)),_,_,_,_,_,_,_,_,rfl⟩
  and_intros
  refine ZDr (by rw [ZB8]; rfl) ?_
  rw [L2.any_ints]
  and_intros
  have h2' : ¬ le.contains (i:Int)=true:=by rw [h2]; exact Bool.false_ne_true
  refine ⟨λ h3=>?_,λ h3=>?_⟩
  ·and_intros
   refine ZAI (by rw [List.length_map]; omega) (by rw [List.length_map]; omega) ?_
   and_intros
   refine ZAI (by rw [List.length_map]; omega) (by rw [List.length_map]; omega) ?_
   and_intros
   rw [show PyData.tuple ((λ ds=>PyData.int ((bk.getD i (0,0)).1+1) :: ds) ((λ ds=>PyData.int 0 :: ds) []))=Zj ((bk.getD i (0,0)).1+1,0) from rfl,eb,et]
   refine ⟨_,ZAS,lenb,?_⟩
   rw [ZBQ]
   exact ⟨trivial,nxt (show doH fa le co i (up,bk,td,tm)=_ from (if_neg h1').trans ((if_neg h2').trans (if_pos h3))),_,_,_,_,_,_,_,_,rfl⟩
  ·have h3' : ¬ co.contains (i:Int)=true:=by rw [h3]; exact Bool.false_ne_true
   and_intros
   refine ⟨_,ZAS,lenb,?_⟩
   rw [ZBQ]
   exact ⟨trivial,nxt (show doH fa le co i (up,bk,td,tm)=_ from (if_neg h1').trans ((if_neg h2').trans (if_neg h3'))),_,_,_,_,_,_,_,_,rfl⟩
 ·rintro sd gx ⟨rfl,z7,z8,z9,z10,z11,z12,z13,z14,rfl⟩
  rw [ZBR,List.length_map]
  and_intros
  refine ZEf ZAS ?_
  and_intros
  exact q
theorem ZPZ {e:En} {hs:List Hs} {g:G} {P:W->G->Prop} (q:∀ g',RdAt g.length (g.length+1) e ⟨hs,[]⟩ g'->Ex g g'->P (.dat .none) g'):EvP (ZAA [.ref g.length,.dat (ruD e.r),.dat (Zw e.ts),.dat (Zq e.tn hs),.dat (Zl e.lo)] (g ++ [.ob ZZ []])) P:=by
 refine ZE7 ?_
 and_intros
 refine ⟨_,_,_,rfl,ZAS,of_decide_eq_true rfl,rfl,?_⟩
 rw [ZBQ]
 and_intros
 refine ⟨_,_,_,rfl,ZAS,of_decide_eq_true rfl,rfl,?_⟩
 rw [ZBQ]
 and_intros
 refine ⟨_,_,_,rfl,ZAS,of_decide_eq_true rfl,rfl,?_⟩
 rw [ZBQ]
 and_intros
 refine ⟨_,_,_,rfl,ZAS,of_decide_eq_true rfl,rfl,?_⟩
 rw [ZBQ]
 and_intros
 refine ⟨_,_,_,rfl,(by rw [List.getElem?_append_left (by simp)]; exact ZAS),of_decide_eq_true rfl,rfl,?_⟩
 rw [show ∀ (A B C:Cell),(g ++ [A] ++ [B]).set g.length C=g ++ [C] ++ [B] from λ A B C=>by rw [List.set_append_left _ _ (by simp),ZBQ]]
 and_intros
 have hl:∀ A:Cell,(g ++ [A]).length=g.length+1:=λ A=>by simp
 refine q _ ⟨?_,?_,by omega⟩ (Ex.refl.app.app)
 ·rw [List.getElem?_append_left (by simp),ZAS,hl]
  rfl
 ·rw [show g.length+1=(g ++ [Cell.ob ZZ ([W.dat (ruD e.r),W.dat (Zw e.ts),W.dat (Zq e.tn hs),W.dat (Zl e.lo)] ++ [W.ref (g ++ [Cell.ob ZZ [W.dat (ruD e.r),W.dat (Zw e.ts),W.dat (Zq e.tn hs),W.dat (Zl e.lo)]]).length])]).length by simp]
  exact ZAS
theorem ZGD {n m:Nat} {e:En} {x:Nat} {P:W->G->Prop} {xs:List PyData} (ok:EnOk e) (hx:x < e.ts.length):∀ (L:List Nat) (R:Rw) (g:G) (z2:Option W),HsL e.ts.length R.hs->(∀ y ∈ L,y < e.ts.length)->R.le.length+L.length<=1000->RdAt n m e R g ->
  (∀ g',RdAt n m e (L.foldl (λ R y=>if y=x then R else (ZAq e x y R).2) R) g'->Fr n m g g'->P (.dat .none) g') ->
  EvS (ZAn none xs (.nm 2) (Zz (dB (dOp ZCN (ZD 2) (ZD 1))) (ZBk (ZFk ZZ Z0 (ZD 0) (ZC (ZD 1) (ZC (ZD 2) ZK)))) dNx) (L.map λ b:Nat=>PyData.int (b:Int)) [some (.ref n),some (.dat (.int (x:Int))),z2] g) (runP P)
 | [],R,g,z2,w,hp,hl,ra,q=>by
  refine ZES ?_
  and_intros
  exact q g ra .refl
 | y :: L,R,g,z2,w,hp,hl,ra,q=>by
  have hp0:=hp y (List.mem_cons_self ..)
  have ob:=ra.ob
  rw [List.length_cons] at hl
  rw [List.foldl_cons] at q
  refine ZDJ (by rw [Zu]) ?_
  and_intros
  rw [Zb,ZIs]
  refine ⟨λ h1=>?_,λ h1=>?_⟩
  ·have h1 : ¬ y=x:=by simpa using h1
   rw [if_neg h1] at q
   and_intros
   refine ZLW ok w hx hp0 (λ z=>h1 z.symm) (by omega) ra λ g1 r1 f1=>?_
   refine .nx trivial ?_
   exact ZGD ok hx L _ g1 _ (ZFB w hx hp0) (λ b hb=>hp b (List.mem_cons_of_mem _ hb)) (by rw [ZFD]; omega) r1 λ g' r' f'=>q g' r' (f1.trans f')
  ·have h1:y=x:=by simpa using h1
   rw [if_pos h1] at q
   and_intros
   refine .nx trivial ?_
   exact ZGD ok hx L R g _ w (λ b hb=>hp b (List.mem_cons_of_mem _ hb)) (by omega) ra q
theorem ZNB {n m:Nat} {e:En} {R:Rw} {x:Nat} {g:G} {P:W->G->Prop} (ok:EnOk e) (w:HsL e.ts.length R.hs) (hx:x < e.ts.length) (hl:R.le.length+e.ts.length<=1000) (ra:RdAt n m e R g)
  (q:∀ g',RdAt n m e (ZBN e x R) g'->Fr n m g g'->P (.dat .none) g'):EvP (ZAH [.ref n,.dat (.int (x:Int))] g) P:=by
 have ob:=ra.ob
 have n8:=ok.n8
 refine ZFs ?_
 and_intros
 refine ZA2 (j:=e.ts.length) (g1:=g) ?_
 and_intros
 rw [List.length_map]
 refine ⟨by omega,?_⟩
 rw [ZDc,Int.toNat_natCast]
 exact ZGD ok hx (List.range e.ts.length) R g _ w (λ y hy=>List.mem_range.mp hy) (by rw [List.length_range]; exact hl) ra q
theorem ZOo {n m:Nat} {e:En} {R:Rw} {x:Nat} {g:G} {P:W->G->Prop} (ok:EnOk e) (w:HsL e.ts.length R.hs) (hx:x < e.ts.length) (ra:RdAt n m e R g)
  (q:∀ g',RdAt n m e ⟨ZBU x R.hs,R.le⟩ g'->Fr n m g g'->P (.dat .none) g'):EvP (ZDq [.ref n,.dat (.int (x:Int))] g) P:=by
 have ob:=ra.ob
 have n8:=ok.n8
 have hxl:x < R.hs.length:=by rw [w.len]; exact hx
 refine ZPB ?_
 and_intros
 refine ZA1 (Zx (a:=H0) hxl) ?_
 and_intros
 refine ZIa (h:=(0,(R.hs.getD x H0).2.1,(R.hs.getD x H0).2.2.1,(R.hs.getD x H0).2.2.2)) hxl (by rw [w.len]; exact n8) ?_
 and_intros
 exact q _ (ra.st (hs:=ZBU x R.hs)) .setn
theorem ZHZ {n m:Nat} {e:En} {P:Out->Prop} {xs:List PyData} {x0 x1 x2 x3 x4 x5 x6 x7 x8 x9 z12:Option W} (ok:EnOk e):∀ (L:List Int) (R:Rw) (g:G) (z11:Option W),HsL e.ts.length R.hs->(∀ k ∈ L,0<=k/\k < e.ts.length)->R.le.length+e.ts.length * L.length<=1000->RdAt n m e R g ->
  (∀ g' z,RdAt n m e (L.foldl (λ R x=>ZBN e x.toNat R) R) g'->Fr n m g g'->P (.nx [x0,x1,x2,x3,x4,x5,x6,x7,x8,x9,some (.ref n),z,z12] g')) ->
  EvS (ZAn none xs (.nm 11) (ZBk (dF ZAH (ZC (ZD 10) (ZC (ZD 11) ZK)))) (L.map PyData.int) [x0,x1,x2,x3,x4,x5,x6,x7,x8,x9,some (.ref n),z11,z12] g) P
 | [],R,g,z11,w,hp,hl,ra,q=>ZES (q g z11 ra .refl)
 | k :: L,R,g,z11,w,hp,hl,ra,q=>by
  have hp0:=hp k (List.mem_cons_self ..)
  rw [List.length_cons,Nat.mul_succ] at hl
  rw [List.foldl_cons] at q
  obtain ⟨x,rfl⟩:∃ x:Nat,k=(x:Int):=⟨k.toNat,by omega⟩
  rw [Int.toNat_natCast] at q
  have hx:x < e.ts.length:=by omega
  have k1:=ZEs (e:=e) (x:=x) w hx
  refine ZDJ (by rw [Zu]) ?_
  and_intros
  refine ZNB ok w hx (by omega) ra λ g1 r1 f1=>?_
  refine .nx trivial ?_
  exact ZHZ ok L _ g1 _ k1.1 (λ b hb=>hp b (List.mem_cons_of_mem _ hb)) (by have:=k1.2; omega) r1 λ g' z r' f'=>q g' z r' (f1.trans f')
theorem ZI5 {n m:Nat} {e:En} {P:Out->Prop} {xs:List PyData} {x0 x1 x2 x3 x4 x5 x6 x7 x8 x9 z12:Option W} (ok:EnOk e):∀ (L:List Int) (R:Rw) (g:G) (z11:Option W),HsL e.ts.length R.hs->(∀ k ∈ L,0<=k/\k < e.ts.length)->RdAt n m e R g ->
  (∀ g' z,RdAt n m e ⟨L.foldl (λ hs x=>ZBU x.toNat hs) R.hs,R.le⟩ g'->Fr n m g g'->P (.nx [x0,x1,x2,x3,x4,x5,x6,x7,x8,x9,some (.ref n),z,z12] g')) ->
  EvS (ZAn none xs (.nm 11) (ZBk (dF ZDq (ZC (ZD 10) (ZC (ZD 11) ZK)))) (L.map PyData.int) [x0,x1,x2,x3,x4,x5,x6,x7,x8,x9,some (.ref n),z11,z12] g) P
 | [],R,g,z11,w,hp,ra,q=>ZES (q g z11 ra .refl)
 | k :: L,R,g,z11,w,hp,ra,q=>by
  have hp0:=hp k (List.mem_cons_self ..)
  rw [List.foldl_cons] at q
  obtain ⟨x,rfl⟩:∃ x:Nat,k=(x:Int):=⟨k.toNat,by omega⟩
  rw [Int.toNat_natCast] at q
  have hx:x < e.ts.length:=by omega
  refine ZDJ (by rw [Zu]) ?_
  and_intros
  refine ZOo ok w hx ra λ g1 r1 f1=>?_
  refine .nx trivial ?_
  exact ZI5 ok L ⟨ZBU x R.hs,R.le⟩ g1 _ (ZK4 w hx) (λ b hb=>hp b (List.mem_cons_of_mem _ hb)) r1 λ g' z r' f'=>q g' z r' (f1.trans f')
theorem ZGa {n m:Nat} {e:En} {P:Out->Prop} {xs:List PyData} {x0 x2 x3 x4 x5 x6 x7 x8 x9 z11:Option W} (ok:EnOk e):∀ (L:List Nat) (R:Rw) (g:G) (z12:Option W),HsL e.ts.length R.hs->(∀ k ∈ L,k < e.ts.length)->R.le.length+14 * e.ts.length * L.length<=1000->RdAt n m e R g ->
  (∀ g' z,RdAt n m e (L.foldl (λ R a=>ZCe e a R) R) g'->Fr n m g g'->P (.nx [x0,some (.dat (Zw e.ts)),x2,x3,x4,x5,x6,x7,x8,x9,some (.ref n),z11,z] g')) ->
  EvS (ZAn none xs (.nm 12) (Zz (dB (dF ZBD (ZC (ZD 1) (ZC (ZBe ZZ 2 (ZD 10)) (ZC (ZD 12) ZK)))))
 (ZBk (dF ZBo (ZC (ZD 10) (ZC (ZD 12) ZK))))
 dNx) (L.map λ b:Nat=>PyData.int (b:Int)) [x0,some (.dat (Zw e.ts)),x2,x3,x4,x5,x6,x7,x8,x9,some (.ref n),z11,z12] g) P
 | [],R,g,z12,w,hp,hl,ra,q=>ZES (q g z12 ra .refl)
 | a :: L,R,g,z12,w,hp,hl,ra,q=>by
  have ha:=hp a (List.mem_cons_self ..)
  have ob:=ra.ob
  rw [List.length_cons,Nat.mul_succ] at hl
  rw [List.foldl_cons] at q
  have k1:=ZJB (e:=e) (a:=a) ok.ru.o ok.n2 w ha
  unfold ZCe at k1
  refine ZDJ (by rw [Zu]) ?_
  and_intros
  refine ZQe ok w ha ?_
  and_intros
  refine ⟨λ h1=>?_,λ h1=>?_⟩
  ·rw [if_pos h1] at k1
   rw [show ZCe e a R=ZL0 e a R from if_pos h1] at q
   and_intros
   refine ZLs ok w ha (by omega) ra λ g1 r1 f1=>?_
   refine .nx trivial ?_
   exact ZGa ok L _ g1 _ k1.1 (λ b hb=>hp b (List.mem_cons_of_mem _ hb)) (by have:=k1.2; omega) r1 λ g' z r' f'=>q g' z r' (f1.trans f')
  ·rw [show ZCe e a R=R from if_neg (by rw [h1]; exact Bool.false_ne_true)] at q
   and_intros
   refine .nx trivial ?_
   exact ZGa ok L R g _ w (λ b hb=>hp b (List.mem_cons_of_mem _ hb)) (by omega) ra q
theorem ZNe {e:En}:∀ {L:List Int} {R:Rw},HsL e.ts.length R.hs->(∀ k ∈ L,0<=k/\k < e.ts.length)->HsL e.ts.length (L.foldl (λ R x=>ZBN e x.toNat R) R).hs/\(L.foldl (λ R x=>ZBN e x.toNat R) R).le.length<=R.le.length+e.ts.length * L.length:=λ {L R} w hp=>ZD3 (f:=λ (R:Rw) (x:Int)=>ZBN e x.toNat R) w λ x hx R w=>ZEs w (by have:=hp x hx; omega)
theorem ZKB {r:Ru} {ts:List (Int × Int)} {tn:Int} {hs:List Hs} {lo fa le co:List Int} {g:G} {P:W->G->Prop} (ok:EnOk ⟨r,ts,tn,lo⟩) (w:HsL ts.length hs) (hle:∀ k ∈ le,0<=k/\k < ts.length) (hco:∀ k ∈ co,0<=k/\k < ts.length) (hlc:le.length+co.length<=ts.length)
  (q:∀ g',Ex g g'->P (.dat (.tuple [Zq (tn+1) (ZEx r ts tn hs lo fa le co).hs,.tuple ((ZEx r ts tn hs lo fa le co).le.map ltD)])) g'):EvP (ZBO [.dat (ruD r),.dat (Zw ts),.dat (Zq tn hs),.dat (.tuple [Zl lo,Zl fa,Zl le,Zl co])] g) P:=by
 have n2 : 2<=ts.length:=ok.n2
 have n8:ts.length<=8:=ok.n8
 have hlc2:∀ k ∈ le ++ co,0<=k/\k < ts.length:=λ k hk=>(List.mem_append.mp hk).elim (hle k) (hco k)
 have hmul:ts.length * (le ++ co).length<=64:=by
  rw [List.length_append]
  exact Nat.le_trans (Nat.mul_le_mul n8 (Nat.le_trans hlc n8)) (by decide)
 have hmul2 : 14 * ts.length * ts.length<=896:=by
  have:=Nat.mul_le_mul (Nat.mul_le_mul_left 14 n8) n8
  omega
 refine ZKa ?_
 and_intros
 refine ZPe w n2 n8 ?_
 and_intros
 generalize hg1:g ++ [Cell.pl ((ZAK fa le co hs).map Zh)]=g1
 have E1:Ex g g1:=by rw [← hg1]; exact Ex.refl.app
 refine ZPZ (e:=⟨r,ts,tn,lo⟩) (hs:=ZAK fa le co hs) λ g2 ra E2=>⟨rfl,?_⟩
 have wd:=ZIg (fa:=fa) (le:=le) (co:=co) w
 and_intros
 refine ZH7 (by rw [List.length_map,List.length_map]; omega) ?_
 and_intros
 rw [← List.map_append]
 have k1:=ZNe (e:=⟨r,ts,tn,lo⟩) (L:=le ++ co) (R:=⟨ZAK fa le co hs,[]⟩) wd hlc2
 refine ZHZ ok (le ++ co) ⟨ZAK fa le co hs,[]⟩ g2 _ wd hlc2 (by show 0+ts.length * _<=1000; omega) ra λ g3 z3 r3 f3=>?_
 and_intros
 refine ZI5 ok le _ g3 _ k1.1 hle r3 λ g4 z4 r4 f4=>?_
 have k2:=ZIF (L:=le) k1.1 λ x hx=>by show x.toNat < ts.length; have:=hle x hx; omega
 have kl:((le ++ co).foldl (λ R x=>ZBN ⟨r,ts,tn,lo⟩ x.toNat R) ⟨ZAK fa le co hs,[]⟩).le.length<=64:=by
  have h0:(List.foldl (λ (R:Rw) (x:Int)=>ZBN ⟨r,ts,tn,lo⟩ x.toNat R) ⟨ZAK fa le co hs,[]⟩ (le ++ co)).le.length<=0+ts.length * (le ++ co).length:=k1.2
  exact Nat.le_trans h0 (by omega)
 and_intros
 refine ZA2 (j:=ts.length) (g1:=g4) ?_
 and_intros
 rw [List.length_map]
 refine ⟨by omega,?_⟩
 rw [ZDc,Int.toNat_natCast]
 refine ZGa ok (List.range ts.length) _ g4 _ k2 (λ y hy=>List.mem_range.mp hy) (by rw [List.length_range]; exact Nat.le_trans (Nat.add_le_add kl hmul2) (by decide)) r4 λ g5 z5 r5 f5=>?_
 have ob5:=r5.ob
 have le5:=r5.le
 and_intros
 refine ZEf le5 ?_
 and_intros
 refine q g5 ?_
 have f25:=f3.trans (f4.trans f5)
 have l2:=E2.len
 have l1:=E1.len
 refine ⟨by have:=f25.len; omega,λ k hk=>?_⟩
 rw [f25.kp k (by omega) (by omega) (by omega),E2.kp k (by omega),E1.kp k hk]
structure RisN (ks:List Int) (m:Int):Prop where
 up:ks.Pairwise (· < ·)
 lo:∀ k ∈ ks,0<=k
 hi:∀ k ∈ ks,k < m
theorem RisN.nil {m:Int}:RisN [] m:=⟨.nil,(λ k hk=>by cases hk),λ k hk=>by cases hk⟩
theorem RisN.more {ks:List Int} {m n:Int} (h:RisN ks m) (hn:m<=n):RisN ks n:=⟨h.up,h.lo,λ k hk=>by have:=h.hi k hk; omega⟩
theorem RisN.snoc {ks:List Int} {m:Int} (h:RisN ks m) (hm : 0<=m):RisN (ks ++ [m]) (m+1):=⟨by
 rw [List.pairwise_append]
 exact ⟨h.up,List.pairwise_singleton _ _,λ a ha c hc=>by rw [List.mem_singleton.mp hc]; exact h.hi a ha⟩,λ k hk=>by
 rcases List.mem_append.mp hk with hk | hk
 ·exact h.lo k hk
 ·rw [List.mem_singleton.mp hk]; exact hm,λ k hk=>by
 rcases List.mem_append.mp hk with hk | hk
 ·have:=h.hi k hk; omega
 ·rw [List.mem_singleton.mp hk]; omega⟩
theorem RisN.rng:∀ n:Nat,RisN ((List.range n).map λ j:Nat=>(j:Int)) n
 | 0=>.nil
 | n+1=>by
  rw [List.range_succ,List.map_append]
  have:=(RisN.rng n).snoc (by omega)
  exact this.more (by omega)
theorem RisN.len_go:∀ (ks:List Int) (lo:Int) (m:Int),ks.Pairwise (· < ·)->(∀ k ∈ ks,lo<=k/\k < m)->lo<=m->(ks.length:Int)<=m - lo
 | [],lo,m,_,_,h=>by show (0:Int)<=_; omega
 | a :: r,lo,m,hp,hk,h=>by
  have ha:=hk a (List.mem_cons_self ..)
  rw [List.pairwise_cons] at hp
  have:=RisN.len_go r (a+1) m hp.2 (λ k hk2=>⟨by have:=hp.1 k hk2; omega,(hk k (List.mem_cons_of_mem _ hk2)).2⟩) (by omega)
  rw [List.length_cons]
  omega
theorem RisN.len {ks:List Int} {m:Int} (h:RisN ks m) (hm : 0<=m):(ks.length:Int)<=m:=by
 have:=RisN.len_go ks 0 m h.up (λ k hk=>⟨h.lo k hk,h.hi k hk⟩) hm
 omega
theorem ZO9 {b:Nat} {m:Int} {g:G} {P:W->G->Prop} (hb:Bx g b) (hm : 0<=m/\m<=1000) (q:∀ ks g',RisN ks m->Dr b g g'->P (.dat (Zl ks)) g'):EvP (ZBI [.ref b,.dat (.int m)] g) P:=by
 refine ZH4 ?_
 and_intros
 refine Zm hb (by decide) (by decide) λ d g1 l1 u1 D1=>?_
 and_intros
 rw [Zb]
 refine ⟨λ h=>?_,λ h=>?_⟩
 ·and_intros
  exact ZF7 D1.len (q [] g1 .nil D1)
 have h0 : ¬ d=0:=of_decide_eq_false h
 and_intros
 rw [Zb]
 refine ⟨λ h=>?_,λ h=>?_⟩
 ·and_intros
  refine ⟨hm,?_⟩
  and_intros
  have e:ZCF m.toNat 0=((List.range m.toNat).map λ j:Nat=>(j:Int)).map .int:=by rw [ZDc,List.map_map]; rfl
  rw [e]
  exact q _ g1 ((RisN.rng m.toNat).more (by omega)) D1
 have h1 : ¬ d=1:=of_decide_eq_false h
 and_intros
 refine ZA2 (j:=m) (g1:=g1) ?_
 and_intros
 refine ⟨by omega,?_⟩
 refine ⟨by rw [ZA9]; omega,?_⟩
 refine ZEy (λ gx=>Dr b g gx) (λ i acc=>∃ ks:List Int,acc=ks.map .int/\RisN ks i) D1 ⟨[],rfl,.nil⟩ ?_ ?_
 ·rintro i x gx acc hx Dx ⟨ks,rfl,hk⟩
  rw [ZDc,List.getElem?_map] at hx
  obtain ⟨j,hj,rfl⟩:=mp hx
  obtain ⟨hj1,hj2⟩:=List.getElem?_eq_some_iff.mp hj
  rw [List.getElem_range] at hj2
  subst hj2
  refine ⟨_,by rw [Zu],?_⟩
  and_intros
  refine ZE3 (by omega) (by show d - 2 < 3; omega) λ x hx=>?_
  obtain ⟨t,rfl,ht⟩:∃ n0:Int,x=.int n0/\2<=n0/\n0<=8:=by
   simp only [List.mem_cons,List.not_mem_nil,or_false] at hx
   rcases hx with rfl | rfl | rfl <;> exact ⟨_,rfl,by omega,by omega⟩
  and_intros
  refine Zm Dx.bx (by omega) (by omega) λ d2 g2 l2 u2 D2=>?_
  and_intros
  refine ⟨λ _=>?_,λ _=>⟨trivial,Dx.trans D2,ks,rfl,hk.more (by omega)⟩⟩
  and_intros
  exact ⟨trivial,Dx.trans D2,ks ++ [(i:Int)],by rw [List.map_append]; rfl,hk.snoc (by omega)⟩
 ·rintro acc gx Dx ⟨ks,rfl,hk⟩
  rw [ZA9] at hk
  and_intros
  exact ZF7 Dx.len (q ks gx (hk.more (by omega)) Dx)
structure HsN (hs:List Hs) (u:Int) (ks:List Int):Prop where
 pr:RisN ks hs.length
 pu:∀ k ∈ ks,(hs.getD k.toNat H0).1=u
structure DoOk (hs:List Hs) (lo fa le co:List Int):Prop where
 plo:RisN lo 60
 pfa:HsN hs 1 fa
 ple:HsN hs 1 le
 pco:HsN hs 0 co
 pap:∀ k ∈ fa,k ∉ le
def doD (lo fa le co:List Int):PyData:=.tuple [Zl lo,Zl fa,Zl le,Zl co]
structure DoI (hs:List Hs) (i:Nat) (fa le co:List Int):Prop where
 ifa:RisN fa i
 ile:RisN le i
 ico:RisN co i
 fu:∀ k ∈ fa,(hs.getD k.toNat H0).1=1
 lu:∀ k ∈ le,(hs.getD k.toNat H0).1=1
 cu:∀ k ∈ co,(hs.getD k.toNat H0).1=0
 ap:∀ k ∈ fa,k ∉ le
theorem ZIb {ks:List Int} {a k:Int} {p:Int->Prop} (h:∀ k ∈ ks,p k) (ha:p a):∀ k ∈ ks ++ [a],p k:=λ k hk=>by
 rcases List.mem_append.mp hk with hk | hk
 ·exact h k hk
 ·rw [List.mem_singleton.mp hk]; exact ha
theorem DoI.f {hs:List Hs} {i:Nat} {fa le co:List Int} (h:DoI hs i fa le co) (hu:(hs.getD i H0).1=1):DoI hs (i+1) (fa ++ [(i:Int)]) le co:=⟨h.ifa.snoc (by omega),h.ile.more (by omega),h.ico.more (by omega),ZIb (k:=0) h.fu (by rw [Int.toNat_natCast]; exact hu),h.lu,h.cu,ZIb (k:=0) h.ap λ z=>by have:=h.ile.hi _ z; omega⟩
theorem DoI.l {hs:List Hs} {i:Nat} {fa le co:List Int} (h:DoI hs i fa le co) (hu:(hs.getD i H0).1=1):DoI hs (i+1) fa (le ++ [(i:Int)]) co:=⟨h.ifa.more (by omega),h.ile.snoc (by omega),h.ico.more (by omega),h.fu,ZIb (k:=0) h.lu (by rw [Int.toNat_natCast]; exact hu),h.cu,λ k hk z=>by
 rcases List.mem_append.mp z with z | z
 ·exact h.ap k hk z
 ·rw [List.mem_singleton.mp z] at hk
  have:=h.ifa.hi _ hk
  omega⟩
theorem DoI.c {hs:List Hs} {i:Nat} {fa le co:List Int} (h:DoI hs i fa le co) (hu:(hs.getD i H0).1=0):DoI hs (i+1) fa le (co ++ [(i:Int)]):=⟨h.ifa.more (by omega),h.ile.more (by omega),h.ico.snoc (by omega),h.fu,h.lu,ZIb (k:=0) h.cu (by rw [Int.toNat_natCast]; exact hu),h.ap⟩
theorem DoI.n {hs:List Hs} {i:Nat} {fa le co:List Int} (h:DoI hs i fa le co):DoI hs (i+1) fa le co:=⟨h.ifa.more (by omega),h.ile.more (by omega),h.ico.more (by omega),h.fu,h.lu,h.cu,h.ap⟩
theorem ZIi {i:Nat} {ks:List Int} (h:RisN ks i) (hi:i < 1000):(ks.map PyData.int).length < 1000:=by
 rw [List.length_map]
 have:=h.len (by omega)
 omega
theorem ZLd {b:Nat} {tn:Int} {hs:List Hs} {mv:Bool} {g:G} {P:W->G->Prop} (hb:Bx g b) (hl:hs.length<=900) (q:∀ lo fa le co g',DoOk hs lo fa le co->Dr b g g'->P (.dat (doD lo fa le co)) g'):EvP (ZAV [.ref b,.dat (Zq tn hs),.dat (.bool mv)] g) P:=by
 have hlb:=hb.lt
 refine ZGL ?_
 and_intros
 refine ⟨_,_,_,rfl,?_⟩
 and_intros
 refine ZB7 (λ i sd gx=>∃ fa le co z6 z7 z8,Dr b g gx/\g.length+3<=gx.length/\gx[g.length]? = some (.pl (fa.map .int))/\gx[g.length+1]? = some (.pl (le.map .int))/\gx[g.length+2]? = some (.pl (co.map .int))/\DoI hs i fa le co/\sd=[some (.ref b),some (.dat (Zq tn hs)),some (.dat (.bool mv)),some (.ref g.length),some (.ref (g.length+1)),some (.ref (g.length+2)),z6,z7,z8]) ?_ ?_ ?_
 ·refine ⟨[],[],[],none,none,none,(((Dr.refl hb).app).app).app,by simp,by simp,by simp,by simp,⟨.nil,.nil,.nil,(λ k hk=>by cases hk),(λ k hk=>by cases hk),(λ k hk=>by cases hk),(λ k hk=>by cases hk)⟩,?_⟩
  simp
 ·rintro i x sd gx hx ⟨fa,le,co,z6,z7,z8,K1,L1,F1,E1,C1,I1,rfl⟩
  rw [ZFg H0 hs,List.getElem?_map] at hx
  obtain ⟨j,hj,rfl⟩:=mp hx
  obtain ⟨hj1,hj2⟩:=List.getElem?_eq_some_iff.mp hj
  rw [List.getElem_range] at hj2
  subst hj2
  rw [List.length_range] at hj1
  refine ⟨_,rfl,?_⟩
  and_intros
  refine Zm K1.bx (by decide) (by decide) λ w g2 l2 u2 D2=>?_
  have K2:=K1.trans D2
  have L2':g.length+3<=g2.length:=by have:=D2.len; omega
  have F2:g2[g.length]? = some (.pl (fa.map .int)):=by rw [D2.kp _ (by omega) (by omega)]; exact F1
  have E2:g2[g.length+1]? = some (.pl (le.map .int)):=by rw [D2.kp _ (by omega) (by omega)]; exact E1
  have C2:g2[g.length+2]? = some (.pl (co.map .int)):=by rw [D2.kp _ (by omega) (by omega)]; exact C1
  cases mv with
  | false =>
   and_intros
   refine ⟨(λ z=>by cases z),λ _=>⟨(λ z=>by cases z),λ _=>?_⟩⟩
   and_intros
   refine ⟨(λ z=>by cases z),λ _=>⟨(λ z=>by cases z),λ _=>?_⟩⟩
   and_intros
   exact ⟨trivial,fa,le,co,_,_,_,K2,L2',F2,E2,C2,I1.n,rfl⟩
  | true =>
   and_intros
   refine bT ?_
   and_intros
   rw [Zb]
   refine ⟨λ hu=>?_,λ hu=>?_⟩
   ·have hu:(hs.getD i H0).1=1:=of_decide_eq_true hu
    and_intros
    refine ⟨λ hw=>?_,λ hw=>?_⟩
    ·have hw:w < 2:=of_decide_eq_true hw
     and_intros
     refine ⟨by show (2:Nat)<=1000; decide,?_⟩
     rcases (show w=0 ∨ w=1 by omega) with rfl | rfl
     ·refine ⟨_,rfl,_,rfl,?_⟩
      and_intros
      refine ⟨_,F2,ZIi I1.ifa (by omega),?_⟩
      and_intros
      refine bT ?_
      and_intros
      rw [Zb,hu]
      refine ⟨(λ z=>by cases z),λ _=>⟨(λ z=>by cases z),λ _=>?_⟩⟩
      and_intros
      refine ⟨trivial,fa ++ [(i:Int)],le,co,_,_,_,K2.put hlb (Nat.le_refl _),by rw [List.length_set]; exact L2',?_,?_,?_,I1.f hu,rfl⟩
      ·rw [ZBS (by omega),List.map_append]; rfl
      ·rw [List.getElem?_set_ne (by omega)]; exact E2
      ·rw [List.getElem?_set_ne (by omega)]; exact C2
     ·refine ⟨_,rfl,_,rfl,?_⟩
      and_intros
      refine ⟨_,E2,ZIi I1.ile (by omega),?_⟩
      and_intros
      refine bT ?_
      and_intros
      rw [Zb,hu]
      refine ⟨(λ z=>by cases z),λ _=>⟨(λ z=>by cases z),λ _=>?_⟩⟩
      and_intros
      refine ⟨trivial,fa,le ++ [(i:Int)],co,_,_,_,K2.put hlb (by omega),by rw [List.length_set]; exact L2',?_,?_,?_,I1.l hu,rfl⟩
      ·rw [List.getElem?_set_ne (by omega)]; exact F2
      ·rw [ZBS (by omega),List.map_append]; rfl
      ·rw [List.getElem?_set_ne (by omega)]; exact C2
    ·and_intros
     refine bT ?_
     and_intros
     rw [Zb,hu]
     refine ⟨(λ z=>by cases z),λ _=>⟨(λ z=>by cases z),λ _=>?_⟩⟩
     and_intros
     exact ⟨trivial,fa,le,co,_,_,_,K2,L2',F2,E2,C2,I1.n,rfl⟩
   ·refine bF ?_
    and_intros
    refine bT ?_
    and_intros
    rw [Zb]
    refine ⟨λ hu=>?_,λ hu=>⟨(λ z=>by cases z),λ _=>?_⟩⟩
    ·have hu:(hs.getD i H0).1=0:=of_decide_eq_true hu
     and_intros
     refine ⟨λ hw=>?_,λ hw=>?_⟩
     ·and_intros
      refine ⟨_,C2,ZIi I1.ico (by omega),?_⟩
      refine ⟨trivial,fa,le,co ++ [(i:Int)],_,_,_,K2.put hlb (by omega),by rw [List.length_set]; exact L2',?_,?_,?_,I1.c hu,rfl⟩
      ·rw [List.getElem?_set_ne (by omega)]; exact F2
      ·rw [List.getElem?_set_ne (by omega)]; exact E2
      ·rw [ZBS (by omega),List.map_append]; rfl
     ·and_intros
      exact ⟨trivial,fa,le,co,_,_,_,K2,L2',F2,E2,C2,I1.n,rfl⟩
    ·and_intros
     exact ⟨trivial,fa,le,co,_,_,_,K2,L2',F2,E2,C2,I1.n,rfl⟩
 ·rintro sd gx ⟨fa,le,co,z6,z7,z8,K1,L1,F1,E1,C1,I1,rfl⟩
  rw [ZBR,List.length_map] at I1
  and_intros
  refine ZO9 K1.bx (by decide) λ lo g2 hlo D2=>?_
  have K2:=K1.trans D2
  have F2:g2[g.length]? = some (.pl (fa.map .int)):=by rw [D2.kp _ (by omega) (by omega)]; exact F1
  have E2:g2[g.length+1]? = some (.pl (le.map .int)):=by rw [D2.kp _ (by omega) (by omega)]; exact E1
  have C2:g2[g.length+2]? = some (.pl (co.map .int)):=by rw [D2.kp _ (by omega) (by omega)]; exact C1
  and_intros
  refine ZEf F2 ?_
  and_intros
  refine ZEf E2 ?_
  and_intros
  refine ZEf C2 ?_
  and_intros
  exact q lo fa le co _ ⟨hlo,⟨I1.ifa,I1.fu⟩,⟨I1.ile,I1.lu⟩,⟨I1.ico,I1.cu⟩,I1.ap⟩ K2
theorem DoOk.few {hs:List Hs} {lo fa le co:List Int} (h:DoOk hs lo fa le co):le.length+co.length<=hs.length:=by
 have nd:(le ++ co).Nodup:=by
  rw [List.nodup_append]
  refine ⟨h.ple.pr.up.imp (λ z=>by omega),h.pco.pr.up.imp (λ z=>by omega),λ a ha b hb z=>?_⟩
  subst z
  have h1:=h.ple.pu a ha
  have h2:=h.pco.pu a hb
  rw [h1] at h2
  cases h2
 have key:∀ (L:List Int) (n:Nat),L.Nodup->(∀ k ∈ L,0<=k/\k < n)->L.length<=n:=by
  intro L n
  induction n generalizing L with
  | zero =>
   intro _ hk
   cases L with
   | nil=>exact Nat.le_refl _
   | cons a r=>have:=hk a (List.mem_cons_self ..); omega
  | succ n ih =>
   intro hd hk
   have h1:=ih (L.erase (n:Int)) (hd.erase _) λ k hk2=>by
    have hm:=(hd.mem_erase_iff).mp hk2
    have:=hk k hm.2
    have:k ≠ (n:Int):=hm.1
    omega
   have h2:=List.length_erase (a:=(n:Int)) (l:=L)
   split at h2 <;> omega
 have:=key (le ++ co) hs.length nd λ k hk=>by
  rcases List.mem_append.mp hk with hk | hk
  ·exact ⟨h.ple.pr.lo k hk,h.ple.pr.hi k hk⟩
  ·exact ⟨h.pco.pr.lo k hk,h.pco.pr.hi k hk⟩
 rw [List.length_append] at this
 exact this
def isI:PyData->Bool
 | .int _=>true
 | _=>false
def btw (lo hi:Int):PyData->Bool
 | .int i=>decide (lo<=i) && decide (i<=hi)
 | _=>false
def tof (n:Nat):PyData->Bool
 | .tuple ds=>decide (ds.length=n)
 | _=>false
theorem ZJ4 {d:PyData} {g:G} {P:W->G->Prop} (q:P (.dat (.bool (isI d))) g):EvP (ZBE [.dat d] g) P:=by
 refine ZJW ?_
 and_intros
 cases d with
 | int i=>exact ⟨λ _=>ZKy (by and_intros; exact q),(λ z=>by cases z)⟩
 | bool b=>exact ⟨λ _=>ZKy (by and_intros; exact q),(λ z=>by cases z)⟩
 | _=>exact ⟨(λ z=>by cases z),λ _=>(by and_intros; exact q)⟩
theorem ZBl {d:PyData} {lo hi:Int} {g:G} {P:W->G->Prop} (q:P (.dat (.bool (btw lo hi d))) g):EvP (Zy [.dat d,.dat (.int lo),.dat (.int hi)] g) P:=by
 refine ZHF ?_
 and_intros
 cases d with
 | int i =>
  refine bT ?_
  and_intros
  refine bT ?_
  and_intros
  refine ⟨λ h=>?_,λ h=>?_⟩
  ·and_intros
   have e:btw lo hi (.int i)=decide (i<=hi):=by show (decide (lo<=i) && decide (i<=hi))=_; rw [h]; rfl
   rw [← e]
   exact q
  ·have e:btw lo hi (.int i)=false:=by show (decide (lo<=i) && decide (i<=hi))=_; rw [h]; rfl
   and_intros
   rw [← e]
   exact q
 | bool b =>
  refine bT ?_
  and_intros
  refine bF ?_
  and_intros
  exact q
 | _=>exact ⟨(λ z=>by cases z),λ _=>(by and_intros; exact q)⟩
theorem ZEO {d:PyData} {lo hi:Int} {g:G} {P:W->G->Prop} (q:P (.dat (.bool (btw lo hi d))) g):EvP (ZAT [.dat d,.dat (.int lo),.dat (.int hi)] g) P:=by
 refine ZHL ?_
 and_intros
 refine ZJ4 ?_
 and_intros
 cases d with
 | int i =>
  refine bT ?_
  and_intros
  refine ⟨λ h=>?_,λ h=>?_⟩
  ·and_intros
   have e:btw lo hi (.int i)=decide (i<=hi):=by show (decide (lo<=i) && decide (i<=hi))=_; rw [h]; rfl
   rw [← e]
   exact q
  ·have e:btw lo hi (.int i)=false:=by show (decide (lo<=i) && decide (i<=hi))=_; rw [h]; rfl
   and_intros
   rw [← e]
   exact q
 | _=>exact ⟨(λ z=>by cases z),λ _=>(by and_intros; exact q)⟩
theorem ZFM {d:PyData} {n:Nat} {g:G} {P:W->G->Prop} (q:P (.dat (.bool (tof n d))) g):EvP (Zv [.dat d,.dat (.int n)] g) P:=by
 refine ZGY ?_
 and_intros
 cases d with
 | tuple ds =>
  refine bT ?_
  and_intros
  rw [Zb,show decide ((ds.length:Int)=(n:Int))=decide (ds.length=n) from decide_eq_decide.mpr ⟨λ z=>by omega,λ z=>by omega⟩]
  exact q
 | _=>exact ⟨(λ z=>by cases z),λ _=>(by and_intros; exact q)⟩
def cnt:PyData->Bool
 | .int i=>decide (0<=i)
 | _=>false
theorem ZJH {d:PyData} {g:G} {P:W->G->Prop} (q:P (.dat (.bool (cnt d))) g):EvP (ZBK [.dat d] g) P:=by
 refine ZJ2 ?_
 and_intros
 refine ZJ4 ?_
 and_intros
 cases d with
 | int i =>
  refine bT ?_
  and_intros
  exact q
 | _=>exact ⟨(λ z=>by cases z),λ _=>(by and_intros; exact q)⟩
def its:PyData->List PyData
 | .tuple ds=>ds
 | _=>[]
def el (d:PyData) (i:Nat):PyData:=(its d).getD i .none
theorem ZAg {n:Nat} {d:PyData} (h:tof n d=true):d=.tuple (its d)/\(its d).length=n:=by
 cases d with
 | tuple ds=>exact ⟨rfl,of_decide_eq_true h⟩
 | _=>cases h
theorem ZOM {n i:Nat} {d:PyData} {g:G} {P:W->G->Prop} (h:tof n d=true) (hi:i < n) (q:P (.dat (el d i)) g):EvP (Zf (.dat d) (.dat (.int (i:Int))) g) P:=by
 obtain ⟨e,hl⟩:=ZAg h
 unfold el at q
 rw [e]
 have hi2:i < (its d).length:=by omega
 refine ZA1 (d:=(its d).getD i .none) (ZE2 (by rw [List.getD_eq_getElem?_getD,List.getElem?_eq_getElem hi2]; rfl)) q
def wrd (d:PyData):Bool:=tof 2 d && (cnt (el d 0) && btw 0 3 (el d 1))
theorem ZPP {d:PyData} {g:G} {P:W->G->Prop} (q:P (.dat (.bool (wrd d))) g):EvP (ZB3 [.dat d] g) P:=by
 refine ZK2 ?_
 unfold wrd at q
 and_intros
 refine ZFM (n:=2) ?_
 and_intros
 refine ⟨λ h=>?_,λ h=>?_⟩
 ·rw [h,Bool.true_and] at q
  and_intros
  refine ZOM (i:=0) h (by decide) ?_
  and_intros
  refine ZJH ?_
  and_intros
  refine ⟨λ h2=>?_,λ h2=>?_⟩
  ·rw [h2,Bool.true_and] at q
   and_intros
   refine ZOM (i:=1) h (by decide) ?_
   and_intros
   refine ZEO ?_
   and_intros
   exact q
  ·rw [h2,Bool.false_and] at q
   and_intros
   exact q
 ·rw [h,Bool.false_and] at q
  and_intros
  exact q
theorem ZKR {ds:List PyData} {c:PyData->Bool} {g:G} {P:W->G->Prop} (q:P (.dat (.bool (ds.all c))) g):EvP (f1 ZFt [.dat (.list (ds.map λ x=>.bool (c x)))] g) P:=by
 rw [show ds.map (λ x=>PyData.bool (c x))=(ds.map c).map .bool by rw [List.map_map]; rfl]
 exact ZP4 (by rw [List.all_map]; exact q)
def ZG3 (w:PyData):Bool:=tof 2 w && (btw 0 1000000 (el w 0) && btw 0 3 (el w 1))
def bkB (n:Nat) (d:PyData):Bool:=tof n d && (its d).all ZG3
def arB (n:Nat) (hi:Int) (d:PyData):Bool:=tof n d && (its d).all (btw 0 hi)
theorem ZOx {n:Nat} {d:PyData} {g:G} {P:W->G->Prop} (hn:n<=1000) (q:P (.dat (.bool (bkB n d))) g):EvP (ZAO [.dat d,.dat (.int n)] g) P:=by
 refine ZFa ?_
 unfold bkB at q
 and_intros
 refine ZFM ?_
 and_intros
 cases h:tof n d with
 | false =>
  rw [h,Bool.false_and] at q
  refine bT ?_
  and_intros
  exact q
 | true =>
  rw [h,Bool.true_and] at q
  obtain ⟨e,hl⟩:=ZAg h
  refine bF ?_
  rw [e]
  and_intros
  refine ⟨by omega,?_⟩
  refine ZBC id (λ x=>.bool (ZG3 x)) (its d) (List.map_id _).symm trivial (λ x hx=>⟨_,by rw [Zu],?_⟩) ?_
  ·and_intros
   refine ZPP ?_
   and_intros
   rw [id]
   unfold ZG3 wrd
   cases h2:tof 2 x with
   | false=>exact ⟨(λ z=>by cases z),λ _=>⟨rfl,rfl⟩⟩
   | true =>
    cases h3:el x 0 with
    | int a =>
     show ((true && (decide (0<=a) && btw 0 3 (el x 1)))=true->_)/\_
     refine ⟨λ z=>?_,λ z=>?_⟩
     ·rw [Bool.true_and,Bool.and_eq_true] at z
      and_intros
      refine ZOM (i:=0) h2 (by decide) ?_
      rw [h3]
      and_intros
      refine ⟨?_,rfl⟩
      show W.dat (.bool (decide (a<=1000000)))=.dat (.bool (true && ((decide (0<=a) && decide (a<=1000000)) && btw 0 3 (el x 1))))
      rw [z.1,z.2,Bool.true_and,Bool.true_and,Bool.and_true]
     ·refine ⟨?_,rfl⟩
      rw [Bool.true_and] at z
      show W.dat (.bool false)=.dat (.bool (true && ((decide (0<=a) && decide (a<=1000000)) && btw 0 3 (el x 1))))
      have z:(decide (0<=a) && btw 0 3 (el x 1))=false:=z
      rw [Bool.true_and,Bool.and_right_comm,z,Bool.false_and]
    | _=>exact ⟨(λ z=>by cases z),λ _=>⟨rfl,rfl⟩⟩
  and_intros
  refine ZKR ?_
  and_intros
  exact q
theorem ZM1 {n:Nat} {hi:Int} {d:PyData} {g:G} {P:W->G->Prop} (hn:n<=1000) (q:P (.dat (.bool (arB n hi d))) g):EvP (ZAU [.dat d,.dat (.int n),.dat (.int hi)] g) P:=by
 refine ZGh ?_
 unfold arB at q
 and_intros
 refine ZFM ?_
 and_intros
 cases h:tof n d with
 | false =>
  rw [h,Bool.false_and] at q
  refine bF ?_
  and_intros
  exact q
 | true =>
  rw [h,Bool.true_and] at q
  obtain ⟨e,hl⟩:=ZAg h
  refine bT ?_
  rw [e]
  and_intros
  refine ⟨by omega,?_⟩
  refine ZBC id (λ x=>.bool (btw 0 hi x)) (its d) (List.map_id _).symm trivial (λ x hx=>⟨_,by rw [Zu],?_⟩) ?_
  ·and_intros
   refine ZEO ?_
   exact ⟨rfl,rfl⟩
  and_intros
  refine ZKR ?_
  and_intros
  exact q
theorem ZJS {n:Nat} {hi:Int} {d:PyData} (h:arB n hi d=true):∃ ns:List Int,its d=ns.map .int/\ns.length=n/\(∀ k ∈ ns,0<=k/\k<=hi)/\d=.tuple (ns.map .int):=by
 unfold arB at h
 rw [Bool.and_eq_true] at h
 obtain ⟨e,hl⟩:=ZAg h.1
 have h2:=h.2
 rw [List.all_eq_true] at h2
 suffices g:∀ ds:List PyData,(∀ x ∈ ds,btw 0 hi x=true)->∃ ns:List Int,ds=ns.map .int/\∀ k ∈ ns,0<=k/\k<=hi by
  obtain ⟨ns,e2,hk⟩:=g _ h2
  exact ⟨ns,e2,by rw [← hl,e2,List.length_map],hk,by rw [← e2]; exact e⟩
 intro ds
 induction ds with
 | nil=>exact λ _=>⟨[],rfl,λ k hk=>by cases hk⟩
 | cons x r ih =>
  intro hx
  obtain ⟨ns,e2,hk⟩:=ih λ y hy=>hx y (List.mem_cons_of_mem _ hy)
  have h1:=hx x (List.mem_cons_self ..)
  cases x with
  | int a =>
   have h1:(decide (0<=a) && decide (a<=hi))=true:=h1
   rw [Bool.and_eq_true,decide_eq_true_eq,decide_eq_true_eq] at h1
   exact ⟨a :: ns,by rw [e2]; rfl,λ k hk2=>by rcases List.mem_cons.mp hk2 with rfl | hk2; exact h1; exact hk k hk2⟩
  | _=>cases h1
theorem ZKe (ns:List Int):ZBg (ns.map .int)=some ns:=by
 induction ns with
 | nil=>rfl
 | cons a r ih=>show (ZBg (r.map .int)).map _=_ ; rw [ih]; rfl
def tmR (n at_:Nat) (up w:Int) (d:PyData):Bool:=arB n w d && ((PyData.eqv (el d at_) (.int 0)) && (decide (up=1) || !((its d).any λ x=>!(x.eqv (.int 0)))))
theorem ZLu {r:Ru} {n at_:Nat} {up:Int} {d:PyData} {g:G} {P:W->G->Prop} (hn:n<=1000) (ha:at_ < n) (q:P (.dat (.bool (tmR n at_ up r.w d))) g):EvP (ZAr [.dat (ruD r),.dat (.int n),.dat (.int at_),.dat (.int up),.dat d] g) P:=by
 refine ZG5 ?_
 unfold tmR at q
 and_intros
 refine ZM1 hn ?_
 and_intros
 cases h:arB n r.w d with
 | false =>
  rw [h,Bool.false_and] at q
  refine bT ?_
  and_intros
  exact q
 | true =>
  rw [h,Bool.true_and] at q
  refine bF ?_
  obtain ⟨ns,e1,hl,hk,e2⟩:=ZJS h
  have ht:tof n d=true:=by
   unfold arB at h
   rw [Bool.and_eq_true] at h
   exact h.1
  have hat:at_ < ns.length:=by omega
  have e3:el d at_=.int ns[at_]:=by
   unfold el
   rw [e1,List.getD_eq_getElem?_getD,List.getElem?_map,List.getElem?_eq_getElem hat]
   rfl
  and_intros
  refine ZOM ht ha ?_
  rw [e3]
  rw [e3] at q
  and_intros
  refine ⟨λ h1=>?_,λ h1=>?_⟩
  ·rw [h1,Bool.true_and] at q
   and_intros
   rw [Zb]
   refine ⟨λ h2=>?_,λ h2=>?_⟩
   ·rw [h2,Bool.true_or] at q
    and_intros
    exact q
   ·rw [h2,Bool.false_or,e1] at q
    rw [e2]
    and_intros
    refine ZGr (ZKe ns) rfl ?_
    and_intros
    rw [show (List.any (ns.map PyData.int) λ x=>!(x.eqv (.int 0)))=ns.any λ k=>k != 0 by
     rw [List.any_map]
     exact congrArg (λ f=>ns.any f) (funext λ k=>show (!(PyData.int k).eqv (.int 0))=(k != 0) from (by rw [Zb]; rfl))] at q
    exact q
  ·rw [h1,Bool.false_and] at q
   and_intros
   exact q
def upI:PyData->Int
 | .int i=>i
 | _=>0
def hsR (r:Ru) (n at_:Nat) (d:PyData):Bool:=tof 4 d && ((btw 0 1 (el d 0) && (bkB n (el d 1) && arB n r.t (el d 2))) && tmR n at_ (upI (el d 0)) r.w (el d 3))
theorem ZSL {d:PyData} (h:tof 4 d=true):d=.tuple [el d 0,el d 1,el d 2,el d 3]:=by
 obtain ⟨e,hl⟩:=ZAg h
 unfold el
 revert e hl
 generalize its d=ds
 intro e hl
 match ds,hl with
 | [a,b,c,f],_=>exact e
theorem ZPn {d:PyData} (h:tof 2 d=true):d=.tuple [el d 0,el d 1]:=by
 obtain ⟨e,hl⟩:=ZAg h
 unfold el
 revert e hl
 generalize its d=ds
 intro e hl
 match ds,hl with
 | [a,b],_=>exact e
theorem ZF5 {lo hi:Int} {d:PyData} (h:btw lo hi d=true):d=.int (upI d)/\lo<=upI d/\upI d<=hi:=by
 cases d with
 | int a =>
  have h:(decide (lo<=a) && decide (a<=hi))=true:=h
  rw [Bool.and_eq_true,decide_eq_true_eq,decide_eq_true_eq] at h
  exact ⟨rfl,h⟩
 | _=>cases h
theorem ZMp {r:Ru} {n at_:Nat} {d:PyData} {g:G} {P:W->G->Prop} (hn:n<=1000) (ha:at_ < n) (q:P (.dat (.bool (hsR r n at_ d))) g):EvP (ZBi [.dat (ruD r),.dat (.int n),.dat (.int at_),.dat d] g) P:=by
 refine ZJM ?_
 unfold hsR at q
 and_intros
 refine ZFM (n:=4) ?_
 and_intros
 cases h:tof 4 d with
 | false =>
  rw [h,Bool.false_and] at q
  refine bT ?_
  and_intros
  exact q
 | true =>
  rw [h,Bool.true_and] at q
  refine bF ?_
  revert q
  rw [ZSL h]
  show P (.dat (.bool ((btw 0 1 (el d 0) && (bkB n (el d 1) && arB n r.t (el d 2))) && tmR n at_ (upI (el d 0)) r.w (el d 3)))) g->_
  generalize el d 0=u
  generalize el d 1=bk
  generalize el d 2=td
  generalize el d 3=tm
  intro q
  and_intros
  refine ZEO ?_
  and_intros
  cases h1:btw 0 1 u with
  | false =>
   rw [h1,Bool.false_and,Bool.false_and] at q
   refine ⟨(λ z=>by cases z),λ _=>⟨λ _=>?_,(λ z=>by cases z)⟩⟩
   and_intros
   exact q
  | true =>
   rw [h1,Bool.true_and] at q
   refine bT ?_
   and_intros
   refine ZOx hn ?_
   and_intros
   cases h2:bkB n bk with
   | false =>
    rw [h2,Bool.false_and,Bool.false_and] at q
    refine ⟨(λ z=>by cases z),λ _=>⟨λ _=>?_,(λ z=>by cases z)⟩⟩
    and_intros
    exact q
   | true =>
    rw [h2,Bool.true_and] at q
    refine bT ?_
    and_intros
    refine ZM1 hn ?_
    and_intros
    cases h3:arB n r.t td with
    | false =>
     rw [h3,Bool.false_and] at q
     refine bT ?_
     and_intros
     exact q
    | true =>
     rw [h3,Bool.true_and] at q
     refine bF ?_
     obtain ⟨e,_⟩:=ZF5 h1
     rw [e]
     and_intros
     refine ZLu hn ha ?_
     and_intros
     exact q
theorem ZKL {α : Type} {L:List α} {c : α->Bool} {g:G} {P:W->G->Prop} (q:P (.dat (.bool (L.all c))) g):EvP (f1 ZFt [.dat (.list (L.map λ x=>.bool (c x)))] g) P:=by
 rw [show L.map (λ x=>PyData.bool (c x))=(L.map c).map .bool by rw [List.map_map]; rfl]
 exact ZP4 (by rw [List.all_map]; exact q)
def stR (r:Ru) (n:Nat) (d:PyData):Bool:=tof 2 d && ((cnt (el d 0) && tof n (el d 1)) && (List.range n).all λ j=>hsR r n j (el (el d 1) j))
theorem ZLH {r:Ru} {ts:List (Int × Int)} {d:PyData} {g:G} {P:W->G->Prop} (hn:ts.length<=1000) (q:P (.dat (.bool (stR r ts.length d))) g):EvP (ZBL [.dat (ruD r),.dat (Zw ts),.dat d] g) P:=by
 refine ZJ6 ?_
 unfold stR at q
 and_intros
 refine ZFM (n:=2) ?_
 and_intros
 cases h:tof 2 d with
 | false =>
  rw [h,Bool.false_and] at q
  refine bT ?_
  and_intros
  exact q
 | true =>
  rw [h,Bool.true_and] at q
  refine bF ?_
  revert q
  rw [ZPn h]
  show P (.dat (.bool ((cnt (el d 0) && tof ts.length (el d 1)) && (List.range ts.length).all λ j=>hsR r ts.length j (el (el d 1) j)))) g->_
  generalize el d 0=tn
  generalize el d 1=hs
  intro q
  and_intros
  refine ZJH ?_
  and_intros
  cases h1:cnt tn with
  | false =>
   rw [h1,Bool.false_and,Bool.false_and] at q
   refine ⟨(λ z=>by cases z),λ _=>⟨λ _=>?_,(λ z=>by cases z)⟩⟩
   and_intros
   exact q
  | true =>
   rw [h1,Bool.true_and] at q
   refine bT ?_
   and_intros
   rw [List.length_map]
   refine ZFM ?_
   and_intros
   cases h2:tof ts.length hs with
   | false =>
    rw [h2,Bool.false_and] at q
    refine bT ?_
    and_intros
    exact q
   | true =>
    rw [h2,Bool.true_and] at q
    refine bF ?_
    obtain ⟨e,hl⟩:=ZAg h2
    rw [e]
    and_intros
    refine ⟨by rw [ZBR]; omega,?_⟩
    refine ZBC (λ j:Nat=>PyData.tuple [.int (j:Int),el hs j]) (λ j=>.bool (hsR r ts.length j (el hs j))) (List.range ts.length) (by have:=ZFg (enc:=id) PyData.none (its hs); rw [List.map_id] at this; rw [this,hl]; rfl) trivial (λ j hj=>⟨_,rfl,?_⟩) ?_
    ·and_intros
     rw [hl]
     refine ZMp hn (List.mem_range.mp hj) ?_
     exact ⟨rfl,rfl⟩
    and_intros
    refine ZKL ?_
    and_intros
    exact q
theorem ZMs {xs:List PyData} {pt:Pat} {db:DS} {P:Out->Prop} {g:G} {sd:Sd} (c:PyData->Bool) (J:Sd->Prop) (h0:J sd)
  (hs:∀ x sd,x ∈ xs->J sd->∃ sd1,Zu pt (.dat x) sd=some sd1/\(c x=true->EvS (db sd1 g) λ o=>∃ sd2,o=.nx sd2 g/\J sd2)/\(c x=false->EvS (db sd1 g) λ o=>o=.rt (.dat (.bool false)) g))
  (h1:xs.all c=true->∀ sd,J sd->P (.nx sd g)) (h2:xs.all c=false->P (.rt (.dat (.bool false)) g)):EvS (ZAn none xs pt db xs sd g) P:=by
 refine ZB7 (λ i sd gx=>gx=g/\J sd/\(xs.take i).all c=true) ⟨rfl,h0,rfl⟩ ?_ ?_
 ·rintro i x sd gx hx ⟨rfl,hj,ht⟩
  have hm:=List.mem_of_getElem? hx
  obtain ⟨sd1,e,a,b⟩:=hs x sd hm hj
  refine ⟨sd1,e,?_⟩
  cases hc:c x with
  | true =>
   obtain ⟨o,e2,sd2,rfl,hj2⟩:=a hc
   refine ⟨_,e2,trivial,rfl,hj2,?_⟩
   rw [List.take_add_one,List.all_append,ht,hx]
   show (true && (c x && true))=true
   rw [hc]
   rfl
  | false =>
   obtain ⟨o,e2,rfl⟩:=b hc
   refine ⟨_,e2,h2 ?_⟩
   cases hz:xs.all c with
   | false=>rfl
   | true =>
    rw [List.all_eq_true.mp hz x hm] at hc
    cases hc
 ·rintro sd gx ⟨rfl,hj,ht⟩
  rw [List.take_length] at ht
  exact h1 ht sd hj
def tmL (n at_:Nat) (m:Int) (d:PyData):Bool:=(List.range n).all λ j=>btw 0 (m * (if (!decide ((j:Int)=(at_:Int)))=true then 1 else 0)) (el d j)
def hsL (r:Ru) (n at_:Nat) (d:PyData):Bool:=tof 4 d && (btw 0 1 (el d 0) && ([el d 1,el d 2,el d 3].all (tof n) && ((its (el d 1)).all ZG3 && ((its (el d 2)).all (btw 0 r.t) && tmL n at_ (r.w * upI (el d 0)) (el d 3)))))
theorem ZMN {r:Ru} {n at_:Nat} {d:PyData} {g:G} {P:W->G->Prop} (hr:RuOk r) (hn:n<=1000) (ha:at_ < n) (q:P (.dat (.bool (hsL r n at_ d))) g):EvP (ZAL [.dat (ruD r),.dat (.int n),.dat (.int at_),.dat d] g) P:=by
 have hw:=hr.w
 refine ZFK ?_
 unfold hsL at q
 and_intros
 cases h:tof 4 d with
 | false =>
  rw [h,Bool.false_and] at q
  cases d with
  | tuple ds =>
   refine bF ?_
   and_intros
   rw [Zb,decide_eq_false (show ¬ (ds.length:Int)=4 by have : ¬ ds.length=4:=of_decide_eq_false h; omega)]
   refine ⟨λ _=>⟨λ _=>?_,(λ z=>by cases z)⟩,(λ z=>by cases z)⟩
   and_intros
   exact q
  | _ =>
   refine ⟨λ _=>⟨λ _=>?_,(λ z=>by cases z)⟩,(λ z=>by cases z)⟩
   and_intros
   exact q
 | true =>
  rw [h,Bool.true_and] at q
  revert q
  rw [ZSL h]
  show P (.dat (.bool (btw 0 1 (el d 0) && ([el d 1,el d 2,el d 3].all (tof n) && ((its (el d 1)).all ZG3 && ((its (el d 2)).all (btw 0 r.t) && tmL n at_ (r.w * upI (el d 0)) (el d 3))))))) g->_
  generalize el d 0=u
  generalize el d 1=bk
  generalize el d 2=td
  generalize el d 3=tm
  intro q
  refine bF ?_
  and_intros
  rw [Zb,decide_eq_true (show (([u,bk,td,tm].length:Nat):Int)=4 from rfl)]
  refine bF ?_
  and_intros
  refine ZBl ?_
  and_intros
  cases h1:btw 0 1 u with
  | false =>
   rw [h1,Bool.false_and] at q
   refine bT ?_
   and_intros
   exact q
  | true =>
   rw [h1,Bool.true_and] at q
   refine bF ?_
   obtain ⟨eu,hu0,hu1⟩:=ZF5 h1
   and_intros
   show EvS (ZAn none [bk,td,tm] _ _ [bk,td,tm] _ _) _
   refine ZMs (tof n) (λ sd=>∃ z4 z5 z6,sd=[some (.dat (ruD r)),some (.dat (.int (n:Int))),some (.dat (.int (at_:Int))),some (.dat (.tuple [u,bk,td,tm])),z4,z5,z6]) ⟨_,_,_,rfl⟩ ?_ ?_ ?_
   ·rintro x sd hx ⟨z4,z5,z6,rfl⟩
    refine ⟨_,by rw [Zu],λ hc=>?_,λ hc=>?_⟩
    ·obtain ⟨e,hl⟩:=ZAg hc
     rw [e]
     and_intros
     refine bF ?_
     and_intros
     rw [Zb,decide_eq_true (by rw [hl])]
     refine bF ?_
     and_intros
     exact ⟨_,_,_,rfl⟩
    ·cases x with
     | tuple ds =>
      and_intros
      refine bF ?_
      and_intros
      rw [Zb,decide_eq_false (by have : ¬ ds.length=n:=of_decide_eq_false hc; omega)]
      refine bT ?_
      and_intros
      exact rfl
     | _ =>
      and_intros
      refine ⟨λ _=>⟨λ _=>?_,(λ z=>by cases z)⟩,(λ z=>by cases z)⟩
      and_intros
      exact rfl
   ·intro h2 sd
    rintro ⟨z4,z5,z6,rfl⟩
    rw [h2,Bool.true_and] at q
    have h3:=List.all_eq_true.mp h2
    have hb:=h3 bk (by simp)
    have ht:=h3 td (by simp)
    have hm:=h3 tm (by simp)
    obtain ⟨bs,rfl⟩:∃ bs,bk=.tuple bs:=⟨_,(ZAg hb).1⟩
    obtain ⟨tds,rfl⟩:∃ bs,td=.tuple bs:=⟨_,(ZAg ht).1⟩
    obtain ⟨tms,rfl⟩:∃ bs,tm=.tuple bs:=⟨_,(ZAg hm).1⟩
    have lb:bs.length=n:=(ZAg hb).2
    have lt:tds.length=n:=(ZAg ht).2
    have lm:tms.length=n:=(ZAg hm).2
    have q:P (.dat (.bool (bs.all ZG3 && (tds.all (btw 0 r.t) && tmL n at_ (r.w * upI u) (.tuple tms))))) g:=q
    clear h2 h3 hb ht
    and_intros
    refine ZMs ZG3 (λ sd=>∃ z4 z5 z6,sd=[some (.dat (ruD r)),some (.dat (.int (n:Int))),some (.dat (.int (at_:Int))),some (.dat (.tuple [u,.tuple bs,.tuple tds,.tuple tms])),z4,z5,z6]) ⟨_,_,_,rfl⟩ ?_ ?_ ?_
    ·rintro x sd hx ⟨z4,z5,z6,rfl⟩
     refine ⟨_,by rw [Zu],λ hc=>?_,λ hc=>?_⟩
     ·unfold ZG3 at hc
      rw [Bool.and_eq_true,Bool.and_eq_true] at hc
      have hc1:=hc.1
      rw [ZPn hc.1]
      and_intros
      refine bF ?_
      and_intros
      rw [Zb,decide_eq_true (show (([el x 0,el x 1].length:Nat):Int)=2 from rfl)]
      refine bF ?_
      and_intros
      refine ZBl ?_
      rw [hc.2.1]
      and_intros
      refine bF ?_
      and_intros
      refine ZBl ?_
      rw [hc.2.2]
      and_intros
      refine bF ?_
      and_intros
      exact ⟨_,_,_,rfl⟩
     ·unfold ZG3 at hc
      cases hx2:tof 2 x with
      | false =>
       cases x with
       | tuple ds =>
        and_intros
        refine bF ?_
        and_intros
        rw [Zb,decide_eq_false (by have : ¬ ds.length=2:=of_decide_eq_false hx2; omega)]
        refine bT ?_
        and_intros
        exact rfl
       | _ =>
        and_intros
        refine ⟨λ _=>⟨λ _=>?_,(λ z=>by cases z)⟩,(λ z=>by cases z)⟩
        and_intros
        exact rfl
      | true =>
       rw [hx2,Bool.true_and] at hc
       rw [ZPn hx2]
       and_intros
       refine bF ?_
       and_intros
       rw [Zb,decide_eq_true (show (([el x 0,el x 1].length:Nat):Int)=2 from rfl)]
       refine bF ?_
       and_intros
       refine ZBl ?_
       and_intros
       cases h5:btw 0 1000000 (el x 0) with
       | false =>
        refine ⟨λ _=>⟨λ _=>?_,(λ z=>by cases z)⟩,(λ z=>by cases z)⟩
        and_intros
        exact rfl
       | true =>
        rw [h5,Bool.true_and] at hc
        refine bF ?_
        and_intros
        refine ZBl ?_
        rw [hc]
        and_intros
        refine bT ?_
        and_intros
        exact rfl
    ·intro h2 sd
     rintro ⟨z4,z5,z6,rfl⟩
     rw [h2,Bool.true_and] at q
     and_intros
     refine ⟨by omega,?_⟩
     refine ZBC id (λ x=>.bool (btw 0 r.t x)) tds (List.map_id _).symm trivial (λ x hx=>⟨_,by rw [Zu],?_⟩) ?_
     ·and_intros
      refine ZBl ?_
      exact ⟨rfl,rfl⟩
     and_intros
     refine ZKR ?_
     and_intros
     cases h4:tds.all (btw 0 r.t) with
     | false =>
      rw [h4,Bool.false_and] at q
      refine bT ?_
      and_intros
      exact q
     | true =>
      rw [h4,Bool.true_and] at q
      refine bF ?_
      rw [eu]
      and_intros
      refine ZEM (ZDz (by omega)) ?_
      and_intros
      refine ⟨by rw [ZBR]; omega,?_⟩
      refine ZBC (λ j:Nat=>PyData.tuple [.int (j:Int),el (.tuple tms) j]) (λ j=>.bool (btw 0 (r.w * upI u * (if (!decide ((j:Int)=(at_:Int)))=true then 1 else 0)) (el (.tuple tms) j))) (List.range n) (by have:=ZFg (enc:=id) PyData.none tms; rw [List.map_id] at this; rw [this,lm]; rfl) trivial (λ j hj=>⟨_,rfl,?_⟩) ?_
      ·and_intros
       rw [Zb]
       refine ZEM (ZDz (ib1 _)) ?_
       and_intros
       refine ZBl ?_
       exact ⟨rfl,rfl⟩
      and_intros
      refine ZKL ?_
      and_intros
      exact q
    ·intro h2
     rw [h2,Bool.false_and] at q
     and_intros
     exact q
   ·intro h2
    rw [h2,Bool.false_and] at q
    and_intros
    exact q
theorem ZNq {n:Nat} {d x:PyData} (h:tof n d=true) (hx:x ∈ its d):∃ j,j < n/\x=el d j:=by
 obtain ⟨e,hl⟩:=ZAg h
 obtain ⟨j,hj,rfl⟩:=List.mem_iff_getElem.mp hx
 exact ⟨j,by omega,by unfold el; rw [List.getD_eq_getElem?_getD,List.getElem?_eq_getElem hj]; rfl⟩
theorem ZKk {lo hi a:Int} (h1:lo<=a) (h2:a<=hi):btw lo hi (.int a)=true:=by
 show (decide (lo<=a) && decide (a<=hi))=true
 rw [decide_eq_true h1,decide_eq_true h2]
 rfl
theorem ZO5 {n at_:Nat} {up w:Int} {d:PyData} (ha:at_ < n) (hw : 0<=w) (hu:up=0 ∨ up=1) (ht:tof n d=true):tmL n at_ (w * up) d=tmR n at_ up w d:=by
 have hat:∀ b:Bool,0<=(if b=true then (1:Int) else 0):=λ b=>by cases b <;> decide
 rw [Bool.eq_iff_iff]
 unfold tmL tmR
 rw [List.all_eq_true,Bool.and_eq_true,Bool.and_eq_true,Bool.or_eq_true]
 constructor
 ·intro h
  have h0:∀ j,j < n->el d j=.int (upI (el d j))/\0<=upI (el d j)/\upI (el d j)<=w * up * (if (!decide ((j:Int)=(at_:Int)))=true then 1 else 0):=λ j hj=>ZF5 (h j (List.mem_range.mpr hj))
  have hz:∀ j,j < n->upI (el d j)<=w * up:=λ j hj=>by
   have:=(h0 j hj).2.2
   cases hc : !decide ((j:Int)=(at_:Int)) with
   | true=>rw [hc,if_pos rfl,Int.mul_one] at this; exact this
   | false =>
    rw [hc,if_neg Bool.false_ne_true,Int.mul_zero] at this
    rcases hu with rfl | rfl
    ·omega
    ·omega
  refine ⟨?_,?_,?_⟩
  ·unfold arB
   rw [ht,Bool.true_and,List.all_eq_true]
   intro x hx
   obtain ⟨j,hj,rfl⟩:=ZNq ht hx
   rw [(h0 j hj).1]
   refine ZKk (h0 j hj).2.1 ?_
   have:=hz j hj
   rcases hu with rfl | rfl <;> omega
  ·have:=(h0 at_ ha).2.2
   rw [decide_eq_true rfl,Bool.not_true,if_neg Bool.false_ne_true,Int.mul_zero] at this
   rw [(h0 at_ ha).1,Zb,decide_eq_true_eq]
   have:=(h0 at_ ha).2.1
   omega
  ·rcases hu with rfl | rfl
   ·refine .inr ?_
    rw [Bool.not_eq_true']
    rw [List.any_eq_false]
    intro x hx
    obtain ⟨j,hj,rfl⟩:=ZNq ht hx
    rw [(h0 j hj).1,Zb]
    have h1:=hz j hj
    have h2:=(h0 j hj).2.1
    rw [decide_eq_true (show upI (el d j)=0 by omega)]
    exact Bool.false_ne_true
   ·exact .inl rfl
 ·rintro ⟨h1,h2,h3⟩ j hj
  rw [List.mem_range] at hj
  obtain ⟨ns,e1,hl,hk,e2⟩:=ZJS h1
  have hel:∀ i,(hi:i < n)->el d i=.int (ns[i]'(by omega)):=λ i hi=>by
   unfold el
   rw [e1,List.getD_eq_getElem?_getD,List.getElem?_map,List.getElem?_eq_getElem (by omega)]
   rfl
  rw [hel j hj]
  have hb:=hk _ (List.getElem_mem (l:=ns) (n:=j) (by omega))
  refine ZKk hb.1 ?_
  by_cases hja:j=at_
  ·subst hja
   rw [hel j hj,Zb,decide_eq_true_eq] at h2
   rw [h2,decide_eq_true rfl,Bool.not_true,if_neg Bool.false_ne_true,Int.mul_zero]
   exact Int.le_refl _
  ·rw [decide_eq_false (by omega),Bool.not_false,if_pos rfl,Int.mul_one]
   rcases h3 with h3 | h3
   ·rw [of_decide_eq_true h3]
    omega
   ·rw [Bool.not_eq_true',List.any_eq_false] at h3
    have h4:=h3 (.int (ns[j]'(by omega))) (by rw [e1]; exact List.mem_map.mpr ⟨_,List.getElem_mem _,rfl⟩)
    rw [Zb] at h4
    have h5:ns[j]'(by omega)=0:=by
     by_cases z:ns[j]'(by omega)=0
     ·exact z
     ·rw [decide_eq_false z] at h4
      exact absurd rfl h4
    rw [h5]
    rcases hu with rfl | rfl <;> omega
theorem ZLZ {r:Ru} {n at_:Nat} {d:PyData} (hr:RuOk r) (ha:at_ < n):hsL r n at_ d=hsR r n at_ d:=by
 unfold hsL hsR
 cases h1:btw 0 1 (el d 0) with
 | false=>rfl
 | true =>
  obtain ⟨e,h2,h3⟩:=ZF5 h1
  have hu:upI (el d 0)=0 ∨ upI (el d 0)=1:=by omega
  have hw : 0<=r.w:=by have:=hr.w.1; omega
  congr 1
  unfold bkB arB
  show (true && ((tof n (el d 1) && (tof n (el d 2) && (tof n (el d 3) && true))) && _))=_
  cases hb:tof n (el d 1) with
  | false=>rfl
  | true =>
   cases ht:tof n (el d 2) with
   | false=>simp
   | true =>
    cases hm:tof n (el d 3) with
    | false =>
     have:tmR n at_ (upI (el d 0)) r.w (el d 3)=false:=by unfold tmR arB; rw [hm]; rfl
     rw [this]
     simp
    | true =>
     rw [ZO5 ha hw hu hm]
     simp [Bool.and_assoc]
def stL (r:Ru) (n:Nat) (d:PyData):Bool:=tof 2 d && (btw 0 1000000000 (el d 0) && (tof n (el d 1) && (List.range n).all λ j=>hsL r n j (el (el d 1) j)))
theorem ZMU {r:Ru} {ts:List (Int × Int)} {d:PyData} {g:G} {P:W->G->Prop} (hr:RuOk r) (hn:ts.length<=1000) (q:P (.dat (.bool (stL r ts.length d))) g):EvP (ZAP [.dat (ruD r),.dat (Zw ts),.dat d] g) P:=by
 refine ZFQ ?_
 unfold stL at q
 and_intros
 cases h:tof 2 d with
 | false =>
  rw [h,Bool.false_and] at q
  cases d with
  | tuple ds =>
   refine bF ?_
   and_intros
   rw [Zb,decide_eq_false (show ¬ (ds.length:Int)=2 by have : ¬ ds.length=2:=of_decide_eq_false h; omega)]
   refine ⟨λ _=>⟨λ _=>?_,(λ z=>by cases z)⟩,(λ z=>by cases z)⟩
   and_intros
   exact q
  | _ =>
   refine ⟨λ _=>⟨λ _=>?_,(λ z=>by cases z)⟩,(λ z=>by cases z)⟩
   and_intros
   exact q
 | true =>
  rw [h,Bool.true_and] at q
  revert q
  rw [ZPn h]
  show P (.dat (.bool (btw 0 1000000000 (el d 0) && (tof ts.length (el d 1) && (List.range ts.length).all λ j=>hsL r ts.length j (el (el d 1) j))))) g->_
  generalize el d 0=tn
  generalize el d 1=hs
  intro q
  refine bF ?_
  and_intros
  rw [Zb,decide_eq_true (show (([tn,hs].length:Nat):Int)=2 from rfl)]
  refine bF ?_
  and_intros
  refine ZBl ?_
  and_intros
  cases h1:btw 0 1000000000 tn with
  | false =>
   rw [h1,Bool.false_and] at q
   refine bT ?_
   and_intros
   exact q
  | true =>
   rw [h1,Bool.true_and] at q
   refine bF ?_
   and_intros
   cases h2:tof ts.length hs with
   | false =>
    rw [h2,Bool.false_and] at q
    cases hs with
    | tuple ds =>
     refine bF ?_
     and_intros
     rw [List.length_map,Zb,decide_eq_false (by have : ¬ ds.length=ts.length:=of_decide_eq_false h2; omega)]
     refine bT ?_
     and_intros
     exact q
    | _ =>
     refine ⟨λ _=>⟨λ _=>?_,(λ z=>by cases z)⟩,(λ z=>by cases z)⟩
     and_intros
     exact q
   | true =>
    rw [h2,Bool.true_and] at q
    obtain ⟨bs,rfl⟩:∃ bs,hs=.tuple bs:=⟨_,(ZAg h2).1⟩
    have hl:bs.length=ts.length:=(ZAg h2).2
    refine bF ?_
    and_intros
    rw [List.length_map,Zb,decide_eq_true (by rw [hl])]
    refine bF ?_
    and_intros
    refine ⟨by rw [ZBR]; omega,?_⟩
    refine ZBC (λ j:Nat=>PyData.tuple [.int (j:Int),el (.tuple bs) j]) (λ j=>.bool (hsL r ts.length j (el (.tuple bs) j))) (List.range ts.length) (by have:=ZFg (enc:=id) PyData.none bs; rw [List.map_id] at this; rw [this,hl]; rfl) trivial (λ j hj=>⟨_,rfl,?_⟩) ?_
    ·and_intros
     rw [List.length_map]
     refine ZMN hr hn (List.mem_range.mp hj) ?_
     exact ⟨rfl,rfl⟩
    and_intros
    refine ZKL ?_
    and_intros
    exact q
def T0 (d:PyData):Prop:=∀ i,el d 0=.int i->i<=1000000000
theorem ZOZ {r:Ru} {n:Nat} {d:PyData} (hr:RuOk r) (h:T0 d):stL r n d=stR r n d:=by
 unfold stL stR
 have e1:cnt (el d 0)=btw 0 1000000000 (el d 0):=by
  unfold T0 at h
  cases e:el d 0 with
  | int a =>
   show decide (0<=a)=(decide (0<=a) && decide (a<=1000000000))
   rw [decide_eq_true (h a e),Bool.and_true]
  | _=>rfl
 have e2:((List.range n).all λ j=>hsL r n j (el (el d 1) j))=(List.range n).all λ j=>hsR r n j (el (el d 1) j):=by
  rw [Bool.eq_iff_iff,List.all_eq_true,List.all_eq_true]
  exact ⟨λ z j hj=>by rw [← ZLZ hr (List.mem_range.mp hj)]; exact z j hj,λ z j hj=>by rw [ZLZ hr (List.mem_range.mp hj)]; exact z j hj⟩
 rw [e1,e2,Bool.and_assoc]
theorem ZJJ {a b:Bool}:(PyData.bool a).eqv (.bool b)=decide (a=b):=by
 cases a <;> cases b <;> rfl
theorem ZPk {r:Ru} {ts:List (Int × Int)} {d:PyData} {g:G} {P:W->G->Prop} (hr:RuOk r) (hn:ts.length<=1000) (h:T0 d) (q:P (.dat (.bool true)) g):EvP (ZBJ [.dat (ruD r),.dat (Zw ts),.dat d] g) P:=by
 refine ZIU ?_
 and_intros
 refine ZLH hn ?_
 and_intros
 refine bT ?_
 and_intros
 refine ZMU hr hn ?_
 rw [ZOZ hr h]
 and_intros
 rw [ZJJ,decide_eq_true rfl]
 exact q
theorem ZJe {d:PyData}:∀ n:Nat,(List.replicate n [d]).flatten=List.replicate n d
 | 0=>rfl
 | n+1=>by
  rw [List.replicate_succ,List.flatten_cons,ZJe n,List.replicate_succ]
  rfl
theorem ZMe {r:Ru} {ts:List (Int × Int)} {g:G} {P:W->G->Prop} (n2 : 2<=ts.length) (n8:ts.length<=8) (q:P (.dat (Zq 0 (List.replicate ts.length (ZFf r.t ts.length)))) g):EvP (ZDa [.dat (ruD r),.dat (Zw ts)] g) P:=by
 refine ZNJ ?_
 and_intros
 rw [List.length_map]
 refine ZFJ (by omega) (by omega) rfl (by show (1:Nat)<=20; decide) ?_
 and_intros
 refine ZFJ (by omega) (by omega) rfl (by show (1:Nat)<=20; decide) ?_
 and_intros
 refine ZFJ (by omega) (by omega) rfl (by show (1:Nat)<=20; decide) ?_
 and_intros
 refine ZFJ (by omega) (by omega) rfl (by show (1:Nat)<=20; decide) ?_
 and_intros
 rw [Int.toNat_natCast]
 have e:Zq 0 (List.replicate ts.length (ZFf r.t ts.length))=.tuple [.int 0,.tuple (List.replicate ts.length (.tuple [.int 1,.tuple (List.replicate ts.length (Zj (0,0))),.tuple (List.replicate ts.length (.int r.t)),.tuple (List.replicate ts.length (.int 0))]))]:=by
  unfold Zq ZFf
  rw [List.map_replicate]
  show PyData.tuple [.int 0,.tuple (List.replicate ts.length (PyData.tuple [.int 1,.tuple ((List.replicate ts.length ((0:Int),(0:Int))).map Zj),.tuple ((List.replicate ts.length r.t).map .int),.tuple ((List.replicate ts.length (0:Int)).map .int)]))]=_
  rw [List.map_replicate,List.map_replicate,List.map_replicate]
 rw [e] at q
 rw [ZJe,ZJe,ZJe,ZJe]
 exact q
structure TnOk (r:Ru) (ts:List (Int × Int)):Prop where
 cl:r.cl.Sublist ZCS
 ru:RuOk r
 n2 : 2<=ts.length
 n8:ts.length<=8
 ck:∀ c ∈ ts,ZL2 c
theorem TnOk.en {r:Ru} {ts:List (Int × Int)} (t:TnOk r ts) {tn:Int} {lo:List Int}:EnOk ⟨r,ts,tn,lo⟩:=⟨t.cl,t.ru,t.n2,t.n8,t.ck⟩
theorem ZOh {r:Ru} {ts:List (Int × Int)} {s:Sx} {d:Do4} {g:G} {P:W->G->Prop} (t:TnOk r ts) (w:HsL ts.length s.2) (h:DoOk s.2 d.1 d.2.1 d.2.2.1 d.2.2.2) (q:∀ g',Ex g g'->P (.dat (tsX (nxS r ts s d,(nxR r ts s d).le))) g'):EvP (ZBO [.dat (ruD r),.dat (Zw ts),.dat (stX s),.dat (doX d)] g) P:=by
 have hle:∀ k ∈ d.2.2.1,0<=k/\k < ts.length:=λ k hk=>⟨h.ple.pr.lo k hk,by have:=h.ple.pr.hi k hk; rw [w.len] at this; exact this⟩
 have hco:∀ k ∈ d.2.2.2,0<=k/\k < ts.length:=λ k hk=>⟨h.pco.pr.lo k hk,by have:=h.pco.pr.hi k hk; rw [w.len] at this; exact this⟩
 exact ZKB t.en w hle hco (by have:=h.few; rw [w.len] at this; exact this) q
theorem ZPg {r:Ru} {ts:List (Int × Int)} {tn:Int} {hs:List Hs} {lo fa le co:List Int} {a:Nat} (ho : 0<=r.o/\r.o<=3) (n2 : 2<=ts.length) (w:HsL ts.length hs) (hle:∀ k ∈ le,0<=k/\k < ts.length) (hco:∀ k ∈ co,0<=k/\k < ts.length) (ha:a < ts.length) :
  ((ZEx r ts tn hs lo fa le co).hs.getD a H0).1=if (a:Int) ∈ le then 0 else if (a:Int) ∈ fa then 0 else if (a:Int) ∈ co then 1 else (hs.getD a H0).1:=by
 have hx:∀ x ∈ le ++ co,x.toNat < ts.length:=λ x hx=>by
  rcases List.mem_append.mp hx with h | h
  ·have:=hle x h; omega
  ·have:=hco x h; omega
 have k1:=ZD3 (f:=λ (R:Rw) (x:Int)=>ZBN ⟨r,ts,tn,lo⟩ x.toNat R) (n:=ts.length) (m:=ts.length) (L:=le ++ co) (R:=⟨ZAK fa le co hs,[]⟩) (ZIg w) λ x h R w=>ZEs (e:=⟨r,ts,tn,lo⟩) w (hx x h)
 have g1:=ZDH (e:=⟨r,ts,tn,lo⟩) (f:=λ (R:Rw) (x:Int)=>ZBN ⟨r,ts,tn,lo⟩ x.toNat R) (n:=ts.length) (L:=le ++ co) (R:=⟨ZAK fa le co hs,[]⟩) (ZIg w) λ x h R w=>⟨(ZEs (e:=⟨r,ts,tn,lo⟩) w (hx x h)).1,ZMG (e:=⟨r,ts,tn,lo⟩) w (hx x h)⟩
 have k2:=ZIF (L:=le) k1.1 λ x h=>by have:=hle x h; omega
 have g2:=ZLc (e:=⟨r,ts,tn,lo⟩) (R:=⟨le.foldl (λ hs x=>ZBU x.toNat hs) ((le ++ co).foldl (λ (R:Rw) (x:Int)=>ZBN ⟨r,ts,tn,lo⟩ x.toNat R) ⟨ZAK fa le co hs,[]⟩).hs,((le ++ co).foldl (λ (R:Rw) (x:Int)=>ZBN ⟨r,ts,tn,lo⟩ x.toNat R) ⟨ZAK fa le co hs,[]⟩).le⟩) ho n2 k2
 have e2:=ZGN g2.up a
 refine e2.trans ?_
 show ((le.foldl (λ hs x=>ZBU x.toNat hs) ((le ++ co).foldl (λ (R:Rw) (x:Int)=>ZBN ⟨r,ts,tn,lo⟩ x.toNat R) ⟨ZAK fa le co hs,[]⟩).hs).getD a H0).1=_
 rw [ZNj (by rw [k1.1.len]; exact ha) λ k hk=>(hle k hk).1]
 split
 ·rfl
 ·rename_i hl
  rw [ZGN g1.up a]
  show ((ZAK fa le co hs).getD a H0).1=_
  rw [ZPo (by rw [w.len]; exact ha)]
  split
  ·rfl
  ·rfl
theorem ZLO {lo hi i:Int} (h1:lo<=i) (h2:i<=hi):btw lo hi (.int i)=true:=ZKk h1 h2
theorem ZN1 {α : Type} {enc : α->PyData} {L:List α} {i:Nat} {d : α} (h:i < L.length):el (.tuple (L.map enc)) i=enc (L.getD i d):=by
 show (L.map enc).getD i .none=_
 rw [List.getD_eq_getElem?_getD,List.getElem?_map,List.getD_eq_getElem?_getD,List.getElem?_eq_getElem h]
 rfl
theorem ZH9 {α : Type} {enc : α->PyData} {L:List α} {n:Nat} (h:L.length=n):tof n (.tuple (L.map enc))=true:=by
 show decide ((L.map enc).length=n)=true
 rw [List.length_map]
 exact decide_eq_true h
theorem ZJX {α : Type} {enc : α->PyData} {c:PyData->Bool} {L:List α} (h:∀ x ∈ L,c (enc x)=true):(L.map enc).all c=true:=by
 rw [List.all_map,List.all_eq_true]
 exact h
theorem ZJR {n:Nat} {hi:Int} {L:List Int} (hl:L.length=n) (h:∀ k ∈ L,0<=k/\k<=hi):arB n hi (Zl L)=true:=by
 show (tof n (.tuple (L.map .int)) && (L.map PyData.int).all (btw 0 hi))=true
 rw [ZH9 hl,ZJX λ k hk=>ZLO (h k hk).1 (h k hk).2]
 rfl
theorem ZPW {r:Ru} {n at_:Nat} {h:Hs} (ha:at_ < n) (v:HQ r n at_ h) (hb:∀ w ∈ h.2.1,w.1<=1000000):hsR r n at_ (Zh h)=true:=by
 have e1:btw 0 1 (el (Zh h) 0)=true:=by
  show btw 0 1 (.int h.1)=true
  exact ZLO (by have:=v.up; omega) (by have:=v.up; omega)
 have e2:bkB n (el (Zh h) 1)=true:=by
  show (tof n (.tuple (h.2.1.map Zj)) && (h.2.1.map Zj).all ZG3)=true
  rw [ZH9 v.bl,ZJX λ w hw=>?_]
  ·rfl
  ·have:=v.bs w hw
   have:=hb w hw
   show (true && (btw 0 1000000 (.int w.1) && btw 0 3 (.int w.2)))=true
   rw [ZLO (by omega) (by omega),ZLO (by omega) (by omega)]
   rfl
 have e3:arB n r.t (el (Zh h) 2)=true:=ZJR v.tl v.ts
 have e4:tmR n at_ (upI (el (Zh h) 0)) r.w (el (Zh h) 3)=true:=by
  show (arB n r.w (Zl h.2.2.2) && ((PyData.eqv (el (Zl h.2.2.2) at_) (.int 0)) && (decide (h.1=1) || !((h.2.2.2.map PyData.int).any λ x=>!(x.eqv (.int 0))))))=true
  rw [ZJR v.ml v.ms]
  have z1:el (Zl h.2.2.2) at_=.int 0:=by
   rw [show el (Zl h.2.2.2) at_=PyData.int (h.2.2.2.getD at_ 0) from ZN1 (by rw [v.ml]; exact ha),v.m0]
  rw [z1]
  rcases v.mu with z | z
  ·rw [decide_eq_true z]; rfl
  ·have:((h.2.2.2.map PyData.int).any λ x=>!(x.eqv (.int 0)))=false:=by
    rw [List.any_map,List.any_eq_false]
    intro k hk
    rw [z k hk]
    decide
   rw [this,Bool.not_false,Bool.or_true]
   rfl
 show (true && ((btw 0 1 (el (Zh h) 0) && (bkB n (el (Zh h) 1) && arB n r.t (el (Zh h) 2))) && tmR n at_ (upI (el (Zh h) 0)) r.w (el (Zh h) 3)))=true
 rw [e1,e2,e3,e4]
 rfl
theorem ZPf {r:Ru} {n:Nat} {tn:Int} {hs:List Hs} (h0 : 0<=tn) (v:AQ r n hs) (hb:∀ y,Nb hs y 1000000):stR r n (Zq tn hs)=true:=by
 show (true && ((decide (0<=tn) && tof n (.tuple (hs.map Zh))) && (List.range n).all λ j=>hsR r n j (el (.tuple (hs.map Zh)) j)))=true
 rw [decide_eq_true h0,ZH9 v.len]
 have:((List.range n).all λ j=>hsR r n j (el (.tuple (hs.map Zh)) j))=true:=by
  rw [List.all_eq_true]
  intro j hj
  have hj:=List.mem_range.mp hj
  rw [ZN1 (d:=H0) (by rw [v.len]; exact hj)]
  refine ZPW hj (v.all j hj) λ w hw=>?_
  obtain ⟨y,hy,e⟩:=List.mem_iff_getElem.mp hw
  have:=hb y j
  unfold wd at this
  rw [List.getD_eq_getElem?_getD,List.getElem?_eq_getElem hy] at this
  rw [← e]
  exact this
 rw [this]
 rfl
theorem ZNY {r:Ru} {ts:List (Int × Int)} {tn:Int} {hs hs':List Hs} {lo fa le co:List Int} {g:G} {P:W->G->Prop} (hr:RuOk r) (n8:ts.length<=8) (htn:tn < 1000000000) (w:HsL ts.length hs) (hl':hs'.length=ts.length) (hd:DoOk hs lo fa le co) (hT:stR r ts.length (Zq (tn+1) hs')=true)
  (hu:∀ a,a < ts.length->(hs'.getD a H0).1=if (a:Int) ∈ le then 0 else if (a:Int) ∈ fa then 0 else if (a:Int) ∈ co then 1 else (hs.getD a H0).1) (q:P (.dat (.bool true)) g):EvP (ZAe [.dat (ruD r),.dat (Zw ts),.dat (Zq tn hs),.dat (doD lo fa le co),.dat (Zq (tn+1) hs')] g) P:=by
 refine ZHO ?_
 and_intros
 refine ZPk hr (by omega) (λ i e=>by cases e; omega) ?_
 and_intros
 refine bF ?_
 and_intros
 refine ZLH (by omega) ?_
 rw [hT]
 and_intros
 refine bF ?_
 and_intros
 rw [Zb,decide_eq_true rfl]
 refine bF ?_
 and_intros
 refine ZB7 (λ i sd gx=>gx=g/\∃ z5 z6 z7,sd=[some (.dat (ruD r)),some (.dat (Zw ts)),some (.dat (Zq tn hs)),some (.dat (doD lo fa le co)),some (.dat (Zq (tn+1) hs')),z5,z6,z7]) ⟨rfl,_,_,_,rfl⟩ ?_ ?_
 ·rintro i x sd gx hx ⟨rfl,z5,z6,z7,rfl⟩
  rw [ZFg H0 hs,List.getElem?_map] at hx
  obtain ⟨j,hj,rfl⟩:=mp hx
  obtain ⟨hj1,hj2⟩:=List.getElem?_eq_some_iff.mp hj
  rw [List.getElem_range] at hj2
  subst hj2
  rw [List.length_range,w.len] at hj1
  refine ⟨_,rfl,?_⟩
  and_intros
  refine ZH7 (by rw [List.length_map,List.length_map]; have:=hd.pfa.pr.len (by omega); have:=hd.ple.pr.len (by omega); rw [w.len] at *; omega) ?_
  and_intros
  rw [← List.map_append]
  refine ZDr (by rw [ZB8]; rfl) ?_
  rw [L2.any_ints]
  have hup:=hu i hj1
  have hcf:(i:Int) ∈ co->(i:Int) ∉ fa/\(i:Int) ∉ le:=λ hc=>by
   have h0:=hd.pco.pu _ hc
   refine ⟨λ z=>?_,λ z=>?_⟩
   ·have:=hd.pfa.pu _ z; rw [h0] at this; cases this
   ·have:=hd.ple.pu _ z; rw [h0] at this; cases this
  have key:∀ u:Int,(hs'.getD i H0).1=u->EvS (Zz (dB (dOp ZCN (dOp Zf (dOp Zf (dOp Zf (ZD 4) (dC (.int 1))) (ZD 5)) (dC (.int 0))) (ZD 7))) (ZU (dC (.bool false))) dNx [some (.dat (ruD r)),some (.dat (Zw ts)),some (.dat (Zq tn hs)),some (.dat (doD lo fa le co)),some (.dat (Zq (tn+1) hs')),some (.dat (.int (i:Int))),some (.dat (Zh (hs.getD i H0))),some (.dat (.int u))] gx) (ZMz none (ZCr 0 (hs.map Zh)) (λ sd gy=>gy=gx/\∃ z5 z6 z7,sd=[some (.dat (ruD r)),some (.dat (Zw ts)),some (.dat (Zq tn hs)),some (.dat (doD lo fa le co)),some (.dat (Zq (tn+1) hs')),z5,z6,z7]) (seqP (ZU (dC (.bool true))) (runP P))):=by
   intro u eu
   and_intros
   refine ZA1 (Zx (a:=H0) (by rw [hl']; exact hj1)) ?_
   and_intros
   rw [Zb,decide_eq_true eu]
   refine bF ?_
   and_intros
   exact ⟨trivial,rfl,_,_,_,rfl⟩
  cases h1:(fa ++ le).contains (i:Int) with
  | true =>
   have h1:=List.contains_iff_mem.mp h1
   and_intros
   refine bT ?_
   and_intros
   refine ZDr (by rw [ZB8]; rfl) ?_
   rw [L2.any_ints]
   have h2:co.contains (i:Int)=false:=Bool.eq_false_iff.mpr λ z=>by
    have:=hcf (List.contains_iff_mem.mp z)
    exact (List.mem_append.mp h1).elim this.1 this.2
   rw [h2]
   and_intros
   refine bF ?_
   refine ZOW (.nx ?_)
   refine key 0 ?_
   rw [hup]
   rcases List.mem_append.mp h1 with z | z
   ·rw [if_pos z]; split <;> rfl
   ·rw [if_pos z]
  | false =>
   have h1:(i:Int) ∉ fa ++ le:=λ z=>by rw [List.contains_iff_mem.mpr z] at h1; cases h1
   and_intros
   refine bF ?_
   and_intros
   refine ZDr (by rw [ZB8]; rfl) ?_
   rw [L2.any_ints]
   have hl:(i:Int) ∉ le:=λ z=>h1 (List.mem_append.mpr (.inr z))
   have hf:(i:Int) ∉ fa:=λ z=>h1 (List.mem_append.mpr (.inl z))
   rw [if_neg hl,if_neg hf] at hup
   cases h2:co.contains (i:Int) with
   | true =>
    and_intros
    refine bT ?_
    refine ZP1 (x_c (.nx ?_))
    refine key 1 ?_
    rw [hup,if_pos (List.contains_iff_mem.mp h2)]
   | false =>
    and_intros
    refine bF ?_
    refine ZOW (.nx ?_)
    refine key (hs.getD i H0).1 ?_
    rw [hup,if_neg λ z=>by rw [List.contains_iff_mem.mpr z] at h2; cases h2]
 ·rintro sd gx ⟨rfl,z5,z6,z7,rfl⟩
  and_intros
  exact q
inductive TIB:Nat->PyData->Prop
 | int {n:Nat} (i:Int):TIB (n+1) (.int i)
 | bl {n:Nat} (b:Bool):TIB (n+1) (.bool b)
 | tup {n:Nat} (ds:List PyData):ds.length<=1000->(∀ d ∈ ds,TIB n d)->TIB (n+1) (.tuple ds)
theorem ZJc {n:Nat} {L:List Int} (h:L.length<=1000):TIB (n+2) (Zl L):=.tup _ (by rw [List.length_map]; exact h) λ d hd=>by
 obtain ⟨k,_,rfl⟩:=List.mem_map.mp hd
 exact .int k
theorem ZL4 {n m:Nat} {s:Sx} (w:HsL m s.2) (hm:m<=8):TIB (n+6) (stX s):=.tup _ (by show (2:Nat)<=1000; decide) λ d hd=>by
 simp only [List.mem_cons,List.not_mem_nil,or_false] at hd
 rcases hd with rfl | rfl
 ·exact .int _
 refine .tup _ (by rw [List.length_map,w.len]; omega) λ d hd=>?_
 obtain ⟨h,hh,rfl⟩:=List.mem_map.mp hd
 have v:=w.all h hh
 refine .tup _ (by show (4:Nat)<=1000; decide) λ d hd=>?_
 simp only [List.mem_cons,List.not_mem_nil,or_false] at hd
 rcases hd with rfl | rfl | rfl | rfl
 ·exact .int _
 ·refine .tup _ (by rw [List.length_map,v.bl]; omega) λ d hd=>?_
  obtain ⟨x,_,rfl⟩:=List.mem_map.mp hd
  refine .tup _ (by show (2:Nat)<=1000; decide) λ d hd=>?_
  simp only [List.mem_cons,List.not_mem_nil,or_false] at hd
  rcases hd with rfl | rfl <;> exact .int _
 ·exact ZJc (by rw [v.tl]; omega)
 ·exact ZJc (by rw [v.ml]; omega)
theorem ZPK {xs:List PyData} (h:∀ x ∈ xs,x.canLay0=true):PyData.canLayAll0 xs=true:=by
 induction xs with
 | nil=>rfl
 | cons x r ih =>
  show (x.canLay0 && PyData.canLayAll0 r)=true
  rw [h x (List.mem_cons_self ..),ih λ y hy=>h y (List.mem_cons_of_mem _ hy)]
  rfl
theorem ZOq {k:Nat} {xs:List PyData} (h:∀ x ∈ xs,x.depth<=k):PyData.depthAll xs<=k:=by
 induction xs with
 | nil=>exact Nat.zero_le _
 | cons x r ih =>
  rw [PyData.depthAll.eq_2]
  exact Nat.max_le.mpr ⟨h x (List.mem_cons_self ..),ih λ y hy=>h y (List.mem_cons_of_mem _ hy)⟩
theorem ZKs:∀ {m:Nat} {t:PyData},TIB m t->t.canLay0=true/\t.depth<=m
 | 0,_,h=>by cases h
 | m+1,_,.int i=>⟨rfl,Nat.zero_le _⟩
 | m+1,_,.bl i=>⟨rfl,Nat.zero_le _⟩
 | m+1,_,.tup ds _ h=>⟨ZPK λ x hx=>(ZKs (h x hx)).1,by rw [PyData.depth.eq_2]; have:=ZOq (k:=m) λ x hx=>(ZKs (h x hx)).2; omega⟩
mutual
theorem ZI7:∀ {m:Nat} {t:PyData},TIB m t->t.eqv t=true
 | 0,_,h=>by cases h
 | m+1,_,.int i=>by rw [Zb]; exact decide_eq_true rfl
 | m+1,_,.bl i=>by rw [ZJJ]; exact decide_eq_true rfl
 | m+1,_,.tup ds _ h=>by
  rw [PyData.eqv]
  exact ZHY ds h
theorem ZHY {m:Nat}:∀ (ds:List PyData),(∀ d ∈ ds,TIB m d)->PyData.eqvAll ds ds=true
 | [],_=>rfl
 | d :: r,h=>by
  rw [PyData.eqvAll,ZI7 (h d (List.mem_cons_self ..)),ZHY r λ x hx=>h x (List.mem_cons_of_mem _ hx)]
  rfl
end
theorem ZQ4 {m:Nat} {t:PyData} {g:G} {P:W->G->Prop} (h:TIB m t) (hm:m<=8) (q:P (.dat (.bool false)) g):EvP (ZCN (.dat t) (.dat t) g) P:=by
 have h1:=ZKs h
 have h2:ok0 t=true:=by
  unfold ok0
  rw [h1.1,decide_eq_true (by omega)]
  rfl
 refine ZSJ (by rw [h2]; rfl) ?_
 rw [ZI7 h]
 exact q
theorem aq9 {r:Ru} {n:Nat} {hs:List Hs} (hl:hs.length=n) (hv:∀ i h,hs[i]? = some h->HV9 r n i h):AQ r n hs:=⟨hl,λ i hi=>by
 have v:=hv i (hs.getD i H0) (by rw [List.getD_eq_getElem?_getD,List.getElem?_eq_getElem (by omega)]; rfl)
 exact ⟨by have:=v.up; omega,v.bl,λ w hw=>by have:=v.bs w hw; exact ⟨this.1.1,this.2⟩,v.tl,v.ts,v.ml,v.ms,by rw [List.getD_eq_getElem?_getD,v.m0]; rfl,v.mu⟩⟩
theorem nb9 {r:Ru} {n:Nat} {hs:List Hs} (hv:∀ i h,hs[i]? = some h->HV9 r n i h):∀ y,Nb hs y 999002:=λ y i=>by
 unfold wd
 refine ZKJ (P:=λ w:Int × Int=>w.1<=999002) (λ w hw=>?_) (by show (0:Int)<=999002; omega)
 rw [List.getD_eq_getElem?_getD] at hw
 cases e:hs[i]? with
 | none=>rw [e] at hw; cases hw
 | some h=>rw [e] at hw; exact ((hv i h e).bs w hw).1.2
theorem ZOr {r:Ru} {n:Nat} (hr:RuOk r):AQ r n (List.replicate n (ZFf r.t n)):=⟨List.length_replicate,λ i hi=>by
 have ht:=hr.t
 have hw:=hr.w
 rw [List.getD_eq_getElem?_getD,List.getElem?_replicate,if_pos hi]
 refine ⟨.inr rfl,List.length_replicate,λ w hw=>?_,List.length_replicate,λ k hk=>?_,List.length_replicate,λ k hk=>?_,?_,.inl rfl⟩
 ·rw [(List.mem_replicate.mp hw).2]; decide
 ·rw [(List.mem_replicate.mp hk).2]; omega
 ·rw [(List.mem_replicate.mp hk).2]; omega
 ·show (List.replicate n (0:Int)).getD i 0=0
  exact ZD0⟩
theorem ZMt {r:Ru} {n:Nat}:∀ y,Nb (List.replicate n (ZFf r.t n)) y 999002:=λ y i=>by
 unfold wd
 refine ZKJ (P:=λ w:Int × Int=>w.1<=999002) (λ w hw=>?_) (by show (0:Int)<=999002; omega)
 rw [List.getD_eq_getElem?_getD,List.getElem?_replicate] at hw
 split at hw
 ·rw [(List.mem_replicate.mp hw).2]; decide
 ·cases hw
theorem ZR1 {ns:List Int} (hns:ns.length<=63):∃ g',ZGp [.inp ns] []=some (.dat (.bool true),g'):=by
 suffices h:EvP (ZGp [.inp ns] []) λ x _=>x=.dat (.bool true) by
  obtain ⟨x,g',e,rfl⟩:=h
  exact ⟨g',e⟩
 refine ZRu ?_
 and_intros
 refine ZA2 (j:=0) (g1:=[]) ?_
 and_intros
 have hm : 0<=(1:Int)+(ZCc (ns.map PyData.int) none (some 6)).length/\(1:Int)+(ZCc (ns.map PyData.int) none (some 6)).length<=64:=by
  have:=ZId (ds:=ns.map PyData.int) none (some 6)
  rw [List.length_map] at this
  omega
 generalize (1:Int)+(ZCc (ns.map PyData.int) none (some 6)).length=len at *
 refine ⟨by omega,?_⟩
 refine ZB7 (λ n sd gx=>∃ z1 z2 z3 z4 z5 z6 z7 z8 z9,sd=[some (.inp ns),z1,z2,z3,z4,z5,z6,z7,z8,z9]) ⟨_,_,_,_,_,_,_,_,_,rfl⟩ ?_ ?_
 ·rintro n x sd g0 hx ⟨z1,z2,z3,z4,z5,z6,z7,z8,z9,rfl⟩
  have hn:n < 64:=by
   have:=(List.getElem?_eq_some_iff.mp hx).1
   rw [ZA9] at this
   omega
  rw [ZDc,List.getElem?_map] at hx
  obtain ⟨k,hk,rfl⟩:=mp hx
  obtain ⟨hk1,hk2⟩:=List.getElem?_eq_some_iff.mp hk
  rw [List.getElem_range] at hk2
  subst hk2
  refine ⟨_,rfl,?_⟩
  and_intros
  generalize hb:List.length g0=b
  refine ZRV (by omega) λ g1 hl1 hg1 B1=>?_
  rw [hb] at B1
  rw [hb]
  and_intros
  refine ZNP B1 λ r g2 hr hcs _ D2=>?_
  and_intros
  refine ZOz D2.bx (by decide) λ ts g3 ht2 ht8 htc D3=>?_
  have t:TnOk r ts:=⟨hcs,hr,ht2,by omega,htc⟩
  have n8:=t.n8
  and_intros
  refine ZMe ht2 n8 ?_
  and_intros
  refine Zm D3.bx (by decide) (by decide) λ d4 g4 l4 u4 D4=>?_
  and_intros
  have main:∀ (s:Sx) (g5:G) (z1:Option W),0<=s.1->s.1<=100000->AQ r ts.length s.2->(∀ y,Nb s.2 y 999002)->Bx g5 b->EvS ((ZCj (.nm 6) (ZAa (ZC (dOp ZAQ (dC (.int 1)) (dF ZO (ZC (ZD 2) (ZC (dC (.int 8)) ZK)))) ZK)) (ZR (Zr 7 (dF ZAV (ZC (ZD 2) (ZC (ZD 5) (ZC (dC (.bool true)) ZK))))) (ZR (Zr 8 (dF Z8 (ZC (dOp Zf (ZD 5) (dC (.int 0))) (ZC (dF (f1 ZDE) (ZC (ZAl 1 [] (.nm 0) (ZCl (dOp Zf (ZD 5) (dC (.int 1)))) ZC8 (dF (f1 ZDE) (ZC (dF (f1 ZRL) (ZC (ZD 0) ZK)) ZK))) ZK)) ZK)))) (ZR (Zr 9 (dOp Zf (dF ZBO (ZC (ZD 3) (ZC (ZD 4) (ZC (ZD 5) (ZC (ZD 7) ZK))))) (dC (.int 0)))) (ZR (Zz (dOr (ZCB (dB (dF ZAe (ZC (ZD 3) (ZC (ZD 4) (ZC (ZD 5) (ZC (ZD 7) (ZC (ZD 9) ZK)))))))) (dB (dOp ZCN (ZD 5) (ZD 8)))) (ZU (dC (.bool false))) dNx) (Zr 5 (ZD 9))))))) [some (.inp ns),z1,some (.ref b),some (.dat (ruD r)),some (.dat (Zw ts)),some (.dat (stX s)),z6,z7,z8,z9] g5) (ZMz none (ZCF len.toNat 0) (λ sd gx=>∃ z1 z2 z3 z4 z5 z6 z7 z8 z9,sd=[some (.inp ns),z1,z2,z3,z4,z5,z6,z7,z8,z9]) (seqP (ZU (dC (.bool true))) (runP λ x _=>x=.dat (.bool true)))):=by
   intro s g5 z1 hs0 hs1 aq nb B5
   and_intros
   refine ZA2 (j:=0) (g1:=[]) ?_
   and_intros
   refine Zm B5 (by decide) (by decide) λ d6 g6 l6 u6 D6=>?_
   and_intros
   refine ⟨by omega,?_⟩
   refine ZB7 (λ i sd gx=>Bx gx b/\∃ (s:Sx) (z6 z7 z8 z9:Option W),0<=s.1/\s.1<=100000+i/\AQ r ts.length s.2/\(∀ y,Nb s.2 y (999002+66 * i))/\sd=[some (.inp ns),z1,some (.ref b),some (.dat (ruD r)),some (.dat (Zw ts)),some (.dat (stX s)),z6,z7,z8,z9]) ⟨D6.bx,s,_,_,_,_,hs0,by omega,aq,(λ y=>by have:=nb y; exact this),rfl⟩ ?_ ?_
   ·rintro i x sd gx hx ⟨Bx1,s,z6,z7,z8,z9,hs0,hs1,aq,nb,rfl⟩
    have hi:i < 9:=by
     have:=(List.getElem?_eq_some_iff.mp hx).1
     rw [ZA9] at this
     omega
    have w:=aq.L
    refine ⟨_,by rw [Zu],?_⟩
    and_intros
    refine ZLd (tn:=s.1) Bx1 (by rw [w.len]; omega) λ lo fa le co g8 hdo D8=>?_
    have hle:∀ k ∈ le,0<=k/\k < ts.length:=λ k hk=>⟨hdo.ple.pr.lo k hk,by have:=hdo.ple.pr.hi k hk; rw [w.len] at this; exact this⟩
    have hco:∀ k ∈ co,0<=k/\k < ts.length:=λ k hk=>⟨hdo.pco.pr.lo k hk,by have:=hdo.pco.pr.hi k hk; rw [w.len] at this; exact this⟩
    and_intros
    refine ⟨by rw [List.length_map,w.len]; omega,?_⟩
    refine ZBC Zh Zh s.2 rfl trivial (λ h hh=>⟨_,by rw [Zu],?_⟩) ?_
    ·and_intros
     exact ⟨rfl,rfl⟩
    and_intros
    refine ZOh (d:=(lo,fa,le,co)) t w hdo λ g9 E9=>?_
    and_intros
    have aq2:=ZRw (tn:=s.1) (lo:=lo) (fa:=fa) (by have:=hr.t; omega) (by have:=hr.w; omega) ht2 aq hle hco
    have nb2:∀ y,Nb (ZEx r ts s.1 s.2 lo fa le co).hs y (999002+66 * ((i+1:Nat):Int)):=λ y=>by
     have h:=ZOa (r:=r) (tn:=s.1) (lo:=lo) (fa:=fa) (le:=le) (co:=co) ht2 n8 (by omega) (nb y)
     intro z
     have:=h z
     omega
    refine ZNY (hs':=(ZEx r ts s.1 s.2 lo fa le co).hs) (lo:=lo) (fa:=fa) (le:=le) (co:=co) hr n8 (by omega) w aq2.len hdo (ZPf (by omega) aq2 λ y z=>by have:=nb2 y z; omega) (λ a ha=>ZPg hr.o ht2 w hle hco ha) ?_
    and_intros
    refine bF ?_
    and_intros
    refine ZQ4 (ZL4 (n:=0) (s:=s) w n8) (by decide) ?_
    and_intros
    refine bF ?_
    and_intros
    exact ⟨trivial,(D8.ex E9).bx,(s.1+1,(ZEx r ts s.1 s.2 lo fa le co).hs),_,_,_,_,by show 0<=s.1+1; omega,by show s.1+1<=_; omega,aq2,nb2,rfl⟩
   ·rintro sd gx ⟨Bx1,s,z6,z7,z8,z9,hs0,hs1,aq,nb,rfl⟩
    exact ⟨trivial,_,_,_,_,_,_,_,_,_,rfl⟩
  refine ⟨λ _=>?_,λ _=>?_⟩
  ·and_intros
   refine ZOB D4.bx hr ⟨ht2,t.n8⟩ λ tn hs g5 hhl htn0 htn hhv D5=>?_
   refine .nx ?_
   exact main (tn,hs) g5 _ htn0 htn (aq9 hhl hhv) (nb9 hhv) D5.bx
  ·exact ZOW (.nx (main (0,List.replicate ts.length (ZFf r.t ts.length)) g4 _ (Int.le_refl 0) (by show (0:Int)<=100000; omega) (ZOr hr) ZMt D4.bx))
 ·rintro sd gx ⟨z1,z2,z3,z4,z5,z6,z7,z8,z9,rfl⟩
  and_intros
  rfl
section
variable {P:Program} {w:World} {K:PySem.W.Frag} {mg:Str->Option Value} {base:Heap} {A:Adr}
theorem ZKS:FnScope ["thing"] ["thing"] (ZM (top 1)):=⟨rfl,rfl,rfl,by decide +kernel,rfl,by decide +kernel,by decide +kernel⟩
theorem ZEz (T:Txt K mg A):FnOk P w K mg base CX0 1 A.f_is_whole A.fd_is_whole ["thing"] (spD K 1 ZBE):=by
 exact ZX (d:=ZET) (r:=ZBE) (n:=1) (by unfold ZBE; rfl) rfl rfl T.D_is_whole.fn ZKS λ cdv A outer s H E hr=>(
(ZH (ZN (ZA8 (ZS ZGy rfl T.z_isinstance boot_isinstance (ZA (ZB 0) (ZA (ZCX (n:="int") rfl T.z_int boot_int) ZE))) (ZA4 (ZIn (ZS ZGy rfl T.z_isinstance boot_isinstance (ZA (ZB 0) (ZA (ZCX (n:="bool") rfl T.z_bool boot_bool) ZE)))))))))
theorem ZKl:FnScope ["thing"] ["thing"] (ZM (top 2)):=⟨rfl,rfl,rfl,by decide +kernel,rfl,by decide +kernel,by decide +kernel⟩
theorem ZE9 (T:Txt K mg A):FnOk P w K mg base CX0 2 A.f_is_count A.fd_is_count ["thing"] (spD K 1 ZBK):=by
 have Gis_whole:=ZEz (P:=P) (w:=w) (base:=base) T
 exact ZX (d:=ZEQ) (r:=ZBK) (n:=1) (by unfold ZBK; rfl) rfl rfl T.D_is_count.fn ZKl λ cdv A outer s H E hr=>(
(ZH (ZN (ZA8 (ZI T.D_is_whole Gis_whole (hr.mono (by decide)) (ZA (ZB 0) ZE) (.cons .nil)) (ZA4 (ZAF (oGe hr.units) (ZB 0) ZG (Za _)))))))
theorem ZH6:FnScope ["thing","low","high"] ["thing","low","high"] (ZM (top 3)):=⟨rfl,rfl,rfl,by decide +kernel,rfl,by decide +kernel,by decide +kernel⟩
theorem ZCZ (T:Txt K mg A):FnOk P w K mg base CX0 2 A.f_is_between A.fd_is_between ["thing","low","high"] (spD K 3 ZAT):=by
 have Gis_whole:=ZEz (P:=P) (w:=w) (base:=base) T
 exact ZX (d:=ZDe) (r:=ZAT) (n:=3) (by unfold ZAT; rfl) rfl rfl T.D_is_between.fn ZH6 λ cdv A outer s H E hr=>(
(ZH (ZN (ZA8 (ZI T.D_is_whole Gis_whole (hr.mono (by decide)) (ZA (ZB 0) ZE) (.cons .nil)) (ZA4 (ZHp oLe oLe (ZB 1) (ZB 0) (ZB 2)))))))
theorem ZHM:FnScope ["thing","length"] ["thing","length"] (ZM (top 4)):=⟨rfl,rfl,rfl,by decide +kernel,rfl,by decide +kernel,by decide +kernel⟩
theorem ZAy (T:Txt K mg A):FnOk P w K mg base CX0 1 A.f_is_tuple_of A.fd_is_tuple_of ["thing","length"] (spD K 2 Zv):=by
 exact ZX (d:=ZC5) (r:=Zv) (n:=2) (by unfold Zv; rfl) rfl rfl T.D_is_tuple_of.fn ZHM λ cdv A outer s H E hr=>(
(ZH (ZN (ZA8 (ZS ZGy rfl T.z_isinstance boot_isinstance (ZA (ZB 0) (ZA (ZCX (n:="tuple") rfl T.z_tuple boot_tuple) ZE))) (ZA4 (ZAF (oEq hr.units) (ZS ZCf rfl T.z_len boot_len (ZA (ZB 0) ZE)) (ZB 1) (Za _)))))))
theorem scput:FnScope ["things","place","thing"] ["things","place","thing"] (ZM (top 5)):=⟨rfl,rfl,rfl,by decide +kernel,rfl,by decide +kernel,by decide +kernel⟩
theorem ZDN (T:Txt K mg A):FnOk P w K mg base CX0 1 A.f_put A.fd_put ["things","place","thing"] (spD K 3 ZAp):=by
 exact ZX (d:=ZMy) (r:=ZAp) (n:=3) (by unfold ZAp; rfl) rfl rfl T.D_put.fn scput λ cdv A outer s H E hr=>(
(ZH (ZN (ZW ZBp (ZW ZBp (ZFH (ZB 0) ZC6 (ZDD (ZB 1))) (ZY (ZA (ZB 2) ZE))) (ZFH (ZB 0) (ZDD (ZW ZBp (ZB 1) ZG)) ZC6)))))
theorem ZLy:FnScope ["thing"] ["thing"] (ZM (top 11)):=⟨rfl,rfl,rfl,by decide +kernel,rfl,by decide +kernel,by decide +kernel⟩
theorem ZJP (T:Txt K mg A):FnOk P w K mg base CX0 3 A.f_is_word A.fd_is_word ["thing"] (spD K 1 ZB3):=by
 have Gis_tuple_of:=ZAy (P:=P) (w:=w) (base:=base) T
 have Gis_count:=ZE9 (P:=P) (w:=w) (base:=base) T
 have Gis_between:=ZCZ (P:=P) (w:=w) (base:=base) T
 exact ZX (d:=ZFO) (r:=ZB3) (n:=1) (by unfold ZB3; rfl) rfl rfl T.D_is_word.fn ZLy λ cdv A outer s H E hr=>(
(ZH (ZN (ZA8 (ZI T.D_is_tuple_of Gis_tuple_of (hr.mono (by decide)) (ZA (ZB 0) (ZA ZG ZE)) (.cons (.cons .nil))) (ZA8 (ZI T.D_is_count Gis_count (hr.mono (by decide)) (ZA (ZP oIx (ZB 0) ZG (λ _ _=>rfl)) ZE) (.cons .nil)) (ZA4 (ZI T.D_is_between Gis_between (hr.mono (by decide)) (ZA (ZP oIx (ZB 0) ZG (λ _ _=>rfl)) (ZA (ZAB rfl T.g_ALIVE) (ZA (ZAB rfl T.g_LEFT) ZE))) (.cons (.cons (.cons .nil))))))))))
theorem ZO8:FnScope ["one","other"] ["one","other"] (ZM (top 12)):=⟨rfl,rfl,rfl,by decide +kernel,rfl,by decide +kernel,by decide +kernel⟩
theorem ZHa (T:Txt K mg A):FnOk P w K mg base CX0 1 A.f_newer A.fd_newer ["one","other"] (spD K 2 ZCw):=by
 exact ZX (d:=ZIH) (r:=ZCw) (n:=2) (by unfold ZCw; rfl) rfl rfl T.D_newer.fn ZO8 λ cdv A outer s H E hr=>(
(ZH (ZN (ZAF (oGt hr.units) (ZB 0) (ZB 1) (Za _)))))
theorem ZIu:FnScope ["town","house","turn","pace","start"] ["town","house","turn"] (ZM (top 14)):=⟨rfl,rfl,rfl,by decide +kernel,rfl,by decide +kernel,by decide +kernel⟩
theorem ZLn (T:Txt K mg A):FnOk P w K mg base CX0 1 A.f_ticks A.fd_ticks ["town","house","turn"] (spD K 3 ZEF):=by
 exact ZX (d:=ZIm) (r:=ZEF) (n:=5) (by unfold ZEF; rfl) rfl rfl T.D_ticks.fn ZIu λ cdv A outer s H E hr=>(
(ZF (Zn (ZP oIx (ZB 0) (ZB 1) (λ _ _=>rfl)) (Zk rfl (ZJ (ZL (i:=3) ZIu.nd rfl (Or.inl rfl)) (ZJ (ZL (i:=4) ZIu.nd rfl (Or.inl rfl)) Zc))))
(ZH (ZN (ZA8 (ZAF (oGe hr.units) (ZB 2) (ZB 4) (Za _)) (ZA4 (ZAF (oEq hr.units) (ZW ZGX (ZW ZLt (ZB 2) (ZB 4)) (ZB 3)) ZG (Za _))))))))
theorem ZEj:FnScope ["town","house","turn","pace","start"] ["town","house","turn"] (ZM (top 15)):=⟨rfl,rfl,rfl,by decide +kernel,rfl,by decide +kernel,by decide +kernel⟩
theorem ZE8 (T:Txt K mg A):FnOk P w K mg base CX0 1 A.f_ticks_by A.fd_ticks_by ["town","house","turn"] (spD K 3 ZBF):=by
 exact ZX (d:=ZEe) (r:=ZBF) (n:=5) (by unfold ZBF; rfl) rfl rfl T.D_ticks_by.fn ZEj λ cdv A outer s H E hr=>(
(ZF (Zn (ZP oIx (ZB 0) (ZB 1) (λ _ _=>rfl)) (Zk rfl (ZJ (ZL (i:=3) ZEj.nd rfl (Or.inl rfl)) (ZJ (ZL (i:=4) ZEj.nd rfl (Or.inl rfl)) Zc))))
(ZF (Ze (ZT (oLt hr.units) (ZB 2) (ZB 4) (Za _))
(ZH (ZN ZG))
ZV)
(ZH (ZN (ZW ZBp (ZW ZLF (ZW ZLt (ZB 2) (ZB 4)) (ZB 3)) ZG))))))
theorem ZGb:FnScope ["town","house","turn","many","ahead"] ["town","house","turn"] (ZM (top 16)):=⟨rfl,rfl,rfl,by decide +kernel,rfl,by decide +kernel,by decide +kernel⟩
theorem ZGz (T:Txt K mg A):FnOk P w K mg base CX0 2 A.f_target A.fd_target ["town","house","turn"] (spD K 3 ZCG):=by
 have Gticks_by:=ZE8 (P:=P) (w:=w) (base:=base) T
 exact ZX (d:=ZGT) (r:=ZCG) (n:=5) (by unfold ZCG; rfl) rfl rfl T.D_target.fn ZGb λ cdv A outer s H E hr=>(
(ZF (ZQ (i:=3) ZGb.nd rfl (Or.inl rfl) (ZS ZCf rfl T.z_len boot_len (ZA (ZB 0) ZE)))
(ZF (ZQ (i:=4) ZGb.nd rfl (Or.inl rfl) (ZW ZLt (ZI T.D_ticks_by Gticks_by (hr.mono (by decide)) (ZA (ZB 0) (ZA (ZB 1) (ZA (ZB 2) ZE))) (.cons (.cons (.cons .nil)))) ZG))
(ZH (ZN (ZW ZGX (ZW ZBp (ZW ZBp (ZB 1) ZG) (ZW ZGX (ZB 4) (ZW ZLt (ZB 3) ZG))) (ZB 3)))))))
theorem ZCV:FnScope ["rules","town","turn","x","y","clauses","due","about"] ["rules","town","turn","x","y"] (ZM (top 19)):=⟨rfl,rfl,rfl,by decide +kernel,rfl,by decide +kernel,by decide +kernel⟩
theorem ZGd (T:Txt K mg A):FnOk P w K mg base CX0 2 A.f_due_houses A.fd_due_houses ["rules","town","turn","x","y"] (spD K 5 ZAx):=by
 have Gticks_by:=ZE8 (P:=P) (w:=w) (base:=base) T
 exact ZX (d:=ZDV) (r:=ZAx) (n:=8) (by unfold ZAx; rfl) rfl rfl T.D_due_houses.fn ZCV λ cdv A outer s H E hr=>(
(ZF (ZQ (i:=5) ZCV.nd rfl (Or.inl rfl) (ZP oIx (ZB 0) ZG (λ _ _=>rfl)))
(ZF (ZQ (i:=6) ZCV.nd rfl (Or.inl rfl) (ZBa (ZA (ZB 4) ZE)))
(ZF (Ze (ZT (oIn hr.units) ZA5 (ZB 5) (by with_unfolding_all rfl))
(ZH (ZA0 (ZCs (ZB 6) (ZB 3))))
ZV)
(ZF (ZQ (i:=7) ZCV.nd rfl (Or.inl rfl) (ZW ZGX (ZI T.D_ticks_by Gticks_by (hr.mono (by decide)) (ZA (ZB 1) (ZA (ZB 3) (ZA (ZB 2) ZE))) (.cons (.cons (.cons .nil)))) (ZS ZCf rfl T.z_len boot_len (ZA (ZB 1) ZE))))
(ZF (Ze (JW.pt (ZAZ (ZT (oIn hr.units) ZA5 (ZB 5) (by with_unfolding_all rfl)) (ZAo (ZT (oNe hr.units) (ZB 7) (ZB 3) (Za _)))))
(ZH (ZA0 (ZCs (ZB 6) (ZB 7))))
ZV)
(ZH (ZN (ZB 6)))))))))
theorem ZAk:FnScope ["rules","told","x","due","others","wait","most","carry","clauses","fresh"] ["rules","told","x","due"] (ZM (top 20)):=⟨rfl,rfl,rfl,by decide +kernel,rfl,by decide +kernel,by decide +kernel⟩
theorem ZFx (T:Txt K mg A):FnOk P w K mg base CX0 1 A.f_news_houses A.fd_news_houses ["rules","told","x","due"] (spD K 4 ZAj):=by
 exact ZX (d:=ZCz) (r:=ZAj) (n:=10) (by unfold ZAj; rfl) rfl rfl T.D_news_houses.fn ZAk λ cdv A outer s H E hr=>(
(ZF (Zn (ZB 0) (Zk rfl (ZJ (ZL (i:=4) ZAk.nd rfl (Or.inl rfl)) (ZJ (ZL (i:=5) ZAk.nd rfl (Or.inl rfl)) (ZJ (ZL (i:=6) ZAk.nd rfl (Or.inr rfl)) (ZJ (ZL (i:=7) ZAk.nd rfl (Or.inl rfl)) (ZJ (ZL (i:=8) ZAk.nd rfl (Or.inl rfl)) Zc)))))))
(ZF (ZJz (i:=9) (sc:=ZM (top 20)) (NX:=["rules","told","x","due","others","wait","most","carry","clauses","fresh"]) (N:=["house","many","most","x","due"]) (own:=2) (cap:=[6,2,3]) ZAk.nd rfl (Or.inl rfl) rfl (ZCC rfl T.z_enumerate (ZA (ZB 1) ZE) (hn:=(.cons .nil))) rfl rfl (λ cl C s0 H0 fp=>⟨(Zk rfl (ZJ (ZL (i:=0) (by show (["house","many","most","x","due"]:List Str).Nodup; decide +kernel) rfl (Or.inl rfl)) (ZJ (ZL (i:=1) (by show (["house","many","most","x","due"]:List Str).Nodup; decide +kernel) rfl (Or.inl rfl)) Zc))),(ZDB (JW.pt (ZAZ (ZT (oLt hr.units) (ZB 1) (ZB 2) (Za _)) (ZAZ (ZT (oNe hr.units) (ZB 0) (ZB 3) (Za _)) (ZAo (ZT (ZM2 hr.units) (ZB 0) (ZB 4) (by with_unfolding_all rfl))))))),(ZY (ZA (ZB 1) (ZA (ZB 0) ZE)))⟩) (by decide +kernel) rfl)
(ZH (ZN (Z7 (sc:=ZM (top 20)) (NX:=["rules","told","x","due","others","wait","most","carry","clauses","fresh"]) (N:=["many","house"]) (own:=2) (cap:=[]) rfl (ZAc (ZFH (ZS cSrt rfl T.z_sorted boot_sorted (ZA (ZB 9) ZE)) ZC6 (ZDD (ZB 7)))) rfl rfl (λ cl C s0 H0 fp=>⟨(Zk rfl (ZJ (ZL (i:=0) (by show (["many","house"]:List Str).Nodup; decide +kernel) rfl (Or.inl rfl)) (ZJ (ZL (i:=1) (by show (["many","house"]:List Str).Nodup; decide +kernel) rfl (Or.inl rfl)) Zc))),ZAd,(ZB 1)⟩) (by decide +kernel) rfl))))))
theorem ZAM:FnScope ["rules","town","state","x","y","turn","houses","up","book","told","timers","due","news","notes","house"] ["rules","town","state","x","y"] (ZM (top 18)):=⟨rfl,rfl,rfl,by decide +kernel,rfl,by decide +kernel,by decide +kernel⟩
theorem ZIl (T:Txt K mg A):FnOk P w K mg base CX0 3 A.f_notes_of A.fd_notes_of ["rules","town","state","x","y"] (spD K 5 ZBd):=by
 have Gdue_houses:=ZGd (P:=P) (w:=w) (base:=base) T
 have Gnews_houses:=ZFx (P:=P) (w:=w) (base:=base) T
 have Gput:=ZDN (P:=P) (w:=w) (base:=base) T
 exact ZX (d:=ZEc) (r:=ZBd) (n:=15) (by unfold ZBd; rfl) rfl rfl T.D_notes_of.fn ZAM λ cdv A outer s H E hr=>(
(ZF (Zn (ZB 2) (Zk rfl (ZJ (ZL (i:=5) ZAM.nd rfl (Or.inl rfl)) (ZJ (ZL (i:=6) ZAM.nd rfl (Or.inl rfl)) Zc))))
(ZF (Zn (ZP oIx (ZB 6) (ZB 3) (λ _ _=>rfl)) (Zk rfl (ZJ (ZL (i:=7) ZAM.nd rfl (Or.inl rfl)) (ZJ (ZL (i:=8) ZAM.nd rfl (Or.inl rfl)) (ZJ (ZL (i:=9) ZAM.nd rfl (Or.inl rfl)) (ZJ (ZL (i:=10) ZAM.nd rfl (Or.inl rfl)) Zc))))))
(ZF (ZQ (i:=11) ZAM.nd rfl (Or.inr rfl) (ZI T.D_due_houses Gdue_houses (hr.mono (by decide)) (ZA (ZB 0) (ZA (ZB 1) (ZA (ZB 5) (ZA (ZB 3) (ZA (ZB 4) ZE))))) (.cons (.cons (.cons (.cons (.cons .nil)))))))
(ZF (ZQ (i:=12) ZAM.nd rfl (Or.inr rfl) (ZI T.D_news_houses Gnews_houses (hr.mono (by decide)) (ZA (ZB 0) (ZA (ZB 9) (ZA (ZB 3) (ZA (ZB 11) ZE)))) (.cons (.cons (.cons (.cons .nil))))))
(ZF (ZQ (i:=13) ZAM.nd rfl (Or.inl rfl) (Zi ZEH rfl T.z_tuple boot_tuple (ZA (Z7 (sc:=ZM (top 18)) (NX:=["rules","town","state","x","y","turn","houses","up","book","told","timers","due","news","notes","house"]) (N:=["house","word","due","news"]) (own:=2) (cap:=[11,12]) rfl (ZCC rfl T.z_enumerate (ZA (ZB 8) ZE) (hn:=(.cons .nil))) rfl rfl (λ cl C s0 H0 fp=>⟨(Zk rfl (ZJ (ZL (i:=0) (by show (["house","word","due","news"]:List Str).Nodup; decide +kernel) rfl (Or.inl rfl)) (ZJ (ZL (i:=1) (by show (["house","word","due","news"]:List Str).Nodup; decide +kernel) rfl (Or.inl rfl)) Zc))),(ZDB (JW.pt (ZBj (ZT (oIn hr.units) (ZB 0) (ZB 2) (by with_unfolding_all rfl)) (ZBP (ZT (oIn hr.units) (ZB 0) (ZB 3) (by with_unfolding_all rfl)))))),(ZY (ZA (ZB 0) (ZA (ZB 1) ZE)))⟩) (by decide +kernel) rfl) ZE)))
(ZF (ZAY PassesOwn.never rfl (ZAc (ZB 12)) (ZL (i:=14) ZAM.nd rfl (Or.inl rfl))
(ZH (ZQ (i:=9) ZAM.nd rfl (Or.inl rfl) (ZI T.D_put Gput (hr.mono (by decide)) (ZA (ZB 9) (ZA (ZB 14) (ZA (ZW ZBp (ZP oIx (ZB 9) (ZB 14) (λ _ _=>rfl)) ZG) ZE))) (.cons (.cons (.cons .nil)))))))
(ZH (ZN (ZY (ZA (ZB 13) (ZA (ZB 9) ZE))))))))))))
theorem ZBz:FnScope ["rules","house","y","word","up","book","told","timers","number","mark"] ["rules","house","y","word"] (ZM (top 22)):=⟨rfl,rfl,rfl,by decide +kernel,rfl,by decide +kernel,by decide +kernel⟩
theorem ZJx (T:Txt K mg A):FnOk P w K mg base CX0 2 A.f_refuted A.fd_refuted ["rules","house","y","word"] (spD K 4 ZBm):=by
 have Gnewer:=ZHa (P:=P) (w:=w) (base:=base) T
 have Gput:=ZDN (P:=P) (w:=w) (base:=base) T
 exact ZX (d:=ZFd) (r:=ZBm) (n:=10) (by unfold ZBm; rfl) rfl rfl T.D_refuted.fn ZBz λ cdv A outer s H E hr=>(
(ZF (Zn (ZB 1) (Zk rfl (ZJ (ZL (i:=4) ZBz.nd rfl (Or.inl rfl)) (ZJ (ZL (i:=5) ZBz.nd rfl (Or.inl rfl)) (ZJ (ZL (i:=6) ZBz.nd rfl (Or.inl rfl)) (ZJ (ZL (i:=7) ZBz.nd rfl (Or.inl rfl)) Zc))))))
(ZF (Ze (JW.pt (ZAZ (ZT (oEq hr.units) (ZB 4) ZG (Za _)) (ZAZ (ZT (oIn hr.units) ZA5 (ZP oIx (ZB 0) ZG (λ _ _=>rfl)) (by with_unfolding_all rfl)) (ZAo (Zp (ZI T.D_newer Gnewer (hr.mono (by decide)) (ZA (ZB 3) (ZA (ZP oIx (ZB 5) (ZB 2) (λ _ _=>rfl)) ZE)) (.cons (.cons .nil))))))))
(ZF (Zn (ZB 3) (Zk rfl (ZJ (ZL (i:=8) ZBz.nd rfl (Or.inl rfl)) (ZJ (ZL (i:=9) ZBz.nd rfl (Or.inl rfl)) Zc))))
(ZH (ZN (ZY (ZA (ZB 4) (ZA (ZI T.D_put Gput (hr.mono (by decide)) (ZA (ZB 5) (ZA (ZB 2) (ZA (ZY (ZA (ZW ZBp (ZB 8) ZG) (ZA (ZAB rfl T.g_ALIVE) ZE))) ZE))) (.cons (.cons (.cons .nil)))) (ZA (ZI T.D_put Gput (hr.mono (by decide)) (ZA (ZB 6) (ZA (ZB 2) (ZA ZG ZE))) (.cons (.cons (.cons .nil)))) (ZA (ZB 7) ZE))))))))
ZV)
(ZH (ZN (ZB 1))))))
theorem ZI3:FnScope ["rules","old","word"] ["rules","old","word"] (ZM (top 24)):=⟨rfl,rfl,rfl,by decide +kernel,rfl,by decide +kernel,by decide +kernel⟩
theorem ZG7 (T:Txt K mg A):FnOk P w K mg base CX0 2 A.f_gives_way A.fd_gives_way ["rules","old","word"] (spD K 3 ZBB):=by
 have Gnewer:=ZHa (P:=P) (w:=w) (base:=base) T
 exact ZX (d:=ZD6) (r:=ZBB) (n:=3) (by unfold ZBB; rfl) rfl rfl T.D_gives_way.fn ZI3 λ cdv A outer s H E hr=>(
(ZF (Ze (ZT (oIn hr.units) ZA5 (ZP oIx (ZB 0) ZG (λ _ _=>rfl)) (by with_unfolding_all rfl))
(ZH (ZN (ZI T.D_newer Gnewer (hr.mono (by decide)) (ZA (ZB 2) (ZA (ZB 1) ZE)) (.cons (.cons .nil)))))
ZV)
(ZH (ZN (ZAF (oNe hr.units) (ZB 2) (ZB 1) (Za _))))))
theorem ZCo:FnScope ["rules","house","about","word","up","book","told","timers","number","mark"] ["rules","house","about","word"] (ZM (top 23)):=⟨rfl,rfl,rfl,by decide +kernel,rfl,by decide +kernel,by decide +kernel⟩
theorem ZMC (T:Txt K mg A):FnOk P w K mg base CX0 3 A.f_noted A.fd_noted ["rules","house","about","word"] (spD K 4 ZCp):=by
 have Ggives_way:=ZG7 (P:=P) (w:=w) (base:=base) T
 have Gput:=ZDN (P:=P) (w:=w) (base:=base) T
 exact ZX (d:=ZIr) (r:=ZCp) (n:=10) (by unfold ZCp; rfl) rfl rfl T.D_noted.fn ZCo λ cdv A outer s H E hr=>(
(ZF (Zn (ZB 1) (Zk rfl (ZJ (ZL (i:=4) ZCo.nd rfl (Or.inl rfl)) (ZJ (ZL (i:=5) ZCo.nd rfl (Or.inl rfl)) (ZJ (ZL (i:=6) ZCo.nd rfl (Or.inl rfl)) (ZJ (ZL (i:=7) ZCo.nd rfl (Or.inl rfl)) Zc))))))
(ZF (Ze (ZAJ (Zp (ZI T.D_gives_way Ggives_way (hr.mono (by decide)) (ZA (ZB 0) (ZA (ZP oIx (ZB 5) (ZB 2) (λ _ _=>rfl)) (ZA (ZB 3) ZE))) (.cons (.cons (.cons .nil))))))
(ZH (ZN (ZB 1)))
ZV)
(ZF (Zn (ZB 3) (Zk rfl (ZJ (ZL (i:=8) ZCo.nd rfl (Or.inl rfl)) (ZJ (ZL (i:=9) ZCo.nd rfl (Or.inl rfl)) Zc))))
(ZF (Ze (ZT (oNe hr.units) (ZB 9) (ZAB rfl T.g_SUSPECT) (Za _))
(ZH (ZQ (i:=7) ZCo.nd rfl (Or.inl rfl) (ZI T.D_put Gput (hr.mono (by decide)) (ZA (ZB 7) (ZA (ZB 2) (ZA ZG ZE))) (.cons (.cons (.cons .nil))))))
ZV)
(ZH (ZN (ZY (ZA (ZB 4) (ZA (ZI T.D_put Gput (hr.mono (by decide)) (ZA (ZB 5) (ZA (ZB 2) (ZA (ZB 3) ZE))) (.cons (.cons (.cons .nil)))) (ZA (ZI T.D_put Gput (hr.mono (by decide)) (ZA (ZB 6) (ZA (ZB 2) (ZA ZG ZE))) (.cons (.cons (.cons .nil)))) (ZA (ZB 7) ZE))))))))))))
theorem ZEo:FnScope ["rules","house","y","notes","about","word"] ["rules","house","y","notes"] (ZM (top 21)):=⟨rfl,rfl,rfl,by decide +kernel,rfl,by decide +kernel,by decide +kernel⟩
theorem ZMB (T:Txt K mg A):FnOk P w K mg base CX0 4 A.f_taken A.fd_taken ["rules","house","y","notes"] (spD K 4 ZDQ):=by
 have Grefuted:=ZJx (P:=P) (w:=w) (base:=base) T
 have Gnoted:=ZMC (P:=P) (w:=w) (base:=base) T
 exact ZX (d:=ZIk) (r:=ZDQ) (n:=6) (by unfold ZDQ; rfl) rfl rfl T.D_taken.fn ZEo λ cdv A outer s H E hr=>(
(ZF (ZAY PassesOwn.never rfl (ZAc (ZB 3)) (Zk rfl (ZJ (ZL (i:=4) ZEo.nd rfl (Or.inl rfl)) (ZJ (ZL (i:=5) ZEo.nd rfl (Or.inl rfl)) Zc)))
(ZH (Ze (ZT (oEq hr.units) (ZB 4) (ZB 2) (Za _))
(ZH (ZQ (i:=1) ZEo.nd rfl (Or.inl rfl) (ZI T.D_refuted Grefuted (hr.mono (by decide)) (ZA (ZB 0) (ZA (ZB 1) (ZA (ZB 2) (ZA (ZB 5) ZE)))) (.cons (.cons (.cons (.cons .nil)))))))
(ZH (ZQ (i:=1) ZEo.nd rfl (Or.inl rfl) (ZI T.D_noted Gnoted (hr.mono (by decide)) (ZA (ZB 0) (ZA (ZB 1) (ZA (ZB 4) (ZA (ZB 5) ZE)))) (.cons (.cons (.cons (.cons .nil))))))))))
(ZH (ZN (ZB 1)))))
theorem ZDd:FnScope ["state","at","house","turn","houses"] ["state","at","house"] (ZM (top 27)):=⟨rfl,rfl,rfl,by decide +kernel,rfl,by decide +kernel,by decide +kernel⟩
theorem ZCk (T:Txt K mg A):FnOk P w K mg base CX0 2 A.f_with_house A.fd_with_house ["state","at","house"] (spD K 3 Z4):=by
 have Gput:=ZDN (P:=P) (w:=w) (base:=base) T
 exact ZX (d:=ZDK) (r:=Z4) (n:=5) (by unfold Z4; rfl) rfl rfl T.D_with_house.fn ZDd λ cdv A outer s H E hr=>(
(ZF (Zn (ZB 0) (Zk rfl (ZJ (ZL (i:=3) ZDd.nd rfl (Or.inl rfl)) (ZJ (ZL (i:=4) ZDd.nd rfl (Or.inl rfl)) Zc))))
(ZH (ZN (ZY (ZA (ZB 3) (ZA (ZI T.D_put Gput (hr.mono (by decide)) (ZA (ZB 4) (ZA (ZB 1) (ZA (ZB 2) ZE))) (.cons (.cons (.cons .nil)))) ZE)))))))
theorem ZBV:FnScope ["rules","town","state","x","y","turn","houses","notes","told","up","book","old","timers","missed"] ["rules","town","state","x","y"] (ZM (top 26)):=⟨rfl,rfl,rfl,by decide +kernel,rfl,by decide +kernel,by decide +kernel⟩
theorem ZKI (T:Txt K mg A):FnOk P w K mg base CX0 5 A.f_posted A.fd_posted ["rules","town","state","x","y"] (spD K 5 ZCh):=by
 have Gnotes_of:=ZIl (P:=P) (w:=w) (base:=base) T
 have Gput:=ZDN (P:=P) (w:=w) (base:=base) T
 have Gwith_house:=ZCk (P:=P) (w:=w) (base:=base) T
 have Gtaken:=ZMB (P:=P) (w:=w) (base:=base) T
 exact ZX (d:=ZGS) (r:=ZCh) (n:=14) (by unfold ZCh; rfl) rfl rfl T.D_posted.fn ZBV λ cdv A outer s H E hr=>(
(ZF (Zn (ZB 2) (Zk rfl (ZJ (ZL (i:=5) ZBV.nd rfl (Or.inl rfl)) (ZJ (ZL (i:=6) ZBV.nd rfl (Or.inl rfl)) Zc))))
(ZF (Zn (ZI T.D_notes_of Gnotes_of (hr.mono (by decide)) (ZA (ZB 0) (ZA (ZB 1) (ZA (ZB 2) (ZA (ZB 3) (ZA (ZB 4) ZE))))) (.cons (.cons (.cons (.cons (.cons .nil)))))) (Zk rfl (ZJ (ZL (i:=7) ZBV.nd rfl (Or.inl rfl)) (ZJ (ZL (i:=8) ZBV.nd rfl (Or.inl rfl)) Zc))))
(ZF (Zn (ZP oIx (ZB 6) (ZB 3) (λ _ _=>rfl)) (Zk rfl (ZJ (ZL (i:=9) ZBV.nd rfl (Or.inl rfl)) (ZJ (ZL (i:=10) ZBV.nd rfl (Or.inl rfl)) (ZJ (ZL (i:=11) ZBV.nd rfl (Or.inl rfl)) (ZJ (ZL (i:=12) ZBV.nd rfl (Or.inl rfl)) Zc))))))
(ZF (ZQ (i:=13) ZBV.nd rfl (Or.inl rfl) (ZY (ZA (ZB 5) (ZA (ZI T.D_put Gput (hr.mono (by decide)) (ZA (ZB 6) (ZA (ZB 3) (ZA (ZY (ZA (ZB 9) (ZA (ZB 10) (ZA (ZB 8) (ZA (ZB 12) ZE))))) ZE))) (.cons (.cons (.cons .nil)))) ZE))))
(ZF (Ze (ZT (oEq hr.units) (ZP oIx (ZP oIx (ZB 6) (ZB 4) (λ _ _=>rfl)) ZG (λ _ _=>rfl)) ZG (Za _))
(ZH (ZN (ZY (ZA (ZB 13) (ZA ZLJ ZE)))))
ZV)
(ZH (ZN (ZY (ZA (ZB 13) (ZA (ZI T.D_with_house Gwith_house (hr.mono (by decide)) (ZA (ZB 13) (ZA (ZB 4) (ZA (ZI T.D_taken Gtaken (hr.mono (by decide)) (ZA (ZB 0) (ZA (ZP oIx (ZB 6) (ZB 4) (λ _ _=>rfl)) (ZA (ZB 4) (ZA (ZB 7) ZE)))) (.cons (.cons (.cons (.cons .nil))))) ZE))) (.cons (.cons (.cons .nil)))) ZE)))))))))))
theorem ZEd:FnScope ["town","state","a","turn","houses"] ["town","state","a"] (ZM (top 28)):=⟨rfl,rfl,rfl,by decide +kernel,rfl,by decide +kernel,by decide +kernel⟩
theorem ZIO (T:Txt K mg A):FnOk P w K mg base CX0 2 A.f_asks_any A.fd_asks_any ["town","state","a"] (spD K 3 ZBD):=by
 have Gticks:=ZLn (P:=P) (w:=w) (base:=base) T
 exact ZX (d:=ZEP) (r:=ZBD) (n:=5) (by unfold ZBD; rfl) rfl rfl T.D_asks_any.fn ZEd λ cdv A outer s H E hr=>(
(ZF (Zn (ZB 1) (Zk rfl (ZJ (ZL (i:=3) ZEd.nd rfl (Or.inl rfl)) (ZJ (ZL (i:=4) ZEd.nd rfl (Or.inl rfl)) Zc))))
(ZH (ZN (ZA8 (ZAF (oEq hr.units) (ZP oIx (ZP oIx (ZB 4) (ZB 2) (λ _ _=>rfl)) ZG (λ _ _=>rfl)) ZG (Za _)) (ZA4 (ZI T.D_ticks Gticks (hr.mono (by decide)) (ZA (ZB 0) (ZA (ZB 2) (ZA (ZB 3) ZE))) (.cons (.cons (.cons .nil))))))))))
theorem ZC7:FnScope ["town","turn","a","first"] ["town","turn","a"] (ZM (top 29)):=⟨rfl,rfl,rfl,by decide +kernel,rfl,by decide +kernel,by decide +kernel⟩
theorem ZEa (T:Txt K mg A):FnOk P w K mg base CX0 3 A.f_asked_in_order A.fd_asked_in_order ["town","turn","a"] (spD K 3 Z9):=by
 have Gtarget:=ZGz (P:=P) (w:=w) (base:=base) T
 exact ZX (d:=ZBx) (r:=Z9) (n:=4) (by unfold Z9; rfl) rfl rfl T.D_asked_in_order.fn ZC7 λ cdv A outer s H E hr=>(
(ZF (ZQ (i:=3) ZC7.nd rfl (Or.inr rfl) (ZI T.D_target Gtarget (hr.mono (by decide)) (ZA (ZB 0) (ZA (ZB 2) (ZA (ZB 1) ZE))) (.cons (.cons (.cons .nil)))))
(ZH (ZN (ZW ZBp (ZB4 (ZA (ZB 3) ZE)) (Z7 (sc:=ZM (top 29)) (NX:=["town","turn","a","first"]) (N:=["b","a","first"]) (own:=1) (cap:=[2,3]) rfl (ZAN rfl T.z_range (ZA (ZS ZCf rfl T.z_len boot_len (ZA (ZB 0) ZE)) ZE) (hn:=(.cons .nil))) rfl rfl (λ cl C s0 H0 fp=>⟨(ZL (i:=0) (by show (["b","a","first"]:List Str).Nodup; decide +kernel) rfl (Or.inl rfl)),(ZDB (JW.pt (ZAZ (ZT (oNe hr.units) (ZB 0) (ZB 1) (Za _)) (ZAo (ZT (oNe hr.units) (ZB 0) (ZB 2) (Za _)))))),(ZB 0)⟩) (by decide +kernel) rfl))))))
theorem ZEh:FnScope ["book","house","number","mark"] ["book","house"] (ZM (top 31)):=⟨rfl,rfl,rfl,by decide +kernel,rfl,by decide +kernel,by decide +kernel⟩
theorem ZDb (T:Txt K mg A):FnOk P w K mg base CX0 1 A.f_is_about A.fd_is_about ["book","house"] (spD K 2 ZAv):=by
 exact ZX (d:=ZEb) (r:=ZAv) (n:=4) (by unfold ZAv; rfl) rfl rfl T.D_is_about.fn ZEh λ cdv A outer s H E hr=>(
(ZF (Zn (ZP oIx (ZB 0) (ZB 1) (λ _ _=>rfl)) (Zk rfl (ZJ (ZL (i:=2) ZEh.nd rfl (Or.inl rfl)) (ZJ (ZL (i:=3) ZEh.nd rfl (Or.inl rfl)) Zc))))
(ZH (ZN (ZAF (oLt hr.units) (ZB 3) (ZAB rfl T.g_GONE) (Za _))))))
theorem ZBc:FnScope ["rules","town","state","a","b","turn","houses","up","book","told","timers"] ["rules","town","state","a","b"] (ZM (top 30)):=⟨rfl,rfl,rfl,by decide +kernel,rfl,by decide +kernel,by decide +kernel⟩
theorem ZIJ (T:Txt K mg A):FnOk P w K mg base CX0 3 A.f_asks_now A.fd_asks_now ["rules","town","state","a","b"] (spD K 5 ZBH):=by
 have Gtarget:=ZGz (P:=P) (w:=w) (base:=base) T
 have Gis_about:=ZDb (P:=P) (w:=w) (base:=base) T
 exact ZX (d:=ZEW) (r:=ZBH) (n:=11) (by unfold ZBH; rfl) rfl rfl T.D_asks_now.fn ZBc λ cdv A outer s H E hr=>(
(ZF (Zn (ZB 2) (Zk rfl (ZJ (ZL (i:=5) ZBc.nd rfl (Or.inl rfl)) (ZJ (ZL (i:=6) ZBc.nd rfl (Or.inl rfl)) Zc))))
(ZF (Zn (ZP oIx (ZB 6) (ZB 3) (λ _ _=>rfl)) (Zk rfl (ZJ (ZL (i:=7) ZBc.nd rfl (Or.inl rfl)) (ZJ (ZL (i:=8) ZBc.nd rfl (Or.inl rfl)) (ZJ (ZL (i:=9) ZBc.nd rfl (Or.inl rfl)) (ZJ (ZL (i:=10) ZBc.nd rfl (Or.inl rfl)) Zc))))))
(ZF (Ze (ZT (oEq hr.units) (ZB 4) (ZI T.D_target Gtarget (hr.mono (by decide)) (ZA (ZB 1) (ZA (ZB 3) (ZA (ZB 5) ZE))) (.cons (.cons (.cons .nil)))) (Za _))
(ZH (ZN (ZN9 (ZAF (oIn hr.units) ZA5 (ZP oIx (ZB 0) ZG (λ _ _=>rfl)) (by with_unfolding_all rfl)) (ZA4 (ZI T.D_is_about Gis_about (hr.mono (by decide)) (ZA (ZB 8) (ZA (ZB 4) ZE)) (.cons (.cons .nil)))))))
ZV)
(ZH (ZN (ZAF (oGt hr.units) (ZP oIx (ZB 10) (ZB 4) (λ _ _=>rfl)) ZG (Za _))))))))
theorem ZFI:FnScope ["rules","book","a","b","many","behind"] ["rules","book","a","b"] (ZM (top 33)):=⟨rfl,rfl,rfl,by decide +kernel,rfl,by decide +kernel,by decide +kernel⟩
theorem ZJV (T:Txt K mg A):FnOk P w K mg base CX0 2 A.f_helpers A.fd_helpers ["rules","book","a","b"] (spD K 4 ZBy):=by
 have Gis_about:=ZDb (P:=P) (w:=w) (base:=base) T
 exact ZX (d:=ZFP) (r:=ZBy) (n:=6) (by unfold ZBy; rfl) rfl rfl T.D_helpers.fn ZFI λ cdv A outer s H E hr=>(
(ZF (ZQ (i:=4) ZFI.nd rfl (Or.inr rfl) (ZS ZCf rfl T.z_len boot_len (ZA (ZB 1) ZE)))
(ZF (ZJz (i:=5) (sc:=ZM (top 33)) (NX:=["rules","book","a","b","many","behind"]) (N:=["step","many","a"]) (own:=1) (cap:=[4,2]) ZFI.nd rfl (Or.inl rfl) rfl (ZKV rfl T.z_range (ZA ZG (ZA (ZB 4) ZE)) (hn:=(.cons (.cons .nil)))) rfl rfl (λ cl C s0 H0 fp=>⟨(ZL (i:=0) (by show (["step","many","a"]:List Str).Nodup; decide +kernel) rfl (Or.inl rfl)),ZAd,(ZW ZGX (ZW ZBp (ZB 2) (ZB 0)) (ZB 1))⟩) (by decide +kernel) rfl)
(ZH (ZN (ZFH (Z7 (sc:=ZM (top 33)) (NX:=["rules","book","a","b","many","behind"]) (N:=["h","b","book"]) (own:=1) (cap:=[3,1]) rfl (ZAc (ZB 5)) rfl rfl (λ cl C s0 H0 fp=>⟨(ZL (i:=0) (by show (["h","b","book"]:List Str).Nodup; decide +kernel) rfl (Or.inl rfl)),(ZDB (JW.pt (ZAZ (ZT (oNe hr.units) (ZB 0) (ZB 1) (Za _)) (ZAo (Zp (ZI T.D_is_about Gis_about (hr.mono (by decide)) (ZA (ZB 2) (ZA (ZB 0) ZE)) (.cons (.cons .nil)))))))),(ZB 0)⟩) (by decide +kernel) rfl) ZC6 (ZDD (ZP oIx (ZB 0) ZG (λ _ _=>rfl)))))))))
theorem ZDZ:FnScope ["rules","state","a","b","turn","houses","up","book","told","timers","found"] ["rules","state","a","b"] (ZM (top 32)):=⟨rfl,rfl,rfl,by decide +kernel,rfl,by decide +kernel,by decide +kernel⟩
theorem ZNh (T:Txt K mg A):FnOk P w K mg base CX0 3 A.f_ways A.fd_ways ["rules","state","a","b"] (spD K 4 ZER):=by
 have Gis_about:=ZDb (P:=P) (w:=w) (base:=base) T
 have Ghelpers:=ZJV (P:=P) (w:=w) (base:=base) T
 exact ZX (d:=ZKM) (r:=ZER) (n:=11) (by unfold ZER; rfl) rfl rfl T.D_ways.fn ZDZ λ cdv A outer s H E hr=>(
(ZF (Zn (ZB 1) (Zk rfl (ZJ (ZL (i:=4) ZDZ.nd rfl (Or.inl rfl)) (ZJ (ZL (i:=5) ZDZ.nd rfl (Or.inl rfl)) Zc))))
(ZF (Zn (ZP oIx (ZB 5) (ZB 2) (λ _ _=>rfl)) (Zk rfl (ZJ (ZL (i:=6) ZDZ.nd rfl (Or.inl rfl)) (ZJ (ZL (i:=7) ZDZ.nd rfl (Or.inl rfl)) (ZJ (ZL (i:=8) ZDZ.nd rfl (Or.inl rfl)) (ZJ (ZL (i:=9) ZDZ.nd rfl (Or.inl rfl)) Zc))))))
(ZF (ZQ (i:=10) ZDZ.nd rfl (Or.inl rfl) (ZBa (ZA (ZY (ZA (ZY (ZA (ZB 2) (ZA (ZB 3) ZE))) (ZA (ZY (ZA (ZB 3) (ZA (ZB 2) ZE))) ZE))) ZE)))
(ZF (Ze (JW.pt (ZAZ (ZT (oIn hr.units) ZA5 (ZP oIx (ZB 0) ZG (λ _ _=>rfl)) (by with_unfolding_all rfl)) (ZAo (Zp (ZI T.D_is_about Gis_about (hr.mono (by decide)) (ZA (ZB 7) (ZA (ZB 3) ZE)) (.cons (.cons .nil)))))))
(ZH (ZM6 (i:=10) ZDZ.nd rfl (Or.inl rfl) (Z7 (sc:=ZM (top 32)) (NX:=["rules","state","a","b","turn","houses","up","book","told","timers","found"]) (N:=["h","a","b"]) (own:=1) (cap:=[2,3]) rfl (ZAc (ZI T.D_helpers Ghelpers (hr.mono (by decide)) (ZA (ZB 0) (ZA (ZB 7) (ZA (ZB 2) (ZA (ZB 3) ZE)))) (.cons (.cons (.cons (.cons .nil)))))) rfl rfl (λ cl C s0 H0 fp=>⟨(ZL (i:=0) (by show (["h","a","b"]:List Str).Nodup; decide +kernel) rfl (Or.inl rfl)),ZAd,(ZY (ZA (ZY (ZA (ZB 1) (ZA (ZB 0) ZE))) (ZA (ZY (ZA (ZB 0) (ZA (ZB 2) ZE))) (ZA (ZY (ZA (ZB 2) (ZA (ZB 0) ZE))) (ZA (ZY (ZA (ZB 0) (ZA (ZB 1) ZE))) ZE)))))⟩) (by decide +kernel) rfl)))
ZV)
(ZH (ZN (ZB 10))))))))
theorem ZAi:FnScope ["rules","state","a","b","answered","turn","houses","up","book","told","timers","number","mark"] ["rules","state","a","b","answered"] (ZM (top 34)):=⟨rfl,rfl,rfl,by decide +kernel,rfl,by decide +kernel,by decide +kernel⟩
theorem ZKK (T:Txt K mg A):FnOk P w K mg base CX0 3 A.f_judged A.fd_judged ["rules","state","a","b","answered"] (spD K 5 ZCH):=by
 have Gwith_house:=ZCk (P:=P) (w:=w) (base:=base) T
 have Gput:=ZDN (P:=P) (w:=w) (base:=base) T
 exact ZX (d:=ZGO) (r:=ZCH) (n:=13) (by unfold ZCH; rfl) rfl rfl T.D_judged.fn ZAi λ cdv A outer s H E hr=>(
(ZF (Zn (ZB 1) (Zk rfl (ZJ (ZL (i:=5) ZAi.nd rfl (Or.inl rfl)) (ZJ (ZL (i:=6) ZAi.nd rfl (Or.inl rfl)) Zc))))
(ZF (Zn (ZP oIx (ZB 6) (ZB 2) (λ _ _=>rfl)) (Zk rfl (ZJ (ZL (i:=7) ZAi.nd rfl (Or.inl rfl)) (ZJ (ZL (i:=8) ZAi.nd rfl (Or.inl rfl)) (ZJ (ZL (i:=9) ZAi.nd rfl (Or.inl rfl)) (ZJ (ZL (i:=10) ZAi.nd rfl (Or.inl rfl)) Zc))))))
(ZF (Zn (ZP oIx (ZB 8) (ZB 3) (λ _ _=>rfl)) (Zk rfl (ZJ (ZL (i:=11) ZAi.nd rfl (Or.inl rfl)) (ZJ (ZL (i:=12) ZAi.nd rfl (Or.inl rfl)) Zc))))
(ZF (Ze (Zp (ZB 4))
(ZH (ZQ (i:=10) ZAi.nd rfl (Or.inl rfl) (ZI T.D_put Gput (hr.mono (by decide)) (ZA (ZB 10) (ZA (ZB 3) (ZA ZG ZE))) (.cons (.cons (.cons .nil))))))
(ZH (Ze (JW.pt (ZAZ (ZT (oLt hr.units) (ZB 12) (ZAB rfl T.g_GONE) (Za _)) (ZAo (JW.pt (ZBj (ZT (ZM2 hr.units) ZA5 (ZP oIx (ZB 0) ZG (λ _ _=>rfl)) (by with_unfolding_all rfl)) (ZBP (ZT (oEq hr.units) (ZP oIx (ZB 10) (ZB 3) (λ _ _=>rfl)) ZG (Za _))))))))
(ZH (ZJt (i:=8) (j:=9) (l:=10) rfl ZAi.nd rfl rfl rfl rfl rfl rfl (ZA (ZI T.D_put Gput (hr.mono (by decide)) (ZA (ZB 8) (ZA (ZB 3) (ZA (ZY (ZA (ZB 11) (ZA (ZAB rfl T.g_GONE) ZE))) ZE))) (.cons (.cons (.cons .nil)))) (ZA (ZI T.D_put Gput (hr.mono (by decide)) (ZA (ZB 9) (ZA (ZB 3) (ZA ZG ZE))) (.cons (.cons (.cons .nil)))) (ZA (ZI T.D_put Gput (hr.mono (by decide)) (ZA (ZB 10) (ZA (ZB 3) (ZA ZG ZE))) (.cons (.cons (.cons .nil)))) ZE)))))
(ZH (Ze (JW.pt (ZAZ (ZT (oLt hr.units) (ZB 12) (ZAB rfl T.g_GONE) (Za _)) (ZAo (ZT (oEq hr.units) (ZP oIx (ZB 10) (ZB 3) (λ _ _=>rfl)) ZG (Za _)))))
(ZF (Ze (ZT (oEq hr.units) (ZB 12) (ZAB rfl T.g_ALIVE) (Za _))
(ZH (ZPA (i:=8) (j:=9) rfl ZAi.nd rfl rfl (by decide) rfl rfl (ZA (ZI T.D_put Gput (hr.mono (by decide)) (ZA (ZB 8) (ZA (ZB 3) (ZA (ZY (ZA (ZB 11) (ZA (ZAB rfl T.g_SUSPECT) ZE))) ZE))) (.cons (.cons (.cons .nil)))) (ZA (ZI T.D_put Gput (hr.mono (by decide)) (ZA (ZB 9) (ZA (ZB 3) (ZA ZG ZE))) (.cons (.cons (.cons .nil)))) ZE)) rfl))
ZV)
(ZH (ZQ (i:=10) ZAi.nd rfl (Or.inl rfl) (ZI T.D_put Gput (hr.mono (by decide)) (ZA (ZB 10) (ZA (ZB 3) (ZA (ZP oIx (ZB 0) ZG (λ _ _=>rfl)) ZE))) (.cons (.cons (.cons .nil)))))))
(ZH (Ze (ZT (oLt hr.units) (ZB 12) (ZAB rfl T.g_GONE) (Za _))
(ZH (ZQ (i:=10) ZAi.nd rfl (Or.inl rfl) (ZI T.D_put Gput (hr.mono (by decide)) (ZA (ZB 10) (ZA (ZB 3) (ZA (ZW ZLt (ZP oIx (ZB 10) (ZB 3) (λ _ _=>rfl)) ZG) ZE))) (.cons (.cons (.cons .nil))))))
ZV)))))))
(ZH (ZN (ZI T.D_with_house Gwith_house (hr.mono (by decide)) (ZA (ZB 1) (ZA (ZB 2) (ZA (ZY (ZA (ZB 7) (ZA (ZB 8) (ZA (ZB 9) (ZA (ZB 10) ZE))))) ZE))) (.cons (.cons (.cons .nil)))))))))))
theorem ZFL:FnScope ["self","rules","town","state","lost"] ["self","rules","town","state","lost"] (ZM (ZCu (top 36) 0)):=⟨rfl,rfl,rfl,by decide +kernel,rfl,by decide +kernel,by decide +kernel⟩
theorem ZEm (T:Txt K mg A):FnOk P w K mg base CX0 1 A.f_Road____init__ A.fd_Road____init__ ["self","rules","town","state","lost"] (spD K 5 ZAA):=by
 exact ZX (d:=ZB2) (r:=ZAA) (n:=5) (by unfold ZAA; rfl) rfl rfl T.D_Road____init__.fn ZFL λ cdv A outer s H E hr=>(
(ZF (ZCU (i:=0) T.k_Road rfl (ZB 0) (ZB 1))
(ZF (ZCU (i:=1) T.k_Road rfl (ZB 0) (ZB 2))
(ZF (ZCU (i:=2) T.k_Road rfl (ZB 0) (ZB 3))
(ZF (ZCU (i:=3) T.k_Road rfl (ZB 0) (ZB 4))
(ZH (ZCU (i:=4) T.k_Road rfl (ZB 0) (ZBa ZE))))))))
theorem ZB5:FnScope ["self","x","y","lost","missed","came"] ["self","x","y"] (ZM (ZCu (top 36) 1)):=⟨rfl,rfl,rfl,by decide +kernel,rfl,by decide +kernel,by decide +kernel⟩
theorem ZDi (T:Txt K mg A):FnOk P w K mg base CX0 6 A.f_Road__sends A.fd_Road__sends ["self","x","y"] (spD K 3 Z0):=by
 have Gposted:=ZKI (P:=P) (w:=w) (base:=base) T
 exact ZX (d:=ZC0) (r:=Z0) (n:=6) (by unfold Z0; rfl) rfl rfl T.D_Road__sends.fn ZB5 λ cdv A outer s H E hr=>(
(ZF (ZQ (i:=3) ZB5.nd rfl (Or.inl rfl) (ZAF (oIn hr.units) (ZS ZCf rfl T.z_len boot_len (ZA (ZAG (i:=4) T.k_Road rfl (ZB 0)) ZE)) (ZAG (i:=3) T.k_Road rfl (ZB 0)) (by with_unfolding_all rfl)))
(ZF (ZA0 (ZCs (ZAG (i:=4) T.k_Road rfl (ZB 0)) (ZY (ZA (ZB 1) (ZA (ZB 2) (ZA (ZB 3) ZE))))))
(ZF (Zn (ZI T.D_posted Gposted (hr.mono (by decide)) (ZA (ZAG (i:=0) T.k_Road rfl (ZB 0)) (ZA (ZAG (i:=1) T.k_Road rfl (ZB 0)) (ZA (ZAG (i:=2) T.k_Road rfl (ZB 0)) (ZA (ZB 1) (ZA (ZB 2) ZE))))) (.cons (.cons (.cons (.cons (.cons .nil)))))) (Zk rfl (ZJ (ZL (i:=4) ZB5.nd rfl (Or.inl rfl)) (ZJ (ZL (i:=5) ZB5.nd rfl (Or.inl rfl)) Zc))))
(ZF (Ze (JW.pt (ZBj (Zp (ZB 3)) (ZBP (ZT oIsN (ZB 5) ZLJ (Za _)))))
(ZF (ZCU (i:=2) T.k_Road rfl (ZB 0) (ZB 4))
(ZH (ZN Z6)))
ZV)
(ZF (ZCU (i:=2) T.k_Road rfl (ZB 0) (ZB 5))
(ZH (ZN Z6))))))))
theorem ZD1:FnScope ["road","x","y"] ["road","x"] (ZM (top 39)):=⟨rfl,rfl,rfl,by decide +kernel,rfl,by decide +kernel,by decide +kernel⟩
theorem ZFR (T:Txt K mg A):FnOk P w K mg base CX0 7 A.f_write_to_all A.fd_write_to_all ["road","x"] (spD K 2 ZAH):=by
 have GRoad__sends:=ZDi (P:=P) (w:=w) (base:=base) T
 exact ZX (d:=ZCd) (r:=ZAH) (n:=3) (by unfold ZAH; rfl) rfl rfl T.D_write_to_all.fn ZD1 λ cdv A outer s H E hr=>(
(ZH (ZAY PassesOwn.never rfl (ZAN rfl T.z_range (ZA (ZS ZCf rfl T.z_len boot_len (ZA (ZAG (i:=1) T.k_Road rfl (ZB 0)) ZE)) ZE) (hn:=(.cons .nil))) (ZL (i:=2) ZD1.nd rfl (Or.inl rfl))
(ZH (Ze (ZT (oNe hr.units) (ZB 2) (ZB 1) (Za _))
(ZH (ZA0 (ZJF T.k_Road T.D_Road__sends GRoad__sends (hr.mono (by decide)) (by decide +kernel) (ZB 0) (ZA (ZB 1) (ZA (ZB 2) ZE)) (.cons (.cons .nil)))))
ZV)))))
theorem ZEn:FnScope ["road","x","turn","houses","up","book","told","timers"] ["road","x"] (ZM (top 40)):=⟨rfl,rfl,rfl,by decide +kernel,rfl,by decide +kernel,by decide +kernel⟩
theorem ZM8 (T:Txt K mg A):FnOk P w K mg base CX0 3 A.f_stop A.fd_stop ["road","x"] (spD K 2 ZDq):=by
 have Gwith_house:=ZCk (P:=P) (w:=w) (base:=base) T
 exact ZX (d:=ZKd) (r:=ZDq) (n:=8) (by unfold ZDq; rfl) rfl rfl T.D_stop.fn ZEn λ cdv A outer s H E hr=>(
(ZF (Zn (ZAG (i:=2) T.k_Road rfl (ZB 0)) (Zk rfl (ZJ (ZL (i:=2) ZEn.nd rfl (Or.inl rfl)) (ZJ (ZL (i:=3) ZEn.nd rfl (Or.inl rfl)) Zc))))
(ZF (Zn (ZP oIx (ZB 3) (ZB 1) (λ _ _=>rfl)) (Zk rfl (ZJ (ZL (i:=4) ZEn.nd rfl (Or.inl rfl)) (ZJ (ZL (i:=5) ZEn.nd rfl (Or.inl rfl)) (ZJ (ZL (i:=6) ZEn.nd rfl (Or.inl rfl)) (ZJ (ZL (i:=7) ZEn.nd rfl (Or.inl rfl)) Zc))))))
(ZH (ZCU (i:=2) T.k_Road rfl (ZB 0) (ZI T.D_with_house Gwith_house (hr.mono (by decide)) (ZA (ZAG (i:=2) T.k_Road rfl (ZB 0)) (ZA (ZB 1) (ZA (ZY (ZA ZG (ZA (ZB 5) (ZA (ZB 6) (ZA (ZB 7) ZE))))) ZE))) (.cons (.cons (.cons .nil)))))))))
theorem ZBM:FnScope ["houses","doings","lost","falls","leaves","comes","behind","at","house","up","book","told","timers","number","mark"] ["houses","doings"] (ZM (top 38)):=⟨rfl,rfl,rfl,by decide +kernel,rfl,by decide +kernel,by decide +kernel⟩
theorem ZM4 (T:Txt K mg A):FnOk P w K mg base CX0 2 A.f_done A.fd_done ["houses","doings"] (spD K 2 ZEi):=by
 have Gput:=ZDN (P:=P) (w:=w) (base:=base) T
 exact ZX (d:=ZKX) (r:=ZEi) (n:=15) (by unfold ZEi; rfl) rfl rfl T.D_done.fn ZBM λ cdv A outer s H E hr=>(
(ZF (Zn (ZB 1) (Zk rfl (ZJ (ZL (i:=2) ZBM.nd rfl (Or.inl rfl)) (ZJ (ZL (i:=3) ZBM.nd rfl (Or.inl rfl)) (ZJ (ZL (i:=4) ZBM.nd rfl (Or.inl rfl)) (ZJ (ZL (i:=5) ZBM.nd rfl (Or.inl rfl)) Zc))))))
(ZF (ZQ (i:=6) ZBM.nd rfl (Or.inl rfl) (ZBa ZE))
(ZF (ZAY PassesOwn.never rfl (ZCC rfl T.z_enumerate (ZA (ZB 0) ZE) (hn:=(.cons .nil))) (Zk rfl (ZJ (ZL (i:=7) ZBM.nd rfl (Or.inl rfl)) (ZJ (ZL (i:=8) ZBM.nd rfl (Or.inl rfl)) Zc)))
(ZF (Zn (ZB 8) (Zk rfl (ZJ (ZL (i:=9) ZBM.nd rfl (Or.inl rfl)) (ZJ (ZL (i:=10) ZBM.nd rfl (Or.inl rfl)) (ZJ (ZL (i:=11) ZBM.nd rfl (Or.inl rfl)) (ZJ (ZL (i:=12) ZBM.nd rfl (Or.inl rfl)) Zc))))))
(ZF (Zn (ZP oIx (ZB 10) (ZB 7) (λ _ _=>rfl)) (Zk rfl (ZJ (ZL (i:=13) ZBM.nd rfl (Or.inl rfl)) (ZJ (ZL (i:=14) ZBM.nd rfl (Or.inl rfl)) Zc))))
(ZF (Ze (ZT (oIn hr.units) (ZB 7) (ZB 3) (by with_unfolding_all rfl))
(ZH (ZQ (i:=8) ZBM.nd rfl (Or.inl rfl) (ZY (ZA ZG (ZA (ZB 10) (ZA (ZB 11) (ZA (ZW ZDn (ZY (ZA ZG ZE)) (ZS ZCf rfl T.z_len boot_len (ZA (ZB 12) ZE))) ZE)))))))
(ZH (Ze (ZT (oIn hr.units) (ZB 7) (ZB 4) (by with_unfolding_all rfl))
(ZH (ZQ (i:=8) ZBM.nd rfl (Or.inl rfl) (ZY (ZA (ZB 9) (ZA (ZI T.D_put Gput (hr.mono (by decide)) (ZA (ZB 10) (ZA (ZB 7) (ZA (ZY (ZA (ZB 13) (ZA (ZAB rfl T.g_LEFT) ZE))) ZE))) (.cons (.cons (.cons .nil)))) (ZA (ZI T.D_put Gput (hr.mono (by decide)) (ZA (ZB 11) (ZA (ZB 7) (ZA ZG ZE))) (.cons (.cons (.cons .nil)))) (ZA (ZW ZDn (ZY (ZA ZG ZE)) (ZS ZCf rfl T.z_len boot_len (ZA (ZB 12) ZE))) ZE)))))))
(ZH (Ze (ZT (oIn hr.units) (ZB 7) (ZB 5) (by with_unfolding_all rfl))
(ZH (ZQ (i:=8) ZBM.nd rfl (Or.inl rfl) (ZY (ZA ZG (ZA (ZI T.D_put Gput (hr.mono (by decide)) (ZA (ZB 10) (ZA (ZB 7) (ZA (ZY (ZA (ZW ZBp (ZB 13) ZG) (ZA (ZAB rfl T.g_ALIVE) ZE))) ZE))) (.cons (.cons (.cons .nil)))) (ZA (ZI T.D_put Gput (hr.mono (by decide)) (ZA (ZB 11) (ZA (ZB 7) (ZA ZG ZE))) (.cons (.cons (.cons .nil)))) (ZA (ZB 12) ZE)))))))
ZV)))))
(ZH (ZA0 (ZCs (ZB 6) (ZB 8))))))))
(ZH (ZN (Zi ZEH rfl T.z_tuple boot_tuple (ZA (ZB 6) ZE))))))))
theorem ZCI:FnScope ["road","way","x","y"] ["road","way"] (ZM (top 43)):=⟨rfl,rfl,rfl,by decide +kernel,rfl,by decide +kernel,by decide +kernel⟩
theorem ZEq (T:Txt K mg A):FnOk P w K mg base CX0 7 A.f_comes_through A.fd_comes_through ["road","way"] (spD K 2 Z5):=by
 have GRoad__sends:=ZDi (P:=P) (w:=w) (base:=base) T
 exact ZX (d:=ZCM) (r:=Z5) (n:=4) (by unfold Z5; rfl) rfl rfl T.D_comes_through.fn ZCI λ cdv A outer s H E hr=>(
(ZF (ZAY PassesOwn.never rfl (ZAc (ZB 1)) (Zk rfl (ZJ (ZL (i:=2) ZCI.nd rfl (Or.inl rfl)) (ZJ (ZL (i:=3) ZCI.nd rfl (Or.inl rfl)) Zc)))
(ZH (Ze (ZAJ (Zp (ZJF T.k_Road T.D_Road__sends GRoad__sends (hr.mono (by decide)) (by decide +kernel) (ZB 0) (ZA (ZB 2) (ZA (ZB 3) ZE)) (.cons (.cons .nil)))))
(ZH (ZN Z6))
ZV)))
(ZH (ZN Z6))))
theorem ZEK:FnScope ["road","a","b","way"] ["road","a","b"] (ZM (top 42)):=⟨rfl,rfl,rfl,by decide +kernel,rfl,by decide +kernel,by decide +kernel⟩
theorem ZFy (T:Txt K mg A):FnOk P w K mg base CX0 8 A.f_is_answered A.fd_is_answered ["road","a","b"] (spD K 3 ZAW):=by
 have Gways:=ZNh (P:=P) (w:=w) (base:=base) T
 have Gcomes_through:=ZEq (P:=P) (w:=w) (base:=base) T
 exact ZX (d:=ZC4) (r:=ZAW) (n:=4) (by unfold ZAW; rfl) rfl rfl T.D_is_answered.fn ZEK λ cdv A outer s H E hr=>(
(ZF (ZAY PassesOwn.never rfl (ZAc (ZI T.D_ways Gways (hr.mono (by decide)) (ZA (ZAG (i:=0) T.k_Road rfl (ZB 0)) (ZA (ZAG (i:=2) T.k_Road rfl (ZB 0)) (ZA (ZB 1) (ZA (ZB 2) ZE)))) (.cons (.cons (.cons (.cons .nil)))))) (ZL (i:=3) ZEK.nd rfl (Or.inl rfl))
(ZH (Ze (Zp (ZI T.D_comes_through Gcomes_through (hr.mono (by decide)) (ZA (ZB 0) (ZA (ZB 3) ZE)) (.cons (.cons .nil))))
(ZH (ZN Z6))
ZV)))
(ZH (ZN Z6))))
theorem ZDA:FnScope ["road","a","turn","houses","b","answered"] ["road","a"] (ZM (top 41)):=⟨rfl,rfl,rfl,by decide +kernel,rfl,by decide +kernel,by decide +kernel⟩
theorem ZJp (T:Txt K mg A):FnOk P w K mg base CX0 9 A.f_ask_all A.fd_ask_all ["road","a"] (spD K 2 ZBo):=by
 have Gasked_in_order:=ZEa (P:=P) (w:=w) (base:=base) T
 have Gasks_now:=ZIJ (P:=P) (w:=w) (base:=base) T
 have Gis_answered:=ZFy (P:=P) (w:=w) (base:=base) T
 have Gjudged:=ZKK (P:=P) (w:=w) (base:=base) T
 exact ZX (d:=ZFY) (r:=ZBo) (n:=6) (by unfold ZBo; rfl) rfl rfl T.D_ask_all.fn ZDA λ cdv A outer s H E hr=>(
(ZF (Zn (ZAG (i:=2) T.k_Road rfl (ZB 0)) (Zk rfl (ZJ (ZL (i:=2) ZDA.nd rfl (Or.inl rfl)) (ZJ (ZL (i:=3) ZDA.nd rfl (Or.inl rfl)) Zc))))
(ZH (ZAY PassesOwn.never rfl (ZAc (ZI T.D_asked_in_order Gasked_in_order (hr.mono (by decide)) (ZA (ZAG (i:=1) T.k_Road rfl (ZB 0)) (ZA (ZB 2) (ZA (ZB 1) ZE))) (.cons (.cons (.cons .nil))))) (ZL (i:=4) ZDA.nd rfl (Or.inl rfl))
(ZH (Ze (Zp (ZI T.D_asks_now Gasks_now (hr.mono (by decide)) (ZA (ZAG (i:=0) T.k_Road rfl (ZB 0)) (ZA (ZAG (i:=1) T.k_Road rfl (ZB 0)) (ZA (ZAG (i:=2) T.k_Road rfl (ZB 0)) (ZA (ZB 1) (ZA (ZB 4) ZE))))) (.cons (.cons (.cons (.cons (.cons .nil)))))))
(ZF (ZQ (i:=5) ZDA.nd rfl (Or.inl rfl) (ZI T.D_is_answered Gis_answered (hr.mono (by decide)) (ZA (ZB 0) (ZA (ZB 1) (ZA (ZB 4) ZE))) (.cons (.cons (.cons .nil)))))
(ZH (ZCU (i:=2) T.k_Road rfl (ZB 0) (ZI T.D_judged Gjudged (hr.mono (by decide)) (ZA (ZAG (i:=0) T.k_Road rfl (ZB 0)) (ZA (ZAG (i:=2) T.k_Road rfl (ZB 0)) (ZA (ZB 1) (ZA (ZB 4) (ZA (ZB 5) ZE))))) (.cons (.cons (.cons (.cons (.cons .nil)))))))))
ZV))))))
theorem ZAX:FnScope ["rules","town","state","doings","turn","houses","lost","falls","leaves","comes","road","x","a"] ["rules","town","state","doings"] (ZM (top 37)):=⟨rfl,rfl,rfl,by decide +kernel,rfl,by decide +kernel,by decide +kernel⟩
theorem ZJf (T:Txt K mg A):FnOk P w K mg base CX0 10 A.f_stepped A.fd_stepped ["rules","town","state","doings"] (spD K 4 ZBO):=by
 have GRoad____init__:=ZEm (P:=P) (w:=w) (base:=base) T
 have Gwrite_to_all:=ZFR (P:=P) (w:=w) (base:=base) T
 have Gstop:=ZM8 (P:=P) (w:=w) (base:=base) T
 have Gasks_any:=ZIO (P:=P) (w:=w) (base:=base) T
 have Gdone:=ZM4 (P:=P) (w:=w) (base:=base) T
 have Gask_all:=ZJp (P:=P) (w:=w) (base:=base) T
 exact ZX (d:=ZFX) (r:=ZBO) (n:=13) (by unfold ZBO; rfl) rfl rfl T.D_stepped.fn ZAX λ cdv A outer s H E hr=>(
(ZF (Zn (ZB 2) (Zk rfl (ZJ (ZL (i:=4) ZAX.nd rfl (Or.inl rfl)) (ZJ (ZL (i:=5) ZAX.nd rfl (Or.inl rfl)) Zc))))
(ZF (Zn (ZB 3) (Zk rfl (ZJ (ZL (i:=6) ZAX.nd rfl (Or.inl rfl)) (ZJ (ZL (i:=7) ZAX.nd rfl (Or.inl rfl)) (ZJ (ZL (i:=8) ZAX.nd rfl (Or.inl rfl)) (ZJ (ZL (i:=9) ZAX.nd rfl (Or.inl rfl)) Zc))))))
(ZF (ZQ (i:=10) ZAX.nd rfl (Or.inl rfl) (ZNn T.k_Road rfl T.m_Road T.D_Road____init__ GRoad____init__ (hr.mono (by decide)) (ZA (ZB 0) (ZA (ZB 1) (ZA (ZY (ZA (ZB 4) (ZA (ZI T.D_done Gdone (hr.mono (by decide)) (ZA (ZB 5) (ZA (ZB 3) ZE)) (.cons (.cons .nil))) ZE))) (ZA (ZB 6) ZE)))) (.cons (.cons (.cons (.cons .nil))))))
(ZF (ZAY PassesOwn.never rfl (ZAc (ZW ZBp (ZB 8) (ZB 9))) (ZL (i:=11) ZAX.nd rfl (Or.inl rfl))
(ZH (ZA0 (ZI T.D_write_to_all Gwrite_to_all (hr.mono (by decide)) (ZA (ZB 10) (ZA (ZB 11) ZE)) (.cons (.cons .nil))))))
(ZF (ZAY PassesOwn.never rfl (ZAc (ZB 8)) (ZL (i:=11) ZAX.nd rfl (Or.inl rfl))
(ZH (ZA0 (ZI T.D_stop Gstop (hr.mono (by decide)) (ZA (ZB 10) (ZA (ZB 11) ZE)) (.cons (.cons .nil))))))
(ZF (ZAY PassesOwn.never rfl (ZAN rfl T.z_range (ZA (ZS ZCf rfl T.z_len boot_len (ZA (ZB 1) ZE)) ZE) (hn:=(.cons .nil))) (ZL (i:=12) ZAX.nd rfl (Or.inl rfl))
(ZH (Ze (Zp (ZI T.D_asks_any Gasks_any (hr.mono (by decide)) (ZA (ZB 1) (ZA (ZAG (i:=2) T.k_Road rfl (ZB 10)) (ZA (ZB 12) ZE))) (.cons (.cons (.cons .nil)))))
(ZH (ZA0 (ZI T.D_ask_all Gask_all (hr.mono (by decide)) (ZA (ZB 10) (ZA (ZB 12) ZE)) (.cons (.cons .nil)))))
ZV)))
(ZF (Zn (ZAG (i:=2) T.k_Road rfl (ZB 10)) (Zk rfl (ZJ (ZL (i:=4) ZAX.nd rfl (Or.inl rfl)) (ZJ (ZL (i:=5) ZAX.nd rfl (Or.inl rfl)) Zc))))
(ZH (ZN (ZY (ZA (ZY (ZA (ZW ZBp (ZB 4) ZG) (ZA (ZB 5) ZE))) (ZA (Zi ZEH rfl T.z_tuple boot_tuple (ZA (ZAG (i:=4) T.k_Road rfl (ZB 10)) ZE)) ZE)))))))))))))
theorem ZCt:FnScope ["rules","town","others","wait","told","carry","clauses","many","house"] ["rules","town"] (ZM (top 46)):=⟨rfl,rfl,rfl,by decide +kernel,rfl,by decide +kernel,by decide +kernel⟩
theorem ZL3 (T:Txt K mg A):FnOk P w K mg base CX0 1 A.f_begun A.fd_begun ["rules","town"] (spD K 2 ZDa):=by
 exact ZX (d:=ZIB) (r:=ZDa) (n:=9) (by unfold ZDa; rfl) rfl rfl T.D_begun.fn ZCt λ cdv A outer s H E hr=>(
(ZF (Zn (ZB 0) (Zk rfl (ZJ (ZL (i:=2) ZCt.nd rfl (Or.inl rfl)) (ZJ (ZL (i:=3) ZCt.nd rfl (Or.inl rfl)) (ZJ (ZL (i:=4) ZCt.nd rfl (Or.inl rfl)) (ZJ (ZL (i:=5) ZCt.nd rfl (Or.inl rfl)) (ZJ (ZL (i:=6) ZCt.nd rfl (Or.inl rfl)) Zc)))))))
(ZF (ZQ (i:=7) ZCt.nd rfl (Or.inl rfl) (ZS ZCf rfl T.z_len boot_len (ZA (ZB 1) ZE)))
(ZF (ZQ (i:=8) ZCt.nd rfl (Or.inl rfl) (ZY (ZA ZG (ZA (ZW ZDn (ZY (ZA (ZY (ZA ZG (ZA (ZAB rfl T.g_ALIVE) ZE))) ZE)) (ZB 7)) (ZA (ZW ZDn (ZY (ZA (ZB 4) ZE)) (ZB 7)) (ZA (ZW ZDn (ZY (ZA ZG ZE)) (ZB 7)) ZE))))))
(ZH (ZN (ZY (ZA ZG (ZA (ZW ZDn (ZY (ZA (ZB 8) ZE)) (ZB 7)) ZE)))))))))
theorem ZG4:FnScope ["thing","many","high"] ["thing","many","high"] (ZM (top 50)):=⟨rfl,rfl,rfl,by decide +kernel,rfl,by decide +kernel,by decide +kernel⟩
theorem ZDj (T:Txt K mg A):FnOk P w K mg base CX0 3 A.f_are_between A.fd_are_between ["thing","many","high"] (spD K 3 ZAU):=by
 have Gis_tuple_of:=ZAy (P:=P) (w:=w) (base:=base) T
 have Gis_between:=ZCZ (P:=P) (w:=w) (base:=base) T
 exact ZX (d:=ZC3) (r:=ZAU) (n:=3) (by unfold ZAU; rfl) rfl rfl T.D_are_between.fn ZG4 λ cdv A outer s H E hr=>(
(ZH (ZN (ZA8 (ZI T.D_is_tuple_of Gis_tuple_of (hr.mono (by decide)) (ZA (ZB 0) (ZA (ZB 1) ZE)) (.cons (.cons .nil))) (ZA4 (ZS (ZML rfl) rfl T.z_all boot_all (ZA (Z7 (sc:=ZM (top 50)) (NX:=["thing","many","high"]) (N:=["each","high"]) (own:=1) (cap:=[2]) rfl (ZAc (ZB 0)) rfl rfl (λ cl C s0 H0 fp=>⟨(ZL (i:=0) (by show (["each","high"]:List Str).Nodup; decide +kernel) rfl (Or.inl rfl)),ZAd,(ZI T.D_is_between Gis_between (hr.mono (by decide)) (ZA (ZB 0) (ZA ZG (ZA (ZB 1) ZE))) (.cons (.cons (.cons .nil))))⟩) (by decide +kernel) rfl) ZE)))))))
theorem ZIS:FnScope ["rules","many","at","up","thing"] ["rules","many","at","up","thing"] (ZM (top 51)):=⟨rfl,rfl,rfl,by decide +kernel,rfl,by decide +kernel,by decide +kernel⟩
theorem ZGZ (T:Txt K mg A):FnOk P w K mg base CX0 4 A.f_are_timers A.fd_are_timers ["rules","many","at","up","thing"] (spD K 5 ZAr):=by
 have Gare_between:=ZDj (P:=P) (w:=w) (base:=base) T
 exact ZX (d:=ZDf) (r:=ZAr) (n:=5) (by unfold ZAr; rfl) rfl rfl T.D_are_timers.fn ZIS λ cdv A outer s H E hr=>(
(ZF (Ze (ZAJ (Zp (ZI T.D_are_between Gare_between (hr.mono (by decide)) (ZA (ZB 4) (ZA (ZB 1) (ZA (ZP oIx (ZB 0) ZG (λ _ _=>rfl)) ZE))) (.cons (.cons (.cons .nil))))))
(ZH (ZN Z6))
ZV)
(ZH (ZN (ZA8 (ZAF (oEq hr.units) (ZP oIx (ZB 4) (ZB 2) (λ _ _=>rfl)) ZG (Za _)) (ZA4 (ZN9 (ZAF (oEq hr.units) (ZB 3) ZG (Za _)) (ZA4 (ZIn (ZS (cAny2 rfl) rfl T.z_any boot_any (ZA (ZB 4) ZE)))))))))))
theorem ZFz:FnScope ["thing","many"] ["thing","many"] (ZM (top 49)):=⟨rfl,rfl,rfl,by decide +kernel,rfl,by decide +kernel,by decide +kernel⟩
theorem ZEw (T:Txt K mg A):FnOk P w K mg base CX0 4 A.f_is_state_book A.fd_is_state_book ["thing","many"] (spD K 2 ZAO):=by
 have Gis_tuple_of:=ZAy (P:=P) (w:=w) (base:=base) T
 have Gis_word:=ZJP (P:=P) (w:=w) (base:=base) T
 exact ZX (d:=ZCQ) (r:=ZAO) (n:=2) (by unfold ZAO; rfl) rfl rfl T.D_is_state_book.fn ZFz λ cdv A outer s H E hr=>(
(ZF (Ze (ZAJ (Zp (ZI T.D_is_tuple_of Gis_tuple_of (hr.mono (by decide)) (ZA (ZB 0) (ZA (ZB 1) ZE)) (.cons (.cons .nil)))))
(ZH (ZN Z6))
ZV)
(ZH (ZN (ZS (ZML rfl) rfl T.z_all boot_all (ZA (Z7 (sc:=ZM (top 49)) (NX:=["thing","many"]) (N:=["word"]) (own:=1) (cap:=[]) rfl (ZAc (ZB 0)) rfl rfl (λ cl C s0 H0 fp=>⟨(ZL (i:=0) (by show (["word"]:List Str).Nodup; decide +kernel) rfl (Or.inl rfl)),ZAd,(ZA8 (ZI T.D_is_word Gis_word (hr.mono (by decide)) (ZA (ZB 0) ZE) (.cons .nil)) (ZA4 (ZAF oLe (ZP oIx (ZB 0) ZG (λ _ _=>rfl)) (ZAB rfl T.g_MOST_NUMBER) (Za _))))⟩) (by decide +kernel) rfl) ZE))))))
theorem ZCY:FnScope ["rules","many","at","thing","up","book","told","timers"] ["rules","many","at","thing"] (ZM (top 48)):=⟨rfl,rfl,rfl,by decide +kernel,rfl,by decide +kernel,by decide +kernel⟩
theorem ZIo (T:Txt K mg A):FnOk P w K mg base CX0 5 A.f_is_house A.fd_is_house ["rules","many","at","thing"] (spD K 4 ZBi):=by
 have Gare_timers:=ZGZ (P:=P) (w:=w) (base:=base) T
 have Gis_tuple_of:=ZAy (P:=P) (w:=w) (base:=base) T
 have Gis_between:=ZCZ (P:=P) (w:=w) (base:=base) T
 have Gis_state_book:=ZEw (P:=P) (w:=w) (base:=base) T
 have Gare_between:=ZDj (P:=P) (w:=w) (base:=base) T
 exact ZX (d:=ZEg) (r:=ZBi) (n:=8) (by unfold ZBi; rfl) rfl rfl T.D_is_house.fn ZCY λ cdv A outer s H E hr=>(
(ZF (Ze (ZAJ (Zp (ZI T.D_is_tuple_of Gis_tuple_of (hr.mono (by decide)) (ZA (ZB 3) (ZA ZG ZE)) (.cons (.cons .nil)))))
(ZH (ZN Z6))
ZV)
(ZF (Zn (ZB 3) (Zk rfl (ZJ (ZL (i:=4) ZCY.nd rfl (Or.inl rfl)) (ZJ (ZL (i:=5) ZCY.nd rfl (Or.inl rfl)) (ZJ (ZL (i:=6) ZCY.nd rfl (Or.inl rfl)) (ZJ (ZL (i:=7) ZCY.nd rfl (Or.inl rfl)) Zc))))))
(ZF (Ze (ZAJ (JW.pt (ZAZ (Zp (ZI T.D_is_between Gis_between (hr.mono (by decide)) (ZA (ZB 4) (ZA ZG (ZA ZG ZE))) (.cons (.cons (.cons .nil))))) (ZAZ (Zp (ZI T.D_is_state_book Gis_state_book (hr.mono (by decide)) (ZA (ZB 5) (ZA (ZB 1) ZE)) (.cons (.cons .nil)))) (ZAo (Zp (ZI T.D_are_between Gare_between (hr.mono (by decide)) (ZA (ZB 6) (ZA (ZB 1) (ZA (ZP oIx (ZB 0) ZG (λ _ _=>rfl)) ZE))) (.cons (.cons (.cons .nil))))))))))
(ZH (ZN Z6))
ZV)
(ZH (ZN (ZI T.D_are_timers Gare_timers (hr.mono (by decide)) (ZA (ZB 0) (ZA (ZB 1) (ZA (ZB 2) (ZA (ZB 4) (ZA (ZB 7) ZE))))) (.cons (.cons (.cons (.cons (.cons .nil))))))))))))
theorem ZEY:FnScope ["rules","town","thing","turn","houses"] ["rules","town","thing"] (ZM (top 47)):=⟨rfl,rfl,rfl,by decide +kernel,rfl,by decide +kernel,by decide +kernel⟩
theorem ZFF (T:Txt K mg A):FnOk P w K mg base CX0 6 A.f_is_state A.fd_is_state ["rules","town","thing"] (spD K 3 ZBL):=by
 have Gis_tuple_of:=ZAy (P:=P) (w:=w) (base:=base) T
 have Gis_count:=ZE9 (P:=P) (w:=w) (base:=base) T
 have Gis_house:=ZIo (P:=P) (w:=w) (base:=base) T
 exact ZX (d:=ZEU) (r:=ZBL) (n:=5) (by unfold ZBL; rfl) rfl rfl T.D_is_state.fn ZEY λ cdv A outer s H E hr=>(
(ZF (Ze (ZAJ (Zp (ZI T.D_is_tuple_of Gis_tuple_of (hr.mono (by decide)) (ZA (ZB 2) (ZA ZG ZE)) (.cons (.cons .nil)))))
(ZH (ZN Z6))
ZV)
(ZF (Zn (ZB 2) (Zk rfl (ZJ (ZL (i:=3) ZEY.nd rfl (Or.inl rfl)) (ZJ (ZL (i:=4) ZEY.nd rfl (Or.inr rfl)) Zc))))
(ZF (Ze (ZAJ (JW.pt (ZAZ (Zp (ZI T.D_is_count Gis_count (hr.mono (by decide)) (ZA (ZB 3) ZE) (.cons .nil))) (ZAo (Zp (ZI T.D_is_tuple_of Gis_tuple_of (hr.mono (by decide)) (ZA (ZB 4) (ZA (ZS ZCf rfl T.z_len boot_len (ZA (ZB 1) ZE)) ZE)) (.cons (.cons .nil))))))))
(ZH (ZN Z6))
ZV)
(ZH (ZN (ZS (ZML rfl) rfl T.z_all boot_all (ZA (Z7 (sc:=ZM (top 47)) (NX:=["rules","town","thing","turn","houses"]) (N:=["at","house","rules","houses"]) (own:=2) (cap:=[0,4]) rfl (ZCC rfl T.z_enumerate (ZA (ZB 4) ZE) (hn:=(.cons .nil))) rfl rfl (λ cl C s0 H0 fp=>⟨(Zk rfl (ZJ (ZL (i:=0) (by show (["at","house","rules","houses"]:List Str).Nodup; decide +kernel) rfl (Or.inl rfl)) (ZJ (ZL (i:=1) (by show (["at","house","rules","houses"]:List Str).Nodup; decide +kernel) rfl (Or.inl rfl)) Zc))),ZAd,(ZI T.D_is_house Gis_house (hr.mono (by decide)) (ZA (ZB 2) (ZA (ZS ZCf rfl T.z_len boot_len (ZA (ZB 3) ZE)) (ZA (ZB 0) (ZA (ZB 1) ZE)))) (.cons (.cons (.cons (.cons .nil)))))⟩) (by decide +kernel) rfl) ZE))))))))
theorem ZEZ:FnScope ["_law_script","_law_k","_law_cell"] ["_law_script","_law_k"] (ZM (top 53)):=⟨rfl,rfl,rfl,by decide +kernel,rfl,by decide +kernel,by decide +kernel⟩
theorem ZIy (T:Txt K mg A):FnOk P w K mg base CX0 1 A.f__law_box A.fd__law_box ["_law_script","_law_k"] (spD K 2 ZBf):=by
 exact ZX (d:=ZEl) (r:=ZBf) (n:=3) (by unfold ZBf; rfl) rfl rfl T.D__law_box.fn ZEZ λ cdv A outer s H E hr=>(
(ZF (ZQ (i:=2) ZEZ.nd rfl (Or.inl rfl) ZG)
(ZF (Ze (ZT (oLt hr.units) (ZB 1) (ZS ZCf rfl T.z_len boot_len (ZA (ZB 0) ZE)) (Za _))
(ZH (ZQ (i:=2) ZEZ.nd rfl (Or.inl rfl) (ZP oIx (ZB 0) (ZB 1) (λ _ _=>rfl))))
ZV)
(ZH (ZN (ZBa (ZA (ZW ZDn (ZW ZGX (ZS ZSM rfl T.z_abs boot_abs (ZA (ZB 2) ZE)) (ZE4 (a:=10) (b:=60) ⟨by decide,by decide,by decide⟩ (by decide +kernel))) (Zi ZMI rfl T.z_int boot_int (ZA (ZAF (oGe hr.units) (ZS ZSM rfl T.z_abs boot_abs (ZA (ZB 2) ZE)) (ZE4 (a:=10) (b:=18) ⟨by decide,by decide,by decide⟩ (by decide +kernel)) (Za _)) ZE))) (ZA (ZW ZGX (ZW ZBp (ZW ZBp (ZB 2) (ZW ZDn (ZW ZDn ZG (ZB 1)) (ZB 1))) (ZW ZDn ZG (ZB 1))) ZG) (ZA ZG ZE)))))))))
theorem ZD5:FnScope ["_law_box_here","_law_many","_law_told_here","_law_once"] ["_law_box_here","_law_many"] (ZM (top 54)):=⟨rfl,rfl,rfl,by decide +kernel,rfl,by decide +kernel,by decide +kernel⟩
theorem ZA3 (T:Txt K mg A):FnOk P w K mg base CX0 1 A.f__law_take A.fd__law_take ["_law_box_here","_law_many"] (spD K 2 ZO):=by
 exact ZX (d:=ZDp) (r:=ZO) (n:=4) (by unfold ZO; rfl) rfl rfl T.D__law_take.fn ZD5 λ cdv A outer s H E hr=>(
(ZF (Ze (ZT (oGt hr.units) (ZP oIx (ZB 0) ZG (λ _ _=>rfl)) ZG (Za _))
(ZF (ZQ (i:=2) ZD5.nd rfl (Or.inl rfl) (ZW ZGX (ZP oIx (ZB 0) ZG (λ _ _=>rfl)) (ZB 1)))
(ZF (ZII (ZW ZLF (ZP oIx (ZB 0) ZG (λ _ _=>rfl)) (ZB 1)) (ZB 0) ZG)
(ZH (ZN (ZB 2)))))
ZV)
(ZF (ZII (ZW ZBp (ZP oIx (ZB 0) ZG (λ _ _=>rfl)) ZG) (ZB 0) ZG)
(ZF (ZQ (i:=3) ZD5.nd rfl (Or.inl rfl) (ZW ZGX (ZW ZBp (ZW ZBp (ZW ZDn (ZP oIx (ZB 0) ZG (λ _ _=>rfl)) ZG) (ZW ZDn ZG (ZP oIx (ZB 0) ZG (λ _ _=>rfl)))) ZG) ZG))
(ZF (ZII (ZW ZGX (ZW ZBp (ZW ZDn (ZB 3) (ZB 3)) (ZP oIx (ZB 0) ZG (λ _ _=>rfl))) ZG) (ZB 0) ZG)
(ZH (ZN (ZW ZGX (ZW ZLF (ZP oIx (ZB 0) ZG (λ _ _=>rfl)) ZG) (ZB 1)))))))))
theorem ZAf:FnScope ["_law_box_here","_law_whole_here","_law_told_here","_law_carry","_law_wait","_law_words","_law_mode","_law_gone_one","_law_some"] ["_law_box_here","_law_whole_here"] (ZM (top 55)):=⟨rfl,rfl,rfl,by decide +kernel,rfl,by decide +kernel,by decide +kernel⟩
theorem ZGW (T:Txt K mg A):FnOk P w K mg base CX0 2 A.f__law_rules A.fd__law_rules ["_law_box_here","_law_whole_here"] (spD K 2 ZAs):=by
 have G_law_take:=ZA3 (P:=P) (w:=w) (base:=base) T
 exact ZX (d:=ZDU) (r:=ZAs) (n:=9) (by unfold ZAs; rfl) rfl rfl T.D__law_rules.fn ZAf λ cdv A outer s H E hr=>(
(ZF (ZQ (i:=2) ZAf.nd rfl (Or.inl rfl) (ZP oIx (ZB4 (ZA (ZI T.D__law_take G_law_take (hr.mono (by decide)) (ZA (ZB 0) (ZA ZG ZE)) (.cons (.cons .nil))) (ZA (ZI T.D__law_take G_law_take (hr.mono (by decide)) (ZA (ZB 0) (ZA ZG ZE)) (.cons (.cons .nil))) ZE))) (ZI T.D__law_take G_law_take (hr.mono (by decide)) (ZA (ZB 0) (ZA ZG ZE)) (.cons (.cons .nil))) (λ _ _=>rfl)))
(ZF (ZQ (i:=3) ZAf.nd rfl (Or.inl rfl) (ZP oIx (ZB4 (ZA (ZI T.D__law_take G_law_take (hr.mono (by decide)) (ZA (ZB 0) (ZA ZG ZE)) (.cons (.cons .nil))) (ZA (ZI T.D__law_take G_law_take (hr.mono (by decide)) (ZA (ZB 0) (ZA ZG ZE)) (.cons (.cons .nil))) ZE))) (ZI T.D__law_take G_law_take (hr.mono (by decide)) (ZA (ZB 0) (ZA ZG ZE)) (.cons (.cons .nil))) (λ _ _=>rfl)))
(ZF (ZQ (i:=4) ZAf.nd rfl (Or.inl rfl) (ZW ZBp ZG (ZP oIx (ZB4 (ZA (ZI T.D__law_take G_law_take (hr.mono (by decide)) (ZA (ZB 0) (ZA ZG ZE)) (.cons (.cons .nil))) (ZA (ZI T.D__law_take G_law_take (hr.mono (by decide)) (ZA (ZB 0) (ZA ZG ZE)) (.cons (.cons .nil))) ZE))) (ZW ZLF (ZI T.D__law_take G_law_take (hr.mono (by decide)) (ZA (ZB 0) (ZA ZG ZE)) (.cons (.cons .nil))) ZG) (λ _ _=>rfl))))
(ZF (ZQ (i:=5) ZAf.nd rfl (Or.inl rfl) (ZY (ZA ZA5 (ZA ZA5 (ZA ZA5 (ZA ZA5 (ZA ZA5 (ZA ZA5 (ZA ZA5 ZE)))))))))
(ZF (ZQ (i:=6) ZAf.nd rfl (Or.inr rfl) (ZI T.D__law_take G_law_take (hr.mono (by decide)) (ZA (ZB 0) (ZA ZG ZE)) (.cons (.cons .nil))))
(ZF (Ze (JW.pt (ZBj (Zp (ZB 1)) (ZBP (ZT (oEq hr.units) (ZB 6) ZG (Za _)))))
(ZH (ZN (ZY (ZA (ZI T.D__law_take G_law_take (hr.mono (by decide)) (ZA (ZB 0) (ZA ZG ZE)) (.cons (.cons .nil))) (ZA (ZB 4) (ZA (ZB 2) (ZA (ZB 3) (ZA (ZB 5) ZE))))))))
ZV)
(ZF (ZQ (i:=7) ZAf.nd rfl (Or.inr rfl) (ZP oIx (ZB 5) (ZI T.D__law_take G_law_take (hr.mono (by decide)) (ZA (ZB 0) (ZA ZG ZE)) (.cons (.cons .nil))) (λ _ _=>rfl)))
(ZF (ZQ (i:=8) ZAf.nd rfl (Or.inl rfl) (Zi ZEH rfl T.z_tuple boot_tuple (ZA (Z7 (sc:=ZM (top 55)) (NX:=["_law_box_here","_law_whole_here","_law_told_here","_law_carry","_law_wait","_law_words","_law_mode","_law_gone_one","_law_some"]) (N:=["_law_word","_law_gone_one","_law_mode","_law_box_here"]) (own:=1) (cap:=[7,6,0]) rfl (ZAc (ZB 5)) rfl rfl (λ cl C s0 H0 fp=>⟨(ZL (i:=0) (by show (["_law_word","_law_gone_one","_law_mode","_law_box_here"]:List Str).Nodup; decide +kernel) rfl (Or.inl rfl)),(ZDB (JW.pt (ZAZ (ZT (oNe hr.units) (ZB 0) (ZB 1) (Za _)) (ZAo (JW.pt (ZBj (ZT (oEq hr.units) (ZB 2) ZG (Za _)) (ZBP (ZT (oEq hr.units) (ZI T.D__law_take G_law_take (hr.mono (by decide)) (ZA (ZB 3) (ZA ZG ZE)) (.cons (.cons .nil))) ZG (Za _))))))))),(ZB 0)⟩) (by decide +kernel) rfl) ZE)))
(ZH (ZN (ZY (ZA (ZI T.D__law_take G_law_take (hr.mono (by decide)) (ZA (ZB 0) (ZA ZG ZE)) (.cons (.cons .nil))) (ZA (ZB 4) (ZA (ZB 2) (ZA (ZB 3) (ZA (ZB 8) ZE)))))))))))))))))
theorem ZCD:FnScope ["_law_box_here","_law_most","_law_n","_law_found","_law_house","_law_pace"] ["_law_box_here","_law_most"] (ZM (top 56)):=⟨rfl,rfl,rfl,by decide +kernel,rfl,by decide +kernel,by decide +kernel⟩
theorem ZHK (T:Txt K mg A):FnOk P w K mg base CX0 2 A.f__law_town A.fd__law_town ["_law_box_here","_law_most"] (spD K 2 ZBG):=by
 have G_law_take:=ZA3 (P:=P) (w:=w) (base:=base) T
 exact ZX (d:=ZDu) (r:=ZBG) (n:=6) (by unfold ZBG; rfl) rfl rfl T.D__law_town.fn ZCD λ cdv A outer s H E hr=>(
(ZF (ZQ (i:=2) ZCD.nd rfl (Or.inl rfl) (ZS (cMin rfl) rfl T.z_min boot_min (ZA (ZB 1) (ZA (ZP oIx (ZB4 (ZA ZG (ZA ZG (ZA ZG (ZA ZG (ZA ZG (ZA (ZW ZBp ZG (ZI T.D__law_take G_law_take (hr.mono (by decide)) (ZA (ZB 0) (ZA ZG ZE)) (.cons (.cons .nil)))) ZE))))))) (ZI T.D__law_take G_law_take (hr.mono (by decide)) (ZA (ZB 0) (ZA ZG ZE)) (.cons (.cons .nil))) (λ _ _=>rfl)) ZE))))
(ZF (ZQ (i:=3) ZCD.nd rfl (Or.inl rfl) (ZBa ZE))
(ZF (ZAY PassesOwn.never rfl (ZAN rfl T.z_range (ZA (ZB 2) ZE) (hn:=(.cons .nil))) (ZL (i:=4) ZCD.nd rfl (Or.inl rfl))
(ZF (ZQ (i:=5) ZCD.nd rfl (Or.inl rfl) (ZP oIx (ZB4 (ZA ZG (ZA (ZW ZBp ZG (ZI T.D__law_take G_law_take (hr.mono (by decide)) (ZA (ZB 0) (ZA ZG ZE)) (.cons (.cons .nil)))) ZE))) (ZI T.D__law_take G_law_take (hr.mono (by decide)) (ZA (ZB 0) (ZA ZG ZE)) (.cons (.cons .nil))) (λ _ _=>rfl)))
(ZH (ZA0 (ZCs (ZB 3) (ZY (ZA (ZB 5) (ZA (ZI T.D__law_take G_law_take (hr.mono (by decide)) (ZA (ZB 0) (ZA (ZB 5) ZE)) (.cons (.cons .nil))) ZE))))))))
(ZH (ZN (Zi ZEH rfl T.z_tuple boot_tuple (ZA (ZB 3) ZE))))))))
theorem Z1:FnScope ["_law_box_here","_law_rules_here","_law_town_here","_law_n","_law_far","_law_calm","_law_houses","_law_house","_law_up","_law_book","_law_told_here","_law_timers"] ["_law_box_here","_law_rules_here","_law_town_here"] (ZM (top 57)):=⟨rfl,rfl,rfl,by decide +kernel,rfl,by decide +kernel,by decide +kernel⟩
theorem ZGM (T:Txt K mg A):FnOk P w K mg base CX0 2 A.f__law_state A.fd__law_state ["_law_box_here","_law_rules_here","_law_town_here"] (spD K 3 ZAw):=by
 have G_law_take:=ZA3 (P:=P) (w:=w) (base:=base) T
 exact ZX (d:=ZDT) (r:=ZAw) (n:=12) (by unfold ZAw; rfl) rfl rfl T.D__law_state.fn Z1 λ cdv A outer s H E hr=>(
(ZF (ZQ (i:=3) Z1.nd rfl (Or.inl rfl) (ZS ZCf rfl T.z_len boot_len (ZA (ZB 2) ZE)))
(ZF (ZQ (i:=4) Z1.nd rfl (Or.inr rfl) (ZP oIx (ZB4 (ZA ZG (ZA ZG (ZA ZG (ZA (ZI T.D__law_take G_law_take (hr.mono (by decide)) (ZA (ZB 0) (ZA ZG ZE)) (.cons (.cons .nil))) ZE))))) (ZI T.D__law_take G_law_take (hr.mono (by decide)) (ZA (ZB 0) (ZA ZG ZE)) (.cons (.cons .nil))) (λ _ _=>rfl)))
(ZF (ZQ (i:=5) Z1.nd rfl (Or.inr rfl) (ZI T.D__law_take G_law_take (hr.mono (by decide)) (ZA (ZB 0) (ZA ZG ZE)) (.cons (.cons .nil))))
(ZF (ZQ (i:=6) Z1.nd rfl (Or.inl rfl) (ZBa ZE))
(ZF (ZAY PassesOwn.never rfl (ZAN rfl T.z_range (ZA (ZB 3) ZE) (hn:=(.cons .nil))) (ZL (i:=7) Z1.nd rfl (Or.inr rfl))
(ZF (ZQ (i:=8) Z1.nd rfl (Or.inr rfl) (Zi ZMI rfl T.z_int boot_int (ZA (ZAF (oGt hr.units) (ZI T.D__law_take G_law_take (hr.mono (by decide)) (ZA (ZB 0) (ZA ZG ZE)) (.cons (.cons .nil))) ZG (Za _)) ZE)))
(ZF (ZQ (i:=9) Z1.nd rfl (Or.inl rfl) (Zi ZEH rfl T.z_tuple boot_tuple (ZA (Z7 (sc:=ZM (top 57)) (NX:=["_law_box_here","_law_rules_here","_law_town_here","_law_n","_law_far","_law_calm","_law_houses","_law_house","_law_up","_law_book","_law_told_here","_law_timers"]) (N:=["_law_k","_law_far","_law_box_here","_law_calm"]) (own:=1) (cap:=[4,0,5]) rfl (ZAN rfl T.z_range (ZA (ZB 3) ZE) (hn:=(.cons .nil))) rfl rfl (λ cl C s0 H0 fp=>⟨(ZL (i:=0) (by show (["_law_k","_law_far","_law_box_here","_law_calm"]:List Str).Nodup; decide +kernel) rfl (Or.inl rfl)),ZAd,(ZY (ZA (ZW ZBp (ZB 1) (ZI T.D__law_take G_law_take (hr.mono (by decide)) (ZA (ZB 2) (ZA ZG ZE)) (.cons (.cons .nil)))) (ZA (ZP oIx (ZB4 (ZA (ZI T.D__law_take G_law_take (hr.mono (by decide)) (ZA (ZB 2) (ZA ZG ZE)) (.cons (.cons .nil))) (ZA ZG ZE))) (Zi ZMI rfl T.z_int boot_int (ZA (ZAF (oEq hr.units) (ZB 3) ZG (Za _)) ZE)) (λ _ _=>rfl)) ZE)))⟩) (by decide +kernel) rfl) ZE)))
(ZF (ZQ (i:=10) Z1.nd rfl (Or.inl rfl) (Zi ZEH rfl T.z_tuple boot_tuple (ZA (Z7 (sc:=ZM (top 57)) (NX:=["_law_box_here","_law_rules_here","_law_town_here","_law_n","_law_far","_law_calm","_law_houses","_law_house","_law_up","_law_book","_law_told_here","_law_timers"]) (N:=["_law_k","_law_box_here","_law_rules_here"]) (own:=1) (cap:=[0,1]) rfl (ZAN rfl T.z_range (ZA (ZB 3) ZE) (hn:=(.cons .nil))) rfl rfl (λ cl C s0 H0 fp=>⟨(ZL (i:=0) (by show (["_law_k","_law_box_here","_law_rules_here"]:List Str).Nodup; decide +kernel) rfl (Or.inl rfl)),ZAd,(ZI T.D__law_take G_law_take (hr.mono (by decide)) (ZA (ZB 1) (ZA (ZW ZBp (ZP oIx (ZB 2) ZG (λ _ _=>rfl)) ZG) ZE)) (.cons (.cons .nil)))⟩) (by decide +kernel) rfl) ZE)))
(ZF (ZQ (i:=11) Z1.nd rfl (Or.inr rfl) (Zi ZEH rfl T.z_tuple boot_tuple (ZA (Z7 (sc:=ZM (top 57)) (NX:=["_law_box_here","_law_rules_here","_law_town_here","_law_n","_law_far","_law_calm","_law_houses","_law_house","_law_up","_law_book","_law_told_here","_law_timers"]) (N:=["_law_k","_law_box_here","_law_rules_here"]) (own:=1) (cap:=[0,1]) rfl (ZAN rfl T.z_range (ZA (ZB 3) ZE) (hn:=(.cons .nil))) rfl rfl (λ cl C s0 H0 fp=>⟨(ZL (i:=0) (by show (["_law_k","_law_box_here","_law_rules_here"]:List Str).Nodup; decide +kernel) rfl (Or.inl rfl)),ZAd,(ZW ZDn (ZI T.D__law_take G_law_take (hr.mono (by decide)) (ZA (ZB 1) (ZA (ZW ZBp (ZP oIx (ZB 2) ZG (λ _ _=>rfl)) ZG) ZE)) (.cons (.cons .nil))) (Zi ZMI rfl T.z_int boot_int (ZA (ZAF (oEq hr.units) (ZI T.D__law_take G_law_take (hr.mono (by decide)) (ZA (ZB 1) (ZA ZG ZE)) (.cons (.cons .nil))) ZG (Za _)) ZE)))⟩) (by decide +kernel) rfl) ZE)))
(ZF (ZQ (i:=11) Z1.nd rfl (Or.inr rfl) (Zi ZEH rfl T.z_tuple boot_tuple (ZA (Z7 (sc:=ZM (top 57)) (NX:=["_law_box_here","_law_rules_here","_law_town_here","_law_n","_law_far","_law_calm","_law_houses","_law_house","_law_up","_law_book","_law_told_here","_law_timers"]) (N:=["_law_k","_law_up","_law_timers","_law_house"]) (own:=1) (cap:=[8,11,7]) rfl (ZAN rfl T.z_range (ZA (ZB 3) ZE) (hn:=(.cons .nil))) rfl rfl (λ cl C s0 H0 fp=>⟨(ZL (i:=0) (by show (["_law_k","_law_up","_law_timers","_law_house"]:List Str).Nodup; decide +kernel) rfl (Or.inl rfl)),ZAd,(ZW ZDn (ZW ZDn (ZP oIx (ZB 2) (ZB 0) (λ _ _=>rfl)) (ZB 1)) (Zi ZMI rfl T.z_int boot_int (ZA (ZAF (oNe hr.units) (ZB 0) (ZB 3) (Za _)) ZE)))⟩) (by decide +kernel) rfl) ZE)))
(ZH (ZA0 (ZCs (ZB 6) (ZY (ZA (ZB 8) (ZA (ZB 9) (ZA (ZB 10) (ZA (ZB 11) ZE))))))))))))))
(ZH (ZN (ZY (ZA (ZI T.D__law_take G_law_take (hr.mono (by decide)) (ZA (ZB 0) (ZA (ZP oIx (ZB4 (ZA ZG (ZA ZG (ZA (ZE4 (a:=10) (b:=5) ⟨by decide,by decide,by decide⟩ (by decide +kernel)) ZE)))) (ZI T.D__law_take G_law_take (hr.mono (by decide)) (ZA (ZB 0) (ZA ZG ZE)) (.cons (.cons .nil))) (λ _ _=>rfl)) ZE)) (.cons (.cons .nil))) (ZA (Zi ZEH rfl T.z_tuple boot_tuple (ZA (ZB 6) ZE)) ZE)))))))))))
theorem ZFh:FnScope ["_law_box_here","_law_most","_law_mode"] ["_law_box_here","_law_most"] (ZM (top 58)):=⟨rfl,rfl,rfl,by decide +kernel,rfl,by decide +kernel,by decide +kernel⟩
theorem ZHR (T:Txt K mg A):FnOk P w K mg base CX0 2 A.f__law_lost A.fd__law_lost ["_law_box_here","_law_most"] (spD K 2 ZBI):=by
 have G_law_take:=ZA3 (P:=P) (w:=w) (base:=base) T
 exact ZX (d:=ZDo) (r:=ZBI) (n:=3) (by unfold ZBI; rfl) rfl rfl T.D__law_lost.fn ZFh λ cdv A outer s H E hr=>(
(ZF (ZQ (i:=2) ZFh.nd rfl (Or.inr rfl) (ZI T.D__law_take G_law_take (hr.mono (by decide)) (ZA (ZB 0) (ZA ZG ZE)) (.cons (.cons .nil))))
(ZF (Ze (ZT (oEq hr.units) (ZB 2) ZG (Za _))
(ZH (ZN (ZY ZE)))
ZV)
(ZF (Ze (ZT (oEq hr.units) (ZB 2) ZG (Za _))
(ZH (ZN (ZKG rfl rfl T.z_tuple rfl T.z_range (ZB 1))))
ZV)
(ZH (ZN (Zi ZEH rfl T.z_tuple boot_tuple (ZA (Z7 (sc:=ZM (top 58)) (NX:=["_law_box_here","_law_most","_law_mode"]) (N:=["_law_k","_law_box_here","_law_mode"]) (own:=1) (cap:=[0,2]) rfl (ZAN rfl T.z_range (ZA (ZB 1) ZE) (hn:=(.cons .nil))) rfl rfl (λ cl C s0 H0 fp=>⟨(ZL (i:=0) (by show (["_law_k","_law_box_here","_law_mode"]:List Str).Nodup; decide +kernel) rfl (Or.inl rfl)),(ZDB (ZT (oEq hr.units) (ZI T.D__law_take G_law_take (hr.mono (by decide)) (ZA (ZB 1) (ZA (ZP oIx (ZB4 (ZA ZG (ZA ZG (ZA ZG ZE)))) (ZW ZLt (ZB 2) ZG) (λ _ _=>rfl)) ZE)) (.cons (.cons .nil))) ZG (Za _))),(ZB 0)⟩) (by decide +kernel) rfl) ZE))))))))
theorem ZBY:FnScope ["_law_box_here","_law_state_here","_law_moves","_law_falls","_law_leaves","_law_comes","_law_house","_law_told_here","_law_way"] ["_law_box_here","_law_state_here","_law_moves"] (ZM (top 59)):=⟨rfl,rfl,rfl,by decide +kernel,rfl,by decide +kernel,by decide +kernel⟩
theorem ZF4 (T:Txt K mg A):FnOk P w K mg base CX0 3 A.f__law_doings A.fd__law_doings ["_law_box_here","_law_state_here","_law_moves"] (spD K 3 ZAV):=by
 have G_law_take:=ZA3 (P:=P) (w:=w) (base:=base) T
 have G_law_lost:=ZHR (P:=P) (w:=w) (base:=base) T
 exact ZX (d:=ZC1) (r:=ZAV) (n:=9) (by unfold ZAV; rfl) rfl rfl T.D__law_doings.fn ZBY λ cdv A outer s H E hr=>(
(ZF (ZJt (i:=3) (j:=4) (l:=5) rfl ZBY.nd rfl rfl rfl rfl rfl rfl (ZA (ZBa ZE) (ZA (ZBa ZE) (ZA (ZBa ZE) ZE))))
(ZF (ZAY PassesOwn.never rfl (ZCC rfl T.z_enumerate (ZA (ZP oIx (ZB 1) ZG (λ _ _=>rfl)) ZE) (hn:=(.cons .nil))) (Zk rfl (ZJ (ZL (i:=6) ZBY.nd rfl (Or.inl rfl)) (ZJ (ZL (i:=7) ZBY.nd rfl (Or.inl rfl)) Zc)))
(ZF (ZQ (i:=8) ZBY.nd rfl (Or.inl rfl) (ZI T.D__law_take G_law_take (hr.mono (by decide)) (ZA (ZB 0) (ZA ZG ZE)) (.cons (.cons .nil))))
(ZF (Ze (JW.pt (ZAZ (Zp (ZB 2)) (ZAZ (ZT (oEq hr.units) (ZP oIx (ZB 7) ZG (λ _ _=>rfl)) ZG (Za _)) (ZAo (ZT (oLt hr.units) (ZB 8) ZG (Za _))))))
(ZH (ZA0 (ZCs (ZNb (ZA (ZB 3) (ZA (ZB 4) ZE)) (ZB 8) (λ _ _=>rfl)) (ZB 6))))
ZV)
(ZH (Ze (JW.pt (ZAZ (Zp (ZB 2)) (ZAZ (ZT (oEq hr.units) (ZP oIx (ZB 7) ZG (λ _ _=>rfl)) ZG (Za _)) (ZAo (ZT (oLt hr.units) (ZB 8) ZG (Za _))))))
(ZH (ZA0 (ZCs (ZB 5) (ZB 6))))
ZV)))))
(ZH (ZN (ZY (ZA (ZI T.D__law_lost G_law_lost (hr.mono (by decide)) (ZA (ZB 0) (ZA ZG ZE)) (.cons (.cons .nil))) (ZA (Zi ZEH rfl T.z_tuple boot_tuple (ZA (ZB 3) ZE)) (ZA (Zi ZEH rfl T.z_tuple boot_tuple (ZA (ZB 4) ZE)) (ZA (Zi ZEH rfl T.z_tuple boot_tuple (ZA (ZB 5) ZE)) ZE))))))))))
theorem ZIT:FnScope ["_law_thing","_law_least","_law_most"] ["_law_thing","_law_least","_law_most"] (ZM (top 60)):=⟨rfl,rfl,rfl,by decide +kernel,rfl,by decide +kernel,by decide +kernel⟩
theorem ZD4 (T:Txt K mg A):FnOk P w K mg base CX0 1 A.f__law_whole A.fd__law_whole ["_law_thing","_law_least","_law_most"] (spD K 3 Zy):=by
 exact ZX (d:=ZDY) (r:=Zy) (n:=3) (by unfold Zy; rfl) rfl rfl T.D__law_whole.fn ZIT λ cdv A outer s H E hr=>(
(ZH (ZN (ZA8 (ZS ZGy rfl T.z_isinstance boot_isinstance (ZA (ZB 0) (ZA (ZCX (n:="int") rfl T.z_int boot_int) ZE))) (ZA8 (ZIn (ZS ZGy rfl T.z_isinstance boot_isinstance (ZA (ZB 0) (ZA (ZCX (n:="bool") rfl T.z_bool boot_bool) ZE)))) (ZA4 (ZHp oLe oLe (ZB 1) (ZB 0) (ZB 2))))))))
theorem ZBb:FnScope ["_law_rules_here","_law_n","_law_house","_law_thing","_law_some","_law_word","_law_most"] ["_law_rules_here","_law_n","_law_house","_law_thing"] (ZM (top 61)):=⟨rfl,rfl,rfl,by decide +kernel,rfl,by decide +kernel,by decide +kernel⟩
theorem ZE1 (T:Txt K mg A):FnOk P w K mg base CX0 2 A.f__law_is_house A.fd__law_is_house ["_law_rules_here","_law_n","_law_house","_law_thing"] (spD K 4 ZAL):=by
 have G_law_whole:=ZD4 (P:=P) (w:=w) (base:=base) T
 exact ZX (d:=ZCO) (r:=ZAL) (n:=7) (by unfold ZAL; rfl) rfl rfl T.D__law_is_house.fn ZBb λ cdv A outer s H E hr=>(
(ZF (Ze (JW.pt (ZBj (ZAJ (Zp (ZS ZGy rfl T.z_isinstance boot_isinstance (ZA (ZB 3) (ZA (ZCX (n:="tuple") rfl T.z_tuple boot_tuple) ZE))))) (ZBj (ZT (oNe hr.units) (ZS ZCf rfl T.z_len boot_len (ZA (ZB 3) ZE)) ZG (Za _)) (ZBP (ZAJ (Zp (ZI T.D__law_whole G_law_whole (hr.mono (by decide)) (ZA (ZP oIx (ZB 3) ZG (λ _ _=>rfl)) (ZA ZG (ZA ZG ZE))) (.cons (.cons (.cons .nil))))))))))
(ZH (ZN Z6))
ZV)
(ZF (ZAY PassesOwn.never rfl (ZAc (ZFH (ZB 3) (ZDD ZG) ZC6)) (ZL (i:=4) ZBb.nd rfl (Or.inl rfl))
(ZH (Ze (JW.pt (ZBj (ZAJ (Zp (ZS ZGy rfl T.z_isinstance boot_isinstance (ZA (ZB 4) (ZA (ZCX (n:="tuple") rfl T.z_tuple boot_tuple) ZE))))) (ZBP (ZT (oNe hr.units) (ZS ZCf rfl T.z_len boot_len (ZA (ZB 4) ZE)) (ZB 1) (Za _)))))
(ZH (ZN Z6))
ZV)))
(ZF (ZAY PassesOwn.never rfl (ZAc (ZP oIx (ZB 3) ZG (λ _ _=>rfl))) (ZL (i:=5) ZBb.nd rfl (Or.inl rfl))
(ZF (Ze (JW.pt (ZBj (ZAJ (Zp (ZS ZGy rfl T.z_isinstance boot_isinstance (ZA (ZB 5) (ZA (ZCX (n:="tuple") rfl T.z_tuple boot_tuple) ZE))))) (ZBP (ZT (oNe hr.units) (ZS ZCf rfl T.z_len boot_len (ZA (ZB 5) ZE)) ZG (Za _)))))
(ZH (ZN Z6))
ZV)
(ZH (Ze (JW.pt (ZBj (ZAJ (Zp (ZI T.D__law_whole G_law_whole (hr.mono (by decide)) (ZA (ZP oIx (ZB 5) ZG (λ _ _=>rfl)) (ZA ZG (ZA (ZE4 (a:=10) (b:=6) ⟨by decide,by decide,by decide⟩ (by decide +kernel)) ZE))) (.cons (.cons (.cons .nil)))))) (ZBP (ZAJ (Zp (ZI T.D__law_whole G_law_whole (hr.mono (by decide)) (ZA (ZP oIx (ZB 5) ZG (λ _ _=>rfl)) (ZA ZG (ZA ZG ZE))) (.cons (.cons (.cons .nil)))))))))
(ZH (ZN Z6))
ZV))))
(ZF (Ze (ZAJ (Zp (ZS (ZML rfl) rfl T.z_all boot_all (ZA (Z7 (sc:=ZM (top 61)) (NX:=["_law_rules_here","_law_n","_law_house","_law_thing","_law_some","_law_word","_law_most"]) (N:=["_law_one","_law_rules_here"]) (own:=1) (cap:=[0]) rfl (ZAc (ZP oIx (ZB 3) ZG (λ _ _=>rfl))) rfl rfl (λ cl C s0 H0 fp=>⟨(ZL (i:=0) (by show (["_law_one","_law_rules_here"]:List Str).Nodup; decide +kernel) rfl (Or.inl rfl)),ZAd,(ZI T.D__law_whole G_law_whole (hr.mono (by decide)) (ZA (ZB 0) (ZA ZG (ZA (ZP oIx (ZB 1) ZG (λ _ _=>rfl)) ZE))) (.cons (.cons (.cons .nil))))⟩) (by decide +kernel) rfl) ZE))))
(ZH (ZN Z6))
ZV)
(ZF (ZQ (i:=6) ZBb.nd rfl (Or.inr rfl) (ZW ZDn (ZP oIx (ZB 0) ZG (λ _ _=>rfl)) (ZP oIx (ZB 3) ZG (λ _ _=>rfl))))
(ZH (ZN (ZS (ZML rfl) rfl T.z_all boot_all (ZA (Z7 (sc:=ZM (top 61)) (NX:=["_law_rules_here","_law_n","_law_house","_law_thing","_law_some","_law_word","_law_most"]) (N:=["_law_k","_law_one","_law_most","_law_house"]) (own:=2) (cap:=[6,2]) rfl (ZCC rfl T.z_enumerate (ZA (ZP oIx (ZB 3) ZG (λ _ _=>rfl)) ZE) (hn:=(.cons .nil))) rfl rfl (λ cl C s0 H0 fp=>⟨(Zk rfl (ZJ (ZL (i:=0) (by show (["_law_k","_law_one","_law_most","_law_house"]:List Str).Nodup; decide +kernel) rfl (Or.inl rfl)) (ZJ (ZL (i:=1) (by show (["_law_k","_law_one","_law_most","_law_house"]:List Str).Nodup; decide +kernel) rfl (Or.inl rfl)) Zc))),ZAd,(ZI T.D__law_whole G_law_whole (hr.mono (by decide)) (ZA (ZB 1) (ZA ZG (ZA (ZW ZDn (ZB 2) (Zi ZMI rfl T.z_int boot_int (ZA (ZAF (oNe hr.units) (ZB 0) (ZB 3) (Za _)) ZE))) ZE))) (.cons (.cons (.cons .nil))))⟩) (by decide +kernel) rfl) ZE))))))))))
theorem ZF1:FnScope ["_law_rules_here","_law_town_here","_law_thing"] ["_law_rules_here","_law_town_here","_law_thing"] (ZM (top 62)):=⟨rfl,rfl,rfl,by decide +kernel,rfl,by decide +kernel,by decide +kernel⟩
theorem ZEv (T:Txt K mg A):FnOk P w K mg base CX0 3 A.f__law_is_state A.fd__law_is_state ["_law_rules_here","_law_town_here","_law_thing"] (spD K 3 ZAP):=by
 have G_law_whole:=ZD4 (P:=P) (w:=w) (base:=base) T
 have G_law_is_house:=ZE1 (P:=P) (w:=w) (base:=base) T
 exact ZX (d:=ZCP) (r:=ZAP) (n:=3) (by unfold ZAP; rfl) rfl rfl T.D__law_is_state.fn ZF1 λ cdv A outer s H E hr=>(
(ZF (Ze (JW.pt (ZBj (ZAJ (Zp (ZS ZGy rfl T.z_isinstance boot_isinstance (ZA (ZB 2) (ZA (ZCX (n:="tuple") rfl T.z_tuple boot_tuple) ZE))))) (ZBj (ZT (oNe hr.units) (ZS ZCf rfl T.z_len boot_len (ZA (ZB 2) ZE)) ZG (Za _)) (ZBP (ZAJ (Zp (ZI T.D__law_whole G_law_whole (hr.mono (by decide)) (ZA (ZP oIx (ZB 2) ZG (λ _ _=>rfl)) (ZA ZG (ZA (ZE4 (a:=10) (b:=9) ⟨by decide,by decide,by decide⟩ (by decide +kernel)) ZE))) (.cons (.cons (.cons .nil))))))))))
(ZH (ZN Z6))
ZV)
(ZF (Ze (JW.pt (ZBj (ZAJ (Zp (ZS ZGy rfl T.z_isinstance boot_isinstance (ZA (ZP oIx (ZB 2) ZG (λ _ _=>rfl)) (ZA (ZCX (n:="tuple") rfl T.z_tuple boot_tuple) ZE))))) (ZBP (ZT (oNe hr.units) (ZS ZCf rfl T.z_len boot_len (ZA (ZP oIx (ZB 2) ZG (λ _ _=>rfl)) ZE)) (ZS ZCf rfl T.z_len boot_len (ZA (ZB 1) ZE)) (Za _)))))
(ZH (ZN Z6))
ZV)
(ZH (ZN (ZS (ZML rfl) rfl T.z_all boot_all (ZA (Z7 (sc:=ZM (top 62)) (NX:=["_law_rules_here","_law_town_here","_law_thing"]) (N:=["_law_k","_law_house","_law_rules_here","_law_town_here"]) (own:=2) (cap:=[0,1]) rfl (ZCC rfl T.z_enumerate (ZA (ZP oIx (ZB 2) ZG (λ _ _=>rfl)) ZE) (hn:=(.cons .nil))) rfl rfl (λ cl C s0 H0 fp=>⟨(Zk rfl (ZJ (ZL (i:=0) (by show (["_law_k","_law_house","_law_rules_here","_law_town_here"]:List Str).Nodup; decide +kernel) rfl (Or.inl rfl)) (ZJ (ZL (i:=1) (by show (["_law_k","_law_house","_law_rules_here","_law_town_here"]:List Str).Nodup; decide +kernel) rfl (Or.inl rfl)) Zc))),ZAd,(ZI T.D__law_is_house G_law_is_house (hr.mono (by decide)) (ZA (ZB 2) (ZA (ZS ZCf rfl T.z_len boot_len (ZA (ZB 3) ZE)) (ZA (ZB 0) (ZA (ZB 1) ZE)))) (.cons (.cons (.cons (.cons .nil)))))⟩) (by decide +kernel) rfl) ZE)))))))
theorem ZFl:FnScope ["_law_rules_here","_law_town_here","_law_thing","_law_found"] ["_law_rules_here","_law_town_here","_law_thing"] (ZM (top 63)):=⟨rfl,rfl,rfl,by decide +kernel,rfl,by decide +kernel,by decide +kernel⟩
theorem ZHE (T:Txt K mg A):FnOk P w K mg base CX0 7 A.f__law_told A.fd__law_told ["_law_rules_here","_law_town_here","_law_thing"] (spD K 3 ZBJ):=by
 have Gis_state:=ZFF (P:=P) (w:=w) (base:=base) T
 have G_law_is_state:=ZEv (P:=P) (w:=w) (base:=base) T
 exact ZX (d:=ZDt) (r:=ZBJ) (n:=4) (by unfold ZBJ; rfl) rfl rfl T.D__law_told.fn ZFl λ cdv A outer s H E hr=>(
(ZF (ZQ (i:=3) ZFl.nd rfl (Or.inl rfl) (ZI T.D_is_state Gis_state (hr.mono (by decide)) (ZA (ZB 0) (ZA (ZB 1) (ZA (ZB 2) ZE))) (.cons (.cons (.cons .nil)))))
(ZH (ZN (ZA8 (ZS ZGy rfl T.z_isinstance boot_isinstance (ZA (ZB 3) (ZA (ZCX (n:="bool") rfl T.z_bool boot_bool) ZE))) (ZA4 (ZAF (oEq hr.units) (ZB 3) (ZI T.D__law_is_state G_law_is_state (hr.mono (by decide)) (ZA (ZB 0) (ZA (ZB 1) (ZA (ZB 2) ZE))) (.cons (.cons (.cons .nil)))) (Za _))))))))
theorem ZBT:FnScope ["_law_rules_here","_law_town_here","_law_state_here","_law_doings_here","_law_later","_law_house","_law_told_here","_law_up"] ["_law_rules_here","_law_town_here","_law_state_here","_law_doings_here","_law_later"] (ZM (top 64)):=⟨rfl,rfl,rfl,by decide +kernel,rfl,by decide +kernel,by decide +kernel⟩
theorem ZGe (T:Txt K mg A):FnOk P w K mg base CX0 8 A.f__law_right A.fd__law_right ["_law_rules_here","_law_town_here","_law_state_here","_law_doings_here","_law_later"] (spD K 5 ZAe):=by
 have G_law_told:=ZHE (P:=P) (w:=w) (base:=base) T
 have Gis_state:=ZFF (P:=P) (w:=w) (base:=base) T
 exact ZX (d:=ZDP) (r:=ZAe) (n:=8) (by unfold ZAe; rfl) rfl rfl T.D__law_right.fn ZBT λ cdv A outer s H E hr=>(
(ZF (Ze (JW.pt (ZBj (ZAJ (Zp (ZI T.D__law_told G_law_told (hr.mono (by decide)) (ZA (ZB 0) (ZA (ZB 1) (ZA (ZB 4) ZE))) (.cons (.cons (.cons .nil)))))) (ZBP (ZT ZPQ (ZI T.D_is_state Gis_state (hr.mono (by decide)) (ZA (ZB 0) (ZA (ZB 1) (ZA (ZB 4) ZE))) (.cons (.cons (.cons .nil)))) Z6 (Za _)))))
(ZH (ZN Z6))
ZV)
(ZF (Ze (ZT (oNe hr.units) (ZP oIx (ZB 4) ZG (λ _ _=>rfl)) (ZW ZBp (ZP oIx (ZB 2) ZG (λ _ _=>rfl)) ZG) (Za _))
(ZH (ZN Z6))
ZV)
(ZF (ZAY PassesOwn.never rfl (ZCC rfl T.z_enumerate (ZA (ZP oIx (ZB 2) ZG (λ _ _=>rfl)) ZE) (hn:=(.cons .nil))) (Zk rfl (ZJ (ZL (i:=5) ZBT.nd rfl (Or.inl rfl)) (ZJ (ZL (i:=6) ZBT.nd rfl (Or.inl rfl)) Zc)))
(ZF (ZQ (i:=7) ZBT.nd rfl (Or.inl rfl) (ZP oIx (ZB 6) ZG (λ _ _=>rfl)))
(ZF (Ze (ZT (oIn hr.units) (ZB 5) (ZW ZBp (ZP oIx (ZB 3) ZG (λ _ _=>rfl)) (ZP oIx (ZB 3) ZG (λ _ _=>rfl))) (by with_unfolding_all rfl))
(ZH (ZQ (i:=7) ZBT.nd rfl (Or.inl rfl) ZG))
ZV)
(ZF (Ze (ZT (oIn hr.units) (ZB 5) (ZP oIx (ZB 3) ZG (λ _ _=>rfl)) (by with_unfolding_all rfl))
(ZH (ZQ (i:=7) ZBT.nd rfl (Or.inl rfl) ZG))
ZV)
(ZH (Ze (ZT (oNe hr.units) (ZP oIx (ZP oIx (ZP oIx (ZB 4) ZG (λ _ _=>rfl)) (ZB 5) (λ _ _=>rfl)) ZG (λ _ _=>rfl)) (ZB 7) (Za _))
(ZH (ZN Z6))
ZV))))))
(ZH (ZN Z6))))))
theorem ZDg:FnScope ["_law_script","_law_k","_law_box_here","_law_rules_here","_law_town_here","_law_state_here","_law_turn","_law_doings_here","_law_handed","_law_later"] ["_law_script"] (ZM (top 65)):=⟨rfl,rfl,rfl,by decide +kernel,rfl,by decide +kernel,by decide +kernel⟩
theorem ZPJ (T:Txt K mg A) {f:Addr} {fd:FuncData} (F:Fun K "law" "law" (top 65) f fd):FnOk P w K mg base CX0 11 f fd ["_law_script"] (spD K 1 ZGp):=by
 have G_law_box:=ZIy (P:=P) (w:=w) (base:=base) T
 have G_law_rules:=ZGW (P:=P) (w:=w) (base:=base) T
 have G_law_town:=ZHK (P:=P) (w:=w) (base:=base) T
 have Gbegun:=ZL3 (P:=P) (w:=w) (base:=base) T
 have G_law_take:=ZA3 (P:=P) (w:=w) (base:=base) T
 have G_law_state:=ZGM (P:=P) (w:=w) (base:=base) T
 have G_law_doings:=ZF4 (P:=P) (w:=w) (base:=base) T
 have Gstepped:=ZJf (P:=P) (w:=w) (base:=base) T
 have G_law_right:=ZGe (P:=P) (w:=w) (base:=base) T
 exact ZX (d:=ZMm) (r:=ZGp) (n:=10) (by unfold ZGp; rfl) rfl rfl F ZDg λ cdv A outer s H E hr=>(
(ZF (ZAY PassesOwn.never rfl (ZAN rfl T.z_range (ZA (ZW ZBp ZG (ZS ZCf rfl T.z_len boot_len (ZA (ZFH (ZB 0) ZC6 (ZDD ZG)) ZE))) ZE) (hn:=(.cons .nil))) (ZL (i:=1) ZDg.nd rfl (Or.inl rfl))
(ZF (ZQ (i:=2) ZDg.nd rfl (Or.inl rfl) (ZI T.D__law_box G_law_box (hr.mono (by decide)) (ZA (ZB 0) (ZA (ZB 1) ZE)) (.cons (.cons .nil))))
(ZF (ZQ (i:=3) ZDg.nd rfl (Or.inl rfl) (ZI T.D__law_rules G_law_rules (hr.mono (by decide)) (ZA (ZB 2) (ZA Z6 ZE)) (.cons (.cons .nil))))
(ZF (ZQ (i:=4) ZDg.nd rfl (Or.inl rfl) (ZI T.D__law_town G_law_town (hr.mono (by decide)) (ZA (ZB 2) (ZA ZG ZE)) (.cons (.cons .nil))))
(ZF (ZQ (i:=5) ZDg.nd rfl (Or.inl rfl) (ZI T.D_begun Gbegun (hr.mono (by decide)) (ZA (ZB 3) (ZA (ZB 4) ZE)) (.cons (.cons .nil))))
(ZF (Ze (ZT (oEq hr.units) (ZI T.D__law_take G_law_take (hr.mono (by decide)) (ZA (ZB 2) (ZA ZG ZE)) (.cons (.cons .nil))) ZG (Za _))
(ZH (ZQ (i:=5) ZDg.nd rfl (Or.inl rfl) (ZI T.D__law_state G_law_state (hr.mono (by decide)) (ZA (ZB 2) (ZA (ZB 3) (ZA (ZB 4) ZE))) (.cons (.cons (.cons .nil))))))
ZV)
(ZH (ZAY PassesOwn.never rfl (ZAN rfl T.z_range (ZA (ZW ZBp ZG (ZI T.D__law_take G_law_take (hr.mono (by decide)) (ZA (ZB 2) (ZA ZG ZE)) (.cons (.cons .nil)))) ZE) (hn:=(.cons .nil))) (ZL (i:=6) ZDg.nd rfl (Or.inl rfl))
(ZF (ZQ (i:=7) ZDg.nd rfl (Or.inl rfl) (ZI T.D__law_doings G_law_doings (hr.mono (by decide)) (ZA (ZB 2) (ZA (ZB 5) (ZA Z6 ZE))) (.cons (.cons (.cons .nil)))))
(ZF (ZQ (i:=8) ZDg.nd rfl (Or.inl rfl) (ZY (ZA (ZP oIx (ZB 5) ZG (λ _ _=>rfl)) (ZA (Zi ZEH rfl T.z_tuple boot_tuple (ZA (Z7 (sc:=ZM (top 65)) (NX:=["_law_script","_law_k","_law_box_here","_law_rules_here","_law_town_here","_law_state_here","_law_turn","_law_doings_here","_law_handed","_law_later"]) (N:=["_law_house"]) (own:=1) (cap:=[]) rfl (ZAc (ZP oIx (ZB 5) ZG (λ _ _=>rfl))) rfl rfl (λ cl C s0 H0 fp=>⟨(ZL (i:=0) (by show (["_law_house"]:List Str).Nodup; decide +kernel) rfl (Or.inl rfl)),ZAd,(Zi ZEH rfl T.z_tuple boot_tuple (ZA (Zi cLis rfl T.z_list boot_list (ZA (ZB 0) ZE)) ZE))⟩) (by decide +kernel) rfl) ZE)) ZE))))
(ZF (ZQ (i:=9) ZDg.nd rfl (Or.inl rfl) (ZP oIx (ZI T.D_stepped Gstepped (hr.mono (by decide)) (ZA (ZB 3) (ZA (ZB 4) (ZA (ZB 5) (ZA (ZB 7) ZE)))) (.cons (.cons (.cons (.cons .nil))))) ZG (λ _ _=>rfl)))
(ZF (Ze (JW.pt (ZBj (ZAJ (Zp (ZI T.D__law_right G_law_right (hr.mono (by decide)) (ZA (ZB 3) (ZA (ZB 4) (ZA (ZB 5) (ZA (ZB 7) (ZA (ZB 9) ZE))))) (.cons (.cons (.cons (.cons (.cons .nil)))))))) (ZBP (ZT (oNe hr.units) (ZB 5) (ZB 8) (Za _)))))
(ZH (ZN Z6))
ZV)
(ZH (ZQ (i:=5) ZDg.nd rfl (Or.inl rfl) (ZB 9)))))))))))))))
(ZH (ZN Z6))))
def ZLC (K:PySem.W.Frag):Sp:=λ vs H Q _=>∃ (a:Addr) (ns:List Int),vs=[.ref a]/\SqL K H a (ns.map V.int)/\ns.length<=63/\∀ H',Q (.bl true) H'
theorem ZRd (T:Txt K mg A) {f:Addr} {fd:FuncData} (F:Fun K "law" "law" (top 65) f fd):FnOk P w K mg base CX0 11 f fd ["_law_script"] (ZLC K):=ZRt (ZPJ T F) λ ns hl=>ZR1 hl
end
theorem all_mk {l:PySem.W.OpenLaw} {w:World} {K:PySem.W.Frag} {h:Heap} {mg:Str->Option Value} {fa:Addr} (X:K.In h) (G:h.Ns mainGlobals mg) (hfa:mg "law" = some (.ref fa))
  {cRoad:Addr} (acRoad:PySem.W.nsIn K mainGlobals "Road" = some (some (.ref cRoad))) (pgRoad:PySem.W.plainGet K cRoad Str.empty=true) (hdRoad:PySem.W.hasDictIn K cRoad=true) (poRoad:PySem.W.plainOver K cRoad=true) (saRoad:PySem.W.findIn K (.ref cRoad) "__setattr__" = some (some (.builtin "object.__setattr__"))) (mkRoad:PySem.W.makesIn K cRoad=true) (kcRoad:PySem.W.keepIn K (.ref cRoad)=true) (naRoad0:PySem.W.findIn K (.ref cRoad) "rules" = some none) (naRoad1:PySem.W.findIn K (.ref cRoad) "town" = some none) (naRoad2:PySem.W.findIn K (.ref cRoad) "state" = some none) (naRoad3:PySem.W.findIn K (.ref cRoad) "lost" = some none) (naRoad4:PySem.W.findIn K (.ref cRoad) "letters" = some none)
  {f0:Addr}
  (a0:PySem.W.nsIn K mainGlobals "is_whole" = some (some (.ref f0)))
  (h0:ZAE K "is_whole" "is_whole" (top 1) f0)
  {f1:Addr}
  (a1:PySem.W.nsIn K mainGlobals "is_count" = some (some (.ref f1)))
  (h1:ZAE K "is_count" "is_count" (top 2) f1)
  {f2:Addr}
  (a2:PySem.W.nsIn K mainGlobals "is_between" = some (some (.ref f2)))
  (h2:ZAE K "is_between" "is_between" (top 3) f2)
  {f3:Addr}
  (a3:PySem.W.nsIn K mainGlobals "is_tuple_of" = some (some (.ref f3)))
  (h3:ZAE K "is_tuple_of" "is_tuple_of" (top 4) f3)
  {f4:Addr}
  (a4:PySem.W.nsIn K mainGlobals "put" = some (some (.ref f4)))
  (h4:ZAE K "put" "put" (top 5) f4)
  {f5:Addr}
  (a5:PySem.W.nsIn K mainGlobals "is_word" = some (some (.ref f5)))
  (h5:ZAE K "is_word" "is_word" (top 11) f5)
  {f6:Addr}
  (a6:PySem.W.nsIn K mainGlobals "newer" = some (some (.ref f6)))
  (h6:ZAE K "newer" "newer" (top 12) f6)
  {f7:Addr}
  (a7:PySem.W.nsIn K mainGlobals "ticks" = some (some (.ref f7)))
  (h7:ZAE K "ticks" "ticks" (top 14) f7)
  {f8:Addr}
  (a8:PySem.W.nsIn K mainGlobals "ticks_by" = some (some (.ref f8)))
  (h8:ZAE K "ticks_by" "ticks_by" (top 15) f8)
  {f9:Addr}
  (a9:PySem.W.nsIn K mainGlobals "target" = some (some (.ref f9)))
  (h9:ZAE K "target" "target" (top 16) f9)
  {f10:Addr}
  (a10:PySem.W.nsIn K mainGlobals "notes_of" = some (some (.ref f10)))
  (h10:ZAE K "notes_of" "notes_of" (top 18) f10)
  {f11:Addr}
  (a11:PySem.W.nsIn K mainGlobals "due_houses" = some (some (.ref f11)))
  (h11:ZAE K "due_houses" "due_houses" (top 19) f11)
  {f12:Addr}
  (a12:PySem.W.nsIn K mainGlobals "news_houses" = some (some (.ref f12)))
  (h12:ZAE K "news_houses" "news_houses" (top 20) f12)
  {f13:Addr}
  (a13:PySem.W.nsIn K mainGlobals "taken" = some (some (.ref f13)))
  (h13:ZAE K "taken" "taken" (top 21) f13)
  {f14:Addr}
  (a14:PySem.W.nsIn K mainGlobals "refuted" = some (some (.ref f14)))
  (h14:ZAE K "refuted" "refuted" (top 22) f14)
  {f15:Addr}
  (a15:PySem.W.nsIn K mainGlobals "noted" = some (some (.ref f15)))
  (h15:ZAE K "noted" "noted" (top 23) f15)
  {f16:Addr}
  (a16:PySem.W.nsIn K mainGlobals "gives_way" = some (some (.ref f16)))
  (h16:ZAE K "gives_way" "gives_way" (top 24) f16)
  {f17:Addr}
  (a17:PySem.W.nsIn K mainGlobals "posted" = some (some (.ref f17)))
  (h17:ZAE K "posted" "posted" (top 26) f17)
  {f18:Addr}
  (a18:PySem.W.nsIn K mainGlobals "with_house" = some (some (.ref f18)))
  (h18:ZAE K "with_house" "with_house" (top 27) f18)
  {f19:Addr}
  (a19:PySem.W.nsIn K mainGlobals "asks_any" = some (some (.ref f19)))
  (h19:ZAE K "asks_any" "asks_any" (top 28) f19)
  {f20:Addr}
  (a20:PySem.W.nsIn K mainGlobals "asked_in_order" = some (some (.ref f20)))
  (h20:ZAE K "asked_in_order" "asked_in_order" (top 29) f20)
  {f21:Addr}
  (a21:PySem.W.nsIn K mainGlobals "asks_now" = some (some (.ref f21)))
  (h21:ZAE K "asks_now" "asks_now" (top 30) f21)
  {f22:Addr}
  (a22:PySem.W.nsIn K mainGlobals "is_about" = some (some (.ref f22)))
  (h22:ZAE K "is_about" "is_about" (top 31) f22)
  {f23:Addr}
  (a23:PySem.W.nsIn K mainGlobals "ways" = some (some (.ref f23)))
  (h23:ZAE K "ways" "ways" (top 32) f23)
  {f24:Addr}
  (a24:PySem.W.nsIn K mainGlobals "helpers" = some (some (.ref f24)))
  (h24:ZAE K "helpers" "helpers" (top 33) f24)
  {f25:Addr}
  (a25:PySem.W.nsIn K mainGlobals "judged" = some (some (.ref f25)))
  (h25:ZAE K "judged" "judged" (top 34) f25)
  {f26:Addr}
  (a26:PySem.W.nsIn K mainGlobals "stepped" = some (some (.ref f26)))
  (h26:ZAE K "stepped" "stepped" (top 37) f26)
  {f27:Addr}
  (a27:PySem.W.nsIn K mainGlobals "done" = some (some (.ref f27)))
  (h27:ZAE K "done" "done" (top 38) f27)
  {f28:Addr}
  (a28:PySem.W.nsIn K mainGlobals "write_to_all" = some (some (.ref f28)))
  (h28:ZAE K "write_to_all" "write_to_all" (top 39) f28)
  {f29:Addr}
  (a29:PySem.W.nsIn K mainGlobals "stop" = some (some (.ref f29)))
  (h29:ZAE K "stop" "stop" (top 40) f29)
  {f30:Addr}
  (a30:PySem.W.nsIn K mainGlobals "ask_all" = some (some (.ref f30)))
  (h30:ZAE K "ask_all" "ask_all" (top 41) f30)
  {f31:Addr}
  (a31:PySem.W.nsIn K mainGlobals "is_answered" = some (some (.ref f31)))
  (h31:ZAE K "is_answered" "is_answered" (top 42) f31)
  {f32:Addr}
  (a32:PySem.W.nsIn K mainGlobals "comes_through" = some (some (.ref f32)))
  (h32:ZAE K "comes_through" "comes_through" (top 43) f32)
  {f33:Addr}
  (a33:PySem.W.nsIn K mainGlobals "begun" = some (some (.ref f33)))
  (h33:ZAE K "begun" "begun" (top 46) f33)
  {f34:Addr}
  (a34:PySem.W.nsIn K mainGlobals "is_state" = some (some (.ref f34)))
  (h34:ZAE K "is_state" "is_state" (top 47) f34)
  {f35:Addr}
  (a35:PySem.W.nsIn K mainGlobals "is_house" = some (some (.ref f35)))
  (h35:ZAE K "is_house" "is_house" (top 48) f35)
  {f36:Addr}
  (a36:PySem.W.nsIn K mainGlobals "is_state_book" = some (some (.ref f36)))
  (h36:ZAE K "is_state_book" "is_state_book" (top 49) f36)
  {f37:Addr}
  (a37:PySem.W.nsIn K mainGlobals "are_between" = some (some (.ref f37)))
  (h37:ZAE K "are_between" "are_between" (top 50) f37)
  {f38:Addr}
  (a38:PySem.W.nsIn K mainGlobals "are_timers" = some (some (.ref f38)))
  (h38:ZAE K "are_timers" "are_timers" (top 51) f38)
  {f39:Addr}
  (a39:PySem.W.nsIn K mainGlobals "_law_box" = some (some (.ref f39)))
  (h39:ZAE K "_law_box" "_law_box" (top 53) f39)
  {f40:Addr}
  (a40:PySem.W.nsIn K mainGlobals "_law_take" = some (some (.ref f40)))
  (h40:ZAE K "_law_take" "_law_take" (top 54) f40)
  {f41:Addr}
  (a41:PySem.W.nsIn K mainGlobals "_law_rules" = some (some (.ref f41)))
  (h41:ZAE K "_law_rules" "_law_rules" (top 55) f41)
  {f42:Addr}
  (a42:PySem.W.nsIn K mainGlobals "_law_town" = some (some (.ref f42)))
  (h42:ZAE K "_law_town" "_law_town" (top 56) f42)
  {f43:Addr}
  (a43:PySem.W.nsIn K mainGlobals "_law_state" = some (some (.ref f43)))
  (h43:ZAE K "_law_state" "_law_state" (top 57) f43)
  {f44:Addr}
  (a44:PySem.W.nsIn K mainGlobals "_law_lost" = some (some (.ref f44)))
  (h44:ZAE K "_law_lost" "_law_lost" (top 58) f44)
  {f45:Addr}
  (a45:PySem.W.nsIn K mainGlobals "_law_doings" = some (some (.ref f45)))
  (h45:ZAE K "_law_doings" "_law_doings" (top 59) f45)
  {f46:Addr}
  (a46:PySem.W.nsIn K mainGlobals "_law_whole" = some (some (.ref f46)))
  (h46:ZAE K "_law_whole" "_law_whole" (top 60) f46)
  {f47:Addr}
  (a47:PySem.W.nsIn K mainGlobals "_law_is_house" = some (some (.ref f47)))
  (h47:ZAE K "_law_is_house" "_law_is_house" (top 61) f47)
  {f48:Addr}
  (a48:PySem.W.nsIn K mainGlobals "_law_is_state" = some (some (.ref f48)))
  (h48:ZAE K "_law_is_state" "_law_is_state" (top 62) f48)
  {f49:Addr}
  (a49:PySem.W.nsIn K mainGlobals "_law_told" = some (some (.ref f49)))
  (h49:ZAE K "_law_told" "_law_told" (top 63) f49)
  {f50:Addr}
  (a50:PySem.W.nsIn K mainGlobals "_law_right" = some (some (.ref f50)))
  (h50:ZAE K "_law_right" "_law_right" (top 64) f50)
  {f51:Addr} {od51 an51:Option Addr} {sl51:Array (Option Value)} {oc51 kV51 dc51 pm51 cd51 ct51:Value}
  (a51:PySem.W.nsIn K mainGlobals "law" = some (some (.ref f51)))
  (l51:K.lookup f51=some ⟨oc51,od51,.func (PySem.W.fnOf "law" "law" (ZDX (top 65)) (ZB6 (top 65)) (ZM (top 65)) .none kV51 dc51 pm51 an51 cd51 ct51),sl51⟩) (c51:PySem.W.codeIn K cd51 "law" = true) (k51:PySem.W.keepIn K (.ref f51)=true)
  {f52:Addr}
  (a52:PySem.W.findIn K (.ref cRoad) "__init__" = some (some (.ref f52))) (n52:PySem.W.isFn K (.ref f52)=true)
  (h52:ZAE K "__init__" "Road.__init__" (ZCu (top 36) 0) f52)
  {f53:Addr}
  (a53:PySem.W.findIn K (.ref cRoad) "sends" = some (some (.ref f53))) (n53:PySem.W.isFn K (.ref f53)=true)
  (h53:ZAE K "sends" "Road.sends" (ZCu (top 36) 1) f53)
  {gt0:Tok} (glob0:PySem.W.nsIn K mainGlobals "ALIVE" = some (some (.int 0 gt0)))
  {gt1:Tok} (glob1:PySem.W.nsIn K mainGlobals "SUSPECT" = some (some (.int 1 gt1)))
  {gt2:Tok} (glob2:PySem.W.nsIn K mainGlobals "GONE" = some (some (.int 2 gt2)))
  {gt3:Tok} (glob3:PySem.W.nsIn K mainGlobals "LEFT" = some (some (.int 3 gt3)))
  {gt4:Tok} (glob4:PySem.W.nsIn K mainGlobals "MOST_NUMBER" = some (some (.int 1000000 gt4)))
  (z0:PySem.W.nsIn K mainGlobals "abs" = some none)
  (z1:PySem.W.nsIn K mainGlobals "all" = some none)
  (z2:PySem.W.nsIn K mainGlobals "any" = some none)
  (z3:PySem.W.nsIn K mainGlobals "bool" = some none)
  (z4:PySem.W.nsIn K mainGlobals "enumerate" = some none)
  (z5:PySem.W.nsIn K mainGlobals "int" = some none)
  (z6:PySem.W.nsIn K mainGlobals "isinstance" = some none)
  (z7:PySem.W.nsIn K mainGlobals "len" = some none)
  (z8:PySem.W.nsIn K mainGlobals "list" = some none)
  (z9:PySem.W.nsIn K mainGlobals "min" = some none)
  (z10:PySem.W.nsIn K mainGlobals "range" = some none)
  (z11:PySem.W.nsIn K mainGlobals "sorted" = some none)
  (z12:PySem.W.nsIn K mainGlobals "tuple" = some none)
  : ∃ fd:FuncData,(∀ (s:Shared) (v:Value),BindsTo s fd ⟨[v],[]⟩ [("_law_script",v)])/\∀ base:Heap,K.In base->base.Ns mainGlobals mg->FnOk l.prog w K mg base CX0 11 fa fd ["_law_script"] (ZLC K):=by
 have e:=hfa.symm.trans (PySem.W.mg_of X G a51)
 cases e
 have NARoad:∀ f ∈ ZZ.fs,ZDs K cRoad f:=by
  intro f hf
  simp only [ZZ,List.mem_cons,List.not_mem_nil,or_false] at hf
  rcases hf with rfl | rfl | rfl | rfl | rfl
  ·exact naRoad0
  ·exact naRoad1
  ·exact naRoad2
  ·exact naRoad3
  ·exact naRoad4
 obtain ⟨_,F0⟩:=h0
 have D0:Def K mg "is_whole" (top 1) ["thing"] f0 _:=⟨PySem.W.mg_of X G a0,F0,F0.binds (ps:=["thing"]) λ _ _ _ _ _ _ us hl=>match us,hl with | [_],_=>rfl⟩
 obtain ⟨_,F1⟩:=h1
 have D1:Def K mg "is_count" (top 2) ["thing"] f1 _:=⟨PySem.W.mg_of X G a1,F1,F1.binds (ps:=["thing"]) λ _ _ _ _ _ _ us hl=>match us,hl with | [_],_=>rfl⟩
 obtain ⟨_,F2⟩:=h2
 have D2:Def K mg "is_between" (top 3) ["thing","low","high"] f2 _:=⟨PySem.W.mg_of X G a2,F2,F2.binds (ps:=["thing","low","high"]) λ _ _ _ _ _ _ us hl=>match us,hl with | [_,_,_],_=>rfl⟩
 obtain ⟨_,F3⟩:=h3
 have D3:Def K mg "is_tuple_of" (top 4) ["thing","length"] f3 _:=⟨PySem.W.mg_of X G a3,F3,F3.binds (ps:=["thing","length"]) λ _ _ _ _ _ _ us hl=>match us,hl with | [_,_],_=>rfl⟩
 obtain ⟨_,F4⟩:=h4
 have D4:Def K mg "put" (top 5) ["things","place","thing"] f4 _:=⟨PySem.W.mg_of X G a4,F4,F4.binds (ps:=["things","place","thing"]) λ _ _ _ _ _ _ us hl=>match us,hl with | [_,_,_],_=>rfl⟩
 obtain ⟨_,F5⟩:=h5
 have D5:Def K mg "is_word" (top 11) ["thing"] f5 _:=⟨PySem.W.mg_of X G a5,F5,F5.binds (ps:=["thing"]) λ _ _ _ _ _ _ us hl=>match us,hl with | [_],_=>rfl⟩
 obtain ⟨_,F6⟩:=h6
 have D6:Def K mg "newer" (top 12) ["one","other"] f6 _:=⟨PySem.W.mg_of X G a6,F6,F6.binds (ps:=["one","other"]) λ _ _ _ _ _ _ us hl=>match us,hl with | [_,_],_=>rfl⟩
 obtain ⟨_,F7⟩:=h7
 have D7:Def K mg "ticks" (top 14) ["town","house","turn"] f7 _:=⟨PySem.W.mg_of X G a7,F7,F7.binds (ps:=["town","house","turn"]) λ _ _ _ _ _ _ us hl=>match us,hl with | [_,_,_],_=>rfl⟩
 obtain ⟨_,F8⟩:=h8
 have D8:Def K mg "ticks_by" (top 15) ["town","house","turn"] f8 _:=⟨PySem.W.mg_of X G a8,F8,F8.binds (ps:=["town","house","turn"]) λ _ _ _ _ _ _ us hl=>match us,hl with | [_,_,_],_=>rfl⟩
 obtain ⟨_,F9⟩:=h9
 have D9:Def K mg "target" (top 16) ["town","house","turn"] f9 _:=⟨PySem.W.mg_of X G a9,F9,F9.binds (ps:=["town","house","turn"]) λ _ _ _ _ _ _ us hl=>match us,hl with | [_,_,_],_=>rfl⟩
 obtain ⟨_,F10⟩:=h10
 have D10:Def K mg "notes_of" (top 18) ["rules","town","state","x","y"] f10 _:=⟨PySem.W.mg_of X G a10,F10,F10.binds (ps:=["rules","town","state","x","y"]) λ _ _ _ _ _ _ us hl=>match us,hl with | [_,_,_,_,_],_=>rfl⟩
 obtain ⟨_,F11⟩:=h11
 have D11:Def K mg "due_houses" (top 19) ["rules","town","turn","x","y"] f11 _:=⟨PySem.W.mg_of X G a11,F11,F11.binds (ps:=["rules","town","turn","x","y"]) λ _ _ _ _ _ _ us hl=>match us,hl with | [_,_,_,_,_],_=>rfl⟩
 obtain ⟨_,F12⟩:=h12
 have D12:Def K mg "news_houses" (top 20) ["rules","told","x","due"] f12 _:=⟨PySem.W.mg_of X G a12,F12,F12.binds (ps:=["rules","told","x","due"]) λ _ _ _ _ _ _ us hl=>match us,hl with | [_,_,_,_],_=>rfl⟩
 obtain ⟨_,F13⟩:=h13
 have D13:Def K mg "taken" (top 21) ["rules","house","y","notes"] f13 _:=⟨PySem.W.mg_of X G a13,F13,F13.binds (ps:=["rules","house","y","notes"]) λ _ _ _ _ _ _ us hl=>match us,hl with | [_,_,_,_],_=>rfl⟩
 obtain ⟨_,F14⟩:=h14
 have D14:Def K mg "refuted" (top 22) ["rules","house","y","word"] f14 _:=⟨PySem.W.mg_of X G a14,F14,F14.binds (ps:=["rules","house","y","word"]) λ _ _ _ _ _ _ us hl=>match us,hl with | [_,_,_,_],_=>rfl⟩
 obtain ⟨_,F15⟩:=h15
 have D15:Def K mg "noted" (top 23) ["rules","house","about","word"] f15 _:=⟨PySem.W.mg_of X G a15,F15,F15.binds (ps:=["rules","house","about","word"]) λ _ _ _ _ _ _ us hl=>match us,hl with | [_,_,_,_],_=>rfl⟩
 obtain ⟨_,F16⟩:=h16
 have D16:Def K mg "gives_way" (top 24) ["rules","old","word"] f16 _:=⟨PySem.W.mg_of X G a16,F16,F16.binds (ps:=["rules","old","word"]) λ _ _ _ _ _ _ us hl=>match us,hl with | [_,_,_],_=>rfl⟩
 obtain ⟨_,F17⟩:=h17
 have D17:Def K mg "posted" (top 26) ["rules","town","state","x","y"] f17 _:=⟨PySem.W.mg_of X G a17,F17,F17.binds (ps:=["rules","town","state","x","y"]) λ _ _ _ _ _ _ us hl=>match us,hl with | [_,_,_,_,_],_=>rfl⟩
 obtain ⟨_,F18⟩:=h18
 have D18:Def K mg "with_house" (top 27) ["state","at","house"] f18 _:=⟨PySem.W.mg_of X G a18,F18,F18.binds (ps:=["state","at","house"]) λ _ _ _ _ _ _ us hl=>match us,hl with | [_,_,_],_=>rfl⟩
 obtain ⟨_,F19⟩:=h19
 have D19:Def K mg "asks_any" (top 28) ["town","state","a"] f19 _:=⟨PySem.W.mg_of X G a19,F19,F19.binds (ps:=["town","state","a"]) λ _ _ _ _ _ _ us hl=>match us,hl with | [_,_,_],_=>rfl⟩
 obtain ⟨_,F20⟩:=h20
 have D20:Def K mg "asked_in_order" (top 29) ["town","turn","a"] f20 _:=⟨PySem.W.mg_of X G a20,F20,F20.binds (ps:=["town","turn","a"]) λ _ _ _ _ _ _ us hl=>match us,hl with | [_,_,_],_=>rfl⟩
 obtain ⟨_,F21⟩:=h21
 have D21:Def K mg "asks_now" (top 30) ["rules","town","state","a","b"] f21 _:=⟨PySem.W.mg_of X G a21,F21,F21.binds (ps:=["rules","town","state","a","b"]) λ _ _ _ _ _ _ us hl=>match us,hl with | [_,_,_,_,_],_=>rfl⟩
 obtain ⟨_,F22⟩:=h22
 have D22:Def K mg "is_about" (top 31) ["book","house"] f22 _:=⟨PySem.W.mg_of X G a22,F22,F22.binds (ps:=["book","house"]) λ _ _ _ _ _ _ us hl=>match us,hl with | [_,_],_=>rfl⟩
 obtain ⟨_,F23⟩:=h23
 have D23:Def K mg "ways" (top 32) ["rules","state","a","b"] f23 _:=⟨PySem.W.mg_of X G a23,F23,F23.binds (ps:=["rules","state","a","b"]) λ _ _ _ _ _ _ us hl=>match us,hl with | [_,_,_,_],_=>rfl⟩
 obtain ⟨_,F24⟩:=h24
 have D24:Def K mg "helpers" (top 33) ["rules","book","a","b"] f24 _:=⟨PySem.W.mg_of X G a24,F24,F24.binds (ps:=["rules","book","a","b"]) λ _ _ _ _ _ _ us hl=>match us,hl with | [_,_,_,_],_=>rfl⟩
 obtain ⟨_,F25⟩:=h25
 have D25:Def K mg "judged" (top 34) ["rules","state","a","b","answered"] f25 _:=⟨PySem.W.mg_of X G a25,F25,F25.binds (ps:=["rules","state","a","b","answered"]) λ _ _ _ _ _ _ us hl=>match us,hl with | [_,_,_,_,_],_=>rfl⟩
 obtain ⟨_,F26⟩:=h26
 have D26:Def K mg "stepped" (top 37) ["rules","town","state","doings"] f26 _:=⟨PySem.W.mg_of X G a26,F26,F26.binds (ps:=["rules","town","state","doings"]) λ _ _ _ _ _ _ us hl=>match us,hl with | [_,_,_,_],_=>rfl⟩
 obtain ⟨_,F27⟩:=h27
 have D27:Def K mg "done" (top 38) ["houses","doings"] f27 _:=⟨PySem.W.mg_of X G a27,F27,F27.binds (ps:=["houses","doings"]) λ _ _ _ _ _ _ us hl=>match us,hl with | [_,_],_=>rfl⟩
 obtain ⟨_,F28⟩:=h28
 have D28:Def K mg "write_to_all" (top 39) ["road","x"] f28 _:=⟨PySem.W.mg_of X G a28,F28,F28.binds (ps:=["road","x"]) λ _ _ _ _ _ _ us hl=>match us,hl with | [_,_],_=>rfl⟩
 obtain ⟨_,F29⟩:=h29
 have D29:Def K mg "stop" (top 40) ["road","x"] f29 _:=⟨PySem.W.mg_of X G a29,F29,F29.binds (ps:=["road","x"]) λ _ _ _ _ _ _ us hl=>match us,hl with | [_,_],_=>rfl⟩
 obtain ⟨_,F30⟩:=h30
 have D30:Def K mg "ask_all" (top 41) ["road","a"] f30 _:=⟨PySem.W.mg_of X G a30,F30,F30.binds (ps:=["road","a"]) λ _ _ _ _ _ _ us hl=>match us,hl with | [_,_],_=>rfl⟩
 obtain ⟨_,F31⟩:=h31
 have D31:Def K mg "is_answered" (top 42) ["road","a","b"] f31 _:=⟨PySem.W.mg_of X G a31,F31,F31.binds (ps:=["road","a","b"]) λ _ _ _ _ _ _ us hl=>match us,hl with | [_,_,_],_=>rfl⟩
 obtain ⟨_,F32⟩:=h32
 have D32:Def K mg "comes_through" (top 43) ["road","way"] f32 _:=⟨PySem.W.mg_of X G a32,F32,F32.binds (ps:=["road","way"]) λ _ _ _ _ _ _ us hl=>match us,hl with | [_,_],_=>rfl⟩
 obtain ⟨_,F33⟩:=h33
 have D33:Def K mg "begun" (top 46) ["rules","town"] f33 _:=⟨PySem.W.mg_of X G a33,F33,F33.binds (ps:=["rules","town"]) λ _ _ _ _ _ _ us hl=>match us,hl with | [_,_],_=>rfl⟩
 obtain ⟨_,F34⟩:=h34
 have D34:Def K mg "is_state" (top 47) ["rules","town","thing"] f34 _:=⟨PySem.W.mg_of X G a34,F34,F34.binds (ps:=["rules","town","thing"]) λ _ _ _ _ _ _ us hl=>match us,hl with | [_,_,_],_=>rfl⟩
 obtain ⟨_,F35⟩:=h35
 have D35:Def K mg "is_house" (top 48) ["rules","many","at","thing"] f35 _:=⟨PySem.W.mg_of X G a35,F35,F35.binds (ps:=["rules","many","at","thing"]) λ _ _ _ _ _ _ us hl=>match us,hl with | [_,_,_,_],_=>rfl⟩
 obtain ⟨_,F36⟩:=h36
 have D36:Def K mg "is_state_book" (top 49) ["thing","many"] f36 _:=⟨PySem.W.mg_of X G a36,F36,F36.binds (ps:=["thing","many"]) λ _ _ _ _ _ _ us hl=>match us,hl with | [_,_],_=>rfl⟩
 obtain ⟨_,F37⟩:=h37
 have D37:Def K mg "are_between" (top 50) ["thing","many","high"] f37 _:=⟨PySem.W.mg_of X G a37,F37,F37.binds (ps:=["thing","many","high"]) λ _ _ _ _ _ _ us hl=>match us,hl with | [_,_,_],_=>rfl⟩
 obtain ⟨_,F38⟩:=h38
 have D38:Def K mg "are_timers" (top 51) ["rules","many","at","up","thing"] f38 _:=⟨PySem.W.mg_of X G a38,F38,F38.binds (ps:=["rules","many","at","up","thing"]) λ _ _ _ _ _ _ us hl=>match us,hl with | [_,_,_,_,_],_=>rfl⟩
 obtain ⟨_,F39⟩:=h39
 have D39:Def K mg "_law_box" (top 53) ["_law_script","_law_k"] f39 _:=⟨PySem.W.mg_of X G a39,F39,F39.binds (ps:=["_law_script","_law_k"]) λ _ _ _ _ _ _ us hl=>match us,hl with | [_,_],_=>rfl⟩
 obtain ⟨_,F40⟩:=h40
 have D40:Def K mg "_law_take" (top 54) ["_law_box_here","_law_many"] f40 _:=⟨PySem.W.mg_of X G a40,F40,F40.binds (ps:=["_law_box_here","_law_many"]) λ _ _ _ _ _ _ us hl=>match us,hl with | [_,_],_=>rfl⟩
 obtain ⟨_,F41⟩:=h41
 have D41:Def K mg "_law_rules" (top 55) ["_law_box_here","_law_whole_here"] f41 _:=⟨PySem.W.mg_of X G a41,F41,F41.binds (ps:=["_law_box_here","_law_whole_here"]) λ _ _ _ _ _ _ us hl=>match us,hl with | [_,_],_=>rfl⟩
 obtain ⟨_,F42⟩:=h42
 have D42:Def K mg "_law_town" (top 56) ["_law_box_here","_law_most"] f42 _:=⟨PySem.W.mg_of X G a42,F42,F42.binds (ps:=["_law_box_here","_law_most"]) λ _ _ _ _ _ _ us hl=>match us,hl with | [_,_],_=>rfl⟩
 obtain ⟨_,F43⟩:=h43
 have D43:Def K mg "_law_state" (top 57) ["_law_box_here","_law_rules_here","_law_town_here"] f43 _:=⟨PySem.W.mg_of X G a43,F43,F43.binds (ps:=["_law_box_here","_law_rules_here","_law_town_here"]) λ _ _ _ _ _ _ us hl=>match us,hl with | [_,_,_],_=>rfl⟩
 obtain ⟨_,F44⟩:=h44
 have D44:Def K mg "_law_lost" (top 58) ["_law_box_here","_law_most"] f44 _:=⟨PySem.W.mg_of X G a44,F44,F44.binds (ps:=["_law_box_here","_law_most"]) λ _ _ _ _ _ _ us hl=>match us,hl with | [_,_],_=>rfl⟩
 obtain ⟨_,F45⟩:=h45
 have D45:Def K mg "_law_doings" (top 59) ["_law_box_here","_law_state_here","_law_moves"] f45 _:=⟨PySem.W.mg_of X G a45,F45,F45.binds (ps:=["_law_box_here","_law_state_here","_law_moves"]) λ _ _ _ _ _ _ us hl=>match us,hl with | [_,_,_],_=>rfl⟩
 obtain ⟨_,F46⟩:=h46
 have D46:Def K mg "_law_whole" (top 60) ["_law_thing","_law_least","_law_most"] f46 _:=⟨PySem.W.mg_of X G a46,F46,F46.binds (ps:=["_law_thing","_law_least","_law_most"]) λ _ _ _ _ _ _ us hl=>match us,hl with | [_,_,_],_=>rfl⟩
 obtain ⟨_,F47⟩:=h47
 have D47:Def K mg "_law_is_house" (top 61) ["_law_rules_here","_law_n","_law_house","_law_thing"] f47 _:=⟨PySem.W.mg_of X G a47,F47,F47.binds (ps:=["_law_rules_here","_law_n","_law_house","_law_thing"]) λ _ _ _ _ _ _ us hl=>match us,hl with | [_,_,_,_],_=>rfl⟩
 obtain ⟨_,F48⟩:=h48
 have D48:Def K mg "_law_is_state" (top 62) ["_law_rules_here","_law_town_here","_law_thing"] f48 _:=⟨PySem.W.mg_of X G a48,F48,F48.binds (ps:=["_law_rules_here","_law_town_here","_law_thing"]) λ _ _ _ _ _ _ us hl=>match us,hl with | [_,_,_],_=>rfl⟩
 obtain ⟨_,F49⟩:=h49
 have D49:Def K mg "_law_told" (top 63) ["_law_rules_here","_law_town_here","_law_thing"] f49 _:=⟨PySem.W.mg_of X G a49,F49,F49.binds (ps:=["_law_rules_here","_law_town_here","_law_thing"]) λ _ _ _ _ _ _ us hl=>match us,hl with | [_,_,_],_=>rfl⟩
 obtain ⟨_,F50⟩:=h50
 have D50:Def K mg "_law_right" (top 64) ["_law_rules_here","_law_town_here","_law_state_here","_law_doings_here","_law_later"] f50 _:=⟨PySem.W.mg_of X G a50,F50,F50.binds (ps:=["_law_rules_here","_law_town_here","_law_state_here","_law_doings_here","_law_later"]) λ _ _ _ _ _ _ us hl=>match us,hl with | [_,_,_,_,_],_=>rfl⟩
 have F51:=ZNG (st:=(top 65)) l51 c51 k51
 obtain ⟨_,F52⟩:=h52
 have D52:MDef K cRoad "__init__" "Road.__init__" (ZCu (top 36) 0) ["self","rules","town","state","lost"] f52 _:=⟨⟨a52,n52,F52.kp⟩,F52,F52.binds (ps:=["self","rules","town","state","lost"]) λ _ _ _ _ _ _ us hl=>match us,hl with | [_,_,_,_,_],_=>rfl⟩
 obtain ⟨_,F53⟩:=h53
 have D53:MDef K cRoad "sends" "Road.sends" (ZCu (top 36) 1) ["self","x","y"] f53 _:=⟨⟨a53,n53,F53.kp⟩,F53,F53.binds (ps:=["self","x","y"]) λ _ _ _ _ _ _ us hl=>match us,hl with | [_,_,_],_=>rfl⟩
 have T:Txt K mg ⟨cRoad,f0,f1,f2,f3,f4,f5,f6,f7,f8,f9,f10,f11,f12,f13,f14,f15,f16,f17,f18,f19,f20,f21,f22,f23,f24,f25,f26,f27,f28,f29,f30,f31,f32,f33,f34,f35,f36,f37,f38,f39,f40,f41,f42,f43,f44,f45,f46,f47,f48,f49,f50,f52,f53,_,_,_,_,_,_,_,_,_,_,_,_,_,_,_,_,_,_,_,_,_,_,_,_,_,_,_,_,_,_,_,_,_,_,_,_,_,_,_,_,_,_,_,_,_,_,_,_,_,_,_,_,_⟩:=⟨PySem.W.mg_none_of X G z0,PySem.W.mg_none_of X G z1,PySem.W.mg_none_of X G z2,PySem.W.mg_none_of X G z3,PySem.W.mg_none_of X G z4,PySem.W.mg_none_of X G z5,PySem.W.mg_none_of X G z6,PySem.W.mg_none_of X G z7,PySem.W.mg_none_of X G z8,PySem.W.mg_none_of X G z9,PySem.W.mg_none_of X G z10,PySem.W.mg_none_of X G z11,PySem.W.mg_none_of X G z12,⟨_,PySem.W.mg_of X G glob0⟩,⟨_,PySem.W.mg_of X G glob1⟩,⟨_,PySem.W.mg_of X G glob2⟩,⟨_,PySem.W.mg_of X G glob3⟩,⟨_,PySem.W.mg_of X G glob4⟩,⟨acRoad,PySem.W.mg_of X G acRoad,⟨pgRoad,hdRoad,poRoad,saRoad⟩,by decide +kernel,NARoad⟩,⟨mkRoad,a52,n52,kcRoad⟩,D0,D1,D2,D3,D4,D5,D6,D7,D8,D9,D10,D11,D12,D13,D14,D15,D16,D17,D18,D19,D20,D21,D22,D23,D24,D25,D26,D27,D28,D29,D30,D31,D32,D33,D34,D35,D36,D37,D38,D39,D40,D41,D42,D43,D44,D45,D46,D47,D48,D49,D50,D52,D53⟩
 exact ⟨PySem.W.fnOf "law" "law" (ZDX (top 65)) (ZB6 (top 65)) (ZM (top 65)) .none kV51 dc51 pm51 an51 cd51 ct51,λ s v=>.of_eq rfl,λ base _ _=>ZRd T F51⟩
theorem walk {l:PySem.W.OpenLaw} {q:Program} {loose:List Str} {XP:(Str->Option Value)->Heap->Prop} {YP:World->Heap->Prop} {d:DefRec} {K:Params->PySem.W.Frag} (hn:l.most=some 63) (hdf:d.params.defaults=[])
  (hY:∀ (w:World) (h:Heap),YP w h->(K w.params).In h)
  (F:∀ (w:World) (mg:Str->Option Value) (fa:Addr) (h:Heap),(K w.params).In h->h.Ns mainGlobals mg->mg d.name=some (.ref fa) ->
   ∃ fd:FuncData,(∀ (s:Shared) (u:Value),BindsTo s fd ⟨[u],[]⟩ [("_law_script",u)])/\∀ base:Heap,(K w.params).In base->base.Ns mainGlobals mg->FnOk l.prog w (K w.params) mg base CX0 11 fa fd ["_law_script"] (ZLC (K w.params))) :
  PySem.W.WalkO q loose XP YP l.row.toRowW d [] (λ f vs=>PySem.call f vs) :=
 L2.walk_of (n:=63) (k:=11) (x:="_law_script") (CX:=λ _=>CX0) (sp:=λ w=>ZLC (K w.params)) hn (by decide) hdf ⟨rfl,by decide,by decide,rfl⟩ hY F (λ _ _ a ns hl _ hS=>⟨a,ns,rfl,hS,hl,λ _=>rfl⟩) λ _ _ _ _ _ z=>z
end K18
open PySem PySem.W PyProof.Rows
local macro_rules
 | `(tactic| and_intros) => `(tactic| (refine' L2.fnAt_mk ?l ?c ?k; (case l => k_is); (case c => k_is); (case k => k_is)))
namespace PySem.W.Fast
end PySem.W.Fast
set_option genInjectivity false in
set_option genSizeOf false in
structure PySem.W.Fast where
 (tw17363395786268984090
 tw8376559681064078044
 tw5156865952937835501
 tw4892471236501522687
 tw17878133137834899384
 tw15102885672725635706
 tw17306031243438068186
 tw5141488183324548919
 tw4908041678067560312
 tw14392832391459032030
 tw16787542168883736670
 tw16461182411971450679
 tw2323103843229192905
 tw4859026479868120679
 tw9587568837698999921
 tw5594923987216373115
 tw5452585571978190970
 tw5917865744303794004
 tw7220207788251882894
 tw16956344862193528186
 tw6344570360364974501
 tw13820711506021702283
 tw10728838224795559603
 tw1093245212260987045
 tw14508112610389773129
 tw2221647463130865051
 tw11711223870333286230
 tw6961876701777157086
 tw5217483838946415260
 tw13091182378777912577
 tw4265530183366925389
 tw8452578802183036259
 tw6541900118350376355
 tw13430185151992875550
 tw16785503182983315028
 tw15394875520765123993
 tw13702441950080736378
 tw603941563951341253
 tw12823174706263289410
 tw15387951419695800047
 tw7759487998848479803
 tw17394989270879491586
 tw18114195785180105623
 tw14504957731923699489
 tw5907781890434111878
 tw1887737516286519263
 tw5891959051116702117
 tw6343793647209661973
 tw15983932066602111815
 tw16383780990465383037
 tw7638327195812799370
 tw5528600063263356772
 tw4540793358051666192
 tw10588685011971730782
 tw6130400096711525444
 tw16572689695559638465
 tw14218123828519389378
 tw6694207856206716485
 tw14573276887295378436
 tw13254953863132769567
 tw15905911393867354676
 tw1267781163499310655
 tw618744131003720684
 tw5749715573314441683
 tw626243930798399934
 tw13094135847225818850
 tw9804172777650933682
 tw18223364712108760020
 tw8806989863661181638
 tw13077954211579748429
 tw11239377779520034419
 tw321914089109084992
 tw13928859974403857951
 tw1412192239753393627
 tw10143962024879301519
 tw17328040876202319583
 tw3813363099647216195
 tw6110507636266191507
 tw15983136094194438034
 tw4764362462592386947
 tw8444642855954118115
 tw464203619694145119
 tw18200037716537792478
 tw8561152496955577097
 tw15291708165211118538
 tw16720444073471825814
 tw1529185440042406729
 tw10408852921586943081
 tw7538278709115952711
 tw10594817830790705978
 tw344700487259602921
 tw2350837130610838759
 tw4078658025002643080
 tw15781958124199670746
 tw11436942274033030766
 tw14929328979464625237
 tw7823017083646842610
 tw12211973924296960772
 tw12806520927407482558
 tw5008205315603764584
 tw14301252538354084702
 tw4029785186900778889
 tw17996759276133249476
 tw8068509438220111643
 tw11677519505662751117
 tw9062024318880536976
 tw2290520154321909325
 tw2673408079372132551
 tw13161620980752033291
 tw2483287947532534389
 tw3954057563180093143
 tw17834783056885461295
 tw14819827242709335318
 tw3295954357207440783
 tw802460107025496874
 tw16698841182841031140
 tw17201374085448288622
 tw2740117831760381211
 tw10307425207725719319
 tw1380966059312909746
 tw8546039426199830669
 tw15027006242466963411
 tw12040194060179404227
 tw8838893378070413451
 tw260859028002684962
 tw3337126274696339551
 tw475438633750557869
 tw564450424464483213
 tw18009343315752529707
 tw17174185606759584765
 tw7513843698028843051
 tw3159373837799677276
 tw8572973855623788226
 tw880821295682925930
 tw7897962283687834353
 tw13203556741438765353
 tw14426956689407010412
 tw14400588028283937733
 tw12714992369891978451
 tw18336993758817309640
 tw5401514645261504621
 tw5156070341001527870
 tw18368791661591667947
 tw12103502853158786012
 tw2036457010925141801
 tw12282014457233919538
 tw11334544706958846672
 tw18157167425824783367
 tw6460994790111654904
 tw13306819218004825481
 tw16493303158648864258
 tw10788241646401016667
 tw467077469450457415
 tw3272900769188163175
 tw10440690039961466137
 tw2726762407979841100
 tw14953548013500574078
 tw12981800476113325279
 tw17131643823469784342
 tw13003840078147453350
 tw15469097003135984196
 tw14268828309147953121
 tw14696792620178596243
 tw7651256423229508926
 tw3937424875611649250
 tw11553436894351920773
 tw6873114603752251275
 tw5332115768655776423
 tw4867459599742987124
 tw8131463071693498728
 tw4729026492959327178
 tw11333215835554130201
 tw4273162565262510028
 tw5411317501555400644
 tw5711282909978895826
 tw4785692255766278026
 tw7494440332267620548
 tw13715286938803943295
 tw7239099900246776625
 tw3796142316084691077
 tw197744216555091069
 tw5309415648614161259
 tw17923274517477047256
 tw12107468821596546688
 tw9853819259510832432
 tw18147085887650354228
 tw13025336284754976011
 tw4318321789997668989
 tw11494622333318344680
 tw7308099076970415006
 tw17962004639135709534
 tw855105514767637994
 tw4259849354532697176
 tw5168771637961490961
 tw10845724341154802552
 tw4275961090394519439
 tw1233161914900701828
 tw1638066132273856899
 tw9536304502798139567
 tw2443359028204270135
 tw3013167844354658320
 tw13967959321213798001
 tw10135399417591101855
 tw9350284773091426177
 tw5378725981445597193
 tw10740773236953546233
 tw8679055424179633123
 tw12520563176411534699
 tw7613977312338799448
 tw7878839075488159025
 tw3398432516005548574
 tw5001503272174336492
 tw2500467072290673925
 tw3623506055660624107
 tw17071709601704106152
 tw10646097232527898939
 tw17215094024095617222
 tw14462926246005368874
 tw15720241142449598272
 tw17109487629496953123
 tw9377077584729051006
 tw11644067925605042218
 tw15883799115481164236
 tw15065596232708298644
 tw12282580763891213503
 tw5742239071452538033
 tw15303880484635917994
 tw18248283929830609667
 tw7938984841583156852
 tw11305192603918103902
 tw17071287546833068464
 tw9358610861458477418
 tw16014649389262138569
 tw13322362235964373373
 tw1874543178360498668
 tw8145317194777401718
 tw12889921381650316042
 tw7855135139961678392
 tw4675589100044358576
 tw15449499841658207689
 tw15406424595770986594
 tw12311407965835044377
 tw10822576903368047404
 tw15067235588984436844
 tw14987416320792077482
 tw9874426179197646340
 tw16351670565272034886
 tw14728188395918042215
 tw185158251166534808
 tw7357442350692340253
 tw3925450421487823570
 tw3344767064568025416
 tw3020006573650945390
 tw6712034906829797793
 tw8425034117872469124
 tw10295944074055406210
 tw16438493419375517883
 tw7702651824595242198
 tw423833890455707561
 tw6030335500534186308
 tw15180217823201299239
 tw7645580422785570309
 tw15962206495161803571
 tw11917448717421962628
 tw10895987150468292227
 tw13253627216425306474
 tw2939040036150401303
 tw13518437754828898404
 tw12410410972194035189
 tw13790970565799951178
 tw10297068769359914489
 tw18104040229428942875
 tw15910645144645328523
 tw10960290036164512044
 tw3651936762131082620
 tw5158141397978327289
 tw16378079790844500696
 tw17697909466677343946
 tw9542678496766789200
 tw13780158130116800277
 tw8501415962845340886
 tw11634483971316680019
 tw2165957695378237017
 tw17442024662592156407
 tw1706197803398107065
 tw9257652739634103444
 tw18333349991233012850
 tw2601303787294604020
 tw3940114413683488751
 tw5530138158903742712
 tw9598359839787808556
 tw9419939217613537596
 tw18169101370246926988
 tw18360155148005019851
 tw13879816258259916859
 tw7848179989042189024
 tw15617675316338810449
 tw11656591905861530125
 tw473443606214550204
 tw6920077541227472194
 tw11027862314474028811
 tw6358980812617801746
 tw426599438038600751
 tw4090317497226742930
 tw2188040271799804901
 tw1518008984522377065
 tw7719233972570124728
 tw3191175021692515225
 tw667991422222856762
 tw8195836226756594739
 tw13484151321053500113
 tw3802062144930679272
 tw18367828406992597417
 tw12496128573318854795
 tw18367945542687435582
 tw13007466050259589176
 tw16967211452506828611
 tw7299487649466684035
 tw10162188154169722238
 tw9831335020426473487
 tw11281747425118046093
 tw14785446527483207111
 tw1151268029809980881
 tw7304602672429350523
 tw16512404045773700241
 tw11008182329029058764
 tw6137666550646364662
 tw16219845837641389188
 tw7930030601491890395
 tw5308600003837344705
 tw4963436722807156083
 tw1163261994400218323
 tw5168337432444660819
 tw8338097416736805816
 tw230693581442569544
 tw16316009776988836854
 tw14942915830322867535
 tw14648861505445400426 : Nat)
set_option maxRecDepth 100000 in
set_option maxHeartbeats 0 in
theorem PySem.Challenge.cw_hearsaybook_k18_states_that_come_holds : PySem.Challenge.rw_hearsaybook_k18_states_that_come.Holds := by
 w_on; o_law; k_head; (case hw=>w_witness2)
 k_fill
 refine K18.walk (l:=PySem.Challenge.rw_hearsaybook_k18_states_that_come) rfl rfl (λ w h Y=>PySem.W.kIn_of Y) ?F
 case F =>
  intro w mg fa h KX G hmg
  refine' K18.all_mk KX G hmg ?acRoad ?pgRoad ?hdRoad ?poRoad ?saRoad ?mkRoad ?kcRoad ?naRoad0 ?naRoad1 ?naRoad2 ?naRoad3 ?naRoad4 ?a0 ?h0 ?a1 ?h1 ?a2 ?h2 ?a3 ?h3 ?a4 ?h4 ?a5 ?h5 ?a6 ?h6 ?a7 ?h7 ?a8 ?h8 ?a9 ?h9 ?a10 ?h10 ?a11 ?h11 ?a12 ?h12 ?a13 ?h13 ?a14 ?h14 ?a15 ?h15 ?a16 ?h16 ?a17 ?h17 ?a18 ?h18 ?a19 ?h19 ?a20 ?h20 ?a21 ?h21 ?a22 ?h22 ?a23 ?h23 ?a24 ?h24 ?a25 ?h25 ?a26 ?h26 ?a27 ?h27 ?a28 ?h28 ?a29 ?h29 ?a30 ?h30 ?a31 ?h31 ?a32 ?h32 ?a33 ?h33 ?a34 ?h34 ?a35 ?h35 ?a36 ?h36 ?a37 ?h37 ?a38 ?h38 ?a39 ?h39 ?a40 ?h40 ?a41 ?h41 ?a42 ?h42 ?a43 ?h43 ?a44 ?h44 ?a45 ?h45 ?a46 ?h46 ?a47 ?h47 ?a48 ?h48 ?a49 ?h49 ?a50 ?h50 ?a51 ?l51 ?c51 ?k51 ?a52 ?n52 ?h52 ?a53 ?n53 ?h53 ?glob0 ?glob1 ?glob2 ?glob3 ?glob4 ?z0 ?z1 ?z2 ?z3 ?z4 ?z5 ?z6 ?z7 ?z8 ?z9 ?z10 ?z11 ?z12
  (case acRoad=>k_is)
  (case pgRoad=>k_is)
  (case hdRoad=>k_is)
  (case poRoad=>k_is)
  (case saRoad=>k_is)
  (case mkRoad=>k_is)
  (case kcRoad=>k_is)
  (case naRoad0=>k_is)
  (case naRoad1=>k_is)
  (case naRoad2=>k_is)
  (case naRoad3=>k_is)
  (case naRoad4=>k_is)
  (case a0=>k_is)
  (case h0=>and_intros)
  (case a1=>k_is)
  (case h1=>and_intros)
  (case a2=>k_is)
  (case h2=>and_intros)
  (case a3=>k_is)
  (case h3=>and_intros)
  (case a4=>k_is)
  (case h4=>and_intros)
  (case a5=>k_is)
  (case h5=>and_intros)
  (case a6=>k_is)
  (case h6=>and_intros)
  (case a7=>k_is)
  (case h7=>and_intros)
  (case a8=>k_is)
  (case h8=>and_intros)
  (case a9=>k_is)
  (case h9=>and_intros)
  (case a10=>k_is)
  (case h10=>and_intros)
  (case a11=>k_is)
  (case h11=>and_intros)
  (case a12=>k_is)
  (case h12=>and_intros)
  (case a13=>k_is)
  (case h13=>and_intros)
  (case a14=>k_is)
  (case h14=>and_intros)
  (case a15=>k_is)
  (case h15=>and_intros)
  (case a16=>k_is)
  (case h16=>and_intros)
  (case a17=>k_is)
  (case h17=>and_intros)
  (case a18=>k_is)
  (case h18=>and_intros)
  (case a19=>k_is)
  (case h19=>and_intros)
  (case a20=>k_is)
  (case h20=>and_intros)
  (case a21=>k_is)
  (case h21=>and_intros)
  (case a22=>k_is)
  (case h22=>and_intros)
  (case a23=>k_is)
  (case h23=>and_intros)
  (case a24=>k_is)
  (case h24=>and_intros)
  (case a25=>k_is)
  (case h25=>and_intros)
  (case a26=>k_is)
  (case h26=>and_intros)
  (case a27=>k_is)
  (case h27=>and_intros)
  (case a28=>k_is)
  (case h28=>and_intros)
  (case a29=>k_is)
  (case h29=>and_intros)
  (case a30=>k_is)
  (case h30=>and_intros)
  (case a31=>k_is)
  (case h31=>and_intros)
  (case a32=>k_is)
  (case h32=>and_intros)
  (case a33=>k_is)
  (case h33=>and_intros)
  (case a34=>k_is)
  (case h34=>and_intros)
  (case a35=>k_is)
  (case h35=>and_intros)
  (case a36=>k_is)
  (case h36=>and_intros)
  (case a37=>k_is)
  (case h37=>and_intros)
  (case a38=>k_is)
  (case h38=>and_intros)
  (case a39=>k_is)
  (case h39=>and_intros)
  (case a40=>k_is)
  (case h40=>and_intros)
  (case a41=>k_is)
  (case h41=>and_intros)
  (case a42=>k_is)
  (case h42=>and_intros)
  (case a43=>k_is)
  (case h43=>and_intros)
  (case a44=>k_is)
  (case h44=>and_intros)
  (case a45=>k_is)
  (case h45=>and_intros)
  (case a46=>k_is)
  (case h46=>and_intros)
  (case a47=>k_is)
  (case h47=>and_intros)
  (case a48=>k_is)
  (case h48=>and_intros)
  (case a49=>k_is)
  (case h49=>and_intros)
  (case a50=>k_is)
  (case h50=>and_intros)
  (case a51=>k_is)
  (case l51=>k_is)
  (case c51=>k_is)
  (case k51=>k_is)
  (case a52=>k_is)
  (case n52=>k_is)
  (case h52=>and_intros)
  (case a53=>k_is)
  (case n53=>k_is)
  (case h53=>and_intros)
  (case glob0=>k_is)
  (case glob1=>k_is)
  (case glob2=>k_is)
  (case glob3=>k_is)
  (case glob4=>k_is)
  (case z0=>k_is)
  (case z1=>k_is)
  (case z2=>k_is)
  (case z3=>k_is)
  (case z4=>k_is)
  (case z5=>k_is)
  (case z6=>k_is)
  (case z7=>k_is)
  (case z8=>k_is)
  (case z9=>k_is)
  (case z10=>k_is)
  (case z11=>k_is)
  (case z12=>k_is)
