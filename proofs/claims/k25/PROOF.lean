import PyProof.Rows.All
import Wide.All
import OpenK.AllK
import Wide.FinOn
import Lean
import PyProof.EqAt
import PyProof.EqKinds
import PyProof.TupleCall
import PyProof.NeKinds
import PyProof.IsiPairs
import PyProof.EnumMake
import PyProof.Draws
import PyProof.CompFree
import PyProof.CompUse
import PyProof.ConsumeWalk
import PyProof.NeData
import PyProof.P3In
import PyProof.Rows.ReprR
import PyProof.ZipIter
import PyProof.MinMaxWalk
import PyProof.Rows.TupAdd
import PyProof.ListMulRoad
import PyProof.FactsAll.tuple_2
import PyProof.Rows.FStr
import PyProof.StrCalls2
import PyProof.Rows.StrWeight2
import PyProof.Rows.StrSplitJoin
import PyProof.Rows.TupIter
import PyProof.Rows.SortStr
import KE.KSortTup
import PyProof.Rows.SortWalkRead
import PyProof.AttrMissSeq
import KE.KDictOf
import KE.KDictList
import KE.KDictSum
import PyProof.DictRoads
import PyProof.DictStraight
import PyProof.TupleOfSeq
import PyProof.DictTable
import PyProof.ListRange
import PyProof.TupleOfGen
import KE.KRevIter
import PySem.Challenge.RW_hearsaybook_k25_doings_told
set_option Elab.async false
set_option linter.all false
set_option maxRecDepth 100000
set_option maxHeartbeats 4000000
section
open PySem.Heap (get?_push_of_some lt_size get?_push_size get?_update_self size_push get?_push_ne size_update)
open List (length_map getElem?_set_ne getD_eq_getElem?_getD size_toArray length_append getElem?_append_left length_set length_cons mem_cons_of_mem getElem?_map mem_cons_self getElem?_eq_getElem getElem?_set_self getElem?_append_right not_mem_nil lookup_cons mem_cons length_range mem_append_right map_append map_cons getElem_mem length_nil replicate_succ all_cons getElem_range append_nil mem_of_getElem? getElem?_replicate zip_cons_cons map_map length_replicate flatten_cons map_congr_left forIn_cons append_assoc reverse_cons length_take length_drop all_eq_true any_eq_true drop_length of_mem_zip nil_append forIn_nil zip_nil_left all_map map_nil set_set zip_map)
open Nat (le_refl ne_of_lt lt_of_lt_of_le zero_le le_trans le_of_lt lt_irrefl le_succ ne_of_gt le_add_right not_lt_zero sub_self blt_eq zero_add)
open Int (toNat_natCast)
namespace L2
open PySem PySem.Spec PyProof.Rows
abbrev Key:=Sum Int Str
def ZJt:Key->Value->Bool
 |.inl k,v=>Value.isInt k v
 |.inr x,v=>Value.isStrOf x v
def keyH(w:World):Key->Int
 |.inl k=>hashInt k
 |.inr x=>hashStr w x
theorem ZX:∀{k:Key} {v:Value},ZJt k v=true->(∃i t,k=Sum.inl i/\v=Value.int i t)∨(∃x t,k=Sum.inr x/\v=Value.str x t)
 |.inl i,v,h=>by
  obtain⟨t,e⟩:=Value.isInt_shape (k:=i) (v:=v) h;exact .inl ⟨i,t,rfl,e⟩
 |.inr x,v,h=>by
  obtain⟨t,e⟩:=Value.isStrOf_shape (x:=x) (v:=v) h;exact .inr ⟨x,t,rfl,e⟩
theorem ZKc(a b:Int):decide ((Sum.inl a:Key)=Sum.inl b)=(a == b):=by
 by_cases e:a=b
 ·subst e;simp
 ·have h : ¬(Sum.inl a:Key)=Sum.inl b:=λq=>e (Sum.inl.inj q)
  rw[decide_eq_false h];exact(beq_eq_false_iff_ne.mpr e).symm
theorem ZLL(a b:Str):decide ((Sum.inr a:Key)=Sum.inr b)=decide (a=b):=by
 by_cases e:a=b
 ·subst e;simp
 ·have h : ¬(Sum.inr a:Key)=Sum.inr b:=λq=>e (Sum.inr.inj q)
  rw[decide_eq_false h,decide_eq_false e]
theorem ZLU(a:Int)(b:Str):decide ((Sum.inl a:Key)=Sum.inr b)=false:=decide_eq_false (λq=>nomatch q)
theorem ZKl(a:Str)(b:Int):decide ((Sum.inr a:Key)=Sum.inl b)=false:=decide_eq_false (λq=>nomatch q)
def ZF0(prog:Program)(w:World):PySem.KeyKind prog w Key where
 is:=ZJt
 hash:=keyH w
 inj:=λv a b ha hb=>by
  rcases ZX ha with ⟨i,t,rfl,rfl⟩|⟨x,t,rfl,rfl⟩
  ·rcases ZX hb with ⟨j,u,rfl,e⟩|⟨y,u,rfl,e⟩
   ·injection e with e1 _;rw[e1]
   ·exact nomatch e
  ·rcases ZX hb with ⟨j,u,rfl,e⟩|⟨y,u,rfl,e⟩
   ·exact nomatch e
   ·injection e with e1 _;rw[e1]
 byValue:=λk v h=>by
  rcases ZX h with ⟨i,t,rfl,rfl⟩|⟨x,t,rfl,rfl⟩ <;> rfl
 pyHash:=λhv h=>by
  rcases ZX hv with ⟨i,t,rfl,rfl⟩|⟨x,t,rfl,rfl⟩
  ·exact wpAny_pyHash_int h
  ·exact wpAny_pyHash_str h
 eqBool:=λhu hv h=>by
  rcases ZX hu with ⟨i,t,rfl,rfl⟩|⟨x,t,rfl,rfl⟩
  ·rcases ZX hv with ⟨j,u,rfl,rfl⟩|⟨y,u,rfl,rfl⟩
   ·rw[ZKc] at h;exact wpAny_eqBool_int h
   ·rw[ZLU] at h;exact SeqAt.EqAt.int_str i t y u _ _ _ _ h
  ·rcases ZX hv with ⟨j,u,rfl,rfl⟩|⟨y,u,rfl,rfl⟩
   ·rw[ZKl] at h;exact SeqAt.EqAt.str_int x t j u _ _ _ _ h
   ·rw[ZLL] at h;exact wpAny_eqBool_str h
 «strs»:=λk x t v h=>by
  rcases ZX h with ⟨i,u,rfl,e⟩|⟨y,u,rfl,e⟩
  ·exact nomatch e
  ·injection e with e1 _
   subst e1;cases v <;> rfl
inductive V where
 |non|bl (b:Bool)|int (i:Int)|str (x:Str)|byt (b:Array UInt8)|flt (b:UInt64)|ref (a:Addr)|ty (n:String)
 deriving DecidableEq
def ZV:V->Value->Prop
 |.non,u=>u=Value.none
 |.bl b,u=>u=Value.bool b
 |.int i,u=>∃t,u=Value.int i t
 |.str x,u=>∃t,u=Value.str x t
 |.byt b,u=>∃t,u=Value.bytes b t
 |.flt b,u=>∃t,u=Value.float b t
 |.ref a,u=>u=Value.ref a
 |.ty n,u=>u=Value.type n
abbrev ZK:List V->List Value->Prop:=Paired ZV
theorem ZK.length{xs:List V}{us:List Value}(r:ZK xs us):xs.length=us.length:=Paired.length r
theorem ZK.get:∀{xs:List V} {us:List Value} {i:Nat} {x:V},ZK xs us->xs[i]? = some x->∃u,us[i]? = some u/\ZV x u
 |_,_,_,_,.nil,e=>by simp at e
 |_,_,0,_,.cons r _,e=>by simp at e;subst e;exact⟨_,rfl,r⟩
 |_,_,i+1,x,.cons _ t,e=>by
  obtain⟨u,h1,h2⟩:=ZK.get (i:=i) (x:=x) t (by simpa using e);exact⟨u,by simpa using h1,h2⟩
theorem ZK.set{x:V}{u:Value}(r:ZV x u):∀{xs:List V} {us:List Value} (i:Nat),ZK xs us->ZK (xs.set i x) (us.set i u)
 |_,_,_,.nil=>.nil
 |_,_,0,.cons _ t=>.cons r t
 |_,_,i+1,.cons q t=>.cons q (ZK.set r i t)
theorem ZK.append:∀{xs ys:List V} {us ws:List Value},ZK xs us->ZK ys ws->ZK (xs++ys) (us++ws)
 |_,_,_,_,.nil,s=>s
 |_,_,_,_,.cons r t,s=>.cons r (ZK.append t s)
theorem ZK.take:∀{xs:List V} {us:List Value} (n:Nat),ZK xs us->ZK (xs.take n) (us.take n)
 |_,_,0,_=>.nil
 |_,_,_+1,.nil=>.nil
 |_,_,n+1,.cons r t=>.cons r (ZK.take n t)
theorem ZK.drop:∀{xs:List V} {us:List Value} (n:Nat),ZK xs us->ZK (xs.drop n) (us.drop n)
 |_,_,0,r=>r
 |_,_,_+1,.nil=>.nil
 |_,_,n+1,.cons _ t=>ZK.drop n t
def ZLy:Option V->Option Value->Prop
 |some v,some u=>ZV v u
 |none,none=>True
 |_,_=>False
def KV{κ : Type}:List (κ×V)->List (κ×Value)->Prop:=Paired λ(p : κ×V) (q : κ×Value)=>p.1=q.1/\ZV p.2 q.2
def kV:Key->V
 |.inl i=>.int i
 |.inr x=>.str x
inductive HO where
 /-- a list -/
 |lst (xs:List V)
 /-- a tuple (never changes) -/
 |tup (xs:List V)
 /-- a dict whose keys are ints and texts;one whose keys are tuples of ints and texts (the empty one is both) -/
 |dK (kvs:List (Key×V))|dT (kvs:List (List Key×V))
 /-- a set of ints: its members,its size -/
 |set (S:Int->Bool) (n:Nat)
 /-- an instance of the class at C,its dict at dx,its attributes -/
 |ins (C dx:Addr) (fs:List (Str×V))
 /-- the dict of the instance at x -/
 |own (x:Addr)
 /-- the dict of an exception -/
 |xd (fs:List (Str×V))
 /-- a bound method,f of x -/
 |met (f x:Addr)
 /-- a range object lo,lo+1,.. below hi -/
 |rng (lo hi:Int)
 /-- a thing that is known to the object (the script;a dict while a loop walks it): read,never written while it is so -/
 |frz (o:Obj) (u:HO)
 /-- a code object's table -/
 |tbl (ps:Array Value)
 /-- any other thing,by what is true of its one object (a def of one's own: SetO a S n:=HO.ext λh=>..) -/
 |ext (φ : Heap->Prop)
abbrev Hp:=Addr->Option HO
def upd(H:Hp)(a:Addr)(o:HO):Hp:=λb=>if b=a then some o else H b
theorem ZI{H:Hp}{a:Addr}{o:HO}:upd H a o a=some o:=by unfold upd;rw[if_pos rfl]
theorem ZE{H:Hp}{a b:Addr}{o:HO}(h:b≠a):upd H a o b=H b:=by unfold upd;rw[if_neg h]
theorem ZH{H:Hp}{a b:Addr}{o:HO}(h:H a=some o)(h':H b=none):a≠b:=by
 intro e;subst e;rw[h] at h';cases h'
section
variable(P:Program)(w:World)
def Z8(H:Hp)(h:Heap)(a:Addr):HO->Prop
 |.lst xs=>xs.length<=sizeLine/\∃(its:List Value) (n:Nat),ZK xs its/\h.get? a=some { cls:=.type "list",data:=.seq its.toArray n }
 |.tup xs=>xs.length<=sizeLine/\∃its:List Value,ZK xs its/\IsTup h a its.toArray
 |.dK kvs=>kvs.length<=sizeLine/\(a == sysModules)=false/\∃vs,KV kvs vs/\h.DictOf (ZF0 P w) a vs
 |.dT kvs=>kvs.length<=sizeLine/\(a == sysModules)=false/\∃xs:List (List Key×Addr×Value),
   Paired (λ(p:List Key×V) (q:List Key×Addr×Value)=>p.1=q.1/\H q.2.1=some (.tup (p.1.map kV))/\ZV p.2 q.2.2) kvs xs /\
   ∃o es ep,h.get? a=some o/\o.ExactDict/\o.data=.dict es ep/\es.toList=xs.map (entryOfKey (tupleKind (ZF0 P w)))/\(xs.map (·.1)).Nodup
 |.set S n=>h.SetOf (intKind P w) a S n
 |.ins C dx fs=>H dx=some (.own a)/\fs.length<=1000/\dx≠a/\h.get? a=some (PySem.W.instObj C dx) /\
   ∃mA,h.Ns1 dx mA/\(∀f,ZLy (fs.lookup f) (mA f))/\PySem.Within mA (fs.map (·.1))
 |.own _=>∃o,h.get? a=some o
 |.xd fs=>∃mA,h.Ns1 a mA/\∀f,ZLy (fs.lookup f) (mA f)
 |.rng lo hi=>∃t u v,h.get? a=some { cls:=.type "range",data:=.fields #[.int lo t,.int hi u,.int 1 v] }
 |.frz o u=>h.get? a=some o/\Z8 H h a u
 |.tbl ps=>h.get? a=some { cls:=.none,data:=.fields ps }
 |.met f x=>h.get? a=some (PySem.W.methodObj (.ref f) (.ref x))
 |.ext φ=>φ h/\(∃o,h.get? a=some o)/\∀h1 h2:Heap,φ h1->(∀o,h1.get? a=some o->h2.get? a=some o)->φ h2
def HOk(H:Hp)(h:Heap):Prop:=∀a o,H a=some o->Z8 P w H h a o
end
section
variable{P:Program}{w:World}{H H':Hp}{h h':Heap}{a:Addr}{o:HO}
theorem Z8.lt(x:Z8 P w H h a o):a<h.objs.size:=by
 cases o with
 |lst xs=>obtain⟨_,_,_,_,e⟩:=x;exact lt_size e
 |tup xs=>obtain⟨_,_,_,p⟩:=x;exact p.lt
 |dK kvs=>obtain⟨_,_,_,_,o,_,_,e,_⟩:=x;exact lt_size e
 |dT kvs=>obtain⟨_,_,_,_,o,_,_,e,_⟩:=x;exact lt_size e
 |set S n=>obtain⟨o,_,_,_,e,_⟩:=x;exact lt_size e
 |ins C dx fs=>obtain⟨_,_,_,e,_⟩:=x;exact lt_size e
 |own y=>obtain⟨_,e⟩:=x;exact lt_size e
 |xd fs=>obtain⟨_,⟨_,_,_,e,_⟩,_⟩:=x;exact lt_size e
 |rng lo hi=>obtain⟨_,_,_,e⟩:=x;exact lt_size e
 |frz ob u=>obtain⟨e,_⟩:=x;exact lt_size e
 |tbl ps=>exact lt_size (show h.get? a=some _ from x)
 |met f y=>exact lt_size (show h.get? a=some _ from x)
 |ext φ=>obtain⟨_,⟨_,e⟩,_⟩:=x;exact lt_size e
theorem Paired.mapP{α β : Type}{F G : α->β->Prop}:∀{l₁ : List α} {l₂ : List β},Paired F l₁ l₂->(∀a b,F a b->G a b)->Paired G l₁ l₂
 |_,_,.nil,_=>.nil
 |_,_,.cons r t,f=>.cons (f _ _ r) (Paired.mapP t f)
theorem Z8.stay(x:Z8 P w H h a o)(k:∀b u,(b=a∨H b=some (.own a))->h.get? b=some u->h'.get? b=some u)
  (ho:∀b,H b=some (.own a)->H' b=some (.own a))(ht:∀b xs,H b=some (.tup xs)->H' b=some (.tup xs)):Z8 P w H' h' a o:=by
 induction o with
 |lst xs=>obtain⟨z,its,n,r,e⟩:=x;exact⟨z,its,n,r,k _ _ (.inl rfl) e⟩
 |tup xs=>obtain⟨z,its,r,ob,e,c⟩:=x;exact⟨z,its,r,ob,k _ _ (.inl rfl) e,c⟩
 |dK kvs=>obtain⟨z,y,vs,r,ob,es,ep,e,c⟩:=x;exact⟨z,y,vs,r,ob,es,ep,k _ _ (.inl rfl) e,c⟩
 |dT kvs =>
  obtain⟨z,y,xs,r,ob,es,ep,e,c⟩:=x;exact⟨z,y,xs,Paired.mapP r λp q z=>⟨z.1,ht _ _ z.2.1,z.2.2⟩,ob,es,ep,k _ _ (.inl rfl) e,c⟩
 |set S n=>obtain⟨ob,es,ep,t,e,c⟩:=x;exact⟨ob,es,ep,t,k _ _ (.inl rfl) e,c⟩
 |ins C dx fs =>
  obtain⟨d,z,ne,e,mA,⟨od,es,ep,e2,c⟩,r⟩:=x;exact⟨ho _ d,z,ne,k _ _ (.inl rfl) e,mA,⟨od,es,ep,k _ _ (.inr d) e2,c⟩,r⟩
 |own y=>obtain⟨ob,e⟩:=x;exact⟨ob,k _ _ (.inl rfl) e⟩
 |xd fs=>obtain⟨mA,⟨od,es,ep,e,c⟩,r⟩:=x;exact⟨mA,⟨od,es,ep,k _ _ (.inl rfl) e,c⟩,r⟩
 |rng lo hi=>obtain⟨t,u,v,e⟩:=x;exact⟨t,u,v,k _ _ (.inl rfl) e⟩
 |frz ob u ih=>obtain⟨e,q⟩:=x;exact⟨k _ _ (.inl rfl) e,ih q⟩
 |tbl ps =>
  have e:h.get? a=some { cls:=.none,data:=.fields ps }:=x;show h'.get? a=some { cls:=.none,data:=.fields ps };exact k a _ (.inl rfl) e
 |met f y =>
  have e:h.get? a=some (PySem.W.methodObj (.ref f) (.ref y)):=x;show h'.get? a=some (PySem.W.methodObj (.ref f) (.ref y));exact k a _ (.inl rfl) e
 |ext φ=>obtain⟨p,⟨o,e⟩,st⟩:=x;exact⟨st _ _ p λo q=>k _ _ (.inl rfl) q,⟨o,k _ _ (.inl rfl) e⟩,st⟩
theorem HOk.lt(x:HOk P w H h)(e:H a=some o):a<h.objs.size:=(x a o e).lt
theorem HOk.fresh(x:HOk P w H h)(e:h.objs.size<=a):H a=none:=by
 cases q:H a with
 |none=>rfl
 |some u=>exact absurd (lt_of_lt_of_le (x.lt q) e) (lt_irrefl _)
theorem HOk.kept(x:HOk P w H h)(k:∀b u,h.get? b=some u->h'.get? b=some u):HOk P w H h':=λa o e =>
 (x a o e).stay (λb u _ q=>k b u q) (λ_ q=>q) λ_ _ q=>q
theorem HOk.laid(x:HOk P w H h)(k:∀b u,h.get? b=some u->h'.get? b=some u)(hp:h.objs.size<=a)(new:Z8 P w (upd H a o) h' a o):HOk P w (upd H a o) h':=λb u e=>by
 have hn:=x.fresh hp
 by_cases hb:b=a
 ·subst hb;rw[ZI] at e;cases e;exact new
 ·rw[ZE hb] at e
  exact(x b u e).stay (λc v _ q=>k c v q) (λc q=>by rw[ZE (ZH q hn)];exact q) λc xs q=>by rw[ZE (ZH q hn)];exact q
end
def Rd(H:Hp)(a:Addr)(u:HO):Prop:=H a=some u∨∃o,H a=some (.frz o u)
theorem Rd.ok{P:Program}{w:World}{H:Hp}{h:Heap}{a:Addr}{u:HO}(r:Rd H a u)(x:HOk P w H h):Z8 P w H h a u:=by
 rcases r with r|⟨o,r⟩
 ·exact x a u r
 ·obtain⟨_,q⟩:=x a _ r
  exact q
def Mut:Option HO->Prop
 |some (.lst _)=>True
 |some (.dK _)=>True
 |some (.dT _)=>True
 |some (.set _ _)=>True
 |some (.ins _ _ _)=>True
 |some (.ext _)=>True
 |_=>False
section
variable{P:Program}{w:World}{H:Hp}{h h':Heap}{x e:Addr}{o':HO}
theorem HOk.write(ok:HOk P w H h)(mu:Mut (H x))(he:e=x∨H e=some (.own x))(k:∀b u,b≠e->h.get? b=some u->h'.get? b=some u)(heo:∃u,h'.get? e=some u)
  (new:Z8 P w (upd H x o') h' x o'):HOk P w (upd H x o') h':=λb u q=>by
 have nown:∀c y,H c=some (.own y)->c≠x:=λc y r z=>by subst z;rw[r] at mu;exact mu
 have ntup:∀c xs,H c=some (.tup xs)->c≠x:=λc xs r z=>by subst z;rw[r] at mu;exact mu
 by_cases hb:b=x
 ·subst hb;rw[ZI] at q;cases q;exact new
 ·rw[ZE hb] at q
  by_cases hbe:b=e
  ·have q':H b=some (.own x):=by
    rcases he with z|z
    ·exact absurd (hbe.trans z) hb
    ·rw[hbe];exact z
   rw[q] at q';cases q';obtain⟨v,hv⟩:=heo;exact⟨v,by rw[hbe];exact hv⟩
  ·refine(ok b u q).stay (λc v hc r=>k c v ?_ r) (λc r=>by rw[ZE (nown c b r)];exact r) λc xs r=>by rw[ZE (ntup c xs r)];exact r
   rcases hc with rfl|hc
   ·exact hbe
   ·rintro rfl
    rcases he with z|z
    ·exact nown c b hc z
    ·rw[hc] at z;cases z;exact hb rfl
end
structure Un (fs ex:List Addr) (H H':Hp) (h h':Heap):Prop where
 keep:∀b o,h.get? b=some o->H b=none->b∉fs->b∉ex->h'.get? b=some o
 slot:∀b o,h.get? b=some o->H b=none->b∈fs->b∉ex->∃sl,h'.get? b=some { o with slots:=sl }
 free:∀b o,h.get? b=some o->H b=none->b∉ex->H' b=none
 there:∀b o,h.get? b=some o->b∉ex->∃o',h'.get? b=some o'
 tups:∀b xs,H b=some (.tup xs)->H' b=some (.tup xs)
 frzs:∀b o u,H b=some (.frz o u)->H' b=some (.frz o u)
 tbls:∀b ps,H b=some (.tbl ps)->∃more,H' b=some (.tbl (ps++more))
section
variable{fs fs' ex ex':List Addr}{H H1 H2:Hp}{h h1 h2 h':Heap}{a x e:Addr}{o:HO}
theorem Un.any(u:Un fs ex H H1 h h1){b:Addr}{ob:Obj}(q:h.get? b=some ob)(n:H b=none)(hx:b∉ex):∃sl,h1.get? b=some { ob with slots:=sl }:=by
 by_cases hb:b∈fs
 ·exact u.slot b ob q n hb hx
 ·exact⟨ob.slots,u.keep b ob q n hb hx⟩
theorem Un.kept(k:∀b u,h.get? b=some u->h'.get? b=some u):Un fs ex H H h h' :=
 ⟨λb ob q _ _ _=>k b ob q,λb ob q _ _ _=>⟨ob.slots,k b ob q⟩,λ_ _ _ n _=>n,λb ob q _=>⟨ob,k b ob q⟩,λ_ _ q=>q,λ_ _ _ q=>q,λ_ ps q=>⟨#[],by rw[q];simp⟩⟩
theorem Un.refl:Un fs ex H H h h:=Un.kept λ_ _ q=>q
theorem Un.laid(k:∀b u,h.get? b=some u->h'.get? b=some u)(hp:h.objs.size<=a)(hn:H a=none):Un fs ex H (upd H a o) h h' where
 keep:=λb u q _ _ _=>k b u q
 slot:=λb u q _ _ _=>⟨u.slots,k b u q⟩
 free:=λb u q n _=>by rw[ZE (ne_of_lt (lt_of_lt_of_le (lt_size q) hp))];exact n
 there:=λb u q _=>⟨u,k b u q⟩
 tups:=λb xs q=>by rw[ZE (ZH q hn)];exact q
 frzs:=λb u xs q=>by rw[ZE (ZH q hn)];exact q
 tbls:=λb ps q=>⟨#[],by rw[ZE (ZH q hn),q];simp⟩
theorem Un.write(mu:Mut (H x))(he:e=x∨H e=some (.own x))(k:∀b u,b≠e->h.get? b=some u->h'.get? b=some u)(heo:∃u,h'.get? e=some u):Un fs ex H (upd H x o) h h':=by
 have hx:∀b,H b=none->b≠x:=λb n z=>by subst z;rw[n] at mu;exact mu
 have hb:∀b,H b=none->b≠e:=λb n z=>by
  subst z;rcases he with r|r
  ·exact hx b n r
  ·rw[n] at r;cases r
 have hm:∀b u,H b=some u->¬Mut (some u)->b≠x:=λb u q nm z=>by subst z;rw[q] at mu;exact nm mu
 refine⟨λb u q n _ _=>k b u (hb b n) q,λb u q n _ _=>⟨u.slots,k b u (hb b n) q⟩,λb u q n _=>by rw[ZE (hx b n)];exact n,λb u q _=>?_,
  λb xs q=>by rw[ZE (hm b _ q λz=>z)];exact q,λb u xs q=>by rw[ZE (hm b _ q λz=>z)];exact q,λb ps q=>⟨#[],by rw[ZE (hm b _ q λz=>z),q];simp⟩⟩
 by_cases hbe:b=e
 ·subst hbe;exact heo
 ·exact⟨u,k b u hbe q⟩
end
def trk(h:Heap)(H:Hp):List Addr:=(List.range h.objs.size).filter λa=>(H a).isSome
def ZEJ(h:Heap)(H:Hp):Heap:=PySem.W.hideAll h (trk h H)
theorem ZGh(h:Heap)(H:Hp):(ZEJ h H).objs.size=h.objs.size:=PySem.W.hideAll_size _ _
theorem ZHR{h:Heap}{H:Hp}{b:Addr}{o:Obj}(e:h.get? b=some o)(n:H b=none):(ZEJ h H).get? b=some o :=
 PySem.W.hideAll_get _ e λhm=>by
  have q:(H b).isSome=true:=(List.mem_filter.mp hm).2;rw[n] at q;simp at q
theorem ZJk{h:Heap}{H:Hp}{b:Addr}{o:Obj}(e:(ZEJ h H).get? b=some o):h.get? b=some o/\H b=none:=by
 have e':h.get? b=some o:=PySem.W.of_hideAll (trk h H) e;refine⟨e',?_⟩;cases q:H b with
 |none=>rfl
 |some x =>
  have hm:b∈trk h H:=List.mem_filter.mpr ⟨List.mem_range.mpr (lt_size e'),by simp[q]⟩;have z:(ZEJ h H).get? b=none:=PySem.W.hideAll_none (trk h H) hm;rw[z] at e;cases e
structure Mod (K:PySem.W.Frag) (mg:Str->Option Value) (base:Heap):Prop where
 kin:K.In base
 glob:base.Ns mainGlobals mg
 blt:∃mb,base.Ns builtinsNs mb/\∀x:Str,x≠"__name__"->mb x=bootBuiltins x
 nolimit:base.NoLimit
structure Cx where
 prog:Program
 w:World
 K:PySem.W.Frag
 mg:Str->Option Value
 base:Heap
 A:Around
 N:List Str
 s₀ : Shared
 H₀ : Hp
 env:Env
 outer:List Env
 stack:List Env
 ex:List Addr
 fn:Str->Bool
 calm:Bool
 pn:List (Addr×Obj)
 xe:Value->Shared->Prop
def frs(l:List Env):List Addr:=l.filterMap (·.frame)
abbrev Cx.fs(X:Cx):List Addr:=frs X.outer
def Vis(sc:Scope)(x:Str):Prop:=sc.names.lookup x=some .local∨sc.names.lookup x=some .cell∨sc.names.lookup x=some .free
def Loc(sc:Scope)(x:Str):Prop:=sc.names.lookup x=some .local∨sc.names.lookup x=some .cell
def Look(env:Env)(h:Heap)(m:Str->Option Value)(x:Str)(u:Value):Prop :=
 (env.kindOf x=some .local/\m x=some u)∨((env.kindOf x=some .cell∨env.kindOf x=some .free)/\∃c,env.cells.lookup x=some c/\h.IsCell c (some u))
structure Cx.Ok (X:Cx):Prop where
 mod:Mod X.K X.mg X.base
 kind:X.env.scope.kind=.function
 glob:X.env.globals=mainGlobals
 blt:X.env.builtins=builtinsNs
 above:X.s₀.heap.objs.size<=X.env.locals
 inj:∀x y c,X.env.cells.lookup x=some c->X.env.cells.lookup y=some c->x=y
 has:∀x,(X.env.kindOf x=some .cell∨X.env.kindOf x=some .free)->∃c,X.env.cells.lookup x=some c
 cab:∀x c,X.fn x=true->X.env.cells.lookup x=some c->X.s₀.heap.objs.size<=c
 hd:X.calm=true->X.A.handled=none
 frames:X.A.frames=some X.stack
 stk:X.stack=X.outer∨(X.stack=X.env::X.outer/\X.env.frame=some X.env.locals)
 exf:∀b∈X.ex,b≠X.env.locals/\∀x c,X.env.cells.lookup x=some c->c≠b
 bs:∀b o,X.base.get? b=some o->X.s₀.heap.get? b=some o/\X.H₀ b=none
 bsz:X.base.objs.size<=X.s₀.heap.objs.size
 noex:∀b o,X.base.get? b=some o->b∉X.ex
 exfs:∀b∈X.ex,b∉X.fs
 funs:X.s₀.heap.FunFrames X.base X.outer
 frf:∀b∈X.fs,X.H₀ b=none
structure Inv (X:Cx) (pins:List (Addr×Obj)) (σ : List (Option V)) (H:Hp) (s:Shared):Prop where
 ok:X.Ok
 os:s.os=X.s₀.os
 bare:AllBare s.gens
 base:Un X.fs X.ex X.H₀ H X.s₀.heap s.heap
 loc:∃m,s.heap.Ns X.env.locals m/\∀(i:Nat) (x:Str) (v:V),X.N[i]? = some x->σ[i]? = some (some v)->Vis X.env.scope x->∃u,ZV v u/\Look X.env s.heap m x u
 cell:∀x c,X.env.cells.lookup x=some c->∃v,s.heap.IsCell c v
 free:H X.env.locals=none
 freeC:∀x c,X.env.cells.lookup x=some c->H c=none
 pin:∀p∈X.pn++pins,s.heap.get? p.1=some p.2/\H p.1=none/\p.1≠X.env.locals/\p.1∉X.fs/\∀v,p.2.data≠.cell v
 hok:HOk X.prog X.w H s.heap
 len : σ.length=X.N.length
section
variable{X:Cx}{pins:List (Addr×Obj)}{σ : List (Option V)}{H H':Hp}{s:Shared}{h':Heap}
theorem Cx.Ok.nofr(ok:X.Ok){b:Addr}{o:Obj}(e:X.base.get? b=some o):b∉X.fs:=λhb=>by
 have:=(ok.funs.mem hb).1;rw[e] at this;cases this
theorem Inv.bs(I:Inv X pins σ H s):∀b o,X.base.get? b=some o->s.heap.get? b=some o/\H b=none:=λb o e =>
 ⟨I.base.keep b o (I.ok.bs b o e).1 (I.ok.bs b o e).2 (I.ok.nofr e) (I.ok.noex b o e),I.base.free b o (I.ok.bs b o e).1 (I.ok.bs b o e).2 (I.ok.noex b o e)⟩
theorem Inv.bk(I:Inv X pins σ H s):∀b o,X.base.get? b=some o->s.heap.get? b=some o:=λb o e=>(I.bs b o e).1
theorem Inv.mod(I:Inv X pins σ H s):Mod X.K X.mg X.base:=I.ok.mod
theorem Inv.kIn(I:Inv X pins σ H s):X.K.In s.heap:=I.ok.mod.kin.keeps I.bk
theorem Inv.lt(I:Inv X pins σ H s):X.env.locals<s.heap.objs.size:=let ⟨_,hn,_⟩:=I.loc;hn.lt
theorem Inv.sz(I:Inv X pins σ H s):X.s₀.heap.objs.size<=s.heap.objs.size:=le_trans I.ok.above (le_of_lt I.lt)
theorem Inv.nofs(I:Inv X pins σ H s){a:Addr}(h:s.heap.objs.size<=a):a∉X.fs:=λhb=>by
 obtain⟨_,o,ho,_⟩:=I.ok.funs.mem hb;exact absurd (lt_of_lt_of_le (lt_size ho) (le_trans I.sz h)) (lt_irrefl _)
theorem Inv.cne(I:Inv X pins σ H s):∀x c,X.env.cells.lookup x=some c->c≠X.env.locals:=λx c e z=>by
 obtain⟨v,o,ho,hd⟩:=I.cell x c e;obtain⟨m,⟨o',es,ep,ho',hd',_⟩,_⟩:=I.loc;rw[z,ho'] at ho;cases ho;rw[hd'] at hd;cases hd
theorem Inv.funs(I:Inv X pins σ H s):s.heap.FunFrames X.base X.outer:=by
 have all:∀(l:List Env),(∀b∈frs l,b∈X.fs)->X.s₀.heap.FunFrames X.base l->s.heap.FunFrames X.base l:=by
  intro l
  induction l with
  |nil=>intro _ _;trivial
  |cons env r ih =>
   intro hs hl;obtain⟨hk,⟨L,o,hf,hn,ho,hd⟩,hr⟩:=hl;have hL:L∈X.fs:=hs L (by unfold frs;rw[List.filterMap_cons,hf];exact mem_cons_self);obtain⟨sl,e⟩:=I.base.slot L o ho (I.ok.frf L hL) hL λz=>I.ok.exfs L z hL
   exact⟨hk,⟨L,_,hf,hn,e,hd⟩,ih (λb hb=>hs b (by unfold frs;rw[List.filterMap_cons,hf];exact mem_cons_of_mem _ hb)) hr⟩
 exact all X.outer (λ_ hb=>hb) I.ok.funs
theorem Inv.stack(I:Inv X pins σ H s):s.heap.FunFrames X.base X.stack:=by
 rcases I.ok.stk with e|⟨e,hf⟩
 ·rw[e];exact I.funs
 ·rw[e]
  obtain⟨m,hn,_⟩:=I.loc;refine .cons (by rw[I.ok.kind];decide) hf hn ?_ I.funs;exact Heap.get?_none_of_le (le_trans I.ok.bsz I.ok.above)
theorem Inv.stkSub(I:Inv X pins σ H s):∀b∈frs X.stack,b∈X.env.locals::X.fs:=λb hb=>by
 rcases I.ok.stk with e|⟨e,hf⟩
 ·rw[e] at hb;exact mem_cons_of_mem _ hb
 ·rw[e] at hb
  unfold frs at hb;rw[List.filterMap_cons,hf] at hb;exact hb
theorem Inv.stkFree(I:Inv X pins σ H s):∀b∈frs X.stack,H b=none:=λb hb=>by
 rcases List.mem_cons.mp (I.stkSub b hb) with e|hb
 ·rw[e];exact I.free
 ·obtain⟨_,o,ho,_⟩:=I.ok.funs.mem hb
  exact I.base.free b o ho (I.ok.frf b hb) λz=>I.ok.exfs b z hb
theorem Inv.step{g':Array GenState}{t':Nat}{d':Drawn}{ch:List Addr}(I:Inv X pins σ H s)
  (hch:∀b∈ch,(b∈X.ex∨X.s₀.heap.objs.size<=b)/\b≠X.env.locals/\(∀x c,X.env.cells.lookup x=some c->c≠b)/\∀p∈X.pn++pins,p.1≠b)
  (keep:∀b o,b≠X.env.locals->b∉X.fs->b∉ch->s.heap.get? b=some o->H b=none->h'.get? b=some o)
  (slot:∀b o,b≠X.env.locals->b∈X.fs->b∉ch->s.heap.get? b=some o->H b=none->∃sl,h'.get? b=some { o with slots:=sl })(free:∀b o,b∉ch->s.heap.get? b=some o->H b=none->H' b=none)
  (there:∀b o,b∉ch->s.heap.get? b=some o->∃o',h'.get? b=some o')
  (tups:∀b xs,H b=some (.tup xs)->H' b=some (.tup xs))(frzs:∀b o u,H b=some (.frz o u)->H' b=some (.frz o u))(tbls:∀b ps,H b=some (.tbl ps)->∃more,H' b=some (.tbl (ps++more)))
  (ns:∀m,s.heap.Ns X.env.locals m->h'.Ns X.env.locals m)(hok:HOk X.prog X.w H' h')(hg:AllBare g') :
  Inv X pins σ H' { s with heap:=h',gens:=g',drawn:=d',toks:=t' }:=by
 have neL:∀b o,X.s₀.heap.get? b=some o->b≠X.env.locals:=λb o e=>ne_of_lt (lt_of_lt_of_le (lt_size e) I.ok.above)
 have neC:∀b o,X.s₀.heap.get? b=some o->b∉X.ex->b∉ch:=λb o e hx hb=>by
  rcases(hch b hb).1 with z|z
  ·exact hx z
  ·exact absurd (lt_of_lt_of_le (lt_size e) z) (lt_irrefl _)
 have cellK:∀x c,X.env.cells.lookup x=some c->∀v,s.heap.IsCell c v->h'.IsCell c v:=λx c e v ⟨o,ho,hd⟩=>by
  have nch:c∉ch:=λz=>(hch c z).2.2.1 x c e rfl
  by_cases hc:c∈X.fs
  ·obtain⟨sl,q⟩:=slot c o (I.cne x c e) hc nch ho (I.freeC x c e)
   exact⟨_,q,hd⟩
  ·exact⟨o,keep c o (I.cne x c e) hc nch ho (I.freeC x c e),hd⟩
 refine⟨I.ok,I.os,hg,⟨λb o e n hb hx=>?_,λb o e n hb hx=>?_,λb o e n hx=>?_,λb o e hx=>?_,λb xs e=>tups b xs (I.base.tups b xs e),λb o xs e=>frzs b o xs (I.base.frzs b o xs e),λb ps e=>?_⟩,?_,λx c e=>?_,?_,λx c e=>?_,λp hp=>?_,hok,I.len⟩
 ·exact keep b o (neL b o e) hb (neC b o e hx) (I.base.keep b o e n hb hx) (I.base.free b o e n hx)
 ·obtain⟨sl,e1⟩:=I.base.slot b o e n hb hx
  obtain⟨sl',e2⟩:=slot b _ (neL b o e) hb (neC b o e hx) e1 (I.base.free b o e n hx);exact⟨sl',e2⟩
 ·obtain⟨o',e1⟩:=I.base.there b o e hx
  exact free b o' (neC b o e hx) e1 (I.base.free b o e n hx)
 ·obtain⟨o',e1⟩:=I.base.there b o e hx
  exact there b o' (neC b o e hx) e1
 ·obtain⟨m1,e1⟩:=I.base.tbls b ps e
  obtain⟨m2,e2⟩:=tbls b _ e1;exact⟨m1++m2,by rw[e2,Array.append_assoc]⟩
 ·obtain⟨m,hn,hl⟩:=I.loc
  refine⟨m,ns m hn,λi x v e1 e2 e3=>?_⟩;obtain⟨u,r,l⟩:=hl i x v e1 e2 e3;refine⟨u,r,?_⟩;rcases l with l|⟨k,c,e,z⟩
  ·exact .inl l
  ·exact .inr ⟨k,c,e,cellK x c e _ z⟩
 ·obtain⟨v,z⟩:=I.cell x c e
  exact⟨v,cellK x c e v z⟩
 ·obtain⟨m,⟨o,_,_,ho,_⟩,_⟩:=I.loc
  exact free _ o (λz=>(hch _ z).2.1 rfl) ho I.free
 ·obtain⟨v,o,ho,hd⟩:=I.cell x c e
  exact free c o (λz=>(hch c z).2.2.1 x c e rfl) ho (I.freeC x c e)
 ·obtain⟨e,n,ne,nf,d⟩:=I.pin p hp
  have nch:p.1∉ch:=λz=>(hch p.1 z).2.2.2 p hp rfl
  exact⟨keep p.1 p.2 ne nf nch e n,free p.1 p.2 nch e n,ne,nf,d⟩
theorem Inv.un{t':Nat}(I:Inv X pins σ H s)(u:Un X.fs [] H H' s.heap h')(hok:HOk X.prog X.w H' h'):Inv X pins σ H' { s with heap:=h',toks:=t' }:=by
 obtain ⟨m,⟨o,es,ep,ho,r⟩,_⟩:=id I.loc;obtain ⟨sl,hL⟩:=u.any ho I.free (by simp);exact I.step (g':=s.gens) (d':=s.drawn) (ch:=[]) (λ _ z=>nomatch z) (λ b o _ hb _ e n=>u.keep b o e n hb (by simp)) (λ b o _ hb _ e n=>u.slot b o e n hb (by simp)) (λ b o _ e n=>u.free b o e n (by simp)) (λ b o _ e=>u.there b o e (by simp)) u.tups u.frzs u.tbls (λ m' hm=>by
  obtain⟨o',es',ep',ho',r'⟩:=hm;rw[ho] at ho';cases ho';exact⟨_,es',ep',hL,r'⟩) hok I.bare
theorem Inv.call{g':Array GenState}{t':Nat}{d':Drawn}{ch:List Addr}(I:Inv X pins σ H s)(u:Un (frs X.stack) ch H H' s.heap h')(hok:HOk X.prog X.w H' h')(hg:AllBare g')
  (hch:∀b∈ch,(b∈X.ex∨X.s₀.heap.objs.size<=b)/\b≠X.env.locals/\(∀x c,X.env.cells.lookup x=some c->c≠b)/\∀p∈X.pn++pins,p.1≠b) :
  Inv X pins σ H' { s with heap:=h',gens:=g',drawn:=d',toks:=t' }:=by
 obtain⟨m,⟨o,es,ep,ho,r⟩,_⟩:=id I.loc;obtain⟨sl,hL⟩:=u.any ho I.free λz=>(hch _ z).2.1 rfl
 exact I.step (ch:=ch) hch (λ b o hL hb hc e n=>u.keep b o e n (λ z=>(List.mem_cons.mp (I.stkSub b z)).elim hL hb) hc) (λ b o _ _ hc e n=>u.any e n hc) (λ b o hc e n=>u.free b o e n hc) (λ b o hc e=>u.there b o e hc) u.tups u.frzs u.tbls (λ m' hm=>by
  obtain⟨o',es',ep',ho',r'⟩:=hm;rw[ho] at ho';cases ho';exact⟨_,es',ep',hL,r'⟩) hok hg
theorem Inv.turned{t':Nat}{it:Addr}(I:Inv X pins σ H s)(k:∀b o,b≠it->s.heap.get? b=some o->h'.get? b=some o)(hn:H it=none)(hL:it≠X.env.locals)
  (h1:it∈X.ex∨X.s₀.heap.objs.size<=it)(h2:∀x c,X.env.cells.lookup x=some c->c≠it)(h3:∀p∈X.pn++pins,p.1≠it):Inv X pins σ H { s with heap:=h',toks:=t' }:=by
 have nit:∀b u,H b=some u->b≠it:=λb u e z=>by rw[z,hn] at e;cases e
 refine I.step (g':=s.gens) (d':=s.drawn) (ch:=[it]) (λb hb=>?_) (λb o _ _ hc e _=>k b o (λz=>hc (by simp[z])) e) (λb o _ _ hc e _=>⟨o.slots,k b o (λz=>hc (by simp[z])) e⟩) (λ_ _ _ _ n=>n)
  (λb o hc e=>⟨o,k b o (λz=>hc (by simp[z])) e⟩) (λ_ _ e=>e) (λ_ _ _ e=>e) (λb ps e=>⟨#[],by rw[e];simp⟩) (λm hm=>?_) (λb u e=>?_) I.bare
 ·have e:b=it:=by simpa using hb
  subst e;exact⟨h1,hL,h2,h3⟩
 ·obtain⟨o,es,ep,ho,r⟩:=hm
  exact⟨o,es,ep,k _ o (Ne.symm hL) ho,r⟩
 ·refine(I.hok b u e).stay (λc v hc q=>k c v ?_ q) (λ_ q=>q) λ_ _ q=>q
  rcases hc with z|z
  ·rw[z];exact nit b u e
  ·exact nit c _ z
theorem Inv.tok(I:Inv X pins σ H s)(t:Nat):Inv X pins σ H { s with toks:=t }:=I.un (h':=s.heap) (t':=t) Un.refl I.hok
theorem Inv.kept{t':Nat}(I:Inv X pins σ H s)(k:∀b u,s.heap.get? b=some u->h'.get? b=some u):Inv X pins σ H { s with heap:=h',toks:=t' }:=I.un (Un.kept k) (I.hok.kept k)
theorem Inv.laid{a:Addr}{o:HO}{t':Nat}(I:Inv X pins σ H s)(k:∀b u,s.heap.get? b=some u->h'.get? b=some u)(hp:s.heap.objs.size<=a)(new:Z8 X.prog X.w (upd H a o) h' a o) :
  Inv X pins σ (upd H a o) { s with heap:=h',toks:=t' }:=I.un (Un.laid k hp (I.hok.fresh hp)) (I.hok.laid k hp new)
theorem Inv.write{x e:Addr}{o:HO}{t':Nat}(I:Inv X pins σ H s)(mu:Mut (H x))(he:e=x∨H e=some (.own x))(k:∀b u,b≠e->s.heap.get? b=some u->h'.get? b=some u)(heo:∃u,h'.get? e=some u)
  (new:Z8 X.prog X.w (upd H x o) h' x o):Inv X pins σ (upd H x o) { s with heap:=h',toks:=t' }:=I.un (Un.write mu he k heo) (I.hok.write mu he k heo new)
theorem Inv.weak{σ':List (Option V)}(I:Inv X pins σ H s)(hl : σ'.length = σ.length)(w:∀(i:Nat) v,σ'[i]? = some (some v)->σ[i]? = some (some v)):Inv X pins σ' H s :=
 ⟨I.ok,I.os,I.bare,I.base,let ⟨m,hn,hl'⟩:=I.loc;⟨m,hn,λi x v e1 e2 e3=>hl' i x v e1 (w i v e2) e3⟩,I.cell,I.free,I.freeC,I.pin,I.hok,hl.trans I.len⟩
theorem Inv.pins_of{pins':List (Addr×Obj)}(I:Inv X pins σ H s)(h:∀p∈pins',s.heap.get? p.1=some p.2/\H p.1=none/\p.1≠X.env.locals/\p.1∉X.fs/\∀v,p.2.data≠.cell v):Inv X pins' σ H s :=
 ⟨I.ok,I.os,I.bare,I.base,I.loc,I.cell,I.free,I.freeC,λp hp=>(List.mem_append.mp hp).elim (λz=>I.pin p (List.mem_append_left _ z)) (h p),I.hok,I.len⟩
theorem ZEr{N:List Str}(hN:N.Nodup){i j:Nat}{x:Str}(a:N[i]? = some x)(b:N[j]? = some x):i=j:=by
 obtain⟨h1,e1⟩:=List.getElem?_eq_some_iff.mp a;obtain⟨h2,e2⟩:=List.getElem?_eq_some_iff.mp b;exact(List.getElem_inj hN).mp (e1.trans e2.symm)
theorem ZDr{M:Model}{A:Around}{E:Value->Shared->Prop}{i:Nat}{x:Str}{v:V}{u:Value}{Q:Unit->Shared->Prop}(I:Inv X pins σ H s)(hN:X.N.Nodup)(hi:X.N[i]? = some x)(hx:Loc X.env.scope x)(r:ZV v u)
  (h:∀s',Inv X pins (σ.set i (some v)) H s'->(∃a,Heap.SameBut a s.heap s'.heap/\(a=X.env.locals∨X.env.cells.lookup x=some a))->Q () s')(hf:X.fn x=true∨X.env.scope.names.lookup x=some .local:=by first|exact .inl rfl|exact .inr rfl|assumption):wpAny M A (storeName X.env x u) Q E s:=by
 obtain⟨m,hn,hl⟩:=id I.loc;have hcls:(X.env.scope.kind == .class || (X.env.scope.kind == .module && X.env.locals != X.env.globals))=false:=by rw[I.ok.kind];rfl
 have hiσ : i<σ.length:=by rw[I.len];exact(List.getElem?_eq_some_iff.mp hi).1
 have cne:=I.cne;have tracked:∀{a:Addr} {h':Heap},(∃o,s.heap.get? a=some o/\H a=none)->Heap.SameBut a s.heap h'->HOk X.prog X.w H h':=λ{a h'} ha hs b ob e=>by
  obtain⟨_,_,hfree⟩:=ha;refine(I.hok b ob e).stay (λc w' hc q=>(hs.2 c ?_).trans q) (λ_ q=>q) λ_ _ q=>q
  rintro rfl
  rcases hc with rfl|hc
  ·rw[hfree] at e;cases e
  ·rw[hfree] at hc;cases hc
 rcases hx with hk|hk
 ·refine wpAny_storeName_local hk hn (λh' hn' hs=>?_) hcls
  obtain⟨oL,_,_,hoL,_⟩:=id hn;refine h _ ⟨I.ok,I.os,I.bare,⟨λb o e n hb hx=>?_,λb o e n hb hx=>?_,I.base.free,λb o e hx=>?_,I.base.tups,I.base.frzs,I.base.tbls⟩,⟨_,hn',λj y v' e1 e2 e3=>?_⟩,λy c e=>?_,I.free,I.freeC,λp hp=>?_,tracked ⟨oL,hoL,I.free⟩ hs,by simpa using I.len⟩ ⟨_,hs,.inl rfl⟩
  ·exact(hs.2 b (ne_of_lt (lt_of_lt_of_le (lt_size e) I.ok.above))).trans (I.base.keep b o e n hb hx)
  ·obtain⟨sl,e1⟩:=I.base.slot b o e n hb hx
   exact⟨sl,(hs.2 b (ne_of_lt (lt_of_lt_of_le (lt_size e) I.ok.above))).trans e1⟩
  ·obtain⟨o',e1⟩:=I.base.there b o e hx
   exact⟨o',(hs.2 b (ne_of_lt (lt_of_lt_of_le (lt_size e) I.ok.above))).trans e1⟩
  ·by_cases hj:j=i
   ·subst hj
    rw[hi] at e1;cases e1;rw[getElem?_set_self hiσ] at e2;cases e2;exact⟨u,r,.inl ⟨hk,by simp⟩⟩
   ·rw[getElem?_set_ne (Ne.symm hj)] at e2
    obtain⟨u',r',q⟩:=hl j y v' e1 e2 e3;refine⟨u',r',?_⟩;rcases q with ⟨k,e⟩|⟨k,c,e,z⟩
    ·refine .inl ⟨k,?_⟩
     have:y≠x:=λe=>hj (ZEr hN e1 (e ▸ hi))
     simp[this,e]
    ·exact .inr ⟨k,c,e,z.sameBut hs (cne y c e)⟩
  ·obtain⟨w',z⟩:=I.cell y c e
   exact⟨w',z.sameBut hs (cne y c e)⟩
  ·obtain⟨e,n,ne,nf,d⟩:=I.pin p hp
   exact⟨(hs.2 p.1 ne).trans e,n,ne,nf,d⟩
 ·have hfn:X.fn x=true:=by
   rcases hf with z|z
   ·exact z
   ·rw[z] at hk;cases hk
  obtain⟨c,hc⟩:=I.ok.has x (.inl hk);obtain⟨w',z⟩:=I.cell x c hc;refine wpAny_storeName_cell I.ok.kind hk hc z (λh' hc' hs=>?_);obtain⟨oc,hoc,hocd⟩:=id z;refine h { s with heap:=h' } ⟨I.ok,I.os,I.bare,⟨λb o e n hb hx=>?_,λb o e n hb hx=>?_,I.base.free,λb o e hx=>?_,I.base.tups,I.base.frzs,I.base.tbls⟩,⟨m,hn.sameBut hs (Ne.symm (cne x c hc)),λj y v' e1 e2 e3=>?_⟩,λy c' e=>?_,I.free,I.freeC,λp hp=>?_,tracked ⟨oc,hoc,I.freeC x c hc⟩ hs,by simpa using I.len⟩ ⟨c,hs,.inr hc⟩
  ·exact(hs.2 b (ne_of_lt (lt_of_lt_of_le (lt_size e) (I.ok.cab x c hfn hc)))).trans (I.base.keep b o e n hb hx)
  ·obtain⟨sl,e1⟩:=I.base.slot b o e n hb hx
   exact⟨sl,(hs.2 b (ne_of_lt (lt_of_lt_of_le (lt_size e) (I.ok.cab x c hfn hc)))).trans e1⟩
  ·obtain⟨o',e1⟩:=I.base.there b o e hx
   exact⟨o',(hs.2 b (ne_of_lt (lt_of_lt_of_le (lt_size e) (I.ok.cab x c hfn hc)))).trans e1⟩
  ·by_cases hj:j=i
   ·subst hj
    rw[hi] at e1;cases e1;rw[getElem?_set_self hiσ] at e2;cases e2;exact⟨u,r,.inr ⟨.inl hk,c,hc,hc'⟩⟩
   ·rw[getElem?_set_ne (Ne.symm hj)] at e2
    obtain⟨u',r',q⟩:=hl j y v' e1 e2 e3;refine⟨u',r',?_⟩;rcases q with q|⟨k,c',e,z'⟩
    ·exact .inl q
    ·refine .inr ⟨k,c',e,z'.sameBut hs ?_⟩
     rintro rfl
     exact hj (ZEr hN e1 (I.ok.inj _ _ _ e hc ▸ hi))
  ·by_cases hcc:c'=c
   ·subst hcc;exact⟨_,hc'⟩
   ·obtain⟨w2,z2⟩:=I.cell y c' e
    exact⟨w2,z2.sameBut hs hcc⟩
  ·obtain⟨e,n,ne,nf,d⟩:=I.pin p hp
   refine⟨(hs.2 p.1 ?_).trans e,n,ne,nf,d⟩;intro q;rw[q,hoc] at e;have q':oc=p.2:=Option.some.inj e;exact d w' (by rw[←q'];exact hocd)
theorem ZBB{M:Model}{A:Around}{E:Value->Shared->Prop}{i:Nat}{x:Str}{v:V}{u:Value}{Q:Unit->Shared->Prop}(I:Inv X pins σ H s)(hN:X.N.Nodup)(hi:X.N[i]? = some x)(hx:Loc X.env.scope x)(r:ZV v u)
  (h:∀s',Inv X pins (σ.set i (some v)) H s'->Q () s')(hf:X.fn x=true∨X.env.scope.names.lookup x=some .local:=by first|exact .inl rfl|exact .inr rfl|assumption):wpAny M A (storeName X.env x u) Q E s :=
 ZDr I hN hi hx r (λs' I' _=>h s' I') hf
theorem Inv.call'{s':Shared}{ch:List Addr}(I:Inv X pins σ H s)(ho:s'.os=s.os)(u:Un (frs X.stack) ch H H' s.heap s'.heap)(hok:HOk X.prog X.w H' s'.heap)(hg:AllBare s'.gens)
  (hch:∀b∈ch,(b∈X.ex∨X.s₀.heap.objs.size<=b)/\b≠X.env.locals/\(∀x c,X.env.cells.lookup x=some c->c≠b)/\∀p∈X.pn++pins,p.1≠b):Inv X pins σ H' s':=by
 obtain⟨h',g',d',t',o'⟩:=s';have e:o'=s.os:=ho;subst e;exact I.call (g':=g') (t':=t') (d':=d') u hok hg hch
end
abbrev XK:=Value->Option Addr->Hp->Prop
abbrev St:=List (Option V)
abbrev VK:=V->Hp->Prop
abbrev TE:=St->Hp->VK->Prop
abbrev TT:=St->Hp->(Bool->Hp->Prop)->Prop
abbrev TA:=St->Hp->(List V->Hp->Prop)->Prop
structure Ends where
 nx:St->Hp->Prop
 rt:VK
 bk:St->Hp->Prop:=λ_ _=>False
 ct:St->Hp->Prop:=λ_ _=>False
abbrev TS:=Ends->St->Hp->Prop
def EP(X:Cx)(pins:List (Addr×Obj))(σ : St)(Q:VK)(u:Value)(s':Shared):Prop:=∃v H',Inv X pins σ H' s'/\ZV v u/\Q v H'
def TP(X:Cx)(pins:List (Addr×Obj))(σ : St)(Q:Bool->Hp->Prop)(b:Bool)(s':Shared):Prop:=∃H',Inv X pins σ H' s'/\Q b H'
def AP(X:Cx)(pins:List (Addr×Obj))(σ : St)(Q:List V->Hp->Prop)(us:List Value)(s':Shared):Prop:=∃vs H',Inv X pins σ H' s'/\ZK vs us/\Q vs H'
def SP(X:Cx)(pins:List (Addr×Obj))(D:Ends)(f:Flow)(s':Shared):Prop :=
 match f with
 |.next=>∃σ' H',Inv X pins σ' H' s'/\D.nx σ' H'
 |.brk=>∃σ' H',Inv X pins σ' H' s'/\D.bk σ' H'
 |.cont=>∃σ' H',Inv X pins σ' H' s'/\D.ct σ' H'
 |.ret u=>∃v σ' H',Inv X pins σ' H' s'/\ZV v u/\D.rt v H'
def PE(X:Cx)(e:Expr)(t:TE):Prop :=
 ∀(pins:List (Addr×Obj)) (s:Shared) (σ : St) (H:Hp) (Q:VK),Inv X pins σ H s->t σ H Q->wpAny (model X.prog X.w) X.A (eval e X.env) (EP X pins σ Q) X.xe s
def PT(X:Cx)(e:Expr)(t:TT):Prop :=
 ∀(pins:List (Addr×Obj)) (s:Shared) (σ : St) (H:Hp) (Q:Bool->Hp->Prop),Inv X pins σ H s->t σ H Q->wpAny (model X.prog X.w) X.A (isTrue e X.env (eval e X.env)) (TP X pins σ Q) X.xe s
def PW(X:Cx)(e:Expr)(t:TT):Prop :=
 ∀(whole:Sem Value) (pins:List (Addr×Obj)) (s:Shared) (σ : St) (H:Hp) (Q:Bool->Hp->Prop),Inv X pins σ H s->t σ H Q->wpAny (model X.prog X.w) X.A (isTrue e X.env whole) (TP X pins σ Q) X.xe s
theorem PW.pt{X:Cx}{e:Expr}{t:TT}(h:PW X e t):PT X e t:=h _
def PA(X:Cx)(es:List Expr)(t:TA):Prop :=
 ∀(pos:Pos) (pins:List (Addr×Obj)) (s:Shared) (σ : St) (H:Hp) (Q:List V->Hp->Prop),Inv X pins σ H s->t σ H Q->wpAny (model X.prog X.w) X.A (spliced (backTo pos (starEach es X.env))) (AP X pins σ Q) X.xe s
def PS(X:Cx)(st:Stmt)(t:TS):Prop :=
 ∀(pins:List (Addr×Obj)) (s:Shared) (σ : St) (H:Hp) (D:Ends),Inv X pins σ H s->t D σ H->wpAny (model X.prog X.w) X.A (exec st X.env) (SP X pins D) X.xe s
def PSs(X:Cx)(st:List Stmt)(t:TS):Prop :=
 ∀(pins:List (Addr×Obj)) (s:Shared) (σ : St) (H:Hp) (D:Ends),Inv X pins σ H s->t D σ H->wpAny (model X.prog X.w) X.A (execs st X.env) (SP X pins D) X.xe s
theorem thn{α : Type}{t:Sem α}{Q Q' : α->Shared->Prop}{M:Model}{A:Around}{E:Value->Shared->Prop}{s:Shared}(h:wpAny M A t Q E s)(hQ:∀a s,Q a s->Q' a s):wpAny M A t Q' E s:=wpAny_mono h hQ λ_ _ x=>x
section
variable{X:Cx}
def tVar(i:Nat):TE:=λσ H Q=>∃v,σ[i]? = some (some v)/\Q v H
def tC(v:V):TE:=λ_ H Q=>Q v H
theorem ZKY{i:Nat}{x:Str}{pos:Pos}(hN:X.N[i]? = some x)(hv:Vis X.env.scope x)(hd:(x == ("__debug__" : Str))=false:=by decide)(hcd:(x == ("__classdict__" : Str))=false:=by decide):PE X (.Name x pos) (tVar i):=by
 intro pins s σ H Q I h;obtain⟨v,e,h⟩:=h;obtain⟨m,hn,hl⟩:=I.loc;obtain⟨u,r,l⟩:=hl i x v hN e hv;have fin:EP X pins σ Q u s:=⟨v,H,I,r,h⟩;rcases l with ⟨hk,hm⟩|⟨hk,c,hc,hcell⟩
 ·exact wpAny_Name (wpAny_loadName_local I.ok.kind hk hn hm fin) hd
 ·rcases hk with hk|hk
  ·exact wpAny_Name (wpAny_loadName_cell I.ok.kind hk hc hcell fin) hd
  ·exact wpAny_Name (wpAny_loadName_free I.ok.kind hk hc hcell fin hcd) hd
theorem ZFk{i j pos}:PE X (.Constant (.int i) j pos) (tC (.int i)):=λ_ _ _ H _ I h=>wpAny_Constant_int ⟨.int i,H,I.tok _,⟨_,rfl⟩,h⟩
theorem pe_bl{b j pos}:PE X (.Constant (.bool b) j pos) (tC (.bl b)):=λ_ _ _ H _ I h=>Constant_bool ⟨.bl b,H,I,rfl,h⟩
theorem ZKo{x j pos}:PE X (.Constant (.str x) j pos) (tC (.str x)):=λ_ _ _ H _ I h=>Calls.Constant_str ⟨.str x,H,I.tok _,⟨_,rfl⟩,h⟩
def Gl(X:Cx)(x:Str):Prop:=X.env.kindOf x=some .globalImplicit
theorem ZJl{E:Value->Shared->Prop}{pins:List (Addr×Obj)}{s:Shared}{σ : St}{H:Hp}{x:Str}{u:Value}{pos:Pos}{Q:Value->Shared->Prop}(I:Inv X pins σ H s)(hg:Gl X x)(hm:X.mg x=some u)(h:Q u s)
  (hd:(x == ("__debug__" : Str))=false:=by decide):wpAny (model X.prog X.w) X.A (eval (.Name x pos) X.env) Q E s :=
 Calls.Name_function_global I.ok.kind hg (Calls.loadGlobal_global (by rw[I.ok.glob];exact I.mod.glob.keeps I.bk) hm h) hd
theorem ZA9{E:Value->Shared->Prop}{pins:List (Addr×Obj)}{s:Shared}{σ : St}{H:Hp}{x:Str}{u:Value}{pos:Pos}{Q:Value->Shared->Prop}(I:Inv X pins σ H s)(hg:Gl X x)(hm:X.mg x=none)(hv:bootBuiltins x=some u)(h:Q u s)
  (hn:x≠"__name__":=by decide)(hd:(x == ("__debug__" : Str))=false:=by decide):wpAny (model X.prog X.w) X.A (eval (.Name x pos) X.env) Q E s:=by
 obtain⟨mb,h1,h2⟩:=I.mod.blt;exact Calls.Name_function_global I.ok.kind hg (Calls.loadGlobal_builtin (by rw[I.ok.glob];exact I.mod.glob.keeps I.bk) hm (by rw[I.ok.blt];exact h1.keeps I.bk) ((h2 x hn).trans hv) h) hd
theorem ZJb{x:Str}{v:V}{u:Value}{pos:Pos}(hg:Gl X x)(hm:X.mg x=none)(hv:bootBuiltins x=some u)(r:ZV v u)(hn:x≠"__name__":=by decide)(hd:(x == ("__debug__" : Str))=false:=by decide):PE X (.Name x pos) (tC v) :=
 λ_ _ _ H _ I h=>ZA9 I hg hm hv ⟨v,H,I,r,h⟩ hn hd
variable{a b:Expr}{ta tb:TE}{pos:Pos}
def tB(t:TE):TT:=λσ H Q=>t σ H λx H1=>∃c,x=.bl c/\Q c H1
theorem ZKm{e:Expr}{t:TE}(h:PE X e t)(he:∀whole,isTrue e X.env whole=(do let v ←whole;standAt e.pos;holding [v] (truthy v)):=by intro _;rfl):PT X e (tB t):=by
 intro pins s σ H Q I hw;refine isTrue_plain (thn (h pins s σ H _ I hw) λv s1 ⟨x,H1,I1,r1,q1⟩=>?_) (he _);obtain⟨d,rfl,q⟩:=q1;cases r1;exact wpAny_truthy_bool ⟨H1,I1,q⟩
variable{tA tB':TT}{rest:List Expr}
def tAnd(t u:TT):TT:=λσ H Q=>t σ H λc H1=>if c=true then u σ H1 Q else Q false H1
def tOr(t u:TT):TT:=λσ H Q=>t σ H λc H1=>if c=true then Q true H1 else u σ H1 Q
def tNot(t:TT):TT:=λσ H Q=>t σ H λc H1=>Q (!c) H1
theorem ZJR(ha:PT X a tA):PW X (.BoolOp .And [a] pos) tA:=by
 intro wh pins s σ H Q I h;refine isTrue_and (thn (ha pins s σ H Q I h) λc s1 e=>?_);cases c with
 |true=>exact isTrue_and_nil e
 |false=>exact e
theorem ZKA(ha:PT X a tA):PW X (.BoolOp .Or [a] pos) tA:=by
 intro wh pins s σ H Q I h;refine isTrue_or (thn (ha pins s σ H Q I h) λc s1 e=>?_);cases c with
 |false=>exact isTrue_or_nil e
 |true=>exact e
theorem ZKR(ha:PT X a tA)(hb:PW X (.BoolOp .And (b::rest) pos) tB'):PW X (.BoolOp .And (a::b::rest) pos) (tAnd tA tB'):=by
 intro wh pins s σ H Q I h;refine isTrue_and (thn (ha pins s σ H _ I h) λc s1 ⟨H1,I1,q1⟩=>?_);cases c with
 |true=>exact hb wh pins s1 σ H1 Q I1 q1
 |false=>exact⟨H1,I1,q1⟩
theorem pw_or(ha:PT X a tA)(hb:PW X (.BoolOp .Or (b::rest) pos) tB'):PW X (.BoolOp .Or (a::b::rest) pos) (tOr tA tB'):=by
 intro wh pins s σ H Q I h;refine isTrue_or (thn (ha pins s σ H _ I h) λc s1 ⟨H1,I1,q1⟩=>?_);cases c with
 |true=>exact⟨H1,I1,q1⟩
 |false=>exact hb wh pins s1 σ H1 Q I1 q1
theorem ZLY(ha:PT X a tA):PT X (.UnaryOp .Not a pos) (tNot tA):=by
 intro pins s σ H Q I h;exact isTrue_not (ha pins s σ H (λc H1=>Q (!c) H1) I h)
def tAndV(ta tb:TE):TE:=λσ H Q=>ta σ H λx H1=>∃c,x=.bl c/\if c=true then tb σ H1 Q else Q (.bl false) H1
def tNotV(ta:TE):TE:=λσ H Q=>ta σ H λx H1=>∃c,x=.bl c/\Q (.bl (!c)) H1
theorem ZLB{op}{t:TE}(h:PE X a t):PE X (.BoolOp op [a] pos) t:=λpins s σ H Q I hw=>BoolOp_one (h pins s σ H Q I hw)
theorem ZLK(ha:PE X a ta)(hb:PE X (.BoolOp .And (b::rest) pos) tb):PE X (.BoolOp .And (a::b::rest) pos) (tAndV ta tb):=by
 intro pins s σ H Q I h;refine BoolOp_and (thn (ha pins s σ H _ I h) λv s1 ⟨x,H1,I1,r1,q1⟩=>?_);obtain⟨c,rfl,q1⟩:=q1;cases r1;refine wpAny_truthy_bool ?_;cases c with
 |true=>exact hb pins s1 σ H1 Q I1 q1
 |false=>exact⟨.bl false,H1,I1,rfl,q1⟩
theorem ZKS(ha:PE X a ta):PE X (.UnaryOp .Not a pos) (tNotV ta):=by
 intro pins s σ H Q I h;refine UnaryOp_ (thn (ha pins s σ H _ I h) λv s1 ⟨x,H1,I1,r1,q1⟩=>?_);obtain⟨c,rfl,q1⟩:=q1;cases r1;exact not_of (wpAny_truthy_bool ⟨.bl (!c),H1,I1,rfl,q1⟩)
end
def SqL(K:PySem.W.Frag)(H:Hp)(a:Addr)(xs:List V):Prop :=
 Rd H a (.lst xs) ∨
  ∃(o:Obj) (its:Array Value) (n:Nat),K.lookup a=some o/\o.cls=.type "list"/\o.dict=none/\o.data=.seq its n/\its.size<=sizeLine/\ZK xs its.toList
def SqT(K:PySem.W.Frag)(H:Hp)(a:Addr)(xs:List V):Prop :=
 Rd H a (.tup xs) ∨
  ∃(o:Obj) (its:Array Value) (n:Nat),K.lookup a=some o/\o.cls=.type "tuple"/\o.data=.seq its n/\its.size<=sizeLine/\ZK xs its.toList
def absV:Value->Option V
 |.none=>some .non
 |.bool b=>some (.bl b)
 |.int i _=>some (.int i)
 |.str x _=>some (.str x)
 |.bytes b _=>some (.byt b)
 |.float b _=>some (.flt b)
 |.ref a=>some (.ref a)
 |.type n=>some (.ty n)
 |_=>none
theorem ZV.abs{x:V}{u:Value}(r:ZV x u):absV u=some x:=by
 cases x with
 |non=>cases r;rfl
 |bl _=>cases r;rfl
 |int _=>obtain⟨t,rfl⟩:=r;rfl
 |str _=>obtain⟨t,rfl⟩:=r;rfl
 |byt _=>obtain⟨t,rfl⟩:=r;rfl
 |flt _=>obtain⟨t,rfl⟩:=r;rfl
 |ref _=>cases r;rfl
 |ty _=>cases r;rfl
theorem ZV.inj{x y:V}{u:Value}(r:ZV x u)(q:ZV y u):x=y:=Option.some.inj (r.abs.symm.trans q.abs)
theorem ZK.inj:∀{xs ys:List V} {us:List Value},ZK xs us->ZK ys us->xs=ys
 |_,_,_,.nil,.nil=>rfl
 |_,_,_,.cons r t,.cons r' t'=>by rw[r.inj r',ZK.inj t t']
section
variable{X:Cx}{pins:List (Addr×Obj)}{σ : St}{H:Hp}{s:Shared}{a:Addr}{xs ys:List V}
theorem SqL.of{K:PySem.W.Frag}(h:H a=some (.lst xs)):SqL K H a xs:=.inl (.inl h)
theorem Inv.list(I:Inv X pins σ H s)(h:SqL X.K H a xs):∃its:List Value,ZK xs its/\PlainL s.heap a its.toArray/\xs.length<=sizeLine:=by
 rcases h with h|⟨o,its,n,hk,hc,hd,hs,hz,r⟩
 ·obtain⟨z,its,n,r,e⟩:=h.ok I.hok
  exact⟨its,r,⟨_,n,e,rfl,rfl,rfl⟩,z⟩
 ·refine⟨its.toList,r,⟨o,n,I.kIn a o hk,hc,hd,by simpa using hs⟩,?_⟩
  have e:=r.length;simp only[Array.length_toList] at e;omega
theorem Inv.tuple(I:Inv X pins σ H s)(h:SqT X.K H a xs):∃its:List Value,ZK xs its/\IsTup s.heap a its.toArray/\xs.length<=sizeLine:=by
 rcases h with h|⟨o,its,n,hk,hc,hs,hz,r⟩
 ·obtain⟨z,its,r,p⟩:=h.ok I.hok
  exact⟨its,r,p,z⟩
 ·refine⟨its.toList,r,⟨o,I.kIn a o hk,hc,n,by simpa using hs⟩,?_⟩
  have e:=r.length;simp only[Array.length_toList] at e;omega
theorem Inv.list_inj(I:Inv X pins σ H s)(h:SqL X.K H a xs)(h':SqL X.K H a ys):xs=ys:=by
 obtain⟨its,r,⟨o,n,e,_,_,d⟩,_⟩:=I.list h;obtain⟨its',r',⟨o',n',e',_,_,d'⟩,_⟩:=I.list h';rw[e] at e';cases e';rw[d] at d';injection d' with d1 _
 have:its=its':=by simpa using congrArg Array.toList d1
 subst this
 exact r.inj r'
theorem Inv.tuple_inj(I:Inv X pins σ H s)(h:SqT X.K H a xs)(h':SqT X.K H a ys):xs=ys:=by
 obtain⟨its,r,⟨o,e,_,n,d⟩,_⟩:=I.tuple h;obtain⟨its',r',⟨o',e',_,n',d'⟩,_⟩:=I.tuple h';rw[e] at e';cases e';rw[d] at d';injection d' with d1 _
 have:its=its':=by simpa using congrArg Array.toList d1
 subst this
 exact r.inj r'
end
abbrev Cx.wish(X:Cx)(E:Value->Shared->Prop):Cx:={ X with xe:=E }
abbrev Cx.nox(X:Cx):Cx:=X.wish λ_ _=>False
theorem Cx.Ok.wish{X:Cx}(ok:X.Ok)(E:Value->Shared->Prop):(X.wish E).Ok :=
 ⟨ok.mod,ok.kind,ok.glob,ok.blt,ok.above,ok.inj,ok.has,ok.cab,ok.hd,ok.frames,ok.stk,ok.exf,ok.bs,ok.bsz,ok.noex,ok.exfs,ok.funs,ok.frf⟩
theorem Cx.Ok.unwish{X:Cx}{E:Value->Shared->Prop}(ok:(X.wish E).Ok):X.Ok :=
 ⟨ok.mod,ok.kind,ok.glob,ok.blt,ok.above,ok.inj,ok.has,ok.cab,ok.hd,ok.frames,ok.stk,ok.exf,ok.bs,ok.bsz,ok.noex,ok.exfs,ok.funs,ok.frf⟩
section
variable{X:Cx}{pins:List (Addr×Obj)}{σ : St}{H:Hp}{s:Shared}{E:Value->Shared->Prop}
theorem Inv.wish(I:Inv X pins σ H s)(E:Value->Shared->Prop):Inv (X.wish E) pins σ H s:=⟨I.ok.wish E,I.os,I.bare,I.base,I.loc,I.cell,I.free,I.freeC,I.pin,I.hok,I.len⟩
theorem Inv.unwish(I:Inv (X.wish E) pins σ H s):Inv X pins σ H s:=⟨I.ok.unwish,I.os,I.bare,I.base,I.loc,I.cell,I.free,I.freeC,I.pin,I.hok,I.len⟩
theorem SP.unwish{D:Ends}{f:Flow}{s':Shared}(h:SP (X.wish E) pins D f s'):SP X pins D f s':=by
 cases f with
 |next=>obtain⟨σ',H',I,q⟩:=h;exact⟨σ',H',I.unwish,q⟩
 |brk=>obtain⟨σ',H',I,q⟩:=h;exact⟨σ',H',I.unwish,q⟩
 |cont=>obtain⟨σ',H',I,q⟩:=h;exact⟨σ',H',I.unwish,q⟩
 |ret u=>obtain⟨v,σ',H',I,r,q⟩:=h;exact⟨v,σ',H',I.unwish,r,q⟩
theorem PSs.nox{st:List Stmt}{t:TS}(h:PSs X.nox st t):PSs X st t:=λpins s σ H D I hw =>
 wpAny_mono (h pins s σ H D (I.wish _) hw) (λ_ _ q=>q.unwish) λ_ _ z=>False.elim z
end
section
variable{X:Cx}{st:Stmt}{rest:List Stmt}{t u:TS}{e:Expr}{te:TE}{pos:Pos}
def tNext:TS:=λD σ H=>D.nx σ H
def tSeq(t u:TS):TS:=λD σ H=>t { D with nx:=u D } σ H
theorem ZIo:PSs X [] tNext:=λ_ _ σ H _ I h=>wpAny_execs_nil ⟨σ,H,I,h⟩
theorem ZGq(h1:PS X st t)(h2:PSs X rest u):PSs X (st::rest) (tSeq t u):=by
 intro pins s σ H D I h;refine wpAny_execs_cons (thn (h1 pins s σ H { D with nx:=u D } I h) λf s1 q=>?_);cases f with
 |next =>
  obtain⟨σ',H',I',q⟩:=q;exact h2 pins s1 σ' H' D I' q
 |ret v=>exact q
 |brk=>exact q
 |cont=>exact q
theorem ZIe(h1:PS X st t):PSs X [st] t:=by
 intro pins s σ H D I h;refine wpAny_execs_cons (thn (h1 pins s σ H D I h) λf s1 q=>?_);cases f with
 |next=>exact wpAny_execs_nil q
 |ret v=>exact q
 |brk=>exact q
 |cont=>exact q
theorem Inv.quiet{pins:List (Addr×Obj)}{σ : St}{H:Hp}{s:Shared}(I:Inv X pins σ H s):interactive X.env=false:=by simp[interactive,I.ok.kind]
def tDrop(te:TE):TS:=λD σ H=>te σ H λ_ H1=>D.nx σ H1
theorem ZIs(he:PE X e te)(hs:swapsWith e none pos.line X.env=pure false:=by rfl):PS X (.Expr e pos) (tDrop te):=by
 intro pins s σ H D I h;exact wpAny_Expr_any (thn (he pins s σ H _ I h) λv s1 ⟨x,H1,I1,r1,q1⟩=>⟨σ,H1,I1,q1⟩) I.quiet hs
def tRet(te:TE):TS:=λD σ H=>te σ H D.rt
theorem ZKf(he:PE X e te):PS X (.Return (some e) pos) (tRet te):=by
 intro pins s σ H D I h;exact wpAny_Return_some (thn (he pins s σ H _ I h) λv s1 ⟨x,H1,I1,r1,q1⟩=>⟨x,σ,H1,I1,r1,q1⟩)
def tIfS(c:TT)(t u:TS):TS:=λD σ H=>c σ H λb H1=>if b=true then t D σ H1 else u D σ H1
theorem ps_if{c:Expr}{a b:List Stmt}{tc:TT}(hc:PT X c tc)(ha:PSs X a t)(hb:PSs X b u):PS X (.If c a b pos) (tIfS tc t u):=by
 intro pins s σ H D I h;refine wpAny_If (thn (hc pins s σ H _ I h) λd s1 ⟨H1,I1,q1⟩=>?_);cases d with
 |true=>exact ha pins s1 σ H1 D I1 q1
 |false=>exact hb pins s1 σ H1 D I1 q1
end
abbrev TG:=V->St->Hp->(St->Hp->Prop)->Prop
abbrev TGs:=List V->St->Hp->(St->Hp->Prop)->Prop
def PG(X:Cx)(target:Expr)(t:TG):Prop :=
 ∀(pins:List (Addr×Obj)) (s:Shared) (σ : St) (H:Hp) (v:V) (u:Value) (Q:St->Hp->Prop),Inv X pins σ H s->ZV v u->t v σ H Q ->
  wpAny (model X.prog X.w) X.A (assign target X.env u) (λ_ s'=>∃σ' H',Inv X pins σ' H' s'/\Q σ' H') X.xe s
def PGs(X:Cx)(ts:List Expr)(t:TGs):Prop :=
 ∀(pins:List (Addr×Obj)) (s:Shared) (σ : St) (H:Hp) (vs:List V) (us:List Value) (Q:St->Hp->Prop),Inv X pins σ H s->ZK vs us->t vs σ H Q ->
  wpAny (model X.prog X.w) X.A (assignInOrder ((assignEach ts X.env).map (·.2)) us) (λ_ s'=>∃σ' H',Inv X pins σ' H' s'/\Q σ' H') X.xe s
abbrev ZLX:=V->V->V->Hp->(Hp->Prop)->Prop
def ZLu(X:Cx)(t:ZLX):Prop :=
 ∀(pins:List (Addr×Obj)) (s:Shared) (σ : St) (H:Hp) (o i v:V) (ov iv u:Value) (Q:Hp->Prop),Inv X pins σ H s->ZV o ov->ZV i iv->ZV v u->t o i v H Q ->
  wpAny (model X.prog X.w) X.A (setItem ov iv u) (λ_ s'=>∃H',Inv X pins σ H' s'/\Q H') X.xe s
section
variable{X:Cx}{pos:Pos}
def ZEv(i:Nat):TG:=λv σ H Q=>Q (σ.set i (some v)) H
theorem ZII{i:Nat}{x:Str}(hN:X.N.Nodup)(hi:X.N[i]? = some x)(hx:Loc X.env.scope x)(hf:X.fn x=true∨X.env.scope.names.lookup x=some .local:=by first|exact .inl rfl|exact .inr rfl|assumption):PG X (.Name x pos) (ZEv i):=by
 intro pins s σ H v u Q I r h;exact wpAny_assign_Name (ZBB I hN hi hx r (λs' I'=>⟨_,H,I',h⟩) hf)
def ZLr:TGs:=λvs σ H Q=>vs=[]/\Q σ H
def ZJ4(t:TG)(u:TGs):TGs:=λvs σ H Q=>∃v r,vs=v::r/\t v σ H λσ' H'=>u r σ' H' Q
theorem ZFl:PGs X [] ZLr:=by
 intro pins s σ H vs us Q I r h;obtain⟨e,h⟩:=h;subst e;cases r;exact assignInOrder_nil ⟨σ,H,I,h⟩
theorem ZCg{e:Expr}{es:List Expr}{t:TG}{u:TGs}(h1:PG X e t)(h2:PGs X es u)
  (hs:(assignEach (e::es) X.env).map (·.2)=assign e X.env::(assignEach es X.env).map (·.2):=by rfl):PGs X (e::es) (ZJ4 t u):=by
 intro pins s σ H vs us Q I r h;obtain⟨v,vr,e1,h⟩:=h;subst e1;cases r with
 |cons r rr =>
  rw[hs];refine assignInOrder_cons (thn (h1 pins s σ H _ _ _ I r h) λ_ s1 ⟨σ1,H1,I1,q1⟩=>?_);exact h2 pins s1 σ1 H1 _ _ Q I1 rr q1
def ZL0(K:PySem.W.Frag)(n:Nat)(t:TGs):TG:=λv σ H Q=>∃a xs,v=.ref a/\SqT K H a xs/\xs.length=n/\t xs σ H Q
theorem ZHl{es:List Expr}{k:Nat}{t:TGs}{n:Nat}(hc:X.calm=true)(h:PGs X es t)
  (hn:(assignEach es X.env).length=n:=by rfl)(hst:(assignEach es X.env).findIdx? (·.1)=none:=by rfl):PG X (.Tuple es k pos) (ZL0 X.K n t):=by
 intro pins s σ H v u Q I r hw;obtain⟨a,xs,e1,hq,hl,hw⟩:=hw;subst e1;cases r;obtain⟨its,rv,ht,hz⟩:=I.tuple hq;refine assign_Tuple_tuple (I.ok.hd hc) ht (by simp[hn,←hl,rv.length]) hst λh' hx=>?_
 have I1:Inv X pins σ H { s with heap:=h' }:=I.kept (t':=s.toks) λb o e=>hx b o (ne_of_lt (lt_size e)) e
 exact h pins _ σ H xs _ Q I1 (by simpa using rv) hw
def gSub(to ti:TE)(t:ZLX):TG:=λv σ H Q=>to σ H λo H1=>ti σ H1 λi H2=>t o i v H2 λH3=>Q σ H3
theorem ZFL{o i:Expr}{to ti:TE}{t:ZLX}(ho:PE X o to)(hi:PE X i ti)(hs:ZLu X t)
  (ha:∀ v,assign (.Subscript o i pos) X.env v=(do
   let ov ←holding [v] (eval o X.env)
   let iv ←holding [v,ov] (eval i X.env)
   standAt pos
   holding [v,ov,iv] (setItem ov iv v)
   release [v,ov,iv] []):=by intro _;rfl):PG X (.Subscript o i pos) (gSub to ti t):=by
 intro pins s σ H v u Q I r h;rw[ha];refine wpAny_bind (wpAny_holding (thn (ho pins s σ H _ I h) λov s1 ⟨x,H1,I1,r1,q1⟩=>?_));refine wpAny_bind (wpAny_holding (thn (hi pins s1 σ H1 _ I1 q1) λiv s2 ⟨y,H2,I2,r2,q2⟩=>?_));refine wpAny_bind (wpAny_standAt (wpAny_bind (wpAny_holding (thn (hs pins s2 σ H2 x y v ov iv u _ I2 r1 r2 r q2) λ_ s3 ⟨H3,I3,q3⟩=>?_))));exact wpAny_release ⟨σ,H3,I3,q3⟩
def ZLe(te:TE)(g:TG):TS:=λD σ H=>te σ H λx H1=>g x σ H1 D.nx
theorem ZFR{tg e:Expr}{te:TE}{g:TG}(he:PE X e te)(hg:PG X tg g)(hs:swapsWithSole [tg] e pos.line X.env=pure false:=by rfl)(hw:swappedStores [tg] e X.env=pure none:=by rfl)
  (h1:(assignEach [tg] X.env).map (·.2)=[assign tg X.env]:=by rfl):PS X (.Assign [tg] e pos) (ZLe te g):=by
 intro pins s σ H D I h;refine wpAny_Assign_stores (thn (he pins s σ H _ I h) λv s1 ⟨x,H1,I1,r1,q1⟩=>?_) hs hw;rw[h1];exact thn (hg pins s1 σ H1 x v _ I1 r1 q1) λ_ s2 q=>q
theorem ZKw{i:Nat}{x:Str}{e:Expr}{te:TE}{pos':Pos}(hN:X.N.Nodup)(hi:X.N[i]? = some x)(hx:Loc X.env.scope x)(he:PE X e te)(hs:swapsWith e (some (.Name x pos')) pos.line X.env=pure false:=by rfl)(hf:X.fn x=true∨X.env.scope.names.lookup x=some .local:=by first|exact .inl rfl|exact .inr rfl|assumption) :
  PS X (.Assign [.Name x pos'] e pos) (ZLe te (ZEv i)):=by
 intro pins s σ H D I h;refine wpAny_Assign_Name (thn (he pins s σ H _ I h) λv s1 ⟨y,H1,I1,r1,q1⟩=>?_) hs;exact ZBB I1 hN hi hx r1 (λs2 I2=>⟨_,H1,I2,q1⟩) hf
end
structure It where
 go:Nat->Hp->Prop
 yld:Nat->Hp->V->Hp->Prop
 stop:Nat->Hp->Prop
def ZCY(X:Cx)(pins:List (Addr×Obj))(H:Hp)(b:Addr):Prop :=
 H b=none/\b≠X.env.locals/\b∉X.fs/\(b∈X.ex∨X.s₀.heap.objs.size<=b)/\(∀x c,X.env.cells.lookup x=some c->c≠b)/\∀p∈X.pn++pins,p.1≠b
theorem Inv.fpOk{X:Cx}{pins:List (Addr×Obj)}{σ : St}{H H':Hp}{s:Shared}{b:Addr}(I:Inv X pins σ H s)(hb:s.heap.objs.size<=b)(hn:H' b=none):ZCY X pins H' b:=by
 refine⟨hn,ne_of_gt (lt_of_lt_of_le I.lt hb),I.nofs hb,.inr (le_trans I.sz hb),λx c e z=>?_,λp hp z=>?_⟩
 ·obtain⟨v,q⟩:=I.cell x c e
  exact absurd (lt_of_lt_of_le q.lt (by rw[z];exact hb)) (lt_irrefl _)
 ·exact absurd (lt_of_lt_of_le (lt_size (I.pin p hp).1) (by rw[z];exact hb)) (lt_irrefl _)
structure Turn (P:Program) (w:World) (K:PySem.W.Frag) (tg:Expr) (J:It) (fp:List Addr) (it:Addr) (tn:Nat->Heap->Prop):Prop where
  mem:it∈fp
  obj:∀i h,tn i h->∀b∈fp,∃o,h.get? b=some o/\∀v,o.data≠.cell v
  keep:∀i h h',tn i h->(∀b∈fp,∀o,h.get? b=some o->h'.get? b=some o)->tn i h'
  item:∀(X:Cx),X.prog=P->X.w=w->X.K=K->X.calm=true->∀(i:Nat) (pins:List (Addr×Obj)) (s:Shared) (σ : St) (H:Hp) (E:Value->Shared->Prop),Inv X pins σ H s->(∀b∈fp,ZCY X pins H b)->tn i s.heap->J.go i H ->
    wpAny (model P w) X.A (pyNext (.ref it)) (λ r s1=>∃ u,r=some u /\
      wpAny (model P w) X.A (letOwnedTupleGo tg (.ref it) u) (λ_ s2=>∃x H',Inv X pins σ H' s2/\ZV x u/\J.yld i H x H'/\tn (i+1) s2.heap/\∀b∈fp,H' b=none) E s1) E s
  done:∀(X:Cx),X.prog=P->X.w=w->X.K=K->X.calm=true->∀(i:Nat) (pins:List (Addr×Obj)) (s:Shared) (σ : St) (H:Hp) (E:Value->Shared->Prop),Inv X pins σ H s->(∀b∈fp,ZCY X pins H b)->tn i s.heap->J.stop i H ->
    wpAny (model P w) X.A (pyNext (.ref it)) (λr s1=>r=none/\Inv X pins σ H s1) E s
  self:∀(A:Around) (i:Nat) (s:Shared) (Q:Value->Shared->Prop) (E:Value->Shared->Prop),tn i s.heap->Q (.ref it) s->wpAny (model P w) A (pyIter (.ref it)) Q E s
abbrev TI:=St->Hp->(It->Hp->Prop)->Prop
def PIE(X:Cx)(pins:List (Addr×Obj))(σ : St)(tg:Expr)(R:It->Hp->Prop)(itv:Value)(s2:Shared):Prop :=
 ∃(it:Addr) (fp:List Addr) (tn:Nat->Heap->Prop) (J:It) (H':Hp),itv=.ref it/\Inv X pins σ H' s2/\Turn X.prog X.w X.K tg J fp it tn/\tn 0 s2.heap/\(∀b∈fp,ZCY X pins H' b)/\R J H'
def PI(X:Cx)(tg iter:Expr)(wi:TI):Prop :=
 ∀(pins:List (Addr×Obj)) (s:Shared) (σ : St) (H:Hp) (R:It->Hp->Prop),Inv X pins σ H s->wi σ H R ->
  wpAny (model X.prog X.w) X.A (eval iter X.env) (λv s1=>wpAny (model X.prog X.w) X.A (pyIter v) (PIE X pins σ tg R) X.xe s1) X.xe s
theorem ZHY{M:Model}{A:Around}{E:Value->Shared->Prop}{s:Shared}{tg:Expr}{it:Addr}{u:Value}{o:Obj}{n:String}{vs:Array Value}{Q:Unit->Shared->Prop}(ho:s.heap.get? it=some o)(hc:o.cls=.type n)(hd:o.data=.fields vs)
    (hn:["enumerate","zip","dict_itemiterator","dict_reverseitemiterator","odict_iterator","itertools.zip_longest","itertools.pairwise"].contains n=false)(hQ:Q () s):wpAny M A (letOwnedTupleGo tg (.ref it) u) Q E s:=by
  unfold letOwnedTupleGo;cases tg <;> first
    |exact wpAny_pure hQ
    | (cases u <;> first
        |exact wpAny_pure hQ
        | (refine wpAny_bind (wpAny_load ho ?_)
           rw[hc,hd];show wpAny M A (if (["enumerate","zip","dict_itemiterator","dict_reverseitemiterator","odict_iterator","itertools.zip_longest","itertools.pairwise"].contains n && vs[0]? == some (rawInt _))=true then _ else _) Q E s;rw[if_neg (by intro h;rw[hn,Bool.false_and] at h;cases h)];exact wpAny_pure hQ))
def Itl(K:PySem.W.Frag)(a:Addr):It :=
 ⟨λi H=>∃xs x,SqL K H a xs/\xs[i]? = some x,λi H x H'=>H'=H/\∀xs,SqL K H a xs->xs[i]? = some x,λi H=>∃xs,SqL K H a xs/\xs.length<=i⟩
def Itt(K:PySem.W.Frag)(a:Addr):It :=
 ⟨λi H=>∃xs x,SqT K H a xs/\xs[i]? = some x,λi H x H'=>H'=H/\∀xs,SqT K H a xs->xs[i]? = some x,λi H=>∃xs,SqT K H a xs/\xs.length<=i⟩
def Itr(lo:Int)(n:Nat):It:=⟨λi _=>i<n,λi H x H'=>H'=H/\x=.int (lo+i),λi _=>n<=i⟩
theorem ZGk{P:Program}{w:World}{K:PySem.W.Frag}{tg:Expr}(a it:Addr):Turn P w K tg (Itl K a) [it] it (λi h=>h.IsListIter it a i) where
 mem:=by simp
 obj:=λi h st b hb=>by
  have e:b=it:=by simpa using hb
  subst e;obtain⟨o,e,c,d⟩:=st;exact⟨o,e,λv z=>by rw[d] at z;cases z⟩
 keep:=λi h h' st k=>st.at λo e=>k it (by simp) o e
 item:=by
  intro X hP hw hK hc i pins s σ H E I hf st hg;subst hP hw hK;obtain⟨xs,x,hq,hx⟩:=hg;obtain⟨its,rv,p,hz⟩:=I.list hq;obtain⟨u,hu,ru⟩:=rv.get hx;obtain⟨f0,f1,f2,f3,f4,f5⟩:=hf it (by simp);refine wpAny_pyNext_list_item st p.isList (x:=u) (by simpa using hu) λh' st' sb=>?_
  have I1:Inv X pins σ H { s with heap:=h' }:=I.turned (t':=s.toks) (λb o hb e=>(sb.2 b hb).trans e) f0 f1 f3 f4 f5;obtain⟨o,e,c,d⟩:=id st';exact⟨u,rfl,ZHY (s:={ s with heap:=h' }) e c d (by decide) ⟨x,H,I1,ru,⟨rfl,λys hy=>by rw[I.list_inj hy hq];exact hx⟩,st',λb hb=>(hf b hb).1⟩⟩
 done:=by
  intro X hP hw hK hc i pins s σ H E I hf st hg;subst hP hw hK;obtain⟨xs,hq,hx⟩:=hg;obtain⟨its,rv,p,hz⟩:=I.list hq;obtain⟨f0,f1,f2,f3,f4,f5⟩:=hf it (by simp);have hl:=rv.length;exact wpAny_pyNext_list_end (I.ok.hd hc) st p.isList (by simp;omega) λh' eb=>⟨rfl,I.turned (t':=s.toks) (λb o hb e=>eb b o hb e) f0 f1 f3 f4 f5⟩
 self:=λ_ _ _ _ _ st h=>wpAny_pyIter_listiter st h
theorem ZFe{P:Program}{w:World}{K:PySem.W.Frag}{tg:Expr}(a it:Addr):Turn P w K tg (Itt K a) [it] it (λi h=>h.IsTupleIter it a i) where
 mem:=by simp
 obj:=λi h st b hb=>by
  have e:b=it:=by simpa using hb
  subst e;obtain⟨o,e,c,d⟩:=st;exact⟨o,e,λv z=>by rw[d] at z;cases z⟩
 keep:=λi h h' st k=>st.at λo e=>k it (by simp) o e
 item:=by
  intro X hP hw hK hc i pins s σ H E I hf st hg;subst hP hw hK;obtain⟨xs,x,hq,hx⟩:=hg;obtain⟨its,rv,p,hz⟩:=I.tuple hq;obtain⟨u,hu,ru⟩:=rv.get hx;obtain⟨f0,f1,f2,f3,f4,f5⟩:=hf it (by simp);refine wpAny_pyNext_tuple_item st (show s.heap.IsTuple a its.toArray from p) (x:=u) (by simpa using hu) λh' st' sb=>?_
  have I1:Inv X pins σ H { s with heap:=h' }:=I.turned (t':=s.toks) (λb o hb e=>(sb.2 b hb).trans e) f0 f1 f3 f4 f5;obtain⟨o,e,c,d⟩:=id st';exact⟨u,rfl,ZHY (s:={ s with heap:=h' }) e c d (by decide) ⟨x,H,I1,ru,⟨rfl,λys hy=>by rw[I.tuple_inj hy hq];exact hx⟩,st',λb hb=>(hf b hb).1⟩⟩
 done:=by
  intro X hP hw hK hc i pins s σ H E I hf st hg;subst hP hw hK;obtain⟨xs,hq,hx⟩:=hg;obtain⟨its,rv,p,hz⟩:=I.tuple hq;obtain⟨f0,f1,f2,f3,f4,f5⟩:=hf it (by simp);have hl:=rv.length;exact wpAny_pyNext_tuple_end (I.ok.hd hc) st (show s.heap.IsTuple a its.toArray from p) (by simp;omega) λh' eb=>⟨rfl,I.turned (t':=s.toks) (λb o hb e=>eb b o hb e) f0 f1 f3 f4 f5⟩
 self:=λ_ _ _ _ _ st h=>wpAny_pyIter_tupleiter st h
theorem ZFi{P:Program}{w:World}{K:PySem.W.Frag}{tg:Expr}(it:Addr)(lo:Int)(n:Nat):Turn P w K tg (Itr lo n) [it] it (λi h=>IsRangeIter h it (lo+(i:Nat)*1) ((n:Int)-(i:Nat)) 1) where
 mem:=by simp
 obj:=λi h st b hb=>by
  have e:b=it:=by simpa using hb
  subst e;exact⟨_,st,λv z=>by
   have z':Data.fields _=Data.cell v:=z;cases z'⟩
 keep:=λi h h' st k=>k it (by simp) _ st
 item:=by
  intro X hP hw hK hc i pins s σ H E I hf st hg;subst hP hw hK;obtain⟨f0,f1,f2,f3,f4,f5⟩:=hf it (by simp);have W:=Walks.range (prog:=X.prog) (w:=X.w) (I.ok.hd hc) it lo 1 n;refine W.item i s _ _ hg st λv h' tk hv st' kk=>?_
  obtain⟨t,rfl⟩:=hv;have I1:Inv X pins σ H { s with heap:=h',toks:=tk }:=I.turned (λb o hb e=>kk b o (by simpa using hb) e) f0 f1 f3 f4 f5;refine⟨_,rfl,ZHY (s:={ s with heap:=h',toks:=tk }) (n:="range_iterator") st' rfl rfl (by decide) ⟨.int (lo+i),H,I1,⟨t,?_⟩,⟨rfl,rfl⟩,st',λb hb=>(hf b hb).1⟩⟩;rw[Int.mul_one]
 done:=by
  intro X hP hw hK hc i pins s σ H E I hf st hg;subst hP hw hK;obtain⟨f0,f1,f2,f3,f4,f5⟩:=hf it (by simp);exact wpAny_pyNext_range_end (I.ok.hd hc) st (by have:n<=i:=hg;omega) λh' eb=>⟨rfl,I.turned (t':=s.toks) (λb o hb e=>eb b o hb e) f0 f1 f3 f4 f5⟩
 self:=λ_ _ _ _ _ st h=>wpAny_pyIter_rangeiter st h
section
variable{X:Cx}{tg:Expr}
theorem ZID{pins:List (Addr×Obj)}{σ : St}{H:Hp}{s:Shared}{R:It->Hp->Prop}{E:Value->Shared->Prop}{lo hi:Int}{t u v:Tok}{tk:Nat}(I:Inv X pins σ H s)(h1 : -(2 ^ 62)<=lo)(h2:lo<2 ^ 62)(h3 : -(2 ^ 62)<=hi)(h4:hi<2 ^ 62)
  (q:R (Itr lo (hi-lo).toNat) H):wpAny (model X.prog X.w) X.A (pyIter (.ref s.heap.objs.size)) (PIE X pins σ tg R) E { s with heap:=s.heap.push { cls:=.type "range",data:=.fields #[.int lo t,.int hi u,.int 1 v] },toks:=tk }:=by
 refine wpAny_pyIter_range (IsRange.new ..) (small_one h1 h2 h3 h4) ?_;have I1:Inv X pins σ H { s with heap:=s.heap.push { cls:=.type "range",data:=.fields #[.int lo t,.int hi u,.int 1 v] },toks:=tk }:=I.kept λb o e=>get?_push_of_some _ e
 refine⟨(s.heap.push { cls:=.type "range",data:=.fields #[.int lo t,.int hi u,.int 1 v] }).objs.size,[(s.heap.push { cls:=.type "range",data:=.fields #[.int lo t,.int hi u,.int 1 v] }).objs.size],_,_,H,rfl,
  I1.kept (t':=tk) λb o e=>get?_push_of_some _ e,ZFi _ lo (hi-lo).toNat,?_,λb hb=>?_,q⟩
 ·have e1:lo+((0:Nat):Int)*1=lo:=by simp
  have e2:(((hi-lo).toNat:Nat):Int)-((0:Nat):Int)=Builtin.Range.rangeSize lo hi 1:=by rw[rangeSize_one];split <;> omega
  show IsRangeIter _ _ (lo+((0:Nat):Int)*1) ((((hi-lo).toNat:Nat):Int)-((0:Nat):Int)) 1;rw[e1,e2];exact get?_push_size _ rfl
 ·have e:b=(s.heap.push { cls:=.type "range",data:=.fields #[.int lo t,.int hi u,.int 1 v] }).objs.size:=by simpa using hb
  subst e;exact I1.fpOk (le_refl _) (I1.hok.fresh (le_refl _))
def iRng1(ta:TA):TI:=λσ H R=>ta σ H λvs H1=>∃j:Int,vs=[.int j]/\-(2 ^ 62)<=j/\j<2 ^ 62/\R (Itr 0 j.toNat) H1
theorem ZGR{a:Expr}{ta:TA}{p pos:Pos}(hg:Gl X "range")(hm:X.mg "range" = none)(ha:PA X [a] ta)(hs:starEach [a] X.env=[(false,eval a X.env)]:=by rfl):PI X tg (.Call (.Name "range" p) [a] [] pos) (iRng1 ta):=by
 intro pins s σ H R I h;refine Call_ (ZA9 I hg hm boot_range (PyProof.Rows.callWith_type1 (thn (ha pos pins s σ H _ I h) λus s1 ⟨vs,H1,I1,r1,q1⟩=>?_) hs rfl));obtain⟨j,e,q1,q2,q⟩:=q1;subst e;cases r1 with
 |cons r rr =>
  cases rr;obtain⟨t,rfl⟩:=r;exact call_range_1 (ZID I1 (by omega) (by omega) q1 q2 (by simpa using q))
def tFor(wi:TI)(g:TG)(tb:TS):TS:=λD σ H=>wi σ H λJ H1=>∃W:Nat->Nat->St->Hp->Prop,(∃m,W 0 m σ H1)/\∀i m σ H,W i m σ H ->
 (J.stop i H/\D.nx σ H)∨(J.go i H/\∃N:St->Hp->Prop,(∀σ' H',N σ' H'->∃m',m'<m/\W (i+1) m' σ' H')/\∀x H',J.yld i H x H'->g x σ H' λσ2 H2=>tb { D with nx:=N,ct:=N,bk:=D.nx } σ2 H2)
def ZCC(fp:List Addr)(h:Heap):List (Addr×Obj):=fp.filterMap λb=>(h.get? b).map λo=>(b,o)
theorem ZA0{fp:List Addr}{h:Heap}{b:Addr}{o:Obj}(hb:b∈fp)(e:h.get? b=some o):(b,o)∈ZCC fp h:=List.mem_filterMap.mpr ⟨b,hb,by rw[e];rfl⟩
theorem ZGG{fp:List Addr}{h:Heap}{p:Addr×Obj}(hp:p∈ZCC fp h):p.1∈fp/\h.get? p.1=some p.2:=by
 obtain⟨b,hb,e⟩:=List.mem_filterMap.mp hp;cases q:h.get? b with
 |none=>rw[q] at e;cases e
 |some o =>
  rw[q] at e;have e':(b,o)=p:=Option.some.inj e;subst e';exact⟨hb,q⟩
theorem Inv.pinned{pins:List (Addr×Obj)}{σ : St}{H:Hp}{s:Shared}{fp:List Addr}(I:Inv X pins σ H s)(hf:∀b∈fp,ZCY X pins H b)(ho:∀b∈fp,∃o,s.heap.get? b=some o/\∀v,o.data≠.cell v):Inv X (pins++ZCC fp s.heap) σ H s :=
 I.pins_of λp hp=>(List.mem_append.mp hp).elim (λz=>I.pin p (mem_append_right _ z)) λz=>by
  obtain⟨hb,e⟩:=ZGG z;obtain⟨f0,f1,f2,_⟩:=hf p.1 hb;obtain⟨o,e',d⟩:=ho p.1 hb;rw[e] at e';cases e';exact⟨e,f0,f1,f2,d⟩
theorem Inv.unpinned{pins pl:List (Addr×Obj)}{σ : St}{H:Hp}{s:Shared}(I:Inv X (pins++pl) σ H s):Inv X pins σ H s:=I.pins_of λp hp=>I.pin p (mem_append_right _ (List.mem_append_left _ hp))
theorem ZKU{iter:Expr}{body:List Stmt}{wi:TI}{g:TG}{tb:TS}{pos:Pos}(hp:PassesOwn (model X.prog X.w) X.A X.env X.xe)(hc:X.calm=true)(hi:PI X tg iter wi)(hg:PG X tg g)(hb:PSs X body tb)
  (hs:∀x,foldedSetIterable iter X.env x=pure x:=by intro _;rfl):PS X (.For tg iter body [] pos) (tFor wi g tb):=by
 intro pins s σ H D I h;refine wpAny_For (thn (hi pins s σ H _ I h) λv s1 h1=>thn h1 λitv s2 h2=>?_) hs;obtain⟨it,fp,tn,J,H2,e,I2,T,st2,f2,W,⟨m0,w0⟩,turn⟩:=h2;subst e
 -- what stays true of the iterator's objects through the loop
 have stat:∀{H':Hp},(∀b∈fp,H' b=none)->∀b∈fp,ZCY X pins H' b:=λhn b hb=>⟨hn b hb,(f2 b hb).2⟩
 refine codeAny_forLoop_any (λn s'=>∃i σ' H',Inv X pins σ' H' s'/\tn i s'.heap/\(∀b∈fp,H' b=none)/\W i n σ' H') ?_ m0 ⟨0,σ,H2,I2,st2,λb hb=>(f2 b hb).1,w0⟩
 rintro n s3 ⟨i,σ3,H3,I3,st3,fr3,w3⟩
 rcases turn i n σ3 H3 w3 with ⟨stop,qn⟩|⟨go,N,hN,step⟩
 ·refine wpAny_passesOwn hp (thn (T.done X rfl rfl rfl hc i pins s3 σ3 H3 X.xe I3 (stat fr3) st3 stop) λr s4 ⟨hr,I4⟩=>?_)
  subst hr;exact wpAny_execs_nil ⟨σ3,H3,I4,qn⟩
 ·refine wpAny_passesOwn hp (thn (T.item X rfl rfl rfl hc i pins s3 σ3 H3 X.xe I3 (stat fr3) st3 go) λr s4 ⟨u,hr,h4⟩=>?_)
  subst hr;refine wpAny_passesOwn hp (thn h4 λ_ s5 ⟨x,H5,I5,r5,y5,st5,fr5⟩=>?_);have I5':=I5.pinned (stat fr5) (T.obj _ _ st5);refine wpAny_passesOwn hp (thn (hg _ s5 σ3 H5 x u _ I5' r5 (step x H5 y5)) λ_ s6 ⟨σ6,H6,I6,q6⟩=>?_);refine wpAny_passesOwn hp (thn (hb _ s6 σ6 H6 _ I6 q6) λf s7 q7=>?_);have again:∀{σ7:St} {H7:Hp},Inv X (pins++ZCC fp s5.heap) σ7 H7 s7->N σ7 H7->∃m,m<n/\∃i σ' H',Inv X pins σ' H' s7/\tn i s7.heap/\(∀b∈fp,H' b=none)/\W i m σ' H':=λ{σ7 H7} I7 n7=>by
   obtain⟨m',hm,w7⟩:=hN σ7 H7 n7;refine⟨m',hm,i+1,σ7,H7,I7.unpinned,T.keep _ _ _ st5 λb hb o e=>(I7.pin (b,o) (mem_append_right _ (mem_append_right _ (ZA0 hb e)))).1,λb hb=>?_,w7⟩;obtain⟨o,e,d⟩:=T.obj _ _ st5 b hb;exact(I7.pin (b,o) (mem_append_right _ (mem_append_right _ (ZA0 hb e)))).2.1
  cases f with
  |next=>obtain⟨σ7,H7,I7,n7⟩:=q7;exact again I7 n7
  |cont=>obtain⟨σ7,H7,I7,n7⟩:=q7;exact again I7 n7
  |brk=>obtain⟨σ7,H7,I7,q7⟩:=q7;exact⟨σ7,H7,I7.unpinned,q7⟩
  |ret v=>obtain⟨x7,σ7,H7,I7,r7,q7⟩:=q7;exact⟨x7,σ7,H7,I7.unpinned,r7,q7⟩
end
abbrev R2:=V->V->Hp->VK->Prop
def OpR(X:Cx)(f:Value->Value->Sem Value)(r:R2):Prop :=
 ∀(pins:List (Addr×Obj)) (s:Shared) (σ : St) (H:Hp) (x y:V) (v u:Value) (Q:VK),Inv X pins σ H s->ZV x v->ZV y u->r x y H Q ->
  wpAny (model X.prog X.w) X.A (f v u) (EP X pins σ Q) X.xe s
def ZM(X:Cx)(f:Value)(r:List V->Hp->VK->Prop):Prop :=
 ∀(pins:List (Addr×Obj)) (s:Shared) (σ : St) (H:Hp) (xs:List V) (us:List Value) (Q:VK),Inv X pins σ H s->ZK xs us->r xs H Q ->
  wpAny (model X.prog X.w) X.A (call f us) (EP X pins σ Q) X.xe s
def tOp(r:R2)(ta tb:TE):TE:=λσ H Q=>ta σ H λx H1=>tb σ H1 λy H2=>r x y H2 Q
def rI(C:Int->Int->Prop)(g:Int->Int->V):R2:=λx y H Q=>∃i j,x=.int i/\y=.int j/\C i j/\Q (g i j) H
def rI0(g:Int->Int->V):R2:=λx y H Q=>∃i j,x=.int i/\y=.int j/\Q (g i j) H
section
variable{X:Cx}{a b c:Expr}{ta tb tc:TE}{pos:Pos}
theorem ZKB(ha:PE X a ta)(hb:PE X b tb){pins:List (Addr×Obj)}{s:Shared}{σ : St}{H:Hp}{R:V->V->Hp->Prop}(I:Inv X pins σ H s)
  (h:ta σ H λx H1=>tb σ H1 λy H2=>R x y H2){Q:Value->Shared->Prop}{f:Value->Value->Sem Value}
  (hf:∀v u s2 x y H2,Inv X pins σ H2 s2->ZV x v->ZV y u->R x y H2->wpAny (model X.prog X.w) X.A (f v u) Q X.xe s2) :
  wpAny (model X.prog X.w) X.A (eval a X.env) (λv s₁=>wpAny (model X.prog X.w) X.A (eval b X.env) (λu s₂=>wpAny (model X.prog X.w) X.A (f v u) Q X.xe s₂) X.xe s₁) X.xe s:=by
 refine thn (ha pins s σ H _ I h) λv s1 ⟨x,H1,I1,r1,q1⟩=>?_
 refine thn (hb pins s1 σ H1 _ I1 q1) λu s2 ⟨y,H2,I2,r2,q2⟩=>?_
 exact hf v u s2 x y H2 I2 r1 r2 q2
theorem ZJs{op:Operator}{r:R2}(ho:OpR X (binaryOp op) r)(ha:PE X a ta)(hb:PE X b tb):PE X (.BinOp a op b pos) (tOp r ta tb):=by
 intro pins s σ H Q I h;exact wpAny_BinOp (ZKB ha hb I h λv u s2 x y H2 I2 rx ry q=>ho pins s2 σ H2 x y v u Q I2 rx ry q)
theorem opI{f:Value->Value->Sem Value}{C:Int->Int->Prop}{g:Int->Int->Int}
  (rule:∀(i j:Int) (t u:Tok) (s:Shared) (Q:Value->Shared->Prop) (E:Value->Shared->Prop),C i j->Q (.int (g i j) s.toks) { s with toks:=s.toks+1 }->wpAny (model X.prog X.w) X.A (f (.int i t) (.int j u)) Q E s) :
  OpR X f (rI C λi j=>.int (g i j)):=by
 intro pins s σ H x y v u Q I rx ry h;obtain⟨i,j,rfl,rfl,hc,q⟩:=h;obtain⟨t,rfl⟩:=rx;obtain⟨t',rfl⟩:=ry;exact rule i j t t' s _ _ hc ⟨.int (g i j),H,I.tok _,⟨_,rfl⟩,q⟩
theorem ZLt{f:Value->Value->Sem Value}{g:Int->Int->Int}
  (rule:∀(i j:Int) (t u:Tok) (s:Shared) (Q:Value->Shared->Prop) (E:Value->Shared->Prop),Q (.int (g i j) s.toks) { s with toks:=s.toks+1 }->wpAny (model X.prog X.w) X.A (f (.int i t) (.int j u)) Q E s) :
  OpR X f (rI0 λi j=>.int (g i j)):=by
 intro pins s σ H x y v u Q I rx ry h;obtain⟨i,j,rfl,rfl,q⟩:=h;obtain⟨t,rfl⟩:=rx;obtain⟨t',rfl⟩:=ry;exact rule i j t t' s _ _ ⟨.int (g i j),H,I.tok _,⟨_,rfl⟩,q⟩
theorem ZLE{f:Value->Value->Sem Value}{g:Int->Int->Bool}
  (rule:∀(i j:Int) (t u:Tok) (s:Shared) (Q:Value->Shared->Prop) (E:Value->Shared->Prop),Q (.bool (g i j)) s->wpAny (model X.prog X.w) X.A (f (.int i t) (.int j u)) Q E s) :
  OpR X f (rI0 λi j=>.bl (g i j)):=by
 intro pins s σ H x y v u Q I rx ry h;obtain⟨i,j,rfl,rfl,q⟩:=h;obtain⟨t,rfl⟩:=rx;obtain⟨t',rfl⟩:=ry;exact rule i j t t' s _ _ ⟨.bl (g i j),H,I,rfl,q⟩
def ZLx(i j:Int):Prop:=0<=j/\j<=1000000/\i.natAbs<2 ^ 64
def ZJL(i j:Int):Prop:=(-(2 ^ 64)<i/\i<2 ^ 64)∨(-(2 ^ 64)<j/\j<2 ^ 64)
theorem ZJL.ok{i j:Int}(h:ZJL i j):IntMulOk i j:=by
 rcases h with ⟨h1,h2⟩|⟨h1,h2⟩
 ·exact .of_left (intBits_le_64 h1 h2)
 ·exact .of_right (intBits_le_64 h1 h2)
theorem ZLi:OpR X (binaryOp .Add) (rI0 λi j=>.int (i+j)):=ZLt λ_ _ _ _ _ _ _ q=>add_int q
theorem ZKG:OpR X (binaryOp .Sub) (rI0 λi j=>.int (i-j)):=ZLt λ_ _ _ _ _ _ _ q=>sub_int q
theorem ZLk:OpR X (binaryOp .Mult) (rI ZJL λi j=>.int (i*j)):=opI λ_ _ _ _ _ _ _ hc q=>mul_int q hc.ok
theorem ZLH:OpR X (binaryOp .Mod) (rI (λ_ j=>0<j) λi j=>.int (i % j)):=opI λi j _ _ _ _ _ hc q=>by
 have h1:(0:Int)<j:=hc;exact mod_int' (by omega) (by rw[Int.fmod_eq_emod_of_nonneg i (by omega)];exact q)
theorem ZKF:OpR X (binaryOp .Pow) (rI ZLx λi j=>.int (i ^ j.toNat)):=opI λ_ _ _ _ _ _ _ hc q=>pow_int_small hc.1 hc.2.1 hc.2.2 q
end
section
variable{X:Cx}{a b c:Expr}{ta tb tc:TE}{pos:Pos}
theorem ZLW{pins:List (Addr×Obj)}{σ : St}{H:Hp}{s:Shared}{Q:VK}{k k':Bool}(I:Inv X pins σ H s)(q:Q (.bl k) H)(e:k=k'):EP X pins σ Q (.bool k') s:=by
 subst e;exact⟨.bl k,H,I,rfl,q⟩
theorem op_lt:OpR X (compareOp .Lt) (rI0 λi j=>.bl (decide (i<j))):=ZLE λ_ _ _ _ _ _ _ q=>lt_int q
theorem op_gt:OpR X (compareOp .Gt) (rI0 λi j=>.bl (decide (j<i))):=ZLE λ_ _ _ _ _ _ _ q=>gt_int q
theorem op_ge:OpR X (compareOp .GtE) (rI0 λi j=>.bl (decide (j<=i))):=ZLE λ_ _ _ _ _ _ _ q=>ge_int q
theorem ZGW:OpR X (compareOp .Lt) (λx y H Q=>∃i j,x=.str i/\y=.str j/\Q (.bl (decide (i.cps.toList<j.cps.toList))) H):=by
 intro pins s σ H x y v u Q I rx ry h;obtain⟨i,j,rfl,rfl,q⟩:=h;obtain⟨t,rfl⟩:=rx;obtain⟨t',rfl⟩:=ry;exact lt_str (ZLW I q rfl)
theorem ZHA(b:Expr){op:CmpOp}(h:op≠.In:=by decide)(h2:op≠.NotIn:=by decide):behindInMarks op b=false:=by
 have e1:(op == CmpOp.In)=false:=by cases op <;> first|rfl|exact absurd rfl h
 have e2:(op == CmpOp.NotIn)=false:=by cases op <;> first|rfl|exact absurd rfl h2
 cases b <;> simp[behindInMarks,e1,e2]
theorem ZIL{op:CmpOp}{r:R2}(ho:OpR X (compareOp op) r)(ha:PE X a ta)(hb:PE X b tb)(hm:behindInMarks op b=false):PE X (.Compare a [op] [b] pos) (tOp r ta tb):=by
 intro pins s σ H Q I h;exact wpAny_Compare1 (ZKB ha hb I h λv u s2 x y H2 I2 rx ry q=>ho pins s2 σ H2 x y v u Q I2 rx ry q) hm
def ZJy(t:TE):TT:=λσ H Q=>t σ H λx H'=>∃k,x=.bl k/\Q k H'
theorem ZJK{op:CmpOp}{r:R2}(ho:OpR X (compareOp op) r)(ha:PE X a ta)(hb:PE X b tb)(hm:behindInMarks op b=false):PT X (.Compare a [op] [b] pos) (ZJy (tOp r ta tb)):=by
 intro pins s σ H Q I h;refine wpAny_isTrue_Compare1 (thn (ha pins s σ H _ I h) λ v s1 ⟨x,H1,I1,r1,q1⟩=>thn (hb pins s1 σ H1 _ I1 q1) λ u s2 ⟨y,H2,I2,r2,q2⟩ =>
  thn (ho pins s2 σ H2 x y v u _ I2 r1 r2 q2) λc s3 ⟨z,H3,I3,r3,k,e,q3⟩=>?_) hm
 subst e;cases r3;exact wpAny_truthy_bool ⟨H3,I3,q3⟩
theorem ZER:(sizeLine:Nat)<2 ^ 63:=by rw[sizeLine_eq];decide
theorem ZFK:OpR X (binaryOp .Add) (λx y H Q=>∃i j,x=.str i/\y=.str j/\i.length+j.length<=sizeLine/\Q (.str (i++j)) H):=by
 intro pins s σ H x y v u Q I rx ry h;obtain⟨i,j,rfl,rfl,hz,q⟩:=h;obtain⟨t,rfl⟩:=rx;obtain⟨t',rfl⟩:=ry;exact add_str (λt' tk=>⟨.str (i++j),H,I.tok _,⟨_,rfl⟩,q⟩) hz
theorem ZAm{x:V}{us:List Value}(r:ZK [x] us):∃u,us=[u]/\ZV x u:=by
 cases r with
 |cons r1 r2=>cases r2;exact⟨_,rfl,r1⟩
theorem ZJo{x y:V}{us:List Value}(r:ZK [x,y] us):∃u w',us=[u,w']/\ZV x u/\ZV y w':=by
 cases r with
 |cons r1 r2 =>
  cases r2 with
  |cons r3 r4=>cases r4;exact⟨_,_,rfl,r1,r3⟩
theorem ZGo:ZM X (.builtin "abs") (λxs H Q=>∃i,xs=[.int i]/\Q (.int (if i<0 then -i else i)) H):=by
 intro pins s σ H xs us Q I r h;obtain⟨i,rfl,q⟩:=h;obtain⟨u,rfl,t,rfl⟩:=ZAm r;exact call_abs_int λu tk=>⟨.int (if i<0 then -i else i),H,I.tok _,⟨_,rfl⟩,q⟩
theorem ZGS(hc:X.calm=true):ZM X (.builtin "min") (λxs H Q=>∃i j,xs=[.int i,.int j]/\Q (.int (if j<i then j else i)) H):=by
 intro pins s σ H xs us Q I r h;obtain⟨i,j,rfl,q⟩:=h;obtain⟨u,w',rfl,⟨t,rfl⟩,⟨t',rfl⟩⟩:=ZJo r;refine min_two_ints (I.ok.hd hc) λh' tk k=>⟨_,H,I.kept k,?_,q⟩
 by_cases hj:j<i
 ·rw[if_pos hj,if_pos hj];exact⟨_,rfl⟩
 ·rw[if_neg hj,if_neg hj];exact⟨_,rfl⟩
theorem ZGa:ZM X (.type "int") (λxs H Q=>(∃i,xs=[.int i]/\Q (.int i) H)∨∃k,xs=[.bl k]/\Q (.int (if k then 1 else 0)) H):=by
 intro pins s σ H xs us Q I r h;rcases h with ⟨i,rfl,q⟩|⟨k,rfl,q⟩
 ·obtain⟨u,rfl,t,rfl⟩:=ZAm r
  exact call_int_int ⟨.int i,H,I,⟨_,rfl⟩,q⟩
 ·obtain⟨u,rfl,r1⟩:=ZAm r
  cases r1;exact call_int_bool ⟨.int (if k then 1 else 0),H,I.tok _,⟨_,rfl⟩,q⟩
end
structure Room (k:Nat) (A:Around):Prop where
 hd:A.handled=none
 dp:A.depth+3*k+5<recursionLimit
 un:A.units+16*k+200<cLine
 gd:A.guards=some []
theorem Room.mono{j k:Nat}{A:Around}(r:Room k A)(h:j<=k):Room j A:=⟨r.hd,by have:=r.dp;omega,by have:=r.un;omega,r.gd⟩
theorem Room.deeper{k:Nat}{A:Around}(r:Room (k+1) A)(env:Env):Room k (A.deeper env) :=
 ⟨r.hd,by have:=r.dp;show A.depth+1+3*k+5<_;omega,by have:=r.un;show A.units+3+16*k+200<_;omega,r.gd⟩
theorem Room.depth{k:Nat}{A:Around}(r:Room k A):A.depth<recursionLimit:=by have:=r.dp;omega
theorem Room.units{k:Nat}{A:Around}(r:Room k A):A.units+64<cLine:=by have:=r.un;omega
def tNil:TA:=λ_ H Q=>Q [] H
def tCons(ta:TE)(tr:TA):TA:=λσ H Q=>ta σ H λx H1=>tr σ H1 λxs H2=>Q (x::xs) H2
section
variable{X:Cx}{e:Expr}{es:List Expr}{te:TE}{t:TA}{pos:Pos}
theorem ZFd:PA X [] tNil:=λ_ _ _ _ H Q I h=>Calls.spliced_nil ⟨[],H,I,.nil,h⟩
theorem ZD8(ha:PE X e te)(hr:PA X es t)(hs:starEach (e::es) X.env=(false,eval e X.env)::starEach es X.env:=by rfl):PA X (e::es) (tCons te t):=by
 intro pos pins s σ H Q I h;rw[hs];show wpAny _ _ (spliced ((false,eval e X.env)::backTo pos (starEach es X.env))) _ _ s;refine Calls.spliced_cons (thn (ha pins s σ H _ I h) λu s1 ⟨x,H1,I1,r1,q1⟩=>?_);exact thn (hr pos pins s1 σ H1 _ I1 q1) λus s2 ⟨xs,H2,I2,r2,q2⟩=>⟨x::xs,H2,I2,.cons r1 r2,q2⟩
def tTup(t:TA):TE:=λσ H Q=>t σ H λxs H1=>xs.length<=sizeLine/\∀p,H1 p=none->Q (.ref p) (upd H1 p (.tup xs))
def tLst(t:TA):TE:=λσ H Q=>t σ H λxs H1=>xs.length<=sizeLine/\∀p,H1 p=none->Q (.ref p) (upd H1 p (.lst xs))
theorem ZHi{x1}(h:PA X es t):PE X (.Tuple es x1 pos) (tTup t):=by
 intro pins s σ H Q I hq;refine wpAny_Tuple_spliced (thn (h pos pins s σ H _ I hq) λus s1 ⟨xs,H1,I1,r,z,q⟩=>⟨by rw[←r.length];exact z,?_⟩);have hf:H1 s1.heap.objs.size=none:=I1.hok.fresh (le_refl _);refine⟨.ref s1.heap.objs.size,upd H1 s1.heap.objs.size (.tup xs),I1.laid (t':=s1.toks) (λb u e=>get?_push_of_some _ e) (le_refl _) ?_,rfl,q _ hf⟩;exact⟨z,us,r,⟨_,get?_push_size _ rfl,rfl,_,rfl⟩⟩
theorem ZFM(h:PA X es t):PE X (.List es pos) (tLst t):=by
 intro pins s σ H Q I hq;refine wpAny_List_spliced (thn (h pos pins s σ H _ I hq) λus s1 ⟨xs,H1,I1,r,z,q⟩=>⟨by rw[←r.length];exact z,?_⟩);have hf:H1 s1.heap.objs.size=none:=I1.hok.fresh (le_refl _);refine⟨.ref s1.heap.objs.size,upd H1 s1.heap.objs.size (.lst xs),I1.laid (t':=s1.toks) (λb u e=>get?_push_of_some _ e) (le_refl _) ?_,rfl,q _ hf⟩;exact⟨z,us,0,r,get?_push_size _ rfl⟩
end
abbrev Sp:=List V->Hp->VK->XK->Prop
abbrev CXT:=List Env->Hp->Shared->XK->Value->Shared->Prop
structure Env0 (P:Program) (w:World) (K:PySem.W.Frag) (mg:Str->Option Value) (base:Heap) (A:Around) (outer:List Env) (s:Shared) (H:Hp):Prop where
 frames:A.frames=some outer
 mod:Mod K mg base
 bs:∀b o,base.get? b=some o->s.heap.get? b=some o/\H b=none
 bsz:base.objs.size<=s.heap.objs.size
 funs:s.heap.FunFrames base outer
 frf:∀b∈frs outer,H b=none
 hok:HOk P w H s.heap
 bare:AllBare s.gens
def CE(outer:List Env)(P:Program)(w:World)(H:Hp)(s:Shared)(Q:VK)(u:Value)(s':Shared):Prop :=
 ∃v H',s'.os=s.os/\AllBare s'.gens/\Un (frs outer) [] H H' s.heap s'.heap/\HOk P w H' s'.heap/\ZV v u/\Q v H'
def CR(CX:CXT)(outer:List Env)(P:Program)(w:World)(H:Hp)(s:Shared)(Q:VK)(E:XK)(r:Result)(s':Shared):Prop :=
 match r with
 |.ok (.ret u)=>CE outer P w H s Q u s'
 |.ok _=>False
 |.error e=>CX outer H s E e s'
structure FnOk (P:Program) (w:World) (K:PySem.W.Frag) (mg:Str->Option Value) (base:Heap) (CX:CXT) (k:Nat) (f:Addr) (fd:FuncData) (ps:List Str) (sp:Sp):Prop where
 len:∀vs H Q E,sp vs H Q E->vs.length=ps.length
 run:∀(A:Around) (outer:List Env) (s:Shared) (H:Hp) (args:Args) (us:List Value) (vs:List V) (Q:VK) (E:XK),Room k A->Env0 P w K mg base A outer s H->BindsTo s fd args (ps.zip us)->ZK vs us->sp vs H Q E ->
  codeAny (model P w) A (.call (.ref f) args) (CR CX outer P w H s Q E) s
theorem FnOk.imp{P:Program}{w:World}{K:PySem.W.Frag}{mg:Str->Option Value}{base:Heap}{CX:CXT}{k:Nat}{f:Addr}{fd:FuncData}{ps:List Str}{sp sp':Sp}(F:FnOk P w K mg base CX k f fd ps sp)
  (h:∀vs H Q E,sp' vs H Q E->sp vs H Q E):FnOk P w K mg base CX k f fd ps sp' :=
 ⟨λvs H Q E q=>F.len vs H Q E (h _ _ _ _ q),λA outer s H args us vs Q E hr he hb hv hs=>F.run A outer s H args us vs Q E hr he hb hv (h _ _ _ _ hs)⟩
section
variable{X:Cx}{pins:List (Addr×Obj)}{σ : St}{H:Hp}{s s':Shared}
theorem Inv.env0(I:Inv X pins σ H s):Env0 X.prog X.w X.K X.mg X.base X.A X.stack s H :=
 ⟨I.ok.frames,I.ok.mod,I.bs,le_trans I.ok.bsz I.sz,I.stack,I.stkFree,I.hok,I.bare⟩
theorem Inv.after{Q:VK}{u:Value}(I:Inv X pins σ H s)(h:CE X.stack X.prog X.w H s Q u s'):EP X pins σ Q u s':=by
 obtain⟨v,H',os,bare,un,hok,r,q⟩:=h;obtain⟨hh,g,d,t,os'⟩:=s';obtain rfl:os'=s.os:=os;exact⟨v,H',I.call (h':=hh) (g':=g) (d':=d) (t':=t) (ch:=[]) un hok bare (λb z=>absurd z (by simp)),r,q⟩
end
def ZJ2(sp:Sp)(dvs:List V)(E:XK)(t:TA):TE:=λσ H Q=>t σ H λvs H1=>sp (vs++dvs) H1 Q E
def ZDu(K:PySem.W.Frag)(fd:FuncData)(ps:List Str)(ds:List Value):Prop :=
 ∀(s:Shared) (us:List Value),K.In s.heap->(us++ds).length=ps.length->BindsTo s fd ⟨us,[]⟩ (ps.zip (us++ds))
theorem ZDu.all{K:PySem.W.Frag}{fd:FuncData}{ps:List Str}(h:∀us:List Value,us.length=ps.length->bindArgs fd ⟨us,[]⟩=pure (ps.zip us)):ZDu K fd ps []:=λs us _ hl=>by
 rw[append_nil] at hl ⊢;exact .of_eq (h us hl)
def ZFF(CX:CXT)(X:Cx)(E:XK):Prop:=∀(pins:List (Addr×Obj)) (σ : St) (H:Hp) (s:Shared) (e:Value) (s':Shared),Inv X pins σ H s->CX X.stack H s E e s'->X.xe e s'
section
variable{X:Cx}{CX:CXT}{k:Nat}{f C:Addr}{fd:FuncData}{ps:List Str}{sp:Sp}{dvs:List V}{ds:List Value}{E:XK}{x m:Str}{p pos apos:Pos}{e o:Expr}{es:List Expr}{ta:TE}{t:TA}
theorem ZLS{pins:List (Addr×Obj)}{σ : St}{H:Hp}{s:Shared}{Q:VK}{us:List Value}{vs:List V}(F:FnOk X.prog X.w X.K X.mg X.base CX k f fd ps sp)(hr:Room k X.A)(hb:ZDu X.K fd ps ds)(hd:ZK dvs ds)(hx:ZFF CX X E)
  (I:Inv X pins σ H s)(r:ZK vs us)(h:sp (vs++dvs) H Q E):wpAny (model X.prog X.w) X.A (call (.ref f) us) (EP X pins σ Q) X.xe s:=by
 have r2:ZK (vs++dvs) (us++ds):=r.append hd;have hl:(us++ds).length=ps.length:=by rw[←r2.length];exact F.len _ _ _ _ h
 refine wpAny_call (codeAny_mono (F.run X.A X.stack s H ⟨us,[]⟩ (us++ds) (vs++dvs) Q E hr I.env0 (hb s us I.kIn hl) r2 h) λr s' hq=>?_);cases r with
 |error e=>exact hx pins σ H s e s' I hq
 |ok fl =>
  cases fl with
  |ret u=>exact I.after hq
  |next=>exact False.elim hq
  |brk=>exact False.elim hq
  |cont=>exact False.elim hq
theorem ZJM(F:FnOk X.prog X.w X.K X.mg X.base CX k f fd ps sp)(hr:Room k X.A)(hg:Gl X x)(hm:X.mg x=some (.ref f))(hk:PySem.W.keepIn X.K (.ref f)=true)(hb:ZDu X.K fd ps ds)(hd:ZK dvs ds)(hx:ZFF CX X E)
  (ha:PA X (e::es) t)(hdb:(x == ("__debug__" : Str))=false:=by decide)(he:starEach (e::es) X.env=(false,eval e X.env)::starEach es X.env:=by rfl)(hpl:(backTo pos (starEach es X.env)).any (·.1)=false:=by rfl) :
  PE X (.Call (.Name x p) (e::es) [] pos) (ZJ2 sp dvs E t):=by
 intro pins s σ H Q I h;refine wpAny_Call_Name_kw (ZJl I hg hm ?_ hdb);refine PySem.W.callWith_K (h₀:=X.base) I.ok.mod.kin hk (thn (ha pos pins s σ H _ I h) λus s1 ⟨vs,H1,I1,r,q⟩=>⟨I1.kIn,?_⟩) he hpl;exact ZLS F hr hb hd hx I1 r q
end
structure FnScope (N P:List Str) (sc:Scope):Prop where
 kind:sc.kind=.function
 co:sc.isCoroutine=false
 gen:sc.isGenerator=false
 nd:N.Nodup
 pre:N.take P.length=P
 par:∀x∈P,sc.names.lookup x=some .local∨sc.names.lookup x=some .cell
 nofree:∀y∈sc.names,y.2≠.free
theorem ZDx{kindOf:Str->Option NameKind}{x:Str}:∀{binds:List (Str×Value)} {m:Str->Option Value},(∀v,(x,v)∉binds)->bindL kindOf binds m x=m x
 |[],_,_=>rfl
 |(n,v)::r,m,h=>by
  unfold bindL;rw[ZDx λw hw=>h w (mem_cons_of_mem _ hw)]
  split
  ·have:x≠n:=by rintro rfl;exact h v mem_cons_self
   simp[this]
  ·rfl
theorem ZD0{kindOf:Str->Option NameKind}{x:Str}:∀{binds:List (Str×Value)} {m:Str->Option Value},(∀v,(x,v)∉binds)->bindC kindOf binds m x=m x
 |[],_,_=>rfl
 |(n,v)::r,m,h=>by
  unfold bindC;rw[ZD0 λw hw=>h w (mem_cons_of_mem _ hw)]
  split
  ·rfl
  ·have:x≠n:=by rintro rfl;exact h v mem_cons_self
   simp[this]
theorem ZDz{kindOf:Str->Option NameKind}{x:Str}{v:Value}:∀{P:List Str} {vs:List Value} {i:Nat} {m:Str->Option Value},P.Nodup->P[i]? = some x->vs[i]? = some v->kindOf x=some .local ->
  bindL kindOf (P.zip vs) m x=some v
 |[],_,_,_,_,h,_,_=>by simp at h
 |_::_,[],_,_,_,_,h,_=>by simp at h
 |p::P,w::vs,0,m,nd,h1,h2,hk=>by
  simp at h1 h2;subst h1;subst h2;show bindL kindOf ((p,w)::P.zip vs) m p=_;unfold bindL;rw[ZDx λv hv=>(List.nodup_cons.mp nd).1 (of_mem_zip hv).1,if_pos hk];simp
 |p::P,w::vs,i+1,m,nd,h1,h2,hk=>by
  show bindL kindOf ((p,w)::P.zip vs) m x=_;unfold bindL;exact ZDz (i:=i) (List.nodup_cons.mp nd).2 (by simpa using h1) (by simpa using h2) hk
theorem ZDm{kindOf:Str->Option NameKind}{x:Str}{v:Value}:∀{P:List Str} {vs:List Value} {i:Nat} {m:Str->Option Value},P.Nodup->P[i]? = some x->vs[i]? = some v->kindOf x≠some .local ->
  bindC kindOf (P.zip vs) m x=some v
 |[],_,_,_,_,h,_,_=>by simp at h
 |_::_,[],_,_,_,_,h,_=>by simp at h
 |p::P,w::vs,0,m,nd,h1,h2,hk=>by
  simp at h1 h2;subst h1;subst h2;show bindC kindOf ((p,w)::P.zip vs) m p=_;unfold bindC;rw[ZD0 λv hv=>(List.nodup_cons.mp nd).1 (of_mem_zip hv).1,if_neg hk];simp
 |p::P,w::vs,i+1,m,nd,h1,h2,hk=>by
  show bindC kindOf ((p,w)::P.zip vs) m x=_;unfold bindC;exact ZDm (i:=i) (List.nodup_cons.mp nd).2 (by simpa using h1) (by simpa using h2) hk
def ZBy(N:List Str)(vs:List V):St:=vs.map some++List.replicate (N.length-vs.length) none
def ZEy(CX:CXT)(P:Program)(w:World)(K:PySem.W.Frag)(mg:Str->Option Value)(base:Heap)(N:List Str)(qual:Str)(scope:Scope)(f:Addr)(cd:Value)(A:Around)(outer:List Env)(s:Shared)(H:Hp)(E:XK):Cx where
 prog:=P
 w:=w
 K:=K
 mg:=mg
 base:=base
 A:=A.deeper (envOfC qual scope s.heap.objs.size f cd)
 N:=N
 s₀:=s
 H₀:=H
 env:=envOfC qual scope s.heap.objs.size f cd
 outer:=outer
 stack:=envOfC qual scope s.heap.objs.size f cd::outer
 ex:=[]
 calm:=true
 fn:=λ_=>true
 pn:=[]
 xe:=λe s'=>wpAny (model P w) (A.deeper (envOfC qual scope s.heap.objs.size f cd)) (leaving (envOfC qual scope s.heap.objs.size f cd) e) (λ_ s''=>CX outer H s E e s'') (λe' s''=>CX outer H s E e' s'') s'
theorem ZE7{sc:Scope}{n:Nat}{x:Str}(h:sc.names.lookup x=some .cell):∃c,(cellsFrom n sc.names []).lookup x=some c:=by
 have q:=PySem.W.cellsFrom_some sc.names n [] (.inl h);exact Option.isSome_iff_exists.mp q
theorem ZGg{CX:CXT}{P:Program}{w:World}{K:PySem.W.Frag}{mg:Str->Option Value}{base:Heap}{N ps:List Str}{qual:Str}{scope:Scope}{f:Addr}{cd:Value}{A:Around}{outer:List Env}{s s1:Shared}{H:Hp}{E:XK}{us:List Value}{vs:List V}
  (S:FnScope N ps scope)(hd:A.handled=none)(e0:Env0 P w K mg base A outer s H)(hl:vs.length=ps.length)(r:ZK vs us)
  (x:InCallC s s.heap.objs.size (bindL (envOfC qual scope s.heap.objs.size f cd).kindOf (ps.zip us) λ_=>none) (cellsFrom (s.heap.objs.size+1) scope.names []) (bindC (envOfC qual scope s.heap.objs.size f cd).kindOf (ps.zip us) λ_=>none) s1) :
  Inv (ZEy CX P w K mg base N qual scope f cd A outer s H E) [] (ZBy N vs) H s1:=by
 have hpl:ps.length<=N.length:=by have:=congrArg List.length S.pre;rw[length_take] at this;omega
 obtain⟨h1,tk,rfl,hk⟩:=x.done;have noA:∀b:Addr,b∉(ZEy CX P w K mg base N qual scope f cd A outer s H E).ex:=λb z=>absurd (show b∈([]:List Addr) from z) (by simp)
 refine⟨⟨e0.mod,S.kind,rfl,rfl,le_refl _,λy z c h1 h2=>?_,λy hy=>?_,λy c _ h=>?_,λ_=>hd,Around.frames_deeper e0.frames,.inr ⟨rfl,rfl⟩,λb z=>absurd z (noA b),e0.bs,e0.bsz,λb _ _=>noA b,λb z=>absurd z (noA b),e0.funs,e0.frf⟩,
  rfl,e0.bare,Un.kept hk,⟨_,x.toInCall.ns,λi y v h1 h2 h3=>?_⟩,λy c h=>⟨_,x.cell y c h⟩,e0.hok.fresh (le_refl _),λy c h=>?_,λp hp=>absurd (show p∈([]:List (Addr×Obj)) from hp) (by simp),e0.hok.kept hk,?_⟩
 ·exact name_of_addr x.apart (PySem.mem_of_lookup h1) (PySem.mem_of_lookup h2)
 ·have hy:scope.names.lookup y=some .cell∨scope.names.lookup y=some .free:=hy
  rcases hy with hy|hy
  ·exact ZE7 hy
  ·exact absurd rfl (S.nofree _ (PySem.mem_of_lookup hy))
 ·exact le_of_lt (x.above y c (PySem.mem_of_lookup h))
 ·have hi:i<vs.length:=by
   unfold ZBy at h2
   by_cases hi:i<vs.length
   ·exact hi
   ·rw[getElem?_append_right (by simpa using hi)] at h2
    rw[getElem?_replicate] at h2
    split at h2 <;> cases h2
  have ha:vs[i]? = some v:=by
   unfold ZBy at h2;rw[getElem?_append_left (by simpa using hi),getElem?_map] at h2;cases e:vs[i]? with
   |none=>rw[e] at h2;cases h2
   |some a=>rw[e] at h2;cases h2;rfl
  obtain⟨u,hu,rv⟩:=r.get ha;have hp:ps[i]? = some y:=by
   rw[←S.pre,List.getElem?_take_of_lt (by omega)];exact h1
  have ndP:ps.Nodup:=by rw[←S.pre];exact S.nd.sublist (List.take_sublist _ _)
  refine⟨u,rv,?_⟩;rcases S.par y (mem_of_getElem? hp) with k|k
  ·exact .inl ⟨k,ZDz ndP hp hu k⟩
  ·obtain⟨c,e⟩:=ZE7 (n:=s.heap.objs.size+1) k
   refine .inr ⟨.inl k,c,e,?_⟩;have q:=x.cell y c e;rw[ZDm ndP hp hu (by show scope.names.lookup y≠_;rw[k];decide)] at q;exact q
 ·exact e0.hok.fresh (le_of_lt (x.above y c (PySem.mem_of_lookup h)))
 ·unfold ZBy
  show _=N.length;rw[length_append,length_map,length_replicate];omega
theorem fn_of{CX:CXT}{P:Program}{w:World}{K:PySem.W.Frag}{mg:Str->Option Value}{base:Heap}{k:Nat}{f:Addr}{name qual:Str}{params:Arguments}{body:List Stmt}{scope:Scope}{dV kV doc pm cdv ct oc:Value}{an od:Option Addr}
  {osl:Array (Option Value)}{N ps:List Str}{sp:Sp}(lk:K.lookup f=some ⟨oc,od,.func (PySem.W.fnOf name qual params body scope dV kV doc pm an cdv ct),osl⟩)(hcd:PySem.W.codeIn K cdv qual=true)(S:FnScope N ps scope)
  (len:∀vs H Q E,sp vs H Q E->vs.length=ps.length)
  (hbody:∀ (A:Around) (outer:List Env) (s:Shared) (H:Hp) (vs:List V) (Q:VK) (E:XK),Room k (A.deeper (envOfC qual scope s.heap.objs.size f cdv))->sp vs H Q E ->
   ∃t,PSs (ZEy CX P w K mg base N qual scope f cdv A outer s H E) body t/\t { nx:=λ_ H'=>Q .non H',rt:=Q } (ZBy N vs) H) :
  FnOk P w K mg base CX (k+1) f (PySem.W.fnOf name qual params body scope dV kV doc pm an cdv ct) ps sp:=by
 refine⟨len,λA outer s H args us vs Q E hr e0 hb r hsp=>?_⟩;have hl:=len _ _ _ _ hsp;have KX:K.In s.heap:=e0.mod.kin.keeps λb o e=>(e0.bs b o e).1
 have lim:s.heap.NoLimit:=e0.mod.nolimit.keeps λb o e=>(e0.bs b o e).1
 have hkind:∀y∈ps.zip us,scope.names.lookup y.1=some .local∨(scope.names.lookup y.1=some .cell/\((cellsFrom (s.heap.objs.size+1) scope.names []).lookup y.1).isSome=true):=λ⟨n,v⟩ hy=>by
  rcases S.par n (of_mem_zip hy).1 with q|q
  ·exact .inl q
  ·exact .inr ⟨q,PySem.W.cellsFrom_some _ _ _ (.inl q)⟩
 refine codeAny_call_function hr.depth (KX _ _ lk) rfl S.co S.gen rfl (PySem.W.codeRec_of KX hcd) (hb _ _ _ _ ?_);refine wpAny_newFunctionEnv_cells S.kind hkind λenv he s1 x=>?_
 subst he;refine⟨lim.keeps x.toInCall.keep,codeAny_func ?_⟩;obtain⟨t,ht,hq⟩:=hbody A outer s H vs Q E (hr.deeper _) hsp;have I:Inv (ZEy CX P w K mg base N qual scope f cdv A outer s H E) [] (ZBy N vs) H s1:=ZGg S hr.hd e0 hl r x;refine wpAny_mono (ht [] s1 (ZBy N vs) H _ I hq) (λfl s' hs=>?_) λe s' hs=>hs
 have fin:∀{σ':St} {H':Hp} {v:V} {u:Value},Inv (ZEy CX P w K mg base N qual scope f cdv A outer s H E) [] σ' H' s'->ZV v u->Q v H'->CE outer P w H s Q u s' :=
  λ{σ' H' v u} J rv q=>⟨v,H',J.os,J.bare,J.base,J.hok,rv,q⟩
 cases fl with
 |ret u =>
  obtain⟨v,σ',H',J,rv,q⟩:=hs;exact fin J rv q
 |next =>
  obtain⟨σ',H',J,q⟩:=hs;exact fin (v:=V.non) (u:=Value.none) J rfl q
 |brk =>
  obtain⟨_,_,_,q⟩:=hs;exact False.elim q
 |cont =>
  obtain⟨_,_,_,q⟩:=hs;exact False.elim q
section
variable{X:Cx}{x:Str}{p pos:Pos}{e:Expr}{es:List Expr}{t:TA}{id T:String}{r:List V->Hp->VK->Prop}
def tCB(r:List V->Hp->VK->Prop)(t:TA):TE:=λσ H Q=>t σ H λvs H1=>r vs H1 Q
theorem ZHB(hc:ZM X (.builtin id) r)(hg:Gl X x)(hm:X.mg x=none)(hv:bootBuiltins x=some (.builtin id))(ha:PA X (e::es) t)(hn:x≠"__name__":=by decide)(hdb:(x == ("__debug__" : Str))=false:=by decide)
  (he:starEach (e::es) X.env=(false,eval e X.env)::starEach es X.env:=by rfl)(hpl:(backTo pos (starEach es X.env)).any (·.1)=false:=by rfl):PE X (.Call (.Name x p) (e::es) [] pos) (tCB r t):=by
 intro pins s σ H Q I h;refine wpAny_Call_Name_kw (ZA9 I hg hm hv ?_ hn hdb);exact PyProof.Rows.callWith_builtin1 (thn (ha pos pins s σ H _ I h) λus s1 ⟨vs,H1,I1,r1,q1⟩=>hc pins s1 σ H1 vs us Q I1 r1 q1) he hpl
theorem ZCB(hc:ZM X (.type T) r)(hg:Gl X x)(hm:X.mg x=none)(hv:bootBuiltins x=some (.type T))(ha:PA X (e::es) t)(hn:x≠"__name__":=by decide)(hdb:(x == ("__debug__" : Str))=false:=by decide)
  (he:starEach (e::es) X.env=(false,eval e X.env)::starEach es X.env:=by rfl)(hpl:(backTo pos (starEach es X.env)).any (·.1)=false:=by rfl):PE X (.Call (.Name x p) (e::es) [] pos) (tCB r t):=by
 intro pins s σ H Q I h;refine wpAny_Call_Name_kw (ZA9 I hg hm hv ?_ hn hdb);exact PyProof.Rows.callWith_type1 (thn (ha pos pins s σ H _ I h) λus s1 ⟨vs,H1,I1,r1,q1⟩=>hc pins s1 σ H1 vs us Q I1 r1 q1) he hpl
end
end L2
namespace HT
open PySem PyProof.Rows
def lexLt:List Int->List Int->Bool
 |[],[]=>false
 |[],_::_=>true
 |_::_,[]=>false
 |x::xs,y::ys=>if x=y then lexLt xs ys else decide (x<y)
theorem ZFT(x y:Int)(xs ys:List Int):lexLt (x::xs) (y::ys)=if x=y then lexLt xs ys else decide (x<y):=rfl
theorem ZDT:lexLt [] []=false:=rfl
theorem ZCr(y:Int)(ys:List Int):lexLt [] (y::ys)=true:=rfl
theorem ZC8(x:Int)(xs:List Int):lexLt (x::xs) []=false:=rfl
theorem ZDG(A:Around)(s:Shared)(a:Int)(t:Tok)(c:Int)(u:Tok):∃e,SeqAt.EqAt A s (.int a t) (.int c u) e/\(e=true ↔ a=c) :=
 ⟨(a == c),SeqAt.EqAt.int_int a t c u,by simp⟩
theorem ZHr(A:Around)(s:Shared)(a:Int)(t:Tok)(c:Int)(u:Tok)(prog:Program)(w:World)(E:Value->Shared->Prop)(Q:Value->Shared->Prop)(h:Q (.bool (decide (a<c))) s) :
  wpAny (model prog w) A (richCompare .Lt (.int a t) (.int c u)) Q E s :=
 (PyProof.Rows.lt_int h:wpAny (model prog w) A (compareOp .Lt (.int a t) (.int c u)) Q E s)
section
open PySem.SeqAt
open PySem.AutoSeq1 (wpAny_loadPart')
open PySem.MeetsSeq PySem.MeetsSeq2 PySem.MeetsSeq3
theorem ZDY(l b:Addr)(items items2:Array Value)(n n2:Nat)(dd dd2:Option Addr)(sl sl2:Array (Option Value))(ns ms:List Int)(hi:IntsAre items.toList ns)(hj:IntsAre items2.toList ms) :
  Meets (Builtin.«tuple.__lt__» ⟨[.ref l,.ref b],[]⟩)
   (λ _ R s=>s.heap.get? l=some { cls:=.type "tuple",dict:=dd,data:=.seq items n,slots:=sl }/\s.heap.get? b=some { cls:=.type "tuple",dict:=dd2,data:=.seq items2 n2,slots:=sl2 } /\
    R (.ok (.ret (.bool (lexLt ns ms)))) s) :=
 .of_wp λprog w A R s h=>by
  obtain⟨hp,g,d,tk,os⟩:=s;obtain⟨hl,hb,h⟩:=h;have f2:=AutoSeq1.sub_tuple_tuple;have z1:items.size=ns.length:=by rw[←hi.length];simp
  have z2:items2.size=ms.length:=by rw[←hj.length];simp
  wp_walk using wpAny_loadPart' hl,wpAny_loadPart' hb,wpAny_forIn_list _ (λ rest b s'=>b.1=none/\s'=⟨hp,g,d,tk,os⟩/\∃ (vs ws:List Value) (ns' ms':List Int),rest=vs.zip ws /\
   IntsAre vs ns'/\IntsAre ws ms'/\ns'.length+items2.size=ms'.length+items.size/\R (.ok (.ret (.bool (lexLt ns' ms')))) ⟨hp,g,d,tk,os⟩) _
  case turn =>
   rintro ⟨y,x⟩ rest b s' ⟨hb',rfl,vs,ws,ns',ms',hz,hvi,hwi,hlen,hR⟩
   cases hvi with
   |nil=>rw[zip_nil_left] at hz;cases hz
   |cons a t hvi' =>
    cases hwi with
    |nil=>rw[List.zip_nil_right] at hz;cases hz
    |cons c u hwi' =>
     rw[zip_cons_cons] at hz;injection hz with hyx hrest
     injection hyx with hy hx
     subst hy hx;rw[ZFT] at hR;simp only[length_cons] at hlen;obtain⟨e,he,hiff⟩:=ZDG A.in1 ⟨hp,g,d,tk,os⟩ a t c u;refine wpAny_bind (he prog w _ _ ?_);cases e with
     |true =>
      rw[if_pos (hiff.mp rfl)] at hR
      wp_walk
      exact⟨rfl,rfl,_,_,_,_,hrest,hvi',hwi',by omega,hR⟩
     |false =>
      rw[if_neg (λq=>absurd (hiff.mpr q) Bool.false_ne_true)] at hR;have hri:=ZHr A.in1 ⟨hp,g,d,tk,os⟩ a t c u prog w
      wp_walk using hri
      exact⟨_,rfl,by simpa using hR⟩
  case fin =>
   rintro ⟨b1,b2⟩ s' ⟨hb',rfl,vs,ws,ns',ms',hz,hvi,hwi,hlen,hR⟩
   simp only at hb';subst hb';have hv:lexLt ns' ms'=decide (items.size<items2.size):=by
    cases hvi with
    |nil =>
     cases hwi with
     |nil =>
      simp only[length_nil] at hlen;rw[ZDT];exact(decide_eq_false (by omega)).symm
     |cons c u hw =>
      simp only[length_nil,length_cons] at hlen;rw[ZCr];exact(decide_eq_true (by omega)).symm
    |cons a t hv =>
     cases hwi with
     |nil =>
      simp only[length_nil,length_cons] at hlen;rw[ZC8];exact(decide_eq_false (by omega)).symm
     |cons c u hw =>
      rw[zip_cons_cons] at hz;cases hz
   rw[hv] at hR
   wp_walk
   exact⟨_,rfl,by simpa [Builtin.Tuple.tupleCompareSizes] using hR⟩
  case h =>
   exact⟨rfl,rfl,items.toList,items2.toList,ns,ms,rfl,hi,hj,by omega,h⟩
end
section
variable{prog:Program}{w:World}{A:Around}{E:Value->Shared->Prop}{s:Shared}
theorem lt_tupInts{l b:Addr}{items items2:Array Value}{ns ms:List Int}{Q:Value->Shared->Prop}(hl:IsTup s.heap l items)(hb:IsTup s.heap b items2)(hi:IntsAre items.toList ns)(hj:IntsAre items2.toList ms)
  (hu:A.units<cLine)(h:Q (.bool (lexLt ns ms)) s):wpAny (model prog w) A (compareOp .Lt (.ref l) (.ref b)) Q E s:=by
 obtain⟨⟨cls,dd,data,sl⟩,ho,hc,n,hd⟩:=id hl;obtain⟨⟨cls2,dd2,data2,sl2⟩,ho2,hc2,n2,hd2⟩:=id hb;simp only at hc hd hc2 hd2;subst hc hd hc2 hd2;exact richCompare_meets_room (op:=.Lt) ⟨_,ho,rfl⟩ ⟨_,ho2,rfl⟩ PySem.F.slot_tuple_lt PySem.F.entry_tuple_lt (PySem.F.args_tuple_lt_2 _ _) (ZDY l b items items2 n n2 dd dd2 sl sl2 ns ms hi hj)
  ⟨ho,ho2,show Value.bool (lexLt ns ms)≠Value.notImplemented/\Q (.bool (lexLt ns ms)) s from ⟨(λx=>nomatch x),h⟩⟩ hu
theorem ZJJ{t b:Addr}{vs ws:List Value}{Q:Value->Shared->Prop}(ht:IsTup s.heap t vs.toArray)(hb:IsTup s.heap b ws.toArray)(hv:vs≠[])
  (h1:ws=[]->Q (.ref t) s)(h2:ws≠[]->Q (.ref s.heap.objs.size) { s with heap:=s.heap.push { cls:=.type "tuple",data:=.seq (vs++ws).toArray } })
  (hsz:vs.length+ws.length<=sizeLine):wpAny (model prog w) A (binaryOp .Add (.ref t) (.ref b)) Q E s:=by
 obtain⟨⟨cls,dd,data,sl⟩,ho,hc,n,hd⟩:=id ht;obtain⟨⟨cls2,dd2,data2,sl2⟩,ho2,hc2,n2,hd2⟩:=id hb;simp only at hc hd hc2 hd2;subst hc hd hc2 hd2;have e:vs.toArray++ws.toArray=(vs++ws).toArray:=by simp
 by_cases hw:ws=[]
 ·exact concat_meets ⟨_,ho,rfl⟩ ⟨_,ho2,rfl⟩ noFill_tuple_add seq_tuple_add PySem.F.slot_tuple_add PySem.F.entry_tuple_add (PySem.F.args_tuple_add_2 _ _)
   (tuple_addW1 t b vs.toArray ws.toArray n n2 dd dd2 sl sl2 (by simpa using hv) (by simp[hw])) ⟨ho,ho2,h1 hw⟩
 ·refine concat_meets ⟨_,ho,rfl⟩ ⟨_,ho2,rfl⟩ noFill_tuple_add seq_tuple_add PySem.F.slot_tuple_add PySem.F.entry_tuple_add (PySem.F.args_tuple_add_2 _ _)
   (tuple_addW2 t b vs.toArray ws.toArray n n2 dd dd2 sl sl2 (by simpa using hv) (by simpa using hw) (by rw[size_toArray,size_toArray];exact hsz)) ⟨ho,ho2,?_⟩
  rw[e];exact h2 hw
def sIx(n d:Nat):Option Int->Nat
 |none=>d
 |some v=>if v<0 then (v+(n:Int)).toNat else min v.toNat n
theorem ZLR(n d:Nat)(hd:d<=n)(o:Option Int):sIx n d o<=n:=by
 cases o with
 |none=>exact hd
 |some v =>
  show(if v<0 then (v+(n:Int)).toNat else min v.toNat n)<=n
  by_cases hv:v<0
  ·rw[if_pos hv];omega
  ·rw[if_neg hv];exact Nat.min_le_right _ _
theorem ZFz(v:Int)(n d:Nat):(if v<0 then max (v+(n:Int)) 0 else min v (n:Int))=((sIx n d (some v):Nat):Int):=by
 show(if v<0 then max (v+(n:Int)) 0 else min v (n:Int))=(((if v<0 then (v+(n:Int)).toNat else min v.toNat n):Nat):Int)
 by_cases hv:v<0
 ·simp only[if_pos hv];omega
 ·simp only[if_neg hv];omega
theorem ZFQ(lo hi:Option Int)(n:Nat):Builtin.Slice.sliceAdjust lo hi 1 (n:Int)=(((sIx n 0 lo:Nat):Int),((sIx n n hi:Nat):Int)):=by
 have h1 : ¬((1:Int)<0):=by omega
 unfold Builtin.Slice.sliceAdjust;simp only[h1,if_false];refine Prod.ext ?_ ?_
 ·cases lo with
  |none=>rfl
  |some v=>exact ZFz v n 0
 ·cases hi with
  |none=>rfl
  |some v=>exact ZFz v n n
theorem ZFI(i j:Nat):Builtin.Slice.slicePlaces (i:Int) (j:Int) 1=j-i:=by
 unfold Builtin.Slice.slicePlaces;have h1:(1:Int) > 0:=by omega
 simp only[h1,if_true,Int.ediv_one]
 split <;> omega
theorem ZCz{v:Value}{o:Option Int}{Q:Option Int->Shared->Prop}(p:IsPart v o)(h:Q o s):wpAny (model prog w) A (Builtin.Slice.slicePartIndex v) Q E s:=by
 cases p with
 |none=>exact slicePart_none h
 |int i t=>exact slicePart_int h
theorem ZAl{sl:Addr}{vl vu:Value}{lo hi:Option Int}{n:Nat}{Q:Int×Int×Nat->Shared->Prop}(hs:s.heap.IsSliceOf sl vl vu .none)(pl:IsPart vl lo)(pu:IsPart vu hi)
  (h:Q (((sIx n 0 lo:Nat):Int),1,sIx n n hi-sIx n 0 lo) s):wpAny (model prog w) A (Builtin.Slice.sliceApplied (.ref sl) (pure (n:Int))) Q E s:=by
 obtain⟨os,hos,hcs,hds⟩:=id hs;unfold Builtin.Slice.sliceApplied Builtin.Slice.sliceFields;refine wpAny_bind (wpAny_bind (wpAny_field hos hds (x:=vl) rfl (wpAny_bind (wpAny_field hos hds (x:=vu) rfl (wpAny_bind (wpAny_field hos hds (x:=.none) rfl (wpAny_pure ?_)))))));refine wpAny_bind (slicePart_none ?_);show wpAny _ _ (if ((1:Int) == 0)=true then _ else _) _ _ s;rw[if_neg (by decide)];refine wpAny_bind (ZCz pl (wpAny_bind (ZCz pu (wpAny_bind (wpAny_pure ?_)))));show wpAny _ _ (match Builtin.Slice.sliceAdjust lo hi 1 (n:Int) with|(lo,hi)=>pure (lo,(1:Int),Builtin.Slice.slicePlaces lo hi 1)) _ _ s;rw[ZFQ lo hi n];show wpAny _ _ (pure (((sIx n 0 lo:Nat):Int),(1:Int),Builtin.Slice.slicePlaces ((sIx n 0 lo:Nat):Int) ((sIx n n hi:Nat):Int) 1)) _ _ s;rw[ZFI];exact wpAny_pure h
theorem ZGr(xs:Array Value)(i k:Nat):((List.range k).filterMap λ(m:Nat)=>xs[((i:Int)+(m:Int)*1).toNat]?).toArray=((xs.toList.drop i).take k).toArray:=by
 have e:(λ(m:Nat)=>xs[((i:Int)+(m:Int)*1).toNat]?) = λm=>xs[i+m]?:=by
  funext m
  have:((i:Int)+(m:Int)*1).toNat=i+m:=by omega
  rw[this]
 rw[e];have:=pick_run xs i k;rw[List.filterMap_map] at this
 have e2:((λx=>xs[x]?) ∘ λx=>i+x) = λm=>xs[i+m]?:=rfl
 rw[e2] at this
 rw[this]
theorem getItem_tuple_cut{t sl:Addr}{items:Array Value}{vl vu:Value}{lo hi:Option Int}{Q:Value->Shared->Prop}(ht:IsTup s.heap t items)(hs:s.heap.IsSliceOf sl vl vu .none)(pl:IsPart vl lo)(pu:IsPart vu hi)
  (hw : ¬(sIx items.size 0 lo=0/\sIx items.size items.size hi=items.size))
  (h:Q (.ref s.heap.objs.size) { s with heap:=s.heap.push { cls:=.type "tuple",data:=.seq ((items.toList.drop (sIx items.size 0 lo)).take (sIx items.size items.size hi-sIx items.size 0 lo)).toArray } })
  (hsz:items.size<=sizeLine):wpAny (model prog w) A (getItem (.ref t) (.ref sl)) Q E s:=by
 have htake:sizeOk (.seq ((items.toList.drop (sIx items.size 0 lo)).take (sIx items.size items.size hi-sIx items.size 0 lo)).toArray):=by
  show((items.toList.drop (sIx items.size 0 lo)).take (sIx items.size items.size hi-sIx items.size 0 lo)).toArray.size<=sizeLine;rw[size_toArray,length_take,length_drop,Array.length_toList];omega
 have hj:sIx items.size items.size hi<=items.size:=ZLR _ _ (le_refl _) hi;obtain⟨os,hos,hcs,hds⟩:=id hs;have hTs:s.TypeIs (.ref sl) "slice":=⟨os,hos,hcs⟩;unfold getItem
 try with_reducible refine wpAny_holding ?_
 first|refine wpAny_bind (wpAny_pure ?_)|skip
 refine wpAny_bind (wpAny_sequenceKey ht.typeIs (by decide) ?_);refine wpAny_bind (wpAny_callSpecial?_slot (name:=Str.ofString "__getitem__") ht.typeIs PyProof.Rows.slot_tuple_getitem
  (wpAny_call_entry PyProof.Rows.slot_tuple_getitem ht.typeIs entry_tuple_getitem ?_ (args_tuple_getitem _ _)))
 show wpAny _ _ (Builtin.Tuple.tupleItemsOf (.ref t) >>= _) _ _ s;refine wpAny_bind (tupleItemsOf_ ht ?_);refine wpAny_bind (wpAny_typeOf hTs ?_);rw[if_pos (by decide)];refine wpAny_bind (ZAl hs pl pu ?_);have hno : ¬((((sIx items.size 0 lo:Nat):Int) == 0 && (1:Int) == 1 && (sIx items.size items.size hi-sIx items.size 0 lo) == items.size)=true):=by
  intro q;rw[Bool.and_eq_true,Bool.and_eq_true] at q;have q1:((sIx items.size 0 lo:Nat):Int)=0:=eq_of_beq q.1.1;have q2:sIx items.size items.size hi-sIx items.size 0 lo=items.size:=eq_of_beq q.2;exact hw ⟨by omega,by omega⟩
 show wpAny _ _ (if (((sIx items.size 0 lo:Nat):Int) == 0 && (1:Int) == 1 && (sIx items.size items.size hi-sIx items.size 0 lo) == items.size)=true then _ else _) _ _ s;rw[if_neg hno,ZGr]
 first
  |exact wpAny_bind (m:=Builtin.Tuple.tupleExact _) (wpAny_newObj_type (wpAny_pure ⟨_,rfl,wpAny_pure h⟩) htake)
  |exact wpAny_bind (m:=Builtin.Tuple.tupleExact _) (wpAny_newObj_type (wpAny_bind (wpAny_pure (wpAny_pure ⟨_,rfl,wpAny_pure h⟩))) htake)
  |exact wpAny_bind (wpAny_bind (m:=Builtin.Tuple.tupleExact _) (wpAny_newObj_type (wpAny_pure (wpAny_pure ⟨_,rfl,wpAny_pure h⟩)) htake))
  |exact wpAny_bind (wpAny_bind (m:=Builtin.Tuple.tupleExact _) (wpAny_newObj_type (wpAny_pure ⟨_,rfl,wpAny_pure h⟩) htake))
end
end HT
namespace L2
open PySem PySem.Spec PyProof.Rows
abbrev TO:=St->Hp->(Option Int->Hp->Prop)->Prop
def PO(X:Cx)(e:Option Expr)(t:TO):Prop :=
 ∀(pins:List (Addr×Obj)) (s:Shared) (σ : St) (H:Hp) (Q:Option Int->Hp->Prop),Inv X pins σ H s->t σ H Q ->
  wpAny (model X.prog X.w) X.A (evalPart e X.env) (λu s'=>∃o H',Inv X pins σ H' s'/\IsPart u o/\Q o H') X.xe s
def ZI0:TO:=λ_ H Q=>Q none H
def tPart(t:TE):TO:=λσ H Q=>t σ H λx H1=>∃i,x=.int i/\Q (some i) H1
theorem Zw{ns:List Int}:∀{us:List Value},ZK (ns.map V.int) us->IntsAre us ns:=by
 induction ns with
 |nil=>intro us r;rw[map_nil] at r;cases r;exact .nil
 |cons n ns ih =>
  intro us r;rw[map_cons] at r;cases r with
  |cons r1 r2 =>
   obtain⟨t,e⟩:=r1;subst e;exact .cons n t (ih r2)
section
variable{X:Cx}{e:Expr}{te:TE}{lo hi:Option Expr}{tl th:TO}{pos p2:Pos}
theorem ZI4:PO X none ZI0:=by
 intro pins s σ H Q I h;rw[evalPart_none];exact wpAny_pure ⟨none,H,I,.none,h⟩
theorem ZJi(h:PE X e te):PO X (some e) (tPart te):=by
 intro pins s σ H Q I hw;rw[evalPart_some];refine thn (h pins s σ H _ I hw) λu s1 ⟨x,H1,I1,r1,q1⟩=>?_
 obtain⟨i,rfl,q⟩:=q1;obtain⟨t,rfl⟩:=r1;exact⟨some i,H1,I1,.int i t,q⟩
def SlR(X:Cx)(r:V->Option Int->Option Int->Hp->VK->Prop):Prop :=
 ∀(pins:List (Addr×Obj)) (s:Shared) (σ : St) (H:Hp) (x:V) (v vl vu:Value) (lo hi:Option Int) (sl:Addr) (Q:VK),Inv X pins σ H s->ZV x v->s.heap.IsSliceOf sl vl vu .none->IsPart vl lo->IsPart vu hi->r x lo hi H Q ->
  ∃T id,typeLookup (.type T) "__getitem__" = pure (some (.builtin id))/\s.TypeIs v T/\wpAny (model X.prog X.w) X.A (getItem v (.ref sl)) (EP X pins σ Q) X.xe s
def tSl(r:V->Option Int->Option Int->Hp->VK->Prop)(te:TE)(tl th:TO):TE:=λσ H Q=>te σ H λx H1=>tl σ H1 λl H2=>th σ H2 λu H3=>r x l u H3 Q
theorem ZHc{r:V->Option Int->Option Int->Hp->VK->Prop}(hr:SlR X r)(he:PE X e te)(hl:PO X lo tl)(hu:PO X hi th):PE X (.Subscript e (.Slice lo hi none p2) pos) (tSl r te tl th):=by
 intro pins s σ H Q I h;refine Subscript_ (thn (he pins s σ H _ I h) λv s1 ⟨x,H1,I1,r1,q1⟩=>?_);refine wpAny_Slice (thn (hl pins s1 σ H1 _ I1 q1) λvl s2 ⟨l,H2,I2,pl,q2⟩=>thn (hu pins s2 σ H2 _ I2 q2) λvu s3 ⟨u,H3,I3,pu,q3⟩=>?_);rw[evalPart_none];refine wpAny_pure ?_;have I4:Inv X pins σ H3 { s3 with heap:=s3.heap.push { cls:=.type "slice",data:=.fields #[vl,vu,.none] } }:=I3.kept (t':=s3.toks) λb ob q=>get?_push_of_some _ q
 obtain⟨T,id,hT,ht,hg⟩:=hr pins { s3 with heap:=s3.heap.push { cls:=.type "slice",data:=.fields #[vl,vu,.none] } } σ H3 x v vl vu l u s3.heap.objs.size Q I4 r1 (Heap.IsSliceOf.new ..) pl pu q3;show wpAny (model X.prog X.w) X.A (subscriptTail e (.Slice lo hi none p2) v (.ref s3.heap.objs.size)) (EP X pins σ Q) X.xe { s3 with heap:=s3.heap.push { cls:=.type "slice",data:=.fields #[vl,vu,.none] } };exact tail_any (ops:=[.ref s3.heap.objs.size,v]) ht hT hg (by with_unfolding_all rfl)
def ZEN(xs:List V)(lo hi:Option Int):List V:=(xs.drop (HT.sIx xs.length 0 lo)).take (HT.sIx xs.length xs.length hi-HT.sIx xs.length 0 lo)
theorem ZCI(xs:List V)(lo hi:Option Int):(ZEN xs lo hi).length<=xs.length:=by
 unfold ZEN;rw[length_take,length_drop];omega
def rSlT(K:PySem.W.Frag):V->Option Int->Option Int->Hp->VK->Prop:=λx lo hi H Q=>∃a xs,x=.ref a/\SqT K H a xs /\
 ¬(HT.sIx xs.length 0 lo=0/\HT.sIx xs.length xs.length hi=xs.length)/\∀p,H p=none->Q (.ref p) (upd H p (.tup (ZEN xs lo hi)))
theorem ZLb:SlR X (rSlT X.K):=by
 intro pins s σ H x v vl vu lo hi sl Q I rx hs pl pu h;obtain⟨a,xs,rfl,hx,hw,q⟩:=h;cases rx;obtain⟨its,r,ht,hz⟩:=I.tuple hx;have hlen:its.toArray.size=xs.length:=by rw[size_toArray];exact r.length.symm
 refine⟨"tuple",_,PyProof.Rows.slot_tuple_getitem.lookup,ht.typeIs,?_⟩;refine HT.getItem_tuple_cut ht hs pl pu (by rw[hlen];exact hw) ?_ (by rw[hlen];exact hz);rw[hlen];refine⟨.ref s.heap.objs.size,_,I.laid (t':=s.toks) (o:=.tup (ZEN xs lo hi)) (λb ob q=>get?_push_of_some _ q) (le_refl _) ?_,rfl,q _ (I.hok.fresh (le_refl _))⟩;exact⟨le_trans (ZCI xs lo hi) hz,_,(r.drop (HT.sIx xs.length 0 lo)).take (HT.sIx xs.length xs.length hi-HT.sIx xs.length 0 lo),IsTup.new _ _⟩
def rLtT(K:PySem.W.Frag):R2:=λx y H Q=>∃a b ns ms,x=.ref a/\y=.ref b/\SqT K H a (ns.map V.int)/\SqT K H b (ms.map V.int)/\Q (.bl (HT.lexLt ns ms)) H
theorem ZLg(hu:X.A.units<cLine):OpR X (compareOp .Lt) (rLtT X.K):=by
 intro pins s σ H x y v u Q I rx ry h;obtain⟨a,b,ns,ms,rfl,rfl,ha,hb,q⟩:=h;cases rx;cases ry;obtain⟨its,r1,p1,_⟩:=I.tuple ha;obtain⟨its2,r2,p2,_⟩:=I.tuple hb;have i1:IntsAre its.toArray.toList ns:=Zw r1;have i2:IntsAre its2.toArray.toList ms:=Zw r2;exact HT.lt_tupInts p1 p2 i1 i2 hu ⟨.bl (HT.lexLt ns ms),H,I,rfl,q⟩
theorem ZK.nil_iff{xs:List V}{us:List Value}(r:ZK xs us):us=[] ↔ xs=[]:=by
 cases r with
 |nil=>simp
 |cons _ _=>simp
end
def ixN(n:Nat)(i:Int):Option Nat:=if 0<=i then (if i<n then some i.toNat else none) else if -(n:Int)<=i then some (i+n).toNat else none
def atI{α : Type}(xs:List α)(i:Int):Option α:=(ixN xs.length i).bind λj=>xs[j]?
theorem ZFp{n:Nat}{i:Int}{j:Nat}(h:ixN n i=some j):seqIndex? i n=some j/\j<n/\-(n:Int)<=i/\i<n:=by
 unfold ixN at h
 by_cases h0 : 0<=i
 ·rw[if_pos h0] at h
  by_cases h1:i<n
  ·rw[if_pos h1] at h
   have e:i.toNat=j:=Option.some.inj h;exact⟨by rw[seqIndex_of h0 h1,e],by omega,by omega,h1⟩
  ·rw[if_neg h1] at h;cases h
 ·rw[if_neg h0] at h
  by_cases h1 : -(n:Int)<=i
  ·rw[if_pos h1] at h
   have e:(i+n).toNat=j:=Option.some.inj h;exact⟨by rw[seqIndex_neg (by omega) h1,e],by omega,h1,by omega⟩
  ·rw[if_neg h1] at h;cases h
theorem ZFw{α : Type}{xs:List α}{i:Int}{v : α}(h:atI xs i=some v):∃j,seqIndex? i xs.length=some j/\xs[j]? = some v/\j<xs.length/\-(xs.length:Int)<=i/\i<xs.length:=by
 unfold atI at h;cases e:ixN xs.length i with
 |none=>rw[e] at h;cases h
 |some j =>
  rw[e] at h;obtain⟨h1,h2,h3,h4⟩:=ZFp e;exact⟨j,h1,h,h2,h3,h4⟩
theorem ZAT{α : Type}{xs:List α}{j:Nat}{v : α}(h:xs[j]? = some v):atI xs (j:Int)=some v:=by
 have hj:j<xs.length:=(List.getElem?_eq_some_iff.mp h).1;have e:ixN xs.length (j:Int)=some j:=by
  unfold ixN;rw[if_pos (by omega),if_pos (by omega)];simp
 unfold atI;rw[e];exact h
def ZB0(b:Expr):Prop:=∀o i,subscripted b false o i=operate [o,i] (getItem o i)
def IxR(X:Cx)(r:R2):Prop :=
 ∀(value slice:Expr) (pins:List (Addr×Obj)) (s:Shared) (σ : St) (H:Hp) (x y:V) (v u:Value) (Q:VK),Inv X pins σ H s->ZV x v->ZV y u->r x y H Q ->
  subscripted slice false v u=operate [v,u] (getItem v u)->wpAny (model X.prog X.w) X.A (subscriptTail value slice v u) (EP X pins σ Q) X.xe s
def MtR(X:Cx)(id:String)(r:V->List V->Hp->VK->Prop):Prop :=
 ∀(pins:List (Addr×Obj)) (s:Shared) (σ : St) (H:Hp) (x:V) (xs:List V) (v:Value) (us:List Value) (Q:VK),Inv X pins σ H s->ZV x v->ZK xs us->r x xs H Q ->
  wpAny (model X.prog X.w) X.A (call (.builtin id) (v::us)) (EP X pins σ Q) X.xe s
section
variable{X:Cx}{a b:Expr}{ta tb:TE}{pos:Pos}
theorem ZJ0{r:R2}(hr:IxR X r)(ha:PE X a ta)(hb:PE X b tb)(hs:ZB0 b):PE X (.Subscript a b pos) (tOp r ta tb):=by
 intro pins s σ H Q I h;exact Subscript_ (ZKB ha hb I h λv u s2 x y H2 I2 rx ry q=>hr a b pins s2 σ H2 x y v u Q I2 rx ry q (hs _ _))
def rIxL(K:PySem.W.Frag):R2:=λx y H Q=>∃p xs i v,x=.ref p/\y=.int i/\SqL K H p xs/\atI xs i=some v/\Q v H
def rIxT(K:PySem.W.Frag):R2:=λx y H Q=>∃p xs i v,x=.ref p/\y=.int i/\SqT K H p xs/\atI xs i=some v/\Q v H
theorem ZBw:IxR X (rIxL X.K):=by
 intro value slice pins s σ H x y v u Q I rx ry h hs;obtain⟨p,xs,i,z,rfl,rfl,hq,he,q⟩:=h;cases rx;obtain⟨t,rfl⟩:=ry;obtain⟨its,r,pl,hz⟩:=I.list hq;obtain⟨j,h1,h2,h3,h4,h5⟩:=ZFw he;obtain⟨w,ew,rw'⟩:=r.get h2;have hl:=r.length;have hn:=ZER;have fin:EP X pins σ Q w s:=⟨z,H,I,rw',q⟩
 by_cases h0 : 0<=i
 ·have hj:i.toNat=j:=by
   rw[seqIndex_of h0 h5] at h1;exact Option.some.inj h1
  exact item_listR pl.isList h0 (by omega) (by rw[hj];simpa using ew) fin hs
 ·have hj:(i+(its.toArray.size:Int)).toNat=j:=by
   rw[seqIndex_neg (by omega) h4] at h1;rw[size_toArray,←hl];exact Option.some.inj h1
  exact subscriptTail_builtinR (x:=w) pl.isList.typeIs slot_list_getitem.lookup
   (wpAny_getItem_list_neg (Q:=λr s'=>r=w/\EP X pins σ Q r s') pl.isList (by omega) (by rw[size_toArray] <;> omega) (by omega) (by rw[hj];simpa using ew) ⟨rfl,fin⟩) hs
theorem ZHx:IxR X (rIxT X.K):=by
 intro value slice pins s σ H x y v u Q I rx ry h hs;obtain⟨p,xs,i,z,rfl,rfl,hq,he,q⟩:=h;cases rx;obtain⟨t,rfl⟩:=ry;obtain⟨its,r,pl,hz⟩:=I.tuple hq;obtain⟨j,h1,h2,h3,h4,h5⟩:=ZFw he;obtain⟨w,ew,rw'⟩:=r.get h2;have hl:=r.length;have hn:=ZER;have fin:EP X pins σ Q w s:=⟨z,H,I,rw',q⟩;exact subscriptTail_builtinR (x:=w) pl.typeIs slot_tuple_getitem.lookup
  (getItem_tuple (j:=j) (Q:=λr s'=>r=w/\EP X pins σ Q r s') pl (by omega) (by omega) (by rw[size_toArray,←hl];exact h1) (by simpa using ew) ⟨rfl,fin⟩) hs
theorem ZFJ(its:List Value)(n j:Nat)(u:Value):Obj.mapSeq (·.setIfInBounds j u) { cls:=.type "list",data:=.seq its.toArray n }={ cls:=.type "list",data:=.seq (its.set j u).toArray n }:=by
 simp[Obj.mapSeq]
theorem Inv.lst{pins:List (Addr×Obj)}{σ : St}{H:Hp}{s:Shared}{p:Addr}{xs:List V}(I:Inv X pins σ H s)(h:H p=some (.lst xs)) :
  ∃(its:List Value) (n:Nat),ZK xs its/\s.heap.get? p=some { cls:=.type "list",data:=.seq its.toArray n }/\xs.length<=sizeLine:=by
 obtain⟨z,its,n,r,e⟩:=I.hok p _ h;exact⟨its,n,r,e,z⟩
theorem Inv.lstUpd{pins:List (Addr×Obj)}{σ : St}{H:Hp}{s:Shared}{p:Addr}{xs ys:List V}{its its':List Value}{n n':Nat}{f:Obj->Obj}(I:Inv X pins σ H s)(h:H p=some (.lst xs))
  (ho:s.heap.get? p=some { cls:=.type "list",data:=.seq its.toArray n })(hf:f { cls:=.type "list",data:=.seq its.toArray n }={ cls:=.type "list",data:=.seq its'.toArray n' })(r:ZK ys its')(hz:ys.length<=sizeLine)(t:Nat) :
  Inv X pins σ (upd H p (.lst ys)) { s with heap:=s.heap.update p f,toks:=t }:=by
 have e:(s.heap.update p f).get? p=some { cls:=.type "list",data:=.seq its'.toArray n' }:=by
  rw[get?_update_self f ho (by rw[hf] <;> rfl),hf]
 refine I.write (x:=p) (e:=p) (by rw[h];trivial) (.inl rfl) (λb u hb q=>(Heap.get?_update_other _ _ (Ne.symm hb)).trans q) ⟨_,e⟩ ?_;exact⟨hz,its',n',r,e⟩
def rSetL:V->V->V->Hp->(Hp->Prop)->Prop:=λo i v H Q=>∃p xs k j,o=.ref p/\i=.int k/\H p=some (.lst xs)/\ixN xs.length k=some j/\Q (upd H p (.lst (xs.set j v)))
theorem ZCn:ZLu X rSetL:=by
 intro pins s σ H o i v ov iv u Q I ro ri rv h;obtain⟨p,xs,k,j,rfl,rfl,hp,hj,q⟩:=h;cases ro;obtain⟨t,rfl⟩:=ri;obtain⟨its,n,r,ho,hz⟩:=I.lst hp;obtain⟨h1,h2,h3,h4⟩:=ZFp hj;have hl:=r.length;have hn:=ZER;have I':Inv X pins σ (upd H p (.lst (xs.set j v))) { s with heap:=s.heap.update p (Obj.mapSeq (·.setIfInBounds j u)) } :=
  I.lstUpd hp ho (ZFJ its n j u) (r.set rv j) (by rw[length_set];exact hz) s.toks
 by_cases h0 : 0<=k
 ·have hk:k.toNat=j:=by
   rw[seqIndex_of h0 h4] at h1;exact Option.some.inj h1
  exact PySem.W.ki_setAt ho h0 (by omega) (by rw[size_toArray,←hl];exact h4) (by rw[hk];exact⟨_,I',q⟩)
 ·have hk:(k+(its.toArray.size:Int)).toNat=j:=by
   rw[seqIndex_neg (by omega) h3] at h1;rw[size_toArray,←hl];exact Option.some.inj h1
  exact PySem.W.ki_setBack ho (by omega) (by rw[size_toArray,←hl];exact h3) (by omega) (by rw[hk];exact⟨_,I',q⟩)
theorem ZEE(lo hi:Option Int)(n:Nat):(sliceBounds lo hi none n).1=((HT.sIx n 0 lo:Nat):Int)/\(sliceBounds lo hi none n).2.1=((HT.sIx n n hi:Nat):Int)/\(sliceBounds lo hi none n).2.2=1:=by
 refine⟨?_,?_,rfl⟩
 ·cases lo with
  |none=>simp[sliceBounds,HT.sIx]
  |some i =>
   simp only[sliceBounds,HT.sIx,Option.getD_none,show(1:Int) > 0 by decide,if_true]
   by_cases h:i<0
   ·simp only[h,if_true] <;> omega
   ·simp only[h,if_false] <;> omega
 ·cases hi with
  |none=>simp[sliceBounds,HT.sIx]
  |some i =>
   simp only[sliceBounds,HT.sIx,Option.getD_none,show(1:Int) > 0 by decide,if_true]
   by_cases h:i<0
   ·simp only[h,if_true] <;> omega
   ·simp only[h,if_false] <;> omega
theorem ZDd(its:List Value)(lo hi:Option Int):slicePick its.toArray lo hi none=((its.drop (HT.sIx its.length 0 lo)).take (HT.sIx its.length its.length hi-HT.sIx its.length 0 lo)).toArray:=by
 obtain⟨h1,h2,h3⟩:=ZEE lo hi its.toArray.size;unfold slicePick;rw[h1,h2,h3];simp only[sliceRange_one,pick_run,size_toArray] <;> rfl
def rSlL(K:PySem.W.Frag):V->Option Int->Option Int->Hp->VK->Prop:=λx lo hi H Q=>∃a xs,x=.ref a/\SqL K H a xs/\∀p,H p=none->Q (.ref p) (upd H p (.lst (ZEN xs lo hi)))
theorem ZFr:SlR X (rSlL X.K):=by
 intro pins s σ H x v vl vu lo hi sl Q I rx hs pl pu h;obtain⟨a,xs,rfl,hx,q⟩:=h;cases rx;obtain⟨its,r,ht,hz⟩:=I.list hx;have hlen:=r.length;refine⟨"list",_,slot_list_getitem.lookup,ht.isList.typeIs,?_⟩;refine wpAny_getItem_list_slice ht.isList hs pl pu .none (by simp) ?_ (by rw[size_toArray] <;> omega);rw[ZDd,←hlen];refine⟨.ref s.heap.objs.size,_,I.laid (t':=s.toks) (o:=.lst (ZEN xs lo hi)) (λb ob q=>get?_push_of_some _ q) (le_refl _) ?_,rfl,q _ (I.hok.fresh (le_refl _))⟩;exact⟨le_trans (ZCI xs lo hi) hz,_,0,(r.drop (HT.sIx xs.length 0 lo)).take (HT.sIx xs.length xs.length hi-HT.sIx xs.length 0 lo),get?_push_size _ rfl⟩
theorem ZEd:ZM X (.builtin "len") (λxs H Q=>∃p ys,xs=[.ref p]/\(SqL X.K H p ys∨SqT X.K H p ys)/\Q (.int ys.length) H):=by
 intro pins s σ H xs us Q I r h;obtain⟨p,ys,rfl,hq,q⟩:=h;obtain⟨u,rfl,rx⟩:=ZAm r;cases rx;have hn:=ZER;rcases hq with hq|hq
 ·obtain⟨its,r',pl,hz⟩:=I.list hq
  have hlen:=r'.length;exact Calls.call_len_list pl.isList (by simp only[size_toArray] <;> omega) ⟨.int ys.length,H,I.tok _,⟨s.toks+1,by rw[size_toArray,hlen]⟩,q⟩
 ·obtain⟨its,r',pl,hz⟩:=I.tuple hq
  have hlen:=r'.length;exact len_tuple pl (by simp only[size_toArray] <;> omega) ⟨.int ys.length,H,I.tok _,⟨s.toks+1,by rw[size_toArray,hlen]⟩,q⟩
theorem ZM.or{f:Value}{r r':List V->Hp->VK->Prop}(h:ZM X f r)(h':ZM X f r'):ZM X f (λxs H Q=>r xs H Q∨r' xs H Q):=by
 intro pins s σ H xs us Q I rs q;rcases q with q|q
 ·exact h pins s σ H xs us Q I rs q
 ·exact h' pins s σ H xs us Q I rs q
theorem ZET:ZM X (.type "list") (λxs H Q=>∃p ys,xs=[.ref p]/\(SqL X.K H p ys∨SqT X.K H p ys)/\∀l,H l=none->Q (.ref l) (upd H l (.lst ys))):=by
 intro pins s σ H xs us Q I r h;obtain⟨p,ys,rfl,hq,q⟩:=h;obtain⟨u,rfl,rx⟩:=ZAm r;cases rx;have fin:∀(its:List Value),ZK ys its->ys.length<=sizeLine->∀(h':Heap) (c':Nat),(∀b o',s.heap.get? b=some o'->h'.get? b=some o') ->
   h'.get? s.heap.objs.size=some { cls:=.type "list",dict:=none,data:=.seq its.toArray c',slots:=#[] }->EP X pins σ Q (.ref s.heap.objs.size) { s with heap:=h' }:=λits r' hz h' c' kp e =>
  ⟨.ref s.heap.objs.size,_,I.laid (t':=s.toks) kp (le_refl _) (show Z8 X.prog X.w _ h' _ (.lst ys) from ⟨hz,its,c',r',e⟩),rfl,q _ (I.hok.fresh (le_refl _))⟩
 rcases hq with hq|hq
 ·obtain⟨its,r',pl,hz⟩:=I.list hq
  have hlen:=r'.length;obtain⟨o,ho,hc,n,hd⟩:=pl.isList;exact call_list_seq p (.inl rfl) ho hc hd (λh' c' kp e=>fin its r' hz h' c' kp e) (by simp only[size_toArray] <;> omega)
 ·obtain⟨its,r',pl,hz⟩:=I.tuple hq
  have hlen:=r'.length;obtain⟨o,ho,hc,n,hd⟩:=pl;exact call_list_seq p (.inr rfl) ho hc hd (λh' c' kp e=>fin its r' hz h' c' kp e) (by simp only[size_toArray] <;> omega)
theorem ZDa:ZM X (.type "tuple") (λxs H Q=>∃p ys,xs=[.ref p]/\((SqL X.K H p ys/\∀l,H l=none->Q (.ref l) (upd H l (.tup ys)))∨(SqT X.K H p ys/\Q (.ref p) H))):=by
 intro pins s σ H xs us Q I r h;obtain⟨p,ys,rfl,h⟩:=h;obtain⟨u,rfl,rx⟩:=ZAm r;cases rx;rcases h with ⟨hq,q⟩|⟨hq,q⟩
 ·obtain⟨its,r',pl,hz⟩:=I.list hq
  have hlen:=r'.length;refine call_tuple_list pl.isList (λh' kp=>?_) (by simp only[size_toArray] <;> omega);have I1:Inv X pins σ H { s with heap:=h' }:=I.kept (t':=s.toks) kp;have I2:Inv X pins σ (upd H h'.objs.size (.tup ys)) { s with heap:=h'.push { cls:=.type "tuple",data:=.seq its.toArray } } :=
   I1.laid (t':=s.toks) (λb o e=>get?_push_of_some _ e) (le_refl _) (show Z8 X.prog X.w _ _ _ (.tup ys) from ⟨hz,its,r',IsTup.new _ _⟩)
  exact⟨.ref h'.objs.size,_,I2,rfl,q _ (I1.hok.fresh (le_refl _))⟩
 ·obtain⟨its,r',pl,hz⟩:=I.tuple hq
  exact call_tuple_same pl ⟨.ref p,H,I,rfl,q⟩
def tyV(K:PySem.W.Frag)(T:String)(x:V)(H:Hp):Prop:=match x with
 |.str _=>T = "str"
 |.int _=>T = "int"
 |.ref p=>(T = "list"/\∃xs,SqL K H p xs)∨(T = "tuple"/\∃o,K.lookup p=some o/\o.cls=.type "tuple"/\o.dict=none) ∨
   (T = "dict"/\((∃kvs,H p=some (.dK kvs))∨∃kvs,H p=some (.dT kvs)))∨(T = "set"/\∃S n,H p=some (.set S n))
 |_=>False
theorem ZKn{pins:List (Addr×Obj)}{σ : St}{H:Hp}{s:Shared}{T:String}{x:V}{v:Value}(I:Inv X pins σ H s)(r:ZV x v)(ty:tyV X.K T x H) :
  s.TypeIs v T/\∀a,v=.ref a->∃ob,s.heap.get? a=some ob/\ob.dict=none:=by
 cases x with
 |str z =>
  obtain⟨t,rfl⟩:=r;cases (show T = "str" from ty);exact⟨typeIs_str s z t,λ_ e=>nomatch e⟩
 |int i =>
  obtain⟨t,rfl⟩:=r;cases (show T = "int" from ty);exact⟨typeIs_int s i t,λ_ e=>nomatch e⟩
 |ref p =>
  cases r;rcases ty with ⟨rfl,xs,hq⟩|⟨rfl,o,hk,hc,hd⟩|⟨rfl,hk⟩|⟨rfl,S,n,hk⟩
  ·obtain⟨its,_,pl,_⟩:=I.list hq
   refine⟨pl.isList.typeIs,λa e=>?_⟩;cases e;obtain⟨o,n,e,c,hd,_⟩:=pl;exact⟨o,e,hd⟩
  ·refine⟨⟨o,I.kIn p o hk,hc⟩,λa e=>?_⟩
   cases e;exact⟨o,I.kIn _ o hk,hd⟩
  ·have z:∃o,s.heap.get? p=some o/\o.ExactDict:=by
    rcases hk with ⟨kvs,hk⟩|⟨kvs,hk⟩
    ·obtain⟨_,_,_,_,o,_,_,e,ex,_⟩:=I.hok p _ hk
     exact⟨o,e,ex⟩
    ·obtain⟨_,_,_,_,o,_,_,e,ex,_⟩:=I.hok p _ hk
     exact⟨o,e,ex⟩
   obtain⟨o,e,ex⟩:=z;refine⟨⟨o,e,ex.1⟩,λa e2=>?_⟩;cases e2;exact⟨o,e,ex.2.1⟩
  ·obtain⟨o,_,_,_,e,ex,_⟩:=I.hok p _ hk
   refine⟨⟨o,e,ex.1⟩,λa e2=>?_⟩;cases e2;exact⟨o,e,ex.2.1⟩
 |_=>exact False.elim ty
def tBM(K:PySem.W.Frag)(T:String)(r:V->List V->Hp->VK->Prop)(to:TE)(t:TA):TE:=λσ H Q=>to σ H λx H1=>tyV K T x H1/\t σ H1 λxs H2=>r x xs H2 Q
variable{o e:Expr}{es:List Expr}{to:TE}{t:TA}{name:Str}{apos cpos:Pos}{T id:String}{r:V->List V->Hp->VK->Prop}
theorem pe_bm(pa:PlainAttrs T)(slot:Slot T name id)(hty:typeOf (.builtin id)=pure (.type "method_descriptor"))(hm:MtR X id r)(ho:PE X o to)(ha:PA X (e::es) t)
  (hbase:attributeBase o name X.env (eval o X.env)=eval o X.env:=by rfl)
  (hfew:((backTo cpos (starEach (e :: es) X.env)).all (λ x=>!x.1) && (backToKw cpos (keywordEach [] X.env)).all (λ x=>x.1.isSome)
   && decide ((e::es).length+([]:List Keyword).length+(if ([]:List Keyword).isEmpty then 0 else 1)<30))=true:=by rfl)
  (hline:(apos.endLine == cpos.line)=true:=by rfl)(hs:starEach (e::es) X.env=(false,eval e X.env)::starEach es X.env:=by rfl)(hplain:(backTo cpos (starEach es X.env)).any (·.1)=false:=by rfl) :
  PE X (.Call (.Attribute o name apos) (e::es) [] cpos) (tBM X.K T r to t):=by
 intro pins s σ H Q I h;refine wpAny_Call_method_late hbase hfew hline rfl (thn (ho pins s σ H _ I h) λv s1 ⟨x,H1,I1,r1,ty,q1⟩=>?_);obtain⟨h1,h2⟩:=ZKn I1 r1 ty;refine⟨T,id,pa,slot,hty,h1,h2,?_⟩;have hA:=ha cpos pins s1 σ H1 _ I1 q1;rw[hs] at hA ⊢;refine Calls.callWith_builtin (by show(false || (backTo cpos (starEach es X.env)).any (·.1))=false;rw[hplain] <;> rfl) (Calls.evalArgs_plain ?_);exact thn hA λus s2 ⟨vs,H2,I2,r2,q2⟩=>hm pins s2 σ H2 x vs v us Q I2 r1 r2 q2
end
def MtM(X:Cx)(id:String)(r:V->List V->Hp->VK->Prop):Prop :=
 ∀(pins:List (Addr×Obj)) (s:Shared) (σ : St) (H:Hp) (x:V) (xs:List V) (v:Value) (us:List Value) (Q:VK),Inv X pins σ H s->ZV x v->ZK xs us->r x xs H Q ->
  wpAny (model X.prog X.w) X.A (call (.builtin id) (v::us)) (EP X pins σ Q) X.xe s
theorem ZK.one:∀{x:V} {us:List Value},ZK [x] us->∃u,us=[u]/\ZV x u
 |_,_,.cons r .nil=>⟨_,rfl,r⟩
theorem ZK.reverse{xs:List V}{us:List Value}(h:ZK xs us):ZK xs.reverse us.reverse:=by
 induction h with
 |nil=>exact .nil
 |cons r t ih=>rw[reverse_cons,reverse_cons];exact ZK.append ih (.cons r .nil)
theorem ZK.rep{xs:List V}{us:List Value}(h:ZK xs us):∀k:Nat,ZK (List.replicate k xs).flatten (List.replicate k us).flatten
 |0=>.nil
 |k+1=>by
  rw[replicate_succ,replicate_succ,flatten_cons,flatten_cons];exact ZK.append h (ZK.rep h k)
theorem ZCE(its:List Value):∀(k:Nat) (acc:List Value),
  List.foldl (λx1 x2=>x1++x2) acc.toArray (List.replicate k its.toArray)=(acc++(List.replicate k its).flatten).toArray
 |0,acc=>by simp
 |k+1,acc=>by
  have e:acc.toArray++its.toArray=(acc++its).toArray:=by simp
  have e2:(acc++its)++(List.replicate k its).flatten=acc++(List.replicate (k+1) its).flatten:=by
   rw[replicate_succ,flatten_cons,append_assoc]
  rw[←e2,←ZCE its k (acc++its),←e,replicate_succ,List.foldl_cons]
section
variable{X:Cx}{pins:List (Addr×Obj)}{σ : St}{H:Hp}{s:Shared}{l b:Addr}{xs ys zs:List V}
theorem Inv.lset{its its':List Value}{n:Nat}{f:Array Value->Array Value}{t':Nat}(I:Inv X pins σ H s)(hH:H l=some (.lst xs))
  (e:s.heap.get? l=some { cls:=.type "list",data:=.seq its.toArray n })(hf:f its.toArray=its'.toArray)(hv:ZK ys its')(hz:ys.length<=sizeLine) :
  Inv X pins σ (upd H l (.lst ys)) { s with heap:=s.heap.update l (Obj.mapSeq f),toks:=t' }:=by
 have q:=PySem.IsL.update e f;rw[hf] at q;refine I.write (x:=l) (e:=l) (by rw[hH];exact trivial) (.inl rfl) (λb' u hb hu=>(Heap.get?_update_other s.heap (Obj.mapSeq f) (Ne.symm hb)).trans hu) ⟨_,q⟩ ?_;exact⟨hz,its',_,hv,q⟩
theorem Inv.lnew{its:List Value}{t':Nat}(I:Inv X pins σ H s)(hv:ZK ys its)(hz:ys.length<=sizeLine) :
  Inv X pins σ (upd H s.heap.objs.size (.lst ys)) { s with heap:=s.heap.push { cls:=.type "list",data:=.seq its.toArray },toks:=t' } :=
 I.laid (λ_ _ q=>get?_push_of_some _ q) (le_refl _) ⟨hz,its,0,hv,get?_push_size _ rfl⟩
theorem Inv.fresh(I:Inv X pins σ H s):H s.heap.objs.size=none:=I.hok.fresh (le_refl _)
theorem Inv.lstM(I:Inv X pins σ H s)(hH:H l=some (.lst xs)):xs.length<=sizeLine/\∃(its:List Value) (n:Nat),ZK xs its/\xs.length=its.length/\s.heap.get? l=some { cls:=.type "list",data:=.seq its.toArray n }:=by
 obtain⟨z,its,n,r,e⟩:=I.hok l _ hH;exact⟨z,its,n,r,r.length,e⟩
theorem ZIB{n:Nat}(h:n<=sizeLine):Builtin.List.listTooLong n=false:=by
 unfold Builtin.List.listTooLong;exact decide_eq_false (by omega)
end
section
variable{X:Cx}
def ZJj:V->List V->Hp->VK->Prop:=λx vs H Q=>∃l xs y,x=.ref l/\vs=[y]/\H l=some (.lst xs)/\xs.length<sizeLine/\Q .non (upd H l (.lst (xs++[y])))
theorem ZDe:MtM X "list.append" ZJj:=by
 intro pins s σ H x vs v us Q I rx rv h;obtain⟨l,xs,y,rfl,rfl,hH,hz,q⟩:=h;cases rx;obtain⟨u,rfl,ru⟩:=rv.one;obtain⟨z,its,n,r,hl,e⟩:=I.lstM hH;refine call_meets F.slot_list_append ⟨_,e,rfl⟩ F.entry_list_append (F.args_list_append_2 _ _) (PySem.list_append l its.toArray n u (by rw[size_toArray];omega)) ⟨e,?_⟩;refine⟨.non,_,I.lset (its':=its++[u]) hH e (by simp) (r.append (.cons ru .nil)) ?_,rfl,q⟩;rw[length_append,List.length_singleton];omega
def rCat:R2:=λx y H Q=>∃l b xs zs,x=.ref l/\y=.ref b/\H l=some (.lst xs)/\H b=some (.lst zs)/\xs.length+zs.length<=sizeLine/\∀p,H p=none->Q (.ref p) (upd H p (.lst (xs++zs)))
theorem ZLM:OpR X (binaryOp .Add) rCat:=by
 intro pins s σ H x y v u Q I rx ry h;obtain⟨l,b,xs,zs,rfl,rfl,hH,hB,hz,q⟩:=h;cases rx;cases ry;obtain⟨z,its,n,r,hl,e⟩:=I.lstM hH;obtain⟨z2,its2,n2,r2,hl2,e2⟩:=I.lstM hB;refine PySem.P.add_list e e2 ?_ (by rw[size_toArray,size_toArray];omega);have ea:its.toArray++its2.toArray=(its++its2).toArray:=by simp
 rw[ea];exact⟨.ref _,_,I.lnew (t':=s.toks) (r.append r2) (by rw[length_append];omega),rfl,q _ I.fresh⟩
def rRep:R2:=λx y H Q=>∃l k xs,x=.ref l/\y=.int k/\H l=some (.lst xs)/\-(2 ^ 63)<=k/\k<2 ^ 63/\xs.length*k.toNat<=sizeLine /\
 ∀p,H p=none->Q (.ref p) (upd H p (.lst (List.replicate k.toNat xs).flatten))
theorem ZF5{α : Type}(xs:List α)(k:Nat):(List.replicate k xs).flatten.length=k*xs.length:=by
 induction k with
 |zero=>simp
 |succ k ih=>rw[replicate_succ,flatten_cons,length_append,ih,Nat.succ_mul,Nat.add_comm]
theorem ZK2:OpR X (binaryOp .Mult) rRep:=by
 intro pins s σ H x y v u Q I rx ry h;obtain⟨l,k,xs,rfl,rfl,hH,h1,h2,hz,q⟩:=h;cases rx;obtain⟨t,rfl⟩:=ry;obtain⟨z,its,n,r,hl,e⟩:=I.lstM hH;have hlen:its.toArray.size*k.toNat<=sizeLine:=by rw[size_toArray,←hl];exact hz
 have hcap : ¬its.toArray.size*k.toNat > (2 ^ 63-1) / 8:=by
  have:(sizeLine:Nat)<=(2 ^ 63-1) / 8:=by decide
  omega
 have hfit : ¬(!Builtin.List.listFitsIndex k)=true:=by
  rw[fitsIndex_both h1 h2];exact Bool.false_ne_true
 have hlong : ¬Builtin.List.listTooLong (its.toArray.size*k.toNat)=true:=by
  rw[ZIB hlen];exact Bool.false_ne_true
 have hnew:List.foldl (λx1 x2=>x1++x2) #[] (List.replicate (if its.toArray.isEmpty=true then 0 else k.toNat) its.toArray)=(List.replicate k.toNat its).flatten.toArray:=by
  have f0:∀m:Nat,List.foldl (λx1 x2=>x1++x2) #[] (List.replicate m its.toArray)=(List.replicate m its).flatten.toArray:=λm=>by
   have:=ZCE its m [];rw[nil_append] at this
   exact this
  rw[f0];cases its with
  |nil=>simp
  |cons a r'=>rw[if_neg (by simp)]
 refine wpAny_binaryOp_repeat_ref (T:="list") (U:="int") (by decide) ⟨_,e,rfl⟩ (λs'=>typeIs_int s' k t) noFill_list_mul F.fills_int_mul F.slot_int_rmul repeat_list F.slot_int_index.lookup
  (call_meets F.slot_int_rmul (typeIs_int s k t) F.entry_int_rmul (F.args_int_rmul_2 _ _) (int___rmul___int_list k t l its.toArray n)
   ⟨e,rfl,⟨_,e,rfl⟩,call_meets F.slot_list_mul ⟨_,e,rfl⟩ F.entry_list_mul (F.args_list_mul_2 _ _) (AutoListH.list___mul___list_int_3 l its.toArray n k t hfit hcap hlong) ⟨e,?_⟩⟩)
 rw[hnew];exact⟨.ref _,_,I.lnew (t':=s.toks) (r.rep k.toNat) (by rw[ZF5,Nat.mul_comm];exact hz),rfl,q _ I.fresh⟩
end
end L2
namespace Att
open PySem PySem.W PySem.Calls PyProof.Rows
theorem ZCZ{P:Params}{h:Heap}:∀(ns:List Int) (vs:List Value),WellAll P h vs (ns.map WData.int)->IntsAre vs ns:=by
 intro ns
 induction ns with
 |nil =>
  intro vs w;rw[map_nil] at w;cases w;exact .nil
 |cons n ns ih =>
  intro vs w;rw[map_cons] at w;cases w with
  |cons a b =>
   cases a;exact .cons _ _ (ih _ b)
theorem ZGE{l:OpenLaw}{n:Nat}(hn:l.most=some n){P:Params}{h:Heap}{args:List WData}{vals:List Value}
  (hpre:l.row.toRowW.claim.pre args=true)(hwl:WellAll P h vals args) :
  ∃a vs ns,vals=[Value.ref a]/\args=[WData.list (ns.map WData.int)]/\h.get? a=some { cls:=.type "list",data:=.seq vs.toArray }/\IntsAre vs ns/\ns.length<=n:=by
 have hsh:WShape.hasAll [] args [.list .int]=true:=(pre_splitW hpre).1;have hc:l.pre.holds [] { args:=args }=true:=(pre_splitW hpre).2;obtain⟨d,r,rfl,h1,h2⟩:=hasAllW_cons hsh;obtain rfl:=hasAllW_nil h2;obtain⟨xs,rfl,h3⟩:=hasW_list h1;obtain⟨ns,rfl⟩:=items_int h3;have hlen:ns.length<=n:=by
  unfold OpenLaw.pre at hc;have h4:(WTm.not (.lt (.lit (.int (n:Int))) (.len (.arg 0)))).holds [] { args:=[.list (ns.map .int)] }=true:=by
   have h4:=(holds_andW hc).1;rw[hn] at h4;exact h4
  have h5:=condW_of h4 (w_not (w_lt w_lit (w_len_list (w_arg rfl))));rw[length_map] at h5;refine Nat.le_of_not_lt λq=>?_
  have q':(n:Int)<((ns.length:Nat):Int):=by omega
  first
   |(rw[decide_eq_true q'] at h5;exact absurd h5 (by decide))
   |(simp at h5;omega)
 cases hwl with
 |cons w1 w2 =>
  cases w2;cases w1 with
  |list ho hall=>exact⟨_,_,ns,rfl,rfl,ho,ZCZ ns _ hall,hlen⟩
theorem ZGi(l:OpenLaw)(args:List WData):l.row.toRowW.claim.post args (.bool true) args=true :=
 postW_of (r:=l.row.toRowW) (X:=(true == true))
  (show WShape.has [] (.bool true) .bool=true by first|rfl|decide|simp[WShape.has,WShape.arms,WShape.armsAll])
  (show(WTm.eq .res (.lit (.bool true))).value [] { args:=args,res:=some (.bool true),after:=args }=some (.bool (true == true)) from w_eq_bool (w_res rfl) w_lit) rfl
theorem attach_call{l:OpenLaw}{n:Nat}{q:Program}{loose:List Str}{XP:(Str->Option Value)->Heap->Prop}{YP:World->Heap->Prop}{d:DefRec}
  (hn:l.most=some n)(hdf:d.params.defaults=[])
  (call:∀ (w:World) (s₀ s₁ : Shared) (mg mb:Str->Option Value) (fa:Addr) (o:Obj) (pm cd doc:Value) (a:Addr) (vs:List Value) (ns:List Int),
   Ground q loose [] XP w s₀ mg mb s₁.heap->YP w s₁.heap ->
   s₁.heap.get? fa=some o->o.data=.func (docDef d.name d.params d.body d.scope pm cd doc)->s₁.heap.CodeRec cd d.name->mg d.name=some (.ref fa) ->
   s₁.heap.get? a=some { cls:=.type "list",data:=.seq vs.toArray }->IntsAre vs ns->ns.length<=n->s₁.gens = #[] ->
   codeAny (model l.prog w) callerA (.call (.ref fa) ⟨[.ref a],[]⟩) (λr s'=>r=.ok (.ret (.bool true))/\OldK s₁.heap s'.heap/\s'.os=s₁.os/\AllBare s'.gens) s₁) :
  WalkO q loose XP YP l.row.toRowW d [] (λf vs=>PySem.call f vs):=by
 intro w s₀ s₁ mg mb G Y fa o pm cd doc dV kV ho hd hcd hD hmg hg args vals as hpre hlay hrd hwl hlo;obtain rfl:dV=.none:=Dflts.none hD hdf;obtain rfl:kV=.none:=Dflts.noKw hD;obtain⟨a,vs,ns,rfl,rfl,hobj,hints,hlen⟩:=ZGE hn hpre hwl;refine enter_call (codeAny_mono (call w s₀ s₁ mg mb fa o pm cd doc a vs ns G Y ho (fd_plain hd) hcd hmg hobj hints hlen hg) λr s' hq=>?_);obtain⟨rfl,h2,h3,h4⟩:=hq;exact⟨.inl ⟨.bool true,.bool true,[],rfl,λ_=>rfl,.bool true,ZGi l _,λ_=>⟨List.Pairwise.nil,λ_ hm=>(nomatch hm)⟩⟩,h2,h3,h4⟩
end Att
namespace L2
open PySem PySem.Spec PyProof.Rows
theorem ZDh:∀{vs:List Value} {ns:List Int},IntsAre vs ns->ZK (ns.map V.int) vs
 |_,_,.nil=>.nil
 |_,_,.cons n t h=>.cons ⟨t,rfl⟩ (ZDh h)
def ZKy(H:Hp):Prop:=∀b,H b=none∨∃o xs,H b=some (.frz o (.lst xs))
theorem ZG6{P:Program}{w:World}{K:PySem.W.Frag}{mg mb:Str->Option Value}{CX:CXT}{k:Nat}{fa a:Addr}{fd:FuncData}{x:Str}{sp:Sp}{s₁ : Shared}{vs:List Value}{ns:List Int}
  (KX:K.In s₁.heap)(hns:s₁.heap.Ns mainGlobals mg)(hb:s₁.heap.Ns builtinsNs mb)(hbb:∀x:Str,x≠"__name__"->mb x=bootBuiltins x)(hlim:s₁.heap.NoLimit)(hg:s₁.gens = #[])
  (ha:s₁.heap.get? a=some { cls:=.type "list",data:=.seq vs.toArray })(hi:IntsAre vs ns)(hl:ns.length<=sizeLine)(hr:Room k callerA)
  (F:∀base:Heap,K.In base->base.Ns mainGlobals mg->FnOk P w K mg base CX k fa fd [x] sp)(hbind:∀(s:Shared) (u:Value),BindsTo s fd ⟨[u],[]⟩ [(x,u)])
  (hsp:∀H:Hp,ZKy H->SqL K H a (ns.map V.int)->sp [.ref a] H (λv _=>v=.bl true) λ_ _ _=>False)
  (hCX:∀H e s',CX [] H s₁ (λ_ _ _=>False) e s'->False) :
  codeAny (model P w) callerA (.call (.ref fa) ⟨[.ref a],[]⟩) (λr s'=>r=.ok (.ret (.bool true))/\OldK s₁.heap s'.heap/\s'.os=s₁.os/\AllBare s'.gens) s₁:=by
 have rv:=ZDh hi;have lenV:=hi.length
 -- from an abstract heap in which nothing but the script may be tracked
 have core:∀H:Hp,ZKy H->SqL K H a (ns.map V.int)->HOk P w H s₁.heap->(∀b,H b≠none->b=a)->(H a≠none->K.lookup a=none) ->
   codeAny (model P w) callerA (.call (.ref fa) ⟨[.ref a],[]⟩) (λr s'=>r=.ok (.ret (.bool true))/\OldK s₁.heap s'.heap/\s'.os=s₁.os/\AllBare s'.gens) s₁:=by
  intro H hO hS hok hA hK;have base_of:∀{b:Addr} {o:Obj},s₁.heap.get? b=some o->H b=none->(ZEJ s₁.heap H).get? b=some o:=λe n=>ZHR e n
  have noA:∀{b:Addr} {o:Obj} {es:Array DictEntry} {ep:Nat},s₁.heap.get? b=some o->o.data=.dict es ep->H b=none:=λ{b o es ep} e d=>by
   cases q:H b with
   |none=>rfl
   |some u =>
    have e':b=a:=hA b (by rw[q];simp);subst e';rw[ha] at e;cases e;have d':Data.seq vs.toArray _=Data.dict es ep:=d;cases d'
  have nsK:∀{b:Addr} {m:Str->Option Value},s₁.heap.Ns b m->(ZEJ s₁.heap H).Ns b m:=λ{b m} ⟨o,es,ep,e,d,r⟩=>⟨o,es,ep,base_of e (noA e d),d,r⟩
  have hKb:K.In (ZEJ s₁.heap H):=λ b o e=>base_of (KX b o e) (by
   cases q:H b with
   |none=>rfl
   |some u =>
    have e':b=a:=hA b (by rw[q];simp);subst e';rw[hK (by rw[q];simp)] at e;cases e)
  have hM:Mod K mg (ZEJ s₁.heap H):=⟨hKb,nsK hns,⟨mb,nsK hb,hbb⟩,let ⟨mc,h1,h2⟩:=hlim;⟨mc,nsK h1,h2⟩⟩;have e0:Env0 P w K mg (ZEJ s₁.heap H) callerA [] s₁ H:=⟨rfl,hM,λb o e=>ZJk e,Nat.le_of_eq (ZGh _ _),trivial,λb hb=>absurd (show b∈([]:List Addr) from hb) (by simp),hok,.of_eq hg⟩;refine codeAny_mono ((F _ hKb (nsK hns)).run callerA [] s₁ H ⟨[.ref a],[]⟩ [.ref a] [.ref a] _ _ hr e0 (hbind s₁ (.ref a)) (.cons rfl .nil) (hsp H hO hS)) λr s' h=>?_
  cases r with
  |error e=>exact(hCX H e s' h).elim
  |ok fl =>
   cases fl with
   |next=>exact False.elim h
   |brk=>exact False.elim h
   |cont=>exact False.elim h
   |ret u =>
    obtain⟨v,H',os,bare,un,hok',r',q⟩:=h;have q':v=.bl true:=q;subst q';obtain rfl:u=Value.bool true:=r';refine⟨rfl,OldK.of_keep λb o e=>?_,os,bare⟩;cases q:H b with
    |none=>exact un.keep b o e q (by intro z;exact absurd (show b∈([]:List Addr) from z) (by simp)) (by simp)
    |some u =>
     rcases hO b with z|⟨ob,xs,z⟩
     ·rw[q] at z;cases z
     ·have z2:=un.frzs b ob _ z
      obtain⟨e1,_⟩:=hok b _ z;obtain⟨e2,_⟩:=hok' b _ z2;rw[e] at e1;cases e1;exact e2
 cases hk:K.lookup a with
 |some o =>
  -- the script is one of the module's own objects
  have e:=KX a o hk;rw[ha] at e;cases e;refine core (λ_=>none) (λ_=>.inl rfl) (.inr ⟨_,vs.toArray,_,hk,rfl,rfl,rfl,by rw[size_toArray,lenV];exact hl,by simpa using rv⟩) (λb u z=>by have z':(none:Option HO)=some u:=z;cases z') (λb z=>absurd rfl z) λz=>absurd rfl z
 |none =>
  refine core (λb=>if b=a then some (.frz { cls:=.type "list",data:=.seq vs.toArray } (.lst (ns.map V.int))) else none) (λb=>?_) (.inl (.inr ⟨{ cls:=.type "list",data:=.seq vs.toArray },if_pos rfl⟩)) (λb u z=>?_) (λb z=>?_) λ_=>hk
  ·by_cases hb:b=a
   ·exact .inr ⟨_,_,if_pos hb⟩
   ·exact .inl (if_neg hb)
  ·by_cases hb:b=a
   ·have z':=(if_pos hb).symm.trans z
    cases z';subst hb;exact⟨ha,by rw[length_map];exact hl,vs,_,rv,ha⟩
   ·have z':=(if_neg hb).symm.trans z
    cases z'
  ·by_cases hb:b=a
   ·exact hb
   ·exact absurd (if_neg hb) z
theorem walk_of{l:PySem.W.OpenLaw}{n k:Nat}{q:Program}{loose:List Str}{XP:(Str->Option Value)->Heap->Prop}{YP:World->Heap->Prop}{d:DefRec}{K:Params->PySem.W.Frag}{CX:World->CXT}{sp:World->Sp}{x:Str}
  (hn:l.most=some n)(hn2:n<=sizeLine)(hdf:d.params.defaults=[])(hr:Room k callerA)
  (hY:∀(w:World) (h:Heap),YP w h->(K w.params).In h)
  (F:∀ (w:World) (mg:Str->Option Value) (fa:Addr) (h:Heap),(K w.params).In h->h.Ns mainGlobals mg->mg d.name=some (.ref fa) ->
   ∃fd:FuncData,(∀(s:Shared) (u:Value),BindsTo s fd ⟨[u],[]⟩ [(x,u)]) /\
    ∀base:Heap,(K w.params).In base->base.Ns mainGlobals mg->FnOk l.prog w (K w.params) mg base (CX w) k fa fd [x] (sp w))
  (hsp:∀(w:World) (H:Hp) (a:Addr) (ns:List Int),ns.length<=n->ZKy H->SqL (K w.params) H a (ns.map V.int)->sp w [.ref a] H (λv _=>v=.bl true) λ_ _ _=>False)
  (hCX:∀(w:World) (H:Hp) (s:Shared) (e:Value) (s':Shared),CX w [] H s (λ_ _ _=>False) e s'->False) :
  PySem.W.WalkO q loose XP YP l.row.toRowW d [] (λf vs=>PySem.call f vs):=by
 refine Att.attach_call hn hdf λw s₀ s₁ mg mb fa o pm cd doc a vs ns G Y ho hd hcd hmg hobj hints hlen hg=>?_
 have KX:=hY w _ Y;obtain⟨fd,hb,hF⟩:=F w mg fa _ KX G.T.g hmg;exact ZG6 KX G.T.g G.T.b G.T.builtins G.T.nolimit hg hobj hints (le_trans hlen hn2) hr hF hb (λH hO hS=>hsp w H a ns hlen hO hS) λH e s'=>hCX w H s₁ e s'
def ZAy(s:Stmt):Arguments:=match s with
 |.FunctionDef _ a _ _ _ _ _ _ _ _=>a
 |_=>{ posonlyargs:=[],args:=[],vararg:=none,kwonlyargs:=[],kw_defaults:=[],kwarg:=none,defaults:=[] }
def ZAD(s:Stmt):List Stmt:=match s with
 |.FunctionDef _ _ b _ _ _ _ _ _ _=>b
 |_=>[]
def ZF(s:Stmt):Scope:=match s with
 |.FunctionDef _ _ _ _ _ _ sc _ _ _=>sc
 |_=>{ kind:=.function,names:=[],isGenerator:=false,isCoroutine:=false }
abbrev CX0:CXT:=λ_ _ _ _ _ _=>False
abbrev E0:XK:=λ_ _ _=>False
theorem pass0{X:Cx}:ZFF CX0 X E0:=λ_ _ _ _ _ _ _ h=>h.elim
structure Fun (K:PySem.W.Frag) (x qual:Str) (st:Stmt) (f:Addr) (fd:FuncData):Prop where
 ex:∃(oc:Value) (od:Option Addr) (kV doc pm:Value) (an:Option Addr) (cdv ct:Value) (osl:Array (Option Value)),
  fd=PySem.W.fnOf x qual (ZAy st) (ZAD st) (ZF st) .none kV doc pm an cdv ct/\K.lookup f=some ⟨oc,od,.func fd,osl⟩/\PySem.W.codeIn K cdv qual=true
 kp:PySem.W.keepIn K (.ref f)=true
section
variable{P:Program}{w:World}{K:PySem.W.Frag}{mg:Str->Option Value}{base:Heap}
theorem Fun.ok{x qual:Str}{st:Stmt}{f:Addr}{fd:FuncData}{N ps:List Str}{k:Nat}{sp:Sp}(F:Fun K x qual st f fd)(S:FnScope N ps (ZF st))(len:∀vs H Q E,sp vs H Q E->vs.length=ps.length)
  (hbody:∀ (cdv:Value) (A:Around) (outer:List Env) (s:Shared) (H:Hp) (vs:List V) (Q:VK) (E:XK),Room k (A.deeper (envOfC qual (ZF st) s.heap.objs.size f cdv))->sp vs H Q E ->
   ∃t,PSs (ZEy CX0 P w K mg base N qual (ZF st) f cdv A outer s H E).nox (ZAD st) t/\t { nx:=λ_ H'=>Q .non H',rt:=Q } (ZBy N vs) H):FnOk P w K mg base CX0 (k+1) f fd ps sp:=by
 obtain⟨oc,od,kV,doc,pm,an,cdv,ct,osl,rfl,lk,hcd⟩:=F.ex;refine fn_of lk hcd S len λA outer s H vs Q E hr hsp=>?_
 obtain⟨t,h,q⟩:=hbody cdv A outer s H vs Q E hr hsp;exact⟨t,h.nox,q⟩
theorem Fun.binds{x qual:Str}{st:Stmt}{f:Addr}{fd:FuncData}{ps:List Str}(F:Fun K x qual st f fd)
  (h:∀(kV doc pm:Value) (an:Option Addr) (cdv ct:Value) (us:List Value),us.length=ps.length->bindArgs (PySem.W.fnOf x qual (ZAy st) (ZAD st) (ZF st) .none kV doc pm an cdv ct) ⟨us,[]⟩=pure (ps.zip us)):ZDu K fd ps []:=by
 obtain⟨oc,od,kV,doc,pm,an,cdv,ct,osl,rfl,lk,hcd⟩:=F.ex;exact .all (h kV doc pm an cdv ct)
theorem ZHn{x qual:Str}{st:Stmt}{f:Addr}{oc:Value}{od an:Option Addr}{osl:Array (Option Value)}{kV doc pm cdv ct:Value}(l:K.lookup f=some ⟨oc,od,.func (PySem.W.fnOf x qual (ZAy st) (ZAD st) (ZF st) .none kV doc pm an cdv ct),osl⟩)
  (c:PySem.W.codeIn K cdv qual=true)(k:PySem.W.keepIn K (.ref f)=true):Fun K x qual st f (PySem.W.fnOf x qual (ZAy st) (ZAD st) (ZF st) .none kV doc pm an cdv ct):=⟨⟨oc,od,kV,doc,pm,an,cdv,ct,osl,rfl,l,c⟩,k⟩
end
theorem ZP{n:Nat}(h:n<=1000):n<sizeLine:=Nat.lt_of_le_of_lt h (by decide)
theorem iteF{A B:Prop}(h:B):if false=true then A else B:=by
 rw[if_neg Bool.false_ne_true];exact h
theorem iteT{A B:Prop}(h:A):if true=true then A else B:=by
 rw[if_pos rfl];exact h
def Same(H H':Hp):Prop:=∀b o,H b=some o->H' b=some o
theorem Same.refl(H:Hp):Same H H:=λ_ _ h=>h
end L2
namespace HT
open PySem PyProof.Rows
def lexGt:List Int->List Int->Bool
 |[],[]=>false
 |[],_::_=>false
 |_::_,[]=>true
 |x::xs,y::ys=>if x=y then lexGt xs ys else decide (y<x)
theorem ZFg(x y:Int)(xs ys:List Int):lexGt (x::xs) (y::ys)=if x=y then lexGt xs ys else decide (y<x):=rfl
theorem ZDc:lexGt [] []=false:=rfl
theorem ZCu(y:Int)(ys:List Int):lexGt [] (y::ys)=false:=rfl
theorem ZC1(x:Int)(xs:List Int):lexGt (x::xs) []=true:=rfl
theorem ZHd(A:Around)(s:Shared)(a:Int)(t:Tok)(c:Int)(u:Tok)(prog:Program)(w:World)(E:Value->Shared->Prop)(Q:Value->Shared->Prop)(h:Q (.bool (decide (c<a))) s) :
  wpAny (model prog w) A (richCompare .Gt (.int a t) (.int c u)) Q E s :=
 (PyProof.Rows.gt_int h:wpAny (model prog w) A (compareOp .Gt (.int a t) (.int c u)) Q E s)
section
open PySem.SeqAt
open PySem.AutoSeq1 (wpAny_loadPart')
open PySem.MeetsSeq PySem.MeetsSeq2 PySem.MeetsSeq3
theorem ZDU(l b:Addr)(items items2:Array Value)(n n2:Nat)(dd dd2:Option Addr)(sl sl2:Array (Option Value))(ns ms:List Int)(hi:IntsAre items.toList ns)(hj:IntsAre items2.toList ms) :
  Meets (Builtin.«tuple.__gt__» ⟨[.ref l,.ref b],[]⟩)
   (λ _ R s=>s.heap.get? l=some { cls:=.type "tuple",dict:=dd,data:=.seq items n,slots:=sl }/\s.heap.get? b=some { cls:=.type "tuple",dict:=dd2,data:=.seq items2 n2,slots:=sl2 } /\
    R (.ok (.ret (.bool (lexGt ns ms)))) s) :=
 .of_wp λprog w A R s h=>by
  obtain⟨hp,g,d,tk,os⟩:=s;obtain⟨hl,hb,h⟩:=h;have f2:=AutoSeq1.sub_tuple_tuple;have z1:items.size=ns.length:=by rw[←hi.length];simp
  have z2:items2.size=ms.length:=by rw[←hj.length];simp
  wp_walk using wpAny_loadPart' hl,wpAny_loadPart' hb,wpAny_forIn_list _ (λ rest b s'=>b.1=none/\s'=⟨hp,g,d,tk,os⟩/\∃ (vs ws:List Value) (ns' ms':List Int),rest=vs.zip ws /\
   IntsAre vs ns'/\IntsAre ws ms'/\ns'.length+items2.size=ms'.length+items.size/\R (.ok (.ret (.bool (lexGt ns' ms')))) ⟨hp,g,d,tk,os⟩) _
  case turn =>
   rintro ⟨y,x⟩ rest b s' ⟨hb',rfl,vs,ws,ns',ms',hz,hvi,hwi,hlen,hR⟩
   cases hvi with
   |nil=>rw[zip_nil_left] at hz;cases hz
   |cons a t hvi' =>
    cases hwi with
    |nil=>rw[List.zip_nil_right] at hz;cases hz
    |cons c u hwi' =>
     rw[zip_cons_cons] at hz;injection hz with hyx hrest
     injection hyx with hy hx
     subst hy hx;rw[ZFg] at hR;simp only[length_cons] at hlen;obtain⟨e,he,hiff⟩:=ZDG A.in1 ⟨hp,g,d,tk,os⟩ a t c u;refine wpAny_bind (he prog w _ _ ?_);cases e with
     |true =>
      rw[if_pos (hiff.mp rfl)] at hR
      wp_walk
      exact⟨rfl,rfl,_,_,_,_,hrest,hvi',hwi',by omega,hR⟩
     |false =>
      rw[if_neg (λq=>absurd (hiff.mpr q) Bool.false_ne_true)] at hR;have hri:=ZHd A.in1 ⟨hp,g,d,tk,os⟩ a t c u prog w
      wp_walk using hri
      exact⟨_,rfl,by simpa using hR⟩
  case fin =>
   rintro ⟨b1,b2⟩ s' ⟨hb',rfl,vs,ws,ns',ms',hz,hvi,hwi,hlen,hR⟩
   simp only at hb';subst hb';have hv:lexGt ns' ms'=decide (items.size > items2.size):=by
    cases hvi with
    |nil =>
     cases hwi with
     |nil =>
      simp only[length_nil] at hlen;rw[ZDc];exact(decide_eq_false (by omega)).symm
     |cons c u hw =>
      simp only[length_nil,length_cons] at hlen;rw[ZCu];exact(decide_eq_false (by omega)).symm
    |cons a t hv =>
     cases hwi with
     |nil =>
      simp only[length_nil,length_cons] at hlen;rw[ZC1];exact(decide_eq_true (by omega)).symm
     |cons c u hw =>
      rw[zip_cons_cons] at hz;cases hz
   rw[hv] at hR
   wp_walk
   exact⟨_,rfl,by simpa [Builtin.Tuple.tupleCompareSizes] using hR⟩
  case h =>
   exact⟨rfl,rfl,items.toList,items2.toList,ns,ms,rfl,hi,hj,by omega,h⟩
end
section
variable{prog:Program}{w:World}{A:Around}{E:Value->Shared->Prop}{s:Shared}
theorem gt_tupInts{l b:Addr}{items items2:Array Value}{ns ms:List Int}{Q:Value->Shared->Prop}(hl:IsTup s.heap l items)(hb:IsTup s.heap b items2)(hi:IntsAre items.toList ns)(hj:IntsAre items2.toList ms)
  (hu:A.units<cLine)(h:Q (.bool (lexGt ns ms)) s):wpAny (model prog w) A (compareOp .Gt (.ref l) (.ref b)) Q E s:=by
 obtain⟨⟨cls,dd,data,sl⟩,ho,hc,n,hd⟩:=id hl;obtain⟨⟨cls2,dd2,data2,sl2⟩,ho2,hc2,n2,hd2⟩:=id hb;simp only at hc hd hc2 hd2;subst hc hd hc2 hd2;exact richCompare_meets_room (op:=.Gt) ⟨_,ho,rfl⟩ ⟨_,ho2,rfl⟩ PySem.F.slot_tuple_gt PySem.F.entry_tuple_gt (PySem.F.args_tuple_gt_2 _ _) (ZDU l b items items2 n n2 dd dd2 sl sl2 ns ms hi hj)
  ⟨ho,ho2,show Value.bool (lexGt ns ms)≠Value.notImplemented/\Q (.bool (lexGt ns ms)) s from ⟨(λx=>nomatch x),h⟩⟩ hu
end
end HT
namespace L2
open PySem PySem.Spec PyProof.Rows
section
variable{X:Cx}{a b:Expr}{ta tb:TE}{pos:Pos}
def rGtT(K:PySem.W.Frag):R2:=λx y H Q=>∃a b ns ms,x=.ref a/\y=.ref b/\SqT K H a (ns.map V.int)/\SqT K H b (ms.map V.int)/\Q (.bl (HT.lexGt ns ms)) H
theorem ZKQ(hu:X.A.units<cLine):OpR X (compareOp .Gt) (rGtT X.K):=by
 intro pins s σ H x y v u Q I rx ry h;obtain⟨a,b,ns,ms,rfl,rfl,ha,hb,q⟩:=h;cases rx;cases ry;obtain⟨its,r1,p1,_⟩:=I.tuple ha;obtain⟨its2,r2,p2,_⟩:=I.tuple hb;have i1:IntsAre its.toArray.toList ns:=Zw r1;have i2:IntsAre its2.toArray.toList ms:=Zw r2;exact HT.gt_tupInts p1 p2 i1 i2 hu ⟨.bl (HT.lexGt ns ms),H,I,rfl,q⟩
def CDivL(i j:Int):Prop:=0<j/\j<2 ^ 64
theorem ZG1:OpR X (binaryOp .FloorDiv) (rI CDivL λi j=>.int (i / j)):=opI λi j _ _ _ _ _ hc q=>by
 have h1:(0:Int)<j:=hc.1;have h2:j<2 ^ 64:=hc.2;have e:i.fdiv j=i / j:=Int.fdiv_eq_ediv_of_nonneg i (Int.le_of_lt h1);refine floordiv_int (by omega) (by rw[e];exact q) (.inl (PyProof.noPylong_of_log2 ?_));have h3:j.natAbs<2 ^ 64:=by omega
 have h4:j.natAbs≠0:=by omega
 have h5:j.natAbs.log2<64:=(Nat.log2_lt h4).mpr h3;omega
end
end L2
namespace H1
open PySem PySem.Spec PyProof.Rows L2
structure Def (K:PySem.W.Frag) (mg:Str->Option Value) (x:Str) (st:Stmt) (ps:List Str) (f:Addr) (fd:FuncData):Prop where
 at_:mg x=some (.ref f)
 fn:Fun K x x st f fd
 bd:ZDu K fd ps []
theorem pcall{X:Cx}{x:Str}{st:Stmt}{ps:List Str}{f:Addr}{fd:FuncData}{sp:Sp}{k:Nat}{e:Expr}{es:List Expr}{t:TA}{p pos:Pos}(D:Def X.K X.mg x st ps f fd)(G:FnOk X.prog X.w X.K X.mg X.base CX0 k f fd ps sp)(hr:Room k X.A)
  (ha:PA X (e::es) t)(hg:Gl X x:=by rfl)(hdb:(x == ("__debug__" : Str))=false:=by decide)(he:starEach (e::es) X.env=(false,eval e X.env)::starEach es X.env:=by rfl)(hpl:(backTo pos (starEach es X.env)).any (·.1)=false:=by rfl) :
  PE X (.Call (.Name x p) (e::es) [] pos) (ZJ2 sp [] E0 t):=ZJM G hr hg D.at_ D.fn.kp D.bd .nil pass0 ha hdb he hpl
theorem Same.upd{H:Hp}{p:Addr}{o:HO}(h:H p=none):Same H (upd H p o):=λa u e=>by rw[ZE (ZH e h)];exact e
theorem ib1(k:Bool) : -(2 ^ 64)<(if k=true then (1:Int) else 0)/\(if k=true then (1:Int) else 0)<2 ^ 64:=by cases k <;> decide
end H1
namespace HI
open PySem PyProof.Rows
section
variable{prog:Program}{w:World}{A:Around}{E:Value->Shared->Prop}{s:Shared}
theorem drawT{j t:Addr}{i:Nat}{its:Array Value}{x:Value}{Q:Value->Shared->Prop}(hj:s.heap.IsTupleIter j t i)(ht:s.heap.IsTuple t its)(hx:its[i]? = some x)
  (k:∀h',h'.IsTupleIter j t (i+1)->Heap.SameBut j s.heap h'->Q x { s with heap:=h' }):wpAny (model prog w) A (Builtin.SmallTypes.nextOf (.ref j)) Q E s:=by
 obtain⟨oj,ej,cj,dj⟩:=id hj;obtain⟨ot,et,_,nt,dt⟩:=ht;unfold Builtin.SmallTypes.nextOf;refine wpAny_bind (wpAny_callSpecial?_slot (name:=Str.ofString "__next__") hj.typeIs F.slot_tuple_iterator_next (wpAny_call_entry F.slot_tuple_iterator_next hj.typeIs F.entry_tuple_iterator_next ?_ (F.args_tuple_iterator_next_1 _)));refine wpAny_bind (m:=field (.ref j) 0) (wpAny_field ej dj (x:=.ref t) rfl ?_);show wpAny _ _ (if (Value.ref t == Value.none)=true then _ else field (.ref j) 1 >>= _) _ _ s;rw[if_neg (by intro z;cases z)];refine wpAny_bind (m:=field (.ref j) 1) (wpAny_field ej dj (x:=.int i 0) rfl (wpAny_bind (m:=seqItems? (.ref t)) (wpAny_seqItems et dt ?_)));simp only[toNat_natCast,hx];refine wpAny_bind (wpAny_setField ej dj (by simp) (wpAny_pure ⟨_,rfl,wpAny_pure (k _ ?_ (Heap.SameBut.update ..))⟩));refine⟨_,get?_update_self _ ej (Obj.isFreed_of_fields (Obj.data_mapFields dj _)),(Obj.cls_mapFields ..).trans cj,?_⟩;rw[Obj.data_mapFields dj];simp[rawInt]
theorem ZGn{j t:Addr}{i:Nat}{its:Array Value}{Q:Value->Shared->Prop}(hh:A.handled=none)(hj:s.heap.IsTupleIter j t i)(ht:s.heap.IsTuple t its)(hx:its[i]? = none)
  (k:∀h' e,Heap.ExtBut j s.heap h'->(∃o,h'.get? e=some o/\o.cls=.type "StopIteration")->E (.ref e) { s with heap:=h' }):wpAny (model prog w) A (Builtin.SmallTypes.nextOf (.ref j)) Q E s:=by
 obtain⟨oj,ej,cj,dj⟩:=id hj;obtain⟨ot,et,_,nt,dt⟩:=ht;unfold Builtin.SmallTypes.nextOf;refine wpAny_bind (wpAny_callSpecial?_slot (name:=Str.ofString "__next__") hj.typeIs F.slot_tuple_iterator_next (wpAny_call_entry F.slot_tuple_iterator_next hj.typeIs F.entry_tuple_iterator_next ?_ (F.args_tuple_iterator_next_1 _)));refine wpAny_bind (m:=field (.ref j) 0) (wpAny_field ej dj (x:=.ref t) rfl ?_);show wpAny _ _ (if (Value.ref t == Value.none)=true then _ else field (.ref j) 1 >>= _) _ _ s;rw[if_neg (by intro z;cases z)];refine wpAny_bind (m:=field (.ref j) 1) (wpAny_field ej dj (x:=.int i 0) rfl (wpAny_bind (m:=seqItems? (.ref t)) (wpAny_seqItems et dt ?_)));simp only[toNat_natCast,hx];refine wpAny_bind (wpAny_rule (wpAny_bind (wpAny_setField ej dj (by simp) ?_)));refine wpAny_bind (m:=newExc (.type "StopIteration") []) ?_;simp only[newExc,newTuple];refine wpAny_bind (wpAny_newObj_type (wpAny_bind (m:=firstArgMember _ _) (wpAny_of_eq (a:=Value.none) (by first|rfl|(simp only[firstArgMember];rfl)) (wpAny_newObj_type ?_ (by size_fits)))) (by size_fits));simp only[raiseNew];refine wpAny_bind (wpAny_handled ?_)
 first
  |rw[show A.in1.handled=none from hh]
  |rw[hh]
 exact wpAny_bind (wpAny_pure (wpAny_throw (k _ _ (((Heap.SameBut.update ..).extBut.push _).push _) ⟨_,get?_push_size _ rfl,rfl⟩)))
end
abbrev nm(q:Bool):String:=cond q "tuple_iterator" "list_iterator"
def IsIt(q:Bool)(h:Heap)(i l:Addr)(k:Nat):Prop:=∃o,h.get? i=some o/\o.cls=.type (nm q)/\o.data=.fields #[.ref l,.int k 0]
def IsSq(q:Bool)(h:Heap)(l:Addr)(xs:Array Value):Prop:=∃o,h.get? l=some o/\o.cls=.type (cond q "tuple" "list")/\∃n,o.data=.seq xs n
section
variable{prog:Program}{w:World}{A:Around}{E:Value->Shared->Prop}{s:Shared}{q:Bool}
theorem ZDL{j t:Addr}{i:Nat}{its:Array Value}{x:Value}{Q:Value->Shared->Prop}(hj:IsIt q s.heap j t i)(ht:IsSq q s.heap t its)(hx:its[i]? = some x)
  (k:∀h',IsIt q h' j t (i+1)->Heap.SameBut j s.heap h'->Q x { s with heap:=h' }):wpAny (model prog w) A (Builtin.SmallTypes.nextOf (.ref j)) Q E s:=by
 cases q
 ·exact wpAny_nextOf_list_item hj ht hx k
 ·exact drawT hj ht hx k
theorem ZAV{j t:Addr}{i:Nat}{its:Array Value}{Q:Value->Shared->Prop}(hh:A.handled=none)(hj:IsIt q s.heap j t i)(ht:IsSq q s.heap t its)(hx:its[i]? = none)
  (k:∀h' e,Heap.ExtBut j s.heap h'->(∃o,h'.get? e=some o/\o.cls=.type "StopIteration")->E (.ref e) { s with heap:=h' }):wpAny (model prog w) A (Builtin.SmallTypes.nextOf (.ref j)) Q E s:=by
 cases q
 ·exact wpAny_nextOf_list_end hh hj ht hx k
 ·exact ZGn hh hj ht hx k
theorem itG{l:Addr}{items:Array Value}{Q:Value->Shared->Prop}(hl:IsSq q s.heap l items)(hQ:Q (.ref s.heap.objs.size) { s with heap:=s.heap.push { cls:=.type (nm q),data:=.fields #[.ref l,.int 0 0] } }):wpAny (model prog w) A (pyIter (.ref l)) Q E s:=by
 cases q
 ·exact wpAny_pyIter_list hl hQ
 ·exact wpAny_pyIter_tuple hl hQ
end
theorem drawsG{q:Bool}{prog:Program}{w:World}{A:Around}(hh:A.handled=none)(j t:Addr)(ne:t≠j)(its:Array Value) :
  Draws prog w A j [j,t] its.size (λi v=>its[i]? = some v) (λi h=>IsIt q h j t i/\IsSq q h t its) where
 live:=λ_ _ st=>by
  obtain⟨⟨o,e,_⟩,_⟩:=st;exact⟨o,e⟩
 frame:=λ_ _ _ st hk=>by
  obtain⟨⟨o,e,r⟩,⟨u,f,q⟩⟩:=st;exact⟨⟨o,hk j (by simp) o e,r⟩,⟨u,hk t (by simp) u f,q⟩⟩
 item:=λi s Q E hi st hQ=>by
  refine ZDL st.1 st.2 (x:=its[i]) (by simp[hi]) λh' h1 h2=>?_
  obtain⟨u,f,q⟩:=st.2;exact hQ _ h' s.toks (by simp[hi]) ⟨h1,⟨u,(h2.2 t ne).trans f,q⟩⟩ h2
 done:=λs Q E st hE=>ZAV hh st.1 st.2 (by simp) hE
theorem drawsG_fin{q:Bool}{prog:Program}{w:World}{A:Around}(hh:A.handled=none)(j t:Addr)(its:Array Value)(i:Nat)(hi:its.size<=i) :
  Draws prog w A j [j,t] 0 (λ_ _=>False) (λ_ h=>IsIt q h j t i/\IsSq q h t its) where
 live:=λ_ _ st=>by
  obtain⟨⟨o,e,_⟩,_⟩:=st;exact⟨o,e⟩
 frame:=λ_ _ _ st hk=>by
  obtain⟨⟨o,e,r⟩,⟨u,f,q⟩⟩:=st;exact⟨⟨o,hk j (by simp) o e,r⟩,⟨u,hk t (by simp) u f,q⟩⟩
 item:=λi s Q E hi st hQ=>absurd hi (not_lt_zero _)
 done:=λs Q E st hE=>ZAV hh st.1 st.2 (by simp[hi]) hE
open AutoSeq1 (wpAny_loadPart') in
theorem ZIA(q:Bool)(l:Addr)(its:Array Value)(n:Nat)(dct:Option Addr)(sl:Array (Option Value)) :
  Meets (Builtin.«enumerate.__new__» ⟨[.type "enumerate",.ref l],[]⟩) (λ _ R s=>s.heap.get? l=some { cls:=.type (cond q "tuple" "list"),dict:=dct,data:=.seq its n,slots:=sl } /\
   R (.ok (.ret (.ref (s.heap.push { cls:=.type (nm q),data:=.fields #[.ref l,.int 0 0] }).objs.size)))
    { s with heap:=(s.heap.push { cls:=.type (nm q),data:=.fields #[.ref l,.int 0 0] }).push { cls:=.type "enumerate",data:=.fields #[.none,.bool false,.ref s.heap.objs.size,rawInt 0,.none,.none] } }) :=
 .of_wp λprog w A R s h=>by
  obtain⟨hp,g,d,tk,os⟩:=s;obtain⟨hl,h⟩:=h;have hsub:=sub_enumerate;have hT:IsSq q (Shared.heap ⟨hp,g,d,tk,os⟩) l its:=⟨_,hl,rfl,n,rfl⟩
  wp_walk using wpAny_loadPart' hl
  refine wpAny_stack_any λst=>wpAny_pure ?_
  split
  ·rename_i c _ _ _ _ _
   cases (c == Value.type "enumerate")
   all_goals
    wp_walk using wpAny_loadPart' hl,itG hT
    exact⟨_,rfl,h⟩
  ·wp_walk using wpAny_loadPart' hl,itG hT
   exact⟨_,rfl,h⟩
section
variable{prog:Program}{w:World}{A:Around}{E:Value->Shared->Prop}{s:Shared}
theorem callEnumT{q:Bool}{l:Addr}{its:Array Value}{Q:Value->Shared->Prop}(hL:IsSq q s.heap l its)
  (h:∀ h',IsEnum h' (s.heap.objs.size+1) s.heap.objs.size 0 .none->IsIt q h' s.heap.objs.size l 0->h'.objs.size=s.heap.objs.size+2 ->
   (∀b o,s.heap.get? b=some o->h'.get? b=some o)->Q (.ref (s.heap.objs.size+1)) { s with heap:=h' }):wpAny (model prog w) A (call (.type "enumerate") [.ref l]) Q E s:=by
 obtain⟨⟨c,dct,dt,sl⟩,hl,hc,n,hd⟩:=hL;replace hc:c=.type (cond q "tuple" "list"):=hc;replace hd:dt=.seq its n:=hd;subst hc hd;refine callType_new F.called_enumerate (by decide) (F.typeCall_enumerate_1 _) (F.newCall_enumerate_1 _) (λobj=>F.args_object_init_2 obj _) F.entry_enumerate_new (ZIA q l its n dct sl) ⟨hl,?_⟩;have hz:(s.heap.push { cls:=.type (nm q),data:=.fields #[.ref l,.int 0 0] }).objs.size=s.heap.objs.size+1:=size_push ..;show _/\_;rw[hz];have he:IsEnum ((s.heap.push { cls:=.type (nm q),data:=.fields #[.ref l,.int 0 0] }).push { cls:=.type "enumerate",data:=.fields #[.none,.bool false,.ref s.heap.objs.size,rawInt 0,.none,.none] }) (s.heap.objs.size+1) s.heap.objs.size 0 .none:=by
  have e:=get?_push_size (s.heap.push { cls:=.type (nm q),data:=.fields #[.ref l,.int 0 0] }) (o:={ cls:=.type "enumerate",data:=.fields #[.none,.bool false,.ref s.heap.objs.size,rawInt 0,.none,.none] }) rfl;rw[hz] at e;exact e
 exact⟨⟨_,he,rfl⟩,h _ he ⟨_,get?_push_of_some _ (get?_push_size _ rfl),rfl,rfl⟩ (by rw[size_push,hz]) λb o x=>get?_push_of_some _ (get?_push_of_some _ x)⟩
end
end HI
namespace L2
open PySem PySem.Spec PyProof.Rows
def SqG(q:Bool)(K:PySem.W.Frag)(H:Hp)(a:Addr)(xs:List V):Prop:=cond q (SqT K H a xs) (SqL K H a xs)
section
variable{X:Cx}{pins:List (Addr×Obj)}{σ : List (Option V)}{H:Hp}{s:Shared}{q:Bool}{a:Addr}{xs ys:List V}
theorem Inv.sq(I:Inv X pins σ H s)(h:SqG q X.K H a xs):∃its:List Value,ZK xs its/\HI.IsSq q s.heap a its.toArray/\xs.length<=sizeLine:=by
 cases q
 ·obtain⟨its,r,p,z⟩:=I.list h
  exact⟨its,r,p.isList,z⟩
 ·exact I.tuple h
theorem Inv.sq_inj(I:Inv X pins σ H s)(h:SqG q X.K H a xs)(h':SqG q X.K H a ys):xs=ys:=by
 cases q
 ·exact I.list_inj h h'
 ·exact I.tuple_inj h h'
end
def ZJQ(q:Bool)(K:PySem.W.Frag)(a:Addr):It :=
 ⟨λi H=>∃xs x,SqG q K H a xs/\xs[i]? = some x,λi H v H'=>∃p x,v=.ref p/\H p=none/\H'=upd H p (.tup [.int i,x])/\∀xs,SqG q K H a xs->xs[i]? = some x,λi H=>∃xs,SqG q K H a xs/\xs.length<=i⟩
abbrev Ite:=ZJQ true
theorem ZGK{q:Bool}{P:Program}{w:World}{K:PySem.W.Frag}{es:List Expr}{k:Nat}{pos:Pos}(a it e:Addr)(hei:e≠it) :
  Turn P w K (.Tuple es k pos) (ZJQ q K a) [e,it] e (λi h=>(∃old,IsEnum h e it i old)/\HI.IsIt q h it a i) where
 mem:=by simp
 obj:=λi h st b hb=>by
  obtain⟨⟨old,he⟩,o,ho,c,d⟩:=st;rcases List.mem_cons.mp hb with rfl|hb
  ·exact⟨_,he,λv z=>by cases z⟩
  ·rw[List.mem_singleton.mp hb]
   exact⟨o,ho,λv z=>by rw[d] at z;cases z⟩
 keep:=λi h h' st kk=>by
  obtain⟨⟨old,he⟩,o,ho,r⟩:=st;exact⟨⟨old,kk e (by simp) _ he⟩,o,kk it (by simp) o ho,r⟩
 item:=by
  intro X hP hw hK hc i pins s σ H E I hf st hg;subst hP hw hK;obtain⟨xs,x,hq,hx⟩:=hg;obtain⟨its,rv,p,hz⟩:=I.sq hq;obtain⟨u,hu,ru⟩:=rv.get hx;obtain⟨f0,f1,f2,f3,f4,f5⟩:=hf e (by simp);obtain⟨g0,g1,g2,g3,g4,g5⟩:=hf it (by simp);obtain⟨⟨old,he⟩,hit⟩:=st;have hilt:i<its.length:=(List.getElem?_eq_some_iff.mp hu).1;have hai:a≠it:=by
   intro z;obtain⟨o,eo,co,_⟩:=p;obtain⟨o2,eo2,co2,_⟩:=hit;rw[z,eo2] at eo;cases eo;rw[co2] at co;cases q <;> exact absurd co (by decide)
  have hae:e≠a:=by
   intro z;obtain⟨o,eo,co,_⟩:=p;rw[←z,he] at eo;cases eo;have co':Value.type "enumerate" = Value.type (cond q "tuple" "list"):=co;cases q <;> exact absurd co' (by decide)
  refine wpAny_pyNext_enum_itemD (HI.drawsG (q:=q) (prog:=X.prog) (w:=X.w) (A:=X.A.in1) (show X.A.in1.handled=none from I.ok.hd hc) it a hai its.toArray) he ⟨hit,p⟩ (by simpa using hilt) hei (by simp[hei,hae]) λx' h' tk hP ho hs hT hsz hk=>?_
  have ex:x'=u:=by
   have q:its[i]? = some x':=by simpa using hP
   rw[hu] at q;exact(Option.some.inj q).symm
  subst ex;refine⟨_,rfl,?_⟩;refine wpAny_letOwnedTupleGo_enum ho λh2 he2 hs2=>?_
  have nT:H s.heap.objs.size=none:=I.hok.fresh (le_refl _);have heS:e<s.heap.objs.size:=lt_size he;have hiS:it<s.heap.objs.size:=by obtain⟨o,ho,_⟩:=hit;exact lt_size ho
  have hT2:h2.get? s.heap.objs.size=some { cls:=.type "tuple",data:=.seq #[.int i tk,x'] }:=(hs2.2 _ (ne_of_gt heS)).trans hT;have kk:∀b o,b≠e->b≠it->s.heap.get? b=some o->h2.get? b=some o:=λb o h1 h2' q=>(hs2.2 b h1).trans (hk b o h1 h2' q)
  have nit:∀b u,H b=some u->b≠e/\b≠it:=λb u q=>⟨λz=>(by rw[z,f0] at q;cases q),λz=>(by rw[z,g0] at q;cases q)⟩
  have ne1:∀b u,H b=some u->b≠s.heap.objs.size:=λb u q=>ZH q nT
  have hok:HOk X.prog X.w (upd H s.heap.objs.size (.tup [.int i,x])) h2:=λb ob q=>by
   by_cases hb:b=s.heap.objs.size
   ·subst hb
    rw[ZI] at q;cases q;exact⟨by show 2<=sizeLine;decide,[.int i tk,x'],.cons ⟨tk,rfl⟩ (.cons ru .nil),⟨_,hT2,rfl,_,rfl⟩⟩
   ·rw[ZE hb] at q
    refine(I.hok b ob q).stay (λc v hc' r=>?_) (λc r=>by rw[ZE (ne1 _ _ r)];exact r) λc ys r=>by rw[ZE (ne1 _ _ r)];exact r
    have nc:c≠e/\c≠it:=by
     rcases hc' with z|z
     ·rw[z];exact nit b ob q
     ·exact nit c _ z
    exact kk c v nc.1 nc.2 r
  have I2:Inv X pins σ (upd H s.heap.objs.size (.tup [.int i,x])) { s with heap:=h2,toks:=tk+1 }:=by
   refine I.step (g':=s.gens) (d':=s.drawn) (ch:=[e,it]) (λb hb=>?_) (λb o _ _ hc' q _=>kk b o (λz=>hc' (by simp[z])) (λz=>hc' (by simp[z])) q) (λb o _ _ hc' q _=>⟨o.slots,kk b o (λz=>hc' (by simp[z])) (λz=>hc' (by simp[z])) q⟩)
    (λb o _ q n=>by rw[ZE (ne_of_lt (lt_size q))];exact n) (λb o hc' q=>⟨o,kk b o (λz=>hc' (by simp[z])) (λz=>hc' (by simp[z])) q⟩) (λb ys q=>by rw[ZE (ne1 _ _ q)];exact q) (λb o u q=>by rw[ZE (ne1 _ _ q)];exact q)
    (λb ps q=>⟨#[],by rw[ZE (ne1 _ _ q),q];simp⟩) (λm hm=>?_) hok I.bare
   ·rcases List.mem_cons.mp hb with rfl|hb
    ·exact⟨f3,f1,f4,f5⟩
    ·rw[List.mem_singleton.mp hb]
     exact⟨g3,g1,g4,g5⟩
   ·obtain⟨o,es',ep,ho',r⟩:=hm
    exact⟨o,es',ep,kk _ o (Ne.symm f1) (Ne.symm g1) ho',r⟩
  refine⟨.ref s.heap.objs.size,_,I2,rfl,⟨_,x,rfl,nT,rfl,λys hy=>by rw[I.sq_inj hy hq];exact hx⟩,⟨⟨x',by simpa using he2⟩,?_⟩,λb hb=>?_⟩
  ·obtain⟨⟨o,eo,r⟩,_⟩:=hs
   exact⟨o,(hs2.2 it (Ne.symm hei)).trans eo,r⟩
  ·rcases List.mem_cons.mp hb with rfl|hb
   ·rw[ZE (ne_of_lt heS)];exact f0
   ·rw[List.mem_singleton.mp hb,ZE (ne_of_lt hiS)];exact g0
 done:=by
  intro X hP hw hK hc i pins s σ H E I hf st hg;subst hP hw hK;obtain⟨xs,hq,hx⟩:=hg;obtain⟨its,rv,p,hz⟩:=I.sq hq;obtain⟨g0,g1,g2,g3,g4,g5⟩:=hf it (by simp);obtain⟨⟨old,he⟩,hit⟩:=st;have hl:=rv.length;exact wpAny_pyNext_enum_endD (HI.drawsG_fin (q:=q) (prog:=X.prog) (w:=X.w) (A:=X.A.in1) (show X.A.in1.handled=none from I.ok.hd hc) it a its.toArray i (by simp;omega)) he ⟨hit,p⟩ λh' eb=>⟨rfl,I.turned (t':=s.toks) (λb o hb e=>eb b o hb e) g0 g1 g3 g4 g5⟩
 self:=λ_ _ _ _ _ st h=>by
  obtain⟨⟨old,he⟩,_⟩:=st;exact wpAny_pyIter_enum he h
section
variable{X:Cx}
def ZKu(q:Bool)(K:PySem.W.Frag)(ta:TA):TI:=λσ H R=>ta σ H λvs H1=>∃a,vs=[.ref a]/\(∃xs,SqG q K H1 a xs)/\R (ZJQ q K a) H1
theorem ZEZ{qb:Bool}{es:List Expr}{k:Nat}{tpos:Pos}{a:Expr}{ta:TA}{p pos:Pos}(hg:Gl X "enumerate")(hm:X.mg "enumerate" = none)(ha:PA X [a] ta)(hs:starEach [a] X.env=[(false,eval a X.env)]:=by rfl) :
  PI X (.Tuple es k tpos) (.Call (.Name "enumerate" p) [a] [] pos) (ZKu qb X.K ta):=by
 intro pins s σ H R I h;refine Call_ (ZA9 I hg hm boot_enumerate (PyProof.Rows.callWith_type1 (thn (ha pos pins s σ H _ I h) λus s1 ⟨vs,H1,I1,r1,q1⟩=>?_) hs rfl));obtain⟨l,e,⟨xs,hq⟩,q⟩:=q1;subst e;cases r1 with
 |cons r rr =>
  cases rr;cases r;obtain⟨its,rv,pt,hz⟩:=I1.sq hq;refine HI.callEnumT (q:=qb) (show HI.IsSq qb s1.heap l its.toArray from pt) λh' he hit hsz hk=>?_
  have I2:Inv X pins σ H1 { s1 with heap:=h' }:=I1.kept (t':=s1.toks) hk;refine wpAny_pyIter_enum he ⟨s1.heap.objs.size+1,[s1.heap.objs.size+1,s1.heap.objs.size],_,_,H1,rfl,I2,ZGK l s1.heap.objs.size _ (Nat.succ_ne_self _),⟨⟨_,he⟩,hit⟩,λb hb=>?_,q⟩;have hb':s1.heap.objs.size<=b:=by
   rcases List.mem_cons.mp hb with e|hb
   ·rw[e];exact le_succ _
   ·rw[List.mem_singleton.mp hb];exact le_refl _
  have F0:=I1.fpOk hb' (I1.hok.fresh hb');exact F0
end
theorem ZJX{env:Env}(ns:List (Str×NameKind))(h:∀x∈ns,x.2=.free->∃c,env.cells.lookup x.1=some c):∀cs:List (Str×Addr),
  ∃ cl:List (Str × Addr),(forIn ns cs λ x r=>do
   let mut cs:=r
   if x.2 == .free then cs:=(x.1,←cellOf env x.1)::cs
   pure (ForInStep.yield cs):Sem (List (Str×Addr)))=pure cl /\
   (∀x c,cl.lookup x=some c->cs.lookup x=some c∨env.cells.lookup x=some c) /\
   (∀x,(cs.lookup x).isSome=true->(cl.lookup x).isSome=true)/\∀x,(x,NameKind.free)∈ns->(cl.lookup x).isSome=true:=by
 induction ns with
 |nil=>exact λcs=>⟨cs,rfl,λ_ _ e=>.inl e,λ_ e=>e,λ_ z=>nomatch z⟩
 |cons y r ih =>
  intro cs;obtain⟨n,k⟩:=y;have ih:=ih λx hx=>h x (mem_cons_of_mem _ hx)
  by_cases hk:k=.free
  ·subst hk
   obtain⟨c,hc⟩:=h (n,.free) mem_cons_self rfl;obtain⟨cl,e,p1,p2,p3⟩:=ih ((n,c)::cs);refine⟨cl,?_,λx c' q=>?_,λx q=>p2 x ?_,λx q=>?_⟩
   ·rw[forIn_cons]
    have hce:cellOf env n=pure c:=by
     unfold cellOf;rw[show env.cells.lookup n=some c from hc]
    simp only[beq_self_eq_true,if_true];rw[hce];exact e
   ·rcases p1 x c' q with q|q
    ·rw[lookup_cons] at q
     cases hx:x == n with
     |true=>rw[hx] at q;cases q;rw[eq_of_beq hx];exact .inr hc
     |false=>rw[hx] at q;exact .inl q
    ·exact .inr q
   ·rw[lookup_cons]
    cases hx:x == n with
    |true=>rfl
    |false=>exact q
   ·rcases List.mem_cons.mp q with z|z
    ·cases z
     exact p2 _ (by rw[lookup_cons];simp)
    ·exact p3 x z
  ·obtain⟨cl,e,p1,p2,p3⟩:=ih cs
   refine⟨cl,?_,p1,p2,λx q=>?_⟩
   ·rw[forIn_cons]
    have hb:(k == NameKind.free)=false:=by simpa using hk
    simp only[hb];exact e
   ·rcases List.mem_cons.mp q with z|z
    ·cases z;exact absurd rfl hk
    ·exact p3 x z
theorem ZBV{env:Env}{scope:Scope}(h:∀x∈scope.names,x.2=.free->∃c,env.cells.lookup x.1=some c) :
  ∃cl:List (Str×Addr),closureFor scope env=pure cl/\(∀x c,cl.lookup x=some c->env.cells.lookup x=some c)/\∀x,(x,NameKind.free)∈scope.names->(cl.lookup x).isSome=true:=by
 obtain ⟨cl,e,p1,_,p3⟩:=ZJX scope.names h [];refine ⟨cl,?_,λ x c q=>(p1 x c q).elim (λ z=>by cases z) id,p3⟩;unfold closureFor;have e2:(forIn scope.names ([]:List (Str × Addr)) λ x r=>do
   let mut cs:=r
   if x.2 == .free then cs:=(x.1,←cellOf env x.1)::cs
   pure (ForInStep.yield cs):Sem (List (Str×Addr))) >>= (λcs=>pure cs)=pure cl:=by rw[e];rfl
 exact e2
abbrev blk(X:Cx)(N:List Str)(env:Env)(s:Shared)(H:Hp)(ex:List Addr):Cx:={ X with N:=N,s₀:=s,H₀:=H,env:=env,outer:=X.stack,stack:=X.stack,ex:=ex,fn:=λ_=>false,pn:=[],xe:=λ_ _=>False }
section
variable{X:Cx}{pins:List (Addr×Obj)}{σ : St}{H:Hp}{s:Shared}{fp:List Addr}{env:Env}{N:List Str}
theorem ZKC(I:Inv X pins σ H s)(hf:∀b∈fp,ZCY X pins H b)(hob:∀b∈fp,∃o,s.heap.get? b=some o)(hC:s.heap.objs.size<=env.locals)(hk:env.scope.kind=.function)(hg:env.globals=X.env.globals)(hb:env.builtins=X.env.builtins)
  (hsub:∀x c,env.cells.lookup x=some c->X.env.cells.lookup x=some c)(hhas:∀x,(env.kindOf x=some .cell∨env.kindOf x=some .free)->∃c,env.cells.lookup x=some c):(blk X N env s H fp).Ok where
 mod:=I.ok.mod
 kind:=hk
 glob:=hg.trans I.ok.glob
 blt:=hb.trans I.ok.blt
 above:=hC
 inj:=λx y c e1 e2=>I.ok.inj x y c (hsub x c e1) (hsub y c e2)
 has:=hhas
 cab:=λ_ _ z=>by cases z
 hd:=I.ok.hd
 frames:=I.ok.frames
 stk:=.inl rfl
 exf:=λb hb'=>by
  obtain⟨o,e⟩:=hob b hb';exact⟨ne_of_lt (lt_of_lt_of_le (lt_size e) hC),λx c q=>(hf b hb').2.2.2.2.1 x c (hsub x c q)⟩
 bs:=I.bs
 bsz:=le_trans I.ok.bsz I.sz
 noex:=λb o e hb'=>by
  rcases(hf b hb').2.2.2.1 with z|z
  ·exact I.ok.noex b o e z
  ·exact absurd (lt_of_lt_of_le (lt_size e) (le_trans I.ok.bsz z)) (lt_irrefl _)
 exfs:=λb hb' z=>by
  rcases List.mem_cons.mp (I.stkSub b z) with q|q
  ·exact(hf b hb').2.1 q
  ·exact(hf b hb').2.2.1 q
 funs:=I.stack
 frf:=I.stkFree
theorem ZJA{h1:Heap}{tk:Nat}{σ':St}{m:Str->Option Value}(I:Inv X pins σ H s)(hf:∀b∈fp,ZCY X pins H b)(hob:∀b∈fp,∃o,s.heap.get? b=some o)(hC:s.heap.objs.size<=env.locals)(hk:env.scope.kind=.function)(hg:env.globals=X.env.globals)(hb:env.builtins=X.env.builtins)
  (hsub:∀x c,env.cells.lookup x=some c->X.env.cells.lookup x=some c)(hhas:∀x,(env.kindOf x=some .cell∨env.kindOf x=some .free)->∃c,env.cells.lookup x=some c)
  (keep:∀b u,s.heap.get? b=some u->h1.get? b=some u)(hn:h1.Ns env.locals m)(hlen : σ'.length=N.length)
  (hcap:∀(i:Nat) (x:Str) (v:V),N[i]? = some x->σ'[i]? = some (some v)->(env.kindOf x=some .cell∨env.kindOf x=some .free)/\X.env.kindOf x≠some .local/\Vis X.env.scope x/\∃j:Nat,X.N[j]? = some x/\σ[j]? = some (some v)) :
  Inv (blk X N env s H fp) [] σ' H { s with heap:=h1,toks:=tk } where
 ok:=ZKC I hf hob hC hk hg hb hsub hhas
 os:=rfl
 bare:=I.bare
 base:=Un.kept keep
 loc:=⟨m,hn,λi x v e1 e2 _=>by
  obtain⟨k1,k2,k3,j,e3,e4⟩:=hcap i x v e1 e2;obtain⟨m0,_,hl⟩:=I.loc;obtain⟨u,r,l⟩:=hl j x v e3 e4 k3;refine⟨u,r,?_⟩;rcases l with ⟨z,_⟩|⟨_,c,ec,o,ho,hd⟩
  ·exact absurd z k2
  ·obtain⟨c',ec'⟩:=hhas x k1
   have ee:c'=c:=by
    have q:=hsub x c' ec';rw[ec] at q;exact(Option.some.inj q).symm
   subst ee;exact .inr ⟨k1,c',ec',o,keep _ _ ho,hd⟩⟩
 cell:=λx c e=>by
  obtain⟨v,o,ho,hd⟩:=I.cell x c (hsub x c e);exact⟨v,o,keep _ _ ho,hd⟩
 free:=I.hok.fresh hC
 freeC:=λx c e=>I.freeC x c (hsub x c e)
 pin:=λp hp=>by cases hp
 hok:=I.hok.kept keep
 len:=hlen
theorem Un.but{fs ex:List Addr}{H H':Hp}{h h1 h2:Heap}{C:Addr}(u:Un fs ex H H' h h1)(sb:Heap.SameBut C h1 h2)(hC:h.objs.size<=C):Un fs ex H H' h h2:=by
 have k:∀b o,h.get? b=some o->h2.get? b=h1.get? b:=λb o e=>sb.2 b (ne_of_lt (lt_of_lt_of_le (lt_size e) hC))
 exact⟨λb o e n h3 h4=>(k b o e).trans (u.keep b o e n h3 h4),λb o e n h3 h4=>by
  obtain⟨sl,q⟩:=u.slot b o e n h3 h4;exact⟨sl,(k b o e).trans q⟩,u.free,λb o e h3=>by
  obtain⟨o',q⟩:=u.there b o e h3;exact⟨o',(k b o e).trans q⟩,u.tups,u.frzs,u.tbls⟩
theorem ZIb{σ':St}{H':Hp}{s':Shared}{h2:Heap}(I:Inv X pins σ H s)(hf:∀b∈fp,ZCY X pins H b)(hC:s.heap.objs.size<=env.locals)(J:Inv (blk X N env s H fp) [] σ' H' s')(sb:Heap.SameBut env.locals s'.heap h2):Inv X pins σ H' { s' with heap:=h2 }:=by
 refine I.call' (ch:=fp) J.os (J.base.but sb hC) (λb u e=>?_) J.bare λb hb=>⟨(hf b hb).2.2.2.1,(hf b hb).2.1,(hf b hb).2.2.2.2.1,(hf b hb).2.2.2.2.2⟩
 refine(J.hok b u e).stay (λc v hc q=>(sb.2 c ?_).trans q) (λ_ q=>q) λ_ _ q=>q
 intro z;have n:=J.free;rcases hc with q|q
 ·rw[←q,z] at e
  rw[e] at n;cases n
 ·rw[z] at q
  rw[q] at n;cases n
end
def Wk(a b:St):Prop:=a.length=b.length/\∀(i:Nat) (v:V),a[i]? = some (some v)->b[i]? = some (some v)
def PTs(X:Cx)(ifs:List Expr)(t:TT):Prop :=
 ∀(pins:List (Addr×Obj)) (s:Shared) (σ : St) (H:Hp) (Q:Bool->Hp->Prop),Inv X pins σ H s->t σ H Q ->
  wpAny (model X.prog X.w) X.A (forIn ifs true λc r=>if r=true then do let ok ←isTrue c X.env (eval c X.env);pure (ForInStep.yield ok) else pure (ForInStep.yield r)) (TP X pins σ Q) X.xe s
def tYes:TT:=λ_ H Q=>Q true H
theorem ZIu{X:Cx}:PTs X [] tYes:=λ_ _ _ H _ I h=>wpAny_tests_nil ⟨H,I,h⟩
theorem ZIc{X:Cx}{c:Expr}{t:TT}(h:PT X c t):PTs X [c] t:=λpins s σ H Q I hw=>wpAny_tests_one (h pins s σ H Q I hw)
def ZF7(J:It)(g:TG)(tt:TT)(te:TE)(σ0:St)(D:Addr)(Q:VK)(H1:Hp):Prop :=
 ∃W:Nat->Nat->List V->Hp->Prop,(∃m,W 0 m [] H1)/\∀i m acc H,W i m acc H ->
  (J.stop i H/\Q (.ref D) H) ∨ (J.go i H/\∃ N:List V->Hp->Prop,(∀ acc' H',N acc' H'->∃ m',m' < m/\W (i+1) m' acc' H') /\
   ∀x H',J.yld i H x H'->g x σ0 H' λσ2 H2=>Wk σ0 σ2/\tt σ2 H2 λb H3=>if b=true then te σ2 H3 λy H4=>H4 D=some (.lst acc)/\acc.length<sizeLine/\N (acc++[y]) (upd H4 D (.lst (acc++[y]))) else N acc H3)
theorem ZGX{Y:Cx}{tg elt iter:Expr}{ifs:List Expr}{scope:Scope}{pos:Pos}{it D:Addr}{J:It}{fp:List Addr}{tn:Nat->Heap->Prop}{g:TG}{tt:TT}{te:TE}{σ0:St}{Q:VK}{R:Result->Shared->Prop}{H:Hp}{s:Shared}
  (hc:Y.calm=true)(T:Turn Y.prog Y.w Y.K tg J fp it tn)(hfp:∀H,(∀b∈fp,H b=none)->∀b∈fp,ZCY Y [] H b)(hg:PG Y tg g)(ht:PTs Y ifs tt)(he:PE Y elt te)(hxe:∀e s,¬Y.xe e s)
  (hR:∀H' s',Inv Y [] σ0 H' s'->Q (.ref D) H'->R (.ok .next) s')(I:Inv Y [] σ0 H s)(st:tn 0 s.heap)(fr:∀b∈fp,H b=none)(hw:ZF7 J g tt te σ0 D Q H) :
  codeAny (model Y.prog Y.w) Y.A (.compLoop (.ListComp elt [⟨tg,iter,ifs,0⟩] scope pos) 0 (.ref it) (.ref D) Y.env) R s:=by
 obtain⟨W,⟨m0,w0⟩,turn⟩:=hw;refine codeAny_loop rfl (λn s'=>∃i H' acc,Inv Y [] σ0 H' s'/\tn i s'.heap/\(∀b∈fp,H' b=none)/\W i n acc H') ?_ m0 ⟨0,H,[],I,st,fr,w0⟩
 rintro n s3 ⟨i,H3,acc,I3,st3,fr3,w3⟩
 show wpAny _ Y.A ((compTurn (.ListComp elt [⟨tg,iter,ifs,0⟩] scope pos) 0 (.ref it) (.ref D) Y.env).onRaise (λx=>do noteFrame x Y.env;theTreesLotGoes x)) _ _ s3;refine wpAny_noted ?_;rw[compTurn_list];refine wpAny_bind (wpAny_standAt (wpAny_bind ?_));rcases turn i n acc H3 w3 with ⟨stop,qn⟩|⟨go,N,hN,step⟩
 ·refine thn (T.done Y rfl rfl rfl hc i [] s3 σ0 H3 _ I3 (hfp H3 fr3) st3 stop) λr s4 ⟨hr,I4⟩=>?_
  subst hr;exact wpAny_pure (hR H3 s4 I4 qn)
 ·refine thn (T.item Y rfl rfl rfl hc i [] s3 σ0 H3 _ I3 (hfp H3 fr3) st3 go) λr s4 ⟨u,hr,h4⟩=>?_
  subst hr;refine wpAny_bind (thn h4 λ_ s5 ⟨x,H5,I5,r5,y5,st5,fr5⟩=>?_);have I5':Inv Y (ZCC fp s5.heap) σ0 H5 s5:=by
   have q:=I5.pinned (hfp H5 fr5) (T.obj _ _ st5)
   rwa [nil_append] at q
  have again:∀{σ7:St} {H7:Hp} {acc7:List V} {s7:Shared},Inv Y (ZCC fp s5.heap) σ7 H7 s7->Wk σ0 σ7->N acc7 H7->∃m,m<n/\∃i H' acc,Inv Y [] σ0 H' s7/\tn i s7.heap/\(∀b∈fp,H' b=none)/\W i m acc H':=λ{σ7 H7 acc7 s7} I7 wk n7=>by
   obtain⟨m',hm,w7⟩:=hN acc7 H7 n7;have I8:Inv Y [] σ0 H7 s7:=(I7.weak wk.1 wk.2).pins_of λp hp=>nomatch hp
   refine⟨m',hm,i+1,H7,acc7,I8,T.keep _ _ _ st5 λb hb o e=>(I7.pin (b,o) (mem_append_right _ (ZA0 hb e))).1,λb hb=>?_,w7⟩;obtain⟨o,e,d⟩:=T.obj _ _ st5 b hb;exact(I7.pin (b,o) (mem_append_right _ (ZA0 hb e))).2.1
  refine wpAny_bind (wpAny_mono (hg _ s5 σ0 H5 x u _ I5' r5 (step x H5 y5)) (λ_ s6 ⟨σ6,H6,I6,wk,q6⟩=>?_) λ_ _ z=>(hxe _ _ z).elim);refine wpAny_bind (wpAny_mono (ht _ s6 σ6 H6 _ I6 q6) (λok s7 ⟨H7,I7,q7⟩=>?_) λ_ _ z=>(hxe _ _ z).elim);cases ok with
  |false=>exact wpAny_pure ⟨rfl,again I7 wk q7⟩
  |true =>
   refine wpAny_bind (wpAny_bind (wpAny_mono (he _ s7 σ6 H7 _ I7 q7) (λy s8 ⟨v,H8,I8,r8,hD,hz,q8⟩=>?_) λ_ _ z=>(hxe _ _ z).elim));refine wpAny_bind (wpAny_mono (ZDe _ s8 σ6 H8 (.ref D) [v] (.ref D) [y] (λ_ H9=>N (acc++[v]) H9) I8 rfl (.cons r8 .nil) ⟨D,acc,v,rfl,rfl,hD,hz,q8⟩) (λ_ s9 ⟨_,H9,I9,_,q9⟩=>?_) λ_ _ z=>(hxe _ _ z).elim);exact wpAny_pure (wpAny_pure ⟨rfl,again I9 wk q9⟩)
def ZB5(sc scope:Scope)(NX N:List Str)(own:Nat)(cap:List Nat):Bool :=
 (scope.kind == .function) && scope.names.all (λy=>y.2 != .cell && (y.2 != .local || scope.names.lookup y.1 == some .local) && (y.2 != .free || sc.names.lookup y.1 == some .cell || sc.names.lookup y.1 == some .free)) &&
 (N.length == own+cap.length) && ((N.drop own).zip cap).all (λp=>NX[p.2]? == some p.1 && scope.names.lookup p.1 == some .free && (sc.names.lookup p.1 == some .cell || sc.names.lookup p.1 == some .free))
structure CapOk (sc scope:Scope) (NX N:List Str) (own:Nat) (cap:List Nat):Prop where
 kind:scope.kind=.function
 nocell:∀y∈scope.names,y.2≠.cell
 names:∀y∈scope.names,y.2=.local->scope.names.lookup y.1=some .local
 free:∀y∈scope.names,y.2=.free->sc.names.lookup y.1=some .cell∨sc.names.lookup y.1=some .free
 len:N.length=own+cap.length
 caps:∀p∈(N.drop own).zip cap,NX[p.2]? = some p.1/\scope.names.lookup p.1=some .free/\(sc.names.lookup p.1=some .cell∨sc.names.lookup p.1=some .free)
theorem ZEf{sc scope:Scope}{NX N:List Str}{own:Nat}{cap:List Nat}(h:ZB5 sc scope NX N own cap=true):CapOk sc scope NX N own cap:=by
 unfold ZB5 at h;simp only[Bool.and_eq_true,all_eq_true,Bool.or_eq_true,beq_iff_eq,bne_iff_ne,ne_eq] at h;obtain⟨⟨⟨h1,h2⟩,h3⟩,h4⟩:=h;refine⟨h1,λy hy=>(h2 y hy).1.1,λy hy e=>?_,λy hy e=>?_,h3,λp hp=>?_⟩
 ·rcases(h2 y hy).1.2 with z|z
  ·exact absurd e z
  ·exact z
 ·rcases(h2 y hy).2 with (z|z)|z
  ·exact absurd e z
  ·exact .inl z
  ·exact .inr z
 ·obtain⟨⟨a,b⟩,c⟩:=h4 p hp
  exact⟨a,b,c⟩
def ZDC(own:Nat)(cap:List Nat)(σ : St):St:=List.replicate own none++cap.map λj=>(σ[j]?).join
theorem ZA8{env:Env}:∀{names:List (Str×NameKind)} {x:Str} {k:NameKind},(names.map λ(n,k)=>if (k == NameKind.free && env.scope.kind == .function && env.kindOf n == some .cell) then (n,NameKind.cell) else (n,k)).lookup x=some k ->
  ∃k0,names.lookup x=some k0/\(k=k0∨(k0=.free/\k=.cell))
 |[],_,_,h=>by simp at h
 |(n,k0)::r,x,k,h=>by
  have h':List.lookup x ((if (k0 == NameKind.free && env.scope.kind == .function && env.kindOf n == some .cell)=true then (n,NameKind.cell) else (n,k0))::(r.map λ(n,k)=>if (k == NameKind.free && env.scope.kind == .function && env.kindOf n == some .cell) then (n,NameKind.cell) else (n,k)))=some k:=h;cases hx:x == n with
  |true =>
   by_cases hc:(k0 == NameKind.free && env.scope.kind == .function && env.kindOf n == some .cell)=true
   ·rw[if_pos hc,lookup_cons,hx] at h'
    cases h';rw[Bool.and_eq_true,Bool.and_eq_true] at hc;exact⟨k0,by rw[lookup_cons,hx],.inr ⟨by simpa using hc.1.1,rfl⟩⟩
   ·rw[if_neg hc,lookup_cons,hx] at h'
    cases h';exact⟨k0,by rw[lookup_cons,hx],.inl rfl⟩
  |false =>
   have h2:(r.map λ(n,k)=>if (k == NameKind.free && env.scope.kind == .function && env.kindOf n == some .cell) then (n,NameKind.cell) else (n,k)).lookup x=some k:=by
    by_cases hc:(k0 == NameKind.free && env.scope.kind == .function && env.kindOf n == some .cell)=true
    ·rw[if_pos hc,lookup_cons,hx] at h';exact h'
    ·rw[if_neg hc,lookup_cons,hx] at h';exact h'
   obtain⟨k1,e1,r1⟩:=ZA8 h2;exact⟨k1,by rw[lookup_cons,hx];exact e1,r1⟩
theorem ZAL{env:Env}:∀{names:List (Str×NameKind)} {x:Str},names.lookup x=some .free ->
  (names.map λ(n,k)=>if (k == NameKind.free && env.scope.kind == .function && env.kindOf n == some .cell) then (n,NameKind.cell) else (n,k)).lookup x=some .cell∨(names.map λ(n,k)=>if (k == NameKind.free && env.scope.kind == .function && env.kindOf n == some .cell) then (n,NameKind.cell) else (n,k)).lookup x=some .free
 |[],_,h=>by simp at h
 |(n,k0)::r,x,h=>by
  show List.lookup x ((if (k0 == NameKind.free && env.scope.kind == .function && env.kindOf n == some .cell)=true then (n,NameKind.cell) else (n,k0))::_)=_∨List.lookup x ((if (k0 == NameKind.free && env.scope.kind == .function && env.kindOf n == some .cell)=true then (n,NameKind.cell) else (n,k0))::_)=_;rw[lookup_cons] at h;cases hx:x == n with
  |true =>
   rw[hx] at h;cases h
   by_cases hc:(NameKind.free == NameKind.free && env.scope.kind == .function && env.kindOf n == some .cell)=true
   ·rw[if_pos hc,lookup_cons,hx];exact .inl rfl
   ·rw[if_neg hc,lookup_cons,hx];exact .inr rfl
  |false =>
   rw[hx] at h;have ih:=ZAL (env:=env) h
   by_cases hc:(k0 == NameKind.free && env.scope.kind == .function && env.kindOf n == some .cell)=true
   ·rw[if_pos hc,lookup_cons,hx];exact ih
   ·rw[if_neg hc,lookup_cons,hx];exact ih
def ZEq(own:Nat)(cap:List Nat)(wi:TI)(g:TG)(tt:TT)(te:TE):TE:=λσ H Q=>wi σ H λJ H1=>∀D,H1 D=none->ZF7 J g tt te (ZDC own cap σ) D Q (upd H1 D (.lst []))
section
variable{X:Cx}{tg elt iter:Expr}{ifs:List Expr}{scope sc:Scope}{pos:Pos}{wi:TI}{g:TG}{tt:TT}{te:TE}{N NX:List Str}{own:Nat}{cap:List Nat}
theorem ZCs{pins:List (Addr×Obj)}{σ : St}{s2:Shared}{itv:Value}{Q:VK}{E:Value->Shared->Prop}{R:Value->Addr->Result->Shared->Prop}{cl:List (Str×Addr)}(hc:X.calm=true)(hsc:X.env.scope=sc)(hNX:X.N=NX)(co:CapOk sc scope NX N own cap)
  (hsub:∀x c,cl.lookup x=some c->X.env.cells.lookup x=some c)(hall:∀x,(x,NameKind.free)∈scope.names->(cl.lookup x).isSome=true)
  (hb:∀cl C s0 H0 fp,PG (blk X N (compEnvC scope cl C X.env) s0 H0 fp) tg g/\PTs (blk X N (compEnvC scope cl C X.env) s0 H0 fp) ifs tt/\PE (blk X N (compEnvC scope cl C X.env) s0 H0 fp) elt te)
  (h2:PIE X pins σ tg (λJ H1=>∀D,H1 D=none->ZF7 J g tt te (ZDC own cap σ) D Q (upd H1 D (.lst []))) itv s2)
  (hR:∀D C H' s',ZCY X pins H' C->(∃m,s'.heap.Ns C m)->(∀h',Heap.SameBut C s'.heap h'->Inv X pins σ H' { s' with heap:=h' })->Q (.ref D) H'->R (.ref D) C (.ok .next) s') :
  wpAny (model X.prog X.w) X.A (newList []) (λ acc s3=>wpAny (model X.prog X.w) X.A (newFunctionEnv scope X.env.globals cl [] X.env.qual none .none (some X.env)) (λ cenv s4 =>
   codeAny (model X.prog X.w) X.A (.compStart (.ListComp elt [⟨tg,iter,ifs,0⟩] scope pos) 0 itv acc { cenv with scope:=relabel scope X.env }) (R acc cenv.locals) s4) E s3) E s2:=by
 obtain⟨it,fp,tn,J,H2,rfl,I2,T,st2,f2,hloop⟩:=h2;refine wpAny_newObj_type (wpAny_newFunctionEnv co.nocell (by intro y hy;simp at hy) (λh1 hns hsb=>?_) co.kind);have fD:H2 s2.heap.objs.size=none:=I2.hok.fresh (le_refl _);have I3:Inv X pins σ (upd H2 s2.heap.objs.size (.lst [])) { s2 with heap:=s2.heap.push { cls:=.type "list",data:=.seq ([]:List Value).toArray } }:=I2.laid (t':=s2.toks) (λb u e=>get?_push_of_some _ e) (le_refl _) ⟨zero_le _,[],0,.nil,get?_push_size _ rfl⟩;have hq:=hloop s2.heap.objs.size fD
 generalize hHD:s2.heap.objs.size=D at *
 generalize hs3:s2.heap.push { cls:=.type "list",data:=.seq ([]:List Value).toArray }=h3 at *
 dsimp only at hns hsb ⊢;have hsz:h3.objs.size=D+1:=by rw[←hs3,size_push,hHD]
 have ob2:∀b∈fp,∃o,s2.heap.get? b=some o:=λb hb'=>let ⟨o,e,_⟩:=T.obj _ _ st2 b hb';⟨o,e⟩
 have k23:∀b o,s2.heap.get? b=some o->h3.get? b=some o:=λb o e=>by rw[←hs3];exact get?_push_of_some _ e
 have k34:∀b o,h3.get? b=some o->h1.get? b=some o:=λb o e=>(hsb.2 b (ne_of_lt (lt_size e))).trans (get?_push_of_some _ e)
 have f3:∀b∈fp,ZCY X pins (upd H2 D (.lst [])) b:=λb hb'=>by
  obtain⟨o,e⟩:=ob2 b hb';exact⟨by rw[ZE (ne_of_lt (by rw[←hHD];exact lt_size e))];exact(f2 b hb').1,(f2 b hb').2⟩
 have ob3:∀b∈fp,∃o,h3.get? b=some o:=λb hb'=>let ⟨o,e⟩:=ob2 b hb';⟨o,k23 b o e⟩
 have hhas:∀x,((compEnvC scope cl h3.objs.size X.env).kindOf x=some .cell∨(compEnvC scope cl h3.objs.size X.env).kindOf x=some .free)->∃c,(compEnvC scope cl h3.objs.size X.env).cells.lookup x=some c:=λx hx=>by
  have q:∃k,(k=NameKind.cell∨k=NameKind.free)/\(relabel scope X.env).names.lookup x=some k:=by
   rcases hx with z|z
   ·exact⟨_,.inl rfl,z⟩
   ·exact⟨_,.inr rfl,z⟩
  obtain⟨k,hk,e⟩:=q;obtain⟨k0,e0,r0⟩:=ZA8 e;have hm:=PySem.mem_of_lookup e0;have hf0:k0=.free:=by
   rcases r0 with z|z
   ·rcases hk with y|y
    ·exact absurd (z.symm.trans y) (co.nocell _ hm)
    ·exact z.symm.trans y
   ·exact z.1
  subst hf0;have:=hall x hm;exact Option.isSome_iff_exists.mp this
 have hcap:∀(i:Nat) (x:Str) (v:V),N[i]? = some x->(ZDC own cap σ)[i]? = some (some v)->((compEnvC scope cl h3.objs.size X.env).kindOf x=some .cell∨(compEnvC scope cl h3.objs.size X.env).kindOf x=some .free)/\X.env.kindOf x≠some .local/\Vis X.env.scope x/\∃j:Nat,X.N[j]? = some x/\σ[j]? = some (some v):=λi x v e1 e2=>by
  unfold ZDC at e2
  by_cases hi:i<own
  ·rw[getElem?_append_left (by simpa using hi),getElem?_replicate] at e2
   split at e2 <;> cases e2
  ·rw[getElem?_append_right (by simpa using hi),length_replicate,getElem?_map] at e2
   cases ej:cap[i-own]? with
   |none=>rw[ej] at e2;cases e2
   |some j =>
    rw[ej] at e2;have e3:(σ[j]?).join=some v:=Option.some.inj e2;have hd:(N.drop own)[i-own]? = some x:=by rw[List.getElem?_drop,show own+(i-own)=i by omega];exact e1
    have hz:(x,j)∈(N.drop own).zip cap:=mem_of_getElem? (i:=i-own) (by rw[List.getElem?_zip_eq_some];exact⟨hd,ej⟩);obtain⟨c1,c2,c3⟩:=co.caps (x,j) hz;have c3':X.env.kindOf x=some .cell∨X.env.kindOf x=some .free:=by unfold Env.kindOf;rw[hsc];exact c3
    refine⟨ZAL c2,λz=>?_,?_,j,by rw[hNX];exact c1,?_⟩
    ·rcases c3' with y|y <;> (rw[y] at z;cases z)
    ·rcases c3' with y|y
     ·exact .inr (.inl y)
     ·exact .inr (.inr y)
    ·cases es : σ[j]? with
     |none=>rw[es] at e3;cases e3
     |some w=>rw[es] at e3;exact congrArg some e3
 have I4:Inv (blk X N (compEnvC scope cl h3.objs.size X.env) { s2 with heap:=h3 } (upd H2 D (.lst [])) fp) [] (ZDC own cap σ) (upd H2 D (.lst [])) { s2 with heap:=h1,toks:=s2.toks+([]:List (Str×Value)).length } :=
  ZJA I3 f3 ob3 (le_refl _) co.kind rfl rfl hsub hhas k34 hns (by unfold ZDC;rw[length_append,length_replicate,length_map,co.len]) hcap
 obtain⟨hg,ht,he⟩:=hb cl h3.objs.size { s2 with heap:=h3 } (upd H2 D (.lst [])) fp;have loop:codeAny (model X.prog X.w) X.A (.compLoop (.ListComp elt [⟨tg,iter,ifs,0⟩] scope pos) 0 (.ref it) (.ref D) (compEnvC scope cl h3.objs.size X.env)) (R (.ref D) h3.objs.size) { s2 with heap:=h1,toks:=s2.toks+([]:List (Str×Value)).length }:=by
  refine ZGX (Y:=blk X N (compEnvC scope cl h3.objs.size X.env) { s2 with heap:=h3 } (upd H2 D (.lst [])) fp) (Q:=Q) hc T (λH0 fr b hb'=>?_) hg ht he (λ_ _ z=>z) (λH' s' J' q=>?_) I4 (T.keep _ _ _ st2 λb _ o e=>k34 b o (k23 b o e)) (λb hb'=>(f3 b hb').1) hq
  ·obtain⟨o,e⟩:=ob3 b hb'
   exact⟨fr b hb',ne_of_lt (lt_size e),λz=>(List.mem_cons.mp (I3.stkSub b z)).elim (f3 b hb').2.1 (f3 b hb').2.2.1,.inl hb',λx c ec=>(f3 b hb').2.2.2.2.1 x c (hsub x c ec),λp hp=>nomatch hp⟩
  ·exact hR D h3.objs.size H' s' (I3.fpOk (le_refl _) J'.free) (let ⟨m,hm,_⟩:=J'.loc;⟨m,hm⟩) (λh' sb=>ZIb (env:=compEnvC scope cl h3.objs.size X.env) I3 f3 (le_refl _) J' sb) q
 exact codeAny_compStart_list loop (T.self _ 0 _ _ _ (T.keep _ _ _ st2 λb _ o e=>k34 b o (k23 b o e)) loop)
theorem ZF1(hc:X.calm=true)(hi:PI X tg iter wi)(hsc:X.env.scope=sc)(hNX:X.N=NX)
  (hb:∀cl C s0 H0 fp,PG (blk X N (compEnvC scope cl C X.env) s0 H0 fp) tg g/\PTs (blk X N (compEnvC scope cl C X.env) s0 H0 fp) ifs tt/\PE (blk X N (compEnvC scope cl C X.env) s0 H0 fp) elt te)
  (co:ZB5 sc scope NX N own cap=true)(hs:∀x,foldedSetIterable iter X.env x=pure x:=by intro _;rfl):PE X (.ListComp elt [⟨tg,iter,ifs,0⟩] scope pos) (ZEq own cap wi g tt te):=by
 intro pins s σ H Q I h;have co:=ZEf co;obtain⟨cl,hcl,hsub,hall⟩:=ZBV (env:=X.env) (scope:=scope) λy hy e=>I.ok.has y.1 (by unfold Env.kindOf;rw[hsc];exact co.free y hy e)
 rw[eval_ListComp];refine wpAny_comprehension_free (use:=none) rfl hs hcl co.kind co.names (thn (hi pins s σ H _ I h) λv s1 h1=>thn h1 λitv s2 h2=>?_);refine ZCs (Q:=Q) (R:=λacc C=>compPost (model X.prog X.w) X.A X.xe none (EP X pins σ Q) acc C) hc hsc hNX co hsub hall hb h2 λD C H' s' _ ⟨m,hm⟩ hi' q=>?_
 exact⟨m,hm,λh' sb=>⟨.ref D,H',hi' h' sb,rfl,q⟩⟩
theorem ZIg{i:Nat}{x:Str}{py spos:Pos}(hN:X.N.Nodup)(hi:X.N[i]? = some x)(hx:Loc X.env.scope x)(hc:X.calm=true)(hit:PI X tg iter wi)(hsc:X.env.scope=sc)(hNX:X.N=NX)
  (hb:∀cl C s0 H0 fp,PG (blk X N (compEnvC scope cl C X.env) s0 H0 fp) tg g/\PTs (blk X N (compEnvC scope cl C X.env) s0 H0 fp) ifs tt/\PE (blk X N (compEnvC scope cl C X.env) s0 H0 fp) elt te)
  (co:ZB5 sc scope NX N own cap=true)(hsw:swapsWith (.ListComp elt [⟨tg,iter,ifs,0⟩] scope pos) (some (.Name x py)) spos.line X.env=pure true:=by rfl)(hs:∀x,foldedSetIterable iter X.env x=pure x:=by intro _;rfl)
  (hf:X.fn x=true∨X.env.scope.names.lookup x=some .local:=by first|exact .inl rfl|exact .inr rfl|assumption) :
  PS X (.Assign [.Name x py] (.ListComp elt [⟨tg,iter,ifs,0⟩] scope pos) spos) (ZLe (ZEq own cap wi g tt te) (ZEv i)):=by
 intro pins s σ H D I h;have co:=ZEf co;obtain⟨cl,hcl,hsub,hall⟩:=ZBV (env:=X.env) (scope:=scope) λy hy e=>I.ok.has y.1 (by unfold Env.kindOf;rw[hsc];exact co.free y hy e)
 rw[exec_Assign_Name_used _ _ _ _ hsw];refine wpAny_bind (wpAny_standAt (wpAny_bind ?_));show wpAny (model X.prog X.w) X.A (comprehension (.ListComp elt [⟨tg,iter,ifs,0⟩] scope pos) scope X.env _ (newList []) false (eval iter X.env) (some (assign (.Name x py) X.env)) >>= λ_=>pure ()) _ _ s;refine wpAny_bind (thn (wpAny_comprehension_free (use:=some (assign (.Name x py) X.env)) (Q:=λ_ s'=>SP X pins D .next s') rfl hs hcl co.kind co.names (thn (hit pins s σ H _ I h) λv s1 h1=>thn h1 λitv s2 h2=>?_)) λ_ s' q=>wpAny_pure (wpAny_pure q));refine ZCs (Q:=λv H1=>ZEv i v σ H1 D.nx) (R:=λacc C=>compPost (model X.prog X.w) X.A X.xe (some (assign (.Name x py) X.env)) (λ_ s'=>SP X pins D .next s') acc C) hc hsc hNX co hsub hall hb h2 λDa C H' s' fC ⟨m,hm⟩ hi' q=>?_
 have I1:Inv X pins σ H' s':=hi' s'.heap (Heap.SameBut.refl ..);show wpAny _ _ (assign (.Name x py) X.env (.ref Da)) _ _ s';refine wpAny_assign_Name (ZDr I1 hN hi hx (v:=.ref Da) rfl (λs3 I3 ⟨a,sb,ha⟩=>?_) hf);obtain⟨f0,f1,f2,f3,f4,f5⟩:=fC;have nC:C≠a:=by
  rcases ha with z|z
  ·rw[z];exact f1
  ·exact Ne.symm (f4 _ _ z)
 exact⟨m,hm.sameBut sb nC,λh' sb2=>⟨_,H',I3.turned (t':=s3.toks) (λb o hb' e=>(sb2.2 b hb').trans e) f0 f1 f3 f4 f5,q⟩⟩
end
section
variable{X:Cx}
theorem ZG2(hc:X.calm=true):ZM X (.builtin "all") (λxs H Q=>∃(p:Addr) (bs:List Bool),xs=[.ref p]/\SqL X.K H p (bs.map V.bl)/\Q (.bl (bs.all id)) H):=by
 intro pins s σ H xs us Q I r h;obtain⟨p,bs,rfl,hq,q⟩:=h;obtain⟨u,rfl,ru⟩:=ZAm r;cases ru;obtain⟨its,rv,pl,hz⟩:=I.list hq;have hlen:=rv.length;rw[length_map] at hlen;have hpl:p<s.heap.objs.size:=by
  obtain⟨o,n,e,_⟩:=pl;exact lt_size e
 refine call_all_walk (wpAny_pyIter_list pl.isList ⟨s.heap.objs.size,_,_,_,_,_,λi=>bs.getD i false,rfl,Walks.list (A:=X.A.in1) (show X.A.in1.handled=none from I.ok.hd hc) s.heap.objs.size p (ne_of_lt hpl) its.toArray,?_,?_,λh' tk k=>?_⟩)
 ·exact⟨⟨_,get?_push_size _ rfl,rfl,rfl⟩,pl.isList.at λo e=>get?_push_of_some _ e⟩
 ·intro i v s' Q' E' hv hQ
  have hv':its[i]? = some v:=by simpa using hv
  have hi:i<bs.length:=by rw[hlen];exact(List.getElem?_eq_some_iff.mp hv').1
  obtain⟨u,hu,ru⟩:=rv.get (i:=i) (x:=V.bl bs[i]) (by simp[hi]);rw[hv'] at hu;cases hu;cases ru;have e:bs.getD i false=bs[i]:=by simp[List.getD,hi]
  dsimp only at hQ;rw[e] at hQ;exact wpAny_truthy_bool hQ
 ·have e:((List.range its.toArray.size).all λi=>bs.getD i false)=bs.all id:=by
   rw[Bool.eq_iff_iff,all_eq_true,all_eq_true];constructor
   ·intro z b hb
    obtain⟨i,hi,rfl⟩:=List.mem_iff_getElem.mp hb;have:=z i (by simp[←hlen,hi]);simpa [List.getD,hi] using this
   ·intro z i hi
    have hi':i<bs.length:=by simpa [←hlen] using hi
    have:=z bs[i] (getElem_mem hi');simpa [List.getD,hi'] using this
  rw[e];exact⟨.bl (bs.all id),H,I.kept λb o q=>k b o (by simp;exact ne_of_lt (lt_size q)) (get?_push_of_some _ q),rfl,q⟩
end
section
variable{X:Cx}
theorem ZEo:ZM X (.type "range") (λxs H Q=>∃j,xs=[.int j]/\∀p,H p=none->Q (.ref p) (upd H p (.rng 0 j))):=by
 intro pins s σ H xs us Q I r h;obtain⟨j,rfl,q⟩:=h;obtain⟨u,rfl,ru⟩:=ZAm r;obtain⟨t,rfl⟩:=ru;refine call_range_1 ⟨.ref s.heap.objs.size,_,I.laid (t':=s.toks+1+1) (λb o e=>get?_push_of_some _ e) (le_refl _) (o:=.rng 0 j) ?_,rfl,q _ (I.hok.fresh (le_refl _))⟩;exact⟨_,_,_,get?_push_size _ rfl⟩
def ZEY(n:Nat):List V:=(List.range n).map λ(i:Nat)=>V.int (i:Int)
theorem ZE3:∀{ns:List Int} {ys:List Value},CarriedAll ys (ns.map PyData.int)->ZK (ns.map V.int) ys
 |[],_,h=>by cases h;exact .nil
 |n::r,_,h=>by
  cases h with
  |cons a b =>
   cases a;exact .cons ⟨_,rfl⟩ (ZE3 b)
end
end L2
namespace L2
open PySem PySem.Spec PyProof.Rows H1
def Z2(w:Int×Int):PyData:=.tuple [.int w.1,.int w.2]
def ZFv(ws:List (Int×Int)):PyData:=.tuple (ws.map Z2)
def gtW(a b:Int×Int):Bool:=HT.lexGt [a.1,a.2] [b.1,b.2]
theorem ZAY{a b:Int×Int}:gtW a b=true ↔ b.1<a.1∨(a.1=b.1/\b.2<a.2):=by
 have e:gtW a b=if a.1=b.1 then (if a.2=b.2 then false else decide (b.2<a.2)) else decide (b.1<a.1):=rfl
 rw[e]
 split
 ·split
  ·constructor
   ·intro z;cases z
   ·intro z;omega
  ·rw[decide_eq_true_iff];omega
 ·rw[decide_eq_true_iff];omega
end L2
namespace HI
open PySem PyProof.Rows
def ZAJ(h:Heap)(z TI TO:Addr)(f0 f1:Value):Prop:=h.get? z=some { cls:=.type "zip",data:=.fields #[f0,f1,.bool false,.ref TI,.ref TO] }
section
variable{prog:Program}{w:World}{A:Around}{E:Value->Shared->Prop}{s:Shared}{q qq:Bool}
theorem ZGy{z TI TO i1 i2 l1 l2:Addr}{k1 k2:Nat}{xs ys:Array Value}{x y a b f0 f1:Value}{Q:Value->Shared->Prop}(ap:ZipApart z TI TO i1 i2 l1 l2)(hz:ZAJ s.heap z TI TO f0 f1)(hfree:∀Q:Bool->Shared->Prop,Q true s->wpAny (model prog w) A (Builtin.SmallTypes.ownedTupleIsFree (.ref z)) Q E s)(hTI:IsPair s.heap TI (.ref i1) (.ref i2))(hTO:IsPair s.heap TO a b)
  (h1:IsIt q s.heap i1 l1 k1)(h2:IsIt qq s.heap i2 l2 k2)(hl1:IsSq q s.heap l1 xs)(hl2:IsSq qq s.heap l2 ys)(hx:xs[k1]? = some x)(hy:ys[k2]? = some y)
  (k:∀ h',ZAJ h' z TI TO (rawInt s.heap.objs.size) (.bool false)->IsPair h' TO x y->IsIt q h' i1 l1 (k1+1)->IsIt qq h' i2 l2 (k2+1)->IsPair h' s.heap.objs.size x y->h'.objs.size=s.heap.objs.size+1 ->
   (∀c o,c≠z->c≠TO->c≠i1->c≠i2->s.heap.get? c=some o->h'.get? c=some o)->Q (.ref s.heap.objs.size) { s with heap:=h' }) :
  wpAny (model prog w) A (Builtin.«zip.__next__» ⟨[.ref z],[]⟩) (λfin s'=>∃v,fin=.done (.ret v)/\Q v s') E s:=by
 unfold Builtin.«zip.__next__»;refine wpAny_bind (m:=slotArgs "__next__" 0 ⟨[.ref z],[]⟩) (wpAny_of_eq (a:=(Value.ref z,[])) (by rfl) ?_);refine wpAny_bind (m:=field (.ref z) 2) (wpAny_field hz rfl (x:=.bool false) rfl ?_);refine wpAny_bind (m:=field (.ref z) 3) (wpAny_field hz rfl (x:=.ref TI) rfl ?_);refine wpAny_bind (m:=seqItems? (.ref TI)) (wpAny_seqItems hTI rfl ?_);dsimp only;rw[if_neg (by intro z;cases z)];refine wpAny_bind (m:=Builtin.SmallTypes.ownedTupleIsFree (.ref z)) (hfree _ ?_);rw[if_pos rfl];refine wpAny_bind (wpAny_rule ?_);refine wpAny_bind (m:=field (.ref z) 4) (wpAny_field hz rfl (x:=.ref TO) rfl ?_);dsimp only;refine wpAny_bind (wpAny_setField hz rfl (by simp) ?_);have nz:=ap;obtain⟨TIz,TOz,i1z,i2z,TITO,TIi1,TIi2,TOi1,TOi2,i12,l1z,l1TO,l1i1,l1i2,l2z,l2TO,l2i1,l2i2⟩:=nz;have sA:=Heap.SameBut.update (h:=s.heap) z (Obj.mapFields λ(x:Array Value)=>x.setIfInBounds 0 Value.ellipsis);have zA:ZAJ (s.heap.update z (Obj.mapFields λ(x:Array Value)=>x.setIfInBounds 0 Value.ellipsis)) z TI TO .ellipsis f1:=get?_update_self _ hz rfl
 generalize hHA:s.heap.update z (Obj.mapFields λ(x:Array Value)=>x.setIfInBounds 0 Value.ellipsis)=HA at *
 refine wpAny_bind ?_;show wpAny _ _ (forIn [(Value.ref i1,0),(Value.ref i2,1)] _ _) _ _ _;simp only[forIn_cons,forIn_nil];refine wpAny_bind (wpAny_bind (wpAny_onRaise ?_));show wpAny _ _ (Builtin.SmallTypes.nextOf (.ref i1) >>= λv=>pure (some v)) _ _ _;have h1A:IsIt q HA i1 l1 k1:=let ⟨o,e,r⟩:=h1;⟨o,(sA.2 i1 i1z).trans e,r⟩
 have h2A:IsIt qq HA i2 l2 k2:=let ⟨o,e,r⟩:=h2;⟨o,(sA.2 i2 i2z).trans e,r⟩
 have hl1A:IsSq q HA l1 xs:=let ⟨o,e,r⟩:=hl1;⟨o,(sA.2 l1 l1z).trans e,r⟩
 have hl2A:IsSq qq HA l2 ys:=let ⟨o,e,r⟩:=hl2;⟨o,(sA.2 l2 l2z).trans e,r⟩
 have hTOA:IsPair HA TO a b:=(sA.2 TO TOz).trans hTO;refine wpAny_bind (ZDL (s:={ s with heap:=HA }) h1A hl1A hx λHB h1B sB=>wpAny_pure ?_);dsimp only at sB ⊢;have h2B:IsIt qq HB i2 l2 k2:=let ⟨o,e,r⟩:=h2A;⟨o,(sB.2 i2 (Ne.symm i12)).trans e,r⟩
 have hl2B:IsSq qq HB l2 ys:=let ⟨o,e,r⟩:=hl2A;⟨o,(sB.2 l2 l2i1).trans e,r⟩
 have hTOB:IsPair HB TO a b:=(sB.2 TO TOi1).trans hTOA;have zB:ZAJ HB z TI TO .ellipsis f1:=(sB.2 z (Ne.symm i1z)).trans zA;refine wpAny_bind (m:=seqItems? (.ref TO)) (wpAny_seqItems hTOB rfl ?_);dsimp only;refine wpAny_bind (wpAny_updateSeq hTOB rfl ?_ (by show 2<=sizeLine;decide) (by show 2<=_;decide));have sC:=Heap.SameBut.update (h:=HB) TO (Obj.mapSeq λ(x_2:Array Value)=>x_2.setIfInBounds 0 x);have hTOC:IsPair (HB.update TO (Obj.mapSeq λ(x_2:Array Value)=>x_2.setIfInBounds 0 x)) TO x b:=get?_update_self _ hTOB rfl
 generalize HB.update TO (Obj.mapSeq λ(x_2:Array Value)=>x_2.setIfInBounds 0 x)=HC at *
 refine wpAny_bind (wpAny_letGo (wpAny_pure ?_));dsimp only;have h1C:IsIt q HC i1 l1 (k1+1):=let ⟨o,e,r⟩:=h1B;⟨o,(sC.2 i1 (Ne.symm TOi1)).trans e,r⟩
 have h2C:IsIt qq HC i2 l2 k2:=let ⟨o,e,r⟩:=h2B;⟨o,(sC.2 i2 (Ne.symm TOi2)).trans e,r⟩
 have hl2C:IsSq qq HC l2 ys:=let ⟨o,e,r⟩:=hl2B;⟨o,(sC.2 l2 l2TO).trans e,r⟩
 have zC:ZAJ HC z TI TO .ellipsis f1:=(sC.2 z (Ne.symm TOz)).trans zB;refine wpAny_bind (wpAny_bind (wpAny_onRaise ?_));show wpAny _ _ (Builtin.SmallTypes.nextOf (.ref i2) >>= λv=>pure (some v)) _ _ _;refine wpAny_bind (ZDL (s:={ s with heap:=HC }) h2C hl2C hy λHD h2D sD=>wpAny_pure ?_);dsimp only at sD ⊢;have h1D:IsIt q HD i1 l1 (k1+1):=let ⟨o,e,r⟩:=h1C;⟨o,(sD.2 i1 i12).trans e,r⟩
 have hTOD:IsPair HD TO x b:=(sD.2 TO TOi2).trans hTOC;have zD:ZAJ HD z TI TO .ellipsis f1:=(sD.2 z (Ne.symm i2z)).trans zC;refine wpAny_bind (m:=seqItems? (.ref TO)) (wpAny_seqItems hTOD rfl ?_);dsimp only;refine wpAny_bind (wpAny_updateSeq hTOD rfl ?_ (by show 2<=sizeLine;decide) (by show 2<=_;decide));have sE:=Heap.SameBut.update (h:=HD) TO (Obj.mapSeq λ(x_2:Array Value)=>x_2.setIfInBounds 1 y);have hTOE:IsPair (HD.update TO (Obj.mapSeq λ(x_2:Array Value)=>x_2.setIfInBounds 1 y)) TO x y:=get?_update_self _ hTOD rfl
 generalize HD.update TO (Obj.mapSeq λ(x_2:Array Value)=>x_2.setIfInBounds 1 y)=HE at *
 refine wpAny_bind (wpAny_letGo (wpAny_pure (wpAny_pure ?_)));dsimp only;have h1E:IsIt q HE i1 l1 (k1+1):=let ⟨o,e,r⟩:=h1D;⟨o,(sE.2 i1 (Ne.symm TOi1)).trans e,r⟩
 have h2E:IsIt qq HE i2 l2 (k2+1):=let ⟨o,e,r⟩:=h2D;⟨o,(sE.2 i2 (Ne.symm TOi2)).trans e,r⟩
 have zE:ZAJ HE z TI TO .ellipsis f1:=(sE.2 z (Ne.symm TOz)).trans zD;have hsz:HE.objs.size=s.heap.objs.size:=by rw[sE.1,sD.1,sC.1,sB.1,sA.1]
 have kE:∀c o,c≠z->c≠TO->c≠i1->c≠i2->s.heap.get? c=some o->HE.get? c=some o:=λc o n1 n2 n3 n4 e=>by
  rw[sE.2 c n2,sD.2 c n4,sC.2 c n2,sB.2 c n3,sA.2 c n1];exact e
 refine wpAny_bind (m:=seqItems? (.ref TO)) (wpAny_seqItems hTOE rfl ?_);dsimp only;refine wpAny_bind (m:=newTuple [x,y]) (wpAny_newObj_type ?_ (by show 2<=sizeLine;decide));have hzs:z<HE.objs.size:=lt_size zE;have hF:IsPair (HE.push { cls:=.type "tuple",data:=.seq #[x,y] }) s.heap.objs.size x y:=by rw[←hsz];exact get?_push_size _ rfl
 have kF:∀c o,HE.get? c=some o->(HE.push { cls:=.type "tuple",data:=.seq #[x,y] }).get? c=some o:=λc o e=>get?_push_of_some _ e
 have szF:(HE.push { cls:=.type "tuple",data:=.seq #[x,y] }).objs.size=s.heap.objs.size+1:=by rw[size_push,hsz]
 have zF:=kF _ _ zE
 generalize hHF:HE.push { cls:=.type "tuple",data:=.seq #[x,y] }=HF at *
 dsimp only;rw[hsz];unfold Builtin.SmallTypes.ownedTupleHandOut;refine wpAny_bind (wpAny_bind (wpAny_setField zF rfl (by simp) ?_));have sG:=Heap.SameBut.update (h:=HF) z (Obj.mapFields λ(q:Array Value)=>q.setIfInBounds 0 (rawInt (s.heap.objs.size:Int)));have zG:ZAJ (HF.update z (Obj.mapFields λ(q:Array Value)=>q.setIfInBounds 0 (rawInt (s.heap.objs.size:Int)))) z TI TO (rawInt (s.heap.objs.size:Int)) f1:=get?_update_self _ zF rfl
 generalize HF.update z (Obj.mapFields λ(q:Array Value)=>q.setIfInBounds 0 (rawInt (s.heap.objs.size:Int)))=HG at *
 refine wpAny_setField zG rfl (by simp) ?_;have sH:=Heap.SameBut.update (h:=HG) z (Obj.mapFields λ(q:Array Value)=>q.setIfInBounds 1 (.bool false));have zH:ZAJ (HG.update z (Obj.mapFields λ(q:Array Value)=>q.setIfInBounds 1 (.bool false))) z TI TO (rawInt (s.heap.objs.size:Int)) (.bool false):=get?_update_self _ zG rfl
 generalize HG.update z (Obj.mapFields λ(q:Array Value)=>q.setIfInBounds 1 (.bool false))=HH at *
 have kH:∀c o,c≠z->HF.get? c=some o->HH.get? c=some o:=λc o n e=>by
  rw[sH.2 c n,sG.2 c n];exact e
 have zlt:z≠s.heap.objs.size:=ne_of_lt (by rw[←hsz];exact hzs);refine wpAny_pure ⟨_,rfl,k HH zH (kH _ _ TOz (kF _ _ hTOE)) ?_ ?_ (kH _ _ (Ne.symm zlt) hF) (by rw[sH.1,sG.1,szF]) λc o n1 n2 n3 n4 e=>kH c o n1 (kF c o (kE c o n1 n2 n3 n4 e))⟩
 ·obtain⟨o,e,r⟩:=h1E
  exact⟨o,kH _ _ i1z (kF _ _ e),r⟩
 ·obtain⟨o,e,r⟩:=h2E
  exact⟨o,kH _ _ i2z (kF _ _ e),r⟩
theorem ZJz{M:Model}{a:Addr}{Q:Option Obj->Shared->Prop}(h:Q (s.heap.get? a) s):wpAny M A (loadIfAlive a) Q E s:=λΓ p _=>by
 unfold loadIfAlive;rw[Sem.wp_loadIfAlive];exact h
theorem ZDk{z TI TO:Addr}{f1:Value}(hz:ZAJ s.heap z TI TO .none f1)(Q:Bool->Shared->Prop)(q:Q true s):wpAny (model prog w) A (Builtin.SmallTypes.ownedTupleIsFree (.ref z)) Q E s:=by
 unfold Builtin.SmallTypes.ownedTupleIsFree;exact wpAny_bind (m:=field (.ref z) 0) (wpAny_field hz rfl (x:=.none) rfl (wpAny_pure q))
theorem ZDt{z TI TO:Addr}{f1:Value}{T:Nat}(hz:ZAJ s.heap z TI TO (rawInt (T:Int)) f1)(hT:s.heap.get? T=none)(Q:Bool->Shared->Prop)(q:Q true s):wpAny (model prog w) A (Builtin.SmallTypes.ownedTupleIsFree (.ref z)) Q E s:=by
 unfold Builtin.SmallTypes.ownedTupleIsFree;refine wpAny_bind (m:=field (.ref z) 0) (wpAny_field hz rfl (x:=rawInt (T:Int)) rfl ?_);refine wpAny_bind (m:=loadIfAlive (T:Int).toNat) (ZJz ?_);rw[toNat_natCast,hT];exact wpAny_pure q
theorem ZLp{z TI TO:Addr}{f1:Value}{T:Nat}{o:Obj}{Q:Bool->Shared->Prop}(hz:ZAJ s.heap z TI TO (rawInt (T:Int)) f1)(hT:s.heap.get? T=some o)
  (q:∀h' f1',ZAJ h' z TI TO (rawInt (T:Int)) f1'->Heap.SameBut z s.heap h'->Q false { s with heap:=h' }):wpAny (model prog w) A (Builtin.SmallTypes.ownedTupleIsFree (.ref z)) Q E s:=by
 unfold Builtin.SmallTypes.ownedTupleIsFree;refine wpAny_bind (m:=field (.ref z) 0) (wpAny_field hz rfl (x:=rawInt (T:Int)) rfl ?_);refine wpAny_bind (m:=loadIfAlive (T:Int).toNat) (ZJz ?_);rw[toNat_natCast,hT];show wpAny _ _ (field (.ref z) 1 >>= _) _ _ _;refine wpAny_bind (m:=field (.ref z) 1) (wpAny_field hz rfl (x:=f1) rfl ?_)
 by_cases c:(f1 != Value.bool true)=true
 ·rw[if_pos c]
  refine wpAny_bind (wpAny_setField hz rfl (by simp) (wpAny_pure (q _ (.bool true) ?_ (Heap.SameBut.update ..))));exact get?_update_self _ hz rfl
 ·rw[if_neg c]
  exact wpAny_pure (q s.heap f1 hz (Heap.SameBut.refl ..))
theorem ZGx{z TI TO i1 i2 l1 l2:Addr}{k1 k2 T:Nat}{o:Obj}{xs ys:Array Value}{x y f1:Value}{Q:Value->Shared->Prop}(ap:ZipApart z TI TO i1 i2 l1 l2)(hz:ZAJ s.heap z TI TO (rawInt (T:Int)) f1)(hT:s.heap.get? T=some o)(hTI:IsPair s.heap TI (.ref i1) (.ref i2))
  (h1:IsIt q s.heap i1 l1 k1)(h2:IsIt qq s.heap i2 l2 k2)(hl1:IsSq q s.heap l1 xs)(hl2:IsSq qq s.heap l2 ys)(hx:xs[k1]? = some x)(hy:ys[k2]? = some y)
  (k:∀ h' f1',ZAJ h' z TI TO (rawInt (T:Int)) f1'->IsIt q h' i1 l1 (k1+1)->IsIt qq h' i2 l2 (k2+1)->IsPair h' s.heap.objs.size x y->h'.objs.size=s.heap.objs.size+1 ->
   (∀c o,c≠z->c≠i1->c≠i2->s.heap.get? c=some o->h'.get? c=some o)->Q (.ref s.heap.objs.size) { s with heap:=h' }) :
  wpAny (model prog w) A (Builtin.«zip.__next__» ⟨[.ref z],[]⟩) (λfin s'=>∃v,fin=.done (.ret v)/\Q v s') E s:=by
 unfold Builtin.«zip.__next__»;refine wpAny_bind (m:=slotArgs "__next__" 0 ⟨[.ref z],[]⟩) (wpAny_of_eq (a:=(Value.ref z,[])) (by rfl) ?_);refine wpAny_bind (m:=field (.ref z) 2) (wpAny_field hz rfl (x:=.bool false) rfl ?_);refine wpAny_bind (m:=field (.ref z) 3) (wpAny_field hz rfl (x:=.ref TI) rfl ?_);refine wpAny_bind (m:=seqItems? (.ref TI)) (wpAny_seqItems hTI rfl ?_);dsimp only;rw[if_neg (by intro z;cases z)];obtain⟨TIz,TOz,i1z,i2z,TITO,TIi1,TIi2,TOi1,TOi2,i12,l1z,l1TO,l1i1,l1i2,l2z,l2TO,l2i1,l2i2⟩:=ap;refine wpAny_bind (m:=Builtin.SmallTypes.ownedTupleIsFree (.ref z)) (ZLp hz hT λHA f1' zA sA=>?_);rw[if_neg (by intro z;cases z)];have h1A:IsIt q HA i1 l1 k1:=let ⟨o,e,r⟩:=h1;⟨o,(sA.2 i1 i1z).trans e,r⟩
 have h2A:IsIt qq HA i2 l2 k2:=let ⟨o,e,r⟩:=h2;⟨o,(sA.2 i2 i2z).trans e,r⟩
 have hl1A:IsSq q HA l1 xs:=let ⟨o,e,r⟩:=hl1;⟨o,(sA.2 l1 l1z).trans e,r⟩
 have hl2A:IsSq qq HA l2 ys:=let ⟨o,e,r⟩:=hl2;⟨o,(sA.2 l2 l2z).trans e,r⟩
 refine wpAny_bind ?_;rw[←Array.forIn_toList];show wpAny _ _ (forIn [Value.ref i1,Value.ref i2] _ _) _ _ _;simp only[forIn_cons,forIn_nil];refine wpAny_bind (wpAny_bind (wpAny_holding ?_));show wpAny _ _ (Builtin.SmallTypes.nextOf (.ref i1) >>= λv=>pure (some v)) _ _ _;refine wpAny_bind (ZDL (s:={ s with heap:=HA }) h1A hl1A hx λHB h1B sB=>wpAny_pure ?_);dsimp only at sB ⊢;have h2B:IsIt qq HB i2 l2 k2:=let ⟨o,e,r⟩:=h2A;⟨o,(sB.2 i2 (Ne.symm i12)).trans e,r⟩
 have hl2B:IsSq qq HB l2 ys:=let ⟨o,e,r⟩:=hl2A;⟨o,(sB.2 l2 l2i1).trans e,r⟩
 have zB:ZAJ HB z TI TO (rawInt (T:Int)) f1':=(sB.2 z (Ne.symm i1z)).trans zA;refine wpAny_pure (wpAny_bind (wpAny_bind (wpAny_holding ?_)));show wpAny _ _ (Builtin.SmallTypes.nextOf (.ref i2) >>= λv=>pure (some v)) _ _ _;refine wpAny_bind (ZDL (s:={ s with heap:=HB }) h2B hl2B hy λHC h2C sC=>wpAny_pure ?_);dsimp only at sC ⊢;have h1C:IsIt q HC i1 l1 (k1+1):=let ⟨o,e,r⟩:=h1B;⟨o,(sC.2 i1 i12).trans e,r⟩
 have zC:ZAJ HC z TI TO (rawInt (T:Int)) f1':=(sC.2 z (Ne.symm i2z)).trans zB;refine wpAny_pure (wpAny_pure ?_);dsimp only;have hsz:HC.objs.size=s.heap.objs.size:=by rw[sC.1,sB.1,sA.1]
 have kC:∀c o,c≠z->c≠i1->c≠i2->s.heap.get? c=some o->HC.get? c=some o:=λc o n1 n3 n4 e=>by
  rw[sC.2 c n4,sB.2 c n3,sA.2 c n1];exact e
 refine wpAny_bind (m:=newTuple [x,y]) (wpAny_newObj_type ?_ (by show 2<=sizeLine;decide));have hF:IsPair (HC.push { cls:=.type "tuple",data:=.seq #[x,y] }) s.heap.objs.size x y:=by rw[←hsz];exact get?_push_size _ rfl
 have kF:∀c o,HC.get? c=some o->(HC.push { cls:=.type "tuple",data:=.seq #[x,y] }).get? c=some o:=λc o e=>get?_push_of_some _ e
 have szF:(HC.push { cls:=.type "tuple",data:=.seq #[x,y] }).objs.size=s.heap.objs.size+1:=by rw[size_push,hsz]
 have zF:=kF _ _ zC;refine wpAny_pure ⟨_,rfl,?_⟩;dsimp only;rw[hsz];refine k _ f1' zF ?_ ?_ hF szF λc o n1 n3 n4 e=>kF c o (kC c o n1 n3 n4 e)
 ·obtain⟨o,e,r⟩:=h1C
  exact⟨o,kF _ _ e,r⟩
 ·obtain⟨o,e,r⟩:=h2C
  exact⟨o,kF _ _ e,r⟩
theorem ZF2{z TI TO i1 i2 l1 l2:Addr}{k1 k2:Nat}{xs ys:Array Value}{a b f0 f1:Value}{Q:PySem.Fin->Shared->Prop}(hh:A.handled=none)(ap:ZipApart z TI TO i1 i2 l1 l2)(hz:ZAJ s.heap z TI TO f0 f1)(hfree:∀Q:Bool->Shared->Prop,Q true s->wpAny (model prog w) A (Builtin.SmallTypes.ownedTupleIsFree (.ref z)) Q E s)(hTI:IsPair s.heap TI (.ref i1) (.ref i2))(hTO:IsPair s.heap TO a b)
  (h1:IsIt q s.heap i1 l1 k1)(h2:IsIt qq s.heap i2 l2 k2)(hl1:IsSq q s.heap l1 xs)(hl2:IsSq qq s.heap l2 ys)(hx:xs[k1]? = none∨ys[k2]? = none)
  (k:∀h' e,(∀c o,c≠z->c≠TO->c≠i1->c≠i2->s.heap.get? c=some o->h'.get? c=some o)->(∃o,h'.get? e=some o/\o.cls=.type "StopIteration")->E (.ref e) { s with heap:=h' }) :
  wpAny (model prog w) A (Builtin.«zip.__next__» ⟨[.ref z],[]⟩) Q E s:=by
 unfold Builtin.«zip.__next__»;refine wpAny_bind (m:=slotArgs "__next__" 0 ⟨[.ref z],[]⟩) (wpAny_of_eq (a:=(Value.ref z,[])) (by rfl) ?_);refine wpAny_bind (m:=field (.ref z) 2) (wpAny_field hz rfl (x:=.bool false) rfl ?_);refine wpAny_bind (m:=field (.ref z) 3) (wpAny_field hz rfl (x:=.ref TI) rfl ?_);refine wpAny_bind (m:=seqItems? (.ref TI)) (wpAny_seqItems hTI rfl ?_);dsimp only;rw[if_neg (by intro z;cases z)];refine wpAny_bind (m:=Builtin.SmallTypes.ownedTupleIsFree (.ref z)) (hfree _ ?_);rw[if_pos rfl];refine wpAny_bind (wpAny_rule ?_);refine wpAny_bind (m:=field (.ref z) 4) (wpAny_field hz rfl (x:=.ref TO) rfl ?_);dsimp only;refine wpAny_bind (wpAny_setField hz rfl (by simp) ?_);obtain⟨TIz,TOz,i1z,i2z,TITO,TIi1,TIi2,TOi1,TOi2,i12,l1z,l1TO,l1i1,l1i2,l2z,l2TO,l2i1,l2i2⟩:=ap;have sA:=Heap.SameBut.update (h:=s.heap) z (Obj.mapFields λ(x:Array Value)=>x.setIfInBounds 0 Value.ellipsis);have zA:ZAJ (s.heap.update z (Obj.mapFields λ(x:Array Value)=>x.setIfInBounds 0 Value.ellipsis)) z TI TO .ellipsis f1:=get?_update_self _ hz rfl
 generalize hHA:s.heap.update z (Obj.mapFields λ(x:Array Value)=>x.setIfInBounds 0 Value.ellipsis)=HA at *
 refine wpAny_bind ?_;show wpAny _ _ (forIn [(Value.ref i1,0),(Value.ref i2,1)] _ _) _ _ _;simp only[forIn_cons,forIn_nil];refine wpAny_bind (wpAny_bind (wpAny_onRaise ?_));show wpAny _ _ (Builtin.SmallTypes.nextOf (.ref i1) >>= λv=>pure (some v)) _ _ _;have h1A:IsIt q HA i1 l1 k1:=let ⟨o,e,r⟩:=h1;⟨o,(sA.2 i1 i1z).trans e,r⟩
 have h2A:IsIt qq HA i2 l2 k2:=let ⟨o,e,r⟩:=h2;⟨o,(sA.2 i2 i2z).trans e,r⟩
 have hl1A:IsSq q HA l1 xs:=let ⟨o,e,r⟩:=hl1;⟨o,(sA.2 l1 l1z).trans e,r⟩
 have hl2A:IsSq qq HA l2 ys:=let ⟨o,e,r⟩:=hl2;⟨o,(sA.2 l2 l2z).trans e,r⟩
 have hTOA:IsPair HA TO a b:=(sA.2 TO TOz).trans hTO;have last:∀(h':Heap) (e:Addr) (g1:Value),ZAJ h' z TI TO .ellipsis g1->(∀c o,c≠z->c≠TO->c≠i1->c≠i2->s.heap.get? c=some o->h'.get? c=some o)->(∃o,h'.get? e=some o/\o.cls=.type "StopIteration") ->
   wpAny (model prog w) A (setField (.ref z) 0 Value.none) (λ_ s''=>E (.ref e) s'') E { s with heap:=h' }:=λh' e g1 hz' kp he=>by
  have se:=Heap.SameBut.update (h:=h') z (Obj.mapFields λ(x:Array Value)=>x.setIfInBounds 0 Value.none);refine wpAny_setField hz' rfl (by simp) (k _ e (λc o n1 n2 n3 n4 q=>(se.2 c n1).trans (kp c o n1 n2 n3 n4 q)) ?_);obtain⟨o,ho,hc⟩:=he;have nz:e≠z:=by
   intro q;rw[q,hz'] at ho;cases ho;have hc':Value.type "zip" = Value.type "StopIteration":=hc;exact absurd hc' (by decide)
  exact⟨o,(se.2 e nz).trans ho,hc⟩
 cases hxk:xs[k1]? with
 |none =>
  refine wpAny_bind (ZAV (s:={ s with heap:=HA }) hh h1A hl1A hxk λh' e eb he=>?_);exact last h' e f1 (eb z _ (Ne.symm i1z) zA) (λc o n1 n2 n3 n4 q=>eb c o n3 ((sA.2 c n1).trans q)) he
 |some x =>
  have hyk:ys[k2]? = none:=by
   rcases hx with q|q
   ·rw[hxk] at q;cases q
   ·exact q
  refine wpAny_bind (ZDL (s:={ s with heap:=HA }) h1A hl1A hxk λHB h1B sB=>wpAny_pure ?_);dsimp only at sB ⊢;have h2B:IsIt qq HB i2 l2 k2:=let ⟨o,e,r⟩:=h2A;⟨o,(sB.2 i2 (Ne.symm i12)).trans e,r⟩
  have hl2B:IsSq qq HB l2 ys:=let ⟨o,e,r⟩:=hl2A;⟨o,(sB.2 l2 l2i1).trans e,r⟩
  have hTOB:IsPair HB TO a b:=(sB.2 TO TOi1).trans hTOA;have zB:ZAJ HB z TI TO .ellipsis f1:=(sB.2 z (Ne.symm i1z)).trans zA;refine wpAny_bind (m:=seqItems? (.ref TO)) (wpAny_seqItems hTOB rfl ?_);dsimp only;refine wpAny_bind (wpAny_updateSeq hTOB rfl ?_ (by show 2<=sizeLine;decide) (by show 2<=_;decide));have sC:=Heap.SameBut.update (h:=HB) TO (Obj.mapSeq λ(x_2:Array Value)=>x_2.setIfInBounds 0 x)
  generalize HB.update TO (Obj.mapSeq λ(x_2:Array Value)=>x_2.setIfInBounds 0 x)=HC at *
  refine wpAny_bind (wpAny_letGo (wpAny_pure ?_));dsimp only;have h2C:IsIt qq HC i2 l2 k2:=let ⟨o,e,r⟩:=h2B;⟨o,(sC.2 i2 (Ne.symm TOi2)).trans e,r⟩
  have hl2C:IsSq qq HC l2 ys:=let ⟨o,e,r⟩:=hl2B;⟨o,(sC.2 l2 l2TO).trans e,r⟩
  have zC:ZAJ HC z TI TO .ellipsis f1:=(sC.2 z (Ne.symm TOz)).trans zB;refine wpAny_bind (wpAny_bind (wpAny_onRaise ?_));show wpAny _ _ (Builtin.SmallTypes.nextOf (.ref i2) >>= λv=>pure (some v)) _ _ _;refine wpAny_bind (ZAV (s:={ s with heap:=HC }) hh h2C hl2C hyk λh' e eb he=>?_);exact last h' e f1 (eb z _ (Ne.symm i2z) zC) (λc o n1 n2 n3 n4 q=>eb c o n4 ((sC.2 c n2).trans ((sB.2 c n3).trans ((sA.2 c n1).trans q)))) he
theorem ZIR{z TI TO i1 i2 l1 l2:Addr}{k1 k2 T:Nat}{o:Obj}{xs ys:Array Value}{f1:Value}{Q:PySem.Fin->Shared->Prop}(hh:A.handled=none)(ap:ZipApart z TI TO i1 i2 l1 l2)(hz:ZAJ s.heap z TI TO (rawInt (T:Int)) f1)(hT:s.heap.get? T=some o)(hTI:IsPair s.heap TI (.ref i1) (.ref i2))
  (h1:IsIt q s.heap i1 l1 k1)(h2:IsIt qq s.heap i2 l2 k2)(hl1:IsSq q s.heap l1 xs)(hl2:IsSq qq s.heap l2 ys)(hx:xs[k1]? = none∨ys[k2]? = none)
  (k:∀h' e,(∀c o,c≠z->c≠TO->c≠i1->c≠i2->s.heap.get? c=some o->h'.get? c=some o)->(∃o,h'.get? e=some o/\o.cls=.type "StopIteration")->E (.ref e) { s with heap:=h' }) :
  wpAny (model prog w) A (Builtin.«zip.__next__» ⟨[.ref z],[]⟩) Q E s:=by
 unfold Builtin.«zip.__next__»;refine wpAny_bind (m:=slotArgs "__next__" 0 ⟨[.ref z],[]⟩) (wpAny_of_eq (a:=(Value.ref z,[])) (by rfl) ?_);refine wpAny_bind (m:=field (.ref z) 2) (wpAny_field hz rfl (x:=.bool false) rfl ?_);refine wpAny_bind (m:=field (.ref z) 3) (wpAny_field hz rfl (x:=.ref TI) rfl ?_);refine wpAny_bind (m:=seqItems? (.ref TI)) (wpAny_seqItems hTI rfl ?_);dsimp only;rw[if_neg (by intro z;cases z)];obtain⟨TIz,TOz,i1z,i2z,TITO,TIi1,TIi2,TOi1,TOi2,i12,l1z,l1TO,l1i1,l1i2,l2z,l2TO,l2i1,l2i2⟩:=ap;refine wpAny_bind (m:=Builtin.SmallTypes.ownedTupleIsFree (.ref z)) (ZLp hz hT λHA f1' zA sA=>?_);rw[if_neg (by intro z;cases z)];have h1A:IsIt q HA i1 l1 k1:=let ⟨o,e,r⟩:=h1;⟨o,(sA.2 i1 i1z).trans e,r⟩
 have h2A:IsIt qq HA i2 l2 k2:=let ⟨o,e,r⟩:=h2;⟨o,(sA.2 i2 i2z).trans e,r⟩
 have hl1A:IsSq q HA l1 xs:=let ⟨o,e,r⟩:=hl1;⟨o,(sA.2 l1 l1z).trans e,r⟩
 have hl2A:IsSq qq HA l2 ys:=let ⟨o,e,r⟩:=hl2;⟨o,(sA.2 l2 l2z).trans e,r⟩
 refine wpAny_bind ?_;rw[←Array.forIn_toList];show wpAny _ _ (forIn [Value.ref i1,Value.ref i2] _ _) _ _ _;simp only[forIn_cons,forIn_nil];refine wpAny_bind (wpAny_bind (wpAny_holding ?_));show wpAny _ _ (Builtin.SmallTypes.nextOf (.ref i1) >>= λv=>pure (some v)) _ _ _;cases hxk:xs[k1]? with
 |none =>
  refine wpAny_bind (ZAV (s:={ s with heap:=HA }) hh h1A hl1A hxk λh' e eb he=>?_);exact k h' e (λc o n1 n2 n3 n4 q=>eb c o n3 ((sA.2 c n1).trans q)) he
 |some x =>
  have hyk:ys[k2]? = none:=by
   rcases hx with q|q
   ·rw[hxk] at q;cases q
   ·exact q
  refine wpAny_bind (ZDL (s:={ s with heap:=HA }) h1A hl1A hxk λHB h1B sB=>wpAny_pure ?_);dsimp only at sB ⊢;have h2B:IsIt qq HB i2 l2 k2:=let ⟨o,e,r⟩:=h2A;⟨o,(sB.2 i2 (Ne.symm i12)).trans e,r⟩
  have hl2B:IsSq qq HB l2 ys:=let ⟨o,e,r⟩:=hl2A;⟨o,(sB.2 l2 l2i1).trans e,r⟩
  refine wpAny_pure (wpAny_bind (wpAny_bind (wpAny_holding ?_)));show wpAny _ _ (Builtin.SmallTypes.nextOf (.ref i2) >>= λv=>pure (some v)) _ _ _;refine wpAny_bind (ZAV (s:={ s with heap:=HB }) hh h2B hl2B hyk λh' e eb he=>?_);exact k h' e (λc o n1 n2 n3 n4 q=>eb c o n4 ((sB.2 c n3).trans ((sA.2 c n1).trans q))) he
structure ZipS (q qq:Bool) (h:Heap) (z TI TO i1 i2 l1 l2:Addr) (i:Nat):Prop where
 zo:∃f0 f1,ZAJ h z TI TO f0 f1/\(f0=.none∨∃T:Nat,f0=rawInt (T:Int))
 ti:IsPair h TI (.ref i1) (.ref i2)
 to:∃a b,IsPair h TO a b
 it1:IsIt q h i1 l1 i
 it2:IsIt qq h i2 l2 i
theorem nextZip{z TI TO i1 i2 l1 l2:Addr}{i:Nat}{xs ys:Array Value}{x y:Value}{Q:Option Value->Shared->Prop}(ap:ZipApart z TI TO i1 i2 l1 l2)(S:ZipS q qq s.heap z TI TO i1 i2 l1 l2 i)(hl1:IsSq q s.heap l1 xs)(hl2:IsSq qq s.heap l2 ys)(hx:xs[i]? = some x)(hy:ys[i]? = some y)
  (k:∀h',ZipS q qq h' z TI TO i1 i2 l1 l2 (i+1)->IsPair h' s.heap.objs.size x y->h'.objs.size=s.heap.objs.size+1->(∀c o,c≠z->c≠TO->c≠i1->c≠i2->s.heap.get? c=some o->h'.get? c=some o)->Q (some (.ref s.heap.objs.size)) { s with heap:=h' }) :
  wpAny (model prog w) A (pyNext (.ref z)) Q E s:=by
 obtain⟨⟨f0,f1,hz,hf⟩,hti,⟨a,b,hto⟩,h1,h2⟩:=S;have ty:s.TypeIs (.ref z) "zip":=⟨_,hz,rfl⟩;unfold pyNext;refine wpAny_bind (wpAny_attempt ?_);refine wpAny_callSpecial?_slot (name:=Str.ofString "__next__") ty F.slot_zip_next (wpAny_call_entry F.slot_zip_next ty F.entry_zip_next ?_ (F.args_zip_next_1 _));have own:∀(E':Value->Shared->Prop) (A':Around),(∀Q:Bool->Shared->Prop,Q true s->wpAny (model prog w) A' (Builtin.SmallTypes.ownedTupleIsFree (.ref z)) Q E' s)->wpAny (model prog w) A' (Builtin.«zip.__next__» ⟨[.ref z],[]⟩) (λfin s'=>∃v,fin=.done (.ret v)/\wpAny (model prog w) A (pure (some v)) Q E s') E' s:=λE' A' fr=>by
  refine ZGy ap hz fr hti hto h1 h2 hl1 hl2 hx hy λh' z' to' t1 t2 pr sz kp=>wpAny_pure (k h' ⟨⟨_,_,z',.inr ⟨_,rfl⟩⟩,kp _ _ ap.TIz ap.TITO ap.TIi1 ap.TIi2 hti,⟨_,_,to'⟩,t1,t2⟩ pr sz kp)
 rcases hf with rfl|⟨T,rfl⟩
 ·exact own _ _ λQ q=>ZDk hz Q q
 ·cases hT:s.heap.get? T with
  |none=>exact own _ _ λQ q=>ZDt hz hT Q q
  |some o =>
   refine ZGx ap hz hT hti h1 h2 hl1 hl2 hx hy λh' f1' z' t1 t2 pr sz kp=>wpAny_pure (k h' ⟨⟨_,_,z',.inr ⟨_,rfl⟩⟩,kp _ _ ap.TIz ap.TIi1 ap.TIi2 hti,⟨a,b,kp _ _ ap.TOz ap.TOi1 ap.TOi2 hto⟩,t1,t2⟩ pr sz λc o n1 n2 n3 n4 q=>kp c o n1 n3 n4 q)
theorem endZip{z TI TO i1 i2 l1 l2:Addr}{i:Nat}{xs ys:Array Value}{Q:Option Value->Shared->Prop}(hh:A.handled=none)(ap:ZipApart z TI TO i1 i2 l1 l2)(S:ZipS q qq s.heap z TI TO i1 i2 l1 l2 i)(hl1:IsSq q s.heap l1 xs)(hl2:IsSq qq s.heap l2 ys)(hx:xs[i]? = none∨ys[i]? = none)
  (k:∀h',(∀c o,c≠z->c≠TO->c≠i1->c≠i2->s.heap.get? c=some o->h'.get? c=some o)->Q none { s with heap:=h' }) :
  wpAny (model prog w) A (pyNext (.ref z)) Q E s:=by
 obtain⟨⟨f0,f1,hz,hf⟩,hti,⟨a,b,hto⟩,h1,h2⟩:=S;have ty:s.TypeIs (.ref z) "zip":=⟨_,hz,rfl⟩;unfold pyNext;refine wpAny_bind (wpAny_attempt ?_);refine wpAny_callSpecial?_slot (name:=Str.ofString "__next__") ty F.slot_zip_next (wpAny_call_entry F.slot_zip_next ty F.entry_zip_next ?_ (F.args_zip_next_1 _));have stop:∀(h':Heap) (e:Addr),(∀c o,c≠z->c≠TO->c≠i1->c≠i2->s.heap.get? c=some o->h'.get? c=some o)->(∃o,h'.get? e=some o/\o.cls=.type "StopIteration") ->
   wpAny (model prog w) A (isInstance (.ref e) (.type "StopIteration") >>= λd=>if d=true then pure none else throw (.ref e)) Q E { s with heap:=h' }:=λh' e kp he=>by
  obtain⟨o,ho,hc⟩:=he;refine wpAny_bind (wpAny_isInstance (T:="StopIteration") (b:=true) ⟨o,ho,hc⟩ rfl ?_);rw[if_pos rfl];exact wpAny_pure (k h' kp)
 rcases hf with rfl|⟨T,rfl⟩
 ·exact ZF2 hh ap hz (λQ q=>ZDk hz Q q) hti hto h1 h2 hl1 hl2 hx stop
 ·cases hT:s.heap.get? T with
  |none=>exact ZF2 hh ap hz (λQ q=>ZDt hz hT Q q) hti hto h1 h2 hl1 hl2 hx stop
  |some o=>exact ZIR hh ap hz hT hti h1 h2 hl1 hl2 hx stop
theorem letGoZip{tg:Expr}{z TI TO i1 i2 l1 l2 a:Addr}{i:Nat}{Q:Unit->Shared->Prop}(ap:ZipApart z TI TO i1 i2 l1 l2)(S:ZipS q qq s.heap z TI TO i1 i2 l1 l2 i)(k:∀h',ZipS q qq h' z TI TO i1 i2 l1 l2 i->Heap.SameBut z s.heap h'->Q () { s with heap:=h' }) :
    wpAny (model prog w) A (letOwnedTupleGo tg (.ref z) (.ref a)) Q E s:=by
  have S':=S;obtain ⟨⟨f0,f1,hz,hf⟩,hti,⟨b,c,hto⟩,h1,h2⟩:=S';have way:wpAny (model prog w) A (load z >>= λ o=>match o.cls,o.data with
        |Value.type n,Data.fields vs=>if (["enumerate","zip","dict_itemiterator","dict_reverseitemiterator","odict_iterator","itertools.zip_longest","itertools.pairwise"].contains n && vs[0]? == some (rawInt (a:Int)))=true then do
            rule "for.unpacks-the-owned-tuple"
            updateField z 0 Value.none
          else pure ()
        |_,_=>pure ()) Q E s:=by
    refine wpAny_bind (wpAny_load hz ?_);dsimp only
    split
    · refine wpAny_bind (wpAny_rule ?_)
      have sA:=Heap.SameBut.update (h:=s.heap) z (Obj.mapFields λ(x:Array Value)=>x.setIfInBounds 0 Value.none);have zA:ZAJ (s.heap.update z (Obj.mapFields λ(x:Array Value)=>x.setIfInBounds 0 Value.none)) z TI TO .none f1:=get?_update_self _ hz rfl;show wpAny _ _ (setField (.ref z) 0 Value.none) _ _ _;refine wpAny_setField hz rfl (by simp) (k _ ⟨⟨_,_,zA,.inl rfl⟩,(sA.2 _ ap.TIz).trans hti,⟨b,c,(sA.2 _ ap.TOz).trans hto⟩,?_,?_⟩ sA)
      · obtain⟨o,e,r⟩:=h1
        exact⟨o,(sA.2 _ ap.i1z).trans e,r⟩
      · obtain⟨o,e,r⟩:=h2
        exact⟨o,(sA.2 _ ap.i2z).trans e,r⟩
    · exact wpAny_pure (k _ S (Heap.SameBut.refl ..))
  cases tg with
  |Tuple=>exact way
  |List=>exact way
  |_=>exact wpAny_pure (k _ S (Heap.SameBut.refl ..))
theorem apart_new(n a b:Nat)(ha:a<n)(hb:b<n):ZipApart (n+4) (n+2) (n+3) n (n+1) a b:=by
 constructor <;> (intro q;have q':(_:Nat)=_:=q;omega)
theorem iterZip{z TI TO:Addr}{f0 f1:Value}{Q:Value->Shared->Prop}(hz:ZAJ s.heap z TI TO f0 f1)(q:Q (.ref z) s):wpAny (model prog w) A (pyIter (.ref z)) Q E s:=by
 have ty:s.TypeIs (.ref z) "zip":=⟨_,hz,rfl⟩;refine wpAny_pyIter_slot ty F.slot_zip_iter (wpAny_call_entry F.slot_zip_iter ty F.entry_zip_iter ?_ (F.args_zip_iter_1 _));unfold Builtin.«dict_keyiterator.__iter__»;refine wpAny_bind (m:=slotArgs "__iter__" 0 ⟨[.ref z],[]⟩) (wpAny_of_eq (a:=(Value.ref z,[])) (by rfl) ?_);exact wpAny_pure ⟨_,rfl,"zip",_,ty,F.slot_zip_next.lookup,q⟩
abbrev zT1(q:Bool)(h:Heap)(l1:Addr):Heap:=h.push { cls:=.type (nm q),data:=.fields #[.ref l1,.int 0 0] }
abbrev zT2(q qq:Bool)(h:Heap)(l1 l2:Addr):Heap:=(zT1 q h l1).push { cls:=.type (nm qq),data:=.fields #[.ref l2,.int 0 0] }
abbrev zT3(q qq:Bool)(h:Heap)(l1 l2:Addr):Heap:=(zT2 q qq h l1 l2).push { cls:=.type "tuple",data:=.seq #[.ref h.objs.size,.ref (zT1 q h l1).objs.size] }
abbrev zT4(q qq:Bool)(h:Heap)(l1 l2:Addr):Heap:=(zT3 q qq h l1 l2).push { cls:=.type "tuple",data:=.seq #[.none,.none] }
abbrev zT5(q qq:Bool)(h:Heap)(l1 l2:Addr):Heap:=(zT4 q qq h l1 l2).push { cls:=.type "zip",data:=.fields #[.none,.bool false,.bool false,.ref (zT2 q qq h l1 l2).objs.size,.ref (zT3 q qq h l1 l2).objs.size] }
theorem ZI7(q qq:Bool)(l1 l2:Addr)(xs ys:Array Value) :
  Meets (Builtin.«zip.__new__» ⟨[.type "zip",.ref l1,.ref l2],[]⟩) (λ_ R s=>IsSq q s.heap l1 xs/\IsSq qq s.heap l2 ys/\R (.ok (.ret (.ref (zT4 q qq s.heap l1 l2).objs.size))) { s with heap:=zT5 q qq s.heap l1 l2 }) :=
 .of_wp λprog w A R s h=>by
  obtain⟨hp,g,d,tk,os⟩:=s;obtain⟨hl1,hl2,h⟩:=h;have hsub:=sub_zip;have hT2:IsSq qq (zT1 q hp l1) l2 ys:=let ⟨o,e,r⟩:=hl2;⟨o,get?_push_of_some _ e,r⟩
  wp_walk using itG hl1,itG (s:=⟨zT1 q hp l1,g,d,tk,os⟩) hT2
  exact⟨_,rfl,h⟩
theorem callZipT{l1 l2:Addr}{xs ys:Array Value}{Q:Value->Shared->Prop}(hL1:IsSq q s.heap l1 xs)(hL2:IsSq qq s.heap l2 ys)
  (k:∀h',ZipS q qq h' (s.heap.objs.size+4) (s.heap.objs.size+2) (s.heap.objs.size+3) s.heap.objs.size (s.heap.objs.size+1) l1 l2 0->h'.objs.size=s.heap.objs.size+5->(∀c o,s.heap.get? c=some o->h'.get? c=some o)->Q (.ref (s.heap.objs.size+4)) { s with heap:=h' }) :
  wpAny (model prog w) A (call (.type "zip") [.ref l1,.ref l2]) Q E s:=by
 refine callType_new F.called_zip (by decide) (F.typeCall_zip_2 _ _) (F.newCall_zip_2 _ _) (λobj=>F.args_object_init_3 obj _ _) F.entry_zip_new (ZI7 q qq l1 l2 xs ys) ⟨hL1,hL2,?_⟩;have z1:(zT1 q s.heap l1).objs.size=s.heap.objs.size+1:=size_push ..;have z2:(zT2 q qq s.heap l1 l2).objs.size=s.heap.objs.size+2:=by rw[size_push,z1]
 have z3:(zT3 q qq s.heap l1 l2).objs.size=s.heap.objs.size+3:=by rw[size_push,z2]
 have z4:(zT4 q qq s.heap l1 l2).objs.size=s.heap.objs.size+4:=by rw[size_push,z3]
 have e1:(zT1 q s.heap l1).get? s.heap.objs.size=some { cls:=.type (nm q),data:=.fields #[.ref l1,.int 0 0] }:=get?_push_size _ rfl;have e2:(zT2 q qq s.heap l1 l2).get? (s.heap.objs.size+1)=some { cls:=.type (nm qq),data:=.fields #[.ref l2,.int 0 0] }:=by rw[←z1];exact get?_push_size _ rfl
 have e3:(zT3 q qq s.heap l1 l2).get? (s.heap.objs.size+2)=some { cls:=.type "tuple",data:=.seq #[.ref s.heap.objs.size,.ref (zT1 q s.heap l1).objs.size] }:=by rw[←z2];exact get?_push_size _ rfl
 have e4:(zT4 q qq s.heap l1 l2).get? (s.heap.objs.size+3)=some { cls:=.type "tuple",data:=.seq #[.none,.none] }:=by rw[←z3];exact get?_push_size _ rfl
 have e5:(zT5 q qq s.heap l1 l2).get? (s.heap.objs.size+4)=some { cls:=.type "zip",data:=.fields #[.none,.bool false,.bool false,.ref (zT2 q qq s.heap l1 l2).objs.size,.ref (zT3 q qq s.heap l1 l2).objs.size] }:=by rw[←z4];exact get?_push_size _ rfl
 rw[z2,z3] at e5;rw[z1] at e3;have up:∀{h:Heap} {o u:Obj} {c:Addr},h.get? c=some u->(h.push o).get? c=some u:=λq=>get?_push_of_some _ q
 show _/\_;rw[z4];refine⟨⟨_,e5,rfl⟩,k _ ⟨⟨_,_,e5,.inl rfl⟩,up (up e3),⟨_,_,up e4⟩,⟨_,up (up (up (up e1))),rfl,rfl⟩,⟨_,up (up (up e2)),rfl,rfl⟩⟩ (by rw[size_push,z4]) λc o q=>up (up (up (up (up q))))⟩
end
end HI
namespace L2
open PySem PySem.Spec PyProof.Rows
def ZHV(q qq:Bool)(K:PySem.W.Frag)(a b:Addr):It :=
 ⟨λi H=>∃xs ys x y,SqG q K H a xs/\SqG qq K H b ys/\xs[i]? = some x/\ys[i]? = some y,λi H v H'=>∃p x y,v=.ref p/\H p=none/\H'=upd H p (.tup [x,y])/\∀xs ys,SqG q K H a xs->SqG qq K H b ys->xs[i]? = some x/\ys[i]? = some y,
  λi H=>∃xs ys,SqG q K H a xs/\SqG qq K H b ys/\(xs.length<=i∨ys.length<=i)⟩
theorem ZG9{q qq:Bool}{P:Program}{w:World}{K:PySem.W.Frag}{tg:Expr}(a b z TI TO i1 i2:Addr)(ap:ZipApart z TI TO i1 i2 a b) :
  Turn P w K tg (ZHV q qq K a b) [z,TI,TO,i1,i2] z (λi h=>HI.ZipS q qq h z TI TO i1 i2 a b i) where
 mem:=by simp
 obj:=λi h st c hc=>by
  obtain⟨⟨f0,f1,hz,_⟩,hti,⟨u,v,hto⟩,⟨o1,e1,c1,d1⟩,⟨o2,e2,c2,d2⟩⟩:=st;simp only[mem_cons,not_mem_nil,or_false] at hc;rcases hc with rfl|rfl|rfl|rfl|rfl
  ·exact⟨_,hz,λv q=>by cases q⟩
  ·exact⟨_,hti,λv q=>by cases q⟩
  ·exact⟨_,hto,λv q=>by cases q⟩
  ·exact⟨_,e1,λv q=>by rw[d1] at q;cases q⟩
  ·exact⟨_,e2,λv q=>by rw[d2] at q;cases q⟩
 keep:=λi h h' st kk=>by
  obtain⟨⟨f0,f1,hz,hf⟩,hti,⟨u,v,hto⟩,⟨o1,e1,r1⟩,⟨o2,e2,r2⟩⟩:=st;exact⟨⟨f0,f1,kk z (by simp) _ hz,hf⟩,kk TI (by simp) _ hti,⟨u,v,kk TO (by simp) _ hto⟩,⟨o1,kk i1 (by simp) _ e1,r1⟩,⟨o2,kk i2 (by simp) _ e2,r2⟩⟩
 item:=by
  intro X hP hw hK hc i pins s σ H E I hf st hg;subst hP hw hK;obtain⟨xs,ys,x,y,hq,hq2,hx,hy⟩:=hg;obtain⟨its,rv,p,hz⟩:=I.sq hq;obtain⟨its2,rv2,p2,hz2⟩:=I.sq hq2;obtain⟨u,hu,ru⟩:=rv.get hx;obtain⟨u2,hu2,ru2⟩:=rv2.get hy;refine HI.nextZip (xs:=its.toArray) (ys:=its2.toArray) ap st p p2 (by simpa using hu) (by simpa using hu2) λh' S' pr sz kp=>?_
  refine⟨_,rfl,HI.letGoZip ap S' λh2 S2 sb=>?_⟩;have nT:H s.heap.objs.size=none:=I.hok.fresh (le_refl _);have zlt:z<s.heap.objs.size:=by obtain⟨⟨f0,f1,q,_⟩,_⟩:=st;exact lt_size q
  have kk:∀c o,c∉[z,TI,TO,i1,i2]->s.heap.get? c=some o->h2.get? c=some o:=λc o hn q=>by
   simp only[mem_cons,not_mem_nil,or_false,not_or] at hn;exact(sb.2 c hn.1).trans (kp c o hn.1 hn.2.2.1 hn.2.2.2.1 hn.2.2.2.2 q)
  have nit:∀c v,H c=some v->c∉[z,TI,TO,i1,i2]:=λc v q hm=>by
   have:=(hf c hm).1;rw[this] at q;cases q
  have hT2:h2.get? s.heap.objs.size=some { cls:=.type "tuple",data:=.seq #[u,u2] }:=(sb.2 _ (ne_of_gt zlt)).trans pr;have ne1:∀c v,H c=some v->c≠s.heap.objs.size:=λc v q=>ZH q nT
  have hok:HOk X.prog X.w (upd H s.heap.objs.size (.tup [x,y])) h2:=λc ob q=>by
   by_cases hb:c=s.heap.objs.size
   ·subst hb
    rw[ZI] at q;cases q;exact⟨by show 2<=sizeLine;decide,[u,u2],.cons ru (.cons ru2 .nil),⟨_,hT2,rfl,_,rfl⟩⟩
   ·rw[ZE hb] at q
    refine(I.hok c ob q).stay (λd v hd r=>?_) (λd r=>by rw[ZE (ne1 _ _ r)];exact r) λd ys r=>by rw[ZE (ne1 _ _ r)];exact r
    have nc:d∉[z,TI,TO,i1,i2]:=by
     rcases hd with e|e
     ·rw[e];exact nit c ob q
     ·exact nit d _ e
    exact kk d v nc r
  have I2:Inv X pins σ (upd H s.heap.objs.size (.tup [x,y])) { s with heap:=h2 }:=by
   refine I.step (g':=s.gens) (d':=s.drawn) (t':=s.toks) (ch:=[z,TI,TO,i1,i2]) (λc hc'=>?_) (λc o _ _ hc' q _=>kk c o hc' q) (λc o _ _ hc' q _=>⟨o.slots,kk c o hc' q⟩)
    (λc o _ q n=>by rw[ZE (ne_of_lt (lt_size q))];exact n) (λc o hc' q=>⟨o,kk c o hc' q⟩) (λc ys q=>by rw[ZE (ne1 _ _ q)];exact q) (λc o u q=>by rw[ZE (ne1 _ _ q)];exact q)
    (λc ps q=>⟨#[],by rw[ZE (ne1 _ _ q),q];simp⟩) (λm hm=>?_) hok I.bare
   ·obtain⟨f0,f1,f2,f3,f4,f5⟩:=hf c hc'
    exact⟨f3,f1,f4,f5⟩
   ·obtain⟨o,es',ep,ho',r⟩:=hm
    refine⟨o,es',ep,kk _ o (λhm'=>?_) ho',r⟩;exact(hf _ hm').2.1 rfl
  refine⟨.ref s.heap.objs.size,_,I2,rfl,⟨_,x,y,rfl,nT,rfl,λzs ws hz' hw'=>by rw[I.sq_inj hz' hq,I.sq_inj hw' hq2];exact⟨hx,hy⟩⟩,S2,λc hc'=>?_⟩;have h0:=(hf c hc').1;have hlt:c<s.heap.objs.size:=by
   obtain⟨⟨f0,f1,q,_⟩,hti,⟨_,_,hto⟩,⟨o1,e1,_⟩,⟨o2,e2,_⟩⟩:=st;simp only[mem_cons,not_mem_nil,or_false] at hc';rcases hc' with rfl|rfl|rfl|rfl|rfl
   ·exact lt_size q
   ·exact lt_size hti
   ·exact lt_size hto
   ·exact lt_size e1
   ·exact lt_size e2
  rw[ZE (ne_of_lt hlt)];exact h0
 done:=by
  intro X hP hw hK hc i pins s σ H E I hf st hg;subst hP hw hK;obtain ⟨xs,ys,hq,hq2,hx⟩:=hg;obtain ⟨its,rv,p,hz⟩:=I.sq hq;obtain ⟨its2,rv2,p2,hz2⟩:=I.sq hq2;have l1:=rv.length;have l2:=rv2.length;refine HI.endZip (xs:=its.toArray) (ys:=its2.toArray) (I.ok.hd hc) ap st p p2 (by
   rcases hx with q|q
   ·exact .inl (by simp;omega)
   ·exact .inr (by simp;omega)) λh' kp=>⟨rfl,?_⟩
  refine I.step (g':=s.gens) (d':=s.drawn) (t':=s.toks) (ch:=[z,TI,TO,i1,i2]) (H':=H) (λc hc'=>?_) (λc o _ _ hc' q _=>?_) (λc o _ _ hc' q _=>?_) (λc o _ q n=>n) (λc o hc' q=>?_) (λc ys q=>q) (λc o u q=>q) (λc ps q=>⟨#[],by rw[q];simp⟩) (λm hm=>?_) (λc ob q=>?_) I.bare
  ·obtain⟨f0,f1,f2,f3,f4,f5⟩:=hf c hc'
   exact⟨f3,f1,f4,f5⟩
  ·simp only[mem_cons,not_mem_nil,or_false,not_or] at hc'
   exact kp c o hc'.1 hc'.2.2.1 hc'.2.2.2.1 hc'.2.2.2.2 q
  ·simp only[mem_cons,not_mem_nil,or_false,not_or] at hc'
   exact⟨o.slots,kp c o hc'.1 hc'.2.2.1 hc'.2.2.2.1 hc'.2.2.2.2 q⟩
  ·simp only[mem_cons,not_mem_nil,or_false,not_or] at hc'
   exact⟨o,kp c o hc'.1 hc'.2.2.1 hc'.2.2.2.1 hc'.2.2.2.2 q⟩
  ·obtain⟨o,es',ep,ho',r⟩:=hm
   have nl:∀c∈[z,TI,TO,i1,i2],X.env.locals≠c:=λc hc' e=>(hf c hc').2.1 e.symm
   exact⟨o,es',ep,kp _ o (nl z (by simp)) (nl TO (by simp)) (nl i1 (by simp)) (nl i2 (by simp)) ho',r⟩
  ·refine(I.hok c ob q).stay (λd v hd r=>?_) (λd r=>r) λd ys r=>r
   have nd:∀e,H d=some e->∀c∈[z,TI,TO,i1,i2],d≠c:=λe q' c hc' e'=>by
    have:=(hf c hc').1;rw[←e',q'] at this
    cases this
   have hd':∃e,H d=some e:=by
    rcases hd with e|e
    ·rw[e];exact⟨_,q⟩
    ·exact⟨_,e⟩
   obtain⟨e,he⟩:=hd';exact kp d v (nd e he z (by simp)) (nd e he TO (by simp)) (nd e he i1 (by simp)) (nd e he i2 (by simp)) r
 self:=λ_ _ _ _ _ st h=>by
  obtain⟨⟨f0,f1,hz,_⟩,_⟩:=st;exact HI.iterZip hz h
section
variable{X:Cx}
def iZipG(q qq:Bool)(K:PySem.W.Frag)(ta:TA):TI:=λσ H R=>ta σ H λvs H1=>∃a b,vs=[.ref a,.ref b]/\(∃xs ys,SqG q K H1 a xs/\SqG qq K H1 b ys)/\R (ZHV q qq K a b) H1
theorem ZLT{q qq:Bool}{tg a b:Expr}{ta:TA}{p pos:Pos}(hg:Gl X "zip")(hm:X.mg "zip" = none)(ha:PA X [a,b] ta)(hs:starEach [a,b] X.env=[(false,eval a X.env),(false,eval b X.env)]:=by rfl)(hs2:starEach [b] X.env=[(false,eval b X.env)]:=by rfl) :
  PI X tg (.Call (.Name "zip" p) [a,b] [] pos) (iZipG q qq X.K ta):=by
 intro pins s σ H R I h;refine Call_ (ZA9 I hg hm boot_zip (PyProof.Rows.callWith_type1 (thn (ha pos pins s σ H _ I h) λus s1 ⟨vs,H1,I1,r1,q1⟩=>?_) (by rw[hs,hs2]) (by rw[hs2];rfl)));obtain⟨l1,l2,e,⟨xs,ys,hq1,hq2⟩,q⟩:=q1;subst e;cases r1 with
 |cons r rr =>
  cases rr with
  |cons r' rr =>
   cases rr;cases r;cases r';obtain⟨its,rv,pt,hz⟩:=I1.sq hq1;obtain⟨its2,rv2,pt2,hz2⟩:=I1.sq hq2;have lt1:l1<s1.heap.objs.size:=by obtain⟨o,e,_⟩:=pt;exact lt_size e
   have lt2:l2<s1.heap.objs.size:=by obtain⟨o,e,_⟩:=pt2;exact lt_size e
   refine HI.callZipT (show HI.IsSq _ s1.heap l1 its.toArray from pt) (show HI.IsSq _ s1.heap l2 its2.toArray from pt2) λh' S' hsz hk=>?_
   have I2:Inv X pins σ H1 { s1 with heap:=h' }:=I1.kept (t':=s1.toks) hk;obtain⟨f0,f1,zo,hf⟩:=S'.zo;have ap:ZipApart (s1.heap.objs.size+4) (s1.heap.objs.size+2) (s1.heap.objs.size+3) s1.heap.objs.size (s1.heap.objs.size+1) l1 l2:=HI.apart_new _ _ _ lt1 lt2;refine HI.iterZip zo ⟨s1.heap.objs.size+4,[s1.heap.objs.size+4,s1.heap.objs.size+2,s1.heap.objs.size+3,s1.heap.objs.size,s1.heap.objs.size+1],_,_,H1,rfl,I2,ZG9 l1 l2 _ _ _ _ _ ap,S',λb hb=>?_,q⟩;have hb':s1.heap.objs.size<=b:=by
    simp only[mem_cons,not_mem_nil,or_false] at hb;rcases hb with rfl|rfl|rfl|rfl|rfl
    ·exact le_add_right _ _
    ·exact le_add_right _ _
    ·exact le_add_right _ _
    ·exact le_refl _
    ·exact le_add_right _ _
   exact I1.fpOk hb' (I1.hok.fresh hb')
end
abbrev Itz:=ZHV true true
abbrev Itzl:=ZHV false false
section
variable{X:Cx}{pos:Pos}
def ZJx(i j l:Nat)(ta:TA):TS:=λD σ H=>ta σ H λvs H1=>∃v w z,vs=[v,w,z]/\D.nx (((σ.set l (some z)).set j (some w)).set i (some v)) H1
theorem ZJO{i j l:Nat}{x y z:Str}{a b c:Expr}{ta:TA}{px py pz pt:Pos}{kt k2 pt2}(hc:X.calm=true)(hN:X.N.Nodup)(hi:X.N[i]? = some x)(hj:X.N[j]? = some y)(hl:X.N[l]? = some z)
  (hx:X.env.scope.names.lookup x=some .local)(hy:X.env.scope.names.lookup y=some .local)(hz:X.env.scope.names.lookup z=some .local)(ha:PA X [a,b,c] ta)
  (hw:swappedStores [.Tuple [.Name x px,.Name y py,.Name z pz] kt pt] (.Tuple [a,b,c] k2 pt2) X.env=pure (some [x,y,z]):=by rfl)
  (hs:swapsWithSole [.Tuple [.Name x px,.Name y py,.Name z pz] kt pt] (.Tuple [a,b,c] k2 pt2) pos.line X.env=pure false:=by rfl) :
  PS X (.Assign [.Tuple [.Name x px,.Name y py,.Name z pz] kt pt] (.Tuple [a,b,c] k2 pt2) pos) (ZJx i j l ta):=by
 intro pins s σ H D I h;rw[exec_Assign_arm];refine wpAny_bind (wpAny_standAt ?_);rw[hs];refine wpAny_bind (wpAny_pure ?_);rw[if_neg (by decide)];refine wpAny_bind (Tuple_ (thn (ha _ pins s σ H _ I h) λus s1 ⟨vs,H1,I1,r1,q1⟩=>?_));obtain⟨v,w,v3,e1,q1⟩:=q1;subst e1;obtain⟨u1,u2,u3,rfl,rv,rw',rz⟩:∃u1 u2 u3,us=[u1,u2,u3]/\ZV v u1/\ZV w u2/\ZV v3 u3:=by
  cases r1 with
  |cons p q =>
   cases q with
   |cons p' q' =>
    cases q' with
    |cons p2 q2 =>
     cases q2;exact⟨_,_,_,rfl,p,p',p2⟩
 refine wpAny_newObj_type ?_ (by show 3<=sizeLine;decide);have I2:Inv X pins σ H1 { s1 with heap:=s1.heap.push { cls:=.type "tuple",data:=.seq [u1,u2,u3].toArray } }:=I1.kept (t':=s1.toks) λb o e=>get?_push_of_some _ e
 rw[hw];refine wpAny_bind (wpAny_pure ?_);show wpAny (model X.prog X.w) X.A (do rule "assign.swapped-stores";let items ←unpackItems (.ref s1.heap.objs.size) 3 none;assignInOrder [λv=>bindName X.env z v,λv=>bindName X.env y v,λv=>bindName X.env x v] items.reverse;pure Flow.next) _ _ _;refine wpAny_bind (wpAny_rule (wpAny_bind (unpackItems_tuple (items:=#[u1,u2,u3]) (I.ok.hd hc) (IsTup.new s1.heap _) λh' hx'=>?_)));have I3:=I2.kept (h':=h') (t':=s1.toks) λb o e=>hx' b o (ne_of_lt (lt_size e)) e
 show wpAny _ _ (assignInOrder [λv=>bindName X.env z v,λv=>bindName X.env y v,λv=>bindName X.env x v] [u3,u2,u1] >>= λ_=>pure Flow.next) _ _ _;refine wpAny_bind (assignInOrder_cons (wpAny_bindName (ZBB I3 hN hl (.inl hz) rz (λs2 I4=>?_) (.inr hz))));refine assignInOrder_cons (wpAny_bindName (ZBB I4 hN hj (.inl hy) rw' (λs3 I5=>?_) (.inr hy)));refine assignInOrder_cons (wpAny_bindName (ZBB I5 hN hi (.inl hx) rv (λs4 I6=>assignInOrder_nil (wpAny_pure ?_)) (.inr hx)));exact⟨_,H1,I6,q1⟩
end
end L2
namespace HT
open PySem PyProof.Rows
section
variable{prog:Program}{w:World}{A:Around}{E:Value->Shared->Prop}{s:Shared}
theorem getItem_tuple_whole{t sl:Addr}{items:Array Value}{vl vu:Value}{lo hi:Option Int}{Q:Value->Shared->Prop}(ht:IsTup s.heap t items)(hs:s.heap.IsSliceOf sl vl vu .none)(pl:IsPart vl lo)(pu:IsPart vu hi)
  (hw:sIx items.size 0 lo=0/\sIx items.size items.size hi=items.size)(h:Q (.ref t) s):wpAny (model prog w) A (getItem (.ref t) (.ref sl)) Q E s:=by
 obtain⟨os,hos,hcs,hds⟩:=id hs;have hTs:s.TypeIs (.ref sl) "slice":=⟨os,hos,hcs⟩;unfold getItem
 try with_reducible refine wpAny_holding ?_
 first|refine wpAny_bind (wpAny_pure ?_)|skip
 refine wpAny_bind (wpAny_sequenceKey ht.typeIs (by decide) ?_);refine wpAny_bind (wpAny_callSpecial?_slot (name:=Str.ofString "__getitem__") ht.typeIs PyProof.Rows.slot_tuple_getitem
  (wpAny_call_entry PyProof.Rows.slot_tuple_getitem ht.typeIs entry_tuple_getitem ?_ (args_tuple_getitem _ _)))
 show wpAny _ _ (Builtin.Tuple.tupleItemsOf (.ref t) >>= _) _ _ s;refine wpAny_bind (tupleItemsOf_ ht ?_);refine wpAny_bind (wpAny_typeOf hTs ?_);rw[if_pos (by decide)];refine wpAny_bind (ZAl hs pl pu ?_);show wpAny _ _ (if (((sIx items.size 0 lo:Nat):Int) == 0 && (1:Int) == 1 && (sIx items.size items.size hi-sIx items.size 0 lo) == items.size)=true then _ else _) _ _ s;have hyes:(((sIx items.size 0 lo:Nat):Int) == 0 && (1:Int) == 1 && (sIx items.size items.size hi-sIx items.size 0 lo) == items.size)=true:=by
  rw[hw.1,hw.2];simp
 rw[if_pos hyes];unfold Builtin.Tuple.tupleIsExact;refine wpAny_bind (wpAny_bind (wpAny_typeOf ht.typeIs (wpAny_pure ?_)));rw[if_pos (by rfl)];exact wpAny_bind (wpAny_rule (wpAny_pure ⟨_,rfl,wpAny_pure h⟩))
end
end HT
namespace L2
open PySem PySem.Spec PyProof.Rows
section
variable{X:Cx}
theorem ZIU:SlR X (λx lo hi H Q=>∃a xs,x=.ref a/\SqT X.K H a xs/\((HT.sIx xs.length 0 lo=0/\HT.sIx xs.length xs.length hi=xs.length)->Q (.ref a) H) /\
  (¬(HT.sIx xs.length 0 lo=0/\HT.sIx xs.length xs.length hi=xs.length)->∀p,H p=none->Q (.ref p) (upd H p (.tup (ZEN xs lo hi))))):=by
 intro pins s σ H x v vl vu lo hi sl Q I rx hs pl pu h;obtain⟨a,xs,rfl,hx,q1,q2⟩:=h
 by_cases hw:HT.sIx xs.length 0 lo=0/\HT.sIx xs.length xs.length hi=xs.length
 ·cases rx
  obtain⟨its,r,ht,hz⟩:=I.tuple hx;have hlen:its.toArray.size=xs.length:=by rw[size_toArray];exact r.length.symm
  refine⟨"tuple",_,PyProof.Rows.slot_tuple_getitem.lookup,ht.typeIs,?_⟩;exact HT.getItem_tuple_whole ht hs pl pu (by rw[hlen];exact hw) ⟨.ref a,H,I,rfl,q1 hw⟩
 ·exact ZLb pins s σ H (.ref a) v vl vu lo hi sl Q I rx hs pl pu ⟨a,xs,rfl,hx,hw,q2 hw⟩
theorem ZHG(hc:X.calm=true):ZM X (.builtin "any") (λxs H Q=>∃(p:Addr) (bs:List Bool),xs=[.ref p]/\SqL X.K H p (bs.map V.bl)/\Q (.bl (bs.any id)) H):=by
 intro pins s σ H xs us Q I r h;obtain⟨p,bs,rfl,hq,q⟩:=h;obtain⟨u,rfl,ru⟩:=ZAm r;cases ru;obtain⟨its,rv,pl,hz⟩:=I.list hq;have hlen:=rv.length;rw[length_map] at hlen;have hpl:p<s.heap.objs.size:=by
  obtain⟨o,n,e,_⟩:=pl;exact lt_size e
 refine call_any_walk (wpAny_pyIter_list pl.isList ⟨s.heap.objs.size,_,_,_,_,_,λi=>bs.getD i false,rfl,Walks.list (A:=X.A.in1) (show X.A.in1.handled=none from I.ok.hd hc) s.heap.objs.size p (ne_of_lt hpl) its.toArray,?_,?_,λh' tk k=>?_⟩)
 ·exact⟨⟨_,get?_push_size _ rfl,rfl,rfl⟩,pl.isList.at λo e=>get?_push_of_some _ e⟩
 ·intro i v s' Q' E' hv hQ
  have hv':its[i]? = some v:=by simpa using hv
  have hi:i<bs.length:=by rw[hlen];exact(List.getElem?_eq_some_iff.mp hv').1
  obtain⟨u,hu,ru⟩:=rv.get (i:=i) (x:=V.bl bs[i]) (by simp[hi]);rw[hv'] at hu;cases hu;cases ru;have e:bs.getD i false=bs[i]:=by simp[List.getD,hi]
  dsimp only at hQ;rw[e] at hQ;exact wpAny_truthy_bool hQ
 ·have e:((List.range its.toArray.size).any λi=>bs.getD i false)=bs.any id:=by
   rw[Bool.eq_iff_iff,any_eq_true,any_eq_true];constructor
   ·rintro ⟨i,hi,z⟩
    have hi':i<bs.length:=by simpa [←hlen] using hi
    exact⟨bs[i],getElem_mem hi',by simpa [List.getD,hi'] using z⟩
   ·rintro ⟨b,hb,z⟩
    obtain⟨i,hi,rfl⟩:=List.mem_iff_getElem.mp hb;exact⟨i,by simp[←hlen,hi],by simpa [List.getD,hi] using z⟩
  rw[e];exact⟨.bl (bs.any id),H,I.kept λb o q=>k b o (by simp;exact ne_of_lt (lt_size q)) (get?_push_of_some _ q),rfl,q⟩
end
def ZGw(a:Addr):HO:=.ext λh=>∃o,h.get? a=some o/\o.cls=.type "dict"
inductive Kd (K:PySem.W.Frag) (H:Hp):V->String->Prop
 |non:Kd K H .non "NoneType"
 |bl (b:Bool):Kd K H (.bl b) "bool"
 |int (i:Int):Kd K H (.int i) "int"
 |str (x:Str):Kd K H (.str x) "str"
 |lst {a:Addr} {xs:List V}:H a=some (.lst xs)->Kd K H (.ref a) "list"
 |tup {a:Addr} {xs:List V}:SqT K H a xs->Kd K H (.ref a) "tuple"
 |dct {a:Addr}:H a=some (ZGw a)->Kd K H (.ref a) "dict"
def isi(k T:String):Bool:=decide (k=T) || (decide (k = "bool") && decide (T = "int"))
section
variable{X:Cx}{pos p2:Pos}
theorem ZGM:ZM X (.builtin "isinstance") (λxs H Q=>∃(x:V) (T k:String),xs=[x,.ty T]/\Kd X.K H x k/\(T = "int"∨T = "bool"∨T = "tuple"∨T = "str")/\Q (.bl (isi k T)) H):=by
 intro pins s σ H xs us Q I r h;obtain⟨x,T,k,rfl,kd,hT,q⟩:=h;obtain⟨u,w',rfl,ru,rw'⟩:=ZJo r;cases rw';have fin:∀(t:Value),PySem.W.kitOne X.K t (.type T)=some (isi k T)->∀{HH:Heap->Prop},PySem.W.KitX X.K u t HH->HH s.heap->(u≠Value.builtin "__main__.__loader__#opaque")->wpAny (model X.prog X.w) X.A (call (.builtin "isinstance") [u,.type T]) (EP X pins σ Q) X.xe s:=λt e _ kx hh hu =>
  PySem.W.kia_one kx I.kIn hh e hu λtk=>⟨.bl _,H,I.tok tk,rfl,q⟩
 cases kd with
 |non=>cases ru;exact fin (.type "NoneType") (by rcases hT with rfl|rfl|rfl|rfl <;> rfl) PySem.W.kitx_none True.intro (λz=>nomatch z)
 |bl y=>cases ru;exact fin (.type "bool") (by rcases hT with rfl|rfl|rfl|rfl <;> rfl) PySem.W.kitx_bool True.intro (λz=>nomatch z)
 |int i=>obtain⟨t,rfl⟩:=ru;exact fin (.type "int") (by rcases hT with rfl|rfl|rfl|rfl <;> rfl) PySem.W.kitx_int True.intro (λz=>nomatch z)
 |str y=>obtain⟨t,rfl⟩:=ru;exact fin (.type "str") (by rcases hT with rfl|rfl|rfl|rfl <;> rfl) PySem.W.kitx_str True.intro (λz=>nomatch z)
 |@lst a xs ea =>
  cases ru;obtain⟨_,_,n,_,h1⟩:=(show Z8 X.prog X.w H s.heap a (.lst xs) from I.hok a _ ea);exact fin (.type "list") (by rcases hT with rfl|rfl|rfl|rfl <;> rfl) PySem.W.kitx_list ⟨_,h1,rfl⟩ (λz=>nomatch z)
 |@tup a xs ea =>
  cases ru;obtain⟨_,_,⟨o,h1,h2,_⟩,_⟩:=I.tuple ea;exact fin (.type "tuple") (by rcases hT with rfl|rfl|rfl|rfl <;> rfl) PySem.W.kitx_tuple ⟨o,h1,h2⟩ (λz=>nomatch z)
 |@dct a ea =>
  cases ru;obtain⟨⟨o,h1,h2⟩,_⟩:=(show Z8 X.prog X.w H s.heap a (ZGw a) from I.hok a _ ea);exact fin (.type "dict") (by rcases hT with rfl|rfl|rfl|rfl <;> rfl) PySem.W.kitx_dict ⟨o,h1,h2⟩ (λz=>nomatch z)
theorem ZGF:OpR X (compareOp .IsNot) (λx y H Q=>∃i j,x=.bl i/\y=.bl j/\Q (.bl (!(i == j))) H):=by
 intro pins s σ H x y v u Q I rx ry h;obtain⟨i,j,rfl,rfl,q⟩:=h;cases rx;cases ry;exact isnot_bool ⟨.bl _,H,I,rfl,q⟩
end
end L2
namespace HT
open PySem PyProof.Rows
open Builtin
section
variable{prog:Program}{w:World}{A:Around}{E:Value->Shared->Prop}{s:Shared}
theorem cat_tupA{t b:Addr}{vs ws:List Value}{Q:Value->Shared->Prop}(ht:IsTup s.heap t vs.toArray)(hb:IsTup s.heap b ws.toArray)
  (h0:vs=[]->Q (.ref b) s)(h1:vs≠[]->ws=[]->Q (.ref t) s)(h2:vs≠[]->ws≠[]->Q (.ref s.heap.objs.size) { s with heap:=s.heap.push { cls:=.type "tuple",data:=.seq (vs++ws).toArray } })
  (hsz:vs.length+ws.length<=sizeLine):wpAny (model prog w) A (binaryOp .Add (.ref t) (.ref b)) Q E s:=by
 by_cases hv:vs=[]
 ·obtain⟨⟨cls,dd,data,sl⟩,ho,hc,n,hd⟩:=id ht
  obtain⟨⟨cls2,dd2,data2,sl2⟩,ho2,hc2,n2,hd2⟩:=id hb;simp only at hc hd hc2 hd2;subst hc hd hc2 hd2;exact concat_meets ⟨_,ho,rfl⟩ ⟨_,ho2,rfl⟩ noFill_tuple_add seq_tuple_add PySem.F.slot_tuple_add PySem.F.entry_tuple_add (PySem.F.args_tuple_add_2 _ _)
   (tuple_addW0 t b vs.toArray ws.toArray n n2 dd dd2 sl sl2 (by simp[hv])) ⟨ho,ho2,h0 hv⟩
 ·exact ZJJ ht hb hv (h1 hv) (h2 hv) hsz
theorem noFill_tuple_mul:fillsNumberSlot (.type "tuple") "mul" = pure false :=
 PySem.fillsNumberSlot_seq (id:="tuple.__mul__") (r:=some (.builtin "tuple.__rmul__")) F.slot_tuple_mul.lookup (by decide +kernel) F.slot_tuple_rmul.lookup (by decide +kernel)
theorem repeat_tuple:seqRepeat? (.type "tuple")=pure (some (.builtin "tuple.__mul__")):=by
 unfold seqRepeat?;rw[PySem.seqSlot_of (T:="tuple") (name:="__mul__") (id:="tuple.__mul__") F.slot_tuple_mul.lookup (by decide +kernel),PySem.seqSlot_of (T:="tuple") (name:="__rmul__") (id:="tuple.__rmul__") F.slot_tuple_rmul.lookup (by decide +kernel)];rfl
theorem rmul_tup(a:Int)(t:Tok)(l:Addr)(items:Array Value)(n:Nat)(dd:Option Addr)(sl:Array (Option Value)) :
  Meets (Builtin.«int.__rmul__» ⟨[.int a t,.ref l],[]⟩) (λ_ R s=>s.heap.get? l=some { cls:=.type "tuple",dict:=dd,data:=.seq items n,slots:=sl }/\R (.ok (.ret Value.notImplemented)) s) :=
 .of_wp λprog w A R s h=>by obtain⟨hp,g,d,tk,os⟩:=s;obtain⟨hl,h⟩:=h;wp_walk;exact⟨_,rfl,h⟩
theorem tuple_mulW(l:Addr)(items:Array Value)(n:Nat)(dd:Option Addr)(sl:Array (Option Value))(k:Int)(t:Tok)(hc0 : ¬(decide (k < -(2 ^ 63)) || decide (k ≥ 2 ^ 63))=true)(hc1 : ¬(items.isEmpty || k == 1)=true)(hc2 : ¬(decide (k<=0) || items.isEmpty)=true)
  (hc3 : ¬((items.size:Int)*k > (2 ^ 63-1) / 8))(hc4 : ¬Builtin.Tuple.tupleTooMany ((items.size:Int)*k)=true)(hsz:((List.replicate k.toNat items).foldl (·++·) #[]).size<=sizeLine) :
  Meets (Builtin.«tuple.__mul__» ⟨[.ref l,.int k t],[]⟩) (λ_ R s=>s.heap.get? l=some { cls:=.type "tuple",dict:=dd,data:=.seq items n,slots:=sl }/\R (.ok (.ret (Value.ref s.heap.objs.size))) { s with heap:=s.heap.push { cls:=Value.type "tuple",data:=Data.seq ((List.replicate k.toNat items).foldl (·++·) #[]) },toks:=s.toks }) :=
 .of_wp λprog w A R s h=>by
  obtain⟨hp,g,d,tk,os⟩:=s;obtain⟨hl,h⟩:=h;have f1:=AutoSeq1.idx_int;have f2:=AutoSeq1.sub_tuple_tuple
  wp_walk using wpAny_loadPart' hl
  rw[if_neg hc0]
  wp_walk using wpAny_loadPart' hl
  rw[if_neg hc3]
  wp_walk using wpAny_loadPart' hl
  exact⟨_,rfl,h⟩
end
end HT
namespace L2
open PySem PySem.Spec PyProof.Rows H1
abbrev Hs:=Int×List (Int×Int)×List Int×List Int
def ZJ(ns:List Int):PyData:=.tuple (ns.map .int)
def ZBD(h:Hs):PyData:=.tuple [.int h.1,ZFv h.2.1,ZJ h.2.2.1,ZJ h.2.2.2]
def Zc(t:Int)(hs:List Hs):PyData:=.tuple [.int t,.tuple (hs.map ZBD)]
structure Ru where
 o:Int
 w:Int
 t:Int
 c:Int
 cl:List Str
def clD(cl:List Str):PyData:=.tuple (cl.map .str)
def ruD(r:Ru):PyData:=.tuple [.int r.o,.int r.w,.int r.t,.int r.c,clD r.cl]
structure RuOk (r:Ru):Prop where
 o : 0<=r.o/\r.o<=3
 w : 1<=r.w/\r.w<=9
 t : 0<=r.t/\r.t<=9
 c : 0<=r.c/\r.c<=8
 l:r.cl.length<=7
def ZL1(c:Int×Int):Prop:=1<=c.1/\c.1<=4/\0<=c.2/\c.2<c.1
structure HV (r:Ru) (n i:Nat) (h:Hs):Prop where
 up : 0<=h.1/\h.1<=1
 bl:h.2.1.length=n
 bs:∀w∈h.2.1,(0<=w.1/\w.1<=1000000)/\0<=w.2/\w.2<=3
 tl:h.2.2.1.length=n
 ts:∀k∈h.2.2.1,0<=k/\k<=r.t
 ml:h.2.2.2.length=n
 ms:∀k∈h.2.2.2,0<=k/\k<=r.w
 m0:h.2.2.2[i]? = some 0
 mu:h.1=1∨∀k∈h.2.2.2,k=0
theorem snocV{r:Ru}{n:Nat}{hs:List Hs}{h:Hs}(hv:∀i h,hs[i]? = some h->HV r n i h)(hn:HV r n hs.length h):∀i x,(hs++[h])[i]? = some x->HV r n i x:=λi x e=>by
 by_cases hj:i<hs.length
 ·rw[getElem?_append_left hj] at e
  exact hv i x e
 ·rw[getElem?_append_right (by omega)] at e
  have hj0:i-hs.length=0:=by
   have:=(List.getElem?_eq_some_iff.mp e).1;simp at this
   omega
  rw[hj0] at e;cases e;have:i=hs.length:=by omega
  rw[this];exact hn
end L2
namespace HT
open PySem PyProof.Rows
def lexGe:List Int->List Int->Bool
 |[],[]=>true
 |[],_::_=>false
 |_::_,[]=>true
 |x::xs,y::ys=>if x=y then lexGe xs ys else decide (y<=x)
theorem ZFj(x y:Int)(xs ys:List Int):lexGe (x::xs) (y::ys)=if x=y then lexGe xs ys else decide (y<=x):=rfl
theorem ZDZ:lexGe [] []=true:=rfl
theorem ZCi(y:Int)(ys:List Int):lexGe [] (y::ys)=false:=rfl
theorem ZCl(x:Int)(xs:List Int):lexGe (x::xs) []=true:=rfl
theorem ZG7(A:Around)(s:Shared)(a:Int)(t:Tok)(c:Int)(u:Tok)(prog:Program)(w:World)(E:Value->Shared->Prop)(Q:Value->Shared->Prop)(h:Q (.bool (decide (c<=a))) s) :
  wpAny (model prog w) A (richCompare .GtE (.int a t) (.int c u)) Q E s :=
 (PyProof.Rows.ge_int h:wpAny (model prog w) A (compareOp .GtE (.int a t) (.int c u)) Q E s)
section
open PySem.SeqAt
open PySem.AutoSeq1 (wpAny_loadPart')
open PySem.MeetsSeq PySem.MeetsSeq2 PySem.MeetsSeq3
theorem ZDR(l b:Addr)(items items2:Array Value)(n n2:Nat)(dd dd2:Option Addr)(sl sl2:Array (Option Value))(ns ms:List Int)(hi:IntsAre items.toList ns)(hj:IntsAre items2.toList ms) :
  Meets (Builtin.«tuple.__ge__» ⟨[.ref l,.ref b],[]⟩)
   (λ _ R s=>s.heap.get? l=some { cls:=.type "tuple",dict:=dd,data:=.seq items n,slots:=sl }/\s.heap.get? b=some { cls:=.type "tuple",dict:=dd2,data:=.seq items2 n2,slots:=sl2 } /\
    R (.ok (.ret (.bool (lexGe ns ms)))) s) :=
 .of_wp λprog w A R s h=>by
  obtain⟨hp,g,d,tk,os⟩:=s;obtain⟨hl,hb,h⟩:=h;have f2:=AutoSeq1.sub_tuple_tuple;have z1:items.size=ns.length:=by rw[←hi.length];simp
  have z2:items2.size=ms.length:=by rw[←hj.length];simp
  wp_walk using wpAny_loadPart' hl,wpAny_loadPart' hb,wpAny_forIn_list _ (λ rest b s'=>b.1=none/\s'=⟨hp,g,d,tk,os⟩/\∃ (vs ws:List Value) (ns' ms':List Int),rest=vs.zip ws /\
   IntsAre vs ns'/\IntsAre ws ms'/\ns'.length+items2.size=ms'.length+items.size/\R (.ok (.ret (.bool (lexGe ns' ms')))) ⟨hp,g,d,tk,os⟩) _
  case turn =>
   rintro ⟨y,x⟩ rest b s' ⟨hb',rfl,vs,ws,ns',ms',hz,hvi,hwi,hlen,hR⟩
   cases hvi with
   |nil=>rw[zip_nil_left] at hz;cases hz
   |cons a t hvi' =>
    cases hwi with
    |nil=>rw[List.zip_nil_right] at hz;cases hz
    |cons c u hwi' =>
     rw[zip_cons_cons] at hz;injection hz with hyx hrest
     injection hyx with hy hx
     subst hy hx;rw[ZFj] at hR;simp only[length_cons] at hlen;obtain⟨e,he,hiff⟩:=ZDG A.in1 ⟨hp,g,d,tk,os⟩ a t c u;refine wpAny_bind (he prog w _ _ ?_);cases e with
     |true =>
      rw[if_pos (hiff.mp rfl)] at hR
      wp_walk
      exact⟨rfl,rfl,_,_,_,_,hrest,hvi',hwi',by omega,hR⟩
     |false =>
      rw[if_neg (λq=>absurd (hiff.mpr q) Bool.false_ne_true)] at hR;have hri:=ZG7 A.in1 ⟨hp,g,d,tk,os⟩ a t c u prog w
      wp_walk using hri
      exact⟨_,rfl,by simpa using hR⟩
  case fin =>
   rintro ⟨b1,b2⟩ s' ⟨hb',rfl,vs,ws,ns',ms',hz,hvi,hwi,hlen,hR⟩
   simp only at hb';subst hb';have hv:lexGe ns' ms'=decide (items.size ≥ items2.size):=by
    cases hvi with
    |nil =>
     cases hwi with
     |nil =>
      simp only[length_nil] at hlen;rw[ZDZ];exact(decide_eq_true (by omega)).symm
     |cons c u hw =>
      simp only[length_nil,length_cons] at hlen;rw[ZCi];exact(decide_eq_false (by omega)).symm
    |cons a t hv =>
     cases hwi with
     |nil =>
      simp only[length_nil,length_cons] at hlen;rw[ZCl];exact(decide_eq_true (by omega)).symm
     |cons c u hw =>
      rw[zip_cons_cons] at hz;cases hz
   rw[hv] at hR
   wp_walk
   exact⟨_,rfl,by simpa [Builtin.Tuple.tupleCompareSizes] using hR⟩
  case h =>
   exact⟨rfl,rfl,items.toList,items2.toList,ns,ms,rfl,hi,hj,by omega,h⟩
end
section
variable{prog:Program}{w:World}{A:Around}{E:Value->Shared->Prop}{s:Shared}
theorem ge_tupInts{l b:Addr}{items items2:Array Value}{ns ms:List Int}{Q:Value->Shared->Prop}(hl:IsTup s.heap l items)(hb:IsTup s.heap b items2)(hi:IntsAre items.toList ns)(hj:IntsAre items2.toList ms)
  (hu:A.units<cLine)(h:Q (.bool (lexGe ns ms)) s):wpAny (model prog w) A (compareOp .GtE (.ref l) (.ref b)) Q E s:=by
 obtain⟨⟨cls,dd,data,sl⟩,ho,hc,n,hd⟩:=id hl;obtain⟨⟨cls2,dd2,data2,sl2⟩,ho2,hc2,n2,hd2⟩:=id hb;simp only at hc hd hc2 hd2;subst hc hd hc2 hd2;exact richCompare_meets_room (op:=.GtE) ⟨_,ho,rfl⟩ ⟨_,ho2,rfl⟩ PySem.F.slot_tuple_ge PySem.F.entry_tuple_ge (PySem.F.args_tuple_ge_2 _ _) (ZDR l b items items2 n n2 dd dd2 sl sl2 ns ms hi hj)
  ⟨ho,ho2,show Value.bool (lexGe ns ms)≠Value.notImplemented/\Q (.bool (lexGe ns ms)) s from ⟨(λx=>nomatch x),h⟩⟩ hu
end
end HT
namespace L2
open PySem PySem.Spec PyProof.Rows
section
variable{X:Cx}{a b:Expr}{ta tb:TE}{pos:Pos}
def rGeT(K:PySem.W.Frag):R2:=λx y H Q=>∃a b ns ms,x=.ref a/\y=.ref b/\SqT K H a (ns.map V.int)/\SqT K H b (ms.map V.int)/\Q (.bl (HT.lexGe ns ms)) H
theorem ZKV(hu:X.A.units<cLine):OpR X (compareOp .GtE) (rGeT X.K):=by
 intro pins s σ H x y v u Q I rx ry h;obtain⟨a,b,ns,ms,rfl,rfl,ha,hb,q⟩:=h;cases rx;cases ry;obtain⟨its,r1,p1,_⟩:=I.tuple ha;obtain⟨its2,r2,p2,_⟩:=I.tuple hb;have i1:IntsAre its.toArray.toList ns:=Zw r1;have i2:IntsAre its2.toArray.toList ms:=Zw r2;exact HT.ge_tupInts p1 p2 i1 i2 hu ⟨.bl (HT.lexGe ns ms),H,I,rfl,q⟩
end
end L2
namespace L2
open PySem PySem.W PyProof.Rows H1
def ZGP{α : Type}(f:Nat->Nat->Option Bool):KasT α->Option α
 |.ret a=>some a
 |.ask i j k=>match f i j with
  |some b=>ZGP f (k b)
  |none=>none
theorem ZFx{α : Type}{cmp:Nat->Nat->(Bool->Shared->Prop)->Shared->Prop}{f:Nat->Nat->Option Bool}{s:Shared}{Q : α->Shared->Prop}(hc:∀i j b (C:Bool->Shared->Prop),f i j=some b->C b s->cmp i j C s):∀(t:KasT α) {a : α},ZGP f t=some a->Q a s->t.kasWp cmp Q s
 |.ret a,b,h,q=>by
  cases h;exact q
 |.ask i j k,a,h,q=>by
  show cmp i j (λb s'=>(k b).kasWp cmp Q s') s;unfold ZGP at h;cases hf:f i j with
  |none=>rw[hf] at h;cases h
  |some b =>
   rw[hf] at h;exact hc i j b _ hf (ZFx hc (k b) h q)
def rkF(π : List Nat)(i j:Nat):Option Bool:=if (Nat.blt i π.length && Nat.blt j π.length)=true then some (Nat.blt (π.getD i 0) (π.getD j 0)) else none
def chk(π : List Nat):Bool:=match ZGP (rkF π) (kas_sort π.length) with
 |none=>false
 |some p=>p.toList.isPerm (List.range π.length) && (p.toList.map (λi=>π.getD i 0) == List.range π.length)
def pl(n:Nat):Nat->List (List Nat)
 |0=>[[]]
 |k+1=>(pl n k).flatMap λl=>((List.range n).filter λx=>!l.contains x).map λx=>x::l
theorem ZG5{n:Nat}:∀{π : List Nat},π.Nodup->(∀x∈π,x<n)->π∈pl n π.length
 |[],_,_=>List.mem_singleton.mpr rfl
 |x::r,hn,hl=>by
  obtain⟨h1,h2⟩:=List.nodup_cons.mp hn;show x::r∈(pl n r.length).flatMap _;rw[List.mem_flatMap];refine⟨r,ZG5 h2 λy hy=>hl y (mem_cons_of_mem _ hy),List.mem_map.mpr ⟨x,List.mem_filter.mpr ⟨List.mem_range.mpr (hl x (mem_cons_self ..)),?_⟩,rfl⟩⟩;simpa using h1
theorem chk2:(pl 2 2).all chk=true:=by decide +kernel
theorem chk3:(pl 3 3).all chk=true:=by decide +kernel
theorem chk4:(pl 4 4).all chk=true:=by decide +kernel
theorem chk5:(pl 5 5).all chk=true:=by decide +kernel
theorem chk6:(pl 6 6).all chk=true:=by decide +kernel
theorem ZJT{n:Nat}(h2 : 2<=n)(h6:n<=6):(pl n n).all chk=true:=by
 obtain rfl|rfl|rfl|rfl|rfl:n=2∨n=3∨n=4∨n=5∨n=6:=by omega
 ·exact chk2
 ·exact chk3
 ·exact chk4
 ·exact chk5
 ·exact chk6
theorem ZAj{α : Type}{p q : α->Bool}:∀{l:List α},(∀x∈l,p x=true->q x=true)->(∃x,x∈l/\q x=true/\p x=false)->l.countP p<l.countP q
 |[],_,⟨_,z,_⟩=>nomatch z
 |a::r,h,⟨x,hx,hq,hp⟩=>by
  rw[List.countP_cons,List.countP_cons];have hle:r.countP p<=r.countP q:=List.countP_mono_left λy hy=>h y (mem_cons_of_mem _ hy)
  have ha:=h a (mem_cons_self ..);rcases List.mem_cons.mp hx with rfl|hx
  ·rw[hq,hp,if_pos rfl,if_neg (by decide)]
   omega
  ·have:=ZAj (λy hy=>h y (mem_cons_of_mem _ hy)) ⟨x,hx,hq,hp⟩
   by_cases c:p a=true
   ·rw[c,ha c]
    omega
   ·rw[if_neg c]
    omega
theorem ZEI(a:Int×Int):gtW a a=false:=by
 cases h:gtW a a with
 |false=>rfl
 |true =>
  rcases ZAY.mp h with z|z
  ·omega
  ·omega
theorem ZGe{a b c:Int×Int}(h1:gtW a b=true)(h2:gtW b c=true):gtW a c=true:=by
 rw[ZAY] at *;omega
theorem ZGC{a b:Int×Int}(h:a≠b):gtW a b=true∨gtW b a=true:=by
 rw[ZAY,ZAY]
 by_cases c:a.1=b.1
 ·by_cases d:a.2=b.2
  ·exact absurd (Prod.ext c d) h
  ·omega
 ·omega
def ZA5(ks:List (Int×Int))(k:Int×Int):Nat:=ks.countP λx=>gtW k x
theorem ZJd{ks:List (Int×Int)}{k:Int×Int}(h:k∈ks):ZA5 ks k<ks.length:=by
 have:=ZAj (p:=λx=>gtW k x) (q:=λ_=>true) (l:=ks) (λ_ _ _=>rfl) ⟨k,h,rfl,ZEI k⟩;rw[List.countP_true] at this
 exact this
theorem ZBO{ks:List (Int×Int)}{a b:Int×Int}(h:a∈ks)(g:gtW b a=true):ZA5 ks a<ZA5 ks b :=
 ZAj (λ_ _ e=>ZGe g e) ⟨a,h,g,ZEI a⟩
theorem ZEh{ks:List (Int×Int)}{a b:Int×Int}(ha:a∈ks)(hb:b∈ks):Nat.blt (ZA5 ks a) (ZA5 ks b)=gtW b a:=by
 cases h:gtW b a with
 |true=>exact Nat.blt_eq.mpr (ZBO ha h)
 |false =>
  cases c:Nat.blt (ZA5 ks a) (ZA5 ks b) with
  |false=>rfl
  |true =>
   have c:=Nat.blt_eq.mp c
   by_cases e:a=b
   ·rw[e] at c
    exact absurd c (lt_irrefl _)
   ·rcases ZGC e with z|z
    ·have:=ZBO hb z
     omega
    ·rw[h] at z
     cases z
def ZGO(ks:List (Int×Int))(i j:Nat):Option Bool:=if (Nat.blt i ks.length && Nat.blt j ks.length)=true then some (gtW (ks.getD j (0,0)) (ks.getD i (0,0))) else none
theorem ZDj{α : Type}{xs:List α}{i:Nat}{d : α}(h:i<xs.length):xs.getD i d∈xs:=by
 rw[getD_eq_getElem?_getD,getElem?_eq_getElem h];exact getElem_mem h
theorem ZBM{ks:List (Int×Int)}{g:Int×Int->Nat}{i:Nat}(h:i<ks.length):(ks.map g).getD i 0=g (ks.getD i (0,0)):=by
 rw[getD_eq_getElem?_getD,getD_eq_getElem?_getD,getElem?_map,getElem?_eq_getElem h];rfl
theorem ZJm(ks:List (Int×Int)):ZGO ks=rkF (ks.map (ZA5 ks)):=by
 funext i j
 unfold ZGO rkF;rw[length_map]
 by_cases c:(Nat.blt i ks.length && Nat.blt j ks.length)=true
 ·rw[if_pos c,if_pos c]
  have c':=c;rw[Bool.and_eq_true,blt_eq,blt_eq] at c';rw[ZBM c'.1,ZBM c'.2,ZEh (ZDj c'.1) (ZDj c'.2)]
 ·rw[if_neg c,if_neg c]
theorem ZFW{ks:List (Int×Int)}(hn:ks.Nodup)(h2 : 2<=ks.length)(h6:ks.length<=6):∃p:Array Nat,ZGP (ZGO ks) (kas_sort ks.length)=some p/\p.toList.Perm (List.range ks.length)/\(p.toList.map λi=>ks.getD i (0,0)).Pairwise (λa b=>gtW b a=true):=by
 have hN:(ks.map (ZA5 ks)).Nodup:=by
  unfold List.Nodup;rw[List.pairwise_map];refine List.Pairwise.imp_of_mem (λ{a b} ha hb hab e=>?_) hn;rcases ZGC hab with z|z
  ·have:=ZBO hb z
   omega
  ·have:=ZBO ha z
   omega
 have hL:∀x∈ks.map (ZA5 ks),x<ks.length:=λx hx=>by
  obtain⟨k,hk,rfl⟩:=List.mem_map.mp hx;exact ZJd hk
 have hm:=ZG5 hN hL;rw[length_map] at hm;have hc:=List.all_eq_true.mp (ZJT h2 h6) _ hm;unfold chk at hc;rw[←ZJm,length_map] at hc;cases hr:ZGP (ZGO ks) (kas_sort ks.length) with
 |none=>rw[hr] at hc;cases hc
 |some p =>
  rw[hr] at hc;have hc:=Bool.and_eq_true_iff.mp hc;have hp:p.toList.Perm (List.range ks.length):=List.isPerm_iff.mp hc.1;have he:p.toList.map (λi=>(ks.map (ZA5 ks)).getD i 0)=List.range ks.length:=eq_of_beq hc.2;refine⟨p,rfl,hp,?_⟩;have hw:(p.toList.map (λi=>(ks.map (ZA5 ks)).getD i 0)).Pairwise (· < ·):=by
   rw[he];exact List.pairwise_lt_range
  rw[List.pairwise_map] at hw ⊢;refine List.Pairwise.imp_of_mem (λ{a b} ha hb hab=>?_) hw;have ha':=List.mem_range.mp (hp.mem_iff.mp ha);have hb':=List.mem_range.mp (hp.mem_iff.mp hb);rw[ZBM ha',ZBM hb'] at hab;rw[←ZEh (ZDj ha') (ZDj hb')];exact Nat.blt_eq.mpr hab
end L2
namespace L2
open PySem PySem.Spec PySem.W PyProof.Rows H1
inductive PairsIn (h:Heap):List Value->List (Int×Int)->Prop
 |nil:PairsIn h [] []
 |cons {a:Addr} {k:Int×Int} {t u:Tok} {vs:List Value} {ks:List (Int×Int)}:IsTup h a #[.int k.1 t,.int k.2 u]->PairsIn h vs ks->PairsIn h (.ref a::vs) (k::ks)
theorem PairsIn.keep{h h':Heap}(g:∀a its,IsTup h a its->IsTup h' a its):∀{vs:List Value} {ks:List (Int×Int)},PairsIn h vs ks->PairsIn h' vs ks
 |_,_,.nil=>.nil
 |_,_,.cons a b=>.cons (g _ _ a) (PairsIn.keep g b)
theorem PairsIn.len{h:Heap}:∀{vs:List Value} {ks:List (Int×Int)},PairsIn h vs ks->vs.length=ks.length
 |_,_,.nil=>rfl
 |_,_,.cons _ b=>congrArg Nat.succ b.len
theorem PairsIn.at{h:Heap}:∀{vs:List Value} {ks:List (Int×Int)},PairsIn h vs ks->∀{i:Nat},i<ks.length->∃a t u,vs.getD i Value.none=.ref a/\IsTup h a #[.int (ks.getD i (0,0)).1 t,.int (ks.getD i (0,0)).2 u]
 |_,_,.nil,i,z=>absurd z (not_lt_zero _)
 |_,_,.cons a b,0,_=>⟨_,_,_,rfl,a⟩
 |_,_,.cons a b,i+1,z=>b.at (Nat.lt_of_succ_lt_succ z)
theorem PairsIn.firsts{h:Heap}:∀{vs:List Value} {ks:List (Int×Int)},PairsIn h vs ks->∃fs,KatTups h vs fs/\fs.length=ks.length/\∀v∈fs,∃n t,v=Value.int n t
 |_,_,.nil=>⟨[],KatTups.nil,rfl,λ_ z=>nomatch z⟩
 |_,_,.cons a b=>by
  obtain⟨o,h1,h2,n,h3⟩:=a;obtain⟨fs,f1,f2,f3⟩:=b.firsts;refine⟨_::fs,KatTups.cons h1 h2 h3 rfl f1,congrArg Nat.succ f2,λv hv=>?_⟩;rcases List.mem_cons.mp hv with rfl|hv
  ·exact⟨_,_,rfl⟩
  ·exact f3 v hv
section
variable{prog:Program}{w:World}{A:Around}{E:Value->Shared->Prop}{s:Shared}
theorem ZI6{a b:Addr}{x y:Int×Int}{t u t' u':Tok}{C:Bool->Shared->Prop}(ha:IsTup s.heap a #[.int x.1 t,.int x.2 u])(hb:IsTup s.heap b #[.int y.1 t',.int y.2 u'])(h:C (gtW y x) s) :
  wpAny (model prog w) A (keyLt' (tuples' true) (.ref a) (.ref b)) C E s:=by
 obtain⟨o,h1,_,n,h2⟩:=ha;obtain⟨o',h1',_,n',h2'⟩:=hb;refine kat_lt h1 h2 h1' h2' ?_;show KatLex prog w A true (decide ((2:Nat)<2)) C [(.int x.1 t,.int y.1 t'),(.int x.2 u,.int y.2 u')] 0 s;refine kat_cons (wpAny_eqBool_int (kat_go (λe=>kat_yes (kat_cons (wpAny_eqBool_int (kat_go (λe2=>kat_yes (kat_nil ?_)) (λe2=>kat_no (kat_one _ _ (wpAny_lt_int ?_))))))) (λe=>kat_no ?_)))
 ·have e:=eq_of_beq e
  have e2:=eq_of_beq e2;have:gtW y x=false:=by
   rw[show y=x from (Prod.ext e e2).symm];exact ZEI x
  rw[this] at h;exact h
 ·have e:=eq_of_beq e
  show C (decide (x.2<y.2)) s;have:gtW y x=decide (x.2<y.2):=by
   rw[Bool.eq_iff_iff,ZAY,decide_eq_true_eq];omega
  rw[←this];exact h
 ·have e : ¬x.1=y.1:=by simpa using e
  show wpAny (model prog w) A (oneLt' true (.int x.1 t) (.int y.1 t')) C (λ_ _=>False) s;refine oneLt_int ?_;have:gtW y x=decide (x.1<y.1):=by
   rw[Bool.eq_iff_iff,ZAY,decide_eq_true_eq];omega
  rw[←this];exact h
theorem ZFV{vs:List Value}{ks:List (Int×Int)}{Q:SortKind->Shared->Prop}(hp:PairsIn s.heap vs ks)(h0 : 0<ks.length)(h:Q (tuples' true) s):wpAny (model prog w) A (keyKind' vs.toArray) Q E s:=by
 obtain⟨fs,f1,f2,f3⟩:=hp.firsts;refine kat_kind (T:=.type "int") f1 (by omega) (λv hv=>?_) rfl h;obtain⟨n,t,rfl⟩:=f3 v hv;exact λA Q E s _ q=>wpAny_pure q
theorem ZAX{α : Type}(xs:List α)(d : α):(List.range xs.length).map (λi=>xs.getD i d)=xs:=by
 refine List.ext_getElem (by simp) λi h1 h2=>?_
 simp[h2]
theorem ZCV{a:Addr}{vs:List Value}{ks:List (Int×Int)}{n:Nat}{P:PySem.Fin->Shared->Prop}(ho:s.heap.get? a=some (seqObj "list" vs.toArray n))(hp:PairsIn s.heap vs ks)(hn:ks.Nodup)(h6:ks.length<=6)
  (h:∀p:List Nat,p.Perm (List.range ks.length)->(p.map λi=>ks.getD i (0,0)).Pairwise (λa b=>gtW b a=true)->P (.done (.ret .none)) { s with heap:=sortedHeap s.heap a vs (p.map λi=>vs.getD i Value.none).toArray }) :
  wpAny (model prog w) A (Builtin.«list.sort» ⟨[.ref a],[]⟩) P E s:=by
 have hlen:=hp.len;rw[list_sort_plain];have ha:a<s.heap.objs.size:=lt_size ho;refine wpAny_bind (listItems_at ho rfl ?_);refine wpAny_bind (listUpdate_at ho rfl ?_);obtain⟨e1,ho1⟩:∃e1,(s.heap.update a (Obj.mapSeq λ_=>#[])).get? a=some (seqObj "list" #[] e1):=⟨_,get?_update_seq ho (λ_=>#[])⟩;refine wpAny_bind (seqEpoch_at ho1 rfl ?_);refine wpAny_bind (wpAny_newTuple ?_);refine wpAny_bind (wpAny_newList ?_);refine wpAny_holding ?_;have old:∀b,b≠a->b<s.heap.objs.size->(((s.heap.update a (Obj.mapSeq λ_=>#[])).push (seqObj "tuple" vs.toArray 0)).push (seqObj "list" #[] 0)).get? b=s.heap.get? b:=λb hb hlt=>by
  rw[get?_push_ne _ _ _ (by rw[size_push',size_update];exact ne_of_lt (Nat.lt_succ_of_lt hlt)),get?_push_ne _ _ _ (by rw[size_update];exact ne_of_lt hlt),Heap.get?_update_ne _ _ _ _ hb]
 have ho6:(((s.heap.update a (Obj.mapSeq λ_=>#[])).push (seqObj "tuple" vs.toArray 0)).push (seqObj "list" #[] 0)).get? a=some (seqObj "list" #[] e1):=by
  rw[get?_push_ne _ _ _ (by rw[size_push',size_update];exact ne_of_lt (Nat.lt_succ_of_lt ha)),get?_push_ne _ _ _ (by rw[size_update];exact ne_of_lt ha)];exact ho1
 have hp6:PairsIn (((s.heap.update a (Obj.mapSeq λ_=>#[])).push (seqObj "tuple" vs.toArray 0)).push (seqObj "list" #[] 0)) vs ks:=hp.keep λb its hb=>by
  obtain⟨o,h1,h2,h3⟩:=hb;refine⟨o,?_,h2,h3⟩;rw[old b (λe=>?_) (lt_size h1)]
  ·exact h1
  ·rw[e,ho] at h1
   cases h1;exact absurd (show Value.type "list" = Value.type "tuple" from h2) (by decide)
 show wpAny (model prog w) A _ P E { s with heap:=((s.heap.update a (Obj.mapSeq λ_=>#[])).push (seqObj "tuple" vs.toArray 0)).push (seqObj "list" #[] 0) };dsimp only;have hsz:vs.toArray.size=vs.length:=by simp
 by_cases h2:vs.toArray.size<2
 ·rw[if_pos h2,if_pos h2]
  refine wpAny_bind (wpAny_pure ?_);rw[StateT.run_pure];refine wpAny_bind (wpAny_pure ?_);dsimp only;refine wpAny_bind (seqEpoch_at ho6 rfl ?_);refine wpAny_bind (listUpdate_at ho6 rfl ?_ (hsz2:=by rw[Array.size_map];show(pairsOf vs).size<=_;rw[pairsOf_size,sizeLine_eq];omega));simp only[bne_self_eq_false,Bool.false_eq_true,if_false];have e:(arrOf (SortSt.mk' general' (vs.toArray.zip vs.toArray) #[] 7 none)).map (·.2)=((List.range ks.length).map λi=>vs.getD i Value.none).toArray:=by
   rw[←hlen,ZAX];show(vs.toArray.zip vs.toArray).map (·.2)=vs.toArray;apply Array.toList_inj.mp;simp;rw[←List.unzip_snd,List.unzip_zip rfl]
  have q:=h (List.range ks.length) (List.Perm.refl _) (by
   rw[ZAX]
   match ks,(show ks.length<2 by omega) with
   |[],_=>exact .nil
   |[x],_=>exact List.pairwise_singleton _ _
   |x::y::r,z=>exact absurd z (by simp))
  rw[←e] at q;exact wpAny_pure q
 ·rw[if_neg h2,if_neg h2]
  obtain ⟨p,hr,hpp,hps⟩:=ZFW hn (by omega) h6;refine wpAny_bind (ZFV (s:={ s with heap:=((s.heap.update a (Obj.mapSeq λ _=>#[])).push (seqObj "tuple" vs.toArray 0)).push (seqObj "list" #[] 0) }) hp6 (by omega) ?_);refine wpAny_bind (wpAny_mono (kat_run (ks:=vs) (vs:=vs) (κ:=tuples' true) (G:=λ p' s'=>p'=p/\s'={ s with heap:=((s.heap.update a (Obj.mapSeq λ _=>#[])).push (seqObj "tuple" vs.toArray 0)).push (seqObj "list" #[] 0) })
   (Q:=λst' s'=>s'={ s with heap:=((s.heap.update a (Obj.mapSeq λ_=>#[])).push (seqObj "tuple" vs.toArray 0)).push (seqObj "list" #[] 0) }/\failedOf st'=none/\(arrOf st').map (·.2)=(p.toList.map λi=>vs.getD i Value.none).toArray) rfl (by omega) (by omega) (λp' st' s' hz har hf hG=>⟨hG.2,hf,by rw[←hG.1];exact kat_snds rfl har⟩)
   (ZFx (f:=ZGO ks) (λi j b C hf hC=>?_) _ (by rw[hlen];exact hr) ⟨rfl,rfl⟩)) (λr s' hr'=>?_) λ_ _ e=>e)
  ·unfold ZGO at hf
   by_cases c:(Nat.blt i ks.length && Nat.blt j ks.length)=true
   ·rw[if_pos c] at hf
    cases hf;rw[Bool.and_eq_true,blt_eq,blt_eq] at c;obtain⟨x,t,u,e,hx⟩:=hp6.at c.1;obtain⟨y,t',u',e',hy⟩:=hp6.at c.2;unfold kas_ask;rw[e,e'];exact ZI6 hx hy hC
   ·rw[if_neg c] at hf
    cases hf
  ·obtain⟨⟨⟩,st'⟩:=r
   obtain⟨rfl,hf,hm⟩:=hr';dsimp only at hf hm ⊢;have hpl:p.toList.length=ks.length:=by rw[hpp.length_eq,length_range]
   refine wpAny_bind (seqEpoch_at ho6 rfl ?_);refine wpAny_bind (listUpdate_at ho6 rfl ?_ (hsz2:=by rw[hm];simp;rw[sizeLine_eq,←Array.length_toList];omega));rw[hf];simp only[bne_self_eq_false,Bool.false_eq_true,if_false];have q:=h p.toList hpp hps;rw[←hm] at q;exact wpAny_pure q
theorem ZEM{l:Addr}{vs:List Value}{ks:List (Int×Int)}{Q:Value->Shared->Prop}(hl:s.heap.IsList l vs.toArray)(hp:PairsIn s.heap vs ks)(hn:ks.Nodup)(h6:ks.length<=6)
  (h:∀p:List Nat,p.Perm (List.range ks.length)->(p.map λi=>ks.getD i (0,0)).Pairwise (λa b=>gtW b a=true)->Q (.ref (s.heap.objs.size+1)) { s with heap:=sortedAll s.heap vs (p.map λi=>vs.getD i Value.none).toArray }) :
  wpAny (model prog w) A (call (.builtin "sorted") [.ref l]) Q E s:=by
 have hlen:=hp.len;refine Calls.call_function_entry kind_sorted plain_sorted entry_sorted (args_sorted1 _) ?_;unfold Builtin.«sorted»;refine wpAny_bind (m:=checkCount "sorted" 1 1 _) (wpAny_pure ?_);refine wpAny_bind (collect_list hl ?_ (by rw[sizeLine_eq];omega));refine wpAny_bind (wpAny_newList ?_ (by rw[sizeLine_eq];omega));have hsz:((s.heap.push (seqObj "list" #[] 0)).update s.heap.objs.size (Obj.mapSeq (·++vs.toArray))).objs.size=s.heap.objs.size+1:=by
  rw[size_update,size_push']
 have hoL:(((s.heap.push (seqObj "list" #[] 0)).update s.heap.objs.size (Obj.mapSeq (·++vs.toArray))).push (seqObj "list" vs.toArray 0)).get? (s.heap.objs.size+1)=some (seqObj "list" vs.toArray 0):=by
  rw[←hsz];exact get?_push_size _ rfl
 have hp2:PairsIn (((s.heap.push (seqObj "list" #[] 0)).update s.heap.objs.size (Obj.mapSeq (·++vs.toArray))).push (seqObj "list" vs.toArray 0)) vs ks:=hp.keep λb its hb=>by
  obtain⟨o,h1,h2⟩:=hb;have hlt:b<s.heap.objs.size:=lt_size h1;refine⟨o,?_,h2⟩;rw[get?_push_ne _ _ _ (by rw[hsz];exact ne_of_lt (Nat.lt_succ_of_lt hlt)),Heap.get?_update_ne _ _ _ _ (ne_of_lt hlt),get?_push_ne _ _ _ (ne_of_lt hlt)];exact h1
 show wpAny _ _ _ _ _ { s with heap:=((s.heap.push (seqObj "list" #[] 0)).update s.heap.objs.size (Obj.mapSeq (·++vs.toArray))).push (seqObj "list" vs.toArray 0) };rw[hsz];refine wpAny_bind (wpAny_holding (wpAny_call_entry slot_list_sort ⟨_,hoL,rfl⟩ entry_list_sort (ZCV hoL hp2 hn h6 λp a1 a2=>⟨_,rfl,?_⟩) (args_list_sort _)));exact wpAny_pure ⟨_,rfl,h p a1 a2⟩
end
end L2
namespace L2
open PySem PySem.Spec PyProof.Rows H1
section
variable{X:Cx}{pins:List (Addr×Obj)}{σ : St}{H:Hp}{s:Shared}
theorem ZGA:∀{ys:List V} {its:List Value},ZK ys its->∀{i:Nat},i<ys.length->ZV (ys.getD i .non) (its.getD i .none)
 |_,_,.nil,_,z=>absurd z (not_lt_zero _)
 |_,_,.cons r _,0,_=>r
 |_,_,.cons _ r,i+1,z=>ZGA r (Nat.lt_of_succ_lt_succ z)
theorem ZDf{ys:List V}{its:List Value}(r:ZK ys its):∀{p:List Nat},(∀i∈p,i<ys.length)->ZK (p.map λi=>ys.getD i .non) (p.map λi=>its.getD i .none)
 |[],_=>.nil
 |i::p,h=>.cons (ZGA r (h i (mem_cons_self ..))) (ZDf r λj hj=>h j (mem_cons_of_mem _ hj))
end
end L2
namespace L2
open PySem PySem.Spec PyProof.Rows
section
variable{X:Cx}
theorem ZEz:ZM X (.builtin "sorted") (λxs H Q=>∃(p:Addr) (ns:List Int),xs=[.ref p]/\SqL X.K H p (ns.map V.int)/\ns.length<64/\∀l (ms:List Int),H l=none->ms.Perm ns->ms.Pairwise (· <= ·)->Q (.ref l) (upd H l (.lst (ms.map V.int)))):=by
 intro pins s σ H xs us Q I r h;obtain⟨p,ns,rfl,hq,hn,q⟩:=h;obtain⟨u,rfl,ru⟩:=ZAm r;cases ru;obtain⟨its,rv,pl,hz⟩:=I.list hq;have hlen:=rv.length;rw[length_map] at hlen;refine sorted_ints (vs:=its) (ns:=ns) pl.isList (Zw rv) (by omega) λout ns' ia pm pw=>?_
 obtain⟨e,he⟩:=sortedAll_at s.heap its out;have rv':ZK (ns'.map V.int) out.toList:=by
  clear pm pw he
  generalize out.toList=l at ia
  induction ia with
  |nil=>exact .nil
  |cons a t h ih=>exact .cons ⟨t,rfl⟩ ih
 refine⟨.ref (s.heap.objs.size+1),_,I.laid (t':=s.toks) (λb o e=>sortedAll_old e) (le_succ _) (o:=.lst (ns'.map V.int)) ⟨?_,out.toList,e,rv',by simpa using he⟩,rfl,q _ ns' (I.hok.fresh (le_succ _)) pm pw⟩;rw[length_map,pm.length_eq];exact le_of_lt (ZP (by omega))
end
end L2
namespace L2
open PySem PySem.Spec PyProof.Rows H1
inductive W where
 |dat (d:PyData)
 |ref (n:Nat)
 |inp (ns:List Int)
 |ty (n:String)
 |tup (ws:List W)
structure CD where
 nm:Str
 fs:List Str
inductive Cell where
 |pl (ds:List PyData)
 |rl (ws:List W)
 |ob (c:CD) (ws:List W)
 |dk (kvs:List (Key×W))
abbrev G:=List Cell
structure Rh where
 c:List Addr
 h:List Addr
def Rh.mem(ρ : Rh)(a:Addr):Prop:=a∈ρ.c∨a∈ρ.h
abbrev Sd:=List (Option W)
def KL(K:PySem.W.Frag)(a:Addr)(xs:List V):Prop:=∃(o:Obj) (its:Array Value) (n:Nat),K.lookup a=some o/\o.cls=.type "list"/\o.dict=none/\o.data=.seq its n/\its.size<=sizeLine/\ZK xs its.toList
def KT(K:PySem.W.Frag)(a:Addr)(xs:List V):Prop:=∃(o:Obj) (its:Array Value) (n:Nat),K.lookup a=some o/\o.cls=.type "tuple"/\o.data=.seq its n/\its.size<=sizeLine/\ZK xs its.toList
def FzL(K:PySem.W.Frag)(ρ : Rh)(H:Hp)(a:Addr)(xs:List V):Prop:=(Rd H a (.lst xs)/\¬ρ.mem a)∨KL K a xs
def FzT(K:PySem.W.Frag)(ρ : Rh)(H:Hp)(a:Addr)(xs:List V):Prop:=(Rd H a (.tup xs)/\¬ρ.mem a)∨KT K a xs
theorem FzL.sq{K:PySem.W.Frag}{ρ : Rh}{H:Hp}{a:Addr}{xs:List V}(h:FzL K ρ H a xs):SqL K H a xs:=h.elim (λz=>.inl z.1) .inr
theorem FzT.sq{K:PySem.W.Frag}{ρ : Rh}{H:Hp}{a:Addr}{xs:List V}(h:FzT K ρ H a xs):SqT K H a xs:=h.elim (λz=>.inl z.1) .inr
mutual
inductive RelD (K:PySem.W.Frag) (ρ : Rh) (H:Hp):V->PyData->Prop
 |non:RelD K ρ H .non .none
 |bl (b:Bool):RelD K ρ H (.bl b) (.bool b)
 |int (i:Int):RelD K ρ H (.int i) (.int i)
 |str (x:Str):RelD K ρ H (.str x) (.str x)
 |tup {a:Addr} {xs:List V} {ds:List PyData}:FzT K ρ H a xs->RelDL K ρ H xs ds->RelD K ρ H (.ref a) (.tuple ds)
 |lst {a:Addr} {xs:List V} {ds:List PyData}:H a=some (.lst xs)->¬ρ.mem a->RelDL K ρ H xs ds->RelD K ρ H (.ref a) (.list ds)
 |dct {a:Addr}:H a=some (ZGw a)->¬ρ.mem a->RelD K ρ H (.ref a) (.dict [])
inductive RelDL (K:PySem.W.Frag) (ρ : Rh) (H:Hp):List V->List PyData->Prop
 |nil:RelDL K ρ H [] []
 |cons {x:V} {d:PyData} {xs:List V} {ds:List PyData}:RelD K ρ H x d->RelDL K ρ H xs ds->RelDL K ρ H (x::xs) (d::ds)
end
mutual
inductive Rel (K:PySem.W.Frag) (ρ : Rh) (H:Hp):V->W->Prop
 |dat {v:V} {d:PyData}:RelD K ρ H v d->Rel K ρ H v (.dat d)
 |ref {a:Addr} {n:Nat} : ρ.c[n]? = some a->Rel K ρ H (.ref a) (.ref n)
 |inp {a:Addr} {ns:List Int}:FzL K ρ H a (ns.map V.int)->Rel K ρ H (.ref a) (.inp ns)
 |ty {n:String}:Rel K ρ H (.ty n) (.ty n)
 |tup {a:Addr} {xs:List V} {ws:List W}:FzT K ρ H a xs->RelL K ρ H xs ws->Rel K ρ H (.ref a) (.tup ws)
inductive RelL (K:PySem.W.Frag) (ρ : Rh) (H:Hp):List V->List W->Prop
 |nil:RelL K ρ H [] []
 |cons {v:V} {x:W} {vs:List V} {xs:List W}:Rel K ρ H v x->RelL K ρ H vs xs->RelL K ρ H (v::vs) (x::xs)
end
inductive RelF (K:PySem.W.Frag) (ρ : Rh) (H:Hp):List Str->List (Str×V)->List W->Prop
 |nil {ns:List Str}:RelF K ρ H ns [] []
 |cons {f:Str} {ns:List Str} {v:V} {x:W} {vs:List (Str×V)} {xs:List W}:Rel K ρ H v x->RelF K ρ H ns vs xs->RelF K ρ H (f::ns) ((f,v)::vs) (x::xs)
inductive RelK (K:PySem.W.Frag) (ρ : Rh) (H:Hp):List (Key×V)->List (Key×W)->Prop
 |nil:RelK K ρ H [] []
 |cons {k:Key} {v:V} {x:W} {vs:List (Key×V)} {xs:List (Key×W)}:Rel K ρ H v x->RelK K ρ H vs xs->RelK K ρ H ((k,v)::vs) ((k,x)::xs)
def Zp(K:PySem.W.Frag)(ρ : Rh)(H:Hp)(a:Addr):Cell->Prop
 |.pl ds=>∃vs,H a=some (.lst vs)/\RelDL K ρ H vs ds
 |.rl ws=>∃vs,H a=some (.lst vs)/\RelL K ρ H vs ws
 |.ob c fs=>∃C dx vs,PySem.W.nsIn K mainGlobals c.nm=some (some (.ref C))/\H a=some (.ins C dx vs)/\RelF K ρ H c.fs vs fs
 |.dk ws=>∃vs,H a=some (.dK vs)/\RelK K ρ H vs ws
def kdO:HO->Nat
 |.lst _=>0
 |.ins _ _ _=>1
 |_=>2
structure Stp (ρ : Rh) (H:Hp) (ρ':Rh) (H':Hp):Prop where
 pre:∃r,ρ'.c = ρ.c++r
 hid : ρ'.h = ρ.h
 frm:∀a o,H a=some o->a∉ρ.c->H' a=some o
 fre:∀a∈ρ'.c,a∈ρ.c∨H a=none
 kd:∀a o,H a=some o->∃o',H' a=some o'/\kdO o'=kdO o
section
variable{K:PySem.W.Frag}{ρ ρ' ρ2:Rh}{H H' H2:Hp}
theorem Stp.refl:Stp ρ H ρ H:=⟨⟨[],(append_nil _).symm⟩,rfl,λ_ _ h _=>h,λ_ h=>.inl h,λa o h=>⟨o,h,rfl⟩⟩
theorem Stp.ninc{a:Addr}{o:HO}(s:Stp ρ H ρ' H')(h:H a=some o)(n:a∉ρ.c):a∉ρ'.c:=λz=>(s.fre a z).elim n λe=>by rw[h] at e;cases e
theorem Stp.nin{a:Addr}{o:HO}(s:Stp ρ H ρ' H')(h:H a=some o)(n : ¬ρ.mem a) : ¬ρ'.mem a:=λz=>z.elim (s.ninc h λq=>n (.inl q)) λz=>n (.inr (by rw[←s.hid];exact z))
theorem Stp.trans(s:Stp ρ H ρ' H')(t:Stp ρ' H' ρ2 H2):Stp ρ H ρ2 H2:=by
 refine⟨?_,t.hid.trans s.hid,λa o h n=>t.frm a o (s.frm a o h n) (s.ninc h n),λa h=>?_,λa o h=>?_⟩
 ·obtain⟨r,e⟩:=s.pre
  obtain⟨q,e'⟩:=t.pre;exact⟨r++q,by rw[e',e,append_assoc]⟩
 ·rcases t.fre a h with z|z
  ·exact s.fre a z
  ·by_cases n:a∈ρ.c
   ·exact .inl n
   ·cases e:H a with
    |none=>exact .inr rfl
    |some o=>rw[s.frm a o e n] at z;cases z
 ·obtain⟨o1,h1,k1⟩:=s.kd a o h
  obtain⟨o2,h2,k2⟩:=t.kd a o1 h1;exact⟨o2,h2,k2.trans k1⟩
theorem Stp.same(s:Same H H'):Stp ρ H ρ H':=⟨⟨[],(append_nil _).symm⟩,rfl,λa o h _=>s a o h,λ_ h=>.inl h,λa o h=>⟨o,s a o h,rfl⟩⟩
theorem Rd.stp{a:Addr}{u:HO}(s:Stp ρ H ρ' H')(h:Rd H a u)(n : ¬ρ.mem a):Rd H' a u/\¬ρ'.mem a:=by
 rcases h with h|⟨o,h⟩
 ·exact⟨.inl (s.frm _ _ h λz=>n (.inl z)),s.nin h n⟩
 ·exact⟨.inr ⟨o,s.frm _ _ h λz=>n (.inl z)⟩,s.nin h n⟩
theorem FzL.mono{a:Addr}{xs:List V}(s:Stp ρ H ρ' H')(h:FzL K ρ H a xs):FzL K ρ' H' a xs:=h.elim (λz=>.inl (Rd.stp s z.1 z.2)) .inr
theorem FzT.mono{a:Addr}{xs:List V}(s:Stp ρ H ρ' H')(h:FzT K ρ H a xs):FzT K ρ' H' a xs:=h.elim (λz=>.inl (Rd.stp s z.1 z.2)) .inr
mutual
theorem RelD.mono(s:Stp ρ H ρ' H'):∀{v:V} {d:PyData},RelD K ρ H v d->RelD K ρ' H' v d
 |_,_,.non=>.non
 |_,_,.bl b=>.bl b
 |_,_,.int i=>.int i
 |_,_,.str x=>.str x
 |_,_,.tup h hl=>.tup (h.mono s) (RelDL.mono s hl)
 |_,_,.lst h n hl=>.lst (s.frm _ _ h λz=>n (.inl z)) (s.nin h n) (RelDL.mono s hl)
 |_,_,.dct h n=>.dct (s.frm _ _ h λz=>n (.inl z)) (s.nin h n)
theorem RelDL.mono(s:Stp ρ H ρ' H'):∀{vs:List V} {ds:List PyData},RelDL K ρ H vs ds->RelDL K ρ' H' vs ds
 |_,_,.nil=>.nil
 |_,_,.cons h hl=>.cons (RelD.mono s h) (RelDL.mono s hl)
end
theorem ZBu(s:Stp ρ H ρ' H'){a:Addr}{n:Nat}(h : ρ.c[n]? = some a) : ρ'.c[n]? = some a:=by
 obtain⟨r,e⟩:=s.pre;rw[e,getElem?_append_left (List.getElem?_eq_some_iff.mp h).1];exact h
mutual
theorem Rel.mono(s:Stp ρ H ρ' H'):∀{v:V} {x:W},Rel K ρ H v x->Rel K ρ' H' v x
 |_,_,.dat h=>.dat (h.mono s)
 |_,_,.ref h=>.ref (ZBu s h)
 |_,_,.inp h=>.inp (h.mono s)
 |_,_,.ty=>.ty
 |_,_,.tup h t=>.tup (h.mono s) (RelL.mono s t)
theorem RelL.mono(s:Stp ρ H ρ' H'):∀{vs:List V} {xs:List W},RelL K ρ H vs xs->RelL K ρ' H' vs xs
 |_,_,.nil=>.nil
 |_,_,.cons h t=>.cons (Rel.mono s h) (RelL.mono s t)
end
theorem RelF.mono(s:Stp ρ H ρ' H'):∀{ns:List Str} {vs:List (Str×V)} {xs:List W},RelF K ρ H ns vs xs->RelF K ρ' H' ns vs xs
 |_,_,_,.nil=>.nil
 |_,_,_,.cons h t=>.cons (h.mono s) (t.mono s)
theorem RelK.mono(s:Stp ρ H ρ' H'):∀{vs:List (Key×V)} {xs:List (Key×W)},RelK K ρ H vs xs->RelK K ρ' H' vs xs
 |_,_,.nil=>.nil
 |_,_,.cons h t=>.cons (h.mono s) (t.mono s)
theorem FzL.less{a:Addr}{xs:List V}(s:∀a,ρ'.mem a->ρ.mem a)(h:FzL K ρ H a xs):FzL K ρ' H a xs:=h.elim (λz=>.inl ⟨z.1,λq=>z.2 (s _ q)⟩) .inr
theorem FzT.less{a:Addr}{xs:List V}(s:∀a,ρ'.mem a->ρ.mem a)(h:FzT K ρ H a xs):FzT K ρ' H a xs:=h.elim (λz=>.inl ⟨z.1,λq=>z.2 (s _ q)⟩) .inr
mutual
theorem RelD.less(s:∀a,ρ'.mem a->ρ.mem a):∀{v:V} {d:PyData},RelD K ρ H v d->RelD K ρ' H v d
 |_,_,.non=>.non
 |_,_,.bl b=>.bl b
 |_,_,.int i=>.int i
 |_,_,.str x=>.str x
 |_,_,.tup h hl=>.tup (h.less s) (RelDL.less s hl)
 |_,_,.lst h n hl=>.lst h (λz=>n (s _ z)) (RelDL.less s hl)
 |_,_,.dct h n=>.dct h λz=>n (s _ z)
theorem RelDL.less(s:∀a,ρ'.mem a->ρ.mem a):∀{vs:List V} {ds:List PyData},RelDL K ρ H vs ds->RelDL K ρ' H vs ds
 |_,_,.nil=>.nil
 |_,_,.cons h hl=>.cons (RelD.less s h) (RelDL.less s hl)
end
mutual
theorem Rel.less(hc : ρ'.c = ρ.c)(s:∀a,ρ'.mem a->ρ.mem a):∀{v:V} {x:W},Rel K ρ H v x->Rel K ρ' H v x
 |_,_,.dat h=>.dat (h.less s)
 |_,_,.ref h=>.ref (by rw[hc];exact h)
 |_,_,.inp h=>.inp (h.less s)
 |_,_,.ty=>.ty
 |_,_,.tup h t=>.tup (h.less s) (RelL.less hc s t)
theorem RelL.less(hc : ρ'.c = ρ.c)(s:∀a,ρ'.mem a->ρ.mem a):∀{vs:List V} {xs:List W},RelL K ρ H vs xs->RelL K ρ' H vs xs
 |_,_,.nil=>.nil
 |_,_,.cons h t=>.cons (Rel.less hc s h) (RelL.less hc s t)
end
theorem RelF.less(hc : ρ'.c = ρ.c)(s:∀a,ρ'.mem a->ρ.mem a):∀{ns:List Str} {vs:List (Str×V)} {xs:List W},RelF K ρ H ns vs xs->RelF K ρ' H ns vs xs
 |_,_,_,.nil=>.nil
 |_,_,_,.cons h t=>.cons (h.less hc s) (t.less hc s)
theorem RelK.less(hc : ρ'.c = ρ.c)(s:∀a,ρ'.mem a->ρ.mem a):∀{vs:List (Key×V)} {xs:List (Key×W)},RelK K ρ H vs xs->RelK K ρ' H vs xs
 |_,_,.nil=>.nil
 |_,_,.cons h t=>.cons (h.less hc s) (t.less hc s)
theorem RelDL.length:∀{vs:List V} {ds:List PyData},RelDL K ρ H vs ds->vs.length=ds.length
 |_,_,.nil=>rfl
 |_,_,.cons _ h=>by rw[length_cons,length_cons,h.length]
theorem RelDL.getD:∀{vs:List V} {ds:List PyData} {i:Nat} {d:PyData},RelDL K ρ H vs ds->ds[i]? = some d->∃v,vs[i]? = some v/\RelD K ρ H v d
 |_,_,_,_,.nil,h=>by simp at h
 |_,_,0,_,.cons t _,h=>by cases h;exact⟨_,rfl,t⟩
 |_,_,i+1,_,.cons _ t,h=>t.getD (i:=i) (by simpa using h)
theorem RelDL.append:∀{vs us:List V} {ds es:List PyData},RelDL K ρ H vs ds->RelDL K ρ H us es->RelDL K ρ H (vs++us) (ds++es)
 |_,_,_,_,.nil,h=>h
 |_,_,_,_,.cons t r,h=>.cons t (r.append h)
theorem RelDL.set{v:V}{d:PyData}(t:RelD K ρ H v d):∀{vs:List V} {ds:List PyData} (i:Nat),RelDL K ρ H vs ds->RelDL K ρ H (vs.set i v) (ds.set i d)
 |_,_,_,.nil=>.nil
 |_,_,0,.cons _ r=>.cons t r
 |_,_,i+1,.cons u r=>.cons u (RelDL.set t i r)
theorem RelDL.take:∀{vs:List V} {ds:List PyData} (n:Nat),RelDL K ρ H vs ds->RelDL K ρ H (vs.take n) (ds.take n)
 |_,_,0,_=>.nil
 |_,_,_+1,.nil=>.nil
 |_,_,n+1,.cons r t=>.cons r (RelDL.take n t)
theorem RelDL.drop:∀{vs:List V} {ds:List PyData} (n:Nat),RelDL K ρ H vs ds->RelDL K ρ H (vs.drop n) (ds.drop n)
 |_,_,0,r=>r
 |_,_,_+1,.nil=>.nil
 |_,_,n+1,.cons _ t=>RelDL.drop n t
theorem RelDL.rep{vs:List V}{ds:List PyData}(t:RelDL K ρ H vs ds):∀k:Nat,RelDL K ρ H (List.replicate k vs).flatten (List.replicate k ds).flatten
 |0=>.nil
 |k+1=>by rw[replicate_succ,replicate_succ,flatten_cons,flatten_cons];exact t.append (t.rep k)
theorem RelDL.ints{ns:List Int}:∀{vs:List V},RelDL K ρ H vs (ns.map .int)->vs=ns.map V.int:=by
 induction ns with
 |nil=>intro vs t;cases t;rfl
 |cons n r ih =>
  intro vs t;cases t with
  |cons h t=>cases h;rw[ih t];rfl
theorem RelDL.ofInts:∀{ns:List Int},RelDL K ρ H (ns.map V.int) (ns.map .int)
 |[]=>.nil
 |n::ns=>.cons (.int n) RelDL.ofInts
theorem RelL.length:∀{vs:List V} {ws:List W},RelL K ρ H vs ws->vs.length=ws.length
 |_,_,.nil=>rfl
 |_,_,.cons _ h=>by rw[length_cons,length_cons,h.length]
theorem RelL.append:∀{vs us:List V} {ds es:List W},RelL K ρ H vs ds->RelL K ρ H us es->RelL K ρ H (vs++us) (ds++es)
 |_,_,_,_,.nil,h=>h
 |_,_,_,_,.cons t r,h=>.cons t (r.append h)
theorem RelL.set{v:V}{d:W}(t:Rel K ρ H v d):∀{vs:List V} {ds:List W} (i:Nat),RelL K ρ H vs ds->RelL K ρ H (vs.set i v) (ds.set i d)
 |_,_,_,.nil=>.nil
 |_,_,0,.cons _ r=>.cons t r
 |_,_,i+1,.cons u r=>.cons u (RelL.set t i r)
theorem RelL.getD:∀{vs:List V} {ds:List W} {i:Nat} {d:W},RelL K ρ H vs ds->ds[i]? = some d->∃v,vs[i]? = some v/\Rel K ρ H v d
 |_,_,_,_,.nil,h=>by simp at h
 |_,_,0,_,.cons t _,h=>by cases h;exact⟨_,rfl,t⟩
 |_,_,i+1,_,.cons _ t,h=>t.getD (i:=i) (by simpa using h)
theorem Zp.mono(s:Stp ρ H ρ' H'){a:Addr}{c:Cell}(e:H' a=H a)(h:Zp K ρ H a c):Zp K ρ' H' a c:=by
 cases c with
 |pl ds=>obtain⟨vs,h1,h2⟩:=h;exact⟨vs,by rw[e];exact h1,h2.mono s⟩
 |rl ws=>obtain⟨vs,h1,h2⟩:=h;exact⟨vs,by rw[e];exact h1,h2.mono s⟩
 |dk ws=>obtain⟨vs,h1,h2⟩:=h;exact⟨vs,by rw[e];exact h1,h2.mono s⟩
 |ob c fs=>obtain⟨C,dx,vs,h0,h1,h2⟩:=h;exact⟨C,dx,vs,h0,by rw[e];exact h1,h2.mono s⟩
theorem Zp.less(hc : ρ'.c = ρ.c)(s:∀a,ρ'.mem a->ρ.mem a){a:Addr}{c:Cell}(h:Zp K ρ H a c):Zp K ρ' H a c:=by
 cases c with
 |pl ds=>obtain⟨vs,h1,h2⟩:=h;exact⟨vs,h1,h2.less s⟩
 |rl ws=>obtain⟨vs,h1,h2⟩:=h;exact⟨vs,h1,h2.less hc s⟩
 |dk ws=>obtain⟨vs,h1,h2⟩:=h;exact⟨vs,h1,h2.less hc s⟩
 |ob c fs=>obtain⟨C,dx,vs,h0,h1,h2⟩:=h;exact⟨C,dx,vs,h0,h1,h2.less hc s⟩
theorem Zp.has{a:Addr}{c:Cell}(h:Zp K ρ H a c):∃o,H a=some o:=by
 cases c with
 |pl ds=>obtain⟨vs,h1,h2⟩:=h;exact⟨_,h1⟩
 |rl ws=>obtain⟨vs,h1,h2⟩:=h;exact⟨_,h1⟩
 |dk ws=>obtain⟨vs,h1,h2⟩:=h;exact⟨_,h1⟩
 |ob c fs=>obtain⟨C,dx,vs,h0,h1,h2⟩:=h;exact⟨_,h1⟩
structure HR (K:PySem.W.Frag) (ρ : Rh) (H:Hp) (g:G):Prop where
 len : ρ.c.length=g.length
 nd : ρ.c.Nodup
 ce:∀(n:Nat) (c:Cell),g[n]? = some c->∃a,ρ.c[n]? = some a/\Zp K ρ H a c
 hid:∀a∈ρ.h,a∉ρ.c/\∃o,H a=some o
theorem HR.at_{g:G}(h:HR K ρ H g):∀(n:Nat) (ds:List PyData),g[n]? = some (.pl ds)->∃a vs,ρ.c[n]? = some a/\H a=some (.lst vs)/\RelDL K ρ H vs ds:=λn ds e=>by
 obtain⟨a,h1,vs,h2,h3⟩:=h.ce n _ e;exact⟨a,vs,h1,h2,h3⟩
theorem HR.has{g:G}(h:HR K ρ H g){a:Addr}(ha:a∈ρ.c):∃o,H a=some o:=by
 obtain⟨n,hn⟩:=List.mem_iff_getElem?.mp ha;have hl:=(List.getElem?_eq_some_iff.mp hn).1;rw[h.len] at hl;obtain⟨a',e,hv⟩:=h.ce n _ (getElem?_eq_getElem hl);rw[hn] at e;cases e;exact hv.has
theorem HR.nin{g:G}(h:HR K ρ H g){p:Addr}(hp:H p=none) : ¬ρ.mem p:=λz=>by
 rcases z with z|z
 ·obtain⟨vs,e⟩:=h.has z
  rw[hp] at e;cases e
 ·obtain⟨_,o,e⟩:=h.hid _ z
  rw[hp] at e;cases e
theorem HR.same{g:G}(s:Same H H')(h:HR K ρ H g):HR K ρ H' g:=⟨h.len,h.nd,λn ds e=>by
 obtain⟨a,h1,h2⟩:=h.ce n ds e;obtain⟨o,h3⟩:=h2.has;exact⟨a,h1,h2.mono (Stp.same s) (by rw[h3];exact s _ _ h3)⟩,λa z=>by
 obtain⟨h1,o,e⟩:=h.hid a z;exact⟨h1,o,s _ _ e⟩⟩
def Rh.add(ρ : Rh)(p:Addr):Rh:=⟨ρ.c++[p],ρ.h⟩
theorem HR.allocC{g:G}(h:HR K ρ H g){p:Addr}(hp:H p=none){o:HO}{c:Cell}(t:Stp ρ H (ρ.add p) (upd H p o)->Zp K (ρ.add p) (upd H p o) p c):HR K (ρ.add p) (upd H p o) (g++[c])/\Stp ρ H (ρ.add p) (upd H p o):=by
 have s:Stp ρ H (ρ.add p) (upd H p o):=⟨⟨[p],rfl⟩,rfl,λa o e _=>by rw[ZE (ZH e hp)];exact e,λa z=>by
  rcases List.mem_append.mp z with z|z
  ·exact .inl z
  ·rw[List.mem_singleton.mp z];exact .inr hp,λa u e=>⟨u,by rw[ZE (ZH e hp)];exact e,rfl⟩⟩
 refine⟨⟨by show(ρ.c++[p]).length=_;rw[length_append,length_append,h.len];rfl,?_,λn d e=>?_,λa z=>?_⟩,s⟩
 ·show(ρ.c++[p]).Nodup
  rw[List.nodup_append];refine⟨h.nd,by simp,λa ha b hb=>?_⟩;rw[List.mem_singleton.mp hb];intro z;rw[z] at ha;exact h.nin hp (.inl ha)
 ·show ∃a,(ρ.c++[p])[n]? = some a/\_
  by_cases hn:n<g.length
  ·rw[getElem?_append_left hn] at e
   obtain⟨a,h1,h2⟩:=h.ce n d e;obtain⟨u,h3⟩:=h2.has;exact⟨a,by rw[getElem?_append_left (by rw[h.len];exact hn)];exact h1,h2.mono s (ZE (ZH h3 hp))⟩
  ·have hl:n<(g++[c]).length:=(List.getElem?_eq_some_iff.mp e).1
   have hn':n=g.length:=by rw[length_append] at hl;simp at hl;omega
   rw[hn',getElem?_append_right (le_refl _)] at e;simp at e;subst e;refine⟨p,?_,t s⟩;rw[hn',←h.len,getElem?_append_right (le_refl _)];simp
 ·obtain⟨h1,u,e⟩:=h.hid a z
  refine⟨λq=>?_,u,by rw[ZE (ZH e hp)];exact e⟩;rcases List.mem_append.mp q with q|q
  ·exact h1 q
  ·rw[List.mem_singleton.mp q] at e;rw[e] at hp;cases hp
theorem HR.alloc{g:G}(h:HR K ρ H g){p:Addr}(hp:H p=none){vs:List V}{ds:List PyData}(t:RelDL K ρ H vs ds):HR K (ρ.add p) (upd H p (.lst vs)) (g++[.pl ds])/\Stp ρ H (ρ.add p) (upd H p (.lst vs)):=h.allocC hp λs=>⟨vs,ZI,t.mono s⟩
theorem HR.writeC{g:G}(h:HR K ρ H g){n:Nat}{a:Addr}(ha : ρ.c[n]? = some a){o:HO}{c:Cell}(hk:∀u,H a=some u->kdO o=kdO u)(t:Stp ρ H ρ (upd H a o)->Zp K ρ (upd H a o) a c):HR K ρ (upd H a o) (g.set n c)/\Stp ρ H ρ (upd H a o):=by
 have hm:a∈ρ.c:=mem_of_getElem? ha;have s:Stp ρ H ρ (upd H a o):=⟨⟨[],(append_nil _).symm⟩,rfl,λb o e nb=>by rw[ZE (λz=>nb (by rw[z];exact hm))];exact e,λ_ z=>.inl z,λb u e=>by
  by_cases q:b=a
  ·subst q;exact⟨o,ZI,hk u e⟩
  ·exact⟨u,by rw[ZE q];exact e,rfl⟩⟩
 refine⟨⟨by rw[length_set,h.len],h.nd,λm d e=>?_,λb z=>?_⟩,s⟩
 ·by_cases hnm:n=m
  ·subst hnm
   have hl:n<g.length:=by have:=(List.getElem?_eq_some_iff.mp e).1;rw[length_set] at this;exact this
   rw[getElem?_set_self hl] at e;cases e;exact⟨a,ha,t s⟩
  ·rw[getElem?_set_ne hnm] at e
   obtain⟨b,h1,h2⟩:=h.ce m d e;have:b≠a:=λz=>by
    rw[z] at h1;have l1:=(List.getElem?_eq_some_iff.mp h1).1;have e1:=(List.getElem?_eq_some_iff.mp h1).2;have l2:=(List.getElem?_eq_some_iff.mp ha).1;have e2:=(List.getElem?_eq_some_iff.mp ha).2;rcases Nat.lt_or_gt_of_ne hnm with q|q
    ·exact(List.pairwise_iff_getElem.mp h.nd n m l2 l1 q) (by rw[e1,e2])
    ·exact(List.pairwise_iff_getElem.mp h.nd m n l1 l2 q) (by rw[e1,e2])
   exact⟨b,h1,h2.mono s (ZE this)⟩
 ·obtain⟨h1,u,e⟩:=h.hid b z
  exact⟨h1,u,by rw[ZE (λq=>h1 (by rw[q];exact hm))];exact e⟩
theorem HR.write{g:G}(h:HR K ρ H g){n:Nat}{a:Addr}(ha : ρ.c[n]? = some a){us:List V}(hl:H a=some (.lst us)){vs:List V}{ds:List PyData}(t:RelDL K ρ H vs ds):HR K ρ (upd H a (.lst vs)) (g.set n (.pl ds))/\Stp ρ H ρ (upd H a (.lst vs)):=h.writeC ha (λu e=>by rw[hl] at e;cases e;rfl) λs=>⟨vs,ZI,t.mono s⟩
theorem Zy{g:G}(h:HR K ρ H g){p:Addr}{o:HO}(hp:H p=none):Same H (upd H p o)/\HR K ρ (upd H p o) g/\¬ρ.mem p:=⟨H1.Same.upd hp,h.same (H1.Same.upd hp),h.nin hp⟩
def Rh.hide(ρ : Rh)(p:Addr):Rh:=⟨ρ.c,p::ρ.h⟩
theorem FzL.hide{a p:Addr}{xs:List V}(hp:H p=none)(h:FzL K ρ H a xs):FzL K (ρ.hide p) (upd H p o) a xs:=by
 rcases h with ⟨h,n⟩|h
 ·have hn:a≠p:=by
   rcases h with h|⟨_,h⟩ <;> exact ZH h hp
  refine .inl ⟨?_,λz=>z.elim (λq=>n (.inl q)) λq=>(List.mem_cons.mp q).elim hn λq=>n (.inr q)⟩;unfold Rd;rw[ZE hn];exact h
 ·exact .inr h
theorem FzT.hide{a p:Addr}{xs:List V}(hp:H p=none)(h:FzT K ρ H a xs):FzT K (ρ.hide p) (upd H p o) a xs:=by
 rcases h with ⟨h,n⟩|h
 ·have hn:a≠p:=by
   rcases h with h|⟨_,h⟩ <;> exact ZH h hp
  refine .inl ⟨?_,λz=>z.elim (λq=>n (.inl q)) λq=>(List.mem_cons.mp q).elim hn λq=>n (.inr q)⟩;unfold Rd;rw[ZE hn];exact h
 ·exact .inr h
mutual
theorem RelD.hide{p:Addr}{o:HO}(hp:H p=none):∀{v:V} {d:PyData},RelD K ρ H v d->RelD K (ρ.hide p) (upd H p o) v d
 |_,_,.non=>.non
 |_,_,.bl b=>.bl b
 |_,_,.int i=>.int i
 |_,_,.str x=>.str x
 |_,_,.tup h hl=>.tup (h.hide hp) (RelDL.hide hp hl)
 |_,_,.lst h n hl=>.lst (by rw[ZE (ZH h hp)];exact h) (λz=>z.elim (λq=>n (.inl q)) λq=>(List.mem_cons.mp q).elim (ZH h hp) λq=>n (.inr q)) (RelDL.hide hp hl)
 |_,_,.dct h n=>.dct (by rw[ZE (ZH h hp)];exact h) λz=>z.elim (λq=>n (.inl q)) λq=>(List.mem_cons.mp q).elim (ZH h hp) λq=>n (.inr q)
theorem RelDL.hide{p:Addr}{o:HO}(hp:H p=none):∀{vs:List V} {ds:List PyData},RelDL K ρ H vs ds->RelDL K (ρ.hide p) (upd H p o) vs ds
 |_,_,.nil=>.nil
 |_,_,.cons h hl=>.cons (RelD.hide hp h) (RelDL.hide hp hl)
end
mutual
theorem Rel.hide{p:Addr}{o:HO}(hp:H p=none):∀{v:V} {x:W},Rel K ρ H v x->Rel K (ρ.hide p) (upd H p o) v x
 |_,_,.dat h=>.dat (h.hide hp)
 |_,_,.ref h=>.ref h
 |_,_,.inp h=>.inp (h.hide hp)
 |_,_,.ty=>.ty
 |_,_,.tup h t=>.tup (h.hide hp) (RelL.hide hp t)
theorem RelL.hide{p:Addr}{o:HO}(hp:H p=none):∀{vs:List V} {xs:List W},RelL K ρ H vs xs->RelL K (ρ.hide p) (upd H p o) vs xs
 |_,_,.nil=>.nil
 |_,_,.cons h t=>.cons (Rel.hide hp h) (RelL.hide hp t)
end
theorem RelF.hide{p:Addr}{o:HO}(hp:H p=none):∀{ns:List Str} {vs:List (Str×V)} {xs:List W},RelF K ρ H ns vs xs->RelF K (ρ.hide p) (upd H p o) ns vs xs
 |_,_,_,.nil=>.nil
 |_,_,_,.cons h t=>.cons (h.hide hp) (t.hide hp)
theorem RelK.hide{p:Addr}{o:HO}(hp:H p=none):∀{vs:List (Key×V)} {xs:List (Key×W)},RelK K ρ H vs xs->RelK K (ρ.hide p) (upd H p o) vs xs
 |_,_,.nil=>.nil
 |_,_,.cons h t=>.cons (h.hide hp) (t.hide hp)
theorem Zp.hide{p:Addr}{o:HO}(hp:H p=none){a:Addr}{c:Cell}(h:Zp K ρ H a c):Zp K (ρ.hide p) (upd H p o) a c:=by
 obtain⟨u,hu⟩:=h.has;have e:upd H p o a=H a:=ZE (ZH hu hp);cases c with
 |pl ds=>obtain⟨vs,h1,h2⟩:=h;exact⟨vs,by rw[e];exact h1,h2.hide hp⟩
 |rl ws=>obtain⟨vs,h1,h2⟩:=h;exact⟨vs,by rw[e];exact h1,h2.hide hp⟩
 |dk ws=>obtain⟨vs,h1,h2⟩:=h;exact⟨vs,by rw[e];exact h1,h2.hide hp⟩
 |ob c fs=>obtain⟨C,dx,vs,h0,h1,h2⟩:=h;exact⟨C,dx,vs,h0,by rw[e];exact h1,h2.hide hp⟩
theorem HR.hide{g:G}{p:Addr}{o:HO}(hp:H p=none)(h:HR K ρ H g):HR K (ρ.hide p) (upd H p o) g:=⟨h.len,h.nd,λn ds e=>by
 obtain⟨a,h1,h2⟩:=h.ce n ds e;exact⟨a,h1,h2.hide hp⟩,λa z=>by
 rcases List.mem_cons.mp z with rfl|z
 ·exact⟨λq=>h.nin hp (.inl q),o,ZI⟩
 ·obtain⟨h1,u,e⟩:=h.hid a z
  exact⟨h1,u,by rw[ZE (ZH e hp)];exact e⟩⟩
theorem FzL.grow{a p:Addr}{xs:List V}(hp:p∈ρ.h)(h:FzL K ρ H a xs):FzL K ρ (upd H p o) a xs:=by
 rcases h with ⟨h,n⟩|h
 ·refine .inl ⟨?_,n⟩
  unfold Rd;rw[ZE λz=>n (.inr (by rw[z];exact hp))];exact h
 ·exact .inr h
theorem FzT.grow{a p:Addr}{xs:List V}(hp:p∈ρ.h)(h:FzT K ρ H a xs):FzT K ρ (upd H p o) a xs:=by
 rcases h with ⟨h,n⟩|h
 ·refine .inl ⟨?_,n⟩
  unfold Rd;rw[ZE λz=>n (.inr (by rw[z];exact hp))];exact h
 ·exact .inr h
mutual
theorem RelD.grow{p:Addr}{o:HO}(hp:p∈ρ.h):∀{v:V} {d:PyData},RelD K ρ H v d->RelD K ρ (upd H p o) v d
 |_,_,.non=>.non
 |_,_,.bl b=>.bl b
 |_,_,.int i=>.int i
 |_,_,.str x=>.str x
 |_,_,.tup h hl=>.tup (h.grow hp) (RelDL.grow hp hl)
 |_,_,.lst h n hl=>.lst (by rw[ZE λz=>n (.inr (by rw[z];exact hp))];exact h) n (RelDL.grow hp hl)
 |_,_,.dct h n=>.dct (by rw[ZE λz=>n (.inr (by rw[z];exact hp))];exact h) n
theorem RelDL.grow{p:Addr}{o:HO}(hp:p∈ρ.h):∀{vs:List V} {ds:List PyData},RelDL K ρ H vs ds->RelDL K ρ (upd H p o) vs ds
 |_,_,.nil=>.nil
 |_,_,.cons h hl=>.cons (RelD.grow hp h) (RelDL.grow hp hl)
end
mutual
theorem Rel.grow{p:Addr}{o:HO}(hp:p∈ρ.h):∀{v:V} {x:W},Rel K ρ H v x->Rel K ρ (upd H p o) v x
 |_,_,.dat h=>.dat (h.grow hp)
 |_,_,.ref h=>.ref h
 |_,_,.inp h=>.inp (h.grow hp)
 |_,_,.ty=>.ty
 |_,_,.tup h t=>.tup (h.grow hp) (RelL.grow hp t)
theorem RelL.grow{p:Addr}{o:HO}(hp:p∈ρ.h):∀{vs:List V} {xs:List W},RelL K ρ H vs xs->RelL K ρ (upd H p o) vs xs
 |_,_,.nil=>.nil
 |_,_,.cons h t=>.cons (Rel.grow hp h) (RelL.grow hp t)
end
theorem RelF.grow{p:Addr}{o:HO}(hp:p∈ρ.h):∀{ns:List Str} {vs:List (Str×V)} {xs:List W},RelF K ρ H ns vs xs->RelF K ρ (upd H p o) ns vs xs
 |_,_,_,.nil=>.nil
 |_,_,_,.cons h t=>.cons (h.grow hp) (t.grow hp)
theorem RelK.grow{p:Addr}{o:HO}(hp:p∈ρ.h):∀{vs:List (Key×V)} {xs:List (Key×W)},RelK K ρ H vs xs->RelK K ρ (upd H p o) vs xs
 |_,_,.nil=>.nil
 |_,_,.cons h t=>.cons (h.grow hp) (t.grow hp)
theorem HR.grow{g:G}{p:Addr}{o:HO}(hp:p∈ρ.h)(h:HR K ρ H g):HR K ρ (upd H p o) g:=⟨h.len,h.nd,λn ds e=>by
 obtain⟨a,h1,h2⟩:=h.ce n ds e;have eh:upd H p o a=H a:=ZE λz=>(h.hid p hp).1 (by rw[←z];exact mem_of_getElem? h1)
 refine⟨a,h1,?_⟩;cases ds with
 |pl ds=>obtain⟨vs,h1,h2⟩:=h2;exact⟨vs,by rw[eh];exact h1,h2.grow hp⟩
 |rl ws=>obtain⟨vs,h1,h2⟩:=h2;exact⟨vs,by rw[eh];exact h1,h2.grow hp⟩
 |dk ws=>obtain⟨vs,h1,h2⟩:=h2;exact⟨vs,by rw[eh];exact h1,h2.grow hp⟩
 |ob c fs=>obtain⟨C,dx,vs,h0,h1,h2⟩:=h2;exact⟨C,dx,vs,h0,by rw[eh];exact h1,h2.grow hp⟩,λa z=>by
 obtain⟨h1,u,e⟩:=h.hid a z
 by_cases q:a=p
 ·subst q;exact⟨h1,o,ZI⟩
 ·exact⟨h1,u,by rw[ZE q];exact e⟩⟩
theorem HR.shown{g:G}{p:Addr}(h:HR K (ρ.hide p) H g):HR K ρ H g:=⟨h.len,h.nd,λn ds e=>by
 obtain⟨a,h1,h2⟩:=h.ce n ds e;exact⟨a,h1,h2.less (ρ':=ρ) (ρ:=ρ.hide p) rfl (λ_ z=>z.elim .inl λq=>.inr (mem_cons_of_mem _ q))⟩,λa z=>h.hid a (mem_cons_of_mem _ z)⟩
end
structure Rst (K:PySem.W.Frag) (ρ : Rh) (H:Hp) (σ : St) (sd:Sd) (g:G):Prop where
 len : σ.length=sd.length
 env:∀(i:Nat) (x:W),sd[i]? = some (some x)->∃v,σ[i]? = some (some v)/\Rel K ρ H v x
 hr:HR K ρ H g
theorem Rst.step{K:PySem.W.Frag}{ρ ρ':Rh}{H H':Hp}{σ : St}{sd:Sd}{g g':G}(r:Rst K ρ H σ sd g)(s:Stp ρ H ρ' H')(h:HR K ρ' H' g'):Rst K ρ' H' σ sd g':=⟨r.len,λi x e=>by
 obtain⟨v,h1,h2⟩:=r.env i x e;exact⟨v,h1,h2.mono s⟩,h⟩
theorem Rst.set{K:PySem.W.Frag}{ρ : Rh}{H:Hp}{σ : St}{sd:Sd}{g:G}(r:Rst K ρ H σ sd g){v:V}{x:W}(t:Rel K ρ H v x)(i:Nat):Rst K ρ H (σ.set i (some v)) (sd.set i (some x)) g:=⟨by rw[length_set,length_set,r.len],λj y e=>by
 by_cases hj:i=j
 ·subst hj
  have hl:i<sd.length:=by have:=(List.getElem?_eq_some_iff.mp e).1;rw[length_set] at this;exact this
  rw[getElem?_set_self hl] at e;cases e;exact⟨v,by rw[getElem?_set_self (by rw[r.len];exact hl)],t⟩
 ·rw[getElem?_set_ne hj] at e
  obtain⟨u,h1,h2⟩:=r.env j y e;exact⟨u,by rw[getElem?_set_ne hj];exact h1,h2⟩,r.hr⟩
abbrev DE:=Sd->G->Option (W×G)
abbrev DB:=Sd->G->Option (Bool×G)
abbrev DA:=Sd->G->Option (List W×G)
def Pv(K:PySem.W.Frag)(ρ : Rh)(H:Hp)(x:W)(g:G)(Q:VK):Prop:=∀v H' ρ',Stp ρ H ρ' H'->HR K ρ' H' g->Rel K ρ' H' v x->Q v H'
theorem Pv.step{K:PySem.W.Frag}{ρ ρ':Rh}{H H':Hp}{x:W}{g:G}{Q:VK}(p:Pv K ρ H x g Q)(s:Stp ρ H ρ' H'):Pv K ρ' H' x g Q:=λv H2 ρ2 s2 h r=>p v H2 ρ2 (s.trans s2) h r
def tE(K:PySem.W.Frag)(d:DE):TE:=λσ H Q=>∃ρ sd g x g',Rst K ρ H σ sd g/\d sd g=some (x,g')/\Pv K ρ H x g' Q
def tT(K:PySem.W.Frag)(d:DB):TT:=λσ H Q=>∃ρ sd g b g',Rst K ρ H σ sd g/\d sd g=some (b,g')/\∀H' ρ',Stp ρ H ρ' H'->HR K ρ' H' g'->Q b H'
def tA(K:PySem.W.Frag)(d:DA):TA:=λσ H Q=>∃ρ sd g xs g',Rst K ρ H σ sd g/\d sd g=some (xs,g')/\∀vs H' ρ',Stp ρ H ρ' H'->HR K ρ' H' g'->RelL K ρ' H' vs xs->Q vs H'
theorem PE.imp{X:Cx}{e:Expr}{t u:TE}(h:PE X e t)(k:∀σ H Q,u σ H Q->t σ H Q):PE X e u:=λpins s σ H Q I q=>h pins s σ H Q I (k σ H Q q)
theorem PT.imp{X:Cx}{e:Expr}{t u:TT}(h:PT X e t)(k:∀σ H Q,u σ H Q->t σ H Q):PT X e u:=λpins s σ H Q I q=>h pins s σ H Q I (k σ H Q q)
theorem PW.imp{X:Cx}{e:Expr}{t u:TT}(h:PW X e t)(k:∀σ H Q,u σ H Q->t σ H Q):PW X e u:=λwh pins s σ H Q I q=>h wh pins s σ H Q I (k σ H Q q)
theorem PA.imp{X:Cx}{e:List Expr}{t u:TA}(h:PA X e t)(k:∀σ H Q,u σ H Q->t σ H Q):PA X e u:=λpos pins s σ H Q I q=>h pos pins s σ H Q I (k σ H Q q)
theorem PS.imp{X:Cx}{e:Stmt}{t u:TS}(h:PS X e t)(k:∀D σ H,u D σ H->t D σ H):PS X e u:=λpins s σ H D I q=>h pins s σ H D I (k D σ H q)
theorem PSs.imp{X:Cx}{e:List Stmt}{t u:TS}(h:PSs X e t)(k:∀D σ H,u D σ H->t D σ H):PSs X e u:=λpins s σ H D I q=>h pins s σ H D I (k D σ H q)
theorem OpR.imp{X:Cx}{f:Value->Value->Sem Value}{r r':R2}(h:OpR X f r)(k:∀x y H Q,r' x y H Q->r x y H Q):OpR X f r':=λpins s σ H x y v u Q I rx ry q=>h pins s σ H x y v u Q I rx ry (k x y H Q q)
theorem ZM.imp{X:Cx}{f:Value}{r r':List V->Hp->VK->Prop}(h:ZM X f r)(k:∀xs H Q,r' xs H Q->r xs H Q):ZM X f r':=λpins s σ H xs us Q I rx q=>h pins s σ H xs us Q I rx (k xs H Q q)
def ZB(i:Nat):DE:=λsd g=>match sd.getD i none with|some x=>some (x,g)|none=>none
def dC(d:PyData):DE:=λ_ g=>some (.dat d,g)
def dOp(f:W->W->G->Option (W×G))(da db:DE):DE:=λsd g=>(da sd g).bind λp=>(db sd p.2).bind λq=>f p.1 q.1 q.2
def bW:W×G->Option (Bool×G)
 |(.dat (.bool b),g)=>some (b,g)
 |_=>none
def dB(d:DE):DB:=λsd g=>(d sd g).bind bW
def ZD1(d:DB):DB:=λsd g=>(d sd g).map λp=>(!p.1,p.2)
def ZBq(d e:DB):DB:=λsd g=>(d sd g).bind λp=>if p.1=true then e sd p.2 else some (false,p.2)
def dOr(d e:DB):DB:=λsd g=>(d sd g).bind λp=>if p.1=true then some (true,p.2) else e sd p.2
def ZD:DA:=λ_ g=>some ([],g)
def ZA(d:DE)(a:DA):DA:=λsd g=>(d sd g).bind λp=>(a sd p.2).map λq=>(p.1::q.1,q.2)
def dF(f:List W->G->Option (W×G))(a:DA):DE:=λsd g=>(a sd g).bind λp=>f p.1 p.2
def dats:List W->Option (List PyData)
 |[]=>some []
 |.dat d::r=>(dats r).map λds=>d::ds
 |_::_=>none
def Z5(ws:List W)(g:G):Option (W×G):=(dats ws).bind λds=>if ds.length<=1000 then some (.dat (.tuple ds),g) else none
def ZCX(ws:List W)(g:G):Option (W×G):=(dats ws).bind λds=>if ds.length<=1000 then some (.dat (.list ds),g) else none
def ZCP(ws:List W)(g:G):Option (W×G):=(dats ws).bind λds=>if ds.length<=1000 then some (.ref g.length,g++[.pl ds]) else none
def rOp(K:PySem.W.Frag)(f:W->W->G->Option (W×G)):R2:=λx y H Q=>∃ρ a b g z g',HR K ρ H g/\Rel K ρ H x a/\Rel K ρ H y b/\f a b g=some (z,g')/\Pv K ρ H z g' Q
def rF(K:PySem.W.Frag)(f:List W->G->Option (W×G)):List V->Hp->VK->Prop:=λxs H Q=>∃ρ ws g z g',HR K ρ H g/\RelL K ρ H xs ws/\f ws g=some (z,g')/\Pv K ρ H z g' Q
theorem bnd{α β : Type}{o:Option α}{f : α->Option β}{y : β}(h:o.bind f=some y):∃x,o=some x/\f x=some y:=by
 cases o with
 |none=>cases h
 |some x=>exact⟨x,rfl,h⟩
theorem mp{α β : Type}{o:Option α}{f : α->β}{y : β}(h:o.map f=some y):∃x,o=some x/\f x=y:=by
 cases o with
 |none=>cases h
 |some x=>exact⟨x,rfl,Option.some.inj h⟩
theorem ZDB{K:PySem.W.Frag}{ρ : Rh}{H:Hp}{ws:List W}:∀{vs:List V} {ds:List PyData},RelL K ρ H vs ws->dats ws=some ds->RelDL K ρ H vs ds:=by
 induction ws with
 |nil=>intro vs ds t e;cases t;cases e;exact .nil
 |cons w r ih =>
  intro vs ds t e;cases t with
  |cons h t =>
   cases h with
   |dat h =>
    obtain⟨x,e1,rfl⟩:=mp e;exact .cons h (ih t e1)
   |_=>cases e
section
variable{X:Cx}{a b c e:Expr}{es:List Expr}{da db dc d:DE}{ta tb:DB}{aa:DA}{pos p2:Pos}{f f':W->W->G->Option (W×G)}
theorem ZJ6(i:Nat){x:Str}{pos:Pos}(hN:X.N[i]? = some x:=by rfl)(hv:Vis X.env.scope x:=by first|exact Or.inl rfl|exact Or.inr (Or.inl rfl)|exact Or.inr (Or.inr rfl))(hd:(x == ("__debug__" : Str))=false:=by decide)
  (hcd:(x == ("__classdict__" : Str))=false:=by decide):PE X (.Name x pos) (tE X.K (ZB i)):=(ZKY hN hv hd hcd).imp λσ H Q ⟨ρ,sd,g,y,g',r,e,q⟩=>by
 unfold ZB at e;cases h:sd.getD i none with
 |none=>rw[h] at e;cases e
 |some z =>
  rw[h] at e;cases e;have h':sd[i]? = some (some y):=by
   rw[getD_eq_getElem?_getD] at h;cases k:sd[i]? with
   |none=>rw[k] at h;cases h
   |some w=>rw[k] at h;exact congrArg some h
  obtain⟨v,h1,h2⟩:=r.env i y h';exact⟨v,h1,q v H ρ .refl r.hr h2⟩
theorem ZKL{v:V}{d:PyData}(h:PE X e (tC v))(r:∀ρ H,RelD X.K ρ H v d):PE X e (tE X.K (dC d)):=h.imp λσ H Q ⟨ρ,sd,g,y,g',hr,e,q⟩=>by
 cases e;exact q v H ρ .refl hr.hr (.dat (r ρ H))
theorem ZLP{i j pos}:PE X (.Constant (.int i) j pos) (tE X.K (dC (.int i))):=ZKL ZFk λ_ _=>.int i
theorem de_bl{b j pos}:PE X (.Constant (.bool b) j pos) (tE X.K (dC (.bool b))):=ZKL pe_bl λ_ _=>.bl b
theorem ZLh{x j pos}:PE X (.Constant (.str x) j pos) (tE X.K (dC (.str x))):=ZKL ZKo λ_ _=>.str x
theorem ZFm{σ : St}{H:Hp}{Q:VK}(h:tE X.K (dOp f da db) σ H Q):tOp (rOp X.K f) (tE X.K da) (tE X.K db) σ H Q:=by
 obtain⟨ρ,sd,g,x,g',r,e,q⟩:=h;obtain⟨⟨y,g1⟩,e1,e⟩:=bnd e;obtain⟨⟨z,g2⟩,e2,e⟩:=bnd e;refine⟨ρ,sd,g,y,g1,r,e1,λv H1 ρ1 s1 h1 r1=>⟨ρ1,sd,g1,z,g2,r.step s1 h1,e2,λw H2 ρ2 s2 h2 r2=>?_⟩⟩;exact⟨ρ2,y,z,g2,x,g',h2,r1.mono s2,r2,e,q.step (s1.trans s2)⟩
theorem de_op{op:Operator}(ho:OpR X (binaryOp op) (rOp X.K f))(ha:PE X a (tE X.K da))(hb:PE X b (tE X.K db)):PE X (.BinOp a op b pos) (tE X.K (dOp f da db)):=(ZJs ho ha hb).imp λ_ _ _ h=>ZFm h
theorem ZKW{op:CmpOp}(ho:OpR X (compareOp op) (rOp X.K f))(ha:PE X a (tE X.K da))(hb:PE X b (tE X.K db))(hm:behindInMarks op b=false):PE X (.Compare a [op] [b] pos) (tE X.K (dOp f da db)):=(ZIL ho ha hb hm).imp λ_ _ _ h=>ZFm h
theorem de_ix(ho:IxR X (rOp X.K f))(ha:PE X a (tE X.K da))(hb:PE X b (tE X.K db))(hs:ZB0 b):PE X (.Subscript a b pos) (tE X.K (dOp f da db)):=(ZJ0 ho ha hb hs).imp λ_ _ _ h=>ZFm h
theorem ZFC{K:PySem.W.Frag}{ρ : Rh}{H:Hp}{v:V}{x:W}{g g':G}{k:Bool}(r:Rel K ρ H v x)(h:bW (x,g)=some (k,g')):v=.bl k/\g=g':=by
 cases r with
 |ref _=>cases h
 |inp _=>cases h
 |ty=>cases h
 |tup _ _=>cases h
 |dat r =>
  cases r with
  |bl c=>cases h;exact⟨rfl,rfl⟩
  |_=>cases h
theorem ZGB{σ : St}{H:Hp}{Q:Bool->Hp->Prop}{t:TE}(k:∀σ H Q,tE X.K d σ H Q->t σ H Q)(h:tT X.K (dB d) σ H Q):ZJy t σ H Q:=by
 obtain⟨ρ,sd,g,b,g',r,e,q⟩:=h;obtain⟨⟨y,g1⟩,e1,e⟩:=bnd e;refine k _ _ _ ⟨ρ,sd,g,y,g1,r,e1,λv H1 ρ1 s1 h1 r1=>?_⟩;obtain⟨rfl,rfl⟩:=ZFC r1 e;exact⟨b,rfl,q H1 ρ1 s1 h1⟩
theorem ZKg{op:CmpOp}(ho:OpR X (compareOp op) (rOp X.K f))(ha:PE X a (tE X.K da))(hb:PE X b (tE X.K db))(hm:behindInMarks op b=false):PT X (.Compare a [op] [b] pos) (tT X.K (dB (dOp f da db))):=(ZJK ho ha hb hm).imp λ_ _ _ h=>ZGB (λ_ _ _ h=>ZFm h) h
theorem ZKD(h:PE X e (tE X.K d))(he:∀whole,isTrue e X.env whole=(do let v ←whole;standAt e.pos;holding [v] (truthy v)):=by intro _;rfl):PT X e (tT X.K (dB d)):=(ZKm h he).imp λ_ _ _ h=>ZGB (λ_ _ _ h=>h) h
theorem ZK0(h:PT X a (tT X.K ta)):PT X (.UnaryOp .Not a pos) (tT X.K (ZD1 ta)):=(ZLY h).imp λσ H Q ⟨ρ,sd,g,b,g',r,e,q⟩=>by
 obtain⟨⟨y,g1⟩,e1,e⟩:=mp e;cases e;exact⟨ρ,sd,g,y,g1,r,e1,q⟩
theorem ZIW(h:PT X a (tT X.K ta)):PW X (.BoolOp .And [a] pos) (tT X.K ta):=ZJR h
theorem ZLV(h:PT X a (tT X.K ta)):PW X (.BoolOp .Or [a] pos) (tT X.K ta):=ZKA h
theorem ZKK{rest:List Expr}(ha:PT X a (tT X.K ta))(hb:PW X (.BoolOp .And (b::rest) pos) (tT X.K tb)):PW X (.BoolOp .And (a::b::rest) pos) (tT X.K (ZBq ta tb)):=(ZKR ha hb).imp λσ H Q ⟨ρ,sd,g,b,g',r,e,q⟩=>by
 obtain⟨⟨y,g1⟩,e1,e⟩:=bnd e;refine⟨ρ,sd,g,y,g1,r,e1,λH1 ρ1 s1 h1=>?_⟩;cases y with
 |true=>exact⟨ρ1,sd,g1,b,g',r.step s1 h1,e,λH2 ρ2 s2 h2=>q H2 ρ2 (s1.trans s2) h2⟩
 |false=>cases e;exact q H1 ρ1 s1 h1
theorem dw_or{rest:List Expr}(ha:PT X a (tT X.K ta))(hb:PW X (.BoolOp .Or (b::rest) pos) (tT X.K tb)):PW X (.BoolOp .Or (a::b::rest) pos) (tT X.K (dOr ta tb)):=(pw_or ha hb).imp λσ H Q ⟨ρ,sd,g,b,g',r,e,q⟩=>by
 obtain⟨⟨y,g1⟩,e1,e⟩:=bnd e;refine⟨ρ,sd,g,y,g1,r,e1,λH1 ρ1 s1 h1=>?_⟩;cases y with
 |false=>exact⟨ρ1,sd,g1,b,g',r.step s1 h1,e,λH2 ρ2 s2 h2=>q H2 ρ2 (s1.trans s2) h2⟩
 |true=>cases e;exact q H1 ρ1 s1 h1
def ZAZ(a b:DE):DE:=λsd g=>((a sd g).bind bW).bind λp=>if p.1=true then b sd p.2 else some (.dat (.bool false),p.2)
def ZDw(a:DE):DE:=λsd g=>((a sd g).bind bW).map λp=>(.dat (.bool !p.1),p.2)
theorem ZKT{op}(h:PE X a (tE X.K da)):PE X (.BoolOp op [a] pos) (tE X.K da):=ZLB h
theorem ZKv{rest:List Expr}(ha:PE X a (tE X.K da))(hb:PE X (.BoolOp .And (b::rest) pos) (tE X.K db)):PE X (.BoolOp .And (a::b::rest) pos) (tE X.K (ZAZ da db)):=(ZLK ha hb).imp λσ H Q ⟨ρ,sd,g,x,g',r,e,q⟩=>by
 obtain⟨⟨k,g2⟩,e1,e⟩:=bnd e;obtain⟨⟨y,g1⟩,e1,e2⟩:=bnd e1;refine⟨ρ,sd,g,y,g1,r,e1,λv H1 ρ1 s1 h1 r1=>?_⟩;obtain⟨rfl,rfl⟩:=ZFC r1 e2;refine⟨k,rfl,?_⟩;cases k with
 |true=>exact⟨ρ1,sd,g1,x,g',r.step s1 h1,e,q.step s1⟩
 |false=>cases e;exact q _ H1 ρ1 s1 h1 (.dat (.bl false))
theorem ZKe(ha:PE X a (tE X.K da)):PE X (.UnaryOp .Not a pos) (tE X.K (ZDw da)):=(ZKS ha).imp λσ H Q ⟨ρ,sd,g,x,g',r,e,q⟩=>by
 obtain⟨⟨k,g2⟩,e1,e⟩:=mp e;obtain⟨⟨y,g1⟩,e1,e2⟩:=bnd e1;refine⟨ρ,sd,g,y,g1,r,e1,λv H1 ρ1 s1 h1 r1=>?_⟩;obtain⟨rfl,rfl⟩:=ZFC r1 e2;cases e;exact⟨k,rfl,q _ H1 ρ1 s1 h1 (.dat (.bl _))⟩
theorem ZHf:PA X [] (tA X.K ZD):=ZFd.imp λσ H Q ⟨ρ,sd,g,xs,g',r,e,q⟩=>by
 cases e;exact q [] H ρ .refl r.hr .nil
theorem ZF3(ha:PE X e (tE X.K d))(hr:PA X es (tA X.K aa))(hs:starEach (e::es) X.env=(false,eval e X.env)::starEach es X.env:=by rfl):PA X (e::es) (tA X.K (ZA d aa)):=(ZD8 ha hr hs).imp λσ H Q ⟨ρ,sd,g,xs,g',r,e,q⟩=>by
 obtain⟨⟨y,g1⟩,e1,e⟩:=bnd e;obtain⟨⟨ys,g2⟩,e2,e⟩:=mp e;cases e;exact⟨ρ,sd,g,y,g1,r,e1,λv H1 ρ1 s1 h1 r1=>⟨ρ1,sd,g1,ys,g2,r.step s1 h1,e2,λvs H2 ρ2 s2 h2 r2=>q (v::vs) H2 ρ2 (s1.trans s2) h2 (.cons (r1.mono s2) r2)⟩⟩
theorem ZK9{x1}(h:PA X es (tA X.K aa)):PE X (.Tuple es x1 pos) (tE X.K (dF Z5 aa)):=(ZHi h).imp λσ H Q ⟨ρ,sd,g,x,g',r,e,q⟩=>by
 obtain⟨⟨ws,g1⟩,e1,e⟩:=bnd e;refine⟨ρ,sd,g,ws,g1,r,e1,λvs H1 ρ1 s1 h1 r1=>?_⟩;obtain⟨ds,e2,e⟩:=bnd e;have rd:=ZDB r1 e2
 by_cases hz:ds.length<=1000
 ·simp only[if_pos hz] at e
  cases e;refine⟨by rw[rd.length];exact le_of_lt (ZP hz),λp hp=>?_⟩;obtain⟨sm,hr2,hn⟩:=Zy (o:=.tup vs) h1 hp;exact q _ _ ρ1 (s1.trans (.same sm)) hr2 (.dat (.tup (.inl ⟨.inl ZI,hn⟩) (rd.mono (.same sm))))
 ·simp only[if_neg hz] at e
  cases e
theorem ZKZ(h:PA X es (tA X.K aa)):PE X (.List es pos) (tE X.K (dF ZCX aa)):=(ZFM h).imp λσ H Q ⟨ρ,sd,g,x,g',r,e,q⟩=>by
 obtain⟨⟨ws,g1⟩,e1,e⟩:=bnd e;refine⟨ρ,sd,g,ws,g1,r,e1,λvs H1 ρ1 s1 h1 r1=>?_⟩;obtain⟨ds,e2,e⟩:=bnd e;have rd:=ZDB r1 e2
 by_cases hz:ds.length<=1000
 ·simp only[if_pos hz] at e
  cases e;refine⟨by rw[rd.length];exact le_of_lt (ZP hz),λp hp=>?_⟩;obtain⟨sm,hr2,hn⟩:=Zy (o:=.lst vs) h1 hp;exact q _ _ ρ1 (s1.trans (.same sm)) hr2 (.dat (.lst ZI hn (rd.mono (.same sm))))
 ·simp only[if_neg hz] at e
  cases e
theorem ZIx(h:PA X es (tA X.K aa)):PE X (.List es pos) (tE X.K (dF ZCP aa)):=(ZFM h).imp λσ H Q ⟨ρ,sd,g,x,g',r,e,q⟩=>by
 obtain⟨⟨ws,g1⟩,e1,e⟩:=bnd e;refine⟨ρ,sd,g,ws,g1,r,e1,λvs H1 ρ1 s1 h1 r1=>?_⟩;obtain⟨ds,e2,e⟩:=bnd e;have rd:=ZDB r1 e2
 by_cases hz:ds.length<=1000
 ·simp only[if_pos hz] at e
  cases e;refine⟨by rw[rd.length];exact le_of_lt (ZP hz),λp hp=>?_⟩;obtain⟨hr2,st⟩:=h1.alloc hp rd;exact q _ _ _ (s1.trans st) hr2 (.ref (by show(ρ1.c++[p])[_]? = _;rw[←h1.len];simp))
 ·simp only[if_neg hz] at e
  cases e
theorem ZLz{fn:List W->G->Option (W×G)}{σ : St}{H:Hp}{Q:VK}(h:tE X.K (dF fn aa) σ H Q):tA X.K aa σ H λvs H1=>rF X.K fn vs H1 Q:=by
 obtain⟨ρ,sd,g,x,g',r,e,q⟩:=h;obtain⟨⟨ws,g1⟩,e1,e⟩:=bnd e;exact⟨ρ,sd,g,ws,g1,r,e1,λvs H1 ρ1 s1 h1 r1=>⟨ρ1,ws,g1,x,g',h1,r1,e,q.step s1⟩⟩
end
section
variable{X:Cx}{x:Str}{p pos:Pos}{e:Expr}{es:List Expr}{aa:DA}{id T:String}{fn:List W->G->Option (W×G)}
theorem ZHs(hc:ZM X (.builtin id) (rF X.K fn))(hg:Gl X x)(hm:X.mg x=none)(hv:bootBuiltins x=some (.builtin id))(ha:PA X (e::es) (tA X.K aa))(hn:x≠"__name__":=by decide)(hdb:(x == ("__debug__" : Str))=false:=by decide)
  (he:starEach (e::es) X.env=(false,eval e X.env)::starEach es X.env:=by rfl)(hpl:(backTo pos (starEach es X.env)).any (·.1)=false:=by rfl):PE X (.Call (.Name x p) (e::es) [] pos) (tE X.K (dF fn aa)):=(ZHB hc hg hm hv ha hn hdb he hpl).imp λ_ _ _ h=>ZLz h
theorem ZGT(hc:ZM X (.type T) (rF X.K fn))(hg:Gl X x)(hm:X.mg x=none)(hv:bootBuiltins x=some (.type T))(ha:PA X (e::es) (tA X.K aa))(hn:x≠"__name__":=by decide)(hdb:(x == ("__debug__" : Str))=false:=by decide)
  (he:starEach (e::es) X.env=(false,eval e X.env)::starEach es X.env:=by rfl)(hpl:(backTo pos (starEach es X.env)).any (·.1)=false:=by rfl):PE X (.Call (.Name x p) (e::es) [] pos) (tE X.K (dF fn aa)):=(ZCB hc hg hm hv ha hn hdb he hpl).imp λ_ _ _ h=>ZLz h
def spD(K:PySem.W.Frag)(n:Nat)(fn:List W->G->Option (W×G)):Sp:=λvs H Q _=>vs.length=n/\rF K fn vs H Q
inductive Many:DA->Nat->Prop
 |nil:Many ZD 0
 |cons {d:DE} {a:DA} {n:Nat}:Many a n->Many (ZA d a) (n+1)
theorem Many.len{a:DA}{n:Nat}(m:Many a n):∀{sd:Sd} {g g':G} {ws:List W},a sd g=some (ws,g')->ws.length=n:=by
 induction m with
 |nil=>intro sd g g' ws e;cases e;rfl
 |cons m ih =>
  intro sd g g' ws e;obtain⟨⟨y,g1⟩,e1,e⟩:=bnd e;obtain⟨⟨ys,g2⟩,e2,e⟩:=mp e;cases e;rw[length_cons,ih e2]
theorem ZJC{st:Stmt}{ps:List Str}{f:Addr}{fd:FuncData}{k n:Nat}(D:Def X.K X.mg x st ps f fd)(F:FnOk X.prog X.w X.K X.mg X.base CX0 k f fd ps (spD X.K n fn))(hr:Room k X.A)
  (ha:PA X (e::es) (tA X.K aa))(hm:Many aa n)(hg:Gl X x:=by rfl)(hdb:(x == ("__debug__" : Str))=false:=by decide)(he:starEach (e::es) X.env=(false,eval e X.env)::starEach es X.env:=by rfl)(hpl:(backTo pos (starEach es X.env)).any (·.1)=false:=by rfl) :
  PE X (.Call (.Name x p) (e::es) [] pos) (tE X.K (dF fn aa)):=(pcall D F hr ha hg hdb he hpl).imp λσ H Q h=>by
 obtain⟨ρ,sd,g,x,g',r,e,q⟩:=h;obtain⟨⟨ws,g1⟩,e1,e⟩:=bnd e;refine⟨ρ,sd,g,ws,g1,r,e1,λvs H1 ρ1 s1 h1 r1=>?_⟩;show spD X.K n fn (vs++[]) H1 Q E0;rw[append_nil];exact⟨by rw[r1.length];exact hm.len e1,ρ1,ws,g1,x,g',h1,r1,e,q.step s1⟩
end
mutual
inductive Pat where
 |nm (i:Nat)
 |tp (ps:Pats)
inductive Pats where
 |nil
 |cons (p:Pat) (r:Pats)
end
def Pats.len:Pats->Nat
 |.nil=>0
 |.cons _ r=>r.len+1
mutual
def Pat.all(f:Nat->Bool):Pat->Bool
 |.nm i=>f i
 |.tp ps=>ps.all f
def Pats.all(f:Nat->Bool):Pats->Bool
 |.nil=>true
 |.cons p r=>p.all f && r.all f
end
mutual
def gP(K:PySem.W.Frag):Pat->TG
 |.nm i=>ZEv i
 |.tp ps=>ZL0 K ps.len (gPs K ps)
def gPs(K:PySem.W.Frag):Pats->TGs
 |.nil=>ZLr
 |.cons p r=>ZJ4 (gP K p) (gPs K r)
end
mutual
def ZN:Pat->W->Sd->Option Sd
 |.nm i,x,sd=>some (sd.set i (some x))
 |.tp ps,.dat (.tuple ds),sd=>ZAW ps ds sd
 |.tp ps,.tup ws,sd=>Z3 ps ws sd
 |.tp _,_,_=>none
def Z3:Pats->List W->Sd->Option Sd
 |.nil,[],sd=>some sd
 |.cons p r,d::ds,sd=>(ZN p d sd).bind λsd'=>Z3 r ds sd'
 |_,_,_=>none
def ZAW:Pats->List PyData->Sd->Option Sd
 |.nil,[],sd=>some sd
 |.cons p r,d::ds,sd=>(ZN p (.dat d) sd).bind λsd'=>ZAW r ds sd'
 |_,_,_=>none
end
def ZES(f:Nat->Bool)(σ σ':St):Prop:=σ.length = σ'.length/\∀i,f i=false->σ'[i]? = σ[i]?
theorem ZES.refl{f:Nat->Bool}{σ : St}:ZES f σ σ:=⟨rfl,λ_ _=>rfl⟩
theorem ZES.trans{f:Nat->Bool}{σ σ1 σ2:St}(h:ZES f σ σ1)(k:ZES f σ1 σ2):ZES f σ σ2:=⟨h.1.trans k.1,λi e=>(k.2 i e).trans (h.2 i e)⟩
mutual
theorem ZDv{K:PySem.W.Frag}{ρ : Rh}{H:Hp}{g:G}{f:Nat->Bool}:∀{p:Pat} {x:W} {sd sd':Sd} {σ : St} {v:V} {Q:St->Hp->Prop},p.all f=true->ZN p x sd=some sd'->Rst K ρ H σ sd g->Rel K ρ H v x->(∀σ',Rst K ρ H σ' sd' g->ZES f σ σ'->Q σ' H)->gP K p v σ H Q
 |.nm i,x,sd,sd',σ,v,Q,hf,e,r,rv,q=>by
  rw[ZN] at e;cases e;rw[gP];refine q _ (r.set rv i) ⟨by rw[length_set],λj hj=>?_⟩;have:i≠j:=λz=>by rw[Pat.all,z,hj] at hf;cases hf
  rw[getElem?_set_ne this]
 |.tp ps,x,sd,sd',σ,v,Q,hf,e,r,rv,q=>by
  rw[Pat.all] at hf;cases rv with
  |dat rv =>
   cases rv with
   |tup h hl =>
    rw[ZN] at e;rw[gP];exact⟨_,_,rfl,h.sq,hl.length.trans (ZCh e),ZHk hf e r hl q⟩
   |_=>simp[ZN] at e
  |tup h hl =>
   rw[ZN] at e;rw[gP];exact⟨_,_,rfl,h.sq,hl.length.trans (ZCQ e),ZFn hf e r hl q⟩
  |_=>simp[ZN] at e
theorem ZHk{K:PySem.W.Frag}{ρ : Rh}{H:Hp}{g:G}{f:Nat->Bool}:∀{ps:Pats} {ds:List PyData} {sd sd':Sd} {σ : St} {vs:List V} {Q:St->Hp->Prop},ps.all f=true->ZAW ps ds sd=some sd'->Rst K ρ H σ sd g->RelDL K ρ H vs ds->(∀σ',Rst K ρ H σ' sd' g->ZES f σ σ'->Q σ' H)->gPs K ps vs σ H Q
 |.nil,[],sd,sd',σ,_,Q,hf,e,r,.nil,q=>by
  rw[ZAW] at e;cases e;rw[gPs];exact⟨rfl,q _ r .refl⟩
 |.cons p ps,d::ds,sd,sd',σ,_,Q,hf,e,r,.cons (x:=v) (xs:=vs) h t,q=>by
  rw[ZAW] at e;obtain⟨sd1,e1,e⟩:=bnd e;rw[Pats.all,Bool.and_eq_true] at hf;rw[gPs];exact⟨v,vs,rfl,ZDv hf.1 e1 r (.dat h) λσ1 r1 k1=>ZHk hf.2 e r1 t λσ2 r2 k2=>q σ2 r2 (k1.trans k2)⟩
 |.nil,_::_,_,_,_,_,_,_,e,_,_,_=>by simp[ZAW] at e
 |.cons _ _,[],_,_,_,_,_,_,e,_,_,_=>by simp[ZAW] at e
theorem ZFn{K:PySem.W.Frag}{ρ : Rh}{H:Hp}{g:G}{f:Nat->Bool}:∀{ps:Pats} {ds:List W} {sd sd':Sd} {σ : St} {vs:List V} {Q:St->Hp->Prop},ps.all f=true->Z3 ps ds sd=some sd'->Rst K ρ H σ sd g->RelL K ρ H vs ds->(∀σ',Rst K ρ H σ' sd' g->ZES f σ σ'->Q σ' H)->gPs K ps vs σ H Q
 |.nil,[],sd,sd',σ,_,Q,hf,e,r,.nil,q=>by
  rw[Z3] at e;cases e;rw[gPs];exact⟨rfl,q _ r .refl⟩
 |.cons p ps,d::ds,sd,sd',σ,_,Q,hf,e,r,.cons (v:=v) (vs:=vs) h t,q=>by
  rw[Z3] at e;obtain⟨sd1,e1,e⟩:=bnd e;rw[Pats.all,Bool.and_eq_true] at hf;rw[gPs];exact⟨v,vs,rfl,ZDv hf.1 e1 r h λσ1 r1 k1=>ZFn hf.2 e r1 t λσ2 r2 k2=>q σ2 r2 (k1.trans k2)⟩
 |.nil,_::_,_,_,_,_,_,_,e,_,_,_=>by simp[Z3] at e
 |.cons _ _,[],_,_,_,_,_,_,e,_,_,_=>by simp[Z3] at e
theorem ZCQ:∀{ps:Pats} {ds:List W} {sd sd':Sd},Z3 ps ds sd=some sd'->ds.length=ps.len
 |.nil,[],_,_,_=>rfl
 |.cons p ps,d::ds,sd,sd',e=>by
  rw[Z3] at e;obtain⟨sd1,e1,e⟩:=bnd e;rw[length_cons,ZCQ e,Pats.len]
 |.nil,_::_,_,_,e=>by simp[Z3] at e
 |.cons _ _,[],_,_,e=>by simp[Z3] at e
theorem ZCh:∀{ps:Pats} {ds:List PyData} {sd sd':Sd},ZAW ps ds sd=some sd'->ds.length=ps.len
 |.nil,[],_,_,_=>rfl
 |.cons p ps,d::ds,sd,sd',e=>by
  rw[ZAW] at e;obtain⟨sd1,e1,e⟩:=bnd e;rw[length_cons,ZCh e,Pats.len]
 |.nil,_::_,_,_,e=>by simp[ZAW] at e
 |.cons _ _,[],_,_,e=>by simp[ZAW] at e
end
section
variable{X:Cx}{pos:Pos}
theorem dg_nm{i:Nat}{x:Str}(hN:X.N.Nodup)(hi:X.N[i]? = some x)(hx:Loc X.env.scope x)(hf:X.fn x=true∨X.env.scope.names.lookup x=some .local:=by first|exact .inl rfl|exact .inr rfl|assumption):PG X (.Name x pos) (gP X.K (.nm i)):=by
 rw[gP];exact ZII hN hi hx hf
theorem dg_tp{es:List Expr}{k:Nat}{ps:Pats}(hc:X.calm=true)(h:PGs X es (gPs X.K ps))(hn:(assignEach es X.env).length=ps.len:=by rfl)(hst:(assignEach es X.env).findIdx? (·.1)=none:=by rfl):PG X (.Tuple es k pos) (gP X.K (.tp ps)):=by
 rw[gP];exact ZHl hc h hn hst
theorem ZKM:PGs X [] (gPs X.K .nil):=by
 rw[gPs];exact ZFl
theorem ZIq{e:Expr}{es:List Expr}{p:Pat}{ps:Pats}(h1:PG X e (gP X.K p))(h2:PGs X es (gPs X.K ps))(hs:(assignEach (e::es) X.env).map (·.2)=assign e X.env::(assignEach es X.env).map (·.2):=by rfl):PGs X (e::es) (gPs X.K (.cons p ps)):=by
 rw[gPs];exact ZCg h1 h2 hs
end
inductive Out where
 |nx (sd:Sd) (g:G)
 |rt (x:W) (g:G)
 |bk (sd:Sd) (g:G)
 |ct (sd:Sd) (g:G)
abbrev DS:=Sd->G->Option Out
def ZDq(K:PySem.W.Frag)(ρ : Rh)(H:Hp)(E:Ends):Out->Prop
 |.nx sd g=>∀σ' H' ρ',Stp ρ H ρ' H'->Rst K ρ' H' σ' sd g->E.nx σ' H'
 |.rt x g=>Pv K ρ H x g E.rt
 |.bk sd g=>∀σ' H' ρ',Stp ρ H ρ' H'->Rst K ρ' H' σ' sd g->E.bk σ' H'
 |.ct sd g=>∀σ' H' ρ',Stp ρ H ρ' H'->Rst K ρ' H' σ' sd g->E.ct σ' H'
theorem ZDq.step{K:PySem.W.Frag}{ρ ρ':Rh}{H H':Hp}{E:Ends}{o:Out}(h:ZDq K ρ H E o)(s:Stp ρ H ρ' H'):ZDq K ρ' H' E o:=by
 cases o with
 |nx sd g=>exact λσ2 H2 ρ2 s2 r=>h σ2 H2 ρ2 (s.trans s2) r
 |rt x g=>exact Pv.step h s
 |bk sd g=>exact λσ2 H2 ρ2 s2 r=>h σ2 H2 ρ2 (s.trans s2) r
 |ct sd g=>exact λσ2 H2 ρ2 s2 r=>h σ2 H2 ρ2 (s.trans s2) r
def tS(K:PySem.W.Frag)(d:DS):TS:=λE σ H=>∃ρ sd g o,Rst K ρ H σ sd g/\d sd g=some o/\ZDq K ρ H E o
def dNx:DS:=λsd g=>some (.nx sd g)
def ZL(a b:DS):DS:=λsd g=>(a sd g).bind λo=>match o with|.nx sd' g'=>b sd' g'|o=>some o
def ZU(i:Nat)(d:DE):DS:=λsd g=>(d sd g).bind λp=>some (.nx (sd.set i (some p.1)) p.2)
def ZFU(pt:Pat)(d:DE):DS:=λsd g=>(d sd g).bind λp=>(ZN pt p.1 sd).map λsd'=>.nx sd' p.2
def ZO(d:DE):DS:=λsd g=>(d sd g).map λp=>.rt p.1 p.2
def ZBi(d:DE):DS:=λsd g=>(d sd g).map λp=>.nx sd p.2
def ZAR(c:DB)(a b:DS):DS:=λsd g=>(c sd g).bind λp=>if p.1=true then a sd p.2 else b sd p.2
section
variable{X:Cx}{pos:Pos}{st:Stmt}{rest ss:List Stmt}{a b:DS}{d:DE}{e c:Expr}{tc:DB}
theorem ZIM:PSs X [] (tS X.K dNx):=ZIo.imp λD σ H ⟨ρ,sd,g,o,r,e,q⟩=>by
 cases e;exact q σ H ρ .refl r
theorem ZJa(h:PS X st (tS X.K a)):PSs X [st] (tS X.K a):=ZIe h
theorem ZHt(h1:PS X st (tS X.K a))(h2:PSs X rest (tS X.K b)):PSs X (st::rest) (tS X.K (ZL a b)):=(ZGq h1 h2).imp λD σ H ⟨ρ,sd,g,o,r,e,q⟩=>by
 obtain⟨o1,e1,e⟩:=bnd e;refine⟨ρ,sd,g,o1,r,e1,?_⟩;cases o1 with
 |nx sd1 g1=>exact λσ1 H1 ρ1 s1 r1=>⟨ρ1,sd1,g1,o,r1,e,q.step s1⟩
 |rt x g1=>cases e;exact q
 |bk _ _=>cases e;exact q
 |ct _ _=>cases e;exact q
theorem ZKi{i:Nat}{x:Str}{pos':Pos}(hN:X.N.Nodup)(hi:X.N[i]? = some x)(hx:Loc X.env.scope x)(he:PE X e (tE X.K d))(hs:swapsWith e (some (.Name x pos')) pos.line X.env=pure false:=by rfl)(hf:X.fn x=true∨X.env.scope.names.lookup x=some .local:=by first|exact .inl rfl|exact .inr rfl|assumption) :
  PS X (.Assign [.Name x pos'] e pos) (tS X.K (ZU i d)):=(ZKw hN hi hx he hs hf).imp λD σ H ⟨ρ,sd,g,o,r,e,q⟩=>by
 obtain⟨⟨y,g1⟩,e1,e⟩:=bnd e;cases e;exact⟨ρ,sd,g,y,g1,r,e1,λv H1 ρ1 s1 h1 r1=>q _ H1 ρ1 s1 ((r.step s1 h1).set r1 i)⟩
theorem ZLN{tg:Expr}{pt:Pat}(he:PE X e (tE X.K d))(hg:PG X tg (gP X.K pt))(hs:swapsWithSole [tg] e pos.line X.env=pure false:=by rfl)(hw:swappedStores [tg] e X.env=pure none:=by rfl)
  (h1:(assignEach [tg] X.env).map (·.2)=[assign tg X.env]:=by rfl):PS X (.Assign [tg] e pos) (tS X.K (ZFU pt d)):=(ZFR he hg hs hw h1).imp λD σ H ⟨ρ,sd,g,o,r,e,q⟩=>by
 obtain⟨⟨y,g1⟩,e1,e⟩:=bnd e;obtain⟨sd1,e2,e⟩:=mp e;cases e;refine⟨ρ,sd,g,y,g1,r,e1,λv H1 ρ1 s1 h1 r1=>ZDv (f:=λ_=>true) ?_ e2 (r.step s1 h1) r1 λσ2 r2 _=>q _ H1 ρ1 s1 r2⟩;clear e2 hg;exact Pat.rec (motive_1:=λp=>p.all (λ_=>true)=true) (motive_2:=λp=>p.all (λ_=>true)=true) (λi=>by rw[Pat.all]) (λps h=>by rw[Pat.all];exact h) (by rw[Pats.all]) (λp r h1 h2=>by rw[Pats.all,h1,h2];rfl) pt
theorem ZK3(he:PE X e (tE X.K d)):PS X (.Return (some e) pos) (tS X.K (ZO d)):=(ZKf he).imp λD σ H ⟨ρ,sd,g,o,r,e,q⟩=>by
 obtain⟨⟨y,g1⟩,e1,e⟩:=mp e;cases e;exact⟨ρ,sd,g,y,g1,r,e1,q⟩
theorem ZIl(he:PE X e (tE X.K d))(hs:swapsWith e none pos.line X.env=pure false:=by rfl):PS X (.Expr e pos) (tS X.K (ZBi d)):=(ZIs he hs).imp λD σ H ⟨ρ,sd,g,o,r,e,q⟩=>by
 obtain⟨⟨y,g1⟩,e1,e⟩:=mp e;cases e;exact⟨ρ,sd,g,y,g1,r,e1,λv H1 ρ1 s1 h1 r1=>q σ H1 ρ1 s1 (r.step s1 h1)⟩
theorem ds_if{sa sb:List Stmt}(hc:PT X c (tT X.K tc))(ha:PSs X sa (tS X.K a))(hb:PSs X sb (tS X.K b)):PS X (.If c sa sb pos) (tS X.K (ZAR tc a b)):=(ps_if hc ha hb).imp λD σ H ⟨ρ,sd,g,o,r,e,q⟩=>by
 obtain⟨⟨k,g1⟩,e1,e⟩:=bnd e;refine⟨ρ,sd,g,k,g1,r,e1,λH1 ρ1 s1 h1=>?_⟩;cases k with
 |true=>exact⟨ρ1,sd,g1,o,r.step s1 h1,e,q.step s1⟩
 |false=>exact⟨ρ1,sd,g1,o,r.step s1 h1,e,q.step s1⟩
end
abbrev DI:=Sd->G->Option (List PyData×Option Nat×G)
def Zo(src:Option Nat)(xs:List PyData)(g:G):Prop:=match src with|none=>True|some n=>g[n]? = some (.pl xs)
def lk(g:G)(n:Nat):Option (List PyData):=match g[n]? with|some (.pl ds)=>some ds|_=>none
theorem ZEG{g:G}{n:Nat}{ds:List PyData}(h:lk g n=some ds):g[n]? = some (.pl ds):=by
 unfold lk at h
 split at h
 ·rename_i e;cases h;exact e
 ·cases h
theorem ZCy{g:G}{n:Nat}{ds:List PyData}(h:g[n]? = some (.pl ds)):lk g n=some ds:=by
 unfold lk;rw[h]
def ZAK(n:Nat)(lo:Int):List PyData:=(List.range n).map λ(i:Nat)=>.int (lo+(i:Int))
def ZAb:Nat->List PyData->List PyData
 |_,[]=>[]
 |i,x::r=>.tuple [.int (i:Int),x]::ZAb (i+1) r
def ZA4:List PyData->List PyData->List PyData
 |x::r,y::q=>.tuple [x,y]::ZA4 r q
 |_,_=>[]
theorem ZB3:∀{xs:List PyData} {k i:Nat} {x:PyData},(ZAb k xs)[i]? = some x->∃y,xs[i]? = some y/\x=.tuple [.int ((k+i:Nat):Int),y]
 |[],_,_,_,e=>by simp[ZAb] at e
 |y::r,k,0,x,e=>by
  rw[ZAb] at e;simp at e;exact⟨y,rfl,e.symm⟩
 |y::r,k,i+1,x,e=>by
  rw[ZAb,List.getElem?_cons_succ] at e;obtain⟨z,e1,e2⟩:=ZB3 e;exact⟨z,by simpa using e1,by rw[e2];congr 4;omega⟩
theorem ZBL:∀{xs:List PyData} {k:Nat},(ZAb k xs).length=xs.length
 |[],_=>rfl
 |y::r,k=>by rw[ZAb,length_cons,length_cons,ZBL]
theorem ZBt:∀{xs ys:List PyData} {i:Nat} {x:PyData},(ZA4 xs ys)[i]? = some x->∃y z,xs[i]? = some y/\ys[i]? = some z/\x=.tuple [y,z]
 |[],_,_,_,e=>by simp[ZA4] at e
 |_::_,[],_,_,e=>by simp[ZA4] at e
 |y::r,z::q,0,x,e=>by
  rw[ZA4] at e;simp at e;exact⟨y,z,rfl,rfl,e.symm⟩
 |y::r,z::q,i+1,x,e=>by
  rw[ZA4,List.getElem?_cons_succ] at e;obtain⟨u,v,e1,e2,e3⟩:=ZBt e;exact⟨u,v,by simpa using e1,by simpa using e2,e3⟩
theorem ZBG:∀{xs ys:List PyData},(ZA4 xs ys).length=min xs.length ys.length
 |[],_=>by simp[ZA4]
 |_::_,[]=>by simp[ZA4]
 |y::r,z::q=>by rw[ZA4,length_cons,length_cons,length_cons,ZBG];omega
inductive ItOk (K:PySem.W.Frag) (ρ : Rh) (H:Hp):It->List PyData->Option Nat->Prop
 |list {a:Addr} {vs:List V} {ds:List PyData}:FzL K ρ H a vs->RelDL K ρ H vs ds->ItOk K ρ H (Itl K a) ds none
 |tup {a:Addr} {vs:List V} {ds:List PyData}:FzT K ρ H a vs->RelDL K ρ H vs ds->ItOk K ρ H (Itt K a) ds none
 |cell {a:Addr} {n:Nat} {ds:List PyData} : ρ.c[n]? = some a->ItOk K ρ H (Itl K a) ds (some n)
 |rng {lo:Int} {n:Nat}:ItOk K ρ H (Itr lo n) (ZAK n lo) none
 |enum {a:Addr} {vs:List V} {ds:List PyData}:FzT K ρ H a vs->RelDL K ρ H vs ds->ItOk K ρ H (Ite K a) (ZAb 0 ds) none
 |enuml {a:Addr} {vs:List V} {ds:List PyData}:FzL K ρ H a vs->RelDL K ρ H vs ds->ItOk K ρ H (ZJQ false K a) (ZAb 0 ds) none
 |zip {a b:Addr} {vs us:List V} {ds es:List PyData}:FzT K ρ H a vs->RelDL K ρ H vs ds->FzT K ρ H b us->RelDL K ρ H us es->ItOk K ρ H (Itz K a b) (ZA4 ds es) none
 |zipl {a b:Addr} {vs us:List V} {ds es:List PyData}:FzL K ρ H a vs->RelDL K ρ H vs ds->FzL K ρ H b us->RelDL K ρ H us es->ItOk K ρ H (Itzl K a b) (ZA4 ds es) none
 |zipx {a b:Addr} {vs us:List V} {ds es:List PyData}:FzT K ρ H a vs->RelDL K ρ H vs ds->FzL K ρ H b us->RelDL K ρ H us es->ItOk K ρ H (ZHV true false K a b) (ZA4 ds es) none
section
variable{K:PySem.W.Frag}{ρ ρ':Rh}{H H':Hp}{J:It}{xs:List PyData}{src:Option Nat}
theorem ItOk.mono(s:Stp ρ H ρ' H')(h:ItOk K ρ H J xs src):ItOk K ρ' H' J xs src:=by
 cases h with
 |list f t=>exact .list (f.mono s) (t.mono s)
 |tup f t=>exact .tup (f.mono s) (t.mono s)
 |cell h =>
  obtain⟨r,e⟩:=s.pre;exact .cell (by rw[e,getElem?_append_left (List.getElem?_eq_some_iff.mp h).1];exact h)
 |rng=>exact .rng
 |enum f t=>exact .enum (f.mono s) (t.mono s)
 |enuml f t=>exact .enuml (f.mono s) (t.mono s)
 |zip f t f2 t2=>exact .zip (f.mono s) (t.mono s) (f2.mono s) (t2.mono s)
 |zipl f t f2 t2=>exact .zipl (f.mono s) (t.mono s) (f2.mono s) (t2.mono s)
 |zipx f t f2 t2=>exact .zipx (f.mono s) (t.mono s) (f2.mono s) (t2.mono s)
theorem ItOk.hide{p:Addr}{o:HO}(hp:H p=none)(h:ItOk K ρ H J xs src):ItOk K (ρ.hide p) (upd H p o) J xs src:=by
 cases h with
 |list f t=>exact .list (f.hide hp) (t.hide hp)
 |tup f t=>exact .tup (f.hide hp) (t.hide hp)
 |cell h=>exact .cell h
 |rng=>exact .rng
 |enum f t=>exact .enum (f.hide hp) (t.hide hp)
 |enuml f t=>exact .enuml (f.hide hp) (t.hide hp)
 |zip f t f2 t2=>exact .zip (f.hide hp) (t.hide hp) (f2.hide hp) (t2.hide hp)
 |zipl f t f2 t2=>exact .zipl (f.hide hp) (t.hide hp) (f2.hide hp) (t2.hide hp)
 |zipx f t f2 t2=>exact .zipx (f.hide hp) (t.hide hp) (f2.hide hp) (t2.hide hp)
theorem ItOk.grow{p:Addr}{o:HO}(hp:p∈ρ.h)(h:ItOk K ρ H J xs src):ItOk K ρ (upd H p o) J xs src:=by
 cases h with
 |list f t=>exact .list (f.grow hp) (t.grow hp)
 |tup f t=>exact .tup (f.grow hp) (t.grow hp)
 |cell h=>exact .cell h
 |rng=>exact .rng
 |enum f t=>exact .enum (f.grow hp) (t.grow hp)
 |enuml f t=>exact .enuml (f.grow hp) (t.grow hp)
 |zip f t f2 t2=>exact .zip (f.grow hp) (t.grow hp) (f2.grow hp) (t2.grow hp)
 |zipl f t f2 t2=>exact .zipl (f.grow hp) (t.grow hp) (f2.grow hp) (t2.grow hp)
 |zipx f t f2 t2=>exact .zipx (f.grow hp) (t.grow hp) (f2.grow hp) (t2.grow hp)
theorem ItOk.use{g:G}(h:ItOk K ρ H J xs src)(h':HR K ρ H g)(so:Zo src xs g):(∀(i:Nat) x,xs[i]? = some x->J.go i H/\∀v H2,J.yld i H v H2->Same H H2/\RelD K ρ H2 v x)/\∀i,xs.length<=i->J.stop i H:=by
 cases h with
 |@list a vs ds f t =>
  refine⟨λi x e=>?_,λi hi=>⟨vs,f.sq,by rw[t.length];exact hi⟩⟩;obtain⟨v,e1,r1⟩:=t.getD e;refine⟨⟨vs,v,f.sq,e1⟩,λu H2 y=>?_⟩;obtain⟨rfl,y⟩:=y;have:=y vs f.sq;rw[e1] at this
  cases this
  exact⟨Same.refl _,r1⟩
 |@tup a vs ds f t =>
  refine⟨λi x e=>?_,λi hi=>⟨vs,f.sq,by rw[t.length];exact hi⟩⟩;obtain⟨v,e1,r1⟩:=t.getD e;refine⟨⟨vs,v,f.sq,e1⟩,λu H2 y=>?_⟩;obtain⟨rfl,y⟩:=y;have:=y vs f.sq;rw[e1] at this
  cases this
  exact⟨Same.refl _,r1⟩
 |@cell a n ds h =>
  obtain⟨b,vs,e1,e2,tq⟩:=h'.at_ n _ so;rw[h] at e1;cases e1;have hq:SqL K H a vs:=SqL.of e2;refine⟨λi x e=>?_,λi hi=>⟨vs,hq,by rw[tq.length];exact hi⟩⟩;obtain⟨v,e1,r1⟩:=tq.getD e;refine⟨⟨vs,v,hq,e1⟩,λu H2 y=>?_⟩;obtain⟨rfl,y⟩:=y;have:=y vs hq;rw[e1] at this
  cases this
  exact⟨Same.refl _,r1⟩
 |@rng lo n =>
  refine⟨λi x e=>?_,λi hi=>?_⟩
  ·unfold ZAK at e
   rw[getElem?_map] at e;obtain⟨k,e1,rfl⟩:=mp e;obtain⟨hl,hk⟩:=List.getElem?_eq_some_iff.mp e1;rw[getElem_range] at hk;subst hk;rw[length_range] at hl;refine⟨hl,λu H2 y=>?_⟩;obtain⟨rfl,rfl⟩:=y;exact⟨Same.refl _,.int _⟩
  ·unfold ZAK at hi
   rw[length_map,length_range] at hi;exact hi
 |@enum a vs ds f t =>
  refine⟨λi x e=>?_,λi hi=>⟨vs,f.sq,by rw[t.length];rw[ZBL] at hi;exact hi⟩⟩;obtain⟨y,e2,rfl⟩:=ZB3 e;obtain⟨v,e3,r1⟩:=t.getD e2;refine⟨⟨vs,v,f.sq,e3⟩,λu H2 yy=>?_⟩;obtain⟨pp,x',rfl,hp,rfl,yy⟩:=yy;have:=yy vs f.sq;rw[e3] at this
  cases this
  obtain⟨sm,hr2,hn2⟩:=Zy (o:=.tup [.int i,v]) h' hp;refine⟨sm,.tup (.inl ⟨.inl ZI,hn2⟩) (.cons ?_ (.cons (r1.mono (.same sm)) .nil))⟩;rw[zero_add];exact .int _
 |@enuml a vs ds f t =>
  refine⟨λi x e=>?_,λi hi=>⟨vs,f.sq,by rw[t.length];rw[ZBL] at hi;exact hi⟩⟩;obtain⟨y,e2,rfl⟩:=ZB3 e;obtain⟨v,e3,r1⟩:=t.getD e2;refine⟨⟨vs,v,f.sq,e3⟩,λu H2 yy=>?_⟩;obtain⟨pp,x',rfl,hp,rfl,yy⟩:=yy;have:=yy vs f.sq;rw[e3] at this
  cases this
  obtain⟨sm,hr2,hn2⟩:=Zy (o:=.tup [.int i,v]) h' hp;refine⟨sm,.tup (.inl ⟨.inl ZI,hn2⟩) (.cons ?_ (.cons (r1.mono (.same sm)) .nil))⟩;rw[zero_add];exact .int _
 |@zip a b vs us ds es f t f2 t2 =>
  refine⟨λi x e=>?_,λi hi=>⟨vs,us,f.sq,f2.sq,by rw[t.length,t2.length];rw[ZBG] at hi;omega⟩⟩;obtain⟨y,z,e2,e3,rfl⟩:=ZBt e;obtain⟨v,e4,r4⟩:=t.getD e2;obtain⟨w,e5,r5⟩:=t2.getD e3;refine⟨⟨vs,us,v,w,f.sq,f2.sq,e4,e5⟩,λu H2 yy=>?_⟩;obtain⟨pp,x',y',rfl,hp,rfl,yy⟩:=yy;obtain⟨y1,y2⟩:=yy vs us f.sq f2.sq;rw[e4] at y1;rw[e5] at y2;cases y1;cases y2;obtain⟨sm,hr2,hn2⟩:=Zy (o:=.tup [v,w]) h' hp;exact⟨sm,.tup (.inl ⟨.inl ZI,hn2⟩) (.cons (r4.mono (.same sm)) (.cons (r5.mono (.same sm)) .nil))⟩
 |@zipl a b vs us ds es f t f2 t2 =>
  refine⟨λi x e=>?_,λi hi=>⟨vs,us,f.sq,f2.sq,by rw[t.length,t2.length];rw[ZBG] at hi;omega⟩⟩;obtain⟨y,z,e2,e3,rfl⟩:=ZBt e;obtain⟨v,e4,r4⟩:=t.getD e2;obtain⟨w,e5,r5⟩:=t2.getD e3;refine⟨⟨vs,us,v,w,f.sq,f2.sq,e4,e5⟩,λu H2 yy=>?_⟩;obtain⟨pp,x',y',rfl,hp,rfl,yy⟩:=yy;obtain⟨y1,y2⟩:=yy vs us f.sq f2.sq;rw[e4] at y1;rw[e5] at y2;cases y1;cases y2;obtain⟨sm,hr2,hn2⟩:=Zy (o:=.tup [v,w]) h' hp;exact⟨sm,.tup (.inl ⟨.inl ZI,hn2⟩) (.cons (r4.mono (.same sm)) (.cons (r5.mono (.same sm)) .nil))⟩
 |@zipx a b vs us ds es f t f2 t2 =>
  refine⟨λi x e=>?_,λi hi=>⟨vs,us,f.sq,f2.sq,by rw[t.length,t2.length];rw[ZBG] at hi;omega⟩⟩;obtain⟨y,z,e2,e3,rfl⟩:=ZBt e;obtain⟨v,e4,r4⟩:=t.getD e2;obtain⟨w,e5,r5⟩:=t2.getD e3;refine⟨⟨vs,us,v,w,f.sq,f2.sq,e4,e5⟩,λu H2 yy=>?_⟩;obtain⟨pp,x',y',rfl,hp,rfl,yy⟩:=yy;obtain⟨y1,y2⟩:=yy vs us f.sq f2.sq;rw[e4] at y1;rw[e5] at y2;cases y1;cases y2;obtain⟨sm,hr2,hn2⟩:=Zy (o:=.tup [v,w]) h' hp;exact⟨sm,.tup (.inl ⟨.inl ZI,hn2⟩) (.cons (r4.mono (.same sm)) (.cons (r5.mono (.same sm)) .nil))⟩
end
def tI(K:PySem.W.Frag)(d:DI):TI:=λσ H R=>∃ρ sd g xs src g',Rst K ρ H σ sd g/\d sd g=some (xs,src,g')/\∀J H' ρ',Stp ρ H ρ' H'->HR K ρ' H' g'->Zo src xs g'/\ItOk K ρ' H' J xs src->R J H'
def ZJw:W->G->Option (List PyData×Option Nat×G)
 |.dat (.list ds),g=>some (ds,none,g)
 |.dat (.tuple ds),g=>some (ds,none,g)
 |.ref n,g=>(lk g n).map λds=>(ds,some n,g)
 |.inp ns,g=>some (ns.map .int,none,g)
 |_,_=>none
def ZB2(d:DE):DI:=λsd g=>(d sd g).bind λp=>ZJw p.1 p.2
theorem PI.imp{X:Cx}{tg e:Expr}{t u:TI}(h:PI X tg e t)(k:∀σ H Q,u σ H Q->t σ H Q):PI X tg e u:=λpins s σ H Q I q=>h pins s σ H Q I (k σ H Q q)
def ZJf(K:PySem.W.Frag)(tl:TE):TI:=λσ H R=>tl σ H λx H1=>(∃a,x=.ref a/\(∃xs,SqL K H1 a xs)/\R (Itl K a) H1)∨(∃a,x=.ref a/\(∃xs,SqT K H1 a xs)/\R (Itt K a) H1)
section
variable{X:Cx}{tg:Expr}{pos:Pos}
theorem ZDi{l:Expr}{tl:TE}(hl:PE X l tl):PI X tg l (ZJf X.K tl):=by
 intro pins s σ H R I h;refine thn (hl pins s σ H _ I h) λv s1 ⟨x,H1,I1,r1,q1⟩=>?_
 rcases q1 with ⟨a,e,⟨xs,hq⟩,q⟩|⟨a,e,⟨xs,hq⟩,q⟩
 ·subst e
  cases r1;obtain⟨its,rv,p,hz⟩:=I1.list hq;refine wpAny_pyIter_list p.isList ?_;refine⟨s1.heap.objs.size,[s1.heap.objs.size],_,_,H1,rfl,I1.kept (t':=s1.toks) λb o e=>get?_push_of_some _ e,ZGk a _,⟨_,get?_push_size _ rfl,rfl,rfl⟩,λb hb=>?_,q⟩;have e:b=s1.heap.objs.size:=by simpa using hb
  subst e;exact I1.fpOk (le_refl _) (I1.hok.fresh (le_refl _))
 ·subst e
  cases r1;obtain⟨its,rv,p,hz⟩:=I1.tuple hq;refine wpAny_pyIter_tuple (show s1.heap.IsTuple a its.toArray from p) ?_;refine⟨s1.heap.objs.size,[s1.heap.objs.size],_,_,H1,rfl,I1.kept (t':=s1.toks) λb o e=>get?_push_of_some _ e,ZFe a _,⟨_,get?_push_size _ rfl,rfl,rfl⟩,λb hb=>?_,q⟩;have e:b=s1.heap.objs.size:=by simpa using hb
  subst e;exact I1.fpOk (le_refl _) (I1.hok.fresh (le_refl _))
theorem ZLF{l:Expr}{d:DE}(hl:PE X l (tE X.K d)):PI X tg l (tI X.K (ZB2 d)):=(ZDi hl).imp λσ H R ⟨ρ,sd,g,xs,src,g',r,e,q⟩=>by
 obtain⟨⟨y,g1⟩,e1,e⟩:=bnd e;refine⟨ρ,sd,g,y,g1,r,e1,λv H1 ρ1 s1 h1 r1=>?_⟩;cases r1 with
 |ref h =>
  obtain⟨ds,e2,e⟩:=mp e;cases e;have e2:=ZEG e2;obtain⟨b,vs,e3,e4,tq⟩:=h1.at_ _ _ e2;rw[h] at e3;cases e3;exact .inl ⟨_,rfl,⟨vs,SqL.of e4⟩,q _ H1 ρ1 s1 h1 ⟨e2,ItOk.cell h⟩⟩
 |ty=>cases e
 |tup _ _=>cases e
 |inp h=>cases e;exact .inl ⟨_,rfl,⟨_,h.sq⟩,q _ H1 ρ1 s1 h1 ⟨trivial,ItOk.list h RelDL.ofInts⟩⟩
 |dat h =>
  cases h with
  |tup h t=>cases e;exact .inr ⟨_,rfl,⟨_,h.sq⟩,q _ H1 ρ1 s1 h1 ⟨trivial,ItOk.tup h t⟩⟩
  |lst h n t=>cases e;exact .inl ⟨_,rfl,⟨_,SqL.of h⟩,q _ H1 ρ1 s1 h1 ⟨trivial,ItOk.list (.inl ⟨.inl h,n⟩) t⟩⟩
  |_=>cases e
theorem RelL.one{K:PySem.W.Frag}{ρ : Rh}{H:Hp}{vs:List V}{ws:List W}(r:RelL K ρ H vs ws)(hl:ws.length=1):∃v w,vs=[v]/\ws=[w]/\Rel K ρ H v w:=by
 cases r with
 |nil=>cases hl
 |cons h t=>cases t with
  |nil=>exact⟨_,_,rfl,rfl,h⟩
  |cons _ _=>cases hl
theorem RelL.two{K:PySem.W.Frag}{ρ : Rh}{H:Hp}{vs:List V}{ws:List W}(r:RelL K ρ H vs ws)(hl:ws.length=2):∃v v2 w w2,vs=[v,v2]/\ws=[w,w2]/\Rel K ρ H v w/\Rel K ρ H v2 w2:=by
 cases r with
 |nil=>cases hl
 |cons h t =>
  obtain⟨v2,w2,rfl,rfl,h2⟩:=t.one (Nat.succ.inj hl);exact⟨_,_,_,_,rfl,rfl,h,h2⟩
def ZBR:W->Option Int
 |.dat (.int i)=>some i
 |_=>none
def ZE8:W->Option (List PyData)
 |.dat (.tuple ds)=>some ds
 |_=>none
theorem ZGu{w:W}{i:Int}(e:ZBR w=some i):w=.dat (.int i):=by
 unfold ZBR at e
 split at e
 ·cases e;rfl
 ·cases e
theorem ZC7{w:W}{ds:List PyData}(e:ZE8 w=some ds):w=.dat (.tuple ds):=by
 unfold ZE8 at e
 split at e
 ·cases e;rfl
 ·cases e
theorem ZAn{K:PySem.W.Frag}{ρ : Rh}{H:Hp}{v:V}{w:W}{i:Int}(r:Rel K ρ H v w)(e:ZBR w=some i):v=.int i:=by
 rw[ZGu e] at r;cases r with
 |dat r=>cases r;rfl
def ZAB(a:DA):DI:=λsd g=>(a sd g).bind λp=>match p.1 with
 |[a]=>(ZBR a).bind λj=>if j<=1000/\-1000<=j then some (ZAK j.toNat 0,none,p.2) else none
 |[a,b]=>(ZBR a).bind λi=>(ZBR b).bind λj=>if (j<=1000/\-1000<=j)/\(i<=1000/\-1000<=i) then some (ZAK (j-i).toNat i,none,p.2) else none
 |_=>none
theorem ZGm{a:Expr}{da:DA}{p pos:Pos}(hg:Gl X "range")(hm:X.mg "range" = none)(ha:PA X [a] (tA X.K da))(hs:starEach [a] X.env=[(false,eval a X.env)]:=by rfl)(hn:Many da 1):PI X tg (.Call (.Name "range" p) [a] [] pos) (tI X.K (ZAB da)):=(ZGR hg hm ha hs).imp λσ H R ⟨ρ,sd,g,xs,src,g',r,e,q⟩=>by
 obtain⟨⟨ws,g1⟩,e1,e⟩:=bnd e;refine⟨ρ,sd,g,ws,g1,r,e1,λvs H1 ρ1 s1 h1 r1=>?_⟩;obtain⟨v,w,rfl,rfl,h⟩:=r1.one (hn.len e1);obtain⟨j,e2,e⟩:=bnd e;have:=ZAn h e2;subst this
 split at e
 ·rename_i hj
  cases e;exact⟨j,rfl,by omega,by omega,q _ H1 ρ1 s1 h1 ⟨trivial,ItOk.rng⟩⟩
 ·cases e
def ZCG(a:DA):DI:=λsd g=>(a sd g).bind λp=>match p.1 with
 |[a]=>(ZE8 a).map λds=>(ZAb 0 ds,none,p.2)
 |_=>none
theorem ZI9{es:List Expr}{k:Nat}{tpos:Pos}{a:Expr}{da:DA}{p pos:Pos}(hg:Gl X "enumerate")(hm:X.mg "enumerate" = none)(ha:PA X [a] (tA X.K da))(hs:starEach [a] X.env=[(false,eval a X.env)]:=by rfl)(hn:Many da 1) :
  PI X (.Tuple es k tpos) (.Call (.Name "enumerate" p) [a] [] pos) (tI X.K (ZCG da)):=(ZEZ (qb:=true) hg hm ha hs).imp λσ H R ⟨ρ,sd,g,xs,src,g',r,e,q⟩=>by
 obtain⟨⟨ws,g1⟩,e1,e⟩:=bnd e;refine⟨ρ,sd,g,ws,g1,r,e1,λvs H1 ρ1 s1 h1 r1=>?_⟩;obtain⟨v,w,rfl,rfl,h⟩:=r1.one (hn.len e1);obtain⟨ds,e2,e⟩:=mp e;cases e;rw[ZC7 e2] at h;cases h with
 |dat h =>
  cases h with
  |tup h t=>exact⟨_,rfl,⟨_,h.sq⟩,q _ H1 ρ1 s1 h1 ⟨trivial,ItOk.enum h t⟩⟩
def ZDy(a:DA):DI:=λsd g=>(a sd g).bind λp=>match p.1 with
 |[a,b]=>(ZE8 a).bind λds=>(ZE8 b).map λes=>(ZA4 ds es,none,p.2)
 |_=>none
theorem ZKh{a b:Expr}{da:DA}{p pos:Pos}(hg:Gl X "zip")(hm:X.mg "zip" = none)(ha:PA X [a,b] (tA X.K da))(hs:starEach [a,b] X.env=[(false,eval a X.env),(false,eval b X.env)]:=by rfl)(hs2:starEach [b] X.env=[(false,eval b X.env)]:=by rfl)(hn:Many da 2) :
  PI X tg (.Call (.Name "zip" p) [a,b] [] pos) (tI X.K (ZDy da)):=(ZLT (q:=true) (qq:=true) hg hm ha hs hs2).imp λσ H R ⟨ρ,sd,g,xs,src,g',r,e,q⟩=>by
 obtain⟨⟨ws,g1⟩,e1,e⟩:=bnd e;refine⟨ρ,sd,g,ws,g1,r,e1,λvs H1 ρ1 s1 h1 r1=>?_⟩;obtain⟨v,v2,w,w2,rfl,rfl,h,h2⟩:=r1.two (hn.len e1);obtain⟨ds,e2,e⟩:=bnd e;obtain⟨es,e3,e⟩:=mp e;cases e;rw[ZC7 e2] at h;rw[ZC7 e3] at h2;cases h with
 |dat h=>cases h with
  |tup f1 t1=>cases h2 with
   |dat h2=>cases h2 with
    |tup f2 t2=>exact⟨_,_,rfl,⟨_,_,f1.sq,f2.sq⟩,q _ H1 ρ1 s1 h1 ⟨trivial,ItOk.zip f1 t1 f2 t2⟩⟩
end
end L2
namespace L2
open PySem PySem.Spec PyProof.Rows H1
open Classical in
noncomputable def Z7{α : Type}(src:Option Nat)(xs:List PyData)(g:G)(k:Option α):Option α:=match src with|none=>k|some n=>if g[n]? = some (.pl xs) then k else none
theorem ZAC{α : Type}{src:Option Nat}{xs:List PyData}{g:G}{k:Option α}{y : α}(h:Z7 src xs g k=some y):Zo src xs g/\k=some y:=by
 unfold Z7 at h;cases src with
 |none=>exact⟨trivial,h⟩
 |some n =>
  dsimp only at h
  split at h
  ·rename_i q;exact⟨q,h⟩
  ·cases h
noncomputable def Zx(src:Option Nat)(xs:List PyData)(pt:Pat)(db:DS):List PyData->Sd->G->Option Out
 |[],sd,g=>some (.nx sd g)
 |x::r,sd,g=>(ZN pt (.dat x) sd).bind λsd1=>(db sd1 g).bind λo=>match o with
  |.nx sd2 g2=>Z7 src xs g2 (Zx src xs pt db r sd2 g2)
  |.ct sd2 g2=>Z7 src xs g2 (Zx src xs pt db r sd2 g2)
  |.bk sd2 g2=>some (.nx sd2 g2)
  |.rt y g2=>some (.rt y g2)
noncomputable def ZB7(pt:Pat)(di:DI)(db:DS):DS:=λsd g=>(di sd g).bind λt=>Zx t.2.1 t.1 pt db t.1 sd t.2.2
theorem allT(pt:Pat):pt.all (λ_=>true)=true:=Pat.rec (motive_1:=λp=>p.all (λ_=>true)=true) (motive_2:=λp=>p.all (λ_=>true)=true) (λi=>by rw[Pat.all]) (λps h=>by rw[Pat.all];exact h) (by rw[Pats.all]) (λp r h1 h2=>by rw[Pats.all,h1,h2];rfl) pt
section
variable{X:Cx}{tg iter:Expr}{pos:Pos}{di:DI}{pt:Pat}{db:DS}
theorem ZKz{body:List Stmt}(hp:PassesOwn (model X.prog X.w) X.A X.env X.xe)(hc:X.calm=true)(hi:PI X tg iter (tI X.K di))(hg:PG X tg (gP X.K pt))(hb:PSs X body (tS X.K db))
  (hs:∀x,foldedSetIterable iter X.env x=pure x:=by intro _;rfl):PS X (.For tg iter body [] pos) (tS X.K (ZB7 pt di db)):=(ZKU hp hc hi hg hb hs).imp λD σ H ⟨ρ,sd,g,o,r,e,q⟩=>by
 obtain⟨⟨xs,src,g1⟩,e1,e⟩:=bnd e;refine⟨ρ,sd,g,xs,src,g1,r,e1,λJ H1 ρ1 s1 h1 ⟨so,it⟩=>?_⟩;refine⟨λi m σ' H'=>m=xs.length-i/\i<=xs.length/\∃ρ' sd' g',Stp ρ1 H1 ρ' H'/\Rst X.K ρ' H' σ' sd' g'/\Zo src xs g'/\Zx src xs pt db (xs.drop i) sd' g'=some o,⟨xs.length,rfl,zero_le _,ρ1,sd,g1,.refl,r.step s1 h1,so,e⟩,?_⟩
 rintro i m σ' H' ⟨rfl,hi,ρ',sd',g',s',r',so',e'⟩
 obtain⟨hgo,hst⟩:=(it.mono s').use r'.hr so'
 by_cases hlt:i<xs.length
 ·rw[List.drop_eq_getElem_cons hlt] at e'
  rw[Zx] at e';obtain⟨sd1,e2,e'⟩:=bnd e';obtain⟨o1,e3,e'⟩:=bnd e';obtain⟨hg1,hy⟩:=hgo i xs[i] (getElem?_eq_getElem hlt);refine .inr ⟨hg1,λσ2 H2=>∃ρ2 sd2 g2,Stp ρ1 H1 ρ2 H2/\Rst X.K ρ2 H2 σ2 sd2 g2/\Zo src xs g2/\Zx src xs pt db (xs.drop (i+1)) sd2 g2=some o,λσ2 H2 ⟨ρ2,sd2,g2,k1,k2,k3,k4⟩=>⟨xs.length-(i+1),by omega,rfl,hlt,ρ2,sd2,g2,k1,k2,k3,k4⟩,λv H2 y=>?_⟩;obtain⟨sm,rv⟩:=hy v H2 y;have s2:Stp ρ' H' ρ' H2:=.same sm;refine ZDv (f:=λ_=>true) (allT pt) e2 (r'.step s2 (r'.hr.same sm)) (.dat rv) λσ3 r3 _=>⟨ρ',sd1,g',o1,r3,e3,?_⟩
  have s02:=s1.trans (s'.trans s2);cases o1 with
  |nx sd2 g2 =>
   obtain⟨so2,e4⟩:=ZAC e';exact λσ4 H4 ρ4 s4 r4=>⟨ρ4,sd2,g2,(s'.trans s2).trans s4,r4,so2,e4⟩
  |ct sd2 g2 =>
   obtain⟨so2,e4⟩:=ZAC e';exact λσ4 H4 ρ4 s4 r4=>⟨ρ4,sd2,g2,(s'.trans s2).trans s4,r4,so2,e4⟩
  |bk sd2 g2 =>
   cases e';exact ZDq.step q s02
  |rt y g2 =>
   cases e';exact ZDq.step q s02
 ·have ei:i=xs.length:=by omega
  subst ei;rw[drop_length,Zx] at e';cases e';exact .inl ⟨hst _ (le_refl _),q σ' H' ρ' (s1.trans s') r'⟩
end
def ZCW(own:Nat)(cap:List Nat)(sd:Sd):Sd:=List.replicate own none++cap.map λj=>(sd[j]?).join
noncomputable def Z4(src:Option Nat)(xs:List PyData)(pt:Pat)(dt:DB)(de:DE)(sd0:Sd):List PyData->G->Option (List PyData×G)
 |[],g=>some ([],g)
 |x::r,g=>(ZN pt (.dat x) sd0).bind λsd1=>(dt sd1 g).bind λb=>if b.1=true then (de sd1 b.2).bind λy=>match y.1 with
   |.dat d=>Z7 src xs y.2 ((Z4 src xs pt dt de sd0 r y.2).map λq=>(d::q.1,q.2))
   |_=>none
  else Z7 src xs b.2 (Z4 src xs pt dt de sd0 r b.2)
noncomputable def Z9(own:Nat)(cap:List Nat)(pt:Pat)(di:DI)(dt:DB)(de:DE):DE:=λsd g=>(di sd g).bind λt=>if t.1.length<=1000 then (Z4 t.2.1 t.1 pt dt de (ZCW own cap sd) t.1 t.2.2).map λp=>(.dat (.list p.1),p.2) else none
def ZAA:DB:=λ_ g=>some (true,g)
theorem ZEb{K:PySem.W.Frag}{ρ : Rh}{H:Hp}{σ : St}{sd:Sd}{g:G}(r:Rst K ρ H σ sd g)(own:Nat)(cap:List Nat):Rst K ρ H (ZDC own cap σ) (ZCW own cap sd) g:=by
 refine⟨by unfold ZDC ZCW;simp,λi x e=>?_,r.hr⟩;unfold ZCW at e;unfold ZDC
 by_cases hi:i<own
 ·rw[getElem?_append_left (by simpa using hi),getElem?_replicate] at e
  split at e <;> cases e
 ·rw[getElem?_append_right (by simpa using hi),length_replicate,getElem?_map] at e
  rw[getElem?_append_right (by simpa using hi),length_replicate,getElem?_map];obtain⟨j,e1,e⟩:=mp e;rw[e1];cases k:sd[j]? with
  |none=>rw[k] at e;cases e
  |some w =>
   rw[k] at e;have e:w=some x:=e;subst e;obtain⟨v,h1,h2⟩:=r.env j x k;exact⟨v,by show some ((σ[j]?).join)=_;rw[h1];rfl,h2⟩
theorem ZC2{own:Nat}{cap:List Nat}{σ : St}{i:Nat}(h:i<own):(ZDC own cap σ)[i]? = some none:=by
 unfold ZDC;rw[getElem?_append_left (by simpa using h),getElem?_replicate,if_pos h]
theorem PTs.imp{X:Cx}{ifs:List Expr}{t u:TT}(h:PTs X ifs t)(k:∀σ H Q,u σ H Q->t σ H Q):PTs X ifs u:=λpins s σ H Q I q=>h pins s σ H Q I (k σ H Q q)
theorem ZIQ{X:Cx}:PTs X [] (tT X.K ZAA):=ZIu.imp λσ H Q ⟨ρ,sd,g,b,g',r,e,q⟩=>by
 cases e;exact q H ρ .refl r.hr
theorem ZIG{X:Cx}{c:Expr}{d:DB}(h:PT X c (tT X.K d)):PTs X [c] (tT X.K d):=ZIc h
theorem Stp.grow{ρ ρ':Rh}{H H':Hp}{p:Addr}{o:HO}(hp:H p=none)(s:Stp ρ H ρ' H'):Stp ρ H ρ' (upd H' p o):=⟨s.pre,s.hid,λa u e n=>by rw[ZE (ZH e hp)];exact s.frm a u e n,s.fre,λa u e=>by rw[ZE (ZH e hp)];exact s.kd a u e⟩
theorem Stp.unhide{ρ ρ':Rh}{H H':Hp}{p:Addr}(s:Stp (ρ.hide p) H ρ' H'):Stp ρ H ⟨ρ'.c,ρ.h⟩ H'/\ρ'=(⟨ρ'.c,ρ.h⟩:Rh).hide p:=⟨⟨s.pre,rfl,s.frm,s.fre,s.kd⟩,by
 have:=s.hid;obtain⟨c,h⟩:=ρ';have e:h=p::ρ.h:=this
 subst e;rfl⟩
theorem Rst.hide{K:PySem.W.Frag}{ρ : Rh}{H:Hp}{σ : St}{sd:Sd}{g:G}{p:Addr}{o:HO}(hp:H p=none)(r:Rst K ρ H σ sd g):Rst K (ρ.hide p) (upd H p o) σ sd g:=⟨r.len,λi x e=>by
 obtain⟨v,h1,h2⟩:=r.env i x e;exact⟨v,h1,h2.hide hp⟩,r.hr.hide hp⟩
theorem Rst.grow{K:PySem.W.Frag}{ρ : Rh}{H:Hp}{σ : St}{sd:Sd}{g:G}{p:Addr}{o:HO}(hp:p∈ρ.h)(r:Rst K ρ H σ sd g):Rst K ρ (upd H p o) σ sd g:=⟨r.len,λi x e=>by
 obtain⟨v,h1,h2⟩:=r.env i x e;exact⟨v,h1,h2.grow hp⟩,r.hr.grow hp⟩
section
variable{X:Cx}{tg elt iter:Expr}{ifs:List Expr}{scope sc:Scope}{pos:Pos}{di:DI}{pt:Pat}{dt:DB}{de:DE}{N NX:List Str}{own:Nat}{cap:List Nat}
inductive CRun (so:G->Prop) (pt:Pat) (dt:DB) (de:DE) (sd0:Sd):List W->G->List W->G->Prop
 |nil {g:G}:CRun so pt dt de sd0 [] g [] g
 |yes {x:W} {r ys:List W} {y:W} {sd1:Sd} {g g1 g2 g3:G}:ZN pt x sd0=some sd1->dt sd1 g=some (true,g1)->de sd1 g1=some (y,g2)->so g2->CRun so pt dt de sd0 r g2 ys g3->CRun so pt dt de sd0 (x::r) g (y::ys) g3
 |no {x:W} {r ys:List W} {sd1:Sd} {g g1 g3:G}:ZN pt x sd0=some sd1->dt sd1 g=some (false,g1)->so g1->CRun so pt dt de sd0 r g1 ys g3->CRun so pt dt de sd0 (x::r) g ys g3
theorem ZB6{K:PySem.W.Frag}{Q:VK}{J:It}{IO:Rh->Hp->Prop}{so:G->Prop}{xs zs:List W}{ρ1:Rh}{H1:Hp}{σ0:St}{sd0:Sd}{g1 g2:G}{D:Addr}(hp:pt.all (λi=>decide (i<own))=true)
  (mono:∀{ρ H ρ' H'},Stp ρ H ρ' H'->IO ρ H->IO ρ' H')(grow:∀{ρ H o},D∈ρ.h->IO ρ H->IO ρ (upd H D o))
  (use:∀{ρ H g},IO ρ H->HR K ρ H g->so g->(∀(i:Nat) x,xs[i]? = some x->J.go i H/\∀v H2,J.yld i H v H2->Same H H2/\Rel K ρ H2 v x)/\∀i,xs.length<=i->J.stop i H)
  (hz:xs.length<=1000)(hD:H1 D=none)(r1:Rst K ρ1 H1 σ0 sd0 g1)(hσ : ∀i,i<own->σ0[i]? = some none)(so1:so g1)(io:IO (ρ1.hide D) (upd H1 D (.lst [])))(run:CRun so pt dt de sd0 xs g1 zs g2)
  (fin:∀acc H' ρ',Stp ρ1 H1 ρ' H'->HR K (ρ'.hide D) H' g2->H' D=some (.lst acc)->RelL K (ρ'.hide D) H' acc zs->Q (.ref D) H'):ZF7 J (gP K pt) (tT K dt) (tE K de) σ0 D Q (upd H1 D (.lst [])):=by
 have hDm:∀{ρx:Rh},D∈(ρx.hide D).h:=λ{ρx}=>mem_cons_self ..
 refine⟨λi m acc H'=>m=xs.length-i/\i<=xs.length/\acc.length<=i/\∃ρ' g' ads ys,Stp ρ1 H1 ρ' H'/\Rst K (ρ'.hide D) H' σ0 sd0 g'/\so g'/\H' D=some (.lst acc)/\RelL K (ρ'.hide D) H' acc ads/\IO (ρ'.hide D) H'/\CRun so pt dt de sd0 (xs.drop i) g' ys g2/\ads++ys=zs,⟨xs.length,rfl,zero_le _,le_refl _,ρ1,g1,[],zs,.same (_root_.H1.Same.upd hD),r1.hide hD,so1,ZI,.nil,io,run,rfl⟩,?_⟩
 rintro i m acc H' ⟨rfl,hi,ha,ρ',g',ads,ys,s',r',so',hacc,ra,it',e',ez⟩
 obtain⟨hgo,hst⟩:=use it' r'.hr so'
 by_cases hlt:i<xs.length
 ·rw[List.drop_eq_getElem_cons hlt] at e'
  obtain⟨hg1,hy⟩:=hgo i xs[i] (getElem?_eq_getElem hlt);refine .inr ⟨hg1,λacc2 H2=>acc2.length<=i+1/\∃ρ' g' ads ys,Stp ρ1 H1 ρ' H2/\Rst K (ρ'.hide D) H2 σ0 sd0 g'/\so g'/\H2 D=some (.lst acc2)/\RelL K (ρ'.hide D) H2 acc2 ads/\IO (ρ'.hide D) H2/\CRun so pt dt de sd0 (xs.drop (i+1)) g' ys g2/\ads++ys=zs,λacc2 H2 ⟨k0,k⟩=>⟨xs.length-(i+1),by omega,rfl,hlt,k0,k⟩,λv H2 y=>?_⟩;obtain⟨sm,rv⟩:=hy v H2 y;have s2:Stp (ρ'.hide D) H' (ρ'.hide D) H2:=.same sm;cases e' with
  |no e2 e3 so3 e4 =>
   refine ZDv (f:=λi=>decide (i<own)) hp e2 (r'.step s2 (r'.hr.same sm)) rv λσ3 r3 kp=>⟨?_,ρ'.hide D,_,g',_,_,r3,e3,λH3 ρ3 s3 h3=>?_⟩
   ·exact⟨kp.1,λi v e=>by
     by_cases hi:i<own
     ·rw[hσ i hi] at e;cases e
     ·rw[kp.2 i (decide_eq_false hi)];exact e⟩
   have s23:=s2.trans s3;obtain⟨u3,e3h⟩:=s23.unhide;have hD3:H3 D=some (.lst acc):=s23.frm _ _ hacc (r'.hr.hid D hDm).1;rw[e3h] at h3 s23;refine iteF ?_;exact⟨Nat.le_succ_of_le ha,⟨ρ3.c,ρ'.h⟩,_,ads,ys,s'.trans u3,r'.step s23 h3,so3,hD3,ra.mono s23,mono s23 it',e4,ez⟩
  |@yes _ _ ys' w sd1 _ g3 g4 _ e2 e3 e4 so4 e6 =>
   refine ZDv (f:=λi=>decide (i<own)) hp e2 (r'.step s2 (r'.hr.same sm)) rv λσ3 r3 kp=>⟨?_,ρ'.hide D,_,g',_,_,r3,e3,λH3 ρ3 s3 h3=>?_⟩
   ·exact⟨kp.1,λi v e=>by
     by_cases hi:i<own
     ·rw[hσ i hi] at e;cases e
     ·rw[kp.2 i (decide_eq_false hi)];exact e⟩
   have s23:=s2.trans s3;obtain⟨u3,e3h⟩:=s23.unhide;have hD3:H3 D=some (.lst acc):=s23.frm _ _ hacc (r'.hr.hid D hDm).1;have r3':=r3.step s3 h3;rw[e3h] at r3' h3 s3 s23;refine iteT ?_;refine⟨(⟨ρ3.c,ρ'.h⟩:Rh).hide D,sd1,g3,w,g4,r3',e4,λy4 H4 ρ4 s4 h4 r4=>?_⟩;obtain⟨u4,e4h⟩:=s4.unhide;rw[e4h] at h4 r4 s4;have s24:=s23.trans s4;have hD4:H4 D=some (.lst acc):=s4.frm _ _ hD3 (h3.hid D hDm).1;refine⟨hD4,Nat.lt_of_le_of_lt ha (ZP (by omega)),?_⟩;refine⟨by rw[length_append];exact Nat.add_le_add_right ha 1,⟨ρ4.c,ρ'.h⟩,g4,ads++[w],ys',((s'.trans u3).trans u4).grow hD,(r'.step s24 h4).grow hDm,so4,ZI,((ra.mono s24).append (.cons r4 .nil)).grow hDm,grow hDm (mono s24 it'),e6,?_⟩;rw[append_assoc];exact ez
 ·have ei:i=xs.length:=by omega
  subst ei;rw[drop_length] at e';cases e';rw[append_nil] at ez;subst ez;exact .inl ⟨hst _ (le_refl _),fin acc H' ρ' s' r'.hr hacc ra⟩
theorem ZFA{src:Option Nat}{xs:List PyData}{sd0:Sd}{g2:G}:∀{r ys:List PyData} {g:G},Z4 src xs pt dt de sd0 r g=some (ys,g2)->CRun (Zo src xs) pt dt de sd0 (r.map .dat) g (ys.map .dat) g2
 |[],_,_,e=>by
  rw[Z4] at e;cases e;exact .nil
 |x::r,ys,g,e=>by
  rw[Z4] at e;obtain⟨sd1,e2,e⟩:=bnd e;obtain⟨⟨b,g3⟩,e3,e⟩:=bnd e;cases b with
  |false =>
   rw[if_neg Bool.false_ne_true] at e;obtain⟨so,e⟩:=ZAC e;exact .no e2 e3 so (ZFA e)
  |true =>
   rw[if_pos rfl] at e;obtain⟨⟨w,g4⟩,e4,e⟩:=bnd e;dsimp only at e
   split at e
   ·obtain⟨so,e⟩:=ZAC e
    obtain⟨⟨ys',g5⟩,e6,e⟩:=mp e;cases e;exact .yes e2 e3 e4 so (ZFA e6)
   ·cases e
theorem RelL.dats{K:PySem.W.Frag}{ρ : Rh}{H:Hp}:∀{ds:List PyData} {vs:List V},RelL K ρ H vs (ds.map .dat)->RelDL K ρ H vs ds
 |[],_,.nil=>.nil
 |_::_,_,.cons (.dat h) t=>.cons h (RelL.dats t)
theorem ItOk.useW{K:PySem.W.Frag}{ρ : Rh}{H:Hp}{g:G}{J:It}{xs:List PyData}{src:Option Nat}(it:ItOk K ρ H J xs src)(h:HR K ρ H g)(so:Zo src xs g):(∀(i:Nat) x,(xs.map W.dat)[i]? = some x->J.go i H/\∀v H2,J.yld i H v H2->Same H H2/\Rel K ρ H2 v x)/\∀i,(xs.map W.dat).length<=i->J.stop i H:=by
 obtain⟨a,b⟩:=it.use h so;refine⟨λi x e=>?_,λi hi=>b i (by rwa [length_map] at hi)⟩;rw[getElem?_map] at e;obtain⟨d,e2,rfl⟩:=mp e;exact⟨(a i d e2).1,λv H2 y=>⟨((a i d e2).2 v H2 y).1,.dat ((a i d e2).2 v H2 y).2⟩⟩
theorem ZFt{K:PySem.W.Frag}{Q:VK}{ρ ρ1 ρ':Rh}{H H1 H':Hp}{D:Addr}{acc:List V}{ds:List PyData}{g1 g2:G}(hD:H1 D=none)(h1:HR K ρ1 H1 g1)(q:Pv K ρ H (.dat (.list ds)) g2 Q)(s1:Stp ρ H ρ1 H1)(s':Stp ρ1 H1 ρ' H')(hr:HR K (ρ'.hide D) H' g2)(hacc:H' D=some (.lst acc))(ra:RelL K (ρ'.hide D) H' acc (ds.map .dat)):Q (.ref D) H':=by
 have hnh:D∉ρ1.h:=λz=>h1.nin hD (.inr z)
 refine q _ H' ρ' (s1.trans s') hr.shown (.dat (.lst hacc (λz=>?_) (ra.dats.less (ρ':=ρ') (ρ:=ρ'.hide D) λ_ z=>z.elim .inl λq=>.inr (mem_cons_of_mem _ q))));rcases z with z|z
 ·exact(hr.hid D (mem_cons_self ..)).1 z
 ·rw[s'.hid] at z
  exact hnh z
theorem ZJe{K:PySem.W.Frag}{σ : St}{H:Hp}{Q:VK}(hp:pt.all (λi=>decide (i<own))=true)(h:tE K (Z9 own cap pt di dt de) σ H Q):ZEq own cap (tI K di) (gP K pt) (tT K dt) (tE K de) σ H Q:=by
 obtain⟨ρ,sd,g,x,gz,r,e,q⟩:=h;obtain⟨⟨xs,src,g1⟩,e1,e⟩:=bnd e;dsimp only at e
 split at e
 ·rename_i hz
  obtain⟨⟨zs,g2⟩,e2,e⟩:=mp e;cases e;exact⟨ρ,sd,g,xs,src,g1,r,e1,λJ H1 ρ1 s1 h1 ⟨so,it⟩ D hD=>ZB6 hp (IO:=λρ H=>ItOk K ρ H J xs src) (λs i=>i.mono s) (λh i=>i.grow h) (λi h s=>i.useW h s) (by rw[length_map];exact hz) hD (ZEb (r.step s1 h1) own cap) (λi hi=>ZC2 hi) so (it.hide hD) (ZFA e2) λacc H' ρ' s' hr hacc ra=>ZFt hD h1 q s1 s' hr hacc ra⟩
 ·cases e
theorem ZIh(hc:X.calm=true)(hi:PI X tg iter (tI X.K di))(hsc:X.env.scope=sc)(hNX:X.N=NX)
  (hb:∀cl C s0 H0 fp,PG (blk X N (compEnvC scope cl C X.env) s0 H0 fp) tg (gP X.K pt)/\PTs (blk X N (compEnvC scope cl C X.env) s0 H0 fp) ifs (tT X.K dt)/\PE (blk X N (compEnvC scope cl C X.env) s0 H0 fp) elt (tE X.K de))
  (co:ZB5 sc scope NX N own cap=true)(hp:pt.all (λi=>decide (i<own))=true)(hs:∀x,foldedSetIterable iter X.env x=pure x:=by intro _;rfl):PE X (.ListComp elt [⟨tg,iter,ifs,0⟩] scope pos) (tE X.K (Z9 own cap pt di dt de)) :=
 (ZF1 hc hi hsc hNX hb co hs).imp λ_ _ _ h=>ZJe hp h
end
def ZAO(n:Nat)(d:DS)(ws:List W)(g:G):Option (W×G):=match d (ws.map some++List.replicate (n-ws.length) none) g with
 |some (.rt x g')=>some (x,g')
 |some (.nx _ g')=>some (.dat .none,g')
 |_=>none
theorem ZDg{K:PySem.W.Frag}{ρ : Rh}{H:Hp}{g:G}(h:HR K ρ H g)(k:Nat):∀{vs:List V} {ws:List W},RelL K ρ H vs ws->Rst K ρ H (vs.map some++List.replicate k none) (ws.map some++List.replicate k none) g
 |_,_,.nil=>by
  refine⟨by simp,λi x e=>?_,h⟩;simp only[map_nil,nil_append] at e;rw[getElem?_replicate] at e
  split at e <;> cases e
 |v::vs,w::ws,.cons r t=>by
  have q:=ZDg h k t;refine⟨by have:=q.len;simp at this ⊢;exact this,λi x e=>?_,h⟩;cases i with
  |zero=>simp at e;subst e;exact⟨v,by simp,r⟩
  |succ i =>
   simp at e;obtain⟨u,h1,h2⟩:=q.env i x (by simpa using e);exact⟨u,by simpa using h1,h2⟩
theorem ZLA{P:Program}{w:World}{K:PySem.W.Frag}{mg:Str->Option Value}{base:Heap}{x qual:Str}{st:Stmt}{f:Addr}{fd:FuncData}{N ps:List Str}{k:Nat}{d:DS}(F:Fun K x qual st f fd)(S:FnScope N ps (ZF st))
  (hb:∀(cdv:Value) (A:Around) (outer:List Env) (s:Shared) (H:Hp) (E:XK),Room k (A.deeper (envOfC qual (ZF st) s.heap.objs.size f cdv))->PSs (ZEy CX0 P w K mg base N qual (ZF st) f cdv A outer s H E).nox (ZAD st) (tS K d)) :
  FnOk P w K mg base CX0 (k+1) f fd ps (spD K ps.length (ZAO N.length d)):=by
 refine F.ok S (λvs H Q E h=>h.1) (λcdv A outer s H vs Q E hr h=>⟨_,hb cdv A outer s H E hr,?_⟩);obtain⟨hl,ρ,ws,g,z,gz,hR,rl,e,q⟩:=h;unfold ZAO at e;have hlw:=rl.length;unfold ZBy;rw[hlw];cases ho:d (ws.map some++List.replicate (N.length-ws.length) none) g with
 |none=>rw[ho] at e;cases e
 |some o =>
  rw[ho] at e;refine⟨ρ,_,g,o,ZDg hR _ rl,ho,?_⟩;cases o with
  |nx sd g' =>
   cases e;intro σ' H' ρ' s' r';exact q .non H' ρ' s' r'.hr (.dat .non)
  |rt y g' =>
   cases e;exact q
  |bk _ _=>cases e
  |ct _ _=>cases e
end L2
namespace L2
open PySem PySem.Spec PyProof.Rows H1
mutual
theorem RelD.reads{X:Cx}{pins:List (Addr×Obj)}{σ : St}{ρ : Rh}{H:Hp}{s:Shared}(I:Inv X pins σ H s):∀{v:V} {d:PyData} {u:Value},RelD X.K ρ H v d->d.canLay0=true->ZV v u->∃as,Reads s.heap u d as
 |_,_,_,.non,_,r=>by cases r;exact⟨_,.none⟩
 |_,_,_,.bl b,_,r=>by cases r;exact⟨_,.bool b⟩
 |_,_,_,.int i,_,r=>by obtain⟨t,rfl⟩:=r;exact⟨_,.int i t⟩
 |_,_,_,.str x,_,r=>by obtain⟨t,rfl⟩:=r;exact⟨_,.str x t⟩
 |_,_,_,.tup h hl,c,r=>by
  cases r;obtain⟨its,rv,⟨o,ho,hc,n,hd⟩,_⟩:=I.tuple h.sq;obtain⟨as,ra⟩:=RelDL.reads I hl (by rw[PyData.canLay0] at c;exact c) rv;exact⟨as,.tuple ho hc hd (by simpa using ra)⟩
 |_,_,_,.lst h _ hl,c,r=>by
  cases r;obtain⟨_,its,n,rv,e⟩:=I.hok _ _ h;obtain⟨as,ra⟩:=RelDL.reads I hl (by rw[PyData.canLay0] at c;exact c) rv;exact⟨_,.list e rfl rfl (by simpa using ra)⟩
 |_,_,_,.dct h _,c,r=>by rw[PyData.canLay0] at c;cases c
theorem RelDL.reads{X:Cx}{pins:List (Addr×Obj)}{σ : St}{ρ : Rh}{H:Hp}{s:Shared}(I:Inv X pins σ H s):∀{vs:List V} {ds:List PyData} {us:List Value},RelDL X.K ρ H vs ds->PyData.canLayAll0 ds=true->ZK vs us->∃as,ReadsAll s.heap us ds as
 |_,_,_,.nil,_,r=>by cases r;exact⟨_,.nil⟩
 |_,_,_,.cons h hl,c,r=>by
  rw[PyData.canLayAll0,Bool.and_eq_true] at c;cases r with
  |cons r1 r2 =>
   obtain⟨as,ra⟩:=RelD.reads I h c.1 r1;obtain⟨bs,rb⟩:=RelDL.reads I hl c.2 r2;exact⟨_,.cons ra rb⟩
end
def Zb:W->G->Option (List PyData)
 |.dat (.list ds),_=>some ds
 |.ref n,g=>lk g n
 |_,_=>none
theorem ZW{K:PySem.W.Frag}{ρ : Rh}{H:Hp}{g:G}{v:V}{w:W}{ds:List PyData}(hR:HR K ρ H g)(r:Rel K ρ H v w)(e:Zb w g=some ds):∃a vs,v=.ref a/\H a=some (.lst vs)/\RelDL K ρ H vs ds:=by
 cases r with
 |ty=>cases e
 |tup _ _=>cases e
 |inp _=>cases e
 |ref h =>
  obtain⟨a,vs,h1,h2,h3⟩:=hR.at_ _ _ (ZEG e);rw[h] at h1;cases h1;exact⟨_,vs,rfl,h2,h3⟩
 |dat h =>
  cases h with
  |lst h n t=>cases e;exact⟨_,_,rfl,h,t⟩
  |_=>cases e
theorem Pv.at{K:PySem.W.Frag}{ρ : Rh}{H:Hp}{g:G}{x:W}{v:V}{Q:VK}(q:Pv K ρ H x g Q)(h:HR K ρ H g)(r:Rel K ρ H v x):Q v H:=q v H ρ .refl h r
theorem Pv.new{K:PySem.W.Frag}{ρ : Rh}{H:Hp}{g:G}{ds:List PyData}{vs:List V}{Q:VK}(q:Pv K ρ H (.dat (.list ds)) g Q)(h:HR K ρ H g)(r:RelDL K ρ H vs ds){p:Addr}(hp:H p=none):Q (.ref p) (upd H p (.lst vs)):=by
 obtain⟨sm,hr2,hn⟩:=Zy (o:=.lst vs) h hp;exact q _ _ ρ (.same sm) hr2 (.dat (.lst ZI hn (r.mono (.same sm))))
theorem Pv.newT{K:PySem.W.Frag}{ρ : Rh}{H:Hp}{g:G}{ds:List PyData}{vs:List V}{Q:VK}(q:Pv K ρ H (.dat (.tuple ds)) g Q)(h:HR K ρ H g)(r:RelDL K ρ H vs ds){p:Addr}(hp:H p=none):Q (.ref p) (upd H p (.tup vs)):=by
 obtain⟨sm,hr2,hn⟩:=Zy (o:=.tup vs) h hp;exact q _ _ ρ (.same sm) hr2 (.dat (.tup (.inl ⟨.inl ZI,hn⟩) (r.mono (.same sm))))
def ZAH:W->W->G->Option (W×G)
 |.dat (.int i),.dat (.int j),g=>some (.dat (.int (i+j)),g)
 |.dat (.tuple xs),.dat (.tuple ys),g=>if xs.length+ys.length<=1000 then some (.dat (.tuple (xs++ys)),g) else none
 |.dat (.str a),.dat (.str b),g=>if a.length+b.length<=1000 then some (.dat (.str (a++b)),g) else none
 |a,b,g=>(Zb a g).bind λxs=>(Zb b g).bind λys=>if xs.length+ys.length<=1000 then some (.dat (.list (xs++ys)),g) else none
def opZ(c:Int->Int->Bool)(f:Int->Int->PyData):W->W->G->Option (W×G)
 |.dat (.int i),.dat (.int j),g=>if c i j=true then some (.dat (f i j),g) else none
 |_,_,_=>none
def ZGv:=opZ (λ_ _=>true) λi j=>.int (i-j)
def ZCO:=opZ (λ_ j=>decide (0<j)) λi j=>.int (i % j)
def ZC5:=opZ (λ_ j=>decide (0<j) && decide (j<2 ^ 64)) λi j=>.int (i / j)
def ZEK(i j:Int):Bool:=(decide (-(2 ^ 64)<i) && decide (i<2 ^ 64)) || (decide (-(2 ^ 64)<j) && decide (j<2 ^ 64))
def mulA:W->Int->G->Option (W×G)
 |.dat (.int i),j,g=>if ZEK i j=true then some (.dat (.int (i*j)),g) else none
 |.dat (.tuple xs),k,g=>if ((decide (2<=k) && decide (k<=20)) && (!xs.isEmpty && decide (xs.length<=20)))=true then some (.dat (.tuple (List.replicate k.toNat xs).flatten),g) else none
 |a,k,g=>(Zb a g).bind λxs=>if k<=1000/\-1000<=k/\xs.length<=1000 then some (.dat (.list (List.replicate k.toNat xs).flatten),g) else none
def ZA6(a b:W)(g:G):Option (W×G):=(ZBR b).bind λk=>mulA a k g
section
variable{X:Cx}
theorem oAdd:OpR X (binaryOp .Add) (rOp X.K ZAH):=by
 intro pins s σ H x y v u Q I rx ry h;obtain⟨ρ,a,b,g,z,g',hR,ra,rb,e,q⟩:=h;have lists:((Zb a g).bind λxs=>(Zb b g).bind λys=>if xs.length+ys.length<=1000 then some (W.dat (.list (xs++ys)),g) else none)=some (z,g')->wpAny (model X.prog X.w) X.A (binaryOp .Add v u) (EP X pins σ Q) X.xe s:=λe=>by
  obtain⟨xs,e1,e⟩:=bnd e;obtain⟨ys,e2,e⟩:=bnd e;obtain⟨l,vs,rfl,h1,t1⟩:=ZW hR ra e1;obtain⟨l',us,rfl,h2,t2⟩:=ZW hR rb e2
  split at e
  ·rename_i hz
   cases e;exact ZLM pins s σ H _ _ v u Q I rx ry ⟨l,l',vs,us,rfl,rfl,h1,h2,by rw[t1.length,t2.length];exact le_of_lt (ZP hz),λp hp=>q.new hR (t1.append t2) hp⟩
  ·cases e
 cases ra with
 |ref h=>exact lists e
 |inp h=>exact lists e
 |ty=>cases e
 |tup _ _=>cases e
 |dat ra =>
  cases ra with
  |int i =>
   cases rb with
   |dat rb =>
    cases rb with
    |int j=>cases e;exact ZLi pins s σ H _ _ v u Q I rx ry ⟨i,j,rfl,rfl,q.at hR (.dat (.int _))⟩
    |_=>cases e
   |_=>cases e
  |str i =>
   cases rb with
   |dat rb =>
    cases rb with
    |str j =>
     change (if i.length+j.length<=1000 then some (W.dat (.str (i++j)),g) else none)=some (z,g') at e
     split at e
     ·rename_i hz
      cases e;exact ZFK pins s σ H _ _ v u Q I rx ry ⟨i,j,rfl,rfl,le_of_lt (ZP hz),q.at hR (.dat (.str _))⟩
     ·cases e
    |_=>cases e
   |_=>cases e
  |@tup a1 xs ds f1 t1 =>
   cases rb with
   |dat rb =>
    cases rb with
    |@tup a2 ys es f2 t2 =>
     change (if ds.length+es.length<=1000 then some (W.dat (.tuple (ds++es)),g) else none)=some (z,g') at e
     split at e
     ·rename_i hz
      cases e;have hz':xs.length+ys.length<=sizeLine:=by rw[t1.length,t2.length];exact le_of_lt (ZP hz)
      cases rx;cases ry;obtain⟨its,r1,p1,_⟩:=I.tuple f1.sq;obtain⟨its2,r2,p2,_⟩:=I.tuple f2.sq;refine HT.cat_tupA p1 p2 (λz=>⟨.ref a2,H,I,rfl,q.at hR (.dat ?_)⟩) (λ_ z=>⟨.ref a1,H,I,rfl,q.at hR (.dat ?_)⟩) (λ_ z=>?_) (by rw[←r1.length,←r2.length];exact hz')
      ·have:=r1.nil_iff.mp z
       subst this
       cases t1;exact .tup f2 t2
      ·have:=r2.nil_iff.mp z
       subst this
       cases t2;rw[append_nil];exact .tup f1 t1
      ·exact⟨.ref s.heap.objs.size,_,I.laid (t':=s.toks) (o:=.tup (xs++ys)) (λb ob q=>get?_push_of_some _ q) (le_refl _) ⟨by rw[length_append];exact hz',_,r1.append r2,IsTup.new _ _⟩,rfl,q.newT hR (t1.append t2) (I.hok.fresh (le_refl _))⟩
     ·cases e
    |_=>cases e
   |_=>cases e
  |lst h n t=>exact lists e
  |_=>cases e
theorem oI{op:Operator}{C:Int->Int->Prop}{c:Int->Int->Bool}{f:Int->Int->Int}(h:OpR X (binaryOp op) (rI C λi j=>.int (f i j)))(hc:∀i j,c i j=true->C i j):OpR X (binaryOp op) (rOp X.K (opZ c λi j=>.int (f i j))):=by
 intro pins s σ H x y v u Q I rx ry hh;obtain⟨ρ,a,b,g,z,g',hR,ra,rb,e,q⟩:=hh;cases ra with
 |dat ra =>
  cases ra with
  |int i =>
   cases rb with
   |dat rb =>
    cases rb with
    |int j =>
     change (if c i j=true then some (W.dat (.int (f i j)),g) else none)=some (z,g') at e
     split at e
     ·rename_i hz
      cases e;exact h pins s σ H _ _ v u Q I rx ry ⟨i,j,rfl,rfl,hc i j hz,q.at hR (.dat (.int _))⟩
     ·cases e
    |_=>cases e
   |_=>cases e
  |_=>cases e
 |_=>cases e
theorem oSub:OpR X (binaryOp .Sub) (rOp X.K ZGv):=oI (C:=λ_ _=>True) (ZKG.imp λx y H Q ⟨i,j,e1,e2,_,q⟩=>⟨i,j,e1,e2,q⟩) λ_ _ _=>trivial
theorem oMod:OpR X (binaryOp .Mod) (rOp X.K ZCO):=oI ZLH λi j h=>of_decide_eq_true h
theorem oFdiv:OpR X (binaryOp .FloorDiv) (rOp X.K ZC5):=oI ZG1 λi j h=>by
 rw[Bool.and_eq_true] at h;exact⟨of_decide_eq_true h.1,of_decide_eq_true h.2⟩
theorem ZIY{i j:Int}(h:ZEK i j=true):ZJL i j:=by
 unfold ZEK at h;rw[Bool.or_eq_true,Bool.and_eq_true,Bool.and_eq_true] at h;rcases h with h|h
 ·exact .inl ⟨of_decide_eq_true h.1,of_decide_eq_true h.2⟩
 ·exact .inr ⟨of_decide_eq_true h.1,of_decide_eq_true h.2⟩
theorem ZIk:OpR X (binaryOp .Mult) (λx y H Q=>∃(a:Addr) (k:Int) (xs:List V),x=.ref a/\y=.int k/\SqT X.K H a xs/\(2<=k/\k<=20)/\(xs≠[]/\xs.length<=20)/\∀p,H p=none->Q (.ref p) (upd H p (.tup (List.replicate k.toNat xs).flatten))):=by
 intro pins s σ H x y v u Q I rx ry h;obtain⟨a,k,xs,rfl,rfl,ha,⟨k2,k20⟩,⟨hne,h20⟩,q⟩:=h;cases rx;obtain⟨t,rfl⟩:=ry;obtain⟨its,r,p1,_⟩:=I.tuple ha;obtain⟨⟨cls,dd,data,sl⟩,ho,hc,n,hd⟩:=id p1;simp only at hc hd;subst hc hd;have hlen:its.length=xs.length:=r.length.symm;have hine:its.toArray.isEmpty=false:=by
  cases its with
  |nil=>exact absurd (r.nil_iff.mp rfl) hne
  |cons _ _=>rfl
 have hmul:(List.replicate k.toNat xs).flatten.length<=400:=by
  rw[ZF5];exact le_trans (Nat.mul_le_mul (show k.toNat<=20 by omega) h20) (by decide)
 have hnew:List.foldl (λx1 x2=>x1++x2) #[] (List.replicate k.toNat its.toArray)=(List.replicate k.toNat its).flatten.toArray:=by
  have:=ZCE its k.toNat [];rw[nil_append] at this
  exact this
 have hmI:(its.toArray.size:Int)*k<=400:=by
  rw[size_toArray,hlen];have:(xs.length:Int)*k<=20*20:=Int.mul_le_mul (by omega) k20 (by omega) (by decide);omega
 refine wpAny_binaryOp_repeat_ref (T:="tuple") (U:="int") (by decide) ⟨_,ho,rfl⟩ (λs'=>typeIs_int s' k t) HT.noFill_tuple_mul F.fills_int_mul F.slot_int_rmul HT.repeat_tuple F.slot_int_index.lookup
  (call_meets F.slot_int_rmul (typeIs_int s k t) F.entry_int_rmul (F.args_int_rmul_2 _ _) (HT.rmul_tup k t a its.toArray n dd sl)
   ⟨ho,rfl,⟨_,ho,rfl⟩,call_meets F.slot_tuple_mul ⟨_,ho,rfl⟩ F.entry_tuple_mul (F.args_tuple_mul_2 _ _) (HT.tuple_mulW a its.toArray n dd sl k t ?_ ?_ ?_ ?_ ?_ ?_) ⟨ho,?_⟩⟩)
 ·simp;omega
 ·rw[hine];simp;omega
 ·rw[hine];simp;omega
 ·omega
 ·unfold Builtin.Tuple.tupleTooMany
  have:(400:Int)<=(sizeLine:Int):=by decide
  rw[decide_eq_true_iff];omega
 ·rw[hnew,size_toArray,←(r.rep k.toNat).length]
  exact le_trans hmul (by decide)
 rw[hnew];exact⟨.ref s.heap.objs.size,_,I.laid (t':=s.toks) (o:=.tup (List.replicate k.toNat xs).flatten) (λb ob q=>get?_push_of_some _ q) (le_refl _) ⟨le_trans hmul (by decide),_,r.rep k.toNat,IsTup.new _ _⟩,rfl,q _ (I.hok.fresh (le_refl _))⟩
theorem oMul:OpR X (binaryOp .Mult) (rOp X.K ZA6):=by
 intro pins s σ H x y v u Q I rx ry h;obtain⟨ρ,a,b,g,z,g',hR,ra,rb,e,q⟩:=h;have lists:∀{k:Int},y=.int k->((Zb a g).bind λxs=>if k<=1000/\-1000<=k/\xs.length<=1000 then some (W.dat (.list (List.replicate k.toNat xs).flatten),g) else none)=some (z,g')->wpAny (model X.prog X.w) X.A (binaryOp .Mult v u) (EP X pins σ Q) X.xe s:=λ{k} hy e=>by
  obtain⟨xs,e1,e⟩:=bnd e;obtain⟨l,vs,rfl,h1,t1⟩:=ZW hR ra e1
  split at e
  ·rename_i hz
   obtain⟨z1,z2,z3⟩:=hz;cases e;refine ZK2 pins s σ H _ _ v u Q I rx ry ⟨l,k,vs,rfl,hy,h1,by omega,by omega,?_,λp hp=>q.new hR (t1.rep _) hp⟩;rw[t1.length];exact le_trans (Nat.mul_le_mul z3 (show k.toNat<=1000 by omega)) (by decide)
  ·cases e
 obtain⟨j,e0,e⟩:=bnd e;have:=ZAn rb e0;subst this
 cases ra with
 |dat ra =>
  cases ra with
  |int i =>
   change (if ZEK i j=true then some (W.dat (.int (i*j)),g) else none)=some (z,g') at e
   split at e
   ·rename_i hz
    cases e;exact ZLk pins s σ H _ _ v u Q I rx ry ⟨i,j,rfl,rfl,ZIY hz,q.at hR (.dat (.int _))⟩
   ·cases e
  |@tup a1 xs ds f1 t1 =>
   change (if ((decide (2<=j) && decide (j<=20)) && (!ds.isEmpty && decide (ds.length<=20)))=true then some (W.dat (.tuple (List.replicate j.toNat ds).flatten),g) else none)=some (z,g') at e
   split at e
   ·rename_i hz
    cases e;simp only[Bool.and_eq_true,decide_eq_true_eq,Bool.not_eq_true'] at hz;obtain⟨⟨z1,z2⟩,z3,z4⟩:=hz;refine ZIk pins s σ H _ _ v u Q I rx ry ⟨a1,j,xs,rfl,rfl,f1.sq,⟨z1,z2⟩,⟨λz=>?_,by rw[t1.length];exact z4⟩,λp hp=>q.newT hR (t1.rep _) hp⟩;subst z;cases t1;cases z3
   ·cases e
  |_=>exact lists rfl e
 |_=>exact lists rfl e
end
def ok0(d:PyData):Bool:=d.canLay0 && decide (d.depth<=40)
def ZCM:W->G->Option PyData
 |.dat d,_=>some d
 |.ref n,g=>(lk g n).map .list
 |_,_=>none
def ZA7(a b:W)(g:G):Option (W×G):=(ZCM a g).bind λx=>(ZCM b g).bind λy=>if (ok0 x && ok0 y)=true then some (.dat (.bool (x.eqv y)),g) else none
def ZGV(a b:W)(g:G):Option (W×G):=(ZCM a g).bind λx=>(ZCM b g).bind λy=>if (ok0 x && ok0 y)=true then some (.dat (.bool !x.eqv y),g) else none
def ZHa:W->G->Option (List PyData)
 |.dat (.tuple ys),_=>some ys
 |b,g=>Zb b g
def ZKq(a b:W)(g:G):Option (W×G):=(ZCM a g).bind λx=>(ZHa b g).bind λys=>if (ok0 x && PyData.canLayAll0 ys)=true then some (.dat (.bool (ys.any λy=>y.eqv x)),g) else none
def ZEU(a b:W)(g:G):Option (W×G):=(ZCM a g).bind λx=>(ZHa b g).bind λys=>if (ok0 x && PyData.canLayAll0 ys)=true then some (.dat (.bool !ys.any λy=>y.eqv x),g) else none
section
variable{X:Cx}
theorem Zr{pins:List (Addr×Obj)}{σ : St}{ρ : Rh}{H:Hp}{s:Shared}{g:G}{v:V}{w:W}{d:PyData}{u:Value}(I:Inv X pins σ H s)(hR:HR X.K ρ H g)(r:Rel X.K ρ H v w)(e:ZCM w g=some d)(c:d.canLay0=true)(ru:ZV v u):∃as,Reads s.heap u d as:=by
 cases r with
 |ty=>cases e
 |tup _ _=>cases e
 |inp _=>cases e
 |dat r=>cases e;exact r.reads I c ru
 |ref h =>
  obtain⟨ds,e1,rfl⟩:=mp e;obtain⟨a,vs,h1,h2,h3⟩:=hR.at_ _ _ (ZEG e1);rw[h] at h1;cases h1;cases ru;obtain⟨_,its,n,rv,e⟩:=I.hok _ _ h2;obtain⟨as,ra⟩:=h3.reads I (by rw[PyData.canLay0] at c;exact c) rv;exact⟨_,.list e rfl rfl (by simpa using ra)⟩
theorem oEq(hu:X.A.units+64<cLine):OpR X (compareOp .Eq) (rOp X.K ZA7):=by
 intro pins s σ H x y v u Q I rx ry h;obtain⟨ρ,a,b,g,z,g',hR,ra,rb,e,q⟩:=h;obtain⟨d1,e1,e⟩:=bnd e;obtain⟨d2,e2,e⟩:=bnd e
 split at e
 ·rename_i hz
  cases e;unfold ok0 at hz;simp only[Bool.and_eq_true,decide_eq_true_eq] at hz;obtain⟨as,r1⟩:=Zr I hR ra e1 hz.1.1 rx;obtain⟨bs,r2⟩:=Zr I hR rb e2 hz.2.1 ry;exact PySem.SeqAt.compareEq_reads r1 r2 hz.1.1 hz.2.1 (by have:=hz.1.2;omega) ⟨.bl _,H,I,rfl,q.at hR (.dat (.bl _))⟩
 ·cases e
theorem oNe(hu:X.A.units+64<cLine):OpR X (compareOp .NotEq) (rOp X.K ZGV):=by
 intro pins s σ H x y v u Q I rx ry h;obtain⟨ρ,a,b,g,z,g',hR,ra,rb,e,q⟩:=h;obtain⟨d1,e1,e⟩:=bnd e;obtain⟨d2,e2,e⟩:=bnd e
 split at e
 ·rename_i hz
  cases e;unfold ok0 at hz;simp only[Bool.and_eq_true,decide_eq_true_eq] at hz;obtain⟨as,r1⟩:=Zr I hR ra e1 hz.1.1 rx;obtain⟨bs,r2⟩:=Zr I hR rb e2 hz.2.1 ry;exact PySem.SeqAt.compareNe_reads r1 r2 hz.1.1 hz.2.1 (by have:=hz.1.2;omega) ⟨.bl _,H,I,rfl,q.at hR (.dat (.bl _))⟩
 ·cases e
theorem ZDn{pins:List (Addr×Obj)}{σ : St}{ρ : Rh}{H:Hp}{s:Shared}{g:G}{v:V}{w:W}{ds:List PyData}{u:Value}(I:Inv X pins σ H s)(hR:HR X.K ρ H g)(r:Rel X.K ρ H v w)(e:ZHa w g=some ds)(c:PyData.canLayAll0 ds=true)(ru:ZV v u):(∃as,Reads s.heap u (.list ds) as)∨∃as,Reads s.heap u (.tuple ds) as:=by
 cases r with
 |ty=>cases e
 |tup _ _=>cases e
 |inp _=>cases e
 |ref h=>exact .inl (Zr I hR (.ref h) (show ZCM (.ref _) g=some (.list ds) by show(lk g _).map PyData.list=_;rw[show lk g _=some ds from e];rfl) (by rw[PyData.canLay0];exact c) ru)
 |dat r =>
  cases r with
  |tup f t=>cases e;exact .inr ((RelD.tup f t).reads I (by rw[PyData.canLay0];exact c) ru)
  |lst h n t=>cases e;exact .inl ((RelD.lst h n t).reads I (by rw[PyData.canLay0];exact c) ru)
  |_=>cases e
theorem oIn(hu:X.A.units+64<cLine):OpR X (compareOp .In) (rOp X.K ZKq):=by
 intro pins s σ H x y v u Q I rx ry h;obtain⟨ρ,a,b,g,z,g',hR,ra,rb,e,q⟩:=h;obtain⟨d1,e1,e⟩:=bnd e;obtain⟨ds,e2,e⟩:=bnd e
 split at e
 ·rename_i hz
  cases e;unfold ok0 at hz;simp only[Bool.and_eq_true,decide_eq_true_eq] at hz;obtain⟨as,r1⟩:=Zr I hR ra e1 hz.1.1 rx;have hd:X.A.units+1+min (PyData.depthAll ds) d1.depth<cLine:=by have:=hz.1.2;have:=Nat.min_le_right (PyData.depthAll ds) d1.depth;omega
  rcases ZDn I hR rb e2 hz.2 ry with ⟨bs,r2⟩|⟨bs,r2⟩
  ·exact PySem.SeqAt.in_list_reads r2 r1 hz.2 hz.1.1 hd ⟨.bl _,H,I,rfl,q.at hR (.dat (.bl _))⟩
  ·exact PySem.SeqAt.in_tuple_reads r2 r1 hz.2 hz.1.1 hd ⟨.bl _,H,I,rfl,q.at hR (.dat (.bl _))⟩
 ·cases e
theorem ZK4(hu:X.A.units+64<cLine):OpR X (compareOp .NotIn) (rOp X.K ZEU):=by
 intro pins s σ H x y v u Q I rx ry h;obtain⟨ρ,a,b,g,z,g',hR,ra,rb,e,q⟩:=h;obtain⟨d1,e1,e⟩:=bnd e;obtain⟨ds,e2,e⟩:=bnd e
 split at e
 ·rename_i hz
  cases e;unfold ok0 at hz;simp only[Bool.and_eq_true,decide_eq_true_eq] at hz;obtain⟨as,r1⟩:=Zr I hR ra e1 hz.1.1 rx;have hd:X.A.units+1+min (PyData.depthAll ds) d1.depth<cLine:=by have:=hz.1.2;have:=Nat.min_le_right (PyData.depthAll ds) d1.depth;omega
  rcases ZDn I hR rb e2 hz.2 ry with ⟨bs,r2⟩|⟨bs,r2⟩
  ·exact PySem.SeqAt.notIn_list_reads r2 r1 hz.2 hz.1.1 hd ⟨.bl _,H,I,rfl,q.at hR (.dat (.bl _))⟩
  ·exact PySem.SeqAt.notIn_tuple_reads r2 r1 hz.2 hz.1.1 hd ⟨.bl _,H,I,rfl,q.at hR (.dat (.bl _))⟩
 ·cases e
end
def ZAi:List PyData->Option (List Int)
 |[]=>some []
 |.int i::r=>(ZAi r).map λns=>i::ns
 |_::_=>none
theorem ZA1{K:PySem.W.Frag}{ρ : Rh}{H:Hp}{ds:List PyData}:∀{vs:List V} {ns:List Int},RelDL K ρ H vs ds->ZAi ds=some ns->vs=ns.map V.int:=by
 induction ds with
 |nil=>intro vs ns t e;cases t;cases e;rfl
 |cons d r ih =>
  intro vs ns t e;cases t with
  |cons h t =>
   cases h with
   |int i =>
    obtain⟨ms,e1,rfl⟩:=mp e;rw[ih t e1];rfl
   |_=>cases e
def ZEt(ci:Int->Int->Option Bool)(ct:List Int->List Int->Option Bool)(cs:Str->Str->Option Bool):W->W->G->Option (W×G)
 |.dat (.int i),.dat (.int j),g=>(ci i j).map λb=>(.dat (.bool b),g)
 |.dat (.tuple xs),.dat (.tuple ys),g=>(ZAi xs).bind λns=>(ZAi ys).bind λms=>(ct ns ms).map λb=>(.dat (.bool b),g)
 |.dat (.str a),.dat (.str b),g=>(cs a b).map λb=>(.dat (.bool b),g)
 |_,_,_=>none
def ZD2:=ZEt (λi j=>some (decide (i<j))) (λns ms=>some (HT.lexLt ns ms)) λa b=>some (decide (a.cps.toList<b.cps.toList))
def ZGd:=ZEt (λi j=>some (decide (j<i))) (λns ms=>some (HT.lexGt ns ms)) λ_ _=>none
def ZHg:=ZEt (λi j=>some (decide (j<=i))) (λns ms=>some (HT.lexGe ns ms)) λ_ _=>none
section
variable{X:Cx}
theorem ZK5{op:CmpOp}{ci:Int->Int->Option Bool}{ct:List Int->List Int->Option Bool}{cs:Str->Str->Option Bool}
  (h1:OpR X (compareOp op) (λx y H Q=>∃i j k,x=.int i/\y=.int j/\ci i j=some k/\Q (.bl k) H))
  (h2:OpR X (compareOp op) (λx y H Q=>∃a b ns ms k,x=.ref a/\y=.ref b/\SqT X.K H a (ns.map V.int)/\SqT X.K H b (ms.map V.int)/\ct ns ms=some k/\Q (.bl k) H))
  (h3:OpR X (compareOp op) (λx y H Q=>∃a b k,x=.str a/\y=.str b/\cs a b=some k/\Q (.bl k) H)):OpR X (compareOp op) (rOp X.K (ZEt ci ct cs)):=by
 intro pins s σ H x y v u Q I rx ry h;obtain⟨ρ,a,b,g,z,g',hR,ra,rb,e,q⟩:=h;unfold ZEt at e
 split at e
 ·obtain⟨k,e3,e⟩:=mp e
  cases e;cases ra with
  |dat ra=>cases ra with
   |int i=>cases rb with
    |dat rb=>cases rb with
     |int j=>exact h1 pins s σ H _ _ v u Q I rx ry ⟨_,_,k,rfl,rfl,e3,q.at hR (.dat (.bl _))⟩
 ·obtain⟨ns,e1,e⟩:=bnd e
  obtain⟨ms,e2,e⟩:=bnd e;obtain⟨k,e3,e⟩:=mp e;cases e;cases ra with
  |dat ra=>cases ra with
   |tup f1 t1=>cases rb with
    |dat rb=>cases rb with
     |tup f2 t2 =>
      have i1:=ZA1 t1 e1;have i2:=ZA1 t2 e2;subst i1 i2;exact h2 pins s σ H _ _ v u Q I rx ry ⟨_,_,ns,ms,k,rfl,rfl,f1.sq,f2.sq,e3,q.at hR (.dat (.bl _))⟩
 ·obtain⟨k,e3,e⟩:=mp e
  cases e;cases ra with
  |dat ra=>cases ra with
   |str i=>cases rb with
    |dat rb=>cases rb with
     |str j=>exact h3 pins s σ H _ _ v u Q I rx ry ⟨_,_,k,rfl,rfl,e3,q.at hR (.dat (.bl _))⟩
 ·cases e
theorem oLt(hu:X.A.units+64<cLine):OpR X (compareOp .Lt) (rOp X.K ZD2):=ZK5 (op_lt.imp λ_ _ _ _ ⟨i,j,k,h1,h2,h5,q⟩=>⟨i,j,h1,h2,by cases h5;exact q⟩) ((ZLg (by omega)).imp λ_ _ _ _ ⟨a,b,ns,ms,k,h1,h2,h3,h4,h5,q⟩=>⟨a,b,ns,ms,h1,h2,h3,h4,by cases h5;exact q⟩) (ZGW.imp λ_ _ _ _ ⟨a,b,k,h1,h2,h5,q⟩=>⟨a,b,h1,h2,by cases h5;exact q⟩)
theorem oGt(hu:X.A.units+64<cLine):OpR X (compareOp .Gt) (rOp X.K ZGd):=ZK5 (op_gt.imp λ_ _ _ _ ⟨i,j,k,h1,h2,h5,q⟩=>⟨i,j,h1,h2,by cases h5;exact q⟩) ((ZKQ (by omega)).imp λ_ _ _ _ ⟨a,b,ns,ms,k,h1,h2,h3,h4,h5,q⟩=>⟨a,b,ns,ms,h1,h2,h3,h4,by cases h5;exact q⟩) λpins s σ H x y v u Q I rx ry ⟨_,_,_,_,_,h,_⟩=>nomatch h
theorem oGe(hu:X.A.units+64<cLine):OpR X (compareOp .GtE) (rOp X.K ZHg):=ZK5 (op_ge.imp λ_ _ _ _ ⟨i,j,k,h1,h2,h5,q⟩=>⟨i,j,h1,h2,by cases h5;exact q⟩) ((ZKV (by omega)).imp λ_ _ _ _ ⟨a,b,ns,ms,k,h1,h2,h3,h4,h5,q⟩=>⟨a,b,ns,ms,h1,h2,h3,h4,by cases h5;exact q⟩) λpins s σ H x y v u Q I rx ry ⟨_,_,_,_,_,h,_⟩=>nomatch h
def ixA:W->Int->G->Option (W×G)
 |.dat (.tuple ds),i,g=>(atI ds i).map λd=>(.dat d,g)
 |.inp ns,i,g=>(atI ns i).map λd=>(.dat (.int d),g)
 |.tup ws,i,g=>(atI ws i).map λw=>(w,g)
 |.ref n,i,g=>match g[n]? with
  |some (.pl ds)=>(atI ds i).map λd=>(.dat d,g)
  |some (.rl ws)=>(atI ws i).map λw=>(w,g)
  |_=>none
 |a,i,g=>(Zb a g).bind λds=>(atI ds i).map λd=>(.dat d,g)
def ZS(a b:W)(g:G):Option (W×G):=(ZBR b).bind λi=>ixA a i g
theorem ZD6{K:PySem.W.Frag}{ρ : Rh}{H:Hp}{vs:List V}{ds:List PyData}{i:Int}{d:PyData}(t:RelDL K ρ H vs ds)(e:atI ds i=some d):∃v,atI vs i=some v/\RelD K ρ H v d:=by
 unfold atI at *;rw[t.length];obtain⟨j,e1,e2⟩:=bnd e;rw[e1];exact t.getD e2
theorem ZEu{K:PySem.W.Frag}{ρ : Rh}{H:Hp}{vs:List V}{ds:List W}{i:Int}{d:W}(t:RelL K ρ H vs ds)(e:atI ds i=some d):∃v,atI vs i=some v/\Rel K ρ H v d:=by
 unfold atI at *;rw[t.length];obtain⟨j,e1,e2⟩:=bnd e;rw[e1];exact t.getD e2
theorem oIx:IxR X (rOp X.K ZS):=by
 intro value slice pins s σ H x y v u Q I rx ry h hs;obtain⟨ρ,a,b,g,z,g',hR,ra,rb,e,q⟩:=h;obtain⟨i,e0,e⟩:=bnd e;have:=ZAn rb e0;subst this
 have lists:((Zb a g).bind λds=>(atI ds i).map λd=>(W.dat d,g))=some (z,g')->wpAny (model X.prog X.w) X.A (subscriptTail value slice v u) (EP X pins σ Q) X.xe s:=λe=>by
  obtain⟨xs,e1,e⟩:=bnd e;obtain⟨d,e2,e⟩:=mp e;cases e;obtain⟨l,vs,rfl,h1,t1⟩:=ZW hR ra e1;obtain⟨w,e3,r3⟩:=ZD6 t1 e2;exact ZBw value slice pins s σ H _ _ v u Q I rx ry ⟨l,vs,i,w,rfl,rfl,SqL.of h1,e3,q.at hR (.dat r3)⟩ hs
 cases ra with
 |@ref a n h =>
  change (match g[n]? with|some (.pl ds)=>(atI ds i).map λd=>(W.dat d,g)|some (.rl ws)=>(atI ws i).map λw=>(w,g)|_=>none)=some (z,g') at e
  split at e
  ·rename_i ds e1
   obtain⟨d,e2,e⟩:=mp e;cases e;obtain⟨a',vs,k1,k2,k3⟩:=hR.at_ _ _ e1;rw[h] at k1;cases k1;obtain⟨w,e3,r3⟩:=ZD6 k3 e2;exact ZBw value slice pins s σ H _ _ v u Q I rx ry ⟨a,vs,i,w,rfl,rfl,SqL.of k2,e3,q.at hR (.dat r3)⟩ hs
  ·rename_i ws e1
   obtain⟨d,e2,e⟩:=mp e;cases e;obtain⟨a',k1,vs,k2,k3⟩:=hR.ce _ _ e1;rw[h] at k1;cases k1;obtain⟨w,e3,r3⟩:=ZEu k3 e2;exact ZBw value slice pins s σ H _ _ v u Q I rx ry ⟨a,vs,i,w,rfl,rfl,SqL.of k2,e3,q.at hR r3⟩ hs
  ·cases e
 |ty=>exact lists e
 |tup f t =>
  obtain⟨d,e2,e⟩:=mp e;cases e;obtain⟨w,e3,r3⟩:=ZEu t e2;exact ZHx value slice pins s σ H _ _ v u Q I rx ry ⟨_,_,i,w,rfl,rfl,f.sq,e3,q.at hR r3⟩ hs
 |@inp a ns h =>
  obtain⟨d,e2,e⟩:=mp e;cases e;refine ZBw value slice pins s σ H _ _ v u Q I rx ry ⟨a,_,i,.int d,rfl,rfl,h.sq,?_,q.at hR (.dat (.int _))⟩ hs;unfold atI at *;rw[length_map];obtain⟨j,e1,e2⟩:=bnd e2;rw[e1];show(ns.map V.int)[j]? = _;rw[getElem?_map,e2];rfl
 |dat ra =>
  cases ra with
  |tup f t =>
   obtain⟨d,e2,e⟩:=mp e;cases e;obtain⟨w,e3,r3⟩:=ZD6 t e2;exact ZHx value slice pins s σ H _ _ v u Q I rx ry ⟨_,_,i,w,rfl,rfl,f.sq,e3,q.at hR (.dat r3)⟩ hs
  |lst h n t=>exact lists e
  |_=>exact lists e
abbrev DO:=Sd->G->Option (Option Int×G)
def tO(K:PySem.W.Frag)(d:DO):TO:=λσ H Q=>∃ρ sd g i g',Rst K ρ H σ sd g/\d sd g=some (i,g')/\∀H' ρ',Stp ρ H ρ' H'->HR K ρ' H' g'->Q i H'
theorem PO.imp{e:Option Expr}{t u:TO}(h:PO X e t)(k:∀σ H Q,u σ H Q->t σ H Q):PO X e u:=λpins s σ H Q I q=>h pins s σ H Q I (k σ H Q q)
def ZBN:DO:=λ_ g=>some (none,g)
def ZCo(d:DE):DO:=λsd g=>(d sd g).bind λp=>match p.1 with|.dat (.int i)=>some (some i,p.2)|_=>none
theorem ZIZ:PO X none (tO X.K ZBN):=ZI4.imp λσ H Q ⟨ρ,sd,g,i,g',r,e,q⟩=>by
 cases e;exact q H ρ .refl r.hr
theorem ZIv{e:Expr}{d:DE}(h:PE X e (tE X.K d)):PO X (some e) (tO X.K (ZCo d)):=(ZJi h).imp λσ H Q ⟨ρ,sd,g,i,g',r,e,q⟩=>by
 obtain⟨⟨x,g1⟩,e1,e⟩:=bnd e;refine⟨ρ,sd,g,x,g1,r,e1,λv H1 ρ1 s1 h1 r1=>?_⟩;cases r1 with
 |dat r1 =>
  cases r1 with
  |int j=>cases e;exact⟨j,rfl,q H1 ρ1 s1 h1⟩
  |_=>cases e
 |_=>cases e
def ZBe{α : Type}(xs:List α)(lo hi:Option Int):List α:=(xs.drop (HT.sIx xs.length 0 lo)).take (HT.sIx xs.length xs.length hi-HT.sIx xs.length 0 lo)
def slO(w:W)(lo hi:Option Int)(g:G):Option (W×G):=match w with
 |.dat (.tuple ds)=>some (.dat (.tuple (ZBe ds lo hi)),g)
 |.inp ns=>some (.dat (.list (ZBe (ns.map .int) lo hi)),g)
 |w=>(Zb w g).map λds=>(.dat (.list (ZBe ds lo hi)),g)
def dSl(d:DE)(l h:DO):DE:=λsd g=>(d sd g).bind λp=>(l sd p.2).bind λa=>(h sd a.2).bind λb=>slO p.1 a.1 b.1 b.2
theorem ZD9{K:PySem.W.Frag}{ρ : Rh}{H:Hp}{vs:List V}{ds:List PyData}(t:RelDL K ρ H vs ds)(lo hi:Option Int):RelDL K ρ H (ZEN vs lo hi) (ZBe ds lo hi):=by
 unfold ZEN ZBe;rw[t.length];exact(t.drop _).take _
theorem ZKr:SlR X (λx lo hi H Q=>∃ρ w g z g',HR X.K ρ H g/\Rel X.K ρ H x w/\slO w lo hi g=some (z,g')/\Pv X.K ρ H z g' Q):=by
 intro pins s σ H x v vl vu lo hi sl Q I rx hs pl pu h;obtain⟨ρ,w,g,z,g',hR,rw_,e,q⟩:=h;have lists:((Zb w g).map λds=>(W.dat (.list (ZBe ds lo hi)),g))=some (z,g')->∃T id,typeLookup (.type T) "__getitem__" = pure (some (.builtin id))/\s.TypeIs v T/\wpAny (model X.prog X.w) X.A (getItem v (.ref sl)) (EP X pins σ Q) X.xe s:=λe=>by
  obtain⟨ds,e1,e⟩:=mp e;cases e;obtain⟨l,vs,rfl,h1,t1⟩:=ZW hR rw_ e1;exact ZFr pins s σ H _ v vl vu lo hi sl Q I rx hs pl pu ⟨l,vs,rfl,SqL.of h1,λp hp=>q.new hR (ZD9 t1 lo hi) hp⟩
 cases rw_ with
 |ref h=>exact lists e
 |ty=>exact lists e
 |tup _ _=>exact lists e
 |inp h =>
  cases e;exact ZFr pins s σ H _ v vl vu lo hi sl Q I rx hs pl pu ⟨_,_,rfl,h.sq,λp hp=>q.new hR (ZD9 RelDL.ofInts lo hi) hp⟩
 |dat r =>
  cases r with
  |@tup a xs ds f t =>
   cases e;refine ZIU pins s σ H _ v vl vu lo hi sl Q I rx hs pl pu ⟨_,_,rfl,f.sq,λhw=>?_,λ_ p hp=>q.newT hR (ZD9 t lo hi) hp⟩;refine q.at hR (.dat ?_);have e:ZBe ds lo hi=ds:=by
    unfold ZBe;rw[←t.length,hw.1,hw.2,t.length];simp
   rw[e];exact .tup f t
  |lst h n t=>exact lists e
  |_=>exact lists e
theorem de_sl{e:Expr}{lo hi:Option Expr}{d:DE}{l h:DO}{pos p2:Pos}(he:PE X e (tE X.K d))(hl:PO X lo (tO X.K l))(hh:PO X hi (tO X.K h)):PE X (.Subscript e (.Slice lo hi none p2) pos) (tE X.K (dSl d l h)):=(ZHc ZKr he hl hh).imp λσ H Q ⟨ρ,sd,g,x,g',r,e,q⟩=>by
 obtain⟨⟨y,g1⟩,e1,e⟩:=bnd e;obtain⟨⟨i,g2⟩,e2,e⟩:=bnd e;obtain⟨⟨j,g3⟩,e3,e⟩:=bnd e;refine⟨ρ,sd,g,y,g1,r,e1,λv H1 ρ1 s1 h1 r1=>⟨ρ1,sd,g1,i,g2,r.step s1 h1,e2,λH2 ρ2 s2 h2=>⟨ρ2,sd,g2,j,g3,r.step (s1.trans s2) h2,e3,λH3 ρ3 s3 h3=>?_⟩⟩⟩;exact⟨ρ3,y,g3,x,g',h3,r1.mono (s2.trans s3),e,q.step (s1.trans (s2.trans s3))⟩
end
def f1(f:W->G->Option (W×G)):List W->G->Option (W×G)
 |[w],g=>f w g
 |_,_=>none
def ZD3:W->G->Option (W×G)
 |.dat (.tuple ds),g=>some (.dat (.int (ds.length:Int)),g)
 |.inp ns,g=>some (.dat (.int (ns.length:Int)),g)
 |.ref n,g=>match g[n]? with
  |some (.pl ds)=>some (.dat (.int (ds.length:Int)),g)
  |some (.rl ws)=>some (.dat (.int (ws.length:Int)),g)
  |_=>none
 |w,g=>(Zb w g).map λds=>(.dat (.int (ds.length:Int)),g)
def ZEC:W->G->Option (W×G)
 |.dat (.int i),g=>some (.dat (.int i),g)
 |.dat (.bool b),g=>some (.dat (.int (if b=true then 1 else 0)),g)
 |_,_=>none
def ZKP:W->G->Option (W×G)
 |.dat (.int i),g=>some (.dat (.int (if i<0 then -i else i)),g)
 |_,_=>none
def ZAk:W->G->Option (W×G)
 |.dat (.tuple ds),g=>some (.dat (.tuple ds),g)
 |w,g=>(Zb w g).map λds=>(.dat (.tuple ds),g)
def ZLs:W->G->Option (W×G)
 |w,g=>(ZHa w g).map λds=>(.ref g.length,g++[.pl ds])
def ZAE:List PyData->Option (List Bool)
 |[]=>some []
 |.bool i::r=>(ZAE r).map λns=>i::ns
 |_::_=>none
def ZCq(w:W)(g:G):Option (W×G):=(Zb w g).bind λds=>(ZAE ds).map λbs=>(.dat (.bool (bs.all id)),g)
def ZIN(w:W)(g:G):Option (W×G):=(Zb w g).bind λds=>(ZAE ds).map λbs=>(.dat (.bool (bs.any id)),g)
def ZLc(f:Int->Int->Option Int):List W->G->Option (W×G)
 |[a,b],g=>(ZBR a).bind λi=>(ZBR b).bind λj=>(f i j).map λk=>(.dat (.int k),g)
 |_,_=>none
def ZLv:=ZLc λi j=>some (if j<i then j else i)
def ZIn:PyData->String
 |.none=>"NoneType"
 |.bool _=>"bool"
 |.int _=>"int"
 |.str _=>"str"
 |.list _=>"list"
 |.tuple _=>"tuple"
 |.dict _=>"dict"
def ZGb:List W->G->Option (W×G)
 |[.dat d,.ty T],g=>if T = "int"∨T = "bool"∨T = "tuple"∨T = "str" then some (.dat (.bool (isi (ZIn d) T)),g) else none
 |_,_=>none
section
variable{X:Cx}
theorem c1{f:Value}{fn:W->G->Option (W×G)}{r:List V->Hp->VK->Prop}(h:ZM X f r)(k:∀ρ H g x w z g' Q,HR X.K ρ H g->Rel X.K ρ H x w->fn w g=some (z,g')->Pv X.K ρ H z g' Q->r [x] H Q):ZM X f (rF X.K (f1 fn)):=h.imp λxs H Q ⟨ρ,ws,g,z,g',hR,rl,e,q⟩=>by
 cases rl with
 |nil=>cases e
 |cons r1 t =>
  cases t with
  |nil=>exact k ρ H g _ _ z g' Q hR r1 e q
  |cons _ _=>cases e
theorem cLen:ZM X (.builtin "len") (rF X.K (f1 ZD3)):=c1 ZEd λρ H g x w z g' Q hR r e q=>by
 have lists:((Zb w g).map λds=>(W.dat (.int (ds.length:Int)),g))=some (z,g')->∃p ys,[x]=[V.ref p]/\(SqL X.K H p ys∨SqT X.K H p ys)/\Q (.int ys.length) H:=λe=>by
  obtain⟨ds,e1,e⟩:=mp e;cases e;obtain⟨l,vs,rfl,h1,t1⟩:=ZW hR r e1;exact⟨l,vs,rfl,.inl (SqL.of h1),q.at hR (by rw[t1.length];exact .dat (.int _))⟩
 cases r with
 |@ref a n h =>
  change (match g[n]? with|some (.pl ds)=>some (W.dat (.int (ds.length:Int)),g)|some (.rl ws)=>some (W.dat (.int (ws.length:Int)),g)|_=>none)=some (z,g') at e
  split at e
  ·rename_i ds e1
   cases e;obtain⟨a',vs,k1,k2,k3⟩:=hR.at_ _ _ e1;rw[h] at k1;cases k1;exact⟨a,vs,rfl,.inl (SqL.of k2),q.at hR (by rw[k3.length];exact .dat (.int _))⟩
  ·rename_i ds e1
   cases e;obtain⟨a',k1,vs,k2,k3⟩:=hR.ce _ _ e1;rw[h] at k1;cases k1;exact⟨a,vs,rfl,.inl (SqL.of k2),q.at hR (by rw[k3.length];exact .dat (.int _))⟩
  ·cases e
 |ty=>exact lists e
 |tup _ _=>exact lists e
 |inp h=>cases e;exact⟨_,_,rfl,.inl h.sq,q.at hR (by rw[length_map];exact .dat (.int _))⟩
 |dat r =>
  cases r with
  |tup f t=>cases e;exact⟨_,_,rfl,.inr f.sq,q.at hR (by rw[t.length];exact .dat (.int _))⟩
  |lst h n t=>exact lists e
  |_=>exact lists e
theorem cInt:ZM X (.type "int") (rF X.K (f1 ZEC)):=c1 ZGa λρ H g x w z g' Q hR r e q=>by
 cases r with
 |dat r =>
  cases r with
  |int i=>cases e;exact .inl ⟨i,rfl,q.at hR (.dat (.int _))⟩
  |bl b=>cases e;exact .inr ⟨b,rfl,q.at hR (.dat (.int _))⟩
  |_=>cases e
 |_=>cases e
theorem cAbs:ZM X (.builtin "abs") (rF X.K (f1 ZKP)):=c1 ZGo λρ H g x w z g' Q hR r e q=>by
 cases r with
 |dat r =>
  cases r with
  |int i=>cases e;exact⟨i,rfl,q.at hR (.dat (.int _))⟩
  |_=>cases e
 |_=>cases e
theorem cTup:ZM X (.type "tuple") (rF X.K (f1 ZAk)):=c1 ZDa λρ H g x w z g' Q hR r e q=>by
 have lists:((Zb w g).map λds=>(W.dat (.tuple ds),g))=some (z,g')->∃p ys,[x]=[V.ref p]/\((SqL X.K H p ys/\∀l,H l=none->Q (.ref l) (upd H l (.tup ys)))∨(SqT X.K H p ys/\Q (.ref p) H)):=λe=>by
  obtain⟨ds,e1,e⟩:=mp e;cases e;obtain⟨l,vs,rfl,h1,t1⟩:=ZW hR r e1;exact⟨l,vs,rfl,.inl ⟨SqL.of h1,λp hp=>q.newT hR t1 hp⟩⟩
 cases r with
 |ref h=>exact lists e
 |ty=>exact lists e
 |tup _ _=>exact lists e
 |inp h=>exact lists e
 |dat r =>
  cases r with
  |tup f t=>cases e;exact⟨_,_,rfl,.inr ⟨f.sq,q.at hR (.dat (.tup f t))⟩⟩
  |lst h n t=>exact lists e
  |_=>exact lists e
theorem ZHC{K:PySem.W.Frag}{ρ : Rh}{H:Hp}{g:G}{v:V}{w:W}{ds:List PyData}(hR:HR K ρ H g)(r:Rel K ρ H v w)(e:ZHa w g=some ds):∃a vs,v=.ref a/\(SqL K H a vs∨SqT K H a vs)/\RelDL K ρ H vs ds:=by
 have lists:Zb w g=some ds->∃a vs,v=.ref a/\(SqL K H a vs∨SqT K H a vs)/\RelDL K ρ H vs ds:=λe=>by
  obtain⟨l,vs,rfl,h1,t1⟩:=ZW hR r e;exact⟨l,vs,rfl,.inl (SqL.of h1),t1⟩
 cases r with
 |ref h=>exact lists e
 |ty=>exact lists e
 |tup _ _=>exact lists e
 |inp h=>exact lists e
 |dat r =>
  cases r with
  |tup f t=>cases e;exact⟨_,_,rfl,.inr f.sq,t⟩
  |lst h n t=>exact lists e
  |_=>exact lists e
theorem cLisC:ZM X (.type "list") (rF X.K (f1 ZLs)):=c1 ZET λρ H g x w z g' Q hR r e q=>by
 obtain⟨ds,e1,e⟩:=mp e;cases e;obtain⟨l,vs,rfl,h1,t1⟩:=ZHC hR r e1;refine⟨l,vs,rfl,h1,λp hp=>?_⟩;obtain⟨hr2,st⟩:=hR.alloc hp t1;exact q _ _ _ st hr2 (.ref (by show(ρ.c++[p])[_]? = _;rw[←hR.len];simp))
theorem ZCR{K:PySem.W.Frag}{ρ : Rh}{H:Hp}{ds:List PyData}:∀{vs:List V} {ns:List Bool},RelDL K ρ H vs ds->ZAE ds=some ns->vs=ns.map V.bl:=by
 induction ds with
 |nil=>intro vs ns t e;cases t;cases e;rfl
 |cons d r ih =>
  intro vs ns t e;cases t with
  |cons h t =>
   cases h with
   |bl i =>
    obtain⟨ms,e1,rfl⟩:=mp e;rw[ih t e1];rfl
   |_=>cases e
theorem cAll(hc:X.calm=true):ZM X (.builtin "all") (rF X.K (f1 ZCq)):=c1 (ZG2 hc) λρ H g x w z g' Q hR r e q=>by
 obtain⟨ds,e1,e⟩:=bnd e;obtain⟨bs,e2,e⟩:=mp e;cases e;obtain⟨l,vs,rfl,h1,t1⟩:=ZW hR r e1;have:=ZCR t1 e2;subst this
 exact⟨l,bs,rfl,SqL.of h1,q.at hR (.dat (.bl _))⟩
theorem cInt2{f:Int->Int->Option Int}{c:Value}(h:ZM X c (λxs H Q=>∃i j k,xs=[.int i,.int j]/\f i j=some k/\Q (.int k) H)):ZM X c (rF X.K (ZLc f)):=h.imp λxs H Q ⟨ρ,ws,g,z,g',hR,rl,e,q⟩=>by
 unfold ZLc at e
 split at e
 ·obtain⟨i,e1,e⟩:=bnd e
  obtain⟨j,e2,e⟩:=bnd e;obtain⟨k,e3,e⟩:=mp e;cases e;cases rl with
  |cons r1 t=>cases t with
   |cons r2 t=>cases t with
    |nil =>
     rw[ZAn r1 e1,ZAn r2 e2];exact⟨i,j,k,rfl,e3,q.at hR (.dat (.int _))⟩
 ·cases e
theorem cMin(hc:X.calm=true):ZM X (.builtin "min") (rF X.K ZLv):=cInt2 ((ZGS hc).imp λ_ _ _ ⟨i,j,k,h1,h5,q⟩=>⟨i,j,h1,by cases h5;exact q⟩)
theorem kd_of{K:PySem.W.Frag}{ρ : Rh}{H:Hp}{v:V}{d:PyData}(r:RelD K ρ H v d):Kd K H v (ZIn d):=by
 cases r with
 |non=>exact .non
 |bl b=>exact .bl b
 |int i=>exact .int i
 |str x=>exact .str x
 |tup f t=>exact .tup f.sq
 |lst h n t=>exact .lst h
 |dct h n=>exact .dct h
theorem cIsi:ZM X (.builtin "isinstance") (rF X.K ZGb):=ZGM.imp λxs H Q ⟨ρ,ws,g,z,g',hR,rl,e,q⟩=>by
 cases rl with
 |nil=>cases e
 |cons r1 t =>
  cases r1 with
  |dat r1 =>
   cases t with
   |nil=>cases e
   |cons r2 t =>
    cases r2 with
    |@ty T =>
     cases t with
     |nil =>
      change (if T = "int"∨T = "bool"∨T = "tuple"∨T = "str" then some (W.dat (.bool (isi (ZIn _) T)),g) else none)=some (z,g') at e
      split at e
      ·rename_i hz
       cases e;exact⟨_,T,_,rfl,kd_of r1,hz,q.at hR (.dat (.bl _))⟩
      ·cases e
     |cons _ _=>cases e
    |_=>cases e
  |_=>cases e
theorem de_ty{x:Str}{n:String}{pos:Pos}(hg:Gl X x)(hm:X.mg x=none)(hv:bootBuiltins x=some (.type n))(hn:x≠"__name__":=by decide)(hd:(x == ("__debug__" : Str))=false:=by decide):PE X (.Name x pos) (tE X.K λ_ g=>some (.ty n,g)):=(ZJb (v:=.ty n) hg hm hv rfl hn hd).imp λσ H Q ⟨ρ,sd,g,y,g',hr,e,q⟩=>by
 cases e;exact q _ H ρ .refl hr.hr .ty
end
def ZDA(ns:List Int):List Int:=ns.mergeSort λa b=>decide (a<=b)
theorem ZH9{ns ms:List Int}(pm:ms.Perm ns)(pw:ms.Pairwise (· <= ·)):ms=ZDA ns:=by
 refine List.Perm.eq_of_pairwise (le:=λa b:Int=>a<=b) (λa b _ _ h1 h2=>Int.le_antisymm h1 h2) pw ?_ (pm.trans (List.mergeSort_perm _ _).symm);refine List.Pairwise.imp (λ{a b} h=>of_decide_eq_true h) (List.pairwise_mergeSort (le:=λa b:Int=>decide (a<=b)) (λa b c h1 h2=>?_) (λa b=>?_) ns)
 ·exact decide_eq_true (Int.le_trans (of_decide_eq_true h1) (of_decide_eq_true h2))
 ·rw[Bool.or_eq_true,decide_eq_true_iff,decide_eq_true_iff]
  exact Int.le_total a b
def ZJu(ks:List (Int×Int)):List (Int×Int):=ks.mergeSort λa b=>!gtW a b
theorem ZGz{ks js:List (Int×Int)}(pm:js.Perm ks)(pw:js.Pairwise (λa b=>gtW b a=true)):js=ZJu ks:=by
 have ha:∀a b:Int×Int,(!gtW a b)=true ↔ a.1<b.1∨(a.1=b.1/\a.2<=b.2):=λa b=>by
  rw[Bool.not_eq_true',←Bool.not_eq_true,ZAY];omega
 refine List.Perm.eq_of_pairwise (le:=λa b:Int×Int=>(!gtW a b)=true) (λa b _ _ h1 h2=>?_) (pw.imp λ{a b} h=>?_) ?_ (pm.trans (List.mergeSort_perm _ _).symm)
 ·rw[ha] at h1 h2
  exact Prod.ext (by omega) (by omega)
 ·rw[ha]
  rw[ZAY] at h;omega
 ·refine List.pairwise_mergeSort (le:=λa b=>!gtW a b) (λa b c h1 h2=>?_) (λa b=>?_) ks
  ·rw[ha] at *
   omega
  ·rw[Bool.or_eq_true,ha,ha]
   omega
def ZFh:PyData->Option (Int×Int)
 |.tuple [.int i,.int j]=>some (i,j)
 |_=>none
theorem ZGU{d:PyData}{k:Int×Int}(h:ZFh d=some k):d=Z2 k:=by
 unfold ZFh at h
 split at h
 ·cases h;rfl
 ·cases h
def pairsOf:List PyData->Option (List (Int×Int))
 |[]=>some []
 |d::r=>(ZFh d).bind λk=>(pairsOf r).map λns=>k::ns
theorem ZDH:∀{ds:List PyData} {ks:List (Int×Int)},pairsOf ds=some ks->ds=ks.map Z2
 |[],_,e=>by cases e;rfl
 |d::r,_,e=>by
  rw[pairsOf] at e;obtain⟨k,e0,e⟩:=bnd e;obtain⟨ms,e1,rfl⟩:=mp e;rw[ZDH e1,ZGU e0];rfl
def ZGt(w:W)(g:G):Option (W×G):=(Zb w g).bind λds=>match ZAi ds with
 |some ns=>if ns.length<64 then some (.dat (.list ((ZDA ns).map .int)),g) else none
 |none=>(pairsOf ds).bind λks=>if ks.Nodup/\ks.length<=6 then some (.dat (.list ((ZJu ks).map Z2)),g) else none
section
variable{X:Cx}{pins:List (Addr×Obj)}{σ : St}{H:Hp}{s:Shared}{ρ : Rh}
theorem RelD.tupI{K:PySem.W.Frag}{v:V}{ds:List PyData}(h:RelD K ρ H v (.tuple ds)):∃a xs,v=.ref a/\FzT K ρ H a xs/\RelDL K ρ H xs ds:=by
 cases h with
 |tup f t=>exact⟨_,_,rfl,f,t⟩
theorem RelD.pairI{K:PySem.W.Frag}{v:V}{k:Int×Int}(h:RelD K ρ H v (Z2 k)):∃a,v=.ref a/\FzT K ρ H a [.int k.1,.int k.2]:=by
 obtain⟨a,xs,rfl,f,t⟩:=RelD.tupI (ds:=[.int k.1,.int k.2]) h;have:=RelDL.ints (ns:=[k.1,k.2]) t;subst this
 exact⟨a,rfl,f⟩
theorem ZGl(I:Inv X pins σ H s):∀{ks:List (Int×Int)} {ys:List V} {its:List Value},RelDL X.K ρ H ys (ks.map Z2)->ZK ys its->PairsIn s.heap its ks:=by
 intro ks
 induction ks with
 |nil =>
  intro ys its t r;cases t;cases r;exact .nil
 |cons k ks ih =>
  intro ys its t r;rw[map_cons] at t;cases t with
  |cons t1 t2 =>
   obtain⟨a,rfl,f⟩:=RelD.pairI t1;cases r with
   |cons r1 r2 =>
    cases r1;obtain⟨i2,v,it,_⟩:=I.tuple f.sq;cases v with
    |cons v1 v2=>cases v2 with
     |cons v2 v3 =>
      cases v3;obtain⟨t,rfl⟩:=v1;obtain⟨u,rfl⟩:=v2;exact .cons it (ih t2 r2)
theorem ZKj{K:PySem.W.Frag}:∀{ks:List (Int×Int)} {ys:List V},RelDL K ρ H ys (ks.map Z2)->∀{i:Nat},i<ks.length->RelD K ρ H (ys.getD i .non) (Z2 (ks.getD i (0,0))):=by
 intro ks
 induction ks with
 |nil=>intro ys t i z;exact absurd z (not_lt_zero _)
 |cons k ks ih =>
  intro ys t i z;rw[map_cons] at t;cases t with
  |cons t1 t2 =>
   cases i with
   |zero=>exact t1
   |succ i=>exact ih t2 (Nat.lt_of_succ_lt_succ z)
theorem ZE2{K:PySem.W.Frag}{ys:List V}{ks:List (Int×Int)}(t:RelDL K ρ H ys (ks.map Z2)):∀{p:List Nat},(∀i∈p,i<ks.length)->RelDL K ρ H (p.map λi=>ys.getD i .non) ((p.map λi=>ks.getD i (0,0)).map Z2)
 |[],_=>.nil
 |i::p,h=>.cons (ZKj t (h i (mem_cons_self ..))) (ZE2 t λj hj=>h j (mem_cons_of_mem _ hj))
end
section
variable{X:Cx}
theorem ZEW:ZM X (.builtin "sorted") (λxs H Q=>∃(ρ : Rh) (p:Addr) (ys:List V) (ks:List (Int×Int)),xs=[.ref p]/\SqL X.K H p ys/\RelDL X.K ρ H ys (ks.map Z2)/\ks.Nodup/\ks.length<=6/\∀l (zs:List V) (js:List (Int×Int)),H l=none->RelDL X.K ρ H zs (js.map Z2)->js.Perm ks->js.Pairwise (λa b=>gtW b a=true)->Q (.ref l) (upd H l (.lst zs))):=by
 intro pins s σ H xs us Q I r h;obtain⟨ρ,p,ys,ks,rfl,hq,ht,hn,h6,q⟩:=h;obtain⟨u,rfl,ru⟩:=ZAm r;cases ru;obtain⟨its,rv,pl,hz⟩:=I.list hq;have hP:=ZGl I ht rv;have hyl:ys.length=ks.length:=by rw[ht.length,length_map]
 refine ZEM pl.isList hP hn h6 λp hpp hps=>?_
 have hin:∀i∈p,i<ks.length:=λi hi=>List.mem_range.mp (hpp.mem_iff.mp hi)
 obtain⟨e,he⟩:=sortedAll_at s.heap its (p.map λi=>its.getD i Value.none).toArray;have rv':=ZDf rv (p:=p) (λi hi=>by rw[hyl];exact hin i hi);have pm:(p.map λi=>ks.getD i (0,0)).Perm ks:=by
  have:=hpp.map λi=>ks.getD i (0,0)
  rw[ZAX] at this
  exact this
 refine⟨.ref (s.heap.objs.size+1),_,I.laid (t':=s.toks) (λb o e=>sortedAll_old e) (le_succ _) (o:=.lst (p.map λi=>ys.getD i .non)) ⟨?_,_,e,rv',he⟩,rfl,q _ _ (p.map λi=>ks.getD i (0,0)) (I.hok.fresh (le_succ _)) (ZE2 ht hin) pm hps⟩;rw[length_map,hpp.length_eq,length_range];exact le_of_lt (ZP (by omega))
theorem cSrt:ZM X (.builtin "sorted") (rF X.K (f1 ZGt)):=c1 (ZEz.or ZEW) λρ H g x w z g' Q hR r e q=>by
 obtain⟨ds,e1,e⟩:=bnd e;obtain⟨l,vs,rfl,h1,t1⟩:=ZW hR r e1;cases hi:ZAi ds with
 |some ns =>
  rw[hi] at e;have:=ZA1 t1 hi;subst this
  dsimp only at e
  split at e
  ·rename_i hz
   cases e;refine .inl ⟨l,ns,rfl,SqL.of h1,hz,λp ms hp pm pw=>?_⟩;rw[ZH9 pm pw];exact q.new hR RelDL.ofInts hp
  ·cases e
 |none =>
  rw[hi] at e;obtain⟨ks,e2,e'⟩:=bnd e;have:=ZDH e2;subst this
  clear e;have e:=e';clear e'
  split at e
  ·rename_i hz
   cases e;refine .inr ⟨ρ,l,vs,ks,rfl,SqL.of h1,t1,hz.1,hz.2,λp zs js hp tz pm pw=>?_⟩;rw[ZGz pm pw] at tz;exact q.new hR tz hp
  ·cases e
end
section
variable{X:Cx}
def isL(g:G)(n:Nat):Bool:=match g[n]? with|some (.pl _)=>true|some (.rl _)=>true|_=>false
theorem ZFB{g:G}{n:Nat}{ds:List PyData}(h:g[n]? = some (.pl ds)):isL g n=true:=by
 unfold isL;rw[h]
theorem ZLn{K:PySem.W.Frag}{ρ : Rh}{H:Hp}{g:G}{n:Nat}{a:Addr}(h:isL g n=true)(hR:HR K ρ H g)(ha : ρ.c[n]? = some a):∃vs,H a=some (.lst vs):=by
 unfold isL at h
 split at h
 ·rename_i ds e
  obtain⟨b,h1,vs,h2,_⟩:=hR.ce _ _ e;rw[ha] at h1;cases h1;exact⟨vs,h2⟩
 ·rename_i ds e
  obtain⟨b,h1,vs,h2,_⟩:=hR.ce _ _ e;rw[ha] at h1;cases h1;exact⟨vs,h2⟩
 ·cases h
def ZEF(dl d:DE):DE:=λsd g=>(dl sd g).bind λl=>match l.1 with
 |.ref n=>if isL l.2 n=true then (d sd l.2).bind λp=>match p.1 with
  |.dat x=>match p.2[n]? with
   |some (.pl ds)=>if ds.length<1000 then some (.dat .none,p.2.set n (.pl (ds++[x]))) else none
   |some (.rl ws)=>if ws.length<1000 then some (.dat .none,p.2.set n (.rl (ws++[.dat x]))) else none
   |_=>none
  |x=>match p.2[n]? with
   |some (.rl ws)=>if ws.length<1000 then some (.dat .none,p.2.set n (.rl (ws++[x]))) else none
   |_=>none
  else none
 |_=>none
theorem ZKE{o e:Expr}{dl d:DE}{apos cpos:Pos}(ho:PE X o (tE X.K dl))(he:PE X e (tE X.K d))(hbase:attributeBase o "append" X.env (eval o X.env)=eval o X.env:=by rfl)
  (hfew:((backTo cpos (starEach [e] X.env)).all (λ x=>!x.1) && (backToKw cpos (keywordEach [] X.env)).all (λ x=>x.1.isSome)
   && decide ([e].length+([]:List Keyword).length+(if ([]:List Keyword).isEmpty then 0 else 1)<30))=true:=by rfl)
  (hline:(apos.endLine == cpos.line)=true:=by rfl)(hs:starEach [e] X.env=(false,eval e X.env)::starEach [] X.env:=by rfl)(hplain:(backTo cpos (starEach [] X.env)).any (·.1)=false:=by rfl) :
  PE X (.Call (.Attribute o "append" apos) [e] [] cpos) (tE X.K (ZEF dl d)):=(pe_bm PySem.F.plainAttrs_list PySem.F.slot_list_append PySem.F.type_list_append ZDe ho (ZF3 he ZHf hs) hbase hfew hline hs hplain).imp λσ H Q ⟨ρ,sd,g,x,g',r,e,q⟩=>by
 obtain⟨⟨y,g1⟩,e1,e⟩:=bnd e;refine⟨ρ,sd,g,y,g1,r,e1,λv H1 ρ1 s1 h1 r1=>?_⟩;cases r1 with
 |@ref la ln hn =>
  dsimp only at e
  split at e
  case isFalse=>cases e
  rename_i hil
  obtain⟨⟨p,g2⟩,e2,e⟩:=bnd e;have rich:∀{H2:Hp} {ρ2:Rh} {v2:V} {ws:List W},Stp ρ1 H1 ρ2 H2->HR X.K ρ2 H2 g2->Rel X.K ρ2 H2 v2 p->g2[ln]? = some (.rl ws)->(if ws.length<1000 then some (W.dat .none,g2.set ln (.rl (ws++[p]))) else none)=some (x,g')->∃us,H2 la=some (.lst us)/\us.length<sizeLine/\Q .non (upd H2 la (.lst (us++[v2]))):=λ{H2 ρ2 v2 ws} s2 h2 r2 e3 e=>by
   split at e
   ·rename_i hz
    cases e;obtain⟨a',k1,us,k2,k3⟩:=h2.ce _ _ e3;have hn2:=ZBu s2 hn;rw[hn2] at k1;cases k1;obtain⟨hw,sw⟩:=h2.writeC hn2 (o:=.lst (us++[v2])) (c:=.rl (ws++[p])) (λu e=>by rw[k2] at e;cases e;rfl) (λs=>⟨_,ZI,(k3.append (.cons r2 .nil)).mono s⟩);exact⟨us,k2,by rw[k3.length];exact ZP (by omega),q _ _ ρ2 (s1.trans (s2.trans sw)) hw (.dat .non)⟩
   ·cases e
  have plain:∀{H2:Hp} {ρ2:Rh} {v2:V} {d:PyData} {ds:List PyData},Stp ρ1 H1 ρ2 H2->HR X.K ρ2 H2 g2->RelD X.K ρ2 H2 v2 d->g2[ln]? = some (.pl ds)->(if ds.length<1000 then some (W.dat .none,g2.set ln (.pl (ds++[d]))) else none)=some (x,g')->∃us,H2 la=some (.lst us)/\us.length<sizeLine/\Q .non (upd H2 la (.lst (us++[v2]))):=λ{H2 ρ2 v2 d ds} s2 h2 r2 e3 e=>by
   split at e
   ·rename_i hz
    cases e;obtain⟨a',us,k1,k2,k3⟩:=h2.at_ _ _ e3;have hn2:=ZBu s2 hn;rw[hn2] at k1;cases k1;obtain⟨hw,sw⟩:=h2.write hn2 k2 (k3.append (.cons r2 .nil));exact⟨us,k2,by rw[k3.length];exact ZP (by omega),q _ _ ρ2 (s1.trans (s2.trans sw)) hw (.dat .non)⟩
   ·cases e
  have both:∀{H2:Hp} {ρ2:Rh} {v2:V},Stp ρ1 H1 ρ2 H2->HR X.K ρ2 H2 g2->Rel X.K ρ2 H2 v2 p->∃us,H2 la=some (.lst us)/\us.length<sizeLine/\Q .non (upd H2 la (.lst (us++[v2]))):=λ{H2 ρ2 v2} s2 h2 r2=>by
   have rest:∀{w},p=w->(match g2[ln]? with|some (.rl ws)=>if ws.length<1000 then some (W.dat .none,g2.set ln (.rl (ws++[w]))) else none|_=>none)=some (x,g')->∃us,H2 la=some (.lst us)/\us.length<sizeLine/\Q .non (upd H2 la (.lst (us++[v2]))):=λ{w} ew e=>by
    split at e
    ·rename_i ws e3
     exact rich s2 h2 r2 e3 (by rw[ew];exact e)
    ·cases e
   cases p with
   |dat d =>
    dsimp only at e;cases r2 with
    |dat r2 =>
     split at e
     ·rename_i ds e3
      exact plain s2 h2 r2 e3 e
     ·rename_i ws e3
      exact rich s2 h2 (.dat r2) e3 e
     ·cases e
   |ref n=>exact rest rfl e
   |inp n=>exact rest rfl e
   |ty n=>exact rest rfl e
   |tup n=>exact rest rfl e
  obtain⟨us0,h0⟩:=ZLn hil h1 hn;refine⟨.inl ⟨rfl,_,SqL.of h0⟩,ρ1,sd,g1,[p],g2,r.step s1 h1,by show(d sd g1).bind _=_;rw[e2];rfl,λvs H2 ρ2 s2 h2 r2=>?_⟩;cases r2 with
  |cons r2 t =>
   cases t;obtain⟨us,k1,k2,k3⟩:=both s2 h2 r2;exact⟨_,us,_,rfl,rfl,k1,k2,k3⟩
 |dat r1=>cases r1 <;> cases e
 |_=>cases e
def ZCj(dl di d:DE):DS:=λsd g=>(d sd g).bind λv=>(dl sd v.2).bind λl=>(di sd l.2).bind λi=>match l.1,i.1,v.1 with
 |.ref n,.dat (.int k),.dat x=>match i.2[n]? with
  |some (.pl ds)=>(ixN ds.length k).map λj=>.nx sd (i.2.set n (.pl (ds.set j x)))
  |some (.rl ws)=>(ixN ws.length k).map λj=>.nx sd (i.2.set n (.rl (ws.set j (.dat x))))
  |_=>none
 |.ref n,.dat (.int k),x=>match i.2[n]? with
  |some (.rl ws)=>(ixN ws.length k).map λj=>.nx sd (i.2.set n (.rl (ws.set j x)))
  |_=>none
 |_,_,_=>none
theorem ZKI{o i e:Expr}{dl di d:DE}{pos tpos:Pos}(he:PE X e (tE X.K d))(ho:PE X o (tE X.K dl))(hi:PE X i (tE X.K di))(ha:∀v,assign (.Subscript o i tpos) X.env v=(do
   let ov ←holding [v] (eval o X.env)
   let iv ←holding [v,ov] (eval i X.env)
   standAt tpos
   holding [v,ov,iv] (setItem ov iv v)
   release [v,ov,iv] []):=by intro _;rfl) (hs:swapsWithSole [.Subscript o i tpos] e pos.line X.env=pure false:=by rfl) (hw:swappedStores [.Subscript o i tpos] e X.env=pure none:=by rfl)
  (h1:(assignEach [.Subscript o i tpos] X.env).map (·.2)=[assign (.Subscript o i tpos) X.env]:=by rfl):PS X (.Assign [.Subscript o i tpos] e pos) (tS X.K (ZCj dl di d)):=(ZFR he (ZFL ho hi ZCn ha) hs hw h1).imp λD σ H ⟨ρ,sd,g,oo,r,e,q⟩=>by
 obtain⟨⟨y,g1⟩,e1,e⟩:=bnd e;obtain⟨⟨l,g2⟩,e2,e⟩:=bnd e;obtain⟨⟨k,g3⟩,e3,e⟩:=bnd e;refine⟨ρ,sd,g,y,g1,r,e1,λv H1 ρ1 s1 h1 r1=>⟨ρ1,sd,g1,l,g2,r.step s1 h1,e2,λu H2 ρ2 s2 h2 r2=>⟨ρ2,sd,g2,k,g3,r.step (s1.trans s2) h2,e3,λt H3 ρ3 s3 h3 r3=>?_⟩⟩⟩;have r1':=(r1.mono s2).mono s3;have r2':=r2.mono s3;have sall:=s1.trans (s2.trans s3);cases r2' with
 |@ref la ln hn =>
  cases r3 with
  |dat r3 =>
   cases r3 with
   |int kk =>
    have rich:∀{ws:List W},g3[ln]? = some (.rl ws)->((ixN ws.length kk).map λj=>Out.nx sd (g3.set ln (.rl (ws.set j y))))=some oo->∃p xs k n,V.ref la=V.ref p/\V.int kk=V.int k/\H3 p=some (.lst xs)/\ixN xs.length k=some n/\D.nx σ (upd H3 p (.lst (xs.set n v))):=λ{ws} e4 e=>by
     obtain⟨j,e5,e⟩:=mp e;cases e;obtain⟨a',k1,us,k2,k3⟩:=h3.ce _ _ e4;rw[hn] at k1;cases k1;obtain⟨hw,sw⟩:=h3.writeC hn (o:=.lst (us.set j v)) (c:=.rl (ws.set j y)) (λu e=>by rw[k2] at e;cases e;rfl) (λs=>⟨_,ZI,(k3.set r1' j).mono s⟩);exact⟨_,us,kk,j,rfl,rfl,k2,by rw[k3.length];exact e5,q σ _ ρ3 (sall.trans sw) (r.step (sall.trans sw) hw)⟩
    have rest:∀{w},y=w->(match g3[ln]? with|some (.rl ws)=>((ixN ws.length kk).map λj=>Out.nx sd (g3.set ln (.rl (ws.set j w))))|_=>none)=some oo->∃p xs k n,V.ref la=V.ref p/\V.int kk=V.int k/\H3 p=some (.lst xs)/\ixN xs.length k=some n/\D.nx σ (upd H3 p (.lst (xs.set n v))):=λ{w} ew e=>by
     split at e
     ·rename_i ws e4
      exact rich e4 (by rw[ew];exact e)
     ·cases e
    cases y with
    |dat d =>
     dsimp only at e
     split at e
     ·rename_i ds e4
      obtain⟨j,e5,e⟩:=mp e;cases e;obtain⟨a',us,k1,k2,k3⟩:=h3.at_ _ _ e4;rw[hn] at k1;cases k1;cases r1' with
      |dat r1' =>
       obtain⟨hw,sw⟩:=h3.write hn k2 (k3.set r1' j);exact⟨_,us,kk,j,rfl,rfl,k2,by rw[k3.length];exact e5,q σ _ ρ3 (sall.trans sw) (r.step (sall.trans sw) hw)⟩
     ·rename_i ws e4
      exact rich e4 e
     ·cases e
    |ref n=>exact rest rfl e
    |inp n=>exact rest rfl e
    |ty n=>exact rest rfl e
    |tup n=>exact rest rfl e
   |_=>cases e
  |_=>cases e
 |dat r2=>cases e
 |_=>cases e
end
structure JE (X:Cx) (e:Expr) (d:DE):Prop where
 h:PE X e (tE X.K d)
structure JT (X:Cx) (e:Expr) (d:DB):Prop where
 h:PT X e (tT X.K d)
structure JW (X:Cx) (e:Expr) (d:DB):Prop where
 h:PW X e (tT X.K d)
structure JA (X:Cx) (e:List Expr) (d:DA):Prop where
 h:PA X e (tA X.K d)
structure JS (X:Cx) (e:Stmt) (d:DS):Prop where
 h:PS X e (tS X.K d)
structure JSs (X:Cx) (e:List Stmt) (d:DS):Prop where
 h:PSs X e (tS X.K d)
structure JG (X:Cx) (e:Expr) (d:Pat):Prop where
 h:PG X e (gP X.K d)
structure JGs (X:Cx) (e:List Expr) (d:Pats):Prop where
 h:PGs X e (gPs X.K d)
structure JI (X:Cx) (tg e:Expr) (d:DI):Prop where
 h:PI X tg e (tI X.K d)
structure JO (X:Cx) (e:Option Expr) (d:DO):Prop where
 h:PO X e (tO X.K d)
structure JTs (X:Cx) (e:List Expr) (d:DB):Prop where
 h:PTs X e (tT X.K d)
theorem JW.pt{X:Cx}{e:Expr}{d:DB}(j:JW X e d):JT X e d:=⟨j.h.pt⟩
section
variable{X:Cx}{a b c e:Expr}{es:List Expr}{da db dc d:DE}{ta tb:DB}{aa:DA}{pos p2:Pos}{f f':W->W->G->Option (W×G)}
theorem ZIr(i:Nat){x:Str}{pos:Pos}(hN:X.N[i]? = some x:=by rfl)(hv:Vis X.env.scope x:=by first|exact Or.inl rfl|exact Or.inr (Or.inl rfl)|exact Or.inr (Or.inr rfl))(hd:(x == ("__debug__" : Str))=false:=by decide)(hcd:(x == ("__classdict__" : Str))=false:=by decide):JE X (.Name x pos) (ZB i):=⟨ZJ6 i hN hv hd hcd⟩
theorem ZIz{i j pos}:JE X (.Constant (.int i) j pos) (dC (.int i)):=⟨ZLP ⟩
theorem ZLm{b j pos}:JE X (.Constant (.bool b) j pos) (dC (.bool b)):=⟨de_bl ⟩
theorem ZIK{x j pos}:JE X (.Constant (.str x) j pos) (dC (.str x)):=⟨ZLh ⟩
theorem ZK1{op:Operator}(ho:OpR X (binaryOp op) (rOp X.K f))(ha:JE X a da)(hb:JE X b db):JE X (.BinOp a op b pos) (dOp f da db):=⟨de_op ho ha.h hb.h⟩
theorem ZIp{op:CmpOp}(ho:OpR X (compareOp op) (rOp X.K f))(ha:JE X a da)(hb:JE X b db)(hm:behindInMarks op b=false):JE X (.Compare a [op] [b] pos) (dOp f da db):=⟨ZKW ho ha.h hb.h hm⟩
theorem ZHb(ho:IxR X (rOp X.K f))(ha:JE X a da)(hb:JE X b db)(hs:ZB0 b):JE X (.Subscript a b pos) (dOp f da db):=⟨de_ix ho ha.h hb.h hs⟩
theorem ZJV{op:CmpOp}(ho:OpR X (compareOp op) (rOp X.K f))(ha:JE X a da)(hb:JE X b db)(hm:behindInMarks op b=false):JT X (.Compare a [op] [b] pos) (dB (dOp f da db)):=⟨ZKg ho ha.h hb.h hm⟩
theorem ZJZ(h:JE X e d)(he:∀whole,isTrue e X.env whole=(do let v ←whole;standAt e.pos;holding [v] (truthy v)):=by intro _;rfl):JT X e (dB d):=⟨ZKD h.h he⟩
theorem ZIE(h:JT X a ta):JT X (.UnaryOp .Not a pos) (ZD1 ta):=⟨ZK0 h.h⟩
theorem ZHp(h:JT X a ta):JW X (.BoolOp .And [a] pos) ta:=⟨ZIW h.h⟩
theorem ZIj(h:JT X a ta):JW X (.BoolOp .Or [a] pos) ta:=⟨ZLV h.h⟩
theorem ZFy{rest:List Expr}(ha:JT X a ta)(hb:JW X (.BoolOp .And (b::rest) pos) tb):JW X (.BoolOp .And (a::b::rest) pos) (ZBq ta tb):=⟨ZKK ha.h hb.h⟩
theorem ZH8{rest:List Expr}(ha:JT X a ta)(hb:JW X (.BoolOp .Or (b::rest) pos) tb):JW X (.BoolOp .Or (a::b::rest) pos) (dOr ta tb):=⟨dw_or ha.h hb.h⟩
theorem ZJg{op}(h:JE X a da):JE X (.BoolOp op [a] pos) da:=⟨ZKT h.h⟩
theorem ZIt{rest:List Expr}(ha:JE X a da)(hb:JE X (.BoolOp .And (b::rest) pos) db):JE X (.BoolOp .And (a::b::rest) pos) (ZAZ da db):=⟨ZKv ha.h hb.h⟩
theorem ZIO(ha:JE X a da):JE X (.UnaryOp .Not a pos) (ZDw da):=⟨ZKe ha.h⟩
theorem ZI1  : JA X [] ZD:=⟨ZHf ⟩
theorem ZH0(ha:JE X e d)(hr:JA X es aa)(hs:starEach (e::es) X.env=(false,eval e X.env)::starEach es X.env:=by rfl):JA X (e::es) (ZA d aa):=⟨ZF3 ha.h hr.h hs⟩
theorem ZIX{x1}(h:JA X es aa):JE X (.Tuple es x1 pos) (dF Z5 aa):=⟨ZK9 h.h⟩
theorem ZId(h:JA X es aa):JE X (.List es pos) (dF ZCX aa):=⟨ZKZ h.h⟩
theorem ZHh(h:JA X es aa):JE X (.List es pos) (dF ZCP aa):=⟨ZIx h.h⟩
end
section
variable{X:Cx}{x:Str}{p pos:Pos}{e:Expr}{es:List Expr}{aa:DA}{id T:String}{fn:List W->G->Option (W×G)}
theorem ZDp(hc:ZM X (.builtin id) (rF X.K fn))(hg:Gl X x)(hm:X.mg x=none)(hv:bootBuiltins x=some (.builtin id))(ha:JA X (e::es) aa)(hn:x≠"__name__":=by decide)(hdb:(x == ("__debug__" : Str))=false:=by decide)(he:starEach (e::es) X.env=(false,eval e X.env)::starEach es X.env:=by rfl)(hpl:(backTo pos (starEach es X.env)).any (·.1)=false:=by rfl):JE X (.Call (.Name x p) (e::es) [] pos) (dF fn aa):=⟨ZHs hc hg hm hv ha.h hn hdb he hpl⟩
theorem ZFY(hc:ZM X (.type T) (rF X.K fn))(hg:Gl X x)(hm:X.mg x=none)(hv:bootBuiltins x=some (.type T))(ha:JA X (e::es) aa)(hn:x≠"__name__":=by decide)(hdb:(x == ("__debug__" : Str))=false:=by decide)(he:starEach (e::es) X.env=(false,eval e X.env)::starEach es X.env:=by rfl)(hpl:(backTo pos (starEach es X.env)).any (·.1)=false:=by rfl):JE X (.Call (.Name x p) (e::es) [] pos) (dF fn aa):=⟨ZGT hc hg hm hv ha.h hn hdb he hpl⟩
theorem ZIC{st:Stmt}{ps:List Str}{f:Addr}{fd:FuncData}{k n:Nat}(D:Def X.K X.mg x st ps f fd)(F:FnOk X.prog X.w X.K X.mg X.base CX0 k f fd ps (spD X.K n fn))(hr:Room k X.A)(ha:JA X (e::es) aa)(hm:Many aa n)(hg:Gl X x:=by rfl)(hdb:(x == ("__debug__" : Str))=false:=by decide)(he:starEach (e::es) X.env=(false,eval e X.env)::starEach es X.env:=by rfl)(hpl:(backTo pos (starEach es X.env)).any (·.1)=false:=by rfl):JE X (.Call (.Name x p) (e::es) [] pos) (dF fn aa):=⟨ZJC D F hr ha.h hm hg hdb he hpl⟩
end
section
variable{X:Cx}{pos:Pos}
theorem ZJ8{i:Nat}{x:Str}(hN:X.N.Nodup)(hi:X.N[i]? = some x)(hx:Loc X.env.scope x)(hf:X.fn x=true∨X.env.scope.names.lookup x=some .local:=by first|exact .inl rfl|exact .inr rfl|assumption):JG X (.Name x pos) (.nm i):=⟨dg_nm hN hi hx hf⟩
theorem ZLj{es:List Expr}{k:Nat}{ps:Pats}(hc:X.calm=true)(h:JGs X es ps)(hn:(assignEach es X.env).length=ps.len:=by rfl)(hst:(assignEach es X.env).findIdx? (·.1)=none:=by rfl):JG X (.Tuple es k pos) (.tp ps):=⟨dg_tp hc h.h hn hst⟩
theorem ZJI  : JGs X [] .nil:=⟨ZKM ⟩
theorem ZHK{e:Expr}{es:List Expr}{p:Pat}{ps:Pats}(h1:JG X e p)(h2:JGs X es ps)(hs:(assignEach (e::es) X.env).map (·.2)=assign e X.env::(assignEach es X.env).map (·.2):=by rfl):JGs X (e::es) (.cons p ps):=⟨ZIq h1.h h2.h hs⟩
end
section
variable{X:Cx}{pos:Pos}{st:Stmt}{rest ss:List Stmt}{a b:DS}{d:DE}{e c:Expr}{tc:DB}
theorem ZH4  : JSs X [] dNx:=⟨ZIM ⟩
theorem ZH5(h:JS X st a):JSs X [st] a:=⟨ZJa h.h⟩
theorem ZGY(h1:JS X st a)(h2:JSs X rest b):JSs X (st::rest) (ZL a b):=⟨ZHt h1.h h2.h⟩
theorem ZIa{i:Nat}{x:Str}{pos':Pos}(hN:X.N.Nodup)(hi:X.N[i]? = some x)(hx:Loc X.env.scope x)(he:JE X e d)(hs:swapsWith e (some (.Name x pos')) pos.line X.env=pure false:=by rfl)(hf:X.fn x=true∨X.env.scope.names.lookup x=some .local:=by first|exact .inl rfl|exact .inr rfl|assumption):JS X (.Assign [.Name x pos'] e pos) (ZU i d):=⟨ZKi hN hi hx he.h hs hf⟩
theorem ZF9{tg:Expr}{pt:Pat}(he:JE X e d)(hg:JG X tg pt)(hs:swapsWithSole [tg] e pos.line X.env=pure false:=by rfl)(hw:swappedStores [tg] e X.env=pure none:=by rfl)(h1:(assignEach [tg] X.env).map (·.2)=[assign tg X.env]:=by rfl):JS X (.Assign [tg] e pos) (ZFU pt d):=⟨ZLN he.h hg.h hs hw h1⟩
theorem ZIy(he:JE X e d):JS X (.Return (some e) pos) (ZO d):=⟨ZK3 he.h⟩
theorem ZHN(he:JE X e d)(hs:swapsWith e none pos.line X.env=pure false:=by rfl):JS X (.Expr e pos) (ZBi d):=⟨ZIl he.h hs⟩
theorem ZLJ{sa sb:List Stmt}(hc:JT X c tc)(ha:JSs X sa a)(hb:JSs X sb b):JS X (.If c sa sb pos) (ZAR tc a b):=⟨ds_if hc.h ha.h hb.h⟩
end
section
variable{X:Cx}{tg:Expr}{pos:Pos}
theorem ZJD{l:Expr}{d:DE}(hl:JE X l d):JI X tg l (ZB2 d):=⟨ZLF hl.h⟩
theorem ZFS{a:Expr}{da:DA}{p pos:Pos}(hg:Gl X "range")(hm:X.mg "range" = none)(ha:JA X [a] da)(hs:starEach [a] X.env=[(false,eval a X.env)]:=by rfl)(hn:Many da 1):JI X tg (.Call (.Name "range" p) [a] [] pos) (ZAB da):=⟨ZGm hg hm ha.h hs hn⟩
theorem ZHW{es:List Expr}{k:Nat}{tpos:Pos}{a:Expr}{da:DA}{p pos:Pos}(hg:Gl X "enumerate")(hm:X.mg "enumerate" = none)(ha:JA X [a] da)(hs:starEach [a] X.env=[(false,eval a X.env)]:=by rfl)(hn:Many da 1):JI X (.Tuple es k tpos) (.Call (.Name "enumerate" p) [a] [] pos) (ZCG da):=⟨ZI9 hg hm ha.h hs hn⟩
theorem ZJS{a b:Expr}{da:DA}{p pos:Pos}(hg:Gl X "zip")(hm:X.mg "zip" = none)(ha:JA X [a,b] da)(hs:starEach [a,b] X.env=[(false,eval a X.env),(false,eval b X.env)]:=by rfl)(hs2:starEach [b] X.env=[(false,eval b X.env)]:=by rfl)(hn:Many da 2):JI X tg (.Call (.Name "zip" p) [a,b] [] pos) (ZDy da):=⟨ZKh hg hm ha.h hs hs2 hn⟩
end
section
variable{X:Cx}{tg iter:Expr}{pos:Pos}{di:DI}{pt:Pat}{db:DS}
theorem ZJH{body:List Stmt}(hp:PassesOwn (model X.prog X.w) X.A X.env X.xe)(hc:X.calm=true)(hi:JI X tg iter di)(hg:JG X tg pt)(hb:JSs X body db)(hs:∀x,foldedSetIterable iter X.env x=pure x:=by intro _;rfl):JS X (.For tg iter body [] pos) (ZB7 pt di db):=⟨ZKz hp hc hi.h hg.h hb.h hs⟩
theorem ZHF{X:Cx}:JTs X [] ZAA:=⟨ZIQ ⟩
theorem ZHO{X:Cx}{c:Expr}{d:DB}(h:JT X c d):JTs X [c] d:=⟨ZIG h.h⟩
end
section
variable{X:Cx}{tg elt iter:Expr}{ifs:List Expr}{scope sc:Scope}{pos:Pos}{di:DI}{pt:Pat}{dt:DB}{de:DE}{N NX:List Str}{own:Nat}{cap:List Nat}
theorem ZHT(hc:X.calm=true)(hi:JI X tg iter di)(hsc:X.env.scope=sc)(hNX:X.N=NX)(hb:∀cl C s0 H0 fp,JG (blk X N (compEnvC scope cl C X.env) s0 H0 fp) tg pt/\JTs (blk X N (compEnvC scope cl C X.env) s0 H0 fp) ifs dt/\JE (blk X N (compEnvC scope cl C X.env) s0 H0 fp) elt de)(co:ZB5 sc scope NX N own cap=true)(hp:pt.all (λi=>decide (i<own))=true)(hs:∀x,foldedSetIterable iter X.env x=pure x:=by intro _;rfl):JE X (.ListComp elt [⟨tg,iter,ifs,0⟩] scope pos) (Z9 own cap pt di dt de):=⟨ZIh hc hi.h hsc hNX (λcl C s0 H0 fp=>⟨(hb cl C s0 H0 fp).1.h,(hb cl C s0 H0 fp).2.1.h,(hb cl C s0 H0 fp).2.2.h⟩) co hp hs⟩
end
section
variable{X:Cx}
theorem ZHS  : JO X none ZBN:=⟨ZIZ ⟩
theorem ZH6{e:Expr}{d:DE}(h:JE X e d):JO X (some e) (ZCo d):=⟨ZIv h.h⟩
theorem ZJ7{e:Expr}{lo hi:Option Expr}{d:DE}{l h:DO}{pos p2:Pos}(he:JE X e d)(hl:JO X lo l)(hh:JO X hi h):JE X (.Subscript e (.Slice lo hi none p2) pos) (dSl d l h):=⟨de_sl he.h hl.h hh.h⟩
theorem ZLl{x:Str}{n:String}{pos:Pos}(hg:Gl X x)(hm:X.mg x=none)(hv:bootBuiltins x=some (.type n))(hn:x≠"__name__":=by decide)(hd:(x == ("__debug__" : Str))=false:=by decide):JE X (.Name x pos) (λ_ g=>some (.ty n,g)):=⟨de_ty hg hm hv hn hd⟩
theorem ZI2{o e:Expr}{dl d:DE}{apos cpos:Pos}(ho:JE X o dl)(he:JE X e d)(hbase:attributeBase o "append" X.env (eval o X.env)=eval o X.env:=by rfl)(hfew:((backTo cpos (starEach [e] X.env)).all (λx=>!x.1) && (backToKw cpos (keywordEach [] X.env)).all (λx=>x.1.isSome)
   && decide ([e].length+([]:List Keyword).length+(if ([]:List Keyword).isEmpty then 0 else 1)<30))=true:=by rfl) (hline:(apos.endLine == cpos.line)=true:=by rfl) (hs:starEach [e] X.env=(false,eval e X.env)::starEach [] X.env:=by rfl) (hplain:(backTo cpos (starEach [] X.env)).any (·.1)=false:=by rfl):JE X (.Call (.Attribute o "append" apos) [e] [] cpos) (ZEF dl d):=⟨ZKE ho.h he.h hbase hfew hline hs hplain⟩
theorem ZJh{o i e:Expr}{dl di d:DE}{pos tpos:Pos}(he:JE X e d)(ho:JE X o dl)(hi:JE X i di)(ha:∀v,assign (.Subscript o i tpos) X.env v=(do
   let ov ←holding [v] (eval o X.env)
   let iv ←holding [v,ov] (eval i X.env)
   standAt tpos
   holding [v,ov,iv] (setItem ov iv v)
   release [v,ov,iv] []):=by intro _;rfl) (hs:swapsWithSole [.Subscript o i tpos] e pos.line X.env=pure false:=by rfl) (hw:swappedStores [.Subscript o i tpos] e X.env=pure none:=by rfl) (h1:(assignEach [.Subscript o i tpos] X.env).map (·.2)=[assign (.Subscript o i tpos) X.env]:=by rfl):JS X (.Assign [.Subscript o i tpos] e pos) (ZCj dl di d):=⟨ZKI he.h ho.h hi.h ha hs hw h1⟩
end
theorem ZT{P:Program}{w:World}{K:PySem.W.Frag}{mg:Str->Option Value}{base:Heap}{x qual:Str}{st:Stmt}{f:Addr}{fd:FuncData}{N ps:List Str}{k n m:Nat}{d:DS}{r:List W->G->Option (W×G)}(e:r=ZAO n d)(hn:N.length=n)(hm:ps.length=m)(F:Fun K x qual st f fd)(S:FnScope N ps (ZF st))
  (hb:∀(cdv:Value) (A:Around) (outer:List Env) (s:Shared) (H:Hp) (E:XK),Room k (A.deeper (envOfC qual (ZF st) s.heap.objs.size f cdv))->JSs (ZEy CX0 P w K mg base N qual (ZF st) f cdv A outer s H E).nox (ZAD st) d) :
  FnOk P w K mg base CX0 (k+1) f fd ps (spD K m r):=by
 subst e hn hm;exact ZLA F S λcdv A outer s H E hr=>(hb cdv A outer s H E hr).h
theorem ZIV{X:Cx}{a b c:Int}{j1 j2}{p1 p2 pos:Pos}(hc:ZLx a b)(h:a ^ b.toNat=c):JE X (.BinOp (.Constant (.int a) j1 p1) .Pow (.Constant (.int b) j2 p2) pos) (dC (.int c)):=⟨(ZJs ZKF ZFk ZFk).imp λσ H Q ⟨ρ,sd,g,x,g',r,e,q⟩=>by
 cases e;exact⟨a,b,rfl,rfl,hc,by show Q (.int (a ^ b.toNat)) H;rw[h];exact q _ H ρ .refl r.hr (.dat (.int _))⟩⟩
structure EvP {α : Type} (o:Option (α×G)) (P : α->G->Prop):Prop where
 h:∃x g,o=some (x,g)/\P x g
section
variable{α : Type}{P : α->G->Prop}{g:G}
theorem ZBX{x : α}(h:P x g):EvP (some (x,g)) P:=⟨x,g,rfl,h⟩
theorem ZIH{o:Option (α×G)}{x : α}(e:o=some (x,g))(h:P x g):EvP o P:=⟨x,g,e,h⟩
theorem EvP.imp{o:Option (α×G)}{Q : α->G->Prop}(h:EvP o P)(k:∀x g,P x g->Q x g):EvP o Q:=by
 obtain⟨x,g,e,h⟩:=h;exact⟨x,g,e,k x g h⟩
theorem ZB9{c:Prop}[Decidable c]{A B:Option (α×G)}(h:c)(h1:EvP A P):EvP (if c then A else B) P:=by rw[if_pos h];exact h1
theorem ZEQ{β : Type}{o:Option β}{y : β}{f : β->α×G}{x : α}(e:o=some y)(e2:f y=(x,g))(h:P x g):EvP (o.map f) P:=by
 subst e;exact⟨x,g,congrArg some e2,h⟩
end
section
variable{sd:Sd}{g:G}{da db dc d:DE}{ta tb:DB}{aa:DA}{f f':W->W->G->Option (W×G)}{P:W->G->Prop}{PB:Bool->G->Prop}{PA':List W->G->Prop}
theorem ZCt{i:Nat}{x:W}(e:sd.getD i none=some x)(h:P x g):EvP (ZB i sd g) P:=⟨x,g,by unfold ZB;rw[e],h⟩
theorem x_c{d:PyData}(h:P (.dat d) g):EvP (dC d sd g) P:=⟨_,_,rfl,h⟩
theorem x_op(h:EvP (da sd g) λx g1=>EvP (db sd g1) λy g2=>EvP (f x y g2) P):EvP (dOp f da db sd g) P:=by
 obtain⟨x,g1,e1,y,g2,e2,z,g3,e3,h⟩:=h;exact⟨z,g3,by unfold dOp;rw[e1];show(db sd g1).bind _=_;rw[e2];exact e3,h⟩
structure asB (PB:Bool->G->Prop) (x:W) (g:G):Prop where
 h:∃b,x=.dat (.bool b)/\PB b g
theorem as_b{b:Bool}(h:PB b g):asB PB (.dat (.bool b)) g:=⟨b,rfl,h⟩
theorem x_b(h:EvP (d sd g) (asB PB)):EvP (dB d sd g) PB:=by
 obtain⟨x,g1,e1,b,rfl,h⟩:=h;exact⟨b,g1,by unfold dB;rw[e1];rfl,h⟩
theorem x_not(h:EvP (ta sd g) λb g1=>PB (!b) g1):EvP (ZD1 ta sd g) PB:=by
 obtain⟨x,g1,e1,h⟩:=h;exact⟨_,g1,by unfold ZD1;rw[e1];rfl,h⟩
theorem x_and(h:EvP (ta sd g) λb g1=>(b=true->EvP (tb sd g1) PB)/\(b=false->PB false g1)):EvP (ZBq ta tb sd g) PB:=by
 obtain⟨x,g1,e1,h1,h2⟩:=h;cases x with
 |true =>
  obtain⟨y,g2,e2,h⟩:=h1 rfl;exact⟨y,g2,by unfold ZBq;rw[e1];exact e2,h⟩
 |false=>exact⟨false,g1,by unfold ZBq;rw[e1];rfl,h2 rfl⟩
theorem x_or(h:EvP (ta sd g) λb g1=>(b=true->PB true g1)/\(b=false->EvP (tb sd g1) PB)):EvP (dOr ta tb sd g) PB:=by
 obtain⟨x,g1,e1,h1,h2⟩:=h;cases x with
 |false =>
  obtain⟨y,g2,e2,h⟩:=h2 rfl;exact⟨y,g2,by unfold dOr;rw[e1];exact e2,h⟩
 |true=>exact⟨true,g1,by unfold dOr;rw[e1];rfl,h1 rfl⟩
theorem ZLd(h:EvP (da sd g) (asB λb g1=>(b=true->EvP (db sd g1) P)/\(b=false->P (.dat (.bool false)) g1))):EvP (ZAZ da db sd g) P:=by
 obtain⟨x,g1,e1,b,rfl,h1,h2⟩:=h;cases b with
 |true =>
  obtain⟨y,g2,e2,h⟩:=h1 rfl;exact⟨y,g2,by unfold ZAZ;rw[e1];exact e2,h⟩
 |false=>exact⟨_,g1,by unfold ZAZ;rw[e1];rfl,h2 rfl⟩
theorem ZFc(h:EvP (da sd g) (asB λb g1=>P (.dat (.bool !b)) g1)):EvP (ZDw da sd g) P:=by
 obtain⟨x,g1,e1,b,rfl,h⟩:=h;exact⟨_,g1,by unfold ZDw;rw[e1];rfl,h⟩
theorem ZJq(h:PA' [] g):EvP (ZD sd g) PA':=⟨_,_,rfl,h⟩
theorem ZBW(h:EvP (d sd g) λx g1=>EvP (aa sd g1) λxs g2=>PA' (x::xs) g2):EvP (ZA d aa sd g) PA':=by
 obtain⟨x,g1,e1,y,g2,e2,h⟩:=h;exact⟨_,g2,by unfold ZA;rw[e1];show(aa sd g1).map _=_;rw[e2];rfl,h⟩
theorem x_f{fn:List W->G->Option (W×G)}(h:EvP (aa sd g) λxs g1=>EvP (fn xs g1) P):EvP (dF fn aa sd g) P:=by
 obtain⟨x,g1,e1,y,g2,e2,h⟩:=h;exact⟨y,g2,by unfold dF;rw[e1];exact e2,h⟩
theorem ZHX{PO':Option Int->G->Prop}(h:PO' none g):EvP (ZBN sd g) PO':=⟨_,_,rfl,h⟩
structure asI (PO':Option Int->G->Prop) (x:W) (g:G):Prop where
 h:∃i,x=.dat (.int i)/\PO' (some i) g
theorem as_i{PO':Option Int->G->Prop}{i:Int}(h:PO' (some i) g):asI PO' (.dat (.int i)) g:=⟨i,rfl,h⟩
theorem ZLa{PO':Option Int->G->Prop}(h:EvP (d sd g) (asI PO')):EvP (ZCo d sd g) PO':=by
 obtain⟨x,g1,e1,i,rfl,h⟩:=h;exact⟨some i,g1,by unfold ZCo;rw[e1];rfl,h⟩
theorem x_sl{l u:DO}(h:EvP (d sd g) λx g1=>EvP (l sd g1) λi g2=>EvP (u sd g2) λj g3=>EvP (slO x i j g3) P):EvP (dSl d l u sd g) P:=by
 obtain⟨x,g1,e1,i,g2,e2,j,g3,e3,z,g4,e4,h⟩:=h;exact⟨z,g4,by unfold dSl;rw[e1];show(l sd g1).bind _=_;rw[e2];show(u sd g2).bind _=_;rw[e3];exact e4,h⟩
structure EvI (o:Option (List PyData×Option Nat×G)) (P:List PyData->Option Nat->G->Prop):Prop where
 h:∃xs src g,o=some (xs,src,g)/\P xs src g
theorem ZKX{PI':List PyData->Option Nat->G->Prop}{xs:List PyData}{src:Option Nat}(h:PI' xs src g):EvI (some (xs,src,g)) PI':=⟨_,_,_,rfl,h⟩
theorem ZLO{PI':List PyData->Option Nat->G->Prop}(h:EvP (d sd g) λx g1=>EvI (ZJw x g1) PI'):EvI (ZB2 d sd g) PI':=by
 obtain⟨x,g1,e1,xs,src,g2,e2,h⟩:=h;exact⟨xs,src,g2,by unfold ZB2;rw[e1];exact e2,h⟩
theorem ZAI{PI':List PyData->Option Nat->G->Prop}{j:Int}{g1:G}(h:EvP (aa sd g) λws g1=>∃j:Int,ws=[.dat (.int j)]/\(j<=1000/\-1000<=j)/\PI' (ZAK j.toNat 0) none g1):EvI (ZAB aa sd g) PI':=by
 obtain⟨ws,g1,e1,j,rfl,hj,h⟩:=h;exact⟨_,_,g1,by unfold ZAB;rw[e1];exact if_pos hj,h⟩
theorem ZJP{PI':List PyData->Option Nat->G->Prop}(h:EvP (aa sd g) λws g1=>∃ds:List PyData,ws=[.dat (.tuple ds)]/\PI' (ZAb 0 ds) none g1):EvI (ZCG aa sd g) PI':=by
 obtain⟨ws,g1,e1,j,rfl,h⟩:=h;exact⟨_,_,g1,by unfold ZCG;rw[e1];rfl,h⟩
theorem ZLI{PI':List PyData->Option Nat->G->Prop}(h:EvP (aa sd g) λws g1=>∃ds es:List PyData,ws=[.dat (.tuple ds),.dat (.tuple es)]/\PI' (ZA4 ds es) none g1):EvI (ZDy aa sd g) PI':=by
 obtain⟨ws,g1,e1,j,k,rfl,h⟩:=h;exact⟨_,_,g1,by unfold ZDy;rw[e1];rfl,h⟩
theorem ZLD{own:Nat}{cap:List Nat}{pt:Pat}{di:DI}{dt:DB}{de:DE}(h:EvI (di sd g) λxs src g1=>xs.length<=1000/\EvP (Z4 src xs pt dt de (ZCW own cap sd) xs g1) λys g2=>P (.dat (.list ys)) g2):EvP (Z9 own cap pt di dt de sd g) P:=by
 obtain⟨xs,src,g1,e1,hl,ys,g2,e2,h⟩:=h;refine⟨_,g2,?_,h⟩;unfold Z9;rw[e1];show(if xs.length<=1000 then _ else _)=_;rw[if_pos hl];show(Z4 src xs pt dt de (ZCW own cap sd) xs g1).map _=_;rw[e2];rfl
structure EvS (o:Option Out) (P:Out->Prop):Prop where
 h:∃x,o=some x/\P x
variable{PS':Out->Prop}{a b:DS}
inductive seqP (b:DS) (P:Out->Prop):Out->Prop
 |nx {sd:Sd} {g:G}:EvS (b sd g) P->seqP b P (.nx sd g)
 |rt {x:W} {g:G}:P (.rt x g)->seqP b P (.rt x g)
 |bk {sd:Sd} {g:G}:P (.bk sd g)->seqP b P (.bk sd g)
 |ct {sd:Sd} {g:G}:P (.ct sd g)->seqP b P (.ct sd g)
theorem ZCD(h:EvS (b sd g) PS'):seqP b PS' (.nx sd g):=.nx h
theorem ZFX{x:W}(h:PS' (.rt x g)):seqP b PS' (.rt x g):=.rt h
theorem ZJp(h:EvS (a sd g) (seqP b PS')):EvS (ZL a b sd g) PS':=by
 obtain⟨o,e,h⟩:=h;cases h with
 |nx h =>
  obtain⟨o,e2,h⟩:=h;exact⟨o,by unfold ZL;rw[e];exact e2,h⟩
 |rt h=>exact⟨_,by unfold ZL;rw[e];rfl,h⟩
 |bk h=>exact⟨_,by unfold ZL;rw[e];rfl,h⟩
 |ct h=>exact⟨_,by unfold ZL;rw[e];rfl,h⟩
theorem ZKd(h:PS' (.nx sd g)):EvS (dNx sd g) PS':=⟨_,rfl,h⟩
theorem ZJn{i:Nat}(h:EvP (d sd g) λx g1=>PS' (.nx (sd.set i (some x)) g1)):EvS (ZU i d sd g) PS':=by
 obtain⟨x,g1,e,h⟩:=h;exact⟨_,by unfold ZU;rw[e];rfl,h⟩
theorem x_asg{pt:Pat}(h:EvP (d sd g) λx g1=>∃sd1,ZN pt x sd=some sd1/\PS' (.nx sd1 g1)):EvS (ZFU pt d sd g) PS':=by
 obtain⟨x,g1,e,sd1,e1,h⟩:=h;exact⟨_,by unfold ZFU;rw[e];show(ZN pt x sd).map _=_;rw[e1];rfl,h⟩
theorem ZJ5(h:EvP (d sd g) λx g1=>PS' (.rt x g1)):EvS (ZO d sd g) PS':=by
 obtain⟨x,g1,e,h⟩:=h;exact⟨_,by unfold ZO;rw[e];rfl,h⟩
theorem ZKx(h:EvP (d sd g) λx g1=>PS' (.nx sd g1)):EvS (ZBi d sd g) PS':=by
 obtain⟨x,g1,e,h⟩:=h;exact⟨_,by unfold ZBi;rw[e];rfl,h⟩
theorem x_ifS(h:EvP (ta sd g) λk g1=>(k=true->EvS (a sd g1) PS')/\(k=false->EvS (b sd g1) PS')):EvS (ZAR ta a b sd g) PS':=by
 obtain⟨k,g1,e,h1,h2⟩:=h;cases k with
 |true =>
  obtain⟨o,e2,h⟩:=h1 rfl;exact⟨o,by unfold ZAR;rw[e];exact e2,h⟩
 |false =>
  obtain⟨o,e2,h⟩:=h2 rfl;exact⟨o,by unfold ZAR;rw[e];exact e2,h⟩
theorem x_for{pt:Pat}{di:DI}(h:EvI (di sd g) λxs src g1=>EvS (Zx src xs pt b xs sd g1) PS'):EvS (ZB7 pt di b sd g) PS':=by
 obtain⟨xs,src,g1,e1,o,e2,h⟩:=h;exact⟨o,by unfold ZB7;rw[e1];exact e2,h⟩
theorem x_app{dl:DE}(h:EvP (dl sd g) λl g1=>∃n,l=.ref n/\isL g1 n=true/\EvP (d sd g1) λx g2=>∃y,x=.dat y/\∃ds,g2[n]? = some (.pl ds)/\ds.length<1000/\P (.dat .none) (g2.set n (.pl (ds++[y])))):EvP (ZEF dl d sd g) P:=by
 obtain⟨l,g1,e1,n,rfl,hil,x,g2,e2,y,rfl,ds,e3,hl,h⟩:=h;refine⟨_,_,?_,h⟩;unfold ZEF;rw[e1];show(if isL g1 n=true then _ else _)=_;rw[if_pos hil];show(d sd g1).bind _=_;rw[e2];show(match g2[n]? with|some (.pl ds)=>_|some (.rl ws)=>_|_=>_)=_;rw[e3];exact if_pos hl
theorem x_sto{dl di:DE}(h:EvP (d sd g) λv g1=>∃x,v=.dat x/\EvP (dl sd g1) λl g2=>∃n,l=.ref n/\EvP (di sd g2) λi g3=>∃k,i=.dat (.int k)/\∃ds,g3[n]? = some (.pl ds)/\∃j,ixN ds.length k=some j/\PS' (.nx sd (g3.set n (.pl (ds.set j x))))):EvS (ZCj dl di d sd g) PS':=by
 obtain⟨v,g1,e1,x,rfl,l,g2,e2,n,rfl,i,g3,e3,k,rfl,ds,e4,j,e5,h⟩:=h;refine⟨_,?_,h⟩;unfold ZCj;rw[e1];show(dl sd g1).bind _=_;rw[e2];show(di sd g2).bind _=_;rw[e3];show(match g3[n]? with|some (.pl ds)=>_|some (.rl ws)=>_|_=>_)=_;rw[e4];show(ixN ds.length k).map _=_;rw[e5];rfl
theorem ZH2{dl di:DE}(h:EvP (d sd g) λx g1=>EvP (dl sd g1) λl g2=>∃n,l=.ref n/\EvP (di sd g2) λi g3=>∃k,i=.dat (.int k)/\∃ds,g3[n]? = some (.rl ds)/\∃j,ixN ds.length k=some j/\PS' (.nx sd (g3.set n (.rl (ds.set j x))))):EvS (ZCj dl di d sd g) PS':=by
 obtain⟨x,g1,e1,l,g2,e2,n,rfl,i,g3,e3,k,rfl,ds,e4,j,e5,h⟩:=h;refine⟨_,?_,h⟩;unfold ZCj;rw[e1];show(dl sd g1).bind _=_;rw[e2];show(di sd g2).bind _=_;rw[e3];cases x with
 |dat y =>
  show(match g3[n]? with|some (.pl ds)=>_|some (.rl ws)=>_|_=>_)=_;rw[e4];show(ixN ds.length k).map _=_;rw[e5];rfl
 |_ =>
  show(match g3[n]? with|some (.rl ws)=>_|_=>_)=_;rw[e4];show(ixN ds.length k).map _=_;rw[e5];rfl
end
inductive runP (P:W->G->Prop):Out->Prop
 |rt {x:W} {g':G}:P x g'->runP P (.rt x g')
 |nx {sd:Sd} {g':G}:P (.dat .none) g'->runP P (.nx sd g')
theorem ZD5{x:W}{g':G}{P:W->G->Prop}(h:P x g'):runP P (.rt x g'):=.rt h
theorem Ze{n:Nat}{d:DS}{ws:List W}{g:G}{P:W->G->Prop}(h:EvS (d (ws.map some++List.replicate (n-ws.length) none) g) (runP P)):EvP (ZAO n d ws g) P:=by
 obtain⟨o,e,h⟩:=h;unfold ZAO;rw[e];cases h with
 |rt h=>exact⟨_,_,rfl,h⟩
 |nx h=>exact⟨_,_,rfl,h⟩
def stepP(src:Option Nat)(xs:List PyData)(I:Sd->G->Prop)(P:Out->Prop):Out->Prop
 |.nx sd g=>Zo src xs g/\I sd g
 |.ct sd g=>Zo src xs g/\I sd g
 |.bk sd g=>P (.nx sd g)
 |.rt x g=>P (.rt x g)
theorem Z0{α : Type}{src:Option Nat}{xs:List PyData}{g:G}{k:Option α}(h:Zo src xs g):Z7 src xs g k=k:=by
 unfold Z7;cases src with
 |none=>rfl
 |some n=>exact if_pos h
theorem ZBK{src:Option Nat}{xs:List PyData}{pt:Pat}{db:DS}{P:Out->Prop}(I:Nat->Sd->G->Prop){sd:Sd}{g:G}(h0:I 0 sd g)
  (hs:∀i x sd g,xs[i]? = some x->I i sd g->∃sd1,ZN pt (.dat x) sd=some sd1/\EvS (db sd1 g) (stepP src xs (I (i+1)) P))(hd:∀sd g,I xs.length sd g->P (.nx sd g)):EvS (Zx src xs pt db xs sd g) P:=by
 have go:∀(k i:Nat) sd g,i+k=xs.length->I i sd g->EvS (Zx src xs pt db (xs.drop i) sd g) P:=by
  intro k
  induction k with
  |zero =>
   intro i sd g hi h;have:i=xs.length:=by omega
   subst this
   rw[drop_length,Zx];exact⟨_,rfl,hd sd g h⟩
  |succ k ih =>
   intro i sd g hi h;have hlt:i<xs.length:=by omega
   rw[List.drop_eq_getElem_cons hlt,Zx];obtain⟨sd1,e1,o,e2,h2⟩:=hs i xs[i] sd g (getElem?_eq_getElem hlt) h;rw[e1];show EvS ((db sd1 g).bind _) P;rw[e2];cases o with
   |nx sd2 g2=>show EvS (Z7 _ _ _ _) P;rw[Z0 h2.1];exact ih (i+1) sd2 g2 (by omega) h2.2
   |ct sd2 g2=>show EvS (Z7 _ _ _ _) P;rw[Z0 h2.1];exact ih (i+1) sd2 g2 (by omega) h2.2
   |bk sd2 g2=>exact⟨_,rfl,h2⟩
   |rt x g2=>exact⟨_,rfl,h2⟩
 exact go xs.length 0 sd g (by omega) h0
theorem ZHH{α : Type}{src:Option Nat}{xs:List PyData}{pt:Pat}{dt:DB}{de:DE}{sd0:Sd}{g:G}(enc : α->PyData)(c : α->Bool)(f : α->PyData)(so:Zo src xs g):∀L:List α,
  (∀a∈L,∃sd1,ZN pt (.dat (enc a)) sd0=some sd1/\EvP (dt sd1 g) λb g1=>b=c a/\g1=g/\(c a=true->EvP (de sd1 g) λy g2=>y=.dat (f a)/\g2=g))->Z4 src xs pt dt de sd0 (L.map enc) g=some ((L.filter c).map f,g)
 |[],_=>rfl
 |a::L,h=>by
  obtain⟨sd1,e1,b,g1,e2,rfl,rfl,h2⟩:=h a (mem_cons_self ..);rw[map_cons,Z4,e1];show((dt sd1 g1).bind _)=_;rw[e2];show(if c a=true then _ else _)=_;have ih:=ZHH enc c f so L λz hz=>h z (mem_cons_of_mem _ hz)
  cases hc:c a with
  |true =>
   rw[if_pos rfl];obtain⟨y,g2,e3,rfl,rfl⟩:=h2 hc;rw[e3];show Z7 src xs g2 _=_;rw[Z0 so,ih,List.filter_cons_of_pos hc];rfl
  |false =>
   rw[if_neg Bool.false_ne_true,Z0 so,ih,List.filter_cons_of_neg (by rw[hc];exact Bool.false_ne_true)]
theorem ZJc{α : Type}{src:Option Nat}{xs:List PyData}{pt:Pat}{dt:DB}{de:DE}{sd0:Sd}{g:G}{P:List PyData->G->Prop}(enc : α->PyData)(c : α->Bool)(f : α->PyData)(L:List α)(e:xs=L.map enc)(so:Zo src xs g)
  (h:∀a∈L,∃sd1,ZN pt (.dat (enc a)) sd0=some sd1/\EvP (dt sd1 g) λb g1=>b=c a/\g1=g/\(c a=true->EvP (de sd1 g) λy g2=>y=.dat (f a)/\g2=g))(hP:P ((L.filter c).map f) g):EvP (Z4 src xs pt dt de sd0 xs g) P:=by
 refine⟨_,g,?_,hP⟩
 conv=>lhs;arg 7;rw[e]
 exact ZHH enc c f so L h
theorem Zs{α : Type}{src:Option Nat}{xs:List PyData}{pt:Pat}{de:DE}{sd0:Sd}{g:G}{P:List PyData->G->Prop}(enc : α->PyData)(f : α->PyData)(L:List α)(e:xs=L.map enc)(so:Zo src xs g)
  (h:∀a∈L,∃sd1,ZN pt (.dat (enc a)) sd0=some sd1/\EvP (de sd1 g) λy g2=>y=.dat (f a)/\g2=g)(hP:P (L.map f) g):EvP (Z4 src xs pt ZAA de sd0 xs g) P:=by
 refine ZJc enc (λ_=>true) f L e so (λa ha=>?_) ?_
 ·obtain⟨sd1,e1,h1⟩:=h a ha
  exact⟨sd1,e1,true,g,rfl,rfl,rfl,λ_=>h1⟩
 ·rw[List.filter_eq_self.mpr λ_ _=>rfl]
  exact hP
theorem ev_cj{src:Option Nat}{xs:List PyData}{pt:Pat}{dt:DB}{de:DE}{sd0:Sd}{P:List PyData->G->Prop}(J:Nat->List PyData->G->Prop){g:G}(h0:J 0 [] g)
  (h:∀i x g acc,xs[i]? = some x->J i acc g->∃sd1,ZN pt (.dat x) sd0=some sd1/\EvP (dt sd1 g) λb g1=>(b=true->EvP (de sd1 g1) λy g2=>∃d,y=.dat d/\Zo src xs g2/\J (i+1) (acc++[d]) g2)/\(b=false->Zo src xs g1/\J (i+1) acc g1))
  (hP:∀acc g,J xs.length acc g->P acc g):EvP (Z4 src xs pt dt de sd0 xs g) P:=by
 have go:∀(k i:Nat) acc g,i+k=xs.length->J i acc g->EvP (Z4 src xs pt dt de sd0 (xs.drop i) g) λys g2=>P (acc++ys) g2:=by
  intro k
  induction k with
  |zero =>
   intro i acc g hi h1;have:i=xs.length:=by omega
   subst this
   rw[drop_length,Z4];exact⟨_,_,rfl,by show P (acc++[]) g;rw[append_nil];exact hP acc g h1⟩
  |succ k ih =>
   intro i acc g hi h1;have hlt:i<xs.length:=by omega
   rw[List.drop_eq_getElem_cons hlt,Z4];obtain⟨sd1,e1,b,g1,e2,kt,kf⟩:=h i xs[i] g acc (getElem?_eq_getElem hlt) h1;rw[e1];show EvP ((dt sd1 g).bind _) _;rw[e2];show EvP (if b=true then _ else _) _;cases b with
   |true =>
    obtain⟨y,g2,e3,d,rfl,so,i2⟩:=kt rfl;rw[if_pos rfl,e3];show EvP (Z7 _ _ _ _) _;rw[Z0 so];obtain⟨ys,g3,e4,hp⟩:=ih (i+1) (acc++[d]) g2 (by omega) i2;rw[e4];refine⟨_,g3,rfl,?_⟩;rw[append_assoc] at hp;exact hp
   |false =>
    obtain⟨so,i2⟩:=kf rfl;rw[if_neg Bool.false_ne_true,Z0 so];exact ih (i+1) acc g1 (by omega) i2
 have:=go xs.length 0 [] g (by omega) h0;rw[List.drop_zero] at this
 exact this
theorem ZBz{src:Option Nat}{xs:List PyData}{pt:Pat}{dt:DB}{de:DE}{sd0:Sd}{P:List PyData->G->Prop}(I:G->Prop)(R:Nat->List PyData->Prop){g:G}(h0:I g)(hR0:R 0 [])
  (h:∀i x g acc,xs[i]? = some x->I g->R i acc->∃sd1,ZN pt (.dat x) sd0=some sd1/\EvP (dt sd1 g) λb g1=>(b=true->EvP (de sd1 g1) λy g2=>∃d,y=.dat d/\Zo src xs g2/\I g2/\R (i+1) (acc++[d]))/\(b=false->Zo src xs g1/\I g1/\R (i+1) acc))
  (hP:∀acc g,I g->R xs.length acc->P acc g):EvP (Z4 src xs pt dt de sd0 xs g) P:=ev_cj (λi acc g=>I g/\R i acc) ⟨h0,hR0⟩ (λi x g acc hx j=>h i x g acc hx j.1 j.2) λacc g j=>hP acc g j.1 j.2
section
variable{g:G}{P:W->G->Prop}
theorem ZCL{i j:Int}(h:ZEK i j=true)(q:P (.dat (.int (i*j))) g):EvP (ZA6 (.dat (.int i)) (.dat (.int j)) g) P:=ZB9 h (ZBX q)
theorem ZJv{i j:Int}(h : 0<j)(q:P (.dat (.int (i % j))) g):EvP (ZCO (.dat (.int i)) (.dat (.int j)) g) P:=ZB9 (decide_eq_true h) (ZBX q)
theorem y_div{i j:Int}(h : 0<j)(h2:j<2 ^ 64)(q:P (.dat (.int (i / j))) g):EvP (ZC5 (.dat (.int i)) (.dat (.int j)) g) P:=ZB9 (by show(decide (0<j) && decide (j<2 ^ 64))=true;rw[decide_eq_true h,decide_eq_true h2];rfl) (ZBX q)
theorem ZEs{xs:List PyData}{i:Int}{d:PyData}(h:atI xs i=some d)(q:P (.dat d) g):EvP (ZS (.dat (.tuple xs)) (.dat (.int i)) g) P:=ZEQ h rfl q
theorem y_ixL{xs:List PyData}{i:Int}{d:PyData}(h:atI xs i=some d)(q:P (.dat d) g):EvP (ZS (.dat (.list xs)) (.dat (.int i)) g) P:=ZEQ h rfl q
theorem ZCN{n:Nat}{xs:List PyData}{i:Int}{d:PyData}(hn:g[n]? = some (.pl xs))(h:atI xs i=some d)(q:P (.dat d) g):EvP (ZS (.ref n) (.dat (.int i)) g) P:=by
 refine⟨_,_,?_,q⟩;show(match g[n]? with|some (.pl ds)=>(atI ds i).map λd=>(W.dat d,g)|some (.rl ws)=>(atI ws i).map λw=>(w,g)|_=>none)=_;rw[hn];show(atI xs i).map _=_;rw[h];rfl
theorem ZCe{n:Nat}{xs:List W}{i:Int}{d:W}(hn:g[n]? = some (.rl xs))(h:atI xs i=some d)(q:P d g):EvP (ZS (.ref n) (.dat (.int i)) g) P:=by
 refine⟨_,_,?_,q⟩;show(match g[n]? with|some (.pl ds)=>(atI ds i).map λd=>(W.dat d,g)|some (.rl ws)=>(atI ws i).map λw=>(w,g)|_=>none)=_;rw[hn];show(atI xs i).map _=_;rw[h];rfl
theorem ZC0{n:Nat}{xs:List PyData}(hn:g[n]? = some (.pl xs))(q:P (.dat (.tuple xs)) g):EvP (f1 ZAk [.ref n] g) P:=ZEQ (y:=xs) (ZCy hn) rfl q
theorem y_ne{x y:PyData}(h:(ok0 x && ok0 y)=true)(q:P (.dat (.bool (!x.eqv y))) g):EvP (ZGV (.dat x) (.dat y) g) P:=ZB9 h (ZBX q)
theorem y_inT{x:PyData}{ys:List PyData}(h:(ok0 x && PyData.canLayAll0 ys)=true)(q:P (.dat (.bool (ys.any λy=>y.eqv x))) g):EvP (ZKq (.dat x) (.dat (.tuple ys)) g) P:=ZB9 h (ZBX q)
theorem ZHu{x:PyData}{ys:List PyData}(h:(ok0 x && PyData.canLayAll0 ys)=true)(q:P (.dat (.bool (!ys.any λy=>y.eqv x))) g):EvP (ZEU (.dat x) (.dat (.tuple ys)) g) P:=ZB9 h (ZBX q)
end
theorem ZED(ns:List Int):PyData.canLayAll0 (ns.map .int)=true:=by
 induction ns with
 |nil=>rfl
 |cons n ns ih=>show(true && PyData.canLayAll0 (ns.map .int))=true;rw[ih];rfl
theorem any_ints{ns:List Int}{k:Int}:((ns.map PyData.int).any λy=>y.eqv (.int k))=ns.contains k:=by
 induction ns with
 |nil=>rfl
 |cons n ns ih =>
  rw[map_cons,List.any_cons,ih,List.contains_cons]
  congr 1
  show(n == k)=(k == n);exact Bool.beq_comm
theorem Zj{i j:Int}:(PyData.int i).eqv (.int j)=decide (i=j):=by
 show(i == j)=_;exact rfl
theorem ZI8{α : Type}{enc : α->PyData}{L:List α}{i:Nat}{a : α}(h:L[i]? = some a):atI (L.map enc) (i:Int)=some (enc a):=ZAT (by rw[getElem?_map,h];rfl)
theorem ZBn{α : Type}{enc : α->PyData}{L:List α}{i:Nat}{a : α}(h:i<L.length):atI (L.map enc) (i:Int)=some (enc (L.getD i a)):=ZI8 (by rw[getD_eq_getElem?_getD,getElem?_eq_getElem h];rfl)
def ZCA:List Str:=["about","again","newer","others","own","refute","wait"]
theorem ok7:∀s∈ZCA,ok0 (.str s)=true:=by decide +kernel
theorem ZCF{i j:Int}(h : -(2 ^ 64)<j/\j<2 ^ 64):ZEK i j=true:=by
 unfold ZEK;rw[decide_eq_true h.1,decide_eq_true h.2];simp
theorem ZHz{i j:Int}(h : -(2 ^ 64)<i/\i<2 ^ 64):ZEK i j=true:=by
 unfold ZEK;rw[decide_eq_true h.1,decide_eq_true h.2];simp
theorem Zg{α : Type}{g:List α}{b:Nat}{x : α}(h:b<g.length):(g.set b x)[b]? = some x:=getElem?_set_self h
def Bx(g:G)(b:Nat):Prop:=∃x n c:Int,g[b]? = some (.pl [.int x,.int n,.int c])
theorem Bx.lt{g:G}{b:Nat}(h:Bx g b):b<g.length:=by
 obtain⟨x,n,c,e⟩:=h;exact(List.getElem?_eq_some_iff.mp e).1
structure Dr (b:Nat) (g g':G):Prop where
 bx:Bx g' b
 len:g.length<=g'.length
 kp:∀n,n<g.length->n≠b->g'[n]? = g[n]?
theorem Dr.refl{b:Nat}{g:G}(h:Bx g b):Dr b g g:=⟨h,le_refl _,λ_ _ _=>rfl⟩
theorem Dr.trans{b:Nat}{g g1 g2:G}(h:Dr b g g1)(k:Dr b g1 g2):Dr b g g2:=⟨k.bx,le_trans h.len k.len,λn h1 hn=>(k.kp n (lt_of_lt_of_le h1 h.len) hn).trans (h.kp n h1 hn)⟩
theorem Dr.set{b:Nat}{g:G}{x n c:Int}(h:b<g.length):Dr b g (g.set b (.pl [.int x,.int n,.int c])):=⟨⟨x,n,c,Zg h⟩,by rw[length_set];exact le_refl _,λm _ hm=>getElem?_set_ne (Ne.symm hm)⟩
theorem Dr.put{b n:Nat}{g gx:G}{c:Cell}(h:Dr b g gx)(hb:b<g.length)(hn:g.length<=n):Dr b g (gx.set n c):=⟨by
 obtain⟨x,y,z,e⟩:=h.bx;exact⟨x,y,z,by rw[getElem?_set_ne (by omega)];exact e⟩,by rw[length_set];exact h.len,λm h1 h2=>by rw[getElem?_set_ne (by omega)];exact h.kp m h1 h2⟩
theorem Dr.app{b:Nat}{g gx:G}{c:Cell}(h:Dr b g gx):Dr b g (gx++[c]):=⟨by
 obtain⟨x,y,z,e⟩:=h.bx;exact⟨x,y,z,by rw[getElem?_append_left h.bx.lt];exact e⟩,by have:=h.len;rw[length_append];omega,λm h1 h2=>by rw[getElem?_append_left (by have:=h.len;omega)];exact h.kp m h1 h2⟩
theorem ZCf{g:G}{c:Cell}:(g++[c])[g.length]? = some c:=by
 rw[getElem?_append_right (le_refl _),sub_self];rfl
theorem ZKb{P:Program}{w:World}{K:PySem.W.Frag}{mg:Str->Option Value}{base:Heap}{k:Nat}{f:Addr}{fd:FuncData}{ps:List Str}{r:List W->G->Option (W×G)}(F:FnOk P w K mg base CX0 k f fd ps (spD K 1 r))
  (h:∀ns:List Int,ns.length<=63->∃g',r [.inp ns] []=some (.dat (.bool true),g')):FnOk P w K mg base CX0 k f fd ps (λvs H Q _=>∃(a:Addr) (ns:List Int),vs=[.ref a]/\SqL K H a (ns.map V.int)/\ns.length<=63/\∀H',Q (.bl true) H'):=F.imp λvs H Q E ⟨a,ns,e,hS,hl,q⟩=>by
 subst e;obtain⟨g',eg⟩:=h ns hl;refine⟨rfl,⟨[],[]⟩,[.inp ns],[],.dat (.bool true),g',⟨rfl,List.nodup_nil,λn ds e=>by simp at e,λa z=>by cases z⟩,.cons (.inp ?_) .nil,eg,λv H' ρ' s' h' r'=>?_⟩
 ·rcases hS with z|z
  ·exact .inl ⟨z,λq=>q.elim (λz=>by cases z) λz=>by cases z⟩
  ·exact .inr z
 ·cases r' with
  |dat r' =>
   cases r' with
   |bl b=>exact q H'
theorem ZFf(ns:List Int):ZAi (ns.map .int)=some ns:=by
 induction ns with
 |nil=>rfl
 |cons n ns ih=>rw[map_cons,ZAi,ih];rfl
theorem ZEl(ns:List Bool):ZAE (ns.map .bool)=some ns:=by
 induction ns with
 |nil=>rfl
 |cons n ns ih=>rw[map_cons,ZAE,ih];rfl
section
variable{g:G}{P:W->G->Prop}
theorem ZJr{bs:List Bool}(q:P (.dat (.bool (bs.all id))) g):EvP (f1 ZCq [.dat (.list (bs.map .bool))] g) P:=by
 refine ZIH ?_ q;show ZCq _ g=_;unfold ZCq;show((ZAE (bs.map .bool)).map _)=_;rw[ZEl];rfl
end
theorem ZBm(n:Nat):ZAK n 0=(List.range n).map λj:Nat=>PyData.int (j:Int):=by
 unfold ZAK;refine map_congr_left λj _=>?_
 rw[Int.zero_add]
def ZE6:W->W->G->Option (W×G)
 |.dat (.bool i),.dat (.bool j),g=>some (.dat (.bool !(i == j)),g)
 |_,_,_=>none
section
variable{X:Cx}
theorem ZIT:OpR X (compareOp .IsNot) (rOp X.K ZE6):=by
 intro pins s σ H x y v u Q I rx ry h;obtain⟨ρ,a,b,g,z,g',hR,ra,rb,e,q⟩:=h;cases ra with
 |dat ra =>
  cases rb with
  |dat rb =>
   cases ra with
   |bl i =>
    cases rb with
    |bl j=>cases e;exact ZGF pins s σ H _ _ v u Q I rx ry ⟨i,j,rfl,rfl,q.at hR (.dat (.bl _))⟩
    |_=>cases e
   |_=>cases e
  |_=>cases ra <;> cases e
 |_=>cases e
end
section
variable{X:Cx}
theorem ZGf(hc:X.calm=true):ZM X (.builtin "any") (λxs H Q=>∃(p:Addr) (ns:List Int),xs=[.ref p]/\SqT X.K H p (ns.map V.int)/\Q (.bl (ns.any λk=>k != 0)) H):=by
 intro pins s σ H xs us Q I r h;obtain⟨p,ns,rfl,hq,q⟩:=h;obtain⟨u,rfl,ru⟩:=ZAm r;cases ru;obtain⟨its,rv,pl,hz⟩:=I.tuple hq;have hlen:=rv.length;rw[length_map] at hlen;have hpl:p<s.heap.objs.size:=by
  obtain⟨o,e,_⟩:=pl;exact lt_size e
 refine call_any_walk (iter_tuple pl ⟨s.heap.objs.size,_,_,_,_,_,λi=>ns.getD i 0 != 0,rfl,Walks.tuple (A:=X.A.in1) (show X.A.in1.handled=none from I.ok.hd hc) s.heap.objs.size p (ne_of_lt hpl) its.toArray,?_,?_,λh' tk k=>?_⟩)
 ·exact⟨⟨_,get?_push_size _ rfl,rfl,rfl⟩,pl.push _⟩
 ·intro i v s' Q' E' hv hQ
  have hv':its[i]? = some v:=by simpa using hv
  have hi:i<ns.length:=by rw[hlen];exact(List.getElem?_eq_some_iff.mp hv').1
  obtain⟨u,hu,ru⟩:=rv.get (i:=i) (x:=V.int ns[i]) (by simp[hi]);rw[hv'] at hu;cases hu;obtain⟨t,rfl⟩:=ru;have e:ns.getD i 0=ns[i]:=by simp[List.getD,hi]
  dsimp only at hQ;rw[e] at hQ;exact PySem.P.truthy_int hQ
 ·have e:((List.range its.toArray.size).any λi=>ns.getD i 0 != 0)=ns.any λk=>k != 0:=by
   rw[Bool.eq_iff_iff,any_eq_true,any_eq_true];constructor
   ·rintro ⟨i,hi,z⟩
    have hi':i<ns.length:=by simpa [←hlen] using hi
    exact⟨ns[i],getElem_mem hi',by simpa [List.getD,hi'] using z⟩
   ·rintro ⟨b,hb,z⟩
    obtain⟨i,hi,rfl⟩:=List.mem_iff_getElem.mp hb;exact⟨i,by simp[←hlen,hi],by simpa [List.getD,hi] using z⟩
  rw[e];exact⟨.bl _,H,I.kept λb o q=>k b o (by simp;exact ne_of_lt (lt_size q)) (get?_push_of_some _ q),rfl,q⟩
def ZF8:W->G->Option (W×G)
 |.dat (.tuple ds),g=>(ZAi ds).map λns=>(.dat (.bool (ns.any λk=>k != 0)),g)
 |w,g=>ZIN w g
theorem cAny2(hc:X.calm=true):ZM X (.builtin "any") (rF X.K (f1 ZF8)):=c1 ((ZHG hc).or (ZGf hc)) λρ H g x w z g' Q hR r e q=>by
 have lists:ZIN w g=some (z,g')->(∃(p:Addr) (bs:List Bool),[x]=[V.ref p]/\SqL X.K H p (bs.map V.bl)/\Q (.bl (bs.any id)) H):=λe=>by
  obtain⟨ds,e1,e⟩:=bnd e;obtain⟨bs,e2,e⟩:=mp e;cases e;obtain⟨l,vs,rfl,h1,t1⟩:=ZW hR r e1;have:=ZCR t1 e2;subst this
  exact⟨l,bs,rfl,SqL.of h1,q.at hR (.dat (.bl _))⟩
 cases r with
 |ref h=>exact .inl (lists e)
 |ty=>exact .inl (lists e)
 |tup _ _=>exact .inl (lists e)
 |inp h=>exact .inl (lists e)
 |dat r =>
  cases r with
  |tup f t =>
   obtain⟨ns,e1,e⟩:=mp e;cases e;have:=ZA1 t e1;subst this
   exact .inr ⟨_,ns,rfl,f.sq,q.at hR (.dat (.bl _))⟩
  |lst h n t=>exact .inl (lists e)
  |_=>exact .inl (lists e)
def ZEx(aa:DA)(d:DE):DE:=λsd g=>(aa sd g).bind λp=>(d sd p.2).bind λi=>match i.1 with
 |.dat (.int k)=>if p.1.length<=1000 then (atI p.1 k).map λx=>(x,i.2) else none
 |_=>none
theorem ZEH{K:PySem.W.Frag}{ρ : Rh}{H:Hp}:∀{vs:List V} {ws:List W} {i:Nat} {w:W},RelL K ρ H vs ws->ws[i]? = some w->∃v,vs[i]? = some v/\Rel K ρ H v w
 |_,_,_,_,.nil,h=>by simp at h
 |_,_,0,_,.cons t _,h=>by cases h;exact⟨_,rfl,t⟩
 |_,_,i+1,_,.cons _ t,h=>ZEH (i:=i) t (by simpa using h)
theorem ZI3{es:List Expr}{b:Expr}{aa:DA}{d:DE}{pos lpos:Pos}(ha:PA X es (tA X.K aa))(hb:PE X b (tE X.K d))(hs:ZB0 b):PE X (.Subscript (.List es lpos) b pos) (tE X.K (ZEx aa d)):=(ZJ0 ZBw (ZFM ha) hb hs).imp λσ H Q ⟨ρ,sd,g,x,g',r,e,q⟩=>by
 obtain⟨⟨ws,g1⟩,e1,e⟩:=bnd e;obtain⟨⟨i,g2⟩,e2,e⟩:=bnd e;refine⟨ρ,sd,g,ws,g1,r,e1,λvs H1 ρ1 s1 h1 r1=>?_⟩;have hl:vs.length=ws.length:=r1.length;cases i with
 |dat i =>
  cases i with
  |int k =>
   dsimp only at e
   split at e
   ·rename_i hz
    obtain⟨w,e3,e⟩:=mp e;cases e;refine⟨by rw[hl];exact le_of_lt (ZP hz),λp hp=>?_⟩;obtain⟨sm,hr2,hn⟩:=Zy (o:=.lst vs) h1 hp;have s2:Stp ρ1 H1 ρ1 (upd H1 p (.lst vs)):=.same sm;refine⟨ρ1,sd,g1,_,g',r.step (s1.trans s2) hr2,e2,λv H3 ρ3 s3 h3 r3=>?_⟩;cases r3 with
    |dat r3 =>
     cases r3 with
     |int _ =>
      have hp3:H3 p=some (.lst vs):=s3.frm _ _ ZI λz=>hn (.inl z)
      unfold atI at e3;obtain⟨j,ej,ew⟩:=bnd e3;obtain⟨v,hv,rv⟩:=ZEH r1 ew;refine⟨p,vs,k,v,rfl,rfl,SqL.of hp3,?_,q v H3 ρ3 (s1.trans (s2.trans s3)) h3 ((rv.mono s2).mono s3)⟩;unfold atI;rw[hl,ej];exact hv
   ·cases e
  |_=>cases e
 |_=>cases e
theorem ZH3{es:List Expr}{b:Expr}{aa:DA}{d:DE}{pos lpos:Pos}(ha:JA X es aa)(hb:JE X b d)(hs:ZB0 b):JE X (.Subscript (.List es lpos) b pos) (ZEx aa d):=⟨ZI3 ha.h hb.h hs⟩
end
section
variable{sd:Sd}{g:G}{P:W->G->Prop}{d:DE}
theorem ZKH{aa:DA}(h:EvP (aa sd g) λws g1=>EvP (d sd g1) λx g2=>∃i:Int,x=.dat (.int i)/\ws.length<=1000/\∃w,atI ws i=some w/\P w g2):EvP (ZEx aa d sd g) P:=by
 obtain⟨ws,g1,e1,x,g2,e2,i,rfl,hz,w,e3,h⟩:=h;refine⟨_,_,?_,h⟩;unfold ZEx;rw[e1];show(d sd g1).bind _=_;rw[e2];show(if ws.length<=1000 then (atI ws i).map λx=>(x,g2) else none)=_;rw[if_pos hz,e3];rfl
end
end L2
namespace L2
open PySem PySem.Spec PyProof.Rows H1
open AutoSeq1 (wpAny_loadPart')
section
variable{prog:Program}{w:World}{A:Around}{E:Value->Shared->Prop}{s:Shared}
theorem ZBP{Q:List Value->Shared->Prop}{r:Addr}{a b c:Int}{t u v:Tok}{n:Nat}(hh:A.handled=none)(hr:IsRange s.heap r a b c t u v)(hsmall:Builtin.Range.small a b c=true)
  (hn:Builtin.Range.rangeSize a b c=n)(hlen:n<=2 ^ 24)
  (hQ:∀(h':Heap) tk (acc:Array Value),(∀b o,s.heap.get? b=some o->h'.get? b=some o)->ItemsOf (λi v=>∃t,v=.int (a+i*c) t) acc n->Q acc.toList { s with heap:=h',toks:=tk }):wpAny (model prog w) A (collect (.ref r)) Q E s:=by
 have hS₁ : (s.heap.push { cls:=.type "list",data:=.seq ([]:List Value).toArray }).get? s.heap.objs.size=some { cls:=.type "list",data:=.seq #[] }:=get?_push_size _ rfl;have key:∀R:Result->Shared->Prop,(∀(h':Heap) tk (acc':Array Value) c',(∀b o,s.heap.get? b=some o->h'.get? b=some o)->h'.get? s.heap.objs.size=some { cls:=.type "list",dict:=none,data:=.seq acc' c',slots:=#[] }->ItemsOf (λi v=>∃t,v=.int (a+i*c) t) acc' n->R (.ok (.ret (.ref s.heap.objs.size))) { s with heap:=h',toks:=tk })->codeAny (model prog w) A (.builtin "proto.collect" ⟨[.ref r],[]⟩) R s:=by
  intro R hR;refine codeAny_builtin F.entry_proto_collect ?_;rw[Around.under_plainId F.plain_proto_collect _];show wpAny _ A.in1 (newList [] >>= λl=>again (.builtin "list.__iadd__" ⟨[l,.ref r],[]⟩)) _ _ s;refine wpAny_bind (wpAny_newObj_type ?_);refine wpAny_pure ⟨plainId_quiet F.plain_list_iadd _,codeAny_builtin F.entry_list_iadd ?_⟩;rw[Around.under_plainId F.plain_list_iadd _];exact wpAny_extend_range (R:=R) (s:={ s with heap:=s.heap.push { cls:=.type "list",data:=.seq ([]:List Value).toArray } }) hh (get?_push_of_some _ hr) hsmall hn hlen s.heap.objs.size (.ref s.heap.objs.size) 0 hS₁ λh' tk acc' c' hk hS' hacc=>hR h' tk acc' c' (λb o e=>hk b o (ne_of_lt (lt_size e)) (get?_push_of_some _ e)) hS' hacc
 unfold collect;refine wpAny_bind (wpAny_runValue (key _ λh' tk acc' c' hk hS' hacc=>?_));show wpAny _ A (load s.heap.objs.size >>= _) _ _ _;refine wpAny_bind (wpAny_load hS' ?_);exact wpAny_pure (hQ h' tk acc' hk hacc)
theorem ZBI{Q₁ : Value->Shared->Prop}{r:Addr}{a b c:Int}{t u v:Tok}{n:Nat}(hh:A.handled=none)(hr:IsRange s.heap r a b c t u v)(hsmall:Builtin.Range.small a b c=true)
  (hn:Builtin.Range.rangeSize a b c=n)(hlen:n<=2 ^ 24)(hsz:n<=sizeLine)
  (h:∀(h':Heap) tk (acc:Array Value),(∀b o,s.heap.get? b=some o->h'.get? b=some o)->ItemsOf (λi v=>∃t,v=.int (a+i*c) t) acc n->Q₁ (.ref h'.objs.size) { s with heap:=h'.push { cls:=.type "tuple",data:=.seq acc },toks:=tk }) :
  codeAny (model prog w) A (.call (.builtin "tuple.__new__") ⟨[.type "tuple",.ref r],[]⟩) (wants Q₁ E) s:=by
 refine codeAny_of_tree ?_;show wpAny _ A.in1 (do checkBuiltinCall "tuple.__new__" ⟨[.type "tuple",.ref r],[]⟩;again (.builtin "tuple.__new__" ⟨[.type "tuple",.ref r],[]⟩)) _ _ s;refine wpAny_bind (wpAny_of_eq (F.newCall_tuple_1 _) (wpAny_pure ⟨plainId_quiet F.plain_tuple_new _,codeAny_builtin F.entry_tuple_new ?_⟩));rw[Around.under_plainId F.plain_tuple_new _];have hsub:=sub_tuple_self;have hinit:=init_tuple_lookup;have hmh:=madeHere_tuple;have hTI:s.TypeIs (.ref r) "range":=⟨_,hr,rfl⟩;have hh1:A.in1.handled=none:=hh
 wp_walk using wpAny_typeOf hTI,ZBP hh1 hr hsmall hn hlen
 intro h' tk acc hm hacc;show wpAny _ _ (Builtin.Tuple.tupleExact acc.toList.toArray >>= λv=>ret v) _ _ _;unfold Builtin.Tuple.tupleExact;refine wpAny_bind (wpAny_newObj_type ?_ (by show acc.toList.toArray.size<=sizeLine;simp only[Array.toArray_toList];rw[hacc.1];exact hsz));refine wpAny_pure ?_;have e:acc.toList.toArray=acc:=by simp
 rw[e];exact h h' tk acc hm hacc
theorem ZB4{Q:Value->Shared->Prop}{r:Addr}{a b c:Int}{t u v:Tok}{n:Nat}(hh:A.handled=none)(hr:IsRange s.heap r a b c t u v)(hsmall:Builtin.Range.small a b c=true)
  (hn:Builtin.Range.rangeSize a b c=n)(hlen:n<=2 ^ 24)(hsz:n<=sizeLine)
  (hQ:∀(h':Heap) tk (acc:Array Value),(∀b o,s.heap.get? b=some o->h'.get? b=some o)->ItemsOf (λi v=>∃t,v=.int (a+i*c) t) acc n->Q (.ref h'.objs.size) { s with heap:=h'.push { cls:=.type "tuple",data:=.seq acc },toks:=tk }) :
  wpAny (model prog w) A (call (.type "tuple") [.ref r]) Q E s:=by
 refine callType_codes (Q₁:=λobj s₁=>s₁.TypeIs obj "tuple"/\Q obj s₁) F.called_tuple (F.typeCall_tuple_1 _) F.entry_object_init
  (ZBI hh hr hsmall hn hlen hsz λh' tk acc hm hacc=>⟨⟨_,get?_push_size _ rfl,rfl⟩,hQ h' tk acc hm hacc⟩) λobj s₁ h₁=>?_
 exact⟨h₁.1,F.args_object_init_2 obj _,object_init_meets F.called_tuple.init.lookup F.called_tuple.made (by decide) prog w A.in1 _ s₁ ⟨h₁.1,rfl,h₁.2⟩⟩
end
end L2
namespace L2
open PySem PySem.Spec PyProof.Rows H1
section
variable{X:Cx}
theorem ZDE(hc:X.calm=true):ZM X (.type "tuple") (λxs H Q=>∃p j,xs=[.ref p]/\H p=some (.rng 0 j)/\(0<=j/\j<=1000)/\∀l,H l=none->Q (.ref l) (upd H l (.tup (ZEY j.toNat)))):=by
 intro pins s σ H xs us Q I r h;obtain⟨p,j,rfl,hp,⟨h0,h1⟩,q⟩:=h;obtain⟨u,rfl,ru⟩:=ZAm r;cases ru;obtain⟨t,u,v,ho⟩:=I.hok p _ hp;have hj:(j.toNat:Int)=j:=Int.toNat_of_nonneg h0;have hl:(ZEY j.toNat).length=j.toNat:=by unfold ZEY;simp
 refine ZB4 (n:=j.toNat) (I.ok.hd hc) (show IsRange s.heap p 0 j 1 t u v from ho) (small_one (by omega) (by omega) (by omega) (by omega)) (by rw[rangeSize_one];split <;> omega) (by omega) (le_of_lt (ZP (by omega))) λh' tk acc kp hacc=>?_
 have e:(rangeInts 0 1 j.toNat)=(List.range j.toNat).map λ(i:Nat)=>(i:Int):=by
  unfold rangeInts;apply map_congr_left;intro a _;omega
 have ca:CarriedAll acc.toList ((rangeInts 0 1 j.toNat).map .int):=carriedAll_of_get _ _ (by simp[hacc.1,rangeInts_length]) λi v hv=>by
  have hv':acc[i]? = some v:=by simpa using hv
  obtain⟨tk,rfl⟩:=hacc.2 i v hv';have hi:i<j.toNat:=by
   have:=(Array.getElem?_eq_some_iff.mp hv').1;rw[hacc.1] at this;exact this
  exact⟨.int (0+(i:Nat)*1),by simp[rangeInts_get hi],.int _ _⟩
 have ev:ZK (ZEY j.toNat) acc.toList:=by
  have:=ZE3 ca;rw[e,map_map] at this
  exact this
 have I1:Inv X pins σ H { s with heap:=h',toks:=tk }:=I.kept (t':=tk) kp;have I2:Inv X pins σ (upd H h'.objs.size (.tup (ZEY j.toNat))) { s with heap:=h'.push { cls:=.type "tuple",data:=.seq acc },toks:=tk } :=
  I1.laid (t':=tk) (λb o e=>get?_push_of_some _ e) (le_refl _) (show Z8 X.prog X.w _ _ _ (.tup (ZEY j.toNat)) from ⟨by rw[hl];exact le_of_lt (ZP (by omega)),acc.toList,ev,IsTup.new _ _⟩)
 exact⟨.ref h'.objs.size,_,I2,rfl,q _ (I1.hok.fresh (le_refl _))⟩
end
section
variable{X:Cx}
def ZDl(d:DE):DE:=λsd g=>(d sd g).bind λp=>match p.1 with
 |.dat (.int j)=>if 0<=j/\j<=1000 then some (.dat (.tuple (ZAK j.toNat 0)),p.2) else none
 |_=>none
theorem ZE9{K:PySem.W.Frag}{ρ : Rh}{H:Hp}{α : Type}(f : α->Int):∀L:List α,RelDL K ρ H (L.map λi=>V.int (f i)) (L.map λi=>PyData.int (f i))
 |[]=>.nil
 |a::r=>.cons (.int _) (ZE9 f r)
theorem ZIm{K:PySem.W.Frag}{ρ : Rh}{H:Hp}(n:Nat):RelDL K ρ H (ZEY n) (ZAK n 0):=by
 rw[ZBm];unfold ZEY;exact ZE9 (λj:Nat=>(j:Int)) _
theorem ZGH{e:Expr}{d:DE}{p p2 pos pos2:Pos}(hc:X.calm=true)(hg:Gl X "tuple")(hm:X.mg "tuple" = none)(hgr:Gl X "range")(hmr:X.mg "range" = none)(ha:PE X e (tE X.K d))
  (hs1:starEach [.Call (.Name "range" p2) [e] [] pos2] X.env=(false,eval (.Call (.Name "range" p2) [e] [] pos2) X.env)::starEach [] X.env:=by rfl)(hs2:starEach [e] X.env=(false,eval e X.env)::starEach [] X.env:=by rfl)
  (hpl:(backTo pos (starEach [] X.env)).any (·.1)=false:=by rfl)(hpl2:(backTo pos2 (starEach [] X.env)).any (·.1)=false:=by rfl) :
  PE X (.Call (.Name "tuple" p) [.Call (.Name "range" p2) [e] [] pos2] [] pos) (tE X.K (ZDl d)) :=
 (ZCB (ZDE hc) hg hm boot_tuple (ZD8 (ZCB (T:="range") ZEo hgr hmr rfl (ZD8 ha ZFd hs2) (by decide) (by decide) hs2 hpl2) ZFd hs1) (by decide) (by decide) hs1 hpl).imp λσ H Q ⟨ρ,sd,g,x,g',r,e,q⟩=>by
  obtain⟨⟨y,g1⟩,e1,e⟩:=bnd e;cases y with
  |dat y =>
   cases y with
   |int j =>
    dsimp only at e
    split at e
    ·rename_i hj
     cases e;refine⟨ρ,sd,g,.dat (.int j),_,r,e1,λv H1 ρ1 s1 h1 r1=>?_⟩;cases r1 with
     |dat r1 =>
      cases r1 with
      |int _ =>
       refine⟨j,rfl,λa hp=>?_⟩;obtain⟨sm,hr2,hn⟩:=Zy (o:=.rng 0 j) h1 hp;refine⟨a,j,rfl,ZI,hj,λl hl=>?_⟩;obtain⟨sm2,hr3,hn3⟩:=Zy (o:=.tup (ZEY j.toNat)) hr2 hl;exact q _ _ ρ1 (s1.trans ((Stp.same sm).trans (.same sm2))) hr3 (.dat (.tup (.inl ⟨.inl ZI,hn3⟩) (ZIm _)))
    ·cases e
   |_=>cases e
  |_=>cases e
theorem ZFH{e:Expr}{d:DE}{p p2 pos pos2:Pos}(hc:X.calm=true)(hg:Gl X "tuple")(hm:X.mg "tuple" = none)(hgr:Gl X "range")(hmr:X.mg "range" = none)(ha:JE X e d)
  (hs1:starEach [.Call (.Name "range" p2) [e] [] pos2] X.env=(false,eval (.Call (.Name "range" p2) [e] [] pos2) X.env)::starEach [] X.env:=by rfl)(hs2:starEach [e] X.env=(false,eval e X.env)::starEach [] X.env:=by rfl)
  (hpl:(backTo pos (starEach [] X.env)).any (·.1)=false:=by rfl)(hpl2:(backTo pos2 (starEach [] X.env)).any (·.1)=false:=by rfl) :
  JE X (.Call (.Name "tuple" p) [.Call (.Name "range" p2) [e] [] pos2] [] pos) (ZDl d):=⟨ZGH hc hg hm hgr hmr ha.h hs1 hs2 hpl hpl2⟩
end
section
variable{sd:Sd}{g:G}{P:W->G->Prop}{d:DE}
theorem ZKJ(h:EvP (d sd g) λx g1=>∃j:Int,x=.dat (.int j)/\(0<=j/\j<=1000)/\P (.dat (.tuple (ZAK j.toNat 0))) g1):EvP (ZDl d sd g) P:=by
 obtain⟨x,g1,e1,j,rfl,hz,h⟩:=h;refine⟨_,_,?_,h⟩;unfold ZDl;rw[e1];exact if_pos hz
end
section
variable{X:Cx}{pos:Pos}
def ZE1(i j l:Nat)(a:DA):DS:=λsd g=>(a sd g).bind λp=>match p.1 with|[x,y,z]=>some (.nx (((sd.set l (some z)).set j (some y)).set i (some x)) p.2)|_=>none
theorem ZJW{i j l:Nat}{aa:DA}{D:Ends}{σ : St}{H:Hp}(h:tS X.K (ZE1 i j l aa) D σ H):ZJx i j l (tA X.K aa) D σ H:=by
 obtain⟨ρ,sd,g,oo,r,e,q⟩:=h;obtain⟨⟨ws,g1⟩,e1,e⟩:=bnd e;refine⟨ρ,sd,g,ws,g1,r,e1,λvs H1 ρ1 s1 h1 r1=>?_⟩;cases r1 with
 |nil=>cases e
 |cons a t =>
  cases t with
  |nil=>cases e
  |cons b t =>
   cases t with
   |nil=>cases e
   |cons c t =>
    cases t with
    |nil=>cases e;exact⟨_,_,_,rfl,q _ H1 ρ1 s1 ((((r.step s1 h1).set c l).set b j).set a i)⟩
    |cons _ _=>cases e
theorem ZHJ{i j l:Nat}{x y z:Str}{a b c:Expr}{aa:DA}{px py pz pt:Pos}{kt k2 pt2}(hc:X.calm=true)(hN:X.N.Nodup)(hi:X.N[i]? = some x)(hj:X.N[j]? = some y)(hl:X.N[l]? = some z)
  (hx:X.env.scope.names.lookup x=some .local)(hy:X.env.scope.names.lookup y=some .local)(hz:X.env.scope.names.lookup z=some .local)(ha:JA X [a,b,c] aa)
  (hw:swappedStores [.Tuple [.Name x px,.Name y py,.Name z pz] kt pt] (.Tuple [a,b,c] k2 pt2) X.env=pure (some [x,y,z]):=by rfl)
  (hs:swapsWithSole [.Tuple [.Name x px,.Name y py,.Name z pz] kt pt] (.Tuple [a,b,c] k2 pt2) pos.line X.env=pure false:=by rfl) :
  JS X (.Assign [.Tuple [.Name x px,.Name y py,.Name z pz] kt pt] (.Tuple [a,b,c] k2 pt2) pos) (ZE1 i j l aa):=⟨(ZJO hc hN hi hj hl hx hy hz ha.h hw hs).imp λ_ _ _ h=>ZJW h⟩
end
section
variable{sd:Sd}{g:G}{aa:DA}{PS':Out->Prop}
theorem ZKk{i j l:Nat}(h:EvP (aa sd g) λws g1=>∃x y z,ws=[x,y,z]/\PS' (.nx (((sd.set l (some z)).set j (some y)).set i (some x)) g1)):EvS (ZE1 i j l aa sd g) PS':=by
 obtain⟨ws,g1,e1,x,y,z,rfl,h⟩:=h;exact⟨_,by unfold ZE1;rw[e1];rfl,h⟩
end
section
variable{X:Cx}{pos:Pos}
def ZFq(ws:List W)(g:G):Option (W×G):=if ws.length<=1000 then some (.tup ws,g) else none
theorem ZJE{es:List Expr}{aa:DA}{x1}(h:PA X es (tA X.K aa)):PE X (.Tuple es x1 pos) (tE X.K (dF ZFq aa)):=(ZHi h).imp λσ H Q ⟨ρ,sd,g,x,g',r,e,q⟩=>by
 obtain⟨⟨ws,g1⟩,e1,e⟩:=bnd e;refine⟨ρ,sd,g,ws,g1,r,e1,λvs H1 ρ1 s1 h1 r1=>?_⟩;unfold ZFq at e
 split at e
 ·rename_i hz
  cases e;refine⟨by rw[r1.length];exact le_of_lt (ZP hz),λp hp=>?_⟩;obtain⟨sm,hr2,hn⟩:=Zy (o:=.tup vs) h1 hp;exact q _ _ ρ1 (s1.trans (.same sm)) hr2 (.tup (.inl ⟨.inl ZI,hn⟩) (r1.mono (.same sm)))
 ·cases e
theorem ZHL{es:List Expr}{aa:DA}{x1}(h:JA X es aa):JE X (.Tuple es x1 pos) (dF ZFq aa):=⟨ZJE h.h⟩
end
def H0:Hs:=(0,[],[],[])
inductive loopP (src:Option Nat) (xs:List PyData) (pt:Pat) (db:DS) (r:List PyData) (P:Out->Prop):Out->Prop
 |nx {sd:Sd} {g:G}:Zo src xs g->EvS (Zx src xs pt db r sd g) P->loopP src xs pt db r P (.nx sd g)
 |ct {sd:Sd} {g:G}:Zo src xs g->EvS (Zx src xs pt db r sd g) P->loopP src xs pt db r P (.ct sd g)
 |bk {sd:Sd} {g:G}:P (.nx sd g)->loopP src xs pt db r P (.bk sd g)
 |rt {x:W} {g:G}:P (.rt x g)->loopP src xs pt db r P (.rt x g)
theorem ZKp{src:Option Nat}{xs:List PyData}{pt:Pat}{db:DS}{P:Out->Prop}{sd:Sd}{g:G}(h:P (.nx sd g)):EvS (Zx src xs pt db [] sd g) P:=by
 rw[Zx];exact⟨_,rfl,h⟩
theorem ZIw{src:Option Nat}{xs:List PyData}{pt:Pat}{db:DS}{P:Out->Prop}{sd sd1:Sd}{g:G}{x:PyData}{r:List PyData}(e:ZN pt (.dat x) sd=some sd1)(h:EvS (db sd1 g) (loopP src xs pt db r P)):EvS (Zx src xs pt db (x::r) sd g) P:=by
 rw[Zx,e];obtain⟨o,e2,h⟩:=h;show EvS ((db sd1 g).bind _) P;rw[e2];cases h with
 |nx so h=>show EvS (Z7 _ _ _ _) P;rw[Z0 so];exact h
 |ct so h=>show EvS (Z7 _ _ _ _) P;rw[Z0 so];exact h
 |bk h=>exact⟨_,rfl,h⟩
 |rt h=>exact⟨_,rfl,h⟩
theorem bT{A B:Prop}(h:A):(true=true->A)/\(true=false->B):=⟨λ_=>h,λz=>by cases z⟩
theorem bF{A B:Prop}(h:B):(false=true->A)/\(false=false->B):=⟨(λz=>by cases z),λ_=>h⟩
def ZA2(K:PySem.W.Frag)(x ql:Str)(st:Stmt)(f:Addr):Prop:=∃fd,Fun K x ql st f fd
theorem fnAt_mk{K:PySem.W.Frag}{x qual:Str}{st:Stmt}{f:Addr}{oc:Value}{od an:Option Addr}{osl:Array (Option Value)}{kV doc pm cdv ct:Value}(l:K.lookup f=some ⟨oc,od,.func (PySem.W.fnOf x qual (ZAy st) (ZAD st) (ZF st) .none kV doc pm an cdv ct),osl⟩)
  (c:PySem.W.codeIn K cdv qual=true)(k:PySem.W.keepIn K (.ref f)=true):ZA2 K x qual st f:=⟨_,ZHn l c k⟩
section
variable{K:PySem.W.Frag}{ρ ρ':Rh}{H:Hp}
mutual
theorem Rel.lessC(hc:∀(n:Nat) (a:Addr),ρ.c[n]? = some a->ρ'.c[n]? = some a)(s:∀a,ρ'.mem a->ρ.mem a):∀{v:V} {x:W},Rel K ρ H v x->Rel K ρ' H v x
 |_,_,.dat h=>.dat (h.less s)
 |_,_,.ref h=>.ref (hc _ _ h)
 |_,_,.inp h=>.inp (h.less s)
 |_,_,.ty=>.ty
 |_,_,.tup h t=>.tup (h.less s) (RelL.lessC hc s t)
theorem RelL.lessC(hc:∀(n:Nat) (a:Addr),ρ.c[n]? = some a->ρ'.c[n]? = some a)(s:∀a,ρ'.mem a->ρ.mem a):∀{vs:List V} {xs:List W},RelL K ρ H vs xs->RelL K ρ' H vs xs
 |_,_,.nil=>.nil
 |_,_,.cons h t=>.cons (Rel.lessC hc s h) (RelL.lessC hc s t)
end
theorem RelF.lessC(hc:∀(n:Nat) (a:Addr),ρ.c[n]? = some a->ρ'.c[n]? = some a)(s:∀a,ρ'.mem a->ρ.mem a):∀{ns:List Str} {vs:List (Str×V)} {xs:List W},RelF K ρ H ns vs xs->RelF K ρ' H ns vs xs
 |_,_,_,.nil=>.nil
 |_,_,_,.cons h t=>.cons (h.lessC hc s) (t.lessC hc s)
theorem RelK.lessC(hc:∀(n:Nat) (a:Addr),ρ.c[n]? = some a->ρ'.c[n]? = some a)(s:∀a,ρ'.mem a->ρ.mem a):∀{vs:List (Key×V)} {xs:List (Key×W)},RelK K ρ H vs xs->RelK K ρ' H vs xs
 |_,_,.nil=>.nil
 |_,_,.cons h t=>.cons (h.lessC hc s) (t.lessC hc s)
theorem Zp.lessC(hc:∀(n:Nat) (a:Addr),ρ.c[n]? = some a->ρ'.c[n]? = some a)(s:∀a,ρ'.mem a->ρ.mem a){a:Addr}{c:Cell}(h:Zp K ρ H a c):Zp K ρ' H a c:=by
 cases c with
 |pl ds=>obtain⟨vs,h1,h2⟩:=h;exact⟨vs,h1,h2.less s⟩
 |rl ws=>obtain⟨vs,h1,h2⟩:=h;exact⟨vs,h1,h2.lessC hc s⟩
 |dk ws=>obtain⟨vs,h1,h2⟩:=h;exact⟨vs,h1,h2.lessC hc s⟩
 |ob c fs=>obtain⟨C,dx,vs,h0,h1,h2⟩:=h;exact⟨C,dx,vs,h0,h1,h2.lessC hc s⟩
theorem HR.reveal{g:G}{D:Addr}{acc:List V}{ws:List W}{ρ1:Rh}{H1:Hp}(hD:H1 D=none)(hnh:D∉ρ.h)(h:HR K (ρ.hide D) H g)(st:Stp ρ1 H1 ρ H)(hacc:H D=some (.lst acc))(ra:RelL K (ρ.hide D) H acc ws):HR K (ρ.add D) H (g++[.rl ws])/\Stp ρ1 H1 (ρ.add D) H:=by
 have hc:∀(n:Nat) (a:Addr),(ρ.hide D).c[n]? = some a->(ρ.add D).c[n]? = some a:=λn a e=>by
  show(ρ.c++[D])[n]? = some a;have e : ρ.c[n]? = some a:=e;rw[getElem?_append_left (List.getElem?_eq_some_iff.mp e).1];exact e
 have hs:∀a,(ρ.add D).mem a->(ρ.hide D).mem a:=λa z=>by
  rcases z with z|z
  ·rcases List.mem_append.mp z with z|z
   ·exact .inl z
   ·exact .inr (by rw[List.mem_singleton.mp z];exact mem_cons_self ..)
  ·exact .inr (mem_cons_of_mem _ z)
 have hn:=(h.hid D (mem_cons_self ..)).1;have hn:D∉ρ.c:=hn;refine⟨⟨?_,?_,λn c e=>?_,λa z=>?_⟩,?_⟩
 ·show(ρ.c++[D]).length=_
  rw[length_append,length_append,show ρ.c.length=g.length from h.len];rfl
 ·show(ρ.c++[D]).Nodup
  rw[List.nodup_append];refine⟨h.nd,by simp,λa ha b hb z=>?_⟩;rw[List.mem_singleton.mp hb] at z;rw[z] at ha;exact hn ha
 ·by_cases hl:n<g.length
  ·rw[getElem?_append_left hl] at e
   obtain⟨a,h1,h2⟩:=h.ce n c e;exact⟨a,hc n a h1,h2.lessC hc hs⟩
  ·have hl2:n<(g++[Cell.rl ws]).length:=(List.getElem?_eq_some_iff.mp e).1
   have hn':n=g.length:=by rw[length_append] at hl2;simp at hl2;omega
   rw[hn',getElem?_append_right (le_refl _),sub_self] at e;cases e;refine⟨D,?_,acc,hacc,ra.lessC hc hs⟩;show(ρ.c++[D])[n]? = some D;rw[hn',←show ρ.c.length=g.length from h.len,getElem?_append_right (le_refl _),sub_self];rfl
 ·have z:a∈ρ.h:=z
  obtain⟨h1,o,h2⟩:=h.hid a (mem_cons_of_mem _ z);refine⟨λq=>?_,o,h2⟩;rcases List.mem_append.mp q with q|q
  ·exact h1 q
  ·rw[List.mem_singleton.mp q] at z;exact hnh z
 ·obtain⟨r,er⟩:=st.pre
  refine⟨⟨r++[D],by show ρ.c++[D]=_;rw[er,append_assoc]⟩,st.hid,st.frm,λa z=>?_,st.kd⟩;rcases List.mem_append.mp z with z|z
  ·exact st.fre a z
  ·rw[List.mem_singleton.mp z];exact .inr hD
end
noncomputable def Zz(src:Option Nat)(xs:List PyData)(pt:Pat)(dt:DB)(de:DE)(sd0:Sd):List PyData->G->Option (List W×G)
 |[],g=>some ([],g)
 |x::r,g=>(ZN pt (.dat x) sd0).bind λsd1=>(dt sd1 g).bind λb=>if b.1=true then (de sd1 b.2).bind λy=>Z7 src xs y.2 ((Zz src xs pt dt de sd0 r y.2).map λq=>(y.1::q.1,q.2))
  else Z7 src xs b.2 (Zz src xs pt dt de sd0 r b.2)
noncomputable def ZBb(own:Nat)(cap:List Nat)(pt:Pat)(di:DI)(dt:DB)(de:DE):DE:=λsd g=>(di sd g).bind λt=>if t.1.length<=1000 then (Zz t.2.1 t.1 pt dt de (ZCW own cap sd) t.1 t.2.2).map λp=>(.ref p.2.length,p.2++[.rl p.1]) else none
section
variable{X:Cx}{tg elt iter:Expr}{ifs:List Expr}{scope sc:Scope}{pos:Pos}{di:DI}{pt:Pat}{dt:DB}{de:DE}{N NX:List Str}{own:Nat}{cap:List Nat}
theorem ZEV{src:Option Nat}{xs:List PyData}{sd0:Sd}{g2:G}:∀{r:List PyData} {ys:List W} {g:G},Zz src xs pt dt de sd0 r g=some (ys,g2)->CRun (Zo src xs) pt dt de sd0 (r.map .dat) g ys g2
 |[],_,_,e=>by
  rw[Zz] at e;cases e;exact .nil
 |x::r,ys,g,e=>by
  rw[Zz] at e;obtain⟨sd1,e2,e⟩:=bnd e;obtain⟨⟨b,g3⟩,e3,e⟩:=bnd e;cases b with
  |false =>
   rw[if_neg Bool.false_ne_true] at e;obtain⟨so,e⟩:=ZAC e;exact .no e2 e3 so (ZEV e)
  |true =>
   rw[if_pos rfl] at e;obtain⟨⟨w,g4⟩,e4,e⟩:=bnd e;obtain⟨so,e⟩:=ZAC e;obtain⟨⟨ys',g5⟩,e6,e⟩:=mp e;cases e;exact .yes e2 e3 e4 so (ZEV e6)
theorem ZGs{K:PySem.W.Frag}{σ : St}{H:Hp}{Q:VK}(hp:pt.all (λi=>decide (i<own))=true)(h:tE K (ZBb own cap pt di dt de) σ H Q):ZEq own cap (tI K di) (gP K pt) (tT K dt) (tE K de) σ H Q:=by
 obtain⟨ρ,sd,g,x,gz,r,e,q⟩:=h;obtain⟨⟨xs,src,g1⟩,e1,e⟩:=bnd e;dsimp only at e
 split at e
 ·rename_i hz
  obtain⟨⟨zs,g2⟩,e2,e⟩:=mp e;cases e;refine⟨ρ,sd,g,xs,src,g1,r,e1,λJ H1 ρ1 s1 h1 ⟨so,it⟩ D hD=>ZB6 hp (IO:=λρ H=>ItOk K ρ H J xs src) (λs i=>i.mono s) (λh i=>i.grow h) (λi h s=>i.useW h s) (by rw[length_map];exact hz) hD (ZEb (r.step s1 h1) own cap) (λi hi=>ZC2 hi) so (it.hide hD) (ZEV e2) λacc H' ρ' s' hr hacc ra=>?_⟩;have hnh:D∉ρ1.h:=λz=>h1.nin hD (.inr z)
  obtain⟨hrv,srv⟩:=HR.reveal (H1:=H1) hD (by rw[s'.hid];exact hnh) hr s' hacc ra;refine q _ H' (ρ'.add D) (s1.trans srv) hrv (.ref ?_);show(ρ'.c++[D])[g2.length]? = some D;rw[←hr.shown.len,getElem?_append_right (le_refl _),sub_self];rfl
 ·cases e
theorem ZG4{i:Nat}{x:Str}{py spos:Pos}(hN:X.N.Nodup)(hi:X.N[i]? = some x)(hx:Loc X.env.scope x)(hc:X.calm=true)(hit:PI X tg iter (tI X.K di))(hsc:X.env.scope=sc)(hNX:X.N=NX)
  (hb:∀cl C s0 H0 fp,PG (blk X N (compEnvC scope cl C X.env) s0 H0 fp) tg (gP X.K pt)/\PTs (blk X N (compEnvC scope cl C X.env) s0 H0 fp) ifs (tT X.K dt)/\PE (blk X N (compEnvC scope cl C X.env) s0 H0 fp) elt (tE X.K de))
  (co:ZB5 sc scope NX N own cap=true)(hp:pt.all (λi=>decide (i<own))=true)(hsw:swapsWith (.ListComp elt [⟨tg,iter,ifs,0⟩] scope pos) (some (.Name x py)) spos.line X.env=pure true:=by rfl)(hs:∀x,foldedSetIterable iter X.env x=pure x:=by intro _;rfl)
  (hf:X.fn x=true∨X.env.scope.names.lookup x=some .local:=by first|exact .inl rfl|exact .inr rfl|assumption) :
  PS X (.Assign [.Name x py] (.ListComp elt [⟨tg,iter,ifs,0⟩] scope pos) spos) (tS X.K (ZU i (ZBb own cap pt di dt de))):=(ZIg hN hi hx hc hit hsc hNX hb co hsw hs hf).imp λD σ H ⟨ρ,sd,g,o,r,e,q⟩=>by
 obtain⟨⟨y,g1⟩,e1,e⟩:=bnd e;cases e;exact ZGs hp ⟨ρ,sd,g,y,g1,r,e1,λv H1 ρ1 s1 h1 r1=>q _ H1 ρ1 s1 ((r.step s1 h1).set r1 i)⟩
theorem ZGj{i:Nat}{x:Str}{py spos:Pos}(hN:X.N.Nodup)(hi:X.N[i]? = some x)(hx:Loc X.env.scope x)(hc:X.calm=true)(hit:JI X tg iter di)(hsc:X.env.scope=sc)(hNX:X.N=NX)(hb:∀cl C s0 H0 fp,JG (blk X N (compEnvC scope cl C X.env) s0 H0 fp) tg pt/\JTs (blk X N (compEnvC scope cl C X.env) s0 H0 fp) ifs dt/\JE (blk X N (compEnvC scope cl C X.env) s0 H0 fp) elt de)(co:ZB5 sc scope NX N own cap=true)(hp:pt.all (λi=>decide (i<own))=true)(hsw:swapsWith (.ListComp elt [⟨tg,iter,ifs,0⟩] scope pos) (some (.Name x py)) spos.line X.env=pure true:=by rfl)(hs:∀x,foldedSetIterable iter X.env x=pure x:=by intro _;rfl)(hf:X.fn x=true∨X.env.scope.names.lookup x=some .local:=by first|exact .inl rfl|exact .inr rfl|assumption):JS X (.Assign [.Name x py] (.ListComp elt [⟨tg,iter,ifs,0⟩] scope pos) spos) (ZU i (ZBb own cap pt di dt de)):=⟨ZG4 hN hi hx hc hit.h hsc hNX (λcl C s0 H0 fp=>⟨(hb cl C s0 H0 fp).1.h,(hb cl C s0 H0 fp).2.1.h,(hb cl C s0 H0 fp).2.2.h⟩) co hp hsw hs hf⟩
end
section
variable{sd:Sd}{g:G}{P:W->G->Prop}
theorem ZJU{own:Nat}{cap:List Nat}{pt:Pat}{di:DI}{dt:DB}{de:DE}(h:EvI (di sd g) λxs src g1=>xs.length<=1000/\EvP (Zz src xs pt dt de (ZCW own cap sd) xs g1) λws g2=>P (.ref g2.length) (g2++[.rl ws])):EvP (ZBb own cap pt di dt de sd g) P:=by
 obtain⟨xs,src,g1,e1,hl,ys,g2,e2,h⟩:=h;refine⟨_,_,?_,h⟩;unfold ZBb;rw[e1];show(if xs.length<=1000 then _ else _)=_;rw[if_pos hl];show(Zz src xs pt dt de (ZCW own cap sd) xs g1).map _=_;rw[e2];rfl
theorem ZIJ{src:Option Nat}{xs:List PyData}{pt:Pat}{dt:DB}{de:DE}{sd0:Sd}{Q:List W->G->Prop}(q:Q [] g):EvP (Zz src xs pt dt de sd0 [] g) Q:=⟨_,_,rfl,q⟩
theorem ZB1{src:Option Nat}{xs:List PyData}{pt:Pat}{de:DE}{sd0 sd1:Sd}{x:PyData}{r:List PyData}{Q:List W->G->Prop}(e:ZN pt (.dat x) sd0=some sd1)(h:EvP (de sd1 g) λy g1=>Zo src xs g1/\EvP (Zz src xs pt ZAA de sd0 r g1) λws g2=>Q (y::ws) g2):EvP (Zz src xs pt ZAA de sd0 (x::r) g) Q:=by
 obtain⟨y,g1,e1,so,ws,g2,e2,q⟩:=h;refine⟨_,_,?_,q⟩;rw[Zz,e];show((de sd1 g).bind λy=>Z7 src xs y.2 ((Zz src xs pt ZAA de sd0 r y.2).map λq=>(y.1::q.1,q.2)))=_;rw[e1];show Z7 src xs g1 ((Zz src xs pt ZAA de sd0 r g1).map λq=>(y::q.1,q.2))=_;rw[Z0 so,e2];rfl
end
end L2
namespace L2
open PySem PySem.Spec PyProof.Rows H1
abbrev DIW:=Sd->G->Option (List W×Nat×G)
def ZGD(n:Nat)(ws:List W)(g:G):Prop:=g[n]? = some (.rl ws)
open Classical in
noncomputable def ZEn{α : Type}(n:Nat)(ws:List W)(g:G)(k:Option α):Option α:=if ZGD n ws g then k else none
theorem ZDo{α : Type}{n:Nat}{ws:List W}{g:G}{k:Option α}{y : α}(h:ZEn n ws g k=some y):ZGD n ws g/\k=some y:=by
 unfold ZEn at h
 split at h
 ·exact⟨by assumption,h⟩
 ·cases h
theorem ZIf{α : Type}{n:Nat}{ws:List W}{g:G}{k:Option α}(h:ZGD n ws g):ZEn n ws g k=k:=by
 unfold ZEn;exact if_pos h
def iRl(d:DE):DIW:=λsd g=>(d sd g).bind λt=>match t.1 with
 |.ref n=>match t.2[n]? with
  |some (.rl ws)=>some (ws,n,t.2)
  |_=>none
 |_=>none
def ItW(K:PySem.W.Frag)(ρ : Rh)(J:It)(n:Nat):Prop:=∃a,ρ.c[n]? = some a/\J=Itl K a
section
variable{K:PySem.W.Frag}{ρ ρ':Rh}{H H':Hp}{J:It}{n:Nat}
theorem ItW.mono(s:Stp ρ H ρ' H')(h:ItW K ρ J n):ItW K ρ' J n:=by
 obtain⟨a,h1,h2⟩:=h;exact⟨a,ZBu s h1,h2⟩
theorem ItW.use{g:G}{ws:List W}(h:ItW K ρ J n)(h':HR K ρ H g)(so:ZGD n ws g):(∀(i:Nat) x,ws[i]? = some x->J.go i H/\∀v H2,J.yld i H v H2->Same H H2/\Rel K ρ H2 v x)/\∀i,ws.length<=i->J.stop i H:=by
 obtain⟨a,h,rfl⟩:=h;obtain⟨b,e1,vs,e2,tq⟩:=h'.ce n _ so;rw[h] at e1;cases e1;have hq:SqL K H a vs:=SqL.of e2;refine⟨λi x e=>?_,λi hi=>⟨vs,hq,by rw[tq.length];exact hi⟩⟩;obtain⟨v,e1,r1⟩:=ZEH tq e;refine⟨⟨vs,v,hq,e1⟩,λu H2 y=>?_⟩;obtain⟨rfl,y⟩:=y;have:=y vs hq;rw[e1] at this
 cases this
 exact⟨Same.refl _,r1⟩
end
def tIW(K:PySem.W.Frag)(d:DIW):TI:=λσ H R=>∃ρ sd g xs src g',Rst K ρ H σ sd g/\d sd g=some (xs,src,g')/\∀J H' ρ',Stp ρ H ρ' H'->HR K ρ' H' g'->ZGD src xs g'/\ItW K ρ' J src->R J H'
theorem di_rl{X:Cx}{tg l:Expr}{d:DE}(hl:PE X l (tE X.K d)):PI X tg l (tIW X.K (iRl d)):=(ZDi hl).imp λσ H R ⟨ρ,sd,g,xs,src,g',r,e,q⟩=>by
 obtain⟨⟨y,g1⟩,e1,e⟩:=bnd e;refine⟨ρ,sd,g,y,g1,r,e1,λv H1 ρ1 s1 h1 r1=>?_⟩;cases r1 with
 |@ref a n h =>
  dsimp only at e
  split at e
  ·rename_i ws e2
   cases e;obtain⟨b,e3,vs,e4,tq⟩:=h1.ce _ _ e2;rw[h] at e3;cases e3;exact .inl ⟨_,rfl,⟨vs,SqL.of e4⟩,q _ H1 ρ1 s1 h1 ⟨e2,_,h,rfl⟩⟩
  ·cases e
 |ty=>cases e
 |tup _ _=>cases e
 |inp h=>cases e
 |dat h=>cases e
noncomputable def Z6(n:Nat)(xs:List W)(pt:Pat)(dt:DB)(de:DE)(sd0:Sd):List W->G->Option (List PyData×G)
 |[],g=>some ([],g)
 |x::r,g=>(ZN pt x sd0).bind λsd1=>(dt sd1 g).bind λb=>if b.1=true then (de sd1 b.2).bind λy=>match y.1 with
   |.dat d=>ZEn n xs y.2 ((Z6 n xs pt dt de sd0 r y.2).map λq=>(d::q.1,q.2))
   |_=>none
  else ZEn n xs b.2 (Z6 n xs pt dt de sd0 r b.2)
noncomputable def ZAp(own:Nat)(cap:List Nat)(pt:Pat)(di:DIW)(dt:DB)(de:DE):DE:=λsd g=>(di sd g).bind λt=>if t.1.length<=1000 then (Z6 t.2.1 t.1 pt dt de (ZCW own cap sd) t.1 t.2.2).map λp=>(.dat (.list p.1),p.2) else none
section
variable{X:Cx}{tg elt iter:Expr}{ifs:List Expr}{scope sc:Scope}{pos:Pos}{di:DIW}{pt:Pat}{dt:DB}{de:DE}{N NX:List Str}{own:Nat}{cap:List Nat}
theorem ZEL{n:Nat}{xs:List W}{sd0:Sd}{g2:G}:∀{r:List W} {ys:List PyData} {g:G},Z6 n xs pt dt de sd0 r g=some (ys,g2)->CRun (ZGD n xs) pt dt de sd0 r g (ys.map .dat) g2
 |[],_,_,e=>by
  rw[Z6] at e;cases e;exact .nil
 |x::r,ys,g,e=>by
  rw[Z6] at e;obtain⟨sd1,e2,e⟩:=bnd e;obtain⟨⟨b,g3⟩,e3,e⟩:=bnd e;cases b with
  |false =>
   rw[if_neg Bool.false_ne_true] at e;obtain⟨so,e⟩:=ZDo e;exact .no e2 e3 so (ZEL e)
  |true =>
   rw[if_pos rfl] at e;obtain⟨⟨w,g4⟩,e4,e⟩:=bnd e;dsimp only at e
   split at e
   ·obtain⟨so,e⟩:=ZDo e
    obtain⟨⟨ys',g5⟩,e6,e⟩:=mp e;cases e;exact .yes e2 e3 e4 so (ZEL e6)
   ·cases e
theorem ZH1{K:PySem.W.Frag}{σ : St}{H:Hp}{Q:VK}(hp:pt.all (λi=>decide (i<own))=true)(h:tE K (ZAp own cap pt di dt de) σ H Q):ZEq own cap (tIW K di) (gP K pt) (tT K dt) (tE K de) σ H Q:=by
 obtain⟨ρ,sd,g,x,gz,r,e,q⟩:=h;obtain⟨⟨xs,src,g1⟩,e1,e⟩:=bnd e;dsimp only at e
 split at e
 ·rename_i hz
  obtain⟨⟨zs,g2⟩,e2,e⟩:=mp e;cases e;exact⟨ρ,sd,g,xs,src,g1,r,e1,λJ H1 ρ1 s1 h1 ⟨so,it⟩ D hD=>ZB6 hp (IO:=λρ _=>ItW K ρ J src) (λs i=>i.mono s) (λ_ i=>i) (λi h s=>i.use h s) hz hD (ZEb (r.step s1 h1) own cap) (λi hi=>ZC2 hi) so it (ZEL e2) λacc H' ρ' s' hr hacc ra=>ZFt hD h1 q s1 s' hr hacc ra⟩
 ·cases e
theorem ZH7(hc:X.calm=true)(hi:PI X tg iter (tIW X.K di))(hsc:X.env.scope=sc)(hNX:X.N=NX)
  (hb:∀cl C s0 H0 fp,PG (blk X N (compEnvC scope cl C X.env) s0 H0 fp) tg (gP X.K pt)/\PTs (blk X N (compEnvC scope cl C X.env) s0 H0 fp) ifs (tT X.K dt)/\PE (blk X N (compEnvC scope cl C X.env) s0 H0 fp) elt (tE X.K de))
  (co:ZB5 sc scope NX N own cap=true)(hp:pt.all (λi=>decide (i<own))=true)(hs:∀x,foldedSetIterable iter X.env x=pure x:=by intro _;rfl):PE X (.ListComp elt [⟨tg,iter,ifs,0⟩] scope pos) (tE X.K (ZAp own cap pt di dt de)) :=
 (ZF1 hc hi hsc hNX hb co hs).imp λ_ _ _ h=>ZH1 hp h
structure JIW (X:Cx) (tg iter:Expr) (d:DIW):Prop where
 h:PI X tg iter (tIW X.K d)
theorem ZK8{l:Expr}{d:DE}(hl:JE X l d):JIW X tg l (iRl d):=⟨di_rl hl.h⟩
theorem ZGJ(hc:X.calm=true)(hi:JIW X tg iter di)(hsc:X.env.scope=sc)(hNX:X.N=NX)(hb:∀cl C s0 H0 fp,JG (blk X N (compEnvC scope cl C X.env) s0 H0 fp) tg pt/\JTs (blk X N (compEnvC scope cl C X.env) s0 H0 fp) ifs dt/\JE (blk X N (compEnvC scope cl C X.env) s0 H0 fp) elt de)(co:ZB5 sc scope NX N own cap=true)(hp:pt.all (λi=>decide (i<own))=true)(hs:∀x,foldedSetIterable iter X.env x=pure x:=by intro _;rfl):JE X (.ListComp elt [⟨tg,iter,ifs,0⟩] scope pos) (ZAp own cap pt di dt de):=⟨ZH7 hc hi.h hsc hNX (λcl C s0 H0 fp=>⟨(hb cl C s0 H0 fp).1.h,(hb cl C s0 H0 fp).2.1.h,(hb cl C s0 H0 fp).2.2.h⟩) co hp hs⟩
end
section
variable{sd:Sd}{g:G}{P:W->G->Prop}
theorem ZJF{own:Nat}{cap:List Nat}{pt:Pat}{d:DE}{dt:DB}{de:DE}(h:EvP (d sd g) λl g1=>∃n,l=.ref n/\∃ws,g1[n]? = some (.rl ws)/\ws.length<=1000/\EvP (Z6 n ws pt dt de (ZCW own cap sd) ws g1) λys g2=>P (.dat (.list ys)) g2):EvP (ZAp own cap pt (iRl d) dt de sd g) P:=by
 obtain⟨l,g1,e1,n,rfl,ws,e2,hl,ys,g2,e3,h⟩:=h;refine⟨_,_,?_,h⟩;unfold ZAp iRl;rw[e1];show Option.bind (match g1[n]? with|some (.rl ws)=>some (ws,n,g1)|_=>none) _=_;rw[e2];show(if ws.length<=1000 then _ else _)=_;rw[if_pos hl];show(Z6 n ws pt dt de (ZCW own cap sd) ws g1).map _=_;rw[e3];rfl
theorem ZIS{n:Nat}{xs:List W}{pt:Pat}{dt:DB}{de:DE}{sd0:Sd}{Q:List PyData->G->Prop}(q:Q [] g):EvP (Z6 n xs pt dt de sd0 [] g) Q:=⟨_,_,rfl,q⟩
theorem ZBs{n:Nat}{xs:List W}{pt:Pat}{de:DE}{sd0 sd1:Sd}{x:W}{r:List W}{Q:List PyData->G->Prop}(e:ZN pt x sd0=some sd1)(h:EvP (de sd1 g) λy g1=>∃d,y=.dat d/\g1[n]? = some (.rl xs)/\EvP (Z6 n xs pt ZAA de sd0 r g1) λws g2=>Q (d::ws) g2):EvP (Z6 n xs pt ZAA de sd0 (x::r) g) Q:=by
 obtain⟨y,g1,e1,d,rfl,so,ws,g2,e2,q⟩:=h;refine⟨_,_,?_,q⟩;rw[Z6,e];show((de sd1 g).bind λy=>match y.1 with|.dat d=>ZEn n xs y.2 ((Z6 n xs pt ZAA de sd0 r y.2).map λq=>(d::q.1,q.2))|_=>none)=_;rw[e1];show ZEn n xs g1 ((Z6 n xs pt ZAA de sd0 r g1).map λq=>(d::q.1,q.2))=_;rw[ZIf so,e2];rfl
end
end L2
namespace L2
open PySem PySem.Spec PyProof.Rows H1
theorem ZKa{P:List Value->Prop}{n:Nat}(h:∀a us,us.length=n->P (a::us)):∀us:List Value,us.length=n+1->P us
 |a::us,e=>h a us (Nat.succ.inj e)
theorem ZLw{P:List Value->Prop}(h:∀a,P [a]):∀us:List Value,us.length=1->P us:=ZKa λa us e=>by rw[List.length_eq_zero_iff.mp e];exact h a
theorem ZLq{P:List Value->Prop}(h:∀a b,P [a,b]):∀us:List Value,us.length=2->P us:=ZKa λa=>ZLw (h a)
theorem len3{P:List Value->Prop}(h:∀a b c,P [a,b,c]):∀us:List Value,us.length=3->P us:=ZKa λa=>ZLq (h a)
def tgN0:Expr->List Str
 |.Name x _=>[x]
 |_=>[]
def tgN1:Expr->List Str
 |.Name x _=>[x]
 |.Tuple es _ _=>es.flatMap tgN0
 |_=>[]
def tgN:Expr->List Str
 |.Name x _=>[x]
 |.Tuple es _ _=>es.flatMap tgN1
 |_=>[]
section
variable{X:Cx}{tg elt iter:Expr}{ifs:List Expr}{scope sc:Scope}{pos:Pos}{di:DI}{pt:Pat}{dt:DB}{de:DE}{own:Nat}{cap:List Nat}
theorem ZGL(hc:X.calm=true)(hi:JI X tg iter di)(hb:∀cl C s0 H0 fp,JG (blk X (tgN tg++cap.map λi=>X.N.getD i "") (compEnvC scope cl C X.env) s0 H0 fp) tg pt/\JTs (blk X (tgN tg++cap.map λi=>X.N.getD i "") (compEnvC scope cl C X.env) s0 H0 fp) ifs dt/\JE (blk X (tgN tg++cap.map λi=>X.N.getD i "") (compEnvC scope cl C X.env) s0 H0 fp) elt de)(co:ZB5 X.env.scope scope X.N (tgN tg++cap.map λi=>X.N.getD i "") own cap=true)(hp:pt.all (λi=>decide (i<own))=true)(hs:∀x,foldedSetIterable iter X.env x=pure x:=by intro _;rfl):JE X (.ListComp elt [⟨tg,iter,ifs,0⟩] scope pos) (Z9 own cap pt di dt de):=ZHT hc hi rfl rfl hb co hp hs
theorem ZFa{i:Nat}{x:Str}{py spos:Pos}(hN:X.N.Nodup)(hi:X.N[i]? = some x)(hx:Loc X.env.scope x)(hc:X.calm=true)(hit:JI X tg iter di)(hb:∀cl C s0 H0 fp,JG (blk X (tgN tg++cap.map λi=>X.N.getD i "") (compEnvC scope cl C X.env) s0 H0 fp) tg pt/\JTs (blk X (tgN tg++cap.map λi=>X.N.getD i "") (compEnvC scope cl C X.env) s0 H0 fp) ifs dt/\JE (blk X (tgN tg++cap.map λi=>X.N.getD i "") (compEnvC scope cl C X.env) s0 H0 fp) elt de)(co:ZB5 X.env.scope scope X.N (tgN tg++cap.map λi=>X.N.getD i "") own cap=true)(hp:pt.all (λi=>decide (i<own))=true)(hsw:swapsWith (.ListComp elt [⟨tg,iter,ifs,0⟩] scope pos) (some (.Name x py)) spos.line X.env=pure true:=by rfl)(hs:∀x,foldedSetIterable iter X.env x=pure x:=by intro _;rfl)(hf:X.fn x=true∨X.env.scope.names.lookup x=some .local:=by first|exact .inl rfl|exact .inr rfl|assumption):JS X (.Assign [.Name x py] (.ListComp elt [⟨tg,iter,ifs,0⟩] scope pos) spos) (ZU i (ZBb own cap pt di dt de)):=ZGj hN hi hx hc hit rfl rfl hb co hp hsw hs hf
end
section
variable{X:Cx}{tg elt iter:Expr}{ifs:List Expr}{scope sc:Scope}{pos:Pos}{di:DIW}{pt:Pat}{dt:DB}{de:DE}{own:Nat}{cap:List Nat}
theorem ZFZ(hc:X.calm=true)(hi:JIW X tg iter di)(hb:∀cl C s0 H0 fp,JG (blk X (tgN tg++cap.map λi=>X.N.getD i "") (compEnvC scope cl C X.env) s0 H0 fp) tg pt/\JTs (blk X (tgN tg++cap.map λi=>X.N.getD i "") (compEnvC scope cl C X.env) s0 H0 fp) ifs dt/\JE (blk X (tgN tg++cap.map λi=>X.N.getD i "") (compEnvC scope cl C X.env) s0 H0 fp) elt de)(co:ZB5 X.env.scope scope X.N (tgN tg++cap.map λi=>X.N.getD i "") own cap=true)(hp:pt.all (λi=>decide (i<own))=true)(hs:∀x,foldedSetIterable iter X.env x=pure x:=by intro _;rfl):JE X (.ListComp elt [⟨tg,iter,ifs,0⟩] scope pos) (ZAp own cap pt di dt de):=ZGJ hc hi rfl rfl hb co hp hs
end
end L2
namespace HI
open PySem PySem.Spec PyProof.Rows H1
section
variable{prog:Program}{w:World}{A:Around}{E:Value->Shared->Prop}{s:Shared}
theorem ZFb:typeLookup (.type "list_reverseiterator") "__len__" = pure none:=by rw[typeLookup_type,builtinLookup_eq_fast];kernel_rfl
theorem ZHv:typeLookup (.type "list_reverseiterator") "__length_hint__" = pure (some (.builtin "list_reverseiterator.__length_hint__")):=by rw[typeLookup_type,builtinLookup_eq_fast];kernel_rfl
theorem ZLC{R:Result->Shared->Prop}{c₀ : Nat}{it l S:Addr}{xs:Array Value}{res:Value}(hh:A.handled=none)(n1:S≠it)(n2:S≠l)(ne:l≠it)(hn:xs.size<=sizeLine)(hit:s.heap.IsRevIter it l ((xs.size:Int)-1))(hl:s.heap.IsList l xs)(hS:s.heap.get? S=some { cls:=.type "list",data:=.seq #[] c₀ })
  (hR:∀h' tk acc' c',(∀b o,b≠S->b≠it->s.heap.get? b=some o->h'.get? b=some o)->h'.get? S=some { cls:=.type "list",dict:=none,data:=.seq acc' c',slots:=#[] }->ItemsOf (λi v=>xs[xs.size-1-i]? = some v) acc' xs.size->R (.ok (.ret res)) { s with heap:=h',toks:=tk }) :
  wpAny (model prog w) A.in1 (Builtin.List.listExtendWith (.ref S) (.ref it) res)
   (λfin s'=>match fin with|.done f=>R (.ok f) s'|.again c'=>c'.quiet=true/\codeAny (model prog w) A c' R s') (λe s'=>R (.error e) s') s:=by
 have ty:=hit.typeIs;have W:=(Walks.listRev (prog:=prog) (w:=w) (A:=A.in1) hh it l ne xs).toS;unfold Builtin.List.listExtendWith;refine wpAny_bind (wpAny_typeOf ty ?_);have h1:Builtin.List.listSameRef (.ref S) (.ref it)=false:=by simp[Builtin.List.listSameRef,n1]
 have h2:(Value.type "list_reverseiterator" == Value.type "list")=false:=by decide
 have h3:(Value.type "list_reverseiterator" == Value.type "tuple")=false:=by decide
 simp only[h1,h2,h3,Bool.or_false,Bool.false_eq_true,if_false];refine wpAny_bind (wpAny_pyIter_revIter hit ?_);refine wpAny_bind (wpAny_holding ?_);unfold Builtin.List.listLengthHint;refine wpAny_bind (wpAny_specialOf ty ZFb ?_);show wpAny _ A.in1 (specialOf (Value.ref it) (Str.ofString "__length_hint__") >>= _) _ _ _;refine wpAny_bind (wpAny_specialOf ty ZHv ?_)
 (generalize hid:("list_reverseiterator.__length_hint__" : String)=id0;(fail_if_success (clear hid id0));wp_delta;rw[show splitId id0=some ("list_reverseiterator","__length_hint__") from by subst hid;decide +kernel];subst hid)
 refine wpAny_bind (wpAny_isInstance (b:=true) ty (by rw[isSubtype_type];kernel_rfl) ?_);refine wpAny_pure ?_;rw[if_neg (by decide)];refine wpAny_pure ⟨plainId_quiet F.plain_extend_loop _,codeAny_extend_loopS W hn S (by simp[n1,n2]) _ xs.size 0 _ _ _ rfl (zero_le _) ⟨zero_le _,by simpa using hit,hl⟩ hS (ItemsOf.nil _) λs' acc' c' hm hS' hacc=>?_⟩;rw[Moved.eq_with hm];exact hR s'.heap s'.toks acc' c' (λb o b1 b2 e=>hm.heap b o (by simp[b1,b2]) e) hS' hacc
theorem callListRev{it l:Addr}{xs:Array Value}{Q:Value->Shared->Prop}(hh:A.handled=none)(ne:l≠it)(hn:xs.size<=sizeLine)(hit:s.heap.IsRevIter it l ((xs.size:Int)-1))(hl:s.heap.IsList l xs)
  (hQ:∀h' tk acc' c',(∀b o,b≠it->s.heap.get? b=some o->h'.get? b=some o)->h'.get? s.heap.objs.size=some { cls:=.type "list",dict:=none,data:=.seq acc' c',slots:=#[] }->ItemsOf (λi v=>xs[xs.size-1-i]? = some v) acc' xs.size->Q (.ref s.heap.objs.size) { s with heap:=h',toks:=tk }) :
  wpAny (model prog w) A (call (.type "list") [.ref it]) Q E s:=by
 refine callType_codes (Q₁:=λobj s₁=>obj=.ref s.heap.objs.size/\s₁ = { s with heap:=s.heap.push { cls:=.type "list",data:=.seq #[] } }) F.called_list (F.typeCall_list_1 _) F.entry_list_init
  (code_list_new _ ⟨rfl,rfl⟩) λobj s₁ h₁=>?_
 obtain⟨rfl,rfl⟩:=h₁;have hS:(s.heap.push { cls:=.type "list",data:=.seq #[] }).get? s.heap.objs.size=some { cls:=.type "list",data:=.seq #[] }:=get?_push_size _ rfl;obtain⟨oi,ei,ri⟩:=id hit;obtain⟨ol,el,rl⟩:=id hl;have up:∀{c:Addr} {u:Obj},s.heap.get? c=some u->(s.heap.push { cls:=.type "list",data:=.seq #[] }).get? c=some u:=λq=>get?_push_of_some _ q
 refine⟨⟨_,hS,rfl⟩,F.args_list_init_2 _ _,?_⟩;show wpAny _ _ (do let old ←Builtin.List.listItems (.ref s.heap.objs.size);Builtin.List.listUpdate (.ref s.heap.objs.size) (λ_=>#[]);letGo old.toList.reverse;Builtin.List.listExtendWith (.ref s.heap.objs.size) (.ref it) .none) _ _ _;refine wpAny_bind ?_;unfold Builtin.List.listItems;refine wpAny_bind (wpAny_seqItems hS rfl (wpAny_pure ?_));show wpAny _ _ (updateSeq s.heap.objs.size (λ_=>#[]) >>= λ_=>letGo (#[]:Array Value).toList.reverse >>= λ_=>Builtin.List.listExtendWith (.ref s.heap.objs.size) (.ref it) .none) _ _ _;refine wpAny_bind (wpAny_updateSeq hS rfl ?_);have hS₂:=get?_update_self (Obj.mapSeq (λ_=>(#[]:Array Value))) hS rfl;have oth:∀b o,s.heap.get? b=some o->((s.heap.push { cls:=.type "list",data:=.seq #[] }).update s.heap.objs.size (Obj.mapSeq (λ_=>(#[]:Array Value)))).get? b=some o :=
  λb o e=>(Heap.get?_update_other _ _ (ne_of_gt (lt_size e))).trans (up e)
 refine wpAny_bind (wpAny_letGo ?_);refine ZLC (A:=A.in1) hh (ne_of_gt (lt_size ei)) (ne_of_gt (lt_size el)) ne hn ⟨oi,oth _ _ ei,ri⟩ ⟨ol,oth _ _ el,rl⟩ hS₂ λh' tk acc' c' kk h3 h4=>?_
 exact⟨rfl,hQ h' tk acc' c' (λb o b1 e=>kk b o (ne_of_lt (lt_size e)) b1 (oth _ _ e)) h3 h4⟩
end
end HI
namespace L2
open PySem PySem.Spec PyProof.Rows H1
section
variable{X:Cx}
def tRl(K:PySem.W.Frag)(ta:TE):TE:=λσ H Q=>ta σ H λv H1=>∃a xs,v=.ref a/\SqL K H1 a xs/\∀L:Addr,H1 L=none->Q (.ref L) (upd H1 L (.lst xs.reverse))
theorem pe_rl{a:Expr}{ta:TE}{p p2 pos pos2:Pos}(hc:X.calm=true)(hgl:Gl X "list")(hml:X.mg "list" = none)(hg:Gl X "reversed")(hm:X.mg "reversed" = none)(ha:PE X a ta)
  (hs:starEach [a] X.env=(false,eval a X.env)::starEach [] X.env:=by rfl)
  (hs1:starEach [.Call (.Name "reversed" p2) [a] [] pos2] X.env=(false,eval (.Call (.Name "reversed" p2) [a] [] pos2) X.env)::starEach [] X.env:=by rfl)(hpl:(backTo pos (starEach [] X.env)).any (·.1)=false:=by rfl)(hpl2:(backTo pos2 (starEach [] X.env)).any (·.1)=false:=by rfl) :
  PE X (.Call (.Name "list" p) [.Call (.Name "reversed" p2) [a] [] pos2] [] pos) (tRl X.K ta):=by
 intro pins s σ H Q I h;refine Call_ (ZA9 I hgl hml boot_list (PyProof.Rows.callWith_type1 ?_ hs1 hpl));rw[hs1];refine Calls.spliced_cons ?_;refine Call_ (ZA9 I hg hm (show bootBuiltins "reversed" = some (.type "reversed") from rfl) (PyProof.Rows.callWith_type1 ?_ hs hpl2));rw[hs];refine Calls.spliced_cons (thn (ha pins s σ H _ I h) λu s1 ⟨x,H1,I1,r1,q1⟩=>?_);refine Calls.spliced_nil ?_;obtain⟨l,xs,rfl,hq,q⟩:=q1;cases r1;obtain⟨its,rv,pt,hz⟩:=I1.list hq;have el:=rv.length;have pl:s1.heap.IsList l its.toArray:=pt.isList;obtain⟨ol,eol,rol⟩:=id pl;refine call_reversed_list pl ?_;refine Calls.spliced_nil ?_;have ne:l≠s1.heap.objs.size:=ne_of_lt (lt_size eol);refine HI.callListRev (s:={ s1 with heap:=s1.heap.push (revObj l ((its.toArray.size:Int)-1)) }) (I.ok.hd hc) ne (by simp only[size_toArray];omega) ⟨_,get?_push_size _ rfl,rfl,rfl⟩ ⟨ol,get?_push_of_some _ eol,rol⟩ λh' tk acc c' kp hL hacc=>?_
 have kk:∀b o,s1.heap.get? b=some o->h'.get? b=some o:=λb o e=>kp b o (ne_of_lt (lt_size e)) (get?_push_of_some _ e)
 have hsz:(s1.heap.push (revObj l ((its.toArray.size:Int)-1))).objs.size=s1.heap.objs.size+1:=size_push ..;have hL':h'.get? (s1.heap.objs.size+1)=some { cls:=.type "list",dict:=none,data:=.seq acc c',slots:=#[] }:=by rw[←hsz];exact hL
 show EP X pins σ Q (.ref (s1.heap.push (revObj l ((its.toArray.size:Int)-1))).objs.size) { s1 with heap:=h',toks:=tk };rw[hsz];have ea:acc.toList=its.reverse:=by
  refine List.ext_getElem? λi=>?_
  by_cases hi:i<its.length
  ·have h1:i<acc.size:=by rw[hacc.1];simpa using hi
   have h2:=hacc.2 i acc[i] (Array.getElem?_eq_getElem h1);rw[List.getElem?_reverse hi];have h3:its[its.length-1-i]? = some acc[i]:=by simpa using h2
   rw[h3];simp[h1]
  ·have h0:acc.size=its.length:=by rw[hacc.1];simp
   rw[List.getElem?_eq_none (l:=acc.toList) (by rw[Array.length_toList];omega),List.getElem?_eq_none (l:=its.reverse) (by rw[List.length_reverse];omega)]
 refine⟨.ref (s1.heap.objs.size+1),_,I1.laid (t':=tk) kk (le_succ _) (show Z8 X.prog X.w _ _ _ (.lst xs.reverse) from ⟨by rw[List.length_reverse];exact hz,acc.toList,c',?_,by simpa using hL'⟩),rfl,q _ (I1.hok.fresh (le_succ _))⟩;rw[ea];exact rv.reverse
end
def ZHq(n:Nat)(k:Int)(v:W)(g:G):Option G:=match g[n]? with
 |some (.rl ws)=>(ixN ws.length k).map λj=>g.set n (.rl (ws.set j v))
 |_=>none
def ZFG(dl di:DE)(x:W)(sd:Sd)(g:G):Option G:=(dl sd g).bind λl=>(di sd l.2).bind λi=>match l.1,i.1 with
 |.ref n,.dat (.int k)=>ZHq n k x i.2
 |_,_=>none
def ZJB(d1 i1 d2 i2 d:DE):DS:=λsd g=>(d sd g).bind λv=>match v.1 with
 |.tup [x,y]=>(ZFG d1 i1 x sd v.2).bind λg1=>(ZFG d2 i2 y sd g1).map λg2=>.nx sd g2
 |_=>none
def dRl(d:DE):DE:=λsd g=>(d sd g).bind λp=>(Zb p.1 p.2).map λds=>(.dat (.list ds.reverse),p.2)
section
variable{X:Cx}{K:PySem.W.Frag}{ρ : Rh}{H:Hp}
theorem ZEw{n:Nat}{a:Addr}{k:Int}{x:W}{v:V}{g g':G}(h:HR K ρ H g)(hn : ρ.c[n]? = some a)(rv:Rel K ρ H v x)(e:ZHq n k x g=some g'):∃(us:List V) (j:Nat),H a=some (.lst us)/\ixN us.length k=some j/\HR K ρ (upd H a (.lst (us.set j v))) g'/\Stp ρ H ρ (upd H a (.lst (us.set j v))):=by
 unfold ZHq at e
 split at e
 ·rename_i ws e4
  obtain⟨j,e5,e⟩:=mp e;cases e;obtain⟨a',k1,us,k2,k3⟩:=h.ce _ _ e4;rw[hn] at k1;cases k1;obtain⟨hw,sw⟩:=h.writeC hn (o:=.lst (us.set j v)) (c:=.rl (ws.set j x)) (λu e=>by rw[k2] at e;cases e;rfl) (λs=>⟨_,ZI,(k3.set rv j).mono s⟩);exact⟨us,j,k2,by rw[k3.length];exact e5,hw,sw⟩
 ·cases e
theorem RelDL.rev{vs:List V}{ds:List PyData}(h:RelDL K ρ H vs ds):RelDL K ρ H vs.reverse ds.reverse:=by
 induction vs generalizing ds with
 |nil=>cases h;exact .nil
 |cons v vs ih =>
  cases h with
  |cons r t=>rw[reverse_cons,reverse_cons];exact(ih t).append (.cons r .nil)
theorem ZLf{a:Expr}{d:DE}{p p2 pos pos2:Pos}(hc:X.calm=true)(hgl:Gl X "list")(hml:X.mg "list" = none)(hg:Gl X "reversed")(hm:X.mg "reversed" = none)(ha:JE X a d)
  (hs:starEach [a] X.env=(false,eval a X.env)::starEach [] X.env:=by rfl)
  (hs1:starEach [.Call (.Name "reversed" p2) [a] [] pos2] X.env=(false,eval (.Call (.Name "reversed" p2) [a] [] pos2) X.env)::starEach [] X.env:=by rfl)(hpl:(backTo pos (starEach [] X.env)).any (·.1)=false:=by rfl)(hpl2:(backTo pos2 (starEach [] X.env)).any (·.1)=false:=by rfl) :
  JE X (.Call (.Name "list" p) [.Call (.Name "reversed" p2) [a] [] pos2] [] pos) (dRl d):=⟨(pe_rl hc hgl hml hg hm ha.h hs hs1 hpl hpl2).imp λσ H Q ⟨ρ,sd,g,x,g',r,e,q⟩=>by
 obtain⟨⟨y,g1⟩,e1,e⟩:=bnd e;refine⟨ρ,sd,g,y,g1,r,e1,λv H1 ρ1 s1 h1 r1=>?_⟩;obtain⟨ds,e2,e⟩:=mp e;cases e;obtain⟨a,vs,rfl,h2,t⟩:=ZW h1 r1 e2;refine⟨a,vs,rfl,.inl (.inl h2),λL hL=>?_⟩;obtain⟨sm,hr,hn⟩:=Zy (o:=.lst vs.reverse) h1 hL;exact q _ _ ρ1 (s1.trans (.same sm)) hr (.dat (.lst ZI hn (t.rev.mono (.same sm))))⟩
theorem ZIF{o1 x1 o2 x2 e:Expr}{d1 i1 d2 i2 d:DE}{k:Nat}{pos tpos p1 p2:Pos}(hc:X.calm=true)(he:JE X e d)(h1:JE X o1 d1)(h2:JE X x1 i1)(h3:JE X o2 d2)(h4:JE X x2 i2)
  (ha1:∀ v,assign (.Subscript o1 x1 p1) X.env v=(do
   let ov ←holding [v] (eval o1 X.env)
   let iv ←holding [v,ov] (eval x1 X.env)
   standAt p1
   holding [v,ov,iv] (setItem ov iv v)
   release [v,ov,iv] []):=by intro _;rfl)
  (ha2:∀ v,assign (.Subscript o2 x2 p2) X.env v=(do
   let ov ←holding [v] (eval o2 X.env)
   let iv ←holding [v,ov] (eval x2 X.env)
   standAt p2
   holding [v,ov,iv] (setItem ov iv v)
   release [v,ov,iv] []):=by intro _;rfl)
  (g0:(assignEach [.Subscript o1 x1 p1,.Subscript o2 x2 p2] X.env).map (·.2)=assign (.Subscript o1 x1 p1) X.env::(assignEach [.Subscript o2 x2 p2] X.env).map (·.2):=by rfl)
  (g1:(assignEach [.Subscript o2 x2 p2] X.env).map (·.2)=assign (.Subscript o2 x2 p2) X.env::(assignEach [] X.env).map (·.2):=by rfl)
  (hn:(assignEach [.Subscript o1 x1 p1,.Subscript o2 x2 p2] X.env).length=2:=by rfl)(hst:(assignEach [.Subscript o1 x1 p1,.Subscript o2 x2 p2] X.env).findIdx? (·.1)=none:=by rfl)
  (hs:swapsWithSole [.Tuple [.Subscript o1 x1 p1,.Subscript o2 x2 p2] k tpos] e pos.line X.env=pure false:=by rfl)(hw:swappedStores [.Tuple [.Subscript o1 x1 p1,.Subscript o2 x2 p2] k tpos] e X.env=pure none:=by rfl)
  (h5:(assignEach [.Tuple [.Subscript o1 x1 p1,.Subscript o2 x2 p2] k tpos] X.env).map (·.2)=[assign (.Tuple [.Subscript o1 x1 p1,.Subscript o2 x2 p2] k tpos) X.env]:=by rfl) :
  JS X (.Assign [.Tuple [.Subscript o1 x1 p1,.Subscript o2 x2 p2] k tpos] e pos) (ZJB d1 i1 d2 i2 d):=⟨(ZFR he.h (ZHl hc (ZCg (ZFL h1.h h2.h ZCn ha1) (ZCg (ZFL h3.h h4.h ZCn ha2) ZFl g1) g0) hn hst) hs hw h5).imp λD σ H ⟨ρ,sd,g,oo,r,e,q⟩=>by
 obtain⟨⟨y,g1⟩,e1,e⟩:=bnd e;refine⟨ρ,sd,g,y,g1,r,e1,λv H1 ρ1 s1 h1 r1=>?_⟩;dsimp only at e
 split at e
 ·rename_i dx dy
  cases r1 with
  |@tup a xs ws f tl =>
   cases tl with
   |cons rx tl=>cases tl with
    |cons ry tl =>
     cases tl;obtain⟨g2,e2,e⟩:=bnd e;obtain⟨g3,e3,e⟩:=mp e;cases e;unfold ZFG at e2 e3;obtain⟨⟨l,ga⟩,ea,e2⟩:=bnd e2;obtain⟨⟨kk,gb⟩,eb,e2⟩:=bnd e2;refine⟨a,_,rfl,f.sq,rfl,_,_,rfl,ρ1,sd,g1,l,ga,r.step s1 h1,ea,λv2 H2 ρ2 s2 h2 r2=>⟨ρ2,sd,ga,kk,gb,r.step (s1.trans s2) h2,eb,λv3 H3 ρ3 s3 h3 r3=>?_⟩⟩;have r2:=r2.mono s3;dsimp only at e2
     split at e2
     ·
      cases r2 with
      |@ref la ln hn =>
       cases r3 with
       |dat r3 =>
        cases r3;obtain⟨us,j4,m2,ml,hw,sw⟩:=ZEw h3 hn ((rx.mono s2).mono s3) e2;refine⟨la,us,_,j4,rfl,rfl,m2,ml,?_⟩;have sA:=s1.trans (s2.trans (s3.trans sw));obtain⟨⟨l2,gc⟩,ec,e3⟩:=bnd e3;obtain⟨⟨k2,gd⟩,ed,e3⟩:=bnd e3;refine⟨_,_,rfl,ρ3,sd,g2,l2,gc,r.step sA hw,ec,λv5 H5 ρ5 s5 h5 r5=>⟨ρ5,sd,gc,k2,gd,r.step (sA.trans s5) h5,ed,λv6 H6 ρ6 s6 h6 r6=>?_⟩⟩;have r5:=r5.mono s6;dsimp only at e3
        split at e3
        ·
         cases r5 with
         |@ref la2 ln2 hn2 =>
          cases r6 with
          |dat r6 =>
           cases r6;obtain⟨us2,j7,m7,ml7,hw7,sw7⟩:=ZEw h6 hn2 (((((ry.mono s2).mono s3).mono sw).mono s5).mono s6) e3;have sB:=sA.trans (s5.trans (s6.trans sw7));exact⟨la2,us2,_,j7,rfl,rfl,m7,ml7,rfl,q σ _ ρ6 sB (r.step sB hw7)⟩
        ·cases e3
     ·cases e2
 ·cases e⟩
end
section
variable{sd:Sd}{g:G}{P:W->G->Prop}{PS':Out->Prop}{d d1 i1 d2 i2:DE}{aa:DA}
theorem ZF4{n j:Nat}{k:Int}{ws:List W}{v:W}(h:g[n]? = some (.rl ws))(hj:ixN ws.length k=some j):ZHq n k v g=some (g.set n (.rl (ws.set j v))):=by
 unfold ZHq;rw[h];show(ixN ws.length k).map _=_;rw[hj];rfl
theorem x_swp(h:EvP (d sd g) λv g1=>∃x y,v=.tup [x,y]/\∃g2,ZFG d1 i1 x sd g1=some g2/\∃g3,ZFG d2 i2 y sd g2=some g3/\PS' (.nx sd g3)):EvS (ZJB d1 i1 d2 i2 d sd g) PS':=by
 obtain⟨v,g1,e1,x,y,rfl,g2,e2,g3,e3,h⟩:=h;refine⟨_,?_,h⟩;unfold ZJB;rw[e1];show(ZFG d1 i1 x sd g1).bind _=_;rw[e2];show(ZFG d2 i2 y sd g2).map _=_;rw[e3];rfl
theorem x_rl(h:EvP (d sd g) λv g1=>∃ds,Zb v g1=some ds/\P (.dat (.list ds.reverse)) g1):EvP (dRl d sd g) P:=by
 obtain⟨v,g1,e1,ds,e2,h⟩:=h;refine⟨_,_,?_,h⟩;unfold dRl;rw[e1];show(Zb v g1).map _=_;rw[e2];rfl
end
end L2
namespace K25
open PySem PySem.Spec PyProof.Rows L2 H1
def top(i:Nat):Stmt:=PySem.Challenge.pw_hearsaybook_k25_doings_told.main.body.getD i (.Pass ⟨0,0,0,0⟩)
abbrev ZAv:List Str:=["thing"]
abbrev ZAu:List Str:=["thing"]
abbrev ZAF:List Str:=["thing","length"]
abbrev ZCc:List Str:=["things"]
abbrev ZAa:List Str:=["state","thing"]
abbrev ZAN:List Str:=["thing"]
abbrev ZAe:List Str:=["some","others"]
abbrev ZAM:List Str:=["state","numbers","up"]
abbrev ZAo:List Str:=["_law_script","_law_k"]
abbrev ZAd:List Str:=["_law_box_here","_law_many"]
abbrev ZAU:List Str:=["_law_box_here","_law_whole"]
abbrev ZAc:List Str:=["_law_box_here","_law_most"]
abbrev ZAQ:List Str:=["_law_box_here","_law_rules_here","_law_town_here"]
abbrev ZAf:List Str:=["_law_box_here","_law_most"]
abbrev ZAG:List Str:=["_law_box_here","_law_state_here","_law_moves"]
abbrev ZAw:List Str:=["_law_state_here","_law_doings_here"]
abbrev ZAS:List Str:=["_law_box_here","_law_state_here","_law_doings_here"]
abbrev ZAP:List Str:=["_law_state_here","_law_doings_here"]
set_option genInjectivity false in
set_option genSizeOf false in
structure Adr where
 (fx0 fx1 fx2 fx3 fx4 fx5 fx6 fx7 fx8 fx9 fx10 fx11 fx12 fx13 fx14 fx15 fx16 fx17:Addr)
 (fy0 fy1 fy2 fy3 fy4 fy5 fy6 fy7 fy8 fy9 fy10 fy11 fy12 fy13 fy14 fy15 fy16 fy17:FuncData)
structure Txt (K:PySem.W.Frag) (mg:Str->Option Value) (A:Adr):Prop where
 z_abs:mg "abs" = none
 z_all:mg "all" = none
 z_any:mg "any" = none
 z_bool:mg "bool" = none
 z_enumerate:mg "enumerate" = none
 z_int:mg "int" = none
 z_isinstance:mg "isinstance" = none
 z_len:mg "len" = none
 z_list:mg "list" = none
 z_min:mg "min" = none
 z_range:mg "range" = none
 z_reversed:mg "reversed" = none
 z_sorted:mg "sorted" = none
 z_tuple:mg "tuple" = none
 z_zip:mg "zip" = none
 fz0:Def K mg "is_whole" (top 1) ZAv A.fx0 A.fy0
 fz1:Def K mg "is_count" (top 2) ZAu A.fx1 A.fy1
 fz2:Def K mg "is_tuple_of" (top 3) ZAF A.fx2 A.fy2
 fz3:Def K mg "rises" (top 4) ZCc A.fx3 A.fy3
 fz4:Def K mg "is_doings" (top 6) ZAa A.fx4 A.fy4
 fz5:Def K mg "are_rising" (top 7) ZAN A.fx5 A.fy5
 fz6:Def K mg "are_apart" (top 8) ZAe A.fx6 A.fy6
 fz7:Def K mg "are_houses" (top 9) ZAM A.fx7 A.fy7
 fz8:Def K mg "_law_box" (top 11) ZAo A.fx8 A.fy8
 fz9:Def K mg "_law_take" (top 12) ZAd A.fx9 A.fy9
 fz10:Def K mg "_law_rules" (top 13) ZAU A.fx10 A.fy10
 fz11:Def K mg "_law_town" (top 14) ZAc A.fx11 A.fy11
 fz12:Def K mg "_law_state" (top 15) ZAQ A.fx12 A.fy12
 fz13:Def K mg "_law_lost" (top 16) ZAf A.fx13 A.fy13
 fz14:Def K mg "_law_doings" (top 17) ZAG A.fx14 A.fy14
 fz15:Def K mg "_law_may" (top 18) ZAw A.fx15 A.fy15
 fz16:Def K mg "_law_other" (top 19) ZAS A.fx16 A.fy16
 fz17:Def K mg "_law_right" (top 20) ZAP A.fx17 A.fy17
section
variable{a0 a1 a2 a3 a4 a5 a6 a7:W}{g:G}{P:W->G->Prop}
@[reducible] noncomputable def ZBd:DS :=
 (ZO (ZAZ (dF ZGb (ZA (ZB 0) (ZA (λ_ g=>some (.ty "int",g)) ZD))) (ZDw (dF ZGb (ZA (ZB 0) (ZA (λ_ g=>some (.ty "bool",g)) ZD))))))
@[irreducible] noncomputable def Zv:List W->G->Option (W×G):=ZAO 1 ZBd
theorem ZEj(h:EvS (ZBd [some a0] g) (runP P)):EvP (Zv [a0] g) P:=by
 unfold Zv;exact Ze h
@[reducible] noncomputable def ZBc:DS :=
 (ZO (ZAZ (dF Zv (ZA (ZB 0) ZD)) (dOp ZHg (ZB 0) (dC (.int 0)))))
@[irreducible] noncomputable def Zt:List W->G->Option (W×G):=ZAO 1 ZBc
theorem ZEi(h:EvS (ZBc [some a0] g) (runP P)):EvP (Zt [a0] g) P:=by
 unfold Zt;exact Ze h
@[reducible] noncomputable def ZAh:DS :=
 (ZO (ZAZ (dF ZGb (ZA (ZB 0) (ZA (λ_ g=>some (.ty "tuple",g)) ZD))) (dOp ZA7 (dF (f1 ZD3) (ZA (ZB 0) ZD)) (ZB 1))))
@[irreducible] noncomputable def Za:List W->G->Option (W×G):=ZAO 2 ZAh
theorem ZC9(h:EvS (ZAh [some a0,some a1] g) (runP P)):EvP (Za [a0,a1] g) P:=by
 unfold Za;exact Ze h
@[reducible] noncomputable def ZEe:DS :=
 (ZO (dF (f1 ZCq) (ZA (Z9 2 [] (.tp (.cons (.nm 0) (.cons (.nm 1) .nil))) (ZDy (ZA (ZB 0) (ZA (dSl (ZB 0) (ZCo (dC (.int 1))) ZBN) ZD))) ZAA (dOp ZD2 (ZB 0) (ZB 1))) ZD)))
@[irreducible] noncomputable def ZAr:List W->G->Option (W×G):=ZAO 1 ZEe
theorem ZHE(h:EvS (ZEe [some a0] g) (runP P)):EvP (ZAr [a0] g) P:=by
 unfold ZAr;exact Ze h
@[reducible] noncomputable def ZBA:DS :=
 (ZO (dF (f1 ZCq) (ZA (Z9 1 [1] (.nm 0) (ZB2 (ZB 0)) ZAA (dOp ZEU (ZB 0) (ZB 1))) ZD)))
@[irreducible] noncomputable def Zd:List W->G->Option (W×G):=ZAO 2 ZBA
theorem ZBh(h:EvS (ZBA [some a0,some a1] g) (runP P)):EvP (Zd [a0,a1] g) P:=by
 unfold Zd;exact Ze h
@[reducible] noncomputable def ZAt:DS :=
 (ZL (ZFU (.tp (.cons (.nm 3) (.cons (.nm 4) .nil))) (ZB 0))
 (ZO (dF (f1 ZCq) (ZA (Z9 1 [2,4] (.nm 0) (ZB2 (ZB 1)) ZAA (ZAZ (dOp ZD2 (ZB 0) (dF (f1 ZD3) (ZA (ZB 2) ZD))) (dOp ZA7 (dOp ZS (dOp ZS (ZB 2) (ZB 0)) (dC (.int 0))) (ZB 1)))) ZD))))
@[irreducible] noncomputable def ZQ:List W->G->Option (W×G):=ZAO 5 ZAt
theorem ZBS(h:EvS (ZAt [some a0,some a1,some a2,none,none] g) (runP P)):EvP (ZQ [a0,a1,a2] g) P:=by
 unfold ZQ;exact Ze h
@[reducible] noncomputable def ZAx:DS :=
 (ZO (ZAZ (dF ZGb (ZA (ZB 0) (ZA (λ_ g=>some (.ty "tuple",g)) ZD))) (ZAZ (dF (f1 ZCq) (ZA (Z9 1 [] (.nm 0) (ZB2 (ZB 0)) ZAA (dF Zt (ZA (ZB 0) ZD))) ZD)) (dF ZAr (ZA (ZB 0) ZD)))))
@[irreducible] noncomputable def Zf:List W->G->Option (W×G):=ZAO 1 ZAx
theorem ZDO(h:EvS (ZAx [some a0] g) (runP P)):EvP (Zf [a0] g) P:=by
 unfold Zf;exact Ze h
@[reducible] noncomputable def ZBC:DS :=
 (ZL (ZAR (ZD1 (ZBq (dB (dF Za (ZA (ZB 1) (ZA (dC (.int 4)) ZD)))) (dB (dF (f1 ZCq) (ZA (Z9 1 [] (.nm 0) (ZB2 (ZB 1)) ZAA (dF Zf (ZA (ZB 0) ZD))) ZD)))))
 (ZO (dC (.bool false)))
 dNx)
 (ZL (ZFU (.tp (.cons (.nm 2) (.cons (.nm 3) (.cons (.nm 4) (.cons (.nm 5) .nil))))) (ZB 1))
 (ZL (ZAR (ZD1 (dB (dF Zd (ZA (ZB 3) (ZA (ZB 4) ZD)))))
 (ZO (dC (.bool false)))
 dNx)
 (ZO (ZAZ (dF ZQ (ZA (ZB 0) (ZA (ZB 3) (ZA (dC (.int 1)) ZD)))) (ZAZ (dF ZQ (ZA (ZB 0) (ZA (ZB 4) (ZA (dC (.int 1)) ZD)))) (dF ZQ (ZA (ZB 0) (ZA (ZB 5) (ZA (dC (.int 0)) ZD))))))))))
@[irreducible] noncomputable def ZR:List W->G->Option (W×G):=ZAO 6 ZBC
theorem ZBr(h:EvS (ZBC [some a0,some a1,none,none,none,none] g) (runP P)):EvP (ZR [a0,a1] g) P:=by
 unfold ZR;exact Ze h
@[reducible] noncomputable def ZBZ:DS :=
 (ZL (ZU 2 (dC (.int 0)))
 (ZL (ZAR (dB (dOp ZD2 (ZB 1) (dF (f1 ZD3) (ZA (ZB 0) ZD))))
 (ZU 2 (dOp ZS (ZB 0) (ZB 1)))
 dNx)
 (ZO (dF ZCP (ZA (dOp ZA6 (dOp ZCO (dF (f1 ZKP) (ZA (ZB 2) ZD)) (dC (.int 1000000000000000000000000000000000000000000000000000000000000))) (dF (f1 ZEC) (ZA (dOp ZHg (dF (f1 ZKP) (ZA (ZB 2) ZD)) (dC (.int 1000000000000000000))) ZD))) (ZA (dOp ZCO (dOp ZAH (dOp ZAH (ZB 2) (dOp ZA6 (dOp ZA6 (dC (.int 613)) (ZB 1)) (ZB 1))) (dOp ZA6 (dC (.int 29)) (ZB 1))) (dC (.int 2147483647))) (ZA (dC (.int 0)) ZD)))))))
@[irreducible] noncomputable def Zu:List W->G->Option (W×G):=ZAO 3 ZBZ
theorem ZE0(h:EvS (ZBZ [some a0,some a1,none] g) (runP P)):EvP (Zu [a0,a1] g) P:=by
 unfold Zu;exact Ze h
@[reducible] noncomputable def ZBE:DS :=
 (ZL (ZAR (dB (dOp ZGd (dOp ZS (ZB 0) (dC (.int 0))) (dC (.int 0))))
 (ZL (ZU 2 (dOp ZCO (dOp ZS (ZB 0) (dC (.int 0))) (ZB 1)))
 (ZL (ZCj (ZB 0) (dC (.int 0)) (dOp ZC5 (dOp ZS (ZB 0) (dC (.int 0))) (ZB 1)))
 (ZO (ZB 2))))
 dNx)
 (ZL (ZCj (ZB 0) (dC (.int 2)) (dOp ZAH (dOp ZS (ZB 0) (dC (.int 2))) (dC (.int 1))))
 (ZL (ZU 3 (dOp ZCO (dOp ZAH (dOp ZAH (dOp ZA6 (dOp ZS (ZB 0) (dC (.int 1))) (dC (.int 48271))) (dOp ZA6 (dC (.int 8191)) (dOp ZS (ZB 0) (dC (.int 2))))) (dC (.int 17))) (dC (.int 2147483647))))
 (ZL (ZCj (ZB 0) (dC (.int 1)) (dOp ZCO (dOp ZAH (dOp ZA6 (ZB 3) (ZB 3)) (dOp ZS (ZB 0) (dC (.int 2)))) (dC (.int 2147483629))))
 (ZO (dOp ZCO (dOp ZC5 (dOp ZS (ZB 0) (dC (.int 1))) (dC (.int 13))) (ZB 1)))))))
@[irreducible] noncomputable def ZC:List W->G->Option (W×G):=ZAO 4 ZBE
theorem ZEP(h:EvS (ZBE [some a0,some a1,none,none] g) (runP P)):EvP (ZC [a0,a1] g) P:=by
 unfold ZC;exact Ze h
@[reducible] noncomputable def ZA3:DS :=
 (ZL (ZU 2 (dOp ZS (dF ZCX (ZA (dF ZC (ZA (ZB 0) (ZA (dC (.int 3)) ZD))) (ZA (dF ZC (ZA (ZB 0) (ZA (dC (.int 10)) ZD))) ZD))) (dF ZC (ZA (ZB 0) (ZA (dC (.int 2)) ZD)))))
 (ZL (ZU 3 (dOp ZS (dF ZCX (ZA (dF ZC (ZA (ZB 0) (ZA (dC (.int 3)) ZD))) (ZA (dF ZC (ZA (ZB 0) (ZA (dC (.int 9)) ZD))) ZD))) (dF ZC (ZA (ZB 0) (ZA (dC (.int 2)) ZD)))))
 (ZL (ZU 4 (dOp ZAH (dC (.int 1)) (dOp ZS (dF ZCX (ZA (dF ZC (ZA (ZB 0) (ZA (dC (.int 3)) ZD))) (ZA (dF ZC (ZA (ZB 0) (ZA (dC (.int 9)) ZD))) ZD))) (dOp ZC5 (dF ZC (ZA (ZB 0) (ZA (dC (.int 4)) ZD))) (dC (.int 3))))))
 (ZL (ZU 5 (dF Z5 (ZA (dC (.str "about")) (ZA (dC (.str "again")) (ZA (dC (.str "newer")) (ZA (dC (.str "others")) (ZA (dC (.str "own")) (ZA (dC (.str "refute")) (ZA (dC (.str "wait")) ZD)))))))))
 (ZL (ZU 6 (dF ZC (ZA (ZB 0) (ZA (dC (.int 3)) ZD))))
 (ZL (ZAR (dOr (dB (ZB 1)) (dB (dOp ZA7 (ZB 6) (dC (.int 0)))))
 (ZO (dF Z5 (ZA (dF ZC (ZA (ZB 0) (ZA (dC (.int 4)) ZD))) (ZA (ZB 4) (ZA (ZB 2) (ZA (ZB 3) (ZA (ZB 5) ZD)))))))
 dNx)
 (ZL (ZU 7 (dOp ZS (ZB 5) (dF ZC (ZA (ZB 0) (ZA (dC (.int 7)) ZD)))))
 (ZL (ZU 8 (dF (f1 ZAk) (ZA (Z9 1 [7,6,0] (.nm 0) (ZB2 (ZB 5)) (ZBq (dB (dOp ZGV (ZB 0) (ZB 1))) (dOr (dB (dOp ZA7 (ZB 2) (dC (.int 1)))) (dB (dOp ZA7 (dF ZC (ZA (ZB 3) (ZA (dC (.int 2)) ZD))) (dC (.int 0)))))) (ZB 0)) ZD)))
 (ZO (dF Z5 (ZA (dF ZC (ZA (ZB 0) (ZA (dC (.int 4)) ZD))) (ZA (ZB 4) (ZA (ZB 2) (ZA (ZB 3) (ZA (ZB 8) ZD)))))))))))))))
@[irreducible] noncomputable def Zh:List W->G->Option (W×G):=ZAO 9 ZA3
theorem ZDW(h:EvS (ZA3 [some a0,some a1,none,none,none,none,none,none,none] g) (runP P)):EvP (Zh [a0,a1] g) P:=by
 unfold Zh;exact Ze h
@[reducible] noncomputable def ZBH:DS :=
 (ZL (ZU 2 (dF ZLv (ZA (ZB 1) (ZA (dOp ZS (dF ZCX (ZA (dC (.int 2)) (ZA (dC (.int 3)) (ZA (dC (.int 4)) (ZA (dC (.int 3)) (ZA (dC (.int 5)) (ZA (dOp ZAH (dC (.int 2)) (dF ZC (ZA (ZB 0) (ZA (dC (.int 7)) ZD)))) ZD))))))) (dF ZC (ZA (ZB 0) (ZA (dC (.int 6)) ZD)))) ZD))))
 (ZL (ZU 3 (dF ZCP ZD))
 (ZL (ZB7 (.nm 4) (ZAB (ZA (ZB 2) ZD))
 (ZL (ZU 5 (dOp ZS (dF ZCX (ZA (dC (.int 1)) (ZA (dOp ZAH (dC (.int 1)) (dF ZC (ZA (ZB 0) (ZA (dC (.int 4)) ZD)))) ZD))) (dF ZC (ZA (ZB 0) (ZA (dC (.int 2)) ZD)))))
 (ZBi (ZEF (ZB 3) (dF Z5 (ZA (ZB 5) (ZA (dF ZC (ZA (ZB 0) (ZA (ZB 5) ZD))) ZD)))))))
 (ZO (dF (f1 ZAk) (ZA (ZB 3) ZD))))))
@[irreducible] noncomputable def Zn:List W->G->Option (W×G):=ZAO 6 ZBH
theorem ZEc(h:EvS (ZBH [some a0,some a1,none,none,none,none] g) (runP P)):EvP (Zn [a0,a1] g) P:=by
 unfold Zn;exact Ze h
@[reducible] noncomputable def ZAz:DS :=
 (ZL (ZU 3 (dF (f1 ZD3) (ZA (ZB 2) ZD)))
 (ZL (ZU 4 (dOp ZS (dF ZCX (ZA (dC (.int 0)) (ZA (dC (.int 0)) (ZA (dC (.int 999000)) (ZA (dF ZC (ZA (ZB 0) (ZA (dC (.int 1000)) ZD))) ZD))))) (dF ZC (ZA (ZB 0) (ZA (dC (.int 4)) ZD)))))
 (ZL (ZU 5 (dF ZC (ZA (ZB 0) (ZA (dC (.int 3)) ZD))))
 (ZL (ZU 6 (dF ZCP ZD))
 (ZL (ZB7 (.nm 7) (ZAB (ZA (ZB 3) ZD))
 (ZL (ZU 8 (dF (f1 ZEC) (ZA (dOp ZGd (dF ZC (ZA (ZB 0) (ZA (dC (.int 5)) ZD))) (dC (.int 0))) ZD)))
 (ZL (ZU 9 (dF (f1 ZAk) (ZA (Z9 1 [4,0,5] (.nm 0) (ZAB (ZA (ZB 3) ZD)) ZAA (dF Z5 (ZA (dOp ZAH (ZB 1) (dF ZC (ZA (ZB 2) (ZA (dC (.int 3)) ZD)))) (ZA (dOp ZS (dF ZCX (ZA (dF ZC (ZA (ZB 2) (ZA (dC (.int 4)) ZD))) (ZA (dC (.int 0)) ZD))) (dF (f1 ZEC) (ZA (dOp ZA7 (ZB 3) (dC (.int 0))) ZD))) ZD)))) ZD)))
 (ZL (ZU 10 (dF (f1 ZAk) (ZA (Z9 1 [0,1] (.nm 0) (ZAB (ZA (ZB 3) ZD)) ZAA (dF ZC (ZA (ZB 1) (ZA (dOp ZAH (dOp ZS (ZB 2) (dC (.int 2))) (dC (.int 1))) ZD)))) ZD)))
 (ZL (ZU 11 (dF (f1 ZAk) (ZA (Z9 1 [0,1] (.nm 0) (ZAB (ZA (ZB 3) ZD)) ZAA (dOp ZA6 (dF ZC (ZA (ZB 1) (ZA (dOp ZAH (dOp ZS (ZB 2) (dC (.int 1))) (dC (.int 1))) ZD))) (dF (f1 ZEC) (ZA (dOp ZA7 (dF ZC (ZA (ZB 1) (ZA (dC (.int 3)) ZD))) (dC (.int 0))) ZD)))) ZD)))
 (ZL (ZU 11 (dF (f1 ZAk) (ZA (Z9 1 [8,11,7] (.nm 0) (ZAB (ZA (ZB 3) ZD)) ZAA (dOp ZA6 (dOp ZA6 (dOp ZS (ZB 2) (ZB 0)) (ZB 1)) (dF (f1 ZEC) (ZA (dOp ZGV (ZB 0) (ZB 3)) ZD)))) ZD)))
 (ZBi (ZEF (ZB 6) (dF Z5 (ZA (ZB 8) (ZA (ZB 9) (ZA (ZB 10) (ZA (ZB 11) ZD)))))))))))))
 (ZO (dF Z5 (ZA (dF ZC (ZA (ZB 0) (ZA (dOp ZS (dF ZCX (ZA (dC (.int 5)) (ZA (dC (.int 100)) (ZA (dC (.int 100000)) ZD)))) (dF ZC (ZA (ZB 0) (ZA (dC (.int 3)) ZD)))) ZD))) (ZA (dF (f1 ZAk) (ZA (ZB 6) ZD)) ZD)))))))))
@[irreducible] noncomputable def Zk:List W->G->Option (W×G):=ZAO 12 ZAz
theorem ZDQ(h:EvS (ZAz [some a0,some a1,some a2,none,none,none,none,none,none,none,none,none] g) (runP P)):EvP (Zk [a0,a1,a2] g) P:=by
 unfold Zk;exact Ze h
@[reducible] noncomputable def ZBJ:DS :=
 (ZL (ZU 2 (dF ZC (ZA (ZB 0) (ZA (dC (.int 5)) ZD))))
 (ZL (ZAR (dB (dOp ZA7 (ZB 2) (dC (.int 0))))
 (ZO (dF Z5 ZD))
 dNx)
 (ZL (ZAR (dB (dOp ZA7 (ZB 2) (dC (.int 1))))
 (ZO (ZDl (ZB 1)))
 dNx)
 (ZO (dF (f1 ZAk) (ZA (Z9 1 [0,2] (.nm 0) (ZAB (ZA (ZB 1) ZD)) (dB (dOp ZA7 (dF ZC (ZA (ZB 1) (ZA (dOp ZS (dF ZCX (ZA (dC (.int 2)) (ZA (dC (.int 3)) (ZA (dC (.int 8)) ZD)))) (dOp ZGv (ZB 2) (dC (.int 2)))) ZD))) (dC (.int 0)))) (ZB 0)) ZD))))))
@[irreducible] noncomputable def Zq:List W->G->Option (W×G):=ZAO 3 ZBJ
theorem ZD7(h:EvS (ZBJ [some a0,some a1,none] g) (runP P)):EvP (Zq [a0,a1] g) P:=by
 unfold Zq;exact Ze h
@[reducible] noncomputable def ZAg:DS :=
 (ZL (ZE1 3 4 5 (ZA (dF ZCP ZD) (ZA (dF ZCP ZD) (ZA (dF ZCP ZD) ZD))))
 (ZL (ZB7 (.tp (.cons (.nm 6) (.cons (.nm 7) .nil))) (ZCG (ZA (dOp ZS (ZB 1) (dC (.int 1))) ZD))
 (ZL (ZU 8 (dF ZC (ZA (ZB 0) (ZA (dC (.int 8)) ZD))))
 (ZL (ZAR (ZBq (dB (ZB 2)) (ZBq (dB (dOp ZA7 (dOp ZS (ZB 7) (dC (.int 0))) (dC (.int 1)))) (dB (dOp ZD2 (ZB 8) (dC (.int 2))))))
 (ZBi (ZEF (ZEx (ZA (ZB 3) (ZA (ZB 4) ZD)) (ZB 8)) (ZB 6)))
 dNx)
 (ZAR (ZBq (dB (ZB 2)) (ZBq (dB (dOp ZA7 (dOp ZS (ZB 7) (dC (.int 0))) (dC (.int 0)))) (dB (dOp ZD2 (ZB 8) (dC (.int 3))))))
 (ZBi (ZEF (ZB 5) (ZB 6)))
 dNx))))
 (ZO (dF Z5 (ZA (dF Zq (ZA (ZB 0) (ZA (dC (.int 60)) ZD))) (ZA (dF (f1 ZAk) (ZA (ZB 3) ZD)) (ZA (dF (f1 ZAk) (ZA (ZB 4) ZD)) (ZA (dF (f1 ZAk) (ZA (ZB 5) ZD)) ZD))))))))
@[irreducible] noncomputable def ZZ:List W->G->Option (W×G):=ZAO 9 ZAg
theorem ZCv(h:EvS (ZAg [some a0,some a1,some a2,none,none,none,none,none,none] g) (runP P)):EvP (ZZ [a0,a1,a2] g) P:=by
 unfold ZZ;exact Ze h
@[reducible] noncomputable def ZBa:DS :=
 (ZL (ZU 2 (dOp ZS (ZB 0) (dC (.int 1))))
 (ZL (ZB7 (.tp (.cons (.nm 3) (.cons (.nm 4) .nil))) (ZCG (ZA (ZB 1) ZD))
 (ZL (ZB7 (.tp (.cons (.nm 5) (.cons (.nm 6) .nil))) (ZDy (ZA (ZB 4) (ZA (dSl (ZB 4) (ZCo (dC (.int 1))) ZBN) ZD)))
 (ZAR (dB (dOp ZHg (ZB 5) (ZB 6)))
 (ZO (dC (.bool false)))
 dNx))
 (ZB7 (.nm 5) (ZB2 (ZB 4))
 (ZL (ZAR (dOr (dB (dOp ZD2 (ZB 5) (dC (.int 0)))) (ZBq (dB (dOp ZGd (ZB 3) (dC (.int 0)))) (dB (dOp ZHg (ZB 5) (dF (f1 ZD3) (ZA (ZB 2) ZD))))))
 (ZO (dC (.bool false)))
 dNx)
 (ZAR (ZBq (dB (dOp ZGd (ZB 3) (dC (.int 0)))) (dB (dOp ZGV (dOp ZS (dOp ZS (ZB 2) (ZB 5)) (dC (.int 0))) (dF (f1 ZEC) (ZA (dOp ZD2 (ZB 3) (dC (.int 3))) ZD)))))
 (ZO (dC (.bool false)))
 dNx)))))
 (ZO (ZDw (dF (f1 ZF8) (ZA (Z9 1 [1] (.nm 0) (ZB2 (dOp ZS (ZB 1) (dC (.int 1)))) ZAA (dOp ZKq (ZB 0) (dOp ZS (ZB 1) (dC (.int 2))))) ZD))))))
@[irreducible] noncomputable def Zm:List W->G->Option (W×G):=ZAO 7 ZBa
theorem ZEg(h:EvS (ZBa [some a0,some a1,none,none,none,none,none] g) (runP P)):EvP (Zm [a0,a1] g) P:=by
 unfold Zm;exact Ze h
@[reducible] noncomputable def ZAq:DS :=
 (ZL (ZU 3 (ZBb 1 [] (.nm 0) (ZB2 (ZB 2)) ZAA (dF (f1 ZLs) (ZA (ZB 0) ZD))))
 (ZL (ZU 4 (dF (f1 ZD3) (ZA (dOp ZS (ZB 1) (dC (.int 1))) ZD)))
 (ZL (ZU 5 (dF ZC (ZA (ZB 0) (ZA (dC (.int 4)) ZD))))
 (ZL (ZU 6 (dOp ZGv (dF ZC (ZA (ZB 0) (ZA (dOp ZAH (ZB 4) (dC (.int 2))) ZD))) (dF (f1 ZEC) (ZA (dOp ZA7 (dF ZC (ZA (ZB 0) (ZA (dC (.int 9)) ZD))) (dC (.int 0))) ZD))))
 (ZL (ZU 7 (dF ZC (ZA (ZB 0) (ZA (dC (.int 4)) ZD))))
 (ZL (ZAR (dB (dOp ZA7 (ZB 7) (dC (.int 0))))
 (ZBi (ZEF (dOp ZS (ZB 3) (ZB 5)) (ZB 6)))
 (ZAR (dB (dOp ZA7 (ZB 7) (dC (.int 1))))
 (ZCj (ZB 3) (ZB 5) (dF (f1 ZGt) (ZA (dOp ZAH (dOp ZS (ZB 3) (ZB 5)) (dF ZCX (ZA (ZB 6) ZD))) ZD)))
 (ZAR (dB (dOp ZA7 (ZB 7) (dC (.int 2))))
 (ZCj (ZB 3) (ZB 5) (dRl (dOp ZS (ZB 3) (ZB 5))))
 (ZL (ZU 8 (dF ZC (ZA (ZB 0) (ZA (dC (.int 4)) ZD))))
 (ZJB (ZB 3) (ZB 5) (ZB 3) (ZB 8) (dF ZFq (ZA (dOp ZS (ZB 3) (ZB 8)) (ZA (dOp ZS (ZB 3) (ZB 5)) ZD))))))))
 (ZO (dF (f1 ZAk) (ZA (ZAp 1 [] (.nm 0) (iRl (ZB 3)) ZAA (dF (f1 ZAk) (ZA (ZB 0) ZD))) ZD)))))))))
@[irreducible] noncomputable def Zi:List W->G->Option (W×G):=ZAO 9 ZAq
theorem ZDN(h:EvS (ZAq [some a0,some a1,some a2,none,none,none,none,none,none] g) (runP P)):EvP (Zi [a0,a1,a2] g) P:=by
 unfold Zi;exact Ze h
@[reducible] noncomputable def ZAs:DS :=
 (ZL (ZU 2 (dF ZR (ZA (ZB 0) (ZA (ZB 1) ZD))))
 (ZO (ZAZ (dF ZGb (ZA (ZB 2) (ZA (λ_ g=>some (.ty "bool",g)) ZD))) (dOp ZA7 (ZB 2) (dF Zm (ZA (ZB 0) (ZA (ZB 1) ZD)))))))
@[irreducible] noncomputable def ZY:List W->G->Option (W×G):=ZAO 3 ZAs
theorem ZDS(h:EvS (ZAs [some a0,some a1,none] g) (runP P)):EvP (ZY [a0,a1] g) P:=by
 unfold ZY;exact Ze h
@[reducible] noncomputable def ZHj:DS :=
 (ZL (ZB7 (.nm 1) (ZAB (ZA (dOp ZAH (dC (.int 1)) (dF (f1 ZD3) (ZA (dSl (ZB 0) ZBN (ZCo (dC (.int 30)))) ZD))) ZD))
 (ZL (ZU 2 (dF Zu (ZA (ZB 0) (ZA (ZB 1) ZD))))
 (ZL (ZU 3 (dF Zh (ZA (ZB 2) (ZA (dC (.bool false)) ZD))))
 (ZL (ZU 4 (dF Zk (ZA (ZB 2) (ZA (ZB 3) (ZA (dF Zn (ZA (ZB 2) (ZA (dC (.int 8)) ZD))) ZD)))))
 (ZL (ZU 5 (dF ZZ (ZA (ZB 2) (ZA (ZB 4) (ZA (dC (.bool true)) ZD)))))
 (ZL (ZAR (dOr (dB (dOp ZE6 (dF ZR (ZA (ZB 4) (ZA (ZB 5) ZD))) (dC (.bool true)))) (ZD1 (dB (dF Zm (ZA (ZB 4) (ZA (ZB 5) ZD))))))
 (ZO (dC (.bool false)))
 dNx)
 (ZL (ZB7 (.nm 6) (ZAB (ZA (dC (.int 6)) ZD))
 (ZAR (ZD1 (dB (dF ZY (ZA (ZB 4) (ZA (dF Zi (ZA (ZB 2) (ZA (ZB 4) (ZA (ZB 5) ZD)))) ZD)))))
 (ZO (dC (.bool false)))
 dNx))
 (ZL (ZU 7 (ZDl (dF (f1 ZD3) (ZA (dOp ZS (ZB 4) (dC (.int 1))) ZD))))
 (ZB7 (.nm 8) (ZB2 (dF Z5 (ZA (dF Z5 (ZA (ZB 7) (ZA (dF Z5 ZD) (ZA (dF Z5 ZD) (ZA (dF Z5 ZD) ZD))))) (ZA (dF Z5 (ZA (dF Z5 ZD) (ZA (ZB 7) (ZA (dF Z5 ZD) (ZA (dF Z5 ZD) ZD))))) (ZA (dF Z5 (ZA (dF Z5 ZD) (ZA (dF Z5 ZD) (ZA (ZB 7) (ZA (dF Z5 ZD) ZD))))) (ZA (dF Z5 (ZA (dF Z5 ZD) (ZA (dF Z5 ZD) (ZA (dF Z5 ZD) (ZA (ZB 7) ZD))))) ZD))))))
 (ZAR (ZD1 (dB (dF ZY (ZA (ZB 4) (ZA (ZB 8) ZD)))))
 (ZO (dC (.bool false)))
 dNx))))))))))
 (ZO (dC (.bool true))))
@[irreducible] noncomputable def ZDD:List W->G->Option (W×G):=ZAO 9 ZHj
theorem ZJ9(h:EvS (ZHj [some a0,none,none,none,none,none,none,none,none] g) (runP P)):EvP (ZDD [a0] g) P:=by
 unfold ZDD;exact Ze h
end
local macro_rules
 | `(tactic| symm) => `(tactic| repeat (first
  | with_reducible (first
   | refine ZBW ?_ | refine ZJq ?_ | refine x_c ?_ | refine x_op ?_ | refine x_f ?_ | refine as_b ?_ | refine x_b ?_ | refine ZCD ?_ | refine ZJp ?_ | refine ZJn ?_ | refine x_ifS ?_ | refine x_and ?_ | refine x_or ?_ | refine x_not ?_
   | refine ZFX ?_ | refine as_i ?_ | refine x_asg ?_ | refine ZJ5 ?_ | refine ZKx ?_ | refine x_for ?_ | refine ZKd ?_ | refine x_retN ?_
   | refine x_un ?_ | refine ZLd ?_ | refine x_orV ?_ | refine ZFc ?_ | refine x_if ?_ | refine x_chain ?_
   | refine x_sl ?_ | refine ZHX ?_ | refine ZLa ?_ | refine ZLD ?_ | refine ZLO ?_ | refine ZJP ?_ | refine ZLI ?_ | refine x_app ?_ | refine x_sto ?_ | refine x_augS ?_ | refine x_make ?_ | refine x_fld ?_ | refine x_fldS ?_ | refine x_meth ?_ | refine ZKJ ?_ | refine x_par ?_ | refine ZKk ?_ | refine ZKH ?_ | refine x_ext ?_ | refine x_ins ?_)
  | ((with_reducible refine ZCt ?_ ?_); exact rfl)
  | refine ZD5 ?_ | refine run_nx ?_ | refine Exists.intro _ (And.intro rfl ?_)
  | refine Exists.intro _ (Exists.intro _ (Exists.intro _ (And.intro rfl (And.intro (by assumption) (And.intro rfl ?_)))))
  | refine Exists.intro _ (Exists.intro _ (Exists.intro _ (And.intro rfl (And.intro (by assumption) (And.intro (of_decide_eq_true rfl) (And.intro rfl ?_))))))
  | refine Exists.intro _ (Exists.intro _ (And.intro rfl (And.intro (by assumption) ?_)))
  | refine And.intro (ZFB (by assumption)) ?_ | refine And.intro (ZFB ZCf) ?_ | refine ZBX ?_ | refine ZKX ?_))
theorem ZCb{α P:Prop}(_ : α)(h:P):P:=h
theorem Z1(n:Nat)(lo:Int):(ZAK n lo).length=n:=by unfold ZAK;rw[length_map,length_range]
theorem ZG{b:Nat}{m:Int}{g:G}{P:W->G->Prop}(hb:Bx g b)(h0 : 0<m)(h1:m<2 ^ 62)(q:∀d g',0<=d->d<m->Dr b g g'->P (.dat (.int d)) g'):EvP (ZC [.ref b,.dat (.int m)] g) P:=by
 have hl:=hb.lt;obtain⟨x,n,c,e⟩:=hb;refine ZEP ?_;symm;refine ZCN e rfl ?_;symm;refine⟨λhx=>?_,λhx=>?_⟩
 ·symm
  refine ZCN e rfl ?_;symm;refine ZJv h0 ?_;symm;refine ZCN e rfl ?_;symm;refine y_div h0 (by omega) ?_;symm;refine⟨_,e,?_⟩;symm;exact q _ _ (Int.emod_nonneg _ (by omega)) (Int.emod_lt_of_pos _ h0) (.set hl)
 ·symm
  refine ZCN e rfl ?_;symm;refine⟨_,e,?_⟩;symm;refine ZCN (Zg hl) rfl ?_;symm;refine ZCL (ZCF (by decide)) ?_;symm;refine ZCN (Zg hl) rfl ?_;symm
  generalize hz:(n*48271+8191*(c+1)+17) % 2147483647=z
  have z0 : 0<=z:=by rw[←hz];exact Int.emod_nonneg _ (by decide)
  have z1:z<2147483647:=by rw[←hz];exact Int.emod_lt_of_pos _ (by decide)
  refine ZCL (ZHz (by omega)) ?_;symm;refine ZCN (Zg hl) rfl ?_;symm;refine⟨_,Zg hl,?_⟩;symm;refine ZCN (Zg (by rw[length_set];exact hl)) rfl ?_;symm;refine ZJv h0 ?_;symm;refine q _ _ (Int.emod_nonneg _ (by omega)) (Int.emod_lt_of_pos _ h0) ?_;rw[set_set];exact .set hl
theorem ZLZ{ns:List Int}{k:Int}{g:G}{P:W->G->Prop}(hk : 0<=k/\k<=100)(q:∀g',g'.length=g.length+1->(∀n,n<g.length->g'[n]? = g[n]?)->Bx g' g.length->P (.ref g.length) g'):EvP (Zu [.inp ns,.dat (.int k)] g) P:=by
 refine ZE0 ?_;symm;refine⟨λhx=>?_,λhx=>?_⟩
 ·have hk2:k.toNat<ns.length:=by have:=of_decide_eq_true hx;omega
  symm;refine ZEQ (y:=ns.getD k.toNat 0) (x:=.dat (.int (ns.getD k.toNat 0))) (g:=g) (by have:=ZAT (xs:=ns) (j:=k.toNat) (v:=ns.getD k.toNat 0) (by rw[getD_eq_getElem?_getD,getElem?_eq_getElem hk2];rfl);rwa [Int.toNat_of_nonneg hk.1] at this) rfl ?_;symm;refine ZCL (ZCF (ib1 _)) ?_;symm;refine ZCL (ZCF (by omega)) ?_;symm;exact q _ (by simp) (λn hn=>getElem?_append_left hn) ⟨_,_,_,ZCf⟩
 ·symm
  refine ZCL (ZCF (by omega)) ?_;symm;exact q _ (by simp) (λn hn=>getElem?_append_left hn) ⟨_,_,_,ZCf⟩
theorem ZBp{xs:List PyData}{d:Int}{g:G}{P:W->G->Prop}(h0 : 0<=d)(h1:d<xs.length)(q:∀x∈xs,P (.dat x) g):EvP (ZS (.dat (.list xs)) (.dat (.int d)) g) P:=by
 have hn:d.toNat<xs.length:=by omega
 refine y_ixL (d:=xs[d.toNat]) ?_ (q _ (getElem_mem hn));have h:=ZAT (xs:=xs) (j:=d.toNat) (v:=xs[d.toNat]) (by simp[hn])
 rwa [Int.toNat_of_nonneg h0] at h
theorem ZHQ{xs:List PyData}{d:Int}{g:G}{P:W->G->Prop}(h0 : 0<=d)(h1:d<xs.length)(q:∀x∈xs,P (.dat x) g):EvP (ZS (.dat (.tuple xs)) (.dat (.int d)) g) P:=by
 have hn:d.toNat<xs.length:=by omega
 refine ZEs (d:=xs[d.toNat]) ?_ (q _ (getElem_mem hn));have h:=ZAT (xs:=xs) (j:=d.toNat) (v:=xs[d.toNat]) (by simp[hn])
 rwa [Int.toNat_of_nonneg h0] at h
theorem ZBF{a b d:Int}{g:G}{P:W->G->Prop}(h0 : 0<=d)(h1:d<2)(q:∀x,x=a∨x=b->P (.dat (.int x)) g):EvP (ZS (.dat (.list [.int a,.int b])) (.dat (.int d)) g) P:=ZBp h0 h1 λx hx=>by
 simp only[mem_cons,not_mem_nil,or_false] at hx;rcases hx with rfl|rfl
 ·exact q _ (.inl rfl)
 ·exact q _ (.inr rfl)
theorem ZG3{b:Nat}{wh:Bool}{g:G}{P:W->G->Prop}(hb:Bx g b)(q:∀r g',RuOk r->r.cl.Sublist ZCA->(wh=true->r.cl=ZCA)->Dr b g g'->P (.dat (ruD r)) g'):EvP (Zh [.ref b,.dat (.bool wh)] g) P:=by
 refine ZDW ?_;symm;refine ZG hb (by decide) (by decide) λd1 g1 l1 u1 D1=>?_
 symm;refine ZG D1.bx (by decide) (by decide) λd2 g2 l2 u2 D2=>?_
 symm;refine ZG D2.bx (by decide) (by decide) λd3 g3 l3 u3 D3=>?_
 symm;refine ZBF l3 u3 λt ht=>?_
 symm;refine ZG D3.bx (by decide) (by decide) λd4 g4 l4 u4 D4=>?_
 symm;refine ZG D4.bx (by decide) (by decide) λd5 g5 l5 u5 D5=>?_
 symm;refine ZG D5.bx (by decide) (by decide) λd6 g6 l6 u6 D6=>?_
 symm;refine ZBF l6 u6 λc hc=>?_
 symm;refine ZG D6.bx (by decide) (by decide) λd7 g7 l7 u7 D7=>?_
 symm;refine ZG D7.bx (by decide) (by decide) λd8 g8 l8 u8 D8=>?_
 symm;refine ZG D8.bx (by decide) (by decide) λd9 g9 l9 u9 D9=>?_
 symm;refine ZBF (by omega) (by omega) λw hw=>?_
 symm;refine ZG D9.bx (by decide) (by decide) λm gm lm um Dm=>?_
 symm;have DD:=D1.trans (D2.trans (D3.trans (D4.trans (D5.trans (D6.trans (D7.trans (D8.trans (D9.trans Dm))))))));have rok:∀(o:Int) (cl:List Str),0<=o->o<4->cl.length<=7->RuOk ⟨o,1+w,t,c,cl⟩:=λo cl h1 h2 h3=>⟨⟨h1,by show o<=3;omega⟩,⟨by show 1<=1+w;omega,by show 1+w<=9;omega⟩,⟨by show 0<=t;omega,by show t<=9;omega⟩,⟨by show 0<=c;omega,by show c<=8;omega⟩,h3⟩
 have whole:∀(sdx:Sd) (rest:DS),sdx.getD 0 none=some (.ref b)->sdx.getD 2 none=some (.dat (.int t))->sdx.getD 3 none=some (.dat (.int c))->sdx.getD 4 none=some (.dat (.int (1+w)))->sdx.getD 5 none=some (.dat (clD ZCA)) ->
   EvS (ZO (dF Z5 (ZA (dF ZC (ZA (ZB 0) (ZA (dC (.int 4)) ZD))) (ZA (ZB 4) (ZA (ZB 2) (ZA (ZB 3) (ZA (ZB 5) ZD)))))) sdx gm) (seqP rest (runP P)):=λsdx rest e0 e2 e3 e4 e5=>by
  refine ZJ5 (x_f (ZBW (x_f (ZBW (ZCt e0 ?_)))));symm;refine ZG Dm.bx (by decide) (by decide) λo go lo uo Do=>?_
  refine ZBW (ZCt e4 (ZBW (ZCt e2 (ZBW (ZCt e3 (ZBW (ZCt e5 (ZJq ?_))))))));symm;exact ZCb (DD.trans Do).len (q ⟨o,1+w,t,c,ZCA⟩ _ (rok o _ lo uo (by decide)) (List.Sublist.refl _) (λ_=>rfl) (DD.trans Do))
 refine⟨λ_=>⟨λ_=>whole _ _ rfl rfl rfl rfl rfl,(λz=>by cases z)⟩,λhwh=>?_⟩;symm;refine⟨λ_=>whole _ _ rfl rfl rfl rfl rfl,λhm=>?_⟩;clear whole;symm;refine ZG Dm.bx (by decide) (by decide) λd10 g10 l10 u10 D10=>?_
 refine ZHQ (xs:=ZCA.map .str) l10 u10 λz hz=>?_
 obtain⟨z,hz0,rfl⟩:=List.mem_map.mp hz;have hok:=ok7;symm;refine⟨by decide,?_⟩;refine ZBz (λgx=>Dr b g gx) (λi acc=>∃l:List Str,acc=l.map .str/\l.Sublist (ZCA.take i)) (DD.trans D10) ⟨[],rfl,List.Sublist.refl _⟩ ?_ ?_
 ·rintro i x gx acc hx Dx ⟨l,rfl,hl⟩
  have hx':(ZCA.map PyData.str)[i]? = some x:=hx;rw[getElem?_map] at hx';obtain⟨s,hs,rfl⟩:=mp hx';have hs2:=mem_of_getElem? hs;have hi:=(List.getElem?_eq_some_iff.mp hs).1;have hsn:(l++[s]).Sublist (ZCA.take (i+1)):=by
   rw[List.take_add_one,hs];exact hl.append (List.Sublist.refl _)
  have hsk:l.Sublist (ZCA.take (i+1)):=hl.trans (List.take_sublist_take_left (le_succ i));symm;refine y_ne (by rw[hok s hs2,hok z hz0];rfl) ?_;symm;refine⟨λc1=>?_,λc1=>⟨(λz=>by cases z),λ_=>⟨trivial,Dx,l,rfl,hsk⟩⟩⟩;symm;have yes:∀(sdy:Sd) (gy:G),sdy.getD 0 none=some (.dat (.str s))->Dr b g gy->EvP (ZB 0 sdy gy) λy g2=>∃d,y=.dat d/\Zo none (ZCA.map PyData.str) g2/\Dr b g g2/\∃l':List Str,l.map PyData.str++[d]=l'.map .str/\l'.Sublist (ZCA.take (i+1)):=λsdy gy e D=>ZCt e ⟨_,rfl,trivial,D,l++[s],by rw[map_append];rfl,hsn⟩
  refine⟨λc2=>⟨λ_=>yes _ _ rfl Dx,(λz=>by cases z)⟩,λc2=>?_⟩;symm;refine ZG Dx.bx (by decide) (by decide) λd11 g11 l11 u11 D11=>?_
  symm;refine⟨λc3=>yes _ _ rfl (Dx.trans D11),λc3=>⟨trivial,Dx.trans D11,l,rfl,hsk⟩⟩
 ·rintro acc gx Dx ⟨l,rfl,hl⟩
  symm;refine ZG Dx.bx (by decide) (by decide) λo go lo uo Do=>?_
  symm;have hl7:l.Sublist ZCA:=hl;refine ZCb (Dx.trans Do).len (q ⟨o,1+w,t,c,l⟩ _ (rok o _ lo uo hl7.length_le) hl7 (λz=>by rw[hwh] at z;cases z) (Dx.trans Do))
theorem ZI5{b:Nat}{m:Int}{g:G}{P:W->G->Prop}(hb:Bx g b)(hm : 2<=m/\m<=8)(q:∀ts g',2<=ts.length->(ts.length:Int)<=m->(∀c∈ts,ZL1 c)->Dr b g g'->P (.dat (ZFv ts)) g'):EvP (Zn [.ref b,.dat (.int m)] g) P:=by
 refine ZEc ?_;symm;refine ZG hb (by decide) (by decide) λd1 g1 l1 u1 D1=>?_
 symm;refine ZG D1.bx (by decide) (by decide) λd2 g2 l2 u2 D2=>?_
 refine ZBp l2 u2 λx hx=>?_
 obtain⟨n0,rfl,hn0⟩:∃n0,x=.int n0/\2<=n0/\n0<=8:=by
  simp only[mem_cons,not_mem_nil,or_false] at hx;rcases hx with rfl|rfl|rfl|rfl|rfl|rfl <;> exact⟨_,rfl,by omega,by omega⟩
 have D12:=D1.trans D2;symm;have hnn : 2<=(if n0<m then n0 else m)/\(if n0<m then n0 else m)<=m:=by split <;> omega
 generalize (if n0<m then n0 else m)=n at *
 refine ZAI (j:=n) (g1:=g2) ?_;symm;refine⟨by omega,?_⟩;refine ZBK (λi sd gx=>∃ts hs pc,Dr b g gx/\g2.length<gx.length/\gx[g2.length]? = some (.pl ((ts:List (Int×Int)).map Z2))/\ts.length=i/\(∀c∈ts,ZL1 c)/\sd=[some (.ref b),some (.dat (.int m)),some (.dat (.int n)),some (.ref g2.length),hs,pc]) ⟨[],none,none,D12.app,by simp,ZCf,rfl,(λc hc=>by cases hc),rfl⟩ ?_ ?_
 ·rintro i x sd gx hx ⟨ts,hs,pc,D3,l3,c3,rfl,hts,rfl⟩
  have hbl:=hb.lt;have hg2:=D12.len;refine⟨_,rfl,?_⟩;symm;refine ZG D3.bx (by decide) (by decide) λd3 g4 l3 u3 D4=>?_
  symm;refine ZG D4.bx (by decide) (by decide) λd4 g5 l4 u4 D5=>?_
  symm;refine ZBF l4 u4 λp hp=>?_
  have hp4 : 1<=p/\p<=4:=by omega
  symm;have D35:=D4.trans D5;have c5:g5[g2.length]? = some (.pl (ts.map Z2)):=by rw[D35.kp _ (by omega) (by omega)];exact c3
  symm;refine ZG D5.bx (by omega) (by omega) λst g6 l5 u5 D6=>?_
  have D36:=D35.trans D6;have c6:g6[g2.length]? = some (.pl (ts.map Z2)):=by rw[D36.kp _ (by omega) (by omega)];exact c3
  symm;refine⟨_,c6,?_,?_⟩
  ·rw[length_map]
   have:=(List.getElem?_eq_some_iff.mp hx).1;rw[Z1] at this
   omega
  have l6:=D36.len;refine⟨trivial,ts++[(p,st)],_,_,(D3.trans D36).put hbl hg2,by rw[length_set];omega,?_,by rw[length_append];rfl,λc hc=>?_,rfl⟩
  ·rw[Zg (by omega),map_append]
   rfl
  ·rcases List.mem_append.mp hc with hc|hc
   ·exact hts c hc
   ·rw[List.mem_singleton.mp hc]
    exact⟨hp4.1,hp4.2,l5,u5⟩
 ·rintro sd gx ⟨ts,hs,pc,D3,l3,c3,hl,hts,rfl⟩
  rw[Z1] at hl;symm;refine ZC0 c3 ?_;symm;exact q ts gx (by omega) (by omega) hts D3
theorem ZDs{b n:Nat}{g0:G}{m:Int}{sd0:Sd}{de:DE}{P:List PyData->G->Prop}(R:Int->Prop)(hb:Bx g0 b)(hd:∀(i:Nat) gx,Dr b g0 gx->EvP (de (sd0.set 0 (some (.dat (.int (0+(i:Int)))))) gx) λy g2=>∃k,y=.dat (.int k)/\R k/\Dr b g0 g2)
  (q:∀(ks:List Int) gx,ks.length=n->(∀k∈ks,R k)->Dr b g0 gx->P (ks.map .int) gx):EvP (Z4 none (ZAK n 0) (.nm 0) ZAA de sd0 (ZAK n 0) g0) P:=by
 refine ZBz (λgx=>Dr b g0 gx) (λi acc=>∃ks:List Int,acc=ks.map .int/\ks.length=i/\∀k∈ks,R k) (.refl hb) ⟨[],rfl,rfl,(λk hk=>by cases hk)⟩ ?_ ?_
 ·rintro i x gx acc hx Dx ⟨ks,rfl,hl,hk⟩
  unfold ZAK at hx;rw[getElem?_map] at hx;obtain⟨j,hj,rfl⟩:=mp hx;obtain⟨hj1,hj2⟩:=List.getElem?_eq_some_iff.mp hj;rw[getElem_range] at hj2;subst hj2;refine⟨_,by rw[ZN],true,gx,rfl,λ_=>(hd i gx Dx).imp λy g2 ⟨k,e,hk2,D2⟩=>⟨.int k,e,trivial,D2,ks++[k],by rw[map_append];rfl,by rw[length_append,hl];rfl,λz hz=>?_⟩,λz=>by cases z⟩;rcases List.mem_append.mp hz with hz|hz
  ·exact hk z hz
  ·rw[List.mem_singleton.mp hz];exact hk2
 ·rintro acc gx Dx ⟨ks,rfl,hl,hk⟩
  unfold ZAK at hl;rw[length_map,length_range] at hl;exact q ks gx hl hk Dx
theorem ZGZ{b n:Nat}{g0:G}{sd0:Sd}{de:DE}{P:List PyData->G->Prop}(R:Int×Int->Prop)(hb:Bx g0 b)(hd:∀(i:Nat) gx,Dr b g0 gx->EvP (de (sd0.set 0 (some (.dat (.int (0+(i:Int)))))) gx) λy g2=>∃k,y=.dat (Z2 k)/\R k/\Dr b g0 g2)
  (q:∀(ks:List (Int×Int)) gx,ks.length=n->(∀k∈ks,R k)->Dr b g0 gx->P (ks.map Z2) gx):EvP (Z4 none (ZAK n 0) (.nm 0) ZAA de sd0 (ZAK n 0) g0) P:=by
 refine ZBz (λgx=>Dr b g0 gx) (λi acc=>∃ks:List (Int×Int),acc=ks.map Z2/\ks.length=i/\∀k∈ks,R k) (.refl hb) ⟨[],rfl,rfl,(λk hk=>by cases hk)⟩ ?_ ?_
 ·rintro i x gx acc hx Dx ⟨ks,rfl,hl,hk⟩
  unfold ZAK at hx;rw[getElem?_map] at hx;obtain⟨j,hj,rfl⟩:=mp hx;obtain⟨hj1,hj2⟩:=List.getElem?_eq_some_iff.mp hj;rw[getElem_range] at hj2;subst hj2;refine⟨_,by rw[ZN],true,gx,rfl,λ_=>(hd i gx Dx).imp λy g2 ⟨k,e,hk2,D2⟩=>⟨Z2 k,e,trivial,D2,ks++[k],by rw[map_append];rfl,by rw[length_append,hl];rfl,λz hz=>?_⟩,λz=>by cases z⟩;rcases List.mem_append.mp hz with hz|hz
  ·exact hk z hz
  ·rw[List.mem_singleton.mp hz];exact hk2
 ·rintro acc gx Dx ⟨ks,rfl,hl,hk⟩
  unfold ZAK at hl;rw[length_map,length_range] at hl;exact q ks gx hl hk Dx
theorem ZHw{b:Nat}{r:Ru}{ts:List (Int×Int)}{g:G}{P:W->G->Prop}(hb:Bx g b)(hr:RuOk r)(ht : 2<=ts.length/\ts.length<=8)(q:∀tn hs g',hs.length=ts.length->0<=tn->tn<=100000->(∀i h,hs[i]? = some h->HV r ts.length i h)->Dr b g g'->P (.dat (Zc tn hs)) g'):EvP (Zk [.ref b,.dat (ruD r),.dat (ZFv ts)] g) P:=by
 have rt:=hr.t;have rw_:=hr.w;refine ZDQ ?_;symm;rw[length_map];refine ZG hb (by decide) (by decide) λd1 g1 l1 u1 D1=>?_
 symm;refine ZG D1.bx (by decide) (by decide) λd2 g2 l2 u2 D2=>?_
 refine ZBp l2 u2 λx hx=>?_
 obtain⟨far,rfl,hfar⟩:∃n0,x=.int n0/\0<=n0/\n0<=999000:=by
  simp only[mem_cons,not_mem_nil,or_false] at hx;rcases hx with rfl|rfl|rfl|rfl <;> exact⟨_,rfl,by omega,by omega⟩
 symm;refine ZG D2.bx (by decide) (by decide) λcalm g3 l3 u3 D3=>?_
 have D13:=D1.trans (D2.trans D3);symm;refine ZAI (j:=ts.length) (g1:=g3) ?_;symm;refine⟨by omega,?_⟩;rw[show((ts.length:Nat):Int).toNat=ts.length by omega];have hbxl:=hb.lt;have hg3:=D13.len;refine ZBK (λi sd gx=>∃hs z1 z2 z3 z4 z5,Dr b g gx/\g3.length<gx.length/\gx[g3.length]? = some (.pl ((hs:List Hs).map ZBD))/\hs.length=i/\(∀j h,hs[j]? = some h->HV r ts.length j h)/\sd=[some (.ref b),some (.dat (ruD r)),some (.dat (ZFv ts)),some (.dat (.int (ts.length:Int))),some (.dat (.int far)),some (.dat (.int calm)),some (.ref g3.length),z1,z2,z3,z4,z5]) ⟨[],none,none,none,none,none,D13.app,by simp,ZCf,rfl,(λj h e=>by simp at e),rfl⟩ ?_ ?_
 ·rintro i x sd gx hx ⟨hs,z1,z2,z3,z4,z5,D4,hl4,c4,rfl,hv,rfl⟩
  have hi:hs.length<ts.length:=by have:=(List.getElem?_eq_some_iff.mp hx).1;rw[Z1] at this;exact this
  have hx2:x=.int (hs.length:Int):=by
   unfold ZAK at hx;rw[getElem?_map] at hx;obtain⟨j,hj,rfl⟩:=mp hx;obtain⟨hj1,hj2⟩:=List.getElem?_eq_some_iff.mp hj;rw[getElem_range] at hj2;subst hj2;rw[Int.zero_add]
  subst hx2;refine⟨_,rfl,?_⟩;symm;refine ZG D4.bx (by decide) (by decide) λd5 g5 l5 u5 D5=>?_
  symm;have hup : 0<=(if decide (0<d5)=true then (1:Int) else 0)/\(if decide (0<d5)=true then (1:Int) else 0)<=1:=by split <;> omega
  generalize (if decide (0<d5)=true then (1:Int) else 0)=up at *
  refine ZAI (j:=ts.length) (g1:=g5) ?_;symm;refine⟨by omega,?_⟩;rw[show((ts.length:Nat):Int).toNat=ts.length by omega];refine⟨by rw[Z1];omega,?_⟩;refine ZGZ (b:=b) (λw=>(0<=w.1/\w.1<=1000000)/\0<=w.2/\w.2<=3) D5.bx (λj gx Dx=>?_) λbk g6 hbl hbs D6=>?_
  ·symm
   refine ZG Dx.bx (by decide) (by decide) λe1 h1 m1 n1 E1=>?_
   symm;refine ZG E1.bx (by decide) (by decide) λe2 h2 m2 n2 E2=>?_
   symm;refine ZBF (by split <;> omega) (by split <;> omega) λmk hmk=>?_
   symm;exact⟨(far+e1,mk),rfl,⟨⟨by show(0:Int)<=far+e1;omega,by show far+e1<=1000000;omega⟩,by show 0<=mk;omega,by show mk<=3;omega⟩,Dx.trans (E1.trans E2)⟩
  symm;refine ZAI (j:=ts.length) (g1:=g6) ?_;symm;refine⟨by omega,?_⟩;rw[show((ts.length:Nat):Int).toNat=ts.length by omega];refine⟨by rw[Z1];omega,?_⟩;refine ZDs (b:=b) (m:=0) (λk=>0<=k/\k<=r.t) D6.bx (λj gx Dx=>?_) λtl g7 htl hts D7=>?_
  ·symm
   refine ZG Dx.bx (by omega) (by omega) λe1 h1 m1 n1 E1=>?_
   exact⟨e1,rfl,⟨m1,by omega⟩,Dx.trans E1⟩
  symm;refine ZAI (j:=ts.length) (g1:=g7) ?_;symm;refine⟨by omega,?_⟩;rw[show((ts.length:Nat):Int).toNat=ts.length by omega];refine⟨by rw[Z1];omega,?_⟩;refine ZDs (b:=b) (m:=0) (λk=>0<=k/\k<=r.w) D7.bx (λj gx Dx=>?_) λtm g8 hml hms D8=>?_
  ·symm
   refine ZG Dx.bx (by omega) (by omega) λe1 h1 m1 n1 E1=>?_
   symm;refine ZG E1.bx (by decide) (by decide) λe2 h2 m2 n2 E2=>?_
   symm;refine ZCL (ZCF (ib1 _)) ?_;refine⟨_,rfl,?_,Dx.trans (E1.trans E2)⟩
   split <;> omega
  symm;refine ZAI (j:=ts.length) (g1:=g8) ?_;symm;refine⟨by omega,?_⟩;rw[show((ts.length:Nat):Int).toNat=ts.length by omega];refine⟨by rw[Z1];omega,?_⟩;refine Zs (λj:Nat=>PyData.int (j:Int)) (λj:Nat=>PyData.int (tm.getD j 0*up*(if (j:Int)=(hs.length:Int) then 0 else 1))) (List.range ts.length) (by unfold ZAK;refine map_congr_left λj _=>?_;rw[Int.zero_add]) trivial (λj hj=>?_) ?_
  ·have hj:=List.mem_range.mp hj
   refine⟨_,by rw[ZN],?_⟩;symm;refine ZEs (ZBn (a:=(0:Int)) (by omega)) ?_;symm;have htb : 0<=tm.getD j 0/\tm.getD j 0<=r.w:=by
    rw[getD_eq_getElem?_getD,getElem?_eq_getElem (show j<tm.length by omega)];exact hms _ (getElem_mem _)
   generalize tm.getD j 0=tk at *
   refine ZCL (ZHz (by omega)) ?_;symm;refine ZCL (ZCF (ib1 _)) ?_;refine⟨?_,rfl⟩;rw[Zj]
   congr 2
   by_cases hjj:(j:Int)=(hs.length:Int)
   ·rw[if_pos hjj,decide_eq_true hjj];rfl
   ·rw[if_neg hjj,decide_eq_false hjj];rfl
  generalize htm2:((List.range ts.length).map λj:Nat=>tm.getD j 0*up*(if (j:Int)=(hs.length:Int) then 0 else 1))=tm2
  have hcv:((List.range ts.length).map λj:Nat=>PyData.int (tm.getD j 0*up*(if (j:Int)=(hs.length:Int) then 0 else 1)))=tm2.map .int:=by
   rw[←htm2,map_map];rfl
  rw[hcv];have DA:=D5.trans (D6.trans (D7.trans D8));have c9:g8[g3.length]? = some (.pl (hs.map ZBD)):=by rw[DA.kp _ (by omega) (by omega)];exact c4
  have l9:=DA.len;symm;refine⟨_,c9,by rw[length_map];omega,?_⟩;refine⟨trivial,hs++[(up,bk,tl,tm2)],_,_,_,_,_,(D4.trans DA).put hbxl hg3,by rw[length_set];omega,?_,by rw[length_append];rfl,snocV hv ?_,rfl⟩
  ·rw[Zg (by omega),map_append]
   rfl
  have hm2:∀k∈tm2,(0<=k/\k<=r.w)/\(up=1∨k=0):=λk hk=>by
   rw[←htm2] at hk;obtain⟨j,hj,rfl⟩:=List.mem_map.mp hk;have hj:=List.mem_range.mp hj;have htb : 0<=tm.getD j 0/\tm.getD j 0<=r.w:=by
    rw[getD_eq_getElem?_getD,getElem?_eq_getElem (show j<tm.length by omega)];exact hms _ (getElem_mem _)
   generalize tm.getD j 0=tk at *
   have hu:up=0∨up=1:=by omega
   rcases hu with rfl|rfl
   ·simp;omega
   ·split <;> simp <;> omega
  refine⟨hup,hbl,hbs,htl,hts,?_,λk hk=>(hm2 k hk).1,?_,?_⟩
  ·show tm2.length=_
   rw[←htm2,length_map,length_range]
  ·show tm2[hs.length]? = some 0
   rw[←htm2,getElem?_map,List.getElem?_range hi];show some (_*_*_)=some 0;rw[if_pos rfl,Int.mul_zero]
  ·show up=1∨∀k∈tm2,k=0
   by_cases hu:up=1
   ·exact .inl hu
   ·exact .inr λk hk=>((hm2 k hk).2).resolve_left hu
 ·rintro sd gx ⟨hs,z1,z2,z3,z4,z5,D4,hl4,c4,hl,hv,rfl⟩
  rw[Z1] at hl;symm;refine ZG D4.bx (by decide) (by decide) λe1 h1 m1 n1 E1=>?_
  refine ZBp m1 n1 λx hx=>?_
  obtain⟨tm,rfl,htm⟩:∃n0,x=.int n0/\0<n0/\n0<=100000:=by
   simp only[mem_cons,not_mem_nil,or_false] at hx;rcases hx with rfl|rfl|rfl <;> exact⟨_,rfl,by omega,by omega⟩
  symm;refine ZG E1.bx (by omega) (by omega) λtn h2 m2 n2 E2=>?_
  have E12:=E1.trans E2;have c9:h2[g3.length]? = some (.pl (hs.map ZBD)):=by rw[E12.kp _ (by omega) (by omega)];exact c4
  symm;refine ZC0 c9 ?_;symm;exact q tn hs h2 hl m2 (by omega) hv (D4.trans E12)
theorem ZEk{α : Type}{enc : α->PyData}{d : α}:∀(L:List α) (k:Nat),ZAb k (L.map enc)=(List.range L.length).map λj:Nat=>PyData.tuple [.int ((k+j:Nat):Int),enc (L.getD j d)]
 |[],_=>rfl
 |a::L,k=>by
  rw[map_cons,ZAb,ZEk L (k+1),length_cons,List.range_succ_eq_map,map_cons,map_map]
  congr 1
  refine map_congr_left λj _=>?_
  show PyData.tuple [.int ((k+1+j:Nat):Int),enc (L.getD j d)]=.tuple [.int ((k+(j+1):Nat):Int),enc ((a::L).getD (j+1) d)];rw[show k+1+j=k+(j+1) by omega];rfl
theorem enum0{α : Type}{enc : α->PyData}(d : α)(L:List α):ZAb 0 (L.map enc)=(List.range L.length).map λj:Nat=>PyData.tuple [.int (j:Int),enc (L.getD j d)]:=by
 rw[ZEk (d:=d)];refine map_congr_left λj _=>?_
 rw[zero_add]
structure RisN (ks:List Int) (m:Int):Prop where
 up:ks.Pairwise (· < ·)
 lo:∀k∈ks,0<=k
 hi:∀k∈ks,k<m
theorem RisN.nil{m:Int}:RisN [] m:=⟨.nil,(λk hk=>by cases hk),λk hk=>by cases hk⟩
theorem RisN.more{ks:List Int}{m n:Int}(h:RisN ks m)(hn:m<=n):RisN ks n:=⟨h.up,h.lo,λk hk=>by have:=h.hi k hk;omega⟩
theorem RisN.snoc{ks:List Int}{m:Int}(h:RisN ks m)(hm : 0<=m):RisN (ks++[m]) (m+1):=⟨by
 rw[List.pairwise_append];exact⟨h.up,List.pairwise_singleton _ _,λa ha c hc=>by rw[List.mem_singleton.mp hc];exact h.hi a ha⟩,λk hk=>by
 rcases List.mem_append.mp hk with hk|hk
 ·exact h.lo k hk
 ·rw[List.mem_singleton.mp hk];exact hm,λk hk=>by
 rcases List.mem_append.mp hk with hk|hk
 ·have:=h.hi k hk;omega
 ·rw[List.mem_singleton.mp hk];omega⟩
theorem RisN.rng:∀n:Nat,RisN ((List.range n).map λj:Nat=>(j:Int)) n
 |0=>.nil
 |n+1=>by
  rw[List.range_succ,map_append];have:=(RisN.rng n).snoc (by omega);exact this.more (by omega)
theorem RisN.len_go:∀(ks:List Int) (lo:Int) (m:Int),ks.Pairwise (· < ·)->(∀k∈ks,lo<=k/\k<m)->lo<=m->(ks.length:Int)<=m-lo
 |[],lo,m,_,_,h=>by show(0:Int)<=_;omega
 |a::r,lo,m,hp,hk,h=>by
  have ha:=hk a (mem_cons_self ..);rw[List.pairwise_cons] at hp;have:=RisN.len_go r (a+1) m hp.2 (λk hk2=>⟨by have:=hp.1 k hk2;omega,(hk k (mem_cons_of_mem _ hk2)).2⟩) (by omega);rw[length_cons];omega
theorem RisN.len{ks:List Int}{m:Int}(h:RisN ks m)(hm : 0<=m):(ks.length:Int)<=m:=by
 have:=RisN.len_go ks 0 m h.up (λk hk=>⟨h.lo k hk,h.hi k hk⟩) hm;omega
theorem ZIP{b:Nat}{m:Int}{g:G}{P:W->G->Prop}(hb:Bx g b)(hm : 0<=m/\m<=1000)(q:∀ks g',RisN ks m->Dr b g g'->P (.dat (ZJ ks)) g'):EvP (Zq [.ref b,.dat (.int m)] g) P:=by
 refine ZD7 ?_;symm;refine ZG hb (by decide) (by decide) λd g1 l1 u1 D1=>?_
 symm;rw[Zj];refine⟨λh=>?_,λh=>?_⟩
 ·symm
  exact ZCb D1.len (q [] g1 .nil D1)
 have h0 : ¬d=0:=of_decide_eq_false h;symm;rw[Zj];refine⟨λh=>?_,λh=>?_⟩
 ·symm
  refine⟨hm,?_⟩;symm;have e:ZAK m.toNat 0=((List.range m.toNat).map λj:Nat=>(j:Int)).map .int:=by rw[ZBm,map_map];rfl
  rw[e];exact q _ g1 ((RisN.rng m.toNat).more (by omega)) D1
 have h1 : ¬d=1:=of_decide_eq_false h;symm;refine ZAI (j:=m) (g1:=g1) ?_;symm;refine⟨by omega,?_⟩;refine⟨by rw[Z1];omega,?_⟩;refine ZBz (λgx=>Dr b g gx) (λi acc=>∃ks:List Int,acc=ks.map .int/\RisN ks i) D1 ⟨[],rfl,.nil⟩ ?_ ?_
 ·rintro i x gx acc hx Dx ⟨ks,rfl,hk⟩
  rw[ZBm,getElem?_map] at hx;obtain⟨j,hj,rfl⟩:=mp hx;obtain⟨hj1,hj2⟩:=List.getElem?_eq_some_iff.mp hj;rw[getElem_range] at hj2;subst hj2;refine⟨_,by rw[ZN],?_⟩;symm;refine ZBp (by omega) (by show d-2<3;omega) λx hx=>?_
  obtain⟨t,rfl,ht⟩:∃n0:Int,x=.int n0/\2<=n0/\n0<=8:=by
   simp only[mem_cons,not_mem_nil,or_false] at hx;rcases hx with rfl|rfl|rfl <;> exact⟨_,rfl,by omega,by omega⟩
  symm;refine ZG Dx.bx (by omega) (by omega) λd2 g2 l2 u2 D2=>?_
  symm;refine⟨λ_=>?_,λ_=>⟨trivial,Dx.trans D2,ks,rfl,hk.more (by omega)⟩⟩;symm;exact⟨trivial,Dx.trans D2,ks++[(i:Int)],by rw[map_append];rfl,hk.snoc (by omega)⟩
 ·rintro acc gx Dx ⟨ks,rfl,hk⟩
  rw[Z1] at hk;symm;exact ZCb Dx.len (q ks gx (hk.more (by omega)) Dx)
structure HsN (hs:List Hs) (u:Int) (ks:List Int):Prop where
 pr:RisN ks hs.length
 pu:∀k∈ks,(hs.getD k.toNat H0).1=u
structure DoOk (hs:List Hs) (lo fa le co:List Int):Prop where
 plo:RisN lo 60
 pfa:HsN hs 1 fa
 ple:HsN hs 1 le
 pco:HsN hs 0 co
 pap:∀k∈fa,k∉le
def doD(lo fa le co:List Int):PyData:=.tuple [ZJ lo,ZJ fa,ZJ le,ZJ co]
structure DoI (hs:List Hs) (i:Nat) (fa le co:List Int):Prop where
 ifa:RisN fa i
 ile:RisN le i
 ico:RisN co i
 fu:∀k∈fa,(hs.getD k.toNat H0).1=1
 lu:∀k∈le,(hs.getD k.toNat H0).1=1
 cu:∀k∈co,(hs.getD k.toNat H0).1=0
 ap:∀k∈fa,k∉le
theorem ZEB{ks:List Int}{a k:Int}{p:Int->Prop}(h:∀k∈ks,p k)(ha:p a):∀k∈ks++[a],p k:=λk hk=>by
 rcases List.mem_append.mp hk with hk|hk
 ·exact h k hk
 ·rw[List.mem_singleton.mp hk];exact ha
theorem DoI.f{hs:List Hs}{i:Nat}{fa le co:List Int}(h:DoI hs i fa le co)(hu:(hs.getD i H0).1=1):DoI hs (i+1) (fa++[(i:Int)]) le co:=⟨h.ifa.snoc (by omega),h.ile.more (by omega),h.ico.more (by omega),ZEB (k:=0) h.fu (by rw[toNat_natCast];exact hu),h.lu,h.cu,ZEB (k:=0) h.ap λz=>by have:=h.ile.hi _ z;omega⟩
theorem DoI.l{hs:List Hs}{i:Nat}{fa le co:List Int}(h:DoI hs i fa le co)(hu:(hs.getD i H0).1=1):DoI hs (i+1) fa (le++[(i:Int)]) co:=⟨h.ifa.more (by omega),h.ile.snoc (by omega),h.ico.more (by omega),h.fu,ZEB (k:=0) h.lu (by rw[toNat_natCast];exact hu),h.cu,λk hk z=>by
 rcases List.mem_append.mp z with z|z
 ·exact h.ap k hk z
 ·rw[List.mem_singleton.mp z] at hk
  have:=h.ifa.hi _ hk;omega⟩
theorem DoI.c{hs:List Hs}{i:Nat}{fa le co:List Int}(h:DoI hs i fa le co)(hu:(hs.getD i H0).1=0):DoI hs (i+1) fa le (co++[(i:Int)]):=⟨h.ifa.more (by omega),h.ile.more (by omega),h.ico.snoc (by omega),h.fu,h.lu,ZEB (k:=0) h.cu (by rw[toNat_natCast];exact hu),h.ap⟩
theorem DoI.n{hs:List Hs}{i:Nat}{fa le co:List Int}(h:DoI hs i fa le co):DoI hs (i+1) fa le co:=⟨h.ifa.more (by omega),h.ile.more (by omega),h.ico.more (by omega),h.fu,h.lu,h.cu,h.ap⟩
theorem ZD4{i:Nat}{ks:List Int}(h:RisN ks i)(hi:i<1000):(ks.map PyData.int).length<1000:=by
 rw[length_map];have:=h.len (by omega);omega
theorem ZGc{b:Nat}{tn:Int}{hs:List Hs}{mv:Bool}{g:G}{P:W->G->Prop}(hb:Bx g b)(hl:hs.length<=900)(q:∀lo fa le co g',DoOk hs lo fa le co->Dr b g g'->P (.dat (doD lo fa le co)) g'):EvP (ZZ [.ref b,.dat (Zc tn hs),.dat (.bool mv)] g) P:=by
 have hlb:=hb.lt;refine ZCv ?_;symm;refine⟨_,_,_,rfl,?_⟩;symm;refine ZBK (λi sd gx=>∃fa le co z6 z7 z8,Dr b g gx/\g.length+3<=gx.length/\gx[g.length]? = some (.pl (fa.map .int))/\gx[g.length+1]? = some (.pl (le.map .int))/\gx[g.length+2]? = some (.pl (co.map .int))/\DoI hs i fa le co/\sd=[some (.ref b),some (.dat (Zc tn hs)),some (.dat (.bool mv)),some (.ref g.length),some (.ref (g.length+1)),some (.ref (g.length+2)),z6,z7,z8]) ?_ ?_ ?_
 ·refine⟨[],[],[],none,none,none,(((Dr.refl hb).app).app).app,by simp,by simp,by simp,by simp,⟨.nil,.nil,.nil,(λk hk=>by cases hk),(λk hk=>by cases hk),(λk hk=>by cases hk),(λk hk=>by cases hk)⟩,?_⟩
  simp
 ·rintro i x sd gx hx ⟨fa,le,co,z6,z7,z8,K1,L1,F1,E1,C1,I1,rfl⟩
  rw[enum0 H0 hs,getElem?_map] at hx;obtain⟨j,hj,rfl⟩:=mp hx;obtain⟨hj1,hj2⟩:=List.getElem?_eq_some_iff.mp hj;rw[getElem_range] at hj2;subst hj2;rw[length_range] at hj1;refine⟨_,rfl,?_⟩;symm;refine ZG K1.bx (by decide) (by decide) λw g2 l2 u2 D2=>?_
  have K2:=K1.trans D2;have L2':g.length+3<=g2.length:=by have:=D2.len;omega
  have F2:g2[g.length]? = some (.pl (fa.map .int)):=by rw[D2.kp _ (by omega) (by omega)];exact F1
  have E2:g2[g.length+1]? = some (.pl (le.map .int)):=by rw[D2.kp _ (by omega) (by omega)];exact E1
  have C2:g2[g.length+2]? = some (.pl (co.map .int)):=by rw[D2.kp _ (by omega) (by omega)];exact C1
  cases mv with
  |false =>
   symm;refine⟨(λz=>by cases z),λ_=>⟨(λz=>by cases z),λ_=>?_⟩⟩;symm;refine⟨(λz=>by cases z),λ_=>⟨(λz=>by cases z),λ_=>?_⟩⟩;symm;exact⟨trivial,fa,le,co,_,_,_,K2,L2',F2,E2,C2,I1.n,rfl⟩
  |true =>
   symm;refine bT ?_;symm;rw[Zj];refine⟨λhu=>?_,λhu=>?_⟩
   ·have hu:(hs.getD i H0).1=1:=of_decide_eq_true hu
    symm;refine⟨λhw=>?_,λhw=>?_⟩
    ·have hw:w<2:=of_decide_eq_true hw
     symm;refine⟨by show(2:Nat)<=1000;decide,?_⟩;rcases(show w=0∨w=1 by omega) with rfl|rfl
     ·refine⟨_,rfl,_,rfl,?_⟩
      symm;refine⟨_,F2,ZD4 I1.ifa (by omega),?_⟩;symm;refine bT ?_;symm;rw[Zj,hu];refine⟨(λz=>by cases z),λ_=>⟨(λz=>by cases z),λ_=>?_⟩⟩;symm;refine⟨trivial,fa++[(i:Int)],le,co,_,_,_,K2.put hlb (le_refl _),by rw[length_set];exact L2',?_,?_,?_,I1.f hu,rfl⟩
      ·rw[Zg (by omega),map_append];rfl
      ·rw[getElem?_set_ne (by omega)];exact E2
      ·rw[getElem?_set_ne (by omega)];exact C2
     ·refine⟨_,rfl,_,rfl,?_⟩
      symm;refine⟨_,E2,ZD4 I1.ile (by omega),?_⟩;symm;refine bT ?_;symm;rw[Zj,hu];refine⟨(λz=>by cases z),λ_=>⟨(λz=>by cases z),λ_=>?_⟩⟩;symm;refine⟨trivial,fa,le++[(i:Int)],co,_,_,_,K2.put hlb (by omega),by rw[length_set];exact L2',?_,?_,?_,I1.l hu,rfl⟩
      ·rw[getElem?_set_ne (by omega)];exact F2
      ·rw[Zg (by omega),map_append];rfl
      ·rw[getElem?_set_ne (by omega)];exact C2
    ·symm
     refine bT ?_;symm;rw[Zj,hu];refine⟨(λz=>by cases z),λ_=>⟨(λz=>by cases z),λ_=>?_⟩⟩;symm;exact⟨trivial,fa,le,co,_,_,_,K2,L2',F2,E2,C2,I1.n,rfl⟩
   ·refine bF ?_
    symm;refine bT ?_;symm;rw[Zj];refine⟨λhu=>?_,λhu=>⟨(λz=>by cases z),λ_=>?_⟩⟩
    ·have hu:(hs.getD i H0).1=0:=of_decide_eq_true hu
     symm;refine⟨λhw=>?_,λhw=>?_⟩
     ·symm
      refine⟨_,C2,ZD4 I1.ico (by omega),?_⟩;refine⟨trivial,fa,le,co++[(i:Int)],_,_,_,K2.put hlb (by omega),by rw[length_set];exact L2',?_,?_,?_,I1.c hu,rfl⟩
      ·rw[getElem?_set_ne (by omega)];exact F2
      ·rw[getElem?_set_ne (by omega)];exact E2
      ·rw[Zg (by omega),map_append];rfl
     ·symm
      exact⟨trivial,fa,le,co,_,_,_,K2,L2',F2,E2,C2,I1.n,rfl⟩
    ·symm
     exact⟨trivial,fa,le,co,_,_,_,K2,L2',F2,E2,C2,I1.n,rfl⟩
 ·rintro sd gx ⟨fa,le,co,z6,z7,z8,K1,L1,F1,E1,C1,I1,rfl⟩
  rw[ZBL,length_map] at I1;symm;refine ZIP K1.bx (by decide) λlo g2 hlo D2=>?_
  have K2:=K1.trans D2;have F2:g2[g.length]? = some (.pl (fa.map .int)):=by rw[D2.kp _ (by omega) (by omega)];exact F1
  have E2:g2[g.length+1]? = some (.pl (le.map .int)):=by rw[D2.kp _ (by omega) (by omega)];exact E1
  have C2:g2[g.length+2]? = some (.pl (co.map .int)):=by rw[D2.kp _ (by omega) (by omega)];exact C1
  symm;refine ZC0 F2 ?_;symm;refine ZC0 E2 ?_;symm;refine ZC0 C2 ?_;symm;exact q lo fa le co _ ⟨hlo,⟨I1.ifa,I1.fu⟩,⟨I1.ile,I1.lu⟩,⟨I1.ico,I1.cu⟩,I1.ap⟩ K2
def isI:PyData->Bool
 |.int _=>true
 |_=>false
def tof(n:Nat):PyData->Bool
 |.tuple ds=>decide (ds.length=n)
 |_=>false
theorem ZHU{d:PyData}{g:G}{P:W->G->Prop}(q:P (.dat (.bool (isI d))) g):EvP (Zv [.dat d] g) P:=by
 refine ZEj ?_;symm;cases d with
 |int i=>exact⟨λ_=>ZFc (by symm;exact q),(λz=>by cases z)⟩
 |bool b=>exact⟨λ_=>ZFc (by symm;exact q),(λz=>by cases z)⟩
 |_=>exact⟨(λz=>by cases z),λ_=>(by symm;exact q)⟩
theorem ZHZ{d:PyData}{n:Nat}{g:G}{P:W->G->Prop}(q:P (.dat (.bool (tof n d))) g):EvP (Za [.dat d,.dat (.int n)] g) P:=by
 refine ZC9 ?_;symm;cases d with
 |tuple ds =>
  refine bT ?_;symm;rw[Zj,show decide ((ds.length:Int)=(n:Int))=decide (ds.length=n) from decide_eq_decide.mpr ⟨λz=>by omega,λz=>by omega⟩];exact q
 |_=>exact⟨(λz=>by cases z),λ_=>(by symm;exact q)⟩
def cnt:PyData->Bool
 |.int i=>decide (0<=i)
 |_=>false
theorem ZHP{d:PyData}{g:G}{P:W->G->Prop}(q:P (.dat (.bool (cnt d))) g):EvP (Zt [.dat d] g) P:=by
 refine ZEi ?_;symm;refine ZHU ?_;symm;cases d with
 |int i =>
  refine bT ?_;symm;exact q
 |_=>exact⟨(λz=>by cases z),λ_=>(by symm;exact q)⟩
def its:PyData->List PyData
 |.tuple ds=>ds
 |_=>[]
theorem ZKN{ds:List PyData}{c:PyData->Bool}{g:G}{P:W->G->Prop}(q:P (.dat (.bool (ds.all c))) g):EvP (f1 ZCq [.dat (.list (ds.map λx=>.bool (c x)))] g) P:=by
 rw[show ds.map (λx=>PyData.bool (c x))=(ds.map c).map .bool by rw[map_map];rfl];exact ZJr (by rw[all_map];exact q)
def upI:PyData->Int
 |.int i=>i
 |_=>0
theorem ZC4:∀(ds:List PyData),ZA4 ds (ds.drop 1)=(ds.zip (ds.drop 1)).map λp=>PyData.tuple [p.1,p.2]
 |[]=>rfl
 |[a]=>rfl
 |a::b::r=>by
  have:=ZC4 (b::r);show PyData.tuple [a,b]::ZA4 (b::r) r=_;rw[show ZA4 (b::r) r=_ from this];rfl
theorem ZLo(ds:List PyData):ZBe ds (some 1) none=ds.drop 1:=by
 have h1:HT.sIx ds.length 0 (some 1)=min 1 ds.length:=rfl;have h2:HT.sIx ds.length ds.length none=ds.length:=rfl;unfold ZBe;rw[h1,h2];cases ds with
 |nil=>rfl
 |cons d ds =>
  rw[show min 1 (d::ds).length=1 by simp,List.take_of_length_le (by rw[length_drop];exact le_refl _)]
theorem ZDK{α : Type}{L:List α}{c : α->Bool}{g:G}{P:W->G->Prop}(q:P (.dat (.bool (L.all c))) g):EvP (f1 ZCq [.dat (.list (L.map λx=>.bool (c x)))] g) P:=by
 rw[show L.map (λx=>PyData.bool (c x))=(L.map c).map .bool by rw[map_map];rfl];exact ZJr (by rw[all_map];exact q)
def ris(ds:List PyData):Bool:=(ds.zip (ds.drop 1)).all λp=>decide (upI p.1<upI p.2)
theorem ZFu{d:PyData}(h:cnt d=true):d=.int (upI d)/\0<=upI d:=by
 cases d with
 |int a=>exact⟨rfl,of_decide_eq_true h⟩
 |_=>cases h
theorem ZHm{ds:List PyData}{g:G}{P:W->G->Prop}(hl:ds.length<=1000)(hi:∀x∈ds,cnt x=true)(q:P (.dat (.bool (ris ds))) g):EvP (ZAr [.dat (.tuple ds)] g) P:=by
 refine ZHE ?_;symm;rw[ZLo];refine⟨_,_,rfl,by rw[ZBG];omega,?_⟩;refine Zs (λp:PyData×PyData=>PyData.tuple [p.1,p.2]) (λp=>.bool (decide (upI p.1<upI p.2))) _ (ZC4 ds) trivial (λp hp=>⟨_,rfl,?_⟩) ?_
 ·obtain⟨h1,h2⟩:=of_mem_zip (show(p.1,p.2)∈_ from hp)
  have e1:=(ZFu (hi _ h1)).1;have e2:=(ZFu (hi _ (List.mem_of_mem_drop h2))).1;rw[e1,e2];symm;exact⟨rfl,rfl⟩
 symm;refine ZDK ?_;symm;exact q
def isT:PyData->Bool
 |.tuple _=>true
 |_=>false
def arR(d:PyData):Bool:=isT d && ((its d).all cnt && ris (its d))
theorem ZCm{d:PyData}{g:G}{P:W->G->Prop}(hl:(its d).length<=1000)(q:P (.dat (.bool (arR d))) g):EvP (Zf [.dat d] g) P:=by
 refine ZDO ?_;unfold arR at q;symm;cases d with
 |tuple ds =>
  have hl:ds.length<=1000:=hl;have q:P (.dat (.bool (ds.all cnt && ris ds))) g:=q;refine bT ?_;symm;refine⟨hl,?_⟩;refine Zs id (λx=>.bool (cnt x)) ds (List.map_id _).symm trivial (λx hx=>⟨_,by rw[ZN],?_⟩) ?_
  ·symm
   refine ZHP ?_;exact⟨rfl,rfl⟩
  symm;refine ZKN ?_;symm;cases h:ds.all cnt with
  |false =>
   rw[h,Bool.false_and] at q;refine bF ?_;symm;exact q
  |true =>
   rw[h,Bool.true_and] at q;refine bT ?_;symm;refine ZHm hl (List.all_eq_true.mp h) ?_;symm;exact q
 |_=>exact⟨(λz=>by cases z),λ_=>(by symm;exact q)⟩
theorem ZEp:∀(ks:List Int),ks.Pairwise (· < ·)->ris (ks.map .int)=true
 |[],_=>rfl
 |[a],_=>rfl
 |a::c::r,h=>by
  rw[List.pairwise_cons] at h;have ih:=ZEp (c::r) h.2;unfold ris at ih ⊢;show(decide (a<c) && _)=true;rw[decide_eq_true (h.1 c (mem_cons_self ..)),Bool.true_and];exact ih
theorem ZHo{ks:List Int}(h:∀k∈ks,0<=k):(ks.map PyData.int).all cnt=true:=by
 rw[all_eq_true];intro x hx;obtain⟨k,hk,rfl⟩:=List.mem_map.mp hx;exact decide_eq_true (h k hk)
theorem ZBl{ks:List Int}{m:Int}(h:RisN ks m):arR (ZJ ks)=true:=by
 show(true && ((ks.map PyData.int).all cnt && ris (ks.map .int)))=true;rw[ZHo h.lo,ZEp ks h.up];rfl
theorem ZG0{fa le:List Int}{g:G}{P:W->G->Prop}(hl:fa.length<=1000)(h:∀k∈fa,k∉le)(q:P (.dat (.bool true)) g):EvP (Zd [.dat (ZJ fa),.dat (ZJ le)] g) P:=by
 refine ZBh ?_;symm;refine⟨by rw[length_map];exact hl,?_⟩;refine Zs PyData.int (λk=>.bool (!le.contains k)) fa rfl trivial (λk hk=>⟨_,by rw[ZN],?_⟩) ?_
 ·symm
  refine ZHu (by rw[ZED];rfl) ?_;rw[L2.any_ints];exact⟨rfl,rfl⟩
 symm;refine ZDK ?_;rw[List.all_eq_true.mpr λk hk=>by simp[h k hk]];symm;exact q
theorem ZB8{tn u:Int}{hs:List Hs}{ks:List Int}{g:G}{P:W->G->Prop}(hl:hs.length<=900)(h:HsN hs u ks)(q:P (.dat (.bool true)) g):EvP (ZQ [.dat (Zc tn hs),.dat (ZJ ks),.dat (.int u)] g) P:=by
 refine ZBS ?_;symm;refine⟨by rw[length_map];have:=h.pr.len (by omega);omega,?_⟩;refine Zs PyData.int (λk=>.bool true) ks rfl trivial (λk hk=>⟨_,by rw[ZN],?_⟩) ?_
 ·have h1:=h.pr.lo k hk
  have h2:=h.pr.hi k hk;have h3:=h.pu k hk;obtain⟨m,rfl⟩:∃m:Nat,k=(m:Int):=⟨k.toNat,by omega⟩;symm;rw[length_map,decide_eq_true h2];refine bT ?_;symm;refine ZEs (ZBn (a:=H0) (by omega)) ?_;symm;rw[toNat_natCast] at h3;rw[Zj,h3,decide_eq_true rfl];exact⟨rfl,rfl⟩
 symm;refine ZDK ?_;rw[List.all_eq_true.mpr λk hk=>rfl];symm;exact q
theorem ZGp{tn:Int}{hs:List Hs}{lo fa le co:List Int}{g:G}{P:W->G->Prop}(hl:hs.length<=900)(h:DoOk hs lo fa le co)(q:P (.dat (.bool true)) g):EvP (ZR [.dat (Zc tn hs),.dat (doD lo fa le co)] g) P:=by
 have hll:∀{ks:List Int} {m:Int},0<=m->m<=900->RisN ks m->ks.length<=1000:=λh0 h1 h2=>by have:=h2.len h0;omega
 refine ZBr ?_;symm;refine ZHZ (n:=4) ?_;symm;refine bT ?_;symm;refine⟨by show(4:Nat)<=1000;decide,?_⟩;refine Zs id (λx=>.bool (arR x)) [ZJ lo,ZJ fa,ZJ le,ZJ co] rfl trivial (λx hx=>⟨_,by rw[ZN],?_⟩) ?_
 ·symm
  refine ZCm ?_ ⟨rfl,rfl⟩;simp only[mem_cons,not_mem_nil,or_false] at hx;have hb:∀ks:List Int,(its (ZJ ks)).length=ks.length:=λks=>length_map ..
  rcases hx with rfl|rfl|rfl|rfl
  ·show(its (ZJ lo)).length<=1000;rw[hb];exact hll (m:=60) (by decide) (by decide) h.plo
  ·show(its (ZJ fa)).length<=1000;rw[hb];exact hll (by omega) (by omega) h.pfa.pr
  ·show(its (ZJ le)).length<=1000;rw[hb];exact hll (by omega) (by omega) h.ple.pr
  ·show(its (ZJ co)).length<=1000;rw[hb];exact hll (by omega) (by omega) h.pco.pr
 symm;rw[ZBl h.plo,ZBl h.pfa.pr,ZBl h.ple.pr,ZBl h.pco.pr];refine bF ?_;symm;refine ZG0 (hll (by omega) (by omega) h.pfa.pr) h.pap ?_;symm;refine bF ?_;symm;refine ZB8 hl h.pfa ?_;symm;refine bT ?_;symm;refine ZB8 hl h.ple ?_;symm;refine bT ?_;symm;refine ZB8 hl h.pco ?_;symm;exact q
theorem ZFN{α : Type}{src:Option Nat}{xs:List PyData}{pt:Pat}{db:DS}{P:Out->Prop}{g:G}{sd:Sd}(L:List α)(enc : α->PyData)(c : α->Bool)(I:Sd->Prop)(e:xs=L.map enc)(so:Zo src xs g)(h0:I sd)
  (h:∀a∈L,∀sd,I sd->∃sd1,ZN pt (.dat (enc a)) sd=some sd1/\∀Q:Out->Prop,(c a=true->∀sd',I sd'->Q (.nx sd' g))->(c a=false->Q (.rt (.dat (.bool false)) g))->EvS (db sd1 g) Q)
  (hn:L.all c=true->∀sd',I sd'->P (.nx sd' g))(hr:L.all c=false->P (.rt (.dat (.bool false)) g)):EvS (Zx src xs pt db xs sd g) P:=by
 have go:∀(M:List α) (sd:Sd),(∀a∈M,a∈L)->I sd->(M.all c=true->∀sd',I sd'->P (.nx sd' g))->(M.all c=false->P (.rt (.dat (.bool false)) g))->EvS (Zx src xs pt db (M.map enc) sd g) P:=by
  intro M
  induction M with
  |nil=>intro sd _ hi hn _;exact ZKp (hn rfl sd hi)
  |cons a M ih =>
   intro sd hm hi hn hr;obtain⟨sd1,e1,k⟩:=h a (hm a (mem_cons_self ..)) sd hi;rw[map_cons];refine ZIw e1 (k _ (λhc sd' hi'=>.nx so (ih sd' (λx hx=>hm x (mem_cons_of_mem _ hx)) hi' (λz=>hn ?_) λz=>hr ?_)) λhc=>.rt (hr ?_))
   ·rw[all_cons,hc,z];rfl
   ·rw[all_cons,hc,z];rfl
   ·rw[all_cons,hc];rfl
 have:=go L sd (λ_ h=>h) h0 hn hr;rw[←e] at this
 exact this
theorem ZKO{bs:List Bool}{g:G}{P:W->G->Prop}(q:P (.dat (.bool (bs.any id))) g):EvP (ZF8 (.dat (.list (bs.map .bool))) g) P:=by
 have e:ZAE (bs.map .bool)=some bs:=by
  clear q
  induction bs with
  |nil=>rfl
  |cons b bs ih=>rw[map_cons,ZAE,ih];rfl
 refine ZIH ?_ q;show ZIN (.dat (.list (bs.map .bool))) g=_;unfold ZIN;show(ZAE (bs.map .bool)).map _=_;rw[e];rfl
theorem ZLQ{α : Type}{L:List α}{c : α->Bool}{g:G}{P:W->G->Prop}(q:P (.dat (.bool (L.any c))) g):EvP (f1 ZF8 [.dat (.list (L.map λx=>.bool (c x)))] g) P:=by
 rw[show L.map (λx=>PyData.bool (c x))=(L.map c).map .bool by rw[map_map];rfl];exact ZKO (by rw[List.any_map];exact q)
def hsB(hs:List Hs)(u:Int)(ks:List Int):Bool:=ks.all λk=>decide (k<(hs.length:Int)) && decide ((hs.getD k.toNat H0).1=u)
theorem ZGN{fa le:List Int}{g:G}{P:W->G->Prop}(hl:fa.length<=1000)(q:P (.dat (.bool (fa.all λk=>!le.contains k))) g):EvP (Zd [.dat (ZJ fa),.dat (ZJ le)] g) P:=by
 refine ZBh ?_;symm;refine⟨by rw[length_map];exact hl,?_⟩;refine Zs PyData.int (λk=>.bool (!le.contains k)) fa rfl trivial (λk hk=>⟨_,by rw[ZN],?_⟩) ?_
 ·symm
  refine ZHu (by rw[ZED];rfl) ?_;rw[L2.any_ints];exact⟨rfl,rfl⟩
 symm;refine ZDK ?_;symm;exact q
theorem ZBY{tn u:Int}{hs:List Hs}{ks:List Int}{g:G}{P:W->G->Prop}(hk:ks.length<=1000)(h0:∀k∈ks,0<=k)(q:P (.dat (.bool (hsB hs u ks))) g):EvP (ZQ [.dat (Zc tn hs),.dat (ZJ ks),.dat (.int u)] g) P:=by
 refine ZBS ?_;symm;refine⟨by rw[length_map];exact hk,?_⟩;refine Zs PyData.int (λk=>.bool (decide (k<(hs.length:Int)) && decide ((hs.getD k.toNat H0).1=u))) ks rfl trivial (λk hk=>⟨_,by rw[ZN],?_⟩) ?_
 ·have h0:=h0 k hk
  obtain⟨m,rfl⟩:∃m:Nat,k=(m:Int):=⟨k.toNat,by omega⟩;rw[toNat_natCast];symm;rw[length_map];refine⟨λh2=>?_,λh2=>?_⟩
  ·symm
   refine ZEs (ZBn (a:=H0) (by have:=of_decide_eq_true h2;omega)) ?_;symm;rw[Zj,h2,Bool.true_and];exact⟨rfl,rfl⟩
  ·rw[h2,Bool.false_and]
   exact⟨rfl,rfl⟩
 symm;refine ZDK ?_;symm;exact q
def rsB(ks:List Int):Bool:=arR (ZJ ks)
theorem ZFD{ks:List Int}(h:rsB ks=true):∀k∈ks,0<=k:=λk hk=>by
 have h:(true && ((ks.map PyData.int).all cnt && ris (ks.map .int)))=true:=h;rw[Bool.true_and,Bool.and_eq_true] at h;exact of_decide_eq_true (List.all_eq_true.mp h.1 _ (List.mem_map.mpr ⟨k,hk,rfl⟩))
def ZDP(hs:List Hs)(p0 p1 p2 p3:List Int):Bool:=(rsB p0 && (rsB p1 && (rsB p2 && rsB p3))) && ((p1.all λk=>!p2.contains k) && (hsB hs 1 p1 && (hsB hs 1 p2 && hsB hs 0 p3)))
theorem ZEO{tn:Int}{hs:List Hs}{p0 p1 p2 p3:List Int}{g:G}{P:W->G->Prop}(hl:p0.length<=1000/\p1.length<=1000/\p2.length<=1000/\p3.length<=1000)(q:P (.dat (.bool (ZDP hs p0 p1 p2 p3))) g):EvP (ZR [.dat (Zc tn hs),.dat (doD p0 p1 p2 p3)] g) P:=by
 refine ZBr ?_;symm;refine ZHZ (n:=4) ?_;symm;refine bT ?_;symm;refine⟨by show(4:Nat)<=1000;decide,?_⟩;refine Zs id (λx=>.bool (arR x)) [ZJ p0,ZJ p1,ZJ p2,ZJ p3] rfl trivial (λx hx=>⟨_,by rw[ZN],?_⟩) ?_
 ·symm
  refine ZCm ?_ ⟨rfl,rfl⟩;simp only[mem_cons,not_mem_nil,or_false] at hx;have hb:∀ks:List Int,(its (ZJ ks)).length=ks.length:=λks=>length_map ..
  rcases hx with rfl|rfl|rfl|rfl
  ·show(its (ZJ p0)).length<=1000;rw[hb];exact hl.1
  ·show(its (ZJ p1)).length<=1000;rw[hb];exact hl.2.1
  ·show(its (ZJ p2)).length<=1000;rw[hb];exact hl.2.2.1
  ·show(its (ZJ p3)).length<=1000;rw[hb];exact hl.2.2.2
 symm;have ea:([arR (ZJ p0),arR (ZJ p1),arR (ZJ p2),arR (ZJ p3)].all id)=(rsB p0 && (rsB p1 && (rsB p2 && rsB p3))):=by
  show(arR (ZJ p0) && (arR (ZJ p1) && (arR (ZJ p2) && (arR (ZJ p3) && true))))=_;rw[Bool.and_true];rfl
 unfold ZDP at q;refine⟨λhr=>?_,λhr=>?_⟩
 ·have hr:(!([arR (ZJ p0),arR (ZJ p1),arR (ZJ p2),arR (ZJ p3)].all id))=true:=hr
  rw[ea,Bool.not_eq_true'] at hr;rw[hr] at q;symm;exact q
 have hr:(!([arR (ZJ p0),arR (ZJ p1),arR (ZJ p2),arR (ZJ p3)].all id))=false:=hr;rw[ea,Bool.not_eq_false'] at hr;rw[hr,Bool.true_and] at q;rw[Bool.and_eq_true,Bool.and_eq_true,Bool.and_eq_true] at hr;obtain⟨_,r1,r2,r3⟩:=hr;symm;refine ZGN hl.2.1 ?_;symm;refine⟨λha=>?_,λha=>?_⟩
 ·rw[Bool.not_eq_true'] at ha
  rw[ha] at q;symm;exact q
 rw[Bool.not_eq_false'] at ha;rw[ha,Bool.true_and] at q;symm;refine ZBY hl.2.1 (ZFD r1) ?_;symm;refine⟨λh1=>?_,λh1=>?_⟩
 ·rw[h1,Bool.true_and] at q
  symm;refine ZBY hl.2.2.1 (ZFD r2) ?_;symm;refine⟨λh2=>?_,λh2=>?_⟩
  ·rw[h2,Bool.true_and] at q
   symm;refine ZBY hl.2.2.2 (ZFD r3) ?_;symm;exact q
  ·rw[h2] at q
   exact ZD5 q
 ·rw[h1] at q
  exact ZD5 q
def upO(a:Nat):Int:=if a<3 then 1 else 0
def ZHI(hs:List Hs)(a:Nat)(k:Int):Bool:=!(decide (k<0) || (decide (0<a) && decide ((hs.length:Int)<=k))) && !(decide (0<a) && !decide ((hs.getD k.toNat H0).1=upO a))
def ZFP(hs:List Hs)(p:Nat×List Int):Bool:=(p.2.zip (p.2.drop 1)).all (λz=>decide (z.1<z.2)) && p.2.all (ZHI hs p.1)
def ZHy(hs:List Hs)(p0 p1 p2 p3:List Int):Bool:=([(0,p0),(1,p1),(2,p2),(3,p3)]:List (Nat×List Int)).all (ZFP hs) && !(p1.any λk=>p2.contains k)
theorem ZHe(ks:List Int):ZA4 (ks.map .int) ((ks.map PyData.int).drop 1)=(ks.zip (ks.drop 1)).map λz=>PyData.tuple [.int z.1,.int z.2]:=by
 rw[ZC4,←List.map_drop,zip_map,map_map];rfl
theorem ZHD{tn:Int}{hs:List Hs}{p0 p1 p2 p3:List Int}{g:G}{P:W->G->Prop}(hl:p1.length<=1000)(q:P (.dat (.bool (ZHy hs p0 p1 p2 p3))) g):EvP (Zm [.dat (Zc tn hs),.dat (doD p0 p1 p2 p3)] g) P:=by
 refine ZEg ?_;symm;refine ZFN ([(0,p0),(1,p1),(2,p2),(3,p3)]:List (Nat×List Int)) (λp=>PyData.tuple [.int (p.1:Int),ZJ p.2]) (ZFP hs) (λsd=>∃z3 z4 z5 z6,sd=[some (.dat (Zc tn hs)),some (.dat (doD p0 p1 p2 p3)),some (.dat (.tuple (hs.map ZBD))),z3,z4,z5,z6]) rfl trivial ⟨_,_,_,_,rfl⟩ ?_ ?_ ?_
 ·rintro ⟨a,ks⟩ _ sd ⟨z3,z4,z5,z6,rfl⟩
  refine⟨_,rfl,λQ hn hr=>?_⟩;unfold ZFP at hn hr;dsimp only at hn hr;symm;rw[ZLo];refine⟨_,_,rfl,?_⟩;rw[ZHe];refine ZFN (ks.zip (ks.drop 1)) (λz=>PyData.tuple [.int z.1,.int z.2]) (λz=>decide (z.1<z.2)) (λsd=>∃z5 z6,sd=[some (.dat (Zc tn hs)),some (.dat (doD p0 p1 p2 p3)),some (.dat (.tuple (hs.map ZBD))),some (.dat (.int (a:Int))),some (.dat (ZJ ks)),z5,z6]) rfl trivial ⟨_,_,rfl⟩ ?_ ?_ ?_
  ·rintro ⟨x,y⟩ _ sd ⟨z5,z6,rfl⟩
   refine⟨_,rfl,λQ hn hr=>?_⟩;dsimp only at hn hr;symm;refine⟨λh=>?_,λh=>?_⟩
   ·have h:=of_decide_eq_true h
    symm;exact hr (decide_eq_false (by omega))
   ·have h:=of_decide_eq_false h
    symm;exact hn (decide_eq_true (by omega)) _ ⟨_,_,rfl⟩
  ·rintro hz sd ⟨z5,z6,rfl⟩
   rw[hz,Bool.true_and] at hn hr;symm;refine ZFN ks PyData.int (ZHI hs a) (λsd=>∃z5 z6,sd=[some (.dat (Zc tn hs)),some (.dat (doD p0 p1 p2 p3)),some (.dat (.tuple (hs.map ZBD))),some (.dat (.int (a:Int))),some (.dat (ZJ ks)),z5,z6]) rfl trivial ⟨_,_,rfl⟩ ?_ ?_ ?_
   ·rintro k _ sd ⟨z5,z6,rfl⟩
    refine⟨_,rfl,λQ hn hr=>?_⟩;unfold ZHI at hn hr;have ea:decide ((a:Int) > 0)=decide (0<a):=decide_eq_decide.mpr (by omega);have second : ¬k<0->(0<a->k<hs.length)->EvS ((ZAR (ZBq (dB (dOp ZGd (ZB 3) (dC (.int 0)))) (dB (dOp ZGV (dOp ZS (dOp ZS (ZB 2) (ZB 5)) (dC (.int 0))) (dF (f1 ZEC) (ZA (dOp ZD2 (ZB 3) (dC (.int 3))) ZD))))) (ZO (dC (.bool false))) dNx) [some (.dat (Zc tn hs)),some (.dat (doD p0 p1 p2 p3)),some (.dat (.tuple (hs.map ZBD))),some (.dat (.int (a:Int))),some (.dat (ZJ ks)),some (.dat (.int k)),z6] g) Q:=λh1 h2=>by
     have e1:(!(decide (k<0) || (decide (0<a) && decide ((hs.length:Int)<=k))))=true:=by
      rw[decide_eq_false h1,Bool.false_or]
      by_cases ha : 0<a
      ·rw[decide_eq_false (by have:=h2 ha;omega : ¬(hs.length:Int)<=k),Bool.and_false];rfl
      ·rw[decide_eq_false ha,Bool.false_and];rfl
     rw[e1,Bool.true_and] at hn hr;symm;rw[ea];refine⟨λha=>?_,λha=>?_⟩
     ·have ha':=of_decide_eq_true ha
      have hk:=h2 ha';rw[ha,Bool.true_and] at hn hr;obtain⟨m,rfl⟩:∃m:Nat,k=(m:Int):=⟨k.toNat,by omega⟩;rw[toNat_natCast] at hn hr;symm;refine ZEs (ZBn (a:=H0) (by omega)) ?_;symm;rw[show(if decide ((a:Int)<3)=true then (1:Int) else 0)=upO a by
       unfold upO
       by_cases h3:a<3
       ·rw[if_pos (decide_eq_true (by omega)),if_pos h3]
       ·rw[if_neg (by rw[decide_eq_false (by omega)];exact Bool.false_ne_true),if_neg h3]]
      rw[Zj];refine⟨λh=>?_,λh=>?_⟩
      ·symm
       exact hr (by rw[show(!decide ((hs.getD m H0).1=upO a))=true from h];rfl)
      ·symm
       exact hn (by rw[show(!decide ((hs.getD m H0).1=upO a))=false from h];rfl) _ ⟨_,_,rfl⟩
     ·rw[ha,Bool.false_and] at hn hr
      refine bF ?_;symm;exact hn rfl _ ⟨_,_,rfl⟩
    symm;refine⟨λh1=>?_,λh1=>?_⟩
    ·have h1':decide (k<0)=true:=h1
     rw[h1',Bool.true_or] at hr;refine bT ?_;symm;exact hr rfl
    ·have h1':=of_decide_eq_false h1
     symm;rw[ea];refine⟨λha=>?_,λha=>?_⟩
     ·have ha':=of_decide_eq_true ha
      symm;rw[length_map];refine⟨λh2=>?_,λh2=>?_⟩
      ·have h2:=of_decide_eq_true h2
       symm;exact hr (by rw[ha,decide_eq_true (by omega:(hs.length:Int)<=k),Bool.true_and,Bool.or_true];rfl)
      ·have h2:=of_decide_eq_false h2
       exact ZKd (.nx (second h1' (λ_=>by omega)))
     ·have ha':=of_decide_eq_false ha
      refine bF ?_;exact ZKd (.nx (second h1' (λz=>absurd z ha')))
   ·rintro h sd ⟨z5,z6,rfl⟩
    exact hn h _ ⟨_,_,_,_,rfl⟩
   ·intro h
    exact hr h
  ·intro hz
   rw[hz] at hr;exact ZFX (hr rfl)
 ·rintro h sd ⟨z3,z4,z5,z6,rfl⟩
  unfold ZHy at q;rw[h,Bool.true_and] at q;symm;refine⟨by rw[length_map];exact hl,?_⟩;refine Zs PyData.int (λk=>.bool (p2.contains k)) p1 rfl trivial (λk hk=>⟨_,by rw[ZN],?_⟩) ?_
  ·symm
   refine y_inT (by rw[ZED];rfl) ?_;rw[L2.any_ints];exact⟨rfl,rfl⟩
  symm;refine ZLQ ?_;symm;exact q
 ·intro h
  unfold ZHy at q;rw[h] at q;exact ZFX (ZD5 q)
theorem ZEm{α : Type}(f h : α->Bool):∀L:List α,(L.all λx=>f x && h x)=(L.all f && L.all h)
 |[]=>rfl
 |x::L=>by
  rw[all_cons,all_cons,all_cons,ZEm f h L]
  generalize f x=a
  generalize h x=b
  generalize L.all f=c
  generalize L.all h=d
  revert a b c d
  decide
theorem ZHM(ks:List Int):rsB ks=((ks.zip (ks.drop 1)).all (λz=>decide (z.1<z.2)) && ks.all λk=>decide (0<=k)):=by
 have h1:rsB ks=(true && ((ks.map PyData.int).all cnt && ris (ks.map .int))):=rfl;have h2:(ks.map PyData.int).all cnt=ks.all λk=>decide (0<=k):=by rw[all_map];rfl
 have h3:ris (ks.map .int)=(ks.zip (ks.drop 1)).all λz=>decide (z.1<z.2):=by
  unfold ris;rw[←List.map_drop,zip_map,all_map];rfl
 rw[h1,h2,h3,Bool.true_and,Bool.and_comm]
theorem ZLG(hs:List Hs)(ks:List Int):ZFP hs (0,ks)=rsB ks:=by
 rw[ZHM];unfold ZFP;dsimp only
 congr 1
 congr 1
 funext k
 unfold ZHI;rw[show decide (0<0)=false from rfl,Bool.false_and,Bool.false_and,Bool.or_false,Bool.not_false,Bool.and_true,←decide_not];exact decide_eq_decide.mpr (by omega)
theorem ZFE(hs:List Hs)(a:Nat)(ha : 0<a)(ks:List Int):ZFP hs (a,ks)=(rsB ks && hsB hs (upO a) ks):=by
 rw[ZHM,Bool.and_assoc];unfold ZFP hsB;dsimp only;rw[←ZEm]
 congr 1
 congr 1
 funext k
 unfold ZHI;rw[decide_eq_true ha,Bool.true_and,Bool.true_and,Bool.not_not,Bool.not_or,←decide_not,←decide_not,Bool.and_assoc,show decide (¬k<0)=decide (0<=k) from decide_eq_decide.mpr (by omega),show decide (¬(hs.length:Int)<=k)=decide (k<(hs.length:Int)) from decide_eq_decide.mpr (by omega)]
theorem ZFo{hs:List Hs}{p0 p1 p2 p3:List Int}:ZHy hs p0 p1 p2 p3=ZDP hs p0 p1 p2 p3:=by
 unfold ZHy ZDP;rw[all_cons,all_cons,all_cons,all_cons,List.all_nil,ZLG,ZFE _ 1 (by decide),ZFE _ 2 (by decide),ZFE _ 3 (by decide),List.not_any_eq_all_not,show upO 1=1 from rfl,show upO 2=1 from rfl,show upO 3=0 from rfl]
 generalize (p1.all λk=>!p2.contains k)=e
 generalize rsB p0=a
 generalize rsB p1=b
 generalize rsB p2=c
 generalize rsB p3=d
 generalize hsB hs 1 p1=f
 generalize hsB hs 1 p2=h
 generalize hsB hs 0 p3=i
 revert a b c d e f h i
 decide
theorem ZE5{tn:Int}{hs:List Hs}{p0 p1 p2 p3:List Int}{g:G}{P:W->G->Prop}(hl:p0.length<=1000/\p1.length<=1000/\p2.length<=1000/\p3.length<=1000)(q:P (.dat (.bool true)) g):EvP (ZY [.dat (Zc tn hs),.dat (doD p0 p1 p2 p3)] g) P:=by
 refine ZDS ?_;symm;refine ZEO hl ?_;symm;rw[show isi (ZIn (PyData.bool (ZDP hs p0 p1 p2 p3))) "bool" = true from rfl];refine bT ?_;symm;refine ZHD hl.2.1 ?_;symm;rw[ZFo,show(PyData.bool (ZDP hs p0 p1 p2 p3)).eqv (.bool (ZDP hs p0 p1 p2 p3))=true by cases ZDP hs p0 p1 p2 p3 <;> rfl];exact q
theorem ZFO{α : Type}{g:List α}{n:Nat}{c : α}(h:g[n]? = some c):n<g.length:=(List.getElem?_eq_some_iff.mp h).1
theorem ZDj{α : Type}{l:List α}{d : α}{i:Nat}(h:i<l.length):l.getD i d∈l:=by
 rw[getD_eq_getElem?_getD,getElem?_eq_getElem h];exact getElem_mem h
theorem ZE4{n0 j:Nat}(h:j<4):([.ref n0,.ref (n0+1),.ref (n0+2),.ref (n0+3)]:List W)[j]? = some (.ref (n0+j)):=by
 have:j=0∨j=1∨j=2∨j=3:=by omega
 rcases this with rfl|rfl|rfl|rfl <;> rfl
theorem ix4{j:Nat}(h:j<4):ixN 4 (j:Int)=some j:=by
 unfold ixN;rw[if_pos (by omega),if_pos (by omega),toNat_natCast]
theorem ZKs{α : Type}{l:List α}(h:l.length=4):∃a b c d,l=[a,b,c,d]:=by
 match l,h with
 |[a,b,c,d],_=>exact⟨a,b,c,d,rfl⟩
theorem ZJN{n:Nat}{xs ys:List PyData}{g:G}{P:W->G->Prop}(hn:g[n]? = some (.pl xs))(h:xs.length+ys.length<=1000)(q:P (.dat (.list (xs++ys))) g):EvP (ZAH (.ref n) (.dat (.list ys)) g) P:=by
 refine ZIH ?_ q;show((lk g n).bind λxs=>(some ys).bind λys=>if xs.length+ys.length<=1000 then some (W.dat (.list (xs++ys)),g) else none)=_;rw[ZCy hn];exact if_pos h
theorem ZK7{ns:List Int}{g:G}{P:W->G->Prop}(hl:ns.length<64)(q:P (.dat (.list ((ZDA ns).map .int))) g):EvP (f1 ZGt [.dat (.list (ns.map .int))] g) P:=by
 refine ZIH ?_ q;show ZGt (.dat (.list (ns.map .int))) g=_;unfold ZGt;show(match ZAi (ns.map .int) with|some ns=>if ns.length<64 then some (W.dat (.list ((ZDA ns).map .int)),g) else none|none=>_)=_;rw[ZFf];exact if_pos hl
theorem ZGQ{ns:List Int}:(ZDA ns).length=ns.length:=by unfold ZDA;exact List.length_mergeSort ..
theorem ZCd{w:W}{ds:List PyData}{g:G}{P:W->G->Prop}(h:Zb w g=some ds)(hw:(∃m,w=.ref m)∨∃ds,w=.dat (.list ds))(q:P (.dat (.tuple ds)) g):EvP (f1 ZAk [w] g) P:=by
 rcases hw with ⟨m,rfl⟩|⟨es,rfl⟩
 ·exact⟨_,_,by show Option.map _ (Zb (.ref m) g)=_;rw[h];rfl,q⟩
 ·cases h
  exact⟨_,_,rfl,q⟩
theorem ZG8{b:Nat}{tn:Int}{hs:List Hs}{p0 p1 p2 p3:List Int}{g:G}{P:W->G->Prop}(hb:Bx g b)(hn:hs.length<=8)(hl:∀ks∈[p0,p1,p2,p3],ks.length<=60)(q:∀r0 r1 r2 r3 g',(r0.length<=1000/\r1.length<=1000/\r2.length<=1000/\r3.length<=1000)->Dr b g g'->P (.dat (doD r0 r1 r2 r3)) g'):EvP (Zi [.ref b,.dat (Zc tn hs),.dat (doD p0 p1 p2 p3)] g) P:=by
 have hbl:=hb.lt
 generalize hps:[p0,p1,p2,p3]=ps at hl
 have l4:ps.length=4:=by rw[←hps];rfl
 have fin:∀(gx:G) (ws:List W) (Q:List (List Int)) (z4 z5 z6 z7 z8:Option W),gx[g.length+4]? = some (.rl ws)->ws.length=4->Q.length=4->(∀ks∈Q,ks.length<=1000)->(∀j,j<4->∃w,ws[j]? = some w/\Zb w gx=some ((Q.getD j []).map .int)/\((∃m,w=.ref m)∨∃ds,w=.dat (.list ds)))->Dr b g gx->EvS ((ZO (dF (f1 ZAk) (ZA (ZAp 1 [] (.nm 0) (iRl (ZB 3)) ZAA (dF (f1 ZAk) (ZA (ZB 0) ZD))) ZD))) [some (.ref b),some (.dat (Zc tn hs)),some (.dat (doD p0 p1 p2 p3)),some (.ref (g.length+4)),z4,z5,z6,z7,z8] gx) (runP P):=λgx ws Q z4 z5 z6 z7 z8 cr lw lQ hQ hw D=>by
  obtain⟨w0,w1,w2,w3,rfl⟩:=ZKs lw;obtain⟨q0,q1,q2,q3,rfl⟩:=ZKs lQ;obtain⟨_,e0,a0,b0⟩:=hw 0 (by decide);obtain⟨_,e1,a1,b1⟩:=hw 1 (by decide);obtain⟨_,e2,a2,b2⟩:=hw 2 (by decide);obtain⟨_,e3,a3,b3⟩:=hw 3 (by decide);cases e0;cases e1;cases e2;cases e3;symm;refine ZJF ?_;symm;refine⟨_,cr,by show 4<=1000;decide,?_⟩;refine ZBs rfl ?_;symm;refine ZCd a0 b0 ⟨_,rfl,cr,?_⟩;refine ZBs rfl ?_;symm;refine ZCd a1 b1 ⟨_,rfl,cr,?_⟩;refine ZBs rfl ?_;symm;refine ZCd a2 b2 ⟨_,rfl,cr,?_⟩;refine ZBs rfl ?_;symm;refine ZCd a3 b3 ⟨_,rfl,cr,?_⟩;refine ZIS ?_;symm;exact q q0 q1 q2 q3 gx ⟨hQ _ (by simp),hQ _ (by simp),hQ _ (by simp),hQ _ (by simp)⟩ D
 refine ZDN ?_;refine ZJp (ZJn (ZJU ?_));symm;refine⟨by show 4<=1000;decide,?_⟩;refine ZB1 rfl ?_;symm;refine⟨trivial,ZB1 rfl ?_⟩;symm;refine⟨trivial,ZB1 rfl ?_⟩;symm;refine⟨trivial,ZB1 rfl ?_⟩;symm;refine⟨trivial,ZIJ ?_⟩;have D0:Dr b g (g++[Cell.pl (p0.map .int)]++[Cell.pl (p1.map .int)]++[Cell.pl (p2.map .int)]++[Cell.pl (p3.map .int)]++[Cell.rl [.ref g.length,.ref (g.length+1),.ref (g.length+2),.ref (g.length+3)]]):=(((((Dr.refl hb).app).app).app).app).app;have c0:∀j,j<4->(g++[Cell.pl (p0.map .int)]++[Cell.pl (p1.map .int)]++[Cell.pl (p2.map .int)]++[Cell.pl (p3.map .int)]++[Cell.rl [.ref g.length,.ref (g.length+1),.ref (g.length+2),.ref (g.length+3)]])[g.length+j]? = some (.pl ((ps.getD j []).map .int)):=λj hj=>by
  subst hps;have:j=0∨j=1∨j=2∨j=3:=by omega
  rcases this with rfl|rfl|rfl|rfl <;> simp
 have r0:(g++[Cell.pl (p0.map .int)]++[Cell.pl (p1.map .int)]++[Cell.pl (p2.map .int)]++[Cell.pl (p3.map .int)]++[Cell.rl [.ref g.length,.ref (g.length+1),.ref (g.length+2),.ref (g.length+3)]])[g.length+4]? = some (.rl [.ref g.length,.ref (g.length+1),.ref (g.length+2),.ref (g.length+3)]):=by simp
 have lx:(g++[Cell.pl (p0.map .int)]++[Cell.pl (p1.map .int)]++[Cell.pl (p2.map .int)]++[Cell.pl (p3.map .int)]).length=g.length+4:=by simp
 rw[show(g++[Cell.pl (p0.map .int)]).length=g.length+1 by simp,show(g++[Cell.pl (p0.map .int)]++[Cell.pl (p1.map .int)]).length=g.length+2 by simp,show(g++[Cell.pl (p0.map .int)]++[Cell.pl (p1.map .int)]++[Cell.pl (p2.map .int)]).length=g.length+3 by simp];rw[lx]
 generalize (g++[Cell.pl (p0.map .int)]++[Cell.pl (p1.map .int)]++[Cell.pl (p2.map .int)]++[Cell.pl (p3.map .int)]++[Cell.rl [.ref g.length,.ref (g.length+1),.ref (g.length+2),.ref (g.length+3)]])=ga at *
 symm;rw[length_map];symm;refine ZG D0.bx (by decide) (by decide) λat_ g1 l1 u1 D1=>?_
 obtain⟨i,rfl⟩:∃i:Nat,at_=(i:Int):=⟨at_.toNat,by omega⟩;have hi:i<4:=by omega
 symm;refine ZG D1.bx (by omega) (by omega) λh1 g2 l2 u2 D2=>?_
 symm;refine ZG D2.bx (by decide) (by decide) λh2 g3 l3 u3 D3=>?_
 symm;dsimp only
 generalize h1-(if (PyData.int h2).eqv (.int 0)=true then (1:Int) else 0)=h
 refine ZG D3.bx (by decide) (by decide) λway g4 l4' u4 D4=>?_
 have D14:=D1.trans (D2.trans (D3.trans D4));have D04:=D0.trans D14;have kp:∀j,j<5->g4[g.length+j]? = ga[g.length+j]?:=λj hj=>D14.kp _ (by have:=ZFO r0;omega) (by omega)
 have c4:∀j,j<4->g4[g.length+j]? = some (.pl ((ps.getD j []).map .int)):=λj hj=>by rw[kp j (by omega)];exact c0 j hj
 have r4:g4[g.length+4]? = some (.rl [.ref g.length,.ref (g.length+1),.ref (g.length+2),.ref (g.length+3)]):=by rw[kp 4 (by omega)];exact r0
 have pl:∀j,j<4->(ps.getD j []).length<=60:=λj hj=>hl _ (ZDj (by omega))
 have hg4:=ZFO r4;symm;rw[Zj];refine⟨λ_=>?_,λ_=>?_⟩
 ·symm
  refine ZCe r4 (ZAT (ZE4 hi)) ?_;symm;refine⟨ZFB (c4 i hi),?_⟩;symm;refine⟨_,c4 i hi,by rw[length_map];have:=pl i hi;omega,?_⟩;refine ZCD (fin (g4.set (g.length+i) (.pl ((ps.getD i []).map PyData.int++[PyData.int h]))) [.ref g.length,.ref (g.length+1),.ref (g.length+2),.ref (g.length+3)] (ps.set i (ps.getD i []++[h])) _ _ _ _ _ (by rw[getElem?_set_ne (by omega)];exact r4) rfl (by rw[length_set];exact l4) (λks hk=>?_) (λj hj=>⟨_,ZE4 hj,?_,.inl ⟨_,rfl⟩⟩) (D04.put hbl (by omega)))
  ·rcases List.mem_or_eq_of_mem_set hk with hk|rfl
   ·have:=hl ks hk;omega
   ·rw[length_append];have:=pl i hi;show _+1<=1000;omega
  ·show lk (g4.set _ _) _=_
   by_cases e:i=j
   ·subst e
    rw[ZCy (Zg (by omega)),getD_eq_getElem?_getD (l:=ps.set _ _),getElem?_set_self (by omega)];show some _=some (List.map _ (ps.getD i []++[h]));rw[map_append];rfl
   ·rw[ZCy (by rw[getElem?_set_ne (by omega)];exact c4 j hj),getD_eq_getElem?_getD (l:=ps.set _ _),getElem?_set_ne e,←getD_eq_getElem?_getD]
 have sto:∀(L:List Int) (z4 z5 z6 z7 z8:Option W),L.length<=1000->EvS ((ZO (dF (f1 ZAk) (ZA (ZAp 1 [] (.nm 0) (iRl (ZB 3)) ZAA (dF (f1 ZAk) (ZA (ZB 0) ZD))) ZD))) [some (.ref b),some (.dat (Zc tn hs)),some (.dat (doD p0 p1 p2 p3)),some (.ref (g.length+4)),z4,z5,z6,z7,z8] (g4.set (g.length+4) (.rl (([.ref g.length,.ref (g.length+1),.ref (g.length+2),.ref (g.length+3)]:List W).set i (.dat (.list (L.map .int))))))) (runP P):=λL z4 z5 z6 z7 z8 hL=>by
  refine fin _ _ (ps.set i L) _ _ _ _ _ (Zg (by omega)) (by rw[length_set];rfl) (by rw[length_set];exact l4) (λks hk=>?_) (λj hj=>?_) (D04.put hbl (by omega))
  ·rcases List.mem_or_eq_of_mem_set hk with hk|rfl
   ·have:=hl ks hk;omega
   ·exact hL
  ·by_cases e:i=j
   ·subst e
    refine⟨_,getElem?_set_self hi,?_,.inr ⟨_,rfl⟩⟩;rw[getD_eq_getElem?_getD (l:=ps.set _ _),getElem?_set_self (by omega)];rfl
   ·refine⟨_,by rw[getElem?_set_ne e];exact ZE4 hj,?_,.inl ⟨_,rfl⟩⟩
    show lk (g4.set _ _) _=_;rw[ZCy (by rw[getElem?_set_ne (by omega)];exact c4 j hj),getD_eq_getElem?_getD (l:=ps.set _ _),getElem?_set_ne e,←getD_eq_getElem?_getD]
 symm;rw[Zj];refine⟨λ_=>?_,λ_=>?_⟩
 ·refine ZH2 ?_
  symm;refine ZCe r4 (ZAT (ZE4 hi)) ?_;symm;have hp:=pl i hi;refine ZJN (ys:=[.int h]) (c4 i hi) (by rw[length_map];show _+1<=1000;omega) ?_;symm;rw[show(ps.getD i []).map PyData.int++[.int h]=(ps.getD i []++[h]).map .int by simp];refine ZK7 (by rw[length_append];show _+1<64;omega) ?_;symm;refine⟨_,r4,i,ix4 hi,?_⟩;exact ZCD (sto (ZDA (ps.getD i []++[h])) _ _ _ _ _ (by rw[ZGQ,length_append];show _+1<=1000;omega))
 symm;rw[Zj];refine⟨λ_=>?_,λ_=>?_⟩
 ·refine ZH2 ?_
  refine x_rl ?_;symm;refine ZCe r4 (ZAT (ZE4 hi)) ?_;refine⟨_,ZCy (c4 i hi),?_⟩;symm;refine⟨_,r4,i,ix4 hi,?_⟩;rw[←List.map_reverse];exact ZCD (sto (ps.getD i []).reverse _ _ _ _ _ (by rw[List.length_reverse];have:=pl i hi;omega))
 symm;refine ZG D04.bx (by decide) (by decide) λot g5 l5 u5 D5=>?_
 obtain⟨o,rfl⟩:∃o:Nat,ot=(o:Int):=⟨ot.toNat,by omega⟩;have ho:o<4:=by omega
 have c5:∀j,j<4->g5[g.length+j]? = some (.pl ((ps.getD j []).map .int)):=λj hj=>by rw[D5.kp _ (by omega) (by omega)];exact c4 j hj
 have r5:g5[g.length+4]? = some (.rl [.ref g.length,.ref (g.length+1),.ref (g.length+2),.ref (g.length+3)]):=by rw[D5.kp _ (by omega) (by omega)];exact r4
 have D05:=D04.trans D5;have hg5:=ZFO r5;refine ZCD (x_swp ?_);symm;refine ZCe r5 (ZAT (ZE4 ho)) ?_;symm;refine ZCe r5 (ZAT (ZE4 hi)) ?_;symm;refine⟨_,_,rfl,_,ZF4 r5 (ix4 hi),_,ZF4 (Zg hg5) (by rw[length_set];exact ix4 ho),?_⟩;rw[set_set];refine ZCD (fin _ _ ((ps.set i (ps.getD o [])).set o (ps.getD i [])) _ _ _ _ _ (Zg hg5) (by rw[length_set,length_set];rfl) (by rw[length_set,length_set];exact l4) (λks hk=>?_) (λj hj=>?_) (D05.put hbl (by omega)))
 ·rcases List.mem_or_eq_of_mem_set hk with hk|rfl
  ·rcases List.mem_or_eq_of_mem_set hk with hk|rfl
   ·have:=hl ks hk;omega
   ·have:=pl o ho;omega
  ·have:=pl i hi;omega
 ·have look:∀m,m<4->Zb (.ref (g.length+m)) (g5.set (g.length+4) (.rl ((([.ref g.length,.ref (g.length+1),.ref (g.length+2),.ref (g.length+3)]:List W).set i (.ref (g.length+o))).set o (.ref (g.length+i)))))=some ((ps.getD m []).map .int):=λm hm=>ZCy (by rw[getElem?_set_ne (by omega)];exact c5 m hm)
  by_cases e:o=j
  ·subst e
   refine⟨_,getElem?_set_self (by rw[length_set];exact ho),?_,.inl ⟨_,rfl⟩⟩;rw[look i hi,getD_eq_getElem?_getD (l:=List.set _ _ _),getElem?_set_self (by rw[length_set];omega)];rfl
  ·by_cases e2:i=j
   ·subst e2
    refine⟨_,by rw[getElem?_set_ne e];exact getElem?_set_self hi,?_,.inl ⟨_,rfl⟩⟩;rw[look o ho,getD_eq_getElem?_getD (l:=List.set _ _ _),getElem?_set_ne e,getElem?_set_self (by omega)];rfl
   ·refine⟨_,by rw[getElem?_set_ne e,getElem?_set_ne e2];exact ZE4 hj,?_,.inl ⟨_,rfl⟩⟩
    rw[look j hj,getD_eq_getElem?_getD (l:=List.set _ _ _),getElem?_set_ne e,getElem?_set_ne e2,←getD_eq_getElem?_getD]
theorem ZJG{ds:List PyData}(lo hi:Option Int):(ZBe ds lo hi).length<=ds.length:=by
 unfold ZBe;rw[length_take,length_drop];omega
theorem ZJ3{hs:List Hs}{lo fa le co:List Int}(hn:hs.length<=8)(h:DoOk hs lo fa le co):∀ks∈[lo,fa,le,co],ks.length<=60:=λks hk=>by
 have h0:=h.plo.len (by decide);have h1:=h.pfa.pr.len (by omega);have h2:=h.ple.pr.len (by omega);have h3:=h.pco.pr.len (by omega);simp only[mem_cons,not_mem_nil,or_false] at hk;rcases hk with rfl|rfl|rfl|rfl <;> omega
theorem ZJY{tn:Int}{hs:List Hs}{lo fa le co:List Int}(hn:hs.length<=8)(h:DoOk hs lo fa le co):ZDP hs lo fa le co=true:=by
 have hl:=ZJ3 hn h;have h1:EvP (ZR [.dat (Zc tn hs),.dat (doD lo fa le co)] []) λx _=>x=.dat (.bool true):=ZGp (by omega) h rfl
 have h2:EvP (ZR [.dat (Zc tn hs),.dat (doD lo fa le co)] []) λx _=>x=.dat (.bool (ZDP hs lo fa le co)):=ZEO ⟨by have:=hl lo (by simp);omega,by have:=hl fa (by simp);omega,by have:=hl le (by simp);omega,by have:=hl co (by simp);omega⟩ rfl
 obtain⟨x,g1,e1,rfl⟩:=h1;obtain⟨y,g2,e2,rfl⟩:=h2;rw[e1] at e2;injection e2 with e2
 injection e2 with e2 _
 injection e2 with e2
 injection e2 with e2
 exact e2.symm
theorem ZK6{ns:List Int}(hns:ns.length<=63):∃g',ZDD [.inp ns] []=some (.dat (.bool true),g'):=by
 suffices h:EvP (ZDD [.inp ns] []) λx _=>x=.dat (.bool true) by
  obtain⟨x,g',e,rfl⟩:=h;exact⟨g',e⟩
 refine ZJ9 ?_;symm;refine ZAI (j:=0) (g1:=[]) ?_;symm;have hm : 0<=(1:Int)+(ZBe (ns.map PyData.int) none (some 30)).length/\(1:Int)+(ZBe (ns.map PyData.int) none (some 30)).length<=64:=by
  have:=ZJG (ds:=ns.map PyData.int) none (some 30);rw[length_map] at this
  omega
 generalize (1:Int)+(ZBe (ns.map PyData.int) none (some 30)).length=len at *
 refine⟨by omega,?_⟩;refine ZBK (λn sd gx=>∃z1 z2 z3 z4 z5 z6 z7 z8,sd=[some (.inp ns),z1,z2,z3,z4,z5,z6,z7,z8]) ⟨_,_,_,_,_,_,_,_,rfl⟩ ?_ ?_
 ·rintro n x sd g0 hx ⟨z1,z2,z3,z4,z5,z6,z7,z8,rfl⟩
  have hn:n<64:=by
   have:=(List.getElem?_eq_some_iff.mp hx).1;rw[Z1] at this
   omega
  rw[ZBm,getElem?_map] at hx;obtain⟨k,hk,rfl⟩:=mp hx;obtain⟨hk1,hk2⟩:=List.getElem?_eq_some_iff.mp hk;rw[getElem_range] at hk2;subst hk2;refine⟨_,rfl,?_⟩;symm
  generalize hb:List.length g0=b
  refine ZLZ (by omega) λg1 hl1 hg1 B1=>?_
  rw[hb] at B1;rw[hb];symm;refine ZG3 B1 λr g2 hr hcs _ D2=>?_
  symm;refine ZI5 D2.bx (by decide) λts g3 ht2 ht8 htc D3=>?_
  symm;refine ZHw D3.bx hr ⟨ht2,by omega⟩ λtn hs g4 hhl htn0 htn hhv D4=>?_
  have h8:hs.length<=8:=by omega
  symm;refine ZGc D4.bx (by omega) λlo fa le co g5 hd D5=>?_
  have hl:=ZJ3 h8 hd;have hll:lo.length<=1000/\fa.length<=1000/\le.length<=1000/\co.length<=1000:=⟨by have:=hl lo (by simp);omega,by have:=hl fa (by simp);omega,by have:=hl le (by simp);omega,by have:=hl co (by simp);omega⟩;have h1:=ZJY (tn:=tn) h8 hd;symm;refine ZEO hll ?_;rw[h1];symm;refine⟨λz=>(by cases z),λ_=>?_⟩;symm;refine ZHD hll.2.1 ?_;rw[ZFo,h1];symm;refine⟨λz=>(by cases z),λ_=>?_⟩;symm;refine ZBK (λj sd gy=>∃z6 z7 z8,Bx gy b/\sd=[some (.inp ns),some (.dat (.int (n:Int))),some (.ref b),some (.dat (ruD r)),some (.dat (Zc tn hs)),some (.dat (doD lo fa le co)),z6,z7,z8]) ⟨_,_,_,D5.bx,rfl⟩ ?_ ?_
  ·rintro j y sd gy hy ⟨z6,z7,z8,By,rfl⟩
   refine⟨_,rfl,?_⟩;symm;refine ZG8 By h8 hl λr0 r1 r2 r3 g6 hr6 D6=>?_
   symm;refine ZE5 hr6 ?_;symm;refine⟨λz=>(by cases z),λ_=>?_⟩;symm;exact⟨trivial,_,_,_,D6.bx,rfl⟩
  ·rintro sd gy ⟨z6,z7,z8,By,rfl⟩
   symm;rw[length_map];refine⟨by omega,?_⟩;rw[toNat_natCast,show ZAK hs.length 0=((List.range hs.length).map λi:Nat=>(i:Int)).map PyData.int by rw[ZBm,map_map];rfl];have le8:((List.range hs.length).map λi:Nat=>(i:Int)).length<=1000:=by rw[length_map,length_range];omega
   generalize ((List.range hs.length).map λi:Nat=>(i:Int))=E at *
   symm;refine ZBK (λj sd gy=>∃z8,sd=[some (.inp ns),some (.dat (.int (n:Int))),some (.ref b),some (.dat (ruD r)),some (.dat (Zc tn hs)),some (.dat (doD lo fa le co)),z6,some (.dat (ZJ E)),z8]) ⟨_,rfl⟩ ?_ ?_
   ·rintro j y sd gy hy ⟨z8,rfl⟩
    obtain⟨q0,q1,q2,q3,rfl,hq⟩:∃q0 q1 q2 q3,y=doD q0 q1 q2 q3/\(q0.length<=1000/\q1.length<=1000/\q2.length<=1000/\q3.length<=1000):=by
     have:=mem_of_getElem? hy;simp only[mem_cons,not_mem_nil,or_false] at this
     rcases this with rfl|rfl|rfl|rfl
     ·exact⟨E,[],[],[],rfl,le8,zero_le _,zero_le _,zero_le _⟩
     ·exact⟨[],E,[],[],rfl,zero_le _,le8,zero_le _,zero_le _⟩
     ·exact⟨[],[],E,[],rfl,zero_le _,zero_le _,le8,zero_le _⟩
     ·exact⟨[],[],[],E,rfl,zero_le _,zero_le _,zero_le _,le8⟩
    refine⟨_,rfl,?_⟩;symm;refine ZE5 hq ?_;symm;refine⟨λz=>(by cases z),λ_=>?_⟩;symm;exact⟨trivial,_,rfl⟩
   ·rintro sd gy ⟨z8,rfl⟩
    exact⟨trivial,_,_,_,_,_,_,_,_,rfl⟩
 ·rintro sd gx ⟨z1,z2,z3,z4,z5,z6,z7,z8,rfl⟩
  symm;rfl
local macro_rules
 | `(tactic| left) => `(tactic| (intro _ _ _ _ _ _ _; cases ‹Txt _ _ _›; repeat' (first | ((with_reducible show JE _ _ _); first | ((with_reducible show JE _ (.Name _ _) _); first | refine ZIr _ | (refine' ZLl rfl ?m ?v; (case m => assumption); (case v => first | exact boot_int | exact boot_bool | exact boot_tuple | exact boot_str | exact boot_list | exact boot_dict))) | ((with_reducible show JE _ (.Constant _ _ _) _); first | exact ZIz | exact ZIK | exact ZLm) | ((with_reducible show JE _ (.Subscript _ _ _) _); first | refine ZHb oIx ?_ ?_ (λ _ _ => rfl) | refine ZHb oIxD ?_ ?_ (λ _ _ => rfl) | refine ZJ7 ?_ ?_ ?_ | refine ZH3 ?_ ?_ (λ _ _ => rfl)) | ((with_reducible show JE _ (.BinOp _ _ _ _) _); first | refine ZK1 ?_ ?_ ?_ | exact ZIV ⟨by decide, by decide, by decide⟩ (by decide +kernel)) | ((with_reducible show JE _ (.Compare _ _ _ _) _); first | (refine' ZIp ?_ ?_ ?_ ?m; (case m => first | exact ZHA _ | with_unfolding_all rfl))) | ((with_reducible show JE _ (.Call (.Name _ _) _ _ _) _); first | ((with_reducible show JE _ _ (dF (f1 _) _)); first | (refine' ZFY ?c rfl ?m ?v ?_; (case m => assumption); (case v => first | exact boot_int | exact boot_tuple | exact boot_list | exact boot_dict); (case c => first | exact cInt | exact cTup | exact cLisC)) | (refine' ZDp ?c rfl ?m ?v ?_; (case m => assumption); (case v => first | exact boot_len | exact boot_abs | exact boot_all | exact boot_any | exact boot_sorted | exact boot_repr | exact boot_sum | exact boot_min); (case c => first | exact cLen | exact cAbs | exact cAll rfl | exact cAny2 rfl | exact cSrt))) | (refine' ZIC ?D ?F ?r ?_ ?m; (case F => assumption); (case D => assumption); (case r => exact Room.mono (by assumption) (by decide)); (case m => repeat constructor)) | (refine' ZDp ?c rfl ?m ?v ?_; (case m => assumption); (case v => first | exact boot_min | exact boot_max | exact boot_isinstance); (case c => first | exact cMin rfl | exact cIsi)) | (refine' ZLf rfl rfl ?m rfl ?n ?_; (case m => assumption); (case n => assumption)) | (refine' ZFH rfl rfl ?m rfl ?n ?_; (case m => assumption); (case n => assumption))) | ((with_reducible show JE _ (.Tuple _ _ _) _); first | refine ZIX ?_ | refine ZHL ?_) | ((with_reducible show JE _ (.BoolOp _ _ _) _); first | refine ZIt ?_ ?_ | refine ZJg ?_) | ((with_reducible show JE _ (.List _ _) _); first | refine ZId ?_ | refine ZHh ?_) | ((with_reducible show JE _ (.ListComp _ _ _ _) _); first | ((with_reducible first | show JE _ (.ListComp _ _ ⟨_, _ :: (_, .cell) :: _, _, _, _⟩ _) _ | show JE _ (.ListComp _ _ ⟨_, _ :: _ :: (_, .cell) :: _, _, _, _⟩ _) _ | show JE _ (.ListComp _ _ ⟨_, _ :: _ :: _ :: (_, .cell) :: _, _, _, _⟩ _) _); refine jde_compK rfl ?_ ?_ (by kernel_rfl) rfl) | refine ZGL rfl ?_ ?_ (by kernel_rfl) rfl | refine ZFZ rfl ?_ ?_ (by kernel_rfl) rfl) | refine ZIO ?_ | refine ZI2 ?_ ?_) | ((with_reducible show JA _ _ _); first | refine ZH0 ?_ ?_ | exact ZI1) | ((with_reducible show OpR _ _ _); first | exact oAdd | exact oEq (Room.units (by assumption)) | exact oSub | exact oMul | exact oMod | exact oFdiv | exact oNe (Room.units (by assumption)) | exact oLt (Room.units (by assumption)) | exact oGt (Room.units (by assumption)) | exact oGe (Room.units (by assumption)) | exact oIn (Room.units (by assumption)) | exact ZK4 (Room.units (by assumption)) | exact ZIT) | ((with_reducible show JT _ _ _); first | refine ZIE ?_ | (refine' ZJV ?_ ?_ ?_ ?m; (case m => first | exact ZHA _ | with_unfolding_all rfl)) | refine JW.pt (ZFy ?_ ?_) | refine JW.pt (ZH8 ?_ ?_) | refine ZJZ ?_) | ((with_reducible show JSs _ _ _); first | refine ZGY ?_ ?_ | refine ZH5 ?_ | exact ZH4) | ((with_reducible show JS _ _ _); first | ((with_reducible show JS _ _ (ZU _ _)); first | (refine' ZIa ?nd rfl ?lo ?_; (case nd => first | assumption | exact of_decide_eq_true (by kernel_rfl)); (case lo => first | exact Or.inl rfl | exact Or.inr rfl)) | ((with_reducible first | show JS _ (.Assign _ (.ListComp _ _ ⟨_, _ :: (_, .cell) :: _, _, _, _⟩ _) _) _ | show JS _ (.Assign _ (.ListComp _ _ ⟨_, _ :: _ :: (_, .cell) :: _, _, _, _⟩ _) _) _ | show JS _ (.Assign _ (.ListComp _ _ ⟨_, _ :: _ :: _ :: (_, .cell) :: _, _, _, _⟩ _) _) _); refine' jds_setCK ?nd rfl ?lo rfl ?_ ?_ (by kernel_rfl) rfl; (case nd => first | assumption | exact of_decide_eq_true (by kernel_rfl)); (case lo => first | exact Or.inl rfl | exact Or.inr rfl)) | (refine' ZFa ?nd rfl ?lo rfl ?_ ?_ (by kernel_rfl) rfl; (case nd => first | assumption | exact of_decide_eq_true (by kernel_rfl)); (case lo => first | exact Or.inl rfl | exact Or.inr rfl))) | ((with_reducible show JS _ _ (ZFU _ _)); first | refine ZF9 ?_ ?_ | refine ZF9 (hs := by kernel_rfl) (hw := by kernel_rfl) ?_ ?_) | refine ZIy ?_ | refine ZLJ ?_ ?_ ?_ | refine ZHN ?_ | refine ZJH PassesOwn.never rfl ?_ ?_ ?_ | refine ZJh ?_ ?_ ?_ | (refine' ZHJ rfl ?nd rfl rfl rfl rfl rfl rfl ?_ (by kernel_rfl) (by kernel_rfl); (case nd => assumption)) | refine ZIF rfl ?_ ?_ ?_ ?_ ?_) | (refine' ZJ8 ?nd rfl ?lo; (case nd => first | assumption | exact of_decide_eq_true (by kernel_rfl)); (case lo => first | exact Or.inl rfl | exact Or.inr rfl)) | refine ZLj rfl ?_ | refine ZHK ?_ ?_ | exact ZJI | refine ZFy ?_ ?_ | refine ZH8 ?_ ?_ | refine ZHp ?_ | refine ZIj ?_ | exact ZHF | refine ZHO ?_ | exact ZHS | refine ZH6 ?_ | (refine' ZFS rfl ?m ?_ (hn := ?n); (case m => assumption); (case n => repeat constructor)) | (refine' ZHW rfl ?m ?_ (hn := ?n); (case m => assumption); (case n => repeat constructor)) | (refine' ZJS rfl ?m ?_ (hn := ?n); (case m => assumption); (case n => repeat constructor)) | refine ZK8 ?_ | refine ZJD ?_ | (intro _ _ _ _ _; refine ⟨?_, ?_, ?_⟩))))
local macro_rules
 | `(tactic| right) => `(tactic| first | exact ⟨rfl, rfl, rfl, by decide +kernel, rfl, by decide +kernel, by decide +kernel⟩ | exact (λ _ _ _ _ _ _ => ZLq (by intros; rfl)) | exact (λ _ _ _ _ _ _ => len3 (by intros; rfl)) | exact (λ _ _ _ _ _ _ => ZKs (by intros; rfl)) | exact (λ _ _ _ _ _ _ => len5 (by intros; rfl)) | exact (λ _ _ _ _ _ _ => ZLw (by intros; rfl)) | exact (λ _ _ _ _ _ _ => len6 (by intros; rfl)) | exact (λ _ _ _ _ _ _ => len7 (by intros; rfl)) | exact (λ _ _ _ _ _ _ us e => by cases us with | nil => rfl | cons _ _ => cases e))
section
variable{P:Program}{w:World}{K:PySem.W.Frag}{mg:Str->Option Value}{base:Heap}{A:Adr}
theorem ZCk:FnScope ["thing"] ZAv (ZF (top 1)):=by right
theorem ZC6:FnScope ["thing"] ZAu (ZF (top 2)):=by right
theorem ZBQ:FnScope ["thing","length"] ZAF (ZF (top 3)):=by right
theorem ZF6:FnScope ["things"] ZCc (ZF (top 4)):=by right
theorem ZCS:FnScope ["some","others"] ZAe (ZF (top 8)):=by right
theorem ZBo:FnScope ["state","numbers","up","turn","houses"] ZAM (ZF (top 9)):=by right
theorem ZBv:FnScope ["thing"] ZAN (ZF (top 7)):=by right
theorem ZCJ:FnScope ["state","thing","lost","falls","leaves","comes"] ZAa (ZF (top 6)):=by right
theorem ZDM:FnScope ["_law_script","_law_k","_law_cell"] ZAo (ZF (top 11)):=by right
theorem ZCT:FnScope ["_law_box_here","_law_many","_law_told","_law_once"] ZAd (ZF (top 12)):=by right
theorem ZBf:FnScope ["_law_box_here","_law_whole","_law_told","_law_carry","_law_wait","_law_words","_law_mode","_law_gone_one","_law_some"] ZAU (ZF (top 13)):=by right
theorem ZCK:FnScope ["_law_box_here","_law_most","_law_n","_law_found","_law_house","_law_pace"] ZAc (ZF (top 14)):=by right
theorem ZBk:FnScope ["_law_box_here","_law_rules_here","_law_town_here","_law_n","_law_far","_law_calm","_law_houses","_law_house","_law_up","_law_book","_law_told","_law_timers"] ZAQ (ZF (top 15)):=by right
theorem ZCH:FnScope ["_law_box_here","_law_most","_law_mode"] ZAf (ZF (top 16)):=by right
theorem ZBT:FnScope ["_law_box_here","_law_state_here","_law_moves","_law_falls","_law_leaves","_law_comes","_law_house","_law_told","_law_way"] ZAG (ZF (top 17)):=by right
theorem ZDI:FnScope ["_law_state_here","_law_doings_here","_law_houses","_law_at","_law_some","_law_one","_law_other_here"] ZAw (ZF (top 18)):=by right
theorem ZBj:FnScope ["_law_box_here","_law_state_here","_law_doings_here","_law_parts","_law_n","_law_at","_law_house","_law_way","_law_other_here"] ZAS (ZF (top 19)):=by right
theorem ZBg:FnScope ["_law_state_here","_law_doings_here","_law_found"] ZAP (ZF (top 20)):=by right
theorem ZJ1:FnScope ["_law_script","_law_k","_law_box_here","_law_rules_here","_law_state_here","_law_doings_here","_law_turn","_law_every","_law_other_here"] ["_law_script"] (ZF (top 21)):=by right
section
variable(T:Txt K mg A)
include T
theorem ZEa:FnOk P w K mg base CX0 1 A.fx0 A.fy0 ZAv (spD K 1 Zv):=by
 have nd:=ZCk.nd;refine ZT (d:=ZBd) (r:=Zv) (n:=1) (by unfold Zv;rfl) rfl rfl T.fz0.fn ZCk ?_;left
theorem ZEA:FnOk P w K mg base CX0 2 A.fx1 A.fy1 ZAu (spD K 1 Zt):=by
 have:=@ZEa P w K mg base A T;have nd:=ZC6.nd;refine ZT (d:=ZBc) (r:=Zt) (n:=1) (by unfold Zt;rfl) rfl rfl T.fz1.fn ZC6 ?_;left
theorem ZCa:FnOk P w K mg base CX0 1 A.fx2 A.fy2 ZAF (spD K 2 Za):=by
 have nd:=ZBQ.nd;refine ZT (d:=ZAh) (r:=Za) (n:=2) (by unfold Za;rfl) rfl rfl T.fz2.fn ZBQ ?_;left
theorem ZGI:FnOk P w K mg base CX0 1 A.fx3 A.fy3 ZCc (spD K 1 ZAr):=by
 have nd:=ZF6.nd;refine ZT (d:=ZEe) (r:=ZAr) (n:=1) (by unfold ZAr;rfl) rfl rfl T.fz3.fn ZF6 ?_;left
theorem ZDb:FnOk P w K mg base CX0 1 A.fx6 A.fy6 ZAe (spD K 2 Zd):=by
 have nd:=ZCS.nd;refine ZT (d:=ZBA) (r:=Zd) (n:=2) (by unfold Zd;rfl) rfl rfl T.fz6.fn ZCS ?_;left
theorem ZCw:FnOk P w K mg base CX0 1 A.fx7 A.fy7 ZAM (spD K 3 ZQ):=by
 have nd:=ZBo.nd;refine ZT (d:=ZAt) (r:=ZQ) (n:=5) (by unfold ZQ;rfl) rfl rfl T.fz7.fn ZBo ?_;left
theorem ZC3:FnOk P w K mg base CX0 3 A.fx5 A.fy5 ZAN (spD K 1 Zf):=by
 have:=@ZGI P w K mg base A T;have:=@ZEA P w K mg base A T;have nd:=ZBv.nd;refine ZT (d:=ZAx) (r:=Zf) (n:=1) (by unfold Zf;rfl) rfl rfl T.fz5.fn ZBv ?_;left
theorem ZBU:FnOk P w K mg base CX0 4 A.fx4 A.fy4 ZAa (spD K 2 ZR):=by
 have:=@ZDb P w K mg base A T;have:=@ZCw P w K mg base A T;have:=@ZCa P w K mg base A T;have:=@ZC3 P w K mg base A T;have nd:=ZCJ.nd;refine ZT (d:=ZBC) (r:=ZR) (n:=6) (by unfold ZR;rfl) rfl rfl T.fz4.fn ZCJ ?_;left
theorem ZEX:FnOk P w K mg base CX0 1 A.fx8 A.fy8 ZAo (spD K 2 Zu):=by
 have nd:=ZDM.nd;refine ZT (d:=ZBZ) (r:=Zu) (n:=3) (by unfold Zu;rfl) rfl rfl T.fz8.fn ZDM ?_;left
theorem Zl:FnOk P w K mg base CX0 1 A.fx9 A.fy9 ZAd (spD K 2 ZC):=by
 have nd:=ZCT.nd;refine ZT (d:=ZBE) (r:=ZC) (n:=4) (by unfold ZC;rfl) rfl rfl T.fz9.fn ZCT ?_;left
theorem ZDJ:FnOk P w K mg base CX0 2 A.fx10 A.fy10 ZAU (spD K 2 Zh):=by
 have:=@Zl P w K mg base A T;have nd:=ZBf.nd;refine ZT (d:=ZA3) (r:=Zh) (n:=9) (by unfold Zh;rfl) rfl rfl T.fz10.fn ZBf ?_;left
theorem ZDV:FnOk P w K mg base CX0 2 A.fx11 A.fy11 ZAc (spD K 2 Zn):=by
 have:=@Zl P w K mg base A T;have nd:=ZCK.nd;refine ZT (d:=ZBH) (r:=Zn) (n:=6) (by unfold Zn;rfl) rfl rfl T.fz11.fn ZCK ?_;left
theorem ZCp:FnOk P w K mg base CX0 2 A.fx12 A.fy12 ZAQ (spD K 3 Zk):=by
 have:=@Zl P w K mg base A T;have nd:=ZBk.nd;refine ZT (d:=ZAz) (r:=Zk) (n:=12) (by unfold Zk;rfl) rfl rfl T.fz12.fn ZBk ?_;left
theorem ZDX:FnOk P w K mg base CX0 2 A.fx13 A.fy13 ZAf (spD K 2 Zq):=by
 have:=@Zl P w K mg base A T;have nd:=ZCH.nd;refine ZT (d:=ZBJ) (r:=Zq) (n:=3) (by unfold Zq;rfl) rfl rfl T.fz13.fn ZCH ?_;left
theorem ZCU:FnOk P w K mg base CX0 3 A.fx14 A.fy14 ZAG (spD K 3 ZZ):=by
 have:=@Zl P w K mg base A T;have:=@ZDX P w K mg base A T;have nd:=ZBT.nd;refine ZT (d:=ZAg) (r:=ZZ) (n:=9) (by unfold ZZ;rfl) rfl rfl T.fz14.fn ZBT ?_;left
theorem ZBx:FnOk P w K mg base CX0 1 A.fx15 A.fy15 ZAw (spD K 2 Zm):=by
 have nd:=ZDI.nd;refine ZT (d:=ZBa) (r:=Zm) (n:=7) (by unfold Zm;rfl) rfl rfl T.fz15.fn ZDI ?_;left
theorem ZCx:FnOk P w K mg base CX0 2 A.fx16 A.fy16 ZAS (spD K 3 Zi):=by
 have:=@Zl P w K mg base A T;have nd:=ZBj.nd;refine ZT (d:=ZAq) (r:=Zi) (n:=9) (by unfold Zi;rfl) rfl rfl T.fz16.fn ZBj ?_;left
theorem ZDF:FnOk P w K mg base CX0 5 A.fx17 A.fy17 ZAP (spD K 2 ZY):=by
 have:=@ZBU P w K mg base A T;have:=@ZBx P w K mg base A T;have nd:=ZBg.nd;refine ZT (d:=ZAs) (r:=ZY) (n:=3) (by unfold ZY;rfl) rfl rfl T.fz17.fn ZBg ?_;left
theorem ZIi{f:Addr}{fd:FuncData}(F:Fun K "law" "law" (top 21) f fd):FnOk P w K mg base CX0 6 f fd ["_law_script"] (spD K 1 ZDD):=by
 have:=@ZEX P w K mg base A T;have:=@ZDJ P w K mg base A T;have:=@ZCp P w K mg base A T;have:=@ZCU P w K mg base A T;have:=@ZDV P w K mg base A T;have:=@ZBU P w K mg base A T;have:=@ZBx P w K mg base A T;have:=@ZDF P w K mg base A T;have:=@ZCx P w K mg base A T;have nd:=ZJ1.nd;refine ZT (d:=ZHj) (r:=ZDD) (n:=9) (by unfold ZDD;rfl) rfl rfl F ZJ1 ?_;left
end
def ZFs(K:PySem.W.Frag):Sp:=λvs H Q _=>∃(a:Addr) (ns:List Int),vs=[.ref a]/\SqL K H a (ns.map V.int)/\ns.length<=63/\∀H',Q (.bl true) H'
theorem ZKt(T:Txt K mg A){f:Addr}{fd:FuncData}(F:Fun K "law" "law" (top 21) f fd):FnOk P w K mg base CX0 6 f fd ["_law_script"] (ZFs K):=ZKb (ZIi T F) λns hl=>ZK6 hl
end
theorem all_mk{l:PySem.W.OpenLaw}{w:World}{K:PySem.W.Frag}{h:Heap}{mg:Str->Option Value}{fa:Addr}(X:K.In h)(G:h.Ns mainGlobals mg)(hfa:mg "law" = some (.ref fa))
  {f0:Addr}
  (a0:PySem.W.nsIn K mainGlobals "is_whole" = some (some (.ref f0)))
  (h0:ZA2 K "is_whole" "is_whole" (top 1) f0)
  {f1:Addr}
  (a1:PySem.W.nsIn K mainGlobals "is_count" = some (some (.ref f1)))
  (h1:ZA2 K "is_count" "is_count" (top 2) f1)
  {f2:Addr}
  (a2:PySem.W.nsIn K mainGlobals "is_tuple_of" = some (some (.ref f2)))
  (h2:ZA2 K "is_tuple_of" "is_tuple_of" (top 3) f2)
  {f3:Addr}
  (a3:PySem.W.nsIn K mainGlobals "rises" = some (some (.ref f3)))
  (h3:ZA2 K "rises" "rises" (top 4) f3)
  {f4:Addr}
  (a4:PySem.W.nsIn K mainGlobals "is_doings" = some (some (.ref f4)))
  (h4:ZA2 K "is_doings" "is_doings" (top 6) f4)
  {f5:Addr}
  (a5:PySem.W.nsIn K mainGlobals "are_rising" = some (some (.ref f5)))
  (h5:ZA2 K "are_rising" "are_rising" (top 7) f5)
  {f6:Addr}
  (a6:PySem.W.nsIn K mainGlobals "are_apart" = some (some (.ref f6)))
  (h6:ZA2 K "are_apart" "are_apart" (top 8) f6)
  {f7:Addr}
  (a7:PySem.W.nsIn K mainGlobals "are_houses" = some (some (.ref f7)))
  (h7:ZA2 K "are_houses" "are_houses" (top 9) f7)
  {f8:Addr}
  (a8:PySem.W.nsIn K mainGlobals "_law_box" = some (some (.ref f8)))
  (h8:ZA2 K "_law_box" "_law_box" (top 11) f8)
  {f9:Addr}
  (a9:PySem.W.nsIn K mainGlobals "_law_take" = some (some (.ref f9)))
  (h9:ZA2 K "_law_take" "_law_take" (top 12) f9)
  {f10:Addr}
  (a10:PySem.W.nsIn K mainGlobals "_law_rules" = some (some (.ref f10)))
  (h10:ZA2 K "_law_rules" "_law_rules" (top 13) f10)
  {f11:Addr}
  (a11:PySem.W.nsIn K mainGlobals "_law_town" = some (some (.ref f11)))
  (h11:ZA2 K "_law_town" "_law_town" (top 14) f11)
  {f12:Addr}
  (a12:PySem.W.nsIn K mainGlobals "_law_state" = some (some (.ref f12)))
  (h12:ZA2 K "_law_state" "_law_state" (top 15) f12)
  {f13:Addr}
  (a13:PySem.W.nsIn K mainGlobals "_law_lost" = some (some (.ref f13)))
  (h13:ZA2 K "_law_lost" "_law_lost" (top 16) f13)
  {f14:Addr}
  (a14:PySem.W.nsIn K mainGlobals "_law_doings" = some (some (.ref f14)))
  (h14:ZA2 K "_law_doings" "_law_doings" (top 17) f14)
  {f15:Addr}
  (a15:PySem.W.nsIn K mainGlobals "_law_may" = some (some (.ref f15)))
  (h15:ZA2 K "_law_may" "_law_may" (top 18) f15)
  {f16:Addr}
  (a16:PySem.W.nsIn K mainGlobals "_law_other" = some (some (.ref f16)))
  (h16:ZA2 K "_law_other" "_law_other" (top 19) f16)
  {f17:Addr}
  (a17:PySem.W.nsIn K mainGlobals "_law_right" = some (some (.ref f17)))
  (h17:ZA2 K "_law_right" "_law_right" (top 20) f17)
  {f18:Addr}{od18 an18:Option Addr}{sl18:Array (Option Value)}{oc18 kV18 dc18 pm18 cd18 ct18:Value}
  (a18:PySem.W.nsIn K mainGlobals "law" = some (some (.ref f18)))
  (l18:K.lookup f18=some ⟨oc18,od18,.func (PySem.W.fnOf "law" "law" (ZAy (top 21)) (ZAD (top 21)) (ZF (top 21)) .none kV18 dc18 pm18 an18 cd18 ct18),sl18⟩)(c18:PySem.W.codeIn K cd18 "law" = true)(k18:PySem.W.keepIn K (.ref f18)=true)
  (z0:PySem.W.nsIn K mainGlobals "abs" = some none)
  (z1:PySem.W.nsIn K mainGlobals "all" = some none)
  (z2:PySem.W.nsIn K mainGlobals "any" = some none)
  (z3:PySem.W.nsIn K mainGlobals "bool" = some none)
  (z4:PySem.W.nsIn K mainGlobals "enumerate" = some none)
  (z5:PySem.W.nsIn K mainGlobals "int" = some none)
  (z6:PySem.W.nsIn K mainGlobals "isinstance" = some none)
  (z7:PySem.W.nsIn K mainGlobals "len" = some none)
  (z8:PySem.W.nsIn K mainGlobals "list" = some none)
  (z9:PySem.W.nsIn K mainGlobals "min" = some none)
  (z10:PySem.W.nsIn K mainGlobals "range" = some none)
  (z11:PySem.W.nsIn K mainGlobals "reversed" = some none)
  (z12:PySem.W.nsIn K mainGlobals "sorted" = some none)
  (z13:PySem.W.nsIn K mainGlobals "tuple" = some none)
  (z14:PySem.W.nsIn K mainGlobals "zip" = some none)
  : ∃fd:FuncData,(∀(s:Shared) (v:Value),BindsTo s fd ⟨[v],[]⟩ [("_law_script",v)])/\∀base:Heap,K.In base->base.Ns mainGlobals mg->FnOk l.prog w K mg base CX0 6 fa fd ["_law_script"] (ZFs K):=by
 have e:=hfa.symm.trans (PySem.W.mg_of X G a18);cases e;obtain⟨_,F0⟩:=h0;have D0:Def K mg _ _ ZAv f0 _:=⟨PySem.W.mg_of X G a0,F0,F0.binds (by right)⟩;obtain⟨_,F1⟩:=h1;have D1:Def K mg _ _ ZAu f1 _:=⟨PySem.W.mg_of X G a1,F1,F1.binds (by right)⟩;obtain⟨_,F2⟩:=h2;have D2:Def K mg _ _ ZAF f2 _:=⟨PySem.W.mg_of X G a2,F2,F2.binds (by right)⟩;obtain⟨_,F3⟩:=h3;have D3:Def K mg _ _ ZCc f3 _:=⟨PySem.W.mg_of X G a3,F3,F3.binds (by right)⟩;obtain⟨_,F4⟩:=h4;have D4:Def K mg _ _ ZAa f4 _:=⟨PySem.W.mg_of X G a4,F4,F4.binds (by right)⟩;obtain⟨_,F5⟩:=h5;have D5:Def K mg _ _ ZAN f5 _:=⟨PySem.W.mg_of X G a5,F5,F5.binds (by right)⟩;obtain⟨_,F6⟩:=h6;have D6:Def K mg _ _ ZAe f6 _:=⟨PySem.W.mg_of X G a6,F6,F6.binds (by right)⟩;obtain⟨_,F7⟩:=h7;have D7:Def K mg _ _ ZAM f7 _:=⟨PySem.W.mg_of X G a7,F7,F7.binds (by right)⟩;obtain⟨_,F8⟩:=h8;have D8:Def K mg _ _ ZAo f8 _:=⟨PySem.W.mg_of X G a8,F8,F8.binds (by right)⟩;obtain⟨_,F9⟩:=h9;have D9:Def K mg _ _ ZAd f9 _:=⟨PySem.W.mg_of X G a9,F9,F9.binds (by right)⟩;obtain⟨_,F10⟩:=h10;have D10:Def K mg _ _ ZAU f10 _:=⟨PySem.W.mg_of X G a10,F10,F10.binds (by right)⟩;obtain⟨_,F11⟩:=h11;have D11:Def K mg _ _ ZAc f11 _:=⟨PySem.W.mg_of X G a11,F11,F11.binds (by right)⟩;obtain⟨_,F12⟩:=h12;have D12:Def K mg _ _ ZAQ f12 _:=⟨PySem.W.mg_of X G a12,F12,F12.binds (by right)⟩;obtain⟨_,F13⟩:=h13;have D13:Def K mg _ _ ZAf f13 _:=⟨PySem.W.mg_of X G a13,F13,F13.binds (by right)⟩;obtain⟨_,F14⟩:=h14;have D14:Def K mg _ _ ZAG f14 _:=⟨PySem.W.mg_of X G a14,F14,F14.binds (by right)⟩;obtain⟨_,F15⟩:=h15;have D15:Def K mg _ _ ZAw f15 _:=⟨PySem.W.mg_of X G a15,F15,F15.binds (by right)⟩;obtain⟨_,F16⟩:=h16;have D16:Def K mg _ _ ZAS f16 _:=⟨PySem.W.mg_of X G a16,F16,F16.binds (by right)⟩;obtain⟨_,F17⟩:=h17;have D17:Def K mg _ _ ZAP f17 _:=⟨PySem.W.mg_of X G a17,F17,F17.binds (by right)⟩;have F18:=ZHn (st:=(top 21)) l18 c18 k18;have T:Txt K mg ⟨f0,f1,f2,f3,f4,f5,f6,f7,f8,f9,f10,f11,f12,f13,f14,f15,f16,f17,_,_,_,_,_,_,_,_,_,_,_,_,_,_,_,_,_,_⟩:=⟨PySem.W.mg_none_of X G z0,PySem.W.mg_none_of X G z1,PySem.W.mg_none_of X G z2,PySem.W.mg_none_of X G z3,PySem.W.mg_none_of X G z4,PySem.W.mg_none_of X G z5,PySem.W.mg_none_of X G z6,PySem.W.mg_none_of X G z7,PySem.W.mg_none_of X G z8,PySem.W.mg_none_of X G z9,PySem.W.mg_none_of X G z10,PySem.W.mg_none_of X G z11,PySem.W.mg_none_of X G z12,PySem.W.mg_none_of X G z13,PySem.W.mg_none_of X G z14,D0,D1,D2,D3,D4,D5,D6,D7,D8,D9,D10,D11,D12,D13,D14,D15,D16,D17⟩;exact⟨PySem.W.fnOf "law" "law" (ZAy (top 21)) (ZAD (top 21)) (ZF (top 21)) .none kV18 dc18 pm18 an18 cd18 ct18,λs v=>.of_eq rfl,λbase _ _=>ZKt T F18⟩
theorem walk{l:PySem.W.OpenLaw}{q:Program}{loose:List Str}{XP:(Str->Option Value)->Heap->Prop}{YP:World->Heap->Prop}{d:DefRec}{K:Params->PySem.W.Frag}(hn:l.most=some 63)(hdf:d.params.defaults=[])
  (hY:∀(w:World) (h:Heap),YP w h->(K w.params).In h)
  (F:∀ (w:World) (mg:Str->Option Value) (fa:Addr) (h:Heap),(K w.params).In h->h.Ns mainGlobals mg->mg d.name=some (.ref fa) ->
   ∃fd:FuncData,(∀(s:Shared) (u:Value),BindsTo s fd ⟨[u],[]⟩ [("_law_script",u)])/\∀base:Heap,(K w.params).In base->base.Ns mainGlobals mg->FnOk l.prog w (K w.params) mg base CX0 6 fa fd ["_law_script"] (ZFs (K w.params))) :
  PySem.W.WalkO q loose XP YP l.row.toRowW d [] (λf vs=>PySem.call f vs) :=
 L2.walk_of (n:=63) (k:=6) (x:="_law_script") (CX:=λ_=>CX0) (sp:=λw=>ZFs (K w.params)) hn (by decide) hdf ⟨rfl,by decide,by decide,rfl⟩ hY F (λ_ _ a ns hl _ hS=>⟨a,ns,rfl,hS,hl,λ_=>rfl⟩) λ_ _ _ _ _ z=>z
end K25
end
open PySem PySem.W PyProof.Rows
local macro_rules
 | `(tactic| and_intros) => `(tactic| (refine' L2.fnAt_mk ?l ?c ?k; (case l => k_is); (case c => k_is); (case k => k_is)))
set_option maxRecDepth 100000 in
set_option maxHeartbeats 0 in
theorem PySem.Challenge.cw_hearsaybook_k25_doings_told_holds : PySem.Challenge.rw_hearsaybook_k25_doings_told.Holds := by
 w_on; o_law; k_head; (case hw=>w_witness2)
 k_fill
 refine K25.walk (l:=PySem.Challenge.rw_hearsaybook_k25_doings_told) rfl rfl (λ w h Y=>PySem.W.kIn_of Y) ?F
 case F =>
  intro w mg fa h KX G hmg;refine' K25.all_mk KX G hmg ?a0 ?h0 ?a1 ?h1 ?a2 ?h2 ?a3 ?h3 ?a4 ?h4 ?a5 ?h5 ?a6 ?h6 ?a7 ?h7 ?a8 ?h8 ?a9 ?h9 ?a10 ?h10 ?a11 ?h11 ?a12 ?h12 ?a13 ?h13 ?a14 ?h14 ?a15 ?h15 ?a16 ?h16 ?a17 ?h17 ?a18 ?l18 ?c18 ?k18 ?z0 ?z1 ?z2 ?z3 ?z4 ?z5 ?z6 ?z7 ?z8 ?z9 ?z10 ?z11 ?z12 ?z13 ?z14
  (case a0=>k_is)
  (case h0=>and_intros)
  (case a1=>k_is)
  (case h1=>and_intros)
  (case a2=>k_is)
  (case h2=>and_intros)
  (case a3=>k_is)
  (case h3=>and_intros)
  (case a4=>k_is)
  (case h4=>and_intros)
  (case a5=>k_is)
  (case h5=>and_intros)
  (case a6=>k_is)
  (case h6=>and_intros)
  (case a7=>k_is)
  (case h7=>and_intros)
  (case a8=>k_is)
  (case h8=>and_intros)
  (case a9=>k_is)
  (case h9=>and_intros)
  (case a10=>k_is)
  (case h10=>and_intros)
  (case a11=>k_is)
  (case h11=>and_intros)
  (case a12=>k_is)
  (case h12=>and_intros)
  (case a13=>k_is)
  (case h13=>and_intros)
  (case a14=>k_is)
  (case h14=>and_intros)
  (case a15=>k_is)
  (case h15=>and_intros)
  (case a16=>k_is)
  (case h16=>and_intros)
  (case a17=>k_is)
  (case h17=>and_intros)
  (case a18=>k_is)
  (case l18=>k_is)
  (case c18=>k_is)
  (case k18=>k_is)
  (case z0=>k_is)
  (case z1=>k_is)
  (case z2=>k_is)
  (case z3=>k_is)
  (case z4=>k_is)
  (case z5=>k_is)
  (case z6=>k_is)
  (case z7=>k_is)
  (case z8=>k_is)
  (case z9=>k_is)
  (case z10=>k_is)
  (case z11=>k_is)
  (case z12=>k_is)
  (case z13=>k_is)
  (case z14=>k_is)
