import PyProof.Rows.All
import Wide.All
import OpenK.AllK
import Wide.FinOn
import Lean
import PyProof.EqAt
import PyProof.EqKinds
import PyProof.TupleCall
import PyProof.NeKinds
import PyProof.IsiPairs
import PyProof.EnumMake
import PyProof.Draws
import PyProof.CompFree
import PyProof.CompUse
import PyProof.ConsumeWalk
import PyProof.NeData
import PyProof.P3In
import PyProof.Rows.ReprR
import PyProof.ZipIter
import PyProof.MinMaxWalk
import PyProof.Rows.TupAdd
import PyProof.ListMulRoad
import PyProof.FactsAll.tuple_2
import PyProof.Rows.FStr
import PyProof.StrCalls2
import PyProof.Rows.StrWeight2
import PyProof.Rows.StrSplitJoin
import PyProof.Rows.TupIter
import PyProof.Rows.SortStr
import KE.KSortTup
import PyProof.Rows.SortWalkRead
import PyProof.AttrMissSeq
import KE.KDictOf
import KE.KDictList
import KE.KDictSum
import PyProof.DictRoads
import PyProof.DictStraight
import PyProof.TupleOfSeq
import PyProof.DictTable
import PyProof.ListRange
import PyProof.TupleOfGen
import KE.KRevIter
import PyProof.FactsAll.dict_1
import PyProof.FactsAll.subtypes_3
import PySem.Challenge.RW_hearsaybook_k08_what_rules_are
set_option Elab.async false
set_option linter.all false
set_option maxRecDepth 100000
set_option maxHeartbeats 4000000
section
open PySem.Heap (get?_push_of_some lt_size get?_push_size get?_update_self size_push)
open Nat (le_refl lt_of_lt_of_le ne_of_lt le_trans zero_le le_add_right le_of_lt lt_irrefl ne_of_gt)
open List (length_cons size_toArray length_append not_mem_nil mem_cons_self getElem?_eq_getElem length_map getElem?_append_left mem_cons mem_cons_of_mem lookup_cons length_nil getD_eq_getElem?_getD getElem?_map getElem?_append_right mem_append_right forIn_cons getElem?_set_ne append_nil length_set replicate_succ getElem?_set_self getElem?_replicate forIn_nil zip_cons_cons length_replicate flatten_cons mem_of_getElem? all_eq_true reverse_cons append_assoc map_cons length_take length_drop drop_length of_mem_zip nil_append all_map zip_nil_left length_range map_nil set_set map_map any_map)
open Int (toNat_natCast)
namespace L2
open PySem PySem.Spec PyProof.Rows
abbrev Key:=Sum Int Str
def ZH8:Key->Value->Bool
 |.inl k,v=>Value.isInt k v
 |.inr x,v=>Value.isStrOf x v
def keyH(w:World):Key->Int
 |.inl k=>hashInt k
 |.inr x=>hashStr w x
theorem ZR:∀{k:Key} {v:Value},ZH8 k v=true->(∃i t,k=Sum.inl i/\v=Value.int i t)∨(∃x t,k=Sum.inr x/\v=Value.str x t)
 |.inl i,v,h=>by
  obtain⟨t,e⟩:=Value.isInt_shape (k:=i) (v:=v) h;exact .inl ⟨i,t,rfl,e⟩
 |.inr x,v,h=>by
  obtain⟨t,e⟩:=Value.isStrOf_shape (x:=x) (v:=v) h;exact .inr ⟨x,t,rfl,e⟩
theorem ZI2(a b:Int):decide ((Sum.inl a:Key)=Sum.inl b)=(a == b):=by
 by_cases e:a=b
 ·subst e;simp
 ·have h : ¬(Sum.inl a:Key)=Sum.inl b:=λq=>e (Sum.inl.inj q)
  rw[decide_eq_false h];exact(beq_eq_false_iff_ne.mpr e).symm
theorem ZIM(a b:Str):decide ((Sum.inr a:Key)=Sum.inr b)=decide (a=b):=by
 by_cases e:a=b
 ·subst e;simp
 ·have h : ¬(Sum.inr a:Key)=Sum.inr b:=λq=>e (Sum.inr.inj q)
  rw[decide_eq_false h,decide_eq_false e]
theorem ZJV(a:Int)(b:Str):decide ((Sum.inl a:Key)=Sum.inr b)=false:=decide_eq_false (λq=>nomatch q)
theorem ZIl(a:Str)(b:Int):decide ((Sum.inr a:Key)=Sum.inl b)=false:=decide_eq_false (λq=>nomatch q)
def ZER(prog:Program)(w:World):PySem.KeyKind prog w Key where
 is:=ZH8
 hash:=keyH w
 inj:=λv a b ha hb=>by
  rcases ZR ha with ⟨i,t,rfl,rfl⟩|⟨x,t,rfl,rfl⟩
  ·rcases ZR hb with ⟨j,u,rfl,e⟩|⟨y,u,rfl,e⟩
   ·injection e with e1 _;rw[e1]
   ·exact nomatch e
  ·rcases ZR hb with ⟨j,u,rfl,e⟩|⟨y,u,rfl,e⟩
   ·exact nomatch e
   ·injection e with e1 _;rw[e1]
 byValue:=λk v h=>by
  rcases ZR h with ⟨i,t,rfl,rfl⟩|⟨x,t,rfl,rfl⟩ <;> rfl
 pyHash:=λhv h=>by
  rcases ZR hv with ⟨i,t,rfl,rfl⟩|⟨x,t,rfl,rfl⟩
  ·exact wpAny_pyHash_int h
  ·exact wpAny_pyHash_str h
 eqBool:=λhu hv h=>by
  rcases ZR hu with ⟨i,t,rfl,rfl⟩|⟨x,t,rfl,rfl⟩
  ·rcases ZR hv with ⟨j,u,rfl,rfl⟩|⟨y,u,rfl,rfl⟩
   ·rw[ZI2] at h;exact wpAny_eqBool_int h
   ·rw[ZJV] at h;exact SeqAt.EqAt.int_str i t y u _ _ _ _ h
  ·rcases ZR hv with ⟨j,u,rfl,rfl⟩|⟨y,u,rfl,rfl⟩
   ·rw[ZIl] at h;exact SeqAt.EqAt.str_int x t j u _ _ _ _ h
   ·rw[ZIM] at h;exact wpAny_eqBool_str h
 «strs»:=λk x t v h=>by
  rcases ZR h with ⟨i,u,rfl,e⟩|⟨y,u,rfl,e⟩
  ·exact nomatch e
  ·injection e with e1 _
   subst e1;cases v <;> rfl
inductive V where
 |non|bl (b:Bool)|int (i:Int)|str (x:Str)|byt (b:Array UInt8)|flt (b:UInt64)|ref (a:Addr)|ty (n:String)
 deriving DecidableEq
def ZW:V->Value->Prop
 |.non,u=>u=Value.none
 |.bl b,u=>u=Value.bool b
 |.int i,u=>∃t,u=Value.int i t
 |.str x,u=>∃t,u=Value.str x t
 |.byt b,u=>∃t,u=Value.bytes b t
 |.flt b,u=>∃t,u=Value.float b t
 |.ref a,u=>u=Value.ref a
 |.ty n,u=>u=Value.type n
abbrev ZI:List V->List Value->Prop:=Paired ZW
theorem ZI.length{xs:List V}{us:List Value}(r:ZI xs us):xs.length=us.length:=Paired.length r
theorem ZI.get:∀{xs:List V} {us:List Value} {i:Nat} {x:V},ZI xs us->xs[i]? = some x->∃u,us[i]? = some u/\ZW x u
 |_,_,_,_,.nil,e=>by simp at e
 |_,_,0,_,.cons r _,e=>by simp at e;subst e;exact⟨_,rfl,r⟩
 |_,_,i+1,x,.cons _ t,e=>by
  obtain⟨u,h1,h2⟩:=ZI.get (i:=i) (x:=x) t (by simpa using e);exact⟨u,by simpa using h1,h2⟩
theorem ZI.set{x:V}{u:Value}(r:ZW x u):∀{xs:List V} {us:List Value} (i:Nat),ZI xs us->ZI (xs.set i x) (us.set i u)
 |_,_,_,.nil=>.nil
 |_,_,0,.cons _ t=>.cons r t
 |_,_,i+1,.cons q t=>.cons q (ZI.set r i t)
theorem ZI.append:∀{xs ys:List V} {us ws:List Value},ZI xs us->ZI ys ws->ZI (xs++ys) (us++ws)
 |_,_,_,_,.nil,s=>s
 |_,_,_,_,.cons r t,s=>.cons r (ZI.append t s)
theorem ZI.take:∀{xs:List V} {us:List Value} (n:Nat),ZI xs us->ZI (xs.take n) (us.take n)
 |_,_,0,_=>.nil
 |_,_,_+1,.nil=>.nil
 |_,_,n+1,.cons r t=>.cons r (ZI.take n t)
theorem ZI.drop:∀{xs:List V} {us:List Value} (n:Nat),ZI xs us->ZI (xs.drop n) (us.drop n)
 |_,_,0,r=>r
 |_,_,_+1,.nil=>.nil
 |_,_,n+1,.cons _ t=>ZI.drop n t
def ZJw:Option V->Option Value->Prop
 |some v,some u=>ZW v u
 |none,none=>True
 |_,_=>False
def KV{κ : Type}:List (κ×V)->List (κ×Value)->Prop:=Paired λ(p : κ×V) (q : κ×Value)=>p.1=q.1/\ZW p.2 q.2
def kV:Key->V
 |.inl i=>.int i
 |.inr x=>.str x
inductive HO where
 /-- a list -/
 |lst (xs:List V)
 /-- a tuple (never changes) -/
 |tup (xs:List V)
 /-- a dict whose keys are ints and texts;one whose keys are tuples of ints and texts (the empty one is both) -/
 |dK (kvs:List (Key×V))|dT (kvs:List (List Key×V))
 /-- a set of ints: its members,its size -/
 |set (S:Int->Bool) (n:Nat)
 /-- an instance of the class at C,its dict at dx,its attributes -/
 |ins (C dx:Addr) (fs:List (Str×V))
 /-- the dict of the instance at x -/
 |own (x:Addr)
 /-- the dict of an exception -/
 |xd (fs:List (Str×V))
 /-- a bound method,f of x -/
 |met (f x:Addr)
 /-- a range object lo,lo+1,.. below hi -/
 |rng (lo hi:Int)
 /-- a thing that is known to the object (the script;a dict while a loop walks it): read,never written while it is so -/
 |frz (o:Obj) (u:HO)
 /-- a code object's table -/
 |tbl (ps:Array Value)
 /-- any other thing,by what is true of its one object (a def of one's own: SetO a S n:=HO.ext λh=>..) -/
 |ext (φ : Heap->Prop)
abbrev Hp:=Addr->Option HO
def upd(H:Hp)(a:Addr)(o:HO):Hp:=λb=>if b=a then some o else H b
theorem ZJ{H:Hp}{a:Addr}{o:HO}:upd H a o a=some o:=by unfold upd;rw[if_pos rfl]
theorem ZC{H:Hp}{a b:Addr}{o:HO}(h:b≠a):upd H a o b=H b:=by unfold upd;rw[if_neg h]
theorem ZH{H:Hp}{a b:Addr}{o:HO}(h:H a=some o)(h':H b=none):a≠b:=by
 intro e;subst e;rw[h] at h';cases h'
section
variable(P:Program)(w:World)
def Z0(H:Hp)(h:Heap)(a:Addr):HO->Prop
 |.lst xs=>xs.length<=sizeLine/\∃(its:List Value) (n:Nat),ZI xs its/\h.get? a=some { cls:=.type "list",data:=.seq its.toArray n }
 |.tup xs=>xs.length<=sizeLine/\∃its:List Value,ZI xs its/\IsTup h a its.toArray
 |.dK kvs=>kvs.length<=sizeLine/\(a == sysModules)=false/\∃vs,KV kvs vs/\h.DictOf (ZER P w) a vs
 |.dT kvs=>kvs.length<=sizeLine/\(a == sysModules)=false/\∃xs:List (List Key×Addr×Value),
   Paired (λ(p:List Key×V) (q:List Key×Addr×Value)=>p.1=q.1/\H q.2.1=some (.tup (p.1.map kV))/\ZW p.2 q.2.2) kvs xs /\
   ∃o es ep,h.get? a=some o/\o.ExactDict/\o.data=.dict es ep/\es.toList=xs.map (entryOfKey (tupleKind (ZER P w)))/\(xs.map (·.1)).Nodup
 |.set S n=>h.SetOf (intKind P w) a S n
 |.ins C dx fs=>H dx=some (.own a)/\fs.length<=1000/\dx≠a/\h.get? a=some (PySem.W.instObj C dx) /\
   ∃mA,h.Ns1 dx mA/\(∀f,ZJw (fs.lookup f) (mA f))/\PySem.Within mA (fs.map (·.1))
 |.own _=>∃o,h.get? a=some o
 |.xd fs=>∃mA,h.Ns1 a mA/\∀f,ZJw (fs.lookup f) (mA f)
 |.rng lo hi=>∃t u v,h.get? a=some { cls:=.type "range",data:=.fields #[.int lo t,.int hi u,.int 1 v] }
 |.frz o u=>h.get? a=some o/\Z0 H h a u
 |.tbl ps=>h.get? a=some { cls:=.none,data:=.fields ps }
 |.met f x=>h.get? a=some (PySem.W.methodObj (.ref f) (.ref x))
 |.ext φ=>φ h/\(∃o,h.get? a=some o)/\∀h1 h2:Heap,φ h1->(∀o,h1.get? a=some o->h2.get? a=some o)->φ h2
def HOk(H:Hp)(h:Heap):Prop:=∀a o,H a=some o->Z0 P w H h a o
end
section
variable{P:Program}{w:World}{H H':Hp}{h h':Heap}{a:Addr}{o:HO}
theorem Z0.lt(x:Z0 P w H h a o):a<h.objs.size:=by
 cases o with
 |lst xs=>obtain⟨_,_,_,_,e⟩:=x;exact lt_size e
 |tup xs=>obtain⟨_,_,_,p⟩:=x;exact p.lt
 |dK kvs=>obtain⟨_,_,_,_,o,_,_,e,_⟩:=x;exact lt_size e
 |dT kvs=>obtain⟨_,_,_,_,o,_,_,e,_⟩:=x;exact lt_size e
 |set S n=>obtain⟨o,_,_,_,e,_⟩:=x;exact lt_size e
 |ins C dx fs=>obtain⟨_,_,_,e,_⟩:=x;exact lt_size e
 |own y=>obtain⟨_,e⟩:=x;exact lt_size e
 |xd fs=>obtain⟨_,⟨_,_,_,e,_⟩,_⟩:=x;exact lt_size e
 |rng lo hi=>obtain⟨_,_,_,e⟩:=x;exact lt_size e
 |frz ob u=>obtain⟨e,_⟩:=x;exact lt_size e
 |tbl ps=>exact lt_size (show h.get? a=some _ from x)
 |met f y=>exact lt_size (show h.get? a=some _ from x)
 |ext φ=>obtain⟨_,⟨_,e⟩,_⟩:=x;exact lt_size e
theorem Paired.mapP{α β : Type}{F G : α->β->Prop}:∀{l₁ : List α} {l₂ : List β},Paired F l₁ l₂->(∀a b,F a b->G a b)->Paired G l₁ l₂
 |_,_,.nil,_=>.nil
 |_,_,.cons r t,f=>.cons (f _ _ r) (Paired.mapP t f)
theorem Z0.stay(x:Z0 P w H h a o)(k:∀b u,(b=a∨H b=some (.own a))->h.get? b=some u->h'.get? b=some u)
  (ho:∀b,H b=some (.own a)->H' b=some (.own a))(ht:∀b xs,H b=some (.tup xs)->H' b=some (.tup xs)):Z0 P w H' h' a o:=by
 induction o with
 |lst xs=>obtain⟨z,its,n,r,e⟩:=x;exact⟨z,its,n,r,k _ _ (.inl rfl) e⟩
 |tup xs=>obtain⟨z,its,r,ob,e,c⟩:=x;exact⟨z,its,r,ob,k _ _ (.inl rfl) e,c⟩
 |dK kvs=>obtain⟨z,y,vs,r,ob,es,ep,e,c⟩:=x;exact⟨z,y,vs,r,ob,es,ep,k _ _ (.inl rfl) e,c⟩
 |dT kvs =>
  obtain⟨z,y,xs,r,ob,es,ep,e,c⟩:=x;exact⟨z,y,xs,Paired.mapP r λp q z=>⟨z.1,ht _ _ z.2.1,z.2.2⟩,ob,es,ep,k _ _ (.inl rfl) e,c⟩
 |set S n=>obtain⟨ob,es,ep,t,e,c⟩:=x;exact⟨ob,es,ep,t,k _ _ (.inl rfl) e,c⟩
 |ins C dx fs =>
  obtain⟨d,z,ne,e,mA,⟨od,es,ep,e2,c⟩,r⟩:=x;exact⟨ho _ d,z,ne,k _ _ (.inl rfl) e,mA,⟨od,es,ep,k _ _ (.inr d) e2,c⟩,r⟩
 |own y=>obtain⟨ob,e⟩:=x;exact⟨ob,k _ _ (.inl rfl) e⟩
 |xd fs=>obtain⟨mA,⟨od,es,ep,e,c⟩,r⟩:=x;exact⟨mA,⟨od,es,ep,k _ _ (.inl rfl) e,c⟩,r⟩
 |rng lo hi=>obtain⟨t,u,v,e⟩:=x;exact⟨t,u,v,k _ _ (.inl rfl) e⟩
 |frz ob u ih=>obtain⟨e,q⟩:=x;exact⟨k _ _ (.inl rfl) e,ih q⟩
 |tbl ps =>
  have e:h.get? a=some { cls:=.none,data:=.fields ps }:=x;show h'.get? a=some { cls:=.none,data:=.fields ps };exact k a _ (.inl rfl) e
 |met f y =>
  have e:h.get? a=some (PySem.W.methodObj (.ref f) (.ref y)):=x;show h'.get? a=some (PySem.W.methodObj (.ref f) (.ref y));exact k a _ (.inl rfl) e
 |ext φ=>obtain⟨p,⟨o,e⟩,st⟩:=x;exact⟨st _ _ p λo q=>k _ _ (.inl rfl) q,⟨o,k _ _ (.inl rfl) e⟩,st⟩
theorem HOk.lt(x:HOk P w H h)(e:H a=some o):a<h.objs.size:=(x a o e).lt
theorem HOk.fresh(x:HOk P w H h)(e:h.objs.size<=a):H a=none:=by
 cases q:H a with
 |none=>rfl
 |some u=>exact absurd (lt_of_lt_of_le (x.lt q) e) (lt_irrefl _)
theorem HOk.kept(x:HOk P w H h)(k:∀b u,h.get? b=some u->h'.get? b=some u):HOk P w H h':=λa o e =>
 (x a o e).stay (λb u _ q=>k b u q) (λ_ q=>q) λ_ _ q=>q
theorem HOk.laid(x:HOk P w H h)(k:∀b u,h.get? b=some u->h'.get? b=some u)(hp:h.objs.size<=a)(new:Z0 P w (upd H a o) h' a o):HOk P w (upd H a o) h':=λb u e=>by
 have hn:=x.fresh hp
 by_cases hb:b=a
 ·subst hb;rw[ZJ] at e;cases e;exact new
 ·rw[ZC hb] at e
  exact(x b u e).stay (λc v _ q=>k c v q) (λc q=>by rw[ZC (ZH q hn)];exact q) λc xs q=>by rw[ZC (ZH q hn)];exact q
end
def Rd(H:Hp)(a:Addr)(u:HO):Prop:=H a=some u∨∃o,H a=some (.frz o u)
theorem Rd.ok{P:Program}{w:World}{H:Hp}{h:Heap}{a:Addr}{u:HO}(r:Rd H a u)(x:HOk P w H h):Z0 P w H h a u:=by
 rcases r with r|⟨o,r⟩
 ·exact x a u r
 ·obtain⟨_,q⟩:=x a _ r
  exact q
def Mut:Option HO->Prop
 |some (.lst _)=>True
 |some (.dK _)=>True
 |some (.dT _)=>True
 |some (.set _ _)=>True
 |some (.ins _ _ _)=>True
 |some (.ext _)=>True
 |_=>False
section
variable{P:Program}{w:World}{H:Hp}{h h':Heap}{x e:Addr}{o':HO}
theorem HOk.write(ok:HOk P w H h)(mu:Mut (H x))(he:e=x∨H e=some (.own x))(k:∀b u,b≠e->h.get? b=some u->h'.get? b=some u)(heo:∃u,h'.get? e=some u)
  (new:Z0 P w (upd H x o') h' x o'):HOk P w (upd H x o') h':=λb u q=>by
 have nown:∀c y,H c=some (.own y)->c≠x:=λc y r z=>by subst z;rw[r] at mu;exact mu
 have ntup:∀c xs,H c=some (.tup xs)->c≠x:=λc xs r z=>by subst z;rw[r] at mu;exact mu
 by_cases hb:b=x
 ·subst hb;rw[ZJ] at q;cases q;exact new
 ·rw[ZC hb] at q
  by_cases hbe:b=e
  ·have q':H b=some (.own x):=by
    rcases he with z|z
    ·exact absurd (hbe.trans z) hb
    ·rw[hbe];exact z
   rw[q] at q';cases q';obtain⟨v,hv⟩:=heo;exact⟨v,by rw[hbe];exact hv⟩
  ·refine(ok b u q).stay (λc v hc r=>k c v ?_ r) (λc r=>by rw[ZC (nown c b r)];exact r) λc xs r=>by rw[ZC (ntup c xs r)];exact r
   rcases hc with rfl|hc
   ·exact hbe
   ·rintro rfl
    rcases he with z|z
    ·exact nown c b hc z
    ·rw[hc] at z;cases z;exact hb rfl
end
structure Un (fs ex:List Addr) (H H':Hp) (h h':Heap):Prop where
 keep:∀b o,h.get? b=some o->H b=none->b∉fs->b∉ex->h'.get? b=some o
 slot:∀b o,h.get? b=some o->H b=none->b∈fs->b∉ex->∃sl,h'.get? b=some { o with slots:=sl }
 free:∀b o,h.get? b=some o->H b=none->b∉ex->H' b=none
 there:∀b o,h.get? b=some o->b∉ex->∃o',h'.get? b=some o'
 tups:∀b xs,H b=some (.tup xs)->H' b=some (.tup xs)
 frzs:∀b o u,H b=some (.frz o u)->H' b=some (.frz o u)
 tbls:∀b ps,H b=some (.tbl ps)->∃more,H' b=some (.tbl (ps++more))
section
variable{fs fs' ex ex':List Addr}{H H1 H2:Hp}{h h1 h2 h':Heap}{a x e:Addr}{o:HO}
theorem Un.any(u:Un fs ex H H1 h h1){b:Addr}{ob:Obj}(q:h.get? b=some ob)(n:H b=none)(hx:b∉ex):∃sl,h1.get? b=some { ob with slots:=sl }:=by
 by_cases hb:b∈fs
 ·exact u.slot b ob q n hb hx
 ·exact⟨ob.slots,u.keep b ob q n hb hx⟩
theorem Un.kept(k:∀b u,h.get? b=some u->h'.get? b=some u):Un fs ex H H h h' :=
 ⟨λb ob q _ _ _=>k b ob q,λb ob q _ _ _=>⟨ob.slots,k b ob q⟩,λ_ _ _ n _=>n,λb ob q _=>⟨ob,k b ob q⟩,λ_ _ q=>q,λ_ _ _ q=>q,λ_ ps q=>⟨#[],by rw[q];simp⟩⟩
theorem Un.refl:Un fs ex H H h h:=Un.kept λ_ _ q=>q
theorem Un.laid(k:∀b u,h.get? b=some u->h'.get? b=some u)(hp:h.objs.size<=a)(hn:H a=none):Un fs ex H (upd H a o) h h' where
 keep:=λb u q _ _ _=>k b u q
 slot:=λb u q _ _ _=>⟨u.slots,k b u q⟩
 free:=λb u q n _=>by rw[ZC (ne_of_lt (lt_of_lt_of_le (lt_size q) hp))];exact n
 there:=λb u q _=>⟨u,k b u q⟩
 tups:=λb xs q=>by rw[ZC (ZH q hn)];exact q
 frzs:=λb u xs q=>by rw[ZC (ZH q hn)];exact q
 tbls:=λb ps q=>⟨#[],by rw[ZC (ZH q hn),q];simp⟩
theorem Un.write(mu:Mut (H x))(he:e=x∨H e=some (.own x))(k:∀b u,b≠e->h.get? b=some u->h'.get? b=some u)(heo:∃u,h'.get? e=some u):Un fs ex H (upd H x o) h h':=by
 have hx:∀b,H b=none->b≠x:=λb n z=>by subst z;rw[n] at mu;exact mu
 have hb:∀b,H b=none->b≠e:=λb n z=>by
  subst z;rcases he with r|r
  ·exact hx b n r
  ·rw[n] at r;cases r
 have hm:∀b u,H b=some u->¬Mut (some u)->b≠x:=λb u q nm z=>by subst z;rw[q] at mu;exact nm mu
 refine⟨λb u q n _ _=>k b u (hb b n) q,λb u q n _ _=>⟨u.slots,k b u (hb b n) q⟩,λb u q n _=>by rw[ZC (hx b n)];exact n,λb u q _=>?_,
  λb xs q=>by rw[ZC (hm b _ q λz=>z)];exact q,λb u xs q=>by rw[ZC (hm b _ q λz=>z)];exact q,λb ps q=>⟨#[],by rw[ZC (hm b _ q λz=>z),q];simp⟩⟩
 by_cases hbe:b=e
 ·subst hbe;exact heo
 ·exact⟨u,k b u hbe q⟩
end
def trk(h:Heap)(H:Hp):List Addr:=(List.range h.objs.size).filter λa=>(H a).isSome
def ZCy(h:Heap)(H:Hp):Heap:=PySem.W.hideAll h (trk h H)
theorem ZE4(h:Heap)(H:Hp):(ZCy h H).objs.size=h.objs.size:=PySem.W.hideAll_size _ _
theorem ZFl{h:Heap}{H:Hp}{b:Addr}{o:Obj}(e:h.get? b=some o)(n:H b=none):(ZCy h H).get? b=some o :=
 PySem.W.hideAll_get _ e λhm=>by
  have q:(H b).isSome=true:=(List.mem_filter.mp hm).2;rw[n] at q;simp at q
theorem ZG7{h:Heap}{H:Hp}{b:Addr}{o:Obj}(e:(ZCy h H).get? b=some o):h.get? b=some o/\H b=none:=by
 have e':h.get? b=some o:=PySem.W.of_hideAll (trk h H) e;refine⟨e',?_⟩;cases q:H b with
 |none=>rfl
 |some x =>
  have hm:b∈trk h H:=List.mem_filter.mpr ⟨List.mem_range.mpr (lt_size e'),by simp[q]⟩;have z:(ZCy h H).get? b=none:=PySem.W.hideAll_none (trk h H) hm;rw[z] at e;cases e
structure Mod (K:PySem.W.Frag) (mg:Str->Option Value) (base:Heap):Prop where
 kin:K.In base
 glob:base.Ns mainGlobals mg
 blt:∃mb,base.Ns builtinsNs mb/\∀x:Str,x≠"__name__"->mb x=bootBuiltins x
 nolimit:base.NoLimit
structure Cx where
 prog:Program
 w:World
 K:PySem.W.Frag
 mg:Str->Option Value
 base:Heap
 A:Around
 N:List Str
 s₀ : Shared
 H₀ : Hp
 env:Env
 outer:List Env
 stack:List Env
 ex:List Addr
 fn:Str->Bool
 calm:Bool
 pn:List (Addr×Obj)
 xe:Value->Shared->Prop
def frs(l:List Env):List Addr:=l.filterMap (·.frame)
abbrev Cx.fs(X:Cx):List Addr:=frs X.outer
def Vis(sc:Scope)(x:Str):Prop:=sc.names.lookup x=some .local∨sc.names.lookup x=some .cell∨sc.names.lookup x=some .free
def Loc(sc:Scope)(x:Str):Prop:=sc.names.lookup x=some .local∨sc.names.lookup x=some .cell
def Look(env:Env)(h:Heap)(m:Str->Option Value)(x:Str)(u:Value):Prop :=
 (env.kindOf x=some .local/\m x=some u)∨((env.kindOf x=some .cell∨env.kindOf x=some .free)/\∃c,env.cells.lookup x=some c/\h.IsCell c (some u))
structure Cx.Ok (X:Cx):Prop where
 mod:Mod X.K X.mg X.base
 kind:X.env.scope.kind=.function
 glob:X.env.globals=mainGlobals
 blt:X.env.builtins=builtinsNs
 above:X.s₀.heap.objs.size<=X.env.locals
 inj:∀x y c,X.env.cells.lookup x=some c->X.env.cells.lookup y=some c->x=y
 has:∀x,(X.env.kindOf x=some .cell∨X.env.kindOf x=some .free)->∃c,X.env.cells.lookup x=some c
 cab:∀x c,X.fn x=true->X.env.cells.lookup x=some c->X.s₀.heap.objs.size<=c
 hd:X.calm=true->X.A.handled=none
 frames:X.A.frames=some X.stack
 stk:X.stack=X.outer∨(X.stack=X.env::X.outer/\X.env.frame=some X.env.locals)
 exf:∀b∈X.ex,b≠X.env.locals/\∀x c,X.env.cells.lookup x=some c->c≠b
 bs:∀b o,X.base.get? b=some o->X.s₀.heap.get? b=some o/\X.H₀ b=none
 bsz:X.base.objs.size<=X.s₀.heap.objs.size
 noex:∀b o,X.base.get? b=some o->b∉X.ex
 exfs:∀b∈X.ex,b∉X.fs
 funs:X.s₀.heap.FunFrames X.base X.outer
 frf:∀b∈X.fs,X.H₀ b=none
structure Inv (X:Cx) (pins:List (Addr×Obj)) (σ : List (Option V)) (H:Hp) (s:Shared):Prop where
 ok:X.Ok
 os:s.os=X.s₀.os
 bare:AllBare s.gens
 base:Un X.fs X.ex X.H₀ H X.s₀.heap s.heap
 loc:∃m,s.heap.Ns X.env.locals m/\∀(i:Nat) (x:Str) (v:V),X.N[i]? = some x->σ[i]? = some (some v)->Vis X.env.scope x->∃u,ZW v u/\Look X.env s.heap m x u
 cell:∀x c,X.env.cells.lookup x=some c->∃v,s.heap.IsCell c v
 free:H X.env.locals=none
 freeC:∀x c,X.env.cells.lookup x=some c->H c=none
 pin:∀p∈X.pn++pins,s.heap.get? p.1=some p.2/\H p.1=none/\p.1≠X.env.locals/\p.1∉X.fs/\∀v,p.2.data≠.cell v
 hok:HOk X.prog X.w H s.heap
 len : σ.length=X.N.length
section
variable{X:Cx}{pins:List (Addr×Obj)}{σ : List (Option V)}{H H':Hp}{s:Shared}{h':Heap}
theorem Cx.Ok.nofr(ok:X.Ok){b:Addr}{o:Obj}(e:X.base.get? b=some o):b∉X.fs:=λhb=>by
 have:=(ok.funs.mem hb).1;rw[e] at this;cases this
theorem Inv.bs(I:Inv X pins σ H s):∀b o,X.base.get? b=some o->s.heap.get? b=some o/\H b=none:=λb o e =>
 ⟨I.base.keep b o (I.ok.bs b o e).1 (I.ok.bs b o e).2 (I.ok.nofr e) (I.ok.noex b o e),I.base.free b o (I.ok.bs b o e).1 (I.ok.bs b o e).2 (I.ok.noex b o e)⟩
theorem Inv.bk(I:Inv X pins σ H s):∀b o,X.base.get? b=some o->s.heap.get? b=some o:=λb o e=>(I.bs b o e).1
theorem Inv.mod(I:Inv X pins σ H s):Mod X.K X.mg X.base:=I.ok.mod
theorem Inv.kIn(I:Inv X pins σ H s):X.K.In s.heap:=I.ok.mod.kin.keeps I.bk
theorem Inv.lt(I:Inv X pins σ H s):X.env.locals<s.heap.objs.size:=let ⟨_,hn,_⟩:=I.loc;hn.lt
theorem Inv.sz(I:Inv X pins σ H s):X.s₀.heap.objs.size<=s.heap.objs.size:=le_trans I.ok.above (le_of_lt I.lt)
theorem Inv.nofs(I:Inv X pins σ H s){a:Addr}(h:s.heap.objs.size<=a):a∉X.fs:=λhb=>by
 obtain⟨_,o,ho,_⟩:=I.ok.funs.mem hb;exact absurd (lt_of_lt_of_le (lt_size ho) (le_trans I.sz h)) (lt_irrefl _)
theorem Inv.cne(I:Inv X pins σ H s):∀x c,X.env.cells.lookup x=some c->c≠X.env.locals:=λx c e z=>by
 obtain⟨v,o,ho,hd⟩:=I.cell x c e;obtain⟨m,⟨o',es,ep,ho',hd',_⟩,_⟩:=I.loc;rw[z,ho'] at ho;cases ho;rw[hd'] at hd;cases hd
theorem Inv.funs(I:Inv X pins σ H s):s.heap.FunFrames X.base X.outer:=by
 have all:∀(l:List Env),(∀b∈frs l,b∈X.fs)->X.s₀.heap.FunFrames X.base l->s.heap.FunFrames X.base l:=by
  intro l
  induction l with
  |nil=>intro _ _;trivial
  |cons env r ih =>
   intro hs hl;obtain⟨hk,⟨L,o,hf,hn,ho,hd⟩,hr⟩:=hl;have hL:L∈X.fs:=hs L (by unfold frs;rw[List.filterMap_cons,hf];exact mem_cons_self);obtain⟨sl,e⟩:=I.base.slot L o ho (I.ok.frf L hL) hL λz=>I.ok.exfs L z hL
   exact⟨hk,⟨L,_,hf,hn,e,hd⟩,ih (λb hb=>hs b (by unfold frs;rw[List.filterMap_cons,hf];exact mem_cons_of_mem _ hb)) hr⟩
 exact all X.outer (λ_ hb=>hb) I.ok.funs
theorem Inv.stack(I:Inv X pins σ H s):s.heap.FunFrames X.base X.stack:=by
 rcases I.ok.stk with e|⟨e,hf⟩
 ·rw[e];exact I.funs
 ·rw[e]
  obtain⟨m,hn,_⟩:=I.loc;refine .cons (by rw[I.ok.kind];decide) hf hn ?_ I.funs;exact Heap.get?_none_of_le (le_trans I.ok.bsz I.ok.above)
theorem Inv.stkSub(I:Inv X pins σ H s):∀b∈frs X.stack,b∈X.env.locals::X.fs:=λb hb=>by
 rcases I.ok.stk with e|⟨e,hf⟩
 ·rw[e] at hb;exact mem_cons_of_mem _ hb
 ·rw[e] at hb
  unfold frs at hb;rw[List.filterMap_cons,hf] at hb;exact hb
theorem Inv.stkFree(I:Inv X pins σ H s):∀b∈frs X.stack,H b=none:=λb hb=>by
 rcases List.mem_cons.mp (I.stkSub b hb) with e|hb
 ·rw[e];exact I.free
 ·obtain⟨_,o,ho,_⟩:=I.ok.funs.mem hb
  exact I.base.free b o ho (I.ok.frf b hb) λz=>I.ok.exfs b z hb
theorem Inv.step{g':Array GenState}{t':Nat}{d':Drawn}{ch:List Addr}(I:Inv X pins σ H s)
  (hch:∀b∈ch,(b∈X.ex∨X.s₀.heap.objs.size<=b)/\b≠X.env.locals/\(∀x c,X.env.cells.lookup x=some c->c≠b)/\∀p∈X.pn++pins,p.1≠b)
  (keep:∀b o,b≠X.env.locals->b∉X.fs->b∉ch->s.heap.get? b=some o->H b=none->h'.get? b=some o)
  (slot:∀b o,b≠X.env.locals->b∈X.fs->b∉ch->s.heap.get? b=some o->H b=none->∃sl,h'.get? b=some { o with slots:=sl })(free:∀b o,b∉ch->s.heap.get? b=some o->H b=none->H' b=none)
  (there:∀b o,b∉ch->s.heap.get? b=some o->∃o',h'.get? b=some o')
  (tups:∀b xs,H b=some (.tup xs)->H' b=some (.tup xs))(frzs:∀b o u,H b=some (.frz o u)->H' b=some (.frz o u))(tbls:∀b ps,H b=some (.tbl ps)->∃more,H' b=some (.tbl (ps++more)))
  (ns:∀m,s.heap.Ns X.env.locals m->h'.Ns X.env.locals m)(hok:HOk X.prog X.w H' h')(hg:AllBare g') :
  Inv X pins σ H' { s with heap:=h',gens:=g',drawn:=d',toks:=t' }:=by
 have neL:∀b o,X.s₀.heap.get? b=some o->b≠X.env.locals:=λb o e=>ne_of_lt (lt_of_lt_of_le (lt_size e) I.ok.above)
 have neC:∀b o,X.s₀.heap.get? b=some o->b∉X.ex->b∉ch:=λb o e hx hb=>by
  rcases(hch b hb).1 with z|z
  ·exact hx z
  ·exact absurd (lt_of_lt_of_le (lt_size e) z) (lt_irrefl _)
 have cellK:∀x c,X.env.cells.lookup x=some c->∀v,s.heap.IsCell c v->h'.IsCell c v:=λx c e v ⟨o,ho,hd⟩=>by
  have nch:c∉ch:=λz=>(hch c z).2.2.1 x c e rfl
  by_cases hc:c∈X.fs
  ·obtain⟨sl,q⟩:=slot c o (I.cne x c e) hc nch ho (I.freeC x c e)
   exact⟨_,q,hd⟩
  ·exact⟨o,keep c o (I.cne x c e) hc nch ho (I.freeC x c e),hd⟩
 refine⟨I.ok,I.os,hg,⟨λb o e n hb hx=>?_,λb o e n hb hx=>?_,λb o e n hx=>?_,λb o e hx=>?_,λb xs e=>tups b xs (I.base.tups b xs e),λb o xs e=>frzs b o xs (I.base.frzs b o xs e),λb ps e=>?_⟩,?_,λx c e=>?_,?_,λx c e=>?_,λp hp=>?_,hok,I.len⟩
 ·exact keep b o (neL b o e) hb (neC b o e hx) (I.base.keep b o e n hb hx) (I.base.free b o e n hx)
 ·obtain⟨sl,e1⟩:=I.base.slot b o e n hb hx
  obtain⟨sl',e2⟩:=slot b _ (neL b o e) hb (neC b o e hx) e1 (I.base.free b o e n hx);exact⟨sl',e2⟩
 ·obtain⟨o',e1⟩:=I.base.there b o e hx
  exact free b o' (neC b o e hx) e1 (I.base.free b o e n hx)
 ·obtain⟨o',e1⟩:=I.base.there b o e hx
  exact there b o' (neC b o e hx) e1
 ·obtain⟨m1,e1⟩:=I.base.tbls b ps e
  obtain⟨m2,e2⟩:=tbls b _ e1;exact⟨m1++m2,by rw[e2,Array.append_assoc]⟩
 ·obtain⟨m,hn,hl⟩:=I.loc
  refine⟨m,ns m hn,λi x v e1 e2 e3=>?_⟩;obtain⟨u,r,l⟩:=hl i x v e1 e2 e3;refine⟨u,r,?_⟩;rcases l with l|⟨k,c,e,z⟩
  ·exact .inl l
  ·exact .inr ⟨k,c,e,cellK x c e _ z⟩
 ·obtain⟨v,z⟩:=I.cell x c e
  exact⟨v,cellK x c e v z⟩
 ·obtain⟨m,⟨o,_,_,ho,_⟩,_⟩:=I.loc
  exact free _ o (λz=>(hch _ z).2.1 rfl) ho I.free
 ·obtain⟨v,o,ho,hd⟩:=I.cell x c e
  exact free c o (λz=>(hch c z).2.2.1 x c e rfl) ho (I.freeC x c e)
 ·obtain⟨e,n,ne,nf,d⟩:=I.pin p hp
  have nch:p.1∉ch:=λz=>(hch p.1 z).2.2.2 p hp rfl
  exact⟨keep p.1 p.2 ne nf nch e n,free p.1 p.2 nch e n,ne,nf,d⟩
theorem Inv.un{t':Nat}(I:Inv X pins σ H s)(u:Un X.fs [] H H' s.heap h')(hok:HOk X.prog X.w H' h'):Inv X pins σ H' { s with heap:=h',toks:=t' }:=by
 obtain ⟨m,⟨o,es,ep,ho,r⟩,_⟩:=id I.loc;obtain ⟨sl,hL⟩:=u.any ho I.free (by simp);exact I.step (g':=s.gens) (d':=s.drawn) (ch:=[]) (λ _ z=>nomatch z) (λ b o _ hb _ e n=>u.keep b o e n hb (by simp)) (λ b o _ hb _ e n=>u.slot b o e n hb (by simp)) (λ b o _ e n=>u.free b o e n (by simp)) (λ b o _ e=>u.there b o e (by simp)) u.tups u.frzs u.tbls (λ m' hm=>by
  obtain⟨o',es',ep',ho',r'⟩:=hm;rw[ho] at ho';cases ho';exact⟨_,es',ep',hL,r'⟩) hok I.bare
theorem Inv.call{g':Array GenState}{t':Nat}{d':Drawn}{ch:List Addr}(I:Inv X pins σ H s)(u:Un (frs X.stack) ch H H' s.heap h')(hok:HOk X.prog X.w H' h')(hg:AllBare g')
  (hch:∀b∈ch,(b∈X.ex∨X.s₀.heap.objs.size<=b)/\b≠X.env.locals/\(∀x c,X.env.cells.lookup x=some c->c≠b)/\∀p∈X.pn++pins,p.1≠b) :
  Inv X pins σ H' { s with heap:=h',gens:=g',drawn:=d',toks:=t' }:=by
 obtain⟨m,⟨o,es,ep,ho,r⟩,_⟩:=id I.loc;obtain⟨sl,hL⟩:=u.any ho I.free λz=>(hch _ z).2.1 rfl
 exact I.step (ch:=ch) hch (λ b o hL hb hc e n=>u.keep b o e n (λ z=>(List.mem_cons.mp (I.stkSub b z)).elim hL hb) hc) (λ b o _ _ hc e n=>u.any e n hc) (λ b o hc e n=>u.free b o e n hc) (λ b o hc e=>u.there b o e hc) u.tups u.frzs u.tbls (λ m' hm=>by
  obtain⟨o',es',ep',ho',r'⟩:=hm;rw[ho] at ho';cases ho';exact⟨_,es',ep',hL,r'⟩) hok hg
theorem Inv.turned{t':Nat}{it:Addr}(I:Inv X pins σ H s)(k:∀b o,b≠it->s.heap.get? b=some o->h'.get? b=some o)(hn:H it=none)(hL:it≠X.env.locals)
  (h1:it∈X.ex∨X.s₀.heap.objs.size<=it)(h2:∀x c,X.env.cells.lookup x=some c->c≠it)(h3:∀p∈X.pn++pins,p.1≠it):Inv X pins σ H { s with heap:=h',toks:=t' }:=by
 have nit:∀b u,H b=some u->b≠it:=λb u e z=>by rw[z,hn] at e;cases e
 refine I.step (g':=s.gens) (d':=s.drawn) (ch:=[it]) (λb hb=>?_) (λb o _ _ hc e _=>k b o (λz=>hc (by simp[z])) e) (λb o _ _ hc e _=>⟨o.slots,k b o (λz=>hc (by simp[z])) e⟩) (λ_ _ _ _ n=>n)
  (λb o hc e=>⟨o,k b o (λz=>hc (by simp[z])) e⟩) (λ_ _ e=>e) (λ_ _ _ e=>e) (λb ps e=>⟨#[],by rw[e];simp⟩) (λm hm=>?_) (λb u e=>?_) I.bare
 ·have e:b=it:=by simpa using hb
  subst e;exact⟨h1,hL,h2,h3⟩
 ·obtain⟨o,es,ep,ho,r⟩:=hm
  exact⟨o,es,ep,k _ o (Ne.symm hL) ho,r⟩
 ·refine(I.hok b u e).stay (λc v hc q=>k c v ?_ q) (λ_ q=>q) λ_ _ q=>q
  rcases hc with z|z
  ·rw[z];exact nit b u e
  ·exact nit c _ z
theorem Inv.tok(I:Inv X pins σ H s)(t:Nat):Inv X pins σ H { s with toks:=t }:=I.un (h':=s.heap) (t':=t) Un.refl I.hok
theorem Inv.kept{t':Nat}(I:Inv X pins σ H s)(k:∀b u,s.heap.get? b=some u->h'.get? b=some u):Inv X pins σ H { s with heap:=h',toks:=t' }:=I.un (Un.kept k) (I.hok.kept k)
theorem Inv.laid{a:Addr}{o:HO}{t':Nat}(I:Inv X pins σ H s)(k:∀b u,s.heap.get? b=some u->h'.get? b=some u)(hp:s.heap.objs.size<=a)(new:Z0 X.prog X.w (upd H a o) h' a o) :
  Inv X pins σ (upd H a o) { s with heap:=h',toks:=t' }:=I.un (Un.laid k hp (I.hok.fresh hp)) (I.hok.laid k hp new)
theorem Inv.write{x e:Addr}{o:HO}{t':Nat}(I:Inv X pins σ H s)(mu:Mut (H x))(he:e=x∨H e=some (.own x))(k:∀b u,b≠e->s.heap.get? b=some u->h'.get? b=some u)(heo:∃u,h'.get? e=some u)
  (new:Z0 X.prog X.w (upd H x o) h' x o):Inv X pins σ (upd H x o) { s with heap:=h',toks:=t' }:=I.un (Un.write mu he k heo) (I.hok.write mu he k heo new)
theorem Inv.weak{σ':List (Option V)}(I:Inv X pins σ H s)(hl : σ'.length = σ.length)(w:∀(i:Nat) v,σ'[i]? = some (some v)->σ[i]? = some (some v)):Inv X pins σ' H s :=
 ⟨I.ok,I.os,I.bare,I.base,let ⟨m,hn,hl'⟩:=I.loc;⟨m,hn,λi x v e1 e2 e3=>hl' i x v e1 (w i v e2) e3⟩,I.cell,I.free,I.freeC,I.pin,I.hok,hl.trans I.len⟩
theorem Inv.pins_of{pins':List (Addr×Obj)}(I:Inv X pins σ H s)(h:∀p∈pins',s.heap.get? p.1=some p.2/\H p.1=none/\p.1≠X.env.locals/\p.1∉X.fs/\∀v,p.2.data≠.cell v):Inv X pins' σ H s :=
 ⟨I.ok,I.os,I.bare,I.base,I.loc,I.cell,I.free,I.freeC,λp hp=>(List.mem_append.mp hp).elim (λz=>I.pin p (List.mem_append_left _ z)) (h p),I.hok,I.len⟩
theorem ZDb{N:List Str}(hN:N.Nodup){i j:Nat}{x:Str}(a:N[i]? = some x)(b:N[j]? = some x):i=j:=by
 obtain⟨h1,e1⟩:=List.getElem?_eq_some_iff.mp a;obtain⟨h2,e2⟩:=List.getElem?_eq_some_iff.mp b;exact(List.getElem_inj hN).mp (e1.trans e2.symm)
theorem ZCj{M:Model}{A:Around}{E:Value->Shared->Prop}{i:Nat}{x:Str}{v:V}{u:Value}{Q:Unit->Shared->Prop}(I:Inv X pins σ H s)(hN:X.N.Nodup)(hi:X.N[i]? = some x)(hx:Loc X.env.scope x)(r:ZW v u)
  (h:∀s',Inv X pins (σ.set i (some v)) H s'->(∃a,Heap.SameBut a s.heap s'.heap/\(a=X.env.locals∨X.env.cells.lookup x=some a))->Q () s')(hf:X.fn x=true∨X.env.scope.names.lookup x=some .local:=by first|exact .inl rfl|exact .inr rfl|assumption):wpAny M A (storeName X.env x u) Q E s:=by
 obtain⟨m,hn,hl⟩:=id I.loc;have hcls:(X.env.scope.kind == .class || (X.env.scope.kind == .module && X.env.locals != X.env.globals))=false:=by rw[I.ok.kind];rfl
 have hiσ : i<σ.length:=by rw[I.len];exact(List.getElem?_eq_some_iff.mp hi).1
 have cne:=I.cne;have tracked:∀{a:Addr} {h':Heap},(∃o,s.heap.get? a=some o/\H a=none)->Heap.SameBut a s.heap h'->HOk X.prog X.w H h':=λ{a h'} ha hs b ob e=>by
  obtain⟨_,_,hfree⟩:=ha;refine(I.hok b ob e).stay (λc w' hc q=>(hs.2 c ?_).trans q) (λ_ q=>q) λ_ _ q=>q
  rintro rfl
  rcases hc with rfl|hc
  ·rw[hfree] at e;cases e
  ·rw[hfree] at hc;cases hc
 rcases hx with hk|hk
 ·refine wpAny_storeName_local hk hn (λh' hn' hs=>?_) hcls
  obtain⟨oL,_,_,hoL,_⟩:=id hn;refine h _ ⟨I.ok,I.os,I.bare,⟨λb o e n hb hx=>?_,λb o e n hb hx=>?_,I.base.free,λb o e hx=>?_,I.base.tups,I.base.frzs,I.base.tbls⟩,⟨_,hn',λj y v' e1 e2 e3=>?_⟩,λy c e=>?_,I.free,I.freeC,λp hp=>?_,tracked ⟨oL,hoL,I.free⟩ hs,by simpa using I.len⟩ ⟨_,hs,.inl rfl⟩
  ·exact(hs.2 b (ne_of_lt (lt_of_lt_of_le (lt_size e) I.ok.above))).trans (I.base.keep b o e n hb hx)
  ·obtain⟨sl,e1⟩:=I.base.slot b o e n hb hx
   exact⟨sl,(hs.2 b (ne_of_lt (lt_of_lt_of_le (lt_size e) I.ok.above))).trans e1⟩
  ·obtain⟨o',e1⟩:=I.base.there b o e hx
   exact⟨o',(hs.2 b (ne_of_lt (lt_of_lt_of_le (lt_size e) I.ok.above))).trans e1⟩
  ·by_cases hj:j=i
   ·subst hj
    rw[hi] at e1;cases e1;rw[getElem?_set_self hiσ] at e2;cases e2;exact⟨u,r,.inl ⟨hk,by simp⟩⟩
   ·rw[getElem?_set_ne (Ne.symm hj)] at e2
    obtain⟨u',r',q⟩:=hl j y v' e1 e2 e3;refine⟨u',r',?_⟩;rcases q with ⟨k,e⟩|⟨k,c,e,z⟩
    ·refine .inl ⟨k,?_⟩
     have:y≠x:=λe=>hj (ZDb hN e1 (e ▸ hi))
     simp[this,e]
    ·exact .inr ⟨k,c,e,z.sameBut hs (cne y c e)⟩
  ·obtain⟨w',z⟩:=I.cell y c e
   exact⟨w',z.sameBut hs (cne y c e)⟩
  ·obtain⟨e,n,ne,nf,d⟩:=I.pin p hp
   exact⟨(hs.2 p.1 ne).trans e,n,ne,nf,d⟩
 ·have hfn:X.fn x=true:=by
   rcases hf with z|z
   ·exact z
   ·rw[z] at hk;cases hk
  obtain⟨c,hc⟩:=I.ok.has x (.inl hk);obtain⟨w',z⟩:=I.cell x c hc;refine wpAny_storeName_cell I.ok.kind hk hc z (λh' hc' hs=>?_);obtain⟨oc,hoc,hocd⟩:=id z;refine h { s with heap:=h' } ⟨I.ok,I.os,I.bare,⟨λb o e n hb hx=>?_,λb o e n hb hx=>?_,I.base.free,λb o e hx=>?_,I.base.tups,I.base.frzs,I.base.tbls⟩,⟨m,hn.sameBut hs (Ne.symm (cne x c hc)),λj y v' e1 e2 e3=>?_⟩,λy c' e=>?_,I.free,I.freeC,λp hp=>?_,tracked ⟨oc,hoc,I.freeC x c hc⟩ hs,by simpa using I.len⟩ ⟨c,hs,.inr hc⟩
  ·exact(hs.2 b (ne_of_lt (lt_of_lt_of_le (lt_size e) (I.ok.cab x c hfn hc)))).trans (I.base.keep b o e n hb hx)
  ·obtain⟨sl,e1⟩:=I.base.slot b o e n hb hx
   exact⟨sl,(hs.2 b (ne_of_lt (lt_of_lt_of_le (lt_size e) (I.ok.cab x c hfn hc)))).trans e1⟩
  ·obtain⟨o',e1⟩:=I.base.there b o e hx
   exact⟨o',(hs.2 b (ne_of_lt (lt_of_lt_of_le (lt_size e) (I.ok.cab x c hfn hc)))).trans e1⟩
  ·by_cases hj:j=i
   ·subst hj
    rw[hi] at e1;cases e1;rw[getElem?_set_self hiσ] at e2;cases e2;exact⟨u,r,.inr ⟨.inl hk,c,hc,hc'⟩⟩
   ·rw[getElem?_set_ne (Ne.symm hj)] at e2
    obtain⟨u',r',q⟩:=hl j y v' e1 e2 e3;refine⟨u',r',?_⟩;rcases q with q|⟨k,c',e,z'⟩
    ·exact .inl q
    ·refine .inr ⟨k,c',e,z'.sameBut hs ?_⟩
     rintro rfl
     exact hj (ZDb hN e1 (I.ok.inj _ _ _ e hc ▸ hi))
  ·by_cases hcc:c'=c
   ·subst hcc;exact⟨_,hc'⟩
   ·obtain⟨w2,z2⟩:=I.cell y c' e
    exact⟨w2,z2.sameBut hs hcc⟩
  ·obtain⟨e,n,ne,nf,d⟩:=I.pin p hp
   refine⟨(hs.2 p.1 ?_).trans e,n,ne,nf,d⟩;intro q;rw[q,hoc] at e;have q':oc=p.2:=Option.some.inj e;exact d w' (by rw[←q'];exact hocd)
theorem ZDP{M:Model}{A:Around}{E:Value->Shared->Prop}{i:Nat}{x:Str}{v:V}{u:Value}{Q:Unit->Shared->Prop}(I:Inv X pins σ H s)(hN:X.N.Nodup)(hi:X.N[i]? = some x)(hx:Loc X.env.scope x)(r:ZW v u)
  (h:∀s',Inv X pins (σ.set i (some v)) H s'->Q () s')(hf:X.fn x=true∨X.env.scope.names.lookup x=some .local:=by first|exact .inl rfl|exact .inr rfl|assumption):wpAny M A (storeName X.env x u) Q E s :=
 ZCj I hN hi hx r (λs' I' _=>h s' I') hf
theorem Inv.call'{s':Shared}{ch:List Addr}(I:Inv X pins σ H s)(ho:s'.os=s.os)(u:Un (frs X.stack) ch H H' s.heap s'.heap)(hok:HOk X.prog X.w H' s'.heap)(hg:AllBare s'.gens)
  (hch:∀b∈ch,(b∈X.ex∨X.s₀.heap.objs.size<=b)/\b≠X.env.locals/\(∀x c,X.env.cells.lookup x=some c->c≠b)/\∀p∈X.pn++pins,p.1≠b):Inv X pins σ H' s':=by
 obtain⟨h',g',d',t',o'⟩:=s';have e:o'=s.os:=ho;subst e;exact I.call (g':=g') (t':=t') (d':=d') u hok hg hch
end
abbrev XK:=Value->Option Addr->Hp->Prop
abbrev St:=List (Option V)
abbrev VK:=V->Hp->Prop
abbrev TE:=St->Hp->VK->Prop
abbrev TT:=St->Hp->(Bool->Hp->Prop)->Prop
abbrev TA:=St->Hp->(List V->Hp->Prop)->Prop
structure Ends where
 nx:St->Hp->Prop
 rt:VK
 bk:St->Hp->Prop:=λ_ _=>False
 ct:St->Hp->Prop:=λ_ _=>False
abbrev TS:=Ends->St->Hp->Prop
def EP(X:Cx)(pins:List (Addr×Obj))(σ : St)(Q:VK)(u:Value)(s':Shared):Prop:=∃v H',Inv X pins σ H' s'/\ZW v u/\Q v H'
def TP(X:Cx)(pins:List (Addr×Obj))(σ : St)(Q:Bool->Hp->Prop)(b:Bool)(s':Shared):Prop:=∃H',Inv X pins σ H' s'/\Q b H'
def AP(X:Cx)(pins:List (Addr×Obj))(σ : St)(Q:List V->Hp->Prop)(us:List Value)(s':Shared):Prop:=∃vs H',Inv X pins σ H' s'/\ZI vs us/\Q vs H'
def SP(X:Cx)(pins:List (Addr×Obj))(D:Ends)(f:Flow)(s':Shared):Prop :=
 match f with
 |.next=>∃σ' H',Inv X pins σ' H' s'/\D.nx σ' H'
 |.brk=>∃σ' H',Inv X pins σ' H' s'/\D.bk σ' H'
 |.cont=>∃σ' H',Inv X pins σ' H' s'/\D.ct σ' H'
 |.ret u=>∃v σ' H',Inv X pins σ' H' s'/\ZW v u/\D.rt v H'
def PE(X:Cx)(e:Expr)(t:TE):Prop :=
 ∀(pins:List (Addr×Obj)) (s:Shared) (σ : St) (H:Hp) (Q:VK),Inv X pins σ H s->t σ H Q->wpAny (model X.prog X.w) X.A (eval e X.env) (EP X pins σ Q) X.xe s
def PT(X:Cx)(e:Expr)(t:TT):Prop :=
 ∀(pins:List (Addr×Obj)) (s:Shared) (σ : St) (H:Hp) (Q:Bool->Hp->Prop),Inv X pins σ H s->t σ H Q->wpAny (model X.prog X.w) X.A (isTrue e X.env (eval e X.env)) (TP X pins σ Q) X.xe s
def PW(X:Cx)(e:Expr)(t:TT):Prop :=
 ∀(whole:Sem Value) (pins:List (Addr×Obj)) (s:Shared) (σ : St) (H:Hp) (Q:Bool->Hp->Prop),Inv X pins σ H s->t σ H Q->wpAny (model X.prog X.w) X.A (isTrue e X.env whole) (TP X pins σ Q) X.xe s
theorem PW.pt{X:Cx}{e:Expr}{t:TT}(h:PW X e t):PT X e t:=h _
def PA(X:Cx)(es:List Expr)(t:TA):Prop :=
 ∀(pos:Pos) (pins:List (Addr×Obj)) (s:Shared) (σ : St) (H:Hp) (Q:List V->Hp->Prop),Inv X pins σ H s->t σ H Q->wpAny (model X.prog X.w) X.A (spliced (backTo pos (starEach es X.env))) (AP X pins σ Q) X.xe s
def PS(X:Cx)(st:Stmt)(t:TS):Prop :=
 ∀(pins:List (Addr×Obj)) (s:Shared) (σ : St) (H:Hp) (D:Ends),Inv X pins σ H s->t D σ H->wpAny (model X.prog X.w) X.A (exec st X.env) (SP X pins D) X.xe s
def PSs(X:Cx)(st:List Stmt)(t:TS):Prop :=
 ∀(pins:List (Addr×Obj)) (s:Shared) (σ : St) (H:Hp) (D:Ends),Inv X pins σ H s->t D σ H->wpAny (model X.prog X.w) X.A (execs st X.env) (SP X pins D) X.xe s
theorem thn{α : Type}{t:Sem α}{Q Q' : α->Shared->Prop}{M:Model}{A:Around}{E:Value->Shared->Prop}{s:Shared}(h:wpAny M A t Q E s)(hQ:∀a s,Q a s->Q' a s):wpAny M A t Q' E s:=wpAny_mono h hQ λ_ _ x=>x
section
variable{X:Cx}
def tVar(i:Nat):TE:=λσ H Q=>∃v,σ[i]? = some (some v)/\Q v H
def tC(v:V):TE:=λ_ H Q=>Q v H
theorem ZIF{i:Nat}{x:Str}{pos:Pos}(hN:X.N[i]? = some x)(hv:Vis X.env.scope x)(hd:(x == ("__debug__" : Str))=false:=by decide)(hcd:(x == ("__classdict__" : Str))=false:=by decide):PE X (.Name x pos) (tVar i):=by
 intro pins s σ H Q I h;obtain⟨v,e,h⟩:=h;obtain⟨m,hn,hl⟩:=I.loc;obtain⟨u,r,l⟩:=hl i x v hN e hv;have fin:EP X pins σ Q u s:=⟨v,H,I,r,h⟩;rcases l with ⟨hk,hm⟩|⟨hk,c,hc,hcell⟩
 ·exact wpAny_Name (wpAny_loadName_local I.ok.kind hk hn hm fin) hd
 ·rcases hk with hk|hk
  ·exact wpAny_Name (wpAny_loadName_cell I.ok.kind hk hc hcell fin) hd
  ·exact wpAny_Name (wpAny_loadName_free I.ok.kind hk hc hcell fin hcd) hd
theorem ZD4{i j pos}:PE X (.Constant (.int i) j pos) (tC (.int i)):=λ_ _ _ H _ I h=>wpAny_Constant_int ⟨.int i,H,I.tok _,⟨_,rfl⟩,h⟩
theorem pe_bl{b j pos}:PE X (.Constant (.bool b) j pos) (tC (.bl b)):=λ_ _ _ H _ I h=>Constant_bool ⟨.bl b,H,I,rfl,h⟩
theorem ZIG{j pos}:PE X (.Constant .none j pos) (tC .non):=λ_ _ _ H _ I h=>Constant_none ⟨.non,H,I,rfl,h⟩
theorem ZJQ{x j pos}:PE X (.Constant (.str x) j pos) (tC (.str x)):=λ_ _ _ H _ I h=>Calls.Constant_str ⟨.str x,H,I.tok _,⟨_,rfl⟩,h⟩
def Gl(X:Cx)(x:Str):Prop:=X.env.kindOf x=some .globalImplicit
theorem ZC7{E:Value->Shared->Prop}{pins:List (Addr×Obj)}{s:Shared}{σ : St}{H:Hp}{x:Str}{u:Value}{pos:Pos}{Q:Value->Shared->Prop}(I:Inv X pins σ H s)(hg:Gl X x)(hm:X.mg x=some u)(h:Q u s)
  (hd:(x == ("__debug__" : Str))=false:=by decide):wpAny (model X.prog X.w) X.A (eval (.Name x pos) X.env) Q E s :=
 Calls.Name_function_global I.ok.kind hg (Calls.loadGlobal_global (by rw[I.ok.glob];exact I.mod.glob.keeps I.bk) hm h) hd
theorem ZBO{E:Value->Shared->Prop}{pins:List (Addr×Obj)}{s:Shared}{σ : St}{H:Hp}{x:Str}{u:Value}{pos:Pos}{Q:Value->Shared->Prop}(I:Inv X pins σ H s)(hg:Gl X x)(hm:X.mg x=none)(hv:bootBuiltins x=some u)(h:Q u s)
  (hn:x≠"__name__":=by decide)(hd:(x == ("__debug__" : Str))=false:=by decide):wpAny (model X.prog X.w) X.A (eval (.Name x pos) X.env) Q E s:=by
 obtain⟨mb,h1,h2⟩:=I.mod.blt;exact Calls.Name_function_global I.ok.kind hg (Calls.loadGlobal_builtin (by rw[I.ok.glob];exact I.mod.glob.keeps I.bk) hm (by rw[I.ok.blt];exact h1.keeps I.bk) ((h2 x hn).trans hv) h) hd
theorem ZEG{x:Str}{v:V}{u:Value}{pos:Pos}(hg:Gl X x)(hm:X.mg x=some u)(r:ZW v u)(hd:(x == ("__debug__" : Str))=false:=by decide):PE X (.Name x pos) (tC v) :=
 λ_ _ _ H _ I h=>ZC7 I hg hm ⟨v,H,I,r,h⟩ hd
theorem ZHP{x:Str}{v:V}{u:Value}{pos:Pos}(hg:Gl X x)(hm:X.mg x=none)(hv:bootBuiltins x=some u)(r:ZW v u)(hn:x≠"__name__":=by decide)(hd:(x == ("__debug__" : Str))=false:=by decide):PE X (.Name x pos) (tC v) :=
 λ_ _ _ H _ I h=>ZBO I hg hm hv ⟨v,H,I,r,h⟩ hn hd
variable{a b:Expr}{ta tb:TE}{pos:Pos}
def tB(t:TE):TT:=λσ H Q=>t σ H λx H1=>∃c,x=.bl c/\Q c H1
theorem ZJY{e:Expr}{t:TE}(h:PE X e t)(he:∀whole,isTrue e X.env whole=(do let v ←whole;standAt e.pos;holding [v] (truthy v)):=by intro _;rfl):PT X e (tB t):=by
 intro pins s σ H Q I hw;refine isTrue_plain (thn (h pins s σ H _ I hw) λv s1 ⟨x,H1,I1,r1,q1⟩=>?_) (he _);obtain⟨d,rfl,q⟩:=q1;cases r1;exact wpAny_truthy_bool ⟨H1,I1,q⟩
variable{tA tB':TT}{rest:List Expr}
def tAnd(t u:TT):TT:=λσ H Q=>t σ H λc H1=>if c=true then u σ H1 Q else Q false H1
def tOr(t u:TT):TT:=λσ H Q=>t σ H λc H1=>if c=true then Q true H1 else u σ H1 Q
def tNot(t:TT):TT:=λσ H Q=>t σ H λc H1=>Q (!c) H1
theorem ZGr(ha:PT X a tA):PW X (.BoolOp .And [a] pos) tA:=by
 intro wh pins s σ H Q I h;refine isTrue_and (thn (ha pins s σ H Q I h) λc s1 e=>?_);cases c with
 |true=>exact isTrue_and_nil e
 |false=>exact e
theorem ZJD(ha:PT X a tA):PW X (.BoolOp .Or [a] pos) tA:=by
 intro wh pins s σ H Q I h;refine isTrue_or (thn (ha pins s σ H Q I h) λc s1 e=>?_);cases c with
 |false=>exact isTrue_or_nil e
 |true=>exact e
theorem ZIs(ha:PT X a tA)(hb:PW X (.BoolOp .And (b::rest) pos) tB'):PW X (.BoolOp .And (a::b::rest) pos) (tAnd tA tB'):=by
 intro wh pins s σ H Q I h;refine isTrue_and (thn (ha pins s σ H _ I h) λc s1 ⟨H1,I1,q1⟩=>?_);cases c with
 |true=>exact hb wh pins s1 σ H1 Q I1 q1
 |false=>exact⟨H1,I1,q1⟩
theorem pw_or(ha:PT X a tA)(hb:PW X (.BoolOp .Or (b::rest) pos) tB'):PW X (.BoolOp .Or (a::b::rest) pos) (tOr tA tB'):=by
 intro wh pins s σ H Q I h;refine isTrue_or (thn (ha pins s σ H _ I h) λc s1 ⟨H1,I1,q1⟩=>?_);cases c with
 |true=>exact⟨H1,I1,q1⟩
 |false=>exact hb wh pins s1 σ H1 Q I1 q1
theorem ZIT(ha:PT X a tA):PT X (.UnaryOp .Not a pos) (tNot tA):=by
 intro pins s σ H Q I h;exact isTrue_not (ha pins s σ H (λc H1=>Q (!c) H1) I h)
def tAndV(ta tb:TE):TE:=λσ H Q=>ta σ H λx H1=>∃c,x=.bl c/\if c=true then tb σ H1 Q else Q (.bl false) H1
def tNotV(ta:TE):TE:=λσ H Q=>ta σ H λx H1=>∃c,x=.bl c/\Q (.bl (!c)) H1
theorem ZIP{op}{t:TE}(h:PE X a t):PE X (.BoolOp op [a] pos) t:=λpins s σ H Q I hw=>BoolOp_one (h pins s σ H Q I hw)
theorem ZJs(ha:PE X a ta)(hb:PE X (.BoolOp .And (b::rest) pos) tb):PE X (.BoolOp .And (a::b::rest) pos) (tAndV ta tb):=by
 intro pins s σ H Q I h;refine BoolOp_and (thn (ha pins s σ H _ I h) λv s1 ⟨x,H1,I1,r1,q1⟩=>?_);obtain⟨c,rfl,q1⟩:=q1;cases r1;refine wpAny_truthy_bool ?_;cases c with
 |true=>exact hb pins s1 σ H1 Q I1 q1
 |false=>exact⟨.bl false,H1,I1,rfl,q1⟩
theorem ZJf(ha:PE X a ta):PE X (.UnaryOp .Not a pos) (tNotV ta):=by
 intro pins s σ H Q I h;refine UnaryOp_ (thn (ha pins s σ H _ I h) λv s1 ⟨x,H1,I1,r1,q1⟩=>?_);obtain⟨c,rfl,q1⟩:=q1;cases r1;exact not_of (wpAny_truthy_bool ⟨.bl (!c),H1,I1,rfl,q1⟩)
def tIf(t:TT)(ta tb:TE):TE:=λσ H Q=>t σ H λc H1=>if c=true then ta σ H1 Q else tb σ H1 Q
theorem ZFR{c:Expr}(hc:PT X c tA)(ha:PE X a ta)(hb:PE X b tb):PE X (.IfExp c a b pos) (tIf tA ta tb):=by
 intro pins s σ H Q I h;refine wpAny_IfExp (thn (hc pins s σ H _ I h) λd s1 ⟨H1,I1,q1⟩=>?_);cases d with
 |true=>exact ha pins s1 σ H1 Q I1 q1
 |false=>exact hb pins s1 σ H1 Q I1 q1
end
def SqL(K:PySem.W.Frag)(H:Hp)(a:Addr)(xs:List V):Prop :=
 Rd H a (.lst xs) ∨
  ∃(o:Obj) (its:Array Value) (n:Nat),K.lookup a=some o/\o.cls=.type "list"/\o.dict=none/\o.data=.seq its n/\its.size<=sizeLine/\ZI xs its.toList
def SqT(K:PySem.W.Frag)(H:Hp)(a:Addr)(xs:List V):Prop :=
 Rd H a (.tup xs) ∨
  ∃(o:Obj) (its:Array Value) (n:Nat),K.lookup a=some o/\o.cls=.type "tuple"/\o.data=.seq its n/\its.size<=sizeLine/\ZI xs its.toList
def absV:Value->Option V
 |.none=>some .non
 |.bool b=>some (.bl b)
 |.int i _=>some (.int i)
 |.str x _=>some (.str x)
 |.bytes b _=>some (.byt b)
 |.float b _=>some (.flt b)
 |.ref a=>some (.ref a)
 |.type n=>some (.ty n)
 |_=>none
theorem ZW.abs{x:V}{u:Value}(r:ZW x u):absV u=some x:=by
 cases x with
 |non=>cases r;rfl
 |bl _=>cases r;rfl
 |int _=>obtain⟨t,rfl⟩:=r;rfl
 |str _=>obtain⟨t,rfl⟩:=r;rfl
 |byt _=>obtain⟨t,rfl⟩:=r;rfl
 |flt _=>obtain⟨t,rfl⟩:=r;rfl
 |ref _=>cases r;rfl
 |ty _=>cases r;rfl
theorem ZW.inj{x y:V}{u:Value}(r:ZW x u)(q:ZW y u):x=y:=Option.some.inj (r.abs.symm.trans q.abs)
theorem ZI.inj:∀{xs ys:List V} {us:List Value},ZI xs us->ZI ys us->xs=ys
 |_,_,_,.nil,.nil=>rfl
 |_,_,_,.cons r t,.cons r' t'=>by rw[r.inj r',ZI.inj t t']
section
variable{X:Cx}{pins:List (Addr×Obj)}{σ : St}{H:Hp}{s:Shared}{a:Addr}{xs ys:List V}
theorem SqL.of{K:PySem.W.Frag}(h:H a=some (.lst xs)):SqL K H a xs:=.inl (.inl h)
theorem Inv.list(I:Inv X pins σ H s)(h:SqL X.K H a xs):∃its:List Value,ZI xs its/\PlainL s.heap a its.toArray/\xs.length<=sizeLine:=by
 rcases h with h|⟨o,its,n,hk,hc,hd,hs,hz,r⟩
 ·obtain⟨z,its,n,r,e⟩:=h.ok I.hok
  exact⟨its,r,⟨_,n,e,rfl,rfl,rfl⟩,z⟩
 ·refine⟨its.toList,r,⟨o,n,I.kIn a o hk,hc,hd,by simpa using hs⟩,?_⟩
  have e:=r.length;simp only[Array.length_toList] at e;omega
theorem Inv.tuple(I:Inv X pins σ H s)(h:SqT X.K H a xs):∃its:List Value,ZI xs its/\IsTup s.heap a its.toArray/\xs.length<=sizeLine:=by
 rcases h with h|⟨o,its,n,hk,hc,hs,hz,r⟩
 ·obtain⟨z,its,r,p⟩:=h.ok I.hok
  exact⟨its,r,p,z⟩
 ·refine⟨its.toList,r,⟨o,I.kIn a o hk,hc,n,by simpa using hs⟩,?_⟩
  have e:=r.length;simp only[Array.length_toList] at e;omega
theorem Inv.list_inj(I:Inv X pins σ H s)(h:SqL X.K H a xs)(h':SqL X.K H a ys):xs=ys:=by
 obtain⟨its,r,⟨o,n,e,_,_,d⟩,_⟩:=I.list h;obtain⟨its',r',⟨o',n',e',_,_,d'⟩,_⟩:=I.list h';rw[e] at e';cases e';rw[d] at d';injection d' with d1 _
 have:its=its':=by simpa using congrArg Array.toList d1
 subst this
 exact r.inj r'
theorem Inv.tuple_inj(I:Inv X pins σ H s)(h:SqT X.K H a xs)(h':SqT X.K H a ys):xs=ys:=by
 obtain⟨its,r,⟨o,e,_,n,d⟩,_⟩:=I.tuple h;obtain⟨its',r',⟨o',e',_,n',d'⟩,_⟩:=I.tuple h';rw[e] at e';cases e';rw[d] at d';injection d' with d1 _
 have:its=its':=by simpa using congrArg Array.toList d1
 subst this
 exact r.inj r'
end
abbrev Cx.wish(X:Cx)(E:Value->Shared->Prop):Cx:={ X with xe:=E }
abbrev Cx.nox(X:Cx):Cx:=X.wish λ_ _=>False
theorem Cx.Ok.wish{X:Cx}(ok:X.Ok)(E:Value->Shared->Prop):(X.wish E).Ok :=
 ⟨ok.mod,ok.kind,ok.glob,ok.blt,ok.above,ok.inj,ok.has,ok.cab,ok.hd,ok.frames,ok.stk,ok.exf,ok.bs,ok.bsz,ok.noex,ok.exfs,ok.funs,ok.frf⟩
theorem Cx.Ok.unwish{X:Cx}{E:Value->Shared->Prop}(ok:(X.wish E).Ok):X.Ok :=
 ⟨ok.mod,ok.kind,ok.glob,ok.blt,ok.above,ok.inj,ok.has,ok.cab,ok.hd,ok.frames,ok.stk,ok.exf,ok.bs,ok.bsz,ok.noex,ok.exfs,ok.funs,ok.frf⟩
section
variable{X:Cx}{pins:List (Addr×Obj)}{σ : St}{H:Hp}{s:Shared}{E:Value->Shared->Prop}
theorem Inv.wish(I:Inv X pins σ H s)(E:Value->Shared->Prop):Inv (X.wish E) pins σ H s:=⟨I.ok.wish E,I.os,I.bare,I.base,I.loc,I.cell,I.free,I.freeC,I.pin,I.hok,I.len⟩
theorem Inv.unwish(I:Inv (X.wish E) pins σ H s):Inv X pins σ H s:=⟨I.ok.unwish,I.os,I.bare,I.base,I.loc,I.cell,I.free,I.freeC,I.pin,I.hok,I.len⟩
theorem SP.unwish{D:Ends}{f:Flow}{s':Shared}(h:SP (X.wish E) pins D f s'):SP X pins D f s':=by
 cases f with
 |next=>obtain⟨σ',H',I,q⟩:=h;exact⟨σ',H',I.unwish,q⟩
 |brk=>obtain⟨σ',H',I,q⟩:=h;exact⟨σ',H',I.unwish,q⟩
 |cont=>obtain⟨σ',H',I,q⟩:=h;exact⟨σ',H',I.unwish,q⟩
 |ret u=>obtain⟨v,σ',H',I,r,q⟩:=h;exact⟨v,σ',H',I.unwish,r,q⟩
theorem PSs.nox{st:List Stmt}{t:TS}(h:PSs X.nox st t):PSs X st t:=λpins s σ H D I hw =>
 wpAny_mono (h pins s σ H D (I.wish _) hw) (λ_ _ q=>q.unwish) λ_ _ z=>False.elim z
end
section
variable{X:Cx}{st:Stmt}{rest:List Stmt}{t u:TS}{e:Expr}{te:TE}{pos:Pos}
def tNext:TS:=λD σ H=>D.nx σ H
def tSeq(t u:TS):TS:=λD σ H=>t { D with nx:=u D } σ H
theorem ZGt:PSs X [] tNext:=λ_ _ σ H _ I h=>wpAny_execs_nil ⟨σ,H,I,h⟩
theorem ZGB(h1:PS X st t)(h2:PSs X rest u):PSs X (st::rest) (tSeq t u):=by
 intro pins s σ H D I h;refine wpAny_execs_cons (thn (h1 pins s σ H { D with nx:=u D } I h) λf s1 q=>?_);cases f with
 |next =>
  obtain⟨σ',H',I',q⟩:=q;exact h2 pins s1 σ' H' D I' q
 |ret v=>exact q
 |brk=>exact q
 |cont=>exact q
theorem ZGe(h1:PS X st t):PSs X [st] t:=by
 intro pins s σ H D I h;refine wpAny_execs_cons (thn (h1 pins s σ H D I h) λf s1 q=>?_);cases f with
 |next=>exact wpAny_execs_nil q
 |ret v=>exact q
 |brk=>exact q
 |cont=>exact q
def tRet(te:TE):TS:=λD σ H=>te σ H D.rt
theorem ZIm(he:PE X e te):PS X (.Return (some e) pos) (tRet te):=by
 intro pins s σ H D I h;exact wpAny_Return_some (thn (he pins s σ H _ I h) λv s1 ⟨x,H1,I1,r1,q1⟩=>⟨x,σ,H1,I1,r1,q1⟩)
def tIfS(c:TT)(t u:TS):TS:=λD σ H=>c σ H λb H1=>if b=true then t D σ H1 else u D σ H1
theorem ps_if{c:Expr}{a b:List Stmt}{tc:TT}(hc:PT X c tc)(ha:PSs X a t)(hb:PSs X b u):PS X (.If c a b pos) (tIfS tc t u):=by
 intro pins s σ H D I h;refine wpAny_If (thn (hc pins s σ H _ I h) λd s1 ⟨H1,I1,q1⟩=>?_);cases d with
 |true=>exact ha pins s1 σ H1 D I1 q1
 |false=>exact hb pins s1 σ H1 D I1 q1
end
abbrev TG:=V->St->Hp->(St->Hp->Prop)->Prop
abbrev TGs:=List V->St->Hp->(St->Hp->Prop)->Prop
def PG(X:Cx)(target:Expr)(t:TG):Prop :=
 ∀(pins:List (Addr×Obj)) (s:Shared) (σ : St) (H:Hp) (v:V) (u:Value) (Q:St->Hp->Prop),Inv X pins σ H s->ZW v u->t v σ H Q ->
  wpAny (model X.prog X.w) X.A (assign target X.env u) (λ_ s'=>∃σ' H',Inv X pins σ' H' s'/\Q σ' H') X.xe s
def PGs(X:Cx)(ts:List Expr)(t:TGs):Prop :=
 ∀(pins:List (Addr×Obj)) (s:Shared) (σ : St) (H:Hp) (vs:List V) (us:List Value) (Q:St->Hp->Prop),Inv X pins σ H s->ZI vs us->t vs σ H Q ->
  wpAny (model X.prog X.w) X.A (assignInOrder ((assignEach ts X.env).map (·.2)) us) (λ_ s'=>∃σ' H',Inv X pins σ' H' s'/\Q σ' H') X.xe s
abbrev ZIH:=V->V->V->Hp->(Hp->Prop)->Prop
def ZJ9(X:Cx)(t:ZIH):Prop :=
 ∀(pins:List (Addr×Obj)) (s:Shared) (σ : St) (H:Hp) (o i v:V) (ov iv u:Value) (Q:Hp->Prop),Inv X pins σ H s->ZW o ov->ZW i iv->ZW v u->t o i v H Q ->
  wpAny (model X.prog X.w) X.A (setItem ov iv u) (λ_ s'=>∃H',Inv X pins σ H' s'/\Q H') X.xe s
section
variable{X:Cx}{pos:Pos}
def ZDL(i:Nat):TG:=λv σ H Q=>Q (σ.set i (some v)) H
theorem ZHr{i:Nat}{x:Str}(hN:X.N.Nodup)(hi:X.N[i]? = some x)(hx:Loc X.env.scope x)(hf:X.fn x=true∨X.env.scope.names.lookup x=some .local:=by first|exact .inl rfl|exact .inr rfl|assumption):PG X (.Name x pos) (ZDL i):=by
 intro pins s σ H v u Q I r h;exact wpAny_assign_Name (ZDP I hN hi hx r (λs' I'=>⟨_,H,I',h⟩) hf)
def ZJz:TGs:=λvs σ H Q=>vs=[]/\Q σ H
def ZH5(t:TG)(u:TGs):TGs:=λvs σ H Q=>∃v r,vs=v::r/\t v σ H λσ' H'=>u r σ' H' Q
theorem ZHq:PGs X [] ZJz:=by
 intro pins s σ H vs us Q I r h;obtain⟨e,h⟩:=h;subst e;cases r;exact assignInOrder_nil ⟨σ,H,I,h⟩
theorem ZGI{e:Expr}{es:List Expr}{t:TG}{u:TGs}(h1:PG X e t)(h2:PGs X es u)
  (hs:(assignEach (e::es) X.env).map (·.2)=assign e X.env::(assignEach es X.env).map (·.2):=by rfl):PGs X (e::es) (ZH5 t u):=by
 intro pins s σ H vs us Q I r h;obtain⟨v,vr,e1,h⟩:=h;subst e1;cases r with
 |cons r rr =>
  rw[hs];refine assignInOrder_cons (thn (h1 pins s σ H _ _ _ I r h) λ_ s1 ⟨σ1,H1,I1,q1⟩=>?_);exact h2 pins s1 σ1 H1 _ _ Q I1 rr q1
def ZJ2(K:PySem.W.Frag)(n:Nat)(t:TGs):TG:=λv σ H Q=>∃a xs,v=.ref a/\SqT K H a xs/\xs.length=n/\t xs σ H Q
theorem ZJS{es:List Expr}{k:Nat}{t:TGs}{n:Nat}(hc:X.calm=true)(h:PGs X es t)
  (hn:(assignEach es X.env).length=n:=by rfl)(hst:(assignEach es X.env).findIdx? (·.1)=none:=by rfl):PG X (.Tuple es k pos) (ZJ2 X.K n t):=by
 intro pins s σ H v u Q I r hw;obtain⟨a,xs,e1,hq,hl,hw⟩:=hw;subst e1;cases r;obtain⟨its,rv,ht,hz⟩:=I.tuple hq;refine assign_Tuple_tuple (I.ok.hd hc) ht (by simp[hn,←hl,rv.length]) hst λh' hx=>?_
 have I1:Inv X pins σ H { s with heap:=h' }:=I.kept (t':=s.toks) λb o e=>hx b o (ne_of_lt (lt_size e)) e
 exact h pins _ σ H xs _ Q I1 (by simpa using rv) hw
def gSub(to ti:TE)(t:ZIH):TG:=λv σ H Q=>to σ H λo H1=>ti σ H1 λi H2=>t o i v H2 λH3=>Q σ H3
theorem ZIO{o i:Expr}{to ti:TE}{t:ZIH}(ho:PE X o to)(hi:PE X i ti)(hs:ZJ9 X t)
  (ha:∀ v,assign (.Subscript o i pos) X.env v=(do
   let ov ←holding [v] (eval o X.env)
   let iv ←holding [v,ov] (eval i X.env)
   standAt pos
   holding [v,ov,iv] (setItem ov iv v)
   release [v,ov,iv] []):=by intro _;rfl):PG X (.Subscript o i pos) (gSub to ti t):=by
 intro pins s σ H v u Q I r h;rw[ha];refine wpAny_bind (wpAny_holding (thn (ho pins s σ H _ I h) λov s1 ⟨x,H1,I1,r1,q1⟩=>?_));refine wpAny_bind (wpAny_holding (thn (hi pins s1 σ H1 _ I1 q1) λiv s2 ⟨y,H2,I2,r2,q2⟩=>?_));refine wpAny_bind (wpAny_standAt (wpAny_bind (wpAny_holding (thn (hs pins s2 σ H2 x y v ov iv u _ I2 r1 r2 r q2) λ_ s3 ⟨H3,I3,q3⟩=>?_))));exact wpAny_release ⟨σ,H3,I3,q3⟩
def ZIq(te:TE)(g:TG):TS:=λD σ H=>te σ H λx H1=>g x σ H1 D.nx
theorem ZGW{tg e:Expr}{te:TE}{g:TG}(he:PE X e te)(hg:PG X tg g)(hs:swapsWithSole [tg] e pos.line X.env=pure false:=by rfl)(hw:swappedStores [tg] e X.env=pure none:=by rfl)
  (h1:(assignEach [tg] X.env).map (·.2)=[assign tg X.env]:=by rfl):PS X (.Assign [tg] e pos) (ZIq te g):=by
 intro pins s σ H D I h;refine wpAny_Assign_stores (thn (he pins s σ H _ I h) λv s1 ⟨x,H1,I1,r1,q1⟩=>?_) hs hw;rw[h1];exact thn (hg pins s1 σ H1 x v _ I1 r1 q1) λ_ s2 q=>q
theorem ZJI{i:Nat}{x:Str}{e:Expr}{te:TE}{pos':Pos}(hN:X.N.Nodup)(hi:X.N[i]? = some x)(hx:Loc X.env.scope x)(he:PE X e te)(hs:swapsWith e (some (.Name x pos')) pos.line X.env=pure false:=by rfl)(hf:X.fn x=true∨X.env.scope.names.lookup x=some .local:=by first|exact .inl rfl|exact .inr rfl|assumption) :
  PS X (.Assign [.Name x pos'] e pos) (ZIq te (ZDL i)):=by
 intro pins s σ H D I h;refine wpAny_Assign_Name (thn (he pins s σ H _ I h) λv s1 ⟨y,H1,I1,r1,q1⟩=>?_) hs;exact ZDP I1 hN hi hx r1 (λs2 I2=>⟨_,H1,I2,q1⟩) hf
end
structure It where
 go:Nat->Hp->Prop
 yld:Nat->Hp->V->Hp->Prop
 stop:Nat->Hp->Prop
def ZBd(X:Cx)(pins:List (Addr×Obj))(H:Hp)(b:Addr):Prop :=
 H b=none/\b≠X.env.locals/\b∉X.fs/\(b∈X.ex∨X.s₀.heap.objs.size<=b)/\(∀x c,X.env.cells.lookup x=some c->c≠b)/\∀p∈X.pn++pins,p.1≠b
theorem Inv.fpOk{X:Cx}{pins:List (Addr×Obj)}{σ : St}{H H':Hp}{s:Shared}{b:Addr}(I:Inv X pins σ H s)(hb:s.heap.objs.size<=b)(hn:H' b=none):ZBd X pins H' b:=by
 refine⟨hn,ne_of_gt (lt_of_lt_of_le I.lt hb),I.nofs hb,.inr (le_trans I.sz hb),λx c e z=>?_,λp hp z=>?_⟩
 ·obtain⟨v,q⟩:=I.cell x c e
  exact absurd (lt_of_lt_of_le q.lt (by rw[z];exact hb)) (lt_irrefl _)
 ·exact absurd (lt_of_lt_of_le (lt_size (I.pin p hp).1) (by rw[z];exact hb)) (lt_irrefl _)
structure Turn (P:Program) (w:World) (K:PySem.W.Frag) (tg:Expr) (J:It) (fp:List Addr) (it:Addr) (tn:Nat->Heap->Prop):Prop where
  mem:it∈fp
  obj:∀i h,tn i h->∀b∈fp,∃o,h.get? b=some o/\∀v,o.data≠.cell v
  keep:∀i h h',tn i h->(∀b∈fp,∀o,h.get? b=some o->h'.get? b=some o)->tn i h'
  item:∀(X:Cx),X.prog=P->X.w=w->X.K=K->X.calm=true->∀(i:Nat) (pins:List (Addr×Obj)) (s:Shared) (σ : St) (H:Hp) (E:Value->Shared->Prop),Inv X pins σ H s->(∀b∈fp,ZBd X pins H b)->tn i s.heap->J.go i H ->
    wpAny (model P w) X.A (pyNext (.ref it)) (λ r s1=>∃ u,r=some u /\
      wpAny (model P w) X.A (letOwnedTupleGo tg (.ref it) u) (λ_ s2=>∃x H',Inv X pins σ H' s2/\ZW x u/\J.yld i H x H'/\tn (i+1) s2.heap/\∀b∈fp,H' b=none) E s1) E s
  done:∀(X:Cx),X.prog=P->X.w=w->X.K=K->X.calm=true->∀(i:Nat) (pins:List (Addr×Obj)) (s:Shared) (σ : St) (H:Hp) (E:Value->Shared->Prop),Inv X pins σ H s->(∀b∈fp,ZBd X pins H b)->tn i s.heap->J.stop i H ->
    wpAny (model P w) X.A (pyNext (.ref it)) (λr s1=>r=none/\Inv X pins σ H s1) E s
  self:∀(A:Around) (i:Nat) (s:Shared) (Q:Value->Shared->Prop) (E:Value->Shared->Prop),tn i s.heap->Q (.ref it) s->wpAny (model P w) A (pyIter (.ref it)) Q E s
abbrev TI:=St->Hp->(It->Hp->Prop)->Prop
def PIE(X:Cx)(pins:List (Addr×Obj))(σ : St)(tg:Expr)(R:It->Hp->Prop)(itv:Value)(s2:Shared):Prop :=
 ∃(it:Addr) (fp:List Addr) (tn:Nat->Heap->Prop) (J:It) (H':Hp),itv=.ref it/\Inv X pins σ H' s2/\Turn X.prog X.w X.K tg J fp it tn/\tn 0 s2.heap/\(∀b∈fp,ZBd X pins H' b)/\R J H'
def PI(X:Cx)(tg iter:Expr)(wi:TI):Prop :=
 ∀(pins:List (Addr×Obj)) (s:Shared) (σ : St) (H:Hp) (R:It->Hp->Prop),Inv X pins σ H s->wi σ H R ->
  wpAny (model X.prog X.w) X.A (eval iter X.env) (λv s1=>wpAny (model X.prog X.w) X.A (pyIter v) (PIE X pins σ tg R) X.xe s1) X.xe s
theorem ZFp{M:Model}{A:Around}{E:Value->Shared->Prop}{s:Shared}{tg:Expr}{it:Addr}{u:Value}{o:Obj}{n:String}{vs:Array Value}{Q:Unit->Shared->Prop}(ho:s.heap.get? it=some o)(hc:o.cls=.type n)(hd:o.data=.fields vs)
    (hn:["enumerate","zip","dict_itemiterator","dict_reverseitemiterator","odict_iterator","itertools.zip_longest","itertools.pairwise"].contains n=false)(hQ:Q () s):wpAny M A (letOwnedTupleGo tg (.ref it) u) Q E s:=by
  unfold letOwnedTupleGo;cases tg <;> first
    |exact wpAny_pure hQ
    | (cases u <;> first
        |exact wpAny_pure hQ
        | (refine wpAny_bind (wpAny_load ho ?_)
           rw[hc,hd];show wpAny M A (if (["enumerate","zip","dict_itemiterator","dict_reverseitemiterator","odict_iterator","itertools.zip_longest","itertools.pairwise"].contains n && vs[0]? == some (rawInt _))=true then _ else _) Q E s;rw[if_neg (by intro h;rw[hn,Bool.false_and] at h;cases h)];exact wpAny_pure hQ))
def Itl(K:PySem.W.Frag)(a:Addr):It :=
 ⟨λi H=>∃xs x,SqL K H a xs/\xs[i]? = some x,λi H x H'=>H'=H/\∀xs,SqL K H a xs->xs[i]? = some x,λi H=>∃xs,SqL K H a xs/\xs.length<=i⟩
def Itt(K:PySem.W.Frag)(a:Addr):It :=
 ⟨λi H=>∃xs x,SqT K H a xs/\xs[i]? = some x,λi H x H'=>H'=H/\∀xs,SqT K H a xs->xs[i]? = some x,λi H=>∃xs,SqT K H a xs/\xs.length<=i⟩
def Itr(lo:Int)(n:Nat):It:=⟨λi _=>i<n,λi H x H'=>H'=H/\x=.int (lo+i),λi _=>n<=i⟩
theorem ZEw{P:Program}{w:World}{K:PySem.W.Frag}{tg:Expr}(a it:Addr):Turn P w K tg (Itl K a) [it] it (λi h=>h.IsListIter it a i) where
 mem:=by simp
 obj:=λi h st b hb=>by
  have e:b=it:=by simpa using hb
  subst e;obtain⟨o,e,c,d⟩:=st;exact⟨o,e,λv z=>by rw[d] at z;cases z⟩
 keep:=λi h h' st k=>st.at λo e=>k it (by simp) o e
 item:=by
  intro X hP hw hK hc i pins s σ H E I hf st hg;subst hP hw hK;obtain⟨xs,x,hq,hx⟩:=hg;obtain⟨its,rv,p,hz⟩:=I.list hq;obtain⟨u,hu,ru⟩:=rv.get hx;obtain⟨f0,f1,f2,f3,f4,f5⟩:=hf it (by simp);refine wpAny_pyNext_list_item st p.isList (x:=u) (by simpa using hu) λh' st' sb=>?_
  have I1:Inv X pins σ H { s with heap:=h' }:=I.turned (t':=s.toks) (λb o hb e=>(sb.2 b hb).trans e) f0 f1 f3 f4 f5;obtain⟨o,e,c,d⟩:=id st';exact⟨u,rfl,ZFp (s:={ s with heap:=h' }) e c d (by decide) ⟨x,H,I1,ru,⟨rfl,λys hy=>by rw[I.list_inj hy hq];exact hx⟩,st',λb hb=>(hf b hb).1⟩⟩
 done:=by
  intro X hP hw hK hc i pins s σ H E I hf st hg;subst hP hw hK;obtain⟨xs,hq,hx⟩:=hg;obtain⟨its,rv,p,hz⟩:=I.list hq;obtain⟨f0,f1,f2,f3,f4,f5⟩:=hf it (by simp);have hl:=rv.length;exact wpAny_pyNext_list_end (I.ok.hd hc) st p.isList (by simp;omega) λh' eb=>⟨rfl,I.turned (t':=s.toks) (λb o hb e=>eb b o hb e) f0 f1 f3 f4 f5⟩
 self:=λ_ _ _ _ _ st h=>wpAny_pyIter_listiter st h
theorem ZDk{P:Program}{w:World}{K:PySem.W.Frag}{tg:Expr}(a it:Addr):Turn P w K tg (Itt K a) [it] it (λi h=>h.IsTupleIter it a i) where
 mem:=by simp
 obj:=λi h st b hb=>by
  have e:b=it:=by simpa using hb
  subst e;obtain⟨o,e,c,d⟩:=st;exact⟨o,e,λv z=>by rw[d] at z;cases z⟩
 keep:=λi h h' st k=>st.at λo e=>k it (by simp) o e
 item:=by
  intro X hP hw hK hc i pins s σ H E I hf st hg;subst hP hw hK;obtain⟨xs,x,hq,hx⟩:=hg;obtain⟨its,rv,p,hz⟩:=I.tuple hq;obtain⟨u,hu,ru⟩:=rv.get hx;obtain⟨f0,f1,f2,f3,f4,f5⟩:=hf it (by simp);refine wpAny_pyNext_tuple_item st (show s.heap.IsTuple a its.toArray from p) (x:=u) (by simpa using hu) λh' st' sb=>?_
  have I1:Inv X pins σ H { s with heap:=h' }:=I.turned (t':=s.toks) (λb o hb e=>(sb.2 b hb).trans e) f0 f1 f3 f4 f5;obtain⟨o,e,c,d⟩:=id st';exact⟨u,rfl,ZFp (s:={ s with heap:=h' }) e c d (by decide) ⟨x,H,I1,ru,⟨rfl,λys hy=>by rw[I.tuple_inj hy hq];exact hx⟩,st',λb hb=>(hf b hb).1⟩⟩
 done:=by
  intro X hP hw hK hc i pins s σ H E I hf st hg;subst hP hw hK;obtain⟨xs,hq,hx⟩:=hg;obtain⟨its,rv,p,hz⟩:=I.tuple hq;obtain⟨f0,f1,f2,f3,f4,f5⟩:=hf it (by simp);have hl:=rv.length;exact wpAny_pyNext_tuple_end (I.ok.hd hc) st (show s.heap.IsTuple a its.toArray from p) (by simp;omega) λh' eb=>⟨rfl,I.turned (t':=s.toks) (λb o hb e=>eb b o hb e) f0 f1 f3 f4 f5⟩
 self:=λ_ _ _ _ _ st h=>wpAny_pyIter_tupleiter st h
theorem ZDp{P:Program}{w:World}{K:PySem.W.Frag}{tg:Expr}(it:Addr)(lo:Int)(n:Nat):Turn P w K tg (Itr lo n) [it] it (λi h=>IsRangeIter h it (lo+(i:Nat)*1) ((n:Int)-(i:Nat)) 1) where
 mem:=by simp
 obj:=λi h st b hb=>by
  have e:b=it:=by simpa using hb
  subst e;exact⟨_,st,λv z=>by
   have z':Data.fields _=Data.cell v:=z;cases z'⟩
 keep:=λi h h' st k=>k it (by simp) _ st
 item:=by
  intro X hP hw hK hc i pins s σ H E I hf st hg;subst hP hw hK;obtain⟨f0,f1,f2,f3,f4,f5⟩:=hf it (by simp);have W:=Walks.range (prog:=X.prog) (w:=X.w) (I.ok.hd hc) it lo 1 n;refine W.item i s _ _ hg st λv h' tk hv st' kk=>?_
  obtain⟨t,rfl⟩:=hv;have I1:Inv X pins σ H { s with heap:=h',toks:=tk }:=I.turned (λb o hb e=>kk b o (by simpa using hb) e) f0 f1 f3 f4 f5;refine⟨_,rfl,ZFp (s:={ s with heap:=h',toks:=tk }) (n:="range_iterator") st' rfl rfl (by decide) ⟨.int (lo+i),H,I1,⟨t,?_⟩,⟨rfl,rfl⟩,st',λb hb=>(hf b hb).1⟩⟩;rw[Int.mul_one]
 done:=by
  intro X hP hw hK hc i pins s σ H E I hf st hg;subst hP hw hK;obtain⟨f0,f1,f2,f3,f4,f5⟩:=hf it (by simp);exact wpAny_pyNext_range_end (I.ok.hd hc) st (by have:n<=i:=hg;omega) λh' eb=>⟨rfl,I.turned (t':=s.toks) (λb o hb e=>eb b o hb e) f0 f1 f3 f4 f5⟩
 self:=λ_ _ _ _ _ st h=>wpAny_pyIter_rangeiter st h
section
variable{X:Cx}{tg:Expr}
theorem ZFY{pins:List (Addr×Obj)}{σ : St}{H:Hp}{s:Shared}{R:It->Hp->Prop}{E:Value->Shared->Prop}{lo hi:Int}{t u v:Tok}{tk:Nat}(I:Inv X pins σ H s)(h1 : -(2 ^ 62)<=lo)(h2:lo<2 ^ 62)(h3 : -(2 ^ 62)<=hi)(h4:hi<2 ^ 62)
  (q:R (Itr lo (hi-lo).toNat) H):wpAny (model X.prog X.w) X.A (pyIter (.ref s.heap.objs.size)) (PIE X pins σ tg R) E { s with heap:=s.heap.push { cls:=.type "range",data:=.fields #[.int lo t,.int hi u,.int 1 v] },toks:=tk }:=by
 refine wpAny_pyIter_range (IsRange.new ..) (small_one h1 h2 h3 h4) ?_;have I1:Inv X pins σ H { s with heap:=s.heap.push { cls:=.type "range",data:=.fields #[.int lo t,.int hi u,.int 1 v] },toks:=tk }:=I.kept λb o e=>get?_push_of_some _ e
 refine⟨(s.heap.push { cls:=.type "range",data:=.fields #[.int lo t,.int hi u,.int 1 v] }).objs.size,[(s.heap.push { cls:=.type "range",data:=.fields #[.int lo t,.int hi u,.int 1 v] }).objs.size],_,_,H,rfl,
  I1.kept (t':=tk) λb o e=>get?_push_of_some _ e,ZDp _ lo (hi-lo).toNat,?_,λb hb=>?_,q⟩
 ·have e1:lo+((0:Nat):Int)*1=lo:=by simp
  have e2:(((hi-lo).toNat:Nat):Int)-((0:Nat):Int)=Builtin.Range.rangeSize lo hi 1:=by rw[rangeSize_one];split <;> omega
  show IsRangeIter _ _ (lo+((0:Nat):Int)*1) ((((hi-lo).toNat:Nat):Int)-((0:Nat):Int)) 1;rw[e1,e2];exact get?_push_size _ rfl
 ·have e:b=(s.heap.push { cls:=.type "range",data:=.fields #[.int lo t,.int hi u,.int 1 v] }).objs.size:=by simpa using hb
  subst e;exact I1.fpOk (le_refl _) (I1.hok.fresh (le_refl _))
def iRng1(ta:TA):TI:=λσ H R=>ta σ H λvs H1=>∃j:Int,vs=[.int j]/\-(2 ^ 62)<=j/\j<2 ^ 62/\R (Itr 0 j.toNat) H1
theorem ZEs{a:Expr}{ta:TA}{p pos:Pos}(hg:Gl X "range")(hm:X.mg "range" = none)(ha:PA X [a] ta)(hs:starEach [a] X.env=[(false,eval a X.env)]:=by rfl):PI X tg (.Call (.Name "range" p) [a] [] pos) (iRng1 ta):=by
 intro pins s σ H R I h;refine Call_ (ZBO I hg hm boot_range (PyProof.Rows.callWith_type1 (thn (ha pos pins s σ H _ I h) λus s1 ⟨vs,H1,I1,r1,q1⟩=>?_) hs rfl));obtain⟨j,e,q1,q2,q⟩:=q1;subst e;cases r1 with
 |cons r rr =>
  cases rr;obtain⟨t,rfl⟩:=r;exact call_range_1 (ZFY I1 (by omega) (by omega) q1 q2 (by simpa using q))
def tFor(wi:TI)(g:TG)(tb:TS):TS:=λD σ H=>wi σ H λJ H1=>∃W:Nat->Nat->St->Hp->Prop,(∃m,W 0 m σ H1)/\∀i m σ H,W i m σ H ->
 (J.stop i H/\D.nx σ H)∨(J.go i H/\∃N:St->Hp->Prop,(∀σ' H',N σ' H'->∃m',m'<m/\W (i+1) m' σ' H')/\∀x H',J.yld i H x H'->g x σ H' λσ2 H2=>tb { D with nx:=N,ct:=N,bk:=D.nx } σ2 H2)
def ZBN(fp:List Addr)(h:Heap):List (Addr×Obj):=fp.filterMap λb=>(h.get? b).map λo=>(b,o)
theorem ZAh{fp:List Addr}{h:Heap}{b:Addr}{o:Obj}(hb:b∈fp)(e:h.get? b=some o):(b,o)∈ZBN fp h:=List.mem_filterMap.mpr ⟨b,hb,by rw[e];rfl⟩
theorem ZEe{fp:List Addr}{h:Heap}{p:Addr×Obj}(hp:p∈ZBN fp h):p.1∈fp/\h.get? p.1=some p.2:=by
 obtain⟨b,hb,e⟩:=List.mem_filterMap.mp hp;cases q:h.get? b with
 |none=>rw[q] at e;cases e
 |some o =>
  rw[q] at e;have e':(b,o)=p:=Option.some.inj e;subst e';exact⟨hb,q⟩
theorem Inv.pinned{pins:List (Addr×Obj)}{σ : St}{H:Hp}{s:Shared}{fp:List Addr}(I:Inv X pins σ H s)(hf:∀b∈fp,ZBd X pins H b)(ho:∀b∈fp,∃o,s.heap.get? b=some o/\∀v,o.data≠.cell v):Inv X (pins++ZBN fp s.heap) σ H s :=
 I.pins_of λp hp=>(List.mem_append.mp hp).elim (λz=>I.pin p (mem_append_right _ z)) λz=>by
  obtain⟨hb,e⟩:=ZEe z;obtain⟨f0,f1,f2,_⟩:=hf p.1 hb;obtain⟨o,e',d⟩:=ho p.1 hb;rw[e] at e';cases e';exact⟨e,f0,f1,f2,d⟩
theorem Inv.unpinned{pins pl:List (Addr×Obj)}{σ : St}{H:Hp}{s:Shared}(I:Inv X (pins++pl) σ H s):Inv X pins σ H s:=I.pins_of λp hp=>I.pin p (mem_append_right _ (List.mem_append_left _ hp))
theorem ZJZ{iter:Expr}{body:List Stmt}{wi:TI}{g:TG}{tb:TS}{pos:Pos}(hp:PassesOwn (model X.prog X.w) X.A X.env X.xe)(hc:X.calm=true)(hi:PI X tg iter wi)(hg:PG X tg g)(hb:PSs X body tb)
  (hs:∀x,foldedSetIterable iter X.env x=pure x:=by intro _;rfl):PS X (.For tg iter body [] pos) (tFor wi g tb):=by
 intro pins s σ H D I h;refine wpAny_For (thn (hi pins s σ H _ I h) λv s1 h1=>thn h1 λitv s2 h2=>?_) hs;obtain⟨it,fp,tn,J,H2,e,I2,T,st2,f2,W,⟨m0,w0⟩,turn⟩:=h2;subst e
 -- what stays true of the iterator's objects through the loop
 have stat:∀{H':Hp},(∀b∈fp,H' b=none)->∀b∈fp,ZBd X pins H' b:=λhn b hb=>⟨hn b hb,(f2 b hb).2⟩
 refine codeAny_forLoop_any (λn s'=>∃i σ' H',Inv X pins σ' H' s'/\tn i s'.heap/\(∀b∈fp,H' b=none)/\W i n σ' H') ?_ m0 ⟨0,σ,H2,I2,st2,λb hb=>(f2 b hb).1,w0⟩
 rintro n s3 ⟨i,σ3,H3,I3,st3,fr3,w3⟩
 rcases turn i n σ3 H3 w3 with ⟨stop,qn⟩|⟨go,N,hN,step⟩
 ·refine wpAny_passesOwn hp (thn (T.done X rfl rfl rfl hc i pins s3 σ3 H3 X.xe I3 (stat fr3) st3 stop) λr s4 ⟨hr,I4⟩=>?_)
  subst hr;exact wpAny_execs_nil ⟨σ3,H3,I4,qn⟩
 ·refine wpAny_passesOwn hp (thn (T.item X rfl rfl rfl hc i pins s3 σ3 H3 X.xe I3 (stat fr3) st3 go) λr s4 ⟨u,hr,h4⟩=>?_)
  subst hr;refine wpAny_passesOwn hp (thn h4 λ_ s5 ⟨x,H5,I5,r5,y5,st5,fr5⟩=>?_);have I5':=I5.pinned (stat fr5) (T.obj _ _ st5);refine wpAny_passesOwn hp (thn (hg _ s5 σ3 H5 x u _ I5' r5 (step x H5 y5)) λ_ s6 ⟨σ6,H6,I6,q6⟩=>?_);refine wpAny_passesOwn hp (thn (hb _ s6 σ6 H6 _ I6 q6) λf s7 q7=>?_);have again:∀{σ7:St} {H7:Hp},Inv X (pins++ZBN fp s5.heap) σ7 H7 s7->N σ7 H7->∃m,m<n/\∃i σ' H',Inv X pins σ' H' s7/\tn i s7.heap/\(∀b∈fp,H' b=none)/\W i m σ' H':=λ{σ7 H7} I7 n7=>by
   obtain⟨m',hm,w7⟩:=hN σ7 H7 n7;refine⟨m',hm,i+1,σ7,H7,I7.unpinned,T.keep _ _ _ st5 λb hb o e=>(I7.pin (b,o) (mem_append_right _ (mem_append_right _ (ZAh hb e)))).1,λb hb=>?_,w7⟩;obtain⟨o,e,d⟩:=T.obj _ _ st5 b hb;exact(I7.pin (b,o) (mem_append_right _ (mem_append_right _ (ZAh hb e)))).2.1
  cases f with
  |next=>obtain⟨σ7,H7,I7,n7⟩:=q7;exact again I7 n7
  |cont=>obtain⟨σ7,H7,I7,n7⟩:=q7;exact again I7 n7
  |brk=>obtain⟨σ7,H7,I7,q7⟩:=q7;exact⟨σ7,H7,I7.unpinned,q7⟩
  |ret v=>obtain⟨x7,σ7,H7,I7,r7,q7⟩:=q7;exact⟨x7,σ7,H7,I7.unpinned,r7,q7⟩
end
abbrev R2:=V->V->Hp->VK->Prop
def OpR(X:Cx)(f:Value->Value->Sem Value)(r:R2):Prop :=
 ∀(pins:List (Addr×Obj)) (s:Shared) (σ : St) (H:Hp) (x y:V) (v u:Value) (Q:VK),Inv X pins σ H s->ZW x v->ZW y u->r x y H Q ->
  wpAny (model X.prog X.w) X.A (f v u) (EP X pins σ Q) X.xe s
def UnR(X:Cx)(f:Value->Sem Value)(r:V->Hp->VK->Prop):Prop :=
 ∀(pins:List (Addr×Obj)) (s:Shared) (σ : St) (H:Hp) (x:V) (v:Value) (Q:VK),Inv X pins σ H s->ZW x v->r x H Q ->
  wpAny (model X.prog X.w) X.A (f v) (EP X pins σ Q) X.xe s
def ZQ(X:Cx)(f:Value)(r:List V->Hp->VK->Prop):Prop :=
 ∀(pins:List (Addr×Obj)) (s:Shared) (σ : St) (H:Hp) (xs:List V) (us:List Value) (Q:VK),Inv X pins σ H s->ZI xs us->r xs H Q ->
  wpAny (model X.prog X.w) X.A (call f us) (EP X pins σ Q) X.xe s
def tOp(r:R2)(ta tb:TE):TE:=λσ H Q=>ta σ H λx H1=>tb σ H1 λy H2=>r x y H2 Q
def tUn(r:V->Hp->VK->Prop)(ta:TE):TE:=λσ H Q=>ta σ H λx H1=>r x H1 Q
def rI(C:Int->Int->Prop)(g:Int->Int->V):R2:=λx y H Q=>∃i j,x=.int i/\y=.int j/\C i j/\Q (g i j) H
def rI0(g:Int->Int->V):R2:=λx y H Q=>∃i j,x=.int i/\y=.int j/\Q (g i j) H
def rU(g:Int->V):V->Hp->VK->Prop:=λx H Q=>∃i,x=.int i/\Q (g i) H
section
variable{X:Cx}{a b c:Expr}{ta tb tc:TE}{pos:Pos}
theorem ZJP(ha:PE X a ta)(hb:PE X b tb){pins:List (Addr×Obj)}{s:Shared}{σ : St}{H:Hp}{R:V->V->Hp->Prop}(I:Inv X pins σ H s)
  (h:ta σ H λx H1=>tb σ H1 λy H2=>R x y H2){Q:Value->Shared->Prop}{f:Value->Value->Sem Value}
  (hf:∀v u s2 x y H2,Inv X pins σ H2 s2->ZW x v->ZW y u->R x y H2->wpAny (model X.prog X.w) X.A (f v u) Q X.xe s2) :
  wpAny (model X.prog X.w) X.A (eval a X.env) (λv s₁=>wpAny (model X.prog X.w) X.A (eval b X.env) (λu s₂=>wpAny (model X.prog X.w) X.A (f v u) Q X.xe s₂) X.xe s₁) X.xe s:=by
 refine thn (ha pins s σ H _ I h) λv s1 ⟨x,H1,I1,r1,q1⟩=>?_
 refine thn (hb pins s1 σ H1 _ I1 q1) λu s2 ⟨y,H2,I2,r2,q2⟩=>?_
 exact hf v u s2 x y H2 I2 r1 r2 q2
theorem ZH1{op:Operator}{r:R2}(ho:OpR X (binaryOp op) r)(ha:PE X a ta)(hb:PE X b tb):PE X (.BinOp a op b pos) (tOp r ta tb):=by
 intro pins s σ H Q I h;exact wpAny_BinOp (ZJP ha hb I h λv u s2 x y H2 I2 rx ry q=>ho pins s2 σ H2 x y v u Q I2 rx ry q)
theorem pe_un{op:UnaryOp}{r:V->Hp->VK->Prop}(ho:UnR X (unaryOp op) r)(ha:PE X a ta):PE X (.UnaryOp op a pos) (tUn r ta):=by
 intro pins s σ H Q I h;exact UnaryOp_ (thn (ha pins s σ H _ I h) λv s1 ⟨x,H1,I1,r1,q1⟩=>ho pins s1 σ H1 x v Q I1 r1 q1)
theorem opI{f:Value->Value->Sem Value}{C:Int->Int->Prop}{g:Int->Int->Int}
  (rule:∀(i j:Int) (t u:Tok) (s:Shared) (Q:Value->Shared->Prop) (E:Value->Shared->Prop),C i j->Q (.int (g i j) s.toks) { s with toks:=s.toks+1 }->wpAny (model X.prog X.w) X.A (f (.int i t) (.int j u)) Q E s) :
  OpR X f (rI C λi j=>.int (g i j)):=by
 intro pins s σ H x y v u Q I rx ry h;obtain⟨i,j,rfl,rfl,hc,q⟩:=h;obtain⟨t,rfl⟩:=rx;obtain⟨t',rfl⟩:=ry;exact rule i j t t' s _ _ hc ⟨.int (g i j),H,I.tok _,⟨_,rfl⟩,q⟩
theorem opI0{f:Value->Value->Sem Value}{g:Int->Int->Int}
  (rule:∀(i j:Int) (t u:Tok) (s:Shared) (Q:Value->Shared->Prop) (E:Value->Shared->Prop),Q (.int (g i j) s.toks) { s with toks:=s.toks+1 }->wpAny (model X.prog X.w) X.A (f (.int i t) (.int j u)) Q E s) :
  OpR X f (rI0 λi j=>.int (g i j)):=by
 intro pins s σ H x y v u Q I rx ry h;obtain⟨i,j,rfl,rfl,q⟩:=h;obtain⟨t,rfl⟩:=rx;obtain⟨t',rfl⟩:=ry;exact rule i j t t' s _ _ ⟨.int (g i j),H,I.tok _,⟨_,rfl⟩,q⟩
theorem ZG2{f:Value->Value->Sem Value}{g:Int->Int->Bool}
  (rule:∀(i j:Int) (t u:Tok) (s:Shared) (Q:Value->Shared->Prop) (E:Value->Shared->Prop),Q (.bool (g i j)) s->wpAny (model X.prog X.w) X.A (f (.int i t) (.int j u)) Q E s) :
  OpR X f (rI0 λi j=>.bl (g i j)):=by
 intro pins s σ H x y v u Q I rx ry h;obtain⟨i,j,rfl,rfl,q⟩:=h;obtain⟨t,rfl⟩:=rx;obtain⟨t',rfl⟩:=ry;exact rule i j t t' s _ _ ⟨.bl (g i j),H,I,rfl,q⟩
def ZJ1(i j:Int):Prop:=0<=j/\j<=1000000/\i.natAbs<2 ^ 64
def ZHX(i j:Int):Prop:=(-(2 ^ 64)<i/\i<2 ^ 64)∨(-(2 ^ 64)<j/\j<2 ^ 64)
theorem ZHX.ok{i j:Int}(h:ZHX i j):IntMulOk i j:=by
 rcases h with ⟨h1,h2⟩|⟨h1,h2⟩
 ·exact .of_left (intBits_le_64 h1 h2)
 ·exact .of_right (intBits_le_64 h1 h2)
theorem ZIV:OpR X (binaryOp .Add) (rI0 λi j=>.int (i+j)):=opI0 λ_ _ _ _ _ _ _ q=>add_int q
theorem ZIx:OpR X (binaryOp .Mult) (rI ZHX λi j=>.int (i*j)):=opI λ_ _ _ _ _ _ _ hc q=>mul_int q hc.ok
theorem ZJF:OpR X (binaryOp .Mod) (rI (λ_ j=>0<j) λi j=>.int (i % j)):=opI λi j _ _ _ _ _ hc q=>by
 have h1:(0:Int)<j:=hc;exact mod_int' (by omega) (by rw[Int.fmod_eq_emod_of_nonneg i (by omega)];exact q)
theorem ZJK:OpR X (binaryOp .Pow) (rI ZJ1 λi j=>.int (i ^ j.toNat)):=opI λ_ _ _ _ _ _ _ hc q=>pow_int_small hc.1 hc.2.1 hc.2.2 q
theorem unI{f:Value->Sem Value}{g:Int->Int}
  (rule:∀(i:Int) (t:Tok) (s:Shared) (Q:Value->Shared->Prop) (E:Value->Shared->Prop),Q (.int (g i) s.toks) { s with toks:=s.toks+1 }->wpAny (model X.prog X.w) X.A (f (.int i t)) Q E s) :
  UnR X f (rU λi=>.int (g i)):=by
 intro pins s σ H x v Q I rx h;obtain⟨i,rfl,q⟩:=h;obtain⟨t,rfl⟩:=rx;exact rule i t s _ _ ⟨.int (g i),H,I.tok _,⟨_,rfl⟩,q⟩
theorem ZJp:UnR X (unaryOp .USub) (rU λi=>.int (-i)):=unI λ_ _ _ _ _ q=>neg_int q
end
section
variable{X:Cx}{a b c:Expr}{ta tb tc:TE}{pos:Pos}
theorem ZIW{pins:List (Addr×Obj)}{σ : St}{H:Hp}{s:Shared}{Q:VK}{k k':Bool}(I:Inv X pins σ H s)(q:Q (.bl k) H)(e:k=k'):EP X pins σ Q (.bool k') s:=by
 subst e;exact⟨.bl k,H,I,rfl,q⟩
theorem op_lt:OpR X (compareOp .Lt) (rI0 λi j=>.bl (decide (i<j))):=ZG2 λ_ _ _ _ _ _ _ q=>lt_int q
theorem op_le:OpR X (compareOp .LtE) (rI0 λi j=>.bl (decide (i<=j))):=ZG2 λ_ _ _ _ _ _ _ q=>le_int q
theorem op_gt:OpR X (compareOp .Gt) (rI0 λi j=>.bl (decide (j<i))):=ZG2 λ_ _ _ _ _ _ _ q=>gt_int q
theorem op_ge:OpR X (compareOp .GtE) (rI0 λi j=>.bl (decide (j<=i))):=ZG2 λ_ _ _ _ _ _ _ q=>ge_int q
theorem ZEc:OpR X (compareOp .Lt) (λx y H Q=>∃i j,x=.str i/\y=.str j/\Q (.bl (decide (i.cps.toList<j.cps.toList))) H):=by
 intro pins s σ H x y v u Q I rx ry h;obtain⟨i,j,rfl,rfl,q⟩:=h;obtain⟨t,rfl⟩:=rx;obtain⟨t',rfl⟩:=ry;exact lt_str (ZIW I q rfl)
theorem ZFN(b:Expr){op:CmpOp}(h:op≠.In:=by decide)(h2:op≠.NotIn:=by decide):behindInMarks op b=false:=by
 have e1:(op == CmpOp.In)=false:=by cases op <;> first|rfl|exact absurd rfl h
 have e2:(op == CmpOp.NotIn)=false:=by cases op <;> first|rfl|exact absurd rfl h2
 cases b <;> simp[behindInMarks,e1,e2]
theorem ZG6{op:CmpOp}{r:R2}(ho:OpR X (compareOp op) r)(ha:PE X a ta)(hb:PE X b tb)(hm:behindInMarks op b=false):PE X (.Compare a [op] [b] pos) (tOp r ta tb):=by
 intro pins s σ H Q I h;exact wpAny_Compare1 (ZJP ha hb I h λv u s2 x y H2 I2 rx ry q=>ho pins s2 σ H2 x y v u Q I2 rx ry q) hm
def ZF9(t:TE):TT:=λσ H Q=>t σ H λx H'=>∃k,x=.bl k/\Q k H'
theorem ZHx{op:CmpOp}{r:R2}(ho:OpR X (compareOp op) r)(ha:PE X a ta)(hb:PE X b tb)(hm:behindInMarks op b=false):PT X (.Compare a [op] [b] pos) (ZF9 (tOp r ta tb)):=by
 intro pins s σ H Q I h;refine wpAny_isTrue_Compare1 (thn (ha pins s σ H _ I h) λ v s1 ⟨x,H1,I1,r1,q1⟩=>thn (hb pins s1 σ H1 _ I1 q1) λ u s2 ⟨y,H2,I2,r2,q2⟩ =>
  thn (ho pins s2 σ H2 x y v u _ I2 r1 r2 q2) λc s3 ⟨z,H3,I3,r3,k,e,q3⟩=>?_) hm
 subst e;cases r3;exact wpAny_truthy_bool ⟨H3,I3,q3⟩
def ZD3(r r':R2)(ta tb tc:TE):TE:=λσ H Q=>ta σ H λx H1=>tb σ H1 λy H2=>r x y H2 λz H3=>∃k,z=.bl k /\
 (if k=true then tc σ H3 λw' H4=>r' y w' H4 Q else Q (.bl false) H3)
theorem ZGT{op op':CmpOp}{r r':R2}(ho:OpR X (compareOp op) r)(ho':OpR X (compareOp op') r')(ha:PE X a ta)(hb:PE X b tb)(hc:PE X c tc)
  (hm:lastMarks [op,op'] [b,c]=false:=by with_unfolding_all rfl):PE X (.Compare a [op,op'] [b,c] pos) (ZD3 r r' ta tb tc):=by
 intro pins s σ H Q I h;refine Compare_chain (thn (ha pins s σ H _ I h) λ v s1 ⟨x,H1,I1,r1,q1⟩=>chain_link (thn (hb pins s1 σ H1 _ I1 q1) λ u s2 ⟨y,H2,I2,r2,q2⟩ =>
  thn (ho pins s2 σ H2 x y v u _ I2 r1 r2 q2) λd s3 ⟨z,H3,I3,r3,k,e,q3⟩=>?_)) hm
 subst e;cases r3;refine wpAny_truthy_bool ?_;cases k with
 |false=>exact ite_ff ⟨.bl false,H3,I3,rfl,q3⟩
 |true=>exact ite_tt (chain_last (thn (hc pins s3 σ H3 _ I3 q3) λw' s4 ⟨z',H4,I4,r4,q4⟩=>ho' pins s4 σ H4 y z' u w' Q I4 r2 r4 q4))
theorem ZGX{op op':CmpOp}{r r':R2}(ho:OpR X (compareOp op) r)(ho':OpR X (compareOp op') r')(ha:PE X a ta)(hb:PE X b tb)(hc:PE X c tc)
  (hm:lastMarks [op,op'] [b,c]=false:=by with_unfolding_all rfl):PT X (.Compare a [op,op'] [b,c] pos) (ZF9 (ZD3 r r' ta tb tc)):=by
 intro pins s σ H Q I h;refine isTrue_chain (thn (ha pins s σ H _ I h) λ v s1 ⟨x,H1,I1,r1,q1⟩=>test_link (thn (hb pins s1 σ H1 _ I1 q1) λ u s2 ⟨y,H2,I2,r2,q2⟩ =>
  thn (ho pins s2 σ H2 x y v u _ I2 r1 r2 q2) λd s3 ⟨z,H3,I3,r3,k,e,q3⟩=>?_)) hm
 subst e;cases r3;refine wpAny_truthy_bool ?_;cases k with
 |false =>
  obtain⟨k',e',q'⟩:=q3;cases e';exact ite_ff ⟨H3,I3,q'⟩
 |true =>
  refine ite_tt (test_last (thn (hc pins s3 σ H3 _ I3 q3) λw' s4 ⟨z',H4,I4,r4,q4⟩=>thn (ho' pins s4 σ H4 y z' u w' _ I4 r2 r4 q4) λd' s5 ⟨z2,H5,I5,r5,k2,e2,q5⟩=>?_));subst e2;cases r5;exact wpAny_truthy_bool ⟨H5,I5,q5⟩
theorem ZC3:(sizeLine:Nat)<2 ^ 63:=by rw[sizeLine_eq];decide
theorem ZDh:OpR X (binaryOp .Add) (λx y H Q=>∃i j,x=.str i/\y=.str j/\i.length+j.length<=sizeLine/\Q (.str (i++j)) H):=by
 intro pins s σ H x y v u Q I rx ry h;obtain⟨i,j,rfl,rfl,hz,q⟩:=h;obtain⟨t,rfl⟩:=rx;obtain⟨t',rfl⟩:=ry;exact add_str (λt' tk=>⟨.str (i++j),H,I.tok _,⟨_,rfl⟩,q⟩) hz
theorem ZBn{x:V}{us:List Value}(r:ZI [x] us):∃u,us=[u]/\ZW x u:=by
 cases r with
 |cons r1 r2=>cases r2;exact⟨_,rfl,r1⟩
theorem ZIB{x y:V}{us:List Value}(r:ZI [x,y] us):∃u w',us=[u,w']/\ZW x u/\ZW y w':=by
 cases r with
 |cons r1 r2 =>
  cases r2 with
  |cons r3 r4=>cases r4;exact⟨_,_,rfl,r1,r3⟩
theorem ZFm:ZQ X (.builtin "abs") (λxs H Q=>∃i,xs=[.int i]/\Q (.int (if i<0 then -i else i)) H):=by
 intro pins s σ H xs us Q I r h;obtain⟨i,rfl,q⟩:=h;obtain⟨u,rfl,t,rfl⟩:=ZBn r;exact call_abs_int λu tk=>⟨.int (if i<0 then -i else i),H,I.tok _,⟨_,rfl⟩,q⟩
theorem ZE6(hc:X.calm=true):ZQ X (.builtin "min") (λxs H Q=>∃i j,xs=[.int i,.int j]/\Q (.int (if j<i then j else i)) H):=by
 intro pins s σ H xs us Q I r h;obtain⟨i,j,rfl,q⟩:=h;obtain⟨u,w',rfl,⟨t,rfl⟩,⟨t',rfl⟩⟩:=ZIB r;refine min_two_ints (I.ok.hd hc) λh' tk k=>⟨_,H,I.kept k,?_,q⟩
 by_cases hj:j<i
 ·rw[if_pos hj,if_pos hj];exact⟨_,rfl⟩
 ·rw[if_neg hj,if_neg hj];exact⟨_,rfl⟩
theorem ZEz:ZQ X (.type "int") (λxs H Q=>(∃i,xs=[.int i]/\Q (.int i) H)∨∃k,xs=[.bl k]/\Q (.int (if k then 1 else 0)) H):=by
 intro pins s σ H xs us Q I r h;rcases h with ⟨i,rfl,q⟩|⟨k,rfl,q⟩
 ·obtain⟨u,rfl,t,rfl⟩:=ZBn r
  exact call_int_int ⟨.int i,H,I,⟨_,rfl⟩,q⟩
 ·obtain⟨u,rfl,r1⟩:=ZBn r
  cases r1;exact call_int_bool ⟨.int (if k then 1 else 0),H,I.tok _,⟨_,rfl⟩,q⟩
end
structure Room (k:Nat) (A:Around):Prop where
 hd:A.handled=none
 dp:A.depth+3*k+5<recursionLimit
 un:A.units+16*k+200<cLine
 gd:A.guards=some []
theorem Room.mono{j k:Nat}{A:Around}(r:Room k A)(h:j<=k):Room j A:=⟨r.hd,by have:=r.dp;omega,by have:=r.un;omega,r.gd⟩
theorem Room.deeper{k:Nat}{A:Around}(r:Room (k+1) A)(env:Env):Room k (A.deeper env) :=
 ⟨r.hd,by have:=r.dp;show A.depth+1+3*k+5<_;omega,by have:=r.un;show A.units+3+16*k+200<_;omega,r.gd⟩
theorem Room.depth{k:Nat}{A:Around}(r:Room k A):A.depth<recursionLimit:=by have:=r.dp;omega
theorem Room.units{k:Nat}{A:Around}(r:Room k A):A.units+64<cLine:=by have:=r.un;omega
def ZJ7:TA:=λ_ H Q=>Q [] H
def tCons(ta:TE)(tr:TA):TA:=λσ H Q=>ta σ H λx H1=>tr σ H1 λxs H2=>Q (x::xs) H2
section
variable{X:Cx}{e:Expr}{es:List Expr}{te:TE}{t:TA}{pos:Pos}
theorem ZIj:PA X [] ZJ7:=λ_ _ _ _ H Q I h=>Calls.spliced_nil ⟨[],H,I,.nil,h⟩
theorem ZHd(ha:PE X e te)(hr:PA X es t)(hs:starEach (e::es) X.env=(false,eval e X.env)::starEach es X.env:=by rfl):PA X (e::es) (tCons te t):=by
 intro pos pins s σ H Q I h;rw[hs];show wpAny _ _ (spliced ((false,eval e X.env)::backTo pos (starEach es X.env))) _ _ s;refine Calls.spliced_cons (thn (ha pins s σ H _ I h) λu s1 ⟨x,H1,I1,r1,q1⟩=>?_);exact thn (hr pos pins s1 σ H1 _ I1 q1) λus s2 ⟨xs,H2,I2,r2,q2⟩=>⟨x::xs,H2,I2,.cons r1 r2,q2⟩
def tTup(t:TA):TE:=λσ H Q=>t σ H λxs H1=>xs.length<=sizeLine/\∀p,H1 p=none->Q (.ref p) (upd H1 p (.tup xs))
def tLst(t:TA):TE:=λσ H Q=>t σ H λxs H1=>xs.length<=sizeLine/\∀p,H1 p=none->Q (.ref p) (upd H1 p (.lst xs))
theorem ZI4{x1}(h:PA X es t):PE X (.Tuple es x1 pos) (tTup t):=by
 intro pins s σ H Q I hq;refine wpAny_Tuple_spliced (thn (h pos pins s σ H _ I hq) λus s1 ⟨xs,H1,I1,r,z,q⟩=>⟨by rw[←r.length];exact z,?_⟩);have hf:H1 s1.heap.objs.size=none:=I1.hok.fresh (le_refl _);refine⟨.ref s1.heap.objs.size,upd H1 s1.heap.objs.size (.tup xs),I1.laid (t':=s1.toks) (λb u e=>get?_push_of_some _ e) (le_refl _) ?_,rfl,q _ hf⟩;exact⟨z,us,r,⟨_,get?_push_size _ rfl,rfl,_,rfl⟩⟩
theorem ZFw(h:PA X es t):PE X (.List es pos) (tLst t):=by
 intro pins s σ H Q I hq;refine wpAny_List_spliced (thn (h pos pins s σ H _ I hq) λus s1 ⟨xs,H1,I1,r,z,q⟩=>⟨by rw[←r.length];exact z,?_⟩);have hf:H1 s1.heap.objs.size=none:=I1.hok.fresh (le_refl _);refine⟨.ref s1.heap.objs.size,upd H1 s1.heap.objs.size (.lst xs),I1.laid (t':=s1.toks) (λb u e=>get?_push_of_some _ e) (le_refl _) ?_,rfl,q _ hf⟩;exact⟨z,us,0,r,get?_push_size _ rfl⟩
end
abbrev Sp:=List V->Hp->VK->XK->Prop
abbrev CXT:=List Env->Hp->Shared->XK->Value->Shared->Prop
structure Env0 (P:Program) (w:World) (K:PySem.W.Frag) (mg:Str->Option Value) (base:Heap) (A:Around) (outer:List Env) (s:Shared) (H:Hp):Prop where
 frames:A.frames=some outer
 mod:Mod K mg base
 bs:∀b o,base.get? b=some o->s.heap.get? b=some o/\H b=none
 bsz:base.objs.size<=s.heap.objs.size
 funs:s.heap.FunFrames base outer
 frf:∀b∈frs outer,H b=none
 hok:HOk P w H s.heap
 bare:AllBare s.gens
def CE(outer:List Env)(P:Program)(w:World)(H:Hp)(s:Shared)(Q:VK)(u:Value)(s':Shared):Prop :=
 ∃v H',s'.os=s.os/\AllBare s'.gens/\Un (frs outer) [] H H' s.heap s'.heap/\HOk P w H' s'.heap/\ZW v u/\Q v H'
def CR(CX:CXT)(outer:List Env)(P:Program)(w:World)(H:Hp)(s:Shared)(Q:VK)(E:XK)(r:Result)(s':Shared):Prop :=
 match r with
 |.ok (.ret u)=>CE outer P w H s Q u s'
 |.ok _=>False
 |.error e=>CX outer H s E e s'
structure FnOk (P:Program) (w:World) (K:PySem.W.Frag) (mg:Str->Option Value) (base:Heap) (CX:CXT) (k:Nat) (f:Addr) (fd:FuncData) (ps:List Str) (sp:Sp):Prop where
 len:∀vs H Q E,sp vs H Q E->vs.length=ps.length
 run:∀(A:Around) (outer:List Env) (s:Shared) (H:Hp) (args:Args) (us:List Value) (vs:List V) (Q:VK) (E:XK),Room k A->Env0 P w K mg base A outer s H->BindsTo s fd args (ps.zip us)->ZI vs us->sp vs H Q E ->
  codeAny (model P w) A (.call (.ref f) args) (CR CX outer P w H s Q E) s
theorem FnOk.imp{P:Program}{w:World}{K:PySem.W.Frag}{mg:Str->Option Value}{base:Heap}{CX:CXT}{k:Nat}{f:Addr}{fd:FuncData}{ps:List Str}{sp sp':Sp}(F:FnOk P w K mg base CX k f fd ps sp)
  (h:∀vs H Q E,sp' vs H Q E->sp vs H Q E):FnOk P w K mg base CX k f fd ps sp' :=
 ⟨λvs H Q E q=>F.len vs H Q E (h _ _ _ _ q),λA outer s H args us vs Q E hr he hb hv hs=>F.run A outer s H args us vs Q E hr he hb hv (h _ _ _ _ hs)⟩
section
variable{X:Cx}{pins:List (Addr×Obj)}{σ : St}{H:Hp}{s s':Shared}
theorem Inv.env0(I:Inv X pins σ H s):Env0 X.prog X.w X.K X.mg X.base X.A X.stack s H :=
 ⟨I.ok.frames,I.ok.mod,I.bs,le_trans I.ok.bsz I.sz,I.stack,I.stkFree,I.hok,I.bare⟩
theorem Inv.after{Q:VK}{u:Value}(I:Inv X pins σ H s)(h:CE X.stack X.prog X.w H s Q u s'):EP X pins σ Q u s':=by
 obtain⟨v,H',os,bare,un,hok,r,q⟩:=h;obtain⟨hh,g,d,t,os'⟩:=s';obtain rfl:os'=s.os:=os;exact⟨v,H',I.call (h':=hh) (g':=g) (d':=d) (t':=t) (ch:=[]) un hok bare (λb z=>absurd z (by simp)),r,q⟩
end
def ZFe(sp:Sp)(dvs:List V)(E:XK)(t:TA):TE:=λσ H Q=>t σ H λvs H1=>sp (vs++dvs) H1 Q E
def ZBv(K:PySem.W.Frag)(fd:FuncData)(ps:List Str)(ds:List Value):Prop :=
 ∀(s:Shared) (us:List Value),K.In s.heap->(us++ds).length=ps.length->BindsTo s fd ⟨us,[]⟩ (ps.zip (us++ds))
theorem ZBv.all{K:PySem.W.Frag}{fd:FuncData}{ps:List Str}(h:∀us:List Value,us.length=ps.length->bindArgs fd ⟨us,[]⟩=pure (ps.zip us)):ZBv K fd ps []:=λs us _ hl=>by
 rw[append_nil] at hl ⊢;exact .of_eq (h us hl)
def ZC4(CX:CXT)(X:Cx)(E:XK):Prop:=∀(pins:List (Addr×Obj)) (σ : St) (H:Hp) (s:Shared) (e:Value) (s':Shared),Inv X pins σ H s->CX X.stack H s E e s'->X.xe e s'
section
variable{X:Cx}{CX:CXT}{k:Nat}{f C:Addr}{fd:FuncData}{ps:List Str}{sp:Sp}{dvs:List V}{ds:List Value}{E:XK}{x m:Str}{p pos apos:Pos}{e o:Expr}{es:List Expr}{ta:TE}{t:TA}
theorem ZFk{pins:List (Addr×Obj)}{σ : St}{H:Hp}{s:Shared}{Q:VK}{us:List Value}{vs:List V}(F:FnOk X.prog X.w X.K X.mg X.base CX k f fd ps sp)(hr:Room k X.A)(hb:ZBv X.K fd ps ds)(hd:ZI dvs ds)(hx:ZC4 CX X E)
  (I:Inv X pins σ H s)(r:ZI vs us)(h:sp (vs++dvs) H Q E):wpAny (model X.prog X.w) X.A (call (.ref f) us) (EP X pins σ Q) X.xe s:=by
 have r2:ZI (vs++dvs) (us++ds):=r.append hd;have hl:(us++ds).length=ps.length:=by rw[←r2.length];exact F.len _ _ _ _ h
 refine wpAny_call (codeAny_mono (F.run X.A X.stack s H ⟨us,[]⟩ (us++ds) (vs++dvs) Q E hr I.env0 (hb s us I.kIn hl) r2 h) λr s' hq=>?_);cases r with
 |error e=>exact hx pins σ H s e s' I hq
 |ok fl =>
  cases fl with
  |ret u=>exact I.after hq
  |next=>exact False.elim hq
  |brk=>exact False.elim hq
  |cont=>exact False.elim hq
theorem ZGw(F:FnOk X.prog X.w X.K X.mg X.base CX k f fd ps sp)(hr:Room k X.A)(hg:Gl X x)(hm:X.mg x=some (.ref f))(hk:PySem.W.keepIn X.K (.ref f)=true)(hb:ZBv X.K fd ps ds)(hd:ZI dvs ds)(hx:ZC4 CX X E)
  (ha:PA X (e::es) t)(hdb:(x == ("__debug__" : Str))=false:=by decide)(he:starEach (e::es) X.env=(false,eval e X.env)::starEach es X.env:=by rfl)(hpl:(backTo pos (starEach es X.env)).any (·.1)=false:=by rfl) :
  PE X (.Call (.Name x p) (e::es) [] pos) (ZFe sp dvs E t):=by
 intro pins s σ H Q I h;refine wpAny_Call_Name_kw (ZC7 I hg hm ?_ hdb);refine PySem.W.callWith_K (h₀:=X.base) I.ok.mod.kin hk (thn (ha pos pins s σ H _ I h) λus s1 ⟨vs,H1,I1,r,q⟩=>⟨I1.kIn,?_⟩) he hpl;exact ZFk F hr hb hd hx I1 r q
theorem ZGM(F:FnOk X.prog X.w X.K X.mg X.base CX k f fd ps sp)(hr:Room k X.A)(hg:Gl X x)(hm:X.mg x=some (.ref f))(hk:PySem.W.keepIn X.K (.ref f)=true)(hb:ZBv X.K fd ps ds)(hd:ZI dvs ds)(hx:ZC4 CX X E)
  (hdb:(x == ("__debug__" : Str))=false:=by decide):PE X (.Call (.Name x p) [] [] pos) (ZFe sp dvs E ZJ7):=by
 intro pins s σ H Q I h;refine wpAny_Call_Name_kw (ZC7 I hg hm ?_ hdb);exact PySem.W.callWith_K0 I.kIn hk (ZFk (us:=[]) F hr hb hd hx I .nil h)
end
structure FnScope (N P:List Str) (sc:Scope):Prop where
 kind:sc.kind=.function
 co:sc.isCoroutine=false
 gen:sc.isGenerator=false
 nd:N.Nodup
 pre:N.take P.length=P
 par:∀x∈P,sc.names.lookup x=some .local∨sc.names.lookup x=some .cell
 nofree:∀y∈sc.names,y.2≠.free
theorem ZCe{kindOf:Str->Option NameKind}{x:Str}:∀{binds:List (Str×Value)} {m:Str->Option Value},(∀v,(x,v)∉binds)->bindL kindOf binds m x=m x
 |[],_,_=>rfl
 |(n,v)::r,m,h=>by
  unfold bindL;rw[ZCe λw hw=>h w (mem_cons_of_mem _ hw)]
  split
  ·have:x≠n:=by rintro rfl;exact h v mem_cons_self
   simp[this]
  ·rfl
theorem ZCp{kindOf:Str->Option NameKind}{x:Str}:∀{binds:List (Str×Value)} {m:Str->Option Value},(∀v,(x,v)∉binds)->bindC kindOf binds m x=m x
 |[],_,_=>rfl
 |(n,v)::r,m,h=>by
  unfold bindC;rw[ZCp λw hw=>h w (mem_cons_of_mem _ hw)]
  split
  ·rfl
  ·have:x≠n:=by rintro rfl;exact h v mem_cons_self
   simp[this]
theorem ZCc{kindOf:Str->Option NameKind}{x:Str}{v:Value}:∀{P:List Str} {vs:List Value} {i:Nat} {m:Str->Option Value},P.Nodup->P[i]? = some x->vs[i]? = some v->kindOf x=some .local ->
  bindL kindOf (P.zip vs) m x=some v
 |[],_,_,_,_,h,_,_=>by simp at h
 |_::_,[],_,_,_,_,h,_=>by simp at h
 |p::P,w::vs,0,m,nd,h1,h2,hk=>by
  simp at h1 h2;subst h1;subst h2;show bindL kindOf ((p,w)::P.zip vs) m p=_;unfold bindL;rw[ZCe λv hv=>(List.nodup_cons.mp nd).1 (of_mem_zip hv).1,if_pos hk];simp
 |p::P,w::vs,i+1,m,nd,h1,h2,hk=>by
  show bindL kindOf ((p,w)::P.zip vs) m x=_;unfold bindL;exact ZCc (i:=i) (List.nodup_cons.mp nd).2 (by simpa using h1) (by simpa using h2) hk
theorem ZCq{kindOf:Str->Option NameKind}{x:Str}{v:Value}:∀{P:List Str} {vs:List Value} {i:Nat} {m:Str->Option Value},P.Nodup->P[i]? = some x->vs[i]? = some v->kindOf x≠some .local ->
  bindC kindOf (P.zip vs) m x=some v
 |[],_,_,_,_,h,_,_=>by simp at h
 |_::_,[],_,_,_,_,h,_=>by simp at h
 |p::P,w::vs,0,m,nd,h1,h2,hk=>by
  simp at h1 h2;subst h1;subst h2;show bindC kindOf ((p,w)::P.zip vs) m p=_;unfold bindC;rw[ZCp λv hv=>(List.nodup_cons.mp nd).1 (of_mem_zip hv).1,if_neg hk];simp
 |p::P,w::vs,i+1,m,nd,h1,h2,hk=>by
  show bindC kindOf ((p,w)::P.zip vs) m x=_;unfold bindC;exact ZCq (i:=i) (List.nodup_cons.mp nd).2 (by simpa using h1) (by simpa using h2) hk
def ZBD(N:List Str)(vs:List V):St:=vs.map some++List.replicate (N.length-vs.length) none
def ZDV(CX:CXT)(P:Program)(w:World)(K:PySem.W.Frag)(mg:Str->Option Value)(base:Heap)(N:List Str)(qual:Str)(scope:Scope)(f:Addr)(cd:Value)(A:Around)(outer:List Env)(s:Shared)(H:Hp)(E:XK):Cx where
 prog:=P
 w:=w
 K:=K
 mg:=mg
 base:=base
 A:=A.deeper (envOfC qual scope s.heap.objs.size f cd)
 N:=N
 s₀:=s
 H₀:=H
 env:=envOfC qual scope s.heap.objs.size f cd
 outer:=outer
 stack:=envOfC qual scope s.heap.objs.size f cd::outer
 ex:=[]
 calm:=true
 fn:=λ_=>true
 pn:=[]
 xe:=λe s'=>wpAny (model P w) (A.deeper (envOfC qual scope s.heap.objs.size f cd)) (leaving (envOfC qual scope s.heap.objs.size f cd) e) (λ_ s''=>CX outer H s E e s'') (λe' s''=>CX outer H s E e' s'') s'
theorem ZDg{sc:Scope}{n:Nat}{x:Str}(h:sc.names.lookup x=some .cell):∃c,(cellsFrom n sc.names []).lookup x=some c:=by
 have q:=PySem.W.cellsFrom_some sc.names n [] (.inl h);exact Option.isSome_iff_exists.mp q
theorem ZEV{CX:CXT}{P:Program}{w:World}{K:PySem.W.Frag}{mg:Str->Option Value}{base:Heap}{N ps:List Str}{qual:Str}{scope:Scope}{f:Addr}{cd:Value}{A:Around}{outer:List Env}{s s1:Shared}{H:Hp}{E:XK}{us:List Value}{vs:List V}
  (S:FnScope N ps scope)(hd:A.handled=none)(e0:Env0 P w K mg base A outer s H)(hl:vs.length=ps.length)(r:ZI vs us)
  (x:InCallC s s.heap.objs.size (bindL (envOfC qual scope s.heap.objs.size f cd).kindOf (ps.zip us) λ_=>none) (cellsFrom (s.heap.objs.size+1) scope.names []) (bindC (envOfC qual scope s.heap.objs.size f cd).kindOf (ps.zip us) λ_=>none) s1) :
  Inv (ZDV CX P w K mg base N qual scope f cd A outer s H E) [] (ZBD N vs) H s1:=by
 have hpl:ps.length<=N.length:=by have:=congrArg List.length S.pre;rw[length_take] at this;omega
 obtain⟨h1,tk,rfl,hk⟩:=x.done;have noA:∀b:Addr,b∉(ZDV CX P w K mg base N qual scope f cd A outer s H E).ex:=λb z=>absurd (show b∈([]:List Addr) from z) (by simp)
 refine⟨⟨e0.mod,S.kind,rfl,rfl,le_refl _,λy z c h1 h2=>?_,λy hy=>?_,λy c _ h=>?_,λ_=>hd,Around.frames_deeper e0.frames,.inr ⟨rfl,rfl⟩,λb z=>absurd z (noA b),e0.bs,e0.bsz,λb _ _=>noA b,λb z=>absurd z (noA b),e0.funs,e0.frf⟩,
  rfl,e0.bare,Un.kept hk,⟨_,x.toInCall.ns,λi y v h1 h2 h3=>?_⟩,λy c h=>⟨_,x.cell y c h⟩,e0.hok.fresh (le_refl _),λy c h=>?_,λp hp=>absurd (show p∈([]:List (Addr×Obj)) from hp) (by simp),e0.hok.kept hk,?_⟩
 ·exact name_of_addr x.apart (PySem.mem_of_lookup h1) (PySem.mem_of_lookup h2)
 ·have hy:scope.names.lookup y=some .cell∨scope.names.lookup y=some .free:=hy
  rcases hy with hy|hy
  ·exact ZDg hy
  ·exact absurd rfl (S.nofree _ (PySem.mem_of_lookup hy))
 ·exact le_of_lt (x.above y c (PySem.mem_of_lookup h))
 ·have hi:i<vs.length:=by
   unfold ZBD at h2
   by_cases hi:i<vs.length
   ·exact hi
   ·rw[getElem?_append_right (by simpa using hi)] at h2
    rw[getElem?_replicate] at h2
    split at h2 <;> cases h2
  have ha:vs[i]? = some v:=by
   unfold ZBD at h2;rw[getElem?_append_left (by simpa using hi),getElem?_map] at h2;cases e:vs[i]? with
   |none=>rw[e] at h2;cases h2
   |some a=>rw[e] at h2;cases h2;rfl
  obtain⟨u,hu,rv⟩:=r.get ha;have hp:ps[i]? = some y:=by
   rw[←S.pre,List.getElem?_take_of_lt (by omega)];exact h1
  have ndP:ps.Nodup:=by rw[←S.pre];exact S.nd.sublist (List.take_sublist _ _)
  refine⟨u,rv,?_⟩;rcases S.par y (mem_of_getElem? hp) with k|k
  ·exact .inl ⟨k,ZCc ndP hp hu k⟩
  ·obtain⟨c,e⟩:=ZDg (n:=s.heap.objs.size+1) k
   refine .inr ⟨.inl k,c,e,?_⟩;have q:=x.cell y c e;rw[ZCq ndP hp hu (by show scope.names.lookup y≠_;rw[k];decide)] at q;exact q
 ·exact e0.hok.fresh (le_of_lt (x.above y c (PySem.mem_of_lookup h)))
 ·unfold ZBD
  show _=N.length;rw[length_append,length_map,length_replicate];omega
theorem fn_of{CX:CXT}{P:Program}{w:World}{K:PySem.W.Frag}{mg:Str->Option Value}{base:Heap}{k:Nat}{f:Addr}{name qual:Str}{params:Arguments}{body:List Stmt}{scope:Scope}{dV kV doc pm cdv ct oc:Value}{an od:Option Addr}
  {osl:Array (Option Value)}{N ps:List Str}{sp:Sp}(lk:K.lookup f=some ⟨oc,od,.func (PySem.W.fnOf name qual params body scope dV kV doc pm an cdv ct),osl⟩)(hcd:PySem.W.codeIn K cdv qual=true)(S:FnScope N ps scope)
  (len:∀vs H Q E,sp vs H Q E->vs.length=ps.length)
  (hbody:∀ (A:Around) (outer:List Env) (s:Shared) (H:Hp) (vs:List V) (Q:VK) (E:XK),Room k (A.deeper (envOfC qual scope s.heap.objs.size f cdv))->sp vs H Q E ->
   ∃t,PSs (ZDV CX P w K mg base N qual scope f cdv A outer s H E) body t/\t { nx:=λ_ H'=>Q .non H',rt:=Q } (ZBD N vs) H) :
  FnOk P w K mg base CX (k+1) f (PySem.W.fnOf name qual params body scope dV kV doc pm an cdv ct) ps sp:=by
 refine⟨len,λA outer s H args us vs Q E hr e0 hb r hsp=>?_⟩;have hl:=len _ _ _ _ hsp;have KX:K.In s.heap:=e0.mod.kin.keeps λb o e=>(e0.bs b o e).1
 have lim:s.heap.NoLimit:=e0.mod.nolimit.keeps λb o e=>(e0.bs b o e).1
 have hkind:∀y∈ps.zip us,scope.names.lookup y.1=some .local∨(scope.names.lookup y.1=some .cell/\((cellsFrom (s.heap.objs.size+1) scope.names []).lookup y.1).isSome=true):=λ⟨n,v⟩ hy=>by
  rcases S.par n (of_mem_zip hy).1 with q|q
  ·exact .inl q
  ·exact .inr ⟨q,PySem.W.cellsFrom_some _ _ _ (.inl q)⟩
 refine codeAny_call_function hr.depth (KX _ _ lk) rfl S.co S.gen rfl (PySem.W.codeRec_of KX hcd) (hb _ _ _ _ ?_);refine wpAny_newFunctionEnv_cells S.kind hkind λenv he s1 x=>?_
 subst he;refine⟨lim.keeps x.toInCall.keep,codeAny_func ?_⟩;obtain⟨t,ht,hq⟩:=hbody A outer s H vs Q E (hr.deeper _) hsp;have I:Inv (ZDV CX P w K mg base N qual scope f cdv A outer s H E) [] (ZBD N vs) H s1:=ZEV S hr.hd e0 hl r x;refine wpAny_mono (ht [] s1 (ZBD N vs) H _ I hq) (λfl s' hs=>?_) λe s' hs=>hs
 have fin:∀{σ':St} {H':Hp} {v:V} {u:Value},Inv (ZDV CX P w K mg base N qual scope f cdv A outer s H E) [] σ' H' s'->ZW v u->Q v H'->CE outer P w H s Q u s' :=
  λ{σ' H' v u} J rv q=>⟨v,H',J.os,J.bare,J.base,J.hok,rv,q⟩
 cases fl with
 |ret u =>
  obtain⟨v,σ',H',J,rv,q⟩:=hs;exact fin J rv q
 |next =>
  obtain⟨σ',H',J,q⟩:=hs;exact fin (v:=V.non) (u:=Value.none) J rfl q
 |brk =>
  obtain⟨_,_,_,q⟩:=hs;exact False.elim q
 |cont =>
  obtain⟨_,_,_,q⟩:=hs;exact False.elim q
section
variable{X:Cx}{x:Str}{p pos:Pos}{e:Expr}{es:List Expr}{t:TA}{id T:String}{r:List V->Hp->VK->Prop}
def tCB(r:List V->Hp->VK->Prop)(t:TA):TE:=λσ H Q=>t σ H λvs H1=>r vs H1 Q
theorem ZFD(hc:ZQ X (.builtin id) r)(hg:Gl X x)(hm:X.mg x=none)(hv:bootBuiltins x=some (.builtin id))(ha:PA X (e::es) t)(hn:x≠"__name__":=by decide)(hdb:(x == ("__debug__" : Str))=false:=by decide)
  (he:starEach (e::es) X.env=(false,eval e X.env)::starEach es X.env:=by rfl)(hpl:(backTo pos (starEach es X.env)).any (·.1)=false:=by rfl):PE X (.Call (.Name x p) (e::es) [] pos) (tCB r t):=by
 intro pins s σ H Q I h;refine wpAny_Call_Name_kw (ZBO I hg hm hv ?_ hn hdb);exact PyProof.Rows.callWith_builtin1 (thn (ha pos pins s σ H _ I h) λus s1 ⟨vs,H1,I1,r1,q1⟩=>hc pins s1 σ H1 vs us Q I1 r1 q1) he hpl
theorem ZEh(hc:ZQ X (.type T) r)(hg:Gl X x)(hm:X.mg x=none)(hv:bootBuiltins x=some (.type T))(ha:PA X (e::es) t)(hn:x≠"__name__":=by decide)(hdb:(x == ("__debug__" : Str))=false:=by decide)
  (he:starEach (e::es) X.env=(false,eval e X.env)::starEach es X.env:=by rfl)(hpl:(backTo pos (starEach es X.env)).any (·.1)=false:=by rfl):PE X (.Call (.Name x p) (e::es) [] pos) (tCB r t):=by
 intro pins s σ H Q I h;refine wpAny_Call_Name_kw (ZBO I hg hm hv ?_ hn hdb);exact PyProof.Rows.callWith_type1 (thn (ha pos pins s σ H _ I h) λus s1 ⟨vs,H1,I1,r1,q1⟩=>hc pins s1 σ H1 vs us Q I1 r1 q1) he hpl
end
end L2
namespace HT
open PySem PyProof.Rows
def lexLt:List Int->List Int->Bool
 |[],[]=>false
 |[],_::_=>true
 |_::_,[]=>false
 |x::xs,y::ys=>if x=y then lexLt xs ys else decide (x<y)
theorem ZDs(x y:Int)(xs ys:List Int):lexLt (x::xs) (y::ys)=if x=y then lexLt xs ys else decide (x<y):=rfl
theorem ZCV:lexLt [] []=false:=rfl
theorem ZBk(y:Int)(ys:List Int):lexLt [] (y::ys)=true:=rfl
theorem ZCF(x:Int)(xs:List Int):lexLt (x::xs) []=false:=rfl
theorem ZCA(A:Around)(s:Shared)(a:Int)(t:Tok)(c:Int)(u:Tok):∃e,SeqAt.EqAt A s (.int a t) (.int c u) e/\(e=true ↔ a=c) :=
 ⟨(a == c),SeqAt.EqAt.int_int a t c u,by simp⟩
theorem ZF1(A:Around)(s:Shared)(a:Int)(t:Tok)(c:Int)(u:Tok)(prog:Program)(w:World)(E:Value->Shared->Prop)(Q:Value->Shared->Prop)(h:Q (.bool (decide (a<c))) s) :
  wpAny (model prog w) A (richCompare .Lt (.int a t) (.int c u)) Q E s :=
 (PyProof.Rows.lt_int h:wpAny (model prog w) A (compareOp .Lt (.int a t) (.int c u)) Q E s)
section
open PySem.SeqAt
open PySem.AutoSeq1 (wpAny_loadPart')
open PySem.MeetsSeq PySem.MeetsSeq2 PySem.MeetsSeq3
theorem ZCS(l b:Addr)(items items2:Array Value)(n n2:Nat)(dd dd2:Option Addr)(sl sl2:Array (Option Value))(ns ms:List Int)(hi:IntsAre items.toList ns)(hj:IntsAre items2.toList ms) :
  Meets (Builtin.«tuple.__lt__» ⟨[.ref l,.ref b],[]⟩)
   (λ _ R s=>s.heap.get? l=some { cls:=.type "tuple",dict:=dd,data:=.seq items n,slots:=sl }/\s.heap.get? b=some { cls:=.type "tuple",dict:=dd2,data:=.seq items2 n2,slots:=sl2 } /\
    R (.ok (.ret (.bool (lexLt ns ms)))) s) :=
 .of_wp λprog w A R s h=>by
  obtain⟨hp,g,d,tk,os⟩:=s;obtain⟨hl,hb,h⟩:=h;have f2:=AutoSeq1.sub_tuple_tuple;have z1:items.size=ns.length:=by rw[←hi.length];simp
  have z2:items2.size=ms.length:=by rw[←hj.length];simp
  wp_walk using wpAny_loadPart' hl,wpAny_loadPart' hb,wpAny_forIn_list _ (λ rest b s'=>b.1=none/\s'=⟨hp,g,d,tk,os⟩/\∃ (vs ws:List Value) (ns' ms':List Int),rest=vs.zip ws /\
   IntsAre vs ns'/\IntsAre ws ms'/\ns'.length+items2.size=ms'.length+items.size/\R (.ok (.ret (.bool (lexLt ns' ms')))) ⟨hp,g,d,tk,os⟩) _
  case turn =>
   rintro ⟨y,x⟩ rest b s' ⟨hb',rfl,vs,ws,ns',ms',hz,hvi,hwi,hlen,hR⟩
   cases hvi with
   |nil=>rw[zip_nil_left] at hz;cases hz
   |cons a t hvi' =>
    cases hwi with
    |nil=>rw[List.zip_nil_right] at hz;cases hz
    |cons c u hwi' =>
     rw[zip_cons_cons] at hz;injection hz with hyx hrest
     injection hyx with hy hx
     subst hy hx;rw[ZDs] at hR;simp only[length_cons] at hlen;obtain⟨e,he,hiff⟩:=ZCA A.in1 ⟨hp,g,d,tk,os⟩ a t c u;refine wpAny_bind (he prog w _ _ ?_);cases e with
     |true =>
      rw[if_pos (hiff.mp rfl)] at hR
      wp_walk
      exact⟨rfl,rfl,_,_,_,_,hrest,hvi',hwi',by omega,hR⟩
     |false =>
      rw[if_neg (λq=>absurd (hiff.mpr q) Bool.false_ne_true)] at hR;have hri:=ZF1 A.in1 ⟨hp,g,d,tk,os⟩ a t c u prog w
      wp_walk using hri
      exact⟨_,rfl,by simpa using hR⟩
  case fin =>
   rintro ⟨b1,b2⟩ s' ⟨hb',rfl,vs,ws,ns',ms',hz,hvi,hwi,hlen,hR⟩
   simp only at hb';subst hb';have hv:lexLt ns' ms'=decide (items.size<items2.size):=by
    cases hvi with
    |nil =>
     cases hwi with
     |nil =>
      simp only[length_nil] at hlen;rw[ZCV];exact(decide_eq_false (by omega)).symm
     |cons c u hw =>
      simp only[length_nil,length_cons] at hlen;rw[ZBk];exact(decide_eq_true (by omega)).symm
    |cons a t hv =>
     cases hwi with
     |nil =>
      simp only[length_nil,length_cons] at hlen;rw[ZCF];exact(decide_eq_false (by omega)).symm
     |cons c u hw =>
      rw[zip_cons_cons] at hz;cases hz
   rw[hv] at hR
   wp_walk
   exact⟨_,rfl,by simpa [Builtin.Tuple.tupleCompareSizes] using hR⟩
  case h =>
   exact⟨rfl,rfl,items.toList,items2.toList,ns,ms,rfl,hi,hj,by omega,h⟩
end
section
variable{prog:Program}{w:World}{A:Around}{E:Value->Shared->Prop}{s:Shared}
theorem lt_tupInts{l b:Addr}{items items2:Array Value}{ns ms:List Int}{Q:Value->Shared->Prop}(hl:IsTup s.heap l items)(hb:IsTup s.heap b items2)(hi:IntsAre items.toList ns)(hj:IntsAre items2.toList ms)
  (hu:A.units<cLine)(h:Q (.bool (lexLt ns ms)) s):wpAny (model prog w) A (compareOp .Lt (.ref l) (.ref b)) Q E s:=by
 obtain⟨⟨cls,dd,data,sl⟩,ho,hc,n,hd⟩:=id hl;obtain⟨⟨cls2,dd2,data2,sl2⟩,ho2,hc2,n2,hd2⟩:=id hb;simp only at hc hd hc2 hd2;subst hc hd hc2 hd2;exact richCompare_meets_room (op:=.Lt) ⟨_,ho,rfl⟩ ⟨_,ho2,rfl⟩ PySem.F.slot_tuple_lt PySem.F.entry_tuple_lt (PySem.F.args_tuple_lt_2 _ _) (ZCS l b items items2 n n2 dd dd2 sl sl2 ns ms hi hj)
  ⟨ho,ho2,show Value.bool (lexLt ns ms)≠Value.notImplemented/\Q (.bool (lexLt ns ms)) s from ⟨(λx=>nomatch x),h⟩⟩ hu
theorem ZHA{t b:Addr}{vs ws:List Value}{Q:Value->Shared->Prop}(ht:IsTup s.heap t vs.toArray)(hb:IsTup s.heap b ws.toArray)(hv:vs≠[])
  (h1:ws=[]->Q (.ref t) s)(h2:ws≠[]->Q (.ref s.heap.objs.size) { s with heap:=s.heap.push { cls:=.type "tuple",data:=.seq (vs++ws).toArray } })
  (hsz:vs.length+ws.length<=sizeLine):wpAny (model prog w) A (binaryOp .Add (.ref t) (.ref b)) Q E s:=by
 obtain⟨⟨cls,dd,data,sl⟩,ho,hc,n,hd⟩:=id ht;obtain⟨⟨cls2,dd2,data2,sl2⟩,ho2,hc2,n2,hd2⟩:=id hb;simp only at hc hd hc2 hd2;subst hc hd hc2 hd2;have e:vs.toArray++ws.toArray=(vs++ws).toArray:=by simp
 by_cases hw:ws=[]
 ·exact concat_meets ⟨_,ho,rfl⟩ ⟨_,ho2,rfl⟩ noFill_tuple_add seq_tuple_add PySem.F.slot_tuple_add PySem.F.entry_tuple_add (PySem.F.args_tuple_add_2 _ _)
   (tuple_addW1 t b vs.toArray ws.toArray n n2 dd dd2 sl sl2 (by simpa using hv) (by simp[hw])) ⟨ho,ho2,h1 hw⟩
 ·refine concat_meets ⟨_,ho,rfl⟩ ⟨_,ho2,rfl⟩ noFill_tuple_add seq_tuple_add PySem.F.slot_tuple_add PySem.F.entry_tuple_add (PySem.F.args_tuple_add_2 _ _)
   (tuple_addW2 t b vs.toArray ws.toArray n n2 dd dd2 sl sl2 (by simpa using hv) (by simpa using hw) (by rw[size_toArray,size_toArray];exact hsz)) ⟨ho,ho2,?_⟩
  rw[e];exact h2 hw
def sIx(n d:Nat):Option Int->Nat
 |none=>d
 |some v=>if v<0 then (v+(n:Int)).toNat else min v.toNat n
theorem ZIQ(n d:Nat)(hd:d<=n)(o:Option Int):sIx n d o<=n:=by
 cases o with
 |none=>exact hd
 |some v =>
  show(if v<0 then (v+(n:Int)).toNat else min v.toNat n)<=n
  by_cases hv:v<0
  ·rw[if_pos hv];omega
  ·rw[if_neg hv];exact Nat.min_le_right _ _
theorem ZEQ(v:Int)(n d:Nat):(if v<0 then max (v+(n:Int)) 0 else min v (n:Int))=((sIx n d (some v):Nat):Int):=by
 show(if v<0 then max (v+(n:Int)) 0 else min v (n:Int))=(((if v<0 then (v+(n:Int)).toNat else min v.toNat n):Nat):Int)
 by_cases hv:v<0
 ·simp only[if_pos hv];omega
 ·simp only[if_neg hv];omega
theorem ZDx(lo hi:Option Int)(n:Nat):Builtin.Slice.sliceAdjust lo hi 1 (n:Int)=(((sIx n 0 lo:Nat):Int),((sIx n n hi:Nat):Int)):=by
 have h1 : ¬((1:Int)<0):=by omega
 unfold Builtin.Slice.sliceAdjust;simp only[h1,if_false];refine Prod.ext ?_ ?_
 ·cases lo with
  |none=>rfl
  |some v=>exact ZEQ v n 0
 ·cases hi with
  |none=>rfl
  |some v=>exact ZEQ v n n
theorem ZDw(i j:Nat):Builtin.Slice.slicePlaces (i:Int) (j:Int) 1=j-i:=by
 unfold Builtin.Slice.slicePlaces;have h1:(1:Int) > 0:=by omega
 simp only[h1,if_true,Int.ediv_one]
 split <;> omega
theorem ZBt{v:Value}{o:Option Int}{Q:Option Int->Shared->Prop}(p:IsPart v o)(h:Q o s):wpAny (model prog w) A (Builtin.Slice.slicePartIndex v) Q E s:=by
 cases p with
 |none=>exact slicePart_none h
 |int i t=>exact slicePart_int h
theorem ZAU{sl:Addr}{vl vu:Value}{lo hi:Option Int}{n:Nat}{Q:Int×Int×Nat->Shared->Prop}(hs:s.heap.IsSliceOf sl vl vu .none)(pl:IsPart vl lo)(pu:IsPart vu hi)
  (h:Q (((sIx n 0 lo:Nat):Int),1,sIx n n hi-sIx n 0 lo) s):wpAny (model prog w) A (Builtin.Slice.sliceApplied (.ref sl) (pure (n:Int))) Q E s:=by
 obtain⟨os,hos,hcs,hds⟩:=id hs;unfold Builtin.Slice.sliceApplied Builtin.Slice.sliceFields;refine wpAny_bind (wpAny_bind (wpAny_field hos hds (x:=vl) rfl (wpAny_bind (wpAny_field hos hds (x:=vu) rfl (wpAny_bind (wpAny_field hos hds (x:=.none) rfl (wpAny_pure ?_)))))));refine wpAny_bind (slicePart_none ?_);show wpAny _ _ (if ((1:Int) == 0)=true then _ else _) _ _ s;rw[if_neg (by decide)];refine wpAny_bind (ZBt pl (wpAny_bind (ZBt pu (wpAny_bind (wpAny_pure ?_)))));show wpAny _ _ (match Builtin.Slice.sliceAdjust lo hi 1 (n:Int) with|(lo,hi)=>pure (lo,(1:Int),Builtin.Slice.slicePlaces lo hi 1)) _ _ s;rw[ZDx lo hi n];show wpAny _ _ (pure (((sIx n 0 lo:Nat):Int),(1:Int),Builtin.Slice.slicePlaces ((sIx n 0 lo:Nat):Int) ((sIx n n hi:Nat):Int) 1)) _ _ s;rw[ZDw];exact wpAny_pure h
theorem ZFB(xs:Array Value)(i k:Nat):((List.range k).filterMap λ(m:Nat)=>xs[((i:Int)+(m:Int)*1).toNat]?).toArray=((xs.toList.drop i).take k).toArray:=by
 have e:(λ(m:Nat)=>xs[((i:Int)+(m:Int)*1).toNat]?) = λm=>xs[i+m]?:=by
  funext m
  have:((i:Int)+(m:Int)*1).toNat=i+m:=by omega
  rw[this]
 rw[e];have:=pick_run xs i k;rw[List.filterMap_map] at this
 have e2:((λx=>xs[x]?) ∘ λx=>i+x) = λm=>xs[i+m]?:=rfl
 rw[e2] at this
 rw[this]
theorem getItem_tuple_cut{t sl:Addr}{items:Array Value}{vl vu:Value}{lo hi:Option Int}{Q:Value->Shared->Prop}(ht:IsTup s.heap t items)(hs:s.heap.IsSliceOf sl vl vu .none)(pl:IsPart vl lo)(pu:IsPart vu hi)
  (hw : ¬(sIx items.size 0 lo=0/\sIx items.size items.size hi=items.size))
  (h:Q (.ref s.heap.objs.size) { s with heap:=s.heap.push { cls:=.type "tuple",data:=.seq ((items.toList.drop (sIx items.size 0 lo)).take (sIx items.size items.size hi-sIx items.size 0 lo)).toArray } })
  (hsz:items.size<=sizeLine):wpAny (model prog w) A (getItem (.ref t) (.ref sl)) Q E s:=by
 have htake:sizeOk (.seq ((items.toList.drop (sIx items.size 0 lo)).take (sIx items.size items.size hi-sIx items.size 0 lo)).toArray):=by
  show((items.toList.drop (sIx items.size 0 lo)).take (sIx items.size items.size hi-sIx items.size 0 lo)).toArray.size<=sizeLine;rw[size_toArray,length_take,length_drop,Array.length_toList];omega
 have hj:sIx items.size items.size hi<=items.size:=ZIQ _ _ (le_refl _) hi;obtain⟨os,hos,hcs,hds⟩:=id hs;have hTs:s.TypeIs (.ref sl) "slice":=⟨os,hos,hcs⟩;unfold getItem
 try with_reducible refine wpAny_holding ?_
 first|refine wpAny_bind (wpAny_pure ?_)|skip
 refine wpAny_bind (wpAny_sequenceKey ht.typeIs (by decide) ?_);refine wpAny_bind (wpAny_callSpecial?_slot (name:=Str.ofString "__getitem__") ht.typeIs PyProof.Rows.slot_tuple_getitem
  (wpAny_call_entry PyProof.Rows.slot_tuple_getitem ht.typeIs entry_tuple_getitem ?_ (args_tuple_getitem _ _)))
 show wpAny _ _ (Builtin.Tuple.tupleItemsOf (.ref t) >>= _) _ _ s;refine wpAny_bind (tupleItemsOf_ ht ?_);refine wpAny_bind (wpAny_typeOf hTs ?_);rw[if_pos (by decide)];refine wpAny_bind (ZAU hs pl pu ?_);have hno : ¬((((sIx items.size 0 lo:Nat):Int) == 0 && (1:Int) == 1 && (sIx items.size items.size hi-sIx items.size 0 lo) == items.size)=true):=by
  intro q;rw[Bool.and_eq_true,Bool.and_eq_true] at q;have q1:((sIx items.size 0 lo:Nat):Int)=0:=eq_of_beq q.1.1;have q2:sIx items.size items.size hi-sIx items.size 0 lo=items.size:=eq_of_beq q.2;exact hw ⟨by omega,by omega⟩
 show wpAny _ _ (if (((sIx items.size 0 lo:Nat):Int) == 0 && (1:Int) == 1 && (sIx items.size items.size hi-sIx items.size 0 lo) == items.size)=true then _ else _) _ _ s;rw[if_neg hno,ZFB]
 first
  |exact wpAny_bind (m:=Builtin.Tuple.tupleExact _) (wpAny_newObj_type (wpAny_pure ⟨_,rfl,wpAny_pure h⟩) htake)
  |exact wpAny_bind (m:=Builtin.Tuple.tupleExact _) (wpAny_newObj_type (wpAny_bind (wpAny_pure (wpAny_pure ⟨_,rfl,wpAny_pure h⟩))) htake)
  |exact wpAny_bind (wpAny_bind (m:=Builtin.Tuple.tupleExact _) (wpAny_newObj_type (wpAny_pure (wpAny_pure ⟨_,rfl,wpAny_pure h⟩)) htake))
  |exact wpAny_bind (wpAny_bind (m:=Builtin.Tuple.tupleExact _) (wpAny_newObj_type (wpAny_pure ⟨_,rfl,wpAny_pure h⟩) htake))
end
end HT
namespace L2
open PySem PySem.Spec PyProof.Rows
abbrev TO:=St->Hp->(Option Int->Hp->Prop)->Prop
def PO(X:Cx)(e:Option Expr)(t:TO):Prop :=
 ∀(pins:List (Addr×Obj)) (s:Shared) (σ : St) (H:Hp) (Q:Option Int->Hp->Prop),Inv X pins σ H s->t σ H Q ->
  wpAny (model X.prog X.w) X.A (evalPart e X.env) (λu s'=>∃o H',Inv X pins σ H' s'/\IsPart u o/\Q o H') X.xe s
def ZHz:TO:=λ_ H Q=>Q none H
def tPart(t:TE):TO:=λσ H Q=>t σ H λx H1=>∃i,x=.int i/\Q (some i) H1
theorem Zu{ns:List Int}:∀{us:List Value},ZI (ns.map V.int) us->IntsAre us ns:=by
 induction ns with
 |nil=>intro us r;rw[map_nil] at r;cases r;exact .nil
 |cons n ns ih =>
  intro us r;rw[map_cons] at r;cases r with
  |cons r1 r2 =>
   obtain⟨t,e⟩:=r1;subst e;exact .cons n t (ih r2)
section
variable{X:Cx}{e:Expr}{te:TE}{lo hi:Option Expr}{tl th:TO}{pos p2:Pos}
theorem ZGa:PO X none ZHz:=by
 intro pins s σ H Q I h;rw[evalPart_none];exact wpAny_pure ⟨none,H,I,.none,h⟩
theorem ZG3(h:PE X e te):PO X (some e) (tPart te):=by
 intro pins s σ H Q I hw;rw[evalPart_some];refine thn (h pins s σ H _ I hw) λu s1 ⟨x,H1,I1,r1,q1⟩=>?_
 obtain⟨i,rfl,q⟩:=q1;obtain⟨t,rfl⟩:=r1;exact⟨some i,H1,I1,.int i t,q⟩
def SlR(X:Cx)(r:V->Option Int->Option Int->Hp->VK->Prop):Prop :=
 ∀(pins:List (Addr×Obj)) (s:Shared) (σ : St) (H:Hp) (x:V) (v vl vu:Value) (lo hi:Option Int) (sl:Addr) (Q:VK),Inv X pins σ H s->ZW x v->s.heap.IsSliceOf sl vl vu .none->IsPart vl lo->IsPart vu hi->r x lo hi H Q ->
  ∃T id,typeLookup (.type T) "__getitem__" = pure (some (.builtin id))/\s.TypeIs v T/\wpAny (model X.prog X.w) X.A (getItem v (.ref sl)) (EP X pins σ Q) X.xe s
def tSl(r:V->Option Int->Option Int->Hp->VK->Prop)(te:TE)(tl th:TO):TE:=λσ H Q=>te σ H λx H1=>tl σ H1 λl H2=>th σ H2 λu H3=>r x l u H3 Q
theorem ZE9{r:V->Option Int->Option Int->Hp->VK->Prop}(hr:SlR X r)(he:PE X e te)(hl:PO X lo tl)(hu:PO X hi th):PE X (.Subscript e (.Slice lo hi none p2) pos) (tSl r te tl th):=by
 intro pins s σ H Q I h;refine Subscript_ (thn (he pins s σ H _ I h) λv s1 ⟨x,H1,I1,r1,q1⟩=>?_);refine wpAny_Slice (thn (hl pins s1 σ H1 _ I1 q1) λvl s2 ⟨l,H2,I2,pl,q2⟩=>thn (hu pins s2 σ H2 _ I2 q2) λvu s3 ⟨u,H3,I3,pu,q3⟩=>?_);rw[evalPart_none];refine wpAny_pure ?_;have I4:Inv X pins σ H3 { s3 with heap:=s3.heap.push { cls:=.type "slice",data:=.fields #[vl,vu,.none] } }:=I3.kept (t':=s3.toks) λb ob q=>get?_push_of_some _ q
 obtain⟨T,id,hT,ht,hg⟩:=hr pins { s3 with heap:=s3.heap.push { cls:=.type "slice",data:=.fields #[vl,vu,.none] } } σ H3 x v vl vu l u s3.heap.objs.size Q I4 r1 (Heap.IsSliceOf.new ..) pl pu q3;show wpAny (model X.prog X.w) X.A (subscriptTail e (.Slice lo hi none p2) v (.ref s3.heap.objs.size)) (EP X pins σ Q) X.xe { s3 with heap:=s3.heap.push { cls:=.type "slice",data:=.fields #[vl,vu,.none] } };exact tail_any (ops:=[.ref s3.heap.objs.size,v]) ht hT hg (by with_unfolding_all rfl)
def ZC0(xs:List V)(lo hi:Option Int):List V:=(xs.drop (HT.sIx xs.length 0 lo)).take (HT.sIx xs.length xs.length hi-HT.sIx xs.length 0 lo)
theorem ZBU(xs:List V)(lo hi:Option Int):(ZC0 xs lo hi).length<=xs.length:=by
 unfold ZC0;rw[length_take,length_drop];omega
def rSlT(K:PySem.W.Frag):V->Option Int->Option Int->Hp->VK->Prop:=λx lo hi H Q=>∃a xs,x=.ref a/\SqT K H a xs /\
 ¬(HT.sIx xs.length 0 lo=0/\HT.sIx xs.length xs.length hi=xs.length)/\∀p,H p=none->Q (.ref p) (upd H p (.tup (ZC0 xs lo hi)))
theorem ZIk:SlR X (rSlT X.K):=by
 intro pins s σ H x v vl vu lo hi sl Q I rx hs pl pu h;obtain⟨a,xs,rfl,hx,hw,q⟩:=h;cases rx;obtain⟨its,r,ht,hz⟩:=I.tuple hx;have hlen:its.toArray.size=xs.length:=by rw[size_toArray];exact r.length.symm
 refine⟨"tuple",_,PyProof.Rows.slot_tuple_getitem.lookup,ht.typeIs,?_⟩;refine HT.getItem_tuple_cut ht hs pl pu (by rw[hlen];exact hw) ?_ (by rw[hlen];exact hz);rw[hlen];refine⟨.ref s.heap.objs.size,_,I.laid (t':=s.toks) (o:=.tup (ZC0 xs lo hi)) (λb ob q=>get?_push_of_some _ q) (le_refl _) ?_,rfl,q _ (I.hok.fresh (le_refl _))⟩;exact⟨le_trans (ZBU xs lo hi) hz,_,(r.drop (HT.sIx xs.length 0 lo)).take (HT.sIx xs.length xs.length hi-HT.sIx xs.length 0 lo),IsTup.new _ _⟩
def rLtT(K:PySem.W.Frag):R2:=λx y H Q=>∃a b ns ms,x=.ref a/\y=.ref b/\SqT K H a (ns.map V.int)/\SqT K H b (ms.map V.int)/\Q (.bl (HT.lexLt ns ms)) H
theorem ZJv(hu:X.A.units<cLine):OpR X (compareOp .Lt) (rLtT X.K):=by
 intro pins s σ H x y v u Q I rx ry h;obtain⟨a,b,ns,ms,rfl,rfl,ha,hb,q⟩:=h;cases rx;cases ry;obtain⟨its,r1,p1,_⟩:=I.tuple ha;obtain⟨its2,r2,p2,_⟩:=I.tuple hb;have i1:IntsAre its.toArray.toList ns:=Zu r1;have i2:IntsAre its2.toArray.toList ms:=Zu r2;exact HT.lt_tupInts p1 p2 i1 i2 hu ⟨.bl (HT.lexLt ns ms),H,I,rfl,q⟩
theorem ZI.nil_iff{xs:List V}{us:List Value}(r:ZI xs us):us=[] ↔ xs=[]:=by
 cases r with
 |nil=>simp
 |cons _ _=>simp
end
def ixN(n:Nat)(i:Int):Option Nat:=if 0<=i then (if i<n then some i.toNat else none) else if -(n:Int)<=i then some (i+n).toNat else none
def atI{α : Type}(xs:List α)(i:Int):Option α:=(ixN xs.length i).bind λj=>xs[j]?
theorem ZD7{n:Nat}{i:Int}{j:Nat}(h:ixN n i=some j):seqIndex? i n=some j/\j<n/\-(n:Int)<=i/\i<n:=by
 unfold ixN at h
 by_cases h0 : 0<=i
 ·rw[if_pos h0] at h
  by_cases h1:i<n
  ·rw[if_pos h1] at h
   have e:i.toNat=j:=Option.some.inj h;exact⟨by rw[seqIndex_of h0 h1,e],by omega,by omega,h1⟩
  ·rw[if_neg h1] at h;cases h
 ·rw[if_neg h0] at h
  by_cases h1 : -(n:Int)<=i
  ·rw[if_pos h1] at h
   have e:(i+n).toNat=j:=Option.some.inj h;exact⟨by rw[seqIndex_neg (by omega) h1,e],by omega,h1,by omega⟩
  ·rw[if_neg h1] at h;cases h
theorem ZEK{α : Type}{xs:List α}{i:Int}{v : α}(h:atI xs i=some v):∃j,seqIndex? i xs.length=some j/\xs[j]? = some v/\j<xs.length/\-(xs.length:Int)<=i/\i<xs.length:=by
 unfold atI at h;cases e:ixN xs.length i with
 |none=>rw[e] at h;cases h
 |some j =>
  rw[e] at h;obtain⟨h1,h2,h3,h4⟩:=ZD7 e;exact⟨j,h1,h,h2,h3,h4⟩
theorem ZED{α : Type}{xs:List α}{j:Nat}{v : α}(h:xs[j]? = some v):atI xs (j:Int)=some v:=by
 have hj:j<xs.length:=(List.getElem?_eq_some_iff.mp h).1;have e:ixN xs.length (j:Int)=some j:=by
  unfold ixN;rw[if_pos (by omega),if_pos (by omega)];simp
 unfold atI;rw[e];exact h
def ZC5(b:Expr):Prop:=∀o i,subscripted b false o i=operate [o,i] (getItem o i)
def IxR(X:Cx)(r:R2):Prop :=
 ∀(value slice:Expr) (pins:List (Addr×Obj)) (s:Shared) (σ : St) (H:Hp) (x y:V) (v u:Value) (Q:VK),Inv X pins σ H s->ZW x v->ZW y u->r x y H Q ->
  subscripted slice false v u=operate [v,u] (getItem v u)->wpAny (model X.prog X.w) X.A (subscriptTail value slice v u) (EP X pins σ Q) X.xe s
section
variable{X:Cx}{a b:Expr}{ta tb:TE}{pos:Pos}
theorem pe_ix{r:R2}(hr:IxR X r)(ha:PE X a ta)(hb:PE X b tb)(hs:ZC5 b):PE X (.Subscript a b pos) (tOp r ta tb):=by
 intro pins s σ H Q I h;exact Subscript_ (ZJP ha hb I h λv u s2 x y H2 I2 rx ry q=>hr a b pins s2 σ H2 x y v u Q I2 rx ry q (hs _ _))
def rIxL(K:PySem.W.Frag):R2:=λx y H Q=>∃p xs i v,x=.ref p/\y=.int i/\SqL K H p xs/\atI xs i=some v/\Q v H
def rIxT(K:PySem.W.Frag):R2:=λx y H Q=>∃p xs i v,x=.ref p/\y=.int i/\SqT K H p xs/\atI xs i=some v/\Q v H
theorem ZBg:IxR X (rIxL X.K):=by
 intro value slice pins s σ H x y v u Q I rx ry h hs;obtain⟨p,xs,i,z,rfl,rfl,hq,he,q⟩:=h;cases rx;obtain⟨t,rfl⟩:=ry;obtain⟨its,r,pl,hz⟩:=I.list hq;obtain⟨j,h1,h2,h3,h4,h5⟩:=ZEK he;obtain⟨w,ew,rw'⟩:=r.get h2;have hl:=r.length;have hn:=ZC3;have fin:EP X pins σ Q w s:=⟨z,H,I,rw',q⟩
 by_cases h0 : 0<=i
 ·have hj:i.toNat=j:=by
   rw[seqIndex_of h0 h5] at h1;exact Option.some.inj h1
  exact item_listR pl.isList h0 (by omega) (by rw[hj];simpa using ew) fin hs
 ·have hj:(i+(its.toArray.size:Int)).toNat=j:=by
   rw[seqIndex_neg (by omega) h4] at h1;rw[size_toArray,←hl];exact Option.some.inj h1
  exact subscriptTail_builtinR (x:=w) pl.isList.typeIs slot_list_getitem.lookup
   (wpAny_getItem_list_neg (Q:=λr s'=>r=w/\EP X pins σ Q r s') pl.isList (by omega) (by rw[size_toArray] <;> omega) (by omega) (by rw[hj];simpa using ew) ⟨rfl,fin⟩) hs
theorem ZFP:IxR X (rIxT X.K):=by
 intro value slice pins s σ H x y v u Q I rx ry h hs;obtain⟨p,xs,i,z,rfl,rfl,hq,he,q⟩:=h;cases rx;obtain⟨t,rfl⟩:=ry;obtain⟨its,r,pl,hz⟩:=I.tuple hq;obtain⟨j,h1,h2,h3,h4,h5⟩:=ZEK he;obtain⟨w,ew,rw'⟩:=r.get h2;have hl:=r.length;have hn:=ZC3;have fin:EP X pins σ Q w s:=⟨z,H,I,rw',q⟩;exact subscriptTail_builtinR (x:=w) pl.typeIs slot_tuple_getitem.lookup
  (getItem_tuple (j:=j) (Q:=λr s'=>r=w/\EP X pins σ Q r s') pl (by omega) (by omega) (by rw[size_toArray,←hl];exact h1) (by simpa using ew) ⟨rfl,fin⟩) hs
theorem ZDm(its:List Value)(n j:Nat)(u:Value):Obj.mapSeq (·.setIfInBounds j u) { cls:=.type "list",data:=.seq its.toArray n }={ cls:=.type "list",data:=.seq (its.set j u).toArray n }:=by
 simp[Obj.mapSeq]
theorem Inv.lst{pins:List (Addr×Obj)}{σ : St}{H:Hp}{s:Shared}{p:Addr}{xs:List V}(I:Inv X pins σ H s)(h:H p=some (.lst xs)) :
  ∃(its:List Value) (n:Nat),ZI xs its/\s.heap.get? p=some { cls:=.type "list",data:=.seq its.toArray n }/\xs.length<=sizeLine:=by
 obtain⟨z,its,n,r,e⟩:=I.hok p _ h;exact⟨its,n,r,e,z⟩
theorem Inv.lstUpd{pins:List (Addr×Obj)}{σ : St}{H:Hp}{s:Shared}{p:Addr}{xs ys:List V}{its its':List Value}{n n':Nat}{f:Obj->Obj}(I:Inv X pins σ H s)(h:H p=some (.lst xs))
  (ho:s.heap.get? p=some { cls:=.type "list",data:=.seq its.toArray n })(hf:f { cls:=.type "list",data:=.seq its.toArray n }={ cls:=.type "list",data:=.seq its'.toArray n' })(r:ZI ys its')(hz:ys.length<=sizeLine)(t:Nat) :
  Inv X pins σ (upd H p (.lst ys)) { s with heap:=s.heap.update p f,toks:=t }:=by
 have e:(s.heap.update p f).get? p=some { cls:=.type "list",data:=.seq its'.toArray n' }:=by
  rw[get?_update_self f ho (by rw[hf] <;> rfl),hf]
 refine I.write (x:=p) (e:=p) (by rw[h];trivial) (.inl rfl) (λb u hb q=>(Heap.get?_update_other _ _ (Ne.symm hb)).trans q) ⟨_,e⟩ ?_;exact⟨hz,its',n',r,e⟩
def rSetL:V->V->V->Hp->(Hp->Prop)->Prop:=λo i v H Q=>∃p xs k j,o=.ref p/\i=.int k/\H p=some (.lst xs)/\ixN xs.length k=some j/\Q (upd H p (.lst (xs.set j v)))
theorem ZGQ:ZJ9 X rSetL:=by
 intro pins s σ H o i v ov iv u Q I ro ri rv h;obtain⟨p,xs,k,j,rfl,rfl,hp,hj,q⟩:=h;cases ro;obtain⟨t,rfl⟩:=ri;obtain⟨its,n,r,ho,hz⟩:=I.lst hp;obtain⟨h1,h2,h3,h4⟩:=ZD7 hj;have hl:=r.length;have hn:=ZC3;have I':Inv X pins σ (upd H p (.lst (xs.set j v))) { s with heap:=s.heap.update p (Obj.mapSeq (·.setIfInBounds j u)) } :=
  I.lstUpd hp ho (ZDm its n j u) (r.set rv j) (by rw[length_set];exact hz) s.toks
 by_cases h0 : 0<=k
 ·have hk:k.toNat=j:=by
   rw[seqIndex_of h0 h4] at h1;exact Option.some.inj h1
  exact PySem.W.ki_setAt ho h0 (by omega) (by rw[size_toArray,←hl];exact h4) (by rw[hk];exact⟨_,I',q⟩)
 ·have hk:(k+(its.toArray.size:Int)).toNat=j:=by
   rw[seqIndex_neg (by omega) h3] at h1;rw[size_toArray,←hl];exact Option.some.inj h1
  exact PySem.W.ki_setBack ho (by omega) (by rw[size_toArray,←hl];exact h3) (by omega) (by rw[hk];exact⟨_,I',q⟩)
theorem ZDD(lo hi:Option Int)(n:Nat):(sliceBounds lo hi none n).1=((HT.sIx n 0 lo:Nat):Int)/\(sliceBounds lo hi none n).2.1=((HT.sIx n n hi:Nat):Int)/\(sliceBounds lo hi none n).2.2=1:=by
 refine⟨?_,?_,rfl⟩
 ·cases lo with
  |none=>simp[sliceBounds,HT.sIx]
  |some i =>
   simp only[sliceBounds,HT.sIx,Option.getD_none,show(1:Int) > 0 by decide,if_true]
   by_cases h:i<0
   ·simp only[h,if_true] <;> omega
   ·simp only[h,if_false] <;> omega
 ·cases hi with
  |none=>simp[sliceBounds,HT.sIx]
  |some i =>
   simp only[sliceBounds,HT.sIx,Option.getD_none,show(1:Int) > 0 by decide,if_true]
   by_cases h:i<0
   ·simp only[h,if_true] <;> omega
   ·simp only[h,if_false] <;> omega
theorem ZCR(its:List Value)(lo hi:Option Int):slicePick its.toArray lo hi none=((its.drop (HT.sIx its.length 0 lo)).take (HT.sIx its.length its.length hi-HT.sIx its.length 0 lo)).toArray:=by
 obtain⟨h1,h2,h3⟩:=ZDD lo hi its.toArray.size;unfold slicePick;rw[h1,h2,h3];simp only[sliceRange_one,pick_run,size_toArray] <;> rfl
def rSlL(K:PySem.W.Frag):V->Option Int->Option Int->Hp->VK->Prop:=λx lo hi H Q=>∃a xs,x=.ref a/\SqL K H a xs/\∀p,H p=none->Q (.ref p) (upd H p (.lst (ZC0 xs lo hi)))
theorem ZEN:SlR X (rSlL X.K):=by
 intro pins s σ H x v vl vu lo hi sl Q I rx hs pl pu h;obtain⟨a,xs,rfl,hx,q⟩:=h;cases rx;obtain⟨its,r,ht,hz⟩:=I.list hx;have hlen:=r.length;refine⟨"list",_,slot_list_getitem.lookup,ht.isList.typeIs,?_⟩;refine wpAny_getItem_list_slice ht.isList hs pl pu .none (by simp) ?_ (by rw[size_toArray] <;> omega);rw[ZCR,←hlen];refine⟨.ref s.heap.objs.size,_,I.laid (t':=s.toks) (o:=.lst (ZC0 xs lo hi)) (λb ob q=>get?_push_of_some _ q) (le_refl _) ?_,rfl,q _ (I.hok.fresh (le_refl _))⟩;exact⟨le_trans (ZBU xs lo hi) hz,_,0,(r.drop (HT.sIx xs.length 0 lo)).take (HT.sIx xs.length xs.length hi-HT.sIx xs.length 0 lo),get?_push_size _ rfl⟩
theorem ZC2:ZQ X (.builtin "len") (λxs H Q=>∃p ys,xs=[.ref p]/\(SqL X.K H p ys∨SqT X.K H p ys)/\Q (.int ys.length) H):=by
 intro pins s σ H xs us Q I r h;obtain⟨p,ys,rfl,hq,q⟩:=h;obtain⟨u,rfl,rx⟩:=ZBn r;cases rx;have hn:=ZC3;rcases hq with hq|hq
 ·obtain⟨its,r',pl,hz⟩:=I.list hq
  have hlen:=r'.length;exact Calls.call_len_list pl.isList (by simp only[size_toArray] <;> omega) ⟨.int ys.length,H,I.tok _,⟨s.toks+1,by rw[size_toArray,hlen]⟩,q⟩
 ·obtain⟨its,r',pl,hz⟩:=I.tuple hq
  have hlen:=r'.length;exact len_tuple pl (by simp only[size_toArray] <;> omega) ⟨.int ys.length,H,I.tok _,⟨s.toks+1,by rw[size_toArray,hlen]⟩,q⟩
theorem ZCv:ZQ X (.type "list") (λxs H Q=>∃p ys,xs=[.ref p]/\(SqL X.K H p ys∨SqT X.K H p ys)/\∀l,H l=none->Q (.ref l) (upd H l (.lst ys))):=by
 intro pins s σ H xs us Q I r h;obtain⟨p,ys,rfl,hq,q⟩:=h;obtain⟨u,rfl,rx⟩:=ZBn r;cases rx;have fin:∀(its:List Value),ZI ys its->ys.length<=sizeLine->∀(h':Heap) (c':Nat),(∀b o',s.heap.get? b=some o'->h'.get? b=some o') ->
   h'.get? s.heap.objs.size=some { cls:=.type "list",dict:=none,data:=.seq its.toArray c',slots:=#[] }->EP X pins σ Q (.ref s.heap.objs.size) { s with heap:=h' }:=λits r' hz h' c' kp e =>
  ⟨.ref s.heap.objs.size,_,I.laid (t':=s.toks) kp (le_refl _) (show Z0 X.prog X.w _ h' _ (.lst ys) from ⟨hz,its,c',r',e⟩),rfl,q _ (I.hok.fresh (le_refl _))⟩
 rcases hq with hq|hq
 ·obtain⟨its,r',pl,hz⟩:=I.list hq
  have hlen:=r'.length;obtain⟨o,ho,hc,n,hd⟩:=pl.isList;exact call_list_seq p (.inl rfl) ho hc hd (λh' c' kp e=>fin its r' hz h' c' kp e) (by simp only[size_toArray] <;> omega)
 ·obtain⟨its,r',pl,hz⟩:=I.tuple hq
  have hlen:=r'.length;obtain⟨o,ho,hc,n,hd⟩:=pl;exact call_list_seq p (.inr rfl) ho hc hd (λh' c' kp e=>fin its r' hz h' c' kp e) (by simp only[size_toArray] <;> omega)
theorem ZCU:ZQ X (.type "tuple") (λxs H Q=>∃p ys,xs=[.ref p]/\((SqL X.K H p ys/\∀l,H l=none->Q (.ref l) (upd H l (.tup ys)))∨(SqT X.K H p ys/\Q (.ref p) H))):=by
 intro pins s σ H xs us Q I r h;obtain⟨p,ys,rfl,h⟩:=h;obtain⟨u,rfl,rx⟩:=ZBn r;cases rx;rcases h with ⟨hq,q⟩|⟨hq,q⟩
 ·obtain⟨its,r',pl,hz⟩:=I.list hq
  have hlen:=r'.length;refine call_tuple_list pl.isList (λh' kp=>?_) (by simp only[size_toArray] <;> omega);have I1:Inv X pins σ H { s with heap:=h' }:=I.kept (t':=s.toks) kp;have I2:Inv X pins σ (upd H h'.objs.size (.tup ys)) { s with heap:=h'.push { cls:=.type "tuple",data:=.seq its.toArray } } :=
   I1.laid (t':=s.toks) (λb o e=>get?_push_of_some _ e) (le_refl _) (show Z0 X.prog X.w _ _ _ (.tup ys) from ⟨hz,its,r',IsTup.new _ _⟩)
  exact⟨.ref h'.objs.size,_,I2,rfl,q _ (I1.hok.fresh (le_refl _))⟩
 ·obtain⟨its,r',pl,hz⟩:=I.tuple hq
  exact call_tuple_same pl ⟨.ref p,H,I,rfl,q⟩
variable{o e:Expr}{es:List Expr}{to:TE}{t:TA}{name:Str}{apos cpos:Pos}{T id:String}{r:V->List V->Hp->VK->Prop}
end
def MtM(X:Cx)(id:String)(r:V->List V->Hp->VK->Prop):Prop :=
 ∀(pins:List (Addr×Obj)) (s:Shared) (σ : St) (H:Hp) (x:V) (xs:List V) (v:Value) (us:List Value) (Q:VK),Inv X pins σ H s->ZW x v->ZI xs us->r x xs H Q ->
  wpAny (model X.prog X.w) X.A (call (.builtin id) (v::us)) (EP X pins σ Q) X.xe s
theorem ZI.one:∀{x:V} {us:List Value},ZI [x] us->∃u,us=[u]/\ZW x u
 |_,_,.cons r .nil=>⟨_,rfl,r⟩
theorem ZI.reverse{xs:List V}{us:List Value}(h:ZI xs us):ZI xs.reverse us.reverse:=by
 induction h with
 |nil=>exact .nil
 |cons r t ih=>rw[reverse_cons,reverse_cons];exact ZI.append ih (.cons r .nil)
theorem ZI.rep{xs:List V}{us:List Value}(h:ZI xs us):∀k:Nat,ZI (List.replicate k xs).flatten (List.replicate k us).flatten
 |0=>.nil
 |k+1=>by
  rw[replicate_succ,replicate_succ,flatten_cons,flatten_cons];exact ZI.append h (ZI.rep h k)
theorem ZBQ(its:List Value):∀(k:Nat) (acc:List Value),
  List.foldl (λx1 x2=>x1++x2) acc.toArray (List.replicate k its.toArray)=(acc++(List.replicate k its).flatten).toArray
 |0,acc=>by simp
 |k+1,acc=>by
  have e:acc.toArray++its.toArray=(acc++its).toArray:=by simp
  have e2:(acc++its)++(List.replicate k its).flatten=acc++(List.replicate (k+1) its).flatten:=by
   rw[replicate_succ,flatten_cons,append_assoc]
  rw[←e2,←ZBQ its k (acc++its),←e,replicate_succ,List.foldl_cons]
section
variable{X:Cx}{pins:List (Addr×Obj)}{σ : St}{H:Hp}{s:Shared}{l b:Addr}{xs ys zs:List V}
theorem Inv.lset{its its':List Value}{n:Nat}{f:Array Value->Array Value}{t':Nat}(I:Inv X pins σ H s)(hH:H l=some (.lst xs))
  (e:s.heap.get? l=some { cls:=.type "list",data:=.seq its.toArray n })(hf:f its.toArray=its'.toArray)(hv:ZI ys its')(hz:ys.length<=sizeLine) :
  Inv X pins σ (upd H l (.lst ys)) { s with heap:=s.heap.update l (Obj.mapSeq f),toks:=t' }:=by
 have q:=PySem.IsL.update e f;rw[hf] at q;refine I.write (x:=l) (e:=l) (by rw[hH];exact trivial) (.inl rfl) (λb' u hb hu=>(Heap.get?_update_other s.heap (Obj.mapSeq f) (Ne.symm hb)).trans hu) ⟨_,q⟩ ?_;exact⟨hz,its',_,hv,q⟩
theorem Inv.lnew{its:List Value}{t':Nat}(I:Inv X pins σ H s)(hv:ZI ys its)(hz:ys.length<=sizeLine) :
  Inv X pins σ (upd H s.heap.objs.size (.lst ys)) { s with heap:=s.heap.push { cls:=.type "list",data:=.seq its.toArray },toks:=t' } :=
 I.laid (λ_ _ q=>get?_push_of_some _ q) (le_refl _) ⟨hz,its,0,hv,get?_push_size _ rfl⟩
theorem Inv.fresh(I:Inv X pins σ H s):H s.heap.objs.size=none:=I.hok.fresh (le_refl _)
theorem Inv.lstM(I:Inv X pins σ H s)(hH:H l=some (.lst xs)):xs.length<=sizeLine/\∃(its:List Value) (n:Nat),ZI xs its/\xs.length=its.length/\s.heap.get? l=some { cls:=.type "list",data:=.seq its.toArray n }:=by
 obtain⟨z,its,n,r,e⟩:=I.hok l _ hH;exact⟨z,its,n,r,r.length,e⟩
theorem ZF4{n:Nat}(h:n<=sizeLine):Builtin.List.listTooLong n=false:=by
 unfold Builtin.List.listTooLong;exact decide_eq_false (by omega)
end
section
variable{X:Cx}
def ZGh:V->List V->Hp->VK->Prop:=λx vs H Q=>∃l xs y,x=.ref l/\vs=[y]/\H l=some (.lst xs)/\xs.length<sizeLine/\Q .non (upd H l (.lst (xs++[y])))
theorem ZEi:MtM X "list.append" ZGh:=by
 intro pins s σ H x vs v us Q I rx rv h;obtain⟨l,xs,y,rfl,rfl,hH,hz,q⟩:=h;cases rx;obtain⟨u,rfl,ru⟩:=rv.one;obtain⟨z,its,n,r,hl,e⟩:=I.lstM hH;refine call_meets F.slot_list_append ⟨_,e,rfl⟩ F.entry_list_append (F.args_list_append_2 _ _) (PySem.list_append l its.toArray n u (by rw[size_toArray];omega)) ⟨e,?_⟩;refine⟨.non,_,I.lset (its':=its++[u]) hH e (by simp) (r.append (.cons ru .nil)) ?_,rfl,q⟩;rw[length_append,List.length_singleton];omega
def rCat:R2:=λx y H Q=>∃l b xs zs,x=.ref l/\y=.ref b/\H l=some (.lst xs)/\H b=some (.lst zs)/\xs.length+zs.length<=sizeLine/\∀p,H p=none->Q (.ref p) (upd H p (.lst (xs++zs)))
theorem ZIU:OpR X (binaryOp .Add) rCat:=by
 intro pins s σ H x y v u Q I rx ry h;obtain⟨l,b,xs,zs,rfl,rfl,hH,hB,hz,q⟩:=h;cases rx;cases ry;obtain⟨z,its,n,r,hl,e⟩:=I.lstM hH;obtain⟨z2,its2,n2,r2,hl2,e2⟩:=I.lstM hB;refine PySem.P.add_list e e2 ?_ (by rw[size_toArray,size_toArray];omega);have ea:its.toArray++its2.toArray=(its++its2).toArray:=by simp
 rw[ea];exact⟨.ref _,_,I.lnew (t':=s.toks) (r.append r2) (by rw[length_append];omega),rfl,q _ I.fresh⟩
def rRep:R2:=λx y H Q=>∃l k xs,x=.ref l/\y=.int k/\H l=some (.lst xs)/\-(2 ^ 63)<=k/\k<2 ^ 63/\xs.length*k.toNat<=sizeLine /\
 ∀p,H p=none->Q (.ref p) (upd H p (.lst (List.replicate k.toNat xs).flatten))
theorem ZEH{α : Type}(xs:List α)(k:Nat):(List.replicate k xs).flatten.length=k*xs.length:=by
 induction k with
 |zero=>simp
 |succ k ih=>rw[replicate_succ,flatten_cons,length_append,ih,Nat.succ_mul,Nat.add_comm]
theorem ZI6:OpR X (binaryOp .Mult) rRep:=by
 intro pins s σ H x y v u Q I rx ry h;obtain⟨l,k,xs,rfl,rfl,hH,h1,h2,hz,q⟩:=h;cases rx;obtain⟨t,rfl⟩:=ry;obtain⟨z,its,n,r,hl,e⟩:=I.lstM hH;have hlen:its.toArray.size*k.toNat<=sizeLine:=by rw[size_toArray,←hl];exact hz
 have hcap : ¬its.toArray.size*k.toNat > (2 ^ 63-1) / 8:=by
  have:(sizeLine:Nat)<=(2 ^ 63-1) / 8:=by decide
  omega
 have hfit : ¬(!Builtin.List.listFitsIndex k)=true:=by
  rw[fitsIndex_both h1 h2];exact Bool.false_ne_true
 have hlong : ¬Builtin.List.listTooLong (its.toArray.size*k.toNat)=true:=by
  rw[ZF4 hlen];exact Bool.false_ne_true
 have hnew:List.foldl (λx1 x2=>x1++x2) #[] (List.replicate (if its.toArray.isEmpty=true then 0 else k.toNat) its.toArray)=(List.replicate k.toNat its).flatten.toArray:=by
  have f0:∀m:Nat,List.foldl (λx1 x2=>x1++x2) #[] (List.replicate m its.toArray)=(List.replicate m its).flatten.toArray:=λm=>by
   have:=ZBQ its m [];rw[nil_append] at this
   exact this
  rw[f0];cases its with
  |nil=>simp
  |cons a r'=>rw[if_neg (by simp)]
 refine wpAny_binaryOp_repeat_ref (T:="list") (U:="int") (by decide) ⟨_,e,rfl⟩ (λs'=>typeIs_int s' k t) noFill_list_mul F.fills_int_mul F.slot_int_rmul repeat_list F.slot_int_index.lookup
  (call_meets F.slot_int_rmul (typeIs_int s k t) F.entry_int_rmul (F.args_int_rmul_2 _ _) (int___rmul___int_list k t l its.toArray n)
   ⟨e,rfl,⟨_,e,rfl⟩,call_meets F.slot_list_mul ⟨_,e,rfl⟩ F.entry_list_mul (F.args_list_mul_2 _ _) (AutoListH.list___mul___list_int_3 l its.toArray n k t hfit hcap hlong) ⟨e,?_⟩⟩)
 rw[hnew];exact⟨.ref _,_,I.lnew (t':=s.toks) (r.rep k.toNat) (by rw[ZEH,Nat.mul_comm];exact hz),rfl,q _ I.fresh⟩
end
end L2
namespace Att
open PySem PySem.W PySem.Calls PyProof.Rows
theorem ZBc{P:Params}{h:Heap}:∀(ns:List Int) (vs:List Value),WellAll P h vs (ns.map WData.int)->IntsAre vs ns:=by
 intro ns
 induction ns with
 |nil =>
  intro vs w;rw[map_nil] at w;cases w;exact .nil
 |cons n ns ih =>
  intro vs w;rw[map_cons] at w;cases w with
  |cons a b =>
   cases a;exact .cons _ _ (ih _ b)
theorem ZET{l:OpenLaw}{n:Nat}(hn:l.most=some n){P:Params}{h:Heap}{args:List WData}{vals:List Value}
  (hpre:l.row.toRowW.claim.pre args=true)(hwl:WellAll P h vals args) :
  ∃a vs ns,vals=[Value.ref a]/\args=[WData.list (ns.map WData.int)]/\h.get? a=some { cls:=.type "list",data:=.seq vs.toArray }/\IntsAre vs ns/\ns.length<=n:=by
 have hsh:WShape.hasAll [] args [.list .int]=true:=(pre_splitW hpre).1;have hc:l.pre.holds [] { args:=args }=true:=(pre_splitW hpre).2;obtain⟨d,r,rfl,h1,h2⟩:=hasAllW_cons hsh;obtain rfl:=hasAllW_nil h2;obtain⟨xs,rfl,h3⟩:=hasW_list h1;obtain⟨ns,rfl⟩:=items_int h3;have hlen:ns.length<=n:=by
  unfold OpenLaw.pre at hc;have h4:(WTm.not (.lt (.lit (.int (n:Int))) (.len (.arg 0)))).holds [] { args:=[.list (ns.map .int)] }=true:=by
   have h4:=(holds_andW hc).1;rw[hn] at h4;exact h4
  have h5:=condW_of h4 (w_not (w_lt w_lit (w_len_list (w_arg rfl))));rw[length_map] at h5;refine Nat.le_of_not_lt λq=>?_
  have q':(n:Int)<((ns.length:Nat):Int):=by omega
  first
   |(rw[decide_eq_true q'] at h5;exact absurd h5 (by decide))
   |(simp at h5;omega)
 cases hwl with
 |cons w1 w2 =>
  cases w2;cases w1 with
  |list ho hall=>exact⟨_,_,ns,rfl,rfl,ho,ZBc ns _ hall,hlen⟩
theorem ZEx(l:OpenLaw)(args:List WData):l.row.toRowW.claim.post args (.bool true) args=true :=
 postW_of (r:=l.row.toRowW) (X:=(true == true))
  (show WShape.has [] (.bool true) .bool=true by first|rfl|decide|simp[WShape.has,WShape.arms,WShape.armsAll])
  (show(WTm.eq .res (.lit (.bool true))).value [] { args:=args,res:=some (.bool true),after:=args }=some (.bool (true == true)) from w_eq_bool (w_res rfl) w_lit) rfl
theorem attach_call{l:OpenLaw}{n:Nat}{q:Program}{loose:List Str}{XP:(Str->Option Value)->Heap->Prop}{YP:World->Heap->Prop}{d:DefRec}
  (hn:l.most=some n)(hdf:d.params.defaults=[])
  (call:∀ (w:World) (s₀ s₁ : Shared) (mg mb:Str->Option Value) (fa:Addr) (o:Obj) (pm cd doc:Value) (a:Addr) (vs:List Value) (ns:List Int),
   Ground q loose [] XP w s₀ mg mb s₁.heap->YP w s₁.heap ->
   s₁.heap.get? fa=some o->o.data=.func (docDef d.name d.params d.body d.scope pm cd doc)->s₁.heap.CodeRec cd d.name->mg d.name=some (.ref fa) ->
   s₁.heap.get? a=some { cls:=.type "list",data:=.seq vs.toArray }->IntsAre vs ns->ns.length<=n->s₁.gens = #[] ->
   codeAny (model l.prog w) callerA (.call (.ref fa) ⟨[.ref a],[]⟩) (λr s'=>r=.ok (.ret (.bool true))/\OldK s₁.heap s'.heap/\s'.os=s₁.os/\AllBare s'.gens) s₁) :
  WalkO q loose XP YP l.row.toRowW d [] (λf vs=>PySem.call f vs):=by
 intro w s₀ s₁ mg mb G Y fa o pm cd doc dV kV ho hd hcd hD hmg hg args vals as hpre hlay hrd hwl hlo;obtain rfl:dV=.none:=Dflts.none hD hdf;obtain rfl:kV=.none:=Dflts.noKw hD;obtain⟨a,vs,ns,rfl,rfl,hobj,hints,hlen⟩:=ZET hn hpre hwl;refine enter_call (codeAny_mono (call w s₀ s₁ mg mb fa o pm cd doc a vs ns G Y ho (fd_plain hd) hcd hmg hobj hints hlen hg) λr s' hq=>?_);obtain⟨rfl,h2,h3,h4⟩:=hq;exact⟨.inl ⟨.bool true,.bool true,[],rfl,λ_=>rfl,.bool true,ZEx l _,λ_=>⟨List.Pairwise.nil,λ_ hm=>(nomatch hm)⟩⟩,h2,h3,h4⟩
end Att
namespace L2
open PySem PySem.Spec PyProof.Rows
theorem ZCg:∀{vs:List Value} {ns:List Int},IntsAre vs ns->ZI (ns.map V.int) vs
 |_,_,.nil=>.nil
 |_,_,.cons n t h=>.cons ⟨t,rfl⟩ (ZCg h)
def ZJh(H:Hp):Prop:=∀b,H b=none∨∃o xs,H b=some (.frz o (.lst xs))
theorem ZFV{P:Program}{w:World}{K:PySem.W.Frag}{mg mb:Str->Option Value}{CX:CXT}{k:Nat}{fa a:Addr}{fd:FuncData}{x:Str}{sp:Sp}{s₁ : Shared}{vs:List Value}{ns:List Int}
  (KX:K.In s₁.heap)(hns:s₁.heap.Ns mainGlobals mg)(hb:s₁.heap.Ns builtinsNs mb)(hbb:∀x:Str,x≠"__name__"->mb x=bootBuiltins x)(hlim:s₁.heap.NoLimit)(hg:s₁.gens = #[])
  (ha:s₁.heap.get? a=some { cls:=.type "list",data:=.seq vs.toArray })(hi:IntsAre vs ns)(hl:ns.length<=sizeLine)(hr:Room k callerA)
  (F:∀base:Heap,K.In base->base.Ns mainGlobals mg->FnOk P w K mg base CX k fa fd [x] sp)(hbind:∀(s:Shared) (u:Value),BindsTo s fd ⟨[u],[]⟩ [(x,u)])
  (hsp:∀H:Hp,ZJh H->SqL K H a (ns.map V.int)->sp [.ref a] H (λv _=>v=.bl true) λ_ _ _=>False)
  (hCX:∀H e s',CX [] H s₁ (λ_ _ _=>False) e s'->False) :
  codeAny (model P w) callerA (.call (.ref fa) ⟨[.ref a],[]⟩) (λr s'=>r=.ok (.ret (.bool true))/\OldK s₁.heap s'.heap/\s'.os=s₁.os/\AllBare s'.gens) s₁:=by
 have rv:=ZCg hi;have lenV:=hi.length
 -- from an abstract heap in which nothing but the script may be tracked
 have core:∀H:Hp,ZJh H->SqL K H a (ns.map V.int)->HOk P w H s₁.heap->(∀b,H b≠none->b=a)->(H a≠none->K.lookup a=none) ->
   codeAny (model P w) callerA (.call (.ref fa) ⟨[.ref a],[]⟩) (λr s'=>r=.ok (.ret (.bool true))/\OldK s₁.heap s'.heap/\s'.os=s₁.os/\AllBare s'.gens) s₁:=by
  intro H hO hS hok hA hK;have base_of:∀{b:Addr} {o:Obj},s₁.heap.get? b=some o->H b=none->(ZCy s₁.heap H).get? b=some o:=λe n=>ZFl e n
  have noA:∀{b:Addr} {o:Obj} {es:Array DictEntry} {ep:Nat},s₁.heap.get? b=some o->o.data=.dict es ep->H b=none:=λ{b o es ep} e d=>by
   cases q:H b with
   |none=>rfl
   |some u =>
    have e':b=a:=hA b (by rw[q];simp);subst e';rw[ha] at e;cases e;have d':Data.seq vs.toArray _=Data.dict es ep:=d;cases d'
  have nsK:∀{b:Addr} {m:Str->Option Value},s₁.heap.Ns b m->(ZCy s₁.heap H).Ns b m:=λ{b m} ⟨o,es,ep,e,d,r⟩=>⟨o,es,ep,base_of e (noA e d),d,r⟩
  have hKb:K.In (ZCy s₁.heap H):=λ b o e=>base_of (KX b o e) (by
   cases q:H b with
   |none=>rfl
   |some u =>
    have e':b=a:=hA b (by rw[q];simp);subst e';rw[hK (by rw[q];simp)] at e;cases e)
  have hM:Mod K mg (ZCy s₁.heap H):=⟨hKb,nsK hns,⟨mb,nsK hb,hbb⟩,let ⟨mc,h1,h2⟩:=hlim;⟨mc,nsK h1,h2⟩⟩;have e0:Env0 P w K mg (ZCy s₁.heap H) callerA [] s₁ H:=⟨rfl,hM,λb o e=>ZG7 e,Nat.le_of_eq (ZE4 _ _),trivial,λb hb=>absurd (show b∈([]:List Addr) from hb) (by simp),hok,.of_eq hg⟩;refine codeAny_mono ((F _ hKb (nsK hns)).run callerA [] s₁ H ⟨[.ref a],[]⟩ [.ref a] [.ref a] _ _ hr e0 (hbind s₁ (.ref a)) (.cons rfl .nil) (hsp H hO hS)) λr s' h=>?_
  cases r with
  |error e=>exact(hCX H e s' h).elim
  |ok fl =>
   cases fl with
   |next=>exact False.elim h
   |brk=>exact False.elim h
   |cont=>exact False.elim h
   |ret u =>
    obtain⟨v,H',os,bare,un,hok',r',q⟩:=h;have q':v=.bl true:=q;subst q';obtain rfl:u=Value.bool true:=r';refine⟨rfl,OldK.of_keep λb o e=>?_,os,bare⟩;cases q:H b with
    |none=>exact un.keep b o e q (by intro z;exact absurd (show b∈([]:List Addr) from z) (by simp)) (by simp)
    |some u =>
     rcases hO b with z|⟨ob,xs,z⟩
     ·rw[q] at z;cases z
     ·have z2:=un.frzs b ob _ z
      obtain⟨e1,_⟩:=hok b _ z;obtain⟨e2,_⟩:=hok' b _ z2;rw[e] at e1;cases e1;exact e2
 cases hk:K.lookup a with
 |some o =>
  -- the script is one of the module's own objects
  have e:=KX a o hk;rw[ha] at e;cases e;refine core (λ_=>none) (λ_=>.inl rfl) (.inr ⟨_,vs.toArray,_,hk,rfl,rfl,rfl,by rw[size_toArray,lenV];exact hl,by simpa using rv⟩) (λb u z=>by have z':(none:Option HO)=some u:=z;cases z') (λb z=>absurd rfl z) λz=>absurd rfl z
 |none =>
  refine core (λb=>if b=a then some (.frz { cls:=.type "list",data:=.seq vs.toArray } (.lst (ns.map V.int))) else none) (λb=>?_) (.inl (.inr ⟨{ cls:=.type "list",data:=.seq vs.toArray },if_pos rfl⟩)) (λb u z=>?_) (λb z=>?_) λ_=>hk
  ·by_cases hb:b=a
   ·exact .inr ⟨_,_,if_pos hb⟩
   ·exact .inl (if_neg hb)
  ·by_cases hb:b=a
   ·have z':=(if_pos hb).symm.trans z
    cases z';subst hb;exact⟨ha,by rw[length_map];exact hl,vs,_,rv,ha⟩
   ·have z':=(if_neg hb).symm.trans z
    cases z'
  ·by_cases hb:b=a
   ·exact hb
   ·exact absurd (if_neg hb) z
theorem walk_of{l:PySem.W.OpenLaw}{n k:Nat}{q:Program}{loose:List Str}{XP:(Str->Option Value)->Heap->Prop}{YP:World->Heap->Prop}{d:DefRec}{K:Params->PySem.W.Frag}{CX:World->CXT}{sp:World->Sp}{x:Str}
  (hn:l.most=some n)(hn2:n<=sizeLine)(hdf:d.params.defaults=[])(hr:Room k callerA)
  (hY:∀(w:World) (h:Heap),YP w h->(K w.params).In h)
  (F:∀ (w:World) (mg:Str->Option Value) (fa:Addr) (h:Heap),(K w.params).In h->h.Ns mainGlobals mg->mg d.name=some (.ref fa) ->
   ∃fd:FuncData,(∀(s:Shared) (u:Value),BindsTo s fd ⟨[u],[]⟩ [(x,u)]) /\
    ∀base:Heap,(K w.params).In base->base.Ns mainGlobals mg->FnOk l.prog w (K w.params) mg base (CX w) k fa fd [x] (sp w))
  (hsp:∀(w:World) (H:Hp) (a:Addr) (ns:List Int),ns.length<=n->ZJh H->SqL (K w.params) H a (ns.map V.int)->sp w [.ref a] H (λv _=>v=.bl true) λ_ _ _=>False)
  (hCX:∀(w:World) (H:Hp) (s:Shared) (e:Value) (s':Shared),CX w [] H s (λ_ _ _=>False) e s'->False) :
  PySem.W.WalkO q loose XP YP l.row.toRowW d [] (λf vs=>PySem.call f vs):=by
 refine Att.attach_call hn hdf λw s₀ s₁ mg mb fa o pm cd doc a vs ns G Y ho hd hcd hmg hobj hints hlen hg=>?_
 have KX:=hY w _ Y;obtain⟨fd,hb,hF⟩:=F w mg fa _ KX G.T.g hmg;exact ZFV KX G.T.g G.T.b G.T.builtins G.T.nolimit hg hobj hints (le_trans hlen hn2) hr hF hb (λH hO hS=>hsp w H a ns hlen hO hS) λH e s'=>hCX w H s₁ e s'
def ZAa(s:Stmt):Arguments:=match s with
 |.FunctionDef _ a _ _ _ _ _ _ _ _=>a
 |_=>{ posonlyargs:=[],args:=[],vararg:=none,kwonlyargs:=[],kw_defaults:=[],kwarg:=none,defaults:=[] }
def Zv(s:Stmt):List Stmt:=match s with
 |.FunctionDef _ _ b _ _ _ _ _ _ _=>b
 |_=>[]
def ZF(s:Stmt):Scope:=match s with
 |.FunctionDef _ _ _ _ _ _ sc _ _ _=>sc
 |_=>{ kind:=.function,names:=[],isGenerator:=false,isCoroutine:=false }
abbrev CX0:CXT:=λ_ _ _ _ _ _=>False
abbrev E0:XK:=λ_ _ _=>False
theorem ZIA{X:Cx}:ZC4 CX0 X E0:=λ_ _ _ _ _ _ _ h=>h.elim
structure Fun (K:PySem.W.Frag) (x qual:Str) (st:Stmt) (f:Addr) (fd:FuncData):Prop where
 ex:∃(oc:Value) (od:Option Addr) (kV doc pm:Value) (an:Option Addr) (cdv ct:Value) (osl:Array (Option Value)),
  fd=PySem.W.fnOf x qual (ZAa st) (Zv st) (ZF st) .none kV doc pm an cdv ct/\K.lookup f=some ⟨oc,od,.func fd,osl⟩/\PySem.W.codeIn K cdv qual=true
 kp:PySem.W.keepIn K (.ref f)=true
section
variable{P:Program}{w:World}{K:PySem.W.Frag}{mg:Str->Option Value}{base:Heap}
theorem Fun.ok{x qual:Str}{st:Stmt}{f:Addr}{fd:FuncData}{N ps:List Str}{k:Nat}{sp:Sp}(F:Fun K x qual st f fd)(S:FnScope N ps (ZF st))(len:∀vs H Q E,sp vs H Q E->vs.length=ps.length)
  (hbody:∀ (cdv:Value) (A:Around) (outer:List Env) (s:Shared) (H:Hp) (vs:List V) (Q:VK) (E:XK),Room k (A.deeper (envOfC qual (ZF st) s.heap.objs.size f cdv))->sp vs H Q E ->
   ∃t,PSs (ZDV CX0 P w K mg base N qual (ZF st) f cdv A outer s H E).nox (Zv st) t/\t { nx:=λ_ H'=>Q .non H',rt:=Q } (ZBD N vs) H):FnOk P w K mg base CX0 (k+1) f fd ps sp:=by
 obtain⟨oc,od,kV,doc,pm,an,cdv,ct,osl,rfl,lk,hcd⟩:=F.ex;refine fn_of lk hcd S len λA outer s H vs Q E hr hsp=>?_
 obtain⟨t,h,q⟩:=hbody cdv A outer s H vs Q E hr hsp;exact⟨t,h.nox,q⟩
theorem Fun.binds{x qual:Str}{st:Stmt}{f:Addr}{fd:FuncData}{ps:List Str}(F:Fun K x qual st f fd)
  (h:∀(kV doc pm:Value) (an:Option Addr) (cdv ct:Value) (us:List Value),us.length=ps.length->bindArgs (PySem.W.fnOf x qual (ZAa st) (Zv st) (ZF st) .none kV doc pm an cdv ct) ⟨us,[]⟩=pure (ps.zip us)):ZBv K fd ps []:=by
 obtain⟨oc,od,kV,doc,pm,an,cdv,ct,osl,rfl,lk,hcd⟩:=F.ex;exact .all (h kV doc pm an cdv ct)
theorem ZFT{x qual:Str}{st:Stmt}{f:Addr}{oc:Value}{od an:Option Addr}{osl:Array (Option Value)}{kV doc pm cdv ct:Value}(l:K.lookup f=some ⟨oc,od,.func (PySem.W.fnOf x qual (ZAa st) (Zv st) (ZF st) .none kV doc pm an cdv ct),osl⟩)
  (c:PySem.W.codeIn K cdv qual=true)(k:PySem.W.keepIn K (.ref f)=true):Fun K x qual st f (PySem.W.fnOf x qual (ZAa st) (Zv st) (ZF st) .none kV doc pm an cdv ct):=⟨⟨oc,od,kV,doc,pm,an,cdv,ct,osl,rfl,l,c⟩,k⟩
end
theorem Zt{n:Nat}(h:n<=1000):n<sizeLine:=Nat.lt_of_le_of_lt h (by decide)
theorem iteF{A B:Prop}(h:B):if false=true then A else B:=by
 rw[if_neg Bool.false_ne_true];exact h
theorem iteT{A B:Prop}(h:A):if true=true then A else B:=by
 rw[if_pos rfl];exact h
def Same(H H':Hp):Prop:=∀b o,H b=some o->H' b=some o
theorem Same.refl(H:Hp):Same H H:=λ_ _ h=>h
end L2
namespace HT
open PySem PyProof.Rows
def lexGt:List Int->List Int->Bool
 |[],[]=>false
 |[],_::_=>false
 |_::_,[]=>true
 |x::xs,y::ys=>if x=y then lexGt xs ys else decide (y<x)
theorem ZDq(x y:Int)(xs ys:List Int):lexGt (x::xs) (y::ys)=if x=y then lexGt xs ys else decide (y<x):=rfl
theorem ZCb:lexGt [] []=false:=rfl
theorem ZBr(y:Int)(ys:List Int):lexGt [] (y::ys)=false:=rfl
theorem ZB1(x:Int)(xs:List Int):lexGt (x::xs) []=true:=rfl
theorem ZGD(A:Around)(s:Shared)(a:Int)(t:Tok)(c:Int)(u:Tok)(prog:Program)(w:World)(E:Value->Shared->Prop)(Q:Value->Shared->Prop)(h:Q (.bool (decide (c<a))) s) :
  wpAny (model prog w) A (richCompare .Gt (.int a t) (.int c u)) Q E s :=
 (PyProof.Rows.gt_int h:wpAny (model prog w) A (compareOp .Gt (.int a t) (.int c u)) Q E s)
section
open PySem.SeqAt
open PySem.AutoSeq1 (wpAny_loadPart')
open PySem.MeetsSeq PySem.MeetsSeq2 PySem.MeetsSeq3
theorem ZCW(l b:Addr)(items items2:Array Value)(n n2:Nat)(dd dd2:Option Addr)(sl sl2:Array (Option Value))(ns ms:List Int)(hi:IntsAre items.toList ns)(hj:IntsAre items2.toList ms) :
  Meets (Builtin.«tuple.__gt__» ⟨[.ref l,.ref b],[]⟩)
   (λ _ R s=>s.heap.get? l=some { cls:=.type "tuple",dict:=dd,data:=.seq items n,slots:=sl }/\s.heap.get? b=some { cls:=.type "tuple",dict:=dd2,data:=.seq items2 n2,slots:=sl2 } /\
    R (.ok (.ret (.bool (lexGt ns ms)))) s) :=
 .of_wp λprog w A R s h=>by
  obtain⟨hp,g,d,tk,os⟩:=s;obtain⟨hl,hb,h⟩:=h;have f2:=AutoSeq1.sub_tuple_tuple;have z1:items.size=ns.length:=by rw[←hi.length];simp
  have z2:items2.size=ms.length:=by rw[←hj.length];simp
  wp_walk using wpAny_loadPart' hl,wpAny_loadPart' hb,wpAny_forIn_list _ (λ rest b s'=>b.1=none/\s'=⟨hp,g,d,tk,os⟩/\∃ (vs ws:List Value) (ns' ms':List Int),rest=vs.zip ws /\
   IntsAre vs ns'/\IntsAre ws ms'/\ns'.length+items2.size=ms'.length+items.size/\R (.ok (.ret (.bool (lexGt ns' ms')))) ⟨hp,g,d,tk,os⟩) _
  case turn =>
   rintro ⟨y,x⟩ rest b s' ⟨hb',rfl,vs,ws,ns',ms',hz,hvi,hwi,hlen,hR⟩
   cases hvi with
   |nil=>rw[zip_nil_left] at hz;cases hz
   |cons a t hvi' =>
    cases hwi with
    |nil=>rw[List.zip_nil_right] at hz;cases hz
    |cons c u hwi' =>
     rw[zip_cons_cons] at hz;injection hz with hyx hrest
     injection hyx with hy hx
     subst hy hx;rw[ZDq] at hR;simp only[length_cons] at hlen;obtain⟨e,he,hiff⟩:=ZCA A.in1 ⟨hp,g,d,tk,os⟩ a t c u;refine wpAny_bind (he prog w _ _ ?_);cases e with
     |true =>
      rw[if_pos (hiff.mp rfl)] at hR
      wp_walk
      exact⟨rfl,rfl,_,_,_,_,hrest,hvi',hwi',by omega,hR⟩
     |false =>
      rw[if_neg (λq=>absurd (hiff.mpr q) Bool.false_ne_true)] at hR;have hri:=ZGD A.in1 ⟨hp,g,d,tk,os⟩ a t c u prog w
      wp_walk using hri
      exact⟨_,rfl,by simpa using hR⟩
  case fin =>
   rintro ⟨b1,b2⟩ s' ⟨hb',rfl,vs,ws,ns',ms',hz,hvi,hwi,hlen,hR⟩
   simp only at hb';subst hb';have hv:lexGt ns' ms'=decide (items.size > items2.size):=by
    cases hvi with
    |nil =>
     cases hwi with
     |nil =>
      simp only[length_nil] at hlen;rw[ZCb];exact(decide_eq_false (by omega)).symm
     |cons c u hw =>
      simp only[length_nil,length_cons] at hlen;rw[ZBr];exact(decide_eq_false (by omega)).symm
    |cons a t hv =>
     cases hwi with
     |nil =>
      simp only[length_nil,length_cons] at hlen;rw[ZB1];exact(decide_eq_true (by omega)).symm
     |cons c u hw =>
      rw[zip_cons_cons] at hz;cases hz
   rw[hv] at hR
   wp_walk
   exact⟨_,rfl,by simpa [Builtin.Tuple.tupleCompareSizes] using hR⟩
  case h =>
   exact⟨rfl,rfl,items.toList,items2.toList,ns,ms,rfl,hi,hj,by omega,h⟩
end
section
variable{prog:Program}{w:World}{A:Around}{E:Value->Shared->Prop}{s:Shared}
theorem gt_tupInts{l b:Addr}{items items2:Array Value}{ns ms:List Int}{Q:Value->Shared->Prop}(hl:IsTup s.heap l items)(hb:IsTup s.heap b items2)(hi:IntsAre items.toList ns)(hj:IntsAre items2.toList ms)
  (hu:A.units<cLine)(h:Q (.bool (lexGt ns ms)) s):wpAny (model prog w) A (compareOp .Gt (.ref l) (.ref b)) Q E s:=by
 obtain⟨⟨cls,dd,data,sl⟩,ho,hc,n,hd⟩:=id hl;obtain⟨⟨cls2,dd2,data2,sl2⟩,ho2,hc2,n2,hd2⟩:=id hb;simp only at hc hd hc2 hd2;subst hc hd hc2 hd2;exact richCompare_meets_room (op:=.Gt) ⟨_,ho,rfl⟩ ⟨_,ho2,rfl⟩ PySem.F.slot_tuple_gt PySem.F.entry_tuple_gt (PySem.F.args_tuple_gt_2 _ _) (ZCW l b items items2 n n2 dd dd2 sl sl2 ns ms hi hj)
  ⟨ho,ho2,show Value.bool (lexGt ns ms)≠Value.notImplemented/\Q (.bool (lexGt ns ms)) s from ⟨(λx=>nomatch x),h⟩⟩ hu
end
end HT
namespace L2
open PySem PySem.Spec PyProof.Rows
section
variable{X:Cx}{a b:Expr}{ta tb:TE}{pos:Pos}
def rGtT(K:PySem.W.Frag):R2:=λx y H Q=>∃a b ns ms,x=.ref a/\y=.ref b/\SqT K H a (ns.map V.int)/\SqT K H b (ms.map V.int)/\Q (.bl (HT.lexGt ns ms)) H
theorem ZI9(hu:X.A.units<cLine):OpR X (compareOp .Gt) (rGtT X.K):=by
 intro pins s σ H x y v u Q I rx ry h;obtain⟨a,b,ns,ms,rfl,rfl,ha,hb,q⟩:=h;cases rx;cases ry;obtain⟨its,r1,p1,_⟩:=I.tuple ha;obtain⟨its2,r2,p2,_⟩:=I.tuple hb;have i1:IntsAre its.toArray.toList ns:=Zu r1;have i2:IntsAre its2.toArray.toList ms:=Zu r2;exact HT.gt_tupInts p1 p2 i1 i2 hu ⟨.bl (HT.lexGt ns ms),H,I,rfl,q⟩
def CDivL(i j:Int):Prop:=0<j/\j<2 ^ 64
theorem ZFU:OpR X (binaryOp .FloorDiv) (rI CDivL λi j=>.int (i / j)):=opI λi j _ _ _ _ _ hc q=>by
 have h1:(0:Int)<j:=hc.1;have h2:j<2 ^ 64:=hc.2;have e:i.fdiv j=i / j:=Int.fdiv_eq_ediv_of_nonneg i (Int.le_of_lt h1);refine floordiv_int (by omega) (by rw[e];exact q) (.inl (PyProof.noPylong_of_log2 ?_));have h3:j.natAbs<2 ^ 64:=by omega
 have h4:j.natAbs≠0:=by omega
 have h5:j.natAbs.log2<64:=(Nat.log2_lt h4).mpr h3;omega
end
end L2
namespace H1
open PySem PySem.Spec PyProof.Rows L2
structure Def (K:PySem.W.Frag) (mg:Str->Option Value) (x:Str) (st:Stmt) (ps:List Str) (f:Addr) (fd:FuncData):Prop where
 at_:mg x=some (.ref f)
 fn:Fun K x x st f fd
 bd:ZBv K fd ps []
theorem pcall{X:Cx}{x:Str}{st:Stmt}{ps:List Str}{f:Addr}{fd:FuncData}{sp:Sp}{k:Nat}{e:Expr}{es:List Expr}{t:TA}{p pos:Pos}(D:Def X.K X.mg x st ps f fd)(G:FnOk X.prog X.w X.K X.mg X.base CX0 k f fd ps sp)(hr:Room k X.A)
  (ha:PA X (e::es) t)(hg:Gl X x:=by rfl)(hdb:(x == ("__debug__" : Str))=false:=by decide)(he:starEach (e::es) X.env=(false,eval e X.env)::starEach es X.env:=by rfl)(hpl:(backTo pos (starEach es X.env)).any (·.1)=false:=by rfl) :
  PE X (.Call (.Name x p) (e::es) [] pos) (ZFe sp [] E0 t):=ZGw G hr hg D.at_ D.fn.kp D.bd .nil ZIA ha hdb he hpl
theorem Same.upd{H:Hp}{p:Addr}{o:HO}(h:H p=none):Same H (upd H p o):=λa u e=>by rw[ZC (ZH e h)];exact e
theorem ib1(k:Bool) : -(2 ^ 64)<(if k=true then (1:Int) else 0)/\(if k=true then (1:Int) else 0)<2 ^ 64:=by cases k <;> decide
end H1
namespace HI
open PySem PyProof.Rows
section
variable{prog:Program}{w:World}{A:Around}{E:Value->Shared->Prop}{s:Shared}
theorem drawT{j t:Addr}{i:Nat}{its:Array Value}{x:Value}{Q:Value->Shared->Prop}(hj:s.heap.IsTupleIter j t i)(ht:s.heap.IsTuple t its)(hx:its[i]? = some x)
  (k:∀h',h'.IsTupleIter j t (i+1)->Heap.SameBut j s.heap h'->Q x { s with heap:=h' }):wpAny (model prog w) A (Builtin.SmallTypes.nextOf (.ref j)) Q E s:=by
 obtain⟨oj,ej,cj,dj⟩:=id hj;obtain⟨ot,et,_,nt,dt⟩:=ht;unfold Builtin.SmallTypes.nextOf;refine wpAny_bind (wpAny_callSpecial?_slot (name:=Str.ofString "__next__") hj.typeIs F.slot_tuple_iterator_next (wpAny_call_entry F.slot_tuple_iterator_next hj.typeIs F.entry_tuple_iterator_next ?_ (F.args_tuple_iterator_next_1 _)));refine wpAny_bind (m:=field (.ref j) 0) (wpAny_field ej dj (x:=.ref t) rfl ?_);show wpAny _ _ (if (Value.ref t == Value.none)=true then _ else field (.ref j) 1 >>= _) _ _ s;rw[if_neg (by intro z;cases z)];refine wpAny_bind (m:=field (.ref j) 1) (wpAny_field ej dj (x:=.int i 0) rfl (wpAny_bind (m:=seqItems? (.ref t)) (wpAny_seqItems et dt ?_)));simp only[toNat_natCast,hx];refine wpAny_bind (wpAny_setField ej dj (by simp) (wpAny_pure ⟨_,rfl,wpAny_pure (k _ ?_ (Heap.SameBut.update ..))⟩));refine⟨_,get?_update_self _ ej (Obj.isFreed_of_fields (Obj.data_mapFields dj _)),(Obj.cls_mapFields ..).trans cj,?_⟩;rw[Obj.data_mapFields dj];simp[rawInt]
theorem ZE2{j t:Addr}{i:Nat}{its:Array Value}{Q:Value->Shared->Prop}(hh:A.handled=none)(hj:s.heap.IsTupleIter j t i)(ht:s.heap.IsTuple t its)(hx:its[i]? = none)
  (k:∀h' e,Heap.ExtBut j s.heap h'->(∃o,h'.get? e=some o/\o.cls=.type "StopIteration")->E (.ref e) { s with heap:=h' }):wpAny (model prog w) A (Builtin.SmallTypes.nextOf (.ref j)) Q E s:=by
 obtain⟨oj,ej,cj,dj⟩:=id hj;obtain⟨ot,et,_,nt,dt⟩:=ht;unfold Builtin.SmallTypes.nextOf;refine wpAny_bind (wpAny_callSpecial?_slot (name:=Str.ofString "__next__") hj.typeIs F.slot_tuple_iterator_next (wpAny_call_entry F.slot_tuple_iterator_next hj.typeIs F.entry_tuple_iterator_next ?_ (F.args_tuple_iterator_next_1 _)));refine wpAny_bind (m:=field (.ref j) 0) (wpAny_field ej dj (x:=.ref t) rfl ?_);show wpAny _ _ (if (Value.ref t == Value.none)=true then _ else field (.ref j) 1 >>= _) _ _ s;rw[if_neg (by intro z;cases z)];refine wpAny_bind (m:=field (.ref j) 1) (wpAny_field ej dj (x:=.int i 0) rfl (wpAny_bind (m:=seqItems? (.ref t)) (wpAny_seqItems et dt ?_)));simp only[toNat_natCast,hx];refine wpAny_bind (wpAny_rule (wpAny_bind (wpAny_setField ej dj (by simp) ?_)));refine wpAny_bind (m:=newExc (.type "StopIteration") []) ?_;simp only[newExc,newTuple];refine wpAny_bind (wpAny_newObj_type (wpAny_bind (m:=firstArgMember _ _) (wpAny_of_eq (a:=Value.none) (by first|rfl|(simp only[firstArgMember];rfl)) (wpAny_newObj_type ?_ (by size_fits)))) (by size_fits));simp only[raiseNew];refine wpAny_bind (wpAny_handled ?_)
 first
  |rw[show A.in1.handled=none from hh]
  |rw[hh]
 exact wpAny_bind (wpAny_pure (wpAny_throw (k _ _ (((Heap.SameBut.update ..).extBut.push _).push _) ⟨_,get?_push_size _ rfl,rfl⟩)))
end
abbrev nm(q:Bool):String:=cond q "tuple_iterator" "list_iterator"
def ZD(q:Bool)(h:Heap)(i l:Addr)(k:Nat):Prop:=∃o,h.get? i=some o/\o.cls=.type (nm q)/\o.data=.fields #[.ref l,.int k 0]
def IsSq(q:Bool)(h:Heap)(l:Addr)(xs:Array Value):Prop:=∃o,h.get? l=some o/\o.cls=.type (cond q "tuple" "list")/\∃n,o.data=.seq xs n
section
variable{prog:Program}{w:World}{A:Around}{E:Value->Shared->Prop}{s:Shared}{q:Bool}
theorem Z5{j t:Addr}{i:Nat}{its:Array Value}{x:Value}{Q:Value->Shared->Prop}(hj:ZD q s.heap j t i)(ht:IsSq q s.heap t its)(hx:its[i]? = some x)
  (k:∀h',ZD q h' j t (i+1)->Heap.SameBut j s.heap h'->Q x { s with heap:=h' }):wpAny (model prog w) A (Builtin.SmallTypes.nextOf (.ref j)) Q E s:=by
 cases q
 ·exact wpAny_nextOf_list_item hj ht hx k
 ·exact drawT hj ht hx k
theorem Zf{j t:Addr}{i:Nat}{its:Array Value}{Q:Value->Shared->Prop}(hh:A.handled=none)(hj:ZD q s.heap j t i)(ht:IsSq q s.heap t its)(hx:its[i]? = none)
  (k:∀h' e,Heap.ExtBut j s.heap h'->(∃o,h'.get? e=some o/\o.cls=.type "StopIteration")->E (.ref e) { s with heap:=h' }):wpAny (model prog w) A (Builtin.SmallTypes.nextOf (.ref j)) Q E s:=by
 cases q
 ·exact wpAny_nextOf_list_end hh hj ht hx k
 ·exact ZE2 hh hj ht hx k
theorem itG{l:Addr}{items:Array Value}{Q:Value->Shared->Prop}(hl:IsSq q s.heap l items)(hQ:Q (.ref s.heap.objs.size) { s with heap:=s.heap.push { cls:=.type (nm q),data:=.fields #[.ref l,.int 0 0] } }):wpAny (model prog w) A (pyIter (.ref l)) Q E s:=by
 cases q
 ·exact wpAny_pyIter_list hl hQ
 ·exact wpAny_pyIter_tuple hl hQ
end
end HI
namespace L2
open PySem PySem.Spec PyProof.Rows
def SqG(q:Bool)(K:PySem.W.Frag)(H:Hp)(a:Addr)(xs:List V):Prop:=cond q (SqT K H a xs) (SqL K H a xs)
section
variable{X:Cx}{pins:List (Addr×Obj)}{σ : List (Option V)}{H:Hp}{s:Shared}{q:Bool}{a:Addr}{xs ys:List V}
theorem Inv.sq(I:Inv X pins σ H s)(h:SqG q X.K H a xs):∃its:List Value,ZI xs its/\HI.IsSq q s.heap a its.toArray/\xs.length<=sizeLine:=by
 cases q
 ·obtain⟨its,r,p,z⟩:=I.list h
  exact⟨its,r,p.isList,z⟩
 ·exact I.tuple h
theorem Inv.sq_inj(I:Inv X pins σ H s)(h:SqG q X.K H a xs)(h':SqG q X.K H a ys):xs=ys:=by
 cases q
 ·exact I.list_inj h h'
 ·exact I.tuple_inj h h'
end
def ZJ3(q:Bool)(K:PySem.W.Frag)(a:Addr):It :=
 ⟨λi H=>∃xs x,SqG q K H a xs/\xs[i]? = some x,λi H v H'=>∃p x,v=.ref p/\H p=none/\H'=upd H p (.tup [.int i,x])/\∀xs,SqG q K H a xs->xs[i]? = some x,λi H=>∃xs,SqG q K H a xs/\xs.length<=i⟩
abbrev Ite:=ZJ3 true
theorem ZHO{env:Env}(ns:List (Str×NameKind))(h:∀x∈ns,x.2=.free->∃c,env.cells.lookup x.1=some c):∀cs:List (Str×Addr),
  ∃ cl:List (Str × Addr),(forIn ns cs λ x r=>do
   let mut cs:=r
   if x.2 == .free then cs:=(x.1,←cellOf env x.1)::cs
   pure (ForInStep.yield cs):Sem (List (Str×Addr)))=pure cl /\
   (∀x c,cl.lookup x=some c->cs.lookup x=some c∨env.cells.lookup x=some c) /\
   (∀x,(cs.lookup x).isSome=true->(cl.lookup x).isSome=true)/\∀x,(x,NameKind.free)∈ns->(cl.lookup x).isSome=true:=by
 induction ns with
 |nil=>exact λcs=>⟨cs,rfl,λ_ _ e=>.inl e,λ_ e=>e,λ_ z=>nomatch z⟩
 |cons y r ih =>
  intro cs;obtain⟨n,k⟩:=y;have ih:=ih λx hx=>h x (mem_cons_of_mem _ hx)
  by_cases hk:k=.free
  ·subst hk
   obtain⟨c,hc⟩:=h (n,.free) mem_cons_self rfl;obtain⟨cl,e,p1,p2,p3⟩:=ih ((n,c)::cs);refine⟨cl,?_,λx c' q=>?_,λx q=>p2 x ?_,λx q=>?_⟩
   ·rw[forIn_cons]
    have hce:cellOf env n=pure c:=by
     unfold cellOf;rw[show env.cells.lookup n=some c from hc]
    simp only[beq_self_eq_true,if_true];rw[hce];exact e
   ·rcases p1 x c' q with q|q
    ·rw[lookup_cons] at q
     cases hx:x == n with
     |true=>rw[hx] at q;cases q;rw[eq_of_beq hx];exact .inr hc
     |false=>rw[hx] at q;exact .inl q
    ·exact .inr q
   ·rw[lookup_cons]
    cases hx:x == n with
    |true=>rfl
    |false=>exact q
   ·rcases List.mem_cons.mp q with z|z
    ·cases z
     exact p2 _ (by rw[lookup_cons];simp)
    ·exact p3 x z
  ·obtain⟨cl,e,p1,p2,p3⟩:=ih cs
   refine⟨cl,?_,p1,p2,λx q=>?_⟩
   ·rw[forIn_cons]
    have hb:(k == NameKind.free)=false:=by simpa using hk
    simp only[hb];exact e
   ·rcases List.mem_cons.mp q with z|z
    ·cases z;exact absurd rfl hk
    ·exact p3 x z
theorem ZA3{env:Env}{scope:Scope}(h:∀x∈scope.names,x.2=.free->∃c,env.cells.lookup x.1=some c) :
  ∃cl:List (Str×Addr),closureFor scope env=pure cl/\(∀x c,cl.lookup x=some c->env.cells.lookup x=some c)/\∀x,(x,NameKind.free)∈scope.names->(cl.lookup x).isSome=true:=by
 obtain ⟨cl,e,p1,_,p3⟩:=ZHO scope.names h [];refine ⟨cl,?_,λ x c q=>(p1 x c q).elim (λ z=>by cases z) id,p3⟩;unfold closureFor;have e2:(forIn scope.names ([]:List (Str × Addr)) λ x r=>do
   let mut cs:=r
   if x.2 == .free then cs:=(x.1,←cellOf env x.1)::cs
   pure (ForInStep.yield cs):Sem (List (Str×Addr))) >>= (λcs=>pure cs)=pure cl:=by rw[e];rfl
 exact e2
abbrev blk(X:Cx)(N:List Str)(env:Env)(s:Shared)(H:Hp)(ex:List Addr):Cx:={ X with N:=N,s₀:=s,H₀:=H,env:=env,outer:=X.stack,stack:=X.stack,ex:=ex,fn:=λ_=>false,pn:=[],xe:=λ_ _=>False }
section
variable{X:Cx}{pins:List (Addr×Obj)}{σ : St}{H:Hp}{s:Shared}{fp:List Addr}{env:Env}{N:List Str}
theorem ZJN(I:Inv X pins σ H s)(hf:∀b∈fp,ZBd X pins H b)(hob:∀b∈fp,∃o,s.heap.get? b=some o)(hC:s.heap.objs.size<=env.locals)(hk:env.scope.kind=.function)(hg:env.globals=X.env.globals)(hb:env.builtins=X.env.builtins)
  (hsub:∀x c,env.cells.lookup x=some c->X.env.cells.lookup x=some c)(hhas:∀x,(env.kindOf x=some .cell∨env.kindOf x=some .free)->∃c,env.cells.lookup x=some c):(blk X N env s H fp).Ok where
 mod:=I.ok.mod
 kind:=hk
 glob:=hg.trans I.ok.glob
 blt:=hb.trans I.ok.blt
 above:=hC
 inj:=λx y c e1 e2=>I.ok.inj x y c (hsub x c e1) (hsub y c e2)
 has:=hhas
 cab:=λ_ _ z=>by cases z
 hd:=I.ok.hd
 frames:=I.ok.frames
 stk:=.inl rfl
 exf:=λb hb'=>by
  obtain⟨o,e⟩:=hob b hb';exact⟨ne_of_lt (lt_of_lt_of_le (lt_size e) hC),λx c q=>(hf b hb').2.2.2.2.1 x c (hsub x c q)⟩
 bs:=I.bs
 bsz:=le_trans I.ok.bsz I.sz
 noex:=λb o e hb'=>by
  rcases(hf b hb').2.2.2.1 with z|z
  ·exact I.ok.noex b o e z
  ·exact absurd (lt_of_lt_of_le (lt_size e) (le_trans I.ok.bsz z)) (lt_irrefl _)
 exfs:=λb hb' z=>by
  rcases List.mem_cons.mp (I.stkSub b z) with q|q
  ·exact(hf b hb').2.1 q
  ·exact(hf b hb').2.2.1 q
 funs:=I.stack
 frf:=I.stkFree
theorem ZGj{h1:Heap}{tk:Nat}{σ':St}{m:Str->Option Value}(I:Inv X pins σ H s)(hf:∀b∈fp,ZBd X pins H b)(hob:∀b∈fp,∃o,s.heap.get? b=some o)(hC:s.heap.objs.size<=env.locals)(hk:env.scope.kind=.function)(hg:env.globals=X.env.globals)(hb:env.builtins=X.env.builtins)
  (hsub:∀x c,env.cells.lookup x=some c->X.env.cells.lookup x=some c)(hhas:∀x,(env.kindOf x=some .cell∨env.kindOf x=some .free)->∃c,env.cells.lookup x=some c)
  (keep:∀b u,s.heap.get? b=some u->h1.get? b=some u)(hn:h1.Ns env.locals m)(hlen : σ'.length=N.length)
  (hcap:∀(i:Nat) (x:Str) (v:V),N[i]? = some x->σ'[i]? = some (some v)->(env.kindOf x=some .cell∨env.kindOf x=some .free)/\X.env.kindOf x≠some .local/\Vis X.env.scope x/\∃j:Nat,X.N[j]? = some x/\σ[j]? = some (some v)) :
  Inv (blk X N env s H fp) [] σ' H { s with heap:=h1,toks:=tk } where
 ok:=ZJN I hf hob hC hk hg hb hsub hhas
 os:=rfl
 bare:=I.bare
 base:=Un.kept keep
 loc:=⟨m,hn,λi x v e1 e2 _=>by
  obtain⟨k1,k2,k3,j,e3,e4⟩:=hcap i x v e1 e2;obtain⟨m0,_,hl⟩:=I.loc;obtain⟨u,r,l⟩:=hl j x v e3 e4 k3;refine⟨u,r,?_⟩;rcases l with ⟨z,_⟩|⟨_,c,ec,o,ho,hd⟩
  ·exact absurd z k2
  ·obtain⟨c',ec'⟩:=hhas x k1
   have ee:c'=c:=by
    have q:=hsub x c' ec';rw[ec] at q;exact(Option.some.inj q).symm
   subst ee;exact .inr ⟨k1,c',ec',o,keep _ _ ho,hd⟩⟩
 cell:=λx c e=>by
  obtain⟨v,o,ho,hd⟩:=I.cell x c (hsub x c e);exact⟨v,o,keep _ _ ho,hd⟩
 free:=I.hok.fresh hC
 freeC:=λx c e=>I.freeC x c (hsub x c e)
 pin:=λp hp=>by cases hp
 hok:=I.hok.kept keep
 len:=hlen
theorem Un.but{fs ex:List Addr}{H H':Hp}{h h1 h2:Heap}{C:Addr}(u:Un fs ex H H' h h1)(sb:Heap.SameBut C h1 h2)(hC:h.objs.size<=C):Un fs ex H H' h h2:=by
 have k:∀b o,h.get? b=some o->h2.get? b=h1.get? b:=λb o e=>sb.2 b (ne_of_lt (lt_of_lt_of_le (lt_size e) hC))
 exact⟨λb o e n h3 h4=>(k b o e).trans (u.keep b o e n h3 h4),λb o e n h3 h4=>by
  obtain⟨sl,q⟩:=u.slot b o e n h3 h4;exact⟨sl,(k b o e).trans q⟩,u.free,λb o e h3=>by
  obtain⟨o',q⟩:=u.there b o e h3;exact⟨o',(k b o e).trans q⟩,u.tups,u.frzs,u.tbls⟩
theorem ZHT{σ':St}{H':Hp}{s':Shared}{h2:Heap}(I:Inv X pins σ H s)(hf:∀b∈fp,ZBd X pins H b)(hC:s.heap.objs.size<=env.locals)(J:Inv (blk X N env s H fp) [] σ' H' s')(sb:Heap.SameBut env.locals s'.heap h2):Inv X pins σ H' { s' with heap:=h2 }:=by
 refine I.call' (ch:=fp) J.os (J.base.but sb hC) (λb u e=>?_) J.bare λb hb=>⟨(hf b hb).2.2.2.1,(hf b hb).2.1,(hf b hb).2.2.2.2.1,(hf b hb).2.2.2.2.2⟩
 refine(J.hok b u e).stay (λc v hc q=>(sb.2 c ?_).trans q) (λ_ q=>q) λ_ _ q=>q
 intro z;have n:=J.free;rcases hc with q|q
 ·rw[←q,z] at e
  rw[e] at n;cases n
 ·rw[z] at q
  rw[q] at n;cases n
end
def Wk(a b:St):Prop:=a.length=b.length/\∀(i:Nat) (v:V),a[i]? = some (some v)->b[i]? = some (some v)
def PTs(X:Cx)(ifs:List Expr)(t:TT):Prop :=
 ∀(pins:List (Addr×Obj)) (s:Shared) (σ : St) (H:Hp) (Q:Bool->Hp->Prop),Inv X pins σ H s->t σ H Q ->
  wpAny (model X.prog X.w) X.A (forIn ifs true λc r=>if r=true then do let ok ←isTrue c X.env (eval c X.env);pure (ForInStep.yield ok) else pure (ForInStep.yield r)) (TP X pins σ Q) X.xe s
def tYes:TT:=λ_ H Q=>Q true H
theorem ZG4{X:Cx}:PTs X [] tYes:=λ_ _ _ H _ I h=>wpAny_tests_nil ⟨H,I,h⟩
theorem ZGf{X:Cx}{c:Expr}{t:TT}(h:PT X c t):PTs X [c] t:=λpins s σ H Q I hw=>wpAny_tests_one (h pins s σ H Q I hw)
def ZD6(J:It)(g:TG)(tt:TT)(te:TE)(σ0:St)(D:Addr)(Q:VK)(H1:Hp):Prop :=
 ∃W:Nat->Nat->List V->Hp->Prop,(∃m,W 0 m [] H1)/\∀i m acc H,W i m acc H ->
  (J.stop i H/\Q (.ref D) H) ∨ (J.go i H/\∃ N:List V->Hp->Prop,(∀ acc' H',N acc' H'->∃ m',m' < m/\W (i+1) m' acc' H') /\
   ∀x H',J.yld i H x H'->g x σ0 H' λσ2 H2=>Wk σ0 σ2/\tt σ2 H2 λb H3=>if b=true then te σ2 H3 λy H4=>H4 D=some (.lst acc)/\acc.length<sizeLine/\N (acc++[y]) (upd H4 D (.lst (acc++[y]))) else N acc H3)
theorem ZE0{Y:Cx}{tg elt iter:Expr}{ifs:List Expr}{scope:Scope}{pos:Pos}{it D:Addr}{J:It}{fp:List Addr}{tn:Nat->Heap->Prop}{g:TG}{tt:TT}{te:TE}{σ0:St}{Q:VK}{R:Result->Shared->Prop}{H:Hp}{s:Shared}
  (hc:Y.calm=true)(T:Turn Y.prog Y.w Y.K tg J fp it tn)(hfp:∀H,(∀b∈fp,H b=none)->∀b∈fp,ZBd Y [] H b)(hg:PG Y tg g)(ht:PTs Y ifs tt)(he:PE Y elt te)(hxe:∀e s,¬Y.xe e s)
  (hR:∀H' s',Inv Y [] σ0 H' s'->Q (.ref D) H'->R (.ok .next) s')(I:Inv Y [] σ0 H s)(st:tn 0 s.heap)(fr:∀b∈fp,H b=none)(hw:ZD6 J g tt te σ0 D Q H) :
  codeAny (model Y.prog Y.w) Y.A (.compLoop (.ListComp elt [⟨tg,iter,ifs,0⟩] scope pos) 0 (.ref it) (.ref D) Y.env) R s:=by
 obtain⟨W,⟨m0,w0⟩,turn⟩:=hw;refine codeAny_loop rfl (λn s'=>∃i H' acc,Inv Y [] σ0 H' s'/\tn i s'.heap/\(∀b∈fp,H' b=none)/\W i n acc H') ?_ m0 ⟨0,H,[],I,st,fr,w0⟩
 rintro n s3 ⟨i,H3,acc,I3,st3,fr3,w3⟩
 show wpAny _ Y.A ((compTurn (.ListComp elt [⟨tg,iter,ifs,0⟩] scope pos) 0 (.ref it) (.ref D) Y.env).onRaise (λx=>do noteFrame x Y.env;theTreesLotGoes x)) _ _ s3;refine wpAny_noted ?_;rw[compTurn_list];refine wpAny_bind (wpAny_standAt (wpAny_bind ?_));rcases turn i n acc H3 w3 with ⟨stop,qn⟩|⟨go,N,hN,step⟩
 ·refine thn (T.done Y rfl rfl rfl hc i [] s3 σ0 H3 _ I3 (hfp H3 fr3) st3 stop) λr s4 ⟨hr,I4⟩=>?_
  subst hr;exact wpAny_pure (hR H3 s4 I4 qn)
 ·refine thn (T.item Y rfl rfl rfl hc i [] s3 σ0 H3 _ I3 (hfp H3 fr3) st3 go) λr s4 ⟨u,hr,h4⟩=>?_
  subst hr;refine wpAny_bind (thn h4 λ_ s5 ⟨x,H5,I5,r5,y5,st5,fr5⟩=>?_);have I5':Inv Y (ZBN fp s5.heap) σ0 H5 s5:=by
   have q:=I5.pinned (hfp H5 fr5) (T.obj _ _ st5)
   rwa [nil_append] at q
  have again:∀{σ7:St} {H7:Hp} {acc7:List V} {s7:Shared},Inv Y (ZBN fp s5.heap) σ7 H7 s7->Wk σ0 σ7->N acc7 H7->∃m,m<n/\∃i H' acc,Inv Y [] σ0 H' s7/\tn i s7.heap/\(∀b∈fp,H' b=none)/\W i m acc H':=λ{σ7 H7 acc7 s7} I7 wk n7=>by
   obtain⟨m',hm,w7⟩:=hN acc7 H7 n7;have I8:Inv Y [] σ0 H7 s7:=(I7.weak wk.1 wk.2).pins_of λp hp=>nomatch hp
   refine⟨m',hm,i+1,H7,acc7,I8,T.keep _ _ _ st5 λb hb o e=>(I7.pin (b,o) (mem_append_right _ (ZAh hb e))).1,λb hb=>?_,w7⟩;obtain⟨o,e,d⟩:=T.obj _ _ st5 b hb;exact(I7.pin (b,o) (mem_append_right _ (ZAh hb e))).2.1
  refine wpAny_bind (wpAny_mono (hg _ s5 σ0 H5 x u _ I5' r5 (step x H5 y5)) (λ_ s6 ⟨σ6,H6,I6,wk,q6⟩=>?_) λ_ _ z=>(hxe _ _ z).elim);refine wpAny_bind (wpAny_mono (ht _ s6 σ6 H6 _ I6 q6) (λok s7 ⟨H7,I7,q7⟩=>?_) λ_ _ z=>(hxe _ _ z).elim);cases ok with
  |false=>exact wpAny_pure ⟨rfl,again I7 wk q7⟩
  |true =>
   refine wpAny_bind (wpAny_bind (wpAny_mono (he _ s7 σ6 H7 _ I7 q7) (λy s8 ⟨v,H8,I8,r8,hD,hz,q8⟩=>?_) λ_ _ z=>(hxe _ _ z).elim));refine wpAny_bind (wpAny_mono (ZEi _ s8 σ6 H8 (.ref D) [v] (.ref D) [y] (λ_ H9=>N (acc++[v]) H9) I8 rfl (.cons r8 .nil) ⟨D,acc,v,rfl,rfl,hD,hz,q8⟩) (λ_ s9 ⟨_,H9,I9,_,q9⟩=>?_) λ_ _ z=>(hxe _ _ z).elim);exact wpAny_pure (wpAny_pure ⟨rfl,again I9 wk q9⟩)
def ZCM(sc scope:Scope)(NX N:List Str)(own:Nat)(cap:List Nat):Bool :=
 (scope.kind == .function) && scope.names.all (λy=>y.2 != .cell && (y.2 != .local || scope.names.lookup y.1 == some .local) && (y.2 != .free || sc.names.lookup y.1 == some .cell || sc.names.lookup y.1 == some .free)) &&
 (N.length == own+cap.length) && ((N.drop own).zip cap).all (λp=>NX[p.2]? == some p.1 && scope.names.lookup p.1 == some .free && (sc.names.lookup p.1 == some .cell || sc.names.lookup p.1 == some .free))
structure CapOk (sc scope:Scope) (NX N:List Str) (own:Nat) (cap:List Nat):Prop where
 kind:scope.kind=.function
 nocell:∀y∈scope.names,y.2≠.cell
 names:∀y∈scope.names,y.2=.local->scope.names.lookup y.1=some .local
 free:∀y∈scope.names,y.2=.free->sc.names.lookup y.1=some .cell∨sc.names.lookup y.1=some .free
 len:N.length=own+cap.length
 caps:∀p∈(N.drop own).zip cap,NX[p.2]? = some p.1/\scope.names.lookup p.1=some .free/\(sc.names.lookup p.1=some .cell∨sc.names.lookup p.1=some .free)
theorem ZDI{sc scope:Scope}{NX N:List Str}{own:Nat}{cap:List Nat}(h:ZCM sc scope NX N own cap=true):CapOk sc scope NX N own cap:=by
 unfold ZCM at h;simp only[Bool.and_eq_true,all_eq_true,Bool.or_eq_true,beq_iff_eq,bne_iff_ne,ne_eq] at h;obtain⟨⟨⟨h1,h2⟩,h3⟩,h4⟩:=h;refine⟨h1,λy hy=>(h2 y hy).1.1,λy hy e=>?_,λy hy e=>?_,h3,λp hp=>?_⟩
 ·rcases(h2 y hy).1.2 with z|z
  ·exact absurd e z
  ·exact z
 ·rcases(h2 y hy).2 with (z|z)|z
  ·exact absurd e z
  ·exact .inl z
  ·exact .inr z
 ·obtain⟨⟨a,b⟩,c⟩:=h4 p hp
  exact⟨a,b,c⟩
def ZCC(own:Nat)(cap:List Nat)(σ : St):St:=List.replicate own none++cap.map λj=>(σ[j]?).join
theorem ZAp{env:Env}:∀{names:List (Str×NameKind)} {x:Str} {k:NameKind},(names.map λ(n,k)=>if (k == NameKind.free && env.scope.kind == .function && env.kindOf n == some .cell) then (n,NameKind.cell) else (n,k)).lookup x=some k ->
  ∃k0,names.lookup x=some k0/\(k=k0∨(k0=.free/\k=.cell))
 |[],_,_,h=>by simp at h
 |(n,k0)::r,x,k,h=>by
  have h':List.lookup x ((if (k0 == NameKind.free && env.scope.kind == .function && env.kindOf n == some .cell)=true then (n,NameKind.cell) else (n,k0))::(r.map λ(n,k)=>if (k == NameKind.free && env.scope.kind == .function && env.kindOf n == some .cell) then (n,NameKind.cell) else (n,k)))=some k:=h;cases hx:x == n with
  |true =>
   by_cases hc:(k0 == NameKind.free && env.scope.kind == .function && env.kindOf n == some .cell)=true
   ·rw[if_pos hc,lookup_cons,hx] at h'
    cases h';rw[Bool.and_eq_true,Bool.and_eq_true] at hc;exact⟨k0,by rw[lookup_cons,hx],.inr ⟨by simpa using hc.1.1,rfl⟩⟩
   ·rw[if_neg hc,lookup_cons,hx] at h'
    cases h';exact⟨k0,by rw[lookup_cons,hx],.inl rfl⟩
  |false =>
   have h2:(r.map λ(n,k)=>if (k == NameKind.free && env.scope.kind == .function && env.kindOf n == some .cell) then (n,NameKind.cell) else (n,k)).lookup x=some k:=by
    by_cases hc:(k0 == NameKind.free && env.scope.kind == .function && env.kindOf n == some .cell)=true
    ·rw[if_pos hc,lookup_cons,hx] at h';exact h'
    ·rw[if_neg hc,lookup_cons,hx] at h';exact h'
   obtain⟨k1,e1,r1⟩:=ZAp h2;exact⟨k1,by rw[lookup_cons,hx];exact e1,r1⟩
theorem Z6{env:Env}:∀{names:List (Str×NameKind)} {x:Str},names.lookup x=some .free ->
  (names.map λ(n,k)=>if (k == NameKind.free && env.scope.kind == .function && env.kindOf n == some .cell) then (n,NameKind.cell) else (n,k)).lookup x=some .cell∨(names.map λ(n,k)=>if (k == NameKind.free && env.scope.kind == .function && env.kindOf n == some .cell) then (n,NameKind.cell) else (n,k)).lookup x=some .free
 |[],_,h=>by simp at h
 |(n,k0)::r,x,h=>by
  show List.lookup x ((if (k0 == NameKind.free && env.scope.kind == .function && env.kindOf n == some .cell)=true then (n,NameKind.cell) else (n,k0))::_)=_∨List.lookup x ((if (k0 == NameKind.free && env.scope.kind == .function && env.kindOf n == some .cell)=true then (n,NameKind.cell) else (n,k0))::_)=_;rw[lookup_cons] at h;cases hx:x == n with
  |true =>
   rw[hx] at h;cases h
   by_cases hc:(NameKind.free == NameKind.free && env.scope.kind == .function && env.kindOf n == some .cell)=true
   ·rw[if_pos hc,lookup_cons,hx];exact .inl rfl
   ·rw[if_neg hc,lookup_cons,hx];exact .inr rfl
  |false =>
   rw[hx] at h;have ih:=Z6 (env:=env) h
   by_cases hc:(k0 == NameKind.free && env.scope.kind == .function && env.kindOf n == some .cell)=true
   ·rw[if_pos hc,lookup_cons,hx];exact ih
   ·rw[if_neg hc,lookup_cons,hx];exact ih
def ZFq(own:Nat)(cap:List Nat)(wi:TI)(g:TG)(tt:TT)(te:TE):TE:=λσ H Q=>wi σ H λJ H1=>∀D,H1 D=none->ZD6 J g tt te (ZCC own cap σ) D Q (upd H1 D (.lst []))
section
variable{X:Cx}{tg elt iter:Expr}{ifs:List Expr}{scope sc:Scope}{pos:Pos}{wi:TI}{g:TG}{tt:TT}{te:TE}{N NX:List Str}{own:Nat}{cap:List Nat}
theorem ZB7{pins:List (Addr×Obj)}{σ : St}{s2:Shared}{itv:Value}{Q:VK}{E:Value->Shared->Prop}{R:Value->Addr->Result->Shared->Prop}{cl:List (Str×Addr)}(hc:X.calm=true)(hsc:X.env.scope=sc)(hNX:X.N=NX)(co:CapOk sc scope NX N own cap)
  (hsub:∀x c,cl.lookup x=some c->X.env.cells.lookup x=some c)(hall:∀x,(x,NameKind.free)∈scope.names->(cl.lookup x).isSome=true)
  (hb:∀cl C s0 H0 fp,PG (blk X N (compEnvC scope cl C X.env) s0 H0 fp) tg g/\PTs (blk X N (compEnvC scope cl C X.env) s0 H0 fp) ifs tt/\PE (blk X N (compEnvC scope cl C X.env) s0 H0 fp) elt te)
  (h2:PIE X pins σ tg (λJ H1=>∀D,H1 D=none->ZD6 J g tt te (ZCC own cap σ) D Q (upd H1 D (.lst []))) itv s2)
  (hR:∀D C H' s',ZBd X pins H' C->(∃m,s'.heap.Ns C m)->(∀h',Heap.SameBut C s'.heap h'->Inv X pins σ H' { s' with heap:=h' })->Q (.ref D) H'->R (.ref D) C (.ok .next) s') :
  wpAny (model X.prog X.w) X.A (newList []) (λ acc s3=>wpAny (model X.prog X.w) X.A (newFunctionEnv scope X.env.globals cl [] X.env.qual none .none (some X.env)) (λ cenv s4 =>
   codeAny (model X.prog X.w) X.A (.compStart (.ListComp elt [⟨tg,iter,ifs,0⟩] scope pos) 0 itv acc { cenv with scope:=relabel scope X.env }) (R acc cenv.locals) s4) E s3) E s2:=by
 obtain⟨it,fp,tn,J,H2,rfl,I2,T,st2,f2,hloop⟩:=h2;refine wpAny_newObj_type (wpAny_newFunctionEnv co.nocell (by intro y hy;simp at hy) (λh1 hns hsb=>?_) co.kind);have fD:H2 s2.heap.objs.size=none:=I2.hok.fresh (le_refl _);have I3:Inv X pins σ (upd H2 s2.heap.objs.size (.lst [])) { s2 with heap:=s2.heap.push { cls:=.type "list",data:=.seq ([]:List Value).toArray } }:=I2.laid (t':=s2.toks) (λb u e=>get?_push_of_some _ e) (le_refl _) ⟨zero_le _,[],0,.nil,get?_push_size _ rfl⟩;have hq:=hloop s2.heap.objs.size fD
 generalize hHD:s2.heap.objs.size=D at *
 generalize hs3:s2.heap.push { cls:=.type "list",data:=.seq ([]:List Value).toArray }=h3 at *
 dsimp only at hns hsb ⊢;have hsz:h3.objs.size=D+1:=by rw[←hs3,size_push,hHD]
 have ob2:∀b∈fp,∃o,s2.heap.get? b=some o:=λb hb'=>let ⟨o,e,_⟩:=T.obj _ _ st2 b hb';⟨o,e⟩
 have k23:∀b o,s2.heap.get? b=some o->h3.get? b=some o:=λb o e=>by rw[←hs3];exact get?_push_of_some _ e
 have k34:∀b o,h3.get? b=some o->h1.get? b=some o:=λb o e=>(hsb.2 b (ne_of_lt (lt_size e))).trans (get?_push_of_some _ e)
 have f3:∀b∈fp,ZBd X pins (upd H2 D (.lst [])) b:=λb hb'=>by
  obtain⟨o,e⟩:=ob2 b hb';exact⟨by rw[ZC (ne_of_lt (by rw[←hHD];exact lt_size e))];exact(f2 b hb').1,(f2 b hb').2⟩
 have ob3:∀b∈fp,∃o,h3.get? b=some o:=λb hb'=>let ⟨o,e⟩:=ob2 b hb';⟨o,k23 b o e⟩
 have hhas:∀x,((compEnvC scope cl h3.objs.size X.env).kindOf x=some .cell∨(compEnvC scope cl h3.objs.size X.env).kindOf x=some .free)->∃c,(compEnvC scope cl h3.objs.size X.env).cells.lookup x=some c:=λx hx=>by
  have q:∃k,(k=NameKind.cell∨k=NameKind.free)/\(relabel scope X.env).names.lookup x=some k:=by
   rcases hx with z|z
   ·exact⟨_,.inl rfl,z⟩
   ·exact⟨_,.inr rfl,z⟩
  obtain⟨k,hk,e⟩:=q;obtain⟨k0,e0,r0⟩:=ZAp e;have hm:=PySem.mem_of_lookup e0;have hf0:k0=.free:=by
   rcases r0 with z|z
   ·rcases hk with y|y
    ·exact absurd (z.symm.trans y) (co.nocell _ hm)
    ·exact z.symm.trans y
   ·exact z.1
  subst hf0;have:=hall x hm;exact Option.isSome_iff_exists.mp this
 have hcap:∀(i:Nat) (x:Str) (v:V),N[i]? = some x->(ZCC own cap σ)[i]? = some (some v)->((compEnvC scope cl h3.objs.size X.env).kindOf x=some .cell∨(compEnvC scope cl h3.objs.size X.env).kindOf x=some .free)/\X.env.kindOf x≠some .local/\Vis X.env.scope x/\∃j:Nat,X.N[j]? = some x/\σ[j]? = some (some v):=λi x v e1 e2=>by
  unfold ZCC at e2
  by_cases hi:i<own
  ·rw[getElem?_append_left (by simpa using hi),getElem?_replicate] at e2
   split at e2 <;> cases e2
  ·rw[getElem?_append_right (by simpa using hi),length_replicate,getElem?_map] at e2
   cases ej:cap[i-own]? with
   |none=>rw[ej] at e2;cases e2
   |some j =>
    rw[ej] at e2;have e3:(σ[j]?).join=some v:=Option.some.inj e2;have hd:(N.drop own)[i-own]? = some x:=by rw[List.getElem?_drop,show own+(i-own)=i by omega];exact e1
    have hz:(x,j)∈(N.drop own).zip cap:=mem_of_getElem? (i:=i-own) (by rw[List.getElem?_zip_eq_some];exact⟨hd,ej⟩);obtain⟨c1,c2,c3⟩:=co.caps (x,j) hz;have c3':X.env.kindOf x=some .cell∨X.env.kindOf x=some .free:=by unfold Env.kindOf;rw[hsc];exact c3
    refine⟨Z6 c2,λz=>?_,?_,j,by rw[hNX];exact c1,?_⟩
    ·rcases c3' with y|y <;> (rw[y] at z;cases z)
    ·rcases c3' with y|y
     ·exact .inr (.inl y)
     ·exact .inr (.inr y)
    ·cases es : σ[j]? with
     |none=>rw[es] at e3;cases e3
     |some w=>rw[es] at e3;exact congrArg some e3
 have I4:Inv (blk X N (compEnvC scope cl h3.objs.size X.env) { s2 with heap:=h3 } (upd H2 D (.lst [])) fp) [] (ZCC own cap σ) (upd H2 D (.lst [])) { s2 with heap:=h1,toks:=s2.toks+([]:List (Str×Value)).length } :=
  ZGj I3 f3 ob3 (le_refl _) co.kind rfl rfl hsub hhas k34 hns (by unfold ZCC;rw[length_append,length_replicate,length_map,co.len]) hcap
 obtain⟨hg,ht,he⟩:=hb cl h3.objs.size { s2 with heap:=h3 } (upd H2 D (.lst [])) fp;have loop:codeAny (model X.prog X.w) X.A (.compLoop (.ListComp elt [⟨tg,iter,ifs,0⟩] scope pos) 0 (.ref it) (.ref D) (compEnvC scope cl h3.objs.size X.env)) (R (.ref D) h3.objs.size) { s2 with heap:=h1,toks:=s2.toks+([]:List (Str×Value)).length }:=by
  refine ZE0 (Y:=blk X N (compEnvC scope cl h3.objs.size X.env) { s2 with heap:=h3 } (upd H2 D (.lst [])) fp) (Q:=Q) hc T (λH0 fr b hb'=>?_) hg ht he (λ_ _ z=>z) (λH' s' J' q=>?_) I4 (T.keep _ _ _ st2 λb _ o e=>k34 b o (k23 b o e)) (λb hb'=>(f3 b hb').1) hq
  ·obtain⟨o,e⟩:=ob3 b hb'
   exact⟨fr b hb',ne_of_lt (lt_size e),λz=>(List.mem_cons.mp (I3.stkSub b z)).elim (f3 b hb').2.1 (f3 b hb').2.2.1,.inl hb',λx c ec=>(f3 b hb').2.2.2.2.1 x c (hsub x c ec),λp hp=>nomatch hp⟩
  ·exact hR D h3.objs.size H' s' (I3.fpOk (le_refl _) J'.free) (let ⟨m,hm,_⟩:=J'.loc;⟨m,hm⟩) (λh' sb=>ZHT (env:=compEnvC scope cl h3.objs.size X.env) I3 f3 (le_refl _) J' sb) q
 exact codeAny_compStart_list loop (T.self _ 0 _ _ _ (T.keep _ _ _ st2 λb _ o e=>k34 b o (k23 b o e)) loop)
theorem ZHb(hc:X.calm=true)(hi:PI X tg iter wi)(hsc:X.env.scope=sc)(hNX:X.N=NX)
  (hb:∀cl C s0 H0 fp,PG (blk X N (compEnvC scope cl C X.env) s0 H0 fp) tg g/\PTs (blk X N (compEnvC scope cl C X.env) s0 H0 fp) ifs tt/\PE (blk X N (compEnvC scope cl C X.env) s0 H0 fp) elt te)
  (co:ZCM sc scope NX N own cap=true)(hs:∀x,foldedSetIterable iter X.env x=pure x:=by intro _;rfl):PE X (.ListComp elt [⟨tg,iter,ifs,0⟩] scope pos) (ZFq own cap wi g tt te):=by
 intro pins s σ H Q I h;have co:=ZDI co;obtain⟨cl,hcl,hsub,hall⟩:=ZA3 (env:=X.env) (scope:=scope) λy hy e=>I.ok.has y.1 (by unfold Env.kindOf;rw[hsc];exact co.free y hy e)
 rw[eval_ListComp];refine wpAny_comprehension_free (use:=none) rfl hs hcl co.kind co.names (thn (hi pins s σ H _ I h) λv s1 h1=>thn h1 λitv s2 h2=>?_);refine ZB7 (Q:=Q) (R:=λacc C=>compPost (model X.prog X.w) X.A X.xe none (EP X pins σ Q) acc C) hc hsc hNX co hsub hall hb h2 λD C H' s' _ ⟨m,hm⟩ hi' q=>?_
 exact⟨m,hm,λh' sb=>⟨.ref D,H',hi' h' sb,rfl,q⟩⟩
theorem ZGd{i:Nat}{x:Str}{py spos:Pos}(hN:X.N.Nodup)(hi:X.N[i]? = some x)(hx:Loc X.env.scope x)(hc:X.calm=true)(hit:PI X tg iter wi)(hsc:X.env.scope=sc)(hNX:X.N=NX)
  (hb:∀cl C s0 H0 fp,PG (blk X N (compEnvC scope cl C X.env) s0 H0 fp) tg g/\PTs (blk X N (compEnvC scope cl C X.env) s0 H0 fp) ifs tt/\PE (blk X N (compEnvC scope cl C X.env) s0 H0 fp) elt te)
  (co:ZCM sc scope NX N own cap=true)(hsw:swapsWith (.ListComp elt [⟨tg,iter,ifs,0⟩] scope pos) (some (.Name x py)) spos.line X.env=pure true:=by rfl)(hs:∀x,foldedSetIterable iter X.env x=pure x:=by intro _;rfl)
  (hf:X.fn x=true∨X.env.scope.names.lookup x=some .local:=by first|exact .inl rfl|exact .inr rfl|assumption) :
  PS X (.Assign [.Name x py] (.ListComp elt [⟨tg,iter,ifs,0⟩] scope pos) spos) (ZIq (ZFq own cap wi g tt te) (ZDL i)):=by
 intro pins s σ H D I h;have co:=ZDI co;obtain⟨cl,hcl,hsub,hall⟩:=ZA3 (env:=X.env) (scope:=scope) λy hy e=>I.ok.has y.1 (by unfold Env.kindOf;rw[hsc];exact co.free y hy e)
 rw[exec_Assign_Name_used _ _ _ _ hsw];refine wpAny_bind (wpAny_standAt (wpAny_bind ?_));show wpAny (model X.prog X.w) X.A (comprehension (.ListComp elt [⟨tg,iter,ifs,0⟩] scope pos) scope X.env _ (newList []) false (eval iter X.env) (some (assign (.Name x py) X.env)) >>= λ_=>pure ()) _ _ s;refine wpAny_bind (thn (wpAny_comprehension_free (use:=some (assign (.Name x py) X.env)) (Q:=λ_ s'=>SP X pins D .next s') rfl hs hcl co.kind co.names (thn (hit pins s σ H _ I h) λv s1 h1=>thn h1 λitv s2 h2=>?_)) λ_ s' q=>wpAny_pure (wpAny_pure q));refine ZB7 (Q:=λv H1=>ZDL i v σ H1 D.nx) (R:=λacc C=>compPost (model X.prog X.w) X.A X.xe (some (assign (.Name x py) X.env)) (λ_ s'=>SP X pins D .next s') acc C) hc hsc hNX co hsub hall hb h2 λDa C H' s' fC ⟨m,hm⟩ hi' q=>?_
 have I1:Inv X pins σ H' s':=hi' s'.heap (Heap.SameBut.refl ..);show wpAny _ _ (assign (.Name x py) X.env (.ref Da)) _ _ s';refine wpAny_assign_Name (ZCj I1 hN hi hx (v:=.ref Da) rfl (λs3 I3 ⟨a,sb,ha⟩=>?_) hf);obtain⟨f0,f1,f2,f3,f4,f5⟩:=fC;have nC:C≠a:=by
  rcases ha with z|z
  ·rw[z];exact f1
  ·exact Ne.symm (f4 _ _ z)
 exact⟨m,hm.sameBut sb nC,λh' sb2=>⟨_,H',I3.turned (t':=s3.toks) (λb o hb' e=>(sb2.2 b hb').trans e) f0 f1 f3 f4 f5,q⟩⟩
end
section
variable{X:Cx}
theorem ZFt(hc:X.calm=true):ZQ X (.builtin "all") (λxs H Q=>∃(p:Addr) (bs:List Bool),xs=[.ref p]/\SqL X.K H p (bs.map V.bl)/\Q (.bl (bs.all id)) H):=by
 intro pins s σ H xs us Q I r h;obtain⟨p,bs,rfl,hq,q⟩:=h;obtain⟨u,rfl,ru⟩:=ZBn r;cases ru;obtain⟨its,rv,pl,hz⟩:=I.list hq;have hlen:=rv.length;rw[length_map] at hlen;have hpl:p<s.heap.objs.size:=by
  obtain⟨o,n,e,_⟩:=pl;exact lt_size e
 refine call_all_walk (wpAny_pyIter_list pl.isList ⟨s.heap.objs.size,_,_,_,_,_,λi=>bs.getD i false,rfl,Walks.list (A:=X.A.in1) (show X.A.in1.handled=none from I.ok.hd hc) s.heap.objs.size p (ne_of_lt hpl) its.toArray,?_,?_,λh' tk k=>?_⟩)
 ·exact⟨⟨_,get?_push_size _ rfl,rfl,rfl⟩,pl.isList.at λo e=>get?_push_of_some _ e⟩
 ·intro i v s' Q' E' hv hQ
  have hv':its[i]? = some v:=by simpa using hv
  have hi:i<bs.length:=by rw[hlen];exact(List.getElem?_eq_some_iff.mp hv').1
  obtain⟨u,hu,ru⟩:=rv.get (i:=i) (x:=V.bl bs[i]) (by simp[hi]);rw[hv'] at hu;cases hu;cases ru;have e:bs.getD i false=bs[i]:=by simp[List.getD,hi]
  dsimp only at hQ;rw[e] at hQ;exact wpAny_truthy_bool hQ
 ·have e:((List.range its.toArray.size).all λi=>bs.getD i false)=bs.all id:=by
   rw[Bool.eq_iff_iff,all_eq_true,all_eq_true];constructor
   ·intro z b hb
    obtain⟨i,hi,rfl⟩:=List.mem_iff_getElem.mp hb;have:=z i (by simp[←hlen,hi]);simpa [List.getD,hi] using this
   ·intro z i hi
    have hi':i<bs.length:=by simpa [←hlen] using hi
    have:=z bs[i] (List.getElem_mem hi');simpa [List.getD,hi'] using this
  rw[e];exact⟨.bl (bs.all id),H,I.kept λb o q=>k b o (by simp;exact ne_of_lt (lt_size q)) (get?_push_of_some _ q),rfl,q⟩
end
end L2
namespace HI
open PySem PyProof.Rows
def ZN(h:Heap)(z TI TO:Addr)(f0 f1:Value):Prop:=h.get? z=some { cls:=.type "zip",data:=.fields #[f0,f1,.bool false,.ref TI,.ref TO] }
section
variable{prog:Program}{w:World}{A:Around}{E:Value->Shared->Prop}{s:Shared}{q qq:Bool}
theorem ZFd{z TI TO i1 i2 l1 l2:Addr}{k1 k2:Nat}{xs ys:Array Value}{x y a b f0 f1:Value}{Q:Value->Shared->Prop}(ap:ZipApart z TI TO i1 i2 l1 l2)(hz:ZN s.heap z TI TO f0 f1)(hfree:∀Q:Bool->Shared->Prop,Q true s->wpAny (model prog w) A (Builtin.SmallTypes.ownedTupleIsFree (.ref z)) Q E s)(hTI:IsPair s.heap TI (.ref i1) (.ref i2))(hTO:IsPair s.heap TO a b)
  (h1:ZD q s.heap i1 l1 k1)(h2:ZD qq s.heap i2 l2 k2)(hl1:IsSq q s.heap l1 xs)(hl2:IsSq qq s.heap l2 ys)(hx:xs[k1]? = some x)(hy:ys[k2]? = some y)
  (k:∀ h',ZN h' z TI TO (rawInt s.heap.objs.size) (.bool false)->IsPair h' TO x y->ZD q h' i1 l1 (k1+1)->ZD qq h' i2 l2 (k2+1)->IsPair h' s.heap.objs.size x y->h'.objs.size=s.heap.objs.size+1 ->
   (∀c o,c≠z->c≠TO->c≠i1->c≠i2->s.heap.get? c=some o->h'.get? c=some o)->Q (.ref s.heap.objs.size) { s with heap:=h' }) :
  wpAny (model prog w) A (Builtin.«zip.__next__» ⟨[.ref z],[]⟩) (λfin s'=>∃v,fin=.done (.ret v)/\Q v s') E s:=by
 unfold Builtin.«zip.__next__»;refine wpAny_bind (m:=slotArgs "__next__" 0 ⟨[.ref z],[]⟩) (wpAny_of_eq (a:=(Value.ref z,[])) (by rfl) ?_);refine wpAny_bind (m:=field (.ref z) 2) (wpAny_field hz rfl (x:=.bool false) rfl ?_);refine wpAny_bind (m:=field (.ref z) 3) (wpAny_field hz rfl (x:=.ref TI) rfl ?_);refine wpAny_bind (m:=seqItems? (.ref TI)) (wpAny_seqItems hTI rfl ?_);dsimp only;rw[if_neg (by intro z;cases z)];refine wpAny_bind (m:=Builtin.SmallTypes.ownedTupleIsFree (.ref z)) (hfree _ ?_);rw[if_pos rfl];refine wpAny_bind (wpAny_rule ?_);refine wpAny_bind (m:=field (.ref z) 4) (wpAny_field hz rfl (x:=.ref TO) rfl ?_);dsimp only;refine wpAny_bind (wpAny_setField hz rfl (by simp) ?_);have nz:=ap;obtain⟨TIz,TOz,i1z,i2z,TITO,TIi1,TIi2,TOi1,TOi2,i12,l1z,l1TO,l1i1,l1i2,l2z,l2TO,l2i1,l2i2⟩:=nz;have sA:=Heap.SameBut.update (h:=s.heap) z (Obj.mapFields λ(x:Array Value)=>x.setIfInBounds 0 Value.ellipsis);have zA:ZN (s.heap.update z (Obj.mapFields λ(x:Array Value)=>x.setIfInBounds 0 Value.ellipsis)) z TI TO .ellipsis f1:=get?_update_self _ hz rfl
 generalize hHA:s.heap.update z (Obj.mapFields λ(x:Array Value)=>x.setIfInBounds 0 Value.ellipsis)=HA at *
 refine wpAny_bind ?_;show wpAny _ _ (forIn [(Value.ref i1,0),(Value.ref i2,1)] _ _) _ _ _;simp only[forIn_cons,forIn_nil];refine wpAny_bind (wpAny_bind (wpAny_onRaise ?_));show wpAny _ _ (Builtin.SmallTypes.nextOf (.ref i1) >>= λv=>pure (some v)) _ _ _;have h1A:ZD q HA i1 l1 k1:=let ⟨o,e,r⟩:=h1;⟨o,(sA.2 i1 i1z).trans e,r⟩
 have h2A:ZD qq HA i2 l2 k2:=let ⟨o,e,r⟩:=h2;⟨o,(sA.2 i2 i2z).trans e,r⟩
 have hl1A:IsSq q HA l1 xs:=let ⟨o,e,r⟩:=hl1;⟨o,(sA.2 l1 l1z).trans e,r⟩
 have hl2A:IsSq qq HA l2 ys:=let ⟨o,e,r⟩:=hl2;⟨o,(sA.2 l2 l2z).trans e,r⟩
 have hTOA:IsPair HA TO a b:=(sA.2 TO TOz).trans hTO;refine wpAny_bind (Z5 (s:={ s with heap:=HA }) h1A hl1A hx λHB h1B sB=>wpAny_pure ?_);dsimp only at sB ⊢;have h2B:ZD qq HB i2 l2 k2:=let ⟨o,e,r⟩:=h2A;⟨o,(sB.2 i2 (Ne.symm i12)).trans e,r⟩
 have hl2B:IsSq qq HB l2 ys:=let ⟨o,e,r⟩:=hl2A;⟨o,(sB.2 l2 l2i1).trans e,r⟩
 have hTOB:IsPair HB TO a b:=(sB.2 TO TOi1).trans hTOA;have zB:ZN HB z TI TO .ellipsis f1:=(sB.2 z (Ne.symm i1z)).trans zA;refine wpAny_bind (m:=seqItems? (.ref TO)) (wpAny_seqItems hTOB rfl ?_);dsimp only;refine wpAny_bind (wpAny_updateSeq hTOB rfl ?_ (by show 2<=sizeLine;decide) (by show 2<=_;decide));have sC:=Heap.SameBut.update (h:=HB) TO (Obj.mapSeq λ(x_2:Array Value)=>x_2.setIfInBounds 0 x);have hTOC:IsPair (HB.update TO (Obj.mapSeq λ(x_2:Array Value)=>x_2.setIfInBounds 0 x)) TO x b:=get?_update_self _ hTOB rfl
 generalize HB.update TO (Obj.mapSeq λ(x_2:Array Value)=>x_2.setIfInBounds 0 x)=HC at *
 refine wpAny_bind (wpAny_letGo (wpAny_pure ?_));dsimp only;have h1C:ZD q HC i1 l1 (k1+1):=let ⟨o,e,r⟩:=h1B;⟨o,(sC.2 i1 (Ne.symm TOi1)).trans e,r⟩
 have h2C:ZD qq HC i2 l2 k2:=let ⟨o,e,r⟩:=h2B;⟨o,(sC.2 i2 (Ne.symm TOi2)).trans e,r⟩
 have hl2C:IsSq qq HC l2 ys:=let ⟨o,e,r⟩:=hl2B;⟨o,(sC.2 l2 l2TO).trans e,r⟩
 have zC:ZN HC z TI TO .ellipsis f1:=(sC.2 z (Ne.symm TOz)).trans zB;refine wpAny_bind (wpAny_bind (wpAny_onRaise ?_));show wpAny _ _ (Builtin.SmallTypes.nextOf (.ref i2) >>= λv=>pure (some v)) _ _ _;refine wpAny_bind (Z5 (s:={ s with heap:=HC }) h2C hl2C hy λHD h2D sD=>wpAny_pure ?_);dsimp only at sD ⊢;have h1D:ZD q HD i1 l1 (k1+1):=let ⟨o,e,r⟩:=h1C;⟨o,(sD.2 i1 i12).trans e,r⟩
 have hTOD:IsPair HD TO x b:=(sD.2 TO TOi2).trans hTOC;have zD:ZN HD z TI TO .ellipsis f1:=(sD.2 z (Ne.symm i2z)).trans zC;refine wpAny_bind (m:=seqItems? (.ref TO)) (wpAny_seqItems hTOD rfl ?_);dsimp only;refine wpAny_bind (wpAny_updateSeq hTOD rfl ?_ (by show 2<=sizeLine;decide) (by show 2<=_;decide));have sE:=Heap.SameBut.update (h:=HD) TO (Obj.mapSeq λ(x_2:Array Value)=>x_2.setIfInBounds 1 y);have hTOE:IsPair (HD.update TO (Obj.mapSeq λ(x_2:Array Value)=>x_2.setIfInBounds 1 y)) TO x y:=get?_update_self _ hTOD rfl
 generalize HD.update TO (Obj.mapSeq λ(x_2:Array Value)=>x_2.setIfInBounds 1 y)=HE at *
 refine wpAny_bind (wpAny_letGo (wpAny_pure (wpAny_pure ?_)));dsimp only;have h1E:ZD q HE i1 l1 (k1+1):=let ⟨o,e,r⟩:=h1D;⟨o,(sE.2 i1 (Ne.symm TOi1)).trans e,r⟩
 have h2E:ZD qq HE i2 l2 (k2+1):=let ⟨o,e,r⟩:=h2D;⟨o,(sE.2 i2 (Ne.symm TOi2)).trans e,r⟩
 have zE:ZN HE z TI TO .ellipsis f1:=(sE.2 z (Ne.symm TOz)).trans zD;have hsz:HE.objs.size=s.heap.objs.size:=by rw[sE.1,sD.1,sC.1,sB.1,sA.1]
 have kE:∀c o,c≠z->c≠TO->c≠i1->c≠i2->s.heap.get? c=some o->HE.get? c=some o:=λc o n1 n2 n3 n4 e=>by
  rw[sE.2 c n2,sD.2 c n4,sC.2 c n2,sB.2 c n3,sA.2 c n1];exact e
 refine wpAny_bind (m:=seqItems? (.ref TO)) (wpAny_seqItems hTOE rfl ?_);dsimp only;refine wpAny_bind (m:=newTuple [x,y]) (wpAny_newObj_type ?_ (by show 2<=sizeLine;decide));have hzs:z<HE.objs.size:=lt_size zE;have hF:IsPair (HE.push { cls:=.type "tuple",data:=.seq #[x,y] }) s.heap.objs.size x y:=by rw[←hsz];exact get?_push_size _ rfl
 have kF:∀c o,HE.get? c=some o->(HE.push { cls:=.type "tuple",data:=.seq #[x,y] }).get? c=some o:=λc o e=>get?_push_of_some _ e
 have szF:(HE.push { cls:=.type "tuple",data:=.seq #[x,y] }).objs.size=s.heap.objs.size+1:=by rw[size_push,hsz]
 have zF:=kF _ _ zE
 generalize hHF:HE.push { cls:=.type "tuple",data:=.seq #[x,y] }=HF at *
 dsimp only;rw[hsz];unfold Builtin.SmallTypes.ownedTupleHandOut;refine wpAny_bind (wpAny_bind (wpAny_setField zF rfl (by simp) ?_));have sG:=Heap.SameBut.update (h:=HF) z (Obj.mapFields λ(q:Array Value)=>q.setIfInBounds 0 (rawInt (s.heap.objs.size:Int)));have zG:ZN (HF.update z (Obj.mapFields λ(q:Array Value)=>q.setIfInBounds 0 (rawInt (s.heap.objs.size:Int)))) z TI TO (rawInt (s.heap.objs.size:Int)) f1:=get?_update_self _ zF rfl
 generalize HF.update z (Obj.mapFields λ(q:Array Value)=>q.setIfInBounds 0 (rawInt (s.heap.objs.size:Int)))=HG at *
 refine wpAny_setField zG rfl (by simp) ?_;have sH:=Heap.SameBut.update (h:=HG) z (Obj.mapFields λ(q:Array Value)=>q.setIfInBounds 1 (.bool false));have zH:ZN (HG.update z (Obj.mapFields λ(q:Array Value)=>q.setIfInBounds 1 (.bool false))) z TI TO (rawInt (s.heap.objs.size:Int)) (.bool false):=get?_update_self _ zG rfl
 generalize HG.update z (Obj.mapFields λ(q:Array Value)=>q.setIfInBounds 1 (.bool false))=HH at *
 have kH:∀c o,c≠z->HF.get? c=some o->HH.get? c=some o:=λc o n e=>by
  rw[sH.2 c n,sG.2 c n];exact e
 have zlt:z≠s.heap.objs.size:=ne_of_lt (by rw[←hsz];exact hzs);refine wpAny_pure ⟨_,rfl,k HH zH (kH _ _ TOz (kF _ _ hTOE)) ?_ ?_ (kH _ _ (Ne.symm zlt) hF) (by rw[sH.1,sG.1,szF]) λc o n1 n2 n3 n4 e=>kH c o n1 (kF c o (kE c o n1 n2 n3 n4 e))⟩
 ·obtain⟨o,e,r⟩:=h1E
  exact⟨o,kH _ _ i1z (kF _ _ e),r⟩
 ·obtain⟨o,e,r⟩:=h2E
  exact⟨o,kH _ _ i2z (kF _ _ e),r⟩
theorem ZH6{M:Model}{a:Addr}{Q:Option Obj->Shared->Prop}(h:Q (s.heap.get? a) s):wpAny M A (loadIfAlive a) Q E s:=λΓ p _=>by
 unfold loadIfAlive;rw[Sem.wp_loadIfAlive];exact h
theorem ZAw{z TI TO:Addr}{f1:Value}(hz:ZN s.heap z TI TO .none f1)(Q:Bool->Shared->Prop)(q:Q true s):wpAny (model prog w) A (Builtin.SmallTypes.ownedTupleIsFree (.ref z)) Q E s:=by
 unfold Builtin.SmallTypes.ownedTupleIsFree;exact wpAny_bind (m:=field (.ref z) 0) (wpAny_field hz rfl (x:=.none) rfl (wpAny_pure q))
theorem ZAv{z TI TO:Addr}{f1:Value}{T:Nat}(hz:ZN s.heap z TI TO (rawInt (T:Int)) f1)(hT:s.heap.get? T=none)(Q:Bool->Shared->Prop)(q:Q true s):wpAny (model prog w) A (Builtin.SmallTypes.ownedTupleIsFree (.ref z)) Q E s:=by
 unfold Builtin.SmallTypes.ownedTupleIsFree;refine wpAny_bind (m:=field (.ref z) 0) (wpAny_field hz rfl (x:=rawInt (T:Int)) rfl ?_);refine wpAny_bind (m:=loadIfAlive (T:Int).toNat) (ZH6 ?_);rw[toNat_natCast,hT];exact wpAny_pure q
theorem ZGp{z TI TO:Addr}{f1:Value}{T:Nat}{o:Obj}{Q:Bool->Shared->Prop}(hz:ZN s.heap z TI TO (rawInt (T:Int)) f1)(hT:s.heap.get? T=some o)
  (q:∀h' f1',ZN h' z TI TO (rawInt (T:Int)) f1'->Heap.SameBut z s.heap h'->Q false { s with heap:=h' }):wpAny (model prog w) A (Builtin.SmallTypes.ownedTupleIsFree (.ref z)) Q E s:=by
 unfold Builtin.SmallTypes.ownedTupleIsFree;refine wpAny_bind (m:=field (.ref z) 0) (wpAny_field hz rfl (x:=rawInt (T:Int)) rfl ?_);refine wpAny_bind (m:=loadIfAlive (T:Int).toNat) (ZH6 ?_);rw[toNat_natCast,hT];show wpAny _ _ (field (.ref z) 1 >>= _) _ _ _;refine wpAny_bind (m:=field (.ref z) 1) (wpAny_field hz rfl (x:=f1) rfl ?_)
 by_cases c:(f1 != Value.bool true)=true
 ·rw[if_pos c]
  refine wpAny_bind (wpAny_setField hz rfl (by simp) (wpAny_pure (q _ (.bool true) ?_ (Heap.SameBut.update ..))));exact get?_update_self _ hz rfl
 ·rw[if_neg c]
  exact wpAny_pure (q s.heap f1 hz (Heap.SameBut.refl ..))
theorem ZGC{z TI TO i1 i2 l1 l2:Addr}{k1 k2 T:Nat}{o:Obj}{xs ys:Array Value}{x y f1:Value}{Q:Value->Shared->Prop}(ap:ZipApart z TI TO i1 i2 l1 l2)(hz:ZN s.heap z TI TO (rawInt (T:Int)) f1)(hT:s.heap.get? T=some o)(hTI:IsPair s.heap TI (.ref i1) (.ref i2))
  (h1:ZD q s.heap i1 l1 k1)(h2:ZD qq s.heap i2 l2 k2)(hl1:IsSq q s.heap l1 xs)(hl2:IsSq qq s.heap l2 ys)(hx:xs[k1]? = some x)(hy:ys[k2]? = some y)
  (k:∀ h' f1',ZN h' z TI TO (rawInt (T:Int)) f1'->ZD q h' i1 l1 (k1+1)->ZD qq h' i2 l2 (k2+1)->IsPair h' s.heap.objs.size x y->h'.objs.size=s.heap.objs.size+1 ->
   (∀c o,c≠z->c≠i1->c≠i2->s.heap.get? c=some o->h'.get? c=some o)->Q (.ref s.heap.objs.size) { s with heap:=h' }) :
  wpAny (model prog w) A (Builtin.«zip.__next__» ⟨[.ref z],[]⟩) (λfin s'=>∃v,fin=.done (.ret v)/\Q v s') E s:=by
 unfold Builtin.«zip.__next__»;refine wpAny_bind (m:=slotArgs "__next__" 0 ⟨[.ref z],[]⟩) (wpAny_of_eq (a:=(Value.ref z,[])) (by rfl) ?_);refine wpAny_bind (m:=field (.ref z) 2) (wpAny_field hz rfl (x:=.bool false) rfl ?_);refine wpAny_bind (m:=field (.ref z) 3) (wpAny_field hz rfl (x:=.ref TI) rfl ?_);refine wpAny_bind (m:=seqItems? (.ref TI)) (wpAny_seqItems hTI rfl ?_);dsimp only;rw[if_neg (by intro z;cases z)];obtain⟨TIz,TOz,i1z,i2z,TITO,TIi1,TIi2,TOi1,TOi2,i12,l1z,l1TO,l1i1,l1i2,l2z,l2TO,l2i1,l2i2⟩:=ap;refine wpAny_bind (m:=Builtin.SmallTypes.ownedTupleIsFree (.ref z)) (ZGp hz hT λHA f1' zA sA=>?_);rw[if_neg (by intro z;cases z)];have h1A:ZD q HA i1 l1 k1:=let ⟨o,e,r⟩:=h1;⟨o,(sA.2 i1 i1z).trans e,r⟩
 have h2A:ZD qq HA i2 l2 k2:=let ⟨o,e,r⟩:=h2;⟨o,(sA.2 i2 i2z).trans e,r⟩
 have hl1A:IsSq q HA l1 xs:=let ⟨o,e,r⟩:=hl1;⟨o,(sA.2 l1 l1z).trans e,r⟩
 have hl2A:IsSq qq HA l2 ys:=let ⟨o,e,r⟩:=hl2;⟨o,(sA.2 l2 l2z).trans e,r⟩
 refine wpAny_bind ?_;rw[←Array.forIn_toList];show wpAny _ _ (forIn [Value.ref i1,Value.ref i2] _ _) _ _ _;simp only[forIn_cons,forIn_nil];refine wpAny_bind (wpAny_bind (wpAny_holding ?_));show wpAny _ _ (Builtin.SmallTypes.nextOf (.ref i1) >>= λv=>pure (some v)) _ _ _;refine wpAny_bind (Z5 (s:={ s with heap:=HA }) h1A hl1A hx λHB h1B sB=>wpAny_pure ?_);dsimp only at sB ⊢;have h2B:ZD qq HB i2 l2 k2:=let ⟨o,e,r⟩:=h2A;⟨o,(sB.2 i2 (Ne.symm i12)).trans e,r⟩
 have hl2B:IsSq qq HB l2 ys:=let ⟨o,e,r⟩:=hl2A;⟨o,(sB.2 l2 l2i1).trans e,r⟩
 have zB:ZN HB z TI TO (rawInt (T:Int)) f1':=(sB.2 z (Ne.symm i1z)).trans zA;refine wpAny_pure (wpAny_bind (wpAny_bind (wpAny_holding ?_)));show wpAny _ _ (Builtin.SmallTypes.nextOf (.ref i2) >>= λv=>pure (some v)) _ _ _;refine wpAny_bind (Z5 (s:={ s with heap:=HB }) h2B hl2B hy λHC h2C sC=>wpAny_pure ?_);dsimp only at sC ⊢;have h1C:ZD q HC i1 l1 (k1+1):=let ⟨o,e,r⟩:=h1B;⟨o,(sC.2 i1 i12).trans e,r⟩
 have zC:ZN HC z TI TO (rawInt (T:Int)) f1':=(sC.2 z (Ne.symm i2z)).trans zB;refine wpAny_pure (wpAny_pure ?_);dsimp only;have hsz:HC.objs.size=s.heap.objs.size:=by rw[sC.1,sB.1,sA.1]
 have kC:∀c o,c≠z->c≠i1->c≠i2->s.heap.get? c=some o->HC.get? c=some o:=λc o n1 n3 n4 e=>by
  rw[sC.2 c n4,sB.2 c n3,sA.2 c n1];exact e
 refine wpAny_bind (m:=newTuple [x,y]) (wpAny_newObj_type ?_ (by show 2<=sizeLine;decide));have hF:IsPair (HC.push { cls:=.type "tuple",data:=.seq #[x,y] }) s.heap.objs.size x y:=by rw[←hsz];exact get?_push_size _ rfl
 have kF:∀c o,HC.get? c=some o->(HC.push { cls:=.type "tuple",data:=.seq #[x,y] }).get? c=some o:=λc o e=>get?_push_of_some _ e
 have szF:(HC.push { cls:=.type "tuple",data:=.seq #[x,y] }).objs.size=s.heap.objs.size+1:=by rw[size_push,hsz]
 have zF:=kF _ _ zC;refine wpAny_pure ⟨_,rfl,?_⟩;dsimp only;rw[hsz];refine k _ f1' zF ?_ ?_ hF szF λc o n1 n3 n4 e=>kF c o (kC c o n1 n3 n4 e)
 ·obtain⟨o,e,r⟩:=h1C
  exact⟨o,kF _ _ e,r⟩
 ·obtain⟨o,e,r⟩:=h2C
  exact⟨o,kF _ _ e,r⟩
theorem ZD5{z TI TO i1 i2 l1 l2:Addr}{k1 k2:Nat}{xs ys:Array Value}{a b f0 f1:Value}{Q:PySem.Fin->Shared->Prop}(hh:A.handled=none)(ap:ZipApart z TI TO i1 i2 l1 l2)(hz:ZN s.heap z TI TO f0 f1)(hfree:∀Q:Bool->Shared->Prop,Q true s->wpAny (model prog w) A (Builtin.SmallTypes.ownedTupleIsFree (.ref z)) Q E s)(hTI:IsPair s.heap TI (.ref i1) (.ref i2))(hTO:IsPair s.heap TO a b)
  (h1:ZD q s.heap i1 l1 k1)(h2:ZD qq s.heap i2 l2 k2)(hl1:IsSq q s.heap l1 xs)(hl2:IsSq qq s.heap l2 ys)(hx:xs[k1]? = none∨ys[k2]? = none)
  (k:∀h' e,(∀c o,c≠z->c≠TO->c≠i1->c≠i2->s.heap.get? c=some o->h'.get? c=some o)->(∃o,h'.get? e=some o/\o.cls=.type "StopIteration")->E (.ref e) { s with heap:=h' }) :
  wpAny (model prog w) A (Builtin.«zip.__next__» ⟨[.ref z],[]⟩) Q E s:=by
 unfold Builtin.«zip.__next__»;refine wpAny_bind (m:=slotArgs "__next__" 0 ⟨[.ref z],[]⟩) (wpAny_of_eq (a:=(Value.ref z,[])) (by rfl) ?_);refine wpAny_bind (m:=field (.ref z) 2) (wpAny_field hz rfl (x:=.bool false) rfl ?_);refine wpAny_bind (m:=field (.ref z) 3) (wpAny_field hz rfl (x:=.ref TI) rfl ?_);refine wpAny_bind (m:=seqItems? (.ref TI)) (wpAny_seqItems hTI rfl ?_);dsimp only;rw[if_neg (by intro z;cases z)];refine wpAny_bind (m:=Builtin.SmallTypes.ownedTupleIsFree (.ref z)) (hfree _ ?_);rw[if_pos rfl];refine wpAny_bind (wpAny_rule ?_);refine wpAny_bind (m:=field (.ref z) 4) (wpAny_field hz rfl (x:=.ref TO) rfl ?_);dsimp only;refine wpAny_bind (wpAny_setField hz rfl (by simp) ?_);obtain⟨TIz,TOz,i1z,i2z,TITO,TIi1,TIi2,TOi1,TOi2,i12,l1z,l1TO,l1i1,l1i2,l2z,l2TO,l2i1,l2i2⟩:=ap;have sA:=Heap.SameBut.update (h:=s.heap) z (Obj.mapFields λ(x:Array Value)=>x.setIfInBounds 0 Value.ellipsis);have zA:ZN (s.heap.update z (Obj.mapFields λ(x:Array Value)=>x.setIfInBounds 0 Value.ellipsis)) z TI TO .ellipsis f1:=get?_update_self _ hz rfl
 generalize hHA:s.heap.update z (Obj.mapFields λ(x:Array Value)=>x.setIfInBounds 0 Value.ellipsis)=HA at *
 refine wpAny_bind ?_;show wpAny _ _ (forIn [(Value.ref i1,0),(Value.ref i2,1)] _ _) _ _ _;simp only[forIn_cons,forIn_nil];refine wpAny_bind (wpAny_bind (wpAny_onRaise ?_));show wpAny _ _ (Builtin.SmallTypes.nextOf (.ref i1) >>= λv=>pure (some v)) _ _ _;have h1A:ZD q HA i1 l1 k1:=let ⟨o,e,r⟩:=h1;⟨o,(sA.2 i1 i1z).trans e,r⟩
 have h2A:ZD qq HA i2 l2 k2:=let ⟨o,e,r⟩:=h2;⟨o,(sA.2 i2 i2z).trans e,r⟩
 have hl1A:IsSq q HA l1 xs:=let ⟨o,e,r⟩:=hl1;⟨o,(sA.2 l1 l1z).trans e,r⟩
 have hl2A:IsSq qq HA l2 ys:=let ⟨o,e,r⟩:=hl2;⟨o,(sA.2 l2 l2z).trans e,r⟩
 have hTOA:IsPair HA TO a b:=(sA.2 TO TOz).trans hTO;have last:∀(h':Heap) (e:Addr) (g1:Value),ZN h' z TI TO .ellipsis g1->(∀c o,c≠z->c≠TO->c≠i1->c≠i2->s.heap.get? c=some o->h'.get? c=some o)->(∃o,h'.get? e=some o/\o.cls=.type "StopIteration") ->
   wpAny (model prog w) A (setField (.ref z) 0 Value.none) (λ_ s''=>E (.ref e) s'') E { s with heap:=h' }:=λh' e g1 hz' kp he=>by
  have se:=Heap.SameBut.update (h:=h') z (Obj.mapFields λ(x:Array Value)=>x.setIfInBounds 0 Value.none);refine wpAny_setField hz' rfl (by simp) (k _ e (λc o n1 n2 n3 n4 q=>(se.2 c n1).trans (kp c o n1 n2 n3 n4 q)) ?_);obtain⟨o,ho,hc⟩:=he;have nz:e≠z:=by
   intro q;rw[q,hz'] at ho;cases ho;have hc':Value.type "zip" = Value.type "StopIteration":=hc;exact absurd hc' (by decide)
  exact⟨o,(se.2 e nz).trans ho,hc⟩
 cases hxk:xs[k1]? with
 |none =>
  refine wpAny_bind (Zf (s:={ s with heap:=HA }) hh h1A hl1A hxk λh' e eb he=>?_);exact last h' e f1 (eb z _ (Ne.symm i1z) zA) (λc o n1 n2 n3 n4 q=>eb c o n3 ((sA.2 c n1).trans q)) he
 |some x =>
  have hyk:ys[k2]? = none:=by
   rcases hx with q|q
   ·rw[hxk] at q;cases q
   ·exact q
  refine wpAny_bind (Z5 (s:={ s with heap:=HA }) h1A hl1A hxk λHB h1B sB=>wpAny_pure ?_);dsimp only at sB ⊢;have h2B:ZD qq HB i2 l2 k2:=let ⟨o,e,r⟩:=h2A;⟨o,(sB.2 i2 (Ne.symm i12)).trans e,r⟩
  have hl2B:IsSq qq HB l2 ys:=let ⟨o,e,r⟩:=hl2A;⟨o,(sB.2 l2 l2i1).trans e,r⟩
  have hTOB:IsPair HB TO a b:=(sB.2 TO TOi1).trans hTOA;have zB:ZN HB z TI TO .ellipsis f1:=(sB.2 z (Ne.symm i1z)).trans zA;refine wpAny_bind (m:=seqItems? (.ref TO)) (wpAny_seqItems hTOB rfl ?_);dsimp only;refine wpAny_bind (wpAny_updateSeq hTOB rfl ?_ (by show 2<=sizeLine;decide) (by show 2<=_;decide));have sC:=Heap.SameBut.update (h:=HB) TO (Obj.mapSeq λ(x_2:Array Value)=>x_2.setIfInBounds 0 x)
  generalize HB.update TO (Obj.mapSeq λ(x_2:Array Value)=>x_2.setIfInBounds 0 x)=HC at *
  refine wpAny_bind (wpAny_letGo (wpAny_pure ?_));dsimp only;have h2C:ZD qq HC i2 l2 k2:=let ⟨o,e,r⟩:=h2B;⟨o,(sC.2 i2 (Ne.symm TOi2)).trans e,r⟩
  have hl2C:IsSq qq HC l2 ys:=let ⟨o,e,r⟩:=hl2B;⟨o,(sC.2 l2 l2TO).trans e,r⟩
  have zC:ZN HC z TI TO .ellipsis f1:=(sC.2 z (Ne.symm TOz)).trans zB;refine wpAny_bind (wpAny_bind (wpAny_onRaise ?_));show wpAny _ _ (Builtin.SmallTypes.nextOf (.ref i2) >>= λv=>pure (some v)) _ _ _;refine wpAny_bind (Zf (s:={ s with heap:=HC }) hh h2C hl2C hyk λh' e eb he=>?_);exact last h' e f1 (eb z _ (Ne.symm i2z) zC) (λc o n1 n2 n3 n4 q=>eb c o n4 ((sC.2 c n2).trans ((sB.2 c n3).trans ((sA.2 c n1).trans q)))) he
theorem ZGb{z TI TO i1 i2 l1 l2:Addr}{k1 k2 T:Nat}{o:Obj}{xs ys:Array Value}{f1:Value}{Q:PySem.Fin->Shared->Prop}(hh:A.handled=none)(ap:ZipApart z TI TO i1 i2 l1 l2)(hz:ZN s.heap z TI TO (rawInt (T:Int)) f1)(hT:s.heap.get? T=some o)(hTI:IsPair s.heap TI (.ref i1) (.ref i2))
  (h1:ZD q s.heap i1 l1 k1)(h2:ZD qq s.heap i2 l2 k2)(hl1:IsSq q s.heap l1 xs)(hl2:IsSq qq s.heap l2 ys)(hx:xs[k1]? = none∨ys[k2]? = none)
  (k:∀h' e,(∀c o,c≠z->c≠TO->c≠i1->c≠i2->s.heap.get? c=some o->h'.get? c=some o)->(∃o,h'.get? e=some o/\o.cls=.type "StopIteration")->E (.ref e) { s with heap:=h' }) :
  wpAny (model prog w) A (Builtin.«zip.__next__» ⟨[.ref z],[]⟩) Q E s:=by
 unfold Builtin.«zip.__next__»;refine wpAny_bind (m:=slotArgs "__next__" 0 ⟨[.ref z],[]⟩) (wpAny_of_eq (a:=(Value.ref z,[])) (by rfl) ?_);refine wpAny_bind (m:=field (.ref z) 2) (wpAny_field hz rfl (x:=.bool false) rfl ?_);refine wpAny_bind (m:=field (.ref z) 3) (wpAny_field hz rfl (x:=.ref TI) rfl ?_);refine wpAny_bind (m:=seqItems? (.ref TI)) (wpAny_seqItems hTI rfl ?_);dsimp only;rw[if_neg (by intro z;cases z)];obtain⟨TIz,TOz,i1z,i2z,TITO,TIi1,TIi2,TOi1,TOi2,i12,l1z,l1TO,l1i1,l1i2,l2z,l2TO,l2i1,l2i2⟩:=ap;refine wpAny_bind (m:=Builtin.SmallTypes.ownedTupleIsFree (.ref z)) (ZGp hz hT λHA f1' zA sA=>?_);rw[if_neg (by intro z;cases z)];have h1A:ZD q HA i1 l1 k1:=let ⟨o,e,r⟩:=h1;⟨o,(sA.2 i1 i1z).trans e,r⟩
 have h2A:ZD qq HA i2 l2 k2:=let ⟨o,e,r⟩:=h2;⟨o,(sA.2 i2 i2z).trans e,r⟩
 have hl1A:IsSq q HA l1 xs:=let ⟨o,e,r⟩:=hl1;⟨o,(sA.2 l1 l1z).trans e,r⟩
 have hl2A:IsSq qq HA l2 ys:=let ⟨o,e,r⟩:=hl2;⟨o,(sA.2 l2 l2z).trans e,r⟩
 refine wpAny_bind ?_;rw[←Array.forIn_toList];show wpAny _ _ (forIn [Value.ref i1,Value.ref i2] _ _) _ _ _;simp only[forIn_cons,forIn_nil];refine wpAny_bind (wpAny_bind (wpAny_holding ?_));show wpAny _ _ (Builtin.SmallTypes.nextOf (.ref i1) >>= λv=>pure (some v)) _ _ _;cases hxk:xs[k1]? with
 |none =>
  refine wpAny_bind (Zf (s:={ s with heap:=HA }) hh h1A hl1A hxk λh' e eb he=>?_);exact k h' e (λc o n1 n2 n3 n4 q=>eb c o n3 ((sA.2 c n1).trans q)) he
 |some x =>
  have hyk:ys[k2]? = none:=by
   rcases hx with q|q
   ·rw[hxk] at q;cases q
   ·exact q
  refine wpAny_bind (Z5 (s:={ s with heap:=HA }) h1A hl1A hxk λHB h1B sB=>wpAny_pure ?_);dsimp only at sB ⊢;have h2B:ZD qq HB i2 l2 k2:=let ⟨o,e,r⟩:=h2A;⟨o,(sB.2 i2 (Ne.symm i12)).trans e,r⟩
  have hl2B:IsSq qq HB l2 ys:=let ⟨o,e,r⟩:=hl2A;⟨o,(sB.2 l2 l2i1).trans e,r⟩
  refine wpAny_pure (wpAny_bind (wpAny_bind (wpAny_holding ?_)));show wpAny _ _ (Builtin.SmallTypes.nextOf (.ref i2) >>= λv=>pure (some v)) _ _ _;refine wpAny_bind (Zf (s:={ s with heap:=HB }) hh h2B hl2B hyk λh' e eb he=>?_);exact k h' e (λc o n1 n2 n3 n4 q=>eb c o n4 ((sB.2 c n3).trans ((sA.2 c n1).trans q))) he
structure ZipS (q qq:Bool) (h:Heap) (z TI TO i1 i2 l1 l2:Addr) (i:Nat):Prop where
 zo:∃f0 f1,ZN h z TI TO f0 f1/\(f0=.none∨∃T:Nat,f0=rawInt (T:Int))
 ti:IsPair h TI (.ref i1) (.ref i2)
 to:∃a b,IsPair h TO a b
 it1:ZD q h i1 l1 i
 it2:ZD qq h i2 l2 i
theorem nextZip{z TI TO i1 i2 l1 l2:Addr}{i:Nat}{xs ys:Array Value}{x y:Value}{Q:Option Value->Shared->Prop}(ap:ZipApart z TI TO i1 i2 l1 l2)(S:ZipS q qq s.heap z TI TO i1 i2 l1 l2 i)(hl1:IsSq q s.heap l1 xs)(hl2:IsSq qq s.heap l2 ys)(hx:xs[i]? = some x)(hy:ys[i]? = some y)
  (k:∀h',ZipS q qq h' z TI TO i1 i2 l1 l2 (i+1)->IsPair h' s.heap.objs.size x y->h'.objs.size=s.heap.objs.size+1->(∀c o,c≠z->c≠TO->c≠i1->c≠i2->s.heap.get? c=some o->h'.get? c=some o)->Q (some (.ref s.heap.objs.size)) { s with heap:=h' }) :
  wpAny (model prog w) A (pyNext (.ref z)) Q E s:=by
 obtain⟨⟨f0,f1,hz,hf⟩,hti,⟨a,b,hto⟩,h1,h2⟩:=S;have ty:s.TypeIs (.ref z) "zip":=⟨_,hz,rfl⟩;unfold pyNext;refine wpAny_bind (wpAny_attempt ?_);refine wpAny_callSpecial?_slot (name:=Str.ofString "__next__") ty F.slot_zip_next (wpAny_call_entry F.slot_zip_next ty F.entry_zip_next ?_ (F.args_zip_next_1 _));have own:∀(E':Value->Shared->Prop) (A':Around),(∀Q:Bool->Shared->Prop,Q true s->wpAny (model prog w) A' (Builtin.SmallTypes.ownedTupleIsFree (.ref z)) Q E' s)->wpAny (model prog w) A' (Builtin.«zip.__next__» ⟨[.ref z],[]⟩) (λfin s'=>∃v,fin=.done (.ret v)/\wpAny (model prog w) A (pure (some v)) Q E s') E' s:=λE' A' fr=>by
  refine ZFd ap hz fr hti hto h1 h2 hl1 hl2 hx hy λh' z' to' t1 t2 pr sz kp=>wpAny_pure (k h' ⟨⟨_,_,z',.inr ⟨_,rfl⟩⟩,kp _ _ ap.TIz ap.TITO ap.TIi1 ap.TIi2 hti,⟨_,_,to'⟩,t1,t2⟩ pr sz kp)
 rcases hf with rfl|⟨T,rfl⟩
 ·exact own _ _ λQ q=>ZAw hz Q q
 ·cases hT:s.heap.get? T with
  |none=>exact own _ _ λQ q=>ZAv hz hT Q q
  |some o =>
   refine ZGC ap hz hT hti h1 h2 hl1 hl2 hx hy λh' f1' z' t1 t2 pr sz kp=>wpAny_pure (k h' ⟨⟨_,_,z',.inr ⟨_,rfl⟩⟩,kp _ _ ap.TIz ap.TIi1 ap.TIi2 hti,⟨a,b,kp _ _ ap.TOz ap.TOi1 ap.TOi2 hto⟩,t1,t2⟩ pr sz λc o n1 n2 n3 n4 q=>kp c o n1 n3 n4 q)
theorem endZip{z TI TO i1 i2 l1 l2:Addr}{i:Nat}{xs ys:Array Value}{Q:Option Value->Shared->Prop}(hh:A.handled=none)(ap:ZipApart z TI TO i1 i2 l1 l2)(S:ZipS q qq s.heap z TI TO i1 i2 l1 l2 i)(hl1:IsSq q s.heap l1 xs)(hl2:IsSq qq s.heap l2 ys)(hx:xs[i]? = none∨ys[i]? = none)
  (k:∀h',(∀c o,c≠z->c≠TO->c≠i1->c≠i2->s.heap.get? c=some o->h'.get? c=some o)->Q none { s with heap:=h' }) :
  wpAny (model prog w) A (pyNext (.ref z)) Q E s:=by
 obtain⟨⟨f0,f1,hz,hf⟩,hti,⟨a,b,hto⟩,h1,h2⟩:=S;have ty:s.TypeIs (.ref z) "zip":=⟨_,hz,rfl⟩;unfold pyNext;refine wpAny_bind (wpAny_attempt ?_);refine wpAny_callSpecial?_slot (name:=Str.ofString "__next__") ty F.slot_zip_next (wpAny_call_entry F.slot_zip_next ty F.entry_zip_next ?_ (F.args_zip_next_1 _));have stop:∀(h':Heap) (e:Addr),(∀c o,c≠z->c≠TO->c≠i1->c≠i2->s.heap.get? c=some o->h'.get? c=some o)->(∃o,h'.get? e=some o/\o.cls=.type "StopIteration") ->
   wpAny (model prog w) A (isInstance (.ref e) (.type "StopIteration") >>= λd=>if d=true then pure none else throw (.ref e)) Q E { s with heap:=h' }:=λh' e kp he=>by
  obtain⟨o,ho,hc⟩:=he;refine wpAny_bind (wpAny_isInstance (T:="StopIteration") (b:=true) ⟨o,ho,hc⟩ rfl ?_);rw[if_pos rfl];exact wpAny_pure (k h' kp)
 rcases hf with rfl|⟨T,rfl⟩
 ·exact ZD5 hh ap hz (λQ q=>ZAw hz Q q) hti hto h1 h2 hl1 hl2 hx stop
 ·cases hT:s.heap.get? T with
  |none=>exact ZD5 hh ap hz (λQ q=>ZAv hz hT Q q) hti hto h1 h2 hl1 hl2 hx stop
  |some o=>exact ZGb hh ap hz hT hti h1 h2 hl1 hl2 hx stop
theorem letGoZip{tg:Expr}{z TI TO i1 i2 l1 l2 a:Addr}{i:Nat}{Q:Unit->Shared->Prop}(ap:ZipApart z TI TO i1 i2 l1 l2)(S:ZipS q qq s.heap z TI TO i1 i2 l1 l2 i)(k:∀h',ZipS q qq h' z TI TO i1 i2 l1 l2 i->Heap.SameBut z s.heap h'->Q () { s with heap:=h' }) :
    wpAny (model prog w) A (letOwnedTupleGo tg (.ref z) (.ref a)) Q E s:=by
  have S':=S;obtain ⟨⟨f0,f1,hz,hf⟩,hti,⟨b,c,hto⟩,h1,h2⟩:=S';have way:wpAny (model prog w) A (load z >>= λ o=>match o.cls,o.data with
        |Value.type n,Data.fields vs=>if (["enumerate","zip","dict_itemiterator","dict_reverseitemiterator","odict_iterator","itertools.zip_longest","itertools.pairwise"].contains n && vs[0]? == some (rawInt (a:Int)))=true then do
            rule "for.unpacks-the-owned-tuple"
            updateField z 0 Value.none
          else pure ()
        |_,_=>pure ()) Q E s:=by
    refine wpAny_bind (wpAny_load hz ?_);dsimp only
    split
    · refine wpAny_bind (wpAny_rule ?_)
      have sA:=Heap.SameBut.update (h:=s.heap) z (Obj.mapFields λ(x:Array Value)=>x.setIfInBounds 0 Value.none);have zA:ZN (s.heap.update z (Obj.mapFields λ(x:Array Value)=>x.setIfInBounds 0 Value.none)) z TI TO .none f1:=get?_update_self _ hz rfl;show wpAny _ _ (setField (.ref z) 0 Value.none) _ _ _;refine wpAny_setField hz rfl (by simp) (k _ ⟨⟨_,_,zA,.inl rfl⟩,(sA.2 _ ap.TIz).trans hti,⟨b,c,(sA.2 _ ap.TOz).trans hto⟩,?_,?_⟩ sA)
      · obtain⟨o,e,r⟩:=h1
        exact⟨o,(sA.2 _ ap.i1z).trans e,r⟩
      · obtain⟨o,e,r⟩:=h2
        exact⟨o,(sA.2 _ ap.i2z).trans e,r⟩
    · exact wpAny_pure (k _ S (Heap.SameBut.refl ..))
  cases tg with
  |Tuple=>exact way
  |List=>exact way
  |_=>exact wpAny_pure (k _ S (Heap.SameBut.refl ..))
theorem apart_new(n a b:Nat)(ha:a<n)(hb:b<n):ZipApart (n+4) (n+2) (n+3) n (n+1) a b:=by
 constructor <;> (intro q;have q':(_:Nat)=_:=q;omega)
theorem iterZip{z TI TO:Addr}{f0 f1:Value}{Q:Value->Shared->Prop}(hz:ZN s.heap z TI TO f0 f1)(q:Q (.ref z) s):wpAny (model prog w) A (pyIter (.ref z)) Q E s:=by
 have ty:s.TypeIs (.ref z) "zip":=⟨_,hz,rfl⟩;refine wpAny_pyIter_slot ty F.slot_zip_iter (wpAny_call_entry F.slot_zip_iter ty F.entry_zip_iter ?_ (F.args_zip_iter_1 _));unfold Builtin.«dict_keyiterator.__iter__»;refine wpAny_bind (m:=slotArgs "__iter__" 0 ⟨[.ref z],[]⟩) (wpAny_of_eq (a:=(Value.ref z,[])) (by rfl) ?_);exact wpAny_pure ⟨_,rfl,"zip",_,ty,F.slot_zip_next.lookup,q⟩
abbrev zT1(q:Bool)(h:Heap)(l1:Addr):Heap:=h.push { cls:=.type (nm q),data:=.fields #[.ref l1,.int 0 0] }
abbrev zT2(q qq:Bool)(h:Heap)(l1 l2:Addr):Heap:=(zT1 q h l1).push { cls:=.type (nm qq),data:=.fields #[.ref l2,.int 0 0] }
abbrev zT3(q qq:Bool)(h:Heap)(l1 l2:Addr):Heap:=(zT2 q qq h l1 l2).push { cls:=.type "tuple",data:=.seq #[.ref h.objs.size,.ref (zT1 q h l1).objs.size] }
abbrev zT4(q qq:Bool)(h:Heap)(l1 l2:Addr):Heap:=(zT3 q qq h l1 l2).push { cls:=.type "tuple",data:=.seq #[.none,.none] }
abbrev zT5(q qq:Bool)(h:Heap)(l1 l2:Addr):Heap:=(zT4 q qq h l1 l2).push { cls:=.type "zip",data:=.fields #[.none,.bool false,.bool false,.ref (zT2 q qq h l1 l2).objs.size,.ref (zT3 q qq h l1 l2).objs.size] }
theorem ZHh(q qq:Bool)(l1 l2:Addr)(xs ys:Array Value) :
  Meets (Builtin.«zip.__new__» ⟨[.type "zip",.ref l1,.ref l2],[]⟩) (λ_ R s=>IsSq q s.heap l1 xs/\IsSq qq s.heap l2 ys/\R (.ok (.ret (.ref (zT4 q qq s.heap l1 l2).objs.size))) { s with heap:=zT5 q qq s.heap l1 l2 }) :=
 .of_wp λprog w A R s h=>by
  obtain⟨hp,g,d,tk,os⟩:=s;obtain⟨hl1,hl2,h⟩:=h;have hsub:=sub_zip;have hT2:IsSq qq (zT1 q hp l1) l2 ys:=let ⟨o,e,r⟩:=hl2;⟨o,get?_push_of_some _ e,r⟩
  wp_walk using itG hl1,itG (s:=⟨zT1 q hp l1,g,d,tk,os⟩) hT2
  exact⟨_,rfl,h⟩
theorem callZipT{l1 l2:Addr}{xs ys:Array Value}{Q:Value->Shared->Prop}(hL1:IsSq q s.heap l1 xs)(hL2:IsSq qq s.heap l2 ys)
  (k:∀h',ZipS q qq h' (s.heap.objs.size+4) (s.heap.objs.size+2) (s.heap.objs.size+3) s.heap.objs.size (s.heap.objs.size+1) l1 l2 0->h'.objs.size=s.heap.objs.size+5->(∀c o,s.heap.get? c=some o->h'.get? c=some o)->Q (.ref (s.heap.objs.size+4)) { s with heap:=h' }) :
  wpAny (model prog w) A (call (.type "zip") [.ref l1,.ref l2]) Q E s:=by
 refine callType_new F.called_zip (by decide) (F.typeCall_zip_2 _ _) (F.newCall_zip_2 _ _) (λobj=>F.args_object_init_3 obj _ _) F.entry_zip_new (ZHh q qq l1 l2 xs ys) ⟨hL1,hL2,?_⟩;have z1:(zT1 q s.heap l1).objs.size=s.heap.objs.size+1:=size_push ..;have z2:(zT2 q qq s.heap l1 l2).objs.size=s.heap.objs.size+2:=by rw[size_push,z1]
 have z3:(zT3 q qq s.heap l1 l2).objs.size=s.heap.objs.size+3:=by rw[size_push,z2]
 have z4:(zT4 q qq s.heap l1 l2).objs.size=s.heap.objs.size+4:=by rw[size_push,z3]
 have e1:(zT1 q s.heap l1).get? s.heap.objs.size=some { cls:=.type (nm q),data:=.fields #[.ref l1,.int 0 0] }:=get?_push_size _ rfl;have e2:(zT2 q qq s.heap l1 l2).get? (s.heap.objs.size+1)=some { cls:=.type (nm qq),data:=.fields #[.ref l2,.int 0 0] }:=by rw[←z1];exact get?_push_size _ rfl
 have e3:(zT3 q qq s.heap l1 l2).get? (s.heap.objs.size+2)=some { cls:=.type "tuple",data:=.seq #[.ref s.heap.objs.size,.ref (zT1 q s.heap l1).objs.size] }:=by rw[←z2];exact get?_push_size _ rfl
 have e4:(zT4 q qq s.heap l1 l2).get? (s.heap.objs.size+3)=some { cls:=.type "tuple",data:=.seq #[.none,.none] }:=by rw[←z3];exact get?_push_size _ rfl
 have e5:(zT5 q qq s.heap l1 l2).get? (s.heap.objs.size+4)=some { cls:=.type "zip",data:=.fields #[.none,.bool false,.bool false,.ref (zT2 q qq s.heap l1 l2).objs.size,.ref (zT3 q qq s.heap l1 l2).objs.size] }:=by rw[←z4];exact get?_push_size _ rfl
 rw[z2,z3] at e5;rw[z1] at e3;have up:∀{h:Heap} {o u:Obj} {c:Addr},h.get? c=some u->(h.push o).get? c=some u:=λq=>get?_push_of_some _ q
 show _/\_;rw[z4];refine⟨⟨_,e5,rfl⟩,k _ ⟨⟨_,_,e5,.inl rfl⟩,up (up e3),⟨_,_,up e4⟩,⟨_,up (up (up (up e1))),rfl,rfl⟩,⟨_,up (up (up e2)),rfl,rfl⟩⟩ (by rw[size_push,z4]) λc o q=>up (up (up (up (up q))))⟩
end
end HI
namespace L2
open PySem PySem.Spec PyProof.Rows
def ZF2(q qq:Bool)(K:PySem.W.Frag)(a b:Addr):It :=
 ⟨λi H=>∃xs ys x y,SqG q K H a xs/\SqG qq K H b ys/\xs[i]? = some x/\ys[i]? = some y,λi H v H'=>∃p x y,v=.ref p/\H p=none/\H'=upd H p (.tup [x,y])/\∀xs ys,SqG q K H a xs->SqG qq K H b ys->xs[i]? = some x/\ys[i]? = some y,
  λi H=>∃xs ys,SqG q K H a xs/\SqG qq K H b ys/\(xs.length<=i∨ys.length<=i)⟩
theorem ZFJ{q qq:Bool}{P:Program}{w:World}{K:PySem.W.Frag}{tg:Expr}(a b z TI TO i1 i2:Addr)(ap:ZipApart z TI TO i1 i2 a b) :
  Turn P w K tg (ZF2 q qq K a b) [z,TI,TO,i1,i2] z (λi h=>HI.ZipS q qq h z TI TO i1 i2 a b i) where
 mem:=by simp
 obj:=λi h st c hc=>by
  obtain⟨⟨f0,f1,hz,_⟩,hti,⟨u,v,hto⟩,⟨o1,e1,c1,d1⟩,⟨o2,e2,c2,d2⟩⟩:=st;simp only[mem_cons,not_mem_nil,or_false] at hc;rcases hc with rfl|rfl|rfl|rfl|rfl
  ·exact⟨_,hz,λv q=>by cases q⟩
  ·exact⟨_,hti,λv q=>by cases q⟩
  ·exact⟨_,hto,λv q=>by cases q⟩
  ·exact⟨_,e1,λv q=>by rw[d1] at q;cases q⟩
  ·exact⟨_,e2,λv q=>by rw[d2] at q;cases q⟩
 keep:=λi h h' st kk=>by
  obtain⟨⟨f0,f1,hz,hf⟩,hti,⟨u,v,hto⟩,⟨o1,e1,r1⟩,⟨o2,e2,r2⟩⟩:=st;exact⟨⟨f0,f1,kk z (by simp) _ hz,hf⟩,kk TI (by simp) _ hti,⟨u,v,kk TO (by simp) _ hto⟩,⟨o1,kk i1 (by simp) _ e1,r1⟩,⟨o2,kk i2 (by simp) _ e2,r2⟩⟩
 item:=by
  intro X hP hw hK hc i pins s σ H E I hf st hg;subst hP hw hK;obtain⟨xs,ys,x,y,hq,hq2,hx,hy⟩:=hg;obtain⟨its,rv,p,hz⟩:=I.sq hq;obtain⟨its2,rv2,p2,hz2⟩:=I.sq hq2;obtain⟨u,hu,ru⟩:=rv.get hx;obtain⟨u2,hu2,ru2⟩:=rv2.get hy;refine HI.nextZip (xs:=its.toArray) (ys:=its2.toArray) ap st p p2 (by simpa using hu) (by simpa using hu2) λh' S' pr sz kp=>?_
  refine⟨_,rfl,HI.letGoZip ap S' λh2 S2 sb=>?_⟩;have nT:H s.heap.objs.size=none:=I.hok.fresh (le_refl _);have zlt:z<s.heap.objs.size:=by obtain⟨⟨f0,f1,q,_⟩,_⟩:=st;exact lt_size q
  have kk:∀c o,c∉[z,TI,TO,i1,i2]->s.heap.get? c=some o->h2.get? c=some o:=λc o hn q=>by
   simp only[mem_cons,not_mem_nil,or_false,not_or] at hn;exact(sb.2 c hn.1).trans (kp c o hn.1 hn.2.2.1 hn.2.2.2.1 hn.2.2.2.2 q)
  have nit:∀c v,H c=some v->c∉[z,TI,TO,i1,i2]:=λc v q hm=>by
   have:=(hf c hm).1;rw[this] at q;cases q
  have hT2:h2.get? s.heap.objs.size=some { cls:=.type "tuple",data:=.seq #[u,u2] }:=(sb.2 _ (ne_of_gt zlt)).trans pr;have ne1:∀c v,H c=some v->c≠s.heap.objs.size:=λc v q=>ZH q nT
  have hok:HOk X.prog X.w (upd H s.heap.objs.size (.tup [x,y])) h2:=λc ob q=>by
   by_cases hb:c=s.heap.objs.size
   ·subst hb
    rw[ZJ] at q;cases q;exact⟨by show 2<=sizeLine;decide,[u,u2],.cons ru (.cons ru2 .nil),⟨_,hT2,rfl,_,rfl⟩⟩
   ·rw[ZC hb] at q
    refine(I.hok c ob q).stay (λd v hd r=>?_) (λd r=>by rw[ZC (ne1 _ _ r)];exact r) λd ys r=>by rw[ZC (ne1 _ _ r)];exact r
    have nc:d∉[z,TI,TO,i1,i2]:=by
     rcases hd with e|e
     ·rw[e];exact nit c ob q
     ·exact nit d _ e
    exact kk d v nc r
  have I2:Inv X pins σ (upd H s.heap.objs.size (.tup [x,y])) { s with heap:=h2 }:=by
   refine I.step (g':=s.gens) (d':=s.drawn) (t':=s.toks) (ch:=[z,TI,TO,i1,i2]) (λc hc'=>?_) (λc o _ _ hc' q _=>kk c o hc' q) (λc o _ _ hc' q _=>⟨o.slots,kk c o hc' q⟩)
    (λc o _ q n=>by rw[ZC (ne_of_lt (lt_size q))];exact n) (λc o hc' q=>⟨o,kk c o hc' q⟩) (λc ys q=>by rw[ZC (ne1 _ _ q)];exact q) (λc o u q=>by rw[ZC (ne1 _ _ q)];exact q)
    (λc ps q=>⟨#[],by rw[ZC (ne1 _ _ q),q];simp⟩) (λm hm=>?_) hok I.bare
   ·obtain⟨f0,f1,f2,f3,f4,f5⟩:=hf c hc'
    exact⟨f3,f1,f4,f5⟩
   ·obtain⟨o,es',ep,ho',r⟩:=hm
    refine⟨o,es',ep,kk _ o (λhm'=>?_) ho',r⟩;exact(hf _ hm').2.1 rfl
  refine⟨.ref s.heap.objs.size,_,I2,rfl,⟨_,x,y,rfl,nT,rfl,λzs ws hz' hw'=>by rw[I.sq_inj hz' hq,I.sq_inj hw' hq2];exact⟨hx,hy⟩⟩,S2,λc hc'=>?_⟩;have h0:=(hf c hc').1;have hlt:c<s.heap.objs.size:=by
   obtain⟨⟨f0,f1,q,_⟩,hti,⟨_,_,hto⟩,⟨o1,e1,_⟩,⟨o2,e2,_⟩⟩:=st;simp only[mem_cons,not_mem_nil,or_false] at hc';rcases hc' with rfl|rfl|rfl|rfl|rfl
   ·exact lt_size q
   ·exact lt_size hti
   ·exact lt_size hto
   ·exact lt_size e1
   ·exact lt_size e2
  rw[ZC (ne_of_lt hlt)];exact h0
 done:=by
  intro X hP hw hK hc i pins s σ H E I hf st hg;subst hP hw hK;obtain ⟨xs,ys,hq,hq2,hx⟩:=hg;obtain ⟨its,rv,p,hz⟩:=I.sq hq;obtain ⟨its2,rv2,p2,hz2⟩:=I.sq hq2;have l1:=rv.length;have l2:=rv2.length;refine HI.endZip (xs:=its.toArray) (ys:=its2.toArray) (I.ok.hd hc) ap st p p2 (by
   rcases hx with q|q
   ·exact .inl (by simp;omega)
   ·exact .inr (by simp;omega)) λh' kp=>⟨rfl,?_⟩
  refine I.step (g':=s.gens) (d':=s.drawn) (t':=s.toks) (ch:=[z,TI,TO,i1,i2]) (H':=H) (λc hc'=>?_) (λc o _ _ hc' q _=>?_) (λc o _ _ hc' q _=>?_) (λc o _ q n=>n) (λc o hc' q=>?_) (λc ys q=>q) (λc o u q=>q) (λc ps q=>⟨#[],by rw[q];simp⟩) (λm hm=>?_) (λc ob q=>?_) I.bare
  ·obtain⟨f0,f1,f2,f3,f4,f5⟩:=hf c hc'
   exact⟨f3,f1,f4,f5⟩
  ·simp only[mem_cons,not_mem_nil,or_false,not_or] at hc'
   exact kp c o hc'.1 hc'.2.2.1 hc'.2.2.2.1 hc'.2.2.2.2 q
  ·simp only[mem_cons,not_mem_nil,or_false,not_or] at hc'
   exact⟨o.slots,kp c o hc'.1 hc'.2.2.1 hc'.2.2.2.1 hc'.2.2.2.2 q⟩
  ·simp only[mem_cons,not_mem_nil,or_false,not_or] at hc'
   exact⟨o,kp c o hc'.1 hc'.2.2.1 hc'.2.2.2.1 hc'.2.2.2.2 q⟩
  ·obtain⟨o,es',ep,ho',r⟩:=hm
   have nl:∀c∈[z,TI,TO,i1,i2],X.env.locals≠c:=λc hc' e=>(hf c hc').2.1 e.symm
   exact⟨o,es',ep,kp _ o (nl z (by simp)) (nl TO (by simp)) (nl i1 (by simp)) (nl i2 (by simp)) ho',r⟩
  ·refine(I.hok c ob q).stay (λd v hd r=>?_) (λd r=>r) λd ys r=>r
   have nd:∀e,H d=some e->∀c∈[z,TI,TO,i1,i2],d≠c:=λe q' c hc' e'=>by
    have:=(hf c hc').1;rw[←e',q'] at this
    cases this
   have hd':∃e,H d=some e:=by
    rcases hd with e|e
    ·rw[e];exact⟨_,q⟩
    ·exact⟨_,e⟩
   obtain⟨e,he⟩:=hd';exact kp d v (nd e he z (by simp)) (nd e he TO (by simp)) (nd e he i1 (by simp)) (nd e he i2 (by simp)) r
 self:=λ_ _ _ _ _ st h=>by
  obtain⟨⟨f0,f1,hz,_⟩,_⟩:=st;exact HI.iterZip hz h
section
variable{X:Cx}
def iZipG(q qq:Bool)(K:PySem.W.Frag)(ta:TA):TI:=λσ H R=>ta σ H λvs H1=>∃a b,vs=[.ref a,.ref b]/\(∃xs ys,SqG q K H1 a xs/\SqG qq K H1 b ys)/\R (ZF2 q qq K a b) H1
theorem ZIc{q qq:Bool}{tg a b:Expr}{ta:TA}{p pos:Pos}(hg:Gl X "zip")(hm:X.mg "zip" = none)(ha:PA X [a,b] ta)(hs:starEach [a,b] X.env=[(false,eval a X.env),(false,eval b X.env)]:=by rfl)(hs2:starEach [b] X.env=[(false,eval b X.env)]:=by rfl) :
  PI X tg (.Call (.Name "zip" p) [a,b] [] pos) (iZipG q qq X.K ta):=by
 intro pins s σ H R I h;refine Call_ (ZBO I hg hm boot_zip (PyProof.Rows.callWith_type1 (thn (ha pos pins s σ H _ I h) λus s1 ⟨vs,H1,I1,r1,q1⟩=>?_) (by rw[hs,hs2]) (by rw[hs2];rfl)));obtain⟨l1,l2,e,⟨xs,ys,hq1,hq2⟩,q⟩:=q1;subst e;cases r1 with
 |cons r rr =>
  cases rr with
  |cons r' rr =>
   cases rr;cases r;cases r';obtain⟨its,rv,pt,hz⟩:=I1.sq hq1;obtain⟨its2,rv2,pt2,hz2⟩:=I1.sq hq2;have lt1:l1<s1.heap.objs.size:=by obtain⟨o,e,_⟩:=pt;exact lt_size e
   have lt2:l2<s1.heap.objs.size:=by obtain⟨o,e,_⟩:=pt2;exact lt_size e
   refine HI.callZipT (show HI.IsSq _ s1.heap l1 its.toArray from pt) (show HI.IsSq _ s1.heap l2 its2.toArray from pt2) λh' S' hsz hk=>?_
   have I2:Inv X pins σ H1 { s1 with heap:=h' }:=I1.kept (t':=s1.toks) hk;obtain⟨f0,f1,zo,hf⟩:=S'.zo;have ap:ZipApart (s1.heap.objs.size+4) (s1.heap.objs.size+2) (s1.heap.objs.size+3) s1.heap.objs.size (s1.heap.objs.size+1) l1 l2:=HI.apart_new _ _ _ lt1 lt2;refine HI.iterZip zo ⟨s1.heap.objs.size+4,[s1.heap.objs.size+4,s1.heap.objs.size+2,s1.heap.objs.size+3,s1.heap.objs.size,s1.heap.objs.size+1],_,_,H1,rfl,I2,ZFJ l1 l2 _ _ _ _ _ ap,S',λb hb=>?_,q⟩;have hb':s1.heap.objs.size<=b:=by
    simp only[mem_cons,not_mem_nil,or_false] at hb;rcases hb with rfl|rfl|rfl|rfl|rfl
    ·exact le_add_right _ _
    ·exact le_add_right _ _
    ·exact le_add_right _ _
    ·exact le_refl _
    ·exact le_add_right _ _
   exact I1.fpOk hb' (I1.hok.fresh hb')
end
abbrev Itz:=ZF2 true true
abbrev Itzl:=ZF2 false false
end L2
namespace HT
open PySem PyProof.Rows
section
variable{prog:Program}{w:World}{A:Around}{E:Value->Shared->Prop}{s:Shared}
theorem getItem_tuple_whole{t sl:Addr}{items:Array Value}{vl vu:Value}{lo hi:Option Int}{Q:Value->Shared->Prop}(ht:IsTup s.heap t items)(hs:s.heap.IsSliceOf sl vl vu .none)(pl:IsPart vl lo)(pu:IsPart vu hi)
  (hw:sIx items.size 0 lo=0/\sIx items.size items.size hi=items.size)(h:Q (.ref t) s):wpAny (model prog w) A (getItem (.ref t) (.ref sl)) Q E s:=by
 obtain⟨os,hos,hcs,hds⟩:=id hs;have hTs:s.TypeIs (.ref sl) "slice":=⟨os,hos,hcs⟩;unfold getItem
 try with_reducible refine wpAny_holding ?_
 first|refine wpAny_bind (wpAny_pure ?_)|skip
 refine wpAny_bind (wpAny_sequenceKey ht.typeIs (by decide) ?_);refine wpAny_bind (wpAny_callSpecial?_slot (name:=Str.ofString "__getitem__") ht.typeIs PyProof.Rows.slot_tuple_getitem
  (wpAny_call_entry PyProof.Rows.slot_tuple_getitem ht.typeIs entry_tuple_getitem ?_ (args_tuple_getitem _ _)))
 show wpAny _ _ (Builtin.Tuple.tupleItemsOf (.ref t) >>= _) _ _ s;refine wpAny_bind (tupleItemsOf_ ht ?_);refine wpAny_bind (wpAny_typeOf hTs ?_);rw[if_pos (by decide)];refine wpAny_bind (ZAU hs pl pu ?_);show wpAny _ _ (if (((sIx items.size 0 lo:Nat):Int) == 0 && (1:Int) == 1 && (sIx items.size items.size hi-sIx items.size 0 lo) == items.size)=true then _ else _) _ _ s;have hyes:(((sIx items.size 0 lo:Nat):Int) == 0 && (1:Int) == 1 && (sIx items.size items.size hi-sIx items.size 0 lo) == items.size)=true:=by
  rw[hw.1,hw.2];simp
 rw[if_pos hyes];unfold Builtin.Tuple.tupleIsExact;refine wpAny_bind (wpAny_bind (wpAny_typeOf ht.typeIs (wpAny_pure ?_)));rw[if_pos (by rfl)];exact wpAny_bind (wpAny_rule (wpAny_pure ⟨_,rfl,wpAny_pure h⟩))
end
end HT
namespace L2
open PySem PySem.Spec PyProof.Rows
section
variable{X:Cx}
theorem ZHj:SlR X (λx lo hi H Q=>∃a xs,x=.ref a/\SqT X.K H a xs/\((HT.sIx xs.length 0 lo=0/\HT.sIx xs.length xs.length hi=xs.length)->Q (.ref a) H) /\
  (¬(HT.sIx xs.length 0 lo=0/\HT.sIx xs.length xs.length hi=xs.length)->∀p,H p=none->Q (.ref p) (upd H p (.tup (ZC0 xs lo hi))))):=by
 intro pins s σ H x v vl vu lo hi sl Q I rx hs pl pu h;obtain⟨a,xs,rfl,hx,q1,q2⟩:=h
 by_cases hw:HT.sIx xs.length 0 lo=0/\HT.sIx xs.length xs.length hi=xs.length
 ·cases rx
  obtain⟨its,r,ht,hz⟩:=I.tuple hx;have hlen:its.toArray.size=xs.length:=by rw[size_toArray];exact r.length.symm
  refine⟨"tuple",_,PyProof.Rows.slot_tuple_getitem.lookup,ht.typeIs,?_⟩;exact HT.getItem_tuple_whole ht hs pl pu (by rw[hlen];exact hw) ⟨.ref a,H,I,rfl,q1 hw⟩
 ·exact ZIk pins s σ H (.ref a) v vl vu lo hi sl Q I rx hs pl pu ⟨a,xs,rfl,hx,hw,q2 hw⟩
end
theorem filt_rev:∀(its:List Value),its.length<=8->((List.range its.length).reverse.filterMap λx=>its.toArray[x]?)=its.reverse
 |[],_=>rfl
 |[_],_=>rfl
 |[_,_],_=>rfl
 |[_,_,_],_=>rfl
 |[_,_,_,_],_=>rfl
 |[_,_,_,_,_],_=>rfl
 |[_,_,_,_,_,_],_=>rfl
 |[_,_,_,_,_,_,_],_=>rfl
 |[_,_,_,_,_,_,_,_],_=>rfl
 |_::_::_::_::_::_::_::_::_::r,h=>by simp only[length_cons] at h;omega
def ZB8(a:Addr):HO:=.ext λh=>∃o,h.get? a=some o/\o.cls=.type "dict"/\∃es n,o.data=.dict es n
inductive Kd (K:PySem.W.Frag) (H:Hp):V->String->Prop
 |non:Kd K H .non "NoneType"
 |bl (b:Bool):Kd K H (.bl b) "bool"
 |int (i:Int):Kd K H (.int i) "int"
 |str (x:Str):Kd K H (.str x) "str"
 |lst {a:Addr} {xs:List V}:H a=some (.lst xs)->Kd K H (.ref a) "list"
 |tup {a:Addr} {xs:List V}:SqT K H a xs->Kd K H (.ref a) "tuple"
 |dct {a:Addr}:H a=some (ZB8 a)->Kd K H (.ref a) "dict"
def isi(k T:String):Bool:=decide (k=T) || (decide (k = "bool") && decide (T = "int"))
section
variable{X:Cx}{pos p2:Pos}
theorem ZEg:ZQ X (.builtin "isinstance") (λxs H Q=>∃(x:V) (T k:String),xs=[x,.ty T]/\Kd X.K H x k/\(T = "int"∨T = "bool"∨T = "tuple"∨T = "str")/\Q (.bl (isi k T)) H):=by
 intro pins s σ H xs us Q I r h;obtain⟨x,T,k,rfl,kd,hT,q⟩:=h;obtain⟨u,w',rfl,ru,rw'⟩:=ZIB r;cases rw';have fin:∀(t:Value),PySem.W.kitOne X.K t (.type T)=some (isi k T)->∀{HH:Heap->Prop},PySem.W.KitX X.K u t HH->HH s.heap->(u≠Value.builtin "__main__.__loader__#opaque")->wpAny (model X.prog X.w) X.A (call (.builtin "isinstance") [u,.type T]) (EP X pins σ Q) X.xe s:=λt e _ kx hh hu =>
  PySem.W.kia_one kx I.kIn hh e hu λtk=>⟨.bl _,H,I.tok tk,rfl,q⟩
 cases kd with
 |non=>cases ru;exact fin (.type "NoneType") (by rcases hT with rfl|rfl|rfl|rfl <;> rfl) PySem.W.kitx_none True.intro (λz=>nomatch z)
 |bl y=>cases ru;exact fin (.type "bool") (by rcases hT with rfl|rfl|rfl|rfl <;> rfl) PySem.W.kitx_bool True.intro (λz=>nomatch z)
 |int i=>obtain⟨t,rfl⟩:=ru;exact fin (.type "int") (by rcases hT with rfl|rfl|rfl|rfl <;> rfl) PySem.W.kitx_int True.intro (λz=>nomatch z)
 |str y=>obtain⟨t,rfl⟩:=ru;exact fin (.type "str") (by rcases hT with rfl|rfl|rfl|rfl <;> rfl) PySem.W.kitx_str True.intro (λz=>nomatch z)
 |@lst a xs ea =>
  cases ru;obtain⟨_,_,n,_,h1⟩:=(show Z0 X.prog X.w H s.heap a (.lst xs) from I.hok a _ ea);exact fin (.type "list") (by rcases hT with rfl|rfl|rfl|rfl <;> rfl) PySem.W.kitx_list ⟨_,h1,rfl⟩ (λz=>nomatch z)
 |@tup a xs ea =>
  cases ru;obtain⟨_,_,⟨o,h1,h2,_⟩,_⟩:=I.tuple ea;exact fin (.type "tuple") (by rcases hT with rfl|rfl|rfl|rfl <;> rfl) PySem.W.kitx_tuple ⟨o,h1,h2⟩ (λz=>nomatch z)
 |@dct a ea =>
  cases ru;obtain⟨⟨o,h1,h2,_⟩,_⟩:=(show Z0 X.prog X.w H s.heap a (ZB8 a) from I.hok a _ ea);exact fin (.type "dict") (by rcases hT with rfl|rfl|rfl|rfl <;> rfl) PySem.W.kitx_dict ⟨o,h1,h2⟩ (λz=>nomatch z)
theorem ZFu:PE X (.Dict [] [] pos) (λ_ H Q=>∀p,H p=none->Q (.ref p) (upd H p (ZB8 p))):=λpins s σ H Q I h =>
 wpAny_Dict_empty ⟨.ref s.heap.objs.size,_,I.laid (o:=ZB8 s.heap.objs.size) (t':=s.toks) (λ_ _ q=>get?_push_of_some _ q) (le_refl _) ⟨⟨_,get?_push_size _ rfl,rfl,_,_,rfl⟩,⟨_,get?_push_size _ rfl⟩,λh1 h2 ⟨o,e,c⟩ kp=>⟨o,kp o e,c⟩⟩,rfl,h _ (I.hok.fresh (le_refl _))⟩
theorem ZE7:OpR X (compareOp .IsNot) (λx y H Q=>∃i j,x=.bl i/\y=.bl j/\Q (.bl (!(i == j))) H):=by
 intro pins s σ H x y v u Q I rx ry h;obtain⟨i,j,rfl,rfl,q⟩:=h;cases rx;cases ry;exact isnot_bool ⟨.bl _,H,I,rfl,q⟩
def ZDt(mg:Str->Option Value)(x:Str)(n:Int):Prop:=∃t,mg x=some (.int n t)
theorem ZFK{x:Str}{n:Int}(hg:Gl X x)(h:ZDt X.mg x n)(hd:(x == ("__debug__" : Str))=false:=by decide):PE X (.Name x pos) (tC (.int n)):=by
 obtain⟨t,e⟩:=h;exact ZEG hg e ⟨t,rfl⟩ hd
end
end L2
namespace HT
open PySem PyProof.Rows
open Builtin
section
variable{prog:Program}{w:World}{A:Around}{E:Value->Shared->Prop}{s:Shared}
theorem cat_tupA{t b:Addr}{vs ws:List Value}{Q:Value->Shared->Prop}(ht:IsTup s.heap t vs.toArray)(hb:IsTup s.heap b ws.toArray)
  (h0:vs=[]->Q (.ref b) s)(h1:vs≠[]->ws=[]->Q (.ref t) s)(h2:vs≠[]->ws≠[]->Q (.ref s.heap.objs.size) { s with heap:=s.heap.push { cls:=.type "tuple",data:=.seq (vs++ws).toArray } })
  (hsz:vs.length+ws.length<=sizeLine):wpAny (model prog w) A (binaryOp .Add (.ref t) (.ref b)) Q E s:=by
 by_cases hv:vs=[]
 ·obtain⟨⟨cls,dd,data,sl⟩,ho,hc,n,hd⟩:=id ht
  obtain⟨⟨cls2,dd2,data2,sl2⟩,ho2,hc2,n2,hd2⟩:=id hb;simp only at hc hd hc2 hd2;subst hc hd hc2 hd2;exact concat_meets ⟨_,ho,rfl⟩ ⟨_,ho2,rfl⟩ noFill_tuple_add seq_tuple_add PySem.F.slot_tuple_add PySem.F.entry_tuple_add (PySem.F.args_tuple_add_2 _ _)
   (tuple_addW0 t b vs.toArray ws.toArray n n2 dd dd2 sl sl2 (by simp[hv])) ⟨ho,ho2,h0 hv⟩
 ·exact ZHA ht hb hv (h1 hv) (h2 hv) hsz
theorem noFill_tuple_mul:fillsNumberSlot (.type "tuple") "mul" = pure false :=
 PySem.fillsNumberSlot_seq (id:="tuple.__mul__") (r:=some (.builtin "tuple.__rmul__")) F.slot_tuple_mul.lookup (by decide +kernel) F.slot_tuple_rmul.lookup (by decide +kernel)
theorem repeat_tuple:seqRepeat? (.type "tuple")=pure (some (.builtin "tuple.__mul__")):=by
 unfold seqRepeat?;rw[PySem.seqSlot_of (T:="tuple") (name:="__mul__") (id:="tuple.__mul__") F.slot_tuple_mul.lookup (by decide +kernel),PySem.seqSlot_of (T:="tuple") (name:="__rmul__") (id:="tuple.__rmul__") F.slot_tuple_rmul.lookup (by decide +kernel)];rfl
theorem rmul_tup(a:Int)(t:Tok)(l:Addr)(items:Array Value)(n:Nat)(dd:Option Addr)(sl:Array (Option Value)) :
  Meets (Builtin.«int.__rmul__» ⟨[.int a t,.ref l],[]⟩) (λ_ R s=>s.heap.get? l=some { cls:=.type "tuple",dict:=dd,data:=.seq items n,slots:=sl }/\R (.ok (.ret Value.notImplemented)) s) :=
 .of_wp λprog w A R s h=>by obtain⟨hp,g,d,tk,os⟩:=s;obtain⟨hl,h⟩:=h;wp_walk;exact⟨_,rfl,h⟩
theorem tuple_mulW(l:Addr)(items:Array Value)(n:Nat)(dd:Option Addr)(sl:Array (Option Value))(k:Int)(t:Tok)(hc0 : ¬(decide (k < -(2 ^ 63)) || decide (k ≥ 2 ^ 63))=true)(hc1 : ¬(items.isEmpty || k == 1)=true)(hc2 : ¬(decide (k<=0) || items.isEmpty)=true)
  (hc3 : ¬((items.size:Int)*k > (2 ^ 63-1) / 8))(hc4 : ¬Builtin.Tuple.tupleTooMany ((items.size:Int)*k)=true)(hsz:((List.replicate k.toNat items).foldl (·++·) #[]).size<=sizeLine) :
  Meets (Builtin.«tuple.__mul__» ⟨[.ref l,.int k t],[]⟩) (λ_ R s=>s.heap.get? l=some { cls:=.type "tuple",dict:=dd,data:=.seq items n,slots:=sl }/\R (.ok (.ret (Value.ref s.heap.objs.size))) { s with heap:=s.heap.push { cls:=Value.type "tuple",data:=Data.seq ((List.replicate k.toNat items).foldl (·++·) #[]) },toks:=s.toks }) :=
 .of_wp λprog w A R s h=>by
  obtain⟨hp,g,d,tk,os⟩:=s;obtain⟨hl,h⟩:=h;have f1:=AutoSeq1.idx_int;have f2:=AutoSeq1.sub_tuple_tuple
  wp_walk using wpAny_loadPart' hl
  rw[if_neg hc0]
  wp_walk using wpAny_loadPart' hl
  rw[if_neg hc3]
  wp_walk using wpAny_loadPart' hl
  exact⟨_,rfl,h⟩
end
end HT
namespace L2
open PySem PySem.Spec PyProof.Rows H1
structure Ru where
 o:Int
 w:Int
 t:Int
 c:Int
 cl:List Str
def clD(cl:List Str):PyData:=.tuple (cl.map .str)
def ruD(r:Ru):PyData:=.tuple [.int r.o,.int r.w,.int r.t,.int r.c,clD r.cl]
structure RuOk (r:Ru):Prop where
 o : 0<=r.o/\r.o<=3
 w : 1<=r.w/\r.w<=9
 t : 0<=r.t/\r.t<=9
 c : 0<=r.c/\r.c<=8
 l:r.cl.length<=7
end L2
namespace HT
open PySem PyProof.Rows
def lexGe:List Int->List Int->Bool
 |[],[]=>true
 |[],_::_=>false
 |_::_,[]=>true
 |x::xs,y::ys=>if x=y then lexGe xs ys else decide (y<=x)
theorem ZDo(x y:Int)(xs ys:List Int):lexGe (x::xs) (y::ys)=if x=y then lexGe xs ys else decide (y<=x):=rfl
theorem ZCZ:lexGe [] []=true:=rfl
theorem ZB3(y:Int)(ys:List Int):lexGe [] (y::ys)=false:=rfl
theorem ZCJ(x:Int)(xs:List Int):lexGe (x::xs) []=true:=rfl
theorem ZFh(A:Around)(s:Shared)(a:Int)(t:Tok)(c:Int)(u:Tok)(prog:Program)(w:World)(E:Value->Shared->Prop)(Q:Value->Shared->Prop)(h:Q (.bool (decide (c<=a))) s) :
  wpAny (model prog w) A (richCompare .GtE (.int a t) (.int c u)) Q E s :=
 (PyProof.Rows.ge_int h:wpAny (model prog w) A (compareOp .GtE (.int a t) (.int c u)) Q E s)
section
open PySem.SeqAt
open PySem.AutoSeq1 (wpAny_loadPart')
open PySem.MeetsSeq PySem.MeetsSeq2 PySem.MeetsSeq3
theorem ZCO(l b:Addr)(items items2:Array Value)(n n2:Nat)(dd dd2:Option Addr)(sl sl2:Array (Option Value))(ns ms:List Int)(hi:IntsAre items.toList ns)(hj:IntsAre items2.toList ms) :
  Meets (Builtin.«tuple.__ge__» ⟨[.ref l,.ref b],[]⟩)
   (λ _ R s=>s.heap.get? l=some { cls:=.type "tuple",dict:=dd,data:=.seq items n,slots:=sl }/\s.heap.get? b=some { cls:=.type "tuple",dict:=dd2,data:=.seq items2 n2,slots:=sl2 } /\
    R (.ok (.ret (.bool (lexGe ns ms)))) s) :=
 .of_wp λprog w A R s h=>by
  obtain⟨hp,g,d,tk,os⟩:=s;obtain⟨hl,hb,h⟩:=h;have f2:=AutoSeq1.sub_tuple_tuple;have z1:items.size=ns.length:=by rw[←hi.length];simp
  have z2:items2.size=ms.length:=by rw[←hj.length];simp
  wp_walk using wpAny_loadPart' hl,wpAny_loadPart' hb,wpAny_forIn_list _ (λ rest b s'=>b.1=none/\s'=⟨hp,g,d,tk,os⟩/\∃ (vs ws:List Value) (ns' ms':List Int),rest=vs.zip ws /\
   IntsAre vs ns'/\IntsAre ws ms'/\ns'.length+items2.size=ms'.length+items.size/\R (.ok (.ret (.bool (lexGe ns' ms')))) ⟨hp,g,d,tk,os⟩) _
  case turn =>
   rintro ⟨y,x⟩ rest b s' ⟨hb',rfl,vs,ws,ns',ms',hz,hvi,hwi,hlen,hR⟩
   cases hvi with
   |nil=>rw[zip_nil_left] at hz;cases hz
   |cons a t hvi' =>
    cases hwi with
    |nil=>rw[List.zip_nil_right] at hz;cases hz
    |cons c u hwi' =>
     rw[zip_cons_cons] at hz;injection hz with hyx hrest
     injection hyx with hy hx
     subst hy hx;rw[ZDo] at hR;simp only[length_cons] at hlen;obtain⟨e,he,hiff⟩:=ZCA A.in1 ⟨hp,g,d,tk,os⟩ a t c u;refine wpAny_bind (he prog w _ _ ?_);cases e with
     |true =>
      rw[if_pos (hiff.mp rfl)] at hR
      wp_walk
      exact⟨rfl,rfl,_,_,_,_,hrest,hvi',hwi',by omega,hR⟩
     |false =>
      rw[if_neg (λq=>absurd (hiff.mpr q) Bool.false_ne_true)] at hR;have hri:=ZFh A.in1 ⟨hp,g,d,tk,os⟩ a t c u prog w
      wp_walk using hri
      exact⟨_,rfl,by simpa using hR⟩
  case fin =>
   rintro ⟨b1,b2⟩ s' ⟨hb',rfl,vs,ws,ns',ms',hz,hvi,hwi,hlen,hR⟩
   simp only at hb';subst hb';have hv:lexGe ns' ms'=decide (items.size ≥ items2.size):=by
    cases hvi with
    |nil =>
     cases hwi with
     |nil =>
      simp only[length_nil] at hlen;rw[ZCZ];exact(decide_eq_true (by omega)).symm
     |cons c u hw =>
      simp only[length_nil,length_cons] at hlen;rw[ZB3];exact(decide_eq_false (by omega)).symm
    |cons a t hv =>
     cases hwi with
     |nil =>
      simp only[length_nil,length_cons] at hlen;rw[ZCJ];exact(decide_eq_true (by omega)).symm
     |cons c u hw =>
      rw[zip_cons_cons] at hz;cases hz
   rw[hv] at hR
   wp_walk
   exact⟨_,rfl,by simpa [Builtin.Tuple.tupleCompareSizes] using hR⟩
  case h =>
   exact⟨rfl,rfl,items.toList,items2.toList,ns,ms,rfl,hi,hj,by omega,h⟩
end
section
variable{prog:Program}{w:World}{A:Around}{E:Value->Shared->Prop}{s:Shared}
theorem ge_tupInts{l b:Addr}{items items2:Array Value}{ns ms:List Int}{Q:Value->Shared->Prop}(hl:IsTup s.heap l items)(hb:IsTup s.heap b items2)(hi:IntsAre items.toList ns)(hj:IntsAre items2.toList ms)
  (hu:A.units<cLine)(h:Q (.bool (lexGe ns ms)) s):wpAny (model prog w) A (compareOp .GtE (.ref l) (.ref b)) Q E s:=by
 obtain⟨⟨cls,dd,data,sl⟩,ho,hc,n,hd⟩:=id hl;obtain⟨⟨cls2,dd2,data2,sl2⟩,ho2,hc2,n2,hd2⟩:=id hb;simp only at hc hd hc2 hd2;subst hc hd hc2 hd2;exact richCompare_meets_room (op:=.GtE) ⟨_,ho,rfl⟩ ⟨_,ho2,rfl⟩ PySem.F.slot_tuple_ge PySem.F.entry_tuple_ge (PySem.F.args_tuple_ge_2 _ _) (ZCO l b items items2 n n2 dd dd2 sl sl2 ns ms hi hj)
  ⟨ho,ho2,show Value.bool (lexGe ns ms)≠Value.notImplemented/\Q (.bool (lexGe ns ms)) s from ⟨(λx=>nomatch x),h⟩⟩ hu
end
end HT
namespace L2
open PySem PySem.Spec PyProof.Rows
section
variable{X:Cx}{a b:Expr}{ta tb:TE}{pos:Pos}
def rGeT(K:PySem.W.Frag):R2:=λx y H Q=>∃a b ns ms,x=.ref a/\y=.ref b/\SqT K H a (ns.map V.int)/\SqT K H b (ms.map V.int)/\Q (.bl (HT.lexGe ns ms)) H
theorem ZJj(hu:X.A.units<cLine):OpR X (compareOp .GtE) (rGeT X.K):=by
 intro pins s σ H x y v u Q I rx ry h;obtain⟨a,b,ns,ms,rfl,rfl,ha,hb,q⟩:=h;cases rx;cases ry;obtain⟨its,r1,p1,_⟩:=I.tuple ha;obtain⟨its2,r2,p2,_⟩:=I.tuple hb;have i1:IntsAre its.toArray.toList ns:=Zu r1;have i2:IntsAre its2.toArray.toList ms:=Zu r2;exact HT.ge_tupInts p1 p2 i1 i2 hu ⟨.bl (HT.lexGe ns ms),H,I,rfl,q⟩
end
end L2
namespace L2
open PySem PySem.Spec PyProof.Rows H1
inductive W where
 |dat (d:PyData)
 |ref (n:Nat)
 |inp (ns:List Int)
 |ty (n:String)
 |tup (ws:List W)
structure CD where
 nm:Str
 fs:List Str
inductive Cell where
 |pl (ds:List PyData)
 |rl (ws:List W)
 |ob (c:CD) (ws:List W)
 |dk (kvs:List (Key×W))
abbrev G:=List Cell
structure Rh where
 c:List Addr
 h:List Addr
def Rh.mem(ρ : Rh)(a:Addr):Prop:=a∈ρ.c∨a∈ρ.h
abbrev Sd:=List (Option W)
def KL(K:PySem.W.Frag)(a:Addr)(xs:List V):Prop:=∃(o:Obj) (its:Array Value) (n:Nat),K.lookup a=some o/\o.cls=.type "list"/\o.dict=none/\o.data=.seq its n/\its.size<=sizeLine/\ZI xs its.toList
def KT(K:PySem.W.Frag)(a:Addr)(xs:List V):Prop:=∃(o:Obj) (its:Array Value) (n:Nat),K.lookup a=some o/\o.cls=.type "tuple"/\o.data=.seq its n/\its.size<=sizeLine/\ZI xs its.toList
def FzL(K:PySem.W.Frag)(ρ : Rh)(H:Hp)(a:Addr)(xs:List V):Prop:=(Rd H a (.lst xs)/\¬ρ.mem a)∨KL K a xs
def FzT(K:PySem.W.Frag)(ρ : Rh)(H:Hp)(a:Addr)(xs:List V):Prop:=(Rd H a (.tup xs)/\¬ρ.mem a)∨KT K a xs
theorem FzL.sq{K:PySem.W.Frag}{ρ : Rh}{H:Hp}{a:Addr}{xs:List V}(h:FzL K ρ H a xs):SqL K H a xs:=h.elim (λz=>.inl z.1) .inr
theorem FzT.sq{K:PySem.W.Frag}{ρ : Rh}{H:Hp}{a:Addr}{xs:List V}(h:FzT K ρ H a xs):SqT K H a xs:=h.elim (λz=>.inl z.1) .inr
mutual
inductive RelD (K:PySem.W.Frag) (ρ : Rh) (H:Hp):V->PyData->Prop
 |non:RelD K ρ H .non .none
 |bl (b:Bool):RelD K ρ H (.bl b) (.bool b)
 |int (i:Int):RelD K ρ H (.int i) (.int i)
 |str (x:Str):RelD K ρ H (.str x) (.str x)
 |tup {a:Addr} {xs:List V} {ds:List PyData}:FzT K ρ H a xs->RelDL K ρ H xs ds->RelD K ρ H (.ref a) (.tuple ds)
 |lst {a:Addr} {xs:List V} {ds:List PyData}:H a=some (.lst xs)->¬ρ.mem a->RelDL K ρ H xs ds->RelD K ρ H (.ref a) (.list ds)
 |dct {a:Addr}:H a=some (ZB8 a)->¬ρ.mem a->RelD K ρ H (.ref a) (.dict [])
inductive RelDL (K:PySem.W.Frag) (ρ : Rh) (H:Hp):List V->List PyData->Prop
 |nil:RelDL K ρ H [] []
 |cons {x:V} {d:PyData} {xs:List V} {ds:List PyData}:RelD K ρ H x d->RelDL K ρ H xs ds->RelDL K ρ H (x::xs) (d::ds)
end
mutual
inductive Rel (K:PySem.W.Frag) (ρ : Rh) (H:Hp):V->W->Prop
 |dat {v:V} {d:PyData}:RelD K ρ H v d->Rel K ρ H v (.dat d)
 |ref {a:Addr} {n:Nat} : ρ.c[n]? = some a->Rel K ρ H (.ref a) (.ref n)
 |inp {a:Addr} {ns:List Int}:FzL K ρ H a (ns.map V.int)->Rel K ρ H (.ref a) (.inp ns)
 |ty {n:String}:Rel K ρ H (.ty n) (.ty n)
 |tup {a:Addr} {xs:List V} {ws:List W}:FzT K ρ H a xs->RelL K ρ H xs ws->Rel K ρ H (.ref a) (.tup ws)
inductive RelL (K:PySem.W.Frag) (ρ : Rh) (H:Hp):List V->List W->Prop
 |nil:RelL K ρ H [] []
 |cons {v:V} {x:W} {vs:List V} {xs:List W}:Rel K ρ H v x->RelL K ρ H vs xs->RelL K ρ H (v::vs) (x::xs)
end
inductive RelF (K:PySem.W.Frag) (ρ : Rh) (H:Hp):List Str->List (Str×V)->List W->Prop
 |nil {ns:List Str}:RelF K ρ H ns [] []
 |cons {f:Str} {ns:List Str} {v:V} {x:W} {vs:List (Str×V)} {xs:List W}:Rel K ρ H v x->RelF K ρ H ns vs xs->RelF K ρ H (f::ns) ((f,v)::vs) (x::xs)
inductive RelK (K:PySem.W.Frag) (ρ : Rh) (H:Hp):List (Key×V)->List (Key×W)->Prop
 |nil:RelK K ρ H [] []
 |cons {k:Key} {v:V} {x:W} {vs:List (Key×V)} {xs:List (Key×W)}:Rel K ρ H v x->RelK K ρ H vs xs->RelK K ρ H ((k,v)::vs) ((k,x)::xs)
def Zp(K:PySem.W.Frag)(ρ : Rh)(H:Hp)(a:Addr):Cell->Prop
 |.pl ds=>∃vs,H a=some (.lst vs)/\RelDL K ρ H vs ds
 |.rl ws=>∃vs,H a=some (.lst vs)/\RelL K ρ H vs ws
 |.ob c fs=>∃C dx vs,PySem.W.nsIn K mainGlobals c.nm=some (some (.ref C))/\H a=some (.ins C dx vs)/\RelF K ρ H c.fs vs fs
 |.dk ws=>∃vs,H a=some (.dK vs)/\RelK K ρ H vs ws
def kdO:HO->Nat
 |.lst _=>0
 |.ins _ _ _=>1
 |_=>2
structure Stp (ρ : Rh) (H:Hp) (ρ':Rh) (H':Hp):Prop where
 pre:∃r,ρ'.c = ρ.c++r
 hid : ρ'.h = ρ.h
 frm:∀a o,H a=some o->a∉ρ.c->H' a=some o
 fre:∀a∈ρ'.c,a∈ρ.c∨H a=none
 kd:∀a o,H a=some o->∃o',H' a=some o'/\kdO o'=kdO o
section
variable{K:PySem.W.Frag}{ρ ρ' ρ2:Rh}{H H' H2:Hp}
theorem Stp.refl:Stp ρ H ρ H:=⟨⟨[],(append_nil _).symm⟩,rfl,λ_ _ h _=>h,λ_ h=>.inl h,λa o h=>⟨o,h,rfl⟩⟩
theorem Stp.ninc{a:Addr}{o:HO}(s:Stp ρ H ρ' H')(h:H a=some o)(n:a∉ρ.c):a∉ρ'.c:=λz=>(s.fre a z).elim n λe=>by rw[h] at e;cases e
theorem Stp.nin{a:Addr}{o:HO}(s:Stp ρ H ρ' H')(h:H a=some o)(n : ¬ρ.mem a) : ¬ρ'.mem a:=λz=>z.elim (s.ninc h λq=>n (.inl q)) λz=>n (.inr (by rw[←s.hid];exact z))
theorem Stp.trans(s:Stp ρ H ρ' H')(t:Stp ρ' H' ρ2 H2):Stp ρ H ρ2 H2:=by
 refine⟨?_,t.hid.trans s.hid,λa o h n=>t.frm a o (s.frm a o h n) (s.ninc h n),λa h=>?_,λa o h=>?_⟩
 ·obtain⟨r,e⟩:=s.pre
  obtain⟨q,e'⟩:=t.pre;exact⟨r++q,by rw[e',e,append_assoc]⟩
 ·rcases t.fre a h with z|z
  ·exact s.fre a z
  ·by_cases n:a∈ρ.c
   ·exact .inl n
   ·cases e:H a with
    |none=>exact .inr rfl
    |some o=>rw[s.frm a o e n] at z;cases z
 ·obtain⟨o1,h1,k1⟩:=s.kd a o h
  obtain⟨o2,h2,k2⟩:=t.kd a o1 h1;exact⟨o2,h2,k2.trans k1⟩
theorem Stp.same(s:Same H H'):Stp ρ H ρ H':=⟨⟨[],(append_nil _).symm⟩,rfl,λa o h _=>s a o h,λ_ h=>.inl h,λa o h=>⟨o,s a o h,rfl⟩⟩
theorem Rd.stp{a:Addr}{u:HO}(s:Stp ρ H ρ' H')(h:Rd H a u)(n : ¬ρ.mem a):Rd H' a u/\¬ρ'.mem a:=by
 rcases h with h|⟨o,h⟩
 ·exact⟨.inl (s.frm _ _ h λz=>n (.inl z)),s.nin h n⟩
 ·exact⟨.inr ⟨o,s.frm _ _ h λz=>n (.inl z)⟩,s.nin h n⟩
theorem FzL.mono{a:Addr}{xs:List V}(s:Stp ρ H ρ' H')(h:FzL K ρ H a xs):FzL K ρ' H' a xs:=h.elim (λz=>.inl (Rd.stp s z.1 z.2)) .inr
theorem FzT.mono{a:Addr}{xs:List V}(s:Stp ρ H ρ' H')(h:FzT K ρ H a xs):FzT K ρ' H' a xs:=h.elim (λz=>.inl (Rd.stp s z.1 z.2)) .inr
mutual
theorem RelD.mono(s:Stp ρ H ρ' H'):∀{v:V} {d:PyData},RelD K ρ H v d->RelD K ρ' H' v d
 |_,_,.non=>.non
 |_,_,.bl b=>.bl b
 |_,_,.int i=>.int i
 |_,_,.str x=>.str x
 |_,_,.tup h hl=>.tup (h.mono s) (RelDL.mono s hl)
 |_,_,.lst h n hl=>.lst (s.frm _ _ h λz=>n (.inl z)) (s.nin h n) (RelDL.mono s hl)
 |_,_,.dct h n=>.dct (s.frm _ _ h λz=>n (.inl z)) (s.nin h n)
theorem RelDL.mono(s:Stp ρ H ρ' H'):∀{vs:List V} {ds:List PyData},RelDL K ρ H vs ds->RelDL K ρ' H' vs ds
 |_,_,.nil=>.nil
 |_,_,.cons h hl=>.cons (RelD.mono s h) (RelDL.mono s hl)
end
theorem ZGP(s:Stp ρ H ρ' H'){a:Addr}{n:Nat}(h : ρ.c[n]? = some a) : ρ'.c[n]? = some a:=by
 obtain⟨r,e⟩:=s.pre;rw[e,getElem?_append_left (List.getElem?_eq_some_iff.mp h).1];exact h
mutual
theorem Rel.mono(s:Stp ρ H ρ' H'):∀{v:V} {x:W},Rel K ρ H v x->Rel K ρ' H' v x
 |_,_,.dat h=>.dat (h.mono s)
 |_,_,.ref h=>.ref (ZGP s h)
 |_,_,.inp h=>.inp (h.mono s)
 |_,_,.ty=>.ty
 |_,_,.tup h t=>.tup (h.mono s) (RelL.mono s t)
theorem RelL.mono(s:Stp ρ H ρ' H'):∀{vs:List V} {xs:List W},RelL K ρ H vs xs->RelL K ρ' H' vs xs
 |_,_,.nil=>.nil
 |_,_,.cons h t=>.cons (Rel.mono s h) (RelL.mono s t)
end
theorem RelF.mono(s:Stp ρ H ρ' H'):∀{ns:List Str} {vs:List (Str×V)} {xs:List W},RelF K ρ H ns vs xs->RelF K ρ' H' ns vs xs
 |_,_,_,.nil=>.nil
 |_,_,_,.cons h t=>.cons (h.mono s) (t.mono s)
theorem RelK.mono(s:Stp ρ H ρ' H'):∀{vs:List (Key×V)} {xs:List (Key×W)},RelK K ρ H vs xs->RelK K ρ' H' vs xs
 |_,_,.nil=>.nil
 |_,_,.cons h t=>.cons (h.mono s) (t.mono s)
theorem FzL.less{a:Addr}{xs:List V}(s:∀a,ρ'.mem a->ρ.mem a)(h:FzL K ρ H a xs):FzL K ρ' H a xs:=h.elim (λz=>.inl ⟨z.1,λq=>z.2 (s _ q)⟩) .inr
theorem FzT.less{a:Addr}{xs:List V}(s:∀a,ρ'.mem a->ρ.mem a)(h:FzT K ρ H a xs):FzT K ρ' H a xs:=h.elim (λz=>.inl ⟨z.1,λq=>z.2 (s _ q)⟩) .inr
mutual
theorem RelD.less(s:∀a,ρ'.mem a->ρ.mem a):∀{v:V} {d:PyData},RelD K ρ H v d->RelD K ρ' H v d
 |_,_,.non=>.non
 |_,_,.bl b=>.bl b
 |_,_,.int i=>.int i
 |_,_,.str x=>.str x
 |_,_,.tup h hl=>.tup (h.less s) (RelDL.less s hl)
 |_,_,.lst h n hl=>.lst h (λz=>n (s _ z)) (RelDL.less s hl)
 |_,_,.dct h n=>.dct h λz=>n (s _ z)
theorem RelDL.less(s:∀a,ρ'.mem a->ρ.mem a):∀{vs:List V} {ds:List PyData},RelDL K ρ H vs ds->RelDL K ρ' H vs ds
 |_,_,.nil=>.nil
 |_,_,.cons h hl=>.cons (RelD.less s h) (RelDL.less s hl)
end
mutual
theorem Rel.less(hc : ρ'.c = ρ.c)(s:∀a,ρ'.mem a->ρ.mem a):∀{v:V} {x:W},Rel K ρ H v x->Rel K ρ' H v x
 |_,_,.dat h=>.dat (h.less s)
 |_,_,.ref h=>.ref (by rw[hc];exact h)
 |_,_,.inp h=>.inp (h.less s)
 |_,_,.ty=>.ty
 |_,_,.tup h t=>.tup (h.less s) (RelL.less hc s t)
theorem RelL.less(hc : ρ'.c = ρ.c)(s:∀a,ρ'.mem a->ρ.mem a):∀{vs:List V} {xs:List W},RelL K ρ H vs xs->RelL K ρ' H vs xs
 |_,_,.nil=>.nil
 |_,_,.cons h t=>.cons (Rel.less hc s h) (RelL.less hc s t)
end
theorem RelF.less(hc : ρ'.c = ρ.c)(s:∀a,ρ'.mem a->ρ.mem a):∀{ns:List Str} {vs:List (Str×V)} {xs:List W},RelF K ρ H ns vs xs->RelF K ρ' H ns vs xs
 |_,_,_,.nil=>.nil
 |_,_,_,.cons h t=>.cons (h.less hc s) (t.less hc s)
theorem RelK.less(hc : ρ'.c = ρ.c)(s:∀a,ρ'.mem a->ρ.mem a):∀{vs:List (Key×V)} {xs:List (Key×W)},RelK K ρ H vs xs->RelK K ρ' H vs xs
 |_,_,.nil=>.nil
 |_,_,.cons h t=>.cons (h.less hc s) (t.less hc s)
theorem RelDL.length:∀{vs:List V} {ds:List PyData},RelDL K ρ H vs ds->vs.length=ds.length
 |_,_,.nil=>rfl
 |_,_,.cons _ h=>by rw[length_cons,length_cons,h.length]
theorem RelDL.getD:∀{vs:List V} {ds:List PyData} {i:Nat} {d:PyData},RelDL K ρ H vs ds->ds[i]? = some d->∃v,vs[i]? = some v/\RelD K ρ H v d
 |_,_,_,_,.nil,h=>by simp at h
 |_,_,0,_,.cons t _,h=>by cases h;exact⟨_,rfl,t⟩
 |_,_,i+1,_,.cons _ t,h=>t.getD (i:=i) (by simpa using h)
theorem RelDL.append:∀{vs us:List V} {ds es:List PyData},RelDL K ρ H vs ds->RelDL K ρ H us es->RelDL K ρ H (vs++us) (ds++es)
 |_,_,_,_,.nil,h=>h
 |_,_,_,_,.cons t r,h=>.cons t (r.append h)
theorem RelDL.set{v:V}{d:PyData}(t:RelD K ρ H v d):∀{vs:List V} {ds:List PyData} (i:Nat),RelDL K ρ H vs ds->RelDL K ρ H (vs.set i v) (ds.set i d)
 |_,_,_,.nil=>.nil
 |_,_,0,.cons _ r=>.cons t r
 |_,_,i+1,.cons u r=>.cons u (RelDL.set t i r)
theorem RelDL.take:∀{vs:List V} {ds:List PyData} (n:Nat),RelDL K ρ H vs ds->RelDL K ρ H (vs.take n) (ds.take n)
 |_,_,0,_=>.nil
 |_,_,_+1,.nil=>.nil
 |_,_,n+1,.cons r t=>.cons r (RelDL.take n t)
theorem RelDL.drop:∀{vs:List V} {ds:List PyData} (n:Nat),RelDL K ρ H vs ds->RelDL K ρ H (vs.drop n) (ds.drop n)
 |_,_,0,r=>r
 |_,_,_+1,.nil=>.nil
 |_,_,n+1,.cons _ t=>RelDL.drop n t
theorem RelDL.rep{vs:List V}{ds:List PyData}(t:RelDL K ρ H vs ds):∀k:Nat,RelDL K ρ H (List.replicate k vs).flatten (List.replicate k ds).flatten
 |0=>.nil
 |k+1=>by rw[replicate_succ,replicate_succ,flatten_cons,flatten_cons];exact t.append (t.rep k)
theorem RelDL.ofInts:∀{ns:List Int},RelDL K ρ H (ns.map V.int) (ns.map .int)
 |[]=>.nil
 |n::ns=>.cons (.int n) RelDL.ofInts
theorem RelL.length:∀{vs:List V} {ws:List W},RelL K ρ H vs ws->vs.length=ws.length
 |_,_,.nil=>rfl
 |_,_,.cons _ h=>by rw[length_cons,length_cons,h.length]
theorem RelL.append:∀{vs us:List V} {ds es:List W},RelL K ρ H vs ds->RelL K ρ H us es->RelL K ρ H (vs++us) (ds++es)
 |_,_,_,_,.nil,h=>h
 |_,_,_,_,.cons t r,h=>.cons t (r.append h)
theorem RelL.set{v:V}{d:W}(t:Rel K ρ H v d):∀{vs:List V} {ds:List W} (i:Nat),RelL K ρ H vs ds->RelL K ρ H (vs.set i v) (ds.set i d)
 |_,_,_,.nil=>.nil
 |_,_,0,.cons _ r=>.cons t r
 |_,_,i+1,.cons u r=>.cons u (RelL.set t i r)
theorem RelL.getD:∀{vs:List V} {ds:List W} {i:Nat} {d:W},RelL K ρ H vs ds->ds[i]? = some d->∃v,vs[i]? = some v/\Rel K ρ H v d
 |_,_,_,_,.nil,h=>by simp at h
 |_,_,0,_,.cons t _,h=>by cases h;exact⟨_,rfl,t⟩
 |_,_,i+1,_,.cons _ t,h=>t.getD (i:=i) (by simpa using h)
theorem Zp.mono(s:Stp ρ H ρ' H'){a:Addr}{c:Cell}(e:H' a=H a)(h:Zp K ρ H a c):Zp K ρ' H' a c:=by
 cases c with
 |pl ds=>obtain⟨vs,h1,h2⟩:=h;exact⟨vs,by rw[e];exact h1,h2.mono s⟩
 |rl ws=>obtain⟨vs,h1,h2⟩:=h;exact⟨vs,by rw[e];exact h1,h2.mono s⟩
 |dk ws=>obtain⟨vs,h1,h2⟩:=h;exact⟨vs,by rw[e];exact h1,h2.mono s⟩
 |ob c fs=>obtain⟨C,dx,vs,h0,h1,h2⟩:=h;exact⟨C,dx,vs,h0,by rw[e];exact h1,h2.mono s⟩
theorem Zp.less(hc : ρ'.c = ρ.c)(s:∀a,ρ'.mem a->ρ.mem a){a:Addr}{c:Cell}(h:Zp K ρ H a c):Zp K ρ' H a c:=by
 cases c with
 |pl ds=>obtain⟨vs,h1,h2⟩:=h;exact⟨vs,h1,h2.less s⟩
 |rl ws=>obtain⟨vs,h1,h2⟩:=h;exact⟨vs,h1,h2.less hc s⟩
 |dk ws=>obtain⟨vs,h1,h2⟩:=h;exact⟨vs,h1,h2.less hc s⟩
 |ob c fs=>obtain⟨C,dx,vs,h0,h1,h2⟩:=h;exact⟨C,dx,vs,h0,h1,h2.less hc s⟩
theorem Zp.has{a:Addr}{c:Cell}(h:Zp K ρ H a c):∃o,H a=some o:=by
 cases c with
 |pl ds=>obtain⟨vs,h1,h2⟩:=h;exact⟨_,h1⟩
 |rl ws=>obtain⟨vs,h1,h2⟩:=h;exact⟨_,h1⟩
 |dk ws=>obtain⟨vs,h1,h2⟩:=h;exact⟨_,h1⟩
 |ob c fs=>obtain⟨C,dx,vs,h0,h1,h2⟩:=h;exact⟨_,h1⟩
structure HR (K:PySem.W.Frag) (ρ : Rh) (H:Hp) (g:G):Prop where
 len : ρ.c.length=g.length
 nd : ρ.c.Nodup
 ce:∀(n:Nat) (c:Cell),g[n]? = some c->∃a,ρ.c[n]? = some a/\Zp K ρ H a c
 hid:∀a∈ρ.h,a∉ρ.c/\∃o,H a=some o
theorem HR.at_{g:G}(h:HR K ρ H g):∀(n:Nat) (ds:List PyData),g[n]? = some (.pl ds)->∃a vs,ρ.c[n]? = some a/\H a=some (.lst vs)/\RelDL K ρ H vs ds:=λn ds e=>by
 obtain⟨a,h1,vs,h2,h3⟩:=h.ce n _ e;exact⟨a,vs,h1,h2,h3⟩
theorem HR.has{g:G}(h:HR K ρ H g){a:Addr}(ha:a∈ρ.c):∃o,H a=some o:=by
 obtain⟨n,hn⟩:=List.mem_iff_getElem?.mp ha;have hl:=(List.getElem?_eq_some_iff.mp hn).1;rw[h.len] at hl;obtain⟨a',e,hv⟩:=h.ce n _ (getElem?_eq_getElem hl);rw[hn] at e;cases e;exact hv.has
theorem HR.nin{g:G}(h:HR K ρ H g){p:Addr}(hp:H p=none) : ¬ρ.mem p:=λz=>by
 rcases z with z|z
 ·obtain⟨vs,e⟩:=h.has z
  rw[hp] at e;cases e
 ·obtain⟨_,o,e⟩:=h.hid _ z
  rw[hp] at e;cases e
theorem HR.same{g:G}(s:Same H H')(h:HR K ρ H g):HR K ρ H' g:=⟨h.len,h.nd,λn ds e=>by
 obtain⟨a,h1,h2⟩:=h.ce n ds e;obtain⟨o,h3⟩:=h2.has;exact⟨a,h1,h2.mono (Stp.same s) (by rw[h3];exact s _ _ h3)⟩,λa z=>by
 obtain⟨h1,o,e⟩:=h.hid a z;exact⟨h1,o,s _ _ e⟩⟩
def Rh.add(ρ : Rh)(p:Addr):Rh:=⟨ρ.c++[p],ρ.h⟩
theorem HR.allocC{g:G}(h:HR K ρ H g){p:Addr}(hp:H p=none){o:HO}{c:Cell}(t:Stp ρ H (ρ.add p) (upd H p o)->Zp K (ρ.add p) (upd H p o) p c):HR K (ρ.add p) (upd H p o) (g++[c])/\Stp ρ H (ρ.add p) (upd H p o):=by
 have s:Stp ρ H (ρ.add p) (upd H p o):=⟨⟨[p],rfl⟩,rfl,λa o e _=>by rw[ZC (ZH e hp)];exact e,λa z=>by
  rcases List.mem_append.mp z with z|z
  ·exact .inl z
  ·rw[List.mem_singleton.mp z];exact .inr hp,λa u e=>⟨u,by rw[ZC (ZH e hp)];exact e,rfl⟩⟩
 refine⟨⟨by show(ρ.c++[p]).length=_;rw[length_append,length_append,h.len];rfl,?_,λn d e=>?_,λa z=>?_⟩,s⟩
 ·show(ρ.c++[p]).Nodup
  rw[List.nodup_append];refine⟨h.nd,by simp,λa ha b hb=>?_⟩;rw[List.mem_singleton.mp hb];intro z;rw[z] at ha;exact h.nin hp (.inl ha)
 ·show ∃a,(ρ.c++[p])[n]? = some a/\_
  by_cases hn:n<g.length
  ·rw[getElem?_append_left hn] at e
   obtain⟨a,h1,h2⟩:=h.ce n d e;obtain⟨u,h3⟩:=h2.has;exact⟨a,by rw[getElem?_append_left (by rw[h.len];exact hn)];exact h1,h2.mono s (ZC (ZH h3 hp))⟩
  ·have hl:n<(g++[c]).length:=(List.getElem?_eq_some_iff.mp e).1
   have hn':n=g.length:=by rw[length_append] at hl;simp at hl;omega
   rw[hn',getElem?_append_right (le_refl _)] at e;simp at e;subst e;refine⟨p,?_,t s⟩;rw[hn',←h.len,getElem?_append_right (le_refl _)];simp
 ·obtain⟨h1,u,e⟩:=h.hid a z
  refine⟨λq=>?_,u,by rw[ZC (ZH e hp)];exact e⟩;rcases List.mem_append.mp q with q|q
  ·exact h1 q
  ·rw[List.mem_singleton.mp q] at e;rw[e] at hp;cases hp
theorem HR.alloc{g:G}(h:HR K ρ H g){p:Addr}(hp:H p=none){vs:List V}{ds:List PyData}(t:RelDL K ρ H vs ds):HR K (ρ.add p) (upd H p (.lst vs)) (g++[.pl ds])/\Stp ρ H (ρ.add p) (upd H p (.lst vs)):=h.allocC hp λs=>⟨vs,ZJ,t.mono s⟩
theorem HR.writeC{g:G}(h:HR K ρ H g){n:Nat}{a:Addr}(ha : ρ.c[n]? = some a){o:HO}{c:Cell}(hk:∀u,H a=some u->kdO o=kdO u)(t:Stp ρ H ρ (upd H a o)->Zp K ρ (upd H a o) a c):HR K ρ (upd H a o) (g.set n c)/\Stp ρ H ρ (upd H a o):=by
 have hm:a∈ρ.c:=mem_of_getElem? ha;have s:Stp ρ H ρ (upd H a o):=⟨⟨[],(append_nil _).symm⟩,rfl,λb o e nb=>by rw[ZC (λz=>nb (by rw[z];exact hm))];exact e,λ_ z=>.inl z,λb u e=>by
  by_cases q:b=a
  ·subst q;exact⟨o,ZJ,hk u e⟩
  ·exact⟨u,by rw[ZC q];exact e,rfl⟩⟩
 refine⟨⟨by rw[length_set,h.len],h.nd,λm d e=>?_,λb z=>?_⟩,s⟩
 ·by_cases hnm:n=m
  ·subst hnm
   have hl:n<g.length:=by have:=(List.getElem?_eq_some_iff.mp e).1;rw[length_set] at this;exact this
   rw[getElem?_set_self hl] at e;cases e;exact⟨a,ha,t s⟩
  ·rw[getElem?_set_ne hnm] at e
   obtain⟨b,h1,h2⟩:=h.ce m d e;have:b≠a:=λz=>by
    rw[z] at h1;have l1:=(List.getElem?_eq_some_iff.mp h1).1;have e1:=(List.getElem?_eq_some_iff.mp h1).2;have l2:=(List.getElem?_eq_some_iff.mp ha).1;have e2:=(List.getElem?_eq_some_iff.mp ha).2;rcases Nat.lt_or_gt_of_ne hnm with q|q
    ·exact(List.pairwise_iff_getElem.mp h.nd n m l2 l1 q) (by rw[e1,e2])
    ·exact(List.pairwise_iff_getElem.mp h.nd m n l1 l2 q) (by rw[e1,e2])
   exact⟨b,h1,h2.mono s (ZC this)⟩
 ·obtain⟨h1,u,e⟩:=h.hid b z
  exact⟨h1,u,by rw[ZC (λq=>h1 (by rw[q];exact hm))];exact e⟩
theorem HR.write{g:G}(h:HR K ρ H g){n:Nat}{a:Addr}(ha : ρ.c[n]? = some a){us:List V}(hl:H a=some (.lst us)){vs:List V}{ds:List PyData}(t:RelDL K ρ H vs ds):HR K ρ (upd H a (.lst vs)) (g.set n (.pl ds))/\Stp ρ H ρ (upd H a (.lst vs)):=h.writeC ha (λu e=>by rw[hl] at e;cases e;rfl) λs=>⟨vs,ZJ,t.mono s⟩
theorem ZAC{g:G}(h:HR K ρ H g){p:Addr}{o:HO}(hp:H p=none):Same H (upd H p o)/\HR K ρ (upd H p o) g/\¬ρ.mem p:=⟨H1.Same.upd hp,h.same (H1.Same.upd hp),h.nin hp⟩
def Rh.hide(ρ : Rh)(p:Addr):Rh:=⟨ρ.c,p::ρ.h⟩
theorem FzL.hide{a p:Addr}{xs:List V}(hp:H p=none)(h:FzL K ρ H a xs):FzL K (ρ.hide p) (upd H p o) a xs:=by
 rcases h with ⟨h,n⟩|h
 ·have hn:a≠p:=by
   rcases h with h|⟨_,h⟩ <;> exact ZH h hp
  refine .inl ⟨?_,λz=>z.elim (λq=>n (.inl q)) λq=>(List.mem_cons.mp q).elim hn λq=>n (.inr q)⟩;unfold Rd;rw[ZC hn];exact h
 ·exact .inr h
theorem FzT.hide{a p:Addr}{xs:List V}(hp:H p=none)(h:FzT K ρ H a xs):FzT K (ρ.hide p) (upd H p o) a xs:=by
 rcases h with ⟨h,n⟩|h
 ·have hn:a≠p:=by
   rcases h with h|⟨_,h⟩ <;> exact ZH h hp
  refine .inl ⟨?_,λz=>z.elim (λq=>n (.inl q)) λq=>(List.mem_cons.mp q).elim hn λq=>n (.inr q)⟩;unfold Rd;rw[ZC hn];exact h
 ·exact .inr h
mutual
theorem RelD.hide{p:Addr}{o:HO}(hp:H p=none):∀{v:V} {d:PyData},RelD K ρ H v d->RelD K (ρ.hide p) (upd H p o) v d
 |_,_,.non=>.non
 |_,_,.bl b=>.bl b
 |_,_,.int i=>.int i
 |_,_,.str x=>.str x
 |_,_,.tup h hl=>.tup (h.hide hp) (RelDL.hide hp hl)
 |_,_,.lst h n hl=>.lst (by rw[ZC (ZH h hp)];exact h) (λz=>z.elim (λq=>n (.inl q)) λq=>(List.mem_cons.mp q).elim (ZH h hp) λq=>n (.inr q)) (RelDL.hide hp hl)
 |_,_,.dct h n=>.dct (by rw[ZC (ZH h hp)];exact h) λz=>z.elim (λq=>n (.inl q)) λq=>(List.mem_cons.mp q).elim (ZH h hp) λq=>n (.inr q)
theorem RelDL.hide{p:Addr}{o:HO}(hp:H p=none):∀{vs:List V} {ds:List PyData},RelDL K ρ H vs ds->RelDL K (ρ.hide p) (upd H p o) vs ds
 |_,_,.nil=>.nil
 |_,_,.cons h hl=>.cons (RelD.hide hp h) (RelDL.hide hp hl)
end
mutual
theorem Rel.hide{p:Addr}{o:HO}(hp:H p=none):∀{v:V} {x:W},Rel K ρ H v x->Rel K (ρ.hide p) (upd H p o) v x
 |_,_,.dat h=>.dat (h.hide hp)
 |_,_,.ref h=>.ref h
 |_,_,.inp h=>.inp (h.hide hp)
 |_,_,.ty=>.ty
 |_,_,.tup h t=>.tup (h.hide hp) (RelL.hide hp t)
theorem RelL.hide{p:Addr}{o:HO}(hp:H p=none):∀{vs:List V} {xs:List W},RelL K ρ H vs xs->RelL K (ρ.hide p) (upd H p o) vs xs
 |_,_,.nil=>.nil
 |_,_,.cons h t=>.cons (Rel.hide hp h) (RelL.hide hp t)
end
theorem RelF.hide{p:Addr}{o:HO}(hp:H p=none):∀{ns:List Str} {vs:List (Str×V)} {xs:List W},RelF K ρ H ns vs xs->RelF K (ρ.hide p) (upd H p o) ns vs xs
 |_,_,_,.nil=>.nil
 |_,_,_,.cons h t=>.cons (h.hide hp) (t.hide hp)
theorem RelK.hide{p:Addr}{o:HO}(hp:H p=none):∀{vs:List (Key×V)} {xs:List (Key×W)},RelK K ρ H vs xs->RelK K (ρ.hide p) (upd H p o) vs xs
 |_,_,.nil=>.nil
 |_,_,.cons h t=>.cons (h.hide hp) (t.hide hp)
theorem Zp.hide{p:Addr}{o:HO}(hp:H p=none){a:Addr}{c:Cell}(h:Zp K ρ H a c):Zp K (ρ.hide p) (upd H p o) a c:=by
 obtain⟨u,hu⟩:=h.has;have e:upd H p o a=H a:=ZC (ZH hu hp);cases c with
 |pl ds=>obtain⟨vs,h1,h2⟩:=h;exact⟨vs,by rw[e];exact h1,h2.hide hp⟩
 |rl ws=>obtain⟨vs,h1,h2⟩:=h;exact⟨vs,by rw[e];exact h1,h2.hide hp⟩
 |dk ws=>obtain⟨vs,h1,h2⟩:=h;exact⟨vs,by rw[e];exact h1,h2.hide hp⟩
 |ob c fs=>obtain⟨C,dx,vs,h0,h1,h2⟩:=h;exact⟨C,dx,vs,h0,by rw[e];exact h1,h2.hide hp⟩
theorem HR.hide{g:G}{p:Addr}{o:HO}(hp:H p=none)(h:HR K ρ H g):HR K (ρ.hide p) (upd H p o) g:=⟨h.len,h.nd,λn ds e=>by
 obtain⟨a,h1,h2⟩:=h.ce n ds e;exact⟨a,h1,h2.hide hp⟩,λa z=>by
 rcases List.mem_cons.mp z with rfl|z
 ·exact⟨λq=>h.nin hp (.inl q),o,ZJ⟩
 ·obtain⟨h1,u,e⟩:=h.hid a z
  exact⟨h1,u,by rw[ZC (ZH e hp)];exact e⟩⟩
theorem FzL.grow{a p:Addr}{xs:List V}(hp:p∈ρ.h)(h:FzL K ρ H a xs):FzL K ρ (upd H p o) a xs:=by
 rcases h with ⟨h,n⟩|h
 ·refine .inl ⟨?_,n⟩
  unfold Rd;rw[ZC λz=>n (.inr (by rw[z];exact hp))];exact h
 ·exact .inr h
theorem FzT.grow{a p:Addr}{xs:List V}(hp:p∈ρ.h)(h:FzT K ρ H a xs):FzT K ρ (upd H p o) a xs:=by
 rcases h with ⟨h,n⟩|h
 ·refine .inl ⟨?_,n⟩
  unfold Rd;rw[ZC λz=>n (.inr (by rw[z];exact hp))];exact h
 ·exact .inr h
mutual
theorem RelD.grow{p:Addr}{o:HO}(hp:p∈ρ.h):∀{v:V} {d:PyData},RelD K ρ H v d->RelD K ρ (upd H p o) v d
 |_,_,.non=>.non
 |_,_,.bl b=>.bl b
 |_,_,.int i=>.int i
 |_,_,.str x=>.str x
 |_,_,.tup h hl=>.tup (h.grow hp) (RelDL.grow hp hl)
 |_,_,.lst h n hl=>.lst (by rw[ZC λz=>n (.inr (by rw[z];exact hp))];exact h) n (RelDL.grow hp hl)
 |_,_,.dct h n=>.dct (by rw[ZC λz=>n (.inr (by rw[z];exact hp))];exact h) n
theorem RelDL.grow{p:Addr}{o:HO}(hp:p∈ρ.h):∀{vs:List V} {ds:List PyData},RelDL K ρ H vs ds->RelDL K ρ (upd H p o) vs ds
 |_,_,.nil=>.nil
 |_,_,.cons h hl=>.cons (RelD.grow hp h) (RelDL.grow hp hl)
end
mutual
theorem Rel.grow{p:Addr}{o:HO}(hp:p∈ρ.h):∀{v:V} {x:W},Rel K ρ H v x->Rel K ρ (upd H p o) v x
 |_,_,.dat h=>.dat (h.grow hp)
 |_,_,.ref h=>.ref h
 |_,_,.inp h=>.inp (h.grow hp)
 |_,_,.ty=>.ty
 |_,_,.tup h t=>.tup (h.grow hp) (RelL.grow hp t)
theorem RelL.grow{p:Addr}{o:HO}(hp:p∈ρ.h):∀{vs:List V} {xs:List W},RelL K ρ H vs xs->RelL K ρ (upd H p o) vs xs
 |_,_,.nil=>.nil
 |_,_,.cons h t=>.cons (Rel.grow hp h) (RelL.grow hp t)
end
theorem RelF.grow{p:Addr}{o:HO}(hp:p∈ρ.h):∀{ns:List Str} {vs:List (Str×V)} {xs:List W},RelF K ρ H ns vs xs->RelF K ρ (upd H p o) ns vs xs
 |_,_,_,.nil=>.nil
 |_,_,_,.cons h t=>.cons (h.grow hp) (t.grow hp)
theorem RelK.grow{p:Addr}{o:HO}(hp:p∈ρ.h):∀{vs:List (Key×V)} {xs:List (Key×W)},RelK K ρ H vs xs->RelK K ρ (upd H p o) vs xs
 |_,_,.nil=>.nil
 |_,_,.cons h t=>.cons (h.grow hp) (t.grow hp)
theorem HR.grow{g:G}{p:Addr}{o:HO}(hp:p∈ρ.h)(h:HR K ρ H g):HR K ρ (upd H p o) g:=⟨h.len,h.nd,λn ds e=>by
 obtain⟨a,h1,h2⟩:=h.ce n ds e;have eh:upd H p o a=H a:=ZC λz=>(h.hid p hp).1 (by rw[←z];exact mem_of_getElem? h1)
 refine⟨a,h1,?_⟩;cases ds with
 |pl ds=>obtain⟨vs,h1,h2⟩:=h2;exact⟨vs,by rw[eh];exact h1,h2.grow hp⟩
 |rl ws=>obtain⟨vs,h1,h2⟩:=h2;exact⟨vs,by rw[eh];exact h1,h2.grow hp⟩
 |dk ws=>obtain⟨vs,h1,h2⟩:=h2;exact⟨vs,by rw[eh];exact h1,h2.grow hp⟩
 |ob c fs=>obtain⟨C,dx,vs,h0,h1,h2⟩:=h2;exact⟨C,dx,vs,h0,by rw[eh];exact h1,h2.grow hp⟩,λa z=>by
 obtain⟨h1,u,e⟩:=h.hid a z
 by_cases q:a=p
 ·subst q;exact⟨h1,o,ZJ⟩
 ·exact⟨h1,u,by rw[ZC q];exact e⟩⟩
theorem HR.shown{g:G}{p:Addr}(h:HR K (ρ.hide p) H g):HR K ρ H g:=⟨h.len,h.nd,λn ds e=>by
 obtain⟨a,h1,h2⟩:=h.ce n ds e;exact⟨a,h1,h2.less (ρ':=ρ) (ρ:=ρ.hide p) rfl (λ_ z=>z.elim .inl λq=>.inr (mem_cons_of_mem _ q))⟩,λa z=>h.hid a (mem_cons_of_mem _ z)⟩
end
structure Rst (K:PySem.W.Frag) (ρ : Rh) (H:Hp) (σ : St) (sd:Sd) (g:G):Prop where
 len : σ.length=sd.length
 env:∀(i:Nat) (x:W),sd[i]? = some (some x)->∃v,σ[i]? = some (some v)/\Rel K ρ H v x
 hr:HR K ρ H g
theorem Rst.step{K:PySem.W.Frag}{ρ ρ':Rh}{H H':Hp}{σ : St}{sd:Sd}{g g':G}(r:Rst K ρ H σ sd g)(s:Stp ρ H ρ' H')(h:HR K ρ' H' g'):Rst K ρ' H' σ sd g':=⟨r.len,λi x e=>by
 obtain⟨v,h1,h2⟩:=r.env i x e;exact⟨v,h1,h2.mono s⟩,h⟩
theorem Rst.set{K:PySem.W.Frag}{ρ : Rh}{H:Hp}{σ : St}{sd:Sd}{g:G}(r:Rst K ρ H σ sd g){v:V}{x:W}(t:Rel K ρ H v x)(i:Nat):Rst K ρ H (σ.set i (some v)) (sd.set i (some x)) g:=⟨by rw[length_set,length_set,r.len],λj y e=>by
 by_cases hj:i=j
 ·subst hj
  have hl:i<sd.length:=by have:=(List.getElem?_eq_some_iff.mp e).1;rw[length_set] at this;exact this
  rw[getElem?_set_self hl] at e;cases e;exact⟨v,by rw[getElem?_set_self (by rw[r.len];exact hl)],t⟩
 ·rw[getElem?_set_ne hj] at e
  obtain⟨u,h1,h2⟩:=r.env j y e;exact⟨u,by rw[getElem?_set_ne hj];exact h1,h2⟩,r.hr⟩
abbrev DE:=Sd->G->Option (W×G)
abbrev DB:=Sd->G->Option (Bool×G)
abbrev DA:=Sd->G->Option (List W×G)
def Pv(K:PySem.W.Frag)(ρ : Rh)(H:Hp)(x:W)(g:G)(Q:VK):Prop:=∀v H' ρ',Stp ρ H ρ' H'->HR K ρ' H' g->Rel K ρ' H' v x->Q v H'
theorem Pv.step{K:PySem.W.Frag}{ρ ρ':Rh}{H H':Hp}{x:W}{g:G}{Q:VK}(p:Pv K ρ H x g Q)(s:Stp ρ H ρ' H'):Pv K ρ' H' x g Q:=λv H2 ρ2 s2 h r=>p v H2 ρ2 (s.trans s2) h r
def tE(K:PySem.W.Frag)(d:DE):TE:=λσ H Q=>∃ρ sd g x g',Rst K ρ H σ sd g/\d sd g=some (x,g')/\Pv K ρ H x g' Q
def tT(K:PySem.W.Frag)(d:DB):TT:=λσ H Q=>∃ρ sd g b g',Rst K ρ H σ sd g/\d sd g=some (b,g')/\∀H' ρ',Stp ρ H ρ' H'->HR K ρ' H' g'->Q b H'
def tA(K:PySem.W.Frag)(d:DA):TA:=λσ H Q=>∃ρ sd g xs g',Rst K ρ H σ sd g/\d sd g=some (xs,g')/\∀vs H' ρ',Stp ρ H ρ' H'->HR K ρ' H' g'->RelL K ρ' H' vs xs->Q vs H'
theorem PE.imp{X:Cx}{e:Expr}{t u:TE}(h:PE X e t)(k:∀σ H Q,u σ H Q->t σ H Q):PE X e u:=λpins s σ H Q I q=>h pins s σ H Q I (k σ H Q q)
theorem PT.imp{X:Cx}{e:Expr}{t u:TT}(h:PT X e t)(k:∀σ H Q,u σ H Q->t σ H Q):PT X e u:=λpins s σ H Q I q=>h pins s σ H Q I (k σ H Q q)
theorem PW.imp{X:Cx}{e:Expr}{t u:TT}(h:PW X e t)(k:∀σ H Q,u σ H Q->t σ H Q):PW X e u:=λwh pins s σ H Q I q=>h wh pins s σ H Q I (k σ H Q q)
theorem PA.imp{X:Cx}{e:List Expr}{t u:TA}(h:PA X e t)(k:∀σ H Q,u σ H Q->t σ H Q):PA X e u:=λpos pins s σ H Q I q=>h pos pins s σ H Q I (k σ H Q q)
theorem PS.imp{X:Cx}{e:Stmt}{t u:TS}(h:PS X e t)(k:∀D σ H,u D σ H->t D σ H):PS X e u:=λpins s σ H D I q=>h pins s σ H D I (k D σ H q)
theorem PSs.imp{X:Cx}{e:List Stmt}{t u:TS}(h:PSs X e t)(k:∀D σ H,u D σ H->t D σ H):PSs X e u:=λpins s σ H D I q=>h pins s σ H D I (k D σ H q)
theorem OpR.imp{X:Cx}{f:Value->Value->Sem Value}{r r':R2}(h:OpR X f r)(k:∀x y H Q,r' x y H Q->r x y H Q):OpR X f r':=λpins s σ H x y v u Q I rx ry q=>h pins s σ H x y v u Q I rx ry (k x y H Q q)
theorem ZQ.imp{X:Cx}{f:Value}{r r':List V->Hp->VK->Prop}(h:ZQ X f r)(k:∀xs H Q,r' xs H Q->r xs H Q):ZQ X f r':=λpins s σ H xs us Q I rx q=>h pins s σ H xs us Q I rx (k xs H Q q)
def ZB(i:Nat):DE:=λsd g=>match sd.getD i none with|some x=>some (x,g)|none=>none
def dC(d:PyData):DE:=λ_ g=>some (.dat d,g)
def dOp(f:W->W->G->Option (W×G))(da db:DE):DE:=λsd g=>(da sd g).bind λp=>(db sd p.2).bind λq=>f p.1 q.1 q.2
def dUn(f:W->G->Option (W×G))(da:DE):DE:=λsd g=>(da sd g).bind λp=>f p.1 p.2
def bW:W×G->Option (Bool×G)
 |(.dat (.bool b),g)=>some (b,g)
 |_=>none
def dB(d:DE):DB:=λsd g=>(d sd g).bind bW
def ZBM(d:DB):DB:=λsd g=>(d sd g).map λp=>(!p.1,p.2)
def ZDf(d e:DB):DB:=λsd g=>(d sd g).bind λp=>if p.1=true then e sd p.2 else some (false,p.2)
def dOr(d e:DB):DB:=λsd g=>(d sd g).bind λp=>if p.1=true then some (true,p.2) else e sd p.2
def dIf(c:DB)(a b:DE):DE:=λsd g=>(c sd g).bind λp=>if p.1=true then a sd p.2 else b sd p.2
def ZE:DA:=λ_ g=>some ([],g)
def ZA(d:DE)(a:DA):DA:=λsd g=>(d sd g).bind λp=>(a sd p.2).map λq=>(p.1::q.1,q.2)
def dF(f:List W->G->Option (W×G))(a:DA):DE:=λsd g=>(a sd g).bind λp=>f p.1 p.2
def dats:List W->Option (List PyData)
 |[]=>some []
 |.dat d::r=>(dats r).map λds=>d::ds
 |_::_=>none
def ZAE(ws:List W)(g:G):Option (W×G):=(dats ws).bind λds=>if ds.length<=1000 then some (.dat (.tuple ds),g) else none
def ZBa(ws:List W)(g:G):Option (W×G):=(dats ws).bind λds=>if ds.length<=1000 then some (.dat (.list ds),g) else none
def ZF3(ws:List W)(g:G):Option (W×G):=(dats ws).bind λds=>if ds.length<=1000 then some (.ref g.length,g++[.pl ds]) else none
def rOp(K:PySem.W.Frag)(f:W->W->G->Option (W×G)):R2:=λx y H Q=>∃ρ a b g z g',HR K ρ H g/\Rel K ρ H x a/\Rel K ρ H y b/\f a b g=some (z,g')/\Pv K ρ H z g' Q
def rF(K:PySem.W.Frag)(f:List W->G->Option (W×G)):List V->Hp->VK->Prop:=λxs H Q=>∃ρ ws g z g',HR K ρ H g/\RelL K ρ H xs ws/\f ws g=some (z,g')/\Pv K ρ H z g' Q
theorem bnd{α β : Type}{o:Option α}{f : α->Option β}{y : β}(h:o.bind f=some y):∃x,o=some x/\f x=some y:=by
 cases o with
 |none=>cases h
 |some x=>exact⟨x,rfl,h⟩
theorem mp{α β : Type}{o:Option α}{f : α->β}{y : β}(h:o.map f=some y):∃x,o=some x/\f x=y:=by
 cases o with
 |none=>cases h
 |some x=>exact⟨x,rfl,Option.some.inj h⟩
theorem ZBz{K:PySem.W.Frag}{ρ : Rh}{H:Hp}{ws:List W}:∀{vs:List V} {ds:List PyData},RelL K ρ H vs ws->dats ws=some ds->RelDL K ρ H vs ds:=by
 induction ws with
 |nil=>intro vs ds t e;cases t;cases e;exact .nil
 |cons w r ih =>
  intro vs ds t e;cases t with
  |cons h t =>
   cases h with
   |dat h =>
    obtain⟨x,e1,rfl⟩:=mp e;exact .cons h (ih t e1)
   |_=>cases e
section
variable{X:Cx}{a b c e:Expr}{es:List Expr}{da db dc d:DE}{ta tb:DB}{aa:DA}{pos p2:Pos}{f f':W->W->G->Option (W×G)}
theorem ZI8(i:Nat){x:Str}{pos:Pos}(hN:X.N[i]? = some x:=by rfl)(hv:Vis X.env.scope x:=by first|exact Or.inl rfl|exact Or.inr (Or.inl rfl)|exact Or.inr (Or.inr rfl))(hd:(x == ("__debug__" : Str))=false:=by decide)
  (hcd:(x == ("__classdict__" : Str))=false:=by decide):PE X (.Name x pos) (tE X.K (ZB i)):=(ZIF hN hv hd hcd).imp λσ H Q ⟨ρ,sd,g,y,g',r,e,q⟩=>by
 unfold ZB at e;cases h:sd.getD i none with
 |none=>rw[h] at e;cases e
 |some z =>
  rw[h] at e;cases e;have h':sd[i]? = some (some y):=by
   rw[getD_eq_getElem?_getD] at h;cases k:sd[i]? with
   |none=>rw[k] at h;cases h
   |some w=>rw[k] at h;exact congrArg some h
  obtain⟨v,h1,h2⟩:=r.env i y h';exact⟨v,h1,q v H ρ .refl r.hr h2⟩
theorem ZEv{v:V}{d:PyData}(h:PE X e (tC v))(r:∀ρ H,RelD X.K ρ H v d):PE X e (tE X.K (dC d)):=h.imp λσ H Q ⟨ρ,sd,g,y,g',hr,e,q⟩=>by
 cases e;exact q v H ρ .refl hr.hr (.dat (r ρ H))
theorem ZIL{i j pos}:PE X (.Constant (.int i) j pos) (tE X.K (dC (.int i))):=ZEv ZD4 λ_ _=>.int i
theorem de_bl{b j pos}:PE X (.Constant (.bool b) j pos) (tE X.K (dC (.bool b))):=ZEv pe_bl λ_ _=>.bl b
theorem ZIZ{j pos}:PE X (.Constant .none j pos) (tE X.K (dC .none)):=ZEv ZIG λ_ _=>.non
theorem ZIz{x j pos}:PE X (.Constant (.str x) j pos) (tE X.K (dC (.str x))):=ZEv ZJQ λ_ _=>.str x
theorem ZGL{x:Str}{n:Int}(hg:Gl X x)(h:ZDt X.mg x n)(hd:(x == ("__debug__" : Str))=false:=by decide):PE X (.Name x pos) (tE X.K (dC (.int n))):=ZEv (ZFK hg h hd) λ_ _=>.int n
theorem ZEO{σ : St}{H:Hp}{Q:VK}(h:tE X.K (dOp f da db) σ H Q):tOp (rOp X.K f) (tE X.K da) (tE X.K db) σ H Q:=by
 obtain⟨ρ,sd,g,x,g',r,e,q⟩:=h;obtain⟨⟨y,g1⟩,e1,e⟩:=bnd e;obtain⟨⟨z,g2⟩,e2,e⟩:=bnd e;refine⟨ρ,sd,g,y,g1,r,e1,λv H1 ρ1 s1 h1 r1=>⟨ρ1,sd,g1,z,g2,r.step s1 h1,e2,λw H2 ρ2 s2 h2 r2=>?_⟩⟩;exact⟨ρ2,y,z,g2,x,g',h2,r1.mono s2,r2,e,q.step (s1.trans s2)⟩
theorem de_op{op:Operator}(ho:OpR X (binaryOp op) (rOp X.K f))(ha:PE X a (tE X.K da))(hb:PE X b (tE X.K db)):PE X (.BinOp a op b pos) (tE X.K (dOp f da db)):=(ZH1 ho ha hb).imp λ_ _ _ h=>ZEO h
theorem ZIi{op:CmpOp}(ho:OpR X (compareOp op) (rOp X.K f))(ha:PE X a (tE X.K da))(hb:PE X b (tE X.K db))(hm:behindInMarks op b=false):PE X (.Compare a [op] [b] pos) (tE X.K (dOp f da db)):=(ZG6 ho ha hb hm).imp λ_ _ _ h=>ZEO h
theorem de_ix(ho:IxR X (rOp X.K f))(ha:PE X a (tE X.K da))(hb:PE X b (tE X.K db))(hs:ZC5 b):PE X (.Subscript a b pos) (tE X.K (dOp f da db)):=(pe_ix ho ha hb hs).imp λ_ _ _ h=>ZEO h
theorem ZCs{K:PySem.W.Frag}{ρ : Rh}{H:Hp}{v:V}{x:W}{g g':G}{k:Bool}(r:Rel K ρ H v x)(h:bW (x,g)=some (k,g')):v=.bl k/\g=g':=by
 cases r with
 |ref _=>cases h
 |inp _=>cases h
 |ty=>cases h
 |tup _ _=>cases h
 |dat r =>
  cases r with
  |bl c=>cases h;exact⟨rfl,rfl⟩
  |_=>cases h
theorem ZC9{σ : St}{H:Hp}{Q:Bool->Hp->Prop}{t:TE}(k:∀σ H Q,tE X.K d σ H Q->t σ H Q)(h:tT X.K (dB d) σ H Q):ZF9 t σ H Q:=by
 obtain⟨ρ,sd,g,b,g',r,e,q⟩:=h;obtain⟨⟨y,g1⟩,e1,e⟩:=bnd e;refine k _ _ _ ⟨ρ,sd,g,y,g1,r,e1,λv H1 ρ1 s1 h1 r1=>?_⟩;obtain⟨rfl,rfl⟩:=ZCs r1 e;exact⟨b,rfl,q H1 ρ1 s1 h1⟩
theorem ZIo{op:CmpOp}(ho:OpR X (compareOp op) (rOp X.K f))(ha:PE X a (tE X.K da))(hb:PE X b (tE X.K db))(hm:behindInMarks op b=false):PT X (.Compare a [op] [b] pos) (tT X.K (dB (dOp f da db))):=(ZHx ho ha hb hm).imp λ_ _ _ h=>ZC9 (λ_ _ _ h=>ZEO h) h
theorem ZIw(h:PE X e (tE X.K d))(he:∀whole,isTrue e X.env whole=(do let v ←whole;standAt e.pos;holding [v] (truthy v)):=by intro _;rfl):PT X e (tT X.K (dB d)):=(ZJY h he).imp λ_ _ _ h=>ZC9 (λ_ _ _ h=>h) h
def ZAM(f f':W->W->G->Option (W×G))(da db dc:DE):DE:=λsd g=>(da sd g).bind λp=>(db sd p.2).bind λq=>(f p.1 q.1 q.2).bind λz=>(bW z).bind λk=>if k.1=true then (dc sd k.2).bind λu=>f' q.1 u.1 u.2 else some (.dat (.bool false),k.2)
theorem ZDK{σ : St}{H:Hp}{Q:VK}(h:tE X.K (ZAM f f' da db dc) σ H Q):ZD3 (rOp X.K f) (rOp X.K f') (tE X.K da) (tE X.K db) (tE X.K dc) σ H Q:=by
 obtain⟨ρ,sd,g,x,g',r,e,q⟩:=h;obtain⟨⟨y,g1⟩,e1,e⟩:=bnd e;obtain⟨⟨z,g2⟩,e2,e⟩:=bnd e;obtain⟨⟨u,g3⟩,e3,e⟩:=bnd e;obtain⟨⟨k,g4⟩,e4,e⟩:=bnd e;refine⟨ρ,sd,g,y,g1,r,e1,λv H1 ρ1 s1 h1 r1=>⟨ρ1,sd,g1,z,g2,r.step s1 h1,e2,λw H2 ρ2 s2 h2 r2=>⟨ρ2,y,z,g2,u,g3,h2,r1.mono s2,r2,e3,λt H3 ρ3 s3 h3 r3=>?_⟩⟩⟩;obtain⟨rfl,rfl⟩:=ZCs r3 e4;refine⟨k,rfl,?_⟩;have s13:=s1.trans (s2.trans s3);cases k with
 |true =>
  obtain⟨⟨u2,g5⟩,e5,e⟩:=bnd e;exact⟨ρ3,sd,g3,u2,g5,r.step s13 h3,e5,λt4 H4 ρ4 s4 h4 r4=>⟨ρ4,z,u2,g5,x,g',h4,(r2.mono s3).mono s4,r4,e,q.step (s13.trans s4)⟩⟩
 |false =>
  cases e;exact q (.bl false) H3 ρ3 s13 h3 (.dat (.bl false))
theorem ZFW{op op':CmpOp}(ho:OpR X (compareOp op) (rOp X.K f))(ho':OpR X (compareOp op') (rOp X.K f'))(ha:PE X a (tE X.K da))(hb:PE X b (tE X.K db))(hc:PE X c (tE X.K dc))(hm:lastMarks [op,op'] [b,c]=false:=by with_unfolding_all rfl) :
  PE X (.Compare a [op,op'] [b,c] pos) (tE X.K (ZAM f f' da db dc)):=(ZGT ho ho' ha hb hc hm).imp λ_ _ _ h=>ZDK h
theorem ZGE{op op':CmpOp}(ho:OpR X (compareOp op) (rOp X.K f))(ho':OpR X (compareOp op') (rOp X.K f'))(ha:PE X a (tE X.K da))(hb:PE X b (tE X.K db))(hc:PE X c (tE X.K dc))(hm:lastMarks [op,op'] [b,c]=false:=by with_unfolding_all rfl) :
  PT X (.Compare a [op,op'] [b,c] pos) (tT X.K (dB (ZAM f f' da db dc))):=(ZGX ho ho' ha hb hc hm).imp λ_ _ _ h=>ZC9 (λ_ _ _ h=>ZDK h) h
theorem ZJT(h:PT X a (tT X.K ta)):PT X (.UnaryOp .Not a pos) (tT X.K (ZBM ta)):=(ZIT h).imp λσ H Q ⟨ρ,sd,g,b,g',r,e,q⟩=>by
 obtain⟨⟨y,g1⟩,e1,e⟩:=mp e;cases e;exact⟨ρ,sd,g,y,g1,r,e1,q⟩
theorem ZHY(h:PT X a (tT X.K ta)):PW X (.BoolOp .And [a] pos) (tT X.K ta):=ZGr h
theorem ZIR(h:PT X a (tT X.K ta)):PW X (.BoolOp .Or [a] pos) (tT X.K ta):=ZJD h
theorem ZI5{rest:List Expr}(ha:PT X a (tT X.K ta))(hb:PW X (.BoolOp .And (b::rest) pos) (tT X.K tb)):PW X (.BoolOp .And (a::b::rest) pos) (tT X.K (ZDf ta tb)):=(ZIs ha hb).imp λσ H Q ⟨ρ,sd,g,b,g',r,e,q⟩=>by
 obtain⟨⟨y,g1⟩,e1,e⟩:=bnd e;refine⟨ρ,sd,g,y,g1,r,e1,λH1 ρ1 s1 h1=>?_⟩;cases y with
 |true=>exact⟨ρ1,sd,g1,b,g',r.step s1 h1,e,λH2 ρ2 s2 h2=>q H2 ρ2 (s1.trans s2) h2⟩
 |false=>cases e;exact q H1 ρ1 s1 h1
theorem dw_or{rest:List Expr}(ha:PT X a (tT X.K ta))(hb:PW X (.BoolOp .Or (b::rest) pos) (tT X.K tb)):PW X (.BoolOp .Or (a::b::rest) pos) (tT X.K (dOr ta tb)):=(pw_or ha hb).imp λσ H Q ⟨ρ,sd,g,b,g',r,e,q⟩=>by
 obtain⟨⟨y,g1⟩,e1,e⟩:=bnd e;refine⟨ρ,sd,g,y,g1,r,e1,λH1 ρ1 s1 h1=>?_⟩;cases y with
 |false=>exact⟨ρ1,sd,g1,b,g',r.step s1 h1,e,λH2 ρ2 s2 h2=>q H2 ρ2 (s1.trans s2) h2⟩
 |true=>cases e;exact q H1 ρ1 s1 h1
def ZAj(a b:DE):DE:=λsd g=>((a sd g).bind bW).bind λp=>if p.1=true then b sd p.2 else some (.dat (.bool false),p.2)
def ZCf(a:DE):DE:=λsd g=>((a sd g).bind bW).map λp=>(.dat (.bool !p.1),p.2)
theorem ZIJ{op}(h:PE X a (tE X.K da)):PE X (.BoolOp op [a] pos) (tE X.K da):=ZIP h
theorem ZIy{rest:List Expr}(ha:PE X a (tE X.K da))(hb:PE X (.BoolOp .And (b::rest) pos) (tE X.K db)):PE X (.BoolOp .And (a::b::rest) pos) (tE X.K (ZAj da db)):=(ZJs ha hb).imp λσ H Q ⟨ρ,sd,g,x,g',r,e,q⟩=>by
 obtain⟨⟨k,g2⟩,e1,e⟩:=bnd e;obtain⟨⟨y,g1⟩,e1,e2⟩:=bnd e1;refine⟨ρ,sd,g,y,g1,r,e1,λv H1 ρ1 s1 h1 r1=>?_⟩;obtain⟨rfl,rfl⟩:=ZCs r1 e2;refine⟨k,rfl,?_⟩;cases k with
 |true=>exact⟨ρ1,sd,g1,x,g',r.step s1 h1,e,q.step s1⟩
 |false=>cases e;exact q _ H1 ρ1 s1 h1 (.dat (.bl false))
theorem ZJt(ha:PE X a (tE X.K da)):PE X (.UnaryOp .Not a pos) (tE X.K (ZCf da)):=(ZJf ha).imp λσ H Q ⟨ρ,sd,g,x,g',r,e,q⟩=>by
 obtain⟨⟨k,g2⟩,e1,e⟩:=mp e;obtain⟨⟨y,g1⟩,e1,e2⟩:=bnd e1;refine⟨ρ,sd,g,y,g1,r,e1,λv H1 ρ1 s1 h1 r1=>?_⟩;obtain⟨rfl,rfl⟩:=ZCs r1 e2;cases e;exact⟨k,rfl,q _ H1 ρ1 s1 h1 (.dat (.bl _))⟩
theorem de_if(hc:PT X c (tT X.K ta))(ha:PE X a (tE X.K da))(hb:PE X b (tE X.K db)):PE X (.IfExp c a b pos) (tE X.K (dIf ta da db)):=(ZFR hc ha hb).imp λσ H Q ⟨ρ,sd,g,x,g',r,e,q⟩=>by
 obtain⟨⟨k,g1⟩,e1,e⟩:=bnd e;refine⟨ρ,sd,g,k,g1,r,e1,λH1 ρ1 s1 h1=>?_⟩;cases k with
 |true=>exact⟨ρ1,sd,g1,x,g',r.step s1 h1,e,q.step s1⟩
 |false=>exact⟨ρ1,sd,g1,x,g',r.step s1 h1,e,q.step s1⟩
theorem ZIY:PA X [] (tA X.K ZE):=ZIj.imp λσ H Q ⟨ρ,sd,g,xs,g',r,e,q⟩=>by
 cases e;exact q [] H ρ .refl r.hr .nil
theorem ZGY(ha:PE X e (tE X.K d))(hr:PA X es (tA X.K aa))(hs:starEach (e::es) X.env=(false,eval e X.env)::starEach es X.env:=by rfl):PA X (e::es) (tA X.K (ZA d aa)):=(ZHd ha hr hs).imp λσ H Q ⟨ρ,sd,g,xs,g',r,e,q⟩=>by
 obtain⟨⟨y,g1⟩,e1,e⟩:=bnd e;obtain⟨⟨ys,g2⟩,e2,e⟩:=mp e;cases e;exact⟨ρ,sd,g,y,g1,r,e1,λv H1 ρ1 s1 h1 r1=>⟨ρ1,sd,g1,ys,g2,r.step s1 h1,e2,λvs H2 ρ2 s2 h2 r2=>q (v::vs) H2 ρ2 (s1.trans s2) h2 (.cons (r1.mono s2) r2)⟩⟩
theorem ZIh{x1}(h:PA X es (tA X.K aa)):PE X (.Tuple es x1 pos) (tE X.K (dF ZAE aa)):=(ZI4 h).imp λσ H Q ⟨ρ,sd,g,x,g',r,e,q⟩=>by
 obtain⟨⟨ws,g1⟩,e1,e⟩:=bnd e;refine⟨ρ,sd,g,ws,g1,r,e1,λvs H1 ρ1 s1 h1 r1=>?_⟩;obtain⟨ds,e2,e⟩:=bnd e;have rd:=ZBz r1 e2
 by_cases hz:ds.length<=1000
 ·simp only[if_pos hz] at e
  cases e;refine⟨by rw[rd.length];exact le_of_lt (Zt hz),λp hp=>?_⟩;obtain⟨sm,hr2,hn⟩:=ZAC (o:=.tup vs) h1 hp;exact q _ _ ρ1 (s1.trans (.same sm)) hr2 (.dat (.tup (.inl ⟨.inl ZJ,hn⟩) (rd.mono (.same sm))))
 ·simp only[if_neg hz] at e
  cases e
theorem ZIE(h:PA X es (tA X.K aa)):PE X (.List es pos) (tE X.K (dF ZBa aa)):=(ZFw h).imp λσ H Q ⟨ρ,sd,g,x,g',r,e,q⟩=>by
 obtain⟨⟨ws,g1⟩,e1,e⟩:=bnd e;refine⟨ρ,sd,g,ws,g1,r,e1,λvs H1 ρ1 s1 h1 r1=>?_⟩;obtain⟨ds,e2,e⟩:=bnd e;have rd:=ZBz r1 e2
 by_cases hz:ds.length<=1000
 ·simp only[if_pos hz] at e
  cases e;refine⟨by rw[rd.length];exact le_of_lt (Zt hz),λp hp=>?_⟩;obtain⟨sm,hr2,hn⟩:=ZAC (o:=.lst vs) h1 hp;exact q _ _ ρ1 (s1.trans (.same sm)) hr2 (.dat (.lst ZJ hn (rd.mono (.same sm))))
 ·simp only[if_neg hz] at e
  cases e
theorem ZHL(h:PA X es (tA X.K aa)):PE X (.List es pos) (tE X.K (dF ZF3 aa)):=(ZFw h).imp λσ H Q ⟨ρ,sd,g,x,g',r,e,q⟩=>by
 obtain⟨⟨ws,g1⟩,e1,e⟩:=bnd e;refine⟨ρ,sd,g,ws,g1,r,e1,λvs H1 ρ1 s1 h1 r1=>?_⟩;obtain⟨ds,e2,e⟩:=bnd e;have rd:=ZBz r1 e2
 by_cases hz:ds.length<=1000
 ·simp only[if_pos hz] at e
  cases e;refine⟨by rw[rd.length];exact le_of_lt (Zt hz),λp hp=>?_⟩;obtain⟨hr2,st⟩:=h1.alloc hp rd;exact q _ _ _ (s1.trans st) hr2 (.ref (by show(ρ1.c++[p])[_]? = _;rw[←h1.len];simp))
 ·simp only[if_neg hz] at e
  cases e
theorem ZKB{fn:List W->G->Option (W×G)}{σ : St}{H:Hp}{Q:VK}(h:tE X.K (dF fn aa) σ H Q):tA X.K aa σ H λvs H1=>rF X.K fn vs H1 Q:=by
 obtain⟨ρ,sd,g,x,g',r,e,q⟩:=h;obtain⟨⟨ws,g1⟩,e1,e⟩:=bnd e;exact⟨ρ,sd,g,ws,g1,r,e1,λvs H1 ρ1 s1 h1 r1=>⟨ρ1,ws,g1,x,g',h1,r1,e,q.step s1⟩⟩
end
end L2
namespace HI
open PySem PyProof.Rows
abbrev ZM(h:Heap)(T:Addr)(a b c:Value):Prop:=h.get? T=some { cls:=.type "tuple",data:=.seq #[a,b,c] }
structure Zip3 (z TI TO i1 i2 i3 l1 l2 l3:Addr):Prop where
 TIz:TI≠z
 TOz:TO≠z
 i1z:i1≠z
 i2z:i2≠z
 i3z:i3≠z
 TITO:TI≠TO
 TIi1:TI≠i1
 TIi2:TI≠i2
 TIi3:TI≠i3
 TOi1:TO≠i1
 TOi2:TO≠i2
 TOi3:TO≠i3
 i12:i1≠i2
 i13:i1≠i3
 i23:i2≠i3
 l1z:l1≠z
 l1TO:l1≠TO
 l1i1:l1≠i1
 l1i2:l1≠i2
 l1i3:l1≠i3
 l2z:l2≠z
 l2TO:l2≠TO
 l2i1:l2≠i1
 l2i2:l2≠i2
 l2i3:l2≠i3
 l3z:l3≠z
 l3TO:l3≠TO
 l3i1:l3≠i1
 l3i2:l3≠i2
 l3i3:l3≠i3
section
variable{prog:Program}{w:World}{A:Around}{E:Value->Shared->Prop}{s:Shared}
theorem ZEp{z TI TO i1 i2 i3 l1 l2 l3:Addr}{k1 k2 k3:Nat}{xs ys us:Array Value}{x y u a b c f0 f1:Value}{Q:Value->Shared->Prop}(ap:Zip3 z TI TO i1 i2 i3 l1 l2 l3)(hz:ZN s.heap z TI TO f0 f1)(hfree:∀Q:Bool->Shared->Prop,Q true s->wpAny (model prog w) A (Builtin.SmallTypes.ownedTupleIsFree (.ref z)) Q E s)(hTI:ZM s.heap TI (.ref i1) (.ref i2) (.ref i3))(hTO:ZM s.heap TO a b c)
  (h1:ZD true s.heap i1 l1 k1)(h2:ZD true s.heap i2 l2 k2)(h3:ZD true s.heap i3 l3 k3)(hl1:IsSq true s.heap l1 xs)(hl2:IsSq true s.heap l2 ys)(hl3:IsSq true s.heap l3 us)(hx:xs[k1]? = some x)(hy:ys[k2]? = some y)(hu:us[k3]? = some u)
  (k:∀ h',ZN h' z TI TO (rawInt s.heap.objs.size) (.bool false)->ZM h' TO x y u->ZD true h' i1 l1 (k1+1)->ZD true h' i2 l2 (k2+1)->ZD true h' i3 l3 (k3+1)->ZM h' s.heap.objs.size x y u->h'.objs.size=s.heap.objs.size+1 ->
   (∀c o,c≠z->c≠TO->c≠i1->c≠i2->c≠i3->s.heap.get? c=some o->h'.get? c=some o)->Q (.ref s.heap.objs.size) { s with heap:=h' }) :
  wpAny (model prog w) A (Builtin.«zip.__next__» ⟨[.ref z],[]⟩) (λfin s'=>∃v,fin=.done (.ret v)/\Q v s') E s:=by
 unfold Builtin.«zip.__next__»;refine wpAny_bind (m:=slotArgs "__next__" 0 ⟨[.ref z],[]⟩) (wpAny_of_eq (a:=(Value.ref z,[])) (by rfl) ?_);refine wpAny_bind (m:=field (.ref z) 2) (wpAny_field hz rfl (x:=.bool false) rfl ?_);refine wpAny_bind (m:=field (.ref z) 3) (wpAny_field hz rfl (x:=.ref TI) rfl ?_);refine wpAny_bind (m:=seqItems? (.ref TI)) (wpAny_seqItems hTI rfl ?_);dsimp only;rw[if_neg (by intro z;cases z)];refine wpAny_bind (m:=Builtin.SmallTypes.ownedTupleIsFree (.ref z)) (hfree _ ?_);rw[if_pos rfl];refine wpAny_bind (wpAny_rule ?_);refine wpAny_bind (m:=field (.ref z) 4) (wpAny_field hz rfl (x:=.ref TO) rfl ?_);dsimp only;refine wpAny_bind (wpAny_setField hz rfl (by simp) ?_);obtain⟨TIz,TOz,i1z,i2z,i3z,TITO,TIi1,TIi2,TIi3,TOi1,TOi2,TOi3,i12,i13,i23,l1z,l1TO,l1i1,l1i2,l1i3,l2z,l2TO,l2i1,l2i2,l2i3,l3z,l3TO,l3i1,l3i2,l3i3⟩:=ap;have sA:=Heap.SameBut.update (h:=s.heap) z (Obj.mapFields λ(x:Array Value)=>x.setIfInBounds 0 Value.ellipsis);have zA:ZN (s.heap.update z (Obj.mapFields λ(x:Array Value)=>x.setIfInBounds 0 Value.ellipsis)) z TI TO .ellipsis f1:=get?_update_self _ hz rfl
 generalize hHA:s.heap.update z (Obj.mapFields λ(x:Array Value)=>x.setIfInBounds 0 Value.ellipsis)=HA at *
 refine wpAny_bind ?_;show wpAny _ _ (forIn [(Value.ref i1,0),(Value.ref i2,1),(Value.ref i3,2)] _ _) _ _ _;simp only[forIn_cons,forIn_nil];refine wpAny_bind (wpAny_bind (wpAny_onRaise ?_));show wpAny _ _ (Builtin.SmallTypes.nextOf (.ref i1) >>= λv=>pure (some v)) _ _ _;have h1A:ZD true HA i1 l1 k1:=let ⟨o,e,r⟩:=h1;⟨o,(sA.2 i1 i1z).trans e,r⟩
 have h2A:ZD true HA i2 l2 k2:=let ⟨o,e,r⟩:=h2;⟨o,(sA.2 i2 i2z).trans e,r⟩
 have h3A:ZD true HA i3 l3 k3:=let ⟨o,e,r⟩:=h3;⟨o,(sA.2 i3 i3z).trans e,r⟩
 have hl1A:IsSq true HA l1 xs:=let ⟨o,e,r⟩:=hl1;⟨o,(sA.2 l1 l1z).trans e,r⟩
 have hl2A:IsSq true HA l2 ys:=let ⟨o,e,r⟩:=hl2;⟨o,(sA.2 l2 l2z).trans e,r⟩
 have hl3A:IsSq true HA l3 us:=let ⟨o,e,r⟩:=hl3;⟨o,(sA.2 l3 l3z).trans e,r⟩
 have hTOA:ZM HA TO a b c:=(sA.2 TO TOz).trans hTO;refine wpAny_bind (Z5 (s:={ s with heap:=HA }) h1A hl1A hx λHB h1B sB=>wpAny_pure ?_);dsimp only at sB ⊢;have hl1B:IsSq true HB l1 xs:=let ⟨o,e,r⟩:=hl1A;⟨o,(sB.2 l1 l1i1).trans e,r⟩
 have h2B:ZD true HB i2 l2 k2:=let ⟨o,e,r⟩:=h2A;⟨o,(sB.2 i2 (Ne.symm i12)).trans e,r⟩
 have hl2B:IsSq true HB l2 ys:=let ⟨o,e,r⟩:=hl2A;⟨o,(sB.2 l2 l2i1).trans e,r⟩
 have h3B:ZD true HB i3 l3 k3:=let ⟨o,e,r⟩:=h3A;⟨o,(sB.2 i3 (Ne.symm i13)).trans e,r⟩
 have hl3B:IsSq true HB l3 us:=let ⟨o,e,r⟩:=hl3A;⟨o,(sB.2 l3 l3i1).trans e,r⟩
 have hTOB:ZM HB TO a b c:=(sB.2 TO TOi1).trans hTOA;have zB:ZN HB z TI TO .ellipsis f1:=(sB.2 z (Ne.symm i1z)).trans zA;refine wpAny_bind (m:=seqItems? (.ref TO)) (wpAny_seqItems hTOB rfl ?_);dsimp only;refine wpAny_bind (wpAny_updateSeq hTOB rfl ?_ (by show 3<=sizeLine;decide) (by show 3<=_;decide));have sC:=Heap.SameBut.update (h:=HB) TO (Obj.mapSeq λ(x_2:Array Value)=>x_2.setIfInBounds 0 x);have hTOC:ZM (HB.update TO (Obj.mapSeq λ(x_2:Array Value)=>x_2.setIfInBounds 0 x)) TO x b c:=get?_update_self _ hTOB rfl
 generalize HB.update TO (Obj.mapSeq λ(x_2:Array Value)=>x_2.setIfInBounds 0 x)=HC at *
 refine wpAny_bind (wpAny_letGo (wpAny_pure ?_));dsimp only;have h1C:ZD true HC i1 l1 (k1+1):=let ⟨o,e,r⟩:=h1B;⟨o,(sC.2 i1 (Ne.symm TOi1)).trans e,r⟩
 have hl1C:IsSq true HC l1 xs:=let ⟨o,e,r⟩:=hl1B;⟨o,(sC.2 l1 l1TO).trans e,r⟩
 have h2C:ZD true HC i2 l2 k2:=let ⟨o,e,r⟩:=h2B;⟨o,(sC.2 i2 (Ne.symm TOi2)).trans e,r⟩
 have hl2C:IsSq true HC l2 ys:=let ⟨o,e,r⟩:=hl2B;⟨o,(sC.2 l2 l2TO).trans e,r⟩
 have h3C:ZD true HC i3 l3 k3:=let ⟨o,e,r⟩:=h3B;⟨o,(sC.2 i3 (Ne.symm TOi3)).trans e,r⟩
 have hl3C:IsSq true HC l3 us:=let ⟨o,e,r⟩:=hl3B;⟨o,(sC.2 l3 l3TO).trans e,r⟩
 have zC:ZN HC z TI TO .ellipsis f1:=(sC.2 z (Ne.symm TOz)).trans zB;refine wpAny_bind (wpAny_bind (wpAny_onRaise ?_));show wpAny _ _ (Builtin.SmallTypes.nextOf (.ref i2) >>= λv=>pure (some v)) _ _ _;refine wpAny_bind (Z5 (s:={ s with heap:=HC }) h2C hl2C hy λHD h2D sD=>wpAny_pure ?_);dsimp only at sD ⊢;have h1D:ZD true HD i1 l1 (k1+1):=let ⟨o,e,r⟩:=h1C;⟨o,(sD.2 i1 i12).trans e,r⟩
 have hl1D:IsSq true HD l1 xs:=let ⟨o,e,r⟩:=hl1C;⟨o,(sD.2 l1 l1i2).trans e,r⟩
 have hl2D:IsSq true HD l2 ys:=let ⟨o,e,r⟩:=hl2C;⟨o,(sD.2 l2 l2i2).trans e,r⟩
 have h3D:ZD true HD i3 l3 k3:=let ⟨o,e,r⟩:=h3C;⟨o,(sD.2 i3 (Ne.symm i23)).trans e,r⟩
 have hl3D:IsSq true HD l3 us:=let ⟨o,e,r⟩:=hl3C;⟨o,(sD.2 l3 l3i2).trans e,r⟩
 have hTOD:ZM HD TO x b c:=(sD.2 TO TOi2).trans hTOC;have zD:ZN HD z TI TO .ellipsis f1:=(sD.2 z (Ne.symm i2z)).trans zC;refine wpAny_bind (m:=seqItems? (.ref TO)) (wpAny_seqItems hTOD rfl ?_);dsimp only;refine wpAny_bind (wpAny_updateSeq hTOD rfl ?_ (by show 3<=sizeLine;decide) (by show 3<=_;decide));have sE:=Heap.SameBut.update (h:=HD) TO (Obj.mapSeq λ(x_2:Array Value)=>x_2.setIfInBounds 1 y);have hTOE:ZM (HD.update TO (Obj.mapSeq λ(x_2:Array Value)=>x_2.setIfInBounds 1 y)) TO x y c:=get?_update_self _ hTOD rfl
 generalize HD.update TO (Obj.mapSeq λ(x_2:Array Value)=>x_2.setIfInBounds 1 y)=HE at *
 refine wpAny_bind (wpAny_letGo (wpAny_pure ?_));dsimp only;have h1E:ZD true HE i1 l1 (k1+1):=let ⟨o,e,r⟩:=h1D;⟨o,(sE.2 i1 (Ne.symm TOi1)).trans e,r⟩
 have hl1E:IsSq true HE l1 xs:=let ⟨o,e,r⟩:=hl1D;⟨o,(sE.2 l1 l1TO).trans e,r⟩
 have h2E:ZD true HE i2 l2 (k2+1):=let ⟨o,e,r⟩:=h2D;⟨o,(sE.2 i2 (Ne.symm TOi2)).trans e,r⟩
 have hl2E:IsSq true HE l2 ys:=let ⟨o,e,r⟩:=hl2D;⟨o,(sE.2 l2 l2TO).trans e,r⟩
 have h3E:ZD true HE i3 l3 k3:=let ⟨o,e,r⟩:=h3D;⟨o,(sE.2 i3 (Ne.symm TOi3)).trans e,r⟩
 have hl3E:IsSq true HE l3 us:=let ⟨o,e,r⟩:=hl3D;⟨o,(sE.2 l3 l3TO).trans e,r⟩
 have zE:ZN HE z TI TO .ellipsis f1:=(sE.2 z (Ne.symm TOz)).trans zD;refine wpAny_bind (wpAny_bind (wpAny_onRaise ?_));show wpAny _ _ (Builtin.SmallTypes.nextOf (.ref i3) >>= λv=>pure (some v)) _ _ _;refine wpAny_bind (Z5 (s:={ s with heap:=HE }) h3E hl3E hu λHF h3F sF=>wpAny_pure ?_);dsimp only at sF ⊢;have h1F:ZD true HF i1 l1 (k1+1):=let ⟨o,e,r⟩:=h1E;⟨o,(sF.2 i1 i13).trans e,r⟩
 have hl1F:IsSq true HF l1 xs:=let ⟨o,e,r⟩:=hl1E;⟨o,(sF.2 l1 l1i3).trans e,r⟩
 have h2F:ZD true HF i2 l2 (k2+1):=let ⟨o,e,r⟩:=h2E;⟨o,(sF.2 i2 i23).trans e,r⟩
 have hl2F:IsSq true HF l2 ys:=let ⟨o,e,r⟩:=hl2E;⟨o,(sF.2 l2 l2i3).trans e,r⟩
 have hl3F:IsSq true HF l3 us:=let ⟨o,e,r⟩:=hl3E;⟨o,(sF.2 l3 l3i3).trans e,r⟩
 have hTOF:ZM HF TO x y c:=(sF.2 TO TOi3).trans hTOE;have zF:ZN HF z TI TO .ellipsis f1:=(sF.2 z (Ne.symm i3z)).trans zE;refine wpAny_bind (m:=seqItems? (.ref TO)) (wpAny_seqItems hTOF rfl ?_);dsimp only;refine wpAny_bind (wpAny_updateSeq hTOF rfl ?_ (by show 3<=sizeLine;decide) (by show 3<=_;decide));have sG:=Heap.SameBut.update (h:=HF) TO (Obj.mapSeq λ(x_2:Array Value)=>x_2.setIfInBounds 2 u);have hTOG:ZM (HF.update TO (Obj.mapSeq λ(x_2:Array Value)=>x_2.setIfInBounds 2 u)) TO x y u:=get?_update_self _ hTOF rfl
 generalize HF.update TO (Obj.mapSeq λ(x_2:Array Value)=>x_2.setIfInBounds 2 u)=HG at *
 refine wpAny_bind (wpAny_letGo (wpAny_pure (wpAny_pure ?_)));dsimp only;have h1G:ZD true HG i1 l1 (k1+1):=let ⟨o,e,r⟩:=h1F;⟨o,(sG.2 i1 (Ne.symm TOi1)).trans e,r⟩
 have hl1G:IsSq true HG l1 xs:=let ⟨o,e,r⟩:=hl1F;⟨o,(sG.2 l1 l1TO).trans e,r⟩
 have h2G:ZD true HG i2 l2 (k2+1):=let ⟨o,e,r⟩:=h2F;⟨o,(sG.2 i2 (Ne.symm TOi2)).trans e,r⟩
 have hl2G:IsSq true HG l2 ys:=let ⟨o,e,r⟩:=hl2F;⟨o,(sG.2 l2 l2TO).trans e,r⟩
 have h3G:ZD true HG i3 l3 (k3+1):=let ⟨o,e,r⟩:=h3F;⟨o,(sG.2 i3 (Ne.symm TOi3)).trans e,r⟩
 have hl3G:IsSq true HG l3 us:=let ⟨o,e,r⟩:=hl3F;⟨o,(sG.2 l3 l3TO).trans e,r⟩
 have zG:ZN HG z TI TO .ellipsis f1:=(sG.2 z (Ne.symm TOz)).trans zF;have hsz:HG.objs.size=s.heap.objs.size:=by rw[sG.1,sF.1,sE.1,sD.1,sC.1,sB.1,sA.1]
 have kE:∀c o,c≠z->c≠TO->c≠i1->c≠i2->c≠i3->s.heap.get? c=some o->HG.get? c=some o:=λc o n1 n2 n3 n4 n5 e=>by
  rw[sG.2 c n2,sF.2 c n5,sE.2 c n2,sD.2 c n4,sC.2 c n2,sB.2 c n3,sA.2 c n1];exact e
 refine wpAny_bind (m:=seqItems? (.ref TO)) (wpAny_seqItems hTOG rfl ?_);dsimp only;refine wpAny_bind (m:=newTuple [x,y,u]) (wpAny_newObj_type ?_ (by show 3<=sizeLine;decide));have hzs:z<HG.objs.size:=lt_size zG;have hF:ZM (HG.push { cls:=.type "tuple",data:=.seq #[x,y,u] }) s.heap.objs.size x y u:=by rw[←hsz];exact get?_push_size _ rfl
 have kF:∀c o,HG.get? c=some o->(HG.push { cls:=.type "tuple",data:=.seq #[x,y,u] }).get? c=some o:=λc o e=>get?_push_of_some _ e
 have szF:(HG.push { cls:=.type "tuple",data:=.seq #[x,y,u] }).objs.size=s.heap.objs.size+1:=by rw[size_push,hsz]
 have zF:=kF _ _ zG
 generalize hHF:HG.push { cls:=.type "tuple",data:=.seq #[x,y,u] }=HFF at *
 dsimp only;rw[hsz];unfold Builtin.SmallTypes.ownedTupleHandOut;refine wpAny_bind (wpAny_bind (wpAny_setField zF rfl (by simp) ?_));have sG:=Heap.SameBut.update (h:=HFF) z (Obj.mapFields λ(q:Array Value)=>q.setIfInBounds 0 (rawInt (s.heap.objs.size:Int)));have zG':ZN (HFF.update z (Obj.mapFields λ(q:Array Value)=>q.setIfInBounds 0 (rawInt (s.heap.objs.size:Int)))) z TI TO (rawInt (s.heap.objs.size:Int)) f1:=get?_update_self _ zF rfl
 generalize HFF.update z (Obj.mapFields λ(q:Array Value)=>q.setIfInBounds 0 (rawInt (s.heap.objs.size:Int)))=HGG at *
 refine wpAny_setField zG' rfl (by simp) ?_;have sH:=Heap.SameBut.update (h:=HGG) z (Obj.mapFields λ(q:Array Value)=>q.setIfInBounds 1 (.bool false));have zH:ZN (HGG.update z (Obj.mapFields λ(q:Array Value)=>q.setIfInBounds 1 (.bool false))) z TI TO (rawInt (s.heap.objs.size:Int)) (.bool false):=get?_update_self _ zG' rfl
 generalize HGG.update z (Obj.mapFields λ(q:Array Value)=>q.setIfInBounds 1 (.bool false))=HH at *
 have kH:∀c o,c≠z->HFF.get? c=some o->HH.get? c=some o:=λc o n e=>by
  rw[sH.2 c n,sG.2 c n];exact e
 have zlt:z≠s.heap.objs.size:=ne_of_lt (by rw[←hsz];exact hzs);refine wpAny_pure ⟨_,rfl,k HH zH (kH _ _ TOz (kF _ _ hTOG)) ?_ ?_ ?_ (kH _ _ (Ne.symm zlt) hF) (by rw[sH.1,sG.1,szF]) λc o n1 n2 n3 n4 n5 e=>kH c o n1 (kF c o (kE c o n1 n2 n3 n4 n5 e))⟩
 ·obtain⟨o,e,r⟩:=h1G
  exact⟨o,kH _ _ i1z (kF _ _ e),r⟩
 ·obtain⟨o,e,r⟩:=h2G
  exact⟨o,kH _ _ i2z (kF _ _ e),r⟩
 ·obtain⟨o,e,r⟩:=h3G
  exact⟨o,kH _ _ i3z (kF _ _ e),r⟩
theorem ZE3{z TI TO i1 i2 i3 l1 l2 l3:Addr}{k1 k2 k3:Nat}{xs ys us:Array Value}{T:Nat}{o:Obj}{x y u f1:Value}{Q:Value->Shared->Prop}(ap:Zip3 z TI TO i1 i2 i3 l1 l2 l3)(hz:ZN s.heap z TI TO (rawInt (T:Int)) f1)(hT:s.heap.get? T=some o)(hTI:ZM s.heap TI (.ref i1) (.ref i2) (.ref i3))
  (h1:ZD true s.heap i1 l1 k1)(h2:ZD true s.heap i2 l2 k2)(h3:ZD true s.heap i3 l3 k3)(hl1:IsSq true s.heap l1 xs)(hl2:IsSq true s.heap l2 ys)(hl3:IsSq true s.heap l3 us)(hx:xs[k1]? = some x)(hy:ys[k2]? = some y)(hu:us[k3]? = some u)
  (k:∀ h' f1',ZN h' z TI TO (rawInt (T:Int)) f1'->ZD true h' i1 l1 (k1+1)->ZD true h' i2 l2 (k2+1)->ZD true h' i3 l3 (k3+1)->ZM h' s.heap.objs.size x y u->h'.objs.size=s.heap.objs.size+1 ->
   (∀c o,c≠z->c≠i1->c≠i2->c≠i3->s.heap.get? c=some o->h'.get? c=some o)->Q (.ref s.heap.objs.size) { s with heap:=h' }) :
  wpAny (model prog w) A (Builtin.«zip.__next__» ⟨[.ref z],[]⟩) (λfin s'=>∃v,fin=.done (.ret v)/\Q v s') E s:=by
 unfold Builtin.«zip.__next__»;refine wpAny_bind (m:=slotArgs "__next__" 0 ⟨[.ref z],[]⟩) (wpAny_of_eq (a:=(Value.ref z,[])) (by rfl) ?_);refine wpAny_bind (m:=field (.ref z) 2) (wpAny_field hz rfl (x:=.bool false) rfl ?_);refine wpAny_bind (m:=field (.ref z) 3) (wpAny_field hz rfl (x:=.ref TI) rfl ?_);refine wpAny_bind (m:=seqItems? (.ref TI)) (wpAny_seqItems hTI rfl ?_);dsimp only;rw[if_neg (by intro z;cases z)];obtain⟨TIz,TOz,i1z,i2z,i3z,TITO,TIi1,TIi2,TIi3,TOi1,TOi2,TOi3,i12,i13,i23,l1z,l1TO,l1i1,l1i2,l1i3,l2z,l2TO,l2i1,l2i2,l2i3,l3z,l3TO,l3i1,l3i2,l3i3⟩:=ap;refine wpAny_bind (m:=Builtin.SmallTypes.ownedTupleIsFree (.ref z)) (ZGp hz hT λHA f1' zA sA=>?_);rw[if_neg (by intro z;cases z)];have h1A:ZD true HA i1 l1 k1:=let ⟨o,e,r⟩:=h1;⟨o,(sA.2 i1 i1z).trans e,r⟩
 have h2A:ZD true HA i2 l2 k2:=let ⟨o,e,r⟩:=h2;⟨o,(sA.2 i2 i2z).trans e,r⟩
 have h3A:ZD true HA i3 l3 k3:=let ⟨o,e,r⟩:=h3;⟨o,(sA.2 i3 i3z).trans e,r⟩
 have hl1A:IsSq true HA l1 xs:=let ⟨o,e,r⟩:=hl1;⟨o,(sA.2 l1 l1z).trans e,r⟩
 have hl2A:IsSq true HA l2 ys:=let ⟨o,e,r⟩:=hl2;⟨o,(sA.2 l2 l2z).trans e,r⟩
 have hl3A:IsSq true HA l3 us:=let ⟨o,e,r⟩:=hl3;⟨o,(sA.2 l3 l3z).trans e,r⟩
 refine wpAny_bind ?_;rw[←Array.forIn_toList];show wpAny _ _ (forIn [Value.ref i1,Value.ref i2,Value.ref i3] _ _) _ _ _;simp only[forIn_cons,forIn_nil];refine wpAny_bind (wpAny_bind (wpAny_holding ?_));show wpAny _ _ (Builtin.SmallTypes.nextOf (.ref i1) >>= λv=>pure (some v)) _ _ _;refine wpAny_bind (Z5 (s:={ s with heap:=HA }) h1A hl1A hx λHB h1B sB=>wpAny_pure ?_);dsimp only at sB ⊢;have hl1B:IsSq true HB l1 xs:=let ⟨o,e,r⟩:=hl1A;⟨o,(sB.2 l1 l1i1).trans e,r⟩
 have h2B:ZD true HB i2 l2 k2:=let ⟨o,e,r⟩:=h2A;⟨o,(sB.2 i2 (Ne.symm i12)).trans e,r⟩
 have hl2B:IsSq true HB l2 ys:=let ⟨o,e,r⟩:=hl2A;⟨o,(sB.2 l2 l2i1).trans e,r⟩
 have h3B:ZD true HB i3 l3 k3:=let ⟨o,e,r⟩:=h3A;⟨o,(sB.2 i3 (Ne.symm i13)).trans e,r⟩
 have hl3B:IsSq true HB l3 us:=let ⟨o,e,r⟩:=hl3A;⟨o,(sB.2 l3 l3i1).trans e,r⟩
 have zB:ZN HB z TI TO (rawInt (T:Int)) f1':=(sB.2 z (Ne.symm i1z)).trans zA;refine wpAny_pure (wpAny_bind (wpAny_bind (wpAny_holding ?_)));show wpAny _ _ (Builtin.SmallTypes.nextOf (.ref i2) >>= λv=>pure (some v)) _ _ _;refine wpAny_bind (Z5 (s:={ s with heap:=HB }) h2B hl2B hy λHC h2C sC=>wpAny_pure ?_);dsimp only at sC ⊢;have h1C:ZD true HC i1 l1 (k1+1):=let ⟨o,e,r⟩:=h1B;⟨o,(sC.2 i1 i12).trans e,r⟩
 have hl1C:IsSq true HC l1 xs:=let ⟨o,e,r⟩:=hl1B;⟨o,(sC.2 l1 l1i2).trans e,r⟩
 have hl2C:IsSq true HC l2 ys:=let ⟨o,e,r⟩:=hl2B;⟨o,(sC.2 l2 l2i2).trans e,r⟩
 have h3C:ZD true HC i3 l3 k3:=let ⟨o,e,r⟩:=h3B;⟨o,(sC.2 i3 (Ne.symm i23)).trans e,r⟩
 have hl3C:IsSq true HC l3 us:=let ⟨o,e,r⟩:=hl3B;⟨o,(sC.2 l3 l3i2).trans e,r⟩
 have zC:ZN HC z TI TO (rawInt (T:Int)) f1':=(sC.2 z (Ne.symm i2z)).trans zB;refine wpAny_pure (wpAny_bind (wpAny_bind (wpAny_holding ?_)));show wpAny _ _ (Builtin.SmallTypes.nextOf (.ref i3) >>= λv=>pure (some v)) _ _ _;refine wpAny_bind (Z5 (s:={ s with heap:=HC }) h3C hl3C hu λHD h3D sD=>wpAny_pure ?_);dsimp only at sD ⊢;have h1D:ZD true HD i1 l1 (k1+1):=let ⟨o,e,r⟩:=h1C;⟨o,(sD.2 i1 i13).trans e,r⟩
 have hl1D:IsSq true HD l1 xs:=let ⟨o,e,r⟩:=hl1C;⟨o,(sD.2 l1 l1i3).trans e,r⟩
 have h2D:ZD true HD i2 l2 (k2+1):=let ⟨o,e,r⟩:=h2C;⟨o,(sD.2 i2 i23).trans e,r⟩
 have hl2D:IsSq true HD l2 ys:=let ⟨o,e,r⟩:=hl2C;⟨o,(sD.2 l2 l2i3).trans e,r⟩
 have hl3D:IsSq true HD l3 us:=let ⟨o,e,r⟩:=hl3C;⟨o,(sD.2 l3 l3i3).trans e,r⟩
 have zD:ZN HD z TI TO (rawInt (T:Int)) f1':=(sD.2 z (Ne.symm i3z)).trans zC;refine wpAny_pure (wpAny_pure ?_);dsimp only;have hsz:HD.objs.size=s.heap.objs.size:=by rw[sD.1,sC.1,sB.1,sA.1]
 have kC:∀c o,c≠z->c≠i1->c≠i2->c≠i3->s.heap.get? c=some o->HD.get? c=some o:=λc o n1 n3 n4 n5 e=>by
  rw[sD.2 c n5,sC.2 c n4,sB.2 c n3,sA.2 c n1];exact e
 refine wpAny_bind (m:=newTuple [x,y,u]) (wpAny_newObj_type ?_ (by show 3<=sizeLine;decide));have hF:ZM (HD.push { cls:=.type "tuple",data:=.seq #[x,y,u] }) s.heap.objs.size x y u:=by rw[←hsz];exact get?_push_size _ rfl
 have kF:∀c o,HD.get? c=some o->(HD.push { cls:=.type "tuple",data:=.seq #[x,y,u] }).get? c=some o:=λc o e=>get?_push_of_some _ e
 have szF:(HD.push { cls:=.type "tuple",data:=.seq #[x,y,u] }).objs.size=s.heap.objs.size+1:=by rw[size_push,hsz]
 have zF:=kF _ _ zD;refine wpAny_pure ⟨_,rfl,?_⟩;dsimp only;rw[hsz];refine k _ f1' zF ?_ ?_ ?_ hF szF λc o n1 n3 n4 n5 e=>kF c o (kC c o n1 n3 n4 n5 e)
 ·obtain⟨o,e,r⟩:=h1D
  exact⟨o,kF _ _ e,r⟩
 ·obtain⟨o,e,r⟩:=h2D
  exact⟨o,kF _ _ e,r⟩
 ·obtain⟨o,e,r⟩:=h3D
  exact⟨o,kF _ _ e,r⟩
theorem ZDR{z TI TO i1 i2 i3 l1 l2 l3:Addr}{k1 k2 k3:Nat}{xs ys us:Array Value}{a b c f0 f1:Value}{Q:PySem.Fin->Shared->Prop}(hh:A.handled=none)(ap:Zip3 z TI TO i1 i2 i3 l1 l2 l3)(hz:ZN s.heap z TI TO f0 f1)(hfree:∀Q:Bool->Shared->Prop,Q true s->wpAny (model prog w) A (Builtin.SmallTypes.ownedTupleIsFree (.ref z)) Q E s)(hTI:ZM s.heap TI (.ref i1) (.ref i2) (.ref i3))(hTO:ZM s.heap TO a b c)
  (h1:ZD true s.heap i1 l1 k1)(h2:ZD true s.heap i2 l2 k2)(h3:ZD true s.heap i3 l3 k3)(hl1:IsSq true s.heap l1 xs)(hl2:IsSq true s.heap l2 ys)(hl3:IsSq true s.heap l3 us)(hx:xs[k1]? = none∨ys[k2]? = none∨us[k3]? = none)
  (k:∀h' e,(∀c o,c≠z->c≠TO->c≠i1->c≠i2->c≠i3->s.heap.get? c=some o->h'.get? c=some o)->(∃o,h'.get? e=some o/\o.cls=.type "StopIteration")->E (.ref e) { s with heap:=h' }) :
  wpAny (model prog w) A (Builtin.«zip.__next__» ⟨[.ref z],[]⟩) Q E s:=by
 unfold Builtin.«zip.__next__»;refine wpAny_bind (m:=slotArgs "__next__" 0 ⟨[.ref z],[]⟩) (wpAny_of_eq (a:=(Value.ref z,[])) (by rfl) ?_);refine wpAny_bind (m:=field (.ref z) 2) (wpAny_field hz rfl (x:=.bool false) rfl ?_);refine wpAny_bind (m:=field (.ref z) 3) (wpAny_field hz rfl (x:=.ref TI) rfl ?_);refine wpAny_bind (m:=seqItems? (.ref TI)) (wpAny_seqItems hTI rfl ?_);dsimp only;rw[if_neg (by intro z;cases z)];refine wpAny_bind (m:=Builtin.SmallTypes.ownedTupleIsFree (.ref z)) (hfree _ ?_);rw[if_pos rfl];refine wpAny_bind (wpAny_rule ?_);refine wpAny_bind (m:=field (.ref z) 4) (wpAny_field hz rfl (x:=.ref TO) rfl ?_);dsimp only;refine wpAny_bind (wpAny_setField hz rfl (by simp) ?_);obtain⟨TIz,TOz,i1z,i2z,i3z,TITO,TIi1,TIi2,TIi3,TOi1,TOi2,TOi3,i12,i13,i23,l1z,l1TO,l1i1,l1i2,l1i3,l2z,l2TO,l2i1,l2i2,l2i3,l3z,l3TO,l3i1,l3i2,l3i3⟩:=ap;have sA:=Heap.SameBut.update (h:=s.heap) z (Obj.mapFields λ(x:Array Value)=>x.setIfInBounds 0 Value.ellipsis);have zA:ZN (s.heap.update z (Obj.mapFields λ(x:Array Value)=>x.setIfInBounds 0 Value.ellipsis)) z TI TO .ellipsis f1:=get?_update_self _ hz rfl
 generalize hHA:s.heap.update z (Obj.mapFields λ(x:Array Value)=>x.setIfInBounds 0 Value.ellipsis)=HA at *
 refine wpAny_bind ?_;show wpAny _ _ (forIn [(Value.ref i1,0),(Value.ref i2,1),(Value.ref i3,2)] _ _) _ _ _;simp only[forIn_cons,forIn_nil];refine wpAny_bind (wpAny_bind (wpAny_onRaise ?_));show wpAny _ _ (Builtin.SmallTypes.nextOf (.ref i1) >>= λv=>pure (some v)) _ _ _;have h1A:ZD true HA i1 l1 k1:=let ⟨o,e,r⟩:=h1;⟨o,(sA.2 i1 i1z).trans e,r⟩
 have h2A:ZD true HA i2 l2 k2:=let ⟨o,e,r⟩:=h2;⟨o,(sA.2 i2 i2z).trans e,r⟩
 have h3A:ZD true HA i3 l3 k3:=let ⟨o,e,r⟩:=h3;⟨o,(sA.2 i3 i3z).trans e,r⟩
 have hl1A:IsSq true HA l1 xs:=let ⟨o,e,r⟩:=hl1;⟨o,(sA.2 l1 l1z).trans e,r⟩
 have hl2A:IsSq true HA l2 ys:=let ⟨o,e,r⟩:=hl2;⟨o,(sA.2 l2 l2z).trans e,r⟩
 have hl3A:IsSq true HA l3 us:=let ⟨o,e,r⟩:=hl3;⟨o,(sA.2 l3 l3z).trans e,r⟩
 have hTOA:ZM HA TO a b c:=(sA.2 TO TOz).trans hTO;have last:∀(h':Heap) (e:Addr) (g1:Value),ZN h' z TI TO .ellipsis g1->(∀c o,c≠z->c≠TO->c≠i1->c≠i2->c≠i3->s.heap.get? c=some o->h'.get? c=some o)->(∃o,h'.get? e=some o/\o.cls=.type "StopIteration") ->
   wpAny (model prog w) A (setField (.ref z) 0 Value.none) (λ_ s''=>E (.ref e) s'') E { s with heap:=h' }:=λh' e g1 hz' kp he=>by
  have se:=Heap.SameBut.update (h:=h') z (Obj.mapFields λ(x:Array Value)=>x.setIfInBounds 0 Value.none);refine wpAny_setField hz' rfl (by simp) (k _ e (λc o n1 n2 n3 n4 n5 q=>(se.2 c n1).trans (kp c o n1 n2 n3 n4 n5 q)) ?_);obtain⟨o,ho,hc⟩:=he;have nz:e≠z:=by
   intro q;rw[q,hz'] at ho;cases ho;have hc':Value.type "zip" = Value.type "StopIteration":=hc;exact absurd hc' (by decide)
  exact⟨o,(se.2 e nz).trans ho,hc⟩
 cases hxk:xs[k1]? with
 |none =>
  refine wpAny_bind (Zf (s:={ s with heap:=HA }) hh h1A hl1A hxk λh' e eb he=>?_);exact last h' e f1 (eb z _ (Ne.symm i1z) zA) (λc o n1 n2 n3 n4 n5 q=>eb c o n3 ((sA.2 c n1).trans q)) he
 |some v1 =>
  refine wpAny_bind (Z5 (s:={ s with heap:=HA }) h1A hl1A hxk λHB h1B sB=>wpAny_pure ?_);dsimp only at sB ⊢;have hl1B:IsSq true HB l1 xs:=let ⟨o,e,r⟩:=hl1A;⟨o,(sB.2 l1 l1i1).trans e,r⟩
  have h2B:ZD true HB i2 l2 k2:=let ⟨o,e,r⟩:=h2A;⟨o,(sB.2 i2 (Ne.symm i12)).trans e,r⟩
  have hl2B:IsSq true HB l2 ys:=let ⟨o,e,r⟩:=hl2A;⟨o,(sB.2 l2 l2i1).trans e,r⟩
  have h3B:ZD true HB i3 l3 k3:=let ⟨o,e,r⟩:=h3A;⟨o,(sB.2 i3 (Ne.symm i13)).trans e,r⟩
  have hl3B:IsSq true HB l3 us:=let ⟨o,e,r⟩:=hl3A;⟨o,(sB.2 l3 l3i1).trans e,r⟩
  have hTOB:ZM HB TO a b c:=(sB.2 TO TOi1).trans hTOA;have zB:ZN HB z TI TO .ellipsis f1:=(sB.2 z (Ne.symm i1z)).trans zA;refine wpAny_bind (m:=seqItems? (.ref TO)) (wpAny_seqItems hTOB rfl ?_);dsimp only;refine wpAny_bind (wpAny_updateSeq hTOB rfl ?_ (by show 3<=sizeLine;decide) (by show 3<=_;decide));have sC:=Heap.SameBut.update (h:=HB) TO (Obj.mapSeq λ(x_2:Array Value)=>x_2.setIfInBounds 0 v1);have hTOC:ZM (HB.update TO (Obj.mapSeq λ(x_2:Array Value)=>x_2.setIfInBounds 0 v1)) TO v1 b c:=get?_update_self _ hTOB rfl
  generalize HB.update TO (Obj.mapSeq λ(x_2:Array Value)=>x_2.setIfInBounds 0 v1)=HC at *
  refine wpAny_bind (wpAny_letGo (wpAny_pure ?_));dsimp only;have h1C:ZD true HC i1 l1 (k1+1):=let ⟨o,e,r⟩:=h1B;⟨o,(sC.2 i1 (Ne.symm TOi1)).trans e,r⟩
  have hl1C:IsSq true HC l1 xs:=let ⟨o,e,r⟩:=hl1B;⟨o,(sC.2 l1 l1TO).trans e,r⟩
  have h2C:ZD true HC i2 l2 k2:=let ⟨o,e,r⟩:=h2B;⟨o,(sC.2 i2 (Ne.symm TOi2)).trans e,r⟩
  have hl2C:IsSq true HC l2 ys:=let ⟨o,e,r⟩:=hl2B;⟨o,(sC.2 l2 l2TO).trans e,r⟩
  have h3C:ZD true HC i3 l3 k3:=let ⟨o,e,r⟩:=h3B;⟨o,(sC.2 i3 (Ne.symm TOi3)).trans e,r⟩
  have hl3C:IsSq true HC l3 us:=let ⟨o,e,r⟩:=hl3B;⟨o,(sC.2 l3 l3TO).trans e,r⟩
  have zC:ZN HC z TI TO .ellipsis f1:=(sC.2 z (Ne.symm TOz)).trans zB;refine wpAny_bind (wpAny_bind (wpAny_onRaise ?_));show wpAny _ _ (Builtin.SmallTypes.nextOf (.ref i2) >>= λv=>pure (some v)) _ _ _;cases hyk:ys[k2]? with
  |none =>
   refine wpAny_bind (Zf (s:={ s with heap:=HC }) hh h2C hl2C hyk λh' e eb he=>?_);exact last h' e f1 (eb z _ (Ne.symm i2z) zC) (λc o n1 n2 n3 n4 n5 q=>eb c o n4 ((sC.2 c n2).trans ((sB.2 c n3).trans ((sA.2 c n1).trans q)))) he
  |some v2 =>
   refine wpAny_bind (Z5 (s:={ s with heap:=HC }) h2C hl2C hyk λHD h2D sD=>wpAny_pure ?_);dsimp only at sD ⊢;have h1D:ZD true HD i1 l1 (k1+1):=let ⟨o,e,r⟩:=h1C;⟨o,(sD.2 i1 i12).trans e,r⟩
   have hl1D:IsSq true HD l1 xs:=let ⟨o,e,r⟩:=hl1C;⟨o,(sD.2 l1 l1i2).trans e,r⟩
   have hl2D:IsSq true HD l2 ys:=let ⟨o,e,r⟩:=hl2C;⟨o,(sD.2 l2 l2i2).trans e,r⟩
   have h3D:ZD true HD i3 l3 k3:=let ⟨o,e,r⟩:=h3C;⟨o,(sD.2 i3 (Ne.symm i23)).trans e,r⟩
   have hl3D:IsSq true HD l3 us:=let ⟨o,e,r⟩:=hl3C;⟨o,(sD.2 l3 l3i2).trans e,r⟩
   have hTOD:ZM HD TO v1 b c:=(sD.2 TO TOi2).trans hTOC;have zD:ZN HD z TI TO .ellipsis f1:=(sD.2 z (Ne.symm i2z)).trans zC;refine wpAny_bind (m:=seqItems? (.ref TO)) (wpAny_seqItems hTOD rfl ?_);dsimp only;refine wpAny_bind (wpAny_updateSeq hTOD rfl ?_ (by show 3<=sizeLine;decide) (by show 3<=_;decide));have sE:=Heap.SameBut.update (h:=HD) TO (Obj.mapSeq λ(x_2:Array Value)=>x_2.setIfInBounds 1 v2);have hTOE:ZM (HD.update TO (Obj.mapSeq λ(x_2:Array Value)=>x_2.setIfInBounds 1 v2)) TO v1 v2 c:=get?_update_self _ hTOD rfl
   generalize HD.update TO (Obj.mapSeq λ(x_2:Array Value)=>x_2.setIfInBounds 1 v2)=HE at *
   refine wpAny_bind (wpAny_letGo (wpAny_pure ?_));dsimp only;have h1E:ZD true HE i1 l1 (k1+1):=let ⟨o,e,r⟩:=h1D;⟨o,(sE.2 i1 (Ne.symm TOi1)).trans e,r⟩
   have hl1E:IsSq true HE l1 xs:=let ⟨o,e,r⟩:=hl1D;⟨o,(sE.2 l1 l1TO).trans e,r⟩
   have h2E:ZD true HE i2 l2 (k2+1):=let ⟨o,e,r⟩:=h2D;⟨o,(sE.2 i2 (Ne.symm TOi2)).trans e,r⟩
   have hl2E:IsSq true HE l2 ys:=let ⟨o,e,r⟩:=hl2D;⟨o,(sE.2 l2 l2TO).trans e,r⟩
   have h3E:ZD true HE i3 l3 k3:=let ⟨o,e,r⟩:=h3D;⟨o,(sE.2 i3 (Ne.symm TOi3)).trans e,r⟩
   have hl3E:IsSq true HE l3 us:=let ⟨o,e,r⟩:=hl3D;⟨o,(sE.2 l3 l3TO).trans e,r⟩
   have zE:ZN HE z TI TO .ellipsis f1:=(sE.2 z (Ne.symm TOz)).trans zD;refine wpAny_bind (wpAny_bind (wpAny_onRaise ?_));show wpAny _ _ (Builtin.SmallTypes.nextOf (.ref i3) >>= λv=>pure (some v)) _ _ _;have huk:us[k3]? = none:=by
    rcases hx with q|q|q
    ·rw[hxk] at q;cases q
    ·rw[hyk] at q;cases q
    ·exact q
   refine wpAny_bind (Zf (s:={ s with heap:=HE }) hh h3E hl3E huk λh' e eb he=>?_);exact last h' e f1 (eb z _ (Ne.symm i3z) zE) (λc o n1 n2 n3 n4 n5 q=>eb c o n5 ((sE.2 c n2).trans ((sD.2 c n4).trans ((sC.2 c n2).trans ((sB.2 c n3).trans ((sA.2 c n1).trans q)))))) he
theorem ZFc{z TI TO i1 i2 i3 l1 l2 l3:Addr}{k1 k2 k3:Nat}{xs ys us:Array Value}{T:Nat}{o:Obj}{f1:Value}{Q:PySem.Fin->Shared->Prop}(hh:A.handled=none)(ap:Zip3 z TI TO i1 i2 i3 l1 l2 l3)(hz:ZN s.heap z TI TO (rawInt (T:Int)) f1)(hT:s.heap.get? T=some o)(hTI:ZM s.heap TI (.ref i1) (.ref i2) (.ref i3))
  (h1:ZD true s.heap i1 l1 k1)(h2:ZD true s.heap i2 l2 k2)(h3:ZD true s.heap i3 l3 k3)(hl1:IsSq true s.heap l1 xs)(hl2:IsSq true s.heap l2 ys)(hl3:IsSq true s.heap l3 us)(hx:xs[k1]? = none∨ys[k2]? = none∨us[k3]? = none)
  (k:∀h' e,(∀c o,c≠z->c≠TO->c≠i1->c≠i2->c≠i3->s.heap.get? c=some o->h'.get? c=some o)->(∃o,h'.get? e=some o/\o.cls=.type "StopIteration")->E (.ref e) { s with heap:=h' }) :
  wpAny (model prog w) A (Builtin.«zip.__next__» ⟨[.ref z],[]⟩) Q E s:=by
 unfold Builtin.«zip.__next__»;refine wpAny_bind (m:=slotArgs "__next__" 0 ⟨[.ref z],[]⟩) (wpAny_of_eq (a:=(Value.ref z,[])) (by rfl) ?_);refine wpAny_bind (m:=field (.ref z) 2) (wpAny_field hz rfl (x:=.bool false) rfl ?_);refine wpAny_bind (m:=field (.ref z) 3) (wpAny_field hz rfl (x:=.ref TI) rfl ?_);refine wpAny_bind (m:=seqItems? (.ref TI)) (wpAny_seqItems hTI rfl ?_);dsimp only;rw[if_neg (by intro z;cases z)];obtain⟨TIz,TOz,i1z,i2z,i3z,TITO,TIi1,TIi2,TIi3,TOi1,TOi2,TOi3,i12,i13,i23,l1z,l1TO,l1i1,l1i2,l1i3,l2z,l2TO,l2i1,l2i2,l2i3,l3z,l3TO,l3i1,l3i2,l3i3⟩:=ap;refine wpAny_bind (m:=Builtin.SmallTypes.ownedTupleIsFree (.ref z)) (ZGp hz hT λHA f1' zA sA=>?_);rw[if_neg (by intro z;cases z)];have h1A:ZD true HA i1 l1 k1:=let ⟨o,e,r⟩:=h1;⟨o,(sA.2 i1 i1z).trans e,r⟩
 have h2A:ZD true HA i2 l2 k2:=let ⟨o,e,r⟩:=h2;⟨o,(sA.2 i2 i2z).trans e,r⟩
 have h3A:ZD true HA i3 l3 k3:=let ⟨o,e,r⟩:=h3;⟨o,(sA.2 i3 i3z).trans e,r⟩
 have hl1A:IsSq true HA l1 xs:=let ⟨o,e,r⟩:=hl1;⟨o,(sA.2 l1 l1z).trans e,r⟩
 have hl2A:IsSq true HA l2 ys:=let ⟨o,e,r⟩:=hl2;⟨o,(sA.2 l2 l2z).trans e,r⟩
 have hl3A:IsSq true HA l3 us:=let ⟨o,e,r⟩:=hl3;⟨o,(sA.2 l3 l3z).trans e,r⟩
 refine wpAny_bind ?_;rw[←Array.forIn_toList];show wpAny _ _ (forIn [Value.ref i1,Value.ref i2,Value.ref i3] _ _) _ _ _;simp only[forIn_cons,forIn_nil];refine wpAny_bind (wpAny_bind (wpAny_holding ?_));show wpAny _ _ (Builtin.SmallTypes.nextOf (.ref i1) >>= λv=>pure (some v)) _ _ _;cases hxk:xs[k1]? with
 |none =>
  refine wpAny_bind (Zf (s:={ s with heap:=HA }) hh h1A hl1A hxk λh' e eb he=>?_);exact k h' e (λc o n1 n2 n3 n4 n5 q=>eb c o n3 ((sA.2 c n1).trans q)) he
 |some v1 =>
  refine wpAny_bind (Z5 (s:={ s with heap:=HA }) h1A hl1A hxk λHB h1B sB=>wpAny_pure ?_);dsimp only at sB ⊢;have hl1B:IsSq true HB l1 xs:=let ⟨o,e,r⟩:=hl1A;⟨o,(sB.2 l1 l1i1).trans e,r⟩
  have h2B:ZD true HB i2 l2 k2:=let ⟨o,e,r⟩:=h2A;⟨o,(sB.2 i2 (Ne.symm i12)).trans e,r⟩
  have hl2B:IsSq true HB l2 ys:=let ⟨o,e,r⟩:=hl2A;⟨o,(sB.2 l2 l2i1).trans e,r⟩
  have h3B:ZD true HB i3 l3 k3:=let ⟨o,e,r⟩:=h3A;⟨o,(sB.2 i3 (Ne.symm i13)).trans e,r⟩
  have hl3B:IsSq true HB l3 us:=let ⟨o,e,r⟩:=hl3A;⟨o,(sB.2 l3 l3i1).trans e,r⟩
  refine wpAny_pure (wpAny_bind (wpAny_bind (wpAny_holding ?_)));show wpAny _ _ (Builtin.SmallTypes.nextOf (.ref i2) >>= λv=>pure (some v)) _ _ _;cases hyk:ys[k2]? with
  |none =>
   refine wpAny_bind (Zf (s:={ s with heap:=HB }) hh h2B hl2B hyk λh' e eb he=>?_);exact k h' e (λc o n1 n2 n3 n4 n5 q=>eb c o n4 ((sB.2 c n3).trans ((sA.2 c n1).trans q))) he
  |some v2 =>
   refine wpAny_bind (Z5 (s:={ s with heap:=HB }) h2B hl2B hyk λHC h2C sC=>wpAny_pure ?_);dsimp only at sC ⊢;have h1C:ZD true HC i1 l1 (k1+1):=let ⟨o,e,r⟩:=h1B;⟨o,(sC.2 i1 i12).trans e,r⟩
   have hl1C:IsSq true HC l1 xs:=let ⟨o,e,r⟩:=hl1B;⟨o,(sC.2 l1 l1i2).trans e,r⟩
   have hl2C:IsSq true HC l2 ys:=let ⟨o,e,r⟩:=hl2B;⟨o,(sC.2 l2 l2i2).trans e,r⟩
   have h3C:ZD true HC i3 l3 k3:=let ⟨o,e,r⟩:=h3B;⟨o,(sC.2 i3 (Ne.symm i23)).trans e,r⟩
   have hl3C:IsSq true HC l3 us:=let ⟨o,e,r⟩:=hl3B;⟨o,(sC.2 l3 l3i2).trans e,r⟩
   refine wpAny_pure (wpAny_bind (wpAny_bind (wpAny_holding ?_)));show wpAny _ _ (Builtin.SmallTypes.nextOf (.ref i3) >>= λv=>pure (some v)) _ _ _;have huk:us[k3]? = none:=by
    rcases hx with q|q|q
    ·rw[hxk] at q;cases q
    ·rw[hyk] at q;cases q
    ·exact q
   refine wpAny_bind (Zf (s:={ s with heap:=HC }) hh h3C hl3C huk λh' e eb he=>?_);exact k h' e (λc o n1 n2 n3 n4 n5 q=>eb c o n5 ((sC.2 c n4).trans ((sB.2 c n3).trans ((sA.2 c n1).trans q)))) he
structure ZipS3 (h:Heap) (z TI TO i1 i2 i3 l1 l2 l3:Addr) (i:Nat):Prop where
 zo:∃f0 f1,ZN h z TI TO f0 f1/\(f0=.none∨∃T:Nat,f0=rawInt (T:Int))
 ti:ZM h TI (.ref i1) (.ref i2) (.ref i3)
 to:∃a b c,ZM h TO a b c
 it1:ZD true h i1 l1 i
 it2:ZD true h i2 l2 i
 it3:ZD true h i3 l3 i
theorem nextZip3{z TI TO i1 i2 i3 l1 l2 l3:Addr}{i:Nat}{xs ys us:Array Value}{x y u:Value}{Q:Option Value->Shared->Prop}(ap:Zip3 z TI TO i1 i2 i3 l1 l2 l3)(S:ZipS3 s.heap z TI TO i1 i2 i3 l1 l2 l3 i)(hl1:IsSq true s.heap l1 xs)(hl2:IsSq true s.heap l2 ys)(hl3:IsSq true s.heap l3 us)(hx:xs[i]? = some x)(hy:ys[i]? = some y)(hu:us[i]? = some u)
  (k:∀h',ZipS3 h' z TI TO i1 i2 i3 l1 l2 l3 (i+1)->ZM h' s.heap.objs.size x y u->h'.objs.size=s.heap.objs.size+1->(∀c o,c≠z->c≠TO->c≠i1->c≠i2->c≠i3->s.heap.get? c=some o->h'.get? c=some o)->Q (some (.ref s.heap.objs.size)) { s with heap:=h' }) :
  wpAny (model prog w) A (pyNext (.ref z)) Q E s:=by
 obtain⟨⟨f0,f1,hz,hf⟩,hti,⟨a,b,c,hto⟩,h1,h2,h3⟩:=S;have ty:s.TypeIs (.ref z) "zip":=⟨_,hz,rfl⟩;unfold pyNext;refine wpAny_bind (wpAny_attempt ?_);refine wpAny_callSpecial?_slot (name:=Str.ofString "__next__") ty F.slot_zip_next (wpAny_call_entry F.slot_zip_next ty F.entry_zip_next ?_ (F.args_zip_next_1 _));have own:∀(E':Value->Shared->Prop) (A':Around),(∀Q:Bool->Shared->Prop,Q true s->wpAny (model prog w) A' (Builtin.SmallTypes.ownedTupleIsFree (.ref z)) Q E' s)->wpAny (model prog w) A' (Builtin.«zip.__next__» ⟨[.ref z],[]⟩) (λfin s'=>∃v,fin=.done (.ret v)/\wpAny (model prog w) A (pure (some v)) Q E s') E' s:=λE' A' fr=>by
  refine ZEp ap hz fr hti hto h1 h2 h3 hl1 hl2 hl3 hx hy hu λh' z' to' t1 t2 t3 pr sz kp=>wpAny_pure (k h' ⟨⟨_,_,z',.inr ⟨_,rfl⟩⟩,kp _ _ ap.TIz ap.TITO ap.TIi1 ap.TIi2 ap.TIi3 hti,⟨_,_,_,to'⟩,t1,t2,t3⟩ pr sz kp)
 rcases hf with rfl|⟨T,rfl⟩
 ·exact own _ _ λQ q=>ZAw hz Q q
 ·cases hT:s.heap.get? T with
  |none=>exact own _ _ λQ q=>ZAv hz hT Q q
  |some o =>
   refine ZE3 ap hz hT hti h1 h2 h3 hl1 hl2 hl3 hx hy hu λh' f1' z' t1 t2 t3 pr sz kp=>wpAny_pure (k h' ⟨⟨_,_,z',.inr ⟨_,rfl⟩⟩,kp _ _ ap.TIz ap.TIi1 ap.TIi2 ap.TIi3 hti,⟨a,b,c,kp _ _ ap.TOz ap.TOi1 ap.TOi2 ap.TOi3 hto⟩,t1,t2,t3⟩ pr sz λc o n1 n2 n3 n4 n5 q=>kp c o n1 n3 n4 n5 q)
theorem endZip3{z TI TO i1 i2 i3 l1 l2 l3:Addr}{i:Nat}{xs ys us:Array Value}{Q:Option Value->Shared->Prop}(hh:A.handled=none)(ap:Zip3 z TI TO i1 i2 i3 l1 l2 l3)(S:ZipS3 s.heap z TI TO i1 i2 i3 l1 l2 l3 i)(hl1:IsSq true s.heap l1 xs)(hl2:IsSq true s.heap l2 ys)(hl3:IsSq true s.heap l3 us)(hx:xs[i]? = none∨ys[i]? = none∨us[i]? = none)
  (k:∀h',(∀c o,c≠z->c≠TO->c≠i1->c≠i2->c≠i3->s.heap.get? c=some o->h'.get? c=some o)->Q none { s with heap:=h' }) :
  wpAny (model prog w) A (pyNext (.ref z)) Q E s:=by
 obtain⟨⟨f0,f1,hz,hf⟩,hti,⟨a,b,c,hto⟩,h1,h2,h3⟩:=S;have ty:s.TypeIs (.ref z) "zip":=⟨_,hz,rfl⟩;unfold pyNext;refine wpAny_bind (wpAny_attempt ?_);refine wpAny_callSpecial?_slot (name:=Str.ofString "__next__") ty F.slot_zip_next (wpAny_call_entry F.slot_zip_next ty F.entry_zip_next ?_ (F.args_zip_next_1 _));have stop:∀(h':Heap) (e:Addr),(∀c o,c≠z->c≠TO->c≠i1->c≠i2->c≠i3->s.heap.get? c=some o->h'.get? c=some o)->(∃o,h'.get? e=some o/\o.cls=.type "StopIteration") ->
   wpAny (model prog w) A (isInstance (.ref e) (.type "StopIteration") >>= λd=>if d=true then pure none else throw (.ref e)) Q E { s with heap:=h' }:=λh' e kp he=>by
  obtain⟨o,ho,hc⟩:=he;refine wpAny_bind (wpAny_isInstance (T:="StopIteration") (b:=true) ⟨o,ho,hc⟩ rfl ?_);rw[if_pos rfl];exact wpAny_pure (k h' kp)
 rcases hf with rfl|⟨T,rfl⟩
 ·exact ZDR hh ap hz (λQ q=>ZAw hz Q q) hti hto h1 h2 h3 hl1 hl2 hl3 hx stop
 ·cases hT:s.heap.get? T with
  |none=>exact ZDR hh ap hz (λQ q=>ZAv hz hT Q q) hti hto h1 h2 h3 hl1 hl2 hl3 hx stop
  |some o=>exact ZFc hh ap hz hT hti h1 h2 h3 hl1 hl2 hl3 hx stop
theorem letGoZip3{tg:Expr}{z TI TO i1 i2 i3 l1 l2 l3 a:Addr}{i:Nat}{Q:Unit->Shared->Prop}(ap:Zip3 z TI TO i1 i2 i3 l1 l2 l3)(S:ZipS3 s.heap z TI TO i1 i2 i3 l1 l2 l3 i)(k:∀h',ZipS3 h' z TI TO i1 i2 i3 l1 l2 l3 i->Heap.SameBut z s.heap h'->Q () { s with heap:=h' }) :
    wpAny (model prog w) A (letOwnedTupleGo tg (.ref z) (.ref a)) Q E s:=by
  have S':=S;obtain ⟨⟨f0,f1,hz,hf⟩,hti,⟨b,c,d,hto⟩,h1,h2,h3⟩:=S';have way:wpAny (model prog w) A (load z >>= λ o=>match o.cls,o.data with
        |Value.type n,Data.fields vs=>if (["enumerate","zip","dict_itemiterator","dict_reverseitemiterator","odict_iterator","itertools.zip_longest","itertools.pairwise"].contains n && vs[0]? == some (rawInt (a:Int)))=true then do
            rule "for.unpacks-the-owned-tuple"
            updateField z 0 Value.none
          else pure ()
        |_,_=>pure ()) Q E s:=by
    refine wpAny_bind (wpAny_load hz ?_);dsimp only
    split
    · refine wpAny_bind (wpAny_rule ?_)
      have sA:=Heap.SameBut.update (h:=s.heap) z (Obj.mapFields λ(x:Array Value)=>x.setIfInBounds 0 Value.none);have zA:ZN (s.heap.update z (Obj.mapFields λ(x:Array Value)=>x.setIfInBounds 0 Value.none)) z TI TO .none f1:=get?_update_self _ hz rfl;show wpAny _ _ (setField (.ref z) 0 Value.none) _ _ _;refine wpAny_setField hz rfl (by simp) (k _ ⟨⟨_,_,zA,.inl rfl⟩,(sA.2 _ ap.TIz).trans hti,⟨b,c,d,(sA.2 _ ap.TOz).trans hto⟩,?_,?_,?_⟩ sA)
      · obtain⟨o,e,r⟩:=h1
        exact⟨o,(sA.2 _ ap.i1z).trans e,r⟩
      · obtain⟨o,e,r⟩:=h2
        exact⟨o,(sA.2 _ ap.i2z).trans e,r⟩
      · obtain⟨o,e,r⟩:=h3
        exact⟨o,(sA.2 _ ap.i3z).trans e,r⟩
    · exact wpAny_pure (k _ S (Heap.SameBut.refl ..))
  cases tg with
  |Tuple=>exact way
  |List=>exact way
  |_=>exact wpAny_pure (k _ S (Heap.SameBut.refl ..))
theorem apart_new3(n a b c:Nat)(ha:a<n)(hb:b<n)(hc:c<n):Zip3 (n+5) (n+3) (n+4) n (n+1) (n+2) a b c:=by
 constructor <;> (intro q;have q':(_:Nat)=_:=q;omega)
abbrev zU1(h:Heap)(l:Addr):Heap:=h.push { cls:=.type (nm true),data:=.fields #[.ref l,.int 0 0] }
abbrev zU4(h:Heap)(l1 l2 l3:Addr):Heap:=(zU1 (zU1 (zU1 h l1) l2) l3).push { cls:=.type "tuple",data:=.seq #[.ref h.objs.size,.ref (zU1 h l1).objs.size,.ref (zU1 (zU1 h l1) l2).objs.size] }
abbrev zU5(h:Heap)(l1 l2 l3:Addr):Heap:=(zU4 h l1 l2 l3).push { cls:=.type "tuple",data:=.seq #[.none,.none,.none] }
abbrev zU6(h:Heap)(l1 l2 l3:Addr):Heap:=(zU5 h l1 l2 l3).push { cls:=.type "zip",data:=.fields #[.none,.bool false,.bool false,.ref (zU1 (zU1 (zU1 h l1) l2) l3).objs.size,.ref (zU4 h l1 l2 l3).objs.size] }
theorem ZGV(l1 l2 l3:Addr)(xs ys us:Array Value) :
  Meets (Builtin.«zip.__new__» ⟨[.type "zip",.ref l1,.ref l2,.ref l3],[]⟩) (λ_ R s=>IsSq true s.heap l1 xs/\IsSq true s.heap l2 ys/\IsSq true s.heap l3 us/\R (.ok (.ret (.ref (zU5 s.heap l1 l2 l3).objs.size))) { s with heap:=zU6 s.heap l1 l2 l3 }) :=
 .of_wp λprog w A R s h=>by
  obtain⟨hp,g,d,tk,os⟩:=s;obtain⟨hl1,hl2,hl3,h⟩:=h;have hsub:=sub_zip;have hT2:IsSq true (zU1 hp l1) l2 ys:=let ⟨o,e,r⟩:=hl2;⟨o,get?_push_of_some _ e,r⟩
  have hT3:IsSq true (zU1 (zU1 hp l1) l2) l3 us:=let ⟨o,e,r⟩:=hl3;⟨o,get?_push_of_some _ (get?_push_of_some _ e),r⟩
  wp_walk using itG hl1,itG (s:=⟨zU1 hp l1,g,d,tk,os⟩) hT2,itG (s:=⟨zU1 (zU1 hp l1) l2,g,d,tk,os⟩) hT3
  exact⟨_,rfl,h⟩
theorem ZCI(a b c:Value):checkTypeCall "zip" ⟨[a,b,c],[]⟩=pure ():=by kernel_rfl
theorem ZCL(a b c:Value):checkBuiltinCall "zip.__new__" ⟨[.type "zip",a,b,c],[]⟩=pure ():=by kernel_rfl
theorem ZEo(a b c d:Value):argsOk "object.__init__" ⟨[a,b,c,d],[]⟩:=by
 unfold argsOk;rw[signature?_of (n:="__tini__".toList) (o:="tcejbo".toList) (by kernel_rfl) F.owner_object (id:="object.__init__")]
 kernel_rfl
theorem callZipT3{l1 l2 l3:Addr}{xs ys us:Array Value}{Q:Value->Shared->Prop}(hL1:IsSq true s.heap l1 xs)(hL2:IsSq true s.heap l2 ys)(hL3:IsSq true s.heap l3 us)
  (k:∀h',ZipS3 h' (s.heap.objs.size+5) (s.heap.objs.size+3) (s.heap.objs.size+4) s.heap.objs.size (s.heap.objs.size+1) (s.heap.objs.size+2) l1 l2 l3 0->h'.objs.size=s.heap.objs.size+6->(∀c o,s.heap.get? c=some o->h'.get? c=some o)->Q (.ref (s.heap.objs.size+5)) { s with heap:=h' }) :
  wpAny (model prog w) A (call (.type "zip") [.ref l1,.ref l2,.ref l3]) Q E s:=by
 refine callType_new F.called_zip (by decide) (ZCI _ _ _) (ZCL _ _ _) (λobj=>ZEo obj _ _ _) F.entry_zip_new (ZGV l1 l2 l3 xs ys us) ⟨hL1,hL2,hL3,?_⟩;have z1:(zU1 s.heap l1).objs.size=s.heap.objs.size+1:=size_push ..;have z2:(zU1 (zU1 s.heap l1) l2).objs.size=s.heap.objs.size+2:=by rw[size_push,z1]
 have z3:(zU1 (zU1 (zU1 s.heap l1) l2) l3).objs.size=s.heap.objs.size+3:=by rw[size_push,z2]
 have z4:(zU4 s.heap l1 l2 l3).objs.size=s.heap.objs.size+4:=by rw[size_push,z3]
 have z5:(zU5 s.heap l1 l2 l3).objs.size=s.heap.objs.size+5:=by rw[size_push,z4]
 have e1:(zU1 s.heap l1).get? s.heap.objs.size=some { cls:=.type (nm true),data:=.fields #[.ref l1,.int 0 0] }:=get?_push_size _ rfl;have e2:(zU1 (zU1 s.heap l1) l2).get? (s.heap.objs.size+1)=some { cls:=.type (nm true),data:=.fields #[.ref l2,.int 0 0] }:=by rw[←z1];exact get?_push_size _ rfl
 have e3:(zU1 (zU1 (zU1 s.heap l1) l2) l3).get? (s.heap.objs.size+2)=some { cls:=.type (nm true),data:=.fields #[.ref l3,.int 0 0] }:=by rw[←z2];exact get?_push_size _ rfl
 have e4:(zU4 s.heap l1 l2 l3).get? (s.heap.objs.size+3)=some { cls:=.type "tuple",data:=.seq #[.ref s.heap.objs.size,.ref (zU1 s.heap l1).objs.size,.ref (zU1 (zU1 s.heap l1) l2).objs.size] }:=by rw[←z3];exact get?_push_size _ rfl
 have e5:(zU5 s.heap l1 l2 l3).get? (s.heap.objs.size+4)=some { cls:=.type "tuple",data:=.seq #[.none,.none,.none] }:=by rw[←z4];exact get?_push_size _ rfl
 have e6:(zU6 s.heap l1 l2 l3).get? (s.heap.objs.size+5)=some { cls:=.type "zip",data:=.fields #[.none,.bool false,.bool false,.ref (zU1 (zU1 (zU1 s.heap l1) l2) l3).objs.size,.ref (zU4 s.heap l1 l2 l3).objs.size] }:=by rw[←z5];exact get?_push_size _ rfl
 rw[z3,z4] at e6;rw[z1,z2] at e4;have up:∀{h:Heap} {o u:Obj} {c:Addr},h.get? c=some u->(h.push o).get? c=some u:=λq=>get?_push_of_some _ q
 show _/\_;rw[z5];refine⟨⟨_,e6,rfl⟩,k _ ⟨⟨_,_,e6,.inl rfl⟩,up (up e4),⟨_,_,_,up e5⟩,⟨_,up (up (up (up (up e1)))),rfl,rfl⟩,⟨_,up (up (up (up e2))),rfl,rfl⟩,⟨_,up (up (up e3)),rfl,rfl⟩⟩ (by rw[size_push,z5]) λc o q=>up (up (up (up (up (up q)))))⟩
end
end HI
namespace L2
open PySem PySem.Spec PyProof.Rows
def ZJE(K:PySem.W.Frag)(a b c:Addr):It :=
 ⟨λi H=>∃xs ys zs x y z,SqT K H a xs/\SqT K H b ys/\SqT K H c zs/\xs[i]? = some x/\ys[i]? = some y/\zs[i]? = some z,λi H v H'=>∃p x y z,v=.ref p/\H p=none/\H'=upd H p (.tup [x,y,z])/\∀xs ys zs,SqT K H a xs->SqT K H b ys->SqT K H c zs->xs[i]? = some x/\ys[i]? = some y/\zs[i]? = some z,
  λi H=>∃xs ys zs,SqT K H a xs/\SqT K H b ys/\SqT K H c zs/\(xs.length<=i∨ys.length<=i∨zs.length<=i)⟩
theorem ZEy{P:Program}{w:World}{K:PySem.W.Frag}{tg:Expr}(a b d z TI TO i1 i2 i3:Addr)(ap:HI.Zip3 z TI TO i1 i2 i3 a b d) :
  Turn P w K tg (ZJE K a b d) [z,TI,TO,i1,i2,i3] z (λi h=>HI.ZipS3 h z TI TO i1 i2 i3 a b d i) where
 mem:=by simp
 obj:=λi h st c hc=>by
  obtain⟨⟨f0,f1,hz,_⟩,hti,⟨u,v,w,hto⟩,⟨o1,e1,c1,d1⟩,⟨o2,e2,c2,d2⟩,⟨o3,e3,c3,d3⟩⟩:=st;simp only[mem_cons,not_mem_nil,or_false] at hc;rcases hc with rfl|rfl|rfl|rfl|rfl|rfl
  ·exact⟨_,hz,λv q=>by cases q⟩
  ·exact⟨_,hti,λv q=>by cases q⟩
  ·exact⟨_,hto,λv q=>by cases q⟩
  ·exact⟨_,e1,λv q=>by rw[d1] at q;cases q⟩
  ·exact⟨_,e2,λv q=>by rw[d2] at q;cases q⟩
  ·exact⟨_,e3,λv q=>by rw[d3] at q;cases q⟩
 keep:=λi h h' st kk=>by
  obtain⟨⟨f0,f1,hz,hf⟩,hti,⟨u,v,w,hto⟩,⟨o1,e1,r1⟩,⟨o2,e2,r2⟩,⟨o3,e3,r3⟩⟩:=st;exact⟨⟨f0,f1,kk z (by simp) _ hz,hf⟩,kk TI (by simp) _ hti,⟨u,v,w,kk TO (by simp) _ hto⟩,⟨o1,kk i1 (by simp) _ e1,r1⟩,⟨o2,kk i2 (by simp) _ e2,r2⟩,⟨o3,kk i3 (by simp) _ e3,r3⟩⟩
 item:=by
  intro X hP hw hK hc i pins s σ H E I hf st hg;subst hP hw hK;obtain⟨xs,ys,zs,x,y,x3,hq,hq2,hq3,hx,hy,hx3⟩:=hg;obtain⟨its3,rv3,p3,hz3⟩:=I.tuple hq3;obtain⟨u3,hu3,ru3⟩:=rv3.get hx3;obtain⟨its,rv,p,hz⟩:=I.tuple hq;obtain⟨its2,rv2,p2,hz2⟩:=I.tuple hq2;obtain⟨u,hu,ru⟩:=rv.get hx;obtain⟨u2,hu2,ru2⟩:=rv2.get hy;refine HI.nextZip3 (xs:=its.toArray) (ys:=its2.toArray) (us:=its3.toArray) ap st p p2 p3 (by simpa using hu) (by simpa using hu2) (by simpa using hu3) λh' S' pr sz kp=>?_
  refine⟨_,rfl,HI.letGoZip3 ap S' λh2 S2 sb=>?_⟩;have nT:H s.heap.objs.size=none:=I.hok.fresh (le_refl _);have zlt:z<s.heap.objs.size:=by obtain⟨⟨f0,f1,q,_⟩,_⟩:=st;exact lt_size q
  have kk:∀c o,c∉[z,TI,TO,i1,i2,i3]->s.heap.get? c=some o->h2.get? c=some o:=λc o hn q=>by
   simp only[mem_cons,not_mem_nil,or_false,not_or] at hn;exact(sb.2 c hn.1).trans (kp c o hn.1 hn.2.2.1 hn.2.2.2.1 hn.2.2.2.2.1 hn.2.2.2.2.2 q)
  have nit:∀c v,H c=some v->c∉[z,TI,TO,i1,i2,i3]:=λc v q hm=>by
   have:=(hf c hm).1;rw[this] at q;cases q
  have hT2:h2.get? s.heap.objs.size=some { cls:=.type "tuple",data:=.seq #[u,u2,u3] }:=(sb.2 _ (ne_of_gt zlt)).trans pr;have ne1:∀c v,H c=some v->c≠s.heap.objs.size:=λc v q=>ZH q nT
  have hok:HOk X.prog X.w (upd H s.heap.objs.size (.tup [x,y,x3])) h2:=λc ob q=>by
   by_cases hb:c=s.heap.objs.size
   ·subst hb
    rw[ZJ] at q;cases q;exact⟨by show 3<=sizeLine;decide,[u,u2,u3],.cons ru (.cons ru2 (.cons ru3 .nil)),⟨_,hT2,rfl,_,rfl⟩⟩
   ·rw[ZC hb] at q
    refine(I.hok c ob q).stay (λd v hd r=>?_) (λd r=>by rw[ZC (ne1 _ _ r)];exact r) λd ys r=>by rw[ZC (ne1 _ _ r)];exact r
    have nc:d∉[z,TI,TO,i1,i2,i3]:=by
     rcases hd with e|e
     ·rw[e];exact nit c ob q
     ·exact nit d _ e
    exact kk d v nc r
  have I2:Inv X pins σ (upd H s.heap.objs.size (.tup [x,y,x3])) { s with heap:=h2 }:=by
   refine I.step (g':=s.gens) (d':=s.drawn) (t':=s.toks) (ch:=[z,TI,TO,i1,i2,i3]) (λc hc'=>?_) (λc o _ _ hc' q _=>kk c o hc' q) (λc o _ _ hc' q _=>⟨o.slots,kk c o hc' q⟩)
    (λc o _ q n=>by rw[ZC (ne_of_lt (lt_size q))];exact n) (λc o hc' q=>⟨o,kk c o hc' q⟩) (λc ys q=>by rw[ZC (ne1 _ _ q)];exact q) (λc o u q=>by rw[ZC (ne1 _ _ q)];exact q)
    (λc ps q=>⟨#[],by rw[ZC (ne1 _ _ q),q];simp⟩) (λm hm=>?_) hok I.bare
   ·obtain⟨f0,f1,f2,f3,f4,f5⟩:=hf c hc'
    exact⟨f3,f1,f4,f5⟩
   ·obtain⟨o,es',ep,ho',r⟩:=hm
    refine⟨o,es',ep,kk _ o (λhm'=>?_) ho',r⟩;exact(hf _ hm').2.1 rfl
  refine⟨.ref s.heap.objs.size,_,I2,rfl,⟨_,x,y,x3,rfl,nT,rfl,λzs ws vs hz' hw' hv'=>by rw[I.tuple_inj hz' hq,I.tuple_inj hw' hq2,I.tuple_inj hv' hq3];exact⟨hx,hy,hx3⟩⟩,S2,λc hc'=>?_⟩;have h0:=(hf c hc').1;have hlt:c<s.heap.objs.size:=by
   obtain⟨⟨f0,f1,q,_⟩,hti,⟨_,_,_,hto⟩,⟨o1,e1,_⟩,⟨o2,e2,_⟩,⟨o3,e3,_⟩⟩:=st;simp only[mem_cons,not_mem_nil,or_false] at hc';rcases hc' with rfl|rfl|rfl|rfl|rfl|rfl
   ·exact lt_size q
   ·exact lt_size hti
   ·exact lt_size hto
   ·exact lt_size e1
   ·exact lt_size e2
   ·exact lt_size e3
  rw[ZC (ne_of_lt hlt)];exact h0
 done:=by
  intro X hP hw hK hc i pins s σ H E I hf st hg;subst hP hw hK;obtain ⟨xs,ys,zs,hq,hq2,hq3,hx⟩:=hg;obtain ⟨its3,rv3,p3,hz3⟩:=I.tuple hq3;have l3:=rv3.length;obtain ⟨its,rv,p,hz⟩:=I.tuple hq;obtain ⟨its2,rv2,p2,hz2⟩:=I.tuple hq2;have l1:=rv.length;have l2:=rv2.length;refine HI.endZip3 (xs:=its.toArray) (ys:=its2.toArray) (us:=its3.toArray) (I.ok.hd hc) ap st p p2 p3 (by
   rcases hx with q|q|q
   ·exact .inl (by simp;omega)
   ·exact .inr (.inl (by simp;omega))
   ·exact .inr (.inr (by simp;omega))) λh' kp=>⟨rfl,?_⟩
  refine I.step (g':=s.gens) (d':=s.drawn) (t':=s.toks) (ch:=[z,TI,TO,i1,i2,i3]) (H':=H) (λc hc'=>?_) (λc o _ _ hc' q _=>?_) (λc o _ _ hc' q _=>?_) (λc o _ q n=>n) (λc o hc' q=>?_) (λc ys q=>q) (λc o u q=>q) (λc ps q=>⟨#[],by rw[q];simp⟩) (λm hm=>?_) (λc ob q=>?_) I.bare
  ·obtain⟨f0,f1,f2,f3,f4,f5⟩:=hf c hc'
   exact⟨f3,f1,f4,f5⟩
  ·simp only[mem_cons,not_mem_nil,or_false,not_or] at hc'
   exact kp c o hc'.1 hc'.2.2.1 hc'.2.2.2.1 hc'.2.2.2.2.1 hc'.2.2.2.2.2 q
  ·simp only[mem_cons,not_mem_nil,or_false,not_or] at hc'
   exact⟨o.slots,kp c o hc'.1 hc'.2.2.1 hc'.2.2.2.1 hc'.2.2.2.2.1 hc'.2.2.2.2.2 q⟩
  ·simp only[mem_cons,not_mem_nil,or_false,not_or] at hc'
   exact⟨o,kp c o hc'.1 hc'.2.2.1 hc'.2.2.2.1 hc'.2.2.2.2.1 hc'.2.2.2.2.2 q⟩
  ·obtain⟨o,es',ep,ho',r⟩:=hm
   have nl:∀c∈[z,TI,TO,i1,i2,i3],X.env.locals≠c:=λc hc' e=>(hf c hc').2.1 e.symm
   exact⟨o,es',ep,kp _ o (nl z (by simp)) (nl TO (by simp)) (nl i1 (by simp)) (nl i2 (by simp)) (nl i3 (by simp)) ho',r⟩
  ·refine(I.hok c ob q).stay (λd v hd r=>?_) (λd r=>r) λd ys r=>r
   have nd:∀e,H d=some e->∀c∈[z,TI,TO,i1,i2,i3],d≠c:=λe q' c hc' e'=>by
    have:=(hf c hc').1;rw[←e',q'] at this
    cases this
   have hd':∃e,H d=some e:=by
    rcases hd with e|e
    ·rw[e];exact⟨_,q⟩
    ·exact⟨_,e⟩
   obtain⟨e,he⟩:=hd';exact kp d v (nd e he z (by simp)) (nd e he TO (by simp)) (nd e he i1 (by simp)) (nd e he i2 (by simp)) (nd e he i3 (by simp)) r
 self:=λ_ _ _ _ _ st h=>by
  obtain⟨⟨f0,f1,hz,_⟩,_⟩:=st;exact HI.iterZip hz h
section
variable{X:Cx}
def iZip3(K:PySem.W.Frag)(ta:TA):TI:=λσ H R=>ta σ H λvs H1=>∃a b c,vs=[.ref a,.ref b,.ref c]/\(∃xs ys zs,SqT K H1 a xs/\SqT K H1 b ys/\SqT K H1 c zs)/\R (ZJE K a b c) H1
theorem ZHJ{tg a b c:Expr}{ta:TA}{p pos:Pos}(hg:Gl X "zip")(hm:X.mg "zip" = none)(ha:PA X [a,b,c] ta)(hs:starEach [a,b,c] X.env=[(false,eval a X.env),(false,eval b X.env),(false,eval c X.env)]:=by rfl)(hs2:starEach [b,c] X.env=[(false,eval b X.env),(false,eval c X.env)]:=by rfl) :
  PI X tg (.Call (.Name "zip" p) [a,b,c] [] pos) (iZip3 X.K ta):=by
 intro pins s σ H R I h;refine Call_ (ZBO I hg hm boot_zip (PyProof.Rows.callWith_type1 (thn (ha pos pins s σ H _ I h) λus s1 ⟨vs,H1,I1,r1,q1⟩=>?_) (by rw[hs,hs2]) (by rw[hs2];rfl)));obtain⟨l1,l2,l3,e,⟨xs,ys,zs,hq1,hq2,hq3⟩,q⟩:=q1;subst e;cases r1 with
 |cons r rr =>
  cases rr with
  |cons r' rr =>
   cases rr with
   |cons r'' rr =>
    cases rr;cases r;cases r';cases r'';obtain⟨its,rv,pt,hz⟩:=I1.tuple hq1;obtain⟨its2,rv2,pt2,hz2⟩:=I1.tuple hq2;obtain⟨its3,rv3,pt3,hz3⟩:=I1.tuple hq3;have lt1:l1<s1.heap.objs.size:=by obtain⟨o,e,_⟩:=pt;exact lt_size e
    have lt2:l2<s1.heap.objs.size:=by obtain⟨o,e,_⟩:=pt2;exact lt_size e
    have lt3:l3<s1.heap.objs.size:=by obtain⟨o,e,_⟩:=pt3;exact lt_size e
    refine HI.callZipT3 (show HI.IsSq true s1.heap l1 its.toArray from pt) (show HI.IsSq true s1.heap l2 its2.toArray from pt2) (show HI.IsSq true s1.heap l3 its3.toArray from pt3) λh' S' hsz hk=>?_
    have I2:Inv X pins σ H1 { s1 with heap:=h' }:=I1.kept (t':=s1.toks) hk;obtain⟨f0,f1,zo,hf⟩:=S'.zo;have ap:=HI.apart_new3 _ _ _ _ lt1 lt2 lt3;refine HI.iterZip zo ⟨s1.heap.objs.size+5,[s1.heap.objs.size+5,s1.heap.objs.size+3,s1.heap.objs.size+4,s1.heap.objs.size,s1.heap.objs.size+1,s1.heap.objs.size+2],_,_,H1,rfl,I2,ZEy l1 l2 l3 _ _ _ _ _ _ ap,S',λb hb=>?_,q⟩;have hb':s1.heap.objs.size<=b:=by
     simp only[mem_cons,not_mem_nil,or_false] at hb;rcases hb with rfl|rfl|rfl|rfl|rfl|rfl
     ·exact le_add_right _ _
     ·exact le_add_right _ _
     ·exact le_add_right _ _
     ·exact le_refl _
     ·exact le_add_right _ _
     ·exact le_add_right _ _
    exact I1.fpOk hb' (I1.hok.fresh hb')
end
end L2
namespace L2
open PySem PySem.Spec PyProof.Rows H1
section
variable{X:Cx}{x:Str}{p pos:Pos}{e:Expr}{es:List Expr}{aa:DA}{id T:String}{fn:List W->G->Option (W×G)}
theorem ZGH(hc:ZQ X (.builtin id) (rF X.K fn))(hg:Gl X x)(hm:X.mg x=none)(hv:bootBuiltins x=some (.builtin id))(ha:PA X (e::es) (tA X.K aa))(hn:x≠"__name__":=by decide)(hdb:(x == ("__debug__" : Str))=false:=by decide)
  (he:starEach (e::es) X.env=(false,eval e X.env)::starEach es X.env:=by rfl)(hpl:(backTo pos (starEach es X.env)).any (·.1)=false:=by rfl):PE X (.Call (.Name x p) (e::es) [] pos) (tE X.K (dF fn aa)):=(ZFD hc hg hm hv ha hn hdb he hpl).imp λ_ _ _ h=>ZKB h
theorem ZEa(hc:ZQ X (.type T) (rF X.K fn))(hg:Gl X x)(hm:X.mg x=none)(hv:bootBuiltins x=some (.type T))(ha:PA X (e::es) (tA X.K aa))(hn:x≠"__name__":=by decide)(hdb:(x == ("__debug__" : Str))=false:=by decide)
  (he:starEach (e::es) X.env=(false,eval e X.env)::starEach es X.env:=by rfl)(hpl:(backTo pos (starEach es X.env)).any (·.1)=false:=by rfl):PE X (.Call (.Name x p) (e::es) [] pos) (tE X.K (dF fn aa)):=(ZEh hc hg hm hv ha hn hdb he hpl).imp λ_ _ _ h=>ZKB h
def spD(K:PySem.W.Frag)(n:Nat)(fn:List W->G->Option (W×G)):Sp:=λvs H Q _=>vs.length=n/\rF K fn vs H Q
inductive Many:DA->Nat->Prop
 |nil:Many ZE 0
 |cons {d:DE} {a:DA} {n:Nat}:Many a n->Many (ZA d a) (n+1)
theorem Many.len{a:DA}{n:Nat}(m:Many a n):∀{sd:Sd} {g g':G} {ws:List W},a sd g=some (ws,g')->ws.length=n:=by
 induction m with
 |nil=>intro sd g g' ws e;cases e;rfl
 |cons m ih =>
  intro sd g g' ws e;obtain⟨⟨y,g1⟩,e1,e⟩:=bnd e;obtain⟨⟨ys,g2⟩,e2,e⟩:=mp e;cases e;rw[length_cons,ih e2]
theorem ZHR{st:Stmt}{ps:List Str}{f:Addr}{fd:FuncData}{k n:Nat}(D:Def X.K X.mg x st ps f fd)(F:FnOk X.prog X.w X.K X.mg X.base CX0 k f fd ps (spD X.K n fn))(hr:Room k X.A)
  (ha:PA X (e::es) (tA X.K aa))(hm:Many aa n)(hg:Gl X x:=by rfl)(hdb:(x == ("__debug__" : Str))=false:=by decide)(he:starEach (e::es) X.env=(false,eval e X.env)::starEach es X.env:=by rfl)(hpl:(backTo pos (starEach es X.env)).any (·.1)=false:=by rfl) :
  PE X (.Call (.Name x p) (e::es) [] pos) (tE X.K (dF fn aa)):=(pcall D F hr ha hg hdb he hpl).imp λσ H Q h=>by
 obtain⟨ρ,sd,g,x,g',r,e,q⟩:=h;obtain⟨⟨ws,g1⟩,e1,e⟩:=bnd e;refine⟨ρ,sd,g,ws,g1,r,e1,λvs H1 ρ1 s1 h1 r1=>?_⟩;show spD X.K n fn (vs++[]) H1 Q E0;rw[append_nil];exact⟨by rw[r1.length];exact hm.len e1,ρ1,ws,g1,x,g',h1,r1,e,q.step s1⟩
theorem ZFv{st:Stmt}{ps:List Str}{f:Addr}{fd:FuncData}{k:Nat}(D:Def X.K X.mg x st ps f fd)(F:FnOk X.prog X.w X.K X.mg X.base CX0 k f fd ps (spD X.K 0 fn))(hr:Room k X.A)(hg:Gl X x:=by rfl)(hdb:(x == ("__debug__" : Str))=false:=by decide) :
  PE X (.Call (.Name x p) [] [] pos) (tE X.K (dF fn ZE)):=(ZGM F hr hg D.at_ D.fn.kp D.bd .nil ZIA hdb).imp λσ H Q h=>by
 obtain⟨ρ,sd,g,x,g',r,e,q⟩:=h;obtain⟨⟨ws,g1⟩,e1,e⟩:=bnd e;cases e1;exact⟨rfl,ρ,[],g,x,g',r.hr,.nil,e,q⟩
end
mutual
inductive Pat where
 |nm (i:Nat)
 |tp (ps:Pats)
inductive Pats where
 |nil
 |cons (p:Pat) (r:Pats)
end
def Pats.len:Pats->Nat
 |.nil=>0
 |.cons _ r=>r.len+1
mutual
def Pat.all(f:Nat->Bool):Pat->Bool
 |.nm i=>f i
 |.tp ps=>ps.all f
def Pats.all(f:Nat->Bool):Pats->Bool
 |.nil=>true
 |.cons p r=>p.all f && r.all f
end
mutual
def gP(K:PySem.W.Frag):Pat->TG
 |.nm i=>ZDL i
 |.tp ps=>ZJ2 K ps.len (gPs K ps)
def gPs(K:PySem.W.Frag):Pats->TGs
 |.nil=>ZJz
 |.cons p r=>ZH5 (gP K p) (gPs K r)
end
mutual
def Ze:Pat->W->Sd->Option Sd
 |.nm i,x,sd=>some (sd.set i (some x))
 |.tp ps,.dat (.tuple ds),sd=>ZAB ps ds sd
 |.tp ps,.tup ws,sd=>Zn ps ws sd
 |.tp _,_,_=>none
def Zn:Pats->List W->Sd->Option Sd
 |.nil,[],sd=>some sd
 |.cons p r,d::ds,sd=>(Ze p d sd).bind λsd'=>Zn r ds sd'
 |_,_,_=>none
def ZAB:Pats->List PyData->Sd->Option Sd
 |.nil,[],sd=>some sd
 |.cons p r,d::ds,sd=>(Ze p (.dat d) sd).bind λsd'=>ZAB r ds sd'
 |_,_,_=>none
end
def ZCu(f:Nat->Bool)(σ σ':St):Prop:=σ.length = σ'.length/\∀i,f i=false->σ'[i]? = σ[i]?
theorem ZCu.refl{f:Nat->Bool}{σ : St}:ZCu f σ σ:=⟨rfl,λ_ _=>rfl⟩
theorem ZCu.trans{f:Nat->Bool}{σ σ1 σ2:St}(h:ZCu f σ σ1)(k:ZCu f σ1 σ2):ZCu f σ σ2:=⟨h.1.trans k.1,λi e=>(k.2 i e).trans (h.2 i e)⟩
mutual
theorem ZCm{K:PySem.W.Frag}{ρ : Rh}{H:Hp}{g:G}{f:Nat->Bool}:∀{p:Pat} {x:W} {sd sd':Sd} {σ : St} {v:V} {Q:St->Hp->Prop},p.all f=true->Ze p x sd=some sd'->Rst K ρ H σ sd g->Rel K ρ H v x->(∀σ',Rst K ρ H σ' sd' g->ZCu f σ σ'->Q σ' H)->gP K p v σ H Q
 |.nm i,x,sd,sd',σ,v,Q,hf,e,r,rv,q=>by
  rw[Ze] at e;cases e;rw[gP];refine q _ (r.set rv i) ⟨by rw[length_set],λj hj=>?_⟩;have:i≠j:=λz=>by rw[Pat.all,z,hj] at hf;cases hf
  rw[getElem?_set_ne this]
 |.tp ps,x,sd,sd',σ,v,Q,hf,e,r,rv,q=>by
  rw[Pat.all] at hf;cases rv with
  |dat rv =>
   cases rv with
   |tup h hl =>
    rw[Ze] at e;rw[gP];exact⟨_,_,rfl,h.sq,hl.length.trans (ZBj e),ZFL hf e r hl q⟩
   |_=>simp[Ze] at e
  |tup h hl =>
   rw[Ze] at e;rw[gP];exact⟨_,_,rfl,h.sq,hl.length.trans (ZBX e),ZD9 hf e r hl q⟩
  |_=>simp[Ze] at e
theorem ZFL{K:PySem.W.Frag}{ρ : Rh}{H:Hp}{g:G}{f:Nat->Bool}:∀{ps:Pats} {ds:List PyData} {sd sd':Sd} {σ : St} {vs:List V} {Q:St->Hp->Prop},ps.all f=true->ZAB ps ds sd=some sd'->Rst K ρ H σ sd g->RelDL K ρ H vs ds->(∀σ',Rst K ρ H σ' sd' g->ZCu f σ σ'->Q σ' H)->gPs K ps vs σ H Q
 |.nil,[],sd,sd',σ,_,Q,hf,e,r,.nil,q=>by
  rw[ZAB] at e;cases e;rw[gPs];exact⟨rfl,q _ r .refl⟩
 |.cons p ps,d::ds,sd,sd',σ,_,Q,hf,e,r,.cons (x:=v) (xs:=vs) h t,q=>by
  rw[ZAB] at e;obtain⟨sd1,e1,e⟩:=bnd e;rw[Pats.all,Bool.and_eq_true] at hf;rw[gPs];exact⟨v,vs,rfl,ZCm hf.1 e1 r (.dat h) λσ1 r1 k1=>ZFL hf.2 e r1 t λσ2 r2 k2=>q σ2 r2 (k1.trans k2)⟩
 |.nil,_::_,_,_,_,_,_,_,e,_,_,_=>by simp[ZAB] at e
 |.cons _ _,[],_,_,_,_,_,_,e,_,_,_=>by simp[ZAB] at e
theorem ZD9{K:PySem.W.Frag}{ρ : Rh}{H:Hp}{g:G}{f:Nat->Bool}:∀{ps:Pats} {ds:List W} {sd sd':Sd} {σ : St} {vs:List V} {Q:St->Hp->Prop},ps.all f=true->Zn ps ds sd=some sd'->Rst K ρ H σ sd g->RelL K ρ H vs ds->(∀σ',Rst K ρ H σ' sd' g->ZCu f σ σ'->Q σ' H)->gPs K ps vs σ H Q
 |.nil,[],sd,sd',σ,_,Q,hf,e,r,.nil,q=>by
  rw[Zn] at e;cases e;rw[gPs];exact⟨rfl,q _ r .refl⟩
 |.cons p ps,d::ds,sd,sd',σ,_,Q,hf,e,r,.cons (v:=v) (vs:=vs) h t,q=>by
  rw[Zn] at e;obtain⟨sd1,e1,e⟩:=bnd e;rw[Pats.all,Bool.and_eq_true] at hf;rw[gPs];exact⟨v,vs,rfl,ZCm hf.1 e1 r h λσ1 r1 k1=>ZD9 hf.2 e r1 t λσ2 r2 k2=>q σ2 r2 (k1.trans k2)⟩
 |.nil,_::_,_,_,_,_,_,_,e,_,_,_=>by simp[Zn] at e
 |.cons _ _,[],_,_,_,_,_,_,e,_,_,_=>by simp[Zn] at e
theorem ZBX:∀{ps:Pats} {ds:List W} {sd sd':Sd},Zn ps ds sd=some sd'->ds.length=ps.len
 |.nil,[],_,_,_=>rfl
 |.cons p ps,d::ds,sd,sd',e=>by
  rw[Zn] at e;obtain⟨sd1,e1,e⟩:=bnd e;rw[length_cons,ZBX e,Pats.len]
 |.nil,_::_,_,_,e=>by simp[Zn] at e
 |.cons _ _,[],_,_,e=>by simp[Zn] at e
theorem ZBj:∀{ps:Pats} {ds:List PyData} {sd sd':Sd},ZAB ps ds sd=some sd'->ds.length=ps.len
 |.nil,[],_,_,_=>rfl
 |.cons p ps,d::ds,sd,sd',e=>by
  rw[ZAB] at e;obtain⟨sd1,e1,e⟩:=bnd e;rw[length_cons,ZBj e,Pats.len]
 |.nil,_::_,_,_,e=>by simp[ZAB] at e
 |.cons _ _,[],_,_,e=>by simp[ZAB] at e
end
section
variable{X:Cx}{pos:Pos}
theorem dg_nm{i:Nat}{x:Str}(hN:X.N.Nodup)(hi:X.N[i]? = some x)(hx:Loc X.env.scope x)(hf:X.fn x=true∨X.env.scope.names.lookup x=some .local:=by first|exact .inl rfl|exact .inr rfl|assumption):PG X (.Name x pos) (gP X.K (.nm i)):=by
 rw[gP];exact ZHr hN hi hx hf
theorem dg_tp{es:List Expr}{k:Nat}{ps:Pats}(hc:X.calm=true)(h:PGs X es (gPs X.K ps))(hn:(assignEach es X.env).length=ps.len:=by rfl)(hst:(assignEach es X.env).findIdx? (·.1)=none:=by rfl):PG X (.Tuple es k pos) (gP X.K (.tp ps)):=by
 rw[gP];exact ZJS hc h hn hst
theorem ZIX:PGs X [] (gPs X.K .nil):=by
 rw[gPs];exact ZHq
theorem ZHm{e:Expr}{es:List Expr}{p:Pat}{ps:Pats}(h1:PG X e (gP X.K p))(h2:PGs X es (gPs X.K ps))(hs:(assignEach (e::es) X.env).map (·.2)=assign e X.env::(assignEach es X.env).map (·.2):=by rfl):PGs X (e::es) (gPs X.K (.cons p ps)):=by
 rw[gPs];exact ZGI h1 h2 hs
end
inductive Out where
 |nx (sd:Sd) (g:G)
 |rt (x:W) (g:G)
 |bk (sd:Sd) (g:G)
 |ct (sd:Sd) (g:G)
abbrev DS:=Sd->G->Option Out
def ZCd(K:PySem.W.Frag)(ρ : Rh)(H:Hp)(E:Ends):Out->Prop
 |.nx sd g=>∀σ' H' ρ',Stp ρ H ρ' H'->Rst K ρ' H' σ' sd g->E.nx σ' H'
 |.rt x g=>Pv K ρ H x g E.rt
 |.bk sd g=>∀σ' H' ρ',Stp ρ H ρ' H'->Rst K ρ' H' σ' sd g->E.bk σ' H'
 |.ct sd g=>∀σ' H' ρ',Stp ρ H ρ' H'->Rst K ρ' H' σ' sd g->E.ct σ' H'
theorem ZCd.step{K:PySem.W.Frag}{ρ ρ':Rh}{H H':Hp}{E:Ends}{o:Out}(h:ZCd K ρ H E o)(s:Stp ρ H ρ' H'):ZCd K ρ' H' E o:=by
 cases o with
 |nx sd g=>exact λσ2 H2 ρ2 s2 r=>h σ2 H2 ρ2 (s.trans s2) r
 |rt x g=>exact Pv.step h s
 |bk sd g=>exact λσ2 H2 ρ2 s2 r=>h σ2 H2 ρ2 (s.trans s2) r
 |ct sd g=>exact λσ2 H2 ρ2 s2 r=>h σ2 H2 ρ2 (s.trans s2) r
def tS(K:PySem.W.Frag)(d:DS):TS:=λE σ H=>∃ρ sd g o,Rst K ρ H σ sd g/\d sd g=some o/\ZCd K ρ H E o
def dNx:DS:=λsd g=>some (.nx sd g)
def ZZ(a b:DS):DS:=λsd g=>(a sd g).bind λo=>match o with|.nx sd' g'=>b sd' g'|o=>some o
def Zs(i:Nat)(d:DE):DS:=λsd g=>(d sd g).bind λp=>some (.nx (sd.set i (some p.1)) p.2)
def ZEZ(pt:Pat)(d:DE):DS:=λsd g=>(d sd g).bind λp=>(Ze pt p.1 sd).map λsd'=>.nx sd' p.2
def ZP(d:DE):DS:=λsd g=>(d sd g).map λp=>.rt p.1 p.2
def ZA7(c:DB)(a b:DS):DS:=λsd g=>(c sd g).bind λp=>if p.1=true then a sd p.2 else b sd p.2
section
variable{X:Cx}{pos:Pos}{st:Stmt}{rest ss:List Stmt}{a b:DS}{d:DE}{e c:Expr}{tc:DB}
theorem ZHI:PSs X [] (tS X.K dNx):=ZGt.imp λD σ H ⟨ρ,sd,g,o,r,e,q⟩=>by
 cases e;exact q σ H ρ .refl r
theorem ZHN(h:PS X st (tS X.K a)):PSs X [st] (tS X.K a):=ZGe h
theorem ZGJ(h1:PS X st (tS X.K a))(h2:PSs X rest (tS X.K b)):PSs X (st::rest) (tS X.K (ZZ a b)):=(ZGB h1 h2).imp λD σ H ⟨ρ,sd,g,o,r,e,q⟩=>by
 obtain⟨o1,e1,e⟩:=bnd e;refine⟨ρ,sd,g,o1,r,e1,?_⟩;cases o1 with
 |nx sd1 g1=>exact λσ1 H1 ρ1 s1 r1=>⟨ρ1,sd1,g1,o,r1,e,q.step s1⟩
 |rt x g1=>cases e;exact q
 |bk _ _=>cases e;exact q
 |ct _ _=>cases e;exact q
theorem ZId{i:Nat}{x:Str}{pos':Pos}(hN:X.N.Nodup)(hi:X.N[i]? = some x)(hx:Loc X.env.scope x)(he:PE X e (tE X.K d))(hs:swapsWith e (some (.Name x pos')) pos.line X.env=pure false:=by rfl)(hf:X.fn x=true∨X.env.scope.names.lookup x=some .local:=by first|exact .inl rfl|exact .inr rfl|assumption) :
  PS X (.Assign [.Name x pos'] e pos) (tS X.K (Zs i d)):=(ZJI hN hi hx he hs hf).imp λD σ H ⟨ρ,sd,g,o,r,e,q⟩=>by
 obtain⟨⟨y,g1⟩,e1,e⟩:=bnd e;cases e;exact⟨ρ,sd,g,y,g1,r,e1,λv H1 ρ1 s1 h1 r1=>q _ H1 ρ1 s1 ((r.step s1 h1).set r1 i)⟩
theorem ZJb{tg:Expr}{pt:Pat}(he:PE X e (tE X.K d))(hg:PG X tg (gP X.K pt))(hs:swapsWithSole [tg] e pos.line X.env=pure false:=by rfl)(hw:swappedStores [tg] e X.env=pure none:=by rfl)
  (h1:(assignEach [tg] X.env).map (·.2)=[assign tg X.env]:=by rfl):PS X (.Assign [tg] e pos) (tS X.K (ZEZ pt d)):=(ZGW he hg hs hw h1).imp λD σ H ⟨ρ,sd,g,o,r,e,q⟩=>by
 obtain⟨⟨y,g1⟩,e1,e⟩:=bnd e;obtain⟨sd1,e2,e⟩:=mp e;cases e;refine⟨ρ,sd,g,y,g1,r,e1,λv H1 ρ1 s1 h1 r1=>ZCm (f:=λ_=>true) ?_ e2 (r.step s1 h1) r1 λσ2 r2 _=>q _ H1 ρ1 s1 r2⟩;clear e2 hg;exact Pat.rec (motive_1:=λp=>p.all (λ_=>true)=true) (motive_2:=λp=>p.all (λ_=>true)=true) (λi=>by rw[Pat.all]) (λps h=>by rw[Pat.all];exact h) (by rw[Pats.all]) (λp r h1 h2=>by rw[Pats.all,h1,h2];rfl) pt
theorem ZJk(he:PE X e (tE X.K d)):PS X (.Return (some e) pos) (tS X.K (ZP d)):=(ZIm he).imp λD σ H ⟨ρ,sd,g,o,r,e,q⟩=>by
 obtain⟨⟨y,g1⟩,e1,e⟩:=mp e;cases e;exact⟨ρ,sd,g,y,g1,r,e1,q⟩
theorem ds_if{sa sb:List Stmt}(hc:PT X c (tT X.K tc))(ha:PSs X sa (tS X.K a))(hb:PSs X sb (tS X.K b)):PS X (.If c sa sb pos) (tS X.K (ZA7 tc a b)):=(ps_if hc ha hb).imp λD σ H ⟨ρ,sd,g,o,r,e,q⟩=>by
 obtain⟨⟨k,g1⟩,e1,e⟩:=bnd e;refine⟨ρ,sd,g,k,g1,r,e1,λH1 ρ1 s1 h1=>?_⟩;cases k with
 |true=>exact⟨ρ1,sd,g1,o,r.step s1 h1,e,q.step s1⟩
 |false=>exact⟨ρ1,sd,g1,o,r.step s1 h1,e,q.step s1⟩
end
abbrev DI:=Sd->G->Option (List PyData×Option Nat×G)
def Z2(src:Option Nat)(xs:List PyData)(g:G):Prop:=match src with|none=>True|some n=>g[n]? = some (.pl xs)
def lk(g:G)(n:Nat):Option (List PyData):=match g[n]? with|some (.pl ds)=>some ds|_=>none
theorem ZDB{g:G}{n:Nat}{ds:List PyData}(h:lk g n=some ds):g[n]? = some (.pl ds):=by
 unfold lk at h
 split at h
 ·rename_i e;cases h;exact e
 ·cases h
def ZCQ(n:Nat)(lo:Int):List PyData:=(List.range n).map λ(i:Nat)=>.int (lo+(i:Int))
def ZBH:Nat->List PyData->List PyData
 |_,[]=>[]
 |i,x::r=>.tuple [.int (i:Int),x]::ZBH (i+1) r
def ZAk:List PyData->List PyData->List PyData
 |x::r,y::q=>.tuple [x,y]::ZAk r q
 |_,_=>[]
theorem ZBK:∀{xs:List PyData} {k i:Nat} {x:PyData},(ZBH k xs)[i]? = some x->∃y,xs[i]? = some y/\x=.tuple [.int ((k+i:Nat):Int),y]
 |[],_,_,_,e=>by simp[ZBH] at e
 |y::r,k,0,x,e=>by
  rw[ZBH] at e;simp at e;exact⟨y,rfl,e.symm⟩
 |y::r,k,i+1,x,e=>by
  rw[ZBH,List.getElem?_cons_succ] at e;obtain⟨z,e1,e2⟩:=ZBK e;exact⟨z,by simpa using e1,by rw[e2];congr 4;omega⟩
theorem ZBR:∀{xs:List PyData} {k:Nat},(ZBH k xs).length=xs.length
 |[],_=>rfl
 |y::r,k=>by rw[ZBH,length_cons,length_cons,ZBR]
def ZAH:List PyData->List PyData->List PyData->List PyData
 |x::r,y::q,z::p=>.tuple [x,y,z]::ZAH r q p
 |_,_,_=>[]
theorem ZCh:∀{xs ys zs:List PyData} {i:Nat} {x:PyData},(ZAH xs ys zs)[i]? = some x->∃y z u,xs[i]? = some y/\ys[i]? = some z/\zs[i]? = some u/\x=.tuple [y,z,u]
 |[],_,_,_,_,e=>by simp[ZAH] at e
 |_::_,[],_,_,_,e=>by simp[ZAH] at e
 |_::_,_::_,[],_,_,e=>by simp[ZAH] at e
 |y::r,z::q,u::p,0,x,e=>by
  rw[ZAH] at e;simp at e;exact⟨y,z,u,rfl,rfl,rfl,e.symm⟩
 |y::r,z::q,u::p,i+1,x,e=>by
  rw[ZAH,List.getElem?_cons_succ] at e;obtain⟨a,b,c,e1,e2,e3,e4⟩:=ZCh e;exact⟨a,b,c,by simpa using e1,by simpa using e2,by simpa using e3,e4⟩
theorem ZCk:∀{xs ys zs:List PyData},(ZAH xs ys zs).length=min xs.length (min ys.length zs.length)
 |[],_,_=>by simp[ZAH]
 |_::_,[],_=>by simp[ZAH]
 |_::_,_::_,[]=>by simp[ZAH]
 |y::r,z::q,u::p=>by rw[ZAH,length_cons,length_cons,length_cons,length_cons,ZCk];omega
theorem ZBC:∀{xs ys:List PyData} {i:Nat} {x:PyData},(ZAk xs ys)[i]? = some x->∃y z,xs[i]? = some y/\ys[i]? = some z/\x=.tuple [y,z]
 |[],_,_,_,e=>by simp[ZAk] at e
 |_::_,[],_,_,e=>by simp[ZAk] at e
 |y::r,z::q,0,x,e=>by
  rw[ZAk] at e;simp at e;exact⟨y,z,rfl,rfl,e.symm⟩
 |y::r,z::q,i+1,x,e=>by
  rw[ZAk,List.getElem?_cons_succ] at e;obtain⟨u,v,e1,e2,e3⟩:=ZBC e;exact⟨u,v,by simpa using e1,by simpa using e2,e3⟩
theorem ZAn:∀{xs ys:List PyData},(ZAk xs ys).length=min xs.length ys.length
 |[],_=>by simp[ZAk]
 |_::_,[]=>by simp[ZAk]
 |y::r,z::q=>by rw[ZAk,length_cons,length_cons,length_cons,ZAn];omega
inductive ItOk (K:PySem.W.Frag) (ρ : Rh) (H:Hp):It->List PyData->Option Nat->Prop
 |list {a:Addr} {vs:List V} {ds:List PyData}:FzL K ρ H a vs->RelDL K ρ H vs ds->ItOk K ρ H (Itl K a) ds none
 |tup {a:Addr} {vs:List V} {ds:List PyData}:FzT K ρ H a vs->RelDL K ρ H vs ds->ItOk K ρ H (Itt K a) ds none
 |cell {a:Addr} {n:Nat} {ds:List PyData} : ρ.c[n]? = some a->ItOk K ρ H (Itl K a) ds (some n)
 |rng {lo:Int} {n:Nat}:ItOk K ρ H (Itr lo n) (ZCQ n lo) none
 |enum {a:Addr} {vs:List V} {ds:List PyData}:FzT K ρ H a vs->RelDL K ρ H vs ds->ItOk K ρ H (Ite K a) (ZBH 0 ds) none
 |enuml {a:Addr} {vs:List V} {ds:List PyData}:FzL K ρ H a vs->RelDL K ρ H vs ds->ItOk K ρ H (ZJ3 false K a) (ZBH 0 ds) none
 |zip {a b:Addr} {vs us:List V} {ds es:List PyData}:FzT K ρ H a vs->RelDL K ρ H vs ds->FzT K ρ H b us->RelDL K ρ H us es->ItOk K ρ H (Itz K a b) (ZAk ds es) none
 |zipl {a b:Addr} {vs us:List V} {ds es:List PyData}:FzL K ρ H a vs->RelDL K ρ H vs ds->FzL K ρ H b us->RelDL K ρ H us es->ItOk K ρ H (Itzl K a b) (ZAk ds es) none
 |zipx {a b:Addr} {vs us:List V} {ds es:List PyData}:FzT K ρ H a vs->RelDL K ρ H vs ds->FzL K ρ H b us->RelDL K ρ H us es->ItOk K ρ H (ZF2 true false K a b) (ZAk ds es) none
 |zip3 {a b c:Addr} {vs us ts:List V} {ds es fs:List PyData}:FzT K ρ H a vs->RelDL K ρ H vs ds->FzT K ρ H b us->RelDL K ρ H us es->FzT K ρ H c ts->RelDL K ρ H ts fs->ItOk K ρ H (ZJE K a b c) (ZAH ds es fs) none
section
variable{K:PySem.W.Frag}{ρ ρ':Rh}{H H':Hp}{J:It}{xs:List PyData}{src:Option Nat}
theorem ItOk.mono(s:Stp ρ H ρ' H')(h:ItOk K ρ H J xs src):ItOk K ρ' H' J xs src:=by
 cases h with
 |list f t=>exact .list (f.mono s) (t.mono s)
 |tup f t=>exact .tup (f.mono s) (t.mono s)
 |cell h =>
  obtain⟨r,e⟩:=s.pre;exact .cell (by rw[e,getElem?_append_left (List.getElem?_eq_some_iff.mp h).1];exact h)
 |rng=>exact .rng
 |enum f t=>exact .enum (f.mono s) (t.mono s)
 |enuml f t=>exact .enuml (f.mono s) (t.mono s)
 |zip f t f2 t2=>exact .zip (f.mono s) (t.mono s) (f2.mono s) (t2.mono s)
 |zipl f t f2 t2=>exact .zipl (f.mono s) (t.mono s) (f2.mono s) (t2.mono s)
 |zipx f t f2 t2=>exact .zipx (f.mono s) (t.mono s) (f2.mono s) (t2.mono s)
 |zip3 f t f2 t2 f3 t3=>exact .zip3 (f.mono s) (t.mono s) (f2.mono s) (t2.mono s) (f3.mono s) (t3.mono s)
theorem ItOk.hide{p:Addr}{o:HO}(hp:H p=none)(h:ItOk K ρ H J xs src):ItOk K (ρ.hide p) (upd H p o) J xs src:=by
 cases h with
 |list f t=>exact .list (f.hide hp) (t.hide hp)
 |tup f t=>exact .tup (f.hide hp) (t.hide hp)
 |cell h=>exact .cell h
 |rng=>exact .rng
 |enum f t=>exact .enum (f.hide hp) (t.hide hp)
 |enuml f t=>exact .enuml (f.hide hp) (t.hide hp)
 |zip f t f2 t2=>exact .zip (f.hide hp) (t.hide hp) (f2.hide hp) (t2.hide hp)
 |zipl f t f2 t2=>exact .zipl (f.hide hp) (t.hide hp) (f2.hide hp) (t2.hide hp)
 |zipx f t f2 t2=>exact .zipx (f.hide hp) (t.hide hp) (f2.hide hp) (t2.hide hp)
 |zip3 f t f2 t2 f3 t3=>exact .zip3 (f.hide hp) (t.hide hp) (f2.hide hp) (t2.hide hp) (f3.hide hp) (t3.hide hp)
theorem ItOk.grow{p:Addr}{o:HO}(hp:p∈ρ.h)(h:ItOk K ρ H J xs src):ItOk K ρ (upd H p o) J xs src:=by
 cases h with
 |list f t=>exact .list (f.grow hp) (t.grow hp)
 |tup f t=>exact .tup (f.grow hp) (t.grow hp)
 |cell h=>exact .cell h
 |rng=>exact .rng
 |enum f t=>exact .enum (f.grow hp) (t.grow hp)
 |enuml f t=>exact .enuml (f.grow hp) (t.grow hp)
 |zip f t f2 t2=>exact .zip (f.grow hp) (t.grow hp) (f2.grow hp) (t2.grow hp)
 |zipl f t f2 t2=>exact .zipl (f.grow hp) (t.grow hp) (f2.grow hp) (t2.grow hp)
 |zipx f t f2 t2=>exact .zipx (f.grow hp) (t.grow hp) (f2.grow hp) (t2.grow hp)
 |zip3 f t f2 t2 f3 t3=>exact .zip3 (f.grow hp) (t.grow hp) (f2.grow hp) (t2.grow hp) (f3.grow hp) (t3.grow hp)
theorem ItOk.use{g:G}(h:ItOk K ρ H J xs src)(h':HR K ρ H g)(so:Z2 src xs g):(∀(i:Nat) x,xs[i]? = some x->J.go i H/\∀v H2,J.yld i H v H2->Same H H2/\RelD K ρ H2 v x)/\∀i,xs.length<=i->J.stop i H:=by
 cases h with
 |@list a vs ds f t =>
  refine⟨λi x e=>?_,λi hi=>⟨vs,f.sq,by rw[t.length];exact hi⟩⟩;obtain⟨v,e1,r1⟩:=t.getD e;refine⟨⟨vs,v,f.sq,e1⟩,λu H2 y=>?_⟩;obtain⟨rfl,y⟩:=y;have:=y vs f.sq;rw[e1] at this
  cases this
  exact⟨Same.refl _,r1⟩
 |@tup a vs ds f t =>
  refine⟨λi x e=>?_,λi hi=>⟨vs,f.sq,by rw[t.length];exact hi⟩⟩;obtain⟨v,e1,r1⟩:=t.getD e;refine⟨⟨vs,v,f.sq,e1⟩,λu H2 y=>?_⟩;obtain⟨rfl,y⟩:=y;have:=y vs f.sq;rw[e1] at this
  cases this
  exact⟨Same.refl _,r1⟩
 |@cell a n ds h =>
  obtain⟨b,vs,e1,e2,tq⟩:=h'.at_ n _ so;rw[h] at e1;cases e1;have hq:SqL K H a vs:=SqL.of e2;refine⟨λi x e=>?_,λi hi=>⟨vs,hq,by rw[tq.length];exact hi⟩⟩;obtain⟨v,e1,r1⟩:=tq.getD e;refine⟨⟨vs,v,hq,e1⟩,λu H2 y=>?_⟩;obtain⟨rfl,y⟩:=y;have:=y vs hq;rw[e1] at this
  cases this
  exact⟨Same.refl _,r1⟩
 |@rng lo n =>
  refine⟨λi x e=>?_,λi hi=>?_⟩
  ·unfold ZCQ at e
   rw[getElem?_map] at e;obtain⟨k,e1,rfl⟩:=mp e;obtain⟨hl,hk⟩:=List.getElem?_eq_some_iff.mp e1;rw[List.getElem_range] at hk;subst hk;rw[length_range] at hl;refine⟨hl,λu H2 y=>?_⟩;obtain⟨rfl,rfl⟩:=y;exact⟨Same.refl _,.int _⟩
  ·unfold ZCQ at hi
   rw[length_map,length_range] at hi;exact hi
 |@enum a vs ds f t =>
  refine⟨λi x e=>?_,λi hi=>⟨vs,f.sq,by rw[t.length];rw[ZBR] at hi;exact hi⟩⟩;obtain⟨y,e2,rfl⟩:=ZBK e;obtain⟨v,e3,r1⟩:=t.getD e2;refine⟨⟨vs,v,f.sq,e3⟩,λu H2 yy=>?_⟩;obtain⟨pp,x',rfl,hp,rfl,yy⟩:=yy;have:=yy vs f.sq;rw[e3] at this
  cases this
  obtain⟨sm,hr2,hn2⟩:=ZAC (o:=.tup [.int i,v]) h' hp;refine⟨sm,.tup (.inl ⟨.inl ZJ,hn2⟩) (.cons ?_ (.cons (r1.mono (.same sm)) .nil))⟩;rw[Nat.zero_add];exact .int _
 |@enuml a vs ds f t =>
  refine⟨λi x e=>?_,λi hi=>⟨vs,f.sq,by rw[t.length];rw[ZBR] at hi;exact hi⟩⟩;obtain⟨y,e2,rfl⟩:=ZBK e;obtain⟨v,e3,r1⟩:=t.getD e2;refine⟨⟨vs,v,f.sq,e3⟩,λu H2 yy=>?_⟩;obtain⟨pp,x',rfl,hp,rfl,yy⟩:=yy;have:=yy vs f.sq;rw[e3] at this
  cases this
  obtain⟨sm,hr2,hn2⟩:=ZAC (o:=.tup [.int i,v]) h' hp;refine⟨sm,.tup (.inl ⟨.inl ZJ,hn2⟩) (.cons ?_ (.cons (r1.mono (.same sm)) .nil))⟩;rw[Nat.zero_add];exact .int _
 |@zip3 a b c vs us ts ds es fs f t f2 t2 f3 t3 =>
  refine⟨λi x e=>?_,λi hi=>⟨vs,us,ts,f.sq,f2.sq,f3.sq,by rw[t.length,t2.length,t3.length];rw[ZCk] at hi;omega⟩⟩;obtain⟨y,z,u,e2,e3,e33,rfl⟩:=ZCh e;obtain⟨v,e4,r4⟩:=t.getD e2;obtain⟨w,e5,r5⟩:=t2.getD e3;obtain⟨o,e6,r6⟩:=t3.getD e33;refine⟨⟨vs,us,ts,v,w,o,f.sq,f2.sq,f3.sq,e4,e5,e6⟩,λu H2 yy=>?_⟩;obtain⟨pp,x',y',z',rfl,hp,rfl,yy⟩:=yy;obtain⟨y1,y2,y3⟩:=yy vs us ts f.sq f2.sq f3.sq;rw[e4] at y1;rw[e5] at y2;rw[e6] at y3;cases y1;cases y2;cases y3;obtain⟨sm,hr2,hn2⟩:=ZAC (o:=.tup [v,w,o]) h' hp;exact⟨sm,.tup (.inl ⟨.inl ZJ,hn2⟩) (.cons (r4.mono (.same sm)) (.cons (r5.mono (.same sm)) (.cons (r6.mono (.same sm)) .nil)))⟩
 |@zip a b vs us ds es f t f2 t2 =>
  refine⟨λi x e=>?_,λi hi=>⟨vs,us,f.sq,f2.sq,by rw[t.length,t2.length];rw[ZAn] at hi;omega⟩⟩;obtain⟨y,z,e2,e3,rfl⟩:=ZBC e;obtain⟨v,e4,r4⟩:=t.getD e2;obtain⟨w,e5,r5⟩:=t2.getD e3;refine⟨⟨vs,us,v,w,f.sq,f2.sq,e4,e5⟩,λu H2 yy=>?_⟩;obtain⟨pp,x',y',rfl,hp,rfl,yy⟩:=yy;obtain⟨y1,y2⟩:=yy vs us f.sq f2.sq;rw[e4] at y1;rw[e5] at y2;cases y1;cases y2;obtain⟨sm,hr2,hn2⟩:=ZAC (o:=.tup [v,w]) h' hp;exact⟨sm,.tup (.inl ⟨.inl ZJ,hn2⟩) (.cons (r4.mono (.same sm)) (.cons (r5.mono (.same sm)) .nil))⟩
 |@zipl a b vs us ds es f t f2 t2 =>
  refine⟨λi x e=>?_,λi hi=>⟨vs,us,f.sq,f2.sq,by rw[t.length,t2.length];rw[ZAn] at hi;omega⟩⟩;obtain⟨y,z,e2,e3,rfl⟩:=ZBC e;obtain⟨v,e4,r4⟩:=t.getD e2;obtain⟨w,e5,r5⟩:=t2.getD e3;refine⟨⟨vs,us,v,w,f.sq,f2.sq,e4,e5⟩,λu H2 yy=>?_⟩;obtain⟨pp,x',y',rfl,hp,rfl,yy⟩:=yy;obtain⟨y1,y2⟩:=yy vs us f.sq f2.sq;rw[e4] at y1;rw[e5] at y2;cases y1;cases y2;obtain⟨sm,hr2,hn2⟩:=ZAC (o:=.tup [v,w]) h' hp;exact⟨sm,.tup (.inl ⟨.inl ZJ,hn2⟩) (.cons (r4.mono (.same sm)) (.cons (r5.mono (.same sm)) .nil))⟩
 |@zipx a b vs us ds es f t f2 t2 =>
  refine⟨λi x e=>?_,λi hi=>⟨vs,us,f.sq,f2.sq,by rw[t.length,t2.length];rw[ZAn] at hi;omega⟩⟩;obtain⟨y,z,e2,e3,rfl⟩:=ZBC e;obtain⟨v,e4,r4⟩:=t.getD e2;obtain⟨w,e5,r5⟩:=t2.getD e3;refine⟨⟨vs,us,v,w,f.sq,f2.sq,e4,e5⟩,λu H2 yy=>?_⟩;obtain⟨pp,x',y',rfl,hp,rfl,yy⟩:=yy;obtain⟨y1,y2⟩:=yy vs us f.sq f2.sq;rw[e4] at y1;rw[e5] at y2;cases y1;cases y2;obtain⟨sm,hr2,hn2⟩:=ZAC (o:=.tup [v,w]) h' hp;exact⟨sm,.tup (.inl ⟨.inl ZJ,hn2⟩) (.cons (r4.mono (.same sm)) (.cons (r5.mono (.same sm)) .nil))⟩
end
def tI(K:PySem.W.Frag)(d:DI):TI:=λσ H R=>∃ρ sd g xs src g',Rst K ρ H σ sd g/\d sd g=some (xs,src,g')/\∀J H' ρ',Stp ρ H ρ' H'->HR K ρ' H' g'->Z2 src xs g'/\ItOk K ρ' H' J xs src->R J H'
def ZH9:W->G->Option (List PyData×Option Nat×G)
 |.dat (.list ds),g=>some (ds,none,g)
 |.dat (.tuple ds),g=>some (ds,none,g)
 |.ref n,g=>(lk g n).map λds=>(ds,some n,g)
 |.inp ns,g=>some (ns.map .int,none,g)
 |_,_=>none
def ZDy(d:DE):DI:=λsd g=>(d sd g).bind λp=>ZH9 p.1 p.2
theorem PI.imp{X:Cx}{tg e:Expr}{t u:TI}(h:PI X tg e t)(k:∀σ H Q,u σ H Q->t σ H Q):PI X tg e u:=λpins s σ H Q I q=>h pins s σ H Q I (k σ H Q q)
def ZHp(K:PySem.W.Frag)(tl:TE):TI:=λσ H R=>tl σ H λx H1=>(∃a,x=.ref a/\(∃xs,SqL K H1 a xs)/\R (Itl K a) H1)∨(∃a,x=.ref a/\(∃xs,SqT K H1 a xs)/\R (Itt K a) H1)
section
variable{X:Cx}{tg:Expr}{pos:Pos}
theorem ZEd{l:Expr}{tl:TE}(hl:PE X l tl):PI X tg l (ZHp X.K tl):=by
 intro pins s σ H R I h;refine thn (hl pins s σ H _ I h) λv s1 ⟨x,H1,I1,r1,q1⟩=>?_
 rcases q1 with ⟨a,e,⟨xs,hq⟩,q⟩|⟨a,e,⟨xs,hq⟩,q⟩
 ·subst e
  cases r1;obtain⟨its,rv,p,hz⟩:=I1.list hq;refine wpAny_pyIter_list p.isList ?_;refine⟨s1.heap.objs.size,[s1.heap.objs.size],_,_,H1,rfl,I1.kept (t':=s1.toks) λb o e=>get?_push_of_some _ e,ZEw a _,⟨_,get?_push_size _ rfl,rfl,rfl⟩,λb hb=>?_,q⟩;have e:b=s1.heap.objs.size:=by simpa using hb
  subst e;exact I1.fpOk (le_refl _) (I1.hok.fresh (le_refl _))
 ·subst e
  cases r1;obtain⟨its,rv,p,hz⟩:=I1.tuple hq;refine wpAny_pyIter_tuple (show s1.heap.IsTuple a its.toArray from p) ?_;refine⟨s1.heap.objs.size,[s1.heap.objs.size],_,_,H1,rfl,I1.kept (t':=s1.toks) λb o e=>get?_push_of_some _ e,ZDk a _,⟨_,get?_push_size _ rfl,rfl,rfl⟩,λb hb=>?_,q⟩;have e:b=s1.heap.objs.size:=by simpa using hb
  subst e;exact I1.fpOk (le_refl _) (I1.hok.fresh (le_refl _))
theorem ZIS{l:Expr}{d:DE}(hl:PE X l (tE X.K d)):PI X tg l (tI X.K (ZDy d)):=(ZEd hl).imp λσ H R ⟨ρ,sd,g,xs,src,g',r,e,q⟩=>by
 obtain⟨⟨y,g1⟩,e1,e⟩:=bnd e;refine⟨ρ,sd,g,y,g1,r,e1,λv H1 ρ1 s1 h1 r1=>?_⟩;cases r1 with
 |ref h =>
  obtain⟨ds,e2,e⟩:=mp e;cases e;have e2:=ZDB e2;obtain⟨b,vs,e3,e4,tq⟩:=h1.at_ _ _ e2;rw[h] at e3;cases e3;exact .inl ⟨_,rfl,⟨vs,SqL.of e4⟩,q _ H1 ρ1 s1 h1 ⟨e2,ItOk.cell h⟩⟩
 |ty=>cases e
 |tup _ _=>cases e
 |inp h=>cases e;exact .inl ⟨_,rfl,⟨_,h.sq⟩,q _ H1 ρ1 s1 h1 ⟨trivial,ItOk.list h RelDL.ofInts⟩⟩
 |dat h =>
  cases h with
  |tup h t=>cases e;exact .inr ⟨_,rfl,⟨_,h.sq⟩,q _ H1 ρ1 s1 h1 ⟨trivial,ItOk.tup h t⟩⟩
  |lst h n t=>cases e;exact .inl ⟨_,rfl,⟨_,SqL.of h⟩,q _ H1 ρ1 s1 h1 ⟨trivial,ItOk.list (.inl ⟨.inl h,n⟩) t⟩⟩
  |_=>cases e
theorem RelL.one{K:PySem.W.Frag}{ρ : Rh}{H:Hp}{vs:List V}{ws:List W}(r:RelL K ρ H vs ws)(hl:ws.length=1):∃v w,vs=[v]/\ws=[w]/\Rel K ρ H v w:=by
 cases r with
 |nil=>cases hl
 |cons h t=>cases t with
  |nil=>exact⟨_,_,rfl,rfl,h⟩
  |cons _ _=>cases hl
theorem RelL.two{K:PySem.W.Frag}{ρ : Rh}{H:Hp}{vs:List V}{ws:List W}(r:RelL K ρ H vs ws)(hl:ws.length=2):∃v v2 w w2,vs=[v,v2]/\ws=[w,w2]/\Rel K ρ H v w/\Rel K ρ H v2 w2:=by
 cases r with
 |nil=>cases hl
 |cons h t =>
  obtain⟨v2,w2,rfl,rfl,h2⟩:=t.one (Nat.succ.inj hl);exact⟨_,_,_,_,rfl,rfl,h,h2⟩
theorem RelL.three{K:PySem.W.Frag}{ρ : Rh}{H:Hp}{vs:List V}{ws:List W}(r:RelL K ρ H vs ws)(hl:ws.length=3):∃v v2 v3 w w2 w3,vs=[v,v2,v3]/\ws=[w,w2,w3]/\Rel K ρ H v w/\Rel K ρ H v2 w2/\Rel K ρ H v3 w3:=by
 cases r with
 |nil=>cases hl
 |cons h t =>
  obtain⟨v2,v3,w2,w3,rfl,rfl,h2,h3⟩:=t.two (Nat.succ.inj hl);exact⟨_,_,_,_,_,_,rfl,rfl,h,h2,h3⟩
def ZAy:W->Option Int
 |.dat (.int i)=>some i
 |_=>none
def ZBy:W->Option (List PyData)
 |.dat (.tuple ds)=>some ds
 |_=>none
theorem ZFg{w:W}{i:Int}(e:ZAy w=some i):w=.dat (.int i):=by
 unfold ZAy at e
 split at e
 ·cases e;rfl
 ·cases e
theorem ZAo{w:W}{ds:List PyData}(e:ZBy w=some ds):w=.dat (.tuple ds):=by
 unfold ZBy at e
 split at e
 ·cases e;rfl
 ·cases e
theorem ZAS{K:PySem.W.Frag}{ρ : Rh}{H:Hp}{v:V}{w:W}{i:Int}(r:Rel K ρ H v w)(e:ZAy w=some i):v=.int i:=by
 rw[ZFg e] at r;cases r with
 |dat r=>cases r;rfl
def ZBS(a:DA):DI:=λsd g=>(a sd g).bind λp=>match p.1 with
 |[a]=>(ZAy a).bind λj=>if j<=1000/\-1000<=j then some (ZCQ j.toNat 0,none,p.2) else none
 |[a,b]=>(ZAy a).bind λi=>(ZAy b).bind λj=>if (j<=1000/\-1000<=j)/\(i<=1000/\-1000<=i) then some (ZCQ (j-i).toNat i,none,p.2) else none
 |_=>none
theorem ZEk{a:Expr}{da:DA}{p pos:Pos}(hg:Gl X "range")(hm:X.mg "range" = none)(ha:PA X [a] (tA X.K da))(hs:starEach [a] X.env=[(false,eval a X.env)]:=by rfl)(hn:Many da 1):PI X tg (.Call (.Name "range" p) [a] [] pos) (tI X.K (ZBS da)):=(ZEs hg hm ha hs).imp λσ H R ⟨ρ,sd,g,xs,src,g',r,e,q⟩=>by
 obtain⟨⟨ws,g1⟩,e1,e⟩:=bnd e;refine⟨ρ,sd,g,ws,g1,r,e1,λvs H1 ρ1 s1 h1 r1=>?_⟩;obtain⟨v,w,rfl,rfl,h⟩:=r1.one (hn.len e1);obtain⟨j,e2,e⟩:=bnd e;have:=ZAS h e2;subst this
 split at e
 ·rename_i hj
  cases e;exact⟨j,rfl,by omega,by omega,q _ H1 ρ1 s1 h1 ⟨trivial,ItOk.rng⟩⟩
 ·cases e
def ZDd(a:DA):DI:=λsd g=>(a sd g).bind λp=>match p.1 with
 |[a,b]=>(ZBy a).bind λds=>(ZBy b).map λes=>(ZAk ds es,none,p.2)
 |_=>none
theorem ZJJ{a b:Expr}{da:DA}{p pos:Pos}(hg:Gl X "zip")(hm:X.mg "zip" = none)(ha:PA X [a,b] (tA X.K da))(hs:starEach [a,b] X.env=[(false,eval a X.env),(false,eval b X.env)]:=by rfl)(hs2:starEach [b] X.env=[(false,eval b X.env)]:=by rfl)(hn:Many da 2) :
  PI X tg (.Call (.Name "zip" p) [a,b] [] pos) (tI X.K (ZDd da)):=(ZIc (q:=true) (qq:=true) hg hm ha hs hs2).imp λσ H R ⟨ρ,sd,g,xs,src,g',r,e,q⟩=>by
 obtain⟨⟨ws,g1⟩,e1,e⟩:=bnd e;refine⟨ρ,sd,g,ws,g1,r,e1,λvs H1 ρ1 s1 h1 r1=>?_⟩;obtain⟨v,v2,w,w2,rfl,rfl,h,h2⟩:=r1.two (hn.len e1);obtain⟨ds,e2,e⟩:=bnd e;obtain⟨es,e3,e⟩:=mp e;cases e;rw[ZAo e2] at h;rw[ZAo e3] at h2;cases h with
 |dat h=>cases h with
  |tup f1 t1=>cases h2 with
   |dat h2=>cases h2 with
    |tup f2 t2=>exact⟨_,_,rfl,⟨_,_,f1.sq,f2.sq⟩,q _ H1 ρ1 s1 h1 ⟨trivial,ItOk.zip f1 t1 f2 t2⟩⟩
def ZDn(a:DA):DI:=λsd g=>(a sd g).bind λp=>match p.1 with
 |[a,b,c]=>(ZBy a).bind λds=>(ZBy b).bind λes=>(ZBy c).map λfs=>(ZAH ds es fs,none,p.2)
 |_=>none
theorem ZGz{a b c:Expr}{da:DA}{p pos:Pos}(hg:Gl X "zip")(hm:X.mg "zip" = none)(ha:PA X [a,b,c] (tA X.K da))(hs:starEach [a,b,c] X.env=[(false,eval a X.env),(false,eval b X.env),(false,eval c X.env)]:=by rfl)(hs2:starEach [b,c] X.env=[(false,eval b X.env),(false,eval c X.env)]:=by rfl)(hn:Many da 3) :
  PI X tg (.Call (.Name "zip" p) [a,b,c] [] pos) (tI X.K (ZDn da)):=(ZHJ hg hm ha hs hs2).imp λσ H R ⟨ρ,sd,g,xs,src,g',r,e,q⟩=>by
 obtain⟨⟨ws,g1⟩,e1,e⟩:=bnd e;refine⟨ρ,sd,g,ws,g1,r,e1,λvs H1 ρ1 s1 h1 r1=>?_⟩;obtain⟨v,v2,v3,w,w2,w3,rfl,rfl,h,h2,h3⟩:=r1.three (hn.len e1);obtain⟨ds,e2,e⟩:=bnd e;obtain⟨es,e3,e⟩:=bnd e;obtain⟨fs,e4,e⟩:=mp e;cases e;rw[ZAo e2] at h;rw[ZAo e3] at h2;rw[ZAo e4] at h3;cases h with
 |dat h=>cases h with
  |tup f1 t1=>cases h2 with
   |dat h2=>cases h2 with
    |tup f2 t2=>cases h3 with
     |dat h3=>cases h3 with
      |tup f3 t3=>exact⟨_,_,_,rfl,⟨_,_,_,f1.sq,f2.sq,f3.sq⟩,q _ H1 ρ1 s1 h1 ⟨trivial,ItOk.zip3 f1 t1 f2 t2 f3 t3⟩⟩
end
end L2
namespace L2
open PySem PySem.Spec PyProof.Rows H1
open Classical in
noncomputable def ZAi{α : Type}(src:Option Nat)(xs:List PyData)(g:G)(k:Option α):Option α:=match src with|none=>k|some n=>if g[n]? = some (.pl xs) then k else none
theorem ZAg{α : Type}{src:Option Nat}{xs:List PyData}{g:G}{k:Option α}{y : α}(h:ZAi src xs g k=some y):Z2 src xs g/\k=some y:=by
 unfold ZAi at h;cases src with
 |none=>exact⟨trivial,h⟩
 |some n =>
  dsimp only at h
  split at h
  ·rename_i q;exact⟨q,h⟩
  ·cases h
noncomputable def ZAP(src:Option Nat)(xs:List PyData)(pt:Pat)(db:DS):List PyData->Sd->G->Option Out
 |[],sd,g=>some (.nx sd g)
 |x::r,sd,g=>(Ze pt (.dat x) sd).bind λsd1=>(db sd1 g).bind λo=>match o with
  |.nx sd2 g2=>ZAi src xs g2 (ZAP src xs pt db r sd2 g2)
  |.ct sd2 g2=>ZAi src xs g2 (ZAP src xs pt db r sd2 g2)
  |.bk sd2 g2=>some (.nx sd2 g2)
  |.rt y g2=>some (.rt y g2)
noncomputable def ZDu(pt:Pat)(di:DI)(db:DS):DS:=λsd g=>(di sd g).bind λt=>ZAP t.2.1 t.1 pt db t.1 sd t.2.2
theorem allT(pt:Pat):pt.all (λ_=>true)=true:=Pat.rec (motive_1:=λp=>p.all (λ_=>true)=true) (motive_2:=λp=>p.all (λ_=>true)=true) (λi=>by rw[Pat.all]) (λps h=>by rw[Pat.all];exact h) (by rw[Pats.all]) (λp r h1 h2=>by rw[Pats.all,h1,h2];rfl) pt
section
variable{X:Cx}{tg iter:Expr}{pos:Pos}{di:DI}{pt:Pat}{db:DS}
theorem ZI3{body:List Stmt}(hp:PassesOwn (model X.prog X.w) X.A X.env X.xe)(hc:X.calm=true)(hi:PI X tg iter (tI X.K di))(hg:PG X tg (gP X.K pt))(hb:PSs X body (tS X.K db))
  (hs:∀x,foldedSetIterable iter X.env x=pure x:=by intro _;rfl):PS X (.For tg iter body [] pos) (tS X.K (ZDu pt di db)):=(ZJZ hp hc hi hg hb hs).imp λD σ H ⟨ρ,sd,g,o,r,e,q⟩=>by
 obtain⟨⟨xs,src,g1⟩,e1,e⟩:=bnd e;refine⟨ρ,sd,g,xs,src,g1,r,e1,λJ H1 ρ1 s1 h1 ⟨so,it⟩=>?_⟩;refine⟨λi m σ' H'=>m=xs.length-i/\i<=xs.length/\∃ρ' sd' g',Stp ρ1 H1 ρ' H'/\Rst X.K ρ' H' σ' sd' g'/\Z2 src xs g'/\ZAP src xs pt db (xs.drop i) sd' g'=some o,⟨xs.length,rfl,zero_le _,ρ1,sd,g1,.refl,r.step s1 h1,so,e⟩,?_⟩
 rintro i m σ' H' ⟨rfl,hi,ρ',sd',g',s',r',so',e'⟩
 obtain⟨hgo,hst⟩:=(it.mono s').use r'.hr so'
 by_cases hlt:i<xs.length
 ·rw[List.drop_eq_getElem_cons hlt] at e'
  rw[ZAP] at e';obtain⟨sd1,e2,e'⟩:=bnd e';obtain⟨o1,e3,e'⟩:=bnd e';obtain⟨hg1,hy⟩:=hgo i xs[i] (getElem?_eq_getElem hlt);refine .inr ⟨hg1,λσ2 H2=>∃ρ2 sd2 g2,Stp ρ1 H1 ρ2 H2/\Rst X.K ρ2 H2 σ2 sd2 g2/\Z2 src xs g2/\ZAP src xs pt db (xs.drop (i+1)) sd2 g2=some o,λσ2 H2 ⟨ρ2,sd2,g2,k1,k2,k3,k4⟩=>⟨xs.length-(i+1),by omega,rfl,hlt,ρ2,sd2,g2,k1,k2,k3,k4⟩,λv H2 y=>?_⟩;obtain⟨sm,rv⟩:=hy v H2 y;have s2:Stp ρ' H' ρ' H2:=.same sm;refine ZCm (f:=λ_=>true) (allT pt) e2 (r'.step s2 (r'.hr.same sm)) (.dat rv) λσ3 r3 _=>⟨ρ',sd1,g',o1,r3,e3,?_⟩
  have s02:=s1.trans (s'.trans s2);cases o1 with
  |nx sd2 g2 =>
   obtain⟨so2,e4⟩:=ZAg e';exact λσ4 H4 ρ4 s4 r4=>⟨ρ4,sd2,g2,(s'.trans s2).trans s4,r4,so2,e4⟩
  |ct sd2 g2 =>
   obtain⟨so2,e4⟩:=ZAg e';exact λσ4 H4 ρ4 s4 r4=>⟨ρ4,sd2,g2,(s'.trans s2).trans s4,r4,so2,e4⟩
  |bk sd2 g2 =>
   cases e';exact ZCd.step q s02
  |rt y g2 =>
   cases e';exact ZCd.step q s02
 ·have ei:i=xs.length:=by omega
  subst ei;rw[drop_length,ZAP] at e';cases e';exact .inl ⟨hst _ (le_refl _),q σ' H' ρ' (s1.trans s') r'⟩
end
def ZEu(own:Nat)(cap:List Nat)(sd:Sd):Sd:=List.replicate own none++cap.map λj=>(sd[j]?).join
noncomputable def Z1(src:Option Nat)(xs:List PyData)(pt:Pat)(dt:DB)(de:DE)(sd0:Sd):List PyData->G->Option (List PyData×G)
 |[],g=>some ([],g)
 |x::r,g=>(Ze pt (.dat x) sd0).bind λsd1=>(dt sd1 g).bind λb=>if b.1=true then (de sd1 b.2).bind λy=>match y.1 with
   |.dat d=>ZAi src xs y.2 ((Z1 src xs pt dt de sd0 r y.2).map λq=>(d::q.1,q.2))
   |_=>none
  else ZAi src xs b.2 (Z1 src xs pt dt de sd0 r b.2)
noncomputable def ZAQ(own:Nat)(cap:List Nat)(pt:Pat)(di:DI)(dt:DB)(de:DE):DE:=λsd g=>(di sd g).bind λt=>if t.1.length<=1000 then (Z1 t.2.1 t.1 pt dt de (ZEu own cap sd) t.1 t.2.2).map λp=>(.dat (.list p.1),p.2) else none
def ZFi:DB:=λ_ g=>some (true,g)
theorem ZHW{K:PySem.W.Frag}{ρ : Rh}{H:Hp}{σ : St}{sd:Sd}{g:G}(r:Rst K ρ H σ sd g)(own:Nat)(cap:List Nat):Rst K ρ H (ZCC own cap σ) (ZEu own cap sd) g:=by
 refine⟨by unfold ZCC ZEu;simp,λi x e=>?_,r.hr⟩;unfold ZEu at e;unfold ZCC
 by_cases hi:i<own
 ·rw[getElem?_append_left (by simpa using hi),getElem?_replicate] at e
  split at e <;> cases e
 ·rw[getElem?_append_right (by simpa using hi),length_replicate,getElem?_map] at e
  rw[getElem?_append_right (by simpa using hi),length_replicate,getElem?_map];obtain⟨j,e1,e⟩:=mp e;rw[e1];cases k:sd[j]? with
  |none=>rw[k] at e;cases e
  |some w =>
   rw[k] at e;have e:w=some x:=e;subst e;obtain⟨v,h1,h2⟩:=r.env j x k;exact⟨v,by show some ((σ[j]?).join)=_;rw[h1];rfl,h2⟩
theorem ZGF{own:Nat}{cap:List Nat}{σ : St}{i:Nat}(h:i<own):(ZCC own cap σ)[i]? = some none:=by
 unfold ZCC;rw[getElem?_append_left (by simpa using h),getElem?_replicate,if_pos h]
theorem PTs.imp{X:Cx}{ifs:List Expr}{t u:TT}(h:PTs X ifs t)(k:∀σ H Q,u σ H Q->t σ H Q):PTs X ifs u:=λpins s σ H Q I q=>h pins s σ H Q I (k σ H Q q)
theorem ZHu{X:Cx}:PTs X [] (tT X.K ZFi):=ZG4.imp λσ H Q ⟨ρ,sd,g,b,g',r,e,q⟩=>by
 cases e;exact q H ρ .refl r.hr
theorem ZHf{X:Cx}{c:Expr}{d:DB}(h:PT X c (tT X.K d)):PTs X [c] (tT X.K d):=ZGf h
theorem Stp.grow{ρ ρ':Rh}{H H':Hp}{p:Addr}{o:HO}(hp:H p=none)(s:Stp ρ H ρ' H'):Stp ρ H ρ' (upd H' p o):=⟨s.pre,s.hid,λa u e n=>by rw[ZC (ZH e hp)];exact s.frm a u e n,s.fre,λa u e=>by rw[ZC (ZH e hp)];exact s.kd a u e⟩
theorem Stp.unhide{ρ ρ':Rh}{H H':Hp}{p:Addr}(s:Stp (ρ.hide p) H ρ' H'):Stp ρ H ⟨ρ'.c,ρ.h⟩ H'/\ρ'=(⟨ρ'.c,ρ.h⟩:Rh).hide p:=⟨⟨s.pre,rfl,s.frm,s.fre,s.kd⟩,by
 have:=s.hid;obtain⟨c,h⟩:=ρ';have e:h=p::ρ.h:=this
 subst e;rfl⟩
theorem Rst.hide{K:PySem.W.Frag}{ρ : Rh}{H:Hp}{σ : St}{sd:Sd}{g:G}{p:Addr}{o:HO}(hp:H p=none)(r:Rst K ρ H σ sd g):Rst K (ρ.hide p) (upd H p o) σ sd g:=⟨r.len,λi x e=>by
 obtain⟨v,h1,h2⟩:=r.env i x e;exact⟨v,h1,h2.hide hp⟩,r.hr.hide hp⟩
theorem Rst.grow{K:PySem.W.Frag}{ρ : Rh}{H:Hp}{σ : St}{sd:Sd}{g:G}{p:Addr}{o:HO}(hp:p∈ρ.h)(r:Rst K ρ H σ sd g):Rst K ρ (upd H p o) σ sd g:=⟨r.len,λi x e=>by
 obtain⟨v,h1,h2⟩:=r.env i x e;exact⟨v,h1,h2.grow hp⟩,r.hr.grow hp⟩
section
variable{X:Cx}{tg elt iter:Expr}{ifs:List Expr}{scope sc:Scope}{pos:Pos}{di:DI}{pt:Pat}{dt:DB}{de:DE}{N NX:List Str}{own:Nat}{cap:List Nat}
inductive CRun (so:G->Prop) (pt:Pat) (dt:DB) (de:DE) (sd0:Sd):List W->G->List W->G->Prop
 |nil {g:G}:CRun so pt dt de sd0 [] g [] g
 |yes {x:W} {r ys:List W} {y:W} {sd1:Sd} {g g1 g2 g3:G}:Ze pt x sd0=some sd1->dt sd1 g=some (true,g1)->de sd1 g1=some (y,g2)->so g2->CRun so pt dt de sd0 r g2 ys g3->CRun so pt dt de sd0 (x::r) g (y::ys) g3
 |no {x:W} {r ys:List W} {sd1:Sd} {g g1 g3:G}:Ze pt x sd0=some sd1->dt sd1 g=some (false,g1)->so g1->CRun so pt dt de sd0 r g1 ys g3->CRun so pt dt de sd0 (x::r) g ys g3
theorem ZE1{K:PySem.W.Frag}{Q:VK}{J:It}{IO:Rh->Hp->Prop}{so:G->Prop}{xs zs:List W}{ρ1:Rh}{H1:Hp}{σ0:St}{sd0:Sd}{g1 g2:G}{D:Addr}(hp:pt.all (λi=>decide (i<own))=true)
  (mono:∀{ρ H ρ' H'},Stp ρ H ρ' H'->IO ρ H->IO ρ' H')(grow:∀{ρ H o},D∈ρ.h->IO ρ H->IO ρ (upd H D o))
  (use:∀{ρ H g},IO ρ H->HR K ρ H g->so g->(∀(i:Nat) x,xs[i]? = some x->J.go i H/\∀v H2,J.yld i H v H2->Same H H2/\Rel K ρ H2 v x)/\∀i,xs.length<=i->J.stop i H)
  (hz:xs.length<=1000)(hD:H1 D=none)(r1:Rst K ρ1 H1 σ0 sd0 g1)(hσ : ∀i,i<own->σ0[i]? = some none)(so1:so g1)(io:IO (ρ1.hide D) (upd H1 D (.lst [])))(run:CRun so pt dt de sd0 xs g1 zs g2)
  (fin:∀acc H' ρ',Stp ρ1 H1 ρ' H'->HR K (ρ'.hide D) H' g2->H' D=some (.lst acc)->RelL K (ρ'.hide D) H' acc zs->Q (.ref D) H'):ZD6 J (gP K pt) (tT K dt) (tE K de) σ0 D Q (upd H1 D (.lst [])):=by
 have hDm:∀{ρx:Rh},D∈(ρx.hide D).h:=λ{ρx}=>mem_cons_self ..
 refine⟨λi m acc H'=>m=xs.length-i/\i<=xs.length/\acc.length<=i/\∃ρ' g' ads ys,Stp ρ1 H1 ρ' H'/\Rst K (ρ'.hide D) H' σ0 sd0 g'/\so g'/\H' D=some (.lst acc)/\RelL K (ρ'.hide D) H' acc ads/\IO (ρ'.hide D) H'/\CRun so pt dt de sd0 (xs.drop i) g' ys g2/\ads++ys=zs,⟨xs.length,rfl,zero_le _,le_refl _,ρ1,g1,[],zs,.same (_root_.H1.Same.upd hD),r1.hide hD,so1,ZJ,.nil,io,run,rfl⟩,?_⟩
 rintro i m acc H' ⟨rfl,hi,ha,ρ',g',ads,ys,s',r',so',hacc,ra,it',e',ez⟩
 obtain⟨hgo,hst⟩:=use it' r'.hr so'
 by_cases hlt:i<xs.length
 ·rw[List.drop_eq_getElem_cons hlt] at e'
  obtain⟨hg1,hy⟩:=hgo i xs[i] (getElem?_eq_getElem hlt);refine .inr ⟨hg1,λacc2 H2=>acc2.length<=i+1/\∃ρ' g' ads ys,Stp ρ1 H1 ρ' H2/\Rst K (ρ'.hide D) H2 σ0 sd0 g'/\so g'/\H2 D=some (.lst acc2)/\RelL K (ρ'.hide D) H2 acc2 ads/\IO (ρ'.hide D) H2/\CRun so pt dt de sd0 (xs.drop (i+1)) g' ys g2/\ads++ys=zs,λacc2 H2 ⟨k0,k⟩=>⟨xs.length-(i+1),by omega,rfl,hlt,k0,k⟩,λv H2 y=>?_⟩;obtain⟨sm,rv⟩:=hy v H2 y;have s2:Stp (ρ'.hide D) H' (ρ'.hide D) H2:=.same sm;cases e' with
  |no e2 e3 so3 e4 =>
   refine ZCm (f:=λi=>decide (i<own)) hp e2 (r'.step s2 (r'.hr.same sm)) rv λσ3 r3 kp=>⟨?_,ρ'.hide D,_,g',_,_,r3,e3,λH3 ρ3 s3 h3=>?_⟩
   ·exact⟨kp.1,λi v e=>by
     by_cases hi:i<own
     ·rw[hσ i hi] at e;cases e
     ·rw[kp.2 i (decide_eq_false hi)];exact e⟩
   have s23:=s2.trans s3;obtain⟨u3,e3h⟩:=s23.unhide;have hD3:H3 D=some (.lst acc):=s23.frm _ _ hacc (r'.hr.hid D hDm).1;rw[e3h] at h3 s23;refine iteF ?_;exact⟨Nat.le_succ_of_le ha,⟨ρ3.c,ρ'.h⟩,_,ads,ys,s'.trans u3,r'.step s23 h3,so3,hD3,ra.mono s23,mono s23 it',e4,ez⟩
  |@yes _ _ ys' w sd1 _ g3 g4 _ e2 e3 e4 so4 e6 =>
   refine ZCm (f:=λi=>decide (i<own)) hp e2 (r'.step s2 (r'.hr.same sm)) rv λσ3 r3 kp=>⟨?_,ρ'.hide D,_,g',_,_,r3,e3,λH3 ρ3 s3 h3=>?_⟩
   ·exact⟨kp.1,λi v e=>by
     by_cases hi:i<own
     ·rw[hσ i hi] at e;cases e
     ·rw[kp.2 i (decide_eq_false hi)];exact e⟩
   have s23:=s2.trans s3;obtain⟨u3,e3h⟩:=s23.unhide;have hD3:H3 D=some (.lst acc):=s23.frm _ _ hacc (r'.hr.hid D hDm).1;have r3':=r3.step s3 h3;rw[e3h] at r3' h3 s3 s23;refine iteT ?_;refine⟨(⟨ρ3.c,ρ'.h⟩:Rh).hide D,sd1,g3,w,g4,r3',e4,λy4 H4 ρ4 s4 h4 r4=>?_⟩;obtain⟨u4,e4h⟩:=s4.unhide;rw[e4h] at h4 r4 s4;have s24:=s23.trans s4;have hD4:H4 D=some (.lst acc):=s4.frm _ _ hD3 (h3.hid D hDm).1;refine⟨hD4,Nat.lt_of_le_of_lt ha (Zt (by omega)),?_⟩;refine⟨by rw[length_append];exact Nat.add_le_add_right ha 1,⟨ρ4.c,ρ'.h⟩,g4,ads++[w],ys',((s'.trans u3).trans u4).grow hD,(r'.step s24 h4).grow hDm,so4,ZJ,((ra.mono s24).append (.cons r4 .nil)).grow hDm,grow hDm (mono s24 it'),e6,?_⟩;rw[append_assoc];exact ez
 ·have ei:i=xs.length:=by omega
  subst ei;rw[drop_length] at e';cases e';rw[append_nil] at ez;subst ez;exact .inl ⟨hst _ (le_refl _),fin acc H' ρ' s' r'.hr hacc ra⟩
theorem ZDz{src:Option Nat}{xs:List PyData}{sd0:Sd}{g2:G}:∀{r ys:List PyData} {g:G},Z1 src xs pt dt de sd0 r g=some (ys,g2)->CRun (Z2 src xs) pt dt de sd0 (r.map .dat) g (ys.map .dat) g2
 |[],_,_,e=>by
  rw[Z1] at e;cases e;exact .nil
 |x::r,ys,g,e=>by
  rw[Z1] at e;obtain⟨sd1,e2,e⟩:=bnd e;obtain⟨⟨b,g3⟩,e3,e⟩:=bnd e;cases b with
  |false =>
   rw[if_neg Bool.false_ne_true] at e;obtain⟨so,e⟩:=ZAg e;exact .no e2 e3 so (ZDz e)
  |true =>
   rw[if_pos rfl] at e;obtain⟨⟨w,g4⟩,e4,e⟩:=bnd e;dsimp only at e
   split at e
   ·obtain⟨so,e⟩:=ZAg e
    obtain⟨⟨ys',g5⟩,e6,e⟩:=mp e;cases e;exact .yes e2 e3 e4 so (ZDz e6)
   ·cases e
theorem RelL.dats{K:PySem.W.Frag}{ρ : Rh}{H:Hp}:∀{ds:List PyData} {vs:List V},RelL K ρ H vs (ds.map .dat)->RelDL K ρ H vs ds
 |[],_,.nil=>.nil
 |_::_,_,.cons (.dat h) t=>.cons h (RelL.dats t)
theorem ItOk.useW{K:PySem.W.Frag}{ρ : Rh}{H:Hp}{g:G}{J:It}{xs:List PyData}{src:Option Nat}(it:ItOk K ρ H J xs src)(h:HR K ρ H g)(so:Z2 src xs g):(∀(i:Nat) x,(xs.map W.dat)[i]? = some x->J.go i H/\∀v H2,J.yld i H v H2->Same H H2/\Rel K ρ H2 v x)/\∀i,(xs.map W.dat).length<=i->J.stop i H:=by
 obtain⟨a,b⟩:=it.use h so;refine⟨λi x e=>?_,λi hi=>b i (by rwa [length_map] at hi)⟩;rw[getElem?_map] at e;obtain⟨d,e2,rfl⟩:=mp e;exact⟨(a i d e2).1,λv H2 y=>⟨((a i d e2).2 v H2 y).1,.dat ((a i d e2).2 v H2 y).2⟩⟩
theorem ZHB{K:PySem.W.Frag}{Q:VK}{ρ ρ1 ρ':Rh}{H H1 H':Hp}{D:Addr}{acc:List V}{ds:List PyData}{g1 g2:G}(hD:H1 D=none)(h1:HR K ρ1 H1 g1)(q:Pv K ρ H (.dat (.list ds)) g2 Q)(s1:Stp ρ H ρ1 H1)(s':Stp ρ1 H1 ρ' H')(hr:HR K (ρ'.hide D) H' g2)(hacc:H' D=some (.lst acc))(ra:RelL K (ρ'.hide D) H' acc (ds.map .dat)):Q (.ref D) H':=by
 have hnh:D∉ρ1.h:=λz=>h1.nin hD (.inr z)
 refine q _ H' ρ' (s1.trans s') hr.shown (.dat (.lst hacc (λz=>?_) (ra.dats.less (ρ':=ρ') (ρ:=ρ'.hide D) λ_ z=>z.elim .inl λq=>.inr (mem_cons_of_mem _ q))));rcases z with z|z
 ·exact(hr.hid D (mem_cons_self ..)).1 z
 ·rw[s'.hid] at z
  exact hnh z
theorem ZEL{K:PySem.W.Frag}{σ : St}{H:Hp}{Q:VK}(hp:pt.all (λi=>decide (i<own))=true)(h:tE K (ZAQ own cap pt di dt de) σ H Q):ZFq own cap (tI K di) (gP K pt) (tT K dt) (tE K de) σ H Q:=by
 obtain⟨ρ,sd,g,x,gz,r,e,q⟩:=h;obtain⟨⟨xs,src,g1⟩,e1,e⟩:=bnd e;dsimp only at e
 split at e
 ·rename_i hz
  obtain⟨⟨zs,g2⟩,e2,e⟩:=mp e;cases e;exact⟨ρ,sd,g,xs,src,g1,r,e1,λJ H1 ρ1 s1 h1 ⟨so,it⟩ D hD=>ZE1 hp (IO:=λρ H=>ItOk K ρ H J xs src) (λs i=>i.mono s) (λh i=>i.grow h) (λi h s=>i.useW h s) (by rw[length_map];exact hz) hD (ZHW (r.step s1 h1) own cap) (λi hi=>ZGF hi) so (it.hide hD) (ZDz e2) λacc H' ρ' s' hr hacc ra=>ZHB hD h1 q s1 s' hr hacc ra⟩
 ·cases e
theorem ZHw(hc:X.calm=true)(hi:PI X tg iter (tI X.K di))(hsc:X.env.scope=sc)(hNX:X.N=NX)
  (hb:∀cl C s0 H0 fp,PG (blk X N (compEnvC scope cl C X.env) s0 H0 fp) tg (gP X.K pt)/\PTs (blk X N (compEnvC scope cl C X.env) s0 H0 fp) ifs (tT X.K dt)/\PE (blk X N (compEnvC scope cl C X.env) s0 H0 fp) elt (tE X.K de))
  (co:ZCM sc scope NX N own cap=true)(hp:pt.all (λi=>decide (i<own))=true)(hs:∀x,foldedSetIterable iter X.env x=pure x:=by intro _;rfl):PE X (.ListComp elt [⟨tg,iter,ifs,0⟩] scope pos) (tE X.K (ZAQ own cap pt di dt de)) :=
 (ZHb hc hi hsc hNX hb co hs).imp λ_ _ _ h=>ZEL hp h
theorem ZHy{i:Nat}{x:Str}{py spos:Pos}(hN:X.N.Nodup)(hi:X.N[i]? = some x)(hx:Loc X.env.scope x)(hc:X.calm=true)(hit:PI X tg iter (tI X.K di))(hsc:X.env.scope=sc)(hNX:X.N=NX)
  (hb:∀cl C s0 H0 fp,PG (blk X N (compEnvC scope cl C X.env) s0 H0 fp) tg (gP X.K pt)/\PTs (blk X N (compEnvC scope cl C X.env) s0 H0 fp) ifs (tT X.K dt)/\PE (blk X N (compEnvC scope cl C X.env) s0 H0 fp) elt (tE X.K de))
  (co:ZCM sc scope NX N own cap=true)(hp:pt.all (λi=>decide (i<own))=true)(hsw:swapsWith (.ListComp elt [⟨tg,iter,ifs,0⟩] scope pos) (some (.Name x py)) spos.line X.env=pure true:=by rfl)(hs:∀x,foldedSetIterable iter X.env x=pure x:=by intro _;rfl)
  (hf:X.fn x=true∨X.env.scope.names.lookup x=some .local:=by first|exact .inl rfl|exact .inr rfl|assumption) :
  PS X (.Assign [.Name x py] (.ListComp elt [⟨tg,iter,ifs,0⟩] scope pos) spos) (tS X.K (Zs i (ZAQ own cap pt di dt de))):=(ZGd hN hi hx hc hit hsc hNX hb co hsw hs hf).imp λD σ H ⟨ρ,sd,g,o,r,e,q⟩=>by
 obtain⟨⟨y,g1⟩,e1,e⟩:=bnd e;cases e;exact ZEL hp ⟨ρ,sd,g,y,g1,r,e1,λv H1 ρ1 s1 h1 r1=>q _ H1 ρ1 s1 ((r.step s1 h1).set r1 i)⟩
end
def ZAN(n:Nat)(d:DS)(ws:List W)(g:G):Option (W×G):=match d (ws.map some++List.replicate (n-ws.length) none) g with
 |some (.rt x g')=>some (x,g')
 |some (.nx _ g')=>some (.dat .none,g')
 |_=>none
theorem ZCl{K:PySem.W.Frag}{ρ : Rh}{H:Hp}{g:G}(h:HR K ρ H g)(k:Nat):∀{vs:List V} {ws:List W},RelL K ρ H vs ws->Rst K ρ H (vs.map some++List.replicate k none) (ws.map some++List.replicate k none) g
 |_,_,.nil=>by
  refine⟨by simp,λi x e=>?_,h⟩;simp only[map_nil,nil_append] at e;rw[getElem?_replicate] at e
  split at e <;> cases e
 |v::vs,w::ws,.cons r t=>by
  have q:=ZCl h k t;refine⟨by have:=q.len;simp at this ⊢;exact this,λi x e=>?_,h⟩;cases i with
  |zero=>simp at e;subst e;exact⟨v,by simp,r⟩
  |succ i =>
   simp at e;obtain⟨u,h1,h2⟩:=q.env i x (by simpa using e);exact⟨u,by simpa using h1,h2⟩
theorem ZIp{P:Program}{w:World}{K:PySem.W.Frag}{mg:Str->Option Value}{base:Heap}{x qual:Str}{st:Stmt}{f:Addr}{fd:FuncData}{N ps:List Str}{k:Nat}{d:DS}(F:Fun K x qual st f fd)(S:FnScope N ps (ZF st))
  (hb:∀(cdv:Value) (A:Around) (outer:List Env) (s:Shared) (H:Hp) (E:XK),Room k (A.deeper (envOfC qual (ZF st) s.heap.objs.size f cdv))->PSs (ZDV CX0 P w K mg base N qual (ZF st) f cdv A outer s H E).nox (Zv st) (tS K d)) :
  FnOk P w K mg base CX0 (k+1) f fd ps (spD K ps.length (ZAN N.length d)):=by
 refine F.ok S (λvs H Q E h=>h.1) (λcdv A outer s H vs Q E hr h=>⟨_,hb cdv A outer s H E hr,?_⟩);obtain⟨hl,ρ,ws,g,z,gz,hR,rl,e,q⟩:=h;unfold ZAN at e;have hlw:=rl.length;unfold ZBD;rw[hlw];cases ho:d (ws.map some++List.replicate (N.length-ws.length) none) g with
 |none=>rw[ho] at e;cases e
 |some o =>
  rw[ho] at e;refine⟨ρ,_,g,o,ZCl hR _ rl,ho,?_⟩;cases o with
  |nx sd g' =>
   cases e;intro σ' H' ρ' s' r';exact q .non H' ρ' s' r'.hr (.dat .non)
  |rt y g' =>
   cases e;exact q
  |bk _ _=>cases e
  |ct _ _=>cases e
end L2
namespace L2
open PySem PySem.Spec PyProof.Rows H1
mutual
theorem RelD.reads{X:Cx}{pins:List (Addr×Obj)}{σ : St}{ρ : Rh}{H:Hp}{s:Shared}(I:Inv X pins σ H s):∀{v:V} {d:PyData} {u:Value},RelD X.K ρ H v d->d.canLay0=true->ZW v u->∃as,Reads s.heap u d as
 |_,_,_,.non,_,r=>by cases r;exact⟨_,.none⟩
 |_,_,_,.bl b,_,r=>by cases r;exact⟨_,.bool b⟩
 |_,_,_,.int i,_,r=>by obtain⟨t,rfl⟩:=r;exact⟨_,.int i t⟩
 |_,_,_,.str x,_,r=>by obtain⟨t,rfl⟩:=r;exact⟨_,.str x t⟩
 |_,_,_,.tup h hl,c,r=>by
  cases r;obtain⟨its,rv,⟨o,ho,hc,n,hd⟩,_⟩:=I.tuple h.sq;obtain⟨as,ra⟩:=RelDL.reads I hl (by rw[PyData.canLay0] at c;exact c) rv;exact⟨as,.tuple ho hc hd (by simpa using ra)⟩
 |_,_,_,.lst h _ hl,c,r=>by
  cases r;obtain⟨_,its,n,rv,e⟩:=I.hok _ _ h;obtain⟨as,ra⟩:=RelDL.reads I hl (by rw[PyData.canLay0] at c;exact c) rv;exact⟨_,.list e rfl rfl (by simpa using ra)⟩
 |_,_,_,.dct h _,c,r=>by rw[PyData.canLay0] at c;cases c
theorem RelDL.reads{X:Cx}{pins:List (Addr×Obj)}{σ : St}{ρ : Rh}{H:Hp}{s:Shared}(I:Inv X pins σ H s):∀{vs:List V} {ds:List PyData} {us:List Value},RelDL X.K ρ H vs ds->PyData.canLayAll0 ds=true->ZI vs us->∃as,ReadsAll s.heap us ds as
 |_,_,_,.nil,_,r=>by cases r;exact⟨_,.nil⟩
 |_,_,_,.cons h hl,c,r=>by
  rw[PyData.canLayAll0,Bool.and_eq_true] at c;cases r with
  |cons r1 r2 =>
   obtain⟨as,ra⟩:=RelD.reads I h c.1 r1;obtain⟨bs,rb⟩:=RelDL.reads I hl c.2 r2;exact⟨_,.cons ra rb⟩
end
def Zr:W->G->Option (List PyData)
 |.dat (.list ds),_=>some ds
 |.ref n,g=>lk g n
 |_,_=>none
theorem Zi{K:PySem.W.Frag}{ρ : Rh}{H:Hp}{g:G}{v:V}{w:W}{ds:List PyData}(hR:HR K ρ H g)(r:Rel K ρ H v w)(e:Zr w g=some ds):∃a vs,v=.ref a/\H a=some (.lst vs)/\RelDL K ρ H vs ds:=by
 cases r with
 |ty=>cases e
 |tup _ _=>cases e
 |inp _=>cases e
 |ref h =>
  obtain⟨a,vs,h1,h2,h3⟩:=hR.at_ _ _ (ZDB e);rw[h] at h1;cases h1;exact⟨_,vs,rfl,h2,h3⟩
 |dat h =>
  cases h with
  |lst h n t=>cases e;exact⟨_,_,rfl,h,t⟩
  |_=>cases e
theorem Pv.at{K:PySem.W.Frag}{ρ : Rh}{H:Hp}{g:G}{x:W}{v:V}{Q:VK}(q:Pv K ρ H x g Q)(h:HR K ρ H g)(r:Rel K ρ H v x):Q v H:=q v H ρ .refl h r
theorem Pv.new{K:PySem.W.Frag}{ρ : Rh}{H:Hp}{g:G}{ds:List PyData}{vs:List V}{Q:VK}(q:Pv K ρ H (.dat (.list ds)) g Q)(h:HR K ρ H g)(r:RelDL K ρ H vs ds){p:Addr}(hp:H p=none):Q (.ref p) (upd H p (.lst vs)):=by
 obtain⟨sm,hr2,hn⟩:=ZAC (o:=.lst vs) h hp;exact q _ _ ρ (.same sm) hr2 (.dat (.lst ZJ hn (r.mono (.same sm))))
theorem Pv.newT{K:PySem.W.Frag}{ρ : Rh}{H:Hp}{g:G}{ds:List PyData}{vs:List V}{Q:VK}(q:Pv K ρ H (.dat (.tuple ds)) g Q)(h:HR K ρ H g)(r:RelDL K ρ H vs ds){p:Addr}(hp:H p=none):Q (.ref p) (upd H p (.tup vs)):=by
 obtain⟨sm,hr2,hn⟩:=ZAC (o:=.tup vs) h hp;exact q _ _ ρ (.same sm) hr2 (.dat (.tup (.inl ⟨.inl ZJ,hn⟩) (r.mono (.same sm))))
def ZO:W->W->G->Option (W×G)
 |.dat (.int i),.dat (.int j),g=>some (.dat (.int (i+j)),g)
 |.dat (.tuple xs),.dat (.tuple ys),g=>if xs.length+ys.length<=1000 then some (.dat (.tuple (xs++ys)),g) else none
 |.dat (.str a),.dat (.str b),g=>if a.length+b.length<=1000 then some (.dat (.str (a++b)),g) else none
 |a,b,g=>(Zr a g).bind λxs=>(Zr b g).bind λys=>if xs.length+ys.length<=1000 then some (.dat (.list (xs++ys)),g) else none
def opZ(c:Int->Int->Bool)(f:Int->Int->PyData):W->W->G->Option (W×G)
 |.dat (.int i),.dat (.int j),g=>if c i j=true then some (.dat (f i j),g) else none
 |_,_,_=>none
def ZAT:=opZ (λ_ j=>decide (0<j)) λi j=>.int (i % j)
def ZB2:=opZ (λ_ j=>decide (0<j) && decide (j<2 ^ 64)) λi j=>.int (i / j)
def ZDv(i j:Int):Bool:=(decide (-(2 ^ 64)<i) && decide (i<2 ^ 64)) || (decide (-(2 ^ 64)<j) && decide (j<2 ^ 64))
def mulA:W->Int->G->Option (W×G)
 |.dat (.int i),j,g=>if ZDv i j=true then some (.dat (.int (i*j)),g) else none
 |.dat (.tuple xs),k,g=>if ((decide (2<=k) && decide (k<=20)) && (!xs.isEmpty && decide (xs.length<=20)))=true then some (.dat (.tuple (List.replicate k.toNat xs).flatten),g) else none
 |a,k,g=>(Zr a g).bind λxs=>if k<=1000/\-1000<=k/\xs.length<=1000 then some (.dat (.list (List.replicate k.toNat xs).flatten),g) else none
def ZA0(a b:W)(g:G):Option (W×G):=(ZAy b).bind λk=>mulA a k g
section
variable{X:Cx}
theorem oAdd:OpR X (binaryOp .Add) (rOp X.K ZO):=by
 intro pins s σ H x y v u Q I rx ry h;obtain⟨ρ,a,b,g,z,g',hR,ra,rb,e,q⟩:=h;have lists:((Zr a g).bind λxs=>(Zr b g).bind λys=>if xs.length+ys.length<=1000 then some (W.dat (.list (xs++ys)),g) else none)=some (z,g')->wpAny (model X.prog X.w) X.A (binaryOp .Add v u) (EP X pins σ Q) X.xe s:=λe=>by
  obtain⟨xs,e1,e⟩:=bnd e;obtain⟨ys,e2,e⟩:=bnd e;obtain⟨l,vs,rfl,h1,t1⟩:=Zi hR ra e1;obtain⟨l',us,rfl,h2,t2⟩:=Zi hR rb e2
  split at e
  ·rename_i hz
   cases e;exact ZIU pins s σ H _ _ v u Q I rx ry ⟨l,l',vs,us,rfl,rfl,h1,h2,by rw[t1.length,t2.length];exact le_of_lt (Zt hz),λp hp=>q.new hR (t1.append t2) hp⟩
  ·cases e
 cases ra with
 |ref h=>exact lists e
 |inp h=>exact lists e
 |ty=>cases e
 |tup _ _=>cases e
 |dat ra =>
  cases ra with
  |int i =>
   cases rb with
   |dat rb =>
    cases rb with
    |int j=>cases e;exact ZIV pins s σ H _ _ v u Q I rx ry ⟨i,j,rfl,rfl,q.at hR (.dat (.int _))⟩
    |_=>cases e
   |_=>cases e
  |str i =>
   cases rb with
   |dat rb =>
    cases rb with
    |str j =>
     change (if i.length+j.length<=1000 then some (W.dat (.str (i++j)),g) else none)=some (z,g') at e
     split at e
     ·rename_i hz
      cases e;exact ZDh pins s σ H _ _ v u Q I rx ry ⟨i,j,rfl,rfl,le_of_lt (Zt hz),q.at hR (.dat (.str _))⟩
     ·cases e
    |_=>cases e
   |_=>cases e
  |@tup a1 xs ds f1 t1 =>
   cases rb with
   |dat rb =>
    cases rb with
    |@tup a2 ys es f2 t2 =>
     change (if ds.length+es.length<=1000 then some (W.dat (.tuple (ds++es)),g) else none)=some (z,g') at e
     split at e
     ·rename_i hz
      cases e;have hz':xs.length+ys.length<=sizeLine:=by rw[t1.length,t2.length];exact le_of_lt (Zt hz)
      cases rx;cases ry;obtain⟨its,r1,p1,_⟩:=I.tuple f1.sq;obtain⟨its2,r2,p2,_⟩:=I.tuple f2.sq;refine HT.cat_tupA p1 p2 (λz=>⟨.ref a2,H,I,rfl,q.at hR (.dat ?_)⟩) (λ_ z=>⟨.ref a1,H,I,rfl,q.at hR (.dat ?_)⟩) (λ_ z=>?_) (by rw[←r1.length,←r2.length];exact hz')
      ·have:=r1.nil_iff.mp z
       subst this
       cases t1;exact .tup f2 t2
      ·have:=r2.nil_iff.mp z
       subst this
       cases t2;rw[append_nil];exact .tup f1 t1
      ·exact⟨.ref s.heap.objs.size,_,I.laid (t':=s.toks) (o:=.tup (xs++ys)) (λb ob q=>get?_push_of_some _ q) (le_refl _) ⟨by rw[length_append];exact hz',_,r1.append r2,IsTup.new _ _⟩,rfl,q.newT hR (t1.append t2) (I.hok.fresh (le_refl _))⟩
     ·cases e
    |_=>cases e
   |_=>cases e
  |lst h n t=>exact lists e
  |_=>cases e
theorem oI{op:Operator}{C:Int->Int->Prop}{c:Int->Int->Bool}{f:Int->Int->Int}(h:OpR X (binaryOp op) (rI C λi j=>.int (f i j)))(hc:∀i j,c i j=true->C i j):OpR X (binaryOp op) (rOp X.K (opZ c λi j=>.int (f i j))):=by
 intro pins s σ H x y v u Q I rx ry hh;obtain⟨ρ,a,b,g,z,g',hR,ra,rb,e,q⟩:=hh;cases ra with
 |dat ra =>
  cases ra with
  |int i =>
   cases rb with
   |dat rb =>
    cases rb with
    |int j =>
     change (if c i j=true then some (W.dat (.int (f i j)),g) else none)=some (z,g') at e
     split at e
     ·rename_i hz
      cases e;exact h pins s σ H _ _ v u Q I rx ry ⟨i,j,rfl,rfl,hc i j hz,q.at hR (.dat (.int _))⟩
     ·cases e
    |_=>cases e
   |_=>cases e
  |_=>cases e
 |_=>cases e
theorem oMod:OpR X (binaryOp .Mod) (rOp X.K ZAT):=oI ZJF λi j h=>of_decide_eq_true h
theorem oFdiv:OpR X (binaryOp .FloorDiv) (rOp X.K ZB2):=oI ZFU λi j h=>by
 rw[Bool.and_eq_true] at h;exact⟨of_decide_eq_true h.1,of_decide_eq_true h.2⟩
theorem ZGn{i j:Int}(h:ZDv i j=true):ZHX i j:=by
 unfold ZDv at h;rw[Bool.or_eq_true,Bool.and_eq_true,Bool.and_eq_true] at h;rcases h with h|h
 ·exact .inl ⟨of_decide_eq_true h.1,of_decide_eq_true h.2⟩
 ·exact .inr ⟨of_decide_eq_true h.1,of_decide_eq_true h.2⟩
theorem ZEM:OpR X (binaryOp .Mult) (λx y H Q=>∃(a:Addr) (k:Int) (xs:List V),x=.ref a/\y=.int k/\SqT X.K H a xs/\(2<=k/\k<=20)/\(xs≠[]/\xs.length<=20)/\∀p,H p=none->Q (.ref p) (upd H p (.tup (List.replicate k.toNat xs).flatten))):=by
 intro pins s σ H x y v u Q I rx ry h;obtain⟨a,k,xs,rfl,rfl,ha,⟨k2,k20⟩,⟨hne,h20⟩,q⟩:=h;cases rx;obtain⟨t,rfl⟩:=ry;obtain⟨its,r,p1,_⟩:=I.tuple ha;obtain⟨⟨cls,dd,data,sl⟩,ho,hc,n,hd⟩:=id p1;simp only at hc hd;subst hc hd;have hlen:its.length=xs.length:=r.length.symm;have hine:its.toArray.isEmpty=false:=by
  cases its with
  |nil=>exact absurd (r.nil_iff.mp rfl) hne
  |cons _ _=>rfl
 have hmul:(List.replicate k.toNat xs).flatten.length<=400:=by
  rw[ZEH];exact le_trans (Nat.mul_le_mul (show k.toNat<=20 by omega) h20) (by decide)
 have hnew:List.foldl (λx1 x2=>x1++x2) #[] (List.replicate k.toNat its.toArray)=(List.replicate k.toNat its).flatten.toArray:=by
  have:=ZBQ its k.toNat [];rw[nil_append] at this
  exact this
 have hmI:(its.toArray.size:Int)*k<=400:=by
  rw[size_toArray,hlen];have:(xs.length:Int)*k<=20*20:=Int.mul_le_mul (by omega) k20 (by omega) (by decide);omega
 refine wpAny_binaryOp_repeat_ref (T:="tuple") (U:="int") (by decide) ⟨_,ho,rfl⟩ (λs'=>typeIs_int s' k t) HT.noFill_tuple_mul F.fills_int_mul F.slot_int_rmul HT.repeat_tuple F.slot_int_index.lookup
  (call_meets F.slot_int_rmul (typeIs_int s k t) F.entry_int_rmul (F.args_int_rmul_2 _ _) (HT.rmul_tup k t a its.toArray n dd sl)
   ⟨ho,rfl,⟨_,ho,rfl⟩,call_meets F.slot_tuple_mul ⟨_,ho,rfl⟩ F.entry_tuple_mul (F.args_tuple_mul_2 _ _) (HT.tuple_mulW a its.toArray n dd sl k t ?_ ?_ ?_ ?_ ?_ ?_) ⟨ho,?_⟩⟩)
 ·simp;omega
 ·rw[hine];simp;omega
 ·rw[hine];simp;omega
 ·omega
 ·unfold Builtin.Tuple.tupleTooMany
  have:(400:Int)<=(sizeLine:Int):=by decide
  rw[decide_eq_true_iff];omega
 ·rw[hnew,size_toArray,←(r.rep k.toNat).length]
  exact le_trans hmul (by decide)
 rw[hnew];exact⟨.ref s.heap.objs.size,_,I.laid (t':=s.toks) (o:=.tup (List.replicate k.toNat xs).flatten) (λb ob q=>get?_push_of_some _ q) (le_refl _) ⟨le_trans hmul (by decide),_,r.rep k.toNat,IsTup.new _ _⟩,rfl,q _ (I.hok.fresh (le_refl _))⟩
theorem oMul:OpR X (binaryOp .Mult) (rOp X.K ZA0):=by
 intro pins s σ H x y v u Q I rx ry h;obtain⟨ρ,a,b,g,z,g',hR,ra,rb,e,q⟩:=h;have lists:∀{k:Int},y=.int k->((Zr a g).bind λxs=>if k<=1000/\-1000<=k/\xs.length<=1000 then some (W.dat (.list (List.replicate k.toNat xs).flatten),g) else none)=some (z,g')->wpAny (model X.prog X.w) X.A (binaryOp .Mult v u) (EP X pins σ Q) X.xe s:=λ{k} hy e=>by
  obtain⟨xs,e1,e⟩:=bnd e;obtain⟨l,vs,rfl,h1,t1⟩:=Zi hR ra e1
  split at e
  ·rename_i hz
   obtain⟨z1,z2,z3⟩:=hz;cases e;refine ZI6 pins s σ H _ _ v u Q I rx ry ⟨l,k,vs,rfl,hy,h1,by omega,by omega,?_,λp hp=>q.new hR (t1.rep _) hp⟩;rw[t1.length];exact le_trans (Nat.mul_le_mul z3 (show k.toNat<=1000 by omega)) (by decide)
  ·cases e
 obtain⟨j,e0,e⟩:=bnd e;have:=ZAS rb e0;subst this
 cases ra with
 |dat ra =>
  cases ra with
  |int i =>
   change (if ZDv i j=true then some (W.dat (.int (i*j)),g) else none)=some (z,g') at e
   split at e
   ·rename_i hz
    cases e;exact ZIx pins s σ H _ _ v u Q I rx ry ⟨i,j,rfl,rfl,ZGn hz,q.at hR (.dat (.int _))⟩
   ·cases e
  |@tup a1 xs ds f1 t1 =>
   change (if ((decide (2<=j) && decide (j<=20)) && (!ds.isEmpty && decide (ds.length<=20)))=true then some (W.dat (.tuple (List.replicate j.toNat ds).flatten),g) else none)=some (z,g') at e
   split at e
   ·rename_i hz
    cases e;simp only[Bool.and_eq_true,decide_eq_true_eq,Bool.not_eq_true'] at hz;obtain⟨⟨z1,z2⟩,z3,z4⟩:=hz;refine ZEM pins s σ H _ _ v u Q I rx ry ⟨a1,j,xs,rfl,rfl,f1.sq,⟨z1,z2⟩,⟨λz=>?_,by rw[t1.length];exact z4⟩,λp hp=>q.newT hR (t1.rep _) hp⟩;subst z;cases t1;cases z3
   ·cases e
  |_=>exact lists rfl e
 |_=>exact lists rfl e
end
def ok0(d:PyData):Bool:=d.canLay0 && decide (d.depth<=40)
def ZDO:W->G->Option PyData
 |.dat d,_=>some d
 |.ref n,g=>(lk g n).map .list
 |_,_=>none
def ZJL(a b:W)(g:G):Option (W×G):=(ZDO a g).bind λx=>(ZDO b g).bind λy=>if (ok0 x && ok0 y)=true then some (.dat (.bool (x.eqv y)),g) else none
def ZJ6(a b:W)(g:G):Option (W×G):=(ZDO a g).bind λx=>(ZDO b g).bind λy=>if (ok0 x && ok0 y)=true then some (.dat (.bool !x.eqv y),g) else none
def ZJy:W->G->Option (List PyData)
 |.dat (.tuple ys),_=>some ys
 |b,g=>Zr b g
section
variable{X:Cx}
theorem ZAF{pins:List (Addr×Obj)}{σ : St}{ρ : Rh}{H:Hp}{s:Shared}{g:G}{v:V}{w:W}{d:PyData}{u:Value}(I:Inv X pins σ H s)(hR:HR X.K ρ H g)(r:Rel X.K ρ H v w)(e:ZDO w g=some d)(c:d.canLay0=true)(ru:ZW v u):∃as,Reads s.heap u d as:=by
 cases r with
 |ty=>cases e
 |tup _ _=>cases e
 |inp _=>cases e
 |dat r=>cases e;exact r.reads I c ru
 |ref h =>
  obtain⟨ds,e1,rfl⟩:=mp e;obtain⟨a,vs,h1,h2,h3⟩:=hR.at_ _ _ (ZDB e1);rw[h] at h1;cases h1;cases ru;obtain⟨_,its,n,rv,e⟩:=I.hok _ _ h2;obtain⟨as,ra⟩:=h3.reads I (by rw[PyData.canLay0] at c;exact c) rv;exact⟨_,.list e rfl rfl (by simpa using ra)⟩
theorem oEq(hu:X.A.units+64<cLine):OpR X (compareOp .Eq) (rOp X.K ZJL):=by
 intro pins s σ H x y v u Q I rx ry h;obtain⟨ρ,a,b,g,z,g',hR,ra,rb,e,q⟩:=h;obtain⟨d1,e1,e⟩:=bnd e;obtain⟨d2,e2,e⟩:=bnd e
 split at e
 ·rename_i hz
  cases e;unfold ok0 at hz;simp only[Bool.and_eq_true,decide_eq_true_eq] at hz;obtain⟨as,r1⟩:=ZAF I hR ra e1 hz.1.1 rx;obtain⟨bs,r2⟩:=ZAF I hR rb e2 hz.2.1 ry;exact PySem.SeqAt.compareEq_reads r1 r2 hz.1.1 hz.2.1 (by have:=hz.1.2;omega) ⟨.bl _,H,I,rfl,q.at hR (.dat (.bl _))⟩
 ·cases e
theorem oNe(hu:X.A.units+64<cLine):OpR X (compareOp .NotEq) (rOp X.K ZJ6):=by
 intro pins s σ H x y v u Q I rx ry h;obtain⟨ρ,a,b,g,z,g',hR,ra,rb,e,q⟩:=h;obtain⟨d1,e1,e⟩:=bnd e;obtain⟨d2,e2,e⟩:=bnd e
 split at e
 ·rename_i hz
  cases e;unfold ok0 at hz;simp only[Bool.and_eq_true,decide_eq_true_eq] at hz;obtain⟨as,r1⟩:=ZAF I hR ra e1 hz.1.1 rx;obtain⟨bs,r2⟩:=ZAF I hR rb e2 hz.2.1 ry;exact PySem.SeqAt.compareNe_reads r1 r2 hz.1.1 hz.2.1 (by have:=hz.1.2;omega) ⟨.bl _,H,I,rfl,q.at hR (.dat (.bl _))⟩
 ·cases e
end
def ZCw:List PyData->Option (List Int)
 |[]=>some []
 |.int i::r=>(ZCw r).map λns=>i::ns
 |_::_=>none
theorem ZBu{K:PySem.W.Frag}{ρ : Rh}{H:Hp}{ds:List PyData}:∀{vs:List V} {ns:List Int},RelDL K ρ H vs ds->ZCw ds=some ns->vs=ns.map V.int:=by
 induction ds with
 |nil=>intro vs ns t e;cases t;cases e;rfl
 |cons d r ih =>
  intro vs ns t e;cases t with
  |cons h t =>
   cases h with
   |int i =>
    obtain⟨ms,e1,rfl⟩:=mp e;rw[ih t e1];rfl
   |_=>cases e
def ZCo(ci:Int->Int->Option Bool)(ct:List Int->List Int->Option Bool)(cs:Str->Str->Option Bool):W->W->G->Option (W×G)
 |.dat (.int i),.dat (.int j),g=>(ci i j).map λb=>(.dat (.bool b),g)
 |.dat (.tuple xs),.dat (.tuple ys),g=>(ZCw xs).bind λns=>(ZCw ys).bind λms=>(ct ns ms).map λb=>(.dat (.bool b),g)
 |.dat (.str a),.dat (.str b),g=>(cs a b).map λb=>(.dat (.bool b),g)
 |_,_,_=>none
def ZJO:=ZCo (λi j=>some (decide (i<j))) (λns ms=>some (HT.lexLt ns ms)) λa b=>some (decide (a.cps.toList<b.cps.toList))
def ZGm:=ZCo (λi j=>some (decide (j<i))) (λns ms=>some (HT.lexGt ns ms)) λ_ _=>none
def ZJ8:=ZCo (λi j=>some (decide (j<=i))) (λns ms=>some (HT.lexGe ns ms)) λ_ _=>none
def ZE5:=ZCo (λi j=>some (decide (i<=j))) (λ_ _=>none) λ_ _=>none
section
variable{X:Cx}
theorem ZHM{op:CmpOp}{ci:Int->Int->Option Bool}{ct:List Int->List Int->Option Bool}{cs:Str->Str->Option Bool}
  (h1:OpR X (compareOp op) (λx y H Q=>∃i j k,x=.int i/\y=.int j/\ci i j=some k/\Q (.bl k) H))
  (h2:OpR X (compareOp op) (λx y H Q=>∃a b ns ms k,x=.ref a/\y=.ref b/\SqT X.K H a (ns.map V.int)/\SqT X.K H b (ms.map V.int)/\ct ns ms=some k/\Q (.bl k) H))
  (h3:OpR X (compareOp op) (λx y H Q=>∃a b k,x=.str a/\y=.str b/\cs a b=some k/\Q (.bl k) H)):OpR X (compareOp op) (rOp X.K (ZCo ci ct cs)):=by
 intro pins s σ H x y v u Q I rx ry h;obtain⟨ρ,a,b,g,z,g',hR,ra,rb,e,q⟩:=h;unfold ZCo at e
 split at e
 ·obtain⟨k,e3,e⟩:=mp e
  cases e;cases ra with
  |dat ra=>cases ra with
   |int i=>cases rb with
    |dat rb=>cases rb with
     |int j=>exact h1 pins s σ H _ _ v u Q I rx ry ⟨_,_,k,rfl,rfl,e3,q.at hR (.dat (.bl _))⟩
 ·obtain⟨ns,e1,e⟩:=bnd e
  obtain⟨ms,e2,e⟩:=bnd e;obtain⟨k,e3,e⟩:=mp e;cases e;cases ra with
  |dat ra=>cases ra with
   |tup f1 t1=>cases rb with
    |dat rb=>cases rb with
     |tup f2 t2 =>
      have i1:=ZBu t1 e1;have i2:=ZBu t2 e2;subst i1 i2;exact h2 pins s σ H _ _ v u Q I rx ry ⟨_,_,ns,ms,k,rfl,rfl,f1.sq,f2.sq,e3,q.at hR (.dat (.bl _))⟩
 ·obtain⟨k,e3,e⟩:=mp e
  cases e;cases ra with
  |dat ra=>cases ra with
   |str i=>cases rb with
    |dat rb=>cases rb with
     |str j=>exact h3 pins s σ H _ _ v u Q I rx ry ⟨_,_,k,rfl,rfl,e3,q.at hR (.dat (.bl _))⟩
 ·cases e
theorem oLt(hu:X.A.units+64<cLine):OpR X (compareOp .Lt) (rOp X.K ZJO):=ZHM (op_lt.imp λ_ _ _ _ ⟨i,j,k,h1,h2,h5,q⟩=>⟨i,j,h1,h2,by cases h5;exact q⟩) ((ZJv (by omega)).imp λ_ _ _ _ ⟨a,b,ns,ms,k,h1,h2,h3,h4,h5,q⟩=>⟨a,b,ns,ms,h1,h2,h3,h4,by cases h5;exact q⟩) (ZEc.imp λ_ _ _ _ ⟨a,b,k,h1,h2,h5,q⟩=>⟨a,b,h1,h2,by cases h5;exact q⟩)
theorem oGt(hu:X.A.units+64<cLine):OpR X (compareOp .Gt) (rOp X.K ZGm):=ZHM (op_gt.imp λ_ _ _ _ ⟨i,j,k,h1,h2,h5,q⟩=>⟨i,j,h1,h2,by cases h5;exact q⟩) ((ZI9 (by omega)).imp λ_ _ _ _ ⟨a,b,ns,ms,k,h1,h2,h3,h4,h5,q⟩=>⟨a,b,ns,ms,h1,h2,h3,h4,by cases h5;exact q⟩) λpins s σ H x y v u Q I rx ry ⟨_,_,_,_,_,h,_⟩=>nomatch h
theorem oGe(hu:X.A.units+64<cLine):OpR X (compareOp .GtE) (rOp X.K ZJ8):=ZHM (op_ge.imp λ_ _ _ _ ⟨i,j,k,h1,h2,h5,q⟩=>⟨i,j,h1,h2,by cases h5;exact q⟩) ((ZJj (by omega)).imp λ_ _ _ _ ⟨a,b,ns,ms,k,h1,h2,h3,h4,h5,q⟩=>⟨a,b,ns,ms,h1,h2,h3,h4,by cases h5;exact q⟩) λpins s σ H x y v u Q I rx ry ⟨_,_,_,_,_,h,_⟩=>nomatch h
theorem oLe:OpR X (compareOp .LtE) (rOp X.K ZE5):=ZHM (op_le.imp λ_ _ _ _ ⟨i,j,k,h1,h2,h5,q⟩=>⟨i,j,h1,h2,by cases h5;exact q⟩) (λpins s σ H x y v u Q I rx ry ⟨_,_,_,_,_,_,_,_,_,h,_⟩=>nomatch h) λpins s σ H x y v u Q I rx ry ⟨_,_,_,_,_,h,_⟩=>nomatch h
def ixA:W->Int->G->Option (W×G)
 |.dat (.tuple ds),i,g=>(atI ds i).map λd=>(.dat d,g)
 |.inp ns,i,g=>(atI ns i).map λd=>(.dat (.int d),g)
 |.tup ws,i,g=>(atI ws i).map λw=>(w,g)
 |.ref n,i,g=>match g[n]? with
  |some (.pl ds)=>(atI ds i).map λd=>(.dat d,g)
  |some (.rl ws)=>(atI ws i).map λw=>(w,g)
  |_=>none
 |a,i,g=>(Zr a g).bind λds=>(atI ds i).map λd=>(.dat d,g)
def Z4(a b:W)(g:G):Option (W×G):=(ZAy b).bind λi=>ixA a i g
theorem ZCx{K:PySem.W.Frag}{ρ : Rh}{H:Hp}{vs:List V}{ds:List PyData}{i:Int}{d:PyData}(t:RelDL K ρ H vs ds)(e:atI ds i=some d):∃v,atI vs i=some v/\RelD K ρ H v d:=by
 unfold atI at *;rw[t.length];obtain⟨j,e1,e2⟩:=bnd e;rw[e1];exact t.getD e2
theorem ZDa{K:PySem.W.Frag}{ρ : Rh}{H:Hp}{vs:List V}{ds:List W}{i:Int}{d:W}(t:RelL K ρ H vs ds)(e:atI ds i=some d):∃v,atI vs i=some v/\Rel K ρ H v d:=by
 unfold atI at *;rw[t.length];obtain⟨j,e1,e2⟩:=bnd e;rw[e1];exact t.getD e2
theorem oIx:IxR X (rOp X.K Z4):=by
 intro value slice pins s σ H x y v u Q I rx ry h hs;obtain⟨ρ,a,b,g,z,g',hR,ra,rb,e,q⟩:=h;obtain⟨i,e0,e⟩:=bnd e;have:=ZAS rb e0;subst this
 have lists:((Zr a g).bind λds=>(atI ds i).map λd=>(W.dat d,g))=some (z,g')->wpAny (model X.prog X.w) X.A (subscriptTail value slice v u) (EP X pins σ Q) X.xe s:=λe=>by
  obtain⟨xs,e1,e⟩:=bnd e;obtain⟨d,e2,e⟩:=mp e;cases e;obtain⟨l,vs,rfl,h1,t1⟩:=Zi hR ra e1;obtain⟨w,e3,r3⟩:=ZCx t1 e2;exact ZBg value slice pins s σ H _ _ v u Q I rx ry ⟨l,vs,i,w,rfl,rfl,SqL.of h1,e3,q.at hR (.dat r3)⟩ hs
 cases ra with
 |@ref a n h =>
  change (match g[n]? with|some (.pl ds)=>(atI ds i).map λd=>(W.dat d,g)|some (.rl ws)=>(atI ws i).map λw=>(w,g)|_=>none)=some (z,g') at e
  split at e
  ·rename_i ds e1
   obtain⟨d,e2,e⟩:=mp e;cases e;obtain⟨a',vs,k1,k2,k3⟩:=hR.at_ _ _ e1;rw[h] at k1;cases k1;obtain⟨w,e3,r3⟩:=ZCx k3 e2;exact ZBg value slice pins s σ H _ _ v u Q I rx ry ⟨a,vs,i,w,rfl,rfl,SqL.of k2,e3,q.at hR (.dat r3)⟩ hs
  ·rename_i ws e1
   obtain⟨d,e2,e⟩:=mp e;cases e;obtain⟨a',k1,vs,k2,k3⟩:=hR.ce _ _ e1;rw[h] at k1;cases k1;obtain⟨w,e3,r3⟩:=ZDa k3 e2;exact ZBg value slice pins s σ H _ _ v u Q I rx ry ⟨a,vs,i,w,rfl,rfl,SqL.of k2,e3,q.at hR r3⟩ hs
  ·cases e
 |ty=>exact lists e
 |tup f t =>
  obtain⟨d,e2,e⟩:=mp e;cases e;obtain⟨w,e3,r3⟩:=ZDa t e2;exact ZFP value slice pins s σ H _ _ v u Q I rx ry ⟨_,_,i,w,rfl,rfl,f.sq,e3,q.at hR r3⟩ hs
 |@inp a ns h =>
  obtain⟨d,e2,e⟩:=mp e;cases e;refine ZBg value slice pins s σ H _ _ v u Q I rx ry ⟨a,_,i,.int d,rfl,rfl,h.sq,?_,q.at hR (.dat (.int _))⟩ hs;unfold atI at *;rw[length_map];obtain⟨j,e1,e2⟩:=bnd e2;rw[e1];show(ns.map V.int)[j]? = _;rw[getElem?_map,e2];rfl
 |dat ra =>
  cases ra with
  |tup f t =>
   obtain⟨d,e2,e⟩:=mp e;cases e;obtain⟨w,e3,r3⟩:=ZCx t e2;exact ZFP value slice pins s σ H _ _ v u Q I rx ry ⟨_,_,i,w,rfl,rfl,f.sq,e3,q.at hR (.dat r3)⟩ hs
  |lst h n t=>exact lists e
  |_=>exact lists e
abbrev DO:=Sd->G->Option (Option Int×G)
def tO(K:PySem.W.Frag)(d:DO):TO:=λσ H Q=>∃ρ sd g i g',Rst K ρ H σ sd g/\d sd g=some (i,g')/\∀H' ρ',Stp ρ H ρ' H'->HR K ρ' H' g'->Q i H'
theorem PO.imp{e:Option Expr}{t u:TO}(h:PO X e t)(k:∀σ H Q,u σ H Q->t σ H Q):PO X e u:=λpins s σ H Q I q=>h pins s σ H Q I (k σ H Q q)
def ZY:DO:=λ_ g=>some (none,g)
def Z3(d:DE):DO:=λsd g=>(d sd g).bind λp=>match p.1 with|.dat (.int i)=>some (some i,p.2)|_=>none
theorem ZGi:PO X none (tO X.K ZY):=ZGa.imp λσ H Q ⟨ρ,sd,g,i,g',r,e,q⟩=>by
 cases e;exact q H ρ .refl r.hr
theorem ZGs{e:Expr}{d:DE}(h:PE X e (tE X.K d)):PO X (some e) (tO X.K (Z3 d)):=(ZG3 h).imp λσ H Q ⟨ρ,sd,g,i,g',r,e,q⟩=>by
 obtain⟨⟨x,g1⟩,e1,e⟩:=bnd e;refine⟨ρ,sd,g,x,g1,r,e1,λv H1 ρ1 s1 h1 r1=>?_⟩;cases r1 with
 |dat r1 =>
  cases r1 with
  |int j=>cases e;exact⟨j,rfl,q H1 ρ1 s1 h1⟩
  |_=>cases e
 |_=>cases e
def ZAr{α : Type}(xs:List α)(lo hi:Option Int):List α:=(xs.drop (HT.sIx xs.length 0 lo)).take (HT.sIx xs.length xs.length hi-HT.sIx xs.length 0 lo)
def slO(w:W)(lo hi:Option Int)(g:G):Option (W×G):=match w with
 |.dat (.tuple ds)=>some (.dat (.tuple (ZAr ds lo hi)),g)
 |.inp ns=>some (.dat (.list (ZAr (ns.map .int) lo hi)),g)
 |w=>(Zr w g).map λds=>(.dat (.list (ZAr ds lo hi)),g)
def dSl(d:DE)(l h:DO):DE:=λsd g=>(d sd g).bind λp=>(l sd p.2).bind λa=>(h sd a.2).bind λb=>slO p.1 a.1 b.1 b.2
theorem ZDF{K:PySem.W.Frag}{ρ : Rh}{H:Hp}{vs:List V}{ds:List PyData}(t:RelDL K ρ H vs ds)(lo hi:Option Int):RelDL K ρ H (ZC0 vs lo hi) (ZAr ds lo hi):=by
 unfold ZC0 ZAr;rw[t.length];exact(t.drop _).take _
theorem ZJB:SlR X (λx lo hi H Q=>∃ρ w g z g',HR X.K ρ H g/\Rel X.K ρ H x w/\slO w lo hi g=some (z,g')/\Pv X.K ρ H z g' Q):=by
 intro pins s σ H x v vl vu lo hi sl Q I rx hs pl pu h;obtain⟨ρ,w,g,z,g',hR,rw_,e,q⟩:=h;have lists:((Zr w g).map λds=>(W.dat (.list (ZAr ds lo hi)),g))=some (z,g')->∃T id,typeLookup (.type T) "__getitem__" = pure (some (.builtin id))/\s.TypeIs v T/\wpAny (model X.prog X.w) X.A (getItem v (.ref sl)) (EP X pins σ Q) X.xe s:=λe=>by
  obtain⟨ds,e1,e⟩:=mp e;cases e;obtain⟨l,vs,rfl,h1,t1⟩:=Zi hR rw_ e1;exact ZEN pins s σ H _ v vl vu lo hi sl Q I rx hs pl pu ⟨l,vs,rfl,SqL.of h1,λp hp=>q.new hR (ZDF t1 lo hi) hp⟩
 cases rw_ with
 |ref h=>exact lists e
 |ty=>exact lists e
 |tup _ _=>exact lists e
 |inp h =>
  cases e;exact ZEN pins s σ H _ v vl vu lo hi sl Q I rx hs pl pu ⟨_,_,rfl,h.sq,λp hp=>q.new hR (ZDF RelDL.ofInts lo hi) hp⟩
 |dat r =>
  cases r with
  |@tup a xs ds f t =>
   cases e;refine ZHj pins s σ H _ v vl vu lo hi sl Q I rx hs pl pu ⟨_,_,rfl,f.sq,λhw=>?_,λ_ p hp=>q.newT hR (ZDF t lo hi) hp⟩;refine q.at hR (.dat ?_);have e:ZAr ds lo hi=ds:=by
    unfold ZAr;rw[←t.length,hw.1,hw.2,t.length];simp
   rw[e];exact .tup f t
  |lst h n t=>exact lists e
  |_=>exact lists e
theorem de_sl{e:Expr}{lo hi:Option Expr}{d:DE}{l h:DO}{pos p2:Pos}(he:PE X e (tE X.K d))(hl:PO X lo (tO X.K l))(hh:PO X hi (tO X.K h)):PE X (.Subscript e (.Slice lo hi none p2) pos) (tE X.K (dSl d l h)):=(ZE9 ZJB he hl hh).imp λσ H Q ⟨ρ,sd,g,x,g',r,e,q⟩=>by
 obtain⟨⟨y,g1⟩,e1,e⟩:=bnd e;obtain⟨⟨i,g2⟩,e2,e⟩:=bnd e;obtain⟨⟨j,g3⟩,e3,e⟩:=bnd e;refine⟨ρ,sd,g,y,g1,r,e1,λv H1 ρ1 s1 h1 r1=>⟨ρ1,sd,g1,i,g2,r.step s1 h1,e2,λH2 ρ2 s2 h2=>⟨ρ2,sd,g2,j,g3,r.step (s1.trans s2) h2,e3,λH3 ρ3 s3 h3=>?_⟩⟩⟩;exact⟨ρ3,y,g3,x,g',h3,r1.mono (s2.trans s3),e,q.step (s1.trans (s2.trans s3))⟩
end
def f1(f:W->G->Option (W×G)):List W->G->Option (W×G)
 |[w],g=>f w g
 |_,_=>none
def ZGS:W->G->Option (W×G)
 |.dat (.tuple ds),g=>some (.dat (.int (ds.length:Int)),g)
 |.inp ns,g=>some (.dat (.int (ns.length:Int)),g)
 |.ref n,g=>match g[n]? with
  |some (.pl ds)=>some (.dat (.int (ds.length:Int)),g)
  |some (.rl ws)=>some (.dat (.int (ws.length:Int)),g)
  |_=>none
 |w,g=>(Zr w g).map λds=>(.dat (.int (ds.length:Int)),g)
def ZJx:W->G->Option (W×G)
 |.dat (.int i),g=>some (.dat (.int i),g)
 |.dat (.bool b),g=>some (.dat (.int (if b=true then 1 else 0)),g)
 |_,_=>none
def ZJu:W->G->Option (W×G)
 |.dat (.int i),g=>some (.dat (.int (if i<0 then -i else i)),g)
 |_,_=>none
def ZIt:W->G->Option (W×G)
 |.dat (.tuple ds),g=>some (.dat (.tuple ds),g)
 |w,g=>(Zr w g).map λds=>(.dat (.tuple ds),g)
def ZHo:W->G->Option (W×G)
 |w,g=>(ZJy w g).map λds=>(.dat (.list ds),g)
def ZAu:List PyData->Option (List Bool)
 |[]=>some []
 |.bool i::r=>(ZAu r).map λns=>i::ns
 |_::_=>none
def ZDc(w:W)(g:G):Option (W×G):=(Zr w g).bind λds=>(ZAu ds).map λbs=>(.dat (.bool (bs.all id)),g)
def ZJd(f:Int->Int->Option Int):List W->G->Option (W×G)
 |[a,b],g=>(ZAy a).bind λi=>(ZAy b).bind λj=>(f i j).map λk=>(.dat (.int k),g)
 |_,_=>none
def ZJ4:=ZJd λi j=>some (if j<i then j else i)
def ZIe:PyData->String
 |.none=>"NoneType"
 |.bool _=>"bool"
 |.int _=>"int"
 |.str _=>"str"
 |.list _=>"list"
 |.tuple _=>"tuple"
 |.dict _=>"dict"
def ZBi:List W->G->Option (W×G)
 |[.dat d,.ty T],g=>if T = "int"∨T = "bool"∨T = "tuple"∨T = "str" then some (.dat (.bool (isi (ZIe d) T)),g) else none
 |_,_=>none
section
variable{X:Cx}
theorem c1{f:Value}{fn:W->G->Option (W×G)}{r:List V->Hp->VK->Prop}(h:ZQ X f r)(k:∀ρ H g x w z g' Q,HR X.K ρ H g->Rel X.K ρ H x w->fn w g=some (z,g')->Pv X.K ρ H z g' Q->r [x] H Q):ZQ X f (rF X.K (f1 fn)):=h.imp λxs H Q ⟨ρ,ws,g,z,g',hR,rl,e,q⟩=>by
 cases rl with
 |nil=>cases e
 |cons r1 t =>
  cases t with
  |nil=>exact k ρ H g _ _ z g' Q hR r1 e q
  |cons _ _=>cases e
theorem cLen:ZQ X (.builtin "len") (rF X.K (f1 ZGS)):=c1 ZC2 λρ H g x w z g' Q hR r e q=>by
 have lists:((Zr w g).map λds=>(W.dat (.int (ds.length:Int)),g))=some (z,g')->∃p ys,[x]=[V.ref p]/\(SqL X.K H p ys∨SqT X.K H p ys)/\Q (.int ys.length) H:=λe=>by
  obtain⟨ds,e1,e⟩:=mp e;cases e;obtain⟨l,vs,rfl,h1,t1⟩:=Zi hR r e1;exact⟨l,vs,rfl,.inl (SqL.of h1),q.at hR (by rw[t1.length];exact .dat (.int _))⟩
 cases r with
 |@ref a n h =>
  change (match g[n]? with|some (.pl ds)=>some (W.dat (.int (ds.length:Int)),g)|some (.rl ws)=>some (W.dat (.int (ws.length:Int)),g)|_=>none)=some (z,g') at e
  split at e
  ·rename_i ds e1
   cases e;obtain⟨a',vs,k1,k2,k3⟩:=hR.at_ _ _ e1;rw[h] at k1;cases k1;exact⟨a,vs,rfl,.inl (SqL.of k2),q.at hR (by rw[k3.length];exact .dat (.int _))⟩
  ·rename_i ds e1
   cases e;obtain⟨a',k1,vs,k2,k3⟩:=hR.ce _ _ e1;rw[h] at k1;cases k1;exact⟨a,vs,rfl,.inl (SqL.of k2),q.at hR (by rw[k3.length];exact .dat (.int _))⟩
  ·cases e
 |ty=>exact lists e
 |tup _ _=>exact lists e
 |inp h=>cases e;exact⟨_,_,rfl,.inl h.sq,q.at hR (by rw[length_map];exact .dat (.int _))⟩
 |dat r =>
  cases r with
  |tup f t=>cases e;exact⟨_,_,rfl,.inr f.sq,q.at hR (by rw[t.length];exact .dat (.int _))⟩
  |lst h n t=>exact lists e
  |_=>exact lists e
theorem cInt:ZQ X (.type "int") (rF X.K (f1 ZJx)):=c1 ZEz λρ H g x w z g' Q hR r e q=>by
 cases r with
 |dat r =>
  cases r with
  |int i=>cases e;exact .inl ⟨i,rfl,q.at hR (.dat (.int _))⟩
  |bl b=>cases e;exact .inr ⟨b,rfl,q.at hR (.dat (.int _))⟩
  |_=>cases e
 |_=>cases e
theorem cAbs:ZQ X (.builtin "abs") (rF X.K (f1 ZJu)):=c1 ZFm λρ H g x w z g' Q hR r e q=>by
 cases r with
 |dat r =>
  cases r with
  |int i=>cases e;exact⟨i,rfl,q.at hR (.dat (.int _))⟩
  |_=>cases e
 |_=>cases e
theorem cTup:ZQ X (.type "tuple") (rF X.K (f1 ZIt)):=c1 ZCU λρ H g x w z g' Q hR r e q=>by
 have lists:((Zr w g).map λds=>(W.dat (.tuple ds),g))=some (z,g')->∃p ys,[x]=[V.ref p]/\((SqL X.K H p ys/\∀l,H l=none->Q (.ref l) (upd H l (.tup ys)))∨(SqT X.K H p ys/\Q (.ref p) H)):=λe=>by
  obtain⟨ds,e1,e⟩:=mp e;cases e;obtain⟨l,vs,rfl,h1,t1⟩:=Zi hR r e1;exact⟨l,vs,rfl,.inl ⟨SqL.of h1,λp hp=>q.newT hR t1 hp⟩⟩
 cases r with
 |ref h=>exact lists e
 |ty=>exact lists e
 |tup _ _=>exact lists e
 |inp h=>exact lists e
 |dat r =>
  cases r with
  |tup f t=>cases e;exact⟨_,_,rfl,.inr ⟨f.sq,q.at hR (.dat (.tup f t))⟩⟩
  |lst h n t=>exact lists e
  |_=>exact lists e
theorem ZFQ{K:PySem.W.Frag}{ρ : Rh}{H:Hp}{g:G}{v:V}{w:W}{ds:List PyData}(hR:HR K ρ H g)(r:Rel K ρ H v w)(e:ZJy w g=some ds):∃a vs,v=.ref a/\(SqL K H a vs∨SqT K H a vs)/\RelDL K ρ H vs ds:=by
 have lists:Zr w g=some ds->∃a vs,v=.ref a/\(SqL K H a vs∨SqT K H a vs)/\RelDL K ρ H vs ds:=λe=>by
  obtain⟨l,vs,rfl,h1,t1⟩:=Zi hR r e;exact⟨l,vs,rfl,.inl (SqL.of h1),t1⟩
 cases r with
 |ref h=>exact lists e
 |ty=>exact lists e
 |tup _ _=>exact lists e
 |inp h=>exact lists e
 |dat r =>
  cases r with
  |tup f t=>cases e;exact⟨_,_,rfl,.inr f.sq,t⟩
  |lst h n t=>exact lists e
  |_=>exact lists e
theorem cLis:ZQ X (.type "list") (rF X.K (f1 ZHo)):=c1 ZCv λρ H g x w z g' Q hR r e q=>by
 obtain⟨ds,e1,e⟩:=mp e;cases e;obtain⟨l,vs,rfl,h1,t1⟩:=ZFQ hR r e1;exact⟨l,vs,rfl,h1,λp hp=>q.new hR t1 hp⟩
theorem ZDS{K:PySem.W.Frag}{ρ : Rh}{H:Hp}{ds:List PyData}:∀{vs:List V} {ns:List Bool},RelDL K ρ H vs ds->ZAu ds=some ns->vs=ns.map V.bl:=by
 induction ds with
 |nil=>intro vs ns t e;cases t;cases e;rfl
 |cons d r ih =>
  intro vs ns t e;cases t with
  |cons h t =>
   cases h with
   |bl i =>
    obtain⟨ms,e1,rfl⟩:=mp e;rw[ih t e1];rfl
   |_=>cases e
theorem cAll(hc:X.calm=true):ZQ X (.builtin "all") (rF X.K (f1 ZDc)):=c1 (ZFt hc) λρ H g x w z g' Q hR r e q=>by
 obtain⟨ds,e1,e⟩:=bnd e;obtain⟨bs,e2,e⟩:=mp e;cases e;obtain⟨l,vs,rfl,h1,t1⟩:=Zi hR r e1;have:=ZDS t1 e2;subst this
 exact⟨l,bs,rfl,SqL.of h1,q.at hR (.dat (.bl _))⟩
theorem cInt2{f:Int->Int->Option Int}{c:Value}(h:ZQ X c (λxs H Q=>∃i j k,xs=[.int i,.int j]/\f i j=some k/\Q (.int k) H)):ZQ X c (rF X.K (ZJd f)):=h.imp λxs H Q ⟨ρ,ws,g,z,g',hR,rl,e,q⟩=>by
 unfold ZJd at e
 split at e
 ·obtain⟨i,e1,e⟩:=bnd e
  obtain⟨j,e2,e⟩:=bnd e;obtain⟨k,e3,e⟩:=mp e;cases e;cases rl with
  |cons r1 t=>cases t with
   |cons r2 t=>cases t with
    |nil =>
     rw[ZAS r1 e1,ZAS r2 e2];exact⟨i,j,k,rfl,e3,q.at hR (.dat (.int _))⟩
 ·cases e
theorem cMin(hc:X.calm=true):ZQ X (.builtin "min") (rF X.K ZJ4):=cInt2 ((ZE6 hc).imp λ_ _ _ ⟨i,j,k,h1,h5,q⟩=>⟨i,j,h1,by cases h5;exact q⟩)
theorem kd_of{K:PySem.W.Frag}{ρ : Rh}{H:Hp}{v:V}{d:PyData}(r:RelD K ρ H v d):Kd K H v (ZIe d):=by
 cases r with
 |non=>exact .non
 |bl b=>exact .bl b
 |int i=>exact .int i
 |str x=>exact .str x
 |tup f t=>exact .tup f.sq
 |lst h n t=>exact .lst h
 |dct h n=>exact .dct h
theorem cIsi:ZQ X (.builtin "isinstance") (rF X.K ZBi):=ZEg.imp λxs H Q ⟨ρ,ws,g,z,g',hR,rl,e,q⟩=>by
 cases rl with
 |nil=>cases e
 |cons r1 t =>
  cases r1 with
  |dat r1 =>
   cases t with
   |nil=>cases e
   |cons r2 t =>
    cases r2 with
    |@ty T =>
     cases t with
     |nil =>
      change (if T = "int"∨T = "bool"∨T = "tuple"∨T = "str" then some (W.dat (.bool (isi (ZIe _) T)),g) else none)=some (z,g') at e
      split at e
      ·rename_i hz
       cases e;exact⟨_,T,_,rfl,kd_of r1,hz,q.at hR (.dat (.bl _))⟩
      ·cases e
     |cons _ _=>cases e
    |_=>cases e
  |_=>cases e
theorem de_ty{x:Str}{n:String}{pos:Pos}(hg:Gl X x)(hm:X.mg x=none)(hv:bootBuiltins x=some (.type n))(hn:x≠"__name__":=by decide)(hd:(x == ("__debug__" : Str))=false:=by decide):PE X (.Name x pos) (tE X.K λ_ g=>some (.ty n,g)):=(ZHP (v:=.ty n) hg hm hv rfl hn hd).imp λσ H Q ⟨ρ,sd,g,y,g',hr,e,q⟩=>by
 cases e;exact q _ H ρ .refl hr.hr .ty
theorem ZJW{a:Expr}{da:DE}{pos:Pos}(ha:PE X a (tE X.K da)):PE X (.UnaryOp .USub a pos) (tE X.K (dUn (λw g=>match w with|.dat (.int i)=>some (.dat (.int (-i)),g)|_=>none) da)):=(pe_un ZJp ha).imp λσ H Q ⟨ρ,sd,g,y,g',r,e,q⟩=>by
 obtain⟨⟨x,g1⟩,e1,e⟩:=bnd e;refine⟨ρ,sd,g,x,g1,r,e1,λv H1 ρ1 s1 h1 r1=>?_⟩;cases r1 with
 |dat r1 =>
  cases r1 with
  |int j=>cases e;exact⟨j,rfl,q _ H1 ρ1 s1 h1 (.dat (.int _))⟩
  |_=>cases e
 |_=>cases e
end
section
variable{X:Cx}
def ZDU(dl di d:DE):DS:=λsd g=>(d sd g).bind λv=>(dl sd v.2).bind λl=>(di sd l.2).bind λi=>match l.1,i.1,v.1 with
 |.ref n,.dat (.int k),.dat x=>match i.2[n]? with
  |some (.pl ds)=>(ixN ds.length k).map λj=>.nx sd (i.2.set n (.pl (ds.set j x)))
  |some (.rl ws)=>(ixN ws.length k).map λj=>.nx sd (i.2.set n (.rl (ws.set j (.dat x))))
  |_=>none
 |.ref n,.dat (.int k),x=>match i.2[n]? with
  |some (.rl ws)=>(ixN ws.length k).map λj=>.nx sd (i.2.set n (.rl (ws.set j x)))
  |_=>none
 |_,_,_=>none
theorem ZID{o i e:Expr}{dl di d:DE}{pos tpos:Pos}(he:PE X e (tE X.K d))(ho:PE X o (tE X.K dl))(hi:PE X i (tE X.K di))(ha:∀v,assign (.Subscript o i tpos) X.env v=(do
   let ov ←holding [v] (eval o X.env)
   let iv ←holding [v,ov] (eval i X.env)
   standAt tpos
   holding [v,ov,iv] (setItem ov iv v)
   release [v,ov,iv] []):=by intro _;rfl) (hs:swapsWithSole [.Subscript o i tpos] e pos.line X.env=pure false:=by rfl) (hw:swappedStores [.Subscript o i tpos] e X.env=pure none:=by rfl)
  (h1:(assignEach [.Subscript o i tpos] X.env).map (·.2)=[assign (.Subscript o i tpos) X.env]:=by rfl):PS X (.Assign [.Subscript o i tpos] e pos) (tS X.K (ZDU dl di d)):=(ZGW he (ZIO ho hi ZGQ ha) hs hw h1).imp λD σ H ⟨ρ,sd,g,oo,r,e,q⟩=>by
 obtain⟨⟨y,g1⟩,e1,e⟩:=bnd e;obtain⟨⟨l,g2⟩,e2,e⟩:=bnd e;obtain⟨⟨k,g3⟩,e3,e⟩:=bnd e;refine⟨ρ,sd,g,y,g1,r,e1,λv H1 ρ1 s1 h1 r1=>⟨ρ1,sd,g1,l,g2,r.step s1 h1,e2,λu H2 ρ2 s2 h2 r2=>⟨ρ2,sd,g2,k,g3,r.step (s1.trans s2) h2,e3,λt H3 ρ3 s3 h3 r3=>?_⟩⟩⟩;have r1':=(r1.mono s2).mono s3;have r2':=r2.mono s3;have sall:=s1.trans (s2.trans s3);cases r2' with
 |@ref la ln hn =>
  cases r3 with
  |dat r3 =>
   cases r3 with
   |int kk =>
    have rich:∀{ws:List W},g3[ln]? = some (.rl ws)->((ixN ws.length kk).map λj=>Out.nx sd (g3.set ln (.rl (ws.set j y))))=some oo->∃p xs k n,V.ref la=V.ref p/\V.int kk=V.int k/\H3 p=some (.lst xs)/\ixN xs.length k=some n/\D.nx σ (upd H3 p (.lst (xs.set n v))):=λ{ws} e4 e=>by
     obtain⟨j,e5,e⟩:=mp e;cases e;obtain⟨a',k1,us,k2,k3⟩:=h3.ce _ _ e4;rw[hn] at k1;cases k1;obtain⟨hw,sw⟩:=h3.writeC hn (o:=.lst (us.set j v)) (c:=.rl (ws.set j y)) (λu e=>by rw[k2] at e;cases e;rfl) (λs=>⟨_,ZJ,(k3.set r1' j).mono s⟩);exact⟨_,us,kk,j,rfl,rfl,k2,by rw[k3.length];exact e5,q σ _ ρ3 (sall.trans sw) (r.step (sall.trans sw) hw)⟩
    have rest:∀{w},y=w->(match g3[ln]? with|some (.rl ws)=>((ixN ws.length kk).map λj=>Out.nx sd (g3.set ln (.rl (ws.set j w))))|_=>none)=some oo->∃p xs k n,V.ref la=V.ref p/\V.int kk=V.int k/\H3 p=some (.lst xs)/\ixN xs.length k=some n/\D.nx σ (upd H3 p (.lst (xs.set n v))):=λ{w} ew e=>by
     split at e
     ·rename_i ws e4
      exact rich e4 (by rw[ew];exact e)
     ·cases e
    cases y with
    |dat d =>
     dsimp only at e
     split at e
     ·rename_i ds e4
      obtain⟨j,e5,e⟩:=mp e;cases e;obtain⟨a',us,k1,k2,k3⟩:=h3.at_ _ _ e4;rw[hn] at k1;cases k1;cases r1' with
      |dat r1' =>
       obtain⟨hw,sw⟩:=h3.write hn k2 (k3.set r1' j);exact⟨_,us,kk,j,rfl,rfl,k2,by rw[k3.length];exact e5,q σ _ ρ3 (sall.trans sw) (r.step (sall.trans sw) hw)⟩
     ·rename_i ws e4
      exact rich e4 e
     ·cases e
    |ref n=>exact rest rfl e
    |inp n=>exact rest rfl e
    |ty n=>exact rest rfl e
    |tup n=>exact rest rfl e
   |_=>cases e
  |_=>cases e
 |dat r2=>cases e
 |_=>cases e
end
structure JE (X:Cx) (e:Expr) (d:DE):Prop where
 h:PE X e (tE X.K d)
structure JT (X:Cx) (e:Expr) (d:DB):Prop where
 h:PT X e (tT X.K d)
structure JW (X:Cx) (e:Expr) (d:DB):Prop where
 h:PW X e (tT X.K d)
structure JA (X:Cx) (e:List Expr) (d:DA):Prop where
 h:PA X e (tA X.K d)
structure JS (X:Cx) (e:Stmt) (d:DS):Prop where
 h:PS X e (tS X.K d)
structure JSs (X:Cx) (e:List Stmt) (d:DS):Prop where
 h:PSs X e (tS X.K d)
structure JG (X:Cx) (e:Expr) (d:Pat):Prop where
 h:PG X e (gP X.K d)
structure JGs (X:Cx) (e:List Expr) (d:Pats):Prop where
 h:PGs X e (gPs X.K d)
structure JI (X:Cx) (tg e:Expr) (d:DI):Prop where
 h:PI X tg e (tI X.K d)
structure JO (X:Cx) (e:Option Expr) (d:DO):Prop where
 h:PO X e (tO X.K d)
structure JTs (X:Cx) (e:List Expr) (d:DB):Prop where
 h:PTs X e (tT X.K d)
theorem JW.pt{X:Cx}{e:Expr}{d:DB}(j:JW X e d):JT X e d:=⟨j.h.pt⟩
section
variable{X:Cx}{a b c e:Expr}{es:List Expr}{da db dc d:DE}{ta tb:DB}{aa:DA}{pos p2:Pos}{f f':W->W->G->Option (W×G)}
theorem ZHa(i:Nat){x:Str}{pos:Pos}(hN:X.N[i]? = some x:=by rfl)(hv:Vis X.env.scope x:=by first|exact Or.inl rfl|exact Or.inr (Or.inl rfl)|exact Or.inr (Or.inr rfl))(hd:(x == ("__debug__" : Str))=false:=by decide)(hcd:(x == ("__classdict__" : Str))=false:=by decide):JE X (.Name x pos) (ZB i):=⟨ZI8 i hN hv hd hcd⟩
theorem ZHv{i j pos}:JE X (.Constant (.int i) j pos) (dC (.int i)):=⟨ZIL ⟩
theorem ZJa{b j pos}:JE X (.Constant (.bool b) j pos) (dC (.bool b)):=⟨de_bl ⟩
theorem ZGZ{j pos}:JE X (.Constant .none j pos) (dC .none):=⟨ZIZ ⟩
theorem ZHc{x j pos}:JE X (.Constant (.str x) j pos) (dC (.str x)):=⟨ZIz ⟩
theorem ZEW{x:Str}{n:Int}(hg:Gl X x)(h:ZDt X.mg x n)(hd:(x == ("__debug__" : Str))=false:=by decide):JE X (.Name x pos) (dC (.int n)):=⟨ZGL hg h hd⟩
theorem ZI1{op:Operator}(ho:OpR X (binaryOp op) (rOp X.K f))(ha:JE X a da)(hb:JE X b db):JE X (.BinOp a op b pos) (dOp f da db):=⟨de_op ho ha.h hb.h⟩
theorem ZHU{op:CmpOp}(ho:OpR X (compareOp op) (rOp X.K f))(ha:JE X a da)(hb:JE X b db)(hm:behindInMarks op b=false):JE X (.Compare a [op] [b] pos) (dOp f da db):=⟨ZIi ho ha.h hb.h hm⟩
theorem ZGU(ho:IxR X (rOp X.K f))(ha:JE X a da)(hb:JE X b db)(hs:ZC5 b):JE X (.Subscript a b pos) (dOp f da db):=⟨de_ix ho ha.h hb.h hs⟩
theorem ZG1{op:CmpOp}(ho:OpR X (compareOp op) (rOp X.K f))(ha:JE X a da)(hb:JE X b db)(hm:behindInMarks op b=false):JT X (.Compare a [op] [b] pos) (dB (dOp f da db)):=⟨ZIo ho ha.h hb.h hm⟩
theorem ZG9(h:JE X e d)(he:∀whole,isTrue e X.env whole=(do let v ←whole;standAt e.pos;holding [v] (truthy v)):=by intro _;rfl):JT X e (dB d):=⟨ZIw h.h he⟩
theorem ZE8{op op':CmpOp}(ho:OpR X (compareOp op) (rOp X.K f))(ho':OpR X (compareOp op') (rOp X.K f'))(ha:JE X a da)(hb:JE X b db)(hc:JE X c dc)(hm:lastMarks [op,op'] [b,c]=false:=by with_unfolding_all rfl):JE X (.Compare a [op,op'] [b,c] pos) (ZAM f f' da db dc):=⟨ZFW ho ho' ha.h hb.h hc.h hm⟩
theorem ZEf{op op':CmpOp}(ho:OpR X (compareOp op) (rOp X.K f))(ho':OpR X (compareOp op') (rOp X.K f'))(ha:JE X a da)(hb:JE X b db)(hc:JE X c dc)(hm:lastMarks [op,op'] [b,c]=false:=by with_unfolding_all rfl):JT X (.Compare a [op,op'] [b,c] pos) (dB (ZAM f f' da db dc)):=⟨ZGE ho ho' ha.h hb.h hc.h hm⟩
theorem ZG8(h:JT X a ta):JT X (.UnaryOp .Not a pos) (ZBM ta):=⟨ZJT h.h⟩
theorem ZF7(h:JT X a ta):JW X (.BoolOp .And [a] pos) ta:=⟨ZHY h.h⟩
theorem ZHF(h:JT X a ta):JW X (.BoolOp .Or [a] pos) ta:=⟨ZIR h.h⟩
theorem ZD8{rest:List Expr}(ha:JT X a ta)(hb:JW X (.BoolOp .And (b::rest) pos) tb):JW X (.BoolOp .And (a::b::rest) pos) (ZDf ta tb):=⟨ZI5 ha.h hb.h⟩
theorem ZGO{rest:List Expr}(ha:JT X a ta)(hb:JW X (.BoolOp .Or (b::rest) pos) tb):JW X (.BoolOp .Or (a::b::rest) pos) (dOr ta tb):=⟨dw_or ha.h hb.h⟩
theorem ZHS{op}(h:JE X a da):JE X (.BoolOp op [a] pos) da:=⟨ZIJ h.h⟩
theorem ZHH{rest:List Expr}(ha:JE X a da)(hb:JE X (.BoolOp .And (b::rest) pos) db):JE X (.BoolOp .And (a::b::rest) pos) (ZAj da db):=⟨ZIy ha.h hb.h⟩
theorem ZG0(ha:JE X a da):JE X (.UnaryOp .Not a pos) (ZCf da):=⟨ZJt ha.h⟩
theorem ZIu(hc:JT X c ta)(ha:JE X a da)(hb:JE X b db):JE X (.IfExp c a b pos) (dIf ta da db):=⟨de_if hc.h ha.h hb.h⟩
theorem ZGx  : JA X [] ZE:=⟨ZIY ⟩
theorem ZFb(ha:JE X e d)(hr:JA X es aa)(hs:starEach (e::es) X.env=(false,eval e X.env)::starEach es X.env:=by rfl):JA X (e::es) (ZA d aa):=⟨ZGY ha.h hr.h hs⟩
theorem ZHC{x1}(h:JA X es aa):JE X (.Tuple es x1 pos) (dF ZAE aa):=⟨ZIh h.h⟩
theorem ZGc(h:JA X es aa):JE X (.List es pos) (dF ZBa aa):=⟨ZIE h.h⟩
theorem ZF6(h:JA X es aa):JE X (.List es pos) (dF ZF3 aa):=⟨ZHL h.h⟩
end
section
variable{X:Cx}{x:Str}{p pos:Pos}{e:Expr}{es:List Expr}{aa:DA}{id T:String}{fn:List W->G->Option (W×G)}
theorem ZCi(hc:ZQ X (.builtin id) (rF X.K fn))(hg:Gl X x)(hm:X.mg x=none)(hv:bootBuiltins x=some (.builtin id))(ha:JA X (e::es) aa)(hn:x≠"__name__":=by decide)(hdb:(x == ("__debug__" : Str))=false:=by decide)(he:starEach (e::es) X.env=(false,eval e X.env)::starEach es X.env:=by rfl)(hpl:(backTo pos (starEach es X.env)).any (·.1)=false:=by rfl):JE X (.Call (.Name x p) (e::es) [] pos) (dF fn aa):=⟨ZGH hc hg hm hv ha.h hn hdb he hpl⟩
theorem ZDl(hc:ZQ X (.type T) (rF X.K fn))(hg:Gl X x)(hm:X.mg x=none)(hv:bootBuiltins x=some (.type T))(ha:JA X (e::es) aa)(hn:x≠"__name__":=by decide)(hdb:(x == ("__debug__" : Str))=false:=by decide)(he:starEach (e::es) X.env=(false,eval e X.env)::starEach es X.env:=by rfl)(hpl:(backTo pos (starEach es X.env)).any (·.1)=false:=by rfl):JE X (.Call (.Name x p) (e::es) [] pos) (dF fn aa):=⟨ZEa hc hg hm hv ha.h hn hdb he hpl⟩
theorem ZFz{st:Stmt}{ps:List Str}{f:Addr}{fd:FuncData}{k n:Nat}(D:Def X.K X.mg x st ps f fd)(F:FnOk X.prog X.w X.K X.mg X.base CX0 k f fd ps (spD X.K n fn))(hr:Room k X.A)(ha:JA X (e::es) aa)(hm:Many aa n)(hg:Gl X x:=by rfl)(hdb:(x == ("__debug__" : Str))=false:=by decide)(he:starEach (e::es) X.env=(false,eval e X.env)::starEach es X.env:=by rfl)(hpl:(backTo pos (starEach es X.env)).any (·.1)=false:=by rfl):JE X (.Call (.Name x p) (e::es) [] pos) (dF fn aa):=⟨ZHR D F hr ha.h hm hg hdb he hpl⟩
theorem ZEq{st:Stmt}{ps:List Str}{f:Addr}{fd:FuncData}{k:Nat}(D:Def X.K X.mg x st ps f fd)(F:FnOk X.prog X.w X.K X.mg X.base CX0 k f fd ps (spD X.K 0 fn))(hr:Room k X.A)(hg:Gl X x:=by rfl)(hdb:(x == ("__debug__" : Str))=false:=by decide):JE X (.Call (.Name x p) [] [] pos) (dF fn ZE):=⟨ZFv D F hr hg hdb⟩
end
section
variable{X:Cx}{pos:Pos}
theorem ZIg{i:Nat}{x:Str}(hN:X.N.Nodup)(hi:X.N[i]? = some x)(hx:Loc X.env.scope x)(hf:X.fn x=true∨X.env.scope.names.lookup x=some .local:=by first|exact .inl rfl|exact .inr rfl|assumption):JG X (.Name x pos) (.nm i):=⟨dg_nm hN hi hx hf⟩
theorem ZJA{es:List Expr}{k:Nat}{ps:Pats}(hc:X.calm=true)(h:JGs X es ps)(hn:(assignEach es X.env).length=ps.len:=by rfl)(hst:(assignEach es X.env).findIdx? (·.1)=none:=by rfl):JG X (.Tuple es k pos) (.tp ps):=⟨dg_tp hc h.h hn hst⟩
theorem ZHE  : JGs X [] .nil:=⟨ZIX ⟩
theorem ZGN{e:Expr}{es:List Expr}{p:Pat}{ps:Pats}(h1:JG X e p)(h2:JGs X es ps)(hs:(assignEach (e::es) X.env).map (·.2)=assign e X.env::(assignEach es X.env).map (·.2):=by rfl):JGs X (e::es) (.cons p ps):=⟨ZHm h1.h h2.h hs⟩
end
section
variable{X:Cx}{pos:Pos}{st:Stmt}{rest ss:List Stmt}{a b:DS}{d:DE}{e c:Expr}{tc:DB}
theorem ZFo  : JSs X [] dNx:=⟨ZHI ⟩
theorem ZFs(h:JS X st a):JSs X [st] a:=⟨ZHN h.h⟩
theorem ZEn(h1:JS X st a)(h2:JSs X rest b):JSs X (st::rest) (ZZ a b):=⟨ZGJ h1.h h2.h⟩
theorem ZHn{i:Nat}{x:Str}{pos':Pos}(hN:X.N.Nodup)(hi:X.N[i]? = some x)(hx:Loc X.env.scope x)(he:JE X e d)(hs:swapsWith e (some (.Name x pos')) pos.line X.env=pure false:=by rfl)(hf:X.fn x=true∨X.env.scope.names.lookup x=some .local:=by first|exact .inl rfl|exact .inr rfl|assumption):JS X (.Assign [.Name x pos'] e pos) (Zs i d):=⟨ZId hN hi hx he.h hs hf⟩
theorem ZEF{tg:Expr}{pt:Pat}(he:JE X e d)(hg:JG X tg pt)(hs:swapsWithSole [tg] e pos.line X.env=pure false:=by rfl)(hw:swappedStores [tg] e X.env=pure none:=by rfl)(h1:(assignEach [tg] X.env).map (·.2)=[assign tg X.env]:=by rfl):JS X (.Assign [tg] e pos) (ZEZ pt d):=⟨ZJb he.h hg.h hs hw h1⟩
theorem ZHG(he:JE X e d):JS X (.Return (some e) pos) (ZP d):=⟨ZJk he.h⟩
theorem ZI7{sa sb:List Stmt}(hc:JT X c tc)(ha:JSs X sa a)(hb:JSs X sb b):JS X (.If c sa sb pos) (ZA7 tc a b):=⟨ds_if hc.h ha.h hb.h⟩
end
section
variable{X:Cx}{tg:Expr}{pos:Pos}
theorem ZHe{l:Expr}{d:DE}(hl:JE X l d):JI X tg l (ZDy d):=⟨ZIS hl.h⟩
theorem ZDr{a:Expr}{da:DA}{p pos:Pos}(hg:Gl X "range")(hm:X.mg "range" = none)(ha:JA X [a] da)(hs:starEach [a] X.env=[(false,eval a X.env)]:=by rfl)(hn:Many da 1):JI X tg (.Call (.Name "range" p) [a] [] pos) (ZBS da):=⟨ZEk hg hm ha.h hs hn⟩
theorem ZHl{a b:Expr}{da:DA}{p pos:Pos}(hg:Gl X "zip")(hm:X.mg "zip" = none)(ha:JA X [a,b] da)(hs:starEach [a,b] X.env=[(false,eval a X.env),(false,eval b X.env)]:=by rfl)(hs2:starEach [b] X.env=[(false,eval b X.env)]:=by rfl)(hn:Many da 2):JI X tg (.Call (.Name "zip" p) [a,b] [] pos) (ZDd da):=⟨ZJJ hg hm ha.h hs hs2 hn⟩
end
section
variable{X:Cx}{tg iter:Expr}{pos:Pos}{di:DI}{pt:Pat}{db:DS}
theorem ZHQ{body:List Stmt}(hp:PassesOwn (model X.prog X.w) X.A X.env X.xe)(hc:X.calm=true)(hi:JI X tg iter di)(hg:JG X tg pt)(hb:JSs X body db)(hs:∀x,foldedSetIterable iter X.env x=pure x:=by intro _;rfl):JS X (.For tg iter body [] pos) (ZDu pt di db):=⟨ZI3 hp hc hi.h hg.h hb.h hs⟩
theorem ZFf{X:Cx}:JTs X [] ZFi:=⟨ZHu ⟩
theorem ZFZ{X:Cx}{c:Expr}{d:DB}(h:JT X c d):JTs X [c] d:=⟨ZHf h.h⟩
end
section
variable{X:Cx}{tg elt iter:Expr}{ifs:List Expr}{scope sc:Scope}{pos:Pos}{di:DI}{pt:Pat}{dt:DB}{de:DE}{N NX:List Str}{own:Nat}{cap:List Nat}
theorem ZFM(hc:X.calm=true)(hi:JI X tg iter di)(hsc:X.env.scope=sc)(hNX:X.N=NX)(hb:∀cl C s0 H0 fp,JG (blk X N (compEnvC scope cl C X.env) s0 H0 fp) tg pt/\JTs (blk X N (compEnvC scope cl C X.env) s0 H0 fp) ifs dt/\JE (blk X N (compEnvC scope cl C X.env) s0 H0 fp) elt de)(co:ZCM sc scope NX N own cap=true)(hp:pt.all (λi=>decide (i<own))=true)(hs:∀x,foldedSetIterable iter X.env x=pure x:=by intro _;rfl):JE X (.ListComp elt [⟨tg,iter,ifs,0⟩] scope pos) (ZAQ own cap pt di dt de):=⟨ZHw hc hi.h hsc hNX (λcl C s0 H0 fp=>⟨(hb cl C s0 H0 fp).1.h,(hb cl C s0 H0 fp).2.1.h,(hb cl C s0 H0 fp).2.2.h⟩) co hp hs⟩
theorem ZFn{i:Nat}{x:Str}{py spos:Pos}(hN:X.N.Nodup)(hi:X.N[i]? = some x)(hx:Loc X.env.scope x)(hc:X.calm=true)(hit:JI X tg iter di)(hsc:X.env.scope=sc)(hNX:X.N=NX)(hb:∀cl C s0 H0 fp,JG (blk X N (compEnvC scope cl C X.env) s0 H0 fp) tg pt/\JTs (blk X N (compEnvC scope cl C X.env) s0 H0 fp) ifs dt/\JE (blk X N (compEnvC scope cl C X.env) s0 H0 fp) elt de)(co:ZCM sc scope NX N own cap=true)(hp:pt.all (λi=>decide (i<own))=true)(hsw:swapsWith (.ListComp elt [⟨tg,iter,ifs,0⟩] scope pos) (some (.Name x py)) spos.line X.env=pure true:=by rfl)(hs:∀x,foldedSetIterable iter X.env x=pure x:=by intro _;rfl)(hf:X.fn x=true∨X.env.scope.names.lookup x=some .local:=by first|exact .inl rfl|exact .inr rfl|assumption):JS X (.Assign [.Name x py] (.ListComp elt [⟨tg,iter,ifs,0⟩] scope pos) spos) (Zs i (ZAQ own cap pt di dt de)):=⟨ZHy hN hi hx hc hit.h hsc hNX (λcl C s0 H0 fp=>⟨(hb cl C s0 H0 fp).1.h,(hb cl C s0 H0 fp).2.1.h,(hb cl C s0 H0 fp).2.2.h⟩) co hp hsw hs hf⟩
end
section
variable{X:Cx}
theorem ZGR  : JO X none ZY:=⟨ZGi ⟩
theorem ZFH{e:Expr}{d:DE}(h:JE X e d):JO X (some e) (Z3 d):=⟨ZGs h.h⟩
theorem ZJe{e:Expr}{lo hi:Option Expr}{d:DE}{l h:DO}{pos p2:Pos}(he:JE X e d)(hl:JO X lo l)(hh:JO X hi h):JE X (.Subscript e (.Slice lo hi none p2) pos) (dSl d l h):=⟨de_sl he.h hl.h hh.h⟩
theorem ZJc{x:Str}{n:String}{pos:Pos}(hg:Gl X x)(hm:X.mg x=none)(hv:bootBuiltins x=some (.type n))(hn:x≠"__name__":=by decide)(hd:(x == ("__debug__" : Str))=false:=by decide):JE X (.Name x pos) (λ_ g=>some (.ty n,g)):=⟨de_ty hg hm hv hn hd⟩
theorem ZGo{a:Expr}{da:DE}{pos:Pos}(ha:JE X a da):JE X (.UnaryOp .USub a pos) (dUn (λw g=>match w with|.dat (.int i)=>some (.dat (.int (-i)),g)|_=>none) da):=⟨ZJW ha.h⟩
theorem ZHg{o i e:Expr}{dl di d:DE}{pos tpos:Pos}(he:JE X e d)(ho:JE X o dl)(hi:JE X i di)(ha:∀v,assign (.Subscript o i tpos) X.env v=(do
   let ov ←holding [v] (eval o X.env)
   let iv ←holding [v,ov] (eval i X.env)
   standAt tpos
   holding [v,ov,iv] (setItem ov iv v)
   release [v,ov,iv] []):=by intro _;rfl) (hs:swapsWithSole [.Subscript o i tpos] e pos.line X.env=pure false:=by rfl) (hw:swappedStores [.Subscript o i tpos] e X.env=pure none:=by rfl) (h1:(assignEach [.Subscript o i tpos] X.env).map (·.2)=[assign (.Subscript o i tpos) X.env]:=by rfl):JS X (.Assign [.Subscript o i tpos] e pos) (ZDU dl di d):=⟨ZID he.h ho.h hi.h ha hs hw h1⟩
end
theorem ZX{P:Program}{w:World}{K:PySem.W.Frag}{mg:Str->Option Value}{base:Heap}{x qual:Str}{st:Stmt}{f:Addr}{fd:FuncData}{N ps:List Str}{k n m:Nat}{d:DS}{r:List W->G->Option (W×G)}(e:r=ZAN n d)(hn:N.length=n)(hm:ps.length=m)(F:Fun K x qual st f fd)(S:FnScope N ps (ZF st))
  (hb:∀(cdv:Value) (A:Around) (outer:List Env) (s:Shared) (H:Hp) (E:XK),Room k (A.deeper (envOfC qual (ZF st) s.heap.objs.size f cdv))->JSs (ZDV CX0 P w K mg base N qual (ZF st) f cdv A outer s H E).nox (Zv st) d) :
  FnOk P w K mg base CX0 (k+1) f fd ps (spD K m r):=by
 subst e hn hm;exact ZIp F S λcdv A outer s H E hr=>(hb cdv A outer s H E hr).h
theorem ZHZ{X:Cx}{a b c:Int}{j1 j2}{p1 p2 pos:Pos}(hc:ZJ1 a b)(h:a ^ b.toNat=c):JE X (.BinOp (.Constant (.int a) j1 p1) .Pow (.Constant (.int b) j2 p2) pos) (dC (.int c)):=⟨(ZH1 ZJK ZD4 ZD4).imp λσ H Q ⟨ρ,sd,g,x,g',r,e,q⟩=>by
 cases e;exact⟨a,b,rfl,rfl,hc,by show Q (.int (a ^ b.toNat)) H;rw[h];exact q _ H ρ .refl r.hr (.dat (.int _))⟩⟩
def ZJX:W->G->Option (W×G):=λw g=>match w with|.dat (.int i)=>some (.dat (.int (-i)),g)|_=>none
structure EvP {α : Type} (o:Option (α×G)) (P : α->G->Prop):Prop where
 h:∃x g,o=some (x,g)/\P x g
section
variable{α : Type}{P : α->G->Prop}{g:G}
theorem ZBL{x : α}(h:P x g):EvP (some (x,g)) P:=⟨x,g,rfl,h⟩
theorem p_of{o:Option (α×G)}{x : α}(e:o=some (x,g))(h:P x g):EvP o P:=⟨x,g,e,h⟩
theorem ZBs{c:Prop}[Decidable c]{A B:Option (α×G)}(h:c)(h1:EvP A P):EvP (if c then A else B) P:=by rw[if_pos h];exact h1
theorem ZD0{β : Type}{o:Option β}{y : β}{f : β->α×G}{x : α}(e:o=some y)(e2:f y=(x,g))(h:P x g):EvP (o.map f) P:=by
 subst e;exact⟨x,g,congrArg some e2,h⟩
end
section
variable{sd:Sd}{g:G}{da db dc d:DE}{ta tb:DB}{aa:DA}{f f':W->W->G->Option (W×G)}{P:W->G->Prop}{PB:Bool->G->Prop}{PA':List W->G->Prop}
theorem x_c{d:PyData}(h:P (.dat d) g):EvP (dC d sd g) P:=⟨_,_,rfl,h⟩
theorem ZJ0(h:EvP (da sd g) λx g1=>EvP (db sd g1) λy g2=>EvP (f x y g2) P):EvP (dOp f da db sd g) P:=by
 obtain⟨x,g1,e1,y,g2,e2,z,g3,e3,h⟩:=h;exact⟨z,g3,by unfold dOp;rw[e1];show(db sd g1).bind _=_;rw[e2];exact e3,h⟩
theorem x_un{fu:W->G->Option (W×G)}(h:EvP (da sd g) λx g1=>EvP (fu x g1) P):EvP (dUn fu da sd g) P:=by
 obtain⟨x,g1,e1,z,g3,e3,h⟩:=h;exact⟨z,g3,by unfold dUn;rw[e1];exact e3,h⟩
structure asB (PB:Bool->G->Prop) (x:W) (g:G):Prop where
 h:∃b,x=.dat (.bool b)/\PB b g
theorem as_b{b:Bool}(h:PB b g):asB PB (.dat (.bool b)) g:=⟨b,rfl,h⟩
theorem x_b(h:EvP (d sd g) (asB PB)):EvP (dB d sd g) PB:=by
 obtain⟨x,g1,e1,b,rfl,h⟩:=h;exact⟨b,g1,by unfold dB;rw[e1];rfl,h⟩
theorem x_not(h:EvP (ta sd g) λb g1=>PB (!b) g1):EvP (ZBM ta sd g) PB:=by
 obtain⟨x,g1,e1,h⟩:=h;exact⟨_,g1,by unfold ZBM;rw[e1];rfl,h⟩
theorem x_and(h:EvP (ta sd g) λb g1=>(b=true->EvP (tb sd g1) PB)/\(b=false->PB false g1)):EvP (ZDf ta tb sd g) PB:=by
 obtain⟨x,g1,e1,h1,h2⟩:=h;cases x with
 |true =>
  obtain⟨y,g2,e2,h⟩:=h1 rfl;exact⟨y,g2,by unfold ZDf;rw[e1];exact e2,h⟩
 |false=>exact⟨false,g1,by unfold ZDf;rw[e1];rfl,h2 rfl⟩
theorem x_or(h:EvP (ta sd g) λb g1=>(b=true->PB true g1)/\(b=false->EvP (tb sd g1) PB)):EvP (dOr ta tb sd g) PB:=by
 obtain⟨x,g1,e1,h1,h2⟩:=h;cases x with
 |false =>
  obtain⟨y,g2,e2,h⟩:=h2 rfl;exact⟨y,g2,by unfold dOr;rw[e1];exact e2,h⟩
 |true=>exact⟨true,g1,by unfold dOr;rw[e1];rfl,h1 rfl⟩
theorem ZJl(h:EvP (da sd g) (asB λb g1=>(b=true->EvP (db sd g1) P)/\(b=false->P (.dat (.bool false)) g1))):EvP (ZAj da db sd g) P:=by
 obtain⟨x,g1,e1,b,rfl,h1,h2⟩:=h;cases b with
 |true =>
  obtain⟨y,g2,e2,h⟩:=h1 rfl;exact⟨y,g2,by unfold ZAj;rw[e1];exact e2,h⟩
 |false=>exact⟨_,g1,by unfold ZAj;rw[e1];rfl,h2 rfl⟩
theorem ZBq(h:EvP (da sd g) (asB λb g1=>P (.dat (.bool !b)) g1)):EvP (ZCf da sd g) P:=by
 obtain⟨x,g1,e1,b,rfl,h⟩:=h;exact⟨_,g1,by unfold ZCf;rw[e1];rfl,h⟩
theorem x_if(h:EvP (ta sd g) λb g1=>(b=true->EvP (da sd g1) P)/\(b=false->EvP (db sd g1) P)):EvP (dIf ta da db sd g) P:=by
 obtain⟨x,g1,e1,h1,h2⟩:=h;cases x with
 |true =>
  obtain⟨y,g2,e2,h⟩:=h1 rfl;exact⟨y,g2,by unfold dIf;rw[e1];exact e2,h⟩
 |false =>
  obtain⟨y,g2,e2,h⟩:=h2 rfl;exact⟨y,g2,by unfold dIf;rw[e1];exact e2,h⟩
theorem x_nil(h:PA' [] g):EvP (ZE sd g) PA':=⟨_,_,rfl,h⟩
theorem ZJg(h:EvP (d sd g) λx g1=>EvP (aa sd g1) λxs g2=>PA' (x::xs) g2):EvP (ZA d aa sd g) PA':=by
 obtain⟨x,g1,e1,y,g2,e2,h⟩:=h;exact⟨_,g2,by unfold ZA;rw[e1];show(aa sd g1).map _=_;rw[e2];rfl,h⟩
theorem x_f{fn:List W->G->Option (W×G)}(h:EvP (aa sd g) λxs g1=>EvP (fn xs g1) P):EvP (dF fn aa sd g) P:=by
 obtain⟨x,g1,e1,y,g2,e2,h⟩:=h;exact⟨y,g2,by unfold dF;rw[e1];exact e2,h⟩
theorem ZHi(h:EvP (da sd g) λx g1=>EvP (db sd g1) λy g2=>EvP (f x y g2) (asB λb g3=>(b=true->EvP (dc sd g3) λz g4=>EvP (f' y z g4) P)/\(b=false->P (.dat (.bool false)) g3))):EvP (ZAM f f' da db dc sd g) P:=by
 obtain⟨x,g1,e1,y,g2,e2,z,g3,e3,b,rfl,h1,h2⟩:=h;cases b with
 |true =>
  obtain⟨u,g4,e4,v,g5,e5,h⟩:=h1 rfl;exact⟨v,g5,by unfold ZAM;rw[e1];show(db sd g1).bind _=_;rw[e2];show(f x y g2).bind _=_;rw[e3];show(dc sd g3).bind _=_;rw[e4];exact e5,h⟩
 |false=>exact⟨_,g3,by unfold ZAM;rw[e1];show(db sd g1).bind _=_;rw[e2];show(f x y g2).bind _=_;rw[e3];rfl,h2 rfl⟩
theorem ZFx{PO':Option Int->G->Prop}(h:PO' none g):EvP (ZY sd g) PO':=⟨_,_,rfl,h⟩
structure asI (PO':Option Int->G->Prop) (x:W) (g:G):Prop where
 h:∃i,x=.dat (.int i)/\PO' (some i) g
theorem as_i{PO':Option Int->G->Prop}{i:Int}(h:PO' (some i) g):asI PO' (.dat (.int i)) g:=⟨i,rfl,h⟩
theorem ZJH{PO':Option Int->G->Prop}(h:EvP (d sd g) (asI PO')):EvP (Z3 d sd g) PO':=by
 obtain⟨x,g1,e1,i,rfl,h⟩:=h;exact⟨some i,g1,by unfold Z3;rw[e1];rfl,h⟩
theorem x_sl{l u:DO}(h:EvP (d sd g) λx g1=>EvP (l sd g1) λi g2=>EvP (u sd g2) λj g3=>EvP (slO x i j g3) P):EvP (dSl d l u sd g) P:=by
 obtain⟨x,g1,e1,i,g2,e2,j,g3,e3,z,g4,e4,h⟩:=h;exact⟨z,g4,by unfold dSl;rw[e1];show(l sd g1).bind _=_;rw[e2];show(u sd g2).bind _=_;rw[e3];exact e4,h⟩
structure EvI (o:Option (List PyData×Option Nat×G)) (P:List PyData->Option Nat->G->Prop):Prop where
 h:∃xs src g,o=some (xs,src,g)/\P xs src g
theorem ZJC{PI':List PyData->Option Nat->G->Prop}{xs:List PyData}{src:Option Nat}(h:PI' xs src g):EvI (some (xs,src,g)) PI':=⟨_,_,_,rfl,h⟩
theorem ZIC{PI':List PyData->Option Nat->G->Prop}(h:EvP (d sd g) λx g1=>EvI (ZH9 x g1) PI'):EvI (ZDy d sd g) PI':=by
 obtain⟨x,g1,e1,xs,src,g2,e2,h⟩:=h;exact⟨xs,src,g2,by unfold ZDy;rw[e1];exact e2,h⟩
theorem ZGK{PI':List PyData->Option Nat->G->Prop}{j:Int}{g1:G}(h:EvP (aa sd g) λws g1=>∃j:Int,ws=[.dat (.int j)]/\(j<=1000/\-1000<=j)/\PI' (ZCQ j.toNat 0) none g1):EvI (ZBS aa sd g) PI':=by
 obtain⟨ws,g1,e1,j,rfl,hj,h⟩:=h;exact⟨_,_,g1,by unfold ZBS;rw[e1];exact if_pos hj,h⟩
theorem ZJR{PI':List PyData->Option Nat->G->Prop}(h:EvP (aa sd g) λws g1=>∃ds es:List PyData,ws=[.dat (.tuple ds),.dat (.tuple es)]/\PI' (ZAk ds es) none g1):EvI (ZDd aa sd g) PI':=by
 obtain⟨ws,g1,e1,j,k,rfl,h⟩:=h;exact⟨_,_,g1,by unfold ZDd;rw[e1];rfl,h⟩
theorem ZJi{own:Nat}{cap:List Nat}{pt:Pat}{di:DI}{dt:DB}{de:DE}(h:EvI (di sd g) λxs src g1=>xs.length<=1000/\EvP (Z1 src xs pt dt de (ZEu own cap sd) xs g1) λys g2=>P (.dat (.list ys)) g2):EvP (ZAQ own cap pt di dt de sd g) P:=by
 obtain⟨xs,src,g1,e1,hl,ys,g2,e2,h⟩:=h;refine⟨_,g2,?_,h⟩;unfold ZAQ;rw[e1];show(if xs.length<=1000 then _ else _)=_;rw[if_pos hl];show(Z1 src xs pt dt de (ZEu own cap sd) xs g1).map _=_;rw[e2];rfl
structure EvS (o:Option Out) (P:Out->Prop):Prop where
 h:∃x,o=some x/\P x
variable{PS':Out->Prop}{a b:DS}
inductive seqP (b:DS) (P:Out->Prop):Out->Prop
 |nx {sd:Sd} {g:G}:EvS (b sd g) P->seqP b P (.nx sd g)
 |rt {x:W} {g:G}:P (.rt x g)->seqP b P (.rt x g)
 |bk {sd:Sd} {g:G}:P (.bk sd g)->seqP b P (.bk sd g)
 |ct {sd:Sd} {g:G}:P (.ct sd g)->seqP b P (.ct sd g)
theorem ZBm(h:EvS (b sd g) PS'):seqP b PS' (.nx sd g):=.nx h
theorem ZJM{x:W}(h:PS' (.rt x g)):seqP b PS' (.rt x g):=.rt h
theorem x_seq(h:EvS (a sd g) (seqP b PS')):EvS (ZZ a b sd g) PS':=by
 obtain⟨o,e,h⟩:=h;cases h with
 |nx h =>
  obtain⟨o,e2,h⟩:=h;exact⟨o,by unfold ZZ;rw[e];exact e2,h⟩
 |rt h=>exact⟨_,by unfold ZZ;rw[e];rfl,h⟩
 |bk h=>exact⟨_,by unfold ZZ;rw[e];rfl,h⟩
 |ct h=>exact⟨_,by unfold ZZ;rw[e];rfl,h⟩
theorem ZGv(h:PS' (.nx sd g)):EvS (dNx sd g) PS':=⟨_,rfl,h⟩
theorem ZH4{i:Nat}(h:EvP (d sd g) λx g1=>PS' (.nx (sd.set i (some x)) g1)):EvS (Zs i d sd g) PS':=by
 obtain⟨x,g1,e,h⟩:=h;exact⟨_,by unfold Zs;rw[e];rfl,h⟩
theorem x_asg{pt:Pat}(h:EvP (d sd g) λx g1=>∃sd1,Ze pt x sd=some sd1/\PS' (.nx sd1 g1)):EvS (ZEZ pt d sd g) PS':=by
 obtain⟨x,g1,e,sd1,e1,h⟩:=h;exact⟨_,by unfold ZEZ;rw[e];show(Ze pt x sd).map _=_;rw[e1];rfl,h⟩
theorem x_ret(h:EvP (d sd g) λx g1=>PS' (.rt x g1)):EvS (ZP d sd g) PS':=by
 obtain⟨x,g1,e,h⟩:=h;exact⟨_,by unfold ZP;rw[e];rfl,h⟩
theorem x_ifS(h:EvP (ta sd g) λk g1=>(k=true->EvS (a sd g1) PS')/\(k=false->EvS (b sd g1) PS')):EvS (ZA7 ta a b sd g) PS':=by
 obtain⟨k,g1,e,h1,h2⟩:=h;cases k with
 |true =>
  obtain⟨o,e2,h⟩:=h1 rfl;exact⟨o,by unfold ZA7;rw[e];exact e2,h⟩
 |false =>
  obtain⟨o,e2,h⟩:=h2 rfl;exact⟨o,by unfold ZA7;rw[e];exact e2,h⟩
theorem x_for{pt:Pat}{di:DI}(h:EvI (di sd g) λxs src g1=>EvS (ZAP src xs pt b xs sd g1) PS'):EvS (ZDu pt di b sd g) PS':=by
 obtain⟨xs,src,g1,e1,o,e2,h⟩:=h;exact⟨o,by unfold ZDu;rw[e1];exact e2,h⟩
theorem x_sto{dl di:DE}(h:EvP (d sd g) λv g1=>∃x,v=.dat x/\EvP (dl sd g1) λl g2=>∃n,l=.ref n/\EvP (di sd g2) λi g3=>∃k,i=.dat (.int k)/\∃ds,g3[n]? = some (.pl ds)/\∃j,ixN ds.length k=some j/\PS' (.nx sd (g3.set n (.pl (ds.set j x))))):EvS (ZDU dl di d sd g) PS':=by
 obtain⟨v,g1,e1,x,rfl,l,g2,e2,n,rfl,i,g3,e3,k,rfl,ds,e4,j,e5,h⟩:=h;refine⟨_,?_,h⟩;unfold ZDU;rw[e1];show(dl sd g1).bind _=_;rw[e2];show(di sd g2).bind _=_;rw[e3];show(match g3[n]? with|some (.pl ds)=>_|some (.rl ws)=>_|_=>_)=_;rw[e4];show(ixN ds.length k).map _=_;rw[e5];rfl
end
inductive runP (P:W->G->Prop):Out->Prop
 |rt {x:W} {g':G}:P x g'->runP P (.rt x g')
 |nx {sd:Sd} {g':G}:P (.dat .none) g'->runP P (.nx sd g')
theorem ZIr{x:W}{g':G}{P:W->G->Prop}(h:P x g'):runP P (.rt x g'):=.rt h
theorem Zj{n:Nat}{d:DS}{ws:List W}{g:G}{P:W->G->Prop}(h:EvS (d (ws.map some++List.replicate (n-ws.length) none) g) (runP P)):EvP (ZAN n d ws g) P:=by
 obtain⟨o,e,h⟩:=h;unfold ZAN;rw[e];cases h with
 |rt h=>exact⟨_,_,rfl,h⟩
 |nx h=>exact⟨_,_,rfl,h⟩
def stepP(src:Option Nat)(xs:List PyData)(I:Sd->G->Prop)(P:Out->Prop):Out->Prop
 |.nx sd g=>Z2 src xs g/\I sd g
 |.ct sd g=>Z2 src xs g/\I sd g
 |.bk sd g=>P (.nx sd g)
 |.rt x g=>P (.rt x g)
theorem ZAR{α : Type}{src:Option Nat}{xs:List PyData}{g:G}{k:Option α}(h:Z2 src xs g):ZAi src xs g k=k:=by
 unfold ZAi;cases src with
 |none=>rfl
 |some n=>exact if_pos h
theorem ZDC{src:Option Nat}{xs:List PyData}{pt:Pat}{db:DS}{P:Out->Prop}(I:Nat->Sd->G->Prop){sd:Sd}{g:G}(h0:I 0 sd g)
  (hs:∀i x sd g,xs[i]? = some x->I i sd g->∃sd1,Ze pt (.dat x) sd=some sd1/\EvS (db sd1 g) (stepP src xs (I (i+1)) P))(hd:∀sd g,I xs.length sd g->P (.nx sd g)):EvS (ZAP src xs pt db xs sd g) P:=by
 have go:∀(k i:Nat) sd g,i+k=xs.length->I i sd g->EvS (ZAP src xs pt db (xs.drop i) sd g) P:=by
  intro k
  induction k with
  |zero =>
   intro i sd g hi h;have:i=xs.length:=by omega
   subst this
   rw[drop_length,ZAP];exact⟨_,rfl,hd sd g h⟩
  |succ k ih =>
   intro i sd g hi h;have hlt:i<xs.length:=by omega
   rw[List.drop_eq_getElem_cons hlt,ZAP];obtain⟨sd1,e1,o,e2,h2⟩:=hs i xs[i] sd g (getElem?_eq_getElem hlt) h;rw[e1];show EvS ((db sd1 g).bind _) P;rw[e2];cases o with
   |nx sd2 g2=>show EvS (ZAi _ _ _ _) P;rw[ZAR h2.1];exact ih (i+1) sd2 g2 (by omega) h2.2
   |ct sd2 g2=>show EvS (ZAi _ _ _ _) P;rw[ZAR h2.1];exact ih (i+1) sd2 g2 (by omega) h2.2
   |bk sd2 g2=>exact⟨_,rfl,h2⟩
   |rt x g2=>exact⟨_,rfl,h2⟩
 exact go xs.length 0 sd g (by omega) h0
theorem ZFG{α : Type}{src:Option Nat}{xs:List PyData}{pt:Pat}{dt:DB}{de:DE}{sd0:Sd}{g:G}(enc : α->PyData)(c : α->Bool)(f : α->PyData)(so:Z2 src xs g):∀L:List α,
  (∀a∈L,∃sd1,Ze pt (.dat (enc a)) sd0=some sd1/\EvP (dt sd1 g) λb g1=>b=c a/\g1=g/\(c a=true->EvP (de sd1 g) λy g2=>y=.dat (f a)/\g2=g))->Z1 src xs pt dt de sd0 (L.map enc) g=some ((L.filter c).map f,g)
 |[],_=>rfl
 |a::L,h=>by
  obtain⟨sd1,e1,b,g1,e2,rfl,rfl,h2⟩:=h a (mem_cons_self ..);rw[map_cons,Z1,e1];show((dt sd1 g1).bind _)=_;rw[e2];show(if c a=true then _ else _)=_;have ih:=ZFG enc c f so L λz hz=>h z (mem_cons_of_mem _ hz)
  cases hc:c a with
  |true =>
   rw[if_pos rfl];obtain⟨y,g2,e3,rfl,rfl⟩:=h2 hc;rw[e3];show ZAi src xs g2 _=_;rw[ZAR so,ih,List.filter_cons_of_pos hc];rfl
  |false =>
   rw[if_neg Bool.false_ne_true,ZAR so,ih,List.filter_cons_of_neg (by rw[hc];exact Bool.false_ne_true)]
theorem ZEJ{α : Type}{src:Option Nat}{xs:List PyData}{pt:Pat}{dt:DB}{de:DE}{sd0:Sd}{g:G}{P:List PyData->G->Prop}(enc : α->PyData)(c : α->Bool)(f : α->PyData)(L:List α)(e:xs=L.map enc)(so:Z2 src xs g)
  (h:∀a∈L,∃sd1,Ze pt (.dat (enc a)) sd0=some sd1/\EvP (dt sd1 g) λb g1=>b=c a/\g1=g/\(c a=true->EvP (de sd1 g) λy g2=>y=.dat (f a)/\g2=g))(hP:P ((L.filter c).map f) g):EvP (Z1 src xs pt dt de sd0 xs g) P:=by
 refine⟨_,g,?_,hP⟩
 conv=>lhs;arg 7;rw[e]
 exact ZFG enc c f so L h
theorem ZDT{α : Type}{src:Option Nat}{xs:List PyData}{pt:Pat}{de:DE}{sd0:Sd}{g:G}{P:List PyData->G->Prop}(enc : α->PyData)(f : α->PyData)(L:List α)(e:xs=L.map enc)(so:Z2 src xs g)
  (h:∀a∈L,∃sd1,Ze pt (.dat (enc a)) sd0=some sd1/\EvP (de sd1 g) λy g2=>y=.dat (f a)/\g2=g)(hP:P (L.map f) g):EvP (Z1 src xs pt ZFi de sd0 xs g) P:=by
 refine ZEJ enc (λ_=>true) f L e so (λa ha=>?_) ?_
 ·obtain⟨sd1,e1,h1⟩:=h a ha
  exact⟨sd1,e1,true,g,rfl,rfl,rfl,λ_=>h1⟩
 ·rw[List.filter_eq_self.mpr λ_ _=>rfl]
  exact hP
theorem ev_cj{src:Option Nat}{xs:List PyData}{pt:Pat}{dt:DB}{de:DE}{sd0:Sd}{P:List PyData->G->Prop}(J:Nat->List PyData->G->Prop){g:G}(h0:J 0 [] g)
  (h:∀i x g acc,xs[i]? = some x->J i acc g->∃sd1,Ze pt (.dat x) sd0=some sd1/\EvP (dt sd1 g) λb g1=>(b=true->EvP (de sd1 g1) λy g2=>∃d,y=.dat d/\Z2 src xs g2/\J (i+1) (acc++[d]) g2)/\(b=false->Z2 src xs g1/\J (i+1) acc g1))
  (hP:∀acc g,J xs.length acc g->P acc g):EvP (Z1 src xs pt dt de sd0 xs g) P:=by
 have go:∀(k i:Nat) acc g,i+k=xs.length->J i acc g->EvP (Z1 src xs pt dt de sd0 (xs.drop i) g) λys g2=>P (acc++ys) g2:=by
  intro k
  induction k with
  |zero =>
   intro i acc g hi h1;have:i=xs.length:=by omega
   subst this
   rw[drop_length,Z1];exact⟨_,_,rfl,by show P (acc++[]) g;rw[append_nil];exact hP acc g h1⟩
  |succ k ih =>
   intro i acc g hi h1;have hlt:i<xs.length:=by omega
   rw[List.drop_eq_getElem_cons hlt,Z1];obtain⟨sd1,e1,b,g1,e2,kt,kf⟩:=h i xs[i] g acc (getElem?_eq_getElem hlt) h1;rw[e1];show EvP ((dt sd1 g).bind _) _;rw[e2];show EvP (if b=true then _ else _) _;cases b with
   |true =>
    obtain⟨y,g2,e3,d,rfl,so,i2⟩:=kt rfl;rw[if_pos rfl,e3];show EvP (ZAi _ _ _ _) _;rw[ZAR so];obtain⟨ys,g3,e4,hp⟩:=ih (i+1) (acc++[d]) g2 (by omega) i2;rw[e4];refine⟨_,g3,rfl,?_⟩;rw[append_assoc] at hp;exact hp
   |false =>
    obtain⟨so,i2⟩:=kf rfl;rw[if_neg Bool.false_ne_true,ZAR so];exact ih (i+1) acc g1 (by omega) i2
 have:=go xs.length 0 [] g (by omega) h0;rw[List.drop_zero] at this
 exact this
theorem ZF8{src:Option Nat}{xs:List PyData}{pt:Pat}{dt:DB}{de:DE}{sd0:Sd}{P:List PyData->G->Prop}(I:G->Prop)(R:Nat->List PyData->Prop){g:G}(h0:I g)(hR0:R 0 [])
  (h:∀i x g acc,xs[i]? = some x->I g->R i acc->∃sd1,Ze pt (.dat x) sd0=some sd1/\EvP (dt sd1 g) λb g1=>(b=true->EvP (de sd1 g1) λy g2=>∃d,y=.dat d/\Z2 src xs g2/\I g2/\R (i+1) (acc++[d]))/\(b=false->Z2 src xs g1/\I g1/\R (i+1) acc))
  (hP:∀acc g,I g->R xs.length acc->P acc g):EvP (Z1 src xs pt dt de sd0 xs g) P:=ev_cj (λi acc g=>I g/\R i acc) ⟨h0,hR0⟩ (λi x g acc hx j=>h i x g acc hx j.1 j.2) λacc g j=>hP acc g j.1 j.2
section
variable{g:G}{P:W->G->Prop}
theorem ZBJ{xs ys:List PyData}(h:xs.length+ys.length<=1000)(q:P (.dat (.tuple (xs++ys))) g):EvP (ZO (.dat (.tuple xs)) (.dat (.tuple ys)) g) P:=ZBs h (ZBL q)
theorem ZBh{i j:Int}(h:ZDv i j=true)(q:P (.dat (.int (i*j))) g):EvP (ZA0 (.dat (.int i)) (.dat (.int j)) g) P:=ZBs h (ZBL q)
theorem ZH3{i j:Int}(h : 0<j)(q:P (.dat (.int (i % j))) g):EvP (ZAT (.dat (.int i)) (.dat (.int j)) g) P:=ZBs (decide_eq_true h) (ZBL q)
theorem y_div{i j:Int}(h : 0<j)(h2:j<2 ^ 64)(q:P (.dat (.int (i / j))) g):EvP (ZB2 (.dat (.int i)) (.dat (.int j)) g) P:=ZBs (by show(decide (0<j) && decide (j<2 ^ 64))=true;rw[decide_eq_true h,decide_eq_true h2];rfl) (ZBL q)
theorem y_ixL{xs:List PyData}{i:Int}{d:PyData}(h:atI xs i=some d)(q:P (.dat d) g):EvP (Z4 (.dat (.list xs)) (.dat (.int i)) g) P:=ZD0 h rfl q
theorem ZBI{n:Nat}{xs:List PyData}{i:Int}{d:PyData}(hn:g[n]? = some (.pl xs))(h:atI xs i=some d)(q:P (.dat d) g):EvP (Z4 (.ref n) (.dat (.int i)) g) P:=by
 refine⟨_,_,?_,q⟩;show(match g[n]? with|some (.pl ds)=>(atI ds i).map λd=>(W.dat d,g)|some (.rl ws)=>(atI ws i).map λw=>(w,g)|_=>none)=_;rw[hn];show(atI xs i).map _=_;rw[h];rfl
end
theorem ZEP{i j:Int}:(PyData.int i).eqv (.int j)=decide (i=j):=by
 show(i == j)=_;exact rfl
def Zh:List Str:=["about","again","newer","others","own","refute","wait"]
theorem ZA8{i j:Int}(h : -(2 ^ 64)<j/\j<2 ^ 64):ZDv i j=true:=by
 unfold ZDv;rw[decide_eq_true h.1,decide_eq_true h.2];simp
theorem Zm{α : Type}{g:List α}{b:Nat}{x : α}(h:b<g.length):(g.set b x)[b]? = some x:=getElem?_set_self h
def Bx(g:G)(b:Nat):Prop:=∃x n c:Int,g[b]? = some (.pl [.int x,.int n,.int c])
theorem Bx.lt{g:G}{b:Nat}(h:Bx g b):b<g.length:=by
 obtain⟨x,n,c,e⟩:=h;exact(List.getElem?_eq_some_iff.mp e).1
structure Dr (b:Nat) (g g':G):Prop where
 bx:Bx g' b
 len:g.length<=g'.length
 kp:∀n,n<g.length->n≠b->g'[n]? = g[n]?
theorem Dr.trans{b:Nat}{g g1 g2:G}(h:Dr b g g1)(k:Dr b g1 g2):Dr b g g2:=⟨k.bx,le_trans h.len k.len,λn h1 hn=>(k.kp n (lt_of_lt_of_le h1 h.len) hn).trans (h.kp n h1 hn)⟩
theorem Dr.set{b:Nat}{g:G}{x n c:Int}(h:b<g.length):Dr b g (g.set b (.pl [.int x,.int n,.int c])):=⟨⟨x,n,c,Zm h⟩,by rw[length_set];exact le_refl _,λm _ hm=>getElem?_set_ne (Ne.symm hm)⟩
theorem ZDj{g:G}{c:Cell}:(g++[c])[g.length]? = some c:=by
 rw[getElem?_append_right (le_refl _),Nat.sub_self];rfl
theorem ZJU{P:Program}{w:World}{K:PySem.W.Frag}{mg:Str->Option Value}{base:Heap}{k:Nat}{f:Addr}{fd:FuncData}{ps:List Str}{r:List W->G->Option (W×G)}(F:FnOk P w K mg base CX0 k f fd ps (spD K 1 r))
  (h:∀ns:List Int,ns.length<=63->∃g',r [.inp ns] []=some (.dat (.bool true),g')):FnOk P w K mg base CX0 k f fd ps (λvs H Q _=>∃(a:Addr) (ns:List Int),vs=[.ref a]/\SqL K H a (ns.map V.int)/\ns.length<=63/\∀H',Q (.bl true) H'):=F.imp λvs H Q E ⟨a,ns,e,hS,hl,q⟩=>by
 subst e;obtain⟨g',eg⟩:=h ns hl;refine⟨rfl,⟨[],[]⟩,[.inp ns],[],.dat (.bool true),g',⟨rfl,List.nodup_nil,λn ds e=>by simp at e,λa z=>by cases z⟩,.cons (.inp ?_) .nil,eg,λv H' ρ' s' h' r'=>?_⟩
 ·rcases hS with z|z
  ·exact .inl ⟨z,λq=>q.elim (λz=>by cases z) λz=>by cases z⟩
  ·exact .inr z
 ·cases r' with
  |dat r' =>
   cases r' with
   |bl b=>exact q H'
theorem ZDJ(ns:List Bool):ZAu (ns.map .bool)=some ns:=by
 induction ns with
 |nil=>rfl
 |cons n ns ih=>rw[map_cons,ZAu,ih];rfl
section
variable{g:G}{P:W->G->Prop}
theorem ZH0{bs:List Bool}(q:P (.dat (.bool (bs.all id))) g):EvP (f1 ZDc [.dat (.list (bs.map .bool))] g) P:=by
 refine p_of ?_ q;show ZDc _ g=_;unfold ZDc;show((ZAu (bs.map .bool)).map _)=_;rw[ZDJ];rfl
end
theorem ZG5(n:Nat):ZCQ n 0=(List.range n).map λj:Nat=>PyData.int (j:Int):=by
 unfold ZCQ;refine List.map_congr_left λj _=>?_
 rw[Int.zero_add]
def ZDM:W->W->G->Option (W×G)
 |.dat (.bool i),.dat (.bool j),g=>some (.dat (.bool !(i == j)),g)
 |_,_,_=>none
section
variable{X:Cx}
theorem ZHs:OpR X (compareOp .IsNot) (rOp X.K ZDM):=by
 intro pins s σ H x y v u Q I rx ry h;obtain⟨ρ,a,b,g,z,g',hR,ra,rb,e,q⟩:=h;cases ra with
 |dat ra =>
  cases rb with
  |dat rb =>
   cases ra with
   |bl i =>
    cases rb with
    |bl j=>cases e;exact ZE7 pins s σ H _ _ v u Q I rx ry ⟨i,j,rfl,rfl,q.at hR (.dat (.bl _))⟩
    |_=>cases e
   |_=>cases e
  |_=>cases ra <;> cases e
 |_=>cases e
def ZKC(K:PySem.W.Frag)(mg:Str->Option Value)(x:Str)(ss:List Str):Prop:=∃a,mg x=some (.ref a)/\KT K a (ss.map V.str)
theorem RelDL.ofStrs{K:PySem.W.Frag}{ρ : Rh}{H:Hp}:∀{ns:List Str},RelDL K ρ H (ns.map V.str) (ns.map .str)
 |[]=>.nil
 |n::ns=>.cons (.str n) RelDL.ofStrs
theorem ZEb{x:Str}{ss:List Str}{pos:Pos}(hg:Gl X x)(h:ZKC X.K X.mg x ss)(hd:(x == ("__debug__" : Str))=false:=by decide):JE X (.Name x pos) (dC (.tuple (ss.map .str))):=by
 obtain⟨a,hm,kt⟩:=h;exact⟨ZEv (ZEG hg hm (v:=.ref a) rfl hd) λ_ _=>.tup (.inr kt) RelDL.ofStrs⟩
end
section
variable{X:Cx}
theorem ZGG{pos:Pos}:PE X (.Dict [] [] pos) (tE X.K (dC (.dict []))):=ZFu.imp λσ H Q ⟨ρ,sd,g,x,g',r,e,q⟩=>by
 cases e;intro p hp;obtain⟨sm,hr2,hn⟩:=ZAC (o:=ZB8 p) r.hr hp;exact q _ _ ρ (.same sm) hr2 (.dat (.dct ZJ hn))
theorem ZEl{pos:Pos}:JE X (.Dict [] [] pos) (dC (.dict [])):=⟨ZGG⟩
end
theorem bT{A B:Prop}(h:A):(true=true->A)/\(true=false->B):=⟨λ_=>h,λz=>by cases z⟩
theorem bF{A B:Prop}(h:B):(false=true->A)/\(false=false->B):=⟨(λz=>by cases z),λ_=>h⟩
def ZAx(K:PySem.W.Frag)(x ql:Str)(st:Stmt)(f:Addr):Prop:=∃fd,Fun K x ql st f fd
theorem fnAt_mk{K:PySem.W.Frag}{x qual:Str}{st:Stmt}{f:Addr}{oc:Value}{od an:Option Addr}{osl:Array (Option Value)}{kV doc pm cdv ct:Value}(l:K.lookup f=some ⟨oc,od,.func (PySem.W.fnOf x qual (ZAa st) (Zv st) (ZF st) .none kV doc pm an cdv ct),osl⟩)
  (c:PySem.W.codeIn K cdv qual=true)(k:PySem.W.keepIn K (.ref f)=true):ZAx K x qual st f:=⟨_,ZFT l c k⟩
theorem ZJn{P:List Value->Prop}{n:Nat}(h:∀a us,us.length=n->P (a::us)):∀us:List Value,us.length=n+1->P us
 |a::us,e=>h a us (Nat.succ.inj e)
theorem ZKA{P:List Value->Prop}(h:∀a,P [a]):∀us:List Value,us.length=1->P us:=ZJn λa us e=>by rw[List.length_eq_zero_iff.mp e];exact h a
theorem ZJ5{P:List Value->Prop}(h:∀a b,P [a,b]):∀us:List Value,us.length=2->P us:=ZJn λa=>ZKA (h a)
theorem len3{P:List Value->Prop}(h:∀a b c,P [a,b,c]):∀us:List Value,us.length=3->P us:=ZJn λa=>ZJ5 (h a)
def tgN0:Expr->List Str
 |.Name x _=>[x]
 |_=>[]
def tgN1:Expr->List Str
 |.Name x _=>[x]
 |.Tuple es _ _=>es.flatMap tgN0
 |_=>[]
def tgN:Expr->List Str
 |.Name x _=>[x]
 |.Tuple es _ _=>es.flatMap tgN1
 |_=>[]
section
variable{X:Cx}{tg elt iter:Expr}{ifs:List Expr}{scope sc:Scope}{pos:Pos}{di:DI}{pt:Pat}{dt:DB}{de:DE}{own:Nat}{cap:List Nat}
theorem ZEj(hc:X.calm=true)(hi:JI X tg iter di)(hb:∀cl C s0 H0 fp,JG (blk X (tgN tg++cap.map λi=>X.N.getD i "") (compEnvC scope cl C X.env) s0 H0 fp) tg pt/\JTs (blk X (tgN tg++cap.map λi=>X.N.getD i "") (compEnvC scope cl C X.env) s0 H0 fp) ifs dt/\JE (blk X (tgN tg++cap.map λi=>X.N.getD i "") (compEnvC scope cl C X.env) s0 H0 fp) elt de)(co:ZCM X.env.scope scope X.N (tgN tg++cap.map λi=>X.N.getD i "") own cap=true)(hp:pt.all (λi=>decide (i<own))=true)(hs:∀x,foldedSetIterable iter X.env x=pure x:=by intro _;rfl):JE X (.ListComp elt [⟨tg,iter,ifs,0⟩] scope pos) (ZAQ own cap pt di dt de):=ZFM hc hi rfl rfl hb co hp hs
theorem ZEm{i:Nat}{x:Str}{py spos:Pos}(hN:X.N.Nodup)(hi:X.N[i]? = some x)(hx:Loc X.env.scope x)(hc:X.calm=true)(hit:JI X tg iter di)(hb:∀cl C s0 H0 fp,JG (blk X (tgN tg++cap.map λi=>X.N.getD i "") (compEnvC scope cl C X.env) s0 H0 fp) tg pt/\JTs (blk X (tgN tg++cap.map λi=>X.N.getD i "") (compEnvC scope cl C X.env) s0 H0 fp) ifs dt/\JE (blk X (tgN tg++cap.map λi=>X.N.getD i "") (compEnvC scope cl C X.env) s0 H0 fp) elt de)(co:ZCM X.env.scope scope X.N (tgN tg++cap.map λi=>X.N.getD i "") own cap=true)(hp:pt.all (λi=>decide (i<own))=true)(hsw:swapsWith (.ListComp elt [⟨tg,iter,ifs,0⟩] scope pos) (some (.Name x py)) spos.line X.env=pure true:=by rfl)(hs:∀x,foldedSetIterable iter X.env x=pure x:=by intro _;rfl)(hf:X.fn x=true∨X.env.scope.names.lookup x=some .local:=by first|exact .inl rfl|exact .inr rfl|assumption):JS X (.Assign [.Name x py] (.ListComp elt [⟨tg,iter,ifs,0⟩] scope pos) spos) (Zs i (ZAQ own cap pt di dt de)):=ZFn hN hi hx hc hit rfl rfl hb co hp hsw hs hf
end
end L2
namespace HT
open PySem PyProof.Rows
open Builtin
theorem tuple_mulE(l:Addr)(items:Array Value)(n:Nat)(dd:Option Addr)(sl:Array (Option Value))(k:Int)(t:Tok)(hc0 : ¬(decide (k < -(2 ^ 63)) || decide (k ≥ 2 ^ 63))=true)(hc1:(items.isEmpty || k == 1)=true) :
  Meets (Builtin.«tuple.__mul__» ⟨[.ref l,.int k t],[]⟩) (λ_ R s=>s.heap.get? l=some { cls:=.type "tuple",dict:=dd,data:=.seq items n,slots:=sl }/\R (.ok (.ret (Value.ref l))) s) :=
 .of_wp λprog w A R s h=>by
  obtain⟨hp,g,d,tk,os⟩:=s;obtain⟨hl,h⟩:=h;have f1:=AutoSeq1.idx_int;have f2:=AutoSeq1.sub_tuple_tuple
  wp_walk using wpAny_loadPart' hl
  rw[if_neg hc0]
  wp_walk using wpAny_loadPart' hl
  exact⟨_,rfl,h⟩
end HT
namespace L2
open PySem PySem.Spec PyProof.Rows H1
section
variable{X:Cx}
theorem ZGq:OpR X (binaryOp .Mult) (λx y H Q=>∃(a:Addr) (k:Int),x=.ref a/\y=.int k/\SqT X.K H a []/\(2<=k/\k<=20)/\Q (.ref a) H):=by
 intro pins s σ H x y v u Q I rx ry h;obtain⟨a,k,rfl,rfl,ha,⟨k2,k20⟩,q⟩:=h;cases rx;obtain⟨t,rfl⟩:=ry;obtain⟨its,r,p1,_⟩:=I.tuple ha;obtain⟨⟨cls,dd,data,sl⟩,ho,hc,n,hd⟩:=id p1;simp only at hc hd;subst hc hd;cases r;refine wpAny_binaryOp_repeat_ref (T:="tuple") (U:="int") (by decide) ⟨_,ho,rfl⟩ (λs'=>typeIs_int s' k t) HT.noFill_tuple_mul F.fills_int_mul F.slot_int_rmul HT.repeat_tuple F.slot_int_index.lookup
  (call_meets F.slot_int_rmul (typeIs_int s k t) F.entry_int_rmul (F.args_int_rmul_2 _ _) (HT.rmul_tup k t a _ n dd sl)
   ⟨ho,rfl,⟨_,ho,rfl⟩,call_meets F.slot_tuple_mul ⟨_,ho,rfl⟩ F.entry_tuple_mul (F.args_tuple_mul_2 _ _) (HT.tuple_mulE a _ n dd sl k t ?_ ?_) ⟨ho,?_⟩⟩)
 ·simp;omega
 ·simp
 exact⟨.ref a,_,I,rfl,q⟩
end
def ZDA:W->W->G->Option (W×G)
 |.dat (.tuple xs),.dat (.int k),g=>if (decide (2<=k) && decide (k<=20))=true/\xs.length<=20 then some (.dat (.tuple (List.replicate k.toNat xs).flatten),g) else none
 |_,_,_=>none
section
variable{X:Cx}
theorem oMulT:OpR X (binaryOp .Mult) (rOp X.K ZDA):=by
 intro pins s σ H x y v u Q I rx ry h;obtain⟨ρ,a,b,g,z,g',hR,ra,rb,e,q⟩:=h;unfold ZDA at e
 split at e
 ·rename_i g0 ds k
  split at e
  ·rename_i hz
   cases e;simp only[Bool.and_eq_true,decide_eq_true_eq] at hz;obtain⟨⟨z1,z2⟩,z4⟩:=hz;cases ra with
   |dat ra=>cases ra with
    |@tup a1 xs ds f1 t1=>cases rb with
     |dat rb=>cases rb with
      |int k =>
       by_cases hx:xs=[]
       ·subst hx
        have t2:=t1.rep k.toNat;have e0:ds=[]:=by cases t1;rfl
        subst e0;have e1:(List.replicate k.toNat ([]:List PyData)).flatten=[]:=by
         rw[List.flatten_eq_nil_iff];intro l hl;exact(List.mem_replicate.mp hl).2
        rw[e1] at q;exact ZGq pins s σ H _ _ v u Q I rx ry ⟨a1,k,rfl,rfl,f1.sq,⟨z1,z2⟩,q.at hR (.dat (.tup f1 t1))⟩
       ·exact ZEM pins s σ H _ _ v u Q I rx ry ⟨a1,k,xs,rfl,rfl,f1.sq,⟨z1,z2⟩,⟨hx,by rw[t1.length];exact z4⟩,λp hp=>q.newT hR (t1.rep _) hp⟩
  ·cases e
 ·cases e
theorem ZFy{tg:Expr}{a b c:Expr}{da:DA}{p pos:Pos}(hg:Gl X "zip")(hm:X.mg "zip" = none)(ha:JA X [a,b,c] da)(hs:starEach [a,b,c] X.env=[(false,eval a X.env),(false,eval b X.env),(false,eval c X.env)]:=by rfl)(hs2:starEach [b,c] X.env=[(false,eval b X.env),(false,eval c X.env)]:=by rfl)(hn:Many da 3):JI X tg (.Call (.Name "zip" p) [a,b,c] [] pos) (ZDn da):=⟨ZGz hg hm ha.h hs hs2 hn⟩
end
section
variable{sd:Sd}{g:G}{P:W->G->Prop}{aa:DA}
theorem ZJo{xs:List PyData}{k:Int}(h:(decide (2<=k) && decide (k<=20))=true/\xs.length<=20)(q:P (.dat (.tuple (List.replicate k.toNat xs).flatten)) g):EvP (ZDA (.dat (.tuple xs)) (.dat (.int k)) g) P:=ZBs h (ZBL q)
end
end L2
namespace HT
open PySem PyProof.Rows PySem.SeqAt MeetsSeq
open AutoSeq1 (wpAny_loadPart')
theorem ZAs(l:Addr)(data:Data)(dd:Option Addr)(sl:Array (Option Value))(b:Str)(u:Tok) :
  Meets (Builtin.«dict.__eq__» ⟨[.ref l,.str b u],[]⟩) (λ_ R s=>s.heap.get? l=some { cls:=.type "dict",dict:=dd,data:=data,slots:=sl }/\R (.ok (.ret .notImplemented)) s) :=
 .of_wp λprog w A R s h=>by obtain⟨hp,g,d,tk,os⟩:=s;obtain⟨hl,h⟩:=h;have f1:=F.sub_str_dict;wp_walk using wpAny_loadPart' hl;exact⟨_,rfl,h⟩
theorem ZAm(b:Str)(u:Tok)(l:Addr)(c:Value)(es:Array DictEntry)(n:Nat)(dd:Option Addr)(sl:Array (Option Value)) :
  Meets (Builtin.«str.__eq__» ⟨[.str b u,.ref l],[]⟩) (λ_ R s=>s.heap.get? l=some { cls:=c,dict:=dd,data:=.dict es n,slots:=sl }/\R (.ok (.ret .notImplemented)) s) :=
 .of_wp λprog w A R s h=>by obtain⟨hp,g,d,tk,os⟩:=s;obtain⟨hl,h⟩:=h;wp_walk using wpAny_loadPart' hl,wpAny_load hl;exact⟨_,rfl,h⟩
section
variable{A:Around}{s:Shared}
theorem ZDe{l:Addr}{o:Obj}{es:Array DictEntry}{n:Nat}(b:Str)(u:Tok)(ho:s.heap.get? l=some o)(hc:o.cls=.type "dict")(hd:o.data=.dict es n)(hu:A.units<cLine):RcAt A s (.ref l) (.str b u) false:=λprog w E Q h=>by
 obtain⟨cls,dd,data,sl⟩:=o;simp only at hc hd;subst hc hd;exact rc_eq_decline_or (k:=false) ⟨_,ho,rfl⟩ (typeIs_str s b u) (by decide) F.sub_str_dict F.slot_dict_eq F.slot_str_eq_refl
  (λ_ hq=>call_meets F.slot_dict_eq ⟨_,ho,rfl⟩ F.entry_dict_eq (F.args_dict_eq_2 _ _) (ZAs l _ dd sl b u) ⟨ho,hq⟩)
  (λ_ hq=>call_meets F.slot_str_eq_refl (typeIs_str s b u) F.entry_str_eq (F.args_str_eq_2 _ _) (ZAm b u l (.type "dict") es n dd sl) ⟨ho,hq⟩)
  (λ_ hq=>wpAny_of_eq (rfl:isSame (.ref l) (.str b u)=pure false) hq) (.inr hu) h
theorem eq_dict_str{l:Addr}{o:Obj}{es:Array DictEntry}{n:Nat}(b:Str)(u:Tok)(ho:s.heap.get? l=some o)(hc:o.cls=.type "dict")(hd:o.data=.dict es n)(hu:A.units<cLine):EqAt A s (.ref l) (.str b u) false:=λprog w E Q h=>by
 unfold eqBool;refine wpAny_holding ?_;refine wpAny_ite_split (λhab=>absurd (eq_of_beq hab) nofun) (λ_=>?_);exact wpAny_bind (ZDe b u ho hc hd hu prog w E _ (wpAny_truthy_bool h))
end
end HT
namespace L2
open PySem PySem.Spec PyProof.Rows H1 PySem.SeqAt
def Zq(x:Str):PyData->Bool
 |.str y=>y == x
 |_=>false
def vEq(x:Str):Value->Bool
 |.str y _=>y == x
 |_=>false
def ZFC:List PyData->Option (List Str)
 |[]=>some []
 |.str s::r=>(ZFC r).map (s::·)
 |_::_=>none
theorem ZES:∀{ds:List PyData} {ss:List Str},ZFC ds=some ss->ds=ss.map .str
 |[],_,e=>by cases e;rfl
 |.str s::r,_,e=>by
  obtain⟨ts,e1,rfl⟩:=mp e;rw[ZES e1];rfl
 |.none::_,_,e=>by cases e
 |.bool _::_,_,e=>by cases e
 |.int _::_,_,e=>by cases e
 |.list _::_,_,e=>by cases e
 |.tuple _::_,_,e=>by cases e
 |.dict _::_,_,e=>by cases e
theorem ZDH:∀{ss:List Str},ZFC (ss.map .str)=some ss
 |[]=>rfl
 |s::r=>by show(ZFC (r.map .str)).map _=_;rw[ZDH];rfl
def eqS(xs:List PyData)(ss:List Str):Bool:=decide (xs.length=ss.length) && (List.range xs.length).all λj=>Zq (ss.getD j "") (xs.getD j .none)
def ZEE:W->W->G->Option (W×G)
 |.dat (.str x),.dat (.tuple ds),g=>some (.dat (.bool (ds.any (Zq x))),g)
 |_,_,_=>none
def ZF5:W->W->G->Option (W×G)
 |.dat (.list xs),.dat (.list ys),g=>(ZFC ys).map λss=>(.dat (.bool (eqS xs ss)),g)
 |_,_,_=>none
section
variable{X:Cx}
theorem ZDZ{pins:List (Addr×Obj)}{σ : St}{ρ : Rh}{H:Hp}{s:Shared}{A:Around}(I:Inv X pins σ H s)(hu:A.units<cLine){v:V}{d:PyData}{u:Value}(r:RelD X.K ρ H v d)(ru:ZW v u)(x:Str)(t:Tok):EqAt A s u (.str x t) (Zq x d)/\vEq x u=Zq x d:=by
 cases r with
 |non=>cases ru;exact⟨EqAt.none_str x t,rfl⟩
 |bl b=>cases ru;exact⟨EqAt.bool_str b x t,rfl⟩
 |int i=>obtain⟨k,rfl⟩:=ru;exact⟨EqAt.int_str i k x t,rfl⟩
 |str y=>obtain⟨k,rfl⟩:=ru;exact⟨EqAt.str_str y k x t,rfl⟩
 |tup h hl =>
  cases ru;obtain⟨its,rv,p,_⟩:=I.tuple h.sq;exact⟨EqAt.tuple_str x t p hu,rfl⟩
 |lst h n hl =>
  cases ru;obtain⟨_,its,n,rv,e⟩:=I.hok _ _ h;exact⟨EqAt.list_str x t ⟨_,e,rfl,_,rfl⟩ hu,rfl⟩
 |dct h n =>
  cases ru;obtain⟨⟨o,h1,h2,es,k,h3⟩,_⟩:=(show Z0 X.prog X.w H s.heap _ (ZB8 _) from I.hok _ _ h);exact⟨HT.eq_dict_str x t h1 h2 h3 hu,rfl⟩
theorem ZDY{pins:List (Addr×Obj)}{σ : St}{ρ : Rh}{H:Hp}{s:Shared}{A:Around}(I:Inv X pins σ H s)(hu:A.units<cLine)(x:Str)(t:Tok):∀{vs:List V} {ds:List PyData} {us:List Value},RelDL X.K ρ H vs ds->ZI vs us->(∀y∈us,EqAt A s y (.str x t) (vEq x y))/\us.any (vEq x)=ds.any (Zq x)
 |_,_,_,.nil,r=>by cases r;exact⟨(λy hy=>by cases hy),rfl⟩
 |_,_,_,.cons h hl,r=>by
  cases r with
  |cons r1 r2 =>
   obtain⟨e1,e2⟩:=ZDZ I hu h r1 x t;obtain⟨e3,e4⟩:=ZDY I hu x t hl r2;refine⟨λy hy=>?_,by rw[List.any_cons,List.any_cons,e2,e4]⟩;rcases List.mem_cons.mp hy with rfl|hy
   ·rw[e2];exact e1
   ·exact e3 y hy
theorem ZIa{ρ : Rh}{H:Hp}:∀{vs:List V} {ds:List PyData} {us:List Value},RelDL X.K ρ H vs ds->ZI vs us->∀j (h:j<us.length),∃v,RelD X.K ρ H v (ds.getD j .none)/\ZW v us[j]
 |_,_,_,.nil,r,j,h=>by cases r;exact absurd h (Nat.not_lt_zero _)
 |_,_,_,.cons h hl,r,j,hj=>by
  cases r with
  |cons r1 r2 =>
   cases j with
   |zero=>exact⟨_,h,r1⟩
   |succ j=>exact ZIa hl r2 j (Nat.lt_of_succ_lt_succ hj)
theorem oInS(hu:X.A.units+64<cLine):OpR X (compareOp .In) (rOp X.K ZEE):=by
 intro pins s σ H x y v u Q I rx ry h;obtain⟨ρ,a,b,g,z,g',hR,ra,rb,e,q⟩:=h;unfold ZEE at e
 split at e
 ·cases e
  cases ra with
  |dat ra=>cases ra with
   |str x0=>cases rb with
    |dat rb=>cases rb with
     |tup f t =>
      obtain⟨k,rfl⟩:=rx
      rename_i x _ _ _
      cases ry;obtain⟨its,rv,p,_⟩:=I.tuple f.sq;obtain⟨e1,e2⟩:=ZDY (A:=X.A.in1) I (by show X.A.units+1<cLine;omega) x k t rv;refine in_tupleAt (vEq x) p (λy hy=>e1 y (by simpa using hy)) ?_;rw[List.any_toArray,e2];exact⟨.bl _,H,I,rfl,q.at hR (.dat (.bl _))⟩
 ·cases e
theorem oEqS(hu:X.A.units+64<cLine):OpR X (compareOp .Eq) (rOp X.K ZF5):=by
 intro pins s σ H x y v u Q I rx ry h;obtain⟨ρ,a,b,g,z,g',hR,ra,rb,e,q⟩:=h;unfold ZF5 at e
 split at e
 ·rename_i xs ys
  obtain⟨ss,e1,e⟩:=mp e;cases e;rw[ZES e1] at rb;cases ra with
  |dat ra=>cases ra with
   |lst h1 n1 t1=>cases rb with
    |dat rb=>cases rb with
     |lst h2 n2 t2 =>
      cases rx;cases ry;obtain⟨_,its,k1,rv,p1⟩:=I.hok _ _ h1;obtain⟨_,its2,k2,rv2,p2⟩:=I.hok _ _ h2;have l1:=rv.length;have l2:=rv2.length;have l3:=t1.length;have l4:=t2.length;rw[length_map] at l4;have hQ:EP X pins σ Q (.bool (eqS _ ss)) s:=⟨.bl _,H,I,rfl,q.at hR (.dat (.bl _))⟩
      by_cases hsz:its.length=its2.length
      ·refine RcAt.lists (e:=λj=>Zq (ss.getD j "") (xs.getD j .none)) ⟨_,p1,rfl,_,rfl⟩ ⟨_,p2,rfl,_,rfl⟩ (by simpa using hsz) (by omega) (λj j1 j2=>?_) X.prog X.w X.xe (EP X pins σ Q) ?_
       ·obtain⟨v1,d1,r1⟩:=ZIa t1 rv j (by simpa using j1)
        obtain⟨v2,d2,r2⟩:=ZIa t2 rv2 j (by simpa using j2);have h9:j<its2.length:=(by simpa using j2);have j3:j<ss.length:=(by omega)
        rw[show(ss.map PyData.str).getD j .none=.str (ss.getD j "") by rw[getD_eq_getElem?_getD,getD_eq_getElem?_getD,getElem?_map,getElem?_eq_getElem j3];rfl] at d2;cases d2;obtain⟨k,e⟩:=r2;have:=(ZDZ (A:=X.A.in1) I (by show X.A.units+1<cLine;omega) d1 r1 (ss.getD j "") k).1;simp only[List.getElem_toArray];rw[e];exact this
       ·unfold eqS at hQ
        rw[decide_eq_true (by omega),Bool.true_and] at hQ;rw[show its.toArray.size=xs.length by simp;omega];exact hQ
      ·refine RcAt.lists_lengths ⟨_,p1,rfl,_,rfl⟩ ⟨_,p2,rfl,_,rfl⟩ (by simpa using hsz) (by omega) X.prog X.w X.xe (EP X pins σ Q) ?_
       unfold eqS at hQ;rw[decide_eq_false (by omega),Bool.false_and] at hQ;exact hQ
 ·cases e
end
end L2
namespace HT
open PySem PyProof.Rows
section
variable{prog:Program}{w:World}{A:Around}{E:Value->Shared->Prop}{s:Shared}
theorem ZEA:∀n:Nat,n<9->Builtin.Slice.sliceAdjust none none (-1) (n:Int)=((n:Int)-1,-1)/\Builtin.Slice.slicePlaces ((n:Int)-1) (-1) (-1)=n/\(List.range n).map (λk:Nat=>(((n:Int)-1)+(k:Int)*(-1)).toNat)=(List.range n).reverse:=by decide +kernel
theorem ZBP{sl:Addr}{t:Tok}{n:Nat}{Q:Int×Int×Nat->Shared->Prop}(hs:s.heap.IsSliceOf sl .none .none (.int (-1) t))(hn:n<9)
  (h:Q ((n:Int)-1,-1,n) s):wpAny (model prog w) A (Builtin.Slice.sliceApplied (.ref sl) (pure (n:Int))) Q E s:=by
 obtain⟨os,hos,hcs,hds⟩:=id hs;obtain⟨a1,a2,_⟩:=ZEA n hn;unfold Builtin.Slice.sliceApplied Builtin.Slice.sliceFields;refine wpAny_bind (wpAny_bind (wpAny_field hos hds (x:=.none) rfl (wpAny_bind (wpAny_field hos hds (x:=.none) rfl (wpAny_bind (wpAny_field hos hds (x:=.int (-1) t) rfl (wpAny_pure ?_)))))));refine wpAny_bind (slicePart_int ?_);show wpAny _ _ (if ((-1:Int) == 0)=true then _ else _) _ _ s;rw[if_neg (by decide)];refine wpAny_bind (slicePart_none (wpAny_bind (slicePart_none (wpAny_bind (wpAny_pure ?_)))));show wpAny _ _ (match Builtin.Slice.sliceAdjust none none (-1) (n:Int) with|(lo,hi)=>pure (lo,(-1:Int),Builtin.Slice.slicePlaces lo hi (-1))) _ _ s;rw[a1];show wpAny _ _ (pure ((n:Int)-1,(-1:Int),Builtin.Slice.slicePlaces ((n:Int)-1) (-1) (-1))) _ _ s;rw[a2];exact wpAny_pure h
theorem getItem_tuple_rev{t sl:Addr}{its:List Value}{k:Tok}{Q:Value->Shared->Prop}(ht:IsTup s.heap t its.toArray)(hs:s.heap.IsSliceOf sl .none .none (.int (-1) k))(h8:its.length<=8)
  (h:Q (.ref s.heap.objs.size) { s with heap:=s.heap.push { cls:=.type "tuple",data:=.seq its.reverse.toArray } }):wpAny (model prog w) A (getItem (.ref t) (.ref sl)) Q E s:=by
 have htake:sizeOk (.seq its.reverse.toArray):=by
  show its.reverse.toArray.size<=sizeLine;rw[size_toArray,List.length_reverse];exact le_trans h8 (by decide)
 obtain⟨os,hos,hcs,hds⟩:=id hs;have hTs:s.TypeIs (.ref sl) "slice":=⟨os,hos,hcs⟩;unfold getItem
 try with_reducible refine wpAny_holding ?_
 first|refine wpAny_bind (wpAny_pure ?_)|skip
 refine wpAny_bind (wpAny_sequenceKey ht.typeIs (by decide) ?_);refine wpAny_bind (wpAny_callSpecial?_slot (name:=Str.ofString "__getitem__") ht.typeIs PyProof.Rows.slot_tuple_getitem
  (wpAny_call_entry PyProof.Rows.slot_tuple_getitem ht.typeIs entry_tuple_getitem ?_ (args_tuple_getitem _ _)))
 show wpAny _ _ (Builtin.Tuple.tupleItemsOf (.ref t) >>= _) _ _ s;refine wpAny_bind (tupleItemsOf_ ht ?_);refine wpAny_bind (wpAny_typeOf hTs ?_);rw[if_pos (by decide)];refine wpAny_bind (ZBP (n:=its.toArray.size) hs (by rw[size_toArray];omega) ?_);show wpAny _ _ (if (((its.toArray.size:Int)-1) == 0 && (-1:Int) == 1 && its.toArray.size == its.toArray.size)=true then _ else _) _ _ s;rw[if_neg (by rw[show((-1:Int) == 1)=false from rfl,Bool.and_false,Bool.false_and];exact Bool.false_ne_true)];have e:((List.range its.toArray.size).filterMap λ(m:Nat)=>its.toArray[(((its.toArray.size:Int)-1)+(m:Int)*(-1)).toNat]?).toArray=its.reverse.toArray:=by
  rw[size_toArray];obtain⟨_,_,a3⟩:=ZEA its.length (by omega);rw[←L2.filt_rev its h8,←a3,List.filterMap_map];rfl
 rw[e]
 first
  |exact wpAny_bind (m:=Builtin.Tuple.tupleExact _) (wpAny_newObj_type (wpAny_pure ⟨_,rfl,wpAny_pure h⟩) htake)
  |exact wpAny_bind (m:=Builtin.Tuple.tupleExact _) (wpAny_newObj_type (wpAny_bind (wpAny_pure (wpAny_pure ⟨_,rfl,wpAny_pure h⟩))) htake)
  |exact wpAny_bind (wpAny_bind (m:=Builtin.Tuple.tupleExact _) (wpAny_newObj_type (wpAny_pure (wpAny_pure ⟨_,rfl,wpAny_pure h⟩)) htake))
  |exact wpAny_bind (wpAny_bind (m:=Builtin.Tuple.tupleExact _) (wpAny_newObj_type (wpAny_pure ⟨_,rfl,wpAny_pure h⟩) htake))
end
end HT
namespace L2
open PySem PySem.Spec PyProof.Rows H1
section
variable{X:Cx}{e m:Expr}{te tm:TE}{d dm:DE}{pos p2:Pos}
theorem ZHD(he:PE X e te)(hm:PE X m tm):PE X (.Subscript e (.Slice none none (some m) p2) pos) (λσ H Q=>te σ H λx H1=>tm σ H1 λy H2=>y=.int (-1)/\∃(a:Addr) (xs:List V),x=.ref a/\SqT X.K H2 a xs/\xs.length<=8/\∀p,H2 p=none->Q (.ref p) (upd H2 p (.tup xs.reverse))):=by
 intro pins s σ H Q I h;refine Subscript_ (thn (he pins s σ H _ I h) λv s1 ⟨x,H1,I1,r1,q1⟩=>?_);refine wpAny_Slice ?_;rw[evalPart_none];refine wpAny_pure (wpAny_pure ?_);rw[evalPart_some];refine thn (hm pins s1 σ H1 _ I1 q1) λvu s3 ⟨y,H3,I3,r3,q3⟩=>?_
 obtain⟨rfl,a,xs,rfl,ha,h8,q⟩:=q3;obtain⟨t,rfl⟩:=r3;cases r1;have I4:Inv X pins σ H3 { s3 with heap:=s3.heap.push { cls:=.type "slice",data:=.fields #[.none,.none,.int (-1) t] } }:=I3.kept (t':=s3.toks) λb ob q=>get?_push_of_some _ q
 obtain⟨its,r,ht,hz⟩:=I4.tuple ha;have hlen:=r.length;show wpAny (model X.prog X.w) X.A (subscriptTail e (.Slice none none (some m) p2) (.ref a) (.ref s3.heap.objs.size)) (EP X pins σ Q) X.xe { s3 with heap:=s3.heap.push { cls:=.type "slice",data:=.fields #[.none,.none,.int (-1) t] } };refine tail_any (ops:=[.ref a,.ref s3.heap.objs.size]) ht.typeIs PyProof.Rows.slot_tuple_getitem.lookup ?_ (by with_unfolding_all rfl);refine HT.getItem_tuple_rev ht (Heap.IsSliceOf.new ..) (by omega) ?_;refine⟨.ref _,_,I4.laid (t':=s3.toks) (o:=.tup xs.reverse) (λb ob q=>get?_push_of_some _ q) (le_refl _) ?_,rfl,q _ (I4.hok.fresh (le_refl _))⟩;exact⟨by rw[List.length_reverse];exact le_trans h8 (by decide),its.reverse,r.reverse,IsTup.new _ _⟩
end
def ZEr(d m:DE):DE:=λsd g=>(d sd g).bind λp=>(m sd p.2).bind λq=>match p.1,q.1 with
 |.dat (.tuple ds),.dat (.int k)=>if k = -1/\ds.length<=8 then some (.dat (.tuple ds.reverse),q.2) else none
 |_,_=>none
theorem RelDL.reverse{K:PySem.W.Frag}{ρ : Rh}{H:Hp}:∀{vs:List V} {ds:List PyData},RelDL K ρ H vs ds->RelDL K ρ H vs.reverse ds.reverse
 |_,_,.nil=>.nil
 |_,_,.cons h t=>by rw[reverse_cons,reverse_cons];exact(RelDL.reverse t).append (.cons h .nil)
section
variable{X:Cx}{e m:Expr}{d dm:DE}{pos p2:Pos}
theorem ZII(he:PE X e (tE X.K d))(hm:PE X m (tE X.K dm)):PE X (.Subscript e (.Slice none none (some m) p2) pos) (tE X.K (ZEr d dm)):=(ZHD he hm).imp λσ H Q ⟨ρ,sd,g,x,g',r,e,q⟩=>by
 obtain⟨⟨y,g1⟩,e1,e⟩:=bnd e;obtain⟨⟨i,g2⟩,e2,e⟩:=bnd e;refine⟨ρ,sd,g,y,g1,r,e1,λv H1 ρ1 s1 h1 r1=>⟨ρ1,sd,g1,i,g2,r.step s1 h1,e2,λu H2 ρ2 s2 h2 r2=>?_⟩⟩;have r1:=r1.mono s2;dsimp only at e
 split at e
 ·split at e
  ·rename_i hz
   cases e;obtain⟨rfl,hz⟩:=hz;cases r2 with
   |dat r2=>cases r2 with
    |int k=>cases r1 with
     |dat r1=>cases r1 with
      |tup f t=>exact⟨rfl,_,_,rfl,f.sq,by rw[t.length];exact hz,λp hp=>(q.step (s1.trans s2)).newT h2 t.reverse hp⟩
  ·cases e
 ·cases e
theorem ZGy(he:JE X e d)(hm:JE X m dm):JE X (.Subscript e (.Slice none none (some m) p2) pos) (ZEr d dm):=⟨ZII he.h hm.h⟩
end
section
variable{sd:Sd}{g:G}{P:W->G->Prop}{d dm:DE}
theorem x_rev(h:EvP (d sd g) λv g1=>∃ds,v=.dat (.tuple ds)/\ds.length<=8/\EvP (dm sd g1) λu g2=>u=.dat (.int (-1))/\P (.dat (.tuple ds.reverse)) g2):EvP (ZEr d dm sd g) P:=by
 obtain⟨v,g1,e1,ds,rfl,hl,u,g2,e2,rfl,h⟩:=h;refine⟨_,_,?_,h⟩;unfold ZEr;rw[e1];show(dm sd g1).bind _=_;rw[e2];exact if_pos ⟨rfl,hl⟩
end
end L2
namespace K08
open PySem PySem.Spec PyProof.Rows L2 H1
def top(i:Nat):Stmt:=PySem.Challenge.pw_hearsaybook_k08_what_rules_are.main.body.getD i (.Pass ⟨0,0,0,0⟩)
abbrev ZAf:List Str:=["thing"]
abbrev Z7:List Str:=["thing","low","high"]
abbrev Zy:List Str:=["thing","length"]
abbrev ZBf:List Str:=["things"]
abbrev ZAY:List Str:=["thing"]
abbrev Zz:List Str:=["thing"]
abbrev ZAG:List Str:=["thing"]
abbrev ZAb:List Str:=["_law_script","_law_k"]
abbrev ZAI:List Str:=["_law_box_here","_law_many"]
abbrev Zo:List Str:=[]
abbrev Z8:List Str:=["_law_box_here"]
abbrev ZAA:List Str:=["_law_thing"]
abbrev Z9:List Str:=["_law_found","_law_due_here"]
abbrev ZAd:List Str:=["_law_thing"]
abbrev Zw:List Str:=["_law_box_here","_law_rules_here"]
set_option genInjectivity false in
set_option genSizeOf false in
structure Adr where
 (fx0 fx1 fx2 fx3 fx4 fx5 fx6 fx7 fx8 fx9 fx10 fx11 fx12 fx13 fx14:Addr)
 (fy0 fy1 fy2 fy3 fy4 fy5 fy6 fy7 fy8 fy9 fy10 fy11 fy12 fy13 fy14:FuncData)
structure Txt (K:PySem.W.Frag) (mg:Str->Option Value) (A:Adr):Prop where
 z_abs:mg "abs" = none
 z_all:mg "all" = none
 z_bool:mg "bool" = none
 z_int:mg "int" = none
 z_isinstance:mg "isinstance" = none
 z_len:mg "len" = none
 z_list:mg "list" = none
 z_min:mg "min" = none
 z_range:mg "range" = none
 z_str:mg "str" = none
 z_tuple:mg "tuple" = none
 z_zip:mg "zip" = none
 g_MOST_OTHERS:ZDt mg "MOST_OTHERS" 3
 g_MOST_WAIT:ZDt mg "MOST_WAIT" 9
 g_MOST_TOLD:ZDt mg "MOST_TOLD" 9
 g_MOST_CARRY:ZDt mg "MOST_CARRY" 8
 g_CLAUSES:ZKC K mg "CLAUSES" ["about","again","newer","others","own","refute","wait"]
 fz0:Def K mg "is_whole" (top 1) ZAf A.fx0 A.fy0
 fz1:Def K mg "is_between" (top 2) Z7 A.fx1 A.fy1
 fz2:Def K mg "is_tuple_of" (top 3) Zy A.fx2 A.fy2
 fz3:Def K mg "rises" (top 4) ZBf A.fx3 A.fy3
 fz4:Def K mg "is_rules" (top 11) ZAY A.fx4 A.fy4
 fz5:Def K mg "are_clauses" (top 12) Zz A.fx5 A.fy5
 fz6:Def K mg "is_clause" (top 13) ZAG A.fx6 A.fy6
 fz7:Def K mg "_law_box" (top 15) ZAb A.fx7 A.fy7
 fz8:Def K mg "_law_take" (top 16) ZAI A.fx8 A.fy8
 fz9:Def K mg "_law_clauses" (top 17) Zo A.fx9 A.fy9
 fz10:Def K mg "_law_rules" (top 18) Z8 A.fx10 A.fy10
 fz11:Def K mg "_law_whole" (top 19) ZAA A.fx11 A.fy11
 fz12:Def K mg "_law_truth" (top 20) Z9 A.fx12 A.fy12
 fz13:Def K mg "_law_due" (top 21) ZAd A.fx13 A.fy13
 fz14:Def K mg "_law_spoilt" (top 22) Zw A.fx14 A.fy14
section
variable{a0 a1 a2 a3 a4 a5 a6 a7:W}{g:G}{P:W->G->Prop}
@[reducible] noncomputable def ZA9:DS :=
 (ZP (ZAj (dF ZBi (ZA (ZB 0) (ZA (λ_ g=>some (.ty "int",g)) ZE))) (ZCf (dF ZBi (ZA (ZB 0) (ZA (λ_ g=>some (.ty "bool",g)) ZE))))))
@[irreducible] noncomputable def Zk:List W->G->Option (W×G):=ZAN 1 ZA9
theorem ZDW(h:EvS (ZA9 [some a0] g) (runP P)):EvP (Zk [a0] g) P:=by
 unfold Zk;exact Zj h
@[reducible] noncomputable def ZAV:DS :=
 (ZP (ZAj (dF Zk (ZA (ZB 0) ZE)) (ZAM ZE5 ZE5 (ZB 1) (ZB 0) (ZB 2))))
@[irreducible] noncomputable def ZK:List W->G->Option (W×G):=ZAN 3 ZAV
theorem ZCT(h:EvS (ZAV [some a0,some a1,some a2] g) (runP P)):EvP (ZK [a0,a1,a2] g) P:=by
 unfold ZK;exact Zj h
@[reducible] noncomputable def ZAK:DS :=
 (ZP (ZAj (dF ZBi (ZA (ZB 0) (ZA (λ_ g=>some (.ty "tuple",g)) ZE))) (dOp ZJL (dF (f1 ZGS) (ZA (ZB 0) ZE)) (ZB 1))))
@[irreducible] noncomputable def ZS:List W->G->Option (W×G):=ZAN 2 ZAK
theorem ZCD(h:EvS (ZAK [some a0,some a1] g) (runP P)):EvP (ZS [a0,a1] g) P:=by
 unfold ZS;exact Zj h
@[reducible] noncomputable def ZCr:DS :=
 (ZP (dF (f1 ZDc) (ZA (ZAQ 2 [] (.tp (.cons (.nm 0) (.cons (.nm 1) .nil))) (ZDd (ZA (ZB 0) (ZA (dSl (ZB 0) (Z3 (dC (.int 1))) ZY) ZE))) ZFi (dOp ZJO (ZB 0) (ZB 1))) ZE)))
@[irreducible] noncomputable def ZAW:List W->G->Option (W×G):=ZAN 1 ZCr
theorem ZFj(h:EvS (ZCr [some a0] g) (runP P)):EvP (ZAW [a0] g) P:=by
 unfold ZAW;exact Zj h
@[reducible] noncomputable def ZAt:DS :=
 (ZP (ZAj (dF ZBi (ZA (ZB 0) (ZA (λ_ g=>some (.ty "str",g)) ZE))) (dOp ZEE (ZB 0) (dC (.tuple ((["about","again","newer","others","own","refute","wait"]:List Str).map .str))))))
@[irreducible] noncomputable def Zg:List W->G->Option (W×G):=ZAN 1 ZAt
theorem ZDG(h:EvS (ZAt [some a0] g) (runP P)):EvP (Zg [a0] g) P:=by
 unfold Zg;exact Zj h
@[reducible] noncomputable def ZAL:DS :=
 (ZZ (ZA7 (ZBM (dB (dF ZBi (ZA (ZB 0) (ZA (λ_ g=>some (.ty "tuple",g)) ZE)))))
 (ZP (dC (.bool false)))
 dNx)
 (ZP (ZAj (dF (f1 ZDc) (ZA (ZAQ 1 [] (.nm 0) (ZDy (ZB 0)) ZFi (dF Zg (ZA (ZB 0) ZE))) ZE)) (dF ZAW (ZA (ZB 0) ZE)))))
@[irreducible] noncomputable def ZU:List W->G->Option (W×G):=ZAN 1 ZAL
theorem ZCB(h:EvS (ZAL [some a0] g) (runP P)):EvP (ZU [a0] g) P:=by
 unfold ZU;exact Zj h
@[reducible] noncomputable def ZA5:DS :=
 (ZZ (ZA7 (ZBM (dB (dF ZS (ZA (ZB 0) (ZA (dC (.int 5)) ZE)))))
 (ZP (dC (.bool false)))
 dNx)
 (ZZ (ZEZ (.tp (.cons (.nm 1) (.cons (.nm 2) (.cons (.nm 3) (.cons (.nm 4) (.cons (.nm 5) .nil)))))) (ZB 0))
 (ZZ (ZA7 (ZBM (ZDf (dB (dF ZK (ZA (ZB 1) (ZA (dC (.int 0)) (ZA (dC (.int 3)) ZE))))) (dB (dF ZK (ZA (ZB 2) (ZA (dC (.int 1)) (ZA (dC (.int 9)) ZE)))))))
 (ZP (dC (.bool false)))
 dNx)
 (ZZ (ZA7 (ZBM (ZDf (dB (dF ZK (ZA (ZB 3) (ZA (dC (.int 0)) (ZA (dC (.int 9)) ZE))))) (dB (dF ZK (ZA (ZB 4) (ZA (dC (.int 0)) (ZA (dC (.int 8)) ZE)))))))
 (ZP (dC (.bool false)))
 dNx)
 (ZP (dF ZU (ZA (ZB 5) ZE)))))))
@[irreducible] noncomputable def ZV:List W->G->Option (W×G):=ZAN 6 ZA5
theorem ZDN(h:EvS (ZA5 [some a0,none,none,none,none,none] g) (runP P)):EvP (ZV [a0] g) P:=by
 unfold ZV;exact Zj h
@[reducible] noncomputable def ZA6:DS :=
 (ZZ (Zs 2 (dIf (dB (dOp ZJO (ZB 1) (dF (f1 ZGS) (ZA (ZB 0) ZE)))) (dOp Z4 (ZB 0) (ZB 1)) (dC (.int 0))))
 (ZZ (Zs 3 (dOp ZA0 (dF (f1 ZJu) (ZA (ZB 2) ZE)) (dF (f1 ZJx) (ZA (dOp ZJ8 (dF (f1 ZJu) (ZA (ZB 2) ZE)) (dC (.int 1000000000000000000))) ZE))))
 (ZP (dF ZF3 (ZA (ZB 3) (ZA (dOp ZAT (dOp ZA0 (dOp ZO (dOp ZO (dOp ZAT (ZB 2) (dC (.int 2147483629))) (dOp ZA0 (dOp ZA0 (dC (.int 7919)) (ZB 1)) (ZB 1))) (dC (.int 11))) (dC (.int 48271))) (dC (.int 2147483647))) (ZA (dC (.int 0)) ZE)))))))
@[irreducible] noncomputable def Zl:List W->G->Option (W×G):=ZAN 4 ZA6
theorem ZDQ(h:EvS (ZA6 [some a0,some a1,none,none] g) (runP P)):EvP (Zl [a0,a1] g) P:=by
 unfold Zl;exact Zj h
@[reducible] noncomputable def ZAl:DS :=
 (ZZ (ZDU (ZB 0) (dC (.int 2)) (dOp ZO (dOp Z4 (ZB 0) (dC (.int 2))) (dC (.int 1))))
 (ZZ (ZA7 (ZDf (dB (dOp ZGm (dOp Z4 (ZB 0) (dC (.int 0))) (dC (.int 0)))) (dB (dOp ZE5 (dOp Z4 (ZB 0) (dC (.int 2))) (dC (.int 60)))))
 (ZZ (Zs 2 (dOp ZAT (dOp Z4 (ZB 0) (dC (.int 0))) (ZB 1)))
 (ZZ (ZDU (ZB 0) (dC (.int 0)) (dOp ZB2 (dOp Z4 (ZB 0) (dC (.int 0))) (ZB 1)))
 (ZP (ZB 2))))
 dNx)
 (ZZ (ZDU (ZB 0) (dC (.int 1)) (dOp ZAT (dOp ZO (dOp ZO (dOp ZA0 (dOp Z4 (ZB 0) (dC (.int 1))) (dC (.int 48271))) (dC (.int 12345))) (dOp Z4 (ZB 0) (dC (.int 2)))) (dC (.int 2147483647))))
 (ZP (dOp ZAT (dOp ZB2 (dOp ZAT (dOp ZA0 (dOp Z4 (ZB 0) (dC (.int 1))) (dOp ZO (dOp ZAT (dOp Z4 (ZB 0) (dC (.int 1))) (dC (.int 40009))) (dC (.int 3)))) (dC (.int 2147483629))) (dC (.int 7))) (ZB 1))))))
@[irreducible] noncomputable def ZG:List W->G->Option (W×G):=ZAN 3 ZAl
theorem ZC1(h:EvS (ZAl [some a0,some a1,none] g) (runP P)):EvP (ZG [a0,a1] g) P:=by
 unfold ZG;exact Zj h
@[reducible] noncomputable def ZAD:DS :=
 (ZP (dF ZBa (ZA (dC (.str "about")) (ZA (dC (.str "again")) (ZA (dC (.str "newer")) (ZA (dC (.str "others")) (ZA (dC (.str "own")) (ZA (dC (.str "refute")) (ZA (dC (.str "wait")) ZE)))))))))
@[irreducible] noncomputable def ZL:List W->G->Option (W×G):=ZAN 0 ZAD
theorem ZBZ(h:EvS (ZAD [] g) (runP P)):EvP (ZL [] g) P:=by
 unfold ZL;exact Zj h
@[reducible] noncomputable def ZAZ:DS :=
 (ZZ (Zs 1 (dF ZL ZE))
 (ZZ (ZA7 (dB (dOp ZGm (dF ZG (ZA (ZB 0) (ZA (dC (.int 3)) ZE))) (dC (.int 0))))
 (Zs 1 (ZAQ 1 [0] (.nm 0) (ZDy (ZB 1)) (dB (dOp ZGm (dF ZG (ZA (ZB 1) (ZA (dC (.int 3)) ZE))) (dC (.int 0)))) (ZB 0)))
 dNx)
 (ZZ (Zs 2 (dF ZAE (ZA (dF ZG (ZA (ZB 0) (ZA (dC (.int 4)) ZE))) (ZA (dOp ZO (dC (.int 1)) (dF ZG (ZA (ZB 0) (ZA (dC (.int 9)) ZE)))) (ZA (dF ZG (ZA (ZB 0) (ZA (dC (.int 10)) ZE))) (ZA (dF ZG (ZA (ZB 0) (ZA (dC (.int 9)) ZE))) ZE))))))
 (ZP (dOp ZO (ZB 2) (dF ZAE (ZA (dF (f1 ZIt) (ZA (ZB 1) ZE)) ZE)))))))
@[irreducible] noncomputable def Zc:List W->G->Option (W×G):=ZAN 3 ZAZ
theorem ZCN(h:EvS (ZAZ [some a0,none,none] g) (runP P)):EvP (Zc [a0] g) P:=by
 unfold Zc;exact Zj h
@[reducible] noncomputable def ZAX:DS :=
 (ZP (ZAj (dF ZBi (ZA (ZB 0) (ZA (λ_ g=>some (.ty "int",g)) ZE))) (ZCf (dF ZBi (ZA (ZB 0) (ZA (λ_ g=>some (.ty "bool",g)) ZE))))))
@[irreducible] noncomputable def Za:List W->G->Option (W×G):=ZAN 1 ZAX
theorem ZCY(h:EvS (ZAX [some a0] g) (runP P)):EvP (Za [a0] g) P:=by
 unfold Za;exact Zj h
@[reducible] noncomputable def ZAe:DS :=
 (ZP (ZAj (dF ZBi (ZA (ZB 0) (ZA (λ_ g=>some (.ty "bool",g)) ZE))) (dOp ZJL (ZB 0) (ZB 1))))
@[irreducible] noncomputable def Zd:List W->G->Option (W×G):=ZAN 2 ZAe
theorem ZCa(h:EvS (ZAe [some a0,some a1] g) (runP P)):EvP (Zd [a0,a1] g) P:=by
 unfold Zd;exact Zj h
@[reducible] noncomputable def ZBA:DS :=
 (ZZ (ZA7 (dOr (ZBM (dB (dF ZBi (ZA (ZB 0) (ZA (λ_ g=>some (.ty "tuple",g)) ZE))))) (dOr (dB (dOp ZJ6 (dF (f1 ZGS) (ZA (ZB 0) ZE)) (dC (.int 5)))) (ZBM (dB (dF ZBi (ZA (dOp Z4 (ZB 0) (dC (.int 4))) (ZA (λ_ g=>some (.ty "tuple",g)) ZE)))))))
 (ZP (dC (.bool false)))
 dNx)
 (ZZ (ZDu (.tp (.cons (.nm 1) (.cons (.nm 2) (.cons (.nm 3) .nil)))) (ZDn (ZA (dSl (ZB 0) ZY (Z3 (dC (.int 4)))) (ZA (dF ZAE (ZA (dC (.int 0)) (ZA (dC (.int 1)) (ZA (dC (.int 0)) (ZA (dC (.int 0)) ZE))))) (ZA (dF ZAE (ZA (dC (.int 3)) (ZA (dC (.int 9)) (ZA (dC (.int 9)) (ZA (dC (.int 8)) ZE))))) ZE))))
 (ZA7 (dOr (ZBM (dB (dF Za (ZA (ZB 1) ZE)))) (ZBM (dB (ZAM ZE5 ZE5 (ZB 2) (ZB 1) (ZB 3)))))
 (ZP (dC (.bool false)))
 dNx))
 (ZP (dOp ZF5 (dF (f1 ZHo) (ZA (dOp Z4 (ZB 0) (dC (.int 4))) ZE)) (ZAQ 1 [0] (.nm 0) (ZDy (dF ZL ZE)) (dB (dOp ZEE (ZB 0) (dOp Z4 (ZB 1) (dC (.int 4))))) (ZB 0))))))
@[irreducible] noncomputable def Zb:List W->G->Option (W×G):=ZAN 4 ZBA
theorem ZBW(h:EvS (ZBA [some a0,none,none,none] g) (runP P)):EvP (Zb [a0] g) P:=by
 unfold Zb;exact Zj h
@[reducible] noncomputable def ZAJ:DS :=
 (ZZ (Zs 2 (dF ZBa (ZA (dUn ZJX (dC (.int 1))) (ZA (dC (.int 0)) (ZA (dC (.int 1)) (ZA (dC (.int 3)) (ZA (dC (.int 4)) (ZA (dC (.int 8)) (ZA (dC (.int 9)) (ZA (dC (.int 10)) (ZA (dC (.bool true)) (ZA (dC (.bool false)) (ZA (dC (.str "1")) (ZA (dC .none) (ZA (dF ZAE (ZA (dC (.int 1)) ZE)) (ZA (dF ZAE ZE) ZE))))))))))))))))
 (ZZ (Zs 3 (dOp Z4 (ZB 2) (dF ZG (ZA (ZB 0) (ZA (dC (.int 14)) ZE)))))
 (ZZ (Zs 4 (dF ZG (ZA (ZB 0) (ZA (dC (.int 5)) ZE))))
 (ZZ (Zs 5 (dOp Z4 (ZB 1) (dC (.int 4))))
 (ZZ (Zs 6 (dF ZBa (ZA (dC (.str "about")) (ZA (dC (.str "wait")) (ZA (dC (.str "none")) (ZA (dC (.str "")) (ZA (dC (.str "Own")) (ZA (dC .none) (ZA (dC (.int 5)) (ZA (dF ZAE (ZA (dC (.str "own")) ZE)) (ZA (dC (.str "others")) (ZA (dF ZBa ZE) (ZA (dC (.dict [])) (ZA (dF ZBa (ZA (dC (.str "own")) ZE)) ZE))))))))))))))
 (ZZ (Zs 7 (dOp Z4 (ZB 6) (dF ZG (ZA (ZB 0) (ZA (dC (.int 12)) ZE)))))
 (ZZ (Zs 8 (dF ZBa (ZA (dOp ZO (dOp ZO (dSl (ZB 1) ZY (Z3 (ZB 4))) (dF ZAE (ZA (ZB 3) ZE))) (dSl (ZB 1) (Z3 (dOp ZO (ZB 4) (dC (.int 1)))) ZY)) (ZA (dOp ZO (dSl (ZB 1) ZY (Z3 (ZB 4))) (dSl (ZB 1) (Z3 (dOp ZO (ZB 4) (dC (.int 1)))) ZY)) (ZA (dOp ZO (ZB 1) (dF ZAE (ZA (ZB 3) ZE))) (ZA (dF (f1 ZHo) (ZA (ZB 1) ZE)) ZE))))))
 (ZZ (Zs 8 (dOp ZO (ZB 8) (dF ZBa (ZA (dOp ZO (dSl (ZB 1) ZY (Z3 (dC (.int 4)))) (dF ZAE (ZA (dOp ZO (ZB 5) (dF ZAE (ZA (ZB 7) ZE))) ZE))) (ZA (dOp ZO (dSl (ZB 1) ZY (Z3 (dC (.int 4)))) (dF ZAE (ZA (dOp ZO (dF ZAE (ZA (ZB 7) ZE)) (ZB 5)) ZE))) (ZA (dOp ZO (dSl (ZB 1) ZY (Z3 (dC (.int 4)))) (dF ZAE (ZA (ZEr (ZB 5) (dUn ZJX (dC (.int 1)))) ZE))) ZE))))))
 (ZZ (Zs 8 (dOp ZO (ZB 8) (dF ZBa (ZA (dOp ZO (dSl (ZB 1) ZY (Z3 (dC (.int 4)))) (dF ZAE (ZA (dF (f1 ZHo) (ZA (ZB 5) ZE)) ZE))) (ZA (dOp ZO (dSl (ZB 1) ZY (Z3 (dC (.int 4)))) (dF ZAE (ZA (dOp ZDA (ZB 5) (dC (.int 2))) ZE))) (ZA (dOp ZO (dSl (ZB 1) ZY (Z3 (dC (.int 4)))) (ZB 5)) (ZA (dF ZAE (ZA (ZB 1) ZE)) (ZA (ZB 3) (ZA (ZB 7) ZE)))))))))
 (ZP (dOp Z4 (dOp ZO (ZB 8) (dF ZBa (ZA (dOp ZO (dSl (ZB 1) ZY (Z3 (dC (.int 4)))) (dF ZAE (ZA (dC (.str "own")) ZE))) (ZA (dC (.dict [])) (ZA (dF ZBa ZE) (ZA (ZEr (ZB 1) (dUn ZJX (dC (.int 1)))) ZE)))))) (dF ZG (ZA (ZB 0) (ZA (dC (.int 17)) ZE))))))))))))))
@[irreducible] noncomputable def ZT:List W->G->Option (W×G):=ZAN 9 ZAJ
theorem ZB6(h:EvS (ZAJ [some a0,some a1,none,none,none,none,none,none,none] g) (runP P)):EvP (ZT [a0,a1] g) P:=by
 unfold ZT;exact Zj h
@[reducible] noncomputable def ZFF:DS :=
 (ZZ (ZDu (.nm 1) (ZBS (ZA (dOp ZO (dC (.int 1)) (dF ZJ4 (ZA (dC (.int 20)) (ZA (dF (f1 ZGS) (ZA (ZB 0) ZE)) ZE)))) ZE))
 (ZZ (Zs 2 (dF Zl (ZA (ZB 0) (ZA (ZB 1) ZE))))
 (ZZ (Zs 3 (dF Zc (ZA (ZB 2) ZE)))
 (ZZ (ZA7 (dB (dOp ZDM (dF ZV (ZA (ZB 3) ZE)) (dC (.bool true))))
 (ZP (dC (.bool false)))
 dNx)
 (ZDu (.nm 4) (ZBS (ZA (dC (.int 6)) ZE))
 (ZZ (Zs 5 (dF ZT (ZA (ZB 2) (ZA (ZB 3) ZE))))
 (ZA7 (ZBM (dB (dF Zd (ZA (dF ZV (ZA (ZB 5) ZE)) (ZA (dF Zb (ZA (ZB 5) ZE)) ZE)))))
 (ZP (dC (.bool false)))
 dNx)))))))
 (ZP (dC (.bool true))))
@[irreducible] noncomputable def ZCE:List W->G->Option (W×G):=ZAN 6 ZFF
theorem ZJq(h:EvS (ZFF [some a0,none,none,none,none,none] g) (runP P)):EvP (ZCE [a0] g) P:=by
 unfold ZCE;exact Zj h
end
local macro_rules
 | `(tactic| symm) => `(tactic| repeat (first
  | with_reducible (first
   | refine ZJg ?_ | refine x_nil ?_ | refine x_c ?_ | refine ZJ0 ?_ | refine x_f ?_ | refine as_b ?_ | refine x_b ?_ | refine ZBm ?_ | refine x_seq ?_ | refine ZH4 ?_ | refine x_ifS ?_ | refine x_and ?_ | refine x_or ?_ | refine x_not ?_
   | refine ZJM ?_ | refine as_i ?_ | refine x_asg ?_ | refine x_ret ?_ | refine x_drop ?_ | refine x_for ?_ | refine ZGv ?_ | refine x_retN ?_
   | refine x_un ?_ | refine ZJl ?_ | refine x_orV ?_ | refine ZBq ?_ | refine x_if ?_ | refine ZHi ?_
   | refine x_sl ?_ | refine ZFx ?_ | refine ZJH ?_ | refine ZJi ?_ | refine ZIC ?_ | refine x_ienum ?_ | refine ZJR ?_ | refine x_app ?_ | refine x_sto ?_ | refine x_augS ?_ | refine x_make ?_ | refine x_fld ?_ | refine x_fldS ?_ | refine x_meth ?_ | refine x_tupR ?_ | refine x_par ?_ | refine x_par3 ?_ | refine x_pick ?_ | refine x_ext ?_ | refine x_ins ?_)
  | ((with_reducible refine x_var ?_ ?_); exact rfl)
  | refine ZIr ?_ | refine run_nx ?_ | refine Exists.intro _ (And.intro rfl ?_)
  | refine Exists.intro _ (Exists.intro _ (Exists.intro _ (And.intro rfl (And.intro (by assumption) (And.intro rfl ?_)))))
  | refine Exists.intro _ (Exists.intro _ (Exists.intro _ (And.intro rfl (And.intro (by assumption) (And.intro (of_decide_eq_true rfl) (And.intro rfl ?_))))))
  | refine Exists.intro _ (Exists.intro _ (And.intro rfl (And.intro (by assumption) ?_)))
  | refine And.intro (isL_of (by assumption)) ?_ | refine And.intro (isL_of ZDj) ?_ | refine ZBL ?_ | refine ZJC ?_))
theorem ZGu(n:Nat)(lo:Int):(ZCQ n lo).length=n:=by unfold ZCQ;rw[length_map,length_range]
theorem Zx{b:Nat}{m:Int}{g:G}{P:W->G->Prop}(hb:Bx g b)(h0 : 0<m)(h1:m<2 ^ 62)(q:∀d g',0<=d->d<m->Dr b g g'->P (.dat (.int d)) g'):EvP (ZG [.ref b,.dat (.int m)] g) P:=by
 have hl:=hb.lt;obtain⟨x,n,c,e⟩:=hb;have hl2:∀{y:Cell},b<(g.set b y).length:=λ{y}=>by rw[length_set];exact hl
 refine ZC1 ?_;symm;refine ZBI e rfl ?_;symm;refine⟨_,e,?_⟩;symm;have go:∀rest:DS,EvS (ZZ (ZDU (ZB 0) (dC (.int 1)) (dOp ZAT (dOp ZO (dOp ZO (dOp ZA0 (dOp Z4 (ZB 0) (dC (.int 1))) (dC (.int 48271))) (dC (.int 12345))) (dOp Z4 (ZB 0) (dC (.int 2)))) (dC (.int 2147483647)))) (ZP (dOp ZAT (dOp ZB2 (dOp ZAT (dOp ZA0 (dOp Z4 (ZB 0) (dC (.int 1))) (dOp ZO (dOp ZAT (dOp Z4 (ZB 0) (dC (.int 1))) (dC (.int 40009))) (dC (.int 3)))) (dC (.int 2147483629))) (dC (.int 7))) (ZB 1))) [some (.ref b),some (.dat (.int m)),none] (g.set b (.pl [.int x,.int n,.int (c+1)]))) (runP P):=λ_=>by
  symm;refine ZBI (Zm hl) rfl ?_;symm;refine ZBh (ZA8 (by decide)) ?_;symm;refine ZBI (Zm hl) rfl ?_;symm;refine⟨_,Zm hl,?_⟩;symm
  generalize (n*48271+12345+(c+1)) % 2147483647=z
  refine ZBI (Zm hl2) rfl ?_;symm;refine ZBI (Zm hl2) rfl ?_;symm;have w0:=Int.emod_nonneg z (show(40009:Int)≠0 by decide);have w1:=Int.emod_lt_of_pos z (show(0:Int)<40009 by decide);refine ZBh (ZA8 (by omega)) ?_;symm;refine ZH3 h0 ?_;symm;refine q _ _ (Int.emod_nonneg _ (by omega)) (Int.emod_lt_of_pos _ h0) ?_;rw[set_set];exact .set hl
 refine ZBI (Zm hl) rfl ?_;symm;refine⟨λh1=>?_,λh1=>⟨(λz=>by cases z),λ_=>ZGv (ZBm (go dNx))⟩⟩;symm;refine ZBI (Zm hl) rfl ?_;symm;refine⟨λh2=>?_,λh2=>ZGv (ZBm (go dNx))⟩;symm;refine ZBI (Zm hl) rfl ?_;symm;refine ZH3 h0 ?_;symm;refine ZBI (Zm hl) rfl ?_;symm;refine y_div h0 (by omega) ?_;symm;refine⟨_,Zm hl,?_⟩;symm;refine q _ _ (Int.emod_nonneg _ (by omega)) (Int.emod_lt_of_pos _ h0) ?_;rw[set_set];exact .set hl
theorem ZIK{ns:List Int}{k:Int}{g:G}{P:W->G->Prop}(hk : 0<=k/\k<=100)(q:∀g',g'.length=g.length+1->(∀n,n<g.length->g'[n]? = g[n]?)->Bx g' g.length->P (.ref g.length) g'):EvP (Zl [.inp ns,.dat (.int k)] g) P:=by
 refine ZDQ ?_;symm;refine⟨λhx=>?_,λhx=>?_⟩
 ·have hk2:k.toNat<ns.length:=by have:=of_decide_eq_true hx;omega
  symm;refine ZD0 (y:=ns.getD k.toNat 0) (x:=.dat (.int (ns.getD k.toNat 0))) (g:=g) (by have:=ZED (xs:=ns) (j:=k.toNat) (v:=ns.getD k.toNat 0) (by rw[getD_eq_getElem?_getD,getElem?_eq_getElem hk2];rfl);rwa [Int.toNat_of_nonneg hk.1] at this) rfl ?_
  generalize ns.getD k.toNat 0=c
  symm;refine ZBh (ZA8 (ib1 _)) ?_;symm;refine ZBh (ZA8 (by omega)) ?_;symm;refine ZBh (ZA8 (by decide)) ?_;symm;exact q _ (by simp) (λn hn=>getElem?_append_left hn) ⟨_,_,_,ZDj⟩
 ·symm
  refine ZBh (ZA8 (by omega)) ?_;symm;refine ZBh (ZA8 (by decide)) ?_;symm;exact q _ (by simp) (λn hn=>getElem?_append_left hn) ⟨_,_,_,ZDj⟩
theorem ZBx{g:G}{P:W->G->Prop}(q:P (.dat (.list (Zh.map .str))) g):EvP (ZL [] g) P:=by
 refine ZBZ ?_;symm;exact q
theorem ZFO{b:Nat}{g:G}{P:W->G->Prop}(hb:Bx g b)(q:∀r g',RuOk r->r.cl.Sublist Zh->Dr b g g'->P (.dat (ruD r)) g'):EvP (Zc [.ref b] g) P:=by
 refine ZCN ?_;have fin:∀(cl:List Str) (gx:G),Dr b g gx->cl.Sublist Zh->EvS (ZZ (Zs 2 (dF ZAE (ZA (dF ZG (ZA (ZB 0) (ZA (dC (.int 4)) ZE))) (ZA (dOp ZO (dC (.int 1)) (dF ZG (ZA (ZB 0) (ZA (dC (.int 9)) ZE)))) (ZA (dF ZG (ZA (ZB 0) (ZA (dC (.int 10)) ZE))) (ZA (dF ZG (ZA (ZB 0) (ZA (dC (.int 9)) ZE))) ZE)))))) (ZP (dOp ZO (ZB 2) (dF ZAE (ZA (dF (f1 ZIt) (ZA (ZB 1) ZE)) ZE)))) [some (.ref b),some (.dat (.list (cl.map .str))),none] gx) (runP P):=λcl gx Dx hcl=>by
  symm;refine Zx Dx.bx (by decide) (by decide) λd1 g1 l1 u1 D1=>?_
  symm;refine Zx D1.bx (by decide) (by decide) λd2 g2 l2 u2 D2=>?_
  symm;refine Zx D2.bx (by decide) (by decide) λd3 g3 l3 u3 D3=>?_
  symm;refine Zx D3.bx (by decide) (by decide) λd4 g4 l4 u4 D4=>?_
  have DD:=Dx.trans (D1.trans (D2.trans (D3.trans D4)));symm;exact q ⟨d1,1+d2,d3,d4,cl⟩ _ ⟨⟨l1,by show d1<=3;omega⟩,⟨by show 1<=1+d2;omega,by show 1+d2<=9;omega⟩,⟨l3,by show d3<=9;omega⟩,⟨l4,by show d4<=8;omega⟩,hcl.length_le⟩ hcl DD
 symm;refine ZBx ?_;symm;refine Zx hb (by decide) (by decide) λd1 g1 l1 u1 D1=>?_
 symm;refine⟨λhp=>?_,λhp=>ZGv (ZBm (fin Zh _ D1 (List.Sublist.refl _)))⟩;refine ZH4 ?_;symm;refine⟨by decide,?_⟩;refine ZF8 (λgx=>Dr b g gx) (λi acc=>∃l:List Str,acc=l.map .str/\l.Sublist (Zh.take i)) D1 ⟨[],rfl,List.Sublist.refl _⟩ ?_ ?_
 ·rintro i x gx acc hx Dx ⟨l,rfl,hl⟩
  rw[getElem?_map] at hx;obtain⟨s,hs,rfl⟩:=mp hx;have hsn:(l++[s]).Sublist (Zh.take (i+1)):=by
   rw[List.take_add_one,hs];exact hl.append (List.Sublist.refl _)
  have hsk:l.Sublist (Zh.take (i+1)):=hl.trans (List.take_sublist_take_left (Nat.le_succ i));refine⟨_,by rw[Ze],?_⟩;symm;refine Zx Dx.bx (by decide) (by decide) λd2 g2 l2 u2 D2=>?_
  symm;refine⟨λc3=>?_,λc3=>⟨trivial,Dx.trans D2,l,rfl,hsk⟩⟩;symm;exact⟨trivial,Dx.trans D2,l++[s],by rw[List.map_append];rfl,hsn⟩
 ·rintro acc gx Dx ⟨l,rfl,hl⟩
  exact ZBm (fin l gx Dx hl)
theorem ZC6{xs:List PyData}{d:Int}{g:G}{P:W->G->Prop}(h0 : 0<=d)(h1:d<xs.length)(q:∀x∈xs,P (.dat x) g):EvP (Z4 (.dat (.list xs)) (.dat (.int d)) g) P:=by
 have hn:d.toNat<xs.length:=by omega
 refine y_ixL (d:=xs[d.toNat]) ?_ (q _ (List.getElem_mem hn));have h:=ZED (xs:=xs) (j:=d.toNat) (v:=xs[d.toNat]) (by simp[hn])
 rwa [Int.toNat_of_nonneg h0] at h
def isI:PyData->Bool
 |.int _=>true
 |_=>false
def btw(lo hi:Int):PyData->Bool
 |.int i=>decide (lo<=i) && decide (i<=hi)
 |_=>false
def tof(n:Nat):PyData->Bool
 |.tuple ds=>decide (ds.length=n)
 |_=>false
theorem ZFX{d:PyData}{g:G}{P:W->G->Prop}(q:P (.dat (.bool (isI d))) g):EvP (Zk [.dat d] g) P:=by
 refine ZDW ?_;symm;cases d with
 |int i=>exact⟨λ_=>ZBq (by symm;exact q),(λz=>by cases z)⟩
 |bool b=>exact⟨λ_=>ZBq (by symm;exact q),(λz=>by cases z)⟩
 |_=>exact⟨(λz=>by cases z),λ_=>(by symm;exact q)⟩
theorem ZI0{d:PyData}{n:Nat}{g:G}{P:W->G->Prop}(q:P (.dat (.bool (tof n d))) g):EvP (ZS [.dat d,.dat (.int n)] g) P:=by
 refine ZCD ?_;symm;cases d with
 |tuple ds =>
  refine bT ?_;symm;rw[ZEP,show decide ((ds.length:Int)=(n:Int))=decide (ds.length=n) from decide_eq_decide.mpr ⟨λz=>by omega,λz=>by omega⟩];exact q
 |_=>exact⟨(λz=>by cases z),λ_=>(by symm;exact q)⟩
def its:PyData->List PyData
 |.tuple ds=>ds
 |_=>[]
def el(d:PyData)(i:Nat):PyData:=(its d).getD i .none
theorem ZHK{n:Nat}{d:PyData}(h:tof n d=true):d=.tuple (its d)/\(its d).length=n:=by
 cases d with
 |tuple ds=>exact⟨rfl,of_decide_eq_true h⟩
 |_=>cases h
theorem ZIn{ds:List PyData}{c:PyData->Bool}{g:G}{P:W->G->Prop}(q:P (.dat (.bool (ds.all c))) g):EvP (f1 ZDc [.dat (.list (ds.map λx=>.bool (c x)))] g) P:=by
 rw[show ds.map (λx=>PyData.bool (c x))=(ds.map c).map .bool by rw[map_map];rfl];exact ZH0 (by rw[all_map];exact q)
theorem ZDX:∀(ds:List PyData),ZAk ds (ds.drop 1)=(ds.zip (ds.drop 1)).map λp=>PyData.tuple [p.1,p.2]
 |[]=>rfl
 |[a]=>rfl
 |a::b::r=>by
  have:=ZDX (b::r);show PyData.tuple [a,b]::ZAk (b::r) r=_;rw[show ZAk (b::r) r=_ from this];rfl
theorem cut1(ds:List PyData):ZAr ds (some 1) none=ds.drop 1:=by
 have h1:HT.sIx ds.length 0 (some 1)=min 1 ds.length:=rfl;have h2:HT.sIx ds.length ds.length none=ds.length:=rfl;unfold ZAr;rw[h1,h2];cases ds with
 |nil=>rfl
 |cons d ds =>
  rw[show min 1 (d::ds).length=1 by simp,List.take_of_length_le (by rw[length_drop];exact le_refl _)]
theorem ZIv{α : Type}{L:List α}{c : α->Bool}{g:G}{P:W->G->Prop}(q:P (.dat (.bool (L.all c))) g):EvP (f1 ZDc [.dat (.list (L.map λx=>.bool (c x)))] g) P:=by
 rw[show L.map (λx=>PyData.bool (c x))=(L.map c).map .bool by rw[map_map];rfl];exact ZH0 (by rw[all_map];exact q)
def isT:PyData->Bool
 |.tuple _=>true
 |_=>false
def ZCP:PyData->Bool
 |.str s=>Zh.contains s
 |_=>false
theorem any7{s:Str}:((Zh.map PyData.str).any (Zq s))=Zh.contains s:=by
 rw[any_map];show Zh.any (λy=>y == s)=_;rw[List.contains_eq_any_beq]
 congr 1
 funext y
 exact Bool.beq_comm
theorem ZEU{d:PyData}{g:G}{P:W->G->Prop}(q:P (.dat (.bool (ZCP d))) g):EvP (Zg [.dat d] g) P:=by
 refine ZDG ?_;symm;cases d with
 |str s =>
  refine bT ?_;symm;rw[show((["about","again","newer","others","own","refute","wait"]:List Str).map PyData.str).any (Zq s)=Zh.contains s from any7];exact q
 |_=>exact⟨(λz=>by cases z),λ_=>(by symm;exact q)⟩
def stS:PyData->Str
 |.str s=>s
 |_=>""
def ltS(a b:Str):Bool:=decide (a.cps.toList<b.cps.toList)
def ZD1(ds:List PyData):Bool:=(ds.zip (ds.drop 1)).all λp=>ltS (stS p.1) (stS p.2)
theorem ZCH{d:PyData}(h:ZCP d=true):d=.str (stS d)/\stS d∈Zh:=by
 cases d with
 |str s=>exact⟨rfl,List.contains_iff_mem.mp h⟩
 |_=>cases h
theorem ZGk{ds:List PyData}{g:G}{P:W->G->Prop}(hl:ds.length<=1000)(hi:∀x∈ds,ZCP x=true)(q:P (.dat (.bool (ZD1 ds))) g):EvP (ZAW [.dat (.tuple ds)] g) P:=by
 refine ZFj ?_;symm;rw[cut1];refine⟨_,_,rfl,by rw[ZAn];omega,?_⟩;refine ZDT (λp:PyData×PyData=>PyData.tuple [p.1,p.2]) (λp=>.bool (ltS (stS p.1) (stS p.2))) _ (ZDX ds) trivial (λp hp=>⟨_,rfl,?_⟩) ?_
 ·obtain⟨h1,h2⟩:=of_mem_zip (show(p.1,p.2)∈_ from hp)
  have e1:=(ZCH (hi _ h1)).1;have e2:=(ZCH (hi _ (List.mem_of_mem_drop h2))).1;rw[e1,e2];symm;exact⟨rfl,rfl⟩
 symm;refine ZIv ?_;symm;exact q
def arC(d:PyData):Bool:=isT d && ((its d).all ZCP && ZD1 (its d))
theorem ZFE{d:PyData}{g:G}{P:W->G->Prop}(hl:(its d).length<=1000)(q:P (.dat (.bool (arC d))) g):EvP (ZU [.dat d] g) P:=by
 refine ZCB ?_;unfold arC at q;symm;cases d with
 |tuple ds =>
  have hl:ds.length<=1000:=hl;have q:P (.dat (.bool (ds.all ZCP && ZD1 ds))) g:=q;refine bF ?_;symm;refine⟨hl,?_⟩;refine ZDT id (λx=>.bool (ZCP x)) ds (List.map_id _).symm trivial (λx hx=>⟨_,by rw[Ze],?_⟩) ?_
  ·symm
   exact ZEU ⟨rfl,rfl⟩
  symm;refine ZIn ?_;symm;cases h:ds.all ZCP with
  |false =>
   rw[h,Bool.false_and] at q;refine bF ?_;symm;exact q
  |true =>
   rw[h,Bool.true_and] at q;refine bT ?_;symm;refine ZGk hl (List.all_eq_true.mp h) ?_;symm;exact q
 |_=>exact⟨λ_=>(by symm;exact q),(λz=>by cases z)⟩
theorem ZAc{d:PyData}{lo hi:Int}{g:G}{P:W->G->Prop}(q:P (.dat (.bool (btw lo hi d))) g):EvP (ZK [.dat d,.dat (.int lo),.dat (.int hi)] g) P:=by
 refine ZCT ?_;symm;refine ZFX ?_;symm;cases d with
 |int i =>
  have q:P (.dat (.bool (decide (lo<=i) && decide (i<=hi)))) g:=q;refine bT ?_;symm;refine⟨λh=>?_,λh=>?_⟩
  ·rw[h,Bool.true_and] at q
   symm;exact q
  ·rw[h,Bool.false_and] at q
   symm;exact q
 |_=>exact⟨(λz=>by cases z),λ_=>(by symm;exact q)⟩
theorem ZD2{d:PyData}{g:G}{P:W->G->Prop}(hl:∀x∈its d,(its x).length<=1000)(q:P (.dat (.bool (tof 5 d && (((btw 0 3 (el d 0) && btw 1 9 (el d 1)) && (btw 0 9 (el d 2) && btw 0 8 (el d 3))) && arC (el d 4))))) g):EvP (ZV [.dat d] g) P:=by
 refine ZDN ?_;symm;refine ZI0 (n:=5) ?_;cases h5:tof 5 d with
 |false =>
  rw[h5] at q;symm;refine bT ?_;symm;exact q
 |true =>
  rw[h5,Bool.true_and] at q;symm;refine bF ?_;obtain⟨e,hlen⟩:=ZHK h5;cases d with
  |tuple ds =>
   match ds,hlen with
   |[a,b,c,d,e],_ =>
    have q:P (.dat (.bool (((btw 0 3 a && btw 1 9 b) && (btw 0 9 c && btw 0 8 d)) && arC e))) g:=q;symm;refine ZAc ?_;symm;refine⟨λha=>?_,λha=>⟨λ_=>(by rw[ha,Bool.false_and,Bool.false_and,Bool.false_and] at q;symm;exact q),(λz=>by cases z)⟩⟩;rw[ha,Bool.true_and] at q;symm;refine ZAc ?_;symm;cases hb:btw 1 9 b with
    |false =>
     rw[hb,Bool.false_and,Bool.false_and] at q;refine bT ?_;symm;exact q
    |true =>
     rw[hb,Bool.true_and] at q;refine bF ?_;symm;refine ZAc ?_;symm;refine⟨λhc=>?_,λhc=>⟨λ_=>(by rw[hc,Bool.false_and,Bool.false_and] at q;symm;exact q),(λz=>by cases z)⟩⟩;rw[hc,Bool.true_and] at q;symm;refine ZAc ?_;symm;cases hd:btw 0 8 d with
     |false =>
      rw[hd,Bool.false_and] at q;refine bT ?_;symm;exact q
     |true =>
      rw[hd,Bool.true_and] at q;refine bF ?_;symm;refine ZFE (hl e (by simp[its])) ?_;symm;exact q
  |_=>cases h5
def trs(a b c d:PyData):List (PyData×Int×Int):=[(a,0,3),(b,1,9),(c,0,9),(d,0,8)]
def ZIf(t:PyData×Int×Int):PyData:=.tuple [t.1,.int t.2.1,.int t.2.2]
def ZCX(t:PyData×Int×Int):Bool:=btw t.2.1 t.2.2 t.1
def ZHt(a b c d e:PyData):Bool:=isT e && ((trs a b c d).all ZCX && eqS (its e) (Zh.filter λs=>(its e).any (Zq s)))
theorem ZEY{d:PyData}{g:G}{P:W->G->Prop}(q:P (.dat (.bool (isI d))) g):EvP (Za [.dat d] g) P:=by
 refine ZCY ?_;symm;cases d with
 |int i=>exact⟨λ_=>ZBq (by symm;exact q),(λz=>by cases z)⟩
 |bool b=>exact⟨λ_=>ZBq (by symm;exact q),(λz=>by cases z)⟩
 |_=>exact⟨(λz=>by cases z),λ_=>(by symm;exact q)⟩
theorem ZGg{d:PyData}{g:G}{P:W->G->Prop}(h:tof 5 d=false)(q:P (.dat (.bool false)) g):EvP (Zb [.dat d] g) P:=by
 refine ZBW ?_;symm;cases d with
 |tuple ds =>
  have h:decide (ds.length=5)=false:=h;refine bF ?_;symm;rw[ZEP,show decide ((ds.length:Int)=5)=false from decide_eq_false (by have:=of_decide_eq_false h;omega)];refine⟨λ_=>⟨λ_=>?_,(λz=>by cases z)⟩,(λz=>by cases z)⟩;symm;exact q
 |_ =>
  refine⟨λ_=>⟨λ_=>?_,(λz=>by cases z)⟩,(λz=>by cases z)⟩;symm;exact q
theorem ZIN{a b c d e:PyData}{g:G}{P:W->G->Prop}(q:P (.dat (.bool (ZHt a b c d e))) g):EvP (Zb [.dat (.tuple [a,b,c,d,e])] g) P:=by
 refine ZBW ?_;unfold ZHt at q;symm;refine bF ?_;symm;refine bF ?_;symm;cases e with
 |tuple es =>
  have q:P (.dat (.bool ((trs a b c d).all ZCX && eqS es (Zh.filter λs=>es.any (Zq s))))) g:=q;refine bF ?_;symm;show EvS (ZAP none ((trs a b c d).map ZIf) _ _ ((trs a b c d).map ZIf) [some (.dat (.tuple [a,b,c,d,.tuple es])),none,none,none] g) _;refine ZDC (λi sd gx=>((trs a b c d).take i).all ZCX=true/\gx=g/\∃z1 z2 z3,sd=[some (.dat (.tuple [a,b,c,d,.tuple es])),z1,z2,z3]) ⟨rfl,rfl,_,_,_,rfl⟩ ?_ ?_
  ·rintro i x sd gx hx ⟨hi,rfl,z1,z2,z3,rfl⟩
   rw[getElem?_map] at hx;obtain⟨t,ht,rfl⟩:=mp hx;refine⟨_,rfl,?_⟩;have bad:ZCX t=false->P (.dat (.bool false)) gx:=λhf=>by
    rw[show(trs a b c d).all ZCX=false from List.all_eq_false.mpr ⟨t,mem_of_getElem? ht,by rw[hf];exact Bool.false_ne_true⟩,Bool.false_and] at q;exact q
   have good:ZCX t=true->((trs a b c d).take (i+1)).all ZCX=true:=λhg=>by
    rw[List.take_add_one,ht,List.all_append,hi];show(true && (ZCX t && true))=true;rw[hg];rfl
   obtain⟨y,lo,hi⟩:=t;symm;refine ZEY ?_;symm;cases y with
   |int v =>
    have bad:(decide (lo<=v) && decide (v<=hi))=false->P (.dat (.bool false)) gx:=bad;have good:(decide (lo<=v) && decide (v<=hi))=true->((trs a b c d).take (i+1)).all ZCX=true:=good;refine bF ?_;symm;refine⟨λh1=>?_,λh1=>?_⟩
    ·symm
     cases h2:decide (v<=hi) with
     |true =>
      refine bF ?_;symm;exact⟨trivial,good (by rw[h1,h2];rfl),rfl,_,_,_,rfl⟩
     |false =>
      refine bT ?_;symm;show seqP _ _ (.rt (.dat (.bool false)) gx);exact .rt (.rt (bad (by rw[h1,h2];rfl)))
    ·symm
     refine bT ?_;symm;show seqP _ _ (.rt (.dat (.bool false)) gx);exact .rt (.rt (bad (by rw[h1];rfl)))
   |_ =>
    refine⟨λ_=>⟨λ_=>?_,(λz=>by cases z)⟩,(λz=>by cases z)⟩;symm;show seqP _ _ (.rt (.dat (.bool false)) gx);exact .rt (.rt (bad rfl))
  ·rintro sd gx ⟨hi,rfl,z1,z2,z3,rfl⟩
   rw[show((trs a b c d).take ((trs a b c d).map ZIf).length)=trs a b c d from rfl] at hi;rw[hi,Bool.true_and] at q;symm;refine ZBx ?_;symm;refine⟨by decide,?_⟩;refine ZEJ PyData.str (λs=>es.any (Zq s)) PyData.str Zh rfl trivial (λs hs=>⟨_,by rw[Ze],?_⟩) ?_
   ·symm
    exact⟨rfl,rfl,λ_=>⟨_,_,rfl,rfl,rfl⟩⟩
   refine ZD0 ZDH rfl ?_;symm;exact q
 |_ =>
  refine bT ?_;symm;exact q
theorem ZFI{ss:List Str}{s:Str}:(ss.map PyData.str).any (Zq s)=ss.contains s:=by
 rw[any_map];show ss.any (λy=>y == s)=_;rw[List.contains_eq_any_beq]
 congr 1
 funext y
 exact Bool.beq_comm
theorem ZFS:Zh.Pairwise (λa b=>ltS a b=true):=by decide +kernel
theorem ZIb:∀a∈Zh,ltS a a=false:=by decide +kernel
theorem ZH2:∀a∈Zh,∀b∈Zh,∀c∈Zh,ltS a b=true->ltS b c=true->ltS a c=true:=by decide +kernel
theorem ZFa:∀{ss:List Str},(∀s∈ss,s∈Zh)->((ss.zip (ss.drop 1)).all λp=>ltS p.1 p.2)=true->ss.Pairwise λa b=>ltS a b=true
 |[],_,_=>.nil
 |[a],_,_=>List.pairwise_singleton _ _
 |a::b::r,h,hz=>by
  have hz:(ltS a b && ((b::r).zip r).all λp=>ltS p.1 p.2)=true:=hz;rw[Bool.and_eq_true] at hz;have hb:∀s∈b::r,s∈Zh:=λs hs=>h s (mem_cons_of_mem _ hs)
  have ih:=ZFa hb hz.2;refine List.pairwise_cons.mpr ⟨λx hx=>?_,ih⟩;rcases List.mem_cons.mp hx with rfl|hr
  ·exact hz.1
  ·exact ZH2 a (h a (mem_cons_self ..)) b (hb b (mem_cons_self ..)) x (hb x hx) hz.1 ((List.pairwise_cons.mp ih).1 x hr)
theorem ZDi{R:Str->Str->Bool}:∀{ss:List Str},(ss.Pairwise λa b=>R a b=true)->((ss.zip (ss.drop 1)).all λp=>R p.1 p.2)=true
 |[],_=>rfl
 |[_],_=>rfl
 |a::b::r,h=>by
  show(R a b && ((b::r).zip r).all λp=>R p.1 p.2)=true;rw[(List.pairwise_cons.mp h).1 b (mem_cons_self ..),Bool.true_and];exact ZDi (List.pairwise_cons.mp h).2
theorem ZJm:∀{L ss:List Str},(∀s∈L,s∈Zh)->(L.Pairwise λa b=>ltS a b=true)->(∀s∈ss,s∈L)->(ss.Pairwise λa b=>ltS a b=true)->(L.filter λs=>ss.contains s)=ss
 |[],[],_,_,_,_=>rfl
 |[],s::_,_,_,hm,_=>absurd (hm s (mem_cons_self ..)) not_mem_nil
 |c::L,[],_,_,_,_=>List.filter_eq_nil_iff.mpr λ_ _=>Bool.false_ne_true
 |c::L,s::r,hA,hp,hm,hs=>by
  have hA2:∀x∈L,x∈Zh:=λx hx=>hA x (mem_cons_of_mem _ hx)
  have hp':=List.pairwise_cons.mp hp;have hs':=List.pairwise_cons.mp hs;have irr:=ZIb c (hA c (mem_cons_self ..))
  by_cases hc:c=s
  ·subst hc
   rw[List.filter_cons_of_pos (by rw[List.contains_cons,beq_self_eq_true,Bool.true_or])]
   congr 1
   have hr:∀x∈r,x∈L:=λx hx=>(List.mem_cons.mp (hm x (mem_cons_of_mem _ hx))).resolve_left λe=>by
    have:=hs'.1 x hx;rw[e,irr] at this
    cases this
   refine(List.filter_congr λx hx=>?_).trans (ZJm hA2 hp'.2 hr hs'.2);rw[List.contains_cons,show(x == c)=false from beq_eq_false_iff_ne.mpr λe=>(by have:=hp'.1 x hx;rw[e,irr] at this;exact absurd this Bool.false_ne_true),Bool.false_or]
  ·have hsL:s∈L:=(List.mem_cons.mp (hm s (mem_cons_self ..))).resolve_left λe=>hc e.symm
   have hn:∀x∈s::r,x≠c:=λx hx e=>by
    subst e;rcases List.mem_cons.mp hx with e|hx
    ·exact hc e
    ·have h1:=hs'.1 x hx
     have h2:=hp'.1 s hsL;rw[ZH2 x (hA x (mem_cons_self ..)) s (hA2 s hsL) x (hA x (mem_cons_self ..)) h2 h1] at irr;cases irr
   rw[List.filter_cons_of_neg (λe=>hn c (List.contains_iff_mem.mp e) rfl)];exact ZJm hA2 hp'.2 (λx hx=>(List.mem_cons.mp (hm x hx)).resolve_left (hn x hx)) hs
theorem ZCn{s:Str}{d:PyData}:Zq s d=true ↔ d=.str s:=by
 cases d with
 |str y=>exact⟨λh=>by rw[show y=s from eq_of_beq h],λh=>by cases h;exact beq_self_eq_true s⟩
 |_=>exact⟨λh=>(by cases h),λh=>(by cases h)⟩
theorem ZHk{xs:List PyData}{ss:List Str}:eqS xs ss=true ↔ xs=ss.map .str:=by
 unfold eqS;rw[Bool.and_eq_true,decide_eq_true_iff,all_eq_true];constructor
 ·rintro ⟨hl,h⟩
  refine List.ext_getElem (by rw[length_map];exact hl) λj h1 h2=>?_
  have:=ZCn.mp (h j (List.mem_range.mpr h1));rw[getD_eq_getElem?_getD,getD_eq_getElem?_getD,getElem?_eq_getElem h1,getElem?_eq_getElem (show j<ss.length by omega)] at this
  rw[List.getElem_map];exact this
 ·rintro rfl
  refine⟨length_map _,λj hj=>ZCn.mpr ?_⟩;have hj:j<(ss.map PyData.str).length:=List.mem_range.mp hj;rw[getD_eq_getElem?_getD,getD_eq_getElem?_getD,getElem?_eq_getElem hj,List.getElem_map,getElem?_eq_getElem (by rw[length_map] at hj;exact hj)];rfl
theorem ZGA:∀{es:List PyData},es.all ZCP=true->∃ss:List Str,es=ss.map .str/\∀s∈ss,s∈Zh
 |[],_=>⟨[],rfl,λs hs=>by cases hs⟩
 |d::r,h=>by
  rw[List.all_cons,Bool.and_eq_true] at h;obtain⟨ss,e,hs⟩:=ZGA h.2;obtain⟨e1,h1⟩:=ZCH h.1;refine⟨stS d::ss,by rw[map_cons,←e1,←e],λs hm=>?_⟩;rcases List.mem_cons.mp hm with rfl|hm
  ·exact h1
  ·exact hs s hm
theorem ZBw{ss:List Str}:ZD1 (ss.map .str)=(ss.zip (ss.drop 1)).all λp=>ltS p.1 p.2:=by
 unfold ZD1;rw[←List.map_drop,List.zip_map,all_map];rfl
theorem ZFr{es:List PyData}:(es.all ZCP && ZD1 es)=eqS es (Zh.filter λs=>es.any (Zq s)):=by
 rw[Bool.eq_iff_iff,ZHk,Bool.and_eq_true];constructor
 ·rintro ⟨h1,h2⟩
  obtain⟨ss,rfl,hs⟩:=ZGA h1;rw[ZBw] at h2
  congr 1
  rw[show(Zh.filter λs=>(ss.map PyData.str).any (Zq s))=Zh.filter λs=>ss.contains s from List.filter_congr λx _=>ZFI];exact(ZJm (λs hs=>hs) ZFS hs (ZFa hs h2)).symm
 ·intro h
  have hsub:(Zh.filter λs=>es.any (Zq s)).Sublist Zh:=List.filter_sublist
  generalize (Zh.filter λs=>es.any (Zq s))=ss at h hsub
  subst h;refine⟨?_,?_⟩
  ·rw[all_map,all_eq_true]
   exact λs hs=>List.contains_iff_mem.mpr (hsub.subset hs)
  ·rw[ZBw]
   exact ZDi (ZFS.sublist hsub)
def Agr(d:PyData):Prop:=∃B:Bool,(∀(g:G) (P:W->G->Prop),P (.dat (.bool B)) g->EvP (ZV [.dat d] g) P)/\∀(g:G) (P:W->G->Prop),P (.dat (.bool B)) g->EvP (Zb [.dat d] g) P
theorem agr{d:PyData}(hl:∀x∈its d,(its x).length<=1000):Agr d:=by
 cases h5:tof 5 d with
 |false=>exact⟨false,λg P q=>ZD2 hl (by rw[h5];exact q),λg P q=>ZGg h5 q⟩
 |true =>
  cases d with
  |tuple ds =>
   have h:ds.length=5:=of_decide_eq_true h5
   match ds,h with
   |[a,b,c,d,e],_ =>
    refine⟨ZHt a b c d e,λg P q=>ZD2 hl ?_,λg P q=>ZIN q⟩;rw[h5,Bool.true_and];show P (.dat (.bool (((btw 0 3 a && btw 1 9 b) && (btw 0 9 c && btw 0 8 d)) && arC e))) g;have e1:arC e=(isT e && eqS (its e) (Zh.filter λs=>(its e).any (Zq s))):=by
     unfold arC;rw[ZFr]
    have e2:(trs a b c d).all ZCX=((btw 0 3 a && btw 1 9 b) && (btw 0 9 c && btw 0 8 d)):=by
     show(btw 0 3 a && (btw 1 9 b && (btw 0 9 c && (btw 0 8 d && true))))=_;rw[Bool.and_true,Bool.and_assoc]
    unfold ZHt at q;rw[e2] at q;rw[e1,Bool.and_left_comm];exact q
  |_=>cases h5
theorem ZGl{ds:List PyData}{lo hi:Option Int}:(ZAr ds lo hi).length<=ds.length/\∀x∈ZAr ds lo hi,x∈ds:=by
 unfold ZAr;refine⟨by rw[length_take,length_drop];omega,λx hx=>List.mem_of_mem_drop (List.mem_of_mem_take hx)⟩
def sm(d:PyData):Prop:=(its d).length<=1000
def shL(d:PyData):Bool:=(its d).all λx=>decide ((its x).length<=1000)
theorem ZEI{d:PyData}(h:shL d=true):Agr d:=agr λx hx=>of_decide_eq_true (List.all_eq_true.mp h x hx)
theorem ZEX{b:Nat}{r:Ru}{g:G}{P:W->G->Prop}(hb:Bx g b)(hr:RuOk r)(hc:r.cl.length<=7)(q:∀d g',Agr d->Dr b g g'->P (.dat d) g'):EvP (ZT [.ref b,.dat (ruD r)] g) P:=by
 refine ZB6 ?_;symm;refine Zx hb (by decide) (by decide) λd1 g1 l1 u1 D1=>?_
 symm;refine ZC6 l1 u1 λone h1=>?_
 symm;refine Zx D1.bx (by decide) (by decide) λd2 g2 l2 u2 D2=>?_
 symm;refine Zx D2.bx (by decide) (by decide) λd3 g3 l3 u3 D3=>?_
 symm;refine ZC6 l3 u3 λword h2=>?_
 have so:sm one/\shL one=true:=by
  simp only[mem_cons,not_mem_nil,or_false] at h1;rcases h1 with rfl|rfl|rfl|rfl|rfl|rfl|rfl|rfl|rfl|rfl|rfl|rfl|rfl|rfl <;> exact⟨by unfold sm;decide,by decide⟩
 have sw:sm word/\shL word=true:=by
  simp only[mem_cons,not_mem_nil,or_false] at h2;rcases h2 with rfl|rfl|rfl|rfl|rfl|rfl|rfl|rfl|rfl|rfl|rfl|rfl <;> exact⟨by unfold sm;decide,by decide⟩
 clear h1 h2
 generalize (PyData.list ((λds=>PyData.int (-1)::ds) _))=big1
 symm;have a1:(ZAr [.int r.o,.int r.w,.int r.t,.int r.c,clD r.cl] none (some d2)).length<=5:=ZGl.1;have b1:(ZAr [.int r.o,.int r.w,.int r.t,.int r.c,clD r.cl] (some (d2+1)) none).length<=5:=ZGl.1;have c1:(ZAr [.int r.o,.int r.w,.int r.t,.int r.c,clD r.cl] none (some 4)).length<=5:=ZGl.1;have k1:(r.cl.map PyData.str).length<=7:=by rw[length_map];exact hc
 refine ZBJ ?_ ?_
 ·first|omega|(simp only[length_append,length_cons,length_nil];omega)
 symm;refine ZBJ ?_ ?_
 ·first|omega|(simp only[length_append,length_cons,length_nil];omega)
 symm;refine ZBJ ?_ ?_
 ·first|omega|(simp only[length_append,length_cons,length_nil];omega)
 symm;refine ZBJ (xs:=r.cl.map .str) ?_ ?_
 ·first|omega|(simp only[length_append,length_cons,length_nil];omega)
 symm;refine ZBJ ?_ ?_
 ·first|omega|(simp only[length_append,length_cons,length_nil];omega)
 symm;refine x_rev ?_;symm;refine⟨by omega,?_⟩;symm;refine⟨rfl,?_⟩;symm;refine ZJo (xs:=r.cl.map .str) (k:=2) ⟨rfl,by omega⟩ ?_;symm;refine ZBJ (ys:=r.cl.map .str) ?_ ?_
 ·first|omega|(simp only[length_append,length_cons,length_nil];omega)
 symm;refine Zx D3.bx (by decide) (by decide) λd4 g4 l4 u4 D4=>?_
 symm;refine ZC6 l4 u4 λx hx=>?_
 symm;refine q x g4 ?_ (D1.trans (D2.trans (D3.trans D4)));have hL:∀y∈[PyData.int r.o,.int r.w,.int r.t,.int r.c,clD r.cl],sm y:=λy hy=>by
  simp only[mem_cons,not_mem_nil,or_false] at hy;unfold sm;rcases hy with rfl|rfl|rfl|rfl|rfl
  ·exact zero_le _
  ·exact zero_le _
  ·exact zero_le _
  ·exact zero_le _
  ·show(r.cl.map PyData.str).length<=1000;omega
 have hC:∀{lo hi:Option Int},∀y∈ZAr [PyData.int r.o,.int r.w,.int r.t,.int r.c,clD r.cl] lo hi,sm y:=λ{lo hi} y hy=>hL y (ZGl.2 y hy)
 have hS:∀y∈r.cl.map PyData.str,sm y:=λy hy=>by
  obtain⟨z,_,rfl⟩:=List.mem_map.mp hy;exact zero_le _
 have h1:∀{d:PyData},sm d->∀y∈[d],sm y:=λh y hy=>by rw[List.mem_singleton.mp hy];exact h
 have ap:∀{a b:List PyData},(∀y∈a,sm y)->(∀y∈b,sm y)->∀y∈a++b,sm y:=λha hb y hy=>(List.mem_append.mp hy).elim (ha y) (hb y)
 have tp:∀{ds:List PyData},(∀y∈ds,sm y)->Agr (.tuple ds):=λh=>agr h
 have l8:(r.cl.map PyData.str).length<=8:=by omega
 simp only[List.mem_append,mem_cons,not_mem_nil,or_false,or_assoc] at hx;rcases hx with rfl|rfl|rfl|rfl|rfl|rfl|rfl|rfl|rfl|rfl|rfl|rfl|rfl|rfl|rfl|rfl|rfl
 ·exact tp (ap (ap hC (h1 so.1)) hC)
 ·exact tp (ap hC hC)
 ·exact tp (ap hL (h1 so.1))
 ·exact agr λy hy=>by cases hy
 ·exact tp (ap hC (h1 (by show(r.cl.map PyData.str++[word]).length<=1000;rw[length_append];show _+1<=1000;omega)))
 ·exact tp (ap hC (h1 (by show((r.cl.map PyData.str).length+1)<=1000;omega)))
 ·exact tp (ap hC (h1 (by show((r.cl.map PyData.str).reverse).length<=1000;rw[List.length_reverse];omega)))
 ·exact tp (ap hC (h1 (zero_le _)))
 ·exact tp (ap hC (h1 (by show(r.cl.map PyData.str++(r.cl.map PyData.str++[])).length<=1000;rw[append_nil,length_append];omega)))
 ·exact tp (ap hC hS)
 ·exact tp (h1 (by show(5:Nat)<=1000;decide))
 ·exact ZEI so.2
 ·exact ZEI sw.2
 ·exact tp (ap hC (h1 (zero_le _)))
 ·exact agr λy hy=>by cases hy
 ·exact agr λy hy=>by cases hy
 ·exact tp λy hy=>hL y (List.mem_reverse.mp hy)
theorem ZFA{B:Bool}{g:G}{P:W->G->Prop}(q:P (.dat (.bool true)) g):EvP (Zd [.dat (.bool B),.dat (.bool B)] g) P:=by
 refine ZCa ?_;symm;refine bT ?_;refine ZJ0 ?_;symm;rw[show(PyData.bool B).eqv (.bool B)=true by cases B <;> rfl];symm;exact q
theorem ZF0{r:Ru}{g:G}{P:W->G->Prop}(h:RuOk r)(hc:r.cl.Sublist Zh)(q:P (.dat (.bool true)) g):EvP (ZV [.dat (ruD r)] g) P:=by
 have hl7:r.cl.length<=7:=hc.length_le;refine ZD2 (λy hy=>?_) ?_
 ·have hy:y∈[PyData.int r.o,.int r.w,.int r.t,.int r.c,clD r.cl]:=hy
  simp only[mem_cons,not_mem_nil,or_false] at hy;rcases hy with rfl|rfl|rfl|rfl|rfl
  ·exact zero_le _
  ·exact zero_le _
  ·exact zero_le _
  ·exact zero_le _
  ·show(r.cl.map PyData.str).length<=1000
   rw[length_map];omega
 ·have e4:arC (clD r.cl)=true:=by
   show(true && ((r.cl.map PyData.str).all ZCP && ZD1 (r.cl.map .str)))=true;rw[ZBw,ZDi (ZFS.sublist hc),Bool.and_true,Bool.true_and,all_map,all_eq_true];exact λs hs=>List.contains_iff_mem.mpr (hc.subset hs)
  have e0:btw 0 3 (.int r.o)=true:=by show(decide _ && decide _)=true;rw[decide_eq_true h.o.1,decide_eq_true h.o.2];rfl
  have e1:btw 1 9 (.int r.w)=true:=by show(decide _ && decide _)=true;rw[decide_eq_true h.w.1,decide_eq_true h.w.2];rfl
  have e2:btw 0 9 (.int r.t)=true:=by show(decide _ && decide _)=true;rw[decide_eq_true h.t.1,decide_eq_true h.t.2];rfl
  have e3:btw 0 8 (.int r.c)=true:=by show(decide _ && decide _)=true;rw[decide_eq_true h.c.1,decide_eq_true h.c.2];rfl
  show P (.dat (.bool (true && (((btw 0 3 (.int r.o) && btw 1 9 (.int r.w)) && (btw 0 9 (.int r.t) && btw 0 8 (.int r.c))) && arC (clD r.cl))))) g;rw[e0,e1,e2,e3,e4];exact q
theorem ZJr{ns:List Int}(hns:ns.length<=63):∃g',ZCE [.inp ns] []=some (.dat (.bool true),g'):=by
 suffices h:EvP (ZCE [.inp ns] []) λx _=>x=.dat (.bool true) by
  obtain⟨x,g',e,rfl⟩:=h;exact⟨g',e⟩
 refine ZJq ?_;symm;refine ZGK (j:=0) (g1:=[]) ?_;symm;have hm : 0<=(1:Int)+(if (ns.length:Int)<20 then (ns.length:Int) else 20)/\(1:Int)+(if (ns.length:Int)<20 then (ns.length:Int) else 20)<=64:=by split <;> omega
 generalize (1:Int)+(if (ns.length:Int)<20 then (ns.length:Int) else 20)=len at *
 refine⟨by omega,?_⟩;refine ZDC (λn sd gx=>∃z1 z2 z3 z4 z5,sd=[some (.inp ns),z1,z2,z3,z4,z5]) ⟨_,_,_,_,_,rfl⟩ ?_ ?_
 ·rintro n x sd g0 hx ⟨z1,z2,z3,z4,z5,rfl⟩
  have hn:n<64:=by
   have:=(List.getElem?_eq_some_iff.mp hx).1;rw[ZGu] at this
   omega
  rw[ZG5,getElem?_map] at hx;obtain⟨k,hk,rfl⟩:=mp hx;obtain⟨hk1,hk2⟩:=List.getElem?_eq_some_iff.mp hk;rw[List.getElem_range] at hk2;subst hk2;refine⟨_,rfl,?_⟩;symm
  generalize hb:List.length g0=b
  refine ZIK (by omega) λg1 hl1 hg1 B1=>?_
  rw[hb] at B1;rw[hb];symm;refine ZFO B1 λr g2 hr hcs D2=>?_
  symm;refine ZF0 hr hcs ?_;symm;refine⟨λz=>(by cases z),λ_=>?_⟩;symm;refine ZDC (λj sd gy=>Bx gy b/\∃z4 z5,sd=[some (.inp ns),some (.dat (.int (n:Int))),some (.ref b),some (.dat (ruD r)),z4,z5]) ⟨D2.bx,_,_,rfl⟩ ?_ ?_
  ·rintro j y sd gy hy ⟨By,z4,z5,rfl⟩
   refine⟨_,by rw[Ze],?_⟩;symm;refine ZEX By hr hcs.length_le λd g3 ⟨B,h1,h2⟩ D3=>?_
   symm;refine h1 _ _ ?_;symm;refine h2 _ _ ?_;symm;refine ZFA ?_;symm;refine⟨λz=>(by cases z),λ_=>?_⟩;symm;exact⟨trivial,D3.bx,_,_,rfl⟩
  ·rintro sd gy ⟨_,z4,z5,rfl⟩
   exact⟨trivial,_,_,_,_,_,rfl⟩
 ·rintro sd gx ⟨z1,z2,z3,z4,z5,rfl⟩
  symm;rfl
local macro_rules
 | `(tactic| left) => `(tactic| (intro _ _ _ _ _ _ _; cases ‹Txt _ _ _›; repeat' (first | ((with_reducible show JE _ _ _); first | ((with_reducible show JE _ (.Name _ _) _); first | refine ZHa _ | exact ZEW rfl (by assumption) | exact ZEb rfl (by assumption) | (refine' ZJc rfl ?m ?v; (case m => assumption); (case v => first | exact boot_int | exact boot_bool | exact boot_tuple | exact boot_str | exact boot_list | exact boot_dict))) | ((with_reducible show JE _ (.Constant _ _ _) _); first | exact ZHv | exact ZHc | exact ZJa | exact ZGZ) | ((with_reducible show JE _ (.Subscript _ _ _) _); first | refine ZGU oIx ?_ ?_ (λ _ _ => rfl) | refine ZGU oIxD ?_ ?_ (λ _ _ => rfl) | refine ZJe ?_ ?_ ?_ | refine ZGy ?_ ?_) | ((with_reducible show JE _ (.BinOp _ _ _ _) _); first | refine ZI1 ?_ ?_ ?_ | exact ZHZ ⟨by decide, by decide, by decide⟩ (by decide +kernel)) | ((with_reducible show JE _ (.Compare _ _ _ _) _); first | (refine' ZHU ?_ ?_ ?_ ?m; (case m => first | exact ZFN _ | with_unfolding_all rfl)) | refine ZE8 ?_ ?_ ?_ ?_ ?_) | ((with_reducible show JE _ (.Call (.Name _ _) _ _ _) _); first | ((with_reducible show JE _ _ (dF (f1 _) _)); first | (refine' ZDl ?c rfl ?m ?v ?_; (case m => assumption); (case v => first | exact boot_int | exact boot_tuple | exact boot_list | exact boot_dict); (case c => first | exact cInt | exact cTup | exact cLis)) | (refine' ZCi ?c rfl ?m ?v ?_; (case m => assumption); (case v => first | exact boot_len | exact boot_abs | exact boot_all | exact boot_any | exact boot_sorted | exact boot_repr | exact boot_sum | exact boot_min); (case c => first | exact cLen | exact cAbs | exact cAll rfl))) | (refine' ZFz ?D ?F ?r ?_ ?m; (case F => assumption); (case D => assumption); (case r => exact Room.mono (by assumption) (by decide)); (case m => repeat constructor)) | (refine' ZCi ?c rfl ?m ?v ?_; (case m => assumption); (case v => first | exact boot_min | exact boot_max | exact boot_isinstance); (case c => first | exact cMin rfl | exact cIsi)) | (refine' ZEq ?D ?F ?r; (case F => assumption); (case D => assumption); (case r => exact Room.mono (by assumption) (by decide)))) | ((with_reducible show JE _ (.Tuple _ _ _) _); first | refine ZHC ?_) | ((with_reducible show JE _ (.BoolOp _ _ _) _); first | refine ZHH ?_ ?_ | refine ZHS ?_) | ((with_reducible show JE _ (.List _ _) _); first | refine ZGc ?_ | refine ZF6 ?_) | ((with_reducible show JE _ (.ListComp _ _ _ _) _); first | ((with_reducible first | show JE _ (.ListComp _ _ ⟨_, _ :: (_, .cell) :: _, _, _, _⟩ _) _ | show JE _ (.ListComp _ _ ⟨_, _ :: _ :: (_, .cell) :: _, _, _, _⟩ _) _ | show JE _ (.ListComp _ _ ⟨_, _ :: _ :: _ :: (_, .cell) :: _, _, _, _⟩ _) _); refine jde_compK rfl ?_ ?_ (by kernel_rfl) rfl) | refine ZEj rfl ?_ ?_ (by kernel_rfl) rfl) | refine ZG0 ?_ | refine ZGo ?_ | refine ZIu ?_ ?_ ?_ | exact ZEl) | ((with_reducible show JA _ _ _); first | refine ZFb ?_ ?_ | exact ZGx) | ((with_reducible show OpR _ _ _); first | exact oAdd | exact oEq (Room.units (by assumption)) | exact oMul | exact oMod | exact oFdiv | exact oNe (Room.units (by assumption)) | exact oLt (Room.units (by assumption)) | exact oLe | exact oGt (Room.units (by assumption)) | exact oGe (Room.units (by assumption)) | exact oInS (Room.units (by assumption)) | exact oEqS (Room.units (by assumption)) | exact ZHs | exact oMulT) | ((with_reducible show JT _ _ _); first | refine ZG8 ?_ | (refine' ZG1 ?_ ?_ ?_ ?m; (case m => first | exact ZFN _ | with_unfolding_all rfl)) | refine JW.pt (ZD8 ?_ ?_) | refine JW.pt (ZGO ?_ ?_) | refine ZEf ?_ ?_ ?_ ?_ ?_ | refine ZG9 ?_) | ((with_reducible show JSs _ _ _); first | refine ZEn ?_ ?_ | refine ZFs ?_ | exact ZFo) | ((with_reducible show JS _ _ _); first | ((with_reducible show JS _ _ (Zs _ _)); first | (refine' ZHn ?nd rfl ?lo ?_; (case nd => first | assumption | exact of_decide_eq_true (by kernel_rfl)); (case lo => first | exact Or.inl rfl | exact Or.inr rfl)) | ((with_reducible first | show JS _ (.Assign _ (.ListComp _ _ ⟨_, _ :: (_, .cell) :: _, _, _, _⟩ _) _) _ | show JS _ (.Assign _ (.ListComp _ _ ⟨_, _ :: _ :: (_, .cell) :: _, _, _, _⟩ _) _) _ | show JS _ (.Assign _ (.ListComp _ _ ⟨_, _ :: _ :: _ :: (_, .cell) :: _, _, _, _⟩ _) _) _); refine' jds_setCK ?nd rfl ?lo rfl ?_ ?_ (by kernel_rfl) rfl; (case nd => first | assumption | exact of_decide_eq_true (by kernel_rfl)); (case lo => first | exact Or.inl rfl | exact Or.inr rfl)) | (refine' ZEm ?nd rfl ?lo rfl ?_ ?_ (by kernel_rfl) rfl; (case nd => first | assumption | exact of_decide_eq_true (by kernel_rfl)); (case lo => first | exact Or.inl rfl | exact Or.inr rfl))) | ((with_reducible show JS _ _ (ZEZ _ _)); first | refine ZEF ?_ ?_ | refine ZEF (hs := by kernel_rfl) (hw := by kernel_rfl) ?_ ?_) | refine ZHG ?_ | refine ZI7 ?_ ?_ ?_ | refine ZHQ PassesOwn.never rfl ?_ ?_ ?_ | refine ZHg ?_ ?_ ?_) | (refine' ZIg ?nd rfl ?lo; (case nd => first | assumption | exact of_decide_eq_true (by kernel_rfl)); (case lo => first | exact Or.inl rfl | exact Or.inr rfl)) | refine ZJA rfl ?_ | refine ZGN ?_ ?_ | exact ZHE | refine ZD8 ?_ ?_ | refine ZGO ?_ ?_ | refine ZF7 ?_ | refine ZHF ?_ | exact ZFf | refine ZFZ ?_ | exact ZGR | refine ZFH ?_ | (refine' ZDr rfl ?m ?_ (hn := ?n); (case m => assumption); (case n => repeat constructor)) | (refine' ZHl rfl ?m ?_ (hn := ?n); (case m => assumption); (case n => repeat constructor)) | (refine' ZFy rfl ?m ?_ (hn := ?n); (case m => assumption); (case n => repeat constructor)) | refine ZHe ?_ | (intro _ _ _ _ _; refine ⟨?_, ?_, ?_⟩))))
local macro_rules
 | `(tactic| right) => `(tactic| first | exact ⟨rfl, rfl, rfl, by decide +kernel, rfl, by decide +kernel, by decide +kernel⟩ | exact (λ _ _ _ _ _ _ => ZJ5 (by intros; rfl)) | exact (λ _ _ _ _ _ _ => len3 (by intros; rfl)) | exact (λ _ _ _ _ _ _ => len4 (by intros; rfl)) | exact (λ _ _ _ _ _ _ => len5 (by intros; rfl)) | exact (λ _ _ _ _ _ _ => ZKA (by intros; rfl)) | exact (λ _ _ _ _ _ _ => len6 (by intros; rfl)) | exact (λ _ _ _ _ _ _ => len7 (by intros; rfl)) | exact (λ _ _ _ _ _ _ us e => by cases us with | nil => rfl | cons _ _ => cases e))
section
variable{P:Program}{w:World}{K:PySem.W.Frag}{mg:Str->Option Value}{base:Heap}{A:Adr}
theorem ZB9:FnScope ["thing"] ZAf (ZF (top 1)):=by right
theorem ZBG:FnScope ["thing","low","high"] Z7 (ZF (top 2)):=by right
theorem ZA4:FnScope ["thing","length"] Zy (ZF (top 3)):=by right
theorem ZEC:FnScope ["things"] ZBf (ZF (top 4)):=by right
theorem ZBT:FnScope ["thing"] ZAG (ZF (top 13)):=by right
theorem ZA1:FnScope ["thing"] Zz (ZF (top 12)):=by right
theorem ZBl:FnScope ["thing","others","wait","told","carry","clauses"] ZAY (ZF (top 11)):=by right
theorem ZB0:FnScope ["_law_script","_law_k","_law_cell","_law_great"] ZAb (ZF (top 15)):=by right
theorem ZBV:FnScope ["_law_box_here","_law_many","_law_digit"] ZAI (ZF (top 16)):=by right
theorem ZAq:FnScope [] Zo (ZF (top 17)):=by right
theorem ZBE:FnScope ["_law_box_here","_law_clauses_here","_law_numbers"] Z8 (ZF (top 18)):=by right
theorem ZBF:FnScope ["_law_thing"] ZAA (ZF (top 19)):=by right
theorem ZBB:FnScope ["_law_found","_law_due_here"] Z9 (ZF (top 20)):=by right
theorem ZCG:FnScope ["_law_thing","_law_number","_law_least","_law_most"] ZAd (ZF (top 21)):=by right
theorem ZA2:FnScope ["_law_box_here","_law_rules_here","_law_odd","_law_one","_law_at","_law_clauses_here","_law_words","_law_word","_law_some"] Zw (ZF (top 22)):=by right
theorem ZH7:FnScope ["_law_script","_law_k","_law_box_here","_law_rules_here","_law_turn","_law_thing"] ["_law_script"] (ZF (top 23)):=by right
section
variable(T:Txt K mg A)
include T
theorem ZCz:FnOk P w K mg base CX0 1 A.fx0 A.fy0 ZAf (spD K 1 Zk):=by
 have nd:=ZB9.nd;refine ZX (d:=ZA9) (r:=Zk) (n:=1) (by unfold Zk;rfl) rfl rfl T.fz0.fn ZB9 ?_;left
theorem ZB5:FnOk P w K mg base CX0 2 A.fx1 A.fy1 Z7 (spD K 3 ZK):=by
 have:=@ZCz P w K mg base A T;have nd:=ZBG.nd;refine ZX (d:=ZAV) (r:=ZK) (n:=3) (by unfold ZK;rfl) rfl rfl T.fz1.fn ZBG ?_;left
theorem ZBe:FnOk P w K mg base CX0 1 A.fx2 A.fy2 Zy (spD K 2 ZS):=by
 have nd:=ZA4.nd;refine ZX (d:=ZAK) (r:=ZS) (n:=2) (by unfold ZS;rfl) rfl rfl T.fz2.fn ZA4 ?_;left
theorem ZEt:FnOk P w K mg base CX0 1 A.fx3 A.fy3 ZBf (spD K 1 ZAW):=by
 have nd:=ZEC.nd;refine ZX (d:=ZCr) (r:=ZAW) (n:=1) (by unfold ZAW;rfl) rfl rfl T.fz3.fn ZEC ?_;left
theorem ZCK:FnOk P w K mg base CX0 1 A.fx6 A.fy6 ZAG (spD K 1 Zg):=by
 have nd:=ZBT.nd;refine ZX (d:=ZAt) (r:=Zg) (n:=1) (by unfold Zg;rfl) rfl rfl T.fz6.fn ZBT ?_;left
theorem ZBb:FnOk P w K mg base CX0 2 A.fx5 A.fy5 Zz (spD K 1 ZU):=by
 have:=@ZEt P w K mg base A T;have:=@ZCK P w K mg base A T;have nd:=ZA1.nd;refine ZX (d:=ZAL) (r:=ZU) (n:=1) (by unfold ZU;rfl) rfl rfl T.fz5.fn ZA1 ?_;left
theorem ZDE:FnOk P w K mg base CX0 3 A.fx4 A.fy4 ZAY (spD K 1 ZV):=by
 have:=@ZBb P w K mg base A T;have:=@ZBe P w K mg base A T;have:=@ZB5 P w K mg base A T;have nd:=ZBl.nd;refine ZX (d:=ZA5) (r:=ZV) (n:=6) (by unfold ZV;rfl) rfl rfl T.fz4.fn ZBl ?_;left
theorem ZC8:FnOk P w K mg base CX0 1 A.fx7 A.fy7 ZAb (spD K 2 Zl):=by
 have nd:=ZB0.nd;refine ZX (d:=ZA6) (r:=Zl) (n:=4) (by unfold Zl;rfl) rfl rfl T.fz7.fn ZB0 ?_;left
theorem ZAz:FnOk P w K mg base CX0 1 A.fx8 A.fy8 ZAI (spD K 2 ZG):=by
 have nd:=ZBV.nd;refine ZX (d:=ZAl) (r:=ZG) (n:=3) (by unfold ZG;rfl) rfl rfl T.fz8.fn ZBV ?_;left
theorem ZAO:FnOk P w K mg base CX0 1 A.fx9 A.fy9 Zo (spD K 0 ZL):=by
 have nd:=ZAq.nd;refine ZX (d:=ZAD) (r:=ZL) (n:=0) (by unfold ZL;rfl) rfl rfl T.fz9.fn ZAq ?_;left
theorem ZB4:FnOk P w K mg base CX0 2 A.fx10 A.fy10 Z8 (spD K 1 Zc):=by
 have:=@ZAO P w K mg base A T;have:=@ZAz P w K mg base A T;have nd:=ZBE.nd;refine ZX (d:=ZAZ) (r:=Zc) (n:=3) (by unfold Zc;rfl) rfl rfl T.fz10.fn ZBE ?_;left
theorem ZBp:FnOk P w K mg base CX0 1 A.fx11 A.fy11 ZAA (spD K 1 Za):=by
 have nd:=ZBF.nd;refine ZX (d:=ZAX) (r:=Za) (n:=1) (by unfold Za;rfl) rfl rfl T.fz11.fn ZBF ?_;left
theorem ZBo:FnOk P w K mg base CX0 1 A.fx12 A.fy12 Z9 (spD K 2 Zd):=by
 have nd:=ZBB.nd;refine ZX (d:=ZAe) (r:=Zd) (n:=2) (by unfold Zd;rfl) rfl rfl T.fz12.fn ZBB ?_;left
theorem ZCt:FnOk P w K mg base CX0 2 A.fx13 A.fy13 ZAd (spD K 1 Zb):=by
 have:=@ZBp P w K mg base A T;have:=@ZAO P w K mg base A T;have nd:=ZCG.nd;refine ZX (d:=ZBA) (r:=Zb) (n:=4) (by unfold Zb;rfl) rfl rfl T.fz13.fn ZCG ?_;left
theorem ZBY:FnOk P w K mg base CX0 2 A.fx14 A.fy14 Zw (spD K 2 ZT):=by
 have:=@ZAz P w K mg base A T;have nd:=ZA2.nd;refine ZX (d:=ZAJ) (r:=ZT) (n:=9) (by unfold ZT;rfl) rfl rfl T.fz14.fn ZA2 ?_;left
theorem ZHV{f:Addr}{fd:FuncData}(F:Fun K "law" "law" (top 23) f fd):FnOk P w K mg base CX0 4 f fd ["_law_script"] (spD K 1 ZCE):=by
 have:=@ZC8 P w K mg base A T;have:=@ZB4 P w K mg base A T;have:=@ZDE P w K mg base A T;have:=@ZBY P w K mg base A T;have:=@ZBo P w K mg base A T;have:=@ZCt P w K mg base A T;have nd:=ZH7.nd;refine ZX (d:=ZFF) (r:=ZCE) (n:=6) (by unfold ZCE;rfl) rfl rfl F ZH7 ?_;left
end
def ZEB(K:PySem.W.Frag):Sp:=λvs H Q _=>∃(a:Addr) (ns:List Int),vs=[.ref a]/\SqL K H a (ns.map V.int)/\ns.length<=63/\∀H',Q (.bl true) H'
theorem ZJG(T:Txt K mg A){f:Addr}{fd:FuncData}(F:Fun K "law" "law" (top 23) f fd):FnOk P w K mg base CX0 4 f fd ["_law_script"] (ZEB K):=ZJU (ZHV T F) λns hl=>ZJr hl
end
theorem all_mk{l:PySem.W.OpenLaw}{w:World}{K:PySem.W.Frag}{h:Heap}{mg:Str->Option Value}{fa:Addr}(X:K.In h)(G:h.Ns mainGlobals mg)(hfa:mg "law" = some (.ref fa))
  {f0:Addr}
  (a0:PySem.W.nsIn K mainGlobals "is_whole" = some (some (.ref f0)))
  (h0:ZAx K "is_whole" "is_whole" (top 1) f0)
  {f1:Addr}
  (a1:PySem.W.nsIn K mainGlobals "is_between" = some (some (.ref f1)))
  (h1:ZAx K "is_between" "is_between" (top 2) f1)
  {f2:Addr}
  (a2:PySem.W.nsIn K mainGlobals "is_tuple_of" = some (some (.ref f2)))
  (h2:ZAx K "is_tuple_of" "is_tuple_of" (top 3) f2)
  {f3:Addr}
  (a3:PySem.W.nsIn K mainGlobals "rises" = some (some (.ref f3)))
  (h3:ZAx K "rises" "rises" (top 4) f3)
  {f4:Addr}
  (a4:PySem.W.nsIn K mainGlobals "is_rules" = some (some (.ref f4)))
  (h4:ZAx K "is_rules" "is_rules" (top 11) f4)
  {f5:Addr}
  (a5:PySem.W.nsIn K mainGlobals "are_clauses" = some (some (.ref f5)))
  (h5:ZAx K "are_clauses" "are_clauses" (top 12) f5)
  {f6:Addr}
  (a6:PySem.W.nsIn K mainGlobals "is_clause" = some (some (.ref f6)))
  (h6:ZAx K "is_clause" "is_clause" (top 13) f6)
  {f7:Addr}
  (a7:PySem.W.nsIn K mainGlobals "_law_box" = some (some (.ref f7)))
  (h7:ZAx K "_law_box" "_law_box" (top 15) f7)
  {f8:Addr}
  (a8:PySem.W.nsIn K mainGlobals "_law_take" = some (some (.ref f8)))
  (h8:ZAx K "_law_take" "_law_take" (top 16) f8)
  {f9:Addr}
  (a9:PySem.W.nsIn K mainGlobals "_law_clauses" = some (some (.ref f9)))
  (h9:ZAx K "_law_clauses" "_law_clauses" (top 17) f9)
  {f10:Addr}
  (a10:PySem.W.nsIn K mainGlobals "_law_rules" = some (some (.ref f10)))
  (h10:ZAx K "_law_rules" "_law_rules" (top 18) f10)
  {f11:Addr}
  (a11:PySem.W.nsIn K mainGlobals "_law_whole" = some (some (.ref f11)))
  (h11:ZAx K "_law_whole" "_law_whole" (top 19) f11)
  {f12:Addr}
  (a12:PySem.W.nsIn K mainGlobals "_law_truth" = some (some (.ref f12)))
  (h12:ZAx K "_law_truth" "_law_truth" (top 20) f12)
  {f13:Addr}
  (a13:PySem.W.nsIn K mainGlobals "_law_due" = some (some (.ref f13)))
  (h13:ZAx K "_law_due" "_law_due" (top 21) f13)
  {f14:Addr}
  (a14:PySem.W.nsIn K mainGlobals "_law_spoilt" = some (some (.ref f14)))
  (h14:ZAx K "_law_spoilt" "_law_spoilt" (top 22) f14)
  {f15:Addr}{od15 an15:Option Addr}{sl15:Array (Option Value)}{oc15 kV15 dc15 pm15 cd15 ct15:Value}
  (a15:PySem.W.nsIn K mainGlobals "law" = some (some (.ref f15)))
  (l15:K.lookup f15=some ⟨oc15,od15,.func (PySem.W.fnOf "law" "law" (ZAa (top 23)) (Zv (top 23)) (ZF (top 23)) .none kV15 dc15 pm15 an15 cd15 ct15),sl15⟩)(c15:PySem.W.codeIn K cd15 "law" = true)(k15:PySem.W.keepIn K (.ref f15)=true)
  {gt0:Tok}(glob0:PySem.W.nsIn K mainGlobals "MOST_OTHERS" = some (some (.int 3 gt0)))
  {gt1:Tok}(glob1:PySem.W.nsIn K mainGlobals "MOST_WAIT" = some (some (.int 9 gt1)))
  {gt2:Tok}(glob2:PySem.W.nsIn K mainGlobals "MOST_TOLD" = some (some (.int 9 gt2)))
  {gt3:Tok}(glob3:PySem.W.nsIn K mainGlobals "MOST_CARRY" = some (some (.int 8 gt3)))
  {gta0:Addr}{gto0:Option Addr}{gtn_0:Nat}{gts0:Array (Option Value)}{gtk0_0:Tok}{gtk0_1:Tok}{gtk0_2:Tok}{gtk0_3:Tok}{gtk0_4:Tok}{gtk0_5:Tok}{gtk0_6:Tok}(gtn0:PySem.W.nsIn K mainGlobals "CLAUSES" = some (some (.ref gta0)))(gtl0:K.lookup gta0=some ⟨.type "tuple",gto0,.seq #[.str "about" gtk0_0,.str "again" gtk0_1,.str "newer" gtk0_2,.str "others" gtk0_3,.str "own" gtk0_4,.str "refute" gtk0_5,.str "wait" gtk0_6] gtn_0,gts0⟩)
  (z0:PySem.W.nsIn K mainGlobals "abs" = some none)
  (z1:PySem.W.nsIn K mainGlobals "all" = some none)
  (z2:PySem.W.nsIn K mainGlobals "bool" = some none)
  (z3:PySem.W.nsIn K mainGlobals "int" = some none)
  (z4:PySem.W.nsIn K mainGlobals "isinstance" = some none)
  (z5:PySem.W.nsIn K mainGlobals "len" = some none)
  (z6:PySem.W.nsIn K mainGlobals "list" = some none)
  (z7:PySem.W.nsIn K mainGlobals "min" = some none)
  (z8:PySem.W.nsIn K mainGlobals "range" = some none)
  (z9:PySem.W.nsIn K mainGlobals "str" = some none)
  (z10:PySem.W.nsIn K mainGlobals "tuple" = some none)
  (z11:PySem.W.nsIn K mainGlobals "zip" = some none)
  : ∃fd:FuncData,(∀(s:Shared) (v:Value),BindsTo s fd ⟨[v],[]⟩ [("_law_script",v)])/\∀base:Heap,K.In base->base.Ns mainGlobals mg->FnOk l.prog w K mg base CX0 4 fa fd ["_law_script"] (ZEB K):=by
 have e:=hfa.symm.trans (PySem.W.mg_of X G a15);cases e;obtain⟨_,F0⟩:=h0;have D0:Def K mg _ _ ZAf f0 _:=⟨PySem.W.mg_of X G a0,F0,F0.binds (by right)⟩;obtain⟨_,F1⟩:=h1;have D1:Def K mg _ _ Z7 f1 _:=⟨PySem.W.mg_of X G a1,F1,F1.binds (by right)⟩;obtain⟨_,F2⟩:=h2;have D2:Def K mg _ _ Zy f2 _:=⟨PySem.W.mg_of X G a2,F2,F2.binds (by right)⟩;obtain⟨_,F3⟩:=h3;have D3:Def K mg _ _ ZBf f3 _:=⟨PySem.W.mg_of X G a3,F3,F3.binds (by right)⟩;obtain⟨_,F4⟩:=h4;have D4:Def K mg _ _ ZAY f4 _:=⟨PySem.W.mg_of X G a4,F4,F4.binds (by right)⟩;obtain⟨_,F5⟩:=h5;have D5:Def K mg _ _ Zz f5 _:=⟨PySem.W.mg_of X G a5,F5,F5.binds (by right)⟩;obtain⟨_,F6⟩:=h6;have D6:Def K mg _ _ ZAG f6 _:=⟨PySem.W.mg_of X G a6,F6,F6.binds (by right)⟩;obtain⟨_,F7⟩:=h7;have D7:Def K mg _ _ ZAb f7 _:=⟨PySem.W.mg_of X G a7,F7,F7.binds (by right)⟩;obtain⟨_,F8⟩:=h8;have D8:Def K mg _ _ ZAI f8 _:=⟨PySem.W.mg_of X G a8,F8,F8.binds (by right)⟩;obtain⟨_,F9⟩:=h9;have D9:Def K mg _ _ Zo f9 _:=⟨PySem.W.mg_of X G a9,F9,F9.binds (by right)⟩;obtain⟨_,F10⟩:=h10;have D10:Def K mg _ _ Z8 f10 _:=⟨PySem.W.mg_of X G a10,F10,F10.binds (by right)⟩;obtain⟨_,F11⟩:=h11;have D11:Def K mg _ _ ZAA f11 _:=⟨PySem.W.mg_of X G a11,F11,F11.binds (by right)⟩;obtain⟨_,F12⟩:=h12;have D12:Def K mg _ _ Z9 f12 _:=⟨PySem.W.mg_of X G a12,F12,F12.binds (by right)⟩;obtain⟨_,F13⟩:=h13;have D13:Def K mg _ _ ZAd f13 _:=⟨PySem.W.mg_of X G a13,F13,F13.binds (by right)⟩;obtain⟨_,F14⟩:=h14;have D14:Def K mg _ _ Zw f14 _:=⟨PySem.W.mg_of X G a14,F14,F14.binds (by right)⟩;have F15:=ZFT (st:=(top 23)) l15 c15 k15;have T:Txt K mg ⟨f0,f1,f2,f3,f4,f5,f6,f7,f8,f9,f10,f11,f12,f13,f14,_,_,_,_,_,_,_,_,_,_,_,_,_,_,_⟩:=⟨PySem.W.mg_none_of X G z0,PySem.W.mg_none_of X G z1,PySem.W.mg_none_of X G z2,PySem.W.mg_none_of X G z3,PySem.W.mg_none_of X G z4,PySem.W.mg_none_of X G z5,PySem.W.mg_none_of X G z6,PySem.W.mg_none_of X G z7,PySem.W.mg_none_of X G z8,PySem.W.mg_none_of X G z9,PySem.W.mg_none_of X G z10,PySem.W.mg_none_of X G z11,⟨_,PySem.W.mg_of X G glob0⟩,⟨_,PySem.W.mg_of X G glob1⟩,⟨_,PySem.W.mg_of X G glob2⟩,⟨_,PySem.W.mg_of X G glob3⟩,⟨_,PySem.W.mg_of X G gtn0,⟨_,_,_,gtl0,rfl,rfl,by show 7<=sizeLine;decide,(.cons ⟨_,rfl⟩ (.cons ⟨_,rfl⟩ (.cons ⟨_,rfl⟩ (.cons ⟨_,rfl⟩ (.cons ⟨_,rfl⟩ (.cons ⟨_,rfl⟩ (.cons ⟨_,rfl⟩ .nil)))))))⟩⟩,D0,D1,D2,D3,D4,D5,D6,D7,D8,D9,D10,D11,D12,D13,D14⟩;exact⟨PySem.W.fnOf "law" "law" (ZAa (top 23)) (Zv (top 23)) (ZF (top 23)) .none kV15 dc15 pm15 an15 cd15 ct15,λs v=>.of_eq rfl,λbase _ _=>ZJG T F15⟩
theorem walk{l:PySem.W.OpenLaw}{q:Program}{loose:List Str}{XP:(Str->Option Value)->Heap->Prop}{YP:World->Heap->Prop}{d:DefRec}{K:Params->PySem.W.Frag}(hn:l.most=some 63)(hdf:d.params.defaults=[])
  (hY:∀(w:World) (h:Heap),YP w h->(K w.params).In h)
  (F:∀ (w:World) (mg:Str->Option Value) (fa:Addr) (h:Heap),(K w.params).In h->h.Ns mainGlobals mg->mg d.name=some (.ref fa) ->
   ∃fd:FuncData,(∀(s:Shared) (u:Value),BindsTo s fd ⟨[u],[]⟩ [("_law_script",u)])/\∀base:Heap,(K w.params).In base->base.Ns mainGlobals mg->FnOk l.prog w (K w.params) mg base CX0 4 fa fd ["_law_script"] (ZEB (K w.params))) :
  PySem.W.WalkO q loose XP YP l.row.toRowW d [] (λf vs=>PySem.call f vs) :=
 L2.walk_of (n:=63) (k:=4) (x:="_law_script") (CX:=λ_=>CX0) (sp:=λw=>ZEB (K w.params)) hn (by decide) hdf ⟨rfl,by decide,by decide,rfl⟩ hY F (λ_ _ a ns hl _ hS=>⟨a,ns,rfl,hS,hl,λ_=>rfl⟩) λ_ _ _ _ _ z=>z
end K08
end
open PySem PySem.W PyProof.Rows
local macro_rules
 | `(tactic| and_intros) => `(tactic| (refine' L2.fnAt_mk ?l ?c ?k; (case l => k_is); (case c => k_is); (case k => k_is)))
set_option maxRecDepth 100000 in
set_option maxHeartbeats 0 in
theorem PySem.Challenge.cw_hearsaybook_k08_what_rules_are_holds : PySem.Challenge.rw_hearsaybook_k08_what_rules_are.Holds := by
 w_on; o_law; k_head; (case hw=>w_witness2)
 k_fill
 refine K08.walk (l:=PySem.Challenge.rw_hearsaybook_k08_what_rules_are) rfl rfl (λ w h Y=>PySem.W.kIn_of Y) ?F
 case F =>
  intro w mg fa h KX G hmg;refine' K08.all_mk KX G hmg ?a0 ?h0 ?a1 ?h1 ?a2 ?h2 ?a3 ?h3 ?a4 ?h4 ?a5 ?h5 ?a6 ?h6 ?a7 ?h7 ?a8 ?h8 ?a9 ?h9 ?a10 ?h10 ?a11 ?h11 ?a12 ?h12 ?a13 ?h13 ?a14 ?h14 ?a15 ?l15 ?c15 ?k15 ?glob0 ?glob1 ?glob2 ?glob3 ?gtn0 ?gtl0 ?z0 ?z1 ?z2 ?z3 ?z4 ?z5 ?z6 ?z7 ?z8 ?z9 ?z10 ?z11
  (case a0=>k_is)
  (case h0=>and_intros)
  (case a1=>k_is)
  (case h1=>and_intros)
  (case a2=>k_is)
  (case h2=>and_intros)
  (case a3=>k_is)
  (case h3=>and_intros)
  (case a4=>k_is)
  (case h4=>and_intros)
  (case a5=>k_is)
  (case h5=>and_intros)
  (case a6=>k_is)
  (case h6=>and_intros)
  (case a7=>k_is)
  (case h7=>and_intros)
  (case a8=>k_is)
  (case h8=>and_intros)
  (case a9=>k_is)
  (case h9=>and_intros)
  (case a10=>k_is)
  (case h10=>and_intros)
  (case a11=>k_is)
  (case h11=>and_intros)
  (case a12=>k_is)
  (case h12=>and_intros)
  (case a13=>k_is)
  (case h13=>and_intros)
  (case a14=>k_is)
  (case h14=>and_intros)
  (case a15=>k_is)
  (case l15=>k_is)
  (case c15=>k_is)
  (case k15=>k_is)
  (case glob0=>k_is)
  (case glob1=>k_is)
  (case glob2=>k_is)
  (case glob3=>k_is)
  (case gtn0=>k_is)
  (case gtl0=>k_is)
  (case z0=>k_is)
  (case z1=>k_is)
  (case z2=>k_is)
  (case z3=>k_is)
  (case z4=>k_is)
  (case z5=>k_is)
  (case z6=>k_is)
  (case z7=>k_is)
  (case z8=>k_is)
  (case z9=>k_is)
  (case z10=>k_is)
  (case z11=>k_is)
